import PyProof.Rows.All
import Wide.All
import OpenK.AllK
import Wide.FinOn
import Lean
import PyProof.EqAt
import PyProof.EqKinds
import PyProof.TupleCall
import PyProof.FactsAll.set
import PyProof.DictWalks
import PyProof.CollectWalk
import PyProof.Rows.SetFrom
import PyProof.Rows.SortWalk
import PyProof.TupleKey
import PyProof.DictFindH
import PyProof.DictItems
import PyProof.P3Eq
import PyProof.Rows.SortStr
import PyProof.WalksMore
import PyProof.Rows.MinMaxN
import PyProof.StrCalls2
import PyProof.FString5
import KE.LcSums
import KE.KDictSum
import PyProof.DictCompW
import PyProof.NeKinds
import KE.KEqDict
import KE.KPairComp
import KE.KDictOf
import PyProof.AttrMissHeap
import PySem.Challenge.RW_hourstairs_k53_texts_of_nets
open PySem PySem.Spec
open PyProof.Rows hiding K st lo ad
set_option Elab.async false
set_option linter.all false
set_option maxRecDepth 100000
set_option maxHeartbeats 4000000
set_option genSizeOf false
set_option compiler.extract_closed false
set_option genSizeOfSpec false
abbrev KA:=@PySem.wpAny_bind
abbrev KB:=@PySem.Heap.get?_push_of_some
abbrev KC:=@PySem.wpAny_pure
abbrev KD:=@Bool.false_ne_true
abbrev KF:=@Nat.le_refl
abbrev KG:=@List.map_cons
abbrev KH:=@List.length_map
abbrev KI:=@PySem.Heap.get?_push_size
abbrev KJ:=@List.mem_of_getElem?
abbrev KL:=@List.mem_cons_of_mem
abbrev KM:=@List.getElem?_map
abbrev KN:=@List.length_append
abbrev KO:=@PySem.Heap.lt_size
abbrev KP:=@List.mem_cons_self
abbrev KQ:=@List.nodup_cons
abbrev KR:=@List.getElem?_eq_some_iff
abbrev KS:=@if_neg
abbrev KU:=@List.getElem?_eq_getElem
abbrev KW:=@Bool.and_eq_true
abbrev KY:=@Nat.lt_of_lt_of_le
abbrev KZ:=@if_pos
abbrev K0:=@List.mem_map
abbrev K1:=@List.getElem?_set_self
abbrev K2:=@List.size_toArray
abbrev K3:=@List.getElem?_append_left
abbrev K4:=@Option.map_eq_some_iff
abbrev K5:=@List.getElem?_set_ne
abbrev K6:=@Nat.ne_of_lt
abbrev K7:=@List.mem_append
abbrev K8:=@List.getElem?_append_right
abbrev K9:=@List.mem_singleton
abbrev K_:=@Nat.le_trans
abbrev LA:=@List.map_append
abbrev LC:=@List.mem_cons
abbrev LF:=@List.map_map
abbrev LG:=@congrArg
abbrev LH:=@decide_eq_true
abbrev LI:=@List.length_cons
abbrev LJ:=@decide_eq_false
abbrev LL:=@Option.some.inj
abbrev LM:=@List.mem_append_right
abbrev LO:=@List.getElem?_eq_none
abbrev LP:=@PySem.W.mg_none_of
abbrev LR:=@List.take_length
abbrev LS:=@List.take_add_one
abbrev LU:=@Nat.zero_le
abbrev LV:=@PySem.F.slot_dict_itemiterator_next
abbrev LW:=@List.map_nil
abbrev LX:=@List.filterMap_cons
abbrev LY:=@Nat.le_of_lt
abbrev LZ:=@PySem.F.plainAttrs_list
abbrev L1:=@List.getD_eq_getElem?_getD
abbrev L3:=@PySem.wpAny_holding
abbrev L4:=@List.take_of_length_le
abbrev L5:=@PySem.mem_of_lookup
abbrev L6:=@List.any_cons
abbrev L7:=@PySem.Heap.get?_update_other
abbrev L8:=@List.nodup_append
abbrev L9:=@PyProof.Rows.slot_tuple_getitem
abbrev L_:=@PySem.Heap.get?_update_self
abbrev MA:=@Nat.lt_irrefl
abbrev MB:=@List.mem_of_mem_take
abbrev MC:=@PySem.W.kia_one
abbrev MD:=@List.append_assoc
abbrev ME:=@Nat.ne_of_gt
abbrev MF:=@PyProof.Rows.callWith_type1
abbrev MG:=@PySem.F.plainAttrs_str
abbrev MH:=@PySem.StrLaws.strSub_toList
abbrev MI:=@List.length_take
abbrev MJ:=@Nat.lt_of_le_of_lt
abbrev MK:=@PySem.F.slot_tuple_iterator_next
abbrev ML:=@List.forIn_cons
abbrev MM:=@of_decide_eq_true
abbrev MN:=@Nat.mul_le_mul_right
abbrev MP:=@List.getElem?_take_of_lt
abbrev MQ:=@List.length_filterMap_le
abbrev MR:=@PySem.F.args_dict_itemiterator_next_1
abbrev MS:=@Array.length_toList
abbrev MT:=@PySem.F.plain_extend_loop
abbrev MU:=@List.map_congr_left
abbrev MV:=@PySem.Heap.size_push
abbrev MW:=@PySem.F.entry_dict_itemiterator_next
abbrev MX:=@List.drop_zero
abbrev MY:=@PySem.StrLaws.found_one
abbrev MZ:=@Bool.or_eq_true
abbrev M0:=@Int.toNat_natCast
abbrev M1:=@Array.mem_toList_iff
abbrev M3:=@Nat.pow_le_pow_right
abbrev M4:=@Nat.zero_lt_succ
abbrev M5:=@Nat.le_add_right
abbrev M6:=@PySem.F.args_tuple_add_2
abbrev M7:=@List.all_cons
abbrev M8:=@PyProof.noPylong_of_log2
abbrev M9:=@List.append_nil
abbrev M_:=@List.length_set
abbrev NA:=@List.pairwise_cons
abbrev NB:=@PySem.F.entry_tuple_add
abbrev NC:=@List.length_eq_zero_iff
abbrev ND:=@PySem.F.slot_dict_items
abbrev NF:=@PySem.F.plainAttrs_dict
abbrev NG:=@PySem.F.slot_tuple_add
abbrev NH:=@Nat.lt_trans
abbrev NJ:=@List.pairwise_map
abbrev NK:=@Nat.gcd_comm
abbrev NL:=@Array.getElem?_toList
abbrev NM:=@List.set_append_right
abbrev NN:=@List.length_drop
abbrev NO:=@List.prefix_refl
abbrev NP:=@List.any_eq_true
abbrev NQ:=@PySem.W.mg_of
abbrev NR:=@Nat.log2_lt
abbrev NT:=@Bool.eq_iff_iff
abbrev NU:=@PySem.F.slot_zip_next
abbrev NV:=@Int.natCast_mul
abbrev NW:=@List.getElem?_range
abbrev NX:=@PySem.Heap.SameBut.update
abbrev NY:=@List.mem_filterMap
abbrev NZ:=@List.prefix_append
abbrev N0:=@List.take_left
abbrev N1:=@PySem.F.args_str_split_2
abbrev N3:=@Int.emod_lt_of_pos
abbrev N5:=@List.getElem?_drop
abbrev N6:=@PySem.Value.isInt_shape
abbrev N7:=@PySem.F.entry_str_split
abbrev N8:=@List.map_fst_zip
abbrev N9:=@List.map_snd_zip
abbrev N_:=@Array.toList_inj
abbrev OA:=@Nat.lt_succ_self
abbrev OB:=@PySem.F.slot_str_split
abbrev OC:=@List.getElem_mem
abbrev OD:=@Int.natCast_ediv
abbrev OE:=@Nat.sub_self
abbrev OF:=@Nat.mul_comm
abbrev OG:=@List.mem_filter
abbrev OH:=@List.of_mem_zip
abbrev OI:=@Int.natCast_pow
abbrev OJ:=@List.cons.injEq
abbrev OL:=@Nat.min_eq_left
abbrev OM:=@Int.ediv_nonneg
abbrev ON:=@List.head?_drop
abbrev OO:=@Nat.div_le_self
abbrev OP:=@Int.emod_nonneg
abbrev OR:=@PySem.W.kitx_dict
abbrev OS:=@List.nodup_nil
abbrev OT:=@List.tail_drop
abbrev OU:=@List.take_zero
abbrev OV:=@beq_iff_eq
abbrev OW:=@Nat.mod_lt
abbrev OX:=@Int.le_of_lt
abbrev OY:=@Sum.inr.inj
abbrev OZ:=@PySem.W.kitx_list
abbrev O0:=@Nat.add_mul
abbrev O1:=@Iff.rfl
namespace L2
noncomputable abbrev Key:=Sum Int Str
noncomputable def oo:Key->Value->Bool
 | .inl k,v=>Value.isInt k v
 | .inr x,v=>Value.isStrOf x v
noncomputable def J7 (w:World):Key->Int
 | .inl k=>hashInt k
 | .inr x=>hashStr w x
theorem aS:∀ {k:Key}{v:Value},oo k v=true->(∃i t,k=Sum.inl i/\v=Value.int i t)\/(∃x t,k=Sum.inr x/\v=Value.str x t)
 | .inl i,v,h=>by obtain⟨t,e⟩:=N6 (k:=i) (v:=v) h;exact .inl ⟨i,t,rfl,e⟩
 | .inr x,v,h=>by obtain⟨t,e⟩:=Value.isStrOf_shape (x:=x) (v:=v) h;exact .inr ⟨x,t,rfl,e⟩
theorem wU (i:Int)(t:Tok):oo (.inl i) (.int i t)=true:=by simp[oo,Value.isInt]
theorem wY (x:Str)(t:Tok):oo (.inr x) (.str x t)=true:=by simp[oo,Value.isStrOf]
theorem Fs (a b:Int):decide ((Sum.inl a:Key)=Sum.inl b)=(a == b):=by
 by_cases e:a=b
 ·subst e;simp
 ·have h:¬(Sum.inl a:Key)=Sum.inl b:=fun q=>e (Sum.inl.inj q);rw[LJ h];exact(beq_eq_false_iff_ne.mpr e).symm
theorem GG (a b:Str):decide ((Sum.inr a:Key)=Sum.inr b)=decide (a=b):=by
 by_cases e:a=b
 ·subst e;simp
 ·have h:¬(Sum.inr a:Key)=Sum.inr b:=fun q=>e (OY q);rw[LJ h,LJ e]
theorem GM (a:Int)(b:Str):decide ((Sum.inl a:Key)=Sum.inr b)=false:=LJ (fun q=>nomatch q)
theorem Gw (a:Str)(b:Int):decide ((Sum.inr a:Key)=Sum.inl b)=false:=LJ (fun q=>nomatch q)
noncomputable def aV (prog:Program)(w:World):PySem.KeyKind prog w Key where
 is:=oo
 hash:=J7 w
 inj:=fun v a b ha hb=>by
  rcases aS ha with⟨i,t,rfl,rfl⟩|⟨x,t,rfl,rfl⟩
  ·rcases aS hb with⟨j,u,rfl,e⟩|⟨y,u,rfl,e⟩
   ·injection e with e1 _;rw[e1]
   ·exact nomatch e
  ·rcases aS hb with⟨j,u,rfl,e⟩|⟨y,u,rfl,e⟩
   ·exact nomatch e
   ·injection e with e1 _;rw[e1]
 byValue:=fun k v h=>by rcases aS h with⟨i,t,rfl,rfl⟩|⟨x,t,rfl,rfl⟩ <;> rfl
 pyHash:=fun hv h=>by
  rcases aS hv with⟨i,t,rfl,rfl⟩|⟨x,t,rfl,rfl⟩
  ·exact wpAny_pyHash_int h
  ·exact wpAny_pyHash_str h
 eqBool:=fun hu hv h=>by
  rcases aS hu with⟨i,t,rfl,rfl⟩|⟨x,t,rfl,rfl⟩
  ·rcases aS hv with⟨j,u,rfl,rfl⟩|⟨y,u,rfl,rfl⟩
   ·rw[Fs] at h;exact wpAny_eqBool_int h
   ·rw[GM] at h;exact SeqAt.EqAt.int_str i t y u _ _ _ _ h
  ·rcases aS hv with⟨j,u,rfl,rfl⟩|⟨y,u,rfl,rfl⟩
   ·rw[Gw] at h;exact SeqAt.EqAt.str_int x t j u _ _ _ _ h
   ·rw[GG] at h;exact wpAny_eqBool_str h
 «strs»:=fun k x t v h=>by
  rcases aS h with⟨i,u,rfl,e⟩|⟨y,u,rfl,e⟩
  ·exact nomatch e
  ·injection e with e1 _
   subst e1;cases v <;> rfl
theorem sg (prog:Program)(w:World)(i:Int)(t:Tok):(aV prog w).is (.inl i) (.int i t)=true:=wU i t
theorem sP (prog:Program)(w:World)(x:Str)(t:Tok):(aV prog w).is (.inr x) (.str x t)=true:=wY x t
end L2
namespace L2
inductive V where
 | non|bl (b:Bool)|int (i:Int)|str (x:Str)|byt (b:Array UInt8)|flt (b:UInt64)|ref (a:Addr)|ty (n:String)
 deriving DecidableEq
noncomputable def RelV:V->Value->Prop
 | .non,u=>u=Value.none
 | .bl b,u=>u=Value.bool b
 | .int i,u=>∃t,u=Value.int i t
 | .str x,u=>∃t,u=Value.str x t
 | .byt b,u=>∃t,u=Value.bytes b t
 | .flt b,u=>∃t,u=Value.float b t
 | .ref a,u=>u=Value.ref a
 | .ty n,u=>u=Value.type n
noncomputable abbrev Vals:List V->List Value->Prop:=Paired RelV
theorem Vals.length (r:Vals xs us):xs.length=us.length:=Paired.length r
theorem Vals.get:∀ {xs:List V}{us:List Value}{i:Nat}{x:V},Vals xs us->xs[i]?=some x->∃u,us[i]?=some u/\RelV x u
 | _,_,_,_,.nil,e=>by simp at e
 | _,_,0,_,.cons r _,e=>by simp at e;subst e;exact⟨_,rfl,r⟩
 | _,_,i+1,x,.cons _ t,e=>by obtain⟨u,h1,h2⟩:=Vals.get (i:=i) (x:=x) t (by simpa using e);exact⟨u,by simpa using h1,h2⟩
theorem Vals.set (r:RelV x u):∀ {xs:List V}{us:List Value} (i:Nat),Vals xs us->Vals (xs.set i x) (us.set i u)
 | _,_,_,.nil=>.nil
 | _,_,0,.cons _ t=>.cons r t
 | _,_,i+1,.cons q t=>.cons q (Vals.set r i t)
theorem Vals.append:∀ {xs ys:List V}{us ws:List Value},Vals xs us->Vals ys ws->Vals (xs++ys) (us++ws)
 | _,_,_,_,.nil,s=>s
 | _,_,_,_,.cons r t,s=>.cons r (Vals.append t s)
theorem Vals.take:∀ {xs:List V}{us:List Value} (n:Nat),Vals xs us->Vals (xs.take n) (us.take n)
 | _,_,0,_=>.nil
 | _,_,_+1,.nil=>.nil
 | _,_,n+1,.cons r t=>.cons r (Vals.take n t)
theorem Vals.drop:∀ {xs:List V}{us:List Value} (n:Nat),Vals xs us->Vals (xs.drop n) (us.drop n)
 | _,_,0,r=>r
 | _,_,_+1,.nil=>.nil
 | _,_,n+1,.cons _ t=>Vals.drop n t
noncomputable def RelO:Option V->Option Value->Prop
 | some v,some u=>RelV v u
 | none,none=>True
 | _,_=>False
noncomputable def KV {κ:Type}:List (κ × V)->List (κ × Value)->Prop:=Paired fun (p:κ × V) (q:κ × Value)=>p.1=q.1/\RelV p.2 q.2
noncomputable def kV:Key->V
 | .inl i=>.int i
 | .inr x=>.str x
set_option genInjectivity false
inductive HO where
 | lst (xs:List V)
 | tup (xs:List V)
 | dK (kvs:List (Key × V))|dT (kvs:List (List Key × V))
 | set (S:Int->Bool) (n:Nat)
 | ins (C dx:Addr) (fs:List (Str × V))
 | own (x:Addr)
 | xd (fs:List (Str × V))
 | met (f x:Addr)
 | rng (lo hi:Int)
 | frz (o:Obj) (u:HO)
 | tbl (ps:Array Value)
 | ext (φ:Heap->Prop)
noncomputable abbrev Hp:=Addr->Option HO
noncomputable def upd (H:Hp)(a:Addr)(o:HO):Hp:=fun b=>if b=a then some o else H b
theorem ax:upd H a o a=some o:=by unfold upd;rw[KZ rfl]
theorem af {a b:Addr}(h:b≠a):upd H a o b=H b:=by unfold upd;rw[KS h]
theorem IM {H:Hp}(h:H a=some o)(h':H b=some u)(d:o≠u):a≠b:=by intro e;subst e;rw[h] at h';exact d (LL h')
theorem ar {H:Hp}(h:H a=some o)(h':H b=none):a≠b:=by intro e;subst e;rw[h] at h';cases h'
section
variable (P:Program) (w:World)
noncomputable def ObjOk (H:Hp)(h:Heap)(a:Addr):HO->Prop
 | .lst xs=>xs.length<=sizeLine/\∃(its:List Value) (n:Nat),Vals xs its/\h.get? a=some { cls:=.type "list",data:=.seq its.toArray n }
 | .tup xs=>xs.length<=sizeLine/\∃its:List Value,Vals xs its/\IsTup h a its.toArray
 | .dK kvs=>kvs.length<=sizeLine/\(a == sysModules)=false/\∃vs,KV kvs vs/\h.DictOf (aV P w) a vs
 | .dT kvs=>kvs.length<=sizeLine/\(a == sysModules)=false/\∃xs:List (List Key × Addr × Value),
   Paired (fun (p:List Key × V) (q:List Key × Addr × Value)=>p.1=q.1/\H q.2.1=some (.tup (p.1.map kV))/\RelV p.2 q.2.2) kvs xs /\
   ∃o es ep,h.get? a=some o/\o.ExactDict/\o.data=.dict es ep/\es.toList=xs.map (entryOfKey (tupleKind (aV P w)))/\(xs.map (·.1)).Nodup
 | .set S n=>h.SetOf (intKind P w) a S n
 | .ins C dx fs=>H dx=some (.own a)/\fs.length<=1000/\dx≠a/\h.get? a=some (W.instObj C dx) /\
   ∃mA,h.Ns1 dx mA/\(∀f,RelO (fs.lookup f) (mA f))/\PySem.Within mA (fs.map (·.1))
 | .own _=>∃o,h.get? a=some o
 | .xd fs=>∃mA,h.Ns1 a mA/\∀f,RelO (fs.lookup f) (mA f)
 | .rng lo hi=>∃t u v,h.get? a=some { cls:=.type "range",data:=.fields #[.int lo t,.int hi u,.int 1 v] }
 | .frz o u=>h.get? a=some o/\ObjOk H h a u
 | .tbl ps=>h.get? a=some { cls:=.none,data:=.fields ps }
 | .met f x=>h.get? a=some (W.methodObj (.ref f) (.ref x))
 | .ext φ=>φ h/\(∃o,h.get? a=some o)/\∀h1 h2:Heap,φ h1->(∀o,h1.get? a=some o->h2.get? a=some o)->φ h2
def HOk (H:Hp)(h:Heap):Prop:=∀a o,H a=some o->ObjOk P w H h a o
end
section
variable {P:Program}{w:World}{H H':Hp}{h h':Heap}{a:Addr}{o:HO}
theorem ObjOk.lt (x:ObjOk P w H h a o):a<h.objs.size:=by
 cases o with
 | lst xs=>obtain⟨_,_,_,_,e⟩:=x;exact KO e
 | tup xs=>obtain⟨_,_,_,p⟩:=x;exact p.lt
 | dK kvs=>obtain⟨_,_,_,_,o,_,_,e,_⟩:=x;exact KO e
 | dT kvs=>obtain⟨_,_,_,_,o,_,_,e,_⟩:=x;exact KO e
 | set S n=>obtain⟨o,_,_,_,e,_⟩:=x;exact KO e
 | ins C dx fs=>obtain⟨_,_,_,e,_⟩:=x;exact KO e
 | own y=>obtain⟨_,e⟩:=x;exact KO e
 | xd fs=>obtain⟨_,⟨_,_,_,e,_⟩,_⟩:=x;exact KO e
 | rng lo hi=>obtain⟨_,_,_,e⟩:=x;exact KO e
 | frz ob u=>obtain⟨e,_⟩:=x;exact KO e
 | tbl ps=>exact KO (show h.get? a=some _ from x)
 | met f y=>exact KO (show h.get? a=some _ from x)
 | ext φ=>obtain⟨_,⟨_,e⟩,_⟩:=x;exact KO e
theorem Paired.mapP {α β:Type}{F G:α->β->Prop}:∀ {l₁:List α}{l₂:List β},Paired F l₁ l₂->(∀a b,F a b->G a b)->Paired G l₁ l₂
 | _,_,.nil,_=>.nil
 | _,_,.cons r t,f=>.cons (f _ _ r) (Paired.mapP t f)
theorem ObjOk.stay (x:ObjOk P w H h a o)(k:∀b u,(b=a\/H b=some (.own a))->h.get? b=some u->h'.get? b=some u)
  (ho:∀b,H b=some (.own a)->H' b=some (.own a)) (ht:∀b xs,H b=some (.tup xs)->H' b=some (.tup xs)):ObjOk P w H' h' a o:=by
 induction o with
 | lst xs=>obtain⟨z,its,n,r,e⟩:=x;exact⟨z,its,n,r,k _ _ (.inl rfl) e⟩
 | tup xs=>obtain⟨z,its,r,ob,e,c⟩:=x;exact⟨z,its,r,ob,k _ _ (.inl rfl) e,c⟩
 | dK kvs=>obtain⟨z,y,vs,r,ob,es,ep,e,c⟩:=x;exact⟨z,y,vs,r,ob,es,ep,k _ _ (.inl rfl) e,c⟩
 | dT kvs =>obtain⟨z,y,xs,r,ob,es,ep,e,c⟩:=x;exact⟨z,y,xs,Paired.mapP r fun p q z=>⟨z.1,ht _ _ z.2.1,z.2.2⟩,ob,es,ep,k _ _ (.inl rfl) e,c⟩
 | set S n=>obtain⟨ob,es,ep,t,e,c⟩:=x;exact⟨ob,es,ep,t,k _ _ (.inl rfl) e,c⟩
 | ins C dx fs =>obtain⟨d,z,ne,e,mA,⟨od,es,ep,e2,c⟩,r⟩:=x;exact⟨ho _ d,z,ne,k _ _ (.inl rfl) e,mA,⟨od,es,ep,k _ _ (.inr d) e2,c⟩,r⟩
 | own y=>obtain⟨ob,e⟩:=x;exact⟨ob,k _ _ (.inl rfl) e⟩
 | xd fs=>obtain⟨mA,⟨od,es,ep,e,c⟩,r⟩:=x;exact⟨mA,⟨od,es,ep,k _ _ (.inl rfl) e,c⟩,r⟩
 | rng lo hi=>obtain⟨t,u,v,e⟩:=x;exact⟨t,u,v,k _ _ (.inl rfl) e⟩
 | frz ob u ih=>obtain⟨e,q⟩:=x;exact⟨k _ _ (.inl rfl) e,ih q⟩
 | tbl ps =>have e:h.get? a=some { cls:=.none,data:=.fields ps }:=x;show h'.get? a=some { cls:=.none,data:=.fields ps };exact k a _ (.inl rfl) e
 | met f y =>have e:h.get? a=some (W.methodObj (.ref f) (.ref y)):=x;show h'.get? a=some (W.methodObj (.ref f) (.ref y));exact k a _ (.inl rfl) e
 | ext φ=>obtain⟨p,⟨o,e⟩,st⟩:=x;exact⟨st _ _ p fun o q=>k _ _ (.inl rfl) q,⟨o,k _ _ (.inl rfl) e⟩,st⟩
theorem HOk.lt (x:HOk P w H h)(e:H a=some o):a<h.objs.size:=(x a o e).lt
theorem HOk.fresh (x:HOk P w H h)(e:h.objs.size<=a):H a=none:=by
 cases q:H a with
 | none=>rfl
 | some u=>exact absurd (KY (x.lt q) e) (MA _)
theorem HOk.kept (x:HOk P w H h)(k:∀b u,h.get? b=some u->h'.get? b=some u):HOk P w H h':=fun a o e =>
 (x a o e).stay (fun b u _ q=>k b u q) (fun _ q=>q) fun _ _ q=>q
theorem HOk.laid (x:HOk P w H h)(k:∀b u,h.get? b=some u->h'.get? b=some u)(hp:h.objs.size<=a)(new:ObjOk P w (upd H a o) h' a o):HOk P w (upd H a o) h':=fun b u e=>by
 have hn:=x.fresh hp;by_cases hb:b=a
 ·subst hb;rw[ax] at e;cases e;exact new
 ·rw[af hb] at e;exact(x b u e).stay (fun c v _ q=>k c v q) (fun c q=>by rw[af (ar q hn)];exact q) fun c xs q=>by rw[af (ar q hn)];exact q
end
def Rd (H:Hp)(a:Addr)(u:HO):Prop:=H a=some u\/∃o,H a=some (.frz o u)
theorem Rd.ok (r:Rd H a u)(x:HOk P w H h):ObjOk P w H h a u:=by
 rcases r with r|⟨o,r⟩
 ·exact x a u r
 ·obtain⟨_,q⟩:=x a _ r;exact q
noncomputable def Mut:Option HO->Prop
 | some (.lst _)=>True
 | some (.dK _)=>True
 | some (.dT _)=>True
 | some (.set _ _)=>True
 | some (.ins _ _ _)=>True
 | some (.ext _)=>True
 | _=>False
section
variable {P:Program}{w:World}{H:Hp}{h h':Heap}{x e:Addr}{o':HO}
theorem HOk.write (ok:HOk P w H h)(mu:Mut (H x))(he:e=x\/H e=some (.own x))(k:∀b u,b≠e->h.get? b=some u->h'.get? b=some u)(heo:∃u,h'.get? e=some u)
  (new:ObjOk P w (upd H x o') h' x o'):HOk P w (upd H x o') h':=fun b u q=>by
 have nown:∀c y,H c=some (.own y)->c≠x:=fun c y r z=>by subst z;rw[r] at mu;exact mu
 have ntup:∀c xs,H c=some (.tup xs)->c≠x:=fun c xs r z=>by subst z;rw[r] at mu;exact mu
 by_cases hb:b=x
 ·subst hb;rw[ax] at q;cases q;exact new
 ·rw[af hb] at q;by_cases hbe:b=e
  ·have q':H b=some (.own x):=by
    rcases he with z|z
    ·exact absurd (hbe.trans z) hb
    ·rw[hbe];exact z
   rw[q] at q';cases q';obtain⟨v,hv⟩:=heo;exact⟨v,by rw[hbe];exact hv⟩
  ·refine(ok b u q).stay (fun c v hc r=>k c v ?_ r) (fun c r=>by rw[af (nown c b r)];exact r) fun c xs r=>by rw[af (ntup c xs r)];exact r
   rcases hc with rfl|hc
   ·exact hbe
   ·rintro rfl;rcases he with z|z
    ·exact nown c b hc z
    ·rw[hc] at z;cases z;exact hb rfl
end
set_option genCtorIdx false
structure Un (fs ex:List Addr)(H H':Hp)(h h':Heap):Prop where
 keep:∀b o,h.get? b=some o->H b=none->b ∉ fs->b ∉ ex->h'.get? b=some o
 slot:∀b o,h.get? b=some o->H b=none->b∈fs->b ∉ ex->∃sl,h'.get? b=some { o with slots:=sl }
 free:∀b o,h.get? b=some o->H b=none->b ∉ ex->H' b=none
 there:∀b o,h.get? b=some o->b ∉ ex->∃o',h'.get? b=some o'
 tups:∀b xs,H b=some (.tup xs)->H' b=some (.tup xs)
 frzs:∀b o u,H b=some (.frz o u)->H' b=some (.frz o u)
 tbls:∀b ps,H b=some (.tbl ps)->∃more,H' b=some (.tbl (ps++more))
section
variable {fs fs' ex ex':List Addr}{H H1 H2:Hp}{h h1 h2 h':Heap}{a x e:Addr}{o:HO}
theorem Un.any (u:Un fs ex H H1 h h1)(q:h.get? b=some ob)(n:H b=none)(hx:b ∉ ex):∃sl,h1.get? b=some { ob with slots:=sl }:=by
 by_cases hb:b∈fs
 ·exact u.slot b ob q n hb hx
 ·exact⟨ob.slots,u.keep b ob q n hb hx⟩
theorem Un.kept (k:∀b u,h.get? b=some u->h'.get? b=some u):Un fs ex H H h h' :=
 ⟨fun b ob q _ _ _=>k b ob q,fun b ob q _ _ _=>⟨ob.slots,k b ob q⟩,fun _ _ _ n _=>n,fun b ob q _=>⟨ob,k b ob q⟩,fun _ _ q=>q,fun _ _ _ q=>q,fun _ ps q=>⟨#[],by rw[q];simp⟩⟩
theorem Un.refl:Un fs ex H H h h:=Un.kept fun _ _ q=>q
theorem Un.laid (k:∀b u,h.get? b=some u->h'.get? b=some u)(hp:h.objs.size<=a)(hn:H a=none):Un fs ex H (upd H a o) h h' where
 keep:=fun b u q _ _ _=>k b u q
 slot:=fun b u q _ _ _=>⟨u.slots,k b u q⟩
 free:=fun b u q n _=>by rw[af (K6 (KY (KO q) hp))];exact n
 there:=fun b u q _=>⟨u,k b u q⟩
 tups:=fun b xs q=>by rw[af (ar q hn)];exact q
 frzs:=fun b u xs q=>by rw[af (ar q hn)];exact q
 tbls:=fun b ps q=>⟨#[],by rw[af (ar q hn),q];simp⟩
theorem Un.write (mu:Mut (H x))(he:e=x\/H e=some (.own x))(k:∀b u,b≠e->h.get? b=some u->h'.get? b=some u)(heo:∃u,h'.get? e=some u):Un fs ex H (upd H x o) h h':=by
 have hx:∀b,H b=none->b≠x:=fun b n z=>by subst z;rw[n] at mu;exact mu
 have hb:∀b,H b=none->b≠e:=fun b n z=>by
  subst z;rcases he with r|r
  ·exact hx b n r
  ·rw[n] at r;cases r
 have hm:∀b u,H b=some u->¬Mut (some u)->b≠x:=fun b u q nm z=>by subst z;rw[q] at mu;exact nm mu
 refine⟨fun b u q n _ _=>k b u (hb b n) q,fun b u q n _ _=>⟨u.slots,k b u (hb b n) q⟩,fun b u q n _=>by rw[af (hx b n)];exact n,fun b u q _=>?_,
  fun b xs q=>by rw[af (hm b _ q fun z=>z)];exact q,fun b u xs q=>by rw[af (hm b _ q fun z=>z)];exact q,fun b ps q=>⟨#[],by rw[af (hm b _ q fun z=>z),q];simp⟩⟩
 by_cases hbe:b=e
 ·subst hbe;exact heo
 ·exact⟨u,k b u hbe q⟩
end
noncomputable def trk (h:Heap)(H:Hp):List Addr:=(List.range h.objs.size).filter fun a=>(H a).isSome
noncomputable def n6 (h:Heap)(H:Hp):Heap:=W.hideAll h (trk h H)
theorem xK (h:Heap)(H:Hp):(n6 h H).objs.size=h.objs.size:=W.hideAll_size _ _
theorem yA {h:Heap}{H:Hp}(e:h.get? b=some o)(n:H b=none):(n6 h H).get? b=some o :=
 W.hideAll_get _ e fun hm=>by have q:(H b).isSome=true:=(OG.mp hm).2;rw[n] at q;simp at q
theorem B1 (e:(n6 h H).get? b=some o):h.get? b=some o/\H b=none:=by
 have e':h.get? b=some o:=W.of_hideAll (trk h H) e;refine⟨e',?_⟩;cases q:H b with
 | none=>rfl
 | some x =>have hm:b∈trk h H:=OG.mpr ⟨List.mem_range.mpr (KO e'),by simp[q]⟩;have z:(n6 h H).get? b=none:=W.hideAll_none (trk h H) hm;rw[z] at e;cases e
end L2
namespace L2
structure Mod (K:W.Frag)(mg:Str->Option Value)(base:Heap):Prop where
 kin:K.In base
 glob:base.Ns mainGlobals mg
 blt:∃mb,base.Ns builtinsNs mb/\∀x:Str,x≠"__name__"->mb x=bootBuiltins x
 nolimit:base.NoLimit
structure Cx where
 prog:Program
 w:World
 K:W.Frag
 mg:Str->Option Value
 base:Heap
 A:Around
 N:List Str
 s₀:Shared
 H₀:Hp
 env:Env
 outer:List Env
 stack:List Env
 ex:List Addr
 fn:Str->Bool
 calm:Bool
 pn:List (Addr × Obj)
 xe:Value->Shared->Prop
noncomputable def frs (l:List Env):List Addr:=l.filterMap (·.frame)
noncomputable abbrev Cx.fs (X:Cx):List Addr:=frs X.outer
def Vis (sc:Scope)(x:Str):Prop:=sc.names.lookup x=some .local\/sc.names.lookup x=some .cell\/sc.names.lookup x=some .free
def Loc (sc:Scope)(x:Str):Prop:=sc.names.lookup x=some .local\/sc.names.lookup x=some .cell
def Kk (env:Env)(h:Heap)(m:Str->Option Value)(x:Str)(u:Value):Prop :=
 (env.kindOf x=some .local/\m x=some u)\/((env.kindOf x=some .cell\/env.kindOf x=some .free)/\∃c,env.cells.lookup x=some c/\h.IsCell c (some u))
structure Cx.Ok (X:Cx):Prop where
 mod:Mod X.K X.mg X.base
 kind:X.env.scope.kind=.function
 glob:X.env.globals=mainGlobals
 blt:X.env.builtins=builtinsNs
 above:X.s₀.heap.objs.size<=X.env.locals
 inj:∀x y c,X.env.cells.lookup x=some c->X.env.cells.lookup y=some c->x=y
 has:∀x,(X.env.kindOf x=some .cell\/X.env.kindOf x=some .free)->∃c,X.env.cells.lookup x=some c
 cab:∀x c,X.fn x=true->X.env.cells.lookup x=some c->X.s₀.heap.objs.size<=c
 hd:X.calm=true->X.A.handled=none
 frames:X.A.frames=some X.stack
 stk:X.stack=X.outer\/(X.stack=X.env::X.outer/\X.env.frame=some X.env.locals)
 exf:∀b∈X.ex,b≠X.env.locals/\∀x c,X.env.cells.lookup x=some c->c≠b
 bs:∀b o,X.base.get? b=some o->X.s₀.heap.get? b=some o/\X.H₀ b=none
 bsz:X.base.objs.size<=X.s₀.heap.objs.size
 noex:∀b o,X.base.get? b=some o->b ∉ X.ex
 exfs:∀b∈X.ex,b ∉ X.fs
 funs:X.s₀.heap.FunFrames X.base X.outer
 frf:∀b∈X.fs,X.H₀ b=none
structure Inv (X:Cx)(pins:List (Addr × Obj))(σ:List (Option V))(H:Hp)(s:Shared):Prop where
 ok:X.Ok
 os:s.os=X.s₀.os
 bare:AllBare s.gens
 base:Un X.fs X.ex X.H₀ H X.s₀.heap s.heap
 loc:∃m,s.heap.Ns X.env.locals m/\∀(i:Nat) (x:Str) (v:V),X.N[i]?=some x->σ[i]?=some (some v)->Vis X.env.scope x->∃u,RelV v u/\Kk X.env s.heap m x u
 cell:∀x c,X.env.cells.lookup x=some c->∃v,s.heap.IsCell c v
 free:H X.env.locals=none
 freeC:∀x c,X.env.cells.lookup x=some c->H c=none
 pin:∀p∈X.pn++pins,s.heap.get? p.1=some p.2/\H p.1=none/\p.1≠X.env.locals/\p.1 ∉ X.fs/\∀v,p.2.data≠.cell v
 hok:HOk X.prog X.w H s.heap
 len:σ.length=X.N.length
section
variable {X:Cx}{pins:List (Addr × Obj)}{σ:List (Option V)}{H H':Hp}{s:Shared}{h':Heap}
theorem Cx.Ok.nofr (ok:X.Ok)(e:X.base.get? b=some o):b ∉ X.fs:=fun hb=>by have:=(ok.funs.mem hb).1;rw[e] at this;cases this
theorem Inv.bs (I:Inv X pins σ H s):∀b o,X.base.get? b=some o->s.heap.get? b=some o/\H b=none:=fun b o e =>
 ⟨I.base.keep b o (I.ok.bs b o e).1 (I.ok.bs b o e).2 (I.ok.nofr e) (I.ok.noex b o e),I.base.free b o (I.ok.bs b o e).1 (I.ok.bs b o e).2 (I.ok.noex b o e)⟩
theorem Inv.bk (I:Inv X pins σ H s):∀b o,X.base.get? b=some o->s.heap.get? b=some o:=fun b o e=>(I.bs b o e).1
theorem Inv.mod (I:Inv X pins σ H s):Mod X.K X.mg X.base:=I.ok.mod
theorem Inv.kIn (I:Inv X pins σ H s):X.K.In s.heap:=I.ok.mod.kin.keeps I.bk
theorem Inv.lt (I:Inv X pins σ H s):X.env.locals<s.heap.objs.size:=let ⟨_,hn,_⟩:=I.loc;hn.lt
theorem Inv.sz (I:Inv X pins σ H s):X.s₀.heap.objs.size<=s.heap.objs.size:=K_ I.ok.above (LY I.lt)
theorem Inv.nofs (I:Inv X pins σ H s){a:Addr}(h:s.heap.objs.size<=a):a ∉ X.fs:=fun hb=>by obtain⟨_,o,ho,_⟩:=I.ok.funs.mem hb;exact absurd (KY (KO ho) (K_ I.sz h)) (MA _)
theorem Inv.cne (I:Inv X pins σ H s):∀x c,X.env.cells.lookup x=some c->c≠X.env.locals:=fun x c e z=>by obtain⟨v,o,ho,hd⟩:=I.cell x c e;obtain⟨m,⟨o',es,ep,ho',hd',_⟩,_⟩:=I.loc;rw[z,ho'] at ho;cases ho;rw[hd'] at hd;cases hd
theorem Inv.funs (I:Inv X pins σ H s):s.heap.FunFrames X.base X.outer:=by
 have all:∀(l:List Env),(∀b∈frs l,b∈X.fs)->X.s₀.heap.FunFrames X.base l->s.heap.FunFrames X.base l:=by
  intro l
  induction l with
  | nil=>intro _ _;trivial
  | cons env r ih =>intro hs hl;obtain⟨hk,⟨L,o,hf,hn,ho,hd⟩,hr⟩:=hl;have hL:L∈X.fs:=hs L (by unfold frs;rw[LX,hf];exact KP);obtain⟨sl,e⟩:=I.base.slot L o ho (I.ok.frf L hL) hL fun z=>I.ok.exfs L z hL;exact⟨hk,⟨L,_,hf,hn,e,hd⟩,ih (fun b hb=>hs b (by unfold frs;rw[LX,hf];exact KL _ hb)) hr⟩
 exact all X.outer (fun _ hb=>hb) I.ok.funs
theorem Inv.stack (I:Inv X pins σ H s):s.heap.FunFrames X.base X.stack:=by
 rcases I.ok.stk with e|⟨e,hf⟩
 ·rw[e];exact I.funs
 ·rw[e];obtain⟨m,hn,_⟩:=I.loc;refine .cons (by rw[I.ok.kind];decide) hf hn ?_ I.funs;exact Heap.get?_none_of_le (K_ I.ok.bsz I.ok.above)
theorem Inv.stkSub (I:Inv X pins σ H s):∀b∈frs X.stack,b∈X.env.locals::X.fs:=fun b hb=>by
 rcases I.ok.stk with e|⟨e,hf⟩
 ·rw[e] at hb;exact KL _ hb
 ·rw[e] at hb;unfold frs at hb;rw[LX,hf] at hb;exact hb
theorem Inv.stkFree (I:Inv X pins σ H s):∀b∈frs X.stack,H b=none:=fun b hb=>by
 rcases LC.mp (I.stkSub b hb) with e|hb
 ·rw[e];exact I.free
 ·obtain⟨_,o,ho,_⟩:=I.ok.funs.mem hb;exact I.base.free b o ho (I.ok.frf b hb) fun z=>I.ok.exfs b z hb
theorem Inv.step {t':Nat}{d':Drawn}{ch:List Addr}(I:Inv X pins σ H s)(hch:∀b∈ch,(b∈X.ex\/X.s₀.heap.objs.size<=b)/\b≠X.env.locals/\(∀x c,X.env.cells.lookup x=some c->c≠b)/\∀p∈X.pn++pins,p.1≠b)(keep:∀b o,b≠X.env.locals->b ∉ X.fs->b ∉ ch->s.heap.get? b=some o->H b=none->h'.get? b=some o)(slot:∀b o,b≠X.env.locals->b∈X.fs->b ∉ ch->s.heap.get? b=some o->H b=none->∃sl,h'.get? b=some { o with slots:=sl })(free:∀b o,b ∉ ch->s.heap.get? b=some o->H b=none->H' b=none)(there:∀b o,b ∉ ch->s.heap.get? b=some o->∃o',h'.get? b=some o')(tups:∀b xs,H b=some (.tup xs)->H' b=some (.tup xs))(frzs:∀b o u,H b=some (.frz o u)->H' b=some (.frz o u))(tbls:∀b ps,H b=some (.tbl ps)->∃more,H' b=some (.tbl (ps++more)))(ns:∀m,s.heap.Ns X.env.locals m->h'.Ns X.env.locals m)(hok:HOk X.prog X.w H' h')(hg:AllBare g') :
  Inv X pins σ H' { s with heap:=h',gens:=g',drawn:=d',toks:=t' }:=by
 have neL:∀b o,X.s₀.heap.get? b=some o->b≠X.env.locals:=fun b o e=>K6 (KY (KO e) I.ok.above);have neC:∀b o,X.s₀.heap.get? b=some o->b ∉ X.ex->b ∉ ch:=fun b o e hx hb=>by
  rcases (hch b hb).1 with z|z
  ·exact hx z
  ·exact absurd (KY (KO e) z) (MA _)
 have cellK:∀x c,X.env.cells.lookup x=some c->∀v,s.heap.IsCell c v->h'.IsCell c v:=fun x c e v ⟨o,ho,hd⟩=>by
  have nch:c ∉ ch:=fun z=>(hch c z).2.2.1 x c e rfl;by_cases hc:c∈X.fs
  ·obtain⟨sl,q⟩:=slot c o (I.cne x c e) hc nch ho (I.freeC x c e);exact⟨_,q,hd⟩
  ·exact⟨o,keep c o (I.cne x c e) hc nch ho (I.freeC x c e),hd⟩
 refine⟨I.ok,I.os,hg,⟨fun b o e n hb hx=>?_,fun b o e n hb hx=>?_,fun b o e n hx=>?_,fun b o e hx=>?_,fun b xs e=>tups b xs (I.base.tups b xs e),fun b o xs e=>frzs b o xs (I.base.frzs b o xs e),fun b ps e=>?_⟩,?_,fun x c e=>?_,?_,fun x c e=>?_,fun p hp=>?_,hok,I.len⟩
 ·exact keep b o (neL b o e) hb (neC b o e hx) (I.base.keep b o e n hb hx) (I.base.free b o e n hx)
 ·obtain⟨sl,e1⟩:=I.base.slot b o e n hb hx;obtain⟨sl',e2⟩:=slot b _ (neL b o e) hb (neC b o e hx) e1 (I.base.free b o e n hx);exact⟨sl',e2⟩
 ·obtain⟨o',e1⟩:=I.base.there b o e hx;exact free b o' (neC b o e hx) e1 (I.base.free b o e n hx)
 ·obtain⟨o',e1⟩:=I.base.there b o e hx;exact there b o' (neC b o e hx) e1
 ·obtain⟨m1,e1⟩:=I.base.tbls b ps e;obtain⟨m2,e2⟩:=tbls b _ e1;exact⟨m1++m2,by rw[e2,Array.append_assoc]⟩
 ·obtain⟨m,hn,hl⟩:=I.loc;refine⟨m,ns m hn,fun i x v e1 e2 e3=>?_⟩;obtain⟨u,r,l⟩:=hl i x v e1 e2 e3;refine⟨u,r,?_⟩;rcases l with l|⟨k,c,e,z⟩
  ·exact .inl l
  ·exact .inr ⟨k,c,e,cellK x c e _ z⟩
 ·obtain⟨v,z⟩:=I.cell x c e;exact⟨v,cellK x c e v z⟩
 ·obtain⟨m,⟨o,_,_,ho,_⟩,_⟩:=I.loc;exact free _ o (fun z=>(hch _ z).2.1 rfl) ho I.free
 ·obtain⟨v,o,ho,hd⟩:=I.cell x c e;exact free c o (fun z=>(hch c z).2.2.1 x c e rfl) ho (I.freeC x c e)
 ·obtain⟨e,n,ne,nf,d⟩:=I.pin p hp;have nch:p.1 ∉ ch:=fun z=>(hch p.1 z).2.2.2 p hp rfl;exact⟨keep p.1 p.2 ne nf nch e n,free p.1 p.2 nch e n,ne,nf,d⟩
theorem Inv.un {t':Nat}(I:Inv X pins σ H s)(u:Un X.fs [] H H' s.heap h')(hok:HOk X.prog X.w H' h'):Inv X pins σ H' { s with heap:=h',toks:=t' }:=by
 obtain⟨m,⟨o,es,ep,ho,r⟩,_⟩:=id I.loc;obtain⟨sl,hL⟩:=u.any ho I.free (by simp);exact I.step (g':=s.gens) (d':=s.drawn) (ch:=[]) (fun _ z=>nomatch z) (fun b o _ hb _ e n=>u.keep b o e n hb (by simp)) (fun b o _ hb _ e n=>u.slot b o e n hb (by simp)) (fun b o _ e n=>u.free b o e n (by simp)) (fun b o _ e=>u.there b o e (by simp)) u.tups u.frzs u.tbls (fun m' hm=>by obtain⟨o',es',ep',ho',r'⟩:=hm;rw[ho] at ho';cases ho';exact⟨_,es',ep',hL,r'⟩) hok I.bare
theorem Inv.call {t':Nat}{d':Drawn}(I:Inv X pins σ H s)(u:Un (frs X.stack) ch H H' s.heap h')(hok:HOk X.prog X.w H' h')(hg:AllBare g')(hch:∀b∈ch,(b∈X.ex\/X.s₀.heap.objs.size<=b)/\b≠X.env.locals/\(∀x c,X.env.cells.lookup x=some c->c≠b)/\∀p∈X.pn++pins,p.1≠b) :
  Inv X pins σ H' { s with heap:=h',gens:=g',drawn:=d',toks:=t' }:=by
 obtain⟨m,⟨o,es,ep,ho,r⟩,_⟩:=id I.loc;obtain⟨sl,hL⟩:=u.any ho I.free fun z=>(hch _ z).2.1 rfl;exact I.step (ch:=ch) hch (fun b o hL hb hc e n=>u.keep b o e n (fun z=>(LC.mp (I.stkSub b z)).elim hL hb) hc) (fun b o _ _ hc e n=>u.any e n hc) (fun b o hc e n=>u.free b o e n hc) (fun b o hc e=>u.there b o e hc) u.tups u.frzs u.tbls (fun m' hm=>by obtain⟨o',es',ep',ho',r'⟩:=hm;rw[ho] at ho';cases ho';exact⟨_,es',ep',hL,r'⟩) hok hg
theorem Inv.turned {t':Nat}{it:Addr}(I:Inv X pins σ H s)(k:∀b o,b≠it->s.heap.get? b=some o->h'.get? b=some o)(hn:H it=none)(hL:it≠X.env.locals)
  (h1:it∈X.ex\/X.s₀.heap.objs.size<=it) (h2:∀x c,X.env.cells.lookup x=some c->c≠it) (h3:∀p∈X.pn++pins,p.1≠it):Inv X pins σ H { s with heap:=h',toks:=t' }:=by
 have nit:∀b u,H b=some u->b≠it:=fun b u e z=>by rw[z,hn] at e;cases e
 refine I.step (g':=s.gens) (d':=s.drawn) (ch:=[it]) (fun b hb=>?_) (fun b o _ _ hc e _=>k b o (fun z=>hc (by simp[z])) e) (fun b o _ _ hc e _=>⟨o.slots,k b o (fun z=>hc (by simp[z])) e⟩) (fun _ _ _ _ n=>n)
  (fun b o hc e=>⟨o,k b o (fun z=>hc (by simp[z])) e⟩) (fun _ _ e=>e) (fun _ _ _ e=>e) (fun b ps e=>⟨#[],by rw[e];simp⟩) (fun m hm=>?_) (fun b u e=>?_) I.bare
 ·have e:b=it:=by simpa using hb
  subst e;exact⟨h1,hL,h2,h3⟩
 ·obtain⟨o,es,ep,ho,r⟩:=hm;exact⟨o,es,ep,k _ o (Ne.symm hL) ho,r⟩
 ·refine(I.hok b u e).stay (fun c v hc q=>k c v ?_ q) (fun _ q=>q) fun _ _ q=>q;rcases hc with z|z
  ·rw[z];exact nit b u e
  ·exact nit c _ z
theorem Inv.tok (I:Inv X pins σ H s)(t:Nat):Inv X pins σ H { s with toks:=t }:=I.un (h':=s.heap) (t':=t) Un.refl I.hok
theorem Inv.kept {t':Nat}(I:Inv X pins σ H s)(k:∀b u,s.heap.get? b=some u->h'.get? b=some u):Inv X pins σ H { s with heap:=h',toks:=t' }:=I.un (Un.kept k) (I.hok.kept k)
theorem Inv.laid {a:Addr}{t':Nat}(I:Inv X pins σ H s)(k:∀b u,s.heap.get? b=some u->h'.get? b=some u)(hp:s.heap.objs.size<=a)(new:ObjOk X.prog X.w (upd H a o) h' a o) :
  Inv X pins σ (upd H a o) { s with heap:=h',toks:=t' }:=I.un (Un.laid k hp (I.hok.fresh hp)) (I.hok.laid k hp new)
theorem Inv.write {e:Addr}{t':Nat}(I:Inv X pins σ H s)(mu:Mut (H x))(he:e=x\/H e=some (.own x))(k:∀b u,b≠e->s.heap.get? b=some u->h'.get? b=some u)(heo:∃u,h'.get? e=some u)(new:ObjOk X.prog X.w (upd H x o) h' x o):Inv X pins σ (upd H x o) { s with heap:=h',toks:=t' }:=I.un (Un.write mu he k heo) (I.hok.write mu he k heo new)
theorem Inv.pins_of {pins':List (Addr × Obj)}(I:Inv X pins σ H s)(h:∀p∈pins',s.heap.get? p.1=some p.2/\H p.1=none/\p.1≠X.env.locals/\p.1 ∉ X.fs/\∀v,p.2.data≠.cell v):Inv X pins' σ H s :=
 ⟨I.ok,I.os,I.bare,I.base,I.loc,I.cell,I.free,I.freeC,fun p hp=>(K7.mp hp).elim (fun z=>I.pin p (List.mem_append_left _ z)) (h p),I.hok,I.len⟩
theorem lY {N:List Str}(hN:N.Nodup){i j:Nat}(a:N[i]?=some x)(b:N[j]?=some x):i=j:=by obtain⟨h1,e1⟩:=KR.mp a;obtain⟨h2,e2⟩:=KR.mp b;exact(List.getElem_inj hN).mp (e1.trans e2.symm)
theorem oR {M:Model}{E:Value->Shared->Prop}{i:Nat}{Q:Unit->Shared->Prop}(I:Inv X pins σ H s)(hN:X.N.Nodup)(hi:X.N[i]?=some x)(hx:Loc X.env.scope x)(r:RelV v u)(h:∀s',Inv X pins (σ.set i (some v)) H s'->(∃a,Heap.SameBut a s.heap s'.heap/\(a=X.env.locals\/X.env.cells.lookup x=some a))->Q () s')(hf:X.fn x=true\/X.env.scope.names.lookup x=some .local:=by first|exact .inl rfl|exact .inr rfl|assumption):wpAny M A (storeName X.env x u) Q E s:=by
 obtain⟨m,hn,hl⟩:=id I.loc;have hcls:(X.env.scope.kind == .class || (X.env.scope.kind == .module && X.env.locals != X.env.globals))=false:=by rw[I.ok.kind];rfl
 have hiσ:i<σ.length:=by rw[I.len];exact(KR.mp hi).1
 have cne:=I.cne;have tracked:∀ {a:Addr}{h':Heap},(∃o,s.heap.get? a=some o/\H a=none)->Heap.SameBut a s.heap h'->HOk X.prog X.w H h':=fun {a h'} ha hs b ob e=>by
  obtain⟨_,_,hfree⟩:=ha;refine(I.hok b ob e).stay (fun c w' hc q=>(hs.2 c ?_).trans q) (fun _ q=>q) fun _ _ q=>q;rintro rfl;rcases hc with rfl|hc
  ·rw[hfree] at e;cases e
  ·rw[hfree] at hc;cases hc
 rcases hx with hk|hk
 ·refine wpAny_storeName_local hk hn (fun h' hn' hs=>?_) hcls;obtain⟨oL,_,_,hoL,_⟩:=id hn;refine h _ ⟨I.ok,I.os,I.bare,⟨fun b o e n hb hx=>?_,fun b o e n hb hx=>?_,I.base.free,fun b o e hx=>?_,I.base.tups,I.base.frzs,I.base.tbls⟩,⟨_,hn',fun j y v' e1 e2 e3=>?_⟩,fun y c e=>?_,I.free,I.freeC,fun p hp=>?_,tracked ⟨oL,hoL,I.free⟩ hs,by simpa using I.len⟩ ⟨_,hs,.inl rfl⟩
  ·exact(hs.2 b (K6 (KY (KO e) I.ok.above))).trans (I.base.keep b o e n hb hx)
  ·obtain⟨sl,e1⟩:=I.base.slot b o e n hb hx;exact⟨sl,(hs.2 b (K6 (KY (KO e) I.ok.above))).trans e1⟩
  ·obtain⟨o',e1⟩:=I.base.there b o e hx;exact⟨o',(hs.2 b (K6 (KY (KO e) I.ok.above))).trans e1⟩
  ·by_cases hj:j=i
   ·subst hj;rw[hi] at e1;cases e1;rw[K1 hiσ] at e2;cases e2;exact⟨u,r,.inl ⟨hk,by simp⟩⟩
   ·rw[K5 (Ne.symm hj)] at e2;obtain⟨u',r',q⟩:=hl j y v' e1 e2 e3;refine⟨u',r',?_⟩;rcases q with⟨k,e⟩|⟨k,c,e,z⟩
    ·refine .inl ⟨k,?_⟩;have:y≠x:=fun e=>hj (lY hN e1 (e ▸ hi));simp[this,e]
    ·exact .inr ⟨k,c,e,z.sameBut hs (cne y c e)⟩
  ·obtain⟨w',z⟩:=I.cell y c e;exact⟨w',z.sameBut hs (cne y c e)⟩
  ·obtain⟨e,n,ne,nf,d⟩:=I.pin p hp;exact⟨(hs.2 p.1 ne).trans e,n,ne,nf,d⟩
 ·have hfn:X.fn x=true:=by
   rcases hf with z|z
   ·exact z
   ·rw[z] at hk;cases hk
  obtain⟨c,hc⟩:=I.ok.has x (.inl hk);obtain⟨w',z⟩:=I.cell x c hc;refine wpAny_storeName_cell I.ok.kind hk hc z (fun h' hc' hs=>?_);obtain⟨oc,hoc,hocd⟩:=id z;refine h { s with heap:=h' } ⟨I.ok,I.os,I.bare,⟨fun b o e n hb hx=>?_,fun b o e n hb hx=>?_,I.base.free,fun b o e hx=>?_,I.base.tups,I.base.frzs,I.base.tbls⟩,⟨m,hn.sameBut hs (Ne.symm (cne x c hc)),fun j y v' e1 e2 e3=>?_⟩,fun y c' e=>?_,I.free,I.freeC,fun p hp=>?_,tracked ⟨oc,hoc,I.freeC x c hc⟩ hs,by simpa using I.len⟩ ⟨c,hs,.inr hc⟩
  ·exact(hs.2 b (K6 (KY (KO e) (I.ok.cab x c hfn hc)))).trans (I.base.keep b o e n hb hx)
  ·obtain⟨sl,e1⟩:=I.base.slot b o e n hb hx;exact⟨sl,(hs.2 b (K6 (KY (KO e) (I.ok.cab x c hfn hc)))).trans e1⟩
  ·obtain⟨o',e1⟩:=I.base.there b o e hx;exact⟨o',(hs.2 b (K6 (KY (KO e) (I.ok.cab x c hfn hc)))).trans e1⟩
  ·by_cases hj:j=i
   ·subst hj;rw[hi] at e1;cases e1;rw[K1 hiσ] at e2;cases e2;exact⟨u,r,.inr ⟨.inl hk,c,hc,hc'⟩⟩
   ·rw[K5 (Ne.symm hj)] at e2;obtain⟨u',r',q⟩:=hl j y v' e1 e2 e3;refine⟨u',r',?_⟩;rcases q with q|⟨k,c',e,z'⟩
    ·exact .inl q
    ·refine .inr ⟨k,c',e,z'.sameBut hs ?_⟩;rintro rfl;exact hj (lY hN e1 (I.ok.inj _ _ _ e hc ▸ hi))
  ·by_cases hcc:c'=c
   ·subst hcc;exact⟨_,hc'⟩
   ·obtain⟨w2,z2⟩:=I.cell y c' e;exact⟨w2,z2.sameBut hs hcc⟩
  ·obtain⟨e,n,ne,nf,d⟩:=I.pin p hp;refine⟨(hs.2 p.1 ?_).trans e,n,ne,nf,d⟩;intro q;rw[q,hoc] at e;have q':oc=p.2:=LL e;exact d w' (by rw[<-q'];exact hocd)
theorem eA {M:Model}{E:Value->Shared->Prop}{i:Nat}{Q:Unit->Shared->Prop}(I:Inv X pins σ H s)(hN:X.N.Nodup)(hi:X.N[i]?=some x)(hx:Loc X.env.scope x)(r:RelV v u)(h:∀s',Inv X pins (σ.set i (some v)) H s'->Q () s')(hf:X.fn x=true\/X.env.scope.names.lookup x=some .local:=by first|exact .inl rfl|exact .inr rfl|assumption):wpAny M A (storeName X.env x u) Q E s :=
 oR I hN hi hx r (fun s' I' _=>h s' I') hf
theorem Inv.call' {s':Shared}(I:Inv X pins σ H s)(ho:s'.os=s.os)(u:Un (frs X.stack) ch H H' s.heap s'.heap)(hok:HOk X.prog X.w H' s'.heap)(hg:AllBare s'.gens)(hch:∀b∈ch,(b∈X.ex\/X.s₀.heap.objs.size<=b)/\b≠X.env.locals/\(∀x c,X.env.cells.lookup x=some c->c≠b)/\∀p∈X.pn++pins,p.1≠b):Inv X pins σ H' s':=by
 obtain⟨h',g',d',t',o'⟩:=s';have e:o'=s.os:=ho;subst e;exact I.call (g':=g') (t':=t') (d':=d') u hok hg hch
end
noncomputable abbrev XK:=Value->Option Addr->Hp->Prop
noncomputable abbrev St:=List (Option V)
noncomputable abbrev VK:=V->Hp->Prop
noncomputable abbrev TE:=St->Hp->VK->Prop
noncomputable abbrev TT:=St->Hp->(Bool->Hp->Prop)->Prop
noncomputable abbrev TA:=St->Hp->(List V->Hp->Prop)->Prop
structure Ends where
 nx:St->Hp->Prop
 rt:VK
 bk:St->Hp->Prop:=fun _ _=>False
 ct:St->Hp->Prop:=fun _ _=>False
noncomputable abbrev TS:=Ends->St->Hp->Prop
def EP (X:Cx)(pins:List (Addr × Obj))(σ:St)(Q:VK)(u:Value)(s':Shared):Prop:=∃v H',Inv X pins σ H' s'/\RelV v u/\Q v H'
def TP (X:Cx)(pins:List (Addr × Obj))(σ:St)(Q:Bool->Hp->Prop)(b:Bool)(s':Shared):Prop:=∃H',Inv X pins σ H' s'/\Q b H'
def AP (X:Cx)(pins:List (Addr × Obj))(σ:St)(Q:List V->Hp->Prop)(us:List Value)(s':Shared):Prop:=∃vs H',Inv X pins σ H' s'/\Vals vs us/\Q vs H'
def SP (X:Cx)(pins:List (Addr × Obj))(D:Ends)(f:Flow)(s':Shared):Prop :=
 match f with
 | .next=>∃σ' H',Inv X pins σ' H' s'/\D.nx σ' H'
 | .brk=>∃σ' H',Inv X pins σ' H' s'/\D.bk σ' H'
 | .cont=>∃σ' H',Inv X pins σ' H' s'/\D.ct σ' H'
 | .ret u=>∃v σ' H',Inv X pins σ' H' s'/\RelV v u/\D.rt v H'
def PE (X:Cx)(e:Expr)(t:TE):Prop :=
 ∀(pins:List (Addr × Obj)) (s:Shared) (σ:St) (H:Hp) (Q:VK),Inv X pins σ H s->t σ H Q->wpAny (model X.prog X.w) X.A (eval e X.env) (EP X pins σ Q) X.xe s
def PT (X:Cx)(e:Expr)(t:TT):Prop :=
 ∀(pins:List (Addr × Obj)) (s:Shared) (σ:St) (H:Hp) (Q:Bool->Hp->Prop),Inv X pins σ H s->t σ H Q->wpAny (model X.prog X.w) X.A (isTrue e X.env (eval e X.env)) (TP X pins σ Q) X.xe s
def PW (X:Cx)(e:Expr)(t:TT):Prop :=
 ∀(whole:Sem Value) (pins:List (Addr × Obj)) (s:Shared) (σ:St) (H:Hp) (Q:Bool->Hp->Prop),Inv X pins σ H s->t σ H Q->wpAny (model X.prog X.w) X.A (isTrue e X.env whole) (TP X pins σ Q) X.xe s
theorem PW.pt (h:PW X e t):PT X e t:=h _
def PA (X:Cx)(es:List Expr)(t:TA):Prop :=
 ∀(pos:Pos) (pins:List (Addr × Obj)) (s:Shared) (σ:St) (H:Hp) (Q:List V->Hp->Prop),Inv X pins σ H s->t σ H Q->wpAny (model X.prog X.w) X.A (spliced (backTo pos (starEach es X.env))) (AP X pins σ Q) X.xe s
def PS (X:Cx)(st:Stmt)(t:TS):Prop :=
 ∀(pins:List (Addr × Obj)) (s:Shared) (σ:St) (H:Hp) (D:Ends),Inv X pins σ H s->t D σ H->wpAny (model X.prog X.w) X.A (exec st X.env) (SP X pins D) X.xe s
def PSs (X:Cx)(st:List Stmt)(t:TS):Prop :=
 ∀(pins:List (Addr × Obj)) (s:Shared) (σ:St) (H:Hp) (D:Ends),Inv X pins σ H s->t D σ H->wpAny (model X.prog X.w) X.A (execs st X.env) (SP X pins D) X.xe s
theorem thn {α:Type}{t:Sem α}{Q Q':α->Shared->Prop}{M:Model}{E:Value->Shared->Prop}(h:wpAny M A t Q E s)(hQ:∀a s,Q a s->Q' a s):wpAny M A t Q' E s:=wpAny_mono h hQ fun _ _ x=>x
end L2
namespace L2
section
variable {X:Cx}
noncomputable def Kg (i:Nat):TE:=fun σ H Q=>∃v,σ[i]?=some (some v)/\Q v H
noncomputable def tC (v:V):TE:=fun _ H Q=>Q v H
theorem FP {i:Nat}{x:Str}{pos:Pos}(hN:X.N[i]?=some x)(hv:Vis X.env.scope x)(hd:(x == ("__debug__":Str))=false:=by decide)(hcd:(x == ("__classdict__":Str))=false:=by decide):PE X (.Name x pos) (Kg i):=by
 intro pins s σ H Q I h;obtain⟨v,e,h⟩:=h;obtain⟨m,hn,hl⟩:=I.loc;obtain⟨u,r,l⟩:=hl i x v hN e hv;have fin:EP X pins σ Q u s:=⟨v,H,I,r,h⟩;rcases l with⟨hk,hm⟩|⟨hk,c,hc,hcell⟩
 ·exact wpAny_Name (wpAny_loadName_local I.ok.kind hk hn hm fin) hd
 ·rcases hk with hk|hk
  ·exact wpAny_Name (wpAny_loadName_cell I.ok.kind hk hc hcell fin) hd
  ·exact wpAny_Name (wpAny_loadName_free I.ok.kind hk hc hcell fin hcd) hd
theorem Bu {i j pos}:PE X (.Constant (.int i) j pos) (tC (.int i)):=fun _ _ _ H _ I h=>wpAny_Constant_int ⟨.int i,H,I.tok _,⟨_,rfl⟩,h⟩
theorem Jk {b j pos}:PE X (.Constant (.bool b) j pos) (tC (.bl b)):=fun _ _ _ H _ I h=>Constant_bool ⟨.bl b,H,I,rfl,h⟩
theorem Gb {j pos}:PE X (.Constant .none j pos) (tC .non):=fun _ _ _ H _ I h=>Constant_none ⟨.non,H,I,rfl,h⟩
theorem uZ {x j pos}:PE X (.Constant (.str x) j pos) (tC (.str x)):=fun _ _ _ H _ I h=>Calls.Constant_str ⟨.str x,H,I.tok _,⟨_,rfl⟩,h⟩
def Gl (X:Cx)(x:Str):Prop:=X.env.kindOf x=some .globalImplicit
theorem qT {E:Value->Shared->Prop}{σ:St}{Q:Value->Shared->Prop}(I:Inv X pins σ H s)(hg:Gl X x)(hm:X.mg x=some u)(h:Q u s)(hd:(x == ("__debug__":Str))=false:=by decide):wpAny (model X.prog X.w) X.A (eval (.Name x pos) X.env) Q E s :=
 Calls.Name_function_global I.ok.kind hg (Calls.loadGlobal_global (by rw[I.ok.glob];exact I.mod.glob.keeps I.bk) hm h) hd
theorem jR {E:Value->Shared->Prop}{pins:List (Addr × Obj)}{s:Shared}{σ:St}{H:Hp}{x:Str}{u:Value}{pos:Pos}{Q:Value->Shared->Prop}(I:Inv X pins σ H s)(hg:Gl X x)(hm:X.mg x=none)(hv:bootBuiltins x=some u)(h:Q u s)
  (hn:x≠"__name__":=by decide) (hd:(x == ("__debug__":Str))=false:=by decide):wpAny (model X.prog X.w) X.A (eval (.Name x pos) X.env) Q E s:=by
 obtain⟨mb,h1,h2⟩:=I.mod.blt;exact Calls.Name_function_global I.ok.kind hg (Calls.loadGlobal_builtin (by rw[I.ok.glob];exact I.mod.glob.keeps I.bk) hm (by rw[I.ok.blt];exact h1.keeps I.bk) ((h2 x hn).trans hv) h) hd
theorem B_ (hg:Gl X x)(hm:X.mg x=some u)(r:RelV v u)(hd:(x == ("__debug__":Str))=false:=by decide):PE X (.Name x pos) (tC v) :=
 fun _ _ _ H _ I h=>qT I hg hm ⟨v,H,I,r,h⟩ hd
theorem Cb {x:Str}{v:V}{u:Value}{pos:Pos}(hg:Gl X x)(hm:X.mg x=none)(hv:bootBuiltins x=some u)(r:RelV v u)(hn:x≠"__name__":=by decide)(hd:(x == ("__debug__":Str))=false:=by decide):PE X (.Name x pos) (tC v) :=
 fun _ _ _ H _ I h=>jR I hg hm hv ⟨v,H,I,r,h⟩ hn hd
variable {a b:Expr}{ta tb:TE}{pos:Pos}
variable {tA tB':TT}{rest:List Expr}
noncomputable def ID (t u:TT):TT:=fun σ H Q=>t σ H fun c H1=>if c=true then u σ H1 Q else Q false H1
noncomputable def tOr (t u:TT):TT:=fun σ H Q=>t σ H fun c H1=>if c=true then Q true H1 else u σ H1 Q
noncomputable def Kc (t:TT):TT:=fun σ H Q=>t σ H fun c H1=>Q (!c) H1
theorem C9 (ha:PT X a tA):PW X (.BoolOp .And [a] pos) tA:=by
 intro wh pins s σ H Q I h;refine isTrue_and (thn (ha pins s σ H Q I h) fun c s1 e=>?_);cases c with
 | true=>exact isTrue_and_nil e
 | false=>exact e
theorem FJ (ha:PT X a tA):PW X (.BoolOp .Or [a] pos) tA:=by
 intro wh pins s σ H Q I h;refine isTrue_or (thn (ha pins s σ H Q I h) fun c s1 e=>?_);cases c with
 | false=>exact isTrue_or_nil e
 | true=>exact e
theorem Fw (ha:PT X a tA)(hb:PW X (.BoolOp .And (b::rest) pos) tB'):PW X (.BoolOp .And (a::b::rest) pos) (ID tA tB'):=by
 intro wh pins s σ H Q I h;refine isTrue_and (thn (ha pins s σ H _ I h) fun c s1 ⟨H1,I1,q1⟩=>?_);cases c with
 | true=>exact hb wh pins s1 σ H1 Q I1 q1
 | false=>exact⟨H1,I1,q1⟩
theorem Ht (ha:PT X a tA)(hb:PW X (.BoolOp .Or (b::rest) pos) tB'):PW X (.BoolOp .Or (a::b::rest) pos) (tOr tA tB'):=by
 intro wh pins s σ H Q I h;refine isTrue_or (thn (ha pins s σ H _ I h) fun c s1 ⟨H1,I1,q1⟩=>?_);cases c with
 | true=>exact⟨H1,I1,q1⟩
 | false=>exact hb wh pins s1 σ H1 Q I1 q1
theorem F1 (ha:PT X a tA):PT X (.UnaryOp .Not a pos) (Kc tA):=by intro pins s σ H Q I h;exact isTrue_not (ha pins s σ H (fun c H1=>Q (!c) H1) I h)
noncomputable def Hd (ta tb:TE):TE:=fun σ H Q=>ta σ H fun x H1=>∃c,x=.bl c/\if c=true then tb σ H1 Q else Q (.bl false) H1
noncomputable def Kp (ta tb:TE):TE:=fun σ H Q=>ta σ H fun x H1=>∃c,x=.bl c/\if c=true then Q (.bl true) H1 else tb σ H1 Q
noncomputable def I_ (ta:TE):TE:=fun σ H Q=>ta σ H fun x H1=>∃c,x=.bl c/\Q (.bl (!c)) H1
theorem Bc {op}(h:PE X a t):PE X (.BoolOp op [a] pos) t:=fun pins s σ H Q I hw=>BoolOp_one (h pins s σ H Q I hw)
theorem GQ (ha:PE X a ta)(hb:PE X (.BoolOp .And (b::rest) pos) tb):PE X (.BoolOp .And (a::b::rest) pos) (Hd ta tb):=by
 intro pins s σ H Q I h;refine BoolOp_and (thn (ha pins s σ H _ I h) fun v s1 ⟨x,H1,I1,r1,q1⟩=>?_);obtain⟨c,rfl,q1⟩:=q1;cases r1;refine wpAny_truthy_bool ?_;cases c with
 | true=>exact hb pins s1 σ H1 Q I1 q1
 | false=>exact⟨.bl false,H1,I1,rfl,q1⟩
theorem Jw (ha:PE X a ta)(hb:PE X (.BoolOp .Or (b::rest) pos) tb):PE X (.BoolOp .Or (a::b::rest) pos) (Kp ta tb):=by
 intro pins s σ H Q I h;refine BoolOp_or (thn (ha pins s σ H _ I h) fun v s1 ⟨x,H1,I1,r1,q1⟩=>?_);obtain⟨c,rfl,q1⟩:=q1;cases r1;refine wpAny_truthy_bool ?_;cases c with
 | false=>exact hb pins s1 σ H1 Q I1 q1
 | true=>exact⟨.bl true,H1,I1,rfl,q1⟩
theorem Gi (ha:PE X a ta):PE X (.UnaryOp .Not a pos) (I_ ta):=by intro pins s σ H Q I h;refine UnaryOp_ (thn (ha pins s σ H _ I h) fun v s1 ⟨x,H1,I1,r1,q1⟩=>?_);obtain⟨c,rfl,q1⟩:=q1;cases r1;exact not_of (wpAny_truthy_bool ⟨.bl (!c),H1,I1,rfl,q1⟩)
noncomputable def tIf (t:TT)(ta tb:TE):TE:=fun σ H Q=>t σ H fun c H1=>if c=true then ta σ H1 Q else tb σ H1 Q
theorem zQ (hc:PT X c tA)(ha:PE X a ta)(hb:PE X b tb):PE X (.IfExp c a b pos) (tIf tA ta tb):=by
 intro pins s σ H Q I h;refine wpAny_IfExp (thn (hc pins s σ H _ I h) fun d s1 ⟨H1,I1,q1⟩=>?_);cases d with
 | true=>exact ha pins s1 σ H1 Q I1 q1
 | false=>exact hb pins s1 σ H1 Q I1 q1
end
end L2
namespace L2
def SqL (K:W.Frag)(H:Hp)(a:Addr)(xs:List V):Prop :=
 Rd H a (.lst xs) \/
  ∃(o:Obj) (its:Array Value) (n:Nat),K.lookup a=some o/\o.cls=.type "list"/\o.dict=none/\o.data=.seq its n/\its.size<=sizeLine/\Vals xs its.toList
def SqT (K:W.Frag)(H:Hp)(a:Addr)(xs:List V):Prop :=
 Rd H a (.tup xs) \/
  ∃(o:Obj) (its:Array Value) (n:Nat),K.lookup a=some o/\o.cls=.type "tuple"/\o.data=.seq its n/\its.size<=sizeLine/\Vals xs its.toList
noncomputable def J8:Value->Option V
 | .none=>some .non
 | .bool b=>some (.bl b)
 | .int i _=>some (.int i)
 | .str x _=>some (.str x)
 | .bytes b _=>some (.byt b)
 | .float b _=>some (.flt b)
 | .ref a=>some (.ref a)
 | .type n=>some (.ty n)
 | _=>none
theorem RelV.abs (r:RelV x u):J8 u=some x:=by
 cases x with
 | non=>cases r;rfl
 | bl _=>cases r;rfl
 | int _=>obtain⟨t,rfl⟩:=r;rfl
 | str _=>obtain⟨t,rfl⟩:=r;rfl
 | byt _=>obtain⟨t,rfl⟩:=r;rfl
 | flt _=>obtain⟨t,rfl⟩:=r;rfl
 | ref _=>cases r;rfl
 | ty _=>cases r;rfl
theorem RelV.inj (r:RelV x u)(q:RelV y u):x=y:=LL (r.abs.symm.trans q.abs)
theorem Vals.inj:∀ {xs ys:List V}{us:List Value},Vals xs us->Vals ys us->xs=ys
 | _,_,_,.nil,.nil=>rfl
 | _,_,_,.cons r t,.cons r' t'=>by rw[r.inj r',Vals.inj t t']
section
variable {X:Cx}{pins:List (Addr × Obj)}{σ:St}{H:Hp}{s:Shared}{a:Addr}{xs ys:List V}
theorem SqL.of (h:H a=some (.lst xs)):SqL K H a xs:=.inl (.inl h)
theorem SqT.of (h:H a=some (.tup xs)):SqT K H a xs:=.inl (.inl h)
theorem Inv.list (I:Inv X pins σ H s)(h:SqL X.K H a xs):∃its:List Value,Vals xs its/\PlainL s.heap a its.toArray/\xs.length<=sizeLine:=by
 rcases h with h|⟨o,its,n,hk,hc,hd,hs,hz,r⟩
 ·obtain⟨z,its,n,r,e⟩:=h.ok I.hok;exact⟨its,r,⟨_,n,e,rfl,rfl,rfl⟩,z⟩
 ·refine⟨its.toList,r,⟨o,n,I.kIn a o hk,hc,hd,by simpa using hs⟩,?_⟩;have e:=r.length;simp only[Array.length_toList] at e;omega
theorem Inv.tuple (I:Inv X pins σ H s)(h:SqT X.K H a xs):∃its:List Value,Vals xs its/\IsTup s.heap a its.toArray/\xs.length<=sizeLine:=by
 rcases h with h|⟨o,its,n,hk,hc,hs,hz,r⟩
 ·obtain⟨z,its,r,p⟩:=h.ok I.hok;exact⟨its,r,p,z⟩
 ·refine⟨its.toList,r,⟨o,I.kIn a o hk,hc,n,by simpa using hs⟩,?_⟩;have e:=r.length;simp only[Array.length_toList] at e;omega
theorem Inv.list_inj (I:Inv X pins σ H s)(h:SqL X.K H a xs)(h':SqL X.K H a ys):xs=ys:=by
 obtain⟨its,r,⟨o,n,e,_,_,d⟩,_⟩:=I.list h;obtain⟨its',r',⟨o',n',e',_,_,d'⟩,_⟩:=I.list h';rw[e] at e';cases e';rw[d] at d';injection d' with d1 _
 have:its=its':=by simpa using LG Array.toList d1
 subst this;exact r.inj r'
theorem Inv.tuple_inj (I:Inv X pins σ H s)(h:SqT X.K H a xs)(h':SqT X.K H a ys):xs=ys:=by
 obtain⟨its,r,⟨o,e,_,n,d⟩,_⟩:=I.tuple h;obtain⟨its',r',⟨o',e',_,n',d'⟩,_⟩:=I.tuple h';rw[e] at e';cases e';rw[d] at d';injection d' with d1 _
 have:its=its':=by simpa using LG Array.toList d1
 subst this;exact r.inj r'
end
noncomputable abbrev Cx.wish (X:Cx)(E:Value->Shared->Prop):Cx:={ X with xe:=E }
noncomputable abbrev Cx.nox (X:Cx):Cx:=X.wish fun _ _=>False
theorem Cx.Ok.wish {X:Cx}(ok:X.Ok)(E:Value->Shared->Prop):(X.wish E).Ok :=
 ⟨ok.mod,ok.kind,ok.glob,ok.blt,ok.above,ok.inj,ok.has,ok.cab,ok.hd,ok.frames,ok.stk,ok.exf,ok.bs,ok.bsz,ok.noex,ok.exfs,ok.funs,ok.frf⟩
theorem Cx.Ok.unwish {X:Cx}{E:Value->Shared->Prop}(ok:(X.wish E).Ok):X.Ok :=
 ⟨ok.mod,ok.kind,ok.glob,ok.blt,ok.above,ok.inj,ok.has,ok.cab,ok.hd,ok.frames,ok.stk,ok.exf,ok.bs,ok.bsz,ok.noex,ok.exfs,ok.funs,ok.frf⟩
section
variable {X:Cx}{pins:List (Addr × Obj)}{σ:St}{H:Hp}{s:Shared}{E:Value->Shared->Prop}
theorem Inv.wish (I:Inv X pins σ H s)(E:Value->Shared->Prop):Inv (X.wish E) pins σ H s:=⟨I.ok.wish E,I.os,I.bare,I.base,I.loc,I.cell,I.free,I.freeC,I.pin,I.hok,I.len⟩
theorem Inv.unwish (I:Inv (X.wish E) pins σ H s):Inv X pins σ H s:=⟨I.ok.unwish,I.os,I.bare,I.base,I.loc,I.cell,I.free,I.freeC,I.pin,I.hok,I.len⟩
theorem SP.unwish {D:Ends}(h:SP (X.wish E) pins D f s'):SP X pins D f s':=by
 cases f with
 | next=>obtain⟨σ',H',I,q⟩:=h;exact⟨σ',H',I.unwish,q⟩
 | brk=>obtain⟨σ',H',I,q⟩:=h;exact⟨σ',H',I.unwish,q⟩
 | cont=>obtain⟨σ',H',I,q⟩:=h;exact⟨σ',H',I.unwish,q⟩
 | ret u=>obtain⟨v,σ',H',I,r,q⟩:=h;exact⟨v,σ',H',I.unwish,r,q⟩
theorem PSs.nox (h:PSs X.nox st t):PSs X st t:=fun pins s σ H D I hw =>
 wpAny_mono (h pins s σ H D (I.wish _) hw) (fun _ _ q=>q.unwish) fun _ _ z=>False.elim z
end
section
variable {X:Cx}{st:Stmt}{rest:List Stmt}{t u:TS}{e:Expr}{te:TE}{pos:Pos}
noncomputable def Eg:TS:=fun D σ H=>D.nx σ H
noncomputable def Ku (t u:TS):TS:=fun D σ H=>t { D with nx:=u D } σ H
theorem CL:PSs X [] Eg:=fun _ _ σ H _ I h=>wpAny_execs_nil ⟨σ,H,I,h⟩
theorem yh (h1:PS X st t)(h2:PSs X rest u):PSs X (st::rest) (Ku t u):=by
 intro pins s σ H D I h;refine wpAny_execs_cons (thn (h1 pins s σ H { D with nx:=u D } I h) fun f s1 q=>?_);cases f with
 | next =>obtain⟨σ',H',I',q⟩:=q;exact h2 pins s1 σ' H' D I' q
 | ret v=>exact q
 | brk=>exact q
 | cont=>exact q
noncomputable def Fu:TS:=fun D σ H=>D.bk σ H
noncomputable def Ia:TS:=fun D σ H=>D.ct σ H
theorem Ct:PS X (.Pass pos) Eg:=fun _ _ σ H _ I h=>wpAny_Pass ⟨σ,H,I,h⟩
theorem Bp:PS X (.Break pos) Fu:=fun _ _ σ H _ I h=>wpAny_Break ⟨σ,H,I,h⟩
theorem sT:PS X (.Continue pos) Ia:=fun _ _ σ H _ I h=>wpAny_Continue ⟨σ,H,I,h⟩
theorem Inv.quiet {σ:St}(I:Inv X pins σ H s):interactive X.env=false:=by simp[interactive,I.ok.kind]
noncomputable def Iy (te:TE):TS:=fun D σ H=>te σ H fun _ H1=>D.nx σ H1
theorem CS (he:PE X e te)(hs:swapsWith e none pos.line X.env=pure false:=by rfl):PS X (.Expr e pos) (Iy te):=by intro pins s σ H D I h;exact wpAny_Expr_any (thn (he pins s σ H _ I h) fun v s1 ⟨x,H1,I1,r1,q1⟩=>⟨σ,H1,I1,q1⟩) I.quiet hs
noncomputable def Kt (te:TE):TS:=fun D σ H=>te σ H D.rt
theorem Gj (he:PE X e te):PS X (.Return (some e) pos) (Kt te):=by intro pins s σ H D I h;exact wpAny_Return_some (thn (he pins s σ H _ I h) fun v s1 ⟨x,H1,I1,r1,q1⟩=>⟨x,σ,H1,I1,r1,q1⟩)
noncomputable def HH:TS:=fun D _ H=>D.rt .non H
theorem CA:PS X (.Return none pos) HH:=fun _ _ σ H _ I h=>wpAny_Return_none ⟨.non,σ,H,I,rfl,h⟩
noncomputable def Kd (c:TT)(t u:TS):TS:=fun D σ H=>c σ H fun b H1=>if b=true then t D σ H1 else u D σ H1
theorem Hy (hc:PT X c tc)(ha:PSs X a t)(hb:PSs X b u):PS X (.If c a b pos) (Kd tc t u):=by
 intro pins s σ H D I h;refine wpAny_If (thn (hc pins s σ H _ I h) fun d s1 ⟨H1,I1,q1⟩=>?_);cases d with
 | true=>exact ha pins s1 σ H1 D I1 q1
 | false=>exact hb pins s1 σ H1 D I1 q1
end
noncomputable abbrev TG:=V->St->Hp->(St->Hp->Prop)->Prop
noncomputable abbrev TGs:=List V->St->Hp->(St->Hp->Prop)->Prop
def PG (X:Cx)(target:Expr)(t:TG):Prop :=
 ∀(pins:List (Addr × Obj)) (s:Shared) (σ:St) (H:Hp) (v:V) (u:Value) (Q:St->Hp->Prop),Inv X pins σ H s->RelV v u->t v σ H Q ->
  wpAny (model X.prog X.w) X.A (assign target X.env u) (fun _ s'=>∃σ' H',Inv X pins σ' H' s'/\Q σ' H') X.xe s
def PGs (X:Cx)(ts:List Expr)(t:TGs):Prop :=
 ∀(pins:List (Addr × Obj)) (s:Shared) (σ:St) (H:Hp) (vs:List V) (us:List Value) (Q:St->Hp->Prop),Inv X pins σ H s->Vals vs us->t vs σ H Q ->
  wpAny (model X.prog X.w) X.A (assignInOrder ((assignEach ts X.env).map (·.2)) us) (fun _ s'=>∃σ' H',Inv X pins σ' H' s'/\Q σ' H') X.xe s
noncomputable abbrev Fy:=V->V->V->Hp->(Hp->Prop)->Prop
def FB (X:Cx)(t:Fy):Prop :=
 ∀(pins:List (Addr × Obj)) (s:Shared) (σ:St) (H:Hp) (o i v:V) (ov iv u:Value) (Q:Hp->Prop),Inv X pins σ H s->RelV o ov->RelV i iv->RelV v u->t o i v H Q ->
  wpAny (model X.prog X.w) X.A (setItem ov iv u) (fun _ s'=>∃H',Inv X pins σ H' s'/\Q H') X.xe s
noncomputable abbrev TIp:=V->V->Hp->VK->Prop
def PIp (X:Cx)(op:Operator)(t:TIp):Prop :=
 ∀(pins:List (Addr × Obj)) (s:Shared) (σ:St) (H:Hp) (x y:V) (v u:Value) (Q:VK),Inv X pins σ H s->RelV x v->RelV y u->t x y H Q ->
  wpAny (model X.prog X.w) X.A (inplaceOp op v u) (EP X pins σ Q) X.xe s
section
variable {X:Cx}{pos:Pos}
noncomputable def Er (i:Nat):TG:=fun v σ H Q=>Q (σ.set i (some v)) H
theorem CW {i:Nat}(hN:X.N.Nodup)(hi:X.N[i]?=some x)(hx:Loc X.env.scope x)(hf:X.fn x=true\/X.env.scope.names.lookup x=some .local:=by first|exact .inl rfl|exact .inr rfl|assumption):PG X (.Name x pos) (Er i):=by intro pins s σ H v u Q I r h;exact wpAny_assign_Name (eA I hN hi hx r (fun s' I'=>⟨_,H,I',h⟩) hf)
noncomputable def J0:TGs:=fun vs σ H Q=>vs=[]/\Q σ H
noncomputable def HG (t:TG)(u:TGs):TGs:=fun vs σ H Q=>∃v r,vs=v::r/\t v σ H fun σ' H'=>u r σ' H' Q
theorem CY:PGs X [] J0:=by intro pins s σ H vs us Q I r h;obtain⟨e,h⟩:=h;subst e;cases r;exact assignInOrder_nil ⟨σ,H,I,h⟩
theorem Bl (h1:PG X e t)(h2:PGs X es u)(hs:(assignEach (e::es) X.env).map (·.2)=assign e X.env::(assignEach es X.env).map (·.2):=by rfl):PGs X (e::es) (HG t u):=by
 intro pins s σ H vs us Q I r h;obtain⟨v,vr,e1,h⟩:=h;subst e1;cases r with
 | cons r rr =>rw[hs];refine assignInOrder_cons (thn (h1 pins s σ H _ _ _ I r h) fun _ s1 ⟨σ1,H1,I1,q1⟩=>?_);exact h2 pins s1 σ1 H1 _ _ Q I1 rr q1
noncomputable def JQ (K:W.Frag)(n:Nat)(t:TGs):TG:=fun v σ H Q=>∃a xs,v=.ref a/\SqT K H a xs/\xs.length=n/\t xs σ H Q
theorem Gk {es:List Expr}{k:Nat}{t:TGs}{n:Nat}(hc:X.calm=true)(h:PGs X es t)
  (hn:(assignEach es X.env).length=n:=by rfl) (hst:(assignEach es X.env).findIdx? (·.1)=none:=by rfl):PG X (.Tuple es k pos) (JQ X.K n t):=by
 intro pins s σ H v u Q I r hw;obtain⟨a,xs,e1,hq,hl,hw⟩:=hw;subst e1;cases r;obtain⟨its,rv,ht,hz⟩:=I.tuple hq;refine assign_Tuple_tuple (I.ok.hd hc) ht (by simp[hn,<-hl,rv.length]) hst fun h' hx=>?_;have I1:Inv X pins σ H { s with heap:=h' }:=I.kept (t':=s.toks) fun b o e=>hx b o (K6 (KO e)) e;exact h pins _ σ H xs _ Q I1 (by simpa using rv) hw
noncomputable def Kf (to ti:TE)(t:Fy):TG:=fun v σ H Q=>to σ H fun o H1=>ti σ H1 fun i H2=>t o i v H2 fun H3=>Q σ H3
theorem GV (ho:PE X o to)(hi:PE X i ti)(hs:FB X t)(ha:∀v,assign (.Subscript o i pos) X.env v=(do
   let ov <-holding [v] (eval o X.env);let iv <-holding [v,ov] (eval i X.env)
   standAt pos
   holding [v,ov,iv] (setItem ov iv v)
   release [v,ov,iv] []):=by intro _;rfl):PG X (.Subscript o i pos) (Kf to ti t):=by
 intro pins s σ H v u Q I r h;rw[ha];refine KA (L3 (thn (ho pins s σ H _ I h) fun ov s1 ⟨x,H1,I1,r1,q1⟩=>?_));refine KA (L3 (thn (hi pins s1 σ H1 _ I1 q1) fun iv s2 ⟨y,H2,I2,r2,q2⟩=>?_));refine KA (wpAny_standAt (KA (L3 (thn (hs pins s2 σ H2 x y v ov iv u _ I2 r1 r2 r q2) fun _ s3 ⟨H3,I3,q3⟩=>?_))));exact wpAny_release ⟨σ,H3,I3,q3⟩
noncomputable def Cw (te:TE)(g:TG):TS:=fun D σ H=>te σ H fun x H1=>g x σ H1 D.nx
theorem ma (he:PE X e te)(hg:PG X tg g)(hs:swapsWithSole [tg] e pos.line X.env=pure false:=by rfl)(hw:swappedStores [tg] e X.env=pure none:=by rfl)(h1:(assignEach [tg] X.env).map (·.2)=[assign tg X.env]:=by rfl):PS X (.Assign [tg] e pos) (Cw te g):=by
 intro pins s σ H D I h;refine wpAny_Assign_stores (thn (he pins s σ H _ I h) fun v s1 ⟨x,H1,I1,r1,q1⟩=>?_) hs hw;rw[h1];exact thn (hg pins s1 σ H1 x v _ I1 r1 q1) fun _ s2 q=>q
theorem zm {i:Nat}(hN:X.N.Nodup)(hi:X.N[i]?=some x)(hx:Loc X.env.scope x)(he:PE X e te)(hs:swapsWith e (some (.Name x pos')) pos.line X.env=pure false:=by rfl)(hf:X.fn x=true\/X.env.scope.names.lookup x=some .local:=by first|exact .inl rfl|exact .inr rfl|assumption) :
  PS X (.Assign [.Name x pos'] e pos) (Cw te (Er i)):=by
 intro pins s σ H D I h;refine wpAny_Assign_Name (thn (he pins s σ H _ I h) fun v s1 ⟨y,H1,I1,r1,q1⟩=>?_) hs;exact eA I1 hN hi hx r1 (fun s2 I2=>⟨_,H1,I2,q1⟩) hf
noncomputable def J_ (i j:Nat)(ta:TA):TS:=fun D σ H=>ta σ H fun vs H1=>∃v w,vs=[v,w]/\D.nx ((σ.set i (some v)).set j (some w)) H1
theorem FY {i j:Nat}{a:Expr}{kt k2 pt2}(hc:X.calm=true)(hN:X.N.Nodup)(hi:X.N[i]?=some x)(hj:X.N[j]?=some y)(hij:i≠j)(hx:X.env.scope.names.lookup x=some .local)(hy:X.env.scope.names.lookup y=some .local)(ha:PA X [a,b] ta)(hw:swappedStores [.Tuple [.Name x px,.Name y py] kt pt] (.Tuple [a,b] k2 pt2) X.env=pure (some [x,y]))(hs:swapsWithSole [.Tuple [.Name x px,.Name y py] kt pt] (.Tuple [a,b] k2 pt2) pos.line X.env=pure false:=by rfl) :
  PS X (.Assign [.Tuple [.Name x px,.Name y py] kt pt] (.Tuple [a,b] k2 pt2) pos) (J_ i j ta):=by
 intro pins s σ H D I h;rw[exec_Assign_arm];refine KA (wpAny_standAt ?_);rw[hs];refine KA (KC ?_);rw[KS (by decide)];refine KA (Tuple_ (thn (ha _ pins s σ H _ I h) fun us s1 ⟨vs,H1,I1,r1,q1⟩=>?_));obtain⟨v,w,e1,q1⟩:=q1;subst e1;obtain⟨u1,u2,rfl,rv,rw'⟩:∃u1 u2,us=[u1,u2]/\RelV v u1/\RelV w u2:=by
  cases r1 with
  | cons p q =>
   cases q with
   | cons p' q' =>cases q';exact⟨_,_,rfl,p,p'⟩
 refine wpAny_newObj_type ?_ (by show 2<=sizeLine;decide);have I2:Inv X pins σ H1 { s1 with heap:=s1.heap.push { cls:=.type "tuple",data:=.seq [u1,u2].toArray } }:=I1.kept (t':=s1.toks) fun b o e=>KB _ e;rw[hw];refine KA (KC ?_);show wpAny (model X.prog X.w) X.A (do rule "assign.swapped-stores";let items <-unpackItems (.ref s1.heap.objs.size) 2 none;assignInOrder [fun v=>bindName X.env y v,fun v=>bindName X.env x v] items.reverse;pure Flow.next) _ _ _;refine KA (wpAny_rule (KA (unpackItems_tuple (items:=#[u1,u2]) (I.ok.hd hc) (IsTup.new s1.heap _) fun h' hx'=>?_)));have I3:=I2.kept (h':=h') (t':=s1.toks) fun b o e=>hx' b o (K6 (KO e)) e;show wpAny _ _ (assignInOrder [fun v=>bindName X.env y v,fun v=>bindName X.env x v] [u2,u1] >>= fun _=>pure Flow.next) _ _ _;refine KA (assignInOrder_cons (wpAny_bindName (eA I3 hN hj (.inl hy) rw' (fun s2 I4=>?_) (.inr hy))));refine assignInOrder_cons (wpAny_bindName (eA I4 hN hi (.inl hx) rv (fun s3 I5=>assignInOrder_nil (KC ?_)) (.inr hx)));rw[List.set_comm _ _ (Ne.symm hij)] at I5;exact⟨_,H1,I5,q1⟩
noncomputable def JM (i:Nat)(te:TE)(ti:TIp):TS:=fun D σ H=>∃x,σ[i]?=some (some x)/\te σ H fun y H1=>ti x y H1 fun z H2=>D.nx (σ.set i (some z)) H2
theorem Gy {i:Nat}(hN:X.N.Nodup)(hi:X.N[i]?=some x)(hx:Loc X.env.scope x)(he:PE X e te)(ho:PIp X op ti)(hf:X.fn x=true\/X.env.scope.names.lookup x=some .local:=by first|exact .inl rfl|exact .inr rfl|assumption) :
  PS X (.AugAssign (.Name x pos') op e pos) (JM i te ti):=by
 intro pins s σ H D I h;obtain⟨v,e1,h⟩:=h;obtain⟨m,hn,hl⟩:=I.loc;have vis:Vis X.env.scope x:=by rcases hx with k|k;exact .inl k;exact .inr (.inl k)
 obtain⟨u,r,l⟩:=hl i x v hi e1 vis;refine wpAny_AugAssign_Name ?_;have go:wpAny (model X.prog X.w) X.A (eval e X.env) (fun w s₂=>wpAny (model X.prog X.w) X.A (inplaceOp op u w) (fun r s₃=>wpAny (model X.prog X.w) X.A (storeName X.env x r) (fun _=>SP X pins D .next) X.xe s₃) X.xe s₂) X.xe s:=by refine thn (he pins s σ H _ I h) fun w s1 ⟨y,H1,I1,r1,q1⟩=>?_;refine thn (ho pins s1 σ H1 v y u w _ I1 r r1 q1) fun z s2 ⟨zv,H2,I2,r2,q2⟩=>?_;exact eA I2 hN hi hx r2 (fun s3 I3=>⟨_,H2,I3,q2⟩) hf
 rcases l with⟨hk,hm⟩|⟨hk,c,hc,hcell⟩
 ·exact wpAny_loadName_local I.ok.kind hk hn hm go
 ·rcases hk with hk|hk
  ·exact wpAny_loadName_cell I.ok.kind hk hc hcell go
  ·rcases hx with k|k
   ·have:X.env.scope.names.lookup x=some .free:=hk;rw[k] at this;cases this
   ·have:X.env.scope.names.lookup x=some .free:=hk;rw[k] at this;cases this
noncomputable def ipI (f:Int->Int->Int):TIp:=fun x y H Q=>∃i j,x=.int i/\y=.int j/\Q (.int (f i j)) H
theorem FI:PIp X .Add (ipI fun i j=>i+j):=by intro pins s σ H x y v u Q I r1 r2 h;obtain⟨i,j,e1,e2,q⟩:=h;subst e1;subst e2;obtain⟨t,rfl⟩:=r1;obtain⟨t',rfl⟩:=r2;exact iadd_int ⟨.int _,H,I.tok _,⟨_,rfl⟩,q⟩
theorem GC:PIp X .Sub (ipI fun i j=>i-j):=by intro pins s σ H x y v u Q I r1 r2 h;obtain⟨i,j,e1,e2,q⟩:=h;subst e1;subst e2;obtain⟨t,rfl⟩:=r1;obtain⟨t',rfl⟩:=r2;exact isub_int ⟨.int _,H,I.tok _,⟨_,rfl⟩,q⟩
end
section
variable {X:Cx}{pos:Pos}
noncomputable def zI (c:TT)(tb:TS):TS:=fun D σ H=>∃W:Nat->St->Hp->Prop,(∃m,W m σ H)/\∀m σ H,W m σ H ->
 c σ H fun b H1=>if b=true then ∃N:St->Hp->Prop,(∀σ' H',N σ' H'->∃m',m'<m/\W m' σ' H')/\tb { D with nx:=N,ct:=N,bk:=D.nx } σ H1 else D.nx σ H1
theorem Bk (hp:PassesOwn (model X.prog X.w) X.A X.env X.xe)(hc:PT X c tc)(hb:PSs X body tb):PS X (.While c body [] pos) (zI tc tb):=by
 intro pins s σ H D I h;obtain⟨W,⟨m0,w0⟩,turn⟩:=h;refine wpAny_While (codeAny_whileLoop (fun n s'=>∃σ' H',Inv X pins σ' H' s'/\W n σ' H') ?_ m0 ⟨σ,H,I,w0⟩);rintro n s1 ⟨σ1,H1,I1,w1⟩;refine wpAny_passesOwn hp (thn (hc pins s1 σ1 H1 _ I1 (turn n σ1 H1 w1)) fun b s2 ⟨H2,I2,q2⟩=>?_);cases b with
 | true =>
  obtain⟨N,hN,q2⟩:=q2;rw[KZ rfl];refine wpAny_passesOwn hp (thn (hb pins s2 σ1 H2 _ I2 q2) fun f s3 q3=>?_);cases f with
  | next =>obtain⟨σ3,H3,I3,n3⟩:=q3;obtain⟨m',hm,w3⟩:=hN σ3 H3 n3;exact⟨m',hm,σ3,H3,I3,w3⟩
  | cont =>obtain⟨σ3,H3,I3,n3⟩:=q3;obtain⟨m',hm,w3⟩:=hN σ3 H3 n3;exact⟨m',hm,σ3,H3,I3,w3⟩
  | brk=>exact q3
  | ret v=>exact q3
 | false =>rw[KS KD];exact wpAny_execs_nil ⟨σ1,H2,I2,q2⟩
end
structure It where
 go:Nat->Hp->Prop
 yld:Nat->Hp->V->Hp->Prop
 stop:Nat->Hp->Prop
def FpOk (X:Cx)(pins:List (Addr × Obj))(H:Hp)(b:Addr):Prop :=
 H b=none/\b≠X.env.locals/\b ∉ X.fs/\(b∈X.ex\/X.s₀.heap.objs.size<=b)/\(∀x c,X.env.cells.lookup x=some c->c≠b)/\∀p∈X.pn++pins,p.1≠b
theorem Inv.fpOk {σ:St}{H':Hp}{b:Addr}(I:Inv X pins σ H s)(hb:s.heap.objs.size<=b)(hn:H' b=none):FpOk X pins H' b:=by
 refine⟨hn,ME (KY I.lt hb),I.nofs hb,.inr (K_ I.sz hb),fun x c e z=>?_,fun p hp z=>?_⟩
 ·obtain⟨v,q⟩:=I.cell x c e;exact absurd (KY q.lt (by rw[z];exact hb)) (MA _)
 ·exact absurd (KY (KO (I.pin p hp).1) (by rw[z];exact hb)) (MA _)
structure pY (P:Program)(w:World)(K:W.Frag)(tg:Expr)(J:It)(fp:List Addr)(it:Addr)(tn:Nat->Heap->Prop):Prop where
 mem:it∈fp
 obj:∀i h,tn i h->∀b∈fp,∃o,h.get? b=some o/\∀v,o.data≠.cell v
 keep:∀i h h',tn i h->(∀b∈fp,∀o,h.get? b=some o->h'.get? b=some o)->tn i h'
 item:∀(X:Cx),X.prog=P->X.w=w->X.K=K->X.calm=true->∀(i:Nat) (pins:List (Addr × Obj)) (s:Shared) (σ:St) (H:Hp) (E:Value->Shared->Prop),Inv X pins σ H s->(∀b∈fp,FpOk X pins H b)->tn i s.heap->J.go i H ->
  wpAny (model P w) X.A (pyNext (.ref it)) (fun r s1=>∃u,r=some u /\
   wpAny (model P w) X.A (letOwnedTupleGo tg (.ref it) u) (fun _ s2=>∃x H',Inv X pins σ H' s2/\RelV x u/\J.yld i H x H'/\tn (i+1) s2.heap/\∀b∈fp,H' b=none) E s1) E s
 done:∀(X:Cx),X.prog=P->X.w=w->X.K=K->X.calm=true->∀(i:Nat) (pins:List (Addr × Obj)) (s:Shared) (σ:St) (H:Hp) (E:Value->Shared->Prop),Inv X pins σ H s->(∀b∈fp,FpOk X pins H b)->tn i s.heap->J.stop i H ->
  wpAny (model P w) X.A (pyNext (.ref it)) (fun r s1=>r=none/\Inv X pins σ H s1) E s
 self:∀(A:Around) (i:Nat) (s:Shared) (Q:Value->Shared->Prop) (E:Value->Shared->Prop),tn i s.heap->Q (.ref it) s->wpAny (model P w) A (pyIter (.ref it)) Q E s
noncomputable abbrev TI:=St->Hp->(It->Hp->Prop)->Prop
def PIE (X:Cx)(pins:List (Addr × Obj))(σ:St)(tg:Expr)(R:It->Hp->Prop)(itv:Value)(s2:Shared):Prop :=
 ∃(it:Addr) (fp:List Addr) (tn:Nat->Heap->Prop) (J:It) (H':Hp),itv=.ref it/\Inv X pins σ H' s2/\pY X.prog X.w X.K tg J fp it tn/\tn 0 s2.heap/\(∀b∈fp,FpOk X pins H' b)/\R J H'
def PI (X:Cx)(tg iter:Expr)(wi:TI):Prop :=
 ∀(pins:List (Addr × Obj)) (s:Shared) (σ:St) (H:Hp) (R:It->Hp->Prop),Inv X pins σ H s->wi σ H R ->
  wpAny (model X.prog X.w) X.A (eval iter X.env) (fun v s1=>wpAny (model X.prog X.w) X.A (pyIter v) (PIE X pins σ tg R) X.xe s1) X.xe s
theorem pB {M:Model}{E:Value->Shared->Prop}{s:Shared}{Q:Unit->Shared->Prop}(ho:s.heap.get? it=some o)(hc:o.cls=.type n)(hd:o.data=.fields vs)(hn:["enumerate","zip","dict_itemiterator","dict_reverseitemiterator","odict_iterator","itertools.zip_longest","itertools.pairwise"].contains n=false)(hQ:Q () s):wpAny M A (letOwnedTupleGo tg (.ref it) u) Q E s:=by
 unfold letOwnedTupleGo;cases tg <;> first
  | exact KC hQ
  | (cases u <;> first
    | exact KC hQ
    | (refine KA (wpAny_load ho ?_)
       rw[hc,hd];show wpAny M A (if (["enumerate","zip","dict_itemiterator","dict_reverseitemiterator","odict_iterator","itertools.zip_longest","itertools.pairwise"].contains n && vs[0]? == some (rawInt _))=true then _ else _) Q E s;rw[KS (by intro h;rw[hn,Bool.false_and] at h;cases h)];exact KC hQ))
noncomputable def Itl (K:W.Frag)(a:Addr):It :=
 ⟨fun i H=>∃xs x,SqL K H a xs/\xs[i]?=some x,fun i H x H'=>H'=H/\∀xs,SqL K H a xs->xs[i]?=some x,fun i H=>∃xs,SqL K H a xs/\xs.length<=i⟩
noncomputable def Itt (K:W.Frag)(a:Addr):It :=
 ⟨fun i H=>∃xs x,SqT K H a xs/\xs[i]?=some x,fun i H x H'=>H'=H/\∀xs,SqT K H a xs->xs[i]?=some x,fun i H=>∃xs,SqT K H a xs/\xs.length<=i⟩
noncomputable def Itr (lo:Int)(n:Nat):It:=⟨fun i _=>i<n,fun i H x H'=>H'=H/\x=.int (lo+i),fun i _=>n<=i⟩
theorem xN {P:Program}{w:World}{K:W.Frag}{tg:Expr}(a it:Addr):pY P w K tg (Itl K a) [it] it (fun i h=>h.IsListIter it a i) where
 mem:=by simp
 obj:=fun i h st b hb=>by
  have e:b=it:=by simpa using hb
  subst e;obtain⟨o,e,c,d⟩:=st;exact⟨o,e,fun v z=>by rw[d] at z;cases z⟩
 keep:=fun i h h' st k=>st.at fun o e=>k it (by simp) o e
 item:=by intro X hP hw hK hc i pins s σ H E I hf st hg;subst hP hw hK;obtain⟨xs,x,hq,hx⟩:=hg;obtain⟨its,rv,p,hz⟩:=I.list hq;obtain⟨u,hu,ru⟩:=rv.get hx;obtain⟨f0,f1,f2,f3,f4,f5⟩:=hf it (by simp);refine wpAny_pyNext_list_item st p.isList (x:=u) (by simpa using hu) fun h' st' sb=>?_;have I1:Inv X pins σ H { s with heap:=h' }:=I.turned (t':=s.toks) (fun b o hb e=>(sb.2 b hb).trans e) f0 f1 f3 f4 f5;obtain⟨o,e,c,d⟩:=id st';exact⟨u,rfl,pB (s:={ s with heap:=h' }) e c d (by decide) ⟨x,H,I1,ru,⟨rfl,fun ys hy=>by rw[I.list_inj hy hq];exact hx⟩,st',fun b hb=>(hf b hb).1⟩⟩
 done:=by intro X hP hw hK hc i pins s σ H E I hf st hg;subst hP hw hK;obtain⟨xs,hq,hx⟩:=hg;obtain⟨its,rv,p,hz⟩:=I.list hq;obtain⟨f0,f1,f2,f3,f4,f5⟩:=hf it (by simp);have hl:=rv.length;exact wpAny_pyNext_list_end (I.ok.hd hc) st p.isList (by simp;omega) fun h' eb=>⟨rfl,I.turned (t':=s.toks) (fun b o hb e=>eb b o hb e) f0 f1 f3 f4 f5⟩
 self:=fun _ _ _ _ _ st h=>wpAny_pyIter_listiter st h
theorem uY {P:Program}{w:World}{K:W.Frag}{tg:Expr}(a it:Addr):pY P w K tg (Itt K a) [it] it (fun i h=>h.IsTupleIter it a i) where
 mem:=by simp
 obj:=fun i h st b hb=>by
  have e:b=it:=by simpa using hb
  subst e;obtain⟨o,e,c,d⟩:=st;exact⟨o,e,fun v z=>by rw[d] at z;cases z⟩
 keep:=fun i h h' st k=>st.at fun o e=>k it (by simp) o e
 item:=by intro X hP hw hK hc i pins s σ H E I hf st hg;subst hP hw hK;obtain⟨xs,x,hq,hx⟩:=hg;obtain⟨its,rv,p,hz⟩:=I.tuple hq;obtain⟨u,hu,ru⟩:=rv.get hx;obtain⟨f0,f1,f2,f3,f4,f5⟩:=hf it (by simp);refine wpAny_pyNext_tuple_item st (show s.heap.IsTuple a its.toArray from p) (x:=u) (by simpa using hu) fun h' st' sb=>?_;have I1:Inv X pins σ H { s with heap:=h' }:=I.turned (t':=s.toks) (fun b o hb e=>(sb.2 b hb).trans e) f0 f1 f3 f4 f5;obtain⟨o,e,c,d⟩:=id st';exact⟨u,rfl,pB (s:={ s with heap:=h' }) e c d (by decide) ⟨x,H,I1,ru,⟨rfl,fun ys hy=>by rw[I.tuple_inj hy hq];exact hx⟩,st',fun b hb=>(hf b hb).1⟩⟩
 done:=by intro X hP hw hK hc i pins s σ H E I hf st hg;subst hP hw hK;obtain⟨xs,hq,hx⟩:=hg;obtain⟨its,rv,p,hz⟩:=I.tuple hq;obtain⟨f0,f1,f2,f3,f4,f5⟩:=hf it (by simp);have hl:=rv.length;exact wpAny_pyNext_tuple_end (I.ok.hd hc) st (show s.heap.IsTuple a its.toArray from p) (by simp;omega) fun h' eb=>⟨rfl,I.turned (t':=s.toks) (fun b o hb e=>eb b o hb e) f0 f1 f3 f4 f5⟩
 self:=fun _ _ _ _ _ st h=>wpAny_pyIter_tupleiter st h
theorem vd {P:Program}{w:World}{K:W.Frag}{tg:Expr}(it:Addr)(lo:Int)(n:Nat):pY P w K tg (Itr lo n) [it] it (fun i h=>IsRangeIter h it (lo+(i:Nat)*1) ((n:Int)-(i:Nat)) 1) where
 mem:=by simp
 obj:=fun i h st b hb=>by
  have e:b=it:=by simpa using hb
  subst e;exact⟨_,st,fun v z=>by have z':Data.fields _=Data.cell v:=z;cases z'⟩
 keep:=fun i h h' st k=>k it (by simp) _ st
 item:=by intro X hP hw hK hc i pins s σ H E I hf st hg;subst hP hw hK;obtain⟨f0,f1,f2,f3,f4,f5⟩:=hf it (by simp);have W:=Walks.range (prog:=X.prog) (w:=X.w) (I.ok.hd hc) it lo 1 n;refine W.item i s _ _ hg st fun v h' tk hv st' kk=>?_;obtain⟨t,rfl⟩:=hv;have I1:Inv X pins σ H { s with heap:=h',toks:=tk }:=I.turned (fun b o hb e=>kk b o (by simpa using hb) e) f0 f1 f3 f4 f5;refine ⟨_,rfl,pB (s:={ s with heap:=h',toks:=tk }) (n:="range_iterator") st' rfl rfl (by decide) ⟨.int (lo+i),H,I1,⟨t,?_⟩,⟨rfl,rfl⟩,st',fun b hb=>(hf b hb).1⟩⟩;rw[Int.mul_one]
 done:=by intro X hP hw hK hc i pins s σ H E I hf st hg;subst hP hw hK;obtain⟨f0,f1,f2,f3,f4,f5⟩:=hf it (by simp);exact wpAny_pyNext_range_end (I.ok.hd hc) st (by have:n<=i:=hg;omega) fun h' eb=>⟨rfl,I.turned (t':=s.toks) (fun b o hb e=>eb b o hb e) f0 f1 f3 f4 f5⟩
 self:=fun _ _ _ _ _ st h=>wpAny_pyIter_rangeiter st h
end L2
namespace L2
section
variable {X:Cx}{tg:Expr}
theorem BI {σ:St}{R:It->Hp->Prop}{E:Value->Shared->Prop}{lo hi:Int}{t u v:Tok}{tk:Nat}(I:Inv X pins σ H s)(h1:-(2 ^ 62)<=lo)(h2:lo<2 ^ 62)(h3:-(2 ^ 62)<=hi)(h4:hi<2 ^ 62)(q:R (Itr lo (hi-lo).toNat) H):wpAny (model X.prog X.w) X.A (pyIter (.ref s.heap.objs.size)) (PIE X pins σ tg R) E { s with heap:=s.heap.push { cls:=.type "range",data:=.fields #[.int lo t,.int hi u,.int 1 v] },toks:=tk }:=by
 refine wpAny_pyIter_range (IsRange.new ..) (small_one h1 h2 h3 h4) ?_;have I1:Inv X pins σ H { s with heap:=s.heap.push { cls:=.type "range",data:=.fields #[.int lo t,.int hi u,.int 1 v] },toks:=tk }:=I.kept fun b o e=>KB _ e;refine ⟨(s.heap.push { cls:=.type "range",data:=.fields #[.int lo t,.int hi u,.int 1 v] }).objs.size,[(s.heap.push { cls:=.type "range",data:=.fields #[.int lo t,.int hi u,.int 1 v] }).objs.size],_,_,H,rfl,
  I1.kept (t':=tk) fun b o e=>KB _ e,vd _ lo (hi-lo).toNat,?_,fun b hb=>?_,q⟩
 ·have e1:lo+((0:Nat):Int)*1=lo:=by simp
  have e2:(((hi-lo).toNat:Nat):Int)-((0:Nat):Int)=Builtin.Range.rangeSize lo hi 1:=by rw[rangeSize_one];split <;> omega
  show IsRangeIter _ _ (lo+((0:Nat):Int)*1) ((((hi-lo).toNat:Nat):Int)-((0:Nat):Int)) 1;rw[e1,e2];exact KI _ rfl
 ·have e:b=(s.heap.push { cls:=.type "range",data:=.fields #[.int lo t,.int hi u,.int 1 v] }).objs.size:=by simpa using hb
  subst e;exact I1.fpOk (KF _) (I1.hok.fresh (KF _))
noncomputable def Ir (ta:TA):TI:=fun σ H R=>ta σ H fun vs H1=>∃j:Int,vs=[.int j]/\-(2 ^ 62)<=j/\j<2 ^ 62/\R (Itr 0 j.toNat) H1
theorem wX {a:Expr}(hg:Gl X "range")(hm:X.mg "range"=none)(ha:PA X [a] ta)(hs:starEach [a] X.env=[(false,eval a X.env)]:=by rfl):PI X tg (.Call (.Name "range" p) [a] [] pos) (Ir ta):=by
 intro pins s σ H R I h;refine Call_ (jR I hg hm boot_range (MF (thn (ha pos pins s σ H _ I h) fun us s1 ⟨vs,H1,I1,r1,q1⟩=>?_) hs rfl));obtain⟨j,e,q1,q2,q⟩:=q1;subst e;cases r1 with
 | cons r rr =>cases rr;obtain⟨t,rfl⟩:=r;exact call_range_1 (BI I1 (by omega) (by omega) q1 q2 (by simpa using q))
noncomputable def FG (wi:TI)(g:TG)(tb:TS):TS:=fun D σ H=>wi σ H fun J H1=>∃W:Nat->Nat->St->Hp->Prop,(∃m,W 0 m σ H1)/\∀i m σ H,W i m σ H ->
 (J.stop i H/\D.nx σ H)\/(J.go i H/\∃N:St->Hp->Prop,(∀σ' H',N σ' H'->∃m',m'<m/\W (i+1) m' σ' H')/\∀x H',J.yld i H x H'->g x σ H' fun σ2 H2=>tb { D with nx:=N,ct:=N,bk:=D.nx } σ2 H2)
noncomputable def lC (fp:List Addr)(h:Heap):List (Addr × Obj):=fp.filterMap fun b=>(h.get? b).map fun o=>(b,o)
theorem fD {fp:List Addr}{h:Heap}{b:Addr}(hb:b∈fp)(e:h.get? b=some o):(b,o)∈lC fp h:=NY.mpr ⟨b,hb,by rw[e];rfl⟩
theorem xu {p:Addr × Obj}(hp:p∈lC fp h):p.1∈fp/\h.get? p.1=some p.2:=by
 obtain⟨b,hb,e⟩:=NY.mp hp;cases q:h.get? b with
 | none=>rw[q] at e;cases e
 | some o =>rw[q] at e;have e':(b,o)=p:=LL e;subst e';exact⟨hb,q⟩
theorem Inv.pinned {σ:St}{fp:List Addr}(I:Inv X pins σ H s)(hf:∀b∈fp,FpOk X pins H b)(ho:∀b∈fp,∃o,s.heap.get? b=some o/\∀v,o.data≠.cell v):Inv X (pins++lC fp s.heap) σ H s :=
 I.pins_of fun p hp=>(K7.mp hp).elim (fun z=>I.pin p (LM _ z)) fun z=>by obtain⟨hb,e⟩:=xu z;obtain⟨f0,f1,f2,_⟩:=hf p.1 hb;obtain⟨o,e',d⟩:=ho p.1 hb;rw[e] at e';cases e';exact⟨e,f0,f1,f2,d⟩
theorem Inv.unpinned {pins pl:List (Addr × Obj)}{σ:St}(I:Inv X (pins++pl) σ H s):Inv X pins σ H s:=I.pins_of fun p hp=>I.pin p (LM _ (List.mem_append_left _ hp))
theorem Bq (hp:PassesOwn (model X.prog X.w) X.A X.env X.xe)(hc:X.calm=true)(hi:PI X tg iter wi)(hg:PG X tg g)(hb:PSs X body tb)(hs:∀x,foldedSetIterable iter X.env x=pure x:=by intro _;rfl):PS X (.For tg iter body [] pos) (FG wi g tb):=by
 intro pins s σ H D I h;refine wpAny_For (thn (hi pins s σ H _ I h) fun v s1 h1=>thn h1 fun itv s2 h2=>?_) hs;obtain⟨it,fp,tn,J,H2,e,I2,T,st2,f2,W,⟨m0,w0⟩,turn⟩:=h2;subst e;have stat:∀ {H':Hp},(∀b∈fp,H' b=none)->∀b∈fp,FpOk X pins H' b:=fun hn b hb=>⟨hn b hb,(f2 b hb).2⟩;refine codeAny_forLoop_any (fun n s'=>∃i σ' H',Inv X pins σ' H' s'/\tn i s'.heap/\(∀b∈fp,H' b=none)/\W i n σ' H') ?_ m0 ⟨0,σ,H2,I2,st2,fun b hb=>(f2 b hb).1,w0⟩;rintro n s3 ⟨i,σ3,H3,I3,st3,fr3,w3⟩;rcases turn i n σ3 H3 w3 with⟨stop,qn⟩|⟨go,N,hN,step⟩
 ·refine wpAny_passesOwn hp (thn (T.done X rfl rfl rfl hc i pins s3 σ3 H3 X.xe I3 (stat fr3) st3 stop) fun r s4 ⟨hr,I4⟩=>?_);subst hr;exact wpAny_execs_nil ⟨σ3,H3,I4,qn⟩
 ·refine wpAny_passesOwn hp (thn (T.item X rfl rfl rfl hc i pins s3 σ3 H3 X.xe I3 (stat fr3) st3 go) fun r s4 ⟨u,hr,h4⟩=>?_);subst hr;refine wpAny_passesOwn hp (thn h4 fun _ s5 ⟨x,H5,I5,r5,y5,st5,fr5⟩=>?_);have I5':=I5.pinned (stat fr5) (T.obj _ _ st5);refine wpAny_passesOwn hp (thn (hg _ s5 σ3 H5 x u _ I5' r5 (step x H5 y5)) fun _ s6 ⟨σ6,H6,I6,q6⟩=>?_);refine wpAny_passesOwn hp (thn (hb _ s6 σ6 H6 _ I6 q6) fun f s7 q7=>?_);have again:∀ {σ7:St}{H7:Hp},Inv X (pins++lC fp s5.heap) σ7 H7 s7->N σ7 H7->∃m,m<n/\∃i σ' H',Inv X pins σ' H' s7/\tn i s7.heap/\(∀b∈fp,H' b=none)/\W i m σ' H':=fun {σ7 H7} I7 n7=>by obtain⟨m',hm,w7⟩:=hN σ7 H7 n7;refine⟨m',hm,i+1,σ7,H7,I7.unpinned,T.keep _ _ _ st5 fun b hb o e=>(I7.pin (b,o) (LM _ (LM _ (fD hb e)))).1,fun b hb=>?_,w7⟩;obtain⟨o,e,d⟩:=T.obj _ _ st5 b hb;exact(I7.pin (b,o) (LM _ (LM _ (fD hb e)))).2.1
  cases f with
  | next=>obtain⟨σ7,H7,I7,n7⟩:=q7;exact again I7 n7
  | cont=>obtain⟨σ7,H7,I7,n7⟩:=q7;exact again I7 n7
  | brk=>obtain⟨σ7,H7,I7,q7⟩:=q7;exact⟨σ7,H7,I7.unpinned,q7⟩
  | ret v=>obtain⟨x7,σ7,H7,I7,r7,q7⟩:=q7;exact⟨x7,σ7,H7,I7.unpinned,r7,q7⟩
end
end L2
namespace L2
noncomputable abbrev R2:=V->V->Hp->VK->Prop
def OpR (X:Cx)(f:Value->Value->Sem Value)(r:R2):Prop :=
 ∀(pins:List (Addr × Obj)) (s:Shared) (σ:St) (H:Hp) (x y:V) (v u:Value) (Q:VK),Inv X pins σ H s->RelV x v->RelV y u->r x y H Q ->
  wpAny (model X.prog X.w) X.A (f v u) (EP X pins σ Q) X.xe s
def UnR (X:Cx)(f:Value->Sem Value)(r:V->Hp->VK->Prop):Prop :=
 ∀(pins:List (Addr × Obj)) (s:Shared) (σ:St) (H:Hp) (x:V) (v:Value) (Q:VK),Inv X pins σ H s->RelV x v->r x H Q ->
  wpAny (model X.prog X.w) X.A (f v) (EP X pins σ Q) X.xe s
def cV (X:Cx)(f:Value)(r:List V->Hp->VK->Prop):Prop :=
 ∀(pins:List (Addr × Obj)) (s:Shared) (σ:St) (H:Hp) (xs:List V) (us:List Value) (Q:VK),Inv X pins σ H s->Vals xs us->r xs H Q ->
  wpAny (model X.prog X.w) X.A (call f us) (EP X pins σ Q) X.xe s
def Kn (X:Cx)(r:V->Hp->(Bool->Hp->Prop)->Prop):Prop :=
 ∀(pins:List (Addr × Obj)) (s:Shared) (σ:St) (H:Hp) (x:V) (v:Value) (Q:Bool->Hp->Prop),Inv X pins σ H s->RelV x v->r x H Q ->
  wpAny (model X.prog X.w) X.A (truthy v) (TP X pins σ Q) X.xe s
noncomputable def tOp (r:R2)(ta tb:TE):TE:=fun σ H Q=>ta σ H fun x H1=>tb σ H1 fun y H2=>r x y H2 Q
noncomputable def tUn (r:V->Hp->VK->Prop)(ta:TE):TE:=fun σ H Q=>ta σ H fun x H1=>r x H1 Q
noncomputable def rI (C:Int->Int->Prop)(g:Int->Int->V):R2:=fun x y H Q=>∃i j,x=.int i/\y=.int j/\C i j/\Q (g i j) H
noncomputable def rI0 (g:Int->Int->V):R2:=fun x y H Q=>∃i j,x=.int i/\y=.int j/\Q (g i j) H
noncomputable def rU (g:Int->V):V->Hp->VK->Prop:=fun x H Q=>∃i,x=.int i/\Q (g i) H
section
variable {X:Cx}{a b c:Expr}{ta tb tc:TE}{pos:Pos}
theorem F6 (ha:PE X a ta)(hb:PE X b tb){σ:St}{R:V->V->Hp->Prop}(I:Inv X pins σ H s)(h:ta σ H fun x H1=>tb σ H1 fun y H2=>R x y H2){f:Value->Value->Sem Value}(hf:∀v u s2 x y H2,Inv X pins σ H2 s2->RelV x v->RelV y u->R x y H2->wpAny (model X.prog X.w) X.A (f v u) Q X.xe s2) :
  wpAny (model X.prog X.w) X.A (eval a X.env) (fun v s₁=>wpAny (model X.prog X.w) X.A (eval b X.env) (fun u s₂=>wpAny (model X.prog X.w) X.A (f v u) Q X.xe s₂) X.xe s₁) X.xe s:=by
 refine thn (ha pins s σ H _ I h) fun v s1 ⟨x,H1,I1,r1,q1⟩=>?_;refine thn (hb pins s1 σ H1 _ I1 q1) fun u s2 ⟨y,H2,I2,r2,q2⟩=>?_;exact hf v u s2 x y H2 I2 r1 r2 q2
theorem Hl (ho:OpR X (binaryOp op) r)(ha:PE X a ta)(hb:PE X b tb):PE X (.BinOp a op b pos) (tOp r ta tb):=by intro pins s σ H Q I h;exact wpAny_BinOp (F6 ha hb I h fun v u s2 x y H2 I2 rx ry q=>ho pins s2 σ H2 x y v u Q I2 rx ry q)
theorem Dw (ho:UnR X (unaryOp op) r)(ha:PE X a ta):PE X (.UnaryOp op a pos) (tUn r ta):=by intro pins s σ H Q I h;exact UnaryOp_ (thn (ha pins s σ H _ I h) fun v s1 ⟨x,H1,I1,r1,q1⟩=>ho pins s1 σ H1 x v Q I1 r1 q1)
theorem opI {f:Value->Value->Sem Value}{C:Int->Int->Prop}{g:Int->Int->Int}
  (rule:∀(i j:Int) (t u:Tok) (s:Shared) (Q:Value->Shared->Prop) (E:Value->Shared->Prop),C i j->Q (.int (g i j) s.toks) { s with toks:=s.toks+1 }->wpAny (model X.prog X.w) X.A (f (.int i t) (.int j u)) Q E s) :
  OpR X f (rI C fun i j=>.int (g i j)):=by
 intro pins s σ H x y v u Q I rx ry h;obtain⟨i,j,rfl,rfl,hc,q⟩:=h;obtain⟨t,rfl⟩:=rx;obtain⟨t',rfl⟩:=ry;exact rule i j t t' s _ _ hc ⟨.int (g i j),H,I.tok _,⟨_,rfl⟩,q⟩
theorem HZ {f:Value->Value->Sem Value}{g:Int->Int->Int}
  (rule:∀(i j:Int) (t u:Tok) (s:Shared) (Q:Value->Shared->Prop) (E:Value->Shared->Prop),Q (.int (g i j) s.toks) { s with toks:=s.toks+1 }->wpAny (model X.prog X.w) X.A (f (.int i t) (.int j u)) Q E s) :
  OpR X f (rI0 fun i j=>.int (g i j)):=by
 intro pins s σ H x y v u Q I rx ry h;obtain⟨i,j,rfl,rfl,q⟩:=h;obtain⟨t,rfl⟩:=rx;obtain⟨t',rfl⟩:=ry;exact rule i j t t' s _ _ ⟨.int (g i j),H,I.tok _,⟨_,rfl⟩,q⟩
theorem Ge {f:Value->Value->Sem Value}{g:Int->Int->Bool}
  (rule:∀(i j:Int) (t u:Tok) (s:Shared) (Q:Value->Shared->Prop) (E:Value->Shared->Prop),Q (.bool (g i j)) s->wpAny (model X.prog X.w) X.A (f (.int i t) (.int j u)) Q E s) :
  OpR X f (rI0 fun i j=>.bl (g i j)):=by
 intro pins s σ H x y v u Q I rx ry h;obtain⟨i,j,rfl,rfl,q⟩:=h;obtain⟨t,rfl⟩:=rx;obtain⟨t',rfl⟩:=ry;exact rule i j t t' s _ _ ⟨.bl (g i j),H,I,rfl,q⟩
def Ac (i j:Int):Prop:=0<=j/\j<=1000000/\i.natAbs<2 ^ 64
theorem FE:OpR X (binaryOp .Add) (rI0 fun i j=>.int (i+j)):=HZ fun _ _ _ _ _ _ _ q=>add_int q
theorem FT:OpR X (binaryOp .Sub) (rI0 fun i j=>.int (i-j)):=HZ fun _ _ _ _ _ _ _ q=>sub_int q
theorem FV:OpR X (binaryOp .Mod) (rI (fun _ j=>0<j) fun i j=>.int (i % j)):=opI fun i j _ _ _ _ _ hc q=>by have h1:(0:Int)<j:=hc;exact mod_int' (by omega) (by rw[Int.fmod_eq_emod_of_nonneg i (by omega)];exact q)
theorem FS:OpR X (binaryOp .Pow) (rI Ac fun i j=>.int (i ^ j.toNat)):=opI fun _ _ _ _ _ _ _ hc q=>pow_int_small hc.1 hc.2.1 hc.2.2 q
theorem unI {f:Value->Sem Value}{g:Int->Int}
  (rule:∀(i:Int) (t:Tok) (s:Shared) (Q:Value->Shared->Prop) (E:Value->Shared->Prop),Q (.int (g i) s.toks) { s with toks:=s.toks+1 }->wpAny (model X.prog X.w) X.A (f (.int i t)) Q E s) :
  UnR X f (rU fun i=>.int (g i)):=by
 intro pins s σ H x v Q I rx h;obtain⟨i,rfl,q⟩:=h;obtain⟨t,rfl⟩:=rx;exact rule i t s _ _ ⟨.int (g i),H,I.tok _,⟨_,rfl⟩,q⟩
theorem yj:UnR X (unaryOp .USub) (rU fun i=>.int (-i)):=unI fun _ _ _ _ _ q=>neg_int q
end
noncomputable def Hr:V->V->Bool
 | .non,.non=>true | .non,.int _=>true | .int _,.non=>true | .non,.bl _=>true | .bl _,.non=>true | .non,.str _=>true | .str _,.non=>true
 | .int _,.int _=>true | .bl _,.bl _=>true | .str _,.str _=>true | .byt _,.byt _=>true
 | .int _,.str _=>true | .str _,.int _=>true | .bl _,.str _=>true | .str _,.bl _=>true
 | _,_=>false
noncomputable def rEq:R2:=fun x y H Q=>Hr x y=true/\Q (.bl (decide (x=y))) H
noncomputable def rNe:R2:=fun x y H Q=>Hr x y=true/\Q (.bl (!decide (x=y))) H
theorem wz:decide (V.int i=V.int j)=(i == j):=by rw[NT];simp
theorem BX:decide (V.bl i=V.bl j)=(i == j):=by rw[NT];simp
theorem vC:decide (V.str i=V.str j)=(i == j):=by rw[NT];simp
theorem v7 {i j:Array UInt8}:decide (V.byt i=V.byt j)=(i.toList == j.toList):=by rw[NT];cases i;cases j;simp
section
variable {X:Cx}{a b c:Expr}{ta tb tc:TE}{pos:Pos}
theorem aC {σ:St}{Q:VK}{k':Bool}(I:Inv X pins σ H s)(q:Q (.bl k) H)(e:k=k'):EP X pins σ Q (.bool k') s:=by subst e;exact⟨.bl k,H,I,rfl,q⟩
theorem BP:OpR X (compareOp .Eq) rEq:=by
 intro pins s σ H x y v u Q I rx ry h;obtain⟨hs,q⟩:=h;cases x with
 | non =>
  cases rx;cases y with
  | non=>cases ry;exact PySem.EqNone.eq_none_none (aC I q (by simp))
  | bl j=>cases ry;exact PySem.EqNone.eq_none_bool (aC I q (by simp))
  | int j=>obtain⟨t',rfl⟩:=ry;exact PySem.EqNone.eq_none_int (aC I q (by simp))
  | str j=>obtain⟨t',rfl⟩:=ry;exact PySem.EqNone.eq_none_str (aC I q (by simp))
  | _=>exact absurd (show false=true from hs) KD
 | bl i =>
  cases rx;cases y with
  | non=>cases ry;exact PySem.EqNone.eq_bool_none (aC I q (by simp))
  | bl j=>cases ry;exact eq_bool (aC I q BX)
  | str j=>obtain⟨t',rfl⟩:=ry;exact PySem.EqMixed.eq_bool_str (aC I q (by simp))
  | _=>exact absurd (show false=true from hs) KD
 | int i =>
  obtain⟨t,rfl⟩:=rx;cases y with
  | non=>cases ry;exact PySem.EqNone.eq_int_none (aC I q (by simp))
  | int j=>obtain⟨t',rfl⟩:=ry;exact eq_int (aC I q wz)
  | str j=>obtain⟨t',rfl⟩:=ry;exact PySem.EqMixed.eq_int_str (aC I q (by simp))
  | _=>exact absurd (show false=true from hs) KD
 | str i =>
  obtain⟨t,rfl⟩:=rx;cases y with
  | non=>cases ry;exact PySem.EqNone.eq_str_none (aC I q (by simp))
  | bl j=>cases ry;exact PySem.EqMixed.eq_str_bool (aC I q (by simp))
  | int j=>obtain⟨t',rfl⟩:=ry;exact PySem.EqMixed.eq_str_int (aC I q (by simp))
  | str j=>obtain⟨t',rfl⟩:=ry;exact eq_str (aC I q vC)
  | _=>exact absurd (show false=true from hs) KD
 | byt i =>
  obtain⟨t,rfl⟩:=rx;cases y with
  | byt j=>obtain⟨t',rfl⟩:=ry;exact W.eq_bytes (aC I q v7)
  | _=>exact absurd (show false=true from hs) KD
 | _=>cases y <;> exact absurd (show false=true from hs) KD
theorem yL:OpR X (compareOp .NotEq) rNe:=by
 intro pins s σ H x y v u Q I rx ry h;obtain⟨hs,q⟩:=h;cases x with
 | non =>
  cases rx;cases y with
  | non=>cases ry;exact PySem.EqNone.ne_none_none (aC I q (by simp))
  | bl j=>cases ry;exact PySem.EqNone.ne_none_bool (aC I q (by simp))
  | int j=>obtain⟨t',rfl⟩:=ry;exact PySem.EqNone.ne_none_int (aC I q (by simp))
  | str j=>obtain⟨t',rfl⟩:=ry;exact PySem.EqNone.ne_none_str (aC I q (by simp))
  | _=>exact absurd (show false=true from hs) KD
 | bl i =>
  cases rx;cases y with
  | non=>cases ry;exact PySem.EqNone.ne_bool_none (aC I q (by simp))
  | bl j=>cases ry;exact ne_bool (aC I q (LG not BX))
  | str j=>obtain⟨t',rfl⟩:=ry;exact PySem.EqMixed.ne_bool_str (aC I q (by simp))
  | _=>exact absurd (show false=true from hs) KD
 | int i =>
  obtain⟨t,rfl⟩:=rx;cases y with
  | non=>cases ry;exact PySem.EqNone.ne_int_none (aC I q (by simp))
  | int j=>obtain⟨t',rfl⟩:=ry;exact ne_int (aC I q (LG not wz))
  | str j=>obtain⟨t',rfl⟩:=ry;exact PySem.EqMixed.ne_int_str (aC I q (by simp))
  | _=>exact absurd (show false=true from hs) KD
 | str i =>
  obtain⟨t,rfl⟩:=rx;cases y with
  | non=>cases ry;exact PySem.EqNone.ne_str_none (aC I q (by simp))
  | bl j=>cases ry;exact PySem.EqMixed.ne_str_bool (aC I q (by simp))
  | int j=>obtain⟨t',rfl⟩:=ry;exact PySem.EqMixed.ne_str_int (aC I q (by simp))
  | str j=>obtain⟨t',rfl⟩:=ry;exact ne_str (aC I q (LG not vC))
  | _=>exact absurd (show false=true from hs) KD
 | byt i =>
  obtain⟨t,rfl⟩:=rx;cases y with
  | byt j=>obtain⟨t',rfl⟩:=ry;exact W.ne_bytes (aC I q (LG not v7))
  | _=>exact absurd (show false=true from hs) KD
 | _=>cases y <;> exact absurd (show false=true from hs) KD
theorem IB:OpR X (compareOp .Lt) (rI0 fun i j=>.bl (decide (i<j))):=Ge fun _ _ _ _ _ _ _ q=>lt_int q
theorem Ja:OpR X (compareOp .Gt) (rI0 fun i j=>.bl (decide (j<i))):=Ge fun _ _ _ _ _ _ _ q=>gt_int q
theorem HP:OpR X (compareOp .GtE) (rI0 fun i j=>.bl (decide (j<=i))):=Ge fun _ _ _ _ _ _ _ q=>ge_int q
theorem yc:OpR X (compareOp .Lt) (fun x y H Q=>∃i j,x=.str i/\y=.str j/\Q (.bl (decide (i.cps.toList<j.cps.toList))) H):=by intro pins s σ H x y v u Q I rx ry h;obtain⟨i,j,rfl,rfl,q⟩:=h;obtain⟨t,rfl⟩:=rx;obtain⟨t',rfl⟩:=ry;exact lt_str (aC I q rfl)
theorem xp:OpR X (compareOp .In) (fun x y H Q=>∃i j,x=.str i/\y=.str j/\Q (.bl (!(Builtin.Str.occurrences j i 0 j.length 1).isEmpty)) H):=by intro pins s σ H x y v u Q I rx ry h;obtain⟨i,j,rfl,rfl,q⟩:=h;obtain⟨t,rfl⟩:=rx;obtain⟨t',rfl⟩:=ry;exact in_str (aC I q rfl)
theorem Gp:OpR X (compareOp .Is) (fun x y H Q=>y=.non/\Q (.bl (decide (x=.non))) H):=by
 intro pins s σ H x y v u Q I rx ry h;obtain⟨rfl,q⟩:=h;cases ry;refine is_none_gen (aC I q ?_);cases x <;> first
  | (cases rx;rfl)
  | (obtain⟨t,rfl⟩:=rx;rfl)
theorem Dl:OpR X (compareOp .IsNot) (fun x y H Q=>y=.non/\Q (.bl (!decide (x=.non))) H):=by
 intro pins s σ H x y v u Q I rx ry h;obtain⟨rfl,q⟩:=h;cases ry;refine isnot_none_gen (aC I q ?_);cases x <;> first
  | (cases rx;rfl)
  | (obtain⟨t,rfl⟩:=rx;rfl)
theorem Cr (ho:OpR X (compareOp op) r)(ha:PE X a ta)(hb:PE X b tb)(hm:behindInMarks op b=false):PE X (.Compare a [op] [b] pos) (tOp r ta tb):=by intro pins s σ H Q I h;exact wpAny_Compare1 (F6 ha hb I h fun v u s2 x y H2 I2 rx ry q=>ho pins s2 σ H2 x y v u Q I2 rx ry q) hm
noncomputable def HF (t:TE):TT:=fun σ H Q=>t σ H fun x H'=>∃k,x=.bl k/\Q k H'
theorem Ds (ho:OpR X (compareOp op) r)(ha:PE X a ta)(hb:PE X b tb)(hm:behindInMarks op b=false):PT X (.Compare a [op] [b] pos) (HF (tOp r ta tb)):=by
 intro pins s σ H Q I h;refine wpAny_isTrue_Compare1 (thn (ha pins s σ H _ I h) fun v s1 ⟨x,H1,I1,r1,q1⟩=>thn (hb pins s1 σ H1 _ I1 q1) fun u s2 ⟨y,H2,I2,r2,q2⟩ =>
  thn (ho pins s2 σ H2 x y v u _ I2 r1 r2 q2) fun c s3 ⟨z,H3,I3,r3,k,e,q3⟩=>?_) hm
 subst e;cases r3;exact wpAny_truthy_bool ⟨H3,I3,q3⟩
def FF (K:W.Frag)(x:V)(H:Hp)(k:Bool):Prop :=
 match x with
 | .non=>k=false
 | .bl b=>k=b
 | .int i=>k=(i != 0)
 | .str y=>y.length<=sizeLine/\k=((y.length:Int) != 0)
 | .byt y=>y.size<=sizeLine/\k=((y.size:Int) != 0)
 | .ref p=>(∃xs,SqL K H p xs/\k=!xs.isEmpty)\/(∃xs,SqT K H p xs/\k=!xs.isEmpty)\/∃kvs,H p=some (.dK kvs)/\k=!kvs.isEmpty
 | _=>False
theorem um {κ:Type}{kvs:List (κ × V)}{vs:List (κ × Value)}(r:KV kvs vs):(!vs.isEmpty)=!kvs.isEmpty:=by cases r <;> rfl
theorem mI (r:Vals xs its):(!its.toArray.isEmpty)=!xs.isEmpty:=by cases r <;> simp
theorem iM:(sizeLine:Nat)<2 ^ 63:=by rw[sizeLine_eq];decide
theorem GR:Kn X (fun x H Q=>∃k,FF X.K x H k/\Q k H):=by
 intro pins s σ H x v Q I rx h;obtain⟨k,e,q⟩:=h;have hl:=iM;have hs:sizeLine=16777216:=sizeLine_eq;cases x with
 | non =>cases rx;have e':k=false:=e;subst e';exact truthy_none ⟨H,I,q⟩
 | bl b =>cases rx;have e':k=b:=e;subst e';exact wpAny_truthy_bool ⟨H,I,q⟩
 | int i =>obtain⟨t,rfl⟩:=rx;have e':k=(i != 0):=e;subst e';exact PySem.P.truthy_int ⟨H,I,q⟩
 | str y =>obtain⟨t,rfl⟩:=rx;obtain⟨hy,e'⟩:y.length<=sizeLine/\k=((y.length:Int) != 0):=e;subst e';exact PySem.P.truthy_str (by omega) ⟨H,I.tok _,q⟩
 | byt y =>obtain⟨t,rfl⟩:=rx;obtain⟨hy,e'⟩:y.size<=sizeLine/\k=((y.size:Int) != 0):=e;subst e';exact W.truthy_bytes (by omega) ⟨H,I.tok _,q⟩
 | ref p =>
  cases rx;have e':(∃xs,SqL X.K H p xs/\k=!xs.isEmpty)\/(∃xs,SqT X.K H p xs/\k=!xs.isEmpty)\/∃kvs,H p=some (.dK kvs)/\k=!kvs.isEmpty:=e;rcases e' with⟨xs,hx,e'⟩|⟨xs,hx,e'⟩|⟨kvs,hx,e'⟩
  ·subst e';obtain⟨its,r,pl,hz⟩:=I.list hx;have hlen:=r.length;exact wpAny_truthy_list pl.isList (by simp only[List.size_toArray];omega) ⟨H,I.tok _,by rw[mI r];exact q⟩
  ·subst e';obtain⟨its,r,pl,hz⟩:=I.tuple hx;have hlen:=r.length;exact truthy_tuple pl (by simp only[List.size_toArray];omega) ⟨H,I.tok _,by rw[mI r];exact q⟩
  ·subst e';obtain⟨hz,hS,vs,r,m⟩:kvs.length<=sizeLine/\(p == sysModules)=false/\∃vs,KV kvs vs/\s.heap.DictOf (aV X.prog X.w) p vs:=I.hok p _ hx;have hlen:kvs.length=vs.length:=Paired.length r;exact wpAny_truthy_dict hS m (by omega) ⟨H,I.tok _,by rw[um r];exact q⟩
 | _=>exact(show False from e).elim
theorem fw (ha:PE X a ta)(he:∀whole,isTrue a X.env whole=(do let v <-whole;standAt a.pos;holding [v] (truthy v))) :
  PT X a (fun σ H Q=>ta σ H fun x H'=>∃k,FF X.K x H' k/\Q k H'):=by
 intro pins s σ H Q I h;exact isTrue_plain (thn (ha pins s σ H _ I h) fun v s1 ⟨x,H1,I1,r1,q1⟩=>GR pins s1 σ H1 x v Q I1 r1 q1) (he _)
theorem uN:OpR X (binaryOp .Add) (fun x y H Q=>∃i j,x=.str i/\y=.str j/\i.length+j.length<=sizeLine/\Q (.str (i++j)) H):=by intro pins s σ H x y v u Q I rx ry h;obtain⟨i,j,rfl,rfl,hz,q⟩:=h;obtain⟨t,rfl⟩:=rx;obtain⟨t',rfl⟩:=ry;exact add_str (fun t' tk=>⟨.str (i++j),H,I.tok _,⟨_,rfl⟩,q⟩) hz
theorem bC {x:V}(r:Vals [x] us):∃u,us=[u]/\RelV x u:=by
 cases r with
 | cons r1 r2=>cases r2;exact⟨_,rfl,r1⟩
theorem sv {x:V}(r:Vals [x,y] us):∃u w',us=[u,w']/\RelV x u/\RelV y w':=by
 cases r with
 | cons r1 r2 =>
  cases r2 with
  | cons r3 r4=>cases r4;exact⟨_,_,rfl,r1,r3⟩
theorem xr (hc:X.calm=true):cV X (.builtin "max") (fun xs H Q=>∃i j,xs=[.int i,.int j]/\Q (.int (if j > i then j else i)) H):=by
 intro pins s σ H xs us Q I r h;obtain⟨i,j,rfl,q⟩:=h;obtain⟨u,w',rfl,⟨t,rfl⟩,⟨t',rfl⟩⟩:=sv r;refine max_two_ints (I.ok.hd hc) fun h' tk k=>⟨_,H,I.kept k,?_,q⟩;by_cases hj:j > i
 ·rw[KZ hj,KZ hj];exact⟨_,rfl⟩
 ·rw[KS hj,KS hj];exact⟨_,rfl⟩
theorem xS (hc:X.calm=true):cV X (.builtin "min") (fun xs H Q=>∃i j,xs=[.int i,.int j]/\Q (.int (if j<i then j else i)) H):=by
 intro pins s σ H xs us Q I r h;obtain⟨i,j,rfl,q⟩:=h;obtain⟨u,w',rfl,⟨t,rfl⟩,⟨t',rfl⟩⟩:=sv r;refine min_two_ints (I.ok.hd hc) fun h' tk k=>⟨_,H,I.kept k,?_,q⟩;by_cases hj:j<i
 ·rw[KZ hj,KZ hj];exact⟨_,rfl⟩
 ·rw[KS hj,KS hj];exact⟨_,rfl⟩
theorem xw:cV X (.type "int") (fun xs H Q=>(∃i,xs=[.int i]/\Q (.int i) H)\/∃k,xs=[.bl k]/\Q (.int (if k then 1 else 0)) H):=by
 intro pins s σ H xs us Q I r h;rcases h with⟨i,rfl,q⟩|⟨k,rfl,q⟩
 ·obtain⟨u,rfl,t,rfl⟩:=bC r;exact call_int_int ⟨.int i,H,I,⟨_,rfl⟩,q⟩
 ·obtain⟨u,rfl,r1⟩:=bC r;cases r1;exact call_int_bool ⟨.int (if k then 1 else 0),H,I.tok _,⟨_,rfl⟩,q⟩
theorem qB:cV X (.type "str") (fun xs H Q=>∃i,xs=[.int i]/\i.natAbs.log2<1920/\Q (.str (toString i)) H):=by intro pins s σ H xs us Q I r h;obtain⟨i,rfl,hz,q⟩:=h;obtain⟨u,rfl,t,rfl⟩:=bC r;exact PySem.P.str_of_int hz ⟨.str _,H,I.tok _,⟨_,rfl⟩,q⟩
end
end L2
namespace L2
structure ObjM (h:Heap)(x dx C:Addr)(mA:Str->Option Value):Prop where
 obj:h.get? x=some (W.instObj C dx)
 ns:h.Ns1 dx mA
 ne:dx≠x
theorem xB {h:Heap}(n:h.Ns1 dx mA):∃od,h.get? dx=some od/\∀name,W.lookIn name od=some (mA name):=by
 obtain⟨o,es,ep,ho,hd,hk,_,hm⟩:=n;refine⟨o,ho,fun name=>?_⟩;have e:=hm name;unfold nsFind findBy at e;rw[<-Array.find?_toList] at e;unfold W.lookIn;rw[hd];dsimp only;split
 ·rename_i y q;rw[q] at e;exact LG some e
 ·rename_i q;rw[q] at e;have a:es.toList.any (·.refKey)=false:=by rw[List.any_eq_false];intro y hy;obtain⟨z,t,hkey⟩:=hk y (M1.mp hy);simp[DictEntry.refKey,hkey]
  have a':¬es.toList.any (·.refKey)=true:=by rw[a];exact KD
  rw[KS a'];exact LG some e
theorem ObjM.look (I:ObjM h x dx C mA):∃od,W.InstAt h x (W.instObj C dx) C (some od)/\∀name,W.lookIn name od=some (mA name) :=
 let ⟨od,ho,hl⟩:=xB I.ns
 ⟨od,⟨I.obj,rfl,rfl,ho⟩,hl⟩
section
variable {prog:Program}{w:World}{A:Around}{E:Value->Shared->Prop}{s:Shared}{K:W.Frag}{x dx C f:Addr}{mA:Str->Option Value}{name:Str}{v:Value}
end
theorem RelO.some_of (r:RelO (some v) o):∃u,o=some u/\RelV v u:=by
 cases o with
 | none=>exact(show False from r).elim
 | some u=>exact⟨u,rfl,r⟩
section
variable {P:Program}{w:World}{H H':Hp}{h h':Heap}{a C dx:Addr}{fs fs':List (Str × V)}
theorem B5 (hok:HOk P w H h)(e:H a=some (.ins C dx fs)):∃mA,ObjM h a dx C mA/\(∀f,RelO (fs.lookup f) (mA f))/\PySem.Within mA (fs.map (·.1))/\fs.length<=1000/\H dx=some (.own a):=by obtain⟨d,z,ne,ob,mA,n,r,q⟩:=(show ObjOk P w H h a (.ins C dx fs) from hok a _ e);exact⟨mA,⟨ob,n,ne⟩,r,q,z,d⟩
end
structure Cls (K:W.Frag)(C:Addr):Prop where
 pg:W.plainGet K C Str.empty=true
 hd:W.hasDictIn K C=true
 po:W.plainOver K C=true
 sa:W.findIn K (.ref C) "__setattr__"=some (some (.builtin "object.__setattr__"))
theorem Cls.get (c:Cls K C)(f:Str):W.plainGet K C f=true:=c.pg
structure Con (K:W.Frag)(C:Addr)(f:Str)(v:V)(u:Value):Prop where
 at_:W.findIn K (.ref C) f=some (some u)
 rel:RelV v u
 get:W.specialIn K u "__get__"=some none
 cp:W.copiedNames.contains f=false
structure Ky (K:W.Frag)(C:Addr)(m:Str)(f:Addr):Prop where
 at_:W.findIn K (.ref C) m=some (some (.ref f))
 fn:W.isFn K (.ref f)=true
 kp:W.keepIn K (.ref f)=true
section
variable {X:Cx}{pins:List (Addr × Obj)}{σ:St}{H:Hp}{s:Shared}{a C dx:Addr}{fs:List (Str × V)}{f:Str}{v:V}{A:Around}{E:Value->Shared->Prop}
end
section
variable {X:Cx}{o e value:Expr}{f:Str}{pos pos' tpos:Pos}{ta tv:TE}
end
section
variable {X:Cx}{pins:List (Addr × Obj)}{σ:St}{H:Hp}{s:Shared}{A:Around}{E:Value->Shared->Prop}{Q:Value->Shared->Prop}{c:Value}{b:Bool}
inductive kE (K:W.Frag)(H:Hp):V->Value->Prop where
 | non:kE K H .non (.type "NoneType")
 | bl (x:Bool):kE K H (.bl x) (.type "bool")
 | int (i:Int):kE K H (.int i) (.type "int")
 | str (x:Str):kE K H (.str x) (.type "str")
 | flt (x:UInt64):kE K H (.flt x) (.type "float")
 | lst {a:Addr} {xs:List V} (e:H a=some (.lst xs)):kE K H (.ref a) (.type "list")
 | frz {a:Addr} {o:Obj} {xs:List V} (e:H a=some (.frz o (.lst xs))):kE K H (.ref a) (.type "list")
 | tup {a:Addr} {xs:List V} (e:H a=some (.tup xs)):kE K H (.ref a) (.type "tuple")
 | dK {a:Addr} {kvs:List (Key × V)} (e:H a=some (.dK kvs)):kE K H (.ref a) (.type "dict")
 | dT {a:Addr} {kvs:List (List Key × V)} (e:H a=some (.dT kvs)):kE K H (.ref a) (.type "dict")
 | ins {a C dx:Addr} {fs:List (Str × V)} (e:H a=some (.ins C dx fs)) (cl:Cls K C) (ha:W.findIn K (.ref C) "__class__"=some (some (.builtin "object.__class__")))
   (hn:W.specialIn K (.builtin "object.__class__") "__get__"=some (some (.builtin "getset_descriptor.__get__"))) (htk:W.takesIn K (.builtin "object.__class__")=some true)
   (hm:W.mroIn K C (.type "object")=some true):kE K H (.ref a) (.ref C)
theorem dG (I:Inv X pins σ H s)(rx:RelV x u)(ty:kE X.K H x t)(e:W.kitOne X.K t c=some b)(h:∀tk,Q (.bool b) { s with toks:=tk }) :
  wpAny (model X.prog X.w) A (call (.builtin "isinstance") [u,c]) Q E s:=by
 cases ty with
 | non=>cases (show u=Value.none from rx);exact MC W.kitx_none I.kIn True.intro e (fun z=>nomatch z) h
 | bl y=>cases (show u=Value.bool y from rx);exact MC W.kitx_bool I.kIn True.intro e (fun z=>nomatch z) h
 | int i=>obtain⟨t,q⟩:=(show ∃t,u=Value.int i t from rx);cases q;exact MC W.kitx_int I.kIn True.intro e (fun z=>nomatch z) h
 | str y=>obtain⟨t,q⟩:=(show ∃t,u=Value.str y t from rx);cases q;exact MC W.kitx_str I.kIn True.intro e (fun z=>nomatch z) h
 | flt y=>obtain⟨t,q⟩:=(show ∃t,u=Value.float y t from rx);cases q;exact MC W.kitx_float I.kIn True.intro e (fun z=>nomatch z) h
 | @lst a xs ea =>cases (show u=Value.ref a from rx);obtain⟨_,_,n,_,h1⟩:=(show ObjOk X.prog X.w H s.heap a (.lst xs) from I.hok a _ ea);exact MC OZ I.kIn ⟨_,h1,rfl⟩ e (fun z=>nomatch z) h
 | @frz a ob xs ea =>cases (show u=Value.ref a from rx);obtain⟨_,_,_,n,_,h1⟩:=(show ObjOk X.prog X.w H s.heap a (.frz ob (.lst xs)) from I.hok a _ ea);exact MC OZ I.kIn ⟨_,h1,rfl⟩ e (fun z=>nomatch z) h
 | @tup a xs ea =>cases (show u=Value.ref a from rx);obtain⟨_,_,_,p⟩:=(show ObjOk X.prog X.w H s.heap a (.tup xs) from I.hok a _ ea);obtain⟨o,h1,h2,_⟩:=p;exact MC W.kitx_tuple I.kIn ⟨o,h1,h2⟩ e (fun z=>nomatch z) h
 | @dK a kvs ea =>cases (show u=Value.ref a from rx);obtain⟨_,_,vs,_,p⟩:=(show ObjOk X.prog X.w H s.heap a (.dK kvs) from I.hok a _ ea);obtain⟨o,es,ep,h1,h2,_⟩:=p;exact MC OR I.kIn ⟨o,h1,h2.1⟩ e (fun z=>nomatch z) h
 | @dT a kvs ea =>cases (show u=Value.ref a from rx);obtain⟨_,_,xs,_,o,es,ep,h1,h2,_⟩:=(show ObjOk X.prog X.w H s.heap a (.dT kvs) from I.hok a _ ea);exact MC OR I.kIn ⟨o,h1,h2.1⟩ e (fun z=>nomatch z) h
 | @ins a C dx fs ea cl ha hn htk hm =>cases (show u=Value.ref a from rx);obtain⟨mA,O,_⟩:=B5 I.hok ea;obtain⟨od,J,_⟩:=O.look;exact MC (W.kitx_own (cl.get _) cl.hd ha hn htk hm) I.kIn J e (fun z=>nomatch z) h
end
end L2
namespace L2
structure Room (k:Nat)(A:Around):Prop where
 hd:A.handled=none
 dp:A.depth+3*k+5<recursionLimit
 un:A.units+16*k+200<cLine
 gd:A.guards=some []
theorem Room.mono {j:Nat}(r:Room k A)(h:j<=k):Room j A:=⟨r.hd,by have:=r.dp;omega,by have:=r.un;omega,r.gd⟩
theorem Room.deeper {k:Nat}(r:Room (k+1) A)(env:Env):Room k (A.deeper env) :=
 ⟨r.hd,by have:=r.dp;show A.depth+1+3*k+5<_;omega,by have:=r.un;show A.units+3+16*k+200<_;omega,r.gd⟩
theorem Room.depth (r:Room k A):A.depth<recursionLimit:=by have:=r.dp;omega
theorem Room.units (r:Room k A):A.units+64<cLine:=by have:=r.un;omega
noncomputable def rK:TA:=fun _ H Q=>Q [] H
noncomputable def gG (ta:TE)(tr:TA):TA:=fun σ H Q=>ta σ H fun x H1=>tr σ H1 fun xs H2=>Q (x::xs) H2
section
variable {X:Cx}{e:Expr}{es:List Expr}{te:TE}{t:TA}{pos:Pos}
theorem eW:PA X [] rK:=fun _ _ _ _ H Q I h=>Calls.spliced_nil ⟨[],H,I,.nil,h⟩
theorem Ca (ha:PE X e te)(hr:PA X es t)(hs:starEach (e::es) X.env=(false,eval e X.env)::starEach es X.env:=by rfl):PA X (e::es) (gG te t):=by intro pos pins s σ H Q I h;rw[hs];show wpAny _ _ (spliced ((false,eval e X.env)::backTo pos (starEach es X.env))) _ _ s;refine Calls.spliced_cons (thn (ha pins s σ H _ I h) fun u s1 ⟨x,H1,I1,r1,q1⟩=>?_);exact thn (hr pos pins s1 σ H1 _ I1 q1) fun us s2 ⟨xs,H2,I2,r2,q2⟩=>⟨x::xs,H2,I2,.cons r1 r2,q2⟩
noncomputable def Kq (t:TA):TE:=fun σ H Q=>t σ H fun xs H1=>xs.length<=sizeLine/\∀p,H1 p=none->Q (.ref p) (upd H1 p (.tup xs))
noncomputable def Ka (t:TA):TE:=fun σ H Q=>t σ H fun xs H1=>xs.length<=sizeLine/\∀p,H1 p=none->Q (.ref p) (upd H1 p (.lst xs))
theorem Gz {x1}(h:PA X es t):PE X (.Tuple es x1 pos) (Kq t):=by intro pins s σ H Q I hq;refine wpAny_Tuple_spliced (thn (h pos pins s σ H _ I hq) fun us s1 ⟨xs,H1,I1,r,z,q⟩=>⟨by rw[<-r.length];exact z,?_⟩);have hf:H1 s1.heap.objs.size=none:=I1.hok.fresh (KF _);refine⟨.ref s1.heap.objs.size,upd H1 s1.heap.objs.size (.tup xs),I1.laid (t':=s1.toks) (fun b u e=>KB _ e) (KF _) ?_,rfl,q _ hf⟩;exact⟨z,us,r,⟨_,KI _ rfl,rfl,_,rfl⟩⟩
theorem FO (h:PA X es t):PE X (.List es pos) (Ka t):=by intro pins s σ H Q I hq;refine wpAny_List_spliced (thn (h pos pins s σ H _ I hq) fun us s1 ⟨xs,H1,I1,r,z,q⟩=>⟨by rw[<-r.length];exact z,?_⟩);have hf:H1 s1.heap.objs.size=none:=I1.hok.fresh (KF _);refine⟨.ref s1.heap.objs.size,upd H1 s1.heap.objs.size (.lst xs),I1.laid (t':=s1.toks) (fun b u e=>KB _ e) (KF _) ?_,rfl,q _ hf⟩;exact⟨z,us,0,r,KI _ rfl⟩
end
noncomputable abbrev Sp:=List V->Hp->VK->XK->Prop
noncomputable abbrev CXT:=List Env->Hp->Shared->XK->Value->Shared->Prop
structure xD (P:Program)(w:World)(K:W.Frag)(mg:Str->Option Value)(base:Heap)(A:Around)(outer:List Env)(s:Shared)(H:Hp):Prop where
 frames:A.frames=some outer
 mod:Mod K mg base
 bs:∀b o,base.get? b=some o->s.heap.get? b=some o/\H b=none
 bsz:base.objs.size<=s.heap.objs.size
 funs:s.heap.FunFrames base outer
 frf:∀b∈frs outer,H b=none
 hok:HOk P w H s.heap
 bare:AllBare s.gens
def CE (outer:List Env)(P:Program)(w:World)(H:Hp)(s:Shared)(Q:VK)(u:Value)(s':Shared):Prop :=
 ∃v H',s'.os=s.os/\AllBare s'.gens/\Un (frs outer) [] H H' s.heap s'.heap/\HOk P w H' s'.heap/\RelV v u/\Q v H'
def CR (CX:CXT)(outer:List Env)(P:Program)(w:World)(H:Hp)(s:Shared)(Q:VK)(E:XK)(r:Result)(s':Shared):Prop :=
 match r with
 | .ok (.ret u)=>CE outer P w H s Q u s'
 | .ok _=>False
 | .error e=>CX outer H s E e s'
structure nO (P:Program)(w:World)(K:W.Frag)(mg:Str->Option Value)(base:Heap)(CX:CXT)(k:Nat)(f:Addr)(fd:FuncData)(ps:List Str)(sp:Sp):Prop where
 len:∀vs H Q E,sp vs H Q E->vs.length=ps.length
 run:∀(A:Around) (outer:List Env) (s:Shared) (H:Hp) (args:Args) (us:List Value) (vs:List V) (Q:VK) (E:XK),Room k A->xD P w K mg base A outer s H->BindsTo s fd args (ps.zip us)->Vals vs us->sp vs H Q E ->
  codeAny (model P w) A (.call (.ref f) args) (CR CX outer P w H s Q E) s
section
variable {X:Cx}{pins:List (Addr × Obj)}{σ:St}{H:Hp}{s s':Shared}
theorem Inv.env0 (I:Inv X pins σ H s):xD X.prog X.w X.K X.mg X.base X.A X.stack s H :=
 ⟨I.ok.frames,I.ok.mod,I.bs,K_ I.ok.bsz I.sz,I.stack,I.stkFree,I.hok,I.bare⟩
theorem Inv.after (I:Inv X pins σ H s)(h:CE X.stack X.prog X.w H s Q u s'):EP X pins σ Q u s':=by obtain⟨v,H',os,bare,un,hok,r,q⟩:=h;obtain⟨hh,g,d,t,os'⟩:=s';obtain rfl:os'=s.os:=os;exact⟨v,H',I.call (h':=hh) (g':=g) (d':=d) (t':=t) (ch:=[]) un hok bare (fun b z=>absurd z (by simp)),r,q⟩
end
noncomputable def pf (sp:Sp)(dvs:List V)(E:XK)(t:TA):TE:=fun σ H Q=>t σ H fun vs H1=>sp (vs++dvs) H1 Q E
def Binds (K:W.Frag)(fd:FuncData)(ps:List Str)(ds:List Value):Prop :=
 ∀(s:Shared) (us:List Value),K.In s.heap->(us++ds).length=ps.length->BindsTo s fd ⟨us,[]⟩ (ps.zip (us++ds))
theorem Binds.all {ps:List Str}(h:∀us:List Value,us.length=ps.length->bindArgs fd ⟨us,[]⟩=pure (ps.zip us)):Binds K fd ps []:=fun s us _ hl=>by
 rw[M9] at hl |-
 exact .of_eq (h us hl)
def pV (CX:CXT)(X:Cx)(E:XK):Prop:=∀(pins:List (Addr × Obj)) (σ:St) (H:Hp) (s:Shared) (e:Value) (s':Shared),Inv X pins σ H s->CX X.stack H s E e s'->X.xe e s'
section
variable {X:Cx}{CX:CXT}{k:Nat}{f C:Addr}{fd:FuncData}{ps:List Str}{sp:Sp}{dvs:List V}{ds:List Value}{E:XK}{x m:Str}{p pos apos:Pos}{e o:Expr}{es:List Expr}{ta:TE}{t:TA}
theorem yD {σ:St}(F:nO X.prog X.w X.K X.mg X.base CX k f fd ps sp)(hr:Room k X.A)(hb:Binds X.K fd ps ds)(hd:Vals dvs ds)(hx:pV CX X E)(I:Inv X pins σ H s)(r:Vals vs us)(h:sp (vs++dvs) H Q E):wpAny (model X.prog X.w) X.A (call (.ref f) us) (EP X pins σ Q) X.xe s:=by
 have r2:Vals (vs++dvs) (us++ds):=r.append hd;have hl:(us++ds).length=ps.length:=by rw[<-r2.length];exact F.len _ _ _ _ h
 refine wpAny_call (codeAny_mono (F.run X.A X.stack s H ⟨us,[]⟩ (us++ds) (vs++dvs) Q E hr I.env0 (hb s us I.kIn hl) r2 h) fun r s' hq=>?_);cases r with
 | error e=>exact hx pins σ H s e s' I hq
 | ok fl =>
  cases fl with
  | ret u=>exact I.after hq
  | next=>exact False.elim hq
  | brk=>exact False.elim hq
  | cont=>exact False.elim hq
theorem Dc (F:nO X.prog X.w X.K X.mg X.base CX k f fd ps sp)(hr:Room k X.A)(hg:Gl X x)(hm:X.mg x=some (.ref f))(hk:W.keepIn X.K (.ref f)=true)(hb:Binds X.K fd ps ds)(hd:Vals dvs ds)(hx:pV CX X E)
  (ha:PA X (e::es) t) (hdb:(x == ("__debug__":Str))=false:=by decide) (he:starEach (e::es) X.env=(false,eval e X.env)::starEach es X.env:=by rfl) (hpl:(backTo pos (starEach es X.env)).any (·.1)=false:=by rfl) :
  PE X (.Call (.Name x p) (e::es) [] pos) (pf sp dvs E t):=by
 intro pins s σ H Q I h;refine wpAny_Call_Name_kw (qT I hg hm ?_ hdb);refine W.callWith_K (h₀:=X.base) I.ok.mod.kin hk (thn (ha pos pins s σ H _ I h) fun us s1 ⟨vs,H1,I1,r,q⟩=>⟨I1.kIn,?_⟩) he hpl;exact yD F hr hb hd hx I1 r q
theorem AJ (F:nO X.prog X.w X.K X.mg X.base CX k f fd ps sp)(hr:Room k X.A)(hg:Gl X x)(hm:X.mg x=some (.ref f))(hk:W.keepIn X.K (.ref f)=true)(hb:Binds X.K fd ps ds)(hd:Vals dvs ds)(hx:pV CX X E)
  (hdb:(x == ("__debug__":Str))=false:=by decide):PE X (.Call (.Name x p) [] [] pos) (pf sp dvs E rK):=by
 intro pins s σ H Q I h;refine wpAny_Call_Name_kw (qT I hg hm ?_ hdb);exact W.callWith_K0 I.kIn hk (yD (us:=[]) F hr hb hd hx I .nil h)
structure Mk (K:W.Frag)(C f:Addr):Prop where
 makes:W.makesIn K C=true
 init:W.findIn K (.ref C) "__init__"=some (some (.ref f))
 fn:W.isFn K (.ref f)=true
 kp:W.keepIn K (.ref C)=true
end
section
variable {X:Cx}{CX:CXT}{k:Nat}{f C:Addr}{fd:FuncData}{ps ks:List Str}{sp:Sp}{E:XK}{x m:Str}{p pos apos kpos:Pos}{e o:Expr}{es:List Expr}{kws:List Keyword}{te ta:TE}{t tk:TA}{nm:Option Str}
structure J9 (K:W.Frag)(fd:FuncData)(ps ks:List Str)(g:List Value->List Value->List Value)(gV:List V->List V->List V):Prop where
 to:∀(s:Shared) (us ws:List Value),K.In s.heap->(g us ws).length=ps.length->BindsTo s fd ⟨us,ks.zip ws⟩ (ps.zip (g us ws))
 rel:∀ {vs:List V}{us:List Value}{zs:List V}{ws:List Value},Vals vs us->Vals zs ws->Vals (gV vs zs) (g us ws)
variable {g:List Value->List Value->List Value}{gV:List V->List V->List V}
end
structure aj (N P:List Str)(sc:Scope):Prop where
 kind:sc.kind=.function
 co:sc.isCoroutine=false
 gen:sc.isGenerator=false
 nd:N.Nodup
 pre:N.take P.length=P
 par:∀x∈P,sc.names.lookup x=some .local\/sc.names.lookup x=some .cell
 nofree:∀y∈sc.names,y.2≠.free
theorem oZ {kindOf:Str->Option NameKind}{x:Str}:∀ {binds:List (Str × Value)}{m:Str->Option Value},(∀v,(x,v) ∉ binds)->bindL kindOf binds m x=m x
 | [],_,_=>rfl
 | (n,v)::r,m,h=>by
  unfold bindL;rw[oZ fun w hw=>h w (KL _ hw)];split
  ·have:x≠n:=by rintro rfl;exact h v KP
   simp[this]
  ·rfl
theorem oM {kindOf:Str->Option NameKind}{x:Str}:∀ {binds:List (Str × Value)}{m:Str->Option Value},(∀v,(x,v) ∉ binds)->bindC kindOf binds m x=m x
 | [],_,_=>rfl
 | (n,v)::r,m,h=>by
  unfold bindC;rw[oM fun w hw=>h w (KL _ hw)];split
  ·rfl
  ·have:x≠n:=by rintro rfl;exact h v KP
   simp[this]
theorem oh {kindOf:Str->Option NameKind}:∀ {P:List Str}{vs:List Value}{i:Nat}{m:Str->Option Value},P.Nodup->P[i]?=some x->vs[i]?=some v->kindOf x=some .local ->
  bindL kindOf (P.zip vs) m x=some v
 | [],_,_,_,_,h,_,_=>by simp at h
 | _::_,[],_,_,_,_,h,_=>by simp at h
 | p::P,w::vs,0,m,nd,h1,h2,hk=>by simp at h1 h2;subst h1;subst h2;show bindL kindOf ((p,w)::P.zip vs) m p=_;unfold bindL;rw[oZ fun v hv=>(KQ.mp nd).1 (OH hv).1,KZ hk];simp
 | p::P,w::vs,i+1,m,nd,h1,h2,hk=>by show bindL kindOf ((p,w)::P.zip vs) m x=_;unfold bindL;exact oh (i:=i) (KQ.mp nd).2 (by simpa using h1) (by simpa using h2) hk
theorem pb {kindOf:Str->Option NameKind}:∀ {P:List Str}{vs:List Value}{i:Nat}{m:Str->Option Value},P.Nodup->P[i]?=some x->vs[i]?=some v->kindOf x≠some .local ->
  bindC kindOf (P.zip vs) m x=some v
 | [],_,_,_,_,h,_,_=>by simp at h
 | _::_,[],_,_,_,_,h,_=>by simp at h
 | p::P,w::vs,0,m,nd,h1,h2,hk=>by simp at h1 h2;subst h1;subst h2;show bindC kindOf ((p,w)::P.zip vs) m p=_;unfold bindC;rw[oM fun v hv=>(KQ.mp nd).1 (OH hv).1,KS hk];simp
 | p::P,w::vs,i+1,m,nd,h1,h2,hk=>by show bindC kindOf ((p,w)::P.zip vs) m x=_;unfold bindC;exact pb (i:=i) (KQ.mp nd).2 (by simpa using h1) (by simpa using h2) hk
noncomputable def start (N:List Str)(vs:List V):St:=vs.map some++List.replicate (N.length-vs.length) none
noncomputable def jF (CX:CXT)(P:Program)(w:World)(K:W.Frag)(mg:Str->Option Value)(base:Heap)(N:List Str)(qual:Str)(scope:Scope)(f:Addr)(cd:Value)(A:Around)(outer:List Env)(s:Shared)(H:Hp)(E:XK):Cx where
 prog:=P
 w:=w
 K:=K
 mg:=mg
 base:=base
 A:=A.deeper (envOfC qual scope s.heap.objs.size f cd)
 N:=N
 s₀:=s
 H₀:=H
 env:=envOfC qual scope s.heap.objs.size f cd
 outer:=outer
 stack:=envOfC qual scope s.heap.objs.size f cd::outer
 ex:=[]
 calm:=true
 fn:=fun _=>true
 pn:=[]
 xe:=fun e s'=>wpAny (model P w) (A.deeper (envOfC qual scope s.heap.objs.size f cd)) (leaving (envOfC qual scope s.heap.objs.size f cd) e) (fun _ s''=>CX outer H s E e s'') (fun e' s''=>CX outer H s E e' s'') s'
theorem rP {sc:Scope}(h:sc.names.lookup x=some .cell):∃c,(cellsFrom n sc.names []).lookup x=some c:=by have q:=W.cellsFrom_some sc.names n [] (.inl h);exact Option.isSome_iff_exists.mp q
theorem xH {A:Around}{E:XK}{vs:List V}(S:aj N ps scope)(hd:A.handled=none)(e0:xD P w K mg base A outer s H)(hl:vs.length=ps.length)(r:Vals vs us)(x:InCallC s s.heap.objs.size (bindL (envOfC qual scope s.heap.objs.size f cd).kindOf (ps.zip us) fun _=>none) (cellsFrom (s.heap.objs.size+1) scope.names []) (bindC (envOfC qual scope s.heap.objs.size f cd).kindOf (ps.zip us) fun _=>none) s1) :
  Inv (jF CX P w K mg base N qual scope f cd A outer s H E) [] (start N vs) H s1:=by
 have hpl:ps.length<=N.length:=by have:=LG List.length S.pre;rw[MI] at this;omega
 obtain⟨h1,tk,rfl,hk⟩:=x.done;have noA:∀b:Addr,b ∉ (jF CX P w K mg base N qual scope f cd A outer s H E).ex:=fun b z=>absurd (show b∈([]:List Addr) from z) (by simp);refine⟨⟨e0.mod,S.kind,rfl,rfl,KF _,fun y z c h1 h2=>?_,fun y hy=>?_,fun y c _ h=>?_,fun _=>hd,Around.frames_deeper e0.frames,.inr ⟨rfl,rfl⟩,fun b z=>absurd z (noA b),e0.bs,e0.bsz,fun b _ _=>noA b,fun b z=>absurd z (noA b),e0.funs,e0.frf⟩,
  rfl,e0.bare,Un.kept hk,⟨_,x.toInCall.ns,fun i y v h1 h2 h3=>?_⟩,fun y c h=>⟨_,x.cell y c h⟩,e0.hok.fresh (KF _),fun y c h=>?_,fun p hp=>absurd (show p∈([]:List (Addr × Obj)) from hp) (by simp),e0.hok.kept hk,?_⟩
 ·exact name_of_addr x.apart (L5 h1) (L5 h2)
 ·have hy:scope.names.lookup y=some .cell\/scope.names.lookup y=some .free:=hy;rcases hy with hy|hy
  ·exact rP hy
  ·exact absurd rfl (S.nofree _ (L5 hy))
 ·exact LY (x.above y c (L5 h))
 ·have hi:i<vs.length:=by
   unfold start at h2;by_cases hi:i<vs.length
   ·exact hi
   ·rw[K8 (by simpa using hi)] at h2;rw[List.getElem?_replicate] at h2;split at h2 <;> cases h2
  have ha:vs[i]?=some v:=by
   unfold start at h2;rw[K3 (by simpa using hi),KM] at h2;cases e:vs[i]? with
   | none=>rw[e] at h2;cases h2
   | some a=>rw[e] at h2;cases h2;rfl
  obtain⟨u,hu,rv⟩:=r.get ha;have hp:ps[i]?=some y:=by rw[<-S.pre,MP (by omega)];exact h1
  have ndP:ps.Nodup:=by rw[<-S.pre];exact S.nd.sublist (List.take_sublist _ _)
  refine⟨u,rv,?_⟩;rcases S.par y (KJ hp) with k|k
  ·exact .inl ⟨k,oh ndP hp hu k⟩
  ·obtain⟨c,e⟩:=rP (n:=s.heap.objs.size+1) k;refine .inr ⟨.inl k,c,e,?_⟩;have q:=x.cell y c e;rw[pb ndP hp hu (by show scope.names.lookup y≠_;rw[k];decide)] at q;exact q
 ·exact e0.hok.fresh (LY (x.above y c (L5 h)))
 ·unfold start;show _=N.length;rw[KN,KH,List.length_replicate];omega
theorem Jf {K:W.Frag}{name qual:Str}{params:Arguments}{body:List Stmt}{scope:Scope}{dV kV doc pm cdv ct:Value}{an:Option Addr}(lk:K.lookup f=some ⟨oc,od,.func (W.fnOf name qual params body scope dV kV doc pm an cdv ct),osl⟩)(hcd:W.codeIn K cdv qual=true)(S:aj N ps scope)(len:∀vs H Q E,sp vs H Q E->vs.length=ps.length)(hbody:∀(A:Around) (outer:List Env) (s:Shared) (H:Hp) (vs:List V) (Q:VK) (E:XK),Room k (A.deeper (envOfC qual scope s.heap.objs.size f cdv))->sp vs H Q E ->
   ∃t,PSs (jF CX P w K mg base N qual scope f cdv A outer s H E) body t/\t { nx:=fun _ H'=>Q .non H',rt:=Q } (start N vs) H) :
  nO P w K mg base CX (k+1) f (W.fnOf name qual params body scope dV kV doc pm an cdv ct) ps sp:=by
 refine⟨len,fun A outer s H args us vs Q E hr e0 hb r hsp=>?_⟩;have hl:=len _ _ _ _ hsp;have KX:K.In s.heap:=e0.mod.kin.keeps fun b o e=>(e0.bs b o e).1;have lim:s.heap.NoLimit:=e0.mod.nolimit.keeps fun b o e=>(e0.bs b o e).1;have hkind:∀y∈ps.zip us,scope.names.lookup y.1=some .local\/(scope.names.lookup y.1=some .cell/\((cellsFrom (s.heap.objs.size+1) scope.names []).lookup y.1).isSome=true):=fun ⟨n,v⟩ hy=>by
  rcases S.par n (OH hy).1 with q|q
  ·exact .inl q
  ·exact .inr ⟨q,W.cellsFrom_some _ _ _ (.inl q)⟩
 refine codeAny_call_function hr.depth (KX _ _ lk) rfl S.co S.gen rfl (W.codeRec_of KX hcd) (hb _ _ _ _ ?_);refine wpAny_newFunctionEnv_cells S.kind hkind fun env he s1 x=>?_;subst he;refine⟨lim.keeps x.toInCall.keep,codeAny_func ?_⟩;obtain⟨t,ht,hq⟩:=hbody A outer s H vs Q E (hr.deeper _) hsp;have I:Inv (jF CX P w K mg base N qual scope f cdv A outer s H E) [] (start N vs) H s1:=xH S hr.hd e0 hl r x;refine wpAny_mono (ht [] s1 (start N vs) H _ I hq) (fun fl s' hs=>?_) fun e s' hs=>hs;have fin:∀ {σ':St}{H':Hp}{v:V}{u:Value},Inv (jF CX P w K mg base N qual scope f cdv A outer s H E) [] σ' H' s'->RelV v u->Q v H'->CE outer P w H s Q u s' :=
  fun {σ' H' v u} J rv q=>⟨v,H',J.os,J.bare,J.base,J.hok,rv,q⟩
 cases fl with
 | ret u =>obtain⟨v,σ',H',J,rv,q⟩:=hs;exact fin J rv q
 | next =>obtain⟨σ',H',J,q⟩:=hs;exact fin (v:=V.non) (u:=Value.none) J rfl q
 | brk =>obtain⟨_,_,_,q⟩:=hs;exact False.elim q
 | cont =>obtain⟨_,_,_,q⟩:=hs;exact False.elim q
end L2
namespace L2
section
variable {X:Cx}{x:Str}{p pos:Pos}{e:Expr}{es:List Expr}{t:TA}{id T:String}{r:List V->Hp->VK->Prop}
noncomputable def tCB (r:List V->Hp->VK->Prop)(t:TA):TE:=fun σ H Q=>t σ H fun vs H1=>r vs H1 Q
theorem BS (hc:cV X (.builtin id) r)(hg:Gl X x)(hm:X.mg x=none)(hv:bootBuiltins x=some (.builtin id))(ha:PA X (e::es) t)(hn:x≠"__name__":=by decide)(hdb:(x == ("__debug__":Str))=false:=by decide)
  (he:starEach (e::es) X.env=(false,eval e X.env)::starEach es X.env:=by rfl) (hpl:(backTo pos (starEach es X.env)).any (·.1)=false:=by rfl):PE X (.Call (.Name x p) (e::es) [] pos) (tCB r t):=by
 intro pins s σ H Q I h;refine wpAny_Call_Name_kw (jR I hg hm hv ?_ hn hdb);exact PyProof.Rows.callWith_builtin1 (thn (ha pos pins s σ H _ I h) fun us s1 ⟨vs,H1,I1,r1,q1⟩=>hc pins s1 σ H1 vs us Q I1 r1 q1) he hpl
theorem wQ (hc:cV X (.type T) r)(hg:Gl X x)(hm:X.mg x=none)(hv:bootBuiltins x=some (.type T))(ha:PA X (e::es) t)(hn:x≠"__name__":=by decide)(hdb:(x == ("__debug__":Str))=false:=by decide)
  (he:starEach (e::es) X.env=(false,eval e X.env)::starEach es X.env:=by rfl) (hpl:(backTo pos (starEach es X.env)).any (·.1)=false:=by rfl):PE X (.Call (.Name x p) (e::es) [] pos) (tCB r t):=by
 intro pins s σ H Q I h;refine wpAny_Call_Name_kw (jR I hg hm hv ?_ hn hdb);exact MF (thn (ha pos pins s σ H _ I h) fun us s1 ⟨vs,H1,I1,r1,q1⟩=>hc pins s1 σ H1 vs us Q I1 r1 q1) he hpl
end
end L2
namespace HT
open PySem
open PyProof.Rows hiding K st lo ad
section
open PySem.SeqAt
open PySem.AutoSeq1 (wpAny_loadPart')
open PySem.MeetsSeq PySem.MeetsSeq2 PySem.MeetsSeq3
end
section
variable {prog:Program}{w:World}{A:Around}{E:Value->Shared->Prop}{s:Shared}
theorem cat_tup {vs ws:List Value}{Q:Value->Shared->Prop}(ht:IsTup s.heap t vs.toArray)(hb:IsTup s.heap b ws.toArray)(hv:vs≠[])(h1:ws=[]->Q (.ref t) s)(h2:ws≠[]->Q (.ref s.heap.objs.size) { s with heap:=s.heap.push { cls:=.type "tuple",data:=.seq (vs++ws).toArray } })(hsz:vs.length+ws.length<=sizeLine):wpAny (model prog w) A (binaryOp .Add (.ref t) (.ref b)) Q E s:=by
 obtain⟨⟨cls,dd,data,sl⟩,ho,hc,n,hd⟩:=id ht;obtain⟨⟨cls2,dd2,data2,sl2⟩,ho2,hc2,n2,hd2⟩:=id hb;simp only at hc hd hc2 hd2;subst hc hd hc2 hd2;have e:vs.toArray++ws.toArray=(vs++ws).toArray:=by simp
 by_cases hw:ws=[]
 ·exact concat_meets ⟨_,ho,rfl⟩ ⟨_,ho2,rfl⟩ noFill_tuple_add seq_tuple_add NG NB (M6 _ _)
   (tuple_addW1 t b vs.toArray ws.toArray n n2 dd dd2 sl sl2 (by simpa using hv) (by simp[hw])) ⟨ho,ho2,h1 hw⟩
 ·refine concat_meets ⟨_,ho,rfl⟩ ⟨_,ho2,rfl⟩ noFill_tuple_add seq_tuple_add NG NB (M6 _ _)
   (tuple_addW2 t b vs.toArray ws.toArray n n2 dd dd2 sl sl2 (by simpa using hv) (by simpa using hw) (by rw[K2,K2];exact hsz)) ⟨ho,ho2,?_⟩
  rw[e];exact h2 hw
noncomputable def sIx (n d:Nat):Option Int->Nat
 | none=>d
 | some v=>if v<0 then (v+(n:Int)).toNat else min v.toNat n
theorem sIx_none (n d:Nat):sIx n d none=d:=rfl
theorem sIx_nat (n d k:Nat):sIx n d (some (k:Int))=min k n:=by show (if (k:Int)<0 then ((k:Int)+(n:Int)).toNat else min (k:Int).toNat n)=min k n;rw[KS (by omega),M0]
theorem Gv (n d:Nat)(hd:d<=n)(o:Option Int):sIx n d o<=n:=by
 cases o with
 | none=>exact hd
 | some v =>
  show (if v<0 then (v+(n:Int)).toNat else min v.toNat n)<=n;by_cases hv:v<0
  ·rw[KZ hv];omega
  ·rw[KS hv];exact Nat.min_le_right _ _
theorem wj (v:Int)(n d:Nat):(if v<0 then max (v+(n:Int)) 0 else min v (n:Int))=((sIx n d (some v):Nat):Int):=by
 show (if v<0 then max (v+(n:Int)) 0 else min v (n:Int))=(((if v<0 then (v+(n:Int)).toNat else min v.toNat n):Nat):Int);by_cases hv:v<0
 ·simp only[if_pos hv];omega
 ·simp only[if_neg hv];omega
theorem ub (lo hi:Option Int)(n:Nat):Builtin.Slice.sliceAdjust lo hi 1 (n:Int)=(((sIx n 0 lo:Nat):Int),((sIx n n hi:Nat):Int)):=by
 have h1:¬((1:Int)<0):=by omega
 unfold Builtin.Slice.sliceAdjust;simp only[h1,if_false];refine Prod.ext ?_ ?_
 ·cases lo with
  | none=>rfl
  | some v=>exact wj v n 0
 ·cases hi with
  | none=>rfl
  | some v=>exact wj v n n
theorem ve (i j:Nat):Builtin.Slice.slicePlaces (i:Int) (j:Int) 1=j-i:=by
 unfold Builtin.Slice.slicePlaces;have h1:(1:Int) > 0:=by omega
 simp only[h1,if_true,Int.ediv_one];split <;> omega
theorem mq {Q:Option Int->Shared->Prop}(p:IsPart v o)(h:Q o s):wpAny (model prog w) A (Builtin.Slice.slicePartIndex v) Q E s:=by
 cases p with
 | none=>exact slicePart_none h
 | int i t=>exact slicePart_int h
theorem sliceApplied_gen {Q:Int × Int × Nat->Shared->Prop}(hs:s.heap.IsSliceOf sl vl vu .none)(pl:IsPart vl lo)(pu:IsPart vu hi)(h:Q (((sIx n 0 lo:Nat):Int),1,sIx n n hi-sIx n 0 lo) s):wpAny (model prog w) A (Builtin.Slice.sliceApplied (.ref sl) (pure (n:Int))) Q E s:=by
 obtain⟨os,hos,hcs,hds⟩:=id hs;unfold Builtin.Slice.sliceApplied Builtin.Slice.sliceFields;refine KA (KA (wpAny_field hos hds (x:=vl) rfl (KA (wpAny_field hos hds (x:=vu) rfl (KA (wpAny_field hos hds (x:=.none) rfl (KC ?_)))))));refine KA (slicePart_none ?_);show wpAny _ _ (if ((1:Int) == 0)=true then _ else _) _ _ s;rw[KS (by decide)];refine KA (mq pl (KA (mq pu (KA (KC ?_)))));show wpAny _ _ (match Builtin.Slice.sliceAdjust lo hi 1 (n:Int) with|(lo,hi)=>pure (lo,(1:Int),Builtin.Slice.slicePlaces lo hi 1)) _ _ s;rw[ub lo hi n];show wpAny _ _ (pure (((sIx n 0 lo:Nat):Int),(1:Int),Builtin.Slice.slicePlaces ((sIx n 0 lo:Nat):Int) ((sIx n n hi:Nat):Int) 1)) _ _ s;rw[ve];exact KC h
theorem A9 (xs:Array Value)(i k:Nat):((List.range k).filterMap fun (m:Nat)=>xs[((i:Int)+(m:Int)*1).toNat]?).toArray=((xs.toList.drop i).take k).toArray:=by
 have e:(fun (m:Nat)=>xs[((i:Int)+(m:Int)*1).toNat]?)=fun m=>xs[i+m]?:=by
  funext m;have:((i:Int)+(m:Int)*1).toNat=i+m:=by omega
  rw[this]
 rw[e];have:=pick_run xs i k;rw[List.filterMap_map] at this;have e2:((fun x=>xs[x]?) ∘ fun x=>i+x)=fun m=>xs[i+m]?:=rfl;rw[e2] at this;rw[this]
theorem getItem_tuple_cut {Q:Value->Shared->Prop}(ht:IsTup s.heap t items)(hs:s.heap.IsSliceOf sl vl vu .none)(pl:IsPart vl lo)(pu:IsPart vu hi)(hw:¬(sIx items.size 0 lo=0/\sIx items.size items.size hi=items.size))(h:Q (.ref s.heap.objs.size) { s with heap:=s.heap.push { cls:=.type "tuple",data:=.seq ((items.toList.drop (sIx items.size 0 lo)).take (sIx items.size items.size hi-sIx items.size 0 lo)).toArray } })(hsz:items.size<=sizeLine):wpAny (model prog w) A (getItem (.ref t) (.ref sl)) Q E s:=by
 have htake:sizeOk (.seq ((items.toList.drop (sIx items.size 0 lo)).take (sIx items.size items.size hi-sIx items.size 0 lo)).toArray):=by show ((items.toList.drop (sIx items.size 0 lo)).take (sIx items.size items.size hi-sIx items.size 0 lo)).toArray.size<=sizeLine;rw[K2,MI,NN,MS];omega
 have hj:sIx items.size items.size hi<=items.size:=Gv _ _ (KF _) hi;obtain⟨os,hos,hcs,hds⟩:=id hs;have hTs:s.TypeIs (.ref sl) "slice":=⟨os,hos,hcs⟩;unfold getItem
 try with_reducible refine L3 ?_
 first|refine KA (KC ?_)|skip
 refine KA (wpAny_sequenceKey ht.typeIs (by decide) ?_);refine KA (wpAny_callSpecial?_slot (name:=Str.ofString "__getitem__") ht.typeIs L9
  (wpAny_call_entry L9 ht.typeIs entry_tuple_getitem ?_ (args_tuple_getitem _ _)))
 show wpAny _ _ (Builtin.Tuple.tupleItemsOf (.ref t) >>= _) _ _ s;refine KA (tupleItemsOf_ ht ?_);refine KA (wpAny_typeOf hTs ?_);rw[KZ (by decide)];refine KA (sliceApplied_gen hs pl pu ?_);have hno:¬((((sIx items.size 0 lo:Nat):Int) == 0 && (1:Int) == 1 && (sIx items.size items.size hi-sIx items.size 0 lo) == items.size)=true):=by intro q;rw[KW,KW] at q;have q1:((sIx items.size 0 lo:Nat):Int)=0:=eq_of_beq q.1.1;have q2:sIx items.size items.size hi-sIx items.size 0 lo=items.size:=eq_of_beq q.2;exact hw ⟨by omega,by omega⟩
 show wpAny _ _ (if (((sIx items.size 0 lo:Nat):Int) == 0 && (1:Int) == 1 && (sIx items.size items.size hi-sIx items.size 0 lo) == items.size)=true then _ else _) _ _ s;rw[KS hno,A9]
 first
  | exact KA (m:=Builtin.Tuple.tupleExact _) (wpAny_newObj_type (KC ⟨_,rfl,KC h⟩) htake)
  | exact KA (m:=Builtin.Tuple.tupleExact _) (wpAny_newObj_type (KA (KC (KC ⟨_,rfl,KC h⟩))) htake)
  | exact KA (KA (m:=Builtin.Tuple.tupleExact _) (wpAny_newObj_type (KC (KC ⟨_,rfl,KC h⟩)) htake))
  | exact KA (KA (m:=Builtin.Tuple.tupleExact _) (wpAny_newObj_type (KC ⟨_,rfl,KC h⟩) htake))
end
end HT
namespace L2
noncomputable abbrev TO:=St->Hp->(Option Int->Hp->Prop)->Prop
def PO (X:Cx)(e:Option Expr)(t:TO):Prop :=
 ∀(pins:List (Addr × Obj)) (s:Shared) (σ:St) (H:Hp) (Q:Option Int->Hp->Prop),Inv X pins σ H s->t σ H Q ->
  wpAny (model X.prog X.w) X.A (evalPart e X.env) (fun u s'=>∃o H',Inv X pins σ H' s'/\IsPart u o/\Q o H') X.xe s
noncomputable def B8:TO:=fun _ H Q=>Q none H
noncomputable def Hk (t:TE):TO:=fun σ H Q=>t σ H fun x H1=>∃i,x=.int i/\Q (some i) H1
section
variable {X:Cx}{e:Expr}{te:TE}{lo hi:Option Expr}{tl th:TO}{pos p2:Pos}
theorem CP:PO X none B8:=by intro pins s σ H Q I h;rw[evalPart_none];exact KC ⟨none,H,I,.none,h⟩
theorem Du (h:PE X e te):PO X (some e) (Hk te):=by intro pins s σ H Q I hw;rw[evalPart_some];refine thn (h pins s σ H _ I hw) fun u s1 ⟨x,H1,I1,r1,q1⟩=>?_;obtain⟨i,rfl,q⟩:=q1;obtain⟨t,rfl⟩:=r1;exact⟨some i,H1,I1,.int i t,q⟩
def SlR (X:Cx)(r:V->Option Int->Option Int->Hp->VK->Prop):Prop :=
 ∀(pins:List (Addr × Obj)) (s:Shared) (σ:St) (H:Hp) (x:V) (v vl vu:Value) (lo hi:Option Int) (sl:Addr) (Q:VK),Inv X pins σ H s->RelV x v->s.heap.IsSliceOf sl vl vu .none->IsPart vl lo->IsPart vu hi->r x lo hi H Q ->
  ∃T id,typeLookup (.type T) "__getitem__"=pure (some (.builtin id))/\s.TypeIs v T/\wpAny (model X.prog X.w) X.A (getItem v (.ref sl)) (EP X pins σ Q) X.xe s
noncomputable def tSl (r:V->Option Int->Option Int->Hp->VK->Prop)(te:TE)(tl th:TO):TE:=fun σ H Q=>te σ H fun x H1=>tl σ H1 fun l H2=>th σ H2 fun u H3=>r x l u H3 Q
theorem yw (hr:SlR X r)(he:PE X e te)(hl:PO X lo tl)(hu:PO X hi th):PE X (.Subscript e (.Slice lo hi none p2) pos) (tSl r te tl th):=by intro pins s σ H Q I h;refine Subscript_ (thn (he pins s σ H _ I h) fun v s1 ⟨x,H1,I1,r1,q1⟩=>?_);refine wpAny_Slice (thn (hl pins s1 σ H1 _ I1 q1) fun vl s2 ⟨l,H2,I2,pl,q2⟩=>thn (hu pins s2 σ H2 _ I2 q2) fun vu s3 ⟨u,H3,I3,pu,q3⟩=>?_);rw[evalPart_none];refine KC ?_;have I4:Inv X pins σ H3 { s3 with heap:=s3.heap.push { cls:=.type "slice",data:=.fields #[vl,vu,.none] } }:=I3.kept (t':=s3.toks) fun b ob q=>KB _ q;obtain ⟨T,id,hT,ht,hg⟩:=hr pins { s3 with heap:=s3.heap.push { cls:=.type "slice",data:=.fields #[vl,vu,.none] } } σ H3 x v vl vu l u s3.heap.objs.size Q I4 r1 (Heap.IsSliceOf.new ..) pl pu q3;show wpAny (model X.prog X.w) X.A (subscriptTail e (.Slice lo hi none p2) v (.ref s3.heap.objs.size)) (EP X pins σ Q) X.xe { s3 with heap:=s3.heap.push { cls:=.type "slice",data:=.fields #[vl,vu,.none] } };exact tail_any (ops:=[.ref s3.heap.objs.size,v]) ht hT hg (by with_unfolding_all rfl)
noncomputable def nu (xs:List V)(lo hi:Option Int):List V:=(xs.drop (HT.sIx xs.length 0 lo)).take (HT.sIx xs.length xs.length hi-HT.sIx xs.length 0 lo)
theorem kA (xs:List V)(lo hi:Option Int):(nu xs lo hi).length<=xs.length:=by unfold nu;rw[MI,NN];omega
noncomputable def Kl (K:W.Frag):V->Option Int->Option Int->Hp->VK->Prop:=fun x lo hi H Q=>∃a xs,x=.ref a/\SqT K H a xs /\
 ¬(HT.sIx xs.length 0 lo=0/\HT.sIx xs.length xs.length hi=xs.length)/\∀p,H p=none->Q (.ref p) (upd H p (.tup (nu xs lo hi)))
theorem F0:SlR X (Kl X.K):=by
 intro pins s σ H x v vl vu lo hi sl Q I rx hs pl pu h;obtain⟨a,xs,rfl,hx,hw,q⟩:=h;cases rx;obtain⟨its,r,ht,hz⟩:=I.tuple hx;have hlen:its.toArray.size=xs.length:=by rw[K2];exact r.length.symm
 refine ⟨"tuple",_,PyProof.Rows.slot_tuple_getitem.lookup,ht.typeIs,?_⟩;refine HT.getItem_tuple_cut ht hs pl pu (by rw[hlen];exact hw) ?_ (by rw[hlen];exact hz);rw[hlen];refine⟨.ref s.heap.objs.size,_,I.laid (t':=s.toks) (o:=.tup (nu xs lo hi)) (fun b ob q=>KB _ q) (KF _) ?_,rfl,q _ (I.hok.fresh (KF _))⟩;exact⟨K_ (kA xs lo hi) hz,_,(r.drop (HT.sIx xs.length 0 lo)).take (HT.sIx xs.length xs.length hi-HT.sIx xs.length 0 lo),IsTup.new _ _⟩
noncomputable def Iq (K:W.Frag):R2:=fun x y H Q=>∃a b xs ys,x=.ref a/\y=.ref b/\SqT K H a xs/\SqT K H b ys/\xs≠[]/\xs.length+ys.length<=sizeLine /\
 (ys=[]->Q (.ref a) H)/\(ys≠[]->∀p,H p=none->Q (.ref p) (upd H p (.tup (xs++ys))))
theorem Vals.nil_iff (r:Vals xs us):us=[]↔xs=[]:=by
 cases r with
 | nil=>simp
 | cons _ _=>simp
theorem C0:OpR X (binaryOp .Add) (Iq X.K):=by intro pins s σ H x y v u Q I rx ry h;obtain⟨a,b,xs,ys,rfl,rfl,ha,hb,hx,hz,q1,q2⟩:=h;cases rx;cases ry;obtain⟨its,r1,p1,_⟩:=I.tuple ha;obtain⟨its2,r2,p2,_⟩:=I.tuple hb;refine HT.cat_tup p1 p2 (fun z=>hx (r1.nil_iff.mp z)) (fun z=>⟨.ref a,H,I,rfl,q1 (r2.nil_iff.mp z)⟩) (fun z=>?_) (by rw[<-r1.length,<-r2.length];exact hz);refine⟨.ref s.heap.objs.size,_,I.laid (t':=s.toks) (o:=.tup (xs++ys)) (fun b ob q=>KB _ q) (KF _) ?_,rfl,q2 (fun w=>z (r2.nil_iff.mpr w)) _ (I.hok.fresh (KF _))⟩;exact⟨by rw[KN];exact hz,_,r1.append r2,IsTup.new _ _⟩
end
end L2
namespace L2
noncomputable def ixN (n:Nat)(i:Int):Option Nat:=if 0<=i then (if i<n then some i.toNat else none) else if -(n:Int)<=i then some (i+n).toNat else none
noncomputable def atI {α:Type}(xs:List α)(i:Int):Option α:=(ixN xs.length i).bind fun j=>xs[j]?
theorem v9 (h:ixN n i=some j):seqIndex? i n=some j/\j<n/\-(n:Int)<=i/\i<n:=by
 unfold ixN at h;by_cases h0:0<=i
 ·rw[KZ h0] at h;by_cases h1:i<n
  ·rw[KZ h1] at h;have e:i.toNat=j:=LL h;exact⟨by rw[seqIndex_of h0 h1,e],by omega,by omega,h1⟩
  ·rw[KS h1] at h;cases h
 ·rw[KS h0] at h;by_cases h1:-(n:Int)<=i
  ·rw[KZ h1] at h;have e:(i+n).toNat=j:=LL h;exact⟨by rw[seqIndex_neg (by omega) h1,e],by omega,h1,by omega⟩
  ·rw[KS h1] at h;cases h
theorem hJ {α:Type}{xs:List α}{v:α}(h:atI xs i=some v):∃j,seqIndex? i xs.length=some j/\xs[j]?=some v/\j<xs.length/\-(xs.length:Int)<=i/\i<xs.length:=by
 unfold atI at h;cases e:ixN xs.length i with
 | none=>rw[e] at h;cases h
 | some j =>rw[e] at h;obtain⟨h1,h2,h3,h4⟩:=v9 e;exact⟨j,h1,h,h2,h3,h4⟩
theorem dt {α:Type}{xs:List α}{j:Nat}{v:α}(h:xs[j]?=some v):atI xs (j:Int)=some v:=by
 have hj:j<xs.length:=(KR.mp h).1;have e:ixN xs.length (j:Int)=some j:=by unfold ixN;rw[KZ (by omega),KZ (by omega)];simp
 unfold atI;rw[e];exact h
def wD (b:Expr):Prop:=∀o i,subscripted b false o i=operate [o,i] (getItem o i)
def IxR (X:Cx)(r:R2):Prop :=
 ∀(value slice:Expr) (pins:List (Addr × Obj)) (s:Shared) (σ:St) (H:Hp) (x y:V) (v u:Value) (Q:VK),Inv X pins σ H s->RelV x v->RelV y u->r x y H Q ->
  subscripted slice false v u=operate [v,u] (getItem v u)->wpAny (model X.prog X.w) X.A (subscriptTail value slice v u) (EP X pins σ Q) X.xe s
def MtR (X:Cx)(id:String)(r:V->List V->Hp->VK->Prop):Prop :=
 ∀(pins:List (Addr × Obj)) (s:Shared) (σ:St) (H:Hp) (x:V) (xs:List V) (v:Value) (us:List Value) (Q:VK),Inv X pins σ H s->RelV x v->Vals xs us->r x xs H Q ->
  wpAny (model X.prog X.w) X.A (call (.builtin id) (v::us)) (EP X pins σ Q) X.xe s
section
variable {X:Cx}{a b:Expr}{ta tb:TE}{pos:Pos}
theorem JE (hr:IxR X r)(ha:PE X a ta)(hb:PE X b tb)(hs:wD b):PE X (.Subscript a b pos) (tOp r ta tb):=by intro pins s σ H Q I h;exact Subscript_ (F6 ha hb I h fun v u s2 x y H2 I2 rx ry q=>hr a b pins s2 σ H2 x y v u Q I2 rx ry q (hs _ _))
noncomputable def J2 (K:W.Frag):R2:=fun x y H Q=>∃p xs i v,x=.ref p/\y=.int i/\SqL K H p xs/\atI xs i=some v/\Q v H
noncomputable def Ki (K:W.Frag):R2:=fun x y H Q=>∃p xs i v,x=.ref p/\y=.int i/\SqT K H p xs/\atI xs i=some v/\Q v H
noncomputable def Kr:R2:=fun x y H Q=>∃z i c,x=.str z/\y=.int i/\z.length<=sizeLine/\atI z.cps.toList i=some c/\Q (.str ⟨#[c]⟩) H
theorem C7:IxR X (J2 X.K):=by
 intro value slice pins s σ H x y v u Q I rx ry h hs;obtain⟨p,xs,i,z,rfl,rfl,hq,he,q⟩:=h;cases rx;obtain⟨t,rfl⟩:=ry;obtain⟨its,r,pl,hz⟩:=I.list hq;obtain⟨j,h1,h2,h3,h4,h5⟩:=hJ he;obtain⟨w,ew,rw'⟩:=r.get h2;have hl:=r.length;have hn:=iM;have fin:EP X pins σ Q w s:=⟨z,H,I,rw',q⟩;by_cases h0:0<=i
 ·have hj:i.toNat=j:=by rw[seqIndex_of h0 h5] at h1;exact LL h1
  exact item_listR pl.isList h0 (by omega) (by rw[hj];simpa using ew) fin hs
 ·have hj:(i+(its.toArray.size:Int)).toNat=j:=by rw[seqIndex_neg (by omega) h4] at h1;rw[K2,<-hl];exact LL h1
  exact subscriptTail_builtinR (x:=w) pl.isList.typeIs slot_list_getitem.lookup
   (wpAny_getItem_list_neg (Q:=fun r s'=>r=w/\EP X pins σ Q r s') pl.isList (by omega) (by rw[K2] <;> omega) (by omega) (by rw[hj];simpa using ew) ⟨rfl,fin⟩) hs
theorem FU:IxR X (Ki X.K):=by
 intro value slice pins s σ H x y v u Q I rx ry h hs;obtain⟨p,xs,i,z,rfl,rfl,hq,he,q⟩:=h;cases rx;obtain⟨t,rfl⟩:=ry;obtain⟨its,r,pl,hz⟩:=I.tuple hq;obtain⟨j,h1,h2,h3,h4,h5⟩:=hJ he;obtain⟨w,ew,rw'⟩:=r.get h2;have hl:=r.length;have hn:=iM;have fin:EP X pins σ Q w s:=⟨z,H,I,rw',q⟩;exact subscriptTail_builtinR (x:=w) pl.typeIs slot_tuple_getitem.lookup
  (getItem_tuple (j:=j) (Q:=fun r s'=>r=w/\EP X pins σ Q r s') pl (by omega) (by omega) (by rw[K2,<-hl];exact h1) (by simpa using ew) ⟨rfl,fin⟩) hs
theorem Gs:IxR X Kr:=by
 intro value slice pins s σ H x y v u Q I rx ry h hs;obtain⟨z,i,c,rfl,rfl,hz,he,q⟩:=h;obtain⟨t,rfl⟩:=rx;obtain⟨t',rfl⟩:=ry;obtain⟨j,h1,h2,h3,h4,h5⟩:=hJ he;have hl:z.cps.toList.length=z.length:=by simp[Str.length]
 rw[hl] at h1 h4 h5;have hn:=iM;exact tail_any (typeIs_str s z t) slot_str_getitem.lookup (getItem_str (c:=c) (by have e1:decide (i < -(2 ^ 63:Int))=false:=LJ (by omega);have e2:decide (i >= 2 ^ 63)=false:=LJ (by omega);rw[e1,e2,Bool.or_false]) (by rw[h1];simpa using h2) ⟨.str ⟨#[c]⟩,H,I.tok _,⟨_,rfl⟩,q⟩) hs
theorem vf (its:List Value)(n j:Nat)(u:Value):Obj.mapSeq (·.setIfInBounds j u) { cls:=.type "list",data:=.seq its.toArray n }={ cls:=.type "list",data:=.seq (its.set j u).toArray n }:=by simp[Obj.mapSeq]
theorem Inv.lst {σ:St}(I:Inv X pins σ H s)(h:H p=some (.lst xs)) :
  ∃(its:List Value) (n:Nat),Vals xs its/\s.heap.get? p=some { cls:=.type "list",data:=.seq its.toArray n }/\xs.length<=sizeLine:=by
 obtain⟨z,its,n,r,e⟩:=I.hok p _ h;exact⟨its,n,r,e,z⟩
theorem Inv.lstUpd {σ:St}{its its':List Value}{f:Obj->Obj}(I:Inv X pins σ H s)(h:H p=some (.lst xs))(ho:s.heap.get? p=some { cls:=.type "list",data:=.seq its.toArray n })(hf:f { cls:=.type "list",data:=.seq its.toArray n }={ cls:=.type "list",data:=.seq its'.toArray n' })(r:Vals ys its')(hz:ys.length<=sizeLine)(t:Nat) :
  Inv X pins σ (upd H p (.lst ys)) { s with heap:=s.heap.update p f,toks:=t }:=by
 have e:(s.heap.update p f).get? p=some { cls:=.type "list",data:=.seq its'.toArray n' }:=by rw[L_ f ho (by rw[hf] <;> rfl),hf]
 refine I.write (x:=p) (e:=p) (by rw[h];trivial) (.inl rfl) (fun b u hb q=>(L7 _ _ (Ne.symm hb)).trans q) ⟨_,e⟩ ?_;exact⟨hz,its',n',r,e⟩
noncomputable def HV:V->V->V->Hp->(Hp->Prop)->Prop:=fun o i v H Q=>∃p xs k j,o=.ref p/\i=.int k/\H p=some (.lst xs)/\ixN xs.length k=some j/\Q (upd H p (.lst (xs.set j v)))
theorem AZ:FB X HV:=by
 intro pins s σ H o i v ov iv u Q I ro ri rv h;obtain⟨p,xs,k,j,rfl,rfl,hp,hj,q⟩:=h;cases ro;obtain⟨t,rfl⟩:=ri;obtain⟨its,n,r,ho,hz⟩:=I.lst hp;obtain⟨h1,h2,h3,h4⟩:=v9 hj;have hl:=r.length;have hn:=iM;have I':Inv X pins σ (upd H p (.lst (xs.set j v))) { s with heap:=s.heap.update p (Obj.mapSeq (·.setIfInBounds j u)) } :=
  I.lstUpd hp ho (vf its n j u) (r.set rv j) (by rw[M_];exact hz) s.toks
 by_cases h0:0<=k
 ·have hk:k.toNat=j:=by rw[seqIndex_of h0 h4] at h1;exact LL h1
  exact W.ki_setAt ho h0 (by omega) (by rw[K2,<-hl];exact h4) (by rw[hk];exact⟨_,I',q⟩)
 ·have hk:(k+(its.toArray.size:Int)).toNat=j:=by rw[seqIndex_neg (by omega) h3] at h1;rw[K2,<-hl];exact LL h1
  exact W.ki_setBack ho (by omega) (by rw[K2,<-hl];exact h3) (by omega) (by rw[hk];exact⟨_,I',q⟩)
theorem p_ (lo hi:Option Int)(n:Nat):(sliceBounds lo hi none n).1=((HT.sIx n 0 lo:Nat):Int)/\(sliceBounds lo hi none n).2.1=((HT.sIx n n hi:Nat):Int)/\(sliceBounds lo hi none n).2.2=1:=by
 refine⟨?_,?_,rfl⟩
 ·cases lo with
  | none=>simp[sliceBounds,HT.sIx]
  | some i =>
   simp only[sliceBounds,HT.sIx,Option.getD_none,show (1:Int) > 0 by decide,if_true];by_cases h:i<0
   ·simp only[h,if_true] <;> omega
   ·simp only[h,if_false] <;> omega
 ·cases hi with
  | none=>simp[sliceBounds,HT.sIx]
  | some i =>
   simp only[sliceBounds,HT.sIx,Option.getD_none,show (1:Int) > 0 by decide,if_true];by_cases h:i<0
   ·simp only[h,if_true] <;> omega
   ·simp only[h,if_false] <;> omega
theorem n8 (its:List Value)(lo hi:Option Int):slicePick its.toArray lo hi none=((its.drop (HT.sIx its.length 0 lo)).take (HT.sIx its.length its.length hi-HT.sIx its.length 0 lo)).toArray:=by obtain⟨h1,h2,h3⟩:=p_ lo hi its.toArray.size;unfold slicePick;rw[h1,h2,h3];simp only[sliceRange_one,pick_run,List.size_toArray] <;> rfl
noncomputable def JO (K:W.Frag):V->Option Int->Option Int->Hp->VK->Prop:=fun x lo hi H Q=>∃a xs,x=.ref a/\SqL K H a xs/\∀p,H p=none->Q (.ref p) (upd H p (.lst (nu xs lo hi)))
theorem Co:SlR X (JO X.K):=by intro pins s σ H x v vl vu lo hi sl Q I rx hs pl pu h;obtain⟨a,xs,rfl,hx,q⟩:=h;cases rx;obtain⟨its,r,ht,hz⟩:=I.list hx;have hlen:=r.length;refine ⟨"list",_,slot_list_getitem.lookup,ht.isList.typeIs,?_⟩;refine wpAny_getItem_list_slice ht.isList hs pl pu .none (by simp) ?_ (by rw[K2] <;> omega);rw[n8,<-hlen];refine⟨.ref s.heap.objs.size,_,I.laid (t':=s.toks) (o:=.lst (nu xs lo hi)) (fun b ob q=>KB _ q) (KF _) ?_,rfl,q _ (I.hok.fresh (KF _))⟩;exact⟨K_ (kA xs lo hi) hz,_,0,(r.drop (HT.sIx xs.length 0 lo)).take (HT.sIx xs.length xs.length hi-HT.sIx xs.length 0 lo),KI _ rfl⟩
noncomputable def ji:V->Bool
 | .non=>true
 | .bl _=>true
 | .int _=>true
 | .str _=>true
 | _=>false
noncomputable def eqV:V->V->Bool
 | .non,.non=>true
 | .bl a,.bl b=>a == b
 | .bl a,.int b=>(if a then 1 else 0) == b
 | .int a,.bl b=>a == (if b then 1 else 0)
 | .int a,.int b=>a == b
 | .str a,.str b=>a == b
 | _,_=>false
theorem FH (ry:RelV y u)(rx:RelV x v)(fy:ji y=true)(fx:ji x=true):SeqAt.EqAt A s u v (eqV y x):=by
 cases y with
 | non =>
  cases ry;cases x with
  | non=>cases rx;exact SeqAt.EqAt.same _
  | bl b=>cases rx;exact SeqAt.EqAt.none_bool b
  | int b=>obtain⟨t,rfl⟩:=rx;exact SeqAt.EqAt.none_int b t
  | str b=>obtain⟨t,rfl⟩:=rx;exact SeqAt.EqAt.none_str b t
  | _=>exact absurd (show false=true from fx) KD
 | bl a =>
  cases ry;cases x with
  | non=>cases rx;exact SeqAt.EqAt.bool_none a
  | bl b=>cases rx;exact SeqAt.EqAt.bool_bool a b
  | int b=>obtain⟨t,rfl⟩:=rx;exact SeqAt.EqAt.bool_int a b t
  | str b=>obtain⟨t,rfl⟩:=rx;exact SeqAt.EqAt.bool_str a b t
  | _=>exact absurd (show false=true from fx) KD
 | int a =>
  obtain⟨t',rfl⟩:=ry;cases x with
  | non=>cases rx;exact SeqAt.EqAt.int_none a t'
  | bl b=>cases rx;exact SeqAt.EqAt.int_bool a t' b
  | int b=>obtain⟨t,rfl⟩:=rx;exact SeqAt.EqAt.int_int a t' b t
  | str b=>obtain⟨t,rfl⟩:=rx;exact SeqAt.EqAt.int_str a t' b t
  | _=>exact absurd (show false=true from fx) KD
 | str a =>
  obtain⟨t',rfl⟩:=ry;cases x with
  | non=>cases rx;exact SeqAt.EqAt.str_none a t'
  | bl b=>cases rx;exact SeqAt.EqAt.str_bool a t' b
  | int b=>obtain⟨t,rfl⟩:=rx;exact SeqAt.EqAt.str_int a t' b t
  | str b=>obtain⟨t,rfl⟩:=rx;exact SeqAt.EqAt.str_str a t' b t
  | _=>exact absurd (show false=true from fx) KD
 | _=>exact absurd (show false=true from fy) KD
noncomputable def eqU (x:V)(u:Value):Bool:=match u with
 | .none=>eqV .non x
 | .bool b=>eqV (.bl b) x
 | .int i _=>eqV (.int i) x
 | .str z _=>eqV (.str z) x
 | _=>false
theorem Af (r:RelV y u)(f:ji y=true):eqU x u=eqV y x:=by
 cases y with
 | non=>cases r;rfl
 | bl b=>cases r;rfl
 | int i=>obtain⟨t,rfl⟩:=r;rfl
 | str z=>obtain⟨t,rfl⟩:=r;rfl
 | _=>exact absurd (show false=true from f) KD
theorem i_:∀ {xs:List V}{us:List Value},Vals xs us->xs.all ji=true->us.any (eqU x)=xs.any fun y=>eqV y x
 | _,_,.nil,_=>rfl
 | y::xs,u::us,.cons r t,f=>by rw[M7,KW] at f;rw[L6,L6,Af r f.1,i_ t f.2]
theorem gN (rx:RelV x v)(fx:ji x=true):∀ {xs:List V}{us:List Value},Vals xs us->xs.all ji=true->∀u∈us,SeqAt.EqAt A s u v (eqU x u)
 | _,_,.nil,_=>fun u hu=>by cases hu
 | y::xs,u::us,.cons r t,f=>fun u' hu=>by
  rw[M7,KW] at f;rcases LC.mp hu with rfl|hu
  ·rw[Af r f.1];exact FH r rx f.1 fx
  ·exact gN rx fx t f.2 u' hu
noncomputable def inV (x:V)(xs:List V):Bool:=xs.any fun y=>eqV y x
noncomputable def rIn (K:W.Frag)(neg:Bool):R2:=fun x y H Q=>∃p xs,y=.ref p/\(SqL K H p xs\/SqT K H p xs)/\ji x=true/\xs.all ji=true/\Q (.bl (if neg then !inV x xs else inV x xs)) H
theorem wN:OpR X (compareOp .In) (rIn X.K false):=by
 intro pins s σ H x y v u Q I rx ry h;obtain⟨p,xs,rfl,hq,fx,fs,q⟩:=h;cases ry;rcases hq with hq|hq
 ·obtain⟨its,r,pl,hz⟩:=I.list hq;refine SeqAt.in_listAt (eqU x) pl.isList (fun w hw=>gN rx fx r fs w (by simpa using hw)) ⟨.bl _,H,I,rfl,?_⟩;rw[show its.toArray.any (eqU x)=its.any (eqU x) by simp,i_ r fs];exact q
 ·obtain⟨its,r,pl,hz⟩:=I.tuple hq;refine SeqAt.in_tupleAt (eqU x) pl (fun w hw=>gN rx fx r fs w (by simpa using hw)) ⟨.bl _,H,I,rfl,?_⟩;rw[show its.toArray.any (eqU x)=its.any (eqU x) by simp,i_ r fs];exact q
theorem qN:OpR X (compareOp .NotIn) (rIn X.K true):=by
 intro pins s σ H x y v u Q I rx ry h;obtain⟨p,xs,rfl,hq,fx,fs,q⟩:=h;cases ry;rcases hq with hq|hq
 ·obtain⟨its,r,pl,hz⟩:=I.list hq;refine SeqAt.notIn_listAt (eqU x) pl.isList (fun w hw=>gN rx fx r fs w (by simpa using hw)) ⟨.bl _,H,I,rfl,?_⟩;rw[show its.toArray.any (eqU x)=its.any (eqU x) by simp,i_ r fs];exact q
 ·obtain⟨its,r,pl,hz⟩:=I.tuple hq;refine SeqAt.notIn_tupleAt (eqU x) pl (fun w hw=>gN rx fx r fs w (by simpa using hw)) ⟨.bl _,H,I,rfl,?_⟩;rw[show its.toArray.any (eqU x)=its.any (eqU x) by simp,i_ r fs];exact q
theorem qX:OpR X (compareOp .NotIn) (fun x y H Q=>∃i j,x=.str i/\y=.str j/\Q (.bl (!(!(Builtin.Str.occurrences j i 0 j.length 1).isEmpty))) H):=by intro pins s σ H x y v u Q I rx ry h;obtain⟨i,j,rfl,rfl,q⟩:=h;obtain⟨t,rfl⟩:=rx;obtain⟨t',rfl⟩:=ry;exact notIn_str ⟨.bl _,H,I,rfl,q⟩
theorem pI:cV X (.builtin "len") (fun xs H Q=>∃p ys,xs=[.ref p]/\(SqL X.K H p ys\/SqT X.K H p ys)/\Q (.int ys.length) H):=by
 intro pins s σ H xs us Q I r h;obtain⟨p,ys,rfl,hq,q⟩:=h;obtain⟨u,rfl,rx⟩:=bC r;cases rx;have hn:=iM;rcases hq with hq|hq
 ·obtain⟨its,r',pl,hz⟩:=I.list hq;have hlen:=r'.length;exact Calls.call_len_list pl.isList (by simp only[List.size_toArray] <;> omega) ⟨.int ys.length,H,I.tok _,⟨s.toks+1,by rw[K2,hlen]⟩,q⟩
 ·obtain⟨its,r',pl,hz⟩:=I.tuple hq;have hlen:=r'.length;exact len_tuple pl (by simp only[List.size_toArray] <;> omega) ⟨.int ys.length,H,I.tok _,⟨s.toks+1,by rw[K2,hlen]⟩,q⟩
theorem qA:cV X (.builtin "len") (fun xs H Q=>∃z,xs=[.str z]/\z.length<=sizeLine/\Q (.int z.length) H):=by intro pins s σ H xs us Q I r h;obtain⟨z,rfl,hz,q⟩:=h;obtain⟨u,rfl,t,rfl⟩:=bC r;have hn:=iM;exact len_str (by omega) ⟨.int z.length,H,I.tok _,⟨_,rfl⟩,q⟩
theorem pD:cV X (.type "list") (fun xs H Q=>∃p ys,xs=[.ref p]/\(SqL X.K H p ys\/SqT X.K H p ys)/\∀l,H l=none->Q (.ref l) (upd H l (.lst ys))):=by
 intro pins s σ H xs us Q I r h;obtain⟨p,ys,rfl,hq,q⟩:=h;obtain⟨u,rfl,rx⟩:=bC r;cases rx;have fin:∀(its:List Value),Vals ys its->ys.length<=sizeLine->∀(h':Heap) (c':Nat),(∀b o',s.heap.get? b=some o'->h'.get? b=some o') ->
   h'.get? s.heap.objs.size=some { cls:=.type "list",dict:=none,data:=.seq its.toArray c',slots:=#[] }->EP X pins σ Q (.ref s.heap.objs.size) { s with heap:=h' }:=fun its r' hz h' c' kp e =>
  ⟨.ref s.heap.objs.size,_,I.laid (t':=s.toks) kp (KF _) (show ObjOk X.prog X.w _ h' _ (.lst ys) from ⟨hz,its,c',r',e⟩),rfl,q _ (I.hok.fresh (KF _))⟩
 rcases hq with hq|hq
 ·obtain⟨its,r',pl,hz⟩:=I.list hq;have hlen:=r'.length;obtain⟨o,ho,hc,n,hd⟩:=pl.isList;exact call_list_seq p (.inl rfl) ho hc hd (fun h' c' kp e=>fin its r' hz h' c' kp e) (by simp only[List.size_toArray] <;> omega)
 ·obtain⟨its,r',pl,hz⟩:=I.tuple hq;have hlen:=r'.length;obtain⟨o,ho,hc,n,hd⟩:=pl;exact call_list_seq p (.inr rfl) ho hc hd (fun h' c' kp e=>fin its r' hz h' c' kp e) (by simp only[List.size_toArray] <;> omega)
theorem nR:cV X (.type "tuple") (fun xs H Q=>∃p ys,xs=[.ref p]/\((SqL X.K H p ys/\∀l,H l=none->Q (.ref l) (upd H l (.tup ys)))\/(SqT X.K H p ys/\Q (.ref p) H))):=by
 intro pins s σ H xs us Q I r h;obtain⟨p,ys,rfl,h⟩:=h;obtain⟨u,rfl,rx⟩:=bC r;cases rx;rcases h with⟨hq,q⟩|⟨hq,q⟩
 ·obtain⟨its,r',pl,hz⟩:=I.list hq;have hlen:=r'.length;refine call_tuple_list pl.isList (fun h' kp=>?_) (by simp only[List.size_toArray] <;> omega);have I1:Inv X pins σ H { s with heap:=h' }:=I.kept (t':=s.toks) kp;have I2:Inv X pins σ (upd H h'.objs.size (.tup ys)) { s with heap:=h'.push { cls:=.type "tuple",data:=.seq its.toArray } } :=
   I1.laid (t':=s.toks) (fun b o e=>KB _ e) (KF _) (show ObjOk X.prog X.w _ _ _ (.tup ys) from ⟨hz,its,r',IsTup.new _ _⟩)
  exact⟨.ref h'.objs.size,_,I2,rfl,q _ (I1.hok.fresh (KF _))⟩
 ·obtain⟨its,r',pl,hz⟩:=I.tuple hq;exact call_tuple_same pl ⟨.ref p,H,I,rfl,q⟩
def tyV (K:W.Frag)(T:String)(x:V)(H:Hp):Prop:=match x with
 | .str _=>T="str"
 | .int _=>T="int"
 | .ref p=>(T="list"/\∃xs,SqL K H p xs)\/(T="tuple"/\∃o,K.lookup p=some o/\o.cls=.type "tuple"/\o.dict=none) \/
   (T="dict"/\((∃kvs,H p=some (.dK kvs))\/∃kvs,H p=some (.dT kvs)))\/(T="set"/\∃S n,H p=some (.set S n))
 | _=>False
theorem yS {σ:St}(I:Inv X pins σ H s)(r:RelV x v)(ty:tyV X.K T x H) :
  s.TypeIs v T/\∀a,v=.ref a->∃ob,s.heap.get? a=some ob/\ob.dict=none:=by
 cases x with
 | str z =>obtain⟨t,rfl⟩:=r;cases (show T="str" from ty);exact⟨typeIs_str s z t,fun _ e=>nomatch e⟩
 | int i =>obtain⟨t,rfl⟩:=r;cases (show T="int" from ty);exact⟨typeIs_int s i t,fun _ e=>nomatch e⟩
 | ref p =>
  cases r;rcases ty with⟨rfl,xs,hq⟩|⟨rfl,o,hk,hc,hd⟩|⟨rfl,hk⟩|⟨rfl,S,n,hk⟩
  ·obtain⟨its,_,pl,_⟩:=I.list hq;refine⟨pl.isList.typeIs,fun a e=>?_⟩;cases e;obtain⟨o,n,e,c,hd,_⟩:=pl;exact⟨o,e,hd⟩
  ·refine⟨⟨o,I.kIn p o hk,hc⟩,fun a e=>?_⟩;cases e;exact⟨o,I.kIn _ o hk,hd⟩
  ·have z:∃o,s.heap.get? p=some o/\o.ExactDict:=by
    rcases hk with⟨kvs,hk⟩|⟨kvs,hk⟩
    ·obtain⟨_,_,_,_,o,_,_,e,ex,_⟩:=I.hok p _ hk;exact⟨o,e,ex⟩
    ·obtain⟨_,_,_,_,o,_,_,e,ex,_⟩:=I.hok p _ hk;exact⟨o,e,ex⟩
   obtain⟨o,e,ex⟩:=z;refine⟨⟨o,e,ex.1⟩,fun a e2=>?_⟩;cases e2;exact⟨o,e,ex.2.1⟩
  ·obtain⟨o,_,_,_,e,ex,_⟩:=I.hok p _ hk;refine⟨⟨o,e,ex.1⟩,fun a e2=>?_⟩;cases e2;exact⟨o,e,ex.2.1⟩
 | _=>exact False.elim ty
noncomputable def JW (K:W.Frag)(T:String)(r:V->List V->Hp->VK->Prop)(to:TE):TE:=fun σ H Q=>to σ H fun x H1=>tyV K T x H1/\r x [] H1 Q
noncomputable def tBM (K:W.Frag)(T:String)(r:V->List V->Hp->VK->Prop)(to:TE)(t:TA):TE:=fun σ H Q=>to σ H fun x H1=>tyV K T x H1/\t σ H1 fun xs H2=>r x xs H2 Q
variable {o e:Expr}{es:List Expr}{to:TE}{t:TA}{name:Str}{apos cpos:Pos}{T id:String}{r:V->List V->Hp->VK->Prop}
theorem rm (pa:PlainAttrs T)(slot:Slot T name id)(hty:typeOf (.builtin id)=pure (.type "method_descriptor"))(hm:MtR X id r)(ho:PE X o to)
  (hbase:attributeBase o name X.env (eval o X.env)=eval o X.env:=by rfl) (hline:(apos.endLine == cpos.line)=true:=by rfl):PE X (.Call (.Attribute o name apos) [] [] cpos) (JW X.K T r to):=by
 intro pins s σ H Q I h;refine wpAny_Call_method0_late hbase hline (thn (ho pins s σ H _ I h) fun v s1 ⟨x,H1,I1,r1,ty,q1⟩=>?_);obtain⟨h1,h2⟩:=yS I1 r1 ty;exact⟨T,id,pa,slot,hty,h1,h2,Calls.callWith_builtin rfl (PySem.evalArgs_none (hm pins s1 σ H1 x [] v [] Q I1 r1 .nil q1))⟩
theorem m5 (pa:PlainAttrs T)(slot:Slot T name id)(hty:typeOf (.builtin id)=pure (.type "method_descriptor"))(hm:MtR X id r)(ho:PE X o to)(ha:PA X (e::es) t)
  (hbase:attributeBase o name X.env (eval o X.env)=eval o X.env:=by rfl)
  (hfew:((backTo cpos (starEach (e::es) X.env)).all (fun x=>!x.1) && (backToKw cpos (keywordEach [] X.env)).all (fun x=>x.1.isSome)
   && decide ((e::es).length+([]:List Keyword).length+(if ([]:List Keyword).isEmpty then 0 else 1)<30))=true:=by rfl)
  (hline:(apos.endLine == cpos.line)=true:=by rfl) (hs:starEach (e::es) X.env=(false,eval e X.env)::starEach es X.env:=by rfl) (hplain:(backTo cpos (starEach es X.env)).any (·.1)=false:=by rfl) :
  PE X (.Call (.Attribute o name apos) (e::es) [] cpos) (tBM X.K T r to t):=by
 intro pins s σ H Q I h;refine wpAny_Call_method_late hbase hfew hline rfl (thn (ho pins s σ H _ I h) fun v s1 ⟨x,H1,I1,r1,ty,q1⟩=>?_);obtain⟨h1,h2⟩:=yS I1 r1 ty;refine⟨T,id,pa,slot,hty,h1,h2,?_⟩;have hA:=ha cpos pins s1 σ H1 _ I1 q1;rw[hs] at hA |-
 refine Calls.callWith_builtin (by show (false || (backTo cpos (starEach es X.env)).any (·.1))=false;rw[hplain] <;> rfl) (Calls.evalArgs_plain ?_);exact thn hA fun us s2 ⟨vs,H2,I2,r2,q2⟩=>hm pins s2 σ H2 x vs v us Q I2 r1 r2 q2
end
end L2
namespace L2
def MtM (X:Cx)(id:String)(r:V->List V->Hp->VK->Prop):Prop :=
 ∀(pins:List (Addr × Obj)) (s:Shared) (σ:St) (H:Hp) (x:V) (xs:List V) (v:Value) (us:List Value) (Q:VK),Inv X pins σ H s->RelV x v->Vals xs us->r x xs H Q ->
  wpAny (model X.prog X.w) X.A (call (.builtin id) (v::us)) (EP X pins σ Q) X.xe s
theorem Vals.one:∀ {x:V}{us:List Value},Vals [x] us->∃u,us=[u]/\RelV x u
 | _,_,.cons r .nil=>⟨_,rfl,r⟩
section
variable {X:Cx}{pins:List (Addr × Obj)}{σ:St}{H:Hp}{s:Shared}{l b:Addr}{xs ys zs:List V}
theorem Inv.lset {its its':List Value}{f:Array Value->Array Value}{t':Nat}(I:Inv X pins σ H s)(hH:H l=some (.lst xs))(e:s.heap.get? l=some { cls:=.type "list",data:=.seq its.toArray n })(hf:f its.toArray=its'.toArray)(hv:Vals ys its')(hz:ys.length<=sizeLine) :
  Inv X pins σ (upd H l (.lst ys)) { s with heap:=s.heap.update l (Obj.mapSeq f),toks:=t' }:=by
 have q:=PySem.IsL.update e f;rw[hf] at q;refine I.write (x:=l) (e:=l) (by rw[hH];exact trivial) (.inl rfl) (fun b' u hb hu=>(L7 s.heap (Obj.mapSeq f) (Ne.symm hb)).trans hu) ⟨_,q⟩ ?_;exact⟨hz,its',_,hv,q⟩
theorem Inv.lnew {t':Nat}(I:Inv X pins σ H s)(hv:Vals ys its)(hz:ys.length<=sizeLine) :
  Inv X pins σ (upd H s.heap.objs.size (.lst ys)) { s with heap:=s.heap.push { cls:=.type "list",data:=.seq its.toArray },toks:=t' } :=
 I.laid (fun _ _ q=>KB _ q) (KF _) ⟨hz,its,0,hv,KI _ rfl⟩
theorem Inv.fresh (I:Inv X pins σ H s):H s.heap.objs.size=none:=I.hok.fresh (KF _)
theorem Inv.lstM (I:Inv X pins σ H s)(hH:H l=some (.lst xs)):xs.length<=sizeLine/\∃(its:List Value) (n:Nat),Vals xs its/\xs.length=its.length/\s.heap.get? l=some { cls:=.type "list",data:=.seq its.toArray n }:=by obtain⟨z,its,n,r,e⟩:=I.hok l _ hH;exact⟨z,its,n,r,r.length,e⟩
theorem BL {n:Nat}(h:n<=sizeLine):Builtin.List.listTooLong n=false:=by unfold Builtin.List.listTooLong;exact LJ (by omega)
end
section
variable {X:Cx}
noncomputable def C2:V->List V->Hp->VK->Prop:=fun x vs H Q=>∃l xs y,x=.ref l/\vs=[y]/\H l=some (.lst xs)/\xs.length<sizeLine/\Q .non (upd H l (.lst (xs++[y])))
theorem oJ:MtM X "list.append" C2:=by intro pins s σ H x vs v us Q I rx rv h;obtain⟨l,xs,y,rfl,rfl,hH,hz,q⟩:=h;cases rx;obtain⟨u,rfl,ru⟩:=rv.one;obtain⟨z,its,n,r,hl,e⟩:=I.lstM hH;refine call_meets F.slot_list_append ⟨_,e,rfl⟩ F.entry_list_append (F.args_list_append_2 _ _) (PySem.list_append l its.toArray n u (by rw[K2];omega)) ⟨e,?_⟩;refine⟨.non,_,I.lset (its':=its++[u]) hH e (by simp) (r.append (.cons ru .nil)) ?_,rfl,q⟩;rw[KN,List.length_singleton];omega
noncomputable def JN:R2:=fun x y H Q=>∃l b xs zs,x=.ref l/\y=.ref b/\H l=some (.lst xs)/\H b=some (.lst zs)/\xs.length+zs.length<=sizeLine/\∀p,H p=none->Q (.ref p) (upd H p (.lst (xs++zs)))
theorem GE:OpR X (binaryOp .Add) JN:=by
 intro pins s σ H x y v u Q I rx ry h;obtain⟨l,b,xs,zs,rfl,rfl,hH,hB,hz,q⟩:=h;cases rx;cases ry;obtain⟨z,its,n,r,hl,e⟩:=I.lstM hH;obtain⟨z2,its2,n2,r2,hl2,e2⟩:=I.lstM hB;refine PySem.P.add_list e e2 ?_ (by rw[K2,K2];omega);have ea:its.toArray++its2.toArray=(its++its2).toArray:=by simp
 rw[ea];exact⟨.ref _,_,I.lnew (t':=s.toks) (r.append r2) (by rw[KN];omega),rfl,q _ I.fresh⟩
end
section
variable {prog:Program}{w:World}{A:Around}{E:Value->Shared->Prop}{s:Shared}
set_option maxRecDepth 100000 in
end
section
variable {X:Cx}
end
end L2
namespace Att
open PySem PySem.W PySem.Calls
open PyProof.Rows hiding K st lo ad
theorem k9:∀(ns:List Int) (vs:List Value),WellAll P h vs (ns.map WData.int)->IntsAre vs ns:=by
 intro ns
 induction ns with
 | nil =>intro vs w;rw[LW] at w;cases w;exact .nil
 | cons n ns ih =>
  intro vs w;rw[KG] at w;cases w with
  | cons a b =>cases a;exact .cons _ _ (ih _ b)
theorem w5 {l:OpenLaw}(hn:l.most=some n)(hpre:l.row.toRowW.claim.pre args=true)(hwl:WellAll P h vals args) :
  ∃a vs ns,vals=[Value.ref a]/\args=[WData.list (ns.map WData.int)]/\h.get? a=some { cls:=.type "list",data:=.seq vs.toArray }/\IntsAre vs ns/\ns.length<=n:=by
 have hsh:WShape.hasAll [] args [.list .int]=true:=(pre_splitW hpre).1;have hc:l.pre.holds [] { args:=args }=true:=(pre_splitW hpre).2;obtain⟨d,r,rfl,h1,h2⟩:=hasAllW_cons hsh;obtain rfl:=hasAllW_nil h2;obtain⟨xs,rfl,h3⟩:=hasW_list h1;obtain⟨ns,rfl⟩:=items_int h3;have hlen:ns.length<=n:=by
  unfold OpenLaw.pre at hc;have h4:(WTm.not (.lt (.lit (.int (n:Int))) (.len (.arg 0)))).holds [] { args:=[.list (ns.map .int)] }=true:=by have h4:=(holds_andW hc).1;rw[hn] at h4;exact h4
  have h5:=condW_of h4 (w_not (w_lt w_lit (w_len_list (w_arg rfl))));rw[KH] at h5;refine Nat.le_of_not_lt fun q=>?_;have q':(n:Int)<((ns.length:Nat):Int):=by omega
  first
   | (rw[LH q'] at h5;exact absurd h5 (by decide))
   | (simp at h5;omega)
 cases hwl with
 | cons w1 w2 =>
  cases w2;cases w1 with
  | list ho hall=>exact⟨_,_,ns,rfl,rfl,ho,k9 ns _ hall,hlen⟩
theorem xY (l:OpenLaw)(args:List WData):l.row.toRowW.claim.post args (.bool true) args=true :=
 postW_of (r:=l.row.toRowW) (X:=(true == true))
  (show WShape.has [] (.bool true) .bool=true by first|rfl|decide|simp[WShape.has,WShape.arms,WShape.armsAll])
  (show (WTm.eq .res (.lit (.bool true))).value [] { args:=args,res:=some (.bool true),after:=args }=some (.bool (true == true)) from w_eq_bool (w_res rfl) w_lit) rfl
theorem attach_call {l:OpenLaw}{YP:World->Heap->Prop}{d:DefRec}(hn:l.most=some n)(hdf:d.params.defaults=[])(call:∀(w:World) (s₀ s₁:Shared) (mg mb:Str->Option Value) (fa:Addr) (o:Obj) (pm cd doc:Value) (a:Addr) (vs:List Value) (ns:List Int),
   Ground q loose [] XP w s₀ mg mb s₁.heap->YP w s₁.heap ->
   s₁.heap.get? fa=some o->o.data=.func (docDef d.name d.params d.body d.scope pm cd doc)->s₁.heap.CodeRec cd d.name->mg d.name=some (.ref fa) ->
   s₁.heap.get? a=some { cls:=.type "list",data:=.seq vs.toArray }->IntsAre vs ns->ns.length<=n->s₁.gens=#[] ->
   codeAny (model l.prog w) callerA (.call (.ref fa) ⟨[.ref a],[]⟩) (fun r s'=>r=.ok (.ret (.bool true))/\OldK s₁.heap s'.heap/\s'.os=s₁.os/\AllBare s'.gens) s₁) :
  WalkO q loose XP YP l.row.toRowW d [] (fun f vs=>PySem.call f vs):=by
 intro w s₀ s₁ mg mb G Y fa o pm cd doc dV kV ho hd hcd hD hmg hg args vals as hpre hlay hrd hwl hlo;obtain rfl:dV=.none:=Dflts.none hD hdf;obtain rfl:kV=.none:=Dflts.noKw hD;obtain⟨a,vs,ns,rfl,rfl,hobj,hints,hlen⟩:=w5 hn hpre hwl;refine enter_call (codeAny_mono (call w s₀ s₁ mg mb fa o pm cd doc a vs ns G Y ho (fd_plain hd) hcd hmg hobj hints hlen hg) fun r s' hq=>?_);obtain⟨rfl,h2,h3,h4⟩:=hq;exact⟨.inl ⟨.bool true,.bool true,[],rfl,fun _=>rfl,.bool true,xY l _,fun _=>⟨List.Pairwise.nil,fun _ hm=>(nomatch hm)⟩⟩,h2,h3,h4⟩
section
variable {prog:Program}{w:World}{A:Around}{E:Value->Shared->Prop}{s:Shared}{K:Frag}
end
end Att
namespace L2
theorem ou:∀ {vs:List Value}{ns:List Int},IntsAre vs ns->Vals (ns.map V.int) vs
 | _,_,.nil=>.nil
 | _,_,.cons n t h=>.cons ⟨t,rfl⟩ (ou h)
end L2
namespace L2
end L2
namespace L2
noncomputable def cQ (s:Stmt):Arguments:=match s with
 | .FunctionDef _ a _ _ _ _ _ _ _ _=>a
 | _=>{ posonlyargs:=[],args:=[],vararg:=none,kwonlyargs:=[],kw_defaults:=[],kwarg:=none,defaults:=[] }
noncomputable def ai (s:Stmt):List Stmt:=match s with
 | .FunctionDef _ _ b _ _ _ _ _ _ _=>b
 | _=>[]
noncomputable def ae (s:Stmt):Scope:=match s with
 | .FunctionDef _ _ _ _ _ _ sc _ _ _=>sc
 | _=>{ kind:=.function,names:=[],isGenerator:=false,isCoroutine:=false }
noncomputable abbrev CX0:CXT:=fun _ _ _ _ _ _=>False
noncomputable abbrev E0:XK:=fun _ _ _=>False
theorem Dx:pV CX0 X E0:=fun _ _ _ _ _ _ _ h=>h.elim
structure Fun (K:W.Frag)(x qual:Str)(st:Stmt)(f:Addr)(fd:FuncData):Prop where
 ex:∃(oc:Value) (od:Option Addr) (kV doc pm:Value) (an:Option Addr) (cdv ct:Value) (osl:Array (Option Value)),
  fd=W.fnOf x qual (cQ st) (ai st) (ae st) .none kV doc pm an cdv ct/\K.lookup f=some ⟨oc,od,.func fd,osl⟩/\W.codeIn K cdv qual=true
 kp:W.keepIn K (.ref f)=true
section
variable {P:Program}{w:World}{K:W.Frag}{mg:Str->Option Value}{base:Heap}
theorem Fun.ok (F:Fun K x qual st f fd)(S:aj N ps (ae st))(len:∀vs H Q E,sp vs H Q E->vs.length=ps.length)(hbody:∀(cdv:Value) (A:Around) (outer:List Env) (s:Shared) (H:Hp) (vs:List V) (Q:VK) (E:XK),Room k (A.deeper (envOfC qual (ae st) s.heap.objs.size f cdv))->sp vs H Q E ->
   ∃t,PSs (jF CX0 P w K mg base N qual (ae st) f cdv A outer s H E).nox (ai st) t/\t { nx:=fun _ H'=>Q .non H',rt:=Q } (start N vs) H):nO P w K mg base CX0 (k+1) f fd ps sp:=by
 obtain⟨oc,od,kV,doc,pm,an,cdv,ct,osl,rfl,lk,hcd⟩:=F.ex;refine Jf lk hcd S len fun A outer s H vs Q E hr hsp=>?_;obtain⟨t,h,q⟩:=hbody cdv A outer s H vs Q E hr hsp;exact⟨t,h.nox,q⟩
theorem Fun.binds {ps:List Str}(F:Fun K x qual st f fd)(h:∀(kV doc pm:Value) (an:Option Addr) (cdv ct:Value) (us:List Value),us.length=ps.length->bindArgs (W.fnOf x qual (cQ st) (ai st) (ae st) .none kV doc pm an cdv ct) ⟨us,[]⟩=pure (ps.zip us)):Binds K fd ps []:=by
 obtain⟨oc,od,kV,doc,pm,an,cdv,ct,osl,rfl,lk,hcd⟩:=F.ex;exact .all (h kV doc pm an cdv ct)
theorem Be {x qual:Str}{st:Stmt}{an:Option Addr}{kV doc pm cdv ct:Value}(l:K.lookup f=some ⟨oc,od,.func (W.fnOf x qual (cQ st) (ai st) (ae st) .none kV doc pm an cdv ct),osl⟩)(c:W.codeIn K cdv qual=true)(k:W.keepIn K (.ref f)=true):Fun K x qual st f (W.fnOf x qual (cQ st) (ai st) (ae st) .none kV doc pm an cdv ct):=⟨⟨oc,od,kV,doc,pm,an,cdv,ct,osl,rfl,l,c⟩,k⟩
end
theorem yd {n:Nat}(h:n<=1000):n<sizeLine:=MJ h (by decide)
section
variable {X:Cx}
end
theorem J6 {A B:Prop}(h:A):if true=true then A else B:=by rw[KZ rfl];exact h
def Same (H H':Hp):Prop:=∀b o,H b=some o->H' b=some o
theorem Same.seq (e:Same H H')(h:SqL K H a xs):SqL K H' a xs:=by
 rcases h with (h|⟨o,h⟩)|h
 ·exact .inl (.inl (e _ _ h))
 ·exact .inl (.inr ⟨o,e _ _ h⟩)
 ·exact .inr h
end L2
namespace HX
open L2
section
variable {X:Cx}{a b c:Expr}{ta tb tc:TE}{pos:Pos}
def CBig (j:Int):Prop:=0<j/\j.natAbs.log2<9000
def CMB (i j:Int):Prop:=i.natAbs<2 ^ 20000/\j.natAbs<2 ^ 20000\/(-(2 ^ 64)<i/\i<2 ^ 64)\/(-(2 ^ 64)<j/\j<2 ^ 64)
theorem vB {i:Int}(h:i.natAbs<2 ^ n):Builtin.Int.intBits i<=n:=by
 unfold Builtin.Int.intBits;split
 ·exact LU _
 ·rename_i hz;have h0:i.natAbs≠0:=by
   intro z;apply hz;have:i=0:=by omega
   simp[this]
  have:i.natAbs.log2<n:=(NR h0).mpr h;omega
theorem CMB.ok (h:CMB i j):IntMulOk i j:=by
 rcases h with⟨h1,h2⟩|⟨h1,h2⟩|⟨h1,h2⟩
 ·exact IntMulOk.of_le (vB h1) (vB h2) (by decide)
 ·exact .of_left (intBits_le_64 h1 h2)
 ·exact .of_right (intBits_le_64 h1 h2)
theorem CBig.of {j:Int}(h:0<j)(h2:j<2 ^ 8999):CBig j:=by
 refine⟨h,?_⟩;have h0:j.natAbs≠0:=by omega
 have:j.natAbs<2 ^ 8999:=by
  have e:((2:Int) ^ 8999)=((2 ^ 8999:Nat):Int):=by rw[OI];rfl
  rw[e] at h2;generalize (2:Nat) ^ 8999=z at h2 |-
  omega
 have:=(NR h0).mpr this;omega
theorem Cv:OpR X (binaryOp .Mult) (rI CMB fun i j=>.int (i*j)):=opI fun _ _ _ _ _ _ _ hc q=>mul_int q hc.ok
theorem Az:OpR X (binaryOp .FloorDiv) (rI (fun _ j=>CBig j) fun i j=>.int (i/j)):=opI fun i j _ _ _ _ _ hc q=>by refine floordiv_int (by have:=hc.1;omega) ?_ (.inl (M8 hc.2));rw[Int.fdiv_eq_ediv_of_nonneg _ (OX hc.1)];exact q
theorem qE:cV X (.builtin "divmod") (fun xs H Q=>∃i j,xs=[.int i,.int j]/\CBig j/\∀p,H p=none->Q (.ref p) (upd H p (.tup [.int (i/j),.int (i % j)]))):=by intro pins s σ H xs us Q I r h;obtain⟨i,j,rfl,hc,q⟩:=h;obtain⟨u,v,rfl,⟨t,rfl⟩,⟨t',rfl⟩⟩:=sv r;refine divmod_int (by have:=hc.1;omega) ?_ (.inl (M8 hc.2));rw[Int.fdiv_eq_ediv_of_nonneg _ (OX hc.1),Int.fmod_eq_emod_of_nonneg _ (OX hc.1)];have hf:H s.heap.objs.size=none:=I.hok.fresh (KF _);refine⟨.ref s.heap.objs.size,upd H s.heap.objs.size (.tup [.int (i/j),.int (i % j)]),I.laid (t':=s.toks+1+1) (fun b u e=>KB _ e) (KF _) ?_,rfl,q _ hf⟩;exact⟨by show 2<=sizeLine;decide,[_,_],.cons ⟨_,rfl⟩ (.cons ⟨_,rfl⟩ .nil),⟨_,KI _ rfl,rfl,_,rfl⟩⟩
theorem sf (r:RelV x v)(k:Bool):(v == Value.bool k)=decide (x=.bl k):=by
 cases x with
 | non=>cases r;rfl
 | bl b=>cases r;cases b <;> cases k <;> rfl
 | int _=>obtain⟨t,rfl⟩:=r;rfl
 | str _=>obtain⟨t,rfl⟩:=r;rfl
 | byt _=>obtain⟨t,rfl⟩:=r;rfl
 | flt _=>obtain⟨t,rfl⟩:=r;rfl
 | ref _=>cases r;rfl
 | ty _=>cases r;rfl
theorem mh (r:RelV x v)(k:Bool):plainIs v (.bool k)=true:=by
 cases x with
 | non=>cases r;rfl
 | bl b=>cases r;rfl
 | int _=>obtain⟨t,rfl⟩:=r;rfl
 | str _=>obtain⟨t,rfl⟩:=r;rfl
 | byt _=>obtain⟨t,rfl⟩:=r;rfl
 | flt _=>obtain⟨t,rfl⟩:=r;rfl
 | ref _=>cases r;rfl
 | ty _=>cases r;rfl
noncomputable def Ke:R2:=fun x y H Q=>∃k,y=.bl k/\Q (.bl (decide (x=.bl k))) H
noncomputable def Dh:R2:=fun x y H Q=>∃k,y=.bl k/\Q (.bl (!decide (x=.bl k))) H
theorem GF:OpR X (compareOp .Is) Ke:=by intro pins s σ H x y v u Q I rx ry h;obtain⟨k,rfl,q⟩:=h;cases ry;exact wpAny_is_plain (mh rx k) ⟨.bl _,H,I,by rw[sf rx k];rfl,q⟩
theorem xX:OpR X (compareOp .IsNot) Dh:=by intro pins s σ H x y v u Q I rx ry h;obtain⟨k,rfl,q⟩:=h;cases ry;exact wpAny_isNot_plain (mh rx k) ⟨.bl _,H,I,by rw[sf rx k];rfl,q⟩
noncomputable def bF (c n:String):Bool:=c == n || (n == "bool" && c == "int")
noncomputable def Jp (n c:String):Option Bool:=if (Value.type n == Value.type c)=true then some true else if W.kitMeta c=true then (fastBuiltinMro n).map (·.contains (.type c)) else none
theorem Cm (K:W.Frag)(n c:String):W.kitOne K (.type n) (.type c)=Jp n c:=rfl
theorem AA:∀c∈["int","bool","str","tuple","list","dict"],∀n∈["NoneType","bool","int","str","list","tuple","dict"],Jp n c=some (bF c n):=by decide +kernel
theorem AL (K:W.Frag):∀c∈["int","bool","str","tuple","list","dict"],∀n∈["NoneType","bool","int","str","list","tuple","dict"],W.kitOne K (.type n) (.type c)=some (bF c n):=by intro c hc n hn;rw[Cm];exact AA c hc n hn
end
end HX
namespace HX
open L2
theorem BY {σ:L2.St}(I:Inv X pins σ H s):sysModules<s.heap.objs.size :=
 NH (by decide) (show mainGlobals<s.heap.objs.size from (I.mod.glob.keeps I.bk).lt)
noncomputable def GP:TE:=fun _ H Q=>∀p,H p=none->Q (.ref p) (upd H p (.dK []))
theorem Ar:PE X (.Dict [] [] pos) GP:=fun pins s σ H Q I h=>by refine wpAny_Dict_empty ⟨.ref s.heap.objs.size,_,I.laid (a:=s.heap.objs.size) (o:=.dK []) (t':=s.toks) (fun _ _ q=>KB _ q) (KF _) ?_,rfl,h _ (I.hok.fresh (KF _))⟩;exact⟨LU _,beq_eq_false_iff_ne.mpr (Ne.symm (K6 (BY I))),[],.nil,Heap.DictOf.new _⟩
end HX
namespace HX
open L2
noncomputable abbrev D:=PyData
mutual
noncomputable def Den (K:W.Frag)(H:Hp):D->V->Prop
 | .none,v=>v=.non
 | .bool b,v=>v=.bl b
 | .int i,v=>v=.int i
 | .str x,v=>v=.str x
 | .tuple ds,v=>∃a xs,v=.ref a/\SqT K H a xs/\Dens K H ds xs
 | .list ds,v=>∃a xs,v=.ref a/\SqL K H a xs/\Dens K H ds xs
 | .dict _,_=>False
noncomputable def Dens (K:W.Frag)(H:Hp):List D->List V->Prop
 | [],xs=>xs=[]
 | d::ds,xs=>∃x r,xs=x::r/\Den K H d x/\Dens K H ds r
end
section
variable {K:W.Frag}{H H':Hp}{v:V}{xs:List V}
theorem den_int:Den K H (.int i) v↔v=.int i:=by unfold Den;exact O1
theorem den_bl:Den K H (.bool i) v↔v=.bl i:=by unfold Den;exact O1
theorem den_str:Den K H (.str i) v↔v=.str i:=by unfold Den;exact O1
theorem den_non:Den K H .none v↔v=.non:=by unfold Den;exact O1
theorem den_tup {ds:List D}:Den K H (.tuple ds) v↔∃a xs,v=.ref a/\SqT K H a xs/\Dens K H ds xs:=by rw[Den]
theorem den_lst {ds:List D}:Den K H (.list ds) v↔∃a xs,v=.ref a/\SqL K H a xs/\Dens K H ds xs:=by rw[Den]
theorem tQ {ds:List (D × D)}:Den K H (.dict ds) v↔False:=by rw[Den]
theorem dens_nil:Dens K H [] xs↔xs=[]:=by unfold Dens;exact O1
theorem jT {d:D}{ds:List D}:Dens K H (d::ds) xs↔∃x r,xs=x::r/\Den K H d x/\Dens K H ds r:=by rw[Dens]
theorem dens_cons' {d:D}{ds:List D}{x:V}:Dens K H (d::ds) (x::xs)↔Den K H d x/\Dens K H ds xs:=by
 rw[jT];constructor
 ·rintro⟨_,_,e,h1,h2⟩;cases e;exact⟨h1,h2⟩
 ·rintro⟨h1,h2⟩;exact⟨_,_,rfl,h1,h2⟩
theorem Al (e:Same H H')(h:SqT K H a xs):SqT K H' a xs:=by
 rcases h with (h|⟨o,h⟩)|h
 ·exact .inl (.inl (e _ _ h))
 ·exact .inl (.inr ⟨o,e _ _ h⟩)
 ·exact .inr h
end
mutual
theorem Den.mono (e:Same H H'):∀ {d:D}{v:V},Den K H d v->Den K H' d v
 | .none,v,h=>by rw[den_non] at h |-;exact h
 | .bool b,v,h=>by rw[den_bl] at h |-;exact h
 | .int b,v,h=>by rw[den_int] at h |-;exact h
 | .str b,v,h=>by rw[den_str] at h |-;exact h
 | .dict b,v,h=>by rw[tQ] at h;exact h.elim
 | .tuple ds,v,h=>by
  rw[den_tup] at h |-
  obtain⟨a,xs,h1,h2,h3⟩:=h;exact⟨a,xs,h1,Al e h2,Dens.mono e h3⟩
 | .list ds,v,h=>by
  rw[den_lst] at h |-
  obtain⟨a,xs,h1,h2,h3⟩:=h;exact⟨a,xs,h1,Same.seq e h2,Dens.mono e h3⟩
theorem Dens.mono (e:Same H H'):∀ {ds:List D}{xs:List V},Dens K H ds xs->Dens K H' ds xs
 | [],xs,h=>by rw[dens_nil] at h |-;exact h
 | d::ds,xs,h=>by
  rw[jT] at h |-
  obtain⟨x,r,h1,h2,h3⟩:=h;exact⟨x,r,h1,Den.mono e h2,Dens.mono e h3⟩
end
section
variable {X:Cx}{pins:List (Addr × Obj)}{σ:L2.St}{H:Hp}{s:Shared}
mutual
theorem Den.reads (I:Inv X pins σ H s):∀(d:D) (v:V) (u:Value),Den X.K H d v->RelV v u->∃as,Reads s.heap u d as
 | .none,v,u,h,r=>by rw[den_non] at h;subst h;cases r;exact⟨_,.none⟩
 | .bool b,v,u,h,r=>by rw[den_bl] at h;subst h;cases r;exact⟨_,.bool b⟩
 | .int b,v,u,h,r=>by rw[den_int] at h;subst h;obtain⟨t,rfl⟩:=r;exact⟨_,.int b t⟩
 | .str b,v,u,h,r=>by rw[den_str] at h;subst h;obtain⟨t,rfl⟩:=r;exact⟨_,.str b t⟩
 | .dict b,v,u,h,r=>by rw[tQ] at h;exact h.elim
 | .tuple ds,v,u,h,r=>by rw[den_tup] at h;obtain⟨a,xs,rfl,h2,h3⟩:=h;cases r;obtain⟨its,rv,⟨o,ho,hc,n,hd⟩,_⟩:=I.tuple h2;obtain⟨as,hr⟩:=Dens.reads I ds xs its h3 rv;exact⟨as,.tuple ho hc hd (by simpa using hr)⟩
 | .list ds,v,u,h,r=>by rw[den_lst] at h;obtain⟨a,xs,rfl,h2,h3⟩:=h;cases r;obtain⟨its,rv,p,_⟩:=I.list h2;obtain⟨o,ho,hc,n,hd⟩:=p.isList;obtain⟨as,hr⟩:=Dens.reads I ds xs its h3 rv;exact⟨_,.list ho hc hd (by simpa using hr)⟩
theorem Dens.reads (I:Inv X pins σ H s):∀(ds:List D) (xs:List V) (us:List Value),Dens X.K H ds xs->Vals xs us->∃as,ReadsAll s.heap us ds as
 | [],xs,us,h,r=>by rw[dens_nil] at h;subst h;cases r;exact⟨_,.nil⟩
 | d::ds,xs,us,h,r=>by
  rw[jT] at h;obtain⟨x,q,rfl,h2,h3⟩:=h;cases r with
  | cons r1 r2 =>obtain⟨as,h4⟩:=Den.reads I d x _ h2 r1;obtain⟨bs,h5⟩:=Dens.reads I ds q _ h3 r2;exact⟨_,.cons h4 h5⟩
end
end
section
variable {X:Cx}
noncomputable def Ko (K:W.Frag):R2:=fun x y H Q=>∃d e,Den K H d x/\Den K H e y/\SeqAt.shaped d=true/\SeqAt.shaped e=true/\Q (.bl (PyData.eqv d e)) H
noncomputable def J4 (K:W.Frag):R2:=fun x y H Q=>∃d e,Den K H d x/\Den K H e y/\SeqAt.shaped d=true/\SeqAt.shaped e=true/\Q (.bl (!PyData.eqv d e)) H
theorem FA (hu:X.A.units+64<cLine):OpR X (compareOp .Eq) (Ko X.K):=by intro pins s σ H x y v u Q I rx ry h;obtain⟨d,e,h1,h2,h3,h4,q⟩:=h;obtain⟨as,ra⟩:=Den.reads I d x v h1 rx;obtain⟨bs,rb⟩:=Den.reads I e y u h2 ry;exact eq_dataH ra rb h3 h4 hu ⟨.bl _,H,I,rfl,q⟩
theorem FD (hu:X.A.units+64<cLine):OpR X (compareOp .NotEq) (J4 X.K):=by intro pins s σ H x y v u Q I rx ry h;obtain⟨d,e,h1,h2,h3,h4,q⟩:=h;obtain⟨as,ra⟩:=Den.reads I d x v h1 rx;obtain⟨bs,rb⟩:=Den.reads I e y u h2 ry;exact ne_dataH ra rb h3 h4 hu ⟨.bl _,H,I,rfl,q⟩
structure Has (P:Program)(w:World)(K:W.Frag)(mg:Str->Option Value)(base:Heap)(k:Nat)(x:Str)(ps:List Str)(sp:Sp):Prop where
 ex:∃(f:Addr) (fd:FuncData),nO P w K mg base CX0 k f fd ps sp/\mg x=some (.ref f)/\W.keepIn K (.ref f)=true/\Binds K fd ps []
structure At (K:W.Frag)(mg:Str->Option Value)(x:Str)(st:Stmt)(ps:List Str):Prop where
 ex:∃(f:Addr) (fd:FuncData),Fun K x x st f fd/\mg x=some (.ref f)/\Binds K fd ps []
theorem At.mk' {K:W.Frag}{ps:List Str}{an:Option Addr}{kV doc pm cdv ct:Value}(X:K.In h)(G:h.Ns mainGlobals mg)(hb:∀(kV doc pm:Value) (an:Option Addr) (cdv ct:Value) (us:List Value),us.length=ps.length->bindArgs (W.fnOf x x (cQ st) (ai st) (ae st) .none kV doc pm an cdv ct) ⟨us,[]⟩=pure (ps.zip us))(a:W.nsIn K mainGlobals x=some (some (.ref f)))(l:K.lookup f=some ⟨oc,od,.func (W.fnOf x x (cQ st) (ai st) (ae st) .none kV doc pm an cdv ct),osl⟩)(c:W.codeIn K cdv x=true)(k:W.keepIn K (.ref f)=true):At K mg x st ps:=by
 have F:=Be (st:=st) l c k;exact⟨f,_,F,NQ X G a,F.binds hb⟩
theorem At.ok (F:At K mg x st ps)(S:aj N ps (ae st))(len:∀vs H Q E,sp vs H Q E->vs.length=ps.length)(hbody:∀(f:Addr) (cdv:Value) (A:Around) (outer:List Env) (s:Shared) (H:Hp) (vs:List V) (Q:VK) (E:XK),Room k (A.deeper (envOfC x (ae st) s.heap.objs.size f cdv))->sp vs H Q E ->
   ∃t,PSs (jF CX0 P w K mg base N x (ae st) f cdv A outer s H E).nox (ai st) t/\t { nx:=fun _ H'=>Q .non H',rt:=Q } (start N vs) H):Has P w K mg base (k+1) x ps sp:=by
 obtain⟨f,fd,Ff,m,b⟩:=F.ex;exact⟨f,fd,Ff.ok S len (fun cdv A outer s H vs Q E hr h=>hbody f cdv A outer s H vs Q E hr h),m,Ff.kp,b⟩
theorem Gq {k:Nat}{x:Str}{ps:List Str}{sp:Sp}{p pos:Pos}{e:Expr}{es:List Expr}{t:TA}(F:Has X.prog X.w X.K X.mg X.base k x ps sp)(hr:Room k X.A)(ha:PA X (e::es) t)
  (hg:Gl X x:=by rfl) (hdb:(x == ("__debug__":Str))=false:=by decide) (he:starEach (e::es) X.env=(false,eval e X.env)::starEach es X.env:=by rfl) (hpl:(backTo pos (starEach es X.env)).any (·.1)=false:=by rfl) :
  PE X (.Call (.Name x p) (e::es) [] pos) (pf sp [] E0 t):=by
 obtain⟨f,fd,F,m,kp,b⟩:=F.ex;exact Dc F hr hg m kp b .nil Dx ha hdb he hpl
theorem Cp {k:Nat}{x:Str}{ps:List Str}{sp:Sp}{p pos:Pos}(F:Has X.prog X.w X.K X.mg X.base k x ps sp)(hr:Room k X.A)
  (hg:Gl X x:=by rfl) (hdb:(x == ("__debug__":Str))=false:=by decide) :
  PE X (.Call (.Name x p) [] [] pos) (pf sp [] E0 rK):=by
 obtain⟨f,fd,F,m,kp,b⟩:=F.ex;exact AJ F hr hg m kp b .nil Dx hdb
end
end HX
namespace HX
open L2
noncomputable def ak:Expr->Bool
 | .Starred ..=>false
 | _=>true
theorem aM {es:List Expr}(h:ak e=true):starEach (e::es) env=(false,eval e env)::starEach es env:=by cases e <;> first|rfl|cases h
theorem rn:∀ {es:List Expr},es.all ak=true->(starEach es env).any (·.1)=false
 | [],_=>rfl
 | e::es,h=>by rw[M7,KW] at h;rw[aM h.1,L6,rn h.2];rfl
noncomputable def i8:Expr->Bool
 | .Slice ..=>false
 | _=>true
theorem Il (h:i8 b=true):wD b:=fun o i=>by cases b <;> first|rfl|cases h
section
variable {X:Cx}
theorem pac (ha:PE X e te)(hr:PA X es t)(h:ak e=true:=by rfl):PA X (e::es) (gG te t):=Ca ha hr (aM h)
theorem yR (hr:IxR X r)(ha:PE X a ta)(hb:PE X b tb)(hs:i8 b=true:=by rfl):PE X (.Subscript a b pos) (tOp r ta tb):=JE hr ha hb (Il hs)
theorem lF {es:List Expr}(h:es.all ak=true):(backTo pos (starEach es env)).any (·.1)=false:=by have:=rn (env:=env) h;unfold backTo;rw[List.any_map];exact this
theorem Cy {k:Nat}{x:Str}{ps:List Str}{sp:Sp}{p pos:Pos}{e:Expr}{es:List Expr}{t:TA}(F:Has X.prog X.w X.K X.mg X.base k x ps sp)(hr:Room k X.A)(ha:PA X (e::es) t)
  (hg:Gl X x:=by rfl) (hdb:(x == ("__debug__":Str))=false:=by decide) (he:ak e=true:=by rfl) (hpl:es.all ak=true:=by rfl) :
  PE X (.Call (.Name x p) (e::es) [] pos) (pf sp [] E0 t):=Gq F hr ha hg hdb (aM he) (lF hpl)
theorem jJ {id:String}{r:List V->Hp->VK->Prop}{x:Str}{p pos:Pos}{e:Expr}{es:List Expr}{t:TA}(hc:cV X (.builtin id) r)(hg:Gl X x)(hm:X.mg x=none)(hv:bootBuiltins x=some (.builtin id))(ha:PA X (e::es) t)(hn:x≠"__name__":=by decide)(hdb:(x == ("__debug__":Str))=false:=by decide)
  (he:ak e=true:=by rfl) (hpl:es.all ak=true:=by rfl):PE X (.Call (.Name x p) (e::es) [] pos) (tCB r t):=BS hc hg hm hv ha hn hdb (aM he) (lF hpl)
theorem vg {T:String}{r:List V->Hp->VK->Prop}{x:Str}{p pos:Pos}{e:Expr}{es:List Expr}{t:TA}(hc:cV X (.type T) r)(hg:Gl X x)(hm:X.mg x=none)(hv:bootBuiltins x=some (.type T))(ha:PA X (e::es) t)(hn:x≠"__name__":=by decide)(hdb:(x == ("__debug__":Str))=false:=by decide)
  (he:ak e=true:=by rfl) (hpl:es.all ak=true:=by rfl):PE X (.Call (.Name x p) (e::es) [] pos) (tCB r t):=wQ hc hg hm hv ha hn hdb (aM he) (lF hpl)
end
end HX
namespace L2
section
variable {κ:Type} [DecidableEq κ]
noncomputable def iO (kvs:List (κ × V))(k:κ):Option V:=(kvs.find? fun kv=>decide (kv.1=k)).map (·.2)
noncomputable def jg (kvs:List (κ × V))(k:κ)(v:V):List (κ × V) :=
 if (kvs.any fun kv=>decide (kv.1=k))=true then kvs.map (fun kv=>if kv.1=k then (kv.1,v) else kv) else kvs++[(k,v)]
theorem iX {p:κ × V}{r:List (κ × V)}{k:κ}(e:p.1=k):iO (p::r) k=some p.2:=by simp[iO,List.find?_cons,e]
theorem jd {p:κ × V}{r:List (κ × V)}{k:κ}(e:¬p.1=k):iO (p::r) k=iO r k:=by simp[iO,List.find?_cons,e]
theorem su (k:κ):∀kvs:List (κ × V),(kvs.any fun kv=>decide (kv.1=k))=(iO kvs k).isSome
 | []=>rfl
 | p::r=>by
  rw[L6];by_cases e:p.1=k
  ·simp only[iX e,decide_eq_true e,Bool.true_or,Option.isSome_some]
  ·rw[jd e,LJ e,Bool.false_or];exact su k r
theorem kj (kvs:List (κ × V))(k:κ)(v:V):(jg kvs k v).length<=kvs.length+1:=by
 unfold jg;split
 ·rw[KH];omega
 ·rw[KN,LI,List.length_nil];omega
theorem RelO.isSome_eq (r:RelO o u):o.isSome=u.isSome:=by
 cases o with
 | none=>cases u with
  | none=>rfl
  | some _=>exact(show False from r).elim
 | some _=>cases u with
  | none=>exact(show False from r).elim
  | some _=>rfl
theorem KV.val (r:KV kvs vs)(k:κ):RelO (iO kvs k) (valueAt vs k):=by
 unfold KV at r
 induction r with
 | nil=>exact True.intro
 | @cons p q ps qs h t ih =>
  obtain⟨h1,h2⟩:=h;by_cases e:p.1=k
  ·have e':q.1=k:=h1.symm.trans e;have b:valueAt (q::qs) k=some q.2:=by simp[valueAt,List.find?_cons,e']
   rw[iX e,b];exact h2
  ·have e':¬q.1=k:=fun z=>e (h1.trans z);have b:valueAt (q::qs) k=valueAt qs k:=by simp[valueAt,List.find?_cons,e']
   rw[jd e,b];exact ih
theorem KV.any (r:KV kvs vs)(k:κ):(kvs.any fun kv=>decide (kv.1=k))=vs.any fun kv=>decide (kv.1=k):=by
 unfold KV at r
 induction r with
 | nil=>rfl
 | cons h t ih=>rw[L6,L6,ih,h.1]
theorem KV.repl (r:KV kvs vs)(k:κ)(ry:RelV y u) :
  KV (kvs.map fun kv=>if kv.1=k then (kv.1,y) else kv) (vs.map fun kv=>if kv.1=k then (kv.1,u) else kv):=by
 unfold KV at r |-
 induction r with
 | nil=>exact .nil
 | @cons p q ps qs h t ih =>
  rw[KG,KG];refine .cons ?_ ih;obtain⟨h1,h2⟩:=h;by_cases e:p.1=k
  ·rw[KZ e,KZ (h1.symm.trans e)];exact⟨h1,ry⟩
  ·rw[KS e,KS (fun z=>e (h1.trans z))];exact⟨h1,h2⟩
theorem KV.put (r:KV kvs vs)(k:κ)(ry:RelV y u):KV (jg kvs k y) (stored vs k u):=by
 unfold jg stored;rw[r.any k];by_cases e:(vs.any fun kv=>decide (kv.1=k))=true
 ·rw[KZ e,KZ e];exact r.repl k ry
 ·rw[KS e,KS e];exact Paired.snoc r ⟨rfl,ry⟩
theorem KV.keys {kvs:List (κ × V)}{vs:List (κ × Value)}(r:KV kvs vs):kvs.map (·.1)=vs.map (·.1):=by
 unfold KV at r
 induction r with
 | nil=>rfl
 | cons h t ih=>rw[KG,KG,ih,h.1]
theorem KV.length {kvs:List (κ × V)}{vs:List (κ × Value)}(r:KV kvs vs):kvs.length=vs.length:=Paired.length r
end
theorem By (r:RelV (kV k) u):(aV P w).is k u=true:=by
 cases k with
 | inl i=>obtain⟨t,e⟩:=(show ∃t,u=Value.int i t from r);subst e;exact sg P w i t
 | inr x=>obtain⟨t,e⟩:=(show ∃t,u=Value.str x t from r);subst e;exact sP P w x t
theorem oQ:∀ {ks:List Key}{us:List Value},Vals (ks.map kV) us->ItemsAre (aV P w) ks us
 | [],_,r=>by rw[LW] at r;cases r;exact .nil
 | k::ks,_,r=>by
  rw[KG] at r;cases r with
  | cons h t=>exact .cons (By h) (oQ t)
noncomputable abbrev KT (H:Hp):List (List Key × V)->List (List Key × Addr × Value)->Prop:=Paired fun p q=>p.1=q.1/\H q.2.1=some (.tup (p.1.map kV))/\RelV p.2 q.2.2
theorem KT.val (r:KT H kvs xs)(k:List Key):RelO (iO kvs k) ((atKey xs k).map (·.2)):=by
 induction r with
 | nil=>exact True.intro
 | @cons p q ps qs h t ih =>
  obtain⟨h1,_,h2⟩:=h;by_cases e:p.1=k
  ·have e':q.1=k:=h1.symm.trans e;have b:atKey (q::qs) k=some q.2:=by simp[atKey,List.find?_cons,e']
   rw[iX e,b];exact h2
  ·have e':¬q.1=k:=fun z=>e (h1.trans z);have b:atKey (q::qs) k=atKey qs k:=by simp[atKey,List.find?_cons,e']
   rw[jd e,b];exact ih
theorem KT.repl (r:KT H kvs xs)(k:List Key)(ry:RelV y u) :
  KT H (kvs.map fun kv=>if kv.1=k then (kv.1,y) else kv) (xs.map (putAt k u)):=by
 induction r with
 | nil=>exact .nil
 | @cons p q ps qs h t ih =>
  rw[KG,KG];refine .cons ?_ ih;obtain⟨h1,h2,h3⟩:=h;unfold putAt;by_cases e:p.1=k
  ·rw[KZ e,KZ (h1.symm.trans e)];exact⟨h1,h2,ry⟩
  ·rw[KS e,KS (fun z=>e (h1.trans z))];exact⟨h1,h2,h3⟩
theorem KT.put (r:KT H kvs xs)(k:List Key)(hb:H b=some (.tup (k.map kV)))(ry:RelV y u) :
  KT H (jg kvs k y) (storedH xs k b u):=by
 have e:(kvs.any fun kv=>decide (kv.1=k))=(atKey xs k).isSome:=by rw[su,(r.val k).isSome_eq,Option.isSome_map]
 unfold jg storedH;rw[e];by_cases q:(atKey xs k).isSome=true
 ·rw[KZ q,KZ q];exact r.repl k ry
 ·rw[KS q,KS q];exact Paired.snoc r ⟨rfl,hb,ry⟩
theorem KT.keeps {H':Hp}(r:KT H kvs xs)(ht:∀b ys,H b=some (.tup ys)->H' b=some (.tup ys)):KT H' kvs xs :=
 Paired.mapP r fun _ _ z=>⟨z.1,ht _ _ z.2.1,z.2.2⟩
section
variable {P:Program}{w:World}{H:Hp}{h:Heap}{a:Addr}
theorem DB (ok:HOk P w H h)(e:Rd H a u):ObjOk P w H h a u:=e.ok ok
theorem wy (ok:HOk P w H h)(e:Rd H a (.dK kvs)):kvs.length<=sizeLine/\(a == sysModules)=false/\∃vs,KV kvs vs/\h.DictOf (aV P w) a vs :=
 show ObjOk P w H h a (.dK kvs) from DB ok e
theorem o3 (ok:HOk P w H h)(e:H a=some (.dK kvs)):kvs.length<=sizeLine/\(a == sysModules)=false/\∃vs,KV kvs vs/\h.DictOf (aV P w) a vs:=wy ok (.inl e)
theorem uc {ks:List Key}(ok:HOk P w H h)(e:H a=some (.tup (ks.map kV))):(tupleKind (aV P w)).is h ks a:=by obtain⟨_,its,r,o,h1,h2,n,h3⟩:=(show ObjOk P w H h a (.tup (ks.map kV)) from ok a _ e);exact⟨o,its.toArray,n,h1,h2,h3,by simpa using oQ r⟩
theorem Dy (ok:HOk P w H h)(e:Rd H a (.dT kvs)):kvs.length<=sizeLine/\(a == sysModules)=false /\
  ∃xs,KT H kvs xs/\h.DictOfH (tupleKind (aV P w)) a xs:=by
 obtain⟨z,y,xs,r,o,es,ep,h1,h2,h3,h4,h5⟩:=(show ObjOk P w H h a (.dT kvs) from DB ok e);refine⟨z,y,xs,r,o,es,ep,h1,h2,h3,h4,fun x hx=>?_,h5⟩;have all:∀ {l:List (List Key × V)}{m:List (List Key × Addr × Value)},KT H l m->∀x∈m,(tupleKind (aV P w)).is h x.1 x.2.1:=by
  intro l m q
  induction q with
  | nil=>intro x hx;exact nomatch hx
  | @cons p q ps qs hq t ih =>
   intro x hx;rcases LC.mp hx with e|hx
   ·subst e;exact uc ok (by rw[<-hq.1];exact hq.2.1)
   ·exact ih x hx
 exact all r x hx
theorem Jv (ok:HOk P w H h)(e:H a=some (.dT kvs)):kvs.length<=sizeLine/\(a == sysModules)=false /\
  ∃xs,KT H kvs xs/\h.DictOfH (tupleKind (aV P w)) a xs:=Dy ok (.inl e)
end
def JH (H:Hp)(a:Addr)(y:V)(r:Option V):Prop :=
 (∃kvs k,Rd H a (.dK kvs)/\y=kV k/\r=iO kvs k)\/∃kvs k b,Rd H a (.dT kvs)/\y=.ref b/\H b=some (.tup (k.map kV))/\r=iO kvs k
def DPut (H:Hp)(a:Addr)(y v:V)(H':Hp):Prop :=
 (∃kvs k,H a=some (.dK kvs)/\y=kV k/\kvs.length<sizeLine/\H'=upd H a (.dK (jg kvs k v))) \/
 ∃kvs k b,H a=some (.dT kvs)/\y=.ref b/\H b=some (.tup (k.map kV))/\kvs.length<sizeLine/\H'=upd H a (.dT (jg kvs k v))
theorem DPut.k {H:Hp}{a:Addr}{kvs:List (Key × V)}{k:Key}{v:V}(e:H a=some (.dK kvs))(hl:kvs.length<sizeLine):DPut H a (kV k) v (upd H a (.dK (jg kvs k v))):=.inl ⟨kvs,k,e,rfl,hl,rfl⟩
section
variable {X:Cx}{pins:List (Addr × Obj)}{σ:St}{H:Hp}{s:Shared}{a:Addr}{y v:V}{u r:Value}{o:Option V}{A:Around}{E:Value->Shared->Prop}
theorem x9 {Q:Value->Shared->Prop}(hu:A.units+1<cLine)(I:Inv X pins σ H s)(g:JH H a y (some v))(ry:RelV y u)(h:∀w' s',Inv X pins σ H s'->RelV v w'->Q w' s') :
  wpAny (model X.prog X.w) A (getItem (.ref a) u) Q E s:=by
 rcases g with⟨kvs,k,e,ey,l⟩|⟨kvs,k,b,e,ey,eb,l⟩
 ·subst ey;obtain⟨z,hd,vs,rel,dd⟩:=wy I.hok e;obtain⟨w',hw,rw'⟩:=RelO.some_of (v:=v) (o:=valueAt vs k) (by rw[l];exact rel.val k);exact wpAny_getItem_of (By ry) dd.mapOf hw (h w' _ (I.tok _) rw')
 ·subst ey;cases (show u=Value.ref b from ry);obtain⟨z,hd,xs,rel,dd⟩:=Dy I.hok e;obtain⟨w',hw,rw'⟩:=RelO.some_of (v:=v) (o:=(atKey xs k).map (·.2)) (by rw[l];exact rel.val k);obtain⟨p,hp,hp2⟩:=K4.mp hw;refine wpAny_getItem_heap (tupleKind_room_in1 hu) (uc I.hok eb) dd hp ?_;rw[hp2];exact h w' _ (I.tok _) rw'
theorem wF {t':Nat}(I:Inv X pins σ H s)(mu:Mut (H a))(hs:Heap.SameBut a s.heap h')(he:∃q,h'.get? a=some q)(new:ObjOk X.prog X.w (upd H a ob) h' a ob) :
  Inv X pins σ (upd H a ob) { s with heap:=h',toks:=t' } :=
 I.write (x:=a) (e:=a) mu (.inl rfl) (fun b q hb z=>(hs.2 b hb).trans z) he new
theorem FR {h':Heap}{kvs:List (Key × V)}(z:kvs.length<=sizeLine)(hd:(a == sysModules)=false)(rel:KV kvs vs)(dd:h'.DictOf (aV P w) a vs) :
  ObjOk P w H' h' a (.dK kvs):=⟨z,hd,vs,rel,dd⟩
theorem xj {Q:Unit->Shared->Prop}(hu:A.units+1<cLine)(I:Inv X pins σ H s)(g:DPut H a y v H')(ry:RelV y u)(rv:RelV v r)(h:∀s',Inv X pins σ H' s'->Q () s') :
  wpAny (model X.prog X.w) A (setItem (.ref a) u r) Q E s:=by
 rcases g with⟨kvs,k,e,ey,l,eH⟩|⟨kvs,k,b,e,ey,eb,l,eH⟩
 ·subst ey eH;obtain⟨z,hd,vs,rel,dd⟩:=o3 I.hok e;have hz:vs.length<=sizeLine:=by rw[<-rel.length];exact z
  have hl:(jg kvs k v).length<=sizeLine:=by have:=kj kvs k v;omega
  refine wpAny_setItem_pairs (hsz:=hz) (By ry) dd fun h' dd' hs=>h _ ?_;have he:∃q,h'.get? a=some q:=let ⟨q,_,_,hq,_⟩:=dd';⟨q,hq⟩;exact wF I (by rw[e];exact True.intro) hs he (FR hl hd (rel.put k rv) dd')
 ·subst ey eH;cases (show u=Value.ref b from ry);obtain⟨z,hd,xs,rel,dd⟩:=Jv I.hok e;have hz:xs.length<=sizeLine:=by rw[<-Paired.length rel];exact z
  have hl:(jg kvs k v).length<=sizeLine:=by have:=kj kvs k v;omega
  refine wpAny_setItem_heap (hsz:=hz) (tupleKind_room_in1 hu) (uc I.hok eb) dd fun h' dd' hs=>h _ ?_;obtain⟨q,es,ep,hq,h2,h3,h4,_,h5⟩:=dd';refine wF I (by rw[e];exact True.intro) hs ⟨q,hq⟩ ⟨hl,hd,_,(rel.put k eb rv).keeps fun c ys ec=>?_,q,es,ep,hq,h2,h3,h4,h5⟩;rw[af (IM ec e (fun z=>nomatch z))];exact ec
end
section
variable {X:Cx}{pins:List (Addr × Obj)}{σ:St}{H:Hp}{s:Shared}{a:Addr}{kvs:List (Key × V)}{k:Key}{u:Value}{A:Around}{E:Value->Shared->Prop}
end
section
variable {X:Cx}{pins:List (Addr × Obj)}{σ:St}{H:Hp}{s:Shared}{a:Addr}{kvs:List (Key × V)}{A:Around}{E:Value->Shared->Prop}
end
section
variable {X:Cx}{pins:List (Addr × Obj)}{σ:St}{H:Hp}{s:Shared}{a:Addr}{y d:V}{u r:Value}{o:Option V}{A:Around}{E:Value->Shared->Prop}
end
end L2
namespace FW
open L2
def Kb (xs:Array Nat):Prop:=∀i j,i<j->j<xs.size->xs.getD i 0<xs.getD j 0
structure Io (b:Bool)(t:SetTable):Prop where
 ris:Kb t.place
 led:t.led=b
structure Km (b:Bool)(es:Array (Int × Value))(t:SetTable):Prop where
 fit:t.fits es.size=true
 ok:Io b t
structure SK (prog:Program)(w:World)(κ:Type)[DecidableEq κ] where
 knd:KeyKind prog w κ
 kf:Value->κ
 eq:∀ {k:κ}{v:Value},knd.is k v=true->kf v=k
 sc:∀ {k:κ}{v:Value},knd.is k v=true->v.scannable=true
section
variable {prog:Program}{w:World}{κ:Type} [DecidableEq κ] {A:Around}{E:Value->Shared->Prop}{s:Shared}{S:SK prog w κ}
def EI (S:SK prog w κ)(e:Int × Value):Prop:=∃k:κ,S.knd.is k e.2=true/\e.1=S.knd.hash k
structure JZ (S:SK prog w κ)(b:Bool)(es:Array (Int × Value))(t:SetTable)(zs:List κ):Prop where
 el:∀e∈es.toList,EI S e
 nd:(es.toList.map fun e=>S.kf e.2).Nodup
 mem:∀i,i∈(es.toList.map fun e=>S.kf e.2)↔i∈zs
 ln:es.size<=zs.length
 tb:Km b es t
noncomputable abbrev Je (es:Array (Int × Value))(ep:Nat)(t:SetTable):Obj:={ cls:=.type "set",dict:=none,data:=.set es ep t }
def Kj (S:SK prog w κ)(b:Bool)(h:Heap)(a:Addr)(zs:List κ):Prop:=∃es ep t,h.get? a=some (Je es ep t)/\JZ S b es t zs
end
end FW
namespace FW
noncomputable abbrev byT (w:World):Bool:=w.params.followText "set-order"
section
variable {prog:Program}{w:World}{A:Around}{E:Value->Shared->Prop}{s:Shared}
theorem Cd {R:Fin->Shared->Prop}{Q:Option Value->Shared->Prop}(hh:A.handled=none)(hQ:∀h',Heap.ExtBut it s.heap h'->Q none { s with heap:=h' }) :
  wpAny (model prog w) A.in1 (do let e <-newExc (.type "StopIteration") [];raiseNew (α:=Fin) e) R (fun e s'=>wpAny (model prog w) A (do
   let b <-isInstance e (Value.type "StopIteration")
   if b=true then pure none else throw e) Q E s') s:=by
 refine KA ?_;simp only[newExc,newTuple];refine KA (wpAny_newObj_type ?_ (by size_fits));refine KA (m:=firstArgMember _ _) (wpAny_of_eq (a:=Value.none) (by first|rfl|(simp only[firstArgMember];rfl)) ?_);refine wpAny_newObj_type ?_ (by size_fits);simp only[raiseNew];refine KA (wpAny_handled ?_);rw[show A.in1.handled=none from hh];refine KA (KC (wpAny_throw ?_));refine KA (wpAny_isInstance (T:="StopIteration") (b:=true) ⟨_,KI _ rfl,rfl⟩ isSubtype_stop ?_);exact KC (hQ _ ((Heap.SameBut.refl it s.heap).extBut.push _ |>.push _))
end
end FW
namespace FW
open L2
section
variable {prog:Program}{w:World}{A:Around}{E:Value->Shared->Prop}{s:Shared}
structure Ent (h:Heap)(d:Addr)(es:Array DictEntry)(ep:Nat):Prop where
 ob:∃o,h.get? d=some o/\o.data=.dict es ep
theorem Bg {Q:Value->Shared->Prop}(hv:s.heap.IsItemsView v d)(hm:Ent s.heap d es ep)(hQ:∀it h',it=s.heap.objs.size->IsItemIter h' it d 0 es.size ep .none .none->(∀b o,s.heap.get? b=some o->h'.get? b=some o)->Q (.ref it) { s with heap:=h' }) :
  wpAny (model prog w) A (pyIter (.ref v)) Q E s:=by
 obtain⟨ov,hov,hcv,hdv⟩:=id hv;obtain⟨o,ho,hd⟩:=hm.ob;refine wpAny_pyIter_slot hv.typeIs F.slot_dict_items_iter (wpAny_call_entry F.slot_dict_items_iter hv.typeIs F.entry_dict_items_iter ?_ (F.args_dict_items_iter_1 _));unfold Builtin.«dict_items.__iter__» Builtin.Dict_items.dictOf Builtin.Dict_items.newIterator;refine KA (KC (KA (KA (wpAny_field hov hdv (x:=.ref d) rfl (KC (KA (KA (wpAny_dictEntries ho hd (KA (wpAny_dictEpoch ho hd ?_))))))))));have hown:Builtin.Dict_items.ownsTuple "dict_itemiterator"=true:=by decide
 simp only[hown,if_true];refine wpAny_newObj_type (KC ⟨_,rfl,"dict_itemiterator",_,⟨_,KI _ rfl,rfl⟩,F.slot_dict_itemiterator_next.lookup,?_⟩)
  (by simp only[sizeOk,Builtin.Dict_items.ownedTupleFields,List.size_toArray,List.length_append,List.length_cons,List.length_nil,sizeLine_eq];omega)
 exact hQ _ _ rfl (KI _ rfl) fun b o e=>KB _ e
theorem Ai {Q:Value->Shared->Prop}(hit:IsItemIter s.heap it d i n ep ok ov)(hQ:∀h',IsItemIterOut h' it d i n ep key v s.heap.objs.size->h'.get? s.heap.objs.size=some { cls:=.type "tuple",data:=.seq #[key,v] }->h'.objs.size=s.heap.objs.size+1 ->
   (∀b o,b≠it->s.heap.get? b=some o->h'.get? b=some o)->Q (.ref s.heap.objs.size) { s with heap:=h' }) :
  wpAny (model prog w) A (Builtin.Dict_items.pairFromOwner (.ref it) 6 key v) Q E s:=by
 have hil:it<s.heap.objs.size:=KO hit;unfold Builtin.Dict_items.pairFromOwner Builtin.Dict_items.ownedTupleIsFree;refine KA (wpAny_newTuple ?_);have h0:IsItemIter (s.heap.push { cls:=.type "tuple",data:=.seq #[key,v] }) it d i n ep ok ov:=KB _ hit;have t0:(s.heap.push { cls:=.type "tuple",data:=.seq #[key,v] }).get? s.heap.objs.size=some { cls:=.type "tuple",data:=.seq #[key,v] }:=KI _ rfl;have z0:(s.heap.push { cls:=.type "tuple",data:=.seq #[key,v] }).objs.size=s.heap.objs.size+1:=MV ..;have k0:∀b o,s.heap.get? b=some o->(s.heap.push { cls:=.type "tuple",data:=.seq #[key,v] }).get? b=some o:=fun b o e=>KB _ e;refine KA (KA (wpAny_field h0 rfl (x:=.none) rfl (KC ?_)));rw[KZ rfl];refine KA (wpAny_field h0 rfl (x:=ok) rfl (KA (wpAny_field h0 rfl (x:=ov) rfl ?_)));refine KA (wpAny_setField_rec h0 (by simp) fun h1 e1 s1=>KA (wpAny_setField_rec e1 (by simp) fun h2 e2 s2=>KA (wpAny_setField_rec e2 (by simp) fun h3 e3 s3=>KA (wpAny_setField_rec e3 (by simp) fun h4 e4 s4=>?_))));have up:∀b o,b≠it->(s.heap.push { cls:=.type "tuple",data:=.seq #[key,v] }).get? b=some o->h4.get? b=some o:=fun b o hb e=>s4.extBut b o hb (s3.extBut b o hb (s2.extBut b o hb (s1.extBut b o hb e)));refine KA (wpAny_letGo (KC (hQ h4 e4 (up _ _ (ME hil) t0) ?_ fun b o hb e=>up b o hb (k0 b o e))));exact s4.1.trans (s3.1.trans (s2.1.trans (s1.1.trans z0)))
theorem A7 {es:Array DictEntry}{Q:Option Value->Shared->Prop}(hit:IsItemIter s.heap it d i es.size ep ok ov)(hm:Ent s.heap d es ep)(hi:es[i]?=some e)(hQ:∀h',IsItemIterOut h' it d (i+1) es.size ep e.key e.val s.heap.objs.size->h'.get? s.heap.objs.size=some { cls:=.type "tuple",data:=.seq #[e.key,e.val] }->h'.objs.size=s.heap.objs.size+1 ->
   (∀b o,b≠it->s.heap.get? b=some o->h'.get? b=some o)->Q (some (.ref s.heap.objs.size)) { s with heap:=h' }) :
  wpAny (model prog w) A (pyNext (.ref it)) Q E s:=by
 obtain⟨o,ho,hd⟩:=hm.ob;have hT:s.TypeIs (.ref it) "dict_itemiterator":=⟨_,hit,rfl⟩;have hown:Builtin.Dict_items.ownsTuple "dict_itemiterator"=true:=by decide
 unfold pyNext;refine KA (wpAny_attempt (wpAny_callSpecial?_slot (name:=Str.ofString "__next__") hT LV
  (wpAny_call_entry LV hT MW ?_ (MR _))))
 refine KA (KC (KA (KA (KA (wpAny_typeNameOfWhole_itemiter hT (KC (KA (wpAny_fieldsOf hit rfl ?_))))))));simp only[hown,if_true];show wpAny _ _ (if (Value.ref d == Value.none)=true then _ else _) _ _ s;rw[KS (show ¬((Value.ref d == Value.none)=true) from KD)];refine KA (KC (KA (wpAny_dictEntries ho hd ?_)));rw[KS (by simp)];refine KA (KC (KA (wpAny_dictEpoch ho hd ?_)));rw[KS (by simp)];refine KC ?_;simp only[show ¬((i:Int)<0) from by omega,if_false,Int.toNat_natCast,hi];refine KA (KA (wpAny_typeNameOfWhole_itemiter hT (KC (KA (wpAny_isOneOf_itemiter hT ?_)))));show wpAny _ _ (setField (.ref it) 3 (rawInt ((i:Int)+1)) >>= _) _ _ s;refine KA (wpAny_setField_rec hit (by simp) fun h1 e1 s1=>?_);have e1:IsItemIter h1 it d (i+1) es.size ep ok ov:=by
  have q:((i+1:Nat):Int)=(i:Int)+1:=by omega
  unfold IsItemIter;rw[q];simpa[rawInt] using e1
 have hT1:Shared.TypeIs { s with heap:=h1 } (.ref it) "dict_itemiterator":=⟨_,e1,rfl⟩;refine KA (L3 (KA (wpAny_isOneOf_itemiter hT1 (KA (wpAny_isOneOf_itemiter hT1 ?_)))));refine Ai (s:={ s with heap:=h1 }) e1 fun h2 a1 a2 a3 a4=>KC ⟨_,rfl,?_⟩;have z:h1.objs.size=s.heap.objs.size:=s1.1;rw[z] at a1 a2 a3;show wpAny _ _ (pure (some (Value.ref h1.objs.size))) _ _ _;rw[z];exact KC (hQ h2 a1 a2 a3 fun b o hb e=>a4 b o hb (s1.extBut b o hb e))
end
end FW
namespace FW
section
variable {prog:Program}{w:World}{κ:Type} [DecidableEq κ] {SS:SK prog w κ}{A:Around}{E:Value->Shared->Prop}{s:Shared}
set_option maxHeartbeats 3200000 in
set_option maxHeartbeats 3200000 in
end
noncomputable def toI:Value->Int
 | .int n _=>n
 | _=>0
noncomputable def JV (prog:Program)(w:World):SK prog w Int:=⟨intKind prog w,toI,fun h=>by obtain⟨t,rfl⟩:=N6 h;rfl,fun h=>by obtain⟨t,rfl⟩:=N6 h;rfl⟩
section
variable {prog:Program}{w:World}{A:Around}{E:Value->Shared->Prop}{s:Shared}
end
end FW
namespace L2
section
variable {X:Cx}
theorem CK:fillsInplaceSlot (.type "list") "add" (Operator.Add == .Add)=pure false:=by
 unfold fillsInplaceSlot;show (typeLookup (.type "list") (dunderI "add") >>= fun fi=>pure (fi.isSome && !isSeqSlot fi))=pure false;rw[F.slot_list_iadd.lookup];have e:isSeqSlot (some (.builtin "list.__iadd__"))=true:=by decide +kernel
 show (pure (true && !isSeqSlot (some (.builtin "list.__iadd__"))):Sem Bool)=pure false;rw[e];rfl
theorem Cu:seqSlot? (.type "list") (dunderI "add")=pure (some (.builtin "list.__iadd__")):=PySem.seqSlot_of F.slot_list_iadd.lookup (by decide +kernel)
theorem xi {M:Model}{E:Value->Shared->Prop}{s:Shared}(ha:s.TypeIs a "list")(hb:s.TypeIs b "list")(hc:wpAny M A (call (.builtin "list.__iadd__") [a,b]) Q E s):wpAny M A (inplaceOp .Add a b) Q E s:=by
 unfold inplaceOp;refine L3 ?_;refine KA (wpAny_typeOf ha (KA (wpAny_of_eq CK ?_)));show wpAny M A (if false=true then _ else _) Q E s;rw[KS KD];refine KA (wpAny_binaryOp1_none (nm:="add") ha hb noFill_list_add ?_);refine KA (wpAny_of_eq Cu ?_);exact KA (wpAny_rule hc)
theorem Gm:PIp X .Add (fun x y H Q=>∃l b xs zs,x=.ref l/\y=.ref b/\H l=some (.lst xs)/\H b=some (.lst zs)/\xs.length+zs.length<=sizeLine/\Q (.ref l) (upd H l (.lst (xs++zs)))):=by
 intro pins s σ H x y v u Q I rx ry h;obtain⟨l,b,xs,zs,rfl,rfl,hH,hB,hz,q⟩:=h;cases rx;cases ry;obtain⟨z,its,n,r,hl,e⟩:=I.lstM hH;obtain⟨z2,its2,n2,r2,hl2,e2⟩:=I.lstM hB;have hsz:its.toArray.size+its2.toArray.size<=sizeLine:=by rw[K2,K2];omega
 have hlong:¬(!its.toArray.isEmpty && Builtin.List.listTooLong (its.toArray.size+its2.toArray.size))=true:=by rw[BL hsz,Bool.and_false];exact KD
 refine xi ⟨_,e,rfl⟩ ⟨_,e2,rfl⟩ ?_;refine call_meets F.slot_list_iadd ⟨_,e,rfl⟩ F.entry_list_iadd (F.args_list_iadd_2 _ _)
  (AutoSeq1.list___iadd___list_list_0 l its.toArray n b its2.toArray n2 hlong (by rw[K2];omega) (by omega)) ⟨e,e2,?_⟩
 refine⟨.ref l,_,I.lset (its':=its++its2) hH e (by simp) (r.append r2) ?_,rfl,q⟩;rw[KN];omega
end
end L2
namespace L2
structure Kv (h:Heap)(f:Addr)(qual:Str)(params:Arguments)(body:Expr)(scope:Scope)(cl:List (Str × Addr)):Prop where
 ex:∃pm c' ctv,h.get? f=some (W.kla_obj "<lambda>" qual params body scope cl pm c' ctv)/\h.CodeRec (.ref c') qual
structure H_ (x:Str)(scope:Scope)(cl:List (Str × Addr)):Prop where
 kind:scope.kind=.function
 co:scope.isCoroutine=false
 gen:scope.isGenerator=false
 nocell:∀y∈scope.names,y.2≠.cell
 par:scope.names.lookup x=some .local
 free:∀y,scope.names.lookup y=some .free->∃c,cl.lookup y=some c
 inj:∀y z c,cl.lookup y=some c->cl.lookup z=some c->y=z
end L2
namespace L2
def F3 (oc:Obj)(q:Str):Prop:=∃vs t,oc.data=.fields vs/\vs[1]?=some (.str q t)
end L2
namespace FW
open PySem
open PyProof.Rows hiding K st lo ad
set_option autoImplicit false
section
variable {prog:Program}{w:World}{A:Around}{E:Value->Shared->Prop}{s:Shared}{a₀:Array Keyed}{κ:KeyKind}{K:SortKind}
structure SB (K:SortKind)(a₀:Array Keyed)(st:SortSt):Prop where
 pm:(arrOf st).Perm a₀
 kd:kindOf st=K
 fl:failedOf st=none
 pd:pendingOf st=#[]
theorem SB.sz {st:SortSt}(h:SB K a₀ st):(arrOf st).size=a₀.size:=h.pm.size_eq
theorem SB.arr {st:SortSt}(h:SB K a₀ st){xs:Array Keyed}(p:xs.Perm (arrOf st)):SB K a₀ (setArr st xs):=⟨p.trans h.pm,h.kd,h.fl,h.pd⟩
def Dst (κ:KeyKind)(a₀:Array Keyed):Prop:=∀xs:Array Keyed,xs.Perm a₀->∀i j,i<a₀.size->j<a₀.size->i≠j->KK κ xs i≠KK κ xs j
def Cmp (prog:Program)(w:World)(A:Around)(E:Value->Shared->Prop)(s:Shared)(K:SortKind)(κ:KeyKind)(a₀:Array Keyed):Prop :=
 ∀(st:SortSt) (i j:Nat) (Q:Option Bool->SortSt->Prop),SB K a₀ st->i<a₀.size->j<a₀.size->i≠j->Q (some (κ.blt (KK κ (arrOf st) i) (KK κ (arrOf st) j))) st->wpS (model prog w) A E s (ltAt' i j) Q st
def Up (κ:KeyKind)(xs:Array Keyed)(n:Nat):Prop:=∀i j,i<j->j<n->κ.klt (KK κ xs i) (KK κ xs j)
def Dn (κ:KeyKind)(xs:Array Keyed)(n:Nat):Prop:=∀i j,i<j->j<n->κ.klt (KK κ xs j) (KK κ xs i)
theorem mN {a b:κ.α}(h:κ.blt a b=false)(ne:a≠b):κ.klt b a:=by
 show κ.blt b a=true;cases e:κ.blt b a with
 | true=>rfl
 | false=>exact absurd (κ.total _ _ h e) ne
theorem Up.snoc {xs:Array Keyed}{n:Nat}(h:Up κ xs n)(l:n=0\/κ.klt (KK κ xs (n-1)) (KK κ xs n)):Up κ xs (n+1):=fun i j ij hj=>by
 by_cases e:j<n
 ·exact h i j ij e
 ·have e:j=n:=by omega
  subst e;rcases l with l|l
  ·omega
  ·by_cases q:i=j-1
   ·subst q;exact l
   ·exact κ.trans _ _ _ (h i (j-1) (by omega) (by omega)) l
theorem Dn.snoc {xs:Array Keyed}{n:Nat}(h:Dn κ xs n)(l:n=0\/κ.klt (KK κ xs n) (KK κ xs (n-1))):Dn κ xs (n+1):=fun i j ij hj=>by
 by_cases e:j<n
 ·exact h i j ij e
 ·have e:j=n:=by omega
  subst e;rcases l with l|l
  ·omega
  ·by_cases q:i=j-1
   ·subst q;exact l
   ·exact κ.trans _ _ _ l (h i (j-1) (by omega) (by omega))
theorem up1 {xs:Array Keyed}:Up κ xs 1:=fun i j ij hj=>by omega
theorem D2 {st:SortSt}{a m:Nat}{Q:AscSt->SortSt->Prop}(C:Cmp prog w A E s K κ a₀)(D:Dst κ a₀)(hm:m<=a₀.size)(ha:1<=a)(am:a<=m)(B:SB K a₀ st)(u:Up κ (arrOf st) a)
  (k:∀n,a<=n->n<=m->Up κ (arrOf st) n->(n=m\/κ.klt (KK κ (arrOf st) n) (KK κ (arrOf st) (n-1)))->Q (none,n) st):wpS (model prog w) A E s (ascLoop a m) Q st:=by
 unfold ascLoop;refine wpS_forRange (I:=fun x c t=>(c=(none,x)/\t=st)/\Up κ (arrOf st) x) (fun x c t h1 h2=>?_) (fun c t=>?_) ⟨⟨rfl,rfl⟩,u⟩
 ·rintro⟨⟨rfl,rfl⟩,u⟩;refine wpS_bind (C t x (x-1) _ B (by omega) (by omega) (by omega) ?_);cases e:κ.blt (KK κ (arrOf t) x) (KK κ (arrOf t) (x-1)) with
  | true=>exact wpS_pure (k x h1 (by omega) u (.inr e))
  | false=>exact wpS_pure ⟨⟨rfl,rfl⟩,u.snoc (.inr (mN e (D _ B.pm _ _ (by omega) (by omega) (by omega))))⟩
 ·rintro⟨⟨rfl,rfl⟩,u⟩;have e:max a m=m:=by omega
  rw[e] at u |-
  exact k m am (KF _) u (.inl rfl)
theorem Fm {st:SortSt}{n m:Nat}{Q:Option Nat->SortSt->Prop}(C:Cmp prog w A E s K κ a₀)(D:Dst κ a₀)(hm:m<=a₀.size)(hn:1<=n)(nm:n<=m)(B:SB K a₀ st)(d:Dn κ (arrOf st) n)
  (k:∀r t,SB K a₀ t->1<=r->r<=m->Up κ (arrOf t) r->Q (some r) t):wpS (model prog w) A E s (tail3 n m) Q st:=by
 unfold tail3;have sz:n<=(arrOf st).size:=by rw[B.sz];omega
 have B':=B.arr (mirror_perm (arrOf st) 0 n ((n-0)/2));refine wpS_bind (wpS_reverse (wpS_bind (D2 C D hm hn nm B' (fun i j ij hj=>?_) fun r h1 h2 u _=>wpS_pure (k r _ B' (by omega) h2 u))));have ei:=KK_mirror (κ:=κ) (i:=0) sz i;have ej:=KK_mirror (κ:=κ) (i:=0) sz j;rw[KZ (by omega)] at ei ej;show κ.klt (KK κ (mirror (arrOf st) 0 n ((n-0)/2)) i) (KK κ (mirror (arrOf st) 0 n ((n-0)/2)) j);rw[ei,ej];exact d _ _ (by omega) (by omega)
theorem Fn {st:SortSt}{n m:Nat}{Q:DescSt->SortSt->Prop}(C:Cmp prog w A E s K κ a₀)(D:Dst κ a₀)(hm:m<=a₀.size)(hn:1<=n)(nm:n<=m)(B:SB K a₀ st)(d:Dn κ (arrOf st) n)
  (k:∀r,n<=r->r<=m->Dn κ (arrOf st) r->Q (none,r,0) st):wpS (model prog w) A E s (descLoop n m) Q st:=by
 unfold descLoop;refine wpS_forRange (I:=fun x c t=>(c=(none,x,0)/\t=st)/\Dn κ (arrOf st) x) (fun x c t h1 h2=>?_) (fun c t=>?_) ⟨⟨rfl,rfl⟩,d⟩
 ·rintro⟨⟨rfl,rfl⟩,d⟩;refine wpS_bind (C t x (x-1) _ B (by omega) (by omega) (by omega) ?_);cases e:κ.blt (KK κ (arrOf t) x) (KK κ (arrOf t) (x-1)) with
  | true=>exact wpS_pure ⟨⟨rfl,rfl⟩,d.snoc (.inr e)⟩
  | false =>refine wpS_bind (C t (x-1) x _ B (by omega) (by omega) (by omega) ?_);have z:κ.blt (KK κ (arrOf t) (x-1)) (KK κ (arrOf t) x)=true:=mN e (D _ B.pm _ _ (by omega) (by omega) (by omega));rw[z];exact wpS_pure (k x h1 (by omega) d)
 ·rintro⟨⟨rfl,rfl⟩,d⟩;have e:max n m=m:=by omega
  rw[e] at d |-
  exact k m nm (KF _) d
theorem GX {st:SortSt}{n m:Nat}{Q:Option Nat->SortSt->Prop}(C:Cmp prog w A E s K κ a₀)(D:Dst κ a₀)(hm:m<=a₀.size)(nm:n+1<=m)(B:SB K a₀ st)(d:Dn κ (arrOf st) (n+1))
  (k:∀r t,SB K a₀ t->1<=r->r<=m->Up κ (arrOf t) r->Q (some r) t):wpS (model prog w) A E s (descPart n m) Q st:=by
 unfold descPart;refine wpS_bind (wpS_lift (wpAny_rule ⟨rfl,?_⟩));exact wpS_bind (Fn C D hm (by omega) nm B d fun r h1 h2 d=>Fm C D hm (K_ (Nat.succ_pos n) h1) h2 B d k)
theorem HK {st:SortSt}{m:Nat}{Q:Option Nat->SortSt->Prop}(C:Cmp prog w A E s K κ a₀)(D:Dst κ a₀)(hm:m<=a₀.size)(m1:1<=m)(B:SB K a₀ st)
  (k:∀r t,SB K a₀ t->1<=r->r<=m->Up κ (arrOf t) r->Q (some r) t):wpS (model prog w) A E s (countRun' 0 m) Q st:=by
 rw[countRun0_eq];refine wpS_bind (D2 C D hm (KF 1) m1 B up1 fun n h1 h2 u o=>?_);dsimp only;by_cases e:n=m
 ·rw[KZ (by simpa using e)];exact wpS_pure (k n st B h1 h2 u)
 rw[KS (by simpa using e)];have o:=o.resolve_left e;by_cases g:n > 1
 ·rw[KZ g];refine wpS_bind (C st 0 (n-1) _ B (by omega) (by omega) (by omega) ?_);have z:κ.blt (KK κ (arrOf st) 0) (KK κ (arrOf st) (n-1))=true:=u 0 (n-1) (by omega) (by omega);rw[z];exact wpS_pure (k n st B h1 h2 u)
 ·rw[KS g];have e1:n=1:=by omega
  subst e1;exact GX C D hm (by omega) B (Dn.snoc (fun i j ij hj=>by omega) (.inr o)) k
theorem HI {st:SortSt}{n ok:Nat}{Q:Bool->SortSt->Prop}(C:Cmp prog w A E s K κ a₀)(D:Dst κ a₀)(hn:n<=a₀.size)(ok1:1<=ok)(hok:ok<=n)(B:SB K a₀ st)(u:Up κ (arrOf st) ok)
  (k:∀t,SB K a₀ t->Up κ (arrOf t) n->Q true t):wpS (model prog w) A E s (binarySort' 0 n ok) Q st:=by
 rw[binarySort'_eq];simp only[Nat.zero_add];refine wpS_bind (wpS_mono (wpS_forRange (I:=fun x c t=>c=(none,())/\SB K a₀ t/\Up κ (arrOf t) x) (Q:=fun c t=>c=(none,())/\SB K a₀ t/\Up κ (arrOf t) n) (fun x c t h1 h2=>?_) (fun c t=>?_) ⟨rfl,B,?_⟩) ?_)
 ·rintro⟨rfl,B,u⟩;have hx:x<a₀.size:=by omega
  refine wpS_bind (wpS_mono (wpS_forRange (I:=fun y c t'=>t'=t/\∃l r,c=(none,l,r)/\(l<=r/\r<=x/\r-l<=x-y)/\(∀i,i<l->κ.klt (KK κ (arrOf t) i) (KK κ (arrOf t) x))/\∀i,r<=i->i<x->κ.klt (KK κ (arrOf t) x) (KK κ (arrOf t) i))
   (Q:=fun c t'=>t'=t/\∃l r,c=(none,l,r)/\l<=x/\(∀i,i<l->κ.klt (KK κ (arrOf t) i) (KK κ (arrOf t) x))/\∀i,l<=i->i<x->κ.klt (KK κ (arrOf t) x) (KK κ (arrOf t) i)) (fun y c t' g1 g2=>?_) (fun c t'=>?_) ⟨rfl,0,x,rfl,by omega,fun i h=>by omega,fun i h h'=>by omega⟩) ?_)
  ·rintro⟨rfl,l,r,rfl,hl,lo,hi⟩;dsimp only;by_cases ge:l >= r
   ·rw[KZ ge];have e:l=r:=by omega
    subst e;exact wpS_pure ⟨rfl,l,l,rfl,hl.2.1,lo,hi⟩
   rw[KS ge];refine wpS_bind (C t' x ((l+r)/2) _ B hx (by omega) (by omega) ?_);cases e:κ.blt (KK κ (arrOf t') x) (KK κ (arrOf t') ((l+r)/2)) with
   | true =>
    refine wpS_pure ⟨rfl,l,(l+r)/2,rfl,by omega,lo,fun i h h'=>?_⟩;by_cases q:i=(l+r)/2
    ·rw[q];exact e
    ·exact κ.trans _ _ _ e (u _ _ (by omega) h')
   | false =>
    have z:=mN e (D _ B.pm _ _ hx (by omega) (by omega));refine wpS_pure ⟨rfl,(l+r)/2+1,r,rfl,by omega,fun i h=>?_,hi⟩;by_cases q:i=(l+r)/2
    ·rw[q];exact z
    ·exact κ.trans _ _ _ (u i ((l+r)/2) (by omega) (by omega)) z
  ·rintro⟨rfl,l,r,rfl,hl,lo,hi⟩;have e:l=r:=by omega
   subst e;exact⟨rfl,l,l,rfl,hl.2.1,lo,hi⟩
  ·rintro c t' ⟨rfl,l,r,rfl,hl,lo,hi⟩;show wpS _ _ _ _ (moveDown' x l >>= fun _=>pure (ForInStep.yield (none,()))) _ _;rw[moveDown'_eq];refine wpS_bind (wpS_modify (wpS_pure ⟨rfl,B.arr (bubble_perm _ _ _),fun i j ij hj=>?_⟩));have xs:x<(arrOf t').size:=by rw[B.sz];exact hx
   have b:∀y,KK κ (bubble (arrOf t') x (x-l)) y=_:=fun y=>KK_bubble xs (show x-l<=x by omega) y;show κ.klt (KK κ (bubble (arrOf t') x (x-l)) i) (KK κ (bubble (arrOf t') x (x-l)) j);rw[b,b];have el:x-(x-l)=l:=by omega
   rw[el];by_cases i1:i=l
   ·rw[KZ i1,KS (by omega),KZ (by omega)];exact hi _ (by omega) (by omega)
   rw[KS i1];by_cases j1:j=l
   ·rw[KS (by omega),KZ j1];exact lo _ (by omega)
   rw[KS j1];by_cases i2:l<i/\i<=x
   ·rw[KZ i2,KZ (by omega)];exact u _ _ (by omega) (by omega)
   rw[KS i2];by_cases j2:l<j/\j<=x
   ·rw[KZ j2];by_cases q:i=j-1
    ·omega
    ·exact u _ _ (by omega) (by omega)
   ·rw[KS j2];exact u _ _ ij (by omega)
 ·rintro⟨hc,B,u⟩;have e:max (max ok 1) n=n:=by omega
  rw[e] at u;exact⟨hc,B,u⟩
 ·have e:max ok 1=ok:=by omega
  rw[e];exact u
 ·rintro c t ⟨rfl,B,u⟩;exact wpS_pure (k t B u)
theorem G_ {st:SortSt}{Q:Unit->SortSt->Prop}(C:Cmp prog w A E s K κ a₀)(D:Dst κ a₀)(B:SB K a₀ st)(h2:2<=a₀.size)(h64:a₀.size<64)
  (k:∀t,(arrOf t).Perm a₀->failedOf t=none->Up κ (arrOf t) a₀.size->Q () t):wpS (model prog w) A E s sortRuns' Q st:=by
 rw[sortRuns'_eq];refine wpS_bind (wpS_get ?_);dsimp only;have mr:minRun' a₀.size a₀.size 0=a₀.size:=by
  have:minRun' ((a₀.size-1)+1) a₀.size 0=a₀.size:=by rw[minRun'_succ,KZ h64];rfl
  rwa [show a₀.size-1+1=a₀.size by omega] at this
 simp only[B.sz,mr];have dn:∀t,SB K a₀ t->Up κ (arrOf t) a₀.size->(arrOf t).Perm a₀/\failedOf t=none/\(pendingOf t).push (0,a₀.size,0)=#[(0,a₀.size,0)]/\Up κ (arrOf t) a₀.size:=fun t B u=>⟨B.pm,B.fl,by rw[B.pd];rfl,u⟩;refine wpS_bind (wpS_mono (wpS_forRange (I:=fun x c t=>(x=0/\c=(none,0)/\SB K a₀ t)\/(1<=x/\c=(none,a₀.size)/\(arrOf t).Perm a₀/\failedOf t=none/\pendingOf t=#[(0,a₀.size,0)]/\Up κ (arrOf t) a₀.size))
  (Q:=fun c t=>c=(none,a₀.size)/\(arrOf t).Perm a₀/\failedOf t=none/\pendingOf t=#[(0,a₀.size,0)]/\Up κ (arrOf t) a₀.size) (fun x c t h1 h3=>?_) (fun c t=>?_) (.inl ⟨rfl,rfl,B⟩)) ?_)
 ·rintro (⟨rfl,rfl,B⟩|⟨g1,rfl,d⟩)
  ·dsimp only;rw[KS (by omega)];simp only[Nat.sub_zero,Nat.min_self,Nat.zero_add];refine wpS_bind (HK C D (KF _) (by omega) B fun r t B r1 r2 u=>?_);dsimp only;by_cases lt:r<a₀.size
   ·rw[KZ lt];refine wpS_bind (wpS_lift (wpAny_rule ⟨rfl,?_⟩));refine wpS_bind (HI C D (KF _) r1 r2 B u fun t B u=>?_);simp only[Bool.not_true,Bool.false_eq_true,if_false];refine wpS_bind (wpS_get ?_);rw[show (pendingOf t).back?=none by rw[B.pd];rfl];dsimp only;exact wpS_bind (wpS_modify (wpS_pure (.inr ⟨by omega,rfl,dn t B u⟩)))
   ·rw[KS lt];have e:r=a₀.size:=by omega
    subst e;refine wpS_bind (wpS_get ?_);rw[show (pendingOf t).back?=none by rw[B.pd];rfl];dsimp only;exact wpS_bind (wpS_modify (wpS_pure (.inr ⟨by omega,rfl,dn t B u⟩)))
  ·dsimp only;rw[KZ (KF _)];exact wpS_pure ⟨rfl,d⟩
 ·rintro (⟨g,_⟩|⟨_,hc,d⟩)
  ·omega
  ·exact⟨hc,d⟩
 ·rintro c t ⟨rfl,d⟩;dsimp only;refine wpS_bind (wpS_mono (wpS_forRange (I:=fun _ c t'=>t'=t/\c=(none,())) (Q:=fun c t'=>t'=t/\c=(none,())) (fun y c t' _ _=>?_) (fun _ _ h=>h) ⟨rfl,rfl⟩) ?_)
  ·rintro⟨rfl,rfl⟩;refine wpS_bind (wpS_get ?_);rw[KZ (by rw[d.2.2.1];exact KF 1)];exact wpS_pure ⟨rfl,rfl⟩
  ·rintro c t' ⟨rfl,rfl⟩;exact wpS_pure (k _ d.1 d.2.1 d.2.2.2)
end
end FW
namespace FW
open PySem L2 HX
set_option genInjectivity true
set_option genCtorIdx true
inductive PV where
 | non|bl (b:Bool)|int (i:Int)|str (x:Str)|tup (xs:List PV)|ref (n:Nat)|rdl (xs:List PV)|fn (a:Nat)
 deriving Inhabited
inductive Cell where
 | lst (xs:List PV)
 | dk (kvs:List (Key × PV))
 | fz (kvs:List (Key × PV))
 | od (kvs:List (PV × PV))
noncomputable abbrev AH:=List Cell
noncomputable abbrev Fr:=List (Option PV)
noncomputable abbrev EK:=PV->AH->Prop
noncomputable abbrev LK:=List PV->AH->Prop
noncomputable abbrev BK:=Bool->AH->Prop
noncomputable abbrev FSp:=List PV->AH->EK->Prop
mutual
noncomputable def PV.bel (k:Nat):PV->Bool
 | .ref n=>decide (n<k)
 | .tup xs=>PV.bels k xs
 | .rdl xs=>PV.bels k xs
 | .non=>true
 | .bl _=>true
 | .int _=>true
 | .str _=>true
 | .fn _=>false
noncomputable def PV.bels (k:Nat):List PV->Bool
 | []=>true
 | x::xs=>x.bel k && PV.bels k xs
end
mutual
noncomputable def PV.bec (k:Nat):PV->Bool
 | .ref n=>decide (n<k)
 | .tup xs=>PV.becs k xs
 | .rdl xs=>PV.becs k xs
 | .non=>true
 | .bl _=>true
 | .int _=>true
 | .str _=>true
 | .fn _=>true
noncomputable def PV.becs (k:Nat):List PV->Bool
 | []=>true
 | x::xs=>x.bec k && PV.becs k xs
end
mutual
theorem PV.bel_bec {i j:Nat}(h:i<=j):∀ {v:PV},v.bel i=true->v.bec j=true
 | .non,_=>by rw[PV.bec]
 | .bl _,_=>by rw[PV.bec]
 | .int _,_=>by rw[PV.bec]
 | .str _,_=>by rw[PV.bec]
 | .ref n,z=>by rw[PV.bel] at z;rw[PV.bec];have:=MM z;exact LH (by omega)
 | .tup xs,z=>by rw[PV.bel] at z;rw[PV.bec];exact PV.bels_becs h z
 | .rdl xs,z=>by rw[PV.bel] at z;rw[PV.bec];exact PV.bels_becs h z
 | .fn _,z=>by rw[PV.bel] at z;cases z
theorem PV.bels_becs {i j:Nat}(h:i<=j):∀ {vs:List PV},PV.bels i vs=true->PV.becs j vs=true
 | [],_=>by rw[PV.becs]
 | v::vs,z=>by rw[PV.bels,KW] at z;rw[PV.becs,KW];exact⟨PV.bel_bec h z.1,PV.bels_becs h z.2⟩
end
noncomputable def Cell.bec (k:Nat):Cell->Bool
 | .lst xs=>PV.becs k xs
 | .dk kvs=>PV.becs k (kvs.map (·.2))
 | .fz kvs=>PV.becs k (kvs.map (·.2))
 | .od kvs=>PV.becs k (kvs.map (·.1)) && PV.becs k (kvs.map (·.2))
noncomputable def Cell.bel (k:Nat):Cell->Bool
 | .lst xs=>PV.bels k xs
 | .dk kvs=>PV.bels k (kvs.map (·.2))
 | .fz _=>false
 | .od _=>false
mutual
noncomputable def PV.toD:PV->Option PyData
 | .non=>some .none
 | .bl b=>some (.bool b)
 | .int i=>some (.int i)
 | .str x=>some (.str x)
 | .tup xs=>(PV.toDs xs).map .tuple
 | .rdl xs=>(PV.toDs xs).map .list
 | .ref _=>none
 | .fn _=>none
noncomputable def PV.toDs:List PV->Option (List PyData)
 | []=>some []
 | x::xs=>match x.toD,PV.toDs xs with
  | some d,some ds=>some (d::ds)
  | _,_=>none
end
noncomputable def xh (st:AH):PV->Option PyData
 | .ref n=>match st[n]? with
  | some (.lst xs)=>(PV.toDs xs).map .list
  | _=>none
 | v=>v.toD
def eqW (st:AH)(x y:PV)(k:Bool->Prop):Prop :=
 match x,y with
 | .int i,.int j=>k (decide (i=j))
 | .bl a,.bl b=>k (decide (a=b))
 | .str a,.str b=>k (decide (a=b))
 | x,y=>∃d e,xh st x=some d/\xh st y=some e/\SeqAt.shaped d=true/\SeqAt.shaped e=true/\k (PyData.eqv d e)
noncomputable def bg (st:AH):PV->Option String
 | .non=>some "NoneType"
 | .bl _=>some "bool"
 | .int _=>some "int"
 | .str _=>some "str"
 | .tup _=>some "tuple"
 | .rdl _=>some "list"
 | .ref n=>match st[n]? with
  | some (.lst _)=>some "list"
  | some (.dk _)=>some "dict"
  | some (.fz _)=>some "dict"
  | some (.od _)=>some "dict"
  | none=>none
 | .fn _=>none
noncomputable def aQ (st:AH):PV->Option (List PV)
 | .rdl xs=>some xs
 | .ref n=>match st[n]? with
  | some (.lst xs)=>some xs
  | _=>none
 | _=>none
noncomputable def a7 (st:AH):PV->Option (List PV)
 | .tup xs=>some xs
 | v=>aQ st v
noncomputable def gz:PV->Bool
 | .non=>true
 | _=>false
noncomputable def kW (k:Bool):PV->Bool
 | .bl b=>b == k
 | _=>false
noncomputable def iJ (xs:List PV)(lo hi:Option Int):List PV:=(xs.drop (HT.sIx xs.length 0 lo)).take (HT.sIx xs.length xs.length hi-HT.sIx xs.length 0 lo)
noncomputable def b2z (b:Bool):Int:=if b then 1 else 0
def iiW (f:Int->Int->Prop)(x y:PV):Prop :=
 match x with
 | .int i=>match y with
  | .int j=>f i j
  | _=>False
 | _=>False
def JP (x y:PV)(st:AH)(Q:EK):Prop :=
 match x with
 | .int i=>match y with
  | .int j=>Q (.int (i+j)) st
  | _=>False
 | .ref n=>match y with
  | .ref k=>∃xs ys,st[n]?=some (.lst xs)/\st[k]?=some (.lst ys)/\xs.length+ys.length<=100000/\Q (.ref st.length) (st++[.lst (xs++ys)])
  | _=>False
 | .tup xs=>match y with
  | .tup ys=>xs.length+ys.length<=100000/\Q (.tup (xs++ys)) st
  | _=>False
 | .str a=>match y with
  | .str b=>a.length+b.length<=100000/\Q (.str (a++b)) st
  | _=>False
 | _=>False
def JR (x y:PV)(st:AH)(Q:EK):Prop :=
 match x with
 | .int i=>match y with
  | .int j=>CMB i j/\Q (.int (i*j)) st
  | _=>False
 | _=>False
def i7 (op:Operator)(x y:PV)(st:AH)(Q:EK):Prop :=
 match op with
 | .Add=>JP x y st Q
 | .Sub=>iiW (fun i j=>Q (.int (i-j)) st) x y
 | .Mult=>JR x y st Q
 | .FloorDiv=>iiW (fun i j=>CBig j/\Q (.int (i/j)) st) x y
 | .Mod=>iiW (fun i j=>0<j/\Q (.int (i % j)) st) x y
 | .Pow=>iiW (fun i j=>Ac i j/\Q (.int (i ^ j.toNat)) st) x y
 | _=>False
noncomputable def ja (kvs:List (Key × PV))(k:Key):Option PV:=(kvs.find? fun kv=>decide (kv.1=k)).map (·.2)
noncomputable def kY (kvs:List (Key × PV))(k:Key)(v:PV):List (Key × PV) :=
 if (kvs.any fun kv=>decide (kv.1=k))=true then kvs.map (fun kv=>if kv.1=k then (kv.1,v) else kv) else kvs++[(k,v)]
noncomputable def kP:Key->PV
 | .inl i=>.int i
 | .inr x=>.str x
inductive DW where
 | items|values
 deriving DecidableEq
noncomputable def bp:DW->List (Key × PV)->List PV
 | .items,kvs=>kvs.map fun p=>.tup [kP p.1,p.2]
 | .values,kvs=>kvs.map fun p=>p.2
noncomputable def D_ (ps:List (Str × PV)):List (Key × PV):=ps.foldl (fun d p=>kY d (.inr p.1) p.2) []
def inR (a:Str)(n:Nat)(st:AH)(k:Bool->Prop):Prop:=(∃ns:List Str,st[n]?=some (.lst (ns.map PV.str))/\k (ns.any fun j=>j == a))\/False
def di (op:CmpOp)(x y:PV)(st:AH)(Q:EK):Prop :=
 match op with
 | .Eq=>eqW st x y fun k=>Q (.bl k) st
 | .NotEq=>eqW st x y fun k=>Q (.bl (!k)) st
 | .Is=>match y with
  | .non=>Q (.bl (gz x)) st
  | .bl k=>Q (.bl (kW k x)) st
  | _=>False
 | .IsNot=>match y with
  | .non=>Q (.bl (!gz x)) st
  | .bl k=>Q (.bl (!kW k x)) st
  | _=>False
 | .Lt=>match x,y with
  | .str a,.str b=>Q (.bl (decide (a.cps.toList<b.cps.toList))) st
  | .int i,.int j=>Q (.bl (decide (i<j))) st
  | _,_=>False
 | .LtE=>False
 | .Gt=>match x,y with
  | .str a,.str b=>Q (.bl (decide (b.cps.toList<a.cps.toList))) st
  | .int i,.int j=>Q (.bl (decide (j<i))) st
  | _,_=>False
 | .GtE=>match x,y with
  | .int i,.int j=>Q (.bl (decide (j<=i))) st
  | _,_=>False
 | .In=>match x,y with
  | .str a,.str b=>Q (.bl (!(Builtin.Str.occurrences b a 0 b.length 1).isEmpty)) st
  | .str a,.ref n=>inR a n st fun k=>Q (.bl k) st
  | _,_=>False
 | .NotIn=>match x,y with
  | .str a,.str b=>Q (.bl (!(!(Builtin.Str.occurrences b a 0 b.length 1).isEmpty))) st
  | .str a,.ref n=>inR a n st fun k=>Q (.bl (!k)) st
  | _,_=>False
def uC (o:Option (Option PV))(f:PV->Prop):Prop :=
 match o with
 | some (some v)=>f v
 | _=>False
theorem jf (h:uC o f):∃v,o=some (some v)/\f v:=by
 cases o with
 | none=>exact False.elim h
 | some o=>cases o with|none=>exact False.elim h|some v=>exact⟨v,rfl,h⟩
theorem pO {o:Option (Option PV)}{f:PV->Prop}(e:o=some (some v))(h:f v):uC o f:=by subst e;exact h
theorem o7:uC (some (some v)) f=f v:=rfl
def ixI (i:Int)(st:AH)(Q:EK)(x:PV):Prop :=
 match x with
 | .str z=>z.length<=100000/\∃c,atI z.cps.toList i=some c/\Q (.str ⟨#[c]⟩) st
 | x=>∃xs,a7 st x=some xs/\∃v,atI xs i=some v/\Q v st
theorem vS (h:ixI i st Q x):(∃z c,x=.str z/\z.length<=100000/\atI z.cps.toList i=some c/\Q (.str ⟨#[c]⟩) st)\/∃xs v,a7 st x=some xs/\atI xs i=some v/\Q v st:=by
 cases x with
 | str z=>exact .inl ⟨z,h.2.choose,rfl,h.1,h.2.choose_spec⟩
 | _=>obtain⟨xs,e,v,e2,q⟩:=h;exact .inr ⟨xs,v,e,e2,q⟩
theorem B2 {Q:EK}(e:a7 st x=some xs)(e2:atI xs i=some v)(h:Q v st):ixI i st Q x:=by cases x with|str z=>cases e|_=>exact⟨xs,e,v,e2,h⟩
def ixD (z:Str)(st:AH)(Q:EK)(x:PV):Prop :=
 match x with
 | .ref n=>∃kvs v,(st[n]?=some (.dk kvs)\/st[n]?=some (.fz kvs))/\ja kvs (.inr z)=some v/\Q v st
 | _=>False
theorem vO (h:ixD z st Q x):∃n kvs v,x=.ref n/\(st[n]?=some (.dk kvs)\/st[n]?=some (.fz kvs))/\ja kvs (.inr z)=some v/\Q v st:=by
 cases x with
 | ref n=>obtain⟨kvs,v,h⟩:=h;exact⟨n,kvs,v,rfl,h⟩
 | _=>exact False.elim h
def ixW (x y:PV)(st:AH)(Q:EK):Prop :=
 match y with
 | .int i=>ixI i st Q x
 | .str z=>ixD z st Q x
 | _=>False
noncomputable def il (z:Str)(lo hi:Option Int):Str:=if ((Builtin.Str.strSliceIndices lo hi 1 z.length).length == z.length)=true then z else ⟨((Builtin.Str.strSliceIndices lo hi 1 z.length).filterMap (z.cps[·]?)).toArray⟩
noncomputable def ko (z y:Str):List PV :=
 match Builtin.Str.occurrences z y 0 z.length 1 with
 | i::_=>[.str (Builtin.Str.strSub z 0 i),.str y,.str (Builtin.Str.strSub z (i+y.length) z.length)]
 | []=>[.str z,.str Str.empty,.str Str.empty]
def slW (x:PV)(lo hi:Option Int)(st:AH)(Q:EK):Prop :=
 match x with
 | .str z=>z.length<=100000/\Q (.str (il z lo hi)) st
 | .tup xs=>Q (.tup (iJ xs lo hi)) st
 | x=>∃xs,aQ st x=some xs/\Q (.ref st.length) (st++[.lst (iJ xs lo hi)])
def GZ (st:AH)(Q:EK)(x:PV):Prop :=
 match x with
 | .str z=>z.length<=100000/\Q (.int z.length) st
 | x=>∃xs,a7 st x=some xs/\Q (.int xs.length) st
theorem tR (h:GZ st Q x):(∃z,x=.str z/\z.length<=100000/\Q (.int z.length) st)\/∃xs,a7 st x=some xs/\Q (.int xs.length) st:=by cases x with|str z=>exact .inl ⟨z,rfl,h⟩|_=>exact .inr h
theorem AN {Q:EK}(e:a7 st x=some xs)(h:Q (.int xs.length) st):GZ st Q x:=by cases x with|str z=>cases e|_=>exact⟨xs,e,h⟩
def DF (st:AH)(Q:EK)(x:PV):Prop :=
 match x with
 | .bl b=>Q (.int (b2z b)) st
 | .str z=>z.length<=640/\∃n,PySem.intText? z=some n/\Q (.int n) st
 | _=>False
theorem o5 (h:DF st Q x):(∃b,x=.bl b/\Q (.int (b2z b)) st)\/∃z n,x=.str z/\z.length<=640/\PySem.intText? z=some n/\Q (.int n) st:=by cases x with|bl b=>exact .inl ⟨b,rfl,h⟩|str z=>exact .inr ⟨z,h.2.choose,rfl,h.1,h.2.choose_spec⟩|_=>exact False.elim h
noncomputable def cC {α:Type}:List (Option α)->Option (List α)
 | []=>some []
 | some x::r=>(cC r).map (x::·)
 | none::_=>none
noncomputable def kD:Key->PyData
 | .inl i=>.int i
 | .inr x=>.str x
noncomputable def shX (st:AH):Nat->PV->Option PyData
 | _,.non=>some .none
 | _,.bl c=>some (.bool c)
 | _,.int i=>some (.int i)
 | _,.str x=>some (.str x)
 | n+1,.tup xs=>(cC (xs.map (shX st n))).map .tuple
 | n+1,.ref k=>match st[k]? with
  | some (.lst xs)=>(cC (xs.map (shX st n))).map .list
  | some (.dk kvs)=>(cC (kvs.map fun kv=>shX st n kv.2)).map fun ds=>.dict ((kvs.map fun kv=>kD kv.1).zip ds)
  | some (.od kvs)=>match cC (kvs.map fun kv=>shX st n kv.1) with
   | some es=>(cC (kvs.map fun kv=>shX st n kv.2)).map fun ds=>.dict (es.zip ds)
   | none=>none
  | some (.fz _)=>none
  | none=>none
 | 0,.tup _=>none
 | 0,.ref _=>none
 | _,.rdl _=>none
 | _,.fn _=>none
def ph (st:AH)(Q:EK)(x:PV):Prop :=
 match x with
 | .non=>Q (.str "None") st
 | .bl b=>Q (.str (if b then "True" else "False")) st
 | .int i=>i.natAbs.log2<1920/\Q (.str (toString i)) st
 | .str z=>(reprText z).length<=sizeLine/\Q (.str (reprText z)) st
 | x=>∃d,shX st 9 x=some d/\(d.showable=true/\d.depth<=60/\d.shown.length<=sizeLine)/\Q (.str d.shown) st
inductive B where
 | len|max2|min2|divmod|int1|str1|tuple1|list1|all1|any1|abs1|sorted1|repr1|sortS|max1|sortD|repr2
 deriving DecidableEq
noncomputable def eI:List PV->Option (List Bool)
 | []=>some []
 | .bl b::r=>(eI r).map (b::·)
 | _::_=>none
def kQ (f:PV->Prop)(vs:List PV):Prop :=
 match vs with
 | [x]=>f x
 | _=>False
def Ag (f:PV->PV->Prop)(vs:List PV):Prop :=
 match vs with
 | [x,y]=>f x y
 | _=>False
def inW (f:Int->Prop)(x:PV):Prop :=
 match x with
 | .int b=>f b
 | _=>False
def cw (b:B)(vs:List PV)(st:AH)(Q:EK):Prop :=
 match b with
 | .len=>kQ (GZ st Q) vs
 | .max2=>Ag (iiW fun i j=>Q (.int (if i<j then j else i)) st) vs
 | .min2=>Ag (iiW fun i j=>Q (.int (if j<i then j else i)) st) vs
 | .divmod=>Ag (iiW fun i j=>CBig j/\Q (.tup [.int (i/j),.int (i % j)]) st) vs
 | .int1=>kQ (DF st Q) vs
 | .str1=>kQ (inW fun i=>i.natAbs.log2<1920/\Q (.str (toString i)) st) vs
 | .tuple1=>kQ (fun x=>∃xs,a7 st x=some xs/\Q (.tup xs) st) vs
 | .list1=>kQ (fun x=>∃xs,a7 st x=some xs/\Q (.ref st.length) (st++[.lst xs])) vs
 | .all1=>kQ (fun x=>∃xs bs,aQ st x=some xs/\eI xs=some bs/\Q (.bl (bs.all id)) st) vs
 | .any1=>kQ (fun x=>∃xs bs,aQ st x=some xs/\eI xs=some bs/\Q (.bl (bs.any id)) st) vs
 | .abs1=>False
 | .sorted1=>False
 | .repr1=>False
 | .sortS=>kQ (fun x=>∃ss:List Str,aQ st x=some (ss.map PV.str)/\ss.length<64/\∀ss':List Str,ss'.Perm ss->PyProof.Rows.sortedS ss'=true->Q (.ref st.length) (st++[.lst (ss'.map PV.str)])) vs
 | .max1=>False
 | .sortD=>kQ (fun x=>∃n,x=.ref n/\∃kvs,(st[n]?=some (.dk kvs)\/st[n]?=some (.fz kvs))/\∃ss:List Str,kvs.map (·.1)=ss.map Sum.inr/\ss.length<64/\∀ss':List Str,ss'.Perm ss->PyProof.Rows.sortedS ss'=true->Q (.ref st.length) (st++[.lst (ss'.map PV.str)])) vs
 | .repr2=>kQ (ph st Q) vs
inductive M where
 | append|pop0|extend|insert|count|index|popI
 deriving DecidableEq
def rfW (f:Nat->Prop)(x:PV):Prop :=
 match x with
 | .ref n=>f n
 | _=>False
def rZ (m:M)(x:PV)(vs:List PV)(st:AH)(Q:EK):Prop :=
 match m with
 | .append=>rfW (fun n=>kQ (fun v=>∃xs,st[n]?=some (.lst xs)/\xs.length<100000/\Q .non (st.set n (.lst (xs++[v])))) vs) x
 | .pop0=>False
 | .extend=>False
 | .insert=>rfW (fun n=>Ag (fun i v=>inW (fun i=>∃xs,st[n]?=some (.lst xs)/\xs.length<100000/\0<=i/\i<=xs.length/\Q .non (st.set n (.lst (xs.take i.toNat++v::xs.drop i.toNat)))) i) vs) x
 | .count=>False
 | .index=>False
 | .popI=>False
theorem bw (h:iiW f x y):∃i j,x=.int i/\y=.int j/\f i j:=by
 cases x with
 | int i =>
  cases y with
  | int j=>exact⟨i,j,rfl,rfl,h⟩
  | _=>exact False.elim h
 | _=>exact False.elim h
theorem aE (h:kQ f vs):∃x,vs=[x]/\f x:=by
 cases vs with
 | nil=>exact False.elim h
 | cons x t =>
  cases t with
  | nil=>exact⟨x,rfl,h⟩
  | cons _ _=>exact False.elim h
theorem cS (h:Ag f vs):∃x y,vs=[x,y]/\f x y:=by
 cases vs with
 | nil=>exact False.elim h
 | cons x t =>
  cases t with
  | nil=>exact False.elim h
  | cons y t =>
   cases t with
   | nil=>exact⟨x,y,rfl,h⟩
   | cons _ _=>exact False.elim h
theorem lg (h:inW f x):∃b,x=.int b/\f b:=by
 cases x with
 | int b=>exact⟨b,rfl,h⟩
 | _=>exact False.elim h
theorem lr {f:Nat->Prop}(h:rfW f x):∃b,x=.ref b/\f b:=by
 cases x with
 | ref b=>exact⟨b,rfl,h⟩
 | _=>exact False.elim h
def e7 (x:PV)(st:AH)(Q:BK):Prop :=
 match x with
 | .bl b=>Q b st
 | .non=>Q false st
 | .int i=>Q (i != 0) st
 | .str _=>False
 | x=>∃xs,a7 st x=some xs/\Q (!xs.isEmpty) st
def Sub (st st':AH):Prop:=∀i,i<st.length->st'[i]?=st[i]?\/∃c,st'[i]?=some c/\c.bel 0=true
noncomputable def Tmp (st:AH)(Q:EK):EK:=fun v st'=>∃st1 g,st'=st1++g/\st1.length=st.length/\Sub st st1/\v.bel st.length=true/\Q v st1
noncomputable def Ret (st:AH)(Q:EK):EK:=fun v st'=>Q v st'\/Tmp st Q v st'
inductive SM where
 | join|split|endsw
 deriving DecidableEq
def smW (k:SM)(x y:PV)(st:AH)(Q:EK):Prop :=
 match x with
 | .str z=>match k with
  | .join=>∃ss:List Str,aQ st y=some (ss.map PV.str)/\JoinOk z ss=true/\Q (.str (Txt.join z ss)) st
  | .split=>match y with
   | .str w=>0<w.length/\z.length<=100000/\(Txt.split z w).length<=100000/\Q (.ref st.length) (st++[.lst ((Txt.split z w).map PV.str)])
   | _=>False
  | .endsw=>match y with
   | .str w=>Q (.bl (Txt.endswith z w)) st
   | _=>False
 | _=>False
inductive UK where
 | sI
 deriving DecidableEq
def unW (k:UK)(x:PV)(st:AH)(Q:EK):Prop :=
 match k with
 | .sI=>∃n kvs,∃ps:List (Str × PV),x=.ref n/\st[n]?=some (.dk kvs)/\kvs=ps.map (fun p=>(Sum.inr p.1,p.2))/\ps.length<64/\∀qs:List (Str × PV),qs.Perm ps->(qs.map (·.1)).Pairwise (fun a b:Str=>a.cps.toList<b.cps.toList)->Q (.ref st.length) (st++[.lst (qs.map fun p=>.tup [.str p.1,p.2])])
set_option genInjectivity false
set_option genCtorIdx false
mutual
inductive E where
 | var (i:Nat)|int (i:Int)|bl (b:Bool)|non|str (x:Str)|gv (x:Str) (v:PV)
 | tup (es:Es)|lst (es:Es)|dct0|dct1 (k:Str) (i:Int)
 | bin (op:Operator) (a b:E)|neg (a:E)|not (a:E)
 | cmp (op:CmpOp) (a b:E)
 | bop (isAnd:Bool) (es:Es)
 | ite (c a b:E)
 | ix (a b:E)|sl (a:E) (lo hi:O)
 | call (f:Nat) (es:Es)
 | blt (b:B) (es:Es)
 | inst (a:E) (t:String)
 | met (m:M) (o:E) (es:Es)
 | comp (elt:E) (tg:Tg) (it:It) (ifs:Es) (nt:List Str) (caps:List Nat)
 | tmp (a:E)
 | bad
 | jrev (a:E)|part (a:E) (y:Str)|sset (a:E)|clr (a:E)|dcp (a:E)|dget (a b:E)
 | pcall (i:Nat) (e:E)|hm (e be:E) (caps:List Nat)
 | compK (elt:E) (tg:Tg) (wk:DW) (e:E) (ifs:Es) (nt:List Str) (caps:List Nat)
 | compD (kx vx:E) (tg:Tg) (wk:DW) (e:E) (ifs:Es) (nt:List Str) (caps:List Nat)
 | dcl (a:E)|dct2 (k v:E)|smx (k:SM) (a b:E)
 | un (k:UK) (a:E)
inductive Es where
 | nil|cons (e:E) (es:Es)
inductive O where
 | no|yes (e:E)
inductive It where
 | seq (e:E)|range1 (a:E)|range2 (a b:E)|zip (a b:E)|enum (a:E)|chars (e:E)|range3 (a b c:E)|zip3 (a b c:E)
inductive Tg where
 | name (i:Nat)|tup (ts:Tgs)|ltup (ts:Tgs)|sub (o i:E)
inductive Tgs where
 | nil|cons (t:Tg) (ts:Tgs)
end
noncomputable def Tgs.size:Tgs->Nat
 | .nil=>0
 | .cons _ ts=>ts.size+1
def qd (o i v:PV)(st:AH)(k:AH->Prop):Prop :=
 match o,i with
 | .ref n,.int j=>∃xs,st[n]?=some (.lst xs)/\∃q,ixN xs.length j=some q/\k (st.set n (.lst (xs.set q v)))
 | .ref n,.str z=>∃kvs,st[n]?=some (.dk kvs)/\kvs.length<=1000/\k (st.set n (.dk (kY kvs (.inr z) v)))
 | _,_=>False
noncomputable def cA (chk:AH->Prop)(body:PV->AH->(Option PV->AH->Prop)->Prop):List PV->List PV->AH->LK->Prop
 | [],acc,st,Q=>chk st/\Q acc st
 | x::xs,acc,st,Q=>chk st/\body x st fun o st'=>cA chk body xs (acc++o.toList) st' Q
noncomputable def gM (st:AH):PV->AH->Prop
 | .ref n=>fun st'=>st'[n]?=st[n]?
 | _=>fun _=>True
noncomputable def rSz (i j k:Int):Nat:=if i<j then ((j-i-1)/k+1).toNat else 0
noncomputable def jH (lo k:Int)(n:Nat):List PV:=(List.range n).map fun (i:Nat)=>PV.int (lo+(i:Int)*k)
noncomputable def bb (lo:Int)(n:Nat):List PV:=(List.range n).map fun (i:Nat)=>PV.int (lo+(i:Int))
noncomputable def fX:List PV->List PV->List PV
 | x::xs,y::ys=>.tup [x,y]::fX xs ys
 | _,_=>[]
noncomputable def ee (z:Str):List PV:=z.cps.toList.map fun c=>.str ⟨#[c]⟩
noncomputable def F2 (g:PV->Bool)(xs:List PV):Nat->Nat->Nat->Nat
 | 0,lo,_=>lo
 | n+1,lo,hi=>if lo<hi then (if g (xs.getD ((lo+hi)/2) .non)=true then F2 g xs n ((lo+hi)/2+1) hi else F2 g xs n lo ((lo+hi)/2)) else lo
noncomputable def bsr (g:PV->Bool)(xs:List PV):Nat:=F2 g xs xs.length 0 xs.length
section
variable (Γ:Nat->FSp)
mutual
noncomputable def wpE:E->Fr->AH->EK->Prop
 | .var i,ρ,st,Q=>uC ρ[i]? fun v=>Q v st
 | .int i,_,st,Q=>Q (.int i) st
 | .bl b,_,st,Q=>Q (.bl b) st
 | .non,_,st,Q=>Q .non st
 | .str x,_,st,Q=>Q (.str x) st
 | .gv _ v,_,st,Q=>Q v st
 | .tup es,ρ,st,Q=>cb es ρ st fun vs st1=>vs.length<=100000/\Q (.tup vs) st1
 | .lst es,ρ,st,Q=>cb es ρ st fun vs st1=>vs.length<=100000/\Q (.ref st1.length) (st1++[.lst vs])
 | .dct0,_,st,Q=>Q (.ref st.length) (st++[.dk []])
 | .dct1 _ _,_,_,_=>False
 | .bin op a b,ρ,st,Q=>wpE a ρ st fun x st1=>wpE b ρ st1 fun y st2=>i7 op x y st2 Q
 | .neg a,ρ,st,Q=>wpE a ρ st fun x st1=>∃i,x=.int i/\Q (.int (-i)) st1
 | .not a,ρ,st,Q=>wpE a ρ st fun x st1=>∃c,x=.bl c/\Q (.bl (!c)) st1
 | .cmp op a b,ρ,st,Q=>wpE a ρ st fun x st1=>wpE b ρ st1 fun y st2=>di op x y st2 Q
 | .bop true es,ρ,st,Q=>qO es ρ st Q
 | .bop false es,ρ,st,Q=>pX es ρ st Q
 | .ite c a b,ρ,st,Q=>wpT c ρ st fun k st1=>if k=true then wpE a ρ st1 Q else wpE b ρ st1 Q
 | .ix a b,ρ,st,Q=>wpE a ρ st fun x st1=>wpE b ρ st1 fun y st2=>ixW x y st2 Q
 | .sl a lo hi,ρ,st,Q=>wpE a ρ st fun x st1=>wpO lo ρ st1 fun l st2=>wpO hi ρ st2 fun h st3=>slW x l h st3 Q
 | .call f es,ρ,st,Q=>cb es ρ st fun vs st1=>Γ f vs st1 Q
 | .blt b es,ρ,st,Q=>cb es ρ st fun vs st1=>cw b vs st1 Q
 | .inst a t,ρ,st,Q=>wpE a ρ st fun x st1=>∃n,bg st1 x=some n/\Q (.bl (bF t n)) st1
 | .met m o es,ρ,st,Q=>wpE o ρ st fun x st1=>(∃xs,aQ st1 x=some xs)/\cb es ρ st1 fun vs st2=>rZ m x vs st2 Q
 | .comp elt tg it ifs nt caps,ρ,st,Q=>iP it ρ st fun xs chk st1 =>
   xs.length<100000/\cA chk (fun x st2 k=>bD tg x (nt.map (fun _=>none)++caps.map fun i=>(ρ[i]?).join) st2 fun ρ' st3=>fG ifs ρ' st3 fun c st4 =>
    if c=true then wpE elt ρ' st4 fun v st5=>k (some v) st5 else k none st4) xs [] st1 fun vs st2=>Q (.ref st2.length) (st2++[.lst vs])
 | .tmp a,ρ,st,Q=>wpE a ρ st (Tmp st Q)
 | .bad,_,_,_=>False
 | .jrev a,ρ,st,Q=>wpE a ρ st fun x st1=>∃n z,x=.ref n/\st1[n]?=some (.lst [.str z])/\z.length<=100000/\Q (.str z) st1
 | .part a y,ρ,st,Q=>wpE a ρ st fun x st1=>∃z,x=.str z/\z.length<=100000/\Q (.tup (ko z y)) st1
 | .dget _ _,_,_,_=>False
 | .smx k a b,ρ,st,Q=>wpE a ρ st fun x st1=>(∃z,x=.str z)/\wpE b ρ st1 fun y st2=>smW k x y st2 Q
 | .dcp _,_,_,_=>False
 | .clr _,_,_,_=>False
 | .sset _,_,_,_=>False
 | .pcall _ _,_,_,_=>False
 | .hm _ _ _,_,_,_=>False
 | .compK elt tg wk e ifs nt caps,ρ,st,Q=>wpE e ρ st fun x st1=>∃n,x=.ref n/\∃kvs,st1[n]?=some (.dk kvs)/\kvs.length<100000 /\
   cA (fun _=>True) (fun x st2 k=>bD tg x (nt.map (fun _=>none)++caps.map fun i=>(ρ[i]?).join) st2 fun ρ' st3=>fG ifs ρ' st3 fun c st4 =>
    if c=true then wpE elt ρ' st4 fun v st5=>k (some v) st5 else k none st4) (bp wk kvs) [] (st1.set n (.fz kvs)) fun vs st2=>st2[n]?=some (.fz kvs)/\Q (.ref st2.length) (st2.set n (.dk kvs)++[.lst vs])
 | .compD _ _ _ _ _ _ _ _,_,_,_=>False
 | .dct2 _ _,_,_,_=>False
 | .dcl _,_,_,_=>False
 | .un k a,ρ,st,Q=>wpE a ρ st fun x st1=>unW k x st1 Q
noncomputable def cb:Es->Fr->AH->LK->Prop
 | .nil,_,st,Q=>Q [] st
 | .cons e es,ρ,st,Q=>wpE e ρ st fun x st1=>cb es ρ st1 fun xs st2=>Q (x::xs) st2
noncomputable def wpO:O->Fr->AH->(Option Int->AH->Prop)->Prop
 | .no,_,st,Q=>Q none st
 | .yes e,ρ,st,Q=>wpE e ρ st fun x st1=>∃i,x=.int i/\Q (some i) st1
noncomputable def wpT:E->Fr->AH->BK->Prop
 | .bop true es,ρ,st,Q=>fG es ρ st Q
 | .bop false es,ρ,st,Q=>pG es ρ st Q
 | .not a,ρ,st,Q=>wpT a ρ st fun c st1=>Q (!c) st1
 | .cmp op a b,ρ,st,Q=>wpE a ρ st fun x st1=>wpE b ρ st1 fun y st2=>di op x y st2 fun v st3=>∃c,v=.bl c/\Q c st3
 | .var i,ρ,st,Q=>uC ρ[i]? fun v=>e7 v st Q
 | .call f es,ρ,st,Q=>cb es ρ st fun vs st1=>Γ f vs st1 fun v st2=>e7 v st2 Q
 | .blt b es,ρ,st,Q=>cb es ρ st fun vs st1=>cw b vs st1 fun v st2=>e7 v st2 Q
 | .inst a t,ρ,st,Q=>wpE a ρ st fun x st1=>∃n,bg st1 x=some n/\Q (bF t n) st1
 | .tmp a,ρ,st,Q=>wpE a ρ st (Tmp st fun v st1=>e7 v st1 Q)
 | .ix a b,ρ,st,Q=>wpE a ρ st fun x st1=>wpE b ρ st1 fun y st2=>ixW x y st2 fun v st3=>e7 v st3 Q
 | .pcall _ _,_,_,_=>False
 | .un k a,ρ,st,Q=>wpE a ρ st fun x st1=>unW k x st1 fun v st2=>∃c,v=.bl c/\Q c st2
 | _,_,_,_=>False
noncomputable def qO:Es->Fr->AH->EK->Prop
 | .nil,_,_,_=>False
 | .cons e .nil,ρ,st,Q=>wpE e ρ st Q
 | .cons e es,ρ,st,Q=>wpE e ρ st fun x st1=>∃c,x=.bl c/\if c=true then qO es ρ st1 Q else Q (.bl false) st1
noncomputable def pX:Es->Fr->AH->EK->Prop
 | .nil,_,_,_=>False
 | .cons e .nil,ρ,st,Q=>wpE e ρ st Q
 | .cons e es,ρ,st,Q=>wpE e ρ st fun x st1=>∃c,x=.bl c/\if c=true then Q (.bl true) st1 else pX es ρ st1 Q
noncomputable def fG:Es->Fr->AH->BK->Prop
 | .nil,_,st,Q=>Q true st
 | .cons e .nil,ρ,st,Q=>wpT e ρ st Q
 | .cons e es,ρ,st,Q=>wpT e ρ st fun c st1=>if c=true then fG es ρ st1 Q else Q false st1
noncomputable def pG:Es->Fr->AH->BK->Prop
 | .nil,_,st,Q=>Q false st
 | .cons e .nil,ρ,st,Q=>wpT e ρ st Q
 | .cons e es,ρ,st,Q=>wpT e ρ st fun c st1=>if c=true then Q true st1 else pG es ρ st1 Q
noncomputable def iP:It->Fr->AH->(List PV->(AH->Prop)->AH->Prop)->Prop
 | .seq e,ρ,st,Q=>wpE e ρ st fun x st1=>∃xs,a7 st1 x=some xs/\Q xs (gM st1 x) st1
 | .range1 a,ρ,st,Q=>wpE a ρ st fun x st1=>∃j,x=.int j/\-(2 ^ 62)<=j/\j<2 ^ 62/\Q (bb 0 j.toNat) (fun _=>True) st1
 | .range2 _ _,_,_,_=>False
 | .zip a b,ρ,st,Q=>wpE a ρ st fun x st1=>wpE b ρ st1 fun y st2=>∃xs ys,a7 st2 x=some xs/\a7 st2 y=some ys/\Q (fX xs ys) (fun st'=>gM st2 x st'/\gM st2 y st') st2
 | .zip3 _ _ _,_,_,_=>False
 | .enum _,_,_,_=>False
 | .chars a,ρ,st,Q=>wpE a ρ st fun x st1=>∃z,x=.str z/\Q (ee z) (fun _=>True) st1
 | .range3 a b c,ρ,st,Q=>wpE a ρ st fun x st1=>wpE b ρ st1 fun y st2=>wpE c ρ st2 fun u st3=>∃i j k,x=.int i/\y=.int j/\u=.int k/\(-(2 ^ 62)<=i/\i<2 ^ 62/\-(2 ^ 62)<=j/\j<2 ^ 62/\0<k/\k<2 ^ 62)/\Q (jH i k (rSz i j k)) (fun _=>True) st3
noncomputable def bD:Tg->PV->Fr->AH->(Fr->AH->Prop)->Prop
 | .name i,v,ρ,st,Q=>Q (ρ.set i (some v)) st
 | .tup ts,v,ρ,st,Q=>∃xs,v=.tup xs/\xs.length=ts.size/\gK ts xs ρ st Q
 | .ltup _,_,_,_,_=>False
 | .sub o i,v,ρ,st,Q=>wpE o ρ st fun x st1=>wpE i ρ st1 fun y st2=>qd x y v st2 fun st3=>Q ρ st3
noncomputable def gK:Tgs->List PV->Fr->AH->(Fr->AH->Prop)->Prop
 | .nil,vs,ρ,st,Q=>vs=[]/\Q ρ st
 | .cons t ts,vs,ρ,st,Q=>∃v r,vs=v::r/\bD t v ρ st fun ρ' st'=>gK ts r ρ' st' Q
end
end
mutual
inductive S where
 | set (t:Tg) (e:E)|par (i j:Nat) (a b:E)|aug (i:Nat) (op:Operator) (e:E)|expr (e:E)|ret (e:E)|retN
 | ifS (c:E) (a b:Ss)|whileS (c:E) (b:Ss)|forS (t:Tg) (it:It) (b:Ss)|pass|brk|cont|bad|set2 (i j:Nat) (e:E)|forK (t:Tg) (wk:DW) (e:E) (b:Ss)
inductive Ss where
 | nil|cons (s:S) (ss:Ss)
end
structure aX where
 nx:Fr->AH->Prop
 rt:EK
 bk:Fr->AH->Prop:=fun _ _=>False
 ct:Fr->AH->Prop:=fun _ _=>False
set_option genInjectivity true
set_option genCtorIdx true
noncomputable def fzD (n:Nat)(kvs:List (Key × PV))(D:aX):aX:={ nx:=fun ρ st=>st[n]?=some (.fz kvs)/\D.nx ρ (st.set n (.dk kvs)),rt:=fun v st=>st[n]?=some (.fz kvs)/\D.rt v (st.set n (.dk kvs)) }
noncomputable def k6 (chk:AH->Prop)(body:PV->Fr->AH->aX->Prop)(D:aX):List PV->Fr->AH->Prop
 | [],ρ,st=>chk st/\D.nx ρ st
 | x::xs,ρ,st=>chk st/\body x ρ st { nx:=k6 chk body D xs,ct:=k6 chk body D xs,bk:=D.nx,rt:=D.rt }
noncomputable def dX (c:Fr->AH->BK->Prop)(body:Fr->AH->aX->Prop)(D:aX):Nat->Fr->AH->Prop
 | 0,_,_=>False
 | n+1,ρ,st=>c ρ st fun k st1=>if k=true then body ρ st1 { nx:=dX c body D n,ct:=dX c body D n,bk:=D.nx,rt:=D.rt } else D.nx ρ st1
def mz (op:Operator)(x y:PV)(st:AH)(Q:EK):Prop :=
 match op,x,y with
 | .Add,.int i,.int j=>Q (.int (i+j)) st
 | .Sub,.int i,.int j=>Q (.int (i-j)) st
 | .Add,.ref n,.ref k=>∃xs ys,st[n]?=some (.lst xs)/\st[k]?=some (.lst ys)/\xs.length+ys.length<=100000/\Q (.ref n) (st.set n (.lst (xs++ys)))
 | _,_,_=>False
section
variable (Γ:Nat->FSp)
mutual
noncomputable def wpS:S->Fr->AH->aX->Prop
 | .set t e,ρ,st,D=>wpE Γ e ρ st fun v st1=>bD Γ t v ρ st1 D.nx
 | .par i j a b,ρ,st,D=>wpE Γ a ρ st fun x st1=>wpE Γ b ρ st1 fun y st2=>D.nx ((ρ.set i (some x)).set j (some y)) st2
 | .aug i op e,ρ,st,D=>∃x,ρ[i]?=some (some x)/\wpE Γ e ρ st fun y st1=>mz op x y st1 fun z st2=>D.nx (ρ.set i (some z)) st2
 | .expr e,ρ,st,D=>wpE Γ e ρ st fun _ st1=>D.nx ρ st1
 | .ret e,ρ,st,D=>wpE Γ e ρ st D.rt
 | .retN,_,st,D=>D.rt .non st
 | .ifS c a b,ρ,st,D=>wpT Γ c ρ st fun k st1=>if k=true then aw a ρ st1 D else aw b ρ st1 D
 | .whileS c b,ρ,st,D=>∃n,dX (wpT Γ c) (aw b) D n ρ st
 | .forS t it b,ρ,st,D=>iP Γ it ρ st fun xs chk st1=>k6 chk (fun x ρ' st' D'=>bD Γ t x ρ' st' fun ρ2 st2=>aw b ρ2 st2 D') D xs ρ st1
 | .pass,ρ,st,D=>D.nx ρ st
 | .brk,ρ,st,D=>D.bk ρ st
 | .cont,ρ,st,D=>D.ct ρ st
 | .bad,_,_,_=>False
 | .forK t wk e b,ρ,st,D=>wpE Γ e ρ st fun x st1=>∃n,x=.ref n/\∃kvs,st1[n]?=some (.dk kvs)/\k6 (fun _=>True) (fun x ρ' st' D'=>bD Γ t x ρ' st' fun ρ2 st2=>aw b ρ2 st2 D') (fzD n kvs D) (bp wk kvs) ρ (st1.set n (.fz kvs))
 | .set2 i j e,ρ,st,D=>wpE Γ e ρ st fun v st1=>D.nx ((ρ.set i (some v)).set j (some v)) st1
noncomputable def aw:Ss->Fr->AH->aX->Prop
 | .nil,ρ,st,D=>D.nx ρ st
 | .cons s ss,ρ,st,D=>wpS s ρ st { D with nx:=fun ρ' st'=>aw ss ρ' st' D }
end
end
section
variable {Γ:Nat->FSp}{ρ:Fr}{st:AH}{Q:EK}{D:aX}{a b c:E}{es:Es}
theorem yr:aw Γ .nil ρ st D=D.nx ρ st:=rfl
theorem AX:aw Γ (.cons s .nil) ρ st D=wpS Γ s ρ st D:=rfl
theorem vG:wpS Γ (.set t a) ρ st D=wpE Γ a ρ st fun v st1=>bD Γ t v ρ st1 D.nx:=rfl
theorem EW:wpS Γ (.par i j a b) ρ st D=wpE Γ a ρ st fun x st1=>wpE Γ b ρ st1 fun y st2=>D.nx ((ρ.set i (some x)).set j (some y)) st2:=rfl
theorem DY:wpS Γ (.aug i op a) ρ st D=∃x,ρ[i]?=some (some x)/\wpE Γ a ρ st fun y st1=>mz op x y st1 fun z st2=>D.nx (ρ.set i (some z)) st2:=rfl
theorem zo:wpS Γ (.expr a) ρ st D=wpE Γ a ρ st fun _ st1=>D.nx ρ st1:=rfl
theorem Ei:wpS Γ (.ret a) ρ st D=wpE Γ a ρ st fun v st1=>D.rt v st1:=rfl
theorem BF:wpS Γ .retN ρ st D=D.rt .non st:=rfl
theorem Ih:wpS Γ (.ifS c x y) ρ st D=wpT Γ c ρ st fun k st1=>if k=true then aw Γ x ρ st1 D else aw Γ y ρ st1 D:=rfl
theorem AY:wpS Γ .pass ρ st D=D.nx ρ st:=rfl
theorem A8:wpS Γ (.set2 i j a) ρ st D=wpE Γ a ρ st fun v st1=>D.nx ((ρ.set i (some v)).set j (some v)) st1:=rfl
theorem Ec:wpS Γ .brk ρ st D=D.bk ρ st:=rfl
theorem Aa:wpS Γ .cont ρ st D=D.ct ρ st:=rfl
theorem Fi:wpE Γ (.var i) ρ st Q=uC ρ[i]? fun v=>Q v st:=rfl
theorem Fj:wpE Γ (.int i) ρ st Q=Q (.int i) st:=rfl
theorem Ha:wpE Γ (.bl i) ρ st Q=Q (.bl i) st:=rfl
theorem Fh:wpE Γ .non ρ st Q=Q .non st:=rfl
theorem Fk:wpE Γ (.str i) ρ st Q=Q (.str i) st:=rfl
theorem Jx:wpE Γ (.gv x v) ρ st Q=Q v st:=rfl
theorem ES:wpE Γ (.tup es) ρ st Q=cb Γ es ρ st fun vs st1=>vs.length<=100000/\Q (.tup vs) st1:=rfl
theorem Fl:wpE Γ (.lst es) ρ st Q=cb Γ es ρ st fun vs st1=>vs.length<=100000/\Q (.ref st1.length) (st1++[.lst vs]):=rfl
theorem y8:wpE Γ .dct0 ρ st Q=Q (.ref st.length) (st++[.dk []]):=rfl
theorem Ez:wpE Γ (.bin op a b) ρ st Q=wpE Γ a ρ st fun x st1=>wpE Γ b ρ st1 fun y st2=>i7 op x y st2 Q:=rfl
theorem DU:wpE Γ (.neg a) ρ st Q=wpE Γ a ρ st fun x st1=>∃i,x=.int i/\Q (.int (-i)) st1:=rfl
theorem DC:wpE Γ (.not a) ρ st Q=wpE Γ a ρ st fun x st1=>∃c,x=.bl c/\Q (.bl (!c)) st1:=rfl
theorem D9:wpE Γ (.cmp op a b) ρ st Q=wpE Γ a ρ st fun x st1=>wpE Γ b ρ st1 fun y st2=>di op x y st2 Q:=rfl
theorem DQ:wpE Γ (.bop true es) ρ st Q=qO Γ es ρ st Q:=rfl
theorem Jd:wpE Γ (.bop false es) ρ st Q=pX Γ es ρ st Q:=rfl
theorem DK:wpE Γ (.ite c a b) ρ st Q=wpT Γ c ρ st fun k st1=>if k=true then wpE Γ a ρ st1 Q else wpE Γ b ρ st1 Q:=rfl
theorem Ig:wpE Γ (.ix a b) ρ st Q=wpE Γ a ρ st fun x st1=>wpE Γ b ρ st1 fun y st2=>ixW x y st2 Q:=rfl
theorem Hj:wpE Γ (.sl a lo hi) ρ st Q=wpE Γ a ρ st fun x st1=>wpO Γ lo ρ st1 fun l st2=>wpO Γ hi ρ st2 fun h st3=>slW x l h st3 Q:=rfl
theorem AD:wpE Γ (.call f es) ρ st Q=cb Γ es ρ st fun vs st1=>Γ f vs st1 Q:=rfl
theorem E4:wpE Γ (.blt f es) ρ st Q=cb Γ es ρ st fun vs st1=>cw f vs st1 Q:=rfl
theorem BB:wpE Γ (.inst a t) ρ st Q=wpE Γ a ρ st fun x st1=>∃n,bg st1 x=some n/\Q (.bl (bF t n)) st1:=rfl
theorem E3:wpE Γ (.met m a es) ρ st Q=wpE Γ a ρ st fun x st1=>(∃xs,aQ st1 x=some xs)/\cb Γ es ρ st1 fun vs st2=>rZ m x vs st2 Q:=rfl
theorem zy:wpE Γ (.jrev a) ρ st Q=wpE Γ a ρ st fun x st1=>∃n z,x=.ref n/\st1[n]?=some (.lst [.str z])/\z.length<=100000/\Q (.str z) st1:=rfl
theorem Ea:wpE Γ (.smx k a b) ρ st Q=wpE Γ a ρ st fun x st1=>(∃z,x=.str z)/\wpE Γ b ρ st1 fun y st2=>smW k x y st2 Q:=rfl
theorem zp:wpE Γ (.part a y) ρ st Q=wpE Γ a ρ st fun x st1=>∃z,x=.str z/\z.length<=100000/\Q (.tup (ko z y)) st1:=rfl
theorem Cj {nt:List Str}{caps:List Nat}:wpE Γ (.compK elt tg wk e ifs nt caps) ρ st Q=wpE Γ e ρ st fun x st1=>∃n,x=.ref n/\∃kvs,st1[n]?=some (.dk kvs)/\kvs.length<100000 /\
   cA (fun _=>True) (fun x st2 k=>bD Γ tg x (nt.map (fun _=>none)++caps.map fun i=>(ρ[i]?).join) st2 fun ρ' st3=>fG Γ ifs ρ' st3 fun c st4 =>
    if c=true then wpE Γ elt ρ' st4 fun v st5=>k (some v) st5 else k none st4) (bp wk kvs) [] (st1.set n (.fz kvs)) fun vs st2=>st2[n]?=some (.fz kvs)/\Q (.ref st2.length) (st2.set n (.dk kvs)++[.lst vs]):=rfl
theorem Jj:wpE Γ (.un k a) ρ st Q=wpE Γ a ρ st fun x st1=>unW k x st1 Q:=rfl
theorem Eb:wpE Γ (.tmp a) ρ st Q=wpE Γ a ρ st fun v st1=>Tmp st Q v st1:=rfl
variable {LQ:LK}{BQ:BK}{e e2:E}{i:Nat}{v:PV}{FQ:Fr->AH->Prop}{IQ:List PV->(AH->Prop)->AH->Prop}
theorem AB:cb Γ .nil ρ st LQ=LQ [] st:=rfl
theorem wK:cb Γ (.cons e es) ρ st LQ=wpE Γ e ρ st fun x st1=>cb Γ es ρ st1 fun xs st2=>LQ (x::xs) st2:=rfl
theorem Hq:wpO Γ .no ρ st OQ=OQ none st:=rfl
theorem EA:wpO Γ (.yes e) ρ st OQ=wpE Γ e ρ st fun x st1=>∃i,x=.int i/\OQ (some i) st1:=rfl
theorem DO:wpT Γ (.bop true es) ρ st BQ=fG Γ es ρ st BQ:=rfl
theorem Iz:wpT Γ (.bop false es) ρ st BQ=pG Γ es ρ st BQ:=rfl
theorem DR:wpT Γ (.not a) ρ st BQ=wpT Γ a ρ st fun c st1=>BQ (!c) st1:=rfl
theorem E6:wpT Γ (.cmp op a b) ρ st BQ=wpE Γ a ρ st fun x st1=>wpE Γ b ρ st1 fun y st2=>di op x y st2 fun v st3=>∃c,v=.bl c/\BQ c st3:=rfl
theorem Fc:wpT Γ (.var i) ρ st BQ=uC ρ[i]? fun v=>e7 v st BQ:=rfl
theorem yu:wpT Γ (.call f es) ρ st BQ=cb Γ es ρ st fun vs st1=>Γ f vs st1 fun v st2=>e7 v st2 BQ:=rfl
theorem EL:wpT Γ (.blt f es) ρ st BQ=cb Γ es ρ st fun vs st1=>cw f vs st1 fun v st2=>e7 v st2 BQ:=rfl
theorem yv:wpT Γ (.inst a t) ρ st BQ=wpE Γ a ρ st fun x st1=>∃n,bg st1 x=some n/\BQ (bF t n) st1:=rfl
theorem IP:wpT Γ (.un k a) ρ st BQ=wpE Γ a ρ st fun x st1=>unW k x st1 fun v st2=>∃c,v=.bl c/\BQ c st2:=rfl
theorem EO:wpT Γ (.tmp a) ρ st BQ=wpE Γ a ρ st fun v st1=>Tmp st (fun v st1=>e7 v st1 BQ) v st1:=rfl
theorem Ji:wpT Γ (.ix a b) ρ st BQ=wpE Γ a ρ st fun x st1=>wpE Γ b ρ st1 fun y st2=>ixW x y st2 fun v st3=>e7 v st3 BQ:=rfl
theorem zU:qO Γ (.cons e .nil) ρ st Q=wpE Γ e ρ st Q:=rfl
theorem wI:qO Γ (.cons e (.cons e2 es)) ρ st Q=wpE Γ e ρ st fun x st1=>∃c,x=.bl c/\if c=true then qO Γ (.cons e2 es) ρ st1 Q else Q (.bl false) st1:=rfl
theorem yP:pX Γ (.cons e .nil) ρ st Q=wpE Γ e ρ st Q:=rfl
theorem vP:pX Γ (.cons e (.cons e2 es)) ρ st Q=wpE Γ e ρ st fun x st1=>∃c,x=.bl c/\if c=true then Q (.bl true) st1 else pX Γ (.cons e2 es) ρ st1 Q:=rfl
theorem mF:fG Γ .nil ρ st BQ=BQ true st:=rfl
theorem zW:fG Γ (.cons e .nil) ρ st BQ=wpT Γ e ρ st BQ:=rfl
theorem vI:fG Γ (.cons e (.cons e2 es)) ρ st BQ=wpT Γ e ρ st fun c st1=>if c=true then fG Γ (.cons e2 es) ρ st1 BQ else BQ false st1:=rfl
theorem Ao:pG Γ (.cons e .nil) ρ st BQ=wpT Γ e ρ st BQ:=rfl
theorem wG:pG Γ (.cons e (.cons e2 es)) ρ st BQ=wpT Γ e ρ st fun c st1=>if c=true then BQ true st1 else pG Γ (.cons e2 es) ρ st1 BQ:=rfl
theorem yi:iP Γ (.seq e) ρ st IQ=wpE Γ e ρ st fun x st1=>∃xs,a7 st1 x=some xs/\IQ xs (gM st1 x) st1:=rfl
theorem EE:iP Γ (.range1 a) ρ st IQ=wpE Γ a ρ st fun x st1=>∃j,x=.int j/\-(2 ^ 62)<=j/\j<2 ^ 62/\IQ (bb 0 j.toNat) (fun _=>True) st1:=rfl
theorem yg:iP Γ (.zip a b) ρ st IQ=wpE Γ a ρ st fun x st1=>wpE Γ b ρ st1 fun y st2=>∃xs ys,a7 st2 x=some xs/\a7 st2 y=some ys/\IQ (fX xs ys) (fun st'=>gM st2 x st'/\gM st2 y st') st2:=rfl
theorem r_:iP Γ (.chars a) ρ st IQ=wpE Γ a ρ st fun x st1=>∃z,x=.str z/\IQ (ee z) (fun _=>True) st1:=rfl
theorem E9:iP Γ (.range3 a b c) ρ st IQ=wpE Γ a ρ st fun x st1=>wpE Γ b ρ st1 fun y st2=>wpE Γ c ρ st2 fun u st3=>∃i j k,x=.int i/\y=.int j/\u=.int k/\(-(2 ^ 62)<=i/\i<2 ^ 62/\-(2 ^ 62)<=j/\j<2 ^ 62/\0<k/\k<2 ^ 62)/\IQ (jH i k (rSz i j k)) (fun _=>True) st3:=rfl
theorem dr:bD Γ (.name i) v ρ st FQ=FQ (ρ.set i (some v)) st:=rfl
theorem mn {ts:Tgs}:bD Γ (.tup ts) v ρ st FQ=∃xs,v=.tup xs/\xs.length=ts.size/\gK Γ ts xs ρ st FQ:=rfl
theorem mW:bD Γ (.sub a b) v ρ st FQ=wpE Γ a ρ st fun x st1=>wpE Γ b ρ st1 fun y st2=>qd x y v st2 fun st3=>FQ ρ st3:=rfl
theorem vT:gK Γ .nil vs ρ st FQ=(vs=[]/\FQ ρ st):=rfl
theorem tG:gK Γ (.cons t ts) vs ρ st FQ=∃v r,vs=v::r/\bD Γ t v ρ st fun ρ' st'=>gK Γ ts r ρ' st' FQ:=rfl
theorem An:Tgs.size .nil=0:=id rfl
theorem vF {ts:Tgs}:Tgs.size (.cons t ts)=ts.size+1:=id rfl
end
end FW
namespace FW
open PySem L2 HX
theorem r9 {k k':Bool->Prop}(h:∀b,k b->k' b)(q:eqW st x y k):eqW st x y k':=by
 unfold eqW at q |-
 split at q
 ·exact h _ q
 ·exact h _ q
 ·exact h _ q
 ·obtain⟨d,e,h1,h2,h3,h4,q⟩:=q;exact⟨d,e,h1,h2,h3,h4,h _ q⟩
theorem oF {st:AH}{Q':EK}(h:∀v st,Q v st->Q' v st)(q:i7 op x y st Q):i7 op x y st Q':=by
 cases op with
 | Add =>
  cases x with
  | int i =>
   cases y with
   | int j=>exact h _ _ q
   | _=>exact False.elim q
  | ref n =>
   cases y with
   | ref k=>obtain⟨xs,ys,h1,h2,h3,q⟩:=q;exact⟨xs,ys,h1,h2,h3,h _ _ q⟩
   | _=>exact False.elim q
  | tup xs =>
   cases y with
   | tup ys=>exact⟨q.1,h _ _ q.2⟩
   | _=>exact False.elim q
  | str a =>
   cases y with
   | str b=>exact⟨q.1,h _ _ q.2⟩
   | _=>exact False.elim q
  | _=>exact False.elim q
 | Mult =>
  cases x with
  | int i =>
   cases y with
   | int j=>exact⟨q.1,h _ _ q.2⟩
   | _=>exact False.elim q
  | _=>exact False.elim q
 | Sub=>obtain⟨i,j,rfl,rfl,q⟩:=bw q;exact h _ _ q
 | FloorDiv=>obtain⟨i,j,rfl,rfl,q⟩:=bw q;exact⟨q.1,h _ _ q.2⟩
 | Mod=>obtain⟨i,j,rfl,rfl,q⟩:=bw q;exact⟨q.1,h _ _ q.2⟩
 | Pow=>obtain⟨i,j,rfl,rfl,q⟩:=bw q;exact⟨q.1,h _ _ q.2⟩
 | _=>exact False.elim q
theorem sk {k k':Bool->Prop}(h:∀b,k b->k' b)(q:inR a n st k):inR a n st k':=q.elim (fun ⟨ns,e,q⟩=>.inl ⟨ns,e,h _ q⟩) False.elim
theorem gR {st:AH}{Q':EK}(h:∀v st,Q v st->Q' v st)(q:di op x y st Q):di op x y st Q':=by
 unfold di at q |-
 split at q
 ·exact r9 (fun _=>h _ _) q
 ·exact r9 (fun _=>h _ _) q
 ·split at q <;> first|exact h _ _ q|exact q
 ·split at q <;> first|exact h _ _ q|exact q
 ·split at q <;> first|exact h _ _ q|exact q
 ·exact q
 ·split at q <;> first|exact h _ _ q|exact q
 ·split at q <;> first|exact h _ _ q|exact q
 ·split at q <;> first|exact h _ _ q|(obtain⟨ns,e,q⟩:=q;exact⟨ns,e,h _ _ q⟩)|exact⟨q.1,h _ _ q.2⟩|exact sk (fun _=>h _ _) q|exact q
 ·split at q <;> first|exact h _ _ q|(obtain⟨ns,e,q⟩:=q;exact⟨ns,e,h _ _ q⟩)|exact sk (fun _=>h _ _) q|exact q
theorem jv {st:AH}{Q':EK}(h:∀v st,Q v st->Q' v st)(q:ixW x y st Q):ixW x y st Q':=by
 cases y with
 | int i =>
  rcases vS q with⟨z,c,rfl,h1,h2,q⟩|⟨xs,v,h1,h2,q⟩
  ·exact⟨h1,c,h2,h _ _ q⟩
  ·exact B2 h1 h2 (h _ _ q)
 | str z=>obtain⟨n,kvs,v,rfl,h1,h2,q⟩:=vO q;exact⟨kvs,v,h1,h2,h _ _ q⟩
 | _=>exact q
theorem tJ {st:AH}{Q':EK}(h:∀v st,Q v st->Q' v st)(q:slW x lo hi st Q):slW x lo hi st Q':=by
 cases x with
 | tup xs=>exact h _ _ q
 | str z=>exact⟨q.1,h _ _ q.2⟩
 | _=>obtain⟨xs,e,q⟩:=q;exact⟨xs,e,h _ _ q⟩
theorem zg {st:AH}{Q':EK}(h:∀v st,Q v st->Q' v st)(q:smW k x y st Q):smW k x y st Q':=by
 cases x with
 | str z =>
  cases k with
  | join=>obtain⟨ss,h2,h3,q⟩:=q;exact⟨ss,h2,h3,h _ _ q⟩
  | split =>
   cases y with
   | str w=>obtain⟨h1,h2,h3,q⟩:=q;exact⟨h1,h2,h3,h _ _ q⟩
   | _=>exact False.elim q
  | endsw =>
   cases y with
   | str w=>exact h _ _ q
   | _=>exact False.elim q
 | _=>exact False.elim q
theorem sx {st:AH}{Q':EK}(h:∀v st,Q v st->Q' v st)(q:unW k x st Q):unW k x st Q':=by
 cases k with
 | sI=>obtain⟨n,kvs,ps,h1,h2,h3,h4,q⟩:=q;exact⟨n,kvs,ps,h1,h2,h3,h4,fun qs a b=>h _ _ (q qs a b)⟩
theorem uD {st:AH}{Q':EK}(h:∀v st,Q v st->Q' v st)(q:ph st Q x):ph st Q' x:=by
 cases x with
 | non=>exact h _ _ q
 | bl b=>exact h _ _ q
 | int i=>exact⟨q.1,h _ _ q.2⟩
 | str z=>exact⟨q.1,h _ _ q.2⟩
 | _=>obtain⟨d,h1,h2,q⟩:=q;exact⟨d,h1,h2,h _ _ q⟩
theorem gW {st:AH}{Q':EK}(h:∀v st,Q v st->Q' v st)(q:cw b vs st Q):cw b vs st Q':=by
 cases b with
 | len =>
  obtain⟨x,rfl,q⟩:=aE q;rcases tR q with⟨z,rfl,h1,q⟩|⟨xs,e,q⟩
  ·exact⟨h1,h _ _ q⟩
  ·exact AN e (h _ _ q)
 | max2=>obtain⟨x,y,rfl,q⟩:=cS q;obtain⟨i,j,rfl,rfl,q⟩:=bw q;exact h _ _ q
 | min2=>obtain⟨x,y,rfl,q⟩:=cS q;obtain⟨i,j,rfl,rfl,q⟩:=bw q;exact h _ _ q
 | divmod=>obtain⟨x,y,rfl,q⟩:=cS q;obtain⟨i,j,rfl,rfl,q⟩:=bw q;exact⟨q.1,h _ _ q.2⟩
 | int1 =>
  obtain⟨x,rfl,q⟩:=aE q;rcases o5 q with⟨b,rfl,q⟩|⟨z,n,rfl,h1,h2,q⟩
  ·exact h _ _ q
  ·exact⟨h1,n,h2,h _ _ q⟩
 | str1=>obtain⟨x,rfl,q⟩:=aE q;obtain⟨i,rfl,q⟩:=lg q;exact⟨q.1,h _ _ q.2⟩
 | tuple1=>obtain⟨x,rfl,xs,h1,q⟩:=aE q;exact⟨xs,h1,h _ _ q⟩
 | list1=>obtain⟨x,rfl,xs,h1,q⟩:=aE q;exact⟨xs,h1,h _ _ q⟩
 | repr2=>obtain⟨x,rfl,q⟩:=aE q;exact uD h q
 | all1=>obtain⟨x,rfl,xs,bs,h1,h2,q⟩:=aE q;exact⟨xs,bs,h1,h2,h _ _ q⟩
 | any1=>obtain⟨x,rfl,xs,bs,h1,h2,q⟩:=aE q;exact⟨xs,bs,h1,h2,h _ _ q⟩
 | abs1=>exact False.elim q
 | sortS=>obtain⟨x,rfl,xs,h1,h2,q⟩:=aE q;exact⟨xs,h1,h2,fun z p s=>h _ _ (q z p s)⟩
 | sortD=>obtain⟨x,rfl,n,e,kvs,h1,ss,h2,h3,q⟩:=aE q;exact⟨n,e,kvs,h1,ss,h2,h3,fun z p s=>h _ _ (q z p s)⟩
 | max1=>exact False.elim q
 | sorted1=>exact False.elim q
 | repr1=>exact False.elim q
theorem h_ {st:AH}{Q':EK}(h:∀v st,Q v st->Q' v st)(q:rZ m x vs st Q):rZ m x vs st Q':=by
 cases m with
 | append=>obtain⟨n,rfl,q⟩:=lr q;obtain⟨v,rfl,xs,h1,h2,q⟩:=aE q;exact⟨xs,h1,h2,h _ _ q⟩
 | pop0=>exact False.elim q
 | extend=>exact False.elim q
 | insert=>obtain⟨n,rfl,q⟩:=lr q;obtain⟨i,v,rfl,q⟩:=cS q;obtain⟨k,rfl,xs,h1,h2,h3,h4,q⟩:=lg q;exact⟨xs,h1,h2,h3,h4,h _ _ q⟩
 | count=>exact False.elim q
 | index=>exact False.elim q
 | popI=>exact False.elim q
theorem bt {st:AH}{Q':BK}(h:∀v st,Q v st->Q' v st)(q:e7 x st Q):e7 x st Q':=by
 unfold e7 at q |-
 split at q <;> first
  | exact h _ _ q
  | exact q.elim
  | (obtain⟨xs,h1,q⟩:=q;exact⟨xs,h1,h _ _ q⟩)
theorem oz {st:AH}{k k':AH->Prop}(h:∀st,k st->k' st)(q:qd o i v st k):qd o i v st k':=by
 unfold qd at q |-
 split at q
 ·obtain⟨xs,h1,j,h2,q⟩:=q;exact⟨xs,h1,j,h2,h _ q⟩
 ·obtain⟨xs,h1,h2,q⟩:=q;exact⟨xs,h1,h2,h _ q⟩
 ·exact q
theorem rN {Q':EK}(h:∀v st,Q v st->Q' v st)(q:Tmp st0 Q v st):Tmp st0 Q' v st:=by obtain⟨st1,g,h1,h2,h3,h4,q⟩:=q;exact⟨st1,g,h1,h2,h3,h4,h _ _ q⟩
theorem cH {body body':PV->AH->(Option PV->AH->Prop)->Prop}(hb:∀x st k k',(∀o st,k o st->k' o st)->body x st k->body' x st k') :
  ∀ {xs acc:List PV}{st:AH}{Q Q':LK},(∀v st,Q v st->Q' v st)->cA chk body xs acc st Q->cA chk body' xs acc st Q'
 | [],acc,st,Q,Q',h,q=>⟨q.1,h _ _ q.2⟩
 | x::xs,acc,st,Q,Q',h,q=>⟨q.1,hb _ _ _ _ (fun o st' z=>cH hb h z) q.2⟩
section
variable {Γ:Nat->FSp}
def bc (Γ:Nat->FSp):Prop:=∀f vs st Q Q',(∀v st,Q v st->Q' v st)->Γ f vs st Q->Γ f vs st Q'
mutual
theorem aa (G:bc Γ):∀(e:E) {ρ:Fr}{st:AH}{Q Q':EK},(∀v st,Q v st->Q' v st)->wpE Γ e ρ st Q->wpE Γ e ρ st Q'
 | .var i,ρ,st,Q,Q',h,q=>by obtain⟨v,e,z⟩:=jf q;exact pO e (h _ _ z)
 | .int i,ρ,st,Q,Q',h,q=>by exact h _ _ q
 | .bl i,ρ,st,Q,Q',h,q=>by exact h _ _ q
 | .non,ρ,st,Q,Q',h,q=>by exact h _ _ q
 | .str i,ρ,st,Q,Q',h,q=>by exact h _ _ q
 | .gv _ i,ρ,st,Q,Q',h,q=>by exact h _ _ q
 | .tup es,ρ,st,Q,Q',h,q=>by exact aH G es (fun vs st1 z=>⟨z.1,h _ _ z.2⟩) q
 | .lst es,ρ,st,Q,Q',h,q=>by exact aH G es (fun vs st1 z=>⟨z.1,h _ _ z.2⟩) q
 | .dct0,ρ,st,Q,Q',h,q=>by exact h _ _ q
 | .bad,ρ,st,Q,Q',h,q=>False.elim q
 | .jrev a,ρ,st,Q,Q',h,q=>by refine aa G a (fun x st1 z=>?_) q;obtain⟨n,w,e,h1,h2,z⟩:=z;exact⟨n,w,e,h1,h2,h _ _ z⟩
 | .dget _ _,ρ,st,Q,Q',h,q=>False.elim q
 | .smx k a b,ρ,st,Q,Q',h,q=>by exact aa G a (fun x st1 z=>⟨z.1,aa G b (fun y st2 z=>zg h z) z.2⟩) q
 | .dcp _,ρ,st,Q,Q',h,q=>False.elim q
 | .clr _,ρ,st,Q,Q',h,q=>False.elim q
 | .sset _,ρ,st,Q,Q',h,q=>False.elim q
 | .part a y,ρ,st,Q,Q',h,q=>by refine aa G a (fun x st1 z=>?_) q;obtain⟨w,e,h1,z⟩:=z;exact⟨w,e,h1,h _ _ z⟩
 | .pcall _ _,ρ,st,Q,Q',h,q=>False.elim q
 | .hm _ _ _,ρ,st,Q,Q',h,q=>False.elim q
 | .dct1 _ _,ρ,st,Q,Q',h,q=>False.elim q
 | .bin op a b,ρ,st,Q,Q',h,q=>by exact aa G a (fun x st1 z=>aa G b (fun y st2 z=>oF h z) z) q
 | .neg a,ρ,st,Q,Q',h,q=>by
  skip
  refine aa G a (fun x st1 z=>?_) q;obtain⟨i,e,z⟩:=z;exact⟨i,e,h _ _ z⟩
 | .not a,ρ,st,Q,Q',h,q=>by
  skip
  refine aa G a (fun x st1 z=>?_) q;obtain⟨i,e,z⟩:=z;exact⟨i,e,h _ _ z⟩
 | .cmp op a b,ρ,st,Q,Q',h,q=>by exact aa G a (fun x st1 z=>aa G b (fun y st2 z=>gR h z) z) q
 | .bop true es,ρ,st,Q,Q',h,q=>by exact j6 G es h q
 | .bop false es,ρ,st,Q,Q',h,q=>by exact j7 G es h q
 | .ite c a b,ρ,st,Q,Q',h,q=>by
  skip
  refine aT G c (fun k st1 z=>?_) q;cases k with
  | true=>rw[KZ rfl] at z |-;exact aa G a h z
  | false=>rw[KS KD] at z |-;exact aa G b h z
 | .ix a b,ρ,st,Q,Q',h,q=>by exact aa G a (fun x st1 z=>aa G b (fun y st2 z=>jv h z) z) q
 | .sl a lo hi,ρ,st,Q,Q',h,q=>by exact aa G a (fun x st1 z=>jA G lo (fun l st2 z=>jA G hi (fun u st3 z=>tJ h z) z) z) q
 | .call f es,ρ,st,Q,Q',h,q=>by exact aH G es (fun vs st1 z=>G _ _ _ _ _ h z) q
 | .blt b es,ρ,st,Q,Q',h,q=>by exact aH G es (fun vs st1 z=>gW h z) q
 | .inst a t,ρ,st,Q,Q',h,q=>by
  skip
  refine aa G a (fun x st1 z=>?_) q;obtain⟨i,e,z⟩:=z;exact⟨i,e,h _ _ z⟩
 | .met m o es,ρ,st,Q,Q',h,q=>by exact aa G o (fun x st1 z=>⟨z.1,aH G es (fun vs st2 z=>h_ h z) z.2⟩) q
 | .comp elt tg it ifs nt caps,ρ,st,Q,Q',h,q=>by
  skip
  exact fo G it (fun xs chk st1 z=>⟨z.1,cH (fun x st k k' hk w=>aO G tg (fun ρ' st3 w=>br G ifs (fun c st4 w=>by
   cases c with
   | true=>rw[KZ rfl] at w |-;exact aa G elt (fun v st5 w=>hk _ _ w) w
   | false=>rw[KS KD] at w |-;exact hk _ _ w) w) w) (fun vs st2 w=>h _ _ w) z.2⟩) q
 | .tmp a,ρ,st,Q,Q',h,q=>by exact aa G a (fun v st1 z=>rN h z) q
 | .un k a,ρ,st,Q,Q',h,q=>by exact aa G a (fun v st1 z=>sx h z) q
 | .compK elt tg wk e ifs nt caps,ρ,st,Q,Q',h,q=>by
  skip
  refine aa G e (fun x st1 z=>?_) q;obtain⟨n,ex,kvs,e1,e2,z⟩:=z;exact⟨n,ex,kvs,e1,e2,cH (fun x st k k' hk w=>aO G tg (fun ρ' st3 w=>br G ifs (fun c st4 w=>by
   cases c with
   | true=>rw[KZ rfl] at w |-;exact aa G elt (fun v st5 w=>hk _ _ w) w
   | false=>rw[KS KD] at w |-;exact hk _ _ w) w) w) (fun vs st2 w=>⟨w.1,h _ _ w.2⟩) z⟩
 | .compD _ _ _ _ _ _ _ _,ρ,st,Q,Q',h,q=>False.elim q
 | .dct2 _ _,ρ,st,Q,Q',h,q=>False.elim q
 | .dcl _,ρ,st,Q,Q',h,q=>False.elim q
theorem aH (G:bc Γ):∀(e:Es) {ρ:Fr}{st:AH}{Q Q':LK},(∀v st,Q v st->Q' v st)->cb Γ e ρ st Q->cb Γ e ρ st Q'
 | .nil,ρ,st,Q,Q',h,q=>by exact h _ _ q
 | .cons e es,ρ,st,Q,Q',h,q=>by exact aa G e (fun x st1 z=>aH G es (fun xs st2 z=>h _ _ z) z) q
theorem jA (G:bc Γ):∀(e:O) {ρ:Fr}{st:AH}{Q Q':Option Int->AH->Prop},(∀v st,Q v st->Q' v st)->wpO Γ e ρ st Q->wpO Γ e ρ st Q'
 | .no,ρ,st,Q,Q',h,q=>by exact h _ _ q
 | .yes e,ρ,st,Q,Q',h,q=>by
  skip
  refine aa G e (fun x st1 z=>?_) q;obtain⟨i,e,z⟩:=z;exact⟨i,e,h _ _ z⟩
theorem aT (G:bc Γ):∀(e:E) {ρ:Fr}{st:AH}{Q Q':BK},(∀v st,Q v st->Q' v st)->wpT Γ e ρ st Q->wpT Γ e ρ st Q'
 | .bop true es,ρ,st,Q,Q',h,q=>by exact br G es h q
 | .bop false es,ρ,st,Q,Q',h,q=>by exact jL G es h q
 | .not a,ρ,st,Q,Q',h,q=>by exact aT G a (fun c st1 z=>h _ _ z) q
 | .cmp op a b,ρ,st,Q,Q',h,q=>by
  skip
  exact aa G a (fun x st1 z=>aa G b (fun y st2 z=>gR (fun v st3 w=>by obtain⟨c,e,w⟩:=w;exact⟨c,e,h _ _ w⟩) z) z) q
 | .var i,ρ,st,Q,Q',h,q=>by obtain⟨v,e,z⟩:=jf q;exact pO e (bt h z)
 | .call f es,ρ,st,Q,Q',h,q=>by exact aH G es (fun vs st1 z=>G _ _ _ _ _ (fun v st2 z=>bt h z) z) q
 | .blt b es,ρ,st,Q,Q',h,q=>by exact aH G es (fun vs st1 z=>gW (fun v st2 z=>bt h z) z) q
 | .inst a t,ρ,st,Q,Q',h,q=>by
  skip
  refine aa G a (fun x st1 z=>?_) q;obtain⟨i,e,z⟩:=z;exact⟨i,e,h _ _ z⟩
 | .tmp a,ρ,st,Q,Q',h,q=>by exact aa G a (fun v st1 z=>rN (fun v st2 z=>bt h z) z) q
 | .ix a b,ρ,st,Q,Q',h,q=>by exact aa G a (fun x st1 z=>aa G b (fun y st2 z=>jv (fun v st3 z=>bt h z) z) z) q
 | .pcall _ _,ρ,st,Q,Q',h,q=>False.elim q
 | .un k a,ρ,st,Q,Q',h,q=>by exact aa G a (fun v st1 z=>sx (fun v st2 w=>let ⟨c,e,w⟩:=w;⟨c,e,h _ _ w⟩) z) q
 | .compK _ _ _ _ _ _ _,ρ,st,Q,Q',h,q=>False.elim q
 | .compD _ _ _ _ _ _ _ _,ρ,st,Q,Q',h,q=>False.elim q
 | .dcl _,ρ,st,Q,Q',h,q=>False.elim q
 | .dct2 _ _,ρ,st,Q,Q',h,q=>False.elim q
 | .hm _ _ _,ρ,st,Q,Q',h,q=>False.elim q
 | .int _,ρ,st,Q,Q',h,q=>False.elim q
 | .bl _,ρ,st,Q,Q',h,q=>False.elim q
 | .non,ρ,st,Q,Q',h,q=>False.elim q
 | .str _,ρ,st,Q,Q',h,q=>False.elim q
 | .gv _ _,ρ,st,Q,Q',h,q=>False.elim q
 | .tup _,ρ,st,Q,Q',h,q=>False.elim q
 | .lst _,ρ,st,Q,Q',h,q=>False.elim q
 | .dct0,ρ,st,Q,Q',h,q=>False.elim q
 | .bad,ρ,st,Q,Q',h,q=>False.elim q
 | .jrev _,ρ,st,Q,Q',h,q=>False.elim q
 | .dcp _,ρ,st,Q,Q',h,q=>False.elim q
 | .smx _ _ _,ρ,st,Q,Q',h,q=>False.elim q
 | .dget _ _,ρ,st,Q,Q',h,q=>False.elim q
 | .clr _,ρ,st,Q,Q',h,q=>False.elim q
 | .sset _,ρ,st,Q,Q',h,q=>False.elim q
 | .part _ _,ρ,st,Q,Q',h,q=>False.elim q
 | .dct1 _ _,ρ,st,Q,Q',h,q=>False.elim q
 | .bin _ _ _,ρ,st,Q,Q',h,q=>False.elim q
 | .neg _,ρ,st,Q,Q',h,q=>False.elim q
 | .ite _ _ _,ρ,st,Q,Q',h,q=>False.elim q
 | .sl _ _ _,ρ,st,Q,Q',h,q=>False.elim q
 | .met _ _ _,ρ,st,Q,Q',h,q=>False.elim q
 | .comp _ _ _ _ _ _,ρ,st,Q,Q',h,q=>False.elim q
theorem j6 (G:bc Γ):∀(e:Es) {ρ:Fr}{st:AH}{Q Q':EK},(∀v st,Q v st->Q' v st)->qO Γ e ρ st Q->qO Γ e ρ st Q'
 | .nil,ρ,st,Q,Q',h,q=>False.elim q
 | .cons e .nil,ρ,st,Q,Q',h,q=>by exact aa G e h q
 | .cons e (.cons e2 es),ρ,st,Q,Q',h,q=>by
  skip
  refine aa G e (fun x st1 z=>?_) q;obtain⟨c,e,z⟩:=z;refine⟨c,e,?_⟩;cases c with
  | true=>rw[KZ rfl] at z |-;exact j6 G (.cons e2 es) h z
  | false=>rw[KS KD] at z |-;exact h _ _ z
theorem j7 (G:bc Γ):∀(e:Es) {ρ:Fr}{st:AH}{Q Q':EK},(∀v st,Q v st->Q' v st)->pX Γ e ρ st Q->pX Γ e ρ st Q'
 | .nil,ρ,st,Q,Q',h,q=>False.elim q
 | .cons e .nil,ρ,st,Q,Q',h,q=>by exact aa G e h q
 | .cons e (.cons e2 es),ρ,st,Q,Q',h,q=>by
  skip
  refine aa G e (fun x st1 z=>?_) q;obtain⟨c,e,z⟩:=z;refine⟨c,e,?_⟩;cases c with
  | true=>rw[KZ rfl] at z |-;exact h _ _ z
  | false=>rw[KS KD] at z |-;exact j7 G (.cons e2 es) h z
theorem br (G:bc Γ):∀(e:Es) {ρ:Fr}{st:AH}{Q Q':BK},(∀v st,Q v st->Q' v st)->fG Γ e ρ st Q->fG Γ e ρ st Q'
 | .nil,ρ,st,Q,Q',h,q=>by exact h _ _ q
 | .cons e .nil,ρ,st,Q,Q',h,q=>by exact aT G e h q
 | .cons e (.cons e2 es),ρ,st,Q,Q',h,q=>by
  skip
  refine aT G e (fun c st1 z=>?_) q;cases c with
  | true=>rw[KZ rfl] at z |-;exact br G (.cons e2 es) h z
  | false=>rw[KS KD] at z |-;exact h _ _ z
theorem jL (G:bc Γ):∀(e:Es) {ρ:Fr}{st:AH}{Q Q':BK},(∀v st,Q v st->Q' v st)->pG Γ e ρ st Q->pG Γ e ρ st Q'
 | .nil,ρ,st,Q,Q',h,q=>by exact h _ _ q
 | .cons e .nil,ρ,st,Q,Q',h,q=>by exact aT G e h q
 | .cons e (.cons e2 es),ρ,st,Q,Q',h,q=>by
  skip
  refine aT G e (fun c st1 z=>?_) q;cases c with
  | true=>rw[KZ rfl] at z |-;exact h _ _ z
  | false=>rw[KS KD] at z |-;exact jL G (.cons e2 es) h z
theorem fo (G:bc Γ):∀(e:It) {ρ:Fr}{st:AH}{Q Q':List PV->(AH->Prop)->AH->Prop},(∀v c st,Q v c st->Q' v c st)->iP Γ e ρ st Q->iP Γ e ρ st Q'
 | .seq a,ρ,st,Q,Q',h,q=>by
  skip
  refine aa G a (fun x st1 z=>?_) q;obtain⟨c,e,z⟩:=z;exact⟨c,e,h _ _ _ z⟩
 | .range1 a,ρ,st,Q,Q',h,q=>by
  skip
  refine aa G a (fun x st1 z=>?_) q;obtain⟨c,e,h1,h2,z⟩:=z;exact⟨c,e,h1,h2,h _ _ _ z⟩
 | .range2 _ _,ρ,st,Q,Q',h,q=>False.elim q
 | .zip a b,ρ,st,Q,Q',h,q=>by
  skip
  refine aa G a (fun x st1 z=>aa G b (fun y st2 z=>?_) z) q;obtain⟨i,j,e,e2,z⟩:=z;exact⟨i,j,e,e2,h _ _ _ z⟩
 | .enum _,ρ,st,Q,Q',h,q=>False.elim q
 | .chars a,ρ,st,Q,Q',h,q=>by refine aa G a (fun x st1 z=>?_) q;obtain⟨c,e,z⟩:=z;exact⟨c,e,h _ _ _ z⟩
 | .zip3 _ _ _,ρ,st,Q,Q',h,q=>False.elim q
 | .range3 a b c,ρ,st,Q,Q',h,q=>by refine aa G a (fun x st1 z=>aa G b (fun y st2 z=>aa G c (fun u st3 z=>?_) z) z) q;obtain⟨i,j,k,e,e2,e3,h1,z⟩:=z;exact⟨i,j,k,e,e2,e3,h1,h _ _ _ z⟩
theorem aO (G:bc Γ):∀(t:Tg) {v:PV}{ρ:Fr}{st:AH}{Q Q':Fr->AH->Prop},(∀ρ st,Q ρ st->Q' ρ st)->bD Γ t v ρ st Q->bD Γ t v ρ st Q'
 | .name i,v,ρ,st,Q,Q',h,q=>by exact h _ _ q
 | .tup ts,v,ρ,st,Q,Q',h,q=>by
  skip
  obtain⟨xs,e,hl,q⟩:=q;exact⟨xs,e,hl,fP G ts h q⟩
 | .ltup ts,v,ρ,st,Q,Q',h,q=>False.elim q
 | .sub o i,v,ρ,st,Q,Q',h,q=>by exact aa G o (fun x st1 z=>aa G i (fun y st2 z=>oz (fun st3 z=>h _ _ z) z) z) q
theorem fP (G:bc Γ):∀(t:Tgs) {v:List PV}{ρ:Fr}{st:AH}{Q Q':Fr->AH->Prop},(∀ρ st,Q ρ st->Q' ρ st)->gK Γ t v ρ st Q->gK Γ t v ρ st Q'
 | .nil,v,ρ,st,Q,Q',h,q=>by exact⟨q.1,h _ _ q.2⟩
 | .cons t ts,v,ρ,st,Q,Q',h,q=>by
  skip
  obtain⟨x,r,e,q⟩:=q;exact⟨x,r,e,aO G t (fun ρ' st' z=>fP G ts h z) q⟩
end
structure je (D D':aX):Prop where
 nx:∀ρ st,D.nx ρ st->D'.nx ρ st
 rt:∀v st,D.rt v st->D'.rt v st
 bk:∀ρ st,D.bk ρ st->D'.bk ρ st
 ct:∀ρ st,D.ct ρ st->D'.ct ρ st
theorem hU {body body':PV->Fr->AH->aX->Prop}{D:aX}(hD:je D D')(hb:∀x ρ st D D',je D D'->body x ρ st D->body' x ρ st D') :
  ∀ {xs:List PV}{ρ:Fr}{st:AH},k6 chk body D xs ρ st->k6 chk body' D' xs ρ st
 | [],ρ,st,q=>⟨q.1,hD.nx _ _ q.2⟩
 | x::xs,ρ,st,q=>by refine⟨q.1,hb _ _ _ _ _ ?_ q.2⟩;exact⟨fun _ _ z=>hU hD hb z,hD.rt,hD.nx,fun _ _ z=>hU hD hb z⟩
theorem gh {c:Fr->AH->BK->Prop}{body:Fr->AH->aX->Prop}{D:aX}(hD:je D D')(hc:∀ρ st Q Q',(∀b st,Q b st->Q' b st)->c ρ st Q->c ρ st Q')(hb:∀ρ st D D',je D D'->body ρ st D->body ρ st D'):∀ {n:Nat}{ρ:Fr}{st:AH},dX c body D n ρ st->dX c body D' n ρ st
 | 0,ρ,st,q=>q
 | n+1,ρ,st,q=>hc _ _ _ _ (fun b st1 z=>by
  cases b with
  | true =>
   rw[KZ rfl] at z |-
   refine hb _ _ _ _ ?_ z;exact⟨fun _ _ z=>gh hD hc hb z,hD.rt,hD.nx,fun _ _ z=>gh hD hc hb z⟩
  | false=>rw[KS KD] at z |-;exact hD.nx _ _ z) q
theorem o_ {st:AH}{Q':EK}(h:∀v st,Q v st->Q' v st)(q:mz op x y st Q):mz op x y st Q':=by
 unfold mz at q |-
 split at q
 ·exact h _ _ q
 ·exact h _ _ q
 ·obtain⟨xs,ys,h1,h2,h3,q⟩:=q;exact⟨xs,ys,h1,h2,h3,h _ _ q⟩
 ·exact q
mutual
theorem c5 (G:bc Γ):∀(s:S) {ρ:Fr}{st:AH}{D D':aX},je D D'->wpS Γ s ρ st D->wpS Γ s ρ st D'
 | .set t e,ρ,st,D,D',h,q=>by exact aa G e (fun v st1 z=>aO G t h.nx z) q
 | .par i j a b,ρ,st,D,D',h,q=>by exact aa G a (fun v st1 z=>aa G b (fun w st2 z=>h.nx _ _ z) z) q
 | .aug i op e,ρ,st,D,D',h,q=>by
  skip
  obtain⟨x,h1,q⟩:=q;exact⟨x,h1,aa G e (fun v st1 z=>o_ (fun _ _ z=>h.nx _ _ z) z) q⟩
 | .expr e,ρ,st,D,D',h,q=>by exact aa G e (fun v st1 z=>h.nx _ _ z) q
 | .ret e,ρ,st,D,D',h,q=>by exact aa G e h.rt q
 | .retN,ρ,st,D,D',h,q=>by exact h.rt _ _ q
 | .ifS c a b,ρ,st,D,D',h,q=>by
  skip
  refine aT G c (fun k st1 z=>?_) q;cases k with
  | true=>rw[KZ rfl] at z |-;exact aN G a h z
  | false=>rw[KS KD] at z |-;exact aN G b h z
 | .whileS c b,ρ,st,D,D',h,q=>by
  skip
  obtain⟨n,q⟩:=q;refine⟨n,gh h (c:=wpT Γ c) (body:=aw Γ b) ?_ ?_ q⟩
  ·exact fun _ _ _ _ hk z=>aT G c hk z
  ·exact fun _ _ _ _ hk z=>aN G b hk z
 | .forS t it b,ρ,st,D,D',h,q=>by
  skip
  exact fo G it (fun xs chk st1 z=>hU h (fun x ρ st D D' hd w=>aO G t (fun ρ2 st2 w=>aN G b hd w) w) z) q
 | .forK t wk e b,ρ,st,D,D',h,q=>by
  skip
  refine aa G e (fun x st1 z=>?_) q;obtain⟨n,ex,kvs,e1,z⟩:=z;exact⟨n,ex,kvs,e1,hU (D:=fzD n kvs D) (D':=fzD n kvs D') ⟨fun _ _ z=>⟨z.1,h.nx _ _ z.2⟩,fun _ _ z=>⟨z.1,h.rt _ _ z.2⟩,fun _ _ z=>False.elim z,fun _ _ z=>False.elim z⟩ (fun x ρ st D D' hd w=>aO G t (fun ρ2 st2 w=>aN G b hd w) w) z⟩
 | .pass,ρ,st,D,D',h,q=>by exact h.nx _ _ q
 | .bad,ρ,st,D,D',h,q=>False.elim q
 | .set2 i j e,ρ,st,D,D',h,q=>by exact aa G e (fun v st1 z=>h.nx _ _ z) q
 | .brk,ρ,st,D,D',h,q=>by exact h.bk _ _ q
 | .cont,ρ,st,D,D',h,q=>by exact h.ct _ _ q
theorem aN (G:bc Γ):∀(s:Ss) {ρ:Fr}{st:AH}{D D':aX},je D D'->aw Γ s ρ st D->aw Γ s ρ st D'
 | .nil,ρ,st,D,D',h,q=>by exact h.nx _ _ q
 | .cons s ss,ρ,st,D,D',h,q=>by
  skip
  refine c5 G s ?_ q;exact⟨fun _ _ z=>aN G ss h z,h.rt,h.bk,h.ct⟩
end
end
end FW
namespace FW
open L2 HX
def RdF (K:W.Frag)(H:Hp)(a:Addr)(ys:List V):Prop :=
 (∃o,H a=some (.frz o (.lst ys)))\/∃(o:Obj) (its:Array Value) (n:Nat),K.lookup a=some o/\o.cls=.type "list"/\o.dict=none/\o.data=.seq its n/\its.size<=sizeLine/\Vals ys its.toList
theorem RdF.sq (h:RdF K H a ys):SqL K H a ys:=by
 rcases h with h|h
 ·exact .inl (.inr h)
 ·exact .inr h
mutual
noncomputable def R (K:W.Frag)(m:List Addr)(H:Hp):PV->V->Prop
 | .non,v=>v=.non
 | .bl b,v=>v=.bl b
 | .int i,v=>v=.int i
 | .str x,v=>v=.str x
 | .ref n,v=>∃a,m[n]?=some a/\v=.ref a
 | .tup xs,v=>∃a ys,v=.ref a/\SqT K H a ys/\Rs K m H xs ys
 | .rdl xs,v=>∃a ys,v=.ref a/\RdF K H a ys/\Rs K m H xs ys
 | .fn a,v=>v=.ref a
noncomputable def Rs (K:W.Frag)(m:List Addr)(H:Hp):List PV->List V->Prop
 | [],ys=>ys=[]
 | x::xs,ys=>∃y r,ys=y::r/\R K m H x y/\Rs K m H xs r
end
section
variable {K:W.Frag}{m m':List Addr}{H H':Hp}{v:V}{vs:List V}
theorem R_non:R K m H .non v↔v=.non:=by rw[R]
theorem R_bl:R K m H (.bl b) v↔v=.bl b:=by rw[R]
theorem R_int:R K m H (.int b) v↔v=.int b:=by rw[R]
theorem R_str:R K m H (.str b) v↔v=.str b:=by rw[R]
theorem R_ref:R K m H (.ref n) v↔∃a,m[n]?=some a/\v=.ref a:=by rw[R]
theorem R_tup:R K m H (.tup xs) v↔∃a ys,v=.ref a/\SqT K H a ys/\Rs K m H xs ys:=by rw[R]
theorem eD:R K m H (.rdl xs) v↔∃a ys,v=.ref a/\RdF K H a ys/\Rs K m H xs ys:=by rw[R]
theorem xQ:R K m H (.fn a) v↔v=.ref a:=by rw[R]
theorem Rs_nil:Rs K m H [] vs↔vs=[]:=by rw[Rs]
theorem Rs_cons {x:PV}{xs:List PV}:Rs K m H (x::xs) vs↔∃y r,vs=y::r/\R K m H x y/\Rs K m H xs r:=by rw[Rs]
theorem Rs_cons' {x:PV}{xs:List PV}:Rs K m H (x::xs) (v::vs)↔R K m H x v/\Rs K m H xs vs:=by
 rw[Rs_cons];constructor
 ·rintro⟨_,_,e,h1,h2⟩;cases e;exact⟨h1,h2⟩
 ·rintro⟨h1,h2⟩;exact⟨_,_,rfl,h1,h2⟩
theorem Rs.len:∀ {xs:List PV}{ys:List V},Rs K m H xs ys->xs.length=ys.length
 | [],ys,h=>by rw[Rs_nil] at h;subst h;rfl
 | x::xs,ys,h=>by rw[Rs_cons] at h;obtain⟨y,r,rfl,_,h⟩:=h;simp[Rs.len h]
theorem Rs.get:∀ {xs:List PV}{ys:List V}{i:Nat}{x:PV},Rs K m H xs ys->xs[i]?=some x->∃y,ys[i]?=some y/\R K m H x y
 | [],ys,i,x,h,e=>by simp at e
 | x::xs,ys,i,z,h,e=>by
  rw[Rs_cons] at h;obtain⟨y,r,rfl,h1,h⟩:=h;cases i with
  | zero=>simp at e;subst e;exact⟨y,rfl,h1⟩
  | succ i =>obtain⟨w,e1,e2⟩:=Rs.get h (by simpa using e);exact⟨w,by simpa using e1,e2⟩
theorem Rs.app:∀ {xs zs:List PV}{ys ws:List V},Rs K m H xs ys->Rs K m H zs ws->Rs K m H (xs++zs) (ys++ws)
 | [],zs,ys,ws,h,h'=>by rw[Rs_nil] at h;subst h;exact h'
 | x::xs,zs,ys,ws,h,h'=>by rw[Rs_cons] at h;obtain⟨y,r,rfl,h1,h⟩:=h;rw[List.cons_append,Rs_cons];exact⟨y,r++ws,rfl,h1,h.app h'⟩
theorem Rs.drop:∀ {xs:List PV}{ys:List V} (n:Nat),Rs K m H xs ys->Rs K m H (xs.drop n) (ys.drop n)
 | xs,ys,0,h=>by simpa using h
 | [],ys,n+1,h=>by rw[Rs_nil] at h;subst h;simp[Rs_nil]
 | x::xs,ys,n+1,h=>by rw[Rs_cons] at h;obtain⟨y,r,rfl,h1,h⟩:=h;simpa using Rs.drop n h
theorem Rs.take:∀ {xs:List PV}{ys:List V} (n:Nat),Rs K m H xs ys->Rs K m H (xs.take n) (ys.take n)
 | xs,ys,0,h=>by simp[Rs_nil]
 | [],ys,n+1,h=>by rw[Rs_nil] at h;subst h;simp[Rs_nil]
 | x::xs,ys,n+1,h=>by rw[Rs_cons] at h;obtain⟨y,r,rfl,h1,h⟩:=h;rw[List.take_succ_cons,List.take_succ_cons,Rs_cons'];exact⟨h1,Rs.take n h⟩
theorem Rs.set (hx:R K m H x y):∀ {xs:List PV}{ys:List V} (n:Nat),Rs K m H xs ys->Rs K m H (xs.set n x) (ys.set n y)
 | [],ys,n,h=>by rw[Rs_nil] at h;subst h;simp[Rs_nil]
 | z::xs,ys,0,h=>by rw[Rs_cons] at h;obtain⟨w,r,rfl,h1,h⟩:=h;rw[List.set_cons_zero,List.set_cons_zero,Rs_cons'];exact⟨hx,h⟩
 | z::xs,ys,n+1,h=>by rw[Rs_cons] at h;obtain⟨w,r,rfl,h1,h⟩:=h;rw[List.set_cons_succ,List.set_cons_succ,Rs_cons'];exact⟨h1,Rs.set hx n h⟩
theorem Rs.cut (h:Rs K m H xs ys)(lo hi:Option Int):Rs K m H (iJ xs lo hi) (nu ys lo hi):=by unfold iJ nu;rw[h.len];exact(h.drop _).take _
theorem Rs.atI (h:Rs K m H xs ys)(e:atI xs i=some x):∃y,L2.atI ys i=some y/\R K m H x y:=by
 unfold L2.atI at e |-
 rw[h.len] at e;cases q:ixN ys.length i with
 | none=>rw[q] at e;cases e
 | some j =>rw[q] at e;obtain⟨y,e1,e2⟩:=h.get (show xs[j]?=some x from e);exact⟨y,e1,e2⟩
theorem Rs.one (h:R K m H x y):Rs K m H [x] [y]:=by rw[Rs_cons',Rs_nil];exact⟨h,rfl⟩
end
noncomputable def a_:List Str:=["coming","latest","through"]
def TL (K:W.Frag)(H:Hp):Prop:=∀x∈a_,∀c T,W.tabIn K x=some (c,T)->(∀y∈a_,∀d,W.tabIn K y=some (d,T)->y=x)/\∃ps,H T=some (.tbl ps)/\TriplesOk ps.toList /\
 ∀pos cv,codeAmong pos ps.toList=some cv->∃c' oc,cv=.ref c'/\H c'=some (.frz oc (.own 0))/\F3 oc (x++".<locals>."++"<lambda>")
def TB (K:W.Frag)(H:Hp):Prop:=TL K H/\∃o,H sysModules=some (.frz o (.own 0))
theorem TB.keep {H':Hp}(t:TB K H)(h1:∀a ps,H a=some (.tbl ps)->H' a=some (.tbl ps))(h2:∀a o,H a=some (.frz o (.own 0))->H' a=some (.frz o (.own 0))):TB K H':=⟨fun x hx c T e=>by obtain⟨e0,ps,e1,e2,e3⟩:=t.1 x hx c T e;refine⟨e0,ps,h1 _ _ e1,e2,fun pos cv q=>?_⟩;obtain⟨c',oc,g1,g2,g3⟩:=e3 pos cv q;exact⟨c',oc,g1,h2 _ _ g2,g3⟩,let ⟨o,e⟩:=t.2;⟨o,h2 _ _ e⟩⟩
structure Ext (K:W.Frag)(m:List Addr)(H:Hp)(m':List Addr)(H':Hp):Prop where
 pre:m <+: m'
 new:∀a∈m',a∈m\/H a=none
 fr:∀a o,a ∉ m->H a=some o->(∀ps,o≠.tbl ps)->H' a=some o
 tup:∀a ys,SqT K H a ys->SqT K H' a ys
 rdf:∀a ys,RdF K H a ys->RdF K H' a ys
 tbs:∀a ps,a ∉ m->H a=some (.tbl ps)->∃ps',H' a=some (.tbl ps')
 tb:TB K H->TB K H'
 frz:∀a o u,H a=some (.frz o u)->H' a=some (.frz o u)
theorem Ext.refl (K:W.Frag)(m:List Addr)(H:Hp):Ext K m H m H:=⟨NO _,fun _ h=>.inl h,fun _ _ _ h _=>h,fun _ _ h=>h,fun _ _ h=>h,fun _ ps _ h=>⟨ps,h⟩,fun h=>h,fun _ _ _ h=>h⟩
theorem Ext.ne (x:Ext K m H m' H'){a:Addr}(hm:a ∉ m)(e:H a=some o):H' a≠none:=fun z=>by
 by_cases h:∃ps,o=.tbl ps
 ·obtain⟨ps,rfl⟩:=h;obtain⟨q,e2⟩:=x.tbs a ps hm e;rw[e2] at z;cases z
 ·rw[x.fr a o hm e fun ps q=>h ⟨ps,q⟩] at z;cases z
theorem Ext.trans (a:Ext K m H m1 H1)(b:Ext K m1 H1 m2 H2):Ext K m H m2 H2:=by
 have nin:∀c o,c ∉ m->H c=some o->c ∉ m1:=fun c o h e z=>by
  rcases a.new c z with q|q
  ·exact h q
  ·rw[e] at q;cases q
 refine⟨a.pre.trans b.pre,fun c hc=>?_,fun c o h e n=>b.fr c o (nin c o h e) (a.fr c o h e n) n,fun c ys h=>b.tup c ys (a.tup c ys h),fun c ys h=>b.rdf c ys (a.rdf c ys h),fun c ps h e=>let ⟨p1,e1⟩:=a.tbs c ps h e;b.tbs c p1 (nin c _ h e) e1,fun h=>b.tb (a.tb h),fun c o u h=>b.frz c o u (a.frz c o u h)⟩;rcases b.new c hc with q|q
 ·exact a.new c q
 ·by_cases hm:c∈m
  ·exact .inl hm
  ·cases e:H c with
   | none=>exact .inr rfl
   | some o=>exact absurd q (a.ne hm e)
theorem eB {m:List Addr}(h:m <+: m'){n:Nat}(e:m[n]?=some a):m'[n]?=some a:=by obtain⟨t,rfl⟩:=h;rw[K3 (KR.mp e).1];exact e
mutual
theorem R.mono (x:Ext K m H m' H'):∀ {p:PV}{v:V},R K m H p v->R K m' H' p v
 | .non,v,h=>by rw[R_non] at h |-;exact h
 | .bl b,v,h=>by rw[R_bl] at h |-;exact h
 | .int b,v,h=>by rw[R_int] at h |-;exact h
 | .str b,v,h=>by rw[R_str] at h |-;exact h
 | .ref n,v,h=>by rw[R_ref] at h |-;obtain⟨a,e,q⟩:=h;exact⟨a,eB x.pre e,q⟩
 | .tup xs,v,h=>by rw[R_tup] at h |-;obtain⟨a,ys,e,q,r⟩:=h;exact⟨a,ys,e,x.tup _ _ q,Rs.mono x r⟩
 | .rdl xs,v,h=>by rw[eD] at h |-;obtain⟨a,ys,e,q,r⟩:=h;exact⟨a,ys,e,x.rdf _ _ q,Rs.mono x r⟩
 | .fn b,v,h=>by rw[xQ] at h |-;exact h
theorem Rs.mono (x:Ext K m H m' H'):∀ {ps:List PV}{vs:List V},Rs K m H ps vs->Rs K m' H' ps vs
 | [],vs,h=>by rw[Rs_nil] at h |-;exact h
 | p::ps,vs,h=>by
  rw[Rs_cons] at h |-
  obtain⟨y,r,e,h1,h2⟩:=h;exact⟨y,r,e,R.mono x h1,Rs.mono x h2⟩
end
mutual
theorem R.cut {m:List Addr}:∀ {p:PV}{v:V},R K m H p v->p.bec k=true->R K (m.take k) H p v
 | .non,v,h,_=>by rw[R_non] at h |-;exact h
 | .bl b,v,h,_=>by rw[R_bl] at h |-;exact h
 | .int b,v,h,_=>by rw[R_int] at h |-;exact h
 | .str b,v,h,_=>by rw[R_str] at h |-;exact h
 | .ref n,v,h,z=>by
  rw[R_ref] at h |-
  obtain⟨a,e,q⟩:=h;rw[PV.bec] at z;exact⟨a,by rw[MP (MM z)];exact e,q⟩
 | .tup xs,v,h,z=>by
  rw[R_tup] at h |-
  obtain⟨a,ys,e,q,r⟩:=h;rw[PV.bec] at z;exact⟨a,ys,e,q,Rs.cutm r z⟩
 | .rdl xs,v,h,z=>by
  rw[eD] at h |-
  obtain⟨a,ys,e,q,r⟩:=h;rw[PV.bec] at z;exact⟨a,ys,e,q,Rs.cutm r z⟩
 | .fn b,v,h,_=>by rw[xQ] at h |-;exact h
theorem Rs.cutm {m:List Addr}:∀ {ps:List PV}{vs:List V},Rs K m H ps vs->PV.becs k ps=true->Rs K (m.take k) H ps vs
 | [],vs,h,_=>by rw[Rs_nil] at h |-;exact h
 | p::ps,vs,h,z=>by
  rw[Rs_cons] at h |-
  obtain⟨y,r,e,h1,h2⟩:=h;rw[PV.becs,KW] at z;exact⟨y,r,e,R.cut h1 z.1,Rs.cutm h2 z.2⟩
end
mutual
theorem R.bel {m:List Addr}:∀ {p:PV}{v:V},R K m H p v->p.bec m.length=true
 | .non,v,h=>by rw[PV.bec]
 | .bl b,v,h=>by rw[PV.bec]
 | .int b,v,h=>by rw[PV.bec]
 | .str b,v,h=>by rw[PV.bec]
 | .ref n,v,h=>by rw[R_ref] at h;obtain⟨a,e,q⟩:=h;rw[PV.bec];exact LH (KR.mp e).1
 | .tup xs,v,h=>by rw[R_tup] at h;obtain⟨a,ys,e,q,r⟩:=h;rw[PV.bec];exact Rs.bel r
 | .rdl xs,v,h=>by rw[eD] at h;obtain⟨a,ys,e,q,r⟩:=h;rw[PV.bec];exact Rs.bel r
 | .fn b,v,h=>by rw[PV.bec]
theorem Rs.bel {m:List Addr}:∀ {ps:List PV}{vs:List V},Rs K m H ps vs->PV.becs m.length ps=true
 | [],vs,h=>by rw[PV.becs]
 | p::ps,vs,h=>by rw[Rs_cons] at h;obtain⟨y,r,e,h1,h2⟩:=h;rw[PV.becs,KW];exact⟨R.bel h1,Rs.bel h2⟩
end
def JY (a:Addr)(o:Obj)(ks vs:List V):Prop:=(a == sysModules)=false/\o.ExactDict/\∃es ep,o.data=.dict es ep/\Vals ks (es.toList.map (·.key))/\Vals vs (es.toList.map (·.val))
noncomputable def CellR (K:W.Frag)(m:List Addr)(H:Hp):Cell->Addr->Prop
 | .lst xs,a=>∃ys,H a=some (.lst ys)/\Rs K m H xs ys
 | .dk kvs,a=>∃ys,H a=some (.dK ys)/\ys.map (·.1)=kvs.map (·.1)/\Rs K m H (kvs.map (·.2)) (ys.map (·.2))
 | .fz kvs,a=>∃o ys,H a=some (.frz o (.dK ys))/\ys.map (·.1)=kvs.map (·.1)/\Rs K m H (kvs.map (·.2)) (ys.map (·.2))
 | .od kvs,a=>∃o ks vs,H a=some (.frz o (.own 0))/\JY a o ks vs/\Rs K m H (kvs.map (·.1)) ks/\Rs K m H (kvs.map (·.2)) vs
theorem CellR.mono (x:Ext K m H m' H')(h:CellR K m H c a)(e:H' a=H a):CellR K m' H' c a:=by
 cases c with
 | lst xs=>obtain⟨ys,h1,h2⟩:=h;exact⟨ys,e.trans h1,h2.mono x⟩
 | dk kvs=>obtain⟨ys,h1,h2,h3⟩:=h;exact⟨ys,e.trans h1,h2,h3.mono x⟩
 | fz kvs=>obtain⟨o,ys,h1,h2,h3⟩:=h;exact⟨o,ys,e.trans h1,h2,h3.mono x⟩
 | od kvs=>obtain⟨o,ks,vs,h1,h2,h3,h4⟩:=h;exact⟨o,ks,vs,e.trans h1,h2,h3.mono x,h4.mono x⟩
theorem CellR.ex (h:CellR K m H c a):∃o,H a=some o/\(∀ys,o≠.tup ys)/\∀u p,o=.frz u p->(∃ys,p=.dK ys)\/p=.own 0:=by
 cases c with
 | lst xs=>obtain⟨ys,h1,h2⟩:=h;exact⟨_,h1,⟨fun _ z=>(by cases z),fun _ _ z=>(by cases z)⟩⟩
 | dk kvs=>obtain⟨ys,h1,h2,h3⟩:=h;exact⟨_,h1,⟨fun _ z=>(by cases z),fun _ _ z=>(by cases z)⟩⟩
 | fz kvs=>obtain⟨o,ys,h1,h2,h3⟩:=h;exact⟨_,h1,⟨fun _ z=>(by cases z),fun _ _ z=>(by cases z;exact .inl ⟨ys,rfl⟩)⟩⟩
 | od kvs=>obtain⟨o,ks,vs,h1,h2,h3,h4⟩:=h;exact⟨_,h1,⟨fun _ z=>(by cases z),fun _ _ z=>(by cases z;exact .inr rfl)⟩⟩
theorem CellR.cut (h:CellR K m H c a)(z:c.bec k=true):CellR K (m.take k) H c a:=by
 cases c with
 | lst xs=>obtain⟨ys,h1,h2⟩:=h;exact⟨ys,h1,h2.cutm z⟩
 | dk kvs=>obtain⟨ys,h1,h2,h3⟩:=h;exact⟨ys,h1,h2,h3.cutm z⟩
 | fz kvs=>obtain⟨o,ys,h1,h2,h3⟩:=h;exact⟨o,ys,h1,h2,h3.cutm z⟩
 | od kvs=>obtain⟨o,ks,vs,h1,h2,h3,h4⟩:=h;rw[Cell.bec,KW] at z;exact⟨o,ks,vs,h1,h2,h3.cutm z.1,h4.cutm z.2⟩
theorem CellR.bel (h:CellR K m H c a):c.bec m.length=true:=by
 cases c with
 | lst xs=>obtain⟨ys,h1,h2⟩:=h;exact h2.bel
 | dk kvs=>obtain⟨ys,h1,h2,h3⟩:=h;exact h3.bel
 | fz kvs=>obtain⟨o,ys,h1,h2,h3⟩:=h;exact h3.bel
 | od kvs=>obtain⟨o,ks,vs,h1,h2,h3,h4⟩:=h;rw[Cell.bec,KW];exact⟨h3.bel,h4.bel⟩
structure RH (K:W.Frag)(m:List Addr)(H:Hp)(st:AH):Prop where
 len:m.length=st.length
 nd:m.Nodup
 at_:∀(n:Nat) (c:Cell) (a:Addr),st[n]?=some c->m[n]?=some a->CellR K m H c a
 tb:TB K H
section
variable {K:W.Frag}{m m':List Addr}{H H':Hp}{st:AH}
theorem RH.get {n:Nat}(h:RH K m H st)(e:st[n]?=some c):∃a,m[n]?=some a/\CellR K m H c a:=by
 have:n<m.length:=by rw[h.len];exact(KR.mp e).1
 exact⟨m[n],by simp[this],h.at_ n c _ e (by simp[this])⟩
theorem RH.mem {a:Addr}(h:RH K m H st)(e:a∈m):∃o,H a=some o/\(∀ys,o≠.tup ys)/\∀u p,o=.frz u p->(∃ys,p=.dK ys)\/p=.own 0:=by
 obtain⟨n,hn,rfl⟩:=List.mem_iff_getElem.mp e;have:n<st.length:=by rw[<-h.len];exact hn
 exact(h.at_ n st[n] _ (by simp[this]) (by simp[hn])).ex
theorem RH.mem_tbl {a:Addr}(h:RH K m H st)(e:a∈m):H a≠some (.tbl ps):=fun z=>by
 obtain⟨n,hn,rfl⟩:=List.mem_iff_getElem.mp e;have:n<st.length:=by rw[<-h.len];exact hn
 have c:=h.at_ n st[n] m[n] (by simp[this]) (by simp[hn]);cases q:st[n] with
 | lst xs=>rw[q] at c;obtain⟨ys,h1,_⟩:=c;rw[h1] at z;cases z
 | dk xs=>rw[q] at c;obtain⟨ys,h1,_⟩:=c;rw[h1] at z;cases z
 | fz xs=>rw[q] at c;obtain⟨o,ys,h1,_⟩:=c;rw[h1] at z;cases z
 | od xs=>rw[q] at c;obtain⟨o,ks,vs,h1,_⟩:=c;rw[h1] at z;cases z
theorem RH.lst {n:Nat}(h:RH K m H st)(e:st[n]?=some (.lst xs))(r:R K m H (.ref n) v):∃a ys,v=.ref a/\m[n]?=some a/\H a=some (.lst ys)/\Rs K m H xs ys:=by rw[R_ref] at r;obtain⟨a,e1,rfl⟩:=r;obtain⟨ys,h1,h2⟩:=h.at_ n _ a e e1;exact⟨a,ys,rfl,e1,h1,h2⟩
theorem RH.fresh (h:RH K m H st)(e:H p=none):p ∉ m:=fun z=>by obtain⟨o,q,_⟩:=h.mem z;rw[e] at q;cases q
theorem Ext.newT (h:RH K m H st)(e:H p=none):Ext K m H m (upd H p o):=by
 refine⟨NO _,fun _ z=>.inl z,fun a u _ q _=>?_,fun a ys q=>?_,fun a ys q=>?_,fun a ps _ q=>⟨ps,by rw[af (ar q e)];exact q⟩,fun t=>t.keep (fun a ps q=>by rw[af (ar q e)];exact q) fun a o q=>by rw[af (ar q e)];exact q,fun a o u q=>by rw[af (ar q e)];exact q⟩
 ·rw[af (ar q e)];exact q
 ·rcases q with (q|⟨u,q⟩)|q
  ·exact .inl (.inl (by rw[af (ar q e)];exact q))
  ·exact .inl (.inr ⟨u,by rw[af (ar q e)];exact q⟩)
  ·exact .inr q
 ·rcases q with⟨u,q⟩|q
  ·exact .inl ⟨u,by rw[af (ar q e)];exact q⟩
  ·exact .inr q
theorem RH.keep (h:RH K m H st)(x:Ext K m H m H')(e:∀a∈m,H' a=H a):RH K m H' st :=
 ⟨h.len,h.nd,fun n c a h1 h2=>(h.at_ n c a h1 h2).mono x (e a (KJ h2)),x.tb h.tb⟩
theorem RH.newT (h:RH K m H st)(e:H p=none):RH K m (upd H p o) st :=
 h.keep (Ext.newT h e) fun a ha=>af fun z=>h.fresh e (z ▸ ha)
theorem Ext.new1 (h:RH K m H st)(e:H p=none):Ext K m H (m++[p]) (upd H p o):=by
 have q:=Ext.newT (o:=o) h e;refine⟨NZ _ _,fun a z=>?_,q.fr,q.tup,q.rdf,q.tbs,q.tb,q.frz⟩;rcases K7.mp z with z|z
 ·exact .inl z
 ·rw[K9] at z;subst z;exact .inr e
theorem RH.new1 (h:RH K m H st)(e:H p=none)(hc:CellR K (m++[p]) (upd H p o) c p):RH K (m++[p]) (upd H p o) (st++[c]):=by
 have x:=Ext.new1 (o:=o) h e;refine⟨by simp[h.len],L8.mpr ⟨h.nd,KQ.mpr ⟨by simp,OS⟩,fun a ha b hb z=>?_⟩,fun n c' a h1 h2=>?_,x.tb h.tb⟩
 ·rw[K9] at hb;subst hb;exact h.fresh e (z ▸ ha)
 ·by_cases hn:n<st.length
  ·rw[K3 hn] at h1;rw[K3 (by rw[h.len];exact hn)] at h2;exact(h.at_ n c' a h1 h2).mono x (af fun z=>h.fresh e (z ▸ KJ h2))
  ·rw[K8 (by omega)] at h1;rw[K8 (by rw[h.len];omega)] at h2;have hl:=h.len;by_cases hz:n-st.length=0
   ·rw[hz] at h1;rw[show n-m.length=0 by omega] at h2;simp at h1 h2;subst h1 h2;exact hc
   ·rw[LO (by simp;omega)] at h1;cases h1
theorem RH.newL (h:RH K m H st)(e:H p=none)(r:Rs K m H xs ys):RH K (m++[p]) (upd H p (.lst ys)) (st++[.lst xs]) :=
 h.new1 e ⟨ys,ax,r.mono (Ext.new1 h e)⟩
theorem R.last {p:Addr}{n:Nat}(h:m.length=n):R K (m++[p]) H (.ref n) (.ref p):=by rw[R_ref];exact⟨p,by rw[<-h];simp,rfl⟩
theorem nfL {H:Hp}(g:H a=some (.lst ys)):∀w v,H a≠some (.frz w v):=fun _ _ z=>by rw[g] at z;cases z
theorem nfD {H:Hp}(g:H a=some (.dK ys)):∀w v,H a≠some (.frz w v):=fun _ _ z=>by rw[g] at z;cases z
theorem Ext.set {n:Nat}{ys:List V}(h:RH K m H st)(e:m[n]?=some a)(hz:∀w v,H a≠some (.frz w v)):Ext K m H m (upd H a o):=by
 have hm:=KJ e;obtain⟨u,hu,h1,h2⟩:=h.mem hm;refine⟨NO _,fun _ z=>.inl z,fun b w hb q _=>?_,fun b zs q=>?_,fun b zs q=>?_,fun b ps hb q=>⟨ps,by rw[af (show b≠a from fun z=>hb (by rw[z];exact hm))];exact q⟩,fun t=>t.keep (fun b ps q=>by rw[af (fun z=>by subst z;exact h.mem_tbl hm q)];exact q) fun b w q=>by rw[af (fun z=>by subst z;exact hz _ _ q)];exact q,fun b w v q=>by rw[af (fun z=>by subst z;exact hz _ _ q)];exact q⟩
 ·have hne:b≠a:=fun z=>hb (by rw[z];exact hm);rw[af hne];exact q
 ·rcases q with (q|⟨w,q⟩)|q
  ·exact .inl (.inl (by rw[af (fun z=>by subst z;rw[hu] at q;cases q;exact h1 _ rfl)];exact q))
  ·exact .inl (.inr ⟨w,by rw[af (fun z=>by subst z;exact hz _ _ q)];exact q⟩)
  ·exact .inr q
 ·rcases q with⟨w,q⟩|q
  ·exact .inl ⟨w,by rw[af (fun z=>by subst z;exact hz _ _ q)];exact q⟩
  ·exact .inr q
theorem jC {m:List Addr}(h:m.Nodup){i j:Nat}(e:m[i]?=some a)(e':m[j]?=some a):i=j:=by obtain⟨h1,h2⟩:=KR.mp e;obtain⟨h3,h4⟩:=KR.mp e';exact(List.getElem_inj h).mp (h2.trans h4.symm)
theorem RH.setL {n:Nat}(h:RH K m H st)(e:m[n]?=some a)(hz:∀w v,H a≠some (.frz w v))(r:Rs K m H xs ys):RH K m (upd H a (.lst ys)) (st.set n (.lst xs)):=by
 have x:Ext K m H m (upd H a (.lst ys)):=Ext.set (ys:=ys) h e hz;refine⟨by simp[h.len],h.nd,fun k c b h1 h2=>?_,x.tb h.tb⟩;by_cases hk:k=n
 ·subst hk;rw[e] at h2;cases h2;have hl:k<st.length:=by rw[<-h.len];exact(KR.mp e).1
  rw[K1 hl] at h1;cases h1;exact⟨ys,ax,r.mono x⟩
 ·rw[K5 (fun z=>hk z.symm)] at h1;exact(h.at_ k c b h1 h2).mono x (af fun z=>hk (jC h.nd h2 (z ▸ e)))
end
structure RF (K:W.Frag)(m:List Addr)(H:Hp)(ρ:Fr)(σ:L2.St):Prop where
 len:ρ.length=σ.length
 at_:∀(i:Nat) v,ρ[i]?=some (some v)->∃x,σ[i]?=some (some x)/\R K m H v x
theorem RF.mono (h:RF K m H ρ σ)(x:Ext K m H m' H'):RF K m' H' ρ σ :=
 ⟨h.len,fun i v e=>let ⟨y,e1,r⟩:=h.at_ i v e;⟨y,e1,r.mono x⟩⟩
theorem RF.set (h:RF K m H ρ σ)(i:Nat)(r:R K m H v x):RF K m H (ρ.set i (some v)) (σ.set i (some x)):=by
 refine⟨by simp[h.len],fun j w e=>?_⟩;by_cases hj:i=j
 ·subst hj;have hl:i<ρ.length:=by have:=(KR.mp e).1;simpa using this
  rw[K1 hl] at e;cases e;exact⟨x,by rw[K1 (h.len ▸ hl)],r⟩
 ·rw[K5 hj] at e;rw[K5 hj];exact h.at_ j w e
noncomputable def post (K:W.Frag)(m:List Addr)(H:Hp)(Q:VK):EK:=fun v st'=>∀m' H' x,Ext K m H m' H'->RH K m' H' st'->R K m' H' v x->Q x H'
noncomputable def postB (K:W.Frag)(m:List Addr)(H:Hp)(Q:Bool->Hp->Prop):BK:=fun v st'=>∀m' H',Ext K m H m' H'->RH K m' H' st'->Q v H'
noncomputable def Jr (K:W.Frag)(m:List Addr)(H:Hp)(Q:List V->Hp->Prop):LK:=fun vs st'=>∀m' H' xs,Ext K m H m' H'->RH K m' H' st'->Rs K m' H' vs xs->Q xs H'
noncomputable def TEx (K:W.Frag)(w:Fr->AH->EK->Prop):TE:=fun σ H Q=>∃m ρ st,RF K m H ρ σ/\RH K m H st/\w ρ st (post K m H Q)
noncomputable def TTx (K:W.Frag)(w:Fr->AH->BK->Prop):TT:=fun σ H Q=>∃m ρ st,RF K m H ρ σ/\RH K m H st/\w ρ st (postB K m H Q)
noncomputable def TAx (K:W.Frag)(w:Fr->AH->LK->Prop):TA:=fun σ H Q=>∃m ρ st,RF K m H ρ σ/\RH K m H st/\w ρ st (Jr K m H Q)
theorem post.ext (x:Ext K m H m1 H1)(q:post K m H Q v st):post K m1 H1 Q v st:=fun m' H' y e r s=>q m' H' y (x.trans e) r s
theorem postB.ext (x:Ext K m H m1 H1)(q:postB K m H Q v st):postB K m1 H1 Q v st:=fun m' H' e r=>q m' H' (x.trans e) r
noncomputable def C5 (K:W.Frag)(w:PV->PV->AH->EK->Prop):R2:=fun x' y' H Q=>∃m st x y,RH K m H st/\R K m H x x'/\R K m H y y'/\w x y st (post K m H Q)
noncomputable def HL (K:W.Frag)(w:List PV->AH->EK->Prop):List V->Hp->VK->Prop:=fun xs' H Q=>∃m st xs,RH K m H st/\Rs K m H xs xs'/\w xs st (post K m H Q)
end FW
namespace FW
open L2 HX
theorem dm {n:Nat}(h:n<=100000):n<=sizeLine:=by rw[sizeLine_eq];omega
theorem eS {n:Nat}(h:n<100000):n<sizeLine:=by rw[sizeLine_eq];omega
section
variable {X:Cx}
theorem post.here (q:post K m H Q v st)(h:RH K m H st)(r:R K m H v x):Q x H:=q m H x (Ext.refl _ _ _) h r
theorem post.newT (q:post K m H Q (.tup xs) st)(h:RH K m H st)(r:Rs K m H xs ys)(e:H p=none):Q (.ref p) (upd H p (.tup ys)) :=
 q m _ _ (Ext.newT h e) (h.newT e) (R_tup.mpr ⟨p,ys,rfl,SqT.of ax,r.mono (Ext.newT h e)⟩)
theorem post.newL {st:AH}(q:post K m H Q (.ref st.length) (st++[.lst xs]))(h:RH K m H st)(r:Rs K m H xs ys)(e:H p=none):Q (.ref p) (upd H p (.lst ys)) :=
 q _ _ _ (Ext.new1 h e) (h.newL e r) (R.last h.len)
theorem post.setL {st:AH}(q:post K m H Q v (st.set n (.lst xs)))(h:RH K m H st)(e:m[n]?=some a)(hz:∀w v,H a≠some (.frz w v))(r:Rs K m H xs ys)(rv:R K m H v y) :
  Q y (upd H a (.lst ys)):=q _ _ _ (Ext.set (ys:=ys) h e hz) (h.setL e hz r) (rv.mono (Ext.set (ys:=ys) h e hz))
theorem b9 (h:RH K m H st)(r:R K m H v x)(e:aQ st v=some xs):∃a ys,x=.ref a/\SqL K H a ys/\Rs K m H xs ys:=by
 cases v with
 | rdl zs =>cases e;rw[eD] at r;obtain⟨a,ys,rfl,h1,h2⟩:=r;exact⟨a,ys,rfl,h1.sq,h2⟩
 | ref n =>
  unfold aQ at e;simp only at e;split at e
  ·cases e;rename_i q;obtain⟨a,ys,rfl,_,h1,h2⟩:=h.lst q r;exact⟨a,ys,rfl,SqL.of h1,h2⟩
  ·cases e
 | _=>cases e
theorem gF (h:RH K m H st)(r:R K m H v x)(e:a7 st v=some xs):∃a ys,x=.ref a/\(SqL K H a ys\/SqT K H a ys)/\Rs K m H xs ys:=by
 cases v with
 | tup zs =>cases e;rw[R_tup] at r;obtain⟨a,ys,rfl,h1,h2⟩:=r;exact⟨a,ys,rfl,.inr h1,h2⟩
 | rdl zs =>obtain⟨a,ys,h1,h2,h3⟩:=b9 h r e;exact⟨a,ys,h1,.inl h2,h3⟩
 | ref n =>obtain⟨a,ys,h1,h2,h3⟩:=b9 h r e;exact⟨a,ys,h1,.inl h2,h3⟩
 | _=>cases e
theorem JX {E:Value->Shared->Prop}{s:Shared}{ws:List Value}{Q:Value->Shared->Prop}(ht:IsTup s.heap t ([]:List Value).toArray)(hb:IsTup s.heap b ws.toArray)(h:Q (.ref b) s) :
  wpAny (model P w) A (binaryOp .Add (.ref t) (.ref b)) Q E s:=by
 obtain⟨⟨cls,dd,data,sl⟩,ho,hc,n,hd⟩:=id ht;obtain⟨⟨cls2,dd2,data2,sl2⟩,ho2,hc2,n2,hd2⟩:=id hb;simp only at hc hd hc2 hd2;subst hc hd hc2 hd2;exact concat_meets ⟨_,ho,rfl⟩ ⟨_,ho2,rfl⟩ noFill_tuple_add seq_tuple_add NG NB (M6 _ _)
  (tuple_addW0 t b ([]:List Value).toArray ws.toArray n n2 dd dd2 sl sl2 rfl) ⟨ho,ho2,h⟩
theorem FZ (op:Operator):OpR X (binaryOp op) (C5 X.K (i7 op)):=by
 intro pins s σ H x' y' v u Q I rx ry h;obtain⟨m,st,x,y,rh,hx,hy,w⟩:=h;cases op with
 | Add =>
  cases x with
  | int i =>
   cases y with
   | int j =>have w:post X.K m H Q (.int (i+j)) st:=w;rw[R_int] at hx hy;subst hx hy;exact FE pins s σ H _ _ v u Q I rx ry ⟨_,_,rfl,rfl,w.here rh (R_int.mpr rfl)⟩
   | _=>exact False.elim w
  | ref n =>
   cases y with
   | ref k =>obtain⟨xs,ys,h1,h2,h3,w⟩:=w;obtain⟨a,xs',rfl,e1,g1,r1⟩:=rh.lst h1 hx;obtain⟨b,ys',rfl,e2,g2,r2⟩:=rh.lst h2 hy;exact GE pins s σ H _ _ v u Q I rx ry ⟨a,b,xs',ys',rfl,rfl,g1,g2,by rw[<-r1.len,<-r2.len];exact dm h3,fun p hp=>w.newL rh (r1.app r2) hp⟩
   | _=>exact False.elim w
  | tup xs =>
   cases y with
   | tup ys =>
    obtain⟨h2,w⟩:=w;rw[R_tup] at hx hy;obtain⟨a,xs',rfl,g1,r1⟩:=hx;obtain⟨b,ys',rfl,g2,r2⟩:=hy;by_cases h1:xs'=[]
    ·subst h1;cases rx;cases ry;obtain⟨its1,rv1,p1,_⟩:=I.tuple g1;obtain⟨its2,rv2,p2,_⟩:=I.tuple g2;cases rv1;have e:=r1.len;rw[NC.mp e,List.nil_append] at w;exact JX p1 p2 ⟨.ref b,H,I,rfl,w.here rh (R_tup.mpr ⟨b,ys',rfl,g2,r2⟩)⟩
    refine C0 pins s σ H _ _ v u Q I rx ry ⟨a,b,xs',ys',rfl,rfl,g1,g2,fun z=>?_,by rw[<-r1.len,<-r2.len];exact dm h2,fun z=>?_,fun z p hp=>w.newT rh (r1.app r2) hp⟩
    ·exact h1 z
    ·subst z;have e:=r2.len;rw[NC.mp e,M9] at w;exact w.here rh (R_tup.mpr ⟨a,xs',rfl,g1,r1⟩)
   | _=>exact False.elim w
  | str a =>
   cases y with
   | str b =>obtain⟨h2,w⟩:=w;rw[R_str] at hx hy;subst hx hy;exact uN pins s σ H _ _ v u Q I rx ry ⟨_,_,rfl,rfl,dm h2,w.here rh (R_str.mpr rfl)⟩
   | _=>exact False.elim w
  | _=>exact False.elim w
 | Mult =>
  cases x with
  | int i =>
   cases y with
   | int j =>have w:CMB i j/\post X.K m H Q (.int (i*j)) st:=w;rw[R_int] at hx hy;subst hx hy;exact Cv pins s σ H _ _ v u Q I rx ry ⟨_,_,rfl,rfl,w.1,w.2.here rh (R_int.mpr rfl)⟩
   | _=>exact False.elim w
  | _=>exact False.elim w
 | Sub =>obtain⟨i,j,rfl,rfl,w⟩:=bw w;rw[R_int] at hx hy;subst hx hy;exact FT pins s σ H _ _ v u Q I rx ry ⟨_,_,rfl,rfl,w.here rh (R_int.mpr rfl)⟩
 | FloorDiv =>obtain⟨i,j,rfl,rfl,w⟩:=bw w;rw[R_int] at hx hy;subst hx hy;exact Az pins s σ H _ _ v u Q I rx ry ⟨_,_,rfl,rfl,w.1,w.2.here rh (R_int.mpr rfl)⟩
 | Mod =>obtain⟨i,j,rfl,rfl,w⟩:=bw w;rw[R_int] at hx hy;subst hx hy;exact FV pins s σ H _ _ v u Q I rx ry ⟨_,_,rfl,rfl,w.1,w.2.here rh (R_int.mpr rfl)⟩
 | Pow =>obtain⟨i,j,rfl,rfl,w⟩:=bw w;rw[R_int] at hx hy;subst hx hy;exact FS pins s σ H _ _ v u Q I rx ry ⟨_,_,rfl,rfl,w.1,w.2.here rh (R_int.mpr rfl)⟩
 | _=>exact False.elim w
mutual
theorem R.den:∀ {p:PV}{v:V}{d:PyData},R K m H p v->p.toD=some d->(∃xs,d=.list xs)\/Den K H d v
 | .non,v,d,h,e=>by rw[PV.toD] at e;cases e;rw[R_non] at h;exact .inr (den_non.mpr h)
 | .bl b,v,d,h,e=>by rw[PV.toD] at e;cases e;rw[R_bl] at h;exact .inr (den_bl.mpr h)
 | .int b,v,d,h,e=>by rw[PV.toD] at e;cases e;rw[R_int] at h;exact .inr (den_int.mpr h)
 | .str b,v,d,h,e=>by rw[PV.toD] at e;cases e;rw[R_str] at h;exact .inr (den_str.mpr h)
 | .ref n,v,d,h,e=>by rw[PV.toD] at e;cases e
 | .fn n,v,d,h,e=>by rw[PV.toD] at e;cases e
 | .tup xs,v,d,h,e=>by
  rw[PV.toD] at e;cases q:PV.toDs xs with
  | none=>rw[q] at e;cases e
  | some ds =>rw[q] at e;cases e;rw[R_tup] at h;obtain⟨a,ys,rfl,h1,h2⟩:=h;exact .inr (den_tup.mpr ⟨a,ys,rfl,h1,Rs.den h2 q⟩)
 | .rdl xs,v,d,h,e=>by
  rw[PV.toD] at e;cases q:PV.toDs xs with
  | none=>rw[q] at e;cases e
  | some ds=>rw[q] at e;cases e;exact .inl ⟨_,rfl⟩
theorem Rs.den:∀ {ps:List PV}{vs:List V}{ds:List PyData},Rs K m H ps vs->PV.toDs ps=some ds->Dens K H ds vs
 | [],vs,ds,h,e=>by rw[PV.toDs] at e;cases e;rw[Rs_nil] at h;exact dens_nil.mpr h
 | p::ps,vs,ds,h,e=>by
  rw[Rs_cons] at h;obtain⟨y,r,rfl,h1,h2⟩:=h;rw[PV.toDs] at e;cases q:p.toD with
  | none=>rw[q] at e;cases e
  | some d =>
   cases q2:PV.toDs ps with
   | none=>rw[q,q2] at e;cases e
   | some ds' =>
    rw[q,q2] at e;cases e;refine dens_cons'.mpr ⟨?_,Rs.den h2 q2⟩;cases p with
    | rdl xs =>
     rw[PV.toD] at q;cases q3:PV.toDs xs with
     | none=>rw[q3] at q;cases q
     | some es =>rw[q3] at q;cases q;rw[eD] at h1;obtain⟨a,ys,rfl,g1,g2⟩:=h1;exact den_lst.mpr ⟨a,ys,rfl,g1.sq,Rs.den g2 q3⟩
    | _ =>
     rcases R.den h1 q with⟨xs,rfl⟩|z
     ·first
       | (rw[PV.toD] at q;cases q;done)
       | (rw[PV.toD] at q;simp only[Option.map_eq_some_iff,reduceCtorEq,and_false,exists_false] at q)
     ·exact z
end
theorem iY (rh:RH K m H st)(h:R K m H p v)(e:xh st p=some d):Den K H d v:=by
 cases p with
 | ref n =>
  unfold xh at e;simp only at e;split at e
  ·rename_i xs q;cases q2:PV.toDs xs with
   | none=>rw[q2] at e;cases e
   | some ds =>rw[q2] at e;cases e;obtain⟨a,ys,rfl,_,h1,h2⟩:=rh.lst q h;exact den_lst.mpr ⟨a,ys,rfl,SqL.of h1,h2.den q2⟩
  ·cases e
 | rdl xs =>
  have e':(PV.rdl xs).toD=some d:=e;rw[PV.toD] at e';cases q2:PV.toDs xs with
  | none=>rw[q2] at e';cases e'
  | some ds =>rw[q2] at e';cases e';rw[eD] at h;obtain⟨a,ys,rfl,g1,g2⟩:=h;exact den_lst.mpr ⟨a,ys,rfl,g1.sq,g2.den q2⟩
 | tup xs =>
  have e':(PV.tup xs).toD=some d:=e;rcases R.den h e' with⟨zs,rfl⟩|z
  ·rw[PV.toD] at e';simp at e'
  ·exact z
 | fn b=>have e':(PV.fn b).toD=some d:=e;rw[PV.toD] at e';cases e'
 | non=>have e':(PV.non).toD=some d:=e;rw[PV.toD] at e';cases e';exact den_non.mpr (R_non.mp h)
 | bl b=>have e':(PV.bl b).toD=some d:=e;rw[PV.toD] at e';cases e';exact den_bl.mpr (R_bl.mp h)
 | int b=>have e':(PV.int b).toD=some d:=e;rw[PV.toD] at e';cases e';exact den_int.mpr (R_int.mp h)
 | str b=>have e':(PV.str b).toD=some d:=e;rw[PV.toD] at e';cases e';exact den_str.mpr (R_str.mp h)
theorem R.nonB (h:R K m H p v):decide (v=.non)=gz p:=by
 cases p with
 | non=>rw[R_non] at h;subst h;rfl
 | bl b=>rw[R_bl] at h;subst h;rfl
 | int b=>rw[R_int] at h;subst h;rfl
 | str b=>rw[R_str] at h;subst h;rfl
 | ref n=>rw[R_ref] at h;obtain⟨a,_,rfl⟩:=h;rfl
 | tup n=>rw[R_tup] at h;obtain⟨a,_,rfl,_⟩:=h;rfl
 | rdl n=>rw[eD] at h;obtain⟨a,_,rfl,_⟩:=h;rfl
 | fn n=>rw[xQ] at h;subst h;rfl
theorem R.blB (h:R K m H p v):decide (v=.bl k)=kW k p:=by
 cases p with
 | non=>rw[R_non] at h;subst h;rfl
 | bl b=>rw[R_bl] at h;subst h;cases b <;> cases k <;> rfl
 | int b=>rw[R_int] at h;subst h;rfl
 | str b=>rw[R_str] at h;subst h;rfl
 | ref n=>rw[R_ref] at h;obtain⟨a,_,rfl⟩:=h;rfl
 | tup n=>rw[R_tup] at h;obtain⟨a,_,rfl,_⟩:=h;rfl
 | rdl n=>rw[eD] at h;obtain⟨a,_,rfl,_⟩:=h;rfl
 | fn n=>rw[xQ] at h;subst h;rfl
theorem HS:decide (V.int i=V.int j)=decide (i=j):=by simp
theorem Ic:decide (V.bl i=V.bl j)=decide (i=j):=by simp
theorem Jm:decide (V.str i=V.str j)=decide (i=j):=by simp
theorem lj:∀ {ns:List Str}{ys:List V},Rs K m H (ns.map PV.str) ys->ys=ns.map V.str
 | [],ys,h=>by rw[LW,Rs_nil] at h;exact h
 | n::ns,ys,h=>by
  cases ys with
  | nil=>have:=h.len;simp at this
  | cons y ys =>rw[KG,Rs_cons',R_str] at h;rw[h.1,lj h.2];rfl
theorem jW:∀ {ns:List Str},(ns.map V.str).all ji=true
 | []=>rfl
 | n::ns=>by rw[KG,M7,jW];rfl
theorem qI:∀ {ns:List Str},inV (.str i) (ns.map V.str)=ns.any fun j=>j == i
 | []=>rfl
 | n::ns=>by
  have:=qI (i:=i) (ns:=ns);unfold inV at this |-
  rw[KG,L6,L6,this];rfl
section
variable {K:W.Frag}{m:List Addr}{H:Hp}
theorem zY:∀ {kvs:List (Key × PV)}{ys:List (Key × V)},ys.map (·.1)=kvs.map (·.1)->Rs K m H (kvs.map (·.2)) (ys.map (·.2)) ->
  (∀v,ja kvs k=some v->∃v',iO ys k=some v'/\R K m H v v')/\(ja kvs k=none->iO ys k=none)
 | [],ys,e,_=>by
  cases ys with
  | nil=>exact⟨fun v z=>(by cases z),fun _=>rfl⟩
  | cons y ys=>cases e
 | p::kvs,ys,e,r=>by
  cases ys with
  | nil=>cases e
  | cons y ys =>
   rw[KG,KG,OJ] at e;rw[KG,KG,Rs_cons'] at r;obtain⟨a1,a2⟩:=zY (k:=k) e.2 r.2;by_cases q:p.1=k
   ·have e1:ja (p::kvs) k=some p.2:=by simp[ja,List.find?_cons,q]
    have e2:iO (y::ys) k=some y.2:=iX (by rw[e.1];exact q);rw[e1,e2];exact⟨fun v z=>⟨_,rfl,by cases z;exact r.1⟩,fun z=>by cases z⟩
   ·have e1:ja (p::kvs) k=ja kvs k:=by simp[ja,List.find?_cons,q]
    have e2:iO (y::ys) k=iO ys k:=jd (by rw[e.1];exact q);rw[e1,e2];exact⟨a1,a2⟩
theorem yk {k:Key}:∀ {kvs:List (Key × PV)}{ys:List (Key × V)},ys.map (·.1)=kvs.map (·.1)->(kvs.any fun kv=>decide (kv.1=k))=ys.any fun kv=>decide (kv.1=k)
 | [],ys,e=>by cases ys with|nil=>rfl|cons y ys=>cases e
 | p::kvs,ys,e=>by
  cases ys with
  | nil=>cases e
  | cons y ys =>rw[KG,KG,OJ] at e;rw[L6,L6,yk e.2,e.1]
theorem yM {k:Key}(rv:R K m H v v'):∀ {kvs:List (Key × PV)}{ys:List (Key × V)},ys.map (·.1)=kvs.map (·.1)->Rs K m H (kvs.map (·.2)) (ys.map (·.2)) ->
  (ys.map fun kv=>if kv.1=k then (kv.1,v') else kv).map (·.1)=(kvs.map fun kv=>if kv.1=k then (kv.1,v) else kv).map (·.1)/\Rs K m H ((kvs.map fun kv=>if kv.1=k then (kv.1,v) else kv).map (·.2)) ((ys.map fun kv=>if kv.1=k then (kv.1,v') else kv).map (·.2))
 | [],ys,e,_=>by cases ys with|nil=>exact⟨rfl,by rw[LW,LW,LW,LW,Rs_nil]⟩|cons y ys=>cases e
 | p::kvs,ys,e,r=>by
  cases ys with
  | nil=>cases e
  | cons y ys =>
   rw[KG,KG,OJ] at e;rw[KG,KG,Rs_cons'] at r;obtain⟨a1,a2⟩:=yM (k:=k) rv e.2 r.2;simp only[List.map_cons];rw[Rs_cons',a1];by_cases q:p.1=k
   ·rw[KZ q,KZ (by rw[e.1];exact q)];exact⟨by rw[e.1],rv,a2⟩
   ·rw[KS q,KS (by rw[e.1];exact q)];exact⟨by rw[e.1],r.1,a2⟩
theorem FL (rv:R K m H v v'){kvs:List (Key × PV)}{ys:List (Key × V)}(e:ys.map (·.1)=kvs.map (·.1))(r:Rs K m H (kvs.map (·.2)) (ys.map (·.2))) :
  (jg ys k v').map (·.1)=(kY kvs k v).map (·.1)/\Rs K m H ((kY kvs k v).map (·.2)) ((jg ys k v').map (·.2)):=by
 unfold jg kY;rw[<-yk (k:=k) e];by_cases q:(kvs.any fun kv=>decide (kv.1=k))=true
 ·rw[KZ q,KZ q];exact yM rv e r
 ·rw[KS q,KS q];simp only[List.map_append,List.map_cons,List.map_nil];exact⟨by rw[e],r.app (.one rv)⟩
end
theorem RH.dkat {n:Nat}(h:RH K m H st)(e:st[n]?=some (.dk kvs))(r:R K m H (.ref n) v):∃a ys,v=.ref a/\m[n]?=some a/\H a=some (.dK ys)/\ys.map (·.1)=kvs.map (·.1)/\Rs K m H (kvs.map (·.2)) (ys.map (·.2)):=by rw[R_ref] at r;obtain⟨a,e1,rfl⟩:=r;obtain⟨ys,h1,h2⟩:=h.at_ n _ a e e1;exact⟨a,ys,rfl,e1,h1,h2⟩
theorem RH.setD {n:Nat}{kvs:List (Key × PV)}{ys:List (Key × V)}(h:RH K m H st)(e:m[n]?=some a)(hz:∀w v,H a≠some (.frz w v))(r1:ys.map (·.1)=kvs.map (·.1))(r2:Rs K m H (kvs.map (·.2)) (ys.map (·.2))):RH K m (upd H a (.dK ys)) (st.set n (.dk kvs)):=by
 have x:Ext K m H m (upd H a (.dK ys)):=Ext.set (ys:=[]) h e hz;refine⟨by simp[h.len],h.nd,fun k c b h1 h2=>?_,x.tb h.tb⟩;by_cases hk:k=n
 ·subst hk;have hl:k<st.length:=by rw[<-h.len];exact(KR.mp e).1
  rw[K1 hl] at h1;rw[e] at h2;cases h1;cases h2;exact⟨ys,ax,r1,r2.mono x⟩
 ·rw[K5 (Ne.symm hk)] at h1;have ne:b≠a:=fun z=>hk ((List.getElem?_inj (KR.mp h2).1 h.nd).mp (by rw[h2,e,z]));exact(h.at_ k c b h1 h2).mono x (af ne)
theorem RH.dkrd {n:Nat}(h:RH K m H st)(e:st[n]?=some (.dk kvs)\/st[n]?=some (.fz kvs))(r:R K m H (.ref n) v):∃a ys,v=.ref a/\m[n]?=some a/\Rd H a (.dK ys)/\ys.map (·.1)=kvs.map (·.1)/\Rs K m H (kvs.map (·.2)) (ys.map (·.2)):=by
 rw[R_ref] at r;obtain⟨a,e1,rfl⟩:=r;rcases e with e|e
 ·obtain⟨ys,h1,h2⟩:=h.at_ n _ a e e1;exact⟨a,ys,rfl,e1,.inl h1,h2⟩
 ·obtain⟨o,ys,h1,h2⟩:=h.at_ n _ a e e1;exact⟨a,ys,rfl,e1,.inr ⟨o,h1⟩,h2⟩
theorem uW:OpR X (compareOp .Gt) (fun x y H Q=>∃i j,x=.str i/\y=.str j/\Q (.bl (decide (j.cps.toList<i.cps.toList))) H):=by intro pins s σ H x y v u Q I rx ry h;obtain⟨i,j,rfl,rfl,q⟩:=h;obtain⟨t,rfl⟩:=rx;obtain⟨t',rfl⟩:=ry;exact PySem.P.gt_str (aC I q rfl)
theorem yp (hu:X.A.units+64<cLine)(op:CmpOp):OpR X (compareOp op) (C5 X.K (di op)):=by
 intro pins s σ H x' y' v u Q I rx ry h;obtain⟨m,st,x,y,rh,hx,hy,w⟩:=h;unfold di at w;cases op with
 | Eq =>
  simp only at w;unfold eqW at w;split at w
  ·rw[R_int] at hx hy;subst hx hy;exact BP pins s σ H _ _ v u Q I rx ry ⟨rfl,by rw[HS];exact w.here rh (R_bl.mpr rfl)⟩
  ·rw[R_bl] at hx hy;subst hx hy;exact BP pins s σ H _ _ v u Q I rx ry ⟨rfl,by rw[Ic];exact w.here rh (R_bl.mpr rfl)⟩
  ·rw[R_str] at hx hy;subst hx hy;exact BP pins s σ H _ _ v u Q I rx ry ⟨rfl,by rw[Jm];exact w.here rh (R_bl.mpr rfl)⟩
  ·obtain⟨d,e,h1,h2,h3,h4,w⟩:=w;exact FA hu pins s σ H _ _ v u Q I rx ry ⟨d,e,iY rh hx h1,iY rh hy h2,h3,h4,w.here rh (R_bl.mpr rfl)⟩
 | NotEq =>
  simp only at w;unfold eqW at w;split at w
  ·rw[R_int] at hx hy;subst hx hy;exact yL pins s σ H _ _ v u Q I rx ry ⟨rfl,by rw[HS];exact w.here rh (R_bl.mpr rfl)⟩
  ·rw[R_bl] at hx hy;subst hx hy;exact yL pins s σ H _ _ v u Q I rx ry ⟨rfl,by rw[Ic];exact w.here rh (R_bl.mpr rfl)⟩
  ·rw[R_str] at hx hy;subst hx hy;exact yL pins s σ H _ _ v u Q I rx ry ⟨rfl,by rw[Jm];exact w.here rh (R_bl.mpr rfl)⟩
  ·obtain⟨d,e,h1,h2,h3,h4,w⟩:=w;exact FD hu pins s σ H _ _ v u Q I rx ry ⟨d,e,iY rh hx h1,iY rh hy h2,h3,h4,w.here rh (R_bl.mpr rfl)⟩
 | Is =>
  simp only at w;split at w
  ·rw[R_non] at hy;subst hy;exact Gp pins s σ H _ _ v u Q I rx ry ⟨rfl,by rw[hx.nonB];exact w.here rh (R_bl.mpr rfl)⟩
  ·rw[R_bl] at hy;subst hy;exact GF pins s σ H _ _ v u Q I rx ry ⟨_,rfl,by rw[hx.blB];exact w.here rh (R_bl.mpr rfl)⟩
  ·exact w.elim
 | IsNot =>
  simp only at w;split at w
  ·rw[R_non] at hy;subst hy;exact Dl pins s σ H _ _ v u Q I rx ry ⟨rfl,by rw[hx.nonB];exact w.here rh (R_bl.mpr rfl)⟩
  ·rw[R_bl] at hy;subst hy;exact xX pins s σ H _ _ v u Q I rx ry ⟨_,rfl,by rw[hx.blB];exact w.here rh (R_bl.mpr rfl)⟩
  ·exact w.elim
 | Lt =>
  simp only at w;split at w
  ·rw[R_str] at hx hy;subst hx hy;exact yc pins s σ H _ _ v u Q I rx ry ⟨_,_,rfl,rfl,w.here rh (R_bl.mpr rfl)⟩
  ·rw[R_int] at hx hy;subst hx hy;exact IB pins s σ H _ _ v u Q I rx ry ⟨_,_,rfl,rfl,w.here rh (R_bl.mpr rfl)⟩
  ·exact w.elim
 | LtE=>exact False.elim w
 | Gt =>
  simp only at w;split at w
  ·rw[R_str] at hx hy;subst hx hy;exact uW pins s σ H _ _ v u Q I rx ry ⟨_,_,rfl,rfl,w.here rh (R_bl.mpr rfl)⟩
  ·rw[R_int] at hx hy;subst hx hy;exact Ja pins s σ H _ _ v u Q I rx ry ⟨_,_,rfl,rfl,w.here rh (R_bl.mpr rfl)⟩
  ·exact w.elim
 | GtE =>
  simp only at w;split at w
  ·rw[R_int] at hx hy;subst hx hy;exact HP pins s σ H _ _ v u Q I rx ry ⟨_,_,rfl,rfl,w.here rh (R_bl.mpr rfl)⟩
  ·exact w.elim
 | In =>
  simp only at w;split at w
  ·rw[R_str] at hx hy;subst hx hy;exact xp pins s σ H _ _ v u Q I rx ry ⟨_,_,rfl,rfl,w.here rh (R_bl.mpr rfl)⟩
  ·rw[R_str] at hx;subst hx;rcases w with⟨ns,e,w⟩|w
   ·obtain⟨a,ys,rfl,_,g,r⟩:=rh.lst e hy;obtain rfl:=lj r;refine wN pins s σ H _ _ v u Q I rx ry ⟨a,_,rfl,.inl (SqL.of g),rfl,jW,?_⟩;rw[KS KD,qI];exact w.here rh (R_bl.mpr rfl)
   ·exact w.elim
  ·exact w.elim
 | NotIn =>
  simp only at w;split at w
  ·rw[R_str] at hx hy;subst hx hy;exact qX pins s σ H _ _ v u Q I rx ry ⟨_,_,rfl,rfl,w.here rh (R_bl.mpr rfl)⟩
  ·rw[R_str] at hx;subst hx;rcases w with⟨ns,e,w⟩|w
   ·obtain⟨a,ys,rfl,_,g,r⟩:=rh.lst e hy;obtain rfl:=lj r;refine qN pins s σ H _ _ v u Q I rx ry ⟨a,_,rfl,.inl (SqL.of g),rfl,jW,?_⟩;rw[KZ rfl,qI];exact w.here rh (R_bl.mpr rfl)
   ·exact w.elim
  ·exact w.elim
theorem Jy {E:Value->Shared->Prop}{s:Shared}{id:String}(hl:typeLookup (.type T) "__getitem__"=pure (some (.builtin id)))(hs:subscripted slice false o i=operate [o,i] (getItem o i))(hT:s.TypeIs o T)(h:wpAny (model prog w) A (getItem o i) Q E s) :
  wpAny (model prog w) A (subscriptTail value slice o i) Q E s:=by
 unfold subscriptTail;refine KA ?_;rw[getitemInPython_of_ne hT.not_modules];refine KA (wpAny_specialOf hT hl ?_);have fin:wpAny (model prog w) A (subscripted slice false o i) (fun r s₃=>wpAny (model prog w) A (letTemporaryGo value o r >>= fun _=>pure r) Q E s₃) E s:=by rw[hs];exact wpAny_operating (wpAny_mono h (fun r s₃ h₃=>KA (wpAny_letTemporaryGo (KC h₃))) fun _ _ x=>x)
 first
  | exact KC (KA fin)
  | exact KA (KC (KA fin))
  | exact KA fin
theorem DX (hu:X.A.units+64<cLine):IxR X (C5 X.K ixW):=by
 intro value slice pins s σ H x' y' v u Q I rx ry h hs;obtain⟨m,st,x,y,rh,hx,hy,w⟩:=h;cases y with
 | int i =>
  rw[R_int] at hy;subst hy;rcases vS w with⟨z,c,rfl,h1,h2,w⟩|⟨xs,z,h1,h2,w⟩
  ·rw[R_str] at hx;subst hx;exact Gs value slice pins s σ H _ _ v u Q I rx ry ⟨_,_,c,rfl,rfl,dm h1,h2,w.here rh (R_str.mpr rfl)⟩ hs
  obtain⟨a,ys,rfl,g,r⟩:=gF rh hx h1;obtain⟨y,e,ry'⟩:=r.atI h2;rcases g with g|g
  ·exact C7 value slice pins s σ H _ _ v u Q I rx ry ⟨a,ys,_,y,rfl,rfl,g,e,w.here rh ry'⟩ hs
  ·exact FU value slice pins s σ H _ _ v u Q I rx ry ⟨a,ys,_,y,rfl,rfl,g,e,w.here rh ry'⟩ hs
 | str z =>
  rw[R_str] at hy;subst hy;obtain⟨n,kvs,p,rfl,e,h2,w⟩:=vO w;obtain⟨a,ys,rfl,_,g,r1,r2⟩:=rh.dkrd e hx;obtain⟨p',e',rp⟩:=(zY r1 r2).1 _ h2;have dg:JH H a (.str z) (some p'):=by rw[<-e'];exact .inl ⟨_,.inr z,g,rfl,rfl⟩
  cases rx;obtain⟨z1,hd,vs,rel,dd⟩:=wy I.hok g;exact Jy PySem.F.slot_dict_getitem.lookup hs dd.typeIs (x9 (MJ (by omega) hu) I dg ry fun w' s3 I3 rw'=>⟨p',H,I3,rw',w.here rh rp⟩)
 | _=>exact w.elim
theorem ik {E:Value->Shared->Prop}{s:Shared}{Q:Value->Shared->Prop}(ht:IsTup s.heap t items)(hs:s.heap.IsSliceOf sl vl vu .none)(pl:IsPart vl lo)(pu:IsPart vu hi)(hw:HT.sIx items.size 0 lo=0/\HT.sIx items.size items.size hi=items.size)(h:Q (.ref t) s):wpAny (model prog w) A (getItem (.ref t) (.ref sl)) Q E s:=by
 obtain⟨os,hos,hcs,hds⟩:=id hs;have hTs:s.TypeIs (.ref sl) "slice":=⟨os,hos,hcs⟩;unfold getItem
 try with_reducible refine L3 ?_
 first|refine KA (KC ?_)|skip
 refine KA (wpAny_sequenceKey ht.typeIs (by decide) ?_);refine KA (wpAny_callSpecial?_slot (name:=Str.ofString "__getitem__") ht.typeIs L9
  (wpAny_call_entry L9 ht.typeIs entry_tuple_getitem ?_ (args_tuple_getitem _ _)))
 show wpAny _ _ (Builtin.Tuple.tupleItemsOf (.ref t) >>= _) _ _ s;refine KA (tupleItemsOf_ ht ?_);refine KA (wpAny_typeOf hTs ?_);rw[KZ (by decide)];refine KA (HT.sliceApplied_gen hs pl pu ?_);have hyes:((((HT.sIx items.size 0 lo:Nat):Int) == 0 && (1:Int) == 1 && (HT.sIx items.size items.size hi-HT.sIx items.size 0 lo) == items.size)=true):=by rw[hw.1,hw.2];simp
 show wpAny _ _ (if (((HT.sIx items.size 0 lo:Nat):Int) == 0 && (1:Int) == 1 && (HT.sIx items.size items.size hi-HT.sIx items.size 0 lo) == items.size)=true then _ else _) _ _ s;rw[KZ hyes];unfold Builtin.Tuple.tupleIsExact;refine KA (KA (wpAny_typeOf ht.typeIs (KC ?_)));rw[KZ (by simp)];exact KA (wpAny_rule (KC ⟨_,rfl,KC h⟩))
noncomputable def Ib (K:W.Frag):V->Option Int->Option Int->Hp->VK->Prop:=fun x' lo hi H Q=>∃m st x,RH K m H st/\R K m H x x'/\slW x lo hi st (post K m H Q)
theorem ui {ys:List V}(h:HT.sIx ys.length 0 lo=0/\HT.sIx ys.length ys.length hi=ys.length):nu ys lo hi=ys:=by unfold nu;rw[h.1,h.2,MX,Nat.sub_zero,LR]
theorem vK (h:IsPart v p):∃q:Option (Int × Tok),v=partValue q/\q.map (·.1)=p:=by
 cases h with
 | none=>exact⟨none,rfl,rfl⟩
 | int i t=>exact⟨some (i,t),rfl,rfl⟩
theorem Dd {z:Str}{l u:Option (Int × Tok)}{lo:Option Int}{Q:Value->Shared->Prop}(e:(l.map (·.1),u.map (·.1))=(lo,hi))(h1:z.length<=100000)(h:∀tk t',Q (.str (il z lo hi) t') { s with toks:=tk }):(sliceMade z t l u none).post Q s:=by
 cases e;unfold sliceMade;have h:∀tk t',Q (.str (if ((slicePicked z l u none).length == z.length)=true then z else ⟨((slicePicked z l u none).filterMap (z.cps[·]?)).toArray⟩) t') { s with toks:=tk }:=h;cases q:((slicePicked z l u none).length == z.length) with
 | true =>rw[q] at h;exact h s.toks t
 | false =>rw[q] at h;refine⟨?_,h _ _⟩;show ((slicePicked z l u none).filterMap (z.cps[·]?)).toArray.size<=sizeLine;rw[K2];refine K_ (MQ _ _) (K_ ?_ (dm h1));refine sliceRange_length_le _ _ _ _ (fun _=>?_) fun z=>absurd (show (1:Int) > 0 by decide) z;cases l <;> cases u <;> constructor <;> simp only[Option.map,Option.getD,show (1:Int) > 0 by decide,if_true] <;> first|omega|(split <;> omega)
theorem JD:SlR X (Ib X.K):=by
 intro pins s σ H x' v vl vu lo hi sl Q I rx hs pl pu h;obtain⟨m,st,x,rh,hx,w⟩:=h;unfold slW at w;split at w
 ·rename_i z;rw[R_str] at hx;subst hx;obtain⟨t,rfl⟩:=rx;obtain⟨h1,w⟩:=w;obtain⟨l,el,pl'⟩:=vK pl;obtain⟨u,eu,pu'⟩:=vK pu;subst el eu;refine ⟨"str",_,PyProof.Rows.slot_str_getitem.lookup,typeIs_str _ _ _,?_⟩;refine wpAny_getItem_str_slice (l:=l) (u:=u) (st:=none) hs rfl (Dd ?_ h1 fun tk t'=>⟨.str (il z lo hi),H,I.tok tk,⟨t',rfl⟩,w.here rh (R_str.mpr rfl)⟩);rw[pl',pu']
 ·rw[R_tup] at hx;obtain⟨a,ys,rfl,g,r⟩:=hx;by_cases hw:HT.sIx ys.length 0 lo=0/\HT.sIx ys.length ys.length hi=ys.length
  ·cases rx;obtain⟨its,r',ht,hz⟩:=I.tuple g;have hlen:its.toArray.size=ys.length:=by rw[K2];exact r'.length.symm
   refine ⟨"tuple",_,PyProof.Rows.slot_tuple_getitem.lookup,ht.typeIs,ik ht hs pl pu (by rw [hlen];exact hw) ?_⟩;refine⟨.ref a,H,I,rfl,w.here rh (R_tup.mpr ⟨a,ys,rfl,g,?_⟩)⟩;have:=r.cut lo hi;rw[ui hw] at this;exact this
  ·exact F0 pins s σ H _ v vl vu lo hi sl Q I rx hs pl pu ⟨a,ys,rfl,g,hw,fun p hp=>w.newT rh (r.cut lo hi) hp⟩
 ·obtain⟨xs,h1,w⟩:=w;obtain⟨a,ys,rfl,g,r⟩:=b9 rh hx h1;exact Co pins s σ H _ v vl vu lo hi sl Q I rx hs pl pu ⟨a,ys,rfl,g,fun p hp=>w.newL rh (r.cut lo hi) hp⟩
theorem Rs.one' {x:PV}(h:Rs K m H [x] ys):∃y,ys=[y]/\R K m H x y:=by rw[Rs_cons] at h;obtain⟨y,r,rfl,h1,h2⟩:=h;rw[Rs_nil] at h2;subst h2;exact⟨y,rfl,h1⟩
theorem Rs.two' {x:PV}(h:Rs K m H [x,z] ys):∃y u,ys=[y,u]/\R K m H x y/\R K m H z u:=by rw[Rs_cons] at h;obtain⟨y,r,rfl,h1,h2⟩:=h;obtain⟨u,rfl,h3⟩:=h2.one';exact⟨y,u,rfl,h1,h3⟩
theorem jB:∀ {xs:List PV}{bs:List Bool}{ys:List V}{us:List Value},eI xs=some bs->Rs K m H xs ys->Vals ys us->LSm.BoolsAre us bs
 | [],bs,ys,us,e,h,r=>by rw[Rs_nil] at h;subst h;cases r;cases e;exact .nil
 | x::xs,bs,ys,us,e,h,r=>by
  rw[Rs_cons] at h;obtain⟨y,q,rfl,h1,h2⟩:=h;cases x with
  | bl b =>
   cases r with
   | cons r1 r2 =>
    rw[R_bl] at h1;subst h1;cases r1;unfold eI at e;cases z:eI xs with
    | none=>rw[z] at e;cases e
    | some bs' =>rw[z] at e;cases e;exact .cons b (jB z h2 r2)
  | _=>cases e
theorem xb {vs:List Value}{A:Around}{E:Value->Shared->Prop}{s:Shared}{Q:Value->Shared->Prop}(hh:A.handled=none)(hl:s.heap.IsList l vs.toArray)(hb:LSm.BoolsAre vs bs)(h:∀h' tk,(∀b x,s.heap.get? b=some x->h'.get? b=some x)->Q (.bool (bs.all id)) { s with heap:=h',toks:=tk }):wpAny (model P w) A (call (.builtin "all") [.ref l]) Q E s:=by
 have hlt:l<s.heap.objs.size:=by obtain⟨_,e,_⟩:=hl;exact KO e
 refine call_all_walk (wpAny_pyIter_list hl ?_);refine⟨s.heap.objs.size,[s.heap.objs.size,l],[s.heap.objs.size],vs.toArray.size,_,_,fun i=>(bs[i]?).getD true,rfl,Walks.list (A:=A.in1) hh _ l (K6 hlt) vs.toArray,
  ⟨⟨_,KI _ rfl,rfl,rfl⟩,hl.push _⟩,fun i v s' Q' E' hP hQ=>?_,fun h' tk hk=>?_⟩
 ·obtain⟨b,e,rfl⟩:=hb.get i v (by simpa using hP);simp only[e,Option.getD_some] at hQ;exact wpAny_truthy_bool hQ
 ·have e:((List.range vs.toArray.size).all fun i=>(bs[i]?).getD true)=bs.all id:=by rw[K2,hb.length];exact LSm.range_all bs
  rw[e];exact h h' tk (LSm.kept_iter hk)
theorem wV {vs:List Value}{A:Around}{E:Value->Shared->Prop}{s:Shared}{Q:Value->Shared->Prop}(hh:A.handled=none)(hl:s.heap.IsList l vs.toArray)(hb:LSm.BoolsAre vs bs)(h:∀h' tk,(∀b x,s.heap.get? b=some x->h'.get? b=some x)->Q (.bool (bs.any id)) { s with heap:=h',toks:=tk }):wpAny (model P w) A (call (.builtin "any") [.ref l]) Q E s:=by
 have hlt:l<s.heap.objs.size:=by obtain⟨_,e,_⟩:=hl;exact KO e
 refine call_any_walk (wpAny_pyIter_list hl ?_);refine⟨s.heap.objs.size,[s.heap.objs.size,l],[s.heap.objs.size],vs.toArray.size,_,_,fun i=>(bs[i]?).getD false,rfl,Walks.list (A:=A.in1) hh _ l (K6 hlt) vs.toArray,
  ⟨⟨_,KI _ rfl,rfl,rfl⟩,hl.push _⟩,fun i v s' Q' E' hP hQ=>?_,fun h' tk hk=>?_⟩
 ·obtain⟨b,e,rfl⟩:=hb.get i v (by simpa using hP);simp only[e,Option.getD_some] at hQ;exact wpAny_truthy_bool hQ
 ·have e:((List.range vs.toArray.size).any fun i=>(bs[i]?).getD false)=bs.any id:=by rw[K2,hb.length];exact LSm.range_any bs
  rw[e];exact h h' tk (LSm.kept_iter hk)
noncomputable def Ip:B->Value
 | .len=>.builtin "len"
 | .max2=>.builtin "max"
 | .min2=>.builtin "min"
 | .divmod=>.builtin "divmod"
 | .int1=>.type "int"
 | .str1=>.type "str"
 | .tuple1=>.type "tuple"
 | .list1=>.type "list"
 | .all1=>.builtin "all"
 | .any1=>.builtin "any"
 | .abs1=>.builtin "abs"
 | .sorted1=>.builtin "sorted"
 | .repr1=>.builtin "repr"
 | .sortS=>.builtin "sorted"
 | .max1=>.builtin "max"
 | .sortD=>.builtin "sorted"
 | .repr2=>.builtin "repr"
theorem sY:∀ {ns:List Str}{ys:List V}{us:List Value},Rs K m H (ns.map PV.str) ys->Vals ys us->StrsAre us ns
 | [],ys,us,h,r=>by rw[LW,Rs_nil] at h;subst h;cases r;exact .nil
 | n::ns,ys,us,h,r=>by
  rw[KG] at h;obtain⟨y,ys',rfl,h1,h2⟩:=Rs_cons.mp h;rw[R_str] at h1;subst h1;cases r with
  | cons r1 r2 =>obtain⟨t,rfl⟩:=r1;exact .cons n t (sY h2 r2)
theorem g9:∀ {us:List Value}{ns:List Str},StrsAre us ns->Vals (ns.map V.str) us
 | _,_,.nil=>.nil
 | _,_,.cons n t r=>.cons ⟨t,rfl⟩ (g9 r)
theorem qg:∀ {ns:List Str},Rs K m H (ns.map PV.str) (ns.map V.str)
 | []=>by rw[LW,LW,Rs_nil]
 | n::ns=>by rw[KG,KG,Rs_cons',R_str];exact⟨rfl,qg⟩
theorem pF {σ:L2.St}{its:List Value}{Q:VK}(I:L2.Inv X pins σ H s)(hl:s.heap.IsList p its.toArray)(hi:StrsAre its ns)(hn:ns.length<64)(q:∀ns':List Str,ns'.Perm ns->sortedS ns'=true->∀l,H l=none->Q (.ref l) (upd H l (.lst (ns'.map V.str)))):wpAny (model X.prog X.w) X.A (call (.builtin "sorted") [.ref p]) (EP X pins σ Q) X.xe s:=by
 have hlen:its.length=ns.length:=by have:=(g9 hi).length;simpa using this.symm
 refine sorted_strs hl hi (by omega) fun out ns' h1 h2 h3=>?_;obtain⟨e,he⟩:=sortedAll_at s.heap its out;refine⟨.ref (s.heap.objs.size+1),_,I.laid (t':=s.toks) (fun b o=>sortedAll_old) (Nat.le_succ _) (show ObjOk X.prog X.w _ _ _ (.lst (ns'.map V.str)) from ⟨?_,out.toList,e,g9 h1,he⟩),rfl,q ns' h2 h3 _ (I.hok.fresh (Nat.le_succ _))⟩;rw[KH,h2.length_eq];exact LY (eS (by omega))
theorem qR {A:Around}{E:Value->Shared->Prop}{s:Shared}{P:Nat->Value->Prop}{R:List Value->Shared->Prop}(K:W.KdlSrc prog w T r d n P OK)(hh:A.handled=none)(hok:OK s.heap)(hn:n<=sizeLine)(h:∀(h':Heap) (tk:Nat) (acc:Array Value),(∀b o,s.heap.get? b=some o->h'.get? b=some o)->s.heap.objs.size<=h'.objs.size->ItemsOf P acc n->R acc.toList { s with heap:=h',toks:=tk }):wpAny (model prog w) A (collect (.ref r)) R E s:=by
 obtain⟨l1,l2⟩:=K.there _ hok;unfold collect;refine KA (wpAny_runValue (codeAny_builtin entry_proto_collect' ?_));rw[Around.under_plainId PySem.F.plain_proto_collect _];show wpAny _ A.in1 (newList [] >>= fun l=>again (.builtin "list.__iadd__" ⟨[l,.ref r],[]⟩)) _ _ s;refine KA (wpAny_newObj_type (KC ⟨plainId_quiet PySem.F.plain_list_iadd _,codeAny_builtin entry_list_iadd' ?_⟩));rw[Around.under_plainId PySem.F.plain_list_iadd _];have new:(s.heap.push { cls:=.type "list",data:=.seq ([]:List Value).toArray }).get? s.heap.objs.size=some { cls:=.type "list",data:=.seq #[] }:=KI _ rfl;show wpAny _ A.in1 (Builtin.List.listExtendWith (.ref s.heap.objs.size) (.ref r) (.ref s.heap.objs.size)) _ _ _;have main:=W.kdl_extend (A:=A) (s:={ s with heap:=s.heap.push { cls:=.type "list",data:=.seq ([]:List Value).toArray } })
  (R:=fun (q:Result) (s':Shared)=>∃(h':Heap) (tk:Nat) (zs:Array Value) (c:Nat),q=.ok (.ret (.ref s.heap.objs.size))/\s'={ s with heap:=h',toks:=tk }/\(∀b o,s.heap.get? b=some o->h'.get? b=some o)/\h'.get? s.heap.objs.size=some { cls:=.type "list",dict:=none,data:=.seq zs c,slots:=#[] }/\ItemsOf P zs n)
  K hh (K.keep _ _ hok fun b _ o e=>KB _ e) s.heap.objs.size (ME l1) (ME l2) (.ref s.heap.objs.size) 0 new
  (fun h' tk zs c hk hS hz=>⟨h',tk,zs,c,rfl,rfl,fun b o e=>hk b o (K6 (KO e)) (KB _ e),hS,hz⟩) hn
 refine wpAny_mono main (fun fin s' x=>?_) fun e s' x=>?_
 ·cases fin with
  | done f =>obtain⟨h',tk,zs,c,e,rfl,hk,hS,hz⟩:=x;cases e;show wpAny _ A (load s.heap.objs.size >>= _) _ _ _;exact KA (wpAny_load hS (KC (h h' tk zs hk (LY (KO hS)) hz)))
  | again c₁ =>refine⟨x.1,codeAny_mono x.2 fun q s₂ y=>?_⟩;obtain⟨h',tk,zs,c,rfl,rfl,hk,hS,hz⟩:=y;show wpAny _ A (load s.heap.objs.size >>= _) _ _ _;exact KA (wpAny_load hS (KC (h h' tk zs hk (LY (KO hS)) hz)))
 ·obtain⟨_,_,_,_,e',_⟩:=x;cases e'
theorem my {P:Program}{w:World}:∀ {ss:List Str}{vs:List Value},vs.length=ss.length->(∀(j:Nat) v,vs[j]?=some v->∃x,ss[j]?=some x/\∃t,v=.str x t)->StrsAre vs ss
 | [],vs,hl,h=>by
  cases vs with
  | nil=>exact .nil
  | cons _ _=>simp at hl
 | s::ss,vs,hl,h=>by
  cases vs with
  | nil=>simp at hl
  | cons v vs =>obtain⟨x,e,t,rfl⟩:=h 0 v rfl;simp at e;subst e;exact .cons _ t (my (P:=P) (w:=w) (by simpa using hl) fun j u hu=>by simpa using h (j+1) u (by simpa using hu))
theorem pN {σ:L2.St}{ss:List Str}{Q:VK}(hcalm:X.calm=true)(I:L2.Inv X pins σ H s)(g:Rd H a (.dK ys))(hk:ys.map (·.1)=ss.map Sum.inr)(hn:ss.length<64)(q:∀ss':List Str,ss'.Perm ss->sortedS ss'=true->∀l,H l=none->Q (.ref l) (upd H l (.lst (ss'.map V.str)))):wpAny (model X.prog X.w) X.A (call (.builtin "sorted") [.ref a]) (EP X pins σ Q) X.xe s:=by
 obtain⟨z,lo,vs,rel,dd⟩:=wy I.hok g;obtain⟨ep,hat⟩:=dd.dictAt;have hv:vs.length=ss.length:=by rw[<-rel.length];simpa using LG List.length hk
 have kk:vs.map (·.1)=ss.map Sum.inr:=by rw[<-rel.keys];exact hk
 refine Calls.call_function_entry kind_sorted plain_sorted entry_sorted (args_sorted1 _) ?_;unfold Builtin.«sorted»;refine KA (m:=checkCount "sorted" 1 1 _) (KC ?_);refine KA (qR (A:=X.A.in1) (W.kdl_dict (knd:=aV X.prog X.w) (kvs:=vs) (ep:=ep) lo) (I.ok.hd hcalm) hat (LY (eS (by omega))) fun h1 tk acc k1 z1 hacc=>?_);have hl:acc.toList.length=ss.length:=by rw[MS,hacc.1,hv]
 have hS:StrsAre acc.toList ss:=my (P:=X.prog) (w:=X.w) hl fun j v e=>by
  obtain⟨k,x,hx,hkk⟩:=hacc.2 j v (by rw[<-NL];exact e);have e2:(vs.map (·.1))[j]?=some k:=by rw[KM,hx];rfl
  rw[kk,KM] at e2;obtain⟨x',h3,rfl⟩:=K4.mp e2;obtain⟨t,rfl⟩:=Value.isStrOf_shape (show Value.isStrOf x' v=true from hkk);exact⟨x',h3,t,rfl⟩
 refine KA (wpAny_newList ?_ (by rw[hl];exact LY (eS (by omega))));have hoL:(h1.push (seqObj "list" acc.toList.toArray 0)).get? h1.objs.size=some (seqObj "list" acc.toList.toArray 0):=KI _ rfl;refine KA (L3 (wpAny_call_entry slot_list_sort ⟨_,hoL,rfl⟩ entry_list_sort (list_sort_treeK strKind_oneLt hoL hS.keysOf (fun v₁ v₂ rest e=>keyKind_strs (by rw[<-e];exact hS)) (by rw[hl];exact hn) fun st' hp hs=>⟨_,rfl,?_⟩) (args_list_sort _)));obtain⟨ss',a1,a2,a3⟩:=sorted_out_str hS hp hs;refine KC ⟨_,rfl,?_⟩;obtain⟨e,he⟩:=sortedHeap_at (out:=(arrOf st').map (·.2)) hoL;refine⟨.ref h1.objs.size,_,I.laid (t':=tk) (fun b o eb=>?_) z1 (show ObjOk X.prog X.w _ _ _ (.lst (ss'.map V.str)) from ⟨?_,_,e,g9 a1,he⟩),rfl,q ss' a2 a3 _ (I.hok.fresh z1)⟩
 ·have lb:b<h1.objs.size:=KY (KO eb) z1;rw[sortedHeap_old (K6 lb) (by rw[size_push'];exact Nat.lt_succ_of_lt lb)];exact KB _ (k1 b o eb)
 ·rw[KH,a2.length_eq];exact LY (eS (by omega))
section
variable {prog:Program}{w:World}{A:Around}{E:Value->Shared->Prop}{s:Shared}{l:Addr}{xs:Array (Int × Tok)}
end
theorem jG {α:Type}{o:Option α}{r:List (Option α)}{ds:List α}(h:cC (o::r)=some ds):∃d es,o=some d/\cC r=some es/\ds=d::es:=by
 cases o with
 | none=>cases h
 | some x =>
  cases q:cC r with
  | none=>rw[cC,q] at h;cases h
  | some es=>rw[cC,q] at h;cases h;exact⟨x,es,rfl,rfl,rfl⟩
theorem j8 {f:PV->Option PyData}{b:Bool}:∀ {ps:List PV}{vs:List V}{us:List Value}{ds:List PyData},(∀p v u d,R K m H p v->RelV v u->f p=some d->∃as,Reads h u d as/\(b=true->sysModules ∉ as)/\(b=false->d.hasDict=false)) ->
  Rs K m H ps vs->Vals vs us->cC (ps.map f)=some ds->∃as,ReadsAll h us ds as/\(b=true->sysModules ∉ as)/\(b=false->PyData.hasDictAll ds=false)
 | [],vs,us,ds,_,r,rv,e=>by rw[Rs_nil] at r;subst r;cases rv;cases e;exact⟨_,.nil,fun _ z=>(nomatch z),fun _=>by simp[PyData.hasDictAll]⟩
 | p::ps,vs,us,ds,hf,r,rv,e=>by
  rw[Rs_cons] at r;obtain⟨y,q,rfl,r1,r2⟩:=r;obtain⟨d,es,e1,e2,rfl⟩:=jG e;cases rv with
  | cons v1 v2 =>
   obtain⟨as,k1,k2,k3⟩:=hf p y _ d r1 v1 e1;obtain⟨bs,j1,j2,j3⟩:=j8 hf r2 v2 e2;refine⟨_,.cons k1 j1,fun z hm=>?_,fun z=>by simp[PyData.hasDictAll,k3 z,j3 z]⟩;rcases K7.mp hm with h|h
   ·exact k2 z h
   ·exact j2 z h
theorem jk {α:Type}:∀ {l:List (Option α)}{ds:List α},cC l=some ds->ds.length=l.length
 | [],ds,e=>by cases e;rfl
 | o::r,ds,e=>by obtain⟨d,es,_,e2,rfl⟩:=jG e;rw[LI,LI,jk e2]
theorem AO {us:List (Key × V)}{vs:List (Key × Value)}(h:KV us vs):us.map (·.1)=vs.map (·.1)/\Vals (us.map (·.2)) (vs.map (·.2))/\us.length=vs.length:=by
 unfold KV at h
 induction h with
 | nil=>exact⟨rfl,.nil,rfl⟩
 | cons f t ih=>exact⟨by rw[KG,KG,f.1,ih.1],.cons f.2 ih.2.1,by rw[LI,LI,ih.2.2]⟩
theorem tw (hp:Pairs (aV P w) es vs):ReadsAll h (es.map (·.key)) ((vs.map (·.1)).map kD) []/\es.map (·.val)=vs.map (·.2):=by
 induction hp with
 | nil=>exact⟨.nil,rfl⟩
 | cons a b _ ih =>
  refine⟨?_,by rw[KG,KG,ih.2,b]⟩;rcases aS a with⟨i,t,e1,e2⟩|⟨x,t,e1,e2⟩
  ·rw[KG,KG,KG,e1,e2];exact .cons (as:=[]) (.int i t) ih.1
  ·rw[KG,KG,KG,e1,e2];exact .cons (as:=[]) (.str x t) ih.1
theorem hZ {f:PV->Option PyData}:∀ {ps:List PV}{vs:List V}{us:List Value}{ds:List PyData},(∀p v u d,R K m H p v->RelV v u->f p=some d->∃as,Reads h u d as/\sysModules ∉ as) ->
  Rs K m H ps vs->Vals vs us->cC (ps.map f)=some ds->∃as,ReadsAll h us ds as/\sysModules ∉ as
 | [],vs,us,ds,_,r,rv,e=>by rw[Rs_nil] at r;subst r;cases rv;cases e;exact⟨_,.nil,fun z=>(nomatch z)⟩
 | p::ps,vs,us,ds,hf,r,rv,e=>by
  rw[Rs_cons] at r;obtain⟨y,q,rfl,r1,r2⟩:=r;obtain⟨d,es,e1,e2,rfl⟩:=jG e;cases rv with
  | cons v1 v2 =>obtain⟨as,k1,k2⟩:=hf p y _ d r1 v1 e1;obtain⟨bs,j1,j2⟩:=hZ hf r2 v2 e2;exact⟨_,.cons k1 j1,fun hm=>(K7.mp hm).elim k2 j2⟩
theorem dF {σ:L2.St}(I:L2.Inv X pins σ H s)(rh:RH X.K m H st):∀(n:Nat) (p:PV) (v:V) (u:Value) (d:PyData),R X.K m H p v->RelV v u->shX st n p=some d ->
  ∃as,Reads s.heap u d as/\sysModules ∉ as
 | n,.non,v,u,d,r,rv,e=>by
  have e:some PyData.none=some d:=by cases n <;> exact e
  cases e;rw[R_non] at r;subst r;cases rv;exact⟨_,.none,fun z=>(nomatch z)⟩
 | n,.bl c,v,u,d,r,rv,e=>by
  have e:some (PyData.bool c)=some d:=by cases n <;> exact e
  cases e;rw[R_bl] at r;subst r;cases rv;exact⟨_,.bool c,fun z=>(nomatch z)⟩
 | n,.int c,v,u,d,r,rv,e=>by
  have e:some (PyData.int c)=some d:=by cases n <;> exact e
  cases e;rw[R_int] at r;subst r;obtain⟨t,rfl⟩:=rv;exact⟨_,.int c t,fun z=>(nomatch z)⟩
 | n,.str c,v,u,d,r,rv,e=>by
  have e:some (PyData.str c)=some d:=by cases n <;> exact e
  cases e;rw[R_str] at r;subst r;obtain⟨t,rfl⟩:=rv;exact⟨_,.str c t,fun z=>(nomatch z)⟩
 | n,.rdl c,v,u,d,r,rv,e=>by
  have e:none=some d:=by cases n <;> exact e
  cases e
 | n,.fn c,v,u,d,r,rv,e=>by
  have e:none=some d:=by cases n <;> exact e
  cases e
 | 0,.tup c,v,u,d,r,rv,e=>by cases e
 | 0,.ref c,v,u,d,r,rv,e=>by cases e
 | n+1,.tup xs,v,u,d,r,rv,e=>by have e:(cC (xs.map (shX st n))).map PyData.tuple=some d:=e;obtain⟨ds,e1,rfl⟩:=K4.mp e;rw[R_tup] at r;obtain⟨a,ys,rfl,g,r⟩:=r;cases rv;obtain⟨its,rv,⟨o,ho,hc,k,hd⟩,_⟩:=I.tuple g;obtain⟨as,q1,q2⟩:=hZ (dF I rh n) r rv e1;exact⟨as,.tuple ho hc hd (by simpa using q1),q2⟩
 | n+1,.ref k,v,u,d,r,rv,e=>by
  have e:(match st[k]? with
   | some (.lst xs)=>(cC (xs.map (shX st n))).map .list
   | some (.dk kvs)=>(cC (kvs.map fun kv=>shX st n kv.2)).map fun ds=>.dict ((kvs.map fun kv=>kD kv.1).zip ds)
   | some (.od kvs)=>match cC (kvs.map fun kv=>shX st n kv.1) with
    | some es=>(cC (kvs.map fun kv=>shX st n kv.2)).map fun ds=>.dict (es.zip ds)
    | none=>none
   | some (.fz _)=>none
   | none=>none)=some d:=e
  rw[R_ref] at r;obtain⟨a,ea,rfl⟩:=r;cases rv;cases q:st[k]? with
  | none=>rw[q] at e;cases e
  | some c =>
   rw[q] at e;have hc:=rh.at_ k c a q ea;cases c with
   | lst xs =>
    have e:(cC (xs.map (shX st n))).map PyData.list=some d:=e;obtain⟨ds,e1,rfl⟩:=K4.mp e;obtain⟨ys,g,r3⟩:=hc;obtain⟨its,rv,p,_⟩:=I.list (SqL.of g);obtain⟨o,ho,hc,j,hd⟩:=p.isList;obtain⟨as,q1,q2⟩:=hZ (dF I rh n) r3 rv e1;obtain⟨so,hs⟩:=rh.tb.2;refine⟨_,.list ho hc hd (by simpa using q1),fun hm=>?_⟩;rcases LC.mp hm with hm|hm
    ·rw[<-hm,hs] at g;cases g
    ·exact q2 hm
   | dk kvs =>
    have e:(cC (kvs.map fun kv=>shX st n kv.2)).map (fun ds=>PyData.dict ((kvs.map fun kv=>kD kv.1).zip ds))=some d:=e;obtain⟨ds,e1,rfl⟩:=K4.mp e;obtain⟨us,g1,g2,g3⟩:=hc;obtain⟨_,ns,vs,kv,o,es,ep,ho,hx,hd,_,hp,_⟩:=I.hok a _ g1;obtain⟨v1,v2,v3⟩:=AO kv;obtain⟨p1,p2⟩:=tw hp;rw[show (kvs.map fun kv=>shX st n kv.2)=(kvs.map (·.2)).map (shX st n) by rw[LF];rfl] at e1;obtain⟨as,q1,q2⟩:=hZ (dF I rh n) g3 v2 e1;have hl:ds.length=kvs.length:=by have:=jk e1;simpa using this
    rw[<-p2] at q1;rw[v1.symm.trans g2] at p1;have hz1:((kvs.map fun kv=>kD kv.1).zip ds).map (·.1)=(kvs.map (·.1)).map kD:=by rw[N8 (by simp[hl]),LF];rfl
    have hz2:((kvs.map fun kv=>kD kv.1).zip ds).map (·.2)=ds:=N9 (by simp[hl]);refine⟨_,.dict (kvs:=(kvs.map fun kv=>kD kv.1).zip ds) (as:=[]) (bs:=as) ho hx.1 hd (by rw[hz1];exact p1) (by rw[hz2];exact q1),fun hm=>?_⟩;rcases LC.mp hm with hm|hm
    ·rw[<-hm] at ns;simp at ns
    ·exact q2 hm
   | fz kvs=>cases e
   | od kvs =>
    obtain⟨o,ks,vs,g1,⟨ns,hx,es,ep,hd,w1,w2⟩,g3,g4⟩:=hc;obtain⟨ho,_⟩:=I.hok a _ g1;have e:(match cC (kvs.map fun kv=>shX st n kv.1) with
     | some es=>(cC (kvs.map fun kv=>shX st n kv.2)).map fun ds=>PyData.dict (es.zip ds)
     | none=>none)=some d:=e
    cases q1:cC (kvs.map fun kv=>shX st n kv.1) with
    | none=>rw[q1] at e;cases e
    | some ks' =>
     rw[q1] at e;have e:(cC (kvs.map fun kv=>shX st n kv.2)).map (fun ds=>PyData.dict (ks'.zip ds))=some d:=e;obtain⟨ds,e1,rfl⟩:=K4.mp e;rw[show (kvs.map fun kv=>shX st n kv.2)=(kvs.map (·.2)).map (shX st n) by rw[LF];rfl] at e1;rw[show (kvs.map fun kv=>shX st n kv.1)=(kvs.map (·.1)).map (shX st n) by rw[LF];rfl] at q1;obtain⟨as,b1,b2⟩:=hZ (dF I rh n) g3 w1 q1;obtain⟨bs,c1,c2⟩:=hZ (dF I rh n) g4 w2 e1;have l1:ks'.length=kvs.length:=by simpa using jk q1
     have l2:ds.length=kvs.length:=by simpa using jk e1
     have hz1:(ks'.zip ds).map (·.1)=ks':=N8 (by omega);have hz2:(ks'.zip ds).map (·.2)=ds:=N9 (by omega);refine⟨_,.dict (kvs:=ks'.zip ds) (as:=as) (bs:=bs) ho hx.1 hd (by rw[hz1];exact b1) (by rw[hz2];exact c1),fun hm=>?_⟩;rcases LC.mp hm with hm|hm
     ·rw[<-hm] at ns;simp at ns
     ·exact(K7.mp hm).elim b2 c2
theorem pU:cV X (.type "int") (fun xs H Q=>∃z n,xs=[.str z]/\z.length<=640/\PySem.intText? z=some n/\Q (.int n) H):=by intro pins s σ H xs us Q I r h;obtain⟨z,n,rfl,h1,h2,q⟩:=h;obtain⟨u,rfl,t,rfl⟩:=bC r;exact W.KIN.call_text h2 h1 ⟨.int n,H,I.tok _,⟨_,rfl⟩,q⟩
theorem Gx (hc:X.calm=true)(hgd:X.A.guards=some [])(hun:X.A.units+64<cLine)(b:B):cV X (Ip b) (HL X.K (cw b)):=by
 intro pins s σ H xs' us Q I r h;obtain⟨m,st,xs,rh,hx,w⟩:=h;cases b with
 | len =>
  obtain⟨x0,rfl,w⟩:=aE w;obtain⟨y,rfl,hy⟩:=hx.one';rcases tR w with⟨z,rfl,h1,w⟩|⟨ys,h1,w⟩
  ·rw[R_str] at hy;subst hy;exact qA pins s σ H _ us Q I r ⟨_,rfl,dm h1,w.here rh (R_int.mpr rfl)⟩
  obtain⟨a,zs,rfl,g,rz⟩:=gF rh hy h1;refine pI pins s σ H _ us Q I r ⟨a,zs,rfl,g,?_⟩;have:=w.here rh (x:=V.int ys.length) (R_int.mpr rfl);rw[rz.len] at this;exact this
 | max2 =>obtain⟨x0,y0,rfl,w⟩:=cS w;obtain⟨i,j,rfl,rfl,w⟩:=bw w;obtain⟨y,u,rfl,hy,hu⟩:=hx.two';rw[R_int] at hy hu;subst hy hu;exact xr hc pins s σ H _ us Q I r ⟨_,_,rfl,w.here rh (R_int.mpr rfl)⟩
 | min2 =>obtain⟨x0,y0,rfl,w⟩:=cS w;obtain⟨i,j,rfl,rfl,w⟩:=bw w;obtain⟨y,u,rfl,hy,hu⟩:=hx.two';rw[R_int] at hy hu;subst hy hu;exact xS hc pins s σ H _ us Q I r ⟨_,_,rfl,w.here rh (R_int.mpr rfl)⟩
 | divmod =>obtain⟨x0,y0,rfl,w⟩:=cS w;obtain⟨i,j,rfl,rfl,w⟩:=bw w;obtain⟨y,u,rfl,hy,hu⟩:=hx.two';rw[R_int] at hy hu;subst hy hu;refine qE pins s σ H _ us Q I r ⟨_,_,rfl,w.1,fun p hp=>w.2.newT rh ?_ hp⟩;rw[Rs_cons',Rs_cons',Rs_nil,R_int,R_int];exact⟨rfl,rfl,rfl⟩
 | int1 =>
  obtain⟨x0,rfl,w⟩:=aE w;obtain⟨y,rfl,hy⟩:=hx.one';rcases o5 w with⟨b0,rfl,w⟩|⟨z,n,rfl,h1,h2,w⟩
  case inr =>rw[R_str] at hy;subst hy;exact pU pins s σ H _ us Q I r ⟨_,_,rfl,h1,h2,w.here rh (R_int.mpr rfl)⟩
  rw[R_bl] at hy;subst hy;exact xw pins s σ H _ us Q I r (.inr ⟨_,rfl,w.here rh (R_int.mpr rfl)⟩)
 | str1 =>obtain⟨x0,rfl,w⟩:=aE w;obtain⟨i,rfl,w⟩:=lg w;obtain⟨y,rfl,hy⟩:=hx.one';rw[R_int] at hy;subst hy;exact qB pins s σ H _ us Q I r ⟨_,rfl,w.1,w.2.here rh (R_str.mpr rfl)⟩
 | tuple1 =>
  obtain⟨x0,rfl,w⟩:=aE w;obtain⟨ys,h1,w⟩:=w;obtain⟨y,rfl,hy⟩:=hx.one';obtain⟨a,zs,rfl,g,rz⟩:=gF rh hy h1;refine nR pins s σ H _ us Q I r ⟨a,zs,rfl,?_⟩;rcases g with g|g
  ·exact .inl ⟨g,fun p hp=>w.newT rh rz hp⟩
  ·exact .inr ⟨g,w.here rh (R_tup.mpr ⟨a,zs,rfl,g,rz⟩)⟩
 | list1 =>obtain⟨x0,rfl,w⟩:=aE w;obtain⟨ys,h1,w⟩:=w;obtain⟨y,rfl,hy⟩:=hx.one';obtain⟨a,zs,rfl,g,rz⟩:=gF rh hy h1;exact pD pins s σ H _ us Q I r ⟨a,zs,rfl,g,fun p hp=>w.newL rh rz hp⟩
 | all1 =>obtain⟨x0,rfl,w⟩:=aE w;obtain⟨ys,bs,h1,h2,w⟩:=w;obtain⟨y,rfl,hy⟩:=hx.one';obtain⟨a,zs,rfl,g,rz⟩:=b9 rh hy h1;obtain⟨u,rfl,ru⟩:=bC r;cases ru;obtain⟨its,ri,pl,_⟩:=I.list g;exact xb (I.ok.hd hc) pl.isList (jB h2 rz ri) fun h' tk k=>⟨.bl _,H,I.kept k,rfl,w.here rh (R_bl.mpr rfl)⟩
 | any1 =>obtain⟨x0,rfl,w⟩:=aE w;obtain⟨ys,bs,h1,h2,w⟩:=w;obtain⟨y,rfl,hy⟩:=hx.one';obtain⟨a,zs,rfl,g,rz⟩:=b9 rh hy h1;obtain⟨u,rfl,ru⟩:=bC r;cases ru;obtain⟨its,ri,pl,_⟩:=I.list g;exact wV (I.ok.hd hc) pl.isList (jB h2 rz ri) fun h' tk k=>⟨.bl _,H,I.kept k,rfl,w.here rh (R_bl.mpr rfl)⟩
 | abs1=>exact False.elim w
 | sorted1=>exact False.elim w
 | sortS =>obtain⟨x0,rfl,w⟩:=aE w;obtain⟨ss,h1,h2,w⟩:=w;obtain⟨y,rfl,hy⟩:=hx.one';obtain⟨a,zs,rfl,g,rz⟩:=b9 rh hy h1;obtain⟨u,rfl,ru⟩:=bC r;cases ru;obtain⟨its,ri,pl,_⟩:=I.list g;exact pF I pl.isList (sY rz ri) h2 fun ss' p1 p2 l hl=>(w ss' p1 p2).newL rh qg hl
 | sortD =>obtain⟨x0,rfl,n,rfl,kvs,h1,ss,h2,h3,w⟩:=aE w;obtain⟨y,rfl,hy⟩:=hx.one';obtain⟨a,ys,rfl,_,g,r1,r2⟩:=rh.dkrd h1 hy;obtain⟨u,rfl,ru⟩:=bC r;cases ru;exact pN hc I g (r1.trans h2) h3 fun ss' p1 p2 l hl=>(w ss' p1 p2).newL rh qg hl
 | max1=>exact False.elim w
 | repr1=>exact False.elim w
 | repr2 =>
  obtain⟨x0,rfl,w⟩:=aE w;obtain⟨y,rfl,hy⟩:=hx.one';obtain⟨u,rfl,ru⟩:=bC r;have big:(∃n,y=.ref n)->(∃d,shX st 9 x0=some d/\(d.showable=true/\d.depth<=60/\d.shown.length<=sizeLine)/\post X.K m H Q (.str d.shown) st)->wpAny (model X.prog X.w) X.A (call (.builtin "repr") [u]) (EP X pins σ Q) X.xe s:=by rintro⟨a,rfl⟩ ⟨d,h1,⟨h2,h4,h5⟩,w⟩;obtain⟨as,ra,q1⟩:=dF I rh 9 x0 _ u d hy ru h1;cases ru;refine repr_of_reads' ra h2 (fun _=>q1) hgd (by omega) (fun _ _ e=>e) (fun h' t tk k=>⟨.str _,H,I.kept k,⟨t,rfl⟩,w.here rh (R_str.mpr rfl)⟩) h5
  cases x0 with
  | non=>rw [R_non] at hy;subst hy;cases ru;exact P.repr_of_none ⟨.str _,H,I.tok _,⟨_,rfl⟩,(show post X.K m H Q (.str "None") st from w).here rh (R_str.mpr rfl)⟩
  | bl b=>rw [R_bl] at hy;subst hy;cases ru;exact P.repr_of_bool ⟨.str (if b then "True" else "False"),H,I.tok _,⟨_,rfl⟩,(show post X.K m H Q (.str (if b then "True" else "False")) st from w).here rh (R_str.mpr rfl)⟩
  | int i=>rw[R_int] at hy;subst hy;obtain⟨t,rfl⟩:=ru;exact P.repr_of_int w.1 ⟨.str _,H,I.tok _,⟨_,rfl⟩,w.2.here rh (R_str.mpr rfl)⟩
  | str i=>rw[R_str] at hy;subst hy;obtain⟨t,rfl⟩:=ru;exact P.repr_of_str ⟨.str _,H,I.tok _,⟨_,rfl⟩,w.2.here rh (R_str.mpr rfl)⟩ w.1
  | tup xs=>exact big (by rw[R_tup] at hy;obtain⟨a,_,rfl,_⟩:=hy;exact⟨a,rfl⟩) w
  | ref n=>exact big (by rw[R_ref] at hy;obtain⟨a,_,rfl⟩:=hy;exact⟨a,rfl⟩) w
  | rdl xs=>obtain⟨d,h1,_⟩:=w;cases h1
  | fn n=>obtain⟨d,h1,_⟩:=w;cases h1
theorem yb (h:bg st x=some n):n∈["NoneType","bool","int","str","list","tuple","dict"]:=by
 cases x with
 | ref k =>unfold bg at h;simp only at h;split at h <;> cases h <;> decide
 | _=>cases h <;> decide
theorem CU {σ:L2.St}{E:Value->Shared->Prop}{K:W.Frag}{c:String}{Q:Value->Shared->Prop}(I:Inv X pins σ H s)(rh:RH X.K m H st)(hx:R X.K m H x x')(ru:RelV x' u)(hk:bg st x=some n)(hc:c∈["int","bool","str","tuple","list","dict"])(h:∀tk,Q (.bool (bF c n)) { s with toks:=tk }) :
  wpAny (model X.prog X.w) A (call (.builtin "isinstance") [u,.type c]) Q E s:=by
 have e:=AL X.K c hc n (yb hk);cases x with
 | non=>cases hk;rw[R_non] at hx;subst hx;exact dG I ru .non e h
 | bl b=>cases hk;rw[R_bl] at hx;subst hx;exact dG I ru (.bl b) e h
 | fn b=>cases hk
 | int b=>cases hk;rw[R_int] at hx;subst hx;exact dG I ru (.int b) e h
 | str b=>cases hk;rw[R_str] at hx;subst hx;exact dG I ru (.str b) e h
 | tup xs =>cases hk;rw[R_tup] at hx;obtain⟨a,ys,rfl,g,r⟩:=hx;cases ru;obtain⟨its,_,⟨o,ho,hcl,_⟩,_⟩:=I.tuple g;exact MC W.kitx_tuple I.kIn ⟨o,ho,hcl⟩ e (fun z=>nomatch z) h
 | rdl xs =>cases hk;rw[eD] at hx;obtain⟨a,ys,rfl,g,r⟩:=hx;cases ru;obtain⟨its,_,pl,_⟩:=I.list g.sq;obtain⟨o,ho,hcl,_⟩:=pl.isList;exact MC OZ I.kIn ⟨o,ho,hcl⟩ e (fun z=>nomatch z) h
 | ref k =>
  unfold bg at hk;simp only at hk;split at hk
  ·cases hk;rename_i q;obtain⟨a,ys,rfl,_,h1,h2⟩:=rh.lst q hx;exact dG I ru (.lst h1) e h
  ·cases hk;rename_i kvs q;rw[R_ref] at hx;obtain⟨a,e1,rfl⟩:=hx;obtain⟨ys,h1,_⟩:=rh.at_ k _ a q e1;exact dG I ru (.dK h1) e h
  ·cases hk;rename_i kvs q;rw[R_ref] at hx;obtain⟨a,e1,rfl⟩:=hx;obtain⟨o,ys,h1,_⟩:=rh.at_ k _ a q e1;cases ru;obtain⟨ho,_,_,vs,_,o',_,_,ho',hcl,_⟩:=I.hok a _ h1;exact MC OR I.kIn ⟨o',ho',hcl.1⟩ e (fun z=>nomatch z) h
  ·cases hk;rename_i kvs q;rw[R_ref] at hx;obtain⟨a,e1,rfl⟩:=hx;obtain⟨o,ks,vs,h1,⟨_,hx,_⟩,_⟩:=rh.at_ k _ a q e1;cases ru;obtain⟨ho,_⟩:=I.hok a _ h1;exact MC OR I.kIn ⟨o,ho,hx.1⟩ e (fun z=>nomatch z) h
  ·cases hk
noncomputable def vW:M->String
 | .append=>"list.append"
 | .pop0=>"list.pop"
 | .extend=>"list.extend"
 | .insert=>"list.insert"
 | .count=>"list.count"
 | .index=>"list.index"
 | .popI=>"list.pop"
noncomputable def Ce:V->List V->Hp->VK->Prop:=fun x vs H Q=>∃(l:Addr) (xs:List V) (i:Int) (y:V),x=.ref l/\vs=[.int i,y]/\H l=some (.lst xs)/\0<=i/\i<=xs.length/\xs.length<100000/\Q .non (upd H l (.lst (xs.take i.toNat++y::xs.drop i.toNat)))
theorem xc:MtR X "list.insert" Ce:=by
 intro pins s σ H x vs v us Q I rx rv h;obtain⟨l,xs,i,y,rfl,rfl,hH,hk0,hk,hz,q⟩:=h;cases rx;cases rv with
 | cons r1 rr =>
 obtain⟨u,rfl,ru⟩:=bC rr;obtain⟨t,rfl⟩:=r1;obtain⟨z,its,n,r,hl,e⟩:=I.lstM hH;have hlen:=r.length;have hzz:=eS hz;have fit:¬(!Builtin.List.listFitsIndex i)=true:=by simp[Builtin.List.listFitsIndex];omega
 have M:=PySem.AutoSeq1.list_insert_list_int_val_1 l its.toArray n i t u fit (by rw[K2];omega);refine call_meets PySem.F.slot_list_insert ⟨_,e,rfl⟩ PySem.F.entry_list_insert (PySem.F.args_list_insert_3 _ _ _) M ⟨e,?_⟩;refine⟨.non,_,I.lset (its':=its.take i.toNat++u::its.drop i.toNat) hH e ?_ ?_ ?_,rfl,q⟩
 ·have e0:¬(i<0):=by omega
  have e1:min i.toNat its.length=i.toNat:=by omega
  simp only[List.size_toArray,e0,if_false,e1];apply Array.ext';simp;exact L4 (by simp)
 ·exact(r.take _).append (.cons ru (r.drop _))
 ·simp;omega
noncomputable def Hg (K:W.Frag)(w:PV->List PV->AH->EK->Prop):V->List V->Hp->VK->Prop:=fun x' xs' H Q=>∃m st x xs,RH K m H st/\R K m H x x'/\Rs K m H xs xs'/\w x xs st (post K m H Q)
theorem F' (c:M):MtR X (vW c) (Hg X.K (rZ c)):=by
 intro pins s σ H x' vs' v us Q I rx rv h;obtain⟨m,st,x,vs,rh,hx,hv,w⟩:=h;cases c with
 | append =>obtain⟨n0,rfl,w⟩:=lr w;obtain⟨x0,rfl,w⟩:=aE w;obtain⟨xs,h1,h2,w⟩:=w;obtain⟨a,ys,rfl,e,g,r⟩:=rh.lst h1 hx;obtain⟨y,rfl,hy⟩:=hv.one';exact oJ pins s σ H _ _ v us Q I rx rv ⟨a,ys,y,rfl,rfl,g,by rw[<-r.len];exact eS h2,w.setL rh e (nfL g) (r.app (.one hy)) (R_non.mpr rfl)⟩
 | pop0=>exact False.elim w
 | popI=>exact False.elim w
 | index=>exact False.elim w
 | count=>exact False.elim w
 | extend=>exact False.elim w
 | insert =>
  obtain⟨n0,rfl,w⟩:=lr w;obtain⟨i0,z,rfl,w⟩:=cS w;obtain⟨i,rfl,w⟩:=lg w;obtain⟨xs,h1,h2,i0,i1,w⟩:=w;obtain⟨a,ys,rfl,e,g,r⟩:=rh.lst h1 hx;obtain⟨y1,y2,rfl,hy1,hy2⟩:∃y1 y2,vs'=[y1,y2]/\R X.K m H (.int i) y1/\R X.K m H z y2:=by rw[Rs_cons] at hv;obtain⟨y1,t,rfl,q1,hv⟩:=hv;obtain⟨y2,rfl,h2⟩:=hv.one';exact⟨y1,y2,rfl,q1,h2⟩
  rw[R_int] at hy1;subst hy1;exact xc pins s σ H _ _ v us Q I rx rv ⟨a,ys,i,y2,rfl,rfl,g,i0,by rw[<-r.len];omega,by rw[<-r.len];omega,w.setL rh e (nfL g) ((r.take _).app (Rs_cons'.mpr ⟨hy2,r.drop _⟩)) (R_non.mpr rfl)⟩
noncomputable def J1 (K:W.Frag):V->V->V->Hp->(Hp->Prop)->Prop:=fun o' i' v' H Q=>∃m st o i v,RH K m H st/\R K m H o o'/\R K m H i i'/\R K m H v v'/\qd o i v st fun st'=>∀H',Ext K m H m H'->RH K m H' st'->Q H'
theorem FK (hu:X.A.units+64<cLine):FB X (J1 X.K):=by
 intro pins s σ H o' i' v' ov iv u Q I ro ri rv h;obtain⟨m,st,o,i,v,rh,ho,hi,hv,w⟩:=h;unfold qd at w;split at w
 ·obtain⟨xs,h1,q,h2,w⟩:=w;obtain⟨a,ys,rfl,e,g,r⟩:=rh.lst h1 ho;rw[R_int] at hi;subst hi;exact AZ pins s σ H _ _ _ ov iv u Q I ro ri rv ⟨a,ys,_,q,rfl,rfl,g,by rw[<-r.len];exact h2,w _ (Ext.set (ys:=ys) rh e (nfL g)) (rh.setL e (nfL g) (r.set hv q))⟩
 ·obtain⟨kvs,h1,h2,w⟩:=w;obtain⟨a,ys,rfl,e,g,r1,r2⟩:=rh.dkat h1 ho;rw[R_str] at hi;subst hi;cases ro;obtain⟨q1,q2⟩:=FL (k:=.inr _) hv r1 r2;refine xj (MJ (by omega) hu) I (DPut.k (k:=.inr _) g ?_) ri rv fun s' I'=>⟨_,I',w _ (Ext.set (ys:=[]) rh e (nfD g)) (rh.setD e (nfD g) q1 q2)⟩;have:ys.length=kvs.length:=by have:=LG List.length r1;simpa using this
  rw[this];exact yd h2
 ·exact w.elim
structure Kx (X:Cx)(s:Shared)(iv:Value)(d:PyData):Prop where
 nk:isExactStrKey iv=false
 rd:∀s':Shared,s'.heap=s.heap->∃as,Reads s'.heap iv d as
 lay:PyData.canLay0 d=true
 ne:∀x:Str,PyData.eqv (.str x) d=false
 qt:∀s':Shared,s'.heap=s.heap->∀a,iv=.ref a->∀Q:Bool->Shared->Prop,Q true s'->wpAny (model X.prog X.w) X.A.in1 (eqIsQuiet 8 iv) Q X.xe s'
 hs:∀Q:Int->Shared->Prop,(∀n tk,Q n { s with toks:=tk })->wpAny (model X.prog X.w) X.A.in1 (pyHash iv) Q X.xe s
noncomputable def JT (K:W.Frag):V->Hp->(Bool->Hp->Prop)->Prop:=fun x' H Q=>∃m st x,RH K m H st/\R K m H x x'/\e7 x st (postB K m H Q)
theorem rC:∀ {x':V}{H:Hp}{Q:Bool->Hp->Prop},JT X.K x' H Q->∃k,FF X.K x' H k/\Q k H:=by
 intro x' H Q h;obtain⟨m,st,x,rh,hx,w⟩:=h;unfold e7 at w;split at w
 ·rw[R_bl] at hx;subst hx;exact⟨_,rfl,w m H (Ext.refl _ _ _) rh⟩
 ·rw[R_non] at hx;subst hx;exact⟨_,rfl,w m H (Ext.refl _ _ _) rh⟩
 ·rw[R_int] at hx;subst hx;exact⟨_,rfl,w m H (Ext.refl _ _ _) rh⟩
 ·exact w.elim
 ·obtain⟨xs,h1,w⟩:=w;obtain⟨a,ys,rfl,g,r⟩:=gF rh hx h1;have e:(!xs.isEmpty)=!ys.isEmpty:=by have:=r.len;cases xs <;> cases ys <;> first|rfl|(simp at this)
  refine⟨_,?_,w m H (Ext.refl _ _ _) rh⟩;rw[e];rcases g with g|g
  ·exact .inl ⟨ys,g,rfl⟩
  ·exact .inr (.inl ⟨ys,g,rfl⟩)
theorem FN (op:Operator):PIp X op (C5 X.K (mz op)):=by
 intro pins s σ H x' y' v u Q I rx ry h;obtain⟨m,st,x,y,rh,hx,hy,w⟩:=h;unfold mz at w;split at w
 ·rw[R_int] at hx hy;subst hx hy;exact FI pins s σ H _ _ v u Q I rx ry ⟨_,_,rfl,rfl,w.here rh (R_int.mpr rfl)⟩
 ·rw[R_int] at hx hy;subst hx hy;exact GC pins s σ H _ _ v u Q I rx ry ⟨_,_,rfl,rfl,w.here rh (R_int.mpr rfl)⟩
 ·obtain⟨xs,zs,h1,h2,h3,w⟩:=w;obtain⟨a,ys,rfl,e,g,r⟩:=rh.lst h1 hx;obtain⟨b,ys2,rfl,e2,g2,r2⟩:=rh.lst h2 hy;exact Gm pins s σ H _ _ v u Q I rx ry ⟨a,b,ys,ys2,rfl,rfl,g,g2,by rw[<-r.len,<-r2.len];exact dm h3,w.setL rh e (nfL g) (r.app r2) hx⟩
 ·exact w.elim
end
end FW
namespace FW
open L2 HX
mutual
noncomputable def PV.same:PV->PV->Bool
 | .non,y=>match y with | .non=>true|_=>false
 | .bl a,y=>match y with | .bl b=>a == b|_=>false
 | .int a,y=>match y with | .int b=>a == b|_=>false
 | .str a,y=>match y with | .str b=>a == b|_=>false
 | .tup xs,y=>match y with | .tup ys=>PV.sames xs ys|_=>false
 | .ref a,y=>match y with | .ref b=>a == b|_=>false
 | .rdl xs,y=>match y with | .rdl ys=>PV.sames xs ys|_=>false
 | .fn a,y=>match y with | .fn b=>a == b|_=>false
noncomputable def PV.sames:List PV->List PV->Bool
 | [],y=>y.isEmpty
 | x::xs,y=>match y with|y::ys=>x.same y && PV.sames xs ys | []=>false
end
mutual
theorem PV.same_eq:∀ {x y:PV},x.same y=true->x=y
 | .non,y,h=>by cases y with|non=>rfl|_=>exact Bool.noConfusion (show false=true from h)
 | .bl a,y,h=>by cases y with|bl b=>rw[eq_of_beq (show (a == b)=true from h)] | _=>exact Bool.noConfusion (show false=true from h)
 | .int a,y,h=>by cases y with|int b=>rw[eq_of_beq (show (a == b)=true from h)] | _=>exact Bool.noConfusion (show false=true from h)
 | .str a,y,h=>by cases y with|str b=>rw[eq_of_beq (show (a == b)=true from h)] | _=>exact Bool.noConfusion (show false=true from h)
 | .ref a,y,h=>by cases y with|ref b=>rw[eq_of_beq (show (a == b)=true from h)] | _=>exact Bool.noConfusion (show false=true from h)
 | .tup xs,y,h=>by cases y with|tup ys=>rw[PV.sames_eq (show PV.sames xs ys=true from h)] | _=>exact Bool.noConfusion (show false=true from h)
 | .rdl xs,y,h=>by cases y with|rdl ys=>rw[PV.sames_eq (show PV.sames xs ys=true from h)] | _=>exact Bool.noConfusion (show false=true from h)
 | .fn a,y,h=>by cases y with|fn b=>rw[eq_of_beq (show (a == b)=true from h)] | _=>exact Bool.noConfusion (show false=true from h)
theorem PV.sames_eq:∀ {x y:List PV},PV.sames x y=true->x=y
 | [],y,h=>by cases y with|nil=>rfl|cons a b=>exact Bool.noConfusion (show false=true from h)
 | x::xs,y,h=>by
  cases y with
  | nil=>exact Bool.noConfusion (show false=true from h)
  | cons y ys =>have h:=(KW _ _).mp (show (x.same y && PV.sames xs ys)=true from h);rw[PV.same_eq h.1,PV.sames_eq h.2]
end
structure Cfg where
 N:List Str
 names:List (Str × NameKind)
 fns:List Str
 lim:Nat
 blts:List Str
 gl:List (Str × PV)
 pc:Bool:=false
 hm:Option Nat:=none
noncomputable def Cfg.vis (c:Cfg)(x:Str):Bool:=(c.names.lookup x == some .local || c.names.lookup x == some .cell || c.names.lookup x == some .free) && !(x == ("__debug__":Str)) && !(x == ("__classdict__":Str))
noncomputable def Cfg.loc (c:Cfg)(x:Str):Bool:=c.names.lookup x == some .local || c.names.lookup x == some .cell
noncomputable def Cfg.glb (c:Cfg)(x:Str):Bool:=c.names.lookup x == some .globalImplicit && !(x == ("__debug__":Str)) && !(x == ("__name__":Str))
noncomputable def Cfg.blt (c:Cfg)(x:Str):Bool:=c.glb x && c.blts.contains x
noncomputable def Cfg.fn (c:Cfg)(f:Nat)(x:Str):Bool:=c.fns[f]? == some x && decide (f<c.lim) && c.glb x
noncomputable def k_:B->Str
 | .len=>"len"
 | .max2=>"max"
 | .min2=>"min"
 | .divmod=>"divmod"
 | .int1=>"int"
 | .str1=>"str"
 | .tuple1=>"tuple"
 | .list1=>"list"
 | .all1=>"all"
 | .any1=>"any"
 | .abs1=>"abs"
 | .sorted1=>"sorted"
 | .repr1=>"repr"
 | .sortS=>"sorted"
 | .max1=>"max"
 | .sortD=>"sorted"
 | .repr2=>"repr"
noncomputable def qQ:M->Str
 | .append=>"append"
 | .pop0=>"pop"
 | .extend=>"extend"
 | .insert=>"insert"
 | .count=>"count"
 | .index=>"index"
 | .popI=>"pop"
noncomputable def kinds:List String:=["int","bool","str","tuple","list","dict"]
noncomputable def mG:Expr->Bool
 | .ListComp ..=>false
 | .SetComp ..=>false
 | .DictComp ..=>false
 | _=>true
noncomputable def vb:Expr->Bool
 | .Name ..=>true
 | .Call ..=>true
 | .Subscript ..=>true
 | _=>false
mutual
noncomputable def Tg.low (n:Nat):Tg->Bool
 | .name i=>decide (i<n)
 | .tup ts=>Tgs.low n ts
 | .ltup ts=>Tgs.low n ts
 | .sub _ _=>false
noncomputable def Tgs.low (n:Nat):Tgs->Bool
 | .nil=>true
 | .cons t ts=>Tg.low n t && Tgs.low n ts
end
noncomputable def gB:Expr->Bool
 | .Set ..=>false
 | _=>true
noncomputable def Cfg.inner (c:Cfg)(nt:List Str)(caps:List Nat)(sc:Scope):Cfg:={ c with N:=nt++caps.filterMap (c.N[·]?),names:=sc.names,pc:=false,hm:=none }
noncomputable def wW (k:Option NameKind):Bool:=k == some .cell || k == some .free
noncomputable def Cfg.block (c:Cfg)(nt:List Str)(caps:List Nat)(sc:Scope):Bool :=
 sc.kind == .function && sc.names.all (fun y=>!(y.2 == .cell)) && sc.names.all (fun y=>!(y.2 == .local) || sc.names.lookup y.1 == some .local) && sc.names.all (fun y=>!(y.2 == .free) || wW (c.names.lookup y.1))
  && caps.all (fun i=>decide (i<c.N.length)) && (caps.filterMap (c.N[·]?)).all (fun x=>sc.names.lookup x == some .free && wW (c.names.lookup x)) && decide (nt++caps.filterMap (c.N[·]?)).Nodup
noncomputable def BV:It->Expr->Bool
 | .zip _ _,.Tuple ..=>true
 | .zip _ _,_=>false
 | .zip3 _ _ _,.Tuple ..=>true
 | .zip3 _ _ _,_=>false
 | .enum _,.Tuple ..=>true
 | .enum _,_=>false
 | .seq _,_ | .range1 _,_ | .range2 _ _,_ | .chars _,_ | .range3 _ _ _,_=>true
noncomputable def bB:Expr->Bool
 | .Name ..=>true
 | .List ..=>true
 | .Subscript ..=>true
 | .ListComp ..=>true
 | _=>false
noncomputable def uU:Expr->Bool
 | .Constant (.str _) ..=>true
 | _=>false
noncomputable def yV:SM->Str
 | .join=>"join"
 | .split=>"split"
 | .endsw=>"endswith"
noncomputable def aA (x:Expr)(f:Str->Pos->Bool):Bool:=match x with | .Name y p=>f y p|_=>false
theorem ao (h:aA x f=true):∃y p,x=.Name y p/\f y p=true:=by cases x with|Name y p=>exact⟨y,p,rfl,h⟩|_=>exact Bool.noConfusion h
noncomputable def we (x:Expr)(f:Int->Bool):Bool:=match x with | .Constant (.int j) _ _=>f j|_=>false
theorem pz (h:we x f=true):∃j k p,x=.Constant (.int j) k p/\f j=true:=by
 cases x with
 | Constant v k p=>cases v with|int j=>exact⟨j,k,p,rfl,h⟩|_=>exact Bool.noConfusion h
 | _=>exact Bool.noConfusion h
noncomputable def IY (x:Expr)(f:Bool->Bool):Bool:=match x with | .Constant (.bool j) _ _=>f j|_=>false
theorem zj (h:IY x f=true):∃j k p,x=.Constant (.bool j) k p/\f j=true:=by
 cases x with
 | Constant v k p=>cases v with|bool j=>exact⟨j,k,p,rfl,h⟩|_=>exact Bool.noConfusion h
 | _=>exact Bool.noConfusion h
noncomputable def sO (x:Expr)(f:Str->Bool):Bool:=match x with | .Constant (.str j) _ _=>f j|_=>false
theorem jK (h:sO x f=true):∃j k p,x=.Constant (.str j) k p/\f j=true:=by
 cases x with
 | Constant v k p=>cases v with|str j=>exact⟨j,k,p,rfl,h⟩|_=>exact Bool.noConfusion h
 | _=>exact Bool.noConfusion h
noncomputable def Ep (x:Expr):Bool:=match x with | .Constant .none _ _=>true|_=>false
theorem xV (h:Ep x=true):∃k p,x=.Constant .none k p:=by
 cases x with
 | Constant v k p=>cases v with|none=>exact⟨k,p,rfl⟩|_=>exact Bool.noConfusion h
 | _=>exact Bool.noConfusion h
noncomputable def eE (x:Expr)(f:List Expr->Bool):Bool:=match x with | .Tuple xs _ _=>f xs|_=>false
theorem bh (h:eE x f=true):∃xs k p,x=.Tuple xs k p/\f xs=true:=by cases x with|Tuple xs k p=>exact⟨xs,k,p,rfl,h⟩|_=>exact Bool.noConfusion h
noncomputable def AK (x:Expr)(f:List Expr->Bool):Bool:=match x with | .List xs _=>f xs|_=>false
theorem uB (h:AK x f=true):∃xs p,x=.List xs p/\f xs=true:=by cases x with|List xs p=>exact⟨xs,p,rfl,h⟩|_=>exact Bool.noConfusion h
noncomputable def on1 {α:Type}(xs:List α)(f:α->Bool):Bool:=match xs with | [a]=>f a|_=>false
theorem cq {α:Type}{xs:List α}{f:α->Bool}(h:on1 xs f=true):∃a,xs=[a]/\f a=true:=by
 cases xs with
 | nil=>exact Bool.noConfusion h
 | cons a t=>cases t with|nil=>exact⟨a,rfl,h⟩|cons _ _=>exact Bool.noConfusion h
noncomputable def on2 {α:Type}(xs:List α)(f:α->α->Bool):Bool:=match xs with | [a,b]=>f a b|_=>false
theorem gY {α:Type}{xs:List α}{f:α->α->Bool}(h:on2 xs f=true):∃a b,xs=[a,b]/\f a b=true:=by
 cases xs with
 | nil=>exact Bool.noConfusion h
 | cons a t=>cases t with
  | nil=>exact Bool.noConfusion h
  | cons b t=>cases t with|nil=>exact⟨a,b,rfl,h⟩|cons _ _=>exact Bool.noConfusion h
noncomputable def on3 {α:Type}(xs:List α)(f:α->α->α->Bool):Bool:=match xs with | [a,b,c]=>f a b c|_=>false
theorem C6 {α:Type}{xs:List α}{f:α->α->α->Bool}(h:on3 xs f=true):∃a b c,xs=[a,b,c]/\f a b c=true:=by
 cases xs with
 | nil=>exact Bool.noConfusion h
 | cons a t=>cases t with
  | nil=>exact Bool.noConfusion h
  | cons b t=>cases t with
   | nil=>exact Bool.noConfusion h
   | cons c t=>cases t with|nil=>exact⟨a,b,c,rfl,h⟩|cons _ _=>exact Bool.noConfusion h
noncomputable def mH {α:Type}(xs:List α)(f:α->List α->Bool):Bool:=match xs with|a::t=>f a t | []=>false
theorem aJ {α:Type}{xs:List α}{f:α->List α->Bool}(h:mH xs f=true):∃a t,xs=a::t/\f a t=true:=by
 cases xs with
 | nil=>exact Bool.noConfusion h
 | cons a t=>exact⟨a,t,rfl,h⟩
noncomputable def iT {α:Type}(x:Option α)(f:α->Bool):Bool:=match x with|some a=>f a|none=>false
theorem iC {α:Type}{x:Option α}{f:α->Bool}(h:iT x f=true):∃a,x=some a/\f a=true:=by
 cases x with
 | none=>exact Bool.noConfusion h
 | some a=>exact⟨a,rfl,h⟩
noncomputable def qz (x:Expr)(f:List (Option Expr)->List Expr->Bool):Bool:=match x with | .Dict ks vs _=>f ks vs|_=>false
theorem vi (h:qz x f=true):∃ks vs p,x=.Dict ks vs p/\f ks vs=true:=by cases x with|Dict ks vs p=>exact⟨ks,vs,p,rfl,h⟩|_=>exact Bool.noConfusion h
noncomputable def EJ (x:Expr)(f:Expr->Operator->Expr->Bool):Bool:=match x with | .BinOp l o r _=>f l o r|_=>false
theorem xa (h:EJ x f=true):∃l o r p,x=.BinOp l o r p/\f l o r=true:=by cases x with|BinOp l o r p=>exact⟨l,o,r,p,rfl,h⟩|_=>exact Bool.noConfusion h
noncomputable def Bi (x:Expr)(f:Expr->Bool):Bool:=match x with | .UnaryOp .USub y _=>f y|_=>false
theorem pC (h:Bi x f=true):∃y p,x=.UnaryOp .USub y p/\f y=true:=by
 cases x with
 | UnaryOp o y p=>cases o with|USub=>exact⟨y,p,rfl,h⟩|_=>exact Bool.noConfusion h
 | _=>exact Bool.noConfusion h
noncomputable def zc (x:Expr)(f:Expr->Bool):Bool:=match x with | .UnaryOp .Not y _=>f y|_=>false
theorem oB (h:zc x f=true):∃y p,x=.UnaryOp .Not y p/\f y=true:=by
 cases x with
 | UnaryOp o y p=>cases o with|Not=>exact⟨y,p,rfl,h⟩|_=>exact Bool.noConfusion h
 | _=>exact Bool.noConfusion h
noncomputable def AW (x:Expr)(f:Expr->CmpOp->Expr->Bool):Bool:=match x with | .Compare l os rs _=>on1 os fun o=>on1 rs fun r=>f l o r|_=>false
theorem oV (h:AW x f=true):∃l o r p,x=.Compare l [o] [r] p/\f l o r=true:=by
 cases x with
 | Compare l os rs p =>obtain⟨o,rfl,h⟩:=cq h;obtain⟨r,rfl,h⟩:=cq h;exact⟨l,o,r,p,rfl,h⟩
 | _=>exact Bool.noConfusion h
noncomputable def A0 (x:Expr)(f:PySem.BoolOp->List Expr->Bool):Bool:=match x with | .BoolOp o xs _=>f o xs|_=>false
theorem g_ (h:A0 x f=true):∃o xs p,x=.BoolOp o xs p/\f o xs=true:=by cases x with|BoolOp o xs p=>exact⟨o,xs,p,rfl,h⟩|_=>exact Bool.noConfusion h
noncomputable def Fe (x:Expr)(f:Expr->Expr->Expr->Bool):Bool:=match x with | .IfExp y l r _=>f y l r|_=>false
theorem xE (h:Fe x f=true):∃y l r p,x=.IfExp y l r p/\f y l r=true:=by cases x with|IfExp y l r p=>exact⟨y,l,r,p,rfl,h⟩|_=>exact Bool.noConfusion h
noncomputable def oH (x:Expr)(f:Expr->Expr->Bool):Bool:=match x with | .Subscript l r _=>f l r|_=>false
theorem dH (h:oH x f=true):∃l r p,x=.Subscript l r p/\f l r=true:=by cases x with|Subscript l r p=>exact⟨l,r,p,rfl,h⟩|_=>exact Bool.noConfusion h
noncomputable def vJ (x:Expr)(f:Option Expr->Option Expr->Bool):Bool:=match x with | .Slice u v none _=>f u v|_=>false
theorem sM (h:vJ x f=true):∃u v p,x=.Slice u v none p/\f u v=true:=by
 cases x with
 | Slice u v w p=>cases w with|none=>exact⟨u,v,p,rfl,h⟩|some _=>exact Bool.noConfusion h
 | _=>exact Bool.noConfusion h
noncomputable def AI (x:Expr)(f:Expr->Bool):Bool:=match x with | .Slice none none (some z) _=>f z|_=>false
theorem uV (h:AI x f=true):∃z p,x=.Slice none none (some z) p/\f z=true:=by
 cases x with
 | Slice u v w p=>cases u with
  | none=>cases v with
   | none=>cases w with|none=>exact Bool.noConfusion h|some z=>exact⟨z,p,rfl,h⟩
   | some _=>exact Bool.noConfusion h
  | some _=>exact Bool.noConfusion h
 | _=>exact Bool.noConfusion h
noncomputable def aI (x:Expr)(f:Expr->List Expr->Pos->Bool):Bool:=match x with | .Call g xs [] p=>f g xs p|_=>false
theorem aF (h:aI x f=true):∃g xs p,x=.Call g xs [] p/\f g xs p=true:=by
 cases x with
 | Call g xs ks p=>cases ks with|nil=>exact⟨g,xs,p,rfl,h⟩|cons _ _=>exact Bool.noConfusion h
 | _=>exact Bool.noConfusion h
noncomputable def f6 (x:Expr)(f:Expr->Str->Pos->Bool):Bool:=match x with | .Attribute y n p=>f y n p|_=>false
theorem cD (h:f6 x f=true):∃y n p,x=.Attribute y n p/\f y n p=true:=by cases x with|Attribute y n p=>exact⟨y,n,p,rfl,h⟩|_=>exact Bool.noConfusion h
noncomputable def BD (x:Expr)(f:Expr->List Comprehension->Scope->Pos->Bool):Bool:=match x with | .ListComp e gs sc p=>f e gs sc p|_=>false
theorem gy (h:BD x f=true):∃e gs sc p,x=.ListComp e gs sc p/\f e gs sc p=true:=by cases x with|ListComp e gs sc p=>exact⟨e,gs,sc,p,rfl,h⟩|_=>exact Bool.noConfusion h
noncomputable def GW (x:Expr)(f:Expr->Expr->List Comprehension->Scope->Pos->Bool):Bool:=match x with | .DictComp k v gs sc p=>f k v gs sc p|_=>false
theorem AQ (h:GW x f=true):∃k v gs sc p,x=.DictComp k v gs sc p/\f k v gs sc p=true:=by cases x with|DictComp k v gs sc p=>exact⟨k,v,gs,sc,p,rfl,h⟩|_=>exact Bool.noConfusion h
noncomputable def qP (wk:DW)(x:Expr)(f:Expr->Bool):Bool:=match wk with
 | .items=>aI x fun g xs cp=>f6 g fun y n ap=>n == ("items":Str) && ap.endLine == cp.line && xs.isEmpty && bB y && f y
 | .values=>aI x fun g xs cp=>f6 g fun y n ap=>n == ("values":Str) && ap.endLine == cp.line && xs.isEmpty && bB y && f y
theorem m9 (h:qP .items x f=true):∃y ap cp,x=.Call (.Attribute y "items" ap) [] [] cp/\(ap.endLine == cp.line)=true/\bB y=true/\f y=true:=by
 unfold qP at h;replace h:=aF h;obtain⟨g,xs,cp,rfl,h⟩:=h;replace h:=cD h;obtain⟨y,n,ap,rfl,h⟩:=h;simp only[Bool.and_eq_true,beq_iff_eq] at h;obtain⟨⟨⟨⟨h1,h2⟩,h3⟩,h4⟩,h5⟩:=h;subst h1;cases xs with
 | nil=>exact⟨y,ap,cp,rfl,by rw[h2];simp,h4,h5⟩
 | cons _ _=>cases h3
theorem sS (h:qP .values x f=true):∃y ap cp,x=.Call (.Attribute y "values" ap) [] [] cp/\(ap.endLine == cp.line)=true/\bB y=true/\f y=true:=by
 unfold qP at h;replace h:=aF h;obtain⟨g,xs,cp,rfl,h⟩:=h;replace h:=cD h;obtain⟨y,n,ap,rfl,h⟩:=h;simp only[Bool.and_eq_true,beq_iff_eq] at h;obtain⟨⟨⟨⟨h1,h2⟩,h3⟩,h4⟩,h5⟩:=h;subst h1;cases xs with
 | nil=>exact⟨y,ap,cp,rfl,by rw[h2];simp,h4,h5⟩
 | cons _ _=>cases h3
noncomputable def Dj:DW->Expr->Bool
 | .items,.Tuple ..=>true
 | .items,_=>false
 | .values,_=>true
theorem Fx {α β:Type}{xs:List α}{ys:List β}(h:(xs.isEmpty && ys.isEmpty)=true):xs=[]/\ys=[]:=by
 cases xs with
 | nil=>cases ys with|nil=>exact⟨rfl,rfl⟩|cons _ _=>exact Bool.noConfusion h
 | cons _ _=>exact Bool.noConfusion h
theorem xF {α:Type}{x:Option α}(h:x.isNone=true):x=none:=by cases x with|none=>rfl|some _=>exact Bool.noConfusion h
noncomputable def Hn (x:Expr)(f:Arguments->Expr->Scope->Bool):Bool:=match x with | .Lambda a b sc _=>f a b sc|_=>false
noncomputable def Jb (x:Arguments)(f:Str->Bool):Bool:=x.posonlyargs.isEmpty && x.vararg.isNone && x.kwonlyargs.isEmpty && x.kw_defaults.isEmpty && x.kwarg.isNone && x.defaults.isEmpty && on1 x.args fun a=>f a.arg
noncomputable def Cfg.lam (c:Cfg)(k:Nat)(y:Str)(caps:List Nat)(sc:Scope):Cfg:={ c with N:=y::caps.filterMap (c.N[·]?),names:=sc.names,lim:=k,pc:=false,hm:=none }
noncomputable def Cfg.lamOk (c:Cfg)(k:Nat)(y:Str)(caps:List Nat)(sc:Scope):Bool :=
 sc.kind == .function && !sc.isCoroutine && !sc.isGenerator && sc.names.all (fun y=>!(y.2 == .cell)) && sc.names.lookup y == some .local && sc.names.all (fun y=>!(y.2 == .local) || sc.names.lookup y.1 == some .local) && sc.names.all (fun y=>!(y.2 == .free) || wW (c.names.lookup y.1))
  && decide (k+1<c.lim) && caps.all (fun i=>decide (i<c.N.length)) && (caps.filterMap (c.N[·]?)).all (fun x=>sc.names.lookup x == some .free && wW (c.names.lookup x)) && decide (y::caps.filterMap (c.N[·]?)).Nodup
mutual
noncomputable def ay (c:Cfg):E->Expr->Bool
 | .var i,x=>aA x fun y _=>c.N[i]? == some y && c.vis y
 | .int i,x=>we x fun j=>i == j
 | .bl i,x=>IY x fun j=>i == j
 | .non,x=>Ep x
 | .str i,x=>sO x fun j=>i == j
 | .gv y v,x=>aA x fun z _=>z == y && c.glb y && iT (c.gl.lookup y) fun w=>w.same v
 | .tup es,x=>eE x fun xs=>eJ c es xs
 | .lst es,x=>AK x fun xs=>eJ c es xs
 | .dct1 k i,x=>qz x fun ks vs=>on1 ks fun ok=>iT ok fun kx=>sO kx fun k'=>on1 vs fun vx=>we vx fun i'=>k == k' && i == i'
 | .dct0,x=>qz x fun ks vs=>ks.isEmpty && vs.isEmpty
 | .bin op a b,x=>EJ x fun l o r=>o == op && ay c a l && ay c b r
 | .neg a,x=>Bi x fun y=>ay c a y
 | .not a,x=>zc x fun y=>ay c a y
 | .cmp op a b,x=>AW x fun l o r=>o == op && !behindInMarks o r && ay c a l && ay c b r
 | .bop k es,x=>A0 x fun o xs=>(o == if k then .And else .Or) && eJ c es xs && !xs.isEmpty
 | .ite t a b,x=>Fe x fun y l r=>ya c t y && ay c a l && ay c b r
 | .ix a b,x=>oH x fun l r=>i8 r && ay c a l && ay c b r
 | .sl a lo hi,x=>oH x fun l r=>vJ r fun u v=>ay c a l && Ft c lo u && Ft c hi v
 | .call f es,x=>aI x fun g xs _=>aA g fun y _=>c.fn f y && xs.all ak && eJ c es xs
 | .blt b es,x=>aI x fun g xs _=>aA g fun y _=>y == k_ b && c.blt y && xs.all ak && !xs.isEmpty && eJ c es xs
 | .inst a t,x=>aI x fun g xs _=>aA g fun y _=>on2 xs fun l r=>aA r fun z _=>y == ("isinstance":Str) && c.blt y && ak l && z == (t:Str) && c.blt z && kinds.contains t && ay c a l
 | .met m o es,x=>aI x fun g xs cp=>f6 g fun y n ap=>n == qQ m && ap.endLine == cp.line && xs.all ak && decide (xs.length<=2) && bB y && ay c o y && eJ c es xs
 | .comp elt tg it ifs nt caps,x=>BD x fun ex gs sc _=>on1 gs fun g=>g.is_async == 0 && BV it g.target && gB g.iter && tg.low nt.length && c.block nt caps sc && zr c it g.iter && iy (c.inner nt caps sc) tg g.target && kC (c.inner nt caps sc) ifs g.ifs && ay (c.inner nt caps sc) elt ex
 | .tmp a,x=>ay c a x
 | .compK elt tg wk e ifs nt caps,x=>BD x fun ex gs sc _=>on1 gs fun g=>g.is_async == 0 && Dj wk g.target && gB g.iter && tg.low nt.length && c.block nt caps sc && qP wk g.iter (fun y=>ay c e y) && iy (c.inner nt caps sc) tg g.target && kC (c.inner nt caps sc) ifs g.ifs && ay (c.inner nt caps sc) elt ex
 | .compD kx vx tg wk e ifs nt caps,x=>GW x fun ek ev gs sc _=>on1 gs fun g=>g.is_async == 0 && Dj wk g.target && gB g.iter && tg.low nt.length && c.block nt caps sc && qP wk g.iter (fun y=>ay c e y) && iy (c.inner nt caps sc) tg g.target && kC (c.inner nt caps sc) ifs g.ifs && ay (c.inner nt caps sc) kx ek && ay (c.inner nt caps sc) vx ev
 | .dct2 k v,x=>qz x fun ks vs=>on1 ks fun ok=>iT ok fun kx=>on1 vs fun vx=>ay c k kx && ay c v vx
 | .dcl a,x=>aI x fun g xs _=>aA g fun y _=>on1 xs fun u=>y == ("dict":Str) && c.blt y && ak u && ay c a u
 | .bad,_=>true
 | .un .sI a,x=>aI x fun g xs _=>aA g fun y _=>on1 xs fun l=>y == ("sorted":Str) && c.blt y && ak l && qP .items l (fun u=>ay c a u)
 | .dget a b,x=>aI x fun g xs cp=>f6 g fun y n ap=>on1 xs fun u=>n == ("get":Str) && ap.endLine == cp.line && ak u && bB y && ay c a y && ay c b u
 | .dcp a,x=>aI x fun g xs _=>aA g fun y _=>on1 xs fun u=>y == ("dict":Str) && c.blt y && ak u && ay c a u
 | .clr a,x=>aI x fun g xs cp=>f6 g fun y n ap=>n == ("clear":Str) && ap.endLine == cp.line && xs.isEmpty && bB y && ay c a y
 | .sset a,x=>aI x fun g xs _=>aA g fun y _=>on1 xs fun l=>aI l fun g2 ys _=>aA g2 fun z _=>on1 ys fun u=>y == ("sorted":Str) && c.blt y && z == ("set":Str) && c.blt z && ak l && ak u && ay c a u
 | .jrev a,x=>aI x fun g xs cp=>f6 g fun y n ap=>sO y fun j=>on1 xs fun l=>oH l fun u r=>AI r fun z=>Bi z fun z1=>we z1 fun i=>n == ("join":Str) && ap.endLine == cp.line && j == ("":Str) && i == 1 && ay c a u
 | .smx k a b,x=>aI x fun g xs cp=>f6 g fun y n ap=>on1 xs fun l=>n == yV k && ap.endLine == cp.line && (bB y || uU y) && ak l && ay c a y && ay c b l
 | .part a s,x=>aI x fun g xs cp=>f6 g fun y n ap=>on1 xs fun l=>sO l fun j=>n == ("partition":Str) && ap.endLine == cp.line && j == s && !(s.length == 0) && bB y && ay c a y
 | .pcall i e,x=>c.pc && aI x fun g xs _=>aA g fun y _=>on1 xs fun l=>c.N[i]? == some y && c.vis y && ak l && ay c e l
 | .hm e be caps,x=>iT c.hm fun k=>aI x fun g xs _=>aA g fun y _=>on2 xs fun l r=>Hn r fun as b sc=>Jb as fun z=>y == ("how_many":Str) && c.glb y && ak l && c.lamOk k z caps sc && ay c e l && ay (c.lam k z caps sc) be b
termination_by structural e=>e
noncomputable def eJ (c:Cfg):Es->List Expr->Bool
 | .nil,xs=>xs.isEmpty
 | .cons e es,xs=>mH xs fun y ys=>ak y && ay c e y && eJ c es ys
termination_by structural e=>e
noncomputable def Ft (c:Cfg):O->Option Expr->Bool
 | .no,x=>x.isNone
 | .yes e,x=>iT x fun y=>ay c e y
termination_by structural e=>e
noncomputable def ya (c:Cfg):E->Expr->Bool
 | .not a,x=>zc x fun y=>ya c a y
 | .bop k es,x=>A0 x fun o xs=>(o == if k then .And else .Or) && !xs.isEmpty && kC c es xs
 | .cmp op a b,x=>AW x fun l o r=>o == op && !behindInMarks o r && ay c a l && ay c b r
 | .var i,x=>aA x fun y _=>c.N[i]? == some y && c.vis y
 | .call f es,x=>aI x fun g xs _=>aA g fun y _=>c.fn f y && xs.all ak && eJ c es xs
 | .blt b es,x=>aI x fun g xs _=>aA g fun y _=>y == k_ b && c.blt y && xs.all ak && !xs.isEmpty && eJ c es xs
 | .inst a t,x=>aI x fun g xs _=>aA g fun y _=>on2 xs fun l r=>aA r fun z _=>y == ("isinstance":Str) && c.blt y && ak l && z == (t:Str) && c.blt z && kinds.contains t && ay c a l
 | .tmp a,x=>vb x && ay c a x
 | .ix a b,x=>oH x fun l r=>i8 r && ay c a l && ay c b r
 | .pcall i e,x=>c.pc && aI x fun g xs _=>aA g fun y _=>on1 xs fun l=>c.N[i]? == some y && c.vis y && ak l && ay c e l
 | .un .sI _,_=>false
 | .compK _ _ _ _ _ _ _,_ | .compD _ _ _ _ _ _ _ _,_ | .dcl _,_ | .dct2 _ _,_ | .hm _ _ _,_ | .bl _,_ | .int _,_ | .non,_ | .str _,_ | .gv _ _,_ | .tup _,_ | .lst _,_ | .dct0,_ | .dct1 _ _,_ | .bin _ _ _,_ | .neg _,_ | .ite _ _ _,_ | .sl _ _ _,_ | .met _ _ _,_ | .comp _ _ _ _ _ _,_ | .bad,_ | .jrev _,_ | .sset _,_ | .clr _,_ | .dcp _,_ | .dget _ _,_ | .part _ _,_ | .smx _ _ _,_=>true
termination_by structural e=>e
noncomputable def kC (c:Cfg):Es->List Expr->Bool
 | .nil,xs=>xs.isEmpty
 | .cons e es,xs=>mH xs fun y ys=>ya c e y && kC c es ys
termination_by structural e=>e
noncomputable def zr (c:Cfg):It->Expr->Bool
 | .seq e,x=>gB x && ay c e x
 | .range1 a,x=>aI x fun g xs _=>aA g fun y _=>on1 xs fun l=>y == ("range":Str) && c.blt y && ak l && ay c a l
 | .range2 a b,x=>aI x fun g xs _=>aA g fun y _=>on2 xs fun l r=>y == ("range":Str) && c.blt y && ak l && ak r && ay c a l && ay c b r
 | .zip a b,x=>aI x fun g xs _=>aA g fun y _=>on2 xs fun l r=>y == ("zip":Str) && c.blt y && ak l && ak r && ay c a l && ay c b r
 | .zip3 a b d,x=>aI x fun g xs _=>aA g fun y _=>on3 xs fun l r u=>y == ("zip":Str) && c.blt y && ak l && ak r && ak u && ay c a l && ay c b r && ay c d u
 | .enum a,x=>aI x fun g xs _=>aA g fun y _=>on1 xs fun l=>y == ("enumerate":Str) && c.blt y && ak l && ay c a l
 | .chars e,x=>gB x && ay c e x
 | .range3 a b d,x=>aI x fun g xs _=>aA g fun y _=>on3 xs fun l r u=>y == ("range":Str) && c.blt y && ak l && ak r && ak u && ay c a l && ay c b r && ay c d u
termination_by structural e=>e
noncomputable def iy (c:Cfg):Tg->Expr->Bool
 | .name i,x=>aA x fun y _=>c.N[i]? == some y && c.loc y
 | .tup ts,x=>eE x fun xs=>lW c ts xs
 | .ltup ts,x=>eE x fun xs=>lW c ts xs
 | .sub o i,x=>oH x fun l r=>i8 r && ay c o l && ay c i r
termination_by structural e=>e
noncomputable def lW (c:Cfg):Tgs->List Expr->Bool
 | .nil,xs=>xs.isEmpty
 | .cons t ts,xs=>mH xs fun y ys=>ak y && iy c t y && lW c ts ys
termination_by structural e=>e
end
end FW
namespace FW
open L2 HX
noncomputable def dR (K:W.Frag)(sp:FSp):Sp:=fun vs H Q _=>∃m st as,Rs K m H as vs/\RH K m H st/\sp as st (post K m H Q)
def F4 (P:Program)(w:World)(K:W.Frag)(mg:Str->Option Value)(base:Heap)(k:Nat)(outer:List Env)(s:Shared)(H:Hp)(a:Addr)(L:FSp):Prop :=
 ∀(A':Around) (outer':List Env) (s':Shared) (H':Hp) (u:Value) (v:V) (Q':VK),Room k A'->xD P w K mg base A' outer' s' H'->Un (frs outer) [] H H' s.heap s'.heap->RelV v u->dR K L [v] H' Q' E0 ->
  W.FnAt a s'.heap/\codeAny (model P w) A' (.call (.ref a) ⟨[u],[]⟩) (CR CX0 outer' P w H' s' Q' E0) s'
def Hb (L:FSp):Prop:=∀as st Q Q',(∀v st,Q v st->Q' v st)->L as st Q->L as st Q'
def JU (a:Nat)(L:FSp):FSp:=fun as st Q=>∃(xs:List PV) (g:PV->Bool),as=[.tup xs,.fn a]/\xs.length<=100000/\(∀y∈xs,∀Q':EK,Q' (.bl (g y)) st->L [y] st Q')/\Q (.int (bsr g xs)) st
structure Kh (P:Program)(w:World)(K:W.Frag)(mg:Str->Option Value)(base:Heap)(k:Nat):Prop where
 ex:∃f fd,mg "how_many"=some (.ref f)/\W.keepIn K (.ref f)=true/\Binds K fd ["stair","holds"] [] /\
  ∀(a:Addr) (L:FSp),Hb L->∀(A:Around) (outer:List Env) (s:Shared) (H:Hp) (args:Args) (us:List Value) (vs:List V) (Q:VK),Room (k+1) A->xD P w K mg base A outer s H->BindsTo s fd args ((["stair","holds"]:List Str).zip us)->Vals vs us ->
   F4 P w K mg base k outer s H a L->dR K (JU a L) vs H Q E0->codeAny (model P w) A (.call (.ref f) args) (CR CX0 outer P w H s Q E0) s
structure HmX (X:Cx)(k:Nat):Prop where
 ok:Kh X.prog X.w X.K X.mg X.base (k+1)
 cd:∃x c0 T,x∈a_/\W.tabIn X.K x=some (c0,T)/\X.env.code=.ref c0/\X.env.qual=x++".<locals>."/\W.CodeHd X.base c0 T
 bm:∃bm ob,X.mg "__builtins__"=some (.ref bm)/\bm≠builtinsNs/\X.base.get? bm=some ob/\ob.cls=.type "module"/\ob.dict=some builtinsNs/\ob.data=.plain
structure COk (X:Cx)(c:Cfg)(Γ:Nat->FSp):Prop where
 calm:X.calm=true
 pass:PassesOwn (model X.prog X.w) X.A X.env X.xe
 N:X.N=c.N
 nd:c.N.Nodup
 vis:∀x,c.names.lookup x=some .local\/c.names.lookup x=some .cell\/c.names.lookup x=some .free->Vis X.env.scope x
 loc:∀x,c.names.lookup x=some .local\/c.names.lookup x=some .cell->Loc X.env.scope x/\(X.fn x=true\/X.env.scope.names.lookup x=some .local)
 lcl:∀x,c.names.lookup x=some .local->X.env.scope.names.lookup x=some .local
 glb:∀x,c.names.lookup x=some .globalImplicit->Gl X x
 bk:X.env.blockKind=.function
 cel:∀x,c.names.lookup x=some .cell\/c.names.lookup x=some .free->X.env.kindOf x=some .cell\/X.env.kindOf x=some .free
 room:Room c.lim X.A
 fn:∀f x,f<c.lim->c.fns[f]?=some x->∃ps,Has X.prog X.w X.K X.mg X.base (f+1) x ps (dR X.K (Γ f))
 blt:∀x∈c.blts,X.mg x=none
 gl:∀x v,c.gl.lookup x=some v->∃u y,X.mg x=some u/\RelV y u/\∀m H,R X.K m H v y
 mono:bc Γ
 lam:c.pc=true->∀ {pins:List (Addr × Obj)}{σ:L2.St}{H:Hp}{s:Shared}{b:Addr}{u:Value}{v:V}{Q:VK},L2.Inv X pins σ H s->RelV v u->dR X.K (Γ 1000) [.ref b,v] H Q E0 ->
  W.FnAt b s.heap/\wpAny (model X.prog X.w) X.A (call (.ref b) [u]) (EP X pins σ Q) X.xe s
 hmo:∀k,c.hm=some k->HmX X k
section
variable {X:Cx}{c:Cfg}{Γ:Nat->FSp}
theorem COk.visx (C:COk X c Γ)(h:c.vis x=true):Vis X.env.scope x/\(x == ("__debug__":Str))=false/\(x == ("__classdict__":Str))=false:=by unfold Cfg.vis at h;simp only[Bool.and_eq_true,Bool.or_eq_true,beq_iff_eq,Bool.not_eq_true'] at h;exact⟨C.vis x (by rcases h.1.1 with (h|h)|h <;> simp[h]),h.1.2,h.2⟩
theorem COk.glbx (C:COk X c Γ)(h:c.glb x=true):Gl X x/\(x == ("__debug__":Str))=false/\x≠"__name__":=by unfold Cfg.glb at h;simp only[Bool.and_eq_true,beq_iff_eq,Bool.not_eq_true'] at h;exact⟨C.glb x h.1.1,h.1.2,fun z=>by rw[z] at h;exact absurd h.2 (by decide)⟩
theorem COk.bltx (C:COk X c Γ)(h:c.blt x=true):Gl X x/\(x == ("__debug__":Str))=false/\x≠"__name__"/\X.mg x=none:=by unfold Cfg.blt at h;rw[KW] at h;obtain⟨h1,h2,h3⟩:=C.glbx h.1;exact⟨h1,h2,h3,C.blt x (List.contains_iff_mem.mp h.2)⟩
theorem COk.fnx (C:COk X c Γ)(h:c.fn f x=true):Gl X x/\(x == ("__debug__":Str))=false/\Room (f+1) X.A/\∃ps,Has X.prog X.w X.K X.mg X.base (f+1) x ps (dR X.K (Γ f)):=by unfold Cfg.fn at h;simp only[Bool.and_eq_true,beq_iff_eq,decide_eq_true_eq] at h;obtain⟨h1,h2,h3⟩:=C.glbx h.2;exact⟨h1,h2,C.room.mono h.1.2,C.fn f x h.1.2 h.1.1⟩
theorem IS:∀b:B,bootBuiltins (k_ b)=some (Ip b):=by intro b;cases b <;> decide +kernel
theorem vj:∀t∈kinds,bootBuiltins (t:Str)=some (.type t):=by decide +kernel
theorem tY:bootBuiltins ("isinstance":Str)=some (.builtin "isinstance"):=by decide +kernel
theorem vk (h:vb x=true)(env:Env):∀whole,isTrue x env whole=(do let v <-whole;standAt x.pos;holding [v] (truthy v)):=by cases x <;> first|(intro _;rfl)|cases h
theorem ug (h:Rs K m H as vs):Rs K m H as (vs++[]):=by rw[M9];exact h
theorem sC (C:COk X c Γ){xs:List Expr}(hf:c.fn f y=true)(hn:xs.all ak=true)(hc:eJ c es xs=true)(ha:PA X xs (TAx X.K (cb Γ es))) :
  PE X (.Call (.Name y p) xs [] pos) (TEx X.K fun ρ st Q=>cb Γ es ρ st fun vs st1=>Γ f vs st1 Q):=by
 obtain⟨h1,h2,hr,ps,F⟩:=C.fnx hf;have key:∀ {σ:L2.St}{H:Hp}{Q:VK},TEx X.K (fun ρ st Q=>cb Γ es ρ st fun vs st1=>Γ f vs st1 Q) σ H Q->pf (dR X.K (Γ f)) [] E0 (TAx X.K (cb Γ es)) σ H Q:=by rintro σ H Q ⟨m,ρ,st,rf,rh,w⟩;exact⟨m,ρ,st,rf,rh,aH C.mono es (fun vs st1 k m1 H1 xs1 e1 r1 r2=>⟨m1,st1,vs,ug r2,r1,C.mono _ _ _ _ _ (fun _ _ q=>q.ext e1) k⟩) w⟩
 intro pins s σ H Q I h;cases xs with
 | nil =>
  refine Cp F hr h1 h2 pins s σ H Q I ?_;obtain⟨m,ρ,st,rf,rh,w⟩:=h;cases es with
  | nil=>exact⟨m,st,[],Rs_nil.mpr rfl,rh,w⟩
  | cons e es=>exact Bool.noConfusion (show false=true from hc)
 | cons x xs =>rw[M7,KW] at hn;exact Cy F hr ha h1 h2 hn.1 hn.2 pins s σ H Q I (key h)
theorem tI (C:COk X c Γ){y:Str}{xs:List Expr}(hy:y=k_ b)(hb:c.blt y=true)(hn:xs.all ak=true)(hne:xs.isEmpty=false)(ha:PA X xs (TAx X.K (cb Γ es))) :
  PE X (.Call (.Name y p) xs [] pos) (TEx X.K fun ρ st Q=>cb Γ es ρ st fun vs st1=>cw b vs st1 Q):=by
 obtain⟨h1,h2,h3,h4⟩:=C.bltx hb;have hv:=IS b;rw[<-hy] at hv;have key:∀ {σ:L2.St}{H:Hp}{Q:VK},TEx X.K (fun ρ st Q=>cb Γ es ρ st fun vs st1=>cw b vs st1 Q) σ H Q->tCB (HL X.K (cw b)) (TAx X.K (cb Γ es)) σ H Q:=by rintro σ H Q ⟨m,ρ,st,rf,rh,w⟩;exact⟨m,ρ,st,rf,rh,aH C.mono es (fun vs st1 k m1 H1 xs1 e1 r1 r2=>⟨m1,st1,vs,r1,r2,gW (fun _ _ q=>q.ext e1) k⟩) w⟩
 have hc:=Gx C.calm C.room.gd C.room.units b;cases xs with
 | nil=>cases hne
 | cons x xs =>
  rw[M7,KW] at hn;intro pins s σ H Q I h;cases b <;> first
   | exact jJ hc h1 h4 hv ha h3 h2 hn.1 hn.2 pins s σ H Q I (key h)
   | exact vg hc h1 h4 hv ha h3 h2 hn.1 hn.2 pins s σ H Q I (key h)
theorem xM (m:M):PlainAttrs "list"/\Slot "list" (qQ m) (vW m)/\typeOf (.builtin (vW m))=pure (.type "method_descriptor"):=by
 cases m
 ·exact⟨LZ,PySem.F.slot_list_append,PySem.F.type_list_append⟩
 ·exact⟨LZ,PySem.F.slot_list_pop,PySem.F.type_list_pop⟩
 ·exact⟨LZ,PySem.F.slot_list_extend,PySem.F.type_list_extend⟩
 ·exact⟨LZ,PySem.F.slot_list_insert,PySem.F.type_list_insert⟩
 ·exact⟨LZ,PySem.F.slot_list_count,PySem.F.type_list_count⟩
 ·exact⟨LZ,PySem.F.slot_list_index,PySem.F.type_list_index⟩
 ·exact⟨LZ,PySem.F.slot_list_pop,PySem.F.type_list_pop⟩
theorem cJ (h:bB y=true):attributeBase y n env w=w:=by cases y <;> first|rfl|cases h
theorem BH (C:COk X c Γ){n:Str}{ap cp:Pos}{xs:List Expr}(hn:n=qQ m)(hl:(ap.endLine == cp.line)=true)(hs:xs.all ak=true)(h2:xs.length<=2)(hy:bB y=true)(ho:PE X y (TEx X.K (wpE Γ o)))(ha:PA X xs (TAx X.K (cb Γ es)))(hc:eJ c es xs=true) :
  PE X (.Call (.Attribute y n ap) xs [] cp) (TEx X.K (wpE Γ (.met m o es))):=by
 obtain⟨pa,slot,ty⟩:=xM m;rw[<-hn] at slot;have hm:MtR X (vW m) (Hg X.K (rZ m)):=F' m;intro pins s σ H Q I h;obtain⟨mm,ρ,st,rf,rh,w⟩:=h
 skip
 have tyv:∀ {m1:List Addr} {H1:Hp} {st1:AH} {v:PV} {x:V},RH X.K m1 H1 st1->R X.K m1 H1 v x->(∃xs,aQ st1 v=some xs)->tyV X.K "list" x H1:=by rintro m1 H1 st1 v x r1 r2 ⟨xs,e⟩;obtain⟨a,ys,rfl,g,_⟩:=b9 r1 r2 e;exact .inl ⟨rfl,ys,g⟩
 match xs,hs,h2,ha,hc with
 | [],hs,h2,ha,hc =>
  refine rm pa slot ty hm ho (cJ hy) hl pins s σ H Q I ?_;refine⟨mm,ρ,st,rf,rh,aa C.mono o (fun v st1 k m1 H1 x1 e1 r1 r2=>⟨tyv r1 r2 k.1,?_⟩) w⟩;cases es with
  | nil =>
   have k2:=k.2
   skip
   exact⟨m1,st1,v,[],r1,r2,Rs_nil.mpr rfl,h_ (fun _ _ q=>q.ext e1) k2⟩
  | cons e es=>exact Bool.noConfusion (show false=true from hc)
 | [a],hs,h2,ha,hc =>simp only[List.all_cons,List.all_nil,Bool.and_true] at hs;have st1:starEach [a] X.env=[(false,eval a X.env)]:=aM hs;refine m5 pa slot ty hm ho ha (cJ hy) (by rw[st1];rfl) hl st1 rfl pins s σ H Q I ?_;refine⟨mm,ρ,st,rf,rh,aa C.mono o (fun v st1 k m1 H1 x1 e1 r1 r2=>⟨tyv r1 r2 k.1,?_⟩) w⟩;exact⟨m1,ρ,st1,rf.mono e1,r1,aH C.mono es (fun vs st2 k m2 H2 xs2 e2 r3 r4=>⟨m2,st2,v,vs,r3,r2.mono e2,r4,h_ (fun _ _ q=>q.ext (e1.trans e2)) k⟩) k.2⟩
 | [a,b],hs,h2,ha,hc =>simp only[List.all_cons,List.all_nil,Bool.and_true,Bool.and_eq_true] at hs;have stb:starEach [b] X.env=[(false,eval b X.env)]:=aM hs.2;have st1:starEach [a,b] X.env=(false,eval a X.env)::starEach [b] X.env:=aM hs.1;refine m5 pa slot ty hm ho ha (cJ hy) (by rw[st1,stb];rfl) hl st1 (by rw[stb];rfl) pins s σ H Q I ?_;refine⟨mm,ρ,st,rf,rh,aa C.mono o (fun v st1 k m1 H1 x1 e1 r1 r2=>⟨tyv r1 r2 k.1,?_⟩) w⟩;exact⟨m1,ρ,st1,rf.mono e1,r1,aH C.mono es (fun vs st2 k m2 H2 xs2 e2 r3 r4=>⟨m2,st2,v,vs,r3,r2.mono e2,r4,h_ (fun _ _ q=>q.ext (e1.trans e2)) k⟩) k.2⟩
 | _::_::_::_,hs,h2,ha,hc=>simp at h2
mutual
theorem PV.bel_le {i j:Nat}(h:i<=j):∀ {v:PV},v.bel i=true->v.bel j=true
 | .non,_=>by rw[PV.bel]
 | .bl _,_=>by rw[PV.bel]
 | .int _,_=>by rw[PV.bel]
 | .str _,_=>by rw[PV.bel]
 | .ref n,z=>by rw[PV.bel] at z |-;have:=MM z;exact LH (by omega)
 | .tup xs,z=>by rw[PV.bel] at z |-;exact PV.bels_le h z
 | .rdl xs,z=>by rw[PV.bel] at z |-;exact PV.bels_le h z
 | .fn _,z=>by rw[PV.bel] at z;cases z
theorem PV.bels_le {i j:Nat}(h:i<=j):∀ {vs:List PV},PV.bels i vs=true->PV.bels j vs=true
 | [],_=>by rw[PV.bels]
 | v::vs,z=>by rw[PV.bels,KW] at z |-;exact⟨PV.bel_le h z.1,PV.bels_le h z.2⟩
end
theorem wg (C:COk X c Γ){t:String}{y:Str}(h:(y == ("isinstance":Str) && c.blt y && ak l && z == (t:Str) && c.blt z && kinds.contains t)=true)(ha:PE X l (TEx X.K (wpE Γ a))) :
  PE X (.Call (.Name y p) [l,.Name z q] [] pos) (TEx X.K (wpE Γ (.inst a t))):=by
 simp only[Bool.and_eq_true,beq_iff_eq] at h;obtain⟨⟨⟨⟨⟨h1,h2⟩,h3⟩,h4⟩,h5⟩,h6⟩:=h;subst h1 h4;have ht:t∈kinds:=List.contains_iff_mem.mp h6;obtain⟨g1,g2,g3,g4⟩:=C.bltx h2;obtain⟨k1,k2,k3,k4⟩:=C.bltx h5;rintro pins s σ H Q I ⟨m,ρ,st,rf,rh,w⟩
 skip
 have pt:PE X (.Name (t:Str) q) (tC (.ty t)):=Cb k1 k4 (vj t ht) rfl k3 k2;have hA:PA X [l,.Name (t:Str) q] (gG (TEx X.K (wpE Γ a)) (gG (tC (.ty t)) rK)):=pac ha (pac pt eW) h3;have hC:cV X (.builtin "isinstance") (fun xs H Q=>∃m st x y n,RH X.K m H st/\R X.K m H x y/\xs=[y,.ty t]/\bg st x=some n/\Q (.bl (bF t n)) H):=by rintro pins s σ H xs us Q I r ⟨m,st,x,y,n,r1,r2,rfl,e,q⟩;obtain⟨u,v,rfl,ru,rv⟩:=sv r;cases (show v=Value.type t from rv);exact CU (K:=X.K) I r1 r2 ru e ht fun tk=>⟨.bl _,H,I.tok tk,rfl,q⟩
 refine jJ hC g1 g4 tY hA g3 g2 h3 rfl pins s σ H Q I ?_;refine⟨m,ρ,st,rf,rh,aa C.mono a (fun v st1 k m1 H1 x1 e1 r1 r2=>?_) w⟩;obtain⟨n,e,k⟩:=k;exact⟨m1,st1,v,x1,n,r1,r2,rfl,e,(k.ext e1).here r1 (R_bl.mpr rfl)⟩
theorem Ay (C:COk X c Γ){i:Nat}(h:(c.N[i]? == some y && c.vis y)=true):PE X (.Name y p) (TEx X.K (wpE Γ (.var i))):=by simp only[Bool.and_eq_true,beq_iff_eq] at h;obtain⟨h1,h2,h3⟩:=C.visx h.2;rintro pins s σ H Q I ⟨m,ρ,st,rf,rh,w⟩;obtain⟨v,e,w⟩:=jf w;obtain⟨y,e2,r⟩:=rf.at_ i v e;exact FP (by rw[C.N];exact h.1) h1 h2 h3 pins s σ H Q I ⟨y,e2,w.here rh r⟩
theorem qV (rh:RH K m H st)(e:Ext K m H m' H')(rh':RH K m' H' st')(r:R K m' H' v x)(q:Tmp st Q v st') :
  ∃st1,Q v st1/\Ext K m H m H'/\RH K m H' st1/\R K m H' v x:=by
 obtain⟨st1,g,rfl,hl,hs,hb,q⟩:=q;have hm:m'.take m.length=m:=by obtain⟨t,ht⟩:=e.pre;rw[<-ht,N0]
 have hlen:m.length=st.length:=rh.len;refine⟨st1,q,⟨NO _,fun _ z=>.inl z,e.fr,e.tup,e.rdf,e.tbs,e.tb,e.frz⟩,⟨by rw[hl,hlen],rh.nd,fun n c a h1 h2=>?_,e.tb rh.tb⟩,?_⟩
 ·have hn:n<st1.length:=(KR.mp h1).1;have c1:CellR K m' H' c a:=rh'.at_ n c a (by rw[K3 hn];exact h1) (eB e.pre h2);have hc:c.bec m.length=true:=by
   rcases hs n (by omega) with z|⟨c',z,zb⟩
   ·rw[h1] at z;exact(rh.at_ n c a z.symm h2).bel
   ·rw[h1] at z;cases z;have zb':∀ {c:Cell},c.bel 0=true->c.bec m.length=true:=by
     have b0:∀(xs:List PV),PV.bels 0 xs=true->PV.becs m.length xs=true:=fun xs h=>PV.bels_becs (LU _) h;intro c h;cases c with
     | lst xs=>exact b0 _ h
     | dk kvs=>exact b0 _ h
     | fz kvs=>cases h
     | od kvs=>cases h
    exact zb' zb
  have:=c1.cut hc;rw[hm] at this;exact this
 ·have:=r.cut (k:=m.length) (by rw[hlen];exact PV.bel_bec (KF _) hb);rw[hm] at this;exact this
noncomputable def postF (K:W.Frag)(m:List Addr)(H:Hp)(Q:L2.St->Hp->Prop):Fr->AH->Prop:=fun ρ' st'=>∀m' H' σ',Ext K m H m' H'->RH K m' H' st'->RF K m' H' ρ' σ'->Q σ' H'
theorem postF.ext (x:Ext K m H m1 H1)(q:postF K m H Q ρ st):postF K m1 H1 Q ρ st:=fun m' H' σ' e r s=>q m' H' σ' (x.trans e) r s
theorem postF.here (q:postF K m H Q ρ st)(h:RH K m H st)(r:RF K m H ρ σ):Q σ H:=q m H σ (Ext.refl _ _ _) h r
noncomputable def TGx (K:W.Frag)(w:PV->Fr->AH->(Fr->AH->Prop)->Prop):TG:=fun v' σ H Q=>∃m ρ st v,RF K m H ρ σ/\RH K m H st/\R K m H v v'/\w v ρ st (postF K m H Q)
noncomputable def JK (K:W.Frag)(w:List PV->Fr->AH->(Fr->AH->Prop)->Prop):TGs:=fun v' σ H Q=>∃m ρ st v,RF K m H ρ σ/\RH K m H st/\Rs K m H v v'/\w v ρ st (postF K m H Q)
theorem COk.locx (C:COk X c Γ)(h:c.loc x=true):Loc X.env.scope x/\(X.fn x=true\/X.env.scope.names.lookup x=some .local):=by unfold Cfg.loc at h;simp only[Bool.or_eq_true,beq_iff_eq] at h;exact C.loc x h
theorem COk.ndX (C:COk X c Γ):X.N.Nodup:=by rw[C.N];exact C.nd
theorem ip {es:List Expr}(h:ak e=true):assignEach (e::es) env=(false,assign e env)::assignEach es env:=by cases e <;> first|rfl|cases h
theorem lN:∀ {ts:Tgs}{xs:List Expr}{env:Env},lW c ts xs=true->(assignEach xs env).length=ts.size/\(assignEach xs env).findIdx? (·.1)=none
 | .nil,xs,env,h=>by
  have h:xs.isEmpty=true:=h;cases xs with
  | nil=>exact⟨rfl,rfl⟩
  | cons _ _=>cases h
 | .cons t ts,xs,env,h=>by
  replace h:=aJ h;obtain⟨y,ys,rfl,h⟩:=h
  ·simp only[Bool.and_eq_true] at h;obtain⟨⟨h1,h2⟩,h3⟩:=h;obtain⟨g1,g2⟩:=lN (env:=env) h3;rw[ip h1];exact⟨by simp[g1,Tgs.size],by simp[List.findIdx?_cons,g2]⟩
structure kX (K:W.Frag)(J:L2.It)(xs:List PV)(chk:AH->Prop)(m0:List Addr)(H0:Hp):Prop where
 stop:∀m H st,Ext K m0 H0 m H->RH K m H st->chk st->J.stop xs.length H
 item:∀(i:Nat) v m H st,Ext K m0 H0 m H->RH K m H st->chk st->xs[i]?=some v->J.go i H/\∀x H',J.yld i H x H'->Ext K m H m H'/\RH K m H' st/\R K m H' v x
noncomputable def TIx (K:W.Frag)(w:Fr->AH->(List PV->(AH->Prop)->AH->Prop)->Prop):TI:=fun σ H Rr=>∃m ρ st,RF K m H ρ σ/\RH K m H st /\
 w ρ st fun xs chk st1=>∀m1 H1 J,Ext K m H m1 H1->RH K m1 H1 st1->kX K J xs chk m1 H1->Rr J H1
theorem lO (h:gB x=true):∀v,foldedSetIterable x env v=pure v:=by cases x <;> first|(intro _;rfl)|cases h
theorem Ga {tl:TE}(hl:PE X l tl):PI X tg l (fun σ H Rr=>tl σ H fun x H1=>∃a,x=.ref a/\((∃xs,SqL X.K H1 a xs)/\Rr (Itl X.K a) H1\/(∃xs,SqT X.K H1 a xs)/\Rr (Itt X.K a) H1)):=by
 intro pins s σ H Rr I h;refine thn (hl pins s σ H _ I h) fun v s1 ⟨x,H1,I1,r1,q1⟩=>?_;obtain⟨a,e,q1⟩:=q1;subst e;cases r1;rcases q1 with⟨⟨xs,hq⟩,q⟩|⟨⟨xs,hq⟩,q⟩
 ·obtain⟨its,rv,p,hz⟩:=I1.list hq;refine wpAny_pyIter_list p.isList ?_;refine⟨s1.heap.objs.size,[s1.heap.objs.size],_,_,H1,rfl,I1.kept (t':=s1.toks) fun b o e=>KB _ e,xN a _,⟨_,KI _ rfl,rfl,rfl⟩,fun b hb=>?_,q⟩;have e:b=s1.heap.objs.size:=by simpa using hb
  subst e;exact I1.fpOk (KF _) (I1.hok.fresh (KF _))
 ·obtain⟨its,rv,p,hz⟩:=I1.tuple hq;refine wpAny_pyIter_tuple (show s1.heap.IsTuple a its.toArray from p) ?_;refine⟨s1.heap.objs.size,[s1.heap.objs.size],_,_,H1,rfl,I1.kept (t':=s1.toks) fun b o e=>KB _ e,uY a _,⟨_,KI _ rfl,rfl,rfl⟩,fun b hb=>?_,q⟩;have e:b=s1.heap.objs.size:=by simpa using hb
  subst e;exact I1.fpOk (KF _) (I1.hok.fresh (KF _))
theorem xo {n:Nat}(rh:RH K m0 H0 st0)(e:st0[n]?=some (.lst xs))(ea:m0[n]?=some a):kX K (Itl K a) xs (fun st'=>st'[n]?=st0[n]?) m0 H0:=by
 have get:∀m H st,Ext K m0 H0 m H->RH K m H st->st[n]?=st0[n]?->∃ys,H a=some (.lst ys)/\Rs K m H xs ys:=fun m H st x r q=>by rw[e] at q;exact r.at_ n _ a q (eB x.pre ea)
 refine⟨fun m H st x r q=>?_,fun i v m H st x r q ev=>?_⟩
 ·obtain⟨ys,h1,h2⟩:=get m H st x r q;exact⟨ys,SqL.of h1,by rw[h2.len];exact KF _⟩
 ·obtain⟨ys,h1,h2⟩:=get m H st x r q;obtain⟨y,e1,r1⟩:=h2.get ev;refine⟨⟨ys,y,SqL.of h1,e1⟩,fun z H' ⟨e2,e3⟩=>?_⟩;subst e2;have:=e3 ys (SqL.of h1);rw[e1] at this;cases this;exact⟨Ext.refl _ _ _,r,r1⟩
theorem zO (h:RdF K H0 a ys)(r0:Rs K m0 H0 xs ys):kX K (Itl K a) xs (fun _=>True) m0 H0:=by refine⟨fun m H st x r q=>⟨ys,(x.rdf _ _ h).sq,by rw[r0.len];exact KF _⟩,fun i v m H st x r q ev=>?_⟩;obtain⟨y,e1,r1⟩:=(r0.mono x).get ev;refine⟨⟨ys,y,(x.rdf _ _ h).sq,e1⟩,fun z H' ⟨e2,e3⟩=>?_⟩;subst e2;have:=e3 ys (x.rdf _ _ h).sq;rw[e1] at this;cases this;exact⟨Ext.refl _ _ _,r,r1⟩
theorem yy (h:SqT K H0 a ys)(r0:Rs K m0 H0 xs ys):kX K (Itt K a) xs (fun _=>True) m0 H0:=by refine⟨fun m H st x r q=>⟨ys,x.tup _ _ h,by rw[r0.len];exact KF _⟩,fun i v m H st x r q ev=>?_⟩;obtain⟨y,e1,r1⟩:=(r0.mono x).get ev;refine⟨⟨ys,y,x.tup _ _ h,e1⟩,fun z H' ⟨e2,e3⟩=>?_⟩;subst e2;have:=e3 ys (x.tup _ _ h);rw[e1] at this;cases this;exact⟨Ext.refl _ _ _,r,r1⟩
theorem uK:kX K (Itr lo n) (bb lo n) (fun _=>True) m0 H0:=by
 refine⟨fun m H st x r q=>by show n<=_;simp[bb],fun i v m H st x r q ev=>?_⟩;unfold bb at ev;rw[KM] at ev;have hi:i<n:=by
  by_cases hi:i<n
  ·exact hi
  ·rw[LO (by simp;omega)] at ev;cases ev
 rw[NW hi] at ev;cases ev;refine⟨hi,fun z H' ⟨e2,e3⟩=>?_⟩;subst e2 e3;exact⟨Ext.refl _ _ _,r,R_int.mpr rfl⟩
end
end FW
namespace FW
open L2 HX
section
variable {X:Cx}{c:Cfg}{Γ:Nat->FSp}
noncomputable def Kw (prog:Program)(w:World)(a:Addr)(ns:List Int):HO:=.ext fun h=>Kj (JV prog w) (!(byT w)) h a ns
end
end FW
namespace FW
open L2 HX
section
variable {X:Cx}{pins:List (Addr × Obj)}{σ:L2.St}{H:Hp}{s:Shared}{h':Heap}
theorem Dp {t':Nat}{wr:List Addr}(I:L2.Inv X pins σ H s)(k:∀b o,b ∉ wr->s.heap.get? b=some o->h'.get? b=some o)(hf:∀b∈wr,FpOk X pins H b):L2.Inv X pins σ H { s with heap:=h',toks:=t' }:=by
 have nit:∀b u,H b=some u->b ∉ wr:=fun b u e z=>by rw[(hf b z).1] at e;cases e
 refine I.step (g':=s.gens) (d':=s.drawn) (ch:=wr) (fun b hb=>⟨(hf b hb).2.2.2.1,(hf b hb).2.1,(hf b hb).2.2.2.2.1,(hf b hb).2.2.2.2.2⟩) (fun b o _ _ hc e _=>k b o hc e) (fun b o _ _ hc e _=>⟨o.slots,k b o hc e⟩) (fun _ _ _ _ n=>n)
  (fun b o hc e=>⟨o,k b o hc e⟩) (fun _ _ e=>e) (fun _ _ _ e=>e) (fun b ps e=>⟨#[],by rw[e];simp⟩) (fun m hm=>?_) (fun b u e=>?_) I.bare
 ·obtain⟨o,es,ep,ho,r⟩:=hm;exact⟨o,es,ep,k _ o (fun z=>(hf _ z).2.1 rfl) ho,r⟩
 ·refine(I.hok b u e).stay (fun c v hc q=>k c v ?_ q) (fun _ q=>q) fun _ _ q=>q;rcases hc with z|z
  ·rw[z];exact nit b u e
  ·exact nit c _ z
theorem qw {t':Nat}{wr:List Addr}{T:Addr}{xs:List V}{its:List Value}(I:L2.Inv X pins σ H s)(k:∀b o,b ∉ wr->s.heap.get? b=some o->h'.get? b=some o)(hf:∀b∈wr,FpOk X pins H b)
  (hT:s.heap.objs.size<=T) (hx:Vals xs its) (hz:xs.length<=sizeLine) (ht:h'.IsTuple T its.toArray):L2.Inv X pins σ (upd H T (.tup xs)) { s with heap:=h',toks:=t' }:=by
 have nit:∀b u,H b=some u->b ∉ wr:=fun b u e z=>by rw[(hf b z).1] at e;cases e
 have hn:H T=none:=I.hok.fresh hT;have up:∀b u,H b=some u->upd H T (.tup xs) b=some u:=fun b u e=>by rw[af (ar e hn)];exact e
 refine I.step (g':=s.gens) (d':=s.drawn) (ch:=wr) (fun b hb=>⟨(hf b hb).2.2.2.1,(hf b hb).2.1,(hf b hb).2.2.2.2.1,(hf b hb).2.2.2.2.2⟩) (fun b o _ _ hc e _=>k b o hc e) (fun b o _ _ hc e _=>⟨o.slots,k b o hc e⟩)
  (fun b o _ e n=>by rw[af (K6 (KY (KO e) hT))];exact n)
  (fun b o hc e=>⟨o,k b o hc e⟩) (fun b _ e=>up b _ e) (fun b _ _ e=>up b _ e) (fun b ps e=>⟨#[],by rw[up b _ e];simp⟩) (fun m hm=>?_) (fun b u e=>?_) I.bare
 ·obtain⟨o,es,ep,ho,r⟩:=hm;exact⟨o,es,ep,k _ o (fun z=>(hf _ z).2.1 rfl) ho,r⟩
 ·by_cases hb:b=T
  ·subst hb;rw[ax] at e;cases e;exact⟨hz,its,hx,ht⟩
  ·rw[af hb] at e;refine(I.hok b u e).stay (fun c v hc q=>k c v ?_ q) (fun c q=>up c _ q) fun c _ q=>up c _ q;rcases hc with z|z
   ·rw[z];exact nit b u e
   ·exact nit c _ z
end
theorem gO:∀ {xs ys:List PV},(fX xs ys).length=min xs.length ys.length
 | [],ys=>by simp[fX]
 | x::xs,[]=>by simp[fX]
 | x::xs,y::ys=>by simp only[fX,List.length_cons,gO (xs:=xs) (ys:=ys)];omega
theorem sj:∀ {xs ys:List PV}{i:Nat}{v:PV},(fX xs ys)[i]?=some v->∃x y,xs[i]?=some x/\ys[i]?=some y/\v=.tup [x,y]
 | [],ys,i,v,h=>by simp[fX] at h
 | x::xs,[],i,v,h=>by simp[fX] at h
 | x::xs,y::ys,0,v,h=>by simp[fX] at h;exact⟨x,y,rfl,rfl,h.symm⟩
 | x::xs,y::ys,i+1,v,h=>by
  simp only[fX,List.getElem?_cons_succ] at h |-
  exact sj h
end FW
namespace FW
open L2
section
variable {prog:Program}{w:World}{A:Around}{E:Value->Shared->Prop}{s:Shared}
theorem Bx {M:Model}{Q:Option Obj->Shared->Prop}(h:Q (s.heap.get? a) s):wpAny M A (loadIfAlive a) Q E s:=fun _ _ _=>h
def ItJ (h:Heap)(it d:Addr)(i n ep:Nat)(f0 f1 ok ov:Value):Prop:=h.get? it=some { cls:=.type "dict_itemiterator",dict:=none,data:=.fields #[f0,f1,.ref d,.int i 0,.int n 0,.int ep 0,ok,ov],slots:=#[] }
structure wO (h:Heap)(it:Addr)(f0 f1:Value):Prop where
 ex:∃T b o,f0=rawInt (T:Nat)/\f1=.bool b/\h.get? T=some o/\T≠it
theorem Cc {key:Value}{Q:Value->Shared->Prop}(hit:ItJ s.heap it d i n ep f0 f1 ok ov)(hl:wO s.heap it f0 f1)(hQ:∀h' g1,ItJ h' it d i n ep f0 g1 ok ov->wO h' it f0 g1->h'.get? s.heap.objs.size=some { cls:=.type "tuple",data:=.seq #[key,v] }->h'.objs.size=s.heap.objs.size+1 ->
   (∀b o,b≠it->s.heap.get? b=some o->h'.get? b=some o)->Q (.ref s.heap.objs.size) { s with heap:=h' }) :
  wpAny (model prog w) A (Builtin.Dict_items.pairFromOwner (.ref it) 6 key v) Q E s:=by
 obtain⟨T,b,o,rfl,rfl,hT,hn⟩:=hl.ex;have hil:it<s.heap.objs.size:=KO hit;unfold Builtin.Dict_items.pairFromOwner Builtin.Dict_items.ownedTupleIsFree;refine KA (wpAny_newTuple ?_);have h0:ItJ (s.heap.push { cls:=.type "tuple",data:=.seq #[key,v] }) it d i n ep (rawInt T) (.bool b) ok ov:=KB _ hit;have t0:(s.heap.push { cls:=.type "tuple",data:=.seq #[key,v] }).get? s.heap.objs.size=some { cls:=.type "tuple",data:=.seq #[key,v] }:=KI _ rfl;have z0:(s.heap.push { cls:=.type "tuple",data:=.seq #[key,v] }).objs.size=s.heap.objs.size+1:=MV ..;have k0:∀b o,s.heap.get? b=some o->(s.heap.push { cls:=.type "tuple",data:=.seq #[key,v] }).get? b=some o:=fun b o e=>KB _ e;refine KA (KA (wpAny_field h0 rfl (x:=rawInt T) rfl ?_));have hT0:=k0 T o hT;show wpAny _ _ (loadIfAlive (Int.toNat (T:Int)) >>= _) _ _ _;refine KA (Bx ?_);rw[show Int.toNat (T:Int)=T from M0 T];show wpAny _ _ (if Option.isNone (Heap.get? (s.heap.push { cls:=.type "tuple",data:=.seq #[key,v] }) T)=true then _ else _) _ _ _;rw[hT0,KS (by simp)];refine KA (wpAny_field h0 rfl (x:=.bool b) rfl ?_);cases b with
 | true =>rw[KS (by decide)];refine KC ?_;rw[KS (by simp)];exact KC (hQ _ _ h0 ⟨T,true,o,rfl,rfl,hT0,hn⟩ t0 z0 fun b o _ e=>k0 b o e)
 | false =>rw[KZ (by decide)];refine KA (wpAny_setField_rec h0 (by simp) fun h1 e1 s1=>KC ?_);rw[KS (by simp)];have up:∀b o,b≠it->(s.heap.push { cls:=.type "tuple",data:=.seq #[key,v] }).get? b=some o->h1.get? b=some o:=fun b o hb e=>s1.extBut b o hb e;exact KC (hQ h1 (.bool true) e1 ⟨T,true,o,rfl,rfl,up T o hn hT0,hn⟩ (up _ _ (ME hil) t0) (s1.1.trans z0) fun b o hb e=>up b o hb (k0 b o e))
theorem yT {es:Array DictEntry}{Q:Option Value->Shared->Prop}(hit:ItJ s.heap it d i es.size ep f0 f1 ok ov)(hl:wO s.heap it f0 f1)(hm:Ent s.heap d es ep)(hi:es[i]?=some e)(hQ:∀h' g1,ItJ h' it d (i+1) es.size ep f0 g1 ok ov->wO h' it f0 g1->h'.get? s.heap.objs.size=some { cls:=.type "tuple",data:=.seq #[e.key,e.val] }->h'.objs.size=s.heap.objs.size+1 ->
   (∀b o,b≠it->s.heap.get? b=some o->h'.get? b=some o)->Q (some (.ref s.heap.objs.size)) { s with heap:=h' }) :
  wpAny (model prog w) A (pyNext (.ref it)) Q E s:=by
 obtain⟨o,ho,hd⟩:=hm.ob;have hT:s.TypeIs (.ref it) "dict_itemiterator":=⟨_,hit,rfl⟩;have hown:Builtin.Dict_items.ownsTuple "dict_itemiterator"=true:=by decide
 unfold pyNext;refine KA (wpAny_attempt (wpAny_callSpecial?_slot (name:=Str.ofString "__next__") hT LV
  (wpAny_call_entry LV hT MW ?_ (MR _))))
 refine KA (KC (KA (KA (KA (wpAny_typeNameOfWhole_itemiter hT (KC (KA (wpAny_fieldsOf hit rfl ?_))))))));simp only[hown,if_true];show wpAny _ _ (if (Value.ref d == Value.none)=true then _ else _) _ _ s;rw[KS (show ¬((Value.ref d == Value.none)=true) from KD)];refine KA (KC (KA (wpAny_dictEntries ho hd ?_)));rw[KS (by simp)];refine KA (KC (KA (wpAny_dictEpoch ho hd ?_)));rw[KS (by simp)];refine KC ?_;simp only[show ¬((i:Int)<0) from by omega,if_false,Int.toNat_natCast,hi];refine KA (KA (wpAny_typeNameOfWhole_itemiter hT (KC (KA (wpAny_isOneOf_itemiter hT ?_)))));show wpAny _ _ (setField (.ref it) 3 (rawInt ((i:Int)+1)) >>= _) _ _ s;refine KA (wpAny_setField_rec hit (by simp) fun h1 e1 s1=>?_);have e1:ItJ h1 it d (i+1) es.size ep f0 f1 ok ov:=by
  have q:((i+1:Nat):Int)=(i:Int)+1:=by omega
  unfold ItJ;rw[q];simpa[rawInt] using e1
 have hl1:wO h1 it f0 f1:=by obtain⟨T,b,o,a1,a2,a3,a4⟩:=hl.ex;exact⟨T,b,o,a1,a2,s1.extBut T o a4 a3,a4⟩
 have hT1:Shared.TypeIs { s with heap:=h1 } (.ref it) "dict_itemiterator":=⟨_,e1,rfl⟩;refine KA (L3 (KA (wpAny_isOneOf_itemiter hT1 (KA (wpAny_isOneOf_itemiter hT1 ?_)))));refine Cc (s:={ s with heap:=h1 }) e1 hl1 fun h2 g1 a1 a5 a2 a3 a4=>KC ⟨_,rfl,?_⟩;have z:h1.objs.size=s.heap.objs.size:=s1.1;rw[z] at a2 a3;show wpAny _ _ (pure (some (Value.ref h1.objs.size))) _ _ _;rw[z];exact KC (hQ h2 g1 a1 a5 a2 a3 fun b o hb e=>a4 b o hb (s1.extBut b o hb e))
theorem Br {es:Array DictEntry}{Q:Option Value->Shared->Prop}(hh:A.handled=none)(hit:ItJ s.heap it d i es.size ep f0 f1 ok ov)(hm:Ent s.heap d es ep)(hi:es.size<=i)(hQ:∀h',Heap.ExtBut it s.heap h'->Q none { s with heap:=h' }):wpAny (model prog w) A (pyNext (.ref it)) Q E s:=by
 obtain⟨o,ho,hd⟩:=hm.ob;have hT:s.TypeIs (.ref it) "dict_itemiterator":=⟨_,hit,rfl⟩;have hown:Builtin.Dict_items.ownsTuple "dict_itemiterator"=true:=by decide
 unfold pyNext;refine KA (wpAny_attempt (wpAny_callSpecial?_slot (name:=Str.ofString "__next__") hT LV
  (wpAny_call_entry LV hT MW ?_ (MR _))))
 refine KA (KC (KA (KA (KA (wpAny_typeNameOfWhole_itemiter hT (KC (KA (wpAny_fieldsOf hit rfl ?_))))))));simp only[hown,if_true];show wpAny _ _ (if (Value.ref d == Value.none)=true then _ else _) _ _ s;rw[KS (show ¬((Value.ref d == Value.none)=true) from KD)];refine KA (KC (KA (wpAny_dictEntries ho hd ?_)));rw[KS (by simp)];refine KA (KC (KA (wpAny_dictEpoch ho hd ?_)));rw[KS (by simp)];refine KC ?_;simp only[show ¬((i:Int)<0) from by omega,if_false,Int.toNat_natCast,Array.getElem?_eq_none hi];refine KA (KA (wpAny_typeNameOfWhole_itemiter hT (KC ?_)));show wpAny _ _ (setField (.ref it) 2 .none >>= _) _ _ s;refine KA (wpAny_setField hit rfl (by simp) ?_);exact Cd hh fun h' e=>hQ h' fun b o hb z=>e b o hb ((NX ..).extBut b o hb z)
end
inductive Laid (H0:Hp):List (Addr × (Key × V))->Hp->Prop where
 | nil:Laid H0 [] H0
 | snoc {L:List (Addr × (Key × V))}{H:Hp}{T:Addr}{p:Key × V}:Laid H0 L H->H T=none->Laid H0 (L++[(T,p)]) (upd H T (.tup [kV p.1,p.2]))
structure ItSt (h:Heap)(it d:Addr)(i n ep:Nat):Prop where
 ex:∃f0 f1 ok ov,ItJ h it d i n ep f0 f1 ok ov/\((f0=.none/\f1=.bool false)\/wO h it f0 f1)
theorem ItSt.kept {h':Heap}{S:Addr}(x:ItSt h it d i n ep)(nS:it≠S)(ns:∀T o,h.get? T=some o->T≠S->h'.get? T=some o)(al:∀T o,h.get? T=some o->∃o',h'.get? T=some o'):ItSt h' it d i n ep:=by obtain⟨f0,f1,ok,ov,e,r⟩:=x.ex;refine⟨f0,f1,ok,ov,ns it _ e nS,r.imp id fun z=>?_⟩;obtain⟨T,b,o,a1,a2,a3,a4⟩:=z.ex;obtain⟨o',e'⟩:=al T o a3;exact⟨T,b,o',a1,a2,e',a4⟩
theorem FpOk.upd {T:Addr}(h:FpOk X pins H b)(ne:b≠T):FpOk X pins (upd H T o) b:=⟨by rw[af ne];exact h.1,h.2⟩
section
variable {X:Cx}{pins:List (Addr × Obj)}{σ:L2.St}{H0:Hp}{A:Around}
theorem CZ {s:Shared}{H:Hp}{E:Value->Shared->Prop}{es:Array DictEntry}{Q:Option Value->Shared->Prop}(hit:ItSt s.heap it d i es.size ep)(hm:Ent s.heap d es ep)(hi:es[i]?=some e)(hQ:∀h',ItSt h' it d (i+1) es.size ep->h'.get? s.heap.objs.size=some { cls:=.type "tuple",data:=.seq #[e.key,e.val] }->(∀b o,b≠it->s.heap.get? b=some o->h'.get? b=some o)->Q (some (.ref s.heap.objs.size)) { s with heap:=h' }) :
  wpAny (model X.prog X.w) A (pyNext (.ref it)) Q E s:=by
 obtain⟨f0,f1,ok,ov,e1,r⟩:=hit.ex;have hil:it<s.heap.objs.size:=KO e1;rcases r with⟨rfl,rfl⟩|r
 ·exact A7 e1 hm hi fun h' a1 a2 _ a4=>hQ h' ⟨_,_,_,_,a1,.inr ⟨s.heap.objs.size,false,_,rfl,rfl,a2,ME hil⟩⟩ a2 a4
 ·exact yT e1 r hm hi fun h' g1 a1 a5 a2 _ a4=>hQ h' ⟨_,_,_,_,a1,.inr a5⟩ a2 a4
theorem CH {R:Result->Shared->Prop}{it S d:Addr}{es:Array DictEntry}{ys:List (Key × V)}{res:Value}(hh:A.handled=none)(hz:es.size=ys.length)(hn:es.size<=1000)(hes:∀(j:Nat) p,ys[j]?=some p->∃e,es[j]?=some e/\RelV (kV p.1) e.key/\RelV p.2 e.val)(nS:it≠S)(nd:d≠it)(ndS:d≠S) :
  ∀(k i:Nat) (s:Shared) (H:Hp) (acc:Array Value) (c:Nat) (L:List (Addr × (Key × V))),es.size-i=k->i<=es.size->L2.Inv X pins σ H s->FpOk X pins H it->FpOk X pins H S->ItSt s.heap it d i es.size ep->Ent s.heap d es ep ->
  s.heap.get? S=some { cls:=.type "list",dict:=none,data:=.seq acc c,slots:=#[] }->Laid H0 L H->L.map (·.2)=ys.take i->acc.toList=L.map (fun q=>Value.ref q.1) ->
  (∀s' H' acc' c' L',L2.Inv X pins σ H' s'->s'.heap.get? S=some { cls:=.type "list",dict:=none,data:=.seq acc' c',slots:=#[] }->Laid H0 L' H'->L'.map (·.2)=ys->acc'.toList=L'.map (fun q=>Value.ref q.1)->R (.ok (.ret res)) s') ->
  codeAny (model X.prog X.w) A (.builtin "list.extend.loop" ⟨[.ref S,.ref it,res],[]⟩) R s:=by
 intro k
 induction k with
 | zero =>intro i s H acc c L hk hi I f1 f2 st hm hS la e1 e2 q;obtain⟨g0,g1,ok,ov,e,_⟩:=st.ex;refine codeAny_builtin F.entry_extend_loop ?_;rw[Around.under_plainId MT _];show wpAny _ A.in1 (pyNext (.ref it) >>= _) _ _ s;refine KA (Br (A:=A.in1) hh e hm (by omega) fun h' k'=>KC ?_);refine q _ H acc c L (I.turned (t':=s.toks) (fun b o hb e=>k' b o hb e) f1.1 f1.2.1 f1.2.2.2.1 f1.2.2.2.2.1 f1.2.2.2.2.2) (k' S _ (Ne.symm nS) hS) la ?_ e2;rw[e1,L4 (by omega)]
 | succ k ih =>
  intro i s H acc c L hk hi I f1 f2 st hm hS la e1 e2 q;obtain⟨p,hp⟩:∃p,ys[i]?=some p:=⟨ys[i]'(by omega),KU _⟩;obtain⟨e,he,rk,rv⟩:=hes i p hp;obtain⟨o,ho,hd⟩:=hm.ob;have lS:S<s.heap.objs.size:=KO hS;have li:it<s.heap.objs.size:=by obtain⟨_,_,_,_,e,_⟩:=st.ex;exact KO e
  refine codeAny_builtin F.entry_extend_loop ?_;rw[Around.under_plainId MT _];show wpAny _ A.in1 (pyNext (.ref it) >>= _) _ _ s;refine KA (CZ (A:=A.in1) (H:=H) st hm he fun h1 st1 tT k1=>?_);have I1:L2.Inv X pins σ (upd H s.heap.objs.size (.tup [kV p.1,p.2])) { s with heap:=h1 }:=qw (t':=s.toks) (its:=[e.key,e.val]) (wr:=[it]) I (fun b u hb e=>k1 b u (by simpa using hb) e) (fun b hb=>by rw[K9.mp hb];exact f1) (KF _) (.cons rk (.cons rv .nil)) (by show 2<=sizeLine;decide) ⟨_,tT,rfl,0,rfl⟩;have hS1:=k1 S _ (Ne.symm nS) hS;have al:acc.size=i:=by have:=LG List.length e2;have:=LG List.length e1;simp only[List.length_map,List.length_take,Array.length_toList] at *;omega
  show wpAny _ A.in1 (updateSeq S (·.push (.ref s.heap.objs.size)) >>= _) _ _ _;refine KA (wpAny_updateSeq hS1 rfl (KC ⟨plainId_quiet MT _,?_⟩) (by rw[al,sizeLine_eq];omega) (by show (acc.push _).size<=sizeLine+1;rw[Array.size_push,al,sizeLine_eq];omega));have f1':=FpOk.upd (T:=s.heap.objs.size) (o:=.tup [kV p.1,p.2]) f1 (K6 li);have f2':=FpOk.upd (T:=s.heap.objs.size) (o:=.tup [kV p.1,p.2]) f2 (K6 lS);have oth:∀b u,b≠S->h1.get? b=some u->(h1.update S (Obj.mapSeq (·.push (Value.ref s.heap.objs.size)))).get? b=some u:=fun b u hb e=>(L7 _ _ (Ne.symm hb)).trans e;have self:=L_ (Obj.mapSeq (·.push (Value.ref s.heap.objs.size))) hS1 rfl;refine ih (i+1) _ _ (acc.push (.ref s.heap.objs.size)) _ (L++[(s.heap.objs.size,p)]) (by omega) (by omega) (I1.turned (t':=s.toks) (fun b u hb e=>oth b u hb e) f2'.1 f2'.2.1 f2'.2.2.2.1 f2'.2.2.2.2.1 f2'.2.2.2.2.2) f1' f2' (st1.kept nS (fun T u e hT=>oth T u hT e) fun T u e=>?_) ⟨o,oth d o ndS (k1 d o nd ho),hd⟩ self (.snoc la (I.hok.fresh (KF _))) ?_ ?_ q
  ·by_cases z:T=S
   ·subst z;exact⟨_,self⟩
   ·exact⟨u,oth T u z e⟩
  ·rw[LA,e1,LS,hp];rfl
  ·rw[Array.toList_push,e2,LA];rfl
end
end FW
namespace FW
open L2
section
variable {prog:Program}{w:World}{A:Around}{E:Value->Shared->Prop}{s:Shared}
theorem xW:typeLookup (.type "dict_items") "__len__"=pure (some (.builtin "dict_items.__len__")):=by rw[typeLookup_type,builtinLookup_eq_fast];kernel_rfl
theorem uP {Q:Bool->Shared->Prop}(hT:s.TypeIs (.ref a) "dict_items")(h:Q false s):wpAny (model prog w) A (Builtin.List.listLengthHint (.ref a)) Q E s:=by
 have hsp:splitId "dict_items.__len__"=some ("dict_items","__len__"):=by kernel_rfl
 unfold Builtin.List.listLengthHint;refine KA (wpAny_specialOf hT xW ?_);dsimp (config:={ zeta:=false,zetaHave:=false }) only;rw[hsp];dsimp (config:={ zeta:=false,zetaHave:=false }) only;refine KA (wpAny_isInstance (T:="dict_items") (b:=true) hT (by rw [isSubtype_type];kernel_rfl) ?_);rw[KS (by simp)];split
 ·refine KA (wpAny_typeOf hT ?_);exact KC h
 ·rename_i z;exact(z (by decide +kernel)).elim
end
section
variable {X:Cx}{pins:List (Addr × Obj)}{σ:L2.St}{H:Hp}{A:Around}{s:Shared}{E:Value->Shared->Prop}
theorem n5 {ys:List (Key × V)}{Q:List Value->Shared->Prop}(hh:A.handled=none)(I:L2.Inv X pins σ H s)(hv:s.heap.IsItemsView v d)(ho:s.heap.get? d=some o)(hd:o.data=.dict es ep)(hz:es.size=ys.length)(hn:es.size<=1000)(hes:∀(j:Nat) p,ys[j]?=some p->∃e,es[j]?=some e/\RelV (kV p.1) e.key/\RelV p.2 e.val)(q:∀s' H' L',L2.Inv X pins σ H' s'->Laid H L' H'->L'.map (·.2)=ys->Q (L'.map fun q=>Value.ref q.1) s'):wpAny (model X.prog X.w) A (collect (.ref v)) Q E s:=by
 have ld:d<s.heap.objs.size:=KO ho;have lv:v<s.heap.objs.size:=by obtain⟨_,e,_⟩:=hv;exact KO e
 unfold collect;refine KA (wpAny_runValue (codeAny_builtin F.entry_proto_collect ?_));rw[Around.under_plainId F.plain_proto_collect _];show wpAny _ A.in1 (newList [] >>= fun l=>again (.builtin "list.__iadd__" ⟨[l,.ref v],[]⟩)) _ _ s;refine KA (wpAny_newObj_type ?_);refine KC ⟨plainId_quiet F.plain_list_iadd _,codeAny_builtin F.entry_list_iadd ?_⟩;rw[Around.under_plainId F.plain_list_iadd _];show wpAny _ A.in1 (Builtin.List.listExtendWith (.ref s.heap.objs.size) (.ref v) (.ref s.heap.objs.size)) _ _ _;unfold Builtin.List.listExtendWith;have o1:∀b u,s.heap.get? b=some u->(s.heap.push { cls:=.type "list",data:=.seq ([]:List Value).toArray }).get? b=some u:=fun b u e=>KB _ e;have hS:(s.heap.push { cls:=.type "list",data:=.seq ([]:List Value).toArray }).get? s.heap.objs.size=some { cls:=.type "list",data:=.seq ([]:List Value).toArray }:=KI _ rfl;generalize s.heap.push { cls:=.type "list",data:=.seq ([]:List Value).toArray }=h1 at o1 hS |-
 have v1:h1.IsItemsView v d:=by obtain⟨u,e,r⟩:=hv;exact⟨u,o1 v u e,r⟩
 have I1:L2.Inv X pins σ H { s with heap:=h1 }:=I.kept (t':=s.toks) o1;refine KA (wpAny_typeOf (T:="dict_items") v1.typeIs ?_);have sm:Builtin.List.listSameRef (.ref s.heap.objs.size) (.ref v)=false:=by simp[Builtin.List.listSameRef,Nat.ne_of_gt lv]
 have t1:(Value.type "dict_items" == Value.type "list")=false:=by decide
 have t2:(Value.type "dict_items" == Value.type "tuple")=false:=by decide
 simp only[sm,t1,t2,Bool.or_false,Bool.false_eq_true,if_false];have lS:s.heap.objs.size<h1.objs.size:=KO hS;refine KA (Bg (s:={ s with heap:=h1 }) v1 ⟨o,o1 d o ho,hd⟩ fun it h2 eit st o2=>?_);have lit:s.heap.objs.size<it:=by rw[eit];exact lS
 have I2:L2.Inv X pins σ H { s with heap:=h2 }:=I1.kept (t':=s.toks) o2;have fS:FpOk X pins H s.heap.objs.size:=I.fpOk (KF _) (I.hok.fresh (KF _));have fi:FpOk X pins H it:=I.fpOk (LY lit) (I.hok.fresh (LY lit));have hS2:=o2 _ _ hS;have v2:h2.IsItemsView v d:=by obtain⟨u,e,r⟩:=v1;exact⟨u,o2 v u e,r⟩
 refine KA (L3 ?_);refine uP v2.typeIs ?_;have go:∀(h3:Heap) (c:Nat),(∀b u,b≠s.heap.objs.size->h2.get? b=some u->h3.get? b=some u)->h3.get? s.heap.objs.size=some { cls:=.type "list",dict:=none,data:=.seq #[] c,slots:=#[] } ->
   codeAny (model X.prog X.w) A (.builtin "list.extend.loop" ⟨[.ref s.heap.objs.size,.ref it,.ref s.heap.objs.size],[]⟩) (fun r s'=>∃H' L' acc c',r=.ok (.ret (.ref s.heap.objs.size))/\L2.Inv X pins σ H' s'/\Laid H L' H'/\L'.map (·.2)=ys/\s'.heap.get? s.heap.objs.size=some { cls:=.type "list",dict:=none,data:=.seq acc c',slots:=#[] }/\acc.toList=L'.map fun q=>Value.ref q.1) { s with heap:=h3 }:=fun h3 c k3 e3 =>
  CH (H0:=H) (ys:=ys) hh hz hn hes (ME lit) (K6 (NH ld lit)) (K6 ld) _ 0 _ H #[] c [] rfl (LU _) (I2.turned (t':=s.toks) (fun b u hb e=>k3 b u hb e) fS.1 fS.2.1 fS.2.2.2.1 fS.2.2.2.2.1 fS.2.2.2.2.2) fi fS
   ⟨_,_,_,_,k3 it _ (ME lit) st,.inl ⟨rfl,rfl⟩⟩ ⟨o,k3 d o (K6 ld) (o2 d o (o1 d o ho)),hd⟩ e3 .nil (by simp) (by simp) fun s' H' acc c' L' a1 a2 a3 a4 a5=>⟨H',L',acc,c',rfl,a1,a3,a4,a2,a5⟩
 refine wpAny_ite_split (fun _=>?_) (fun _=>KC ⟨plainId_quiet MT _,codeAny_mono (go h2 0 (fun _ _ _ e=>e) hS2) fun r s' y=>by obtain⟨H',L',acc,c',rfl,I',la,a1,a2,a3⟩:=y;show wpAny _ A (load s.heap.objs.size >>= _) _ _ _;exact KA (wpAny_load a2 (KC (by rw[a3];exact q s' H' L' I' la a1)))⟩)
 refine KA (wpAny_rule ?_);refine KA ?_;show wpAny _ _ (updateSeq s.heap.objs.size (·.push .none) >>= fun _=>updateSeq s.heap.objs.size (·.pop)) _ _ _;refine KA (wpAny_updateSeq hS2 rfl ?_);have hS3:=L_ (Obj.mapSeq (·.push Value.none)) hS2 rfl;refine wpAny_updateSeq hS3 rfl ?_;have hS4:=L_ (Obj.mapSeq (·.pop)) hS3 rfl;exact KC ⟨plainId_quiet MT _,codeAny_mono (go _ _ (fun b u hb e=>(L7 _ _ (Ne.symm hb)).trans ((L7 _ _ (Ne.symm hb)).trans e)) hS4) fun r s' y=>by obtain⟨H',L',acc,c',rfl,I',la,a1,a2,a3⟩:=y;show wpAny _ A (load s.heap.objs.size >>= _) _ _ _;exact KA (wpAny_load a2 (KC (by rw[a3];exact q s' H' L' I' la a1)))⟩
end
end FW
namespace FW
open L2
def Tp (h:Heap)(T:Addr)(z:Str):Prop:=∃o t v n,h.get? T=some o/\o.cls=.type "tuple"/\o.data=.seq #[.str z t,v] n
theorem Tp.kept {h':Heap}(x:Tp h T z)(k:∀o,h.get? T=some o->h'.get? T=some o):Tp h' T z:=by obtain⟨o,t,v,n,e,r⟩:=x;exact⟨o,t,v,n,k o e,r⟩
noncomputable abbrev aK (L:List (Addr × Str)):List Value:=L.map fun p=>Value.ref p.1
noncomputable def y_ (f:Addr->List Nat):PyProof.Rows.KeyKind:={ PyProof.Rows.strKind with keyOf:=fun v=>match v with | .ref a=>some (f a)|_=>none }
section
variable {prog:Program}{w:World}{A:Around}{E:Value->Shared->Prop}{s:Shared}
theorem xf {Q:Option Value->Shared->Prop}(x:Tp s.heap T z)(h:∀t,Q (some (.str z t)) s):wpAny (model prog w) A (firstOfTuple' (.ref T)) Q E s:=by obtain⟨o,t,v,n,e,hc,hd⟩:=x;show wpAny _ _ (typeOf (.ref T) >>= _) _ _ _;refine KA (wpAny_typeOf (T:="tuple") ⟨o,e,hc⟩ ?_);rw[KS (by decide)];exact KA (listItems_at e hd (KC (h t)))
theorem mV:∀ {L:List (Addr × Str)}{Q:List (Option Value)->Shared->Prop},(∀p∈L,Tp s.heap p.1 p.2)->(∀vs,StrsAre vs (L.map (·.2))->Q (vs.map some) s)->wpAny (model prog w) A ((aK L).mapM firstOfTuple') Q E s
 | [],Q,h,q=>by show wpAny _ _ (List.mapM _ []) _ _ _;rw[List.mapM_nil];exact KC (q [] .nil)
 | p::L,Q,h,q=>by show wpAny _ _ (List.mapM _ (Value.ref p.1::aK L)) _ _ _;rw[List.mapM_cons];refine KA (xf (h p KP) fun t=>KA (mV (fun y hy=>h y (KL _ hy)) fun vs hv=>KC ?_));exact q (.str p.2 t::vs) (.cons p.2 t hv)
theorem yJ {L:List (Addr × Str)}{Q:SortKind->Shared->Prop}(h:∀p∈L,Tp s.heap p.1 p.2)(ne:L≠[])(q:Q (tuples' true) s):wpAny (model prog w) A (keyKind' (aK L).toArray) Q E s:=by
 rw[keyKind'_eq,List.mapM_toArray];show wpAny _ _ ((List.toArray <$> List.mapM firstOfTuple' (aK L)) >>= _) _ _ _;rw[map_eq_pure_bind,bind_assoc];refine KA (mV h fun vs hv=>?_);rw[pure_bind];have h1:(vs.map some).toArray.all (·.isSome)=true:=by simp
 rw[h1,KZ rfl];refine KA (wpAny_rule ?_);have h2:(vs.map some).toArray.filterMap id=vs.toArray:=by simp
 rw[h2,oneTypeOnly'_eq,List.mapM_toArray,mapM_typeOf_strs hv];simp only[map_pure,pure_bind];generalize hss:L.map (·.2)=ss at hv;cases hv with
 | nil=>exact absurd (List.map_eq_nil_iff.mp hss) ne
 | cons x t r =>
  rename_i us ys;have hall:((List.map (fun _=>Value.type "str") (Value.str x t::us)).toArray.all fun y=>y == Value.type "str")=true:=by simp only[List.all_toArray,List.all_map,List.all_eq_true];intro _ _;rfl
  have h0:(List.map (fun _=>Value.type "str") (Value.str x t::us)).toArray[0]?=some (Value.type "str"):=by simp
  rw[h0];simp only[hall,if_true,pure_bind];exact KC q
theorem ye {Q:Bool->Shared->Prop}(h1:Tp s.heap T z)(h2:Tp s.heap U y)(ne:z≠y)(q:Q (decide (z.cps.toList<y.cps.toList)) s):wpAny (model prog w) A (keyLt' (tuples' true) (.ref T) (.ref U)) Q E s:=by obtain⟨o,t,v,n,e,hc,hd⟩:=h1;obtain⟨o',t',v',n',e',hc',hd'⟩:=h2;show wpAny _ _ (Builtin.List.listItems (.ref T) >>= _) _ _ _;refine KA (listItems_at e hd (KA (listItems_at e' hd' ?_)));show wpAny _ _ (forIn [((Value.str z t,Value.str y t'),0),((v,v'),1)] _ _ >>= _) _ _ _;rw[ML];refine KA (KA (KA (eqBool_str ?_)));rw[show (z == y)=false from by simpa using ne];rw[KZ (by decide)];refine KA (show wpAny _ _ (oneLt' true (.str z t) (.str y t')) _ _ _ from oneLt_str ?_);exact KC (KC (KC q))
end
theorem gn {α β:Type}{f:α->β}{l m:List β}(h:l.Perm m):∀ {r:List α},m=r.map f->∃r':List α,r'.Perm r/\l=r'.map f:=by
 induction h with
 | nil=>exact fun {r} e=>⟨r,.refl _,e⟩
 | cons x _ ih =>
  intro r e;cases r with
  | nil=>cases e
  | cons a r =>rw[KG] at e;obtain⟨rfl,rfl⟩:=List.cons.inj e;obtain⟨r',p,rfl⟩:=ih rfl;exact⟨a::r',p.cons a,rfl⟩
 | swap x y l =>
  intro r e
  match r,e with
  | a::b::r,e =>simp only[List.map_cons,List.cons.injEq] at e;obtain⟨rfl,rfl,rfl⟩:=e;exact⟨b::a::r,.swap _ _ _,rfl⟩
 | trans _ _ ih1 ih2 =>intro r e;obtain⟨r2,p2,e2⟩:=ih2 e;obtain⟨r1,p1,e1⟩:=ih1 e2;exact⟨r1,p1.trans p2,e1⟩
theorem mY {L:List (Addr × Str)}:(pairsOf (aK L)).toList=L.map fun p=>(Value.ref p.1,Value.ref p.1):=by
 rw[pairsOf_toList]
 induction L with
 | nil=>rfl
 | cons p L ih=>simp only[aK,List.map_cons,List.zip_cons_cons] at ih |-;rw[ih]
section
variable {prog:Program}{w:World}{A:Around}{E:Value->Shared->Prop}{s:Shared}{L:List (Addr × Str)}{f:Addr->List Nat}
theorem ot {xs:Array Keyed}{L':List (Addr × Str)}(e:xs.toList=L'.map fun p=>(Value.ref p.1,Value.ref p.1)){i:Nat}(h:L'[i]?=some p):xs[i]?=some (Value.ref p.1,Value.ref p.1)/\KK (y_ f) xs i=f p.1:=by
 have z:xs[i]?=some (Value.ref p.1,Value.ref p.1):=by rw[<-NL,e,KM,h];rfl
 refine⟨z,?_⟩;unfold KK;rw[z];rfl
theorem qv {xs:Array Keyed}(h:xs.Perm (pairsOf (aK L))):∃L':List (Addr × Str),L'.Perm L/\xs.toList=L'.map fun p=>(Value.ref p.1,Value.ref p.1):=gn (Array.perm_iff_toList_perm.mp h) mY
theorem D5 {L:List (Addr × Str)}(nd:(L.map (·.2)).Nodup){i j:Nat}(hi:L[i]?=some p)(hj:L[j]?=some q)(ne:i≠j):p.2≠q.2:=fun e=>ne (by
 have a:(L.map (·.2))[i]?=some p.2:=by rw[KM,hi];rfl
 have b:(L.map (·.2))[j]?=some p.2:=by rw[KM,hj,e];rfl
 exact lY nd a b)
theorem CF {a b:Str}(h:a.cps.toList=b.cps.toList):a=b:=by cases a;cases b;simp only[Str.mk.injEq];exact N_.mp h
theorem C4 (nd:(L.map (·.2)).Nodup)(hf:∀p∈L,f p.1=p.2.cps.toList):Dst (y_ f) (pairsOf (aK L)):=fun xs hp i j hi hj ne=>by
 obtain⟨L',p,e⟩:=qv hp;have sz:(pairsOf (aK L)).size=L'.length:=by rw[pairsOf_size,KH,p.length_eq]
 have gi:=KU (show i<L'.length by omega);have gj:=KU (show j<L'.length by omega);rw[(ot (f:=f) e gi).2,(ot (f:=f) e gj).2,hf _ (p.mem_iff.mp (KJ gi)),hf _ (p.mem_iff.mp (KJ gj))];exact fun z=>D5 ((p.map (·.2)).nodup_iff.mpr nd) gi gj ne (CF z)
theorem CO (nd:(L.map (·.2)).Nodup)(hf:∀p∈L,f p.1=p.2.cps.toList)(h:∀p∈L,Tp s.heap p.1 p.2):Cmp prog w A E s (tuples' true) (y_ f) (pairsOf (aK L)):=fun st i j Q B hi hj ne q=>by
 obtain⟨L',p,e⟩:=qv B.pm;have sz:(pairsOf (aK L)).size=L'.length:=by rw[pairsOf_size,KH,p.length_eq]
 have gi:=KU (show i<L'.length by omega);have gj:=KU (show j<L'.length by omega);obtain⟨a1,a2⟩:=ot (f:=f) e gi;obtain⟨b1,b2⟩:=ot (f:=f) e gj;have mi:=p.mem_iff.mp (KJ gi);have mj:=p.mem_iff.mp (KJ gj);rw[a2,b2,hf _ mi,hf _ mj] at q;rw[ltAt'_eq];refine wpS_bind (wpS_get ?_);show PyProof.Rows.wpS _ _ _ _ (elem' (arrOf st) i >>= fun x=>elem' (arrOf st) j >>= fun y=>lt' x y) Q st;rw[elem'_eq,elem'_eq,a1,b1];refine wpS_bind (wpS_pure (wpS_bind (wpS_pure ?_)));rw[lt'_eq];refine wpS_bind (wpS_get ?_);rw[B.kd];exact wpS_bind (wpS_lift (wpAny_attempt (ye (h _ mi) (h _ mj) (D5 ((p.map (·.2)).nodup_iff.mpr nd) gi gj ne) ⟨rfl,wpS_pure q⟩)))
theorem A4 {P:Fin->Shared->Prop}(ho:s.heap.get? a=some (seqObj "list" (aK L).toArray n))(nd:(L.map (·.2)).Nodup)(h:∀p∈L,Tp s.heap p.1 p.2)(hn:∀p∈L,p.1≠a)(h64:L.length<64)(ha:∀p∈L,∀q∈L,p.1=q.1->p.2=q.2)(k:∀L':List (Addr × Str),L'.Perm L->(L'.map (·.2)).Pairwise (fun a b=>a.cps.toList<b.cps.toList)->P (.done (.ret .none)) { s with heap:=sortedHeap s.heap a (aK L) (aK L').toArray }) :
  wpAny (model prog w) A (Builtin.«list.sort» ⟨[.ref a],[]⟩) P E s:=by
 rw[list_sort_plain];have la:a<s.heap.objs.size:=KO ho;have sz:(aK L).toArray.size=L.length:=by simp
 refine KA (listItems_at ho rfl ?_);refine KA (listUpdate_at ho rfl ?_ (by rw[sz,sizeLine_eq];omega));obtain ⟨e1,o1⟩:∃e1,(s.heap.update a (Obj.mapSeq fun _=>#[])).get? a=some (seqObj "list" #[] e1):=⟨_,get?_update_seq ho (fun _=>#[])⟩;refine KA (seqEpoch_at o1 rfl ?_);refine KA (wpAny_newTuple ?_ (by rw[MS,sz,sizeLine_eq];omega));refine KA (wpAny_newList ?_);refine L3 ?_;have o2:(((s.heap.update a (Obj.mapSeq fun _=>#[])).push (seqObj "tuple" (aK L).toArray 0)).push (seqObj "list" #[] 0)).get? a=some (seqObj "list" #[] e1):=KB _ (KB _ o1);show wpAny (model prog w) A _ P E { s with heap:=((s.heap.update a (Obj.mapSeq fun _=>#[])).push (seqObj "tuple" (aK L).toArray 0)).push (seqObj "list" #[] 0) };have tp:∀p∈L,Tp (((s.heap.update a (Obj.mapSeq fun _=>#[])).push (seqObj "tuple" (aK L).toArray 0)).push (seqObj "list" #[] 0)) p.1 p.2:=fun p hp=>(h p hp).kept fun o e=>KB _ (KB _ ((L7 _ _ (Ne.symm (hn p hp))).trans e));dsimp only;by_cases h2:(aK L).toArray.size<2
 ·rw[KZ h2,KZ h2];refine KA (KC ?_);rw[StateT.run_pure];refine KA (KC ?_);dsimp only;refine KA (seqEpoch_at o2 rfl ?_);refine KA (listUpdate_at o2 rfl ?_ (hsz2:=by rw[Array.size_map];show (pairsOf (aK L)).size<=_;rw[pairsOf_size,KH,sizeLine_eq];omega));simp only[bne_self_eq_false,Bool.false_eq_true,if_false];have e:Array.map (fun x:Keyed=>x.2) (pairsOf (aK L))=(aK L).toArray:=by apply N_.mp;rw[Array.toList_map,mY,LF];rfl
  refine KC ?_;have:=k L (.refl _) (by
   rw[sz] at h2
   match L,h2 with
   | [],_=>exact .nil
   | [p],_=>exact List.pairwise_singleton _ _)
  show P _ { s with heap:=sortedHeap s.heap a (aK L) (Array.map (fun x:Keyed=>x.2) (pairsOf (aK L))) };rw[e];exact this
 ·rw[KS h2,KS h2];have ne:L≠[]:=fun z=>h2 (by rw[z];decide);refine KA (yJ tp ne ?_);obtain⟨f,hf⟩:∃f:Addr->List Nat,∀p∈L,f p.1=p.2.cps.toList:=by
   refine⟨fun b=>match L.find? (fun p=>p.1=b) with|some p=>p.2.cps.toList|none=>[],fun p hp=>?_⟩;cases e:L.find? (fun q=>decide (q.1=p.1)) with
   | none=>exact absurd (List.find?_eq_none.mp e p hp) (by simp)
   | some q=>dsimp only;rw[e];dsimp only;rw[ha q (List.mem_of_find?_eq_some e) p hp (by simpa using List.find?_some e)]
  have zz:(pairsOf (aK L)).size=L.length:=by rw[pairsOf_size,KH]
  refine KA (wpAny_mono (G_ (s:={ s with heap:=((s.heap.update a (Obj.mapSeq fun _=>#[])).push (seqObj "tuple" (aK L).toArray 0)).push (seqObj "list" #[] 0) }) (κ:=y_ f) (K:=tuples' true) (a₀:=pairsOf (aK L)) (st:=SortSt.mk' (tuples' true) (pairsOf (aK L)) #[] 7 none)
   (Q:=fun _ t=>(arrOf t).Perm (pairsOf (aK L))/\failedOf t=none/\Up (y_ f) (arrOf t) (pairsOf (aK L)).size) (CO nd hf tp) (C4 nd hf) ⟨Array.Perm.refl _,rfl,rfl,rfl⟩ (by rw[zz];omega) (by rw[zz];exact h64) fun t a1 a2 a3=>⟨a1,a2,a3⟩) ?_ fun _ _ e=>e)
  rintro⟨⟨⟩,t⟩ s' ⟨rfl,hp,hfl,hu⟩;obtain⟨L',p,e⟩:=qv hp;have eo:Array.map (fun x:Keyed=>x.2) (arrOf t)=(aK L').toArray:=by apply N_.mp;rw[Array.toList_map,e,LF];rfl
  dsimp only;refine KA (seqEpoch_at o2 rfl ?_);refine KA (listUpdate_at o2 rfl ?_ (hsz2:=by rw[eo,K2,KH,p.length_eq,sizeLine_eq];omega));rw[hfl];simp only[bne_self_eq_false,Bool.false_eq_true,if_false];refine KC ?_;show P _ { s with heap:=sortedHeap s.heap a (aK L) (Array.map (fun x:Keyed=>x.2) (arrOf t)) };rw[eo];refine k L' p (List.pairwise_iff_getElem.mpr fun i j hi hj ij=>?_);rw[KH] at hi hj;have gi:=KU hi;have gj:=KU hj;have u:=hu i j ij (by rw[zz,<-p.length_eq];exact hj);rw[(ot (f:=f) e gi).2,(ot (f:=f) e gj).2,hf _ (p.mem_iff.mp (KJ gi)),hf _ (p.mem_iff.mp (KJ gj))] at u;have:decide (L'[i].2.cps.toList<L'[j].2.cps.toList)=true:=u;simpa using this
end
end FW
namespace FW
open L2 HX
theorem CN {h:Heap}{i:Nat}(e:h.get? it=some o)(hc:o.cls=.type "tuple_iterator")(hd:o.data=.fields #[.ref t,.int (i:Int) 0]) :
  (h.update it (Obj.mapFields fun z=>z.setIfInBounds k x)).get? it=some (Obj.mapFields (fun z=>z.setIfInBounds k x) o):=by
 refine L_ _ e ?_;obtain⟨c,d,da,sl⟩:=o;simp only at hc hd;subst hc hd;rfl
theorem tq (it t:Addr)(i:Nat)(items:Array Value)(x:Value):Meets (Builtin.«tuple_iterator.__next__» { pos:=[.ref it] }) fun _ R s =>
  s.heap.IsTupleIter it t i/\s.heap.IsTuple t items/\items[i]?=some x/\∀h',h'.IsTupleIter it t (i+1)->Heap.SameBut it s.heap h'->R (.ok (.ret x)) { s with heap:=h' }:=by
 intro prog w A R s ⟨⟨o,e,hc,hd⟩,⟨o2,e2,hc2,n,hd2⟩,hx,h⟩;refine KA (KC ?_);refine KA (wpAny_field (i:=0) e hd rfl ?_);refine KA (wpAny_field (i:=1) e hd rfl ?_);refine KA (wpAny_seqItems e2 hd2 ?_);show wpAny _ _ (match items[((i:Nat):Int).toNat]? with|some x=>_|none=>_) _ _ _;rw[M0,hx];refine KA (wpAny_setField e hd (OA 1) ?_);refine KC ?_;refine h _ ⟨_,CN e hc hd,?_,?_⟩ (NX _ _ _)
 ·obtain⟨c,d,da,sl⟩:=o;simp only at hc hd;subst hc hd;rfl
 ·obtain⟨c,d,da,sl⟩:=o;simp only at hc hd;subst hc hd;show Data.fields #[.ref t,rawInt ((i:Int)+1)]=Data.fields #[.ref t,.int ((i+1:Nat):Int) 0];rw[Int.natCast_add];rfl
theorem Dt {α:Type}{M:Model}{A:Around}{E:Value->Shared->Prop}{s:Shared}{Q:α->Shared->Prop}(hh:A.handled=none)(h:∀h' e,(∀b o,s.heap.get? b=some o->h'.get? b=some o)->(∃o,h'.get? e=some o/\o.cls=.type "StopIteration")->E (.ref e) { s with heap:=h' }) :
  wpAny M A (Builtin.SmallTypes.stopIteration:Sem α) Q E s:=by
 refine KA ?_;refine KA (wpAny_newTuple ?_);refine KA (KC ?_);refine wpAny_newObj_type (wpAny_raiseNew_none hh ?_);refine h _ _ (fun b o e=>KB _ (KB _ e)) ⟨_,KI _ rfl,rfl⟩
theorem ur (it t:Addr)(i:Nat)(items:Array Value):Meets (Builtin.«tuple_iterator.__next__» { pos:=[.ref it] }) fun A R s =>
  A.handled=none/\s.heap.IsTupleIter it t i/\s.heap.IsTuple t items/\items[i]?=none/\∀h' e,Heap.ExtBut it s.heap h'->(∃o,h'.get? e=some o/\o.cls=.type "StopIteration")->R (.error (.ref e)) { s with heap:=h' }:=by
 intro prog w A R s ⟨hh,⟨o,e,hc,hd⟩,⟨o2,e2,hc2,n,hd2⟩,hx,h⟩;refine KA (KC ?_);refine KA (wpAny_field (i:=0) e hd rfl ?_);refine KA (wpAny_field (i:=1) e hd rfl ?_);refine KA (wpAny_seqItems e2 hd2 ?_);show wpAny _ _ (match items[((i:Nat):Int).toNat]? with|some x=>_|none=>_) _ _ _;rw[M0,hx];refine KA (wpAny_rule ?_);refine KA (wpAny_setField e hd (M4 1) ?_);refine Dt hh fun h' x k1 k2=>h h' x (fun b o' hb eb=>k1 b o' ?_) k2;show (s.heap.update it _).get? b=some o';rw[Heap.get?_update_ne _ _ _ _ hb];exact eb
section
variable {prog:Program}{w:World}{A:Around}{E:Value->Shared->Prop}{s:Shared}{it t:Addr}{i:Nat}{items:Array Value}
theorem pJ {Q:Value->Shared->Prop}(hi:s.heap.IsTupleIter it t i)(ht:s.heap.IsTuple t items)(hx:items[i]?=some x)(h:∀h',h'.IsTupleIter it t (i+1)->Heap.SameBut it s.heap h'->Q x { s with heap:=h' }) :
  wpAny (model prog w) A (Builtin.SmallTypes.nextOf (.ref it)) Q E s:=by
 refine KA (wpAny_callSpecial?_slot hi.typeIs MK ?_);refine call_meets MK hi.typeIs F.entry_tuple_iterator_next (F.args_tuple_iterator_next_1 _) (tq it t i items x) ⟨hi,ht,hx,fun h' k1 k2=>KC (h h' k1 k2)⟩
theorem sJ (hh:A.handled=none)(hi:s.heap.IsTupleIter it t i)(ht:s.heap.IsTuple t items)(hx:items[i]?=none)(h:∀h' e,Heap.ExtBut it s.heap h'->(∃o,h'.get? e=some o/\o.cls=.type "StopIteration")->E (.ref e) { s with heap:=h' }) :
  wpAny (model prog w) A (Builtin.SmallTypes.nextOf (.ref it)) Q E s:=by
 refine KA (wpAny_callSpecial?_slot hi.typeIs MK ?_);exact call_meets MK hi.typeIs F.entry_tuple_iterator_next (F.args_tuple_iterator_next_1 _) (ur it t i items) ⟨hh,hi,ht,hx,h⟩
end
theorem AC {h h':Heap}(k:∀o,h.get? it=some o->h'.get? it=some o)(z:h.IsTupleIter it t i):h'.IsTupleIter it t i:=by obtain⟨o,e,r⟩:=z;exact⟨o,k o e,r⟩
theorem Bj {h h':Heap}(k:∀o,h.get? t=some o->h'.get? t=some o)(z:h.IsTuple t items):h'.IsTuple t items:=by obtain⟨o,e,r⟩:=z;exact⟨o,k o e,r⟩
section
variable {X:Cx}
end
end FW
namespace FW
open L2 HX
structure Zs where
 it:Addr
 c:Bool × Addr
 xs:Array Value
noncomputable abbrev Zs.a (q:Zs):Addr:=q.c.2
def ItB (h:Heap)(it:Addr)(c:Bool × Addr)(i:Nat):Prop:=if c.1=true then h.IsListIter it c.2 i else h.IsTupleIter it c.2 i
def SeqB (h:Heap)(c:Bool × Addr)(xs:Array Value):Prop:=if c.1=true then h.IsList c.2 xs else h.IsTuple c.2 xs
theorem ItB.keep {h':Heap}(z:ItB h it c i)(k:∀o,h.get? it=some o->h'.get? it=some o):ItB h' it c i:=by
 obtain⟨b,a⟩:=c;cases b with
 | true=>exact(show h.IsListIter it a i from z).at k
 | false=>exact AC k (show h.IsTupleIter it a i from z)
theorem ItB.obj (z:ItB h it c i):∃o vs,h.get? it=some o/\o.data=.fields vs:=by
 obtain⟨b,a⟩:=c;cases b with
 | true=>obtain⟨o,e,_,d⟩:=(show h.IsListIter it a i from z);exact⟨o,_,e,d⟩
 | false=>obtain⟨o,e,_,d⟩:=(show h.IsTupleIter it a i from z);exact⟨o,_,e,d⟩
theorem SeqB.keep {h':Heap}(z:SeqB h c xs)(k:∀o,h.get? c.2=some o->h'.get? c.2=some o):SeqB h' c xs:=by
 obtain⟨b,a⟩:=c;cases b with
 | true=>exact(show h.IsList a xs from z).at k
 | false=>exact Bj k (show h.IsTuple a xs from z)
def SrcAt (h:Heap)(q:Zs)(i:Nat):Prop:=ItB h q.it q.c i/\SeqB h q.c q.xs
theorem SrcAt.keep {h':Heap}(z:SrcAt h q i)(k1:∀o,h.get? q.it=some o->h'.get? q.it=some o)(k2:∀o,h.get? q.a=some o->h'.get? q.a=some o):SrcAt h' q i:=⟨z.1.keep k1,z.2.keep k2⟩
theorem SrcAt.obj (z:SrcAt h q i):∃o vs,h.get? q.it=some o/\o.data=.fields vs:=z.1.obj
section
variable {prog:Program}{w:World}{A:Around}{E:Value->Shared->Prop}{s:Shared}{q:Zs}{i:Nat}
theorem se {Q:Value->Shared->Prop}(hne:q.a≠q.it)(h:SrcAt s.heap q i)(hx:q.xs[i]?=some x)(hQ:∀h',SrcAt h' q (i+1)->Heap.SameBut q.it s.heap h'->Q x { s with heap:=h' }):wpAny (model prog w) A (Builtin.SmallTypes.nextOf (.ref q.it)) Q E s:=by
 obtain⟨it,⟨b,a⟩,xs⟩:=q;obtain⟨z1,z2⟩:=h;cases b with
 | true=>exact wpAny_nextOf_list_item (show s.heap.IsListIter it a i from z1) (show s.heap.IsList a xs from z2) hx fun h' k1 k2=>hQ h' ⟨k1,z2.keep fun o e=>by rw[k2.2 _ hne];exact e⟩ k2
 | false=>exact pJ (show s.heap.IsTupleIter it a i from z1) (show s.heap.IsTuple a xs from z2) hx fun h' k1 k2=>hQ h' ⟨k1,z2.keep fun o e=>by rw[k2.2 _ hne];exact e⟩ k2
theorem B6 (hh:A.handled=none)(h:SrcAt s.heap q i)(hx:q.xs[i]?=none)(hE:∀h' e,Heap.ExtBut q.it s.heap h'->(∃o,h'.get? e=some o/\o.cls=.type "StopIteration")->E (.ref e) { s with heap:=h' }):wpAny (model prog w) A (Builtin.SmallTypes.nextOf (.ref q.it)) Q E s:=by
 obtain⟨it,⟨b,a⟩,xs⟩:=q;obtain⟨z1,z2⟩:=h;cases b with
 | true=>exact wpAny_nextOf_list_end hh (show s.heap.IsListIter it a i from z1) (show s.heap.IsList a xs from z2) hx hE
 | false=>exact sJ hh (show s.heap.IsTupleIter it a i from z1) (show s.heap.IsTuple a xs from z2) hx hE
theorem CG {Q:Value->Shared->Prop}(h:SeqB s.heap c xs)(hQ:∀o,ItB (s.heap.push o) s.heap.objs.size c 0->Q (.ref s.heap.objs.size) { s with heap:=s.heap.push o }):wpAny (model prog w) A (pyIter (.ref c.2)) Q E s:=by
 obtain⟨b,a⟩:=c;cases b with
 | true=>exact wpAny_pyIter_list (show s.heap.IsList a xs from h) (hQ _ ⟨_,KI _ rfl,rfl,rfl⟩)
 | false=>exact wpAny_pyIter_tuple (show s.heap.IsTuple a xs from h) (hQ _ ⟨_,KI _ rfl,rfl,rfl⟩)
end
noncomputable abbrev cI (xs:List Value):Obj:={ cls:=.type "tuple",data:=.seq xs.toArray }
structure ZA (z TI TO:Addr)(ss:List Zs):Prop where
 nd:(z::TI::TO::ss.map Zs.it).Nodup
 ap:∀q∈ss,q.a ∉ z::TI::TO::ss.map Zs.it
section
variable {prog:Program}{w:World}{A:Around}{E:Value->Shared->Prop}{z TI TO:Addr}{i:Nat}
def As (prog:Program)(w:World)(A:Around)(z TI TO:Addr)(f:Value × Nat->Option Fin × Unit->Sem (ForInStep (Option Fin × Unit))):Prop :=
 ∀(it:Addr) (k:Nat) (s:Shared) (R:ForInStep (Option Fin × Unit)->Shared->Prop) (E:Value->Shared->Prop),
  wpAny (model prog w) A (Builtin.SmallTypes.nextOf (.ref it)) (fun x s1=>∃arr,s1.heap.get? TO=some (cI arr)/\arr.length<=sizeLine/\∀h',h'.get? TO=some (cI (arr.set k x))->Heap.SameBut TO s1.heap h'->R (.yield (none,())) { s1 with heap:=h' })
   (fun e s1=>IsZip s1.heap z TI TO .ellipsis/\∀h',IsZip h' z TI TO .none->Heap.SameBut z s1.heap h'->E e { s1 with heap:=h' }) s ->
  wpAny (model prog w) A (f (.ref it,k) (none,())) R E s
theorem Dr {f:Value × Nat->Option Fin × Unit->Sem (ForInStep (Option Fin × Unit))}(hf:As prog w A z TI TO f):∀ {ss dn:List Zs}{dx xs arr:List Value}{s:Shared}{R:Option Fin × Unit->Shared->Prop},ZA z TI TO (dn++ss)->(dn++ss).length<=sizeLine ->
  Paired (fun (q:Zs) (x:Value)=>q.xs[i]?=some x) ss xs->dx.length=dn.length->arr.length=ss.length->IsZip s.heap z TI TO .ellipsis->s.heap.get? TO=some (cI (dx++arr))->(∀q∈dn,SrcAt s.heap q (i+1))->(∀q∈ss,SrcAt s.heap q i) ->
  (∀h',IsZip h' z TI TO .ellipsis->h'.get? TO=some (cI (dx++xs))->(∀q∈dn++ss,SrcAt h' q (i+1))->h'.objs.size=s.heap.objs.size->(∀c o,c ∉ TO::(dn++ss).map Zs.it->s.heap.get? c=some o->h'.get? c=some o)->R (none,()) { s with heap:=h' }) ->
  wpAny (model prog w) A (forIn ((ss.map fun q=>Value.ref q.it).zipIdx dn.length) (none,()) f) R E s:=by
 intro ss
 induction ss with
 | nil =>intro dn dx xs arr s R ap hsz hp hl ha hz hTO h1 h2 hR;cases hp;have:arr=[]:=NC.mp ha;subst this;exact KC (hR s.heap hz hTO (by simpa using h1) rfl fun c o _ e=>e)
 | cons q ss ih =>
  intro dn dx xs arr s R ap hsz hp hl ha hz hTO h1 h2 hR;cases hp with
  | @cons _ x _ xs hx hp =>
  cases arr with
  | nil=>simp at ha
  | cons b arr =>
  rw[KG,List.zipIdx_cons,ML];have nd:=ap.nd;have qm:q∈dn++q::ss:=by simp
  have im:q.it∈(dn++q::ss).map Zs.it:=K0.mpr ⟨q,qm,rfl⟩;have zi:z≠q.it:=fun e=>by have:=(KQ.mp nd).1;exact this (by simp[e])
  have ti:TO≠q.it:=fun e=>by have:=(KQ.mp (KQ.mp (KQ.mp nd).2).2).1;exact this (by rw[e];exact im)
  have zt:z≠TO:=fun e=>by have:=(KQ.mp nd).1;exact this (by simp[e])
  have ni:=(KQ.mp (KQ.mp (KQ.mp nd).2).2).2;have oth:∀p,p∈dn\/p∈ss->p.it≠q.it:=fun p hp e=>by
   rw[LA,KG] at ni;rcases hp with hp|hp
   ·have:=(L8.mp ni).2.2 p.it (K0.mpr ⟨p,hp,rfl⟩) q.it (by simp);exact this e
   ·have:=(KQ.mp (L8.mp ni).2.1).1;exact this (by rw[<-e];exact K0.mpr ⟨p,hp,rfl⟩)
  have apa:∀p∈dn++q::ss,p.a≠q.it/\p.a≠TO:=fun p hp=>⟨fun e=>ap.ap p hp (by rw[e];simp),fun e=>ap.ap p hp (by rw[e];simp)⟩;have tot:∀p∈dn++q::ss,p.it≠TO:=fun p hp e=>by have:=(KQ.mp (KQ.mp (KQ.mp nd).2).2).1;exact this (by rw[<-e];exact K0.mpr ⟨p,hp,rfl⟩)
  refine KA (hf q.it dn.length s _ _ ?_);refine se (apa q qm).1 (h2 q (by simp)) hx fun h' k1 k2=>⟨dx++b::arr,by show h'.get? TO=_;rw[k2.2 TO ti];exact hTO,by rw[KN,hl,ha,<-KN];exact hsz,fun h'' k3 k4=>?_⟩;have both:∀c o,c≠q.it->c≠TO->s.heap.get? c=some o->h''.get? c=some o:=fun c o c1 c2 e=>by rw[k4.2 c c2];show h'.get? c=some o;rw[k2.2 c c1];exact e
  have e3:(dx++b::arr).set dn.length x=(dx++[x])++arr:=by rw[<-hl,NM _ _ (KF _),OE];simp
  rw[e3] at k3;have ea:dn++q::ss=(dn++[q])++ss:=by simp
  have el:dn.length+1=(dn++[q]).length:=by simp
  show wpAny _ _ (forIn ((ss.map fun q=>Value.ref q.it).zipIdx (dn.length+1)) (none,()) f) R E _;rw[el];refine ih (dn:=dn++[q]) (dx:=dx++[x]) (xs:=xs) (arr:=arr) (by rw[<-ea];exact ap) (by rw[<-ea];exact hsz) hp (by simp[hl]) (by simpa using ha) (both z _ zi zt hz) k3 (fun p hp=>?_) (fun p hp=>?_) fun h3 j1 j2 j3 j4 j5=>?_
  ·rcases K7.mp hp with hp|hp
   ·exact(h1 p hp).keep (fun o e=>both _ o (oth p (.inl hp)) (tot p (by simp[hp])) e) fun o e=>both _ o (apa p (by simp[hp])).1 (apa p (by simp[hp])).2 e
   ·rw[K9] at hp;subst hp;exact k1.keep (fun o e=>by rw[k4.2 _ (Ne.symm ti)];exact e) fun o e=>by rw[k4.2 _ (apa p qm).2];exact e
  ·exact(h2 p (by simp[hp])).keep (fun o e=>both _ o (oth p (.inr hp)) (tot p (by simp[hp])) e) fun o e=>both _ o (apa p (by simp[hp])).1 (apa p (by simp[hp])).2 e
  ·refine hR h3 j1 (by rw[j2];simp) (by rw[ea];exact j3) (by rw[j4,k4.1];exact k2.1) fun c o hc e=>?_;rw[ea] at hc;refine j5 c o hc (both c o (fun z=>hc ?_) (fun z=>hc ?_) e)
   ·rw[z];simp
   ·rw[z];simp
theorem yH {f:Value × Nat->Option Fin × Unit->Sem (ForInStep (Option Fin × Unit))}(hf:As prog w A z TI TO f)(hh:A.handled=none):∀ {ss dn:List Zs}{dx arr:List Value}{s:Shared}{R:Option Fin × Unit->Shared->Prop},ZA z TI TO (dn++ss)->(dn++ss).length<=sizeLine ->
  (∃q∈ss,q.xs[i]?=none)->dx.length=dn.length->arr.length=ss.length->IsZip s.heap z TI TO .ellipsis->s.heap.get? TO=some (cI (dx++arr))->(∀q∈ss,SrcAt s.heap q i) ->
  (∀h' e,(∀c o,c ∉ z::TO::(dn++ss).map Zs.it->s.heap.get? c=some o->h'.get? c=some o)->(∃o,h'.get? e=some o/\o.cls=.type "StopIteration")->E (.ref e) { s with heap:=h' }) ->
  wpAny (model prog w) A (forIn ((ss.map fun q=>Value.ref q.it).zipIdx dn.length) (none,()) f) R E s:=by
 intro ss
 induction ss with
 | nil =>intro dn dx arr s R ap hsz hq;obtain⟨q,hq,_⟩:=hq;cases hq
 | cons q ss ih =>
  intro dn dx arr s R ap hsz hq hl ha hz hTO h2 hE;cases arr with
  | nil=>simp at ha
  | cons b arr =>
  rw[KG,List.zipIdx_cons,ML];have nd:=ap.nd;have qm:q∈dn++q::ss:=by simp
  have im:q.it∈(dn++q::ss).map Zs.it:=K0.mpr ⟨q,qm,rfl⟩;have zi:z≠q.it:=fun e=>(KQ.mp nd).1 (by simp[e]);have ti:TO≠q.it:=fun e=>(KQ.mp (KQ.mp (KQ.mp nd).2).2).1 (by rw[e];exact im);have zt:z≠TO:=fun e=>(KQ.mp nd).1 (by simp[e]);have ni:=(KQ.mp (KQ.mp (KQ.mp nd).2).2).2;have oth:∀p,p∈ss->p.it≠q.it:=fun p hp e=>by rw[LA,KG] at ni;exact(KQ.mp (L8.mp ni).2.1).1 (by rw[<-e];exact K0.mpr ⟨p,hp,rfl⟩)
  have apa:∀p∈dn++q::ss,p.a≠q.it/\p.a≠TO:=fun p hp=>⟨fun e=>ap.ap p hp (by rw[e];simp),fun e=>ap.ap p hp (by rw[e];simp)⟩;have tot:∀p∈dn++q::ss,p.it≠TO:=fun p hp e=>(KQ.mp (KQ.mp (KQ.mp nd).2).2).1 (by rw[<-e];exact K0.mpr ⟨p,hp,rfl⟩);refine KA (hf q.it dn.length s _ _ ?_);cases hx:q.xs[i]? with
  | none =>
   refine B6 hh (h2 q (by simp)) hx fun h' e k1 k2=>?_;have hz2:IsZip h' z TI TO .ellipsis:=k1 _ _ zi hz;obtain⟨oe,he,hc⟩:=k2;have ez:e≠z:=fun z=>by subst z;rw[hz2] at he;cases he;simp at hc
   refine⟨hz2,fun h'' _ k4=>hE h'' e (fun c o hc e=>?_) ⟨oe,by rw[k4.2 e ez];exact he,hc⟩⟩;rw[k4.2 c (fun z=>hc (by rw[z];simp))];exact k1 c o (fun z=>hc (by rw[z];simp)) e
  | some x =>
   refine se (apa q qm).1 (h2 q (by simp)) hx fun h' k1 k2=>⟨dx++b::arr,by show h'.get? TO=_;rw[k2.2 TO ti];exact hTO,by rw[KN,hl,ha,<-KN];exact hsz,fun h'' k3 k4=>?_⟩;have both:∀c o,c≠q.it->c≠TO->s.heap.get? c=some o->h''.get? c=some o:=fun c o c1 c2 e=>by rw[k4.2 c c2];show h'.get? c=some o;rw[k2.2 c c1];exact e
   have e3:(dx++b::arr).set dn.length x=(dx++[x])++arr:=by rw[<-hl,NM _ _ (KF _),OE];simp
   rw[e3] at k3;have ea:dn++q::ss=(dn++[q])++ss:=by simp
   have el:dn.length+1=(dn++[q]).length:=by simp
   show wpAny _ _ (forIn ((ss.map fun q=>Value.ref q.it).zipIdx (dn.length+1)) (none,()) f) R E _;rw[el];obtain⟨p,hp,hn⟩:=hq;have hp':p∈ss:=by
    rcases LC.mp hp with rfl|h
    ·rw[hx] at hn;cases hn
    ·exact h
   refine ih (dn:=dn++[q]) (dx:=dx++[x]) (arr:=arr) (by rw[<-ea];exact ap) (by rw[<-ea];exact hsz) ⟨p,hp',hn⟩ (by simp[hl]) (by simpa using ha) (both z _ zi zt hz) k3 (fun p hp=>?_) fun h3 e j1 j2=>hE h3 e (fun c o hc e=>?_) j2
   ·exact(h2 p (by simp[hp])).keep (fun o e=>both _ o (oth p hp) (tot p (by simp[hp])) e) fun o e=>both _ o (apa p (by simp[hp])).1 (apa p (by simp[hp])).2 e
   ·rw[ea] at hc;refine j1 c o hc (both c o (fun z=>hc ?_) (fun z=>hc ?_) e)
    ·rw[z];simp
    ·rw[z];simp
theorem GY {s:Shared}{Q:Unit->Shared->Prop}(hT:s.heap.get? TO=some (cI xs))(hs:xs.length<=sizeLine)(h:∀h',h'.get? TO=some (cI (xs.set k x))->Heap.SameBut TO s.heap h'->Q () { s with heap:=h' }) :
  wpAny (model prog w) A (updateSeq TO fun v=>v.setIfInBounds k x) Q E s:=by
 refine wpAny_updateSeq hT rfl (h _ ?_ (NX _ _ _)) (by simpa using hs) (by simp;omega);rw[L_ _ hT rfl];simp[Obj.mapSeq]
theorem Am {s:Shared}{T:Addr}{Q:Unit->Shared->Prop}(hz:IsZip s.heap z TI TO .ellipsis)(h:∀h',IsZip h' z TI TO (rawInt T)->Heap.SameBut z s.heap h'->Q () { s with heap:=h' }):wpAny (model prog w) A (Builtin.SmallTypes.ownedTupleHandOut (.ref z) (.ref T)) Q E s:=by refine KA (wpAny_setField_rec hz (M4 _) fun h1 k1 k2=>?_);have k1:IsZip h1 z TI TO (rawInt T):=k1;refine wpAny_setField_rec k1 (Nat.succ_lt_succ (M4 _)) fun h2 k3 k4=>?_;exact h h2 k3 ⟨k4.1.trans k2.1,fun c hc=>(k4.2 c hc).trans (k2.2 c hc)⟩
theorem sd {s:Shared}{ss:List Zs}{Q:Fin->Shared->Prop}(hz:IsZip s.heap z TI TO .none)(hTI:s.heap.get? TI=some (cI (ss.map fun q=>Value.ref q.it)))(hTO:s.heap.get? TO=some (cI arr))(hne:ss≠[])(h:∀f h',As prog w A z TI TO f->IsZip h' z TI TO .ellipsis->Heap.SameBut z s.heap h'->wpAny (model prog w) A (forIn ((ss.map fun q=>Value.ref q.it).zipIdx 0) (none,()) f) (fun r s1=>r.1=none/\IsZip s1.heap z TI TO .ellipsis/\∃xs,s1.heap.get? TO=some (cI xs)/\xs.length<=sizeLine /\
   ∀h2,IsZip h2 z TI TO (rawInt s1.heap.objs.size)->h2.get? s1.heap.objs.size=some (cI xs)->h2.objs.size=s1.heap.objs.size+1->(∀c o,c≠z->s1.heap.get? c=some o->h2.get? c=some o)->Q (.done (.ret (.ref s1.heap.objs.size))) { s1 with heap:=h2 }) E { s with heap:=h' }) :
  wpAny (model prog w) A (Builtin.«zip.__next__» ⟨[.ref z],[]⟩) Q E s:=by
 have hemp:(ss.map fun q=>Value.ref q.it).toArray.isEmpty=false:=by
  cases ss with
  | nil=>exact absurd rfl hne
  | cons a b=>rfl
 refine KA (KC ?_);refine KA (wpAny_field (i:=2) hz rfl rfl ?_);refine KA (wpAny_field (i:=3) hz rfl rfl ?_);refine KA (wpAny_seqItems hTI rfl ?_);dsimp only;rw[hemp];simp only[Bool.false_eq_true,if_false];refine KA (KA (wpAny_field (i:=0) hz rfl rfl (KC ?_)));rw[KZ rfl];refine KA (wpAny_rule ?_);refine KA (wpAny_field (i:=4) hz rfl rfl ?_);refine KA (wpAny_setField_rec hz (M4 _) fun h1 k1 k2=>?_);refine KA (wpAny_mono (h _ h1 ?_ k1 k2) (fun r s1 hr=>?_) fun _ _ e=>e)
 ·intro it k s2 R E2 hw;refine KA (wpAny_onRaise ?_);refine KA (m:=Builtin.SmallTypes.nextOf (.ref it)) (wpAny_mono hw (fun x s3 hx=>?_) fun e s3 he=>?_)
  ·obtain⟨arr,e1,e0,e2⟩:=hx;refine KC ?_;refine KA (wpAny_seqItems e1 rfl ?_);refine KA (GY e1 e0 fun h' q1 q2=>?_);exact KA (wpAny_letGo (KC (e2 h' q1 q2)))
  ·exact wpAny_setField_rec he.1 (M4 _) fun h' q1 q2=>he.2 h' q1 q2
 ·obtain⟨hn,z1,xs,t1,lx,q⟩:=hr;rw[hn];refine KA (wpAny_seqItems t1 rfl ?_);refine KA (wpAny_newTuple ?_ lx);have z2:IsZip (s1.heap.push (cI xs)) z TI TO .ellipsis:=KB _ z1;refine KA (Am (s:={ s1 with heap:=s1.heap.push (cI xs) }) z2 fun h' q1 q2=>KC ?_);have nz:s1.heap.objs.size≠z:=fun e=>absurd (KO z1) (by rw[<-e];exact MA _);refine q h' q1 (by rw[q2.2 _ nz];exact KI _ rfl) (q2.1.trans (MV _ _)) fun c o hc e=>?_;rw[q2.2 c hc];exact KB _ e
def ZSt (z TI TO:Addr)(its:List Addr)(h:Heap):Prop:=IsZip h z TI TO .none/\h.get? TI=some (cI (its.map Value.ref))/\∃arr,arr.length=its.length/\h.get? TO=some (cI arr)
theorem yB {ss:List Zs}:(ss.map fun q=>Value.ref q.it)=(ss.map Zs.it).map Value.ref:=by rw[LF];rfl
theorem BM {s:Shared}{Q:Option Value->Shared->Prop}(ap:ZA z TI TO ss)(hne:ss≠[])(hs:ss.length<=sizeLine)(hz:ZSt z TI TO (ss.map Zs.it) s.heap)(h1:∀q∈ss,SrcAt s.heap q i)(hp:Paired (fun (q:Zs) (x:Value)=>q.xs[i]?=some x) ss xs)(hQ:∀h' T,s.heap.objs.size<=T->IsZip h' z TI TO (rawInt T)->h'.get? TI=some (cI ((ss.map Zs.it).map Value.ref))->h'.get? TO=some (cI xs)->(∀q∈ss,SrcAt h' q (i+1))->h'.get? T=some (cI xs)->T ∉ z::TI::TO::ss.map Zs.it->(∀c o,c ∉ z::TI::TO::ss.map Zs.it->s.heap.get? c=some o->h'.get? c=some o)->Q (some (.ref T)) { s with heap:=h' }) :
  wpAny (model prog w) A (pyNext (.ref z)) Q E s:=by
 obtain⟨z1,t1,arr,la,t2⟩:=hz;have hT:s.TypeIs (.ref z) "zip":=⟨_,z1,rfl⟩;have nd:=ap.nd;have TIz:TI≠z:=fun e=>(KQ.mp nd).1 (by simp[e]);have TOz:TO≠z:=fun e=>(KQ.mp nd).1 (by simp[e]);have itz:∀q∈ss,q.it≠z:=fun q hq e=>(KQ.mp nd).1 (by rw[<-e];simp;exact .inr (.inr ⟨q,hq,rfl⟩));have az:∀q∈ss,q.a≠z:=fun q hq e=>ap.ap q hq (by rw[e];simp);have TIn:=(KQ.mp (KQ.mp nd).2).1;refine KA (wpAny_attempt (wpAny_callSpecial?_slot hT NU (wpAny_call_entry NU hT F.entry_zip_next ?_ (F.args_zip_next_1 _))));refine sd (arr:=arr) z1 (by rw[yB];exact t1) t2 hne fun f h1' hf k1 k2=>?_;have src:∀q∈ss,SrcAt h1' q i:=fun q hq=>(h1 q hq).keep (fun o e=>by rw[k2.2 _ (itz q hq)];exact e) fun o e=>by rw[k2.2 _ (az q hq)];exact e
 have lp:=hp.length;refine Dr (dn:=[]) (dx:=[]) (s:={ s with heap:=h1' }) hf ap hs hp rfl (by rw[la,KH]) k1 (by rw[k2.2 _ TOz];exact t2) (fun q hq=>nomatch hq) src fun h2 j1 j2 j3 j4 j5=>?_;refine⟨rfl,j1,xs,j2,by rw[<-lp];exact hs,fun h3 m1 m2 m3 m4=>⟨_,rfl,KC ?_⟩⟩;have big:∀c o,s.heap.get? c=some o->c≠h2.objs.size:=fun c o e z=>by have:=KO e;rw[z,j4,k2.1] at this;exact absurd this (MA _)
 have all:∀c o,c ∉ z::TI::TO::ss.map Zs.it->s.heap.get? c=some o->h3.get? c=some o:=fun c o hc e=>by
  refine m4 c o (fun z=>hc (by rw[z];simp)) (j5 c o (fun z=>hc ?_) ?_)
  ·rcases LC.mp z with z|z
   ·rw[z];simp
   ·exact KL _ (KL _ (KL _ z))
  ·show h1'.get? c=some o;rw[k2.2 c (fun z=>hc (by rw[z];simp))];exact e
 refine hQ h3 _ (by rw[j4,k2.1];exact KF _) m1 ?_ (m4 _ _ TOz j2) (fun q hq=>(j3 q hq).keep (fun o e=>m4 _ o (itz q hq) e) fun o e=>m4 _ o (az q hq) e) m2 (fun hm=>?_) all
 ·refine m4 _ _ TIz (j5 _ _ (fun z=>TIn ?_) ?_)
  ·exact z
  ·show h1'.get? TI=_;rw[k2.2 _ TIz];exact t1
 ·simp only[List.mem_cons] at hm;rcases hm with e|e|e|e
  ·exact big z _ z1 e.symm
  ·exact big TI _ t1 e.symm
  ·exact big TO _ t2 e.symm
  ·obtain⟨q,hq,e⟩:=K0.mp e;obtain⟨o,_,eo,_⟩:=(h1 q hq).obj;exact big _ _ eo e
theorem Ab {s:Shared}{Q:Option Value->Shared->Prop}(hh:A.handled=none)(ap:ZA z TI TO ss)(hs:ss.length<=sizeLine)(hz:ZSt z TI TO (ss.map Zs.it) s.heap)(h1:∀q∈ss,SrcAt s.heap q i)(hn:∃q∈ss,q.xs[i]?=none)(hQ:∀h',(∀c o,c ∉ z::TI::TO::ss.map Zs.it->s.heap.get? c=some o->h'.get? c=some o)->Q none { s with heap:=h' }):wpAny (model prog w) A (pyNext (.ref z)) Q E s:=by
 obtain⟨z1,t1,arr,la,t2⟩:=hz;have hT:s.TypeIs (.ref z) "zip":=⟨_,z1,rfl⟩;have nd:=ap.nd;have TOz:TO≠z:=fun e=>(KQ.mp nd).1 (by simp[e]);have itz:∀q∈ss,q.it≠z:=fun q hq e=>(KQ.mp nd).1 (by rw[<-e];simp;exact .inr (.inr ⟨q,hq,rfl⟩));have az:∀q∈ss,q.a≠z:=fun q hq e=>ap.ap q hq (by rw[e];simp);have hne:ss≠[]:=fun e=>by obtain⟨q,hq,_⟩:=hn;rw[e] at hq;cases hq
 refine KA (wpAny_attempt (wpAny_callSpecial?_slot hT NU (wpAny_call_entry NU hT F.entry_zip_next ?_ (F.args_zip_next_1 _))));refine sd (arr:=arr) z1 (by rw[yB];exact t1) t2 hne fun f h1' hf k1 k2=>?_;have src:∀q∈ss,SrcAt h1' q i:=fun q hq=>(h1 q hq).keep (fun o e=>by rw[k2.2 _ (itz q hq)];exact e) fun o e=>by rw[k2.2 _ (az q hq)];exact e
 refine yH (A:=A.in1) (dn:=[]) (dx:=[]) (s:={ s with heap:=h1' }) hf hh ap hs hn rfl (by rw[la,KH]) k1 (by rw[k2.2 _ TOz];exact t2) src fun h2 e j1 j2=>?_;refine KA (wpAny_isInstance (T:="StopIteration") (b:=true) j2 isSubtype_stop (KC (hQ h2 fun c o hc e=>?_)));refine j1 c o (fun z=>hc ?_) ?_
 ·rcases LC.mp z with z|z
  ·rw[z];simp
  ·rcases LC.mp z with z|z
   ·rw[z];simp
   ·exact KL _ (KL _ (KL _ z))
 ·show h1'.get? c=some o;rw[k2.2 c (fun z=>hc (by rw[z];simp))];exact e
end
def SqB (K:W.Frag)(H:Hp)(c:Bool × Addr)(xs:List V):Prop:=if c.1=true then SqL K H c.2 xs else SqT K H c.2 xs
noncomputable def Itn (K:W.Frag)(cs:List (Bool × Addr)):L2.It :=
 ⟨fun i H=>∃xss ys,Paired (SqB K H) cs xss/\Paired (fun (xs:List V) (y:V)=>xs[i]?=some y) xss ys,
  fun i H v H'=>∃T,v=.ref T/\H T=none/\∀xss ys,Paired (SqB K H) cs xss->Paired (fun (xs:List V) (y:V)=>xs[i]?=some y) xss ys->H'=upd H T (.tup ys),
  fun i H=>∃xss,Paired (SqB K H) cs xss/\∃xs∈xss,xs.length=i⟩
theorem rg {α β:Type}{F:α->β->Prop}:∀ {l:List α}{r:List β}{a:α},Paired F l r->a∈l->∃b∈r,F a b
 | _,_,_,.nil,h=>nomatch h
 | _,_,_,.cons f t,h=>by
  rcases LC.mp h with rfl|h
  ·exact⟨_,by simp,f⟩
  ·obtain⟨b,h1,h2⟩:=rg t h;exact⟨b,by simp[h1],h2⟩
theorem vm {σ:L2.St}(I:L2.Inv X pins σ H s):∀ {its:List Addr}{cs:List (Bool × Addr)}{xss:List (List V)},Paired (fun it c=>ItB s.heap it c i) its cs->Paired (SqB X.K H) cs xss ->
  ∃ss:List Zs,ss.map Zs.it=its/\ss.map Zs.c=cs/\(∀q∈ss,SrcAt s.heap q i)/\Paired (fun (q:Zs) (xs:List V)=>Vals xs q.xs.toList) ss xss
 | _,_,_,.nil,.nil=>⟨[],rfl,rfl,fun q hq=>(nomatch hq),.nil⟩
 | _,_,_,.cons (a:=it) (b:=c) h1 t1,.cons (b:=xs) h2 t2=>by
  obtain⟨ss,e1,e2,e3,e4⟩:=vm I t1 t2;obtain⟨b,a⟩:=c;cases b with
  | true =>
   obtain⟨its1,rv1,p1,hz1⟩:=I.list (show SqL X.K H a xs from h2);refine⟨⟨it,(true,a),its1.toArray⟩::ss,by rw[KG,e1],by rw[KG,e2],fun q hq=>?_,.cons (by simpa using rv1) e4⟩;rcases LC.mp hq with rfl|hq
   ·exact⟨h1,p1.isList⟩
   ·exact e3 q hq
  | false =>
   obtain⟨its1,rv1,p1,hz1⟩:=I.tuple (show SqT X.K H a xs from h2);refine⟨⟨it,(false,a),its1.toArray⟩::ss,by rw[KG,e1],by rw[KG,e2],fun q hq=>?_,.cons (by simpa using rv1) e4⟩;rcases LC.mp hq with rfl|hq
   ·exact⟨h1,p1⟩
   ·exact e3 q hq
theorem rQ {i:Nat}:∀ {ss:List Zs}{xss:List (List V)}{ys:List V},Paired (fun (q:Zs) (xs:List V)=>Vals xs q.xs.toList) ss xss->Paired (fun (xs:List V) (y:V)=>xs[i]?=some y) xss ys->∃us,Paired (fun (q:Zs) (x:Value)=>q.xs[i]?=some x) ss us/\Vals ys us
 | _,_,_,.nil,.nil=>⟨[],.nil,.nil⟩
 | _,_,_,.cons h1 t1,.cons h2 t2=>by obtain⟨us,e1,e2⟩:=rQ t1 t2;obtain⟨u,e3,e4⟩:=h1.get h2;exact⟨u::us,.cons (by simpa using e3) e1,.cons e4 e2⟩
theorem SqB.inj {σ:L2.St}(I:L2.Inv X pins σ H s):∀ {cs:List (Bool × Addr)}{xss yss:List (List V)},Paired (SqB X.K H) cs xss->Paired (SqB X.K H) cs yss->xss=yss
 | _,_,_,.nil,.nil=>rfl
 | _,_,_,.cons (a:=c) h1 t1,.cons h2 t2=>by
  rw[SqB.inj I t1 t2];obtain⟨b,a⟩:=c;cases b with
  | true=>rw[I.list_inj (show SqL X.K H a _ from h1) h2]
  | false=>rw[I.tuple_inj (show SqT X.K H a _ from h1) h2]
theorem yU {i:Nat}:∀ {xss:List (List V)}{ys zs:List V},Paired (fun (xs:List V) (y:V)=>xs[i]?=some y) xss ys->Paired (fun (xs:List V) (y:V)=>xs[i]?=some y) xss zs->ys=zs
 | _,_,_,.nil,.nil=>rfl
 | _,_,_,.cons h1 t1,.cons h2 t2=>by rw[yU t1 t2];rw[h1] at h2;cases h2;rfl
theorem x_ {P:Program}{w:World}{K:W.Frag}{elts:List Expr}{kt:Nat}{pt:Pos}{z TI TO:Addr}{its:List Addr}{cs:List (Bool × Addr)}(nd:(z::TI::TO::its).Nodup)(ap:∀c∈cs,c.2 ∉ z::TI::TO::its)(hne:its≠[])(hs:its.length<=100) :
  pY P w K (.Tuple elts kt pt) (Itn K cs) (z::TI::TO::its) z (fun i h=>ZSt z TI TO its h/\Paired (fun it c=>ItB h it c i) its cs) where
 mem:=by simp
 obj:=fun i h st c hc=>by
  obtain⟨⟨h1,h2,arr,la,h3⟩,h4⟩:=st;simp only[List.mem_cons] at hc;rcases hc with rfl|rfl|rfl|hc
  ·exact⟨_,h1,fun v z=>nomatch z⟩
  ·exact⟨_,h2,fun v z=>nomatch z⟩
  ·exact⟨_,h3,fun v z=>nomatch z⟩
  ·obtain⟨d,_,e⟩:=rg h4 hc;obtain⟨o,vs,e1,e2⟩:=e.obj;exact⟨o,e1,fun v z=>by rw[e2] at z;cases z⟩
 keep:=fun i h h' st k=>by
  obtain⟨⟨h1,h2,arr,la,h3⟩,h4⟩:=st;refine⟨⟨k z (by simp) _ h1,k TI (by simp) _ h2,arr,la,k TO (by simp) _ h3⟩,?_⟩;have:∀ {l:List Addr}{r:List (Bool × Addr)},(∀x∈l,x∈its)->Paired (fun it c=>ItB h it c i) l r->Paired (fun it c=>ItB h' it c i) l r:=by
   intro l r hl hp
   induction hp with
   | nil=>exact .nil
   | cons f t ih=>exact .cons (f.keep fun o e=>k _ (by simp[hl _ List.mem_cons_self]) o e) (ih fun x hx=>hl x (KL _ hx))
  exact this (fun x hx=>hx) h4
 item:=by
  intro X hP hw hK hc i pins s σ H E I hf st hg;subst hP hw hK;obtain⟨xss,ys,g1,g2⟩:=hg;obtain⟨hz,h4⟩:=st;obtain⟨ss,e1,e2,e3,e4⟩:=vm I h4 g1;obtain⟨us,f1,f2⟩:=rQ e4 g2;have za:ZA z TI TO ss:=⟨by rw[e1];exact nd,fun q hq=>by rw[e1];exact ap q.c (by rw[<-e2];exact K0.mpr ⟨q,hq,rfl⟩)⟩
  have ssl:ss.length=its.length:=by rw[<-e1,KH]
  have line:(100:Nat)<=sizeLine:=by decide
  refine BM (i:=i) (ss:=ss) (xs:=us) za (fun e=>hne (by rw[<-e1,e];rfl)) (by rw[ssl];exact K_ hs line) (by rw[e1];exact hz) e3 f1 fun h' T lT z1 t1 t2 s1 tT nT kk=>?_;rw[e1] at t1 nT kk;refine⟨_,rfl,wpAny_letOwnedTupleGo_zip (s:={ s with heap:=h' }) z1 fun h'' z2 sb=>?_⟩;have nz:∀ {c:Addr},c∈TI::TO::its->c≠z:=fun hc e=>(KQ.mp nd).1 (by rw[<-e];exact hc);have Tz:T≠z:=fun e=>nT (by rw[e];simp);have yl:ys.length<=100:=by rw[<-g2.length,<-g1.length,<-h4.length];exact hs
  have I2:L2.Inv X pins σ (upd H T (.tup ys)) { s with heap:=h'' }:=qw (t':=s.toks) (its:=us) (wr:=z::TI::TO::its) I (fun b o hb e=>by rw[sb.2 b (fun q=>hb (by rw[q];simp))];exact kk b o hb e) (fun b hb=>hf b hb) lT f2 (K_ yl line) ⟨_,by rw[sb.2 T Tz];exact tT,rfl,0,rfl⟩
  refine⟨.ref T,_,I2,rfl,⟨T,rfl,I.hok.fresh lT,fun xss' ys' k1 k2=>?_⟩,⟨⟨z2,by rw[sb.2 TI (nz (by simp))];exact t1,us,?_,by rw[sb.2 TO (nz (by simp))];exact t2⟩,?_⟩,fun b hb=>?_⟩
  ·have:=SqB.inj I k1 g1;subst this;rw[yU k2 g2]
  ·rw[<-f1.length];exact ssl
  ·have go:∀ {l:List Zs},(∀q∈l,SrcAt h' q (i+1))->(∀q∈l,q.it≠z)->Paired (fun it c=>ItB h'' it c (i+1)) (l.map Zs.it) (l.map Zs.c):=by
    intro l
    induction l with
    | nil=>intro _ _;exact .nil
    | cons q l ih =>intro k1 k2;exact .cons ((k1 q KP).1.keep fun o e=>by rw[sb.2 _ (k2 q KP)];exact e) (ih (fun p hp=>k1 p (KL _ hp)) fun p hp=>k2 p (KL _ hp))
   have:=go s1 fun q hq=>nz (KL _ (KL _ (by rw[<-e1];exact K0.mpr ⟨q,hq,rfl⟩)));rw[e1,e2] at this;exact this
  ·have hlt:b<s.heap.objs.size:=by
    obtain⟨h1,h2,arr,la,h3⟩:=hz;simp only[List.mem_cons] at hb;rcases hb with rfl|rfl|rfl|hb
    ·exact KO h1
    ·exact KO h2
    ·exact KO h3
    ·obtain⟨d,_,e⟩:=rg h4 hb;obtain⟨o,_,e,_⟩:=e.obj;exact KO e
   rw[af (K6 (KY hlt lT))];exact(hf b hb).1
 done:=by
  intro X hP hw hK hc i pins s σ H E I hf st hg;subst hP hw hK;obtain⟨xss,g1,xs,gx,gl⟩:=hg;obtain⟨hz,h4⟩:=st;obtain⟨ss,e1,e2,e3,e4⟩:=vm I h4 g1;have za:ZA z TI TO ss:=⟨by rw[e1];exact nd,fun q hq=>by rw[e1];exact ap q.c (by rw[<-e2];exact K0.mpr ⟨q,hq,rfl⟩)⟩
  have ssl:ss.length=its.length:=by rw[<-e1,KH]
  have line:(100:Nat)<=sizeLine:=by decide
  have hn:∃q∈ss,q.xs[i]?=none:=by
   have:∀ {l:List Zs}{r:List (List V)},Paired (fun (q:Zs) (xs:List V)=>Vals xs q.xs.toList) l r->xs∈r->∃q∈l,q.xs[i]?=none:=by
    intro l r hp hx
    induction hp with
    | nil=>cases hx
    | @cons q ys l r f t ih =>
     rcases LC.mp hx with rfl|hx
     ·refine⟨q,KP,?_⟩;have:=f.length;exact Array.getElem?_eq_none (by rw[<-gl,this];simp)
     ·obtain⟨p,h1,h2⟩:=ih hx;exact⟨p,KL _ h1,h2⟩
   exact this e4 gx
  refine Ab (i:=i) (ss:=ss) (I.ok.hd hc) za (by rw[ssl];exact K_ hs line) (by rw[e1];exact hz) e3 hn fun h' kk=>?_;rw[e1] at kk;exact⟨rfl,Dp (t':=s.toks) I kk fun b hb=>hf b hb⟩
 self:=fun _ _ _ _ _ st h=>wpAny_pyIter_zip st.1.1 h
section
variable {prog:Program}{w:World}{A:Around}{E:Value->Shared->Prop}
theorem Hc {R:Array Value->Shared->Prop}:∀ {cs:List (Bool × Addr)}{acc:Array Value}{s:Shared},(∀c∈cs,∃xs,SeqB s.heap c xs) ->
  (∀h',h'.objs.size=s.heap.objs.size+cs.length->(∀b o,s.heap.get? b=some o->h'.get? b=some o)->Paired (fun it c=>ItB h' it c 0) (List.range' s.heap.objs.size cs.length) cs->R (acc++((List.range' s.heap.objs.size cs.length).map Value.ref).toArray) { s with heap:=h' }) ->
  wpAny (model prog w) A (forIn (cs.map fun c=>Value.ref c.2) acc fun x r=>do
   let v <-holding r.toList (pyIter x)
   pure (ForInStep.yield (r.push v))) R E s:=by
 intro cs
 induction cs with
 | nil =>intro acc s _ hR;exact KC (by simpa using hR s.heap rfl (fun _ _ e=>e) .nil)
 | cons c cs ih =>
  intro acc s hs hR;rw[KG,ML];obtain⟨xs,hx⟩:=hs c KP;refine KA (KA (L3 (CG hx fun o ho=>KC ?_)));refine ih (acc:=acc.push (.ref s.heap.objs.size)) (s:={ s with heap:=s.heap.push o }) (fun d hd=>?_) fun h' k1 k2 k3=>?_
  ·obtain⟨ys,hy⟩:=hs d (KL _ hd);exact⟨ys,hy.keep fun o e=>KB _ e⟩
  ·have sz:(s.heap.push o).objs.size=s.heap.objs.size+1:=MV _ _;have k1:h'.objs.size=(s.heap.push o).objs.size+cs.length:=k1;have k3:Paired (fun it c=>ItB h' it c 0) (List.range' (s.heap.push o).objs.size cs.length) cs:=k3;rw[sz] at k1 k3;have:=hR h' (by rw[k1,LI];omega) (fun b u e=>k2 b u (KB _ e)) (by rw[LI,List.range'_succ];exact .cons (ho.keep fun u e=>k2 _ u e) k3)
   rw[LI,List.range'_succ] at this;show R (acc.push (Value.ref s.heap.objs.size)++((List.range' (s.heap.push o).objs.size cs.length).map Value.ref).toArray) _;rw[sz];simpa using this
theorem uv (cs:List (Bool × Addr))(hl:cs.length<=100):Meets (Builtin.«zip.__new__» ⟨.type "zip"::cs.map (fun c=>Value.ref c.2),[]⟩) fun _ R s=>(∀c∈cs,∃xs,SeqB s.heap c xs) /\
  ∀h',ZSt (s.heap.objs.size+cs.length+2) (s.heap.objs.size+cs.length) (s.heap.objs.size+cs.length+1) (List.range' s.heap.objs.size cs.length) h'->Paired (fun it c=>ItB h' it c 0) (List.range' s.heap.objs.size cs.length) cs->(∀b o,s.heap.get? b=some o->h'.get? b=some o)->R (.ok (.ret (.ref (s.heap.objs.size+cs.length+2)))) { s with heap:=h' }:=by
 intro prog w A R s ⟨h1,h⟩;have line:(100:Nat)<=sizeLine:=by decide
 refine KA ?_;refine KA (KC ?_);rw[sub_zip];refine KA (KC ?_);refine KC ?_;refine KA (m:=Builtin.SmallTypes.iterAll (cs.map fun c=>Value.ref c.2)) ?_;refine KA (Hc h1 fun h' k1 k2 k3=>KC ?_);have e0:(#[]++((List.range' s.heap.objs.size cs.length).map Value.ref).toArray:Array Value).toList=(List.range' s.heap.objs.size cs.length).map Value.ref:=by simp
 rw[e0];have ln:((List.range' s.heap.objs.size cs.length).map Value.ref).length=cs.length:=by simp
 refine KA (wpAny_newTuple ?_ (by rw[ln];exact K_ hl line));refine KA (wpAny_newTuple ?_ (by rw[KH,ln];exact K_ hl line));refine KA (wpAny_newObj_type (T:="zip") (data:=.fields #[.none,.bool false,.bool false,.ref h'.objs.size,.ref (h'.push (cI ((List.range' s.heap.objs.size cs.length).map Value.ref))).objs.size]) ?_);have s1:(h'.push (cI ((List.range' s.heap.objs.size cs.length).map Value.ref))).objs.size=s.heap.objs.size+cs.length+1:=(MV _ _).trans (by rw[k1]);have s2:((h'.push (cI ((List.range' s.heap.objs.size cs.length).map Value.ref))).push (cI (((List.range' s.heap.objs.size cs.length).map Value.ref).map fun _=>Value.none))).objs.size=s.heap.objs.size+cs.length+2:=(MV _ _).trans (by rw[s1]);refine KC ?_;show R (.ok (.ret (.ref ((h'.push (cI ((List.range' s.heap.objs.size cs.length).map Value.ref))).push (cI (((List.range' s.heap.objs.size cs.length).map Value.ref).map fun _=>Value.none))).objs.size))) _;rw[s2];refine h _ ⟨?_,?_,((List.range' s.heap.objs.size cs.length).map Value.ref).map fun _=>Value.none,by simp,?_⟩ ?_ fun b o e=>KB _ (KB _ (KB _ (k2 b o e)))
 ·rw[<-s2];have g:=KI ((h'.push (cI ((List.range' s.heap.objs.size cs.length).map Value.ref))).push (cI (((List.range' s.heap.objs.size cs.length).map Value.ref).map fun _=>Value.none))) (o:={ cls:=.type "zip",data:=.fields #[.none,.bool false,.bool false,.ref h'.objs.size,.ref (h'.push (cI ((List.range' s.heap.objs.size cs.length).map Value.ref))).objs.size] }) rfl;rw[k1,s1] at g;rw[k1,s1];exact g
 ·rw[<-k1];exact KB _ (KB _ (KI _ rfl))
 ·rw[<-s1];exact KB _ (KI _ rfl)
 ·have:∀ {l:List Addr}{r:List (Bool × Addr)},Paired (fun it c=>ItB h' it c 0) l r->∀ {g:Heap},(∀b o,h'.get? b=some o->g.get? b=some o)->Paired (fun it c=>ItB g it c 0) l r:=by
   intro l r hp g hg
   induction hp with
   | nil=>exact .nil
   | cons f t ih=>exact .cons (f.keep fun o e=>hg _ o e) ih
  exact this k3 fun b o e=>KB _ (KB _ (KB _ e))
end
section
variable {prog:Program}{w:World}{A:Around}{E:Value->Shared->Prop}{s:Shared}
def JA (cs:List (Bool × Addr))(Q:Value->Shared->Prop)(s:Shared):Prop:=∀h',ZSt (s.heap.objs.size+cs.length+2) (s.heap.objs.size+cs.length) (s.heap.objs.size+cs.length+1) (List.range' s.heap.objs.size cs.length) h'->Paired (fun it c=>ItB h' it c 0) (List.range' s.heap.objs.size cs.length) cs->(∀b o,s.heap.get? b=some o->h'.get? b=some o) ->
 Q (.ref (s.heap.objs.size+cs.length+2)) { s with heap:=h' }
theorem xg {c1:Bool × Addr}(h1:∀c∈[c1,c2],∃xs,SeqB s.heap c xs)(h:JA [c1,c2] Q s):wpAny (model prog w) A (call (.type "zip") [.ref c1.2,.ref c2.2]) Q E s:=by refine callType_new F.called_zip rfl (F.typeCall_zip_2 _ _) (F.newCall_zip_2 _ _) (fun obj=>?_) F.entry_zip_new (uv [c1,c2] (Nat.le_of_ble_eq_true rfl)) ⟨h1,fun h' k1 k2 k3=>⟨⟨_,k1.1,rfl⟩,h h' k1 k2 k3⟩⟩;exact F.args_object_init_3 _ _ _
end
section
variable {X:Cx}{pins:List (Addr × Obj)}{σ:L2.St}{H:Hp}{s:Shared}
theorem SqB.seq (I:L2.Inv X pins σ H s)(h:SqB X.K H c xs):∃ys,SeqB s.heap c ys:=by
 obtain⟨b,a⟩:=c;cases b with
 | true=>obtain⟨its,_,p,_⟩:=I.list (show SqL X.K H a xs from h);exact⟨_,p.isList⟩
 | false=>obtain⟨its,_,p,_⟩:=I.tuple (show SqT X.K H a xs from h);exact⟨_,p⟩
theorem SeqB.lt (z:SeqB h c ys):c.2<h.objs.size:=by
 obtain⟨b,a⟩:=c;cases b with
 | true=>obtain⟨_,e,_⟩:=(show h.IsList a ys from z);exact KO e
 | false=>obtain⟨_,e,_⟩:=(show h.IsTuple a ys from z);exact KO e
theorem CQ {N n b:Nat}(h:b∈(N+n+2)::(N+n)::(N+n+1)::List.range' N n):N<=b:=by simp only[List.mem_cons,List.mem_range'_1] at h;omega
theorem F8 (N n:Nat):((N+n+2)::(N+n)::(N+n+1)::List.range' N n).Nodup:=by refine KQ.mpr ⟨fun h=>?_,KQ.mpr ⟨fun h=>?_,KQ.mpr ⟨fun h=>?_,List.nodup_range'⟩⟩⟩ <;> (simp only[List.mem_cons,List.mem_range'_1] at h;omega)
theorem B9 {cs:List (Bool × Addr)}{R:L2.It->Hp->Prop}(I:L2.Inv X pins σ H s)(hs:∀c∈cs,∃xs,SqB X.K H c xs)(hn:cs≠[])(hl:cs.length<=100)(q:R (Itn X.K cs) H) :
  JA cs (fun v s1=>wpAny (model X.prog X.w) X.A (pyIter v) (PIE X pins σ (.Tuple elts kt pt) R) X.xe s1) s:=by
 intro h' k1 k2 kk;refine wpAny_pyIter_zip k1.1 ?_;have nd:=F8 s.heap.objs.size cs.length;have big:∀b,b∈(s.heap.objs.size+cs.length+2)::(s.heap.objs.size+cs.length)::(s.heap.objs.size+cs.length+1)::List.range' s.heap.objs.size cs.length->s.heap.objs.size<=b:=fun b hb=>CQ hb;refine⟨_,_,_,_,H,rfl,I.kept (t':=s.toks) kk,x_ nd (fun c hc hm=>?_) (fun e=>hn ?_) (by simpa using hl),⟨k1,k2⟩,fun b hb=>I.fpOk (big b hb) (I.hok.fresh (big b hb)),q⟩
 ·obtain⟨xs,hx⟩:=hs c hc;obtain⟨ys,hy⟩:=hx.seq I;exact absurd (KY hy.lt (big _ hm)) (MA _)
 ·have:=LG List.length e;simp at this;exact this
end
section
variable {X:Cx}
noncomputable def HE (K:W.Frag)(ta:TA):TI:=fun σ H R=>ta σ H fun vs H1=>∃c d,vs=[.ref c.2,.ref d.2]/\(∀e∈[c,d],∃xs,SqB K H1 e xs)/\R (Itn K [c,d]) H1
theorem GB {a:Expr}(hg:Gl X "zip")(hm:X.mg "zip"=none)(ha:PA X [a,b] ta)(hs:starEach [a,b] X.env=[(false,eval a X.env),(false,eval b X.env)])(hs2:starEach [b] X.env=[(false,eval b X.env)]) :
  PI X (.Tuple elts kt pt) (.Call (.Name "zip" p) [a,b] [] pos) (HE X.K ta):=by
 intro pins s σ H R I h;refine Call_ (jR I hg hm boot_zip (MF (thn (ha pos pins s σ H _ I h) fun us s1 ⟨vs,H1,I1,r1,q1⟩=>?_) (by rw[hs,hs2]) (by rw[hs2];rfl)));obtain⟨c,d,e,hq,q⟩:=q1;subst e;obtain⟨u,v,rfl,ru,rv⟩:=sv r1;cases ru;cases rv;exact xg (fun f hf=>let ⟨xs,hx⟩:=hq f hf;hx.seq I1) (B9 I1 hq (by simp) (by simp) q)
end
def LB (K:W.Frag)(c:Bool × Addr)(xs:List PV)(chk:AH->Prop)(m0:List Addr)(H0:Hp):Prop:=∀m H st,Ext K m0 H0 m H->RH K m H st->chk st->∃ys,SqB K H c ys/\Rs K m H xs ys
theorem E1 (rh:RH K m H st)(r:R K m H v x)(e:a7 st v=some xs):∃c:Bool × Addr,x=.ref c.2/\LB K c xs (gM st v) m H/\∃ys,SqB K H c ys:=by
 cases v with
 | tup ys =>cases e;rw[R_tup] at r;obtain⟨a,zs,rfl,g,r3⟩:=r;exact⟨(false,a),rfl,fun m' H' st' x r q=>⟨zs,x.tup _ _ g,r3.mono x⟩,zs,g⟩
 | rdl ys =>cases e;rw[eD] at r;obtain⟨a,zs,rfl,g,r3⟩:=r;exact⟨(true,a),rfl,fun m' H' st' x r q=>⟨zs,(x.rdf _ _ g).sq,r3.mono x⟩,zs,g.sq⟩
 | ref n =>
  unfold a7 aQ at e;simp only at e;split at e
  ·cases e;rename_i q;obtain⟨a,zs,rfl,ea,g,r3⟩:=rh.lst q r;refine⟨(true,a),rfl,fun m' H' st' x r' q'=>?_,zs,SqL.of g⟩;have q':st'[n]?=st[n]?:=q';rw[q] at q';obtain⟨ys,h1,h2⟩:=r'.at_ n _ a q' (eB x.pre ea);exact⟨ys,SqL.of h1,h2⟩
  ·cases e
 | _=>cases e
theorem zX (h1:LB K a xs c1 m0 H0)(h2:LB K b ys c2 m0 H0):kX K (Itn K [a,b]) (fX xs ys) (fun st=>c1 st/\c2 st) m0 H0:=by
 refine⟨fun m H st x r q=>?_,fun i v m H st x r q ev=>?_⟩
 ·obtain⟨as,g1,r1⟩:=h1 m H st x r q.1;obtain⟨bs,g2,r2⟩:=h2 m H st x r q.2;refine⟨[as,bs],.cons g1 (.cons g2 .nil),?_⟩;rw[gO,r1.len,r2.len];rcases Nat.le_total as.length bs.length with h|h
  ·exact⟨as,by simp,(OL h).symm⟩
  ·exact⟨bs,by simp,(Nat.min_eq_right h).symm⟩
 ·obtain⟨as,g1,r1⟩:=h1 m H st x r q.1;obtain⟨bs,g2,r2⟩:=h2 m H st x r q.2;obtain⟨u,v',e1,e2,rfl⟩:=sj ev;obtain⟨y1,f1,q1⟩:=r1.get e1;obtain⟨y2,f2,q2⟩:=r2.get e2;refine⟨⟨[as,bs],[y1,y2],.cons g1 (.cons g2 .nil),.cons f1 (.cons f2 .nil)⟩,?_⟩;rintro z H' ⟨T,rfl,hT,hh⟩;have:=hh _ _ (.cons g1 (.cons g2 .nil)) (.cons f1 (.cons f2 .nil));subst this;refine⟨Ext.newT r hT,r.newT hT,R_tup.mpr ⟨T,[y1,y2],rfl,SqT.of ax,?_⟩⟩;rw[Rs_cons',Rs_cons',Rs_nil];exact⟨q1.mono (Ext.newT r hT),q2.mono (Ext.newT r hT),rfl⟩
end FW
namespace FW
open L2 HX
noncomputable def Itc (z:Str):L2.It:=⟨fun i _=>i<z.cps.size,fun i H x H'=>H'=H/\∃c,z.cps[i]?=some c/\x=.str ⟨#[c]⟩,fun i _=>i=z.cps.size⟩
theorem lA {P:Program}{w:World}{K:W.Frag}{tg:Expr}{it:Addr}{z:Str}{t:Tok}{nm:String}(hW:∀A:Around,A.handled=none->Walks P w A it [it] [it] z.cps.size (SignAt z) (fun i h=>h.IsStrIter it nm z t i))
  (hn:["enumerate","zip","dict_itemiterator","dict_reverseitemiterator","odict_iterator","itertools.zip_longest","itertools.pairwise"].contains nm=false) (hS:∀(A:Around) (i:Nat) (s:Shared) (Q:Value->Shared->Prop) (E:Value->Shared->Prop),s.heap.IsStrIter it nm z t i->Q (.ref it) s->wpAny (model P w) A (pyIter (.ref it)) Q E s):pY P w K tg (Itc z) [it] it (fun i h=>h.IsStrIter it nm z t i) where
 mem:=by simp
 obj:=fun i h st b hb=>by
  have e:b=it:=by simpa using hb
  subst e;obtain⟨o,e,c,d⟩:=st;exact⟨o,e,fun v z=>by rw[d] at z;cases z⟩
 keep:=fun i h h' st k=>by obtain⟨o,e,r⟩:=st;exact⟨o,k it (by simp) o e,r⟩
 item:=by intro X hP hw hK hc i pins s σ H E I hf st hg;subst hP hw hK;obtain⟨f0,f1,f2,f3,f4,f5⟩:=hf it (by simp);refine(hW X.A (I.ok.hd hc)).item i s _ _ hg st fun v h' tk hv st' kk=>?_;obtain⟨c,u,ec,rfl⟩:=hv;have I1:L2.Inv X pins σ H { s with heap:=h',toks:=tk }:=I.turned (fun b o hb e=>kk b o (by simpa using hb) e) f0 f1 f3 f4 f5;obtain⟨o,e,cc,d⟩:=id st';exact⟨_,rfl,pB (s:={ s with heap:=h',toks:=tk }) e cc d hn ⟨.str ⟨#[c]⟩,H,I1,⟨u,rfl⟩,⟨rfl,c,ec,rfl⟩,st',fun b hb=>(hf b hb).1⟩⟩
 done:=by intro X hP hw hK hc i pins s σ H E I hf st hg;subst hP hw hK;have hg:i=z.cps.size:=hg;subst hg;obtain⟨f0,f1,f2,f3,f4,f5⟩:=hf it (by simp);exact(hW X.A (I.ok.hd hc)).done s _ _ st fun h' tk kk=>⟨rfl,I.turned (fun b o hb e=>kk b o (by simpa using hb) e) f0 f1 f3 f4 f5⟩
 self:=hS
theorem vn:kX K (Itc z) (ee z) (fun _=>True) m0 H0:=by
 refine⟨fun m H st x r q=>by show (ee z).length=z.cps.size;simp[ee],fun i v m H st x r q ev=>?_⟩;unfold ee at ev;rw[KM] at ev;cases e:z.cps.toList[i]? with
 | none=>rw[e] at ev;cases ev
 | some c =>
  rw[e] at ev;cases ev;have e':z.cps[i]?=some c:=by simpa using e
  refine⟨(Array.getElem?_eq_some_iff.mp e').1,?_⟩;rintro y H' ⟨rfl,c',e2,rfl⟩;rw[e'] at e2;cases e2;exact⟨Ext.refl _ _ _,r,R_str.mpr rfl⟩
section
variable {X:Cx}{tg:Expr}
noncomputable def Gf (te:TE):TI:=fun σ H R=>te σ H fun x H1=>∃z,x=.str z/\R (Itc z) H1
theorem yK (he:PE X e te):PI X tg e (Gf te):=by
 intro pins s σ H R I h;refine thn (he pins s σ H _ I h) fun v s1 ⟨x,H1,I1,r1,q1⟩=>?_;obtain⟨z,e,q⟩:=q1;subst e;obtain⟨t,rfl⟩:=r1;have fin:∀b,b∈[s1.heap.objs.size]->FpOk X pins H1 b:=fun b hb=>by
  have e:b=s1.heap.objs.size:=by simpa using hb
  subst e;exact I1.fpOk (KF _) (I1.hok.fresh (KF _))
 cases ha:z.cps.all (·< 128)
 ·exact wpAny_pyIter_wide ha ⟨_,_,_,_,H1,rfl,I1.kept (t':=s1.toks) fun b o e=>KB _ e,lA (nm:="str_iterator") (fun A hA=>Walks.strWide hA _ z t) (by decide) (fun _ _ _ _ _ st h=>wpAny_pyIter_striter_wide st h),⟨_,KI _ rfl,rfl,rfl⟩,fin,q⟩
 ·exact wpAny_pyIter_ascii ha ⟨_,_,_,_,H1,rfl,I1.kept (t':=s1.toks) fun b o e=>KB _ e,lA (nm:="str_ascii_iterator") (fun A hA=>Walks.strAscii hA _ z t) (by decide) (fun _ _ _ _ _ st h=>wpAny_pyIter_striter_ascii st h),⟨_,KI _ rfl,rfl,rfl⟩,fin,q⟩
noncomputable def Gc (lo k:Int)(n:Nat):L2.It:=⟨fun i _=>i<n,fun i H x H'=>H'=H/\x=.int (lo+i*k),fun i _=>n<=i⟩
theorem De {P:Program}{w:World}{K:W.Frag}{it:Addr}{lo k:Int}{n:Nat}:pY P w K tg (Gc lo k n) [it] it (fun i h=>IsRangeIter h it (lo+(i:Nat)*k) ((n:Int)-(i:Nat)) k) where
 mem:=by simp
 obj:=fun i h st b hb=>by
  have e:b=it:=by simpa using hb
  subst e;exact⟨_,st,fun v z=>by have z':Data.fields _=Data.cell v:=z;cases z'⟩
 keep:=fun i h h' st k=>k it (by simp) _ st
 item:=by intro X hP hw hK hc i pins s σ H E I hf st hg;subst hP hw hK;obtain⟨f0,f1,f2,f3,f4,f5⟩:=hf it (by simp);have W:=Walks.range (prog:=X.prog) (w:=X.w) (I.ok.hd hc) it lo k n;refine W.item i s _ _ hg st fun v h' tk hv st' kk=>?_;obtain⟨t,rfl⟩:=hv;have I1:L2.Inv X pins σ H { s with heap:=h',toks:=tk }:=I.turned (fun b o hb e=>kk b o (by simpa using hb) e) f0 f1 f3 f4 f5;exact ⟨_,rfl,pB (s:={ s with heap:=h',toks:=tk }) (n:="range_iterator") st' rfl rfl (by decide) ⟨.int (lo+i*k),H,I1,⟨t,rfl⟩,⟨rfl,rfl⟩,st',fun b hb=>(hf b hb).1⟩⟩
 done:=by intro X hP hw hK hc i pins s σ H E I hf st hg;subst hP hw hK;obtain⟨f0,f1,f2,f3,f4,f5⟩:=hf it (by simp);exact wpAny_pyNext_range_end (I.ok.hd hc) st (by have:n<=i:=hg;omega) fun h' eb=>⟨rfl,I.turned (t':=s.toks) (fun b o hb e=>eb b o hb e) f0 f1 f3 f4 f5⟩
 self:=fun _ _ _ _ _ st h=>wpAny_pyIter_rangeiter st h
theorem Dk:kX K (Gc lo k n) (jH lo k n) (fun _=>True) m0 H0:=by
 refine⟨fun m H st x r q=>by show n<=_;simp[jH],fun i v m H st x r q ev=>?_⟩;unfold jH at ev;rw[KM] at ev;have hi:i<n:=by
  by_cases hi:i<n
  ·exact hi
  ·rw[LO (by simp;omega)] at ev;cases ev
 rw[NW hi] at ev;cases ev;refine⟨hi,fun z H' ⟨e2,e3⟩=>?_⟩;subst e2 e3;exact⟨Ext.refl _ _ _,r,R_int.mpr rfl⟩
noncomputable def HB (ta:TA):TI:=fun σ H R=>ta σ H fun vs H1=>∃i j k:Int,vs=[.int i,.int j,.int k]/\(-(2 ^ 62)<=i/\i<2 ^ 62/\-(2 ^ 62)<=j/\j<2 ^ 62/\0<k/\k<2 ^ 62)/\R (Gc i k (rSz i j k)) H1
theorem zM {i j k:Int}(h:-(2 ^ 62)<=i/\i<2 ^ 62/\-(2 ^ 62)<=j/\j<2 ^ 62/\0<k/\k<2 ^ 62):Builtin.Range.rangeSize i j k=(rSz i j k:Nat)/\Builtin.Range.small i j k=true:=by
 have e:Builtin.Range.rangeSize i j k=(rSz i j k:Nat):=by
  unfold Builtin.Range.rangeSize rSz;rw[KZ h.2.2.2.2.1];split
  ·have:0<=(j-i-1)/k:=OM (by omega) (by omega);omega
  ·rfl
 have b:(rSz i j k:Int)<2 ^ 63:=by
  unfold rSz;split
  ·have h0:0<=(j-i-1)/k:=OM (by omega) (by omega);have h1:(j-i-1)/k<=j-i-1:=Int.ediv_le_self _ (by omega);omega
  ·decide
 refine⟨e,?_⟩;unfold Builtin.Range.small;rw[e];simp[Builtin.Range.rangeFitsLong];rw[KZ h.2.2.2.2.1];omega
theorem log2_lt {d:Nat}(h:d<2 ^ 63):d.log2<63:=by
 by_cases h0:d=0
 ·subst h0;decide
 ·exact(NR h0).mpr h
theorem xq {a:Expr}(hg:Gl X "range")(hm:X.mg "range"=none)(ha:PA X [a,b,c] ta)(hs:starEach [a,b,c] X.env=[(false,eval a X.env),(false,eval b X.env),(false,eval c X.env)])(hs2:starEach [b,c] X.env=[(false,eval b X.env),(false,eval c X.env)]) :
  PI X tg (.Call (.Name "range" p) [a,b,c] [] pos) (HB ta):=by
 intro pins s σ H R I h;refine Call_ (jR I hg hm boot_range (MF (thn (ha pos pins s σ H _ I h) fun us s1 ⟨vs,H1,I1,r1,q1⟩=>?_) (by rw[hs,hs2]) (by rw[hs2];rfl)));obtain⟨i,j,k,e,h1,q⟩:=q1;subst e;cases r1 with
 | cons r rr =>
  cases rr with
  | cons r' rr =>
   cases rr with
   | cons r'' rr =>
   cases rr;obtain⟨t,rfl⟩:=r;obtain⟨t',rfl⟩:=r';obtain⟨t'',rfl⟩:=r'';obtain⟨e0,e1⟩:=zM h1;refine call_range_3 (by omega) ?_ (.inl (M8 (NH (log2_lt (d:=k.natAbs) (by omega)) (by decide))));refine wpAny_pyIter_range (IsRange.new ..) e1 ?_;have I2:L2.Inv X pins σ H1 { s1 with heap:=s1.heap.push { cls:=.type "range",data:=.fields #[.int i t,.int j t',.int k t''] } }:=I1.kept (t':=s1.toks) fun b o e=>KB _ e;refine⟨_,[_],_,_,H1,rfl,I2.kept (t':=s1.toks) fun b o e=>KB _ e,De (lo:=i) (k:=k) (n:=rSz i j k),?_,fun b hb=>?_,q⟩
   ·have:=KI (s1.heap.push { cls:=.type "range",data:=.fields #[.int i t,.int j t',.int k t''] }) (o:={ cls:=.type "range_iterator",data:=.fields #[rawInt i,rawInt (Builtin.Range.rangeSize i j k),rawInt k] }) rfl;show IsRangeIter _ _ (i+((0:Nat):Int)*k) ((rSz i j k:Int)-((0:Nat):Int)) k;rw[show i+((0:Nat):Int)*k=i by simp,show (rSz i j k:Int)-((0:Nat):Int)=Builtin.Range.rangeSize i j k by rw[e0];simp];exact this
   ·rw[K9] at hb;subst hb;exact I2.fpOk (KF _) (I2.hok.fresh (KF _))
end
section
variable {X:Cx}
noncomputable def wx (z y:Str):List V :=
 match Builtin.Str.occurrences z y 0 z.length 1 with
 | i::_=>[.str (Builtin.Str.strSub z 0 i),.str y,.str (Builtin.Str.strSub z (i+y.length) z.length)]
 | []=>[.str z,.str Str.empty,.str Str.empty]
theorem FX:Rs K m H (ko z y) (wx z y):=by
 unfold ko wx;cases Builtin.Str.occurrences z y 0 z.length 1 with
 | nil=>show Rs K m H [_,_,_] [_,_,_];simp only[Rs_cons',Rs_nil,R_str,and_self]
 | cons i r=>show Rs K m H [_,_,_] [_,_,_];simp only[Rs_cons',Rs_nil,R_str,and_self]
theorem CM:MtR X "str.partition" (fun x vs H Q=>∃z y,x=.str z/\vs=[.str y]/\(y.length == 0)=false/\z.length<=100000/\∀p,H p=none->Q (.ref p) (upd H p (.tup (wx z y)))):=by
 intro pins s σ H x vs v us Q I rx rv h;obtain⟨z,y,rfl,rfl,h1,h2,q⟩:=h;obtain⟨t,rfl⟩:=rx;obtain⟨u,rfl,t',rfl⟩:=bC rv;refine call_meets F.slot_str_partition (typeIs_str _ _ _) F.entry_str_partition (F.args_str_partition_2 _ _) (meets_str_partition z y t t' h1 (dm h2)) ?_;have hf:H s.heap.objs.size=none:=I.hok.fresh (KF _);have q:=q _ hf;unfold wx at q;revert q;cases Builtin.Str.occurrences z y 0 z.length 1 with
 | nil=>exact fun q=>⟨.ref s.heap.objs.size,_,I.laid (t':=s.toks+1) (o:=.tup [.str z,.str Str.empty,.str Str.empty]) (fun b u e=>KB _ e) (KF _) ⟨by show 3<=sizeLine;decide,[_,_,_],.cons ⟨_,rfl⟩ (.cons ⟨_,rfl⟩ (.cons ⟨_,rfl⟩ .nil)),⟨_,KI _ rfl,rfl,_,rfl⟩⟩,rfl,q⟩
 | cons i r=>exact fun q=>⟨.ref s.heap.objs.size,_,I.laid (t':=s.toks+1+1) (o:=.tup [.str (Builtin.Str.strSub z 0 i),.str y,.str (Builtin.Str.strSub z (i+y.length) z.length)]) (fun b u e=>KB _ e) (KF _) ⟨by show 3<=sizeLine;decide,[_,_,_],.cons ⟨_,rfl⟩ (.cons ⟨_,rfl⟩ (.cons ⟨_,rfl⟩ .nil)),⟨_,KI _ rfl,rfl,_,rfl⟩⟩,rfl,q⟩
theorem og:∀ {ss:List Str}{us:List Value},Vals (ss.map V.str) us->∃l:List (Str × Tok),us=strValues l/\l.map (·.1)=ss
 | [],us,r=>by cases r;exact⟨[],rfl,rfl⟩
 | z::ss,us,r=>by
  cases r with
  | cons a b =>obtain⟨t,rfl⟩:=a;obtain⟨l,rfl,e⟩:=og b;exact⟨(z,t)::l,rfl,by rw[KG,e]⟩
theorem Cs:MtR X "str.join" (fun x vs H Q=>∃y l ss,x=.str y/\vs=[.ref l]/\SqL X.K H l (ss.map V.str)/\JoinOk y ss=true/\Q (.str (Txt.join y ss)) H):=by intro pins s σ H x vs v us Q I rx rv h;obtain⟨y,l,ss,rfl,rfl,h1,h2,q⟩:=h;obtain⟨t,rfl⟩:=rx;obtain⟨u,rfl,ru⟩:=bC rv;cases ru;obtain⟨its,ri,pl,_⟩:=I.list h1;obtain⟨ts,rfl,e⟩:=og ri;exact SC.join pl.isList e h2 fun t' k=>⟨.str _,H,I.tok k,⟨t',rfl⟩,q⟩
theorem Dq:MtR X "str.endswith" (fun x vs H Q=>∃z y,x=.str z/\vs=[.str y]/\Q (.bl (Txt.endswith z y)) H):=by intro pins s σ H x vs v us Q I rx rv h;obtain⟨z,y,rfl,rfl,q⟩:=h;obtain⟨t,rfl⟩:=rx;obtain⟨u,rfl,t',rfl⟩:=bC rv;exact call_gives F.slot_str_endswith (typeIs_str _ _ _) F.entry_str_endswith (F.args_str_endswith_2 _ _) (PySem.gives_str_endswith z y t t') ⟨.bl _,H,I,rfl,q⟩
theorem oa:∀(l:List (Str × Tok)),Vals ((l.map (·.1)).map V.str) (strValues l)
 | []=>.nil
 | (z,t)::l=>.cons ⟨t,rfl⟩ (oa l)
theorem yI:MtR X "str.split" (fun x vs H Q=>∃z y,x=.str z/\vs=[.str y]/\(y.length == 0)=false/\z.length<=sizeLine/\(Txt.split z y).length<=sizeLine/\∀p,H p=none->Q (.ref p) (upd H p (.lst ((Txt.split z y).map V.str)))):=by
 intro pins s σ H x vs v us Q I rx rv h;obtain⟨z,y,rfl,rfl,hy,h1,h2,q⟩:=h;obtain⟨t,rfl⟩:=rx;obtain⟨u,rfl,t',rfl⟩:=bC rv;have hf:H s.heap.objs.size=none:=I.hok.fresh (KF _);have q:=q _ hf;unfold Txt.split at q h2;cases e1:(decide (z.length<y.length) || decide (Builtin.Str.strKind z<Builtin.Str.strKind y))
 ·rw[e1,KS KD] at q h2;cases e2:(Builtin.Str.occurrences z y 0 z.length (z.length+1)).isEmpty
  ·rw[e2,KS KD] at q h2;refine call_meets OB (typeIs_str _ _ _) N7 (N1 _ _) (meets_str_split_sep z y t t' e1 hy e2 h1 h2) ?_;rw[strsFrom_eq];have r:=oa (numbered s.toks (Builtin.Str.partsBetween z (Builtin.Str.occurrences z y 0 z.length (z.length+1)) y.length));rw[numbered_texts] at r;exact⟨.ref s.heap.objs.size,_,I.laid (o:=.lst ((Builtin.Str.partsBetween z (Builtin.Str.occurrences z y 0 z.length (z.length+1)) y.length).map V.str)) (fun b u e=>KB _ e) (KF _) ⟨by rw[KH];exact h2,_,_,r,KI _ rfl⟩,rfl,q⟩
  ·rw[e2,KZ rfl] at q;refine call_meets OB (typeIs_str _ _ _) N7 (N1 _ _) (meets_str_split_not_found z y t t' e1 hy e2) ?_;exact⟨.ref s.heap.objs.size,_,I.laid (t':=s.toks) (o:=.lst [V.str z]) (fun b u e=>KB _ e) (KF _) ⟨by show 1<=sizeLine;decide,[_],_,.cons ⟨t,rfl⟩ .nil,KI _ rfl⟩,rfl,q⟩
 ·rw[e1,KZ rfl] at q;refine call_meets OB (typeIs_str _ _ _) N7 (N1 _ _) (meets_str_split_cannot_occur z y t t' e1) ?_;exact⟨.ref s.heap.objs.size,_,I.laid (t':=s.toks) (o:=.lst [V.str z]) (fun b u e=>KB _ e) (KF _) ⟨by show 1<=sizeLine;decide,[_],_,.cons ⟨t,rfl⟩ .nil,KI _ rfl⟩,rfl,q⟩
theorem BA:MtR X "str.join" (fun x vs H Q=>∃y l z,x=.str y/\vs=[.ref l]/\H l=some (.lst [.str z])/\z.length<=100000/\y.length=0/\Q (.str z) H):=by intro pins s σ H x vs v us Q I rx rv h;obtain⟨y,l,z,rfl,rfl,h1,h2,h3,q⟩:=h;obtain⟨t,rfl⟩:=rx;obtain⟨u,rfl,ru⟩:=bC rv;cases ru;obtain⟨zz,its,n,r,hl,e⟩:=I.lstM h1;obtain⟨u1,rfl,t1,rfl⟩:=bC r;refine call_meets F.slot_str_join (typeIs_str _ _ _) F.entry_str_join (F.args_str_join_2 _ _) (meets_str_join_list y t l [(z,t1)] ?_) ⟨⟨_,e,rfl,_,rfl⟩,⟨.str z,H,I,⟨t1,rfl⟩,q⟩⟩;show Builtin.Str.tooLong (0+z.length+y.length)=false;rw[h3];unfold Builtin.Str.tooLong;exact LJ (by rw[sizeLine_eq];omega)
theorem Ad {v:Value}:slicePick #[v] none none (some (-1))=#[v]:=by
 have e:sliceRange (sliceBounds none none (some (-1)) (#[v]:Array Value).size).1 (sliceBounds none none (some (-1)) (#[v]:Array Value).size).2.1 (sliceBounds none none (some (-1)) (#[v]:Array Value).size).2.2=[0]:=by show sliceRange (sliceBounds none none (some (-1)) 1).1 (sliceBounds none none (some (-1)) 1).2.1 (sliceBounds none none (some (-1)) 1).2.2=[0];decide
 unfold slicePick;rw[e];rfl
theorem B0 (he:PE X e te)(hs:PE X st ts)(h1:∀ {σ H Q},Q (.int (-1)) H->ts σ H Q) :
  PE X (.Subscript e (.Slice none none (some st) p2) pos) (fun σ H Q=>te σ H fun x H1=>∃a v,x=.ref a/\H1 a=some (.lst [v])/\∀p,H1 p=none->Q (.ref p) (upd H1 p (.lst [v]))):=by
 intro pins s σ H Q I h;refine Subscript_ (thn (he pins s σ H _ I h) fun v s1 ⟨x,H1,I1,r1,q1⟩=>?_);refine wpAny_Slice ?_;rw[evalPart_none];refine KC ?_;rw[evalPart_some];refine KC ?_;refine thn (hs pins s1 σ H1 (fun y H2=>H2=H1/\y=.int (-1)) I1 (h1 ⟨rfl,rfl⟩)) fun u s3 ⟨y,H3,I3,r3,e1,e2⟩=>?_;subst e1 e2;obtain⟨t3,rfl⟩:=r3;obtain⟨a,v0,rfl,ha,q⟩:=q1;cases r1;obtain⟨zz,its,n,r,hl,eo⟩:=I3.lstM ha;obtain⟨u1,rfl,ru⟩:=bC r;have I4:L2.Inv X pins σ H3 { s3 with heap:=s3.heap.push { cls:=.type "slice",data:=.fields #[.none,.none,.int (-1) t3] } }:=I3.kept (t':=s3.toks) fun b ob q=>KB _ q;obtain⟨_,its4,n4,r4,hl4,eo4⟩:=I4.lstM ha;obtain⟨u4,rfl,ru4⟩:=bC r4;have hL:({ s3 with heap:=s3.heap.push { cls:=.type "slice",data:=.fields #[.none,.none,.int (-1) t3] } }:Shared).heap.IsList a [u4].toArray:=⟨_,eo4,rfl,_,rfl⟩;show wpAny (model X.prog X.w) X.A (subscriptTail e (.Slice none none (some st) p2) (.ref a) (.ref s3.heap.objs.size)) (EP X pins σ Q) X.xe { s3 with heap:=s3.heap.push { cls:=.type "slice",data:=.fields #[.none,.none,.int (-1) t3] } };refine tail_any (ops:=[.ref a,.ref s3.heap.objs.size]) hL.typeIs slot_list_getitem.lookup ?_ (by with_unfolding_all rfl);refine wpAny_getItem_list_slice hL (Heap.IsSliceOf.new ..) .none .none (.int (-1) t3) (by simp) ?_ (by show 1<=sizeLine;decide);rw[Ad];refine⟨.ref _,_,I4.laid (t':=s3.toks) (o:=.lst [v0]) (fun b ob q=>KB _ q) (KF _) ?_,rfl,q _ (I4.hok.fresh (KF _))⟩;exact⟨by show 1<=sizeLine;decide,[u4],0,.cons ru4 .nil,KI _ rfl⟩
end
end FW
namespace FW
open L2 HX
noncomputable def iG (env:Env):List (Str × NameKind)->List (Str × Addr)->List (Str × Addr)
 | [],cs=>cs
 | (x,k)::r,cs=>iG env r (if k == .free then (x,(env.cells.lookup x).getD 0)::cs else cs)
theorem uw {scope:Scope}{env:Env}(h:∀y∈scope.names,y.2=.free->∃c,env.cells.lookup y.1=some c):closureFor scope env=pure (iG env scope.names []):=by
 have key:∀(names:List (Str × NameKind)) (cs:List (Str × Addr)),(∀y∈names,y.2=.free->∃c,env.cells.lookup y.1=some c) ->
   (forIn names cs fun (x:Str × NameKind) (r:List (Str × Addr))=>(match x with
    | (name,kind)=>if (kind == NameKind.free)=true then (do let a <-cellOf env name;pure (ForInStep.yield ((name,a)::r)):Sem _) else pure (ForInStep.yield r)))=(pure (iG env names cs):Sem _):=by
  intro names
  induction names with
  | nil=>intro cs _;rfl
  | cons y r ih =>
   intro cs hy;obtain⟨x,k⟩:=y;rw[ML];by_cases hk:k=.free
   ·subst hk;obtain⟨c,e⟩:=hy _ KP rfl;have ec:cellOf env x=pure c:=by unfold cellOf;rw[e]
    simp only[beq_self_eq_true,if_true,ec];show (forIn r ((x,c)::cs) _:Sem _)=_;rw[ih _ fun y h=>hy y (KL _ h)];simp[iG,e]
   ·have hb:(k == NameKind.free)=false:=by simpa using hk
    simp only[hb,Bool.false_eq_true,if_false];show (forIn r cs _:Sem _)=_;rw[ih _ fun y h=>hy y (KL _ h)];simp[iG,hb]
 unfold closureFor;have:=key scope.names [] h;exact LG (fun z=>z >>= fun r=>pure r) this
theorem gD {env:Env}:∀ {names:List (Str × NameKind)}{cs:List (Str × Addr)}{x:Str}{c:Addr},(∀y∈names,y.2=.free->∃c,env.cells.lookup y.1=some c)->(∀x c,cs.lookup x=some c->env.cells.lookup x=some c) ->
  (iG env names cs).lookup x=some c->env.cells.lookup x=some c
 | [],cs,x,c,_,h,e=>h x c e
 | (y,k)::r,cs,x,c,hn,h,e=>by
  unfold iG at e;refine gD (fun z hz=>hn z (KL _ hz)) ?_ e;intro z d ez;by_cases hk:k=.free
  ·subst hk;obtain⟨c',ec⟩:=hn _ KP rfl;simp only[beq_self_eq_true,if_true,List.lookup_cons] at ez;by_cases q:z=y
   ·subst q;simp[ec] at ez;rw[ec,ez]
   ·have:(z == y)=false:=by simpa using q
    rw[this] at ez;exact h z d ez
  ·have hb:(k == NameKind.free)=false:=by simpa using hk
   rw[hb] at ez;exact h z d ez
theorem pA:∀ {names:List (Str × NameKind)}{cs:List (Str × Addr)}{x:Str},(∃c,cs.lookup x=some c)->∃c,(iG env names cs).lookup x=some c
 | [],cs,x,h=>h
 | (y,k)::r,cs,x,h=>by
  unfold iG;refine pA ?_;by_cases hk:k=.free
  ·subst hk;simp only[beq_self_eq_true,if_true,List.lookup_cons];by_cases q:x=y
   ·subst q;simp
   ·have:(x == y)=false:=by simpa using q
    rw[this];exact h
  ·have hb:(k == NameKind.free)=false:=by simpa using hk
   rw[hb];exact h
theorem mK:∀ {names:List (Str × NameKind)}{cs:List (Str × Addr)}{x:Str},(x,NameKind.free)∈names->∃c,(iG env names cs).lookup x=some c
 | [],cs,x,h=>nomatch h
 | (y,k)::r,cs,x,h=>by
  unfold iG;rcases LC.mp h with e|h
  ·cases e;exact pA (by simp)
  ·exact mK h
def PTs (X:Cx)(xs:List Expr)(t:TT):Prop :=
 ∀(pins:List (Addr × Obj)) (s:Shared) (σ:L2.St) (H:Hp) (Q:Bool->Hp->Prop),L2.Inv X pins σ H s->t σ H Q ->
  wpAny (model X.prog X.w) X.A (forIn xs true fun c r=>if r=true then do let ok <-isTrue c X.env (eval c X.env);pure (ForInStep.yield ok) else pure (ForInStep.yield r)) (TP X pins σ Q) X.xe s
theorem ku:∀xs:List Expr,(forIn xs false fun c r=>if r=true then do let ok <-isTrue c env (eval c env);pure (ForInStep.yield ok) else pure (ForInStep.yield r):Sem Bool)=pure false
 | []=>rfl
 | x::xs=>by rw[ML];simp only[Bool.false_eq_true,if_false];exact ku xs
theorem wJ:PTs X [] (fun σ H Q=>Q true H):=fun pins s σ H Q I h=>KC ⟨H,I,h⟩
theorem rY (h1:PT X x t)(h2:PTs X xs u):PTs X (x::xs) (ID t u):=by
 intro pins s σ H Q I h;rw[ML];simp only[if_true];refine KA (KA (thn (h1 pins s σ H _ I h) fun b s1 ⟨H1,I1,q1⟩=>?_));refine KC ?_;cases b with
 | true =>rw[KZ rfl] at q1;exact h2 pins s1 σ H1 Q I1 q1
 | false =>rw[KS KD] at q1;show wpAny _ _ (forIn xs false _) _ _ _;rw[ku];exact KC ⟨H1,I1,q1⟩
theorem pP {R:Result->Shared->Prop}{s:Shared}{acc:Value}(I:Nat->Shared->Prop)(turn:∀n s,I n s->wpAny (model prog w) A (pyNext it) (fun r s₁=>match r with
   | none=>R (.ok .next) s₁
   | some v=>wpAny (model prog w) A (letOwnedTupleGo target it v) (fun _ s0=>wpAny (model prog w) A (assign target env v) (fun _ s₂ =>
     wpAny (model prog w) A (forIn ifs true fun c r=>if r=true then do let ok <-isTrue c env (eval c env);pure (ForInStep.yield ok) else pure (ForInStep.yield r)) (fun ok s₃ =>
      if ok=true then wpAny (model prog w) A (eval elt env) (fun x s₄ =>
       wpAny (model prog w) A (call (.builtin "list.append") [acc,x]) (fun _ s₅=>∃m,m<n/\I m s₅) (fun _ _=>False) s₄) (fun _ _=>False) s₃
      else ∃m,m<n/\I m s₃) (fun _ _=>False) s₂) (fun _ _=>False) s0) (fun _ _=>False) s₁) (fun _ _=>False) s)(n:Nat)(h:I n s):codeAny (model prog w) A (.compLoop (.ListComp elt [⟨target,iter,ifs,0⟩] scope pos) 0 it acc env) R s:=by
 refine codeAny_loop rfl I (fun n s hI=>?_) n h;show wpAny _ A ((compTurn (.ListComp elt [⟨target,iter,ifs,0⟩] scope pos) 0 it acc env).onRaise (fun x=>do noteFrame x env;theTreesLotGoes x)) _ _ s;refine wpAny_noted ?_;rw[compTurn_list];refine KA (wpAny_standAt (KA (wpAny_mono (turn n s hI) (fun r s₁ h₁=>?_) fun _ _ h'=>h'.elim)));cases r with
 | none=>exact KC h₁
 | some v =>
  refine KA (wpAny_mono h₁ (fun _ s0 h₁=>?_) fun _ _ h'=>h'.elim);refine KA (wpAny_mono h₁ (fun _ s₂ h₂=>KA (wpAny_mono h₂ (fun ok s₃ h₃=>?_) fun _ _ h'=>h'.elim)) fun _ _ h'=>h'.elim);cases ok with
  | false=>exact KC ⟨rfl,h₃⟩
  | true =>exact KA (KA (wpAny_mono h₃ (fun x s₄ h₄=>KA (wpAny_mono h₄ (fun _ s₅ h₅=>KC (KC ⟨rfl,h₅⟩)) fun _ _ h'=>h'.elim)) fun _ _ h'=>h'.elim))
noncomputable def cxC (X:Cx)(N:List Str)(s2:Shared)(H2:Hp)(fp:List Addr)(scope:Scope)(C:Addr):Cx :=
 { X with N:=N,s₀:=s2,H₀:=H2,env:=compEnvC scope (iG X.env scope.names []) C X.env,outer:=X.stack,stack:=X.stack,ex:=fp,fn:=fun _=>false,pn:=[],xe:=fun _ _=>False }
structure CScope (X:Cx)(scope:Scope):Prop where
 kind:scope.kind=.function
 nocell:∀y∈scope.names,y.2≠.cell
 nms:∀y∈scope.names,y.2=.local->scope.names.lookup y.1=some .local
 free:∀y∈scope.names,y.2=.free->X.env.kindOf y.1=some .cell\/X.env.kindOf y.1=some .free
theorem j9 (h:(relabel scope env).names.lookup x=some k)(hk:k=.cell\/k=.free)(nc:∀y∈scope.names,y.2≠.cell):(x,NameKind.free)∈scope.names:=by
 have hm:=L5 h;unfold relabel at hm;obtain⟨⟨n,k0⟩,hy,e⟩:=K0.mp hm;simp only at e;split at e
 ·rename_i hc;cases e;simp only[Bool.and_eq_true,beq_iff_eq] at hc;have:k0=.free:=hc.1.1;subst this;exact hy
 ·cases e;rcases hk with rfl|rfl
  ·exact absurd rfl (nc _ hy)
  ·exact hy
theorem jq {env:Env}:∀ {names:List (Str × NameKind)}{x:Str},names.lookup x=some .globalImplicit ->
  (names.map fun (n,k)=>if (k == NameKind.free && env.scope.kind == .function && env.kindOf n == some .cell) then (n,NameKind.cell) else (n,k)).lookup x=some .globalImplicit
 | [],_,h=>by simp at h
 | (n,k)::r,x,h=>by
  have ih:=@jq env r x;show List.lookup x ((if (k == NameKind.free && env.scope.kind == .function && env.kindOf n == some .cell)=true then (n,NameKind.cell) else (n,k))::_)=_;cases hx:x == n with
  | true =>simp only[List.lookup_cons,hx] at h;cases h;simp[List.lookup_cons,hx]
  | false =>
   simp only[List.lookup_cons,hx] at h;by_cases hc:(k == NameKind.free && env.scope.kind == .function && env.kindOf n == some .cell)=true
   ·rw[KZ hc];simp only[List.lookup_cons,hx];exact ih h
   ·rw[KS hc];simp only[List.lookup_cons,hx];exact ih h
theorem dz {env:Env}:∀ {names:List (Str × NameKind)}{x:Str},names.lookup x=some .free ->
  (names.map fun (n,k)=>if (k == NameKind.free && env.scope.kind == .function && env.kindOf n == some .cell) then (n,NameKind.cell) else (n,k)).lookup x=some .cell \/
  (names.map fun (n,k)=>if (k == NameKind.free && env.scope.kind == .function && env.kindOf n == some .cell) then (n,NameKind.cell) else (n,k)).lookup x=some .free
 | [],_,h=>by simp at h
 | (n,k)::r,x,h=>by
  have ih:=@dz env r x;show List.lookup x ((if (k == NameKind.free && env.scope.kind == .function && env.kindOf n == some .cell)=true then (n,NameKind.cell) else (n,k))::_)=_\/List.lookup x ((if (k == NameKind.free && env.scope.kind == .function && env.kindOf n == some .cell)=true then (n,NameKind.cell) else (n,k))::_)=_;cases hx:x == n with
  | true =>
   simp only[List.lookup_cons,hx] at h;cases h;by_cases hc:(NameKind.free == NameKind.free && env.scope.kind == .function && env.kindOf n == some .cell)=true
   ·rw[KZ hc];simp[List.lookup_cons,hx]
   ·rw[KS hc];simp[List.lookup_cons,hx]
  | false =>
   simp only[List.lookup_cons,hx] at h;by_cases hc:(k == NameKind.free && env.scope.kind == .function && env.kindOf n == some .cell)=true
   ·rw[KZ hc];simp only[List.lookup_cons,hx];exact ih h
   ·rw[KS hc];simp only[List.lookup_cons,hx];exact ih h
section
variable {X:Cx}{pins:List (Addr × Obj)}{σ:L2.St}{H2:Hp}{s2:Shared}{fp:List Addr}{scope:Scope}{C:Addr}{N:List Str}
theorem CScope.cells (S:CScope X scope)(I:L2.Inv X pins σ H2 s2):∀y∈scope.names,y.2=.free->∃c,X.env.cells.lookup y.1=some c:=fun y hy hf=>I.ok.has y.1 (S.free y hy hf)
theorem GD (S:CScope X scope)(I:L2.Inv X pins σ H2 s2)(f2:∀b∈fp,FpOk X pins H2 b)(fl:∀b∈fp,b<s2.heap.objs.size)(hC:s2.heap.objs.size<=C):(cxC X N s2 H2 fp scope C).Ok where
 mod:=I.ok.mod
 kind:=S.kind
 glob:=I.ok.glob
 blt:=I.ok.blt
 above:=hC
 inj:=fun x y c h1 h2=>I.ok.inj x y c (gD (S.cells I) (fun _ _ z=>by simp at z) h1) (gD (S.cells I) (fun _ _ z=>by simp at z) h2)
 has:=fun x hx=>by
  refine mK (x:=x) ?_;rcases hx with h|h
  ·exact j9 h (.inl rfl) S.nocell
  ·exact j9 h (.inr rfl) S.nocell
 cab:=fun x c h=>by cases h
 hd:=I.ok.hd
 frames:=I.ok.frames
 stk:=.inl rfl
 exf:=fun b hb=>⟨K6 (KY (fl b hb) hC),fun x c h=>(f2 b hb).2.2.2.2.1 x c (gD (S.cells I) (fun _ _ z=>by simp at z) h)⟩
 bs:=I.bs
 bsz:=K_ I.ok.bsz I.sz
 noex:=fun b o e hb=>by
  rcases (f2 b hb).2.2.2.1 with z|z
  ·exact I.ok.noex b o e z
  ·have:=KO e;exact absurd (KY (KY this I.ok.bsz) z) (MA _)
 exfs:=fun b hb hf=>by
  rcases LC.mp (I.stkSub b hf) with z|z
  ·exact(f2 b hb).2.1 z
  ·exact(f2 b hb).2.2.1 z
 funs:=I.stack
 frf:=I.stkFree
theorem yQ {tk:Nat}{nt:List Str}{cn:List Str}{caps:List Nat}(S:CScope X scope)(I:L2.Inv X pins σ H2 s2)(f2:∀b∈fp,FpOk X pins H2 b)(fl:∀b∈fp,b<s2.heap.objs.size)(hC:s2.heap.objs.size<=C)(un:Un (frs X.stack) fp H2 H3 s2.heap h1)(hok:HOk X.prog X.w H3 h1)(ns:h1.Ns C (fun _=>none))(hn:H3 C=none)(keep:∀b o,s2.heap.get? b=some o->h1.get? b=some o)(free:∀b o,s2.heap.get? b=some o->H2 b=none->H3 b=none)(hcn:cn=caps.filterMap (X.N[·]?))(hcl:∀i∈caps,i<X.N.length)(hcf:∀x∈cn,scope.names.lookup x=some .free)(hce:∀x∈cn,X.env.kindOf x=some .cell\/X.env.kindOf x=some .free) :
  L2.Inv (cxC X (nt++cn) s2 H2 fp scope C) [] (nt.map (fun _=>none)++caps.map fun i=>(σ[i]?).join) H3 { s2 with heap:=h1,toks:=tk }:=by
 have cel:∀x c,(iG X.env scope.names []).lookup x=some c->X.env.cells.lookup x=some c:=fun x c h=>gD (S.cells I) (fun _ _ z=>by simp at z) h;have lenc:cn.length=caps.length:=by
  rw[hcn];clear hcf hce hcn
  induction caps with
  | nil=>rfl
  | cons i r ih =>have:X.N[i]?=some (X.N[i]'(hcl i KP)):=KU (hcl i KP);rw[LX,this];simp only[List.length_cons];rw[ih fun j hj=>hcl j (KL _ hj)]
 have getc:∀(j i:Nat),caps[j]?=some i->∃x,cn[j]?=some x/\X.N[i]?=some x:=by
  rw[hcn];clear hcf hce hcn lenc
  induction caps with
  | nil=>intro j i h;simp at h
  | cons k r ih =>
   intro j i h;have hk:X.N[k]?=some (X.N[k]'(hcl k KP)):=KU (hcl k KP);rw[LX,hk];cases j with
   | zero=>simp at h;subst h;exact⟨_,rfl,hk⟩
   | succ j=>exact ih (fun j hj=>hcl j (KL _ hj)) j i (by simpa using h)
 refine⟨GD S I f2 fl hC,rfl,I.bare,un,⟨_,ns,fun i x v e1 e2 e3=>?_⟩,fun x c e=>?_,hn,fun x c e=>?_,fun p hp=>absurd (show p∈([]:List (Addr × Obj)) from hp) (by simp),hok,?_⟩
 ·by_cases hi:i<nt.length
  ·rw[K3 (by simpa using hi),KM] at e2;cases q:nt[i]? with
   | none=>rw[q] at e2;cases e2
   | some z=>rw[q] at e2;cases e2
  ·rw[K8 (by simpa using hi),KH,KM] at e2;have e1':(nt++cn)[i]?=some x:=e1;rw[K8 (by omega)] at e1';cases q:caps[i-nt.length]? with
   | none=>rw[q] at e2;cases e2
   | some j =>
    rw[q] at e2;have e2':(σ[j]?).join=some v:=LL e2;obtain⟨y,g1,g2⟩:=getc _ _ q;rw[e1'] at g1;cases g1;have e4:σ[j]?=some (some v):=by
     cases z:σ[j]? with
     | none=>rw[z] at e2';cases e2'
     | some w=>rw[z] at e2';rw[show w=some v from e2']
    obtain⟨m,hm,hl⟩:=I.loc;have kx:=hce x (KJ e1');obtain⟨u,ru,lk⟩:=hl j x v g2 e4 (.inr (by rcases kx with k|k;exact .inl k;exact .inr k));refine⟨u,ru,.inr ⟨dz (hcf x (KJ e1')),?_⟩⟩;rcases lk with⟨k,_⟩|⟨_,c,ec,hc⟩
    ·rcases kx with k' | k' <;> rw[k] at k' <;> cases k'
    ·obtain⟨c',ec'⟩:=mK (env:=X.env) (names:=scope.names) (cs:=[]) (x:=x) (L5 (hcf x (KJ e1')));have:=cel x c' ec';rw[ec] at this;cases this;obtain⟨o,ho,hd⟩:=hc;exact⟨c,ec',o,keep _ _ ho,hd⟩
 ·obtain⟨v,o,ho,hd⟩:=I.cell x c (cel x c e);exact⟨v,o,keep _ _ ho,hd⟩
 ·obtain⟨v,o,ho,hd⟩:=I.cell x c (cel x c e);exact free c o ho (I.freeC x c (cel x c e))
 ·show (nt.map (fun _=>(none:Option V))++caps.map fun i=>(σ[i]?).join).length=(nt++cn).length;simp[lenc]
end
end FW
namespace FW
open L2 HX
section
variable {Γ:Nat->FSp}
mutual
theorem n_ (G:bc Γ):∀(t:Tg) {v:PV}{ρ:Fr}{st:AH}{Q:Fr->AH->Prop},t.low n=true->bD Γ t v ρ st Q->bD Γ t v ρ st fun ρ' st'=>Q ρ' st'/\∀i,n<=i->ρ'[i]?=ρ[i]?
 | .name i,v,ρ,st,Q,h,q=>by
  skip
  rw[Tg.low] at h;have:=MM h;exact⟨q,fun j hj=>K5 (by omega)⟩
 | .tup ts,v,ρ,st,Q,h,q=>by
  skip
  rw[Tg.low] at h;obtain⟨xs,e,hl,q⟩:=q;exact⟨xs,e,hl,mx G ts h q⟩
 | .ltup ts,v,ρ,st,Q,h,q=>False.elim q
 | .sub _ _,v,ρ,st,Q,h,q=>by rw[Tg.low] at h;cases h
theorem mx (G:bc Γ):∀(t:Tgs) {v:List PV}{ρ:Fr}{st:AH}{Q:Fr->AH->Prop},t.low n=true->gK Γ t v ρ st Q->gK Γ t v ρ st fun ρ' st'=>Q ρ' st'/\∀i,n<=i->ρ'[i]?=ρ[i]?
 | .nil,v,ρ,st,Q,h,q=>by exact⟨q.1,q.2,fun _ _=>rfl⟩
 | .cons t ts,v,ρ,st,Q,h,q=>by
  skip
  rw[Tgs.low,KW] at h;obtain⟨x,r,e,q⟩:=q;refine⟨x,r,e,aO G t (fun ρ1 st1 k=>?_) (n_ G t h.1 q)⟩;refine fP G ts (fun ρ2 st2 k2=>⟨k2.1,fun i hi=>(k2.2 i hi).trans (k.2 i hi)⟩) (mx G ts h.2 k.1)
end
end
mutual
theorem R.mono0 (ht:∀a ys,SqT K H a ys->SqT K H' a ys)(hr:∀a ys,RdF K H a ys->RdF K H' a ys):∀ {p:PV}{v:V},R K m H p v->R K m H' p v
 | .non,v,h=>by rw[R_non] at h |-;exact h
 | .bl b,v,h=>by rw[R_bl] at h |-;exact h
 | .int b,v,h=>by rw[R_int] at h |-;exact h
 | .str b,v,h=>by rw[R_str] at h |-;exact h
 | .ref n,v,h=>by rw[R_ref] at h |-;exact h
 | .tup xs,v,h=>by rw[R_tup] at h |-;obtain⟨a,ys,e,q,r⟩:=h;exact⟨a,ys,e,ht _ _ q,Rs.mono0 ht hr r⟩
 | .rdl xs,v,h=>by rw[eD] at h |-;obtain⟨a,ys,e,q,r⟩:=h;exact⟨a,ys,e,hr _ _ q,Rs.mono0 ht hr r⟩
 | .fn a,v,h=>by rw[xQ] at h |-;exact h
theorem Rs.mono0 (ht:∀a ys,SqT K H a ys->SqT K H' a ys)(hr:∀a ys,RdF K H a ys->RdF K H' a ys):∀ {ps:List PV}{vs:List V},Rs K m H ps vs->Rs K m H' ps vs
 | [],vs,h=>by rw[Rs_nil] at h |-;exact h
 | p::ps,vs,h=>by
  rw[Rs_cons] at h |-
  obtain⟨y,r,e,h1,h2⟩:=h;exact⟨y,r,e,R.mono0 ht hr h1,Rs.mono0 ht hr h2⟩
end
theorem eG {H:Hp}{D:Addr}(hD:H D=some (.lst ys)):∀a us,SqT K H a us->SqT K (upd H D (.lst zs)) a us:=fun a us q=>by
 rcases q with (q|⟨w,q⟩)|q
 ·exact .inl (.inl (by rw[af (fun z=>by subst z;rw[hD] at q;cases q)];exact q))
 ·exact .inl (.inr ⟨w,by rw[af (fun z=>by subst z;rw[hD] at q;cases q)];exact q⟩)
 ·exact .inr q
theorem eQ {H:Hp}{D:Addr}(hD:H D=some (.lst ys)):∀a us,RdF K H a us->RdF K (upd H D (.lst zs)) a us:=fun a us q=>by
 rcases q with⟨w,q⟩|q
 ·exact .inl ⟨w,by rw[af (fun z=>by subst z;rw[hD] at q;cases q)];exact q⟩
 ·exact .inr q
theorem TB.away {D:Addr}(t:TB K H)(hD:H D=some (.lst ys)):TB K (upd H D (.lst zs)) :=
 t.keep (fun a ps q=>by rw[af (fun z=>by subst z;rw[hD] at q;cases q)];exact q) fun a o q=>by rw[af (fun z=>by subst z;rw[hD] at q;cases q)];exact q
theorem Ext.away {D:Addr}(x:Ext K m H m' H')(h0:H D=none)(hD:H' D=some (.lst ys)):Ext K m H m' (upd H' D (.lst zs)) :=
 ⟨x.pre,x.new,fun a o ha e n=>by rw[af (ar e h0)];exact x.fr a o ha e n,fun a us q=>eG hD a us (x.tup a us q),fun a us q=>eQ hD a us (x.rdf a us q),fun a ps ha e=>let ⟨p1,e1⟩:=x.tbs a ps ha e;⟨p1,by rw[af (ar e h0)];exact e1⟩,fun t=>(x.tb t).away hD,fun a o u e=>by rw[af (ar e h0)];exact x.frz a o u e⟩
theorem RH.away {D:Addr}(h:RH K m H st)(hm:D ∉ m)(hD:H D=some (.lst ys)):RH K m (upd H D (.lst zs)) st:=by
 refine⟨h.len,h.nd,fun n c a h1 h2=>?_,h.tb.away hD⟩;have ha:a≠D:=fun z=>hm (z ▸ KJ h2);have hc:=h.at_ n c a h1 h2;cases c with
 | lst xs=>obtain⟨us,g1,g2⟩:=hc;exact⟨us,by rw[af ha];exact g1,g2.mono0 (eG hD) (eQ hD)⟩
 | dk kvs=>obtain⟨us,g1,g2,g3⟩:=hc;exact⟨us,by rw[af ha];exact g1,g2,g3.mono0 (eG hD) (eQ hD)⟩
 | fz kvs=>obtain⟨o,us,g1,g2,g3⟩:=hc;exact⟨o,us,by rw[af ha];exact g1,g2,g3.mono0 (eG hD) (eQ hD)⟩
 | od kvs=>obtain⟨o,us,ws,g1,g2,g3,g4⟩:=hc;exact⟨o,us,ws,by rw[af ha];exact g1,g2,g3.mono0 (eG hD) (eQ hD),g4.mono0 (eG hD) (eQ hD)⟩
theorem RF.away {D:Addr}(h:RF K m H ρ σ)(hD:H D=some (.lst ys)):RF K m (upd H D (.lst zs)) ρ σ :=
 ⟨h.len,fun i v e=>let ⟨y,e1,r⟩:=h.at_ i v e;⟨y,e1,r.mono0 (eG hD) (eQ hD)⟩⟩
theorem RF.less {ρ:Fr}{n:Nat}(h:RF K m H ρ' σ)(hl:ρ.length=ρ'.length)(hn:∀i v,ρ[i]?=some (some v)->n<=i)(hp:∀i,n<=i->ρ'[i]?=ρ[i]?):RF K m H ρ σ :=
 ⟨hl.trans h.len,fun i v e=>h.at_ i v (by rw[hp i (hn i v e)];exact e)⟩
theorem oU {nt:List Str}{f:Nat->Option PV}{caps:List Nat}:∀(i:Nat) (v:PV),(nt.map (fun _=>(none:Option PV))++caps.map f)[i]?=some (some v)->nt.length<=i:=fun i v e=>by
 by_cases hi:i<nt.length
 ·rw[K3 (by simpa using hi),KM] at e;cases q:nt[i]? with
  | none=>rw[q] at e;cases e
  | some z=>rw[q] at e;cases e
 ·omega
theorem B3 {nt:List Str}{caps:List Nat}(h:RF K m H ρ σ) :
  RF K m H (nt.map (fun _=>none)++caps.map fun i=>(ρ[i]?).join) (nt.map (fun _=>none)++caps.map fun i=>(σ[i]?).join):=by
 refine⟨by simp,fun i v e=>?_⟩;have hi:=oU i v e;rw[K8 (by simpa using hi),KH,KM] at e;rw[K8 (by simpa using hi),KH,KM];cases q:caps[i-nt.length]? with
 | none=>rw[q] at e;cases e
 | some j =>
  rw[q] at e;have e':(ρ[j]?).join=some v:=LL e;have e4:ρ[j]?=some (some v):=by
   cases z:ρ[j]? with
   | none=>rw[z] at e';cases e'
   | some w=>rw[z] at e';rw[show w=some v from e']
  obtain⟨y,e5,r⟩:=h.at_ j v e4;exact⟨y,by show some ((σ[j]?).join)=_;rw[e5];rfl,r⟩
section
variable {X:Cx}{Γ:Nat->FSp}{pins:List (Addr × Obj)}{σ:L2.St}{H:Hp}{s:Shared}
noncomputable def cK (K:W.Frag)(m1:List Addr)(H1:Hp)(Fin:Addr->Hp->Prop):LK:=fun vs st2=>∀m2 H2 D ys,Ext K m1 H1 m2 H2->RH K m2 H2 st2->D ∉ m2->H1 D=none->H2 D=some (.lst ys)->Rs K m2 H2 vs ys->Fin D H2
noncomputable def dq (Γ:Nat->FSp)(elt:E)(tg:Tg)(ifs:Es)(ρ:Fr):PV->AH->(Option PV->AH->Prop)->Prop:=fun x st2 k=>bD Γ tg x ρ st2 fun ρ' st3=>fG Γ ifs ρ' st3 fun c st4=>if c=true then wpE Γ elt ρ' st4 fun v st5=>k (some v) st5 else k none st4
theorem j0 (G:bc Γ)(hcalm:X.calm=true){tg:Tg}{nt:List Str}{caps:List Nat}{cn:List Str}{Fin:Addr->Hp->Prop}(S:CScope X scope)(hcn:cn=caps.filterMap (X.N[·]?))(hcl:∀i∈caps,i<X.N.length)(hcf:∀x∈cn,scope.names.lookup x=some .free)(hce:∀x∈cn,X.env.kindOf x=some .cell\/X.env.kindOf x=some .free)(hset:gB iterx=true)(hlow:tg.low nt.length=true)(hI:PI X tgx iterx wi)(hG:∀s2 H2 fp C,PG (cxC X (nt++cn) s2 H2 fp scope C) tgx (TGx X.K (bD Γ tg)))(hT:∀s2 H2 fp C,PTs (cxC X (nt++cn) s2 H2 fp scope C) ifsx (TTx X.K (fG Γ ifs)))(hE:∀s2 H2 fp C,PE (cxC X (nt++cn) s2 H2 fp scope C) eltx (TEx X.K (wpE Γ elt)))(I:L2.Inv X pins σ H s)(h:wi σ H fun J H1=>∃m ρ st1 xs chk,RF X.K m H1 ρ σ/\RH X.K m H1 st1/\kX X.K J xs chk m H1/\xs.length<100000/\cA chk (dq Γ elt tg ifs (nt.map (fun _=>none)++caps.map fun i=>(ρ[i]?).join)) xs [] st1 (cK X.K m H1 Fin))(fin:∀C D H' s' m',L2.Inv X pins σ H' s'->s'.heap.Ns C m'->FpOk X pins H' C->Fin D H'->compPost (model X.prog X.w) X.A X.xe use Qf (.ref D) C (.ok .next) s') :
  wpAny (model X.prog X.w) X.A (comprehension (.ListComp eltx [⟨tgx,iterx,ifsx,0⟩] scope pos) scope X.env p0 (newList []) false (eval iterx X.env) use) Qf X.xe s:=by
 refine wpAny_comprehension_free (use:=use) rfl (lO hset) (uw (S.cells I)) S.kind S.nms ?_;refine thn (hI pins s σ H _ I h) fun v s1 h1=>thn h1 fun itv s2 h2=>?_;obtain⟨it,fp,tn,J,H2,e,I2,T,st2,f2,m,ρ,st1,xs,chk,rf,rh,W,hxs,w⟩:=h2;subst e;have fl:∀b∈fp,b<s2.heap.objs.size:=fun b hb=>by obtain⟨o,e,_⟩:=T.obj 0 _ st2 b hb;exact KO e
 refine wpAny_newObj_type (wpAny_newFunctionEnv S.nocell (by intro y hy;simp at hy) (fun h₁ hns₁ hsb₁=>?_) S.kind);dsimp only at hns₁ hsb₁ |-
 generalize hD:s2.heap.objs.size=D at *;generalize hH3:s2.heap.push { cls:=.type "list",dict:=none,data:=.seq ([]:List Value).toArray }=P3 at hns₁ hsb₁ |-
 generalize hCC:P3.objs.size=C at *;have hC1:C=D+1:=by rw[<-hCC,<-hH3,MV,hD]
 have ltDC:D<C:=by rw[hC1];exact OA D
 have neC:∀b,b<D->b≠C:=fun b hb=>K6 (NH hb ltDC);have hDn:H2 D=none:=by rw[<-hD];exact I2.hok.fresh (KF _)
 have hCn:H2 C=none:=I2.hok.fresh (by rw[hD];exact LY ltDC);have old3:∀b o,s2.heap.get? b=some o->P3.get? b=some o:=fun b o e=>hH3 ▸ KB _ e;have old:∀b o,s2.heap.get? b=some o->h₁.get? b=some o:=fun b o e=>hsb₁.extBut b o (neC b (hD ▸ KO e)) (KB _ (old3 b o e));have newD:h₁.get? D=some { cls:=.type "list",data:=.seq #[] }:=hsb₁.extBut _ _ (K6 ltDC) (KB _ (by rw [<-hH3,<-hD];exact KI _ rfl));have un:Un (frs X.stack) fp H2 (upd H2 D (.lst [])) s2.heap h₁:=Un.laid old (by rw[hD];exact KF _) hDn;have hok:HOk X.prog X.w (upd H2 D (.lst [])) h₁:=I2.hok.laid old (by rw[hD];exact KF _) ⟨LU _,[],0,.nil,newD⟩;have I4:=yQ (nt:=nt) (tk:=s2.toks+([]:List (Str × Value)).length) S I2 f2 (by rw[hD];exact fl) (C:=C) (by rw[hD];exact LY ltDC) un hok (by simpa using hns₁) (by rw[af (ME ltDC)];exact hCn) old
  (fun b o e n=>by rw[af (K6 (hD ▸ KO e))];exact n) hcn hcl hcf hce
 generalize hρ0:(nt.map (fun _=>none)++caps.map fun i=>(ρ[i]?).join:Fr)=ρ0 at w;have hρn:∀i v,ρ0[i]?=some (some v)->nt.length<=i:=by rw[<-hρ0];exact oU
 have rf0:RF X.K m H2 ρ0 (nt.map (fun _=>none)++caps.map fun i=>(σ[i]?).join):=by rw[<-hρ0];exact B3 rf
 generalize (nt.map (fun _=>none)++caps.map fun i=>(σ[i]?).join:L2.St)=σ0 at I4 rf0;have loop:codeAny (model X.prog X.w) X.A (.compLoop (.ListComp eltx [⟨tgx,iterx,ifsx,0⟩] scope pos) 0 (.ref it) (.ref D) (compEnvC scope (iG X.env scope.names []) C X.env)) (compPost (model X.prog X.w) X.A X.xe use Qf (.ref D) C)
   { s2 with heap:=h₁,toks:=s2.toks+([]:List (Str × Value)).length }:=by
  refine pP (fun n s'=>∃(i:Nat),∃σ' H' m' st' acc ys,n+i=xs.length/\L2.Inv (cxC X (nt++cn) s2 H2 fp scope C) [] σ' H' s'/\tn i s'.heap/\(∀b∈fp,H' b=none)/\Ext X.K m H2 m' H'/\RH X.K m' H' st'/\RF X.K m' H' ρ0 σ'/\D ∉ m'/\H' D=some (.lst ys)/\Rs X.K m' H' acc ys/\ys.length<=i /\
   cA chk (dq Γ elt tg ifs ρ0) (xs.drop i) acc st' (cK X.K m H2 Fin)) ?_ xs.length
   ⟨0,σ0,_,m,st1,[],[],rfl,I4,T.keep 0 _ _ st2 (fun b _ o e=>old b o e),fun b hb=>by rw[af (K6 (fl b hb))];exact(f2 b hb).1,Ext.newT rh hDn,rh.newT hDn,rf0.mono (Ext.newT rh hDn),rh.fresh hDn,ax,Rs_nil.mpr rfl,KF _,by simpa using w⟩
  rintro n s' ⟨i,σ',H',m',st',acc,ys,hn,I',tni,fpn,x',rh',rf',Dm,hDl,rys,hly,k⟩;have stat:∀ {H'':Hp},(∀b∈fp,H'' b=none)->∀b∈fp,FpOk (cxC X (nt++cn) s2 H2 fp scope C) [] H'' b:=fun hz b hb=>⟨hz b hb,(I'.ok.exf b hb).1,I'.ok.exfs b hb,.inl hb,(I'.ok.exf b hb).2,fun p hp=>absurd (show p∈([]:List (Addr × Obj)) from hp) (by simp)⟩;cases q:xs.drop i with
  | nil =>
   rw[q] at k;have hi:i=xs.length:=by have:=LG List.length q;simp at this;omega
   subst hi;refine thn (T.done (cxC X (nt++cn) s2 H2 fp scope C) rfl rfl rfl hcalm _ [] s' σ' H' (fun _ _=>False) I' (stat fpn) tni (W.stop m' H' st' x' rh' k.1)) fun r s1 ⟨hr,I1⟩=>?_;subst hr;have IX:L2.Inv X pins σ H' s1:=I2.call' I1.os I1.base I1.hok I1.bare fun b hb=>⟨(f2 b hb).2.2.2.1,(f2 b hb).2.1,(f2 b hb).2.2.2.2.1,(f2 b hb).2.2.2.2.2⟩;obtain⟨mm,hns,_⟩:=I1.loc;exact fin C D H' s1 mm IX hns (I2.fpOk (by rw[hD];exact LY ltDC) I1.free) (k.2 m' H' D ys x' rh' Dm hDn hDl rys)
  | cons v rest =>
   rw[q] at k;have hi:i<xs.length:=by have:=LG List.length q;simp at this;omega
   have ev:xs[i]?=some v:=by have:=LG List.head? q;rw[ON] at this;exact this
   have er:rest=xs.drop (i+1):=by have:=LG List.tail q;rw[OT] at this;exact this.symm
   subst er;obtain⟨kc,k⟩:=k;obtain⟨go,yl⟩:=W.item i v m' H' st' x' rh' kc ev;refine thn (T.item (cxC X (nt++cn) s2 H2 fp scope C) rfl rfl rfl hcalm i [] s' σ' H' (fun _ _=>False) I' (stat fpn) tni go) fun r s4 ⟨u,hr,h4⟩=>?_;subst hr;refine thn h4 fun _ s5 ⟨x,H5,I5,r5,y5,tn5,fr5⟩=>?_;obtain⟨x5,rh5,rv5⟩:=yl x H5 y5;have I5':=I5.pinned (stat fr5) (T.obj _ _ tn5);have again:∀ {σ7:L2.St}{H7:Hp}{s7:Shared}{m7:List Addr}{st7:AH}{acc7:List PV}{ys7:List V},L2.Inv (cxC X (nt++cn) s2 H2 fp scope C) ([]++lC fp s5.heap) σ7 H7 s7->Ext X.K m H2 m7 H7->RH X.K m7 H7 st7->RF X.K m7 H7 ρ0 σ7->D ∉ m7->H7 D=some (.lst ys7) ->
     Rs X.K m7 H7 acc7 ys7->ys7.length<=i+1->cA chk (dq Γ elt tg ifs ρ0) (xs.drop (i+1)) acc7 st7 (cK X.K m H2 Fin) ->
     ∃n',n'<n/\∃(i:Nat),∃σ' H' m' st' acc ys,n'+i=xs.length/\L2.Inv (cxC X (nt++cn) s2 H2 fp scope C) [] σ' H' s7/\tn i s7.heap/\(∀b∈fp,H' b=none)/\Ext X.K m H2 m' H'/\RH X.K m' H' st'/\RF X.K m' H' ρ0 σ'/\D ∉ m'/\H' D=some (.lst ys)/\Rs X.K m' H' acc ys/\ys.length<=i /\
      cA chk (dq Γ elt tg ifs ρ0) (xs.drop i) acc st' (cK X.K m H2 Fin):=fun {σ7 H7 s7 m7 st7 acc7 ys7} I7 g1 g2 g3 g4 g5 g6 g7 g8=>by
    refine⟨n-1,by omega,i+1,σ7,H7,m7,st7,acc7,ys7,by omega,I7.unpinned,T.keep _ _ _ tn5 fun b hb o e=>(I7.pin (b,o) (LM _ (LM _ (fD hb e)))).1,fun b hb=>?_,g1,g2,g3,g4,g5,g6,g7,g8⟩;obtain⟨o,e,d⟩:=T.obj _ _ tn5 b hb;exact(I7.pin (b,o) (LM _ (LM _ (fD hb e)))).2.1
   have k2:=n_ (n:=nt.length) G tg hlow k;refine thn (hG s2 H2 fp C _ s5 σ' H5 x u (fun σ6 H6=>∃m6 ρ1 st6,Ext X.K m' H5 m6 H6/\RH X.K m6 H6 st6/\RF X.K m6 H6 ρ1 σ6/\(∀j,nt.length<=j->ρ1[j]?=ρ0[j]?) /\
    fG Γ ifs ρ1 st6 fun c st4=>if c=true then wpE Γ elt ρ1 st4 fun vv st5=>cA chk (dq Γ elt tg ifs ρ0) (xs.drop (i+1)) (acc++[vv]) st5 (cK X.K m H2 Fin) else cA chk (dq Γ elt tg ifs ρ0) (xs.drop (i+1)) acc st4 (cK X.K m H2 Fin)) I5' r5
    ⟨m',ρ0,st',v,rf'.mono x5,rh5,rv5,aO G tg (fun ρ1 st6 z m6 H6 σ6 x6 rh6 rf6=>⟨m6,ρ1,st6,x6,rh6,rf6,z.2,br G ifs (fun c st4 zz=>by
     cases c with
     | true=>rw[KZ rfl] at zz |-;exact zz
     | false=>rw[KS KD] at zz |-;simpa using zz) z.1⟩) k2⟩) fun _ s6 ⟨σ6,H6,I6,m6,ρ1,st6,x6,rh6,rf6,pr,w6⟩=>?_
   have hlen:ρ0.length=ρ1.length:=by rw[rf6.len,I6.len,rf'.len,I'.len]
   refine thn (hT s2 H2 fp C _ s6 σ6 H6 (fun b H7=>∃m7 st7,Ext X.K m6 H6 m7 H7/\RH X.K m7 H7 st7/\if b=true then wpE Γ elt ρ1 st7 fun vv st5=>cA chk (dq Γ elt tg ifs ρ0) (xs.drop (i+1)) (acc++[vv]) st5 (cK X.K m H2 Fin) else cA chk (dq Γ elt tg ifs ρ0) (xs.drop (i+1)) acc st7 (cK X.K m H2 Fin)) I6
    ⟨m6,ρ1,st6,rf6,rh6,br G ifs (fun b st7 z m7 H7 x7 rh7=>⟨m7,st7,x7,rh7,z⟩) w6⟩) fun b s7 ⟨H7,I7,m7,st7,x7,rh7,w7⟩=>?_
   have xx7:Ext X.K m' H' m7 H7:=(x5.trans x6).trans x7;cases b with
   | false =>
    rw[KS KD] at w7 |-
    refine again I7 (x'.trans xx7) rh7 ((rf6.mono x7).less hlen hρn pr) (fun z=>?_) (xx7.fr D _ Dm hDl fun _ z=>nomatch z) (rys.mono xx7) (by omega) w7;rcases xx7.new D z with z|z
    ·exact Dm z
    ·rw[hDl] at z;cases z
   | true =>
    rw[KZ rfl] at w7 |-
    refine thn (hE s2 H2 fp C _ s7 σ6 H7 (fun y H8=>∃m8 st8 vv,Ext X.K m7 H7 m8 H8/\RH X.K m8 H8 st8/\R X.K m8 H8 vv y/\cA chk (dq Γ elt tg ifs ρ0) (xs.drop (i+1)) (acc++[vv]) st8 (cK X.K m H2 Fin)) I7
     ⟨m7,ρ1,st7,rf6.mono x7,rh7,aa G elt (fun vv st8 z m8 H8 y x8 rh8 r8=>⟨m8,st8,vv,x8,rh8,r8,z⟩) w7⟩) fun uy s8 ⟨y,H8,I8,ry,m8,st8,vv,x8,rh8,r8,w8⟩=>?_
    have xx8:Ext X.K m' H' m8 H8:=xx7.trans x8;have hD8:H8 D=some (.lst ys):=xx8.fr D _ Dm hDl fun _ z=>nomatch z;have Dm8:D ∉ m8:=fun z=>by
     rcases xx8.new D z with z|z
     ·exact Dm z
     ·rw[hDl] at z;cases z
    refine thn (oJ (X:=cxC X (nt++cn) s2 H2 fp scope C) _ s8 σ6 H8 (.ref D) [y] (.ref D) [uy] (fun _ H9=>H9=upd H8 D (.lst (ys++[y]))) I8 rfl (.cons ry .nil) ⟨D,ys,y,rfl,rfl,hD8,eS (by omega),rfl⟩) fun _ s9 ⟨_,H9,I9,_,e9⟩=>?_;subst e9;exact again I9 ((x'.trans xx8).away hDn hD8) (rh8.away Dm8 hD8) ((((rf6.mono x7).mono x8).less hlen hρn pr).away hD8) Dm8 ax (((rys.mono xx8).app (.one r8)).mono0 (eG hD8) (eQ hD8)) (by simp;omega) w8
 exact codeAny_compStart_list loop (T.self X.A 0 _ _ _ (T.keep 0 _ _ st2 fun b _ o e=>old b o e) loop)
end
end FW
namespace FW
open L2 HX
mutual
theorem R.pre {m:List Addr}(hp:m <+: m'):∀ {p:PV}{v:V},R K m H p v->R K m' H p v
 | .non,v,h=>by rw[R_non] at h |-;exact h
 | .bl b,v,h=>by rw[R_bl] at h |-;exact h
 | .int b,v,h=>by rw[R_int] at h |-;exact h
 | .str b,v,h=>by rw[R_str] at h |-;exact h
 | .fn b,v,h=>by rw[xQ] at h |-;exact h
 | .ref n,v,h=>by rw[R_ref] at h |-;obtain⟨a,e,q⟩:=h;exact⟨a,eB hp e,q⟩
 | .tup xs,v,h=>by rw[R_tup] at h |-;obtain⟨a,ys,e,q,r⟩:=h;exact⟨a,ys,e,q,Rs.pre hp r⟩
 | .rdl xs,v,h=>by rw[eD] at h |-;obtain⟨a,ys,e,q,r⟩:=h;exact⟨a,ys,e,q,Rs.pre hp r⟩
theorem Rs.pre {m:List Addr}(hp:m <+: m'):∀ {ps:List PV}{vs:List V},Rs K m H ps vs->Rs K m' H ps vs
 | [],vs,h=>by rw[Rs_nil] at h |-;exact h
 | p::ps,vs,h=>by
  rw[Rs_cons] at h |-
  obtain⟨y,r,e,h1,h2⟩:=h;exact⟨y,r,e,R.pre hp h1,Rs.pre hp h2⟩
end
section
variable {Γ:Nat->FSp}{X:Cx}{c:Cfg}
theorem vp (h:wW k=true):k=some .cell\/k=some .free:=by unfold wW at h;simpa using h
end
end FW
namespace FW
open L2 HX
theorem Ef (h:(aV P w).is k u=true):L2.RelV (kV k) u:=by
 rcases aS h with⟨i,t,rfl,rfl⟩|⟨x,t,rfl,rfl⟩
 ·exact⟨t,rfl⟩
 ·exact⟨t,rfl⟩
def ObD (P:Program)(w:World)(a:Addr)(o:Obj)(ys:List (Key × V))(vs:List (Key × Value))(ep:Nat):Prop:=KV ys vs/\∀h:Heap,h.get? a=some o->h.DictAt (aV P w) a vs ep
noncomputable def ItF (wk:DW)(a:Addr)(o:Obj)(ys:List (Key × V)):L2.It :=
 ⟨fun i H=>i<ys.length/\H a=some (.frz o (.dK ys)),fun i H x H'=>∃p,ys[i]?=some p/\match wk with
  | .values=>H'=H/\x=p.2
  | .items=>∃T,x=.ref T/\H T=none/\H'=upd H T (.tup [kV p.1,p.2]),fun i H=>i=ys.length/\H a=some (.frz o (.dK ys))⟩
theorem KV.at {ys:List (Key × V)}{vs:List (Key × Value)}(h:KV ys vs){i:Nat}{p:Key × V}(e:ys[i]?=some p):∃q,vs[i]?=some q/\p.1=q.1/\L2.RelV p.2 q.2:=by
 unfold KV at h
 induction h generalizing i with
 | nil=>simp at e
 | cons f t ih =>
  cases i with
  | zero=>simp at e;subst e;exact⟨_,rfl,f.1,f.2⟩
  | succ i=>obtain⟨q,e1,e2⟩:=ih (by simpa using e);exact⟨q,by simpa using e1,e2⟩
theorem sW {P:Program}{w:World}{K:W.Frag}{tg:Expr}{it a:Addr}{o:Obj}{ys:List (Key × V)}{vs:List (Key × Value)}{ep:Nat}(hO:ObD P w a o ys vs ep) :
  pY P w K tg (ItF .values a o ys) [it] it (fun i h=>h.IsValIter it a i vs.length ep) where
 mem:=by simp
 obj:=fun i h st b hb=>by
  have e:b=it:=by simpa using hb
  subst e;obtain⟨u,e,c,d⟩:=st;exact⟨u,e,fun v z=>by rw[d] at z;cases z⟩
 keep:=fun i h h' st k=>by obtain⟨u,e,r⟩:=st;exact⟨u,k it (by simp) u e,r⟩
 item:=by intro X hP hw hK hc i pins s σ H E I hf st hg;subst hP hw hK;obtain⟨f0,f1,f2,f3,f4,f5⟩:=hf it (by simp);obtain⟨hi,hF⟩:=hg;have hd:=hO.2 _ (I.hok a _ hF).1;obtain⟨p,hp⟩:∃p,ys[i]?=some p:=⟨ys[i],by simp[hi]⟩;obtain⟨q,e1,e2,e3⟩:=KV.at hO.1 hp;refine wpAny_pyNext_values_item (k:=q.1) (v:=q.2) st hd e1 fun h' st' sb=>?_;have I1:L2.Inv X pins σ H { s with heap:=h' }:=I.turned (t':=s.toks) (fun b u hb e=>sb.extBut b u hb e) f0 f1 f3 f4 f5;obtain⟨u,e,cc,dd⟩:=id st';exact⟨_,rfl,pB (s:={ s with heap:=h' }) e cc dd (by decide) ⟨p.2,H,I1,e3,⟨p,hp,rfl,rfl⟩,st',fun b hb=>(hf b hb).1⟩⟩
 done:=by intro X hP hw hK hc i pins s σ H E I hf st hg;subst hP hw hK;obtain⟨f0,f1,f2,f3,f4,f5⟩:=hf it (by simp);obtain⟨hi,hF⟩:=hg;have hd:=hO.2 _ (I.hok a _ hF).1;exact wpAny_pyNext_values_end (I.ok.hd hc) st hd (LO (by rw[hi,hO.1.length];exact KF _)) fun h' kk=>⟨rfl,I.turned (t':=s.toks) (fun b u hb e=>kk b u hb e) f0 f1 f3 f4 f5⟩
 self:=fun _ _ _ _ _ st h=>wpAny_pyIter_valiter st h
theorem uh {P:Program}{w:World}{K:W.Frag}{elts:List Expr}{kt:Nat}{pt:Pos}{it a:Addr}{o:Obj}{ys:List (Key × V)}{vs:List (Key × Value)}{ep:Nat}(hO:ObD P w a o ys vs ep) :
  pY P w K (.Tuple elts kt pt) (ItF .items a o ys) [it] it (fun i h=>∃x y,IsItemIter h it a i vs.length ep x y) where
 mem:=by simp
 obj:=fun i h st b hb=>by
  have e:b=it:=by simpa using hb
  subst e;obtain⟨x,y,e⟩:=st;exact⟨_,e,fun v z=>nomatch z⟩
 keep:=fun i h h' st k=>by obtain⟨x,y,e⟩:=st;exact⟨x,y,k it (by simp) _ e⟩
 item:=by
  intro X hP hw hK hc i pins s σ H E I hf st hg;subst hP hw hK;obtain⟨hi,hF⟩:=hg;have hd:=hO.2 _ (I.hok a _ hF).1;obtain⟨p,hp⟩:∃p,ys[i]?=some p:=⟨ys[i],by simp[hi]⟩;obtain⟨q,e1,e2,e3⟩:=KV.at hO.1 hp;obtain⟨x,y,st⟩:=st;refine wpAny_pyNext_items_item (k:=q.1) (v:=q.2) st hd e1 fun key h' hk st' hT hz kk=>?_;refine⟨_,rfl,wpAny_letOwnedTupleGo_items (s:={ s with heap:=h' }) st' fun h'' st2 sb=>?_⟩;have hlt:it<s.heap.objs.size:=KO st;have Tn:s.heap.objs.size≠it:=ME hlt;have rk:L2.RelV (kV p.1) key:=by rw[e2];exact Ef hk
  have I2:L2.Inv X pins σ (upd H s.heap.objs.size (.tup [kV p.1,p.2])) { s with heap:=h'' }:=qw (t':=s.toks) (its:=[key,q.2]) (wr:=[it]) I (fun b u hb e=>by
   have hb:b≠it:=by simpa using hb
   rw[sb.2 b hb];exact kk b u hb e) (fun b hb=>hf b hb) (KF _) (.cons rk (.cons e3 .nil)) (by show 2<=sizeLine;decide) ⟨_,by rw[sb.2 _ Tn];exact hT,rfl,0,rfl⟩
  refine⟨.ref _,_,I2,rfl,⟨p,hp,_,rfl,I.hok.fresh (KF _),rfl⟩,⟨_,_,st2⟩,fun b hb=>?_⟩;have e:b=it:=by simpa using hb
  subst e;rw[af (K6 hlt)];exact(hf b hb).1
 done:=by intro X hP hw hK hc i pins s σ H E I hf st hg;subst hP hw hK;obtain⟨f0,f1,f2,f3,f4,f5⟩:=hf it (by simp);obtain⟨hi,hF⟩:=hg;have hd:=hO.2 _ (I.hok a _ hF).1;obtain⟨x,y,st⟩:=st;exact wpAny_pyNext_items_end (I.ok.hd hc) st hd (LO (by rw[hi,hO.1.length];exact KF _)) fun h' kk=>⟨rfl,I.turned (t':=s.toks) (fun b u hb e=>kk b u hb e) f0 f1 f3 f4 f5⟩
 self:=fun A i s Q E st h=>by obtain⟨x,y,st⟩:=st;exact W.kcp_self st h
theorem IZ:R K m H (kP k) (kV k):=by
 cases k with
 | inl i=>exact R_int.mpr rfl
 | inr x=>exact R_str.mpr rfl
theorem l':∀ {kvs:List (Key × PV)}{ys:List (Key × V)}{i:Nat}{p:Key × V},ys.map (·.1)=kvs.map (·.1)->Rs K m H (kvs.map (·.2)) (ys.map (·.2))->ys[i]?=some p->∃q,kvs[i]?=some q/\q.1=p.1/\R K m H q.2 p.2
 | [],ys,i,p,e,r,h=>by
  cases ys with
  | nil=>simp at h
  | cons _ _=>simp at e
 | q::kvs,ys,i,p,e,r,h=>by
  cases ys with
  | nil=>simp at h
  | cons y ys =>
   simp only[List.map_cons,List.cons.injEq] at e;rw[KG,KG,Rs_cons'] at r;cases i with
   | zero=>simp at h;subst h;exact⟨q,rfl,e.1.symm,r.1⟩
   | succ i=>obtain⟨z,h1,h2⟩:=l' e.2 r.2 (show ys[i]?=some p by simpa using h);exact⟨z,by simpa using h1,h2⟩
theorem Bm {H0:Hp}{kvs:List (Key × PV)}(hF:H0 a=some (.frz o (.dK ys)))(r1:ys.map (·.1)=kvs.map (·.1))(r2:Rs K m0 H0 (kvs.map (·.2)) (ys.map (·.2))) :
  kX K (ItF wk a o ys) (bp wk kvs) (fun _=>True) m0 H0:=by
 have hl:ys.length=kvs.length:=by simpa using LG List.length r1
 have hw:(bp wk kvs).length=ys.length:=by cases wk <;> simp[bp,hl]
 refine⟨fun m H st x r q=>⟨hw,x.frz _ _ _ hF⟩,fun i v m H st x r q ev=>?_⟩;have hi:i<ys.length:=by rw[<-hw];exact(KR.mp ev).1
 refine⟨⟨hi,x.frz _ _ _ hF⟩,?_⟩;rintro y H' ⟨p,hp,z⟩;obtain⟨u,hu,e1,e2⟩:=l' r1 r2 hp;cases wk with
 | values =>
  obtain⟨rfl,rfl⟩:=z;have:(bp .values kvs)[i]?=some u.2:=by unfold bp;rw[KM,hu];rfl
  rw[this] at ev;cases ev;exact⟨Ext.refl _ _ _,r,e2.mono x⟩
 | items =>
  obtain⟨T,rfl,hT,rfl⟩:=z;have:(bp .items kvs)[i]?=some (.tup [kP u.1,u.2]):=by unfold bp;rw[KM,hu];rfl
  rw[this] at ev;cases ev;have xT:=Ext.newT (o:=.tup [kV p.1,p.2]) r hT;refine⟨xT,r.newT hT,R_tup.mpr ⟨T,_,rfl,SqT.of ax,?_⟩⟩;rw[Rs_cons',Rs_cons',Rs_nil];exact⟨by rw[e1];exact IZ,(e2.mono x).mono xT,rfl⟩
end FW
namespace FW
open L2 HX
section
variable {X:Cx}{pins:List (Addr × Obj)}{σ:L2.St}{H:Hp}{s:Shared}{a:Addr}{ys:List (Key × V)}{o:Obj}
theorem lh (I:L2.Inv X pins σ H s)(e:H a=some (.dK ys))(ho:s.heap.get? a=some o):L2.Inv X pins σ (upd H a (.frz o (.dK ys))) s:=by
 have nh:∀b u,H b=some u->(∀zs,u≠.dK zs)->upd H a (.frz o (.dK ys)) b=some u:=fun b u q n=>by rw[af (fun z=>by subst z;rw[e] at q;cases q;exact n _ rfl)];exact q
 have no:∀b,H b=none->upd H a (.frz o (.dK ys)) b=none:=fun b q=>by rw[af (fun z=>by subst z;rw[e] at q;cases q)];exact q
 refine⟨I.ok,I.os,I.bare,⟨I.base.keep,I.base.slot,fun b u q n hx=>no b (I.base.free b u q n hx),I.base.there,fun b xs q=>nh b _ (I.base.tups b xs q) (fun _ z=>nomatch z),fun b u v q=>nh b _ (I.base.frzs b u v q) (fun _ z=>nomatch z),fun b ps q=>let ⟨m,z⟩:=I.base.tbls b ps q;⟨m,nh b _ z (fun _ z=>nomatch z)⟩⟩,I.loc,I.cell,no _ I.free,fun x c q=>no _ (I.freeC x c q),fun p hp=>let ⟨h1,h2,h3⟩:=I.pin p hp;⟨h1,no _ h2,h3⟩,fun b u q=>?_,I.len⟩;have st:∀ {b:Addr}{u:HO},ObjOk X.prog X.w H s.heap b u->ObjOk X.prog X.w (upd H a (.frz o (.dK ys))) s.heap b u:=fun {b u} x=>x.stay (fun _ _ _ q=>q) (fun c q=>nh c _ q (fun _ z=>nomatch z)) fun c xs q=>nh c _ q fun _ z=>nomatch z;by_cases hb:b=a
 ·subst hb;rw[ax] at q;cases q;exact⟨ho,st (I.hok b _ e)⟩
 ·rw[af hb] at q;exact st (I.hok b u q)
theorem mB (I:L2.Inv X pins σ H s)(e:H a=some (.frz o (.dK ys)))(hz:∀u q,X.H₀ a≠some (.frz u q)):L2.Inv X pins σ (upd H a (.dK ys)) s:=by
 have nh:∀b u,H b=some u->(∀w zs,u≠.frz w (.dK zs))->upd H a (.dK ys) b=some u:=fun b u q n=>by rw[af (fun z=>by subst z;rw[e] at q;cases q;exact n _ _ rfl)];exact q
 have no:∀b,H b=none->upd H a (.dK ys) b=none:=fun b q=>by rw[af (fun z=>by subst z;rw[e] at q;cases q)];exact q
 refine⟨I.ok,I.os,I.bare,⟨I.base.keep,I.base.slot,fun b u q n hx=>no b (I.base.free b u q n hx),I.base.there,fun b xs q=>nh b _ (I.base.tups b xs q) (fun _ _ z=>nomatch z),fun b u v q=>by rw[af (fun z=>by subst z;exact hz _ _ q)];exact I.base.frzs b u v q,fun b ps q=>let ⟨m,z⟩:=I.base.tbls b ps q;⟨m,nh b _ z (fun _ _ z=>nomatch z)⟩⟩,I.loc,I.cell,no _ I.free,fun x c q=>no _ (I.freeC x c q),fun p hp=>let ⟨h1,h2,h3⟩:=I.pin p hp;⟨h1,no _ h2,h3⟩,fun b u q=>?_,I.len⟩;have st:∀ {b:Addr}{u:HO},ObjOk X.prog X.w H s.heap b u->ObjOk X.prog X.w (upd H a (.dK ys)) s.heap b u:=fun {b u} x=>x.stay (fun _ _ _ q=>q) (fun c q=>nh c _ q (fun _ _ z=>nomatch z)) fun c xs q=>nh c _ q fun _ _ z=>nomatch z;by_cases hb:b=a
 ·subst hb;rw[ax] at q;cases q;exact st (I.hok b _ e).2
 ·rw[af hb] at q;exact st (I.hok b u q)
theorem yF (I:L2.Inv X pins σ H s)(e:H a=some (.dK ys)):∀u q,X.H₀ a≠some (.frz u q):=fun u q z=>by have:=I.base.frzs a u q z;rw[e] at this;cases this
end
section
variable {K:W.Frag}{m m2:List Addr}{H H2:Hp}{st:AH}{n:Nat}{a:Addr}{o:Obj}{ys:List (Key × V)}{kvs:List (Key × PV)}
theorem RH.frz (h:RH K m H st)(e:m[n]?=some a)(g:H a=some (.dK ys))(r1:ys.map (·.1)=kvs.map (·.1))(r2:Rs K m H (kvs.map (·.2)) (ys.map (·.2))):RH K m (upd H a (.frz o (.dK ys))) (st.set n (.fz kvs)):=by
 have x:Ext K m H m (upd H a (.frz o (.dK ys))):=Ext.set (ys:=[]) h e (nfD g);refine⟨by simp[h.len],h.nd,fun k c b h1 h2=>?_,x.tb h.tb⟩;by_cases hk:k=n
 ·subst hk;have hl:k<st.length:=by rw[<-h.len];exact(KR.mp e).1
  rw[K1 hl] at h1;rw[e] at h2;cases h1;cases h2;exact⟨o,ys,ax,r1,r2.mono x⟩
 ·rw[K5 (Ne.symm hk)] at h1;exact(h.at_ k c b h1 h2).mono x (af fun z=>hk (jC h.nd h2 (z ▸ e)))
theorem bU (hD:H a=some (.frz o (.dK ys))):∀b us,SqT K H b us->SqT K (upd H a (.dK ys)) b us:=fun b us q=>by
 rcases q with (q|⟨w,q⟩)|q
 ·exact .inl (.inl (by rw[af (fun z=>by subst z;rw[hD] at q;cases q)];exact q))
 ·exact .inl (.inr ⟨w,by rw[af (fun z=>by subst z;rw[hD] at q;cases q)];exact q⟩)
 ·exact .inr q
theorem bO (hD:H a=some (.frz o (.dK ys))):∀b us,RdF K H b us->RdF K (upd H a (.dK ys)) b us:=fun b us q=>by
 rcases q with⟨w,q⟩|q
 ·exact .inl ⟨w,by rw[af (fun z=>by subst z;rw[hD] at q;cases q)];exact q⟩
 ·exact .inr q
theorem TB.thaw (t:TB K H)(hD:H a=some (.frz o (.dK ys))):TB K (upd H a (.dK ys)) :=
 t.keep (fun b ps q=>by rw[af (fun z=>by subst z;rw[hD] at q;cases q)];exact q) fun b w q=>by rw[af (fun z=>by subst z;rw[hD] at q;cases q)];exact q
theorem RH.thaw (h:RH K m H st)(e:m[n]?=some a)(hF:H a=some (.frz o (.dK ys)))(hs:st[n]?=some (.fz kvs)):RH K m (upd H a (.dK ys)) (st.set n (.dk kvs)):=by
 refine⟨by simp[h.len],h.nd,fun k c b h1 h2=>?_,h.tb.thaw hF⟩;by_cases hk:k=n
 ·subst hk;have hl:k<st.length:=(KR.mp hs).1;rw[K1 hl] at h1;rw[e] at h2;cases h1;cases h2;obtain⟨o',ys',g1,g2,g3⟩:=h.at_ k _ a hs e;rw[hF] at g1;cases g1;exact⟨ys,ax,g2,g3.mono0 (bU hF) (bO hF)⟩
 ·rw[K5 (Ne.symm hk)] at h1;have ne:b≠a:=fun z=>hk (jC h.nd h2 (z ▸ e));have hc:=h.at_ k c b h1 h2;cases c with
  | lst xs=>obtain⟨us,g1,g2⟩:=hc;exact⟨us,by rw[af ne];exact g1,g2.mono0 (bU hF) (bO hF)⟩
  | dk kvs=>obtain⟨us,g1,g2,g3⟩:=hc;exact⟨us,by rw[af ne];exact g1,g2,g3.mono0 (bU hF) (bO hF)⟩
  | fz kvs=>obtain⟨w,us,g1,g2,g3⟩:=hc;exact⟨w,us,by rw[af ne];exact g1,g2,g3.mono0 (bU hF) (bO hF)⟩
  | od kvs=>obtain⟨o,us,ws,g1,g2,g3,g4⟩:=hc;exact⟨o,us,ws,by rw[af ne];exact g1,g2,g3.mono0 (bU hF) (bO hF),g4.mono0 (bU hF) (bO hF)⟩
theorem Ext.thaw (h:RH K m H st)(e:m[n]?=some a)(g:H a=some (.dK ys))(x:Ext K m (upd H a (.frz o (.dK ys))) m2 H2):Ext K m H m2 (upd H2 a (.dK ys)):=by
 have hm:a∈m:=KJ e;have y:Ext K m H m (upd H a (.frz o (.dK ys))):=Ext.set (ys:=[]) h e (nfD g);have hF:H2 a=some (.frz o (.dK ys)):=x.frz _ _ _ ax;have z:=y.trans x;refine⟨z.pre,z.new,fun b u hb q n=>?_,fun b us q=>bU hF b us (z.tup b us q),fun b us q=>bO hF b us (z.rdf b us q),fun b ps hb q=>?_,fun t=>(z.tb t).thaw hF,fun b u v q=>?_⟩
 ·rw[af (show b≠a from fun w=>hb (by rw[w];exact hm))];exact z.fr b u hb q n
 ·rw[af (show b≠a from fun w=>hb (by rw[w];exact hm))];exact z.tbs b ps hb q
 ·rw[af (fun w=>by subst w;exact nfD g _ _ q)];exact z.frz b u v q
end
section
variable {X:Cx}{c:Cfg}{Γ:Nat->FSp}
noncomputable def wiF (X:Cx)(Γ:Nat->FSp)(wk:DW)(e:E):TI:=fun σ H Rr=>∃m ρ st,RF X.K m H ρ σ/\RH X.K m H st/\wpE Γ e ρ st fun x st1=>∃n kvs,x=.ref n/\st1[n]?=some (.dk kvs) /\
 ∀m1 H1 a o ys,Ext X.K m H m1 H1->RH X.K m1 H1 st1->m1[n]?=some a->H1 a=some (.dK ys)->ys.map (·.1)=kvs.map (·.1)->Rs X.K m1 H1 (kvs.map (·.2)) (ys.map (·.2))->(∀u q,X.H₀ a≠some (.frz u q))->Rr (ItF wk a o ys) (upd H1 a (.frz o (.dK ys)))
noncomputable def o4 (v a:Addr):HO:=.ext fun h=>h.IsItemsView v a
theorem rR:MtR X "dict.items" (fun x xs H Q=>∃a kvs,x=.ref a/\xs=[]/\H a=some (.dK kvs)/\∀v,H v=none->Q (.ref v) (upd H v (o4 v a))):=by rintro pins s σ H x xs v us Q I rx rv ⟨a,kvs,rfl,rfl,g,q⟩;cases rx;cases rv;obtain⟨z,hm,vs,rel,dd⟩:=o3 I.hok g;refine call_meetsIn ND dd.typeIs PySem.F.entry_dict_items (PySem.F.args_dict_items_1 _) (meets_dict_items (aV X.prog X.w) a hm) ⟨⟨vs,dd⟩,?_⟩;refine⟨.ref s.heap.objs.size,_,I.laid (t':=s.toks) (fun b u e=>KB _ e) (KF _) (show ObjOk X.prog X.w _ _ _ (o4 s.heap.objs.size a) from ⟨⟨_,KI _ rfl,rfl,rfl⟩,⟨_,KI _ rfl⟩,fun h1 h2 z e=>let ⟨ob,h3,r⟩:=z;⟨ob,e _ h3,r⟩⟩),rfl,q _ (I.hok.fresh (KF _))⟩
theorem zP (C:COk X c Γ){ap cp:Pos}(hl:(ap.endLine == cp.line)=true)(hy:bB y=true)(he:PE X y (TEx X.K (wpE Γ e))):PI X (.Tuple elts kt pt) (.Call (.Attribute y "items" ap) [] [] cp) (wiF X Γ .items e):=by
 rintro pins s σ H Rr I ⟨m,ρ,st,rf,rh,w⟩;have hE:=rm (X:=X) (apos:=ap) (cpos:=cp) NF ND PySem.F.type_dict_items rR he (cJ hy) hl;refine thn (hE pins s σ H (fun x H1=>∃v a ys,x=.ref v/\H1 v=some (o4 v a)/\H1 a=some (.dK ys)/\∀o,(∀u q,X.H₀ a≠some (.frz u q))->Rr (ItF .items a o ys) (upd H1 a (.frz o (.dK ys)))) I ⟨m,ρ,st,rf,rh,aa C.mono e (fun v st1 k m1 H1 x1 e1 r1 r2=>?_) w⟩) fun v s1 ⟨x,H1,I1,r1,vw,a,ys,ex,hv,hd,q⟩=>?_
 ·obtain⟨n,kvs,rfl,h1,k⟩:=k;obtain⟨b,ys,rfl,eb,g,r3,r4⟩:=r1.dkat h1 r2;refine⟨.inr (.inr (.inl ⟨rfl,.inl ⟨ys,g⟩⟩)),b,ys,rfl,rfl,g,fun v hv=>⟨v,b,ys,rfl,ax,?_,fun o hz=>?_⟩⟩
  ·rw[af (ar g hv)];exact g
  ·have xv:=Ext.newT (o:=o4 v b) r1 hv;exact k m1 _ b o ys (e1.trans xv) (r1.newT hv) eb (by rw[af (ar g hv)];exact g) r3 (r4.mono xv) hz
 ·subst ex;cases r1;obtain⟨z,hm,vs,rel,o,es,ep,ho,rr⟩:=o3 I1.hok hd;have hO:ObD X.prog X.w a o ys vs ep:=⟨rel,fun h e=>⟨o,es,e,rr⟩⟩;have hw:s1.heap.IsItemsView vw a:=(I1.hok vw _ hv).1;refine wpAny_pyIter_items hw (hO.2 _ ho) ?_;refine⟨s1.heap.objs.size,[s1.heap.objs.size],_,_,_,rfl,(lh I1 hd ho).kept (t':=s1.toks) fun b u e=>KB _ e,uh hO,⟨_,_,KI _ rfl⟩,fun b hb=>?_,q o (yF I1 hd)⟩;have e:b=s1.heap.objs.size:=by simpa using hb
  subst e;exact I1.fpOk (KF _) ((lh I1 hd ho).hok.fresh (KF _))
noncomputable def wc (v a:Addr):HO:=.ext fun h=>h.IsValuesView v a
theorem wM:MtR X "dict.values" (fun x xs H Q=>∃a kvs,x=.ref a/\xs=[]/\H a=some (.dK kvs)/\∀v,H v=none->Q (.ref v) (upd H v (wc v a))):=by rintro pins s σ H x xs v us Q I rx rv ⟨a,kvs,rfl,rfl,g,q⟩;cases rx;cases rv;obtain⟨z,hm,vs,rel,dd⟩:=o3 I.hok g;refine call_meetsIn PySem.F.slot_dict_values dd.typeIs PySem.F.entry_dict_values (PySem.F.args_dict_values_1 _) (meets_dict_values (aV X.prog X.w) a hm) ⟨⟨vs,dd⟩,?_⟩;refine⟨.ref s.heap.objs.size,_,I.laid (t':=s.toks) (fun b u e=>KB _ e) (KF _) (show ObjOk X.prog X.w _ _ _ (wc s.heap.objs.size a) from ⟨⟨_,KI _ rfl,rfl,rfl⟩,⟨_,KI _ rfl⟩,fun h1 h2 z e=>let ⟨ob,h3,r⟩:=z;⟨ob,e _ h3,r⟩⟩),rfl,q _ (I.hok.fresh (KF _))⟩
theorem w_ (C:COk X c Γ){ap cp:Pos}(hl:(ap.endLine == cp.line)=true)(hy:bB y=true)(he:PE X y (TEx X.K (wpE Γ e))):PI X tg (.Call (.Attribute y "values" ap) [] [] cp) (wiF X Γ .values e):=by
 rintro pins s σ H Rr I ⟨m,ρ,st,rf,rh,w⟩;have hE:=rm (X:=X) (apos:=ap) (cpos:=cp) NF PySem.F.slot_dict_values PySem.F.type_dict_values wM he (cJ hy) hl;refine thn (hE pins s σ H (fun x H1=>∃v a ys,x=.ref v/\H1 v=some (wc v a)/\H1 a=some (.dK ys)/\∀o,(∀u q,X.H₀ a≠some (.frz u q))->Rr (ItF .values a o ys) (upd H1 a (.frz o (.dK ys)))) I ⟨m,ρ,st,rf,rh,aa C.mono e (fun v st1 k m1 H1 x1 e1 r1 r2=>?_) w⟩) fun v s1 ⟨x,H1,I1,r1,vw,a,ys,ex,hv,hd,q⟩=>?_
 ·obtain⟨n,kvs,rfl,h1,k⟩:=k;obtain⟨b,ys,rfl,eb,g,r3,r4⟩:=r1.dkat h1 r2;refine⟨.inr (.inr (.inl ⟨rfl,.inl ⟨ys,g⟩⟩)),b,ys,rfl,rfl,g,fun v hv=>⟨v,b,ys,rfl,ax,?_,fun o hz=>?_⟩⟩
  ·rw[af (ar g hv)];exact g
  ·have xv:=Ext.newT (o:=wc v b) r1 hv;exact k m1 _ b o ys (e1.trans xv) (r1.newT hv) eb (by rw[af (ar g hv)];exact g) r3 (r4.mono xv) hz
 ·subst ex;cases r1;obtain⟨z,hm,vs,rel,o,es,ep,ho,rr⟩:=o3 I1.hok hd;have hO:ObD X.prog X.w a o ys vs ep:=⟨rel,fun h e=>⟨o,es,e,rr⟩⟩;have hw:s1.heap.IsValuesView vw a:=(I1.hok vw _ hv).1;refine wpAny_pyIter_values hw (hO.2 _ ho) ?_;refine⟨s1.heap.objs.size,[s1.heap.objs.size],_,_,_,rfl,(lh I1 hd ho).kept (t':=s1.toks) fun b u e=>KB _ e,sW hO,⟨_,KI _ rfl,rfl,rfl⟩,fun b hb=>?_,q o (yF I1 hd)⟩;have e:b=s1.heap.objs.size:=by simpa using hb
  subst e;exact I1.fpOk (KF _) ((lh I1 hd ho).hok.fresh (KF _))
theorem JB (C:COk X c Γ)(h1:Dj wk tg=true)(h2:qP wk ix (fun y=>ay c e y)=true)(he:∀y,ay c e y=true->PE X y (TEx X.K (wpE Γ e))):PI X tg ix (wiF X Γ wk e):=by
 cases wk with
 | values =>obtain⟨y,ap,cp,rfl,h3,h4,h5⟩:=sS h2;exact w_ C h3 h4 (he _ h5)
 | items =>
  obtain⟨y,ap,cp,rfl,h3,h4,h5⟩:=m9 h2;cases tg with
  | Tuple elts kt pt=>exact zP C h3 h4 (he _ h5)
  | _=>cases h1
end
end FW
namespace FW
open L2 HX
section
variable {X:Cx}{pins:List (Addr × Obj)}{σ:L2.St}{H:Hp}{s:Shared}{a:Addr}{A:Around}{E:Value->Shared->Prop}
end
section
variable {K:W.Frag}{m m':List Addr}{H H':Hp}{st:AH}{D:Addr}{ys zs:List (Key × V)}
end
section
variable {X:Cx}{Γ:Nat->FSp}{pins:List (Addr × Obj)}{σ:L2.St}{H:Hp}{s:Shared}
def DRel (K:W.Frag)(m:List Addr)(H:Hp)(ps:List (Str × PV))(ds:List (Key × V)):Prop:=ds.map (·.1)=(D_ ps).map (·.1)/\Rs K m H ((D_ ps).map (·.2)) (ds.map (·.2))
theorem DRel.mono (h:DRel K m H ps ds)(x:Ext K m H m' H'):DRel K m' H' ps ds:=⟨h.1,h.2.mono x⟩
end
end FW
namespace FW
open L2 HX
section
variable {prog:Program}{w:World}{A:Around}{E:Value->Shared->Prop}{s:Shared}
variable {R:Result->Shared->Prop}
end
end FW
namespace FW
open L2 HX
section
variable {prog:Program}{w:World}{A:Around}{E:Value->Shared->Prop}{s:Shared}
end
section
variable {X:Cx}{c:Cfg}{Γ:Nat->FSp}
end
end FW
namespace FW
open L2 HX
section
variable {prog:Program}{w:World}
variable {A:Around}{E:Value->Shared->Prop}{s:Shared}
end
section
variable {X:Cx}{pins:List (Addr × Obj)}{σ:L2.St}{H:Hp}{s:Shared}{m:List Addr}{st:AH}
end
end FW
namespace FW
open L2 HX
theorem Ext.addD {D:Addr}(x:Ext K m H m2 H2)(h0:H D=none):Ext K m H (m2++[D]) H2:=by
 refine⟨x.pre.trans (NZ _ _),fun a ha=>?_,x.fr,x.tup,x.rdf,x.tbs,x.tb,x.frz⟩;rcases K7.mp ha with z|z
 ·exact x.new a z
 ·rw[K9] at z;subst z;exact .inr h0
section
variable {X:Cx}{c:Cfg}{Γ:Nat->FSp}
end
end FW
namespace FW
open L2 HX
section
variable {prog:Program}{w:World}{A:Around}{E:Value->Shared->Prop}{s:Shared}
end
section
variable {X:Cx}{c:Cfg}{Γ:Nat->FSp}
end
end FW
namespace FW
open L2 HX HT
noncomputable def kz:Key->Str
 | .inr z=>z
 | .inl _=>⟨#[]⟩
theorem Laid.at (h:Laid H0 L H):∀q∈L,H q.1=some (.tup [kV q.2.1,q.2.2]):=by
 induction h with
 | nil=>exact fun q hq=>nomatch hq
 | snoc _ hn ih =>
  intro q hq;rcases K7.mp hq with hq|hq
  ·rw[af (ar (ih q hq) hn)];exact ih q hq
  ·rw[K9.mp hq,ax]
section
variable {X:Cx}
theorem rJ (hc:X.calm=true):cV X (.builtin "sorted") (fun xs H Q=>∃(v a:Addr) (ys:List (Key × V)) (ss:List Str),xs=[.ref v]/\H v=some (o4 v a)/\H a=some (.dK ys)/\ys.map (·.1)=ss.map Sum.inr/\ss.length<64 /\
  ∀(L L':List (Addr × (Key × V))) (H1:Hp),Laid H L H1->L.map (·.2)=ys->L'.Perm L->(L'.map fun p=>kz p.2.1).Pairwise (fun a b:Str=>a.cps.toList<b.cps.toList)->∀l,H1 l=none->Q (.ref l) (upd H1 l (.lst (L'.map fun p=>V.ref p.1)))):=by
 rintro pins s σ H xs us Q I r ⟨v,a,ys,ss,rfl,gv,g,hk,hn,q⟩;obtain⟨u,rfl,ru⟩:=bC r;cases ru;have hvw:s.heap.IsItemsView v a:=(I.hok v _ gv).1;obtain⟨z,lo,vs,rel,o,es,ep,ho,hx,hd,_,hp,hnd⟩:=o3 I.hok g;have yl:ys.length=ss.length:=by simpa using LG List.length hk
 have el:es.size=ys.length:=by have:=hp.length;rw[MS] at this;rw[this,rel.length]
 have hes:∀(j:Nat) p,ys[j]?=some p->∃e,es[j]?=some e/\RelV (kV p.1) e.key/\RelV p.2 e.val:=fun j p hj=>by
  obtain⟨w,e1,e2,e3⟩:=KV.at rel hj;have jl:j<es.size:=by rw[el];exact(KR.mp hj).1
  obtain⟨a1,a2⟩:=hp.get? (e:=es[j]) (by rw[NL,Array.getElem?_eq_getElem jl]) e1;refine⟨es[j],Array.getElem?_eq_getElem jl,?_,?_⟩
  ·rw[e2];exact Ef a1
  ·rw[a2];exact e3
 refine Calls.call_function_entry kind_sorted plain_sorted entry_sorted (args_sorted1 _) ?_;unfold Builtin.«sorted»;refine KA (m:=checkCount "sorted" 1 1 _) (KC ?_);refine KA (n5 (A:=X.A.in1) (I.ok.hd hc) I hvw ho hd el (by omega) hes fun s1 H1 L I1 la e1=>?_);have L0:(L.map fun q=>Value.ref q.1)=aK (L.map fun p=>(p.1,kz p.2.1)):=by unfold aK;rw[LF];rfl
 have ll:L.length=ss.length:=by rw[<-yl,<-e1,KH]
 rw[L0];refine KA (wpAny_newList ?_ (by rw[KH,KH,sizeLine_eq];omega));have hoL:(s1.heap.push (seqObj "list" (aK (L.map fun p=>(p.1,kz p.2.1))).toArray 0)).get? s1.heap.objs.size=some (seqObj "list" (aK (L.map fun p=>(p.1,kz p.2.1))).toArray 0):=KI _ rfl;have ks:L.map (fun p=>p.2.1)=ss.map Sum.inr:=by rw[<-hk,<-e1,LF];rfl
 have kk:L.map (fun p=>kz p.2.1)=ss:=by have:=LG (List.map kz) ks;rw[LF,LF] at this;have z:(kz ∘ Sum.inr:Str->Str)=id:=rfl;rw[z,List.map_id] at this;exact this
 have nd:((L.map fun p=>(p.1,kz p.2.1)).map (·.2)).Nodup:=by
  rw[LF];show (L.map fun p=>kz p.2.1).Nodup;rw[kk];have:(ss.map (Sum.inr:Str->Key)).Nodup:=by rw[<-hk,rel.keys];exact hnd
  exact(NJ.mp this).imp fun h e=>h (by rw[e])
 have inr:∀q∈L,q.2.1=.inr (kz q.2.1):=fun q hq=>by
  have:q.2.1∈ss.map (Sum.inr:Str->Key):=by rw[<-ks];exact K0.mpr ⟨q,hq,rfl⟩
  obtain⟨z,_,e⟩:=K0.mp this;rw[<-e];rfl
 have tp:∀p∈L.map (fun p=>(p.1,kz p.2.1)),Tp s1.heap p.1 p.2:=fun p hp=>by
  obtain⟨q,hq,rfl⟩:=K0.mp hp;obtain⟨_,its,rv,o,h1,h2,n,h3⟩:=(show ObjOk X.prog X.w H1 s1.heap q.1 (.tup [kV q.2.1,q.2.2]) from I1.hok _ _ (la.at q hq));cases rv with
  | cons r1 r2 =>
   cases r2 with
   | cons r3 r4 =>cases r4;rw[inr q hq] at r1;obtain⟨t,rfl⟩:=r1;exact⟨o,t,_,n,h1,h2,h3⟩
 have lt:∀p∈L.map (fun p=>(p.1,kz p.2.1)),p.1<s1.heap.objs.size:=fun p hp=>by obtain⟨o,_,_,_,e,_⟩:=tp p hp;exact KO e
 refine KA (L3 (wpAny_call_entry slot_list_sort ⟨_,hoL,rfl⟩ entry_list_sort (A4 (s:={ s1 with heap:=s1.heap.push (seqObj "list" (aK (L.map fun p=>(p.1,kz p.2.1))).toArray 0) }) hoL nd (fun p hp=>(tp p hp).kept fun o e=>KB _ e) (fun p hp=>K6 (lt p hp)) (by rw [KH];omega) (fun p hp u hu e=>?_) fun L' pm so=>⟨_,rfl,?_⟩) (args_list_sort _)))
 ·obtain⟨q1,h1,rfl⟩:=K0.mp hp;obtain⟨q2,h2,rfl⟩:=K0.mp hu;have a1:=la.at q1 h1;have a2:=la.at q2 h2;rw[show q1.1=q2.1 from e,a2] at a1;have:kV q2.2.1=kV q1.2.1:=by injection a1 with a1;injection a1 with a1;exact(List.cons.inj a1).1
  rw[inr q1 h1,inr q2 h2] at this;exact(V.str.inj this).symm
 ·obtain⟨M,pM,rfl⟩:=gn pm rfl;obtain⟨e,he⟩:=sortedHeap_at (out:=(aK (M.map fun p=>(p.1,kz p.2.1))).toArray) hoL;refine KC ⟨_,rfl,?_⟩;refine⟨.ref s1.heap.objs.size,_,I1.laid (t':=s1.toks) (fun b u eb=>?_) (KF _) (show ObjOk X.prog X.w _ _ _ (.lst (M.map fun p=>V.ref p.1)) from ⟨?_,aK (M.map fun p=>(p.1,kz p.2.1)),e,?_,he⟩),rfl,q L M H1 la e1 pM ?_ _ (I1.hok.fresh (KF _))⟩
  ·have lb:b<s1.heap.objs.size:=KO eb;rw[sortedHeap_old (K6 lb) (by rw[size_push'];exact Nat.lt_succ_of_lt lb)];exact KB _ eb
  ·rw[KH,pM.length_eq];exact LY (eS (by omega))
  ·clear he so pM pm
   induction M with
   | nil=>exact .nil
   | cons p M ih=>exact .cons rfl ih
  ·rw[LF] at so;exact so
end
theorem Laid.ext (h:Laid H0 L H)(r:RH K m H0 st):Ext K m H0 m H/\RH K m H st:=by
 induction h with
 | nil=>exact⟨Ext.refl _ _ _,r⟩
 | snoc _ hn ih=>exact⟨ih.1.trans (Ext.newT ih.2 hn),ih.2.newT hn⟩
theorem v5 {α:Type}{f:α->PV}{g:α->V}:∀ {Z:List α},(∀z∈Z,R K m H (f z) (g z))->Rs K m H (Z.map f) (Z.map g)
 | [],_=>by rw[LW,LW,Rs_nil]
 | z::Z,h=>by rw[KG,KG,Rs_cons'];exact⟨h z KP,v5 fun y hy=>h y (KL _ hy)⟩
section
variable {X:Cx}{c:Cfg}{Γ:Nat->FSp}
theorem Js (C:COk X c Γ){y:Str}(h1:y="sorted")(h2:c.blt y=true)(h5:ak (.Call (.Attribute u "items" ap) [] [] cp)=true)(hl:(ap.endLine == cp.line)=true)(hy:bB u=true)(ha:PE X u (TEx X.K (wpE Γ a))) :
  PE X (.Call (.Name y p2) [.Call (.Attribute u "items" ap) [] [] cp] [] p) (TEx X.K (wpE Γ (.un .sI a))):=by
 obtain⟨a1,a2,a3,a4⟩:=C.bltx h2;have v1:bootBuiltins y=some (.builtin "sorted"):=by rw [h1];decide +kernel
 have inner:=rm (X:=X) (apos:=ap) (cpos:=cp) NF ND PySem.F.type_dict_items rR ha (cJ hy) hl;intro pins s σ H Q I h;refine jJ (pos:=p) (p:=p2) (rJ C.calm) a1 a4 v1 (pac inner eW h5) a3 a2 h5 rfl pins s σ H Q I ?_;obtain⟨m,ρ,st,rf,rh,w⟩:=h;refine⟨m,ρ,st,rf,rh,aa C.mono a (fun v st1 k m1 H1 x1 e1 r1 r2=>?_) w⟩;obtain⟨n,kvs,ps,rfl,hd,rfl,hn,k⟩:=k;obtain⟨b,ys,rfl,eb,g,r3,r4⟩:=r1.dkat hd r2;refine⟨.inr (.inr (.inl ⟨rfl,.inl ⟨ys,g⟩⟩)),b,ys,rfl,rfl,g,fun vw hv=>⟨vw,b,ys,ps.map (·.1),rfl,ax,by rw[af (ar g hv)];exact g,by rw[r3,LF,LF];rfl,by rw[KH];exact hn,fun L L' H2 la e pm so l hl=>?_⟩⟩;have xv:=Ext.newT (o:=o4 vw b) r1 hv;obtain⟨x2,q2⟩:=la.ext (r1.newT hv);have yl:ys.length=ps.length:=by simpa using LG List.length r3
 have ll:L.length=ps.length:=by rw[<-yl,<-e,KH]
 obtain⟨Z,pZ,rfl⟩:=gn (f:=Prod.fst) (r:=L.zip ps) pm (by rw[N8 (by omega)]);have rel:∀z∈Z,z.1∈L/\z.1.2.1=.inr z.2.1/\R X.K m1 H1 z.2.2 z.1.2.2:=fun z hz=>by
  obtain⟨i,hi⟩:=List.getElem?_of_mem (pZ.mem_iff.mp hz);rw[List.getElem?_zip_eq_some] at hi;have hy':ys[i]?=some z.1.2:=by rw[<-e,KM,hi.1];rfl
  obtain⟨q,b1,b2,b3⟩:=l' r3 r4 hy';rw[KM,hi.2] at b1;cases b1;exact⟨KJ hi.1,b2.symm,b3⟩
 have H2L:=la.at;refine k (Z.map (·.2)) ((pZ.map _).trans (by rw[N9 (by omega)])) ?_ _ _ _ (((e1.trans xv).trans x2).trans (Ext.new1 q2 hl)) (q2.newL hl ?_) (R.last q2.len)
 ·rw[LF] at so |-
  have e:Z.map ((fun p=>kz p.2.1) ∘ Prod.fst)=Z.map ((fun x:Str × PV=>x.1) ∘ fun x=>x.2):=MU fun z hz=>by show kz z.1.2.1=z.2.1;rw[(rel z hz).2.1];rfl
  rw[<-e];exact so
 ·rw[LF,LF];refine v5 fun z hz=>?_;obtain⟨c1,c2,c3⟩:=rel z hz;refine R_tup.mpr ⟨z.1.1,_,rfl,SqT.of (H2L z.1 c1),?_⟩;rw[Rs_cons',Rs_cons',Rs_nil,c2];exact⟨R_str.mpr rfl,(c3.mono xv).mono x2,rfl⟩
end
end FW
namespace FW
open L2 HX
section
variable {Γ:Nat->FSp}
theorem iD (G:bc Γ){st:AH}{k k':Option PV->AH->Prop}(hk:∀o st,k o st->k' o st)(q:dq Γ elt tg ifs ρ x st k):dq Γ elt tg ifs ρ x st k' :=
 aO G tg (fun ρ' st3 w=>br G ifs (fun c st4 w=>by
  cases c with
  | true=>rw[KZ rfl] at w |-;exact aa G elt (fun v st5 w=>hk _ _ w) w
  | false=>rw[KS KD] at w |-;exact hk _ _ w) w) q
theorem RH.addD {D:Addr}(h:RH K m H st)(Dm:D ∉ m)(hD:H D=some (.lst ys))(r:Rs K m H vs ys):RH K (m++[D]) H (st++[.lst vs]):=by
 have hp:m <+: m++[D]:=NZ _ _;refine⟨by simp[h.len],L8.mpr ⟨h.nd,KQ.mpr ⟨by simp,OS⟩,fun a ha b hb z=>?_⟩,fun n c' a h1 h2=>?_,h.tb⟩
 ·rw[K9] at hb;subst hb;exact Dm (z ▸ ha)
 ·by_cases hn:n<st.length
  ·rw[K3 hn] at h1;rw[K3 (by rw[h.len];exact hn)] at h2;have hc:=h.at_ n c' a h1 h2;cases c' with
   | lst xs=>obtain⟨us,g1,g2⟩:=hc;exact⟨us,g1,g2.pre hp⟩
   | dk kvs=>obtain⟨us,g1,g2,g3⟩:=hc;exact⟨us,g1,g2,g3.pre hp⟩
   | fz kvs=>obtain⟨o,us,g1,g2,g3⟩:=hc;exact⟨o,us,g1,g2,g3.pre hp⟩
   | od kvs=>obtain⟨o,us,ws,g1,g2,g3,g4⟩:=hc;exact⟨o,us,ws,g1,g2,g3.pre hp,g4.pre hp⟩
  ·rw[K8 (by omega)] at h1;rw[K8 (by rw[h.len];omega)] at h2;have hl:=h.len;by_cases hz:n-st.length=0
   ·rw[hz] at h1;rw[show n-m.length=0 by omega] at h2;simp at h1 h2;subst h1 h2;exact⟨ys,hD,r.pre hp⟩
   ·rw[LO (by simp;omega)] at h1;cases h1
noncomputable def Ho (X:Cx)(P:Addr->Hp->Prop):Addr->Hp->Prop:=fun D H'=>∃a o ys,H' a=some (.frz o (.dK ys))/\(∀u q,X.H₀ a≠some (.frz u q))/\P D (upd H' a (.dK ys))
theorem yf {a D:Addr}(e1:Ext K m H m1 H1)(am:a∈m1)(pre:m1 <+: m2)(Dm:D ∉ m2)(h:upd H1 a ho D=none):D≠a/\H D=none:=by
 have ne:D≠a:=fun z=>Dm (z ▸ pre.subset am);rw[af ne] at h;refine⟨ne,?_⟩;cases q:H D with
 | none=>rfl
 | some o =>
  by_cases hm:D∈m
  ·exact absurd (pre.subset (e1.pre.subset hm)) Dm
  ·exact absurd h (e1.ne hm q)
theorem A3 (C:COk X c Γ){nt:List Str}{P:Addr->Hp->Prop}(rf:RF X.K m H ρ σ)(rh:RH X.K m H st)(w:wpE Γ (.compK elt tg wk e ifs nt caps) ρ st Q)(hQ:∀n st2 m' H' D,Ext X.K m H m' H'->RH X.K m' H' st2->m'[n]?=some D->Q (.ref n) st2->P D H') :
  wiF X Γ wk e σ H fun J H1=>∃m ρ st1 xs chk,RF X.K m H1 ρ σ/\RH X.K m H1 st1/\kX X.K J xs chk m H1/\xs.length<100000/\cA chk (dq Γ elt tg ifs (nt.map (fun _=>none)++caps.map fun i=>(ρ[i]?).join)) xs [] st1 (cK X.K m H1 (Ho X P)):=by
 rw[Cj] at w;refine⟨m,ρ,st,rf,rh,aa C.mono e (fun v st1 z=>?_) w⟩;obtain⟨n,rfl,kvs,h1,hl,z⟩:=z;refine⟨n,kvs,rfl,h1,fun m1 H1 a o ys e1 r1 ea g r3 r4 hz=>?_⟩;have xs:Ext X.K m1 H1 m1 (upd H1 a (.frz o (.dK ys))):=Ext.set (ys:=[]) r1 ea (nfD g);refine⟨m1,ρ,st1.set n (.fz kvs),bp wk kvs,fun _=>True,(rf.mono e1).mono xs,r1.frz ea g r3 r4,Bm ax r3 (r4.mono xs),by cases wk <;> simpa[bp] using hl,?_⟩;refine cH (body:=dq Γ elt tg ifs (nt.map (fun _=>none)++caps.map fun i=>(ρ[i]?).join)) (fun _ _ _ _ hk q=>iD C.mono hk q) (fun vs st2 k m2 H2 D zs e2 r2 Dm hD0 hD ry=>?_) z;obtain⟨k1,k⟩:=k;have hF:H2 a=some (.frz o (.dK ys)):=e2.frz _ _ _ ax;obtain⟨ne,hD1⟩:=yf e1 (KJ ea) e2.pre Dm hD0;have r5:=r2.thaw (eB e2.pre ea) hF k1;have r6:=r5.addD Dm (by rw[af ne];exact hD) (ry.mono0 (bU hF) (bO hF));exact⟨a,o,ys,hF,hz,hQ _ _ _ _ D ((e1.trans (Ext.thaw r1 ea g e2)).addD hD1) r6 (by rw[<-r2.len];simp) k⟩
theorem jr (C:COk X c Γ){nt:List Str}(h:c.block nt caps sc=true) :
  CScope X sc/\(∀i∈caps,i<X.N.length)/\(∀x∈caps.filterMap (X.N[·]?),sc.names.lookup x=some .free)/\(∀x∈caps.filterMap (X.N[·]?),X.env.kindOf x=some .cell\/X.env.kindOf x=some .free)/\(nt++caps.filterMap (X.N[·]?)).Nodup:=by
 unfold Cfg.block at h;simp only[Bool.and_eq_true,List.all_eq_true,beq_iff_eq,decide_eq_true_eq,Bool.or_eq_true,Bool.not_eq_true',beq_eq_false_iff_ne] at h;obtain⟨⟨⟨⟨⟨⟨h1,h2⟩,h3⟩,h4⟩,h5⟩,h6⟩,h7⟩:=h;rw[C.N];refine⟨⟨h1,fun y hy=>h2 y hy,fun y hy e=>?_,fun y hy e=>?_⟩,h5,fun x hx=>(h6 x hx).1,fun x hx=>C.cel x (vp (h6 x hx).2),h7⟩
 ·rcases h3 y hy with z|z
  ·exact absurd e z
  ·exact z
 ·rcases h4 y hy with z|z
  ·exact absurd e z
  ·exact C.cel _ (vp z)
theorem uQ (C:COk X c Γ){nt:List Str}(h:c.block nt caps sc=true) :
  COk (cxC X (nt++caps.filterMap (X.N[·]?)) s2 H2 fp sc A) (c.inner nt caps sc) Γ:=by
 obtain⟨S,k1,k2,k3,k4⟩:=jr C h;have nocell:∀x,sc.names.lookup x≠some .cell:=fun x e=>S.nocell _ (L5 e) rfl;refine⟨C.calm,PassesOwn.never,?_,?_,fun x hx=>?_,fun x hx=>?_,fun x hx=>lookup_relabel_local hx,fun x hx=>jq hx,?_,fun x hx=>?_,C.room,C.fn,C.blt,C.gl,C.mono,fun h=>Bool.noConfusion (show false=true from h),fun k h=>by cases h⟩
 ·show nt++caps.filterMap (X.N[·]?)=nt++caps.filterMap (c.N[·]?);rw[C.N]
 ·show (nt++caps.filterMap (c.N[·]?)).Nodup;rw[<-C.N];exact k4
 ·rcases hx with hx|hx|hx
  ·exact .inl (lookup_relabel_local hx)
  ·exact absurd hx (nocell x)
  ·rcases dz (env:=X.env) hx with z|z
   ·exact .inr (.inl z)
   ·exact .inr (.inr z)
 ·rcases hx with hx|hx
  ·exact⟨.inl (lookup_relabel_local hx),.inr (lookup_relabel_local hx)⟩
  ·exact absurd hx (nocell x)
 ·show Env.blockKind (compEnvC sc (iG X.env sc.names []) A X.env)=_;unfold Env.blockKind;show (if sc.kind.isAnnotationScope=true then _ else sc.kind)=_;rw[S.kind];rfl
 ·rcases hx with hx|hx
  ·exact absurd hx (nocell x)
  ·exact dz hx
theorem BZ (C:COk X c Γ){ap cp:Pos}(hl:(ap.endLine == cp.line)=true)(ha:PE X u (TEx X.K (wpE Γ a))) :
  PE X (.Call (.Attribute (.Constant (.str "") k3 p3) "join" ap) [.Subscript u (.Slice none none (some (.UnaryOp .USub (.Constant (.int 1) k7 p7) p6)) p5) p4] [] cp) (TEx X.K (wpE Γ (.jrev a))):=by
 intro pins s σ H Q I h;obtain⟨m,ρ,st,rf,rh,w⟩:=h;have hr:=B0 (X:=X) (p2:=p5) (pos:=p4) ha (Dw (pos:=p6) yj (Bu (X:=X) (i:=1) (j:=k7) (pos:=p7))) (fun {σ H Q} q=>⟨1,rfl,q⟩);refine m5 MG PySem.F.slot_str_join PySem.F.type_str_join BA uZ (pac hr eW rfl) rfl rfl hl rfl rfl pins s σ H Q I ?_;refine⟨rfl,m,ρ,st,rf,rh,aa C.mono a (fun v st1 k m1 H1 x1 e1 r1 r2=>?_) w⟩;obtain⟨n,z,rfl,h1,h2,k⟩:=k;obtain⟨b,ys,rfl,eb,g,ry⟩:=r1.lst h1 r2;obtain⟨y,rfl,hy⟩:=ry.one';rw[R_str] at hy;subst hy;refine ⟨b,_,rfl,g,fun p hp=>⟨"",p,z,rfl,rfl,ax,h2,rfl,?_⟩⟩;exact k m1 _ _ (e1.trans (Ext.newT r1 hp)) (r1.newT hp) (R_str.mpr rfl)
theorem iI (h:(bB y || uU y)=true):attributeBase y n env w=w:=by cases y <;> first|rfl|cases h
theorem Fo (C:COk X c Γ){ap cp:Pos}(hl:(ap.endLine == cp.line)=true)(hy:(bB u || uU u)=true)(hs:ak l=true)(ha:PE X u (TEx X.K (wpE Γ a)))(hb:PE X l (TEx X.K (wpE Γ b))) :
  PE X (.Call (.Attribute u (yV k) ap) [l] [] cp) (TEx X.K (wpE Γ (.smx k a b))):=by
 intro pins s σ H Q I h;obtain⟨m,ρ,st,rf,rh,w⟩:=h;have hB:PA X [l] (gG (TEx X.K (wpE Γ b)) rK):=pac hb eW hs;cases k with
 | endsw =>
  refine m5 MG PySem.F.slot_str_endswith PySem.F.type_str_endswith Dq ha hB (iI hy) (by rw[aM hs];rfl) hl (aM hs) rfl pins s σ H Q I ?_;refine⟨m,ρ,st,rf,rh,aa C.mono a (fun v st1 k m1 H1 x1 e1 r1 r2=>?_) w⟩;obtain⟨⟨z,rfl⟩,k⟩:=k;rw[R_str] at r2;subst r2;refine⟨rfl,m1,ρ,st1,rf.mono e1,r1,aa C.mono b (fun v st2 k m2 H2 x2 e2 r3 r4=>?_) k⟩;cases v with
  | str w =>rw[R_str] at r4;subst r4;exact⟨z,w,rfl,rfl,k m2 H2 _ (e1.trans e2) r3 (R_bl.mpr rfl)⟩
  | _=>exact False.elim k
 | split =>
  refine m5 MG PySem.F.slot_str_split PySem.F.type_str_split yI ha hB (iI hy) (by rw[aM hs];rfl) hl (aM hs) rfl pins s σ H Q I ?_;refine⟨m,ρ,st,rf,rh,aa C.mono a (fun v st1 k m1 H1 x1 e1 r1 r2=>?_) w⟩;obtain⟨⟨z,rfl⟩,k⟩:=k;rw[R_str] at r2;subst r2;refine⟨rfl,m1,ρ,st1,rf.mono e1,r1,aa C.mono b (fun v st2 k m2 H2 x2 e2 r3 r4=>?_) k⟩;cases v with
  | str w =>obtain⟨h1,h2,h3,k⟩:=k;rw[R_str] at r4;subst r4;exact⟨z,w,rfl,rfl,by rw[beq_eq_false_iff_ne];omega,dm h2,dm h3,fun p hp=>((k.ext e1).ext e2).newL r3 qg hp⟩
  | _=>exact False.elim k
 | join =>refine m5 MG PySem.F.slot_str_join PySem.F.type_str_join Cs ha hB (iI hy) (by rw[aM hs];rfl) hl (aM hs) rfl pins s σ H Q I ?_;refine⟨m,ρ,st,rf,rh,aa C.mono a (fun v st1 k m1 H1 x1 e1 r1 r2=>?_) w⟩;obtain⟨⟨z,rfl⟩,k⟩:=k;rw[R_str] at r2;subst r2;refine⟨rfl,m1,ρ,st1,rf.mono e1,r1,aa C.mono b (fun v st2 k m2 H2 x2 e2 r3 r4=>?_) k⟩;obtain⟨ss,h2,h3,k⟩:=k;obtain⟨a,zs,rfl,g,rz⟩:=b9 r3 r4 h2;obtain rfl:=lj rz;exact⟨z,a,ss,rfl,rfl,g,h3,k m2 H2 _ (e1.trans e2) r3 (R_str.mpr rfl)⟩
theorem Cg (C:COk X c Γ){y:Str}{ap cp:Pos}(hl:(ap.endLine == cp.line)=true)(h0:(y.length == 0)=false)(hy:bB u=true)(ha:PE X u (TEx X.K (wpE Γ a))) :
  PE X (.Call (.Attribute u "partition" ap) [.Constant (.str y) k3 p3] [] cp) (TEx X.K (wpE Γ (.part a y))):=by
 intro pins s σ H Q I h;obtain⟨m,ρ,st,rf,rh,w⟩:=h;refine m5 MG PySem.F.slot_str_partition PySem.F.type_str_partition CM ha (pac uZ eW rfl) (cJ hy) rfl hl rfl rfl pins s σ H Q I ?_;refine⟨m,ρ,st,rf,rh,aa C.mono a (fun v st1 k m1 H1 x1 e1 r1 r2=>?_) w⟩;obtain⟨z,rfl,h1,k⟩:=k;rw[R_str] at r2;subst r2;exact⟨rfl,z,y,rfl,rfl,h0,h1,fun p hp=>(k.ext e1).newT r1 FX hp⟩
mutual
theorem aR:∀(e:E) {X:Cx}{c:Cfg} (C:COk X c Γ) (x:Expr),ay c e x=true->PE X x (TEx X.K (wpE Γ e))
 | .var i,X,c,C,x,h=>by
  replace h:=ao h;obtain⟨y,p,rfl,h⟩:=h
  ·exact Ay C h
 | .int i,X,c,C,x,h=>by
  replace h:=pz h;obtain⟨j,k,p,rfl,h⟩:=h
  ·rw[OV] at h;subst h;rintro pins s σ H Q I ⟨m,ρ,st,rf,rh,w⟩
   skip
   exact Bu pins s σ H Q I (w.here rh (R_int.mpr rfl))
 | .bl i,X,c,C,x,h=>by
  replace h:=zj h;obtain⟨j,k,p,rfl,h⟩:=h
  ·rw[OV] at h;subst h;rintro pins s σ H Q I ⟨m,ρ,st,rf,rh,w⟩
   skip
   exact Jk pins s σ H Q I (w.here rh (R_bl.mpr rfl))
 | .non,X,c,C,x,h=>by
  replace h:=xV h;obtain⟨k,p,rfl⟩:=h
  ·rintro pins s σ H Q I ⟨m,ρ,st,rf,rh,w⟩
   skip
   exact Gb pins s σ H Q I (w.here rh (R_non.mpr rfl))
 | .str i,X,c,C,x,h=>by
  replace h:=jK h;obtain⟨j,k,p,rfl,h⟩:=h
  ·rw[OV] at h;subst h;rintro pins s σ H Q I ⟨m,ρ,st,rf,rh,w⟩
   skip
   exact uZ pins s σ H Q I (w.here rh (R_str.mpr rfl))
 | .gv y v,X,c,C,x,h=>by
  replace h:=ao h;obtain⟨z,p,rfl,h⟩:=h
  ·simp only[Bool.and_eq_true,beq_iff_eq] at h;obtain⟨⟨h1,h2⟩,h3⟩:=h;subst h1;obtain⟨g1,g2,_⟩:=C.glbx h2;replace h3:=iC h3;obtain⟨w,hw,h3⟩:=h3
   ·have:=PV.same_eq h3;subst this;obtain⟨u,z,e1,e2,e3⟩:=C.gl _ _ hw;rintro pins s σ H Q I ⟨m,ρ,st,rf,rh,w⟩
    skip
    exact B_ g1 e1 e2 g2 pins s σ H Q I (w.here rh (e3 m H))
 | .tup es,X,c,C,x,h=>by
  replace h:=bh h;obtain⟨xs,k,p,rfl,h⟩:=h
  ·rintro pins s σ H Q I ⟨m,ρ,st,rf,rh,w⟩
   skip
   refine Gz (ke es C _ h) pins s σ H Q I ⟨m,ρ,st,rf,rh,aH C.mono es (fun vs st1 k m1 H1 xs1 e1 r1 r2=>⟨by rw[<-r2.len];exact dm k.1,fun p hp=>?_⟩) w⟩;exact(k.2.ext e1).newT r1 r2 hp
 | .lst es,X,c,C,x,h=>by
  replace h:=uB h;obtain⟨xs,p,rfl,h⟩:=h
  ·rintro pins s σ H Q I ⟨m,ρ,st,rf,rh,w⟩
   skip
   refine FO (ke es C _ h) pins s σ H Q I ⟨m,ρ,st,rf,rh,aH C.mono es (fun vs st1 k m1 H1 xs1 e1 r1 r2=>⟨by rw[<-r2.len];exact dm k.1,fun p hp=>?_⟩) w⟩;exact(k.2.ext e1).newL r1 r2 hp
 | .bad,X,c,C,x,h=>by rintro pins s σ H Q I ⟨m,ρ,st,rf,rh,w⟩;exact False.elim w
 | .dct0,X,c,C,x,h=>by
  replace h:=vi h;obtain⟨ks,vs,p,rfl,h⟩:=h;replace h:=Fx h;obtain⟨rfl,rfl⟩:=h
  ·rintro pins s σ H Q I ⟨m,ρ,st,rf,rh,w⟩
   skip
   refine Ar pins s σ H Q I fun p hp=>?_;exact w _ _ _ (Ext.new1 rh hp) (rh.new1 hp ⟨[],ax,rfl,Rs_nil.mpr rfl⟩) (R.last rh.len)
 | .dct1 _ _,X,c,C,x,h=>by rintro pins s σ H Q I ⟨m,ρ,st,rf,rh,w⟩;exact False.elim w
 | .bin op a b,X,c,C,x,h=>by
  replace h:=xa h;obtain⟨l,o,r,p,rfl,h⟩:=h
  ·simp only[Bool.and_eq_true,beq_iff_eq] at h;obtain⟨⟨h1,h2⟩,h3⟩:=h;subst h1;rintro pins s σ H Q I ⟨m,ρ,st,rf,rh,w⟩
   skip
   exact Hl (FZ _) (aR a C _ h2) (aR b C _ h3) pins s σ H Q I ⟨m,ρ,st,rf,rh,aa C.mono a (fun v st1 k m1 H1 x1 e1 r1 r2=>⟨m1,ρ,st1,rf.mono e1,r1,
    aa C.mono b (fun u st2 k2 m2 H2 y2 e2 r3 r4=>⟨m2,st2,v,u,r3,r2.mono e2,r4,oF (fun _ _ q=>q.ext (e1.trans e2)) k2⟩) k⟩) w⟩
 | .neg a,X,c,C,x,h=>by
  replace h:=pC h;obtain⟨y,p,rfl,h⟩:=h
  ·rintro pins s σ H Q I ⟨m,ρ,st,rf,rh,w⟩
   skip
   refine Dw yj (aR a C _ h) pins s σ H Q I ⟨m,ρ,st,rf,rh,aa C.mono a (fun v st1 k m1 H1 x1 e1 r1 r2=>?_) w⟩;obtain⟨i,rfl,k⟩:=k;rw[R_int] at r2;subst r2;exact⟨i,rfl,(k.ext e1).here r1 (R_int.mpr rfl)⟩
 | .not a,X,c,C,x,h=>by
  replace h:=oB h;obtain⟨y,p,rfl,h⟩:=h
  ·rintro pins s σ H Q I ⟨m,ρ,st,rf,rh,w⟩
   skip
   refine Gi (aR a C _ h) pins s σ H Q I ⟨m,ρ,st,rf,rh,aa C.mono a (fun v st1 k m1 H1 x1 e1 r1 r2=>?_) w⟩;obtain⟨i,rfl,k⟩:=k;rw[R_bl] at r2;subst r2;exact⟨i,rfl,(k.ext e1).here r1 (R_bl.mpr rfl)⟩
 | .cmp op a b,X,c,C,x,h=>by
  replace h:=oV h;obtain⟨l,o,r,p,rfl,h⟩:=h
  ·simp only[Bool.and_eq_true,beq_iff_eq,Bool.not_eq_true',beq_eq_false_iff_ne] at h;obtain⟨⟨⟨h1,n1⟩,h2⟩,h3⟩:=h;subst h1;rintro pins s σ H Q I ⟨m,ρ,st,rf,rh,w⟩
   skip
   exact Cr (yp C.room.units _) (aR a C _ h2) (aR b C _ h3) n1 pins s σ H Q I ⟨m,ρ,st,rf,rh,aa C.mono a (fun v st1 k m1 H1 x1 e1 r1 r2=>⟨m1,ρ,st1,rf.mono e1,r1,
    aa C.mono b (fun u st2 k2 m2 H2 y2 e2 r3 r4=>⟨m2,st2,v,u,r3,r2.mono e2,r4,gR (fun _ _ q=>q.ext (e1.trans e2)) k2⟩) k⟩) w⟩
 | .bop true es,X,c,C,x,h=>by
  replace h:=g_ h;obtain⟨o,xs,p,rfl,h⟩:=h
  ·simp only[Bool.and_eq_true,beq_iff_eq,Bool.not_eq_true'] at h;obtain⟨⟨h1,h2⟩,h3⟩:=h;subst h1;rintro pins s σ H Q I ⟨m,ρ,st,rf,rh,w⟩
   skip
   exact DZ es C _ _ h2 h3 pins s σ H Q I ⟨m,ρ,st,rf,rh,w⟩
 | .bop false es,X,c,C,x,h=>by
  replace h:=g_ h;obtain⟨o,xs,p,rfl,h⟩:=h
  ·simp only[Bool.and_eq_true,beq_iff_eq,Bool.not_eq_true'] at h;obtain⟨⟨h1,h2⟩,h3⟩:=h;subst h1;rintro pins s σ H Q I ⟨m,ρ,st,rf,rh,w⟩
   skip
   exact EG es C _ _ h2 h3 pins s σ H Q I ⟨m,ρ,st,rf,rh,w⟩
 | .ite t a b,X,c,C,x,h=>by
  replace h:=xE h;obtain⟨y,l,r,p,rfl,h⟩:=h
  ·simp only[Bool.and_eq_true] at h;obtain⟨⟨h1,h2⟩,h3⟩:=h;rintro pins s σ H Q I ⟨m,ρ,st,rf,rh,w⟩
   skip
   refine zQ (nQ t C _ h1) (aR a C _ h2) (aR b C _ h3) pins s σ H Q I ⟨m,ρ,st,rf,rh,aT C.mono t (fun k st1 z m1 H1 e1 r1=>?_) w⟩;cases k with
   | true=>rw[KZ rfl] at z |-;exact⟨m1,ρ,st1,rf.mono e1,r1,aa C.mono a (fun _ _ q=>q.ext e1) z⟩
   | false=>rw[KS KD] at z |-;exact⟨m1,ρ,st1,rf.mono e1,r1,aa C.mono b (fun _ _ q=>q.ext e1) z⟩
 | .ix a b,X,c,C,x,h=>by
  replace h:=dH h;obtain⟨l,r,p,rfl,h⟩:=h
  ·simp only[Bool.and_eq_true] at h;obtain⟨⟨h1,h2⟩,h3⟩:=h;rintro pins s σ H Q I ⟨m,ρ,st,rf,rh,w⟩
   skip
   exact yR (DX C.room.units) (aR a C _ h2) (aR b C _ h3) h1 pins s σ H Q I ⟨m,ρ,st,rf,rh,aa C.mono a (fun v st1 k m1 H1 x1 e1 r1 r2=>⟨m1,ρ,st1,rf.mono e1,r1,
    aa C.mono b (fun u st2 k2 m2 H2 y2 e2 r3 r4=>⟨m2,st2,v,u,r3,r2.mono e2,r4,jv (fun _ _ q=>q.ext (e1.trans e2)) k2⟩) k⟩) w⟩
 | .sl a lo hi,X,c,C,x,h=>by
  replace h:=dH h;obtain⟨l,r,p,rfl,h⟩:=h;replace h:=sM h;obtain⟨u,v,p2,rfl,h⟩:=h
  ·simp only[Bool.and_eq_true] at h;obtain⟨⟨h1,h2⟩,h3⟩:=h;rintro pins s σ H Q I ⟨m,ρ,st,rf,rh,w⟩
   skip
   exact yw JD (aR a C _ h1) (Jt lo C _ h2) (Jt hi C _ h3) pins s σ H Q I ⟨m,ρ,st,rf,rh,aa C.mono a (fun v st1 k m1 H1 x1 e1 r1 r2=>⟨m1,ρ,st1,rf.mono e1,r1,
    jA C.mono lo (fun l st2 k2 m2 H2 e2 r3=>⟨m2,ρ,st2,(rf.mono e1).mono e2,r3,jA C.mono hi (fun u st3 k3 m3 H3 e3 r4=>⟨m3,st3,v,r4,(r2.mono e2).mono e3,tJ (fun _ _ q=>q.ext ((e1.trans e2).trans e3)) k3⟩) k2⟩) k⟩) w⟩
 | .call f es,X,c,C,x,h=>by
  replace h:=aF h;obtain⟨g,xs,p,rfl,h⟩:=h;replace h:=ao h;obtain⟨y,p2,rfl,h⟩:=h
  ·simp only[Bool.and_eq_true] at h;obtain⟨⟨h1,h2⟩,h3⟩:=h;rintro pins s σ H Q I ⟨m,ρ,st,rf,rh,w⟩
   skip
   exact sC C h1 h2 h3 (ke es C _ h3) pins s σ H Q I ⟨m,ρ,st,rf,rh,w⟩
 | .blt b es,X,c,C,x,h=>by
  replace h:=aF h;obtain⟨g,xs,p,rfl,h⟩:=h;replace h:=ao h;obtain⟨y,p2,rfl,h⟩:=h
  ·simp only[Bool.and_eq_true,beq_iff_eq,Bool.not_eq_true'] at h;obtain⟨⟨⟨⟨h1,h2⟩,h3⟩,h4⟩,h5⟩:=h;rintro pins s σ H Q I ⟨m,ρ,st,rf,rh,w⟩
   skip
   exact tI C h1 h2 h3 h4 (ke es C _ h5) pins s σ H Q I ⟨m,ρ,st,rf,rh,w⟩
 | .inst a t,X,c,C,x,h=>by
  replace h:=aF h;obtain⟨g,xs,p,rfl,h⟩:=h;replace h:=ao h;obtain⟨y,p2,rfl,h⟩:=h;replace h:=gY h;obtain⟨l,r,rfl,h⟩:=h;replace h:=ao h;obtain⟨z,p3,rfl,h⟩:=h
  ·rw[KW] at h;exact wg C h.1 (aR a C _ h.2)
 | .met mm o es,X,c,C,x,h=>by
  replace h:=aF h;obtain⟨g,xs,p,rfl,h⟩:=h;replace h:=cD h;obtain⟨y,n,p2,rfl,h⟩:=h
  ·simp only[Bool.and_eq_true,beq_iff_eq,decide_eq_true_eq] at h;obtain⟨⟨⟨⟨⟨⟨h1,h2⟩,h3⟩,h4⟩,h0⟩,h5⟩,h6⟩:=h;exact BH C h1 (by rw[h2];simp) h3 h4 h0 (aR o C _ h5) (ke es C _ h6) h6
 | .comp elt tg it ifs nt caps,X,c,C,x,h=>by
  replace h:=gy h;obtain⟨ex,gs,sc,pos,rfl,h⟩:=h;replace h:=cq h;obtain⟨g,rfl,h⟩:=h;obtain⟨tx,ix,fx,ia⟩:=g;dsimp only at h
  ·simp only[Bool.and_eq_true,beq_iff_eq] at h;obtain⟨⟨⟨⟨⟨⟨⟨⟨h1,h0⟩,h2⟩,h3⟩,h4⟩,h5⟩,h6⟩,h7⟩,h8⟩:=h;subst h1;obtain⟨S,k1,k2,k3,k4⟩:=jr C h4;have hC:∀s2 H2 fp A,COk (cxC X (nt++caps.filterMap (X.N[·]?)) s2 H2 fp sc A) (c.inner nt caps sc) Γ:=fun s2 H2 fp A=>uQ C h4;rintro pins s σ H Q I ⟨m,ρ,st,rf,rh,w⟩
   skip
   rw[eval_ListComp];refine j0 (elt:=elt) (tg:=tg) (ifs:=ifs) (nt:=nt) (caps:=caps) (use:=none) (Fin:=fun D H'=>Q (.ref D) H') (wi:=TIx X.K (iP Γ it)) C.mono C.calm S rfl k1 k2 k3 h2 h3 (y6 it C ix h0 h5) (fun s2 H2 fp A=>kr tg (hC s2 H2 fp A) _ h6) (fun s2 H2 fp A=>qr ifs (hC s2 H2 fp A) _ h7) (fun s2 H2 fp A=>aR elt (hC s2 H2 fp A) _ h8) I ?_ ?_
   ·refine⟨m,ρ,st,rf,rh,fo C.mono it (fun xs chk st1 z m1 H1 J e1 r1 W=>⟨m1,ρ,st1,xs,chk,rf.mono e1,r1,W,z.1,?_⟩) w⟩;refine cH (body:=dq Γ elt tg ifs (nt.map (fun _=>none)++caps.map fun i=>(ρ[i]?).join)) (fun _ _ _ _ hk q=>iD C.mono hk q) (fun vs st2 k m2 H2 D ys e2 r2 Dm hD0 hD ry=>?_) z.2;have hD1:H D=none:=by
     cases q:H D with
     | none=>rfl
     | some o =>
      by_cases hm:D∈m
      ·exact absurd ((e1.trans e2).pre.subset hm) Dm
      ·exact absurd hD0 (e1.ne hm q)
    exact k _ _ _ ((e1.trans e2).addD hD1) (r2.addD Dm hD ry) (R.last r2.len)
   ·intro C' D H' s' m' I' ns fp F;refine⟨m',ns,fun h' hs'=>?_⟩;exact⟨.ref D,H',I'.turned (t':=s'.toks) (fun b o hb e=>hs'.extBut b o hb e) fp.1 fp.2.1 fp.2.2.2.1 fp.2.2.2.2.1 fp.2.2.2.2.2,rfl,F⟩
 | .compK elt tg wk e ifs nt caps,X,c,C,x,h=>by replace h:=gy h;obtain⟨ex,gs,sc,pos,rfl,h⟩:=h;replace h:=cq h;obtain⟨g,rfl,h⟩:=h;obtain⟨tx,ix,fx,ia⟩:=g;dsimp only at h;simp only[Bool.and_eq_true,beq_iff_eq] at h;obtain⟨⟨⟨⟨⟨⟨⟨⟨h1,h0⟩,h2⟩,h3⟩,h4⟩,h5⟩,h6⟩,h7⟩,h8⟩:=h;subst h1;obtain⟨S,k1,k2,k3,k4⟩:=jr C h4;have hC:∀s2 H2 fp A,COk (cxC X (nt++caps.filterMap (X.N[·]?)) s2 H2 fp sc A) (c.inner nt caps sc) Γ:=fun s2 H2 fp A=>uQ C h4;rintro pins s σ H Q I ⟨m,ρ,st,rf,rh,w⟩;rw[eval_ListComp];refine j0 (elt:=elt) (tg:=tg) (ifs:=ifs) (nt:=nt) (caps:=caps) (use:=none) (Fin:=Ho X fun D H'=>Q (.ref D) H') (wi:=wiF X Γ wk e) C.mono C.calm S rfl k1 k2 k3 h2 h3 (JB C h0 h5 fun y hy=>aR e C y hy) (fun s2 H2 fp A=>kr tg (hC s2 H2 fp A) _ h6) (fun s2 H2 fp A=>qr ifs (hC s2 H2 fp A) _ h7) (fun s2 H2 fp A=>aR elt (hC s2 H2 fp A) _ h8) I (A3 C rf rh w fun n st2 m' H' D e1 r1 r2 q=>q m' H' _ e1 r1 (R_ref.mpr ⟨D,r2,rfl⟩)) ?_;rintro C' D H' s' m' I' ns fp ⟨a,o,ys,hF,hz,q⟩;exact⟨m',ns,fun h' hs'=>⟨.ref D,_,mB (I'.turned (t':=s'.toks) (fun b o hb e=>hs'.extBut b o hb e) fp.1 fp.2.1 fp.2.2.2.1 fp.2.2.2.2.1 fp.2.2.2.2.2) hF hz,rfl,q⟩⟩
 | .un .sI a,X,c,C,x,h=>by replace h:=aF h;obtain⟨g,xs,p,rfl,h⟩:=h;replace h:=ao h;obtain⟨y,p2,rfl,h⟩:=h;replace h:=cq h;obtain⟨l,rfl,h⟩:=h;simp only[Bool.and_eq_true,beq_iff_eq] at h;obtain⟨⟨⟨h1,h2⟩,h3⟩,h4⟩:=h;obtain⟨u,ap,cp,rfl,h5,h6,h7⟩:=m9 h4;exact Js C h1 h2 h3 h5 h6 (aR a C _ h7)
 | .compD _ _ _ _ _ _ _ _,X,c,C,x,h=>by rintro pins s σ H Q I ⟨m,ρ,st,rf,rh,w⟩;exact False.elim w
 | .dct2 _ _,X,c,C,x,h=>by rintro pins s σ H Q I ⟨m,ρ,st,rf,rh,w⟩;exact False.elim w
 | .dcl _,X,c,C,x,h=>by rintro pins s σ H Q I ⟨m,ρ,st,rf,rh,w⟩;exact False.elim w
 | .tmp a,X,c,C,x,h=>by
  have h:ay c a x=true:=h;rintro pins s σ H Q I ⟨m,ρ,st,rf,rh,w⟩
  skip
  refine aR a C x h pins s σ H Q I ⟨m,ρ,st,rf,rh,aa C.mono a (fun v st1 k m1 H1 x1 e1 r1 r2=>?_) w⟩;obtain⟨st2,q,e2,r3,r4⟩:=qV rh e1 r1 r2 k;exact q m H1 x1 e2 r3 r4
 | .dget _ _,X,c,C,x,h=>by rintro pins s σ H Q I ⟨m,ρ,st,rf,rh,w⟩;exact False.elim w
 | .dcp _,X,c,C,x,h=>by rintro pins s σ H Q I ⟨m,ρ,st,rf,rh,w⟩;exact False.elim w
 | .clr _,X,c,C,x,h=>by rintro pins s σ H Q I ⟨m,ρ,st,rf,rh,w⟩;exact False.elim w
 | .sset _,X,c,C,x,h=>by rintro pins s σ H Q I ⟨m,ρ,st,rf,rh,w⟩;exact False.elim w
 | .jrev a,X,c,C,x,h=>by
  replace h:=aF h;obtain⟨g,xs,p,rfl,h⟩:=h;replace h:=cD h;obtain⟨y,n,p2,rfl,h⟩:=h;replace h:=jK h;obtain⟨j,kk,p3,rfl,h⟩:=h;replace h:=cq h;obtain⟨l,rfl,h⟩:=h;replace h:=dH h;obtain⟨u,r,p4,rfl,h⟩:=h;replace h:=uV h;obtain⟨z,p5,rfl,h⟩:=h;replace h:=pC h;obtain⟨z1,p6,rfl,h⟩:=h;replace h:=pz h;obtain⟨i,k7,p7,rfl,h⟩:=h
  ·simp only[Bool.and_eq_true,beq_iff_eq] at h;obtain⟨⟨⟨⟨h1,h2⟩,h3⟩,h4⟩,h5⟩:=h;subst h1 h3 h4;exact BZ C (by rw[h2];simp) (aR a C _ h5)
 | .pcall _ _,X,c,C,x,h=>by rintro pins s σ H Q I ⟨m,ρ,st,rf,rh,w⟩;exact False.elim w
 | .hm _ _ _,X,c,C,x,h=>by rintro pins s σ H Q I ⟨m,ρ,st,rf,rh,w⟩;exact False.elim w
 | .smx k a b,X,c,C,x,h=>by replace h:=aF h;obtain⟨g,xs,p,rfl,h⟩:=h;replace h:=cD h;obtain⟨u,n,p2,rfl,h⟩:=h;replace h:=cq h;obtain⟨l,rfl,h⟩:=h;rw[KW,KW,KW,KW,KW] at h;obtain⟨⟨⟨⟨⟨h1,h2⟩,h3⟩,h4⟩,h5⟩,h6⟩:=h;obtain rfl:=beq_iff_eq.mp h1;exact Fo C h2 h3 h4 (aR a C _ h5) (aR b C _ h6)
 | .part a y,X,c,C,x,h=>by
  replace h:=aF h;obtain⟨g,xs,p,rfl,h⟩:=h;replace h:=cD h;obtain⟨u,n,p2,rfl,h⟩:=h;replace h:=cq h;obtain⟨l,rfl,h⟩:=h;replace h:=jK h;obtain⟨j,kk,p3,rfl,h⟩:=h
  ·simp only[Bool.and_eq_true,beq_iff_eq,Bool.not_eq_true'] at h;obtain⟨⟨⟨⟨⟨h1,h2⟩,h3⟩,h4⟩,h5⟩,h6⟩:=h;subst h1 h3;exact Cg C (by rw[h2];simp) h4 h5 (aR a C _ h6)
theorem ke:∀(es:Es) {X:Cx}{c:Cfg} (C:COk X c Γ) (xs:List Expr),eJ c es xs=true->PA X xs (TAx X.K (cb Γ es))
 | .nil,X,c,C,xs,h=>by
  have h:xs.isEmpty=true:=h;cases xs with
  | nil =>
   rintro pos pins s σ H Q I ⟨m,ρ,st,rf,rh,w⟩
   skip
   exact eW pos pins s σ H Q I (w m H [] (Ext.refl _ _ _) rh (Rs_nil.mpr rfl))
  | cons x xs=>cases h
 | .cons e es,X,c,C,xs,h=>by
  replace h:=aJ h;obtain⟨y,ys,rfl,h⟩:=h
  ·simp only[Bool.and_eq_true] at h;obtain⟨⟨h1,h2⟩,h3⟩:=h;rintro pos pins s σ H Q I ⟨m,ρ,st,rf,rh,w⟩
   skip
   exact pac (aR e C _ h2) (ke es C _ h3) h1 pos pins s σ H Q I ⟨m,ρ,st,rf,rh,aa C.mono e (fun v st1 k m1 H1 x1 e1 r1 r2=>⟨m1,ρ,st1,rf.mono e1,r1,
    aH C.mono es (fun us st2 k2 m2 H2 ys e2 r3 r4=>k2 m2 H2 _ (e1.trans e2) r3 (Rs_cons'.mpr ⟨r2.mono e2,r4⟩)) k⟩) w⟩
theorem Jt:∀(o:O) {X:Cx}{c:Cfg} (C:COk X c Γ) (x:Option Expr),Ft c o x=true->PO X x (fun σ H Q=>∃m ρ st,RF X.K m H ρ σ/\RH X.K m H st/\wpO Γ o ρ st fun v st'=>∀m' H',Ext X.K m H m' H'->RH X.K m' H' st'->Q v H')
 | .no,X,c,C,x,h=>by
  have h:x.isNone=true:=h;cases x with
  | none =>
   rintro pins s σ H Q I ⟨m,ρ,st,rf,rh,w⟩
   skip
   exact CP pins s σ H Q I (w m H (Ext.refl _ _ _) rh)
  | some y=>cases h
 | .yes e,X,c,C,x,h=>by
  replace h:=iC h;obtain⟨y,rfl,h⟩:=h
  ·rintro pins s σ H Q I ⟨m,ρ,st,rf,rh,w⟩
   skip
   refine Du (aR e C _ h) pins s σ H Q I ⟨m,ρ,st,rf,rh,aa C.mono e (fun v st1 k m1 H1 x1 e1 r1 r2=>?_) w⟩;obtain⟨i,rfl,k⟩:=k;rw[R_int] at r2;exact⟨i,r2,k m1 H1 e1 r1⟩
theorem nQ:∀(e:E) {X:Cx}{c:Cfg} (C:COk X c Γ) (x:Expr),ya c e x=true->PT X x (TTx X.K (wpT Γ e))
 | .not a,X,c,C,x,h=>by
  replace h:=oB h;obtain⟨y,p,rfl,h⟩:=h
  ·rintro pins s σ H Q I ⟨m,ρ,st,rf,rh,w⟩
   skip
   exact F1 (nQ a C _ h) pins s σ H Q I ⟨m,ρ,st,rf,rh,aT C.mono a (fun k st1 z m1 H1 e1 r1=>z m1 H1 e1 r1) w⟩
 | .bop true es,X,c,C,x,h=>by
  replace h:=g_ h;obtain⟨o,xs,p,rfl,h⟩:=h
  ·simp only[Bool.and_eq_true,beq_iff_eq,Bool.not_eq_true'] at h;obtain⟨⟨h1,h2⟩,h3⟩:=h;subst h1;rintro pins s σ H Q I ⟨m,ρ,st,rf,rh,w⟩
   skip
   exact(E_ es C _ _ h3 h2).pt pins s σ H Q I ⟨m,ρ,st,rf,rh,w⟩
 | .bop false es,X,c,C,x,h=>by
  replace h:=g_ h;obtain⟨o,xs,p,rfl,h⟩:=h
  ·simp only[Bool.and_eq_true,beq_iff_eq,Bool.not_eq_true'] at h;obtain⟨⟨h1,h2⟩,h3⟩:=h;subst h1;rintro pins s σ H Q I ⟨m,ρ,st,rf,rh,w⟩
   skip
   exact(ER es C _ _ h3 h2).pt pins s σ H Q I ⟨m,ρ,st,rf,rh,w⟩
 | .cmp op a b,X,c,C,x,h=>by
  replace h:=oV h;obtain⟨l,o,r,p,rfl,h⟩:=h
  ·simp only[Bool.and_eq_true,beq_iff_eq,Bool.not_eq_true',beq_eq_false_iff_ne] at h;obtain⟨⟨⟨h1,n1⟩,h2⟩,h3⟩:=h;subst h1;rintro pins s σ H Q I ⟨m,ρ,st,rf,rh,w⟩
   skip
   refine Ds (yp C.room.units _) (aR a C _ h2) (aR b C _ h3) n1 pins s σ H Q I ⟨m,ρ,st,rf,rh,aa C.mono a (fun v st1 k m1 H1 x1 e1 r1 r2=>⟨m1,ρ,st1,rf.mono e1,r1,
    aa C.mono b (fun u st2 k2 m2 H2 y2 e2 r3 r4=>⟨m2,st2,v,u,r3,r2.mono e2,r4,gR (fun _ _ q=>?_) k2⟩) k⟩) w⟩
   obtain⟨k,rfl,q⟩:=q;intro m' H' y e3 r5 r6;rw[R_bl] at r6;exact⟨k,r6,q m' H' ((e1.trans e2).trans e3) r5⟩
 | .var i,X,c,C,x,h=>by
  replace h:=ao h;obtain⟨y,p,rfl,h⟩:=h
  ·rintro pins s σ H Q I ⟨m,ρ,st,rf,rh,w⟩
   skip
   refine fw (Ay C h) (fun _=>rfl) pins s σ H Q I ⟨m,ρ,st,rf,rh,?_⟩;obtain⟨v,e,w⟩:=jf w;exact pO e fun m' H' y e1 r1 r2=>rC ⟨m',st,v,r1,r2,bt (fun _ _ q=>q.ext e1) w⟩
 | .call f es,X,c,C,x,h=>by
  replace h:=aF h;obtain⟨g,xs,p,rfl,h⟩:=h;replace h:=ao h;obtain⟨y,p2,rfl,h⟩:=h
  ·simp only[Bool.and_eq_true] at h;obtain⟨⟨h1,h2⟩,h3⟩:=h;rintro pins s σ H Q I ⟨m,ρ,st,rf,rh,w⟩
   skip
   exact fw (sC C h1 h2 h3 (ke es C _ h3)) (fun _=>rfl) pins s σ H Q I ⟨m,ρ,st,rf,rh,aH C.mono es (fun vs st1 k=>C.mono _ _ _ _ _ (fun v st2 k2 m' H' y e1 r1 r2=>rC ⟨m',st2,v,r1,r2,bt (fun _ _ q=>q.ext e1) k2⟩) k) w⟩
 | .blt b es,X,c,C,x,h=>by
  replace h:=aF h;obtain⟨g,xs,p,rfl,h⟩:=h;replace h:=ao h;obtain⟨y,p2,rfl,h⟩:=h
  ·simp only[Bool.and_eq_true,beq_iff_eq,Bool.not_eq_true'] at h;obtain⟨⟨⟨⟨h1,h2⟩,h3⟩,h4⟩,h5⟩:=h;rintro pins s σ H Q I ⟨m,ρ,st,rf,rh,w⟩
   skip
   exact fw (tI C h1 h2 h3 h4 (ke es C _ h5)) (fun _=>rfl) pins s σ H Q I ⟨m,ρ,st,rf,rh,aH C.mono es (fun vs st1 k=>gW (fun v st2 k2 m' H' y e1 r1 r2=>rC ⟨m',st2,v,r1,r2,bt (fun _ _ q=>q.ext e1) k2⟩) k) w⟩
 | .inst a t,X,c,C,x,h=>by
  replace h:=aF h;obtain⟨g,xs,p,rfl,h⟩:=h;replace h:=ao h;obtain⟨y,p2,rfl,h⟩:=h;replace h:=gY h;obtain⟨l,r,rfl,h⟩:=h;replace h:=ao h;obtain⟨z,p3,rfl,h⟩:=h
  ·rw[KW] at h;rintro pins s σ H Q I ⟨m,ρ,st,rf,rh,w⟩
   skip
   refine fw (wg C h.1 (aR a C _ h.2)) (fun _=>rfl) pins s σ H Q I ⟨m,ρ,st,rf,rh,?_⟩
   skip
   refine aa C.mono a (fun v st1 k=>?_) w;obtain⟨n,e,k⟩:=k;refine⟨n,e,fun m' H' y e1 r1 r2=>?_⟩;rw[R_bl] at r2;subst r2;exact⟨_,rfl,k m' H' e1 r1⟩
 | .tmp a,X,c,C,x,h=>by
  have h:(vb x && ay c a x)=true:=h;rw[KW] at h;rintro pins s σ H Q I ⟨m,ρ,st,rf,rh,w⟩
  skip
  have q:=aR a C x h.2;refine fw q (vk h.1 X.env) pins s σ H Q I ⟨m,ρ,st,rf,rh,aa C.mono a (fun v st1 k m1 H1 x1 e1 r1 r2=>?_) w⟩;obtain⟨st2,q,e2,r3,r4⟩:=qV rh e1 r1 r2 k;exact rC ⟨m,st2,v,r3,r4,bt (fun _ _ q=>q.ext e2) q⟩
 | .ix a b,X,c,C,x,h=>by
  replace h:=dH h;obtain⟨l,r,p,rfl,h⟩:=h
  ·simp only[Bool.and_eq_true] at h;obtain⟨⟨h1,h2⟩,h3⟩:=h;rintro pins s σ H Q I ⟨m,ρ,st,rf,rh,w⟩
   skip
   refine fw (yR (DX C.room.units) (aR a C _ h2) (aR b C _ h3) h1) (fun _=>rfl) pins s σ H Q I ⟨m,ρ,st,rf,rh,aa C.mono a (fun v st1 k m1 H1 x1 e1 r1 r2=>⟨m1,ρ,st1,rf.mono e1,r1,
    aa C.mono b (fun u st2 k2 m2 H2 y2 e2 r3 r4=>⟨m2,st2,v,u,r3,r2.mono e2,r4,jv (fun z st3 q m3 H3 y3 e3 r5 r6=>?_) k2⟩) k⟩) w⟩
   exact rC ⟨m3,st3,z,r5,r6,bt (fun _ _ q=>q.ext ((e1.trans e2).trans e3)) q⟩
 | .bl _,X,c,C,x,h=>by rintro pins s σ H Q I ⟨m,ρ,st,rf,rh,w⟩;exact False.elim w
 | .int _,X,c,C,x,h=>by rintro pins s σ H Q I ⟨m,ρ,st,rf,rh,w⟩;exact False.elim w
 | .non,X,c,C,x,h=>by rintro pins s σ H Q I ⟨m,ρ,st,rf,rh,w⟩;exact False.elim w
 | .str _,X,c,C,x,h=>by rintro pins s σ H Q I ⟨m,ρ,st,rf,rh,w⟩;exact False.elim w
 | .gv _ _,X,c,C,x,h=>by rintro pins s σ H Q I ⟨m,ρ,st,rf,rh,w⟩;exact False.elim w
 | .tup _,X,c,C,x,h=>by rintro pins s σ H Q I ⟨m,ρ,st,rf,rh,w⟩;exact False.elim w
 | .lst _,X,c,C,x,h=>by rintro pins s σ H Q I ⟨m,ρ,st,rf,rh,w⟩;exact False.elim w
 | .dct0,X,c,C,x,h=>by rintro pins s σ H Q I ⟨m,ρ,st,rf,rh,w⟩;exact False.elim w
 | .bad,X,c,C,x,h=>by rintro pins s σ H Q I ⟨m,ρ,st,rf,rh,w⟩;exact False.elim w
 | .dct1 _ _,X,c,C,x,h=>by rintro pins s σ H Q I ⟨m,ρ,st,rf,rh,w⟩;exact False.elim w
 | .bin _ _ _,X,c,C,x,h=>by rintro pins s σ H Q I ⟨m,ρ,st,rf,rh,w⟩;exact False.elim w
 | .neg _,X,c,C,x,h=>by rintro pins s σ H Q I ⟨m,ρ,st,rf,rh,w⟩;exact False.elim w
 | .ite _ _ _,X,c,C,x,h=>by rintro pins s σ H Q I ⟨m,ρ,st,rf,rh,w⟩;exact False.elim w
 | .sl _ _ _,X,c,C,x,h=>by rintro pins s σ H Q I ⟨m,ρ,st,rf,rh,w⟩;exact False.elim w
 | .met _ _ _,X,c,C,x,h=>by rintro pins s σ H Q I ⟨m,ρ,st,rf,rh,w⟩;exact False.elim w
 | .un .sI _,X,c,C,x,h=>by cases (show false=true from h)
 | .compK _ _ _ _ _ _ _,X,c,C,x,h=>by rintro pins s σ H Q I ⟨m,ρ,st,rf,rh,w⟩;exact False.elim w
 | .compD _ _ _ _ _ _ _ _,X,c,C,x,h=>by rintro pins s σ H Q I ⟨m,ρ,st,rf,rh,w⟩;exact False.elim w
 | .dct2 _ _,X,c,C,x,h=>by rintro pins s σ H Q I ⟨m,ρ,st,rf,rh,w⟩;exact False.elim w
 | .dcl _,X,c,C,x,h=>by rintro pins s σ H Q I ⟨m,ρ,st,rf,rh,w⟩;exact False.elim w
 | .comp _ _ _ _ _ _,X,c,C,x,h=>by rintro pins s σ H Q I ⟨m,ρ,st,rf,rh,w⟩;exact False.elim w
 | .pcall _ _,X,c,C,x,h=>by rintro pins s σ H Q I ⟨m,ρ,st,rf,rh,w⟩;exact False.elim w
 | .hm _ _ _,X,c,C,x,h=>by rintro pins s σ H Q I ⟨m,ρ,st,rf,rh,w⟩;exact False.elim w
 | .jrev _,X,c,C,x,h=>by rintro pins s σ H Q I ⟨m,ρ,st,rf,rh,w⟩;exact False.elim w
 | .dget _ _,X,c,C,x,h=>by rintro pins s σ H Q I ⟨m,ρ,st,rf,rh,w⟩;exact False.elim w
 | .dcp _,X,c,C,x,h=>by rintro pins s σ H Q I ⟨m,ρ,st,rf,rh,w⟩;exact False.elim w
 | .clr _,X,c,C,x,h=>by rintro pins s σ H Q I ⟨m,ρ,st,rf,rh,w⟩;exact False.elim w
 | .sset _,X,c,C,x,h=>by rintro pins s σ H Q I ⟨m,ρ,st,rf,rh,w⟩;exact False.elim w
 | .smx _ _ _,X,c,C,x,h=>by rintro pins s σ H Q I ⟨m,ρ,st,rf,rh,w⟩;exact False.elim w
 | .part _ _,X,c,C,x,h=>by rintro pins s σ H Q I ⟨m,ρ,st,rf,rh,w⟩;exact False.elim w
theorem DZ:∀(es:Es) {X:Cx}{c:Cfg} (C:COk X c Γ) (xs:List Expr) (pos:Pos),eJ c es xs=true->xs.isEmpty=false->PE X (.BoolOp .And xs pos) (TEx X.K (qO Γ es))
 | .nil,X,c,C,xs,pos,h,hn=>by have h:xs.isEmpty=true:=h;rw[h] at hn;cases hn
 | .cons e .nil,X,c,C,xs,pos,h,hn=>by
  replace h:=aJ h;obtain⟨y,ys,rfl,h⟩:=h
  ·simp only[Bool.and_eq_true] at h;obtain⟨⟨h1,h2⟩,h3⟩:=h;have h3:ys.isEmpty=true:=h3;cases ys with
   | nil =>
    rintro pins s σ H Q I ⟨m,ρ,st,rf,rh,w⟩
    skip
    exact Bc (aR e C _ h2) pins s σ H Q I ⟨m,ρ,st,rf,rh,w⟩
   | cons _ _=>cases h3
 | .cons e (.cons e2 es),X,c,C,xs,pos,h,hn=>by
  replace h:=aJ h;obtain⟨y,ys,rfl,h⟩:=h
  ·simp only[Bool.and_eq_true] at h;obtain⟨⟨h1,h2⟩,h3⟩:=h;cases ys with
   | nil=>exact Bool.noConfusion (show false=true from h3)
   | cons y2 ys =>
    rintro pins s σ H Q I ⟨m,ρ,st,rf,rh,w⟩
    skip
    refine GQ (aR e C _ h2) (DZ (.cons e2 es) C (y2::ys) pos h3 rfl) pins s σ H Q I ⟨m,ρ,st,rf,rh,aa C.mono e (fun v st1 k m1 H1 x1 e1 r1 r2=>?_) w⟩;obtain⟨b,rfl,k⟩:=k;rw[R_bl] at r2;subst r2;refine⟨b,rfl,?_⟩;cases b with
    | true=>rw[KZ rfl] at k |-;exact⟨m1,ρ,st1,rf.mono e1,r1,j6 C.mono _ (fun _ _ q=>q.ext e1) k⟩
    | false=>rw[KS KD] at k |-;exact(k.ext e1).here r1 (R_bl.mpr rfl)
theorem EG:∀(es:Es) {X:Cx}{c:Cfg} (C:COk X c Γ) (xs:List Expr) (pos:Pos),eJ c es xs=true->xs.isEmpty=false->PE X (.BoolOp .Or xs pos) (TEx X.K (pX Γ es))
 | .nil,X,c,C,xs,pos,h,hn=>by have h:xs.isEmpty=true:=h;rw[h] at hn;cases hn
 | .cons e .nil,X,c,C,xs,pos,h,hn=>by
  replace h:=aJ h;obtain⟨y,ys,rfl,h⟩:=h
  ·simp only[Bool.and_eq_true] at h;obtain⟨⟨h1,h2⟩,h3⟩:=h;have h3:ys.isEmpty=true:=h3;cases ys with
   | nil =>
    rintro pins s σ H Q I ⟨m,ρ,st,rf,rh,w⟩
    skip
    exact Bc (aR e C _ h2) pins s σ H Q I ⟨m,ρ,st,rf,rh,w⟩
   | cons _ _=>cases h3
 | .cons e (.cons e2 es),X,c,C,xs,pos,h,hn=>by
  replace h:=aJ h;obtain⟨y,ys,rfl,h⟩:=h
  ·simp only[Bool.and_eq_true] at h;obtain⟨⟨h1,h2⟩,h3⟩:=h;cases ys with
   | nil=>exact Bool.noConfusion (show false=true from h3)
   | cons y2 ys =>
    rintro pins s σ H Q I ⟨m,ρ,st,rf,rh,w⟩
    skip
    refine Jw (aR e C _ h2) (EG (.cons e2 es) C (y2::ys) pos h3 rfl) pins s σ H Q I ⟨m,ρ,st,rf,rh,aa C.mono e (fun v st1 k m1 H1 x1 e1 r1 r2=>?_) w⟩;obtain⟨b,rfl,k⟩:=k;rw[R_bl] at r2;subst r2;refine⟨b,rfl,?_⟩;cases b with
    | true=>rw[KZ rfl] at k |-;exact(k.ext e1).here r1 (R_bl.mpr rfl)
    | false=>rw[KS KD] at k |-;exact⟨m1,ρ,st1,rf.mono e1,r1,j7 C.mono _ (fun _ _ q=>q.ext e1) k⟩
theorem E_:∀(es:Es) {X:Cx}{c:Cfg} (C:COk X c Γ) (xs:List Expr) (pos:Pos),kC c es xs=true->xs.isEmpty=false->PW X (.BoolOp .And xs pos) (TTx X.K (fG Γ es))
 | .nil,X,c,C,xs,pos,h,hn=>by have h:xs.isEmpty=true:=h;rw[h] at hn;cases hn
 | .cons e .nil,X,c,C,xs,pos,h,hn=>by
  replace h:=aJ h;obtain⟨y,ys,rfl,h⟩:=h
  ·simp only[Bool.and_eq_true] at h;obtain⟨h2,h3⟩:=h;have h3:ys.isEmpty=true:=h3;cases ys with
   | nil =>
    rintro whole pins s σ H Q I ⟨m,ρ,st,rf,rh,w⟩
    skip
    exact C9 (nQ e C _ h2) whole pins s σ H Q I ⟨m,ρ,st,rf,rh,w⟩
   | cons _ _=>cases h3
 | .cons e (.cons e2 es),X,c,C,xs,pos,h,hn=>by
  replace h:=aJ h;obtain⟨y,ys,rfl,h⟩:=h
  ·simp only[Bool.and_eq_true] at h;obtain⟨h2,h3⟩:=h;cases ys with
   | nil=>exact Bool.noConfusion (show false=true from h3)
   | cons y2 ys =>
    rintro whole pins s σ H Q I ⟨m,ρ,st,rf,rh,w⟩
    skip
    refine Fw (nQ e C _ h2) (E_ (.cons e2 es) C (y2::ys) pos h3 rfl) whole pins s σ H Q I ⟨m,ρ,st,rf,rh,aT C.mono e (fun b st1 k m1 H1 e1 r1=>?_) w⟩;cases b with
    | true=>rw[KZ rfl] at k |-;exact⟨m1,ρ,st1,rf.mono e1,r1,br C.mono _ (fun _ _ q=>q.ext e1) k⟩
    | false=>rw[KS KD] at k |-;exact k m1 H1 e1 r1
theorem ER:∀(es:Es) {X:Cx}{c:Cfg} (C:COk X c Γ) (xs:List Expr) (pos:Pos),kC c es xs=true->xs.isEmpty=false->PW X (.BoolOp .Or xs pos) (TTx X.K (pG Γ es))
 | .nil,X,c,C,xs,pos,h,hn=>by have h:xs.isEmpty=true:=h;rw[h] at hn;cases hn
 | .cons e .nil,X,c,C,xs,pos,h,hn=>by
  replace h:=aJ h;obtain⟨y,ys,rfl,h⟩:=h
  ·simp only[Bool.and_eq_true] at h;obtain⟨h2,h3⟩:=h;have h3:ys.isEmpty=true:=h3;cases ys with
   | nil =>
    rintro whole pins s σ H Q I ⟨m,ρ,st,rf,rh,w⟩
    skip
    exact FJ (nQ e C _ h2) whole pins s σ H Q I ⟨m,ρ,st,rf,rh,w⟩
   | cons _ _=>cases h3
 | .cons e (.cons e2 es),X,c,C,xs,pos,h,hn=>by
  replace h:=aJ h;obtain⟨y,ys,rfl,h⟩:=h
  ·simp only[Bool.and_eq_true] at h;obtain⟨h2,h3⟩:=h;cases ys with
   | nil=>exact Bool.noConfusion (show false=true from h3)
   | cons y2 ys =>
    rintro whole pins s σ H Q I ⟨m,ρ,st,rf,rh,w⟩
    skip
    refine Ht (nQ e C _ h2) (ER (.cons e2 es) C (y2::ys) pos h3 rfl) whole pins s σ H Q I ⟨m,ρ,st,rf,rh,aT C.mono e (fun b st1 k m1 H1 e1 r1=>?_) w⟩;cases b with
    | true=>rw[KZ rfl] at k |-;exact k m1 H1 e1 r1
    | false=>rw[KS KD] at k |-;exact⟨m1,ρ,st1,rf.mono e1,r1,jL C.mono _ (fun _ _ q=>q.ext e1) k⟩
theorem kr:∀(t:Tg) {X:Cx}{c:Cfg} (C:COk X c Γ) (x:Expr),iy c t x=true->PG X x (TGx X.K (bD Γ t))
 | .name i,X,c,C,x,h=>by
  replace h:=ao h;obtain⟨y,p,rfl,h⟩:=h
  ·simp only[Bool.and_eq_true,beq_iff_eq] at h;obtain⟨h1,h2⟩:=C.locx h.2;rintro pins s σ H v u Q I r ⟨m,ρ,st,p,rf,rh,hr,w⟩
   skip
   exact CW C.ndX (by rw[C.N];exact h.1) h1 h2 pins s σ H v u Q I r (w.here rh (rf.set i hr))
 | .tup ts,X,c,C,x,h=>by
  replace h:=bh h;obtain⟨xs,k,p,rfl,h⟩:=h
  ·rintro pins s σ H v u Q I r ⟨m,ρ,st,p,rf,rh,hr,w⟩
   skip
   obtain⟨vs,rfl,hl,w⟩:=w;rw[R_tup] at hr;obtain⟨a,ys,rfl,g,r2⟩:=hr;obtain⟨l1,l2⟩:=lN (env:=X.env) h;refine Gk C.calm (Ax ts C _ h) l1 l2 pins s σ H _ u Q I r ⟨a,ys,rfl,g,?_,m,ρ,st,vs,rf,rh,r2,w⟩;rw[<-r2.len];exact hl
 | .ltup ts,X,c,C,x,h=>by rintro pins s σ H v u Q I r ⟨m,ρ,st,p,rf,rh,hr,w⟩;exact False.elim w
 | .sub o i,X,c,C,x,h=>by
  replace h:=dH h;obtain⟨l,rr,pos,rfl,h⟩:=h
  ·simp only[Bool.and_eq_true] at h;obtain⟨⟨h1,h2⟩,h3⟩:=h;rintro pins s σ H v u Q I r ⟨m,ρ,st,p,rf,rh,hr,w⟩
   skip
   refine GV (aR o C _ h2) (aR i C _ h3) (FK C.room.units) (by cases rr <;> first|(intro _;rfl)|cases h1) pins s σ H v u Q I r ⟨m,ρ,st,rf,rh,aa C.mono o (fun a st1 k m1 H1 x1 e1 r1 r2=>⟨m1,ρ,st1,rf.mono e1,r1,
    aa C.mono i (fun b st2 k2 m2 H2 y2 e2 r3 r4=>⟨m2,st2,a,b,p,r3,r2.mono e2,r4,(hr.mono e1).mono e2,oz (fun st3 q H3 e3 r5=>?_) k2⟩) k⟩) w⟩
   exact q m2 H3 σ ((e1.trans e2).trans e3) r5 (((rf.mono e1).mono e2).mono e3)
theorem Ax:∀(ts:Tgs) {X:Cx}{c:Cfg} (C:COk X c Γ) (xs:List Expr),lW c ts xs=true->PGs X xs (JK X.K (gK Γ ts))
 | .nil,X,c,C,xs,h=>by
  have h:xs.isEmpty=true:=h;cases xs with
  | nil =>
   rintro pins s σ H v u Q I r ⟨m,ρ,st,p,rf,rh,hr,w⟩
   skip
   obtain⟨rfl,w⟩:=w;rw[Rs_nil] at hr;exact CY pins s σ H v u Q I r ⟨hr,w.here rh rf⟩
  | cons _ _=>cases h
 | .cons t ts,X,c,C,xs,h=>by
  replace h:=aJ h;obtain⟨y,ys,rfl,h⟩:=h
  ·simp only[Bool.and_eq_true] at h;obtain⟨⟨h1,h2⟩,h3⟩:=h;rintro pins s σ H v u Q I r ⟨m,ρ,st,p,rf,rh,hr,w⟩
   skip
   obtain⟨x,q,rfl,w⟩:=w;rw[Rs_cons] at hr;obtain⟨y,ys,rfl,g1,g2⟩:=hr;refine Bl (kr t C _ h2) (Ax ts C _ h3) (by rw[ip h1];rfl) pins s σ H _ u Q I r ⟨y,ys,rfl,m,ρ,st,x,rf,rh,g1,aO C.mono t (fun ρ1 st1 k m1 H1 σ1 e1 r1 r2=>?_) w⟩;exact⟨m1,ρ1,st1,q,r2,r1,g2.mono e1,fP C.mono ts (fun _ _ q=>q.ext e1) k⟩
theorem y6:∀(it:It) {X:Cx}{c:Cfg} (C:COk X c Γ) {tg:Expr} (x:Expr),BV it tg=true->zr c it x=true->PI X tg x (TIx X.K (iP Γ it))
 | .seq e,X,c,C,tg,x,_,h=>by
  have h:(gB x && ay c e x)=true:=h;rw[KW] at h;rintro pins s σ H Rr I ⟨m,ρ,st,rf,rh,w⟩
  skip
  refine Ga (aR e C x h.2) pins s σ H Rr I ⟨m,ρ,st,rf,rh,aa C.mono e (fun v st1 k m1 H1 x1 e1 r1 r2=>?_) w⟩;obtain⟨xs,es,k⟩:=k;cases v with
  | tup ys =>cases es;rw[R_tup] at r2;obtain⟨a,zs,rfl,g,r3⟩:=r2;exact⟨a,rfl,.inr ⟨⟨zs,g⟩,k m1 H1 _ e1 r1 (yy g r3)⟩⟩
  | rdl ys =>cases es;rw[eD] at r2;obtain⟨a,zs,rfl,g,r3⟩:=r2;exact⟨a,rfl,.inl ⟨⟨zs,g.sq⟩,k m1 H1 _ e1 r1 (zO g r3)⟩⟩
  | ref n =>
   unfold a7 aQ at es;simp only at es;split at es
   ·cases es;rename_i q;obtain⟨a,zs,rfl,ea,g,r3⟩:=r1.lst q r2;exact⟨a,rfl,.inl ⟨⟨zs,SqL.of g⟩,k m1 H1 _ e1 r1 (xo r1 q ea)⟩⟩
   ·cases es
  | _=>cases es
 | .range1 a,X,c,C,tg,x,_,h=>by
  replace h:=aF h;obtain⟨g,xs,p,rfl,h⟩:=h;replace h:=ao h;obtain⟨y,p2,rfl,h⟩:=h;replace h:=cq h;obtain⟨l,rfl,h⟩:=h
  ·simp only[Bool.and_eq_true,beq_iff_eq] at h;obtain⟨⟨⟨h1,h2⟩,h3⟩,h4⟩:=h;subst h1;obtain⟨g1,g2,g3,g4⟩:=C.bltx h2;rintro pins s σ H Rr I ⟨m,ρ,st,rf,rh,w⟩
   skip
   have hA:PA X [_] (gG (TEx X.K (wpE Γ a)) rK):=pac (aR a C _ h4) eW h3;refine wX g1 g4 hA (aM h3) pins s σ H Rr I ⟨m,ρ,st,rf,rh,aa C.mono a (fun v st1 k m1 H1 x1 e1 r1 r2=>?_) w⟩;obtain⟨j,rfl,k1,k2,k⟩:=k;rw[R_int] at r2;subst r2;exact⟨j,rfl,k1,k2,k m1 H1 _ e1 r1 uK⟩
 | .range2 _ _,X,c,C,tg,x,_,h=>by rintro pins s σ H Rr I ⟨m,ρ,st,rf,rh,w⟩;exact False.elim w
 | .zip a b,X,c,C,tg,x,ht,h=>by
  replace h:=aF h;obtain⟨g,xs,p,rfl,h⟩:=h;replace h:=ao h;obtain⟨y,p2,rfl,h⟩:=h;replace h:=gY h;obtain⟨l,r,rfl,h⟩:=h
  ·simp only[Bool.and_eq_true,beq_iff_eq] at h;obtain⟨⟨⟨⟨⟨h1,h2⟩,h3⟩,h3'⟩,h4⟩,h5⟩:=h;subst h1;obtain⟨g1,g2,g3,g4⟩:=C.bltx h2;cases tg with
   | Tuple elts kt pt =>
    rintro pins s σ H Rr I ⟨m,ρ,st,rf,rh,w⟩
    skip
    have hA:PA X [_,_] (gG (TEx X.K (wpE Γ a)) (gG (TEx X.K (wpE Γ b)) rK)):=pac (aR a C _ h4) (pac (aR b C _ h5) eW h3') h3;refine GB g1 g4 hA (by rw[aM h3,aM h3'];rfl) (aM h3') pins s σ H Rr I ⟨m,ρ,st,rf,rh,aa C.mono a (fun v st1 k m1 H1 x1 e1 r1 r2=>⟨m1,ρ,st1,rf.mono e1,r1,
     aa C.mono b (fun u st2 k2 m2 H2 y2 e2 r3 r4=>?_) k⟩) w⟩
    obtain⟨xs,ys,q1,q2,k⟩:=k2;obtain⟨a1,rfl,w1,s1⟩:=E1 r3 (r2.mono e2) q1;obtain⟨a2,rfl,w2,s2⟩:=E1 r3 r4 q2;refine⟨a1,a2,rfl,fun e he=>?_,k m2 H2 _ (e1.trans e2) r3 (zX w1 w2)⟩;simp only[List.mem_cons,List.not_mem_nil,or_false] at he;rcases he with rfl|rfl
    ·exact s1
    ·exact s2
   | _=>cases ht
 | .zip3 _ _ _,X,c,C,tg,x,ht,h=>by rintro pins s σ H Rr I ⟨m,ρ,st,rf,rh,w⟩;exact False.elim w
 | .enum _,X,c,C,tg,x,ht,h=>by rintro pins s σ H Rr I ⟨m,ρ,st,rf,rh,w⟩;exact False.elim w
 | .chars e,X,c,C,tg,x,_,h=>by have h:(gB x && ay c e x)=true:=h;rw[KW] at h;rintro pins s σ H Rr I ⟨m,ρ,st,rf,rh,w⟩;refine yK (aR e C x h.2) pins s σ H Rr I ⟨m,ρ,st,rf,rh,aa C.mono e (fun v st1 k m1 H1 x1 e1 r1 r2=>?_) w⟩;obtain⟨z,rfl,k⟩:=k;rw[R_str] at r2;exact⟨z,r2,k m1 H1 _ e1 r1 vn⟩
 | .range3 a b d,X,c,C,tg,x,_,h=>by
  replace h:=aF h;obtain⟨g,xs,p,rfl,h⟩:=h;replace h:=ao h;obtain⟨y,p2,rfl,h⟩:=h;replace h:=C6 h;obtain⟨l,r,u,rfl,h⟩:=h
  ·simp only[Bool.and_eq_true,beq_iff_eq] at h;obtain⟨⟨⟨⟨⟨⟨⟨h1,h2⟩,h3⟩,h3'⟩,h3''⟩,h4⟩,h5⟩,h6⟩:=h;subst h1;obtain⟨g1,g2,g3,g4⟩:=C.bltx h2;rintro pins s σ H Rr I ⟨m,ρ,st,rf,rh,w⟩;have hA:PA X [_,_,_] (gG (TEx X.K (wpE Γ a)) (gG (TEx X.K (wpE Γ b)) (gG (TEx X.K (wpE Γ d)) rK))):=pac (aR a C _ h4) (pac (aR b C _ h5) (pac (aR d C _ h6) eW h3'') h3') h3;refine xq g1 g4 hA (by rw[aM h3,aM h3',aM h3''];rfl) (by rw[aM h3',aM h3''];rfl) pins s σ H Rr I ⟨m,ρ,st,rf,rh,aa C.mono a (fun v st1 k m1 H1 x1 e1 r1 r2=>⟨m1,ρ,st1,rf.mono e1,r1,
    aa C.mono b (fun u st2 k2 m2 H2 y2 e2 r3 r4=>⟨m2,ρ,st2,(rf.mono e1).mono e2,r3,aa C.mono d (fun w st3 k3 m3 H3 y3 e3 r5 r6=>?_) k2⟩) k⟩) w⟩
   obtain⟨i,j,q,rfl,rfl,rfl,k1,k⟩:=k3;rw[R_int] at r2 r4 r6;subst r2 r4 r6;exact⟨i,j,q,rfl,k1,k m3 H3 _ ((e1.trans e2).trans e3) r5 Dk⟩
theorem qr:∀(es:Es) {X:Cx}{c:Cfg} (C:COk X c Γ) (xs:List Expr),kC c es xs=true->PTs X xs (TTx X.K (fG Γ es))
 | .nil,X,c,C,xs,h=>by
  have h:xs.isEmpty=true:=h;cases xs with
  | nil =>
   rintro pins s σ H Q I ⟨m,ρ,st,rf,rh,w⟩
   skip
   exact wJ pins s σ H Q I (w m H (Ext.refl _ _ _) rh)
  | cons _ _=>cases h
 | .cons e .nil,X,c,C,xs,h=>by
  replace h:=aJ h;obtain⟨y,ys,rfl,h⟩:=h
  ·simp only[Bool.and_eq_true] at h;obtain⟨h2,h3⟩:=h;have h3:ys.isEmpty=true:=h3;cases ys with
   | nil =>
    rintro pins s σ H Q I ⟨m,ρ,st,rf,rh,w⟩
    skip
    refine rY (nQ e C _ h2) wJ pins s σ H Q I ⟨m,ρ,st,rf,rh,aT C.mono e (fun b st1 k m1 H1 e1 r1=>?_) w⟩;cases b with
    | true=>rw[KZ rfl];exact k m1 H1 e1 r1
    | false=>rw[KS KD];exact k m1 H1 e1 r1
   | cons _ _=>cases h3
 | .cons e (.cons e2 es),X,c,C,xs,h=>by
  replace h:=aJ h;obtain⟨y,ys,rfl,h⟩:=h
  ·simp only[Bool.and_eq_true] at h;obtain⟨h2,h3⟩:=h;rintro pins s σ H Q I ⟨m,ρ,st,rf,rh,w⟩
   skip
   refine rY (nQ e C _ h2) (qr (.cons e2 es) C _ h3) pins s σ H Q I ⟨m,ρ,st,rf,rh,aT C.mono e (fun b st1 k m1 H1 e1 r1=>?_) w⟩;cases b with
   | true=>rw[KZ rfl] at k |-;exact⟨m1,ρ,st1,rf.mono e1,r1,br C.mono _ (fun _ _ q=>q.ext e1) k⟩
   | false=>rw[KS KD] at k |-;exact k m1 H1 e1 r1
end
end
end FW
namespace FW
open L2 HX
section
variable {X:Cx}{c:Cfg}{Γ:Nat->FSp}{tg:Expr}
noncomputable def AE (K:W.Frag)(m:List Addr)(H:Hp)(D:L2.Ends):aX:={ nx:=postF K m H D.nx,rt:=post K m H D.rt,bk:=postF K m H D.bk,ct:=postF K m H D.ct }
noncomputable def TSx (K:W.Frag)(w:Fr->AH->aX->Prop):TS:=fun D σ H=>∃m ρ st,RF K m H ρ σ/\RH K m H st/\w ρ st (AE K m H D)
theorem AE.ext {D:L2.Ends}(x:Ext K m H m1 H1):je (AE K m H D) (AE K m1 H1 D) :=
 ⟨fun _ _ q=>q.ext x,fun _ _ q=>q.ext x,fun _ _ q=>q.ext x,fun _ _ q=>q.ext x⟩
theorem Cz (G:bc Γ){D:L2.Ends}(h:TSx X.K (wpS Γ (.forS t it b)) D σ H):FG (TIx X.K (iP Γ it)) (TGx X.K (bD Γ t)) (TSx X.K (aw Γ b)) D σ H:=by
 obtain⟨m,ρ,st,rf,rh,w⟩:=h
 skip
 refine⟨m,ρ,st,rf,rh,fo G it (fun xs chk st1 k m1 H1 J e1 r1 W=>?_) w⟩;refine⟨fun i n σ' H'=>n+i=xs.length/\∃m' ρ' st',Ext X.K m1 H1 m' H'/\RH X.K m' H' st'/\RF X.K m' H' ρ' σ'/\k6 chk (fun x ρ' st' D'=>bD Γ t x ρ' st' fun ρ2 st2=>aw Γ b ρ2 st2 D') (AE X.K m H D) (xs.drop i) ρ' st',
  ⟨xs.length,rfl,m1,ρ,st1,Ext.refl _ _ _,r1,rf.mono e1,by simpa using k⟩,?_⟩
 rintro i n σ' H' ⟨hn,m',ρ',st',x',rh',rf',k'⟩;cases q:xs.drop i with
 | nil =>
  rw[q] at k';have hi:i=xs.length:=by have:=LG List.length q;simp at this;omega
  subst hi;exact .inl ⟨W.stop m' H' st' x' rh' k'.1,k'.2 m' H' σ' (e1.trans x') rh' rf'⟩
 | cons v rest =>
  rw[q] at k';have hi:i<xs.length:=by have:=LG List.length q;simp at this;omega
  have ev:xs[i]?=some v:=by have:=LG List.head? q;rw[ON] at this;exact this
  have er:rest=xs.drop (i+1):=by have:=LG List.tail q;rw[OT] at this;exact this.symm
  subst er;obtain⟨kc,k'⟩:=k';obtain⟨go,yl⟩:=W.item i v m' H' st' x' rh' kc ev;refine .inr ⟨go,fun σ'' H''=>(n-1+(i+1)=xs.length/\∃m' ρ' st',Ext X.K m1 H1 m' H''/\RH X.K m' H'' st'/\RF X.K m' H'' ρ' σ''/\k6 chk (fun x ρ' st' D'=>bD Γ t x ρ' st' fun ρ2 st2=>aw Γ b ρ2 st2 D') (AE X.K m H D) (xs.drop (i+1)) ρ' st'),fun σ'' H'' z=>⟨n-1,by omega,z⟩,fun y H2 hy=>?_⟩;obtain⟨x2,r2,rv⟩:=yl y H2 hy;refine⟨m',ρ',st',v,rf'.mono x2,r2,rv,aO G t (fun ρ3 st3 k3 m3 H3 σ3 x3 r3 f3=>?_) k'⟩;refine⟨m3,ρ3,st3,f3,r3,aN G b ?_ k3⟩;have xx:Ext X.K m H m3 H3:=((e1.trans x').trans x2).trans x3;refine⟨fun ρ4 st4 k4 m4 H4 σ4 x4 r4 f4=>⟨by omega,m4,ρ4,st4,((x'.trans x2).trans x3).trans x4,r4,f4,k4⟩,fun v4 st4 k4=>k4.ext xx,fun ρ4 st4 k4=>k4.ext xx,fun ρ4 st4 k4 m4 H4 σ4 x4 r4 f4=>⟨by omega,m4,ρ4,st4,((x'.trans x2).trans x3).trans x4,r4,f4,k4⟩⟩
noncomputable def EF (X:Cx)(D:L2.Ends):L2.Ends:={ nx:=fun σ H=>∃a o ys,H a=some (.frz o (.dK ys))/\(∀u q,X.H₀ a≠some (.frz u q))/\D.nx σ (upd H a (.dK ys)),rt:=fun v H=>∃a o ys,H a=some (.frz o (.dK ys))/\(∀u q,X.H₀ a≠some (.frz u q))/\D.rt v (upd H a (.dK ys)),bk:=fun _ _=>False,ct:=fun _ _=>False }
theorem CT {D:L2.Ends}(h:SP X pins (EF X D) f s'):SP X pins D f s':=by
 cases f with
 | next=>obtain⟨σ',H',I,a,o,ys,hF,hz,q⟩:=h;exact⟨σ',_,mB I hF hz,q⟩
 | ret u=>obtain⟨v,σ',H',I,r,a,o,ys,hF,hz,q⟩:=h;exact⟨v,σ',_,mB I hF hz,r,q⟩
 | brk=>obtain⟨σ',H',I,q⟩:=h;exact False.elim q
 | cont=>obtain⟨σ',H',I,q⟩:=h;exact False.elim q
theorem zd (G:bc Γ){D:L2.Ends}(h:TSx X.K (wpS Γ (.forK t wk e b)) D σ H):FG (wiF X Γ wk e) (TGx X.K (bD Γ t)) (TSx X.K (aw Γ b)) (EF X D) σ H:=by
 obtain⟨m,ρ,st,rf,rh,w⟩:=h;refine⟨m,ρ,st,rf,rh,aa G e (fun v st1 z=>?_) w⟩;obtain⟨n,rfl,kvs,h1,k⟩:=z;refine⟨n,kvs,rfl,h1,fun m1 H1 a o ys e1 r1 ea g r3 r4 hz=>?_⟩;have xs:Ext X.K m1 H1 m1 (upd H1 a (.frz o (.dK ys))):=Ext.set (ys:=[]) r1 ea (nfD g);have W:kX X.K (ItF wk a o ys) (bp wk kvs) (fun _=>True) m1 (upd H1 a (.frz o (.dK ys))):=Bm ax r3 (r4.mono xs);have rF:=r1.frz (o:=o) ea g r3 r4;generalize hH2:upd H1 a (.frz o (.dK ys))=H2 at *;have hF0:H2 a=some (.frz o (.dK ys)):=by rw[<-hH2];exact ax
 have toD:∀ {m':List Addr}{H':Hp},Ext X.K m1 H2 m' H'->Ext X.K m H m' (upd H' a (.dK ys)):=fun {m' H'} x=>e1.trans (Ext.thaw (o:=o) r1 ea g (by rw[hH2];exact x));have endN:∀ {ρ':Fr}{st':AH}{m':List Addr}{H':Hp}{σ':L2.St},Ext X.K m1 H2 m' H'->RH X.K m' H' st'->RF X.K m' H' ρ' σ'->(fzD n kvs (AE X.K m H D)).nx ρ' st'->(EF X D).nx σ' H':=fun {ρ' st' m' H' σ'} x r f q=>by have hF:H' a=some (.frz o (.dK ys)):=x.frz _ _ _ hF0;exact⟨a,o,ys,hF,hz,q.2 m' _ σ' (toD x) (r.thaw (eB x.pre ea) hF q.1) ⟨f.len,fun i v e=>let ⟨y,e1,rr⟩:=f.at_ i v e;⟨y,e1,rr.mono0 (bU hF) (bO hF)⟩⟩⟩
 have endR:∀ {v:PV}{x:V}{st':AH}{m':List Addr}{H':Hp},Ext X.K m1 H2 m' H'->RH X.K m' H' st'->R X.K m' H' v x->(fzD n kvs (AE X.K m H D)).rt v st'->(EF X D).rt x H':=fun {v x st' m' H'} e r f q=>by have hF:H' a=some (.frz o (.dK ys)):=e.frz _ _ _ hF0;exact⟨a,o,ys,hF,hz,q.2 m' _ x (toD e) (r.thaw (eB e.pre ea) hF q.1) (f.mono0 (bU hF) (bO hF))⟩
 refine⟨fun i n' σ' H'=>n'+i=(bp wk kvs).length/\∃m' ρ' st',Ext X.K m1 H2 m' H'/\RH X.K m' H' st'/\RF X.K m' H' ρ' σ'/\k6 (fun _=>True) (fun x ρ' st' D'=>bD Γ t x ρ' st' fun ρ2 st2=>aw Γ b ρ2 st2 D') (fzD n kvs (AE X.K m H D)) ((bp wk kvs).drop i) ρ' st',
  ⟨(bp wk kvs).length,rfl,m1,ρ,st1.set n (.fz kvs),Ext.refl _ _ _,rF,(rf.mono e1).mono xs,by simpa using k⟩,?_⟩
 generalize bp wk kvs=xl at *;rintro i n' σ' H' ⟨hn,m',ρ',st',x',rh',rf',k'⟩;cases q:xl.drop i with
 | nil =>
  rw[q] at k';have hi:i=xl.length:=by have:=LG List.length q;simp at this;omega
  subst hi;exact .inl ⟨W.stop m' H' st' x' rh' trivial,endN x' rh' rf' k'.2⟩
 | cons v rest =>
  rw[q] at k';have hi:i<xl.length:=by have:=LG List.length q;simp at this;omega
  have ev:xl[i]?=some v:=by have:=LG List.head? q;rw[ON] at this;exact this
  have er:rest=xl.drop (i+1):=by have:=LG List.tail q;rw[OT] at this;exact this.symm
  subst er;obtain⟨kc,k'⟩:=k';obtain⟨go,yl⟩:=W.item i v m' H' st' x' rh' trivial ev;refine .inr ⟨go,fun σ'' H''=>(n'-1+(i+1)=xl.length/\∃m' ρ' st',Ext X.K m1 H2 m' H''/\RH X.K m' H'' st'/\RF X.K m' H'' ρ' σ''/\k6 (fun _=>True) (fun x ρ' st' D'=>bD Γ t x ρ' st' fun ρ2 st2=>aw Γ b ρ2 st2 D') (fzD n kvs (AE X.K m H D)) (xl.drop (i+1)) ρ' st'),fun σ'' H'' z=>⟨n'-1,by omega,z⟩,fun y H3 hy=>?_⟩;obtain⟨x2,r2,rv⟩:=yl y H3 hy;refine⟨m',ρ',st',v,rf'.mono x2,r2,rv,aO G t (fun ρ3 st3 k3 m3 H4 σ3 x3 r3 f3=>?_) k'⟩;refine⟨m3,ρ3,st3,f3,r3,aN G b ?_ k3⟩;have xx:Ext X.K m1 H2 m3 H4:=(x'.trans x2).trans x3;exact⟨fun ρ4 st4 k4 m4 H4 σ4 x4 r4 f4=>⟨by omega,m4,ρ4,st4,xx.trans x4,r4,f4,k4⟩,fun v4 st4 k4 m4 H4 y4 x4 r4 f4=>endR (xx.trans x4) r4 f4 k4,fun ρ4 st4 k4 m4 H4 σ4 x4 r4 f4=>endN (xx.trans x4) r4 f4 k4,fun ρ4 st4 k4 m4 H4 σ4 x4 r4 f4=>⟨by omega,m4,ρ4,st4,xx.trans x4,r4,f4,k4⟩⟩
theorem xk (G:bc Γ){D:L2.Ends}(h:TSx X.K (wpS Γ (.whileS cd b)) D σ H):zI (TTx X.K (wpT Γ cd)) (TSx X.K (aw Γ b)) D σ H:=by
 obtain⟨m,ρ,st,rf,rh,w⟩:=h
 skip
 obtain⟨n0,w⟩:=w;refine⟨fun n σ' H'=>∃m' ρ' st',Ext X.K m H m' H'/\RH X.K m' H' st'/\RF X.K m' H' ρ' σ'/\dX (wpT Γ cd) (aw Γ b) (AE X.K m H D) n ρ' st',⟨n0,m,ρ,st,Ext.refl _ _ _,rh,rf,w⟩,?_⟩;rintro n σ' H' ⟨m',ρ',st',x',rh',rf',k'⟩;cases n with
 | zero=>exact k'.elim
 | succ n =>
  refine⟨m',ρ',st',rf',rh',aT G cd (fun b st1 k m1 H1 x1 r1=>?_) k'⟩;cases b with
  | false=>rw[KS KD] at k |-;exact k m1 H1 σ' (x'.trans x1) r1 (rf'.mono x1)
  | true =>
   rw[KZ rfl] at k |-
   refine⟨fun σ'' H''=>∃m' ρ' st',Ext X.K m H m' H''/\RH X.K m' H'' st'/\RF X.K m' H'' ρ' σ''/\dX (wpT Γ cd) (aw Γ b) (AE X.K m H D) n ρ' st',fun σ'' H'' z=>⟨n,OA _,z⟩,m1,ρ',st1,rf'.mono x1,r1,aN G _ ?_ k⟩;have xx:=x'.trans x1;exact⟨fun ρ4 st4 k4 m4 H4 σ4 x4 r4 f4=>⟨m4,ρ4,st4,xx.trans x4,r4,f4,k4⟩,fun v4 st4 k4=>k4.ext xx,fun ρ4 st4 k4=>k4.ext xx,fun ρ4 st4 k4 m4 H4 σ4 x4 r4 f4=>⟨m4,ρ4,st4,xx.trans x4,r4,f4,k4⟩⟩
end
end FW
namespace FW
open L2 HX
noncomputable def mM:Expr->Bool
 | .Name ..=>true
 | _=>false
noncomputable def Ba:Expr->Expr->Bool
 | .Tuple ts _ _,.Tuple vs _ _=>(ts.any fun t=>!mM t) || vs.all (foldedForSure 8)
 | .Tuple ..,_=>true
 | .Subscript ..,_=>true
 | _,_=>false
noncomputable def uq (y:Str)(sc:Scope):Bool:=sc.names.any fun x=>match x with|(n,k)=>n == y && (k == .local || k == .cell)
noncomputable def uz (x:Stmt)(f:List Expr->Expr->Bool):Bool:=match x with | .Assign ts v _=>f ts v|_=>false
theorem lB (h:uz x f=true):∃ts v p,x=.Assign ts v p/\f ts v=true:=by cases x with|Assign ts v p=>exact⟨ts,v,p,rfl,h⟩|_=>exact Bool.noConfusion h
noncomputable def Ap (x:Stmt)(f:Expr->Expr->Bool):Bool:=uz x fun ts v=>on1 ts fun t=>f t v
theorem pj (h:Ap x f=true):∃t v p,x=.Assign [t] v p/\f t v=true:=by replace h:=lB h;obtain⟨ts,v,p,rfl,h⟩:=h;replace h:=cq h;obtain⟨t,rfl,h⟩:=h;exact⟨t,v,p,rfl,h⟩
noncomputable def DJ (x:Stmt)(f:Expr->Operator->Expr->Bool):Bool:=match x with | .AugAssign t o v _=>f t o v|_=>false
theorem xU (h:DJ x f=true):∃t o v p,x=.AugAssign t o v p/\f t o v=true:=by cases x with|AugAssign t o v p=>exact⟨t,o,v,p,rfl,h⟩|_=>exact Bool.noConfusion h
noncomputable def Ii (x:Stmt)(f:Expr->Bool):Bool:=match x with | .Expr v _=>f v|_=>false
theorem Bh (h:Ii x f=true):∃v p,x=.Expr v p/\f v=true:=by cases x with|Expr v p=>exact⟨v,p,rfl,h⟩|_=>exact Bool.noConfusion h
noncomputable def zR (x:Stmt)(f:Option Expr->Bool):Bool:=match x with | .Return v _=>f v|_=>false
theorem oX (h:zR x f=true):∃v p,x=.Return v p/\f v=true:=by cases x with|Return v p=>exact⟨v,p,rfl,h⟩|_=>exact Bool.noConfusion h
noncomputable def Jo (x:Stmt)(f:Expr->List Stmt->List Stmt->Bool):Bool:=match x with | .If v a b _=>f v a b|_=>false
theorem zV (h:Jo x f=true):∃v a b p,x=.If v a b p/\f v a b=true:=by cases x with|If v a b p=>exact⟨v,a,b,p,rfl,h⟩|_=>exact Bool.noConfusion h
noncomputable def wa (x:Stmt)(f:Expr->List Stmt->Bool):Bool:=match x with | .While v a [] _=>f v a|_=>false
theorem tM (h:wa x f=true):∃v a p,x=.While v a [] p/\f v a=true:=by
 cases x with
 | While v a b p=>cases b with|nil=>exact⟨v,a,p,rfl,h⟩|cons _ _=>exact Bool.noConfusion h
 | _=>exact Bool.noConfusion h
noncomputable def ze (x:Stmt)(f:Expr->Expr->List Stmt->Bool):Bool:=match x with | .For t v a [] _=>f t v a|_=>false
theorem oN (h:ze x f=true):∃t v a p,x=.For t v a [] p/\f t v a=true:=by
 cases x with
 | For t v a b p=>cases b with|nil=>exact⟨t,v,a,p,rfl,h⟩|cons _ _=>exact Bool.noConfusion h
 | _=>exact Bool.noConfusion h
noncomputable def zq (x:Stmt):Bool:=match x with | .Pass _=>true|_=>false
theorem uE (h:zq x=true):∃p,x=.Pass p:=by cases x with|Pass p=>exact⟨p,rfl⟩|_=>exact Bool.noConfusion h
noncomputable def Ex (x:Stmt):Bool:=match x with | .Break _=>true|_=>false
theorem xG (h:Ex x=true):∃p,x=.Break p:=by cases x with|Break p=>exact⟨p,rfl⟩|_=>exact Bool.noConfusion h
noncomputable def yN (x:Stmt):Bool:=match x with | .Continue _=>true|_=>false
theorem t7 (h:yN x=true):∃p,x=.Continue p:=by cases x with|Continue p=>exact⟨p,rfl⟩|_=>exact Bool.noConfusion h
noncomputable def F5:Tg->Bool
 | .name _=>true
 | _=>false
noncomputable def Iv:E->Bool
 | .comp ..=>true
 | _=>false
noncomputable def F_ (c:Cfg)(t:Tg)(e:E)(tg x:Expr):Bool :=
 F5 t && Iv e && aA tg fun y py=>BD x fun _ _ sc pos=>c.names.lookup y == some .cell || (c.names.lookup y == some .local && py.line == pos.line && !uq y sc)
noncomputable def Hz:E->Bool
 | .compD ..=>true
 | _=>false
noncomputable def AM (c:Cfg)(t:Tg)(e:E)(tg x:Expr):Bool :=
 F5 t && Hz e && aA tg fun y py=>GW x fun _ _ _ sc pos=>c.names.lookup y == some .local && py.line == pos.line && !uq y sc
theorem Da (h:Hz e=true):∃kx vx tg wk d ifs nt caps,e=.compD kx vx tg wk d ifs nt caps:=by cases e with|compD kx vx tg wk d ifs nt caps=>exact⟨kx,vx,tg,wk,d,ifs,nt,caps,rfl⟩|_=>exact Bool.noConfusion h
noncomputable def HD (c:Cfg)(t:Expr):Bool:=aA t fun y _=>c.names.lookup y == some .cell
noncomputable def JL (c:Cfg)(tg x:Expr):Bool:=eE tg fun ts=>(BD x fun _ _ _ _=>true) || eE x fun _=>ts.any (HD c)
mutual
noncomputable def HC (c:Cfg):S->Stmt->Bool
 | .set t e,s=>Ap s fun tg x=>(iy c t tg && ay c e x) && ((mG x && (mM tg || Ba tg x)) || (F_ c t e tg x || (JL c tg x || AM c t e tg x)))
 | .par i j a b,s=>Ap s fun tg vx=>eE tg fun ts=>on2 ts fun ta tb=>aA ta fun x px=>aA tb fun y py=>eE vx fun us=>on2 us fun u v=>c.N[i]? == some x && c.N[j]? == some y && !(i == j) && !(x == y) && c.names.lookup x == some .local && c.names.lookup y == some .local
    && px.line == py.line && ak u && ak v && !(foldedForSure 8 u && foldedForSure 8 v) && !(constantsAlone 8 u && constantsAlone 8 v) && ay c a u && ay c b v
 | .aug i op e,s=>DJ s fun t o x=>aA t fun y _=>c.N[i]? == some y && c.loc y && o == op && ay c e x
 | .expr e,s=>Ii s fun x=>mG x && ay c e x
 | .ret e,s=>zR s fun o=>iT o fun x=>ay c e x
 | .retN,s=>zR s fun o=>o.isNone
 | .ifS t a b,s=>Jo s fun x ys zs=>ya c t x && aB c a ys && aB c b zs
 | .whileS t b,s=>wa s fun x ys=>ya c t x && aB c b ys
 | .forS t it b,s=>ze s fun tg x ys=>BV it tg && gB x && iy c t tg && zr c it x && aB c b ys
 | .forK t wk e b,s=>ze s fun tg x ys=>Dj wk tg && gB x && iy c t tg && qP wk x (fun y=>ay c e y) && aB c b ys
 | .pass,s=>zq s
 | .brk,s=>Ex s
 | .cont,s=>yN s
 | .bad,_=>true
 | .set2 i j e,s=>uz s fun ts v=>on2 ts fun ta tb=>aA ta fun x _=>aA tb fun y _=>c.N[i]? == some x && c.N[j]? == some y && !(i == j) && c.loc x && c.loc y && mG v && ay c e v
termination_by structural s=>s
noncomputable def aB (c:Cfg):Ss->List Stmt->Bool
 | .nil,xs=>xs.isEmpty
 | .cons s ss,xs=>mH xs fun y ys=>HC c s y && aB c ss ys
termination_by structural s=>s
end
theorem wA (h:F5 t=true):∃i,t=.name i:=by cases t with|name i=>exact⟨i,rfl⟩|_=>exact Bool.noConfusion h
theorem C8 (h:Iv e=true):∃elt tg it ifs nt caps,e=.comp elt tg it ifs nt caps:=by cases e with|comp elt tg it ifs nt caps=>exact⟨elt,tg,it,ifs,nt,caps,rfl⟩|_=>exact Bool.noConfusion h
theorem gA (h:mG x=true):swapsWith x t l env=pure false:=by cases x <;> first|rfl|cases h
theorem gq {t:Expr}(h:mG x=true):swapsWithSole [t] x l env=pure false:=by unfold swapsWithSole;exact gA h
theorem km:∀(ts:List Expr) (f:Expr->Option Str),(ts.any fun t=>!mM t)=true->(∀t,mM t=false->f t=none)->(ts.filterMap f).length<ts.length
 | [],f,h,_=>by cases h
 | t::ts,f,h,hf=>by
  rw[L6,MZ] at h;have hl:(ts.filterMap f).length<=ts.length:=MQ _ _;rcases h with h|h
  ·rw[LX,hf t (by simpa using h)];simp only[List.length_cons];omega
  ·have:=km ts f h hf;rw[LX];cases f t <;> simp only[List.length_cons] <;> omega
theorem iU:∀(ts:List Expr) (P:Expr->Bool) (f:Expr->Option Str),ts.any P=true->(∀t,P t=true->f t=none)->(ts.filterMap f).length<ts.length
 | [],P,f,h,_=>by cases h
 | t::ts,P,f,h,hf=>by
  rw[L6,MZ] at h;have hl:(ts.filterMap f).length<=ts.length:=MQ _ _;rcases h with h|h
  ·rw[LX,hf t h];simp only[List.length_cons];omega
  ·have:=iU ts P f h hf;rw[LX];cases f t <;> simp only[List.length_cons] <;> omega
theorem BJ {ts:List Expr}{env:Env}(hs:ts.any P=true)(hP:∀t,P t=true->∃y q,t=.Name y q/\(env.kindOf y == some .local)=false):swappedStores [.Tuple ts k p] (.Tuple vs k2 p2) env=pure none:=by
 unfold swappedStores;dsimp only;split
 ·rfl
 ·split
  ·rfl
  ·have hlt:=iU ts P (fun x=>match x with
    | .Name id pos=>if (env.kindOf id == some .local && pos.line == (Option.map (fun x=>x.pos.line) ts.head?).getD 0)=true then some id else none
    | _=>none) hs (fun t ht=>by obtain⟨y,q,rfl,hk⟩:=hP t ht;show (if (env.kindOf y == some .local && _)=true then some y else none)=none;rw[hk,Bool.false_and,KS KD])
   rw[KZ];rw[MZ]
   left
   rw[bne_iff_ne];exact K6 hlt
theorem jU (h:Ba tg x=true):swappedStores [tg] x env=pure none:=by
 cases tg with
 | Tuple ts k p =>
  cases x with
  | Tuple vs k2 p2 =>
   have hs:((ts.any fun t=>!mM t) || vs.all (foldedForSure 8))=true:=h;rw[MZ] at hs;unfold swappedStores;dsimp only;split
   ·rfl
   ·split
    ·rfl
    rcases hs with hs|hs
    rotate_left
    ·split
     ·rfl
     ·first|rfl|rw[KZ hs]
    ·have hlt:=km ts (fun x=>match x with
      | .Name id pos=>if (env.kindOf id == some .local && pos.line == (Option.map (fun x=>x.pos.line) ts.head?).getD 0)=true then some id else none
      | _=>none) hs (fun t ht=>by cases t <;> first|rfl|cases ht)
     rw[KZ];rw[MZ]
     left
     rw[bne_iff_ne];exact K6 hlt
  | _=>rfl
 | Subscript a b p=>cases x <;> rfl
 | _=>cases h
noncomputable def u9:Expr->Bool
 | .Starred ..=>true
 | _=>false
theorem oi (h:ak u=true):u9 u=false:=by cases u <;> first|rfl|cases h
theorem uk (h1:ak u=true)(h2:ak v=true):([u,v].any fun | .Starred ..=>true|_=>false)=false:=by show (u9 u || (u9 v || false))=false;rw[oi h1,oi h2];rfl
theorem zA {env:Env}{px py:Pos}(hb:env.blockKind=.function)(hx:env.kindOf x=some .local)(hy:env.kindOf y=some .local)(hxy:x≠y)(hl:px.line=py.line)(h1:ak u=true)(h2:ak v=true)(h3:(foldedForSure 8 u && foldedForSure 8 v)=false)(h4:(constantsAlone 8 u && constantsAlone 8 v)=false) :
  swappedStores [.Tuple [.Name x px,.Name y py] kt pt] (.Tuple [u,v] k2 pt2) env=pure (some [x,y]):=by
 unfold swappedStores;dsimp only;have e0:(Option.map (fun x=>x.pos.line) [Expr.Name x px,Expr.Name y py].head?).getD 0=px.line:=rfl;have e1:([u,v].any fun | .Starred ..=>true|_=>false)=false:=uk h1 h2;have e2:[u,v].all (foldedForSure 8)=false:=by simpa using h3
 have e3:[u,v].all (constantsAlone 8)=false:=by simpa using h4
 have e4:[x,y].eraseDups.length=2:=by
  have:(y == x)=false:=by simpa using fun z=>hxy z.symm
  simp[List.eraseDups_cons,this]
 rw[KS (by simp[hb]),KS ?h1]
 case h1=>exact fun z=>KD (e1.symm.trans z)
 have e5:(List.filterMap (fun t=>match t with
   | .Name id pos=>if (env.kindOf id == some .local && pos.line == (Option.map (fun x=>x.pos.line) [Expr.Name x px,Expr.Name y py].head?).getD 0)=true then some id else none
   | _=>none) [Expr.Name x px,Expr.Name y py])=[x,y]:=by
  rw[e0];simp[List.filterMap_cons,hx,hy,hl]
 generalize hn:List.filterMap _ [Expr.Name x px,Expr.Name y py]=ns;have hns:ns=[x,y]:=hn.symm.trans e5;subst hns;rw[KS,KS,KS]
 ·rw[e3];decide
 ·rw[e2];decide
 ·rw[e4];simp
section
variable {X:Cx}{c:Cfg}{Γ:Nat->FSp}
theorem Bo {Γ:Nat->FSp}(C:COk X c Γ)(h2:iy c t tg=true)(h3:ay c e x=true)(h:F_ c t e tg x=true):PS X (.Assign [tg] x pos) (TSx X.K (wpS Γ (.set t e))):=by
 have hE:=aR e C _ h3;unfold F_ at h;rw[KW,KW] at h;obtain⟨⟨ht,he⟩,h⟩:=h;replace h:=ao h;obtain⟨y,py,rfl,h⟩:=h;replace h:=gy h;obtain⟨ex,gens,sc,cpos,rfl,h⟩:=h;obtain⟨i,rfl⟩:=wA ht;obtain⟨elt,tg,it,ifs,nt,caps,rfl⟩:=C8 he
 ·have h2:(c.N[i]? == some y && c.loc y)=true:=h2;simp only[Bool.and_eq_true,beq_iff_eq] at h2;obtain⟨g1,g2⟩:=C.locx h2.2;rintro pins s σ H D I ⟨m,ρ,st,rf,rh,w⟩;simp only[Bool.or_eq_true,Bool.and_eq_true,beq_iff_eq,Bool.not_eq_true'] at h;rcases h with h|⟨⟨hl,hp⟩,hn⟩
  ·have hk:=C.cel y (.inl h);have hs:swapsWith (.ListComp ex gens sc cpos) (some (.Name y py)) pos.line X.env=pure false:=by
    unfold swapsWith;have:(X.env.kindOf y == some NameKind.local)=false:=by rcases hk with hk|hk <;> rw[hk] <;> rfl
    simp only[this,Bool.and_false,Bool.false_and]
   rw[vG] at w;refine zm C.ndX (by rw[C.N];exact h2.1) g1 hE hs g2 pins s σ H D I ⟨m,ρ,st,rf,rh,aa C.mono _ (fun v st1 k m1 H1 x1 e1 r1 r2=>?_) w⟩
   try simp only[dr,mn,mW] at k
   exact k m1 H1 _ e1 r1 ((rf.mono e1).set i r2)
  ·have hll:=C.lcl _ hl;have hs:swapsWith (.ListComp ex gens sc cpos) (some (.Name y py)) pos.line X.env=pure true:=by
    unfold swapsWith;have q1:(X.env.kindOf y == some NameKind.local)=true:=by unfold Env.kindOf;rw[hll];rfl
    have q2:(X.env.blockKind == ScopeKind.function)=true:=by rw[C.bk];rfl
    have q3:(py.line == cpos.line)=true:=by rw[hp];simp
    unfold uq at hn;show pure (_ && _ && _ && !_)=_;rw[q1,q2];show pure (true && true && (py.line == cpos.line) && !_)=_;rw[q3,hn];rfl
   replace h3:=gy h3;obtain⟨ex',gs',sc',pos',heq,h3⟩:=h3;cases heq;replace h3:=cq h3;obtain⟨g,rfl,h3⟩:=h3;obtain⟨tx,ix,fx,ia⟩:=g
   ·simp only[Bool.and_eq_true,beq_iff_eq] at h3;obtain⟨⟨⟨⟨⟨⟨⟨⟨h1,h0⟩,k2'⟩,h3⟩,h4⟩,h5⟩,h6⟩,h7⟩,h8⟩:=h3;subst h1;obtain⟨S,k1,k2,k3,k4⟩:=jr C h4;have hC:∀s2 H2 fp A,COk (cxC X (nt++caps.filterMap (X.N[·]?)) s2 H2 fp sc A) (c.inner nt caps sc) Γ:=fun s2 H2 fp A=>uQ C h4
    skip
    rw[exec_Assign_Name_used _ _ _ _ hs];refine KA (wpAny_standAt ?_);refine KA ?_;unfold evalThenUse;refine KA ?_;refine j0 (elt:=elt) (tg:=tg) (ifs:=ifs) (nt:=nt) (caps:=caps) (use:=some (assign (.Name y py) X.env)) (Fin:=fun A H'=>D.nx (σ.set i (some (.ref A))) H') (wi:=TIx X.K (iP Γ it)) C.mono C.calm S rfl k1 k2 k3 k2' h3 (y6 it C _ h0 h5) (fun s2 H2 fp A=>kr tg (hC s2 H2 fp A) _ h6) (fun s2 H2 fp A=>qr ifs (hC s2 H2 fp A) _ h7) (fun s2 H2 fp A=>aR elt (hC s2 H2 fp A) _ h8) I ?_ ?_
    ·refine⟨m,ρ,st,rf,rh,fo C.mono it (fun xs chk st1 z m1 H1 J e1 r1 W=>⟨m1,ρ,st1,xs,chk,rf.mono e1,r1,W,z.1,?_⟩) w⟩;refine cH (body:=dq Γ elt tg ifs (nt.map (fun _=>none)++caps.map fun i=>(ρ[i]?).join)) (fun _ _ _ _ hk q=>iD C.mono hk q) (fun vs st2 k m2 H2 A ys e2 r2 Dm hD0 hD ry=>?_) z.2;have hD1:H A=none:=by
      cases q:H A with
      | none=>rfl
      | some o =>
       by_cases hm:A∈m
       ·exact absurd ((e1.trans e2).pre.subset hm) Dm
       ·exact absurd hD0 (e1.ne hm q)
     try simp only[dr,mn,mW] at k
     exact k _ _ _ ((e1.trans e2).addD hD1) (r2.addD Dm hD ry) ((rf.mono ((e1.trans e2).addD hD1)).set i (R.last r2.len))
    ·intro C' A H' s' m' I' ns fp F;refine wpAny_assign_Name (oR I' C.ndX (by rw[C.N];exact h2.1) g1 (v:=.ref A) rfl (fun s2 I2 hh=>?_) g2);obtain⟨a,hs2,ha⟩:=hh;have hne:C'≠a:=by
      rcases ha with rfl|ha
      ·exact fp.2.1
      ·exact fun q=>fp.2.2.2.2.1 _ _ ha q.symm
     refine⟨m',?_,fun h' hs'=>?_⟩
     ·obtain⟨o,es,ep,q1,q2⟩:=ns;exact⟨o,es,ep,(hs2.2 C' hne).trans q1,q2⟩
     ·refine KC (KC ?_);exact⟨_,H',I2.turned (t':=s2.toks) (fun b o hb e=>hs'.extBut b o hb e) fp.1 fp.2.1 fp.2.2.2.1 fp.2.2.2.2.1 fp.2.2.2.2.2,F⟩
theorem zG {Γ:Nat->FSp}(C:COk X c Γ)(h2:iy c t tg=true)(h3:ay c e x=true)(h:AM c t e tg x=true):PS X (.Assign [tg] x pos) (TSx X.K (wpS Γ (.set t e))):=by unfold AM at h;rw[KW,KW] at h;obtain⟨⟨ht,he⟩,h⟩:=h;replace h:=ao h;obtain⟨y,py,rfl,h⟩:=h;replace h:=AQ h;obtain⟨ek,ev,gens,sc,cpos,rfl,h⟩:=h;obtain⟨i,rfl⟩:=wA ht;obtain⟨kx,vx,tg,wk,d,ifs,nt,caps,rfl⟩:=Da he;have h2:(c.N[i]? == some y && c.loc y)=true:=h2;simp only[Bool.and_eq_true,beq_iff_eq] at h2;obtain⟨g1,g2⟩:=C.locx h2.2;rintro pins s σ H D I ⟨m,ρ,st,rf,rh,w⟩;rw[vG] at w;exact False.elim w
mutual
theorem Ks (C:COk X c Γ):∀(e:S) (x:Stmt),HC c e x=true->PS X x (TSx X.K (wpS Γ e))
 | .set t e,x,h=>by
  replace h:=pj h;obtain⟨tg,x,pos,rfl,h⟩:=h
  ·simp only[Bool.and_eq_true,Bool.or_eq_true] at h;obtain⟨⟨h2,h3⟩,h14⟩:=h;rcases h14 with⟨h1,h4⟩|h14|h14|h14
   rotate_left
   ·exact Bo C h2 h3 h14
   rotate_left
   ·exact zG C h2 h3 h14
   rotate_right
   ·have hE:=aR e C _ h3;have hG:=kr t C _ h2;rintro pins s σ H D I ⟨m,ρ,st,rf,rh,w⟩
    skip
    have rd:Cw (TEx X.K (wpE Γ e)) (TGx X.K (bD Γ t)) D σ H:=⟨m,ρ,st,rf,rh,aa C.mono e (fun v st1 k m1 H1 x1 e1 r1 r2=>⟨m1,ρ,st1,v,rf.mono e1,r1,r2,aO C.mono t (fun _ _ q=>q.ext e1) k⟩) w⟩;obtain⟨ts,k,p,rfl,h14⟩:=bh h14;rcases Bool.or_eq_true_iff.mp h14 with h14|h14
    ·obtain⟨a,b,d,f,rfl,_⟩:=gy h14;exact ma hE hG rfl rfl rfl pins s σ H D I rd
    ·obtain⟨us,k2,p2,rfl,h14⟩:=bh h14;refine ma hE hG rfl (BJ (P:=HD c) h14 fun t ht=>?_) rfl pins s σ H D I rd;obtain⟨y,q,rfl,hy⟩:=ao (show aA t _=true from ht);refine⟨y,q,rfl,?_⟩;rcases C.cel y (.inl (by simpa using hy)) with hk|hk <;> rw[hk] <;> rfl
   ·have hE:=aR e C _ h3;have hG:=kr t C _ h2;rintro pins s σ H D I ⟨m,ρ,st,rf,rh,w⟩
    skip
    have rd:Cw (TEx X.K (wpE Γ e)) (TGx X.K (bD Γ t)) D σ H:=⟨m,ρ,st,rf,rh,aa C.mono e (fun v st1 k m1 H1 x1 e1 r1 r2=>⟨m1,ρ,st1,v,rf.mono e1,r1,r2,aO C.mono t (fun _ _ q=>q.ext e1) k⟩) w⟩;cases t with
    | name i =>
     obtain⟨y,p,rfl,h2⟩:=ao h2;have h2:=Bool.and_eq_true_iff.mp h2;obtain⟨g1,g2⟩:=C.locx h2.2;refine zm C.ndX (by rw[C.N];exact beq_iff_eq.mp h2.1) g1 hE (gA h1) g2 pins s σ H D I ⟨m,ρ,st,rf,rh,aa C.mono e (fun v st1 k m1 H1 x1 e1 r1 r2=>?_) w⟩
     try simp only[dr,mn,mW] at k
     exact k m1 H1 _ e1 r1 ((rf.mono e1).set i r2)
    | tup ts =>obtain⟨xs,k,p,rfl,_⟩:=bh h2;exact ma hE hG (gq h1) (jU (by rcases h4 with h4|h4;cases h4;exact h4)) rfl pins s σ H D I rd
    | ltup ts =>obtain⟨xs,k,p,rfl,_⟩:=bh h2;exact ma hE hG (gq h1) (jU (by rcases h4 with h4|h4;cases h4;exact h4)) rfl pins s σ H D I rd
    | sub o i =>obtain⟨l,r,p,rfl,_⟩:=dH h2;exact ma hE hG (gq h1) (jU (by rcases h4 with h4|h4;cases h4;exact h4)) rfl pins s σ H D I rd
 | .par i j a b,x,h=>by
  replace h:=pj h;obtain⟨tg,vx,pos,rfl,h⟩:=h;replace h:=bh h;obtain⟨ts,k,p1,rfl,h⟩:=h;replace h:=gY h;obtain⟨ta,tb,rfl,h⟩:=h;replace h:=ao h;obtain⟨x,px,rfl,h⟩:=h;replace h:=ao h;obtain⟨y,py,rfl,h⟩:=h;replace h:=bh h;obtain⟨us,k2,p2,rfl,h⟩:=h;replace h:=gY h;obtain⟨u,v,rfl,h⟩:=h
  ·simp only[Bool.and_eq_true,beq_iff_eq,Bool.not_eq_true',beq_eq_false_iff_ne] at h;obtain⟨⟨⟨⟨⟨⟨⟨⟨⟨⟨⟨⟨h1,h2⟩,h3⟩,h4⟩,h5⟩,h6⟩,h7⟩,h8⟩,h9⟩,h10⟩,h11⟩,h12⟩,h13⟩:=h;have hx:=C.lcl _ h5;have hy:=C.lcl _ h6;rintro pins s σ H D I ⟨m,ρ,st,rf,rh,w⟩
   skip
   refine FY C.calm C.ndX (by rw[C.N];exact h1) (by rw[C.N];exact h2) h3 hx hy (pac (aR a C _ h12) (pac (aR b C _ h13) eW h9) h8)
    (zA C.bk hx hy h4 h7 h8 h9 h10 h11) rfl pins s σ H D I ⟨m,ρ,st,rf,rh,aa C.mono a (fun v st1 k m1 H1 x1 e1 r1 r2=>⟨m1,ρ,st1,rf.mono e1,r1,
    aa C.mono b (fun u st2 k2 m2 H2 y2 e2 r3 r4=>⟨x1,y2,rfl,?_⟩) k⟩) w⟩
   exact k2 m2 H2 _ (e1.trans e2) r3 ((((rf.mono e1).mono e2).set i (r2.mono e2)).set j r4)
 | .aug i op e,x,h=>by
  replace h:=xU h;obtain⟨t,o,x,p,rfl,h⟩:=h;replace h:=ao h;obtain⟨y,py,rfl,h⟩:=h
  ·simp only[Bool.and_eq_true,beq_iff_eq] at h;obtain⟨⟨⟨h1,h2⟩,h3⟩,h4⟩:=h;subst h3;obtain⟨g1,g2⟩:=C.locx h2;rintro pins s σ H D I ⟨m,ρ,st,rf,rh,w⟩
   skip
   obtain⟨v,ev,w⟩:=w;obtain⟨y,ey,ry⟩:=rf.at_ i v ev;refine Gy C.ndX (by rw[C.N];exact h1) g1 (aR e C _ h4) (FN _) g2 pins s σ H D I ⟨y,ey,m,ρ,st,rf,rh,aa C.mono e (fun u st1 k m1 H1 x1 e1 r1 r2=>⟨m1,st1,v,u,r1,ry.mono e1,r2,o_ (fun z st2 q m2 H2 z2 e2 r3 r4=>?_) k⟩) w⟩;exact q m2 H2 _ (e1.trans e2) r3 (((rf.mono e1).mono e2).set i r4)
 | .expr e,x,h=>by
  replace h:=Bh h;obtain⟨x,p,rfl,h⟩:=h
  ·simp only[Bool.and_eq_true] at h;rintro pins s σ H D I ⟨m,ρ,st,rf,rh,w⟩
   skip
   exact CS (aR e C _ h.2) (gA h.1) pins s σ H D I ⟨m,ρ,st,rf,rh,aa C.mono e (fun u st1 k m1 H1 x1 e1 r1 r2=>k m1 H1 σ e1 r1 (rf.mono e1)) w⟩
 | .ret e,x,h=>by
  replace h:=oX h;obtain⟨o,p,rfl,h⟩:=h;replace h:=iC h;obtain⟨x,rfl,h⟩:=h
  ·rintro pins s σ H D I ⟨m,ρ,st,rf,rh,w⟩
   skip
   exact Gj (aR e C _ h) pins s σ H D I ⟨m,ρ,st,rf,rh,w⟩
 | .retN,x,h=>by
  replace h:=oX h;obtain⟨o,p,rfl,h⟩:=h;replace h:=xF h;obtain rfl:=h
  ·rintro pins s σ H D I ⟨m,ρ,st,rf,rh,w⟩
   skip
   exact CA pins s σ H D I (post.here w rh (R_non.mpr rfl))
 | .ifS t a b,x,h=>by
  replace h:=zV h;obtain⟨x,ys,zs,p,rfl,h⟩:=h
  ·simp only[Bool.and_eq_true] at h;obtain⟨⟨h1,h2⟩,h3⟩:=h;rintro pins s σ H D I ⟨m,ρ,st,rf,rh,w⟩
   skip
   refine Hy (nQ t C _ h1) (kq C a _ h2) (kq C b _ h3) pins s σ H D I ⟨m,ρ,st,rf,rh,aT C.mono t (fun k st1 z m1 H1 e1 r1=>?_) w⟩;cases k with
   | true=>rw[KZ rfl] at z |-;exact⟨m1,ρ,st1,rf.mono e1,r1,aN C.mono a (AE.ext e1) z⟩
   | false=>rw[KS KD] at z |-;exact⟨m1,ρ,st1,rf.mono e1,r1,aN C.mono b (AE.ext e1) z⟩
 | .whileS t b,x,h=>by
  replace h:=tM h;obtain⟨x,ys,p,rfl,h⟩:=h
  ·simp only[Bool.and_eq_true] at h;intro pins s σ H D I w;exact Bk C.pass (nQ t C _ h.1) (kq C b _ h.2) pins s σ H D I (xk C.mono w)
 | .forS t it b,x,h=>by
  replace h:=oN h;obtain⟨tg,x,ys,p,rfl,h⟩:=h
  ·simp only[Bool.and_eq_true] at h;obtain⟨⟨⟨⟨h0,h1⟩,h2⟩,h3⟩,h4⟩:=h;intro pins s σ H D I w;exact Bq C.pass C.calm (y6 it C _ h0 h3) (kr t C _ h2) (kq C b _ h4) (lO h1) pins s σ H D I (Cz C.mono w)
 | .forK t wk e b,x,h=>by replace h:=oN h;obtain⟨tg,x,ys,p,rfl,h⟩:=h;simp only[Bool.and_eq_true] at h;obtain⟨⟨⟨⟨h0,h1⟩,h2⟩,h3⟩,h4⟩:=h;intro pins s σ H D I w;exact thn (Bq C.pass C.calm (JB C h0 h3 fun y hy=>aR e C y hy) (kr t C _ h2) (kq C b _ h4) (lO h1) pins s σ H (EF X D) I (zd C.mono w)) fun f s' hh=>CT hh
 | .bad,x,h=>by rintro pins s σ H D I ⟨m,ρ,st,rf,rh,w⟩;exact False.elim w
 | .set2 i j e,x,h=>by
  replace h:=lB h;obtain⟨ts,v,pos,rfl,h⟩:=h;replace h:=gY h;obtain⟨ta,tb,rfl,h⟩:=h;replace h:=ao h;obtain⟨x,px,rfl,h⟩:=h;replace h:=ao h;obtain⟨y,py,rfl,h⟩:=h
  ·simp only[Bool.and_eq_true,beq_iff_eq,Bool.not_eq_true',beq_eq_false_iff_ne] at h;obtain⟨⟨⟨⟨⟨⟨h1,h2⟩,h3⟩,h4⟩,h5⟩,h6⟩,h7⟩:=h;obtain⟨a1,a2⟩:=C.locx h4;obtain⟨b1,b2⟩:=C.locx h5;rintro pins s σ H D I ⟨m,ρ,st,rf,rh,w⟩
   skip
   refine wpAny_Assign_two (thn (aR e C _ h7 pins s σ H (fun y H1=>D.nx ((σ.set i (some y)).set j (some y)) H1) I ⟨m,ρ,st,rf,rh,aa C.mono e (fun v st1 k m1 H1 x1 e1 r1 r2=>k m1 H1 _ e1 r1 (((rf.mono e1).set i r2).set j r2)) w⟩) fun v s1 ⟨y,H1,I1,r1,q1⟩=>?_) rfl rfl;refine PySem.wpAny_assign_Name ?_;refine eA I1 C.ndX (by rw[C.N];exact h1) a1 r1 (fun s2 I2=>?_) a2;refine PySem.wpAny_assign_Name ?_;exact eA I2 C.ndX (by rw[C.N];exact h2) b1 r1 (fun s3 I3=>⟨_,H1,I3,q1⟩) b2
 | .pass,x,h=>by
  replace h:=uE h;obtain⟨p,rfl⟩:=h
  ·rintro pins s σ H D I ⟨m,ρ,st,rf,rh,w⟩
   skip
   exact Ct pins s σ H D I (postF.here w rh rf)
 | .brk,x,h=>by
  replace h:=xG h;obtain⟨p,rfl⟩:=h
  ·rintro pins s σ H D I ⟨m,ρ,st,rf,rh,w⟩
   skip
   exact Bp pins s σ H D I (postF.here w rh rf)
 | .cont,x,h=>by
  replace h:=t7 h;obtain⟨p,rfl⟩:=h
  ·rintro pins s σ H D I ⟨m,ρ,st,rf,rh,w⟩
   skip
   exact sT pins s σ H D I (postF.here w rh rf)
theorem kq (C:COk X c Γ):∀(e:Ss) (x:List Stmt),aB c e x=true->PSs X x (TSx X.K (aw Γ e))
 | .nil,x,h=>by
  have h:x.isEmpty=true:=h;cases x with
  | nil =>
   rintro pins s σ H D I ⟨m,ρ,st,rf,rh,w⟩
   skip
   exact CL pins s σ H D I (postF.here w rh rf)
  | cons _ _=>cases h
 | .cons e es,x,h=>by
  replace h:=aJ h;obtain⟨y,ys,rfl,h⟩:=h
  ·simp only[Bool.and_eq_true] at h;rintro pins s σ H D I ⟨m,ρ,st,rf,rh,w⟩
   skip
   refine yh (Ks C e _ h.1) (kq C es _ h.2) pins s σ H D I ⟨m,ρ,st,rf,rh,c5 C.mono e ?_ w⟩;exact⟨fun ρ1 st1 k m1 H1 σ1 e1 r1 f1=>⟨m1,ρ1,st1,f1,r1,aN C.mono es (AE.ext e1) k⟩,fun _ _ q=>q,fun _ _ q=>q,fun _ _ q=>q⟩
end
structure GOk (P:Program)(w:World)(K:W.Frag)(mg:Str->Option Value)(base:Heap)(c:Cfg)(Γ:Nat->FSp):Prop where
 fn:∀f x,f<c.lim->c.fns[f]?=some x->∃ps,Has P w K mg base (f+1) x ps (dR K (Γ f))
 blt:∀x∈c.blts,mg x=none
 gl:∀x v,c.gl.lookup x=some v->∃u y,mg x=some u/\RelV y u/\∀m H,R K m H v y
 mono:bc Γ
noncomputable def frame (n:Nat)(as:List PV):Fr:=as.map some++List.replicate (n-as.length) none
noncomputable def ah (st:AH)(Q:EK):aX:={ nx:=fun _ st'=>Ret st Q .non st',rt:=Ret st Q }
theorem i3 (rh:RH K m H st)(q:Ret st (post K m H Q) v st'):post K m H Q v st':=by
 rcases q with q|q
 ·exact q
 ·intro m' H' x e r s;obtain⟨st1,q,e2,r3,r4⟩:=qV rh e r s q;exact q m H' x e2 r3 r4
theorem rB {N:List Str}(r:Rs K m H as vs):RF K m H (frame N.length as) (L2.start N vs):=by
 have hl:=r.len;refine⟨by simp[frame,L2.start,hl],fun i v e=>?_⟩;unfold frame at e;unfold L2.start;by_cases hi:i<as.length
 ·rw[K3 (by simpa using hi),KM] at e;cases q:as[i]? with
  | none=>rw[q] at e;cases e
  | some a =>rw[q] at e;cases e;obtain⟨y,e1,r1⟩:=r.get q;exact⟨y,by rw[K3 (by simp;omega),KM,e1];rfl,r1⟩
 ·rw[K8 (by simpa using hi),List.getElem?_replicate] at e;split at e <;> cases e
theorem Ae {P:Program}{w:World}{K:W.Frag}{mg:Str->Option Value}{base:Heap}{x:Str}{st:Stmt}{N ps:List Str}(S:aj N ps (ae st)){f:Addr}{cdv:Value}{A:Around}{outer:List Env}{s:Shared}{H:Hp}{E:XK}
  (hN:c.N=N) (hn:c.names=(ae st).names) (hr:Room c.lim (A.deeper (envOfC x (ae st) s.heap.objs.size f cdv))) (G:GOk P w K mg base c Γ)
  (lam:c.pc=true->∀ {pins:List (Addr × Obj)}{σ:L2.St}{H2:Hp}{s2:Shared}{b:Addr}{u:Value}{v:V}{Q:VK},L2.Inv (jF CX0 P w K mg base N x (ae st) f cdv A outer s H E).nox pins σ H2 s2->RelV v u->dR K (Γ 1000) [.ref b,v] H2 Q E0 ->
   W.FnAt b s2.heap/\wpAny (model P w) (jF CX0 P w K mg base N x (ae st) f cdv A outer s H E).nox.A (call (.ref b) [u]) (EP (jF CX0 P w K mg base N x (ae st) f cdv A outer s H E).nox pins σ Q) (jF CX0 P w K mg base N x (ae st) f cdv A outer s H E).nox.xe s2)
  (hmo:∀k,c.hm=some k->HmX (jF CX0 P w K mg base N x (ae st) f cdv A outer s H E).nox k) :
  COk (jF CX0 P w K mg base N x (ae st) f cdv A outer s H E).nox c Γ where
 calm:=rfl
 pass:=PassesOwn.never
 N:=hN.symm
 nd:=by rw[hN];exact S.nd
 vis:=fun y h=>by rw[hn] at h;exact h
 loc:=fun y h=>by rw[hn] at h;exact⟨h,.inl rfl⟩
 lcl:=fun y h=>by rw[hn] at h;exact h
 glb:=fun y h=>by rw[hn] at h;exact h
 bk:=by show Env.blockKind (envOfC x (ae st) s.heap.objs.size f cdv)=_;unfold Env.blockKind;show (if (ae st).kind.isAnnotationScope=true then _ else (ae st).kind)=_;rw[S.kind];rfl
 cel:=fun y h=>by rw[hn] at h;exact h
 room:=hr
 fn:=G.fn
 blt:=G.blt
 gl:=G.gl
 mono:=G.mono
 lam:=lam
 hmo:=hmo
theorem GK {code:Ss}(F:At K mg x st ps)(S:aj N ps (ae st))(hN:c.N=N)(hn:c.names=(ae st).names)(hc:aB c code (ai st)=true)(G:GOk P w K mg base c Γ)(len:∀as st Q,sp as st Q->as.length=ps.length)(h:∀as st Q,sp as st Q->aw Γ code (frame N.length as) st (ah st Q))(hpc:c.pc=false:=by rfl)(hhm:c.hm=none:=by rfl):Has P w K mg base (c.lim+1) x ps (dR K sp):=by
 refine F.ok S (fun vs H Q E ⟨m,st,as,r1,r2,q⟩=>by rw[<-r1.len];exact len as st _ q) fun f cdv A outer s H vs Q E hr ⟨m,st',as,r1,r2,q⟩=>?_;have C:=Ae (E:=E) (H:=H) (outer:=outer) (Γ:=Γ) S hN hn hr G (fun z=>by rw[hpc] at z;cases z) fun k z=>by rw[hhm] at z;cases z
 refine⟨_,kq C code _ hc,m,frame N.length as,st',rB r1,r2,aN G.mono code ?_ (h as st' _ q)⟩;exact⟨fun ρ st2 k m' H' σ' e r f=>i3 r2 k m' H' .non e r (R_non.mpr rfl),fun v st2 k=>i3 r2 k,fun _ _ k=>k.elim,fun _ _ k=>k.elim⟩
end
end FW
namespace FW
open L2 HX
section
variable {P:Program}{w:World}{K:W.Frag}{mg:Str->Option Value}{base:Heap}{c c':Cfg}{Γ:Nat->FSp}
theorem GOk.next (G:GOk P w K mg base c Γ)(h1:c'.fns=c.fns)(h2:c'.lim=c.lim+1)(h3:c'.blts=c.blts)(h4:c'.gl=c.gl){x:Str}{ps:List Str}(hx:c.fns[c.lim]?=some x)(H:Has P w K mg base (c.lim+1) x ps (dR K (Γ c.lim))):GOk P w K mg base c' Γ where
 fn:=fun f y hf e=>by
  rw[h1] at e;rw[h2] at hf;by_cases hl:f<c.lim
  ·exact G.fn f y hl e
  ·have:f=c.lim:=by omega
   subst this;rw[hx] at e;cases e;exact⟨ps,H⟩
 blt:=by rw[h3];exact G.blt
 gl:=by rw[h4];exact G.gl
 mono:=G.mono
theorem CJ {qual:Str}{code:Ss}(F:Fun K x x st f fd)(S:aj N ps (ae st))(hN:c.N=N)(hn:c.names=(ae st).names)(hc:aB c code (ai st)=true)(G:GOk P w K mg base c Γ)(len:∀as st Q,sp as st Q->as.length=ps.length)(h:∀as st Q,sp as st Q->aw Γ code (frame N.length as) st (ah st Q))(hpc:c.pc=false:=by rfl)(hhm:c.hm=none:=by rfl):nO P w K mg base CX0 (c.lim+1) f fd ps (dR K sp):=by
 refine F.ok S (fun vs H Q E ⟨m,st,as,r1,r2,q⟩=>by rw[<-r1.len];exact len as st _ q) fun cdv A outer s H vs Q E hr ⟨m,st',as,r1,r2,q⟩=>?_;have C:=Ae (E:=E) (H:=H) (outer:=outer) (Γ:=Γ) S hN hn hr G (fun z=>by rw[hpc] at z;cases z) fun k z=>by rw[hhm] at z;cases z
 refine⟨_,kq C code _ hc,m,frame N.length as,st',rB r1,r2,aN G.mono code ?_ (h as st' _ q)⟩;exact⟨fun ρ st2 k m' H' σ' e r f=>i3 r2 k m' H' .non e r (R_non.mpr rfl),fun v st2 k=>i3 r2 k,fun _ _ k=>k.elim,fun _ _ k=>k.elim⟩
end
def iw:FSp:=fun as st Q=>∃ns:List Int,as=[.rdl (ns.map PV.int)]/\ns.length<=63/\∀st',Q (.bl true) st'
theorem vL:∀ {ns:List Int},Rs K m H (ns.map PV.int) (ns.map V.int)
 | []=>by rw[LW,LW,Rs_nil]
 | n::ns=>by rw[KG,KG,Rs_cons',R_int];exact⟨rfl,vL⟩
structure GH (K:W.Frag)(h:Heap):Prop where
 at_:∀x∈a_,∀c T,W.tabIn K x=some (c,T)->W.CodeHd h c T/\h.get? T=some (W.tabObj #[])
structure Do (K:W.Frag):Prop where
 sys:K.lookup sysModules=none
 at_:∀x∈a_,∀c T,W.tabIn K x=some (c,T)->K.lookup T=none/\∀y∈a_,∀d,W.tabIn K y=some (d,T)->y=x
structure lu (K:W.Frag)(mg:Str->Option Value)(base:Heap):Prop where
 hd:∀x∈a_,∀c T,W.tabIn K x=some (c,T)->W.CodeHd base c T
 bm:∃bm ob,mg "__builtins__"=some (.ref bm)/\bm≠builtinsNs/\base.get? bm=some ob/\ob.cls=.type "module"/\ob.dict=some builtinsNs/\ob.data=.plain
theorem Aw {ns:List Int}(hl:ns.length<=63)(hO:∀ys,H a≠some (.lst ys))(hS:SqL K H a (ns.map V.int))(tb:TB K H):dR K iw [.ref a] H (fun v _=>v=.bl true) fun _ _ _=>False:=by
 have hF:RdF K H a (ns.map V.int):=by
  rcases hS with (h|h)|h
  ·exact absurd h (hO _)
  ·exact .inl h
  ·exact .inr h
 refine⟨[],[],[.rdl (ns.map PV.int)],?_,⟨rfl,OS,fun n c a h=>by simp at h,tb⟩,ns,rfl,hl,fun st' m' H' x e r s=>R_bl.mp s⟩;rw[Rs_cons',Rs_nil,eD];exact⟨⟨a,_,rfl,hF,vL⟩,rfl⟩
def mR (K:W.Frag)(b:Addr):Prop:=∃x∈a_,∃c,W.tabIn K x=some (c,b)
open Classical in
noncomputable def d_ (K:W.Frag)(a:Addr)(so:Obj)(scr:Option HO):Hp:=fun b=>if b=a then scr else if mR K b then some (.tbl #[]) else if b=sysModules then some (.frz so (.own 0)) else none
theorem xm {K:W.Frag}{x:Str}{s₁:Shared}{vs:List Value}(KX:K.In s₁.heap)(hns:s₁.heap.Ns mainGlobals mg)(hb:s₁.heap.Ns builtinsNs mb)(hbb:∀x:Str,x≠"__name__"->mb x=bootBuiltins x)(hlim:s₁.heap.NoLimit)(hg:s₁.gens=#[])(hsys:∃so es ep,s₁.heap.get? sysModules=some so/\so.data=.dict es ep)(LT:GH K s₁.heap)(LK:Do K)(hbm:∃bm ob,mg "__builtins__"=some (.ref bm)/\bm≠builtinsNs/\s₁.heap.get? bm=some ob/\ob.cls=.type "module"/\ob.dict=some builtinsNs/\ob.data=.plain)(ha:s₁.heap.get? a=some { cls:=.type "list",data:=.seq vs.toArray })(hi:IntsAre vs ns)(hl:ns.length<=63)(hr:Room k callerA)(F:∀base:Heap,K.In base->base.Ns mainGlobals mg->lu K mg base->nO P w K mg base CX0 k fa fd [x] (dR K iw))(hbind:∀(s:Shared) (u:Value),BindsTo s fd ⟨[u],[]⟩ [(x,u)]) :
  codeAny (model P w) callerA (.call (.ref fa) ⟨[.ref a],[]⟩) (fun r s'=>r=.ok (.ret (.bool true))/\OldK s₁.heap s'.heap/\s'.os=s₁.os/\AllBare s'.gens) s₁:=by
 have rv:=ou hi;have lenV:=hi.length;have hl2:ns.length<=sizeLine:=K_ hl (by decide);have tabAt:∀ {b:Addr},mR K b->s₁.heap.get? b=some (W.tabObj #[]):=fun ⟨x,hx,c,e⟩=>(LT.at_ x hx c _ e).2;obtain⟨so,ses,sep,hso0,hsod⟩:=hsys;have naT:¬mR K a:=fun z=>by have e:=tabAt z;rw[ha] at e;cases e
 have core:∀scr:Option HO,(∀ys,scr≠some (.lst ys))->SqL K (d_ K a so scr) a (ns.map V.int)->(∀u,scr=some u->(∃o xs,u=.frz o (.lst xs))/\ObjOk P w (d_ K a so scr) s₁.heap a u)->(scr≠none->K.lookup a=none) ->
   codeAny (model P w) callerA (.call (.ref fa) ⟨[.ref a],[]⟩) (fun r s'=>r=.ok (.ret (.bool true))/\OldK s₁.heap s'.heap/\s'.os=s₁.os/\AllBare s'.gens) s₁:=by
  intro scr hscr hS hso hK;have atA:d_ K a so scr a=scr:=KZ rfl;have atT:∀ {b:Addr},mR K b->d_ K a so scr b=some (.tbl #[]):=fun {b} z=>by have:b≠a:=fun q=>naT (q ▸ z);exact(KS this).trans (KZ z)
  have nsA:sysModules≠a:=fun z=>by rw[z,ha] at hso0;cases hso0;cases hsod
  have nsT:¬mR K sysModules:=fun z=>by have e:=tabAt z;rw[hso0] at e;cases e;cases hsod
  have atS:d_ K a so scr sysModules=some (.frz so (.own 0)):=(KS nsA).trans ((KS nsT).trans (KZ rfl));have cs:∀b,d_ K a so scr b≠none->(b=a/\scr≠none)\/mR K b\/b=sysModules:=fun b z=>by
   by_cases h1:b=a
   ·exact .inl ⟨h1,by rw[h1,atA] at z;exact z⟩
   ·by_cases h2:mR K b
    ·exact .inr (.inl h2)
    ·by_cases h3:b=sysModules
     ·exact .inr (.inr h3)
     ·exact absurd ((KS h1).trans ((KS h2).trans (KS h3))) z
  have hok:HOk P w (d_ K a so scr) s₁.heap:=fun b u e=>by
   rcases cs b (by rw[e];simp) with⟨rfl,z⟩|z|rfl
   ·rw[atA] at e;exact(hso u e).2
   ·rw[atT z] at e;cases e;exact tabAt z
   ·rw[atS] at e;cases e;exact⟨hso0,_,hso0⟩
  have base_of:∀ {b:Addr}{o:Obj},s₁.heap.get? b=some o->d_ K a so scr b=none->(n6 s₁.heap (d_ K a so scr)).get? b=some o:=fun e n=>yA e n;have noD:∀ {b:Addr}{o:Obj},s₁.heap.get? b=some o->(∀its n,o.data≠.seq its n)->(∀qs,o.data≠.fields qs)->b≠sysModules->d_ K a so scr b=none:=fun {b o} e n1 n2 n3=>by
   cases q:d_ K a so scr b with
   | none=>rfl
   | some u =>
    rcases cs b (by rw[q];simp) with⟨rfl,_⟩|z|z
    ·rw[ha] at e;cases e;exact absurd rfl (n1 _ _)
    ·rw[tabAt z] at e;cases e;exact absurd rfl (n2 _)
    ·exact absurd z n3
  have nsK:∀ {b:Addr}{m:Str->Option Value},b≠sysModules->s₁.heap.Ns b m->(n6 s₁.heap (d_ K a so scr)).Ns b m:=fun {b m} nb ⟨o,es,ep,e,d,r⟩=>⟨o,es,ep,base_of e (noD e (fun _ _ z=>by rw[d] at z;cases z) (fun _ z=>by rw[d] at z;cases z) nb),d,r⟩;have hKn:∀ {b:Addr}{o:Obj},K.lookup b=some o->d_ K a so scr b=none:=fun {b o} e=>by
   cases q:d_ K a so scr b with
   | none=>rfl
   | some u =>
    rcases cs b (by rw[q];simp) with⟨rfl,z⟩|⟨x,hx,c,z⟩|rfl
    ·rw[hK z] at e;cases e
    ·rw[(LK.at_ x hx c _ z).1] at e;cases e
    ·rw[LK.sys] at e;cases e
  have hKb:K.In (n6 s₁.heap (d_ K a so scr)):=fun b o e=>base_of (KX b o e) (hKn e);have hM:Mod K mg (n6 s₁.heap (d_ K a so scr)):=⟨hKb,nsK (by decide) hns,⟨mb,nsK (by decide) hb,hbb⟩,let ⟨mc,h1,h2⟩:=hlim;⟨mc,nsK (by decide) h1,h2⟩⟩;have e0:xD P w K mg (n6 s₁.heap (d_ K a so scr)) callerA [] s₁ (d_ K a so scr):=⟨rfl,hM,fun b o e=>B1 e,Nat.le_of_eq (xK _ _),trivial,fun b hb=>absurd (show b∈([]:List Addr) from hb) (by simp),hok,.of_eq hg⟩;have hB:lu K mg (n6 s₁.heap (d_ K a so scr)):=by
   refine⟨fun x hx c T e=>?_,?_⟩
   ·obtain⟨o,vs',file,tf,flags,tg,inF,text,tt,q,r⟩:=(LT.at_ x hx c T e).1;have kc:∃oc,K.lookup c=some oc:=by
     have e':=e;unfold W.tabIn at e';split at e'
     ·split at e'
      ·split at e'
       ·split at e'
        ·rename_i hh;split at e'
         ·cases e';exact⟨_,hh⟩
         ·cases e'
        ·cases e'
       ·cases e'
      ·cases e'
     ·cases e'
    obtain⟨oc,kc⟩:=kc;exact⟨o,vs',file,tf,flags,tg,inF,text,tt,base_of q (hKn kc),r⟩
   ·obtain⟨bm,ob,b1,b2,b3,b4,b5,b6⟩:=hbm;exact⟨bm,ob,b1,b2,base_of b3 (noD b3 (fun _ _ z=>by rw[b6] at z;cases z) (fun _ z=>by rw[b6] at z;cases z) fun z=>by rw[z,hso0] at b3;cases b3;rw[hsod] at b6;cases b6),b4,b5,b6⟩
  have tb:TB K (d_ K a so scr):=⟨fun x hx c T e=>⟨(LK.at_ x hx c T e).2,#[],atT ⟨x,hx,c,e⟩,trivial,fun pos cv q=>by cases q⟩,so,atS⟩;refine codeAny_mono ((F _ hKb (nsK (by decide) hns) hB).run callerA [] s₁ (d_ K a so scr) ⟨[.ref a],[]⟩ [.ref a] [.ref a] _ _ hr e0 (hbind s₁ (.ref a)) (.cons rfl .nil) (Aw hl (by rw[atA];exact hscr) hS tb)) fun r s' h=>?_;cases r with
  | error e=>exact False.elim h
  | ok fl =>
   cases fl with
   | next=>exact False.elim h
   | brk=>exact False.elim h
   | cont=>exact False.elim h
   | ret u =>
    obtain⟨v,H',os,bare,un,hok',r',q⟩:=h;have q':v=.bl true:=q;subst q';obtain rfl:u=Value.bool true:=r';refine⟨rfl,⟨fun b o e=>?_,fun b o e=>un.there b o e (by simp)⟩,os,bare⟩;cases q:d_ K a so scr b with
    | none=>exact .inl (un.keep b o e q (by intro z;exact absurd (show b∈([]:List Addr) from z) (by simp)) (by simp))
    | some u =>
     rcases cs b (by rw[q];simp) with⟨rfl,z⟩|z|rfl
     ·rw[atA] at q;obtain⟨⟨ob,xs,rfl⟩,_⟩:=hso u q;have z1:d_ K b so scr b=some (.frz ob (.lst xs)):=by rw[atA];exact q
      have z2:=un.frzs b ob _ z1;obtain⟨e1,_⟩:=hok b _ z1;obtain⟨e2,_⟩:=hok' b _ z2;rw[e] at e1;cases e1;exact .inl e2
     ·obtain⟨more,z2⟩:=un.tbls b _ (atT z);have e1:=tabAt z;rw[e] at e1;cases e1;have e2:s'.heap.get? b=some { cls:=.none,data:=.fields (#[]++more) }:=hok' b _ z2;obtain⟨x,hx,c,et⟩:=z;have ht0:=(LT.at_ x hx c b et);exact .inr (.inl ⟨(ht0.1.tab ht0.2).isCodeTable,rfl,#[],more,rfl,e2⟩)
     ·have z2:=un.frzs _ _ _ atS;obtain⟨e2,_⟩:=hok' _ _ z2;rw[e] at hso0;cases hso0;exact .inl e2
 cases hk:K.lookup a with
 | some o =>have e:=KX a o hk;rw[ha] at e;cases e;refine core none (fun _ z=>nomatch z) (.inr ⟨_,vs.toArray,_,hk,rfl,rfl,rfl,by rw[K2,lenV];exact hl2,by simpa using rv⟩) (fun u z=>nomatch z) fun z=>absurd rfl z
 | none =>refine core (some (.frz { cls:=.type "list",data:=.seq vs.toArray } (.lst (ns.map V.int)))) (fun _ z=>nomatch z) (.inl (.inr ⟨{ cls:=.type "list",data:=.seq vs.toArray },KZ rfl⟩)) (fun u z=>?_) fun _=>hk;cases z;exact⟨⟨_,_,rfl⟩,ha,by rw[KH];exact hl2,vs,_,rv,ha⟩
theorem walkF {l:W.OpenLaw}{YP:World->Heap->Prop}{d:DefRec}{K:Params->W.Frag}{x:Str}(hi:importsNone q=true)(hn:l.most=some 63)(hdf:d.params.defaults=[])(hr:Room k callerA)(hY:∀(w:World) (h:Heap),YP w h->(K w.params).In h)(F:∀(w:World) (mg:Str->Option Value) (fa:Addr) (h:Heap),(K w.params).In h->h.Ns mainGlobals mg->mg d.name=some (.ref fa) ->
   ∃fd:FuncData,(∀(s:Shared) (u:Value),BindsTo s fd ⟨[u],[]⟩ [(x,u)])/\Do (K w.params)/\(∀x∈a_,W.tabIn (K w.params) x=none\/∃d,(recsOf q).find? (fun e=>e.name == x)=some d)/\∀base:Heap,(K w.params).In base->base.Ns mainGlobals mg->lu (K w.params) mg base->nO l.prog w (K w.params) mg base CX0 k fa fd [x] (dR (K w.params) iw)) :
  W.WalkO q loose XP YP l.row.toRowW d [] (fun f vs=>PySem.call f vs):=by
 refine Att.attach_call hn hdf fun w s₀ s₁ mg mb fa o pm cd doc a vs ns G Y ho hd hcd hmg hobj hints hlen hg=>?_;have KX:=hY w _ Y;obtain⟨fd,hb,hK,hq,hF⟩:=F w mg fa _ KX G.T.g hmg;obtain⟨mm,⟨so,es,ep,e1,e2,_⟩,_⟩:=(G.T.seer hi).mods;refine xm KX G.T.g G.T.b G.T.builtins G.T.nolimit hg ⟨so,es,ep,e1,e2⟩ ⟨fun x hx c T e=>?_⟩ hK G.T.bmain hobj hints hlen hr hF hb;rcases hq x hx with z|⟨d,r⟩
 ·rw[z] at e;cases e
 ·exact W.tab_of G.T KX r e
theorem Sub.refl (st:AH):Sub st st:=fun i _=>.inl rfl
theorem Sub.set {c:Cell}(h:Sub st st')(hc:c.bel 0=true):Sub st (st'.set n c):=fun i hi=>by
 by_cases e:n=i
 ·subst e;by_cases hl:n<st'.length
  ·exact .inr ⟨c,K1 hl,hc⟩
  ·rw[List.set_eq_of_length_le (by omega)];exact h n hi
 ·rw[K5 e];exact h i hi
theorem Tmp.same {st:AH}{Q:EK}{v:PV}(h:v.bel st.length=true)(q:Q v st):Tmp st Q v st:=⟨st,[],by simp,rfl,Sub.refl st,h,q⟩
theorem Tmp.app {st g:AH}{Q:EK}{v:PV}(h:v.bel st.length=true)(q:Q v st):Tmp st Q v (st++g):=⟨st,g,rfl,rfl,Sub.refl st,h,q⟩
theorem Ret.all {Q:EK}(q:Q v st'):Ret st Q v st':=.inl q
theorem ar1 {P:List Value->Prop}(h:∀a,P [a])(us:List Value)(hl:us.length=1):P us:=by
 match us,hl with
 | [a],_=>exact h a
theorem ar2 {P:List Value->Prop}(h:∀a b,P [a,b])(us:List Value)(hl:us.length=2):P us:=by
 match us,hl with
 | [a,b],_=>exact h a b
theorem ar3 {P:List Value->Prop}(h:∀a b c,P [a,b,c])(us:List Value)(hl:us.length=3):P us:=by
 match us,hl with
 | [a,b,c],_=>exact h a b c
theorem ar4 {P:List Value->Prop}(h:∀a b c d,P [a,b,c,d])(us:List Value)(hl:us.length=4):P us:=by
 match us,hl with
 | [a,b,c,d],_=>exact h a b c d
theorem ar5 {P:List Value->Prop}(h:∀a b c d e,P [a,b,c,d,e])(us:List Value)(hl:us.length=5):P us:=by
 match us,hl with
 | [a,b,c,d,e],_=>exact h a b c d e
abbrev DI (K:W.Frag)(x:Str)(st:Stmt):Prop:=∃(f:Addr) (oc:Value) (od:Option Addr) (kV dc pm:Value) (an:Option Addr) (cd ct:Value) (sl:Array (Option Value)),W.nsIn K mainGlobals x=some (some (.ref f))/\K.lookup f=some ⟨oc,od,.func (W.fnOf x x (cQ st) (ai st) (ae st) .none kV dc pm an cd ct),sl⟩/\W.codeIn K cd x=true/\W.keepIn K (.ref f)=true
theorem DI_mk {st:Stmt}{kV dc pm:Value}{an:Option Addr}{cd ct:Value}(a:W.nsIn K mainGlobals x=some (some (.ref f)))(l:K.lookup f=some ⟨oc,od,.func (W.fnOf x x (cQ st) (ai st) (ae st) .none kV dc pm an cd ct),sl⟩)(c:W.codeIn K cd x=true)(k:W.keepIn K (.ref f)=true):DI K x st:=⟨f,oc,od,kV,dc,pm,an,cd,ct,sl,a,l,c,k⟩
theorem GOk.nx {Γ:Nat->FSp}{c':Cfg}{code:Ss}(G:GOk P w K mg base c Γ)(X:K.In h)(Gn:h.Ns mainGlobals mg)(d:DI K x st)(S:aj N ps (ae st))(hc:aB c code (ai st)=true)(len:∀ {as st Q},sp as st Q->as.length=ps.length)(hw:∀ {as st Q},sp as st Q->aw Γ code (frame N.length as) st (ah st Q))(hb:∀(kV doc pm:Value) (an:Option Addr) (cdv ct:Value) (us:List Value),us.length=ps.length->bindArgs (W.fnOf x x (cQ st) (ai st) (ae st) .none kV doc pm an cdv ct) ⟨us,[]⟩=pure (ps.zip us))(hN:c.N=N:=by rfl)(hn:c.names=(ae st).names:=by rfl)(hpc:c.pc=false:=by rfl)(hhm:c.hm=none:=by rfl)(h1:c'.fns=c.fns:=by rfl)(h2:c'.lim=c.lim+1:=by rfl)(h3:c'.blts=c.blts:=by rfl)(h4:c'.gl=c.gl:=by rfl)(hx:c.fns[c.lim]?=some x:=by rfl)(hs:Γ c.lim=sp:=by rfl):GOk P w K mg base c' Γ:=by
 obtain⟨f,oc,od,kV,dc,pm,an,cd,ct,sl,a,l,cc,k⟩:=d;subst hs;exact G.next h1 h2 h3 h4 hx (GK (At.mk' X Gn hb a l cc k) S hN hn hc G (fun _ _ _=>len) (fun _ _ _=>hw) hpc hhm)
end FW
namespace FW
open L2 HX
section
variable {P:Program}{w:World}{K:W.Frag}{mg:Str->Option Value}{base:Heap}{c:Cfg}{Γ:Nat->FSp}
theorem uT (z:W.nsIn K mainGlobals x=some none):W.tabIn K x=none:=by unfold W.tabIn;rw[z]
theorem Cq (hs:K.lookup sysModules=none)(h:∀x∈a_,W.tabIn K x=none\/∃c T,W.tabIn K x=some (c,T)/\K.lookup T=none/\∀y∈a_,y≠x->∀d,W.tabIn K y≠some (d,T)):Do K:=⟨hs,fun x hx c T e=>by
 rcases h x hx with z|⟨c',T',z,n,u⟩
 ·rw[z] at e;cases e
 ·rw[z] at e;cases e;exact⟨n,fun y hy d ed=>Classical.byContradiction fun q=>u y hy q d ed⟩⟩
end
end FW
namespace FW
open L2 HX
section
variable {Γ:Nat->FSp}{ρ:Fr}{st:AH}{Q:EK}{D:aX}{a b c:E}{es:Es}
noncomputable def aft (Γ:Nat->FSp)(ss:Ss)(D:aX):aX:={ D with nx:=fun ρ' st'=>aw Γ ss ρ' st' D }
noncomputable def LD (I:Fr->AH->Prop)(D:aX):aX:={ nx:=I,ct:=I,bk:=D.nx,rt:=D.rt }
def CI (Γ:Nat->FSp)(t:Tg)(b:Ss)(chk:AH->Prop)(D:aX)(xs:List PV)(ρ:Fr)(st:AH):Prop:=k6 chk (fun x ρ' st' D'=>bD Γ t x ρ' st' fun ρ2 st2=>aw Γ b ρ2 st2 D') D xs ρ st
def Ie (Γ:Nat->FSp)(c:E)(b:Ss)(D:aX)(ρ:Fr)(st:AH):Prop:=∃n,dX (wpT Γ c) (aw Γ b) D n ρ st
def oK (Γ:Nat->FSp)(elt:E)(tg:Tg)(ifs:Es)(chk:AH->Prop)(ρ:Fr)(xs:List PV)(st:AH)(Q:LK):Prop :=
 cA chk (fun x st2 k=>bD Γ tg x ρ st2 fun ρ' st3=>fG Γ ifs ρ' st3 fun c st4=>if c=true then wpE Γ elt ρ' st4 fun v st5=>k (some v) st5 else k none st4) xs [] st Q
theorem yO:(aft Γ ss D).nx ρ st=aw Γ ss ρ st D:=rfl
theorem Bb:(aft Γ ss D).rt v st=D.rt v st:=rfl
theorem zH:(aft Γ ss D).bk ρ st=D.bk ρ st:=rfl
theorem yZ:(aft Γ ss D).ct ρ st=D.ct ρ st:=rfl
theorem wd:(aft Γ ss D).rt=D.rt:=rfl
theorem D0:(LD I D).nx ρ st=I ρ st:=rfl
theorem EX:(LD I D).ct ρ st=I ρ st:=rfl
theorem EV:(LD I D).bk ρ st=D.nx ρ st:=rfl
theorem Eh:(LD I D).rt v st=D.rt v st:=rfl
theorem BC:(LD I D).rt=D.rt:=rfl
theorem Ee:(ah st0 Q).nx ρ st=Ret st0 Q .non st:=rfl
theorem Ew:(ah st0 Q).rt v st=Ret st0 Q v st:=rfl
theorem Bs:(ah st0 Q).rt=Ret st0 Q:=rfl
theorem wq:aw Γ (.cons s (.cons s2 ss)) ρ st D=wpS Γ s ρ st (aft Γ (.cons s2 ss) D):=rfl
theorem wH:wpS Γ (.whileS c x) ρ st D=Ie Γ c x D ρ st:=rfl
theorem D6:wpS Γ (.forS t it x) ρ st D=iP Γ it ρ st fun xs chk st1=>CI Γ t x chk D xs ρ st1:=rfl
theorem BE {nt:List Str}{caps:List Nat}:wpE Γ (.comp a tg it ifs nt caps) ρ st Q=iP Γ it ρ st fun xs chk st1 =>
  xs.length<100000/\oK Γ a tg ifs chk (nt.map (fun _=>none)++caps.map fun i=>(ρ[i]?).join) xs st1 fun vs st2=>Q (.ref st2.length) (st2++[.lst vs]):=rfl
theorem wL {nt:List Str}{caps:List Nat}:wpE Γ (.compK a tg wk e ifs nt caps) ρ st Q=wpE Γ e ρ st fun x st1=>∃n,x=.ref n/\∃kvs,st1[n]?=some (.dk kvs)/\kvs.length<100000 /\
  oK Γ a tg ifs (fun _=>True) (nt.map (fun _=>none)++caps.map fun i=>(ρ[i]?).join) (bp wk kvs) (st1.set n (.fz kvs)) fun vs st2=>st2[n]?=some (.fz kvs)/\Q (.ref st2.length) (st2.set n (.dk kvs)++[.lst vs]):=rfl
theorem yX:wpS Γ (.forK t wk e x) ρ st D=wpE Γ e ρ st fun v st1=>∃n,v=.ref n/\∃kvs,st1[n]?=some (.dk kvs)/\CI Γ t x (fun _=>True) (fzD n kvs D) (bp wk kvs) ρ (st1.set n (.fz kvs)):=rfl
theorem Bt:(fzD n kvs D).nx ρ st=(st[n]?=some (.fz kvs)/\D.nx ρ (st.set n (.dk kvs))):=rfl
theorem fc (G:bc Γ){t:Tg}{b:Ss}{chk:AH->Prop}{D:aX}(I:Nat->Fr->AH->Prop){xs:List PV}{ρ:Fr}{st:AH}(h0:I 0 ρ st)
  (hs:∀i x ρ st,xs[i]?=some x->I i ρ st->chk st/\bD Γ t x ρ st (fun ρ2 st2=>aw Γ b ρ2 st2 (LD (I (i+1)) D)))
  (hd:∀ρ st,I xs.length ρ st->chk st/\D.nx ρ st):CI Γ t b chk D xs ρ st:=by
 have key:∀(k i:Nat) (ρ:Fr) (st:AH),i+k=xs.length->I i ρ st->k6 chk (fun x ρ' st' D'=>bD Γ t x ρ' st' fun ρ2 st2=>aw Γ b ρ2 st2 D') D (xs.drop i) ρ st:=by
  intro k
  induction k with
  | zero =>
   intro i ρ st hi h;have:i=xs.length:=by omega
   subst this;rw[List.drop_length];exact hd ρ st h
  | succ k ih =>
   intro i ρ st hi h;have hlt:i<xs.length:=by omega
   rw[List.drop_eq_getElem_cons hlt];obtain⟨h1,h2⟩:=hs i xs[i] ρ st (by simp[hlt]) h;refine⟨h1,aO G t (fun ρ2 st2 k2=>aN G b ?_ k2) h2⟩;exact⟨fun ρ3 st3 z=>ih (i+1) ρ3 st3 (by omega) z,fun _ _ z=>z,fun _ _ z=>z,fun ρ3 st3 z=>ih (i+1) ρ3 st3 (by omega) z⟩
 have:=key xs.length 0 ρ st (by omega) h0
 rwa [MX] at this
theorem hX {c:Fr->AH->BK->Prop}{body:Fr->AH->aX->Prop}{D:aX}(hc:∀ρ st Q Q',(∀b st,Q b st->Q' b st)->c ρ st Q->c ρ st Q')(hb:∀ρ st D D',je D D'->body ρ st D->body ρ st D') :
  ∀ {n k:Nat}{ρ:Fr}{st:AH},n<=k->dX c body D n ρ st->dX c body D k ρ st
 | 0,k,ρ,st,_,h=>h.elim
 | n+1,0,ρ,st,hk,h=>absurd hk (by omega)
 | n+1,k+1,ρ,st,hk,h=>by
  refine hc _ _ _ _ (fun b st1 z=>?_) h;cases b with
  | false=>exact z
  | true =>
   rw[KZ rfl] at z |-
   refine hb _ _ _ _ ?_ z;exact⟨fun _ _ z=>hX hc hb (by omega) z,fun _ _ z=>z,fun _ _ z=>z,fun _ _ z=>hX hc hb (by omega) z⟩
theorem mQ (G:bc Γ){c:E}{b:Ss}{D:aX}(I:Nat->Fr->AH->Prop){n:Nat}{ρ:Fr}{st:AH}(h0:I n ρ st)
  (hs:∀n ρ st,I n ρ st->wpT Γ c ρ st (fun k st1=>if k=true then aw Γ b ρ st1 (LD (fun ρ' st'=>∃m,m<n/\I m ρ' st') D) else D.nx ρ st1)):Ie Γ c b D ρ st:=by
 have hc:∀ρ st Q Q',(∀b st,Q b st->Q' b st)->wpT Γ c ρ st Q->wpT Γ c ρ st Q':=fun _ _ _ _ hk z=>aT G c hk z;have hb:∀ρ st D D',je D D'->aw Γ b ρ st D->aw Γ b ρ st D':=fun _ _ _ _ hk z=>aN G b hk z;have key:∀(k n:Nat),n<k->∀(ρ:Fr) (st:AH),I n ρ st->dX (wpT Γ c) (aw Γ b) D (n+1) ρ st:=by
  intro k
  induction k with
  | zero=>intro n hn;exact absurd hn (by omega)
  | succ k ih =>
   intro n hn ρ st h;refine hc _ _ _ _ (fun q st1 z=>?_) (hs n ρ st h);cases q with
   | false=>exact z
   | true =>
    rw[KZ rfl] at z |-
    refine hb _ _ _ _ ?_ z;exact⟨fun ρ' st' ⟨m,hm,z⟩=>hX hc hb (by omega) (ih m (by omega) ρ' st' z),fun _ _ z=>z,fun _ _ z=>z,fun ρ' st' ⟨m,hm,z⟩=>hX hc hb (by omega) (ih m (by omega) ρ' st' z)⟩
 exact⟨_,key (n+1) n (by omega) ρ st h0⟩
end
section
variable {Γ:Nat->FSp}
theorem cM (G:bc Γ){chk:AH->Prop}{ρ:Fr}{Q:LK}(I:Nat->List PV->AH->Prop)(h0:I 0 [] st)(hs:∀i x acc st,xs[i]?=some x->I i acc st->chk st/\bD Γ tg x ρ st fun ρ' st3=>fG Γ ifs ρ' st3 fun c st4=>if c=true then wpE Γ elt ρ' st4 fun v st5=>I (i+1) (acc++[v]) st5 else I (i+1) acc st4)(hd:∀acc st,I xs.length acc st->chk st/\Q acc st):oK Γ elt tg ifs chk ρ xs st Q:=by
 have key:∀(k i:Nat) (acc:List PV) (st:AH),i+k=xs.length->I i acc st->cA chk (dq Γ elt tg ifs ρ) (xs.drop i) acc st Q:=by
  intro k
  induction k with
  | zero =>
   intro i acc st hi h;have:i=xs.length:=by omega
   subst this;rw[List.drop_length];exact hd acc st h
  | succ k ih =>
   intro i acc st hi h;have hlt:i<xs.length:=by omega
   rw[List.drop_eq_getElem_cons hlt];obtain⟨h1,h2⟩:=hs i xs[i] acc st (by simp[hlt]) h;refine⟨h1,aO G tg (fun ρ2 st2 k2=>br G ifs (fun c st4 k4=>?_) k2) h2⟩;cases c with
   | true=>rw[KZ rfl] at k4 |-;exact aa G elt (fun v st5 z=>ih (i+1) _ st5 (by omega) z) k4
   | false=>rw[KS KD] at k4 |-;simpa using ih (i+1) _ st4 (by omega) k4
 have:=key xs.length 0 [] st (by omega) h0;rw[MX] at this;exact this
theorem comp_map (G:bc Γ){chk:AH->Prop}{ρ:Fr}{xs:List PV}{Q:LK}(f:PV->PV)(hc:chk st)(hs:∀x∈xs,wpE Γ elt (ρ.set i (some x)) st fun v st'=>v=f x/\st'=st)(q:Q (xs.map f) st):oK Γ elt (.name i) .nil chk ρ xs st Q:=by
 refine cM G (fun j acc s=>s=st/\acc=(xs.take j).map f) ⟨rfl,by simp⟩ ?_ ?_
 ·rintro j x acc s hx ⟨rfl,rfl⟩;refine⟨hc,?_⟩;simp only[dr,mF];rw[KZ trivial];refine aa G elt (fun v st5 z=>?_) (hs x (KJ hx));obtain⟨rfl,rfl⟩:=z;refine⟨rfl,?_⟩;rw[LS,hx];simp
 ·rintro acc s ⟨rfl,rfl⟩;rw[LR];exact⟨hc,q⟩
theorem oW {f:PV->Bool}:∀ {xs:List PV},eI (xs.map fun x=>.bl (f x))=some (xs.map f)
 | []=>rfl
 | x::xs=>by simp only[List.map_cons,eI,oW (xs:=xs),Option.map_some]
end
section
variable {st:AH}{Q:EK}{i j:Int}{n k:Nat}{xs ys:List PV}{x y v:PV}{b b':Bool}{s s':Str}{kB:Bool->Prop}{BQ:BK}
theorem Et:i7 .Add (.int i) (.int j) st Q=Q (.int (i+j)) st:=rfl
theorem DM:i7 .Sub (.int i) (.int j) st Q=Q (.int (i-j)) st:=rfl
theorem E8:i7 .Mult (.int i) (.int j) st Q=(CMB i j/\Q (.int (i*j)) st):=rfl
theorem D3:i7 .FloorDiv (.int i) (.int j) st Q=(CBig j/\Q (.int (i/j)) st):=rfl
theorem Fd:i7 .Mod (.int i) (.int j) st Q=(0<j/\Q (.int (i % j)) st):=rfl
theorem DS:i7 .Pow (.int i) (.int j) st Q=(Ac i j/\Q (.int (i ^ j.toNat)) st):=rfl
theorem zS:i7 .Add (.ref n) (.ref k) st Q=∃xs ys,st[n]?=some (.lst xs)/\st[k]?=some (.lst ys)/\xs.length+ys.length<=100000/\Q (.ref st.length) (st++[.lst (xs++ys)]):=rfl
theorem zk {a b:Str}:i7 .Add (.str a) (.str b) st Q=(a.length+b.length<=100000/\Q (.str (a++b)) st):=rfl
theorem A1:i7 .Add (.tup xs) (.tup ys) st Q=(xs.length+ys.length<=100000/\Q (.tup (xs++ys)) st):=rfl
theorem Hi:di .Eq x y st Q=eqW st x y fun k=>Q (.bl k) st:=rfl
theorem Jc:di .NotEq x y st Q=eqW st x y fun k=>Q (.bl (!k)) st:=rfl
theorem D1:di .Is x .non st Q=Q (.bl (gz x)) st:=rfl
theorem EY:di .Is x (.bl b) st Q=Q (.bl (kW b x)) st:=rfl
theorem A5:di .IsNot x .non st Q=Q (.bl (!gz x)) st:=rfl
theorem BN:di .IsNot x (.bl b) st Q=Q (.bl (!kW b x)) st:=rfl
theorem Hw:di .Lt (.int i) (.int j) st Q=Q (.bl (decide (i<j))) st:=rfl
theorem IF:di .Gt (.int i) (.int j) st Q=Q (.bl (decide (j<i))) st:=rfl
theorem HY:di .GtE (.int i) (.int j) st Q=Q (.bl (decide (j<=i))) st:=rfl
theorem EB:eqW st (.int i) (.int j) kB=kB (decide (i=j)):=rfl
theorem DL:eqW st (.bl b) (.bl b') kB=kB (decide (b=b')):=rfl
theorem vD:eqW st (.str s) (.str s') kB=kB (decide (s=s')):=rfl
theorem pk:gz .non=true:=rfl
theorem tN:gz (.bl b)=false:=rfl
theorem pe:gz (.int i)=false:=rfl
theorem o8:gz (.str s)=false:=rfl
theorem oj:gz (.tup xs)=false:=rfl
theorem oD:gz (.ref n)=false:=rfl
theorem vX:kW true (.bl true)=true:=rfl
theorem wB:kW true (.bl false)=false:=rfl
theorem vH:kW false (.bl true)=false:=rfl
theorem vy:kW false (.bl false)=true:=rfl
theorem rX:kW b (.int i)=false:=rfl
theorem sN:kW b .non=false:=rfl
theorem s_:kW b (.tup xs)=false:=rfl
theorem oq:a7 st (.tup xs)=some xs:=rfl
theorem ow:a7 st (.rdl xs)=some xs:=rfl
theorem md:aQ st (.rdl xs)=some xs:=rfl
theorem aq (h:st[n]?=some (.lst xs)):aQ st (.ref n)=some xs:=by simp[aQ,h]
theorem ag (h:st[n]?=some (.lst xs)):a7 st (.ref n)=some xs:=by simp[a7,aQ,h]
theorem o6:bg st .non=some "NoneType":=rfl
theorem sG:bg st (.bl b)=some "bool":=rfl
theorem om:bg st (.int i)=some "int":=rfl
theorem oS:bg st (.str s)=some "str":=rfl
theorem oO:bg st (.tup xs)=some "tuple":=rfl
theorem oI:bg st (.rdl xs)=some "list":=rfl
theorem Fb {z:Str}:ixW (.str z) (.int i) st Q=(z.length<=100000/\∃c,atI z.cps.toList i=some c/\Q (.str ⟨#[c]⟩) st):=rfl
theorem DP:ixW (.tup xs) (.int i) st Q=∃v,atI xs i=some v/\Q v st:=propext ⟨fun ⟨ys,e,q⟩=>by cases e;exact q,fun q=>⟨xs,rfl,q⟩⟩
theorem EH:ixW (.rdl xs) (.int i) st Q=∃v,atI xs i=some v/\Q v st:=propext ⟨fun ⟨ys,e,q⟩=>by cases e;exact q,fun q=>⟨xs,rfl,q⟩⟩
theorem Dv:ixW (.ref n) (.int i) st Q=∃xs,a7 st (.ref n)=some xs/\∃v,atI xs i=some v/\Q v st:=rfl
theorem f':atI (x::xs) 0=some x:=dt (j:=0) rfl
theorem gE:atI (x::y::xs) 1=some y:=dt (j:=1) rfl
theorem sA:atI (x::y::v::xs) 2=some v:=dt (j:=2) rfl
theorem tK {u:PV}:atI (x::y::v::u::xs) 3=some u:=dt (j:=3) rfl
theorem Eu:ixW (.tup (x::xs)) (.int 0) st Q=Q x st:=propext ⟨fun ⟨ys,e,w,e2,q⟩=>by cases e;rw[f'] at e2;cases e2;exact q,fun q=>⟨_,rfl,_,f',q⟩⟩
theorem E7:ixW (.tup (x::y::xs)) (.int 1) st Q=Q y st:=propext ⟨fun ⟨ys,e,w,e2,q⟩=>by cases e;rw[gE] at e2;cases e2;exact q,fun q=>⟨_,rfl,_,gE,q⟩⟩
theorem EZ:ixW (.tup (x::y::v::xs)) (.int 2) st Q=Q v st:=propext ⟨fun ⟨ys,e,w,e2,q⟩=>by cases e;rw[sA] at e2;cases e2;exact q,fun q=>⟨_,rfl,_,sA,q⟩⟩
theorem D7 {u:PV}:ixW (.tup (x::y::v::u::xs)) (.int 3) st Q=Q u st:=propext ⟨fun ⟨ys,e,w,e2,q⟩=>by cases e;rw[tK] at e2;cases e2;exact q,fun q=>⟨_,rfl,_,tK,q⟩⟩
theorem EN:slW (.tup xs) lo hi st Q=Q (.tup (iJ xs lo hi)) st:=rfl
theorem D4:slW (.rdl xs) lo hi st Q=Q (.ref st.length) (st++[.lst (iJ xs lo hi)]):=by simp[slW,aQ]
theorem ET {z:Str}:slW (.str z) lo hi st Q=(z.length<=100000/\Q (.str (il z lo hi)) st):=rfl
theorem E5:slW (.ref n) lo hi st Q=∃xs,aQ st (.ref n)=some xs/\Q (.ref st.length) (st++[.lst (iJ xs lo hi)]):=rfl
theorem Bv {z:Str}:cw .len [.str z] st Q=(z.length<=100000/\Q (.int z.length) st):=rfl
theorem zC {z:Str}:cw .int1 [.str z] st Q=(z.length<=640/\∃n,PySem.intText? z=some n/\Q (.int n) st):=rfl
theorem HU {b:Str}:di .In (.str a) (.str b) st Q=Q (.bl (!(Builtin.Str.occurrences b a 0 b.length 1).isEmpty)) st:=rfl
theorem Fg:smW .join (.str z) y st Q=∃ss:List Str,aQ st y=some (ss.map PV.str)/\JoinOk z ss=true/\Q (.str (Txt.join z ss)) st:=rfl
theorem DD {z w:Str}:smW .split (.str z) (.str w) st Q=(0<w.length/\z.length<=100000/\(Txt.split z w).length<=100000/\Q (.ref st.length) (st++[.lst ((Txt.split z w).map PV.str)])):=rfl
theorem DN:smW .endsw (.str z) (.str w) st Q=Q (.bl (Txt.endswith z w)) st:=rfl
theorem DE {a b:Str}:di .Lt (.str a) (.str b) st Q=Q (.bl (decide (a.cps.toList<b.cps.toList))) st:=rfl
theorem Ah {a b:Str}:di .Gt (.str a) (.str b) st Q=Q (.bl (decide (b.cps.toList<a.cps.toList))) st:=rfl
theorem HA {b:Str}:di .NotIn (.str a) (.str b) st Q=Q (.bl (!(!(Builtin.Str.occurrences b a 0 b.length 1).isEmpty))) st:=rfl
theorem Dz:di .In (.str a) (.ref n) st Q=inR a n st fun k=>Q (.bl k) st:=rfl
theorem Ek:di .NotIn (.str a) (.ref n) st Q=inR a n st fun k=>Q (.bl (!k)) st:=rfl
theorem EU:ixW (.ref n) (.str z) st Q=∃kvs v,(st[n]?=some (.dk kvs)\/st[n]?=some (.fz kvs))/\ja kvs (.inr z)=some v/\Q v st:=rfl
theorem yW:qd (.ref n) (.str z) v st kS=∃kvs,st[n]?=some (.dk kvs)/\kvs.length<=1000/\kS (st.set n (.dk (kY kvs (.inr z) v))):=rfl
theorem yE:cw .len [.tup xs] st Q=Q (.int xs.length) st:=propext ⟨fun ⟨ys,e,q⟩=>by cases e;exact q,fun q=>⟨xs,rfl,q⟩⟩
theorem zZ:cw .len [.rdl xs] st Q=Q (.int xs.length) st:=propext ⟨fun ⟨ys,e,q⟩=>by cases e;exact q,fun q=>⟨xs,rfl,q⟩⟩
theorem zL:cw .len [.ref n] st Q=∃xs,a7 st (.ref n)=some xs/\Q (.int xs.length) st:=rfl
theorem Ej:cw .max2 [.int i,.int j] st Q=Q (.int (if i<j then j else i)) st:=rfl
theorem DG:cw .min2 [.int i,.int j] st Q=Q (.int (if j<i then j else i)) st:=rfl
theorem tF:cw .divmod [.int i,.int j] st Q=(CBig j/\Q (.tup [.int (i/j),.int (i % j)]) st):=rfl
theorem AF:cw .int1 [.bl b] st Q=Q (.int (b2z b)) st:=rfl
theorem ym:cw .str1 [.int i] st Q=(i.natAbs.log2<1920/\Q (.str (toString i)) st):=rfl
theorem BG:cw .tuple1 [.tup xs] st Q=Q (.tup xs) st:=propext ⟨fun ⟨ys,e,q⟩=>by cases e;exact q,fun q=>⟨xs,rfl,q⟩⟩
theorem yt:cw .tuple1 [.ref n] st Q=∃xs,a7 st (.ref n)=some xs/\Q (.tup xs) st:=rfl
theorem vN:cw .list1 [.tup xs] st Q=Q (.ref st.length) (st++[.lst xs]):=propext ⟨fun ⟨ys,e,q⟩=>by cases e;exact q,fun q=>⟨xs,rfl,q⟩⟩
theorem wt:cw .list1 [.ref n] st Q=∃xs,a7 st (.ref n)=some xs/\Q (.ref st.length) (st++[.lst xs]):=rfl
theorem EM:cw .all1 [x] st Q=∃xs bs,aQ st x=some xs/\eI xs=some bs/\Q (.bl (bs.all id)) st:=rfl
theorem ED:cw .any1 [x] st Q=∃xs bs,aQ st x=some xs/\eI xs=some bs/\Q (.bl (bs.any id)) st:=rfl
theorem vQ:cw .sortS [x] st Q=∃ss:List Str,aQ st x=some (ss.map PV.str)/\ss.length<64/\∀ss':List Str,ss'.Perm ss->PyProof.Rows.sortedS ss'=true->Q (.ref st.length) (st++[.lst (ss'.map PV.str)]):=rfl
theorem vV:cw .sortD [.ref n] st Q=∃kvs,(st[n]?=some (.dk kvs)\/st[n]?=some (.fz kvs))/\∃ss:List Str,kvs.map (·.1)=ss.map Sum.inr/\ss.length<64/\∀ss':List Str,ss'.Perm ss->PyProof.Rows.sortedS ss'=true->Q (.ref st.length) (st++[.lst (ss'.map PV.str)]):=propext ⟨fun ⟨_,e,q⟩=>by cases e;exact q,fun q=>⟨_,rfl,q⟩⟩
theorem rA:rZ .insert (.ref n) [.int i,v] st Q=∃xs,st[n]?=some (.lst xs)/\xs.length<100000/\0<=i/\i<=xs.length/\Q .non (st.set n (.lst (xs.take i.toNat++v::xs.drop i.toNat))):=rfl
theorem IG:unW .sI x st Q=∃n kvs,∃ps:List (Str × PV),x=.ref n/\st[n]?=some (.dk kvs)/\kvs=ps.map (fun p=>(Sum.inr p.1,p.2))/\ps.length<64/\∀qs:List (Str × PV),qs.Perm ps->(qs.map (·.1)).Pairwise (fun a b:Str=>a.cps.toList<b.cps.toList)->Q (.ref st.length) (st++[.lst (qs.map fun p=>.tup [.str p.1,p.2])]):=rfl
theorem vZ {x:PV}:cw .repr2 [x] st Q=ph st Q x:=rfl
theorem Em:rZ .append (.ref n) [v] st Q=∃xs,st[n]?=some (.lst xs)/\xs.length<100000/\Q .non (st.set n (.lst (xs++[v]))):=rfl
theorem HJ:e7 (.bl b) st BQ=BQ b st:=rfl
theorem IL:e7 .non st BQ=BQ false st:=rfl
theorem IR:e7 (.int i) st BQ=BQ (i != 0) st:=rfl
theorem Iu:e7 (.tup xs) st BQ=BQ (!xs.isEmpty) st:=by simp[e7,a7]
theorem Hh:e7 (.ref n) st BQ=∃xs,a7 st (.ref n)=some xs/\BQ (!xs.isEmpty) st:=rfl
theorem DT:qd (.ref n) (.int j) v st kS=∃xs,st[n]?=some (.lst xs)/\∃q,ixN xs.length j=some q/\kS (st.set n (.lst (xs.set q v))):=rfl
theorem y9:mz .Add (.int i) (.int j) st Q=Q (.int (i+j)) st:=rfl
theorem t5:mz .Add (.ref n) (.ref k) st Q=∃xs ys,st[n]?=some (.lst xs)/\st[k]?=some (.lst ys)/\xs.length+ys.length<=100000/\Q (.ref n) (st.set n (.lst (xs++ys))):=rfl
theorem zN:mz .Sub (.int i) (.int j) st Q=Q (.int (i-j)) st:=rfl
end
theorem zx:((0:Nat):Int)=0:=rfl
theorem Bd:((1:Nat):Int)=1:=rfl
theorem yo:((2:Nat):Int)=2:=rfl
theorem Au:((3:Nat):Int)=3:=rfl
theorem Ak:((4:Nat):Int)=4:=rfl
theorem Av:((5:Nat):Int)=5:=rfl
theorem AS:((6:Nat):Int)=6:=rfl
theorem cO {s g:AH}{k:Nat}:(s++g)[s.length+k]?=g[k]?:=by rw[K8 (M5 _ _),Nat.add_sub_cancel_left]
theorem i5 {s g:AH}:(s++g)[s.length]?=g[0]?:=cO (k:=0)
theorem zJ {st:AH}{c:Cell}:(st++[c]).set st.length c'=st++[c']:=by rw[NM _ _ (KF _),OE];rfl
theorem get_last {st:AH}{c:Cell}:(st++[c])[st.length]?=some c:=by simp
theorem bj {st g:AH}{n:Nat}(h:st[n]?=some c):(st++g)[n]?=some c:=by rw[K3 (KR.mp h).1];exact h
theorem au {st:AH}{n:Nat}(h:st[n]?=some c):n<st.length:=(KR.mp h).1
end FW
namespace My
open PySem L2 HX FW
noncomputable def top (i:Nat):Stmt:=PySem.Challenge.pw_hourstairs_k53_texts_of_nets.main.body.getD i (.Pass ⟨0,0,0,0⟩)
theorem ki {st:AH}{v:PV}(h:v.bel st.length=true):∃n,bg st v=some n:=by
 cases v with
 | ref k =>
  rw[PV.bel] at h;have hk:=MM h;have e:st[k]?=some st[k]:=KU hk;cases q:st[k] with
  | lst xs=>exact ⟨"list",by simp [bg,e,q]⟩
  | dk xs=>exact ⟨"dict",by simp [bg,e,q]⟩
  | fz xs=>exact ⟨"dict",by simp [bg,e,q]⟩
  | od xs=>exact ⟨"dict",by simp [bg,e,q]⟩
 | fn a=>rw[PV.bel] at h;cases h
 | _=>exact⟨_,rfl⟩
noncomputable def jE:PV->Bool
 | .int _=>true
 | _=>false
theorem u7 (h:bg st v=some n):jE v=(bF "int" n && !bF "bool" n):=by
 cases v with
 | ref k =>unfold bg at h;simp only at h;split at h <;> cases h <;> rfl
 | fn a=>cases h
 | _=>cases h;rfl
noncomputable def l_:PV->Bool
 | .tup [.int n,.int d]=>decide (0<=n/\1<=d/\Nat.gcd n.natAbs d.natAbs=1)
 | _=>false
theorem uu (h:bg st v=some n):(bF "tuple" n=true->∃xs,v=.tup xs)/\(bF "tuple" n=false->l_ v=false):=by
 cases v with
 | tup xs=>cases h;exact⟨fun _=>⟨xs,rfl⟩,fun z=>absurd z (by decide)⟩
 | ref k =>unfold bg at h;simp only at h;split at h <;> cases h <;> exact⟨fun z=>absurd z (by decide),fun _=>rfl⟩
 | fn a=>cases h
 | _=>cases h;exact⟨fun z=>absurd z (by decide),fun _=>rfl⟩
theorem sE {x:PV}:l_ (.tup [x,y])=(match x,y with | .int n,.int d=>decide (0<=n/\1<=d/\Nat.gcd n.natAbs d.natAbs=1)|_,_=>false):=by cases x <;> cases y <;> rfl
theorem zh {xs:List PV}(hl:xs.length≠2):l_ (.tup xs)=false:=by
 match xs,hl with
 | [],_=>rfl
 | [x],_=>cases x <;> rfl
 | [_,_],hl=>exact absurd rfl hl
 | x::y::_::_,_=>cases x <;> cases y <;> rfl
theorem rV {n d:Int}(h0:0<=n)(h1:1<=d):decide (((Nat.gcd n.toNat d.toNat:Nat):Int)=1)=decide (0<=n/\1<=d/\Nat.gcd n.natAbs d.natAbs=1):=by
 have e1:n.natAbs=n.toNat:=by omega
 have e2:d.natAbs=d.toNat:=by omega
 rw[e1,e2];simp[h0,h1];omega
theorem v8 {d:Nat}(h:0<d)(h2:d<2 ^ 8000):CBig (Nat.gcd n d:Nat):=by have h3:0<Nat.gcd n d:=Nat.gcd_pos_of_pos_right _ h;have h4:Nat.gcd n d<=d:=Nat.gcd_le_right _ h;refine⟨by omega,?_⟩;have h5:((Nat.gcd n d:Nat):Int).natAbs=Nat.gcd n d:=rfl;rw[h5];have:Nat.gcd n d<2 ^ 8000:=MJ h4 h2;have:=(NR (by omega)).mpr this;omega
noncomputable abbrev pc (q r:Int):Cell:=.lst [.int q,.int r]
theorem GJ:(pc q r).bel k=true:=by simp[pc,Cell.bel,PV.bels,PV.bel]
theorem Hs:Ac 10 18:=⟨by decide,by decide,by decide⟩
theorem lz {j:Int}(h:0<j)(h2:j<2 ^ 200):CBig j:=CBig.of h (Int.lt_of_lt_of_le h2 (by
 have:((2:Int) ^ 200)=((2 ^ 200:Nat):Int):=by rw[OI];rfl
 have e2:((2:Int) ^ 8999)=((2 ^ 8999:Nat):Int):=by rw[OI];rfl
 rw[this,e2];exact Int.ofNat_le.mpr (M3 (by decide) (by decide))))
theorem oG {i:Int}(h1:-(2 ^ 64)<i)(h2:i<2 ^ 64):CMB i j:=.inr (.inl ⟨h1,h2⟩)
theorem D8 {j:Int}(h1:-(2 ^ 64)<j)(h2:j<2 ^ 64):CMB i j:=.inr (.inr ⟨h1,h2⟩)
theorem AU {ns:List Int}{k:Nat}(h:k<ns.length):atI (ns.map PV.int) (k:Int)=some (.int (ns.getD k 0)):=by refine dt ?_;rw[KM,L1,KU h];rfl
theorem IV:(10:Nat) ^ 12<2 ^ 8000:=KY (by decide:(10:Nat) ^ 12<2 ^ 64) (M3 (by decide) (by decide))
theorem Ck {n d:Nat}(h:0<d):Nat.gcd (n/Nat.gcd n d) (d/Nat.gcd n d)=1:=Nat.gcd_div_gcd_div_gcd_of_pos_right h
theorem C_ {d:Nat}(h:0<d):0<d/Nat.gcd n d:=Nat.div_pos (Nat.gcd_le_right _ h) (Nat.gcd_pos_of_pos_right _ h)
theorem ua (n d:Nat):n/Nat.gcd n d*d=n*(d/Nat.gcd n d):=by
 obtain⟨a,ha⟩:=Nat.gcd_dvd_left n d;obtain⟨b,hb⟩:=Nat.gcd_dvd_right n d;by_cases h:Nat.gcd n d=0
 ·rw[h,Nat.div_zero,Nat.div_zero,Nat.zero_mul,Nat.mul_zero]
 ·have e1:n/Nat.gcd n d=a:=by rw[Nat.div_eq_of_eq_mul_right (by omega) ha]
  have e2:d/Nat.gcd n d=b:=by rw[Nat.div_eq_of_eq_mul_right (by omega) hb]
  rw[e1,e2];generalize Nat.gcd n d=g at *;subst ha hb;rw[<-Nat.mul_assoc,OF a g]
theorem gQ {i:Int}(h0:-1000000000001<i)(h1:i<1000000000001):i.natAbs.log2<1920:=by
 by_cases h:i.natAbs=0
 ·rw[h];decide
 ·have:i.natAbs<2 ^ 64:=by omega
  have:=(NR h).mpr this;omega
theorem iH {n i:Nat}(h:(bb 0 ((n:Int).toNat))[i]?=some v):v=.int i/\i<n:=by
 unfold bb at h;rw[KM] at h;have hi:i<n:=by
  by_cases hi:i<n
  ·exact hi
  ·rw[LO (by simp;omega)] at h;cases h
 rw[NW (by simpa using hi)] at h;cases h;exact⟨by simp,hi⟩
theorem oC:xh st (.tup [.int a,.int b])=some (.tuple [.int a,.int b]):=by simp[xh,PV.toD,PV.toDs]
theorem j_ (a b:Int):SeqAt.shaped (.tuple [.int a,.int b])=true:=by simp[SeqAt.shaped,PyData.canLay0,PyData.canLayAll0,PyData.depth,PyData.depthAll]
theorem zT (a b c d:Int):PyData.eqv (.tuple [.int a,.int b]) (.tuple [.int c,.int d])=(decide (a=c) && decide (b=d)):=by simp[PyData.eqv,PyData.eqvAll,Bool.beq_eq_decide_eq]
theorem sZ {a b c d:Int}{k:Bool->Prop}(h:k (decide (a=c) && decide (b=d))):eqW st (.tup [.int a,.int b]) (.tup [.int c,.int d]) k :=
 ⟨_,_,oC,oC,j_ _ _,j_ _ _,by rw[zT];exact h⟩
def b_:FSp:=fun as st Q=>∃v,as=[v]/\v.bel st.length=true/\Q (.bl (jE v)) st
theorem ng {as st Q Q'}(h:∀v st,Q v st->Q' v st)(q:b_ as st Q):b_ as st Q':=by obtain⟨v,e,b,q⟩:=q;exact⟨v,e,b,h _ _ q⟩
theorem pK {as st Q}(q:b_ as st Q):as.length=1:=by obtain⟨v,rfl,_⟩:=q;rfl
def aU:FSp:=fun as st Q=>∃n d:Nat,as=[.int n,.int d]/\Q (.int (Nat.gcd n d:Nat)) st
theorem ic {as st Q Q'}(h:∀v st,Q v st->Q' v st)(q:aU as st Q):aU as st Q':=by obtain⟨n,d,e,q⟩:=q;exact⟨n,d,e,h _ _ q⟩
theorem iS {as st Q}(q:aU as st Q):as.length=2:=by obtain⟨n,d,rfl,_⟩:=q;rfl
def a6:FSp:=fun as st Q=>∃v,as=[v]/\v.bel st.length=true/\Q (.bl (l_ v)) st
theorem jX {as st Q Q'}(h:∀v st,Q v st->Q' v st)(q:a6 as st Q):a6 as st Q':=by obtain⟨v,e,b,q⟩:=q;exact⟨v,e,b,h _ _ q⟩
theorem kM {as st Q}(q:a6 as st Q):as.length=1:=by obtain⟨v,rfl,_⟩:=q;rfl
noncomputable abbrev fr (p:Nat × Nat):PV:=.tup [.int p.1,.int p.2]
noncomputable def dA (n d:Nat):Nat × Nat:=(n/Nat.gcd n d,d/Nat.gcd n d)
theorem fL (n d:Nat):(dA n d).1*d=n*(dA n d).2:=ua n d
theorem gp {d:Nat}(h:0<d):0<(dA n d).2:=C_ h
theorem sD {d:Nat}(h:0<d):Nat.gcd (dA n d).1 (dA n d).2=1:=Ck h
theorem si (n d:Nat):(dA n d).1<=n:=OO _ _
theorem z_ (n d:Nat):(dA n d).2<=d:=OO _ _
theorem F9 (h1:Nat.gcd a b=1)(h2:Nat.gcd c d=1)(hb:0<b)(hd:0<d)(h:a*d=c*b):a=c/\b=d:=by
 have hbd:b ∣ d:=by have:b ∣ a*d:=⟨c,by rw[h,OF]⟩;exact Nat.Coprime.dvd_of_dvd_mul_left (show Nat.Coprime b a by unfold Nat.Coprime;rw[NK];exact h1) this
 have hdb:d ∣ b:=by have:d ∣ c*b:=⟨a,by rw[<-h,OF]⟩;exact Nat.Coprime.dvd_of_dvd_mul_left (show Nat.Coprime d c by unfold Nat.Coprime;rw[NK];exact h2) this
 have e:b=d:=Nat.dvd_antisymm hbd hdb;subst e;exact⟨Nat.eq_of_mul_eq_mul_right hb h,rfl⟩
structure Cop (p:Nat × Nat):Prop where
 pos:0<p.2
 one:Nat.gcd p.1 p.2=1
theorem Cop.low {d:Nat}(h:0<d):Cop (dA n d):=⟨gp h,sD h⟩
theorem Cop.ext (h1:Cop p)(h2:Cop q)(h:p.1*q.2=q.1*p.2):p=q:=by obtain⟨e1,e2⟩:=F9 h1.one h2.one h1.pos h2.pos h;exact Prod.ext e1 e2
theorem Cop.isFr (h:Cop p):l_ (fr p)=true:=by show l_ (.tup [.int _,.int _])=true;rw[sE];refine LH ⟨Int.natCast_nonneg _,Int.ofNat_le.mpr h.pos,?_⟩;rw[Int.natAbs_natCast,Int.natAbs_natCast];exact h.one
structure Sz (k:Nat)(p:Nat × Nat):Prop where
 a:p.1<2 ^ k
 b:p.2<2 ^ k
 pos:0<p.2
theorem Sz.mono {k:Nat}(h:Sz j p)(hk:j<=k):Sz k p:=⟨KY h.a (M3 (by decide) hk),KY h.b (M3 (by decide) hk),h.pos⟩
def dJ (p q:Nat × Nat):Prop:=p.1*q.2<q.1*p.2
noncomputable instance (p q:Nat × Nat):Decidable (dJ p q):=inferInstanceAs (Decidable (_<_))
theorem GT {d d':Nat}(hd:0<d)(hd':0<d'):dJ (dA n d) (dA n' d')↔n*d'<n'*d:=by
 have c1:=fL n d;have c2:=fL n' d';have p1:=gp (n:=n) hd;have p2:=gp (n:=n') hd';unfold dJ;generalize dA n d=x at *;generalize dA n' d'=y at *;have e1:d*d'*(x.1*y.2)=x.2*y.2*(n*d'):=by
  calc d*d'*(x.1*y.2)=(x.1*d)*d'*y.2:=by grind
   _=n*x.2*d'*y.2:=by rw[c1]
   _=x.2*y.2*(n*d'):=by grind
 have e2:d*d'*(y.1*x.2)=x.2*y.2*(n'*d):=by
  calc d*d'*(y.1*x.2)=(y.1*d')*d*x.2:=by grind
   _=n'*y.2*d*x.2:=by rw[c2]
   _=x.2*y.2*(n'*d):=by grind
 constructor
 ·intro h;have:=Nat.mul_lt_mul_of_pos_left h (Nat.mul_pos hd hd');rw[e1,e2] at this;exact Nat.lt_of_mul_lt_mul_left this
 ·intro h;have:=Nat.mul_lt_mul_of_pos_left h (Nat.mul_pos p1 p2);rw[<-e1,<-e2] at this;exact Nat.lt_of_mul_lt_mul_left this
theorem w9 {q r:Nat × Nat}(hq:0<q.2)(hr:0<r.2)(h1:dJ p q)(h2:dJ q r):dJ p r:=by
 unfold dJ at *;have a:=Nat.mul_lt_mul_of_pos_right h1 hr;by_cases hp:p.2=0
 ·rw[hp,Nat.mul_zero] at h1;exact absurd h1 (Nat.not_lt_zero _)
 ·have b:=Nat.mul_lt_mul_of_pos_right h2 (show 0<p.2 by omega);have c:p.1*r.2*q.2<r.1*p.2*q.2:=by
   calc p.1*r.2*q.2=p.1*q.2*r.2:=by grind
    _<q.1*p.2*r.2:=a
    _=q.1*r.2*p.2:=by grind
    _<r.1*q.2*p.2:=b
    _=r.1*p.2*q.2:=by grind
  exact Nat.lt_of_mul_lt_mul_right c
def PK (q r:Int):Prop:=0<=q/\0<=r/\r<8589934592
def Pot (st:AH)(p:Nat):Prop:=∃q r,st[p]?=some (pc q r)/\PK q r
theorem Pot.lt (h:Pot st p):p<st.length:=by obtain⟨q,r,e,_⟩:=h;exact au e
theorem Pot.app {g:AH}(h:Pot st p):Pot (st++g) p:=by obtain⟨q,r,e,z⟩:=h;exact⟨q,r,bj e,z⟩
structure Gr (st:AH)(p:Nat)(st':AH):Prop where
 len:st.length<=st'.length
 old:∀i,i<st.length->i≠p->st'[i]?=st[i]?
 pot:Pot st' p
 was:p<st.length
theorem Gr.refl (h:Pot st p):Gr st p st:=⟨KF _,fun _ _ _=>rfl,h,h.lt⟩
theorem Gr.trans (a:Gr st p s1)(b:Gr s1 p s2):Gr st p s2:=⟨K_ a.len b.len,fun i h1 h2=>(b.old i (KY h1 a.len) h2).trans (a.old i h1 h2),b.pot,a.was⟩
theorem Gr.app {g:AH}(a:Gr st p s1):Gr st p (s1++g) :=
 ⟨by rw[KN];exact K_ a.len (M5 _ _),fun i h1 h2=>by rw[K3 (KY h1 a.len)];exact a.old i h1 h2,a.pot.app,a.was⟩
theorem Gr.set (a:Gr st p s1)(z:PK q r):Gr st p (s1.set p (pc q r)) :=
 ⟨by rw[M_];exact a.len,fun i h1 h2=>by rw[K5 (Ne.symm h2)];exact a.old i h1 h2,⟨q,r,K1 a.pot.lt,z⟩,a.was⟩
theorem Gr.setN {n:Nat}(a:Gr st p s1)(h:st.length<=n):Gr st p (s1.set n c):=by
 have hn:n≠p:=fun e=>by have:=a.was;omega
 refine⟨by rw[M_];exact a.len,fun i h1 h2=>by rw[K5 (by omega)];exact a.old i h1 h2,?_,a.was⟩;obtain⟨q,r,e,z⟩:=a.pot;exact⟨q,r,by rw[K5 hn];exact e,z⟩
theorem Gr.get {n:Nat}(a:Gr st p s1)(h:st[n]?=some c)(hn:n≠p):s1[n]?=some c:=(a.old n (au h) hn).trans h
theorem Gr.tmp {v:PV}{Q:EK}(a:Gr st p s1)(hv:v.bel st.length=true)(k:∀s2,Gr st p s2->s2.length=st.length->Q v s2):Tmp st Q v s1:=by
 have hl:(s1.take st.length).length=st.length:=by rw[MI];exact OL a.len
 have hg:∀i,i<st.length->(s1.take st.length)[i]?=s1[i]?:=fun i hi=>by rw[MP hi]
 obtain⟨q,r,e,z⟩:=a.pot;refine⟨s1.take st.length,s1.drop st.length,(List.take_append_drop _ _).symm,hl,fun i hi=>?_,hv,k _ ⟨by omega,fun i h1 h2=>(hg i h1).trans (a.old i h1 h2),⟨q,r,(hg p a.was).trans e,z⟩,a.was⟩ hl⟩;by_cases hp:i=p
 ·subst hp;exact .inr ⟨pc q r,(hg i a.was).trans e,GJ⟩
 ·exact .inl ((hg i hi).trans (a.old i hi hp))
theorem Ed:Ac 10 11:=⟨by decide,by decide,by decide⟩
theorem I0 {L:List PV}{P:PV->Prop}(h:∀v∈L,P v){y:Int}(y0:0<=y)(y1:y<L.length):∃v,atI L y=some v/\P v:=by
 obtain⟨m,rfl⟩:∃m:Nat,y=m:=⟨y.toNat,by omega⟩;have hm:m<L.length:=by omega
 exact⟨L[m],dt (KU hm),h _ (OC hm)⟩
theorem Gr.ne (a:Gr st p s1):s1.length≠p:=fun e=>by have:=a.pot.lt;omega
theorem ba:gM st (.ref n) st'=(st'[n]?=st[n]?):=rfl
theorem GN {L:List PV}:iJ L (some 1) none=L.drop 1:=by
 unfold iJ;have:=HT.sIx_nat L.length 0 1;rw[show ((1:Nat):Int)=(1:Int) from rfl] at this;rw[HT.sIx_none,this];cases L with
 | nil=>rfl
 | cons x xs =>
  have:min 1 (x::xs).length=1:=by simp only[List.length_cons];omega
  rw[this];exact L4 (by simp)
noncomputable def dg (n:Nat):List Nat:=(Nat.toDigits 10 n).map Char.toNat
noncomputable abbrev nt (n:Nat):Str:=Str.ofString (toString ((n:Nat):Int))
theorem fY (n:Nat):(nt n).cps.toList=dg n:=W.KIN.signs_num n
theorem FM (n:Nat):PySem.NumText.digitsVal (dg n)=n:=W.KIN.val_back n
theorem gw {n:Nat}(h:n<10):dg n=[48+n]:=by
 unfold dg;rw[Nat.toDigits_of_lt_base h];have:∀d:Nat,d<10->(Nat.digitChar d).toNat=48+d:=by decide
 show [(Nat.digitChar n).toNat]=_;rw[this n h]
theorem qH {n:Nat}(h:¬n<10):dg n=dg (n/10)++[48+n % 10]:=by
 have hm:n % 10<10:=OW n (by decide);have t:Nat.toDigits 10 (n/10)++Nat.toDigits 10 (n % 10)=Nat.toDigits 10 (10*(n/10)+n % 10):=Nat.toDigits_append_toDigits (by decide) (by omega) hm;rw[Nat.div_add_mod] at t;have e:=gw hm;unfold dg at e |-
 rw[<-t,LA,e]
theorem qL (n:Nat):∀c∈dg n,48<=c/\c<=57:=by
 induction n using Nat.strongRecOn with
 | _ n ih =>
  by_cases h:n<10
  ·rw[gw h];intro c hc;rw[K9] at hc;omega
  ·rw[qH h];intro c hc;rcases K7.mp hc with hc|hc
   ·exact ih _ (by omega) c hc
   ·rw[K9] at hc;omega
theorem vt (n:Nat):∃c r,dg n=c::r/\(c=48->n=0):=by
 induction n using Nat.strongRecOn with
 | _ n ih =>
  by_cases h:n<10
  ·exact⟨_,_,gw h,fun e=>by omega⟩
  ·obtain⟨c,r,e,k⟩:=ih (n/10) (by omega);refine⟨c,r++[48+n % 10],by rw[qH h,e];rfl,fun z=>?_⟩;have:=k z;omega
theorem tZ:∀(k n:Nat),n<10 ^ (k+1)->(dg n).length<=k+1
 | 0,n,h=>by rw[gw h];exact KF _
 | k+1,n,h=>by
  by_cases h1:n<10
  ·rw[gw h1];simp
  ·rw[qH h1,KN];have:n/10<10 ^ (k+1):=by rw[Nat.pow_succ] at h;omega
   have:=tZ k _ this;simp only[List.length_singleton];omega
theorem eC {x y:Str}(h:x.cps.toList=y.cps.toList):x=y:=by obtain⟨⟨a⟩⟩:=x;obtain⟨⟨b⟩⟩:=y;cases h;rfl
theorem aW (x y:Str):(x++y).cps.toList=x.cps.toList++y.cps.toList:=by show (x.cps++y.cps).toList=_;rw[Array.toList_append]
theorem av (x:Str):x.length=x.cps.toList.length:=by simp[Str.length]
theorem fT {n:Nat}(h:n<10 ^ 12):(nt n).length<=12:=by rw[av,fY];exact tZ 11 n h
theorem A_ (cs:List Nat):PySem.NumText.digitsVal (48::cs)=PySem.NumText.digitsVal cs:=by unfold PySem.NumText.digitsVal;rw[List.foldl_cons]
theorem zw {n:Nat}(h:n<10 ^ 12):PySem.intText? (("0":Str)++nt n)=some (n:Int):=by
 have e:(("0":Str)++nt n).cps.toList=48::dg n:=by rw [aW,fY];rfl
 have:=PySem.intText_digits (x:=("0":Str)++nt n) (by
  intro c hc;rw[e] at hc;rcases LC.mp hc with rfl|hc
  ·decide
  ·exact qL n c hc) (by rw[e];exact fun z=>nomatch z) (by
  rw[av,e,LI];have:=tZ 11 n h;omega)
 rw[e,A_,FM] at this;exact this
theorem C1 (z:Str):il z none (some (z.length:Int))=z:=by
 unfold il;have:(Builtin.Str.strSliceIndices none (some (z.length:Int)) 1 z.length).length=z.length:=by
  have e:=PySem.StrLaws.strSliceIndices_plain (a:=0) (b:=z.length) (len:=z.length) (LU _) (KF _);have e2:Builtin.Str.strSliceIndices none (some (z.length:Int)) 1 z.length=Builtin.Str.strSliceIndices (some ((0:Nat):Int)) (some (z.length:Int)) 1 z.length:=by
   unfold Builtin.Str.strSliceIndices;have e3:max 0 (min (if ((0:Nat):Int)<0 then ((0:Nat):Int)+(z.length:Int) else ((0:Nat):Int)) (z.length:Int))=0:=by omega
   simp only[show (1:Int) > 0 by decide,if_true,e3]
  rw[e2,e];simp
 rw[this];simp
theorem xt {z:Str}(h:47 ∉ z.cps.toList):ko z "/"=[.str z,.str Str.empty,.str Str.empty]:=by
 have:=MY z 47;rw[LJ h] at this;unfold ko;cases e:Builtin.Str.occurrences z "/" 0 z.length 1 with
 | nil=>rfl
 | cons i r =>have e':Builtin.Str.occurrences z ⟨#[47]⟩ 0 z.length 1=i::r:=e;rw[e'] at this;cases this
theorem yG {x y:Str}(h:47 ∉ x.cps.toList)(h2:47 ∉ y.cps.toList):ko (x++("/":Str)++y) "/"=[.str x,.str "/",.str y]:=by
 have el:(x++("/":Str)++y).cps.toList=x.cps.toList++47::y.cps.toList:=by rw[aW,aW,MD];rfl
 generalize x++("/":Str)++y=z at el;have f:=MY z 47;rw[LH (by rw[el];simp)] at f;unfold ko;cases e:Builtin.Str.occurrences z "/" 0 z.length 1 with
 | nil =>have e':Builtin.Str.occurrences z ⟨#[47]⟩ 0 z.length 1=[]:=e;rw[e'] at f;cases f
 | cons i r =>
  have e':Builtin.Str.occurrences z ⟨#[47]⟩ 0 z.length 1=i::r:=e;have sp:=(PySem.StrLaws.subAt_one z 47 i).mp (PySem.StrLaws.occ_spec z ⟨#[47]⟩ 0 z.length 1 i (by rw[e'];exact KP ..));rw[el] at sp;have hi:i=x.cps.toList.length:=by
   by_cases h3:i<x.cps.toList.length
   ·rw[K3 h3] at sp;exact absurd (KJ sp) h
   ·rw[K8 (by omega)] at sp;cases q:i-x.cps.toList.length with
    | zero=>omega
    | succ k =>rw[q,List.getElem?_cons_succ] at sp;exact absurd (KJ sp) h2
  subst hi;have s1:Builtin.Str.strSub z 0 x.cps.toList.length=x:=eC (by rw[MH,el];simp);have s2:Builtin.Str.strSub z (x.cps.toList.length+1) z.length=y:=eC (by rw[MH,av,el];rw[List.drop_append,List.drop_eq_nil_of_le (by omega),List.nil_append,show x.cps.toList.length+1-x.cps.toList.length=1 by omega,List.drop_succ_cons,MX];exact L4 (by simp;omega))
  show [PV.str (Builtin.Str.strSub z 0 x.cps.toList.length),PV.str "/",PV.str (Builtin.Str.strSub z (x.cps.toList.length+1) z.length)]=_;rw[s1,s2]
theorem zF:47 ∉ (nt n).cps.toList:=fun h=>by rw[fY] at h;have:=qL n _ h;omega
noncomputable def ft (n d:Nat):Str:=if d=1 then nt n else nt n++("/":Str)++nt d
theorem zE {n d:Nat}(hn:n<10 ^ 12)(hd:d<10 ^ 12):(ft n d).length<=25:=by
 unfold ft;have:=fT hn;have:=fT hd;split
 ·omega
 ·rw[av,aW,aW,KN,KN,<-av,<-av,<-av];show (nt n).length+1+(nt d).length<=25;omega
theorem BW {as st Q Q'}(h:∀v st,Q v st->Q' v st)(q:iw as st Q):iw as st Q':=by obtain⟨n,e,h1,q⟩:=q;exact⟨n,e,h1,fun z=>h _ _ (q z)⟩
theorem Cn {as st Q}(q:iw as st Q):as.length=1:=by obtain⟨n,rfl,_⟩:=q;rfl
noncomputable def jn (s:List Nat):List (List Nat)->List Nat
 | []=>[]
 | [x]=>x
 | x::y::r=>x++(s++jn s (y::r))
noncomputable abbrev tl (z:Str):List Nat:=z.cps.toList
theorem ly (y:Str):∀ps:List Str,tl (Str.join y ps)=jn (tl y) (ps.map tl)
 | []=>rfl
 | [x]=>rfl
 | x::z::r=>by show tl (x++y++Str.join y (z::r))=tl x++(tl y++jn (tl y) ((z::r).map tl));rw[<-ly y (z::r)];show (x++y++_).cps.toList=_;rw[aW,aW,MD]
noncomputable abbrev ftp (p:Nat × Nat):Str:=ft p.1 p.2
noncomputable abbrev sV (ns:List Str):List PV:=ns.map PV.str
noncomputable abbrev kd (ps:List (Str × PV)):List (Key × PV):=ps.map fun p=>(Sum.inr p.1,p.2)
structure Fq (p:Nat × Nat):Prop where
 a:p.1<10 ^ 12
 b:p.2<10 ^ 12
 po:0<p.2
 g:Nat.gcd p.1 p.2=1
structure Nm (z:Str):Prop where
 pos:0<z.length
 len:z.length<=8
 ltr:∀c∈tl z,97<=c/\c<=122
structure Rd where
 a:Nat × Nat
 b:Nat × Nat
 c:Nat × Nat
 d:Nat × Nat
structure Te where
 a:Str
 b:Str
 rs:List Rd
noncomputable abbrev rdV (r:Rd):PV:=.tup [fr r.a,fr r.b,fr r.c,fr r.d]
noncomputable abbrev teV (t:Te):PV:=.tup [.str t.a,.str t.b,.tup (t.rs.map rdV)]
noncomputable abbrev pv (ps:List (Str × Te)):List (Str × PV):=ps.map fun p=>(p.1,teV p.2)
structure ib (r:Rd):Prop where
 a:Fq r.a
 b:Fq r.b
 c:Fq r.c
 d:Fq r.d
 ab:¬dJ r.b r.a
 ac:¬dJ r.c r.a
 bd:¬dJ r.d r.b
 eq:r.a=r.b->r.c=r.d
 hi:r.b.1<=4*10 ^ 11
structure kJ (t:Te):Prop where
 a:Nm t.a
 b:Nm t.b
 ne:t.a≠t.b
 rs:∀r∈t.rs,ib r
 len:t.rs.length<=8
def Lt (a b:Str):Prop:=tl a<tl b
structure NetOk (e:Nat × Nat)(ws:List Str)(ps:List (Str × Te)):Prop where
 fe:Fq e
 wl:ws.length<=4
 wn:∀z∈ws,Nm z
 ws:ws.Pairwise Lt
 pl:ps.length<=10
 pn:∀p∈ps,Nm p.1
 pt:∀p∈ps,kJ p.2
 nd:(ps.map (·.1)).Nodup
 en:∀p∈ps,∀r∈p.2.rs,¬dJ e r.b
def SoK (qs:List (Str × Te)):Prop:=(qs.map (·.1)).Pairwise Lt
noncomputable abbrev bG (e:Nat × Nat)(ws:List Str)(d:Nat):PV:=.tup [fr e,.tup (sV ws),.ref d]
noncomputable def jz (r:Rd):List Str:=["ride",ftp r.a,ftp r.b,ftp r.c,ftp r.d]
noncomputable def i9 (z:Str)(t:Te):List Str:=["tie",z,t.a,t.b]
noncomputable def fu (p:Str × Te):List (List Str):=i9 p.1 p.2::p.2.rs.map jz
noncomputable def bJ (qs:List (Str × Te)):List (List Str):=(qs.map fu).flatten
noncomputable def aG (w:List Str):Str:=Txt.join " " w
noncomputable def bL (e:Nat × Nat)(ws:List Str)(qs:List (Str × Te)):List (List Str):=["end",ftp e]::("waits"::ws)::bJ qs
noncomputable def iK (e:Nat × Nat)(ws:List Str)(qs:List (Str × Te)):Str:=Txt.join "\n" ((bL e ws qs).map aG)++("\n":Str)
def Pre (st st':AH):Prop:=∀i,i<st.length->st'[i]?=st[i]?
theorem Pre.refl:Pre st st:=fun _ _=>rfl
theorem Pre.app {g:AH}(h:Pre st s):Pre st (s++g):=fun i hi=>by have:=h i hi;rw[KU hi] at this;rw[KU hi];exact bj this
theorem Pre.get (h:Pre st s){k:Nat}(e:st[k]?=some c):s[k]?=some c:=(h k (au e)).trans e
theorem Pre.len (h:Pre st s):st.length<=s.length:=by
 by_cases z:st.length<=s.length
 ·exact z
 ·have:=h s.length (by omega);rw[LO (KF _),KU (by omega)] at this;cases this
theorem Pre.trans (h:Pre a b)(k:Pre b c):Pre a c:=fun i hi=>(k i (KY hi h.len)).trans (h i hi)
theorem Pre.setN {n:Nat}(h:Pre st s)(hn:st.length<=n):Pre st (s.set n c):=fun i hi=>by rw[K5 (by omega)];exact h i hi
abbrev Mo (s:FSp):Prop:=∀ {as:List PV}{st:AH}{Q Q':EK},(∀v st,Q v st->Q' v st)->s as st Q->s as st Q'
abbrev Ln (s:FSp)(n:Nat):Prop:=∀ {as:List PV}{st:AH}{Q:EK},s as st Q->as.length=n
local macro_rules | `(tactic| walk_at "MO")=>`(tactic| (intro as st Q Q' h q;repeat (first|exact h _ _ q|(obtain ⟨a,q⟩:=q;first|refine Exists.intro a ?_|refine And.intro a ?_)|(intro a;replace q:=q a))))
local macro_rules | `(tactic| walk_at "LN")=>`(tactic| (intro as st Q q;repeat (obtain ⟨a,q⟩:=q;try exact congrArg List.length a)))
def aZ:FSp:=fun as st Q=>∃p q,as=[fr p,fr q]/\Sz 60 p/\Sz 60 q/\Q (.bl (decide (p.1*q.2<q.1*p.2))) st
theorem iq:Mo aZ:=by walk_at "MO"
theorem iV:Ln aZ 2:=by walk_at "LN"
noncomputable abbrev e_:=aZ
theorem k5 {as st Q Q'}(h:∀v st,Q v st->Q' v st)(q:aZ as st Q):aZ as st Q':=iq h q
theorem mP {as st Q}(q:aZ as st Q):as.length=2:=iV q
def bA:FSp:=fun as st Q=>∃n:Nat,as=[.int n]/\n<10 ^ 12/\Q (.str (nt n)) st
theorem jP:Mo bA:=by walk_at "MO"
theorem kU:Ln bA 1:=by walk_at "LN"
def aD:FSp:=fun as st Q=>∃p,as=[fr p]/\Fq p/\Q (.str (ftp p)) st
theorem eg:Mo aD:=by walk_at "MO"
theorem eN:Ln aD 1:=by walk_at "LN"
noncomputable abbrev bM:=aD
theorem gg {as st Q Q'}(h:∀v st,Q v st->Q' v st)(q:aD as st Q):aD as st Q':=eg h q
theorem gm {as st Q}(q:aD as st Q):as.length=1:=eN q
def a9:FSp:=fun as st Q=>∃n:Nat,as=[.str (nt n)]/\n<10 ^ 12/\Q (.bl true) st
theorem ie:Mo a9:=by walk_at "MO"
theorem iF:Ln a9 1:=by walk_at "LN"
def bE:FSp:=fun as st Q=>∃n:Nat,as=[.str (nt n)]/\n<10 ^ 12/\Q (.int n) st
theorem jS:Mo bE:=by walk_at "MO"
theorem kO:Ln bE 1:=by walk_at "LN"
def bf:FSp:=fun as st Q=>∃p,as=[.str (ftp p)]/\Fq p/\Q (fr p) st
theorem iL:Mo bf:=by walk_at "MO"
theorem js:Ln bf 1:=by walk_at "LN"
def dZ:FSp:=fun as st Q=>∃r,as=[rdV r]/\ib r/\Q (.bl true) st
theorem qa:Mo dZ:=by walk_at "MO"
theorem sr:Ln dZ 1:=by walk_at "LN"
def c6:FSp:=fun as st Q=>∃L:List Rd,as=[.tup (L.map rdV)]/\(∀r∈L,ib r)/\L.length<=8/\Q (.bl true) st
theorem nL:Mo c6:=by walk_at "MO"
theorem qY:Ln c6 1:=by walk_at "LN"
def dS:FSp:=fun as st Q=>∃z,as=[.str z]/\Nm z/\Q (.bl true) st
theorem q9:Mo dS:=by walk_at "MO"
theorem td:Ln dS 1:=by walk_at "LN"
def cX:FSp:=fun as st Q=>∃ws,as=[.tup (sV ws)]/\ws.length<=4/\(∀z∈ws,Nm z)/\ws.Pairwise Lt/\Q (.bl true) st
theorem nV:Mo cX:=by walk_at "MO"
theorem pT:Ln cX 1:=by walk_at "LN"
def fv:FSp:=fun as st Q=>∃t e,as=[teV t,fr e]/\kJ t/\Fq e/\(∀r∈t.rs,¬dJ e r.b)/\Q (.bl true) st
theorem sQ:Mo fv:=by walk_at "MO"
theorem uX:Ln fv 2:=by walk_at "LN"
def fm:FSp:=fun as st Q=>∃e ws d ps,as=[bG e ws d]/\st[d]?=some (.dk (kd (pv ps)))/\NetOk e ws ps/\Q (.bl true) st
theorem rM:Mo fm:=by walk_at "MO"
theorem uH:Ln fm 1:=by walk_at "LN"
def cm:FSp:=fun as st Q=>∃z t,as=[.str z,teV t]/\Nm z/\kJ t/\∀n st',Pre st st'->st.length<=n->st'[n]?=some (.lst (sV ((fu (z,t)).map aG)))->Q (.ref n) st'
theorem lR:Mo cm:=by walk_at "MO"
theorem n9:Ln cm 2:=by walk_at "LN"
def a8:FSp:=fun as st Q=>∃e ws d ps,as=[bG e ws d]/\st[d]?=some (.dk (kd (pv ps)))/\NetOk e ws ps/\∀qs st',Pre st st'->qs.Perm ps->SoK qs->Q (.str (iK e ws qs)) st'
theorem ir:Mo a8:=by walk_at "MO"
theorem jy:Ln a8 1:=by walk_at "LN"
noncomputable abbrev fZ:=a8
theorem lD {as st Q Q'}(h:∀v st,Q v st->Q' v st)(q:a8 as st Q):a8 as st Q':=ir h q
theorem nv {as st Q}(q:a8 as st Q):as.length=1:=jy q
def c8:FSp:=fun as st Q=>∃n e,as=[.ref n]/\st[n]?=some (.lst (sV ["end",ftp e]))/\Fq e/\Q (fr e) st
theorem nM:Mo c8:=by walk_at "MO"
theorem qU:Ln c8 1:=by walk_at "LN"
def bS:FSp:=fun as st Q=>∃n ws,as=[.ref n]/\st[n]?=some (.lst (sV ("waits"::ws)))/\ws.length<=4/\Q (.tup (sV ws)) st
theorem kR:Mo bS:=by walk_at "MO"
theorem mS:Ln bS 1:=by walk_at "LN"
def cu:FSp:=fun as st Q=>∃(n:Nat) (ms:List Nat) (qs:List (Str × Te)),as=[.ref n]/\st[n]?=some (.lst (ms.map PV.ref))/\ms.map (fun m=>st[m]?)=(bJ qs).map (fun w=>some (Cell.lst (sV w)))/\(∀q∈qs,Nm q.1)/\(∀q∈qs,kJ q.2)/\SoK qs/\qs.length<=10/\∀d st',Pre st st'->st.length<=d->st'[d]?=some (.dk (kd (pv qs)))->Q (.ref d) st'
theorem mE:Mo cu:=by walk_at "MO"
theorem nC:Ln cu 1:=by walk_at "LN"
def c4:FSp:=fun as st Q=>∃e ws qs,as=[.str (iK e ws qs)]/\NetOk e ws qs/\SoK qs/\∀d st',Pre st st'->st.length<=d->st'[d]?=some (.dk (kd (pv qs)))->Q (bG e ws d) st'
theorem nE:Mo c4:=by walk_at "MO"
theorem qS:Ln c4 1:=by walk_at "LN"
structure Gn (st:AH)(p t:Nat)(st':AH):Prop where
 len:st.length<=st'.length
 old:∀i,i<st.length->i≠p->i≠t->st'[i]?=st[i]?
 pot:Pot st' p
theorem Gn.trans (a:Gn st p t s1)(b:Gn s1 p t s2):Gn st p t s2:=⟨K_ a.len b.len,fun i h1 h2 h3=>(b.old i (KY h1 a.len) h2 h3).trans (a.old i h1 h2 h3),b.pot⟩
theorem Gn.get {n:Nat}(a:Gn st p t s1)(h:st[n]?=some c)(hn:n≠p)(ht:n≠t):s1[n]?=some c:=(a.old n (au h) hn ht).trans h
theorem Gn.gr {t:Nat}(a:Gr st p s1)(ht:st.length<=t)(b:Gn s1 p t s2):Gr st p s2:=⟨K_ a.len b.len,fun i h1 h2=>(b.old i (KY h1 a.len) h2 (by omega)).trans (a.old i h1 h2),b.pot,a.was⟩
def eh:FSp:=fun as st Q=>∃(ns:List Int) (k:Nat),as=[.rdl (ns.map .int),.int k]/\ns.length<=63/\∀z,Q (.int z) st
theorem qc:Mo eh:=by walk_at "MO"
theorem tO:Ln eh 2:=by walk_at "LN"
def cY:FSp:=fun as st Q=>∃(ns:List Int) (k:Nat),as=[.rdl (ns.map .int),.int k]/\ns.length<=63/\k<64/\∀q r,PK q r->Q (.ref st.length) (st++[pc q r])
theorem nK:Mo cY:=by walk_at "MO"
theorem pW:Ln cY 2:=by walk_at "LN"
def cy:FSp:=fun as st Q=>∃(p:Nat) (many:Int),as=[.ref p,.int many]/\Pot st p/\0<many/\many<2 ^ 200/\∀x st',0<=x->x<many->Gr st p st'->Q (.int x) st'
theorem lZ:Mo cy:=by walk_at "MO"
theorem nD:Ln cy 2:=by walk_at "LN"
def Aj (st:AH)(p:Nat)(v:PV)(n:Nat)(f:Nat->PV):Prop:=(∃z,v=.str z/\z.length=n/\∀(i:Nat) c,z.cps.toList[i]?=some c->f i=.str ⟨#[c]⟩)\/∃m xs,v=.ref m/\m≠p/\st[m]?=some (.lst xs)/\xs.length=n/\∀(i:Nat) x,xs[i]?=some x->f i=x
def bQ:FSp:=fun as st Q=>∃(p:Nat) (v:PV) (n:Nat) (f:Nat->PV),as=[.ref p,v]/\Pot st p/\0<n/\n<=1000/\Aj st p v n f/\∀i st',i<n->Gr st p st'->Q (f i) st'
theorem kI:Mo bQ:=by walk_at "MO"
theorem mC:Ln bQ 2:=by walk_at "LN"
def cg:FSp:=fun as st Q=>∃(p t:Nat) (names:List Str),as=[.ref p,.ref t]/\Pot st p/\t≠p/\st[t]?=some (.lst (sV names))/\names.length<20/\(∀z∈names,Nm z)/\∀z st',Nm z->z ∉ names->Gn st p t st'->st'[t]?=some (.lst (sV (names++[z])))->Q (.str z) st'
theorem mv:Mo cg:=by walk_at "MO"
theorem nj:Ln cg 2:=by walk_at "LN"
def cZ:FSp:=fun as st Q=>∃n d:Nat,as=[.int n,.int d]/\0<d/\d<2 ^ 8000/\Q (fr (dA n d)) st
theorem nY:Mo cZ:=by walk_at "MO"
theorem qp:Ln cZ 2:=by walk_at "LN"
def ck:FSp:=fun as st Q=>∃(p:Nat) (room:Int),as=[.ref p,.int room]/\Pot st p/\0<room/\room<=2*10 ^ 11/\∀r st',ib r->Gr st p st'->Q (rdV r) st'
theorem lG:Mo ck:=by walk_at "MO"
theorem nB:Ln ck 2:=by walk_at "LN"
def bP:FSp:=fun as st Q=>∃p:Nat,as=[.ref p]/\Pot st p/\∀n (L:List Rd) st',Gr st p st'->st.length<=n->st'[n]?=some (.lst (L.map rdV))->(∀r∈L,ib r)->L.length<=4->Q (.ref n) st'
theorem k8:Mo bP:=by walk_at "MO"
theorem lU:Ln bP 1:=by walk_at "LN"
def bT:FSp:=fun as st Q=>∃(p:Nat) (room:Int),as=[.ref p,.int room]/\Pot st p/\0<room/\room<=2*10 ^ 11/\∀(L:List Rd) st',Gr st p st'->(∀r∈L,ib r)->L.length<=8->Q (.tup (L.map rdV)) st'
theorem kN:Mo bT:=by walk_at "MO"
theorem lP:Ln bT 2:=by walk_at "LN"
def c7:FSp:=fun as st Q=>∃(p d:Nat) (ps:List (Str × Te)),as=[.ref p,.ref d]/\Pot st p/\d≠p/\st[d]?=some (.dk (kd (pv ps)))/\(∀q∈ps,kJ q.2)/\∀e st',Fq e->(∀q∈ps,∀r∈q.2.rs,¬dJ e r.b)->Gr st p st'->Q (fr e) st'
theorem nP:Mo c7:=by walk_at "MO"
theorem qy:Ln c7 2:=by walk_at "LN"
def cW:FSp:=fun as st Q=>∃p:Nat,as=[.ref p]/\Pot st p/\∀e ws d ps st',Gr st p st'->st.length<=d->st'[d]?=some (.dk (kd (pv ps)))->NetOk e ws ps->Q (bG e ws d) st'
theorem nq:Mo cW:=by walk_at "MO"
theorem pE:Ln cW 1:=by walk_at "LN"
def bq:FSp:=fun as st Q=>∃e ws d ps d' ps',as=[bG e ws d,bG e ws d']/\st[d]?=some (.dk (kd (pv ps)))/\st[d']?=some (.dk (kd (pv ps')))/\NetOk e ws ps/\NetOk e ws ps'/\ps.Perm ps'/\Q (.bl true) st
theorem jb:Mo bq:=by walk_at "MO"
theorem jZ:Ln bq 2:=by walk_at "LN"
def bV:FSp:=fun as st Q=>∃e ws d ps,as=[bG e ws d]/\st[d]?=some (.dk (kd (pv ps)))/\NetOk e ws ps/\∀st',Pre st st'->Q (.bl true) st'
theorem kF:Mo bV:=by walk_at "MO"
theorem mJ:Ln bV 1:=by walk_at "LN"
noncomputable abbrev aY:PV:=(.str "ride")
noncomputable abbrev cU:PV:=(.str "tie")
noncomputable abbrev bR:PV:=(.str "waits")
noncomputable abbrev cT:PV:=(.str "end")
noncomputable abbrev bW:PV:=(.int 8)
noncomputable abbrev fE:PV:=(.str "abcdefghijklmnopqrstuvwxyz")
noncomputable abbrev fA:PV:=(.int 10000000000000000000000000000000000000000000000000000000000000000)
noncomputable abbrev a0:PV:=(.int 64)
noncomputable abbrev fV:PV:=(.str "0123456789")
noncomputable def Γ:Nat->FSp
 | 0=>b_
 | 1=>aU
 | 2=>a6
 | 3=>aZ
 | 4=>bA
 | 5=>aD
 | 6=>a9
 | 7=>bE
 | 8=>bf
 | 9=>dZ
 | 10=>c6
 | 11=>dS
 | 12=>cX
 | 13=>fv
 | 14=>fm
 | 15=>cm
 | 16=>a8
 | 17=>c8
 | 18=>bS
 | 19=>cu
 | 20=>c4
 | 21=>eh
 | 22=>cY
 | 23=>cy
 | 24=>bQ
 | 25=>cg
 | 26=>cZ
 | 27=>e_
 | 28=>ck
 | 29=>bP
 | 30=>bT
 | 31=>c7
 | 32=>cW
 | 33=>bM
 | 34=>fZ
 | 35=>bq
 | 36=>bV
 | 37=>iw
 | _=>fun _ _ _=>False
theorem Γ_0:Γ 0=b_:=id rfl
theorem Γ_1:Γ 1=aU:=id rfl
theorem Γ_2:Γ 2=a6:=id rfl
theorem Γ_3:Γ 3=aZ:=id rfl
theorem Γ_4:Γ 4=bA:=id rfl
theorem Γ_5:Γ 5=aD:=id rfl
theorem Γ_6:Γ 6=a9:=id rfl
theorem Γ_7:Γ 7=bE:=id rfl
theorem Γ_8:Γ 8=bf:=id rfl
theorem Γ_9:Γ 9=dZ:=id rfl
theorem JC:Γ 10=c6:=id rfl
theorem IU:Γ 11=dS:=id rfl
theorem Jq:Γ 12=cX:=id rfl
theorem G':Γ 13=fv:=id rfl
theorem Ju:Γ 14=fm:=id rfl
theorem Im:Γ 15=cm:=id rfl
theorem IT:Γ 16=a8:=id rfl
theorem Iw:Γ 17=c8:=id rfl
theorem II:Γ 18=bS:=id rfl
theorem IJ:Γ 19=cu:=id rfl
theorem IH:Γ 20=c4:=id rfl
theorem Ij:Γ 21=eh:=id rfl
theorem HR:Γ 22=cY:=id rfl
theorem JG:Γ 23=cy:=id rfl
theorem Hx:Γ 24=bQ:=id rfl
theorem Ik:Γ 25=cg:=id rfl
theorem HM:Γ 26=cZ:=id rfl
theorem JF:Γ 27=e_:=id rfl
theorem Jg:Γ 28=ck:=id rfl
theorem HQ:Γ 29=bP:=id rfl
theorem HN:Γ 30=bT:=id rfl
theorem Hf:Γ 31=c7:=id rfl
theorem IW:Γ 32=cW:=id rfl
theorem JI:Γ 33=bM:=id rfl
theorem JJ:Γ 34=fZ:=id rfl
theorem Hm:Γ 35=bq:=id rfl
theorem Jl:Γ 36=bV:=id rfl
theorem Hu:Γ 37=iw:=id rfl
theorem Γm:bc Γ:=by
 intro f vs st Q Q' h q
 match f,q with
 | 0,q=>exact ng (st:=st) h q
 | 1,q=>exact ic (st:=st) h q
 | 2,q=>exact jX (st:=st) h q
 | 3,q=>exact iq (st:=st) h q
 | 4,q=>exact jP (st:=st) h q
 | 5,q=>exact eg (st:=st) h q
 | 6,q=>exact ie (st:=st) h q
 | 7,q=>exact jS (st:=st) h q
 | 8,q=>exact iL (st:=st) h q
 | 9,q=>exact qa (st:=st) h q
 | 10,q=>exact nL (st:=st) h q
 | 11,q=>exact q9 (st:=st) h q
 | 12,q=>exact nV (st:=st) h q
 | 13,q=>exact sQ (st:=st) h q
 | 14,q=>exact rM (st:=st) h q
 | 15,q=>exact lR (st:=st) h q
 | 16,q=>exact ir (st:=st) h q
 | 17,q=>exact nM (st:=st) h q
 | 18,q=>exact kR (st:=st) h q
 | 19,q=>exact mE (st:=st) h q
 | 20,q=>exact nE (st:=st) h q
 | 21,q=>exact qc (st:=st) h q
 | 22,q=>exact nK (st:=st) h q
 | 23,q=>exact lZ (st:=st) h q
 | 24,q=>exact kI (st:=st) h q
 | 25,q=>exact mv (st:=st) h q
 | 26,q=>exact nY (st:=st) h q
 | 27,q=>exact k5 (st:=st) h q
 | 28,q=>exact lG (st:=st) h q
 | 29,q=>exact k8 (st:=st) h q
 | 30,q=>exact kN (st:=st) h q
 | 31,q=>exact nP (st:=st) h q
 | 32,q=>exact nq (st:=st) h q
 | 33,q=>exact gg (st:=st) h q
 | 34,q=>exact lD (st:=st) h q
 | 35,q=>exact jb (st:=st) h q
 | 36,q=>exact kF (st:=st) h q
 | 37,q=>exact BW (st:=st) h q
 | _+38,q=>exact q.elim
noncomputable def J5:List Str:=((["is_whole","common_divisor","is_fraction","is_below","number_text","fraction_text","is_number_text","read_number","read_fraction","is_ride","is_rides","is_name","is_names","is_tie","is_net","tie_lines","net_text","read_end","read_waits","read_ties","read_net","_law_at","_law_pot","_law_take","_law_drawn","_law_name","_law_low","_law_under","_law_ride","_law_chain"]:List Str)++(["_law_rides","_law_end","_law_net","_law_moment_text","_law_text","_law_is_just","_law_right","law"]:List Str))
noncomputable def Fv:List Str:=["isinstance","bool","int","len","tuple","str","divmod","all","range","zip","any","dict","sorted","list","max","repr","min"]
noncomputable def glL:List (Str × PV):=[("FIGURES",fV),("BLOCK_FIGURES",a0),("BLOCK",fA),("LETTERS",fE),("MOST_LETTERS",bW),("END_WORD",cT),("WAITS_WORD",bR),("TIE_WORD",cU),("RIDE_WORD",aY)]
noncomputable def mkc (N:List Str)(s:Stmt)(k:Nat):Cfg:={ N:=N,names:=(ae s).names,fns:=J5,lim:=k,blts:=Fv,gl:=glL }
local macro_rules | `(tactic| walk_at "SC")=>`(tactic| exact ⟨rfl,rfl,rfl,by decide +kernel,rfl,by decide +kernel,by decide +kernel⟩)
noncomputable abbrev fM:Stmt:=top 7
theorem sL:aj ["thing"] ["thing"] (ae fM):=by walk_at "SC"
noncomputable def lK:Cfg:=mkc ["thing"] fM 0
noncomputable def fg:Ss:=(.cons (.ret (.bop true (.cons (.inst (.var 0) "int") (.cons (.not (.inst (.var 0) "bool")) .nil)))) .nil)
theorem uf:aB lK  fg (ai fM)=true:=by decide +kernel
noncomputable abbrev bH:Stmt:=top 8
theorem jc:aj ["n","d"] ["n","d"] (ae bH):=by walk_at "SC"
noncomputable def fC:Cfg:=mkc ["n","d"] bH 1
noncomputable def bK:Ss:=(.cons (.whileS (.cmp .NotEq (.var 1) (.int 0)) (.cons (.par 0 1 (.var 1) (.bin .Mod (.var 0) (.var 1))) .nil)) (.cons (.ret (.var 0)) .nil))
theorem jY:aB fC  bK (ai bH)=true:=by decide +kernel
noncomputable abbrev cR:Stmt:=top 9
theorem lH:aj ["thing","n","d"] ["thing"] (ae cR):=by walk_at "SC"
noncomputable def iz:Cfg:=mkc ["thing","n","d"] cR 2
noncomputable def cG:Ss:=(.cons (.ifS (.bop false (.cons (.not (.inst (.var 0) "tuple")) (.cons (.cmp .NotEq (.blt .len (.cons (.var 0) .nil)) (.int 2)) .nil))) (.cons (.ret (.bl false)) .nil) .nil) (.cons (.set (.tup (.cons (.name 1) (.cons (.name 2) .nil))) (.var 0)) (.cons (.ifS (.bop false (.cons (.not (.call 0 (.cons (.var 1) .nil))) (.cons (.not (.call 0 (.cons (.var 2) .nil))) .nil))) (.cons (.ret (.bl false)) .nil) .nil) (.cons (.ret (.bop true (.cons (.cmp .GtE (.var 1) (.int 0)) (.cons (.cmp .GtE (.var 2) (.int 1)) (.cons (.cmp .Eq (.call 1 (.cons (.var 1) (.cons (.var 2) .nil))) (.int 1)) .nil))))) .nil))))
theorem ny:aB iz  cG (ai cR)=true:=by decide +kernel
noncomputable abbrev fI:Stmt:=top 10
theorem sX:aj ["one","other"] ["one","other"] (ae fI):=by walk_at "SC"
noncomputable def lV:Cfg:=mkc ["one","other"] fI 3
noncomputable def eV:Ss:=(.cons (.ret (.cmp .Lt (.bin .Mult (.ix (.var 0) (.int 0)) (.ix (.var 1) (.int 1))) (.bin .Mult (.ix (.var 1) (.int 0)) (.ix (.var 0) (.int 1))))) .nil)
theorem vo:aB lV  eV (ai fI)=true:=by decide +kernel
noncomputable abbrev cP:Stmt:=top 11
theorem mX:aj ["number","blocks","rest"] ["number"] (ae cP):=by walk_at "SC"
noncomputable def iB:Cfg:=mkc ["number","blocks","rest"] cP 4
noncomputable def cE:Ss:=(.cons (.set (.name 1) (.lst .nil)) (.cons (.whileS (.cmp .GtE (.var 0) (.gv "BLOCK" fA)) (.cons (.set (.tup (.cons (.name 0) (.cons (.name 2) .nil))) (.blt .divmod (.cons (.var 0) (.cons (.gv "BLOCK" fA) .nil)))) (.cons (.expr (.met .append (.var 1) (.cons .bad .nil))) .nil))) (.cons (.expr (.met .append (.var 1) (.cons (.blt .str1 (.cons (.var 0) .nil)) .nil))) (.cons (.ret (.jrev (.var 1))) .nil))))
theorem nA:aB iB  cE (ai cP)=true:=by decide +kernel
noncomputable abbrev bX:Stmt:=top 12
theorem jN:aj ["moment","n","d"] ["moment"] (ae bX):=by walk_at "SC"
noncomputable def gc:Cfg:=mkc ["moment","n","d"] bX 5
noncomputable def b8:Ss:=(.cons (.set (.tup (.cons (.name 1) (.cons (.name 2) .nil))) (.var 0)) (.cons (.ifS (.cmp .Eq (.var 2) (.int 1)) (.cons (.ret (.call 4 (.cons (.var 1) .nil))) .nil) .nil) (.cons (.ret (.bin .Add (.bin .Add (.call 4 (.cons (.var 1) .nil)) (.str "/")) (.call 4 (.cons (.var 2) .nil)))) .nil)))
theorem kZ:aB gc  b8 (ai bX)=true:=by decide +kernel
noncomputable abbrev bI:Stmt:=top 13
theorem jm:aj ["text"] ["text"] (ae bI):=by walk_at "SC"
noncomputable def fB:Cfg:=mkc ["text"] bI 6
noncomputable def bN:Ss:=(.cons (.ifS (.bop false (.cons (.cmp .Eq (.var 0) (.str "")) (.cons (.not (.tmp (.blt .all1 (.cons (.comp (.cmp .In (.var 0) (.gv "FIGURES" fV)) (.name 0) (.chars (.var 0)) .nil ["sign"] []) .nil)))) .nil))) (.cons (.ret (.bl false)) .nil) .nil) (.cons (.ret (.bop false (.cons (.cmp .Eq (.var 0) (.str "0")) (.cons (.cmp .NotEq (.ix (.var 0) (.int 0)) (.str "0")) .nil)))) .nil))
theorem jI:aB fB  bN (ai bI)=true:=by decide +kernel
noncomputable abbrev cN:Stmt:=top 14
theorem lM:aj ["text","head","number","at"] ["text"] (ae cN):=by walk_at "SC"
noncomputable def iu:Cfg:=mkc ["text","head","number","at"] cN 7
noncomputable def cB:Ss:=(.cons (.ifS (.not (.call 6 (.cons (.var 0) .nil))) (.cons .bad .nil) .nil) (.cons (.set (.name 1) (.bin .Mod (.blt .len (.cons (.var 0) .nil)) (.gv "BLOCK_FIGURES" a0))) (.cons (.set (.name 2) (.blt .int1 (.cons (.bin .Add (.str "0") (.sl (.var 0) .no (.yes (.var 1)))) .nil))) (.cons (.forS (.name 3) (.range3 (.var 1) (.blt .len (.cons (.var 0) .nil)) (.gv "BLOCK_FIGURES" a0)) (.cons (.set (.name 2) (.bin .Add (.bin .Mult (.var 2) (.gv "BLOCK" fA)) (.tmp (.blt .int1 (.cons (.sl (.var 0) (.yes (.var 3)) (.yes (.bin .Add (.var 3) (.gv "BLOCK_FIGURES" a0)))) .nil))))) .nil)) (.cons (.ret (.var 2)) .nil)))))
theorem nH:aB iu  cB (ai cN)=true:=by decide +kernel
noncomputable abbrev bY:Stmt:=top 15
theorem jO:aj ["text","above","slash","below","n","d"] ["text"] (ae bY):=by walk_at "SC"
noncomputable def f_:Cfg:=mkc ["text","above","slash","below","n","d"] bY 8
noncomputable def b7:Ss:=(.cons (.ifS (.not (.inst (.var 0) "str")) (.cons .bad .nil) .nil) (.cons (.set (.tup (.cons (.name 1) (.cons (.name 2) (.cons (.name 3) .nil)))) (.part (.var 0) "/")) (.cons (.set (.name 4) (.call 7 (.cons (.var 1) .nil))) (.cons (.ifS (.cmp .Eq (.var 2) (.str "")) (.cons (.ret (.tup (.cons (.var 4) (.cons (.int 1) .nil)))) .nil) .nil) (.cons (.set (.name 5) (.call 7 (.cons (.var 3) .nil))) (.cons (.ifS (.bop false (.cons (.cmp .Lt (.var 5) (.int 2)) (.cons (.cmp .NotEq (.call 1 (.cons (.var 4) (.cons (.var 5) .nil))) (.int 1)) .nil))) (.cons .bad .nil) .nil) (.cons (.ret (.tup (.cons (.var 4) (.cons (.var 5) .nil)))) .nil)))))))
theorem kH:aB f_  b7 (ai bY)=true:=by decide +kernel
noncomputable abbrev gT:Stmt:=top 17
theorem uo:aj ["thing","first","last","come","comes"] ["thing"] (ae gT):=by walk_at "SC"
noncomputable def oE:Cfg:=mkc ["thing","first","last","come","comes"] gT 9
noncomputable def fQ:Ss:=(.cons (.ifS (.bop false (.cons (.not (.inst (.var 0) "tuple")) (.cons (.cmp .NotEq (.blt .len (.cons (.var 0) .nil)) (.int 4)) (.cons (.not (.tmp (.blt .all1 (.cons (.comp (.call 2 (.cons (.var 0) .nil)) (.name 0) (.seq (.var 0)) .nil ["part"] []) .nil)))) .nil)))) (.cons (.ret (.bl false)) .nil) .nil) (.cons (.set (.tup (.cons (.name 1) (.cons (.name 2) (.cons (.name 3) (.cons (.name 4) .nil))))) (.var 0)) (.cons (.ifS (.bop false (.cons (.call 3 (.cons (.var 2) (.cons (.var 1) .nil))) (.cons (.call 3 (.cons (.var 3) (.cons (.var 1) .nil))) (.cons (.call 3 (.cons (.var 4) (.cons (.var 2) .nil))) .nil)))) (.cons (.ret (.bl false)) .nil) .nil) (.cons (.ret (.bop false (.cons (.cmp .NotEq (.var 1) (.var 2)) (.cons (.cmp .Eq (.var 3) (.var 4)) .nil)))) .nil))))
theorem xZ:aB oE  fQ (ai gT)=true:=by decide +kernel
noncomputable abbrev f7:Stmt:=top 18
theorem rD:aj ["thing"] ["thing"] (ae f7):=by walk_at "SC"
noncomputable def lJ:Cfg:=mkc ["thing"] f7 10
noncomputable def ff:Ss:=(.cons (.ret (.bop true (.cons (.inst (.var 0) "tuple") (.cons (.tmp (.blt .all1 (.cons (.comp (.call 9 (.cons (.var 0) .nil)) (.name 0) (.seq (.var 0)) .nil ["ride"] []) .nil))) .nil)))) .nil)
theorem t6:aB lJ  ff (ai f7)=true:=by decide +kernel
noncomputable abbrev gZ:Stmt:=top 22
theorem uO:aj ["thing"] ["thing"] (ae gZ):=by walk_at "SC"
noncomputable def oP:Cfg:=mkc ["thing"] gZ 11
noncomputable def fO:Ss:=(.cons (.ifS (.bop false (.cons (.not (.inst (.var 0) "str")) (.cons (.cmp .Eq (.var 0) (.str "")) (.cons (.cmp .Gt (.blt .len (.cons (.var 0) .nil)) (.gv "MOST_LETTERS" bW)) .nil)))) (.cons (.ret (.bl false)) .nil) .nil) (.cons (.ret (.tmp (.blt .all1 (.cons (.comp (.cmp .In (.var 0) (.gv "LETTERS" fE)) (.name 0) (.chars (.var 0)) .nil ["sign"] []) .nil)))) .nil))
theorem xO:aB oP  fO (ai gZ)=true:=by decide +kernel
noncomputable abbrev fK:Stmt:=top 23
theorem tE:aj ["thing"] ["thing"] (ae fK):=by walk_at "SC"
noncomputable def lQ:Cfg:=mkc ["thing"] fK 12
noncomputable def e6:Ss:=(.cons (.ifS (.bop false (.cons (.not (.inst (.var 0) "tuple")) (.cons (.not (.tmp (.blt .all1 (.cons (.comp (.call 11 (.cons (.var 0) .nil)) (.name 0) (.seq (.var 0)) .nil ["name"] []) .nil)))) .nil))) (.cons (.ret (.bl false)) .nil) .nil) (.cons (.ret (.tmp (.blt .all1 (.cons (.comp (.cmp .Lt (.var 0) (.var 1)) (.tup (.cons (.name 0) (.cons (.name 1) .nil))) (.zip (.var 0) (.sl (.var 0) (.yes (.int 1)) .no)) .nil ["ahead","name"] []) .nil)))) .nil))
theorem uA:aB lQ  e6 (ai fK)=true:=by decide +kernel
noncomputable abbrev iW:Stmt:=top 24
theorem xA:aj ["thing","end","a","b","rides"] ["thing","end"] (ae iW):=by walk_at "SC"
noncomputable def sU:Cfg:=mkc ["thing","end","a","b","rides"] iW 13
noncomputable def gL:Ss:=(.cons (.ifS (.bop false (.cons (.not (.inst (.var 0) "tuple")) (.cons (.cmp .NotEq (.blt .len (.cons (.var 0) .nil)) (.int 3)) .nil))) (.cons (.ret (.bl false)) .nil) .nil) (.cons (.set (.tup (.cons (.name 2) (.cons (.name 3) (.cons (.name 4) .nil)))) (.var 0)) (.cons (.ifS (.bop false (.cons (.not (.call 11 (.cons (.var 2) .nil))) (.cons (.not (.call 11 (.cons (.var 3) .nil))) (.cons (.cmp .Eq (.var 2) (.var 3)) (.cons (.not (.call 10 (.cons (.var 4) .nil))) .nil))))) (.cons (.ret (.bl false)) .nil) .nil) (.cons (.ret (.not (.tmp (.blt .any1 (.cons (.comp (.call 3 (.cons (.var 1) (.cons (.ix (.var 0) (.int 1)) .nil))) (.name 0) (.seq (.var 4)) .nil ["ride"] [1]) .nil))))) .nil))))
theorem Aq:aB sU  gL (ai iW)=true:=by decide +kernel
noncomputable abbrev jh:Stmt:=top 25
theorem xP:aj ["thing","end","waits","ties"] ["thing"] (ae jh):=by walk_at "SC"
noncomputable def sR:Cfg:=mkc ["thing","end","waits","ties"] jh 14
noncomputable def gP:Ss:=(.cons (.ifS (.bop false (.cons (.not (.inst (.var 0) "tuple")) (.cons (.cmp .NotEq (.blt .len (.cons (.var 0) .nil)) (.int 3)) .nil))) (.cons (.ret (.bl false)) .nil) .nil) (.cons (.set (.tup (.cons (.name 1) (.cons (.name 2) (.cons (.name 3) .nil)))) (.var 0)) (.cons (.ifS (.bop false (.cons (.not (.call 2 (.cons (.var 1) .nil))) (.cons (.not (.call 12 (.cons (.var 2) .nil))) (.cons (.not (.inst (.var 3) "dict")) .nil)))) (.cons (.ret (.bl false)) .nil) .nil) (.cons (.ret (.tmp (.blt .all1 (.cons (.compK (.bop true (.cons (.call 11 (.cons (.var 0) .nil)) (.cons (.call 13 (.cons (.var 1) (.cons (.var 2) .nil))) .nil))) (.tup (.cons (.name 0) (.cons (.name 1) .nil))) .items (.var 3) .nil ["name","tie"] [1]) .nil)))) .nil))))
theorem A2:aB sR  gP (ai jh)=true:=by decide +kernel
noncomputable abbrev eT:Stmt:=top 31
theorem q_:aj ["name","tie","a","b","rides","lines","ride"] ["name","tie"] (ae eT):=by walk_at "SC"
noncomputable def kh:Cfg:=mkc ["name","tie","a","b","rides","lines","ride"] eT 15
noncomputable def dU:Ss:=(.cons (.set (.tup (.cons (.name 2) (.cons (.name 3) (.cons (.name 4) .nil)))) (.var 1)) (.cons (.set (.name 5) (.lst (.cons (.tmp (.smx .join (.str " ") (.lst (.cons (.gv "TIE_WORD" cU) (.cons (.var 0) (.cons (.var 2) (.cons (.var 3) .nil))))))) .nil))) (.cons (.forS (.name 6) (.seq (.var 4)) (.cons (.expr (.met .append (.var 5) (.cons (.smx .join (.str " ") (.bin .Add (.lst (.cons (.gv "RIDE_WORD" aY) .nil)) (.comp (.call 5 (.cons (.var 0) .nil)) (.name 0) (.seq (.var 6)) .nil ["part"] []))) .nil))) .nil)) (.cons (.ret (.var 5)) .nil))))
theorem tu:aB kh  dU (ai eT)=true:=by decide +kernel
noncomputable abbrev fN:Stmt:=top 32
theorem rO:aj ["net","end","waits","ties","lines","name"] ["net"] (ae fN):=by walk_at "SC"
noncomputable def lE:Cfg:=mkc ["net","end","waits","ties","lines","name"] fN 16
noncomputable def eY:Ss:=(.cons (.set (.tup (.cons (.name 1) (.cons (.name 2) (.cons (.name 3) .nil)))) (.var 0)) (.cons (.set (.name 4) (.lst (.cons (.tmp (.smx .join (.str " ") (.lst (.cons (.gv "END_WORD" cT) (.cons (.call 5 (.cons (.var 1) .nil)) .nil))))) (.cons (.smx .join (.str " ") (.bin .Add (.lst (.cons (.gv "WAITS_WORD" bR) .nil)) (.blt .list1 (.cons (.var 2) .nil)))) .nil)))) (.cons (.forS (.name 5) (.seq (.blt .sortD (.cons (.var 3) .nil))) (.cons (.aug 4 .Add (.call 15 (.cons (.var 5) (.cons (.ix (.var 3) (.var 5)) .nil)))) .nil)) (.cons (.ret (.tmp (.smx .join (.str "") (.comp (.bin .Add (.var 0) (.str "\n")) (.name 0) (.seq (.var 4)) .nil ["line"] [])))) .nil))))
theorem ux:aB lE  eY (ai fN)=true:=by decide +kernel
noncomputable abbrev fF:Stmt:=top 33
theorem tL:aj ["words"] ["words"] (ae fF):=by walk_at "SC"
noncomputable def mL:Cfg:=mkc ["words"] fF 17
noncomputable def fh:Ss:=(.cons (.ifS (.bop false (.cons (.cmp .NotEq (.blt .len (.cons (.var 0) .nil)) (.int 2)) (.cons (.cmp .NotEq (.ix (.var 0) (.int 0)) (.gv "END_WORD" cT)) .nil))) (.cons .bad .nil) .nil) (.cons (.ret (.call 8 (.cons (.ix (.var 0) (.int 1)) .nil))) .nil))
theorem vh:aB mL  fh (ai fF)=true:=by decide +kernel
noncomputable abbrev dB:Stmt:=top 34
theorem nW:aj ["words"] ["words"] (ae dB):=by walk_at "SC"
noncomputable def i6:Cfg:=mkc ["words"] dB 18
noncomputable def c_:Ss:=(.cons (.ifS (.cmp .NotEq (.ix (.var 0) (.int 0)) (.gv "WAITS_WORD" bR)) (.cons .bad .nil) .nil) (.cons (.ret (.tmp (.blt .tuple1 (.cons (.sl (.var 0) (.yes (.int 1)) .no) .nil)))) .nil))
theorem qC:aB i6  c_ (ai dB)=true:=by decide +kernel
noncomputable abbrev eR:Stmt:=top 35
theorem pS:aj ["rows","ties","name","words","a","b","rides"] ["rows"] (ae eR):=by walk_at "SC"
noncomputable def kg:Cfg:=mkc ["rows","ties","name","words","a","b","rides"] eR 19
noncomputable def dW:Ss:=(.cons (.set (.name 1) .dct0) (.cons (.set (.name 2) (.str "")) (.cons (.forS (.name 3) (.seq (.var 0)) (.cons (.ifS (.bop true (.cons (.cmp .Eq (.ix (.var 3) (.int 0)) (.gv "TIE_WORD" cU)) (.cons (.cmp .Eq (.blt .len (.cons (.var 3) .nil)) (.int 4)) (.cons (.cmp .Gt (.ix (.var 3) (.int 1)) (.var 2)) .nil)))) (.cons (.set (.name 2) (.ix (.var 3) (.int 1))) (.cons (.set (.sub (.var 1) (.var 2)) (.tup (.cons (.ix (.var 3) (.int 2)) (.cons (.ix (.var 3) (.int 3)) (.cons (.tup .nil) .nil))))) .nil)) (.cons (.ifS (.bop true (.cons (.cmp .Eq (.ix (.var 3) (.int 0)) (.gv "RIDE_WORD" aY)) (.cons (.cmp .NotEq (.var 2) (.str "")) .nil))) (.cons (.set (.tup (.cons (.name 4) (.cons (.name 5) (.cons (.name 6) .nil)))) (.ix (.var 1) (.var 2))) (.cons (.set (.sub (.var 1) (.var 2)) (.tup (.cons (.var 4) (.cons (.var 5) (.cons (.bin .Add (.var 6) (.tup (.cons (.tmp (.blt .tuple1 (.cons (.comp (.call 8 (.cons (.var 0) .nil)) (.name 0) (.seq (.sl (.var 3) (.yes (.int 1)) .no)) .nil ["word"] []) .nil))) .nil))) .nil))))) .nil)) (.cons .bad .nil)) .nil)) .nil)) (.cons (.ret (.var 1)) .nil))))
theorem rW:aB kg  dW (ai eR)=true:=by decide +kernel
noncomputable abbrev fU:Stmt:=top 36
theorem rL:aj ["text","rows","net"] ["text"] (ae fU):=by walk_at "SC"
noncomputable def me:Cfg:=mkc ["text","rows","net"] fU 20
noncomputable def eU:Ss:=(.cons (.ifS (.bop false (.cons (.not (.inst (.var 0) "str")) (.cons (.not (.tmp (.smx .endsw (.var 0) (.str "\n")))) .nil))) (.cons .bad .nil) .nil) (.cons (.set (.name 1) (.comp (.smx .split (.var 0) (.str " ")) (.name 0) (.seq (.smx .split (.sl (.var 0) .no (.yes (.neg (.int 1)))) (.str "\n"))) .nil ["line"] [])) (.cons (.ifS (.cmp .Lt (.blt .len (.cons (.var 1) .nil)) (.int 2)) (.cons .bad .nil) .nil) (.cons (.set (.name 2) (.tup (.cons (.call 17 (.cons (.ix (.var 1) (.int 0)) .nil)) (.cons (.call 18 (.cons (.ix (.var 1) (.int 1)) .nil)) (.cons (.call 19 (.cons (.sl (.var 1) (.yes (.int 2)) .no) .nil)) .nil))))) (.cons (.ifS (.not (.call 14 (.cons (.var 2) .nil))) (.cons .bad .nil) .nil) (.cons (.ret (.var 2)) .nil))))))
theorem t4:aB me  eU (ai fU)=true:=by decide +kernel
noncomputable abbrev gS:Stmt:=top 38
theorem u0:aj ["_law_script","_law_k"] ["_law_script","_law_k"] (ae gS):=by walk_at "SC"
noncomputable def oT:Cfg:=mkc ["_law_script","_law_k"] gS 21
noncomputable def fJ:Ss:=(.cons (.ret (.ite (.cmp .Lt (.var 1) (.blt .len (.cons (.var 0) .nil))) (.ix (.var 0) (.var 1)) (.int 0))) .nil)
theorem w4:aB oT  fJ (ai gS)=true:=by decide +kernel
noncomputable abbrev f9:Stmt:=top 39
theorem tH:aj ["_law_script","_law_k","_law_cell"] ["_law_script","_law_k"] (ae f9):=by walk_at "SC"
noncomputable def mf:Cfg:=mkc ["_law_script","_law_k","_law_cell"] f9 22
noncomputable def eZ:Ss:=(.cons (.set (.name 2) (.call 21 (.cons (.var 0) (.cons (.var 1) .nil)))) (.cons (.ret (.lst (.cons (.blt .max2 (.cons (.int 0) (.cons (.bin .Sub (.var 2) (.bin .Pow (.int 10) (.int 18))) .nil))) (.cons (.bin .Mod (.bin .Add (.bin .Mod (.var 2) (.int 2147483629)) (.bin .Mult (.int 48271) (.bin .Add (.var 1) (.int 1)))) (.int 2147483629)) .nil)))) .nil))
theorem uR:aB mf  eZ (ai f9)=true:=by decide +kernel
noncomputable abbrev eP:Stmt:=top 40
theorem qD:aj ["_law_pot_here","_law_many","_law_digit"] ["_law_pot_here","_law_many"] (ae eP):=by walk_at "SC"
noncomputable def ky:Cfg:=mkc ["_law_pot_here","_law_many","_law_digit"] eP 23
noncomputable def dN:Ss:=(.cons (.ifS (.cmp .Gt (.ix (.var 0) (.int 0)) (.int 0)) (.cons (.set (.tup (.cons (.sub (.var 0) (.int 0)) (.cons (.name 2) .nil))) (.blt .divmod (.cons (.ix (.var 0) (.int 0)) (.cons (.var 1) .nil)))) (.cons (.ret (.var 2)) .nil)) .nil) (.cons (.set (.sub (.var 0) (.int 1)) (.bin .Mod (.bin .Add (.bin .Mult (.ix (.var 0) (.int 1)) (.int 39373)) (.int 7919)) (.int 2147483629))) (.cons (.ret (.bin .Mod (.bin .FloorDiv (.bin .Mod (.bin .Mult (.ix (.var 0) (.int 1)) (.ix (.var 0) (.int 1))) (.int 2147483563)) (.int 11)) (.var 1))) .nil)))
theorem rE:aB ky  dN (ai eP)=true:=by decide +kernel
noncomputable abbrev dC:Stmt:=top 41
theorem nZ:aj ["_law_pot_here","_law_some"] ["_law_pot_here","_law_some"] (ae dC):=by walk_at "SC"
noncomputable def i4:Cfg:=mkc ["_law_pot_here","_law_some"] dC 24
noncomputable def dh:Ss:=(.cons (.ret (.ix (.var 1) (.call 23 (.cons (.var 0) (.cons (.blt .len (.cons (.var 1) .nil)) .nil))))) .nil)
theorem pR:aB i4  dh (ai dC)=true:=by decide +kernel
noncomputable abbrev eF:Stmt:=top 42
theorem qZ:aj ["_law_pot_here","_law_taken","_law_letters","_law_name_here"] ["_law_pot_here","_law_taken"] (ae eF):=by walk_at "SC"
noncomputable def kn:Cfg:=mkc ["_law_pot_here","_law_taken","_law_letters","_law_name_here"] eF 25
noncomputable def dO:Ss:=(.cons (.set (.name 2) (.str "abcdefghijklmnopqrstuvwxyz")) (.cons (.set (.name 3) (.tmp (.smx .join (.str "") (.comp (.call 24 (.cons (.var 1) (.cons (.var 2) .nil))) (.name 0) (.range1 (.bin .Add (.int 1) (.bin .Mult (.call 23 (.cons (.var 0) (.cons (.int 2) .nil))) (.call 23 (.cons (.var 0) (.cons (.int 8) .nil)))))) .nil ["_law_k"] [0,2])))) (.cons (.ifS (.cmp .Eq (.call 23 (.cons (.var 0) (.cons (.int 12) .nil))) (.int 11)) (.cons (.set (.name 3) (.call 24 (.cons (.var 0) (.cons (.lst (.cons (.str "tie") (.cons (.str "ride") (.cons (.str "waits") (.cons (.str "end") (.cons (.str "without") .nil)))))) .nil)))) .nil) .nil) (.cons (.ifS (.cmp .In (.var 3) (.var 1)) (.cons (.set (.name 3) (.tmp (.ix (.comp (.bin .Add (.sl (.var 2) .no (.yes (.int 7))) (.var 0)) (.name 0) (.chars (.var 2)) (.cons (.cmp .NotIn (.bin .Add (.sl (.var 2) .no (.yes (.int 7))) (.var 0)) (.var 1)) .nil) ["_law_letter"] [1,3]) (.int 0)))) .nil) .nil) (.cons (.expr (.met .append (.var 1) (.cons (.var 3) .nil))) (.cons (.ret (.var 3)) .nil))))))
theorem rT:aB kn  dO (ai eF)=true:=by decide +kernel
noncomputable abbrev fH:Stmt:=top 43
theorem sF:aj ["_law_n","_law_d","_law_one","_law_other"] ["_law_n","_law_d"] (ae fH):=by walk_at "SC"
noncomputable def mw:Cfg:=mkc ["_law_n","_law_d","_law_one","_law_other"] fH 26
noncomputable def fb:Ss:=(.cons (.par 2 3 (.var 0) (.var 1)) (.cons (.whileS (.cmp .Gt (.var 3) (.int 0)) (.cons (.par 2 3 (.var 3) (.bin .Mod (.var 2) (.var 3))) .nil)) (.cons (.ret (.tup (.cons (.bin .FloorDiv (.var 0) (.var 2)) (.cons (.bin .FloorDiv (.var 1) (.var 2)) .nil)))) .nil)))
theorem u_:aB mw  fb (ai fH)=true:=by decide +kernel
noncomputable abbrev dD:Stmt:=top 44
theorem nI:aj ["_law_one","_law_other"] ["_law_one","_law_other"] (ae dD):=by walk_at "SC"
noncomputable def jw:Cfg:=mkc ["_law_one","_law_other"] dD 27
noncomputable def df:Ss:=(.cons (.ret (.cmp .Lt (.bin .Mult (.ix (.var 0) (.int 0)) (.ix (.var 1) (.int 1))) (.bin .Mult (.ix (.var 1) (.int 0)) (.ix (.var 0) (.int 1))))) .nil)
theorem qG:aB jw  df (ai dD)=true:=by decide +kernel
noncomputable abbrev eM:Stmt:=top 45
theorem qx:aj ["_law_pot_here","_law_room","_law_den","_law_first","_law_final","_law_come","_law_comes"] ["_law_pot_here","_law_room"] (ae eM):=by walk_at "SC"
noncomputable def j':Cfg:=mkc ["_law_pot_here","_law_room","_law_den","_law_first","_law_final","_law_come","_law_comes"] eM 28
noncomputable def dM:Ss:=(.cons (.set (.name 2) (.bin .Add (.int 1) (.call 23 (.cons (.var 0) (.cons (.tmp (.ix (.lst (.cons (.int 6) (.cons (.bin .Pow (.int 10) (.int 11)) .nil))) (.blt .int1 (.cons (.cmp .Gt (.var 1) (.int 99)) .nil)))) .nil))))) (.cons (.set (.name 3) (.call 23 (.cons (.var 0) (.cons (.var 1) .nil)))) (.cons (.set (.name 4) (.bin .Add (.var 3) (.bin .Mult (.call 23 (.cons (.var 0) (.cons (.var 1) .nil))) (.blt .int1 (.cons (.cmp .Gt (.call 23 (.cons (.var 0) (.cons (.int 4) .nil))) (.int 0)) .nil))))) (.cons (.set (.name 5) (.bin .Add (.var 3) (.bin .Mult (.call 23 (.cons (.var 0) (.cons (.var 1) .nil))) (.blt .int1 (.cons (.cmp .Gt (.call 23 (.cons (.var 0) (.cons (.int 3) .nil))) (.int 0)) .nil))))) (.cons (.set (.name 6) (.bin .Add (.var 4) (.bin .Mult (.call 23 (.cons (.var 0) (.cons (.var 1) .nil))) (.blt .int1 (.cons (.cmp .Gt (.call 23 (.cons (.var 0) (.cons (.int 3) .nil))) (.int 0)) .nil))))) (.cons (.ifS (.cmp .Eq (.var 4) (.var 3)) (.cons (.set (.name 6) (.var 5)) .nil) .nil) (.cons (.ret (.tmp (.blt .tuple1 (.cons (.comp (.call 26 (.cons (.var 0) (.cons (.var 1) .nil))) (.name 0) (.seq (.tup (.cons (.var 3) (.cons (.var 4) (.cons (.var 5) (.cons (.var 6) .nil)))))) .nil ["_law_number"] [2]) .nil)))) .nil)))))))
theorem tV:aB j'  dM (ai eM)=true:=by decide +kernel
noncomputable abbrev dE:Stmt:=top 46
theorem nN:aj ["_law_pot_here","_law_den","_law_found","_law_end_here","_law_high","_law_k","_law_begin","_law_low_here","_law_ride_here"] ["_law_pot_here"] (ae dE):=by walk_at "SC"
noncomputable def ju:Cfg:=mkc ["_law_pot_here","_law_den","_law_found","_law_end_here","_law_high","_law_k","_law_begin","_law_low_here","_law_ride_here"] dE 29
noncomputable def c9:Ss:=(.cons (.set (.name 1) (.bin .Add (.int 1) (.call 23 (.cons (.var 0) (.cons (.int 6) .nil))))) (.cons (.set (.name 2) (.lst .nil)) (.cons (.set (.tup (.cons (.name 3) (.cons (.name 4) .nil))) (.tup (.cons (.int 0) (.cons (.int 0) .nil)))) (.cons (.forS (.name 5) (.range1 (.bin .Add (.int 1) (.call 23 (.cons (.var 0) (.cons (.int 3) .nil))))) (.cons (.set (.name 6) (.var 3)) (.cons (.set (.name 3) (.bin .Add (.bin .Add (.var 6) (.call 23 (.cons (.var 0) (.cons (.int 9) .nil)))) (.blt .int1 (.cons (.cmp .Gt (.var 5) (.int 0)) .nil)))) (.cons (.set (.name 7) (.bin .Add (.blt .max2 (.cons (.var 4) (.cons (.var 6) .nil))) (.bin .Mult (.call 23 (.cons (.var 0) (.cons (.int 4) .nil))) (.call 23 (.cons (.var 0) (.cons (.int 2) .nil)))))) (.cons (.set (.name 4) (.bin .Add (.blt .max2 (.cons (.var 7) (.cons (.var 3) .nil))) (.bin .Mult (.call 23 (.cons (.var 0) (.cons (.int 5) .nil))) (.blt .int1 (.cons (.cmp .Gt (.var 3) (.var 6)) .nil))))) (.cons (.set (.name 8) (.tmp (.blt .tuple1 (.cons (.comp (.call 26 (.cons (.var 0) (.cons (.var 1) .nil))) (.name 0) (.seq (.tup (.cons (.var 6) (.cons (.var 3) (.cons (.var 7) (.cons (.var 4) .nil)))))) .nil ["_law_number"] [1]) .nil)))) (.cons (.expr (.met .insert (.var 2) (.cons (.call 23 (.cons (.var 0) (.cons (.bin .Add (.blt .len (.cons (.var 2) .nil)) (.int 1)) .nil))) (.cons (.var 8) .nil)))) .nil))))))) (.cons (.ret (.bin .Add (.var 2) (.sl (.var 2) .no (.yes (.bin .FloorDiv (.call 23 (.cons (.var 0) (.cons (.int 4) .nil))) (.int 3)))))) .nil)))))
theorem rj:aB ju  c9 (ai dE)=true:=by decide +kernel
noncomputable abbrev dw:Stmt:=top 47
theorem nX:aj ["_law_pot_here","_law_room"] ["_law_pot_here","_law_room"] (ae dw):=by walk_at "SC"
noncomputable def jj:Cfg:=mkc ["_law_pot_here","_law_room"] dw 30
noncomputable def dj:Ss:=(.cons (.ifS (.cmp .Eq (.call 23 (.cons (.var 0) (.cons (.int 3) .nil))) (.int 0)) (.cons (.ret (.blt .tuple1 (.cons (.call 29 (.cons (.var 0) .nil)) .nil))) .nil) .nil) (.cons (.ret (.tmp (.blt .tuple1 (.cons (.comp (.call 28 (.cons (.var 1) (.cons (.var 2) .nil))) (.name 0) (.range1 (.call 23 (.cons (.var 0) (.cons (.int 4) .nil)))) .nil ["_law_k"] [0,1]) .nil)))) .nil))
theorem pL:aB jj  dj (ai dw)=true:=by decide +kernel
noncomputable abbrev fW:Stmt:=top 48
theorem tD:aj ["_law_pot_here","_law_ties","_law_end_here","_law_start","_law_goal","_law_rides_here","_law_ride_here"] ["_law_pot_here","_law_ties"] (ae fW):=by walk_at "SC"
noncomputable def l9:Cfg:=mkc ["_law_pot_here","_law_ties","_law_end_here","_law_start","_law_goal","_law_rides_here","_law_ride_here"] fW 31
noncomputable def e8:Ss:=(.cons (.set (.name 2) (.tup (.cons (.int 0) (.cons (.int 1) .nil)))) (.cons (.forK (.tup (.cons (.name 3) (.cons (.name 4) (.cons (.name 5) .nil)))) .values (.var 1) (.cons (.forS (.name 6) (.seq (.var 5)) (.cons (.ifS (.call 27 (.cons (.var 2) (.cons (.ix (.var 6) (.int 1)) .nil))) (.cons (.set (.name 2) (.ix (.var 6) (.int 1))) .nil) .nil) .nil)) .nil)) (.cons (.ifS (.cmp .Gt (.call 23 (.cons (.var 0) (.cons (.int 3) .nil))) (.int 0)) (.cons (.set (.name 2) (.tup (.cons (.bin .Add (.bin .Add (.bin .FloorDiv (.ix (.var 2) (.int 0)) (.ix (.var 2) (.int 1))) (.int 1)) (.call 23 (.cons (.var 0) (.cons (.int 5) .nil)))) (.cons (.int 1) .nil)))) .nil) .nil) (.cons (.ret (.var 2)) .nil))))
theorem uM:aB l9  e8 (ai fW)=true:=by decide +kernel
noncomputable abbrev fR:Stmt:=top 49
theorem rH:aj ["_law_pot_here","_law_taken","_law_named","_law_ties","_law_places","_law_room","_law_many","_law_great","_law_k","_law_a","_law_b","_law_rides_here","_law_waits"] ["_law_pot_here"] (ae fR):=by walk_at "SC"
noncomputable def l7:Cfg:=mkc ["_law_pot_here","_law_taken","_law_named","_law_ties","_law_places","_law_room","_law_many","_law_great","_law_k","_law_a","_law_b","_law_rides_here","_law_waits"] fR 32
noncomputable def eX:Ss:=(.cons (.set (.tup (.cons (.name 1) (.cons (.name 2) (.cons (.name 3) .nil)))) (.tup (.cons (.lst .nil) (.cons (.lst .nil) (.cons .dct0 .nil))))) (.cons (.set (.name 4) (.comp (.call 25 (.cons (.var 1) (.cons (.var 2) .nil))) (.name 0) (.range1 (.bin .Add (.int 2) (.call 23 (.cons (.var 0) (.cons (.int 3) .nil))))) .nil ["_law_k"] [0,1])) (.cons (.set (.name 5) (.call 24 (.cons (.var 0) (.cons (.lst (.cons (.int 12) (.cons (.int 40) (.cons (.bin .Mult (.int 2) (.bin .Pow (.int 10) (.int 11))) .nil)))) .nil)))) (.cons (.par 6 7 (.call 23 (.cons (.var 0) (.cons (.int 6) .nil))) (.cmp .Eq (.call 23 (.cons (.var 0) (.cons (.int 8) .nil))) (.int 7))) (.cons (.forS (.name 8) (.range1 (.ite (.var 7) (.int 10) (.var 6))) (.cons (.set (.name 9) (.call 23 (.cons (.var 0) (.cons (.blt .len (.cons (.var 4) .nil)) .nil)))) (.cons (.set (.name 10) (.bin .Mod (.bin .Add (.bin .Add (.var 9) (.int 1)) (.call 23 (.cons (.var 0) (.cons (.bin .Sub (.blt .len (.cons (.var 4) .nil)) (.int 1)) .nil)))) (.blt .len (.cons (.var 4) .nil)))) (.cons (.set (.name 11) (.ite (.var 7) (.tmp (.blt .tuple1 (.cons (.comp (.call 28 (.cons (.var 1) (.cons (.int 40) .nil))) (.name 0) (.range1 (.int 8)) .nil ["_law_j"] [0]) .nil))) (.call 30 (.cons (.var 0) (.cons (.var 5) .nil))))) (.cons (.set (.sub (.var 3) (.call 25 (.cons (.var 0) (.cons (.var 2) .nil)))) (.tup (.cons (.ix (.var 4) (.var 9)) (.cons (.ix (.var 4) (.var 10)) (.cons (.var 11) .nil))))) .nil))))) (.cons (.set (.name 12) (.blt .tuple1 (.cons (.blt .sortS (.cons (.comp (.var 0) (.name 0) (.seq (.var 4)) (.cons (.cmp .Eq (.call 23 (.cons (.var 1) (.cons (.int 2) .nil))) (.int 1)) .nil) ["_law_place"] [0]) .nil)) .nil))) (.cons (.ret (.tup (.cons (.call 31 (.cons (.var 0) (.cons (.var 3) .nil))) (.cons (.var 12) (.cons (.var 3) .nil))))) .nil)))))))
theorem vc:aB l7  eX (ai fR)=true:=by decide +kernel
noncomputable abbrev bo:Stmt:=top 50
theorem ig:aj ["_law_moment"] ["_law_moment"] (ae bo):=by walk_at "SC"
noncomputable def dY:Cfg:=mkc ["_law_moment"] bo 33
noncomputable def bu:Ss:=(.cons (.ifS (.cmp .Eq (.ix (.var 0) (.int 1)) (.int 1)) (.cons (.ret (.blt .str1 (.cons (.ix (.var 0) (.int 0)) .nil))) .nil) .nil) (.cons (.ret (.bin .Add (.bin .Add (.blt .str1 (.cons (.ix (.var 0) (.int 0)) .nil)) (.str "/")) (.blt .str1 (.cons (.ix (.var 0) (.int 1)) .nil)))) .nil))
theorem iR:aB dY  bu (ai bo)=true:=by decide +kernel
noncomputable abbrev eK:Stmt:=top 51
theorem qW:aj ["_law_net_here","_law_end_here","_law_waits","_law_ties","_law_lines","_law_name_here","_law_a","_law_b","_law_rides_here"] ["_law_net_here"] (ae eK):=by walk_at "SC"
noncomputable def kb:Cfg:=mkc ["_law_net_here","_law_end_here","_law_waits","_law_ties","_law_lines","_law_name_here","_law_a","_law_b","_law_rides_here"] eK 34
noncomputable def dQ:Ss:=(.cons (.set (.tup (.cons (.name 1) (.cons (.name 2) (.cons (.name 3) .nil)))) (.var 0)) (.cons (.set (.name 4) (.lst (.cons (.bin .Add (.str "end ") (.call 33 (.cons (.var 1) .nil))) (.cons (.smx .join (.str " ") (.bin .Add (.lst (.cons (.str "waits") .nil)) (.blt .list1 (.cons (.var 2) .nil)))) .nil)))) (.cons (.forS (.name 5) (.seq (.blt .sortD (.cons (.var 3) .nil))) (.cons (.set (.tup (.cons (.name 6) (.cons (.name 7) (.cons (.name 8) .nil)))) (.ix (.var 3) (.var 5))) (.cons (.expr (.met .append (.var 4) (.cons (.bin .Add (.bin .Add (.bin .Add (.bin .Add (.bin .Add (.str "tie ") (.var 5)) (.str " ")) (.var 6)) (.str " ")) (.var 7)) .nil))) (.cons (.set (.name 4) (.bin .Add (.var 4) (.comp (.bin .Add (.str "ride ") (.tmp (.smx .join (.str " ") (.comp (.call 33 (.cons (.var 0) .nil)) (.name 0) (.seq (.var 0)) .nil ["_law_one"] [])))) (.name 0) (.seq (.var 8)) .nil ["_law_ride_here"] []))) .nil)))) (.cons (.ret (.bin .Add (.smx .join (.str "\n") (.var 4)) (.str "\n"))) .nil))))
theorem tj:aB kb  dQ (ai eK)=true:=by decide +kernel
noncomputable abbrev cx:Stmt:=top 52
theorem kK:aj ["_law_told","_law_net_here"] ["_law_told","_law_net_here"] (ae cx):=by walk_at "SC"
noncomputable def gk:Cfg:=mkc ["_law_told","_law_net_here"] cx 35
noncomputable def cf:Ss:=(.cons (.ifS (.bop false (.cons (.not (.inst (.var 0) "tuple")) (.cons (.cmp .NotEq (.blt .len (.cons (.var 0) .nil)) (.int 3)) (.cons (.not (.inst (.ix (.var 0) (.int 2)) "dict")) .nil)))) (.cons (.ret (.bl false)) .nil) .nil) (.cons (.ret (.cmp .Eq (.tmp (.blt .repr2 (.cons (.lst (.cons (.ix (.var 0) (.int 0)) (.cons (.ix (.var 0) (.int 1)) (.cons (.un .sI (.ix (.var 0) (.int 2))) .nil)))) .nil))) (.tmp (.blt .repr2 (.cons (.lst (.cons (.ix (.var 1) (.int 0)) (.cons (.ix (.var 1) (.int 1)) (.cons (.un .sI (.ix (.var 1) (.int 2))) .nil)))) .nil))))) .nil))
theorem mU:aB gk  cf (ai cx)=true:=by decide +kernel
noncomputable abbrev dy:Stmt:=top 53
theorem nJ:aj ["_law_net_here","_law_before","_law_text_here","_law_told"] ["_law_net_here"] (ae dy):=by walk_at "SC"
noncomputable def jt:Cfg:=mkc ["_law_net_here","_law_before","_law_text_here","_law_told"] dy 36
noncomputable def de:Ss:=(.cons (.set (.name 1) (.blt .repr2 (.cons (.var 0) .nil))) (.cons (.set (.name 2) (.call 16 (.cons (.var 0) .nil))) (.cons (.ifS (.bop false (.cons (.cmp .NotEq (.var 2) (.call 34 (.cons (.var 0) .nil))) (.cons (.cmp .NotEq (.blt .repr2 (.cons (.var 0) .nil)) (.var 1)) .nil))) (.cons (.ret (.bl false)) .nil) .nil) (.cons (.set (.name 3) (.call 20 (.cons (.var 2) .nil))) (.cons (.ifS (.not (.call 35 (.cons (.var 3) (.cons (.var 0) .nil)))) (.cons (.ret (.bl false)) .nil) .nil) (.cons (.set (.sub (.ix (.var 3) (.int 2)) (.str "zz")) (.tup (.cons (.str "a") (.cons (.str "b") (.cons (.tup .nil) .nil))))) (.cons (.ret (.bop true (.cons (.call 35 (.cons (.call 20 (.cons (.var 2) .nil)) (.cons (.var 0) .nil))) (.cons (.cmp .Eq (.call 16 (.cons (.var 0) .nil)) (.var 2)) .nil)))) .nil)))))))
theorem qJ:aB jt  de (ai dy)=true:=by decide +kernel
noncomputable abbrev ka:Stmt:=top 54
theorem GS:aj ["_law_script","_law_elder","_law_k","_law_net_here"] ["_law_script"] (ae ka):=by walk_at "SC"
noncomputable def Eo:Cfg:=mkc ["_law_script","_law_elder","_law_k","_law_net_here"] ka 37
noncomputable def l8:Ss:=(.cons (.set (.name 1) .non) (.cons (.forS (.name 2) (.range1 (.blt .max2 (.cons (.int 1) (.cons (.blt .min2 (.cons (.blt .len (.cons (.var 0) .nil)) (.cons (.int 8) .nil))) .nil)))) (.cons (.set (.name 3) (.call 32 (.cons (.call 22 (.cons (.var 0) (.cons (.var 2) .nil))) .nil))) (.cons (.ifS (.not (.call 36 (.cons (.var 3) .nil))) (.cons (.ret (.bl false)) .nil) .nil) (.cons (.ifS (.bop true (.cons (.cmp .IsNot (.var 1) .non) (.cons (.not (.call 36 (.cons (.var 1) .nil))) .nil))) (.cons (.ret (.bl false)) .nil) .nil) (.cons (.set (.name 1) (.var 3)) .nil))))) (.cons (.ret (.bl true)) .nil)))
theorem IE:aB Eo  l8 (ai ka)=true:=by decide +kernel
local macro_rules | `(tactic| walk_at "WP")=>do
 let l<-(("o7 yO Bb zH yZ wd D0 EX EV Eh BC Ee Ew Bs yr AX wq vG EW DY zo Ei BF Ih wH D6 yX Bt AY A8 Ec Aa Fi Fj Ha Fh Fk Jx ES Fl y8 Ez DU DC D9 DQ Jd DK Ig Hj AD E4 BB E3 BE Eb wL zy zp Jj IP IG vZ AB wK Hq EA DO Iz DR E6 Fc yu EL yv EO Ji zU wI yP vP mF zW vI Ao wG yi EE yg r_ E9 dr mn mW vT tG Et DM E8 D3 Fd DS zS A1 zk Bv zC Fb HU Dz Ek EU yW Hi Jc D1 EY A5 BN Hw IF HY EB DL vD pk tN pe o8 oj oD vX wB vH vy rX sN s_ oq ow md o6 sG om oS oO oI DP EH Dv f' gE sA tK EN D4 E5 ET yE zZ zL Ej DG tF AF ym BG yt vN wt EM ED vQ vV rA Em HJ IL IR Iu Hh DT y9 t5 zN Ea Fg DD DN DE Ah HA frame Γ_0 Γ_1 Γ_2 Γ_3 Γ_4 Γ_5 Γ_6 Γ_7 Γ_8 Γ_9 JC IU Jq G' Ju Im IT Iw II IJ IH Ij HR JG Hx Ik HM JF Jg HQ HN Hf IW JI JJ Hm Jl Hu Nat.add_assoc cO i5 List.append_assoc List.length_append List.length_set List.map_cons List.map_nil List.length_cons List.length_nil List.replicate List.cons_append List.nil_append List.append_nil List.getElem?_cons_zero List.getElem?_cons_succ List.set_cons_zero List.set_cons_succ Option.some.injEq Cell.lst.injEq PV.int.injEq PV.bl.injEq PV.ref.injEq PV.str.injEq PV.tup.injEq PV.rdl.injEq List.cons.injEq and_true true_and exists_eq_left exists_eq_left' exists_eq_right exists_and_left exists_and_right exists_const Bool.not_true Bool.not_false Bool.not_not Bool.not_eq_true' decide_eq_true_eq decide_eq_false_iff_not false_and and_false false_or or_false if_true if_false Bool.false_eq_true reduceCtorEq reduceIte not_false_eq_true Nat.add_zero Nat.zero_add Nat.reduceAdd Nat.reduceSub Nat.reduceLeDiff Int.reduceToNat Int.reducePow Int.reduceLT Int.reduceLE Int.reduceNeg Int.reduceAdd Int.reduceSub Int.reduceMul An vF exists_eq exists_eq' exists_false ne_eq not_true_eq_false and_assoc Option.join_some Option.join_none decide_true decide_false zx Bd yo Au Ak Av AS Int.reduceEq Nat.reduceEqDiff Bool.not_eq_false Bool.not_eq_true Bool.and_true Bool.true_and Bool.and_false Bool.false_and Bool.or_false Bool.or_true".splitOn " ").toArray.mapM fun s=>`(Lean.Parser.Tactic.simpLemma|$(Lean.mkIdent s.toName):ident))
 `(tactic|simp only[↓Eu,↓E7,↓EZ,↓D7,$l,*])
noncomputable def nxE (P:Fr->AH->Prop):aX:={ nx:=P,rt:=fun _ _=>False }
theorem Gh:(nxE P).nx ρ st=P ρ st:=rfl
local macro_rules | `(tactic| walk_at "WPN")=>`(tactic| ((try walk_at "WP");repeat (simp only [Gh];try walk_at "WP")))
theorem aP {D:aX}(P:Fr->AH->Prop)(h1:wpS Γ s ρ st (nxE P))(h2:∀ρ' st',P ρ' st'->aw Γ ss ρ' st' D):aw Γ (.cons s ss) ρ st D:=by
 cases ss with
 | nil=>exact c5 (D:=nxE P) Γm s ⟨fun ρ st z=>h2 ρ st z,fun _ _ z=>False.elim z,fun _ _ z=>False.elim z,fun _ _ z=>False.elim z⟩ h1
 | cons s2 ss=>exact c5 (D:=nxE P) (D':=aft Γ (.cons s2 ss) D) Γm s ⟨fun ρ st z=>h2 ρ st z,fun _ _ z=>False.elim z,fun _ _ z=>False.elim z,fun _ _ z=>False.elim z⟩ h1
theorem gC {P:Prop}[Decidable P]{A B:Prop}(h1:P->A)(h2:¬P->B):(if P then A else B):=by split;exact h1 ‹_›;exact h2 ‹_›
theorem qq (hp:Sz 60 p)(hq:Sz 60 q):CMB (p.1:Int) (q.2:Int):=oG (by omega) (by have:=hp.a;omega)
theorem t9 {as st Q}(h:aZ as st Q):aw Γ eV (frame 2 as) st (ah st Q):=by obtain⟨p,q,rfl,hp,hq,k⟩:=h;unfold eV;walk_at "WP";refine⟨qq hp hq,qq hq hp,?_⟩;rw[<-NV,<-NV];simp only[Int.ofNat_lt];exact .inl k
theorem pQ {as st Q}(h:e_ as st Q):aw Γ df (frame 2 as) st (ah st Q):=by obtain⟨p,q,rfl,hp,hq,k⟩:=h;unfold df;walk_at "WP";refine⟨qq hp hq,qq hq hp,?_⟩;rw[<-NV,<-NV];simp only[Int.ofNat_lt];exact .inl k
theorem wR {as st Q}(h:eh as st Q):aw Γ fJ (frame 2 as) st (ah st Q):=by
 obtain⟨ns,m,rfl,hl,k⟩:=h;unfold fJ;walk_at "WP";rw[KH];by_cases hk:m<ns.length
 ·rw[KZ (by omega)];exact⟨_,AU hk,.inl (k _)⟩
 ·rw[KS (by omega)];exact .inl (k _)
theorem u5 {as st Q}(h:cY as st Q):aw Γ eZ (frame 3 as) st (ah st Q):=by obtain⟨ns,m,rfl,hl,hm,k⟩:=h;unfold eZ;walk_at "WP";refine⟨ns,m,rfl,hl,fun z=>?_⟩;walk_at "WP";refine⟨Hs,oG (by decide) (by decide),.inl (k _ _ ⟨?_,by omega,by omega⟩)⟩;split <;> omega
theorem sH {as st Q}(h:cy as st Q):aw Γ dN (frame 3 as) st (ah st Q):=by
 obtain⟨p,many,rfl,⟨q,r,hp,hq,hr0,hr1⟩,hm,hm2,k⟩:=h;have g0:Gr st p st:=.refl ⟨q,r,hp,hq,hr0,hr1⟩;unfold dN;walk_at "WP";refine⟨_,ag hp,_,f',?_⟩;walk_at "WP";by_cases hz:0<q
 ·rw[KZ hz];refine⟨_,ag hp,_,f',?_⟩;walk_at "WP";refine⟨lz hm hm2,_,hp,0,rfl,?_⟩;exact .inl (k _ _ (OP _ (by omega)) (N3 _ hm) (g0.set ⟨OM (by omega) (by omega),hr0,hr1⟩))
 ·rw[KS hz];refine⟨_,ag hp,_,gE,?_⟩;walk_at "WP";refine⟨D8 (by decide) (by decide),_,hp,1,rfl,?_⟩;have hs:∀z,(st.set p (pc q z))[p]?=some (pc q z):=fun z=>K1 (au hp);refine⟨_,ag (hs _),_,gE,_,ag (hs _),_,gE,?_⟩;walk_at "WP";refine⟨oG (by omega) (by omega),lz (by decide) (by decide),hm,?_⟩;exact .inl (k _ _ (OP _ (by omega)) (N3 _ hm) (g0.set ⟨hq,by omega,by omega⟩))
theorem aq {st:AH}{n:Nat}(h:st[n]?=some (.lst xs)):aQ st (.ref n)=some xs:=by simp[aQ,h]
theorem hJ {α:Type}{xs:List α}{i:Nat}{x:α}(h:xs[i]?=some x):atI xs (i:Int)=some x:=dt h
theorem pH {as st Q}(h:bQ as st Q):aw Γ dh (frame 2 as) st (ah st Q):=by
 obtain⟨p,v,n,f,rfl,hp,h0,h1,hs,k⟩:=h;unfold dh;walk_at "WP";rcases hs with⟨z,rfl,hz,hf⟩|⟨m,xs,rfl,hm,hx,hl,hf⟩
 ·refine⟨by omega,p,n,by rw[hz],hp,by omega,by omega,fun x s1 a1 b1 g1=>?_⟩;obtain⟨x,rfl⟩:∃j:Nat,x=j:=⟨x.toNat,by omega⟩;have hx:x<z.cps.toList.length:=by have:z.cps.toList.length=z.length:=MS;omega
  have e:=KU hx;refine⟨by omega,_,hJ e,?_⟩;rw[<-hf _ _ e];exact .inl (k _ _ (by omega) g1)
 ·refine⟨xs,ag hx,p,n,by rw[hl],hp,by omega,by omega,fun x s1 a1 b1 g1=>?_⟩;obtain⟨x,rfl⟩:∃j:Nat,x=j:=⟨x.toNat,by omega⟩;have e:=KU (show x<xs.length by omega);refine⟨xs,ag (g1.get hx hm),_,hJ e,?_⟩;rw[<-hf _ _ e];exact .inl (k _ _ (by omega) g1)
theorem uG {as st Q}(h:cZ as st Q):aw Γ fb (frame 4 as) st (ah st Q):=by
 obtain⟨n,d,rfl,h0,h1,k⟩:=h;unfold fb;walk_at "WP";refine mQ Γm (fun j ρ s=>s=st/\∃a:Nat,ρ=[some (.int n),some (.int d),some (.int a),some (.int j)]/\Nat.gcd a j=Nat.gcd n d) (n:=d) ⟨rfl,n,rfl,rfl⟩ ?_;rintro m ρ s ⟨rfl,a,rfl,hg⟩;walk_at "WP";by_cases hb:(0:Int)<m
 ·rw[KZ hb];exact⟨hb,a % m,OW _ (by omega),m,rfl,by simp,by rw[<-hg,NK a m,Nat.gcd_rec m a,NK]⟩
 ·rw[KS hb];have:m=0:=by omega
  subst this;rw[Nat.gcd_zero_right] at hg;subst hg;refine⟨v8 h0 h1,v8 h0 h1,?_⟩;rw[<-OD,<-OD];exact .inl k
theorem bz (b:Bool):b2z b=0\/b2z b=1:=by cases b <;> simp[b2z]
theorem p8 {x:Int}(h:0<=x):0<=x*b2z b/\x*b2z b<=x:=by rcases bz b with e|e <;> rw[e] <;> omega
theorem qk:CMB x (b2z b):=by rcases bz b with e|e <;> rw[e] <;> exact D8 (by decide) (by decide)
noncomputable def abc:List Nat:=[97,98,99,100,101,102,103,104,105,106,107,108,109,110,111,112,113,114,115,116,117,118,119,120,121,122]
theorem uF:("abcdefghijklmnopqrstuvwxyz":Str).cps.toList=abc:=by decide +kernel
theorem CB:("abcdefghijklmnopqrstuvwxyz":Str).length=26:=by decide +kernel
theorem vE {c:Nat}(h:c∈abc):97<=c/\c<=122:=by
 have:∀c∈abc,97<=c/\c<=122:=by decide
 exact this c h
theorem Nm.ok (h:Nm z):PyData.strOk z=true:=by show z.cps.all (·< 1114112)=true;rw[Array.all_eq_true_iff_forall_mem];intro c hc;have:=h.ltr c (M1.mpr hc);exact LH (by omega)
theorem Nm.app {z:Str}{c:Nat}(hz:∀c∈tl z,97<=c/\c<=122)(hl:z.length<=7)(hc:c∈abc):Nm (z++(⟨#[c]⟩:Str)):=by
 have e:tl (z++(⟨#[c]⟩:Str))=tl z++[c]:=aW _ _;refine⟨?_,?_,fun x hx=>?_⟩
 ·rw[av,show (z++(⟨#[c]⟩:Str)).cps.toList=tl z++[c] from e];simp
 ·rw[av,show (z++(⟨#[c]⟩:Str)).cps.toList=tl z++[c] from e,KN,<-av];simp only[List.length_singleton];omega
 ·rw[e,K7] at hx;rcases hx with hx|hx
  ·exact hz x hx
  ·rw[K9.mp hx];exact vE hc
theorem Nm.cut (h:Nm z):(∀c∈tl (il z none (some 7)),97<=c/\c<=122)/\(il z none (some 7)).length<=7:=by
 have li:(Builtin.Str.strSliceIndices none (some 7) 1 z.length).length<=7:=by unfold Builtin.Str.strSliceIndices sliceRange;simp;omega
 unfold il;split
 ·rename_i e;have e:=eq_of_beq e;exact⟨h.ltr,by omega⟩
 ·have l2:((Builtin.Str.strSliceIndices none (some 7) 1 z.length).filterMap (z.cps[·]?)).length<=7:=K_ (MQ _ _) li;refine⟨fun c hc=>?_,?_⟩
  ·have hc:c∈(List.toArray ((Builtin.Str.strSliceIndices none (some 7) 1 z.length).filterMap (z.cps[·]?))).toList:=hc;rw[List.toList_toArray] at hc;obtain⟨i,_,hi⟩:=NY.mp hc;exact h.ltr c (M1.mpr (Array.mem_of_getElem? hi))
  ·show (List.toArray _).size<=7;rw[K2];exact l2
theorem Bn:∀ {xs ys:List Str},xs.Nodup->(∀x∈xs,x∈ys)->xs.length<=ys.length
 | [],ys,_,_=>LU _
 | x::xs,ys,hn,h=>by rw[KQ] at hn;have hx:=h x KP;have:=Bn (xs:=xs) (ys:=ys.erase x) hn.2 fun y hy=>(List.mem_erase_of_ne (a:=y) (b:=x) (fun e=>hn.1 (by rw[<-e];exact hy))).mpr (h y (KL _ hy));rw[List.length_erase_of_mem hx] at this;have:0<ys.length:=List.length_pos_of_mem hx;simp only[List.length_cons];omega
noncomputable def iA (z:Str):List Str:=abc.map fun c=>z++(⟨#[c]⟩:Str)
theorem Bz:(iA z).Nodup:=by
 unfold iA;refine NJ.mpr ?_;have:abc.Nodup:=by decide
 refine List.Pairwise.imp (fun {a b} ne e=>ne ?_) this;have e2:(z.cps++#[a])=(z.cps++#[b]):=LG Str.cps e;have e3:=LG Array.toList e2;simpa using e3
theorem uL {names:List Str}(h:names.length<26):∃x r,(iA z).filter (fun x=>!(names.any fun j=>j == x))=x::r:=by
 cases q:(iA z).filter (fun x=>!(names.any fun j=>j == x)) with
 | cons x r=>exact⟨x,r,rfl⟩
 | nil =>
  have all:∀x∈iA z,x∈names:=fun x hx=>by have:=List.filter_eq_nil_iff.mp q x hx;simp only[Bool.not_eq_true,Bool.not_eq_false'] at this;obtain⟨j,hj,e⟩:=NP.mp this;rw[<-eq_of_beq e];exact hj
  have:=Bn Bz all;have:(iA z).length=26:=by simp[iA,abc]
  omega
theorem xI:ee ("abcdefghijklmnopqrstuvwxyz":Str)=abc.map fun c=>.str ⟨#[c]⟩:=by unfold ee;rw[uF]
noncomputable def gH (names:List Str)(xs:List Str):List Str:=xs.filter fun x=>!(names.any fun j=>j == x)
theorem xJ {names xs:List Str}{i:Nat}(h:xs[i]?=some x)(e:(names.any fun j=>j == x)=false):gH names (xs.take (i+1))=gH names (xs.take i)++[x]:=by unfold gH;rw[LS,h];simp only[Option.toList_some,List.filter_append];rw[List.filter_cons_of_pos (by rw[e];rfl),List.filter_nil]
theorem AG {names xs:List Str}{i:Nat}(h:xs[i]?=some x)(e:(names.any fun j=>j == x)=true):gH names (xs.take (i+1))=gH names (xs.take i):=by unfold gH;rw[LS,h];simp only[Option.toList_some,List.filter_append];rw[List.filter_cons_of_neg (by rw[e];decide),List.filter_nil,M9]
theorem Di {x:Str}{r:List Str}(h:gH names xs=x::r):x∈xs/\x ∉ names:=by
 have:x∈gH names xs:=by rw[h];exact KP
 obtain⟨h1,h2⟩:=OG.mp this;refine⟨h1,fun hx=>?_⟩;have e:(names.any fun j=>j == x)=true:=NP.mpr ⟨x,hx,beq_self_eq_true x⟩;rw[e] at h2;cases h2
theorem Fp {names:List Str}(h:¬(names.any fun j=>j == x)=true):x ∉ names:=fun hx=>h (NP.mpr ⟨x,hx,beq_self_eq_true x⟩)
theorem CV {S:List Str}(h:∀y∈S,y.length<=1)(l:S.length<=1000):JoinOk "" S=true:=by
 unfold JoinOk;have e0:S.length*1+S.length*(Str.ofString "").length<=16777216:=by
  have e:(Str.ofString "").length=0:=by decide +kernel
  rw[e];omega
 rw[PySem.StrLaws.joinFits h e0];rfl
theorem Fz:Aj st p (.str "abcdefghijklmnopqrstuvwxyz") 26 fun i=>.str ⟨#[abc.getD i 97]⟩:=.inl ⟨_,rfl,CB,fun i c e=>by rw[uF] at e;show PV.str ⟨#[abc.getD i 97]⟩=_;rw[L1,e];rfl⟩
theorem zK (i:Nat):abc.getD i 97∈abc:=by
 by_cases h:i<abc.length
 ·rw[L1,KU h];exact OC h
 ·rw[L1,LO (by omega)];decide
theorem cj (y:Str)(ps:List Str):Txt.join y ps=Str.join y ps:=PySem.StrLaws.glued_eq_join y ps
theorem A6:∀L:List (List Nat),jn [] L=L.flatten
 | []=>rfl
 | [x]=>by simp[jn]
 | x::y::r=>by rw[jn,A6 (y::r)];simp
theorem tP (S:List Str):tl (Txt.join "" S)=(S.map tl).flatten:=by rw[cj,ly];exact A6 _
theorem Nm.lets {S:List Str}(h:∀y∈S,∃c∈abc,y=⟨#[c]⟩)(l0:0<S.length)(l:S.length<=8):Nm (Txt.join "" S):=by
 have key:∀ {S:List Str},(∀y∈S,∃c∈abc,y=⟨#[c]⟩)->(S.map tl).flatten.length=S.length/\∀c∈(S.map tl).flatten,97<=c/\c<=122:=fun {S}=>by
  induction S with
  | nil=>exact fun _=>⟨rfl,fun c hc=>nomatch hc⟩
  | cons y S ih =>
   intro h;obtain⟨h1,h2⟩:=ih fun z hz=>h z (KL _ hz);obtain⟨c,hc,rfl⟩:=h y KP;rw[KG,List.flatten_cons];refine⟨by rw[KN,h1];show 1+S.length=S.length+1;omega,fun x hx=>?_⟩;rcases K7.mp hx with hx|hx
   ·rw[K9.mp (show x∈[c] from hx)];exact vE hc
   ·exact h2 x hx
 obtain⟨h1,h2⟩:=key h;rw[<-tP] at h1 h2;refine ⟨?_,?_,h2⟩ <;> rw [av,show (Txt.join "" S).cps.toList.length=S.length from h1] <;> omega
noncomputable def ixF (L:List PV)(i:Nat):PV:=L.getD i .non
theorem vz {st:AH}{p m:Nat}(ne:m≠p)(e:st[m]?=some (.lst L)):Aj st p (.ref m) L.length (ixF L):=.inr ⟨m,L,rfl,ne,e,rfl,fun i x e=>by unfold ixF;rw[L1,e];rfl⟩
theorem vq {L:List PV}{i:Nat}(h:i<L.length):ixF L i∈L:=by unfold ixF;rw[L1,KU h];exact OC h
theorem tX {as st Q}(h:cg as st Q):aw Γ dO (frame 4 as) st (ah st Q):=by
 obtain⟨p,t,names,rfl,hp,ht,hn,nl,hN,k⟩:=h;have pl:=hp.lt;unfold dO;refine aP (fun ρ s=>st=s/\ρ=[some (.ref p),some (.ref t),some (.str "abcdefghijklmnopqrstuvwxyz"),none]) (by walk_at "WPN") ?_;rintro _ _ ⟨rfl,rfl⟩;refine aP (fun ρ s=>Gr st p s/\∃z,Nm z/\ρ=[some (.ref p),some (.ref t),some (.str "abcdefghijklmnopqrstuvwxyz"),some (.str z)]) ?_ ?_
 ·walk_at "WPN";refine⟨p,2,rfl,hp,by decide,by decide,fun x s1 x0 x1 g1=>?_⟩;refine⟨p,8,rfl,g1.pot,by decide,by decide,fun y s2 y0 y1 g2=>?_⟩;have xy:0<=x*y/\x*y<=7:=by
   have:x=0\/x=1:=by omega
   rcases this with rfl|rfl <;> omega
  walk_at "WPN";obtain⟨N,hN⟩:∃N:Nat,1+x*y=N:=⟨(1+x*y).toNat,by omega⟩;rw[hN];have hj:(bb 0 (N:Int).toNat).length=N:=by simp[bb]
  refine⟨oG (by omega) (by omega),by omega,by omega,by omega,?_⟩;refine cM Γm (fun i acc s=>Gr st p s/\∃S:List Str,acc=sV S/\S.length=i/\∀y∈S,∃c∈abc,y=(⟨#[c]⟩:Str)) ⟨g1.trans g2,[],rfl,rfl,fun y hy=>(nomatch hy)⟩ ?_ ?_
  ·rintro i v acc s hi ⟨g,S,rfl,hl,hS⟩;refine⟨trivial,?_⟩;walk_at "WPN";refine⟨p,_,26,_,rfl,g.pot,by decide,by decide,Fz,fun i' s3 hi' g3=>⟨g.trans g3,S++[⟨#[abc.getD i' 97]⟩],by simp[sV],by simp[hl],fun y hy=>?_⟩⟩;rcases K7.mp hy with hy|hy
   ·exact hS y hy
   ·rw[K9] at hy;exact⟨_,zK i',hy⟩
  ·rintro acc s ⟨g,S,rfl,hl,hS⟩;refine⟨trivial,?_⟩;rw[hj] at hl;refine⟨S,aq get_last,CV (fun y hy=>by obtain⟨c,_,rfl⟩:=hS y hy;exact KF 1) (by omega),?_⟩;exact g.app.tmp (by rw[PV.bel]) fun s5 g5 _=>⟨g5,_,.lets hS (by omega) (by omega),rfl⟩
 rintro _ s ⟨g,z,hz,rfl⟩;refine aP (fun ρ s=>Gr st p s/\∃z,Nm z/\ρ=[some (.ref p),some (.ref t),some (.str "abcdefghijklmnopqrstuvwxyz"),some (.str z)]) ?_ ?_
 ·walk_at "WPN";refine⟨p,12,rfl,g.pot,by decide,by decide,fun x s1 x0 x1 g1=>?_⟩;walk_at "WPN";refine gC (fun c=>?_) fun c=>⟨g.trans g1,z,hz,rfl⟩;have G:=g.trans g1;refine⟨p,_,5,_,rfl,G.pot.app,by decide,by decide,vz G.ne get_last,fun i s2 hi g2=>?_⟩;have hm:=vq (L:=[PV.str "tie",.str "ride",.str "waits",.str "end",.str "without"]) hi;have nm:∃z,ixF [PV.str "tie",.str "ride",.str "waits",.str "end",.str "without"] i=.str z/\Nm z:=by simp only[List.mem_cons,List.not_mem_nil,or_false] at hm;rcases hm with e|e|e|e|e <;> exact⟨_,e,by decide +kernel,by decide +kernel,by decide +kernel⟩
  obtain⟨z',e,hz'⟩:=nm;exact⟨G.app.trans g2,z',hz',e⟩
 rintro _ s ⟨g,z,hz,rfl⟩;have hn1:=g.get hn ht;refine aP (fun ρ s=>Gr st p s/\∃z,Nm z/\z ∉ names/\ρ=[some (.ref p),some (.ref t),some (.str "abcdefghijklmnopqrstuvwxyz"),some (.str z)]) ?_ ?_
 ·walk_at "WPN";refine .inl ⟨names,hn1,gC (fun c=>?_) fun c=>⟨g,z,hz,Fp c,rfl⟩⟩;rw[xI];obtain⟨cz,cl⟩:=hz.cut;have zl:=hz.len;refine⟨by simp[abc],?_⟩;generalize hC:iA (il z none (some 7))=C;have cl26:C.length=26:=by rw[<-hC];simp[iA,abc]
  refine cM Γm (fun i acc s'=>s'=s/\acc=sV (gH names (C.take i))) ⟨rfl,by simp[gH]⟩ ?_ ?_
  ·rintro i x acc s' hi ⟨rfl,rfl⟩;rw[KM] at hi;obtain⟨c,hc,rfl⟩:=K4.mp hi;have hx:C[i]?=some (il z none (some 7)++(⟨#[c]⟩:Str)):=by rw[<-hC];unfold iA;rw[KM,hc];rfl
   have l1:(il z none (some 7)).length+(⟨#[c]⟩:Str).length<=100000:=by show _+1<=100000;omega
   refine⟨trivial,?_⟩;walk_at "WPN";refine⟨by omega,l1,.inl ⟨names,hn1,gC (fun c=>?_) fun c=>?_⟩⟩
   ·refine⟨by omega,l1,?_⟩;rw[xJ hx c];simp[sV]
   ·rw[AG hx (eq_true_of_ne_false c)]
  ·rintro acc s' ⟨rfl,rfl⟩;refine⟨trivial,?_⟩;have ea:(List.map (fun c=>PV.str ⟨#[c]⟩) abc).length=26:=by simp[abc]
   rw[ea,L4 (by omega)];obtain⟨x,r,hf⟩:=uL (z:=il z none (some 7)) (names:=names) (by omega);rw[hC] at hf;have hf:gH names C=x::r:=hf;rw[hf];obtain⟨xC,xn⟩:=Di hf;have hx:Nm x:=by rw[<-hC] at xC;obtain⟨c,hc,rfl⟩:=K0.mp xC;exact .app cz cl hc
   refine⟨_,ag get_last,.str x,by simp[atI,ixN],?_⟩;exact .app (by rw[PV.bel]) ⟨g,x,hx,xn,rfl⟩
 rintro _ s ⟨g,z,hz,zn,rfl⟩;have hn1:=g.get hn ht;walk_at "WP";refine⟨⟨_,aq hn1⟩,_,hn1,by simp;omega,.inl (k z _ hz zn ⟨by rw[M_];exact g.len,fun i h1 h2 h3=>by rw[K5 (Ne.symm h3)];exact g.old i h1 h2,?_⟩ ?_)⟩
 ·obtain⟨q,r,e,w⟩:=g.pot;exact⟨q,r,by rw[K5 ht];exact e,w⟩
 ·rw[K1 (au hn1)];simp[sV]
theorem qj {n d:Nat}(hd:0<d)(h1:n<10 ^ 12)(h2:d<10 ^ 12):Fq (dA n d):=⟨MJ (si n d) h1,MJ (z_ n d) h2,gp hd,sD hd⟩
theorem HW {d:Nat}(h:d<10 ^ 12):d<2 ^ 8000:=NH h IV
theorem mZ {a b den:Nat}(hd:0<den)(h:a<=b):¬dJ (dA b den) (dA a den):=fun z=>by have:=(GT hd hd).mp z;have:=MN den h;omega
theorem Dg {den:Nat}(hd:0<den)(h:dA a den=dA b den):a=b:=by have e1:=fL a den;have e2:=fL b den;rw[h] at e1;exact Nat.eq_of_mul_eq_mul_right (gp (n:=b) hd) (e1.symm.trans e2)
theorem He {den:Nat}{a b c d:Nat}(hd:0<den)(h:den<10 ^ 12)(ha:a<10 ^ 12)(hb:b<=4*10 ^ 11)(hc:c<10 ^ 12)(hdd:d<10 ^ 12)(ab:a<=b)(ac:a<=c)(bd:b<=d)(eq:a=b->c=d):ib ⟨dA a den,dA b den,dA c den,dA d den⟩ :=
 ⟨qj hd ha h,qj hd (by omega) h,qj hd hc h,qj hd hdd h,mZ hd ab,mZ hd ac,mZ hd bd,fun z=>by rw[eq (Dg hd z)],K_ (si _ _) hb⟩
theorem rG {as st Q}(h:ck as st Q):aw Γ dM (frame 7 as) st (ah st Q):=by
 obtain⟨p,room,rfl,hp,r0,r1,k⟩:=h;unfold dM;refine aP (fun ρ s=>Gr st p s/\∃den:Nat,0<den/\den<=10 ^ 11/\ρ=[some (.ref p),some (.int room),some (.int den),none,none,none,none]) ?_ ?_
 ·walk_at "WPN";refine⟨Ed,?_⟩;have g0:Gr st p (st++[Cell.lst [PV.int 6,PV.int 100000000000]]):=(Gr.refl hp).app;obtain⟨v,ev,m,rfl,m0,m1⟩:=I0 (L:=[PV.int 6,PV.int 100000000000]) (P:=fun v=>∃m:Int,v=.int m/\0<m/\m<=10 ^ 11) (fun v hv=>by
   simp only[List.mem_cons,List.not_mem_nil,or_false] at hv;rcases hv with rfl|rfl
   ·exact⟨6,rfl,by decide,by decide⟩
   ·exact⟨_,rfl,by decide,by decide⟩) (y:=b2z (decide (99<room))) (by unfold b2z;split <;> decide) (by unfold b2z;split <;> decide)
  refine⟨_,ag get_last,_,ev,g0.tmp (by rw[PV.bel]) fun s2 g2 _=>?_⟩;refine⟨p,m,rfl,g2.pot,m0,by omega,fun x s3 x0 x1 g3=>?_⟩;walk_at "WPN";exact⟨g2.trans g3,(1+x).toNat,by omega,by omega,by omega⟩
 rintro _ s ⟨g,den,d0,d1,rfl⟩;refine aP (fun ρ s=>Gr st p s/\∃a:Nat,a<2*10 ^ 11/\ρ=[some (.ref p),some (.int room),some (.int den),some (.int a),none,none,none]) ?_ ?_
 ·walk_at "WPN";refine⟨p,room,rfl,g.pot,r0,by omega,fun x s3 x0 x1 g3=>?_⟩;obtain⟨x,rfl⟩:∃m:Nat,x=m:=⟨x.toNat,by omega⟩;exact⟨g.trans g3,x,by omega,rfl⟩
 rintro _ s ⟨g,a,ha,rfl⟩;refine aP (fun ρ s=>Gr st p s/\∃b:Nat,a<=b/\b<4*10 ^ 11/\ρ=[some (.ref p),some (.int room),some (.int den),some (.int a),some (.int b),none,none]) ?_ ?_
 ·walk_at "WPN";refine⟨p,room,rfl,g.pot,r0,by omega,fun x s3 x0 x1 g3=>⟨p,4,rfl,g3.pot,by decide,by decide,fun y s4 y0 y1 g4=>?_⟩⟩;walk_at "WPN";have:=p8 (x:=x) (b:=decide (0<y)) x0;exact⟨qk,(g.trans g3).trans g4,(a+x*b2z (decide (0<y))).toNat,by omega,by omega,by omega⟩
 rintro _ s ⟨g,b,ab,hb,rfl⟩;refine aP (fun ρ s=>Gr st p s/\∃c:Nat,a<=c/\c<4*10 ^ 11/\ρ=[some (.ref p),some (.int room),some (.int den),some (.int a),some (.int b),some (.int c),none]) ?_ ?_
 ·walk_at "WPN";refine⟨p,room,rfl,g.pot,r0,by omega,fun x s3 x0 x1 g3=>⟨p,3,rfl,g3.pot,by decide,by decide,fun y s4 y0 y1 g4=>?_⟩⟩;walk_at "WPN";have:=p8 (x:=x) (b:=decide (0<y)) x0;exact⟨qk,(g.trans g3).trans g4,(a+x*b2z (decide (0<y))).toNat,by omega,by omega,by omega⟩
 rintro _ s ⟨g,c,ac,hc,rfl⟩;refine aP (fun ρ s=>Gr st p s/\∃d:Nat,b<=d/\d<6*10 ^ 11/\ρ=[some (.ref p),some (.int room),some (.int den),some (.int a),some (.int b),some (.int c),some (.int d)]) ?_ ?_
 ·walk_at "WPN";refine⟨p,room,rfl,g.pot,r0,by omega,fun x s3 x0 x1 g3=>⟨p,3,rfl,g3.pot,by decide,by decide,fun y s4 y0 y1 g4=>?_⟩⟩;walk_at "WPN";have:=p8 (x:=x) (b:=decide (0<y)) x0;exact⟨qk,(g.trans g3).trans g4,(b+x*b2z (decide (0<y))).toNat,by omega,by omega,by omega⟩
 rintro _ s ⟨g,d,bd,hd,rfl⟩;refine aP (fun ρ s=>Gr st p s/\∃d:Nat,b<=d/\d<6*10 ^ 11/\(a=b->c=d)/\ρ=[some (.ref p),some (.int room),some (.int den),some (.int a),some (.int b),some (.int c),some (.int d)]) ?_ ?_
 ·walk_at "WPN";exact gC (fun z=>⟨g,c,by omega,by omega,fun _=>rfl,rfl⟩) fun z=>⟨g,d,bd,hd,fun e=>absurd (by omega) z,rfl⟩
 rintro _ s ⟨g,d,bd,hd,eq,rfl⟩;walk_at "WP";refine⟨by decide,comp_map Γm (fun x=>match x with | .int z=>fr (dA z.toNat den)|v=>v) trivial (fun x hx=>?_) ?_⟩
 ·have be:=HW (show den<10 ^ 12 by omega);simp only[List.mem_cons,List.not_mem_nil,or_false] at hx;rcases hx with rfl|rfl|rfl|rfl
  ·walk_at "WP";exact⟨a,den,rfl,d0,be,rfl,rfl⟩
  ·walk_at "WP";exact⟨b,den,rfl,d0,be,rfl,rfl⟩
  ·walk_at "WP";exact⟨c,den,rfl,d0,be,rfl,rfl⟩
  ·walk_at "WP";exact⟨d,den,rfl,d0,be,rfl,rfl⟩
 ·refine⟨_,ag get_last,.app ?_ (.inl (k _ _ (He d0 (by omega) (by omega) (by omega) (by omega) (by omega) ab ac bd eq) g))⟩;simp[PV.bel,PV.bels,fr]
theorem C3 {i:Nat}(h:(bp .items (kd ps))[i]?=some x):∃p,ps[i]?=some p/\x=.tup [.str p.1,p.2]:=by
 unfold bp kd at h;rw[KM,KM] at h;cases q:ps[i]? with
 | none=>rw[q] at h;cases h
 | some p=>rw[q] at h;cases h;exact⟨p,rfl,rfl⟩
theorem zD {ps:List (Str × PV)}:(bp wk (kd ps)).length=ps.length:=by cases wk <;> simp[bp]
theorem wb:∀ {ps:List (Str × PV)}{p:Str × PV},(ps.map (·.1)).Nodup->p∈ps->ja (kd ps) (.inr p.1)=some p.2
 | [],p,_,h=>nomatch h
 | q::ps,p,hn,h=>by
  rw[KG,KQ] at hn;by_cases e:q.1=p.1
  ·rcases LC.mp h with z|z
   ·subst z;simp[ja,kd]
   ·exact absurd (e ▸ K0.mpr ⟨p,z,rfl⟩) hn.1
  ·rcases LC.mp h with z|z
   ·subst z;exact absurd rfl e
   ·have:=wb hn.2 z;unfold ja kd at this |-
    rw[KG,List.find?_cons];have ne:decide ((Sum.inr q.1:Key)=Sum.inr p.1)=false:=LJ fun z=>e (OY z);simp only[ne];exact this
theorem vU {ps:List (Str × PV)}{z:Str}(h:z ∉ ps.map (·.1)):kY (kd ps) (.inr z) v=kd (ps++[(z,v)]):=by
 unfold kY;have:((kd ps).any fun kv=>decide (kv.1=(.inr z:Key)))=false:=by rw[List.any_eq_false];intro x hx;obtain⟨p,hp,rfl⟩:=K0.mp hx;simp only[decide_eq_true_eq];exact fun e=>h (K0.mpr ⟨p,hp,OY e⟩)
 rw[this,KS KD];simp[kd]
theorem yC {ps:List (Str × PV)}{z:Str}(h:z∈ps.map (·.1)):kY (kd ps) (.inr z) v=kd (ps.map fun p=>if p.1=z then (p.1,v) else p):=by
 unfold kY;have:((kd ps).any fun kv=>decide (kv.1=(.inr z:Key)))=true:=by rw[NP];obtain⟨p,hp,rfl⟩:=K0.mp h;exact⟨_,K0.mpr ⟨p,hp,rfl⟩,by simp⟩
 rw[this,KZ rfl];unfold kd;rw[LF,LF];refine MU fun p _=>?_;simp only[Function.comp,Sum.inr.injEq];by_cases e:p.1=z
 ·rw[KZ e,KZ e]
 ·rw[KS e,KS e]
theorem rq {st:AH}{n:Nat}(h:st[n]?=some c):(st.set n d).set n c=st:=by rw[List.set_set];obtain⟨h1,h2⟩:=KR.mp h;rw[<-h2];exact List.set_getElem_self h1
theorem dI {st:AH}{a:Cell}:(st++[a,b])[st.length+1]?=some b:=by rw[cO (k:=1)];rfl
noncomputable abbrev gf:Ss:=(.cons (.set (.name 6) (.var 3)) (.cons (.set (.name 3) (.bin .Add (.bin .Add (.var 6) (.call 23 (.cons (.var 0) (.cons (.int 9) .nil)))) (.blt .int1 (.cons (.cmp .Gt (.var 5) (.int 0)) .nil)))) (.cons (.set (.name 7) (.bin .Add (.blt .max2 (.cons (.var 4) (.cons (.var 6) .nil))) (.bin .Mult (.call 23 (.cons (.var 0) (.cons (.int 4) .nil))) (.call 23 (.cons (.var 0) (.cons (.int 2) .nil)))))) (.cons (.set (.name 4) (.bin .Add (.blt .max2 (.cons (.var 7) (.cons (.var 3) .nil))) (.bin .Mult (.call 23 (.cons (.var 0) (.cons (.int 5) .nil))) (.blt .int1 (.cons (.cmp .Gt (.var 3) (.var 6)) .nil))))) (.cons (.set (.name 8) (.tmp (.blt .tuple1 (.cons (.comp (.call 26 (.cons (.var 0) (.cons (.var 1) .nil))) (.name 0) (.seq (.tup (.cons (.var 6) (.cons (.var 3) (.cons (.var 7) (.cons (.var 4) .nil)))))) .nil ["_law_number"] [1]) .nil)))) (.cons (.expr (.met .insert (.var 2) (.cons (.call 23 (.cons (.var 0) (.cons (.bin .Add (.blt .len (.cons (.var 2) .nil)) (.int 1)) .nil))) (.cons (.var 8) .nil)))) .nil))))))
noncomputable abbrev cF (p:Nat)(den:Nat)(F:Nat)(e h:Nat)(a b c d:Option PV):Fr:=[some (.ref p),some (.int den),some (.ref F),some (.int e),some (.int h),a,b,c,d]
theorem Cf {α:Type}{f:α->PV}{L:List α}:∃L':List α,iJ (L.map f) lo hi=L'.map f/\∀x∈L',x∈L:=by refine⟨(L.drop (HT.sIx L.length 0 lo)).take (HT.sIx L.length L.length hi-HT.sIx L.length 0 lo),?_,fun x hx=>List.mem_of_mem_drop (MB hx)⟩;unfold iJ;rw[KH,List.map_take,List.map_drop]
theorem qu {as st Q}(h:bP as st Q):aw Γ c9 (frame 9 as) st (ah st Q):=by
 obtain⟨p,rfl,hp,k⟩:=h;have pl:=hp.lt;unfold c9;refine aP (fun ρ s=>Gr st p s/\∃den:Nat,0<den/\den<=6/\ρ=[some (.ref p),some (.int den),none,none,none,none,none,none,none]) ?_ ?_
 ·walk_at "WPN";refine⟨p,6,rfl,hp,by decide,by decide,fun x s3 x0 x1 g3=>?_⟩;walk_at "WPN";exact⟨g3,(1+x).toNat,by omega,by omega,by omega⟩
 rintro _ s ⟨g,den,d0,d1,rfl⟩;have gl:=g.len;refine aP (fun ρ s'=>s'=s++[.lst []]/\ρ=[some (.ref p),some (.int den),some (.ref s.length),none,none,none,none,none,none]) (by walk_at "WPN") ?_;rintro _ _ ⟨rfl,rfl⟩;refine aP (fun ρ s'=>s'=s++[.lst []]/\ρ=cF p den s.length 0 0 none none none none) (by walk_at "WPN") ?_;rintro _ _ ⟨rfl,rfl⟩;refine aP (fun ρ s'=>∃(L:List Rd) (e h:Nat) (a b c d:Option PV),Gr st p s'/\s'[s.length]?=some (.lst (L.map rdV))/\L.length<=3/\(∀v∈L,ib v)/\ρ=cF p den s.length e h a b c d) ?_ ?_
 ·walk_at "WPN";refine⟨p,3,rfl,g.pot.app,by decide,by decide,fun x s1 x0 x1 g1=>?_⟩;walk_at "WPN";obtain⟨N,hN⟩:∃N:Nat,1+x=N:=⟨(1+x).toNat,by omega⟩;rw[hN];refine⟨by omega,by omega,?_⟩;refine fc Γm (fun i ρ s'=>∃(L:List Rd) (e h:Nat) (a b c d:Option PV),Gr st p s'/\s'[s.length]?=some (.lst (L.map rdV))/\L.length=i/\(∀v∈L,ib v)/\e<=i*10/\h<=i*30/\ρ=cF p den s.length e h a b c d)
   ⟨[],0,0,none,none,none,none,g.app.trans g1,g1.get get_last (by omega),rfl,fun v hv=>(nomatch hv),KF _,KF _,rfl⟩ ?_ ?_
  ·rintro i v ρ s' hi ⟨L,e,h,a,b,c,d,G,hL,ll,hR,he,hh,rfl⟩;obtain⟨rfl,hi⟩:=iH hi;refine⟨trivial,?_⟩;show bD Γ (.name 5) (.int i) (cF p den s.length e h a b c d) s' fun ρ2 st2=>aw Γ gf ρ2 st2 _;rw[dr];show aw Γ gf (cF p den s.length e h (some (.int i)) b c d) s' _;refine aP (fun ρ t=>t=s'/\ρ=cF p den s.length e h (some (.int i)) (some (.int e)) c d) (by walk_at "WPN") ?_;rintro _ _ ⟨rfl,rfl⟩;refine aP (fun ρ t=>Gr st p t/\t[s.length]?=some (.lst (L.map rdV))/\∃e':Nat,e<=e'/\e'<=(i+1)*10/\ρ=cF p den s.length e' h (some (.int i)) (some (.int e)) c d) ?_ ?_
   ·walk_at "WPN";refine⟨p,9,rfl,G.pot,by decide,by decide,fun y t y0 y1 k1=>?_⟩;walk_at "WPN";have:=bz (decide ((0:Int)<i));exact⟨G.trans k1,k1.get hL (by omega),(e+y+b2z (decide ((0:Int)<i))).toNat,by omega,by omega,by omega⟩
   rintro _ t ⟨G,hL,e',e0,e1,rfl⟩;refine aP (fun ρ t=>Gr st p t/\t[s.length]?=some (.lst (L.map rdV))/\∃lo:Nat,e<=lo/\lo<=i*30+13/\ρ=cF p den s.length e' h (some (.int i)) (some (.int e)) (some (.int lo)) d) ?_ ?_
   ·walk_at "WPN";refine⟨p,4,rfl,G.pot,by decide,by decide,fun y t y0 y1 k1=>⟨p,2,rfl,k1.pot,by decide,by decide,fun z t2 z0 z1 k2=>?_⟩⟩;walk_at "WPN";have yz:0<=y*z/\y*z<=3:=by
     have:z=0\/z=1:=by omega
     rcases this with rfl|rfl <;> omega
    exact⟨oG (by omega) (by omega),(G.trans k1).trans k2,(k1.trans k2).get hL (by omega),((if (h:Int)<e then (e:Int) else h)+y*z).toNat,by split <;> omega,by split <;> omega,by split <;> omega⟩
   rintro _ t ⟨G,hL,lo,lo0,lo1,rfl⟩;refine aP (fun ρ t=>Gr st p t/\t[s.length]?=some (.lst (L.map rdV))/\∃h':Nat,e'<=h'/\(e=e'->lo=h')/\h'<=(i+1)*30/\ρ=cF p den s.length e' h' (some (.int i)) (some (.int e)) (some (.int lo)) d) ?_ ?_
   ·walk_at "WPN";refine⟨p,5,rfl,G.pot,by decide,by decide,fun y t y0 y1 k1=>?_⟩;walk_at "WPN";have:=p8 (x:=y) (b:=decide ((e:Int)<e')) y0;exact⟨qk,G.trans k1,k1.get hL (by omega),((if (lo:Int)<e' then (e':Int) else lo)+y*b2z (decide ((e:Int)<e'))).toNat,by split <;> omega,fun z=>by rw[LJ (by omega)];simp only[b2z,Bool.false_eq_true,if_false];split <;> omega,by split <;> omega,by split <;> omega⟩
   rintro _ t ⟨G,hL,h',h0,heq,h1,rfl⟩;refine aP (fun ρ t=>Gr st p t/\t[s.length]?=some (.lst (L.map rdV))/\∃v,ib v/\ρ=cF p den s.length e' h' (some (.int i)) (some (.int e)) (some (.int lo)) (some (rdV v))) ?_ ?_
   ·walk_at "WPN";refine⟨by decide,comp_map Γm (fun x=>match x with | .int z=>fr (dA z.toNat den)|v=>v) trivial (fun x hx=>?_) ?_⟩
    ·have be:=HW (show den<10 ^ 12 by omega);simp only[List.mem_cons,List.not_mem_nil,or_false] at hx;rcases hx with rfl|rfl|rfl|rfl
     ·walk_at "WP";exact⟨e,den,rfl,d0,be,rfl,rfl⟩
     ·walk_at "WP";exact⟨e',den,rfl,d0,be,rfl,rfl⟩
     ·walk_at "WP";exact⟨lo,den,rfl,d0,be,rfl,rfl⟩
     ·walk_at "WP";exact⟨h',den,rfl,d0,be,rfl,rfl⟩
    ·refine⟨_,ag get_last,.app ?_ ⟨G,hL,_,He (a:=e) (b:=e') (c:=lo) (d:=h') d0 (by omega) (by omega) (by omega) (by omega) (by omega) e0 lo0 h0 heq,rfl⟩⟩;simp[PV.bel,PV.bels,fr]
   rintro _ t ⟨G,hL,v,hv,rfl⟩;have ll2:(L.map rdV).length=L.length:=KH ..;walk_at "WP";refine⟨⟨_,aq hL⟩,_,ag hL,p,_,rfl,G.pot,by omega,by omega,fun y t y0 y1 k1=>?_⟩;have hL2:=k1.get hL (by omega);refine⟨_,hL2,by omega,y0,by omega,(G.trans k1).setN (by omega),L.take y.toNat++v::L.drop y.toNat,?_,?_,fun w hw=>?_,e',by omega,h',by omega,rfl,rfl⟩
   ·rw[K1 (au hL2),LA,KG,List.map_take,List.map_drop]
   ·simp only[List.length_append,List.length_cons,List.length_take,List.length_drop];omega
   ·rcases K7.mp hw with hw|hw
    ·exact hR w (MB hw)
    ·rcases LC.mp hw with rfl|hw
     ·exact hv
     ·exact hR w (List.mem_of_mem_drop hw)
  ·rintro ρ s' ⟨L,e,h,a,b,c,d,G,hL,ll,hR,he,hh,rfl⟩;have hl:(bb 0 (N:Int).toNat).length=N:=by simp[bb]
   exact⟨trivial,G,L,hL,by omega,hR,e,h,a,b,c,d,rfl⟩
 rintro _ s' ⟨L,e,h,a,b,c,d,G,hL,ll,hR,rfl⟩;walk_at "WP";refine⟨p,4,rfl,G.pot,by decide,by decide,fun y t y0 y1 k1=>?_⟩;have hL2:=k1.get hL (by omega);have tl:=au hL2;walk_at "WP";refine⟨lz (by decide) (by decide),_,aq hL2,?_⟩;obtain⟨L',eL,hL'⟩:=Cf (f:=rdV) (L:=L) (lo:=none) (hi:=some (y/3));have cl:(iJ (L.map rdV) none (some (y/3))).length<=1:=by
  have:y/3=0\/y/3=1:=by omega
  unfold iJ;rw[MI];rcases this with e|e <;> rw[e]
  ·have:=HT.sIx_nat (L.map rdV).length (L.map rdV).length 0;rw[show ((0:Nat):Int)=(0:Int) from rfl] at this;rw[this];omega
  ·have:=HT.sIx_nat (L.map rdV).length (L.map rdV).length 1;rw[show ((1:Nat):Int)=(1:Int) from rfl] at this;rw[this];omega
 have ll2:(L.map rdV).length=L.length:=KH ..;refine⟨_,bj hL2,by omega,?_⟩;rw[eL] at cl |-
 rw[KH] at cl;refine .inl (k _ (L++L') _ (G.trans k1).app ?_ (by rw[LA];exact dI) (fun v hv=>?_) (by rw[KN];omega))
 ·have:=(G.trans k1).len;simp;omega
 ·rcases K7.mp hv with hv|hv
  ·exact hR v hv
  ·exact hR v (hL' v hv)
theorem qM:∀ {xs:List PV},(∀x∈xs,x.bel k=true)->PV.bels k xs=true
 | [],_=>by rw[PV.bels]
 | x::xs,h=>by rw[PV.bels,KW];exact⟨h x KP,qM fun y hy=>h y (KL _ hy)⟩
theorem GI:(fr p).bel k=true:=by simp[fr,PV.bel,PV.bels]
theorem zf:(rdV r).bel k=true:=by simp[rdV,PV.bel,PV.bels]
theorem wu {L:List Rd}:(PV.tup (L.map rdV)).bel k=true:=by rw[PV.bel];refine qM fun x hx=>?_;obtain⟨r,_,rfl⟩:=K0.mp hx;exact zf
theorem qe {as st Q}(h:bT as st Q):aw Γ dj (frame 2 as) st (ah st Q):=by
 obtain⟨p,room,rfl,hp,r0,r1,k⟩:=h;unfold dj;walk_at "WP";refine⟨p,3,rfl,hp,by decide,by decide,fun x s1 x0 x1 g1=>?_⟩;walk_at "WP";refine gC (fun z=>?_) fun z=>?_
 ·exact⟨p,rfl,g1.pot,fun n L s2 g2 nl hn hR ll=>⟨_,ag hn,.inl (k L _ (g1.trans g2) hR (by omega))⟩⟩
 ·refine⟨p,4,rfl,g1.pot,by decide,by decide,fun y s2 y0 y1 g2=>?_⟩;obtain⟨y,rfl⟩:∃m:Nat,y=m:=⟨y.toNat,by omega⟩;have hj:(bb 0 (y:Int).toNat).length=y:=by simp[bb]
  refine⟨_,rfl,by omega,by omega,by omega,?_⟩;refine cM Γm (fun i acc s=>∃L:List Rd,Gr s1 p s/\(∀v∈L,ib v)/\L.length=i/\acc=L.map rdV) ⟨[],g2,fun v hv=>(nomatch hv),rfl,rfl⟩ ?_ ?_
  ·rintro i v acc s hi ⟨L,g,hR,hl,rfl⟩;refine⟨trivial,?_⟩;walk_at "WP";refine⟨p,room,rfl,g.pot,r0,r1,fun v s3 hv g3=>⟨g.trans g3,L++[v],fun w hw=>?_,by simp[hl],by simp⟩⟩;rcases K7.mp hw with hw|hw
   ·exact hR w hw
   ·rw[K9] at hw;subst hw;exact hv
  ·rintro acc s ⟨L,g,hR,hl,rfl⟩;refine⟨trivial,_,ag get_last,?_⟩;rw[hj] at hl;refine g.app.tmp (wu) fun s5 g5 _=>.inl (k L s5 (g1.trans g5) hR (by omega))
theorem B4 {i:Nat}(h:(bp .values (kd ps))[i]?=some x):∃p,ps[i]?=some p/\x=p.2:=by
 unfold bp kd at h;rw[KM,KM] at h;cases q:ps[i]? with
 | none=>rw[q] at h;cases h
 | some p=>rw[q] at h;cases h;exact⟨p,rfl,rfl⟩
theorem Fq.sz (h:Fq p):Sz 60 p:=⟨by have:=h.a;omega,by have:=h.b;omega,h.po⟩
theorem vY {q r:Nat × Nat}(hq:0<q.2)(hr:0<r.2)(h:dJ p q)(n:¬dJ p r):¬dJ q r:=fun z=>n (w9 hq hr h z)
theorem EC {i:Nat}(h:(pv ps)[i]?=some t):∃q,ps[i]?=some q/\t=(q.1,teV q.2):=by rw[KM] at h;obtain⟨q,hq,rfl⟩:=K4.mp h;exact⟨q,hq,rfl⟩
theorem m_ {α:Type}{xs:List α}{i:Nat}{x y:α}(h:xs[i]?=some x)(hy:y∈xs.take (i+1)):y∈xs.take i\/y=x:=by
 rw[LS,h] at hy;rcases K7.mp hy with hy|hy
 ·exact .inl hy
 ·exact .inr (by simpa using hy)
structure En (q:Nat × Nat)(ts:List (Str × Te)):Prop where
 f:Fq q
 hi:q.1<=4*10 ^ 11
 n:∀t∈ts,∀r∈t.2.rs,¬dJ q r.b
theorem uI {as st Q}(h:c7 as st Q):aw Γ e8 (frame 7 as) st (ah st Q):=by
 obtain⟨p,d,ps,rfl,hp,hdp,hd,hT,k⟩:=h;have dl:=au hd;unfold e8;refine aP (fun ρ s=>st=s/\ρ=[some (.ref p),some (.ref d),some (fr (0,1)),none,none,none,none]) (by walk_at "WPN") ?_;rintro _ _ ⟨rfl,rfl⟩;refine aP (fun ρ s=>st=s/\∃(q:Nat × Nat) (a b c e:Option PV),En q ps/\ρ=[some (.ref p),some (.ref d),some (fr q),a,b,c,e]) ?_ ?_
 ·walk_at "WPN";refine⟨_,hd,?_⟩;refine fc Γm (fun i ρ s=>s=st.set d (.fz (kd (pv ps)))/\∃(q:Nat × Nat) (a b c e:Option PV),En q (ps.take i)/\ρ=[some (.ref p),some (.ref d),some (fr q),a,b,c,e]) ⟨rfl,(0,1),none,none,none,none,⟨⟨by decide,by decide,by decide,by decide⟩,by decide,fun t ht=>by rw[OU] at ht;cases ht⟩,rfl⟩ ?_ ?_
  ·rintro i v ρ s hi ⟨rfl,q,a,b,c,e,hq,rfl⟩;obtain⟨t0,ht0,rfl⟩:=B4 hi;obtain⟨t,ht,rfl⟩:=EC ht0;have tok:=hT t (KJ ht);refine⟨trivial,?_⟩;walk_at "WPN";refine fc Γm (fun j ρ s=>s=st.set d (.fz (kd (pv ps)))/\∃(q:Nat × Nat) (e:Option PV),En q (ps.take i)/\(∀r∈t.2.rs.take j,¬dJ q r.b)/\ρ=[some (.ref p),some (.ref d),some (fr q),some (.str t.2.a),some (.str t.2.b),some (.tup (t.2.rs.map rdV)),e]) ⟨rfl,q,e,hq,(fun r hr=>by rw[OU] at hr;cases hr),rfl⟩ ?_ ?_
   ·rintro j v ρ s hj ⟨rfl,q,e,hq,hr,rfl⟩;rw[KM] at hj;obtain⟨r,hj',rfl⟩:=K4.mp hj;replace hj:=hj';have rok:=tok.rs r (KJ hj);refine⟨trivial,?_⟩;walk_at "WPN";refine⟨q,r.b,rfl,hq.f.sz,rok.b.sz,?_⟩;walk_at "WPN";refine gC (fun z=>?_) fun z=>?_
    ·have up:∀ {x:Rd},ib x->¬dJ q x.b->¬dJ r.b x.b:=fun ox nx=>vY rok.b.po ox.b.po z nx;refine⟨r.b,⟨rok.b,rok.hi,fun t' ht' r' hr'=>up ((hT t' (MB ht')).rs r' hr') (hq.n t' ht' r' hr')⟩,fun r' hr'=>?_,rfl,rfl⟩;rcases m_ hj hr' with h|rfl
     ·exact up (tok.rs r' (MB h)) (hr r' h)
     ·exact MA _
    ·refine⟨q,hq,fun r' hr'=>?_,rfl,rfl⟩;rcases m_ hj hr' with h|rfl
     ·exact hr r' h
     ·exact z
   ·rintro ρ s ⟨rfl,q,e,hq,hr,rfl⟩;refine⟨trivial,?_⟩;walk_at "WPN";rw[KH,LR] at hr;refine⟨q,⟨hq.f,hq.hi,fun t' ht'=>?_⟩,rfl,rfl⟩;rcases m_ ht ht' with h|rfl
    ·exact hq.n t' h
    ·exact hr
  ·rintro ρ s ⟨rfl,q,a,b,c,e,hq,rfl⟩;refine⟨trivial,?_⟩;walk_at "WPN";rw[zD,KH,LR] at hq;refine⟨K1 dl,(rq hd).symm,q,hq,rfl,rfl⟩
 rintro _ _ ⟨rfl,q,a,b,c,e,hq,rfl⟩;refine aP (fun ρ s=>Gr st p s/\∃(q:Nat × Nat),Fq q/\(∀t∈ps,∀r∈t.2.rs,¬dJ q r.b)/\ρ=[some (.ref p),some (.ref d),some (fr q),a,b,c,e]) ?_ ?_
 ·walk_at "WPN";refine⟨p,3,rfl,hp,by decide,by decide,fun x s1 x0 x1 g1=>?_⟩;walk_at "WPN";refine gC (fun z=>?_) fun z=>⟨g1,q,hq.f,hq.n,rfl,rfl⟩;have qh:=hq.hi;have q0:=hq.f.po;have qb:=hq.f.b;refine⟨lz (by omega) (by omega),p,5,rfl,g1.pot,by decide,by decide,fun y s2 y0 y1 g2=>?_⟩;walk_at "WPN";have e1:(q.1:Int)/q.2=((q.1/q.2:Nat):Int):=(OD ..).symm;have e2:q.1/q.2<=q.1:=OO _ _;rw[e1];refine⟨g1.trans g2,(q.1/q.2+1+y.toNat,1),⟨by show _<_;omega,by show 1<10 ^ 12;decide,by show 0<1;decide,Nat.gcd_one_right _⟩,fun t ht r hr=>vY (q:=(q.1/q.2+1+y.toNat,1)) (by show 0<1;decide) ((hT t ht).rs r hr).b.po ?_ (hq.n t ht r hr),by show _=((q.1/q.2+1+y.toNat:Nat):Int);omega,rfl⟩;show q.1*1<(q.1/q.2+1+y.toNat)*q.2;have d1:=Nat.div_add_mod q.1 q.2;have d2:=OW q.1 q0;have h4:(q.1/q.2+1)*q.2=q.2*(q.1/q.2)+q.2:=by rw[O0,Nat.one_mul,OF]
  have h3:(q.1/q.2+1)*q.2<=(q.1/q.2+1+y.toNat)*q.2:=MN _ (by omega);omega
 rintro _ s ⟨g,q,fq,hn,rfl⟩;walk_at "WP";exact .inl (k q _ fq hn g)
theorem o9:∀ {l:List Str}{x:Str},PyProof.Rows.risingS x l=true->(x::l).Pairwise fun a b:Str=>a.cps.toList<=b.cps.toList
 | [],x,_=>List.pairwise_singleton _ _
 | y::l,x,h=>by
  rw[PyProof.Rows.risingS,KW,PyProof.Rows.ltCps_eq] at h;have le:x.cps.toList<=y.cps.toList:=List.not_lt.mp (by simpa using h.1);have pw:=o9 h.2;refine NA.mpr ⟨fun z hz=>?_,pw⟩;rcases LC.mp hz with rfl|hz
  ·exact le
  ·exact List.le_trans le ((NA.mp pw).1 z hz)
theorem FC (h:PyProof.Rows.sortedS l=true):l.Pairwise fun a b:Str=>a.cps.toList<=b.cps.toList:=by
 cases l with
 | nil=>exact .nil
 | cons x l=>exact o9 h
theorem iN {l:List Str}{z:Str}(h:l.Nodup)(n:z ∉ l):(l++[z]).Nodup:=by rw[L8];exact⟨h,by simp,fun a ha b hb e=>n (by rw[<-K9.mp hb,<-e];exact ha)⟩
theorem va (h:PyProof.Rows.sortedS l=true)(n:l.Nodup):l.Pairwise Lt :=
 (List.Pairwise.and (FC h) n).imp fun {a b} z=>(List.le_iff_lt_or_eq.mp z.1).resolve_right fun e=>z.2 (eC e)
structure NS (st:AH)(p:Nat)(s:AH)(pl nm d:Nat)(names nms:List Str)(ps:List (Str × Te)):Prop where
 g:Gr st p s
 l1:st.length<=pl
 l2:pl≠nm
 l3:pl≠d
 l4:nm≠d
 l5:st.length<=nm
 l6:st.length<=d
 hp:s[pl]?=some (.lst (sV names))
 hn:s[nm]?=some (.lst (sV nms))
 hd:s[d]?=some (.dk (kd (pv ps)))
 P:∀q∈ps,kJ q.2
 N:∀z∈names,Nm z
 Nd:names.Nodup
 N2:2<=names.length
 N4:names.length<=4
 M:∀z∈nms,Nm z
 Md:nms.Nodup
theorem NS.mono (h:NS st p s pl nm d names nms ps)(g:Gr s p s'):NS st p s' pl nm d names nms ps:=by have:=h.g.was;have:=h.l1;have:=h.l5;have:=h.l6;exact⟨h.g.trans g,h.l1,h.l2,h.l3,h.l4,h.l5,h.l6,g.get h.hp (by omega),g.get h.hn (by omega),g.get h.hd (by omega),h.P,h.N,h.Nd,h.N2,h.N4,h.M,h.Md⟩
theorem NS.named (h:NS st p s pl nm d names nms ps)(g:Gn s p nm s')(hz:Nm z)(zn:z ∉ nms)(e:s'[nm]?=some (.lst (sV (nms++[z])))):NS st p s' pl nm d names (nms++[z]) ps:=by
 have:=h.g.was;have:=h.l1;have:=h.l5;have:=h.l6;refine⟨Gn.gr h.g (by omega) g,h.l1,h.l2,h.l3,h.l4,h.l5,h.l6,g.get h.hp (by omega) h.l2,e,g.get h.hd (by omega) (Ne.symm h.l4),h.P,h.N,h.Nd,h.N2,h.N4,fun y hy=>?_,?_⟩
 ·rcases K7.mp hy with hy|hy
  ·exact h.M y hy
  ·rw[K9] at hy;subst hy;exact hz
 ·exact iN h.Md zn
theorem NS.put {qs:List (Str × Te)}(h:NS st p s pl nm d names nms ps)(hq:∀q∈qs,kJ q.2):NS st p (s.set d (.dk (kd (pv qs)))) pl nm d names nms qs :=
 ⟨h.g.setN h.l6,h.l1,h.l2,h.l3,h.l4,h.l5,h.l6,by rw[K5 (Ne.symm h.l3)];exact h.hp,by rw[K5 (Ne.symm h.l4)];exact h.hn,K1 (au h.hd),hq,h.N,h.Nd,h.N2,h.N4,h.M,h.Md⟩
theorem iZ {ps:List (Str × Te)}:(pv ps).map (·.1)=ps.map (·.1):=by rw[LF];rfl
theorem vA {z:Str}:pv ps++[(z,teV t)]=pv (ps++[(z,t)]):=by rw[pv,pv,LA];rfl
theorem DH {names:List Str}{x:Int}(x0:0<=x)(x1:x<names.length):∃z,atI (sV names) x=some (.str z)/\names[x.toNat]?=some z:=by
 obtain⟨m,rfl⟩:∃m:Nat,x=m:=⟨x.toNat,by omega⟩;have hm:m<names.length:=by omega
 refine⟨names[m],dt (by rw[KM,KU hm];rfl),?_⟩;rw[M0,KU hm]
theorem GA {x y n:Int}(x0:0<=x)(x1:x<n)(y0:0<=y)(y1:y<n-1):(x+1+y) % n≠x:=by
 intro e;by_cases h:x+1+y<n
 ·rw[Int.emod_eq_of_lt (by omega) h] at e;omega
 ·have:(x+1+y) % n=x+1+y-n:=by rw[<-Int.sub_emod_right,Int.emod_eq_of_lt (by omega) (by omega)]
  omega
noncomputable abbrev nF (p t nm d pl:Nat)(room:Int)(many:Option PV)(gt:Bool)(k a b r w:Option PV):Fr:=[some (.ref p),some (.ref t),some (.ref nm),some (.ref d),some (.ref pl),some (.int room),many,some (.bl gt),k,a,b,r,w]
noncomputable abbrev fj:Ss:=(.cons (.set (.name 9) (.call 23 (.cons (.var 0) (.cons (.blt .len (.cons (.var 4) .nil)) .nil)))) (.cons (.set (.name 10) (.bin .Mod (.bin .Add (.bin .Add (.var 9) (.int 1)) (.call 23 (.cons (.var 0) (.cons (.bin .Sub (.blt .len (.cons (.var 4) .nil)) (.int 1)) .nil)))) (.blt .len (.cons (.var 4) .nil)))) (.cons (.set (.name 11) (.ite (.var 7) (.tmp (.blt .tuple1 (.cons (.comp (.call 28 (.cons (.var 1) (.cons (.int 40) .nil))) (.name 0) (.range1 (.int 8)) .nil ["_law_j"] [0]) .nil))) (.call 30 (.cons (.var 0) (.cons (.var 5) .nil))))) (.cons (.set (.sub (.var 3) (.call 25 (.cons (.var 0) (.cons (.var 2) .nil)))) (.tup (.cons (.ix (.var 4) (.var 9)) (.cons (.ix (.var 4) (.var 10)) (.cons (.var 11) .nil))))) .nil))))
def NI (st:AH)(p t nm d pl:Nat)(room:Int)(many:Option PV)(gt:Bool)(names:List Str)(i:Nat)(ρ:Fr)(s:AH):Prop:=∃(ps:List (Str × Te)) (k a b r:Option PV),NS st p s pl nm d names (ps.map (·.1)) ps/\ps.length<=i/\ρ=nF p t nm d pl room many gt k a b r none
theorem BO {room:Int}{i:Nat}{D:aX}{ps:List (Str × Te)}(r0:0<room)(r1:room<=2*10 ^ 11)(hi:i<10)(n:NS st p s pl nm d names (ps.map (·.1)) ps)(pl':ps.length<=i) :
  aw Γ fj (nF p t nm d pl room many gt (some (.int i)) a b r none) s (LD (NI st p t nm d pl room many gt names (i+1)) D):=by
 unfold fj;have N2:=n.N2;have N4:=n.N4;have e:(sV names).length=names.length:=by simp[sV]
 have kl:(ps.map (·.1)).length=ps.length:=KH ..;refine aP (fun ρ s=>NS st p s pl nm d names (ps.map (·.1)) ps/\∃x:Int,0<=x/\x<names.length/\ρ=nF p t nm d pl room many gt (some (.int i)) (some (.int x)) b r none) ?_ ?_
 ·walk_at "WPN";exact⟨_,ag n.hp,p,names.length,by simp[sV],n.g.pot,by omega,by omega,fun y s1 y0 y1 g1=>⟨n.mono g1,y,y0,y1,rfl⟩⟩
 rintro _ s1 ⟨n,x,x0,x1,rfl⟩;refine aP (fun ρ s=>NS st p s pl nm d names (ps.map (·.1)) ps/\∃y:Int,0<=y/\y<names.length/\y≠x/\ρ=nF p t nm d pl room many gt (some (.int i)) (some (.int x)) (some (.int y)) r none) ?_ ?_
 ·walk_at "WPN";refine⟨_,ag n.hp,p,(names.length:Int)-1,by simp[sV],n.g.pot,by omega,by omega,fun y s2 y0 y1 g1=>?_⟩;walk_at "WPN";have n2:=n.mono g1;exact⟨_,ag n2.hp,by rw[e];omega,n2,_,OP _ (by omega),by rw[e];exact N3 _ (by omega),by rw[e];exact GA x0 x1 y0 y1,rfl⟩
 rintro _ s2 ⟨n,y,y0,y1,yx,rfl⟩;obtain⟨za,ea,na⟩:=DH x0 x1;obtain⟨zb,eb,nb⟩:=DH y0 y1;have ab:za≠zb:=fun z=>by subst z;have:=(List.getElem?_inj (by omega) n.Nd).mp (na.trans nb.symm);omega
 refine aP (fun ρ s=>NS st p s pl nm d names (ps.map (·.1)) ps/\∃L:List Rd,(∀r∈L,ib r)/\L.length<=8/\ρ=nF p t nm d pl room many gt (some (.int i)) (some (.int x)) (some (.int y)) (some (.tup (L.map rdV))) none) ?_ ?_
 ·walk_at "WPN";cases gt with
  | false =>walk_at "WPN";exact⟨p,room,rfl,n.g.pot,r0,r1,fun L s3 g3 hR ll=>⟨n.mono g3,L,hR,ll,rfl⟩⟩
  | true =>
   walk_at "WPN";have hj:(bb 0 8).length=8:=by simp[bb]
   refine⟨by decide,?_⟩;refine cM Γm (fun i acc s=>∃L:List Rd,Gr s2 p s/\(∀v∈L,ib v)/\L.length=i/\acc=L.map rdV) ⟨[],.refl n.g.pot,fun v hv=>(nomatch hv),rfl,rfl⟩ ?_ ?_
   ·rintro i v acc s hi ⟨L,g,hR,hl,rfl⟩;refine⟨trivial,?_⟩;walk_at "WPN";refine⟨p,40,rfl,g.pot,by decide,by decide,fun v s3 hv g3=>⟨g.trans g3,L++[v],fun w hw=>?_,by simp[hl],by simp⟩⟩;rcases K7.mp hw with hw|hw
    ·exact hR w hw
    ·rw[K9] at hw;subst hw;exact hv
   ·rintro acc s ⟨L,g,hR,hl,rfl⟩;rw[hj] at hl;refine⟨trivial,_,ag get_last,?_⟩;exact g.app.tmp wu fun s5 g5 _=>⟨n.mono g5,L,hR,by omega,rfl⟩
 rintro _ s3 ⟨n3,L,hR,ll,rfl⟩;have:=n3.g.was;have:=n3.l5;walk_at "WP";refine⟨_,ag n3.hp,_,ea,_,ag n3.hp,_,eb,p,nm,_,rfl,n3.g.pot,by omega,n3.hn,by omega,n3.M,fun z s4 hz zn g4 e4=>?_⟩;have n4:=n3.named g4 hz zn e4;walk_at "WP";refine⟨_,n4.hd,by simp;omega,ps++[(z,⟨za,zb,L⟩)],some (.int i),some (.int x),some (.int y),some (.tup (L.map rdV)),?_,by simp;omega,rfl⟩;have dk:=vU (ps:=pv ps) (z:=z) (v:=teV ⟨za,zb,L⟩) (by rw[iZ];exact zn);rw[vA] at dk;show NS st p (s4.set d (.dk (kY (kd (pv ps)) (.inr z) (teV ⟨za,zb,L⟩)))) _ _ _ _ _ _;rw[dk,LA];refine n4.put fun q hq=>?_;rcases K7.mp hq with hq|hq
 ·exact n4.P q hq
 ·rw[K9.mp hq];exact⟨n.N za (KJ na),n.N zb (KJ nb),ab,hR,ll⟩
theorem t_ {as st Q}(h:cW as st Q):aw Γ eX (frame 13 as) st (ah st Q):=by
 obtain⟨p,rfl,hp,k⟩:=h;have pl:=hp.lt;unfold eX;refine aP (fun ρ s=>s=st++[.lst [],.lst [],.dk []]/\ρ=[some (.ref p),some (.ref st.length),some (.ref (st.length+1)),some (.ref (st.length+2)),none,none,none,none,none,none,none,none,none]) ?_ ?_
 ·walk_at "WPN"
 rintro _ _ ⟨rfl,rfl⟩;have g0:Gr st p (st++[.lst [],.lst [],.dk []]):=(Gr.refl hp).app;have e1:(st++[Cell.lst [],.lst [],.dk []])[st.length+1]?=some (.lst []):=by rw[cO (k:=1)];rfl
 have e2:(st++[Cell.lst [],.lst [],.dk []])[st.length+2]?=some (.dk []):=by rw[cO (k:=2)];rfl
 have e0:(st++[Cell.lst [],.lst [],.dk []])[st.length]?=some (.lst []):=by rw[i5];rfl
 generalize st++[Cell.lst [],.lst [],.dk []]=s0 at g0 e0 e1 e2;refine aP (fun ρ s=>∃(pl:Nat) (names:List Str),NS st p s pl (st.length+1) (st.length+2) names [] []/\ρ=[some (.ref p),some (.ref st.length),some (.ref (st.length+1)),some (.ref (st.length+2)),some (.ref pl),none,none,none,none,none,none,none,none]) ?_ ?_
 ·obtain⟨P,hP⟩:∃P:Fr->AH->Prop,P=fun ρ s=>∃(pl:Nat) (names:List Str),NS st p s pl (st.length+1) (st.length+2) names [] []/\ρ=[some (.ref p),some (.ref st.length),some (.ref (st.length+1)),some (.ref (st.length+2)),some (.ref pl),none,none,none,none,none,none,none,none]:=⟨_,rfl⟩;rw[<-hP];walk_at "WPN";refine⟨p,3,rfl,g0.pot,by decide,by decide,fun x s1 x0 x1 g1=>?_⟩;walk_at "WPN";obtain⟨N,hN⟩:∃N:Nat,2+x=N:=⟨(2+x).toNat,by omega⟩;rw[hN];have hj:(bb 0 (N:Int).toNat).length=N:=by simp[bb]
  refine⟨by omega,by omega,by omega,?_⟩;refine cM Γm (fun i acc s=>∃names:List Str,acc=sV names/\names.length=i/\(∀z∈names,Nm z)/\names.Nodup/\Gr st p s/\s[st.length]?=some (.lst (sV names))/\s[st.length+1]?=some (.lst [])/\s[st.length+2]?=some (.dk [])) ⟨[],rfl,rfl,fun z hz=>(nomatch hz),.nil,g0.trans g1,g1.get e0 (by omega),g1.get e1 (by omega),g1.get e2 (by omega)⟩ ?_ ?_
  ·rintro i v acc s hi ⟨names,rfl,hl,hN,nd,g,f0,f1,f2⟩;have:=(KR.mp hi).1;refine⟨trivial,?_⟩;walk_at "WPN";refine⟨p,st.length,names,rfl,g.pot,by omega,f0,by omega,hN,fun z s2 hz zn g2 e3=>⟨names++[z],by simp[sV],by simp[hl],fun y hy=>?_,iN nd zn,Gn.gr g (KF _) g2,e3,g2.get f1 (by omega) (by omega),g2.get f2 (by omega) (by omega)⟩⟩;rcases K7.mp hy with hy|hy
   ·exact hN y hy
   ·rw[K9] at hy;subst hy;exact hz
  ·rintro acc s ⟨names,rfl,hl,hN,nd,g,f0,f1,f2⟩;refine⟨trivial,?_⟩;rw[hj] at hl;rw[hP];have l0:=au f2;exact⟨_,names,⟨g.app,g.len,by omega,by omega,by omega,by omega,by omega,get_last,bj f1,bj f2,fun q hq=>(nomatch hq),hN,nd,by omega,by omega,fun z hz=>(nomatch hz),.nil⟩,rfl⟩
 rintro _ s ⟨plc,names,n,rfl⟩;refine aP (fun ρ s=>NS st p s plc (st.length+1) (st.length+2) names [] []/\∃room:Int,0<room/\room<=2*10 ^ 11/\ρ=[some (.ref p),some (.ref st.length),some (.ref (st.length+1)),some (.ref (st.length+2)),some (.ref plc),some (.int room),none,none,none,none,none,none,none]) ?_ ?_
 ·walk_at "WPN";have ne:s.length≠p:=n.g.ne;refine⟨Ed,oG (by decide) (by decide),?_⟩;refine⟨p,_,3,_,rfl,n.g.pot.app,by decide,by decide,vz ne get_last,fun i s2 hi g2=>?_⟩;have hm:=vq (L:=[PV.int 12,.int 40,.int (2*100000000000)]) hi;have hr:∃r:Int,ixF [PV.int 12,.int 40,.int (2*100000000000)] i=.int r/\0<r/\r<=2*10 ^ 11:=by simp only[List.mem_cons,List.not_mem_nil,or_false] at hm;rcases hm with e|e|e <;> exact⟨_,e,by decide,by decide⟩
  obtain⟨r,er,r0,r1⟩:=hr;exact⟨n.mono ((Gr.refl n.g.pot).app.trans g2),r,r0,r1,er⟩
 rintro _ s ⟨n,room,r0,r1,rfl⟩;refine aP (fun ρ s=>NS st p s plc (st.length+1) (st.length+2) names [] []/\∃(m:Nat) (gt:Bool),m<6/\ρ=nF p st.length (st.length+1) (st.length+2) plc room (some (.int m)) gt none none none none none) ?_ ?_
 ·walk_at "WPN";refine⟨p,6,rfl,n.g.pot,by decide,by decide,fun x s1 x0 x1 g1=>⟨p,8,rfl,g1.pot,by decide,by decide,fun y s2 y0 y1 g2=>?_⟩⟩;obtain⟨x,rfl⟩:∃m:Nat,x=m:=⟨x.toNat,by omega⟩;walk_at "WPN";exact⟨n.mono (g1.trans g2),x,by omega,rfl⟩
 rintro _ s ⟨n,m,gt,m6,rfl⟩;refine aP (fun ρ s=>NI st p st.length (st.length+1) (st.length+2) plc room (some (.int m)) gt names 10 ρ s) ?_ ?_
 ·walk_at "WPN";obtain⟨x,hx,x1⟩:∃x:Nat,(if gt=true then (10:Int) else m)=x/\x<=10:=by
   cases gt
   ·exact⟨m,rfl,by omega⟩
   ·exact⟨10,rfl,by omega⟩
  have hj:(bb 0 (x:Int).toNat).length=x:=by simp[bb]
  have fin:CI Γ (.name 8) fj (fun _=>True) (nxE fun ρ s=>NI st p st.length (st.length+1) (st.length+2) plc room (some (.int m)) gt names 10 ρ s) (bb 0 (x:Int).toNat) (nF p st.length (st.length+1) (st.length+2) plc room (some (.int m)) gt none none none none none) s:=by
   refine fc Γm (NI st p st.length (st.length+1) (st.length+2) plc room (some (.int m)) gt names) ⟨[],none,none,none,none,n,KF _,rfl⟩ ?_ ?_
   ·rintro i v ρ s hi ⟨ps,kk,a,b,r,n,pl',rfl⟩;obtain⟨rfl,hi⟩:=iH hi;exact⟨trivial,BO r0 r1 (by omega) n pl'⟩
   ·rintro ρ s ⟨ps,kk,a,b,r,n,pl',rfl⟩;exact⟨trivial,ps,kk,a,b,r,n,by omega,rfl⟩
  cases gt with
  | false=>walk_at "WPN";cases hx;exact⟨by omega,by omega,fin⟩
  | true=>walk_at "WPN";cases hx;exact fin
 rintro _ s ⟨ps,kk,a,b,r,n,pl',rfl⟩;refine aP (fun ρ s=>NS st p s plc (st.length+1) (st.length+2) names (ps.map (·.1)) ps/\∃ws:List Str,ws.length<=4/\(∀z∈ws,Nm z)/\ws.Pairwise Lt/\ρ=nF p st.length (st.length+1) (st.length+2) plc room (some (.int m)) gt kk a b r (some (.tup (sV ws)))) ?_ ?_
 ·walk_at "WPN";have N4:=n.N4;refine⟨_,ag n.hp,by simp[sV];omega,?_⟩;refine cM Γm (fun i acc s=>∃ws:List Str,acc=sV ws/\ws.Sublist (names.take i)/\NS st p s plc (st.length+1) (st.length+2) names (ps.map (·.1)) ps) ⟨[],rfl,List.nil_sublist _,n⟩ ?_ ?_
  ·rintro i v acc s' hi ⟨ws,rfl,wl,n'⟩;rw[KM] at hi;obtain⟨z,hz,rfl⟩:=K4.mp hi;refine⟨by rw[ba,n.hp];exact n'.hp,?_⟩;walk_at "WPN";refine⟨p,2,rfl,n'.g.pot,by decide,by decide,fun y s2 y0 y1 g2=>?_⟩;walk_at "WPN";have tk:names.take (i+1)=names.take i++[z]:=by rw[LS,hz];rfl
   refine gC (fun c=>⟨ws++[z],by simp[sV],?_,n'.mono g2⟩) fun c=>⟨ws,rfl,?_,n'.mono g2⟩
   ·rw[tk];exact wl.append (List.Sublist.refl _)
   ·rw[tk];exact wl.trans (List.sublist_append_left _ _)
  ·rintro acc s' ⟨ws,rfl,wl,n'⟩;rw[show (sV names).length=names.length by simp[sV],LR] at wl;have wl4:=wl.length_le;refine⟨by rw[ba,n.hp];exact n'.hp,ws,aq get_last,by omega,fun ss hp' hs=>⟨_,ag dI,?_⟩⟩;refine⟨n'.mono (Gr.refl n'.g.pot).app,ss,by have:=hp'.length_eq;omega,fun z hz=>n.N z (wl.subset (hp'.mem_iff.mp hz)),va hs (hp'.nodup_iff.mpr (n.Nd.sublist wl)),rfl⟩
 rintro _ s ⟨n,ws,wl,hw,hs,rfl⟩;walk_at "WP";have:=n.l6;refine⟨p,st.length+2,ps,rfl,n.g.pot,by omega,n.hd,n.P,fun e s2 fe en g2=>?_⟩;exact .inl (k e ws _ ps s2 (n.g.trans g2) (by omega) (g2.get n.hd (by omega)) ⟨fe,wl,hw,hs,pl',fun q hq=>n.M q.1 (K0.mpr ⟨q,hq,rfl⟩),n.P,n.Md,en⟩)
theorem u3 {as st Q}(h:b_ as st Q):aw Γ fg (frame 1 as) st (ah st Q):=by
 obtain⟨v,rfl,hb,k⟩:=h;obtain⟨n,hn⟩:=ki hb;unfold fg;walk_at "WP";rw[u7 hn] at k;refine⟨n,hn,?_⟩;cases e:bF "int" n with
 | false =>rw[e] at k;exact .inl k
 | true =>rw[e] at k;exact J6 ⟨n,hn,.inl k⟩
theorem jD {as st Q}(h:aU as st Q):aw Γ bK (frame 2 as) st (ah st Q):=by
 obtain⟨n,d,rfl,k⟩:=h;unfold bK;walk_at "WP";refine mQ Γm (fun m ρ s=>∃a b:Nat,ρ=[some (.int a),some (.int b)]/\s=st/\Nat.gcd a b=Nat.gcd n d/\m=b) (n:=d) ⟨n,d,rfl,rfl,rfl,rfl⟩ ?_;rintro m ρ s ⟨a,b,rfl,rfl,hg,rfl⟩;walk_at "WP";by_cases hb:(m:Int)=0
 ·rw[KS (fun z=>z hb)];have:m=0:=by omega
  subst this;rw[Nat.gcd_zero_right] at hg;rw[hg];exact .inl k
 ·rw[KZ hb];refine⟨by omega,a % m,OW _ (by omega),m,rfl,a % m,?_,?_,rfl⟩
  ·simp
  ·rw[<-hg,NK a m,Nat.gcd_rec m a,NK]
theorem GU {xs:List PV}(h:xs.length=2):∃x y,xs=[x,y]:=by
 match xs,h with
 | [x,y],_=>exact⟨x,y,rfl⟩
theorem yY {x:PV}(h:(PV.tup [x,y]).bel k=true):x.bel k=true/\y.bel k=true:=by rw[PV.bel,PV.bels,PV.bels,PV.bels,Bool.and_true,KW] at h;exact h
theorem nr {as st Q}(h:a6 as st Q):aw Γ cG (frame 3 as) st (ah st Q):=by
 obtain⟨v,rfl,hb,k⟩:=h;obtain⟨n,hn⟩:=ki hb;unfold cG;walk_at "WP";refine⟨n,hn,?_⟩;obtain⟨kt,kf⟩:=uu hn;cases e:bF "tuple" n with
 | false =>rw[kf e] at k;exact .inl k
 | true =>
  obtain⟨xs,rfl⟩:=kt e;walk_at "WP";by_cases hl:xs.length=2
  ·obtain⟨x,y,rfl⟩:=GU hl;obtain⟨bx,by'⟩:=yY hb;rw[sE] at k;walk_at "WP";refine⟨x,rfl,bx,?_⟩;cases x with
   | int i =>
    simp only[jE];walk_at "WP";refine⟨y,rfl,by',?_⟩;cases y with
    | int j =>
     simp only[jE];walk_at "WP";by_cases h0:0<=i
     ·rw[KZ h0];by_cases h1:1<=j
      ·rw[KZ h1];refine⟨i.toNat,j.toNat,?_,?_⟩
       ·rw[Int.toNat_of_nonneg h0,Int.toNat_of_nonneg (by omega)]
       ·walk_at "WP";rw[rV h0 h1];exact .inl k
      ·rw[KS h1];simp only[h1,false_and,and_false,decide_false] at k;exact .inl k
     ·rw[KS h0];simp only[h0,false_and,decide_false] at k;exact .inl k
    | _=>simp only[jE];walk_at "WP";exact .inl k
   | _=>simp only[jE];walk_at "WP";exact .inl k
  ·rw[zh hl] at k;rw[KZ (by omega)];exact .inl k
theorem nU {as st Q}(h:bA as st Q):aw Γ cE (frame 3 as) st (ah st Q):=by obtain⟨n,rfl,hn,k⟩:=h;unfold cE;walk_at "WP";refine mQ Γm (fun m ρ s=>ρ=[some (.int n),some (.ref st.length),none]/\s=st++[.lst []]) (n:=0) ⟨rfl,rfl⟩ ?_;rintro m ρ s ⟨rfl,rfl⟩;walk_at "WP";rw[KS (by omega)];rw[zJ];refine⟨⟨_,aq get_last⟩,gQ (by omega) (by omega),by decide,_,get_last,K_ (fT hn) (by decide),?_⟩;exact .inr (.app rfl k)
theorem kT {as st Q}(h:aD as st Q):aw Γ b8 (frame 3 as) st (ah st Q):=by
 obtain⟨⟨n,d⟩,rfl,⟨h1,h3,h2,h4⟩,k⟩:=h;replace h1:n<10 ^ 12:=h1;replace h2:0<d:=h2;replace h3:d<10 ^ 12:=h3;replace k:Q (.str (ft n d)) st:=k;unfold b8;walk_at "WP";by_cases hd:d=1
 ·subst hd;rw[KZ (show (((1:Nat):Int))=1 from rfl)];exact⟨n,rfl,h1,.inl k⟩
 ·unfold ft at k;rw[KS hd] at k;rw[KS (by omega)];have:=fT h1;have:=fT h3;refine⟨n,rfl,h1,?_⟩;walk_at "WP";have e:(Str.ofString "/").length=1:=rfl;have e2:(nt n++Str.ofString "/").length=(nt n).length+1:=by rw [av,aW,KN,<-av];rfl
  refine⟨by omega,d,rfl,h3,?_⟩;walk_at "WP";exact⟨by omega,.inl k⟩
theorem Hv:nt n≠Str.ofString "":=fun h=>by have:=LG (fun z:Str=>z.cps.toList) h;simp only[fY] at this;obtain⟨c,r,e,_⟩:=vt n;rw[e] at this;cases this
theorem jQ {as st Q}(h:a9 as st Q):aw Γ bN (frame 1 as) st (ah st Q):=by
 obtain⟨n,rfl,hn,k⟩:=h;have hl:=fT hn;unfold bN;walk_at "WP";rw[KS Hv];refine⟨by simp only[ee,List.length_map];rw[<-av];omega,?_⟩;refine FW.comp_map Γm (fun _=>.bl true) trivial (fun v hv=>?_) ?_
 ·obtain⟨c,hc,rfl⟩:=K0.mp hv;walk_at "WP";rw[fY] at hc;have:=qL n c hc;have f:=MY (Str.ofString "0123456789") c;rw[<-Bool.not_eq_true'];refine Eq.trans f (LH ?_);show c∈[48,49,50,51,52,53,54,55,56,57];simp only[List.mem_cons,List.not_mem_nil,or_false];omega
 ·refine⟨_,aq get_last,_,oW (f:=fun _=>true),.app rfl ?_⟩;have:((ee (nt n)).map fun _=>true).all id=true:=by simp
  rw[this];walk_at "WP";by_cases h0:nt n=Str.ofString "0"
  ·rw[KZ h0];exact .inl k
  ·rw[KS h0];obtain⟨c,r,e,hc⟩:=vt n;refine⟨by omega,c,by rw[fY,e];exact dt (xs:=c::r) (j:=0) rfl,?_⟩;rw[LJ]
   ·exact .inl k
   ·intro z;have hz:=hc (by have:=LG (fun z:Str=>z.cps.toList) z;exact List.head_eq_of_cons_eq this);subst hz;exact h0 rfl
theorem nG {as st Q}(h:bE as st Q):aw Γ cB (frame 4 as) st (ah st Q):=by
 obtain⟨n,rfl,hn,k⟩:=h;have hl:=fT hn;have hm:((nt n).length:Int) % 64=((nt n).length:Int):=by omega
 have h0:(Str.ofString "0").length=1:=rfl;have h1:(Str.ofString "0"++nt n).length=1+(nt n).length:=by rw [av,aW,KN,<-av (nt n)];rfl
 unfold cB;walk_at "WP";refine⟨n,rfl,hn,?_⟩;walk_at "WP";rw[hm,C1];refine⟨by omega,by omega,by omega,by omega,n,zw hn,by omega,by omega,by omega,by omega,by omega,?_⟩;refine fc Γm (fun _ ρ s=>s=st/\ρ=[some (.str (nt n)),some (.int (nt n).length),some (.int n),none]) ⟨rfl,rfl⟩ (fun i v ρ s hi _=>by simp[jH,rSz] at hi) ?_;rintro ρ s ⟨rfl,rfl⟩;refine⟨trivial,?_⟩;walk_at "WP";exact .inl k
theorem kG {as st Q}(h:bf as st Q):aw Γ b7 (frame 6 as) st (ah st Q):=by
 obtain⟨⟨n,d⟩,rfl,⟨h1,h3,h2,h4⟩,k⟩:=h;replace h1:n<10 ^ 12:=h1;replace h2:0<d:=h2;replace h3:d<10 ^ 12:=h3;replace h4:Nat.gcd n d=1:=h4;unfold b7;walk_at "WP";rw[KS (by decide)];refine⟨K_ (zE h1 h3) (by decide),?_⟩;unfold ftp;unfold ft;by_cases hd:d=1
 ·subst hd;rw[KZ rfl,xt zF];walk_at "WP";refine⟨n,rfl,h1,?_⟩;walk_at "WP";exact .inl k
 ·rw[KS hd,yG zF zF];walk_at "WP";refine⟨n,rfl,h1,?_⟩;walk_at "WP";rw[KS (by decide)];refine⟨d,rfl,h3,?_⟩;walk_at "WP";rw[KS (by omega)];refine⟨n,d,rfl,?_⟩;rw[h4];walk_at "WP";exact .inl k
theorem iE {as st Q}(h:bM as st Q):aw Γ bu (frame 1 as) st (ah st Q):=by
 obtain⟨⟨n,d⟩,rfl,⟨h1,h3,h2,h4⟩,k⟩:=h;replace h1:n<10 ^ 12:=h1;replace h2:0<d:=h2;replace h3:d<10 ^ 12:=h3;replace k:Q (.str (ft n d)) st:=k;unfold bu;walk_at "WP";by_cases hd:d=1
 ·subst hd;rw[KZ (show (((1:Nat):Int))=1 from rfl)];exact⟨gQ (by omega) (by omega),.inl k⟩
 ·unfold ft at k;rw[KS hd] at k;rw[KS (by omega)];have:=fT h1;have:=fT h3;have e:(Str.ofString "/").length=1:=rfl;have e2:(nt n++Str.ofString "/").length=(nt n).length+1:=by rw [av,aW,KN,<-av];rfl
  exact ⟨gQ (by omega) (by omega),by show (nt n).length+_<=_;omega,gQ (by omega) (by omega),by show (nt n++Str.ofString "/").length+(nt d).length<=_;omega,.inl k⟩
theorem dP {chk:AH->Prop}{ρ:Fr}{Q:LK}(v:PV)(hc:chk st)(hs:∀(i:Nat) x,xs[i]?=some x->∀K:EK,K v st->bD Γ tg x ρ st fun ρ' st3=>wpE Γ elt ρ' st3 K)(q:Q (List.replicate xs.length v) st):oK Γ elt tg .nil chk ρ xs st Q:=by
 refine cM Γm (fun i acc s=>s=st/\acc=List.replicate i v) ⟨rfl,rfl⟩ ?_ ?_
 ·rintro i x acc s hx ⟨rfl,rfl⟩;refine⟨hc,?_⟩;simp only[mF,if_true];exact hs i x hx _ ⟨rfl,List.replicate_succ'.symm⟩
 ·rintro acc s ⟨rfl,rfl⟩;exact⟨hc,q⟩
theorem jV:∀n:Nat,eI (List.replicate n (.bl b))=some (List.replicate n b)
 | 0=>rfl
 | n+1=>by rw[List.replicate_succ,List.replicate_succ,eI,jV n];rfl
theorem hV {K:EK}(k:K (.bl true) st):∃xs,aQ (st++[.lst (List.replicate n (.bl true))]) (.ref st.length)=some xs/\∃x,eI xs=some x/\Tmp st K (.bl (x.all id)) (st++[.lst (List.replicate n (.bl true))]):=by
 refine⟨_,aq get_last,_,jV n,?_⟩;have:(List.replicate n true).all id=true:=by simp
 rw[this];exact .app rfl k
theorem B7 {K:EK}(k:K (.bl false) st):∃xs,aQ (st++[.lst (List.replicate n (.bl false))]) (.ref st.length)=some xs/\∃x,eI xs=some x/\Tmp st K (.bl (x.any id)) (st++[.lst (List.replicate n (.bl false))]):=by
 refine⟨_,aq get_last,_,jV n,?_⟩;have:(List.replicate n false).any id=false:=by simp
 rw[this];exact .app rfl k
theorem jx {K:EK}(hp:Fq p)(hq:Fq q)(n:¬dJ p q)(k:K (.bl false) st):aZ [fr p,fr q] st K:=⟨p,q,rfl,hp.sz,hq.sz,by rw[show decide (p.1*q.2<q.1*p.2)=false from LJ n];exact k⟩
theorem Fq.isFr (h:Fq p):l_ (fr p)=true:=Cop.isFr ⟨h.po,h.g⟩
theorem gJ {K:EK}(hp:Fq p)(k:K (.bl true) st):a6 [fr p] st K:=⟨fr p,rfl,GI,by rw[hp.isFr];exact k⟩
theorem du {A B:Prop}(e:bF t t=true)(h:B):if bF t t=false then A else B:=by rw[KS (by rw[e];exact fun z=>nomatch z)];exact h
theorem yq {p q:Nat × Nat}:(decide ((p.1:Int)=q.1) && decide ((p.2:Int)=q.2))=decide (p=q):=by obtain⟨a,b⟩:=p;obtain⟨c,d⟩:=q;simp only[Prod.mk.injEq,Int.ofNat_inj,Bool.decide_and]
theorem wZ {as st Q}(h:dS as st Q):aw Γ fO (frame 1 as) st (ah st Q):=by obtain⟨z,rfl,hz,k⟩:=h;have hl:=hz.len;have hp:=hz.pos;unfold fO;walk_at "WP";refine du rfl ?_;rw[KS (fun e=>by subst e;exact absurd hp (by decide +kernel))];refine⟨by omega,?_⟩;rw[KS (by omega)];refine⟨by simp only[ee,List.length_map];rw[<-av];omega,dP (.bl true) trivial (fun i x hx K kk=>?_) (hV (.inl k))⟩;have hx:=KJ hx;obtain⟨c,hc,rfl⟩:=K0.mp hx;walk_at "WP";have:=hz.ltr c hc;have f:=MY (Str.ofString "abcdefghijklmnopqrstuvwxyz") c;rw [show (Str.ofString "abcdefghijklmnopqrstuvwxyz").cps.toList=abc from uF,LH (by simp only [abc,List.mem_cons,List.not_mem_nil,or_false];omega)] at f;rw [show (!(Builtin.Str.occurrences (Str.ofString "abcdefghijklmnopqrstuvwxyz") ⟨#[c]⟩ 0 (Str.ofString "abcdefghijklmnopqrstuvwxyz").length 1).isEmpty)=true from f];exact kk
theorem xR {as st Q}(h:dZ as st Q):aw Γ fQ (frame 5 as) st (ah st Q):=by
 obtain⟨r,rfl,hr,k⟩:=h;unfold fQ;walk_at "WP";refine du rfl ⟨by decide,dP (.bl true) trivial (fun i x hx K kk=>?_) (hV ?_)⟩
 ·have hx:=KJ hx;walk_at "WP";simp only[List.mem_cons,List.not_mem_nil,or_false] at hx;rcases hx with rfl|rfl|rfl|rfl
  ·exact gJ hr.a kk
  ·exact gJ hr.b kk
  ·exact gJ hr.c kk
  ·exact gJ hr.d kk
 ·walk_at "WP";refine jx hr.b hr.a hr.ab ?_;walk_at "WP";refine jx hr.c hr.a hr.ac ?_;walk_at "WP";refine jx hr.d hr.b hr.bd ?_;walk_at "WP";refine sZ ?_;rw[yq];by_cases e:r.a=r.b
  ·rw[LH e,KS (by simp)];refine sZ ?_;rw[yq,LH (hr.eq e)];exact .inl k
  ·rw[LJ e];exact .inl k
theorem uS {as st Q}(h:c6 as st Q):aw Γ ff (frame 1 as) st (ah st Q):=by obtain⟨L,rfl,hL,hl,k⟩:=h;unfold ff;walk_at "WP";rw [KZ (show bF "tuple" "tuple"=true from rfl)];refine⟨by rw[KH];omega,dP (.bl true) trivial (fun i x hx K kk=>?_) (hV (.inl k))⟩;obtain⟨r,hr,rfl⟩:=K0.mp (KJ hx);walk_at "WP";exact⟨r,rfl,hL r hr,kk⟩
theorem AV:∀ {ws:List Str},ws.Pairwise Lt->∀x∈fX (sV ws) ((sV ws).drop 1),∃a b,x=.tup [.str a,.str b]/\Lt a b
 | [],_,x,hx=>nomatch hx
 | [a],_,x,hx=>nomatch hx
 | a::b::r,h,x,hx=>by
  have hx:x∈PV.tup [.str a,.str b]::fX (sV (b::r)) ((sV (b::r)).drop 1):=hx;rw[NA] at h;rcases LC.mp hx with rfl|hx
  ·exact⟨a,b,rfl,h.1 b KP⟩
  ·exact AV h.2 x hx
theorem gO:∀(a b:List PV),(fX a b).length<=a.length
 | [],b=>by simp[fX]
 | x::a,[]=>by simp[fX]
 | x::a,y::b=>by simp only[fX,List.length_cons];have:=gO a b;omega
theorem ud {as st Q}(h:cX as st Q):aw Γ e6 (frame 1 as) st (ah st Q):=by
 obtain⟨ws,rfl,hl,hN,hs,k⟩:=h;unfold e6;walk_at "WP";have wl:(sV ws).length=ws.length:=KH ..;refine du rfl ⟨by omega,dP (.bl true) trivial (fun i x hx K kk=>?_) (hV ?_)⟩
 ·obtain⟨z,hz,rfl⟩:=K0.mp (KJ hx);walk_at "WP";exact⟨z,rfl,hN z hz,kk⟩
 ·walk_at "WP";rw[GN];refine⟨by have:=gO (sV ws) ((sV ws).drop 1);omega,dP (.bl true) ⟨trivial,trivial⟩ (fun i x hx K kk=>?_) (hV (.inl k))⟩;obtain⟨a,b,rfl,ab⟩:=AV hs x (KJ hx);walk_at "WP";rw[LH (show a.cps.toList<b.cps.toList from ab)];exact kk
theorem BU {as st Q}(h:fv as st Q):aw Γ gL (frame 5 as) st (ah st Q):=by obtain⟨t,e,rfl,ht,he,hn,k⟩:=h;unfold gL;walk_at "WP";refine du rfl ⟨_,rfl,ht.a,?_⟩;walk_at "WP";refine⟨_,rfl,ht.b,?_⟩;walk_at "WP";rw[KS ht.ne];refine⟨_,rfl,ht.rs,ht.len,?_⟩;walk_at "WP";refine⟨by rw[KH];have:=ht.len;omega,dP (.bl false) trivial (fun i x hx K kk=>?_) (B7 ⟨_,rfl,.inl k⟩)⟩;obtain⟨r,hr,rfl⟩:=K0.mp (KJ hx);walk_at "WP";exact jx he (ht.rs r hr).b (hn r hr) kk
theorem y7 {as st Q}(h:fm as st Q):aw Γ gP (frame 4 as) st (ah st Q):=by
 obtain⟨e,ws,d,ps,rfl,hd,hN,k⟩:=h;have dl:=au hd;unfold gP;walk_at "WP";refine du rfl (gJ hN.fe ?_);walk_at "WP";refine⟨_,rfl,hN.wl,hN.wn,hN.ws,?_⟩;walk_at "WP";refine ⟨"dict",by simp only [bg,hd],du rfl ⟨_,hd,by simp;have:=hN.pl;omega,dP (.bl true) trivial (fun i x hx K kk=>?_) ⟨K1 dl,?_⟩⟩⟩
 ·obtain⟨t0,ht0,rfl⟩:=C3 hx;obtain⟨t,ht,rfl⟩:=EC ht0;have tm:=KJ ht;walk_at "WP";refine⟨_,rfl,hN.pn t tm,?_⟩;walk_at "WP";exact⟨_,_,rfl,hN.pt t tm,hN.fe,hN.en t tm,kk⟩
 ·rw[rq hd,M_];exact hV (.inl k)
theorem gU {sep:Str}{S:List Str}{B:Nat}(hB:∀y∈S,y.length<=B)(h:S.length*B+S.length*sep.length<=16777216):JoinOk sep S=true:=by unfold JoinOk;rw[PySem.StrLaws.joinFits hB h];rfl
theorem GL {B:Nat}:∀ {S:List Str},(∀y∈S,y.length<=B)->(S.map (fun x=>x.length)).sum<=S.length*B:=fun {S} h=>PySem.StrLaws.sumLen_le S h
theorem wC {sep:Str}{S:List Str}{B:Nat}(h:∀y∈S,y.length<=B):(Txt.join sep S).length<=S.length*B+S.length*sep.length:=by rw[cj];exact K_ (PySem.StrLaws.join_length_le sep S) (Nat.add_le_add_right (GL h) _)
theorem at_iff {x y:Str}:PySem.StrLaws.At x y x.length k↔k+y.length<=x.length/\((tl x).drop k).take y.length=tl y:=by unfold PySem.StrLaws.At;rw[PySem.StrLaws.subAt_eq,OV]
theorem v_ {x:Str}{c:Nat}{ys:List Nat}(hy:tl y=c::ys)(h:PySem.StrLaws.At x y x.length k):(tl x)[k]?=some c:=by
 obtain⟨_,h⟩:=at_iff.mp h;rw[hy] at h;have e:=LG (fun l:List Nat=>l[0]?) h;have hl:y.length=ys.length+1:=by rw[av];show (tl y).length=_;rw[hy];rfl
 simp only[List.getElem?_cons_zero] at e;rw[MP (by omega),N5] at e;exact e
theorem iQ {x:Str}{c:Nat}{ys:List Nat}(hy:tl y=c::ys):∀(S:List Str) (cuts:List Nat) (a f:Nat),S≠[]->(∀p∈S,c ∉ tl p)->(tl x).drop a=jn (tl y) (S.map tl)->PySem.StrLaws.ChainG x y x.length a cuts f->(∀k,f<=k->¬PySem.StrLaws.At x y x.length k)->PySem.StrLaws.partsFrom x y.length a cuts=S
 | [],_,_,_,h,_,_,_,_=>absurd rfl h
 | [p],cuts,a,f,_,hf,e,hc,hn=>by
  have e:(tl x).drop a=tl p:=e;cases cuts with
  | nil =>show [Builtin.Str.strSub x a x.length]=[p];congr 1;refine eC ?_;rw[MH,L4 (by rw[NN,av];exact KF _)];exact e
  | cons d r =>exfalso;obtain⟨h1,h2,_⟩:=hc;have:=v_ hy h2;rw[show d=a+(d-a) by omega,<-N5,e] at this;exact hf p (K9.mpr rfl) (KJ this)
 | p::q::S,cuts,a,f,_,hf,e,hc,hn=>by
  have e:(tl x).drop a=tl p++(tl y++jn (tl y) ((q::S).map tl)):=e;have hl:=LG List.length e;rw[NN,KN,KN] at hl;have hlx:x.length=(tl x).length:=av x;have hly:y.length=(tl y).length:=av y;have hy1:(tl y).length=ys.length+1:=by rw[hy];rfl
  have ha:PySem.StrLaws.At x y x.length (a+(tl p).length):=at_iff.mpr ⟨by omega,by rw[<-List.drop_drop,e,List.drop_left,hly,N0]⟩
  have hno:∀k,a<=k->k<a+(tl p).length->¬PySem.StrLaws.At x y x.length k:=fun k h1 h2 hA=>by have:=v_ hy hA;rw[show k=a+(k-a) by omega,<-N5,e,K3 (by omega)] at this;exact hf p KP (KJ this)
  cases cuts with
  | nil =>have hc:f=a:=hc;exact absurd ha (hn _ (by omega))
  | cons d r =>
   obtain⟨h1,h2,h3,h4⟩:=hc;have hd:d=a+(tl p).length:=by
    by_cases g:d<a+(tl p).length
    ·exact absurd h2 (hno d h1 g)
    ·by_cases g2:a+(tl p).length<d
     ·exact absurd ha (h3 _ (by omega) g2)
     ·omega
   show Builtin.Str.strSub x a d::PySem.StrLaws.partsFrom x y.length (d+y.length) r=p::q::S;congr 1
   ·refine eC ?_;rw[MH];show ((tl x).drop a).take (d-a)=tl p;rw[e,show d-a=(tl p).length by omega,N0]
   ·refine iQ hy (q::S) r _ f (fun z=>nomatch z) (fun p' hp=>hf p' (KL _ hp)) ?_ h4 hn;rw[hd,hly,Nat.add_assoc,<-List.drop_drop,e,<-MD,List.drop_left' (by rw[KN])]
theorem BR (x:Str):1<=Builtin.Str.strKind x:=by
 unfold Builtin.Str.strKind;split
 ·exact KF _
 ·split <;> decide
theorem lI {c:Nat}{ys:List Nat}(hy:tl y=c::ys)(hk:Builtin.Str.strKind y=1){S:List Str}(hS:S≠[])(hf:∀p∈S,c ∉ tl p):Txt.split (Str.join y S) y=S:=by
 have hj:tl (Str.join y S)=jn (tl y) (S.map tl):=ly y S;generalize Str.join y S=x at hj;have hy1:1<=y.length:=by rw[av];show 1<=(tl y).length;rw[hy];simp
 obtain⟨f,hG,hn⟩:=PySem.StrLaws.occ_tight x y hy1;have none_:(∀k,¬PySem.StrLaws.At x y x.length k)->[x]=S:=fun h=>by have:=iQ (x:=x) hy S [] 0 0 hS hf (by rw[MX];exact hj) rfl (fun k _=>h k);rw[<-this];show [x]=[Builtin.Str.strSub x 0 x.length];rw[PySem.StrLaws.sub_whole]
 unfold Txt.split;split
 ·rename_i hc;rw[MZ,decide_eq_true_eq,decide_eq_true_eq] at hc;have:=BR x;exact none_ fun k hA=>by have:=hA.1;omega
 ·split
  ·rename_i he;rw[List.isEmpty_iff.mp he] at hG;have ef:f=0:=hG;subst ef;exact none_ fun k=>hn k (LU _)
  ·rw[PySem.StrLaws.partsBetween_eq];exact iQ hy S _ 0 f hS hf (by rw[MX];exact hj) hG hn
theorem CD {c:Nat}(h:c∈tl (ftp p)):47<=c/\c<=57:=by
 have hn:∀ {n:Nat},c∈(nt n).cps.toList->47<=c/\c<=57:=fun {n} h=>by rw[fY] at h;have:=qL n c h;omega
 unfold ftp ft at h;split at h
 ·exact hn h
 ·have h:c∈(nt p.1++("/":Str)++nt p.2).cps.toList:=h;rw[aW,aW,K7,K7] at h;rcases h with (h|h)|h
  ·exact hn h
  ·have:c=47:=K9.mp h;omega
  ·exact hn h
theorem zB:∀ {L:List (List Nat)},c∈jn s L->c∈s\/∃l∈L,c∈l
 | [x],h=>.inr ⟨x,KP,h⟩
 | x::y::r,h=>by
  rw[jn,K7,K7] at h;rcases h with h|h|h
  ·exact .inr ⟨x,KP,h⟩
  ·exact .inl h
  ·rcases zB h with h|⟨l,hl,h⟩
   ·exact .inl h
   ·exact .inr ⟨l,KL _ hl,h⟩
theorem vR (sep:Str)(S:List Str):tl (Txt.join sep S)=jn (tl sep) (S.map tl):=by rw[cj,ly]
structure WOk (w:List Str):Prop where
 l0:0<w.length
 l5:w.length<=5
 len:∀x∈w,x.length<=25
 ltr:∀x∈w,∀c∈tl x,47<=c
theorem WOk.of {w:List Str}(l0:0<w.length)(l5:w.length<=5)(h:∀x∈w,x.length<=25/\∀c∈tl x,47<=c):WOk w:=⟨l0,l5,fun x hx=>(h x hx).1,fun x hx=>(h x hx).2⟩
theorem WOk.jok (h:WOk w):JoinOk " " w=true:=gU (B:=25) h.len (by have:=h.l5;have e:(Str.ofString " ").length=1:=rfl;rw[e];omega)
theorem WOk.line (h:WOk w):(aG w).length<=130:=by have:=wC (sep:=" ") (S:=w) (B:=25) h.len;have e:(Str.ofString " ").length=1:=rfl;rw[e] at this;have:=h.l5;unfold aG;omega
theorem WOk.nl (h:WOk w):10 ∉ tl (aG w):=fun z=>by
 unfold aG at z;rw[vR] at z;rcases zB z with z|⟨l,hl,z⟩
 ·exact absurd z (by decide +kernel)
 ·obtain⟨x,hx,rfl⟩:=K0.mp hl;have:=h.ltr x hx _ z;omega
theorem WOk.split (h:WOk w):Txt.split (aG w) " "=w:=by
 unfold aG;rw[cj];refine lI (y:=" ") (c:=32) (ys:=[]) rfl (by decide +kernel) (fun e=>?_) fun p hp hc=>?_
 ·have:=h.l0;rw[e] at this;cases this
 ·have:=h.ltr p hp _ hc;omega
theorem Nm.word (h:Nm z):z.length<=25/\∀c∈tl z,47<=c:=⟨by have:=h.len;omega,fun c hc=>by have:=h.ltr c hc;omega⟩
theorem Fq.word (h:Fq p):(ftp p).length<=25/\∀c∈tl (ftp p),47<=c:=⟨zE h.a h.b,fun c hc=>(CD hc).1⟩
theorem p9 (h:ib r):WOk (jz r):=.of (by show 0<5;decide) (by show 5<=5;decide) fun x hx=>by
 simp only[jz,List.mem_cons,List.not_mem_nil,or_false] at hx;rcases hx with rfl|rfl|rfl|rfl|rfl
 ·decide +kernel
 ·exact h.a.word
 ·exact h.b.word
 ·exact h.c.word
 ·exact h.d.word
theorem zu (hz:Nm z)(h:kJ t):WOk (i9 z t):=.of (by show 0<4;decide) (by show 4<=5;decide) fun x hx=>by
 simp only[i9,List.mem_cons,List.not_mem_nil,or_false] at hx;rcases hx with rfl|rfl|rfl|rfl
 ·decide +kernel
 ·exact hz.word
 ·exact h.a.word
 ·exact h.b.word
theorem Bf (h:Fq e):WOk ["end",ftp e]:=.of (by show 0<2;decide) (by show 2<=5;decide) fun x hx=>by
 simp only[List.mem_cons,List.not_mem_nil,or_false] at hx;rcases hx with rfl|rfl
 ·decide +kernel
 ·exact h.word
theorem mO {ws:List Str}(l:ws.length<=4)(h:∀z∈ws,Nm z):WOk ("waits"::ws):=.of (by simp) (by simp;omega) fun x hx=>by
 rcases LC.mp hx with rfl|hx
 ·decide +kernel
 ·exact(h x hx).word
theorem wm {p:Str × Te}(hz:Nm p.1)(h:kJ p.2):(∀w∈fu p,WOk w)/\(fu p).length<=9:=by
 refine⟨fun w hw=>?_,by simp[fu];have:=h.len;omega⟩;rcases LC.mp hw with rfl|hw
 ·exact zu hz h
 ·obtain⟨r,hr,rfl⟩:=K0.mp hw;exact p9 (h.rs r hr)
theorem mT:∀ {qs:List (Str × Te)},(∀q∈qs,Nm q.1)->(∀q∈qs,kJ q.2)->(∀w∈bJ qs,WOk w)/\(bJ qs).length<=9*qs.length
 | [],_,_=>⟨fun w hw=>(nomatch hw),LU _⟩
 | q::qs,hn,ht=>by
  obtain⟨a,b⟩:=mT (fun x hx=>hn x (KL _ hx)) fun x hx=>ht x (KL _ hx);obtain⟨c,d⟩:=wm (hn q KP) (ht q KP);have e:bJ (q::qs)=fu q++bJ qs:=rfl;rw[e];refine⟨fun w hw=>?_,by rw[KN,LI];omega⟩;rcases K7.mp hw with hw|hw
  ·exact c w hw
  ·exact a w hw
theorem qf (hN:NetOk e ws qs):(∀w∈bL e ws qs,WOk w)/\(bL e ws qs).length<=92:=by
 obtain⟨a,b⟩:=mT hN.pn hN.pt;have:=hN.pl;refine⟨fun w hw=>?_,by simp only[bL,List.length_cons];omega⟩;rcases LC.mp hw with rfl|hw
 ·exact Bf hN.fe
 rcases LC.mp hw with rfl|hw
 ·exact mO hN.wl hN.wn
 ·exact a w hw
theorem gX {R:List (List Str)}(h:∀w∈R,WOk w):∀x∈R.map aG,x.length<=130:=fun x hx=>by obtain⟨w,hw,rfl⟩:=K0.mp hx;exact(h w hw).line
theorem tW {R:List (List Str)}(h:∀w∈R,WOk w)(l:R.length<=92):JoinOk "\n" (R.map aG)=true/\(Txt.join "\n" (R.map aG)).length<=12052:=by have e:(Str.ofString "\n").length=1:=rfl;refine⟨gU (gX h) (by rw[e,KH];omega),?_⟩;have:=wC (sep:="\n") (gX h);rw[e,KH] at this;omega
theorem DV:∀(L:List (List Nat)),L≠[]->jn s L++s=(L.map (·++ s)).flatten
 | [x],_=>by simp[jn]
 | x::y::r,_=>by have:=DV (s:=s) (y::r) (fun z=>nomatch z);rw[jn,MD,MD,this];simp
theorem CC {S:List Str}(h:S≠[]):Txt.join "" (S.map fun x=>x++("\n":Str))=Txt.join "\n" S++("\n":Str):=by refine eC ?_;show tl _=_;rw [tP,aW,show (Txt.join "\n" S).cps.toList=jn (tl "\n") (S.map tl) from vR _ _];show _=jn (tl "\n") (S.map tl)++tl "\n";rw[DV _ (by simpa using h),LF,LF];refine LG List.flatten (MU fun x _=>?_);exact aW _ _
theorem uJ {qs:List (Str × Te)}{i:Nat}(h:qs[i]?=some q):bJ (qs.take (i+1))=bJ (qs.take i)++fu q:=by rw[LS,h];simp[bJ]
theorem fk {α β:Type}{f:α->β}:∀ {ss:List β}{ps:List α},ss.Perm (ps.map f)->∃qs:List α,qs.Perm ps/\qs.map f=ss
 | [],ps,h=>by have:=h.length_eq;rw[KH] at this;have:ps=[]:=List.eq_nil_of_length_eq_zero this.symm;subst this;exact⟨[],.refl _,rfl⟩
 | x::ss,ps,h=>by obtain⟨p,hp,e⟩:=K0.mp (h.mem_iff.mp KP);obtain⟨a,b,rfl⟩:=List.append_of_mem hp;subst e;rw[LA,KG] at h;have h2:=(h.trans List.perm_middle).cons_inv;rw[<-LA] at h2;obtain⟨qs,h3,h4⟩:=fk h2;exact⟨p::qs,(h3.cons p).trans List.perm_middle.symm,by rw[KG,h4]⟩
theorem qK {a:List (Str × Te)}(p:a.Perm b)(ha:SoK a)(hb:SoK b):a=b :=
 List.Perm.eq_of_pairwise (le:=fun x y:Str × Te=>Lt x.1 y.1) (fun x y _ _ h h'=>absurd (List.lt_trans (show tl x.1<tl y.1 from h) h') (List.lt_irrefl _)) (NJ.mp (show (a.map (·.1)).Pairwise Lt from ha)) (NJ.mp (show (b.map (·.1)).Pairwise Lt from hb)) p
theorem NetOk.perm {e:Nat × Nat}{ws:List Str}{ps qs:List (Str × Te)}(h:NetOk e ws ps)(p:qs.Perm ps):NetOk e ws qs :=
 ⟨h.fe,h.wl,h.wn,h.ws,by rw[p.length_eq];exact h.pl,fun q hq=>h.pn q (p.mem_iff.mp hq),fun q hq=>h.pt q (p.mem_iff.mp hq),(p.map _).nodup_iff.mpr h.nd,fun q hq=>h.en q (p.mem_iff.mp hq)⟩
theorem qi {ps:List (Str × Te)}{q:Str × Te}(h:(ps.map (·.1)).Nodup)(hq:q∈ps):ja (kd (pv ps)) (.inr q.1)=some (teV q.2) :=
 wb (ps:=pv ps) (p:=(q.1,teV q.2)) (by rw[iZ];exact h) (K0.mpr ⟨q,hq,rfl⟩)
theorem gu {α:Type}{chk:AH->Prop}{ρ:Fr}{xs:List α}{Q:LK}(g f:α->PV)(hc:chk st)(hs:∀a∈xs,∀K:EK,K (f a) st->bD Γ tg (g a) ρ st fun ρ' st3=>wpE Γ elt ρ' st3 K)(q:Q (xs.map f) st):oK Γ elt tg .nil chk ρ (xs.map g) st Q:=by
 refine cM Γm (fun i acc s=>s=st/\acc=(xs.take i).map f) ⟨rfl,rfl⟩ ?_ ?_
 ·rintro i x acc s hx ⟨rfl,rfl⟩;rw[KM] at hx;obtain⟨a,ha,rfl⟩:=K4.mp hx;refine⟨hc,?_⟩;simp only[mF,if_true];refine hs a (KJ ha) _ ⟨rfl,?_⟩;rw[LS,ha];simp
 ·rintro acc s ⟨rfl,rfl⟩;rw[KH,LR];exact⟨hc,q⟩
theorem tS {as st Q}(h:cm as st Q):aw Γ dU (frame 7 as) st (ah st Q):=by
 obtain⟨z,t,rfl,hz,ht,k⟩:=h;have tok:=zu hz ht;unfold dU;refine aP (fun ρ s=>st=s/\ρ=[some (.str z),some (teV t),some (.str t.a),some (.str t.b),some (.tup (t.rs.map rdV)),none,none]) (by walk_at "WPN") ?_;rintro _ _ ⟨rfl,rfl⟩;refine aP (fun ρ s=>s=st++[.lst [.str (aG (i9 z t))]]/\ρ=[some (.str z),some (teV t),some (.str t.a),some (.str t.b),some (.tup (t.rs.map rdV)),some (.ref st.length),none]) ?_ ?_
 ·walk_at "WPN";exact⟨i9 z t,aq get_last,tok.jok,.app rfl ⟨rfl,rfl⟩⟩
 rintro _ _ ⟨rfl,rfl⟩;refine aP (fun ρ s=>Pre st s/\s[st.length]?=some (.lst (sV ((fu (z,t)).map aG)))/\∃x,ρ=[some (.str z),some (teV t),some (.str t.a),some (.str t.b),some (.tup (t.rs.map rdV)),some (.ref st.length),x]) ?_ ?_
 ·walk_at "WPN";refine fc Γm (fun i ρ s=>Pre st s/\s[st.length]?=some (.lst (sV ((i9 z t::(t.rs.take i).map jz).map aG)))/\∃x,ρ=[some (.str z),some (teV t),some (.str t.a),some (.str t.b),some (.tup (t.rs.map rdV)),some (.ref st.length),x]) ⟨Pre.refl.app,get_last,_,rfl⟩ ?_ ?_
  ·rintro i v ρ s hi ⟨hP,hL,x,rfl⟩;rw[KM] at hi;obtain⟨r,hr,rfl⟩:=K4.mp hi;refine⟨trivial,?_⟩;walk_at "WPN";have rok:=ht.rs r (KJ hr);refine⟨⟨_,aq hL⟩,by decide,gu (xs:=[r.a,r.b,r.c,r.d]) fr (fun p=>.str (ftp p)) trivial (fun p hp K kk=>?_) ?_⟩
   ·walk_at "WPN";refine⟨p,rfl,?_,kk⟩;simp only[List.mem_cons,List.not_mem_nil,or_false] at hp;rcases hp with rfl|rfl|rfl|rfl
    ·exact rok.a
    ·exact rok.b
    ·exact rok.c
    ·exact rok.d
   ·have e1:(s++[Cell.lst [aY]]++[Cell.lst ([r.a,r.b,r.c,r.d].map fun p=>PV.str (ftp p))])[s.length]?=some (.lst [aY]):=bj get_last;have e2:=bj (g:=[Cell.lst [aY]]++[Cell.lst ([r.a,r.b,r.c,r.d].map fun p=>PV.str (ftp p)),Cell.lst ([aY]++([r.a,r.b,r.c,r.d].map fun p=>PV.str (ftp p)))]) hL;rw[<-MD] at e2;refine⟨_,e1,by show 1+4<=100000;decide,jz r,aq dI,(p9 rok).jok,_,e2,?_,?_⟩
    ·have:=ht.len;simp;omega
    ·refine⟨hP.app.app.setN (KF _),?_⟩;rw[K1 (au e2),LS,hr];simp[sV,aG]
  ·rintro ρ s ⟨hP,hL,x,rfl⟩;refine⟨trivial,?_⟩;rw[KH,LR] at hL;exact⟨hP,hL,x,rfl⟩
 rintro _ s ⟨hP,hL,x,rfl⟩;walk_at "WP";exact .inl (k _ _ hP (KF _) hL)
theorem oy (h:NetOk e ws qs)(i:Nat):(bL e ws (qs.take i)).length<=92:=by have:=(mT (qs:=qs.take i) (fun q hq=>h.pn q (MB hq)) fun q hq=>h.pt q (MB hq)).2;have:=h.pl;rw[MI] at *;simp only[bL,List.length_cons];omega
theorem oY {qs:List (Str × Te)}{i:Nat}(h:qs[i]?=some q):bL e ws (qs.take (i+1))=bL e ws (qs.take i)++fu q:=by unfold bL;rw[uJ h];rfl
theorem uj {as st Q}(h:a8 as st Q):aw Γ eY (frame 6 as) st (ah st Q):=by
 obtain⟨e,ws,d,ps,rfl,hd,hN,k⟩:=h;have dl:=au hd;have pl:=hN.pl;have wok:=mO hN.wl hN.wn;unfold eY;refine aP (fun ρ s=>st=s/\ρ=[some (bG e ws d),some (fr e),some (.tup (sV ws)),some (.ref d),none,none]) (by walk_at "WPN") ?_;rintro _ _ ⟨rfl,rfl⟩;obtain⟨P,hP⟩:∃P:Fr->AH->Prop,P=fun ρ s=>∃n,Pre st s/\st.length<=n/\s[n]?=some (.lst (sV ((bL e ws []).map aG)))/\ρ=[some (bG e ws d),some (fr e),some (.tup (sV ws)),some (.ref d),some (.ref n),none]:=⟨_,rfl⟩;refine aP P ?_ ?_
 ·walk_at "WPN";refine⟨e,rfl,hN.fe,?_⟩;walk_at "WPN";refine ⟨["end",ftp e],aq get_last,(Bf hN.fe).jok,.app rfl ?_⟩;refine ⟨by rw [KH];have:=hN.wl;omega,"waits"::ws,aq (by rw [cO (k:=2)];rfl),wok.jok,?_⟩;rw[hP];exact⟨_,Pre.refl.app,M5 _ _,by rw[cO (k:=3)];rfl,rfl⟩
 rw[hP];rintro _ s ⟨n,h1,nl,h2,rfl⟩;obtain⟨P,hP⟩:∃P:Fr->AH->Prop,P=fun ρ s=>∃(qs:List (Str × Te)) (x:Option PV),qs.Perm ps/\SoK qs/\Pre st s/\s[n]?=some (.lst (sV ((bL e ws qs).map aG)))/\ρ=[some (bG e ws d),some (fr e),some (.tup (sV ws)),some (.ref d),some (.ref n),x]:=⟨_,rfl⟩;refine aP P ?_ ?_
 ·walk_at "WPN";refine⟨_,.inl (h1.get hd),ps.map (·.1),by simp[kd,pv],by simp;omega,fun ss hp hs=>?_⟩;obtain⟨qs,hq,rfl⟩:=fk hp;have so:SoK qs:=va hs (hp.nodup_iff.mpr hN.nd);refine⟨_,ag get_last,?_⟩;refine fc Γm (fun i ρ s'=>Pre st s'/\s'[n]?=some (.lst (sV ((bL e ws (qs.take i)).map aG)))/\s'[s.length]?=some (.lst (sV (qs.map (·.1))))/\∃x,ρ=[some (bG e ws d),some (fr e),some (.tup (sV ws)),some (.ref d),some (.ref n),x]) ⟨h1.app,bj h2,get_last,_,rfl⟩ ?_ ?_
  ·rintro i v ρ s' hi ⟨g1,g2,g3,x,rfl⟩;rw[KM,KM] at hi;obtain⟨z,hz,rfl⟩:=K4.mp hi;obtain⟨q,hq',rfl⟩:=K4.mp hz;have qm:=hq.mem_iff.mp (KJ hq');refine⟨by rw[ba];exact g3.trans get_last.symm,?_⟩;walk_at "WPN";refine⟨_,.inl (g1.get hd),_,qi hN.nd qm,q.1,q.2,rfl,hN.pn q qm,hN.pt q qm,fun m s2 p2 ml e2=>?_⟩;show mz .Add (.ref n) (.ref m) s2 _;rw[t5];have ns:n≠s.length:=K6 (au h2);have l1:=oy (e:=e) (ws:=ws) (hN.perm hq) i;have l2:(fu (q.1,q.2)).length<=9:=(wm (hN.pn q qm) (hN.pt q qm)).2;refine⟨_,_,p2.get g2,e2,by simp only[List.length_map];omega,(g1.trans p2).setN nl,?_,?_,rfl⟩
   ·rw[K1 (au (p2.get g2)),oY hq',LA,sV,sV,sV,LA]
   ·rw[K5 ns];exact p2.get g3
  ·rintro ρ s' ⟨g1,g2,g3,x,rfl⟩;rw[show (sV (qs.map (·.1))).length=qs.length by simp,LR] at g2;refine⟨by rw[ba];exact g3.trans get_last.symm,?_⟩;rw[hP];exact⟨qs,x,hq,so,g1,g2,rfl⟩
 rw[hP];rintro _ s ⟨qs,x,hq,so,h1,h2,rfl⟩;have hN':=hN.perm hq;obtain⟨rok,rl⟩:=qf hN';walk_at "WP";refine ⟨_,ag h2,by simp only [List.length_map];omega,gu (xs:=(bL e ws qs).map aG) PV.str (fun z=>.str (z++("\n":Str))) rfl (fun z hz K kk=>?_) ?_⟩
 ·walk_at "WP";exact⟨by have:=gX rok z hz;show z.length+1<=100000;omega,kk⟩
 ·refine ⟨((bL e ws qs).map aG).map fun x=>x++("\n":Str),aq (by rw [get_last];exact LG (fun l=>some (Cell.lst l)) (LF (f:=fun x:Str=>x++("\n":Str)) (g:=PV.str)).symm),gU (B:=131) (fun y hy=>?_) ?_,.app rfl ?_⟩
  ·obtain⟨z,hz,rfl⟩:=K0.mp hy;rw[av,aW,KN,<-av];have:=gX rok z hz;show z.length+1<=131;omega
  ·have e:(Str.ofString "").length=0:=rfl;rw[e];simp only[List.length_map];omega
  ·rw[CC (by simp[bL])];exact .inl (k qs s h1 hq so)
theorem Jz {a:Str}:aG [a,b]=a++(" ":Str)++b:=by unfold aG;rw[cj];rfl
theorem IK {a:Str}:aG [a,b,c,d]=a++(" ":Str)++b++(" ":Str)++c++(" ":Str)++d:=by unfold aG;rw[cj];refine eC ?_;show ((a++(" ":Str))++((b++(" ":Str))++((c++(" ":Str))++d))).cps.toList=_;simp only[aW,List.append_assoc]
theorem IA {a:Str}{w:List Str}(h:w≠[]):aG (a::w)=a++(" ":Str)++aG w:=by
 cases w with
 | nil=>exact absurd rfl h
 | cons b r=>unfold aG;rw[cj,cj];rfl
theorem JS:("end ":Str)=("end":Str)++(" ":Str):=by decide +kernel
theorem J3:("tie ":Str)=("tie":Str)++(" ":Str):=by decide +kernel
theorem Jn:("ride ":Str)=("ride":Str)++(" ":Str):=by decide +kernel
theorem eO (a b:Str):(a++b).length=a.length+b.length:=by rw[av,aW,KN,<-av,<-av]
noncomputable abbrev gI:Ss:=(.cons (.set (.tup (.cons (.name 6) (.cons (.name 7) (.cons (.name 8) .nil)))) (.ix (.var 3) (.var 5))) (.cons (.expr (.met .append (.var 4) (.cons (.bin .Add (.bin .Add (.bin .Add (.bin .Add (.bin .Add (.str "tie ") (.var 5)) (.str " ")) (.var 6)) (.str " ")) (.var 7)) .nil))) (.cons (.set (.name 4) (.bin .Add (.var 4) (.comp (.bin .Add (.str "ride ") (.tmp (.smx .join (.str " ") (.comp (.call 33 (.cons (.var 0) .nil)) (.name 0) (.seq (.var 0)) .nil ["_law_one"] [])))) (.name 0) (.seq (.var 8)) .nil ["_law_ride_here"] []))) .nil)))
theorem rS {as st Q}(h:fZ as st Q):aw Γ dQ (frame 9 as) st (ah st Q):=by
 obtain⟨e,ws,d,ps,rfl,hd,hN,k⟩:=h;have dl:=au hd;have pl:=hN.pl;have wok:=mO hN.wl hN.wn;have el:=hN.fe.word.1;unfold dQ;refine aP (fun ρ s=>st=s/\ρ=[some (bG e ws d),some (fr e),some (.tup (sV ws)),some (.ref d),none,none,none,none,none]) (by walk_at "WPN") ?_;rintro _ _ ⟨rfl,rfl⟩;obtain⟨P,hP⟩:∃P:Fr->AH->Prop,P=fun ρ s=>∃n,Pre st s/\st.length<=n/\s[n]?=some (.lst (sV ((bL e ws []).map aG)))/\ρ=[some (bG e ws d),some (fr e),some (.tup (sV ws)),some (.ref d),some (.ref n),none,none,none,none]:=⟨_,rfl⟩;refine aP P ?_ ?_
 ·walk_at "WPN";refine⟨e,rfl,hN.fe,?_⟩;walk_at "WPN";refine ⟨by show 4+(ftp e).length<=100000;omega,by rw [KH];have:=hN.wl;omega,"waits"::ws,aq (by rw [cO (k:=2)];rfl),wok.jok,?_⟩;rw[hP];refine⟨_,Pre.refl.app,M5 _ _,?_,rfl⟩;rw [cO (k:=3),show (Str.ofString "end "++ftp e)=aG ["end",ftp e] by rw [Jz];exact LG (·++ ftp e) JS];rfl
 rw[hP];rintro _ s ⟨n,h1,nl,h2,rfl⟩;obtain⟨P,hP⟩:∃P:Fr->AH->Prop,P=fun ρ s=>∃(qs:List (Str × Te)) (n:Nat) (x y z w:Option PV),qs.Perm ps/\SoK qs/\Pre st s/\s[n]?=some (.lst (sV ((bL e ws qs).map aG)))/\ρ=[some (bG e ws d),some (fr e),some (.tup (sV ws)),some (.ref d),some (.ref n),x,y,z,w]:=⟨_,rfl⟩;refine aP P ?_ ?_
 ·walk_at "WPN";refine⟨_,.inl (h1.get hd),ps.map (·.1),by simp[kd,pv],by simp;omega,fun ss hp hs=>?_⟩;obtain⟨qs,hq,rfl⟩:=fk hp;have so:SoK qs:=va hs (hp.nodup_iff.mpr hN.nd);have hN':=hN.perm hq;refine⟨_,ag get_last,?_⟩;obtain⟨I,hI⟩:∃I:Nat->Fr->AH->Prop,I=fun i ρ s'=>∃(n:Nat) (x y z w:Option PV),Pre st s'/\st.length<=n/\n≠s.length/\s'[n]?=some (.lst (sV ((bL e ws (qs.take i)).map aG)))/\s'[s.length]?=some (.lst (sV (qs.map (·.1))))/\ρ=[some (bG e ws d),some (fr e),some (.tup (sV ws)),some (.ref d),some (.ref n),x,y,z,w]:=⟨_,rfl⟩;refine fc Γm I (by rw[hI];exact⟨n,_,_,_,_,h1.app,nl,K6 (au h2),bj h2,get_last,rfl⟩) ?_ ?_
  ·rintro i v ρ s' hi z;rw[hI] at z;obtain⟨n,x,y,z,w,g1,nl,ns,g2,g3,rfl⟩:=z;rw[KM,KM] at hi;obtain⟨z,hz,rfl⟩:=K4.mp hi;obtain⟨q,hq',rfl⟩:=K4.mp hz;have qm:=hq.mem_iff.mp (KJ hq');have tok:=hN.pt q qm;have zl:=(hN.pn q qm).len;have al:=tok.a.len;have bl:=tok.b.len;have rl:=tok.len;have l1:=oy (e:=e) (ws:=ws) hN' i;refine⟨by rw[ba];exact g3.trans get_last.symm,?_⟩;rw[dr];obtain⟨D,hD⟩:∃D:aX,D=LD (I (i+1)) (nxE P):=⟨_,rfl⟩;rw[<-hD];show aw Γ gI [some (bG e ws d),some (fr e),some (.tup (sV ws)),some (.ref d),some (.ref n),some (.str q.1),y,z,w] s' D;unfold gI;refine aP (fun ρ t=>s'=t/\ρ=[some (bG e ws d),some (fr e),some (.tup (sV ws)),some (.ref d),some (.ref n),some (.str q.1),some (.str q.2.a),some (.str q.2.b),some (.tup (q.2.rs.map rdV))]) ?_ ?_
   ·walk_at "WPN";refine⟨_,.inl (g1.get hd),_,qi hN.nd qm,_,rfl,rfl,?_⟩;walk_at "WPN"
   rintro _ _ ⟨rfl,rfl⟩;refine aP (fun ρ t=>t=s'.set n (.lst (sV ((bL e ws (qs.take i)++[i9 q.1 q.2]).map aG)))/\ρ=[some (bG e ws d),some (fr e),some (.tup (sV ws)),some (.ref d),some (.ref n),some (.str q.1),some (.str q.2.a),some (.str q.2.b),some (.tup (q.2.rs.map rdV))]) ?_ ?_
   ·walk_at "WPN";have e4:(Str.ofString "tie ").length=4:=rfl;have e1:(Str.ofString " ").length=1:=rfl;refine⟨⟨_,aq g2⟩,by omega,by rw[eO];omega,by simp only[eO];omega,by simp only[eO];omega,by simp only[eO];omega,_,g2,by simp only[List.length_map];omega,?_⟩;rw[LA,sV,sV,LA];have:Str.ofString "tie "++q.1++Str.ofString " "++q.2.a++Str.ofString " "++q.2.b=aG (i9 q.1 q.2):=by unfold i9;rw[IK,J3]
    rw[this];rfl
   rintro _ _ ⟨rfl,rfl⟩;generalize hT:s'.set n (.lst (sV ((bL e ws (qs.take i)++[i9 q.1 q.2]).map aG)))=t;have t1:Pre st t:=by rw[<-hT];exact g1.setN nl
   have t2:t[n]?=some (.lst (sV ((bL e ws (qs.take i)++[i9 q.1 q.2]).map aG))):=by rw[<-hT];exact K1 (au g2)
   have t3:t[s.length]?=some (.lst (sV (qs.map (·.1)))):=by rw[<-hT,K5 ns];exact g3
   rw[hD];walk_at "WPN";refine⟨by rw[KH];omega,gu (xs:=q.2.rs) rdV (fun r=>.str (aG (jz r))) trivial (fun r hr K kk=>?_) ?_⟩
   ·have rok:=tok.rs r hr;have wo:=p9 rok;walk_at "WPN";refine⟨by decide,gu (xs:=[r.a,r.b,r.c,r.d]) fr (fun p=>.str (ftp p)) trivial (fun p hp K kk=>?_) ?_⟩
    ·walk_at "WPN";refine⟨p,rfl,?_,kk⟩;simp only[List.mem_cons,List.not_mem_nil,or_false] at hp;rcases hp with rfl|rfl|rfl|rfl
     ·exact rok.a
     ·exact rok.b
     ·exact rok.c
     ·exact rok.d
    ·have wl:=wo.line;have le:aG (jz r)=Str.ofString "ride "++Txt.join " " [ftp r.a,ftp r.b,ftp r.c,ftp r.d]:=by show aG ("ride"::[ftp r.a,ftp r.b,ftp r.c,ftp r.d])=_;rw [IA (a:="ride") (w:=[ftp r.a,ftp r.b,ftp r.c,ftp r.d]) (by simp),<-Jn];rfl
     refine⟨[ftp r.a,ftp r.b,ftp r.c,ftp r.d],aq get_last,gU (B:=25) (fun y hy=>wo.len y (KL _ hy)) (by show 4*25+4*1<=_;decide),.app rfl ?_⟩;rw[le,eO] at wl;refine⟨by omega,?_⟩;rw[<-le];exact kk
   ·have l2:(sV ((bL e ws (qs.take i)++[i9 q.1 q.2]).map aG)).length<=93:=by simp only[List.length_map,List.length_append,List.length_singleton];omega
    refine⟨_,bj t2,by simp only[List.length_map] at l2 |-;omega,?_⟩;rw[hI];refine⟨_,_,_,_,_,t1.app,?_,?_,?_,bj t3,rfl⟩
    ·have:=t1.len;omega
    ·have:=au t3;omega
    ·rw[dI,oY hq'];simp[fu,sV]
  ·rintro ρ s' z;rw[hI] at z;obtain⟨n,x,y,z,w,g1,nl,ns,g2,g3,rfl⟩:=z;rw[show (sV (qs.map (·.1))).length=qs.length by simp,LR] at g2;refine⟨by rw[ba];exact g3.trans get_last.symm,?_⟩;show P _ _;rw[hP];exact⟨qs,n,x,y,z,w,hq,so,g1,g2,rfl⟩
 rw[hP];rintro _ s ⟨qs,n,x,y,z,w,hq,so,h1,h2,rfl⟩;have hN':=hN.perm hq;obtain⟨rok,rl⟩:=qf hN';obtain⟨jo,jl⟩:=tW rok rl;walk_at "WP";refine⟨_,aq h2,jo,?_⟩;exact⟨by show _+1<=100000;omega,.inl (k qs s h1 hq so)⟩
theorem vM {A B:Prop}(h:B):eqW st (.str z) (.str z) fun k=>if k=false then A else B:=by
 show if decide (z=z)=false then A else B
 rw[KS (by simp)];exact h
theorem DA {A B:Prop}(h:A):eqW st (.str z) (.str z) fun k=>if k=true then A else B:=by
 show if decide (z=z)=true then A else B
 rw[KZ (by simp)];exact h
theorem IC {z y:Str}{A B:Prop}(ne:z≠y)(h:B):eqW st (.str z) (.str y) fun k=>if k=true then A else B:=by
 show if decide (z=y)=true then A else B
 rw[KS (by simpa using ne)];exact h
theorem Gg:(PV.tup (sV ws)).bel k=true:=by rw[PV.bel];refine qM fun x hx=>?_;obtain⟨z,_,rfl⟩:=K0.mp hx;rw[PV.bel]
theorem Gu {z:Str}:il (z++("\n":Str)) none (some (-1))=z:=by
 have hl:(z++("\n":Str)).length=z.length+1:=eO _ _;have e:Builtin.Str.strSliceIndices none (some (-1)) 1 (z++("\n":Str)).length=Builtin.Str.strSliceIndices (some ((0:Nat):Int)) (some (z.length:Int)) 1 (z++("\n":Str)).length:=by
  unfold Builtin.Str.strSliceIndices;rw[hl];have e1:max 0 (min (if ((0:Nat):Int)<0 then ((0:Nat):Int)+((z.length+1:Nat):Int) else ((0:Nat):Int)) ((z.length+1:Nat):Int))=0:=by omega
  have e2:(if (-1:Int)<0 then -1+((z.length+1:Nat):Int) else -1)=(if (z.length:Int)<0 then (z.length:Int)+((z.length+1:Nat):Int) else (z.length:Int)):=by rw[KZ (by decide),KS (by omega)];omega
  simp only[show (1:Int) > 0 by decide,if_true,e1,e2]
 unfold il;rw[e,PySem.StrLaws.sliced_plain _ (LU _) (by omega),PySem.StrLaws.strSliceIndices_plain (LU _) (by omega),KS (by rw[hl];simp)];refine eC ?_;rw[aW,MX,Nat.sub_zero,av z,N0]
theorem Ci {z:Str}:Txt.endswith (z++("\n":Str)) "\n"=true:=by have hl:(z++("\n":Str)).length=z.length+1:=eO _ _;have h1:(Str.ofString "\n").length=1:=rfl;unfold Txt.endswith;rw[hl,h1,PySem.StrLaws.subAt_eq,aW,Nat.add_sub_cancel,av z,List.drop_left];simp;rfl
theorem t8 {as st Q}(h:c8 as st Q):aw Γ fh (frame 1 as) st (ah st Q):=by obtain⟨n,e,rfl,hn,he,k⟩:=h;unfold fh;walk_at "WP";refine⟨_,ag hn,?_⟩;rw[KS (fun z=>z rfl)];exact⟨_,ag hn,_,f',vM ⟨_,ag hn,_,gE,e,rfl,he,.inl k⟩⟩
theorem qo {as st Q}(h:bS as st Q):aw Γ c_ (frame 1 as) st (ah st Q):=by obtain⟨n,ws,rfl,hn,hl,k⟩:=h;unfold c_;walk_at "WP";refine⟨_,ag hn,_,f',vM ⟨_,aq hn,?_⟩⟩;rw[GN];exact⟨_,ag get_last,.app Gg (.inl k)⟩
def TS (qs:List (Str × Te))(i:Nat)(acc:List (Str × Te))(nm:Str):Prop :=
 (i=0/\acc=[]/\nm="")\/∃pre q rest k,qs=pre++q::rest/\k<=q.2.rs.length/\i=(bJ pre).length+1+k/\acc=pre++[(q.1,⟨q.2.a,q.2.b,q.2.rs.take k⟩)]/\nm=q.1
theorem jM {a b:List (Str × Te)}:bJ (a++b)=bJ a++bJ b:=by simp[bJ]
theorem bZ {q:Str × Te}{b:List (Str × Te)}:bJ (q::b)=fu q++bJ b:=rfl
theorem TS.fin (h:TS qs (bJ qs).length acc nm):acc=qs:=by
 rcases h with⟨h,rfl,_⟩|⟨pre,q,rest,k,rfl,hk,hi,rfl,rfl⟩
 ·cases qs with
  | nil=>rfl
  | cons q r=>rw[bZ,KN] at h;simp[fu] at h
 ·rw[jM,bZ,KN,KN] at hi;have e:(fu q).length=1+q.2.rs.length:=by simp[fu];omega
  have hr:(bJ rest).length=0:=by omega
  have hk:k=q.2.rs.length:=by omega
  cases rest with
  | nil=>subst hk;rw[LR]
  | cons q' r=>rw[bZ,KN] at hr;simp[fu] at hr
theorem GO (h:Nm z):Lt "" z:=by
 have:=h.pos;rw[av] at this;show tl ""<tl z;have e:tl ""=[]:=rfl;rw[e];cases q:tl z with
 | nil=>rw[show z.cps.toList=[] from q] at this;cases this
 | cons x r=>exact List.nil_lt_cons ..
theorem TS.next {qs:List (Str × Te)}(hN:∀q∈qs,Nm q.1)(so:SoK qs)(h:TS qs i acc nm)(hw:(bJ qs)[i]?=some w) :
  (∃pre q rest,qs=pre++q::rest/\w=i9 q.1 q.2/\acc=pre/\Lt nm q.1/\i=(bJ pre).length)\/∃pre q rest k r,qs=pre++q::rest/\q.2.rs[k]?=some r/\w=jz r/\i=(bJ pre).length+1+k/\acc=pre++[(q.1,⟨q.2.a,q.2.b,q.2.rs.take k⟩)]/\nm=q.1:=by
 rcases h with⟨rfl,rfl,rfl⟩|⟨pre,q,rest,k,rfl,hk,hi,rfl,rfl⟩
 ·cases qs with
  | nil=>cases hw
  | cons q r =>refine .inl ⟨[],q,r,rfl,?_,rfl,GO (hN q KP),rfl⟩;rw[bZ] at hw;exact(LL hw).symm
 ·rw[jM,bZ,hi,Nat.add_assoc,K8 (M5 _ _),Nat.add_sub_cancel_left] at hw;by_cases hk':k<q.2.rs.length
  ·have e:=KU hk';refine .inr ⟨pre,q,rest,k,q.2.rs[k],rfl,e,?_,hi,rfl,rfl⟩;rw[K3 (by simp[fu];omega),Nat.add_comm 1 k,fu,List.getElem?_cons_succ,KM,e] at hw;exact(LL hw).symm
  ·have hk:k=q.2.rs.length:=by omega
   have e:(fu q).length=1+q.2.rs.length:=by simp[fu];omega
   rw[K8 (by omega),e,hk,OE] at hw;cases rest with
   | nil=>cases hw
   | cons q' r =>
    rw[bZ] at hw;refine .inl ⟨pre++[q],q',r,by simp,(LL hw).symm,?_,?_,?_⟩
    ·rw[hk,LR]
    ·unfold SoK at so;rw[LA,KG,KG] at so;have:=(List.pairwise_append.mp so).2.1;exact(NA.mp this).1 _ KP
    ·rw[jM,KN,bZ,KN,e];show i=_+(_+0);omega
theorem Ey (h:SoK qs):(qs.map (·.1)).Nodup:=List.Pairwise.imp (fun {a b} (z:Lt a b) e=>by subst e;exact absurd z (List.lt_irrefl _)) h
theorem yn {pre:List (Str × Te)}{z:Str}(h:z ∉ pre.map (·.1)):kY (kd (pv (pre++[(z,t)]))) (.inr z) (teV t')=kd (pv (pre++[(z,t')])):=by
 rw[yC (by rw[iZ];simp)];have e:(pv (pre++[(z,t)])).map (fun p=>if p.1=z then (p.1,teV t') else p)=pv (pre++[(z,t')]):=by
  rw[pv,pv,LF,LA,LA];congr 1
  ·refine MU fun p hp=>?_;show (if p.1=z then (p.1,teV t') else (p.1,teV p.2))=(p.1,teV p.2);rw[KS (fun e=>h (by rw[<-e];exact K0.mpr ⟨p,hp,rfl⟩))]
  ·simp
 rw[e]
theorem ue {α:Type}{xs:List α}{i:Nat}{x:α}(h:xs[i]?=some x):i<xs.length:=(KR.mp h).1
theorem mD {s g:AH}{ms:List Nat}{R:List (List Str)}(h:ms.map (fun m=>s[m]?)=R.map (fun w=>some (Cell.lst (sV w)))):ms.map (fun m=>(s++g)[m]?)=R.map (fun w=>some (Cell.lst (sV w))):=by rw[<-h];refine MU fun m hm=>?_;have:s[m]?∈ms.map (fun m=>s[m]?):=K0.mpr ⟨m,hm,rfl⟩;rw[h] at this;obtain⟨w',_,e'⟩:=K0.mp this;rw[<-e'];exact bj e'.symm
theorem J' {L:List PV}(h:2<=L.length):iJ L (some 2) none=L.drop 2:=by unfold iJ;have:=HT.sIx_nat L.length 0 2;rw[show ((2:Nat):Int)=(2:Int) from rfl] at this;rw[HT.sIx_none,this,OL h];exact L4 (by simp)
noncomputable abbrev rF (n d:Nat)(nm:Str)(x a b c:Option PV):Fr:=[some (.ref n),some (.ref d),some (.str nm),x,a,b,c]
def RI (st:AH)(n:Nat)(qs:List (Str × Te))(i:Nat)(ρ:Fr)(s:AH):Prop:=∃(acc:List (Str × Te)) (nm:Str) (x a b c:Option PV),Pre st s/\TS qs i acc nm/\s[st.length]?=some (.dk (kd (pv acc)))/\ρ=rF n st.length nm x a b c
theorem F7 {st:AH}{ms:List Nat}{R:List (List Str)}{i m:Nat}(h:ms.map (fun m=>st[m]?)=R.map (fun w=>some (Cell.lst (sV w))))(e:ms[i]?=some m):∃w,R[i]?=some w/\st[m]?=some (.lst (sV w)):=by
 have:=LG (fun l=>l[i]?) h;simp only[List.getElem?_map,e,Option.map_some] at this;cases q:R[i]? with
 | none=>rw[q] at this;cases this
 | some w=>rw[q] at this;exact⟨w,rfl,LL this⟩
theorem tU {as st Q}(h:cu as st Q):aw Γ dW (frame 7 as) st (ah st Q):=by
 obtain⟨n,ms,qs,rfl,hn,hr,hN,hT,so,ql,k⟩:=h;unfold dW;refine aP (fun ρ s=>s=st++[.dk []]/\ρ=[some (.ref n),some (.ref st.length),none,none,none,none,none]) (by walk_at "WPN") ?_;rintro _ _ ⟨rfl,rfl⟩;refine aP (fun ρ s=>s=st++[.dk []]/\ρ=rF n st.length "" none none none none) (by walk_at "WPN") ?_;rintro _ _ ⟨rfl,rfl⟩;have ml:=LG List.length hr;simp only[List.length_map] at ml;refine aP (fun ρ s=>RI st n qs (bJ qs).length ρ s) ?_ ?_
 ·walk_at "WPN";refine⟨_,ag (bj hn),?_⟩;refine fc Γm (RI st n qs) ⟨[],"",none,none,none,none,Pre.refl.app,.inl ⟨rfl,rfl,rfl⟩,get_last,rfl⟩ ?_ ?_
  ·rintro i v ρ s hi ⟨acc,nm,x,a,b,c,g1,ts,g2,rfl⟩;rw[KM] at hi;obtain⟨m,hm,rfl⟩:=K4.mp hi;obtain⟨w,hw,em⟩:=F7 hr hm;refine⟨by rw[ba];exact(g1.get hn).trans (bj hn).symm,?_⟩;have em:=g1.get em;have ml':=au em;rcases ts.next hN so hw with⟨pre,q,rest,rfl,rfl,rfl,lt,ei⟩|⟨pre,q,rest,kk,r,rfl,er,rfl,ei,rfl,rfl⟩
   ·walk_at "WPN";refine⟨_,ag em,_,f',DA ⟨_,ag em,?_⟩⟩;rw[KZ (show ((sV (i9 q.1 q.2)).length:Int)=4 from rfl)];refine⟨_,ag em,_,gE,?_⟩;show di .Gt (.str q.1) (.str nm) s _;rw[Ah];refine⟨_,rfl,?_⟩;rw[KZ (LH (show nm.cps.toList<q.1.cps.toList from lt))];refine⟨_,ag em,_,gE,_,ag em,_,sA,_,ag em,_,tK,_,g2,by rw[KN] at ql;simp;omega,?_⟩;have nd:=Ey so;rw[LA,KG,L8] at nd;have zn:q.1 ∉ acc.map (·.1):=fun h=>nd.2.2 _ h _ KP rfl;have dk:=vU (ps:=pv acc) (z:=q.1) (v:=teV ⟨q.2.a,q.2.b,[]⟩) (by rw[iZ];exact zn);rw[vA] at dk;refine⟨acc++[(q.1,⟨q.2.a,q.2.b,[]⟩)],q.1,_,_,_,_,g1.setN (KF _),.inr ⟨acc,q,rest,0,rfl,LU _,by rw[ei],by rw[OU],rfl⟩,?_,rfl⟩;rw[<-dk];exact K1 (au g2)
   ·have nd:=Ey so;rw[LA,KG,L8] at nd;have zn:q.1 ∉ pre.map (·.1):=fun h=>nd.2.2 _ h _ KP rfl;have qm:q∈pre++q::rest:=by simp
    have rok:=(hT q qm).rs r (KJ er);have n0:¬q.1=Str.ofString "":=fun e=>by have:=(hN q qm).pos;rw [e] at this;exact absurd this (by decide +kernel)
    have dv:=qi (ps:=pre++[(q.1,⟨q.2.a,q.2.b,q.2.rs.take kk⟩)]) (q:=(q.1,⟨q.2.a,q.2.b,q.2.rs.take kk⟩)) (by rw[LA];exact iN nd.1 zn) (by simp);walk_at "WPN";refine⟨_,ag em,_,f',IC (by decide +kernel) ⟨_,ag em,_,f',DA ?_⟩⟩;rw[KZ n0];refine⟨_,.inl g2,_,dv,_,rfl,rfl,?_⟩;walk_at "WPN";have e0:(sV (jz r)).drop 1=[r.a,r.b,r.c,r.d].map (fun p=>PV.str (ftp p)):=rfl;refine⟨_,aq em,?_⟩;rw[GN,e0];refine⟨_,ag get_last,by show 4<100000;decide,gu (xs:=[r.a,r.b,r.c,r.d]) (fun p=>PV.str (ftp p)) fr rfl (fun p hp K kk=>?_) ?_⟩
    ·walk_at "WPN";refine⟨p,rfl,?_,kk⟩;simp only[List.mem_cons,List.not_mem_nil,or_false] at hp;rcases hp with rfl|rfl|rfl|rfl
     ·exact rok.a
     ·exact rok.b
     ·exact rok.c
     ·exact rok.d
    ·refine⟨_,ag get_last,?_⟩;rw[MD];have tl8:=(hT q qm).len;rw[KN,LI] at ql;have pl:=yn (t:=⟨q.2.a,q.2.b,q.2.rs.take kk⟩) (t':=⟨q.2.a,q.2.b,q.2.rs.take (kk+1)⟩) zn;refine .app zf ⟨by rw[KH,MI];omega,_,g2,by simp;omega,pre++[(q.1,⟨q.2.a,q.2.b,q.2.rs.take (kk+1)⟩)],q.1,_,_,_,_,g1.setN (KF _),.inr ⟨pre,q,rest,kk+1,rfl,ue er,by omega,rfl,rfl⟩,?_,rfl⟩;rw[<-pl];have e1:List.map rdV (q.2.rs.take kk)++[PV.tup ([r.a,r.b,r.c,r.d].map fr)]=(q.2.rs.take (kk+1)).map rdV:=by rw[LS,er,LA];rfl
     rw[e1];exact K1 (au g2)
  ·rintro ρ s h;refine⟨by obtain⟨acc,nm,x,a,b,c,g1,ts,g2,rfl⟩:=h;rw[ba];exact(g1.get hn).trans (bj hn).symm,?_⟩;rw[KH,ml] at h;exact h
 rintro _ s ⟨acc,nm,x,a,b,c,g1,ts,g2,rfl⟩;rw[ts.fin] at g2;walk_at "WP";exact .inl (k _ _ g1 (KF _) g2)
theorem u6 {as st Q}(h:c4 as st Q):aw Γ eU (frame 3 as) st (ah st Q):=by
 obtain⟨e,ws,qs,rfl,hN,so,k⟩:=h;obtain⟨rok,rl⟩:=qf hN;obtain⟨jo,jl⟩:=tW rok rl;unfold eU;refine aP (fun ρ s=>st=s/\ρ=[some (.str (iK e ws qs)),none,none]) ?_ ?_
 ·walk_at "WPN";refine du rfl ⟨st,[],(M9 _).symm,rfl,fun _ _=>.inl rfl,by rw[PV.bel],?_⟩;rw [show Txt.endswith (iK e ws qs) (Str.ofString "\n")=true from Ci];walk_at "WPN"
 rintro _ _ ⟨rfl,rfl⟩;obtain⟨P,hP⟩:∃P:Fr->AH->Prop,P=fun ρ s=>∃(n:Nat) (ms:List Nat),Pre st s/\s[n]?=some (.lst (ms.map PV.ref))/\ms.map (fun m=>s[m]?)=(bL e ws qs).map (fun w=>some (Cell.lst (sV w)))/\ρ=[some (.str (iK e ws qs)),some (.ref n),none]:=⟨_,rfl⟩;refine aP P ?_ ?_
 ·walk_at "WPN";have tl1:(iK e ws qs).length<=12053:=by have:(iK e ws qs).length=_:=eO _ _;rw[this];show _+1<=_;omega
  have ct:il (iK e ws qs) none (some (-1))=Txt.join "\n" ((bL e ws qs).map aG):=Gu;have sp:Txt.split (Txt.join "\n" ((bL e ws qs).map aG)) "\n"=(bL e ws qs).map aG:=by rw[cj];refine lI (y:="\n") (c:=10) (ys:=[]) rfl (by decide +kernel) (by simp [bL]) fun p hp=>?_;obtain⟨w,hw,rfl⟩:=K0.mp hp;exact(rok w hw).nl
  rw[ct,sp];refine⟨by omega,by decide +kernel,by omega,by rw[KH];omega,_,ag get_last,by simp only[List.length_map];omega,?_⟩;refine cM Γm (fun i acc s=>∃ms:List Nat,acc=ms.map PV.ref/\Pre (st++[.lst (sV ((bL e ws qs).map aG))]) s/\ms.map (fun m=>s[m]?)=((bL e ws qs).take i).map (fun w=>some (Cell.lst (sV w)))) ⟨[],rfl,Pre.refl,rfl⟩ ?_ ?_
  ·rintro i v acc s hi ⟨ms,rfl,g1,g2⟩;rw[KM,KM] at hi;obtain⟨z,hz,rfl⟩:=K4.mp hi;obtain⟨w,hw,rfl⟩:=K4.mp hz;have wo:=rok w (KJ hw);refine⟨by rw[ba];exact(g1.get get_last).trans get_last.symm,?_⟩;walk_at "WPN";rw[wo.split];refine⟨by decide +kernel,by have:=wo.line;omega,by have:=wo.l5;omega,ms++[s.length],by simp,g1.app,?_⟩;rw[LA,LS,hw,LA,mD g2];simp only[List.map_cons,List.map_nil,Option.toList_some];rw[get_last]
  ·rintro acc s ⟨ms,rfl,g1,g2⟩;rw[show (sV ((bL e ws qs).map aG)).length=(bL e ws qs).length by simp,LR] at g2;refine⟨by rw[ba];exact(g1.get get_last).trans get_last.symm,?_⟩;rw[hP];exact⟨s.length,ms,(Pre.refl.app.trans g1).app,get_last,mD g2,rfl⟩
 rw[hP];rintro _ s ⟨n,ms,h1,h2,h3,rfl⟩;have ml:=LG List.length h3;simp only[List.length_map] at ml;refine aP (fun ρ s'=>s=s'/\ρ=[some (.str (iK e ws qs)),some (.ref n),none]) ?_ ?_
 ·walk_at "WPN";refine⟨_,ag h2,?_⟩;rw[KS (by rw[KH,ml];simp only[bL,List.length_cons];omega)];trivial
 rintro _ _ ⟨rfl,rfl⟩;refine aP (fun ρ s'=>∃d,Pre st s'/\st.length<=d/\s'[d]?=some (.dk (kd (pv qs)))/\ρ=[some (.str (iK e ws qs)),some (.ref n),some (bG e ws d)]) ?_ ?_
 ·walk_at "WPN";obtain⟨m0,m1,ms,rfl⟩:∃m0 m1 ms',ms=m0::m1::ms':=by
   match ms,ml with
   | [],ml=>cases ml
   | [_],ml=>cases ml
   | m0::m1::ms,_=>exact⟨m0,m1,ms,rfl⟩
  simp only[bL,List.map_cons,List.cons.injEq] at h3;obtain⟨e0,e1,e2⟩:=h3;refine⟨_,ag h2,_,f',m0,e,rfl,e0,hN.fe,_,ag h2,_,gE,m1,ws,rfl,e1,hN.wl,_,aq h2,?_⟩;rw[J' (by simp)];refine⟨s.length,ms,qs,rfl,get_last,mD e2,hN.pn,hN.pt,so,hN.pl,fun d s' p dl g=>⟨h1.app.trans p,d,?_,g,rfl,rfl,rfl⟩⟩;have:=h1.len;rw[KN] at dl;omega
 rintro _ s' ⟨d,g1,dl,g2,rfl⟩;walk_at "WP";refine⟨e,ws,d,qs,rfl,g2,hN,?_⟩;walk_at "WP";exact .inl (k d s' g1 dl g2)
open PySem L2 HX FW
structure Gd (w k:Nat)(d:PyData):Prop where
 sh:d.showable=true
 lv:d.leavesShort 13=true
 bk:d.bulk<=w
 dp:d.depth<=k
theorem Gd.up {w' k':Nat}(h:Gd w k d)(h1:w<=w')(h2:k<=k'):Gd w' k' d:=⟨h.sh,h.lv,K_ h.bk h1,K_ h.dp h2⟩
theorem Gd.int {i:Int}(h:i.natAbs<10 ^ 12):Gd 9 0 (.int i):=by
 refine⟨?_,?_,by simp[PyData.bulk],by simp[PyData.depth]⟩
 ·rw[PyData.showable];refine LH ?_;by_cases z:i.natAbs=0
  ·rw[z];decide
  ·rw[NR z];exact NH h (by decide +kernel)
 ·rw[PyData.leavesShort];exact LH (PyData.shown_int_le h)
theorem Gd.str {z:Str}(h:z.length<=9)(o:PyData.strOk z=true):Gd 9 0 (.str z):=by refine⟨by simp[PyData.showable],?_,by rw[PyData.bulk];exact h,by simp[PyData.depth]⟩;rw[PyData.leavesShort,List.all_eq_true];intro c hc;have:z.cps.all (fun c=>decide (c<0x110000))=true:=o;rw[Array.all_eq_true_iff_forall_mem] at this;have:=MM (this c (M1.mp hc));exact LH (by omega)
theorem Gd.all:∀ {ds:List PyData},(∀d∈ds,Gd w k d)->PyData.showableAll ds=true/\PyData.leavesShortAll 13 ds=true/\PyData.bulkAll ds<=ds.length*(w+1)/\PyData.depthAll ds<=k
 | [],_=>⟨by rw[PyData.showableAll],by rw[PyData.leavesShortAll],by rw[PyData.bulkAll];exact LU _,by rw[PyData.depthAll];exact LU _⟩
 | d::ds,h=>by obtain⟨a,b,c,e⟩:=Gd.all fun x hx=>h x (KL _ hx);have g:=h d KP;have gb:=g.bk;have gd:=g.dp;refine⟨by rw[PyData.showableAll,g.sh,a];rfl,by rw[PyData.leavesShortAll,g.lv,b];rfl,?_,by rw[PyData.depthAll];omega⟩;rw[PyData.bulkAll,LI,O0];omega
theorem Gd.kv:∀ {es ds:List PyData},(∀d∈es,Gd 9 k d)->(∀d∈ds,Gd w k d)->PyData.showableKv (es.zip ds)=true/\PyData.leavesShortKv 13 (es.zip ds)=true/\PyData.bulkKv (es.zip ds)<=es.length*(w+11)/\PyData.depthKv (es.zip ds)<=k
 | [],ds,_,_=>by rw[List.zip_nil_left];exact⟨by rw[PyData.showableKv],by rw[PyData.leavesShortKv],by rw[PyData.bulkKv];exact LU _,by rw[PyData.depthKv];exact LU _⟩
 | e::es,[],_,_=>by rw[List.zip_nil_right];exact⟨by rw[PyData.showableKv],by rw[PyData.leavesShortKv],by rw[PyData.bulkKv];exact LU _,by rw[PyData.depthKv];exact LU _⟩
 | x::es,d::ds,h1,h=>by obtain⟨a,b,c,e⟩:=Gd.kv (fun y hy=>h1 y (KL _ hy)) fun y hy=>h y (KL _ hy);have g:=h d KP;have g':=h1 x KP;have gb:=g.bk;have gd:=g.dp;have gb':=g'.bk;have gd':=g'.dp;rw[List.zip_cons_cons];refine⟨by rw[PyData.showableKv,g'.sh,g.sh,a];rfl,by rw[PyData.leavesShortKv,g'.lv,g.lv,b];rfl,?_,by rw[PyData.depthKv];omega⟩;rw[PyData.bulkKv,LI,O0];omega
theorem Gd.tup {n w':Nat}{ds:List PyData}(l:ds.length<=n)(h:∀d∈ds,Gd w k d)(hw:n*(w+1)+9<=w'):Gd w' (k+1) (.tuple ds):=by obtain⟨a,b,c,e⟩:=Gd.all h;have:=MN (w+1) l;exact⟨by rw[PyData.showable,a],by rw[PyData.leavesShort,b],by rw[PyData.bulk];omega,by rw[PyData.depth];omega⟩
theorem Gd.lst {n w':Nat}{ds:List PyData}(l:ds.length<=n)(h:∀d∈ds,Gd w k d)(hw:n*(w+1)+9<=w'):Gd w' (k+1) (.list ds):=by obtain⟨a,b,c,e⟩:=Gd.all h;have:=MN (w+1) l;exact⟨by rw[PyData.showable,a],by rw[PyData.leavesShort,b],by rw[PyData.bulk];omega,by rw[PyData.depth];omega⟩
theorem Gd.dct {n w':Nat}{es ds:List PyData}(l:es.length<=n)(h1:∀d∈es,Gd 9 k d)(h:∀d∈ds,Gd w k d)(hw:n*(w+11)+9<=w'):Gd w' (k+1) (.dict (es.zip ds)):=by obtain⟨a,b,c,e⟩:=Gd.kv h1 h;have:=MN (w+11) l;exact⟨by rw[PyData.showable,a],by rw[PyData.leavesShort,b],by rw[PyData.bulk];omega,by rw[PyData.depth];omega⟩
def Sh (w k m:Nat)(v:PV):Prop:=∃d,(∀s j,m<=j->shX s j v=some d)/\Gd w k d
theorem j8:∀ {xs:List PV},(∀x∈xs,Sh w k m x)->∃ds,(∀s j,m<=j->cC (xs.map (shX s j))=some ds)/\ds.length=xs.length/\∀d∈ds,Gd w k d
 | [],_=>⟨[],fun _ _ _=>rfl,rfl,fun d hd=>nomatch hd⟩
 | x::xs,h=>by
  obtain⟨d,hd,g⟩:=h x KP;obtain⟨ds,hs,l,G⟩:=j8 fun y hy=>h y (KL _ hy);refine⟨d::ds,fun s j q=>?_,by rw[LI,l,LI],fun y hy=>?_⟩
  ·rw[KG,hd s j q,cC,hs s j q];rfl
  ·rcases LC.mp hy with rfl|hy
   ·exact g
   ·exact G y hy
theorem Sh.tup {n w':Nat}{xs:List PV}(l:xs.length<=n)(h:∀x∈xs,Sh w k m x)(hw:n*(w+1)+9<=w'):Sh w' (k+1) (m+1) (.tup xs):=by obtain⟨ds,h1,h2,h3⟩:=j8 h;refine⟨.tuple ds,fun s j hj=>?_,Gd.tup (by omega) h3 hw⟩;obtain⟨j,rfl⟩:∃i,j=i+1:=⟨j-1,by omega⟩;rw[shX,h1 s j (by omega)];rfl
theorem Sh.up {w' k' m':Nat}(h:Sh w k m v)(h1:w<=w')(h2:k<=k')(h3:m<=m'):Sh w' k' m' v:=by obtain⟨d,a,b⟩:=h;exact⟨d,fun s j hj=>a s j (by omega),b.up h1 h2⟩
theorem Sh.nat {n:Nat}(h:n<10 ^ 12):Sh 9 0 0 (.int n):=⟨.int n,fun s j _=>by rw[shX],Gd.int (by simpa using h)⟩
theorem Sh.nm (h:Nm z):Sh 9 0 0 (.str z):=⟨.str z,fun s j _=>by rw[shX],Gd.str (by have:=h.len;omega) h.ok⟩
theorem Sh.fr (h:Fq p):Sh 29 1 1 (fr p):=.tup (n:=2) (w:=9) (by simp) (fun x hx=>by
 simp only[List.mem_cons,List.not_mem_nil,or_false] at hx;rcases hx with rfl|rfl
 ·exact .nat h.a
 ·exact .nat h.b) (by decide)
theorem Sh.rd (h:ib r):Sh 129 2 2 (rdV r):=.tup (n:=4) (w:=29) (by simp) (fun x hx=>by
 simp only[List.mem_cons,List.not_mem_nil,or_false] at hx;rcases hx with rfl|rfl|rfl|rfl
 ·exact .fr h.a
 ·exact .fr h.b
 ·exact .fr h.c
 ·exact .fr h.d) (by decide)
theorem Sh.te (h:kJ t):Sh 3159 4 4 (teV t):=.tup (n:=3) (w:=1049) (by simp) (fun x hx=>by
 simp only[List.mem_cons,List.not_mem_nil,or_false] at hx;rcases hx with rfl|rfl|rfl
 ·exact(Sh.nm h.a).up (by decide) (by decide) (by decide)
 ·exact(Sh.nm h.b).up (by decide) (by decide) (by decide)
 ·exact .tup (n:=8) (w:=129) (k:=2) (m:=2) (by rw[KH];exact h.len) (fun x hx=>by obtain⟨r,hr,rfl⟩:=K0.mp hx;exact .rd (h.rs r hr)) (by decide)) (by decide)
theorem Sh.ws {ws:List Str}(l:ws.length<=4)(h:∀z∈ws,Nm z):Sh 49 1 1 (.tup (sV ws)):=.tup (n:=4) (w:=9) (by rw[KH];exact l) (fun x hx=>by obtain⟨z,hz,rfl⟩:=K0.mp hx;exact .nm (h z hz)) (by decide)
theorem Sh.pr {p:Str × Te}(hz:Nm p.1)(h:kJ p.2):Sh 6329 5 5 (.tup [.str p.1,teV p.2]):=.tup (n:=2) (w:=3159) (by simp) (fun x hx=>by
 simp only[List.mem_cons,List.not_mem_nil,or_false] at hx;rcases hx with rfl|rfl
 ·exact(Sh.nm hz).up (by decide) (by decide) (by decide)
 ·exact .te h) (by decide)
noncomputable abbrev prV (qs:List (Str × Te)):List PV:=qs.map fun p=>.tup [.str p.1,teV p.2]
theorem Df (hN:NetOk e ws qs):∃z:Str,∀(s:AH) (n m:Nat) (Q:EK),s[n]?=some (.lst [fr e,.tup (sV ws),.ref m])->s[m]?=some (.lst (prV qs))->Q (.str z) s->ph s Q (.ref n):=by
 obtain⟨d1,h1,g1⟩:=Sh.fr hN.fe;obtain⟨d2,h2,g2⟩:=Sh.ws hN.wl hN.wn;obtain⟨ds,h3,l3,g3⟩:=j8 (w:=6329) (k:=5) (m:=5) (xs:=prV qs) fun x hx=>by obtain⟨q,hq,rfl⟩:=K0.mp hx;exact .pr (hN.pn q hq) (hN.pt q hq)
 have gl:Gd 63309 6 (.list ds):=.lst (n:=10) (by rw[l3,KH];exact hN.pl) g3 (by decide);have g:Gd 189939 7 (.list [d1,d2,.list ds]):=.lst (n:=3) (w:=63309) (by simp) (fun d hd=>by
  simp only[List.mem_cons,List.not_mem_nil,or_false] at hd;rcases hd with rfl|rfl|rfl
  ·exact g1.up (by decide) (by decide)
  ·exact g2.up (by decide) (by decide)
  ·exact gl) (by decide)
 refine⟨(PyData.list [d1,d2,.list ds]).shown,fun s n m Q en em q=>⟨_,?_,⟨g.sh,K_ g.dp (by decide),PyData.shown_fits_bulk (B:=13) (by decide) (by decide) g.lv (K_ g.bk (by decide +kernel))⟩,q⟩⟩;rw[shX,en];dsimp only;rw[KG,KG,KG,LW,h1 s 8 (by decide),h2 s 8 (by decide),shX,em];dsimp only;rw[h3 s 7 (by decide)];rfl
theorem Bw (hN:NetOk e ws ps):∃z:Str,∀(s:AH) (d:Nat) (Q:EK),s[d]?=some (.dk (kd (pv ps)))->Q (.str z) s->ph s Q (bG e ws d):=by
 obtain⟨d1,h1,g1⟩:=Sh.fr hN.fe;obtain⟨d2,h2,g2⟩:=Sh.ws hN.wl hN.wn;obtain⟨ds,h3,l3,g3⟩:=j8 (w:=3159) (k:=4) (m:=4) (xs:=(kd (pv ps)).map fun kv=>kv.2) fun x hx=>by simp only[kd,pv,List.map_map,List.mem_map] at hx;obtain⟨q,hq,rfl⟩:=hx;exact .te (hN.pt q hq)
 have gl:Gd 31709 5 (.dict (((kd (pv ps)).map fun kv=>kD kv.1).zip ds)):=.dct (n:=10) (w:=3159) (k:=4) (by simp;exact hN.pl) (fun d hd=>by simp only[kd,pv,List.map_map,List.mem_map] at hd;obtain⟨q,hq,rfl⟩:=hd;exact(Gd.str (by have:=(hN.pn q hq).len;show q.1.length<=9;omega) (hN.pn q hq).ok).up (by decide) (by decide)) g3 (by decide)
 have g:Gd 95139 6 (.tuple [d1,d2,.dict (((kd (pv ps)).map fun kv=>kD kv.1).zip ds)]):=.tup (n:=3) (w:=31709) (by simp) (fun d hd=>by
  simp only[List.mem_cons,List.not_mem_nil,or_false] at hd;rcases hd with rfl|rfl|rfl
  ·exact g1.up (by decide) (by decide)
  ·exact g2.up (by decide) (by decide)
  ·exact gl) (by decide)
 generalize hD:PyData.dict (((kd (pv ps)).map fun kv=>kD kv.1).zip ds)=D at gl g;have fit:(PyData.tuple [d1,d2,D]).showable=true/\(PyData.tuple [d1,d2,D]).depth<=60/\(PyData.tuple [d1,d2,D]).shown.length<=sizeLine:=⟨g.sh,K_ g.dp (by decide),PyData.shown_fits_bulk (B:=13) (by decide) (by decide) g.lv (K_ g.bk (by decide +kernel))⟩;refine⟨(PyData.tuple [d1,d2,D]).shown,fun s d Q ed q=>?_⟩;have e3:shX s 8 (.ref d)=some D:=by have h3:=h3 s 7 (by decide);rw[LF] at h3;rw[shX,ed,<-hD];dsimp only;rw[show (kd (pv ps)).map (fun kv=>shX s 7 kv.2)=(kd (pv ps)).map (shX s 7 ∘ fun kv=>kv.2) from rfl,h3];rfl
 have e4:shX s 9 (bG e ws d)=some (.tuple [d1,d2,D]):=by rw[shX,KG,KG,KG,LW,h1 s 8 (by decide),h2 s 8 (by decide),e3];rfl
 exact⟨_,e4,fit,q⟩
theorem oA {st:AH}{a:Cell}:(st++[a,b])[st.length]?=some a:=by rw[i5];rfl
theorem lX {as st Q}(h:bq as st Q):aw Γ cf (frame 2 as) st (ah st Q):=by
 obtain⟨e,ws,d,ps,d',ps',rfl,hd,hd',hN,hN',pm,k⟩:=h;have pl:=hN.pl;have pl':=hN'.pl;unfold cf;walk_at "WP";have ec:∀qs:List (Str × Te),List.map (fun p:Str × PV=>PV.tup [PV.str p.1,p.2]) (pv qs)=prV qs:=fun qs=>LF;have so_of:∀ {qs:List (Str × Te)},List.Pairwise (fun a b:Str=>a.cps.toList<b.cps.toList) (List.map (fun x=>x.1) (pv qs))->SoK qs:=fun {qs} h=>by rw[iZ] at h;exact h
 refine du rfl ⟨"dict",by simp only [bg,hd],du rfl ⟨_,hd,pv ps,rfl,by simp;omega,fun qs0 pq sq=>?_⟩⟩;obtain⟨qs,hq,rfl⟩:=fk pq;have so:=so_of sq;obtain⟨z,hz⟩:=Df (hN.perm hq);rw[show List.map (fun p:Str × PV=>PV.tup [PV.str p.1,p.2]) (qs.map fun p=>(p.1,teV p.2))=prV qs from ec qs];refine hz _ _ _ _ dI oA (.app (by rw[PV.bel]) ⟨_,hd',pv ps',rfl,by simp;omega,fun qs1 pq1 sq1=>?_⟩);obtain⟨qs',hq',rfl⟩:=fk pq1;have e:=qK (hq'.trans (pm.symm.trans hq.symm)) (so_of sq1) so;subst e;rw[show List.map (fun p:Str × PV=>PV.tup [PV.str p.1,p.2]) (qs'.map fun p=>(p.1,teV p.2))=prV qs' from ec qs'];refine hz _ _ _ _ dI oA (.app (by rw[PV.bel]) ?_);rw[vD,LH rfl];exact .inl k
theorem qF {as st Q}(h:bV as st Q):aw Γ de (frame 4 as) st (ah st Q):=by
 obtain⟨e,ws,d,ps,rfl,hd,hN,k⟩:=h;obtain⟨z,hz⟩:=Bw hN;unfold de;refine aP (fun ρ s=>st=s/\ρ=[some (bG e ws d),some (.str z),none,none]) ?_ ?_
 ·walk_at "WPN";exact hz _ _ _ hd ⟨rfl,rfl⟩
 rintro _ _ ⟨rfl,rfl⟩;obtain⟨P,hP⟩:∃P:Fr->AH->Prop,P=fun ρ s=>∃qs,Pre st s/\qs.Perm ps/\SoK qs/\ρ=[some (bG e ws d),some (.str z),some (.str (iK e ws qs)),none]:=⟨_,rfl⟩;refine aP P ?_ ?_
 ·walk_at "WPN";refine⟨e,ws,d,ps,rfl,hd,hN,fun qs s h1 h2 h3=>?_⟩;rw[hP];exact⟨qs,h1,h2,h3,rfl⟩
 rw[hP];rintro _ s ⟨qs,p1,hq,so,rfl⟩;have hNq:=hN.perm hq;refine aP (fun ρ s'=>Pre st s'/\ρ=[some (bG e ws d),some (.str z),some (.str (iK e ws qs)),none]) ?_ ?_
 ·walk_at "WPN";refine⟨e,ws,d,ps,rfl,p1.get hd,hN,fun qs' s1 g1 hq' so'=>?_⟩;have:=qK (hq'.trans hq.symm) so' so;subst this;exact vM (hz _ _ _ ((p1.trans g1).get hd) (vM (p1.trans g1)))
 rintro _ s ⟨p1,rfl⟩;refine aP (fun ρ s'=>∃d',Pre st s'/\st.length<=d'/\s'[d']?=some (.dk (kd (pv qs)))/\ρ=[some (bG e ws d),some (.str z),some (.str (iK e ws qs)),some (bG e ws d')]) ?_ ?_
 ·walk_at "WPN";refine⟨e,ws,qs,rfl,hNq,so,fun d' s' g1 dl g2=>?_⟩;exact⟨p1.trans g1,d',K_ p1.len dl,g2,rfl⟩
 rintro _ s ⟨d',p1,dl,g2,rfl⟩;refine aP (fun ρ s'=>s=s'/\ρ=[some (bG e ws d),some (.str z),some (.str (iK e ws qs)),some (bG e ws d')]) ?_ ?_
 ·walk_at "WPN";refine⟨e,ws,d',qs,d,ps,rfl,g2,p1.get hd,hNq,hN,hq,?_⟩;walk_at "WPN"
 rintro _ _ ⟨rfl,rfl⟩;refine aP (fun ρ s'=>Pre st s'/\ρ=[some (bG e ws d),some (.str z),some (.str (iK e ws qs)),some (bG e ws d')]) ?_ ?_
 ·walk_at "WPN";exact⟨_,g2,by simp;have:=hNq.pl;omega,p1.setN dl⟩
 rintro _ s ⟨p1,rfl⟩;walk_at "WP";refine⟨e,ws,qs,rfl,hNq,so,fun d2 s2 p2 dl2 g3=>⟨e,ws,d2,qs,d,ps,rfl,g3,(p1.trans p2).get hd,hNq,hN,hq,true,rfl,?_⟩⟩;rw[KZ rfl];refine⟨e,ws,d,ps,rfl,(p1.trans p2).get hd,hN,fun qs' s3 p3 hq' so'=>?_⟩;have:=qK (hq'.trans hq.symm) so' so;subst this;show eqW _ _ _ _;rw[vD,LH rfl];exact .inl (k _ ((p1.trans p2).trans p3))
def El (s:AH)(v:PV):Prop:=v=.non\/∃e ws d ps,v=bG e ws d/\s[d]?=some (.dk (kd (pv ps)))/\NetOk e ws ps
theorem El.pre (h:El s v)(p:Pre s s'):El s' v:=by
 rcases h with h|⟨e,ws,d,ps,h1,h2,h3⟩
 ·exact .inl h
 ·exact .inr ⟨e,ws,d,ps,h1,p.get h2,h3⟩
theorem Jh {as st Q}(h:iw as st Q):aw Γ l8 (frame 4 as) st (ah st Q):=by
 obtain⟨ns,rfl,hl,k⟩:=h;unfold l8;walk_at "WP";rw[KH];obtain⟨N,hN,hN6⟩:∃N:Nat,(if 1<if 8<(ns.length:Int) then 8 else (ns.length:Int) then if 8<(ns.length:Int) then 8 else (ns.length:Int) else 1)=(N:Int)/\N<=8:=by refine⟨(if 1<if 8<(ns.length:Int) then 8 else (ns.length:Int) then if 8<(ns.length:Int) then 8 else (ns.length:Int) else 1).toNat,?_,?_⟩ <;> (repeat' split) <;> omega
 rw[hN];refine⟨by omega,by omega,?_⟩;refine fc Γm (fun i ρ s=>∃a b v,ρ=[some (.rdl (ns.map PV.int)),some v,a,b]/\El s v) ⟨_,_,_,rfl,.inl rfl⟩ ?_ ?_
 ·rintro i v ρ s hi ⟨a,b,v,rfl,hv⟩;obtain⟨rfl,hi⟩:=iH hi;refine⟨trivial,?_⟩;rw[dr];refine aP (fun ρ s=>∃e ws d ps,s[d]?=some (.dk (kd (pv ps)))/\NetOk e ws ps/\El s v/\ρ=[some (.rdl (ns.map PV.int)),some v,some (.int i),some (bG e ws d)]) ?_ ?_
  ·obtain⟨P,hP⟩:∃P:Fr->AH->Prop,P=(fun ρ s=>∃e ws d ps,s[d]?=some (.dk (kd (pv ps)))/\NetOk e ws ps/\El s v/\ρ=[some (.rdl (ns.map PV.int)),some v,some (.int i),some (bG e ws d)]):=⟨_,rfl⟩;rw[<-hP];walk_at "WPN";refine⟨ns,i,rfl,hl,by omega,fun q r z=>⟨s.length,rfl,⟨q,r,get_last,z⟩,fun e ws d ps s' g h1 h2 h3=>?_⟩⟩;rw[hP];refine⟨e,ws,d,ps,h2,h3,hv.pre fun j hj=>?_,rfl⟩;rw[g.old j (by rw[KN];omega) (by omega),K3 hj]
  rintro _ s ⟨e,ws,d,ps,hd,hN,hv,rfl⟩;obtain⟨P,hP⟩:∃P:Fr->AH->Prop,P=(fun ρ s=>s[d]?=some (.dk (kd (pv ps)))/\El s v/\ρ=[some (.rdl (ns.map PV.int)),some v,some (.int i),some (bG e ws d)]):=⟨_,rfl⟩;refine aP P ?_ ?_
  ·walk_at "WPN";refine⟨e,ws,d,ps,rfl,hd,hN,fun s' p=>?_⟩;walk_at "WPN";rw[hP];exact⟨p.get hd,hv.pre p,rfl⟩
  rw[hP];rintro _ s ⟨hd,hv,rfl⟩;refine aP P ?_ ?_
  ·rcases hv with rfl|⟨e',ws',d',ps',rfl,hd',hN'⟩
   ·walk_at "WPN";rw[hP];exact⟨hd,.inl rfl,rfl⟩
   ·walk_at "WPN";refine⟨e',ws',d',ps',rfl,hd',hN',fun s' p=>?_⟩;walk_at "WPN";rw[hP];exact⟨p.get hd,.inr ⟨e',ws',d',ps',rfl,p.get hd',hN'⟩,rfl⟩
  rw[hP];rintro _ s ⟨hd,hv,rfl⟩;walk_at "WP";exact .inr ⟨e,ws,d,ps,rfl,hd,hN⟩
 ·rintro ρ s ⟨a,b,v,rfl,hv⟩;refine⟨trivial,?_⟩;walk_at "WP";exact .inl (k _)
local macro_rules | `(tactic| walk_at "AR")=>`(tactic| first|exact fun _ _ _ _ _ _ us hl=>ar1 (P:=fun us=>bindArgs _ { pos:=us }=pure (List.zip _ us)) (fun _=>rfl) us hl|exact fun _ _ _ _ _ _ us hl=>ar2 (P:=fun us=>bindArgs _ { pos:=us }=pure (List.zip _ us)) (fun _ _=>rfl) us hl|exact fun _ _ _ _ _ _ us hl=>ar3 (P:=fun us=>bindArgs _ { pos:=us }=pure (List.zip _ us)) (fun _ _ _=>rfl) us hl|exact fun _ _ _ _ _ _ us hl=>ar4 (P:=fun us=>bindArgs _ { pos:=us }=pure (List.zip _ us)) (fun _ _ _ _=>rfl) us hl|exact fun _ _ _ _ _ _ us hl=>ar5 (P:=fun us=>bindArgs _ { pos:=us }=pure (List.zip _ us)) (fun _ _ _ _ _=>rfl) us hl)
abbrev zn (K:W.Frag)(n:Str):Prop:=W.nsIn K mainGlobals n=some none
theorem all_mk {l:W.OpenLaw}{K:W.Frag}(X:K.In h)(G:h.Ns mainGlobals mg)(hfa:mg "law"=some (.ref fa))(sy:K.lookup sysModules=none)(d0:DI K "is_whole" fM)(d1:DI K "common_divisor" bH)(d2:DI K "is_fraction" cR)(d3:DI K "is_below" fI)(d4:DI K "number_text" cP)(d5:DI K "fraction_text" bX)(d6:DI K "is_number_text" bI)(d7:DI K "read_number" cN)(d8:DI K "read_fraction" bY)(d9:DI K "is_ride" gT)(d10:DI K "is_rides" f7)(d11:DI K "is_name" gZ)(d12:DI K "is_names" fK)(d13:DI K "is_tie" iW)(d14:DI K "is_net" jh)(d15:DI K "tie_lines" eT)(d16:DI K "net_text" fN)(d17:DI K "read_end" fF)(d18:DI K "read_waits" dB)(d19:DI K "read_ties" eR)(d20:DI K "read_net" fU)(d21:DI K "_law_at" gS)(d22:DI K "_law_pot" f9)(d23:DI K "_law_take" eP)(d24:DI K "_law_drawn" dC)(d25:DI K "_law_name" eF)(d26:DI K "_law_low" fH)(d27:DI K "_law_under" dD)(d28:DI K "_law_ride" eM)(d29:DI K "_law_chain" dE)(d30:DI K "_law_rides" dw)(d31:DI K "_law_end" fW)(d32:DI K "_law_net" fR)(d33:DI K "_law_moment_text" bo)(d34:DI K "_law_text" eK)(d35:DI K "_law_is_just" cx)(d36:DI K "_law_right" dy)(d37:DI K "law" ka)(z0:zn K "isinstance")(z1:zn K "bool")(z2:zn K "int")(z3:zn K "len")(z4:zn K "tuple")(z5:zn K "str")(z6:zn K "divmod")(z7:zn K "all")(z8:zn K "range")(z9:zn K "zip")(z10:zn K "any")(z11:zn K "dict")(z12:zn K "sorted")(z13:zn K "list")(z14:zn K "max")(z15:zn K "repr")(z16:zn K "min")(tz0:zn K "coming")(tz1:zn K "latest")(tz2:zn K "through")(ga0_:W.nsIn K mainGlobals "FIGURES"=some (some (.str "0123456789" tg0)))(ga1_:W.nsIn K mainGlobals "BLOCK_FIGURES"=some (some (.int 64 tg1)))(ga2_:W.nsIn K mainGlobals "BLOCK"=some (some (.int 10000000000000000000000000000000000000000000000000000000000000000 tg2)))(ga3_:W.nsIn K mainGlobals "LETTERS"=some (some (.str "abcdefghijklmnopqrstuvwxyz" tg3)))(ga4_:W.nsIn K mainGlobals "MOST_LETTERS"=some (some (.int 8 tg4)))(ga5_:W.nsIn K mainGlobals "END_WORD"=some (some (.str "end" tg5)))(ga6_:W.nsIn K mainGlobals "WAITS_WORD"=some (some (.str "waits" tg6)))(ga7_:W.nsIn K mainGlobals "TIE_WORD"=some (some (.str "tie" tg7)))(ga8_:W.nsIn K mainGlobals "RIDE_WORD"=some (some (.str "ride" tg8)))
  : ∃fd:FuncData,(∀(s:Shared) (v:Value),BindsTo s fd ⟨[v],[]⟩ [("_law_script",v)])/\Do K/\(∀x∈a_,W.tabIn K x=none\/∃d,(PyProof.Rows.recsOf q).find? (fun e=>e.name == x)=some d)/\∀base:Heap,K.In base->base.Ns mainGlobals mg->lu K mg base->nO l.prog w K mg base CX0 38 fa fd ["_law_script"] (dR K iw):=by
 obtain⟨f,oc,od,kV,dc,pm,an,cd,ct,sl,aL,lL,cL,kL⟩:=d37;have e:=hfa.symm.trans (NQ X G aL);cases e;have hb:∀x∈Fv,mg x=none:=by
  intro x hx;simp only[Fv,List.mem_cons,List.not_mem_nil,or_false] at hx;rcases hx with rfl|rfl|rfl|rfl|rfl|rfl|rfl|rfl|rfl|rfl|rfl|rfl|rfl|rfl|rfl|rfl|rfl
  ·exact LP X G z0
  ·exact LP X G z1
  ·exact LP X G z2
  ·exact LP X G z3
  ·exact LP X G z4
  ·exact LP X G z5
  ·exact LP X G z6
  ·exact LP X G z7
  ·exact LP X G z8
  ·exact LP X G z9
  ·exact LP X G z10
  ·exact LP X G z11
  ·exact LP X G z12
  ·exact LP X G z13
  ·exact LP X G z14
  ·exact LP X G z15
  ·exact LP X G z16
 have hgl:∀x v,glL.lookup x=some v->∃u y,mg x=some u/\RelV y u/\∀m H,R K m H v y:=by
  intro x v hx;by_cases q0:x=("FIGURES":Str)
  ·subst q0;have e:v=fV:=by have:glL.lookup ("FIGURES":Str)=some fV:=rfl;rw[this] at hx;cases hx;rfl
   subst e;exact ⟨_,.str "0123456789",NQ X G ga0_,⟨tg0,rfl⟩,fun m H=>R_str.mpr rfl⟩
  by_cases q1:x=("BLOCK_FIGURES":Str)
  ·subst q1;have e:v=a0:=by have:glL.lookup ("BLOCK_FIGURES":Str)=some a0:=rfl;rw[this] at hx;cases hx;rfl
   subst e;exact⟨_,.int 64,NQ X G ga1_,⟨tg1,rfl⟩,fun m H=>R_int.mpr rfl⟩
  by_cases q2:x=("BLOCK":Str)
  ·subst q2;have e:v=fA:=by have:glL.lookup ("BLOCK":Str)=some fA:=rfl;rw[this] at hx;cases hx;rfl
   subst e;exact⟨_,.int 10000000000000000000000000000000000000000000000000000000000000000,NQ X G ga2_,⟨tg2,rfl⟩,fun m H=>R_int.mpr rfl⟩
  by_cases q3:x=("LETTERS":Str)
  ·subst q3;have e:v=fE:=by have:glL.lookup ("LETTERS":Str)=some fE:=rfl;rw[this] at hx;cases hx;rfl
   subst e;exact ⟨_,.str "abcdefghijklmnopqrstuvwxyz",NQ X G ga3_,⟨tg3,rfl⟩,fun m H=>R_str.mpr rfl⟩
  by_cases q4:x=("MOST_LETTERS":Str)
  ·subst q4;have e:v=bW:=by have:glL.lookup ("MOST_LETTERS":Str)=some bW:=rfl;rw[this] at hx;cases hx;rfl
   subst e;exact⟨_,.int 8,NQ X G ga4_,⟨tg4,rfl⟩,fun m H=>R_int.mpr rfl⟩
  by_cases q5:x=("END_WORD":Str)
  ·subst q5;have e:v=cT:=by have:glL.lookup ("END_WORD":Str)=some cT:=rfl;rw[this] at hx;cases hx;rfl
   subst e;exact ⟨_,.str "end",NQ X G ga5_,⟨tg5,rfl⟩,fun m H=>R_str.mpr rfl⟩
  by_cases q6:x=("WAITS_WORD":Str)
  ·subst q6;have e:v=bR:=by have:glL.lookup ("WAITS_WORD":Str)=some bR:=rfl;rw[this] at hx;cases hx;rfl
   subst e;exact ⟨_,.str "waits",NQ X G ga6_,⟨tg6,rfl⟩,fun m H=>R_str.mpr rfl⟩
  by_cases q7:x=("TIE_WORD":Str)
  ·subst q7;have e:v=cU:=by have:glL.lookup ("TIE_WORD":Str)=some cU:=rfl;rw[this] at hx;cases hx;rfl
   subst e;exact ⟨_,.str "tie",NQ X G ga7_,⟨tg7,rfl⟩,fun m H=>R_str.mpr rfl⟩
  by_cases q8:x=("RIDE_WORD":Str)
  ·subst q8;have e:v=aY:=by have:glL.lookup ("RIDE_WORD":Str)=some aY:=rfl;rw[this] at hx;cases hx;rfl
   subst e;exact ⟨_,.str "ride",NQ X G ga8_,⟨tg8,rfl⟩,fun m H=>R_str.mpr rfl⟩
  exact absurd hx (by simp only[glL,List.lookup_cons,List.lookup_nil];simp only[beq_eq_false_iff_ne.mpr q0,beq_eq_false_iff_ne.mpr q1,beq_eq_false_iff_ne.mpr q2,beq_eq_false_iff_ne.mpr q3,beq_eq_false_iff_ne.mpr q4,beq_eq_false_iff_ne.mpr q5,beq_eq_false_iff_ne.mpr q6,beq_eq_false_iff_ne.mpr q7,beq_eq_false_iff_ne.mpr q8];exact fun z=>nomatch z)
 have t_coming:=uT tz0;have t_latest:=uT tz1;have t_through:=uT tz2;refine ⟨W.fnOf "law" "law" (cQ ka) (ai ka) (ae ka) .none kV dc pm an cd ct,fun s v=>.of_eq rfl,?lk,?lq,fun base _ _ B=>?_⟩
 case lk =>
  refine Cq sy fun x hx=>?_;simp only[a_,List.mem_cons,List.not_mem_nil,or_false] at hx;rcases hx with rfl|rfl|rfl
  ·exact .inl t_coming
  ·exact .inl t_latest
  ·exact .inl t_through
 case lq =>
  intro x hx;simp only[a_,List.mem_cons,List.not_mem_nil,or_false] at hx;rcases hx with rfl|rfl|rfl
  ·exact .inl t_coming
  ·exact .inl t_latest
  ·exact .inl t_through
 have G0:GOk l.prog w K mg base lK Γ:=⟨fun f x hf=>absurd hf (Nat.not_lt_zero _),hb,hgl,Γm⟩;have G1:GOk l.prog w K mg base fC Γ:=G0.nx X G d0 sL uf pK u3 (by walk_at "AR");have G2:GOk l.prog w K mg base iz Γ:=G1.nx X G d1 jc jY iS jD (by walk_at "AR");have G3:GOk l.prog w K mg base lV Γ:=G2.nx X G d2 lH ny kM nr (by walk_at "AR");have G4:GOk l.prog w K mg base iB Γ:=G3.nx X G d3 sX vo iV t9 (by walk_at "AR");have G5:GOk l.prog w K mg base gc Γ:=G4.nx X G d4 mX nA kU nU (by walk_at "AR");have G6:GOk l.prog w K mg base fB Γ:=G5.nx X G d5 jN kZ eN kT (by walk_at "AR");have G7:GOk l.prog w K mg base iu Γ:=G6.nx X G d6 jm jI iF jQ (by walk_at "AR");have G8:GOk l.prog w K mg base f_ Γ:=G7.nx X G d7 lM nH kO nG (by walk_at "AR");have G9:GOk l.prog w K mg base oE Γ:=G8.nx X G d8 jO kH js kG (by walk_at "AR");have G10:GOk l.prog w K mg base lJ Γ:=G9.nx X G d9 uo xZ sr xR (by walk_at "AR");have G11:GOk l.prog w K mg base oP Γ:=G10.nx X G d10 rD t6 qY uS (by walk_at "AR");have G12:GOk l.prog w K mg base lQ Γ:=G11.nx X G d11 uO xO td wZ (by walk_at "AR");have G13:GOk l.prog w K mg base sU Γ:=G12.nx X G d12 tE uA pT ud (by walk_at "AR");have G14:GOk l.prog w K mg base sR Γ:=G13.nx X G d13 xA Aq uX BU (by walk_at "AR");have G15:GOk l.prog w K mg base kh Γ:=G14.nx X G d14 xP A2 uH y7 (by walk_at "AR");have G16:GOk l.prog w K mg base lE Γ:=G15.nx X G d15 q_ tu n9 tS (by walk_at "AR");have G17:GOk l.prog w K mg base mL Γ:=G16.nx X G d16 rO ux jy uj (by walk_at "AR");have G18:GOk l.prog w K mg base i6 Γ:=G17.nx X G d17 tL vh qU t8 (by walk_at "AR");have G19:GOk l.prog w K mg base kg Γ:=G18.nx X G d18 nW qC mS qo (by walk_at "AR");have G20:GOk l.prog w K mg base me Γ:=G19.nx X G d19 pS rW nC tU (by walk_at "AR");have G21:GOk l.prog w K mg base oT Γ:=G20.nx X G d20 rL t4 qS u6 (by walk_at "AR");have G22:GOk l.prog w K mg base mf Γ:=G21.nx X G d21 u0 w4 tO wR (by walk_at "AR");have G23:GOk l.prog w K mg base ky Γ:=G22.nx X G d22 tH uR pW u5 (by walk_at "AR");have G24:GOk l.prog w K mg base i4 Γ:=G23.nx X G d23 qD rE nD sH (by walk_at "AR");have G25:GOk l.prog w K mg base kn Γ:=G24.nx X G d24 nZ pR mC pH (by walk_at "AR");have G26:GOk l.prog w K mg base mw Γ:=G25.nx X G d25 qZ rT nj tX (by walk_at "AR");have G27:GOk l.prog w K mg base jw Γ:=G26.nx X G d26 sF u_ qp uG (by walk_at "AR");have G28:GOk l.prog w K mg base j' Γ:=G27.nx X G d27 nI qG mP pQ (by walk_at "AR");have G29:GOk l.prog w K mg base ju Γ:=G28.nx X G d28 qx tV nB rG (by walk_at "AR");have G30:GOk l.prog w K mg base jj Γ:=G29.nx X G d29 nN rj lU qu (by walk_at "AR");have G31:GOk l.prog w K mg base l9 Γ:=G30.nx X G d30 nX pL lP qe (by walk_at "AR");have G32:GOk l.prog w K mg base l7 Γ:=G31.nx X G d31 tD uM qy uI (by walk_at "AR");have G33:GOk l.prog w K mg base dY Γ:=G32.nx X G d32 rH vc pE t_ (by walk_at "AR");have G34:GOk l.prog w K mg base kb Γ:=G33.nx X G d33 ig iR gm iE (by walk_at "AR");have G35:GOk l.prog w K mg base gk Γ:=G34.nx X G d34 qW tj nv rS (by walk_at "AR");have G36:GOk l.prog w K mg base jt Γ:=G35.nx X G d35 kK mU jZ lX (by walk_at "AR");have G37:GOk l.prog w K mg base Eo Γ:=G36.nx X G d36 nJ qJ mJ qF (by walk_at "AR");exact CJ (qual:="law") (Be (st:=ka) lL cL kL) GS rfl rfl IE G37 (fun as st Q=>Cn) (fun as st Q=>Jh)
end My
namespace PySem.W.Fast
def tw17371389455250560188:=Nat
def tw13244092998504734744:=Nat
def tw1020212529357825647:=Nat
def tw13552858747047897066:=Nat
def tw5736701481805942051:=Nat
def tw12624935843064613400:=Nat
def tw12658019610496367482:=Nat
def tw6337635412304671156:=Nat
def tw5452856046752550559:=Nat
def tw10021323492067778049:=Nat
def tw3300846942670501557:=Nat
def tw14664962656912482683:=Nat
def tw1598174611202110399:=Nat
def tw10575505396918618042:=Nat
def tw14927140108370775693:=Nat
def tw1165854026719641853:=Nat
def tw13124503229267796223:=Nat
def tw5645604686906938970:=Nat
def tw4657528434414621390:=Nat
def tw10071805186307702842:=Nat
def tw9223566270685269454:=Nat
def tw2649326174540803120:=Nat
def tw353417667897829373:=Nat
def tw15865823488987800427:=Nat
def tw15081737618261266809:=Nat
def tw17605259853059819705:=Nat
def tw3139558370217283393:=Nat
def tw1994903416401254788:=Nat
def tw3444778853871836095:=Nat
def tw10218743043517609079:=Nat
def tw18006375567841924058:=Nat
def tw17391560159284853034:=Nat
def tw10947548321120154760:=Nat
def tw5692577587715381397:=Nat
def tw14657066977798337320:=Nat
def tw4066235726105055483:=Nat
def tw17490314592104352278:=Nat
def tw10743212241454253776:=Nat
def tw9287915248272302398:=Nat
def tw15360702326726401912:=Nat
def tw3762553420496951136:=Nat
def tw17930444649116257793:=Nat
def tw4946563916800493581:=Nat
def tw8176838857831255500:=Nat
def tw2322700902404606203:=Nat
def tw12855259044328612602:=Nat
def tw14526774168039166012:=Nat
def tw4143022344084800514:=Nat
def tw2861681222040983454:=Nat
def tw8512239861512978004:=Nat
def tw564202302898538696:=Nat
def tw15419570550139351723:=Nat
def tw2263393279721459743:=Nat
def tw5833316702281991328:=Nat
def tw2877099710351613166:=Nat
def tw17509159592459948607:=Nat
def tw12247709941281310418:=Nat
def tw9406447006310478066:=Nat
def tw8957585024888648015:=Nat
def tw3492008786294334811:=Nat
def tw317414672343555071:=Nat
def tw12506859125693777298:=Nat
def tw9617450388848932547:=Nat
def tw732064153678291373:=Nat
def tw368537782343062485:=Nat
def tw8515139174238295900:=Nat
def tw17095183555907362114:=Nat
def tw206646027521915012:=Nat
def tw12496031803368504381:=Nat
def tw3932825271132320167:=Nat
def tw14572488238894194139:=Nat
def tw10862891241305285040:=Nat
def tw1870979586477539881:=Nat
def tw14314349216651708114:=Nat
def tw2066764384750121163:=Nat
def tw11412267113840437443:=Nat
def tw2143545734941373867:=Nat
def tw11611283684390005738:=Nat
def tw12859487101553620039:=Nat
def tw11129182479832773620:=Nat
def tw6984671907660508935:=Nat
def tw15284116402735892544:=Nat
def tw8280332751322015351:=Nat
def tw2859130686147158943:=Nat
def tw12022007571006955133:=Nat
def tw12955628186692821561:=Nat
def tw16180302184762336497:=Nat
def tw14833468116083190525:=Nat
def tw13024111970888690212:=Nat
def tw3753161315043489210:=Nat
def tw7853344318562480363:=Nat
def tw17332603731715552222:=Nat
def tw3041828107924873222:=Nat
def tw9282285298465437952:=Nat
def tw13621058130925541609:=Nat
def tw7875032940887177632:=Nat
def tw1622936045343578611:=Nat
def tw9289135613800618969:=Nat
def tw9264604541647287617:=Nat
def tw850222961601918692:=Nat
def tw7672879082492877620:=Nat
def tw7277321491363044051:=Nat
def tw7197222083183029376:=Nat
def tw7097101727093466465:=Nat
def tw5159804548754438344:=Nat
def tw4972634365785285922:=Nat
def tw4791271619952273323:=Nat
def tw3779647155141970566:=Nat
def tw2214052264374884196:=Nat
def tw17825804049435278307:=Nat
def tw17675243386051807247:=Nat
def tw16659816844617654330:=Nat
def tw16447591293817811640:=Nat
def tw15705029237604700171:=Nat
def tw14685990066638364759:=Nat
def tw13424655937362593602:=Nat
def tw10593311141767683386:=Nat
def tw13341379930387841952:=Nat
def tw8551976573786323993:=Nat
def tw7434779120406948442:=Nat
def tw5689681528750387822:=Nat
def tw5688313104975559257:=Nat
def tw5672373142592141050:=Nat
def tw5136645269057918324:=Nat
def tw2612846271142750199:=Nat
def tw2340338099367874298:=Nat
def tw17966757616148767581:=Nat
def tw16236698920295796097:=Nat
def tw15148393044571714610:=Nat
def tw1262104633422912762:=Nat
def tw1215378313926839295:=Nat
def tw12034101860435042645:=Nat
def tw11700811458257903101:=Nat
def tw11599607148951178751:=Nat
def tw11049378674009386403:=Nat
def tw581103669892610242:=Nat
def tw6444862879257590256:=Nat
def tw5316195369992293422:=Nat
def tw3137013241245887174:=Nat
def tw4948105656749022855:=Nat
def tw1721891831475844072:=Nat
def tw12109247205816264184:=Nat
def tw11145141238943571944:=Nat
def tw9583606487264006467:=Nat
def tw13497464206434375857:=Nat
def tw6543190344446727050:=Nat
def tw12147210707659419870:=Nat
def tw15881215483958887028:=Nat
def tw5741076787610829252:=Nat
def tw2581159554529459272:=Nat
def tw15908135687428520025:=Nat
def tw8565897261749857509:=Nat
def tw4961757222807508909:=Nat
def tw13535496725502908530:=Nat
def tw9017969992324984201:=Nat
def tw15257804633806857244:=Nat
def tw14799716068832010456:=Nat
def tw11588207375585103482:=Nat
def tw5508116001383100527:=Nat
def tw4178102001218348724:=Nat
def tw3073874440666213036:=Nat
def tw1865741215314610391:=Nat
def tw15931426551150565475:=Nat
def tw13741460938102016633:=Nat
def tw4046154933810719369:=Nat
def tw18086823060988503983:=Nat
def tw8269152534244088907:=Nat
def tw4661380795641128965:=Nat
def tw16192257072129533346:=Nat
def tw15974316750297871002:=Nat
def tw14140136049620932281:=Nat
def tw10831525346596132689:=Nat
def tw3902721334987038369:=Nat
def tw9042867664848018502:=Nat
def tw15527190709747882117:=Nat
def tw13744204905252138840:=Nat
def tw12036884142524193132:=Nat
def tw9626650501424009059:=Nat
def tw5628171894763381231:=Nat
def tw5603232025906904117:=Nat
def tw8219606499665725453:=Nat
def tw4674129619665552361:=Nat
def tw3037588534458730103:=Nat
def tw567902845126768906:=Nat
def tw290591582837276609:=Nat
def tw9803495089281758546:=Nat
def tw9803116497066075996:=Nat
def tw9672319435779959182:=Nat
def tw9487292398868256675:=Nat
def tw9360626690625668782:=Nat
def tw9333827559757050595:=Nat
def tw9157043899081484557:=Nat
def tw8788354769061933535:=Nat
def tw8331415497753976302:=Nat
def tw8193597776076835232:=Nat
def tw7463035321320706594:=Nat
def tw6706937322083027707:=Nat
def tw6552906146587532275:=Nat
def tw6303222534827745250:=Nat
def tw6182198993873116260:=Nat
def tw6050229035580177157:=Nat
def tw566768816956319539:=Nat
def tw4337913120721436935:=Nat
def tw4264900894406971165:=Nat
def tw3438951265205666168:=Nat
def tw3326238128584697128:=Nat
def tw2938889336732400444:=Nat
def tw2376920522981902388:=Nat
def tw2096675127030161388:=Nat
def tw206507701823816390:=Nat
def tw2049954348844001829:=Nat
def tw18287454090598967076:=Nat
def tw17745258724898158042:=Nat
def tw17514369017243665063:=Nat
def tw16740091349586494510:=Nat
def tw16672547500557718536:=Nat
def tw16663721832788608017:=Nat
def tw16611052233289166063:=Nat
def tw16577343841431000796:=Nat
def tw1634793111018679421:=Nat
def tw15489095345081789136:=Nat
def tw15376962696717475284:=Nat
def tw15167048397936643417:=Nat
def tw1501568207988809204:=Nat
def tw14978817236273530627:=Nat
def tw14843813182815617124:=Nat
def tw14781367925557976599:=Nat
def tw14522055305798745419:=Nat
def tw14519025583641698924:=Nat
def tw14000979392857049436:=Nat
def tw13977867120993243087:=Nat
def tw13937533465244796623:=Nat
def tw13731000879396314326:=Nat
def tw13442409743923127740:=Nat
def tw13346636081162749902:=Nat
def tw13330333809803778390:=Nat
def tw13278802110856539219:=Nat
def tw13074512386072563950:=Nat
def tw11857172550343249780:=Nat
def tw11640114812887067291:=Nat
def tw11590524448468380558:=Nat
def tw11237473484295166376:=Nat
def tw11176110346516109209:=Nat
def tw11150171279137720026:=Nat
def tw10473228533875040071:=Nat
def tw104308830137255675:=Nat
def tw10376982197269767500:=Nat
def tw10165340617190506367:=Nat
def tw10107596282881751594:=Nat
def tw9606858689228759265:=Nat
def tw9601738457718111521:=Nat
def tw9344015709212677291:=Nat
def tw8549513359461892297:=Nat
def tw8318640052622580702:=Nat
def tw8316939928385085913:=Nat
def tw8138823888145444595:=Nat
def tw8051203681272468261:=Nat
def tw7328958130481349181:=Nat
def tw6734603795069758331:=Nat
def tw6418778654424377346:=Nat
def tw6193006105800425021:=Nat
def tw5701779797267373874:=Nat
def tw5093292706631944386:=Nat
def tw4682881812666378234:=Nat
def tw3755560806213547547:=Nat
def tw3164319888809672154:=Nat
def tw229872661028553609:=Nat
def tw18360165718820419072:=Nat
def tw17723010539725471595:=Nat
def tw17562132393943579270:=Nat
def tw17484654453060373493:=Nat
def tw16897401260717623189:=Nat
def tw16424050283646411737:=Nat
def tw161713951609326981:=Nat
def tw16151647520516658955:=Nat
def tw15838235393695245803:=Nat
def tw15751015621132847324:=Nat
def tw15107571331721677128:=Nat
def tw14706112896922658322:=Nat
def tw14560323364205177559:=Nat
def tw14067852602541103648:=Nat
def tw13850565233537737940:=Nat
def tw13245738563327503960:=Nat
def tw12460666679912539905:=Nat
def tw12431632645890636506:=Nat
def tw11485382364406236533:=Nat
def tw11245561361752737620:=Nat
def tw11090946639487828443:=Nat
def tw10793528340434336311:=Nat
def tw10716062437663836159:=Nat
end PySem.W.Fast
open PySem PySem.W PyProof.Rows
local macro_rules | `(tactic| walk_at "DI")=>`(tactic| (refine' FW.DI_mk ?a ?l ?c ?k;(case a=>k_is);(case l=>k_is);(case c=>k_is);(case k=>k_is)))
set_option maxRecDepth 100000 in
set_option maxHeartbeats 0 in
theorem PySem.Challenge.cw_hourstairs_k53_texts_of_nets_holds : PySem.Challenge.rw_hourstairs_k53_texts_of_nets.Holds := by
 w_on;o_law;k_head;(case hw=>w_witness2)
 k_fill
 refine FW.walkF (l:=PySem.Challenge.rw_hourstairs_k53_texts_of_nets) (k:=38) (x:="_law_script") (by decide +kernel) rfl rfl ⟨rfl,by decide,by decide,rfl⟩ (fun w h Y=>PySem.W.kIn_of Y) ?F
 case F =>
  intro w mg fa h KX G hmg
  refine' My.all_mk KX G hmg ?sy ?d0 ?d1 ?d2 ?d3 ?d4 ?d5 ?d6 ?d7 ?d8 ?d9 ?d10 ?d11 ?d12 ?d13 ?d14 ?d15 ?d16 ?d17 ?d18 ?d19 ?d20 ?d21 ?d22 ?d23 ?d24 ?d25 ?d26 ?d27 ?d28 ?d29 ?d30 ?d31 ?d32 ?d33 ?d34 ?d35 ?d36 ?d37 ?z0 ?z1 ?z2 ?z3 ?z4 ?z5 ?z6 ?z7 ?z8 ?z9 ?z10 ?z11 ?z12 ?z13 ?z14 ?z15 ?z16 ?tz0 ?tz1 ?tz2 ?ga0_ ?ga1_ ?ga2_ ?ga3_ ?ga4_ ?ga5_ ?ga6_ ?ga7_ ?ga8_
  all_goals first|delta My.zn|skip
  (case sy=>rfl)
  (case d0=>walk_at "DI")
  (case d1=>walk_at "DI")
  (case d2=>walk_at "DI")
  (case d3=>walk_at "DI")
  (case d4=>walk_at "DI")
  (case d5=>walk_at "DI")
  (case d6=>walk_at "DI")
  (case d7=>walk_at "DI")
  (case d8=>walk_at "DI")
  (case d9=>walk_at "DI")
  (case d10=>walk_at "DI")
  (case d11=>walk_at "DI")
  (case d12=>walk_at "DI")
  (case d13=>walk_at "DI")
  (case d14=>walk_at "DI")
  (case d15=>walk_at "DI")
  (case d16=>walk_at "DI")
  (case d17=>walk_at "DI")
  (case d18=>walk_at "DI")
  (case d19=>walk_at "DI")
  (case d20=>walk_at "DI")
  (case d21=>walk_at "DI")
  (case d22=>walk_at "DI")
  (case d23=>walk_at "DI")
  (case d24=>walk_at "DI")
  (case d25=>walk_at "DI")
  (case d26=>walk_at "DI")
  (case d27=>walk_at "DI")
  (case d28=>walk_at "DI")
  (case d29=>walk_at "DI")
  (case d30=>walk_at "DI")
  (case d31=>walk_at "DI")
  (case d32=>walk_at "DI")
  (case d33=>walk_at "DI")
  (case d34=>walk_at "DI")
  (case d35=>walk_at "DI")
  (case d36=>walk_at "DI")
  (case d37=>walk_at "DI")
  (case z0=>k_is)
  (case z1=>k_is)
  (case z2=>k_is)
  (case z3=>k_is)
  (case z4=>k_is)
  (case z5=>k_is)
  (case z6=>k_is)
  (case z7=>k_is)
  (case z8=>k_is)
  (case z9=>k_is)
  (case z10=>k_is)
  (case z11=>k_is)
  (case z12=>k_is)
  (case z13=>k_is)
  (case z14=>k_is)
  (case z15=>k_is)
  (case z16=>k_is)
  (case tz0=>k_is)
  (case tz1=>k_is)
  (case tz2=>k_is)
  (case ga0_=>k_is)
  (case ga1_=>k_is)
  (case ga2_=>k_is)
  (case ga3_=>k_is)
  (case ga4_=>k_is)
  (case ga5_=>k_is)
  (case ga6_=>k_is)
  (case ga7_=>k_is)
  (case ga8_=>k_is)
