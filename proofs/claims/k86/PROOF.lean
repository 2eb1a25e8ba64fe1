import PyProof.Rows.All
import Wide.All
import OpenK.AllK
import Wide.FinOn
import Lean
import PyProof.EqAt
import PyProof.EqKinds
import PyProof.TupleCall
import PyProof.FactsAll.set
import PyProof.DictWalks
import PyProof.CollectWalk
import PyProof.Rows.SetFrom
import PyProof.Rows.SortWalk
import PyProof.Rows.SortStr
import PyProof.Rows.MinMaxN
import KE.LcSums
import KE.KDictSum
import PyProof.DictItems
import PyProof.DictCompW
import PyProof.NeKinds
import KE.KEqDict
import KE.KPairComp
import KE.KDictOf
import PyProof.AttrMissHeap
import PySem.Challenge.RW_hourstairs_k86_whole_fewest_ties
open PySem PySem.Spec PyProof.Rows
set_option Elab.async false
set_option linter.all false
set_option maxRecDepth 100000
set_option maxHeartbeats 4000000
set_option genSizeOfSpec false
abbrev FX:=@Bool.false_ne_true
abbrev FY:=@List.getElem?_eq_some_iff
abbrev FZ:=@List.mem_singleton
abbrev F1:=@List.mem_map
abbrev F2:=@Nat.le_refl
abbrev F3:=@Nat.lt_of_lt_of_le
abbrev F4:=@PySem.wpAny_bind
abbrev F5:=@PySem.Heap.get?_push_of_some
abbrev F6:=@List.getElem?_set_ne
abbrev F7:=@List.mem_append
abbrev F9:=@List.getElem?_map
abbrev F_:=@if_neg
abbrev GA:=@if_pos
abbrev GB:=@List.getElem?_set_self
abbrev GC:=@List.map_cons
abbrev GD:=@Bool.and_eq_true
abbrev GE:=@List.mem_of_getElem?
abbrev GF:=@PySem.Heap.lt_size
abbrev GG:=@List.getElem?_append_left
abbrev GH:=@Classical.byContradiction
abbrev GI:=@List.length_map
abbrev GJ:=@List.getElem?_append_right
abbrev GK:=@Option.map_eq_some_iff
abbrev GL:=@PySem.wpAny_pure
abbrev GM:=@List.size_toArray
abbrev GN:=@Nat.lt_of_le_of_lt
abbrev GO:=@List.mem_cons_of_mem
abbrev GP:=@PySem.Heap.get?_push_size
abbrev GQ:=@List.mem_cons_self
abbrev GR:=@congrArg
abbrev GS:=@Nat.ne_of_lt
abbrev GT:=@Option.some.inj
abbrev GU:=@List.map_map
abbrev GV:=@decide_eq_false
abbrev GW:=@Nat.le_trans
abbrev GX:=@List.getElem?_eq_getElem
abbrev GY:=@List.mem_append_right
abbrev GZ:=@List.take_length
abbrev G_:=@Int.natCast_mul
abbrev HA:=@List.mem_cons
abbrev HB:=@decide_eq_true
abbrev HC:=@of_decide_eq_true
abbrev HD:=@Rat.le_refl
abbrev HE:=@Rat.mul_pos
abbrev HF:=@List.length_append
abbrev HG:=@List.any_cons
abbrev HH:=@List.filterMap_cons
abbrev HI:=@Int.toNat_of_nonneg
abbrev HJ:=@List.map_nil
abbrev HK:=@List.take_add_one
abbrev HL:=@List.nodup_cons
abbrev HM:=@PySem.SeqAt.canLay_of_shaped
abbrev HN:=@PySem.mem_of_lookup
abbrev HP:=@List.getElem?_eq_none
abbrev HQ:=@Nat.le_of_lt
abbrev HR:=@PySem.F.plainAttrs_list
abbrev HS:=@Nat.pow_le_pow_right
abbrev HU:=@PySem.W.mg_none_of
abbrev HV:=@List.replicate_succ
abbrev HW:=@List.map_append
abbrev HY:=@PyProof.Rows.slot_tuple_getitem
abbrev HZ:=@List.mem_of_find?_eq_some
abbrev H_:=@PySem.W.kia_one
abbrev IA:=@Rat.mul_nonneg
abbrev IB:=@List.drop_eq_getElem_cons
abbrev IC:=@List.flatten_cons
abbrev ID:=@List.nodup_append
abbrev IE:=@List.length_filterMap_le
abbrev IF:=@Nat.sub_add_cancel
abbrev IG:=@Option.map_eq_none_iff
abbrev IH:=@List.find?_eq_none
abbrev II:=@Nat.not_lt_zero
abbrev IJ:=@PySem.wpAny_holding
abbrev IK:=@List.all_cons
abbrev IL:=@List.getElem?_range
abbrev IM:=@List.map_congr_left
abbrev IN:=@Nat.lt_irrefl
abbrev IP:=@List.getElem?_take_of_lt
abbrev IR:=@PySem.F.args_tuple_add_2
abbrev IS:=@Bool.eq_iff_iff
abbrev IT:=@List.append_nil
abbrev IU:=@Bool.or_eq_true
abbrev IV:=@Int.natCast_sub
abbrev IW:=@List.prefix_append
abbrev IY:=@PySem.F.entry_tuple_add
abbrev IZ:=@Nat.zero_le
abbrev I0:=@List.length_eq_zero_iff
abbrev I_:=@PySem.F.slot_tuple_add
abbrev JA:=@Nat.gcd_comm
abbrev JB:=@Rat.natCast_lt_natCast
abbrev JC:=@Classical.epsilon_spec
abbrev JD:=@PySem.F.slot_dict_get
abbrev JE:=@List.mem_iff_getElem?
abbrev JF:=@List.length_take
abbrev JG:=@List.length_cons
abbrev JH:=@List.prefix_refl
abbrev JI:=@Int.natCast_ediv
abbrev JJ:=@Nat.mul_pos
abbrev JK:=@List.length_set
abbrev JL:=@List.find?_some
abbrev JM:=@Nat.ne_of_gt
abbrev JN:=@Rat.le_trans
abbrev JO:=@List.mem_filterMap
abbrev JP:=@List.nodup_nil
abbrev JQ:=@List.drop_zero
abbrev JR:=@Rat.div_lt_iff
abbrev JS:=@Nat.sub_le
abbrev JT:=@Int.emod_lt_of_pos
abbrev JU:=@Option.isSome_map
abbrev JV:=@Prod.ext
abbrev JW:=@List.getElem_mem
abbrev JX:=@Nat.mul_comm
abbrev JY:=@Rat.not_lt
abbrev JZ:=@Rat.le_of_lt
abbrev J0:=@Int.le_trans
abbrev J1:=@List.of_mem_zip
abbrev J2:=@List.nil_append
abbrev J3:=@Int.natCast_pow
abbrev J4:=@List.cons.injEq
abbrev J5:=@List.forIn_cons
abbrev J6:=@List.head?_drop
abbrev J7:=@Int.emod_nonneg
abbrev J8:=@Sum.inr.inj
abbrev J9:=@List.tail_drop
abbrev J_:=@PySem.SeqAt.eqv_refl
abbrev KA:=@Int.le_of_lt
abbrev KB:=@Nat.lt_trans
abbrev KC:=@Nat.pow_succ
abbrev KD:=@PySem.W.kitx_list
abbrev KF:=@PySem.W.kitx_dict
abbrev KG:=@Nat.log2_lt
abbrev KH:=@Iff.rfl
abbrev KI:=@beq_iff_eq
namespace L2
noncomputable abbrev Key:=Sum Int Str
noncomputable def oj:Key→Value→Bool
 | .inl k,v=>Value.isInt k v
 | .inr x,v=>Value.isStrOf x v
noncomputable def FN (w:World):Key→Int
 | .inl k=>hashInt k
 | .inr x=>hashStr w x
theorem aJ:∀ {k:Key}{v:Value},oj k v=true→(∃i t,k=Sum.inl i∧v=Value.int i t)∨(∃x t,k=Sum.inr x∧v=Value.str x t)
 | .inl i,v,h=>by
  obtain⟨t,e⟩:=Value.isInt_shape (k:=i) (v:=v) h
  exact .inl ⟨i,t,rfl,e⟩
 | .inr x,v,h=>by
  obtain⟨t,e⟩:=Value.isStrOf_shape (x:=x) (v:=v) h
  exact .inr ⟨x,t,rfl,e⟩
theorem wc (i:Int)(t:Tok):oj (.inl i) (.int i t)=true:=by simp[oj,Value.isInt]
theorem v_ (x:Str)(t:Tok):oj (.inr x) (.str x t)=true:=by simp[oj,Value.isStrOf]
theorem DH (a b:Int):decide ((Sum.inl a:Key)=Sum.inl b)=(a == b):=by
 by_cases e:a=b
 ·subst e;simp
 ·have h:¬(Sum.inl a:Key)=Sum.inl b:=fun q=>e (Sum.inl.inj q)
  rw[GV h]
  exact(beq_eq_false_iff_ne.mpr e).symm
theorem Ct (a b:Str):decide ((Sum.inr a:Key)=Sum.inr b)=decide (a=b):=by
 by_cases e:a=b
 ·subst e;simp
 ·have h:¬(Sum.inr a:Key)=Sum.inr b:=fun q=>e (J8 q)
  rw[GV h,GV e]
theorem De (a:Int)(b:Str):decide ((Sum.inl a:Key)=Sum.inr b)=false:=GV (fun q=>nomatch q)
theorem Cl (a:Str)(b:Int):decide ((Sum.inr a:Key)=Sum.inl b)=false:=GV (fun q=>nomatch q)
noncomputable def ax (prog:Program)(w:World):PySem.KeyKind prog w Key where
 is:=oj
 hash:=FN w
 inj:=fun v a b ha hb=>by
  rcases aJ ha with⟨i,t,rfl,rfl⟩|⟨x,t,rfl,rfl⟩
  ·rcases aJ hb with⟨j,u,rfl,e⟩|⟨y,u,rfl,e⟩
   ·injection e with e1 _;rw[e1]
   ·exact nomatch e
  ·rcases aJ hb with⟨j,u,rfl,e⟩|⟨y,u,rfl,e⟩
   ·exact nomatch e
   ·injection e with e1 _;rw[e1]
 byValue:=fun k v h=>by
  rcases aJ h with⟨i,t,rfl,rfl⟩|⟨x,t,rfl,rfl⟩ <;> rfl
 pyHash:=fun hv h=>by
  rcases aJ hv with⟨i,t,rfl,rfl⟩|⟨x,t,rfl,rfl⟩
  ·exact wpAny_pyHash_int h
  ·exact wpAny_pyHash_str h
 eqBool:=fun hu hv h=>by
  rcases aJ hu with⟨i,t,rfl,rfl⟩|⟨x,t,rfl,rfl⟩
  ·rcases aJ hv with⟨j,u,rfl,rfl⟩|⟨y,u,rfl,rfl⟩
   ·rw[DH] at h;exact wpAny_eqBool_int h
   ·rw[De] at h;exact SeqAt.EqAt.int_str i t y u _ _ _ _ h
  ·rcases aJ hv with⟨j,u,rfl,rfl⟩|⟨y,u,rfl,rfl⟩
   ·rw[Cl] at h;exact SeqAt.EqAt.str_int x t j u _ _ _ _ h
   ·rw[Ct] at h;exact wpAny_eqBool_str h
 «strs»:=fun k x t v h=>by
  rcases aJ h with⟨i,u,rfl,e⟩|⟨y,u,rfl,e⟩
  ·exact nomatch e
  ·injection e with e1 _
   subst e1
   cases v <;> rfl
theorem qJ (prog:Program)(w:World)(i:Int)(t:Tok):(ax prog w).is (.inl i) (.int i t)=true:=wc i t
theorem j4 (prog:Program)(w:World)(x:Str)(t:Tok):(ax prog w).is (.inr x) (.str x t)=true:=v_ x t
end L2
namespace L2
inductive V where
 | non|bl (b:Bool)|int (i:Int)|str (x:Str)|byt (b:Array UInt8)|flt (b:UInt64)|ref (a:Addr)|ty (n:String)
 deriving DecidableEq
noncomputable def RelV:V→Value→Prop
 | .non,u=>u=Value.none
 | .bl b,u=>u=Value.bool b
 | .int i,u=>∃t,u=Value.int i t
 | .str x,u=>∃t,u=Value.str x t
 | .byt b,u=>∃t,u=Value.bytes b t
 | .flt b,u=>∃t,u=Value.float b t
 | .ref a,u=>u=Value.ref a
 | .ty n,u=>u=Value.type n
noncomputable abbrev Vals:List V→List Value→Prop:=Paired RelV
theorem Vals.length {xs:List V}{us:List Value}(r:Vals xs us):xs.length=us.length:=Paired.length r
theorem Vals.get:∀ {xs:List V}{us:List Value}{i:Nat}{x:V},Vals xs us→xs[i]?=some x→∃u,us[i]?=some u∧RelV x u
 | _,_,_,_,.nil,e=>by simp at e
 | _,_,0,_,.cons r _,e=>by simp at e;subst e;exact⟨_,rfl,r⟩
 | _,_,i+1,x,.cons _ t,e=>by
  obtain⟨u,h1,h2⟩:=Vals.get (i:=i) (x:=x) t (by simpa using e)
  exact⟨u,by simpa using h1,h2⟩
theorem Vals.set {x:V}{u:Value}(r:RelV x u):∀ {xs:List V}{us:List Value} (i:Nat),Vals xs us→Vals (xs.set i x) (us.set i u)
 | _,_,_,.nil=>.nil
 | _,_,0,.cons _ t=>.cons r t
 | _,_,i+1,.cons q t=>.cons q (Vals.set r i t)
theorem Vals.append:∀ {xs ys:List V}{us ws:List Value},Vals xs us→Vals ys ws→Vals (xs++ys) (us++ws)
 | _,_,_,_,.nil,s=>s
 | _,_,_,_,.cons r t,s=>.cons r (Vals.append t s)
theorem Vals.take:∀ {xs:List V}{us:List Value} (n:Nat),Vals xs us→Vals (xs.take n) (us.take n)
 | _,_,0,_=>.nil
 | _,_,_+1,.nil=>.nil
 | _,_,n+1,.cons r t=>.cons r (Vals.take n t)
theorem Vals.drop:∀ {xs:List V}{us:List Value} (n:Nat),Vals xs us→Vals (xs.drop n) (us.drop n)
 | _,_,0,r=>r
 | _,_,_+1,.nil=>.nil
 | _,_,n+1,.cons _ t=>Vals.drop n t
noncomputable def RelO:Option V→Option Value→Prop
 | some v,some u=>RelV v u
 | none,none=>True
 | _,_=>False
noncomputable def KV {κ:Type}:List (κ × V)→List (κ × Value)→Prop:=Paired fun (p:κ × V) (q:κ × Value)=>p.1=q.1∧RelV p.2 q.2
noncomputable def kV:Key→V
 | .inl i=>.int i
 | .inr x=>.str x
inductive HO where
 | lst (xs:List V)
 | tup (xs:List V)
 | dK (kvs:List (Key × V))|dT (kvs:List (List Key × V))
 | set (S:Int→Bool) (n:Nat)
 | ins (C dx:Addr) (fs:List (Str × V))
 | own (x:Addr)
 | xd (fs:List (Str × V))
 | met (f x:Addr)
 | rng (lo hi:Int)
 | frz (o:Obj) (u:HO)
 | tbl (ps:Array Value)
 | ext (φ:Heap→Prop)
noncomputable abbrev Hp:=Addr→Option HO
noncomputable def upd (H:Hp)(a:Addr)(o:HO):Hp:=fun b=>if b=a then some o else H b
theorem au {H:Hp}{a:Addr}{o:HO}:upd H a o a=some o:=by unfold upd;rw[GA rfl]
theorem ac {H:Hp}{a b:Addr}{o:HO}(h:b≠a):upd H a o b=H b:=by unfold upd;rw[F_ h]
theorem EB {H:Hp}{a b:Addr}{o u:HO}(h:H a=some o)(h':H b=some u)(d:o≠u):a≠b:=by
 intro e;subst e;rw[h] at h';exact d (GT h')
theorem aj {H:Hp}{a b:Addr}{o:HO}(h:H a=some o)(h':H b=none):a≠b:=by
 intro e;subst e;rw[h] at h';cases h'
section
variable (P:Program) (w:World)
noncomputable def ObjOk (H:Hp)(h:Heap)(a:Addr):HO→Prop
 | .lst xs=>xs.length≤sizeLine∧∃(its:List Value) (n:Nat),Vals xs its∧h.get? a=some { cls:=.type "list",data:=.seq its.toArray n }
 | .tup xs=>xs.length≤sizeLine∧∃its:List Value,Vals xs its∧IsTup h a its.toArray
 | .dK kvs=>kvs.length≤sizeLine∧(a == sysModules)=false∧∃vs,KV kvs vs∧h.DictOf (ax P w) a vs
 | .dT kvs=>kvs.length≤sizeLine∧(a == sysModules)=false∧∃xs:List (List Key × Addr × Value),
   Paired (fun (p:List Key × V) (q:List Key × Addr × Value)=>p.1=q.1∧H q.2.1=some (.tup (p.1.map kV))∧RelV p.2 q.2.2) kvs xs ∧
   ∃o es ep,h.get? a=some o∧o.ExactDict∧o.data=.dict es ep∧es.toList=xs.map (entryOfKey (tupleKind (ax P w)))∧(xs.map (·.1)).Nodup
 | .set S n=>h.SetOf (intKind P w) a S n
 | .ins C dx fs=>H dx=some (.own a)∧fs.length≤1000∧dx≠a∧h.get? a=some (W.instObj C dx) ∧
   ∃mA,h.Ns1 dx mA∧(∀f,RelO (fs.lookup f) (mA f))∧PySem.Within mA (fs.map (·.1))
 | .own _=>∃o,h.get? a=some o
 | .xd fs=>∃mA,h.Ns1 a mA∧∀f,RelO (fs.lookup f) (mA f)
 | .rng lo hi=>∃t u v,h.get? a=some { cls:=.type "range",data:=.fields #[.int lo t,.int hi u,.int 1 v] }
 | .frz o u=>h.get? a=some o∧ObjOk H h a u
 | .tbl ps=>h.get? a=some { cls:=.none,data:=.fields ps }
 | .met f x=>h.get? a=some (W.methodObj (.ref f) (.ref x))
 | .ext φ=>φ h∧(∃o,h.get? a=some o)∧∀h1 h2:Heap,φ h1→(∀o,h1.get? a=some o→h2.get? a=some o)→φ h2
def HOk (H:Hp)(h:Heap):Prop:=∀a o,H a=some o→ObjOk P w H h a o
end
section
variable {P:Program}{w:World}{H H':Hp}{h h':Heap}{a:Addr}{o:HO}
theorem ObjOk.lt (x:ObjOk P w H h a o):a<h.objs.size:=by
 cases o with
 | lst xs=>obtain⟨_,_,_,_,e⟩:=x;exact GF e
 | tup xs=>obtain⟨_,_,_,p⟩:=x;exact p.lt
 | dK kvs=>obtain⟨_,_,_,_,o,_,_,e,_⟩:=x;exact GF e
 | dT kvs=>obtain⟨_,_,_,_,o,_,_,e,_⟩:=x;exact GF e
 | set S n=>obtain⟨o,_,_,_,e,_⟩:=x;exact GF e
 | ins C dx fs=>obtain⟨_,_,_,e,_⟩:=x;exact GF e
 | own y=>obtain⟨_,e⟩:=x;exact GF e
 | xd fs=>obtain⟨_,⟨_,_,_,e,_⟩,_⟩:=x;exact GF e
 | rng lo hi=>obtain⟨_,_,_,e⟩:=x;exact GF e
 | frz ob u=>obtain⟨e,_⟩:=x;exact GF e
 | tbl ps=>exact GF (show h.get? a=some _ from x)
 | met f y=>exact GF (show h.get? a=some _ from x)
 | ext φ=>obtain⟨_,⟨_,e⟩,_⟩:=x;exact GF e
theorem Paired.mapP {α β:Type}{F G:α→β→Prop}:∀ {l₁:List α}{l₂:List β},Paired F l₁ l₂→(∀a b,F a b→G a b)→Paired G l₁ l₂
 | _,_,.nil,_=>.nil
 | _,_,.cons r t,f=>.cons (f _ _ r) (Paired.mapP t f)
theorem ObjOk.stay (x:ObjOk P w H h a o)(k:∀b u,(b=a∨H b=some (.own a))→h.get? b=some u→h'.get? b=some u)
  (ho:∀b,H b=some (.own a)→H' b=some (.own a)) (ht:∀b xs,H b=some (.tup xs)→H' b=some (.tup xs)):ObjOk P w H' h' a o:=by
 induction o with
 | lst xs=>obtain⟨z,its,n,r,e⟩:=x;exact⟨z,its,n,r,k _ _ (.inl rfl) e⟩
 | tup xs=>obtain⟨z,its,r,ob,e,c⟩:=x;exact⟨z,its,r,ob,k _ _ (.inl rfl) e,c⟩
 | dK kvs=>obtain⟨z,y,vs,r,ob,es,ep,e,c⟩:=x;exact⟨z,y,vs,r,ob,es,ep,k _ _ (.inl rfl) e,c⟩
 | dT kvs =>
  obtain⟨z,y,xs,r,ob,es,ep,e,c⟩:=x
  exact⟨z,y,xs,Paired.mapP r fun p q z=>⟨z.1,ht _ _ z.2.1,z.2.2⟩,ob,es,ep,k _ _ (.inl rfl) e,c⟩
 | set S n=>obtain⟨ob,es,ep,t,e,c⟩:=x;exact⟨ob,es,ep,t,k _ _ (.inl rfl) e,c⟩
 | ins C dx fs =>
  obtain⟨d,z,ne,e,mA,⟨od,es,ep,e2,c⟩,r⟩:=x
  exact⟨ho _ d,z,ne,k _ _ (.inl rfl) e,mA,⟨od,es,ep,k _ _ (.inr d) e2,c⟩,r⟩
 | own y=>obtain⟨ob,e⟩:=x;exact⟨ob,k _ _ (.inl rfl) e⟩
 | xd fs=>obtain⟨mA,⟨od,es,ep,e,c⟩,r⟩:=x;exact⟨mA,⟨od,es,ep,k _ _ (.inl rfl) e,c⟩,r⟩
 | rng lo hi=>obtain⟨t,u,v,e⟩:=x;exact⟨t,u,v,k _ _ (.inl rfl) e⟩
 | frz ob u ih=>obtain⟨e,q⟩:=x;exact⟨k _ _ (.inl rfl) e,ih q⟩
 | tbl ps =>
  have e:h.get? a=some { cls:=.none,data:=.fields ps }:=x
  show h'.get? a=some { cls:=.none,data:=.fields ps }
  exact k a _ (.inl rfl) e
 | met f y =>
  have e:h.get? a=some (W.methodObj (.ref f) (.ref y)):=x
  show h'.get? a=some (W.methodObj (.ref f) (.ref y))
  exact k a _ (.inl rfl) e
 | ext φ=>obtain⟨p,⟨o,e⟩,st⟩:=x;exact⟨st _ _ p fun o q=>k _ _ (.inl rfl) q,⟨o,k _ _ (.inl rfl) e⟩,st⟩
theorem HOk.lt (x:HOk P w H h)(e:H a=some o):a<h.objs.size:=(x a o e).lt
theorem HOk.fresh (x:HOk P w H h)(e:h.objs.size≤a):H a=none:=by
 cases q:H a with
 | none=>rfl
 | some u=>exact absurd (F3 (x.lt q) e) (IN _)
theorem HOk.kept (x:HOk P w H h)(k:∀b u,h.get? b=some u→h'.get? b=some u):HOk P w H h':=fun a o e =>
 (x a o e).stay (fun b u _ q=>k b u q) (fun _ q=>q) fun _ _ q=>q
theorem HOk.laid (x:HOk P w H h)(k:∀b u,h.get? b=some u→h'.get? b=some u)(hp:h.objs.size≤a)(new:ObjOk P w (upd H a o) h' a o):HOk P w (upd H a o) h':=fun b u e=>by
 have hn:=x.fresh hp
 by_cases hb:b=a
 ·subst hb;rw[au] at e;cases e;exact new
 ·rw[ac hb] at e
  exact(x b u e).stay (fun c v _ q=>k c v q) (fun c q=>by rw[ac (aj q hn)];exact q) fun c xs q=>by rw[ac (aj q hn)];exact q
end
def Rd (H:Hp)(a:Addr)(u:HO):Prop:=H a=some u∨∃o,H a=some (.frz o u)
theorem Rd.ok {P:Program}{w:World}{H:Hp}{h:Heap}{a:Addr}{u:HO}(r:Rd H a u)(x:HOk P w H h):ObjOk P w H h a u:=by
 rcases r with r|⟨o,r⟩
 ·exact x a u r
 ·obtain⟨_,q⟩:=x a _ r
  exact q
noncomputable def Mut:Option HO→Prop
 | some (.lst _)=>True
 | some (.dK _)=>True
 | some (.dT _)=>True
 | some (.set _ _)=>True
 | some (.ins _ _ _)=>True
 | some (.ext _)=>True
 | _=>False
section
variable {P:Program}{w:World}{H:Hp}{h h':Heap}{x e:Addr}{o':HO}
theorem HOk.write (ok:HOk P w H h)(mu:Mut (H x))(he:e=x∨H e=some (.own x))(k:∀b u,b≠e→h.get? b=some u→h'.get? b=some u)(heo:∃u,h'.get? e=some u)
  (new:ObjOk P w (upd H x o') h' x o'):HOk P w (upd H x o') h':=fun b u q=>by
 have nown:∀c y,H c=some (.own y)→c≠x:=fun c y r z=>by subst z;rw[r] at mu;exact mu
 have ntup:∀c xs,H c=some (.tup xs)→c≠x:=fun c xs r z=>by subst z;rw[r] at mu;exact mu
 by_cases hb:b=x
 ·subst hb;rw[au] at q;cases q;exact new
 ·rw[ac hb] at q
  by_cases hbe:b=e
  ·have q':H b=some (.own x):=by
    rcases he with z|z
    ·exact absurd (hbe.trans z) hb
    ·rw[hbe];exact z
   rw[q] at q';cases q'
   obtain⟨v,hv⟩:=heo
   exact⟨v,by rw[hbe];exact hv⟩
  ·refine(ok b u q).stay (fun c v hc r=>k c v ?_ r) (fun c r=>by rw[ac (nown c b r)];exact r) fun c xs r=>by rw[ac (ntup c xs r)];exact r
   rcases hc with rfl|hc
   ·exact hbe
   ·rintro rfl
    rcases he with z|z
    ·exact nown c b hc z
    ·rw[hc] at z;cases z;exact hb rfl
end
structure Un (fs ex:List Addr)(H H':Hp)(h h':Heap):Prop where
 keep:∀b o,h.get? b=some o→H b=none→b ∉ fs→b ∉ ex→h'.get? b=some o
 slot:∀b o,h.get? b=some o→H b=none→b∈fs→b ∉ ex→∃sl,h'.get? b=some { o with slots:=sl }
 free:∀b o,h.get? b=some o→H b=none→b ∉ ex→H' b=none
 there:∀b o,h.get? b=some o→b ∉ ex→∃o',h'.get? b=some o'
 tups:∀b xs,H b=some (.tup xs)→H' b=some (.tup xs)
 frzs:∀b o u,H b=some (.frz o u)→H' b=some (.frz o u)
 tbls:∀b ps,H b=some (.tbl ps)→∃more,H' b=some (.tbl (ps++more))
section
variable {fs fs' ex ex':List Addr}{H H1 H2:Hp}{h h1 h2 h':Heap}{a x e:Addr}{o:HO}
theorem Un.any (u:Un fs ex H H1 h h1){b:Addr}{ob:Obj}(q:h.get? b=some ob)(n:H b=none)(hx:b ∉ ex):∃sl,h1.get? b=some { ob with slots:=sl }:=by
 by_cases hb:b∈fs
 ·exact u.slot b ob q n hb hx
 ·exact⟨ob.slots,u.keep b ob q n hb hx⟩
theorem Un.kept (k:∀b u,h.get? b=some u→h'.get? b=some u):Un fs ex H H h h' :=
 ⟨fun b ob q _ _ _=>k b ob q,fun b ob q _ _ _=>⟨ob.slots,k b ob q⟩,fun _ _ _ n _=>n,fun b ob q _=>⟨ob,k b ob q⟩,fun _ _ q=>q,fun _ _ _ q=>q,fun _ ps q=>⟨#[],by rw[q];simp⟩⟩
theorem Un.refl:Un fs ex H H h h:=Un.kept fun _ _ q=>q
theorem Un.laid (k:∀b u,h.get? b=some u→h'.get? b=some u)(hp:h.objs.size≤a)(hn:H a=none):Un fs ex H (upd H a o) h h' where
 keep:=fun b u q _ _ _=>k b u q
 slot:=fun b u q _ _ _=>⟨u.slots,k b u q⟩
 free:=fun b u q n _=>by rw[ac (GS (F3 (GF q) hp))];exact n
 there:=fun b u q _=>⟨u,k b u q⟩
 tups:=fun b xs q=>by rw[ac (aj q hn)];exact q
 frzs:=fun b u xs q=>by rw[ac (aj q hn)];exact q
 tbls:=fun b ps q=>⟨#[],by rw[ac (aj q hn),q];simp⟩
theorem Un.write (mu:Mut (H x))(he:e=x∨H e=some (.own x))(k:∀b u,b≠e→h.get? b=some u→h'.get? b=some u)(heo:∃u,h'.get? e=some u):Un fs ex H (upd H x o) h h':=by
 have hx:∀b,H b=none→b≠x:=fun b n z=>by subst z;rw[n] at mu;exact mu
 have hb:∀b,H b=none→b≠e:=fun b n z=>by
  subst z
  rcases he with r|r
  ·exact hx b n r
  ·rw[n] at r;cases r
 have hm:∀b u,H b=some u→¬Mut (some u)→b≠x:=fun b u q nm z=>by subst z;rw[q] at mu;exact nm mu
 refine⟨fun b u q n _ _=>k b u (hb b n) q,fun b u q n _ _=>⟨u.slots,k b u (hb b n) q⟩,fun b u q n _=>by rw[ac (hx b n)];exact n,fun b u q _=>?_,
  fun b xs q=>by rw[ac (hm b _ q fun z=>z)];exact q,fun b u xs q=>by rw[ac (hm b _ q fun z=>z)];exact q,fun b ps q=>⟨#[],by rw[ac (hm b _ q fun z=>z),q];simp⟩⟩
 by_cases hbe:b=e
 ·subst hbe;exact heo
 ·exact⟨u,k b u hbe q⟩
end
noncomputable def trk (h:Heap)(H:Hp):List Addr:=(List.range h.objs.size).filter fun a=>(H a).isSome
noncomputable def nq (h:Heap)(H:Hp):Heap:=W.hideAll h (trk h H)
theorem vL (h:Heap)(H:Hp):(nq h H).objs.size=h.objs.size:=W.hideAll_size _ _
theorem zR {h:Heap}{H:Hp}{b:Addr}{o:Obj}(e:h.get? b=some o)(n:H b=none):(nq h H).get? b=some o :=
 W.hideAll_get _ e fun hm=>by
  have q:(H b).isSome=true:=(List.mem_filter.mp hm).2
  rw[n] at q;simp at q
theorem Bl {h:Heap}{H:Hp}{b:Addr}{o:Obj}(e:(nq h H).get? b=some o):h.get? b=some o∧H b=none:=by
 have e':h.get? b=some o:=W.of_hideAll (trk h H) e
 refine⟨e',?_⟩
 cases q:H b with
 | none=>rfl
 | some x =>
  have hm:b∈trk h H:=List.mem_filter.mpr ⟨List.mem_range.mpr (GF e'),by simp[q]⟩
  have z:(nq h H).get? b=none:=W.hideAll_none (trk h H) hm
  rw[z] at e;cases e
end L2
namespace L2
structure Mod (K:W.Frag)(mg:Str→Option Value)(base:Heap):Prop where
 kin:K.In base
 glob:base.Ns mainGlobals mg
 blt:∃mb,base.Ns builtinsNs mb∧∀x:Str,x≠"__name__"→mb x=bootBuiltins x
 nolimit:base.NoLimit
structure Cx where
 prog:Program
 w:World
 K:W.Frag
 mg:Str→Option Value
 base:Heap
 A:Around
 N:List Str
 s₀:Shared
 H₀:Hp
 env:Env
 outer:List Env
 stack:List Env
 ex:List Addr
 fn:Str→Bool
 calm:Bool
 pn:List (Addr × Obj)
 xe:Value→Shared→Prop
noncomputable def frs (l:List Env):List Addr:=l.filterMap (·.frame)
noncomputable abbrev Cx.fs (X:Cx):List Addr:=frs X.outer
def Vis (sc:Scope)(x:Str):Prop:=sc.names.lookup x=some .local∨sc.names.lookup x=some .cell∨sc.names.lookup x=some .free
def Loc (sc:Scope)(x:Str):Prop:=sc.names.lookup x=some .local∨sc.names.lookup x=some .cell
def FE (env:Env)(h:Heap)(m:Str→Option Value)(x:Str)(u:Value):Prop :=
 (env.kindOf x=some .local∧m x=some u)∨((env.kindOf x=some .cell∨env.kindOf x=some .free)∧∃c,env.cells.lookup x=some c∧h.IsCell c (some u))
structure Cx.Ok (X:Cx):Prop where
 mod:Mod X.K X.mg X.base
 kind:X.env.scope.kind=.function
 glob:X.env.globals=mainGlobals
 blt:X.env.builtins=builtinsNs
 above:X.s₀.heap.objs.size≤X.env.locals
 inj:∀x y c,X.env.cells.lookup x=some c→X.env.cells.lookup y=some c→x=y
 has:∀x,(X.env.kindOf x=some .cell∨X.env.kindOf x=some .free)→∃c,X.env.cells.lookup x=some c
 cab:∀x c,X.fn x=true→X.env.cells.lookup x=some c→X.s₀.heap.objs.size≤c
 hd:X.calm=true→X.A.handled=none
 frames:X.A.frames=some X.stack
 stk:X.stack=X.outer∨(X.stack=X.env::X.outer∧X.env.frame=some X.env.locals)
 exf:∀b∈X.ex,b≠X.env.locals∧∀x c,X.env.cells.lookup x=some c→c≠b
 bs:∀b o,X.base.get? b=some o→X.s₀.heap.get? b=some o∧X.H₀ b=none
 bsz:X.base.objs.size≤X.s₀.heap.objs.size
 noex:∀b o,X.base.get? b=some o→b ∉ X.ex
 exfs:∀b∈X.ex,b ∉ X.fs
 funs:X.s₀.heap.FunFrames X.base X.outer
 frf:∀b∈X.fs,X.H₀ b=none
structure Inv (X:Cx)(pins:List (Addr × Obj))(σ:List (Option V))(H:Hp)(s:Shared):Prop where
 ok:X.Ok
 os:s.os=X.s₀.os
 bare:AllBare s.gens
 base:Un X.fs X.ex X.H₀ H X.s₀.heap s.heap
 loc:∃m,s.heap.Ns X.env.locals m∧∀(i:Nat) (x:Str) (v:V),X.N[i]?=some x→σ[i]?=some (some v)→Vis X.env.scope x→∃u,RelV v u∧FE X.env s.heap m x u
 cell:∀x c,X.env.cells.lookup x=some c→∃v,s.heap.IsCell c v
 free:H X.env.locals=none
 freeC:∀x c,X.env.cells.lookup x=some c→H c=none
 pin:∀p∈X.pn++pins,s.heap.get? p.1=some p.2∧H p.1=none∧p.1≠X.env.locals∧p.1 ∉ X.fs∧∀v,p.2.data≠.cell v
 hok:HOk X.prog X.w H s.heap
 len:σ.length=X.N.length
section
variable {X:Cx}{pins:List (Addr × Obj)}{σ:List (Option V)}{H H':Hp}{s:Shared}{h':Heap}
theorem Cx.Ok.nofr (ok:X.Ok){b:Addr}{o:Obj}(e:X.base.get? b=some o):b ∉ X.fs:=fun hb=>by
 have:=(ok.funs.mem hb).1
 rw[e] at this;cases this
theorem Inv.bs (I:Inv X pins σ H s):∀b o,X.base.get? b=some o→s.heap.get? b=some o∧H b=none:=fun b o e =>
 ⟨I.base.keep b o (I.ok.bs b o e).1 (I.ok.bs b o e).2 (I.ok.nofr e) (I.ok.noex b o e),I.base.free b o (I.ok.bs b o e).1 (I.ok.bs b o e).2 (I.ok.noex b o e)⟩
theorem Inv.bk (I:Inv X pins σ H s):∀b o,X.base.get? b=some o→s.heap.get? b=some o:=fun b o e=>(I.bs b o e).1
theorem Inv.mod (I:Inv X pins σ H s):Mod X.K X.mg X.base:=I.ok.mod
theorem Inv.kIn (I:Inv X pins σ H s):X.K.In s.heap:=I.ok.mod.kin.keeps I.bk
theorem Inv.lt (I:Inv X pins σ H s):X.env.locals<s.heap.objs.size:=let ⟨_,hn,_⟩:=I.loc;hn.lt
theorem Inv.sz (I:Inv X pins σ H s):X.s₀.heap.objs.size≤s.heap.objs.size:=GW I.ok.above (HQ I.lt)
theorem Inv.nofs (I:Inv X pins σ H s){a:Addr}(h:s.heap.objs.size≤a):a ∉ X.fs:=fun hb=>by
 obtain⟨_,o,ho,_⟩:=I.ok.funs.mem hb
 exact absurd (F3 (GF ho) (GW I.sz h)) (IN _)
theorem Inv.cne (I:Inv X pins σ H s):∀x c,X.env.cells.lookup x=some c→c≠X.env.locals:=fun x c e z=>by
 obtain⟨v,o,ho,hd⟩:=I.cell x c e
 obtain⟨m,⟨o',es,ep,ho',hd',_⟩,_⟩:=I.loc
 rw[z,ho'] at ho;cases ho;rw[hd'] at hd;cases hd
theorem Inv.funs (I:Inv X pins σ H s):s.heap.FunFrames X.base X.outer:=by
 have all:∀(l:List Env),(∀b∈frs l,b∈X.fs)→X.s₀.heap.FunFrames X.base l→s.heap.FunFrames X.base l:=by
  intro l
  induction l with
  | nil=>intro _ _;trivial
  | cons env r ih =>
   intro hs hl
   obtain⟨hk,⟨L,o,hf,hn,ho,hd⟩,hr⟩:=hl
   have hL:L∈X.fs:=hs L (by unfold frs;rw[HH,hf];exact GQ)
   obtain⟨sl,e⟩:=I.base.slot L o ho (I.ok.frf L hL) hL fun z=>I.ok.exfs L z hL
   exact⟨hk,⟨L,_,hf,hn,e,hd⟩,ih (fun b hb=>hs b (by unfold frs;rw[HH,hf];exact GO _ hb)) hr⟩
 exact all X.outer (fun _ hb=>hb) I.ok.funs
theorem Inv.stack (I:Inv X pins σ H s):s.heap.FunFrames X.base X.stack:=by
 rcases I.ok.stk with e|⟨e,hf⟩
 ·rw[e];exact I.funs
 ·rw[e]
  obtain⟨m,hn,_⟩:=I.loc
  refine .cons (by rw[I.ok.kind];decide) hf hn ?_ I.funs
  exact Heap.get?_none_of_le (GW I.ok.bsz I.ok.above)
theorem Inv.stkSub (I:Inv X pins σ H s):∀b∈frs X.stack,b∈X.env.locals::X.fs:=fun b hb=>by
 rcases I.ok.stk with e|⟨e,hf⟩
 ·rw[e] at hb;exact GO _ hb
 ·rw[e] at hb
  unfold frs at hb
  rw[HH,hf] at hb
  exact hb
theorem Inv.stkFree (I:Inv X pins σ H s):∀b∈frs X.stack,H b=none:=fun b hb=>by
 rcases HA.mp (I.stkSub b hb) with e|hb
 ·rw[e];exact I.free
 ·obtain⟨_,o,ho,_⟩:=I.ok.funs.mem hb
  exact I.base.free b o ho (I.ok.frf b hb) fun z=>I.ok.exfs b z hb
theorem Inv.step {g':Array GenState}{t':Nat}{d':Drawn}{ch:List Addr}(I:Inv X pins σ H s)
  (hch:∀b∈ch,(b∈X.ex∨X.s₀.heap.objs.size≤b)∧b≠X.env.locals∧(∀x c,X.env.cells.lookup x=some c→c≠b)∧∀p∈X.pn++pins,p.1≠b)
  (keep:∀b o,b≠X.env.locals→b ∉ X.fs→b ∉ ch→s.heap.get? b=some o→H b=none→h'.get? b=some o)
  (slot:∀b o,b≠X.env.locals→b∈X.fs→b ∉ ch→s.heap.get? b=some o→H b=none→∃sl,h'.get? b=some { o with slots:=sl }) (free:∀b o,b ∉ ch→s.heap.get? b=some o→H b=none→H' b=none)
  (there:∀b o,b ∉ ch→s.heap.get? b=some o→∃o',h'.get? b=some o')
  (tups:∀b xs,H b=some (.tup xs)→H' b=some (.tup xs)) (frzs:∀b o u,H b=some (.frz o u)→H' b=some (.frz o u)) (tbls:∀b ps,H b=some (.tbl ps)→∃more,H' b=some (.tbl (ps++more)))
  (ns:∀m,s.heap.Ns X.env.locals m→h'.Ns X.env.locals m) (hok:HOk X.prog X.w H' h') (hg:AllBare g') :
  Inv X pins σ H' { s with heap:=h',gens:=g',drawn:=d',toks:=t' }:=by
 have neL:∀b o,X.s₀.heap.get? b=some o→b≠X.env.locals:=fun b o e=>GS (F3 (GF e) I.ok.above)
 have neC:∀b o,X.s₀.heap.get? b=some o→b ∉ X.ex→b ∉ ch:=fun b o e hx hb=>by
  rcases (hch b hb).1 with z|z
  ·exact hx z
  ·exact absurd (F3 (GF e) z) (IN _)
 have cellK:∀x c,X.env.cells.lookup x=some c→∀v,s.heap.IsCell c v→h'.IsCell c v:=fun x c e v ⟨o,ho,hd⟩=>by
  have nch:c ∉ ch:=fun z=>(hch c z).2.2.1 x c e rfl
  by_cases hc:c∈X.fs
  ·obtain⟨sl,q⟩:=slot c o (I.cne x c e) hc nch ho (I.freeC x c e)
   exact⟨_,q,hd⟩
  ·exact⟨o,keep c o (I.cne x c e) hc nch ho (I.freeC x c e),hd⟩
 refine⟨I.ok,I.os,hg,⟨fun b o e n hb hx=>?_,fun b o e n hb hx=>?_,fun b o e n hx=>?_,fun b o e hx=>?_,fun b xs e=>tups b xs (I.base.tups b xs e),fun b o xs e=>frzs b o xs (I.base.frzs b o xs e),fun b ps e=>?_⟩,?_,fun x c e=>?_,?_,fun x c e=>?_,fun p hp=>?_,hok,I.len⟩
 ·exact keep b o (neL b o e) hb (neC b o e hx) (I.base.keep b o e n hb hx) (I.base.free b o e n hx)
 ·obtain⟨sl,e1⟩:=I.base.slot b o e n hb hx
  obtain⟨sl',e2⟩:=slot b _ (neL b o e) hb (neC b o e hx) e1 (I.base.free b o e n hx)
  exact⟨sl',e2⟩
 ·obtain⟨o',e1⟩:=I.base.there b o e hx
  exact free b o' (neC b o e hx) e1 (I.base.free b o e n hx)
 ·obtain⟨o',e1⟩:=I.base.there b o e hx
  exact there b o' (neC b o e hx) e1
 ·obtain⟨m1,e1⟩:=I.base.tbls b ps e
  obtain⟨m2,e2⟩:=tbls b _ e1
  exact⟨m1++m2,by rw[e2,Array.append_assoc]⟩
 ·obtain⟨m,hn,hl⟩:=I.loc
  refine⟨m,ns m hn,fun i x v e1 e2 e3=>?_⟩
  obtain⟨u,r,l⟩:=hl i x v e1 e2 e3
  refine⟨u,r,?_⟩
  rcases l with l|⟨k,c,e,z⟩
  ·exact .inl l
  ·exact .inr ⟨k,c,e,cellK x c e _ z⟩
 ·obtain⟨v,z⟩:=I.cell x c e
  exact⟨v,cellK x c e v z⟩
 ·obtain⟨m,⟨o,_,_,ho,_⟩,_⟩:=I.loc
  exact free _ o (fun z=>(hch _ z).2.1 rfl) ho I.free
 ·obtain⟨v,o,ho,hd⟩:=I.cell x c e
  exact free c o (fun z=>(hch c z).2.2.1 x c e rfl) ho (I.freeC x c e)
 ·obtain⟨e,n,ne,nf,d⟩:=I.pin p hp
  have nch:p.1 ∉ ch:=fun z=>(hch p.1 z).2.2.2 p hp rfl
  exact⟨keep p.1 p.2 ne nf nch e n,free p.1 p.2 nch e n,ne,nf,d⟩
theorem Inv.un {t':Nat}(I:Inv X pins σ H s)(u:Un X.fs [] H H' s.heap h')(hok:HOk X.prog X.w H' h'):Inv X pins σ H' { s with heap:=h',toks:=t' }:=by
 obtain⟨m,⟨o,es,ep,ho,r⟩,_⟩:=id I.loc
 obtain⟨sl,hL⟩:=u.any ho I.free (by simp)
 exact I.step (g':=s.gens) (d':=s.drawn) (ch:=[]) (fun _ z=>nomatch z) (fun b o _ hb _ e n=>u.keep b o e n hb (by simp)) (fun b o _ hb _ e n=>u.slot b o e n hb (by simp)) (fun b o _ e n=>u.free b o e n (by simp)) (fun b o _ e=>u.there b o e (by simp)) u.tups u.frzs u.tbls (fun m' hm=>by
  obtain⟨o',es',ep',ho',r'⟩:=hm
  rw[ho] at ho';cases ho'
  exact⟨_,es',ep',hL,r'⟩) hok I.bare
theorem Inv.call {g':Array GenState}{t':Nat}{d':Drawn}{ch:List Addr}(I:Inv X pins σ H s)(u:Un (frs X.stack) ch H H' s.heap h')(hok:HOk X.prog X.w H' h')(hg:AllBare g')
  (hch:∀b∈ch,(b∈X.ex∨X.s₀.heap.objs.size≤b)∧b≠X.env.locals∧(∀x c,X.env.cells.lookup x=some c→c≠b)∧∀p∈X.pn++pins,p.1≠b) :
  Inv X pins σ H' { s with heap:=h',gens:=g',drawn:=d',toks:=t' }:=by
 obtain⟨m,⟨o,es,ep,ho,r⟩,_⟩:=id I.loc
 obtain⟨sl,hL⟩:=u.any ho I.free fun z=>(hch _ z).2.1 rfl
 exact I.step (ch:=ch) hch (fun b o hL hb hc e n=>u.keep b o e n (fun z=>(HA.mp (I.stkSub b z)).elim hL hb) hc) (fun b o _ _ hc e n=>u.any e n hc) (fun b o hc e n=>u.free b o e n hc) (fun b o hc e=>u.there b o e hc) u.tups u.frzs u.tbls (fun m' hm=>by
  obtain⟨o',es',ep',ho',r'⟩:=hm
  rw[ho] at ho';cases ho'
  exact⟨_,es',ep',hL,r'⟩) hok hg
theorem Inv.turned {t':Nat}{it:Addr}(I:Inv X pins σ H s)(k:∀b o,b≠it→s.heap.get? b=some o→h'.get? b=some o)(hn:H it=none)(hL:it≠X.env.locals)
  (h1:it∈X.ex∨X.s₀.heap.objs.size≤it) (h2:∀x c,X.env.cells.lookup x=some c→c≠it) (h3:∀p∈X.pn++pins,p.1≠it):Inv X pins σ H { s with heap:=h',toks:=t' }:=by
 have nit:∀b u,H b=some u→b≠it:=fun b u e z=>by rw[z,hn] at e;cases e
 refine I.step (g':=s.gens) (d':=s.drawn) (ch:=[it]) (fun b hb=>?_) (fun b o _ _ hc e _=>k b o (fun z=>hc (by simp[z])) e) (fun b o _ _ hc e _=>⟨o.slots,k b o (fun z=>hc (by simp[z])) e⟩) (fun _ _ _ _ n=>n)
  (fun b o hc e=>⟨o,k b o (fun z=>hc (by simp[z])) e⟩) (fun _ _ e=>e) (fun _ _ _ e=>e) (fun b ps e=>⟨#[],by rw[e];simp⟩) (fun m hm=>?_) (fun b u e=>?_) I.bare
 ·have e:b=it:=by simpa using hb
  subst e
  exact⟨h1,hL,h2,h3⟩
 ·obtain⟨o,es,ep,ho,r⟩:=hm
  exact⟨o,es,ep,k _ o (Ne.symm hL) ho,r⟩
 ·refine(I.hok b u e).stay (fun c v hc q=>k c v ?_ q) (fun _ q=>q) fun _ _ q=>q
  rcases hc with z|z
  ·rw[z];exact nit b u e
  ·exact nit c _ z
theorem Inv.tok (I:Inv X pins σ H s)(t:Nat):Inv X pins σ H { s with toks:=t }:=I.un (h':=s.heap) (t':=t) Un.refl I.hok
theorem Inv.kept {t':Nat}(I:Inv X pins σ H s)(k:∀b u,s.heap.get? b=some u→h'.get? b=some u):Inv X pins σ H { s with heap:=h',toks:=t' }:=I.un (Un.kept k) (I.hok.kept k)
theorem Inv.laid {a:Addr}{o:HO}{t':Nat}(I:Inv X pins σ H s)(k:∀b u,s.heap.get? b=some u→h'.get? b=some u)(hp:s.heap.objs.size≤a)(new:ObjOk X.prog X.w (upd H a o) h' a o) :
  Inv X pins σ (upd H a o) { s with heap:=h',toks:=t' }:=I.un (Un.laid k hp (I.hok.fresh hp)) (I.hok.laid k hp new)
theorem Inv.write {x e:Addr}{o:HO}{t':Nat}(I:Inv X pins σ H s)(mu:Mut (H x))(he:e=x∨H e=some (.own x))(k:∀b u,b≠e→s.heap.get? b=some u→h'.get? b=some u)(heo:∃u,h'.get? e=some u)
  (new:ObjOk X.prog X.w (upd H x o) h' x o):Inv X pins σ (upd H x o) { s with heap:=h',toks:=t' }:=I.un (Un.write mu he k heo) (I.hok.write mu he k heo new)
theorem Inv.pins_of {pins':List (Addr × Obj)}(I:Inv X pins σ H s)(h:∀p∈pins',s.heap.get? p.1=some p.2∧H p.1=none∧p.1≠X.env.locals∧p.1 ∉ X.fs∧∀v,p.2.data≠.cell v):Inv X pins' σ H s :=
 ⟨I.ok,I.os,I.bare,I.base,I.loc,I.cell,I.free,I.freeC,fun p hp=>(F7.mp hp).elim (fun z=>I.pin p (List.mem_append_left _ z)) (h p),I.hok,I.len⟩
theorem qR {N:List Str}(hN:N.Nodup){i j:Nat}{x:Str}(a:N[i]?=some x)(b:N[j]?=some x):i=j:=by
 obtain⟨h1,e1⟩:=FY.mp a
 obtain⟨h2,e2⟩:=FY.mp b
 exact(List.getElem_inj hN).mp (e1.trans e2.symm)
theorem oh {M:Model}{A:Around}{E:Value→Shared→Prop}{i:Nat}{x:Str}{v:V}{u:Value}{Q:Unit→Shared→Prop}(I:Inv X pins σ H s)(hN:X.N.Nodup)(hi:X.N[i]?=some x)(hx:Loc X.env.scope x)(r:RelV v u)
  (h:∀s',Inv X pins (σ.set i (some v)) H s'→(∃a,Heap.SameBut a s.heap s'.heap∧(a=X.env.locals∨X.env.cells.lookup x=some a))→Q () s') (hf:X.fn x=true∨X.env.scope.names.lookup x=some .local:=by first|exact .inl rfl|exact .inr rfl|assumption):wpAny M A (storeName X.env x u) Q E s:=by
 obtain⟨m,hn,hl⟩:=id I.loc
 have hcls:(X.env.scope.kind == .class || (X.env.scope.kind == .module && X.env.locals != X.env.globals))=false:=by rw[I.ok.kind];rfl
 have hiσ:i<σ.length:=by rw[I.len];exact(FY.mp hi).1
 have cne:=I.cne
 have tracked:∀ {a:Addr}{h':Heap},(∃o,s.heap.get? a=some o∧H a=none)→Heap.SameBut a s.heap h'→HOk X.prog X.w H h':=fun {a h'} ha hs b ob e=>by
  obtain⟨_,_,hfree⟩:=ha
  refine(I.hok b ob e).stay (fun c w' hc q=>(hs.2 c ?_).trans q) (fun _ q=>q) fun _ _ q=>q
  rintro rfl
  rcases hc with rfl|hc
  ·rw[hfree] at e;cases e
  ·rw[hfree] at hc;cases hc
 rcases hx with hk|hk
 ·refine wpAny_storeName_local hk hn (fun h' hn' hs=>?_) hcls
  obtain⟨oL,_,_,hoL,_⟩:=id hn
  refine h _ ⟨I.ok,I.os,I.bare,⟨fun b o e n hb hx=>?_,fun b o e n hb hx=>?_,I.base.free,fun b o e hx=>?_,I.base.tups,I.base.frzs,I.base.tbls⟩,⟨_,hn',fun j y v' e1 e2 e3=>?_⟩,fun y c e=>?_,I.free,I.freeC,fun p hp=>?_,tracked ⟨oL,hoL,I.free⟩ hs,by simpa using I.len⟩ ⟨_,hs,.inl rfl⟩
  ·exact(hs.2 b (GS (F3 (GF e) I.ok.above))).trans (I.base.keep b o e n hb hx)
  ·obtain⟨sl,e1⟩:=I.base.slot b o e n hb hx
   exact⟨sl,(hs.2 b (GS (F3 (GF e) I.ok.above))).trans e1⟩
  ·obtain⟨o',e1⟩:=I.base.there b o e hx
   exact⟨o',(hs.2 b (GS (F3 (GF e) I.ok.above))).trans e1⟩
  ·by_cases hj:j=i
   ·subst hj
    rw[hi] at e1;cases e1
    rw[GB hiσ] at e2
    cases e2
    exact⟨u,r,.inl ⟨hk,by simp⟩⟩
   ·rw[F6 (Ne.symm hj)] at e2
    obtain⟨u',r',q⟩:=hl j y v' e1 e2 e3
    refine⟨u',r',?_⟩
    rcases q with⟨k,e⟩|⟨k,c,e,z⟩
    ·refine .inl ⟨k,?_⟩
     have:y≠x:=fun e=>hj (qR hN e1 (e ▸ hi))
     simp[this,e]
    ·exact .inr ⟨k,c,e,z.sameBut hs (cne y c e)⟩
  ·obtain⟨w',z⟩:=I.cell y c e
   exact⟨w',z.sameBut hs (cne y c e)⟩
  ·obtain⟨e,n,ne,nf,d⟩:=I.pin p hp
   exact⟨(hs.2 p.1 ne).trans e,n,ne,nf,d⟩
 ·have hfn:X.fn x=true:=by
   rcases hf with z|z
   ·exact z
   ·rw[z] at hk;cases hk
  obtain⟨c,hc⟩:=I.ok.has x (.inl hk)
  obtain⟨w',z⟩:=I.cell x c hc
  refine wpAny_storeName_cell I.ok.kind hk hc z (fun h' hc' hs=>?_)
  obtain⟨oc,hoc,hocd⟩:=id z
  refine h { s with heap:=h' } ⟨I.ok,I.os,I.bare,⟨fun b o e n hb hx=>?_,fun b o e n hb hx=>?_,I.base.free,fun b o e hx=>?_,I.base.tups,I.base.frzs,I.base.tbls⟩,⟨m,hn.sameBut hs (Ne.symm (cne x c hc)),fun j y v' e1 e2 e3=>?_⟩,fun y c' e=>?_,I.free,I.freeC,fun p hp=>?_,tracked ⟨oc,hoc,I.freeC x c hc⟩ hs,by simpa using I.len⟩ ⟨c,hs,.inr hc⟩
  ·exact(hs.2 b (GS (F3 (GF e) (I.ok.cab x c hfn hc)))).trans (I.base.keep b o e n hb hx)
  ·obtain⟨sl,e1⟩:=I.base.slot b o e n hb hx
   exact⟨sl,(hs.2 b (GS (F3 (GF e) (I.ok.cab x c hfn hc)))).trans e1⟩
  ·obtain⟨o',e1⟩:=I.base.there b o e hx
   exact⟨o',(hs.2 b (GS (F3 (GF e) (I.ok.cab x c hfn hc)))).trans e1⟩
  ·by_cases hj:j=i
   ·subst hj
    rw[hi] at e1;cases e1
    rw[GB hiσ] at e2
    cases e2
    exact⟨u,r,.inr ⟨.inl hk,c,hc,hc'⟩⟩
   ·rw[F6 (Ne.symm hj)] at e2
    obtain⟨u',r',q⟩:=hl j y v' e1 e2 e3
    refine⟨u',r',?_⟩
    rcases q with q|⟨k,c',e,z'⟩
    ·exact .inl q
    ·refine .inr ⟨k,c',e,z'.sameBut hs ?_⟩
     rintro rfl
     exact hj (qR hN e1 (I.ok.inj _ _ _ e hc ▸ hi))
  ·by_cases hcc:c'=c
   ·subst hcc;exact⟨_,hc'⟩
   ·obtain⟨w2,z2⟩:=I.cell y c' e
    exact⟨w2,z2.sameBut hs hcc⟩
  ·obtain⟨e,n,ne,nf,d⟩:=I.pin p hp
   refine⟨(hs.2 p.1 ?_).trans e,n,ne,nf,d⟩
   intro q
   rw[q,hoc] at e
   have q':oc=p.2:=GT e
   exact d w' (by rw[←q'];exact hocd)
theorem eW {M:Model}{A:Around}{E:Value→Shared→Prop}{i:Nat}{x:Str}{v:V}{u:Value}{Q:Unit→Shared→Prop}(I:Inv X pins σ H s)(hN:X.N.Nodup)(hi:X.N[i]?=some x)(hx:Loc X.env.scope x)(r:RelV v u)
  (h:∀s',Inv X pins (σ.set i (some v)) H s'→Q () s') (hf:X.fn x=true∨X.env.scope.names.lookup x=some .local:=by first|exact .inl rfl|exact .inr rfl|assumption):wpAny M A (storeName X.env x u) Q E s :=
 oh I hN hi hx r (fun s' I' _=>h s' I') hf
theorem Inv.call' {s':Shared}{ch:List Addr}(I:Inv X pins σ H s)(ho:s'.os=s.os)(u:Un (frs X.stack) ch H H' s.heap s'.heap)(hok:HOk X.prog X.w H' s'.heap)(hg:AllBare s'.gens)
  (hch:∀b∈ch,(b∈X.ex∨X.s₀.heap.objs.size≤b)∧b≠X.env.locals∧(∀x c,X.env.cells.lookup x=some c→c≠b)∧∀p∈X.pn++pins,p.1≠b):Inv X pins σ H' s':=by
 obtain⟨h',g',d',t',o'⟩:=s'
 have e:o'=s.os:=ho
 subst e
 exact I.call (g':=g') (t':=t') (d':=d') u hok hg hch
end
noncomputable abbrev XK:=Value→Option Addr→Hp→Prop
noncomputable abbrev St:=List (Option V)
noncomputable abbrev VK:=V→Hp→Prop
noncomputable abbrev TE:=St→Hp→VK→Prop
noncomputable abbrev TT:=St→Hp→(Bool→Hp→Prop)→Prop
noncomputable abbrev TA:=St→Hp→(List V→Hp→Prop)→Prop
structure Ends where
 nx:St→Hp→Prop
 rt:VK
 bk:St→Hp→Prop:=fun _ _=>False
 ct:St→Hp→Prop:=fun _ _=>False
noncomputable abbrev TS:=Ends→St→Hp→Prop
def EP (X:Cx)(pins:List (Addr × Obj))(σ:St)(Q:VK)(u:Value)(s':Shared):Prop:=∃v H',Inv X pins σ H' s'∧RelV v u∧Q v H'
def TP (X:Cx)(pins:List (Addr × Obj))(σ:St)(Q:Bool→Hp→Prop)(b:Bool)(s':Shared):Prop:=∃H',Inv X pins σ H' s'∧Q b H'
def AP (X:Cx)(pins:List (Addr × Obj))(σ:St)(Q:List V→Hp→Prop)(us:List Value)(s':Shared):Prop:=∃vs H',Inv X pins σ H' s'∧Vals vs us∧Q vs H'
def SP (X:Cx)(pins:List (Addr × Obj))(D:Ends)(f:Flow)(s':Shared):Prop :=
 match f with
 | .next=>∃σ' H',Inv X pins σ' H' s'∧D.nx σ' H'
 | .brk=>∃σ' H',Inv X pins σ' H' s'∧D.bk σ' H'
 | .cont=>∃σ' H',Inv X pins σ' H' s'∧D.ct σ' H'
 | .ret u=>∃v σ' H',Inv X pins σ' H' s'∧RelV v u∧D.rt v H'
def PE (X:Cx)(e:Expr)(t:TE):Prop :=
 ∀(pins:List (Addr × Obj)) (s:Shared) (σ:St) (H:Hp) (Q:VK),Inv X pins σ H s→t σ H Q→wpAny (model X.prog X.w) X.A (eval e X.env) (EP X pins σ Q) X.xe s
def PT (X:Cx)(e:Expr)(t:TT):Prop :=
 ∀(pins:List (Addr × Obj)) (s:Shared) (σ:St) (H:Hp) (Q:Bool→Hp→Prop),Inv X pins σ H s→t σ H Q→wpAny (model X.prog X.w) X.A (isTrue e X.env (eval e X.env)) (TP X pins σ Q) X.xe s
def PW (X:Cx)(e:Expr)(t:TT):Prop :=
 ∀(whole:Sem Value) (pins:List (Addr × Obj)) (s:Shared) (σ:St) (H:Hp) (Q:Bool→Hp→Prop),Inv X pins σ H s→t σ H Q→wpAny (model X.prog X.w) X.A (isTrue e X.env whole) (TP X pins σ Q) X.xe s
theorem PW.pt {X:Cx}{e:Expr}{t:TT}(h:PW X e t):PT X e t:=h _
def PA (X:Cx)(es:List Expr)(t:TA):Prop :=
 ∀(pos:Pos) (pins:List (Addr × Obj)) (s:Shared) (σ:St) (H:Hp) (Q:List V→Hp→Prop),Inv X pins σ H s→t σ H Q→wpAny (model X.prog X.w) X.A (spliced (backTo pos (starEach es X.env))) (AP X pins σ Q) X.xe s
def PS (X:Cx)(st:Stmt)(t:TS):Prop :=
 ∀(pins:List (Addr × Obj)) (s:Shared) (σ:St) (H:Hp) (D:Ends),Inv X pins σ H s→t D σ H→wpAny (model X.prog X.w) X.A (exec st X.env) (SP X pins D) X.xe s
def PSs (X:Cx)(st:List Stmt)(t:TS):Prop :=
 ∀(pins:List (Addr × Obj)) (s:Shared) (σ:St) (H:Hp) (D:Ends),Inv X pins σ H s→t D σ H→wpAny (model X.prog X.w) X.A (execs st X.env) (SP X pins D) X.xe s
theorem thn {α:Type}{t:Sem α}{Q Q':α→Shared→Prop}{M:Model}{A:Around}{E:Value→Shared→Prop}{s:Shared}(h:wpAny M A t Q E s)(hQ:∀a s,Q a s→Q' a s):wpAny M A t Q' E s:=wpAny_mono h hQ fun _ _ x=>x
end L2
namespace L2
section
variable {X:Cx}
noncomputable def E8 (i:Nat):TE:=fun σ H Q=>∃v,σ[i]?=some (some v)∧Q v H
noncomputable def tC (v:V):TE:=fun _ H Q=>Q v H
theorem CP {i:Nat}{x:Str}{pos:Pos}(hN:X.N[i]?=some x)(hv:Vis X.env.scope x)(hd:(x == ("__debug__":Str))=false:=by decide)(hcd:(x == ("__classdict__":Str))=false:=by decide):PE X (.Name x pos) (E8 i):=by
 intro pins s σ H Q I h
 obtain⟨v,e,h⟩:=h
 obtain⟨m,hn,hl⟩:=I.loc
 obtain⟨u,r,l⟩:=hl i x v hN e hv
 have fin:EP X pins σ Q u s:=⟨v,H,I,r,h⟩
 rcases l with⟨hk,hm⟩|⟨hk,c,hc,hcell⟩
 ·exact wpAny_Name (wpAny_loadName_local I.ok.kind hk hn hm fin) hd
 ·rcases hk with hk|hk
  ·exact wpAny_Name (wpAny_loadName_cell I.ok.kind hk hc hcell fin) hd
  ·exact wpAny_Name (wpAny_loadName_free I.ok.kind hk hc hcell fin hcd) hd
theorem Ch {i j pos}:PE X (.Constant (.int i) j pos) (tC (.int i)):=fun _ _ _ H _ I h=>wpAny_Constant_int ⟨.int i,H,I.tok _,⟨_,rfl⟩,h⟩
theorem Eo {b j pos}:PE X (.Constant (.bool b) j pos) (tC (.bl b)):=fun _ _ _ H _ I h=>Constant_bool ⟨.bl b,H,I,rfl,h⟩
theorem CB {j pos}:PE X (.Constant .none j pos) (tC .non):=fun _ _ _ H _ I h=>Constant_none ⟨.non,H,I,rfl,h⟩
theorem C7 {x j pos}:PE X (.Constant (.str x) j pos) (tC (.str x)):=fun _ _ _ H _ I h=>Calls.Constant_str ⟨.str x,H,I.tok _,⟨_,rfl⟩,h⟩
def Gl (X:Cx)(x:Str):Prop:=X.env.kindOf x=some .globalImplicit
theorem pV {E:Value→Shared→Prop}{pins:List (Addr × Obj)}{s:Shared}{σ:St}{H:Hp}{x:Str}{u:Value}{pos:Pos}{Q:Value→Shared→Prop}(I:Inv X pins σ H s)(hg:Gl X x)(hm:X.mg x=some u)(h:Q u s)
  (hd:(x == ("__debug__":Str))=false:=by decide):wpAny (model X.prog X.w) X.A (eval (.Name x pos) X.env) Q E s :=
 Calls.Name_function_global I.ok.kind hg (Calls.loadGlobal_global (by rw[I.ok.glob];exact I.mod.glob.keeps I.bk) hm h) hd
theorem pU {E:Value→Shared→Prop}{pins:List (Addr × Obj)}{s:Shared}{σ:St}{H:Hp}{x:Str}{u:Value}{pos:Pos}{Q:Value→Shared→Prop}(I:Inv X pins σ H s)(hg:Gl X x)(hm:X.mg x=none)(hv:bootBuiltins x=some u)(h:Q u s)
  (hn:x≠"__name__":=by decide) (hd:(x == ("__debug__":Str))=false:=by decide):wpAny (model X.prog X.w) X.A (eval (.Name x pos) X.env) Q E s:=by
 obtain⟨mb,h1,h2⟩:=I.mod.blt
 exact Calls.Name_function_global I.ok.kind hg (Calls.loadGlobal_builtin (by rw[I.ok.glob];exact I.mod.glob.keeps I.bk) hm (by rw[I.ok.blt];exact h1.keeps I.bk) ((h2 x hn).trans hv) h) hd
theorem Bh {x:Str}{v:V}{u:Value}{pos:Pos}(hg:Gl X x)(hm:X.mg x=some u)(r:RelV v u)(hd:(x == ("__debug__":Str))=false:=by decide):PE X (.Name x pos) (tC v) :=
 fun _ _ _ H _ I h=>pV I hg hm ⟨v,H,I,r,h⟩ hd
theorem Bk {x:Str}{v:V}{u:Value}{pos:Pos}(hg:Gl X x)(hm:X.mg x=none)(hv:bootBuiltins x=some u)(r:RelV v u)(hn:x≠"__name__":=by decide)(hd:(x == ("__debug__":Str))=false:=by decide):PE X (.Name x pos) (tC v) :=
 fun _ _ _ H _ I h=>pU I hg hm hv ⟨v,H,I,r,h⟩ hn hd
variable {a b:Expr}{ta tb:TE}{pos:Pos}
variable {tA tB':TT}{rest:List Expr}
noncomputable def D5 (t u:TT):TT:=fun σ H Q=>t σ H fun c H1=>if c=true then u σ H1 Q else Q false H1
noncomputable def tOr (t u:TT):TT:=fun σ H Q=>t σ H fun c H1=>if c=true then Q true H1 else u σ H1 Q
noncomputable def FM (t:TT):TT:=fun σ H Q=>t σ H fun c H1=>Q (!c) H1
theorem Ba (ha:PT X a tA):PW X (.BoolOp .And [a] pos) tA:=by
 intro wh pins s σ H Q I h
 refine isTrue_and (thn (ha pins s σ H Q I h) fun c s1 e=>?_)
 cases c with
 | true=>exact isTrue_and_nil e
 | false=>exact e
theorem Cj (ha:PT X a tA):PW X (.BoolOp .Or [a] pos) tA:=by
 intro wh pins s σ H Q I h
 refine isTrue_or (thn (ha pins s σ H Q I h) fun c s1 e=>?_)
 cases c with
 | false=>exact isTrue_or_nil e
 | true=>exact e
theorem Dy (ha:PT X a tA)(hb:PW X (.BoolOp .And (b::rest) pos) tB'):PW X (.BoolOp .And (a::b::rest) pos) (D5 tA tB'):=by
 intro wh pins s σ H Q I h
 refine isTrue_and (thn (ha pins s σ H _ I h) fun c s1 ⟨H1,I1,q1⟩=>?_)
 cases c with
 | true=>exact hb wh pins s1 σ H1 Q I1 q1
 | false=>exact⟨H1,I1,q1⟩
theorem D8 (ha:PT X a tA)(hb:PW X (.BoolOp .Or (b::rest) pos) tB'):PW X (.BoolOp .Or (a::b::rest) pos) (tOr tA tB'):=by
 intro wh pins s σ H Q I h
 refine isTrue_or (thn (ha pins s σ H _ I h) fun c s1 ⟨H1,I1,q1⟩=>?_)
 cases c with
 | true=>exact⟨H1,I1,q1⟩
 | false=>exact hb wh pins s1 σ H1 Q I1 q1
theorem CY (ha:PT X a tA):PT X (.UnaryOp .Not a pos) (FM tA):=by
 intro pins s σ H Q I h
 exact isTrue_not (ha pins s σ H (fun c H1=>Q (!c) H1) I h)
noncomputable def DY (ta tb:TE):TE:=fun σ H Q=>ta σ H fun x H1=>∃c,x=.bl c∧if c=true then tb σ H1 Q else Q (.bl false) H1
noncomputable def FK (ta tb:TE):TE:=fun σ H Q=>ta σ H fun x H1=>∃c,x=.bl c∧if c=true then Q (.bl true) H1 else tb σ H1 Q
noncomputable def Ew (ta:TE):TE:=fun σ H Q=>ta σ H fun x H1=>∃c,x=.bl c∧Q (.bl (!c)) H1
theorem zW {op}{t:TE}(h:PE X a t):PE X (.BoolOp op [a] pos) t:=fun pins s σ H Q I hw=>BoolOp_one (h pins s σ H Q I hw)
theorem BY (ha:PE X a ta)(hb:PE X (.BoolOp .And (b::rest) pos) tb):PE X (.BoolOp .And (a::b::rest) pos) (DY ta tb):=by
 intro pins s σ H Q I h
 refine BoolOp_and (thn (ha pins s σ H _ I h) fun v s1 ⟨x,H1,I1,r1,q1⟩=>?_)
 obtain⟨c,rfl,q1⟩:=q1
 cases r1
 refine wpAny_truthy_bool ?_
 cases c with
 | true=>exact hb pins s1 σ H1 Q I1 q1
 | false=>exact⟨.bl false,H1,I1,rfl,q1⟩
theorem Ea (ha:PE X a ta)(hb:PE X (.BoolOp .Or (b::rest) pos) tb):PE X (.BoolOp .Or (a::b::rest) pos) (FK ta tb):=by
 intro pins s σ H Q I h
 refine BoolOp_or (thn (ha pins s σ H _ I h) fun v s1 ⟨x,H1,I1,r1,q1⟩=>?_)
 obtain⟨c,rfl,q1⟩:=q1
 cases r1
 refine wpAny_truthy_bool ?_
 cases c with
 | false=>exact hb pins s1 σ H1 Q I1 q1
 | true=>exact⟨.bl true,H1,I1,rfl,q1⟩
theorem Di (ha:PE X a ta):PE X (.UnaryOp .Not a pos) (Ew ta):=by
 intro pins s σ H Q I h
 refine UnaryOp_ (thn (ha pins s σ H _ I h) fun v s1 ⟨x,H1,I1,r1,q1⟩=>?_)
 obtain⟨c,rfl,q1⟩:=q1
 cases r1
 exact not_of (wpAny_truthy_bool ⟨.bl (!c),H1,I1,rfl,q1⟩)
noncomputable def tIf (t:TT)(ta tb:TE):TE:=fun σ H Q=>t σ H fun c H1=>if c=true then ta σ H1 Q else tb σ H1 Q
theorem wW {c:Expr}(hc:PT X c tA)(ha:PE X a ta)(hb:PE X b tb):PE X (.IfExp c a b pos) (tIf tA ta tb):=by
 intro pins s σ H Q I h
 refine wpAny_IfExp (thn (hc pins s σ H _ I h) fun d s1 ⟨H1,I1,q1⟩=>?_)
 cases d with
 | true=>exact ha pins s1 σ H1 Q I1 q1
 | false=>exact hb pins s1 σ H1 Q I1 q1
end
end L2
namespace L2
def SqL (K:W.Frag)(H:Hp)(a:Addr)(xs:List V):Prop :=
 Rd H a (.lst xs) ∨
  ∃(o:Obj) (its:Array Value) (n:Nat),K.lookup a=some o∧o.cls=.type "list"∧o.dict=none∧o.data=.seq its n∧its.size≤sizeLine∧Vals xs its.toList
def SqT (K:W.Frag)(H:Hp)(a:Addr)(xs:List V):Prop :=
 Rd H a (.tup xs) ∨
  ∃(o:Obj) (its:Array Value) (n:Nat),K.lookup a=some o∧o.cls=.type "tuple"∧o.data=.seq its n∧its.size≤sizeLine∧Vals xs its.toList
noncomputable def Fq:Value→Option V
 | .none=>some .non
 | .bool b=>some (.bl b)
 | .int i _=>some (.int i)
 | .str x _=>some (.str x)
 | .bytes b _=>some (.byt b)
 | .float b _=>some (.flt b)
 | .ref a=>some (.ref a)
 | .type n=>some (.ty n)
 | _=>none
theorem RelV.abs {x:V}{u:Value}(r:RelV x u):Fq u=some x:=by
 cases x with
 | non=>cases r;rfl
 | bl _=>cases r;rfl
 | int _=>obtain⟨t,rfl⟩:=r;rfl
 | str _=>obtain⟨t,rfl⟩:=r;rfl
 | byt _=>obtain⟨t,rfl⟩:=r;rfl
 | flt _=>obtain⟨t,rfl⟩:=r;rfl
 | ref _=>cases r;rfl
 | ty _=>cases r;rfl
theorem RelV.inj {x y:V}{u:Value}(r:RelV x u)(q:RelV y u):x=y:=GT (r.abs.symm.trans q.abs)
theorem Vals.inj:∀ {xs ys:List V}{us:List Value},Vals xs us→Vals ys us→xs=ys
 | _,_,_,.nil,.nil=>rfl
 | _,_,_,.cons r t,.cons r' t'=>by rw[r.inj r',Vals.inj t t']
section
variable {X:Cx}{pins:List (Addr × Obj)}{σ:St}{H:Hp}{s:Shared}{a:Addr}{xs ys:List V}
theorem SqL.of {K:W.Frag}(h:H a=some (.lst xs)):SqL K H a xs:=.inl (.inl h)
theorem SqT.of {K:W.Frag}(h:H a=some (.tup xs)):SqT K H a xs:=.inl (.inl h)
theorem Inv.list (I:Inv X pins σ H s)(h:SqL X.K H a xs):∃its:List Value,Vals xs its∧PlainL s.heap a its.toArray∧xs.length≤sizeLine:=by
 rcases h with h|⟨o,its,n,hk,hc,hd,hs,hz,r⟩
 ·obtain⟨z,its,n,r,e⟩:=h.ok I.hok
  exact⟨its,r,⟨_,n,e,rfl,rfl,rfl⟩,z⟩
 ·refine⟨its.toList,r,⟨o,n,I.kIn a o hk,hc,hd,by simpa using hs⟩,?_⟩
  have e:=r.length
  simp only[Array.length_toList] at e
  omega
theorem Inv.tuple (I:Inv X pins σ H s)(h:SqT X.K H a xs):∃its:List Value,Vals xs its∧IsTup s.heap a its.toArray∧xs.length≤sizeLine:=by
 rcases h with h|⟨o,its,n,hk,hc,hs,hz,r⟩
 ·obtain⟨z,its,r,p⟩:=h.ok I.hok
  exact⟨its,r,p,z⟩
 ·refine⟨its.toList,r,⟨o,I.kIn a o hk,hc,n,by simpa using hs⟩,?_⟩
  have e:=r.length
  simp only[Array.length_toList] at e
  omega
theorem Inv.list_inj (I:Inv X pins σ H s)(h:SqL X.K H a xs)(h':SqL X.K H a ys):xs=ys:=by
 obtain⟨its,r,⟨o,n,e,_,_,d⟩,_⟩:=I.list h
 obtain⟨its',r',⟨o',n',e',_,_,d'⟩,_⟩:=I.list h'
 rw[e] at e';cases e'
 rw[d] at d'
 injection d' with d1 _
 have:its=its':=by simpa using GR Array.toList d1
 subst this
 exact r.inj r'
theorem Inv.tuple_inj (I:Inv X pins σ H s)(h:SqT X.K H a xs)(h':SqT X.K H a ys):xs=ys:=by
 obtain⟨its,r,⟨o,e,_,n,d⟩,_⟩:=I.tuple h
 obtain⟨its',r',⟨o',e',_,n',d'⟩,_⟩:=I.tuple h'
 rw[e] at e';cases e'
 rw[d] at d'
 injection d' with d1 _
 have:its=its':=by simpa using GR Array.toList d1
 subst this
 exact r.inj r'
end
noncomputable abbrev Cx.wish (X:Cx)(E:Value→Shared→Prop):Cx:={ X with xe:=E }
noncomputable abbrev Cx.nox (X:Cx):Cx:=X.wish fun _ _=>False
theorem Cx.Ok.wish {X:Cx}(ok:X.Ok)(E:Value→Shared→Prop):(X.wish E).Ok :=
 ⟨ok.mod,ok.kind,ok.glob,ok.blt,ok.above,ok.inj,ok.has,ok.cab,ok.hd,ok.frames,ok.stk,ok.exf,ok.bs,ok.bsz,ok.noex,ok.exfs,ok.funs,ok.frf⟩
theorem Cx.Ok.unwish {X:Cx}{E:Value→Shared→Prop}(ok:(X.wish E).Ok):X.Ok :=
 ⟨ok.mod,ok.kind,ok.glob,ok.blt,ok.above,ok.inj,ok.has,ok.cab,ok.hd,ok.frames,ok.stk,ok.exf,ok.bs,ok.bsz,ok.noex,ok.exfs,ok.funs,ok.frf⟩
section
variable {X:Cx}{pins:List (Addr × Obj)}{σ:St}{H:Hp}{s:Shared}{E:Value→Shared→Prop}
theorem Inv.wish (I:Inv X pins σ H s)(E:Value→Shared→Prop):Inv (X.wish E) pins σ H s:=⟨I.ok.wish E,I.os,I.bare,I.base,I.loc,I.cell,I.free,I.freeC,I.pin,I.hok,I.len⟩
theorem Inv.unwish (I:Inv (X.wish E) pins σ H s):Inv X pins σ H s:=⟨I.ok.unwish,I.os,I.bare,I.base,I.loc,I.cell,I.free,I.freeC,I.pin,I.hok,I.len⟩
theorem SP.unwish {D:Ends}{f:Flow}{s':Shared}(h:SP (X.wish E) pins D f s'):SP X pins D f s':=by
 cases f with
 | next=>obtain⟨σ',H',I,q⟩:=h;exact⟨σ',H',I.unwish,q⟩
 | brk=>obtain⟨σ',H',I,q⟩:=h;exact⟨σ',H',I.unwish,q⟩
 | cont=>obtain⟨σ',H',I,q⟩:=h;exact⟨σ',H',I.unwish,q⟩
 | ret u=>obtain⟨v,σ',H',I,r,q⟩:=h;exact⟨v,σ',H',I.unwish,r,q⟩
theorem PSs.nox {st:List Stmt}{t:TS}(h:PSs X.nox st t):PSs X st t:=fun pins s σ H D I hw =>
 wpAny_mono (h pins s σ H D (I.wish _) hw) (fun _ _ q=>q.unwish) fun _ _ z=>False.elim z
end
section
variable {X:Cx}{st:Stmt}{rest:List Stmt}{t u:TS}{e:Expr}{te:TE}{pos:Pos}
noncomputable def Bz:TS:=fun D σ H=>D.nx σ H
noncomputable def FJ (t u:TS):TS:=fun D σ H=>t { D with nx:=u D } σ H
theorem A7:PSs X [] Bz:=fun _ _ σ H _ I h=>wpAny_execs_nil ⟨σ,H,I,h⟩
theorem xK (h1:PS X st t)(h2:PSs X rest u):PSs X (st::rest) (FJ t u):=by
 intro pins s σ H D I h
 refine wpAny_execs_cons (thn (h1 pins s σ H { D with nx:=u D } I h) fun f s1 q=>?_)
 cases f with
 | next =>
  obtain⟨σ',H',I',q⟩:=q
  exact h2 pins s1 σ' H' D I' q
 | ret v=>exact q
 | brk=>exact q
 | cont=>exact q
noncomputable def CS:TS:=fun D σ H=>D.bk σ H
noncomputable def En:TS:=fun D σ H=>D.ct σ H
theorem AT:PS X (.Pass pos) Bz:=fun _ _ σ H _ I h=>wpAny_Pass ⟨σ,H,I,h⟩
theorem xI:PS X (.Break pos) CS:=fun _ _ σ H _ I h=>wpAny_Break ⟨σ,H,I,h⟩
theorem qZ:PS X (.Continue pos) En:=fun _ _ σ H _ I h=>wpAny_Continue ⟨σ,H,I,h⟩
theorem Inv.quiet {pins:List (Addr × Obj)}{σ:St}{H:Hp}{s:Shared}(I:Inv X pins σ H s):interactive X.env=false:=by simp[interactive,I.ok.kind]
noncomputable def EM (te:TE):TS:=fun D σ H=>te σ H fun _ H1=>D.nx σ H1
theorem AI (he:PE X e te)(hs:swapsWith e none pos.line X.env=pure false:=by rfl):PS X (.Expr e pos) (EM te):=by
 intro pins s σ H D I h
 exact wpAny_Expr_any (thn (he pins s σ H _ I h) fun v s1 ⟨x,H1,I1,r1,q1⟩=>⟨σ,H1,I1,q1⟩) I.quiet hs
noncomputable def E3 (te:TE):TS:=fun D σ H=>te σ H D.rt
theorem Cb (he:PE X e te):PS X (.Return (some e) pos) (E3 te):=by
 intro pins s σ H D I h
 exact wpAny_Return_some (thn (he pins s σ H _ I h) fun v s1 ⟨x,H1,I1,r1,q1⟩=>⟨x,σ,H1,I1,r1,q1⟩)
noncomputable def DQ:TS:=fun D _ H=>D.rt .non H
theorem AU:PS X (.Return none pos) DQ:=fun _ _ σ H _ I h=>wpAny_Return_none ⟨.non,σ,H,I,rfl,h⟩
noncomputable def Fl (c:TT)(t u:TS):TS:=fun D σ H=>c σ H fun b H1=>if b=true then t D σ H1 else u D σ H1
theorem Ed {c:Expr}{a b:List Stmt}{tc:TT}(hc:PT X c tc)(ha:PSs X a t)(hb:PSs X b u):PS X (.If c a b pos) (Fl tc t u):=by
 intro pins s σ H D I h
 refine wpAny_If (thn (hc pins s σ H _ I h) fun d s1 ⟨H1,I1,q1⟩=>?_)
 cases d with
 | true=>exact ha pins s1 σ H1 D I1 q1
 | false=>exact hb pins s1 σ H1 D I1 q1
end
noncomputable abbrev TG:=V→St→Hp→(St→Hp→Prop)→Prop
noncomputable abbrev TGs:=List V→St→Hp→(St→Hp→Prop)→Prop
def PG (X:Cx)(target:Expr)(t:TG):Prop :=
 ∀(pins:List (Addr × Obj)) (s:Shared) (σ:St) (H:Hp) (v:V) (u:Value) (Q:St→Hp→Prop),Inv X pins σ H s→RelV v u→t v σ H Q →
  wpAny (model X.prog X.w) X.A (assign target X.env u) (fun _ s'=>∃σ' H',Inv X pins σ' H' s'∧Q σ' H') X.xe s
def PGs (X:Cx)(ts:List Expr)(t:TGs):Prop :=
 ∀(pins:List (Addr × Obj)) (s:Shared) (σ:St) (H:Hp) (vs:List V) (us:List Value) (Q:St→Hp→Prop),Inv X pins σ H s→Vals vs us→t vs σ H Q →
  wpAny (model X.prog X.w) X.A (assignInOrder ((assignEach ts X.env).map (·.2)) us) (fun _ s'=>∃σ' H',Inv X pins σ' H' s'∧Q σ' H') X.xe s
noncomputable abbrev Co:=V→V→V→Hp→(Hp→Prop)→Prop
def Du (X:Cx)(t:Co):Prop :=
 ∀(pins:List (Addr × Obj)) (s:Shared) (σ:St) (H:Hp) (o i v:V) (ov iv u:Value) (Q:Hp→Prop),Inv X pins σ H s→RelV o ov→RelV i iv→RelV v u→t o i v H Q →
  wpAny (model X.prog X.w) X.A (setItem ov iv u) (fun _ s'=>∃H',Inv X pins σ H' s'∧Q H') X.xe s
section
variable {X:Cx}{pos:Pos}
noncomputable def Bx (i:Nat):TG:=fun v σ H Q=>Q (σ.set i (some v)) H
theorem Az {i:Nat}{x:Str}(hN:X.N.Nodup)(hi:X.N[i]?=some x)(hx:Loc X.env.scope x)(hf:X.fn x=true∨X.env.scope.names.lookup x=some .local:=by first|exact .inl rfl|exact .inr rfl|assumption):PG X (.Name x pos) (Bx i):=by
 intro pins s σ H v u Q I r h
 exact wpAny_assign_Name (eW I hN hi hx r (fun s' I'=>⟨_,H,I',h⟩) hf)
noncomputable def E2:TGs:=fun vs σ H Q=>vs=[]∧Q σ H
noncomputable def DZ (t:TG)(u:TGs):TGs:=fun vs σ H Q=>∃v r,vs=v::r∧t v σ H fun σ' H'=>u r σ' H' Q
theorem Ah:PGs X [] E2:=by
 intro pins s σ H vs us Q I r h
 obtain⟨e,h⟩:=h
 subst e
 cases r
 exact assignInOrder_nil ⟨σ,H,I,h⟩
theorem wX {e:Expr}{es:List Expr}{t:TG}{u:TGs}(h1:PG X e t)(h2:PGs X es u)
  (hs:(assignEach (e::es) X.env).map (·.2)=assign e X.env::(assignEach es X.env).map (·.2):=by rfl):PGs X (e::es) (DZ t u):=by
 intro pins s σ H vs us Q I r h
 obtain⟨v,vr,e1,h⟩:=h
 subst e1
 cases r with
 | cons r rr =>
  rw[hs]
  refine assignInOrder_cons (thn (h1 pins s σ H _ _ _ I r h) fun _ s1 ⟨σ1,H1,I1,q1⟩=>?_)
  exact h2 pins s1 σ1 H1 _ _ Q I1 rr q1
noncomputable def E6 (K:W.Frag)(n:Nat)(t:TGs):TG:=fun v σ H Q=>∃a xs,v=.ref a∧SqT K H a xs∧xs.length=n∧t xs σ H Q
theorem B1 {es:List Expr}{k:Nat}{t:TGs}{n:Nat}(hc:X.calm=true)(h:PGs X es t)
  (hn:(assignEach es X.env).length=n:=by rfl) (hst:(assignEach es X.env).findIdx? (·.1)=none:=by rfl):PG X (.Tuple es k pos) (E6 X.K n t):=by
 intro pins s σ H v u Q I r hw
 obtain⟨a,xs,e1,hq,hl,hw⟩:=hw
 subst e1
 cases r
 obtain⟨its,rv,ht,hz⟩:=I.tuple hq
 refine assign_Tuple_tuple (I.ok.hd hc) ht (by simp[hn,←hl,rv.length]) hst fun h' hx=>?_
 have I1:Inv X pins σ H { s with heap:=h' }:=I.kept (t':=s.toks) fun b o e=>hx b o (GS (GF e)) e
 exact h pins _ σ H xs _ Q I1 (by simpa using rv) hw
noncomputable def Fd (to ti:TE)(t:Co):TG:=fun v σ H Q=>to σ H fun o H1=>ti σ H1 fun i H2=>t o i v H2 fun H3=>Q σ H3
theorem DD {o i:Expr}{to ti:TE}{t:Co}(ho:PE X o to)(hi:PE X i ti)(hs:Du X t)
  (ha:∀v,assign (.Subscript o i pos) X.env v=(do
   let ov ←holding [v] (eval o X.env)
   let iv ←holding [v,ov] (eval i X.env)
   standAt pos
   holding [v,ov,iv] (setItem ov iv v)
   release [v,ov,iv] []):=by intro _;rfl):PG X (.Subscript o i pos) (Fd to ti t):=by
 intro pins s σ H v u Q I r h
 rw[ha]
 refine F4 (IJ (thn (ho pins s σ H _ I h) fun ov s1 ⟨x,H1,I1,r1,q1⟩=>?_))
 refine F4 (IJ (thn (hi pins s1 σ H1 _ I1 q1) fun iv s2 ⟨y,H2,I2,r2,q2⟩=>?_))
 refine F4 (wpAny_standAt (F4 (IJ (thn (hs pins s2 σ H2 x y v ov iv u _ I2 r1 r2 r q2) fun _ s3 ⟨H3,I3,q3⟩=>?_))))
 exact wpAny_release ⟨σ,H3,I3,q3⟩
noncomputable def AD (te:TE)(g:TG):TS:=fun D σ H=>te σ H fun x H1=>g x σ H1 D.nx
theorem l_ {tg e:Expr}{te:TE}{g:TG}(he:PE X e te)(hg:PG X tg g)(hs:swapsWithSole [tg] e pos.line X.env=pure false:=by rfl)(hw:swappedStores [tg] e X.env=pure none:=by rfl)
  (h1:(assignEach [tg] X.env).map (·.2)=[assign tg X.env]:=by rfl):PS X (.Assign [tg] e pos) (AD te g):=by
 intro pins s σ H D I h
 refine wpAny_Assign_stores (thn (he pins s σ H _ I h) fun v s1 ⟨x,H1,I1,r1,q1⟩=>?_) hs hw
 rw[h1]
 exact thn (hg pins s1 σ H1 x v _ I1 r1 q1) fun _ s2 q=>q
theorem yC {i:Nat}{x:Str}{e:Expr}{te:TE}{pos':Pos}(hN:X.N.Nodup)(hi:X.N[i]?=some x)(hx:Loc X.env.scope x)(he:PE X e te)(hs:swapsWith e (some (.Name x pos')) pos.line X.env=pure false:=by rfl)(hf:X.fn x=true∨X.env.scope.names.lookup x=some .local:=by first|exact .inl rfl|exact .inr rfl|assumption) :
  PS X (.Assign [.Name x pos'] e pos) (AD te (Bx i)):=by
 intro pins s σ H D I h
 refine wpAny_Assign_Name (thn (he pins s σ H _ I h) fun v s1 ⟨y,H1,I1,r1,q1⟩=>?_) hs
 exact eW I1 hN hi hx r1 (fun s2 I2=>⟨_,H1,I2,q1⟩) hf
noncomputable def FG (i j:Nat)(ta:TA):TS:=fun D σ H=>ta σ H fun vs H1=>∃v w,vs=[v,w]∧D.nx ((σ.set i (some v)).set j (some w)) H1
theorem CG {i j:Nat}{x y:Str}{a b:Expr}{ta:TA}{px py pt:Pos}{kt k2 pt2}(hc:X.calm=true)(hN:X.N.Nodup)(hi:X.N[i]?=some x)(hj:X.N[j]?=some y)(hij:i≠j)
  (hx:X.env.scope.names.lookup x=some .local) (hy:X.env.scope.names.lookup y=some .local) (ha:PA X [a,b] ta)
  (hw:swappedStores [.Tuple [.Name x px,.Name y py] kt pt] (.Tuple [a,b] k2 pt2) X.env=pure (some [x,y]))
  (hs:swapsWithSole [.Tuple [.Name x px,.Name y py] kt pt] (.Tuple [a,b] k2 pt2) pos.line X.env=pure false:=by rfl) :
  PS X (.Assign [.Tuple [.Name x px,.Name y py] kt pt] (.Tuple [a,b] k2 pt2) pos) (FG i j ta):=by
 intro pins s σ H D I h
 rw[exec_Assign_arm]
 refine F4 (wpAny_standAt ?_)
 rw[hs]
 refine F4 (GL ?_)
 rw[F_ (by decide)]
 refine F4 (Tuple_ (thn (ha _ pins s σ H _ I h) fun us s1 ⟨vs,H1,I1,r1,q1⟩=>?_))
 obtain⟨v,w,e1,q1⟩:=q1
 subst e1
 obtain⟨u1,u2,rfl,rv,rw'⟩:∃u1 u2,us=[u1,u2]∧RelV v u1∧RelV w u2:=by
  cases r1 with
  | cons p q =>
   cases q with
   | cons p' q' =>
    cases q'
    exact⟨_,_,rfl,p,p'⟩
 refine wpAny_newObj_type ?_ (by show 2≤sizeLine;decide)
 have I2:Inv X pins σ H1 { s1 with heap:=s1.heap.push { cls:=.type "tuple",data:=.seq [u1,u2].toArray } }:=I1.kept (t':=s1.toks) fun b o e=>F5 _ e
 rw[hw]
 refine F4 (GL ?_)
 show wpAny (model X.prog X.w) X.A (do rule "assign.swapped-stores";let items ←unpackItems (.ref s1.heap.objs.size) 2 none;assignInOrder [fun v=>bindName X.env y v,fun v=>bindName X.env x v] items.reverse;pure Flow.next) _ _ _
 refine F4 (wpAny_rule (F4 (unpackItems_tuple (items:=#[u1,u2]) (I.ok.hd hc) (IsTup.new s1.heap _) fun h' hx'=>?_)))
 have I3:=I2.kept (h':=h') (t':=s1.toks) fun b o e=>hx' b o (GS (GF e)) e
 show wpAny _ _ (assignInOrder [fun v=>bindName X.env y v,fun v=>bindName X.env x v] [u2,u1] >>= fun _=>pure Flow.next) _ _ _
 refine F4 (assignInOrder_cons (wpAny_bindName (eW I3 hN hj (.inl hy) rw' (fun s2 I4=>?_) (.inr hy))))
 refine assignInOrder_cons (wpAny_bindName (eW I4 hN hi (.inl hx) rv (fun s3 I5=>assignInOrder_nil (GL ?_)) (.inr hx)))
 rw[List.set_comm _ _ (Ne.symm hij)] at I5
 exact⟨_,H1,I5,q1⟩
end
section
variable {X:Cx}{pos:Pos}
noncomputable def yP (c:TT)(tb:TS):TS:=fun D σ H=>∃W:Nat→St→Hp→Prop,(∃m,W m σ H)∧∀m σ H,W m σ H →
 c σ H fun b H1=>if b=true then ∃N:St→Hp→Prop,(∀σ' H',N σ' H'→∃m',m'<m∧W m' σ' H')∧tb { D with nx:=N,ct:=N,bk:=D.nx } σ H1 else D.nx σ H1
theorem y6 {c:Expr}{body:List Stmt}{tc:TT}{tb:TS}(hp:PassesOwn (model X.prog X.w) X.A X.env X.xe)(hc:PT X c tc)(hb:PSs X body tb):PS X (.While c body [] pos) (yP tc tb):=by
 intro pins s σ H D I h
 obtain⟨W,⟨m0,w0⟩,turn⟩:=h
 refine wpAny_While (codeAny_whileLoop (fun n s'=>∃σ' H',Inv X pins σ' H' s'∧W n σ' H') ?_ m0 ⟨σ,H,I,w0⟩)
 rintro n s1 ⟨σ1,H1,I1,w1⟩
 refine wpAny_passesOwn hp (thn (hc pins s1 σ1 H1 _ I1 (turn n σ1 H1 w1)) fun b s2 ⟨H2,I2,q2⟩=>?_)
 cases b with
 | true =>
  obtain⟨N,hN,q2⟩:=q2
  rw[GA rfl]
  refine wpAny_passesOwn hp (thn (hb pins s2 σ1 H2 _ I2 q2) fun f s3 q3=>?_)
  cases f with
  | next =>
   obtain⟨σ3,H3,I3,n3⟩:=q3
   obtain⟨m',hm,w3⟩:=hN σ3 H3 n3
   exact⟨m',hm,σ3,H3,I3,w3⟩
  | cont =>
   obtain⟨σ3,H3,I3,n3⟩:=q3
   obtain⟨m',hm,w3⟩:=hN σ3 H3 n3
   exact⟨m',hm,σ3,H3,I3,w3⟩
  | brk=>exact q3
  | ret v=>exact q3
 | false =>
  rw[F_ FX]
  exact wpAny_execs_nil ⟨σ1,H2,I2,q2⟩
end
structure It where
 go:Nat→Hp→Prop
 yld:Nat→Hp→V→Hp→Prop
 stop:Nat→Hp→Prop
def kH (X:Cx)(pins:List (Addr × Obj))(H:Hp)(b:Addr):Prop :=
 H b=none∧b≠X.env.locals∧b ∉ X.fs∧(b∈X.ex∨X.s₀.heap.objs.size≤b)∧(∀x c,X.env.cells.lookup x=some c→c≠b)∧∀p∈X.pn++pins,p.1≠b
theorem Inv.fpOk {X:Cx}{pins:List (Addr × Obj)}{σ:St}{H H':Hp}{s:Shared}{b:Addr}(I:Inv X pins σ H s)(hb:s.heap.objs.size≤b)(hn:H' b=none):kH X pins H' b:=by
 refine⟨hn,JM (F3 I.lt hb),I.nofs hb,.inr (GW I.sz hb),fun x c e z=>?_,fun p hp z=>?_⟩
 ·obtain⟨v,q⟩:=I.cell x c e
  exact absurd (F3 q.lt (by rw[z];exact hb)) (IN _)
 ·exact absurd (F3 (GF (I.pin p hp).1) (by rw[z];exact hb)) (IN _)
structure tI (P:Program)(w:World)(K:W.Frag)(tg:Expr)(J:It)(fp:List Addr)(it:Addr)(tn:Nat→Heap→Prop):Prop where
 mem:it∈fp
 obj:∀i h,tn i h→∀b∈fp,∃o,h.get? b=some o∧∀v,o.data≠.cell v
 keep:∀i h h',tn i h→(∀b∈fp,∀o,h.get? b=some o→h'.get? b=some o)→tn i h'
 item:∀(X:Cx),X.prog=P→X.w=w→X.K=K→X.calm=true→∀(i:Nat) (pins:List (Addr × Obj)) (s:Shared) (σ:St) (H:Hp) (E:Value→Shared→Prop),Inv X pins σ H s→(∀b∈fp,kH X pins H b)→tn i s.heap→J.go i H →
  wpAny (model P w) X.A (pyNext (.ref it)) (fun r s1=>∃u,r=some u ∧
   wpAny (model P w) X.A (letOwnedTupleGo tg (.ref it) u) (fun _ s2=>∃x H',Inv X pins σ H' s2∧RelV x u∧J.yld i H x H'∧tn (i+1) s2.heap∧∀b∈fp,H' b=none) E s1) E s
 done:∀(X:Cx),X.prog=P→X.w=w→X.K=K→X.calm=true→∀(i:Nat) (pins:List (Addr × Obj)) (s:Shared) (σ:St) (H:Hp) (E:Value→Shared→Prop),Inv X pins σ H s→(∀b∈fp,kH X pins H b)→tn i s.heap→J.stop i H →
  wpAny (model P w) X.A (pyNext (.ref it)) (fun r s1=>r=none∧Inv X pins σ H s1) E s
 self:∀(A:Around) (i:Nat) (s:Shared) (Q:Value→Shared→Prop) (E:Value→Shared→Prop),tn i s.heap→Q (.ref it) s→wpAny (model P w) A (pyIter (.ref it)) Q E s
noncomputable abbrev TI:=St→Hp→(It→Hp→Prop)→Prop
def PIE (X:Cx)(pins:List (Addr × Obj))(σ:St)(tg:Expr)(R:It→Hp→Prop)(itv:Value)(s2:Shared):Prop :=
 ∃(it:Addr) (fp:List Addr) (tn:Nat→Heap→Prop) (J:It) (H':Hp),itv=.ref it∧Inv X pins σ H' s2∧tI X.prog X.w X.K tg J fp it tn∧tn 0 s2.heap∧(∀b∈fp,kH X pins H' b)∧R J H'
def PI (X:Cx)(tg iter:Expr)(wi:TI):Prop :=
 ∀(pins:List (Addr × Obj)) (s:Shared) (σ:St) (H:Hp) (R:It→Hp→Prop),Inv X pins σ H s→wi σ H R →
  wpAny (model X.prog X.w) X.A (eval iter X.env) (fun v s1=>wpAny (model X.prog X.w) X.A (pyIter v) (PIE X pins σ tg R) X.xe s1) X.xe s
theorem qp {M:Model}{A:Around}{E:Value→Shared→Prop}{s:Shared}{tg:Expr}{it:Addr}{u:Value}{o:Obj}{n:String}{vs:Array Value}{Q:Unit→Shared→Prop}(ho:s.heap.get? it=some o)(hc:o.cls=.type n)(hd:o.data=.fields vs)
  (hn:["enumerate","zip","dict_itemiterator","dict_reverseitemiterator","odict_iterator","itertools.zip_longest","itertools.pairwise"].contains n=false) (hQ:Q () s):wpAny M A (letOwnedTupleGo tg (.ref it) u) Q E s:=by
 unfold letOwnedTupleGo
 cases tg <;> first
  | exact GL hQ
  | (cases u <;> first
    | exact GL hQ
    | (refine F4 (wpAny_load ho ?_)
       rw[hc,hd]
       show wpAny M A (if (["enumerate","zip","dict_itemiterator","dict_reverseitemiterator","odict_iterator","itertools.zip_longest","itertools.pairwise"].contains n && vs[0]? == some (rawInt _))=true then _ else _) Q E s
       rw[F_ (by intro h;rw[hn,Bool.false_and] at h;cases h)]
       exact GL hQ))
noncomputable def Itl (K:W.Frag)(a:Addr):It :=
 ⟨fun i H=>∃xs x,SqL K H a xs∧xs[i]?=some x,fun i H x H'=>H'=H∧∀xs,SqL K H a xs→xs[i]?=some x,fun i H=>∃xs,SqL K H a xs∧xs.length≤i⟩
noncomputable def Itt (K:W.Frag)(a:Addr):It :=
 ⟨fun i H=>∃xs x,SqT K H a xs∧xs[i]?=some x,fun i H x H'=>H'=H∧∀xs,SqT K H a xs→xs[i]?=some x,fun i H=>∃xs,SqT K H a xs∧xs.length≤i⟩
noncomputable def Itr (lo:Int)(n:Nat):It:=⟨fun i _=>i<n,fun i H x H'=>H'=H∧x=.int (lo+i),fun i _=>n≤i⟩
theorem vU {P:Program}{w:World}{K:W.Frag}{tg:Expr}(a it:Addr):tI P w K tg (Itl K a) [it] it (fun i h=>h.IsListIter it a i) where
 mem:=by simp
 obj:=fun i h st b hb=>by
  have e:b=it:=by simpa using hb
  subst e
  obtain⟨o,e,c,d⟩:=st
  exact⟨o,e,fun v z=>by rw[d] at z;cases z⟩
 keep:=fun i h h' st k=>st.at fun o e=>k it (by simp) o e
 item:=by
  intro X hP hw hK hc i pins s σ H E I hf st hg
  subst hP hw hK
  obtain⟨xs,x,hq,hx⟩:=hg
  obtain⟨its,rv,p,hz⟩:=I.list hq
  obtain⟨u,hu,ru⟩:=rv.get hx
  obtain⟨f0,f1,f2,f3,f4,f5⟩:=hf it (by simp)
  refine wpAny_pyNext_list_item st p.isList (x:=u) (by simpa using hu) fun h' st' sb=>?_
  have I1:Inv X pins σ H { s with heap:=h' }:=I.turned (t':=s.toks) (fun b o hb e=>(sb.2 b hb).trans e) f0 f1 f3 f4 f5
  obtain⟨o,e,c,d⟩:=id st'
  exact⟨u,rfl,qp (s:={ s with heap:=h' }) e c d (by decide) ⟨x,H,I1,ru,⟨rfl,fun ys hy=>by rw[I.list_inj hy hq];exact hx⟩,st',fun b hb=>(hf b hb).1⟩⟩
 done:=by
  intro X hP hw hK hc i pins s σ H E I hf st hg
  subst hP hw hK
  obtain⟨xs,hq,hx⟩:=hg
  obtain⟨its,rv,p,hz⟩:=I.list hq
  obtain⟨f0,f1,f2,f3,f4,f5⟩:=hf it (by simp)
  have hl:=rv.length
  exact wpAny_pyNext_list_end (I.ok.hd hc) st p.isList (by simp;omega) fun h' eb=>⟨rfl,I.turned (t':=s.toks) (fun b o hb e=>eb b o hb e) f0 f1 f3 f4 f5⟩
 self:=fun _ _ _ _ _ st h=>wpAny_pyIter_listiter st h
theorem rP {P:Program}{w:World}{K:W.Frag}{tg:Expr}(a it:Addr):tI P w K tg (Itt K a) [it] it (fun i h=>h.IsTupleIter it a i) where
 mem:=by simp
 obj:=fun i h st b hb=>by
  have e:b=it:=by simpa using hb
  subst e
  obtain⟨o,e,c,d⟩:=st
  exact⟨o,e,fun v z=>by rw[d] at z;cases z⟩
 keep:=fun i h h' st k=>st.at fun o e=>k it (by simp) o e
 item:=by
  intro X hP hw hK hc i pins s σ H E I hf st hg
  subst hP hw hK
  obtain⟨xs,x,hq,hx⟩:=hg
  obtain⟨its,rv,p,hz⟩:=I.tuple hq
  obtain⟨u,hu,ru⟩:=rv.get hx
  obtain⟨f0,f1,f2,f3,f4,f5⟩:=hf it (by simp)
  refine wpAny_pyNext_tuple_item st (show s.heap.IsTuple a its.toArray from p) (x:=u) (by simpa using hu) fun h' st' sb=>?_
  have I1:Inv X pins σ H { s with heap:=h' }:=I.turned (t':=s.toks) (fun b o hb e=>(sb.2 b hb).trans e) f0 f1 f3 f4 f5
  obtain⟨o,e,c,d⟩:=id st'
  exact⟨u,rfl,qp (s:={ s with heap:=h' }) e c d (by decide) ⟨x,H,I1,ru,⟨rfl,fun ys hy=>by rw[I.tuple_inj hy hq];exact hx⟩,st',fun b hb=>(hf b hb).1⟩⟩
 done:=by
  intro X hP hw hK hc i pins s σ H E I hf st hg
  subst hP hw hK
  obtain⟨xs,hq,hx⟩:=hg
  obtain⟨its,rv,p,hz⟩:=I.tuple hq
  obtain⟨f0,f1,f2,f3,f4,f5⟩:=hf it (by simp)
  have hl:=rv.length
  exact wpAny_pyNext_tuple_end (I.ok.hd hc) st (show s.heap.IsTuple a its.toArray from p) (by simp;omega) fun h' eb=>⟨rfl,I.turned (t':=s.toks) (fun b o hb e=>eb b o hb e) f0 f1 f3 f4 f5⟩
 self:=fun _ _ _ _ _ st h=>wpAny_pyIter_tupleiter st h
theorem sU {P:Program}{w:World}{K:W.Frag}{tg:Expr}(it:Addr)(lo:Int)(n:Nat):tI P w K tg (Itr lo n) [it] it (fun i h=>IsRangeIter h it (lo+(i:Nat)*1) ((n:Int)-(i:Nat)) 1) where
 mem:=by simp
 obj:=fun i h st b hb=>by
  have e:b=it:=by simpa using hb
  subst e
  exact⟨_,st,fun v z=>by
   have z':Data.fields _=Data.cell v:=z
   cases z'⟩
 keep:=fun i h h' st k=>k it (by simp) _ st
 item:=by
  intro X hP hw hK hc i pins s σ H E I hf st hg
  subst hP hw hK
  obtain⟨f0,f1,f2,f3,f4,f5⟩:=hf it (by simp)
  have W:=Walks.range (prog:=X.prog) (w:=X.w) (I.ok.hd hc) it lo 1 n
  refine W.item i s _ _ hg st fun v h' tk hv st' kk=>?_
  obtain⟨t,rfl⟩:=hv
  have I1:Inv X pins σ H { s with heap:=h',toks:=tk }:=I.turned (fun b o hb e=>kk b o (by simpa using hb) e) f0 f1 f3 f4 f5
  refine ⟨_,rfl,qp (s:={ s with heap:=h',toks:=tk }) (n:="range_iterator") st' rfl rfl (by decide) ⟨.int (lo+i),H,I1,⟨t,?_⟩,⟨rfl,rfl⟩,st',fun b hb=>(hf b hb).1⟩⟩
  rw[Int.mul_one]
 done:=by
  intro X hP hw hK hc i pins s σ H E I hf st hg
  subst hP hw hK
  obtain⟨f0,f1,f2,f3,f4,f5⟩:=hf it (by simp)
  exact wpAny_pyNext_range_end (I.ok.hd hc) st (by have:n≤i:=hg;omega) fun h' eb=>⟨rfl,I.turned (t':=s.toks) (fun b o hb e=>eb b o hb e) f0 f1 f3 f4 f5⟩
 self:=fun _ _ _ _ _ st h=>wpAny_pyIter_rangeiter st h
end L2
namespace L2
section
variable {X:Cx}{tg:Expr}
theorem xi {pins:List (Addr × Obj)}{σ:St}{H:Hp}{s:Shared}{R:It→Hp→Prop}{E:Value→Shared→Prop}{lo hi:Int}{t u v:Tok}{tk:Nat}(I:Inv X pins σ H s)(h1:-(2 ^ 62)≤lo)(h2:lo<2 ^ 62)(h3:-(2 ^ 62)≤hi)(h4:hi<2 ^ 62)
  (q:R (Itr lo (hi-lo).toNat) H):wpAny (model X.prog X.w) X.A (pyIter (.ref s.heap.objs.size)) (PIE X pins σ tg R) E { s with heap:=s.heap.push { cls:=.type "range",data:=.fields #[.int lo t,.int hi u,.int 1 v] },toks:=tk }:=by
 refine wpAny_pyIter_range (IsRange.new ..) (small_one h1 h2 h3 h4) ?_
 have I1:Inv X pins σ H { s with heap:=s.heap.push { cls:=.type "range",data:=.fields #[.int lo t,.int hi u,.int 1 v] },toks:=tk }:=I.kept fun b o e=>F5 _ e
 refine ⟨(s.heap.push { cls:=.type "range",data:=.fields #[.int lo t,.int hi u,.int 1 v] }).objs.size,[(s.heap.push { cls:=.type "range",data:=.fields #[.int lo t,.int hi u,.int 1 v] }).objs.size],_,_,H,rfl,
  I1.kept (t':=tk) fun b o e=>F5 _ e,sU _ lo (hi-lo).toNat,?_,fun b hb=>?_,q⟩
 ·have e1:lo+((0:Nat):Int)*1=lo:=by simp
  have e2:(((hi-lo).toNat:Nat):Int)-((0:Nat):Int)=Builtin.Range.rangeSize lo hi 1:=by rw[rangeSize_one];split <;> omega
  show IsRangeIter _ _ (lo+((0:Nat):Int)*1) ((((hi-lo).toNat:Nat):Int)-((0:Nat):Int)) 1
  rw[e1,e2]
  exact GP _ rfl
 ·have e:b=(s.heap.push { cls:=.type "range",data:=.fields #[.int lo t,.int hi u,.int 1 v] }).objs.size:=by simpa using hb
  subst e
  exact I1.fpOk (F2 _) (I1.hok.fresh (F2 _))
noncomputable def EC (ta:TA):TI:=fun σ H R=>ta σ H fun vs H1=>∃j:Int,vs=[.int j]∧-(2 ^ 62)≤j∧j<2 ^ 62∧R (Itr 0 j.toNat) H1
theorem v5 {a:Expr}{ta:TA}{p pos:Pos}(hg:Gl X "range")(hm:X.mg "range"=none)(ha:PA X [a] ta)(hs:starEach [a] X.env=[(false,eval a X.env)]:=by rfl):PI X tg (.Call (.Name "range" p) [a] [] pos) (EC ta):=by
 intro pins s σ H R I h
 refine Call_ (pU I hg hm boot_range (PyProof.Rows.callWith_type1 (thn (ha pos pins s σ H _ I h) fun us s1 ⟨vs,H1,I1,r1,q1⟩=>?_) hs rfl))
 obtain⟨j,e,q1,q2,q⟩:=q1
 subst e
 cases r1 with
 | cons r rr =>
  cases rr
  obtain⟨t,rfl⟩:=r
  exact call_range_1 (xi I1 (by omega) (by omega) q1 q2 (by simpa using q))
noncomputable def Dd (wi:TI)(g:TG)(tb:TS):TS:=fun D σ H=>wi σ H fun J H1=>∃W:Nat→Nat→St→Hp→Prop,(∃m,W 0 m σ H1)∧∀i m σ H,W i m σ H →
 (J.stop i H∧D.nx σ H)∨(J.go i H∧∃N:St→Hp→Prop,(∀σ' H',N σ' H'→∃m',m'<m∧W (i+1) m' σ' H')∧∀x H',J.yld i H x H'→g x σ H' fun σ2 H2=>tb { D with nx:=N,ct:=N,bk:=D.nx } σ2 H2)
noncomputable def lI (fp:List Addr)(h:Heap):List (Addr × Obj):=fp.filterMap fun b=>(h.get? b).map fun o=>(b,o)
theorem fC {fp:List Addr}{h:Heap}{b:Addr}{o:Obj}(hb:b∈fp)(e:h.get? b=some o):(b,o)∈lI fp h:=JO.mpr ⟨b,hb,by rw[e];rfl⟩
theorem wa {fp:List Addr}{h:Heap}{p:Addr × Obj}(hp:p∈lI fp h):p.1∈fp∧h.get? p.1=some p.2:=by
 obtain⟨b,hb,e⟩:=JO.mp hp
 cases q:h.get? b with
 | none=>rw[q] at e;cases e
 | some o =>
  rw[q] at e
  have e':(b,o)=p:=GT e
  subst e'
  exact⟨hb,q⟩
theorem Inv.pinned {pins:List (Addr × Obj)}{σ:St}{H:Hp}{s:Shared}{fp:List Addr}(I:Inv X pins σ H s)(hf:∀b∈fp,kH X pins H b)(ho:∀b∈fp,∃o,s.heap.get? b=some o∧∀v,o.data≠.cell v):Inv X (pins++lI fp s.heap) σ H s :=
 I.pins_of fun p hp=>(F7.mp hp).elim (fun z=>I.pin p (GY _ z)) fun z=>by
  obtain⟨hb,e⟩:=wa z
  obtain⟨f0,f1,f2,_⟩:=hf p.1 hb
  obtain⟨o,e',d⟩:=ho p.1 hb
  rw[e] at e';cases e'
  exact⟨e,f0,f1,f2,d⟩
theorem Inv.unpinned {pins pl:List (Addr × Obj)}{σ:St}{H:Hp}{s:Shared}(I:Inv X (pins++pl) σ H s):Inv X pins σ H s:=I.pins_of fun p hp=>I.pin p (GY _ (List.mem_append_left _ hp))
theorem w5 {iter:Expr}{body:List Stmt}{wi:TI}{g:TG}{tb:TS}{pos:Pos}(hp:PassesOwn (model X.prog X.w) X.A X.env X.xe)(hc:X.calm=true)(hi:PI X tg iter wi)(hg:PG X tg g)(hb:PSs X body tb)
  (hs:∀x,foldedSetIterable iter X.env x=pure x:=by intro _;rfl):PS X (.For tg iter body [] pos) (Dd wi g tb):=by
 intro pins s σ H D I h
 refine wpAny_For (thn (hi pins s σ H _ I h) fun v s1 h1=>thn h1 fun itv s2 h2=>?_) hs
 obtain⟨it,fp,tn,J,H2,e,I2,T,st2,f2,W,⟨m0,w0⟩,turn⟩:=h2
 subst e
 have stat:∀ {H':Hp},(∀b∈fp,H' b=none)→∀b∈fp,kH X pins H' b:=fun hn b hb=>⟨hn b hb,(f2 b hb).2⟩
 refine codeAny_forLoop_any (fun n s'=>∃i σ' H',Inv X pins σ' H' s'∧tn i s'.heap∧(∀b∈fp,H' b=none)∧W i n σ' H') ?_ m0 ⟨0,σ,H2,I2,st2,fun b hb=>(f2 b hb).1,w0⟩
 rintro n s3 ⟨i,σ3,H3,I3,st3,fr3,w3⟩
 rcases turn i n σ3 H3 w3 with⟨stop,qn⟩|⟨go,N,hN,step⟩
 ·refine wpAny_passesOwn hp (thn (T.done X rfl rfl rfl hc i pins s3 σ3 H3 X.xe I3 (stat fr3) st3 stop) fun r s4 ⟨hr,I4⟩=>?_)
  subst hr
  exact wpAny_execs_nil ⟨σ3,H3,I4,qn⟩
 ·refine wpAny_passesOwn hp (thn (T.item X rfl rfl rfl hc i pins s3 σ3 H3 X.xe I3 (stat fr3) st3 go) fun r s4 ⟨u,hr,h4⟩=>?_)
  subst hr
  refine wpAny_passesOwn hp (thn h4 fun _ s5 ⟨x,H5,I5,r5,y5,st5,fr5⟩=>?_)
  have I5':=I5.pinned (stat fr5) (T.obj _ _ st5)
  refine wpAny_passesOwn hp (thn (hg _ s5 σ3 H5 x u _ I5' r5 (step x H5 y5)) fun _ s6 ⟨σ6,H6,I6,q6⟩=>?_)
  refine wpAny_passesOwn hp (thn (hb _ s6 σ6 H6 _ I6 q6) fun f s7 q7=>?_)
  have again:∀ {σ7:St}{H7:Hp},Inv X (pins++lI fp s5.heap) σ7 H7 s7→N σ7 H7→∃m,m<n∧∃i σ' H',Inv X pins σ' H' s7∧tn i s7.heap∧(∀b∈fp,H' b=none)∧W i m σ' H':=fun {σ7 H7} I7 n7=>by
   obtain⟨m',hm,w7⟩:=hN σ7 H7 n7
   refine⟨m',hm,i+1,σ7,H7,I7.unpinned,T.keep _ _ _ st5 fun b hb o e=>(I7.pin (b,o) (GY _ (GY _ (fC hb e)))).1,fun b hb=>?_,w7⟩
   obtain⟨o,e,d⟩:=T.obj _ _ st5 b hb
   exact(I7.pin (b,o) (GY _ (GY _ (fC hb e)))).2.1
  cases f with
  | next=>obtain⟨σ7,H7,I7,n7⟩:=q7;exact again I7 n7
  | cont=>obtain⟨σ7,H7,I7,n7⟩:=q7;exact again I7 n7
  | brk=>obtain⟨σ7,H7,I7,q7⟩:=q7;exact⟨σ7,H7,I7.unpinned,q7⟩
  | ret v=>obtain⟨x7,σ7,H7,I7,r7,q7⟩:=q7;exact⟨x7,σ7,H7,I7.unpinned,r7,q7⟩
end
end L2
namespace L2
noncomputable abbrev R2:=V→V→Hp→VK→Prop
def OpR (X:Cx)(f:Value→Value→Sem Value)(r:R2):Prop :=
 ∀(pins:List (Addr × Obj)) (s:Shared) (σ:St) (H:Hp) (x y:V) (v u:Value) (Q:VK),Inv X pins σ H s→RelV x v→RelV y u→r x y H Q →
  wpAny (model X.prog X.w) X.A (f v u) (EP X pins σ Q) X.xe s
def UnR (X:Cx)(f:Value→Sem Value)(r:V→Hp→VK→Prop):Prop :=
 ∀(pins:List (Addr × Obj)) (s:Shared) (σ:St) (H:Hp) (x:V) (v:Value) (Q:VK),Inv X pins σ H s→RelV x v→r x H Q →
  wpAny (model X.prog X.w) X.A (f v) (EP X pins σ Q) X.xe s
def dn (X:Cx)(f:Value)(r:List V→Hp→VK→Prop):Prop :=
 ∀(pins:List (Addr × Obj)) (s:Shared) (σ:St) (H:Hp) (xs:List V) (us:List Value) (Q:VK),Inv X pins σ H s→Vals xs us→r xs H Q →
  wpAny (model X.prog X.w) X.A (call f us) (EP X pins σ Q) X.xe s
def Fn (X:Cx)(r:V→Hp→(Bool→Hp→Prop)→Prop):Prop :=
 ∀(pins:List (Addr × Obj)) (s:Shared) (σ:St) (H:Hp) (x:V) (v:Value) (Q:Bool→Hp→Prop),Inv X pins σ H s→RelV x v→r x H Q →
  wpAny (model X.prog X.w) X.A (truthy v) (TP X pins σ Q) X.xe s
noncomputable def tOp (r:R2)(ta tb:TE):TE:=fun σ H Q=>ta σ H fun x H1=>tb σ H1 fun y H2=>r x y H2 Q
noncomputable def tUn (r:V→Hp→VK→Prop)(ta:TE):TE:=fun σ H Q=>ta σ H fun x H1=>r x H1 Q
noncomputable def rI (C:Int→Int→Prop)(g:Int→Int→V):R2:=fun x y H Q=>∃i j,x=.int i∧y=.int j∧C i j∧Q (g i j) H
noncomputable def rI0 (g:Int→Int→V):R2:=fun x y H Q=>∃i j,x=.int i∧y=.int j∧Q (g i j) H
noncomputable def rU (g:Int→V):V→Hp→VK→Prop:=fun x H Q=>∃i,x=.int i∧Q (g i) H
section
variable {X:Cx}{a b c:Expr}{ta tb tc:TE}{pos:Pos}
theorem CL (ha:PE X a ta)(hb:PE X b tb){pins:List (Addr × Obj)}{s:Shared}{σ:St}{H:Hp}{R:V→V→Hp→Prop}(I:Inv X pins σ H s)
  (h:ta σ H fun x H1=>tb σ H1 fun y H2=>R x y H2) {Q:Value→Shared→Prop}{f:Value→Value→Sem Value}
  (hf:∀v u s2 x y H2,Inv X pins σ H2 s2→RelV x v→RelV y u→R x y H2→wpAny (model X.prog X.w) X.A (f v u) Q X.xe s2) :
  wpAny (model X.prog X.w) X.A (eval a X.env) (fun v s₁=>wpAny (model X.prog X.w) X.A (eval b X.env) (fun u s₂=>wpAny (model X.prog X.w) X.A (f v u) Q X.xe s₂) X.xe s₁) X.xe s:=by
 refine thn (ha pins s σ H _ I h) fun v s1 ⟨x,H1,I1,r1,q1⟩=>?_
 refine thn (hb pins s1 σ H1 _ I1 q1) fun u s2 ⟨y,H2,I2,r2,q2⟩=>?_
 exact hf v u s2 x y H2 I2 r1 r2 q2
theorem Et {op:Operator}{r:R2}(ho:OpR X (binaryOp op) r)(ha:PE X a ta)(hb:PE X b tb):PE X (.BinOp a op b pos) (tOp r ta tb):=by
 intro pins s σ H Q I h
 exact wpAny_BinOp (CL ha hb I h fun v u s2 x y H2 I2 rx ry q=>ho pins s2 σ H2 x y v u Q I2 rx ry q)
theorem D1 {op:UnaryOp}{r:V→Hp→VK→Prop}(ho:UnR X (unaryOp op) r)(ha:PE X a ta):PE X (.UnaryOp op a pos) (tUn r ta):=by
 intro pins s σ H Q I h
 exact UnaryOp_ (thn (ha pins s σ H _ I h) fun v s1 ⟨x,H1,I1,r1,q1⟩=>ho pins s1 σ H1 x v Q I1 r1 q1)
theorem opI {f:Value→Value→Sem Value}{C:Int→Int→Prop}{g:Int→Int→Int}
  (rule:∀(i j:Int) (t u:Tok) (s:Shared) (Q:Value→Shared→Prop) (E:Value→Shared→Prop),C i j→Q (.int (g i j) s.toks) { s with toks:=s.toks+1 }→wpAny (model X.prog X.w) X.A (f (.int i t) (.int j u)) Q E s) :
  OpR X f (rI C fun i j=>.int (g i j)):=by
 intro pins s σ H x y v u Q I rx ry h
 obtain⟨i,j,rfl,rfl,hc,q⟩:=h
 obtain⟨t,rfl⟩:=rx
 obtain⟨t',rfl⟩:=ry
 exact rule i j t t' s _ _ hc ⟨.int (g i j),H,I.tok _,⟨_,rfl⟩,q⟩
theorem Ez {f:Value→Value→Sem Value}{g:Int→Int→Int}
  (rule:∀(i j:Int) (t u:Tok) (s:Shared) (Q:Value→Shared→Prop) (E:Value→Shared→Prop),Q (.int (g i j) s.toks) { s with toks:=s.toks+1 }→wpAny (model X.prog X.w) X.A (f (.int i t) (.int j u)) Q E s) :
  OpR X f (rI0 fun i j=>.int (g i j)):=by
 intro pins s σ H x y v u Q I rx ry h
 obtain⟨i,j,rfl,rfl,q⟩:=h
 obtain⟨t,rfl⟩:=rx
 obtain⟨t',rfl⟩:=ry
 exact rule i j t t' s _ _ ⟨.int (g i j),H,I.tok _,⟨_,rfl⟩,q⟩
theorem A_ {f:Value→Value→Sem Value}{g:Int→Int→Bool}
  (rule:∀(i j:Int) (t u:Tok) (s:Shared) (Q:Value→Shared→Prop) (E:Value→Shared→Prop),Q (.bool (g i j)) s→wpAny (model X.prog X.w) X.A (f (.int i t) (.int j u)) Q E s) :
  OpR X f (rI0 fun i j=>.bl (g i j)):=by
 intro pins s σ H x y v u Q I rx ry h
 obtain⟨i,j,rfl,rfl,q⟩:=h
 obtain⟨t,rfl⟩:=rx
 obtain⟨t',rfl⟩:=ry
 exact rule i j t t' s _ _ ⟨.bl (g i j),H,I,rfl,q⟩
def rH (i j:Int):Prop:=0≤j∧j≤1000000∧i.natAbs<2 ^ 64
theorem Cf:OpR X (binaryOp .Add) (rI0 fun i j=>.int (i+j)):=Ez fun _ _ _ _ _ _ _ q=>add_int q
theorem Dv:OpR X (binaryOp .Sub) (rI0 fun i j=>.int (i-j)):=Ez fun _ _ _ _ _ _ _ q=>sub_int q
theorem Dc:OpR X (binaryOp .Mod) (rI (fun _ j=>0<j) fun i j=>.int (i % j)):=opI fun i j _ _ _ _ _ hc q=>by
 have h1:(0:Int)<j:=hc
 exact mod_int' (by omega) (by rw[Int.fmod_eq_emod_of_nonneg i (by omega)];exact q)
theorem C4:OpR X (binaryOp .Pow) (rI rH fun i j=>.int (i ^ j.toNat)):=opI fun _ _ _ _ _ _ _ hc q=>pow_int_small hc.1 hc.2.1 hc.2.2 q
theorem unI {f:Value→Sem Value}{g:Int→Int}
  (rule:∀(i:Int) (t:Tok) (s:Shared) (Q:Value→Shared→Prop) (E:Value→Shared→Prop),Q (.int (g i) s.toks) { s with toks:=s.toks+1 }→wpAny (model X.prog X.w) X.A (f (.int i t)) Q E s) :
  UnR X f (rU fun i=>.int (g i)):=by
 intro pins s σ H x v Q I rx h
 obtain⟨i,rfl,q⟩:=h
 obtain⟨t,rfl⟩:=rx
 exact rule i t s _ _ ⟨.int (g i),H,I.tok _,⟨_,rfl⟩,q⟩
theorem BM:UnR X (unaryOp .USub) (rU fun i=>.int (-i)):=unI fun _ _ _ _ _ q=>neg_int q
end
noncomputable def D3:V→V→Bool
 | .non,.non=>true | .non,.int _=>true | .int _,.non=>true | .non,.bl _=>true | .bl _,.non=>true | .non,.str _=>true | .str _,.non=>true
 | .int _,.int _=>true | .bl _,.bl _=>true | .str _,.str _=>true | .byt _,.byt _=>true
 | .int _,.str _=>true | .str _,.int _=>true | .bl _,.str _=>true | .str _,.bl _=>true
 | _,_=>false
noncomputable def rEq:R2:=fun x y H Q=>D3 x y=true∧Q (.bl (decide (x=y))) H
noncomputable def rNe:R2:=fun x y H Q=>D3 x y=true∧Q (.bl (!decide (x=y))) H
theorem u6 {i j:Int}:decide (V.int i=V.int j)=(i == j):=by
 rw[IS]
 simp
theorem xr {i j:Bool}:decide (V.bl i=V.bl j)=(i == j):=by
 rw[IS]
 simp
theorem uX {i j:Str}:decide (V.str i=V.str j)=(i == j):=by
 rw[IS]
 simp
theorem uZ {i j:Array UInt8}:decide (V.byt i=V.byt j)=(i.toList == j.toList):=by
 rw[IS]
 cases i
 cases j
 simp
section
variable {X:Cx}{a b c:Expr}{ta tb tc:TE}{pos:Pos}
theorem av {pins:List (Addr × Obj)}{σ:St}{H:Hp}{s:Shared}{Q:VK}{k k':Bool}(I:Inv X pins σ H s)(q:Q (.bl k) H)(e:k=k'):EP X pins σ Q (.bool k') s:=by
 subst e
 exact⟨.bl k,H,I,rfl,q⟩
theorem y9:OpR X (compareOp .Eq) rEq:=by
 intro pins s σ H x y v u Q I rx ry h
 obtain⟨hs,q⟩:=h
 cases x with
 | non =>
  cases rx
  cases y with
  | non=>cases ry;exact PySem.EqNone.eq_none_none (av I q (by simp))
  | bl j=>cases ry;exact PySem.EqNone.eq_none_bool (av I q (by simp))
  | int j=>obtain⟨t',rfl⟩:=ry;exact PySem.EqNone.eq_none_int (av I q (by simp))
  | str j=>obtain⟨t',rfl⟩:=ry;exact PySem.EqNone.eq_none_str (av I q (by simp))
  | _=>exact absurd (show false=true from hs) FX
 | bl i =>
  cases rx
  cases y with
  | non=>cases ry;exact PySem.EqNone.eq_bool_none (av I q (by simp))
  | bl j=>cases ry;exact eq_bool (av I q xr)
  | str j=>obtain⟨t',rfl⟩:=ry;exact PySem.EqMixed.eq_bool_str (av I q (by simp))
  | _=>exact absurd (show false=true from hs) FX
 | int i =>
  obtain⟨t,rfl⟩:=rx
  cases y with
  | non=>cases ry;exact PySem.EqNone.eq_int_none (av I q (by simp))
  | int j=>obtain⟨t',rfl⟩:=ry;exact eq_int (av I q u6)
  | str j=>obtain⟨t',rfl⟩:=ry;exact PySem.EqMixed.eq_int_str (av I q (by simp))
  | _=>exact absurd (show false=true from hs) FX
 | str i =>
  obtain⟨t,rfl⟩:=rx
  cases y with
  | non=>cases ry;exact PySem.EqNone.eq_str_none (av I q (by simp))
  | bl j=>cases ry;exact PySem.EqMixed.eq_str_bool (av I q (by simp))
  | int j=>obtain⟨t',rfl⟩:=ry;exact PySem.EqMixed.eq_str_int (av I q (by simp))
  | str j=>obtain⟨t',rfl⟩:=ry;exact eq_str (av I q uX)
  | _=>exact absurd (show false=true from hs) FX
 | byt i =>
  obtain⟨t,rfl⟩:=rx
  cases y with
  | byt j=>obtain⟨t',rfl⟩:=ry;exact W.eq_bytes (av I q uZ)
  | _=>exact absurd (show false=true from hs) FX
 | _=>cases y <;> exact absurd (show false=true from hs) FX
theorem xG:OpR X (compareOp .NotEq) rNe:=by
 intro pins s σ H x y v u Q I rx ry h
 obtain⟨hs,q⟩:=h
 cases x with
 | non =>
  cases rx
  cases y with
  | non=>cases ry;exact PySem.EqNone.ne_none_none (av I q (by simp))
  | bl j=>cases ry;exact PySem.EqNone.ne_none_bool (av I q (by simp))
  | int j=>obtain⟨t',rfl⟩:=ry;exact PySem.EqNone.ne_none_int (av I q (by simp))
  | str j=>obtain⟨t',rfl⟩:=ry;exact PySem.EqNone.ne_none_str (av I q (by simp))
  | _=>exact absurd (show false=true from hs) FX
 | bl i =>
  cases rx
  cases y with
  | non=>cases ry;exact PySem.EqNone.ne_bool_none (av I q (by simp))
  | bl j=>cases ry;exact ne_bool (av I q (GR not xr))
  | str j=>obtain⟨t',rfl⟩:=ry;exact PySem.EqMixed.ne_bool_str (av I q (by simp))
  | _=>exact absurd (show false=true from hs) FX
 | int i =>
  obtain⟨t,rfl⟩:=rx
  cases y with
  | non=>cases ry;exact PySem.EqNone.ne_int_none (av I q (by simp))
  | int j=>obtain⟨t',rfl⟩:=ry;exact ne_int (av I q (GR not u6))
  | str j=>obtain⟨t',rfl⟩:=ry;exact PySem.EqMixed.ne_int_str (av I q (by simp))
  | _=>exact absurd (show false=true from hs) FX
 | str i =>
  obtain⟨t,rfl⟩:=rx
  cases y with
  | non=>cases ry;exact PySem.EqNone.ne_str_none (av I q (by simp))
  | bl j=>cases ry;exact PySem.EqMixed.ne_str_bool (av I q (by simp))
  | int j=>obtain⟨t',rfl⟩:=ry;exact PySem.EqMixed.ne_str_int (av I q (by simp))
  | str j=>obtain⟨t',rfl⟩:=ry;exact ne_str (av I q (GR not uX))
  | _=>exact absurd (show false=true from hs) FX
 | byt i =>
  obtain⟨t,rfl⟩:=rx
  cases y with
  | byt j=>obtain⟨t',rfl⟩:=ry;exact W.ne_bytes (av I q (GR not uZ))
  | _=>exact absurd (show false=true from hs) FX
 | _=>cases y <;> exact absurd (show false=true from hs) FX
theorem El:OpR X (compareOp .Lt) (rI0 fun i j=>.bl (decide (i<j))):=A_ fun _ _ _ _ _ _ _ q=>lt_int q
theorem EA:OpR X (compareOp .LtE) (rI0 fun i j=>.bl (decide (i≤j))):=A_ fun _ _ _ _ _ _ _ q=>le_int q
theorem DV:OpR X (compareOp .Gt) (rI0 fun i j=>.bl (decide (j<i))):=A_ fun _ _ _ _ _ _ _ q=>gt_int q
theorem Ej:OpR X (compareOp .GtE) (rI0 fun i j=>.bl (decide (j≤i))):=A_ fun _ _ _ _ _ _ _ q=>ge_int q
theorem vD:OpR X (compareOp .In) (fun x y H Q=>∃i j,x=.str i∧y=.str j∧Q (.bl (!(Builtin.Str.occurrences j i 0 j.length 1).isEmpty)) H):=by
 intro pins s σ H x y v u Q I rx ry h
 obtain⟨i,j,rfl,rfl,q⟩:=h
 obtain⟨t,rfl⟩:=rx
 obtain⟨t',rfl⟩:=ry
 exact in_str (av I q rfl)
theorem B3:OpR X (compareOp .Is) (fun x y H Q=>y=.non∧Q (.bl (decide (x=.non))) H):=by
 intro pins s σ H x y v u Q I rx ry h
 obtain⟨rfl,q⟩:=h
 cases ry
 refine is_none_gen (av I q ?_)
 cases x <;> first
  | (cases rx;rfl)
  | (obtain⟨t,rfl⟩:=rx;rfl)
theorem AG:OpR X (compareOp .IsNot) (fun x y H Q=>y=.non∧Q (.bl (!decide (x=.non))) H):=by
 intro pins s σ H x y v u Q I rx ry h
 obtain⟨rfl,q⟩:=h
 cases ry
 refine isnot_none_gen (av I q ?_)
 cases x <;> first
  | (cases rx;rfl)
  | (obtain⟨t,rfl⟩:=rx;rfl)
theorem uT {op:CmpOp}{r:R2}(ho:OpR X (compareOp op) r)(ha:PE X a ta)(hb:PE X b tb)(hm:behindInMarks op b=false):PE X (.Compare a [op] [b] pos) (tOp r ta tb):=by
 intro pins s σ H Q I h
 exact wpAny_Compare1 (CL ha hb I h fun v u s2 x y H2 I2 rx ry q=>ho pins s2 σ H2 x y v u Q I2 rx ry q) hm
noncomputable def EN (t:TE):TT:=fun σ H Q=>t σ H fun x H'=>∃k,x=.bl k∧Q k H'
theorem uH {op:CmpOp}{r:R2}(ho:OpR X (compareOp op) r)(ha:PE X a ta)(hb:PE X b tb)(hm:behindInMarks op b=false):PT X (.Compare a [op] [b] pos) (EN (tOp r ta tb)):=by
 intro pins s σ H Q I h
 refine wpAny_isTrue_Compare1 (thn (ha pins s σ H _ I h) fun v s1 ⟨x,H1,I1,r1,q1⟩=>thn (hb pins s1 σ H1 _ I1 q1) fun u s2 ⟨y,H2,I2,r2,q2⟩ =>
  thn (ho pins s2 σ H2 x y v u _ I2 r1 r2 q2) fun c s3 ⟨z,H3,I3,r3,k,e,q3⟩=>?_) hm
 subst e
 cases r3
 exact wpAny_truthy_bool ⟨H3,I3,q3⟩
def DC (K:W.Frag)(x:V)(H:Hp)(k:Bool):Prop :=
 match x with
 | .non=>k=false
 | .bl b=>k=b
 | .int i=>k=(i != 0)
 | .str y=>y.length≤sizeLine∧k=((y.length:Int) != 0)
 | .byt y=>y.size≤sizeLine∧k=((y.size:Int) != 0)
 | .ref p=>(∃xs,SqL K H p xs∧k=!xs.isEmpty)∨(∃xs,SqT K H p xs∧k=!xs.isEmpty)∨∃kvs,H p=some (.dK kvs)∧k=!kvs.isEmpty
 | _=>False
theorem tV {κ:Type}{kvs:List (κ × V)}{vs:List (κ × Value)}(r:KV kvs vs):(!vs.isEmpty)=!kvs.isEmpty:=by
 cases r <;> rfl
theorem l9 {xs:List V}{its:List Value}(r:Vals xs its):(!its.toArray.isEmpty)=!xs.isEmpty:=by
 cases r <;> simp
theorem hU:(sizeLine:Nat)<2 ^ 63:=by rw[sizeLine_eq];decide
theorem CZ:Fn X (fun x H Q=>∃k,DC X.K x H k∧Q k H):=by
 intro pins s σ H x v Q I rx h
 obtain⟨k,e,q⟩:=h
 have hl:=hU
 have hs:sizeLine=16777216:=sizeLine_eq
 cases x with
 | non =>
  cases rx
  have e':k=false:=e
  subst e'
  exact truthy_none ⟨H,I,q⟩
 | bl b =>
  cases rx
  have e':k=b:=e
  subst e'
  exact wpAny_truthy_bool ⟨H,I,q⟩
 | int i =>
  obtain⟨t,rfl⟩:=rx
  have e':k=(i != 0):=e
  subst e'
  exact PySem.P.truthy_int ⟨H,I,q⟩
 | str y =>
  obtain⟨t,rfl⟩:=rx
  obtain⟨hy,e'⟩:y.length≤sizeLine∧k=((y.length:Int) != 0):=e
  subst e'
  exact PySem.P.truthy_str (by omega) ⟨H,I.tok _,q⟩
 | byt y =>
  obtain⟨t,rfl⟩:=rx
  obtain⟨hy,e'⟩:y.size≤sizeLine∧k=((y.size:Int) != 0):=e
  subst e'
  exact W.truthy_bytes (by omega) ⟨H,I.tok _,q⟩
 | ref p =>
  cases rx
  have e':(∃xs,SqL X.K H p xs∧k=!xs.isEmpty)∨(∃xs,SqT X.K H p xs∧k=!xs.isEmpty)∨∃kvs,H p=some (.dK kvs)∧k=!kvs.isEmpty:=e
  rcases e' with⟨xs,hx,e'⟩|⟨xs,hx,e'⟩|⟨kvs,hx,e'⟩
  ·subst e'
   obtain⟨its,r,pl,hz⟩:=I.list hx
   have hlen:=r.length
   exact wpAny_truthy_list pl.isList (by simp only[List.size_toArray];omega) ⟨H,I.tok _,by rw[l9 r];exact q⟩
  ·subst e'
   obtain⟨its,r,pl,hz⟩:=I.tuple hx
   have hlen:=r.length
   exact truthy_tuple pl (by simp only[List.size_toArray];omega) ⟨H,I.tok _,by rw[l9 r];exact q⟩
  ·subst e'
   obtain⟨hz,hS,vs,r,m⟩:kvs.length≤sizeLine∧(p == sysModules)=false∧∃vs,KV kvs vs∧s.heap.DictOf (ax X.prog X.w) p vs:=I.hok p _ hx
   have hlen:kvs.length=vs.length:=Paired.length r
   exact wpAny_truthy_dict hS m (by omega) ⟨H,I.tok _,by rw[tV r];exact q⟩
 | _=>exact(show False from e).elim
theorem eQ (ha:PE X a ta)(he:∀whole,isTrue a X.env whole=(do let v ←whole;standAt a.pos;holding [v] (truthy v))) :
  PT X a (fun σ H Q=>ta σ H fun x H'=>∃k,DC X.K x H' k∧Q k H'):=by
 intro pins s σ H Q I h
 exact isTrue_plain (thn (ha pins s σ H _ I h) fun v s1 ⟨x,H1,I1,r1,q1⟩=>CZ pins s1 σ H1 x v Q I1 r1 q1) (he _)
theorem tw:OpR X (binaryOp .Add) (fun x y H Q=>∃i j,x=.str i∧y=.str j∧i.length+j.length≤sizeLine∧Q (.str (i++j)) H):=by
 intro pins s σ H x y v u Q I rx ry h
 obtain⟨i,j,rfl,rfl,hz,q⟩:=h
 obtain⟨t,rfl⟩:=rx
 obtain⟨t',rfl⟩:=ry
 exact add_str (fun t' tk=>⟨.str (i++j),H,I.tok _,⟨_,rfl⟩,q⟩) hz
theorem fG {x:V}{us:List Value}(r:Vals [x] us):∃u,us=[u]∧RelV x u:=by
 cases r with
 | cons r1 r2=>cases r2;exact⟨_,rfl,r1⟩
theorem u7 {x y:V}{us:List Value}(r:Vals [x,y] us):∃u w',us=[u,w']∧RelV x u∧RelV y w':=by
 cases r with
 | cons r1 r2 =>
  cases r2 with
  | cons r3 r4=>cases r4;exact⟨_,_,rfl,r1,r3⟩
theorem wo (hc:X.calm=true):dn X (.builtin "max") (fun xs H Q=>∃i j,xs=[.int i,.int j]∧Q (.int (if j > i then j else i)) H):=by
 intro pins s σ H xs us Q I r h
 obtain⟨i,j,rfl,q⟩:=h
 obtain⟨u,w',rfl,⟨t,rfl⟩,⟨t',rfl⟩⟩:=u7 r
 refine max_two_ints (I.ok.hd hc) fun h' tk k=>⟨_,H,I.kept k,?_,q⟩
 by_cases hj:j > i
 ·rw[GA hj,GA hj];exact⟨_,rfl⟩
 ·rw[F_ hj,F_ hj];exact⟨_,rfl⟩
theorem vY (hc:X.calm=true):dn X (.builtin "min") (fun xs H Q=>∃i j,xs=[.int i,.int j]∧Q (.int (if j<i then j else i)) H):=by
 intro pins s σ H xs us Q I r h
 obtain⟨i,j,rfl,q⟩:=h
 obtain⟨u,w',rfl,⟨t,rfl⟩,⟨t',rfl⟩⟩:=u7 r
 refine min_two_ints (I.ok.hd hc) fun h' tk k=>⟨_,H,I.kept k,?_,q⟩
 by_cases hj:j<i
 ·rw[GA hj,GA hj];exact⟨_,rfl⟩
 ·rw[F_ hj,F_ hj];exact⟨_,rfl⟩
theorem wn:dn X (.type "int") (fun xs H Q=>(∃i,xs=[.int i]∧Q (.int i) H)∨∃k,xs=[.bl k]∧Q (.int (if k then 1 else 0)) H):=by
 intro pins s σ H xs us Q I r h
 rcases h with⟨i,rfl,q⟩|⟨k,rfl,q⟩
 ·obtain⟨u,rfl,t,rfl⟩:=fG r
  exact call_int_int ⟨.int i,H,I,⟨_,rfl⟩,q⟩
 ·obtain⟨u,rfl,r1⟩:=fG r
  cases r1
  exact call_int_bool ⟨.int (if k then 1 else 0),H,I.tok _,⟨_,rfl⟩,q⟩
end
end L2
namespace L2
structure ObjM (h:Heap)(x dx C:Addr)(mA:Str→Option Value):Prop where
 obj:h.get? x=some (W.instObj C dx)
 ns:h.Ns1 dx mA
 ne:dx≠x
theorem vq {h:Heap}{dx:Addr}{mA:Str→Option Value}(n:h.Ns1 dx mA):∃od,h.get? dx=some od∧∀name,W.lookIn name od=some (mA name):=by
 obtain⟨o,es,ep,ho,hd,hk,_,hm⟩:=n
 refine⟨o,ho,fun name=>?_⟩
 have e:=hm name
 unfold nsFind findBy at e
 rw[←Array.find?_toList] at e
 unfold W.lookIn
 rw[hd]
 dsimp only
 split
 ·rename_i y q
  rw[q] at e
  exact GR some e
 ·rename_i q
  rw[q] at e
  have a:es.toList.any (·.refKey)=false:=by
   rw[List.any_eq_false]
   intro y hy
   obtain⟨z,t,hkey⟩:=hk y (Array.mem_toList_iff.mp hy)
   simp[DictEntry.refKey,hkey]
  have a':¬es.toList.any (·.refKey)=true:=by rw[a];exact FX
  rw[F_ a']
  exact GR some e
theorem ObjM.look {h:Heap}{x dx C:Addr}{mA:Str→Option Value}(I:ObjM h x dx C mA):∃od,W.InstAt h x (W.instObj C dx) C (some od)∧∀name,W.lookIn name od=some (mA name) :=
 let ⟨od,ho,hl⟩:=vq I.ns
 ⟨od,⟨I.obj,rfl,rfl,ho⟩,hl⟩
section
variable {prog:Program}{w:World}{A:Around}{E:Value→Shared→Prop}{s:Shared}{K:W.Frag}{x dx C f:Addr}{mA:Str→Option Value}{name:Str}{v:Value}
end
theorem RelO.some_of {v:V}{o:Option Value}(r:RelO (some v) o):∃u,o=some u∧RelV v u:=by
 cases o with
 | none=>exact(show False from r).elim
 | some u=>exact⟨u,rfl,r⟩
section
variable {P:Program}{w:World}{H H':Hp}{h h':Heap}{a C dx:Addr}{fs fs':List (Str × V)}
theorem As (hok:HOk P w H h)(e:H a=some (.ins C dx fs)):∃mA,ObjM h a dx C mA∧(∀f,RelO (fs.lookup f) (mA f))∧PySem.Within mA (fs.map (·.1))∧fs.length≤1000∧H dx=some (.own a):=by
 obtain⟨d,z,ne,ob,mA,n,r,q⟩:=(show ObjOk P w H h a (.ins C dx fs) from hok a _ e)
 exact⟨mA,⟨ob,n,ne⟩,r,q,z,d⟩
end
structure Cls (K:W.Frag)(C:Addr):Prop where
 pg:W.plainGet K C Str.empty=true
 hd:W.hasDictIn K C=true
 po:W.plainOver K C=true
 sa:W.findIn K (.ref C) "__setattr__"=some (some (.builtin "object.__setattr__"))
theorem Cls.get {K:W.Frag}{C:Addr}(c:Cls K C)(f:Str):W.plainGet K C f=true:=c.pg
structure Con (K:W.Frag)(C:Addr)(f:Str)(v:V)(u:Value):Prop where
 at_:W.findIn K (.ref C) f=some (some u)
 rel:RelV v u
 get:W.specialIn K u "__get__"=some none
 cp:W.copiedNames.contains f=false
structure FT (K:W.Frag)(C:Addr)(m:Str)(f:Addr):Prop where
 at_:W.findIn K (.ref C) m=some (some (.ref f))
 fn:W.isFn K (.ref f)=true
 kp:W.keepIn K (.ref f)=true
section
variable {X:Cx}{pins:List (Addr × Obj)}{σ:St}{H:Hp}{s:Shared}{a C dx:Addr}{fs:List (Str × V)}{f:Str}{v:V}{A:Around}{E:Value→Shared→Prop}
end
section
variable {X:Cx}{o e value:Expr}{f:Str}{pos pos' tpos:Pos}{ta tv:TE}
end
section
variable {X:Cx}{pins:List (Addr × Obj)}{σ:St}{H:Hp}{s:Shared}{A:Around}{E:Value→Shared→Prop}{Q:Value→Shared→Prop}{c:Value}{b:Bool}
inductive kD (K:W.Frag)(H:Hp):V→Value→Prop where
 | non:kD K H .non (.type "NoneType")
 | bl (x:Bool):kD K H (.bl x) (.type "bool")
 | int (i:Int):kD K H (.int i) (.type "int")
 | str (x:Str):kD K H (.str x) (.type "str")
 | flt (x:UInt64):kD K H (.flt x) (.type "float")
 | lst {a:Addr} {xs:List V} (e:H a=some (.lst xs)):kD K H (.ref a) (.type "list")
 | frz {a:Addr} {o:Obj} {xs:List V} (e:H a=some (.frz o (.lst xs))):kD K H (.ref a) (.type "list")
 | tup {a:Addr} {xs:List V} (e:H a=some (.tup xs)):kD K H (.ref a) (.type "tuple")
 | dK {a:Addr} {kvs:List (Key × V)} (e:H a=some (.dK kvs)):kD K H (.ref a) (.type "dict")
 | dT {a:Addr} {kvs:List (List Key × V)} (e:H a=some (.dT kvs)):kD K H (.ref a) (.type "dict")
 | ins {a C dx:Addr} {fs:List (Str × V)} (e:H a=some (.ins C dx fs)) (cl:Cls K C) (ha:W.findIn K (.ref C) "__class__"=some (some (.builtin "object.__class__")))
   (hn:W.specialIn K (.builtin "object.__class__") "__get__"=some (some (.builtin "getset_descriptor.__get__"))) (htk:W.takesIn K (.builtin "object.__class__")=some true)
   (hm:W.mroIn K C (.type "object")=some true):kD K H (.ref a) (.ref C)
theorem dG {x:V}{u t:Value}(I:Inv X pins σ H s)(rx:RelV x u)(ty:kD X.K H x t)(e:W.kitOne X.K t c=some b)(h:∀tk,Q (.bool b) { s with toks:=tk }) :
  wpAny (model X.prog X.w) A (call (.builtin "isinstance") [u,c]) Q E s:=by
 cases ty with
 | non=>cases (show u=Value.none from rx);exact H_ W.kitx_none I.kIn True.intro e (fun z=>nomatch z) h
 | bl y=>cases (show u=Value.bool y from rx);exact H_ W.kitx_bool I.kIn True.intro e (fun z=>nomatch z) h
 | int i=>obtain⟨t,q⟩:=(show ∃t,u=Value.int i t from rx);cases q;exact H_ W.kitx_int I.kIn True.intro e (fun z=>nomatch z) h
 | str y=>obtain⟨t,q⟩:=(show ∃t,u=Value.str y t from rx);cases q;exact H_ W.kitx_str I.kIn True.intro e (fun z=>nomatch z) h
 | flt y=>obtain⟨t,q⟩:=(show ∃t,u=Value.float y t from rx);cases q;exact H_ W.kitx_float I.kIn True.intro e (fun z=>nomatch z) h
 | @lst a xs ea =>
  cases (show u=Value.ref a from rx)
  obtain⟨_,_,n,_,h1⟩:=(show ObjOk X.prog X.w H s.heap a (.lst xs) from I.hok a _ ea)
  exact H_ KD I.kIn ⟨_,h1,rfl⟩ e (fun z=>nomatch z) h
 | @frz a ob xs ea =>
  cases (show u=Value.ref a from rx)
  obtain⟨_,_,_,n,_,h1⟩:=(show ObjOk X.prog X.w H s.heap a (.frz ob (.lst xs)) from I.hok a _ ea)
  exact H_ KD I.kIn ⟨_,h1,rfl⟩ e (fun z=>nomatch z) h
 | @tup a xs ea =>
  cases (show u=Value.ref a from rx)
  obtain⟨_,_,_,p⟩:=(show ObjOk X.prog X.w H s.heap a (.tup xs) from I.hok a _ ea)
  obtain⟨o,h1,h2,_⟩:=p
  exact H_ W.kitx_tuple I.kIn ⟨o,h1,h2⟩ e (fun z=>nomatch z) h
 | @dK a kvs ea =>
  cases (show u=Value.ref a from rx)
  obtain⟨_,_,vs,_,p⟩:=(show ObjOk X.prog X.w H s.heap a (.dK kvs) from I.hok a _ ea)
  obtain⟨o,es,ep,h1,h2,_⟩:=p
  exact H_ KF I.kIn ⟨o,h1,h2.1⟩ e (fun z=>nomatch z) h
 | @dT a kvs ea =>
  cases (show u=Value.ref a from rx)
  obtain⟨_,_,xs,_,o,es,ep,h1,h2,_⟩:=(show ObjOk X.prog X.w H s.heap a (.dT kvs) from I.hok a _ ea)
  exact H_ KF I.kIn ⟨o,h1,h2.1⟩ e (fun z=>nomatch z) h
 | @ins a C dx fs ea cl ha hn htk hm =>
  cases (show u=Value.ref a from rx)
  obtain⟨mA,O,_⟩:=As I.hok ea
  obtain⟨od,J,_⟩:=O.look
  exact H_ (W.kitx_own (cl.get _) cl.hd ha hn htk hm) I.kIn J e (fun z=>nomatch z) h
end
end L2
namespace L2
structure Room (k:Nat)(A:Around):Prop where
 hd:A.handled=none
 dp:A.depth+3*k+5<recursionLimit
 un:A.units+16*k+200<cLine
 gd:A.guards=some []
theorem Room.mono {j k:Nat}{A:Around}(r:Room k A)(h:j≤k):Room j A:=⟨r.hd,by have:=r.dp;omega,by have:=r.un;omega,r.gd⟩
theorem Room.deeper {k:Nat}{A:Around}(r:Room (k+1) A)(env:Env):Room k (A.deeper env) :=
 ⟨r.hd,by have:=r.dp;show A.depth+1+3*k+5<_;omega,by have:=r.un;show A.units+3+16*k+200<_;omega,r.gd⟩
theorem Room.depth {k:Nat}{A:Around}(r:Room k A):A.depth<recursionLimit:=by have:=r.dp;omega
theorem Room.units {k:Nat}{A:Around}(r:Room k A):A.units+64<cLine:=by have:=r.un;omega
noncomputable def xO:TA:=fun _ H Q=>Q [] H
noncomputable def qH (ta:TE)(tr:TA):TA:=fun σ H Q=>ta σ H fun x H1=>tr σ H1 fun xs H2=>Q (x::xs) H2
section
variable {X:Cx}{e:Expr}{es:List Expr}{te:TE}{t:TA}{pos:Pos}
theorem jz:PA X [] xO:=fun _ _ _ _ H Q I h=>Calls.spliced_nil ⟨[],H,I,.nil,h⟩
theorem AL (ha:PE X e te)(hr:PA X es t)(hs:starEach (e::es) X.env=(false,eval e X.env)::starEach es X.env:=by rfl):PA X (e::es) (qH te t):=by
 intro pos pins s σ H Q I h
 rw[hs]
 show wpAny _ _ (spliced ((false,eval e X.env)::backTo pos (starEach es X.env))) _ _ s
 refine Calls.spliced_cons (thn (ha pins s σ H _ I h) fun u s1 ⟨x,H1,I1,r1,q1⟩=>?_)
 exact thn (hr pos pins s1 σ H1 _ I1 q1) fun us s2 ⟨xs,H2,I2,r2,q2⟩=>⟨x::xs,H2,I2,.cons r1 r2,q2⟩
noncomputable def Fw (t:TA):TE:=fun σ H Q=>t σ H fun xs H1=>xs.length≤sizeLine∧∀p,H1 p=none→Q (.ref p) (upd H1 p (.tup xs))
noncomputable def FL (t:TA):TE:=fun σ H Q=>t σ H fun xs H1=>xs.length≤sizeLine∧∀p,H1 p=none→Q (.ref p) (upd H1 p (.lst xs))
theorem BN {x1}(h:PA X es t):PE X (.Tuple es x1 pos) (Fw t):=by
 intro pins s σ H Q I hq
 refine wpAny_Tuple_spliced (thn (h pos pins s σ H _ I hq) fun us s1 ⟨xs,H1,I1,r,z,q⟩=>⟨by rw[←r.length];exact z,?_⟩)
 have hf:H1 s1.heap.objs.size=none:=I1.hok.fresh (F2 _)
 refine⟨.ref s1.heap.objs.size,upd H1 s1.heap.objs.size (.tup xs),I1.laid (t':=s1.toks) (fun b u e=>F5 _ e) (F2 _) ?_,rfl,q _ hf⟩
 exact⟨z,us,r,⟨_,GP _ rfl,rfl,_,rfl⟩⟩
theorem Db (h:PA X es t):PE X (.List es pos) (FL t):=by
 intro pins s σ H Q I hq
 refine wpAny_List_spliced (thn (h pos pins s σ H _ I hq) fun us s1 ⟨xs,H1,I1,r,z,q⟩=>⟨by rw[←r.length];exact z,?_⟩)
 have hf:H1 s1.heap.objs.size=none:=I1.hok.fresh (F2 _)
 refine⟨.ref s1.heap.objs.size,upd H1 s1.heap.objs.size (.lst xs),I1.laid (t':=s1.toks) (fun b u e=>F5 _ e) (F2 _) ?_,rfl,q _ hf⟩
 exact⟨z,us,0,r,GP _ rfl⟩
end
noncomputable abbrev Sp:=List V→Hp→VK→XK→Prop
noncomputable abbrev CXT:=List Env→Hp→Shared→XK→Value→Shared→Prop
structure vQ (P:Program)(w:World)(K:W.Frag)(mg:Str→Option Value)(base:Heap)(A:Around)(outer:List Env)(s:Shared)(H:Hp):Prop where
 frames:A.frames=some outer
 mod:Mod K mg base
 bs:∀b o,base.get? b=some o→s.heap.get? b=some o∧H b=none
 bsz:base.objs.size≤s.heap.objs.size
 funs:s.heap.FunFrames base outer
 frf:∀b∈frs outer,H b=none
 hok:HOk P w H s.heap
 bare:AllBare s.gens
def CE (outer:List Env)(P:Program)(w:World)(H:Hp)(s:Shared)(Q:VK)(u:Value)(s':Shared):Prop :=
 ∃v H',s'.os=s.os∧AllBare s'.gens∧Un (frs outer) [] H H' s.heap s'.heap∧HOk P w H' s'.heap∧RelV v u∧Q v H'
def CR (CX:CXT)(outer:List Env)(P:Program)(w:World)(H:Hp)(s:Shared)(Q:VK)(E:XK)(r:Result)(s':Shared):Prop :=
 match r with
 | .ok (.ret u)=>CE outer P w H s Q u s'
 | .ok _=>False
 | .error e=>CX outer H s E e s'
structure mG (P:Program)(w:World)(K:W.Frag)(mg:Str→Option Value)(base:Heap)(CX:CXT)(k:Nat)(f:Addr)(fd:FuncData)(ps:List Str)(sp:Sp):Prop where
 len:∀vs H Q E,sp vs H Q E→vs.length=ps.length
 run:∀(A:Around) (outer:List Env) (s:Shared) (H:Hp) (args:Args) (us:List Value) (vs:List V) (Q:VK) (E:XK),Room k A→vQ P w K mg base A outer s H→BindsTo s fd args (ps.zip us)→Vals vs us→sp vs H Q E →
  codeAny (model P w) A (.call (.ref f) args) (CR CX outer P w H s Q E) s
section
variable {X:Cx}{pins:List (Addr × Obj)}{σ:St}{H:Hp}{s s':Shared}
theorem Inv.env0 (I:Inv X pins σ H s):vQ X.prog X.w X.K X.mg X.base X.A X.stack s H :=
 ⟨I.ok.frames,I.ok.mod,I.bs,GW I.ok.bsz I.sz,I.stack,I.stkFree,I.hok,I.bare⟩
theorem Inv.after {Q:VK}{u:Value}(I:Inv X pins σ H s)(h:CE X.stack X.prog X.w H s Q u s'):EP X pins σ Q u s':=by
 obtain⟨v,H',os,bare,un,hok,r,q⟩:=h
 obtain⟨hh,g,d,t,os'⟩:=s'
 obtain rfl:os'=s.os:=os
 exact⟨v,H',I.call (h':=hh) (g':=g) (d':=d) (t':=t) (ch:=[]) un hok bare (fun b z=>absurd z (by simp)),r,q⟩
end
noncomputable def nT (sp:Sp)(dvs:List V)(E:XK)(t:TA):TE:=fun σ H Q=>t σ H fun vs H1=>sp (vs++dvs) H1 Q E
def Binds (K:W.Frag)(fd:FuncData)(ps:List Str)(ds:List Value):Prop :=
 ∀(s:Shared) (us:List Value),K.In s.heap→(us++ds).length=ps.length→BindsTo s fd ⟨us,[]⟩ (ps.zip (us++ds))
theorem Binds.all {K:W.Frag}{fd:FuncData}{ps:List Str}(h:∀us:List Value,us.length=ps.length→bindArgs fd ⟨us,[]⟩=pure (ps.zip us)):Binds K fd ps []:=fun s us _ hl=>by
 rw[IT] at hl ⊢
 exact .of_eq (h us hl)
def o6 (CX:CXT)(X:Cx)(E:XK):Prop:=∀(pins:List (Addr × Obj)) (σ:St) (H:Hp) (s:Shared) (e:Value) (s':Shared),Inv X pins σ H s→CX X.stack H s E e s'→X.xe e s'
section
variable {X:Cx}{CX:CXT}{k:Nat}{f C:Addr}{fd:FuncData}{ps:List Str}{sp:Sp}{dvs:List V}{ds:List Value}{E:XK}{x m:Str}{p pos apos:Pos}{e o:Expr}{es:List Expr}{ta:TE}{t:TA}
theorem yj {pins:List (Addr × Obj)}{σ:St}{H:Hp}{s:Shared}{Q:VK}{us:List Value}{vs:List V}(F:mG X.prog X.w X.K X.mg X.base CX k f fd ps sp)(hr:Room k X.A)(hb:Binds X.K fd ps ds)(hd:Vals dvs ds)(hx:o6 CX X E)
  (I:Inv X pins σ H s) (r:Vals vs us) (h:sp (vs++dvs) H Q E):wpAny (model X.prog X.w) X.A (call (.ref f) us) (EP X pins σ Q) X.xe s:=by
 have r2:Vals (vs++dvs) (us++ds):=r.append hd
 have hl:(us++ds).length=ps.length:=by rw[←r2.length];exact F.len _ _ _ _ h
 refine wpAny_call (codeAny_mono (F.run X.A X.stack s H ⟨us,[]⟩ (us++ds) (vs++dvs) Q E hr I.env0 (hb s us I.kIn hl) r2 h) fun r s' hq=>?_)
 cases r with
 | error e=>exact hx pins σ H s e s' I hq
 | ok fl =>
  cases fl with
  | ret u=>exact I.after hq
  | next=>exact False.elim hq
  | brk=>exact False.elim hq
  | cont=>exact False.elim hq
theorem Ay (F:mG X.prog X.w X.K X.mg X.base CX k f fd ps sp)(hr:Room k X.A)(hg:Gl X x)(hm:X.mg x=some (.ref f))(hk:W.keepIn X.K (.ref f)=true)(hb:Binds X.K fd ps ds)(hd:Vals dvs ds)(hx:o6 CX X E)
  (ha:PA X (e::es) t) (hdb:(x == ("__debug__":Str))=false:=by decide) (he:starEach (e::es) X.env=(false,eval e X.env)::starEach es X.env:=by rfl) (hpl:(backTo pos (starEach es X.env)).any (·.1)=false:=by rfl) :
  PE X (.Call (.Name x p) (e::es) [] pos) (nT sp dvs E t):=by
 intro pins s σ H Q I h
 refine wpAny_Call_Name_kw (pV I hg hm ?_ hdb)
 refine W.callWith_K (h₀:=X.base) I.ok.mod.kin hk (thn (ha pos pins s σ H _ I h) fun us s1 ⟨vs,H1,I1,r,q⟩=>⟨I1.kIn,?_⟩) he hpl
 exact yj F hr hb hd hx I1 r q
theorem yI (F:mG X.prog X.w X.K X.mg X.base CX k f fd ps sp)(hr:Room k X.A)(hg:Gl X x)(hm:X.mg x=some (.ref f))(hk:W.keepIn X.K (.ref f)=true)(hb:Binds X.K fd ps ds)(hd:Vals dvs ds)(hx:o6 CX X E)
  (hdb:(x == ("__debug__":Str))=false:=by decide):PE X (.Call (.Name x p) [] [] pos) (nT sp dvs E xO):=by
 intro pins s σ H Q I h
 refine wpAny_Call_Name_kw (pV I hg hm ?_ hdb)
 exact W.callWith_K0 I.kIn hk (yj (us:=[]) F hr hb hd hx I .nil h)
structure Mk (K:W.Frag)(C f:Addr):Prop where
 makes:W.makesIn K C=true
 init:W.findIn K (.ref C) "__init__"=some (some (.ref f))
 fn:W.isFn K (.ref f)=true
 kp:W.keepIn K (.ref C)=true
end
section
variable {X:Cx}{CX:CXT}{k:Nat}{f C:Addr}{fd:FuncData}{ps ks:List Str}{sp:Sp}{E:XK}{x m:Str}{p pos apos kpos:Pos}{e o:Expr}{es:List Expr}{kws:List Keyword}{te ta:TE}{t tk:TA}{nm:Option Str}
structure FO (K:W.Frag)(fd:FuncData)(ps ks:List Str)(g:List Value→List Value→List Value)(gV:List V→List V→List V):Prop where
 to:∀(s:Shared) (us ws:List Value),K.In s.heap→(g us ws).length=ps.length→BindsTo s fd ⟨us,ks.zip ws⟩ (ps.zip (g us ws))
 rel:∀ {vs:List V}{us:List Value}{zs:List V}{ws:List Value},Vals vs us→Vals zs ws→Vals (gV vs zs) (g us ws)
variable {g:List Value→List Value→List Value}{gV:List V→List V→List V}
end
structure ah (N P:List Str)(sc:Scope):Prop where
 kind:sc.kind=.function
 co:sc.isCoroutine=false
 gen:sc.isGenerator=false
 nd:N.Nodup
 pre:N.take P.length=P
 par:∀x∈P,sc.names.lookup x=some .local∨sc.names.lookup x=some .cell
 nofree:∀y∈sc.names,y.2≠.free
theorem nP {kindOf:Str→Option NameKind}{x:Str}:∀ {binds:List (Str × Value)}{m:Str→Option Value},(∀v,(x,v) ∉ binds)→bindL kindOf binds m x=m x
 | [],_,_=>rfl
 | (n,v)::r,m,h=>by
  unfold bindL
  rw[nP fun w hw=>h w (GO _ hw)]
  split
  ·have:x≠n:=by rintro rfl;exact h v GQ
   simp[this]
  ·rfl
theorem nR {kindOf:Str→Option NameKind}{x:Str}:∀ {binds:List (Str × Value)}{m:Str→Option Value},(∀v,(x,v) ∉ binds)→bindC kindOf binds m x=m x
 | [],_,_=>rfl
 | (n,v)::r,m,h=>by
  unfold bindC
  rw[nR fun w hw=>h w (GO _ hw)]
  split
  ·rfl
  ·have:x≠n:=by rintro rfl;exact h v GQ
   simp[this]
theorem nz {kindOf:Str→Option NameKind}{x:Str}{v:Value}:∀ {P:List Str}{vs:List Value}{i:Nat}{m:Str→Option Value},P.Nodup→P[i]?=some x→vs[i]?=some v→kindOf x=some .local →
  bindL kindOf (P.zip vs) m x=some v
 | [],_,_,_,_,h,_,_=>by simp at h
 | _::_,[],_,_,_,_,h,_=>by simp at h
 | p::P,w::vs,0,m,nd,h1,h2,hk=>by
  simp at h1 h2;subst h1;subst h2
  show bindL kindOf ((p,w)::P.zip vs) m p=_
  unfold bindL
  rw[nP fun v hv=>(HL.mp nd).1 (J1 hv).1,GA hk]
  simp
 | p::P,w::vs,i+1,m,nd,h1,h2,hk=>by
  show bindL kindOf ((p,w)::P.zip vs) m x=_
  unfold bindL
  exact nz (i:=i) (HL.mp nd).2 (by simpa using h1) (by simpa using h2) hk
theorem ou {kindOf:Str→Option NameKind}{x:Str}{v:Value}:∀ {P:List Str}{vs:List Value}{i:Nat}{m:Str→Option Value},P.Nodup→P[i]?=some x→vs[i]?=some v→kindOf x≠some .local →
  bindC kindOf (P.zip vs) m x=some v
 | [],_,_,_,_,h,_,_=>by simp at h
 | _::_,[],_,_,_,_,h,_=>by simp at h
 | p::P,w::vs,0,m,nd,h1,h2,hk=>by
  simp at h1 h2;subst h1;subst h2
  show bindC kindOf ((p,w)::P.zip vs) m p=_
  unfold bindC
  rw[nR fun v hv=>(HL.mp nd).1 (J1 hv).1,F_ hk]
  simp
 | p::P,w::vs,i+1,m,nd,h1,h2,hk=>by
  show bindC kindOf ((p,w)::P.zip vs) m x=_
  unfold bindC
  exact ou (i:=i) (HL.mp nd).2 (by simpa using h1) (by simpa using h2) hk
noncomputable def start (N:List Str)(vs:List V):St:=vs.map some++List.replicate (N.length-vs.length) none
noncomputable def jf (CX:CXT)(P:Program)(w:World)(K:W.Frag)(mg:Str→Option Value)(base:Heap)(N:List Str)(qual:Str)(scope:Scope)(f:Addr)(cd:Value)(A:Around)(outer:List Env)(s:Shared)(H:Hp)(E:XK):Cx where
 prog:=P
 w:=w
 K:=K
 mg:=mg
 base:=base
 A:=A.deeper (envOfC qual scope s.heap.objs.size f cd)
 N:=N
 s₀:=s
 H₀:=H
 env:=envOfC qual scope s.heap.objs.size f cd
 outer:=outer
 stack:=envOfC qual scope s.heap.objs.size f cd::outer
 ex:=[]
 calm:=true
 fn:=fun _=>true
 pn:=[]
 xe:=fun e s'=>wpAny (model P w) (A.deeper (envOfC qual scope s.heap.objs.size f cd)) (leaving (envOfC qual scope s.heap.objs.size f cd) e) (fun _ s''=>CX outer H s E e s'') (fun e' s''=>CX outer H s E e' s'') s'
theorem qA {sc:Scope}{n:Nat}{x:Str}(h:sc.names.lookup x=some .cell):∃c,(cellsFrom n sc.names []).lookup x=some c:=by
 have q:=W.cellsFrom_some sc.names n [] (.inl h)
 exact Option.isSome_iff_exists.mp q
theorem vT {CX:CXT}{P:Program}{w:World}{K:W.Frag}{mg:Str→Option Value}{base:Heap}{N ps:List Str}{qual:Str}{scope:Scope}{f:Addr}{cd:Value}{A:Around}{outer:List Env}{s s1:Shared}{H:Hp}{E:XK}{us:List Value}{vs:List V}
  (S:ah N ps scope) (hd:A.handled=none) (e0:vQ P w K mg base A outer s H) (hl:vs.length=ps.length) (r:Vals vs us)
  (x:InCallC s s.heap.objs.size (bindL (envOfC qual scope s.heap.objs.size f cd).kindOf (ps.zip us) fun _=>none) (cellsFrom (s.heap.objs.size+1) scope.names []) (bindC (envOfC qual scope s.heap.objs.size f cd).kindOf (ps.zip us) fun _=>none) s1) :
  Inv (jf CX P w K mg base N qual scope f cd A outer s H E) [] (start N vs) H s1:=by
 have hpl:ps.length≤N.length:=by have:=GR List.length S.pre;rw[JF] at this;omega
 obtain⟨h1,tk,rfl,hk⟩:=x.done
 have noA:∀b:Addr,b ∉ (jf CX P w K mg base N qual scope f cd A outer s H E).ex:=fun b z=>absurd (show b∈([]:List Addr) from z) (by simp)
 refine⟨⟨e0.mod,S.kind,rfl,rfl,F2 _,fun y z c h1 h2=>?_,fun y hy=>?_,fun y c _ h=>?_,fun _=>hd,Around.frames_deeper e0.frames,.inr ⟨rfl,rfl⟩,fun b z=>absurd z (noA b),e0.bs,e0.bsz,fun b _ _=>noA b,fun b z=>absurd z (noA b),e0.funs,e0.frf⟩,
  rfl,e0.bare,Un.kept hk,⟨_,x.toInCall.ns,fun i y v h1 h2 h3=>?_⟩,fun y c h=>⟨_,x.cell y c h⟩,e0.hok.fresh (F2 _),fun y c h=>?_,fun p hp=>absurd (show p∈([]:List (Addr × Obj)) from hp) (by simp),e0.hok.kept hk,?_⟩
 ·exact name_of_addr x.apart (HN h1) (HN h2)
 ·have hy:scope.names.lookup y=some .cell∨scope.names.lookup y=some .free:=hy
  rcases hy with hy|hy
  ·exact qA hy
  ·exact absurd rfl (S.nofree _ (HN hy))
 ·exact HQ (x.above y c (HN h))
 ·have hi:i<vs.length:=by
   unfold start at h2
   by_cases hi:i<vs.length
   ·exact hi
   ·rw[GJ (by simpa using hi)] at h2
    rw[List.getElem?_replicate] at h2
    split at h2 <;> cases h2
  have ha:vs[i]?=some v:=by
   unfold start at h2
   rw[GG (by simpa using hi),F9] at h2
   cases e:vs[i]? with
   | none=>rw[e] at h2;cases h2
   | some a=>rw[e] at h2;cases h2;rfl
  obtain⟨u,hu,rv⟩:=r.get ha
  have hp:ps[i]?=some y:=by
   rw[←S.pre,IP (by omega)];exact h1
  have ndP:ps.Nodup:=by rw[←S.pre];exact S.nd.sublist (List.take_sublist _ _)
  refine⟨u,rv,?_⟩
  rcases S.par y (GE hp) with k|k
  ·exact .inl ⟨k,nz ndP hp hu k⟩
  ·obtain⟨c,e⟩:=qA (n:=s.heap.objs.size+1) k
   refine .inr ⟨.inl k,c,e,?_⟩
   have q:=x.cell y c e
   rw[ou ndP hp hu (by show scope.names.lookup y≠_;rw[k];decide)] at q
   exact q
 ·exact e0.hok.fresh (HQ (x.above y c (HN h)))
 ·unfold start
  show _=N.length
  rw[HF,GI,List.length_replicate]
  omega
theorem ET {CX:CXT}{P:Program}{w:World}{K:W.Frag}{mg:Str→Option Value}{base:Heap}{k:Nat}{f:Addr}{name qual:Str}{params:Arguments}{body:List Stmt}{scope:Scope}{dV kV doc pm cdv ct oc:Value}{an od:Option Addr}
  {osl:Array (Option Value)}{N ps:List Str}{sp:Sp} (lk:K.lookup f=some ⟨oc,od,.func (W.fnOf name qual params body scope dV kV doc pm an cdv ct),osl⟩) (hcd:W.codeIn K cdv qual=true) (S:ah N ps scope)
  (len:∀vs H Q E,sp vs H Q E→vs.length=ps.length)
  (hbody:∀(A:Around) (outer:List Env) (s:Shared) (H:Hp) (vs:List V) (Q:VK) (E:XK),Room k (A.deeper (envOfC qual scope s.heap.objs.size f cdv))→sp vs H Q E →
   ∃t,PSs (jf CX P w K mg base N qual scope f cdv A outer s H E) body t∧t { nx:=fun _ H'=>Q .non H',rt:=Q } (start N vs) H) :
  mG P w K mg base CX (k+1) f (W.fnOf name qual params body scope dV kV doc pm an cdv ct) ps sp:=by
 refine⟨len,fun A outer s H args us vs Q E hr e0 hb r hsp=>?_⟩
 have hl:=len _ _ _ _ hsp
 have KX:K.In s.heap:=e0.mod.kin.keeps fun b o e=>(e0.bs b o e).1
 have lim:s.heap.NoLimit:=e0.mod.nolimit.keeps fun b o e=>(e0.bs b o e).1
 have hkind:∀y∈ps.zip us,scope.names.lookup y.1=some .local∨(scope.names.lookup y.1=some .cell∧((cellsFrom (s.heap.objs.size+1) scope.names []).lookup y.1).isSome=true):=fun ⟨n,v⟩ hy=>by
  rcases S.par n (J1 hy).1 with q|q
  ·exact .inl q
  ·exact .inr ⟨q,W.cellsFrom_some _ _ _ (.inl q)⟩
 refine codeAny_call_function hr.depth (KX _ _ lk) rfl S.co S.gen rfl (W.codeRec_of KX hcd) (hb _ _ _ _ ?_)
 refine wpAny_newFunctionEnv_cells S.kind hkind fun env he s1 x=>?_
 subst he
 refine⟨lim.keeps x.toInCall.keep,codeAny_func ?_⟩
 obtain⟨t,ht,hq⟩:=hbody A outer s H vs Q E (hr.deeper _) hsp
 have I:Inv (jf CX P w K mg base N qual scope f cdv A outer s H E) [] (start N vs) H s1:=vT S hr.hd e0 hl r x
 refine wpAny_mono (ht [] s1 (start N vs) H _ I hq) (fun fl s' hs=>?_) fun e s' hs=>hs
 have fin:∀ {σ':St}{H':Hp}{v:V}{u:Value},Inv (jf CX P w K mg base N qual scope f cdv A outer s H E) [] σ' H' s'→RelV v u→Q v H'→CE outer P w H s Q u s' :=
  fun {σ' H' v u} J rv q=>⟨v,H',J.os,J.bare,J.base,J.hok,rv,q⟩
 cases fl with
 | ret u =>
  obtain⟨v,σ',H',J,rv,q⟩:=hs
  exact fin J rv q
 | next =>
  obtain⟨σ',H',J,q⟩:=hs
  exact fin (v:=V.non) (u:=Value.none) J rfl q
 | brk =>
  obtain⟨_,_,_,q⟩:=hs
  exact False.elim q
 | cont =>
  obtain⟨_,_,_,q⟩:=hs
  exact False.elim q
end L2
namespace L2
section
variable {X:Cx}{x:Str}{p pos:Pos}{e:Expr}{es:List Expr}{t:TA}{id T:String}{r:List V→Hp→VK→Prop}
noncomputable def tCB (r:List V→Hp→VK→Prop)(t:TA):TE:=fun σ H Q=>t σ H fun vs H1=>r vs H1 Q
theorem ww (hc:dn X (.builtin id) r)(hg:Gl X x)(hm:X.mg x=none)(hv:bootBuiltins x=some (.builtin id))(ha:PA X (e::es) t)(hn:x≠"__name__":=by decide)(hdb:(x == ("__debug__":Str))=false:=by decide)
  (he:starEach (e::es) X.env=(false,eval e X.env)::starEach es X.env:=by rfl) (hpl:(backTo pos (starEach es X.env)).any (·.1)=false:=by rfl):PE X (.Call (.Name x p) (e::es) [] pos) (tCB r t):=by
 intro pins s σ H Q I h
 refine wpAny_Call_Name_kw (pU I hg hm hv ?_ hn hdb)
 exact PyProof.Rows.callWith_builtin1 (thn (ha pos pins s σ H _ I h) fun us s1 ⟨vs,H1,I1,r1,q1⟩=>hc pins s1 σ H1 vs us Q I1 r1 q1) he hpl
theorem vA (hc:dn X (.type T) r)(hg:Gl X x)(hm:X.mg x=none)(hv:bootBuiltins x=some (.type T))(ha:PA X (e::es) t)(hn:x≠"__name__":=by decide)(hdb:(x == ("__debug__":Str))=false:=by decide)
  (he:starEach (e::es) X.env=(false,eval e X.env)::starEach es X.env:=by rfl) (hpl:(backTo pos (starEach es X.env)).any (·.1)=false:=by rfl):PE X (.Call (.Name x p) (e::es) [] pos) (tCB r t):=by
 intro pins s σ H Q I h
 refine wpAny_Call_Name_kw (pU I hg hm hv ?_ hn hdb)
 exact PyProof.Rows.callWith_type1 (thn (ha pos pins s σ H _ I h) fun us s1 ⟨vs,H1,I1,r1,q1⟩=>hc pins s1 σ H1 vs us Q I1 r1 q1) he hpl
end
end L2
namespace HT
open PySem PyProof.Rows
section
open PySem.SeqAt
open PySem.AutoSeq1 (wpAny_loadPart')
open PySem.MeetsSeq PySem.MeetsSeq2 PySem.MeetsSeq3
end
section
variable {prog:Program}{w:World}{A:Around}{E:Value→Shared→Prop}{s:Shared}
theorem cat_tup {t b:Addr}{vs ws:List Value}{Q:Value→Shared→Prop}(ht:IsTup s.heap t vs.toArray)(hb:IsTup s.heap b ws.toArray)(hv:vs≠[])
  (h1:ws=[]→Q (.ref t) s) (h2:ws≠[]→Q (.ref s.heap.objs.size) { s with heap:=s.heap.push { cls:=.type "tuple",data:=.seq (vs++ws).toArray } })
  (hsz:vs.length+ws.length≤sizeLine):wpAny (model prog w) A (binaryOp .Add (.ref t) (.ref b)) Q E s:=by
 obtain⟨⟨cls,dd,data,sl⟩,ho,hc,n,hd⟩:=id ht
 obtain⟨⟨cls2,dd2,data2,sl2⟩,ho2,hc2,n2,hd2⟩:=id hb
 simp only at hc hd hc2 hd2
 subst hc hd hc2 hd2
 have e:vs.toArray++ws.toArray=(vs++ws).toArray:=by simp
 by_cases hw:ws=[]
 ·exact concat_meets ⟨_,ho,rfl⟩ ⟨_,ho2,rfl⟩ noFill_tuple_add seq_tuple_add I_ IY (IR _ _)
   (tuple_addW1 t b vs.toArray ws.toArray n n2 dd dd2 sl sl2 (by simpa using hv) (by simp[hw])) ⟨ho,ho2,h1 hw⟩
 ·refine concat_meets ⟨_,ho,rfl⟩ ⟨_,ho2,rfl⟩ noFill_tuple_add seq_tuple_add I_ IY (IR _ _)
   (tuple_addW2 t b vs.toArray ws.toArray n n2 dd dd2 sl sl2 (by simpa using hv) (by simpa using hw) (by rw[GM,GM];exact hsz)) ⟨ho,ho2,?_⟩
  rw[e]
  exact h2 hw
noncomputable def sIx (n d:Nat):Option Int→Nat
 | none=>d
 | some v=>if v<0 then (v+(n:Int)).toNat else min v.toNat n
theorem sIx_none (n d:Nat):sIx n d none=d:=rfl
theorem sIx_nat (n d k:Nat):sIx n d (some (k:Int))=min k n:=by
 show (if (k:Int)<0 then ((k:Int)+(n:Int)).toNat else min (k:Int).toNat n)=min k n
 rw[F_ (by omega),Int.toNat_natCast]
theorem B0 (n d:Nat)(hd:d≤n)(o:Option Int):sIx n d o≤n:=by
 cases o with
 | none=>exact hd
 | some v =>
  show (if v<0 then (v+(n:Int)).toNat else min v.toNat n)≤n
  by_cases hv:v<0
  ·rw[GA hv];omega
  ·rw[F_ hv];exact Nat.min_le_right _ _
theorem vi (v:Int)(n d:Nat):(if v<0 then max (v+(n:Int)) 0 else min v (n:Int))=((sIx n d (some v):Nat):Int):=by
 show (if v<0 then max (v+(n:Int)) 0 else min v (n:Int))=(((if v<0 then (v+(n:Int)).toNat else min v.toNat n):Nat):Int)
 by_cases hv:v<0
 ·simp only[if_pos hv];omega
 ·simp only[if_neg hv];omega
theorem rW (lo hi:Option Int)(n:Nat):Builtin.Slice.sliceAdjust lo hi 1 (n:Int)=(((sIx n 0 lo:Nat):Int),((sIx n n hi:Nat):Int)):=by
 have h1:¬((1:Int)<0):=by omega
 unfold Builtin.Slice.sliceAdjust
 simp only[h1,if_false]
 refine JV ?_ ?_
 ·cases lo with
  | none=>rfl
  | some v=>exact vi v n 0
 ·cases hi with
  | none=>rfl
  | some v=>exact vi v n n
theorem tB (i j:Nat):Builtin.Slice.slicePlaces (i:Int) (j:Int) 1=j-i:=by
 unfold Builtin.Slice.slicePlaces
 have h1:(1:Int) > 0:=by omega
 simp only[h1,if_true,Int.ediv_one]
 split <;> omega
theorem mi {v:Value}{o:Option Int}{Q:Option Int→Shared→Prop}(p:IsPart v o)(h:Q o s):wpAny (model prog w) A (Builtin.Slice.slicePartIndex v) Q E s:=by
 cases p with
 | none=>exact slicePart_none h
 | int i t=>exact slicePart_int h
theorem sliceApplied_gen {sl:Addr}{vl vu:Value}{lo hi:Option Int}{n:Nat}{Q:Int × Int × Nat→Shared→Prop}(hs:s.heap.IsSliceOf sl vl vu .none)(pl:IsPart vl lo)(pu:IsPart vu hi)
  (h:Q (((sIx n 0 lo:Nat):Int),1,sIx n n hi-sIx n 0 lo) s):wpAny (model prog w) A (Builtin.Slice.sliceApplied (.ref sl) (pure (n:Int))) Q E s:=by
 obtain⟨os,hos,hcs,hds⟩:=id hs
 unfold Builtin.Slice.sliceApplied Builtin.Slice.sliceFields
 refine F4 (F4 (wpAny_field hos hds (x:=vl) rfl (F4 (wpAny_field hos hds (x:=vu) rfl (F4 (wpAny_field hos hds (x:=.none) rfl (GL ?_)))))))
 refine F4 (slicePart_none ?_)
 show wpAny _ _ (if ((1:Int) == 0)=true then _ else _) _ _ s
 rw[F_ (by decide)]
 refine F4 (mi pl (F4 (mi pu (F4 (GL ?_)))))
 show wpAny _ _ (match Builtin.Slice.sliceAdjust lo hi 1 (n:Int) with|(lo,hi)=>pure (lo,(1:Int),Builtin.Slice.slicePlaces lo hi 1)) _ _ s
 rw[rW lo hi n]
 show wpAny _ _ (pure (((sIx n 0 lo:Nat):Int),(1:Int),Builtin.Slice.slicePlaces ((sIx n 0 lo:Nat):Int) ((sIx n n hi:Nat):Int) 1)) _ _ s
 rw[tB]
 exact GL h
theorem xU (xs:Array Value)(i k:Nat):((List.range k).filterMap fun (m:Nat)=>xs[((i:Int)+(m:Int)*1).toNat]?).toArray=((xs.toList.drop i).take k).toArray:=by
 have e:(fun (m:Nat)=>xs[((i:Int)+(m:Int)*1).toNat]?)=fun m=>xs[i+m]?:=by
  funext m
  have:((i:Int)+(m:Int)*1).toNat=i+m:=by omega
  rw[this]
 rw[e]
 have:=pick_run xs i k
 rw[List.filterMap_map] at this
 have e2:((fun x=>xs[x]?) ∘ fun x=>i+x)=fun m=>xs[i+m]?:=rfl
 rw[e2] at this
 rw[this]
theorem getItem_tuple_cut {t sl:Addr}{items:Array Value}{vl vu:Value}{lo hi:Option Int}{Q:Value→Shared→Prop}(ht:IsTup s.heap t items)(hs:s.heap.IsSliceOf sl vl vu .none)(pl:IsPart vl lo)(pu:IsPart vu hi)
  (hw:¬(sIx items.size 0 lo=0∧sIx items.size items.size hi=items.size))
  (h:Q (.ref s.heap.objs.size) { s with heap:=s.heap.push { cls:=.type "tuple",data:=.seq ((items.toList.drop (sIx items.size 0 lo)).take (sIx items.size items.size hi-sIx items.size 0 lo)).toArray } })
  (hsz:items.size≤sizeLine):wpAny (model prog w) A (getItem (.ref t) (.ref sl)) Q E s:=by
 have htake:sizeOk (.seq ((items.toList.drop (sIx items.size 0 lo)).take (sIx items.size items.size hi-sIx items.size 0 lo)).toArray):=by
  show ((items.toList.drop (sIx items.size 0 lo)).take (sIx items.size items.size hi-sIx items.size 0 lo)).toArray.size≤sizeLine
  rw[GM,JF,List.length_drop,Array.length_toList]
  omega
 have hj:sIx items.size items.size hi≤items.size:=B0 _ _ (F2 _) hi
 obtain⟨os,hos,hcs,hds⟩:=id hs
 have hTs:s.TypeIs (.ref sl) "slice":=⟨os,hos,hcs⟩
 unfold getItem
 try with_reducible refine IJ ?_
 first|refine F4 (GL ?_)|skip
 refine F4 (wpAny_sequenceKey ht.typeIs (by decide) ?_)
 refine F4 (wpAny_callSpecial?_slot (name:=Str.ofString "__getitem__") ht.typeIs HY
  (wpAny_call_entry HY ht.typeIs entry_tuple_getitem ?_ (args_tuple_getitem _ _)))
 show wpAny _ _ (Builtin.Tuple.tupleItemsOf (.ref t) >>= _) _ _ s
 refine F4 (tupleItemsOf_ ht ?_)
 refine F4 (wpAny_typeOf hTs ?_)
 rw[GA (by decide)]
 refine F4 (sliceApplied_gen hs pl pu ?_)
 have hno:¬((((sIx items.size 0 lo:Nat):Int) == 0 && (1:Int) == 1 && (sIx items.size items.size hi-sIx items.size 0 lo) == items.size)=true):=by
  intro q
  rw[GD,GD] at q
  have q1:((sIx items.size 0 lo:Nat):Int)=0:=eq_of_beq q.1.1
  have q2:sIx items.size items.size hi-sIx items.size 0 lo=items.size:=eq_of_beq q.2
  exact hw ⟨by omega,by omega⟩
 show wpAny _ _ (if (((sIx items.size 0 lo:Nat):Int) == 0 && (1:Int) == 1 && (sIx items.size items.size hi-sIx items.size 0 lo) == items.size)=true then _ else _) _ _ s
 rw[F_ hno,xU]
 first
  | exact F4 (m:=Builtin.Tuple.tupleExact _) (wpAny_newObj_type (GL ⟨_,rfl,GL h⟩) htake)
  | exact F4 (m:=Builtin.Tuple.tupleExact _) (wpAny_newObj_type (F4 (GL (GL ⟨_,rfl,GL h⟩))) htake)
  | exact F4 (F4 (m:=Builtin.Tuple.tupleExact _) (wpAny_newObj_type (GL (GL ⟨_,rfl,GL h⟩)) htake))
  | exact F4 (F4 (m:=Builtin.Tuple.tupleExact _) (wpAny_newObj_type (GL ⟨_,rfl,GL h⟩) htake))
end
end HT
namespace L2
noncomputable abbrev TO:=St→Hp→(Option Int→Hp→Prop)→Prop
def PO (X:Cx)(e:Option Expr)(t:TO):Prop :=
 ∀(pins:List (Addr × Obj)) (s:Shared) (σ:St) (H:Hp) (Q:Option Int→Hp→Prop),Inv X pins σ H s→t σ H Q →
  wpAny (model X.prog X.w) X.A (evalPart e X.env) (fun u s'=>∃o H',Inv X pins σ H' s'∧IsPart u o∧Q o H') X.xe s
noncomputable def AV:TO:=fun _ H Q=>Q none H
noncomputable def E1 (t:TE):TO:=fun σ H Q=>t σ H fun x H1=>∃i,x=.int i∧Q (some i) H1
section
variable {X:Cx}{e:Expr}{te:TE}{lo hi:Option Expr}{tl th:TO}{pos p2:Pos}
theorem AF:PO X none AV:=by
 intro pins s σ H Q I h
 rw[evalPart_none]
 exact GL ⟨none,H,I,.none,h⟩
theorem A5 (h:PE X e te):PO X (some e) (E1 te):=by
 intro pins s σ H Q I hw
 rw[evalPart_some]
 refine thn (h pins s σ H _ I hw) fun u s1 ⟨x,H1,I1,r1,q1⟩=>?_
 obtain⟨i,rfl,q⟩:=q1
 obtain⟨t,rfl⟩:=r1
 exact⟨some i,H1,I1,.int i t,q⟩
def SlR (X:Cx)(r:V→Option Int→Option Int→Hp→VK→Prop):Prop :=
 ∀(pins:List (Addr × Obj)) (s:Shared) (σ:St) (H:Hp) (x:V) (v vl vu:Value) (lo hi:Option Int) (sl:Addr) (Q:VK),Inv X pins σ H s→RelV x v→s.heap.IsSliceOf sl vl vu .none→IsPart vl lo→IsPart vu hi→r x lo hi H Q →
  ∃T id,typeLookup (.type T) "__getitem__"=pure (some (.builtin id))∧s.TypeIs v T∧wpAny (model X.prog X.w) X.A (getItem v (.ref sl)) (EP X pins σ Q) X.xe s
noncomputable def tSl (r:V→Option Int→Option Int→Hp→VK→Prop)(te:TE)(tl th:TO):TE:=fun σ H Q=>te σ H fun x H1=>tl σ H1 fun l H2=>th σ H2 fun u H3=>r x l u H3 Q
theorem xq {r:V→Option Int→Option Int→Hp→VK→Prop}(hr:SlR X r)(he:PE X e te)(hl:PO X lo tl)(hu:PO X hi th):PE X (.Subscript e (.Slice lo hi none p2) pos) (tSl r te tl th):=by
 intro pins s σ H Q I h
 refine Subscript_ (thn (he pins s σ H _ I h) fun v s1 ⟨x,H1,I1,r1,q1⟩=>?_)
 refine wpAny_Slice (thn (hl pins s1 σ H1 _ I1 q1) fun vl s2 ⟨l,H2,I2,pl,q2⟩=>thn (hu pins s2 σ H2 _ I2 q2) fun vu s3 ⟨u,H3,I3,pu,q3⟩=>?_)
 rw[evalPart_none]
 refine GL ?_
 have I4:Inv X pins σ H3 { s3 with heap:=s3.heap.push { cls:=.type "slice",data:=.fields #[vl,vu,.none] } }:=I3.kept (t':=s3.toks) fun b ob q=>F5 _ q
 obtain ⟨T,id,hT,ht,hg⟩:=hr pins { s3 with heap:=s3.heap.push { cls:=.type "slice",data:=.fields #[vl,vu,.none] } } σ H3 x v vl vu l u s3.heap.objs.size Q I4 r1 (Heap.IsSliceOf.new ..) pl pu q3
 show wpAny (model X.prog X.w) X.A (subscriptTail e (.Slice lo hi none p2) v (.ref s3.heap.objs.size)) (EP X pins σ Q) X.xe { s3 with heap:=s3.heap.push { cls:=.type "slice",data:=.fields #[vl,vu,.none] } }
 exact tail_any (ops:=[.ref s3.heap.objs.size,v]) ht hT hg (by with_unfolding_all rfl)
noncomputable def m_ (xs:List V)(lo hi:Option Int):List V:=(xs.drop (HT.sIx xs.length 0 lo)).take (HT.sIx xs.length xs.length hi-HT.sIx xs.length 0 lo)
theorem j5 (xs:List V)(lo hi:Option Int):(m_ xs lo hi).length≤xs.length:=by
 unfold m_
 rw[JF,List.length_drop]
 omega
noncomputable def Fp (K:W.Frag):V→Option Int→Option Int→Hp→VK→Prop:=fun x lo hi H Q=>∃a xs,x=.ref a∧SqT K H a xs ∧
 ¬(HT.sIx xs.length 0 lo=0∧HT.sIx xs.length xs.length hi=xs.length)∧∀p,H p=none→Q (.ref p) (upd H p (.tup (m_ xs lo hi)))
theorem B6:SlR X (Fp X.K):=by
 intro pins s σ H x v vl vu lo hi sl Q I rx hs pl pu h
 obtain⟨a,xs,rfl,hx,hw,q⟩:=h
 cases rx
 obtain⟨its,r,ht,hz⟩:=I.tuple hx
 have hlen:its.toArray.size=xs.length:=by rw[GM];exact r.length.symm
 refine ⟨"tuple",_,PyProof.Rows.slot_tuple_getitem.lookup,ht.typeIs,?_⟩
 refine HT.getItem_tuple_cut ht hs pl pu (by rw[hlen];exact hw) ?_ (by rw[hlen];exact hz)
 rw[hlen]
 refine⟨.ref s.heap.objs.size,_,I.laid (t':=s.toks) (o:=.tup (m_ xs lo hi)) (fun b ob q=>F5 _ q) (F2 _) ?_,rfl,q _ (I.hok.fresh (F2 _))⟩
 exact⟨GW (j5 xs lo hi) hz,_,(r.drop (HT.sIx xs.length 0 lo)).take (HT.sIx xs.length xs.length hi-HT.sIx xs.length 0 lo),IsTup.new _ _⟩
noncomputable def Ee (K:W.Frag):R2:=fun x y H Q=>∃a b xs ys,x=.ref a∧y=.ref b∧SqT K H a xs∧SqT K H b ys∧xs≠[]∧xs.length+ys.length≤sizeLine ∧
 (ys=[]→Q (.ref a) H)∧(ys≠[]→∀p,H p=none→Q (.ref p) (upd H p (.tup (xs++ys))))
theorem Vals.nil_iff {xs:List V}{us:List Value}(r:Vals xs us):us=[]↔xs=[]:=by
 cases r with
 | nil=>simp
 | cons _ _=>simp
theorem Aj:OpR X (binaryOp .Add) (Ee X.K):=by
 intro pins s σ H x y v u Q I rx ry h
 obtain⟨a,b,xs,ys,rfl,rfl,ha,hb,hx,hz,q1,q2⟩:=h
 cases rx
 cases ry
 obtain⟨its,r1,p1,_⟩:=I.tuple ha
 obtain⟨its2,r2,p2,_⟩:=I.tuple hb
 refine HT.cat_tup p1 p2 (fun z=>hx (r1.nil_iff.mp z)) (fun z=>⟨.ref a,H,I,rfl,q1 (r2.nil_iff.mp z)⟩) (fun z=>?_) (by rw[←r1.length,←r2.length];exact hz)
 refine⟨.ref s.heap.objs.size,_,I.laid (t':=s.toks) (o:=.tup (xs++ys)) (fun b ob q=>F5 _ q) (F2 _) ?_,rfl,q2 (fun w=>z (r2.nil_iff.mpr w)) _ (I.hok.fresh (F2 _))⟩
 exact⟨by rw[HF];exact hz,_,r1.append r2,IsTup.new _ _⟩
end
end L2
namespace L2
noncomputable def ixN (n:Nat)(i:Int):Option Nat:=if 0≤i then (if i<n then some i.toNat else none) else if -(n:Int)≤i then some (i+n).toNat else none
noncomputable def atI {α:Type}(xs:List α)(i:Int):Option α:=(ixN xs.length i).bind fun j=>xs[j]?
theorem vh {n:Nat}{i:Int}{j:Nat}(h:ixN n i=some j):seqIndex? i n=some j∧j<n∧-(n:Int)≤i∧i<n:=by
 unfold ixN at h
 by_cases h0:0≤i
 ·rw[GA h0] at h
  by_cases h1:i<n
  ·rw[GA h1] at h
   have e:i.toNat=j:=GT h
   exact⟨by rw[seqIndex_of h0 h1,e],by omega,by omega,h1⟩
  ·rw[F_ h1] at h;cases h
 ·rw[F_ h0] at h
  by_cases h1:-(n:Int)≤i
  ·rw[GA h1] at h
   have e:(i+n).toNat=j:=GT h
   exact⟨by rw[seqIndex_neg (by omega) h1,e],by omega,h1,by omega⟩
  ·rw[F_ h1] at h;cases h
theorem pq {α:Type}{xs:List α}{i:Int}{v:α}(h:atI xs i=some v):∃j,seqIndex? i xs.length=some j∧xs[j]?=some v∧j<xs.length∧-(xs.length:Int)≤i∧i<xs.length:=by
 unfold atI at h
 cases e:ixN xs.length i with
 | none=>rw[e] at h;cases h
 | some j =>
  rw[e] at h
  obtain⟨h1,h2,h3,h4⟩:=vh e
  exact⟨j,h1,h,h2,h3,h4⟩
theorem fe {α:Type}{xs:List α}{j:Nat}{v:α}(h:xs[j]?=some v):atI xs (j:Int)=some v:=by
 have hj:j<xs.length:=(FY.mp h).1
 have e:ixN xs.length (j:Int)=some j:=by
  unfold ixN
  rw[GA (by omega),GA (by omega)];simp
 unfold atI;rw[e];exact h
def vj (b:Expr):Prop:=∀o i,subscripted b false o i=operate [o,i] (getItem o i)
def IxR (X:Cx)(r:R2):Prop :=
 ∀(value slice:Expr) (pins:List (Addr × Obj)) (s:Shared) (σ:St) (H:Hp) (x y:V) (v u:Value) (Q:VK),Inv X pins σ H s→RelV x v→RelV y u→r x y H Q →
  subscripted slice false v u=operate [v,u] (getItem v u)→wpAny (model X.prog X.w) X.A (subscriptTail value slice v u) (EP X pins σ Q) X.xe s
def MtR (X:Cx)(id:String)(r:V→List V→Hp→VK→Prop):Prop :=
 ∀(pins:List (Addr × Obj)) (s:Shared) (σ:St) (H:Hp) (x:V) (xs:List V) (v:Value) (us:List Value) (Q:VK),Inv X pins σ H s→RelV x v→Vals xs us→r x xs H Q →
  wpAny (model X.prog X.w) X.A (call (.builtin id) (v::us)) (EP X pins σ Q) X.xe s
section
variable {X:Cx}{a b:Expr}{ta tb:TE}{pos:Pos}
theorem DX {r:R2}(hr:IxR X r)(ha:PE X a ta)(hb:PE X b tb)(hs:vj b):PE X (.Subscript a b pos) (tOp r ta tb):=by
 intro pins s σ H Q I h
 exact Subscript_ (CL ha hb I h fun v u s2 x y H2 I2 rx ry q=>hr a b pins s2 σ H2 x y v u Q I2 rx ry q (hs _ _))
noncomputable def Fu (K:W.Frag):R2:=fun x y H Q=>∃p xs i v,x=.ref p∧y=.int i∧SqL K H p xs∧atI xs i=some v∧Q v H
noncomputable def FH (K:W.Frag):R2:=fun x y H Q=>∃p xs i v,x=.ref p∧y=.int i∧SqT K H p xs∧atI xs i=some v∧Q v H
noncomputable def FP:R2:=fun x y H Q=>∃z i c,x=.str z∧y=.int i∧z.length≤sizeLine∧atI z.cps.toList i=some c∧Q (.str ⟨#[c]⟩) H
theorem Ag:IxR X (Fu X.K):=by
 intro value slice pins s σ H x y v u Q I rx ry h hs
 obtain⟨p,xs,i,z,rfl,rfl,hq,he,q⟩:=h
 cases rx
 obtain⟨t,rfl⟩:=ry
 obtain⟨its,r,pl,hz⟩:=I.list hq
 obtain⟨j,h1,h2,h3,h4,h5⟩:=pq he
 obtain⟨w,ew,rw'⟩:=r.get h2
 have hl:=r.length
 have hn:=hU
 have fin:EP X pins σ Q w s:=⟨z,H,I,rw',q⟩
 by_cases h0:0≤i
 ·have hj:i.toNat=j:=by
   rw[seqIndex_of h0 h5] at h1
   exact GT h1
  exact item_listR pl.isList h0 (by omega) (by rw[hj];simpa using ew) fin hs
 ·have hj:(i+(its.toArray.size:Int)).toNat=j:=by
   rw[seqIndex_neg (by omega) h4] at h1
   rw[GM,←hl]
   exact GT h1
  exact subscriptTail_builtinR (x:=w) pl.isList.typeIs slot_list_getitem.lookup
   (wpAny_getItem_list_neg (Q:=fun r s'=>r=w∧EP X pins σ Q r s') pl.isList (by omega) (by rw[GM] <;> omega) (by omega) (by rw[hj];simpa using ew) ⟨rfl,fin⟩) hs
theorem C9:IxR X (FH X.K):=by
 intro value slice pins s σ H x y v u Q I rx ry h hs
 obtain⟨p,xs,i,z,rfl,rfl,hq,he,q⟩:=h
 cases rx
 obtain⟨t,rfl⟩:=ry
 obtain⟨its,r,pl,hz⟩:=I.tuple hq
 obtain⟨j,h1,h2,h3,h4,h5⟩:=pq he
 obtain⟨w,ew,rw'⟩:=r.get h2
 have hl:=r.length
 have hn:=hU
 have fin:EP X pins σ Q w s:=⟨z,H,I,rw',q⟩
 exact subscriptTail_builtinR (x:=w) pl.typeIs slot_tuple_getitem.lookup
  (getItem_tuple (j:=j) (Q:=fun r s'=>r=w∧EP X pins σ Q r s') pl (by omega) (by omega) (by rw[GM,←hl];exact h1) (by simpa using ew) ⟨rfl,fin⟩) hs
theorem Da:IxR X FP:=by
 intro value slice pins s σ H x y v u Q I rx ry h hs
 obtain⟨z,i,c,rfl,rfl,hz,he,q⟩:=h
 obtain⟨t,rfl⟩:=rx
 obtain⟨t',rfl⟩:=ry
 obtain⟨j,h1,h2,h3,h4,h5⟩:=pq he
 have hl:z.cps.toList.length=z.length:=by simp[Str.length]
 rw[hl] at h1 h4 h5
 have hn:=hU
 exact tail_any (typeIs_str s z t) slot_str_getitem.lookup (getItem_str (c:=c) (by
  have e1:decide (i < -(2 ^ 63:Int))=false:=GV (by omega)
  have e2:decide (i ≥ 2 ^ 63)=false:=GV (by omega)
  rw[e1,e2,Bool.or_false]) (by rw[h1];simpa using h2) ⟨.str ⟨#[c]⟩,H,I.tok _,⟨_,rfl⟩,q⟩) hs
theorem tN (its:List Value)(n j:Nat)(u:Value):Obj.mapSeq (·.setIfInBounds j u) { cls:=.type "list",data:=.seq its.toArray n }={ cls:=.type "list",data:=.seq (its.set j u).toArray n }:=by
 simp[Obj.mapSeq]
theorem Inv.lst {pins:List (Addr × Obj)}{σ:St}{H:Hp}{s:Shared}{p:Addr}{xs:List V}(I:Inv X pins σ H s)(h:H p=some (.lst xs)) :
  ∃(its:List Value) (n:Nat),Vals xs its∧s.heap.get? p=some { cls:=.type "list",data:=.seq its.toArray n }∧xs.length≤sizeLine:=by
 obtain⟨z,its,n,r,e⟩:=I.hok p _ h
 exact⟨its,n,r,e,z⟩
theorem Inv.lstUpd {pins:List (Addr × Obj)}{σ:St}{H:Hp}{s:Shared}{p:Addr}{xs ys:List V}{its its':List Value}{n n':Nat}{f:Obj→Obj}(I:Inv X pins σ H s)(h:H p=some (.lst xs))
  (ho:s.heap.get? p=some { cls:=.type "list",data:=.seq its.toArray n }) (hf:f { cls:=.type "list",data:=.seq its.toArray n }={ cls:=.type "list",data:=.seq its'.toArray n' }) (r:Vals ys its') (hz:ys.length≤sizeLine) (t:Nat) :
  Inv X pins σ (upd H p (.lst ys)) { s with heap:=s.heap.update p f,toks:=t }:=by
 have e:(s.heap.update p f).get? p=some { cls:=.type "list",data:=.seq its'.toArray n' }:=by
  rw[Heap.get?_update_self f ho (by rw[hf] <;> rfl),hf]
 refine I.write (x:=p) (e:=p) (by rw[h];trivial) (.inl rfl) (fun b u hb q=>(Heap.get?_update_other _ _ (Ne.symm hb)).trans q) ⟨_,e⟩ ?_
 exact⟨hz,its',n',r,e⟩
noncomputable def EW:V→V→V→Hp→(Hp→Prop)→Prop:=fun o i v H Q=>∃p xs k j,o=.ref p∧i=.int k∧H p=some (.lst xs)∧ixN xs.length k=some j∧Q (upd H p (.lst (xs.set j v)))
theorem xZ:Du X EW:=by
 intro pins s σ H o i v ov iv u Q I ro ri rv h
 obtain⟨p,xs,k,j,rfl,rfl,hp,hj,q⟩:=h
 cases ro
 obtain⟨t,rfl⟩:=ri
 obtain⟨its,n,r,ho,hz⟩:=I.lst hp
 obtain⟨h1,h2,h3,h4⟩:=vh hj
 have hl:=r.length
 have hn:=hU
 have I':Inv X pins σ (upd H p (.lst (xs.set j v))) { s with heap:=s.heap.update p (Obj.mapSeq (·.setIfInBounds j u)) } :=
  I.lstUpd hp ho (tN its n j u) (r.set rv j) (by rw[JK];exact hz) s.toks
 by_cases h0:0≤k
 ·have hk:k.toNat=j:=by
   rw[seqIndex_of h0 h4] at h1
   exact GT h1
  exact W.ki_setAt ho h0 (by omega) (by rw[GM,←hl];exact h4) (by rw[hk];exact⟨_,I',q⟩)
 ·have hk:(k+(its.toArray.size:Int)).toNat=j:=by
   rw[seqIndex_neg (by omega) h3] at h1
   rw[GM,←hl]
   exact GT h1
  exact W.ki_setBack ho (by omega) (by rw[GM,←hl];exact h3) (by omega) (by rw[hk];exact⟨_,I',q⟩)
theorem o5 (lo hi:Option Int)(n:Nat):(sliceBounds lo hi none n).1=((HT.sIx n 0 lo:Nat):Int)∧(sliceBounds lo hi none n).2.1=((HT.sIx n n hi:Nat):Int)∧(sliceBounds lo hi none n).2.2=1:=by
 refine⟨?_,?_,rfl⟩
 ·cases lo with
  | none=>simp[sliceBounds,HT.sIx]
  | some i =>
   simp only[sliceBounds,HT.sIx,Option.getD_none,show (1:Int) > 0 by decide,if_true]
   by_cases h:i<0
   ·simp only[h,if_true] <;> omega
   ·simp only[h,if_false] <;> omega
 ·cases hi with
  | none=>simp[sliceBounds,HT.sIx]
  | some i =>
   simp only[sliceBounds,HT.sIx,Option.getD_none,show (1:Int) > 0 by decide,if_true]
   by_cases h:i<0
   ·simp only[h,if_true] <;> omega
   ·simp only[h,if_false] <;> omega
theorem mS (its:List Value)(lo hi:Option Int):slicePick its.toArray lo hi none=((its.drop (HT.sIx its.length 0 lo)).take (HT.sIx its.length its.length hi-HT.sIx its.length 0 lo)).toArray:=by
 obtain⟨h1,h2,h3⟩:=o5 lo hi its.toArray.size
 unfold slicePick
 rw[h1,h2,h3]
 simp only[sliceRange_one,pick_run,List.size_toArray] <;> rfl
noncomputable def Fg (K:W.Frag):V→Option Int→Option Int→Hp→VK→Prop:=fun x lo hi H Q=>∃a xs,x=.ref a∧SqL K H a xs∧∀p,H p=none→Q (.ref p) (upd H p (.lst (m_ xs lo hi)))
theorem Aw:SlR X (Fg X.K):=by
 intro pins s σ H x v vl vu lo hi sl Q I rx hs pl pu h
 obtain⟨a,xs,rfl,hx,q⟩:=h
 cases rx
 obtain⟨its,r,ht,hz⟩:=I.list hx
 have hlen:=r.length
 refine ⟨"list",_,slot_list_getitem.lookup,ht.isList.typeIs,?_⟩
 refine wpAny_getItem_list_slice ht.isList hs pl pu .none (by simp) ?_ (by rw[GM] <;> omega)
 rw[mS,←hlen]
 refine⟨.ref s.heap.objs.size,_,I.laid (t':=s.toks) (o:=.lst (m_ xs lo hi)) (fun b ob q=>F5 _ q) (F2 _) ?_,rfl,q _ (I.hok.fresh (F2 _))⟩
 exact⟨GW (j5 xs lo hi) hz,_,0,(r.drop (HT.sIx xs.length 0 lo)).take (HT.sIx xs.length xs.length hi-HT.sIx xs.length 0 lo),GP _ rfl⟩
noncomputable def gJ:V→Bool
 | .non=>true
 | .bl _=>true
 | .int _=>true
 | .str _=>true
 | _=>false
noncomputable def eqV:V→V→Bool
 | .non,.non=>true
 | .bl a,.bl b=>a == b
 | .bl a,.int b=>(if a then 1 else 0) == b
 | .int a,.bl b=>a == (if b then 1 else 0)
 | .int a,.int b=>a == b
 | .str a,.str b=>a == b
 | _,_=>false
theorem Cp {A:Around}{s:Shared}{y x:V}{u v:Value}(ry:RelV y u)(rx:RelV x v)(fy:gJ y=true)(fx:gJ x=true):SeqAt.EqAt A s u v (eqV y x):=by
 cases y with
 | non =>
  cases ry
  cases x with
  | non=>cases rx;exact SeqAt.EqAt.same _
  | bl b=>cases rx;exact SeqAt.EqAt.none_bool b
  | int b=>obtain⟨t,rfl⟩:=rx;exact SeqAt.EqAt.none_int b t
  | str b=>obtain⟨t,rfl⟩:=rx;exact SeqAt.EqAt.none_str b t
  | _=>exact absurd (show false=true from fx) FX
 | bl a =>
  cases ry
  cases x with
  | non=>cases rx;exact SeqAt.EqAt.bool_none a
  | bl b=>cases rx;exact SeqAt.EqAt.bool_bool a b
  | int b=>obtain⟨t,rfl⟩:=rx;exact SeqAt.EqAt.bool_int a b t
  | str b=>obtain⟨t,rfl⟩:=rx;exact SeqAt.EqAt.bool_str a b t
  | _=>exact absurd (show false=true from fx) FX
 | int a =>
  obtain⟨t',rfl⟩:=ry
  cases x with
  | non=>cases rx;exact SeqAt.EqAt.int_none a t'
  | bl b=>cases rx;exact SeqAt.EqAt.int_bool a t' b
  | int b=>obtain⟨t,rfl⟩:=rx;exact SeqAt.EqAt.int_int a t' b t
  | str b=>obtain⟨t,rfl⟩:=rx;exact SeqAt.EqAt.int_str a t' b t
  | _=>exact absurd (show false=true from fx) FX
 | str a =>
  obtain⟨t',rfl⟩:=ry
  cases x with
  | non=>cases rx;exact SeqAt.EqAt.str_none a t'
  | bl b=>cases rx;exact SeqAt.EqAt.str_bool a t' b
  | int b=>obtain⟨t,rfl⟩:=rx;exact SeqAt.EqAt.str_int a t' b t
  | str b=>obtain⟨t,rfl⟩:=rx;exact SeqAt.EqAt.str_str a t' b t
  | _=>exact absurd (show false=true from fx) FX
 | _=>exact absurd (show false=true from fy) FX
noncomputable def eqU (x:V)(u:Value):Bool:=match u with
 | .none=>eqV .non x
 | .bool b=>eqV (.bl b) x
 | .int i _=>eqV (.int i) x
 | .str z _=>eqV (.str z) x
 | _=>false
theorem wF {x y:V}{u:Value}(r:RelV y u)(f:gJ y=true):eqU x u=eqV y x:=by
 cases y with
 | non=>cases r;rfl
 | bl b=>cases r;rfl
 | int i=>obtain⟨t,rfl⟩:=r;rfl
 | str z=>obtain⟨t,rfl⟩:=r;rfl
 | _=>exact absurd (show false=true from f) FX
theorem iU {x:V}:∀ {xs:List V}{us:List Value},Vals xs us→xs.all gJ=true→us.any (eqU x)=xs.any fun y=>eqV y x
 | _,_,.nil,_=>rfl
 | y::xs,u::us,.cons r t,f=>by
  rw[IK,GD] at f
  rw[HG,HG,wF r f.1,iU t f.2]
theorem f9 {A:Around}{s:Shared}{x:V}{v:Value}(rx:RelV x v)(fx:gJ x=true):∀ {xs:List V}{us:List Value},Vals xs us→xs.all gJ=true→∀u∈us,SeqAt.EqAt A s u v (eqU x u)
 | _,_,.nil,_=>fun u hu=>by cases hu
 | y::xs,u::us,.cons r t,f=>fun u' hu=>by
  rw[IK,GD] at f
  rcases HA.mp hu with rfl|hu
  ·rw[wF r f.1];exact Cp r rx f.1 fx
  ·exact f9 rx fx t f.2 u' hu
noncomputable def inV (x:V)(xs:List V):Bool:=xs.any fun y=>eqV y x
noncomputable def rIn (K:W.Frag)(neg:Bool):R2:=fun x y H Q=>∃p xs,y=.ref p∧(SqL K H p xs∨SqT K H p xs)∧gJ x=true∧xs.all gJ=true∧Q (.bl (if neg then !inV x xs else inV x xs)) H
theorem jQ:OpR X (compareOp .In) (rIn X.K false):=by
 intro pins s σ H x y v u Q I rx ry h
 obtain⟨p,xs,rfl,hq,fx,fs,q⟩:=h
 cases ry
 rcases hq with hq|hq
 ·obtain⟨its,r,pl,hz⟩:=I.list hq
  refine SeqAt.in_listAt (eqU x) pl.isList (fun w hw=>f9 rx fx r fs w (by simpa using hw)) ⟨.bl _,H,I,rfl,?_⟩
  rw[show its.toArray.any (eqU x)=its.any (eqU x) by simp,iU r fs]
  exact q
 ·obtain⟨its,r,pl,hz⟩:=I.tuple hq
  refine SeqAt.in_tupleAt (eqU x) pl (fun w hw=>f9 rx fx r fs w (by simpa using hw)) ⟨.bl _,H,I,rfl,?_⟩
  rw[show its.toArray.any (eqU x)=its.any (eqU x) by simp,iU r fs]
  exact q
theorem fE:OpR X (compareOp .NotIn) (rIn X.K true):=by
 intro pins s σ H x y v u Q I rx ry h
 obtain⟨p,xs,rfl,hq,fx,fs,q⟩:=h
 cases ry
 rcases hq with hq|hq
 ·obtain⟨its,r,pl,hz⟩:=I.list hq
  refine SeqAt.notIn_listAt (eqU x) pl.isList (fun w hw=>f9 rx fx r fs w (by simpa using hw)) ⟨.bl _,H,I,rfl,?_⟩
  rw[show its.toArray.any (eqU x)=its.any (eqU x) by simp,iU r fs]
  exact q
 ·obtain⟨its,r,pl,hz⟩:=I.tuple hq
  refine SeqAt.notIn_tupleAt (eqU x) pl (fun w hw=>f9 rx fx r fs w (by simpa using hw)) ⟨.bl _,H,I,rfl,?_⟩
  rw[show its.toArray.any (eqU x)=its.any (eqU x) by simp,iU r fs]
  exact q
theorem pH:dn X (.builtin "len") (fun xs H Q=>∃p ys,xs=[.ref p]∧(SqL X.K H p ys∨SqT X.K H p ys)∧Q (.int ys.length) H):=by
 intro pins s σ H xs us Q I r h
 obtain⟨p,ys,rfl,hq,q⟩:=h
 obtain⟨u,rfl,rx⟩:=fG r
 cases rx
 have hn:=hU
 rcases hq with hq|hq
 ·obtain⟨its,r',pl,hz⟩:=I.list hq
  have hlen:=r'.length
  exact Calls.call_len_list pl.isList (by simp only[List.size_toArray] <;> omega) ⟨.int ys.length,H,I.tok _,⟨s.toks+1,by rw[GM,hlen]⟩,q⟩
 ·obtain⟨its,r',pl,hz⟩:=I.tuple hq
  have hlen:=r'.length
  exact len_tuple pl (by simp only[List.size_toArray] <;> omega) ⟨.int ys.length,H,I.tok _,⟨s.toks+1,by rw[GM,hlen]⟩,q⟩
theorem pM:dn X (.builtin "len") (fun xs H Q=>∃z,xs=[.str z]∧z.length≤sizeLine∧Q (.int z.length) H):=by
 intro pins s σ H xs us Q I r h
 obtain⟨z,rfl,hz,q⟩:=h
 obtain⟨u,rfl,t,rfl⟩:=fG r
 have hn:=hU
 exact len_str (by omega) ⟨.int z.length,H,I.tok _,⟨_,rfl⟩,q⟩
theorem pG:dn X (.type "list") (fun xs H Q=>∃p ys,xs=[.ref p]∧(SqL X.K H p ys∨SqT X.K H p ys)∧∀l,H l=none→Q (.ref l) (upd H l (.lst ys))):=by
 intro pins s σ H xs us Q I r h
 obtain⟨p,ys,rfl,hq,q⟩:=h
 obtain⟨u,rfl,rx⟩:=fG r
 cases rx
 have fin:∀(its:List Value),Vals ys its→ys.length≤sizeLine→∀(h':Heap) (c':Nat),(∀b o',s.heap.get? b=some o'→h'.get? b=some o') →
   h'.get? s.heap.objs.size=some { cls:=.type "list",dict:=none,data:=.seq its.toArray c',slots:=#[] }→EP X pins σ Q (.ref s.heap.objs.size) { s with heap:=h' }:=fun its r' hz h' c' kp e =>
  ⟨.ref s.heap.objs.size,_,I.laid (t':=s.toks) kp (F2 _) (show ObjOk X.prog X.w _ h' _ (.lst ys) from ⟨hz,its,c',r',e⟩),rfl,q _ (I.hok.fresh (F2 _))⟩
 rcases hq with hq|hq
 ·obtain⟨its,r',pl,hz⟩:=I.list hq
  have hlen:=r'.length
  obtain⟨o,ho,hc,n,hd⟩:=pl.isList
  exact call_list_seq p (.inl rfl) ho hc hd (fun h' c' kp e=>fin its r' hz h' c' kp e) (by simp only[List.size_toArray] <;> omega)
 ·obtain⟨its,r',pl,hz⟩:=I.tuple hq
  have hlen:=r'.length
  obtain⟨o,ho,hc,n,hd⟩:=pl
  exact call_list_seq p (.inr rfl) ho hc hd (fun h' c' kp e=>fin its r' hz h' c' kp e) (by simp only[List.size_toArray] <;> omega)
theorem nu:dn X (.type "tuple") (fun xs H Q=>∃p ys,xs=[.ref p]∧((SqL X.K H p ys∧∀l,H l=none→Q (.ref l) (upd H l (.tup ys)))∨(SqT X.K H p ys∧Q (.ref p) H))):=by
 intro pins s σ H xs us Q I r h
 obtain⟨p,ys,rfl,h⟩:=h
 obtain⟨u,rfl,rx⟩:=fG r
 cases rx
 rcases h with⟨hq,q⟩|⟨hq,q⟩
 ·obtain⟨its,r',pl,hz⟩:=I.list hq
  have hlen:=r'.length
  refine call_tuple_list pl.isList (fun h' kp=>?_) (by simp only[List.size_toArray] <;> omega)
  have I1:Inv X pins σ H { s with heap:=h' }:=I.kept (t':=s.toks) kp
  have I2:Inv X pins σ (upd H h'.objs.size (.tup ys)) { s with heap:=h'.push { cls:=.type "tuple",data:=.seq its.toArray } } :=
   I1.laid (t':=s.toks) (fun b o e=>F5 _ e) (F2 _) (show ObjOk X.prog X.w _ _ _ (.tup ys) from ⟨hz,its,r',IsTup.new _ _⟩)
  exact⟨.ref h'.objs.size,_,I2,rfl,q _ (I1.hok.fresh (F2 _))⟩
 ·obtain⟨its,r',pl,hz⟩:=I.tuple hq
  exact call_tuple_same pl ⟨.ref p,H,I,rfl,q⟩
def tyV (K:W.Frag)(T:String)(x:V)(H:Hp):Prop:=match x with
 | .str _=>T="str"
 | .int _=>T="int"
 | .ref p=>(T="list"∧∃xs,SqL K H p xs)∨(T="tuple"∧∃o,K.lookup p=some o∧o.cls=.type "tuple"∧o.dict=none) ∨
   (T="dict"∧((∃kvs,H p=some (.dK kvs))∨∃kvs,H p=some (.dT kvs)))∨(T="set"∧∃S n,H p=some (.set S n))
 | _=>False
theorem wx {pins:List (Addr × Obj)}{σ:St}{H:Hp}{s:Shared}{T:String}{x:V}{v:Value}(I:Inv X pins σ H s)(r:RelV x v)(ty:tyV X.K T x H) :
  s.TypeIs v T∧∀a,v=.ref a→∃ob,s.heap.get? a=some ob∧ob.dict=none:=by
 cases x with
 | str z =>
  obtain⟨t,rfl⟩:=r
  cases (show T="str" from ty)
  exact⟨typeIs_str s z t,fun _ e=>nomatch e⟩
 | int i =>
  obtain⟨t,rfl⟩:=r
  cases (show T="int" from ty)
  exact⟨typeIs_int s i t,fun _ e=>nomatch e⟩
 | ref p =>
  cases r
  rcases ty with⟨rfl,xs,hq⟩|⟨rfl,o,hk,hc,hd⟩|⟨rfl,hk⟩|⟨rfl,S,n,hk⟩
  ·obtain⟨its,_,pl,_⟩:=I.list hq
   refine⟨pl.isList.typeIs,fun a e=>?_⟩
   cases e
   obtain⟨o,n,e,c,hd,_⟩:=pl
   exact⟨o,e,hd⟩
  ·refine⟨⟨o,I.kIn p o hk,hc⟩,fun a e=>?_⟩
   cases e
   exact⟨o,I.kIn _ o hk,hd⟩
  ·have z:∃o,s.heap.get? p=some o∧o.ExactDict:=by
    rcases hk with⟨kvs,hk⟩|⟨kvs,hk⟩
    ·obtain⟨_,_,_,_,o,_,_,e,ex,_⟩:=I.hok p _ hk
     exact⟨o,e,ex⟩
    ·obtain⟨_,_,_,_,o,_,_,e,ex,_⟩:=I.hok p _ hk
     exact⟨o,e,ex⟩
   obtain⟨o,e,ex⟩:=z
   refine⟨⟨o,e,ex.1⟩,fun a e2=>?_⟩
   cases e2
   exact⟨o,e,ex.2.1⟩
  ·obtain⟨o,_,_,_,e,ex,_⟩:=I.hok p _ hk
   refine⟨⟨o,e,ex.1⟩,fun a e2=>?_⟩
   cases e2
   exact⟨o,e,ex.2.1⟩
 | _=>exact False.elim ty
noncomputable def Fx (K:W.Frag)(T:String)(r:V→List V→Hp→VK→Prop)(to:TE):TE:=fun σ H Q=>to σ H fun x H1=>tyV K T x H1∧r x [] H1 Q
noncomputable def tBM (K:W.Frag)(T:String)(r:V→List V→Hp→VK→Prop)(to:TE)(t:TA):TE:=fun σ H Q=>to σ H fun x H1=>tyV K T x H1∧t σ H1 fun xs H2=>r x xs H2 Q
variable {o e:Expr}{es:List Expr}{to:TE}{t:TA}{name:Str}{apos cpos:Pos}{T id:String}{r:V→List V→Hp→VK→Prop}
theorem yz (pa:PlainAttrs T)(slot:Slot T name id)(hty:typeOf (.builtin id)=pure (.type "method_descriptor"))(hm:MtR X id r)(ho:PE X o to)
  (hbase:attributeBase o name X.env (eval o X.env)=eval o X.env:=by rfl) (hline:(apos.endLine == cpos.line)=true:=by rfl):PE X (.Call (.Attribute o name apos) [] [] cpos) (Fx X.K T r to):=by
 intro pins s σ H Q I h
 refine wpAny_Call_method0_late hbase hline (thn (ho pins s σ H _ I h) fun v s1 ⟨x,H1,I1,r1,ty,q1⟩=>?_)
 obtain⟨h1,h2⟩:=wx I1 r1 ty
 exact⟨T,id,pa,slot,hty,h1,h2,Calls.callWith_builtin rfl (PySem.evalArgs_none (hm pins s1 σ H1 x [] v [] Q I1 r1 .nil q1))⟩
theorem yN (pa:PlainAttrs T)(slot:Slot T name id)(hty:typeOf (.builtin id)=pure (.type "method_descriptor"))(hm:MtR X id r)(ho:PE X o to)(ha:PA X (e::es) t)
  (hbase:attributeBase o name X.env (eval o X.env)=eval o X.env:=by rfl)
  (hfew:((backTo cpos (starEach (e::es) X.env)).all (fun x=>!x.1) && (backToKw cpos (keywordEach [] X.env)).all (fun x=>x.1.isSome)
   && decide ((e::es).length+([]:List Keyword).length+(if ([]:List Keyword).isEmpty then 0 else 1)<30))=true:=by rfl)
  (hline:(apos.endLine == cpos.line)=true:=by rfl) (hs:starEach (e::es) X.env=(false,eval e X.env)::starEach es X.env:=by rfl) (hplain:(backTo cpos (starEach es X.env)).any (·.1)=false:=by rfl) :
  PE X (.Call (.Attribute o name apos) (e::es) [] cpos) (tBM X.K T r to t):=by
 intro pins s σ H Q I h
 refine wpAny_Call_method_late hbase hfew hline rfl (thn (ho pins s σ H _ I h) fun v s1 ⟨x,H1,I1,r1,ty,q1⟩=>?_)
 obtain⟨h1,h2⟩:=wx I1 r1 ty
 refine⟨T,id,pa,slot,hty,h1,h2,?_⟩
 have hA:=ha cpos pins s1 σ H1 _ I1 q1
 rw[hs] at hA ⊢
 refine Calls.callWith_builtin (by show (false || (backTo cpos (starEach es X.env)).any (·.1))=false;rw[hplain] <;> rfl) (Calls.evalArgs_plain ?_)
 exact thn hA fun us s2 ⟨vs,H2,I2,r2,q2⟩=>hm pins s2 σ H2 x vs v us Q I2 r1 r2 q2
end
end L2
namespace L2
def MtM (X:Cx)(id:String)(r:V→List V→Hp→VK→Prop):Prop :=
 ∀(pins:List (Addr × Obj)) (s:Shared) (σ:St) (H:Hp) (x:V) (xs:List V) (v:Value) (us:List Value) (Q:VK),Inv X pins σ H s→RelV x v→Vals xs us→r x xs H Q →
  wpAny (model X.prog X.w) X.A (call (.builtin id) (v::us)) (EP X pins σ Q) X.xe s
theorem Vals.one:∀ {x:V}{us:List Value},Vals [x] us→∃u,us=[u]∧RelV x u
 | _,_,.cons r .nil=>⟨_,rfl,r⟩
theorem Vals.rep {xs:List V}{us:List Value}(h:Vals xs us):∀k:Nat,Vals (List.replicate k xs).flatten (List.replicate k us).flatten
 | 0=>.nil
 | k+1=>by
  rw[HV,HV,IC,IC]
  exact Vals.append h (Vals.rep h k)
theorem nJ (its:List Value):∀(k:Nat) (acc:List Value),
  List.foldl (fun x1 x2=>x1++x2) acc.toArray (List.replicate k its.toArray)=(acc++(List.replicate k its).flatten).toArray
 | 0,acc=>by simp
 | k+1,acc=>by
  have e:acc.toArray++its.toArray=(acc++its).toArray:=by simp
  have e2:(acc++its)++(List.replicate k its).flatten=acc++(List.replicate (k+1) its).flatten:=by
   rw[HV,IC,List.append_assoc]
  rw[←e2,←nJ its k (acc++its),←e,HV,List.foldl_cons]
section
variable {X:Cx}{pins:List (Addr × Obj)}{σ:St}{H:Hp}{s:Shared}{l b:Addr}{xs ys zs:List V}
theorem Inv.lset {its its':List Value}{n:Nat}{f:Array Value→Array Value}{t':Nat}(I:Inv X pins σ H s)(hH:H l=some (.lst xs))
  (e:s.heap.get? l=some { cls:=.type "list",data:=.seq its.toArray n }) (hf:f its.toArray=its'.toArray) (hv:Vals ys its') (hz:ys.length≤sizeLine) :
  Inv X pins σ (upd H l (.lst ys)) { s with heap:=s.heap.update l (Obj.mapSeq f),toks:=t' }:=by
 have q:=PySem.IsL.update e f
 rw[hf] at q
 refine I.write (x:=l) (e:=l) (by rw[hH];exact trivial) (.inl rfl) (fun b' u hb hu=>(Heap.get?_update_other s.heap (Obj.mapSeq f) (Ne.symm hb)).trans hu) ⟨_,q⟩ ?_
 exact⟨hz,its',_,hv,q⟩
theorem Inv.lnew {its:List Value}{t':Nat}(I:Inv X pins σ H s)(hv:Vals ys its)(hz:ys.length≤sizeLine) :
  Inv X pins σ (upd H s.heap.objs.size (.lst ys)) { s with heap:=s.heap.push { cls:=.type "list",data:=.seq its.toArray },toks:=t' } :=
 I.laid (fun _ _ q=>F5 _ q) (F2 _) ⟨hz,its,0,hv,GP _ rfl⟩
theorem Inv.fresh (I:Inv X pins σ H s):H s.heap.objs.size=none:=I.hok.fresh (F2 _)
theorem Inv.lstM (I:Inv X pins σ H s)(hH:H l=some (.lst xs)):xs.length≤sizeLine∧∃(its:List Value) (n:Nat),Vals xs its∧xs.length=its.length∧s.heap.get? l=some { cls:=.type "list",data:=.seq its.toArray n }:=by
 obtain⟨z,its,n,r,e⟩:=I.hok l _ hH
 exact⟨z,its,n,r,r.length,e⟩
theorem xH {n:Nat}(h:n≤sizeLine):Builtin.List.listTooLong n=false:=by
 unfold Builtin.List.listTooLong
 exact GV (by omega)
end
section
variable {X:Cx}
noncomputable def Bc:V→List V→Hp→VK→Prop:=fun x vs H Q=>∃l xs y,x=.ref l∧vs=[y]∧H l=some (.lst xs)∧xs.length<sizeLine∧Q .non (upd H l (.lst (xs++[y])))
theorem nD:MtM X "list.append" Bc:=by
 intro pins s σ H x vs v us Q I rx rv h
 obtain⟨l,xs,y,rfl,rfl,hH,hz,q⟩:=h
 cases rx
 obtain⟨u,rfl,ru⟩:=rv.one
 obtain⟨z,its,n,r,hl,e⟩:=I.lstM hH
 refine call_meets F.slot_list_append ⟨_,e,rfl⟩ F.entry_list_append (F.args_list_append_2 _ _) (PySem.list_append l its.toArray n u (by rw[GM];omega)) ⟨e,?_⟩
 refine⟨.non,_,I.lset (its':=its++[u]) hH e (by simp) (r.append (.cons ru .nil)) ?_,rfl,q⟩
 rw[HF,List.length_singleton]
 omega
noncomputable def E5:R2:=fun x y H Q=>∃l b xs zs,x=.ref l∧y=.ref b∧H l=some (.lst xs)∧H b=some (.lst zs)∧xs.length+zs.length≤sizeLine∧∀p,H p=none→Q (.ref p) (upd H p (.lst (xs++zs)))
theorem BU:OpR X (binaryOp .Add) E5:=by
 intro pins s σ H x y v u Q I rx ry h
 obtain⟨l,b,xs,zs,rfl,rfl,hH,hB,hz,q⟩:=h
 cases rx
 cases ry
 obtain⟨z,its,n,r,hl,e⟩:=I.lstM hH
 obtain⟨z2,its2,n2,r2,hl2,e2⟩:=I.lstM hB
 refine PySem.P.add_list e e2 ?_ (by rw[GM,GM];omega)
 have ea:its.toArray++its2.toArray=(its++its2).toArray:=by simp
 rw[ea]
 exact⟨.ref _,_,I.lnew (t':=s.toks) (r.append r2) (by rw[HF];omega),rfl,q _ I.fresh⟩
noncomputable def Fk:R2:=fun x y H Q=>∃l k xs,x=.ref l∧y=.int k∧H l=some (.lst xs)∧-(2 ^ 63)≤k∧k<2 ^ 63∧xs.length*k.toNat≤sizeLine ∧
 ∀p,H p=none→Q (.ref p) (upd H p (.lst (List.replicate k.toNat xs).flatten))
theorem A6 {α:Type}(xs:List α)(k:Nat):(List.replicate k xs).flatten.length=k*xs.length:=by
 induction k with
 | zero=>simp
 | succ k ih=>rw[HV,IC,HF,ih,Nat.succ_mul,Nat.add_comm]
theorem CH:OpR X (binaryOp .Mult) Fk:=by
 intro pins s σ H x y v u Q I rx ry h
 obtain⟨l,k,xs,rfl,rfl,hH,h1,h2,hz,q⟩:=h
 cases rx
 obtain⟨t,rfl⟩:=ry
 obtain⟨z,its,n,r,hl,e⟩:=I.lstM hH
 have hlen:its.toArray.size*k.toNat≤sizeLine:=by rw[GM,←hl];exact hz
 have hcap:¬its.toArray.size*k.toNat > (2 ^ 63-1)/8:=by
  have:(sizeLine:Nat)≤(2 ^ 63-1)/8:=by decide
  omega
 have hfit:¬(!Builtin.List.listFitsIndex k)=true:=by
  rw[fitsIndex_both h1 h2]
  exact FX
 have hlong:¬Builtin.List.listTooLong (its.toArray.size*k.toNat)=true:=by
  rw[xH hlen]
  exact FX
 have hnew:List.foldl (fun x1 x2=>x1++x2) #[] (List.replicate (if its.toArray.isEmpty=true then 0 else k.toNat) its.toArray)=(List.replicate k.toNat its).flatten.toArray:=by
  have f0:∀m:Nat,List.foldl (fun x1 x2=>x1++x2) #[] (List.replicate m its.toArray)=(List.replicate m its).flatten.toArray:=fun m=>by
   have:=nJ its m []
   rw[J2] at this
   exact this
  rw[f0]
  cases its with
  | nil=>simp
  | cons a r'=>rw[F_ (by simp)]
 refine wpAny_binaryOp_repeat_ref (T:="list") (U:="int") (by decide) ⟨_,e,rfl⟩ (fun s'=>typeIs_int s' k t) noFill_list_mul F.fills_int_mul F.slot_int_rmul repeat_list F.slot_int_index.lookup
  (call_meets F.slot_int_rmul (typeIs_int s k t) F.entry_int_rmul (F.args_int_rmul_2 _ _) (int___rmul___int_list k t l its.toArray n)
   ⟨e,rfl,⟨_,e,rfl⟩,call_meets F.slot_list_mul ⟨_,e,rfl⟩ F.entry_list_mul (F.args_list_mul_2 _ _) (AutoListH.list___mul___list_int_3 l its.toArray n k t hfit hcap hlong) ⟨e,?_⟩⟩)
 rw[hnew]
 exact⟨.ref _,_,I.lnew (t':=s.toks) (r.rep k.toNat) (by rw[A6,JX];exact hz),rfl,q _ I.fresh⟩
end
section
variable {prog:Program}{w:World}{A:Around}{E:Value→Shared→Prop}{s:Shared}
set_option maxRecDepth 100000 in
end
section
variable {X:Cx}
end
end L2
namespace Att
open PySem PySem.W PySem.Calls PyProof.Rows
theorem ku {P:Params}{h:Heap}:∀(ns:List Int) (vs:List Value),WellAll P h vs (ns.map WData.int)→IntsAre vs ns:=by
 intro ns
 induction ns with
 | nil =>
  intro vs w
  rw[HJ] at w
  cases w
  exact .nil
 | cons n ns ih =>
  intro vs w
  rw[GC] at w
  cases w with
  | cons a b =>
   cases a
   exact .cons _ _ (ih _ b)
theorem vI {l:OpenLaw}{n:Nat}(hn:l.most=some n){P:Params}{h:Heap}{args:List WData}{vals:List Value}
  (hpre:l.row.toRowW.claim.pre args=true) (hwl:WellAll P h vals args) :
  ∃a vs ns,vals=[Value.ref a]∧args=[WData.list (ns.map WData.int)]∧h.get? a=some { cls:=.type "list",data:=.seq vs.toArray }∧IntsAre vs ns∧ns.length≤n:=by
 have hsh:WShape.hasAll [] args [.list .int]=true:=(pre_splitW hpre).1
 have hc:l.pre.holds [] { args:=args }=true:=(pre_splitW hpre).2
 obtain⟨d,r,rfl,h1,h2⟩:=hasAllW_cons hsh
 obtain rfl:=hasAllW_nil h2
 obtain⟨xs,rfl,h3⟩:=hasW_list h1
 obtain⟨ns,rfl⟩:=items_int h3
 have hlen:ns.length≤n:=by
  unfold OpenLaw.pre at hc
  have h4:(WTm.not (.lt (.lit (.int (n:Int))) (.len (.arg 0)))).holds [] { args:=[.list (ns.map .int)] }=true:=by
   have h4:=(holds_andW hc).1
   rw[hn] at h4
   exact h4
  have h5:=condW_of h4 (w_not (w_lt w_lit (w_len_list (w_arg rfl))))
  rw[GI] at h5
  refine Nat.le_of_not_lt fun q=>?_
  have q':(n:Int)<((ns.length:Nat):Int):=by omega
  first
   | (rw[HB q'] at h5;exact absurd h5 (by decide))
   | (simp at h5;omega)
 cases hwl with
 | cons w1 w2 =>
  cases w2
  cases w1 with
  | list ho hall=>exact⟨_,_,ns,rfl,rfl,ho,ku ns _ hall,hlen⟩
theorem vX (l:OpenLaw)(args:List WData):l.row.toRowW.claim.post args (.bool true) args=true :=
 postW_of (r:=l.row.toRowW) (X:=(true == true))
  (show WShape.has [] (.bool true) .bool=true by first|rfl|decide|simp[WShape.has,WShape.arms,WShape.armsAll])
  (show (WTm.eq .res (.lit (.bool true))).value [] { args:=args,res:=some (.bool true),after:=args }=some (.bool (true == true)) from w_eq_bool (w_res rfl) w_lit) rfl
theorem attach_call {l:OpenLaw}{n:Nat}{q:Program}{loose:List Str}{XP:(Str→Option Value)→Heap→Prop}{YP:World→Heap→Prop}{d:DefRec}
  (hn:l.most=some n) (hdf:d.params.defaults=[])
  (call:∀(w:World) (s₀ s₁:Shared) (mg mb:Str→Option Value) (fa:Addr) (o:Obj) (pm cd doc:Value) (a:Addr) (vs:List Value) (ns:List Int),
   Ground q loose [] XP w s₀ mg mb s₁.heap→YP w s₁.heap →
   s₁.heap.get? fa=some o→o.data=.func (docDef d.name d.params d.body d.scope pm cd doc)→s₁.heap.CodeRec cd d.name→mg d.name=some (.ref fa) →
   s₁.heap.get? a=some { cls:=.type "list",data:=.seq vs.toArray }→IntsAre vs ns→ns.length≤n→s₁.gens=#[] →
   codeAny (model l.prog w) callerA (.call (.ref fa) ⟨[.ref a],[]⟩) (fun r s'=>r=.ok (.ret (.bool true))∧OldK s₁.heap s'.heap∧s'.os=s₁.os∧AllBare s'.gens) s₁) :
  WalkO q loose XP YP l.row.toRowW d [] (fun f vs=>PySem.call f vs):=by
 intro w s₀ s₁ mg mb G Y fa o pm cd doc dV kV ho hd hcd hD hmg hg args vals as hpre hlay hrd hwl hlo
 obtain rfl:dV=.none:=Dflts.none hD hdf
 obtain rfl:kV=.none:=Dflts.noKw hD
 obtain⟨a,vs,ns,rfl,rfl,hobj,hints,hlen⟩:=vI hn hpre hwl
 refine enter_call (codeAny_mono (call w s₀ s₁ mg mb fa o pm cd doc a vs ns G Y ho (fd_plain hd) hcd hmg hobj hints hlen hg) fun r s' hq=>?_)
 obtain⟨rfl,h2,h3,h4⟩:=hq
 exact⟨.inl ⟨.bool true,.bool true,[],rfl,fun _=>rfl,.bool true,vX l _,fun _=>⟨List.Pairwise.nil,fun _ hm=>(nomatch hm)⟩⟩,h2,h3,h4⟩
section
variable {prog:Program}{w:World}{A:Around}{E:Value→Shared→Prop}{s:Shared}{K:Frag}
end
end Att
namespace L2
theorem ox:∀ {vs:List Value}{ns:List Int},IntsAre vs ns→Vals (ns.map V.int) vs
 | _,_,.nil=>.nil
 | _,_,.cons n t h=>.cons ⟨t,rfl⟩ (ox h)
end L2
namespace L2
end L2
namespace L2
noncomputable def cQ (s:Stmt):Arguments:=match s with
 | .FunctionDef _ a _ _ _ _ _ _ _ _=>a
 | _=>{ posonlyargs:=[],args:=[],vararg:=none,kwonlyargs:=[],kw_defaults:=[],kwarg:=none,defaults:=[] }
noncomputable def ae (s:Stmt):List Stmt:=match s with
 | .FunctionDef _ _ b _ _ _ _ _ _ _=>b
 | _=>[]
noncomputable def ab (s:Stmt):Scope:=match s with
 | .FunctionDef _ _ _ _ _ _ sc _ _ _=>sc
 | _=>{ kind:=.function,names:=[],isGenerator:=false,isCoroutine:=false }
noncomputable abbrev CX0:CXT:=fun _ _ _ _ _ _=>False
noncomputable abbrev E0:XK:=fun _ _ _=>False
theorem Bw {X:Cx}:o6 CX0 X E0:=fun _ _ _ _ _ _ _ h=>h.elim
structure Fun (K:W.Frag)(x qual:Str)(st:Stmt)(f:Addr)(fd:FuncData):Prop where
 ex:∃(oc:Value) (od:Option Addr) (kV doc pm:Value) (an:Option Addr) (cdv ct:Value) (osl:Array (Option Value)),
  fd=W.fnOf x qual (cQ st) (ae st) (ab st) .none kV doc pm an cdv ct∧K.lookup f=some ⟨oc,od,.func fd,osl⟩∧W.codeIn K cdv qual=true
 kp:W.keepIn K (.ref f)=true
section
variable {P:Program}{w:World}{K:W.Frag}{mg:Str→Option Value}{base:Heap}
theorem Fun.ok {x qual:Str}{st:Stmt}{f:Addr}{fd:FuncData}{N ps:List Str}{k:Nat}{sp:Sp}(F:Fun K x qual st f fd)(S:ah N ps (ab st))(len:∀vs H Q E,sp vs H Q E→vs.length=ps.length)
  (hbody:∀(cdv:Value) (A:Around) (outer:List Env) (s:Shared) (H:Hp) (vs:List V) (Q:VK) (E:XK),Room k (A.deeper (envOfC qual (ab st) s.heap.objs.size f cdv))→sp vs H Q E →
   ∃t,PSs (jf CX0 P w K mg base N qual (ab st) f cdv A outer s H E).nox (ae st) t∧t { nx:=fun _ H'=>Q .non H',rt:=Q } (start N vs) H):mG P w K mg base CX0 (k+1) f fd ps sp:=by
 obtain⟨oc,od,kV,doc,pm,an,cdv,ct,osl,rfl,lk,hcd⟩:=F.ex
 refine ET lk hcd S len fun A outer s H vs Q E hr hsp=>?_
 obtain⟨t,h,q⟩:=hbody cdv A outer s H vs Q E hr hsp
 exact⟨t,h.nox,q⟩
theorem Fun.binds {x qual:Str}{st:Stmt}{f:Addr}{fd:FuncData}{ps:List Str}(F:Fun K x qual st f fd)
  (h:∀(kV doc pm:Value) (an:Option Addr) (cdv ct:Value) (us:List Value),us.length=ps.length→bindArgs (W.fnOf x qual (cQ st) (ae st) (ab st) .none kV doc pm an cdv ct) ⟨us,[]⟩=pure (ps.zip us)):Binds K fd ps []:=by
 obtain⟨oc,od,kV,doc,pm,an,cdv,ct,osl,rfl,lk,hcd⟩:=F.ex
 exact .all (h kV doc pm an cdv ct)
theorem xj {x qual:Str}{st:Stmt}{f:Addr}{oc:Value}{od an:Option Addr}{osl:Array (Option Value)}{kV doc pm cdv ct:Value}(l:K.lookup f=some ⟨oc,od,.func (W.fnOf x qual (cQ st) (ae st) (ab st) .none kV doc pm an cdv ct),osl⟩)
  (c:W.codeIn K cdv qual=true) (k:W.keepIn K (.ref f)=true):Fun K x qual st f (W.fnOf x qual (cQ st) (ae st) (ab st) .none kV doc pm an cdv ct):=⟨⟨oc,od,kV,doc,pm,an,cdv,ct,osl,rfl,l,c⟩,k⟩
end
theorem v7 {n:Nat}(h:n≤1000):n<sizeLine:=GN h (by decide)
section
variable {X:Cx}
end
def Same (H H':Hp):Prop:=∀b o,H b=some o→H' b=some o
theorem Same.seq {K:W.Frag}{H H':Hp}{a:Addr}{xs:List V}(e:Same H H')(h:SqL K H a xs):SqL K H' a xs:=by
 rcases h with (h|⟨o,h⟩)|h
 ·exact .inl (.inl (e _ _ h))
 ·exact .inl (.inr ⟨o,e _ _ h⟩)
 ·exact .inr h
end L2
namespace HX
open L2
section
variable {X:Cx}{a b c:Expr}{ta tb tc:TE}{pos:Pos}
def CBig (j:Int):Prop:=0<j∧j.natAbs.log2<9000
def CMB (i j:Int):Prop:=i.natAbs<2 ^ 6000∧j.natAbs<2 ^ 6000∨(-(2 ^ 64)<i∧i<2 ^ 64)∨(-(2 ^ 64)<j∧j<2 ^ 64)
theorem uK {i:Int}{n:Nat}(h:i.natAbs<2 ^ n):Builtin.Int.intBits i≤n:=by
 unfold Builtin.Int.intBits
 split
 ·exact IZ _
 ·rename_i hz
  have h0:i.natAbs≠0:=by
   intro z
   apply hz
   have:i=0:=by omega
   simp[this]
  have:i.natAbs.log2<n:=(KG h0).mpr h
  omega
theorem CMB.ok {i j:Int}(h:CMB i j):IntMulOk i j:=by
 rcases h with⟨h1,h2⟩|⟨h1,h2⟩|⟨h1,h2⟩
 ·exact IntMulOk.of_le (uK h1) (uK h2) (by decide)
 ·exact .of_left (intBits_le_64 h1 h2)
 ·exact .of_right (intBits_le_64 h1 h2)
theorem CBig.of {j:Int}(h:0<j)(h2:j<2 ^ 8999):CBig j:=by
 refine⟨h,?_⟩
 have h0:j.natAbs≠0:=by omega
 have:j.natAbs<2 ^ 8999:=by
  have e:((2:Int) ^ 8999)=((2 ^ 8999:Nat):Int):=by rw[J3];rfl
  rw[e] at h2
  generalize (2:Nat) ^ 8999=z at h2 ⊢
  omega
 have:=(KG h0).mpr this
 omega
theorem AC:OpR X (binaryOp .Mult) (rI CMB fun i j=>.int (i*j)):=opI fun _ _ _ _ _ _ _ hc q=>mul_int q hc.ok
theorem yE:OpR X (binaryOp .FloorDiv) (rI (fun _ j=>CBig j) fun i j=>.int (i/j)):=opI fun i j _ _ _ _ _ hc q=>by
 refine floordiv_int (by have:=hc.1;omega) ?_ (.inl (PyProof.noPylong_of_log2 hc.2))
 rw[Int.fdiv_eq_ediv_of_nonneg _ (KA hc.1)]
 exact q
theorem oC:dn X (.builtin "divmod") (fun xs H Q=>∃i j,xs=[.int i,.int j]∧CBig j∧∀p,H p=none→Q (.ref p) (upd H p (.tup [.int (i/j),.int (i % j)]))):=by
 intro pins s σ H xs us Q I r h
 obtain⟨i,j,rfl,hc,q⟩:=h
 obtain⟨u,v,rfl,⟨t,rfl⟩,⟨t',rfl⟩⟩:=u7 r
 refine divmod_int (by have:=hc.1;omega) ?_ (.inl (PyProof.noPylong_of_log2 hc.2))
 rw[Int.fdiv_eq_ediv_of_nonneg _ (KA hc.1),Int.fmod_eq_emod_of_nonneg _ (KA hc.1)]
 have hf:H s.heap.objs.size=none:=I.hok.fresh (F2 _)
 refine⟨.ref s.heap.objs.size,upd H s.heap.objs.size (.tup [.int (i/j),.int (i % j)]),I.laid (t':=s.toks+1+1) (fun b u e=>F5 _ e) (F2 _) ?_,rfl,q _ hf⟩
 exact⟨by show 2≤sizeLine;decide,[_,_],.cons ⟨_,rfl⟩ (.cons ⟨_,rfl⟩ .nil),⟨_,GP _ rfl,rfl,_,rfl⟩⟩
theorem qX {x:V}{v:Value}(r:RelV x v)(k:Bool):(v == Value.bool k)=decide (x=.bl k):=by
 cases x with
 | non=>cases r;rfl
 | bl b=>cases r;cases b <;> cases k <;> rfl
 | int _=>obtain⟨t,rfl⟩:=r;rfl
 | str _=>obtain⟨t,rfl⟩:=r;rfl
 | byt _=>obtain⟨t,rfl⟩:=r;rfl
 | flt _=>obtain⟨t,rfl⟩:=r;rfl
 | ref _=>cases r;rfl
 | ty _=>cases r;rfl
theorem mD {x:V}{v:Value}(r:RelV x v)(k:Bool):plainIs v (.bool k)=true:=by
 cases x with
 | non=>cases r;rfl
 | bl b=>cases r;rfl
 | int _=>obtain⟨t,rfl⟩:=r;rfl
 | str _=>obtain⟨t,rfl⟩:=r;rfl
 | byt _=>obtain⟨t,rfl⟩:=r;rfl
 | flt _=>obtain⟨t,rfl⟩:=r;rfl
 | ref _=>cases r;rfl
 | ty _=>cases r;rfl
noncomputable def Fz:R2:=fun x y H Q=>∃k,y=.bl k∧Q (.bl (decide (x=.bl k))) H
noncomputable def Bd:R2:=fun x y H Q=>∃k,y=.bl k∧Q (.bl (!decide (x=.bl k))) H
theorem DL:OpR X (compareOp .Is) Fz:=by
 intro pins s σ H x y v u Q I rx ry h
 obtain⟨k,rfl,q⟩:=h
 cases ry
 exact wpAny_is_plain (mD rx k) ⟨.bl _,H,I,by rw[qX rx k];rfl,q⟩
theorem vW:OpR X (compareOp .IsNot) Bd:=by
 intro pins s σ H x y v u Q I rx ry h
 obtain⟨k,rfl,q⟩:=h
 cases ry
 exact wpAny_isNot_plain (mD rx k) ⟨.bl _,H,I,by rw[qX rx k];rfl,q⟩
noncomputable def f8 (c n:String):Bool:=c == n || (n == "bool" && c == "int")
noncomputable def D_ (n c:String):Option Bool:=if (Value.type n == Value.type c)=true then some true else if W.kitMeta c=true then (fastBuiltinMro n).map (·.contains (.type c)) else none
theorem Bf (K:W.Frag)(n c:String):W.kitOne K (.type n) (.type c)=D_ n c:=rfl
theorem xb:∀c∈["int","bool","str","tuple","list","dict"],∀n∈["NoneType","bool","int","str","list","tuple","dict"],D_ n c=some (f8 c n):=by decide +kernel
theorem Ac (K:W.Frag):∀c∈["int","bool","str","tuple","list","dict"],∀n∈["NoneType","bool","int","str","list","tuple","dict"],W.kitOne K (.type n) (.type c)=some (f8 c n):=by
 intro c hc n hn
 rw[Bf]
 exact xb c hc n hn
end
end HX
namespace HX
open L2
theorem vk {X:Cx}{pins:List (Addr × Obj)}{σ:L2.St}{H:Hp}{s:Shared}(I:Inv X pins σ H s):sysModules<s.heap.objs.size :=
 KB (by decide) (show mainGlobals<s.heap.objs.size from (I.mod.glob.keeps I.bk).lt)
noncomputable def DJ:TE:=fun _ H Q=>∀p,H p=none→Q (.ref p) (upd H p (.dK []))
theorem wT {X:Cx}{pos:Pos}:PE X (.Dict [] [] pos) DJ:=fun pins s σ H Q I h=>by
 refine wpAny_Dict_empty ⟨.ref s.heap.objs.size,_,I.laid (a:=s.heap.objs.size) (o:=.dK []) (t':=s.toks) (fun _ _ q=>F5 _ q) (F2 _) ?_,rfl,h _ (I.hok.fresh (F2 _))⟩
 exact⟨IZ _,beq_eq_false_iff_ne.mpr (Ne.symm (GS (vk I))),[],.nil,Heap.DictOf.new _⟩
end HX
namespace HX
open L2
noncomputable abbrev D:=PyData
mutual
noncomputable def Den (K:W.Frag)(H:Hp):D→V→Prop
 | .none,v=>v=.non
 | .bool b,v=>v=.bl b
 | .int i,v=>v=.int i
 | .str x,v=>v=.str x
 | .tuple ds,v=>∃a xs,v=.ref a∧SqT K H a xs∧Dens K H ds xs
 | .list ds,v=>∃a xs,v=.ref a∧SqL K H a xs∧Dens K H ds xs
 | .dict _,_=>False
noncomputable def Dens (K:W.Frag)(H:Hp):List D→List V→Prop
 | [],xs=>xs=[]
 | d::ds,xs=>∃x r,xs=x::r∧Den K H d x∧Dens K H ds r
end
section
variable {K:W.Frag}{H H':Hp}{v:V}{xs:List V}
theorem den_int {i:Int}:Den K H (.int i) v↔v=.int i:=by unfold Den;exact KH
theorem den_bl {i:Bool}:Den K H (.bool i) v↔v=.bl i:=by unfold Den;exact KH
theorem den_str {i:Str}:Den K H (.str i) v↔v=.str i:=by unfold Den;exact KH
theorem den_non:Den K H .none v↔v=.non:=by unfold Den;exact KH
theorem den_tup {ds:List D}:Den K H (.tuple ds) v↔∃a xs,v=.ref a∧SqT K H a xs∧Dens K H ds xs:=by rw[Den]
theorem den_lst {ds:List D}:Den K H (.list ds) v↔∃a xs,v=.ref a∧SqL K H a xs∧Dens K H ds xs:=by rw[Den]
theorem qw {ds:List (D × D)}:Den K H (.dict ds) v↔False:=by rw[Den]
theorem dens_nil:Dens K H [] xs↔xs=[]:=by unfold Dens;exact KH
theorem jg {d:D}{ds:List D}:Dens K H (d::ds) xs↔∃x r,xs=x::r∧Den K H d x∧Dens K H ds r:=by rw[Dens]
theorem dens_cons' {d:D}{ds:List D}{x:V}:Dens K H (d::ds) (x::xs)↔Den K H d x∧Dens K H ds xs:=by
 rw[jg]
 constructor
 ·rintro⟨_,_,e,h1,h2⟩
  cases e
  exact⟨h1,h2⟩
 ·rintro⟨h1,h2⟩
  exact⟨_,_,rfl,h1,h2⟩
theorem yu {a:Addr}(e:Same H H')(h:SqT K H a xs):SqT K H' a xs:=by
 rcases h with (h|⟨o,h⟩)|h
 ·exact .inl (.inl (e _ _ h))
 ·exact .inl (.inr ⟨o,e _ _ h⟩)
 ·exact .inr h
end
mutual
theorem Den.mono {K:W.Frag}{H H':Hp}(e:Same H H'):∀ {d:D}{v:V},Den K H d v→Den K H' d v
 | .none,v,h=>by rw[den_non] at h ⊢;exact h
 | .bool b,v,h=>by rw[den_bl] at h ⊢;exact h
 | .int b,v,h=>by rw[den_int] at h ⊢;exact h
 | .str b,v,h=>by rw[den_str] at h ⊢;exact h
 | .dict b,v,h=>by rw[qw] at h;exact h.elim
 | .tuple ds,v,h=>by
  rw[den_tup] at h ⊢
  obtain⟨a,xs,h1,h2,h3⟩:=h
  exact⟨a,xs,h1,yu e h2,Dens.mono e h3⟩
 | .list ds,v,h=>by
  rw[den_lst] at h ⊢
  obtain⟨a,xs,h1,h2,h3⟩:=h
  exact⟨a,xs,h1,Same.seq e h2,Dens.mono e h3⟩
theorem Dens.mono {K:W.Frag}{H H':Hp}(e:Same H H'):∀ {ds:List D}{xs:List V},Dens K H ds xs→Dens K H' ds xs
 | [],xs,h=>by rw[dens_nil] at h ⊢;exact h
 | d::ds,xs,h=>by
  rw[jg] at h ⊢
  obtain⟨x,r,h1,h2,h3⟩:=h
  exact⟨x,r,h1,Den.mono e h2,Dens.mono e h3⟩
end
section
variable {X:Cx}{pins:List (Addr × Obj)}{σ:L2.St}{H:Hp}{s:Shared}
mutual
theorem Den.reads (I:Inv X pins σ H s):∀(d:D) (v:V) (u:Value),Den X.K H d v→RelV v u→∃as,Reads s.heap u d as
 | .none,v,u,h,r=>by rw[den_non] at h;subst h;cases r;exact⟨_,.none⟩
 | .bool b,v,u,h,r=>by rw[den_bl] at h;subst h;cases r;exact⟨_,.bool b⟩
 | .int b,v,u,h,r=>by rw[den_int] at h;subst h;obtain⟨t,rfl⟩:=r;exact⟨_,.int b t⟩
 | .str b,v,u,h,r=>by rw[den_str] at h;subst h;obtain⟨t,rfl⟩:=r;exact⟨_,.str b t⟩
 | .dict b,v,u,h,r=>by rw[qw] at h;exact h.elim
 | .tuple ds,v,u,h,r=>by
  rw[den_tup] at h
  obtain⟨a,xs,rfl,h2,h3⟩:=h
  cases r
  obtain⟨its,rv,⟨o,ho,hc,n,hd⟩,_⟩:=I.tuple h2
  obtain⟨as,hr⟩:=Dens.reads I ds xs its h3 rv
  exact⟨as,.tuple ho hc hd (by simpa using hr)⟩
 | .list ds,v,u,h,r=>by
  rw[den_lst] at h
  obtain⟨a,xs,rfl,h2,h3⟩:=h
  cases r
  obtain⟨its,rv,p,_⟩:=I.list h2
  obtain⟨o,ho,hc,n,hd⟩:=p.isList
  obtain⟨as,hr⟩:=Dens.reads I ds xs its h3 rv
  exact⟨_,.list ho hc hd (by simpa using hr)⟩
theorem Dens.reads (I:Inv X pins σ H s):∀(ds:List D) (xs:List V) (us:List Value),Dens X.K H ds xs→Vals xs us→∃as,ReadsAll s.heap us ds as
 | [],xs,us,h,r=>by rw[dens_nil] at h;subst h;cases r;exact⟨_,.nil⟩
 | d::ds,xs,us,h,r=>by
  rw[jg] at h
  obtain⟨x,q,rfl,h2,h3⟩:=h
  cases r with
  | cons r1 r2 =>
   obtain⟨as,h4⟩:=Den.reads I d x _ h2 r1
   obtain⟨bs,h5⟩:=Dens.reads I ds q _ h3 r2
   exact⟨_,.cons h4 h5⟩
end
end
section
variable {X:Cx}
noncomputable def E_ (K:W.Frag):R2:=fun x y H Q=>∃d e,Den K H d x∧Den K H e y∧SeqAt.shaped d=true∧SeqAt.shaped e=true∧Q (.bl (PyData.eqv d e)) H
noncomputable def E' (K:W.Frag):R2:=fun x y H Q=>∃d e,Den K H d x∧Den K H e y∧SeqAt.shaped d=true∧SeqAt.shaped e=true∧Q (.bl (!PyData.eqv d e)) H
theorem Dg (hu:X.A.units+64<cLine):OpR X (compareOp .Eq) (E_ X.K):=by
 intro pins s σ H x y v u Q I rx ry h
 obtain⟨d,e,h1,h2,h3,h4,q⟩:=h
 obtain⟨as,ra⟩:=Den.reads I d x v h1 rx
 obtain⟨bs,rb⟩:=Den.reads I e y u h2 ry
 exact eq_dataH ra rb h3 h4 hu ⟨.bl _,H,I,rfl,q⟩
theorem CV (hu:X.A.units+64<cLine):OpR X (compareOp .NotEq) (E' X.K):=by
 intro pins s σ H x y v u Q I rx ry h
 obtain⟨d,e,h1,h2,h3,h4,q⟩:=h
 obtain⟨as,ra⟩:=Den.reads I d x v h1 rx
 obtain⟨bs,rb⟩:=Den.reads I e y u h2 ry
 exact ne_dataH ra rb h3 h4 hu ⟨.bl _,H,I,rfl,q⟩
structure Has (P:Program)(w:World)(K:W.Frag)(mg:Str→Option Value)(base:Heap)(k:Nat)(x:Str)(ps:List Str)(sp:Sp):Prop where
 ex:∃(f:Addr) (fd:FuncData),mG P w K mg base CX0 k f fd ps sp∧mg x=some (.ref f)∧W.keepIn K (.ref f)=true∧Binds K fd ps []
structure At (K:W.Frag)(mg:Str→Option Value)(x:Str)(st:Stmt)(ps:List Str):Prop where
 ex:∃(f:Addr) (fd:FuncData),Fun K x x st f fd∧mg x=some (.ref f)∧Binds K fd ps []
theorem At.mk' {K:W.Frag}{mg:Str→Option Value}{h:Heap}{x:Str}{st:Stmt}{ps:List Str}{f:Addr}{oc:Value}{od an:Option Addr}{osl:Array (Option Value)}{kV doc pm cdv ct:Value}(X:K.In h)(G:h.Ns mainGlobals mg)
  (hb:∀(kV doc pm:Value) (an:Option Addr) (cdv ct:Value) (us:List Value),us.length=ps.length→bindArgs (W.fnOf x x (cQ st) (ae st) (ab st) .none kV doc pm an cdv ct) ⟨us,[]⟩=pure (ps.zip us))
  (a:W.nsIn K mainGlobals x=some (some (.ref f))) (l:K.lookup f=some ⟨oc,od,.func (W.fnOf x x (cQ st) (ae st) (ab st) .none kV doc pm an cdv ct),osl⟩)
  (c:W.codeIn K cdv x=true) (k:W.keepIn K (.ref f)=true):At K mg x st ps:=by
 have F:=xj (st:=st) l c k
 exact⟨f,_,F,W.mg_of X G a,F.binds hb⟩
theorem At.ok {P:Program}{w:World}{K:W.Frag}{mg:Str→Option Value}{base:Heap}{x:Str}{st:Stmt}{N ps:List Str}{k:Nat}{sp:Sp}(F:At K mg x st ps)(S:ah N ps (ab st))(len:∀vs H Q E,sp vs H Q E→vs.length=ps.length)
  (hbody:∀(f:Addr) (cdv:Value) (A:Around) (outer:List Env) (s:Shared) (H:Hp) (vs:List V) (Q:VK) (E:XK),Room k (A.deeper (envOfC x (ab st) s.heap.objs.size f cdv))→sp vs H Q E →
   ∃t,PSs (jf CX0 P w K mg base N x (ab st) f cdv A outer s H E).nox (ae st) t∧t { nx:=fun _ H'=>Q .non H',rt:=Q } (start N vs) H):Has P w K mg base (k+1) x ps sp:=by
 obtain⟨f,fd,Ff,m,b⟩:=F.ex
 exact⟨f,fd,Ff.ok S len (fun cdv A outer s H vs Q E hr h=>hbody f cdv A outer s H vs Q E hr h),m,Ff.kp,b⟩
theorem DA {k:Nat}{x:Str}{ps:List Str}{sp:Sp}{p pos:Pos}{e:Expr}{es:List Expr}{t:TA}(F:Has X.prog X.w X.K X.mg X.base k x ps sp)(hr:Room k X.A)(ha:PA X (e::es) t)
  (hg:Gl X x:=by rfl) (hdb:(x == ("__debug__":Str))=false:=by decide) (he:starEach (e::es) X.env=(false,eval e X.env)::starEach es X.env:=by rfl) (hpl:(backTo pos (starEach es X.env)).any (·.1)=false:=by rfl) :
  PE X (.Call (.Name x p) (e::es) [] pos) (nT sp [] E0 t):=by
 obtain⟨f,fd,F,m,kp,b⟩:=F.ex
 exact Ay F hr hg m kp b .nil Bw ha hdb he hpl
theorem Bg {k:Nat}{x:Str}{ps:List Str}{sp:Sp}{p pos:Pos}(F:Has X.prog X.w X.K X.mg X.base k x ps sp)(hr:Room k X.A)
  (hg:Gl X x:=by rfl) (hdb:(x == ("__debug__":Str))=false:=by decide) :
  PE X (.Call (.Name x p) [] [] pos) (nT sp [] E0 xO):=by
 obtain⟨f,fd,F,m,kp,b⟩:=F.ex
 exact yI F hr hg m kp b .nil Bw hdb
end
end HX
namespace HX
open L2
noncomputable def ag:Expr→Bool
 | .Starred ..=>false
 | _=>true
theorem cI {e:Expr}{es:List Expr}{env:Env}(h:ag e=true):starEach (e::es) env=(false,eval e env)::starEach es env:=by
 cases e <;> first|rfl|cases h
theorem qu {env:Env}:∀ {es:List Expr},es.all ag=true→(starEach es env).any (·.1)=false
 | [],_=>rfl
 | e::es,h=>by
  rw[IK,GD] at h
  rw[cI h.1,HG,qu h.2]
  rfl
noncomputable def i4:Expr→Bool
 | .Slice ..=>false
 | _=>true
theorem EO {b:Expr}(h:i4 b=true):vj b:=fun o i=>by
 cases b <;> first|rfl|cases h
section
variable {X:Cx}
theorem pac {e:Expr}{es:List Expr}{te:TE}{t:TA}(ha:PE X e te)(hr:PA X es t)(h:ag e=true:=by rfl):PA X (e::es) (qH te t):=AL ha hr (cI h)
theorem yX {a b:Expr}{ta tb:TE}{pos:Pos}{r:R2}(hr:IxR X r)(ha:PE X a ta)(hb:PE X b tb)(hs:i4 b=true:=by rfl):PE X (.Subscript a b pos) (tOp r ta tb):=DX hr ha hb (EO hs)
theorem ms {env:Env}{pos:Pos}{es:List Expr}(h:es.all ag=true):(backTo pos (starEach es env)).any (·.1)=false:=by
 have:=qu (env:=env) h
 unfold backTo
 rw[List.any_map]
 exact this
theorem AS {k:Nat}{x:Str}{ps:List Str}{sp:Sp}{p pos:Pos}{e:Expr}{es:List Expr}{t:TA}(F:Has X.prog X.w X.K X.mg X.base k x ps sp)(hr:Room k X.A)(ha:PA X (e::es) t)
  (hg:Gl X x:=by rfl) (hdb:(x == ("__debug__":Str))=false:=by decide) (he:ag e=true:=by rfl) (hpl:es.all ag=true:=by rfl) :
  PE X (.Call (.Name x p) (e::es) [] pos) (nT sp [] E0 t):=DA F hr ha hg hdb (cI he) (ms hpl)
theorem nI {id:String}{r:List V→Hp→VK→Prop}{x:Str}{p pos:Pos}{e:Expr}{es:List Expr}{t:TA}(hc:dn X (.builtin id) r)(hg:Gl X x)(hm:X.mg x=none)(hv:bootBuiltins x=some (.builtin id))(ha:PA X (e::es) t)(hn:x≠"__name__":=by decide)(hdb:(x == ("__debug__":Str))=false:=by decide)
  (he:ag e=true:=by rfl) (hpl:es.all ag=true:=by rfl):PE X (.Call (.Name x p) (e::es) [] pos) (tCB r t):=ww hc hg hm hv ha hn hdb (cI he) (ms hpl)
theorem lz {T:String}{r:List V→Hp→VK→Prop}{x:Str}{p pos:Pos}{e:Expr}{es:List Expr}{t:TA}(hc:dn X (.type T) r)(hg:Gl X x)(hm:X.mg x=none)(hv:bootBuiltins x=some (.type T))(ha:PA X (e::es) t)(hn:x≠"__name__":=by decide)(hdb:(x == ("__debug__":Str))=false:=by decide)
  (he:ag e=true:=by rfl) (hpl:es.all ag=true:=by rfl):PE X (.Call (.Name x p) (e::es) [] pos) (tCB r t):=vA hc hg hm hv ha hn hdb (cI he) (ms hpl)
end
end HX
namespace L2
section
variable {κ:Type} [DecidableEq κ]
noncomputable def fH (kvs:List (κ × V))(k:κ):Option V:=(kvs.find? fun kv=>decide (kv.1=k)).map (·.2)
noncomputable def iI (kvs:List (κ × V))(k:κ)(v:V):List (κ × V) :=
 if (kvs.any fun kv=>decide (kv.1=k))=true then kvs.map (fun kv=>if kv.1=k then (kv.1,v) else kv) else kvs++[(k,v)]
theorem iV {p:κ × V}{r:List (κ × V)}{k:κ}(e:p.1=k):fH (p::r) k=some p.2:=by simp[fH,List.find?_cons,e]
theorem ig {p:κ × V}{r:List (κ × V)}{k:κ}(e:¬p.1=k):fH (p::r) k=fH r k:=by simp[fH,List.find?_cons,e]
theorem rJ (k:κ):∀kvs:List (κ × V),(kvs.any fun kv=>decide (kv.1=k))=(fH kvs k).isSome
 | []=>rfl
 | p::r=>by
  rw[HG]
  by_cases e:p.1=k
  ·simp only[iV e,decide_eq_true e,Bool.true_or,Option.isSome_some]
  ·rw[ig e,GV e,Bool.false_or];exact rJ k r
theorem ki (kvs:List (κ × V))(k:κ)(v:V):(iI kvs k v).length≤kvs.length+1:=by
 unfold iI
 split
 ·rw[GI];omega
 ·rw[HF,JG,List.length_nil];omega
theorem RelO.isSome_eq {o:Option V}{u:Option Value}(r:RelO o u):o.isSome=u.isSome:=by
 cases o with
 | none=>cases u with
  | none=>rfl
  | some _=>exact(show False from r).elim
 | some _=>cases u with
  | none=>exact(show False from r).elim
  | some _=>rfl
theorem RelO.getD {o:Option V}{u:Option Value}{d:V}{d':Value}(r:RelO o u)(rd:RelV d d'):RelV (o.getD d) (u.getD d'):=by
 cases o with
 | none=>cases u with
  | none=>exact rd
  | some _=>exact(show False from r).elim
 | some _=>cases u with
  | none=>exact(show False from r).elim
  | some _=>exact r
theorem KV.val {kvs:List (κ × V)}{vs:List (κ × Value)}(r:KV kvs vs)(k:κ):RelO (fH kvs k) (valueAt vs k):=by
 unfold KV at r
 induction r with
 | nil=>exact True.intro
 | @cons p q ps qs h t ih =>
  obtain⟨h1,h2⟩:=h
  by_cases e:p.1=k
  ·have e':q.1=k:=h1.symm.trans e
   have b:valueAt (q::qs) k=some q.2:=by simp[valueAt,List.find?_cons,e']
   rw[iV e,b];exact h2
  ·have e':¬q.1=k:=fun z=>e (h1.trans z)
   have b:valueAt (q::qs) k=valueAt qs k:=by simp[valueAt,List.find?_cons,e']
   rw[ig e,b];exact ih
theorem KV.any {kvs:List (κ × V)}{vs:List (κ × Value)}(r:KV kvs vs)(k:κ):(kvs.any fun kv=>decide (kv.1=k))=vs.any fun kv=>decide (kv.1=k):=by
 unfold KV at r
 induction r with
 | nil=>rfl
 | cons h t ih=>rw[HG,HG,ih,h.1]
theorem KV.repl {kvs:List (κ × V)}{vs:List (κ × Value)}(r:KV kvs vs)(k:κ){y:V}{u:Value}(ry:RelV y u) :
  KV (kvs.map fun kv=>if kv.1=k then (kv.1,y) else kv) (vs.map fun kv=>if kv.1=k then (kv.1,u) else kv):=by
 unfold KV at r ⊢
 induction r with
 | nil=>exact .nil
 | @cons p q ps qs h t ih =>
  rw[GC,GC]
  refine .cons ?_ ih
  obtain⟨h1,h2⟩:=h
  by_cases e:p.1=k
  ·rw[GA e,GA (h1.symm.trans e)];exact⟨h1,ry⟩
  ·rw[F_ e,F_ (fun z=>e (h1.trans z))];exact⟨h1,h2⟩
theorem KV.put {kvs:List (κ × V)}{vs:List (κ × Value)}(r:KV kvs vs)(k:κ){y:V}{u:Value}(ry:RelV y u):KV (iI kvs k y) (stored vs k u):=by
 unfold iI stored
 rw[r.any k]
 by_cases e:(vs.any fun kv=>decide (kv.1=k))=true
 ·rw[GA e,GA e];exact r.repl k ry
 ·rw[F_ e,F_ e];exact Paired.snoc r ⟨rfl,ry⟩
theorem KV.keys {kvs:List (κ × V)}{vs:List (κ × Value)}(r:KV kvs vs):kvs.map (·.1)=vs.map (·.1):=by
 unfold KV at r
 induction r with
 | nil=>rfl
 | cons h t ih=>rw[GC,GC,ih,h.1]
theorem KV.length {kvs:List (κ × V)}{vs:List (κ × Value)}(r:KV kvs vs):kvs.length=vs.length:=Paired.length r
end
theorem nU {P:Program}{w:World}{k:Key}{u:Value}(r:RelV (kV k) u):(ax P w).is k u=true:=by
 cases k with
 | inl i=>obtain⟨t,e⟩:=(show ∃t,u=Value.int i t from r);subst e;exact qJ P w i t
 | inr x=>obtain⟨t,e⟩:=(show ∃t,u=Value.str x t from r);subst e;exact j4 P w x t
theorem oy {P:Program}{w:World}:∀ {ks:List Key}{us:List Value},Vals (ks.map kV) us→ItemsAre (ax P w) ks us
 | [],_,r=>by rw[HJ] at r;cases r;exact .nil
 | k::ks,_,r=>by
  rw[GC] at r
  cases r with
  | cons h t=>exact .cons (nU h) (oy t)
noncomputable abbrev KT (H:Hp):List (List Key × V)→List (List Key × Addr × Value)→Prop:=Paired fun p q=>p.1=q.1∧H q.2.1=some (.tup (p.1.map kV))∧RelV p.2 q.2.2
theorem KT.val {H:Hp}{kvs:List (List Key × V)}{xs:List (List Key × Addr × Value)}(r:KT H kvs xs)(k:List Key):RelO (fH kvs k) ((atKey xs k).map (·.2)):=by
 induction r with
 | nil=>exact True.intro
 | @cons p q ps qs h t ih =>
  obtain⟨h1,_,h2⟩:=h
  by_cases e:p.1=k
  ·have e':q.1=k:=h1.symm.trans e
   have b:atKey (q::qs) k=some q.2:=by simp[atKey,List.find?_cons,e']
   rw[iV e,b];exact h2
  ·have e':¬q.1=k:=fun z=>e (h1.trans z)
   have b:atKey (q::qs) k=atKey qs k:=by simp[atKey,List.find?_cons,e']
   rw[ig e,b];exact ih
theorem KT.repl {H:Hp}{kvs:List (List Key × V)}{xs:List (List Key × Addr × Value)}(r:KT H kvs xs)(k:List Key){y:V}{u:Value}(ry:RelV y u) :
  KT H (kvs.map fun kv=>if kv.1=k then (kv.1,y) else kv) (xs.map (putAt k u)):=by
 induction r with
 | nil=>exact .nil
 | @cons p q ps qs h t ih =>
  rw[GC,GC]
  refine .cons ?_ ih
  obtain⟨h1,h2,h3⟩:=h
  unfold putAt
  by_cases e:p.1=k
  ·rw[GA e,GA (h1.symm.trans e)];exact⟨h1,h2,ry⟩
  ·rw[F_ e,F_ (fun z=>e (h1.trans z))];exact⟨h1,h2,h3⟩
theorem KT.put {H:Hp}{kvs:List (List Key × V)}{xs:List (List Key × Addr × Value)}(r:KT H kvs xs)(k:List Key){b:Addr}{y:V}{u:Value}(hb:H b=some (.tup (k.map kV)))(ry:RelV y u) :
  KT H (iI kvs k y) (storedH xs k b u):=by
 have e:(kvs.any fun kv=>decide (kv.1=k))=(atKey xs k).isSome:=by
  rw[rJ,(r.val k).isSome_eq,JU]
 unfold iI storedH
 rw[e]
 by_cases q:(atKey xs k).isSome=true
 ·rw[GA q,GA q];exact r.repl k ry
 ·rw[F_ q,F_ q];exact Paired.snoc r ⟨rfl,hb,ry⟩
theorem KT.keeps {H H':Hp}{kvs:List (List Key × V)}{xs:List (List Key × Addr × Value)}(r:KT H kvs xs)(ht:∀b ys,H b=some (.tup ys)→H' b=some (.tup ys)):KT H' kvs xs :=
 Paired.mapP r fun _ _ z=>⟨z.1,ht _ _ z.2.1,z.2.2⟩
section
variable {P:Program}{w:World}{H:Hp}{h:Heap}{a:Addr}
theorem By {u:HO}(ok:HOk P w H h)(e:Rd H a u):ObjOk P w H h a u:=e.ok ok
theorem ko {kvs:List (Key × V)}(ok:HOk P w H h)(e:Rd H a (.dK kvs)):kvs.length≤sizeLine∧(a == sysModules)=false∧∃vs,KV kvs vs∧h.DictOf (ax P w) a vs :=
 show ObjOk P w H h a (.dK kvs) from By ok e
theorem kh {kvs:List (Key × V)}(ok:HOk P w H h)(e:H a=some (.dK kvs)):kvs.length≤sizeLine∧(a == sysModules)=false∧∃vs,KV kvs vs∧h.DictOf (ax P w) a vs:=ko ok (.inl e)
theorem jj {ks:List Key}(ok:HOk P w H h)(e:H a=some (.tup (ks.map kV))):(tupleKind (ax P w)).is h ks a:=by
 obtain⟨_,its,r,o,h1,h2,n,h3⟩:=(show ObjOk P w H h a (.tup (ks.map kV)) from ok a _ e)
 exact⟨o,its.toArray,n,h1,h2,h3,by simpa using oy r⟩
theorem qz {kvs:List (List Key × V)}(ok:HOk P w H h)(e:Rd H a (.dT kvs)):kvs.length≤sizeLine∧(a == sysModules)=false ∧
  ∃xs,KT H kvs xs∧h.DictOfH (tupleKind (ax P w)) a xs:=by
 obtain⟨z,y,xs,r,o,es,ep,h1,h2,h3,h4,h5⟩:=(show ObjOk P w H h a (.dT kvs) from By ok e)
 refine⟨z,y,xs,r,o,es,ep,h1,h2,h3,h4,fun x hx=>?_,h5⟩
 have all:∀ {l:List (List Key × V)}{m:List (List Key × Addr × Value)},KT H l m→∀x∈m,(tupleKind (ax P w)).is h x.1 x.2.1:=by
  intro l m q
  induction q with
  | nil=>intro x hx;exact nomatch hx
  | @cons p q ps qs hq t ih =>
   intro x hx
   rcases HA.mp hx with e|hx
   ·subst e
    exact jj ok (by rw[←hq.1];exact hq.2.1)
   ·exact ih x hx
 exact all r x hx
theorem Eb {kvs:List (List Key × V)}(ok:HOk P w H h)(e:H a=some (.dT kvs)):kvs.length≤sizeLine∧(a == sysModules)=false ∧
  ∃xs,KT H kvs xs∧h.DictOfH (tupleKind (ax P w)) a xs:=qz ok (.inl e)
end
def DGet (H:Hp)(a:Addr)(y:V)(r:Option V):Prop :=
 (∃kvs k,Rd H a (.dK kvs)∧y=kV k∧r=fH kvs k)∨∃kvs k b,Rd H a (.dT kvs)∧y=.ref b∧H b=some (.tup (k.map kV))∧r=fH kvs k
def DPut (H:Hp)(a:Addr)(y v:V)(H':Hp):Prop :=
 (∃kvs k,H a=some (.dK kvs)∧y=kV k∧kvs.length<sizeLine∧H'=upd H a (.dK (iI kvs k v))) ∨
 ∃kvs k b,H a=some (.dT kvs)∧y=.ref b∧H b=some (.tup (k.map kV))∧kvs.length<sizeLine∧H'=upd H a (.dT (iI kvs k v))
theorem DGet.k {H:Hp}{a:Addr}{kvs:List (Key × V)}{k:Key}(e:H a=some (.dK kvs)):DGet H a (kV k) (fH kvs k):=.inl ⟨kvs,k,.inl e,rfl,rfl⟩
theorem DPut.k {H:Hp}{a:Addr}{kvs:List (Key × V)}{k:Key}{v:V}(e:H a=some (.dK kvs))(hl:kvs.length<sizeLine):DPut H a (kV k) v (upd H a (.dK (iI kvs k v))):=.inl ⟨kvs,k,e,rfl,hl,rfl⟩
section
variable {X:Cx}{pins:List (Addr × Obj)}{σ:St}{H:Hp}{s:Shared}{a:Addr}{y v:V}{u r:Value}{o:Option V}{A:Around}{E:Value→Shared→Prop}
theorem Inv.big (I:Inv X pins σ H s):sysModules<s.heap.objs.size:=by
 have h:mainGlobals<s.heap.objs.size:=(I.mod.glob.keeps I.bk).lt
 exact KB (by decide) h
theorem vG {Q:Value→Shared→Prop}(hu:A.units+1<cLine)(I:Inv X pins σ H s)(g:DGet H a y (some v))(ry:RelV y u)(h:∀w' s',Inv X pins σ H s'→RelV v w'→Q w' s') :
  wpAny (model X.prog X.w) A (getItem (.ref a) u) Q E s:=by
 rcases g with⟨kvs,k,e,ey,l⟩|⟨kvs,k,b,e,ey,eb,l⟩
 ·subst ey
  obtain⟨z,hd,vs,rel,dd⟩:=ko I.hok e
  obtain⟨w',hw,rw'⟩:=RelO.some_of (v:=v) (o:=valueAt vs k) (by rw[l];exact rel.val k)
  exact wpAny_getItem_of (nU ry) dd.mapOf hw (h w' _ (I.tok _) rw')
 ·subst ey
  cases (show u=Value.ref b from ry)
  obtain⟨z,hd,xs,rel,dd⟩:=qz I.hok e
  obtain⟨w',hw,rw'⟩:=RelO.some_of (v:=v) (o:=(atKey xs k).map (·.2)) (by rw[l];exact rel.val k)
  obtain⟨p,hp,hp2⟩:=GK.mp hw
  refine wpAny_getItem_heap (tupleKind_room_in1 hu) (jj I.hok eb) dd hp ?_
  rw[hp2]
  exact h w' _ (I.tok _) rw'
theorem E4 {Q:Value→Shared→Prop}(hu:A.units+1<cLine)(I:Inv X pins σ H s)(g:DGet H a y o)(ry:RelV y u)(h:∀s',Inv X pins σ H s'→Q (.bool o.isSome) s') :
  wpAny (model X.prog X.w) A (compareOp .In u (.ref a)) Q E s:=by
 rcases g with⟨kvs,k,e,ey,l⟩|⟨kvs,k,b,e,ey,eb,l⟩
 ·subst ey
  obtain⟨z,hd,vs,rel,dd⟩:=ko I.hok e
  refine wpAny_in_of (nU ry) hd dd.mapOf ?_
  rw[←(rel.val k).isSome_eq,←l]
  exact h _ (I.tok _)
 ·subst ey
  cases (show u=Value.ref b from ry)
  obtain⟨z,hd,xs,rel,dd⟩:=qz I.hok e
  refine wpAny_in_heap (tupleKind_room_in1 hu) (jj I.hok eb) hd dd ?_
  have q:=(rel.val k).isSome_eq
  rw[JU] at q
  rw[←q,←l]
  exact h _ (I.tok _)
theorem Ap {Q:Value→Shared→Prop}(hu:A.units+1<cLine)(I:Inv X pins σ H s)(g:DGet H a y o)(ry:RelV y u)(h:∀s',Inv X pins σ H s'→Q (.bool (!o.isSome)) s') :
  wpAny (model X.prog X.w) A (compareOp .NotIn u (.ref a)) Q E s:=by
 rcases g with⟨kvs,k,e,ey,l⟩|⟨kvs,k,b,e,ey,eb,l⟩
 ·subst ey
  obtain⟨z,hd,vs,rel,dd⟩:=ko I.hok e
  refine wpAny_notIn_of (nU ry) hd dd.mapOf ?_
  rw[←(rel.val k).isSome_eq,←l]
  exact h _ (I.tok _)
 ·subst ey
  cases (show u=Value.ref b from ry)
  obtain⟨z,hd,xs,rel,dd⟩:=qz I.hok e
  refine wpAny_notIn_heap (tupleKind_room_in1 hu) (jj I.hok eb) hd dd ?_
  have q:=(rel.val k).isSome_eq
  rw[JU] at q
  rw[←q,←l]
  exact h _ (I.tok _)
theorem u3 {h':Heap}{t':Nat}{ob:HO}(I:Inv X pins σ H s)(mu:Mut (H a))(hs:Heap.SameBut a s.heap h')(he:∃q,h'.get? a=some q)(new:ObjOk X.prog X.w (upd H a ob) h' a ob) :
  Inv X pins σ (upd H a ob) { s with heap:=h',toks:=t' } :=
 I.write (x:=a) (e:=a) mu (.inl rfl) (fun b q hb z=>(hs.2 b hb).trans z) he new
theorem xc {P:Program}{w:World}{H':Hp}{h':Heap}{kvs:List (Key × V)}{vs:List (Key × Value)}(z:kvs.length≤sizeLine)(hd:(a == sysModules)=false)(rel:KV kvs vs)(dd:h'.DictOf (ax P w) a vs) :
  ObjOk P w H' h' a (.dK kvs):=⟨z,hd,vs,rel,dd⟩
theorem wd {H':Hp}{Q:Unit→Shared→Prop}(hu:A.units+1<cLine)(I:Inv X pins σ H s)(g:DPut H a y v H')(ry:RelV y u)(rv:RelV v r)(h:∀s',Inv X pins σ H' s'→Q () s') :
  wpAny (model X.prog X.w) A (setItem (.ref a) u r) Q E s:=by
 rcases g with⟨kvs,k,e,ey,l,eH⟩|⟨kvs,k,b,e,ey,eb,l,eH⟩
 ·subst ey eH
  obtain⟨z,hd,vs,rel,dd⟩:=kh I.hok e
  have hz:vs.length≤sizeLine:=by rw[←rel.length];exact z
  have hl:(iI kvs k v).length≤sizeLine:=by have:=ki kvs k v;omega
  refine wpAny_setItem_pairs (hsz:=hz) (nU ry) dd fun h' dd' hs=>h _ ?_
  have he:∃q,h'.get? a=some q:=let ⟨q,_,_,hq,_⟩:=dd';⟨q,hq⟩
  exact u3 I (by rw[e];exact True.intro) hs he (xc hl hd (rel.put k rv) dd')
 ·subst ey eH
  cases (show u=Value.ref b from ry)
  obtain⟨z,hd,xs,rel,dd⟩:=Eb I.hok e
  have hz:xs.length≤sizeLine:=by rw[←Paired.length rel];exact z
  have hl:(iI kvs k v).length≤sizeLine:=by have:=ki kvs k v;omega
  refine wpAny_setItem_heap (hsz:=hz) (tupleKind_room_in1 hu) (jj I.hok eb) dd fun h' dd' hs=>h _ ?_
  obtain⟨q,es,ep,hq,h2,h3,h4,_,h5⟩:=dd'
  refine u3 I (by rw[e];exact True.intro) hs ⟨q,hq⟩ ⟨hl,hd,_,(rel.put k eb rv).keeps fun c ys ec=>?_,q,es,ep,hq,h2,h3,h4,h5⟩
  rw[ac (EB ec e (fun z=>nomatch z))]
  exact ec
end
section
variable {X:Cx}{pins:List (Addr × Obj)}{σ:St}{H:Hp}{s:Shared}{a:Addr}{kvs:List (Key × V)}{k:Key}{u:Value}{A:Around}{E:Value→Shared→Prop}
end
section
variable {X:Cx}{pins:List (Addr × Obj)}{σ:St}{H:Hp}{s:Shared}{a:Addr}{kvs:List (Key × V)}{A:Around}{E:Value→Shared→Prop}
theorem yH {Q:Value→Shared→Prop}(I:Inv X pins σ H s)(e:Rd H a (.dK kvs))(h:∀p s',H p=none→Inv X pins σ (upd H p (.dK kvs)) s'→Q (.ref p) s'):wpAny (model X.prog X.w) A (call (.type "dict") [.ref a]) Q E s:=by
 obtain⟨z,hd,vs,rel,dd⟩:=ko I.hok e
 refine kt_call_dict hd dd (by rw[←rel.length];exact z) fun h' dd' hs=>?_
 refine h _ _ (I.hok.fresh (F2 _)) (I.laid (a:=s.heap.objs.size) (o:=.dK kvs) (t':=s.toks) (fun b q hq=>?_) (F2 _) (xc z (beq_eq_false_iff_ne.mpr (Ne.symm (GS I.big))) rel dd'))
 exact(hs.2 b (GS (GF hq))).trans (F5 _ hq)
end
section
variable {X:Cx}{pins:List (Addr × Obj)}{σ:St}{H:Hp}{s:Shared}{a:Addr}{y d:V}{u r:Value}{o:Option V}{A:Around}{E:Value→Shared→Prop}
theorem BH {Q:Value→Shared→Prop}(hu:A.units+1<cLine)(I:Inv X pins σ H s)(g:DGet H a y o)(ry:RelV y u)(h:∀w' s',Inv X pins σ H s'→RelV (o.getD .non) w'→Q w' s') :
  wpAny (model X.prog X.w) A (call (.builtin "dict.get") [.ref a,u]) Q E s:=by
 rcases g with⟨kvs,k,e,ey,l⟩|⟨kvs,k,b,e,ey,eb,l⟩
 ·subst ey
  obtain⟨z,hd,vs,rel,dd⟩:=ko I.hok e
  refine call_meetsIn JD dd.typeIs PySem.F.entry_dict_get (PySem.F.args_dict_get_2 _ _) (meets_dict_get (ax X.prog X.w) a (nU ry) hd) ⟨_,dd.mapOf,h _ _ (I.tok _) ?_⟩
  rw[l]
  exact(rel.val k).getD rfl
 ·subst ey
  cases (show u=Value.ref b from ry)
  obtain⟨z,hd,xs,rel,dd⟩:=qz I.hok e
  refine call_meetsIn JD dd.typeIs PySem.F.entry_dict_get (PySem.F.args_dict_get_2 _ _) (meetsH_dict_get (tupleKind (ax X.prog X.w)) a b hd) ⟨tupleKind_room_in1 hu,k,xs,jj I.hok eb,dd,h _ _ (I.tok _) ?_⟩
  rw[l]
  exact(rel.val k).getD rfl
end
end L2
namespace FW
open L2
def FR (xs:Array Nat):Prop:=∀i j,i<j→j<xs.size→xs.getD i 0<xs.getD j 0
structure Eu (b:Bool)(t:SetTable):Prop where
 ris:FR t.place
 led:t.led=b
noncomputable def toI:Value→Int
 | .int n _=>n
 | _=>0
section
variable {prog:Program}{w:World}{A:Around}{E:Value→Shared→Prop}{s:Shared}
def EI (prog:Program)(w:World)(e:Int × Value):Prop:=∃(k:Int) (t:Tok),e=((intKind prog w).hash k,.int k t)
structure Fy (prog:Program)(w:World)(b:Bool)(es:Array (Int × Value))(t:SetTable)(zs:List Int):Prop where
 el:∀e∈es.toList,EI prog w e
 nd:(es.toList.map fun e=>toI e.2).Nodup
 mem:∀i,i∈(es.toList.map fun e=>toI e.2)↔i∈zs
 ln:es.size≤zs.length
 fit:t.fits es.size=true
 ok:Eu b t
noncomputable abbrev ED (es:Array (Int × Value))(ep:Nat)(t:SetTable):Obj:={ cls:=.type "set",dict:=none,data:=.set es ep t }
def Fc (prog:Program)(w:World)(b:Bool)(h:Heap)(a:Addr)(zs:List Int):Prop:=∃es ep t,h.get? a=some (ED es ep t)∧Fy prog w b es t zs
end
end FW
namespace FW
noncomputable abbrev byT (w:World):Bool:=w.params.followText "set-order"
section
variable {prog:Program}{w:World}{A:Around}{E:Value→Shared→Prop}{s:Shared}
end
end FW
namespace FW
section
variable {prog:Program}{w:World}{A:Around}{E:Value→Shared→Prop}{s:Shared}
set_option maxHeartbeats 3200000 in
end
end FW
namespace L2
section
variable {X:Cx}
end
end L2
namespace L2
structure FS (h:Heap)(f:Addr)(qual:Str)(params:Arguments)(body:Expr)(scope:Scope)(cl:List (Str × Addr)):Prop where
 ex:∃pm c' ctv,h.get? f=some (W.kla_obj "<lambda>" qual params body scope cl pm c' ctv)∧h.CodeRec (.ref c') qual
structure Er (x:Str)(scope:Scope)(cl:List (Str × Addr)):Prop where
 kind:scope.kind=.function
 co:scope.isCoroutine=false
 gen:scope.isGenerator=false
 nocell:∀y∈scope.names,y.2≠.cell
 par:scope.names.lookup x=some .local
 free:∀y,scope.names.lookup y=some .free→∃c,cl.lookup y=some c
 inj:∀y z c,cl.lookup y=some c→cl.lookup z=some c→y=z
end L2
namespace L2
def CF (oc:Obj)(q:Str):Prop:=∃vs t,oc.data=.fields vs∧vs[1]?=some (.str q t)
end L2
namespace FW
open PySem L2 HX
inductive PV where
 | non|bl (b:Bool)|int (i:Int)|str (x:Str)|tup (xs:List PV)|ref (n:Nat)|rdl (xs:List PV)|fn (a:Nat)
 deriving Inhabited
inductive Cell where
 | lst (xs:List PV)
 | dk (kvs:List (Key × PV))
 | fz (kvs:List (Key × PV))
noncomputable abbrev AH:=List Cell
noncomputable abbrev Fr:=List (Option PV)
noncomputable abbrev EK:=PV→AH→Prop
noncomputable abbrev LK:=List PV→AH→Prop
noncomputable abbrev BK:=Bool→AH→Prop
noncomputable abbrev FSp:=List PV→AH→EK→Prop
mutual
noncomputable def PV.bel (k:Nat):PV→Bool
 | .ref n=>decide (n<k)
 | .tup xs=>PV.bels k xs
 | .rdl xs=>PV.bels k xs
 | .non=>true
 | .bl _=>true
 | .int _=>true
 | .str _=>true
 | .fn _=>false
noncomputable def PV.bels (k:Nat):List PV→Bool
 | []=>true
 | x::xs=>x.bel k && PV.bels k xs
end
mutual
noncomputable def PV.bec (k:Nat):PV→Bool
 | .ref n=>decide (n<k)
 | .tup xs=>PV.becs k xs
 | .rdl xs=>PV.becs k xs
 | .non=>true
 | .bl _=>true
 | .int _=>true
 | .str _=>true
 | .fn _=>true
noncomputable def PV.becs (k:Nat):List PV→Bool
 | []=>true
 | x::xs=>x.bec k && PV.becs k xs
end
mutual
theorem PV.bel_bec {i j:Nat}(h:i≤j):∀ {v:PV},v.bel i=true→v.bec j=true
 | .non,_=>by rw[PV.bec]
 | .bl _,_=>by rw[PV.bec]
 | .int _,_=>by rw[PV.bec]
 | .str _,_=>by rw[PV.bec]
 | .ref n,z=>by rw[PV.bel] at z;rw[PV.bec];have:=HC z;exact HB (by omega)
 | .tup xs,z=>by rw[PV.bel] at z;rw[PV.bec];exact PV.bels_becs h z
 | .rdl xs,z=>by rw[PV.bel] at z;rw[PV.bec];exact PV.bels_becs h z
 | .fn _,z=>by rw[PV.bel] at z;cases z
theorem PV.bels_becs {i j:Nat}(h:i≤j):∀ {vs:List PV},PV.bels i vs=true→PV.becs j vs=true
 | [],_=>by rw[PV.becs]
 | v::vs,z=>by rw[PV.bels,GD] at z;rw[PV.becs,GD];exact⟨PV.bel_bec h z.1,PV.bels_becs h z.2⟩
end
noncomputable def Cell.bec (k:Nat):Cell→Bool
 | .lst xs=>PV.becs k xs
 | .dk kvs=>PV.becs k (kvs.map (·.2))
 | .fz kvs=>PV.becs k (kvs.map (·.2))
noncomputable def Cell.bel (k:Nat):Cell→Bool
 | .lst xs=>PV.bels k xs
 | .dk kvs=>PV.bels k (kvs.map (·.2))
 | .fz _=>false
mutual
noncomputable def PV.toD:PV→Option PyData
 | .non=>some .none
 | .bl b=>some (.bool b)
 | .int i=>some (.int i)
 | .str x=>some (.str x)
 | .tup xs=>(PV.toDs xs).map .tuple
 | .rdl xs=>(PV.toDs xs).map .list
 | .ref _=>none
 | .fn _=>none
noncomputable def PV.toDs:List PV→Option (List PyData)
 | []=>some []
 | x::xs=>match x.toD,PV.toDs xs with
  | some d,some ds=>some (d::ds)
  | _,_=>none
end
noncomputable def mW (st:AH):PV→Option PyData
 | .ref n=>match st[n]? with
  | some (.lst xs)=>(PV.toDs xs).map .list
  | _=>none
 | v=>v.toD
def eqW (st:AH)(x y:PV)(k:Bool→Prop):Prop :=
 match x,y with
 | .int i,.int j=>k (decide (i=j))
 | .bl a,.bl b=>k (decide (a=b))
 | .str a,.str b=>k (decide (a=b))
 | x,y=>∃d e,mW st x=some d∧mW st y=some e∧SeqAt.shaped d=true∧SeqAt.shaped e=true∧k (PyData.eqv d e)
noncomputable def dJ (st:AH):PV→Option String
 | .non=>some "NoneType"
 | .bl _=>some "bool"
 | .int _=>some "int"
 | .str _=>some "str"
 | .tup _=>some "tuple"
 | .rdl _=>some "list"
 | .ref n=>match st[n]? with
  | some (.lst _)=>some "list"
  | some (.dk _)=>some "dict"
  | some (.fz _)=>some "dict"
  | none=>none
 | .fn _=>none
noncomputable def bc (st:AH):PV→Option (List PV)
 | .rdl xs=>some xs
 | .ref n=>match st[n]? with
  | some (.lst xs)=>some xs
  | _=>none
 | _=>none
noncomputable def bt (st:AH):PV→Option (List PV)
 | .tup xs=>some xs
 | v=>bc st v
noncomputable def cS:PV→Bool
 | .non=>true
 | _=>false
noncomputable def kG (k:Bool):PV→Bool
 | .bl b=>b == k
 | _=>false
noncomputable def pT (xs:List PV)(lo hi:Option Int):List PV:=(xs.drop (HT.sIx xs.length 0 lo)).take (HT.sIx xs.length xs.length hi-HT.sIx xs.length 0 lo)
noncomputable def b2z (b:Bool):Int:=if b then 1 else 0
def iiW (f:Int→Int→Prop)(x y:PV):Prop :=
 match x with
 | .int i=>match y with
  | .int j=>f i j
  | _=>False
 | _=>False
def E9 (x y:PV)(st:AH)(Q:EK):Prop :=
 match x with
 | .int i=>match y with
  | .int j=>Q (.int (i+j)) st
  | _=>False
 | .ref n=>match y with
  | .ref k=>∃xs ys,st[n]?=some (.lst xs)∧st[k]?=some (.lst ys)∧xs.length+ys.length≤100000∧Q (.ref st.length) (st++[.lst (xs++ys)])
  | _=>False
 | .tup xs=>match y with
  | .tup ys=>xs.length+ys.length≤100000∧Q (.tup (xs++ys)) st
  | _=>False
 | .str a=>match y with
  | .str b=>a.length+b.length≤100000∧Q (.str (a++b)) st
  | _=>False
 | _=>False
def Fj (x y:PV)(st:AH)(Q:EK):Prop :=
 match x with
 | .int i=>match y with
  | .int j=>CMB i j∧Q (.int (i*j)) st
  | _=>False
 | .ref n=>match y with
  | .int k=>∃xs,st[n]?=some (.lst xs)∧-(2 ^ 63)≤k∧k<2 ^ 63∧xs.length*k.toNat≤100000∧Q (.ref st.length) (st++[.lst (List.replicate k.toNat xs).flatten])
  | _=>False
 | _=>False
def hV (op:Operator)(x y:PV)(st:AH)(Q:EK):Prop :=
 match op with
 | .Add=>E9 x y st Q
 | .Sub=>iiW (fun i j=>Q (.int (i-j)) st) x y
 | .Mult=>Fj x y st Q
 | .FloorDiv=>iiW (fun i j=>CBig j∧Q (.int (i/j)) st) x y
 | .Mod=>iiW (fun i j=>0<j∧Q (.int (i % j)) st) x y
 | .Pow=>iiW (fun i j=>rH i j∧Q (.int (i ^ j.toNat)) st) x y
 | _=>False
noncomputable def bd (kvs:List (Key × PV))(k:Key):Option PV:=(kvs.find? fun kv=>decide (kv.1=k)).map (·.2)
noncomputable def ic (kvs:List (Key × PV))(k:Key)(v:PV):List (Key × PV) :=
 if (kvs.any fun kv=>decide (kv.1=k))=true then kvs.map (fun kv=>if kv.1=k then (kv.1,v) else kv) else kvs++[(k,v)]
noncomputable def kP:Key→PV
 | .inl i=>.int i
 | .inr x=>.str x
inductive DW where
 | keys|items
 deriving DecidableEq
noncomputable def cw:DW→List (Key × PV)→List PV
 | .keys,kvs=>kvs.map fun p=>kP p.1
 | .items,kvs=>kvs.map fun p=>.tup [kP p.1,p.2]
noncomputable def Bn (ps:List (Str × PV)):List (Key × PV):=ps.foldl (fun d p=>ic d (.inr p.1) p.2) []
def vd (x y:PV):Prop:=x=y∧∃d,x.toD=some d∧SeqAt.shaped d=true
def zK (st:AH)(x y:PV):Prop:=vd x y∨∃n k kvs lvs,x=.ref n∧y=.ref k∧st[n]?=some (.dk kvs)∧st[k]?=some (.dk lvs)∧kvs.length=lvs.length∧∀p∈kvs,∃u,bd lvs p.1=some u∧vd p.2 u
noncomputable def tD (st:AH):List PV→List PV→Prop
 | [],[]=>True
 | x::xs,y::ys=>zK st x y∧tD st xs ys
 | _,_=>False
def me (st:AH)(x y:PV):Prop:=∃n k kvs lvs,x=.ref n∧y=.ref k∧st[n]?=some (.dk kvs)∧st[k]?=some (.dk lvs)∧(∀p∈kvs,∃d,p.2.toD=some d∧SeqAt.shaped d=true)∧(∀p∈lvs,∃d,p.2.toD=some d∧SeqAt.shaped d=true)∧(kvs.length≠lvs.length∨∃p∈kvs,∀u,bd lvs p.1=some u→∃d d',p.2.toD=some d∧u.toD=some d'∧PyData.eqv d d'=false)
def nA (st:AH)(x y:PV):Prop:=(∃xs ys,x=.tup xs∧y=.tup ys∧tD st xs ys)∨∃n k,x=.ref n∧y=.ref k∧zK st x y
def inR (a:Str)(n:Nat)(st:AH)(k:Bool→Prop):Prop :=
 (∃ns:List Str,st[n]?=some (.lst (ns.map PV.str))∧k (ns.any fun j=>j == a))∨∃kvs,(st[n]?=some (.dk kvs)∨st[n]?=some (.fz kvs))∧k (bd kvs (.inr a)).isSome
def c6 (op:CmpOp)(x y:PV)(st:AH)(Q:EK):Prop :=
 match op with
 | .Eq=>eqW st x y fun k=>Q (.bl k) st
 | .NotEq=>eqW st x y fun k=>Q (.bl (!k)) st
 | .Is=>match y with
  | .non=>Q (.bl (cS x)) st
  | .bl k=>Q (.bl (kG k x)) st
  | _=>False
 | .IsNot=>match y with
  | .non=>Q (.bl (!cS x)) st
  | .bl k=>Q (.bl (!kG k x)) st
  | _=>False
 | .Lt=>match x,y with
  | .int i,.int j=>Q (.bl (decide (i<j))) st
  | _,_=>False
 | .LtE=>match x,y with
  | .int i,.int j=>Q (.bl (decide (i≤j))) st
  | _,_=>False
 | .Gt=>match x,y with
  | .int i,.int j=>Q (.bl (decide (j<i))) st
  | _,_=>False
 | .GtE=>match x,y with
  | .int i,.int j=>Q (.bl (decide (j≤i))) st
  | _,_=>False
 | .In=>match x,y with
  | .str a,.str b=>Q (.bl (!(Builtin.Str.occurrences b a 0 b.length 1).isEmpty)) st
  | .int i,.tup xs=>∃ns:List Int,xs=ns.map PV.int∧Q (.bl (ns.any fun j=>j == i)) st
  | .str a,.tup xs=>∃ns:List Str,xs=ns.map PV.str∧Q (.bl (ns.any fun j=>j == a)) st
  | .str a,.ref n=>inR a n st fun k=>Q (.bl k) st
  | _,_=>False
 | .NotIn=>match x,y with
  | .int i,.tup xs=>∃ns:List Int,xs=ns.map PV.int∧Q (.bl (!(ns.any fun j=>j == i))) st
  | .str a,.tup xs=>∃ns:List Str,xs=ns.map PV.str∧Q (.bl (!(ns.any fun j=>j == a))) st
  | .str a,.ref n=>inR a n st fun k=>Q (.bl (!k)) st
  | _,_=>False
def ixI (i:Int)(st:AH)(Q:EK)(x:PV):Prop :=
 match x with
 | .str z=>z.length≤100000∧∃c,atI z.cps.toList i=some c∧Q (.str ⟨#[c]⟩) st
 | x=>∃xs,bt st x=some xs∧∃v,atI xs i=some v∧Q v st
theorem uI {i:Int}{st:AH}{Q:EK}{x:PV}(h:ixI i st Q x):(∃z c,x=.str z∧z.length≤100000∧atI z.cps.toList i=some c∧Q (.str ⟨#[c]⟩) st)∨∃xs v,bt st x=some xs∧atI xs i=some v∧Q v st:=by
 cases x with
 | str z=>exact .inl ⟨z,h.2.choose,rfl,h.1,h.2.choose_spec⟩
 | _=>obtain⟨xs,e,v,e2,q⟩:=h;exact .inr ⟨xs,v,e,e2,q⟩
theorem Ar {i:Int}{st:AH}{Q:EK}{x:PV}{xs:List PV}{v:PV}(e:bt st x=some xs)(e2:atI xs i=some v)(h:Q v st):ixI i st Q x:=by
 cases x with|str z=>cases e|_=>exact⟨xs,e,v,e2,h⟩
def ixD (z:Str)(st:AH)(Q:EK)(x:PV):Prop :=
 match x with
 | .ref n=>∃kvs v,(st[n]?=some (.dk kvs)∨st[n]?=some (.fz kvs))∧bd kvs (.inr z)=some v∧Q v st
 | _=>False
theorem u_ {z:Str}{st:AH}{Q:EK}{x:PV}(h:ixD z st Q x):∃n kvs v,x=.ref n∧(st[n]?=some (.dk kvs)∨st[n]?=some (.fz kvs))∧bd kvs (.inr z)=some v∧Q v st:=by
 cases x with
 | ref n=>obtain⟨kvs,v,h⟩:=h;exact⟨n,kvs,v,rfl,h⟩
 | _=>exact False.elim h
def ixW (x y:PV)(st:AH)(Q:EK):Prop :=
 match y with
 | .int i=>ixI i st Q x
 | .str z=>ixD z st Q x
 | _=>False
noncomputable def jO (z:Str)(lo hi:Option Int):Str:=if ((Builtin.Str.strSliceIndices lo hi 1 z.length).length == z.length)=true then z else ⟨((Builtin.Str.strSliceIndices lo hi 1 z.length).filterMap (z.cps[·]?)).toArray⟩
def slW (x:PV)(lo hi:Option Int)(st:AH)(Q:EK):Prop :=
 match x with
 | .str z=>z.length≤100000∧Q (.str (jO z lo hi)) st
 | .tup xs=>Q (.tup (pT xs lo hi)) st
 | x=>∃xs,bc st x=some xs∧Q (.ref st.length) (st++[.lst (pT xs lo hi)])
def DM (st:AH)(Q:EK)(x:PV):Prop :=
 match x with
 | .str z=>z.length≤100000∧Q (.int z.length) st
 | x=>∃xs,bt st x=some xs∧Q (.int xs.length) st
theorem rG {st:AH}{Q:EK}{x:PV}(h:DM st Q x):(∃z,x=.str z∧z.length≤100000∧Q (.int z.length) st)∨∃xs,bt st x=some xs∧Q (.int xs.length) st:=by
 cases x with|str z=>exact .inl ⟨z,rfl,h⟩|_=>exact .inr h
theorem yv {st:AH}{Q:EK}{x:PV}{xs:List PV}(e:bt st x=some xs)(h:Q (.int xs.length) st):DM st Q x:=by
 cases x with|str z=>cases e|_=>exact⟨xs,e,h⟩
def Bs (st:AH)(Q:EK)(x:PV):Prop :=
 match x with
 | .bl b=>Q (.int (b2z b)) st
 | .str z=>z.length≤640∧∃n,PySem.intText? z=some n∧Q (.int n) st
 | _=>False
theorem nw {st:AH}{Q:EK}{x:PV}(h:Bs st Q x):(∃b,x=.bl b∧Q (.int (b2z b)) st)∨∃z n,x=.str z∧z.length≤640∧PySem.intText? z=some n∧Q (.int n) st:=by
 cases x with|bl b=>exact .inl ⟨b,rfl,h⟩|str z=>exact .inr ⟨z,h.2.choose,rfl,h.1,h.2.choose_spec⟩|_=>exact False.elim h
inductive B where
 | len|max2|min2|divmod|int1|str1|tuple1|list1|all1|any1|abs1|sorted1|repr1|sortS|max1|sortD
 deriving DecidableEq
noncomputable def j6:List PV→Option (List Bool)
 | []=>some []
 | .bl b::r=>(j6 r).map (b::·)
 | _::_=>none
def pS (f:PV→Prop)(vs:List PV):Prop :=
 match vs with
 | [x]=>f x
 | _=>False
def Bi (f:PV→PV→Prop)(vs:List PV):Prop :=
 match vs with
 | [x,y]=>f x y
 | _=>False
def blW (f:Bool→Prop)(x:PV):Prop :=
 match x with
 | .bl b=>f b
 | _=>False
def c_ (b:B)(vs:List PV)(st:AH)(Q:EK):Prop :=
 match b with
 | .len=>pS (DM st Q) vs
 | .max2=>Bi (iiW fun i j=>Q (.int (if i<j then j else i)) st) vs
 | .min2=>Bi (iiW fun i j=>Q (.int (if j<i then j else i)) st) vs
 | .divmod=>Bi (iiW fun i j=>CBig j∧Q (.tup [.int (i/j),.int (i % j)]) st) vs
 | .int1=>pS (Bs st Q) vs
 | .str1=>False
 | .tuple1=>pS (fun x=>∃xs,bt st x=some xs∧Q (.tup xs) st) vs
 | .list1=>pS (fun x=>∃xs,bt st x=some xs∧Q (.ref st.length) (st++[.lst xs])) vs
 | .all1=>False
 | .any1=>False
 | .abs1=>False
 | .sorted1=>False
 | .repr1=>False
 | .sortS=>pS (fun x=>∃ss:List Str,bc st x=some (ss.map PV.str)∧ss.length<64∧∀ss':List Str,ss'.Perm ss→PyProof.Rows.sortedS ss'=true→Q (.ref st.length) (st++[.lst (ss'.map PV.str)])) vs
 | .max1=>False
 | .sortD=>pS (fun x=>∃n,x=.ref n∧∃kvs,(st[n]?=some (.dk kvs)∨st[n]?=some (.fz kvs))∧∃ss:List Str,kvs.map (·.1)=ss.map Sum.inr∧ss.length<64∧∀ss':List Str,ss'.Perm ss→PyProof.Rows.sortedS ss'=true→Q (.ref st.length) (st++[.lst (ss'.map PV.str)])) vs
inductive M where
 | append|pop0|extend|insert|count|index
 deriving DecidableEq
def rfW (f:Nat→Prop)(x:PV):Prop :=
 match x with
 | .ref n=>f n
 | _=>False
def qm (m:M)(x:PV)(vs:List PV)(st:AH)(Q:EK):Prop :=
 match m with
 | .append=>rfW (fun n=>pS (fun v=>∃xs,st[n]?=some (.lst xs)∧xs.length<100000∧Q .non (st.set n (.lst (xs++[v])))) vs) x
 | .pop0=>False
 | .extend=>False
 | .insert=>False
 | .count=>False
 | .index=>rfW (fun n=>pS (blW fun b=>∃xs bs,st[n]?=some (.lst xs)∧j6 xs=some bs∧bs.length<100000∧∃j:Nat,bs[j]?=some b∧(∀i,i<j→bs[i]?=some (!b))∧Q (.int j) st) vs) x
theorem bh {f:Int→Int→Prop}{x y:PV}(h:iiW f x y):∃i j,x=.int i∧y=.int j∧f i j:=by
 cases x with
 | int i =>
  cases y with
  | int j=>exact⟨i,j,rfl,rfl,h⟩
  | _=>exact False.elim h
 | _=>exact False.elim h
theorem aI {f:PV→Prop}{vs:List PV}(h:pS f vs):∃x,vs=[x]∧f x:=by
 cases vs with
 | nil=>exact False.elim h
 | cons x t =>
  cases t with
  | nil=>exact⟨x,rfl,h⟩
  | cons _ _=>exact False.elim h
theorem eS {f:PV→PV→Prop}{vs:List PV}(h:Bi f vs):∃x y,vs=[x,y]∧f x y:=by
 cases vs with
 | nil=>exact False.elim h
 | cons x t =>
  cases t with
  | nil=>exact False.elim h
  | cons y t =>
   cases t with
   | nil=>exact⟨x,y,rfl,h⟩
   | cons _ _=>exact False.elim h
theorem uW {f:Bool→Prop}{x:PV}(h:blW f x):∃b,x=.bl b∧f b:=by
 cases x with
 | bl b=>exact⟨b,rfl,h⟩
 | _=>exact False.elim h
theorem kU {f:Nat→Prop}{x:PV}(h:rfW f x):∃b,x=.ref b∧f b:=by
 cases x with
 | ref b=>exact⟨b,rfl,h⟩
 | _=>exact False.elim h
def eL (x:PV)(st:AH)(Q:BK):Prop :=
 match x with
 | .bl b=>Q b st
 | .non=>Q false st
 | .int i=>Q (i != 0) st
 | .str _=>False
 | x=>∃xs,bt st x=some xs∧Q (!xs.isEmpty) st
def Sub (st st':AH):Prop:=∀i,i<st.length→st'[i]?=st[i]?∨∃c,st'[i]?=some c∧c.bel 0=true
noncomputable def Tmp (st:AH)(Q:EK):EK:=fun v st'=>∃st1 g,st'=st1++g∧st1.length=st.length∧Sub st st1∧v.bel st.length=true∧Q v st1
noncomputable def Ret (st:AH)(Q:EK):EK:=fun v st'=>Q v st'∨Tmp st Q v st'
mutual
inductive E where
 | var (i:Nat)|int (i:Int)|bl (b:Bool)|non|str (x:Str)|gv (x:Str) (v:PV)
 | tup (es:Es)|lst (es:Es)|dct0|dct1 (k:Str) (i:Int)
 | bin (op:Operator) (a b:E)|neg (a:E)|not (a:E)
 | cmp (op:CmpOp) (a b:E)
 | bop (isAnd:Bool) (es:Es)
 | ite (c a b:E)
 | ix (a b:E)|sl (a:E) (lo hi:O)
 | call (f:Nat) (es:Es)
 | blt (b:B) (es:Es)
 | inst (a:E) (t:String)
 | met (m:M) (o:E) (es:Es)
 | comp (elt:E) (tg:Tg) (it:It) (ifs:Es) (nt:List Str) (caps:List Nat)
 | tmp (a:E)
 | bad
 | jrev (a:E)|part (a:E) (y:Str)|sset (a:E)|clr (a:E)|dcp (a:E)|dget (a b:E)
 | pcall (i:Nat) (e:E)|hm (e be:E) (caps:List Nat)
 | compK (elt:E) (tg:Tg) (wk:DW) (e:E) (ifs:Es) (nt:List Str) (caps:List Nat)
 | compD (kx vx:E) (tg:Tg) (wk:DW) (e:E) (ifs:Es) (nt:List Str) (caps:List Nat)
 | dcl (a:E)|eqd (ne:Bool) (a b:E)|dct2 (k v:E)
inductive Es where
 | nil|cons (e:E) (es:Es)
inductive O where
 | no|yes (e:E)
inductive It where
 | seq (e:E)|range1 (a:E)|range2 (a b:E)|zip (a b:E)|enum (a:E)|chars (e:E)|range3 (a b c:E)|zip3 (a b c:E)
inductive Tg where
 | name (i:Nat)|tup (ts:Tgs)|ltup (ts:Tgs)|sub (o i:E)
inductive Tgs where
 | nil|cons (t:Tg) (ts:Tgs)
end
noncomputable def Tgs.size:Tgs→Nat
 | .nil=>0
 | .cons _ ts=>ts.size+1
def oB (o i v:PV)(st:AH)(k:AH→Prop):Prop :=
 match o,i with
 | .ref n,.int j=>∃xs,st[n]?=some (.lst xs)∧∃q,ixN xs.length j=some q∧k (st.set n (.lst (xs.set q v)))
 | .ref n,.str z=>∃kvs,st[n]?=some (.dk kvs)∧kvs.length≤1000∧k (st.set n (.dk (ic kvs (.inr z) v)))
 | _,_=>False
noncomputable def dW (chk:AH→Prop)(body:PV→AH→(Option PV→AH→Prop)→Prop):List PV→List PV→AH→LK→Prop
 | [],acc,st,Q=>chk st∧Q acc st
 | x::xs,acc,st,Q=>chk st∧body x st fun o st'=>dW chk body xs (acc++o.toList) st' Q
noncomputable def zQ (st:AH):PV→AH→Prop
 | .ref n=>fun st'=>st'[n]?=st[n]?
 | _=>fun _=>True
noncomputable def di (lo:Int)(n:Nat):List PV:=(List.range n).map fun (i:Nat)=>PV.int (lo+(i:Int))
noncomputable def fP (z:Str):List PV:=z.cps.toList.map fun c=>.str ⟨#[c]⟩
noncomputable def C_ (g:PV→Bool)(xs:List PV):Nat→Nat→Nat→Nat
 | 0,lo,_=>lo
 | n+1,lo,hi=>if lo<hi then (if g (xs.getD ((lo+hi)/2) .non)=true then C_ g xs n ((lo+hi)/2+1) hi else C_ g xs n lo ((lo+hi)/2)) else lo
noncomputable def bsr (g:PV→Bool)(xs:List PV):Nat:=C_ g xs xs.length 0 xs.length
section
variable (Γ:Nat→FSp)
mutual
noncomputable def wpE:E→Fr→AH→EK→Prop
 | .var i,ρ,st,Q=>∃v,ρ[i]?=some (some v)∧Q v st
 | .int i,_,st,Q=>Q (.int i) st
 | .bl b,_,st,Q=>Q (.bl b) st
 | .non,_,st,Q=>Q .non st
 | .str x,_,st,Q=>Q (.str x) st
 | .gv _ v,_,st,Q=>Q v st
 | .tup es,ρ,st,Q=>bV es ρ st fun vs st1=>vs.length≤100000∧Q (.tup vs) st1
 | .lst es,ρ,st,Q=>bV es ρ st fun vs st1=>vs.length≤100000∧Q (.ref st1.length) (st1++[.lst vs])
 | .dct0,_,st,Q=>Q (.ref st.length) (st++[.dk []])
 | .dct1 _ _,_,_,_=>False
 | .bin op a b,ρ,st,Q=>wpE a ρ st fun x st1=>wpE b ρ st1 fun y st2=>hV op x y st2 Q
 | .neg a,ρ,st,Q=>wpE a ρ st fun x st1=>∃i,x=.int i∧Q (.int (-i)) st1
 | .not a,ρ,st,Q=>wpE a ρ st fun x st1=>∃c,x=.bl c∧Q (.bl (!c)) st1
 | .cmp op a b,ρ,st,Q=>wpE a ρ st fun x st1=>wpE b ρ st1 fun y st2=>c6 op x y st2 Q
 | .bop true es,ρ,st,Q=>p_ es ρ st Q
 | .bop false es,ρ,st,Q=>pL es ρ st Q
 | .ite c a b,ρ,st,Q=>wpT c ρ st fun k st1=>if k=true then wpE a ρ st1 Q else wpE b ρ st1 Q
 | .ix a b,ρ,st,Q=>wpE a ρ st fun x st1=>wpE b ρ st1 fun y st2=>ixW x y st2 Q
 | .sl a lo hi,ρ,st,Q=>wpE a ρ st fun x st1=>wpO lo ρ st1 fun l st2=>wpO hi ρ st2 fun h st3=>slW x l h st3 Q
 | .call f es,ρ,st,Q=>bV es ρ st fun vs st1=>Γ f vs st1 Q
 | .blt b es,ρ,st,Q=>bV es ρ st fun vs st1=>c_ b vs st1 Q
 | .inst a t,ρ,st,Q=>wpE a ρ st fun x st1=>∃n,dJ st1 x=some n∧Q (.bl (f8 t n)) st1
 | .met m o es,ρ,st,Q=>wpE o ρ st fun x st1=>(∃xs,bc st1 x=some xs)∧bV es ρ st1 fun vs st2=>qm m x vs st2 Q
 | .comp elt tg it ifs nt caps,ρ,st,Q=>ju it ρ st fun xs chk st1 =>
   xs.length<100000∧dW chk (fun x st2 k=>bX tg x (nt.map (fun _=>none)++caps.map fun i=>(ρ[i]?).join) st2 fun ρ' st3=>fO ifs ρ' st3 fun c st4 =>
    if c=true then wpE elt ρ' st4 fun v st5=>k (some v) st5 else k none st4) xs [] st1 fun vs st2=>Q (.ref st2.length) (st2++[.lst vs])
 | .tmp a,ρ,st,Q=>wpE a ρ st (Tmp st Q)
 | .bad,_,_,_=>False
 | .jrev _,_,_,_=>False
 | .part _ _,_,_,_=>False
 | .dget a b,ρ,st,Q=>wpE a ρ st fun x st1=>(∃n kvs,x=.ref n∧st1[n]?=some (.dk kvs))∧wpE b ρ st1 fun y st2=>∃n,x=.ref n∧∃z,y=.str z∧∃kvs,st2[n]?=some (.dk kvs)∧Q ((bd kvs (.inr z)).getD .non) st2
 | .dcp a,ρ,st,Q=>wpE a ρ st fun x st1=>∃n,x=.ref n∧∃kvs,st1[n]?=some (.dk kvs)∧Q (.ref st1.length) (st1++[.dk kvs])
 | .clr _,_,_,_=>False
 | .sset _,_,_,_=>False
 | .pcall _ _,_,_,_=>False
 | .hm _ _ _,_,_,_=>False
 | .compK _ _ _ _ _ _ _,_,_,_=>False
 | .compD _ _ _ _ _ _ _ _,_,_,_=>False
 | .dct2 k v,ρ,st,Q=>wpE k ρ st fun x st1=>∃z,x=.str z∧wpE v ρ st1 fun y st2=>Q (.ref st2.length) (st2++[.dk [(.inr z,y)]])
 | .dcl _,_,_,_=>False
 | .eqd ne a b,ρ,st,Q=>wpE a ρ st fun x st1=>wpE b ρ st1 fun y st2=>(nA st2 x y∧Q (.bl (!ne)) st2)∨(me st2 x y∧Q (.bl ne) st2)
noncomputable def bV:Es→Fr→AH→LK→Prop
 | .nil,_,st,Q=>Q [] st
 | .cons e es,ρ,st,Q=>wpE e ρ st fun x st1=>bV es ρ st1 fun xs st2=>Q (x::xs) st2
noncomputable def wpO:O→Fr→AH→(Option Int→AH→Prop)→Prop
 | .no,_,st,Q=>Q none st
 | .yes e,ρ,st,Q=>wpE e ρ st fun x st1=>∃i,x=.int i∧Q (some i) st1
noncomputable def wpT:E→Fr→AH→BK→Prop
 | .bop true es,ρ,st,Q=>fO es ρ st Q
 | .bop false es,ρ,st,Q=>oW es ρ st Q
 | .not a,ρ,st,Q=>wpT a ρ st fun c st1=>Q (!c) st1
 | .cmp op a b,ρ,st,Q=>wpE a ρ st fun x st1=>wpE b ρ st1 fun y st2=>c6 op x y st2 fun v st3=>∃c,v=.bl c∧Q c st3
 | .var i,ρ,st,Q=>∃v,ρ[i]?=some (some v)∧eL v st Q
 | .call f es,ρ,st,Q=>bV es ρ st fun vs st1=>Γ f vs st1 fun v st2=>eL v st2 Q
 | .blt b es,ρ,st,Q=>bV es ρ st fun vs st1=>c_ b vs st1 fun v st2=>eL v st2 Q
 | .inst a t,ρ,st,Q=>wpE a ρ st fun x st1=>∃n,dJ st1 x=some n∧Q (f8 t n) st1
 | .tmp a,ρ,st,Q=>wpE a ρ st (Tmp st fun v st1=>eL v st1 Q)
 | .ix a b,ρ,st,Q=>wpE a ρ st fun x st1=>wpE b ρ st1 fun y st2=>ixW x y st2 fun v st3=>eL v st3 Q
 | .pcall _ _,_,_,_=>False
 | .eqd ne a b,ρ,st,Q=>wpE a ρ st fun x st1=>wpE b ρ st1 fun y st2=>(nA st2 x y∧Q (!ne) st2)∨(me st2 x y∧Q ne st2)
 | _,_,_,_=>False
noncomputable def p_:Es→Fr→AH→EK→Prop
 | .nil,_,_,_=>False
 | .cons e .nil,ρ,st,Q=>wpE e ρ st Q
 | .cons e es,ρ,st,Q=>wpE e ρ st fun x st1=>∃c,x=.bl c∧if c=true then p_ es ρ st1 Q else Q (.bl false) st1
noncomputable def pL:Es→Fr→AH→EK→Prop
 | .nil,_,_,_=>False
 | .cons e .nil,ρ,st,Q=>wpE e ρ st Q
 | .cons e es,ρ,st,Q=>wpE e ρ st fun x st1=>∃c,x=.bl c∧if c=true then Q (.bl true) st1 else pL es ρ st1 Q
noncomputable def fO:Es→Fr→AH→BK→Prop
 | .nil,_,st,Q=>Q true st
 | .cons e .nil,ρ,st,Q=>wpT e ρ st Q
 | .cons e es,ρ,st,Q=>wpT e ρ st fun c st1=>if c=true then fO es ρ st1 Q else Q false st1
noncomputable def oW:Es→Fr→AH→BK→Prop
 | .nil,_,st,Q=>Q false st
 | .cons e .nil,ρ,st,Q=>wpT e ρ st Q
 | .cons e es,ρ,st,Q=>wpT e ρ st fun c st1=>if c=true then Q true st1 else oW es ρ st1 Q
noncomputable def ju:It→Fr→AH→(List PV→(AH→Prop)→AH→Prop)→Prop
 | .seq e,ρ,st,Q=>wpE e ρ st fun x st1=>∃xs,bt st1 x=some xs∧Q xs (zQ st1 x) st1
 | .range1 a,ρ,st,Q=>wpE a ρ st fun x st1=>∃j,x=.int j∧-(2 ^ 62)≤j∧j<2 ^ 62∧Q (di 0 j.toNat) (fun _=>True) st1
 | .range2 _ _,_,_,_=>False
 | .zip _ _,_,_,_=>False
 | .zip3 _ _ _,_,_,_=>False
 | .enum _,_,_,_=>False
 | .chars a,ρ,st,Q=>wpE a ρ st fun x st1=>∃z,x=.str z∧Q (fP z) (fun _=>True) st1
 | .range3 _ _ _,_,_,_=>False
noncomputable def bX:Tg→PV→Fr→AH→(Fr→AH→Prop)→Prop
 | .name i,v,ρ,st,Q=>Q (ρ.set i (some v)) st
 | .tup ts,v,ρ,st,Q=>∃xs,v=.tup xs∧xs.length=ts.size∧f6 ts xs ρ st Q
 | .ltup _,_,_,_,_=>False
 | .sub o i,v,ρ,st,Q=>wpE o ρ st fun x st1=>wpE i ρ st1 fun y st2=>oB x y v st2 fun st3=>Q ρ st3
noncomputable def f6:Tgs→List PV→Fr→AH→(Fr→AH→Prop)→Prop
 | .nil,vs,ρ,st,Q=>vs=[]∧Q ρ st
 | .cons t ts,vs,ρ,st,Q=>∃v r,vs=v::r∧bX t v ρ st fun ρ' st'=>f6 ts r ρ' st' Q
end
end
mutual
inductive S where
 | set (t:Tg) (e:E)|par (i j:Nat) (a b:E)|aug (i:Nat) (op:Operator) (e:E)|expr (e:E)|ret (e:E)|retN
 | ifS (c:E) (a b:Ss)|whileS (c:E) (b:Ss)|forS (t:Tg) (it:It) (b:Ss)|pass|brk|cont|bad|set2 (i j:Nat) (e:E)|forK (t:Tg) (wk:DW) (e:E) (b:Ss)
inductive Ss where
 | nil|cons (s:S) (ss:Ss)
end
structure aG where
 nx:Fr→AH→Prop
 rt:EK
 bk:Fr→AH→Prop:=fun _ _=>False
 ct:Fr→AH→Prop:=fun _ _=>False
noncomputable def fzD (n:Nat)(kvs:List (Key × PV))(D:aG):aG:={ nx:=fun ρ st=>st[n]?=some (.fz kvs)∧D.nx ρ (st.set n (.dk kvs)),rt:=fun v st=>st[n]?=some (.fz kvs)∧D.rt v (st.set n (.dk kvs)) }
noncomputable def kN (chk:AH→Prop)(body:PV→Fr→AH→aG→Prop)(D:aG):List PV→Fr→AH→Prop
 | [],ρ,st=>chk st∧D.nx ρ st
 | x::xs,ρ,st=>chk st∧body x ρ st { nx:=kN chk body D xs,ct:=kN chk body D xs,bk:=D.nx,rt:=D.rt }
noncomputable def dN (c:Fr→AH→BK→Prop)(body:Fr→AH→aG→Prop)(D:aG):Nat→Fr→AH→Prop
 | 0,_,_=>False
 | n+1,ρ,st=>c ρ st fun k st1=>if k=true then body ρ st1 { nx:=dN c body D n,ct:=dN c body D n,bk:=D.nx,rt:=D.rt } else D.nx ρ st1
section
variable (Γ:Nat→FSp)
mutual
noncomputable def wpS:S→Fr→AH→aG→Prop
 | .set t e,ρ,st,D=>wpE Γ e ρ st fun v st1=>bX Γ t v ρ st1 D.nx
 | .par i j a b,ρ,st,D=>wpE Γ a ρ st fun x st1=>wpE Γ b ρ st1 fun y st2=>D.nx ((ρ.set i (some x)).set j (some y)) st2
 | .aug _ _ _,_,_,_=>False
 | .expr e,ρ,st,D=>wpE Γ e ρ st fun _ st1=>D.nx ρ st1
 | .ret e,ρ,st,D=>wpE Γ e ρ st D.rt
 | .retN,_,st,D=>D.rt .non st
 | .ifS c a b,ρ,st,D=>wpT Γ c ρ st fun k st1=>if k=true then aq a ρ st1 D else aq b ρ st1 D
 | .whileS c b,ρ,st,D=>∃n,dN (wpT Γ c) (aq b) D n ρ st
 | .forS t it b,ρ,st,D=>ju Γ it ρ st fun xs chk st1=>kN chk (fun x ρ' st' D'=>bX Γ t x ρ' st' fun ρ2 st2=>aq b ρ2 st2 D') D xs ρ st1
 | .pass,ρ,st,D=>D.nx ρ st
 | .brk,ρ,st,D=>D.bk ρ st
 | .cont,ρ,st,D=>D.ct ρ st
 | .bad,_,_,_=>False
 | .forK t wk e b,ρ,st,D=>wpE Γ e ρ st fun x st1=>∃n,x=.ref n∧∃kvs,st1[n]?=some (.dk kvs)∧kN (fun _=>True) (fun x ρ' st' D'=>bX Γ t x ρ' st' fun ρ2 st2=>aq b ρ2 st2 D') (fzD n kvs D) (cw wk kvs) ρ (st1.set n (.fz kvs))
 | .set2 i j e,ρ,st,D=>wpE Γ e ρ st fun v st1=>D.nx ((ρ.set i (some v)).set j (some v)) st1
noncomputable def aq:Ss→Fr→AH→aG→Prop
 | .nil,ρ,st,D=>D.nx ρ st
 | .cons s ss,ρ,st,D=>wpS s ρ st { D with nx:=fun ρ' st'=>aq ss ρ' st' D }
end
end
section
variable {Γ:Nat→FSp}{ρ:Fr}{st:AH}{Q:EK}{D:aG}{a b c:E}{es:Es}
theorem t5:aq Γ .nil ρ st D=D.nx ρ st:=rfl
theorem sM {s:S}:aq Γ (.cons s .nil) ρ st D=wpS Γ s ρ st D:=rfl
theorem qT {t:Tg}:wpS Γ (.set t a) ρ st D=wpE Γ a ρ st fun v st1=>bX Γ t v ρ st1 D.nx:=rfl
theorem xW {i j:Nat}:wpS Γ (.par i j a b) ρ st D=wpE Γ a ρ st fun x st1=>wpE Γ b ρ st1 fun y st2=>D.nx ((ρ.set i (some x)).set j (some y)) st2:=rfl
theorem rV:wpS Γ (.expr a) ρ st D=wpE Γ a ρ st fun _ st1=>D.nx ρ st1:=rfl
theorem y7:wpS Γ (.ret a) ρ st D=wpE Γ a ρ st fun v st1=>D.rt v st1:=rfl
theorem uk:wpS Γ .retN ρ st D=D.rt .non st:=rfl
theorem CU {x y:Ss}:wpS Γ (.ifS c x y) ρ st D=wpT Γ c ρ st fun k st1=>if k=true then aq Γ x ρ st1 D else aq Γ y ρ st1 D:=rfl
theorem t9:wpS Γ .pass ρ st D=D.nx ρ st:=rfl
theorem sj {i j:Nat}:wpS Γ (.set2 i j a) ρ st D=wpE Γ a ρ st fun v st1=>D.nx ((ρ.set i (some v)).set j (some v)) st1:=rfl
theorem yQ:wpS Γ .brk ρ st D=D.bk ρ st:=rfl
theorem t7:wpS Γ .cont ρ st D=D.ct ρ st:=rfl
theorem x_ {i:Nat}:wpE Γ (.var i) ρ st Q=∃v,ρ[i]?=some (some v)∧Q v st:=rfl
theorem yL {i:Int}:wpE Γ (.int i) ρ st Q=Q (.int i) st:=rfl
theorem CA {i:Bool}:wpE Γ (.bl i) ρ st Q=Q (.bl i) st:=rfl
theorem zG:wpE Γ .non ρ st Q=Q .non st:=rfl
theorem yF {i:Str}:wpE Γ (.str i) ρ st Q=Q (.str i) st:=rfl
theorem Cc {x:Str}{v:PV}:wpE Γ (.gv x v) ρ st Q=Q v st:=rfl
theorem zw:wpE Γ (.tup es) ρ st Q=bV Γ es ρ st fun vs st1=>vs.length≤100000∧Q (.tup vs) st1:=rfl
theorem zv:wpE Γ (.lst es) ρ st Q=bV Γ es ρ st fun vs st1=>vs.length≤100000∧Q (.ref st1.length) (st1++[.lst vs]):=rfl
theorem sy:wpE Γ .dct0 ρ st Q=Q (.ref st.length) (st++[.dk []]):=rfl
theorem xf {op:Operator}:wpE Γ (.bin op a b) ρ st Q=wpE Γ a ρ st fun x st1=>wpE Γ b ρ st1 fun y st2=>hV op x y st2 Q:=rfl
theorem wI:wpE Γ (.neg a) ρ st Q=wpE Γ a ρ st fun x st1=>∃i,x=.int i∧Q (.int (-i)) st1:=rfl
theorem yS:wpE Γ (.not a) ρ st Q=wpE Γ a ρ st fun x st1=>∃c,x=.bl c∧Q (.bl (!c)) st1:=rfl
theorem wH {op:CmpOp}:wpE Γ (.cmp op a b) ρ st Q=wpE Γ a ρ st fun x st1=>wpE Γ b ρ st1 fun y st2=>c6 op x y st2 Q:=rfl
theorem zJ:wpE Γ (.bop true es) ρ st Q=p_ Γ es ρ st Q:=rfl
theorem Cr:wpE Γ (.bop false es) ρ st Q=pL Γ es ρ st Q:=rfl
theorem xN:wpE Γ (.ite c a b) ρ st Q=wpT Γ c ρ st fun k st1=>if k=true then wpE Γ a ρ st1 Q else wpE Γ b ρ st1 Q:=rfl
theorem BW:wpE Γ (.ix a b) ρ st Q=wpE Γ a ρ st fun x st1=>wpE Γ b ρ st1 fun y st2=>ixW x y st2 Q:=rfl
theorem C2 {lo hi:O}:wpE Γ (.sl a lo hi) ρ st Q=wpE Γ a ρ st fun x st1=>wpO Γ lo ρ st1 fun l st2=>wpO Γ hi ρ st2 fun h st3=>slW x l h st3 Q:=rfl
theorem ut {f:Nat}:wpE Γ (.call f es) ρ st Q=bV Γ es ρ st fun vs st1=>Γ f vs st1 Q:=rfl
theorem xz {f:B}:wpE Γ (.blt f es) ρ st Q=bV Γ es ρ st fun vs st1=>c_ f vs st1 Q:=rfl
theorem sQ {t:String}:wpE Γ (.inst a t) ρ st Q=wpE Γ a ρ st fun x st1=>∃n,dJ st1 x=some n∧Q (.bl (f8 t n)) st1:=rfl
theorem zU {m:M}:wpE Γ (.met m a es) ρ st Q=wpE Γ a ρ st fun x st1=>(∃xs,bc st1 x=some xs)∧bV Γ es ρ st1 fun vs st2=>qm m x vs st2 Q:=rfl
theorem uh:wpE Γ (.dget a b) ρ st Q=wpE Γ a ρ st fun x st1=>(∃n kvs,x=.ref n∧st1[n]?=some (.dk kvs))∧wpE Γ b ρ st1 fun y st2=>∃n,x=.ref n∧∃z,y=.str z∧∃kvs,st2[n]?=some (.dk kvs)∧Q ((bd kvs (.inr z)).getD .non) st2:=rfl
theorem zO:wpE Γ (.dcp a) ρ st Q=wpE Γ a ρ st fun x st1=>∃n,x=.ref n∧∃kvs,st1[n]?=some (.dk kvs)∧Q (.ref st1.length) (st1++[.dk kvs]):=rfl
theorem sZ:wpE Γ (.dct2 a b) ρ st Q=wpE Γ a ρ st fun x st1=>∃z,x=.str z∧wpE Γ b ρ st1 fun y st2=>Q (.ref st2.length) (st2++[.dk [(.inr z,y)]]):=rfl
theorem xn {ne:Bool}:wpE Γ (.eqd ne a b) ρ st Q=wpE Γ a ρ st fun x st1=>wpE Γ b ρ st1 fun y st2=>(nA st2 x y∧Q (.bl (!ne)) st2)∨(me st2 x y∧Q (.bl ne) st2):=rfl
theorem wE:wpE Γ (.tmp a) ρ st Q=wpE Γ a ρ st fun v st1=>Tmp st Q v st1:=rfl
variable {LQ:LK}{BQ:BK}{e e2:E}{i:Nat}{v:PV}{FQ:Fr→AH→Prop}{IQ:List PV→(AH→Prop)→AH→Prop}
theorem rQ:bV Γ .nil ρ st LQ=LQ [] st:=rfl
theorem oJ:bV Γ (.cons e es) ρ st LQ=wpE Γ e ρ st fun x st1=>bV Γ es ρ st1 fun xs st2=>LQ (x::xs) st2:=rfl
theorem DN {OQ:Option Int→AH→Prop}:wpO Γ .no ρ st OQ=OQ none st:=rfl
theorem zV {OQ:Option Int→AH→Prop}:wpO Γ (.yes e) ρ st OQ=wpE Γ e ρ st fun x st1=>∃i,x=.int i∧OQ (some i) st1:=rfl
theorem ze:wpT Γ (.bop true es) ρ st BQ=fO Γ es ρ st BQ:=rfl
theorem Do:wpT Γ (.bop false es) ρ st BQ=oW Γ es ρ st BQ:=rfl
theorem yB:wpT Γ (.not a) ρ st BQ=wpT Γ a ρ st fun c st1=>BQ (!c) st1:=rfl
theorem wz {op:CmpOp}:wpT Γ (.cmp op a b) ρ st BQ=wpE Γ a ρ st fun x st1=>wpE Γ b ρ st1 fun y st2=>c6 op x y st2 fun v st3=>∃c,v=.bl c∧BQ c st3:=rfl
theorem za:wpT Γ (.var i) ρ st BQ=∃v,ρ[i]?=some (some v)∧eL v st BQ:=rfl
theorem t_ {f:Nat}:wpT Γ (.call f es) ρ st BQ=bV Γ es ρ st fun vs st1=>Γ f vs st1 fun v st2=>eL v st2 BQ:=rfl
theorem yJ {f:B}:wpT Γ (.blt f es) ρ st BQ=bV Γ es ρ st fun vs st1=>c_ f vs st1 fun v st2=>eL v st2 BQ:=rfl
theorem ur {t:String}:wpT Γ (.inst a t) ρ st BQ=wpE Γ a ρ st fun x st1=>∃n,dJ st1 x=some n∧BQ (f8 t n) st1:=rfl
theorem yp {ne:Bool}:wpT Γ (.eqd ne a b) ρ st BQ=wpE Γ a ρ st fun x st1=>wpE Γ b ρ st1 fun y st2=>(nA st2 x y∧BQ (!ne) st2)∨(me st2 x y∧BQ ne st2):=rfl
theorem zu:wpT Γ (.tmp a) ρ st BQ=wpE Γ a ρ st fun v st1=>Tmp st (fun v st1=>eL v st1 BQ) v st1:=rfl
theorem Dx:wpT Γ (.ix a b) ρ st BQ=wpE Γ a ρ st fun x st1=>wpE Γ b ρ st1 fun y st2=>ixW x y st2 fun v st3=>eL v st3 BQ:=rfl
theorem sH:p_ Γ (.cons e .nil) ρ st Q=wpE Γ e ρ st Q:=rfl
theorem oD:p_ Γ (.cons e (.cons e2 es)) ρ st Q=wpE Γ e ρ st fun x st1=>∃c,x=.bl c∧if c=true then p_ Γ (.cons e2 es) ρ st1 Q else Q (.bl false) st1:=rfl
theorem sW:pL Γ (.cons e .nil) ρ st Q=wpE Γ e ρ st Q:=rfl
theorem oQ:pL Γ (.cons e (.cons e2 es)) ρ st Q=wpE Γ e ρ st fun x st1=>∃c,x=.bl c∧if c=true then Q (.bl true) st1 else pL Γ (.cons e2 es) ρ st1 Q:=rfl
theorem oN:fO Γ .nil ρ st BQ=BQ true st:=rfl
theorem rT:fO Γ (.cons e .nil) ρ st BQ=wpT Γ e ρ st BQ:=rfl
theorem o3:fO Γ (.cons e (.cons e2 es)) ρ st BQ=wpT Γ e ρ st fun c st1=>if c=true then fO Γ (.cons e2 es) ρ st1 BQ else BQ false st1:=rfl
theorem sh:oW Γ (.cons e .nil) ρ st BQ=wpT Γ e ρ st BQ:=rfl
theorem oP:oW Γ (.cons e (.cons e2 es)) ρ st BQ=wpT Γ e ρ st fun c st1=>if c=true then BQ true st1 else oW Γ (.cons e2 es) ρ st1 BQ:=rfl
theorem rR:ju Γ (.seq e) ρ st IQ=wpE Γ e ρ st fun x st1=>∃xs,bt st1 x=some xs∧IQ xs (zQ st1 x) st1:=rfl
theorem w9:ju Γ (.range1 a) ρ st IQ=wpE Γ a ρ st fun x st1=>∃j,x=.int j∧-(2 ^ 62)≤j∧j<2 ^ 62∧IQ (di 0 j.toNat) (fun _=>True) st1:=rfl
theorem lX:ju Γ (.chars a) ρ st IQ=wpE Γ a ρ st fun x st1=>∃z,x=.str z∧IQ (fP z) (fun _=>True) st1:=rfl
theorem fo:bX Γ (.name i) v ρ st FQ=FQ (ρ.set i (some v)) st:=rfl
theorem jd {ts:Tgs}:bX Γ (.tup ts) v ρ st FQ=∃xs,v=.tup xs∧xs.length=ts.size∧f6 Γ ts xs ρ st FQ:=rfl
theorem jw:bX Γ (.sub a b) v ρ st FQ=wpE Γ a ρ st fun x st1=>wpE Γ b ρ st1 fun y st2=>oB x y v st2 fun st3=>FQ ρ st3:=rfl
theorem pK {vs:List PV}:f6 Γ .nil vs ρ st FQ=(vs=[]∧FQ ρ st):=rfl
theorem lT {t:Tg}{ts:Tgs}{vs:List PV}:f6 Γ (.cons t ts) vs ρ st FQ=∃v r,vs=v::r∧bX Γ t v ρ st fun ρ' st'=>f6 Γ ts r ρ' st' FQ:=rfl
theorem uA:Tgs.size .nil=0:=id rfl
theorem pB {t:Tg}{ts:Tgs}:Tgs.size (.cons t ts)=ts.size+1:=id rfl
end
end FW
namespace FW
open PySem L2 HX
theorem rc {st:AH}{x y:PV}{k k':Bool→Prop}(h:∀b,k b→k' b)(q:eqW st x y k):eqW st x y k':=by
 unfold eqW at q ⊢
 split at q
 ·exact h _ q
 ·exact h _ q
 ·exact h _ q
 ·obtain⟨d,e,h1,h2,h3,h4,q⟩:=q
  exact⟨d,e,h1,h2,h3,h4,h _ q⟩
theorem nL {op:Operator}{x y:PV}{st:AH}{Q Q':EK}(h:∀v st,Q v st→Q' v st)(q:hV op x y st Q):hV op x y st Q':=by
 cases op with
 | Add =>
  cases x with
  | int i =>
   cases y with
   | int j=>exact h _ _ q
   | _=>exact False.elim q
  | ref n =>
   cases y with
   | ref k=>obtain⟨xs,ys,h1,h2,h3,q⟩:=q;exact⟨xs,ys,h1,h2,h3,h _ _ q⟩
   | _=>exact False.elim q
  | tup xs =>
   cases y with
   | tup ys=>exact⟨q.1,h _ _ q.2⟩
   | _=>exact False.elim q
  | str a =>
   cases y with
   | str b=>exact⟨q.1,h _ _ q.2⟩
   | _=>exact False.elim q
  | _=>exact False.elim q
 | Mult =>
  cases x with
  | int i =>
   cases y with
   | int j=>exact⟨q.1,h _ _ q.2⟩
   | _=>exact False.elim q
  | ref n =>
   cases y with
   | int k=>obtain⟨xs,h1,h2,h3,h4,q⟩:=q;exact⟨xs,h1,h2,h3,h4,h _ _ q⟩
   | _=>exact False.elim q
  | _=>exact False.elim q
 | Sub=>obtain⟨i,j,rfl,rfl,q⟩:=bh q;exact h _ _ q
 | FloorDiv=>obtain⟨i,j,rfl,rfl,q⟩:=bh q;exact⟨q.1,h _ _ q.2⟩
 | Mod=>obtain⟨i,j,rfl,rfl,q⟩:=bh q;exact⟨q.1,h _ _ q.2⟩
 | Pow=>obtain⟨i,j,rfl,rfl,q⟩:=bh q;exact⟨q.1,h _ _ q.2⟩
 | _=>exact False.elim q
theorem qi {a:Str}{n:Nat}{st:AH}{k k':Bool→Prop}(h:∀b,k b→k' b)(q:inR a n st k):inR a n st k':=by
 rcases q with⟨ns,e,q⟩|⟨kvs,e,q⟩
 ·exact .inl ⟨ns,e,h _ q⟩
 ·exact .inr ⟨kvs,e,h _ q⟩
theorem gm {op:CmpOp}{x y:PV}{st:AH}{Q Q':EK}(h:∀v st,Q v st→Q' v st)(q:c6 op x y st Q):c6 op x y st Q':=by
 unfold c6 at q ⊢
 split at q
 ·exact rc (fun _=>h _ _) q
 ·exact rc (fun _=>h _ _) q
 ·split at q <;> first|exact h _ _ q|exact q
 ·split at q <;> first|exact h _ _ q|exact q
 ·split at q <;> first|exact h _ _ q|exact q
 ·split at q <;> first|exact h _ _ q|exact q
 ·split at q <;> first|exact h _ _ q|exact q
 ·split at q <;> first|exact h _ _ q|exact q
 ·split at q <;> first|exact h _ _ q|(obtain⟨ns,e,q⟩:=q;exact⟨ns,e,h _ _ q⟩)|exact qi (fun _=>h _ _) q|exact q
 ·split at q <;> first|(obtain⟨ns,e,q⟩:=q;exact⟨ns,e,h _ _ q⟩)|exact qi (fun _=>h _ _) q|exact q
theorem iP {x y:PV}{st:AH}{Q Q':EK}(h:∀v st,Q v st→Q' v st)(q:ixW x y st Q):ixW x y st Q':=by
 cases y with
 | int i =>
  rcases uI q with⟨z,c,rfl,h1,h2,q⟩|⟨xs,v,h1,h2,q⟩
  ·exact⟨h1,c,h2,h _ _ q⟩
  ·exact Ar h1 h2 (h _ _ q)
 | str z=>obtain⟨n,kvs,v,rfl,h1,h2,q⟩:=u_ q;exact⟨kvs,v,h1,h2,h _ _ q⟩
 | _=>exact q
theorem qQ {x:PV}{lo hi:Option Int}{st:AH}{Q Q':EK}(h:∀v st,Q v st→Q' v st)(q:slW x lo hi st Q):slW x lo hi st Q':=by
 cases x with
 | tup xs=>exact h _ _ q
 | str z=>exact⟨q.1,h _ _ q.2⟩
 | _=>obtain⟨xs,e,q⟩:=q;exact⟨xs,e,h _ _ q⟩
theorem gy {b:B}{vs:List PV}{st:AH}{Q Q':EK}(h:∀v st,Q v st→Q' v st)(q:c_ b vs st Q):c_ b vs st Q':=by
 cases b with
 | len =>
  obtain⟨x,rfl,q⟩:=aI q
  rcases rG q with⟨z,rfl,h1,q⟩|⟨xs,e,q⟩
  ·exact⟨h1,h _ _ q⟩
  ·exact yv e (h _ _ q)
 | max2=>obtain⟨x,y,rfl,q⟩:=eS q;obtain⟨i,j,rfl,rfl,q⟩:=bh q;exact h _ _ q
 | min2=>obtain⟨x,y,rfl,q⟩:=eS q;obtain⟨i,j,rfl,rfl,q⟩:=bh q;exact h _ _ q
 | divmod=>obtain⟨x,y,rfl,q⟩:=eS q;obtain⟨i,j,rfl,rfl,q⟩:=bh q;exact⟨q.1,h _ _ q.2⟩
 | int1 =>
  obtain⟨x,rfl,q⟩:=aI q
  rcases nw q with⟨b,rfl,q⟩|⟨z,n,rfl,h1,h2,q⟩
  ·exact h _ _ q
  ·exact⟨h1,n,h2,h _ _ q⟩
 | str1=>exact False.elim q
 | tuple1=>obtain⟨x,rfl,xs,h1,q⟩:=aI q;exact⟨xs,h1,h _ _ q⟩
 | list1=>obtain⟨x,rfl,xs,h1,q⟩:=aI q;exact⟨xs,h1,h _ _ q⟩
 | all1=>exact False.elim q
 | any1=>exact False.elim q
 | abs1=>exact False.elim q
 | sortS=>obtain⟨x,rfl,xs,h1,h2,q⟩:=aI q;exact⟨xs,h1,h2,fun z p s=>h _ _ (q z p s)⟩
 | sortD=>obtain⟨x,rfl,n,e,kvs,h1,ss,h2,h3,q⟩:=aI q;exact⟨n,e,kvs,h1,ss,h2,h3,fun z p s=>h _ _ (q z p s)⟩
 | max1=>exact False.elim q
 | sorted1=>exact False.elim q
 | repr1=>exact False.elim q
theorem gp {m:M}{x:PV}{vs:List PV}{st:AH}{Q Q':EK}(h:∀v st,Q v st→Q' v st)(q:qm m x vs st Q):qm m x vs st Q':=by
 cases m with
 | append=>obtain⟨n,rfl,q⟩:=kU q;obtain⟨v,rfl,xs,h1,h2,q⟩:=aI q;exact⟨xs,h1,h2,h _ _ q⟩
 | pop0=>exact False.elim q
 | extend=>exact False.elim q
 | insert=>exact False.elim q
 | count=>exact False.elim q
 | index=>obtain⟨n,rfl,q⟩:=kU q;obtain⟨v,rfl,q⟩:=aI q;obtain⟨b,rfl,xs,bs,h1,h2,h3,j,h4,h5,q⟩:=uW q;exact⟨xs,bs,h1,h2,h3,j,h4,h5,h _ _ q⟩
theorem a_ {x:PV}{st:AH}{Q Q':BK}(h:∀v st,Q v st→Q' v st)(q:eL x st Q):eL x st Q':=by
 unfold eL at q ⊢
 split at q <;> first
  | exact h _ _ q
  | exact q.elim
  | (obtain⟨xs,h1,q⟩:=q;exact⟨xs,h1,h _ _ q⟩)
theorem nX {o i v:PV}{st:AH}{k k':AH→Prop}(h:∀st,k st→k' st)(q:oB o i v st k):oB o i v st k':=by
 unfold oB at q ⊢
 split at q
 ·obtain⟨xs,h1,j,h2,q⟩:=q
  exact⟨xs,h1,j,h2,h _ q⟩
 ·obtain⟨xs,h1,h2,q⟩:=q
  exact⟨xs,h1,h2,h _ q⟩
 ·exact q
theorem rM {st0:AH}{Q Q':EK}(h:∀v st,Q v st→Q' v st){v:PV}{st:AH}(q:Tmp st0 Q v st):Tmp st0 Q' v st:=by
 obtain⟨st1,g,h1,h2,h3,h4,q⟩:=q
 exact⟨st1,g,h1,h2,h3,h4,h _ _ q⟩
theorem fA {chk:AH→Prop}{body body':PV→AH→(Option PV→AH→Prop)→Prop}(hb:∀x st k k',(∀o st,k o st→k' o st)→body x st k→body' x st k') :
  ∀ {xs acc:List PV}{st:AH}{Q Q':LK},(∀v st,Q v st→Q' v st)→dW chk body xs acc st Q→dW chk body' xs acc st Q'
 | [],acc,st,Q,Q',h,q=>⟨q.1,h _ _ q.2⟩
 | x::xs,acc,st,Q,Q',h,q=>⟨q.1,hb _ _ _ _ (fun o st' z=>fA hb h z) q.2⟩
section
variable {Γ:Nat→FSp}
def aW (Γ:Nat→FSp):Prop:=∀f vs st Q Q',(∀v st,Q v st→Q' v st)→Γ f vs st Q→Γ f vs st Q'
mutual
theorem aa (G:aW Γ):∀(e:E) {ρ:Fr}{st:AH}{Q Q':EK},(∀v st,Q v st→Q' v st)→wpE Γ e ρ st Q→wpE Γ e ρ st Q'
 | .var i,ρ,st,Q,Q',h,q=>by
  skip
  obtain⟨v,h1,q⟩:=q
  exact⟨v,h1,h _ _ q⟩
 | .int i,ρ,st,Q,Q',h,q=>by exact h _ _ q
 | .bl i,ρ,st,Q,Q',h,q=>by exact h _ _ q
 | .non,ρ,st,Q,Q',h,q=>by exact h _ _ q
 | .str i,ρ,st,Q,Q',h,q=>by exact h _ _ q
 | .gv _ i,ρ,st,Q,Q',h,q=>by exact h _ _ q
 | .tup es,ρ,st,Q,Q',h,q=>by exact ay G es (fun vs st1 z=>⟨z.1,h _ _ z.2⟩) q
 | .lst es,ρ,st,Q,Q',h,q=>by exact ay G es (fun vs st1 z=>⟨z.1,h _ _ z.2⟩) q
 | .dct0,ρ,st,Q,Q',h,q=>by exact h _ _ q
 | .bad,ρ,st,Q,Q',h,q=>False.elim q
 | .jrev _,ρ,st,Q,Q',h,q=>False.elim q
 | .dget a b,ρ,st,Q,Q',h,q=>by exact aa G a (fun x st1 z=>⟨z.1,aa G b (fun y st2 z=>let ⟨n,e,u,e2,kvs,h1,z⟩:=z;⟨n,e,u,e2,kvs,h1,h _ _ z⟩) z.2⟩) q
 | .dcp a,ρ,st,Q,Q',h,q=>by
  refine aa G a (fun x st1 z=>?_) q
  obtain⟨n,e,kvs,h1,z⟩:=z
  exact⟨n,e,kvs,h1,h _ _ z⟩
 | .clr _,ρ,st,Q,Q',h,q=>False.elim q
 | .sset _,ρ,st,Q,Q',h,q=>False.elim q
 | .part _ _,ρ,st,Q,Q',h,q=>False.elim q
 | .pcall _ _,ρ,st,Q,Q',h,q=>False.elim q
 | .hm _ _ _,ρ,st,Q,Q',h,q=>False.elim q
 | .dct1 _ _,ρ,st,Q,Q',h,q=>False.elim q
 | .bin op a b,ρ,st,Q,Q',h,q=>by exact aa G a (fun x st1 z=>aa G b (fun y st2 z=>nL h z) z) q
 | .neg a,ρ,st,Q,Q',h,q=>by
  skip
  refine aa G a (fun x st1 z=>?_) q
  obtain⟨i,e,z⟩:=z
  exact⟨i,e,h _ _ z⟩
 | .not a,ρ,st,Q,Q',h,q=>by
  skip
  refine aa G a (fun x st1 z=>?_) q
  obtain⟨i,e,z⟩:=z
  exact⟨i,e,h _ _ z⟩
 | .cmp op a b,ρ,st,Q,Q',h,q=>by exact aa G a (fun x st1 z=>aa G b (fun y st2 z=>gm h z) z) q
 | .bop true es,ρ,st,Q,Q',h,q=>by exact jN G es h q
 | .bop false es,ρ,st,Q,Q',h,q=>by exact jD G es h q
 | .ite c a b,ρ,st,Q,Q',h,q=>by
  skip
  refine aD G c (fun k st1 z=>?_) q
  cases k with
  | true=>rw[GA rfl] at z ⊢;exact aa G a h z
  | false=>rw[F_ FX] at z ⊢;exact aa G b h z
 | .ix a b,ρ,st,Q,Q',h,q=>by exact aa G a (fun x st1 z=>aa G b (fun y st2 z=>iP h z) z) q
 | .sl a lo hi,ρ,st,Q,Q',h,q=>by exact aa G a (fun x st1 z=>iJ G lo (fun l st2 z=>iJ G hi (fun u st3 z=>qQ h z) z) z) q
 | .call f es,ρ,st,Q,Q',h,q=>by exact ay G es (fun vs st1 z=>G _ _ _ _ _ h z) q
 | .blt b es,ρ,st,Q,Q',h,q=>by exact ay G es (fun vs st1 z=>gy h z) q
 | .inst a t,ρ,st,Q,Q',h,q=>by
  skip
  refine aa G a (fun x st1 z=>?_) q
  obtain⟨i,e,z⟩:=z
  exact⟨i,e,h _ _ z⟩
 | .met m o es,ρ,st,Q,Q',h,q=>by exact aa G o (fun x st1 z=>⟨z.1,ay G es (fun vs st2 z=>gp h z) z.2⟩) q
 | .comp elt tg it ifs nt caps,ρ,st,Q,Q',h,q=>by
  skip
  exact eU G it (fun xs chk st1 z=>⟨z.1,fA (fun x st k k' hk w=>aC G tg (fun ρ' st3 w=>bA G ifs (fun c st4 w=>by
   cases c with
   | true=>rw[GA rfl] at w ⊢;exact aa G elt (fun v st5 w=>hk _ _ w) w
   | false=>rw[F_ FX] at w ⊢;exact hk _ _ w) w) w) (fun vs st2 w=>h _ _ w) z.2⟩) q
 | .tmp a,ρ,st,Q,Q',h,q=>by exact aa G a (fun v st1 z=>rM h z) q
 | .compK _ _ _ _ _ _ _,ρ,st,Q,Q',h,q=>False.elim q
 | .compD _ _ _ _ _ _ _ _,ρ,st,Q,Q',h,q=>False.elim q
 | .dct2 k v,ρ,st,Q,Q',h,q=>by exact aa G k (fun x st1 z=>let ⟨u,e,z⟩:=z;⟨u,e,aa G v (fun y st2 z=>h _ _ z) z⟩) q
 | .dcl _,ρ,st,Q,Q',h,q=>False.elim q
 | .eqd ne a b,ρ,st,Q,Q',h,q=>by exact aa G a (fun x st1 z=>aa G b (fun y st2 z=>z.imp (fun z=>⟨z.1,h _ _ z.2⟩) fun z=>⟨z.1,h _ _ z.2⟩) z) q
theorem ay (G:aW Γ):∀(e:Es) {ρ:Fr}{st:AH}{Q Q':LK},(∀v st,Q v st→Q' v st)→bV Γ e ρ st Q→bV Γ e ρ st Q'
 | .nil,ρ,st,Q,Q',h,q=>by exact h _ _ q
 | .cons e es,ρ,st,Q,Q',h,q=>by exact aa G e (fun x st1 z=>ay G es (fun xs st2 z=>h _ _ z) z) q
theorem iJ (G:aW Γ):∀(e:O) {ρ:Fr}{st:AH}{Q Q':Option Int→AH→Prop},(∀v st,Q v st→Q' v st)→wpO Γ e ρ st Q→wpO Γ e ρ st Q'
 | .no,ρ,st,Q,Q',h,q=>by exact h _ _ q
 | .yes e,ρ,st,Q,Q',h,q=>by
  skip
  refine aa G e (fun x st1 z=>?_) q
  obtain⟨i,e,z⟩:=z
  exact⟨i,e,h _ _ z⟩
theorem aD (G:aW Γ):∀(e:E) {ρ:Fr}{st:AH}{Q Q':BK},(∀v st,Q v st→Q' v st)→wpT Γ e ρ st Q→wpT Γ e ρ st Q'
 | .bop true es,ρ,st,Q,Q',h,q=>by exact bA G es h q
 | .bop false es,ρ,st,Q,Q',h,q=>by exact jM G es h q
 | .not a,ρ,st,Q,Q',h,q=>by exact aD G a (fun c st1 z=>h _ _ z) q
 | .cmp op a b,ρ,st,Q,Q',h,q=>by
  skip
  exact aa G a (fun x st1 z=>aa G b (fun y st2 z=>gm (fun v st3 w=>by obtain⟨c,e,w⟩:=w;exact⟨c,e,h _ _ w⟩) z) z) q
 | .var i,ρ,st,Q,Q',h,q=>by
  skip
  obtain⟨v,h1,q⟩:=q
  exact⟨v,h1,a_ h q⟩
 | .call f es,ρ,st,Q,Q',h,q=>by exact ay G es (fun vs st1 z=>G _ _ _ _ _ (fun v st2 z=>a_ h z) z) q
 | .blt b es,ρ,st,Q,Q',h,q=>by exact ay G es (fun vs st1 z=>gy (fun v st2 z=>a_ h z) z) q
 | .inst a t,ρ,st,Q,Q',h,q=>by
  skip
  refine aa G a (fun x st1 z=>?_) q
  obtain⟨i,e,z⟩:=z
  exact⟨i,e,h _ _ z⟩
 | .tmp a,ρ,st,Q,Q',h,q=>by exact aa G a (fun v st1 z=>rM (fun v st2 z=>a_ h z) z) q
 | .ix a b,ρ,st,Q,Q',h,q=>by exact aa G a (fun x st1 z=>aa G b (fun y st2 z=>iP (fun v st3 z=>a_ h z) z) z) q
 | .pcall _ _,ρ,st,Q,Q',h,q=>False.elim q
 | .eqd ne a b,ρ,st,Q,Q',h,q=>by exact aa G a (fun x st1 z=>aa G b (fun y st2 z=>z.imp (fun z=>⟨z.1,h _ _ z.2⟩) fun z=>⟨z.1,h _ _ z.2⟩) z) q
 | .compK _ _ _ _ _ _ _,ρ,st,Q,Q',h,q=>False.elim q
 | .compD _ _ _ _ _ _ _ _,ρ,st,Q,Q',h,q=>False.elim q
 | .dcl _,ρ,st,Q,Q',h,q=>False.elim q
 | .dct2 _ _,ρ,st,Q,Q',h,q=>False.elim q
 | .hm _ _ _,ρ,st,Q,Q',h,q=>False.elim q
 | .int _,ρ,st,Q,Q',h,q=>False.elim q
 | .bl _,ρ,st,Q,Q',h,q=>False.elim q
 | .non,ρ,st,Q,Q',h,q=>False.elim q
 | .str _,ρ,st,Q,Q',h,q=>False.elim q
 | .gv _ _,ρ,st,Q,Q',h,q=>False.elim q
 | .tup _,ρ,st,Q,Q',h,q=>False.elim q
 | .lst _,ρ,st,Q,Q',h,q=>False.elim q
 | .dct0,ρ,st,Q,Q',h,q=>False.elim q
 | .bad,ρ,st,Q,Q',h,q=>False.elim q
 | .jrev _,ρ,st,Q,Q',h,q=>False.elim q
 | .dcp _,ρ,st,Q,Q',h,q=>False.elim q
 | .dget _ _,ρ,st,Q,Q',h,q=>False.elim q
 | .clr _,ρ,st,Q,Q',h,q=>False.elim q
 | .sset _,ρ,st,Q,Q',h,q=>False.elim q
 | .part _ _,ρ,st,Q,Q',h,q=>False.elim q
 | .dct1 _ _,ρ,st,Q,Q',h,q=>False.elim q
 | .bin _ _ _,ρ,st,Q,Q',h,q=>False.elim q
 | .neg _,ρ,st,Q,Q',h,q=>False.elim q
 | .ite _ _ _,ρ,st,Q,Q',h,q=>False.elim q
 | .sl _ _ _,ρ,st,Q,Q',h,q=>False.elim q
 | .met _ _ _,ρ,st,Q,Q',h,q=>False.elim q
 | .comp _ _ _ _ _ _,ρ,st,Q,Q',h,q=>False.elim q
theorem jN (G:aW Γ):∀(e:Es) {ρ:Fr}{st:AH}{Q Q':EK},(∀v st,Q v st→Q' v st)→p_ Γ e ρ st Q→p_ Γ e ρ st Q'
 | .nil,ρ,st,Q,Q',h,q=>False.elim q
 | .cons e .nil,ρ,st,Q,Q',h,q=>by exact aa G e h q
 | .cons e (.cons e2 es),ρ,st,Q,Q',h,q=>by
  skip
  refine aa G e (fun x st1 z=>?_) q
  obtain⟨c,e,z⟩:=z
  refine⟨c,e,?_⟩
  cases c with
  | true=>rw[GA rfl] at z ⊢;exact jN G (.cons e2 es) h z
  | false=>rw[F_ FX] at z ⊢;exact h _ _ z
theorem jD (G:aW Γ):∀(e:Es) {ρ:Fr}{st:AH}{Q Q':EK},(∀v st,Q v st→Q' v st)→pL Γ e ρ st Q→pL Γ e ρ st Q'
 | .nil,ρ,st,Q,Q',h,q=>False.elim q
 | .cons e .nil,ρ,st,Q,Q',h,q=>by exact aa G e h q
 | .cons e (.cons e2 es),ρ,st,Q,Q',h,q=>by
  skip
  refine aa G e (fun x st1 z=>?_) q
  obtain⟨c,e,z⟩:=z
  refine⟨c,e,?_⟩
  cases c with
  | true=>rw[GA rfl] at z ⊢;exact h _ _ z
  | false=>rw[F_ FX] at z ⊢;exact jD G (.cons e2 es) h z
theorem bA (G:aW Γ):∀(e:Es) {ρ:Fr}{st:AH}{Q Q':BK},(∀v st,Q v st→Q' v st)→fO Γ e ρ st Q→fO Γ e ρ st Q'
 | .nil,ρ,st,Q,Q',h,q=>by exact h _ _ q
 | .cons e .nil,ρ,st,Q,Q',h,q=>by exact aD G e h q
 | .cons e (.cons e2 es),ρ,st,Q,Q',h,q=>by
  skip
  refine aD G e (fun c st1 z=>?_) q
  cases c with
  | true=>rw[GA rfl] at z ⊢;exact bA G (.cons e2 es) h z
  | false=>rw[F_ FX] at z ⊢;exact h _ _ z
theorem jM (G:aW Γ):∀(e:Es) {ρ:Fr}{st:AH}{Q Q':BK},(∀v st,Q v st→Q' v st)→oW Γ e ρ st Q→oW Γ e ρ st Q'
 | .nil,ρ,st,Q,Q',h,q=>by exact h _ _ q
 | .cons e .nil,ρ,st,Q,Q',h,q=>by exact aD G e h q
 | .cons e (.cons e2 es),ρ,st,Q,Q',h,q=>by
  skip
  refine aD G e (fun c st1 z=>?_) q
  cases c with
  | true=>rw[GA rfl] at z ⊢;exact h _ _ z
  | false=>rw[F_ FX] at z ⊢;exact jM G (.cons e2 es) h z
theorem eU (G:aW Γ):∀(e:It) {ρ:Fr}{st:AH}{Q Q':List PV→(AH→Prop)→AH→Prop},(∀v c st,Q v c st→Q' v c st)→ju Γ e ρ st Q→ju Γ e ρ st Q'
 | .seq a,ρ,st,Q,Q',h,q=>by
  skip
  refine aa G a (fun x st1 z=>?_) q
  obtain⟨c,e,z⟩:=z
  exact⟨c,e,h _ _ _ z⟩
 | .range1 a,ρ,st,Q,Q',h,q=>by
  skip
  refine aa G a (fun x st1 z=>?_) q
  obtain⟨c,e,h1,h2,z⟩:=z
  exact⟨c,e,h1,h2,h _ _ _ z⟩
 | .range2 _ _,ρ,st,Q,Q',h,q=>False.elim q
 | .zip _ _,ρ,st,Q,Q',h,q=>False.elim q
 | .enum _,ρ,st,Q,Q',h,q=>False.elim q
 | .chars a,ρ,st,Q,Q',h,q=>by
  refine aa G a (fun x st1 z=>?_) q
  obtain⟨c,e,z⟩:=z
  exact⟨c,e,h _ _ _ z⟩
 | .zip3 _ _ _,ρ,st,Q,Q',h,q=>False.elim q
 | .range3 _ _ _,ρ,st,Q,Q',h,q=>False.elim q
theorem aC (G:aW Γ):∀(t:Tg) {v:PV}{ρ:Fr}{st:AH}{Q Q':Fr→AH→Prop},(∀ρ st,Q ρ st→Q' ρ st)→bX Γ t v ρ st Q→bX Γ t v ρ st Q'
 | .name i,v,ρ,st,Q,Q',h,q=>by exact h _ _ q
 | .tup ts,v,ρ,st,Q,Q',h,q=>by
  skip
  obtain⟨xs,e,hl,q⟩:=q
  exact⟨xs,e,hl,fD G ts h q⟩
 | .ltup ts,v,ρ,st,Q,Q',h,q=>False.elim q
 | .sub o i,v,ρ,st,Q,Q',h,q=>by exact aa G o (fun x st1 z=>aa G i (fun y st2 z=>nX (fun st3 z=>h _ _ z) z) z) q
theorem fD (G:aW Γ):∀(t:Tgs) {v:List PV}{ρ:Fr}{st:AH}{Q Q':Fr→AH→Prop},(∀ρ st,Q ρ st→Q' ρ st)→f6 Γ t v ρ st Q→f6 Γ t v ρ st Q'
 | .nil,v,ρ,st,Q,Q',h,q=>by exact⟨q.1,h _ _ q.2⟩
 | .cons t ts,v,ρ,st,Q,Q',h,q=>by
  skip
  obtain⟨x,r,e,q⟩:=q
  exact⟨x,r,e,aC G t (fun ρ' st' z=>fD G ts h z) q⟩
end
structure iX (D D':aG):Prop where
 nx:∀ρ st,D.nx ρ st→D'.nx ρ st
 rt:∀v st,D.rt v st→D'.rt v st
 bk:∀ρ st,D.bk ρ st→D'.bk ρ st
 ct:∀ρ st,D.ct ρ st→D'.ct ρ st
theorem gz {chk:AH→Prop}{body body':PV→Fr→AH→aG→Prop}{D D':aG}(hD:iX D D')(hb:∀x ρ st D D',iX D D'→body x ρ st D→body' x ρ st D') :
  ∀ {xs:List PV}{ρ:Fr}{st:AH},kN chk body D xs ρ st→kN chk body' D' xs ρ st
 | [],ρ,st,q=>⟨q.1,hD.nx _ _ q.2⟩
 | x::xs,ρ,st,q=>by
  refine⟨q.1,hb _ _ _ _ _ ?_ q.2⟩
  exact⟨fun _ _ z=>gz hD hb z,hD.rt,hD.nx,fun _ _ z=>gz hD hb z⟩
theorem fZ {c:Fr→AH→BK→Prop}{body:Fr→AH→aG→Prop}{D D':aG}(hD:iX D D')(hc:∀ρ st Q Q',(∀b st,Q b st→Q' b st)→c ρ st Q→c ρ st Q')
  (hb:∀ρ st D D',iX D D'→body ρ st D→body ρ st D'):∀ {n:Nat}{ρ:Fr}{st:AH},dN c body D n ρ st→dN c body D' n ρ st
 | 0,ρ,st,q=>q
 | n+1,ρ,st,q=>hc _ _ _ _ (fun b st1 z=>by
  cases b with
  | true =>
   rw[GA rfl] at z ⊢
   refine hb _ _ _ _ ?_ z
   exact⟨fun _ _ z=>fZ hD hc hb z,hD.rt,hD.nx,fun _ _ z=>fZ hD hc hb z⟩
  | false=>rw[F_ FX] at z ⊢;exact hD.nx _ _ z) q
mutual
theorem ip (G:aW Γ):∀(s:S) {ρ:Fr}{st:AH}{D D':aG},iX D D'→wpS Γ s ρ st D→wpS Γ s ρ st D'
 | .set t e,ρ,st,D,D',h,q=>by exact aa G e (fun v st1 z=>aC G t h.nx z) q
 | .par i j a b,ρ,st,D,D',h,q=>by exact aa G a (fun v st1 z=>aa G b (fun w st2 z=>h.nx _ _ z) z) q
 | .aug i op e,ρ,st,D,D',h,q=>False.elim q
 | .expr e,ρ,st,D,D',h,q=>by exact aa G e (fun v st1 z=>h.nx _ _ z) q
 | .ret e,ρ,st,D,D',h,q=>by exact aa G e h.rt q
 | .retN,ρ,st,D,D',h,q=>by exact h.rt _ _ q
 | .ifS c a b,ρ,st,D,D',h,q=>by
  skip
  refine aD G c (fun k st1 z=>?_) q
  cases k with
  | true=>rw[GA rfl] at z ⊢;exact aB G a h z
  | false=>rw[F_ FX] at z ⊢;exact aB G b h z
 | .whileS c b,ρ,st,D,D',h,q=>by
  skip
  obtain⟨n,q⟩:=q
  refine⟨n,fZ h (c:=wpT Γ c) (body:=aq Γ b) ?_ ?_ q⟩
  ·exact fun _ _ _ _ hk z=>aD G c hk z
  ·exact fun _ _ _ _ hk z=>aB G b hk z
 | .forS t it b,ρ,st,D,D',h,q=>by
  skip
  exact eU G it (fun xs chk st1 z=>gz h (fun x ρ st D D' hd w=>aC G t (fun ρ2 st2 w=>aB G b hd w) w) z) q
 | .forK t wk e b,ρ,st,D,D',h,q=>by
  skip
  refine aa G e (fun x st1 z=>?_) q
  obtain⟨n,ex,kvs,e1,z⟩:=z
  exact⟨n,ex,kvs,e1,gz (D:=fzD n kvs D) (D':=fzD n kvs D') ⟨fun _ _ z=>⟨z.1,h.nx _ _ z.2⟩,fun _ _ z=>⟨z.1,h.rt _ _ z.2⟩,fun _ _ z=>False.elim z,fun _ _ z=>False.elim z⟩ (fun x ρ st D D' hd w=>aC G t (fun ρ2 st2 w=>aB G b hd w) w) z⟩
 | .pass,ρ,st,D,D',h,q=>by exact h.nx _ _ q
 | .bad,ρ,st,D,D',h,q=>False.elim q
 | .set2 i j e,ρ,st,D,D',h,q=>by exact aa G e (fun v st1 z=>h.nx _ _ z) q
 | .brk,ρ,st,D,D',h,q=>by exact h.bk _ _ q
 | .cont,ρ,st,D,D',h,q=>by exact h.ct _ _ q
theorem aB (G:aW Γ):∀(s:Ss) {ρ:Fr}{st:AH}{D D':aG},iX D D'→aq Γ s ρ st D→aq Γ s ρ st D'
 | .nil,ρ,st,D,D',h,q=>by exact h.nx _ _ q
 | .cons s ss,ρ,st,D,D',h,q=>by
  skip
  refine ip G s ?_ q
  exact⟨fun _ _ z=>aB G ss h z,h.rt,h.bk,h.ct⟩
end
end
end FW
namespace FW
open L2 HX
def RdF (K:W.Frag)(H:Hp)(a:Addr)(ys:List V):Prop :=
 (∃o,H a=some (.frz o (.lst ys)))∨∃(o:Obj) (its:Array Value) (n:Nat),K.lookup a=some o∧o.cls=.type "list"∧o.dict=none∧o.data=.seq its n∧its.size≤sizeLine∧Vals ys its.toList
theorem RdF.sq {K:W.Frag}{H:Hp}{a:Addr}{ys:List V}(h:RdF K H a ys):SqL K H a ys:=by
 rcases h with h|h
 ·exact .inl (.inr h)
 ·exact .inr h
mutual
noncomputable def R (K:W.Frag)(m:List Addr)(H:Hp):PV→V→Prop
 | .non,v=>v=.non
 | .bl b,v=>v=.bl b
 | .int i,v=>v=.int i
 | .str x,v=>v=.str x
 | .ref n,v=>∃a,m[n]?=some a∧v=.ref a
 | .tup xs,v=>∃a ys,v=.ref a∧SqT K H a ys∧Rs K m H xs ys
 | .rdl xs,v=>∃a ys,v=.ref a∧RdF K H a ys∧Rs K m H xs ys
 | .fn a,v=>v=.ref a
noncomputable def Rs (K:W.Frag)(m:List Addr)(H:Hp):List PV→List V→Prop
 | [],ys=>ys=[]
 | x::xs,ys=>∃y r,ys=y::r∧R K m H x y∧Rs K m H xs r
end
section
variable {K:W.Frag}{m m':List Addr}{H H':Hp}{v:V}{vs:List V}
theorem R_non:R K m H .non v↔v=.non:=by rw[R]
theorem R_bl {b:Bool}:R K m H (.bl b) v↔v=.bl b:=by rw[R]
theorem R_int {b:Int}:R K m H (.int b) v↔v=.int b:=by rw[R]
theorem R_str {b:Str}:R K m H (.str b) v↔v=.str b:=by rw[R]
theorem eR {n:Nat}:R K m H (.ref n) v↔∃a,m[n]?=some a∧v=.ref a:=by rw[R]
theorem R_tup {xs:List PV}:R K m H (.tup xs) v↔∃a ys,v=.ref a∧SqT K H a ys∧Rs K m H xs ys:=by rw[R]
theorem eN {xs:List PV}:R K m H (.rdl xs) v↔∃a ys,v=.ref a∧RdF K H a ys∧Rs K m H xs ys:=by rw[R]
theorem wv {a:Nat}:R K m H (.fn a) v↔v=.ref a:=by rw[R]
theorem Rs_nil:Rs K m H [] vs↔vs=[]:=by rw[Rs]
theorem Rs_cons {x:PV}{xs:List PV}:Rs K m H (x::xs) vs↔∃y r,vs=y::r∧R K m H x y∧Rs K m H xs r:=by rw[Rs]
theorem Rs_cons' {x:PV}{xs:List PV}:Rs K m H (x::xs) (v::vs)↔R K m H x v∧Rs K m H xs vs:=by
 rw[Rs_cons]
 constructor
 ·rintro⟨_,_,e,h1,h2⟩;cases e;exact⟨h1,h2⟩
 ·rintro⟨h1,h2⟩;exact⟨_,_,rfl,h1,h2⟩
theorem Rs.len:∀ {xs:List PV}{ys:List V},Rs K m H xs ys→xs.length=ys.length
 | [],ys,h=>by rw[Rs_nil] at h;subst h;rfl
 | x::xs,ys,h=>by
  rw[Rs_cons] at h
  obtain⟨y,r,rfl,_,h⟩:=h
  simp[Rs.len h]
theorem Rs.get:∀ {xs:List PV}{ys:List V}{i:Nat}{x:PV},Rs K m H xs ys→xs[i]?=some x→∃y,ys[i]?=some y∧R K m H x y
 | [],ys,i,x,h,e=>by simp at e
 | x::xs,ys,i,z,h,e=>by
  rw[Rs_cons] at h
  obtain⟨y,r,rfl,h1,h⟩:=h
  cases i with
  | zero=>simp at e;subst e;exact⟨y,rfl,h1⟩
  | succ i =>
   obtain⟨w,e1,e2⟩:=Rs.get h (by simpa using e)
   exact⟨w,by simpa using e1,e2⟩
theorem Rs.app:∀ {xs zs:List PV}{ys ws:List V},Rs K m H xs ys→Rs K m H zs ws→Rs K m H (xs++zs) (ys++ws)
 | [],zs,ys,ws,h,h'=>by rw[Rs_nil] at h;subst h;exact h'
 | x::xs,zs,ys,ws,h,h'=>by
  rw[Rs_cons] at h
  obtain⟨y,r,rfl,h1,h⟩:=h
  rw[List.cons_append,Rs_cons]
  exact⟨y,r++ws,rfl,h1,h.app h'⟩
theorem Rs.drop:∀ {xs:List PV}{ys:List V} (n:Nat),Rs K m H xs ys→Rs K m H (xs.drop n) (ys.drop n)
 | xs,ys,0,h=>by simpa using h
 | [],ys,n+1,h=>by rw[Rs_nil] at h;subst h;simp[Rs_nil]
 | x::xs,ys,n+1,h=>by
  rw[Rs_cons] at h
  obtain⟨y,r,rfl,h1,h⟩:=h
  simpa using Rs.drop n h
theorem Rs.take:∀ {xs:List PV}{ys:List V} (n:Nat),Rs K m H xs ys→Rs K m H (xs.take n) (ys.take n)
 | xs,ys,0,h=>by simp[Rs_nil]
 | [],ys,n+1,h=>by rw[Rs_nil] at h;subst h;simp[Rs_nil]
 | x::xs,ys,n+1,h=>by
  rw[Rs_cons] at h
  obtain⟨y,r,rfl,h1,h⟩:=h
  rw[List.take_succ_cons,List.take_succ_cons,Rs_cons']
  exact⟨h1,Rs.take n h⟩
theorem Rs.set {x:PV}{y:V}(hx:R K m H x y):∀ {xs:List PV}{ys:List V} (n:Nat),Rs K m H xs ys→Rs K m H (xs.set n x) (ys.set n y)
 | [],ys,n,h=>by rw[Rs_nil] at h;subst h;simp[Rs_nil]
 | z::xs,ys,0,h=>by
  rw[Rs_cons] at h
  obtain⟨w,r,rfl,h1,h⟩:=h
  rw[List.set_cons_zero,List.set_cons_zero,Rs_cons']
  exact⟨hx,h⟩
 | z::xs,ys,n+1,h=>by
  rw[Rs_cons] at h
  obtain⟨w,r,rfl,h1,h⟩:=h
  rw[List.set_cons_succ,List.set_cons_succ,Rs_cons']
  exact⟨h1,Rs.set hx n h⟩
theorem Rs.cut {xs:List PV}{ys:List V}(h:Rs K m H xs ys)(lo hi:Option Int):Rs K m H (pT xs lo hi) (m_ ys lo hi):=by
 unfold pT m_
 rw[h.len]
 exact(h.drop _).take _
theorem Rs.atI {xs:List PV}{ys:List V}{i:Int}{x:PV}(h:Rs K m H xs ys)(e:atI xs i=some x):∃y,L2.atI ys i=some y∧R K m H x y:=by
 unfold L2.atI at e ⊢
 rw[h.len] at e
 cases q:ixN ys.length i with
 | none=>rw[q] at e;cases e
 | some j =>
  rw[q] at e
  obtain⟨y,e1,e2⟩:=h.get (show xs[j]?=some x from e)
  exact⟨y,e1,e2⟩
theorem Rs.rep {xs:List PV}{ys:List V}(h:Rs K m H xs ys):∀n:Nat,Rs K m H (List.replicate n xs).flatten (List.replicate n ys).flatten
 | 0=>by simp[Rs_nil]
 | n+1=>by
  rw[HV,HV,IC,IC]
  exact h.app (Rs.rep h n)
theorem Rs.one {x:PV}{y:V}(h:R K m H x y):Rs K m H [x] [y]:=by rw[Rs_cons',Rs_nil];exact⟨h,rfl⟩
end
noncomputable def aS:List Str:=["coming","latest","through"]
def TB (K:W.Frag)(H:Hp):Prop:=∀x∈aS,∀c T,W.tabIn K x=some (c,T)→(∀y∈aS,∀d,W.tabIn K y=some (d,T)→y=x)∧∃ps,H T=some (.tbl ps)∧TriplesOk ps.toList ∧
 ∀pos cv,codeAmong pos ps.toList=some cv→∃c' oc,cv=.ref c'∧H c'=some (.frz oc (.own 0))∧CF oc (x++".<locals>."++"<lambda>")
theorem TB.keep {K:W.Frag}{H H':Hp}(t:TB K H)(h1:∀a ps,H a=some (.tbl ps)→H' a=some (.tbl ps))(h2:∀a o,H a=some (.frz o (.own 0))→H' a=some (.frz o (.own 0))):TB K H':=fun x hx c T e=>by
 obtain⟨e0,ps,e1,e2,e3⟩:=t x hx c T e
 refine⟨e0,ps,h1 _ _ e1,e2,fun pos cv q=>?_⟩
 obtain⟨c',oc,g1,g2,g3⟩:=e3 pos cv q
 exact⟨c',oc,g1,h2 _ _ g2,g3⟩
structure Ext (K:W.Frag)(m:List Addr)(H:Hp)(m':List Addr)(H':Hp):Prop where
 pre:m <+: m'
 new:∀a∈m',a∈m∨H a=none
 fr:∀a o,a ∉ m→H a=some o→(∀ps,o≠.tbl ps)→H' a=some o
 tup:∀a ys,SqT K H a ys→SqT K H' a ys
 rdf:∀a ys,RdF K H a ys→RdF K H' a ys
 tbs:∀a ps,a ∉ m→H a=some (.tbl ps)→∃ps',H' a=some (.tbl ps')
 tb:TB K H→TB K H'
 frz:∀a o u,H a=some (.frz o u)→H' a=some (.frz o u)
theorem Ext.refl (K:W.Frag)(m:List Addr)(H:Hp):Ext K m H m H:=⟨JH _,fun _ h=>.inl h,fun _ _ _ h _=>h,fun _ _ h=>h,fun _ _ h=>h,fun _ ps _ h=>⟨ps,h⟩,fun h=>h,fun _ _ _ h=>h⟩
theorem Ext.ne {K:W.Frag}{m m':List Addr}{H H':Hp}(x:Ext K m H m' H'){a:Addr}{o:HO}(hm:a ∉ m)(e:H a=some o):H' a≠none:=fun z=>by
 by_cases h:∃ps,o=.tbl ps
 ·obtain⟨ps,rfl⟩:=h
  obtain⟨q,e2⟩:=x.tbs a ps hm e
  rw[e2] at z;cases z
 ·rw[x.fr a o hm e fun ps q=>h ⟨ps,q⟩] at z;cases z
theorem Ext.trans {K:W.Frag}{m m1 m2:List Addr}{H H1 H2:Hp}(a:Ext K m H m1 H1)(b:Ext K m1 H1 m2 H2):Ext K m H m2 H2:=by
 have nin:∀c o,c ∉ m→H c=some o→c ∉ m1:=fun c o h e z=>by
  rcases a.new c z with q|q
  ·exact h q
  ·rw[e] at q;cases q
 refine⟨a.pre.trans b.pre,fun c hc=>?_,fun c o h e n=>b.fr c o (nin c o h e) (a.fr c o h e n) n,fun c ys h=>b.tup c ys (a.tup c ys h),fun c ys h=>b.rdf c ys (a.rdf c ys h),fun c ps h e=>let ⟨p1,e1⟩:=a.tbs c ps h e;b.tbs c p1 (nin c _ h e) e1,fun h=>b.tb (a.tb h),fun c o u h=>b.frz c o u (a.frz c o u h)⟩
 rcases b.new c hc with q|q
 ·exact a.new c q
 ·by_cases hm:c∈m
  ·exact .inl hm
  ·cases e:H c with
   | none=>exact .inr rfl
   | some o=>exact absurd q (a.ne hm e)
theorem gA {m m':List Addr}(h:m <+: m'){n:Nat}{a:Addr}(e:m[n]?=some a):m'[n]?=some a:=by
 obtain⟨t,rfl⟩:=h
 rw[GG (FY.mp e).1]
 exact e
mutual
theorem R.mono {K:W.Frag}{m m':List Addr}{H H':Hp}(x:Ext K m H m' H'):∀ {p:PV}{v:V},R K m H p v→R K m' H' p v
 | .non,v,h=>by rw[R_non] at h ⊢;exact h
 | .bl b,v,h=>by rw[R_bl] at h ⊢;exact h
 | .int b,v,h=>by rw[R_int] at h ⊢;exact h
 | .str b,v,h=>by rw[R_str] at h ⊢;exact h
 | .ref n,v,h=>by rw[eR] at h ⊢;obtain⟨a,e,q⟩:=h;exact⟨a,gA x.pre e,q⟩
 | .tup xs,v,h=>by rw[R_tup] at h ⊢;obtain⟨a,ys,e,q,r⟩:=h;exact⟨a,ys,e,x.tup _ _ q,Rs.mono x r⟩
 | .rdl xs,v,h=>by rw[eN] at h ⊢;obtain⟨a,ys,e,q,r⟩:=h;exact⟨a,ys,e,x.rdf _ _ q,Rs.mono x r⟩
 | .fn b,v,h=>by rw[wv] at h ⊢;exact h
theorem Rs.mono {K:W.Frag}{m m':List Addr}{H H':Hp}(x:Ext K m H m' H'):∀ {ps:List PV}{vs:List V},Rs K m H ps vs→Rs K m' H' ps vs
 | [],vs,h=>by rw[Rs_nil] at h ⊢;exact h
 | p::ps,vs,h=>by
  rw[Rs_cons] at h ⊢
  obtain⟨y,r,e,h1,h2⟩:=h
  exact⟨y,r,e,R.mono x h1,Rs.mono x h2⟩
end
mutual
theorem R.cut {K:W.Frag}{m:List Addr}{H:Hp}{k:Nat}:∀ {p:PV}{v:V},R K m H p v→p.bec k=true→R K (m.take k) H p v
 | .non,v,h,_=>by rw[R_non] at h ⊢;exact h
 | .bl b,v,h,_=>by rw[R_bl] at h ⊢;exact h
 | .int b,v,h,_=>by rw[R_int] at h ⊢;exact h
 | .str b,v,h,_=>by rw[R_str] at h ⊢;exact h
 | .ref n,v,h,z=>by
  rw[eR] at h ⊢
  obtain⟨a,e,q⟩:=h
  rw[PV.bec] at z
  exact⟨a,by rw[IP (HC z)];exact e,q⟩
 | .tup xs,v,h,z=>by
  rw[R_tup] at h ⊢
  obtain⟨a,ys,e,q,r⟩:=h
  rw[PV.bec] at z
  exact⟨a,ys,e,q,Rs.cutm r z⟩
 | .rdl xs,v,h,z=>by
  rw[eN] at h ⊢
  obtain⟨a,ys,e,q,r⟩:=h
  rw[PV.bec] at z
  exact⟨a,ys,e,q,Rs.cutm r z⟩
 | .fn b,v,h,_=>by rw[wv] at h ⊢;exact h
theorem Rs.cutm {K:W.Frag}{m:List Addr}{H:Hp}{k:Nat}:∀ {ps:List PV}{vs:List V},Rs K m H ps vs→PV.becs k ps=true→Rs K (m.take k) H ps vs
 | [],vs,h,_=>by rw[Rs_nil] at h ⊢;exact h
 | p::ps,vs,h,z=>by
  rw[Rs_cons] at h ⊢
  obtain⟨y,r,e,h1,h2⟩:=h
  rw[PV.becs,GD] at z
  exact⟨y,r,e,R.cut h1 z.1,Rs.cutm h2 z.2⟩
end
mutual
theorem R.bel {K:W.Frag}{m:List Addr}{H:Hp}:∀ {p:PV}{v:V},R K m H p v→p.bec m.length=true
 | .non,v,h=>by rw[PV.bec]
 | .bl b,v,h=>by rw[PV.bec]
 | .int b,v,h=>by rw[PV.bec]
 | .str b,v,h=>by rw[PV.bec]
 | .ref n,v,h=>by
  rw[eR] at h
  obtain⟨a,e,q⟩:=h
  rw[PV.bec]
  exact HB (FY.mp e).1
 | .tup xs,v,h=>by
  rw[R_tup] at h
  obtain⟨a,ys,e,q,r⟩:=h
  rw[PV.bec]
  exact Rs.bel r
 | .rdl xs,v,h=>by
  rw[eN] at h
  obtain⟨a,ys,e,q,r⟩:=h
  rw[PV.bec]
  exact Rs.bel r
 | .fn b,v,h=>by rw[PV.bec]
theorem Rs.bel {K:W.Frag}{m:List Addr}{H:Hp}:∀ {ps:List PV}{vs:List V},Rs K m H ps vs→PV.becs m.length ps=true
 | [],vs,h=>by rw[PV.becs]
 | p::ps,vs,h=>by
  rw[Rs_cons] at h
  obtain⟨y,r,e,h1,h2⟩:=h
  rw[PV.becs,GD]
  exact⟨R.bel h1,Rs.bel h2⟩
end
noncomputable def CellR (K:W.Frag)(m:List Addr)(H:Hp):Cell→Addr→Prop
 | .lst xs,a=>∃ys,H a=some (.lst ys)∧Rs K m H xs ys
 | .dk kvs,a=>∃ys,H a=some (.dK ys)∧ys.map (·.1)=kvs.map (·.1)∧Rs K m H (kvs.map (·.2)) (ys.map (·.2))
 | .fz kvs,a=>∃o ys,H a=some (.frz o (.dK ys))∧ys.map (·.1)=kvs.map (·.1)∧Rs K m H (kvs.map (·.2)) (ys.map (·.2))
theorem CellR.mono {K:W.Frag}{m m':List Addr}{H H':Hp}(x:Ext K m H m' H'){c:Cell}{a:Addr}(h:CellR K m H c a)(e:H' a=H a):CellR K m' H' c a:=by
 cases c with
 | lst xs=>obtain⟨ys,h1,h2⟩:=h;exact⟨ys,e.trans h1,h2.mono x⟩
 | dk kvs=>obtain⟨ys,h1,h2,h3⟩:=h;exact⟨ys,e.trans h1,h2,h3.mono x⟩
 | fz kvs=>obtain⟨o,ys,h1,h2,h3⟩:=h;exact⟨o,ys,e.trans h1,h2,h3.mono x⟩
theorem CellR.ex {K:W.Frag}{m:List Addr}{H:Hp}{c:Cell}{a:Addr}(h:CellR K m H c a):∃o,H a=some o∧(∀ys,o≠.tup ys)∧∀u p,o=.frz u p→∃ys,p=.dK ys:=by
 cases c with
 | lst xs=>obtain⟨ys,h1,h2⟩:=h;exact⟨_,h1,⟨fun _ z=>(by cases z),fun _ _ z=>(by cases z)⟩⟩
 | dk kvs=>obtain⟨ys,h1,h2,h3⟩:=h;exact⟨_,h1,⟨fun _ z=>(by cases z),fun _ _ z=>(by cases z)⟩⟩
 | fz kvs=>obtain⟨o,ys,h1,h2,h3⟩:=h;exact⟨_,h1,⟨fun _ z=>(by cases z),fun _ _ z=>(by cases z;exact⟨ys,rfl⟩)⟩⟩
theorem CellR.cut {K:W.Frag}{m:List Addr}{H:Hp}{c:Cell}{a:Addr}{k:Nat}(h:CellR K m H c a)(z:c.bec k=true):CellR K (m.take k) H c a:=by
 cases c with
 | lst xs=>obtain⟨ys,h1,h2⟩:=h;exact⟨ys,h1,h2.cutm z⟩
 | dk kvs=>obtain⟨ys,h1,h2,h3⟩:=h;exact⟨ys,h1,h2,h3.cutm z⟩
 | fz kvs=>obtain⟨o,ys,h1,h2,h3⟩:=h;exact⟨o,ys,h1,h2,h3.cutm z⟩
theorem CellR.bel {K:W.Frag}{m:List Addr}{H:Hp}{c:Cell}{a:Addr}(h:CellR K m H c a):c.bec m.length=true:=by
 cases c with
 | lst xs=>obtain⟨ys,h1,h2⟩:=h;exact h2.bel
 | dk kvs=>obtain⟨ys,h1,h2,h3⟩:=h;exact h3.bel
 | fz kvs=>obtain⟨o,ys,h1,h2,h3⟩:=h;exact h3.bel
structure RH (K:W.Frag)(m:List Addr)(H:Hp)(st:AH):Prop where
 len:m.length=st.length
 nd:m.Nodup
 at_:∀(n:Nat) (c:Cell) (a:Addr),st[n]?=some c→m[n]?=some a→CellR K m H c a
 tb:TB K H
section
variable {K:W.Frag}{m m':List Addr}{H H':Hp}{st:AH}
theorem RH.get {n:Nat}{c:Cell}(h:RH K m H st)(e:st[n]?=some c):∃a,m[n]?=some a∧CellR K m H c a:=by
 have:n<m.length:=by rw[h.len];exact(FY.mp e).1
 exact⟨m[n],by simp[this],h.at_ n c _ e (by simp[this])⟩
theorem RH.mem {a:Addr}(h:RH K m H st)(e:a∈m):∃o,H a=some o∧(∀ys,o≠.tup ys)∧∀u p,o=.frz u p→∃ys,p=.dK ys:=by
 obtain⟨n,hn,rfl⟩:=List.mem_iff_getElem.mp e
 have:n<st.length:=by rw[←h.len];exact hn
 exact(h.at_ n st[n] _ (by simp[this]) (by simp[hn])).ex
theorem RH.mem_tbl {a:Addr}(h:RH K m H st)(e:a∈m){ps:Array Value}:H a≠some (.tbl ps):=fun z=>by
 obtain⟨n,hn,rfl⟩:=List.mem_iff_getElem.mp e
 have:n<st.length:=by rw[←h.len];exact hn
 have c:=h.at_ n st[n] m[n] (by simp[this]) (by simp[hn])
 cases q:st[n] with
 | lst xs=>rw[q] at c;obtain⟨ys,h1,_⟩:=c;rw[h1] at z;cases z
 | dk xs=>rw[q] at c;obtain⟨ys,h1,_⟩:=c;rw[h1] at z;cases z
 | fz xs=>rw[q] at c;obtain⟨o,ys,h1,_⟩:=c;rw[h1] at z;cases z
theorem RH.lst {n:Nat}{xs:List PV}{v:V}(h:RH K m H st)(e:st[n]?=some (.lst xs))(r:R K m H (.ref n) v):∃a ys,v=.ref a∧m[n]?=some a∧H a=some (.lst ys)∧Rs K m H xs ys:=by
 rw[eR] at r
 obtain⟨a,e1,rfl⟩:=r
 obtain⟨ys,h1,h2⟩:=h.at_ n _ a e e1
 exact⟨a,ys,rfl,e1,h1,h2⟩
theorem RH.fresh {p:Addr}(h:RH K m H st)(e:H p=none):p ∉ m:=fun z=>by
 obtain⟨o,q,_⟩:=h.mem z
 rw[e] at q;cases q
theorem Ext.newT {p:Addr}{o:HO}(h:RH K m H st)(e:H p=none):Ext K m H m (upd H p o):=by
 refine⟨JH _,fun _ z=>.inl z,fun a u _ q _=>?_,fun a ys q=>?_,fun a ys q=>?_,fun a ps _ q=>⟨ps,by rw[ac (aj q e)];exact q⟩,fun t=>t.keep (fun a ps q=>by rw[ac (aj q e)];exact q) fun a o q=>by rw[ac (aj q e)];exact q,fun a o u q=>by rw[ac (aj q e)];exact q⟩
 ·rw[ac (aj q e)];exact q
 ·rcases q with (q|⟨u,q⟩)|q
  ·exact .inl (.inl (by rw[ac (aj q e)];exact q))
  ·exact .inl (.inr ⟨u,by rw[ac (aj q e)];exact q⟩)
  ·exact .inr q
 ·rcases q with⟨u,q⟩|q
  ·exact .inl ⟨u,by rw[ac (aj q e)];exact q⟩
  ·exact .inr q
theorem RH.keep (h:RH K m H st)(x:Ext K m H m H')(e:∀a∈m,H' a=H a):RH K m H' st :=
 ⟨h.len,h.nd,fun n c a h1 h2=>(h.at_ n c a h1 h2).mono x (e a (GE h2)),x.tb h.tb⟩
theorem RH.newT {p:Addr}{o:HO}(h:RH K m H st)(e:H p=none):RH K m (upd H p o) st :=
 h.keep (Ext.newT h e) fun a ha=>ac fun z=>h.fresh e (z ▸ ha)
theorem Ext.new1 {p:Addr}{o:HO}(h:RH K m H st)(e:H p=none):Ext K m H (m++[p]) (upd H p o):=by
 have q:=Ext.newT (o:=o) h e
 refine⟨IW _ _,fun a z=>?_,q.fr,q.tup,q.rdf,q.tbs,q.tb,q.frz⟩
 rcases F7.mp z with z|z
 ·exact .inl z
 ·rw[FZ] at z
  subst z
  exact .inr e
theorem RH.new1 {p:Addr}{o:HO}{c:Cell}(h:RH K m H st)(e:H p=none)(hc:CellR K (m++[p]) (upd H p o) c p):RH K (m++[p]) (upd H p o) (st++[c]):=by
 have x:=Ext.new1 (o:=o) h e
 refine⟨by simp[h.len],ID.mpr ⟨h.nd,HL.mpr ⟨by simp,JP⟩,fun a ha b hb z=>?_⟩,fun n c' a h1 h2=>?_,x.tb h.tb⟩
 ·rw[FZ] at hb
  subst hb
  exact h.fresh e (z ▸ ha)
 ·by_cases hn:n<st.length
  ·rw[GG hn] at h1
   rw[GG (by rw[h.len];exact hn)] at h2
   exact(h.at_ n c' a h1 h2).mono x (ac fun z=>h.fresh e (z ▸ GE h2))
  ·rw[GJ (by omega)] at h1
   rw[GJ (by rw[h.len];omega)] at h2
   have hl:=h.len
   by_cases hz:n-st.length=0
   ·rw[hz] at h1
    rw[show n-m.length=0 by omega] at h2
    simp at h1 h2
    subst h1 h2
    exact hc
   ·rw[HP (by simp;omega)] at h1
    cases h1
theorem RH.newL {p:Addr}{xs:List PV}{ys:List V}(h:RH K m H st)(e:H p=none)(r:Rs K m H xs ys):RH K (m++[p]) (upd H p (.lst ys)) (st++[.lst xs]) :=
 h.new1 e ⟨ys,au,r.mono (Ext.new1 h e)⟩
theorem R.last {p:Addr}{n:Nat}(h:m.length=n):R K (m++[p]) H (.ref n) (.ref p):=by
 rw[eR]
 exact⟨p,by rw[←h];simp,rfl⟩
theorem nfL {H:Hp}{a:Addr}{ys:List V}(g:H a=some (.lst ys)):∀w v,H a≠some (.frz w v):=fun _ _ z=>by rw[g] at z;cases z
theorem nfD {H:Hp}{a:Addr}{ys:List (Key × V)}(g:H a=some (.dK ys)):∀w v,H a≠some (.frz w v):=fun _ _ z=>by rw[g] at z;cases z
theorem Ext.set {n:Nat}{a:Addr}{ys:List V}{o:HO}(h:RH K m H st)(e:m[n]?=some a)(hz:∀w v,H a≠some (.frz w v)):Ext K m H m (upd H a o):=by
 have hm:=GE e
 obtain⟨u,hu,h1,h2⟩:=h.mem hm
 refine⟨JH _,fun _ z=>.inl z,fun b w hb q _=>?_,fun b zs q=>?_,fun b zs q=>?_,fun b ps hb q=>⟨ps,by rw[ac (show b≠a from fun z=>hb (by rw[z];exact hm))];exact q⟩,fun t=>t.keep (fun b ps q=>by rw[ac (fun z=>by subst z;exact h.mem_tbl hm q)];exact q) fun b w q=>by rw[ac (fun z=>by subst z;exact hz _ _ q)];exact q,fun b w v q=>by rw[ac (fun z=>by subst z;exact hz _ _ q)];exact q⟩
 ·have hne:b≠a:=fun z=>hb (by rw[z];exact hm)
  rw[ac hne];exact q
 ·rcases q with (q|⟨w,q⟩)|q
  ·exact .inl (.inl (by rw[ac (fun z=>by subst z;rw[hu] at q;cases q;exact h1 _ rfl)];exact q))
  ·exact .inl (.inr ⟨w,by rw[ac (fun z=>by subst z;exact hz _ _ q)];exact q⟩)
  ·exact .inr q
 ·rcases q with⟨w,q⟩|q
  ·exact .inl ⟨w,by rw[ac (fun z=>by subst z;exact hz _ _ q)];exact q⟩
  ·exact .inr q
theorem jx {m:List Addr}(h:m.Nodup){i j:Nat}{a:Addr}(e:m[i]?=some a)(e':m[j]?=some a):i=j:=by
 obtain⟨h1,h2⟩:=FY.mp e
 obtain⟨h3,h4⟩:=FY.mp e'
 exact(List.getElem_inj h).mp (h2.trans h4.symm)
theorem RH.setL {n:Nat}{a:Addr}{xs:List PV}{ys:List V}(h:RH K m H st)(e:m[n]?=some a)(hz:∀w v,H a≠some (.frz w v))(r:Rs K m H xs ys):RH K m (upd H a (.lst ys)) (st.set n (.lst xs)):=by
 have x:Ext K m H m (upd H a (.lst ys)):=Ext.set (ys:=ys) h e hz
 refine⟨by simp[h.len],h.nd,fun k c b h1 h2=>?_,x.tb h.tb⟩
 by_cases hk:k=n
 ·subst hk
  rw[e] at h2
  cases h2
  have hl:k<st.length:=by rw[←h.len];exact(FY.mp e).1
  rw[GB hl] at h1
  cases h1
  exact⟨ys,au,r.mono x⟩
 ·rw[F6 (fun z=>hk z.symm)] at h1
  exact(h.at_ k c b h1 h2).mono x (ac fun z=>hk (jx h.nd h2 (z ▸ e)))
end
structure RF (K:W.Frag)(m:List Addr)(H:Hp)(ρ:Fr)(σ:L2.St):Prop where
 len:ρ.length=σ.length
 at_:∀(i:Nat) v,ρ[i]?=some (some v)→∃x,σ[i]?=some (some x)∧R K m H v x
theorem RF.mono {K:W.Frag}{m m':List Addr}{H H':Hp}{ρ:Fr}{σ:L2.St}(h:RF K m H ρ σ)(x:Ext K m H m' H'):RF K m' H' ρ σ :=
 ⟨h.len,fun i v e=>let ⟨y,e1,r⟩:=h.at_ i v e;⟨y,e1,r.mono x⟩⟩
theorem RF.set {K:W.Frag}{m:List Addr}{H:Hp}{ρ:Fr}{σ:L2.St}(h:RF K m H ρ σ)(i:Nat){v:PV}{x:V}(r:R K m H v x):RF K m H (ρ.set i (some v)) (σ.set i (some x)):=by
 refine⟨by simp[h.len],fun j w e=>?_⟩
 by_cases hj:i=j
 ·subst hj
  have hl:i<ρ.length:=by have:=(FY.mp e).1;simpa using this
  rw[GB hl] at e
  cases e
  exact⟨x,by rw[GB (h.len ▸ hl)],r⟩
 ·rw[F6 hj] at e
  rw[F6 hj]
  exact h.at_ j w e
noncomputable def post (K:W.Frag)(m:List Addr)(H:Hp)(Q:VK):EK:=fun v st'=>∀m' H' x,Ext K m H m' H'→RH K m' H' st'→R K m' H' v x→Q x H'
noncomputable def postB (K:W.Frag)(m:List Addr)(H:Hp)(Q:Bool→Hp→Prop):BK:=fun v st'=>∀m' H',Ext K m H m' H'→RH K m' H' st'→Q v H'
noncomputable def DR (K:W.Frag)(m:List Addr)(H:Hp)(Q:List V→Hp→Prop):LK:=fun vs st'=>∀m' H' xs,Ext K m H m' H'→RH K m' H' st'→Rs K m' H' vs xs→Q xs H'
noncomputable def TEx (K:W.Frag)(w:Fr→AH→EK→Prop):TE:=fun σ H Q=>∃m ρ st,RF K m H ρ σ∧RH K m H st∧w ρ st (post K m H Q)
noncomputable def TTx (K:W.Frag)(w:Fr→AH→BK→Prop):TT:=fun σ H Q=>∃m ρ st,RF K m H ρ σ∧RH K m H st∧w ρ st (postB K m H Q)
noncomputable def TAx (K:W.Frag)(w:Fr→AH→LK→Prop):TA:=fun σ H Q=>∃m ρ st,RF K m H ρ σ∧RH K m H st∧w ρ st (DR K m H Q)
theorem post.ext {K:W.Frag}{m m1:List Addr}{H H1:Hp}{Q:VK}(x:Ext K m H m1 H1){v:PV}{st:AH}(q:post K m H Q v st):post K m1 H1 Q v st:=fun m' H' y e r s=>q m' H' y (x.trans e) r s
theorem postB.ext {K:W.Frag}{m m1:List Addr}{H H1:Hp}{Q:Bool→Hp→Prop}(x:Ext K m H m1 H1){v:Bool}{st:AH}(q:postB K m H Q v st):postB K m1 H1 Q v st:=fun m' H' e r=>q m' H' (x.trans e) r
noncomputable def AO (K:W.Frag)(w:PV→PV→AH→EK→Prop):R2:=fun x' y' H Q=>∃m st x y,RH K m H st∧R K m H x x'∧R K m H y y'∧w x y st (post K m H Q)
noncomputable def ES (K:W.Frag)(w:List PV→AH→EK→Prop):List V→Hp→VK→Prop:=fun xs' H Q=>∃m st xs,RH K m H st∧Rs K m H xs xs'∧w xs st (post K m H Q)
end FW
namespace FW
open L2 HX
theorem fi {n:Nat}(h:n≤100000):n≤sizeLine:=by rw[sizeLine_eq];omega
theorem gx {n:Nat}(h:n<100000):n<sizeLine:=by rw[sizeLine_eq];omega
section
variable {X:Cx}
theorem post.here {K:W.Frag}{m:List Addr}{H:Hp}{Q:VK}{v:PV}{st:AH}{x:V}(q:post K m H Q v st)(h:RH K m H st)(r:R K m H v x):Q x H:=q m H x (Ext.refl _ _ _) h r
theorem post.newT {K:W.Frag}{m:List Addr}{H:Hp}{Q:VK}{xs:List PV}{ys:List V}{st:AH}{p:Addr}(q:post K m H Q (.tup xs) st)(h:RH K m H st)(r:Rs K m H xs ys)(e:H p=none):Q (.ref p) (upd H p (.tup ys)) :=
 q m _ _ (Ext.newT h e) (h.newT e) (R_tup.mpr ⟨p,ys,rfl,SqT.of au,r.mono (Ext.newT h e)⟩)
theorem post.newL {K:W.Frag}{m:List Addr}{H:Hp}{Q:VK}{xs:List PV}{ys:List V}{st:AH}{p:Addr}(q:post K m H Q (.ref st.length) (st++[.lst xs]))(h:RH K m H st)(r:Rs K m H xs ys)(e:H p=none):Q (.ref p) (upd H p (.lst ys)) :=
 q _ _ _ (Ext.new1 h e) (h.newL e r) (R.last h.len)
theorem post.setL {K:W.Frag}{m:List Addr}{H:Hp}{Q:VK}{v:PV}{y:V}{xs:List PV}{ys:List V}{st:AH}{n:Nat}{a:Addr}(q:post K m H Q v (st.set n (.lst xs)))(h:RH K m H st)(e:m[n]?=some a)(hz:∀w v,H a≠some (.frz w v))(r:Rs K m H xs ys)(rv:R K m H v y) :
  Q y (upd H a (.lst ys)):=q _ _ _ (Ext.set (ys:=ys) h e hz) (h.setL e hz r) (rv.mono (Ext.set (ys:=ys) h e hz))
theorem eV {K:W.Frag}{m:List Addr}{H:Hp}{st:AH}{v:PV}{x:V}{xs:List PV}(h:RH K m H st)(r:R K m H v x)(e:bc st v=some xs):∃a ys,x=.ref a∧SqL K H a ys∧Rs K m H xs ys:=by
 cases v with
 | rdl zs =>
  cases e
  rw[eN] at r
  obtain⟨a,ys,rfl,h1,h2⟩:=r
  exact⟨a,ys,rfl,h1.sq,h2⟩
 | ref n =>
  unfold bc at e
  simp only at e
  split at e
  ·cases e
   rename_i q
   obtain⟨a,ys,rfl,_,h1,h2⟩:=h.lst q r
   exact⟨a,ys,rfl,SqL.of h1,h2⟩
  ·cases e
 | _=>cases e
theorem fY {K:W.Frag}{m:List Addr}{H:Hp}{st:AH}{v:PV}{x:V}{xs:List PV}(h:RH K m H st)(r:R K m H v x)(e:bt st v=some xs):∃a ys,x=.ref a∧(SqL K H a ys∨SqT K H a ys)∧Rs K m H xs ys:=by
 cases v with
 | tup zs =>
  cases e
  rw[R_tup] at r
  obtain⟨a,ys,rfl,h1,h2⟩:=r
  exact⟨a,ys,rfl,.inr h1,h2⟩
 | rdl zs =>
  obtain⟨a,ys,h1,h2,h3⟩:=eV h r e
  exact⟨a,ys,h1,.inl h2,h3⟩
 | ref n =>
  obtain⟨a,ys,h1,h2,h3⟩:=eV h r e
  exact⟨a,ys,h1,.inl h2,h3⟩
 | _=>cases e
theorem Fv {P:Program}{w:World}{A:Around}{E:Value→Shared→Prop}{s:Shared}{t b:Addr}{ws:List Value}{Q:Value→Shared→Prop}(ht:IsTup s.heap t ([]:List Value).toArray)(hb:IsTup s.heap b ws.toArray)(h:Q (.ref b) s) :
  wpAny (model P w) A (binaryOp .Add (.ref t) (.ref b)) Q E s:=by
 obtain⟨⟨cls,dd,data,sl⟩,ho,hc,n,hd⟩:=id ht
 obtain⟨⟨cls2,dd2,data2,sl2⟩,ho2,hc2,n2,hd2⟩:=id hb
 simp only at hc hd hc2 hd2
 subst hc hd hc2 hd2
 exact concat_meets ⟨_,ho,rfl⟩ ⟨_,ho2,rfl⟩ noFill_tuple_add seq_tuple_add I_ IY (IR _ _)
  (tuple_addW0 t b ([]:List Value).toArray ws.toArray n n2 dd dd2 sl sl2 rfl) ⟨ho,ho2,h⟩
theorem Dl (op:Operator):OpR X (binaryOp op) (AO X.K (hV op)):=by
 intro pins s σ H x' y' v u Q I rx ry h
 obtain⟨m,st,x,y,rh,hx,hy,w⟩:=h
 cases op with
 | Add =>
  cases x with
  | int i =>
   cases y with
   | int j =>
    have w:post X.K m H Q (.int (i+j)) st:=w
    rw[R_int] at hx hy;subst hx hy
    exact Cf pins s σ H _ _ v u Q I rx ry ⟨_,_,rfl,rfl,w.here rh (R_int.mpr rfl)⟩
   | _=>exact False.elim w
  | ref n =>
   cases y with
   | ref k =>
    obtain⟨xs,ys,h1,h2,h3,w⟩:=w
    obtain⟨a,xs',rfl,e1,g1,r1⟩:=rh.lst h1 hx
    obtain⟨b,ys',rfl,e2,g2,r2⟩:=rh.lst h2 hy
    exact BU pins s σ H _ _ v u Q I rx ry ⟨a,b,xs',ys',rfl,rfl,g1,g2,by rw[←r1.len,←r2.len];exact fi h3,fun p hp=>w.newL rh (r1.app r2) hp⟩
   | _=>exact False.elim w
  | tup xs =>
   cases y with
   | tup ys =>
    obtain⟨h2,w⟩:=w
    rw[R_tup] at hx hy
    obtain⟨a,xs',rfl,g1,r1⟩:=hx
    obtain⟨b,ys',rfl,g2,r2⟩:=hy
    by_cases h1:xs'=[]
    ·subst h1
     cases rx
     cases ry
     obtain⟨its1,rv1,p1,_⟩:=I.tuple g1
     obtain⟨its2,rv2,p2,_⟩:=I.tuple g2
     cases rv1
     have e:=r1.len
     rw[I0.mp e,J2] at w
     exact Fv p1 p2 ⟨.ref b,H,I,rfl,w.here rh (R_tup.mpr ⟨b,ys',rfl,g2,r2⟩)⟩
    refine Aj pins s σ H _ _ v u Q I rx ry ⟨a,b,xs',ys',rfl,rfl,g1,g2,fun z=>?_,by rw[←r1.len,←r2.len];exact fi h2,fun z=>?_,fun z p hp=>w.newT rh (r1.app r2) hp⟩
    ·exact h1 z
    ·subst z
     have e:=r2.len
     rw[I0.mp e,IT] at w
     exact w.here rh (R_tup.mpr ⟨a,xs',rfl,g1,r1⟩)
   | _=>exact False.elim w
  | str a =>
   cases y with
   | str b =>
    obtain⟨h2,w⟩:=w
    rw[R_str] at hx hy;subst hx hy
    exact tw pins s σ H _ _ v u Q I rx ry ⟨_,_,rfl,rfl,fi h2,w.here rh (R_str.mpr rfl)⟩
   | _=>exact False.elim w
  | _=>exact False.elim w
 | Mult =>
  cases x with
  | int i =>
   cases y with
   | int j =>
    have w:CMB i j∧post X.K m H Q (.int (i*j)) st:=w
    rw[R_int] at hx hy;subst hx hy
    exact AC pins s σ H _ _ v u Q I rx ry ⟨_,_,rfl,rfl,w.1,w.2.here rh (R_int.mpr rfl)⟩
   | _=>exact False.elim w
  | ref n =>
   cases y with
   | int k =>
    obtain⟨xs,h1,h2,h3,h4,w⟩:=w
    rw[R_int] at hy;subst hy
    obtain⟨a,xs',rfl,e1,g1,r1⟩:=rh.lst h1 hx
    exact CH pins s σ H _ _ v u Q I rx ry ⟨a,_,xs',rfl,rfl,g1,h2,h3,by rw[←r1.len];exact fi h4,fun p hp=>w.newL rh (r1.rep _) hp⟩
   | _=>exact False.elim w
  | _=>exact False.elim w
 | Sub =>
  obtain⟨i,j,rfl,rfl,w⟩:=bh w
  rw[R_int] at hx hy;subst hx hy
  exact Dv pins s σ H _ _ v u Q I rx ry ⟨_,_,rfl,rfl,w.here rh (R_int.mpr rfl)⟩
 | FloorDiv =>
  obtain⟨i,j,rfl,rfl,w⟩:=bh w
  rw[R_int] at hx hy;subst hx hy
  exact yE pins s σ H _ _ v u Q I rx ry ⟨_,_,rfl,rfl,w.1,w.2.here rh (R_int.mpr rfl)⟩
 | Mod =>
  obtain⟨i,j,rfl,rfl,w⟩:=bh w
  rw[R_int] at hx hy;subst hx hy
  exact Dc pins s σ H _ _ v u Q I rx ry ⟨_,_,rfl,rfl,w.1,w.2.here rh (R_int.mpr rfl)⟩
 | Pow =>
  obtain⟨i,j,rfl,rfl,w⟩:=bh w
  rw[R_int] at hx hy;subst hx hy
  exact C4 pins s σ H _ _ v u Q I rx ry ⟨_,_,rfl,rfl,w.1,w.2.here rh (R_int.mpr rfl)⟩
 | _=>exact False.elim w
mutual
theorem R.den {K:W.Frag}{m:List Addr}{H:Hp}:∀ {p:PV}{v:V}{d:PyData},R K m H p v→p.toD=some d→(∃xs,d=.list xs)∨Den K H d v
 | .non,v,d,h,e=>by rw[PV.toD] at e;cases e;rw[R_non] at h;exact .inr (den_non.mpr h)
 | .bl b,v,d,h,e=>by rw[PV.toD] at e;cases e;rw[R_bl] at h;exact .inr (den_bl.mpr h)
 | .int b,v,d,h,e=>by rw[PV.toD] at e;cases e;rw[R_int] at h;exact .inr (den_int.mpr h)
 | .str b,v,d,h,e=>by rw[PV.toD] at e;cases e;rw[R_str] at h;exact .inr (den_str.mpr h)
 | .ref n,v,d,h,e=>by rw[PV.toD] at e;cases e
 | .fn n,v,d,h,e=>by rw[PV.toD] at e;cases e
 | .tup xs,v,d,h,e=>by
  rw[PV.toD] at e
  cases q:PV.toDs xs with
  | none=>rw[q] at e;cases e
  | some ds =>
   rw[q] at e
   cases e
   rw[R_tup] at h
   obtain⟨a,ys,rfl,h1,h2⟩:=h
   exact .inr (den_tup.mpr ⟨a,ys,rfl,h1,Rs.den h2 q⟩)
 | .rdl xs,v,d,h,e=>by
  rw[PV.toD] at e
  cases q:PV.toDs xs with
  | none=>rw[q] at e;cases e
  | some ds=>rw[q] at e;cases e;exact .inl ⟨_,rfl⟩
theorem Rs.den {K:W.Frag}{m:List Addr}{H:Hp}:∀ {ps:List PV}{vs:List V}{ds:List PyData},Rs K m H ps vs→PV.toDs ps=some ds→Dens K H ds vs
 | [],vs,ds,h,e=>by rw[PV.toDs] at e;cases e;rw[Rs_nil] at h;exact dens_nil.mpr h
 | p::ps,vs,ds,h,e=>by
  rw[Rs_cons] at h
  obtain⟨y,r,rfl,h1,h2⟩:=h
  rw[PV.toDs] at e
  cases q:p.toD with
  | none=>rw[q] at e;cases e
  | some d =>
   cases q2:PV.toDs ps with
   | none=>rw[q,q2] at e;cases e
   | some ds' =>
    rw[q,q2] at e
    cases e
    refine dens_cons'.mpr ⟨?_,Rs.den h2 q2⟩
    cases p with
    | rdl xs =>
     rw[PV.toD] at q
     cases q3:PV.toDs xs with
     | none=>rw[q3] at q;cases q
     | some es =>
      rw[q3] at q
      cases q
      rw[eN] at h1
      obtain⟨a,ys,rfl,g1,g2⟩:=h1
      exact den_lst.mpr ⟨a,ys,rfl,g1.sq,Rs.den g2 q3⟩
    | _ =>
     rcases R.den h1 q with⟨xs,rfl⟩|z
     ·first
       | (rw[PV.toD] at q;cases q;done)
       | (rw[PV.toD] at q;simp only[Option.map_eq_some_iff,reduceCtorEq,and_false,exists_false] at q)
     ·exact z
end
theorem cV {K:W.Frag}{m:List Addr}{H:Hp}{st:AH}{p:PV}{v:V}{d:PyData}(rh:RH K m H st)(h:R K m H p v)(e:mW st p=some d):Den K H d v:=by
 cases p with
 | ref n =>
  unfold mW at e
  simp only at e
  split at e
  ·rename_i xs q
   cases q2:PV.toDs xs with
   | none=>rw[q2] at e;cases e
   | some ds =>
    rw[q2] at e
    cases e
    obtain⟨a,ys,rfl,_,h1,h2⟩:=rh.lst q h
    exact den_lst.mpr ⟨a,ys,rfl,SqL.of h1,h2.den q2⟩
  ·cases e
 | rdl xs =>
  have e':(PV.rdl xs).toD=some d:=e
  rw[PV.toD] at e'
  cases q2:PV.toDs xs with
  | none=>rw[q2] at e';cases e'
  | some ds =>
   rw[q2] at e'
   cases e'
   rw[eN] at h
   obtain⟨a,ys,rfl,g1,g2⟩:=h
   exact den_lst.mpr ⟨a,ys,rfl,g1.sq,g2.den q2⟩
 | tup xs =>
  have e':(PV.tup xs).toD=some d:=e
  rcases R.den h e' with⟨zs,rfl⟩|z
  ·rw[PV.toD] at e'
   simp at e'
  ·exact z
 | fn b=>have e':(PV.fn b).toD=some d:=e;rw[PV.toD] at e';cases e'
 | non=>have e':(PV.non).toD=some d:=e;rw[PV.toD] at e';cases e';exact den_non.mpr (R_non.mp h)
 | bl b=>have e':(PV.bl b).toD=some d:=e;rw[PV.toD] at e';cases e';exact den_bl.mpr (R_bl.mp h)
 | int b=>have e':(PV.int b).toD=some d:=e;rw[PV.toD] at e';cases e';exact den_int.mpr (R_int.mp h)
 | str b=>have e':(PV.str b).toD=some d:=e;rw[PV.toD] at e';cases e';exact den_str.mpr (R_str.mp h)
theorem R.nonB {K:W.Frag}{m:List Addr}{H:Hp}{p:PV}{v:V}(h:R K m H p v):decide (v=.non)=cS p:=by
 cases p with
 | non=>rw[R_non] at h;subst h;rfl
 | bl b=>rw[R_bl] at h;subst h;rfl
 | int b=>rw[R_int] at h;subst h;rfl
 | str b=>rw[R_str] at h;subst h;rfl
 | ref n=>rw[eR] at h;obtain⟨a,_,rfl⟩:=h;rfl
 | tup n=>rw[R_tup] at h;obtain⟨a,_,rfl,_⟩:=h;rfl
 | rdl n=>rw[eN] at h;obtain⟨a,_,rfl,_⟩:=h;rfl
 | fn n=>rw[wv] at h;subst h;rfl
theorem R.blB {K:W.Frag}{m:List Addr}{H:Hp}{p:PV}{v:V}{k:Bool}(h:R K m H p v):decide (v=.bl k)=kG k p:=by
 cases p with
 | non=>rw[R_non] at h;subst h;rfl
 | bl b=>rw[R_bl] at h;subst h;cases b <;> cases k <;> rfl
 | int b=>rw[R_int] at h;subst h;rfl
 | str b=>rw[R_str] at h;subst h;rfl
 | ref n=>rw[eR] at h;obtain⟨a,_,rfl⟩:=h;rfl
 | tup n=>rw[R_tup] at h;obtain⟨a,_,rfl,_⟩:=h;rfl
 | rdl n=>rw[eN] at h;obtain⟨a,_,rfl,_⟩:=h;rfl
 | fn n=>rw[wv] at h;subst h;rfl
theorem EE {i j:Int}:decide (V.int i=V.int j)=decide (i=j):=by simp
theorem Ef {i j:Bool}:decide (V.bl i=V.bl j)=decide (i=j):=by simp
theorem EV {i j:Str}:decide (V.str i=V.str j)=decide (i=j):=by simp
theorem pj {K:W.Frag}{m:List Addr}{H:Hp}:∀ {ns:List Int}{ys:List V},Rs K m H (ns.map PV.int) ys→ys=ns.map V.int
 | [],ys,h=>by rw[HJ,Rs_nil] at h;exact h
 | n::ns,ys,h=>by
  cases ys with
  | nil=>have:=h.len;simp at this
  | cons y ys =>
   rw[GC,Rs_cons',R_int] at h
   rw[h.1,pj h.2]
   rfl
theorem jU:∀ {ns:List Int},(ns.map V.int).all gJ=true
 | []=>rfl
 | n::ns=>by rw[GC,IK,jU];rfl
theorem pZ {i:Int}:∀ {ns:List Int},inV (.int i) (ns.map V.int)=ns.any fun j=>j == i
 | []=>rfl
 | n::ns=>by
  have:=pZ (i:=i) (ns:=ns)
  unfold inV at this ⊢
  rw[GC,HG,HG,this]
  rfl
theorem iR {K:W.Frag}{m:List Addr}{H:Hp}:∀ {ns:List Str}{ys:List V},Rs K m H (ns.map PV.str) ys→ys=ns.map V.str
 | [],ys,h=>by rw[HJ,Rs_nil] at h;exact h
 | n::ns,ys,h=>by
  cases ys with
  | nil=>have:=h.len;simp at this
  | cons y ys =>
   rw[GC,Rs_cons',R_str] at h
   rw[h.1,iR h.2]
   rfl
theorem eY:∀ {ns:List Str},(ns.map V.str).all gJ=true
 | []=>rfl
 | n::ns=>by rw[GC,IK,eY];rfl
theorem iW {i:Str}:∀ {ns:List Str},inV (.str i) (ns.map V.str)=ns.any fun j=>j == i
 | []=>rfl
 | n::ns=>by
  have:=iW (i:=i) (ns:=ns)
  unfold inV at this ⊢
  rw[GC,HG,HG,this]
  rfl
section
variable {K:W.Frag}{m:List Addr}{H:Hp}
theorem fQ {k:Key}:∀ {kvs:List (Key × PV)}{ys:List (Key × V)},ys.map (·.1)=kvs.map (·.1)→Rs K m H (kvs.map (·.2)) (ys.map (·.2)) →
  (∀v,bd kvs k=some v→∃v',fH ys k=some v'∧R K m H v v')∧(bd kvs k=none→fH ys k=none)
 | [],ys,e,_=>by
  cases ys with
  | nil=>exact⟨fun v z=>(by cases z),fun _=>rfl⟩
  | cons y ys=>cases e
 | p::kvs,ys,e,r=>by
  cases ys with
  | nil=>cases e
  | cons y ys =>
   rw[GC,GC,J4] at e
   rw[GC,GC,Rs_cons'] at r
   obtain⟨a1,a2⟩:=fQ (k:=k) e.2 r.2
   by_cases q:p.1=k
   ·have e1:bd (p::kvs) k=some p.2:=by simp[bd,List.find?_cons,q]
    have e2:fH (y::ys) k=some y.2:=iV (by rw[e.1];exact q)
    rw[e1,e2]
    exact⟨fun v z=>⟨_,rfl,by cases z;exact r.1⟩,fun z=>by cases z⟩
   ·have e1:bd (p::kvs) k=bd kvs k:=by simp[bd,List.find?_cons,q]
    have e2:fH (y::ys) k=fH ys k:=ig (by rw[e.1];exact q)
    rw[e1,e2]
    exact⟨a1,a2⟩
theorem uS {k:Key}{kvs:List (Key × PV)}{ys:List (Key × V)}(e:ys.map (·.1)=kvs.map (·.1))(r:Rs K m H (kvs.map (·.2)) (ys.map (·.2))):(fH ys k).isSome=(bd kvs k).isSome:=by
 obtain⟨a1,a2⟩:=fQ (k:=k) e r
 cases q:bd kvs k with
 | none=>rw[a2 q];rfl
 | some v=>obtain⟨v',e',_⟩:=a1 v q;rw[e'];rfl
theorem wU {k:Key}:∀ {kvs:List (Key × PV)}{ys:List (Key × V)},ys.map (·.1)=kvs.map (·.1)→(kvs.any fun kv=>decide (kv.1=k))=ys.any fun kv=>decide (kv.1=k)
 | [],ys,e=>by cases ys with|nil=>rfl|cons y ys=>cases e
 | p::kvs,ys,e=>by
  cases ys with
  | nil=>cases e
  | cons y ys =>
   rw[GC,GC,J4] at e
   rw[HG,HG,wU e.2,e.1]
theorem xa {k:Key}{v:PV}{v':V}(rv:R K m H v v'):∀ {kvs:List (Key × PV)}{ys:List (Key × V)},ys.map (·.1)=kvs.map (·.1)→Rs K m H (kvs.map (·.2)) (ys.map (·.2)) →
  (ys.map fun kv=>if kv.1=k then (kv.1,v') else kv).map (·.1)=(kvs.map fun kv=>if kv.1=k then (kv.1,v) else kv).map (·.1)∧Rs K m H ((kvs.map fun kv=>if kv.1=k then (kv.1,v) else kv).map (·.2)) ((ys.map fun kv=>if kv.1=k then (kv.1,v') else kv).map (·.2))
 | [],ys,e,_=>by cases ys with|nil=>exact⟨rfl,by rw[HJ,HJ,HJ,HJ,Rs_nil]⟩|cons y ys=>cases e
 | p::kvs,ys,e,r=>by
  cases ys with
  | nil=>cases e
  | cons y ys =>
   rw[GC,GC,J4] at e
   rw[GC,GC,Rs_cons'] at r
   obtain⟨a1,a2⟩:=xa (k:=k) rv e.2 r.2
   simp only[List.map_cons]
   rw[Rs_cons',a1]
   by_cases q:p.1=k
   ·rw[GA q,GA (by rw[e.1];exact q)]
    exact⟨by rw[e.1],rv,a2⟩
   ·rw[F_ q,F_ (by rw[e.1];exact q)]
    exact⟨by rw[e.1],r.1,a2⟩
theorem Dz {k:Key}{v:PV}{v':V}(rv:R K m H v v'){kvs:List (Key × PV)}{ys:List (Key × V)}(e:ys.map (·.1)=kvs.map (·.1))(r:Rs K m H (kvs.map (·.2)) (ys.map (·.2))) :
  (iI ys k v').map (·.1)=(ic kvs k v).map (·.1)∧Rs K m H ((ic kvs k v).map (·.2)) ((iI ys k v').map (·.2)):=by
 unfold iI ic
 rw[←wU (k:=k) e]
 by_cases q:(kvs.any fun kv=>decide (kv.1=k))=true
 ·rw[GA q,GA q]
  exact xa rv e r
 ·rw[F_ q,F_ q]
  simp only[List.map_append,List.map_cons,List.map_nil]
  exact⟨by rw[e],r.app (.one rv)⟩
end
theorem RH.dkat {K:W.Frag}{m:List Addr}{H:Hp}{st:AH}{n:Nat}{kvs:List (Key × PV)}{v:V}(h:RH K m H st)(e:st[n]?=some (.dk kvs))(r:R K m H (.ref n) v):∃a ys,v=.ref a∧m[n]?=some a∧H a=some (.dK ys)∧ys.map (·.1)=kvs.map (·.1)∧Rs K m H (kvs.map (·.2)) (ys.map (·.2)):=by
 rw[eR] at r
 obtain⟨a,e1,rfl⟩:=r
 obtain⟨ys,h1,h2⟩:=h.at_ n _ a e e1
 exact⟨a,ys,rfl,e1,h1,h2⟩
theorem RH.setD {K:W.Frag}{m:List Addr}{H:Hp}{st:AH}{n:Nat}{a:Addr}{kvs:List (Key × PV)}{ys:List (Key × V)}(h:RH K m H st)(e:m[n]?=some a)(hz:∀w v,H a≠some (.frz w v))(r1:ys.map (·.1)=kvs.map (·.1))(r2:Rs K m H (kvs.map (·.2)) (ys.map (·.2))):RH K m (upd H a (.dK ys)) (st.set n (.dk kvs)):=by
 have x:Ext K m H m (upd H a (.dK ys)):=Ext.set (ys:=[]) h e hz
 refine⟨by simp[h.len],h.nd,fun k c b h1 h2=>?_,x.tb h.tb⟩
 by_cases hk:k=n
 ·subst hk
  have hl:k<st.length:=by rw[←h.len];exact(FY.mp e).1
  rw[GB hl] at h1
  rw[e] at h2
  cases h1
  cases h2
  exact⟨ys,au,r1,r2.mono x⟩
 ·rw[F6 (Ne.symm hk)] at h1
  have ne:b≠a:=fun z=>hk ((List.getElem?_inj (FY.mp h2).1 h.nd).mp (by rw[h2,e,z]))
  exact(h.at_ k c b h1 h2).mono x (ac ne)
theorem RH.dkrd {K:W.Frag}{m:List Addr}{H:Hp}{st:AH}{n:Nat}{kvs:List (Key × PV)}{v:V}(h:RH K m H st)(e:st[n]?=some (.dk kvs)∨st[n]?=some (.fz kvs))(r:R K m H (.ref n) v):∃a ys,v=.ref a∧m[n]?=some a∧Rd H a (.dK ys)∧ys.map (·.1)=kvs.map (·.1)∧Rs K m H (kvs.map (·.2)) (ys.map (·.2)):=by
 rw[eR] at r
 obtain⟨a,e1,rfl⟩:=r
 rcases e with e|e
 ·obtain⟨ys,h1,h2⟩:=h.at_ n _ a e e1
  exact⟨a,ys,rfl,e1,.inl h1,h2⟩
 ·obtain⟨o,ys,h1,h2⟩:=h.at_ n _ a e e1
  exact⟨a,ys,rfl,e1,.inr ⟨o,h1⟩,h2⟩
theorem xD (hu:X.A.units+64<cLine)(op:CmpOp):OpR X (compareOp op) (AO X.K (c6 op)):=by
 intro pins s σ H x' y' v u Q I rx ry h
 obtain⟨m,st,x,y,rh,hx,hy,w⟩:=h
 unfold c6 at w
 cases op with
 | Eq =>
  simp only at w
  unfold eqW at w
  split at w
  ·rw[R_int] at hx hy;subst hx hy
   exact y9 pins s σ H _ _ v u Q I rx ry ⟨rfl,by rw[EE];exact w.here rh (R_bl.mpr rfl)⟩
  ·rw[R_bl] at hx hy;subst hx hy
   exact y9 pins s σ H _ _ v u Q I rx ry ⟨rfl,by rw[Ef];exact w.here rh (R_bl.mpr rfl)⟩
  ·rw[R_str] at hx hy;subst hx hy
   exact y9 pins s σ H _ _ v u Q I rx ry ⟨rfl,by rw[EV];exact w.here rh (R_bl.mpr rfl)⟩
  ·obtain⟨d,e,h1,h2,h3,h4,w⟩:=w
   exact Dg hu pins s σ H _ _ v u Q I rx ry ⟨d,e,cV rh hx h1,cV rh hy h2,h3,h4,w.here rh (R_bl.mpr rfl)⟩
 | NotEq =>
  simp only at w
  unfold eqW at w
  split at w
  ·rw[R_int] at hx hy;subst hx hy
   exact xG pins s σ H _ _ v u Q I rx ry ⟨rfl,by rw[EE];exact w.here rh (R_bl.mpr rfl)⟩
  ·rw[R_bl] at hx hy;subst hx hy
   exact xG pins s σ H _ _ v u Q I rx ry ⟨rfl,by rw[Ef];exact w.here rh (R_bl.mpr rfl)⟩
  ·rw[R_str] at hx hy;subst hx hy
   exact xG pins s σ H _ _ v u Q I rx ry ⟨rfl,by rw[EV];exact w.here rh (R_bl.mpr rfl)⟩
  ·obtain⟨d,e,h1,h2,h3,h4,w⟩:=w
   exact CV hu pins s σ H _ _ v u Q I rx ry ⟨d,e,cV rh hx h1,cV rh hy h2,h3,h4,w.here rh (R_bl.mpr rfl)⟩
 | Is =>
  simp only at w
  split at w
  ·rw[R_non] at hy;subst hy
   exact B3 pins s σ H _ _ v u Q I rx ry ⟨rfl,by rw[hx.nonB];exact w.here rh (R_bl.mpr rfl)⟩
  ·rw[R_bl] at hy;subst hy
   exact DL pins s σ H _ _ v u Q I rx ry ⟨_,rfl,by rw[hx.blB];exact w.here rh (R_bl.mpr rfl)⟩
  ·exact w.elim
 | IsNot =>
  simp only at w
  split at w
  ·rw[R_non] at hy;subst hy
   exact AG pins s σ H _ _ v u Q I rx ry ⟨rfl,by rw[hx.nonB];exact w.here rh (R_bl.mpr rfl)⟩
  ·rw[R_bl] at hy;subst hy
   exact vW pins s σ H _ _ v u Q I rx ry ⟨_,rfl,by rw[hx.blB];exact w.here rh (R_bl.mpr rfl)⟩
  ·exact w.elim
 | Lt =>
  simp only at w
  split at w
  ·rw[R_int] at hx hy;subst hx hy
   exact El pins s σ H _ _ v u Q I rx ry ⟨_,_,rfl,rfl,w.here rh (R_bl.mpr rfl)⟩
  ·exact w.elim
 | LtE =>
  simp only at w
  split at w
  ·rw[R_int] at hx hy;subst hx hy
   exact EA pins s σ H _ _ v u Q I rx ry ⟨_,_,rfl,rfl,w.here rh (R_bl.mpr rfl)⟩
  ·exact w.elim
 | Gt =>
  simp only at w
  split at w
  ·rw[R_int] at hx hy;subst hx hy
   exact DV pins s σ H _ _ v u Q I rx ry ⟨_,_,rfl,rfl,w.here rh (R_bl.mpr rfl)⟩
  ·exact w.elim
 | GtE =>
  simp only at w
  split at w
  ·rw[R_int] at hx hy;subst hx hy
   exact Ej pins s σ H _ _ v u Q I rx ry ⟨_,_,rfl,rfl,w.here rh (R_bl.mpr rfl)⟩
  ·exact w.elim
 | In =>
  simp only at w
  split at w
  ·rw[R_str] at hx hy;subst hx hy
   exact vD pins s σ H _ _ v u Q I rx ry ⟨_,_,rfl,rfl,w.here rh (R_bl.mpr rfl)⟩
  ·rw[R_int] at hx;subst hx
   obtain⟨ns,rfl,w⟩:=w
   obtain⟨a,ys,rfl,g,r⟩:=R_tup.mp hy
   obtain rfl:=pj r
   refine jQ pins s σ H _ _ v u Q I rx ry ⟨a,_,rfl,.inr g,rfl,jU,?_⟩
   rw[F_ FX,pZ]
   exact w.here rh (R_bl.mpr rfl)
  ·rw[R_str] at hx;subst hx
   obtain⟨ns,rfl,w⟩:=w
   obtain⟨a,ys,rfl,g,r⟩:=R_tup.mp hy
   obtain rfl:=iR r
   refine jQ pins s σ H _ _ v u Q I rx ry ⟨a,_,rfl,.inr g,rfl,eY,?_⟩
   rw[F_ FX,iW]
   exact w.here rh (R_bl.mpr rfl)
  ·rw[R_str] at hx;subst hx
   rcases w with⟨ns,e,w⟩|⟨kvs,e,w⟩
   ·obtain⟨a,ys,rfl,_,g,r⟩:=rh.lst e hy
    obtain rfl:=iR r
    refine jQ pins s σ H _ _ v u Q I rx ry ⟨a,_,rfl,.inl (SqL.of g),rfl,eY,?_⟩
    rw[F_ FX,iW]
    exact w.here rh (R_bl.mpr rfl)
   ·obtain⟨a,ys,rfl,_,g,r1,r2⟩:=rh.dkrd e hy
    cases ry
    refine E4 (GN (by omega) hu) I (.inl ⟨_,.inr _,g,rfl,rfl⟩) rx fun s' I'=>⟨.bl _,H,I',rfl,?_⟩
    rw[uS r1 r2]
    exact w.here rh (R_bl.mpr rfl)
  ·exact w.elim
 | NotIn =>
  simp only at w
  split at w
  ·rw[R_int] at hx;subst hx
   obtain⟨ns,rfl,w⟩:=w
   obtain⟨a,ys,rfl,g,r⟩:=R_tup.mp hy
   obtain rfl:=pj r
   refine fE pins s σ H _ _ v u Q I rx ry ⟨a,_,rfl,.inr g,rfl,jU,?_⟩
   rw[GA rfl,pZ]
   exact w.here rh (R_bl.mpr rfl)
  ·rw[R_str] at hx;subst hx
   obtain⟨ns,rfl,w⟩:=w
   obtain⟨a,ys,rfl,g,r⟩:=R_tup.mp hy
   obtain rfl:=iR r
   refine fE pins s σ H _ _ v u Q I rx ry ⟨a,_,rfl,.inr g,rfl,eY,?_⟩
   rw[GA rfl,iW]
   exact w.here rh (R_bl.mpr rfl)
  ·rw[R_str] at hx;subst hx
   rcases w with⟨ns,e,w⟩|⟨kvs,e,w⟩
   ·obtain⟨a,ys,rfl,_,g,r⟩:=rh.lst e hy
    obtain rfl:=iR r
    refine fE pins s σ H _ _ v u Q I rx ry ⟨a,_,rfl,.inl (SqL.of g),rfl,eY,?_⟩
    rw[GA rfl,iW]
    exact w.here rh (R_bl.mpr rfl)
   ·obtain⟨a,ys,rfl,_,g,r1,r2⟩:=rh.dkrd e hy
    cases ry
    refine Ap (GN (by omega) hu) I (.inl ⟨_,.inr _,g,rfl,rfl⟩) rx fun s' I'=>⟨.bl _,H,I',rfl,?_⟩
    rw[uS r1 r2]
    exact w.here rh (R_bl.mpr rfl)
  ·exact w.elim
theorem Ex {prog:Program}{w:World}{A:Around}{E:Value→Shared→Prop}{s:Shared}{value slice:Expr}{o i:Value}{T id:String}{Q:Value→Shared→Prop}
  (hl:typeLookup (.type T) "__getitem__"=pure (some (.builtin id))) (hs:subscripted slice false o i=operate [o,i] (getItem o i)) (hT:s.TypeIs o T) (h:wpAny (model prog w) A (getItem o i) Q E s) :
  wpAny (model prog w) A (subscriptTail value slice o i) Q E s:=by
 unfold subscriptTail
 refine F4 ?_
 rw[getitemInPython_of_ne hT.not_modules]
 refine F4 (wpAny_specialOf hT hl ?_)
 have fin:wpAny (model prog w) A (subscripted slice false o i) (fun r s₃=>wpAny (model prog w) A (letTemporaryGo value o r >>= fun _=>pure r) Q E s₃) E s:=by
  rw[hs]
  exact wpAny_operating (wpAny_mono h (fun r s₃ h₃=>F4 (wpAny_letTemporaryGo (GL h₃))) fun _ _ x=>x)
 first
  | exact GL (F4 fin)
  | exact F4 (GL (F4 fin))
  | exact F4 fin
theorem Bt (hu:X.A.units+64<cLine):IxR X (AO X.K ixW):=by
 intro value slice pins s σ H x' y' v u Q I rx ry h hs
 obtain⟨m,st,x,y,rh,hx,hy,w⟩:=h
 cases y with
 | int i =>
  rw[R_int] at hy;subst hy
  rcases uI w with⟨z,c,rfl,h1,h2,w⟩|⟨xs,z,h1,h2,w⟩
  ·rw[R_str] at hx;subst hx
   exact Da value slice pins s σ H _ _ v u Q I rx ry ⟨_,_,c,rfl,rfl,fi h1,h2,w.here rh (R_str.mpr rfl)⟩ hs
  obtain⟨a,ys,rfl,g,r⟩:=fY rh hx h1
  obtain⟨y,e,ry'⟩:=r.atI h2
  rcases g with g|g
  ·exact Ag value slice pins s σ H _ _ v u Q I rx ry ⟨a,ys,_,y,rfl,rfl,g,e,w.here rh ry'⟩ hs
  ·exact C9 value slice pins s σ H _ _ v u Q I rx ry ⟨a,ys,_,y,rfl,rfl,g,e,w.here rh ry'⟩ hs
 | str z =>
  rw[R_str] at hy;subst hy
  obtain⟨n,kvs,p,rfl,e,h2,w⟩:=u_ w
  obtain⟨a,ys,rfl,_,g,r1,r2⟩:=rh.dkrd e hx
  obtain⟨p',e',rp⟩:=(fQ r1 r2).1 _ h2
  have dg:DGet H a (.str z) (some p'):=by rw[←e'];exact .inl ⟨_,.inr z,g,rfl,rfl⟩
  cases rx
  obtain⟨z1,hd,vs,rel,dd⟩:=ko I.hok g
  exact Ex PySem.F.slot_dict_getitem.lookup hs dd.typeIs (vG (GN (by omega) hu) I dg ry fun w' s3 I3 rw'=>⟨p',H,I3,rw',w.here rh rp⟩)
 | _=>exact w.elim
theorem gG {prog:Program}{w:World}{A:Around}{E:Value→Shared→Prop}{s:Shared}{t sl:Addr}{items:Array Value}{vl vu:Value}{lo hi:Option Int}{Q:Value→Shared→Prop}(ht:IsTup s.heap t items)(hs:s.heap.IsSliceOf sl vl vu .none)(pl:IsPart vl lo)(pu:IsPart vu hi)
  (hw:HT.sIx items.size 0 lo=0∧HT.sIx items.size items.size hi=items.size) (h:Q (.ref t) s):wpAny (model prog w) A (getItem (.ref t) (.ref sl)) Q E s:=by
 obtain⟨os,hos,hcs,hds⟩:=id hs
 have hTs:s.TypeIs (.ref sl) "slice":=⟨os,hos,hcs⟩
 unfold getItem
 try with_reducible refine IJ ?_
 first|refine F4 (GL ?_)|skip
 refine F4 (wpAny_sequenceKey ht.typeIs (by decide) ?_)
 refine F4 (wpAny_callSpecial?_slot (name:=Str.ofString "__getitem__") ht.typeIs HY
  (wpAny_call_entry HY ht.typeIs entry_tuple_getitem ?_ (args_tuple_getitem _ _)))
 show wpAny _ _ (Builtin.Tuple.tupleItemsOf (.ref t) >>= _) _ _ s
 refine F4 (tupleItemsOf_ ht ?_)
 refine F4 (wpAny_typeOf hTs ?_)
 rw[GA (by decide)]
 refine F4 (HT.sliceApplied_gen hs pl pu ?_)
 have hyes:((((HT.sIx items.size 0 lo:Nat):Int) == 0 && (1:Int) == 1 && (HT.sIx items.size items.size hi-HT.sIx items.size 0 lo) == items.size)=true):=by
  rw[hw.1,hw.2]
  simp
 show wpAny _ _ (if (((HT.sIx items.size 0 lo:Nat):Int) == 0 && (1:Int) == 1 && (HT.sIx items.size items.size hi-HT.sIx items.size 0 lo) == items.size)=true then _ else _) _ _ s
 rw[GA hyes]
 unfold Builtin.Tuple.tupleIsExact
 refine F4 (F4 (wpAny_typeOf ht.typeIs (GL ?_)))
 rw[GA (by simp)]
 exact F4 (wpAny_rule (GL ⟨_,rfl,GL h⟩))
noncomputable def D9 (K:W.Frag):V→Option Int→Option Int→Hp→VK→Prop:=fun x' lo hi H Q=>∃m st x,RH K m H st∧R K m H x x'∧slW x lo hi st (post K m H Q)
theorem t4 {ys:List V}{lo hi:Option Int}(h:HT.sIx ys.length 0 lo=0∧HT.sIx ys.length ys.length hi=ys.length):m_ ys lo hi=ys:=by
 unfold m_
 rw[h.1,h.2,JQ,Nat.sub_zero,GZ]
theorem uQ {v:Value}{p:Option Int}(h:IsPart v p):∃q:Option (Int × Tok),v=partValue q∧q.map (·.1)=p:=by
 cases h with
 | none=>exact⟨none,rfl,rfl⟩
 | int i t=>exact⟨some (i,t),rfl,rfl⟩
theorem An {z:Str}{t:Tok}{l u:Option (Int × Tok)}{lo hi:Option Int}{Q:Value→Shared→Prop}{s:Shared}(e:(l.map (·.1),u.map (·.1))=(lo,hi))(h1:z.length≤100000)(h:∀tk t',Q (.str (jO z lo hi) t') { s with toks:=tk }):(sliceMade z t l u none).post Q s:=by
 cases e
 unfold sliceMade
 have h:∀tk t',Q (.str (if ((slicePicked z l u none).length == z.length)=true then z else ⟨((slicePicked z l u none).filterMap (z.cps[·]?)).toArray⟩) t') { s with toks:=tk }:=h
 cases q:((slicePicked z l u none).length == z.length) with
 | true =>
  rw[q] at h
  exact h s.toks t
 | false =>
  rw[q] at h
  refine⟨?_,h _ _⟩
  show ((slicePicked z l u none).filterMap (z.cps[·]?)).toArray.size≤sizeLine
  rw[GM]
  refine GW (IE _ _) (GW ?_ (fi h1))
  refine sliceRange_length_le _ _ _ _ (fun _=>?_) fun z=>absurd (show (1:Int) > 0 by decide) z
  cases l <;> cases u <;> constructor <;> simp only[Option.map,Option.getD,show (1:Int) > 0 by decide,if_true] <;> first|omega|(split <;> omega)
theorem Ec:SlR X (D9 X.K):=by
 intro pins s σ H x' v vl vu lo hi sl Q I rx hs pl pu h
 obtain⟨m,st,x,rh,hx,w⟩:=h
 unfold slW at w
 split at w
 ·rename_i z
  rw[R_str] at hx
  subst hx
  obtain⟨t,rfl⟩:=rx
  obtain⟨h1,w⟩:=w
  obtain⟨l,el,pl'⟩:=uQ pl
  obtain⟨u,eu,pu'⟩:=uQ pu
  subst el eu
  refine ⟨"str",_,PyProof.Rows.slot_str_getitem.lookup,typeIs_str _ _ _,?_⟩
  refine wpAny_getItem_str_slice (l:=l) (u:=u) (st:=none) hs rfl (An ?_ h1 fun tk t'=>⟨.str (jO z lo hi),H,I.tok tk,⟨t',rfl⟩,w.here rh (R_str.mpr rfl)⟩)
  rw[pl',pu']
 ·rw[R_tup] at hx
  obtain⟨a,ys,rfl,g,r⟩:=hx
  by_cases hw:HT.sIx ys.length 0 lo=0∧HT.sIx ys.length ys.length hi=ys.length
  ·cases rx
   obtain⟨its,r',ht,hz⟩:=I.tuple g
   have hlen:its.toArray.size=ys.length:=by rw[GM];exact r'.length.symm
   refine ⟨"tuple",_,PyProof.Rows.slot_tuple_getitem.lookup,ht.typeIs,gG ht hs pl pu (by rw [hlen];exact hw) ?_⟩
   refine⟨.ref a,H,I,rfl,w.here rh (R_tup.mpr ⟨a,ys,rfl,g,?_⟩)⟩
   have:=r.cut lo hi
   rw[t4 hw] at this
   exact this
  ·exact B6 pins s σ H _ v vl vu lo hi sl Q I rx hs pl pu ⟨a,ys,rfl,g,hw,fun p hp=>w.newT rh (r.cut lo hi) hp⟩
 ·obtain⟨xs,h1,w⟩:=w
  obtain⟨a,ys,rfl,g,r⟩:=eV rh hx h1
  exact Aw pins s σ H _ v vl vu lo hi sl Q I rx hs pl pu ⟨a,ys,rfl,g,fun p hp=>w.newL rh (r.cut lo hi) hp⟩
theorem Rs.one' {K:W.Frag}{m:List Addr}{H:Hp}{x:PV}{ys:List V}(h:Rs K m H [x] ys):∃y,ys=[y]∧R K m H x y:=by
 rw[Rs_cons] at h
 obtain⟨y,r,rfl,h1,h2⟩:=h
 rw[Rs_nil] at h2
 subst h2
 exact⟨y,rfl,h1⟩
theorem Rs.two' {K:W.Frag}{m:List Addr}{H:Hp}{x z:PV}{ys:List V}(h:Rs K m H [x,z] ys):∃y u,ys=[y,u]∧R K m H x y∧R K m H z u:=by
 rw[Rs_cons] at h
 obtain⟨y,r,rfl,h1,h2⟩:=h
 obtain⟨u,rfl,h3⟩:=h2.one'
 exact⟨y,u,rfl,h1,h3⟩
theorem nG {K:W.Frag}{m:List Addr}{H:Hp}:∀ {xs:List PV}{bs:List Bool}{ys:List V}{us:List Value},j6 xs=some bs→Rs K m H xs ys→Vals ys us→LSm.BoolsAre us bs
 | [],bs,ys,us,e,h,r=>by
  rw[Rs_nil] at h;subst h
  cases r
  cases e
  exact .nil
 | x::xs,bs,ys,us,e,h,r=>by
  rw[Rs_cons] at h
  obtain⟨y,q,rfl,h1,h2⟩:=h
  cases x with
  | bl b =>
   cases r with
   | cons r1 r2 =>
    rw[R_bl] at h1
    subst h1
    cases r1
    unfold j6 at e
    cases z:j6 xs with
    | none=>rw[z] at e;cases e
    | some bs' =>
     rw[z] at e
     cases e
     exact .cons b (nG z h2 r2)
  | _=>cases e
noncomputable def EU:B→Value
 | .len=>.builtin "len"
 | .max2=>.builtin "max"
 | .min2=>.builtin "min"
 | .divmod=>.builtin "divmod"
 | .int1=>.type "int"
 | .str1=>.type "str"
 | .tuple1=>.type "tuple"
 | .list1=>.type "list"
 | .all1=>.builtin "all"
 | .any1=>.builtin "any"
 | .abs1=>.builtin "abs"
 | .sorted1=>.builtin "sorted"
 | .repr1=>.builtin "repr"
 | .sortS=>.builtin "sorted"
 | .max1=>.builtin "max"
 | .sortD=>.builtin "sorted"
theorem rm {K:W.Frag}{m:List Addr}{H:Hp}:∀ {ns:List Str}{ys:List V}{us:List Value},Rs K m H (ns.map PV.str) ys→Vals ys us→StrsAre us ns
 | [],ys,us,h,r=>by
  rw[HJ,Rs_nil] at h;subst h
  cases r;exact .nil
 | n::ns,ys,us,h,r=>by
  rw[GC] at h
  obtain⟨y,ys',rfl,h1,h2⟩:=Rs_cons.mp h
  rw[R_str] at h1;subst h1
  cases r with
  | cons r1 r2 =>
   obtain⟨t,rfl⟩:=r1
   exact .cons n t (rm h2 r2)
theorem gk:∀ {us:List Value}{ns:List Str},StrsAre us ns→Vals (ns.map V.str) us
 | _,_,.nil=>.nil
 | _,_,.cons n t r=>.cons ⟨t,rfl⟩ (gk r)
theorem ug {K:W.Frag}{m:List Addr}{H:Hp}:∀ {ns:List Str},Rs K m H (ns.map PV.str) (ns.map V.str)
 | []=>by rw[HJ,HJ,Rs_nil]
 | n::ns=>by rw[GC,GC,Rs_cons',R_str];exact⟨rfl,ug⟩
theorem pO {pins:List (Addr × Obj)}{s:Shared}{σ:L2.St}{H:Hp}{p:Addr}{its:List Value}{ns:List Str}{Q:VK}(I:L2.Inv X pins σ H s)(hl:s.heap.IsList p its.toArray)(hi:StrsAre its ns)(hn:ns.length<64)
  (q:∀ns':List Str,ns'.Perm ns→sortedS ns'=true→∀l,H l=none→Q (.ref l) (upd H l (.lst (ns'.map V.str)))):wpAny (model X.prog X.w) X.A (call (.builtin "sorted") [.ref p]) (EP X pins σ Q) X.xe s:=by
 have hlen:its.length=ns.length:=by
  have:=(gk hi).length
  simpa using this.symm
 refine sorted_strs hl hi (by omega) fun out ns' h1 h2 h3=>?_
 obtain⟨e,he⟩:=sortedAll_at s.heap its out
 refine⟨.ref (s.heap.objs.size+1),_,I.laid (t':=s.toks) (fun b o=>sortedAll_old) (Nat.le_succ _) (show ObjOk X.prog X.w _ _ _ (.lst (ns'.map V.str)) from ⟨?_,out.toList,e,gk h1,he⟩),rfl,q ns' h2 h3 _ (I.hok.fresh (Nat.le_succ _))⟩
 rw[GI,h2.length_eq]
 exact HQ (gx (by omega))
theorem oI {prog:Program}{w:World}{A:Around}{E:Value→Shared→Prop}{s:Shared}{T:String}{r d:Addr}{n:Nat}{P:Nat→Value→Prop}{OK:Heap→Prop}{R:List Value→Shared→Prop}(K:W.KdlSrc prog w T r d n P OK)(hh:A.handled=none)(hok:OK s.heap)(hn:n≤sizeLine)
  (h:∀(h':Heap) (tk:Nat) (acc:Array Value),(∀b o,s.heap.get? b=some o→h'.get? b=some o)→s.heap.objs.size≤h'.objs.size→ItemsOf P acc n→R acc.toList { s with heap:=h',toks:=tk }):wpAny (model prog w) A (collect (.ref r)) R E s:=by
 obtain⟨l1,l2⟩:=K.there _ hok
 unfold collect
 refine F4 (wpAny_runValue (codeAny_builtin entry_proto_collect' ?_))
 rw[Around.under_plainId PySem.F.plain_proto_collect _]
 show wpAny _ A.in1 (newList [] >>= fun l=>again (.builtin "list.__iadd__" ⟨[l,.ref r],[]⟩)) _ _ s
 refine F4 (wpAny_newObj_type (GL ⟨plainId_quiet PySem.F.plain_list_iadd _,codeAny_builtin entry_list_iadd' ?_⟩))
 rw[Around.under_plainId PySem.F.plain_list_iadd _]
 have new:(s.heap.push { cls:=.type "list",data:=.seq ([]:List Value).toArray }).get? s.heap.objs.size=some { cls:=.type "list",data:=.seq #[] }:=GP _ rfl
 show wpAny _ A.in1 (Builtin.List.listExtendWith (.ref s.heap.objs.size) (.ref r) (.ref s.heap.objs.size)) _ _ _
 have main:=W.kdl_extend (A:=A) (s:={ s with heap:=s.heap.push { cls:=.type "list",data:=.seq ([]:List Value).toArray } })
  (R:=fun (q:Result) (s':Shared)=>∃(h':Heap) (tk:Nat) (zs:Array Value) (c:Nat),q=.ok (.ret (.ref s.heap.objs.size))∧s'={ s with heap:=h',toks:=tk }∧(∀b o,s.heap.get? b=some o→h'.get? b=some o)∧h'.get? s.heap.objs.size=some { cls:=.type "list",dict:=none,data:=.seq zs c,slots:=#[] }∧ItemsOf P zs n)
  K hh (K.keep _ _ hok fun b _ o e=>F5 _ e) s.heap.objs.size (JM l1) (JM l2) (.ref s.heap.objs.size) 0 new
  (fun h' tk zs c hk hS hz=>⟨h',tk,zs,c,rfl,rfl,fun b o e=>hk b o (GS (GF e)) (F5 _ e),hS,hz⟩) hn
 refine wpAny_mono main (fun fin s' x=>?_) fun e s' x=>?_
 ·cases fin with
  | done f =>
   obtain⟨h',tk,zs,c,e,rfl,hk,hS,hz⟩:=x
   cases e
   show wpAny _ A (load s.heap.objs.size >>= _) _ _ _
   exact F4 (wpAny_load hS (GL (h h' tk zs hk (HQ (GF hS)) hz)))
  | again c₁ =>
   refine⟨x.1,codeAny_mono x.2 fun q s₂ y=>?_⟩
   obtain⟨h',tk,zs,c,rfl,rfl,hk,hS,hz⟩:=y
   show wpAny _ A (load s.heap.objs.size >>= _) _ _ _
   exact F4 (wpAny_load hS (GL (h h' tk zs hk (HQ (GF hS)) hz)))
 ·obtain⟨_,_,_,_,e',_⟩:=x
  cases e'
theorem lA {P:Program}{w:World}:∀ {ss:List Str}{vs:List Value},vs.length=ss.length→(∀(j:Nat) v,vs[j]?=some v→∃x,ss[j]?=some x∧∃t,v=.str x t)→StrsAre vs ss
 | [],vs,hl,h=>by
  cases vs with
  | nil=>exact .nil
  | cons _ _=>simp at hl
 | s::ss,vs,hl,h=>by
  cases vs with
  | nil=>simp at hl
  | cons v vs =>
   obtain⟨x,e,t,rfl⟩:=h 0 v rfl
   simp at e
   subst e
   exact .cons _ t (lA (P:=P) (w:=w) (by simpa using hl) fun j u hu=>by simpa using h (j+1) u (by simpa using hu))
theorem pI {pins:List (Addr × Obj)}{s:Shared}{σ:L2.St}{H:Hp}{a:Addr}{ys:List (Key × V)}{ss:List Str}{Q:VK}(hcalm:X.calm=true)(I:L2.Inv X pins σ H s)(g:Rd H a (.dK ys))(hk:ys.map (·.1)=ss.map Sum.inr)(hn:ss.length<64)
  (q:∀ss':List Str,ss'.Perm ss→sortedS ss'=true→∀l,H l=none→Q (.ref l) (upd H l (.lst (ss'.map V.str)))):wpAny (model X.prog X.w) X.A (call (.builtin "sorted") [.ref a]) (EP X pins σ Q) X.xe s:=by
 obtain⟨z,lo,vs,rel,dd⟩:=ko I.hok g
 obtain⟨ep,hat⟩:=dd.dictAt
 have hv:vs.length=ss.length:=by rw[←rel.length];simpa using GR List.length hk
 have kk:vs.map (·.1)=ss.map Sum.inr:=by rw[←rel.keys];exact hk
 refine Calls.call_function_entry kind_sorted plain_sorted entry_sorted (args_sorted1 _) ?_
 unfold Builtin.«sorted»
 refine F4 (m:=checkCount "sorted" 1 1 _) (GL ?_)
 refine F4 (oI (A:=X.A.in1) (W.kdl_dict (knd:=ax X.prog X.w) (kvs:=vs) (ep:=ep) lo) (I.ok.hd hcalm) hat (HQ (gx (by omega))) fun h1 tk acc k1 z1 hacc=>?_)
 have hl:acc.toList.length=ss.length:=by rw[Array.length_toList,hacc.1,hv]
 have hS:StrsAre acc.toList ss:=lA (P:=X.prog) (w:=X.w) hl fun j v e=>by
  obtain⟨k,x,hx,hkk⟩:=hacc.2 j v (by rw[←Array.getElem?_toList];exact e)
  have e2:(vs.map (·.1))[j]?=some k:=by rw[F9,hx];rfl
  rw[kk,F9] at e2
  obtain⟨x',h3,rfl⟩:=GK.mp e2
  obtain⟨t,rfl⟩:=Value.isStrOf_shape (show Value.isStrOf x' v=true from hkk)
  exact⟨x',h3,t,rfl⟩
 refine F4 (wpAny_newList ?_ (by rw[hl];exact HQ (gx (by omega))))
 have hoL:(h1.push (seqObj "list" acc.toList.toArray 0)).get? h1.objs.size=some (seqObj "list" acc.toList.toArray 0):=GP _ rfl
 refine F4 (IJ (wpAny_call_entry slot_list_sort ⟨_,hoL,rfl⟩ entry_list_sort (list_sort_treeK strKind_oneLt hoL hS.keysOf (fun v₁ v₂ rest e=>keyKind_strs (by rw[←e];exact hS)) (by rw[hl];exact hn) fun st' hp hs=>⟨_,rfl,?_⟩) (args_list_sort _)))
 obtain⟨ss',a1,a2,a3⟩:=sorted_out_str hS hp hs
 refine GL ⟨_,rfl,?_⟩
 obtain⟨e,he⟩:=sortedHeap_at (out:=(arrOf st').map (·.2)) hoL
 refine⟨.ref h1.objs.size,_,I.laid (t':=tk) (fun b o eb=>?_) z1 (show ObjOk X.prog X.w _ _ _ (.lst (ss'.map V.str)) from ⟨?_,_,e,gk a1,he⟩),rfl,q ss' a2 a3 _ (I.hok.fresh z1)⟩
 ·have lb:b<h1.objs.size:=F3 (GF eb) z1
  rw[sortedHeap_old (GS lb) (by rw[size_push'];exact Nat.lt_succ_of_lt lb)]
  exact F5 _ (k1 b o eb)
 ·rw[GI,a2.length_eq]
  exact HQ (gx (by omega))
theorem o9:dn X (.type "int") (fun xs H Q=>∃z n,xs=[.str z]∧z.length≤640∧PySem.intText? z=some n∧Q (.int n) H):=by
 intro pins s σ H xs us Q I r h
 obtain⟨z,n,rfl,h1,h2,q⟩:=h
 obtain⟨u,rfl,t,rfl⟩:=fG r
 exact W.KIN.call_text h2 h1 ⟨.int n,H,I.tok _,⟨_,rfl⟩,q⟩
theorem BR (hc:X.calm=true)(hgd:X.A.guards=some [])(hun:X.A.units+64<cLine)(b:B):dn X (EU b) (ES X.K (c_ b)):=by
 intro pins s σ H xs' us Q I r h
 obtain⟨m,st,xs,rh,hx,w⟩:=h
 cases b with
 | len =>
  obtain⟨x0,rfl,w⟩:=aI w
  obtain⟨y,rfl,hy⟩:=hx.one'
  rcases rG w with⟨z,rfl,h1,w⟩|⟨ys,h1,w⟩
  ·rw[R_str] at hy;subst hy
   exact pM pins s σ H _ us Q I r ⟨_,rfl,fi h1,w.here rh (R_int.mpr rfl)⟩
  obtain⟨a,zs,rfl,g,rz⟩:=fY rh hy h1
  refine pH pins s σ H _ us Q I r ⟨a,zs,rfl,g,?_⟩
  have:=w.here rh (x:=V.int ys.length) (R_int.mpr rfl)
  rw[rz.len] at this
  exact this
 | max2 =>
  obtain⟨x0,y0,rfl,w⟩:=eS w
  obtain⟨i,j,rfl,rfl,w⟩:=bh w
  obtain⟨y,u,rfl,hy,hu⟩:=hx.two'
  rw[R_int] at hy hu;subst hy hu
  exact wo hc pins s σ H _ us Q I r ⟨_,_,rfl,w.here rh (R_int.mpr rfl)⟩
 | min2 =>
  obtain⟨x0,y0,rfl,w⟩:=eS w
  obtain⟨i,j,rfl,rfl,w⟩:=bh w
  obtain⟨y,u,rfl,hy,hu⟩:=hx.two'
  rw[R_int] at hy hu;subst hy hu
  exact vY hc pins s σ H _ us Q I r ⟨_,_,rfl,w.here rh (R_int.mpr rfl)⟩
 | divmod =>
  obtain⟨x0,y0,rfl,w⟩:=eS w
  obtain⟨i,j,rfl,rfl,w⟩:=bh w
  obtain⟨y,u,rfl,hy,hu⟩:=hx.two'
  rw[R_int] at hy hu;subst hy hu
  refine oC pins s σ H _ us Q I r ⟨_,_,rfl,w.1,fun p hp=>w.2.newT rh ?_ hp⟩
  rw[Rs_cons',Rs_cons',Rs_nil,R_int,R_int]
  exact⟨rfl,rfl,rfl⟩
 | int1 =>
  obtain⟨x0,rfl,w⟩:=aI w
  obtain⟨y,rfl,hy⟩:=hx.one'
  rcases nw w with⟨b0,rfl,w⟩|⟨z,n,rfl,h1,h2,w⟩
  case inr =>
   rw[R_str] at hy;subst hy
   exact o9 pins s σ H _ us Q I r ⟨_,_,rfl,h1,h2,w.here rh (R_int.mpr rfl)⟩
  rw[R_bl] at hy;subst hy
  exact wn pins s σ H _ us Q I r (.inr ⟨_,rfl,w.here rh (R_int.mpr rfl)⟩)
 | str1=>exact False.elim w
 | tuple1 =>
  obtain⟨x0,rfl,w⟩:=aI w
  obtain⟨ys,h1,w⟩:=w
  obtain⟨y,rfl,hy⟩:=hx.one'
  obtain⟨a,zs,rfl,g,rz⟩:=fY rh hy h1
  refine nu pins s σ H _ us Q I r ⟨a,zs,rfl,?_⟩
  rcases g with g|g
  ·exact .inl ⟨g,fun p hp=>w.newT rh rz hp⟩
  ·exact .inr ⟨g,w.here rh (R_tup.mpr ⟨a,zs,rfl,g,rz⟩)⟩
 | list1 =>
  obtain⟨x0,rfl,w⟩:=aI w
  obtain⟨ys,h1,w⟩:=w
  obtain⟨y,rfl,hy⟩:=hx.one'
  obtain⟨a,zs,rfl,g,rz⟩:=fY rh hy h1
  exact pG pins s σ H _ us Q I r ⟨a,zs,rfl,g,fun p hp=>w.newL rh rz hp⟩
 | all1=>exact False.elim w
 | any1=>exact False.elim w
 | abs1=>exact False.elim w
 | sorted1=>exact False.elim w
 | sortS =>
  obtain⟨x0,rfl,w⟩:=aI w
  obtain⟨ss,h1,h2,w⟩:=w
  obtain⟨y,rfl,hy⟩:=hx.one'
  obtain⟨a,zs,rfl,g,rz⟩:=eV rh hy h1
  obtain⟨u,rfl,ru⟩:=fG r
  cases ru
  obtain⟨its,ri,pl,_⟩:=I.list g
  exact pO I pl.isList (rm rz ri) h2 fun ss' p1 p2 l hl=>(w ss' p1 p2).newL rh ug hl
 | sortD =>
  obtain⟨x0,rfl,n,rfl,kvs,h1,ss,h2,h3,w⟩:=aI w
  obtain⟨y,rfl,hy⟩:=hx.one'
  obtain⟨a,ys,rfl,_,g,r1,r2⟩:=rh.dkrd h1 hy
  obtain⟨u,rfl,ru⟩:=fG r
  cases ru
  exact pI hc I g (r1.trans h2) h3 fun ss' p1 p2 l hl=>(w ss' p1 p2).newL rh ug hl
 | max1=>exact False.elim w
 | repr1=>exact False.elim w
theorem vP {st:AH}{x:PV}{n:String}(h:dJ st x=some n):n∈["NoneType","bool","int","str","list","tuple","dict"]:=by
 cases x with
 | ref k =>
  unfold dJ at h
  simp only at h
  split at h <;> cases h <;> decide
 | _=>cases h <;> decide
theorem Ax {pins:List (Addr × Obj)}{s:Shared}{σ:L2.St}{H:Hp}{A:Around}{E:Value→Shared→Prop}{K:W.Frag}{m:List Addr}{st:AH}{x:PV}{x':V}{u:Value}{n c:String}{Q:Value→Shared→Prop}(I:Inv X pins σ H s)(rh:RH X.K m H st)(hx:R X.K m H x x')
  (ru:RelV x' u) (hk:dJ st x=some n) (hc:c∈["int","bool","str","tuple","list","dict"]) (h:∀tk,Q (.bool (f8 c n)) { s with toks:=tk }) :
  wpAny (model X.prog X.w) A (call (.builtin "isinstance") [u,.type c]) Q E s:=by
 have e:=Ac X.K c hc n (vP hk)
 cases x with
 | non=>cases hk;rw[R_non] at hx;subst hx;exact dG I ru .non e h
 | bl b=>cases hk;rw[R_bl] at hx;subst hx;exact dG I ru (.bl b) e h
 | fn b=>cases hk
 | int b=>cases hk;rw[R_int] at hx;subst hx;exact dG I ru (.int b) e h
 | str b=>cases hk;rw[R_str] at hx;subst hx;exact dG I ru (.str b) e h
 | tup xs =>
  cases hk
  rw[R_tup] at hx
  obtain⟨a,ys,rfl,g,r⟩:=hx
  cases ru
  obtain⟨its,_,⟨o,ho,hcl,_⟩,_⟩:=I.tuple g
  exact H_ W.kitx_tuple I.kIn ⟨o,ho,hcl⟩ e (fun z=>nomatch z) h
 | rdl xs =>
  cases hk
  rw[eN] at hx
  obtain⟨a,ys,rfl,g,r⟩:=hx
  cases ru
  obtain⟨its,_,pl,_⟩:=I.list g.sq
  obtain⟨o,ho,hcl,_⟩:=pl.isList
  exact H_ KD I.kIn ⟨o,ho,hcl⟩ e (fun z=>nomatch z) h
 | ref k =>
  unfold dJ at hk
  simp only at hk
  split at hk
  ·cases hk
   rename_i q
   obtain⟨a,ys,rfl,_,h1,h2⟩:=rh.lst q hx
   exact dG I ru (.lst h1) e h
  ·cases hk
   rename_i kvs q
   rw[eR] at hx
   obtain⟨a,e1,rfl⟩:=hx
   obtain⟨ys,h1,_⟩:=rh.at_ k _ a q e1
   exact dG I ru (.dK h1) e h
  ·cases hk
   rename_i kvs q
   rw[eR] at hx
   obtain⟨a,e1,rfl⟩:=hx
   obtain⟨o,ys,h1,_⟩:=rh.at_ k _ a q e1
   cases ru
   obtain⟨ho,_,_,vs,_,o',_,_,ho',hcl,_⟩:=I.hok a _ h1
   exact H_ KF I.kIn ⟨o',ho',hcl.1⟩ e (fun z=>nomatch z) h
  ·cases hk
noncomputable def u5:M→String
 | .append=>"list.append"
 | .pop0=>"list.pop"
 | .extend=>"list.extend"
 | .insert=>"list.insert"
 | .count=>"list.count"
 | .index=>"list.index"
noncomputable def uw (b:Bool):Value→Bool
 | .bool c=>c == b
 | _=>false
theorem nO:∀ {us:List Value}{bs:List Bool},LSm.BoolsAre us bs→us.length=bs.length
 | _,_,.nil=>rfl
 | _,_,.cons c r=>by rw[JG,JG,nO r]
theorem rj:∀ {us:List Value}{bs:List Bool},LSm.BoolsAre us bs→∀i (h1:i<us.length) (h2:i<bs.length),us[i]=.bool bs[i]
 | _,_,.nil,i,h1,_=>absurd h1 (II _)
 | _,_,.cons c r,0,_,_=>rfl
 | _,_,.cons c r,i+1,h1,h2=>rj r i (by simpa using h1) (by simpa using h2)
theorem lD {A:Around}{s:Shared}{b:Bool}:∀ {us:List Value}{bs:List Bool},LSm.BoolsAre us bs→∀y∈us,SeqAt.EqAt A s y (.bool b) (uw b y)
 | _,_,.nil,y,h=>nomatch h
 | _,_,.cons c r,y,h=>by
  rcases HA.mp h with rfl|h
  ·exact SeqAt.EqAt.bool_bool c b
  ·exact lD r y h
noncomputable def DU (K:W.Frag)(w:PV→List PV→AH→EK→Prop):V→List V→Hp→VK→Prop:=fun x' xs' H Q=>∃m st x xs,RH K m H st∧R K m H x x'∧Rs K m H xs xs'∧w x xs st (post K m H Q)
theorem Cd (c:M):MtR X (u5 c) (DU X.K (qm c)):=by
 intro pins s σ H x' vs' v us Q I rx rv h
 obtain⟨m,st,x,vs,rh,hx,hv,w⟩:=h
 cases c with
 | append =>
  obtain⟨n0,rfl,w⟩:=kU w
  obtain⟨x0,rfl,w⟩:=aI w
  obtain⟨xs,h1,h2,w⟩:=w
  obtain⟨a,ys,rfl,e,g,r⟩:=rh.lst h1 hx
  obtain⟨y,rfl,hy⟩:=hv.one'
  exact nD pins s σ H _ _ v us Q I rx rv ⟨a,ys,y,rfl,rfl,g,by rw[←r.len];exact gx h2,w.setL rh e (nfL g) (r.app (.one hy)) (R_non.mpr rfl)⟩
 | pop0=>exact False.elim w
 | index =>
  obtain⟨n0,rfl,w⟩:=kU w
  obtain⟨x0,rfl,w⟩:=aI w
  obtain⟨b0,rfl,w⟩:=uW w
  obtain⟨xs,bs,h1,h2,h3,j,h4,h5,w⟩:=w
  obtain⟨a,ys,rfl,e,g,r⟩:=rh.lst h1 hx
  obtain⟨y,rfl,hy⟩:=hv.one'
  rw[R_bl] at hy
  subst hy
  cases rx
  obtain⟨u,rfl,ru⟩:=fG rv
  cases ru
  obtain⟨_,its,n,r',_,e'⟩:=I.lstM g
  have ba:=nG h2 r r'
  have jl:=(FY.mp h4).1
  have at_:=rj ba
  have il:its.length=bs.length:=nO ba
  refine call_meets PySem.F.slot_list_index ⟨_,e',rfl⟩ PySem.F.entry_list_index (PySem.F.args_list_index_2 _ _) (SeqAt.list_indexAt a its.toArray n none #[] (.bool b0) (uw b0) j (by simp;omega) (by omega) ?_ ?_) ⟨e',fun z hz=>lD ba z (by simpa using hz),?_⟩
  ·have:=at_ j (by omega) jl
   simp only[List.getElem_toArray]
   rw[this,(FY.mp h4).2]
   simp[uw]
  ·intro i hi hij
   have il2:i<its.length:=by simpa using hi
   have:=at_ i il2 (by omega)
   simp only[List.getElem_toArray]
   rw[this,(FY.mp (h5 i hij)).2]
   cases b0 <;> rfl
  ·exact⟨.int _,H,I.tok _,⟨_,rfl⟩,w.here rh (R_int.mpr rfl)⟩
 | count=>exact False.elim w
 | extend=>exact False.elim w
 | insert=>exact False.elim w
noncomputable def FA (K:W.Frag):V→V→V→Hp→(Hp→Prop)→Prop:=fun o' i' v' H Q=>∃m st o i v,RH K m H st∧R K m H o o'∧R K m H i i'∧R K m H v v'∧oB o i v st fun st'=>∀H',Ext K m H m H'→RH K m H' st'→Q H'
theorem DK (hu:X.A.units+64<cLine):Du X (FA X.K):=by
 intro pins s σ H o' i' v' ov iv u Q I ro ri rv h
 obtain⟨m,st,o,i,v,rh,ho,hi,hv,w⟩:=h
 unfold oB at w
 split at w
 ·obtain⟨xs,h1,q,h2,w⟩:=w
  obtain⟨a,ys,rfl,e,g,r⟩:=rh.lst h1 ho
  rw[R_int] at hi;subst hi
  exact xZ pins s σ H _ _ _ ov iv u Q I ro ri rv ⟨a,ys,_,q,rfl,rfl,g,by rw[←r.len];exact h2,w _ (Ext.set (ys:=ys) rh e (nfL g)) (rh.setL e (nfL g) (r.set hv q))⟩
 ·obtain⟨kvs,h1,h2,w⟩:=w
  obtain⟨a,ys,rfl,e,g,r1,r2⟩:=rh.dkat h1 ho
  rw[R_str] at hi;subst hi
  cases ro
  obtain⟨q1,q2⟩:=Dz (k:=.inr _) hv r1 r2
  refine wd (GN (by omega) hu) I (DPut.k (k:=.inr _) g ?_) ri rv fun s' I'=>⟨_,I',w _ (Ext.set (ys:=[]) rh e (nfD g)) (rh.setD e (nfD g) q1 q2)⟩
  have:ys.length=kvs.length:=by have:=GR List.length r1;simpa using this
  rw[this]
  exact v7 h2
 ·exact w.elim
noncomputable def FI (K:W.Frag):V→Hp→(Bool→Hp→Prop)→Prop:=fun x' H Q=>∃m st x,RH K m H st∧R K m H x x'∧eL x st (postB K m H Q)
theorem qY:∀ {x':V}{H:Hp}{Q:Bool→Hp→Prop},FI X.K x' H Q→∃k,DC X.K x' H k∧Q k H:=by
 intro x' H Q h
 obtain⟨m,st,x,rh,hx,w⟩:=h
 unfold eL at w
 split at w
 ·rw[R_bl] at hx;subst hx;exact⟨_,rfl,w m H (Ext.refl _ _ _) rh⟩
 ·rw[R_non] at hx;subst hx;exact⟨_,rfl,w m H (Ext.refl _ _ _) rh⟩
 ·rw[R_int] at hx;subst hx;exact⟨_,rfl,w m H (Ext.refl _ _ _) rh⟩
 ·exact w.elim
 ·obtain⟨xs,h1,w⟩:=w
  obtain⟨a,ys,rfl,g,r⟩:=fY rh hx h1
  have e:(!xs.isEmpty)=!ys.isEmpty:=by
   have:=r.len
   cases xs <;> cases ys <;> first|rfl|(simp at this)
  refine⟨_,?_,w m H (Ext.refl _ _ _) rh⟩
  rw[e]
  rcases g with g|g
  ·exact .inl ⟨ys,g,rfl⟩
  ·exact .inr (.inl ⟨ys,g,rfl⟩)
end
end FW
namespace FW
open L2 HX
mutual
noncomputable def PV.same:PV→PV→Bool
 | .non,y=>match y with | .non=>true|_=>false
 | .bl a,y=>match y with | .bl b=>a == b|_=>false
 | .int a,y=>match y with | .int b=>a == b|_=>false
 | .str a,y=>match y with | .str b=>a == b|_=>false
 | .tup xs,y=>match y with | .tup ys=>PV.sames xs ys|_=>false
 | .ref a,y=>match y with | .ref b=>a == b|_=>false
 | .rdl xs,y=>match y with | .rdl ys=>PV.sames xs ys|_=>false
 | .fn a,y=>match y with | .fn b=>a == b|_=>false
noncomputable def PV.sames:List PV→List PV→Bool
 | [],y=>y.isEmpty
 | x::xs,y=>match y with|y::ys=>x.same y && PV.sames xs ys | []=>false
end
mutual
theorem PV.same_eq:∀ {x y:PV},x.same y=true→x=y
 | .non,y,h=>by cases y with|non=>rfl|_=>exact Bool.noConfusion (show false=true from h)
 | .bl a,y,h=>by cases y with|bl b=>rw[eq_of_beq (show (a == b)=true from h)] | _=>exact Bool.noConfusion (show false=true from h)
 | .int a,y,h=>by cases y with|int b=>rw[eq_of_beq (show (a == b)=true from h)] | _=>exact Bool.noConfusion (show false=true from h)
 | .str a,y,h=>by cases y with|str b=>rw[eq_of_beq (show (a == b)=true from h)] | _=>exact Bool.noConfusion (show false=true from h)
 | .ref a,y,h=>by cases y with|ref b=>rw[eq_of_beq (show (a == b)=true from h)] | _=>exact Bool.noConfusion (show false=true from h)
 | .tup xs,y,h=>by cases y with|tup ys=>rw[PV.sames_eq (show PV.sames xs ys=true from h)] | _=>exact Bool.noConfusion (show false=true from h)
 | .rdl xs,y,h=>by cases y with|rdl ys=>rw[PV.sames_eq (show PV.sames xs ys=true from h)] | _=>exact Bool.noConfusion (show false=true from h)
 | .fn a,y,h=>by cases y with|fn b=>rw[eq_of_beq (show (a == b)=true from h)] | _=>exact Bool.noConfusion (show false=true from h)
theorem PV.sames_eq:∀ {x y:List PV},PV.sames x y=true→x=y
 | [],y,h=>by cases y with|nil=>rfl|cons a b=>exact Bool.noConfusion (show false=true from h)
 | x::xs,y,h=>by
  cases y with
  | nil=>exact Bool.noConfusion (show false=true from h)
  | cons y ys =>
   have h:=(GD _ _).mp (show (x.same y && PV.sames xs ys)=true from h)
   rw[PV.same_eq h.1,PV.sames_eq h.2]
end
structure Cfg where
 N:List Str
 names:List (Str × NameKind)
 fns:List Str
 lim:Nat
 blts:List Str
 gl:List (Str × PV)
 pc:Bool:=false
 hm:Option Nat:=none
noncomputable def Cfg.vis (c:Cfg)(x:Str):Bool:=(c.names.lookup x == some .local || c.names.lookup x == some .cell || c.names.lookup x == some .free) && !(x == ("__debug__":Str)) && !(x == ("__classdict__":Str))
noncomputable def Cfg.loc (c:Cfg)(x:Str):Bool:=c.names.lookup x == some .local || c.names.lookup x == some .cell
noncomputable def Cfg.glb (c:Cfg)(x:Str):Bool:=c.names.lookup x == some .globalImplicit && !(x == ("__debug__":Str)) && !(x == ("__name__":Str))
noncomputable def Cfg.blt (c:Cfg)(x:Str):Bool:=c.glb x && c.blts.contains x
noncomputable def Cfg.fn (c:Cfg)(f:Nat)(x:Str):Bool:=c.fns[f]? == some x && decide (f<c.lim) && c.glb x
noncomputable def kY:B→Str
 | .len=>"len"
 | .max2=>"max"
 | .min2=>"min"
 | .divmod=>"divmod"
 | .int1=>"int"
 | .str1=>"str"
 | .tuple1=>"tuple"
 | .list1=>"list"
 | .all1=>"all"
 | .any1=>"any"
 | .abs1=>"abs"
 | .sorted1=>"sorted"
 | .repr1=>"repr"
 | .sortS=>"sorted"
 | .max1=>"max"
 | .sortD=>"sorted"
noncomputable def qd:M→Str
 | .append=>"append"
 | .pop0=>"pop"
 | .extend=>"extend"
 | .insert=>"insert"
 | .count=>"count"
 | .index=>"index"
noncomputable def kinds:List String:=["int","bool","str","tuple","list","dict"]
noncomputable def my:Expr→Bool
 | .ListComp ..=>false
 | .SetComp ..=>false
 | .DictComp ..=>false
 | _=>true
noncomputable def ua:Expr→Bool
 | .Name ..=>true
 | .Call ..=>true
 | .Subscript ..=>true
 | _=>false
mutual
noncomputable def Tg.low (n:Nat):Tg→Bool
 | .name i=>decide (i<n)
 | .tup ts=>Tgs.low n ts
 | .ltup ts=>Tgs.low n ts
 | .sub _ _=>false
noncomputable def Tgs.low (n:Nat):Tgs→Bool
 | .nil=>true
 | .cons t ts=>Tg.low n t && Tgs.low n ts
end
noncomputable def eX:Expr→Bool
 | .Set ..=>false
 | _=>true
noncomputable def Cfg.inner (c:Cfg)(nt:List Str)(caps:List Nat)(sc:Scope):Cfg:={ c with N:=nt++caps.filterMap (c.N[·]?),names:=sc.names,pc:=false,hm:=none }
noncomputable def v6 (k:Option NameKind):Bool:=k == some .cell || k == some .free
noncomputable def Cfg.block (c:Cfg)(nt:List Str)(caps:List Nat)(sc:Scope):Bool :=
 sc.kind == .function && sc.names.all (fun y=>!(y.2 == .cell)) && sc.names.all (fun y=>!(y.2 == .local) || sc.names.lookup y.1 == some .local) && sc.names.all (fun y=>!(y.2 == .free) || v6 (c.names.lookup y.1))
  && caps.all (fun i=>decide (i<c.N.length)) && (caps.filterMap (c.N[·]?)).all (fun x=>sc.names.lookup x == some .free && v6 (c.names.lookup x)) && decide (nt++caps.filterMap (c.N[·]?)).Nodup
noncomputable def xP:It→Expr→Bool
 | .zip _ _,.Tuple ..=>true
 | .zip _ _,_=>false
 | .zip3 _ _ _,.Tuple ..=>true
 | .zip3 _ _ _,_=>false
 | .enum _,.Tuple ..=>true
 | .enum _,_=>false
 | .seq _,_ | .range1 _,_ | .range2 _ _,_ | .chars _,_ | .range3 _ _ _,_=>true
noncomputable def eD:Expr→Bool
 | .Name ..=>true
 | .List ..=>true
 | .Subscript ..=>true
 | .ListComp ..=>true
 | _=>false
noncomputable def ar (x:Expr)(f:Str→Pos→Bool):Bool:=match x with | .Name y p=>f y p|_=>false
theorem ak {x:Expr}{f:Str→Pos→Bool}(h:ar x f=true):∃y p,x=.Name y p∧f y p=true:=by
 cases x with|Name y p=>exact⟨y,p,rfl,h⟩|_=>exact Bool.noConfusion h
noncomputable def uL (x:Expr)(f:Int→Bool):Bool:=match x with | .Constant (.int j) _ _=>f j|_=>false
theorem vz {x:Expr}{f:Int→Bool}(h:uL x f=true):∃j k p,x=.Constant (.int j) k p∧f j=true:=by
 cases x with
 | Constant v k p=>cases v with|int j=>exact⟨j,k,p,rfl,h⟩|_=>exact Bool.noConfusion h
 | _=>exact Bool.noConfusion h
noncomputable def D6 (x:Expr)(f:Bool→Bool):Bool:=match x with | .Constant (.bool j) _ _=>f j|_=>false
theorem zX {x:Expr}{f:Bool→Bool}(h:D6 x f=true):∃j k p,x=.Constant (.bool j) k p∧f j=true:=by
 cases x with
 | Constant v k p=>cases v with|bool j=>exact⟨j,k,p,rfl,h⟩|_=>exact Bool.noConfusion h
 | _=>exact Bool.noConfusion h
noncomputable def rg (x:Expr)(f:Str→Bool):Bool:=match x with | .Constant (.str j) _ _=>f j|_=>false
theorem wb {x:Expr}{f:Str→Bool}(h:rg x f=true):∃j k p,x=.Constant (.str j) k p∧f j=true:=by
 cases x with
 | Constant v k p=>cases v with|str j=>exact⟨j,k,p,rfl,h⟩|_=>exact Bool.noConfusion h
 | _=>exact Bool.noConfusion h
noncomputable def Bv (x:Expr):Bool:=match x with | .Constant .none _ _=>true|_=>false
theorem vM {x:Expr}(h:Bv x=true):∃k p,x=.Constant .none k p:=by
 cases x with
 | Constant v k p=>cases v with|none=>exact⟨k,p,rfl⟩|_=>exact Bool.noConfusion h
 | _=>exact Bool.noConfusion h
noncomputable def eC (x:Expr)(f:List Expr→Bool):Bool:=match x with | .Tuple xs _ _=>f xs|_=>false
theorem aY {x:Expr}{f:List Expr→Bool}(h:eC x f=true):∃xs k p,x=.Tuple xs k p∧f xs=true:=by
 cases x with|Tuple xs k p=>exact⟨xs,k,p,rfl,h⟩|_=>exact Bool.noConfusion h
noncomputable def ya (x:Expr)(f:List Expr→Bool):Bool:=match x with | .List xs _=>f xs|_=>false
theorem tX {x:Expr}{f:List Expr→Bool}(h:ya x f=true):∃xs p,x=.List xs p∧f xs=true:=by
 cases x with|List xs p=>exact⟨xs,p,rfl,h⟩|_=>exact Bool.noConfusion h
noncomputable def on1 {α:Type}(xs:List α)(f:α→Bool):Bool:=match xs with | [a]=>f a|_=>false
theorem cK {α:Type}{xs:List α}{f:α→Bool}(h:on1 xs f=true):∃a,xs=[a]∧f a=true:=by
 cases xs with
 | nil=>exact Bool.noConfusion h
 | cons a t=>cases t with|nil=>exact⟨a,rfl,h⟩|cons _ _=>exact Bool.noConfusion h
noncomputable def on2 {α:Type}(xs:List α)(f:α→α→Bool):Bool:=match xs with | [a,b]=>f a b|_=>false
theorem iO {α:Type}{xs:List α}{f:α→α→Bool}(h:on2 xs f=true):∃a b,xs=[a,b]∧f a b=true:=by
 cases xs with
 | nil=>exact Bool.noConfusion h
 | cons a t=>cases t with
  | nil=>exact Bool.noConfusion h
  | cons b t=>cases t with|nil=>exact⟨a,b,rfl,h⟩|cons _ _=>exact Bool.noConfusion h
noncomputable def on3 {α:Type}(xs:List α)(f:α→α→α→Bool):Bool:=match xs with | [a,b,c]=>f a b c|_=>false
noncomputable def mh {α:Type}(xs:List α)(f:α→List α→Bool):Bool:=match xs with|a::t=>f a t | []=>false
theorem aA {α:Type}{xs:List α}{f:α→List α→Bool}(h:mh xs f=true):∃a t,xs=a::t∧f a t=true:=by
 cases xs with
 | nil=>exact Bool.noConfusion h
 | cons a t=>exact⟨a,t,rfl,h⟩
noncomputable def ie {α:Type}(x:Option α)(f:α→Bool):Bool:=match x with|some a=>f a|none=>false
theorem fm {α:Type}{x:Option α}{f:α→Bool}(h:ie x f=true):∃a,x=some a∧f a=true:=by
 cases x with
 | none=>exact Bool.noConfusion h
 | some a=>exact⟨a,rfl,h⟩
noncomputable def pz (x:Expr)(f:List (Option Expr)→List Expr→Bool):Bool:=match x with | .Dict ks vs _=>f ks vs|_=>false
theorem lP {x:Expr}{f:List (Option Expr)→List Expr→Bool}(h:pz x f=true):∃ks vs p,x=.Dict ks vs p∧f ks vs=true:=by
 cases x with|Dict ks vs p=>exact⟨ks,vs,p,rfl,h⟩|_=>exact Bool.noConfusion h
noncomputable def BG (x:Expr)(f:Expr→Operator→Expr→Bool):Bool:=match x with | .BinOp l o r _=>f l o r|_=>false
theorem vR {x:Expr}{f:Expr→Operator→Expr→Bool}(h:BG x f=true):∃l o r p,x=.BinOp l o r p∧f l o r=true:=by
 cases x with|BinOp l o r p=>exact⟨l,o,r,p,rfl,h⟩|_=>exact Bool.noConfusion h
noncomputable def zD (x:Expr)(f:Expr→Bool):Bool:=match x with | .UnaryOp .USub y _=>f y|_=>false
theorem vH {x:Expr}{f:Expr→Bool}(h:zD x f=true):∃y p,x=.UnaryOp .USub y p∧f y=true:=by
 cases x with
 | UnaryOp o y p=>cases o with|USub=>exact⟨y,p,rfl,h⟩|_=>exact Bool.noConfusion h
 | _=>exact Bool.noConfusion h
noncomputable def yR (x:Expr)(f:Expr→Bool):Bool:=match x with | .UnaryOp .Not y _=>f y|_=>false
theorem nY {x:Expr}{f:Expr→Bool}(h:yR x f=true):∃y p,x=.UnaryOp .Not y p∧f y=true:=by
 cases x with
 | UnaryOp o y p=>cases o with|Not=>exact⟨y,p,rfl,h⟩|_=>exact Bool.noConfusion h
 | _=>exact Bool.noConfusion h
noncomputable def qF (x:Expr)(f:Expr→CmpOp→Expr→Bool):Bool:=match x with | .Compare l os rs _=>on1 os fun o=>on1 rs fun r=>f l o r|_=>false
theorem gq {x:Expr}{f:Expr→CmpOp→Expr→Bool}(h:qF x f=true):∃l o r p,x=.Compare l [o] [r] p∧f l o r=true:=by
 cases x with
 | Compare l os rs p =>
  obtain⟨o,rfl,h⟩:=cK h
  obtain⟨r,rfl,h⟩:=cK h
  exact⟨l,o,r,p,rfl,h⟩
 | _=>exact Bool.noConfusion h
noncomputable def Ad (x:Expr)(f:PySem.BoolOp→List Expr→Bool):Bool:=match x with | .BoolOp o xs _=>f o xs|_=>false
theorem gi {x:Expr}{f:PySem.BoolOp→List Expr→Bool}(h:Ad x f=true):∃o xs p,x=.BoolOp o xs p∧f o xs=true:=by
 cases x with|BoolOp o xs p=>exact⟨o,xs,p,rfl,h⟩|_=>exact Bool.noConfusion h
noncomputable def Bq (x:Expr)(f:Expr→Expr→Expr→Bool):Bool:=match x with | .IfExp y l r _=>f y l r|_=>false
theorem wq {x:Expr}{f:Expr→Expr→Expr→Bool}(h:Bq x f=true):∃y l r p,x=.IfExp y l r p∧f y l r=true:=by
 cases x with|IfExp y l r p=>exact⟨y,l,r,p,rfl,h⟩|_=>exact Bool.noConfusion h
noncomputable def oi (x:Expr)(f:Expr→Expr→Bool):Bool:=match x with | .Subscript l r _=>f l r|_=>false
theorem eZ {x:Expr}{f:Expr→Expr→Bool}(h:oi x f=true):∃l r p,x=.Subscript l r p∧f l r=true:=by
 cases x with|Subscript l r p=>exact⟨l,r,p,rfl,h⟩|_=>exact Bool.noConfusion h
noncomputable def u8 (x:Expr)(f:Option Expr→Option Expr→Bool):Bool:=match x with | .Slice u v none _=>f u v|_=>false
theorem rL {x:Expr}{f:Option Expr→Option Expr→Bool}(h:u8 x f=true):∃u v p,x=.Slice u v none p∧f u v=true:=by
 cases x with
 | Slice u v w p=>cases w with|none=>exact⟨u,v,p,rfl,h⟩|some _=>exact Bool.noConfusion h
 | _=>exact Bool.noConfusion h
noncomputable def Dj (x:Expr)(f:Expr→Bool):Bool:=match x with | .Slice none none (some z) _=>f z|_=>false
noncomputable def aE (x:Expr)(f:Expr→List Expr→Pos→Bool):Bool:=match x with | .Call g xs [] p=>f g xs p|_=>false
theorem aN {x:Expr}{f:Expr→List Expr→Pos→Bool}(h:aE x f=true):∃g xs p,x=.Call g xs [] p∧f g xs p=true:=by
 cases x with
 | Call g xs ks p=>cases ks with|nil=>exact⟨g,xs,p,rfl,h⟩|cons _ _=>exact Bool.noConfusion h
 | _=>exact Bool.noConfusion h
noncomputable def gX (x:Expr)(f:Expr→Str→Pos→Bool):Bool:=match x with | .Attribute y n p=>f y n p|_=>false
theorem g9 {x:Expr}{f:Expr→Str→Pos→Bool}(h:gX x f=true):∃y n p,x=.Attribute y n p∧f y n p=true:=by
 cases x with|Attribute y n p=>exact⟨y,n,p,rfl,h⟩|_=>exact Bool.noConfusion h
noncomputable def xp (x:Expr)(f:Expr→List Comprehension→Scope→Pos→Bool):Bool:=match x with | .ListComp e gs sc p=>f e gs sc p|_=>false
theorem iB {x:Expr}{f:Expr→List Comprehension→Scope→Pos→Bool}(h:xp x f=true):∃e gs sc p,x=.ListComp e gs sc p∧f e gs sc p=true:=by
 cases x with|ListComp e gs sc p=>exact⟨e,gs,sc,p,rfl,h⟩|_=>exact Bool.noConfusion h
noncomputable def Cq (x:Expr)(f:Expr→Expr→List Comprehension→Scope→Pos→Bool):Bool:=match x with | .DictComp k v gs sc p=>f k v gs sc p|_=>false
theorem zP {x:Expr}{f:Expr→Expr→List Comprehension→Scope→Pos→Bool}(h:Cq x f=true):∃k v gs sc p,x=.DictComp k v gs sc p∧f k v gs sc p=true:=by
 cases x with|DictComp k v gs sc p=>exact⟨k,v,gs,sc,p,rfl,h⟩|_=>exact Bool.noConfusion h
noncomputable def qP (wk:DW)(x:Expr)(f:Expr→Bool):Bool:=match wk with
 | .keys=>eX x && f x
 | .items=>aE x fun g xs cp=>gX g fun y n ap=>n == ("items":Str) && ap.endLine == cp.line && xs.isEmpty && eD y && f y
theorem vy {x:Expr}{f:Expr→Bool}(h:qP .keys x f=true):eX x=true∧f x=true:=by
 unfold qP at h
 rw[GD] at h
 exact h
theorem t6 {x:Expr}{f:Expr→Bool}(h:qP .items x f=true):∃y ap cp,x=.Call (.Attribute y "items" ap) [] [] cp∧(ap.endLine == cp.line)=true∧eD y=true∧f y=true:=by
 unfold qP at h
 replace h:=aN h
 obtain⟨g,xs,cp,rfl,h⟩:=h
 replace h:=g9 h
 obtain⟨y,n,ap,rfl,h⟩:=h
 simp only[Bool.and_eq_true,beq_iff_eq] at h
 obtain⟨⟨⟨⟨h1,h2⟩,h3⟩,h4⟩,h5⟩:=h
 subst h1
 cases xs with
 | nil=>exact⟨y,ap,cp,rfl,by rw[h2];simp,h4,h5⟩
 | cons _ _=>cases h3
noncomputable def Au:DW→Expr→Bool
 | .items,.Tuple ..=>true
 | .items,_=>false
 | .keys,_=>true
theorem C6 {α β:Type}{xs:List α}{ys:List β}(h:(xs.isEmpty && ys.isEmpty)=true):xs=[]∧ys=[]:=by
 cases xs with
 | nil=>cases ys with|nil=>exact⟨rfl,rfl⟩|cons _ _=>exact Bool.noConfusion h
 | cons _ _=>exact Bool.noConfusion h
theorem wj {α:Type}{x:Option α}(h:x.isNone=true):x=none:=by
 cases x with|none=>rfl|some _=>exact Bool.noConfusion h
noncomputable def DT (x:Expr)(f:Arguments→Expr→Scope→Bool):Bool:=match x with | .Lambda a b sc _=>f a b sc|_=>false
noncomputable def Ev (x:Arguments)(f:Str→Bool):Bool:=x.posonlyargs.isEmpty && x.vararg.isNone && x.kwonlyargs.isEmpty && x.kw_defaults.isEmpty && x.kwarg.isNone && x.defaults.isEmpty && on1 x.args fun a=>f a.arg
noncomputable def Cfg.lam (c:Cfg)(k:Nat)(y:Str)(caps:List Nat)(sc:Scope):Cfg:={ c with N:=y::caps.filterMap (c.N[·]?),names:=sc.names,lim:=k,pc:=false,hm:=none }
noncomputable def Cfg.lamOk (c:Cfg)(k:Nat)(y:Str)(caps:List Nat)(sc:Scope):Bool :=
 sc.kind == .function && !sc.isCoroutine && !sc.isGenerator && sc.names.all (fun y=>!(y.2 == .cell)) && sc.names.lookup y == some .local && sc.names.all (fun y=>!(y.2 == .local) || sc.names.lookup y.1 == some .local) && sc.names.all (fun y=>!(y.2 == .free) || v6 (c.names.lookup y.1))
  && decide (k+1<c.lim) && caps.all (fun i=>decide (i<c.N.length)) && (caps.filterMap (c.N[·]?)).all (fun x=>sc.names.lookup x == some .free && v6 (c.names.lookup x)) && decide (y::caps.filterMap (c.N[·]?)).Nodup
mutual
noncomputable def ao (c:Cfg):E→Expr→Bool
 | .var i,x=>ar x fun y _=>c.N[i]? == some y && c.vis y
 | .int i,x=>uL x fun j=>i == j
 | .bl i,x=>D6 x fun j=>i == j
 | .non,x=>Bv x
 | .str i,x=>rg x fun j=>i == j
 | .gv y v,x=>ar x fun z _=>z == y && c.glb y && ie (c.gl.lookup y) fun w=>w.same v
 | .tup es,x=>eC x fun xs=>ei c es xs
 | .lst es,x=>ya x fun xs=>ei c es xs
 | .dct1 k i,x=>pz x fun ks vs=>on1 ks fun ok=>ie ok fun kx=>rg kx fun k'=>on1 vs fun vx=>uL vx fun i'=>k == k' && i == i'
 | .dct0,x=>pz x fun ks vs=>ks.isEmpty && vs.isEmpty
 | .bin op a b,x=>BG x fun l o r=>o == op && ao c a l && ao c b r
 | .neg a,x=>zD x fun y=>ao c a y
 | .not a,x=>yR x fun y=>ao c a y
 | .cmp op a b,x=>qF x fun l o r=>o == op && !behindInMarks o r && ao c a l && ao c b r
 | .bop k es,x=>Ad x fun o xs=>(o == if k then .And else .Or) && ei c es xs && !xs.isEmpty
 | .ite t a b,x=>Bq x fun y l r=>vJ c t y && ao c a l && ao c b r
 | .ix a b,x=>oi x fun l r=>i4 r && ao c a l && ao c b r
 | .sl a lo hi,x=>oi x fun l r=>u8 r fun u v=>ao c a l && Ds c lo u && Ds c hi v
 | .call f es,x=>aE x fun g xs _=>ar g fun y _=>c.fn f y && xs.all ag && ei c es xs
 | .blt b es,x=>aE x fun g xs _=>ar g fun y _=>y == kY b && c.blt y && xs.all ag && !xs.isEmpty && ei c es xs
 | .inst a t,x=>aE x fun g xs _=>ar g fun y _=>on2 xs fun l r=>ar r fun z _=>y == ("isinstance":Str) && c.blt y && ag l && z == (t:Str) && c.blt z && kinds.contains t && ao c a l
 | .met m o es,x=>aE x fun g xs cp=>gX g fun y n ap=>n == qd m && ap.endLine == cp.line && xs.all ag && decide (xs.length≤2) && eD y && ao c o y && ei c es xs
 | .comp elt tg it ifs nt caps,x=>xp x fun ex gs sc _=>on1 gs fun g=>g.is_async == 0 && xP it g.target && eX g.iter && tg.low nt.length && c.block nt caps sc && zS c it g.iter && gP (c.inner nt caps sc) tg g.target && j8 (c.inner nt caps sc) ifs g.ifs && ao (c.inner nt caps sc) elt ex
 | .tmp a,x=>ao c a x
 | .compK elt tg wk e ifs nt caps,x=>xp x fun ex gs sc _=>on1 gs fun g=>g.is_async == 0 && Au wk g.target && eX g.iter && tg.low nt.length && c.block nt caps sc && qP wk g.iter (fun y=>ao c e y) && gP (c.inner nt caps sc) tg g.target && j8 (c.inner nt caps sc) ifs g.ifs && ao (c.inner nt caps sc) elt ex
 | .compD kx vx tg wk e ifs nt caps,x=>Cq x fun ek ev gs sc _=>on1 gs fun g=>g.is_async == 0 && Au wk g.target && eX g.iter && tg.low nt.length && c.block nt caps sc && qP wk g.iter (fun y=>ao c e y) && gP (c.inner nt caps sc) tg g.target && j8 (c.inner nt caps sc) ifs g.ifs && ao (c.inner nt caps sc) kx ek && ao (c.inner nt caps sc) vx ev
 | .dct2 k v,x=>pz x fun ks vs=>on1 ks fun ok=>ie ok fun kx=>on1 vs fun vx=>ao c k kx && ao c v vx
 | .dcl a,x=>aE x fun g xs _=>ar g fun y _=>on1 xs fun u=>y == ("dict":Str) && c.blt y && ag u && ao c a u
 | .eqd ne a b,x=>qF x fun l o r=>(o == if ne then .NotEq else .Eq) && !behindInMarks o r && ao c a l && ao c b r
 | .bad,_=>true
 | .dget a b,x=>aE x fun g xs cp=>gX g fun y n ap=>on1 xs fun u=>n == ("get":Str) && ap.endLine == cp.line && ag u && eD y && ao c a y && ao c b u
 | .dcp a,x=>aE x fun g xs _=>ar g fun y _=>on1 xs fun u=>y == ("dict":Str) && c.blt y && ag u && ao c a u
 | .clr a,x=>aE x fun g xs cp=>gX g fun y n ap=>n == ("clear":Str) && ap.endLine == cp.line && xs.isEmpty && eD y && ao c a y
 | .sset a,x=>aE x fun g xs _=>ar g fun y _=>on1 xs fun l=>aE l fun g2 ys _=>ar g2 fun z _=>on1 ys fun u=>y == ("sorted":Str) && c.blt y && z == ("set":Str) && c.blt z && ag l && ag u && ao c a u
 | .jrev a,x=>aE x fun g xs cp=>gX g fun y n ap=>rg y fun j=>on1 xs fun l=>oi l fun u r=>Dj r fun z=>zD z fun z1=>uL z1 fun i=>n == ("join":Str) && ap.endLine == cp.line && j == ("":Str) && i == 1 && ao c a u
 | .part a s,x=>aE x fun g xs cp=>gX g fun y n ap=>on1 xs fun l=>rg l fun j=>n == ("partition":Str) && ap.endLine == cp.line && j == s && !(s.length == 0) && eD y && ao c a y
 | .pcall i e,x=>c.pc && aE x fun g xs _=>ar g fun y _=>on1 xs fun l=>c.N[i]? == some y && c.vis y && ag l && ao c e l
 | .hm e be caps,x=>ie c.hm fun k=>aE x fun g xs _=>ar g fun y _=>on2 xs fun l r=>DT r fun as b sc=>Ev as fun z=>y == ("how_many":Str) && c.glb y && ag l && c.lamOk k z caps sc && ao c e l && ao (c.lam k z caps sc) be b
termination_by structural e=>e
noncomputable def ei (c:Cfg):Es→List Expr→Bool
 | .nil,xs=>xs.isEmpty
 | .cons e es,xs=>mh xs fun y ys=>ag y && ao c e y && ei c es ys
termination_by structural e=>e
noncomputable def Ds (c:Cfg):O→Option Expr→Bool
 | .no,x=>x.isNone
 | .yes e,x=>ie x fun y=>ao c e y
termination_by structural e=>e
noncomputable def vJ (c:Cfg):E→Expr→Bool
 | .not a,x=>yR x fun y=>vJ c a y
 | .bop k es,x=>Ad x fun o xs=>(o == if k then .And else .Or) && !xs.isEmpty && j8 c es xs
 | .cmp op a b,x=>qF x fun l o r=>o == op && !behindInMarks o r && ao c a l && ao c b r
 | .var i,x=>ar x fun y _=>c.N[i]? == some y && c.vis y
 | .call f es,x=>aE x fun g xs _=>ar g fun y _=>c.fn f y && xs.all ag && ei c es xs
 | .blt b es,x=>aE x fun g xs _=>ar g fun y _=>y == kY b && c.blt y && xs.all ag && !xs.isEmpty && ei c es xs
 | .inst a t,x=>aE x fun g xs _=>ar g fun y _=>on2 xs fun l r=>ar r fun z _=>y == ("isinstance":Str) && c.blt y && ag l && z == (t:Str) && c.blt z && kinds.contains t && ao c a l
 | .tmp a,x=>ua x && ao c a x
 | .ix a b,x=>oi x fun l r=>i4 r && ao c a l && ao c b r
 | .pcall i e,x=>c.pc && aE x fun g xs _=>ar g fun y _=>on1 xs fun l=>c.N[i]? == some y && c.vis y && ag l && ao c e l
 | .eqd ne a b,x=>qF x fun l o r=>(o == if ne then .NotEq else .Eq) && !behindInMarks o r && ao c a l && ao c b r
 | .compK _ _ _ _ _ _ _,_ | .compD _ _ _ _ _ _ _ _,_ | .dcl _,_ | .dct2 _ _,_ | .hm _ _ _,_ | .bl _,_ | .int _,_ | .non,_ | .str _,_ | .gv _ _,_ | .tup _,_ | .lst _,_ | .dct0,_ | .dct1 _ _,_ | .bin _ _ _,_ | .neg _,_ | .ite _ _ _,_ | .sl _ _ _,_ | .met _ _ _,_ | .comp _ _ _ _ _ _,_ | .bad,_ | .jrev _,_ | .sset _,_ | .clr _,_ | .dcp _,_ | .dget _ _,_ | .part _ _,_=>true
termination_by structural e=>e
noncomputable def j8 (c:Cfg):Es→List Expr→Bool
 | .nil,xs=>xs.isEmpty
 | .cons e es,xs=>mh xs fun y ys=>vJ c e y && j8 c es ys
termination_by structural e=>e
noncomputable def zS (c:Cfg):It→Expr→Bool
 | .seq e,x=>eX x && ao c e x
 | .range1 a,x=>aE x fun g xs _=>ar g fun y _=>on1 xs fun l=>y == ("range":Str) && c.blt y && ag l && ao c a l
 | .range2 a b,x=>aE x fun g xs _=>ar g fun y _=>on2 xs fun l r=>y == ("range":Str) && c.blt y && ag l && ag r && ao c a l && ao c b r
 | .zip a b,x=>aE x fun g xs _=>ar g fun y _=>on2 xs fun l r=>y == ("zip":Str) && c.blt y && ag l && ag r && ao c a l && ao c b r
 | .zip3 a b d,x=>aE x fun g xs _=>ar g fun y _=>on3 xs fun l r u=>y == ("zip":Str) && c.blt y && ag l && ag r && ag u && ao c a l && ao c b r && ao c d u
 | .enum a,x=>aE x fun g xs _=>ar g fun y _=>on1 xs fun l=>y == ("enumerate":Str) && c.blt y && ag l && ao c a l
 | .chars e,x=>eX x && ao c e x
 | .range3 a b d,x=>aE x fun g xs _=>ar g fun y _=>on3 xs fun l r u=>y == ("range":Str) && c.blt y && ag l && ag r && ag u && ao c a l && ao c b r && ao c d u
termination_by structural e=>e
noncomputable def gP (c:Cfg):Tg→Expr→Bool
 | .name i,x=>ar x fun y _=>c.N[i]? == some y && c.loc y
 | .tup ts,x=>eC x fun xs=>lg c ts xs
 | .ltup ts,x=>eC x fun xs=>lg c ts xs
 | .sub o i,x=>oi x fun l r=>i4 r && ao c o l && ao c i r
termination_by structural e=>e
noncomputable def lg (c:Cfg):Tgs→List Expr→Bool
 | .nil,xs=>xs.isEmpty
 | .cons t ts,xs=>mh xs fun y ys=>ag y && gP c t y && lg c ts ys
termination_by structural e=>e
end
end FW
namespace FW
open L2 HX
noncomputable def dH (K:W.Frag)(sp:FSp):Sp:=fun vs H Q _=>∃m st as,Rs K m H as vs∧RH K m H st∧sp as st (post K m H Q)
def Cv (P:Program)(w:World)(K:W.Frag)(mg:Str→Option Value)(base:Heap)(k:Nat)(outer:List Env)(s:Shared)(H:Hp)(a:Addr)(L:FSp):Prop :=
 ∀(A':Around) (outer':List Env) (s':Shared) (H':Hp) (u:Value) (v:V) (Q':VK),Room k A'→vQ P w K mg base A' outer' s' H'→Un (frs outer) [] H H' s.heap s'.heap→RelV v u→dH K L [v] H' Q' E0 →
  W.FnAt a s'.heap∧codeAny (model P w) A' (.call (.ref a) ⟨[u],[]⟩) (CR CX0 outer' P w H' s' Q' E0) s'
def EH (L:FSp):Prop:=∀as st Q Q',(∀v st,Q v st→Q' v st)→L as st Q→L as st Q'
def FB (a:Nat)(L:FSp):FSp:=fun as st Q=>∃(xs:List PV) (g:PV→Bool),as=[.tup xs,.fn a]∧xs.length≤100000∧(∀y∈xs,∀Q':EK,Q' (.bl (g y)) st→L [y] st Q')∧Q (.int (bsr g xs)) st
structure Ft (P:Program)(w:World)(K:W.Frag)(mg:Str→Option Value)(base:Heap)(k:Nat):Prop where
 ex:∃f fd,mg "how_many"=some (.ref f)∧W.keepIn K (.ref f)=true∧Binds K fd ["stair","holds"] [] ∧
  ∀(a:Addr) (L:FSp),EH L→∀(A:Around) (outer:List Env) (s:Shared) (H:Hp) (args:Args) (us:List Value) (vs:List V) (Q:VK),Room (k+1) A→vQ P w K mg base A outer s H→BindsTo s fd args ((["stair","holds"]:List Str).zip us)→Vals vs us →
   Cv P w K mg base k outer s H a L→dH K (FB a L) vs H Q E0→codeAny (model P w) A (.call (.ref f) args) (CR CX0 outer P w H s Q E0) s
structure HmX (X:Cx)(k:Nat):Prop where
 ok:Ft X.prog X.w X.K X.mg X.base (k+1)
 cd:∃x c0 T,x∈aS∧W.tabIn X.K x=some (c0,T)∧X.env.code=.ref c0∧X.env.qual=x++".<locals>."∧W.CodeHd X.base c0 T
 bm:∃bm ob,X.mg "__builtins__"=some (.ref bm)∧bm≠builtinsNs∧X.base.get? bm=some ob∧ob.cls=.type "module"∧ob.dict=some builtinsNs∧ob.data=.plain
structure COk (X:Cx)(c:Cfg)(Γ:Nat→FSp):Prop where
 calm:X.calm=true
 pass:PassesOwn (model X.prog X.w) X.A X.env X.xe
 N:X.N=c.N
 nd:c.N.Nodup
 vis:∀x,c.names.lookup x=some .local∨c.names.lookup x=some .cell∨c.names.lookup x=some .free→Vis X.env.scope x
 loc:∀x,c.names.lookup x=some .local∨c.names.lookup x=some .cell→Loc X.env.scope x∧(X.fn x=true∨X.env.scope.names.lookup x=some .local)
 lcl:∀x,c.names.lookup x=some .local→X.env.scope.names.lookup x=some .local
 glb:∀x,c.names.lookup x=some .globalImplicit→Gl X x
 bk:X.env.blockKind=.function
 cel:∀x,c.names.lookup x=some .cell∨c.names.lookup x=some .free→X.env.kindOf x=some .cell∨X.env.kindOf x=some .free
 room:Room c.lim X.A
 fn:∀f x,f<c.lim→c.fns[f]?=some x→∃ps,Has X.prog X.w X.K X.mg X.base (f+1) x ps (dH X.K (Γ f))
 blt:∀x∈c.blts,X.mg x=none
 gl:∀x v,c.gl.lookup x=some v→∃u y,X.mg x=some u∧RelV y u∧∀m H,R X.K m H v y
 mono:aW Γ
 lam:c.pc=true→∀ {pins:List (Addr × Obj)}{σ:L2.St}{H:Hp}{s:Shared}{b:Addr}{u:Value}{v:V}{Q:VK},L2.Inv X pins σ H s→RelV v u→dH X.K (Γ 1000) [.ref b,v] H Q E0 →
  W.FnAt b s.heap∧wpAny (model X.prog X.w) X.A (call (.ref b) [u]) (EP X pins σ Q) X.xe s
 hmo:∀k,c.hm=some k→HmX X k
section
variable {X:Cx}{c:Cfg}{Γ:Nat→FSp}
theorem COk.visx (C:COk X c Γ){x:Str}(h:c.vis x=true):Vis X.env.scope x∧(x == ("__debug__":Str))=false∧(x == ("__classdict__":Str))=false:=by
 unfold Cfg.vis at h
 simp only[Bool.and_eq_true,Bool.or_eq_true,beq_iff_eq,Bool.not_eq_true'] at h
 exact⟨C.vis x (by rcases h.1.1 with (h|h)|h <;> simp[h]),h.1.2,h.2⟩
theorem COk.glbx (C:COk X c Γ){x:Str}(h:c.glb x=true):Gl X x∧(x == ("__debug__":Str))=false∧x≠"__name__":=by
 unfold Cfg.glb at h
 simp only[Bool.and_eq_true,beq_iff_eq,Bool.not_eq_true'] at h
 exact⟨C.glb x h.1.1,h.1.2,fun z=>by rw[z] at h;exact absurd h.2 (by decide)⟩
theorem COk.bltx (C:COk X c Γ){x:Str}(h:c.blt x=true):Gl X x∧(x == ("__debug__":Str))=false∧x≠"__name__"∧X.mg x=none:=by
 unfold Cfg.blt at h
 rw[GD] at h
 obtain⟨h1,h2,h3⟩:=C.glbx h.1
 exact⟨h1,h2,h3,C.blt x (List.contains_iff_mem.mp h.2)⟩
theorem COk.fnx (C:COk X c Γ){f:Nat}{x:Str}(h:c.fn f x=true):Gl X x∧(x == ("__debug__":Str))=false∧Room (f+1) X.A∧∃ps,Has X.prog X.w X.K X.mg X.base (f+1) x ps (dH X.K (Γ f)):=by
 unfold Cfg.fn at h
 simp only[Bool.and_eq_true,beq_iff_eq,decide_eq_true_eq] at h
 obtain⟨h1,h2,h3⟩:=C.glbx h.2
 exact⟨h1,h2,C.room.mono h.1.2,C.fn f x h.1.2 h.1.1⟩
theorem DS:∀b:B,bootBuiltins (kY b)=some (EU b):=by
 intro b
 cases b <;> decide +kernel
theorem sI:∀t∈kinds,bootBuiltins (t:Str)=some (.type t):=by decide +kernel
theorem qM:bootBuiltins ("isinstance":Str)=some (.builtin "isinstance"):=by decide +kernel
theorem tQ {x:Expr}(h:ua x=true)(env:Env):∀whole,isTrue x env whole=(do let v ←whole;standAt x.pos;holding [v] (truthy v)):=by
 cases x <;> first|(intro _;rfl)|cases h
theorem ui {K:W.Frag}{m:List Addr}{H:Hp}{as:List PV}{vs:List V}(h:Rs K m H as vs):Rs K m H as (vs++[]):=by rw[IT];exact h
theorem rB (C:COk X c Γ){f:Nat}{y:Str}{xs:List Expr}{p pos:Pos}{es:Es}(hf:c.fn f y=true)(hn:xs.all ag=true)(hc:ei c es xs=true)(ha:PA X xs (TAx X.K (bV Γ es))) :
  PE X (.Call (.Name y p) xs [] pos) (TEx X.K fun ρ st Q=>bV Γ es ρ st fun vs st1=>Γ f vs st1 Q):=by
 obtain⟨h1,h2,hr,ps,F⟩:=C.fnx hf
 have key:∀ {σ:L2.St}{H:Hp}{Q:VK},TEx X.K (fun ρ st Q=>bV Γ es ρ st fun vs st1=>Γ f vs st1 Q) σ H Q→nT (dH X.K (Γ f)) [] E0 (TAx X.K (bV Γ es)) σ H Q:=by
  rintro σ H Q ⟨m,ρ,st,rf,rh,w⟩
  exact⟨m,ρ,st,rf,rh,ay C.mono es (fun vs st1 k m1 H1 xs1 e1 r1 r2=>⟨m1,st1,vs,ui r2,r1,C.mono _ _ _ _ _ (fun _ _ q=>q.ext e1) k⟩) w⟩
 intro pins s σ H Q I h
 cases xs with
 | nil =>
  refine Bg F hr h1 h2 pins s σ H Q I ?_
  obtain⟨m,ρ,st,rf,rh,w⟩:=h
  cases es with
  | nil=>exact⟨m,st,[],Rs_nil.mpr rfl,rh,w⟩
  | cons e es=>exact Bool.noConfusion (show false=true from hc)
 | cons x xs =>
  rw[IK,GD] at hn
  exact AS F hr ha h1 h2 hn.1 hn.2 pins s σ H Q I (key h)
theorem q_ (C:COk X c Γ){b:B}{y:Str}{xs:List Expr}{p pos:Pos}{es:Es}(hy:y=kY b)(hb:c.blt y=true)(hn:xs.all ag=true)(hne:xs.isEmpty=false)(ha:PA X xs (TAx X.K (bV Γ es))) :
  PE X (.Call (.Name y p) xs [] pos) (TEx X.K fun ρ st Q=>bV Γ es ρ st fun vs st1=>c_ b vs st1 Q):=by
 obtain⟨h1,h2,h3,h4⟩:=C.bltx hb
 have hv:=DS b
 rw[←hy] at hv
 have key:∀ {σ:L2.St}{H:Hp}{Q:VK},TEx X.K (fun ρ st Q=>bV Γ es ρ st fun vs st1=>c_ b vs st1 Q) σ H Q→tCB (ES X.K (c_ b)) (TAx X.K (bV Γ es)) σ H Q:=by
  rintro σ H Q ⟨m,ρ,st,rf,rh,w⟩
  exact⟨m,ρ,st,rf,rh,ay C.mono es (fun vs st1 k m1 H1 xs1 e1 r1 r2=>⟨m1,st1,vs,r1,r2,gy (fun _ _ q=>q.ext e1) k⟩) w⟩
 have hc:=BR C.calm C.room.gd C.room.units b
 cases xs with
 | nil=>cases hne
 | cons x xs =>
  rw[IK,GD] at hn
  intro pins s σ H Q I h
  cases b <;> first
   | exact nI hc h1 h4 hv ha h3 h2 hn.1 hn.2 pins s σ H Q I (key h)
   | exact lz hc h1 h4 hv ha h3 h2 hn.1 hn.2 pins s σ H Q I (key h)
theorem vZ (m:M):PlainAttrs "list"∧Slot "list" (qd m) (u5 m)∧typeOf (.builtin (u5 m))=pure (.type "method_descriptor"):=by
 cases m
 ·exact⟨HR,PySem.F.slot_list_append,PySem.F.type_list_append⟩
 ·exact⟨HR,PySem.F.slot_list_pop,PySem.F.type_list_pop⟩
 ·exact⟨HR,PySem.F.slot_list_extend,PySem.F.type_list_extend⟩
 ·exact⟨HR,PySem.F.slot_list_insert,PySem.F.type_list_insert⟩
 ·exact⟨HR,PySem.F.slot_list_count,PySem.F.type_list_count⟩
 ·exact⟨HR,PySem.F.slot_list_index,PySem.F.type_list_index⟩
theorem eT {y:Expr}(h:eD y=true){n:Str}{env:Env}{w:Sem Value}:attributeBase y n env w=w:=by
 cases y <;> first|rfl|cases h
theorem xB (C:COk X c Γ){m:M}{n:Str}{y:Expr}{ap cp:Pos}{xs:List Expr}{o:E}{es:Es}(hn:n=qd m)(hl:(ap.endLine == cp.line)=true)(hs:xs.all ag=true)(h2:xs.length≤2)(hy:eD y=true)(ho:PE X y (TEx X.K (wpE Γ o)))(ha:PA X xs (TAx X.K (bV Γ es)))(hc:ei c es xs=true) :
  PE X (.Call (.Attribute y n ap) xs [] cp) (TEx X.K (wpE Γ (.met m o es))):=by
 obtain⟨pa,slot,ty⟩:=vZ m
 rw[←hn] at slot
 have hm:MtR X (u5 m) (DU X.K (qm m)):=Cd m
 intro pins s σ H Q I h
 obtain⟨mm,ρ,st,rf,rh,w⟩:=h
 skip
 have tyv:∀ {m1:List Addr} {H1:Hp} {st1:AH} {v:PV} {x:V},RH X.K m1 H1 st1→R X.K m1 H1 v x→(∃xs,bc st1 v=some xs)→tyV X.K "list" x H1:=by
  rintro m1 H1 st1 v x r1 r2 ⟨xs,e⟩
  obtain⟨a,ys,rfl,g,_⟩:=eV r1 r2 e
  exact .inl ⟨rfl,ys,g⟩
 match xs,hs,h2,ha,hc with
 | [],hs,h2,ha,hc =>
  refine yz pa slot ty hm ho (eT hy) hl pins s σ H Q I ?_
  refine⟨mm,ρ,st,rf,rh,aa C.mono o (fun v st1 k m1 H1 x1 e1 r1 r2=>⟨tyv r1 r2 k.1,?_⟩) w⟩
  cases es with
  | nil =>
   have k2:=k.2
   skip
   exact⟨m1,st1,v,[],r1,r2,Rs_nil.mpr rfl,gp (fun _ _ q=>q.ext e1) k2⟩
  | cons e es=>exact Bool.noConfusion (show false=true from hc)
 | [a],hs,h2,ha,hc =>
  simp only[List.all_cons,List.all_nil,Bool.and_true] at hs
  have st1:starEach [a] X.env=[(false,eval a X.env)]:=cI hs
  refine yN pa slot ty hm ho ha (eT hy) (by rw[st1];rfl) hl st1 rfl pins s σ H Q I ?_
  refine⟨mm,ρ,st,rf,rh,aa C.mono o (fun v st1 k m1 H1 x1 e1 r1 r2=>⟨tyv r1 r2 k.1,?_⟩) w⟩
  exact⟨m1,ρ,st1,rf.mono e1,r1,ay C.mono es (fun vs st2 k m2 H2 xs2 e2 r3 r4=>⟨m2,st2,v,vs,r3,r2.mono e2,r4,gp (fun _ _ q=>q.ext (e1.trans e2)) k⟩) k.2⟩
 | [a,b],hs,h2,ha,hc =>
  simp only[List.all_cons,List.all_nil,Bool.and_true,Bool.and_eq_true] at hs
  have stb:starEach [b] X.env=[(false,eval b X.env)]:=cI hs.2
  have st1:starEach [a,b] X.env=(false,eval a X.env)::starEach [b] X.env:=cI hs.1
  refine yN pa slot ty hm ho ha (eT hy) (by rw[st1,stb];rfl) hl st1 (by rw[stb];rfl) pins s σ H Q I ?_
  refine⟨mm,ρ,st,rf,rh,aa C.mono o (fun v st1 k m1 H1 x1 e1 r1 r2=>⟨tyv r1 r2 k.1,?_⟩) w⟩
  exact⟨m1,ρ,st1,rf.mono e1,r1,ay C.mono es (fun vs st2 k m2 H2 xs2 e2 r3 r4=>⟨m2,st2,v,vs,r3,r2.mono e2,r4,gp (fun _ _ q=>q.ext (e1.trans e2)) k⟩) k.2⟩
 | _::_::_::_,hs,h2,ha,hc=>simp at h2
mutual
theorem PV.bel_le {i j:Nat}(h:i≤j):∀ {v:PV},v.bel i=true→v.bel j=true
 | .non,_=>by rw[PV.bel]
 | .bl _,_=>by rw[PV.bel]
 | .int _,_=>by rw[PV.bel]
 | .str _,_=>by rw[PV.bel]
 | .ref n,z=>by rw[PV.bel] at z ⊢;have:=HC z;exact HB (by omega)
 | .tup xs,z=>by rw[PV.bel] at z ⊢;exact PV.bels_le h z
 | .rdl xs,z=>by rw[PV.bel] at z ⊢;exact PV.bels_le h z
 | .fn _,z=>by rw[PV.bel] at z;cases z
theorem PV.bels_le {i j:Nat}(h:i≤j):∀ {vs:List PV},PV.bels i vs=true→PV.bels j vs=true
 | [],_=>by rw[PV.bels]
 | v::vs,z=>by rw[PV.bels,GD] at z ⊢;exact⟨PV.bel_le h z.1,PV.bels_le h z.2⟩
end
theorem uO (C:COk X c Γ){a:E}{t:String}{l:Expr}{y z:Str}{p q pos:Pos}(h:(y == ("isinstance":Str) && c.blt y && ag l && z == (t:Str) && c.blt z && kinds.contains t)=true)(ha:PE X l (TEx X.K (wpE Γ a))) :
  PE X (.Call (.Name y p) [l,.Name z q] [] pos) (TEx X.K (wpE Γ (.inst a t))):=by
 simp only[Bool.and_eq_true,beq_iff_eq] at h
 obtain⟨⟨⟨⟨⟨h1,h2⟩,h3⟩,h4⟩,h5⟩,h6⟩:=h
 subst h1 h4
 have ht:t∈kinds:=List.contains_iff_mem.mp h6
 obtain⟨g1,g2,g3,g4⟩:=C.bltx h2
 obtain⟨k1,k2,k3,k4⟩:=C.bltx h5
 rintro pins s σ H Q I ⟨m,ρ,st,rf,rh,w⟩
 skip
 have pt:PE X (.Name (t:Str) q) (tC (.ty t)):=Bk k1 k4 (sI t ht) rfl k3 k2
 have hA:PA X [l,.Name (t:Str) q] (qH (TEx X.K (wpE Γ a)) (qH (tC (.ty t)) xO)):=pac ha (pac pt jz) h3
 have hC:dn X (.builtin "isinstance") (fun xs H Q=>∃m st x y n,RH X.K m H st∧R X.K m H x y∧xs=[y,.ty t]∧dJ st x=some n∧Q (.bl (f8 t n)) H):=by
  rintro pins s σ H xs us Q I r ⟨m,st,x,y,n,r1,r2,rfl,e,q⟩
  obtain⟨u,v,rfl,ru,rv⟩:=u7 r
  cases (show v=Value.type t from rv)
  exact Ax (K:=X.K) I r1 r2 ru e ht fun tk=>⟨.bl _,H,I.tok tk,rfl,q⟩
 refine nI hC g1 g4 qM hA g3 g2 h3 rfl pins s σ H Q I ?_
 refine⟨m,ρ,st,rf,rh,aa C.mono a (fun v st1 k m1 H1 x1 e1 r1 r2=>?_) w⟩
 obtain⟨n,e,k⟩:=k
 exact⟨m1,st1,v,x1,n,r1,r2,rfl,e,(k.ext e1).here r1 (R_bl.mpr rfl)⟩
theorem xh (C:COk X c Γ){i:Nat}{y:Str}{p:Pos}(h:(c.N[i]? == some y && c.vis y)=true):PE X (.Name y p) (TEx X.K (wpE Γ (.var i))):=by
 simp only[Bool.and_eq_true,beq_iff_eq] at h
 obtain⟨h1,h2,h3⟩:=C.visx h.2
 rintro pins s σ H Q I ⟨m,ρ,st,rf,rh,w⟩
 skip
 obtain⟨v,e,w⟩:=w
 obtain⟨y,e2,r⟩:=rf.at_ i v e
 exact CP (by rw[C.N];exact h.1) h1 h2 h3 pins s σ H Q I ⟨y,e2,w.here rh r⟩
theorem qe {K:W.Frag}{m m':List Addr}{H H':Hp}{st st':AH}{Q:EK}{v:PV}{x:V}(rh:RH K m H st)(e:Ext K m H m' H')(rh':RH K m' H' st')(r:R K m' H' v x)(q:Tmp st Q v st') :
  ∃st1,Q v st1∧Ext K m H m H'∧RH K m H' st1∧R K m H' v x:=by
 obtain⟨st1,g,rfl,hl,hs,hb,q⟩:=q
 have hm:m'.take m.length=m:=by
  obtain⟨t,ht⟩:=e.pre
  rw[←ht,List.take_left]
 have hlen:m.length=st.length:=rh.len
 refine⟨st1,q,⟨JH _,fun _ z=>.inl z,e.fr,e.tup,e.rdf,e.tbs,e.tb,e.frz⟩,⟨by rw[hl,hlen],rh.nd,fun n c a h1 h2=>?_,e.tb rh.tb⟩,?_⟩
 ·have hn:n<st1.length:=(FY.mp h1).1
  have c1:CellR K m' H' c a:=rh'.at_ n c a (by rw[GG hn];exact h1) (gA e.pre h2)
  have hc:c.bec m.length=true:=by
   rcases hs n (by omega) with z|⟨c',z,zb⟩
   ·rw[h1] at z
    exact(rh.at_ n c a z.symm h2).bel
   ·rw[h1] at z
    cases z
    have zb':∀ {c:Cell},c.bel 0=true→c.bec m.length=true:=by
     have b0:∀(xs:List PV),PV.bels 0 xs=true→PV.becs m.length xs=true:=fun xs h=>PV.bels_becs (IZ _) h
     intro c h
     cases c with
     | lst xs=>exact b0 _ h
     | dk kvs=>exact b0 _ h
     | fz kvs=>cases h
    exact zb' zb
  have:=c1.cut hc
  rw[hm] at this
  exact this
 ·have:=r.cut (k:=m.length) (by rw[hlen];exact PV.bel_bec (F2 _) hb)
  rw[hm] at this
  exact this
noncomputable def postF (K:W.Frag)(m:List Addr)(H:Hp)(Q:L2.St→Hp→Prop):Fr→AH→Prop:=fun ρ' st'=>∀m' H' σ',Ext K m H m' H'→RH K m' H' st'→RF K m' H' ρ' σ'→Q σ' H'
theorem postF.ext {K:W.Frag}{m m1:List Addr}{H H1:Hp}{Q:L2.St→Hp→Prop}(x:Ext K m H m1 H1){ρ:Fr}{st:AH}(q:postF K m H Q ρ st):postF K m1 H1 Q ρ st:=fun m' H' σ' e r s=>q m' H' σ' (x.trans e) r s
theorem postF.here {K:W.Frag}{m:List Addr}{H:Hp}{Q:L2.St→Hp→Prop}{ρ:Fr}{σ:L2.St}{st:AH}(q:postF K m H Q ρ st)(h:RH K m H st)(r:RF K m H ρ σ):Q σ H:=q m H σ (Ext.refl _ _ _) h r
noncomputable def TGx (K:W.Frag)(w:PV→Fr→AH→(Fr→AH→Prop)→Prop):TG:=fun v' σ H Q=>∃m ρ st v,RF K m H ρ σ∧RH K m H st∧R K m H v v'∧w v ρ st (postF K m H Q)
noncomputable def Fi (K:W.Frag)(w:List PV→Fr→AH→(Fr→AH→Prop)→Prop):TGs:=fun v' σ H Q=>∃m ρ st v,RF K m H ρ σ∧RH K m H st∧Rs K m H v v'∧w v ρ st (postF K m H Q)
theorem COk.locx (C:COk X c Γ){x:Str}(h:c.loc x=true):Loc X.env.scope x∧(X.fn x=true∨X.env.scope.names.lookup x=some .local):=by
 unfold Cfg.loc at h
 simp only[Bool.or_eq_true,beq_iff_eq] at h
 exact C.loc x h
theorem COk.ndX (C:COk X c Γ):X.N.Nodup:=by rw[C.N];exact C.nd
theorem gN {e:Expr}{es:List Expr}{env:Env}(h:ag e=true):assignEach (e::es) env=(false,assign e env)::assignEach es env:=by
 cases e <;> first|rfl|cases h
theorem mC {c:Cfg}:∀ {ts:Tgs}{xs:List Expr}{env:Env},lg c ts xs=true→(assignEach xs env).length=ts.size∧(assignEach xs env).findIdx? (·.1)=none
 | .nil,xs,env,h=>by
  have h:xs.isEmpty=true:=h
  cases xs with
  | nil=>exact⟨rfl,rfl⟩
  | cons _ _=>cases h
 | .cons t ts,xs,env,h=>by
  replace h:=aA h
  obtain⟨y,ys,rfl,h⟩:=h
  ·simp only[Bool.and_eq_true] at h
   obtain⟨⟨h1,h2⟩,h3⟩:=h
   obtain⟨g1,g2⟩:=mC (env:=env) h3
   rw[gN h1]
   exact⟨by simp[g1,Tgs.size],by simp[List.findIdx?_cons,g2]⟩
structure pD (K:W.Frag)(J:L2.It)(xs:List PV)(chk:AH→Prop)(m0:List Addr)(H0:Hp):Prop where
 stop:∀m H st,Ext K m0 H0 m H→RH K m H st→chk st→J.stop xs.length H
 item:∀(i:Nat) v m H st,Ext K m0 H0 m H→RH K m H st→chk st→xs[i]?=some v→J.go i H∧∀x H',J.yld i H x H'→Ext K m H m H'∧RH K m H' st∧R K m H' v x
noncomputable def TIx (K:W.Frag)(w:Fr→AH→(List PV→(AH→Prop)→AH→Prop)→Prop):TI:=fun σ H Rr=>∃m ρ st,RF K m H ρ σ∧RH K m H st ∧
 w ρ st fun xs chk st1=>∀m1 H1 J,Ext K m H m1 H1→RH K m1 H1 st1→pD K J xs chk m1 H1→Rr J H1
theorem lQ {x:Expr}{env:Env}(h:eX x=true):∀v,foldedSetIterable x env v=pure v:=by
 cases x <;> first|(intro _;rfl)|cases h
theorem DP {tg l:Expr}{tl:TE}(hl:PE X l tl):PI X tg l (fun σ H Rr=>tl σ H fun x H1=>∃a,x=.ref a∧((∃xs,SqL X.K H1 a xs)∧Rr (Itl X.K a) H1∨(∃xs,SqT X.K H1 a xs)∧Rr (Itt X.K a) H1)):=by
 intro pins s σ H Rr I h
 refine thn (hl pins s σ H _ I h) fun v s1 ⟨x,H1,I1,r1,q1⟩=>?_
 obtain⟨a,e,q1⟩:=q1
 subst e
 cases r1
 rcases q1 with⟨⟨xs,hq⟩,q⟩|⟨⟨xs,hq⟩,q⟩
 ·obtain⟨its,rv,p,hz⟩:=I1.list hq
  refine wpAny_pyIter_list p.isList ?_
  refine⟨s1.heap.objs.size,[s1.heap.objs.size],_,_,H1,rfl,I1.kept (t':=s1.toks) fun b o e=>F5 _ e,vU a _,⟨_,GP _ rfl,rfl,rfl⟩,fun b hb=>?_,q⟩
  have e:b=s1.heap.objs.size:=by simpa using hb
  subst e
  exact I1.fpOk (F2 _) (I1.hok.fresh (F2 _))
 ·obtain⟨its,rv,p,hz⟩:=I1.tuple hq
  refine wpAny_pyIter_tuple (show s1.heap.IsTuple a its.toArray from p) ?_
  refine⟨s1.heap.objs.size,[s1.heap.objs.size],_,_,H1,rfl,I1.kept (t':=s1.toks) fun b o e=>F5 _ e,rP a _,⟨_,GP _ rfl,rfl,rfl⟩,fun b hb=>?_,q⟩
  have e:b=s1.heap.objs.size:=by simpa using hb
  subst e
  exact I1.fpOk (F2 _) (I1.hok.fresh (F2 _))
theorem wp {K:W.Frag}{m0:List Addr}{H0:Hp}{st0:AH}{n:Nat}{a:Addr}{xs:List PV}(rh:RH K m0 H0 st0)(e:st0[n]?=some (.lst xs))(ea:m0[n]?=some a):pD K (Itl K a) xs (fun st'=>st'[n]?=st0[n]?) m0 H0:=by
 have get:∀m H st,Ext K m0 H0 m H→RH K m H st→st[n]?=st0[n]?→∃ys,H a=some (.lst ys)∧Rs K m H xs ys:=fun m H st x r q=>by
  rw[e] at q
  exact r.at_ n _ a q (gA x.pre ea)
 refine⟨fun m H st x r q=>?_,fun i v m H st x r q ev=>?_⟩
 ·obtain⟨ys,h1,h2⟩:=get m H st x r q
  exact⟨ys,SqL.of h1,by rw[h2.len];exact F2 _⟩
 ·obtain⟨ys,h1,h2⟩:=get m H st x r q
  obtain⟨y,e1,r1⟩:=h2.get ev
  refine⟨⟨ys,y,SqL.of h1,e1⟩,fun z H' ⟨e2,e3⟩=>?_⟩
  subst e2
  have:=e3 ys (SqL.of h1)
  rw[e1] at this
  cases this
  exact⟨Ext.refl _ _ _,r,r1⟩
theorem zk {K:W.Frag}{m0:List Addr}{H0:Hp}{a:Addr}{xs:List PV}{ys:List V}(h:RdF K H0 a ys)(r0:Rs K m0 H0 xs ys):pD K (Itl K a) xs (fun _=>True) m0 H0:=by
 refine⟨fun m H st x r q=>⟨ys,(x.rdf _ _ h).sq,by rw[r0.len];exact F2 _⟩,fun i v m H st x r q ev=>?_⟩
 obtain⟨y,e1,r1⟩:=(r0.mono x).get ev
 refine⟨⟨ys,y,(x.rdf _ _ h).sq,e1⟩,fun z H' ⟨e2,e3⟩=>?_⟩
 subst e2
 have:=e3 ys (x.rdf _ _ h).sq
 rw[e1] at this
 cases this
 exact⟨Ext.refl _ _ _,r,r1⟩
theorem zZ {K:W.Frag}{m0:List Addr}{H0:Hp}{a:Addr}{xs:List PV}{ys:List V}(h:SqT K H0 a ys)(r0:Rs K m0 H0 xs ys):pD K (Itt K a) xs (fun _=>True) m0 H0:=by
 refine⟨fun m H st x r q=>⟨ys,x.tup _ _ h,by rw[r0.len];exact F2 _⟩,fun i v m H st x r q ev=>?_⟩
 obtain⟨y,e1,r1⟩:=(r0.mono x).get ev
 refine⟨⟨ys,y,x.tup _ _ h,e1⟩,fun z H' ⟨e2,e3⟩=>?_⟩
 subst e2
 have:=e3 ys (x.tup _ _ h)
 rw[e1] at this
 cases this
 exact⟨Ext.refl _ _ _,r,r1⟩
theorem ud {K:W.Frag}{m0:List Addr}{H0:Hp}{lo:Int}{n:Nat}:pD K (Itr lo n) (di lo n) (fun _=>True) m0 H0:=by
 refine⟨fun m H st x r q=>by show n≤_;simp[di],fun i v m H st x r q ev=>?_⟩
 unfold di at ev
 rw[F9] at ev
 have hi:i<n:=by
  by_cases hi:i<n
  ·exact hi
  ·rw[HP (by simp;omega)] at ev;cases ev
 rw[IL hi] at ev
 cases ev
 refine⟨hi,fun z H' ⟨e2,e3⟩=>?_⟩
 subst e2 e3
 exact⟨Ext.refl _ _ _,r,R_int.mpr rfl⟩
end
end FW
namespace FW
open L2 HX
section
variable {X:Cx}{c:Cfg}{Γ:Nat→FSp}
noncomputable def FV (prog:Program)(w:World)(a:Addr)(ns:List Int):HO:=.ext fun h=>Fc prog w (!(byT w)) h a ns
theorem Ak (hu:X.A.units+64<cLine):MtR X "dict.get" (fun x xs H Q=>∃a y o,x=.ref a∧xs=[y]∧DGet H a y o∧Q (o.getD .non) H):=by
 rintro pins s σ H x xs v us Q I rx rv ⟨a,y,o,rfl,rfl,g,q⟩
 cases rx
 obtain⟨u,rfl,ru⟩:=fG rv
 exact BH (by omega) I g ru fun w' s' I' r'=>⟨_,H,I',r',q⟩
theorem AW (C:COk X c Γ){n:Str}{y u:Expr}{ap cp:Pos}{a b:E}(hn:n="get")(hl:(ap.endLine == cp.line)=true)(hs:ag u=true)(hy:eD y=true)(ho:PE X y (TEx X.K (wpE Γ a)))(hb:PE X u (TEx X.K (wpE Γ b))):PE X (.Call (.Attribute y n ap) [u] [] cp) (TEx X.K (wpE Γ (.dget a b))):=by
 subst hn
 intro pins s σ H Q I h
 obtain⟨mm,ρ,st,rf,rh,w⟩:=h
 have se:starEach [u] X.env=[(false,eval u X.env)]:=cI hs
 refine yN PySem.F.plainAttrs_dict JD PySem.F.type_dict_get (Ak (by have:=C.room.un;omega)) ho (pac hb jz hs) (eT hy) (by rw[se];rfl) hl se rfl pins s σ H Q I ?_
 refine⟨mm,ρ,st,rf,rh,aa C.mono a (fun v st1 k m1 H1 x1 e1 r1 r2=>?_) w⟩
 obtain⟨⟨n,kvs,rfl,hk⟩,k⟩:=k
 obtain⟨D,ys,rfl,_,g,r3,r4⟩:=r1.dkat hk r2
 refine⟨.inr (.inr (.inl ⟨rfl,.inl ⟨ys,g⟩⟩)),m1,ρ,st1,rf.mono e1,r1,aa C.mono b (fun y st2 k2 m2 H2 y2 e2 r5 r6=>?_) k⟩
 obtain⟨n',e,z,rfl,kvs',h1,q⟩:=k2
 cases e
 obtain⟨D2,ys2,e3,_,g2,r7,r8⟩:=r5.dkat h1 (r2.mono e2)
 cases e3
 rw[R_str] at r6
 subst r6
 refine⟨D,.str z,fH ys2 (.inr z),rfl,rfl,DGet.k (k:=.inr z) g2,?_⟩
 cases ez:bd kvs' (.inr z) with
 | none =>
  rw[ez] at q
  rw[(fQ r7 r8).2 ez]
  exact q m2 H2 .non (e1.trans e2) r5 (R_non.mpr rfl)
 | some u' =>
  obtain⟨w',t1,t2⟩:=(fQ r7 r8).1 _ ez
  rw[ez] at q
  rw[t1]
  exact q m2 H2 w' (e1.trans e2) r5 t2
theorem tp:dn X (.type "dict") (fun xs H Q=>∃p kvs,xs=[V.ref p]∧H p=some (.dK kvs)∧∀a,H a=none→Q (.ref a) (upd H a (.dK kvs))):=by
 rintro pins s σ H xs us Q I r ⟨p,kvs,rfl,hp,q⟩
 obtain⟨u,rfl,ru⟩:=fG r
 cases ru
 exact yH I (.inl hp) fun a s' ha I'=>⟨.ref a,_,I',rfl,q a ha⟩
theorem Ce (C:COk X c Γ){y:Str}{u:Expr}{p p2:Pos}{a:E}(h1:y="dict")(h2:c.blt y=true)(h6:ag u=true)(ha:PE X u (TEx X.K (wpE Γ a))):PE X (.Call (.Name y p2) [u] [] p) (TEx X.K (wpE Γ (.dcp a))):=by
 obtain⟨a1,a2,a3,a4⟩:=C.bltx h2
 have v1:bootBuiltins y=some (.type "dict"):=by rw [h1];decide +kernel
 intro pins s σ H Q I h
 refine lz (pos:=p) (p:=p2) tp a1 a4 v1 (pac ha jz h6) a3 a2 h6 rfl pins s σ H Q I ?_
 obtain⟨m,ρ,st,rf,rh,w⟩:=h
 refine⟨m,ρ,st,rf,rh,aa C.mono a (fun v st1 k m1 H1 x1 e1 r1 r2=>?_) w⟩
 obtain⟨n,rfl,kvs,h1,k⟩:=k
 obtain⟨b,ys,rfl,eb,g,r3,r4⟩:=r1.dkat h1 r2
 refine⟨b,ys,rfl,g,fun q hq=>?_⟩
 exact k _ _ _ (e1.trans (Ext.new1 r1 hq)) (r1.new1 hq ⟨ys,au,r3,r4.mono (Ext.new1 r1 hq)⟩) (R.last r1.len)
end
end FW
namespace FW
open L2 HX
section
variable {X:Cx}{pins:List (Addr × Obj)}{σ:L2.St}{H:Hp}{s:Shared}{h':Heap}
theorem Bj {t':Nat}{wr:List Addr}{T:Addr}{xs:List V}{its:List Value}(I:L2.Inv X pins σ H s)(k:∀b o,b ∉ wr→s.heap.get? b=some o→h'.get? b=some o)(hf:∀b∈wr,kH X pins H b)
  (hT:s.heap.objs.size≤T) (hx:Vals xs its) (hz:xs.length≤sizeLine) (ht:h'.IsTuple T its.toArray):L2.Inv X pins σ (upd H T (.tup xs)) { s with heap:=h',toks:=t' }:=by
 have nit:∀b u,H b=some u→b ∉ wr:=fun b u e z=>by rw[(hf b z).1] at e;cases e
 have hn:H T=none:=I.hok.fresh hT
 have up:∀b u,H b=some u→upd H T (.tup xs) b=some u:=fun b u e=>by rw[ac (aj e hn)];exact e
 refine I.step (g':=s.gens) (d':=s.drawn) (ch:=wr) (fun b hb=>⟨(hf b hb).2.2.2.1,(hf b hb).2.1,(hf b hb).2.2.2.2.1,(hf b hb).2.2.2.2.2⟩) (fun b o _ _ hc e _=>k b o hc e) (fun b o _ _ hc e _=>⟨o.slots,k b o hc e⟩)
  (fun b o _ e n=>by rw[ac (GS (F3 (GF e) hT))];exact n)
  (fun b o hc e=>⟨o,k b o hc e⟩) (fun b _ e=>up b _ e) (fun b _ _ e=>up b _ e) (fun b ps e=>⟨#[],by rw[up b _ e];simp⟩) (fun m hm=>?_) (fun b u e=>?_) I.bare
 ·obtain⟨o,es,ep,ho,r⟩:=hm
  exact⟨o,es,ep,k _ o (fun z=>(hf _ z).2.1 rfl) ho,r⟩
 ·by_cases hb:b=T
  ·subst hb
   rw[au] at e
   cases e
   exact⟨hz,its,hx,ht⟩
  ·rw[ac hb] at e
   refine(I.hok b u e).stay (fun c v hc q=>k c v ?_ q) (fun c q=>up c _ q) fun c _ q=>up c _ q
   rcases hc with z|z
   ·rw[z];exact nit b u e
   ·exact nit c _ z
end
end FW
namespace FW
open L2 HX
section
variable {prog:Program}{w:World}{A:Around}{E:Value→Shared→Prop}{s:Shared}{it t:Addr}{i:Nat}{items:Array Value}
end
section
variable {X:Cx}
end
end FW
namespace FW
open L2 HX
structure Zs where
 it:Addr
 c:Bool × Addr
 xs:Array Value
noncomputable abbrev Zs.a (q:Zs):Addr:=q.c.2
def Fb (h:Heap)(c:Bool × Addr)(xs:Array Value):Prop:=if c.1=true then h.IsList c.2 xs else h.IsTuple c.2 xs
section
variable {prog:Program}{w:World}{A:Around}{E:Value→Shared→Prop}{s:Shared}{q:Zs}{i:Nat}
end
structure ZA (z TI TO:Addr)(ss:List Zs):Prop where
 nd:(z::TI::TO::ss.map Zs.it).Nodup
 ap:∀q∈ss,q.a ∉ z::TI::TO::ss.map Zs.it
section
variable {prog:Program}{w:World}{A:Around}{E:Value→Shared→Prop}{z TI TO:Addr}{i:Nat}
end
def SqB (K:W.Frag)(H:Hp)(c:Bool × Addr)(xs:List V):Prop:=if c.1=true then SqL K H c.2 xs else SqT K H c.2 xs
section
variable {prog:Program}{w:World}{A:Around}{E:Value→Shared→Prop}
end
section
variable {prog:Program}{w:World}{A:Around}{E:Value→Shared→Prop}{s:Shared}
end
section
variable {X:Cx}{pins:List (Addr × Obj)}{σ:L2.St}{H:Hp}{s:Shared}
theorem SqB.seq {c:Bool × Addr}{xs:List V}(I:L2.Inv X pins σ H s)(h:SqB X.K H c xs):∃ys,Fb s.heap c ys:=by
 obtain⟨b,a⟩:=c
 cases b with
 | true=>obtain⟨its,_,p,_⟩:=I.list (show SqL X.K H a xs from h);exact⟨_,p.isList⟩
 | false=>obtain⟨its,_,p,_⟩:=I.tuple (show SqT X.K H a xs from h);exact⟨_,p⟩
end
section
variable {X:Cx}
end
end FW
namespace FW
open L2 HX
noncomputable def Itc (z:Str):L2.It:=⟨fun i _=>i<z.cps.size,fun i H x H'=>H'=H∧∃c,z.cps[i]?=some c∧x=.str ⟨#[c]⟩,fun i _=>i=z.cps.size⟩
theorem lC {P:Program}{w:World}{K:W.Frag}{tg:Expr}{it:Addr}{z:Str}{t:Tok}{nm:String}(hW:∀A:Around,A.handled=none→Walks P w A it [it] [it] z.cps.size (SignAt z) (fun i h=>h.IsStrIter it nm z t i))
  (hn:["enumerate","zip","dict_itemiterator","dict_reverseitemiterator","odict_iterator","itertools.zip_longest","itertools.pairwise"].contains nm=false) (hS:∀(A:Around) (i:Nat) (s:Shared) (Q:Value→Shared→Prop) (E:Value→Shared→Prop),s.heap.IsStrIter it nm z t i→Q (.ref it) s→wpAny (model P w) A (pyIter (.ref it)) Q E s):tI P w K tg (Itc z) [it] it (fun i h=>h.IsStrIter it nm z t i) where
 mem:=by simp
 obj:=fun i h st b hb=>by
  have e:b=it:=by simpa using hb
  subst e
  obtain⟨o,e,c,d⟩:=st
  exact⟨o,e,fun v z=>by rw[d] at z;cases z⟩
 keep:=fun i h h' st k=>by
  obtain⟨o,e,r⟩:=st
  exact⟨o,k it (by simp) o e,r⟩
 item:=by
  intro X hP hw hK hc i pins s σ H E I hf st hg
  subst hP hw hK
  obtain⟨f0,f1,f2,f3,f4,f5⟩:=hf it (by simp)
  refine(hW X.A (I.ok.hd hc)).item i s _ _ hg st fun v h' tk hv st' kk=>?_
  obtain⟨c,u,ec,rfl⟩:=hv
  have I1:L2.Inv X pins σ H { s with heap:=h',toks:=tk }:=I.turned (fun b o hb e=>kk b o (by simpa using hb) e) f0 f1 f3 f4 f5
  obtain⟨o,e,cc,d⟩:=id st'
  exact⟨_,rfl,qp (s:={ s with heap:=h',toks:=tk }) e cc d hn ⟨.str ⟨#[c]⟩,H,I1,⟨u,rfl⟩,⟨rfl,c,ec,rfl⟩,st',fun b hb=>(hf b hb).1⟩⟩
 done:=by
  intro X hP hw hK hc i pins s σ H E I hf st hg
  subst hP hw hK
  have hg:i=z.cps.size:=hg
  subst hg
  obtain⟨f0,f1,f2,f3,f4,f5⟩:=hf it (by simp)
  exact(hW X.A (I.ok.hd hc)).done s _ _ st fun h' tk kk=>⟨rfl,I.turned (fun b o hb e=>kk b o (by simpa using hb) e) f0 f1 f3 f4 f5⟩
 self:=hS
theorem sE {K:W.Frag}{m0:List Addr}{H0:Hp}{z:Str}:pD K (Itc z) (fP z) (fun _=>True) m0 H0:=by
 refine⟨fun m H st x r q=>by show (fP z).length=z.cps.size;simp[fP],fun i v m H st x r q ev=>?_⟩
 unfold fP at ev
 rw[F9] at ev
 cases e:z.cps.toList[i]? with
 | none=>rw[e] at ev;cases ev
 | some c =>
  rw[e] at ev
  cases ev
  have e':z.cps[i]?=some c:=by simpa using e
  refine⟨(Array.getElem?_eq_some_iff.mp e').1,?_⟩
  rintro y H' ⟨rfl,c',e2,rfl⟩
  rw[e'] at e2
  cases e2
  exact⟨Ext.refl _ _ _,r,R_str.mpr rfl⟩
section
variable {X:Cx}{tg:Expr}
noncomputable def BS (te:TE):TI:=fun σ H R=>te σ H fun x H1=>∃z,x=.str z∧R (Itc z) H1
theorem zo {e:Expr}{te:TE}(he:PE X e te):PI X tg e (BS te):=by
 intro pins s σ H R I h
 refine thn (he pins s σ H _ I h) fun v s1 ⟨x,H1,I1,r1,q1⟩=>?_
 obtain⟨z,e,q⟩:=q1
 subst e
 obtain⟨t,rfl⟩:=r1
 have fin:∀b,b∈[s1.heap.objs.size]→kH X pins H1 b:=fun b hb=>by
  have e:b=s1.heap.objs.size:=by simpa using hb
  subst e
  exact I1.fpOk (F2 _) (I1.hok.fresh (F2 _))
 cases ha:z.cps.all (·< 128)
 ·exact wpAny_pyIter_wide ha ⟨_,_,_,_,H1,rfl,I1.kept (t':=s1.toks) fun b o e=>F5 _ e,lC (nm:="str_iterator") (fun A hA=>Walks.strWide hA _ z t) (by decide) (fun _ _ _ _ _ st h=>wpAny_pyIter_striter_wide st h),⟨_,GP _ rfl,rfl,rfl⟩,fin,q⟩
 ·exact wpAny_pyIter_ascii ha ⟨_,_,_,_,H1,rfl,I1.kept (t':=s1.toks) fun b o e=>F5 _ e,lC (nm:="str_ascii_iterator") (fun A hA=>Walks.strAscii hA _ z t) (by decide) (fun _ _ _ _ _ st h=>wpAny_pyIter_striter_ascii st h),⟨_,GP _ rfl,rfl,rfl⟩,fin,q⟩
end
section
variable {X:Cx}
end
end FW
namespace FW
open L2 HX
noncomputable def gU (env:Env):List (Str × NameKind)→List (Str × Addr)→List (Str × Addr)
 | [],cs=>cs
 | (x,k)::r,cs=>gU env r (if k == .free then (x,(env.cells.lookup x).getD 0)::cs else cs)
theorem sK {scope:Scope}{env:Env}(h:∀y∈scope.names,y.2=.free→∃c,env.cells.lookup y.1=some c):closureFor scope env=pure (gU env scope.names []):=by
 have key:∀(names:List (Str × NameKind)) (cs:List (Str × Addr)),(∀y∈names,y.2=.free→∃c,env.cells.lookup y.1=some c) →
   (forIn names cs fun (x:Str × NameKind) (r:List (Str × Addr))=>(match x with
    | (name,kind)=>if (kind == NameKind.free)=true then (do let a ←cellOf env name;pure (ForInStep.yield ((name,a)::r)):Sem _) else pure (ForInStep.yield r)))=(pure (gU env names cs):Sem _):=by
  intro names
  induction names with
  | nil=>intro cs _;rfl
  | cons y r ih =>
   intro cs hy
   obtain⟨x,k⟩:=y
   rw[J5]
   by_cases hk:k=.free
   ·subst hk
    obtain⟨c,e⟩:=hy _ GQ rfl
    have ec:cellOf env x=pure c:=by
     unfold cellOf
     rw[e]
    simp only[beq_self_eq_true,if_true,ec]
    show (forIn r ((x,c)::cs) _:Sem _)=_
    rw[ih _ fun y h=>hy y (GO _ h)]
    simp[gU,e]
   ·have hb:(k == NameKind.free)=false:=by simpa using hk
    simp only[hb,Bool.false_eq_true,if_false]
    show (forIn r cs _:Sem _)=_
    rw[ih _ fun y h=>hy y (GO _ h)]
    simp[gU,hb]
 unfold closureFor
 have:=key scope.names [] h
 exact GR (fun z=>z >>= fun r=>pure r) this
theorem fI {env:Env}:∀ {names:List (Str × NameKind)}{cs:List (Str × Addr)}{x:Str}{c:Addr},(∀y∈names,y.2=.free→∃c,env.cells.lookup y.1=some c)→(∀x c,cs.lookup x=some c→env.cells.lookup x=some c) →
  (gU env names cs).lookup x=some c→env.cells.lookup x=some c
 | [],cs,x,c,_,h,e=>h x c e
 | (y,k)::r,cs,x,c,hn,h,e=>by
  unfold gU at e
  refine fI (fun z hz=>hn z (GO _ hz)) ?_ e
  intro z d ez
  by_cases hk:k=.free
  ·subst hk
   obtain⟨c',ec⟩:=hn _ GQ rfl
   simp only[beq_self_eq_true,if_true,List.lookup_cons] at ez
   by_cases q:z=y
   ·subst q
    simp[ec] at ez
    rw[ec,ez]
   ·have:(z == y)=false:=by simpa using q
    rw[this] at ez
    exact h z d ez
  ·have hb:(k == NameKind.free)=false:=by simpa using hk
   rw[hb] at ez
   exact h z d ez
theorem nv {env:Env}:∀ {names:List (Str × NameKind)}{cs:List (Str × Addr)}{x:Str},(∃c,cs.lookup x=some c)→∃c,(gU env names cs).lookup x=some c
 | [],cs,x,h=>h
 | (y,k)::r,cs,x,h=>by
  unfold gU
  refine nv ?_
  by_cases hk:k=.free
  ·subst hk
   simp only[beq_self_eq_true,if_true,List.lookup_cons]
   by_cases q:x=y
   ·subst q;simp
   ·have:(x == y)=false:=by simpa using q
    rw[this];exact h
  ·have hb:(k == NameKind.free)=false:=by simpa using hk
   rw[hb];exact h
theorem lM {env:Env}:∀ {names:List (Str × NameKind)}{cs:List (Str × Addr)}{x:Str},(x,NameKind.free)∈names→∃c,(gU env names cs).lookup x=some c
 | [],cs,x,h=>nomatch h
 | (y,k)::r,cs,x,h=>by
  unfold gU
  rcases HA.mp h with e|h
  ·cases e
   exact nv (by simp)
  ·exact lM h
def PTs (X:Cx)(xs:List Expr)(t:TT):Prop :=
 ∀(pins:List (Addr × Obj)) (s:Shared) (σ:L2.St) (H:Hp) (Q:Bool→Hp→Prop),L2.Inv X pins σ H s→t σ H Q →
  wpAny (model X.prog X.w) X.A (forIn xs true fun c r=>if r=true then do let ok ←isTrue c X.env (eval c X.env);pure (ForInStep.yield ok) else pure (ForInStep.yield r)) (TP X pins σ Q) X.xe s
theorem j9 {env:Env}:∀xs:List Expr,(forIn xs false fun c r=>if r=true then do let ok ←isTrue c env (eval c env);pure (ForInStep.yield ok) else pure (ForInStep.yield r):Sem Bool)=pure false
 | []=>rfl
 | x::xs=>by
  rw[J5]
  simp only[Bool.false_eq_true,if_false]
  exact j9 xs
theorem ve {X:Cx}:PTs X [] (fun σ H Q=>Q true H):=fun pins s σ H Q I h=>GL ⟨H,I,h⟩
theorem q5 {X:Cx}{x:Expr}{xs:List Expr}{t u:TT}(h1:PT X x t)(h2:PTs X xs u):PTs X (x::xs) (D5 t u):=by
 intro pins s σ H Q I h
 rw[J5]
 simp only[if_true]
 refine F4 (F4 (thn (h1 pins s σ H _ I h) fun b s1 ⟨H1,I1,q1⟩=>?_))
 refine GL ?_
 cases b with
 | true =>
  rw[GA rfl] at q1
  exact h2 pins s1 σ H1 Q I1 q1
 | false =>
  rw[F_ FX] at q1
  show wpAny _ _ (forIn xs false _) _ _ _
  rw[j9]
  exact GL ⟨H1,I1,q1⟩
theorem oE {prog:Program}{w:World}{A:Around}{R:Result→Shared→Prop}{s:Shared}{elt target iter:Expr}{ifs:List Expr}{scope:Scope}{pos:Pos}{it acc:Value}{env:Env}(I:Nat→Shared→Prop)
  (turn:∀n s,I n s→wpAny (model prog w) A (pyNext it) (fun r s₁=>match r with
   | none=>R (.ok .next) s₁
   | some v=>wpAny (model prog w) A (letOwnedTupleGo target it v) (fun _ s0=>wpAny (model prog w) A (assign target env v) (fun _ s₂ =>
     wpAny (model prog w) A (forIn ifs true fun c r=>if r=true then do let ok ←isTrue c env (eval c env);pure (ForInStep.yield ok) else pure (ForInStep.yield r)) (fun ok s₃ =>
      if ok=true then wpAny (model prog w) A (eval elt env) (fun x s₄ =>
       wpAny (model prog w) A (call (.builtin "list.append") [acc,x]) (fun _ s₅=>∃m,m<n∧I m s₅) (fun _ _=>False) s₄) (fun _ _=>False) s₃
      else ∃m,m<n∧I m s₃) (fun _ _=>False) s₂) (fun _ _=>False) s0) (fun _ _=>False) s₁) (fun _ _=>False) s)
  (n:Nat) (h:I n s):codeAny (model prog w) A (.compLoop (.ListComp elt [⟨target,iter,ifs,0⟩] scope pos) 0 it acc env) R s:=by
 refine codeAny_loop rfl I (fun n s hI=>?_) n h
 show wpAny _ A ((compTurn (.ListComp elt [⟨target,iter,ifs,0⟩] scope pos) 0 it acc env).onRaise (fun x=>do noteFrame x env;theTreesLotGoes x)) _ _ s
 refine wpAny_noted ?_
 rw[compTurn_list]
 refine F4 (wpAny_standAt (F4 (wpAny_mono (turn n s hI) (fun r s₁ h₁=>?_) fun _ _ h'=>h'.elim)))
 cases r with
 | none=>exact GL h₁
 | some v =>
  refine F4 (wpAny_mono h₁ (fun _ s0 h₁=>?_) fun _ _ h'=>h'.elim)
  refine F4 (wpAny_mono h₁ (fun _ s₂ h₂=>F4 (wpAny_mono h₂ (fun ok s₃ h₃=>?_) fun _ _ h'=>h'.elim)) fun _ _ h'=>h'.elim)
  cases ok with
  | false=>exact GL ⟨rfl,h₃⟩
  | true =>
   exact F4 (F4 (wpAny_mono h₃ (fun x s₄ h₄=>F4 (wpAny_mono h₄ (fun _ s₅ h₅=>GL (GL ⟨rfl,h₅⟩)) fun _ _ h'=>h'.elim)) fun _ _ h'=>h'.elim))
noncomputable def cxC (X:Cx)(N:List Str)(s2:Shared)(H2:Hp)(fp:List Addr)(scope:Scope)(C:Addr):Cx :=
 { X with N:=N,s₀:=s2,H₀:=H2,env:=compEnvC scope (gU X.env scope.names []) C X.env,outer:=X.stack,stack:=X.stack,ex:=fp,fn:=fun _=>false,pn:=[],xe:=fun _ _=>False }
structure CScope (X:Cx)(scope:Scope):Prop where
 kind:scope.kind=.function
 nocell:∀y∈scope.names,y.2≠.cell
 nms:∀y∈scope.names,y.2=.local→scope.names.lookup y.1=some .local
 free:∀y∈scope.names,y.2=.free→X.env.kindOf y.1=some .cell∨X.env.kindOf y.1=some .free
theorem j_ {scope:Scope}{env:Env}{x:Str}{k:NameKind}(h:(relabel scope env).names.lookup x=some k)(hk:k=.cell∨k=.free)(nc:∀y∈scope.names,y.2≠.cell):(x,NameKind.free)∈scope.names:=by
 have hm:=HN h
 unfold relabel at hm
 obtain⟨⟨n,k0⟩,hy,e⟩:=F1.mp hm
 simp only at e
 split at e
 ·rename_i hc
  cases e
  simp only[Bool.and_eq_true,beq_iff_eq] at hc
  have:k0=.free:=hc.1.1
  subst this
  exact hy
 ·cases e
  rcases hk with rfl|rfl
  ·exact absurd rfl (nc _ hy)
  ·exact hy
theorem iE {env:Env}:∀ {names:List (Str × NameKind)}{x:Str},names.lookup x=some .globalImplicit →
  (names.map fun (n,k)=>if (k == NameKind.free && env.scope.kind == .function && env.kindOf n == some .cell) then (n,NameKind.cell) else (n,k)).lookup x=some .globalImplicit
 | [],_,h=>by simp at h
 | (n,k)::r,x,h=>by
  have ih:=@iE env r x
  show List.lookup x ((if (k == NameKind.free && env.scope.kind == .function && env.kindOf n == some .cell)=true then (n,NameKind.cell) else (n,k))::_)=_
  cases hx:x == n with
  | true =>
   simp only[List.lookup_cons,hx] at h
   cases h
   simp[List.lookup_cons,hx]
  | false =>
   simp only[List.lookup_cons,hx] at h
   by_cases hc:(k == NameKind.free && env.scope.kind == .function && env.kindOf n == some .cell)=true
   ·rw[GA hc];simp only[List.lookup_cons,hx];exact ih h
   ·rw[F_ hc];simp only[List.lookup_cons,hx];exact ih h
theorem dC {env:Env}:∀ {names:List (Str × NameKind)}{x:Str},names.lookup x=some .free →
  (names.map fun (n,k)=>if (k == NameKind.free && env.scope.kind == .function && env.kindOf n == some .cell) then (n,NameKind.cell) else (n,k)).lookup x=some .cell ∨
  (names.map fun (n,k)=>if (k == NameKind.free && env.scope.kind == .function && env.kindOf n == some .cell) then (n,NameKind.cell) else (n,k)).lookup x=some .free
 | [],_,h=>by simp at h
 | (n,k)::r,x,h=>by
  have ih:=@dC env r x
  show List.lookup x ((if (k == NameKind.free && env.scope.kind == .function && env.kindOf n == some .cell)=true then (n,NameKind.cell) else (n,k))::_)=_∨List.lookup x ((if (k == NameKind.free && env.scope.kind == .function && env.kindOf n == some .cell)=true then (n,NameKind.cell) else (n,k))::_)=_
  cases hx:x == n with
  | true =>
   simp only[List.lookup_cons,hx] at h
   cases h
   by_cases hc:(NameKind.free == NameKind.free && env.scope.kind == .function && env.kindOf n == some .cell)=true
   ·rw[GA hc];simp[List.lookup_cons,hx]
   ·rw[F_ hc];simp[List.lookup_cons,hx]
  | false =>
   simp only[List.lookup_cons,hx] at h
   by_cases hc:(k == NameKind.free && env.scope.kind == .function && env.kindOf n == some .cell)=true
   ·rw[GA hc];simp only[List.lookup_cons,hx];exact ih h
   ·rw[F_ hc];simp only[List.lookup_cons,hx];exact ih h
section
variable {X:Cx}{pins:List (Addr × Obj)}{σ:L2.St}{H2:Hp}{s2:Shared}{fp:List Addr}{scope:Scope}{C:Addr}{N:List Str}
theorem CScope.cells (S:CScope X scope)(I:L2.Inv X pins σ H2 s2):∀y∈scope.names,y.2=.free→∃c,X.env.cells.lookup y.1=some c:=fun y hy hf=>I.ok.has y.1 (S.free y hy hf)
theorem B4 (S:CScope X scope)(I:L2.Inv X pins σ H2 s2)(f2:∀b∈fp,kH X pins H2 b)(fl:∀b∈fp,b<s2.heap.objs.size)(hC:s2.heap.objs.size≤C):(cxC X N s2 H2 fp scope C).Ok where
 mod:=I.ok.mod
 kind:=S.kind
 glob:=I.ok.glob
 blt:=I.ok.blt
 above:=hC
 inj:=fun x y c h1 h2=>I.ok.inj x y c (fI (S.cells I) (fun _ _ z=>by simp at z) h1) (fI (S.cells I) (fun _ _ z=>by simp at z) h2)
 has:=fun x hx=>by
  refine lM (x:=x) ?_
  rcases hx with h|h
  ·exact j_ h (.inl rfl) S.nocell
  ·exact j_ h (.inr rfl) S.nocell
 cab:=fun x c h=>by cases h
 hd:=I.ok.hd
 frames:=I.ok.frames
 stk:=.inl rfl
 exf:=fun b hb=>⟨GS (F3 (fl b hb) hC),fun x c h=>(f2 b hb).2.2.2.2.1 x c (fI (S.cells I) (fun _ _ z=>by simp at z) h)⟩
 bs:=I.bs
 bsz:=GW I.ok.bsz I.sz
 noex:=fun b o e hb=>by
  rcases (f2 b hb).2.2.2.1 with z|z
  ·exact I.ok.noex b o e z
  ·have:=GF e
   exact absurd (F3 (F3 this I.ok.bsz) z) (IN _)
 exfs:=fun b hb hf=>by
  rcases HA.mp (I.stkSub b hf) with z|z
  ·exact(f2 b hb).2.1 z
  ·exact(f2 b hb).2.2.1 z
 funs:=I.stack
 frf:=I.stkFree
theorem xJ {H3:Hp}{h1:Heap}{tk:Nat}{nt:List Str}{cn:List Str}{caps:List Nat}(S:CScope X scope)(I:L2.Inv X pins σ H2 s2)(f2:∀b∈fp,kH X pins H2 b)(fl:∀b∈fp,b<s2.heap.objs.size)(hC:s2.heap.objs.size≤C)
  (un:Un (frs X.stack) fp H2 H3 s2.heap h1) (hok:HOk X.prog X.w H3 h1) (ns:h1.Ns C (fun _=>none)) (hn:H3 C=none) (keep:∀b o,s2.heap.get? b=some o→h1.get? b=some o) (free:∀b o,s2.heap.get? b=some o→H2 b=none→H3 b=none)
  (hcn:cn=caps.filterMap (X.N[·]?)) (hcl:∀i∈caps,i<X.N.length) (hcf:∀x∈cn,scope.names.lookup x=some .free) (hce:∀x∈cn,X.env.kindOf x=some .cell∨X.env.kindOf x=some .free) :
  L2.Inv (cxC X (nt++cn) s2 H2 fp scope C) [] (nt.map (fun _=>none)++caps.map fun i=>(σ[i]?).join) H3 { s2 with heap:=h1,toks:=tk }:=by
 have cel:∀x c,(gU X.env scope.names []).lookup x=some c→X.env.cells.lookup x=some c:=fun x c h=>fI (S.cells I) (fun _ _ z=>by simp at z) h
 have lenc:cn.length=caps.length:=by
  rw[hcn]
  clear hcf hce hcn
  induction caps with
  | nil=>rfl
  | cons i r ih =>
   have:X.N[i]?=some (X.N[i]'(hcl i GQ)):=GX (hcl i GQ)
   rw[HH,this]
   simp only[List.length_cons]
   rw[ih fun j hj=>hcl j (GO _ hj)]
 have getc:∀(j i:Nat),caps[j]?=some i→∃x,cn[j]?=some x∧X.N[i]?=some x:=by
  rw[hcn]
  clear hcf hce hcn lenc
  induction caps with
  | nil=>intro j i h;simp at h
  | cons k r ih =>
   intro j i h
   have hk:X.N[k]?=some (X.N[k]'(hcl k GQ)):=GX (hcl k GQ)
   rw[HH,hk]
   cases j with
   | zero=>simp at h;subst h;exact⟨_,rfl,hk⟩
   | succ j=>exact ih (fun j hj=>hcl j (GO _ hj)) j i (by simpa using h)
 refine⟨B4 S I f2 fl hC,rfl,I.bare,un,⟨_,ns,fun i x v e1 e2 e3=>?_⟩,fun x c e=>?_,hn,fun x c e=>?_,fun p hp=>absurd (show p∈([]:List (Addr × Obj)) from hp) (by simp),hok,?_⟩
 ·by_cases hi:i<nt.length
  ·rw[GG (by simpa using hi),F9] at e2
   cases q:nt[i]? with
   | none=>rw[q] at e2;cases e2
   | some z=>rw[q] at e2;cases e2
  ·rw[GJ (by simpa using hi),GI,F9] at e2
   have e1':(nt++cn)[i]?=some x:=e1
   rw[GJ (by omega)] at e1'
   cases q:caps[i-nt.length]? with
   | none=>rw[q] at e2;cases e2
   | some j =>
    rw[q] at e2
    have e2':(σ[j]?).join=some v:=GT e2
    obtain⟨y,g1,g2⟩:=getc _ _ q
    rw[e1'] at g1
    cases g1
    have e4:σ[j]?=some (some v):=by
     cases z:σ[j]? with
     | none=>rw[z] at e2';cases e2'
     | some w=>rw[z] at e2';rw[show w=some v from e2']
    obtain⟨m,hm,hl⟩:=I.loc
    have kx:=hce x (GE e1')
    obtain⟨u,ru,lk⟩:=hl j x v g2 e4 (.inr (by rcases kx with k|k;exact .inl k;exact .inr k))
    refine⟨u,ru,.inr ⟨dC (hcf x (GE e1')),?_⟩⟩
    rcases lk with⟨k,_⟩|⟨_,c,ec,hc⟩
    ·rcases kx with k' | k' <;> rw[k] at k' <;> cases k'
    ·obtain⟨c',ec'⟩:=lM (env:=X.env) (names:=scope.names) (cs:=[]) (x:=x) (HN (hcf x (GE e1')))
     have:=cel x c' ec'
     rw[ec] at this
     cases this
     obtain⟨o,ho,hd⟩:=hc
     exact⟨c,ec',o,keep _ _ ho,hd⟩
 ·obtain⟨v,o,ho,hd⟩:=I.cell x c (cel x c e)
  exact⟨v,o,keep _ _ ho,hd⟩
 ·obtain⟨v,o,ho,hd⟩:=I.cell x c (cel x c e)
  exact free c o ho (I.freeC x c (cel x c e))
 ·show (nt.map (fun _=>(none:Option V))++caps.map fun i=>(σ[i]?).join).length=(nt++cn).length
  simp[lenc]
end
end FW
namespace FW
open L2 HX
section
variable {Γ:Nat→FSp}
mutual
theorem nW {n:Nat}(G:aW Γ):∀(t:Tg) {v:PV}{ρ:Fr}{st:AH}{Q:Fr→AH→Prop},t.low n=true→bX Γ t v ρ st Q→bX Γ t v ρ st fun ρ' st'=>Q ρ' st'∧∀i,n≤i→ρ'[i]?=ρ[i]?
 | .name i,v,ρ,st,Q,h,q=>by
  skip
  rw[Tg.low] at h
  have:=HC h
  exact⟨q,fun j hj=>F6 (by omega)⟩
 | .tup ts,v,ρ,st,Q,h,q=>by
  skip
  rw[Tg.low] at h
  obtain⟨xs,e,hl,q⟩:=q
  exact⟨xs,e,hl,lS G ts h q⟩
 | .ltup ts,v,ρ,st,Q,h,q=>False.elim q
 | .sub _ _,v,ρ,st,Q,h,q=>by rw[Tg.low] at h;cases h
theorem lS {n:Nat}(G:aW Γ):∀(t:Tgs) {v:List PV}{ρ:Fr}{st:AH}{Q:Fr→AH→Prop},t.low n=true→f6 Γ t v ρ st Q→f6 Γ t v ρ st fun ρ' st'=>Q ρ' st'∧∀i,n≤i→ρ'[i]?=ρ[i]?
 | .nil,v,ρ,st,Q,h,q=>by exact⟨q.1,q.2,fun _ _=>rfl⟩
 | .cons t ts,v,ρ,st,Q,h,q=>by
  skip
  rw[Tgs.low,GD] at h
  obtain⟨x,r,e,q⟩:=q
  refine⟨x,r,e,aC G t (fun ρ1 st1 k=>?_) (nW G t h.1 q)⟩
  refine fD G ts (fun ρ2 st2 k2=>⟨k2.1,fun i hi=>(k2.2 i hi).trans (k.2 i hi)⟩) (lS G ts h.2 k.1)
end
end
mutual
theorem R.mono0 {K:W.Frag}{m:List Addr}{H H':Hp}(ht:∀a ys,SqT K H a ys→SqT K H' a ys)(hr:∀a ys,RdF K H a ys→RdF K H' a ys):∀ {p:PV}{v:V},R K m H p v→R K m H' p v
 | .non,v,h=>by rw[R_non] at h ⊢;exact h
 | .bl b,v,h=>by rw[R_bl] at h ⊢;exact h
 | .int b,v,h=>by rw[R_int] at h ⊢;exact h
 | .str b,v,h=>by rw[R_str] at h ⊢;exact h
 | .ref n,v,h=>by rw[eR] at h ⊢;exact h
 | .tup xs,v,h=>by rw[R_tup] at h ⊢;obtain⟨a,ys,e,q,r⟩:=h;exact⟨a,ys,e,ht _ _ q,Rs.mono0 ht hr r⟩
 | .rdl xs,v,h=>by rw[eN] at h ⊢;obtain⟨a,ys,e,q,r⟩:=h;exact⟨a,ys,e,hr _ _ q,Rs.mono0 ht hr r⟩
 | .fn a,v,h=>by rw[wv] at h ⊢;exact h
theorem Rs.mono0 {K:W.Frag}{m:List Addr}{H H':Hp}(ht:∀a ys,SqT K H a ys→SqT K H' a ys)(hr:∀a ys,RdF K H a ys→RdF K H' a ys):∀ {ps:List PV}{vs:List V},Rs K m H ps vs→Rs K m H' ps vs
 | [],vs,h=>by rw[Rs_nil] at h ⊢;exact h
 | p::ps,vs,h=>by
  rw[Rs_cons] at h ⊢
  obtain⟨y,r,e,h1,h2⟩:=h
  exact⟨y,r,e,R.mono0 ht hr h1,Rs.mono0 ht hr h2⟩
end
theorem f' {K:W.Frag}{H:Hp}{D:Addr}{ys zs:List V}(hD:H D=some (.lst ys)):∀a us,SqT K H a us→SqT K (upd H D (.lst zs)) a us:=fun a us q=>by
 rcases q with (q|⟨w,q⟩)|q
 ·exact .inl (.inl (by rw[ac (fun z=>by subst z;rw[hD] at q;cases q)];exact q))
 ·exact .inl (.inr ⟨w,by rw[ac (fun z=>by subst z;rw[hD] at q;cases q)];exact q⟩)
 ·exact .inr q
theorem gf {K:W.Frag}{H:Hp}{D:Addr}{ys zs:List V}(hD:H D=some (.lst ys)):∀a us,RdF K H a us→RdF K (upd H D (.lst zs)) a us:=fun a us q=>by
 rcases q with⟨w,q⟩|q
 ·exact .inl ⟨w,by rw[ac (fun z=>by subst z;rw[hD] at q;cases q)];exact q⟩
 ·exact .inr q
theorem TB.away {K:W.Frag}{H:Hp}{D:Addr}{ys zs:List V}(t:TB K H)(hD:H D=some (.lst ys)):TB K (upd H D (.lst zs)) :=
 t.keep (fun a ps q=>by rw[ac (fun z=>by subst z;rw[hD] at q;cases q)];exact q) fun a o q=>by rw[ac (fun z=>by subst z;rw[hD] at q;cases q)];exact q
theorem Ext.away {K:W.Frag}{m m':List Addr}{H H':Hp}{D:Addr}{ys zs:List V}(x:Ext K m H m' H')(h0:H D=none)(hD:H' D=some (.lst ys)):Ext K m H m' (upd H' D (.lst zs)) :=
 ⟨x.pre,x.new,fun a o ha e n=>by rw[ac (aj e h0)];exact x.fr a o ha e n,fun a us q=>f' hD a us (x.tup a us q),fun a us q=>gf hD a us (x.rdf a us q),fun a ps ha e=>let ⟨p1,e1⟩:=x.tbs a ps ha e;⟨p1,by rw[ac (aj e h0)];exact e1⟩,fun t=>(x.tb t).away hD,fun a o u e=>by rw[ac (aj e h0)];exact x.frz a o u e⟩
theorem RH.away {K:W.Frag}{m:List Addr}{H:Hp}{st:AH}{D:Addr}{ys zs:List V}(h:RH K m H st)(hm:D ∉ m)(hD:H D=some (.lst ys)):RH K m (upd H D (.lst zs)) st:=by
 refine⟨h.len,h.nd,fun n c a h1 h2=>?_,h.tb.away hD⟩
 have ha:a≠D:=fun z=>hm (z ▸ GE h2)
 have hc:=h.at_ n c a h1 h2
 cases c with
 | lst xs=>obtain⟨us,g1,g2⟩:=hc;exact⟨us,by rw[ac ha];exact g1,g2.mono0 (f' hD) (gf hD)⟩
 | dk kvs=>obtain⟨us,g1,g2,g3⟩:=hc;exact⟨us,by rw[ac ha];exact g1,g2,g3.mono0 (f' hD) (gf hD)⟩
 | fz kvs=>obtain⟨o,us,g1,g2,g3⟩:=hc;exact⟨o,us,by rw[ac ha];exact g1,g2,g3.mono0 (f' hD) (gf hD)⟩
theorem RF.away {K:W.Frag}{m:List Addr}{H:Hp}{ρ:Fr}{σ:L2.St}{D:Addr}{ys zs:List V}(h:RF K m H ρ σ)(hD:H D=some (.lst ys)):RF K m (upd H D (.lst zs)) ρ σ :=
 ⟨h.len,fun i v e=>let ⟨y,e1,r⟩:=h.at_ i v e;⟨y,e1,r.mono0 (f' hD) (gf hD)⟩⟩
theorem RF.less {K:W.Frag}{m:List Addr}{H:Hp}{ρ ρ':Fr}{σ:L2.St}{n:Nat}(h:RF K m H ρ' σ)(hl:ρ.length=ρ'.length)(hn:∀i v,ρ[i]?=some (some v)→n≤i)(hp:∀i,n≤i→ρ'[i]?=ρ[i]?):RF K m H ρ σ :=
 ⟨hl.trans h.len,fun i v e=>h.at_ i v (by rw[hp i (hn i v e)];exact e)⟩
theorem n9 {nt:List Str}{f:Nat→Option PV}{caps:List Nat}:∀(i:Nat) (v:PV),(nt.map (fun _=>(none:Option PV))++caps.map f)[i]?=some (some v)→nt.length≤i:=fun i v e=>by
 by_cases hi:i<nt.length
 ·rw[GG (by simpa using hi),F9] at e
  cases q:nt[i]? with
  | none=>rw[q] at e;cases e
  | some z=>rw[q] at e;cases e
 ·omega
theorem AK {K:W.Frag}{m:List Addr}{H:Hp}{ρ:Fr}{σ:L2.St}{nt:List Str}{caps:List Nat}(h:RF K m H ρ σ) :
  RF K m H (nt.map (fun _=>none)++caps.map fun i=>(ρ[i]?).join) (nt.map (fun _=>none)++caps.map fun i=>(σ[i]?).join):=by
 refine⟨by simp,fun i v e=>?_⟩
 have hi:=n9 i v e
 rw[GJ (by simpa using hi),GI,F9] at e
 rw[GJ (by simpa using hi),GI,F9]
 cases q:caps[i-nt.length]? with
 | none=>rw[q] at e;cases e
 | some j =>
  rw[q] at e
  have e':(ρ[j]?).join=some v:=GT e
  have e4:ρ[j]?=some (some v):=by
   cases z:ρ[j]? with
   | none=>rw[z] at e';cases e'
   | some w=>rw[z] at e';rw[show w=some v from e']
  obtain⟨y,e5,r⟩:=h.at_ j v e4
  exact⟨y,by show some ((σ[j]?).join)=_;rw[e5];rfl,r⟩
section
variable {X:Cx}{Γ:Nat→FSp}{pins:List (Addr × Obj)}{σ:L2.St}{H:Hp}{s:Shared}
noncomputable def dD (K:W.Frag)(m1:List Addr)(H1:Hp)(Fin:Addr→Hp→Prop):LK:=fun vs st2=>∀m2 H2 D ys,Ext K m1 H1 m2 H2→RH K m2 H2 st2→D ∉ m2→H1 D=none→H2 D=some (.lst ys)→Rs K m2 H2 vs ys→Fin D H2
noncomputable def dZ (Γ:Nat→FSp)(elt:E)(tg:Tg)(ifs:Es)(ρ:Fr):PV→AH→(Option PV→AH→Prop)→Prop:=fun x st2 k=>bX Γ tg x ρ st2 fun ρ' st3=>fO Γ ifs ρ' st3 fun c st4=>if c=true then wpE Γ elt ρ' st4 fun v st5=>k (some v) st5 else k none st4
theorem on (G:aW Γ)(hcalm:X.calm=true){elt:E}{tg:Tg}{ifs:Es}{nt:List Str}{caps:List Nat}{cn:List Str}{eltx tgx iterx:Expr}{ifsx:List Expr}{scope:Scope}{pos p0:Pos}{use:Option (Value→Sem Unit)}{Qf:Value→Shared→Prop}{Fin:Addr→Hp→Prop}{wi:TI}
  (S:CScope X scope) (hcn:cn=caps.filterMap (X.N[·]?)) (hcl:∀i∈caps,i<X.N.length) (hcf:∀x∈cn,scope.names.lookup x=some .free) (hce:∀x∈cn,X.env.kindOf x=some .cell∨X.env.kindOf x=some .free)
  (hset:eX iterx=true) (hlow:tg.low nt.length=true) (hI:PI X tgx iterx wi)
  (hG:∀s2 H2 fp C,PG (cxC X (nt++cn) s2 H2 fp scope C) tgx (TGx X.K (bX Γ tg)))
  (hT:∀s2 H2 fp C,PTs (cxC X (nt++cn) s2 H2 fp scope C) ifsx (TTx X.K (fO Γ ifs)))
  (hE:∀s2 H2 fp C,PE (cxC X (nt++cn) s2 H2 fp scope C) eltx (TEx X.K (wpE Γ elt)))
  (I:L2.Inv X pins σ H s)
  (h:wi σ H fun J H1=>∃m ρ st1 xs chk,RF X.K m H1 ρ σ∧RH X.K m H1 st1∧pD X.K J xs chk m H1∧xs.length<100000∧dW chk (dZ Γ elt tg ifs (nt.map (fun _=>none)++caps.map fun i=>(ρ[i]?).join)) xs [] st1 (dD X.K m H1 Fin))
  (fin:∀C D H' s' m',L2.Inv X pins σ H' s'→s'.heap.Ns C m'→kH X pins H' C→Fin D H'→compPost (model X.prog X.w) X.A X.xe use Qf (.ref D) C (.ok .next) s') :
  wpAny (model X.prog X.w) X.A (comprehension (.ListComp eltx [⟨tgx,iterx,ifsx,0⟩] scope pos) scope X.env p0 (newList []) false (eval iterx X.env) use) Qf X.xe s:=by
 refine wpAny_comprehension_free (use:=use) rfl (lQ hset) (sK (S.cells I)) S.kind S.nms ?_
 refine thn (hI pins s σ H _ I h) fun v s1 h1=>thn h1 fun itv s2 h2=>?_
 obtain⟨it,fp,tn,J,H2,e,I2,T,st2,f2,m,ρ,st1,xs,chk,rf,rh,W,hxs,w⟩:=h2
 subst e
 have fl:∀b∈fp,b<s2.heap.objs.size:=fun b hb=>by
  obtain⟨o,e,_⟩:=T.obj 0 _ st2 b hb
  exact GF e
 refine wpAny_newObj_type (wpAny_newFunctionEnv S.nocell (by intro y hy;simp at hy) (fun h₁ hns₁ hsb₁=>?_) S.kind)
 dsimp only at hns₁ hsb₁ ⊢
 generalize hD:s2.heap.objs.size=D at *
 generalize hH3:s2.heap.push { cls:=.type "list",dict:=none,data:=.seq ([]:List Value).toArray }=P3 at hns₁ hsb₁ ⊢
 generalize hCC:P3.objs.size=C at *
 have hC1:C=D+1:=by rw[←hCC,←hH3,Heap.size_push,hD]
 have ltDC:D<C:=by rw[hC1];exact Nat.lt_succ_self D
 have neC:∀b,b<D→b≠C:=fun b hb=>GS (KB hb ltDC)
 have hDn:H2 D=none:=by rw[←hD];exact I2.hok.fresh (F2 _)
 have hCn:H2 C=none:=I2.hok.fresh (by rw[hD];exact HQ ltDC)
 have old3:∀b o,s2.heap.get? b=some o→P3.get? b=some o:=fun b o e=>hH3 ▸ F5 _ e
 have old:∀b o,s2.heap.get? b=some o→h₁.get? b=some o:=fun b o e=>hsb₁.extBut b o (neC b (hD ▸ GF e)) (F5 _ (old3 b o e))
 have newD:h₁.get? D=some { cls:=.type "list",data:=.seq #[] }:=hsb₁.extBut _ _ (GS ltDC) (F5 _ (by rw [←hH3,←hD];exact GP _ rfl))
 have un:Un (frs X.stack) fp H2 (upd H2 D (.lst [])) s2.heap h₁:=Un.laid old (by rw[hD];exact F2 _) hDn
 have hok:HOk X.prog X.w (upd H2 D (.lst [])) h₁:=I2.hok.laid old (by rw[hD];exact F2 _) ⟨IZ _,[],0,.nil,newD⟩
 have I4:=xJ (nt:=nt) (tk:=s2.toks+([]:List (Str × Value)).length) S I2 f2 (by rw[hD];exact fl) (C:=C) (by rw[hD];exact HQ ltDC) un hok (by simpa using hns₁) (by rw[ac (JM ltDC)];exact hCn) old
  (fun b o e n=>by rw[ac (GS (hD ▸ GF e))];exact n) hcn hcl hcf hce
 generalize hρ0:(nt.map (fun _=>none)++caps.map fun i=>(ρ[i]?).join:Fr)=ρ0 at w
 have hρn:∀i v,ρ0[i]?=some (some v)→nt.length≤i:=by rw[←hρ0];exact n9
 have rf0:RF X.K m H2 ρ0 (nt.map (fun _=>none)++caps.map fun i=>(σ[i]?).join):=by rw[←hρ0];exact AK rf
 generalize (nt.map (fun _=>none)++caps.map fun i=>(σ[i]?).join:L2.St)=σ0 at I4 rf0
 have loop:codeAny (model X.prog X.w) X.A (.compLoop (.ListComp eltx [⟨tgx,iterx,ifsx,0⟩] scope pos) 0 (.ref it) (.ref D) (compEnvC scope (gU X.env scope.names []) C X.env)) (compPost (model X.prog X.w) X.A X.xe use Qf (.ref D) C)
   { s2 with heap:=h₁,toks:=s2.toks+([]:List (Str × Value)).length }:=by
  refine oE (fun n s'=>∃(i:Nat),∃σ' H' m' st' acc ys,n+i=xs.length∧L2.Inv (cxC X (nt++cn) s2 H2 fp scope C) [] σ' H' s'∧tn i s'.heap∧(∀b∈fp,H' b=none)∧Ext X.K m H2 m' H'∧RH X.K m' H' st'∧RF X.K m' H' ρ0 σ'∧D ∉ m'∧H' D=some (.lst ys)∧Rs X.K m' H' acc ys∧ys.length≤i ∧
   dW chk (dZ Γ elt tg ifs ρ0) (xs.drop i) acc st' (dD X.K m H2 Fin)) ?_ xs.length
   ⟨0,σ0,_,m,st1,[],[],rfl,I4,T.keep 0 _ _ st2 (fun b _ o e=>old b o e),fun b hb=>by rw[ac (GS (fl b hb))];exact(f2 b hb).1,Ext.newT rh hDn,rh.newT hDn,rf0.mono (Ext.newT rh hDn),rh.fresh hDn,au,Rs_nil.mpr rfl,F2 _,by simpa using w⟩
  rintro n s' ⟨i,σ',H',m',st',acc,ys,hn,I',tni,fpn,x',rh',rf',Dm,hDl,rys,hly,k⟩
  have stat:∀ {H'':Hp},(∀b∈fp,H'' b=none)→∀b∈fp,kH (cxC X (nt++cn) s2 H2 fp scope C) [] H'' b:=fun hz b hb=>⟨hz b hb,(I'.ok.exf b hb).1,I'.ok.exfs b hb,.inl hb,(I'.ok.exf b hb).2,fun p hp=>absurd (show p∈([]:List (Addr × Obj)) from hp) (by simp)⟩
  cases q:xs.drop i with
  | nil =>
   rw[q] at k
   have hi:i=xs.length:=by
    have:=GR List.length q
    simp at this
    omega
   subst hi
   refine thn (T.done (cxC X (nt++cn) s2 H2 fp scope C) rfl rfl rfl hcalm _ [] s' σ' H' (fun _ _=>False) I' (stat fpn) tni (W.stop m' H' st' x' rh' k.1)) fun r s1 ⟨hr,I1⟩=>?_
   subst hr
   have IX:L2.Inv X pins σ H' s1:=I2.call' I1.os I1.base I1.hok I1.bare fun b hb=>⟨(f2 b hb).2.2.2.1,(f2 b hb).2.1,(f2 b hb).2.2.2.2.1,(f2 b hb).2.2.2.2.2⟩
   obtain⟨mm,hns,_⟩:=I1.loc
   exact fin C D H' s1 mm IX hns (I2.fpOk (by rw[hD];exact HQ ltDC) I1.free) (k.2 m' H' D ys x' rh' Dm hDn hDl rys)
  | cons v rest =>
   rw[q] at k
   have hi:i<xs.length:=by
    have:=GR List.length q
    simp at this
    omega
   have ev:xs[i]?=some v:=by
    have:=GR List.head? q
    rw[J6] at this
    exact this
   have er:rest=xs.drop (i+1):=by
    have:=GR List.tail q
    rw[J9] at this
    exact this.symm
   subst er
   obtain⟨kc,k⟩:=k
   obtain⟨go,yl⟩:=W.item i v m' H' st' x' rh' kc ev
   refine thn (T.item (cxC X (nt++cn) s2 H2 fp scope C) rfl rfl rfl hcalm i [] s' σ' H' (fun _ _=>False) I' (stat fpn) tni go) fun r s4 ⟨u,hr,h4⟩=>?_
   subst hr
   refine thn h4 fun _ s5 ⟨x,H5,I5,r5,y5,tn5,fr5⟩=>?_
   obtain⟨x5,rh5,rv5⟩:=yl x H5 y5
   have I5':=I5.pinned (stat fr5) (T.obj _ _ tn5)
   have again:∀ {σ7:L2.St}{H7:Hp}{s7:Shared}{m7:List Addr}{st7:AH}{acc7:List PV}{ys7:List V},L2.Inv (cxC X (nt++cn) s2 H2 fp scope C) ([]++lI fp s5.heap) σ7 H7 s7→Ext X.K m H2 m7 H7→RH X.K m7 H7 st7→RF X.K m7 H7 ρ0 σ7→D ∉ m7→H7 D=some (.lst ys7) →
     Rs X.K m7 H7 acc7 ys7→ys7.length≤i+1→dW chk (dZ Γ elt tg ifs ρ0) (xs.drop (i+1)) acc7 st7 (dD X.K m H2 Fin) →
     ∃n',n'<n∧∃(i:Nat),∃σ' H' m' st' acc ys,n'+i=xs.length∧L2.Inv (cxC X (nt++cn) s2 H2 fp scope C) [] σ' H' s7∧tn i s7.heap∧(∀b∈fp,H' b=none)∧Ext X.K m H2 m' H'∧RH X.K m' H' st'∧RF X.K m' H' ρ0 σ'∧D ∉ m'∧H' D=some (.lst ys)∧Rs X.K m' H' acc ys∧ys.length≤i ∧
      dW chk (dZ Γ elt tg ifs ρ0) (xs.drop i) acc st' (dD X.K m H2 Fin):=fun {σ7 H7 s7 m7 st7 acc7 ys7} I7 g1 g2 g3 g4 g5 g6 g7 g8=>by
    refine⟨n-1,by omega,i+1,σ7,H7,m7,st7,acc7,ys7,by omega,I7.unpinned,T.keep _ _ _ tn5 fun b hb o e=>(I7.pin (b,o) (GY _ (GY _ (fC hb e)))).1,fun b hb=>?_,g1,g2,g3,g4,g5,g6,g7,g8⟩
    obtain⟨o,e,d⟩:=T.obj _ _ tn5 b hb
    exact(I7.pin (b,o) (GY _ (GY _ (fC hb e)))).2.1
   have k2:=nW (n:=nt.length) G tg hlow k
   refine thn (hG s2 H2 fp C _ s5 σ' H5 x u (fun σ6 H6=>∃m6 ρ1 st6,Ext X.K m' H5 m6 H6∧RH X.K m6 H6 st6∧RF X.K m6 H6 ρ1 σ6∧(∀j,nt.length≤j→ρ1[j]?=ρ0[j]?) ∧
    fO Γ ifs ρ1 st6 fun c st4=>if c=true then wpE Γ elt ρ1 st4 fun vv st5=>dW chk (dZ Γ elt tg ifs ρ0) (xs.drop (i+1)) (acc++[vv]) st5 (dD X.K m H2 Fin) else dW chk (dZ Γ elt tg ifs ρ0) (xs.drop (i+1)) acc st4 (dD X.K m H2 Fin)) I5' r5
    ⟨m',ρ0,st',v,rf'.mono x5,rh5,rv5,aC G tg (fun ρ1 st6 z m6 H6 σ6 x6 rh6 rf6=>⟨m6,ρ1,st6,x6,rh6,rf6,z.2,bA G ifs (fun c st4 zz=>by
     cases c with
     | true=>rw[GA rfl] at zz ⊢;exact zz
     | false=>rw[F_ FX] at zz ⊢;simpa using zz) z.1⟩) k2⟩) fun _ s6 ⟨σ6,H6,I6,m6,ρ1,st6,x6,rh6,rf6,pr,w6⟩=>?_
   have hlen:ρ0.length=ρ1.length:=by rw[rf6.len,I6.len,rf'.len,I'.len]
   refine thn (hT s2 H2 fp C _ s6 σ6 H6 (fun b H7=>∃m7 st7,Ext X.K m6 H6 m7 H7∧RH X.K m7 H7 st7∧if b=true then wpE Γ elt ρ1 st7 fun vv st5=>dW chk (dZ Γ elt tg ifs ρ0) (xs.drop (i+1)) (acc++[vv]) st5 (dD X.K m H2 Fin) else dW chk (dZ Γ elt tg ifs ρ0) (xs.drop (i+1)) acc st7 (dD X.K m H2 Fin)) I6
    ⟨m6,ρ1,st6,rf6,rh6,bA G ifs (fun b st7 z m7 H7 x7 rh7=>⟨m7,st7,x7,rh7,z⟩) w6⟩) fun b s7 ⟨H7,I7,m7,st7,x7,rh7,w7⟩=>?_
   have xx7:Ext X.K m' H' m7 H7:=(x5.trans x6).trans x7
   cases b with
   | false =>
    rw[F_ FX] at w7 ⊢
    refine again I7 (x'.trans xx7) rh7 ((rf6.mono x7).less hlen hρn pr) (fun z=>?_) (xx7.fr D _ Dm hDl fun _ z=>nomatch z) (rys.mono xx7) (by omega) w7
    rcases xx7.new D z with z|z
    ·exact Dm z
    ·rw[hDl] at z;cases z
   | true =>
    rw[GA rfl] at w7 ⊢
    refine thn (hE s2 H2 fp C _ s7 σ6 H7 (fun y H8=>∃m8 st8 vv,Ext X.K m7 H7 m8 H8∧RH X.K m8 H8 st8∧R X.K m8 H8 vv y∧dW chk (dZ Γ elt tg ifs ρ0) (xs.drop (i+1)) (acc++[vv]) st8 (dD X.K m H2 Fin)) I7
     ⟨m7,ρ1,st7,rf6.mono x7,rh7,aa G elt (fun vv st8 z m8 H8 y x8 rh8 r8=>⟨m8,st8,vv,x8,rh8,r8,z⟩) w7⟩) fun uy s8 ⟨y,H8,I8,ry,m8,st8,vv,x8,rh8,r8,w8⟩=>?_
    have xx8:Ext X.K m' H' m8 H8:=xx7.trans x8
    have hD8:H8 D=some (.lst ys):=xx8.fr D _ Dm hDl fun _ z=>nomatch z
    have Dm8:D ∉ m8:=fun z=>by
     rcases xx8.new D z with z|z
     ·exact Dm z
     ·rw[hDl] at z;cases z
    refine thn (nD (X:=cxC X (nt++cn) s2 H2 fp scope C) _ s8 σ6 H8 (.ref D) [y] (.ref D) [uy] (fun _ H9=>H9=upd H8 D (.lst (ys++[y]))) I8 rfl (.cons ry .nil) ⟨D,ys,y,rfl,rfl,hD8,gx (by omega),rfl⟩) fun _ s9 ⟨_,H9,I9,_,e9⟩=>?_
    subst e9
    exact again I9 ((x'.trans xx8).away hDn hD8) (rh8.away Dm8 hD8) ((((rf6.mono x7).mono x8).less hlen hρn pr).away hD8) Dm8 au (((rys.mono xx8).app (.one r8)).mono0 (f' hD8) (gf hD8)) (by simp;omega) w8
 exact codeAny_compStart_list loop (T.self X.A 0 _ _ _ (T.keep 0 _ _ st2 fun b _ o e=>old b o e) loop)
end
end FW
namespace FW
open L2 HX
mutual
theorem R.pre {K:W.Frag}{m m':List Addr}{H:Hp}(hp:m <+: m'):∀ {p:PV}{v:V},R K m H p v→R K m' H p v
 | .non,v,h=>by rw[R_non] at h ⊢;exact h
 | .bl b,v,h=>by rw[R_bl] at h ⊢;exact h
 | .int b,v,h=>by rw[R_int] at h ⊢;exact h
 | .str b,v,h=>by rw[R_str] at h ⊢;exact h
 | .fn b,v,h=>by rw[wv] at h ⊢;exact h
 | .ref n,v,h=>by rw[eR] at h ⊢;obtain⟨a,e,q⟩:=h;exact⟨a,gA hp e,q⟩
 | .tup xs,v,h=>by rw[R_tup] at h ⊢;obtain⟨a,ys,e,q,r⟩:=h;exact⟨a,ys,e,q,Rs.pre hp r⟩
 | .rdl xs,v,h=>by rw[eN] at h ⊢;obtain⟨a,ys,e,q,r⟩:=h;exact⟨a,ys,e,q,Rs.pre hp r⟩
theorem Rs.pre {K:W.Frag}{m m':List Addr}{H:Hp}(hp:m <+: m'):∀ {ps:List PV}{vs:List V},Rs K m H ps vs→Rs K m' H ps vs
 | [],vs,h=>by rw[Rs_nil] at h ⊢;exact h
 | p::ps,vs,h=>by
  rw[Rs_cons] at h ⊢
  obtain⟨y,r,e,h1,h2⟩:=h
  exact⟨y,r,e,R.pre hp h1,Rs.pre hp h2⟩
end
section
variable {Γ:Nat→FSp}{X:Cx}{c:Cfg}
theorem uN {k:Option NameKind}(h:v6 k=true):k=some .cell∨k=some .free:=by
 unfold v6 at h
 simpa using h
end
end FW
namespace FW
open L2 HX
theorem BE {P:Program}{w:World}{k:Key}{u:Value}(h:(ax P w).is k u=true):L2.RelV (kV k) u:=by
 rcases aJ h with⟨i,t,rfl,rfl⟩|⟨x,t,rfl,rfl⟩
 ·exact⟨t,rfl⟩
 ·exact⟨t,rfl⟩
def ObD (P:Program)(w:World)(a:Addr)(o:Obj)(ys:List (Key × V))(vs:List (Key × Value))(ep:Nat):Prop:=KV ys vs∧∀h:Heap,h.get? a=some o→h.DictAt (ax P w) a vs ep
noncomputable def ItF (wk:DW)(a:Addr)(o:Obj)(ys:List (Key × V)):L2.It :=
 ⟨fun i H=>i<ys.length∧H a=some (.frz o (.dK ys)),fun i H x H'=>∃p,ys[i]?=some p∧match wk with
  | .keys=>H'=H∧x=kV p.1
  | .items=>∃T,x=.ref T∧H T=none∧H'=upd H T (.tup [kV p.1,p.2]),fun i H=>i=ys.length∧H a=some (.frz o (.dK ys))⟩
theorem KV.at {ys:List (Key × V)}{vs:List (Key × Value)}(h:KV ys vs){i:Nat}{p:Key × V}(e:ys[i]?=some p):∃q,vs[i]?=some q∧p.1=q.1∧L2.RelV p.2 q.2:=by
 unfold KV at h
 induction h generalizing i with
 | nil=>simp at e
 | cons f t ih =>
  cases i with
  | zero=>simp at e;subst e;exact⟨_,rfl,f.1,f.2⟩
  | succ i=>obtain⟨q,e1,e2⟩:=ih (by simpa using e);exact⟨q,by simpa using e1,e2⟩
theorem vC {P:Program}{w:World}{K:W.Frag}{tg:Expr}{it a:Addr}{o:Obj}{ys:List (Key × V)}{vs:List (Key × Value)}{ep:Nat}(hO:ObD P w a o ys vs ep) :
  tI P w K tg (ItF .keys a o ys) [it] it (fun i h=>h.IsKeyIter it a i vs.length ep) where
 mem:=by simp
 obj:=fun i h st b hb=>by
  have e:b=it:=by simpa using hb
  subst e
  obtain⟨u,e,c,d⟩:=st
  exact⟨u,e,fun v z=>by rw[d] at z;cases z⟩
 keep:=fun i h h' st k=>by
  obtain⟨u,e,r⟩:=st
  exact⟨u,k it (by simp) u e,r⟩
 item:=by
  intro X hP hw hK hc i pins s σ H E I hf st hg
  subst hP hw hK
  obtain⟨f0,f1,f2,f3,f4,f5⟩:=hf it (by simp)
  obtain⟨hi,hF⟩:=hg
  have hd:=hO.2 _ (I.hok a _ hF).1
  obtain⟨p,hp⟩:∃p,ys[i]?=some p:=⟨ys[i],by simp[hi]⟩
  obtain⟨q,e1,e2,e3⟩:=KV.at hO.1 hp
  refine wpAny_pyNext_dict_item (k:=q.1) (v:=q.2) st hd e1 fun key h' hk st' sb=>?_
  have I1:L2.Inv X pins σ H { s with heap:=h' }:=I.turned (t':=s.toks) (fun b u hb e=>sb.extBut b u hb e) f0 f1 f3 f4 f5
  obtain⟨u,e,cc,dd⟩:=id st'
  refine⟨_,rfl,qp (s:={ s with heap:=h' }) e cc dd (by decide) ⟨kV p.1,H,I1,by rw[e2];exact BE hk,⟨p,hp,rfl,rfl⟩,st',fun b hb=>(hf b hb).1⟩⟩
 done:=by
  intro X hP hw hK hc i pins s σ H E I hf st hg
  subst hP hw hK
  obtain⟨f0,f1,f2,f3,f4,f5⟩:=hf it (by simp)
  obtain⟨hi,hF⟩:=hg
  have hd:=hO.2 _ (I.hok a _ hF).1
  exact wpAny_pyNext_dict_end (I.ok.hd hc) st hd (HP (by rw[hi,hO.1.length];exact F2 _)) fun h' kk=>⟨rfl,I.turned (t':=s.toks) (fun b u hb e=>kk b u hb e) f0 f1 f3 f4 f5⟩
 self:=fun _ _ _ _ _ st h=>wpAny_pyIter_keyiter st h
theorem tu {P:Program}{w:World}{K:W.Frag}{elts:List Expr}{kt:Nat}{pt:Pos}{it a:Addr}{o:Obj}{ys:List (Key × V)}{vs:List (Key × Value)}{ep:Nat}(hO:ObD P w a o ys vs ep) :
  tI P w K (.Tuple elts kt pt) (ItF .items a o ys) [it] it (fun i h=>∃x y,IsItemIter h it a i vs.length ep x y) where
 mem:=by simp
 obj:=fun i h st b hb=>by
  have e:b=it:=by simpa using hb
  subst e
  obtain⟨x,y,e⟩:=st
  exact⟨_,e,fun v z=>nomatch z⟩
 keep:=fun i h h' st k=>by
  obtain⟨x,y,e⟩:=st
  exact⟨x,y,k it (by simp) _ e⟩
 item:=by
  intro X hP hw hK hc i pins s σ H E I hf st hg
  subst hP hw hK
  obtain⟨hi,hF⟩:=hg
  have hd:=hO.2 _ (I.hok a _ hF).1
  obtain⟨p,hp⟩:∃p,ys[i]?=some p:=⟨ys[i],by simp[hi]⟩
  obtain⟨q,e1,e2,e3⟩:=KV.at hO.1 hp
  obtain⟨x,y,st⟩:=st
  refine wpAny_pyNext_items_item (k:=q.1) (v:=q.2) st hd e1 fun key h' hk st' hT hz kk=>?_
  refine⟨_,rfl,wpAny_letOwnedTupleGo_items (s:={ s with heap:=h' }) st' fun h'' st2 sb=>?_⟩
  have hlt:it<s.heap.objs.size:=GF st
  have Tn:s.heap.objs.size≠it:=JM hlt
  have rk:L2.RelV (kV p.1) key:=by rw[e2];exact BE hk
  have I2:L2.Inv X pins σ (upd H s.heap.objs.size (.tup [kV p.1,p.2])) { s with heap:=h'' }:=Bj (t':=s.toks) (its:=[key,q.2]) (wr:=[it]) I (fun b u hb e=>by
   have hb:b≠it:=by simpa using hb
   rw[sb.2 b hb]
   exact kk b u hb e) (fun b hb=>hf b hb) (F2 _) (.cons rk (.cons e3 .nil)) (by show 2≤sizeLine;decide) ⟨_,by rw[sb.2 _ Tn];exact hT,rfl,0,rfl⟩
  refine⟨.ref _,_,I2,rfl,⟨p,hp,_,rfl,I.hok.fresh (F2 _),rfl⟩,⟨_,_,st2⟩,fun b hb=>?_⟩
  have e:b=it:=by simpa using hb
  subst e
  rw[ac (GS hlt)]
  exact(hf b hb).1
 done:=by
  intro X hP hw hK hc i pins s σ H E I hf st hg
  subst hP hw hK
  obtain⟨f0,f1,f2,f3,f4,f5⟩:=hf it (by simp)
  obtain⟨hi,hF⟩:=hg
  have hd:=hO.2 _ (I.hok a _ hF).1
  obtain⟨x,y,st⟩:=st
  exact wpAny_pyNext_items_end (I.ok.hd hc) st hd (HP (by rw[hi,hO.1.length];exact F2 _)) fun h' kk=>⟨rfl,I.turned (t':=s.toks) (fun b u hb e=>kk b u hb e) f0 f1 f3 f4 f5⟩
 self:=fun A i s Q E st h=>by
  obtain⟨x,y,st⟩:=st
  exact W.kcp_self st h
theorem BC {K:W.Frag}{m:List Addr}{H:Hp}{k:Key}:R K m H (kP k) (kV k):=by
 cases k with
 | inl i=>exact R_int.mpr rfl
 | inr x=>exact R_str.mpr rfl
theorem iu {K:W.Frag}{m:List Addr}{H:Hp}:∀ {kvs:List (Key × PV)}{ys:List (Key × V)}{i:Nat}{p:Key × V},ys.map (·.1)=kvs.map (·.1)→Rs K m H (kvs.map (·.2)) (ys.map (·.2))→ys[i]?=some p→∃q,kvs[i]?=some q∧q.1=p.1∧R K m H q.2 p.2
 | [],ys,i,p,e,r,h=>by
  cases ys with
  | nil=>simp at h
  | cons _ _=>simp at e
 | q::kvs,ys,i,p,e,r,h=>by
  cases ys with
  | nil=>simp at h
  | cons y ys =>
   simp only[List.map_cons,List.cons.injEq] at e
   rw[GC,GC,Rs_cons'] at r
   cases i with
   | zero=>simp at h;subst h;exact⟨q,rfl,e.1.symm,r.1⟩
   | succ i=>obtain⟨z,h1,h2⟩:=iu e.2 r.2 (show ys[i]?=some p by simpa using h);exact⟨z,by simpa using h1,h2⟩
theorem BZ {K:W.Frag}{wk:DW}{m0:List Addr}{H0:Hp}{a:Addr}{o:Obj}{ys:List (Key × V)}{kvs:List (Key × PV)}(hF:H0 a=some (.frz o (.dK ys)))(r1:ys.map (·.1)=kvs.map (·.1))(r2:Rs K m0 H0 (kvs.map (·.2)) (ys.map (·.2))) :
  pD K (ItF wk a o ys) (cw wk kvs) (fun _=>True) m0 H0:=by
 have hl:ys.length=kvs.length:=by simpa using GR List.length r1
 have hw:(cw wk kvs).length=ys.length:=by cases wk <;> simp[cw,hl]
 refine⟨fun m H st x r q=>⟨hw,x.frz _ _ _ hF⟩,fun i v m H st x r q ev=>?_⟩
 have hi:i<ys.length:=by rw[←hw];exact(FY.mp ev).1
 refine⟨⟨hi,x.frz _ _ _ hF⟩,?_⟩
 rintro y H' ⟨p,hp,z⟩
 obtain⟨u,hu,e1,e2⟩:=iu r1 r2 hp
 cases wk with
 | keys =>
  obtain⟨rfl,rfl⟩:=z
  have:(cw .keys kvs)[i]?=some (kP u.1):=by unfold cw;rw[F9,hu];rfl
  rw[this] at ev
  cases ev
  exact⟨Ext.refl _ _ _,r,by rw[e1];exact BC⟩
 | items =>
  obtain⟨T,rfl,hT,rfl⟩:=z
  have:(cw .items kvs)[i]?=some (.tup [kP u.1,u.2]):=by unfold cw;rw[F9,hu];rfl
  rw[this] at ev
  cases ev
  have xT:=Ext.newT (o:=.tup [kV p.1,p.2]) r hT
  refine⟨xT,r.newT hT,R_tup.mpr ⟨T,_,rfl,SqT.of au,?_⟩⟩
  rw[Rs_cons',Rs_cons',Rs_nil]
  exact⟨by rw[e1];exact BC,(e2.mono x).mono xT,rfl⟩
end FW
namespace FW
open L2 HX
section
variable {X:Cx}{pins:List (Addr × Obj)}{σ:L2.St}{H:Hp}{s:Shared}{a:Addr}{ys:List (Key × V)}{o:Obj}
theorem kX (I:L2.Inv X pins σ H s)(e:H a=some (.dK ys))(ho:s.heap.get? a=some o):L2.Inv X pins σ (upd H a (.frz o (.dK ys))) s:=by
 have nh:∀b u,H b=some u→(∀zs,u≠.dK zs)→upd H a (.frz o (.dK ys)) b=some u:=fun b u q n=>by
  rw[ac (fun z=>by subst z;rw[e] at q;cases q;exact n _ rfl)];exact q
 have no:∀b,H b=none→upd H a (.frz o (.dK ys)) b=none:=fun b q=>by rw[ac (fun z=>by subst z;rw[e] at q;cases q)];exact q
 refine⟨I.ok,I.os,I.bare,⟨I.base.keep,I.base.slot,fun b u q n hx=>no b (I.base.free b u q n hx),I.base.there,fun b xs q=>nh b _ (I.base.tups b xs q) (fun _ z=>nomatch z),fun b u v q=>nh b _ (I.base.frzs b u v q) (fun _ z=>nomatch z),fun b ps q=>let ⟨m,z⟩:=I.base.tbls b ps q;⟨m,nh b _ z (fun _ z=>nomatch z)⟩⟩,I.loc,I.cell,no _ I.free,fun x c q=>no _ (I.freeC x c q),fun p hp=>let ⟨h1,h2,h3⟩:=I.pin p hp;⟨h1,no _ h2,h3⟩,fun b u q=>?_,I.len⟩
 have st:∀ {b:Addr}{u:HO},ObjOk X.prog X.w H s.heap b u→ObjOk X.prog X.w (upd H a (.frz o (.dK ys))) s.heap b u:=fun {b u} x=>x.stay (fun _ _ _ q=>q) (fun c q=>nh c _ q (fun _ z=>nomatch z)) fun c xs q=>nh c _ q fun _ z=>nomatch z
 by_cases hb:b=a
 ·subst hb
  rw[au] at q
  cases q
  exact⟨ho,st (I.hok b _ e)⟩
 ·rw[ac hb] at q
  exact st (I.hok b u q)
theorem qG (I:L2.Inv X pins σ H s)(e:H a=some (.frz o (.dK ys)))(hz:∀u q,X.H₀ a≠some (.frz u q)):L2.Inv X pins σ (upd H a (.dK ys)) s:=by
 have nh:∀b u,H b=some u→(∀w zs,u≠.frz w (.dK zs))→upd H a (.dK ys) b=some u:=fun b u q n=>by
  rw[ac (fun z=>by subst z;rw[e] at q;cases q;exact n _ _ rfl)];exact q
 have no:∀b,H b=none→upd H a (.dK ys) b=none:=fun b q=>by rw[ac (fun z=>by subst z;rw[e] at q;cases q)];exact q
 refine⟨I.ok,I.os,I.bare,⟨I.base.keep,I.base.slot,fun b u q n hx=>no b (I.base.free b u q n hx),I.base.there,fun b xs q=>nh b _ (I.base.tups b xs q) (fun _ _ z=>nomatch z),fun b u v q=>by rw[ac (fun z=>by subst z;exact hz _ _ q)];exact I.base.frzs b u v q,fun b ps q=>let ⟨m,z⟩:=I.base.tbls b ps q;⟨m,nh b _ z (fun _ _ z=>nomatch z)⟩⟩,I.loc,I.cell,no _ I.free,fun x c q=>no _ (I.freeC x c q),fun p hp=>let ⟨h1,h2,h3⟩:=I.pin p hp;⟨h1,no _ h2,h3⟩,fun b u q=>?_,I.len⟩
 have st:∀ {b:Addr}{u:HO},ObjOk X.prog X.w H s.heap b u→ObjOk X.prog X.w (upd H a (.dK ys)) s.heap b u:=fun {b u} x=>x.stay (fun _ _ _ q=>q) (fun c q=>nh c _ q (fun _ _ z=>nomatch z)) fun c xs q=>nh c _ q fun _ _ z=>nomatch z
 by_cases hb:b=a
 ·subst hb
  rw[au] at q
  cases q
  exact st (I.hok b _ e).2
 ·rw[ac hb] at q
  exact st (I.hok b u q)
theorem xw (I:L2.Inv X pins σ H s)(e:H a=some (.dK ys)):∀u q,X.H₀ a≠some (.frz u q):=fun u q z=>by
 have:=I.base.frzs a u q z
 rw[e] at this
 cases this
end
section
variable {K:W.Frag}{m m2:List Addr}{H H2:Hp}{st:AH}{n:Nat}{a:Addr}{o:Obj}{ys:List (Key × V)}{kvs:List (Key × PV)}
theorem RH.frz (h:RH K m H st)(e:m[n]?=some a)(g:H a=some (.dK ys))(r1:ys.map (·.1)=kvs.map (·.1))(r2:Rs K m H (kvs.map (·.2)) (ys.map (·.2))):RH K m (upd H a (.frz o (.dK ys))) (st.set n (.fz kvs)):=by
 have x:Ext K m H m (upd H a (.frz o (.dK ys))):=Ext.set (ys:=[]) h e (nfD g)
 refine⟨by simp[h.len],h.nd,fun k c b h1 h2=>?_,x.tb h.tb⟩
 by_cases hk:k=n
 ·subst hk
  have hl:k<st.length:=by rw[←h.len];exact(FY.mp e).1
  rw[GB hl] at h1
  rw[e] at h2
  cases h1
  cases h2
  exact⟨o,ys,au,r1,r2.mono x⟩
 ·rw[F6 (Ne.symm hk)] at h1
  exact(h.at_ k c b h1 h2).mono x (ac fun z=>hk (jx h.nd h2 (z ▸ e)))
theorem dU (hD:H a=some (.frz o (.dK ys))):∀b us,SqT K H b us→SqT K (upd H a (.dK ys)) b us:=fun b us q=>by
 rcases q with (q|⟨w,q⟩)|q
 ·exact .inl (.inl (by rw[ac (fun z=>by subst z;rw[hD] at q;cases q)];exact q))
 ·exact .inl (.inr ⟨w,by rw[ac (fun z=>by subst z;rw[hD] at q;cases q)];exact q⟩)
 ·exact .inr q
theorem dS (hD:H a=some (.frz o (.dK ys))):∀b us,RdF K H b us→RdF K (upd H a (.dK ys)) b us:=fun b us q=>by
 rcases q with⟨w,q⟩|q
 ·exact .inl ⟨w,by rw[ac (fun z=>by subst z;rw[hD] at q;cases q)];exact q⟩
 ·exact .inr q
theorem TB.thaw (t:TB K H)(hD:H a=some (.frz o (.dK ys))):TB K (upd H a (.dK ys)) :=
 t.keep (fun b ps q=>by rw[ac (fun z=>by subst z;rw[hD] at q;cases q)];exact q) fun b w q=>by rw[ac (fun z=>by subst z;rw[hD] at q;cases q)];exact q
theorem RH.thaw (h:RH K m H st)(e:m[n]?=some a)(hF:H a=some (.frz o (.dK ys)))(hs:st[n]?=some (.fz kvs)):RH K m (upd H a (.dK ys)) (st.set n (.dk kvs)):=by
 refine⟨by simp[h.len],h.nd,fun k c b h1 h2=>?_,h.tb.thaw hF⟩
 by_cases hk:k=n
 ·subst hk
  have hl:k<st.length:=(FY.mp hs).1
  rw[GB hl] at h1
  rw[e] at h2
  cases h1
  cases h2
  obtain⟨o',ys',g1,g2,g3⟩:=h.at_ k _ a hs e
  rw[hF] at g1
  cases g1
  exact⟨ys,au,g2,g3.mono0 (dU hF) (dS hF)⟩
 ·rw[F6 (Ne.symm hk)] at h1
  have ne:b≠a:=fun z=>hk (jx h.nd h2 (z ▸ e))
  have hc:=h.at_ k c b h1 h2
  cases c with
  | lst xs=>obtain⟨us,g1,g2⟩:=hc;exact⟨us,by rw[ac ne];exact g1,g2.mono0 (dU hF) (dS hF)⟩
  | dk kvs=>obtain⟨us,g1,g2,g3⟩:=hc;exact⟨us,by rw[ac ne];exact g1,g2,g3.mono0 (dU hF) (dS hF)⟩
  | fz kvs=>obtain⟨w,us,g1,g2,g3⟩:=hc;exact⟨w,us,by rw[ac ne];exact g1,g2,g3.mono0 (dU hF) (dS hF)⟩
theorem Ext.thaw (h:RH K m H st)(e:m[n]?=some a)(g:H a=some (.dK ys))(x:Ext K m (upd H a (.frz o (.dK ys))) m2 H2):Ext K m H m2 (upd H2 a (.dK ys)):=by
 have hm:a∈m:=GE e
 have y:Ext K m H m (upd H a (.frz o (.dK ys))):=Ext.set (ys:=[]) h e (nfD g)
 have hF:H2 a=some (.frz o (.dK ys)):=x.frz _ _ _ au
 have z:=y.trans x
 refine⟨z.pre,z.new,fun b u hb q n=>?_,fun b us q=>dU hF b us (z.tup b us q),fun b us q=>dS hF b us (z.rdf b us q),fun b ps hb q=>?_,fun t=>(z.tb t).thaw hF,fun b u v q=>?_⟩
 ·rw[ac (show b≠a from fun w=>hb (by rw[w];exact hm))];exact z.fr b u hb q n
 ·rw[ac (show b≠a from fun w=>hb (by rw[w];exact hm))];exact z.tbs b ps hb q
 ·rw[ac (fun w=>by subst w;exact nfD g _ _ q)];exact z.frz b u v q
end
section
variable {X:Cx}{c:Cfg}{Γ:Nat→FSp}
noncomputable def wiF (X:Cx)(Γ:Nat→FSp)(wk:DW)(e:E):TI:=fun σ H Rr=>∃m ρ st,RF X.K m H ρ σ∧RH X.K m H st∧wpE Γ e ρ st fun x st1=>∃n kvs,x=.ref n∧st1[n]?=some (.dk kvs) ∧
 ∀m1 H1 a o ys,Ext X.K m H m1 H1→RH X.K m1 H1 st1→m1[n]?=some a→H1 a=some (.dK ys)→ys.map (·.1)=kvs.map (·.1)→Rs X.K m1 H1 (kvs.map (·.2)) (ys.map (·.2))→(∀u q,X.H₀ a≠some (.frz u q))→Rr (ItF wk a o ys) (upd H1 a (.frz o (.dK ys)))
theorem AX (C:COk X c Γ){tg u:Expr}{e:E}(he:PE X u (TEx X.K (wpE Γ e))):PI X tg u (wiF X Γ .keys e):=by
 rintro pins s σ H Rr I ⟨m,ρ,st,rf,rh,w⟩
 refine thn (he pins s σ H (fun x H1=>∃a ys,x=.ref a∧H1 a=some (.dK ys)∧∀o,(∀u q,X.H₀ a≠some (.frz u q))→Rr (ItF .keys a o ys) (upd H1 a (.frz o (.dK ys)))) I ⟨m,ρ,st,rf,rh,aa C.mono e (fun v st1 k m1 H1 x1 e1 r1 r2=>?_) w⟩) fun v s1 ⟨x,H1,I1,r1,a,ys,ex,hd,q⟩=>?_
 ·obtain⟨n,kvs,rfl,h1,k⟩:=k
  obtain⟨b,ys,rfl,eb,g,r3,r4⟩:=r1.dkat h1 r2
  exact⟨b,ys,rfl,g,fun o hz=>k m1 H1 b o ys e1 r1 eb g r3 r4 hz⟩
 ·subst ex
  cases r1
  obtain⟨z,hm,vs,rel,o,es,ep,ho,rr⟩:=kh I1.hok hd
  have hO:ObD X.prog X.w a o ys vs ep:=⟨rel,fun h e=>⟨o,es,e,rr⟩⟩
  refine wpAny_pyIter_dict hm (hO.2 _ ho) ?_
  refine⟨s1.heap.objs.size,[s1.heap.objs.size],_,_,_,rfl,(kX I1 hd ho).kept (t':=s1.toks) fun b u e=>F5 _ e,vC hO,⟨_,GP _ rfl,rfl,rfl⟩,fun b hb=>?_,q o (xw I1 hd)⟩
  have e:b=s1.heap.objs.size:=by simpa using hb
  subst e
  exact I1.fpOk (F2 _) ((kX I1 hd ho).hok.fresh (F2 _))
noncomputable def vm (v a:Addr):HO:=.ext fun h=>h.IsItemsView v a
theorem yD:MtR X "dict.items" (fun x xs H Q=>∃a kvs,x=.ref a∧xs=[]∧H a=some (.dK kvs)∧∀v,H v=none→Q (.ref v) (upd H v (vm v a))):=by
 rintro pins s σ H x xs v us Q I rx rv ⟨a,kvs,rfl,rfl,g,q⟩
 cases rx
 cases rv
 obtain⟨z,hm,vs,rel,dd⟩:=kh I.hok g
 refine call_meetsIn PySem.F.slot_dict_items dd.typeIs PySem.F.entry_dict_items (PySem.F.args_dict_items_1 _) (meets_dict_items (ax X.prog X.w) a hm) ⟨⟨vs,dd⟩,?_⟩
 refine⟨.ref s.heap.objs.size,_,I.laid (t':=s.toks) (fun b u e=>F5 _ e) (F2 _) (show ObjOk X.prog X.w _ _ _ (vm s.heap.objs.size a) from ⟨⟨_,GP _ rfl,rfl,rfl⟩,⟨_,GP _ rfl⟩,fun h1 h2 z e=>let ⟨ob,h3,r⟩:=z;⟨ob,e _ h3,r⟩⟩),rfl,q _ (I.hok.fresh (F2 _))⟩
theorem wS (C:COk X c Γ){elts:List Expr}{kt:Nat}{pt ap cp:Pos}{y:Expr}{e:E}(hl:(ap.endLine == cp.line)=true)(hy:eD y=true)(he:PE X y (TEx X.K (wpE Γ e))):PI X (.Tuple elts kt pt) (.Call (.Attribute y "items" ap) [] [] cp) (wiF X Γ .items e):=by
 rintro pins s σ H Rr I ⟨m,ρ,st,rf,rh,w⟩
 have hE:=yz (X:=X) (apos:=ap) (cpos:=cp) PySem.F.plainAttrs_dict PySem.F.slot_dict_items PySem.F.type_dict_items yD he (eT hy) hl
 refine thn (hE pins s σ H (fun x H1=>∃v a ys,x=.ref v∧H1 v=some (vm v a)∧H1 a=some (.dK ys)∧∀o,(∀u q,X.H₀ a≠some (.frz u q))→Rr (ItF .items a o ys) (upd H1 a (.frz o (.dK ys)))) I ⟨m,ρ,st,rf,rh,aa C.mono e (fun v st1 k m1 H1 x1 e1 r1 r2=>?_) w⟩) fun v s1 ⟨x,H1,I1,r1,vw,a,ys,ex,hv,hd,q⟩=>?_
 ·obtain⟨n,kvs,rfl,h1,k⟩:=k
  obtain⟨b,ys,rfl,eb,g,r3,r4⟩:=r1.dkat h1 r2
  refine⟨.inr (.inr (.inl ⟨rfl,.inl ⟨ys,g⟩⟩)),b,ys,rfl,rfl,g,fun v hv=>⟨v,b,ys,rfl,au,?_,fun o hz=>?_⟩⟩
  ·rw[ac (aj g hv)];exact g
  ·have xv:=Ext.newT (o:=vm v b) r1 hv
   exact k m1 _ b o ys (e1.trans xv) (r1.newT hv) eb (by rw[ac (aj g hv)];exact g) r3 (r4.mono xv) hz
 ·subst ex
  cases r1
  obtain⟨z,hm,vs,rel,o,es,ep,ho,rr⟩:=kh I1.hok hd
  have hO:ObD X.prog X.w a o ys vs ep:=⟨rel,fun h e=>⟨o,es,e,rr⟩⟩
  have hw:s1.heap.IsItemsView vw a:=(I1.hok vw _ hv).1
  refine wpAny_pyIter_items hw (hO.2 _ ho) ?_
  refine⟨s1.heap.objs.size,[s1.heap.objs.size],_,_,_,rfl,(kX I1 hd ho).kept (t':=s1.toks) fun b u e=>F5 _ e,tu hO,⟨_,_,GP _ rfl⟩,fun b hb=>?_,q o (xw I1 hd)⟩
  have e:b=s1.heap.objs.size:=by simpa using hb
  subst e
  exact I1.fpOk (F2 _) ((kX I1 hd ho).hok.fresh (F2 _))
theorem Fe (C:COk X c Γ){wk:DW}{tg ix:Expr}{e:E}(h1:Au wk tg=true)(h2:qP wk ix (fun y=>ao c e y)=true)(he:∀y,ao c e y=true→PE X y (TEx X.K (wpE Γ e))):PI X tg ix (wiF X Γ wk e):=by
 cases wk with
 | keys=>exact AX C (he _ (vy h2).2)
 | items =>
  obtain⟨y,ap,cp,rfl,h3,h4,h5⟩:=t6 h2
  cases tg with
  | Tuple elts kt pt=>exact wS C h3 h4 (he _ h5)
  | _=>cases h1
end
end FW
namespace FW
open L2 HX
section
variable {X:Cx}{pins:List (Addr × Obj)}{σ:L2.St}{H:Hp}{s:Shared}{a:Addr}{A:Around}{E:Value→Shared→Prop}
end
section
variable {K:W.Frag}{m m':List Addr}{H H':Hp}{st:AH}{D:Addr}{ys zs:List (Key × V)}
theorem fW (hD:H D=some (.dK ys)):∀a us,SqT K H a us→SqT K (upd H D (.dK zs)) a us:=fun a us q=>by
 rcases q with (q|⟨w,q⟩)|q
 ·exact .inl (.inl (by rw[ac (fun z=>by subst z;rw[hD] at q;cases q)];exact q))
 ·exact .inl (.inr ⟨w,by rw[ac (fun z=>by subst z;rw[hD] at q;cases q)];exact q⟩)
 ·exact .inr q
theorem fT (hD:H D=some (.dK ys)):∀a us,RdF K H a us→RdF K (upd H D (.dK zs)) a us:=fun a us q=>by
 rcases q with⟨w,q⟩|q
 ·exact .inl ⟨w,by rw[ac (fun z=>by subst z;rw[hD] at q;cases q)];exact q⟩
 ·exact .inr q
theorem TB.awayD (t:TB K H)(hD:H D=some (.dK ys)):TB K (upd H D (.dK zs)) :=
 t.keep (fun a ps q=>by rw[ac (fun z=>by subst z;rw[hD] at q;cases q)];exact q) fun a o q=>by rw[ac (fun z=>by subst z;rw[hD] at q;cases q)];exact q
theorem Ext.awayD (x:Ext K m H m' H')(h0:H D=none)(hD:H' D=some (.dK ys)):Ext K m H m' (upd H' D (.dK zs)) :=
 ⟨x.pre,x.new,fun a o ha e n=>by rw[ac (aj e h0)];exact x.fr a o ha e n,fun a us q=>fW hD a us (x.tup a us q),fun a us q=>fT hD a us (x.rdf a us q),fun a ps ha e=>let ⟨p1,e1⟩:=x.tbs a ps ha e;⟨p1,by rw[ac (aj e h0)];exact e1⟩,fun t=>(x.tb t).awayD hD,fun a o u e=>by rw[ac (aj e h0)];exact x.frz a o u e⟩
theorem RH.awayD (h:RH K m H st)(hm:D ∉ m)(hD:H D=some (.dK ys)):RH K m (upd H D (.dK zs)) st:=by
 refine⟨h.len,h.nd,fun n c a h1 h2=>?_,h.tb.awayD hD⟩
 have ha:a≠D:=fun z=>hm (z ▸ GE h2)
 have hc:=h.at_ n c a h1 h2
 cases c with
 | lst xs=>obtain⟨us,g1,g2⟩:=hc;exact⟨us,by rw[ac ha];exact g1,g2.mono0 (fW hD) (fT hD)⟩
 | dk kvs=>obtain⟨us,g1,g2,g3⟩:=hc;exact⟨us,by rw[ac ha];exact g1,g2,g3.mono0 (fW hD) (fT hD)⟩
 | fz kvs=>obtain⟨o,us,g1,g2,g3⟩:=hc;exact⟨o,us,by rw[ac ha];exact g1,g2,g3.mono0 (fW hD) (fT hD)⟩
end
section
variable {X:Cx}{Γ:Nat→FSp}{pins:List (Addr × Obj)}{σ:L2.St}{H:Hp}{s:Shared}
def DRel (K:W.Frag)(m:List Addr)(H:Hp)(ps:List (Str × PV))(ds:List (Key × V)):Prop:=ds.map (·.1)=(Bn ps).map (·.1)∧Rs K m H ((Bn ps).map (·.2)) (ds.map (·.2))
theorem DRel.mono {K:W.Frag}{m m':List Addr}{H H':Hp}{ps:List (Str × PV)}{ds:List (Key × V)}(h:DRel K m H ps ds)(x:Ext K m H m' H'):DRel K m' H' ps ds:=⟨h.1,h.2.mono x⟩
end
end FW
namespace FW
open L2 HX
section
variable {prog:Program}{w:World}{A:Around}{E:Value→Shared→Prop}{s:Shared}
variable {R:Result→Shared→Prop}
end
end FW
namespace FW
open L2 HX
section
variable {prog:Program}{w:World}{A:Around}{E:Value→Shared→Prop}{s:Shared}
end
section
variable {X:Cx}{c:Cfg}{Γ:Nat→FSp}
end
end FW
namespace FW
open L2 HX
def EqW (prog:Program)(w:World)(A:Around)(s:Shared)(y x:Value):Prop:=∀(E:Value→Shared→Prop) (Q:Bool→Shared→Prop),Q true s→wpAny (model prog w) A (eqBool y x) Q E s
section
variable {prog:Program}{w:World}
theorem rZ (p q:Addr)(us vs:Array Value)(op op2:Obj)(c1:op.cls=.type "tuple")(c2:op2.cls=.type "tuple")(k1 k2:Nat)(d1:op.data=.seq us k1)(d2:op2.data=.seq vs k2)(hn:us.size=vs.size) :
  MeetsIn prog w (Builtin.«tuple.__ne__» ⟨[.ref p,.ref q],[]⟩) (fun A R s=>s.heap.get? p=some op∧s.heap.get? q=some op2∧(∀j (h1:j<us.size) (h2:j<vs.size),EqW prog w A.in1 s us[j] vs[j])∧R (.ok (.ret (.bool false))) s) :=
 .of_wp fun A R s h=>by
  obtain⟨cl,dd,dt,sl⟩:=op
  obtain⟨cl2,dd2,dt2,sl2⟩:=op2
  simp only at c1 c2 d1 d2
  subst c1 c2 d1 d2
  obtain⟨hp,g,dr,tk,os⟩:=s;obtain⟨hl,hb,he,hR⟩:=h
  have f2:=AutoSeq1.sub_tuple_tuple
  have hZ:(us.toList.zip vs.toList).length=us.size:=by simp[hn]
  wp_walk using AutoSeq1.wpAny_loadPart' hl,AutoSeq1.wpAny_loadPart' hb,wpAny_forIn_list _ (fun left b s'=>b.1=none∧s'=⟨hp,g,dr,tk,os⟩∧∃i,left=(us.toList.zip vs.toList).drop i) _
  case turn =>
   rintro⟨y,x⟩ left b s' ⟨hb',rfl,i,hz⟩
   have hlt:i<(us.toList.zip vs.toList).length:=by
    rcases Nat.lt_or_ge i (us.toList.zip vs.toList).length with h' | h'
    ·exact h'
    ·rw[List.drop_of_length_le h'] at hz;cases hz
   have h1:i<us.size:=by omega
   have h2:i<vs.size:=by omega
   rw[IB hlt] at hz
   injection hz with hyx hleft
   have hy:y=us[i]:=by have:=GR Prod.fst hyx;simpa using this
   have hx:x=vs[i]:=by have:=GR Prod.snd hyx;simpa using this
   subst hy hx
   refine F4 (he i h1 h2 _ _ ?_)
   wp_walk
   exact⟨rfl,rfl,i+1,hleft⟩
  case fin =>
   rintro⟨b1,b2⟩ s' ⟨hb',rfl,i,hz⟩
   simp only at hb'
   subst hb'
   wp_walk
   exact⟨_,rfl,by simpa[Builtin.Tuple.tupleCompareSizes,bne,hn] using hR⟩
  case h=>exact⟨rfl,rfl,0,rfl⟩
theorem so (p q:Addr)(us vs:Array Value)(op op2:Obj)(c1:op.cls=.type "tuple")(c2:op2.cls=.type "tuple")(k1 k2:Nat)(d1:op.data=.seq us k1)(d2:op2.data=.seq vs k2)(hn:us.size=vs.size) :
  MeetsIn prog w (Builtin.«tuple.__eq__» ⟨[.ref p,.ref q],[]⟩) (fun A R s=>s.heap.get? p=some op∧s.heap.get? q=some op2∧(∀j (h1:j<us.size) (h2:j<vs.size),EqW prog w A.in1 s us[j] vs[j])∧R (.ok (.ret (.bool true))) s) :=
 .of_wp fun A R s h=>by
  obtain⟨cl,dd,dt,sl⟩:=op
  obtain⟨cl2,dd2,dt2,sl2⟩:=op2
  simp only at c1 c2 d1 d2
  subst c1 c2 d1 d2
  obtain⟨hp,g,dr,tk,os⟩:=s;obtain⟨hl,hb,he,hR⟩:=h
  have f2:=AutoSeq1.sub_tuple_tuple
  have hZ:(us.toList.zip vs.toList).length=us.size:=by simp[hn]
  wp_walk using AutoSeq1.wpAny_loadPart' hl,AutoSeq1.wpAny_loadPart' hb,wpAny_forIn_list _ (fun left b s'=>b.1=none∧s'=⟨hp,g,dr,tk,os⟩∧∃i,left=(us.toList.zip vs.toList).drop i) _
  case turn =>
   rintro⟨y,x⟩ left b s' ⟨hb',rfl,i,hz⟩
   have hlt:i<(us.toList.zip vs.toList).length:=by
    rcases Nat.lt_or_ge i (us.toList.zip vs.toList).length with h' | h'
    ·exact h'
    ·rw[List.drop_of_length_le h'] at hz;cases hz
   have h1:i<us.size:=by omega
   have h2:i<vs.size:=by omega
   rw[IB hlt] at hz
   injection hz with hyx hleft
   have hy:y=us[i]:=by have:=GR Prod.fst hyx;simpa using this
   have hx:x=vs[i]:=by have:=GR Prod.snd hyx;simpa using this
   subst hy hx
   refine F4 (he i h1 h2 _ _ ?_)
   wp_walk
   exact⟨rfl,rfl,i+1,hleft⟩
  case fin =>
   rintro⟨b1,b2⟩ s' ⟨hb',rfl,i,hz⟩
   simp only at hb'
   subst hb'
   wp_walk
   exact⟨_,rfl,by simpa[Builtin.Tuple.tupleCompareSizes,bne,hn] using hR⟩
  case h=>exact⟨rfl,rfl,0,rfl⟩
variable {A:Around}{E:Value→Shared→Prop}{s:Shared}
noncomputable def opB (ne:Bool):CmpOp:=if ne then .NotEq else .Eq
theorem yK {ne:Bool}{p q:Addr}{us vs:Array Value}{Q:Value→Shared→Prop}(hp:s.heap.IsTuple p us)(hq:s.heap.IsTuple q vs)(hn:us.size=vs.size)(hu:A.units<cLine)(he:∀j (h1:j<us.size) (h2:j<vs.size),EqW prog w A.in1 s us[j] vs[j])(h:Q (.bool (!ne)) s) :
  wpAny (model prog w) A (compareOp (opB ne) (.ref p) (.ref q)) Q E s:=by
 obtain⟨o1,ho,hc,n,hd⟩:=id hp
 obtain⟨o2,ho2,hc2,n2,hd2⟩:=id hq
 cases ne with
 | true=>exact wpAny_richCompare_same_room (op:=.NotEq) ⟨_,ho,hc⟩ ⟨_,ho2,hc2⟩ F.slot_tuple_ne (call_meetsIn F.slot_tuple_ne ⟨_,ho,hc⟩ F.entry_tuple_ne (F.args_tuple_ne_2 _ _) (rZ p q us vs o1 o2 hc hc2 n n2 hd hd2 hn) ⟨ho,ho2,he,⟨(fun x=>nomatch x),h⟩⟩) hu
 | false=>exact wpAny_richCompare_same_room (op:=.Eq) ⟨_,ho,hc⟩ ⟨_,ho2,hc2⟩ F.slot_tuple_eq (call_meetsIn F.slot_tuple_eq ⟨_,ho,hc⟩ F.entry_tuple_eq (F.args_tuple_eq_2 _ _) (so p q us vs o1 o2 hc hc2 n n2 hd hd2 hn) ⟨ho,ho2,he,⟨(fun x=>nomatch x),h⟩⟩) hu
end
section
variable {X:Cx}{pins:List (Addr × Obj)}{σ:L2.St}{H:Hp}{s:Shared}{m:List Addr}{st:AH}
theorem qx {lvs:List (Key × PV)}{k:Key}{u:PV}(h:bd lvs k=some u):∃kv∈lvs,kv.2=u:=by
 unfold bd at h
 obtain⟨kv,h1,h2⟩:=GK.mp h
 exact⟨kv,HZ h1,h2⟩
theorem iY {v:PV}{d:PyData}(h:v.toD=some d):mW st v=some d:=by
 cases v with
 | ref n=>rw[PV.toD] at h;cases h
 | _=>exact h
theorem qI {A:Around}(hu:A.units+64<cLine)(I:L2.Inv X pins σ H s)(rh:RH X.K m H st){x y:PV}{x' y':V}{u v:Value}(h:vd x y)(rx:R X.K m H x x')(ry:R X.K m H y y')(ru:L2.RelV x' u)(rv:L2.RelV y' v):SeqAt.EqAt A s u v true:=by
 obtain⟨rfl,d,h1,h2⟩:=h
 obtain⟨as,ra⟩:=Den.reads I d x' u (cV rh rx (iY h1)) ru
 obtain⟨bs,rb⟩:=Den.reads I d y' v (cV rh ry (iY h1)) rv
 have:=SeqAt.eqAt_reads d d A s u v as bs ra rb (HM h2) (HM h2) (SeqAt.room_of_shaped h2 hu)
 rw[J_ d (HM h2)] at this
 exact this
theorem uF {A:Around}{kb:List (Key × Value)}:∀ {ka:List (Key × Value)},(∀p∈ka,∃y,valueAt kb p.1=some y∧SeqAt.EqAt A s p.2 y true)→W.KeqHits A s kb ka true
 | [],_=>.nil
 | (k,v)::r,h=>by
  obtain⟨y,e1,e2⟩:=h (k,v) GQ
  exact .hit e1 e2 (uF fun p hp=>h p (GO _ hp))
theorem nK {A:Around}{E:Value→Shared→Prop}(hu:A.units+80<cLine)(I:L2.Inv X pins σ H s)(rh:RH X.K m H st){n k:Nat}{kvs lvs:List (Key × PV)}{x' y':V}{u v:Value}(h1:st[n]?=some (.dk kvs))(h2:st[k]?=some (.dk lvs))(hl:kvs.length=lvs.length)(hp:∀p∈kvs,∃u,bd lvs p.1=some u∧vd p.2 u)
  (rx:R X.K m H (.ref n) x') (ry:R X.K m H (.ref k) y') (ru:L2.RelV x' u) (rv:L2.RelV y' v):∃a b,u=.ref a∧v=.ref b∧∀(ne:Bool) (Q:Value→Shared→Prop),Q (.bool (!ne)) s→wpAny (model X.prog X.w) A (compareOp (opB ne) u v) Q E s:=by
 obtain⟨a,ys,rfl,_,g1,r1,r2⟩:=rh.dkat h1 rx
 obtain⟨b,zs,rfl,_,g2,r3,r4⟩:=rh.dkat h2 ry
 cases ru
 cases rv
 obtain⟨z1,d1,vs,rel1,dd1⟩:=kh I.hok g1
 obtain⟨z2,d2,ws,rel2,dd2⟩:=kh I.hok g2
 refine⟨a,b,rfl,rfl,fun ne Q q=>?_⟩
 have e1:ys.length=kvs.length:=by simpa using GR List.length r1
 have e2:zs.length=lvs.length:=by simpa using GR List.length r3
 have l1:=rel1.length
 have l2:=rel2.length
 have lab:vs.length=ws.length:=by omega
 have hits:W.KeqHits A.in1 s ws vs true:=uF fun p hm=>by
  obtain⟨i,hi⟩:=JE.mp hm
  have hy:i<ys.length:=by have:=(FY.mp hi).1;omega
  obtain⟨w',w1,w2,w3⟩:=KV.at rel1 (show ys[i]?=some ys[i] by simp[hy])
  rw[hi] at w1
  cases w1
  obtain⟨q',q1,q2,q3⟩:=iu r1 r2 (show ys[i]?=some ys[i] by simp[hy])
  obtain⟨u,u1,u2⟩:=hp q' (GE q1)
  obtain⟨u',t1,t2⟩:=(fQ r3 r4).1 _ u1
  rw[q2,w2] at t1
  obtain⟨y,y1,y2⟩:=RelO.some_of (v:=u') (o:=valueAt ws p.1) (by rw[←t1];exact rel2.val p.1)
  exact⟨y,y1,qI (A:=A.in1) (by show A.units+1+64<cLine;omega) I rh u2 q3 t2 w3 y2⟩
 have fin:(vs.length == ws.length && true)=true:=by simp[lab]
 cases ne with
 | true=>exact W.keq_ne (knd:=ax X.prog X.w) d1 d2 dd1 dd2 (by omega) (fun _=>hits) (by rw[fin];exact q)
 | false=>exact W.keq_eq (knd:=ax X.prog X.w) d1 d2 dd1 dd2 (by omega) (fun _=>hits) (by rw[fin];exact q)
theorem oe {A:Around}(hu:A.units+64<cLine)(I:L2.Inv X pins σ H s)(rh:RH X.K m H st){x y:PV}{x' y':V}{u v:Value}{d d':PyData}(h1:x.toD=some d)(h2:y.toD=some d')(s1:SeqAt.shaped d=true)(s2:SeqAt.shaped d'=true)(rx:R X.K m H x x')(ry:R X.K m H y y')(ru:L2.RelV x' u)(rv:L2.RelV y' v):SeqAt.EqAt A s u v (PyData.eqv d d'):=by
 obtain⟨as,ra⟩:=Den.reads I d x' u (cV rh rx (iY h1)) ru
 obtain⟨bs,rb⟩:=Den.reads I d' y' v (cV rh ry (iY h2)) rv
 exact SeqAt.eqAt_reads d d' A s u v as bs ra rb (HM s1) (HM s2) (SeqAt.room_of_shaped s1 hu)
theorem qB {A:Around}{kb:List (Key × Value)}:∀ {ka:List (Key × Value)},(∀p∈ka,∀y,valueAt kb p.1=some y→∃e,SeqAt.EqAt A s p.2 y e)→(∃p∈ka,∀y,valueAt kb p.1=some y→SeqAt.EqAt A s p.2 y false)→W.KeqHits A s kb ka false
 | [],_,h=>by obtain⟨p,hp,_⟩:=h;cases hp
 | (k,v)::r,h,hb=>by
  cases e:valueAt kb k with
  | none=>exact .miss e
  | some y =>
   by_cases z:SeqAt.EqAt A s v y false
   ·have:∃b,W.KeqHits A s kb r b:=hits_some fun p hp=>h p (GO _ hp)
    obtain⟨b,hb⟩:=this
    exact .hit (e:=false) e z hb
   ·obtain⟨p,hp,hq⟩:=hb
    rcases HA.mp hp with rfl|hp
    ·exact absurd (hq y e) z
    ·obtain⟨e',he⟩:=h (k,v) GQ y e
     have:=W.KeqHits.hit (A:=A) (s:=s) e he (qB (fun p hp=>h p (GO _ hp)) ⟨p,hp,hq⟩)
     rw[Bool.and_false] at this
     exact this
where hits_some {kb:List (Key × Value)}:∀ {ka:List (Key × Value)},(∀p∈ka,∀y,valueAt kb p.1=some y→∃e,SeqAt.EqAt A s p.2 y e)→∃b,W.KeqHits A s kb ka b
 | [],_=>⟨_,.nil⟩
 | (k,v)::r,h=>by
  cases e:valueAt kb k with
  | none=>exact⟨_,.miss e⟩
  | some y =>
   obtain⟨b,hb⟩:=hits_some (ka:=r) fun p hp=>h p (GO _ hp)
   obtain⟨e',he⟩:=h (k,v) GQ y e
   exact⟨_,.hit e he hb⟩
theorem vB {A:Around}{E:Value→Shared→Prop}(hu:A.units+80<cLine)(I:L2.Inv X pins σ H s)(rh:RH X.K m H st){x y:PV}{x' y':V}{u v:Value}(hd:me st x y)
  (rx:R X.K m H x x') (ry:R X.K m H y y') (ru:L2.RelV x' u) (rv:L2.RelV y' v):∀(ne:Bool) (Q:Value→Shared→Prop),Q (.bool ne) s→wpAny (model X.prog X.w) A (compareOp (opB ne) u v) Q E s:=by
 obtain⟨n,k,kvs,lvs,rfl,rfl,h1,h2,dk,dl,hb⟩:=hd
 obtain⟨a,ys,rfl,_,g1,r1,r2⟩:=rh.dkat h1 rx
 obtain⟨b,zs,rfl,_,g2,r3,r4⟩:=rh.dkat h2 ry
 cases ru
 cases rv
 obtain⟨z1,d1,vs,rel1,dd1⟩:=kh I.hok g1
 obtain⟨z2,d2,ws,rel2,dd2⟩:=kh I.hok g2
 have e1:ys.length=kvs.length:=by simpa using GR List.length r1
 have e2:zs.length=lvs.length:=by simpa using GR List.length r3
 have l1:=rel1.length
 have l2:=rel2.length
 have A1:A.in1.units+64<cLine:=by show A.units+1+64<cLine;omega
 have look:∀(i:Nat) (p:Key × Value),vs[i]?=some p→∃q',kvs[i]?=some q'∧q'.1=p.1∧∃v1,R X.K m H q'.2 v1∧L2.RelV v1 p.2:=fun i p hi=>by
  have hy:i<ys.length:=by have:=(FY.mp hi).1;omega
  obtain⟨w',w1,w2,w3⟩:=KV.at rel1 (show ys[i]?=some ys[i] by simp[hy])
  rw[hi] at w1
  cases w1
  obtain⟨q',q1,q2,q3⟩:=iu r1 r2 (show ys[i]?=some ys[i] by simp[hy])
  exact⟨q',q1,q2.trans w2,_,q3,w3⟩
 have right:∀(key:Key) (y:Value),valueAt ws key=some y→∃u u',bd lvs key=some u∧R X.K m H u u'∧L2.RelV u' y:=fun key y hy=>by
  have o:=rel2.val key
  rw[hy] at o
  cases ez:bd lvs key with
  | none =>
   have:=(fQ r3 r4).2 ez
   rw[this] at o
   cases o
  | some u =>
   obtain⟨u',t1,t2⟩:=(fQ r3 r4).1 _ ez
   rw[t1] at o
   exact⟨u,u',rfl,t2,o⟩
 have data:∀p∈vs,∀y,valueAt ws p.1=some y→∃e,SeqAt.EqAt A.in1 s p.2 y e:=fun p hm y hy=>by
  obtain⟨i,hi⟩:=JE.mp hm
  obtain⟨q',q1,q2,v1,q3,q4⟩:=look i p hi
  obtain⟨u,u',t1,t2,t3⟩:=right p.1 y hy
  obtain⟨d,hd1,hd2⟩:=dk q' (GE q1)
  obtain⟨kv,km,ke⟩:=qx t1
  obtain⟨d',hd3,hd4⟩:=dl kv km
  rw[ke] at hd3
  exact⟨_,oe A1 I rh hd1 hd3 hd2 hd4 q3 t2 q4 t3⟩
 have fin:∀(r:Bool),(vs.length=ws.length→W.KeqHits A.in1 s ws vs r)→(vs.length == ws.length && r)=false→∀(ne:Bool) (Q:Value→Shared→Prop),Q (.bool ne) s→wpAny (model X.prog X.w) A (compareOp (opB ne) (.ref a) (.ref b)) Q E s:=fun r hr hf ne Q q=>by
  cases ne with
  | true=>exact W.keq_ne (knd:=ax X.prog X.w) d1 d2 dd1 dd2 (by omega) hr (by rw[hf];exact q)
  | false=>exact W.keq_eq (knd:=ax X.prog X.w) d1 d2 dd1 dd2 (by omega) hr (by rw[hf];exact q)
 rcases hb with hb|⟨p,hp,hq⟩
 ·exact fin true (fun z=>absurd z (by omega)) (by rw[beq_eq_false_iff_ne.mpr (by omega)];rfl)
 ·refine fin false (fun _=>qB data ?_) (Bool.and_false _)
  obtain⟨i,hi⟩:=JE.mp hp
  have il:i<vs.length:=by have:=(FY.mp hi).1;omega
  refine⟨vs[i],JW il,fun y hy=>?_⟩
  obtain⟨q',q1,q2,v1,q3,q4⟩:=look i vs[i] (GX il)
  rw[hi] at q1
  cases q1
  obtain⟨u,u',t1,t2,t3⟩:=right _ y hy
  rw[←q2] at t1
  obtain⟨d,d',c1,c2,c3⟩:=hq u t1
  obtain⟨e,hd1,hd2⟩:=dk p hp
  obtain⟨kv,km,ke⟩:=qx t1
  obtain⟨e',hd3,hd4⟩:=dl kv km
  rw[ke] at hd3
  rw[c1] at hd1
  rw[c2] at hd3
  cases hd1
  cases hd3
  rw[←c3]
  exact oe A1 I rh c1 c2 hd2 hd4 q3 t2 q4 t3
theorem yZ {A:Around}(hu:A.units+80<cLine)(I:L2.Inv X pins σ H s)(rh:RH X.K m H st){x y:PV}{x' y':V}{u v:Value}(h:zK st x y)(rx:R X.K m H x x')(ry:R X.K m H y y')(ru:L2.RelV x' u)(rv:L2.RelV y' v):EqW X.prog X.w A s u v:=by
 rcases h with h|⟨n,k,kvs,lvs,rfl,rfl,h1,h2,h3,h4⟩
 ·exact fun E Q q=>qI (by omega) I rh h rx ry ru rv X.prog X.w E Q q
 ·intro E Q q
  obtain⟨a,b,rfl,rfl,hc⟩:=nK (A:=A) (E:=E) hu I rh h1 h2 h3 h4 rx ry ru rv
  by_cases hab:a=b
  ·subst hab
   exact SeqAt.EqAt.same (A:=A) (s:=s) (.ref a) X.prog X.w E Q q
  ·unfold eqBool
   refine IJ ?_
   refine wpAny_ite_split (fun hx=>absurd (by have:=eq_of_beq hx;injection this) hab) (fun _=>?_)
   exact F4 (hc false _ (wpAny_truthy_bool q))
theorem oz {A:Around}(hu:A.units+80<cLine)(I:L2.Inv X pins σ H s)(rh:RH X.K m H st):∀ {xs ys:List PV}{xs' ys':List V}{us vs:List Value},tD st xs ys→Rs X.K m H xs xs'→Rs X.K m H ys ys'→Vals xs' us→Vals ys' vs→us.length=vs.length∧∀j (h1:j<us.length) (h2:j<vs.length),EqW X.prog X.w A s us[j] vs[j]
 | [],[],xs',ys',us,vs,_,rx,ry,ru,rv=>by
  rw[Rs_nil] at rx ry
  subst rx ry
  cases ru
  cases rv
  exact⟨rfl,fun j h1 _=>absurd h1 (II _)⟩
 | x::xs,y::ys,xs',ys',us,vs,h,rx,ry,ru,rv=>by
  rw[Rs_cons] at rx ry
  obtain⟨a,r,rfl,rx1,rx⟩:=rx
  obtain⟨b,q,rfl,ry1,ry⟩:=ry
  cases ru with
  | cons ru1 ru =>
   cases rv with
   | cons rv1 rv =>
    obtain⟨i1,i2⟩:=oz hu I rh h.2 rx ry ru rv
    refine⟨by simp[i1],fun j h1 h2=>?_⟩
    cases j with
    | zero=>exact yZ hu I rh h.1 rx1 ry1 ru1 rv1
    | succ j=>exact i2 j (by simpa using h1) (by simpa using h2)
 | [],y::ys,_,_,_,_,h,_,_,_,_=>h.elim
 | x::xs,[],_,_,_,_,h,_,_,_,_=>h.elim
end
theorem yk {X:Cx}(hu:X.A.units+100<cLine)(ne:Bool):OpR X (compareOp (opB ne)) (AO X.K fun x y st Q=>(nA st x y∧Q (.bl (!ne)) st)∨(me st x y∧Q (.bl ne) st)):=by
 intro pins s σ H x' y' v u Q I rx ry h
 obtain⟨m,st,x,y,rh,hx,hy,h⟩:=h
 rcases h with⟨hs,w⟩|⟨hs,w⟩
 case inr=>exact vB (A:=X.A) (E:=X.xe) (by omega) I rh hs hx hy rx ry ne _ ⟨.bl ne,H,I,rfl,w.here rh (R_bl.mpr rfl)⟩
 have fin:EP X pins σ Q (.bool (!ne)) s:=⟨.bl (!ne),H,I,rfl,w.here rh (R_bl.mpr rfl)⟩
 rcases hs with⟨xs,ys,rfl,rfl,hs⟩|⟨n,k,rfl,rfl,hs⟩
 ·rw[R_tup] at hx hy
  obtain⟨a,xs',rfl,g1,r1⟩:=hx
  obtain⟨b,ys',rfl,g2,r2⟩:=hy
  cases rx
  cases ry
  obtain⟨us,ru,p1,_⟩:=I.tuple g1
  obtain⟨vs,rv,p2,_⟩:=I.tuple g2
  obtain⟨i1,i2⟩:=oz (A:=X.A.in1) (by show X.A.units+1+80<cLine;omega) I rh hs r1 r2 ru rv
  exact yK (us:=us.toArray) (vs:=vs.toArray) p1 p2 (by simp[i1]) (by omega) (fun j h1 h2=>by simpa using i2 j (by simpa using h1) (by simpa using h2)) fin
 ·rcases hs with h|⟨n',k',kvs,lvs,e1,e2,h1,h2,h3,h4⟩
  ·obtain⟨_,d,h1,_⟩:=h
   rw[PV.toD] at h1
   cases h1
  ·cases e1
   cases e2
   obtain⟨a,b,rfl,rfl,hc⟩:=nK (A:=X.A) (E:=X.xe) (by omega) I rh h1 h2 h3 h4 hx hy rx ry
   exact hc ne _ fin
end FW
namespace FW
open L2 HX
theorem Ext.addD {K:W.Frag}{m m2:List Addr}{H H2:Hp}{D:Addr}(x:Ext K m H m2 H2)(h0:H D=none):Ext K m H (m2++[D]) H2:=by
 refine⟨x.pre.trans (IW _ _),fun a ha=>?_,x.fr,x.tup,x.rdf,x.tbs,x.tb,x.frz⟩
 rcases F7.mp ha with z|z
 ·exact x.new a z
 ·rw[FZ] at z
  subst z
  exact .inr h0
theorem RH.addDk {K:W.Frag}{m:List Addr}{H:Hp}{st:AH}{D:Addr}{kvs:List (Key × PV)}{ys:List (Key × V)}(h:RH K m H st)(Dm:D ∉ m)(hD:H D=some (.dK ys))(r1:ys.map (·.1)=kvs.map (·.1))(r2:Rs K m H (kvs.map (·.2)) (ys.map (·.2))):RH K (m++[D]) H (st++[.dk kvs]):=by
 have hp:m <+: m++[D]:=IW _ _
 refine⟨by simp[h.len],ID.mpr ⟨h.nd,HL.mpr ⟨by simp,JP⟩,fun a ha b hb z=>?_⟩,fun n c' a h1 h2=>?_,h.tb⟩
 ·rw[FZ] at hb
  subst hb
  exact Dm (z ▸ ha)
 ·by_cases hn:n<st.length
  ·rw[GG hn] at h1
   rw[GG (by rw[h.len];exact hn)] at h2
   have hc:=h.at_ n c' a h1 h2
   cases c' with
   | lst xs=>obtain⟨us,g1,g2⟩:=hc;exact⟨us,g1,g2.pre hp⟩
   | dk kvs=>obtain⟨us,g1,g2,g3⟩:=hc;exact⟨us,g1,g2,g3.pre hp⟩
   | fz kvs=>obtain⟨o,us,g1,g2,g3⟩:=hc;exact⟨o,us,g1,g2,g3.pre hp⟩
  ·rw[GJ (by omega)] at h1
   rw[GJ (by rw[h.len];omega)] at h2
   have hl:=h.len
   by_cases hz:n-st.length=0
   ·rw[hz] at h1
    rw[show n-m.length=0 by omega] at h2
    simp at h1 h2
    subst h1 h2
    exact⟨ys,hD,r1,r2.pre hp⟩
   ·rw[HP (by simp;omega)] at h1
    cases h1
section
variable {X:Cx}{c:Cfg}{Γ:Nat→FSp}
theorem Bb {ek ev:Expr}{tk tv:TE}{pos:Pos}(hk:PE X ek tk)(hv:PE X ev tv):PE X (.Dict [some ek] [ev] pos) (fun σ H Q=>∀p,H p=none→tk σ (upd H p (.dK [])) fun x H1=>∃z,x=.str z∧tv σ H1 fun y H2=>H2 p=some (.dK [])∧Q (.ref p) (upd H2 p (.dK [(.inr z,y)]))):=by
 intro pins s σ H Q I q
 have hn:=I.hok.fresh (F2 s.heap.objs.size)
 have I1:=I.laid (a:=s.heap.objs.size) (o:=.dK []) (h':=s.heap.push { cls:=.type "dict",data:=.dict #[] }) (t':=s.toks) (fun _ _ q=>F5 _ q) (F2 _)
  ⟨IZ _,beq_eq_false_iff_ne.mpr (Ne.symm (GS (vk I))),[],.nil,Heap.DictOf.new _⟩
 refine wpAny_Dict_walk (knd:=ax X.prog X.w) rfl rfl (by simp) (by simp) ?_
 refine pairTrees_cons_walk (thn (hk pins _ σ _ _ I1 (q _ hn)) fun u s1 ⟨x,H1,I2,rx,z,ex,w⟩=>?_)
 subst ex
 refine thn (hv pins _ σ _ _ I2 w) fun u2 s2 ⟨y,H2,I3,ry,e,q2⟩=>?_
 refine pairTrees_nil_walk ?_
 obtain⟨zz,hd,vs0,r0,dd⟩:=I3.hok _ _ e
 cases r0
 refine⟨[(.inr z,u2)],⟨by obtain⟨t,rfl⟩:=rx;exact j4 _ _ z t,rfl,True.intro⟩,dd,fun h' dd' hs=>⟨.ref s.heap.objs.size,_,?_,rfl,q2⟩⟩
 have he:∃q,h'.get? s.heap.objs.size=some q:=let ⟨q,_,_,hq,_⟩:=dd';⟨q,hq⟩
 exact I3.write (x:=s.heap.objs.size) (e:=s.heap.objs.size) (o:=.dK [(.inr z,y)]) (h':=h') (t':=s2.toks+1) (by rw[e];exact True.intro) (.inl rfl) (fun b u hb hu=>(hs.2 b hb).trans hu) he
  ⟨by simp[sizeLine],hd,_,.cons ⟨rfl,ry⟩ .nil,dd'⟩
theorem Be (C:COk X c Γ){ek ev:Expr}{pos:Pos}{k v:E}(hk:PE X ek (TEx X.K (wpE Γ k)))(hv:PE X ev (TEx X.K (wpE Γ v))):PE X (.Dict [some ek] [ev] pos) (TEx X.K (wpE Γ (.dct2 k v))):=by
 intro pins s σ H Q I h
 refine Bb hk hv pins s σ H Q I fun p hp=>?_
 obtain⟨m,ρ,st,rf,rh,w⟩:=h
 have x0:=Ext.newT (o:=.dK []) rh hp
 refine⟨m,ρ,st,rf.mono x0,rh.newT hp,aa C.mono k (fun x st1 z m1 H1 x1 e1 r1 r2=>?_) w⟩
 obtain⟨zz,rfl,z⟩:=z
 rw[R_str] at r2
 subst r2
 refine⟨zz,rfl,m1,ρ,st1,(rf.mono x0).mono e1,r1,aa C.mono v (fun y st2 z m2 H2 y2 e2 r3 r4=>?_) z⟩
 have pm:p ∉ m:=rh.fresh hp
 have ee:=e1.trans e2
 have hP:H2 p=some (.dK []):=ee.fr p _ pm au fun _ z=>nomatch z
 have pm2:p ∉ m2:=fun q=>by
  rcases ee.new p q with q|q
  ·exact pm q
  ·rw[au] at q;cases q
 refine⟨hP,?_⟩
 have e3:Ext X.K m H m2 H2:=x0.trans ee
 have e4:Ext X.K m H m2 (upd H2 p (.dK [(.inr zz,y2)])):=e3.awayD hp hP
 have r5:=(r3.awayD (zs:=[(.inr zz,y2)]) pm2 hP).addDk (kvs:=[(.inr zz,y)]) pm2 au rfl (by rw[GC,GC,Rs_cons',HJ,HJ,Rs_nil];exact⟨r4.mono0 (fW hP) (fT hP),rfl⟩)
 exact z _ _ _ (e4.addD hp) r5 (R.last r3.len)
end
end FW
namespace FW
open L2 HX
section
variable {Γ:Nat→FSp}
theorem lZ (G:aW Γ){elt:E}{tg:Tg}{ifs:Es}{ρ:Fr}{x:PV}{st:AH}{k k':Option PV→AH→Prop}(hk:∀o st,k o st→k' o st)(q:dZ Γ elt tg ifs ρ x st k):dZ Γ elt tg ifs ρ x st k' :=
 aC G tg (fun ρ' st3 w=>bA G ifs (fun c st4 w=>by
  cases c with
  | true=>rw[GA rfl] at w ⊢;exact aa G elt (fun v st5 w=>hk _ _ w) w
  | false=>rw[F_ FX] at w ⊢;exact hk _ _ w) w) q
theorem RH.addD {K:W.Frag}{m:List Addr}{H:Hp}{st:AH}{D:Addr}{vs:List PV}{ys:List V}(h:RH K m H st)(Dm:D ∉ m)(hD:H D=some (.lst ys))(r:Rs K m H vs ys):RH K (m++[D]) H (st++[.lst vs]):=by
 have hp:m <+: m++[D]:=IW _ _
 refine⟨by simp[h.len],ID.mpr ⟨h.nd,HL.mpr ⟨by simp,JP⟩,fun a ha b hb z=>?_⟩,fun n c' a h1 h2=>?_,h.tb⟩
 ·rw[FZ] at hb
  subst hb
  exact Dm (z ▸ ha)
 ·by_cases hn:n<st.length
  ·rw[GG hn] at h1
   rw[GG (by rw[h.len];exact hn)] at h2
   have hc:=h.at_ n c' a h1 h2
   cases c' with
   | lst xs=>obtain⟨us,g1,g2⟩:=hc;exact⟨us,g1,g2.pre hp⟩
   | dk kvs=>obtain⟨us,g1,g2,g3⟩:=hc;exact⟨us,g1,g2,g3.pre hp⟩
   | fz kvs=>obtain⟨o,us,g1,g2,g3⟩:=hc;exact⟨o,us,g1,g2,g3.pre hp⟩
  ·rw[GJ (by omega)] at h1
   rw[GJ (by rw[h.len];omega)] at h2
   have hl:=h.len
   by_cases hz:n-st.length=0
   ·rw[hz] at h1
    rw[show n-m.length=0 by omega] at h2
    simp at h1 h2
    subst h1 h2
    exact⟨ys,hD,r.pre hp⟩
   ·rw[HP (by simp;omega)] at h1
    cases h1
theorem lW {X:Cx}{c:Cfg}(C:COk X c Γ){nt:List Str}{caps:List Nat}{sc:Scope}(h:c.block nt caps sc=true) :
  CScope X sc∧(∀i∈caps,i<X.N.length)∧(∀x∈caps.filterMap (X.N[·]?),sc.names.lookup x=some .free)∧(∀x∈caps.filterMap (X.N[·]?),X.env.kindOf x=some .cell∨X.env.kindOf x=some .free)∧(nt++caps.filterMap (X.N[·]?)).Nodup:=by
 unfold Cfg.block at h
 simp only[Bool.and_eq_true,List.all_eq_true,beq_iff_eq,decide_eq_true_eq,Bool.or_eq_true,Bool.not_eq_true',beq_eq_false_iff_ne] at h
 obtain⟨⟨⟨⟨⟨⟨h1,h2⟩,h3⟩,h4⟩,h5⟩,h6⟩,h7⟩:=h
 rw[C.N]
 refine⟨⟨h1,fun y hy=>h2 y hy,fun y hy e=>?_,fun y hy e=>?_⟩,h5,fun x hx=>(h6 x hx).1,fun x hx=>C.cel x (uN (h6 x hx).2),h7⟩
 ·rcases h3 y hy with z|z
  ·exact absurd e z
  ·exact z
 ·rcases h4 y hy with z|z
  ·exact absurd e z
  ·exact C.cel _ (uN z)
theorem xC {X:Cx}{c:Cfg}(C:COk X c Γ){nt:List Str}{caps:List Nat}{sc:Scope}(h:c.block nt caps sc=true){s2:Shared}{H2:Hp}{fp:List Addr}{A:Addr} :
  COk (cxC X (nt++caps.filterMap (X.N[·]?)) s2 H2 fp sc A) (c.inner nt caps sc) Γ:=by
 obtain⟨S,k1,k2,k3,k4⟩:=lW C h
 have nocell:∀x,sc.names.lookup x≠some .cell:=fun x e=>S.nocell _ (HN e) rfl
 refine⟨C.calm,PassesOwn.never,?_,?_,fun x hx=>?_,fun x hx=>?_,fun x hx=>lookup_relabel_local hx,fun x hx=>iE hx,?_,fun x hx=>?_,C.room,C.fn,C.blt,C.gl,C.mono,fun h=>Bool.noConfusion (show false=true from h),fun k h=>by cases h⟩
 ·show nt++caps.filterMap (X.N[·]?)=nt++caps.filterMap (c.N[·]?)
  rw[C.N]
 ·show (nt++caps.filterMap (c.N[·]?)).Nodup
  rw[←C.N]
  exact k4
 ·rcases hx with hx|hx|hx
  ·exact .inl (lookup_relabel_local hx)
  ·exact absurd hx (nocell x)
  ·rcases dC (env:=X.env) hx with z|z
   ·exact .inr (.inl z)
   ·exact .inr (.inr z)
 ·rcases hx with hx|hx
  ·exact⟨.inl (lookup_relabel_local hx),.inr (lookup_relabel_local hx)⟩
  ·exact absurd hx (nocell x)
 ·show Env.blockKind (compEnvC sc (gU X.env sc.names []) A X.env)=_
  unfold Env.blockKind
  show (if sc.kind.isAnnotationScope=true then _ else sc.kind)=_
  rw[S.kind]
  rfl
 ·rcases hx with hx|hx
  ·exact absurd hx (nocell x)
  ·exact dC hx
mutual
theorem aH:∀(e:E) {X:Cx}{c:Cfg} (C:COk X c Γ) (x:Expr),ao c e x=true→PE X x (TEx X.K (wpE Γ e))
 | .var i,X,c,C,x,h=>by
  replace h:=ak h
  obtain⟨y,p,rfl,h⟩:=h
  ·exact xh C h
 | .int i,X,c,C,x,h=>by
  replace h:=vz h
  obtain⟨j,k,p,rfl,h⟩:=h
  ·rw[KI] at h;subst h
   rintro pins s σ H Q I ⟨m,ρ,st,rf,rh,w⟩
   skip
   exact Ch pins s σ H Q I (w.here rh (R_int.mpr rfl))
 | .bl i,X,c,C,x,h=>by
  replace h:=zX h
  obtain⟨j,k,p,rfl,h⟩:=h
  ·rw[KI] at h;subst h
   rintro pins s σ H Q I ⟨m,ρ,st,rf,rh,w⟩
   skip
   exact Eo pins s σ H Q I (w.here rh (R_bl.mpr rfl))
 | .non,X,c,C,x,h=>by
  replace h:=vM h
  obtain⟨k,p,rfl⟩:=h
  ·rintro pins s σ H Q I ⟨m,ρ,st,rf,rh,w⟩
   skip
   exact CB pins s σ H Q I (w.here rh (R_non.mpr rfl))
 | .str i,X,c,C,x,h=>by
  replace h:=wb h
  obtain⟨j,k,p,rfl,h⟩:=h
  ·rw[KI] at h;subst h
   rintro pins s σ H Q I ⟨m,ρ,st,rf,rh,w⟩
   skip
   exact C7 pins s σ H Q I (w.here rh (R_str.mpr rfl))
 | .gv y v,X,c,C,x,h=>by
  replace h:=ak h
  obtain⟨z,p,rfl,h⟩:=h
  ·simp only[Bool.and_eq_true,beq_iff_eq] at h
   obtain⟨⟨h1,h2⟩,h3⟩:=h
   subst h1
   obtain⟨g1,g2,_⟩:=C.glbx h2
   replace h3:=fm h3
   obtain⟨w,hw,h3⟩:=h3
   ·have:=PV.same_eq h3
    subst this
    obtain⟨u,z,e1,e2,e3⟩:=C.gl _ _ hw
    rintro pins s σ H Q I ⟨m,ρ,st,rf,rh,w⟩
    skip
    exact Bh g1 e1 e2 g2 pins s σ H Q I (w.here rh (e3 m H))
 | .tup es,X,c,C,x,h=>by
  replace h:=aY h
  obtain⟨xs,k,p,rfl,h⟩:=h
  ·rintro pins s σ H Q I ⟨m,ρ,st,rf,rh,w⟩
   skip
   refine BN (jZ es C _ h) pins s σ H Q I ⟨m,ρ,st,rf,rh,ay C.mono es (fun vs st1 k m1 H1 xs1 e1 r1 r2=>⟨by rw[←r2.len];exact fi k.1,fun p hp=>?_⟩) w⟩
   exact(k.2.ext e1).newT r1 r2 hp
 | .lst es,X,c,C,x,h=>by
  replace h:=tX h
  obtain⟨xs,p,rfl,h⟩:=h
  ·rintro pins s σ H Q I ⟨m,ρ,st,rf,rh,w⟩
   skip
   refine Db (jZ es C _ h) pins s σ H Q I ⟨m,ρ,st,rf,rh,ay C.mono es (fun vs st1 k m1 H1 xs1 e1 r1 r2=>⟨by rw[←r2.len];exact fi k.1,fun p hp=>?_⟩) w⟩
   exact(k.2.ext e1).newL r1 r2 hp
 | .bad,X,c,C,x,h=>by rintro pins s σ H Q I ⟨m,ρ,st,rf,rh,w⟩;exact False.elim w
 | .dct0,X,c,C,x,h=>by
  replace h:=lP h
  obtain⟨ks,vs,p,rfl,h⟩:=h
  replace h:=C6 h
  obtain⟨rfl,rfl⟩:=h
  ·rintro pins s σ H Q I ⟨m,ρ,st,rf,rh,w⟩
   skip
   refine wT pins s σ H Q I fun p hp=>?_
   exact w _ _ _ (Ext.new1 rh hp) (rh.new1 hp ⟨[],au,rfl,Rs_nil.mpr rfl⟩) (R.last rh.len)
 | .dct1 _ _,X,c,C,x,h=>by rintro pins s σ H Q I ⟨m,ρ,st,rf,rh,w⟩;exact False.elim w
 | .bin op a b,X,c,C,x,h=>by
  replace h:=vR h
  obtain⟨l,o,r,p,rfl,h⟩:=h
  ·simp only[Bool.and_eq_true,beq_iff_eq] at h
   obtain⟨⟨h1,h2⟩,h3⟩:=h
   subst h1
   rintro pins s σ H Q I ⟨m,ρ,st,rf,rh,w⟩
   skip
   exact Et (Dl _) (aH a C _ h2) (aH b C _ h3) pins s σ H Q I ⟨m,ρ,st,rf,rh,aa C.mono a (fun v st1 k m1 H1 x1 e1 r1 r2=>⟨m1,ρ,st1,rf.mono e1,r1,
    aa C.mono b (fun u st2 k2 m2 H2 y2 e2 r3 r4=>⟨m2,st2,v,u,r3,r2.mono e2,r4,nL (fun _ _ q=>q.ext (e1.trans e2)) k2⟩) k⟩) w⟩
 | .neg a,X,c,C,x,h=>by
  replace h:=vH h
  obtain⟨y,p,rfl,h⟩:=h
  ·rintro pins s σ H Q I ⟨m,ρ,st,rf,rh,w⟩
   skip
   refine D1 BM (aH a C _ h) pins s σ H Q I ⟨m,ρ,st,rf,rh,aa C.mono a (fun v st1 k m1 H1 x1 e1 r1 r2=>?_) w⟩
   obtain⟨i,rfl,k⟩:=k
   rw[R_int] at r2
   subst r2
   exact⟨i,rfl,(k.ext e1).here r1 (R_int.mpr rfl)⟩
 | .not a,X,c,C,x,h=>by
  replace h:=nY h
  obtain⟨y,p,rfl,h⟩:=h
  ·rintro pins s σ H Q I ⟨m,ρ,st,rf,rh,w⟩
   skip
   refine Di (aH a C _ h) pins s σ H Q I ⟨m,ρ,st,rf,rh,aa C.mono a (fun v st1 k m1 H1 x1 e1 r1 r2=>?_) w⟩
   obtain⟨i,rfl,k⟩:=k
   rw[R_bl] at r2
   subst r2
   exact⟨i,rfl,(k.ext e1).here r1 (R_bl.mpr rfl)⟩
 | .cmp op a b,X,c,C,x,h=>by
  replace h:=gq h
  obtain⟨l,o,r,p,rfl,h⟩:=h
  ·simp only[Bool.and_eq_true,beq_iff_eq,Bool.not_eq_true',beq_eq_false_iff_ne] at h
   obtain⟨⟨⟨h1,n1⟩,h2⟩,h3⟩:=h
   subst h1
   rintro pins s σ H Q I ⟨m,ρ,st,rf,rh,w⟩
   skip
   exact uT (xD C.room.units _) (aH a C _ h2) (aH b C _ h3) n1 pins s σ H Q I ⟨m,ρ,st,rf,rh,aa C.mono a (fun v st1 k m1 H1 x1 e1 r1 r2=>⟨m1,ρ,st1,rf.mono e1,r1,
    aa C.mono b (fun u st2 k2 m2 H2 y2 e2 r3 r4=>⟨m2,st2,v,u,r3,r2.mono e2,r4,gm (fun _ _ q=>q.ext (e1.trans e2)) k2⟩) k⟩) w⟩
 | .bop true es,X,c,C,x,h=>by
  replace h:=gi h
  obtain⟨o,xs,p,rfl,h⟩:=h
  ·simp only[Bool.and_eq_true,beq_iff_eq,Bool.not_eq_true'] at h
   obtain⟨⟨h1,h2⟩,h3⟩:=h
   subst h1
   rintro pins s σ H Q I ⟨m,ρ,st,rf,rh,w⟩
   skip
   exact Bu es C _ _ h2 h3 pins s σ H Q I ⟨m,ρ,st,rf,rh,w⟩
 | .bop false es,X,c,C,x,h=>by
  replace h:=gi h
  obtain⟨o,xs,p,rfl,h⟩:=h
  ·simp only[Bool.and_eq_true,beq_iff_eq,Bool.not_eq_true'] at h
   obtain⟨⟨h1,h2⟩,h3⟩:=h
   subst h1
   rintro pins s σ H Q I ⟨m,ρ,st,rf,rh,w⟩
   skip
   exact Bm es C _ _ h2 h3 pins s σ H Q I ⟨m,ρ,st,rf,rh,w⟩
 | .ite t a b,X,c,C,x,h=>by
  replace h:=wq h
  obtain⟨y,l,r,p,rfl,h⟩:=h
  ·simp only[Bool.and_eq_true] at h
   obtain⟨⟨h1,h2⟩,h3⟩:=h
   rintro pins s σ H Q I ⟨m,ρ,st,rf,rh,w⟩
   skip
   refine wW (mR t C _ h1) (aH a C _ h2) (aH b C _ h3) pins s σ H Q I ⟨m,ρ,st,rf,rh,aD C.mono t (fun k st1 z m1 H1 e1 r1=>?_) w⟩
   cases k with
   | true=>rw[GA rfl] at z ⊢;exact⟨m1,ρ,st1,rf.mono e1,r1,aa C.mono a (fun _ _ q=>q.ext e1) z⟩
   | false=>rw[F_ FX] at z ⊢;exact⟨m1,ρ,st1,rf.mono e1,r1,aa C.mono b (fun _ _ q=>q.ext e1) z⟩
 | .ix a b,X,c,C,x,h=>by
  replace h:=eZ h
  obtain⟨l,r,p,rfl,h⟩:=h
  ·simp only[Bool.and_eq_true] at h
   obtain⟨⟨h1,h2⟩,h3⟩:=h
   rintro pins s σ H Q I ⟨m,ρ,st,rf,rh,w⟩
   skip
   exact yX (Bt C.room.units) (aH a C _ h2) (aH b C _ h3) h1 pins s σ H Q I ⟨m,ρ,st,rf,rh,aa C.mono a (fun v st1 k m1 H1 x1 e1 r1 r2=>⟨m1,ρ,st1,rf.mono e1,r1,
    aa C.mono b (fun u st2 k2 m2 H2 y2 e2 r3 r4=>⟨m2,st2,v,u,r3,r2.mono e2,r4,iP (fun _ _ q=>q.ext (e1.trans e2)) k2⟩) k⟩) w⟩
 | .sl a lo hi,X,c,C,x,h=>by
  replace h:=eZ h
  obtain⟨l,r,p,rfl,h⟩:=h
  replace h:=rL h
  obtain⟨u,v,p2,rfl,h⟩:=h
  ·simp only[Bool.and_eq_true] at h
   obtain⟨⟨h1,h2⟩,h3⟩:=h
   rintro pins s σ H Q I ⟨m,ρ,st,rf,rh,w⟩
   skip
   exact xq Ec (aH a C _ h1) (Ey lo C _ h2) (Ey hi C _ h3) pins s σ H Q I ⟨m,ρ,st,rf,rh,aa C.mono a (fun v st1 k m1 H1 x1 e1 r1 r2=>⟨m1,ρ,st1,rf.mono e1,r1,
    iJ C.mono lo (fun l st2 k2 m2 H2 e2 r3=>⟨m2,ρ,st2,(rf.mono e1).mono e2,r3,iJ C.mono hi (fun u st3 k3 m3 H3 e3 r4=>⟨m3,st3,v,r4,(r2.mono e2).mono e3,qQ (fun _ _ q=>q.ext ((e1.trans e2).trans e3)) k3⟩) k2⟩) k⟩) w⟩
 | .call f es,X,c,C,x,h=>by
  replace h:=aN h
  obtain⟨g,xs,p,rfl,h⟩:=h
  replace h:=ak h
  obtain⟨y,p2,rfl,h⟩:=h
  ·simp only[Bool.and_eq_true] at h
   obtain⟨⟨h1,h2⟩,h3⟩:=h
   rintro pins s σ H Q I ⟨m,ρ,st,rf,rh,w⟩
   skip
   exact rB C h1 h2 h3 (jZ es C _ h3) pins s σ H Q I ⟨m,ρ,st,rf,rh,w⟩
 | .blt b es,X,c,C,x,h=>by
  replace h:=aN h
  obtain⟨g,xs,p,rfl,h⟩:=h
  replace h:=ak h
  obtain⟨y,p2,rfl,h⟩:=h
  ·simp only[Bool.and_eq_true,beq_iff_eq,Bool.not_eq_true'] at h
   obtain⟨⟨⟨⟨h1,h2⟩,h3⟩,h4⟩,h5⟩:=h
   rintro pins s σ H Q I ⟨m,ρ,st,rf,rh,w⟩
   skip
   exact q_ C h1 h2 h3 h4 (jZ es C _ h5) pins s σ H Q I ⟨m,ρ,st,rf,rh,w⟩
 | .inst a t,X,c,C,x,h=>by
  replace h:=aN h
  obtain⟨g,xs,p,rfl,h⟩:=h
  replace h:=ak h
  obtain⟨y,p2,rfl,h⟩:=h
  replace h:=iO h
  obtain⟨l,r,rfl,h⟩:=h
  replace h:=ak h
  obtain⟨z,p3,rfl,h⟩:=h
  ·rw[GD] at h
   exact uO C h.1 (aH a C _ h.2)
 | .met mm o es,X,c,C,x,h=>by
  replace h:=aN h
  obtain⟨g,xs,p,rfl,h⟩:=h
  replace h:=g9 h
  obtain⟨y,n,p2,rfl,h⟩:=h
  ·simp only[Bool.and_eq_true,beq_iff_eq,decide_eq_true_eq] at h
   obtain⟨⟨⟨⟨⟨⟨h1,h2⟩,h3⟩,h4⟩,h0⟩,h5⟩,h6⟩:=h
   exact xB C h1 (by rw[h2];simp) h3 h4 h0 (aH o C _ h5) (jZ es C _ h6) h6
 | .comp elt tg it ifs nt caps,X,c,C,x,h=>by
  replace h:=iB h
  obtain⟨ex,gs,sc,pos,rfl,h⟩:=h
  replace h:=cK h
  obtain⟨g,rfl,h⟩:=h
  obtain⟨tx,ix,fx,ia⟩:=g
  dsimp only at h
  ·simp only[Bool.and_eq_true,beq_iff_eq] at h
   obtain⟨⟨⟨⟨⟨⟨⟨⟨h1,h0⟩,h2⟩,h3⟩,h4⟩,h5⟩,h6⟩,h7⟩,h8⟩:=h
   subst h1
   obtain⟨S,k1,k2,k3,k4⟩:=lW C h4
   have hC:∀s2 H2 fp A,COk (cxC X (nt++caps.filterMap (X.N[·]?)) s2 H2 fp sc A) (c.inner nt caps sc) Γ:=fun s2 H2 fp A=>xC C h4
   rintro pins s σ H Q I ⟨m,ρ,st,rf,rh,w⟩
   skip
   rw[eval_ListComp]
   refine on (elt:=elt) (tg:=tg) (ifs:=ifs) (nt:=nt) (caps:=caps) (use:=none) (Fin:=fun D H'=>Q (.ref D) H') (wi:=TIx X.K (ju Γ it)) C.mono C.calm S rfl k1 k2 k3 h2 h3 (yn it C ix h0 h5) (fun s2 H2 fp A=>lK tg (hC s2 H2 fp A) _ h6) (fun s2 H2 fp A=>sx ifs (hC s2 H2 fp A) _ h7) (fun s2 H2 fp A=>aH elt (hC s2 H2 fp A) _ h8) I ?_ ?_
   ·refine⟨m,ρ,st,rf,rh,eU C.mono it (fun xs chk st1 z m1 H1 J e1 r1 W=>⟨m1,ρ,st1,xs,chk,rf.mono e1,r1,W,z.1,?_⟩) w⟩
    refine fA (body:=dZ Γ elt tg ifs (nt.map (fun _=>none)++caps.map fun i=>(ρ[i]?).join)) (fun _ _ _ _ hk q=>lZ C.mono hk q) (fun vs st2 k m2 H2 D ys e2 r2 Dm hD0 hD ry=>?_) z.2
    have hD1:H D=none:=by
     cases q:H D with
     | none=>rfl
     | some o =>
      by_cases hm:D∈m
      ·exact absurd ((e1.trans e2).pre.subset hm) Dm
      ·exact absurd hD0 (e1.ne hm q)
    exact k _ _ _ ((e1.trans e2).addD hD1) (r2.addD Dm hD ry) (R.last r2.len)
   ·intro C' D H' s' m' I' ns fp F
    refine⟨m',ns,fun h' hs'=>?_⟩
    exact⟨.ref D,H',I'.turned (t':=s'.toks) (fun b o hb e=>hs'.extBut b o hb e) fp.1 fp.2.1 fp.2.2.2.1 fp.2.2.2.2.1 fp.2.2.2.2.2,rfl,F⟩
 | .compK _ _ _ _ _ _ _,X,c,C,x,h=>by rintro pins s σ H Q I ⟨m,ρ,st,rf,rh,w⟩;exact False.elim w
 | .compD _ _ _ _ _ _ _ _,X,c,C,x,h=>by rintro pins s σ H Q I ⟨m,ρ,st,rf,rh,w⟩;exact False.elim w
 | .dct2 k v,X,c,C,x,h=>by
  replace h:=lP h
  obtain⟨ks,vs,p,rfl,h⟩:=h
  replace h:=cK h
  obtain⟨ok,rfl,h⟩:=h
  replace h:=fm h
  obtain⟨kx,rfl,h⟩:=h
  replace h:=cK h
  obtain⟨vx,rfl,h⟩:=h
  simp only[Bool.and_eq_true] at h
  exact Be C (aH k C _ h.1) (aH v C _ h.2)
 | .dcl _,X,c,C,x,h=>by rintro pins s σ H Q I ⟨m,ρ,st,rf,rh,w⟩;exact False.elim w
 | .eqd ne a b,X,c,C,x,h=>by
  replace h:=gq h
  obtain⟨l,o,r,p,rfl,h⟩:=h
  simp only[Bool.and_eq_true,beq_iff_eq,Bool.not_eq_true',beq_eq_false_iff_ne] at h
  obtain⟨⟨⟨h1,n1⟩,h2⟩,h3⟩:=h
  subst h1
  rintro pins s σ H Q I ⟨m,ρ,st,rf,rh,w⟩
  exact uT (yk (by have:=C.room.un;omega) ne) (aH a C _ h2) (aH b C _ h3) n1 pins s σ H Q I ⟨m,ρ,st,rf,rh,aa C.mono a (fun v st1 k m1 H1 x1 e1 r1 r2=>⟨m1,ρ,st1,rf.mono e1,r1,
   aa C.mono b (fun u st2 k2 m2 H2 y2 e2 r3 r4=>⟨m2,st2,v,u,r3,r2.mono e2,r4,k2.imp (fun k2=>⟨k2.1,k2.2.ext (e1.trans e2)⟩) fun k2=>⟨k2.1,k2.2.ext (e1.trans e2)⟩⟩) k⟩) w⟩
 | .tmp a,X,c,C,x,h=>by
  have h:ao c a x=true:=h
  rintro pins s σ H Q I ⟨m,ρ,st,rf,rh,w⟩
  skip
  refine aH a C x h pins s σ H Q I ⟨m,ρ,st,rf,rh,aa C.mono a (fun v st1 k m1 H1 x1 e1 r1 r2=>?_) w⟩
  obtain⟨st2,q,e2,r3,r4⟩:=qe rh e1 r1 r2 k
  exact q m H1 x1 e2 r3 r4
 | .dget a b,X,c,C,x,h=>by
  replace h:=aN h
  obtain⟨g,xs,p,rfl,h⟩:=h
  replace h:=g9 h
  obtain⟨y,n,p2,rfl,h⟩:=h
  replace h:=cK h
  obtain⟨u,rfl,h⟩:=h
  simp only[Bool.and_eq_true,beq_iff_eq] at h
  obtain⟨⟨⟨⟨⟨h1,h2⟩,h3⟩,h4⟩,h5⟩,h6⟩:=h
  exact AW C h1 (by rw[h2];exact beq_self_eq_true _) h3 h4 (aH a C _ h5) (aH b C _ h6)
 | .dcp a,X,c,C,x,h=>by
  replace h:=aN h
  obtain⟨g,xs,p,rfl,h⟩:=h
  replace h:=ak h
  obtain⟨y,p2,rfl,h⟩:=h
  replace h:=cK h
  obtain⟨u,rfl,h⟩:=h
  simp only[Bool.and_eq_true,beq_iff_eq] at h
  obtain⟨⟨⟨h1,h2⟩,h3⟩,h4⟩:=h
  exact Ce C h1 h2 h3 (aH a C _ h4)
 | .clr _,X,c,C,x,h=>by rintro pins s σ H Q I ⟨m,ρ,st,rf,rh,w⟩;exact False.elim w
 | .sset _,X,c,C,x,h=>by rintro pins s σ H Q I ⟨m,ρ,st,rf,rh,w⟩;exact False.elim w
 | .jrev _,X,c,C,x,h=>by rintro pins s σ H Q I ⟨m,ρ,st,rf,rh,w⟩;exact False.elim w
 | .pcall _ _,X,c,C,x,h=>by rintro pins s σ H Q I ⟨m,ρ,st,rf,rh,w⟩;exact False.elim w
 | .hm _ _ _,X,c,C,x,h=>by rintro pins s σ H Q I ⟨m,ρ,st,rf,rh,w⟩;exact False.elim w
 | .part _ _,X,c,C,x,h=>by rintro pins s σ H Q I ⟨m,ρ,st,rf,rh,w⟩;exact False.elim w
theorem jZ:∀(es:Es) {X:Cx}{c:Cfg} (C:COk X c Γ) (xs:List Expr),ei c es xs=true→PA X xs (TAx X.K (bV Γ es))
 | .nil,X,c,C,xs,h=>by
  have h:xs.isEmpty=true:=h
  cases xs with
  | nil =>
   rintro pos pins s σ H Q I ⟨m,ρ,st,rf,rh,w⟩
   skip
   exact jz pos pins s σ H Q I (w m H [] (Ext.refl _ _ _) rh (Rs_nil.mpr rfl))
  | cons x xs=>cases h
 | .cons e es,X,c,C,xs,h=>by
  replace h:=aA h
  obtain⟨y,ys,rfl,h⟩:=h
  ·simp only[Bool.and_eq_true] at h
   obtain⟨⟨h1,h2⟩,h3⟩:=h
   rintro pos pins s σ H Q I ⟨m,ρ,st,rf,rh,w⟩
   skip
   exact pac (aH e C _ h2) (jZ es C _ h3) h1 pos pins s σ H Q I ⟨m,ρ,st,rf,rh,aa C.mono e (fun v st1 k m1 H1 x1 e1 r1 r2=>⟨m1,ρ,st1,rf.mono e1,r1,
    ay C.mono es (fun us st2 k2 m2 H2 ys e2 r3 r4=>k2 m2 H2 _ (e1.trans e2) r3 (Rs_cons'.mpr ⟨r2.mono e2,r4⟩)) k⟩) w⟩
theorem Ey:∀(o:O) {X:Cx}{c:Cfg} (C:COk X c Γ) (x:Option Expr),Ds c o x=true→PO X x (fun σ H Q=>∃m ρ st,RF X.K m H ρ σ∧RH X.K m H st∧wpO Γ o ρ st fun v st'=>∀m' H',Ext X.K m H m' H'→RH X.K m' H' st'→Q v H')
 | .no,X,c,C,x,h=>by
  have h:x.isNone=true:=h
  cases x with
  | none =>
   rintro pins s σ H Q I ⟨m,ρ,st,rf,rh,w⟩
   skip
   exact AF pins s σ H Q I (w m H (Ext.refl _ _ _) rh)
  | some y=>cases h
 | .yes e,X,c,C,x,h=>by
  replace h:=fm h
  obtain⟨y,rfl,h⟩:=h
  ·rintro pins s σ H Q I ⟨m,ρ,st,rf,rh,w⟩
   skip
   refine A5 (aH e C _ h) pins s σ H Q I ⟨m,ρ,st,rf,rh,aa C.mono e (fun v st1 k m1 H1 x1 e1 r1 r2=>?_) w⟩
   obtain⟨i,rfl,k⟩:=k
   rw[R_int] at r2
   exact⟨i,r2,k m1 H1 e1 r1⟩
theorem mR:∀(e:E) {X:Cx}{c:Cfg} (C:COk X c Γ) (x:Expr),vJ c e x=true→PT X x (TTx X.K (wpT Γ e))
 | .not a,X,c,C,x,h=>by
  replace h:=nY h
  obtain⟨y,p,rfl,h⟩:=h
  ·rintro pins s σ H Q I ⟨m,ρ,st,rf,rh,w⟩
   skip
   exact CY (mR a C _ h) pins s σ H Q I ⟨m,ρ,st,rf,rh,aD C.mono a (fun k st1 z m1 H1 e1 r1=>z m1 H1 e1 r1) w⟩
 | .bop true es,X,c,C,x,h=>by
  replace h:=gi h
  obtain⟨o,xs,p,rfl,h⟩:=h
  ·simp only[Bool.and_eq_true,beq_iff_eq,Bool.not_eq_true'] at h
   obtain⟨⟨h1,h2⟩,h3⟩:=h
   subst h1
   rintro pins s σ H Q I ⟨m,ρ,st,rf,rh,w⟩
   skip
   exact(BF es C _ _ h3 h2).pt pins s σ H Q I ⟨m,ρ,st,rf,rh,w⟩
 | .bop false es,X,c,C,x,h=>by
  replace h:=gi h
  obtain⟨o,xs,p,rfl,h⟩:=h
  ·simp only[Bool.and_eq_true,beq_iff_eq,Bool.not_eq_true'] at h
   obtain⟨⟨h1,h2⟩,h3⟩:=h
   subst h1
   rintro pins s σ H Q I ⟨m,ρ,st,rf,rh,w⟩
   skip
   exact(BD es C _ _ h3 h2).pt pins s σ H Q I ⟨m,ρ,st,rf,rh,w⟩
 | .cmp op a b,X,c,C,x,h=>by
  replace h:=gq h
  obtain⟨l,o,r,p,rfl,h⟩:=h
  ·simp only[Bool.and_eq_true,beq_iff_eq,Bool.not_eq_true',beq_eq_false_iff_ne] at h
   obtain⟨⟨⟨h1,n1⟩,h2⟩,h3⟩:=h
   subst h1
   rintro pins s σ H Q I ⟨m,ρ,st,rf,rh,w⟩
   skip
   refine uH (xD C.room.units _) (aH a C _ h2) (aH b C _ h3) n1 pins s σ H Q I ⟨m,ρ,st,rf,rh,aa C.mono a (fun v st1 k m1 H1 x1 e1 r1 r2=>⟨m1,ρ,st1,rf.mono e1,r1,
    aa C.mono b (fun u st2 k2 m2 H2 y2 e2 r3 r4=>⟨m2,st2,v,u,r3,r2.mono e2,r4,gm (fun _ _ q=>?_) k2⟩) k⟩) w⟩
   obtain⟨k,rfl,q⟩:=q
   intro m' H' y e3 r5 r6
   rw[R_bl] at r6
   exact⟨k,r6,q m' H' ((e1.trans e2).trans e3) r5⟩
 | .var i,X,c,C,x,h=>by
  replace h:=ak h
  obtain⟨y,p,rfl,h⟩:=h
  ·rintro pins s σ H Q I ⟨m,ρ,st,rf,rh,w⟩
   skip
   refine eQ (xh C h) (fun _=>rfl) pins s σ H Q I ⟨m,ρ,st,rf,rh,?_⟩
   skip
   obtain⟨v,e,w⟩:=w
   exact⟨v,e,fun m' H' y e1 r1 r2=>qY ⟨m',st,v,r1,r2,a_ (fun _ _ q=>q.ext e1) w⟩⟩
 | .call f es,X,c,C,x,h=>by
  replace h:=aN h
  obtain⟨g,xs,p,rfl,h⟩:=h
  replace h:=ak h
  obtain⟨y,p2,rfl,h⟩:=h
  ·simp only[Bool.and_eq_true] at h
   obtain⟨⟨h1,h2⟩,h3⟩:=h
   rintro pins s σ H Q I ⟨m,ρ,st,rf,rh,w⟩
   skip
   exact eQ (rB C h1 h2 h3 (jZ es C _ h3)) (fun _=>rfl) pins s σ H Q I ⟨m,ρ,st,rf,rh,ay C.mono es (fun vs st1 k=>C.mono _ _ _ _ _ (fun v st2 k2 m' H' y e1 r1 r2=>qY ⟨m',st2,v,r1,r2,a_ (fun _ _ q=>q.ext e1) k2⟩) k) w⟩
 | .blt b es,X,c,C,x,h=>by
  replace h:=aN h
  obtain⟨g,xs,p,rfl,h⟩:=h
  replace h:=ak h
  obtain⟨y,p2,rfl,h⟩:=h
  ·simp only[Bool.and_eq_true,beq_iff_eq,Bool.not_eq_true'] at h
   obtain⟨⟨⟨⟨h1,h2⟩,h3⟩,h4⟩,h5⟩:=h
   rintro pins s σ H Q I ⟨m,ρ,st,rf,rh,w⟩
   skip
   exact eQ (q_ C h1 h2 h3 h4 (jZ es C _ h5)) (fun _=>rfl) pins s σ H Q I ⟨m,ρ,st,rf,rh,ay C.mono es (fun vs st1 k=>gy (fun v st2 k2 m' H' y e1 r1 r2=>qY ⟨m',st2,v,r1,r2,a_ (fun _ _ q=>q.ext e1) k2⟩) k) w⟩
 | .inst a t,X,c,C,x,h=>by
  replace h:=aN h
  obtain⟨g,xs,p,rfl,h⟩:=h
  replace h:=ak h
  obtain⟨y,p2,rfl,h⟩:=h
  replace h:=iO h
  obtain⟨l,r,rfl,h⟩:=h
  replace h:=ak h
  obtain⟨z,p3,rfl,h⟩:=h
  ·rw[GD] at h
   rintro pins s σ H Q I ⟨m,ρ,st,rf,rh,w⟩
   skip
   refine eQ (uO C h.1 (aH a C _ h.2)) (fun _=>rfl) pins s σ H Q I ⟨m,ρ,st,rf,rh,?_⟩
   skip
   refine aa C.mono a (fun v st1 k=>?_) w
   obtain⟨n,e,k⟩:=k
   refine⟨n,e,fun m' H' y e1 r1 r2=>?_⟩
   rw[R_bl] at r2
   subst r2
   exact⟨_,rfl,k m' H' e1 r1⟩
 | .tmp a,X,c,C,x,h=>by
  have h:(ua x && ao c a x)=true:=h
  rw[GD] at h
  rintro pins s σ H Q I ⟨m,ρ,st,rf,rh,w⟩
  skip
  have q:=aH a C x h.2
  refine eQ q (tQ h.1 X.env) pins s σ H Q I ⟨m,ρ,st,rf,rh,aa C.mono a (fun v st1 k m1 H1 x1 e1 r1 r2=>?_) w⟩
  obtain⟨st2,q,e2,r3,r4⟩:=qe rh e1 r1 r2 k
  exact qY ⟨m,st2,v,r3,r4,a_ (fun _ _ q=>q.ext e2) q⟩
 | .ix a b,X,c,C,x,h=>by
  replace h:=eZ h
  obtain⟨l,r,p,rfl,h⟩:=h
  ·simp only[Bool.and_eq_true] at h
   obtain⟨⟨h1,h2⟩,h3⟩:=h
   rintro pins s σ H Q I ⟨m,ρ,st,rf,rh,w⟩
   skip
   refine eQ (yX (Bt C.room.units) (aH a C _ h2) (aH b C _ h3) h1) (fun _=>rfl) pins s σ H Q I ⟨m,ρ,st,rf,rh,aa C.mono a (fun v st1 k m1 H1 x1 e1 r1 r2=>⟨m1,ρ,st1,rf.mono e1,r1,
    aa C.mono b (fun u st2 k2 m2 H2 y2 e2 r3 r4=>⟨m2,st2,v,u,r3,r2.mono e2,r4,iP (fun z st3 q m3 H3 y3 e3 r5 r6=>?_) k2⟩) k⟩) w⟩
   exact qY ⟨m3,st3,z,r5,r6,a_ (fun _ _ q=>q.ext ((e1.trans e2).trans e3)) q⟩
 | .bl _,X,c,C,x,h=>by rintro pins s σ H Q I ⟨m,ρ,st,rf,rh,w⟩;exact False.elim w
 | .int _,X,c,C,x,h=>by rintro pins s σ H Q I ⟨m,ρ,st,rf,rh,w⟩;exact False.elim w
 | .non,X,c,C,x,h=>by rintro pins s σ H Q I ⟨m,ρ,st,rf,rh,w⟩;exact False.elim w
 | .str _,X,c,C,x,h=>by rintro pins s σ H Q I ⟨m,ρ,st,rf,rh,w⟩;exact False.elim w
 | .gv _ _,X,c,C,x,h=>by rintro pins s σ H Q I ⟨m,ρ,st,rf,rh,w⟩;exact False.elim w
 | .tup _,X,c,C,x,h=>by rintro pins s σ H Q I ⟨m,ρ,st,rf,rh,w⟩;exact False.elim w
 | .lst _,X,c,C,x,h=>by rintro pins s σ H Q I ⟨m,ρ,st,rf,rh,w⟩;exact False.elim w
 | .dct0,X,c,C,x,h=>by rintro pins s σ H Q I ⟨m,ρ,st,rf,rh,w⟩;exact False.elim w
 | .bad,X,c,C,x,h=>by rintro pins s σ H Q I ⟨m,ρ,st,rf,rh,w⟩;exact False.elim w
 | .dct1 _ _,X,c,C,x,h=>by rintro pins s σ H Q I ⟨m,ρ,st,rf,rh,w⟩;exact False.elim w
 | .bin _ _ _,X,c,C,x,h=>by rintro pins s σ H Q I ⟨m,ρ,st,rf,rh,w⟩;exact False.elim w
 | .neg _,X,c,C,x,h=>by rintro pins s σ H Q I ⟨m,ρ,st,rf,rh,w⟩;exact False.elim w
 | .ite _ _ _,X,c,C,x,h=>by rintro pins s σ H Q I ⟨m,ρ,st,rf,rh,w⟩;exact False.elim w
 | .sl _ _ _,X,c,C,x,h=>by rintro pins s σ H Q I ⟨m,ρ,st,rf,rh,w⟩;exact False.elim w
 | .met _ _ _,X,c,C,x,h=>by rintro pins s σ H Q I ⟨m,ρ,st,rf,rh,w⟩;exact False.elim w
 | .eqd ne a b,X,c,C,x,h=>by
  replace h:=gq h
  obtain⟨l,o,r,p,rfl,h⟩:=h
  simp only[Bool.and_eq_true,beq_iff_eq,Bool.not_eq_true',beq_eq_false_iff_ne] at h
  obtain⟨⟨⟨h1,n1⟩,h2⟩,h3⟩:=h
  subst h1
  rintro pins s σ H Q I ⟨m,ρ,st,rf,rh,w⟩
  refine uH (yk (by have:=C.room.un;omega) ne) (aH a C _ h2) (aH b C _ h3) n1 pins s σ H Q I ⟨m,ρ,st,rf,rh,aa C.mono a (fun v st1 k m1 H1 x1 e1 r1 r2=>⟨m1,ρ,st1,rf.mono e1,r1,
   aa C.mono b (fun u st2 k2 m2 H2 y2 e2 r3 r4=>⟨m2,st2,v,u,r3,r2.mono e2,r4,k2.imp (fun k2=>⟨k2.1,fun m' H' y e3 r5 r6=>?_⟩) fun k2=>⟨k2.1,fun m' H' y e3 r5 r6=>?_⟩⟩) k⟩) w⟩
  ·rw[R_bl] at r6
   exact⟨!ne,r6,k2.2 m' H' ((e1.trans e2).trans e3) r5⟩
  ·rw[R_bl] at r6
   exact⟨ne,r6,k2.2 m' H' ((e1.trans e2).trans e3) r5⟩
 | .compK _ _ _ _ _ _ _,X,c,C,x,h=>by rintro pins s σ H Q I ⟨m,ρ,st,rf,rh,w⟩;exact False.elim w
 | .compD _ _ _ _ _ _ _ _,X,c,C,x,h=>by rintro pins s σ H Q I ⟨m,ρ,st,rf,rh,w⟩;exact False.elim w
 | .dct2 _ _,X,c,C,x,h=>by rintro pins s σ H Q I ⟨m,ρ,st,rf,rh,w⟩;exact False.elim w
 | .dcl _,X,c,C,x,h=>by rintro pins s σ H Q I ⟨m,ρ,st,rf,rh,w⟩;exact False.elim w
 | .comp _ _ _ _ _ _,X,c,C,x,h=>by rintro pins s σ H Q I ⟨m,ρ,st,rf,rh,w⟩;exact False.elim w
 | .pcall _ _,X,c,C,x,h=>by rintro pins s σ H Q I ⟨m,ρ,st,rf,rh,w⟩;exact False.elim w
 | .hm _ _ _,X,c,C,x,h=>by rintro pins s σ H Q I ⟨m,ρ,st,rf,rh,w⟩;exact False.elim w
 | .jrev _,X,c,C,x,h=>by rintro pins s σ H Q I ⟨m,ρ,st,rf,rh,w⟩;exact False.elim w
 | .dget _ _,X,c,C,x,h=>by rintro pins s σ H Q I ⟨m,ρ,st,rf,rh,w⟩;exact False.elim w
 | .dcp _,X,c,C,x,h=>by rintro pins s σ H Q I ⟨m,ρ,st,rf,rh,w⟩;exact False.elim w
 | .clr _,X,c,C,x,h=>by rintro pins s σ H Q I ⟨m,ρ,st,rf,rh,w⟩;exact False.elim w
 | .sset _,X,c,C,x,h=>by rintro pins s σ H Q I ⟨m,ρ,st,rf,rh,w⟩;exact False.elim w
 | .part _ _,X,c,C,x,h=>by rintro pins s σ H Q I ⟨m,ρ,st,rf,rh,w⟩;exact False.elim w
theorem Bu:∀(es:Es) {X:Cx}{c:Cfg} (C:COk X c Γ) (xs:List Expr) (pos:Pos),ei c es xs=true→xs.isEmpty=false→PE X (.BoolOp .And xs pos) (TEx X.K (p_ Γ es))
 | .nil,X,c,C,xs,pos,h,hn=>by
  have h:xs.isEmpty=true:=h
  rw[h] at hn
  cases hn
 | .cons e .nil,X,c,C,xs,pos,h,hn=>by
  replace h:=aA h
  obtain⟨y,ys,rfl,h⟩:=h
  ·simp only[Bool.and_eq_true] at h
   obtain⟨⟨h1,h2⟩,h3⟩:=h
   have h3:ys.isEmpty=true:=h3
   cases ys with
   | nil =>
    rintro pins s σ H Q I ⟨m,ρ,st,rf,rh,w⟩
    skip
    exact zW (aH e C _ h2) pins s σ H Q I ⟨m,ρ,st,rf,rh,w⟩
   | cons _ _=>cases h3
 | .cons e (.cons e2 es),X,c,C,xs,pos,h,hn=>by
  replace h:=aA h
  obtain⟨y,ys,rfl,h⟩:=h
  ·simp only[Bool.and_eq_true] at h
   obtain⟨⟨h1,h2⟩,h3⟩:=h
   cases ys with
   | nil=>exact Bool.noConfusion (show false=true from h3)
   | cons y2 ys =>
    rintro pins s σ H Q I ⟨m,ρ,st,rf,rh,w⟩
    skip
    refine BY (aH e C _ h2) (Bu (.cons e2 es) C (y2::ys) pos h3 rfl) pins s σ H Q I ⟨m,ρ,st,rf,rh,aa C.mono e (fun v st1 k m1 H1 x1 e1 r1 r2=>?_) w⟩
    obtain⟨b,rfl,k⟩:=k
    rw[R_bl] at r2
    subst r2
    refine⟨b,rfl,?_⟩
    cases b with
    | true=>rw[GA rfl] at k ⊢;exact⟨m1,ρ,st1,rf.mono e1,r1,jN C.mono _ (fun _ _ q=>q.ext e1) k⟩
    | false=>rw[F_ FX] at k ⊢;exact(k.ext e1).here r1 (R_bl.mpr rfl)
theorem Bm:∀(es:Es) {X:Cx}{c:Cfg} (C:COk X c Γ) (xs:List Expr) (pos:Pos),ei c es xs=true→xs.isEmpty=false→PE X (.BoolOp .Or xs pos) (TEx X.K (pL Γ es))
 | .nil,X,c,C,xs,pos,h,hn=>by
  have h:xs.isEmpty=true:=h
  rw[h] at hn
  cases hn
 | .cons e .nil,X,c,C,xs,pos,h,hn=>by
  replace h:=aA h
  obtain⟨y,ys,rfl,h⟩:=h
  ·simp only[Bool.and_eq_true] at h
   obtain⟨⟨h1,h2⟩,h3⟩:=h
   have h3:ys.isEmpty=true:=h3
   cases ys with
   | nil =>
    rintro pins s σ H Q I ⟨m,ρ,st,rf,rh,w⟩
    skip
    exact zW (aH e C _ h2) pins s σ H Q I ⟨m,ρ,st,rf,rh,w⟩
   | cons _ _=>cases h3
 | .cons e (.cons e2 es),X,c,C,xs,pos,h,hn=>by
  replace h:=aA h
  obtain⟨y,ys,rfl,h⟩:=h
  ·simp only[Bool.and_eq_true] at h
   obtain⟨⟨h1,h2⟩,h3⟩:=h
   cases ys with
   | nil=>exact Bool.noConfusion (show false=true from h3)
   | cons y2 ys =>
    rintro pins s σ H Q I ⟨m,ρ,st,rf,rh,w⟩
    skip
    refine Ea (aH e C _ h2) (Bm (.cons e2 es) C (y2::ys) pos h3 rfl) pins s σ H Q I ⟨m,ρ,st,rf,rh,aa C.mono e (fun v st1 k m1 H1 x1 e1 r1 r2=>?_) w⟩
    obtain⟨b,rfl,k⟩:=k
    rw[R_bl] at r2
    subst r2
    refine⟨b,rfl,?_⟩
    cases b with
    | true=>rw[GA rfl] at k ⊢;exact(k.ext e1).here r1 (R_bl.mpr rfl)
    | false=>rw[F_ FX] at k ⊢;exact⟨m1,ρ,st1,rf.mono e1,r1,jD C.mono _ (fun _ _ q=>q.ext e1) k⟩
theorem BF:∀(es:Es) {X:Cx}{c:Cfg} (C:COk X c Γ) (xs:List Expr) (pos:Pos),j8 c es xs=true→xs.isEmpty=false→PW X (.BoolOp .And xs pos) (TTx X.K (fO Γ es))
 | .nil,X,c,C,xs,pos,h,hn=>by
  have h:xs.isEmpty=true:=h
  rw[h] at hn
  cases hn
 | .cons e .nil,X,c,C,xs,pos,h,hn=>by
  replace h:=aA h
  obtain⟨y,ys,rfl,h⟩:=h
  ·simp only[Bool.and_eq_true] at h
   obtain⟨h2,h3⟩:=h
   have h3:ys.isEmpty=true:=h3
   cases ys with
   | nil =>
    rintro whole pins s σ H Q I ⟨m,ρ,st,rf,rh,w⟩
    skip
    exact Ba (mR e C _ h2) whole pins s σ H Q I ⟨m,ρ,st,rf,rh,w⟩
   | cons _ _=>cases h3
 | .cons e (.cons e2 es),X,c,C,xs,pos,h,hn=>by
  replace h:=aA h
  obtain⟨y,ys,rfl,h⟩:=h
  ·simp only[Bool.and_eq_true] at h
   obtain⟨h2,h3⟩:=h
   cases ys with
   | nil=>exact Bool.noConfusion (show false=true from h3)
   | cons y2 ys =>
    rintro whole pins s σ H Q I ⟨m,ρ,st,rf,rh,w⟩
    skip
    refine Dy (mR e C _ h2) (BF (.cons e2 es) C (y2::ys) pos h3 rfl) whole pins s σ H Q I ⟨m,ρ,st,rf,rh,aD C.mono e (fun b st1 k m1 H1 e1 r1=>?_) w⟩
    cases b with
    | true=>rw[GA rfl] at k ⊢;exact⟨m1,ρ,st1,rf.mono e1,r1,bA C.mono _ (fun _ _ q=>q.ext e1) k⟩
    | false=>rw[F_ FX] at k ⊢;exact k m1 H1 e1 r1
theorem BD:∀(es:Es) {X:Cx}{c:Cfg} (C:COk X c Γ) (xs:List Expr) (pos:Pos),j8 c es xs=true→xs.isEmpty=false→PW X (.BoolOp .Or xs pos) (TTx X.K (oW Γ es))
 | .nil,X,c,C,xs,pos,h,hn=>by
  have h:xs.isEmpty=true:=h
  rw[h] at hn
  cases hn
 | .cons e .nil,X,c,C,xs,pos,h,hn=>by
  replace h:=aA h
  obtain⟨y,ys,rfl,h⟩:=h
  ·simp only[Bool.and_eq_true] at h
   obtain⟨h2,h3⟩:=h
   have h3:ys.isEmpty=true:=h3
   cases ys with
   | nil =>
    rintro whole pins s σ H Q I ⟨m,ρ,st,rf,rh,w⟩
    skip
    exact Cj (mR e C _ h2) whole pins s σ H Q I ⟨m,ρ,st,rf,rh,w⟩
   | cons _ _=>cases h3
 | .cons e (.cons e2 es),X,c,C,xs,pos,h,hn=>by
  replace h:=aA h
  obtain⟨y,ys,rfl,h⟩:=h
  ·simp only[Bool.and_eq_true] at h
   obtain⟨h2,h3⟩:=h
   cases ys with
   | nil=>exact Bool.noConfusion (show false=true from h3)
   | cons y2 ys =>
    rintro whole pins s σ H Q I ⟨m,ρ,st,rf,rh,w⟩
    skip
    refine D8 (mR e C _ h2) (BD (.cons e2 es) C (y2::ys) pos h3 rfl) whole pins s σ H Q I ⟨m,ρ,st,rf,rh,aD C.mono e (fun b st1 k m1 H1 e1 r1=>?_) w⟩
    cases b with
    | true=>rw[GA rfl] at k ⊢;exact k m1 H1 e1 r1
    | false=>rw[F_ FX] at k ⊢;exact⟨m1,ρ,st1,rf.mono e1,r1,jM C.mono _ (fun _ _ q=>q.ext e1) k⟩
theorem lK:∀(t:Tg) {X:Cx}{c:Cfg} (C:COk X c Γ) (x:Expr),gP c t x=true→PG X x (TGx X.K (bX Γ t))
 | .name i,X,c,C,x,h=>by
  replace h:=ak h
  obtain⟨y,p,rfl,h⟩:=h
  ·simp only[Bool.and_eq_true,beq_iff_eq] at h
   obtain⟨h1,h2⟩:=C.locx h.2
   rintro pins s σ H v u Q I r ⟨m,ρ,st,p,rf,rh,hr,w⟩
   skip
   exact Az C.ndX (by rw[C.N];exact h.1) h1 h2 pins s σ H v u Q I r (w.here rh (rf.set i hr))
 | .tup ts,X,c,C,x,h=>by
  replace h:=aY h
  obtain⟨xs,k,p,rfl,h⟩:=h
  ·rintro pins s σ H v u Q I r ⟨m,ρ,st,p,rf,rh,hr,w⟩
   skip
   obtain⟨vs,rfl,hl,w⟩:=w
   rw[R_tup] at hr
   obtain⟨a,ys,rfl,g,r2⟩:=hr
   obtain⟨l1,l2⟩:=mC (env:=X.env) h
   refine B1 C.calm (yq ts C _ h) l1 l2 pins s σ H _ u Q I r ⟨a,ys,rfl,g,?_,m,ρ,st,vs,rf,rh,r2,w⟩
   rw[←r2.len]
   exact hl
 | .ltup ts,X,c,C,x,h=>by rintro pins s σ H v u Q I r ⟨m,ρ,st,p,rf,rh,hr,w⟩;exact False.elim w
 | .sub o i,X,c,C,x,h=>by
  replace h:=eZ h
  obtain⟨l,rr,pos,rfl,h⟩:=h
  ·simp only[Bool.and_eq_true] at h
   obtain⟨⟨h1,h2⟩,h3⟩:=h
   rintro pins s σ H v u Q I r ⟨m,ρ,st,p,rf,rh,hr,w⟩
   skip
   refine DD (aH o C _ h2) (aH i C _ h3) (DK C.room.units) (by cases rr <;> first|(intro _;rfl)|cases h1) pins s σ H v u Q I r ⟨m,ρ,st,rf,rh,aa C.mono o (fun a st1 k m1 H1 x1 e1 r1 r2=>⟨m1,ρ,st1,rf.mono e1,r1,
    aa C.mono i (fun b st2 k2 m2 H2 y2 e2 r3 r4=>⟨m2,st2,a,b,p,r3,r2.mono e2,r4,(hr.mono e1).mono e2,nX (fun st3 q H3 e3 r5=>?_) k2⟩) k⟩) w⟩
   exact q m2 H3 σ ((e1.trans e2).trans e3) r5 (((rf.mono e1).mono e2).mono e3)
theorem yq:∀(ts:Tgs) {X:Cx}{c:Cfg} (C:COk X c Γ) (xs:List Expr),lg c ts xs=true→PGs X xs (Fi X.K (f6 Γ ts))
 | .nil,X,c,C,xs,h=>by
  have h:xs.isEmpty=true:=h
  cases xs with
  | nil =>
   rintro pins s σ H v u Q I r ⟨m,ρ,st,p,rf,rh,hr,w⟩
   skip
   obtain⟨rfl,w⟩:=w
   rw[Rs_nil] at hr
   exact Ah pins s σ H v u Q I r ⟨hr,w.here rh rf⟩
  | cons _ _=>cases h
 | .cons t ts,X,c,C,xs,h=>by
  replace h:=aA h
  obtain⟨y,ys,rfl,h⟩:=h
  ·simp only[Bool.and_eq_true] at h
   obtain⟨⟨h1,h2⟩,h3⟩:=h
   rintro pins s σ H v u Q I r ⟨m,ρ,st,p,rf,rh,hr,w⟩
   skip
   obtain⟨x,q,rfl,w⟩:=w
   rw[Rs_cons] at hr
   obtain⟨y,ys,rfl,g1,g2⟩:=hr
   refine wX (lK t C _ h2) (yq ts C _ h3) (by rw[gN h1];rfl) pins s σ H _ u Q I r ⟨y,ys,rfl,m,ρ,st,x,rf,rh,g1,aC C.mono t (fun ρ1 st1 k m1 H1 σ1 e1 r1 r2=>?_) w⟩
   exact⟨m1,ρ1,st1,q,r2,r1,g2.mono e1,fD C.mono ts (fun _ _ q=>q.ext e1) k⟩
theorem yn:∀(it:It) {X:Cx}{c:Cfg} (C:COk X c Γ) {tg:Expr} (x:Expr),xP it tg=true→zS c it x=true→PI X tg x (TIx X.K (ju Γ it))
 | .seq e,X,c,C,tg,x,_,h=>by
  have h:(eX x && ao c e x)=true:=h
  rw[GD] at h
  rintro pins s σ H Rr I ⟨m,ρ,st,rf,rh,w⟩
  skip
  refine DP (aH e C x h.2) pins s σ H Rr I ⟨m,ρ,st,rf,rh,aa C.mono e (fun v st1 k m1 H1 x1 e1 r1 r2=>?_) w⟩
  obtain⟨xs,es,k⟩:=k
  cases v with
  | tup ys =>
   cases es
   rw[R_tup] at r2
   obtain⟨a,zs,rfl,g,r3⟩:=r2
   exact⟨a,rfl,.inr ⟨⟨zs,g⟩,k m1 H1 _ e1 r1 (zZ g r3)⟩⟩
  | rdl ys =>
   cases es
   rw[eN] at r2
   obtain⟨a,zs,rfl,g,r3⟩:=r2
   exact⟨a,rfl,.inl ⟨⟨zs,g.sq⟩,k m1 H1 _ e1 r1 (zk g r3)⟩⟩
  | ref n =>
   unfold bt bc at es
   simp only at es
   split at es
   ·cases es
    rename_i q
    obtain⟨a,zs,rfl,ea,g,r3⟩:=r1.lst q r2
    exact⟨a,rfl,.inl ⟨⟨zs,SqL.of g⟩,k m1 H1 _ e1 r1 (wp r1 q ea)⟩⟩
   ·cases es
  | _=>cases es
 | .range1 a,X,c,C,tg,x,_,h=>by
  replace h:=aN h
  obtain⟨g,xs,p,rfl,h⟩:=h
  replace h:=ak h
  obtain⟨y,p2,rfl,h⟩:=h
  replace h:=cK h
  obtain⟨l,rfl,h⟩:=h
  ·simp only[Bool.and_eq_true,beq_iff_eq] at h
   obtain⟨⟨⟨h1,h2⟩,h3⟩,h4⟩:=h
   subst h1
   obtain⟨g1,g2,g3,g4⟩:=C.bltx h2
   rintro pins s σ H Rr I ⟨m,ρ,st,rf,rh,w⟩
   skip
   have hA:PA X [_] (qH (TEx X.K (wpE Γ a)) xO):=pac (aH a C _ h4) jz h3
   refine v5 g1 g4 hA (cI h3) pins s σ H Rr I ⟨m,ρ,st,rf,rh,aa C.mono a (fun v st1 k m1 H1 x1 e1 r1 r2=>?_) w⟩
   obtain⟨j,rfl,k1,k2,k⟩:=k
   rw[R_int] at r2
   subst r2
   exact⟨j,rfl,k1,k2,k m1 H1 _ e1 r1 ud⟩
 | .range2 _ _,X,c,C,tg,x,_,h=>by rintro pins s σ H Rr I ⟨m,ρ,st,rf,rh,w⟩;exact False.elim w
 | .zip _ _,X,c,C,tg,x,ht,h=>by rintro pins s σ H Rr I ⟨m,ρ,st,rf,rh,w⟩;exact False.elim w
 | .zip3 _ _ _,X,c,C,tg,x,ht,h=>by rintro pins s σ H Rr I ⟨m,ρ,st,rf,rh,w⟩;exact False.elim w
 | .enum _,X,c,C,tg,x,ht,h=>by rintro pins s σ H Rr I ⟨m,ρ,st,rf,rh,w⟩;exact False.elim w
 | .chars e,X,c,C,tg,x,_,h=>by
  have h:(eX x && ao c e x)=true:=h
  rw[GD] at h
  rintro pins s σ H Rr I ⟨m,ρ,st,rf,rh,w⟩
  refine zo (aH e C x h.2) pins s σ H Rr I ⟨m,ρ,st,rf,rh,aa C.mono e (fun v st1 k m1 H1 x1 e1 r1 r2=>?_) w⟩
  obtain⟨z,rfl,k⟩:=k
  rw[R_str] at r2
  exact⟨z,r2,k m1 H1 _ e1 r1 sE⟩
 | .range3 _ _ _,X,c,C,tg,x,_,h=>by rintro pins s σ H Rr I ⟨m,ρ,st,rf,rh,w⟩;exact False.elim w
theorem sx:∀(es:Es) {X:Cx}{c:Cfg} (C:COk X c Γ) (xs:List Expr),j8 c es xs=true→PTs X xs (TTx X.K (fO Γ es))
 | .nil,X,c,C,xs,h=>by
  have h:xs.isEmpty=true:=h
  cases xs with
  | nil =>
   rintro pins s σ H Q I ⟨m,ρ,st,rf,rh,w⟩
   skip
   exact ve pins s σ H Q I (w m H (Ext.refl _ _ _) rh)
  | cons _ _=>cases h
 | .cons e .nil,X,c,C,xs,h=>by
  replace h:=aA h
  obtain⟨y,ys,rfl,h⟩:=h
  ·simp only[Bool.and_eq_true] at h
   obtain⟨h2,h3⟩:=h
   have h3:ys.isEmpty=true:=h3
   cases ys with
   | nil =>
    rintro pins s σ H Q I ⟨m,ρ,st,rf,rh,w⟩
    skip
    refine q5 (mR e C _ h2) ve pins s σ H Q I ⟨m,ρ,st,rf,rh,aD C.mono e (fun b st1 k m1 H1 e1 r1=>?_) w⟩
    cases b with
    | true=>rw[GA rfl];exact k m1 H1 e1 r1
    | false=>rw[F_ FX];exact k m1 H1 e1 r1
   | cons _ _=>cases h3
 | .cons e (.cons e2 es),X,c,C,xs,h=>by
  replace h:=aA h
  obtain⟨y,ys,rfl,h⟩:=h
  ·simp only[Bool.and_eq_true] at h
   obtain⟨h2,h3⟩:=h
   rintro pins s σ H Q I ⟨m,ρ,st,rf,rh,w⟩
   skip
   refine q5 (mR e C _ h2) (sx (.cons e2 es) C _ h3) pins s σ H Q I ⟨m,ρ,st,rf,rh,aD C.mono e (fun b st1 k m1 H1 e1 r1=>?_) w⟩
   cases b with
   | true=>rw[GA rfl] at k ⊢;exact⟨m1,ρ,st1,rf.mono e1,r1,bA C.mono _ (fun _ _ q=>q.ext e1) k⟩
   | false=>rw[F_ FX] at k ⊢;exact k m1 H1 e1 r1
end
end
end FW
namespace FW
open L2 HX
section
variable {X:Cx}{c:Cfg}{Γ:Nat→FSp}{tg:Expr}
noncomputable def AE (K:W.Frag)(m:List Addr)(H:Hp)(D:L2.Ends):aG:={ nx:=postF K m H D.nx,rt:=post K m H D.rt,bk:=postF K m H D.bk,ct:=postF K m H D.ct }
noncomputable def TSx (K:W.Frag)(w:Fr→AH→aG→Prop):TS:=fun D σ H=>∃m ρ st,RF K m H ρ σ∧RH K m H st∧w ρ st (AE K m H D)
theorem AE.ext {K:W.Frag}{m m1:List Addr}{H H1:Hp}{D:L2.Ends}(x:Ext K m H m1 H1):iX (AE K m H D) (AE K m1 H1 D) :=
 ⟨fun _ _ q=>q.ext x,fun _ _ q=>q.ext x,fun _ _ q=>q.ext x,fun _ _ q=>q.ext x⟩
theorem A4 (G:aW Γ){t:Tg}{it:It}{b:Ss}{D:L2.Ends}{σ:L2.St}{H:Hp}(h:TSx X.K (wpS Γ (.forS t it b)) D σ H):Dd (TIx X.K (ju Γ it)) (TGx X.K (bX Γ t)) (TSx X.K (aq Γ b)) D σ H:=by
 obtain⟨m,ρ,st,rf,rh,w⟩:=h
 skip
 refine⟨m,ρ,st,rf,rh,eU G it (fun xs chk st1 k m1 H1 J e1 r1 W=>?_) w⟩
 refine⟨fun i n σ' H'=>n+i=xs.length∧∃m' ρ' st',Ext X.K m1 H1 m' H'∧RH X.K m' H' st'∧RF X.K m' H' ρ' σ'∧kN chk (fun x ρ' st' D'=>bX Γ t x ρ' st' fun ρ2 st2=>aq Γ b ρ2 st2 D') (AE X.K m H D) (xs.drop i) ρ' st',
  ⟨xs.length,rfl,m1,ρ,st1,Ext.refl _ _ _,r1,rf.mono e1,by simpa using k⟩,?_⟩
 rintro i n σ' H' ⟨hn,m',ρ',st',x',rh',rf',k'⟩
 cases q:xs.drop i with
 | nil =>
  rw[q] at k'
  have hi:i=xs.length:=by
   have:=GR List.length q
   simp at this
   omega
  subst hi
  exact .inl ⟨W.stop m' H' st' x' rh' k'.1,k'.2 m' H' σ' (e1.trans x') rh' rf'⟩
 | cons v rest =>
  rw[q] at k'
  have hi:i<xs.length:=by
   have:=GR List.length q
   simp at this
   omega
  have ev:xs[i]?=some v:=by
   have:=GR List.head? q
   rw[J6] at this
   exact this
  have er:rest=xs.drop (i+1):=by
   have:=GR List.tail q
   rw[J9] at this
   exact this.symm
  subst er
  obtain⟨kc,k'⟩:=k'
  obtain⟨go,yl⟩:=W.item i v m' H' st' x' rh' kc ev
  refine .inr ⟨go,fun σ'' H''=>(n-1+(i+1)=xs.length∧∃m' ρ' st',Ext X.K m1 H1 m' H''∧RH X.K m' H'' st'∧RF X.K m' H'' ρ' σ''∧kN chk (fun x ρ' st' D'=>bX Γ t x ρ' st' fun ρ2 st2=>aq Γ b ρ2 st2 D') (AE X.K m H D) (xs.drop (i+1)) ρ' st'),fun σ'' H'' z=>⟨n-1,by omega,z⟩,fun y H2 hy=>?_⟩
  obtain⟨x2,r2,rv⟩:=yl y H2 hy
  refine⟨m',ρ',st',v,rf'.mono x2,r2,rv,aC G t (fun ρ3 st3 k3 m3 H3 σ3 x3 r3 f3=>?_) k'⟩
  refine⟨m3,ρ3,st3,f3,r3,aB G b ?_ k3⟩
  have xx:Ext X.K m H m3 H3:=((e1.trans x').trans x2).trans x3
  refine⟨fun ρ4 st4 k4 m4 H4 σ4 x4 r4 f4=>⟨by omega,m4,ρ4,st4,((x'.trans x2).trans x3).trans x4,r4,f4,k4⟩,fun v4 st4 k4=>k4.ext xx,fun ρ4 st4 k4=>k4.ext xx,fun ρ4 st4 k4 m4 H4 σ4 x4 r4 f4=>⟨by omega,m4,ρ4,st4,((x'.trans x2).trans x3).trans x4,r4,f4,k4⟩⟩
noncomputable def EF (X:Cx)(D:L2.Ends):L2.Ends:={ nx:=fun σ H=>∃a o ys,H a=some (.frz o (.dK ys))∧(∀u q,X.H₀ a≠some (.frz u q))∧D.nx σ (upd H a (.dK ys)),rt:=fun v H=>∃a o ys,H a=some (.frz o (.dK ys))∧(∀u q,X.H₀ a≠some (.frz u q))∧D.rt v (upd H a (.dK ys)),bk:=fun _ _=>False,ct:=fun _ _=>False }
theorem Av {pins:List (Addr × Obj)}{D:L2.Ends}{f:Flow}{s':Shared}(h:SP X pins (EF X D) f s'):SP X pins D f s':=by
 cases f with
 | next=>obtain⟨σ',H',I,a,o,ys,hF,hz,q⟩:=h;exact⟨σ',_,qG I hF hz,q⟩
 | ret u=>obtain⟨v,σ',H',I,r,a,o,ys,hF,hz,q⟩:=h;exact⟨v,σ',_,qG I hF hz,r,q⟩
 | brk=>obtain⟨σ',H',I,q⟩:=h;exact False.elim q
 | cont=>obtain⟨σ',H',I,q⟩:=h;exact False.elim q
theorem y_ (G:aW Γ){t:Tg}{wk:DW}{e:E}{b:Ss}{D:L2.Ends}{σ:L2.St}{H:Hp}(h:TSx X.K (wpS Γ (.forK t wk e b)) D σ H):Dd (wiF X Γ wk e) (TGx X.K (bX Γ t)) (TSx X.K (aq Γ b)) (EF X D) σ H:=by
 obtain⟨m,ρ,st,rf,rh,w⟩:=h
 refine⟨m,ρ,st,rf,rh,aa G e (fun v st1 z=>?_) w⟩
 obtain⟨n,rfl,kvs,h1,k⟩:=z
 refine⟨n,kvs,rfl,h1,fun m1 H1 a o ys e1 r1 ea g r3 r4 hz=>?_⟩
 have xs:Ext X.K m1 H1 m1 (upd H1 a (.frz o (.dK ys))):=Ext.set (ys:=[]) r1 ea (nfD g)
 have W:pD X.K (ItF wk a o ys) (cw wk kvs) (fun _=>True) m1 (upd H1 a (.frz o (.dK ys))):=BZ au r3 (r4.mono xs)
 have rF:=r1.frz (o:=o) ea g r3 r4
 generalize hH2:upd H1 a (.frz o (.dK ys))=H2 at *
 have hF0:H2 a=some (.frz o (.dK ys)):=by rw[←hH2];exact au
 have toD:∀ {m':List Addr}{H':Hp},Ext X.K m1 H2 m' H'→Ext X.K m H m' (upd H' a (.dK ys)):=fun {m' H'} x=>e1.trans (Ext.thaw (o:=o) r1 ea g (by rw[hH2];exact x))
 have endN:∀ {ρ':Fr}{st':AH}{m':List Addr}{H':Hp}{σ':L2.St},Ext X.K m1 H2 m' H'→RH X.K m' H' st'→RF X.K m' H' ρ' σ'→(fzD n kvs (AE X.K m H D)).nx ρ' st'→(EF X D).nx σ' H':=fun {ρ' st' m' H' σ'} x r f q=>by
  have hF:H' a=some (.frz o (.dK ys)):=x.frz _ _ _ hF0
  exact⟨a,o,ys,hF,hz,q.2 m' _ σ' (toD x) (r.thaw (gA x.pre ea) hF q.1) ⟨f.len,fun i v e=>let ⟨y,e1,rr⟩:=f.at_ i v e;⟨y,e1,rr.mono0 (dU hF) (dS hF)⟩⟩⟩
 have endR:∀ {v:PV}{x:V}{st':AH}{m':List Addr}{H':Hp},Ext X.K m1 H2 m' H'→RH X.K m' H' st'→R X.K m' H' v x→(fzD n kvs (AE X.K m H D)).rt v st'→(EF X D).rt x H':=fun {v x st' m' H'} e r f q=>by
  have hF:H' a=some (.frz o (.dK ys)):=e.frz _ _ _ hF0
  exact⟨a,o,ys,hF,hz,q.2 m' _ x (toD e) (r.thaw (gA e.pre ea) hF q.1) (f.mono0 (dU hF) (dS hF))⟩
 refine⟨fun i n' σ' H'=>n'+i=(cw wk kvs).length∧∃m' ρ' st',Ext X.K m1 H2 m' H'∧RH X.K m' H' st'∧RF X.K m' H' ρ' σ'∧kN (fun _=>True) (fun x ρ' st' D'=>bX Γ t x ρ' st' fun ρ2 st2=>aq Γ b ρ2 st2 D') (fzD n kvs (AE X.K m H D)) ((cw wk kvs).drop i) ρ' st',
  ⟨(cw wk kvs).length,rfl,m1,ρ,st1.set n (.fz kvs),Ext.refl _ _ _,rF,(rf.mono e1).mono xs,by simpa using k⟩,?_⟩
 generalize cw wk kvs=xl at *
 rintro i n' σ' H' ⟨hn,m',ρ',st',x',rh',rf',k'⟩
 cases q:xl.drop i with
 | nil =>
  rw[q] at k'
  have hi:i=xl.length:=by
   have:=GR List.length q
   simp at this
   omega
  subst hi
  exact .inl ⟨W.stop m' H' st' x' rh' trivial,endN x' rh' rf' k'.2⟩
 | cons v rest =>
  rw[q] at k'
  have hi:i<xl.length:=by
   have:=GR List.length q
   simp at this
   omega
  have ev:xl[i]?=some v:=by
   have:=GR List.head? q
   rw[J6] at this
   exact this
  have er:rest=xl.drop (i+1):=by
   have:=GR List.tail q
   rw[J9] at this
   exact this.symm
  subst er
  obtain⟨kc,k'⟩:=k'
  obtain⟨go,yl⟩:=W.item i v m' H' st' x' rh' trivial ev
  refine .inr ⟨go,fun σ'' H''=>(n'-1+(i+1)=xl.length∧∃m' ρ' st',Ext X.K m1 H2 m' H''∧RH X.K m' H'' st'∧RF X.K m' H'' ρ' σ''∧kN (fun _=>True) (fun x ρ' st' D'=>bX Γ t x ρ' st' fun ρ2 st2=>aq Γ b ρ2 st2 D') (fzD n kvs (AE X.K m H D)) (xl.drop (i+1)) ρ' st'),fun σ'' H'' z=>⟨n'-1,by omega,z⟩,fun y H3 hy=>?_⟩
  obtain⟨x2,r2,rv⟩:=yl y H3 hy
  refine⟨m',ρ',st',v,rf'.mono x2,r2,rv,aC G t (fun ρ3 st3 k3 m3 H4 σ3 x3 r3 f3=>?_) k'⟩
  refine⟨m3,ρ3,st3,f3,r3,aB G b ?_ k3⟩
  have xx:Ext X.K m1 H2 m3 H4:=(x'.trans x2).trans x3
  exact⟨fun ρ4 st4 k4 m4 H4 σ4 x4 r4 f4=>⟨by omega,m4,ρ4,st4,xx.trans x4,r4,f4,k4⟩,fun v4 st4 k4 m4 H4 y4 x4 r4 f4=>endR (xx.trans x4) r4 f4 k4,fun ρ4 st4 k4 m4 H4 σ4 x4 r4 f4=>endN (xx.trans x4) r4 f4 k4,fun ρ4 st4 k4 m4 H4 σ4 x4 r4 f4=>⟨by omega,m4,ρ4,st4,xx.trans x4,r4,f4,k4⟩⟩
theorem vE (G:aW Γ){cd:E}{b:Ss}{D:L2.Ends}{σ:L2.St}{H:Hp}(h:TSx X.K (wpS Γ (.whileS cd b)) D σ H):yP (TTx X.K (wpT Γ cd)) (TSx X.K (aq Γ b)) D σ H:=by
 obtain⟨m,ρ,st,rf,rh,w⟩:=h
 skip
 obtain⟨n0,w⟩:=w
 refine⟨fun n σ' H'=>∃m' ρ' st',Ext X.K m H m' H'∧RH X.K m' H' st'∧RF X.K m' H' ρ' σ'∧dN (wpT Γ cd) (aq Γ b) (AE X.K m H D) n ρ' st',⟨n0,m,ρ,st,Ext.refl _ _ _,rh,rf,w⟩,?_⟩
 rintro n σ' H' ⟨m',ρ',st',x',rh',rf',k'⟩
 cases n with
 | zero=>exact k'.elim
 | succ n =>
  refine⟨m',ρ',st',rf',rh',aD G cd (fun b st1 k m1 H1 x1 r1=>?_) k'⟩
  cases b with
  | false=>rw[F_ FX] at k ⊢;exact k m1 H1 σ' (x'.trans x1) r1 (rf'.mono x1)
  | true =>
   rw[GA rfl] at k ⊢
   refine⟨fun σ'' H''=>∃m' ρ' st',Ext X.K m H m' H''∧RH X.K m' H'' st'∧RF X.K m' H'' ρ' σ''∧dN (wpT Γ cd) (aq Γ b) (AE X.K m H D) n ρ' st',fun σ'' H'' z=>⟨n,Nat.lt_succ_self _,z⟩,m1,ρ',st1,rf'.mono x1,r1,aB G _ ?_ k⟩
   have xx:=x'.trans x1
   exact⟨fun ρ4 st4 k4 m4 H4 σ4 x4 r4 f4=>⟨m4,ρ4,st4,xx.trans x4,r4,f4,k4⟩,fun v4 st4 k4=>k4.ext xx,fun ρ4 st4 k4=>k4.ext xx,fun ρ4 st4 k4 m4 H4 σ4 x4 r4 f4=>⟨m4,ρ4,st4,xx.trans x4,r4,f4,k4⟩⟩
end
end FW
namespace FW
open L2 HX
noncomputable def mE:Expr→Bool
 | .Name ..=>true
 | _=>false
noncomputable def xu:Expr→Expr→Bool
 | .Tuple ts _ _,.Tuple vs _ _=>(ts.any fun t=>!mE t) || vs.all (foldedForSure 8)
 | .Tuple ..,_=>true
 | .Subscript ..,_=>true
 | _,_=>false
noncomputable def sB (y:Str)(sc:Scope):Bool:=sc.names.any fun x=>match x with|(n,k)=>n == y && (k == .local || k == .cell)
noncomputable def tS (x:Stmt)(f:List Expr→Expr→Bool):Bool:=match x with | .Assign ts v _=>f ts v|_=>false
theorem mf {x:Stmt}{f:List Expr→Expr→Bool}(h:tS x f=true):∃ts v p,x=.Assign ts v p∧f ts v=true:=by
 cases x with|Assign ts v p=>exact⟨ts,v,p,rfl,h⟩|_=>exact Bool.noConfusion h
noncomputable def wL (x:Stmt)(f:Expr→Expr→Bool):Bool:=tS x fun ts v=>on1 ts fun t=>f t v
theorem oo {x:Stmt}{f:Expr→Expr→Bool}(h:wL x f=true):∃t v p,x=.Assign [t] v p∧f t v=true:=by
 replace h:=mf h
 obtain⟨ts,v,p,rfl,h⟩:=h
 replace h:=cK h
 obtain⟨t,rfl,h⟩:=h
 exact⟨t,v,p,rfl,h⟩
noncomputable def Ei (x:Stmt)(f:Expr→Operator→Expr→Bool):Bool:=match x with | .AugAssign t o v _=>f t o v|_=>false
noncomputable def Eh (x:Stmt)(f:Expr→Bool):Bool:=match x with | .Expr v _=>f v|_=>false
theorem xF {x:Stmt}{f:Expr→Bool}(h:Eh x f=true):∃v p,x=.Expr v p∧f v=true:=by
 cases x with|Expr v p=>exact⟨v,p,rfl,h⟩|_=>exact Bool.noConfusion h
noncomputable def xA (x:Stmt)(f:Option Expr→Bool):Bool:=match x with | .Return v _=>f v|_=>false
theorem ol {x:Stmt}{f:Option Expr→Bool}(h:xA x f=true):∃v p,x=.Return v p∧f v=true:=by
 cases x with|Return v p=>exact⟨v,p,rfl,h⟩|_=>exact Bool.noConfusion h
noncomputable def Em (x:Stmt)(f:Expr→List Stmt→List Stmt→Bool):Bool:=match x with | .If v a b _=>f v a b|_=>false
theorem yt {x:Stmt}{f:Expr→List Stmt→List Stmt→Bool}(h:Em x f=true):∃v a b p,x=.If v a b p∧f v a b=true:=by
 cases x with|If v a b p=>exact⟨v,a,b,p,rfl,h⟩|_=>exact Bool.noConfusion h
noncomputable def vb (x:Stmt)(f:Expr→List Stmt→Bool):Bool:=match x with | .While v a [] _=>f v a|_=>false
theorem qg {x:Stmt}{f:Expr→List Stmt→Bool}(h:vb x f=true):∃v a p,x=.While v a [] p∧f v a=true:=by
 cases x with
 | While v a b p=>cases b with|nil=>exact⟨v,a,p,rfl,h⟩|cons _ _=>exact Bool.noConfusion h
 | _=>exact Bool.noConfusion h
noncomputable def x9 (x:Stmt)(f:Expr→Expr→List Stmt→Bool):Bool:=match x with | .For t v a [] _=>f t v a|_=>false
theorem nQ {x:Stmt}{f:Expr→Expr→List Stmt→Bool}(h:x9 x f=true):∃t v a p,x=.For t v a [] p∧f t v a=true:=by
 cases x with
 | For t v a b p=>cases b with|nil=>exact⟨t,v,a,p,rfl,h⟩|cons _ _=>exact Bool.noConfusion h
 | _=>exact Bool.noConfusion h
noncomputable def Ab (x:Stmt):Bool:=match x with | .Pass _=>true|_=>false
theorem tL {x:Stmt}(h:Ab x=true):∃p,x=.Pass p:=by
 cases x with|Pass p=>exact⟨p,rfl⟩|_=>exact Bool.noConfusion h
noncomputable def Bp (x:Stmt):Bool:=match x with | .Break _=>true|_=>false
theorem v9 {x:Stmt}(h:Bp x=true):∃p,x=.Break p:=by
 cases x with|Break p=>exact⟨p,rfl⟩|_=>exact Bool.noConfusion h
noncomputable def xk (x:Stmt):Bool:=match x with | .Continue _=>true|_=>false
theorem sA {x:Stmt}(h:xk x=true):∃p,x=.Continue p:=by
 cases x with|Continue p=>exact⟨p,rfl⟩|_=>exact Bool.noConfusion h
noncomputable def B':Tg→Bool
 | .name _=>true
 | _=>false
noncomputable def Ep:E→Bool
 | .comp ..=>true
 | _=>false
noncomputable def DE (c:Cfg)(t:Tg)(e:E)(tg x:Expr):Bool :=
 B' t && Ep e && ar tg fun y py=>xp x fun _ _ sc pos=>c.names.lookup y == some .cell || (c.names.lookup y == some .local && py.line == pos.line && !sB y sc)
noncomputable def Ek:E→Bool
 | .compD ..=>true
 | _=>false
noncomputable def wP (c:Cfg)(t:Tg)(e:E)(tg x:Expr):Bool :=
 B' t && Ek e && ar tg fun y py=>Cq x fun _ _ _ sc pos=>c.names.lookup y == some .local && py.line == pos.line && !sB y sc
theorem Am {e:E}(h:Ek e=true):∃kx vx tg wk d ifs nt caps,e=.compD kx vx tg wk d ifs nt caps:=by
 cases e with|compD kx vx tg wk d ifs nt caps=>exact⟨kx,vx,tg,wk,d,ifs,nt,caps,rfl⟩|_=>exact Bool.noConfusion h
noncomputable def D0 (c:Cfg)(t:Expr):Bool:=ar t fun y _=>c.names.lookup y == some .cell
noncomputable def Fm (c:Cfg)(tg x:Expr):Bool:=eC tg fun ts=>(xp x fun _ _ _ _=>true) || eC x fun _=>ts.any (D0 c)
mutual
noncomputable def EJ (c:Cfg):S→Stmt→Bool
 | .set t e,s=>wL s fun tg x=>(gP c t tg && ao c e x) && ((my x && (mE tg || xu tg x)) || (DE c t e tg x || (Fm c tg x || wP c t e tg x)))
 | .par i j a b,s=>wL s fun tg vx=>eC tg fun ts=>on2 ts fun ta tb=>ar ta fun x px=>ar tb fun y py=>eC vx fun us=>on2 us fun u v=>c.N[i]? == some x && c.N[j]? == some y && !(i == j) && !(x == y) && c.names.lookup x == some .local && c.names.lookup y == some .local
    && px.line == py.line && ag u && ag v && !(foldedForSure 8 u && foldedForSure 8 v) && !(constantsAlone 8 u && constantsAlone 8 v) && ao c a u && ao c b v
 | .aug i op e,s=>Ei s fun t o x=>ar t fun y _=>c.N[i]? == some y && c.loc y && o == op && ao c e x
 | .expr e,s=>Eh s fun x=>my x && ao c e x
 | .ret e,s=>xA s fun o=>ie o fun x=>ao c e x
 | .retN,s=>xA s fun o=>o.isNone
 | .ifS t a b,s=>Em s fun x ys zs=>vJ c t x && aw c a ys && aw c b zs
 | .whileS t b,s=>vb s fun x ys=>vJ c t x && aw c b ys
 | .forS t it b,s=>x9 s fun tg x ys=>xP it tg && eX x && gP c t tg && zS c it x && aw c b ys
 | .forK t wk e b,s=>x9 s fun tg x ys=>Au wk tg && eX x && gP c t tg && qP wk x (fun y=>ao c e y) && aw c b ys
 | .pass,s=>Ab s
 | .brk,s=>Bp s
 | .cont,s=>xk s
 | .bad,_=>true
 | .set2 i j e,s=>tS s fun ts v=>on2 ts fun ta tb=>ar ta fun x _=>ar tb fun y _=>c.N[i]? == some x && c.N[j]? == some y && !(i == j) && c.loc x && c.loc y && my v && ao c e v
termination_by structural s=>s
noncomputable def aw (c:Cfg):Ss→List Stmt→Bool
 | .nil,xs=>xs.isEmpty
 | .cons s ss,xs=>mh xs fun y ys=>EJ c s y && aw c ss ys
termination_by structural s=>s
end
theorem uV {t:Tg}(h:B' t=true):∃i,t=.name i:=by
 cases t with|name i=>exact⟨i,rfl⟩|_=>exact Bool.noConfusion h
theorem AA {e:E}(h:Ep e=true):∃elt tg it ifs nt caps,e=.comp elt tg it ifs nt caps:=by
 cases e with|comp elt tg it ifs nt caps=>exact⟨elt,tg,it,ifs,nt,caps,rfl⟩|_=>exact Bool.noConfusion h
theorem fR {x:Expr}{t:Option Expr}{l:Nat}{env:Env}(h:my x=true):swapsWith x t l env=pure false:=by
 cases x <;> first|rfl|cases h
theorem fU {x t:Expr}{l:Nat}{env:Env}(h:my x=true):swapsWithSole [t] x l env=pure false:=by
 unfold swapsWithSole
 exact fR h
theorem kf:∀(ts:List Expr) (f:Expr→Option Str),(ts.any fun t=>!mE t)=true→(∀t,mE t=false→f t=none)→(ts.filterMap f).length<ts.length
 | [],f,h,_=>by cases h
 | t::ts,f,h,hf=>by
  rw[HG,IU] at h
  have hl:(ts.filterMap f).length≤ts.length:=IE _ _
  rcases h with h|h
  ·rw[HH,hf t (by simpa using h)]
   simp only[List.length_cons]
   omega
  ·have:=kf ts f h hf
   rw[HH]
   cases f t <;> simp only[List.length_cons] <;> omega
theorem iG:∀(ts:List Expr) (P:Expr→Bool) (f:Expr→Option Str),ts.any P=true→(∀t,P t=true→f t=none)→(ts.filterMap f).length<ts.length
 | [],P,f,h,_=>by cases h
 | t::ts,P,f,h,hf=>by
  rw[HG,IU] at h
  have hl:(ts.filterMap f).length≤ts.length:=IE _ _
  rcases h with h|h
  ·rw[HH,hf t h]
   simp only[List.length_cons]
   omega
  ·have:=iG ts P f h hf
   rw[HH]
   cases f t <;> simp only[List.length_cons] <;> omega
theorem xV {ts vs:List Expr}{k k2:Nat}{p p2:Pos}{env:Env}{P:Expr→Bool}(hs:ts.any P=true)(hP:∀t,P t=true→∃y q,t=.Name y q∧(env.kindOf y == some .local)=false):swappedStores [.Tuple ts k p] (.Tuple vs k2 p2) env=pure none:=by
 unfold swappedStores
 dsimp only
 split
 ·rfl
 ·split
  ·rfl
  ·have hlt:=iG ts P (fun x=>match x with
    | .Name id pos=>if (env.kindOf id == some .local && pos.line == (Option.map (fun x=>x.pos.line) ts.head?).getD 0)=true then some id else none
    | _=>none) hs (fun t ht=>by
     obtain⟨y,q,rfl,hk⟩:=hP t ht
     show (if (env.kindOf y == some .local && _)=true then some y else none)=none
     rw[hk,Bool.false_and,F_ FX])
   rw[GA]
   rw[IU]
   left
   rw[bne_iff_ne]
   exact GS hlt
theorem jK {tg x:Expr}{env:Env}(h:xu tg x=true):swappedStores [tg] x env=pure none:=by
 cases tg with
 | Tuple ts k p =>
  cases x with
  | Tuple vs k2 p2 =>
   have hs:((ts.any fun t=>!mE t) || vs.all (foldedForSure 8))=true:=h
   rw[IU] at hs
   unfold swappedStores
   dsimp only
   split
   ·rfl
   ·split
    ·rfl
    rcases hs with hs|hs
    rotate_left
    ·split
     ·rfl
     ·first|rfl|rw[GA hs]
    ·have hlt:=kf ts (fun x=>match x with
      | .Name id pos=>if (env.kindOf id == some .local && pos.line == (Option.map (fun x=>x.pos.line) ts.head?).getD 0)=true then some id else none
      | _=>none) hs (fun t ht=>by cases t <;> first|rfl|cases ht)
     rw[GA]
     rw[IU]
     left
     rw[bne_iff_ne]
     exact GS hlt
  | _=>rfl
 | Subscript a b p=>cases x <;> rfl
 | _=>cases h
noncomputable def tm:Expr→Bool
 | .Starred ..=>true
 | _=>false
theorem nM {u:Expr}(h:ag u=true):tm u=false:=by
 cases u <;> first|rfl|cases h
theorem ub {u v:Expr}(h1:ag u=true)(h2:ag v=true):([u,v].any fun | .Starred ..=>true|_=>false)=false:=by
 show (tm u || (tm v || false))=false
 rw[nM h1,nM h2]
 rfl
theorem z_ {env:Env}{x y:Str}{px py pt:Pos}{kt k2:Nat}{pt2:Pos}{u v:Expr}(hb:env.blockKind=.function)(hx:env.kindOf x=some .local)(hy:env.kindOf y=some .local)(hxy:x≠y)(hl:px.line=py.line)
  (h1:ag u=true) (h2:ag v=true) (h3:(foldedForSure 8 u && foldedForSure 8 v)=false) (h4:(constantsAlone 8 u && constantsAlone 8 v)=false) :
  swappedStores [.Tuple [.Name x px,.Name y py] kt pt] (.Tuple [u,v] k2 pt2) env=pure (some [x,y]):=by
 unfold swappedStores
 dsimp only
 have e0:(Option.map (fun x=>x.pos.line) [Expr.Name x px,Expr.Name y py].head?).getD 0=px.line:=rfl
 have e1:([u,v].any fun | .Starred ..=>true|_=>false)=false:=ub h1 h2
 have e2:[u,v].all (foldedForSure 8)=false:=by simpa using h3
 have e3:[u,v].all (constantsAlone 8)=false:=by simpa using h4
 have e4:[x,y].eraseDups.length=2:=by
  have:(y == x)=false:=by simpa using fun z=>hxy z.symm
  simp[List.eraseDups_cons,this]
 rw[F_ (by simp[hb]),F_ ?h1]
 case h1=>exact fun z=>FX (e1.symm.trans z)
 have e5:(List.filterMap (fun t=>match t with
   | .Name id pos=>if (env.kindOf id == some .local && pos.line == (Option.map (fun x=>x.pos.line) [Expr.Name x px,Expr.Name y py].head?).getD 0)=true then some id else none
   | _=>none) [Expr.Name x px,Expr.Name y py])=[x,y]:=by
  rw[e0]
  simp[List.filterMap_cons,hx,hy,hl]
 generalize hn:List.filterMap _ [Expr.Name x px,Expr.Name y py]=ns
 have hns:ns=[x,y]:=hn.symm.trans e5
 subst hns
 rw[F_,F_,F_]
 ·rw[e3];decide
 ·rw[e2];decide
 ·rw[e4]
  simp
section
variable {X:Cx}{c:Cfg}{Γ:Nat→FSp}
theorem Ae {X:Cx}{c:Cfg}{Γ:Nat→FSp}(C:COk X c Γ){t:Tg}{e:E}{tg x:Expr}{pos:Pos}(h2:gP c t tg=true)(h3:ao c e x=true)(h:DE c t e tg x=true):PS X (.Assign [tg] x pos) (TSx X.K (wpS Γ (.set t e))):=by
 have hE:=aH e C _ h3
 unfold DE at h
 rw[GD,GD] at h
 obtain⟨⟨ht,he⟩,h⟩:=h
 replace h:=ak h
 obtain⟨y,py,rfl,h⟩:=h
 replace h:=iB h
 obtain⟨ex,gens,sc,cpos,rfl,h⟩:=h
 obtain⟨i,rfl⟩:=uV ht
 obtain⟨elt,tg,it,ifs,nt,caps,rfl⟩:=AA he
 ·have h2:(c.N[i]? == some y && c.loc y)=true:=h2
  simp only[Bool.and_eq_true,beq_iff_eq] at h2
  obtain⟨g1,g2⟩:=C.locx h2.2
  rintro pins s σ H D I ⟨m,ρ,st,rf,rh,w⟩
  simp only[Bool.or_eq_true,Bool.and_eq_true,beq_iff_eq,Bool.not_eq_true'] at h
  rcases h with h|⟨⟨hl,hp⟩,hn⟩
  ·have hk:=C.cel y (.inl h)
   have hs:swapsWith (.ListComp ex gens sc cpos) (some (.Name y py)) pos.line X.env=pure false:=by
    unfold swapsWith
    have:(X.env.kindOf y == some NameKind.local)=false:=by rcases hk with hk|hk <;> rw[hk] <;> rfl
    simp only[this,Bool.and_false,Bool.false_and]
   rw[qT] at w
   refine yC C.ndX (by rw[C.N];exact h2.1) g1 hE hs g2 pins s σ H D I ⟨m,ρ,st,rf,rh,aa C.mono _ (fun v st1 k m1 H1 x1 e1 r1 r2=>?_) w⟩
   try simp only[fo,jd,jw] at k
   exact k m1 H1 _ e1 r1 ((rf.mono e1).set i r2)
  ·have hll:=C.lcl _ hl
   have hs:swapsWith (.ListComp ex gens sc cpos) (some (.Name y py)) pos.line X.env=pure true:=by
    unfold swapsWith
    have q1:(X.env.kindOf y == some NameKind.local)=true:=by unfold Env.kindOf;rw[hll];rfl
    have q2:(X.env.blockKind == ScopeKind.function)=true:=by rw[C.bk];rfl
    have q3:(py.line == cpos.line)=true:=by rw[hp];simp
    unfold sB at hn
    show pure (_ && _ && _ && !_)=_
    rw[q1,q2]
    show pure (true && true && (py.line == cpos.line) && !_)=_
    rw[q3,hn]
    rfl
   replace h3:=iB h3
   obtain⟨ex',gs',sc',pos',heq,h3⟩:=h3
   cases heq
   replace h3:=cK h3
   obtain⟨g,rfl,h3⟩:=h3
   obtain⟨tx,ix,fx,ia⟩:=g
   ·simp only[Bool.and_eq_true,beq_iff_eq] at h3
    obtain⟨⟨⟨⟨⟨⟨⟨⟨h1,h0⟩,k2'⟩,h3⟩,h4⟩,h5⟩,h6⟩,h7⟩,h8⟩:=h3
    subst h1
    obtain⟨S,k1,k2,k3,k4⟩:=lW C h4
    have hC:∀s2 H2 fp A,COk (cxC X (nt++caps.filterMap (X.N[·]?)) s2 H2 fp sc A) (c.inner nt caps sc) Γ:=fun s2 H2 fp A=>xC C h4
    skip
    rw[exec_Assign_Name_used _ _ _ _ hs]
    refine F4 (wpAny_standAt ?_)
    refine F4 ?_
    unfold evalThenUse
    refine F4 ?_
    refine on (elt:=elt) (tg:=tg) (ifs:=ifs) (nt:=nt) (caps:=caps) (use:=some (assign (.Name y py) X.env)) (Fin:=fun A H'=>D.nx (σ.set i (some (.ref A))) H') (wi:=TIx X.K (ju Γ it)) C.mono C.calm S rfl k1 k2 k3 k2' h3 (yn it C _ h0 h5) (fun s2 H2 fp A=>lK tg (hC s2 H2 fp A) _ h6) (fun s2 H2 fp A=>sx ifs (hC s2 H2 fp A) _ h7) (fun s2 H2 fp A=>aH elt (hC s2 H2 fp A) _ h8) I ?_ ?_
    ·refine⟨m,ρ,st,rf,rh,eU C.mono it (fun xs chk st1 z m1 H1 J e1 r1 W=>⟨m1,ρ,st1,xs,chk,rf.mono e1,r1,W,z.1,?_⟩) w⟩
     refine fA (body:=dZ Γ elt tg ifs (nt.map (fun _=>none)++caps.map fun i=>(ρ[i]?).join)) (fun _ _ _ _ hk q=>lZ C.mono hk q) (fun vs st2 k m2 H2 A ys e2 r2 Dm hD0 hD ry=>?_) z.2
     have hD1:H A=none:=by
      cases q:H A with
      | none=>rfl
      | some o =>
       by_cases hm:A∈m
       ·exact absurd ((e1.trans e2).pre.subset hm) Dm
       ·exact absurd hD0 (e1.ne hm q)
     try simp only[fo,jd,jw] at k
     exact k _ _ _ ((e1.trans e2).addD hD1) (r2.addD Dm hD ry) ((rf.mono ((e1.trans e2).addD hD1)).set i (R.last r2.len))
    ·intro C' A H' s' m' I' ns fp F
     refine wpAny_assign_Name (oh I' C.ndX (by rw[C.N];exact h2.1) g1 (v:=.ref A) rfl (fun s2 I2 hh=>?_) g2)
     obtain⟨a,hs2,ha⟩:=hh
     have hne:C'≠a:=by
      rcases ha with rfl|ha
      ·exact fp.2.1
      ·exact fun q=>fp.2.2.2.2.1 _ _ ha q.symm
     refine⟨m',?_,fun h' hs'=>?_⟩
     ·obtain⟨o,es,ep,q1,q2⟩:=ns
      exact⟨o,es,ep,(hs2.2 C' hne).trans q1,q2⟩
     ·refine GL (GL ?_)
      exact⟨_,H',I2.turned (t':=s2.toks) (fun b o hb e=>hs'.extBut b o hb e) fp.1 fp.2.1 fp.2.2.2.1 fp.2.2.2.2.1 fp.2.2.2.2.2,F⟩
theorem yY {X:Cx}{c:Cfg}{Γ:Nat→FSp}(C:COk X c Γ){t:Tg}{e:E}{tg x:Expr}{pos:Pos}(h2:gP c t tg=true)(h3:ao c e x=true)(h:wP c t e tg x=true):PS X (.Assign [tg] x pos) (TSx X.K (wpS Γ (.set t e))):=by
 unfold wP at h
 rw[GD,GD] at h
 obtain⟨⟨ht,he⟩,h⟩:=h
 replace h:=ak h
 obtain⟨y,py,rfl,h⟩:=h
 replace h:=zP h
 obtain⟨ek,ev,gens,sc,cpos,rfl,h⟩:=h
 obtain⟨i,rfl⟩:=uV ht
 obtain⟨kx,vx,tg,wk,d,ifs,nt,caps,rfl⟩:=Am he
 have h2:(c.N[i]? == some y && c.loc y)=true:=h2
 simp only[Bool.and_eq_true,beq_iff_eq] at h2
 obtain⟨g1,g2⟩:=C.locx h2.2
 rintro pins s σ H D I ⟨m,ρ,st,rf,rh,w⟩
 rw[qT] at w
 exact False.elim w
mutual
theorem Fs (C:COk X c Γ):∀(e:S) (x:Stmt),EJ c e x=true→PS X x (TSx X.K (wpS Γ e))
 | .set t e,x,h=>by
  replace h:=oo h
  obtain⟨tg,x,pos,rfl,h⟩:=h
  ·simp only[Bool.and_eq_true,Bool.or_eq_true] at h
   obtain⟨⟨h2,h3⟩,h14⟩:=h
   rcases h14 with⟨h1,h4⟩|h14|h14|h14
   rotate_left
   ·exact Ae C h2 h3 h14
   rotate_left
   ·exact yY C h2 h3 h14
   rotate_right
   ·have hE:=aH e C _ h3
    have hG:=lK t C _ h2
    rintro pins s σ H D I ⟨m,ρ,st,rf,rh,w⟩
    skip
    have rd:AD (TEx X.K (wpE Γ e)) (TGx X.K (bX Γ t)) D σ H:=⟨m,ρ,st,rf,rh,aa C.mono e (fun v st1 k m1 H1 x1 e1 r1 r2=>⟨m1,ρ,st1,v,rf.mono e1,r1,r2,aC C.mono t (fun _ _ q=>q.ext e1) k⟩) w⟩
    obtain⟨ts,k,p,rfl,h14⟩:=aY h14
    rcases Bool.or_eq_true_iff.mp h14 with h14|h14
    ·obtain⟨a,b,d,f,rfl,_⟩:=iB h14
     exact l_ hE hG rfl rfl rfl pins s σ H D I rd
    ·obtain⟨us,k2,p2,rfl,h14⟩:=aY h14
     refine l_ hE hG rfl (xV (P:=D0 c) h14 fun t ht=>?_) rfl pins s σ H D I rd
     obtain⟨y,q,rfl,hy⟩:=ak (show ar t _=true from ht)
     refine⟨y,q,rfl,?_⟩
     rcases C.cel y (.inl (by simpa using hy)) with hk|hk <;> rw[hk] <;> rfl
   ·have hE:=aH e C _ h3
    have hG:=lK t C _ h2
    rintro pins s σ H D I ⟨m,ρ,st,rf,rh,w⟩
    skip
    have rd:AD (TEx X.K (wpE Γ e)) (TGx X.K (bX Γ t)) D σ H:=⟨m,ρ,st,rf,rh,aa C.mono e (fun v st1 k m1 H1 x1 e1 r1 r2=>⟨m1,ρ,st1,v,rf.mono e1,r1,r2,aC C.mono t (fun _ _ q=>q.ext e1) k⟩) w⟩
    cases t with
    | name i =>
     obtain⟨y,p,rfl,h2⟩:=ak h2
     have h2:=Bool.and_eq_true_iff.mp h2
     obtain⟨g1,g2⟩:=C.locx h2.2
     refine yC C.ndX (by rw[C.N];exact beq_iff_eq.mp h2.1) g1 hE (fR h1) g2 pins s σ H D I ⟨m,ρ,st,rf,rh,aa C.mono e (fun v st1 k m1 H1 x1 e1 r1 r2=>?_) w⟩
     try simp only[fo,jd,jw] at k
     exact k m1 H1 _ e1 r1 ((rf.mono e1).set i r2)
    | tup ts =>
     obtain⟨xs,k,p,rfl,_⟩:=aY h2
     exact l_ hE hG (fU h1) (jK (by rcases h4 with h4|h4;cases h4;exact h4)) rfl pins s σ H D I rd
    | ltup ts =>
     obtain⟨xs,k,p,rfl,_⟩:=aY h2
     exact l_ hE hG (fU h1) (jK (by rcases h4 with h4|h4;cases h4;exact h4)) rfl pins s σ H D I rd
    | sub o i =>
     obtain⟨l,r,p,rfl,_⟩:=eZ h2
     exact l_ hE hG (fU h1) (jK (by rcases h4 with h4|h4;cases h4;exact h4)) rfl pins s σ H D I rd
 | .par i j a b,x,h=>by
  replace h:=oo h
  obtain⟨tg,vx,pos,rfl,h⟩:=h
  replace h:=aY h
  obtain⟨ts,k,p1,rfl,h⟩:=h
  replace h:=iO h
  obtain⟨ta,tb,rfl,h⟩:=h
  replace h:=ak h
  obtain⟨x,px,rfl,h⟩:=h
  replace h:=ak h
  obtain⟨y,py,rfl,h⟩:=h
  replace h:=aY h
  obtain⟨us,k2,p2,rfl,h⟩:=h
  replace h:=iO h
  obtain⟨u,v,rfl,h⟩:=h
  ·simp only[Bool.and_eq_true,beq_iff_eq,Bool.not_eq_true',beq_eq_false_iff_ne] at h
   obtain⟨⟨⟨⟨⟨⟨⟨⟨⟨⟨⟨⟨h1,h2⟩,h3⟩,h4⟩,h5⟩,h6⟩,h7⟩,h8⟩,h9⟩,h10⟩,h11⟩,h12⟩,h13⟩:=h
   have hx:=C.lcl _ h5
   have hy:=C.lcl _ h6
   rintro pins s σ H D I ⟨m,ρ,st,rf,rh,w⟩
   skip
   refine CG C.calm C.ndX (by rw[C.N];exact h1) (by rw[C.N];exact h2) h3 hx hy (pac (aH a C _ h12) (pac (aH b C _ h13) jz h9) h8)
    (z_ C.bk hx hy h4 h7 h8 h9 h10 h11) rfl pins s σ H D I ⟨m,ρ,st,rf,rh,aa C.mono a (fun v st1 k m1 H1 x1 e1 r1 r2=>⟨m1,ρ,st1,rf.mono e1,r1,
    aa C.mono b (fun u st2 k2 m2 H2 y2 e2 r3 r4=>⟨x1,y2,rfl,?_⟩) k⟩) w⟩
   exact k2 m2 H2 _ (e1.trans e2) r3 ((((rf.mono e1).mono e2).set i (r2.mono e2)).set j r4)
 | .aug i op e,x,h=>by rintro pins s σ H D I ⟨m,ρ,st,rf,rh,w⟩;exact False.elim w
 | .expr e,x,h=>by
  replace h:=xF h
  obtain⟨x,p,rfl,h⟩:=h
  ·simp only[Bool.and_eq_true] at h
   rintro pins s σ H D I ⟨m,ρ,st,rf,rh,w⟩
   skip
   exact AI (aH e C _ h.2) (fR h.1) pins s σ H D I ⟨m,ρ,st,rf,rh,aa C.mono e (fun u st1 k m1 H1 x1 e1 r1 r2=>k m1 H1 σ e1 r1 (rf.mono e1)) w⟩
 | .ret e,x,h=>by
  replace h:=ol h
  obtain⟨o,p,rfl,h⟩:=h
  replace h:=fm h
  obtain⟨x,rfl,h⟩:=h
  ·rintro pins s σ H D I ⟨m,ρ,st,rf,rh,w⟩
   skip
   exact Cb (aH e C _ h) pins s σ H D I ⟨m,ρ,st,rf,rh,w⟩
 | .retN,x,h=>by
  replace h:=ol h
  obtain⟨o,p,rfl,h⟩:=h
  replace h:=wj h
  obtain rfl:=h
  ·rintro pins s σ H D I ⟨m,ρ,st,rf,rh,w⟩
   skip
   exact AU pins s σ H D I (post.here w rh (R_non.mpr rfl))
 | .ifS t a b,x,h=>by
  replace h:=yt h
  obtain⟨x,ys,zs,p,rfl,h⟩:=h
  ·simp only[Bool.and_eq_true] at h
   obtain⟨⟨h1,h2⟩,h3⟩:=h
   rintro pins s σ H D I ⟨m,ρ,st,rf,rh,w⟩
   skip
   refine Ed (mR t C _ h1) (j' C a _ h2) (j' C b _ h3) pins s σ H D I ⟨m,ρ,st,rf,rh,aD C.mono t (fun k st1 z m1 H1 e1 r1=>?_) w⟩
   cases k with
   | true=>rw[GA rfl] at z ⊢;exact⟨m1,ρ,st1,rf.mono e1,r1,aB C.mono a (AE.ext e1) z⟩
   | false=>rw[F_ FX] at z ⊢;exact⟨m1,ρ,st1,rf.mono e1,r1,aB C.mono b (AE.ext e1) z⟩
 | .whileS t b,x,h=>by
  replace h:=qg h
  obtain⟨x,ys,p,rfl,h⟩:=h
  ·simp only[Bool.and_eq_true] at h
   intro pins s σ H D I w
   exact y6 C.pass (mR t C _ h.1) (j' C b _ h.2) pins s σ H D I (vE C.mono w)
 | .forS t it b,x,h=>by
  replace h:=nQ h
  obtain⟨tg,x,ys,p,rfl,h⟩:=h
  ·simp only[Bool.and_eq_true] at h
   obtain⟨⟨⟨⟨h0,h1⟩,h2⟩,h3⟩,h4⟩:=h
   intro pins s σ H D I w
   exact w5 C.pass C.calm (yn it C _ h0 h3) (lK t C _ h2) (j' C b _ h4) (lQ h1) pins s σ H D I (A4 C.mono w)
 | .forK t wk e b,x,h=>by
  replace h:=nQ h
  obtain⟨tg,x,ys,p,rfl,h⟩:=h
  simp only[Bool.and_eq_true] at h
  obtain⟨⟨⟨⟨h0,h1⟩,h2⟩,h3⟩,h4⟩:=h
  intro pins s σ H D I w
  exact thn (w5 C.pass C.calm (Fe C h0 h3 fun y hy=>aH e C y hy) (lK t C _ h2) (j' C b _ h4) (lQ h1) pins s σ H (EF X D) I (y_ C.mono w)) fun f s' hh=>Av hh
 | .bad,x,h=>by
  rintro pins s σ H D I ⟨m,ρ,st,rf,rh,w⟩
  exact False.elim w
 | .set2 i j e,x,h=>by
  replace h:=mf h
  obtain⟨ts,v,pos,rfl,h⟩:=h
  replace h:=iO h
  obtain⟨ta,tb,rfl,h⟩:=h
  replace h:=ak h
  obtain⟨x,px,rfl,h⟩:=h
  replace h:=ak h
  obtain⟨y,py,rfl,h⟩:=h
  ·simp only[Bool.and_eq_true,beq_iff_eq,Bool.not_eq_true',beq_eq_false_iff_ne] at h
   obtain⟨⟨⟨⟨⟨⟨h1,h2⟩,h3⟩,h4⟩,h5⟩,h6⟩,h7⟩:=h
   obtain⟨a1,a2⟩:=C.locx h4
   obtain⟨b1,b2⟩:=C.locx h5
   rintro pins s σ H D I ⟨m,ρ,st,rf,rh,w⟩
   skip
   refine wpAny_Assign_two (thn (aH e C _ h7 pins s σ H (fun y H1=>D.nx ((σ.set i (some y)).set j (some y)) H1) I ⟨m,ρ,st,rf,rh,aa C.mono e (fun v st1 k m1 H1 x1 e1 r1 r2=>k m1 H1 _ e1 r1 (((rf.mono e1).set i r2).set j r2)) w⟩) fun v s1 ⟨y,H1,I1,r1,q1⟩=>?_) rfl rfl
   refine PySem.wpAny_assign_Name ?_
   refine eW I1 C.ndX (by rw[C.N];exact h1) a1 r1 (fun s2 I2=>?_) a2
   refine PySem.wpAny_assign_Name ?_
   exact eW I2 C.ndX (by rw[C.N];exact h2) b1 r1 (fun s3 I3=>⟨_,H1,I3,q1⟩) b2
 | .pass,x,h=>by
  replace h:=tL h
  obtain⟨p,rfl⟩:=h
  ·rintro pins s σ H D I ⟨m,ρ,st,rf,rh,w⟩
   skip
   exact AT pins s σ H D I (postF.here w rh rf)
 | .brk,x,h=>by
  replace h:=v9 h
  obtain⟨p,rfl⟩:=h
  ·rintro pins s σ H D I ⟨m,ρ,st,rf,rh,w⟩
   skip
   exact xI pins s σ H D I (postF.here w rh rf)
 | .cont,x,h=>by
  replace h:=sA h
  obtain⟨p,rfl⟩:=h
  ·rintro pins s σ H D I ⟨m,ρ,st,rf,rh,w⟩
   skip
   exact qZ pins s σ H D I (postF.here w rh rf)
theorem j' (C:COk X c Γ):∀(e:Ss) (x:List Stmt),aw c e x=true→PSs X x (TSx X.K (aq Γ e))
 | .nil,x,h=>by
  have h:x.isEmpty=true:=h
  cases x with
  | nil =>
   rintro pins s σ H D I ⟨m,ρ,st,rf,rh,w⟩
   skip
   exact A7 pins s σ H D I (postF.here w rh rf)
  | cons _ _=>cases h
 | .cons e es,x,h=>by
  replace h:=aA h
  obtain⟨y,ys,rfl,h⟩:=h
  ·simp only[Bool.and_eq_true] at h
   rintro pins s σ H D I ⟨m,ρ,st,rf,rh,w⟩
   skip
   refine xK (Fs C e _ h.1) (j' C es _ h.2) pins s σ H D I ⟨m,ρ,st,rf,rh,ip C.mono e ?_ w⟩
   exact⟨fun ρ1 st1 k m1 H1 σ1 e1 r1 f1=>⟨m1,ρ1,st1,f1,r1,aB C.mono es (AE.ext e1) k⟩,fun _ _ q=>q,fun _ _ q=>q,fun _ _ q=>q⟩
end
structure GOk (P:Program)(w:World)(K:W.Frag)(mg:Str→Option Value)(base:Heap)(c:Cfg)(Γ:Nat→FSp):Prop where
 fn:∀f x,f<c.lim→c.fns[f]?=some x→∃ps,Has P w K mg base (f+1) x ps (dH K (Γ f))
 blt:∀x∈c.blts,mg x=none
 gl:∀x v,c.gl.lookup x=some v→∃u y,mg x=some u∧RelV y u∧∀m H,R K m H v y
 mono:aW Γ
noncomputable def frame (n:Nat)(as:List PV):Fr:=as.map some++List.replicate (n-as.length) none
noncomputable def af (st:AH)(Q:EK):aG:={ nx:=fun _ st'=>Ret st Q .non st',rt:=Ret st Q }
theorem ir {K:W.Frag}{m:List Addr}{H:Hp}{st st':AH}{Q:VK}{v:PV}(rh:RH K m H st)(q:Ret st (post K m H Q) v st'):post K m H Q v st':=by
 rcases q with q|q
 ·exact q
 ·intro m' H' x e r s
  obtain⟨st1,q,e2,r3,r4⟩:=qe rh e r s q
  exact q m H' x e2 r3 r4
theorem rE {K:W.Frag}{m:List Addr}{H:Hp}{N:List Str}{as:List PV}{vs:List V}(r:Rs K m H as vs):RF K m H (frame N.length as) (L2.start N vs):=by
 have hl:=r.len
 refine⟨by simp[frame,L2.start,hl],fun i v e=>?_⟩
 unfold frame at e
 unfold L2.start
 by_cases hi:i<as.length
 ·rw[GG (by simpa using hi),F9] at e
  cases q:as[i]? with
  | none=>rw[q] at e;cases e
  | some a =>
   rw[q] at e
   cases e
   obtain⟨y,e1,r1⟩:=r.get q
   exact⟨y,by rw[GG (by simp;omega),F9,e1];rfl,r1⟩
 ·rw[GJ (by simpa using hi),List.getElem?_replicate] at e
  split at e <;> cases e
theorem wN {P:Program}{w:World}{K:W.Frag}{mg:Str→Option Value}{base:Heap}{x:Str}{st:Stmt}{N ps:List Str}(S:ah N ps (ab st)){f:Addr}{cdv:Value}{A:Around}{outer:List Env}{s:Shared}{H:Hp}{E:XK}
  (hN:c.N=N) (hn:c.names=(ab st).names) (hr:Room c.lim (A.deeper (envOfC x (ab st) s.heap.objs.size f cdv))) (G:GOk P w K mg base c Γ)
  (lam:c.pc=true→∀ {pins:List (Addr × Obj)}{σ:L2.St}{H2:Hp}{s2:Shared}{b:Addr}{u:Value}{v:V}{Q:VK},L2.Inv (jf CX0 P w K mg base N x (ab st) f cdv A outer s H E).nox pins σ H2 s2→RelV v u→dH K (Γ 1000) [.ref b,v] H2 Q E0 →
   W.FnAt b s2.heap∧wpAny (model P w) (jf CX0 P w K mg base N x (ab st) f cdv A outer s H E).nox.A (call (.ref b) [u]) (EP (jf CX0 P w K mg base N x (ab st) f cdv A outer s H E).nox pins σ Q) (jf CX0 P w K mg base N x (ab st) f cdv A outer s H E).nox.xe s2)
  (hmo:∀k,c.hm=some k→HmX (jf CX0 P w K mg base N x (ab st) f cdv A outer s H E).nox k) :
  COk (jf CX0 P w K mg base N x (ab st) f cdv A outer s H E).nox c Γ where
 calm:=rfl
 pass:=PassesOwn.never
 N:=hN.symm
 nd:=by rw[hN];exact S.nd
 vis:=fun y h=>by rw[hn] at h;exact h
 loc:=fun y h=>by rw[hn] at h;exact⟨h,.inl rfl⟩
 lcl:=fun y h=>by rw[hn] at h;exact h
 glb:=fun y h=>by rw[hn] at h;exact h
 bk:=by
  show Env.blockKind (envOfC x (ab st) s.heap.objs.size f cdv)=_
  unfold Env.blockKind
  show (if (ab st).kind.isAnnotationScope=true then _ else (ab st).kind)=_
  rw[S.kind]
  rfl
 cel:=fun y h=>by rw[hn] at h;exact h
 room:=hr
 fn:=G.fn
 blt:=G.blt
 gl:=G.gl
 mono:=G.mono
 lam:=lam
 hmo:=hmo
theorem C8 {P:Program}{w:World}{K:W.Frag}{mg:Str→Option Value}{base:Heap}{x:Str}{st:Stmt}{N ps:List Str}{sp:FSp}{code:Ss}(F:At K mg x st ps)(S:ah N ps (ab st))(hN:c.N=N)(hn:c.names=(ab st).names)
  (hc:aw c code (ae st)=true) (G:GOk P w K mg base c Γ) (len:∀as st Q,sp as st Q→as.length=ps.length)
  (h:∀as st Q,sp as st Q→aq Γ code (frame N.length as) st (af st Q)) (hpc:c.pc=false:=by rfl) (hhm:c.hm=none:=by rfl):Has P w K mg base (c.lim+1) x ps (dH K sp):=by
 refine F.ok S (fun vs H Q E ⟨m,st,as,r1,r2,q⟩=>by rw[←r1.len];exact len as st _ q) fun f cdv A outer s H vs Q E hr ⟨m,st',as,r1,r2,q⟩=>?_
 have C:=wN (E:=E) (H:=H) (outer:=outer) (Γ:=Γ) S hN hn hr G (fun z=>by rw[hpc] at z;cases z) fun k z=>by rw[hhm] at z;cases z
 refine⟨_,j' C code _ hc,m,frame N.length as,st',rE r1,r2,aB G.mono code ?_ (h as st' _ q)⟩
 exact⟨fun ρ st2 k m' H' σ' e r f=>ir r2 k m' H' .non e r (R_non.mpr rfl),fun v st2 k=>ir r2 k,fun _ _ k=>k.elim,fun _ _ k=>k.elim⟩
end
end FW
namespace FW
open L2 HX
section
variable {P:Program}{w:World}{K:W.Frag}{mg:Str→Option Value}{base:Heap}{c c':Cfg}{Γ:Nat→FSp}
theorem GOk.next (G:GOk P w K mg base c Γ)(h1:c'.fns=c.fns)(h2:c'.lim=c.lim+1)(h3:c'.blts=c.blts)(h4:c'.gl=c.gl){x:Str}{ps:List Str}(hx:c.fns[c.lim]?=some x)(H:Has P w K mg base (c.lim+1) x ps (dH K (Γ c.lim))):GOk P w K mg base c' Γ where
 fn:=fun f y hf e=>by
  rw[h1] at e
  rw[h2] at hf
  by_cases hl:f<c.lim
  ·exact G.fn f y hl e
  ·have:f=c.lim:=by omega
   subst this
   rw[hx] at e
   cases e
   exact⟨ps,H⟩
 blt:=by rw[h3];exact G.blt
 gl:=by rw[h4];exact G.gl
 mono:=G.mono
theorem A3 {x qual:Str}{st:Stmt}{f:Addr}{fd:FuncData}{N ps:List Str}{sp:FSp}{code:Ss}(F:Fun K x x st f fd)(S:ah N ps (ab st))(hN:c.N=N)(hn:c.names=(ab st).names)
  (hc:aw c code (ae st)=true) (G:GOk P w K mg base c Γ) (len:∀as st Q,sp as st Q→as.length=ps.length)
  (h:∀as st Q,sp as st Q→aq Γ code (frame N.length as) st (af st Q)) (hpc:c.pc=false:=by rfl) (hhm:c.hm=none:=by rfl):mG P w K mg base CX0 (c.lim+1) f fd ps (dH K sp):=by
 refine F.ok S (fun vs H Q E ⟨m,st,as,r1,r2,q⟩=>by rw[←r1.len];exact len as st _ q) fun cdv A outer s H vs Q E hr ⟨m,st',as,r1,r2,q⟩=>?_
 have C:=wN (E:=E) (H:=H) (outer:=outer) (Γ:=Γ) S hN hn hr G (fun z=>by rw[hpc] at z;cases z) fun k z=>by rw[hhm] at z;cases z
 refine⟨_,j' C code _ hc,m,frame N.length as,st',rE r1,r2,aB G.mono code ?_ (h as st' _ q)⟩
 exact⟨fun ρ st2 k m' H' σ' e r f=>ir r2 k m' H' .non e r (R_non.mpr rfl),fun v st2 k=>ir r2 k,fun _ _ k=>k.elim,fun _ _ k=>k.elim⟩
end
def gM:FSp:=fun as st Q=>∃ns:List Int,as=[.rdl (ns.map PV.int)]∧ns.length≤63∧∀st',Q (.bl true) st'
theorem uU {K:W.Frag}{m:List Addr}{H:Hp}:∀ {ns:List Int},Rs K m H (ns.map PV.int) (ns.map V.int)
 | []=>by rw[HJ,HJ,Rs_nil]
 | n::ns=>by rw[GC,GC,Rs_cons',R_int];exact⟨rfl,uU⟩
structure CO (K:W.Frag)(h:Heap):Prop where
 at_:∀x∈aS,∀c T,W.tabIn K x=some (c,T)→W.CodeHd h c T∧h.get? T=some (W.tabObj #[])
structure A8 (K:W.Frag):Prop where
 at_:∀x∈aS,∀c T,W.tabIn K x=some (c,T)→K.lookup T=none∧∀y∈aS,∀d,W.tabIn K y=some (d,T)→y=x
structure k8 (K:W.Frag)(mg:Str→Option Value)(base:Heap):Prop where
 hd:∀x∈aS,∀c T,W.tabIn K x=some (c,T)→W.CodeHd base c T
 bm:∃bm ob,mg "__builtins__"=some (.ref bm)∧bm≠builtinsNs∧base.get? bm=some ob∧ob.cls=.type "module"∧ob.dict=some builtinsNs∧ob.data=.plain
theorem xo {K:W.Frag}{H:Hp}{a:Addr}{ns:List Int}(hl:ns.length≤63)(hO:∀ys,H a≠some (.lst ys))(hS:SqL K H a (ns.map V.int))(tb:TB K H):dH K gM [.ref a] H (fun v _=>v=.bl true) fun _ _ _=>False:=by
 have hF:RdF K H a (ns.map V.int):=by
  rcases hS with (h|h)|h
  ·exact absurd h (hO _)
  ·exact .inl h
  ·exact .inr h
 refine⟨[],[],[.rdl (ns.map PV.int)],?_,⟨rfl,JP,fun n c a h=>by simp at h,tb⟩,ns,rfl,hl,fun st' m' H' x e r s=>R_bl.mp s⟩
 rw[Rs_cons',Rs_nil,eN]
 exact⟨⟨a,_,rfl,hF,uU⟩,rfl⟩
def nB (K:W.Frag)(b:Addr):Prop:=∃x∈aS,∃c,W.tabIn K x=some (c,b)
open Classical in
noncomputable def dY (K:W.Frag)(a:Addr)(scr:Option HO):Hp:=fun b=>if b=a then scr else if nB K b then some (.tbl #[]) else none
theorem vK {P:Program}{w:World}{K:W.Frag}{mg mb:Str→Option Value}{k:Nat}{fa a:Addr}{fd:FuncData}{x:Str}{s₁:Shared}{vs:List Value}{ns:List Int}
  (KX:K.In s₁.heap) (hns:s₁.heap.Ns mainGlobals mg) (hb:s₁.heap.Ns builtinsNs mb) (hbb:∀x:Str,x≠"__name__"→mb x=bootBuiltins x) (hlim:s₁.heap.NoLimit) (hg:s₁.gens=#[])
  (LT:CO K s₁.heap) (LK:A8 K) (hbm:∃bm ob,mg "__builtins__"=some (.ref bm)∧bm≠builtinsNs∧s₁.heap.get? bm=some ob∧ob.cls=.type "module"∧ob.dict=some builtinsNs∧ob.data=.plain)
  (ha:s₁.heap.get? a=some { cls:=.type "list",data:=.seq vs.toArray }) (hi:IntsAre vs ns) (hl:ns.length≤63) (hr:Room k callerA)
  (F:∀base:Heap,K.In base→base.Ns mainGlobals mg→k8 K mg base→mG P w K mg base CX0 k fa fd [x] (dH K gM)) (hbind:∀(s:Shared) (u:Value),BindsTo s fd ⟨[u],[]⟩ [(x,u)]) :
  codeAny (model P w) callerA (.call (.ref fa) ⟨[.ref a],[]⟩) (fun r s'=>r=.ok (.ret (.bool true))∧OldK s₁.heap s'.heap∧s'.os=s₁.os∧AllBare s'.gens) s₁:=by
 have rv:=ox hi
 have lenV:=hi.length
 have hl2:ns.length≤sizeLine:=GW hl (by decide)
 have tabAt:∀ {b:Addr},nB K b→s₁.heap.get? b=some (W.tabObj #[]):=fun ⟨x,hx,c,e⟩=>(LT.at_ x hx c _ e).2
 have naT:¬nB K a:=fun z=>by have e:=tabAt z;rw[ha] at e;cases e
 have core:∀scr:Option HO,(∀ys,scr≠some (.lst ys))→SqL K (dY K a scr) a (ns.map V.int)→(∀u,scr=some u→(∃o xs,u=.frz o (.lst xs))∧ObjOk P w (dY K a scr) s₁.heap a u)→(scr≠none→K.lookup a=none) →
   codeAny (model P w) callerA (.call (.ref fa) ⟨[.ref a],[]⟩) (fun r s'=>r=.ok (.ret (.bool true))∧OldK s₁.heap s'.heap∧s'.os=s₁.os∧AllBare s'.gens) s₁:=by
  intro scr hscr hS hso hK
  have atA:dY K a scr a=scr:=GA rfl
  have atT:∀ {b:Addr},nB K b→dY K a scr b=some (.tbl #[]):=fun {b} z=>by
   have:b≠a:=fun q=>naT (q ▸ z)
   exact(F_ this).trans (GA z)
  have cs:∀b,dY K a scr b≠none→(b=a∧scr≠none)∨nB K b:=fun b z=>by
   by_cases h1:b=a
   ·exact .inl ⟨h1,by rw[h1,atA] at z;exact z⟩
   ·by_cases h2:nB K b
    ·exact .inr h2
    ·exact absurd ((F_ h1).trans (F_ h2)) z
  have hok:HOk P w (dY K a scr) s₁.heap:=fun b u e=>by
   rcases cs b (by rw[e];simp) with⟨rfl,z⟩|z
   ·rw[atA] at e
    exact(hso u e).2
   ·rw[atT z] at e
    cases e
    exact tabAt z
  have base_of:∀ {b:Addr}{o:Obj},s₁.heap.get? b=some o→dY K a scr b=none→(nq s₁.heap (dY K a scr)).get? b=some o:=fun e n=>zR e n
  have noD:∀ {b:Addr}{o:Obj},s₁.heap.get? b=some o→(∀its n,o.data≠.seq its n)→(∀qs,o.data≠.fields qs)→dY K a scr b=none:=fun {b o} e n1 n2=>by
   cases q:dY K a scr b with
   | none=>rfl
   | some u =>
    rcases cs b (by rw[q];simp) with⟨rfl,_⟩|z
    ·rw[ha] at e;cases e;exact absurd rfl (n1 _ _)
    ·rw[tabAt z] at e;cases e;exact absurd rfl (n2 _)
  have nsK:∀ {b:Addr}{m:Str→Option Value},s₁.heap.Ns b m→(nq s₁.heap (dY K a scr)).Ns b m:=fun {b m} ⟨o,es,ep,e,d,r⟩=>⟨o,es,ep,base_of e (noD e (fun _ _ z=>by rw[d] at z;cases z) fun _ z=>by rw[d] at z;cases z),d,r⟩
  have hKn:∀ {b:Addr}{o:Obj},K.lookup b=some o→dY K a scr b=none:=fun {b o} e=>by
   cases q:dY K a scr b with
   | none=>rfl
   | some u =>
    rcases cs b (by rw[q];simp) with⟨rfl,z⟩|⟨x,hx,c,z⟩
    ·rw[hK z] at e;cases e
    ·rw[(LK.at_ x hx c _ z).1] at e;cases e
  have hKb:K.In (nq s₁.heap (dY K a scr)):=fun b o e=>base_of (KX b o e) (hKn e)
  have hM:Mod K mg (nq s₁.heap (dY K a scr)):=⟨hKb,nsK hns,⟨mb,nsK hb,hbb⟩,let ⟨mc,h1,h2⟩:=hlim;⟨mc,nsK h1,h2⟩⟩
  have e0:vQ P w K mg (nq s₁.heap (dY K a scr)) callerA [] s₁ (dY K a scr):=⟨rfl,hM,fun b o e=>Bl e,Nat.le_of_eq (vL _ _),trivial,fun b hb=>absurd (show b∈([]:List Addr) from hb) (by simp),hok,.of_eq hg⟩
  have hB:k8 K mg (nq s₁.heap (dY K a scr)):=by
   refine⟨fun x hx c T e=>?_,?_⟩
   ·obtain⟨o,vs',file,tf,flags,tg,inF,text,tt,q,r⟩:=(LT.at_ x hx c T e).1
    have kc:∃oc,K.lookup c=some oc:=by
     have e':=e
     unfold W.tabIn at e'
     split at e'
     ·split at e'
      ·split at e'
       ·split at e'
        ·rename_i hh
         split at e'
         ·cases e';exact⟨_,hh⟩
         ·cases e'
        ·cases e'
       ·cases e'
      ·cases e'
     ·cases e'
    obtain⟨oc,kc⟩:=kc
    exact⟨o,vs',file,tf,flags,tg,inF,text,tt,base_of q (hKn kc),r⟩
   ·obtain⟨bm,ob,b1,b2,b3,b4,b5,b6⟩:=hbm
    exact⟨bm,ob,b1,b2,base_of b3 (noD b3 (fun _ _ z=>by rw[b6] at z;cases z) fun _ z=>by rw[b6] at z;cases z),b4,b5,b6⟩
  have tb:TB K (dY K a scr):=fun x hx c T e=>⟨(LK.at_ x hx c T e).2,#[],atT ⟨x,hx,c,e⟩,trivial,fun pos cv q=>by cases q⟩
  refine codeAny_mono ((F _ hKb (nsK hns) hB).run callerA [] s₁ (dY K a scr) ⟨[.ref a],[]⟩ [.ref a] [.ref a] _ _ hr e0 (hbind s₁ (.ref a)) (.cons rfl .nil) (xo hl (by rw[atA];exact hscr) hS tb)) fun r s' h=>?_
  cases r with
  | error e=>exact False.elim h
  | ok fl =>
   cases fl with
   | next=>exact False.elim h
   | brk=>exact False.elim h
   | cont=>exact False.elim h
   | ret u =>
    obtain⟨v,H',os,bare,un,hok',r',q⟩:=h
    have q':v=.bl true:=q
    subst q'
    obtain rfl:u=Value.bool true:=r'
    refine⟨rfl,⟨fun b o e=>?_,fun b o e=>un.there b o e (by simp)⟩,os,bare⟩
    cases q:dY K a scr b with
    | none=>exact .inl (un.keep b o e q (by intro z;exact absurd (show b∈([]:List Addr) from z) (by simp)) (by simp))
    | some u =>
     rcases cs b (by rw[q];simp) with⟨rfl,z⟩|z
     ·rw[atA] at q
      obtain⟨⟨ob,xs,rfl⟩,_⟩:=hso u q
      have z1:dY K b scr b=some (.frz ob (.lst xs)):=by rw[atA];exact q
      have z2:=un.frzs b ob _ z1
      obtain⟨e1,_⟩:=hok b _ z1
      obtain⟨e2,_⟩:=hok' b _ z2
      rw[e] at e1;cases e1
      exact .inl e2
     ·obtain⟨more,z2⟩:=un.tbls b _ (atT z)
      have e1:=tabAt z
      rw[e] at e1
      cases e1
      have e2:s'.heap.get? b=some { cls:=.none,data:=.fields (#[]++more) }:=hok' b _ z2
      obtain⟨x,hx,c,et⟩:=z
      have ht0:=(LT.at_ x hx c b et)
      exact .inr (.inl ⟨(ht0.1.tab ht0.2).isCodeTable,rfl,#[],more,rfl,e2⟩)
 cases hk:K.lookup a with
 | some o =>
  have e:=KX a o hk
  rw[ha] at e
  cases e
  refine core none (fun _ z=>nomatch z) (.inr ⟨_,vs.toArray,_,hk,rfl,rfl,rfl,by rw[GM,lenV];exact hl2,by simpa using rv⟩) (fun u z=>nomatch z) fun z=>absurd rfl z
 | none =>
  refine core (some (.frz { cls:=.type "list",data:=.seq vs.toArray } (.lst (ns.map V.int)))) (fun _ z=>nomatch z) (.inl (.inr ⟨{ cls:=.type "list",data:=.seq vs.toArray },GA rfl⟩)) (fun u z=>?_) fun _=>hk
  cases z
  exact⟨⟨_,_,rfl⟩,ha,by rw[GI];exact hl2,vs,_,rv,ha⟩
theorem walkF {l:W.OpenLaw}{q:Program}{loose:List Str}{XP:(Str→Option Value)→Heap→Prop}{YP:World→Heap→Prop}{d:DefRec}{K:Params→W.Frag}{k:Nat}{x:Str}(hn:l.most=some 63)(hdf:d.params.defaults=[])(hr:Room k callerA)
  (hY:∀(w:World) (h:Heap),YP w h→(K w.params).In h)
  (F:∀(w:World) (mg:Str→Option Value) (fa:Addr) (h:Heap),(K w.params).In h→h.Ns mainGlobals mg→mg d.name=some (.ref fa) →
   ∃fd:FuncData,(∀(s:Shared) (u:Value),BindsTo s fd ⟨[u],[]⟩ [(x,u)])∧A8 (K w.params)∧(∀x∈aS,W.tabIn (K w.params) x=none∨∃d,(recsOf q).find? (fun e=>e.name == x)=some d)∧∀base:Heap,(K w.params).In base→base.Ns mainGlobals mg→k8 (K w.params) mg base→mG l.prog w (K w.params) mg base CX0 k fa fd [x] (dH (K w.params) gM)) :
  W.WalkO q loose XP YP l.row.toRowW d [] (fun f vs=>PySem.call f vs):=by
 refine Att.attach_call hn hdf fun w s₀ s₁ mg mb fa o pm cd doc a vs ns G Y ho hd hcd hmg hobj hints hlen hg=>?_
 have KX:=hY w _ Y
 obtain⟨fd,hb,hK,hq,hF⟩:=F w mg fa _ KX G.T.g hmg
 refine vK KX G.T.g G.T.b G.T.builtins G.T.nolimit hg ⟨fun x hx c T e=>?_⟩ hK G.T.bmain hobj hints hlen hr hF hb
 rcases hq x hx with z|⟨d,r⟩
 ·rw[z] at e;cases e
 ·exact W.tab_of G.T KX r e
theorem Sub.refl (st:AH):Sub st st:=fun i _=>.inl rfl
theorem Sub.set {st st':AH}{n:Nat}{c:Cell}(h:Sub st st')(hc:c.bel 0=true):Sub st (st'.set n c):=fun i hi=>by
 by_cases e:n=i
 ·subst e
  by_cases hl:n<st'.length
  ·exact .inr ⟨c,GB hl,hc⟩
  ·rw[List.set_eq_of_length_le (by omega)]
   exact h n hi
 ·rw[F6 e]
  exact h i hi
theorem Tmp.same {st:AH}{Q:EK}{v:PV}(h:v.bel st.length=true)(q:Q v st):Tmp st Q v st:=⟨st,[],by simp,rfl,Sub.refl st,h,q⟩
theorem Tmp.app {st g:AH}{Q:EK}{v:PV}(h:v.bel st.length=true)(q:Q v st):Tmp st Q v (st++g):=⟨st,g,rfl,rfl,Sub.refl st,h,q⟩
theorem Ret.all {st st':AH}{Q:EK}{v:PV}(q:Q v st'):Ret st Q v st':=.inl q
theorem ar1 {P:List Value→Prop}(h:∀a,P [a])(us:List Value)(hl:us.length=1):P us:=by
 match us,hl with
 | [a],_=>exact h a
theorem ar2 {P:List Value→Prop}(h:∀a b,P [a,b])(us:List Value)(hl:us.length=2):P us:=by
 match us,hl with
 | [a,b],_=>exact h a b
theorem ar3 {P:List Value→Prop}(h:∀a b c,P [a,b,c])(us:List Value)(hl:us.length=3):P us:=by
 match us,hl with
 | [a,b,c],_=>exact h a b c
theorem ar4 {P:List Value→Prop}(h:∀a b c d,P [a,b,c,d])(us:List Value)(hl:us.length=4):P us:=by
 match us,hl with
 | [a,b,c,d],_=>exact h a b c d
theorem ar5 {P:List Value→Prop}(h:∀a b c d e,P [a,b,c,d,e])(us:List Value)(hl:us.length=5):P us:=by
 match us,hl with
 | [a,b,c,d,e],_=>exact h a b c d e
abbrev DI (K:W.Frag)(x:Str)(st:Stmt):Prop:=∃(f:Addr) (oc:Value) (od:Option Addr) (kV dc pm:Value) (an:Option Addr) (cd ct:Value) (sl:Array (Option Value)),W.nsIn K mainGlobals x=some (some (.ref f))∧K.lookup f=some ⟨oc,od,.func (W.fnOf x x (cQ st) (ae st) (ab st) .none kV dc pm an cd ct),sl⟩∧W.codeIn K cd x=true∧W.keepIn K (.ref f)=true
theorem DI_mk {K:W.Frag}{x:Str}{st:Stmt}{f:Addr}{oc:Value}{od:Option Addr}{kV dc pm:Value}{an:Option Addr}{cd ct:Value}{sl:Array (Option Value)}(a:W.nsIn K mainGlobals x=some (some (.ref f)))(l:K.lookup f=some ⟨oc,od,.func (W.fnOf x x (cQ st) (ae st) (ab st) .none kV dc pm an cd ct),sl⟩)(c:W.codeIn K cd x=true)(k:W.keepIn K (.ref f)=true):DI K x st:=⟨f,oc,od,kV,dc,pm,an,cd,ct,sl,a,l,c,k⟩
theorem GOk.nx {P:Program}{w:World}{K:W.Frag}{mg:Str→Option Value}{base h:Heap}{Γ:Nat→FSp}{c c':Cfg}{x:Str}{st:Stmt}{N ps:List Str}{code:Ss}{sp:FSp}(G:GOk P w K mg base c Γ)(X:K.In h)(Gn:h.Ns mainGlobals mg)(d:DI K x st)(S:ah N ps (ab st))(hc:aw c code (ae st)=true)
  (len:∀ {as st Q},sp as st Q→as.length=ps.length) (hw:∀ {as st Q},sp as st Q→aq Γ code (frame N.length as) st (af st Q))
  (hb:∀(kV doc pm:Value) (an:Option Addr) (cdv ct:Value) (us:List Value),us.length=ps.length→bindArgs (W.fnOf x x (cQ st) (ae st) (ab st) .none kV doc pm an cdv ct) ⟨us,[]⟩=pure (ps.zip us))
  (hN:c.N=N:=by rfl) (hn:c.names=(ab st).names:=by rfl) (hpc:c.pc=false:=by rfl) (hhm:c.hm=none:=by rfl) (h1:c'.fns=c.fns:=by rfl) (h2:c'.lim=c.lim+1:=by rfl) (h3:c'.blts=c.blts:=by rfl) (h4:c'.gl=c.gl:=by rfl) (hx:c.fns[c.lim]?=some x:=by rfl) (hs:Γ c.lim=sp:=by rfl):GOk P w K mg base c' Γ:=by
 obtain⟨f,oc,od,kV,dc,pm,an,cd,ct,sl,a,l,cc,k⟩:=d
 subst hs
 exact G.next h1 h2 h3 h4 hx (C8 (At.mk' X Gn hb a l cc k) S hN hn hc G (fun _ _ _=>len) (fun _ _ _=>hw) hpc hhm)
end FW
namespace FW
open L2 HX
section
variable {P:Program}{w:World}{K:W.Frag}{mg:Str→Option Value}{base:Heap}{c:Cfg}{Γ:Nat→FSp}
theorem tZ {x:Str}(z:W.nsIn K mainGlobals x=some none):W.tabIn K x=none:=by
 unfold W.tabIn
 rw[z]
theorem Ai (h:∀x∈aS,W.tabIn K x=none∨∃c T,W.tabIn K x=some (c,T)∧K.lookup T=none∧∀y∈aS,y≠x→∀d,W.tabIn K y≠some (d,T)):A8 K:=⟨fun x hx c T e=>by
 rcases h x hx with z|⟨c',T',z,n,u⟩
 ·rw[z] at e;cases e
 ·rw[z] at e
  cases e
  exact⟨n,fun y hy d ed=>GH fun q=>u y hy q d ed⟩⟩
end
end FW
namespace FW
open L2 HX
section
variable {Γ:Nat→FSp}{ρ:Fr}{st:AH}{Q:EK}{D:aG}{a b c:E}{es:Es}
noncomputable def aft (Γ:Nat→FSp)(ss:Ss)(D:aG):aG:={ D with nx:=fun ρ' st'=>aq Γ ss ρ' st' D }
noncomputable def LD (I:Fr→AH→Prop)(D:aG):aG:={ nx:=I,ct:=I,bk:=D.nx,rt:=D.rt }
def C5 (Γ:Nat→FSp)(t:Tg)(b:Ss)(chk:AH→Prop)(D:aG)(xs:List PV)(ρ:Fr)(st:AH):Prop:=kN chk (fun x ρ' st' D'=>bX Γ t x ρ' st' fun ρ2 st2=>aq Γ b ρ2 st2 D') D xs ρ st
def EZ (Γ:Nat→FSp)(c:E)(b:Ss)(D:aG)(ρ:Fr)(st:AH):Prop:=∃n,dN (wpT Γ c) (aq Γ b) D n ρ st
def xM (Γ:Nat→FSp)(elt:E)(tg:Tg)(ifs:Es)(chk:AH→Prop)(ρ:Fr)(xs:List PV)(st:AH)(Q:LK):Prop :=
 dW chk (fun x st2 k=>bX Γ tg x ρ st2 fun ρ' st3=>fO Γ ifs ρ' st3 fun c st4=>if c=true then wpE Γ elt ρ' st4 fun v st5=>k (some v) st5 else k none st4) xs [] st Q
theorem tK {ss:Ss}:(aft Γ ss D).nx ρ st=aq Γ ss ρ st D:=rfl
theorem uq {ss:Ss}{v:PV}:(aft Γ ss D).rt v st=D.rt v st:=rfl
theorem tM {ss:Ss}:(aft Γ ss D).bk ρ st=D.bk ρ st:=rfl
theorem sY {ss:Ss}:(aft Γ ss D).ct ρ st=D.ct ρ st:=rfl
theorem pJ {ss:Ss}:(aft Γ ss D).rt=D.rt:=rfl
theorem zC {I:Fr→AH→Prop}:(LD I D).nx ρ st=I ρ st:=rfl
theorem zI {I:Fr→AH→Prop}:(LD I D).ct ρ st=I ρ st:=rfl
theorem yW {I:Fr→AH→Prop}:(LD I D).bk ρ st=D.nx ρ st:=rfl
theorem yi {I:Fr→AH→Prop}{v:PV}:(LD I D).rt v st=D.rt v st:=rfl
theorem sw {I:Fr→AH→Prop}:(LD I D).rt=D.rt:=rfl
theorem yG {st0:AH}:(af st0 Q).nx ρ st=Ret st0 Q .non st:=rfl
theorem xg {st0:AH}{v:PV}:(af st0 Q).rt v st=Ret st0 Q v st:=rfl
theorem sN {st0:AH}:(af st0 Q).rt=Ret st0 Q:=rfl
theorem pW {s s2:S}{ss:Ss}:aq Γ (.cons s (.cons s2 ss)) ρ st D=wpS Γ s ρ st (aft Γ (.cons s2 ss) D):=rfl
theorem oR {x:Ss}:wpS Γ (.whileS c x) ρ st D=EZ Γ c x D ρ st:=rfl
theorem yV {t:Tg}{it:It}{x:Ss}:wpS Γ (.forS t it x) ρ st D=ju Γ it ρ st fun xs chk st1=>C5 Γ t x chk D xs ρ st1:=rfl
theorem tP {tg:Tg}{it:It}{ifs:Es}{nt:List Str}{caps:List Nat}:wpE Γ (.comp a tg it ifs nt caps) ρ st Q=ju Γ it ρ st fun xs chk st1 =>
  xs.length<100000∧xM Γ a tg ifs chk (nt.map (fun _=>none)++caps.map fun i=>(ρ[i]?).join) xs st1 fun vs st2=>Q (.ref st2.length) (st2++[.lst vs]):=rfl
theorem r9 {t:Tg}{wk:DW}{e:E}{x:Ss}:wpS Γ (.forK t wk e x) ρ st D=wpE Γ e ρ st fun v st1=>∃n,v=.ref n∧∃kvs,st1[n]?=some (.dk kvs)∧C5 Γ t x (fun _=>True) (fzD n kvs D) (cw wk kvs) ρ (st1.set n (.fz kvs)):=rfl
theorem sG {n:Nat}{kvs:List (Key × PV)}:(fzD n kvs D).nx ρ st=(st[n]?=some (.fz kvs)∧D.nx ρ (st.set n (.dk kvs))):=rfl
theorem bT (G:aW Γ){t:Tg}{b:Ss}{chk:AH→Prop}{D:aG}(I:Nat→Fr→AH→Prop){xs:List PV}{ρ:Fr}{st:AH}(h0:I 0 ρ st)
  (hs:∀i x ρ st,xs[i]?=some x→I i ρ st→chk st∧bX Γ t x ρ st (fun ρ2 st2=>aq Γ b ρ2 st2 (LD (I (i+1)) D)))
  (hd:∀ρ st,I xs.length ρ st→chk st∧D.nx ρ st):C5 Γ t b chk D xs ρ st:=by
 have key:∀(k i:Nat) (ρ:Fr) (st:AH),i+k=xs.length→I i ρ st→kN chk (fun x ρ' st' D'=>bX Γ t x ρ' st' fun ρ2 st2=>aq Γ b ρ2 st2 D') D (xs.drop i) ρ st:=by
  intro k
  induction k with
  | zero =>
   intro i ρ st hi h
   have:i=xs.length:=by omega
   subst this
   rw[List.drop_length]
   exact hd ρ st h
  | succ k ih =>
   intro i ρ st hi h
   have hlt:i<xs.length:=by omega
   rw[IB hlt]
   obtain⟨h1,h2⟩:=hs i xs[i] ρ st (by simp[hlt]) h
   refine⟨h1,aC G t (fun ρ2 st2 k2=>aB G b ?_ k2) h2⟩
   exact⟨fun ρ3 st3 z=>ih (i+1) ρ3 st3 (by omega) z,fun _ _ z=>z,fun _ _ z=>z,fun ρ3 st3 z=>ih (i+1) ρ3 st3 (by omega) z⟩
 have:=key xs.length 0 ρ st (by omega) h0
 rwa [JQ] at this
theorem gj {c:Fr→AH→BK→Prop}{body:Fr→AH→aG→Prop}{D:aG}(hc:∀ρ st Q Q',(∀b st,Q b st→Q' b st)→c ρ st Q→c ρ st Q')(hb:∀ρ st D D',iX D D'→body ρ st D→body ρ st D') :
  ∀ {n k:Nat}{ρ:Fr}{st:AH},n≤k→dN c body D n ρ st→dN c body D k ρ st
 | 0,k,ρ,st,_,h=>h.elim
 | n+1,0,ρ,st,hk,h=>absurd hk (by omega)
 | n+1,k+1,ρ,st,hk,h=>by
  refine hc _ _ _ _ (fun b st1 z=>?_) h
  cases b with
  | false=>exact z
  | true =>
   rw[GA rfl] at z ⊢
   refine hb _ _ _ _ ?_ z
   exact⟨fun _ _ z=>gj hc hb (by omega) z,fun _ _ z=>z,fun _ _ z=>z,fun _ _ z=>gj hc hb (by omega) z⟩
theorem io (G:aW Γ){c:E}{b:Ss}{D:aG}(I:Nat→Fr→AH→Prop){n:Nat}{ρ:Fr}{st:AH}(h0:I n ρ st)
  (hs:∀n ρ st,I n ρ st→wpT Γ c ρ st (fun k st1=>if k=true then aq Γ b ρ st1 (LD (fun ρ' st'=>∃m,m<n∧I m ρ' st') D) else D.nx ρ st1)):EZ Γ c b D ρ st:=by
 have hc:∀ρ st Q Q',(∀b st,Q b st→Q' b st)→wpT Γ c ρ st Q→wpT Γ c ρ st Q':=fun _ _ _ _ hk z=>aD G c hk z
 have hb:∀ρ st D D',iX D D'→aq Γ b ρ st D→aq Γ b ρ st D':=fun _ _ _ _ hk z=>aB G b hk z
 have key:∀(k n:Nat),n<k→∀(ρ:Fr) (st:AH),I n ρ st→dN (wpT Γ c) (aq Γ b) D (n+1) ρ st:=by
  intro k
  induction k with
  | zero=>intro n hn;exact absurd hn (by omega)
  | succ k ih =>
   intro n hn ρ st h
   refine hc _ _ _ _ (fun q st1 z=>?_) (hs n ρ st h)
   cases q with
   | false=>exact z
   | true =>
    rw[GA rfl] at z ⊢
    refine hb _ _ _ _ ?_ z
    exact⟨fun ρ' st' ⟨m,hm,z⟩=>gj hc hb (by omega) (ih m (by omega) ρ' st' z),fun _ _ z=>z,fun _ _ z=>z,fun ρ' st' ⟨m,hm,z⟩=>gj hc hb (by omega) (ih m (by omega) ρ' st' z)⟩
 exact⟨_,key (n+1) n (by omega) ρ st h0⟩
end
section
variable {Γ:Nat→FSp}
theorem i5 (G:aW Γ){elt:E}{tg:Tg}{ifs:Es}{chk:AH→Prop}{ρ:Fr}{xs:List PV}{st:AH}{Q:LK}(I:Nat→List PV→AH→Prop)(h0:I 0 [] st)
  (hs:∀i x acc st,xs[i]?=some x→I i acc st→chk st∧bX Γ tg x ρ st fun ρ' st3=>fO Γ ifs ρ' st3 fun c st4=>if c=true then wpE Γ elt ρ' st4 fun v st5=>I (i+1) (acc++[v]) st5 else I (i+1) acc st4)
  (hd:∀acc st,I xs.length acc st→chk st∧Q acc st):xM Γ elt tg ifs chk ρ xs st Q:=by
 have key:∀(k i:Nat) (acc:List PV) (st:AH),i+k=xs.length→I i acc st→dW chk (dZ Γ elt tg ifs ρ) (xs.drop i) acc st Q:=by
  intro k
  induction k with
  | zero =>
   intro i acc st hi h
   have:i=xs.length:=by omega
   subst this
   rw[List.drop_length]
   exact hd acc st h
  | succ k ih =>
   intro i acc st hi h
   have hlt:i<xs.length:=by omega
   rw[IB hlt]
   obtain⟨h1,h2⟩:=hs i xs[i] acc st (by simp[hlt]) h
   refine⟨h1,aC G tg (fun ρ2 st2 k2=>bA G ifs (fun c st4 k4=>?_) k2) h2⟩
   cases c with
   | true=>rw[GA rfl] at k4 ⊢;exact aa G elt (fun v st5 z=>ih (i+1) _ st5 (by omega) z) k4
   | false=>rw[F_ FX] at k4 ⊢;simpa using ih (i+1) _ st4 (by omega) k4
 have:=key xs.length 0 [] st (by omega) h0
 rw[JQ] at this
 exact this
theorem comp_map (G:aW Γ){elt:E}{i:Nat}{chk:AH→Prop}{ρ:Fr}{xs:List PV}{st:AH}{Q:LK}(f:PV→PV)(hc:chk st)(hs:∀x∈xs,wpE Γ elt (ρ.set i (some x)) st fun v st'=>v=f x∧st'=st)(q:Q (xs.map f) st):xM Γ elt (.name i) .nil chk ρ xs st Q:=by
 refine i5 G (fun j acc s=>s=st∧acc=(xs.take j).map f) ⟨rfl,by simp⟩ ?_ ?_
 ·rintro j x acc s hx ⟨rfl,rfl⟩
  refine⟨hc,?_⟩
  simp only[fo,oN]
  rw[GA trivial]
  refine aa G elt (fun v st5 z=>?_) (hs x (GE hx))
  obtain⟨rfl,rfl⟩:=z
  refine⟨rfl,?_⟩
  rw[HK,hx]
  simp
 ·rintro acc s ⟨rfl,rfl⟩
  rw[GZ]
  exact⟨hc,q⟩
end
section
variable {st:AH}{Q:EK}{i j:Int}{n k:Nat}{xs ys:List PV}{x y v:PV}{b b':Bool}{s s':Str}{kB:Bool→Prop}{BQ:BK}
theorem zA:hV .Add (.int i) (.int j) st Q=Q (.int (i+j)) st:=rfl
theorem zj:hV .Sub (.int i) (.int j) st Q=Q (.int (i-j)) st:=rfl
theorem zN:hV .Mult (.int i) (.int j) st Q=(CMB i j∧Q (.int (i*j)) st):=rfl
theorem zh:hV .FloorDiv (.int i) (.int j) st Q=(CBig j∧Q (.int (i/j)) st):=rfl
theorem xQ:hV .Mod (.int i) (.int j) st Q=(0<j∧Q (.int (i % j)) st):=rfl
theorem yb:hV .Pow (.int i) (.int j) st Q=(rH i j∧Q (.int (i ^ j.toNat)) st):=rfl
theorem sS:hV .Add (.ref n) (.ref k) st Q=∃xs ys,st[n]?=some (.lst xs)∧st[k]?=some (.lst ys)∧xs.length+ys.length≤100000∧Q (.ref st.length) (st++[.lst (xs++ys)]):=rfl
theorem uo:hV .Mult (.ref n) (.int i) st Q=∃xs,st[n]?=some (.lst xs)∧-(2 ^ 63)≤i∧i<2 ^ 63∧xs.length*i.toNat≤100000∧Q (.ref st.length) (st++[.lst (List.replicate i.toNat xs).flatten]):=rfl
theorem r_ {a b:Str}:hV .Add (.str a) (.str b) st Q=(a.length+b.length≤100000∧Q (.str (a++b)) st):=rfl
theorem sv:hV .Add (.tup xs) (.tup ys) st Q=(xs.length+ys.length≤100000∧Q (.tup (xs++ys)) st):=rfl
theorem Cn:c6 .Eq x y st Q=eqW st x y fun k=>Q (.bl k) st:=rfl
theorem Cw:c6 .NotEq x y st Q=eqW st x y fun k=>Q (.bl (!k)) st:=rfl
theorem zg:c6 .Is x .non st Q=Q (.bl (cS x)) st:=rfl
theorem yc:c6 .Is x (.bl b) st Q=Q (.bl (kG b x)) st:=rfl
theorem sk:c6 .IsNot x .non st Q=Q (.bl (!cS x)) st:=rfl
theorem sR:c6 .IsNot x (.bl b) st Q=Q (.bl (!kG b x)) st:=rfl
theorem DF:c6 .Lt (.int i) (.int j) st Q=Q (.bl (decide (i<j))) st:=rfl
theorem Ci:c6 .LtE (.int i) (.int j) st Q=Q (.bl (decide (i≤j))) st:=rfl
theorem CW:c6 .Gt (.int i) (.int j) st Q=Q (.bl (decide (j<i))) st:=rfl
theorem Cg:c6 .GtE (.int i) (.int j) st Q=Q (.bl (decide (j≤i))) st:=rfl
theorem zB:eqW st (.int i) (.int j) kB=kB (decide (i=j)):=rfl
theorem zM:eqW st (.bl b) (.bl b') kB=kB (decide (b=b')):=rfl
theorem xE:eqW st (.str s) (.str s') kB=kB (decide (s=s')):=rfl
theorem je:cS .non=true:=rfl
theorem lm:cS (.bl b)=false:=rfl
theorem jI:cS (.int i)=false:=rfl
theorem jR:cS (.str s)=false:=rfl
theorem jJ:cS (.tup xs)=false:=rfl
theorem i7:cS (.ref n)=false:=rfl
theorem oG:kG true (.bl true)=true:=rfl
theorem pE:kG true (.bl false)=false:=rfl
theorem pP:kG false (.bl true)=false:=rfl
theorem o4:kG false (.bl false)=true:=rfl
theorem mj:kG b (.int i)=false:=rfl
theorem lO:kG b .non=false:=rfl
theorem ml:kG b (.tup xs)=false:=rfl
theorem jb:bt st (.tup xs)=some xs:=rfl
theorem jB:bt st (.rdl xs)=some xs:=rfl
theorem gS:bc st (.rdl xs)=some xs:=rfl
theorem aU (h:st[n]?=some (.lst xs)):bc st (.ref n)=some xs:=by simp[bc,h]
theorem ad (h:st[n]?=some (.lst xs)):bt st (.ref n)=some xs:=by simp[bt,bc,h]
theorem jh:dJ st .non=some "NoneType":=rfl
theorem ma:dJ st (.bl b)=some "bool":=rfl
theorem jS:dJ st (.int i)=some "int":=rfl
theorem jC:dJ st (.str s)=some "str":=rfl
theorem jH:dJ st (.tup xs)=some "tuple":=rfl
theorem jc:dJ st (.rdl xs)=some "list":=rfl
theorem wK {z:Str}:ixW (.str z) (.int i) st Q=(z.length≤100000∧∃c,atI z.cps.toList i=some c∧Q (.str ⟨#[c]⟩) st):=rfl
theorem yO:ixW (.tup xs) (.int i) st Q=∃v,atI xs i=some v∧Q v st:=propext ⟨fun ⟨ys,e,q⟩=>by cases e;exact q,fun q=>⟨xs,rfl,q⟩⟩
theorem wG:ixW (.rdl xs) (.int i) st Q=∃v,atI xs i=some v∧Q v st:=propext ⟨fun ⟨ys,e,q⟩=>by cases e;exact q,fun q=>⟨xs,rfl,q⟩⟩
theorem yf:ixW (.ref n) (.int i) st Q=∃xs,bt st (.ref n)=some xs∧∃v,atI xs i=some v∧Q v st:=rfl
theorem og:atI (x::xs) 0=some x:=fe (j:=0) rfl
theorem lj:atI (x::y::xs) 1=some y:=fe (j:=1) rfl
theorem xS:atI (x::y::v::xs) 2=some v:=fe (j:=2) rfl
theorem wY {u:PV}:atI (x::y::v::u::xs) 3=some u:=fe (j:=3) rfl
theorem yd {lo hi:Option Int}:slW (.tup xs) lo hi st Q=Q (.tup (pT xs lo hi)) st:=rfl
theorem wO {lo hi:Option Int}:slW (.rdl xs) lo hi st Q=Q (.ref st.length) (st++[.lst (pT xs lo hi)]):=by simp[slW,bc]
theorem zL {lo hi:Option Int}{z:Str}:slW (.str z) lo hi st Q=(z.length≤100000∧Q (.str (jO z lo hi)) st):=rfl
theorem xX {lo hi:Option Int}:slW (.ref n) lo hi st Q=∃xs,bc st (.ref n)=some xs∧Q (.ref st.length) (st++[.lst (pT xs lo hi)]):=rfl
theorem ux {z:Str}:c_ .len [.str z] st Q=(z.length≤100000∧Q (.int z.length) st):=rfl
theorem tT {z:Str}:c_ .int1 [.str z] st Q=(z.length≤640∧∃n,PySem.intText? z=some n∧Q (.int n) st):=rfl
theorem B5 {a b:Str}:c6 .In (.str a) (.str b) st Q=Q (.bl (!(Builtin.Str.occurrences b a 0 b.length 1).isEmpty)) st:=rfl
theorem yx:c6 .In (.int i) (.tup xs) st Q=∃ns:List Int,xs=ns.map PV.int∧Q (.bl (ns.any fun j=>j == i)) st:=rfl
theorem w_:c6 .NotIn (.int i) (.tup xs) st Q=∃ns:List Int,xs=ns.map PV.int∧Q (.bl (!(ns.any fun j=>j == i))) st:=rfl
theorem Af {a:Str}:c6 .In (.str a) (.tup xs) st Q=∃ns:List Str,xs=ns.map PV.str∧Q (.bl (ns.any fun j=>j == a)) st:=rfl
theorem yA {a:Str}:c6 .NotIn (.str a) (.tup xs) st Q=∃ns:List Str,xs=ns.map PV.str∧Q (.bl (!(ns.any fun j=>j == a))) st:=rfl
theorem wZ {a:Str}:c6 .In (.str a) (.ref n) st Q=inR a n st fun k=>Q (.bl k) st:=rfl
theorem xt {a:Str}:c6 .NotIn (.str a) (.ref n) st Q=inR a n st fun k=>Q (.bl (!k)) st:=rfl
theorem yo {z:Str}:ixW (.ref n) (.str z) st Q=∃kvs v,(st[n]?=some (.dk kvs)∨st[n]?=some (.fz kvs))∧bd kvs (.inr z)=some v∧Q v st:=rfl
theorem su {kS:AH→Prop}{z:Str}:oB (.ref n) (.str z) v st kS=∃kvs,st[n]?=some (.dk kvs)∧kvs.length≤1000∧kS (st.set n (.dk (ic kvs (.inr z) v))):=rfl
theorem uc:c_ .len [.tup xs] st Q=Q (.int xs.length) st:=propext ⟨fun ⟨ys,e,q⟩=>by cases e;exact q,fun q=>⟨xs,rfl,q⟩⟩
theorem uB:c_ .len [.rdl xs] st Q=Q (.int xs.length) st:=propext ⟨fun ⟨ys,e,q⟩=>by cases e;exact q,fun q=>⟨xs,rfl,q⟩⟩
theorem uC:c_ .len [.ref n] st Q=∃xs,bt st (.ref n)=some xs∧Q (.int xs.length) st:=rfl
theorem yT:c_ .max2 [.int i,.int j] st Q=Q (.int (if i<j then j else i)) st:=rfl
theorem wV:c_ .min2 [.int i,.int j] st Q=Q (.int (if j<i then j else i)) st:=rfl
theorem lV:c_ .divmod [.int i,.int j] st Q=(CBig j∧Q (.tup [.int (i/j),.int (i % j)]) st):=rfl
theorem si:c_ .int1 [.bl b] st Q=Q (.int (b2z b)) st:=rfl
theorem uu:c_ .tuple1 [.tup xs] st Q=Q (.tup xs) st:=propext ⟨fun ⟨ys,e,q⟩=>by cases e;exact q,fun q=>⟨xs,rfl,q⟩⟩
theorem tR:c_ .tuple1 [.ref n] st Q=∃xs,bt st (.ref n)=some xs∧Q (.tup xs) st:=rfl
theorem oS:c_ .list1 [.tup xs] st Q=Q (.ref st.length) (st++[.lst xs]):=propext ⟨fun ⟨ys,e,q⟩=>by cases e;exact q,fun q=>⟨xs,rfl,q⟩⟩
theorem pi:c_ .list1 [.ref n] st Q=∃xs,bt st (.ref n)=some xs∧Q (.ref st.length) (st++[.lst xs]):=rfl
theorem pN:c_ .sortS [x] st Q=∃ss:List Str,bc st x=some (ss.map PV.str)∧ss.length<64∧∀ss':List Str,ss'.Perm ss→PyProof.Rows.sortedS ss'=true→Q (.ref st.length) (st++[.lst (ss'.map PV.str)]):=rfl
theorem pX {n:Nat}:c_ .sortD [.ref n] st Q=∃kvs,(st[n]?=some (.dk kvs)∨st[n]?=some (.fz kvs))∧∃ss:List Str,kvs.map (·.1)=ss.map Sum.inr∧ss.length<64∧∀ss':List Str,ss'.Perm ss→PyProof.Rows.sortedS ss'=true→Q (.ref st.length) (st++[.lst (ss'.map PV.str)]):=propext ⟨fun ⟨_,e,q⟩=>by cases e;exact q,fun q=>⟨_,rfl,q⟩⟩
theorem wQ:qm .append (.ref n) [v] st Q=∃xs,st[n]?=some (.lst xs)∧xs.length<100000∧Q .non (st.set n (.lst (xs++[v]))):=rfl
theorem pA:qm .index (.ref n) [.bl b] st Q=∃xs bs,st[n]?=some (.lst xs)∧j6 xs=some bs∧bs.length<100000∧∃j:Nat,bs[j]?=some b∧(∀i,i<j→bs[i]?=some (!b))∧Q (.int j) st:=rfl
theorem Df:eL (.bl b) st BQ=BQ b st:=rfl
theorem CI:eL .non st BQ=BQ false st:=rfl
theorem Cs:eL (.int i) st BQ=BQ (i != 0) st:=rfl
theorem CJ:eL (.tup xs) st BQ=BQ (!xs.isEmpty) st:=by simp[eL,bt]
theorem BX:eL (.ref n) st BQ=∃xs,bt st (.ref n)=some xs∧BQ (!xs.isEmpty) st:=rfl
theorem xR {kS:AH→Prop}:oB (.ref n) (.int j) v st kS=∃xs,st[n]?=some (.lst xs)∧∃q,ixN xs.length j=some q∧kS (st.set n (.lst (xs.set q v))):=rfl
end
theorem uD:((0:Nat):Int)=0:=rfl
theorem tj:((1:Nat):Int)=1:=rfl
theorem ue:((2:Nat):Int)=2:=rfl
theorem s_:((3:Nat):Int)=3:=rfl
theorem sF:((4:Nat):Int)=4:=rfl
theorem tO:((5:Nat):Int)=5:=rfl
theorem sP:((6:Nat):Int)=6:=rfl
theorem dz {s g:AH}{k:Nat}:(s++g)[s.length+k]?=g[k]?:=by
 rw[GJ (Nat.le_add_right _ _),Nat.add_sub_cancel_left]
theorem bL {s g:AH}:(s++g)[s.length]?=g[0]?:=dz (k:=0)
theorem am {st:AH}{c:Cell}:(st++[c])[st.length]?=some c:=by simp
theorem cP {st g:AH}{n:Nat}{c:Cell}(h:st[n]?=some c):(st++g)[n]?=some c:=by
 rw[GG (FY.mp h).1]
 exact h
theorem ai {st:AH}{n:Nat}{c:Cell}(h:st[n]?=some c):n<st.length:=(FY.mp h).1
end FW
namespace My
open PySem L2 HX FW
noncomputable def top (i:Nat):Stmt:=PySem.Challenge.pw_hourstairs_k86_whole_fewest_ties.main.body.getD i (.Pass ⟨0,0,0,0⟩)
theorem k6 {n d:Nat}(h:0<d)(h2:d<2 ^ 8000):CBig (Nat.gcd n d:Nat):=by
 have h3:0<Nat.gcd n d:=Nat.gcd_pos_of_pos_right _ h
 have h4:Nat.gcd n d≤d:=Nat.gcd_le_right _ h
 refine⟨by omega,?_⟩
 have h5:((Nat.gcd n d:Nat):Int).natAbs=Nat.gcd n d:=rfl
 rw[h5]
 have:Nat.gcd n d<2 ^ 8000:=GN h4 h2
 have:=(KG (by omega)).mpr this
 omega
noncomputable abbrev pc (q r:Int):Cell:=.lst [.int q,.int r]
theorem BV {q r:Int}{k:Nat}:(pc q r).bel k=true:=by simp[pc,Cell.bel,PV.bels,PV.bel]
theorem E7:rH 10 6:=⟨by decide,by decide,by decide⟩
theorem EX:rH 10 18:=⟨by decide,by decide,by decide⟩
theorem uJ {j:Int}(h:0<j)(h2:j<2 ^ 200):CBig j:=CBig.of h (Int.lt_of_lt_of_le h2 (by
 have:((2:Int) ^ 200)=((2 ^ 200:Nat):Int):=by rw[J3];rfl
 have e2:((2:Int) ^ 8999)=((2 ^ 8999:Nat):Int):=by rw[J3];rfl
 rw[this,e2]
 exact Int.ofNat_le.mpr (HS (by decide) (by decide))))
theorem qt {i j:Int}(h1:-(2 ^ 64)<i)(h2:i<2 ^ 64):CMB i j:=.inr (.inl ⟨h1,h2⟩)
theorem nV {i j:Int}(h1:-(2 ^ 64)<j)(h2:j<2 ^ 64):CMB i j:=.inr (.inr ⟨h1,h2⟩)
theorem EQ {ns:List Int}(h:ns.length≤63):pT (ns.map PV.int) none (some 63)=ns.map PV.int:=by
 unfold pT
 have e:HT.sIx (ns.map PV.int).length (ns.map PV.int).length (some (63:Int))=(ns.map PV.int).length:=by
  have:=HT.sIx_nat (ns.map PV.int).length (ns.map PV.int).length 63
  rw[show ((63:Nat):Int)=(63:Int) from rfl] at this
  rw[this,GI]
  omega
 rw[HT.sIx_none,e,JQ,Nat.sub_zero,GZ]
theorem zH {ns:List Int}{k:Nat}(h:k<ns.length):atI (ns.map PV.int) (k:Int)=some (.int (ns.getD k 0)):=by
 refine fe ?_
 rw[F9,List.getD_eq_getElem?_getD,GX h]
 rfl
theorem Al {n d:Nat}(h:0<d):Nat.gcd (n/Nat.gcd n d) (d/Nat.gcd n d)=1:=Nat.gcd_div_gcd_div_gcd_of_pos_right h
theorem Aq {n d:Nat}(h:0<d):0<d/Nat.gcd n d:=Nat.div_pos (Nat.gcd_le_right _ h) (Nat.gcd_pos_of_pos_right _ h)
theorem ul (n d:Nat):n/Nat.gcd n d*d=n*(d/Nat.gcd n d):=by
 obtain⟨a,ha⟩:=Nat.gcd_dvd_left n d
 obtain⟨b,hb⟩:=Nat.gcd_dvd_right n d
 by_cases h:Nat.gcd n d=0
 ·rw[h,Nat.div_zero,Nat.div_zero,Nat.zero_mul,Nat.mul_zero]
 ·have e1:n/Nat.gcd n d=a:=by rw[Nat.div_eq_of_eq_mul_right (by omega) ha]
  have e2:d/Nat.gcd n d=b:=by rw[Nat.div_eq_of_eq_mul_right (by omega) hb]
  rw[e1,e2]
  generalize Nat.gcd n d=g at *
  subst ha hb
  rw[←Nat.mul_assoc,JX a g]
theorem dO {n i:Nat}{v:PV}(h:(di 0 ((n:Int).toNat))[i]?=some v):v=.int i∧i<n:=by
 unfold di at h
 rw[F9] at h
 have hi:i<n:=by
  by_cases hi:i<n
  ·exact hi
  ·rw[HP (by simp;omega)] at h;cases h
 rw[IL (by simpa using hi)] at h
 cases h
 exact⟨by simp,hi⟩
theorem nZ {st:AH}{a b:Int}:mW st (.tup [.int a,.int b])=some (.tuple [.int a,.int b]):=by simp[mW,PV.toD,PV.toDs]
theorem kg (a b:Int):SeqAt.shaped (.tuple [.int a,.int b])=true:=by
 simp[SeqAt.shaped,PyData.canLay0,PyData.canLayAll0,PyData.depth,PyData.depthAll]
theorem xy (a b c d:Int):PyData.eqv (.tuple [.int a,.int b]) (.tuple [.int c,.int d])=(decide (a=c) && decide (b=d)):=by
 simp[PyData.eqv,PyData.eqvAll,Bool.beq_eq_decide_eq]
theorem yU {st:AH}{a b c d:Int}{k:Bool→Prop}(h:k (decide (a=c) && decide (b=d))):eqW st (.tup [.int a,.int b]) (.tup [.int c,.int d]) k :=
 ⟨_,_,nZ,nZ,kg _ _,kg _ _,by rw[xy];exact h⟩
def aF:FSp:=fun as st Q=>∃n d:Nat,as=[.int n,.int d]∧Q (.int (Nat.gcd n d:Nat)) st
theorem gC {as st Q Q'}(h:∀v st,Q v st→Q' v st)(q:aF as st Q):aF as st Q':=by obtain⟨n,d,e,q⟩:=q;exact⟨n,d,e,h _ _ q⟩
theorem gT {as st Q}(q:aF as st Q):as.length=2:=by obtain⟨n,d,rfl,_⟩:=q;rfl
noncomputable abbrev low (n d:Nat):PV:=.tup [.int (n/Nat.gcd n d:Nat),.int (d/Nat.gcd n d:Nat)]
def bU:FSp:=fun as st Q=>∃n d:Nat,as=[.int n,.int d]∧0<d∧d<2 ^ 8000∧Q (low n d) st
theorem na {as st Q Q'}(h:∀v st,Q v st→Q' v st)(q:bU as st Q):bU as st Q':=by obtain⟨n,d,e,h1,h2,q⟩:=q;exact⟨n,d,e,h1,h2,h _ _ q⟩
theorem oU {as st Q}(q:bU as st Q):as.length=2:=by obtain⟨n,d,rfl,_⟩:=q;rfl
noncomputable abbrev fr (p:Nat × Nat):PV:=.tup [.int p.1,.int p.2]
noncomputable def aV (n d:Nat):Nat × Nat:=(n/Nat.gcd n d,d/Nat.gcd n d)
theorem ot (n d:Nat):low n d=fr (aV n d):=rfl
theorem tW (n d:Nat):(aV n d).1*d=n*(aV n d).2:=ul n d
theorem da {n d:Nat}(h:0<d):0<(aV n d).2:=Aq h
theorem mz {n d:Nat}(h:0<d):Nat.gcd (aV n d).1 (aV n d).2=1:=Al h
theorem iF (n d:Nat):(aV n d).1≤n:=Nat.div_le_self _ _
theorem iw (n d:Nat):(aV n d).2≤d:=Nat.div_le_self _ _
theorem Dk {a b c d:Nat}(h1:Nat.gcd a b=1)(h2:Nat.gcd c d=1)(hb:0<b)(hd:0<d)(h:a*d=c*b):a=c∧b=d:=by
 have hbd:b ∣ d:=by
  have:b ∣ a*d:=⟨c,by rw[h,JX]⟩
  exact Nat.Coprime.dvd_of_dvd_mul_left (show Nat.Coprime b a by unfold Nat.Coprime;rw[JA];exact h1) this
 have hdb:d ∣ b:=by
  have:d ∣ c*b:=⟨a,by rw[←h,JX]⟩
  exact Nat.Coprime.dvd_of_dvd_mul_left (show Nat.Coprime d c by unfold Nat.Coprime;rw[JA];exact h2) this
 have e:b=d:=Nat.dvd_antisymm hbd hdb
 subst e
 exact⟨Nat.eq_of_mul_eq_mul_right hb h,rfl⟩
noncomputable def A0 (p q:Nat × Nat):Nat × Nat:=aV (p.1*q.2-q.1*p.2) (p.2*q.2)
noncomputable def Eg (p q:Nat × Nat):Nat × Nat:=aV (p.1*q.1) (p.2*q.2)
structure Cop (p:Nat × Nat):Prop where
 pos:0<p.2
 one:Nat.gcd p.1 p.2=1
theorem Cop.low {n d:Nat}(h:0<d):Cop (aV n d):=⟨da h,mz h⟩
theorem Cop.ext {p q:Nat × Nat}(h1:Cop p)(h2:Cop q)(h:p.1*q.2=q.1*p.2):p=q:=by
 obtain⟨e1,e2⟩:=Dk h1.one h2.one h1.pos h2.pos h
 exact JV e1 e2
structure Sz (k:Nat)(p:Nat × Nat):Prop where
 a:p.1<2 ^ k
 b:p.2<2 ^ k
 pos:0<p.2
theorem Sz.mono {j k:Nat}{p:Nat × Nat}(h:Sz j p)(hk:j≤k):Sz k p:=⟨F3 h.a (HS (by decide) hk),F3 h.b (HS (by decide) hk),h.pos⟩
theorem aO {a b j k:Nat}(h1:a<2 ^ j)(h2:b<2 ^ k):a*b<2 ^ (j+k):=by
 rw[Nat.pow_add]
 by_cases hb:b=0
 ·subst hb
  simp only[Nat.mul_zero]
  exact JJ (by omega) (by omega)
 ·exact F3 (Nat.mul_lt_mul_of_pos_right h1 (by omega)) (Nat.mul_le_mul_left _ (HQ h2))
def FD (p q:Nat × Nat):Prop:=p.1*q.2<q.1*p.2
noncomputable instance (p q:Nat × Nat):Decidable (FD p q):=inferInstanceAs (Decidable (_<_))
mutual
noncomputable def aM:Nat→PV→Bool
 | _,.int _=>true
 | _,.non=>true
 | 0,.tup _=>false
 | n+1,.tup xs=>fS n xs
 | _,.bl _=>false
 | _,.str _=>false
 | _,.ref _=>false
 | _,.rdl _=>false
 | _,.fn _=>false
noncomputable def fS:Nat→List PV→Bool
 | _,[]=>true
 | n,x::xs=>aM n x && fS n xs
end
mutual
theorem fX:∀ {n:Nat}{v:PV},aM n v=true→∃d,v.toD=some d∧d.canLay0=true∧d.depth≤n+1
 | n,.int i,_=>⟨.int i,by simp[PV.toD],by simp[PyData.canLay0],by simp[PyData.depth]⟩
 | n,.non,_=>⟨.none,by simp[PV.toD],by simp[PyData.canLay0],by simp[PyData.depth]⟩
 | 0,.tup xs,h=>by simp[aM] at h
 | n+1,.tup xs,h=>by
  rw[aM] at h
  obtain⟨ds,e,h1,h2⟩:=bC h
  exact⟨.tuple ds,by simp[PV.toD,e],by simp[PyData.canLay0,h1],by simp[PyData.depth];omega⟩
 | n,.bl _,h=>by cases n <;> simp[aM] at h
 | n,.str _,h=>by cases n <;> simp[aM] at h
 | n,.ref _,h=>by cases n <;> simp[aM] at h
 | n,.rdl _,h=>by cases n <;> simp[aM] at h
 | n,.fn _,h=>by cases n <;> simp[aM] at h
theorem bC:∀ {n:Nat}{vs:List PV},fS n vs=true→∃ds,PV.toDs vs=some ds∧PyData.canLayAll0 ds=true∧PyData.depthAll ds≤n+1
 | n,[],_=>⟨[],by simp[PV.toDs],by simp[PyData.canLayAll0],by simp[PyData.depthAll]⟩
 | n,x::xs,h=>by
  rw[fS,GD] at h
  obtain⟨d,e1,h1,h2⟩:=fX h.1
  obtain⟨ds,e2,h3,h4⟩:=bC h.2
  exact⟨d::ds,by simp[PV.toDs,e1,e2],by simp[PyData.canLayAll0,h1,h3],by simp[PyData.depthAll];omega⟩
end
mutual
theorem nC:∀ {n:Nat}{v w:PV}{d e:PyData},aM n v=true→aM n w=true→v.toD=some d→w.toD=some e→PyData.eqv d e=v.same w
 | n,.int i,w,d,e,_,hw,hd,he=>by
  simp[PV.toD] at hd
  subst hd
  cases w with
  | int j=>simp[PV.toD] at he;subst he;simp[PyData.eqv,PV.same,Bool.beq_eq_decide_eq]
  | non=>simp[PV.toD] at he;subst he;simp[PyData.eqv,PV.same]
  | tup ys =>
   cases n with
   | zero=>simp[aM] at hw
   | succ n =>
    rw[aM] at hw
    obtain⟨ds,e1,h1,h2⟩:=bC hw
    simp[PV.toD,e1] at he
    subst he
    simp[PyData.eqv,PV.same]
  | _=>cases n <;> simp[aM] at hw
 | n,.non,w,d,e,_,hw,hd,he=>by
  simp[PV.toD] at hd
  subst hd
  cases w with
  | int j=>simp[PV.toD] at he;subst he;simp[PyData.eqv,PV.same]
  | non=>simp[PV.toD] at he;subst he;simp[PyData.eqv,PV.same]
  | tup ys =>
   cases n with
   | zero=>simp[aM] at hw
   | succ n =>
    rw[aM] at hw
    obtain⟨ds,e1,h1,h2⟩:=bC hw
    simp[PV.toD,e1] at he
    subst he
    simp[PyData.eqv,PV.same]
  | _=>cases n <;> simp[aM] at hw
 | 0,.tup xs,w,d,e,hv,_,_,_=>by simp[aM] at hv
 | n+1,.tup xs,w,d,e,hv,hw,hd,he=>by
  rw[aM] at hv
  obtain⟨ds,e1,h1,h2⟩:=bC hv
  simp[PV.toD,e1] at hd
  subst hd
  cases w with
  | int j=>simp[PV.toD] at he;subst he;simp[PyData.eqv,PV.same]
  | non=>simp[PV.toD] at he;subst he;simp[PyData.eqv,PV.same]
  | tup ys =>
   rw[aM] at hw
   obtain⟨es,e2,h3,h4⟩:=bC hw
   simp[PV.toD,e2] at he
   subst he
   simp only[PyData.eqv,PV.same]
   exact mn hv hw e1 e2
  | _=>simp[aM] at hw
 | n,.bl _,_,_,_,h,_,_,_=>by cases n <;> simp[aM] at h
 | n,.str _,_,_,_,h,_,_,_=>by cases n <;> simp[aM] at h
 | n,.ref _,_,_,_,h,_,_,_=>by cases n <;> simp[aM] at h
 | n,.rdl _,_,_,_,h,_,_,_=>by cases n <;> simp[aM] at h
 | n,.fn _,_,_,_,h,_,_,_=>by cases n <;> simp[aM] at h
theorem mn:∀ {n:Nat}{vs ws:List PV}{ds es:List PyData},fS n vs=true→fS n ws=true→PV.toDs vs=some ds→PV.toDs ws=some es→PyData.eqvAll ds es=PV.sames vs ws
 | n,[],ws,ds,es,_,hw,hd,he=>by
  simp[PV.toDs] at hd
  subst hd
  cases ws with
  | nil=>simp[PV.toDs] at he;subst he;simp[PyData.eqvAll,PV.sames]
  | cons y ys =>
   obtain⟨zs,e1,h1,h2⟩:=bC hw
   rw[e1] at he
   cases he
   cases es with
   | nil =>
    rw[PV.toDs] at e1
    split at e1 <;> simp at e1
   | cons=>simp[PyData.eqvAll,PV.sames]
 | n,x::xs,ws,ds,es,hv,hw,hd,he=>by
  rw[fS,GD] at hv
  obtain⟨d1,a1,b1,c1⟩:=fX hv.1
  obtain⟨ds1,a2,b2,c2⟩:=bC hv.2
  simp[PV.toDs,a1,a2] at hd
  subst hd
  cases ws with
  | nil=>simp[PV.toDs] at he;subst he;simp[PyData.eqvAll,PV.sames]
  | cons y ys =>
   rw[fS,GD] at hw
   obtain⟨d3,a3,b3,c3⟩:=fX hw.1
   obtain⟨ds4,a4,b4,c4⟩:=bC hw.2
   simp[PV.toDs,a3,a4] at he
   subst he
   rw[PyData.eqvAll,PV.sames,nC hv.1 hw.1 a1 a3,mn hv.2 hw.2 a2 a4]
end
theorem e_ {st:AH}{v:PV}{d:PyData}(h:v.toD=some d):mW st v=some d:=by
 cases v with
 | ref n=>simp[PV.toD] at h
 | _=>exact h
theorem uR {st:AH}{n:Nat}{v w:PV}{k:Bool→Prop}(hn:n≤60)(hv:aM n v=true)(hw:aM n w=true)(h:k (v.same w)):eqW st v w k:=by
 obtain⟨d,e1,h1,h2⟩:=fX hv
 obtain⟨e,e2,h3,h4⟩:=fX hw
 have big:∃d e,mW st v=some d∧mW st w=some e∧SeqAt.shaped d=true∧SeqAt.shaped e=true∧k (PyData.eqv d e):=by
  refine⟨d,e,e_ e1,e_ e2,?_,?_,?_⟩
  ·simp[SeqAt.shaped,h1];omega
  ·simp[SeqAt.shaped,h3];omega
  ·rw[nC hv hw e1 e2];exact h
 cases v with
 | int i =>
  cases w with
  | int j =>
   show k (decide (i=j))
   simp only[PV.same,Bool.beq_eq_decide_eq] at h
   exact h
  | _=>exact big
 | bl i=>cases n <;> simp[aM] at hv
 | str i=>cases n <;> simp[aM] at hv
 | _=>exact big
mutual
theorem j7:∀(v:PV),v.same v=true
 | .non=>by simp[PV.same]
 | .bl _=>by simp[PV.same]
 | .int _=>by simp[PV.same]
 | .str _=>by simp[PV.same]
 | .ref _=>by simp[PV.same]
 | .fn _=>by simp[PV.same]
 | .tup xs=>by rw[PV.same];exact ff xs
 | .rdl xs=>by rw[PV.same];exact ff xs
theorem ff:∀(vs:List PV),PV.sames vs vs=true
 | []=>by simp[PV.sames]
 | x::xs=>by rw[PV.sames,j7 x,ff xs];rfl
end
def aK:FSp:=fun as st Q=>∃p q,as=[fr p,fr q]∧Sz 3000 p∧Sz 3000 q∧Q (.bl (decide (p.1*q.2<q.1*p.2))) st
theorem gL {as st Q Q'}(h:∀v st,Q v st→Q' v st)(q:aK as st Q):aK as st Q':=by obtain⟨a,b,e,h1,h2,q⟩:=q;exact⟨a,b,e,h1,h2,h _ _ q⟩
theorem iz {as st Q}(q:aK as st Q):as.length=2:=by obtain⟨n,d,rfl,_⟩:=q;rfl
theorem cC {j k:Nat}(h:j≤k):(2:Nat) ^ j≤2 ^ k:=HS (by decide) h
theorem cj {a b:Nat}(h1:a<2 ^ 3000)(h2:b<2 ^ 3000):CMB (a:Int) (b:Int):=.inl ⟨F3 h1 (cC (by decide)),F3 h2 (cC (by decide))⟩
theorem rY {st:AH}{p q:Nat × Nat}{k:Bool→Prop}(h:k (decide (p=q))):eqW st (fr p) (fr q) k:=by
 refine yU ?_
 have:(decide ((p.1:Int)=q.1) && decide ((p.2:Int)=q.2))=decide (p=q):=by
  rw[IS]
  simp only[Bool.and_eq_true,decide_eq_true_eq]
  constructor
  ·rintro⟨h1,h2⟩;exact JV (by omega) (by omega)
  ·rintro rfl;exact⟨rfl,rfl⟩
 rw[this]
 exact h
def PK (q r:Int):Prop:=0≤q∧0≤r∧r<8589934592
def Pot (st:AH)(p:Nat):Prop:=∃q r,st[p]?=some (pc q r)∧PK q r
theorem Pot.lt {st:AH}{p:Nat}(h:Pot st p):p<st.length:=by obtain⟨q,r,e,_⟩:=h;exact ai e
theorem Pot.app {st g:AH}{p:Nat}(h:Pot st p):Pot (st++g) p:=by obtain⟨q,r,e,z⟩:=h;exact⟨q,r,cP e,z⟩
structure Gr (st:AH)(p:Nat)(st':AH):Prop where
 len:st.length≤st'.length
 old:∀i,i<st.length→i≠p→st'[i]?=st[i]?
 pot:Pot st' p
 was:p<st.length
theorem Gr.refl {st:AH}{p:Nat}(h:Pot st p):Gr st p st:=⟨F2 _,fun _ _ _=>rfl,h,h.lt⟩
theorem Gr.trans {st s1 s2:AH}{p:Nat}(a:Gr st p s1)(b:Gr s1 p s2):Gr st p s2:=⟨GW a.len b.len,fun i h1 h2=>(b.old i (F3 h1 a.len) h2).trans (a.old i h1 h2),b.pot,a.was⟩
theorem Gr.app {st s1 g:AH}{p:Nat}(a:Gr st p s1):Gr st p (s1++g) :=
 ⟨by rw[HF];exact GW a.len (Nat.le_add_right _ _),fun i h1 h2=>by rw[GG (F3 h1 a.len)];exact a.old i h1 h2,a.pot.app,a.was⟩
theorem Gr.set {st s1:AH}{p:Nat}(a:Gr st p s1){q r:Int}(z:PK q r):Gr st p (s1.set p (pc q r)) :=
 ⟨by rw[JK];exact a.len,fun i h1 h2=>by rw[F6 (Ne.symm h2)];exact a.old i h1 h2,⟨q,r,GB a.pot.lt,z⟩,a.was⟩
theorem Gr.setN {st s1:AH}{p n:Nat}{c:Cell}(a:Gr st p s1)(h:st.length≤n):Gr st p (s1.set n c):=by
 have hn:n≠p:=fun e=>by have:=a.was;omega
 refine⟨by rw[JK];exact a.len,fun i h1 h2=>by rw[F6 (by omega)];exact a.old i h1 h2,?_,a.was⟩
 obtain⟨q,r,e,z⟩:=a.pot
 exact⟨q,r,by rw[F6 hn];exact e,z⟩
theorem Gr.get {st s1:AH}{p n:Nat}{c:Cell}(a:Gr st p s1)(h:st[n]?=some c)(hn:n≠p):s1[n]?=some c:=(a.old n (ai h) hn).trans h
theorem Gr.tmp {st s1:AH}{p:Nat}{v:PV}{Q:EK}(a:Gr st p s1)(hv:v.bel st.length=true)(k:∀s2,Gr st p s2→s2.length=st.length→Q v s2):Tmp st Q v s1:=by
 have hl:(s1.take st.length).length=st.length:=by rw[JF];exact Nat.min_eq_left a.len
 have hg:∀i,i<st.length→(s1.take st.length)[i]?=s1[i]?:=fun i hi=>by rw[IP hi]
 obtain⟨q,r,e,z⟩:=a.pot
 refine⟨s1.take st.length,s1.drop st.length,(List.take_append_drop _ _).symm,hl,fun i hi=>?_,hv,k _ ⟨by omega,fun i h1 h2=>(hg i h1).trans (a.old i h1 h2),⟨q,r,(hg p a.was).trans e,z⟩,a.was⟩ hl⟩
 by_cases hp:i=p
 ·subst hp
  exact .inr ⟨pc q r,(hg i a.was).trans e,BV⟩
 ·exact .inl ((hg i hi).trans (a.old i hi hp))
theorem uG {L:List PV}{P:PV→Prop}(h:∀v∈L,P v){y:Int}(y0:0≤y)(y1:y<L.length):∃v,atI L y=some v∧P v:=by
 obtain⟨m,rfl⟩:∃m:Nat,y=m:=⟨y.toNat,by omega⟩
 have hm:m<L.length:=by omega
 exact⟨L[m],fe (GX hm),h _ (JW hm)⟩
theorem lu {xs:List PV}{v:PV}:atI (xs++[v]) (-1)=some v:=by
 have e:(-1+((xs.length:Int)+1)).toNat=xs.length:=by omega
 simp only[atI,ixN,List.length_append,List.length_singleton]
 simp
 rw[GA (by omega),e]
 simp
noncomputable def val (p:Nat × Nat):Rat:=(p.1:Rat)/(p.2:Rat)
theorem bb {d:Nat}(h:0<d):(0:Rat)<(d:Rat):=by
 have:((0:Nat):Rat)<(d:Rat):=JB.mpr h
 simpa using this
theorem az {n d:Nat}(h:0<d):val (aV n d)=(n:Rat)/(d:Rat):=by
 have c:=tW n d
 have p:=da (n:=n) h
 unfold val
 generalize aV n d=z at *
 have e:(z.1:Rat)*d=n*z.2:=by
  have:=GR (fun k:Nat=>(k:Rat)) c
  simpa using this
 have p1:=bb p
 have p2:=bb h
 grind
theorem Dn {p:Nat × Nat}(hp:0<p.2):0≤val p:=by
 unfold val
 rw[←JY,JR (bb hp),Rat.zero_mul,JY]
 exact Rat.natCast_nonneg
theorem fB {p q:Nat × Nat}(hp:0<p.2)(hq:0<q.2):p.1*q.2<q.1*p.2↔val p<val q:=by
 have p1:=bb hp
 have p2:=bb hq
 have e:(p.1*q.2<q.1*p.2)↔((p.1:Rat)*q.2<q.1*p.2):=by
  rw[←JB]
  simp
 rw[e]
 unfold val
 rw[JR p1]
 have e2:(q.1:Rat)/q.2*p.2=q.1*p.2/q.2:=by grind
 rw[e2,Rat.lt_div_iff p2]
theorem g_ {p q:Nat × Nat}(hp:0<p.2)(hq:0<q.2):p.1*q.2≤q.1*p.2↔val p≤val q:=by
 rw[←Nat.not_lt,←JY,fB hq hp]
theorem gu {p q:Nat × Nat}(hp:Cop p)(hq:Cop q)(h:val p=val q):p=q:=by
 refine hp.ext hq ?_
 have a:=(g_ hp.pos hq.pos).mpr (by rw[h];exact HD)
 have b:=(g_ hq.pos hp.pos).mpr (by rw[h];exact HD)
 omega
theorem lc:val (0,1)=0:=by unfold val;grind
structure Pc where
 e:Nat × Nat
 l:Nat × Nat
 h:Nat × Nat
noncomputable abbrev Pc.E (p:Pc):Rat:=val p.e
noncomputable abbrev Pc.L (p:Pc):Rat:=val p.l
noncomputable abbrev Pc.H (p:Pc):Rat:=val p.h
noncomputable def gB (b:Nat × Nat)(a p:Pc):Bool:=decide (p.l=a.h) && decide (Eg (A0 a.h a.l) (A0 p.e a.e)=Eg (A0 p.h p.l) (A0 a.e b))
structure Pc.Ok (p:Pc):Prop where
 e:Cop p.e
 l:Cop p.l
 h:Cop p.h
def Sl (b:Rat)(p:Pc)(s:Rat):Prop:=p.H-p.L=s*(p.E-b)
noncomputable def NG:Nat × Nat→List Pc→Prop
 | _,[]=>True
 | _,[_]=>True
 | b,a::p::r=>gB b a p=false∧NG a.e (p::r)
inductive zE:Nat × Nat→List Pc→List Pc→Prop
 | nil {b}:zE b [] []
 | keep {b p r' r}:zE p.e r' r→zE b (p::r') (p::r)
 | cut {b p m c s r' r}:Cop m→Cop c→val b<val m→val m<p.E→p.L≤val c→val c≤p.H→Sl (val b) p s→val c-p.L=s*(val m-val b)→p.H-val c=s*(p.E-val m)→zE p.e r' r→zE b (⟨m,p.l,c⟩::⟨p.e,c,p.h⟩::r') (p::r)
noncomputable def cm (b:Rat):List Pc→Rat→Option Rat
 | [],_=>none
 | p::r,t=>if t≤p.E then some (if b=p.E then p.L else p.L+(p.H-p.L)*((t-b)/(p.E-b))) else cm p.E r t
noncomputable def Rt (b hh:Rat):List Pc→Prop
 | []=>True
 | p::r=>p.Ok∧b<p.E∧hh≤p.L∧p.L≤p.H∧p.E≤p.H∧Rt p.E p.H r
noncomputable def RtF:List Pc→Prop
 | []=>True
 | p::r=>p.Ok∧p.L≤p.H∧p.E≤p.H∧(0=p.E→p.L=p.H)∧Rt p.E p.H r
theorem D4:Cop (0,1):=⟨by decide,by decide⟩
theorem yr {as st Q Q'}(h:∀v st,Q v st→Q' v st)(q:gM as st Q):gM as st Q':=by obtain⟨n,e,h1,q⟩:=q;exact⟨n,e,h1,fun z=>h _ _ (q z)⟩
theorem AJ {as st Q}(q:gM as st Q):as.length=1:=by obtain⟨n,rfl,_⟩:=q;rfl
structure Pc.Sz (k:Nat)(p:Pc):Prop where
 e:My.Sz k p.e
 l:My.Sz k p.l
 h:My.Sz k p.h
def SzL (k:Nat)(L:List Pc):Prop:=∀p∈L,p.Sz k
theorem Pc.Sz.mono {j k:Nat}{p:Pc}(h:p.Sz j)(hk:j≤k):p.Sz k:=⟨h.e.mono hk,h.l.mono hk,h.h.mono hk⟩
theorem SzL.mono {j k:Nat}{L:List Pc}(h:SzL j L)(hk:j≤k):SzL k L:=fun p hp=>(h p hp).mono hk
noncomputable abbrev Un3:=Nat × Nat × Nat
noncomputable def RU (b hh:Nat):List Un3→Prop
 | []=>True
 | u::r=>b<u.1∧hh≤u.2.1∧u.2.1≤u.2.2∧u.1≤u.2.2∧RU u.1 u.2.2 r
noncomputable def RUF:List Un3→Prop
 | []=>True
 | u::r=>u.2.1≤u.2.2∧u.1≤u.2.2∧(u.1=0→u.2.1=u.2.2)∧RU u.1 u.2.2 r
def BdU (N:Nat)(U:List Un3):Prop:=∀u∈U,u.1≤N∧u.2.1≤N∧u.2.2≤N
structure App (U:List Un3)(u:Un3):Prop where
 fst:U=[]→u.2.1≤u.2.2∧u.1≤u.2.2∧(u.1=0→u.2.1=u.2.2)
 nxt:∀v,U.getLast?=some v→v.1<u.1∧v.2.2≤u.2.1∧u.2.1≤u.2.2∧u.1≤u.2.2
noncomputable abbrev EL (d:Nat)(u:Un3):Pc:=⟨aV u.1 d,aV u.2.1 d,aV u.2.2 d⟩
abbrev Mo (s:FSp):Prop:=∀ {as:List PV}{st:AH}{Q Q':EK},(∀v st,Q v st→Q' v st)→s as st Q→s as st Q'
abbrev Ln (s:FSp)(n:Nat):Prop:=∀ {as:List PV}{st:AH}{Q:EK},s as st Q→as.length=n
local macro_rules | `(tactic| walk_at "MO")=>`(tactic| (intro as st Q Q' h q;repeat (first|exact h _ _ q|(obtain ⟨a,q⟩:=q;first|refine Exists.intro a ?_|refine And.intro a ?_)|(intro a;replace q:=q a))))
local macro_rules | `(tactic| walk_at "LN")=>`(tactic| (intro as st Q q;repeat (obtain ⟨a,q⟩:=q;try exact congrArg List.length a)))
noncomputable def qK:Option (Nat × Nat)→PV
 | none=>.non
 | some p=>fr p
noncomputable def stB (L:List Pc):Bool:=@decide (NG (0,1) L) (Classical.propDecidable _)
def bY:FSp:=fun as st Q=>∃p q:Nat × Nat,as=[fr p,fr q]∧Sz 3000 p∧Sz 3000 q∧Q (.int ((p.1:Int)*q.2-q.1*p.2)) st
theorem k_:Mo bY:=by walk_at "MO"
theorem mN:Ln bY 2:=by walk_at "LN"
def bi:FSp:=fun as st Q=>∃(a b c d m:Nat) (nx ny fx fy x:Nat × Nat),as=[.tup [fr nx,fr ny],.tup [fr fx,fr fy],fr x]∧a+b+c+d+m+2≤2900∧(Sz a nx∧Sz b ny∧Sz c fx∧Sz d fy∧Sz m x)∧(val nx<val fx∧val nx≤val x∧val x≤val fx)∧∀r,Cop r→Sz (a+b+c+d+m+2) r→val r=val ny+(val fy-val ny)*((val x-val nx)/(val fx-val nx))→Q (fr r) st
theorem i_:Mo bi:=by walk_at "MO"
theorem kM:Ln bi 3:=by walk_at "LN"
structure Rr where
 F:Rat
 L:Rat
 C:Rat
 D:Rat
structure Rr.Ok (r:Rr):Prop where
 fl:r.F≤r.L
 fc:r.F≤r.C
 ld:r.L≤r.D
 eq:r.F=r.L→r.C=r.D
def Rr.has (r:Rr)(t:Rat):Prop:=r.F≤t∧t≤r.L
noncomputable def Rr.to (r:Rr)(t:Rat):Rat:=if r.F=r.L then r.C else r.C+(r.D-r.C)*((t-r.F)/(r.L-r.F))
structure Rq where
 f:Nat × Nat
 l:Nat × Nat
 c:Nat × Nat
 d:Nat × Nat
noncomputable abbrev rqV (q:Rq):PV:=.tup [fr q.f,fr q.l,fr q.c,fr q.d]
noncomputable abbrev Rq.r (q:Rq):Rr:=⟨val q.f,val q.l,val q.c,val q.d⟩
structure jv (j:Nat)(q:Rq):Prop where
 cf:Cop q.f
 cl:Cop q.l
 cc:Cop q.c
 cd:Cop q.d
 zf:Sz j q.f
 zl:Sz j q.l
 zc:Sz j q.c
 zd:Sz j q.d
 ok:q.r.Ok
noncomputable def IsOff (X:List Rr)(t:Rat):Option Rat→Prop
 | none=>∀r∈X,¬r.has t
 | some y=>(∃r∈X,r.has t∧r.to t=y)∧∀r∈X,r.has t→y≤r.to t
noncomputable def IsOut (X:List Rr)(t:Rat):Option (Rat × Rat)→Prop
 | none=>∀r∈X,r.L<t
 | some p=>t≤p.1∧(∃r∈X,r.has p.1∧r.to p.1=p.2)∧∀r∈X,∀v,t≤v→r.has v→p.2≤r.to v∧(r.to v=p.2→p.1≤v)
noncomputable abbrev Fr2:=(Nat × Nat) × (Nat × Nat)
noncomputable abbrev f2V (p:Fr2):PV:=.tup [fr p.1,fr p.2]
noncomputable def o2V:Option Fr2→PV
 | none=>.non
 | some p=>f2V p
noncomputable abbrev v2 (p:Fr2):Rat × Rat:=(val p.1,val p.2)
def bJ:FSp:=fun as st Q=>∃(k:Nat) (q:Rq) (t:Nat × Nat),as=[rqV q,fr t]∧k≤2900∧jv k q∧Sz k t∧∀b:Bool,(b=true↔q.r.has (val t))→Q (.bl b) st
theorem kF:Mo bJ:=by walk_at "MO"
theorem lG:Ln bJ 2:=by walk_at "LN"
def dM:FSp:=fun as st Q=>∃(j m:Nat) (q:Rq) (t:Nat × Nat),as=[rqV q,fr t]∧(1≤j∧m+4*j+2≤2900)∧jv j q∧Sz m t∧q.r.has (val t)∧∀p,Cop p→Sz (m+4*j+2) p→val p=q.r.to (val t)→Q (fr p) st
theorem pQ:Mo dM:=by walk_at "MO"
theorem rD:Ln dM 2:=by walk_at "LN"
def fK:FSp:=fun as st Q=>∃(j m:Nat) (X:List Rq) (t:Nat × Nat),as=[.tup (X.map rqV),fr t]∧(1≤j∧m+4*j+2≤2900)∧(∀q∈X,jv j q)∧Sz m t∧∀o:Option (Nat × Nat),(∀p,o=some p→Cop p∧Sz (m+4*j+2) p)→IsOff (X.map Rq.r) (val t) (o.map val)→Q (qK o) st
theorem sX:Mo fK:=by walk_at "MO"
theorem wf:Ln fK 2:=by walk_at "LN"
def fL:FSp:=fun as st Q=>∃(k:Nat) (q:Rq),as=[rqV q]∧k≤2900∧jv k q∧∀b:Bool,(b=true↔q.r.D<q.r.C)→Q (.bl b) st
theorem tG:Mo fL:=by walk_at "MO"
theorem we:Ln fL 1:=by walk_at "LN"
def ce:FSp:=fun as st Q=>∃(j m:Nat) (q:Rq) (t:Nat × Nat),as=[rqV q,fr t]∧(1≤j∧m+5*j+2≤2900)∧jv j q∧Cop t∧Sz m t∧val t≤q.r.L∧∀p:Fr2,Cop p.1→Cop p.2→Sz (m+5*j+2) p.1→Sz (m+5*j+2) p.2→IsOut [q.r] (val t) (some (v2 p))→Q (f2V p) st
theorem l':Mo ce:=by walk_at "MO"
theorem mV:Ln ce 2:=by walk_at "LN"
def cg:FSp:=fun as st Q=>∃(k:Nat) (p q:Fr2),as=[f2V p,f2V q]∧k≤2900∧(Cop p.1∧Cop p.2∧Cop q.1∧Cop q.2)∧(Sz k p.1∧Sz k p.2∧Sz k q.1∧Sz k q.2)∧∀b:Bool,(b=true↔(val p.2=val q.2∧val p.1<val q.1)∨val p.2<val q.2)→Q (.bl b) st
theorem lf:Mo cg:=by walk_at "MO"
theorem mJ:Ln cg 2:=by walk_at "LN"
def dR:FSp:=fun as st Q=>∃(j m:Nat) (X:List Rq) (w:Bool) (t:Nat × Nat),as=[.tup (X.map rqV),.bl w,fr t]∧(1≤j∧m+5*j+2≤2900)∧(∀q∈X,jv j q)∧Cop t∧Sz m t∧∀o:Option Fr2,(∀p,o=some p→(Cop p.1∧Cop p.2)∧Sz (m+5*j+2) p.1∧Sz (m+5*j+2) p.2)→(w=true→IsOut (X.map Rq.r) (val t) (o.map v2))→(w=false→IsOff (X.map Rq.r) (val t) (o.map fun p=>val p.2)∧∀p,o=some p→p.1=t)→Q (o2V o) st
theorem oM:Mo dR:=by walk_at "MO"
theorem qj:Ln dR 3:=by walk_at "LN"
structure Nm (z:Str):Prop where
 len:z.length≤8
 ok:z.cps.all (·< 1114112)=true
structure Gn (st:AH)(p t:Nat)(st':AH):Prop where
 len:st.length≤st'.length
 old:∀i,i<st.length→i≠p→i≠t→st'[i]?=st[i]?
 pot:Pot st' p
theorem Gn.trans {st s1 s2:AH}{p t:Nat}(a:Gn st p t s1)(b:Gn s1 p t s2):Gn st p t s2:=⟨GW a.len b.len,fun i h1 h2 h3=>(b.old i (F3 h1 a.len) h2 h3).trans (a.old i h1 h2 h3),b.pot⟩
theorem Gn.get {st s1:AH}{p t n:Nat}{c:Cell}(a:Gn st p t s1)(h:st[n]?=some c)(hn:n≠p)(ht:n≠t):s1[n]?=some c:=(a.old n (ai h) hn ht).trans h
theorem Gn.gr {st s1 s2:AH}{p t:Nat}(a:Gr st p s1)(ht:st.length≤t)(b:Gn s1 p t s2):Gr st p s2:=⟨GW a.len b.len,fun i h1 h2=>(b.old i (F3 h1 a.len) h2 (by omega)).trans (a.old i h1 h2),b.pot,a.was⟩
noncomputable abbrev kd (ps:List (Str × PV)):List (Key × PV):=ps.map fun p=>(Sum.inr p.1,p.2)
noncomputable abbrev sV (ns:List Str):List PV:=ns.map PV.str
def cZ:FSp:=fun as st Q=>∃(ns:List Int) (k:Nat),as=[.rdl (ns.map .int),.int k]∧ns.length≤63∧k<9∧∀p s,Pot s p→Q (.ref p) s
theorem mI:Mo cZ:=by walk_at "MO"
theorem o0:Ln cZ 2:=by walk_at "LN"
def bN:FSp:=fun as st Q=>∃(p:Nat) (many:Int),as=[.ref p,.int many]∧Pot st p∧0<many∧many<2 ^ 200∧∀x st',0≤x→x<many→Gr st p st'→Q (.int x) st'
theorem kQ:Mo bN:=by walk_at "MO"
theorem mr:Ln bN 2:=by walk_at "LN"
def cX:FSp:=fun as st Q=>∃n d:Nat,as=[.int n,.int d]∧0<d∧d<2 ^ 8000∧Q (low n d) st
theorem ng:Mo cX:=by walk_at "MO"
theorem oZ:Ln cX 2:=by walk_at "LN"
def ci:FSp:=fun as st Q=>∃(p t:Nat) (names:List Str),as=[.ref p,.ref t]∧Pot st p∧t≠p∧st[t]?=some (.lst (sV names))∧names.length<20∧(∀z∈names,Nm z)∧∀z st',Nm z→Gn st p t st'→st'[t]?=some (.lst (sV (names++[z])))→Q (.str z) st'
theorem mF:Mo ci:=by walk_at "MO"
theorem mY:Ln ci 2:=by walk_at "LN"
structure Rd where
 f:Nat
 l:Nat
 c:Nat
 d:Nat
noncomputable abbrev Rd.r (r:Rd):Rr:=⟨r.f,r.l,r.c,r.d⟩
noncomputable abbrev Rd.q (e:Nat)(r:Rd):Rq:=⟨aV r.f e,aV r.l e,aV r.c e,aV r.d e⟩
structure RideN (f l c d:Nat):Prop where
 fl:f≤l
 fc:f≤c
 ld:l≤d
 eq:f=l→c=d
 big:d<10 ^ 13
 bigc:c<10 ^ 13
 bigl:l<10 ^ 13
abbrev EG (r:Rd):Prop:=RideN r.f r.l r.c r.d
structure Ti where
 a:Str
 b:Str
 X:List Rq
noncomputable abbrev Ti.v (t:Ti):PV:=.tup [.str t.a,.str t.b,.tup (t.X.map rqV)]
noncomputable abbrev td (T:List (Str × Ti)):List (Str × PV):=T.map fun p=>(p.1,p.2.v)
structure NetT (T:List (Str × Ti)):Prop where
 nd:(T.map (·.1)).Nodup
 ln:T.length≤20
 nm:∀p∈T,Nm p.1∧Nm p.2.a∧Nm p.2.b
 rq:∀p∈T,∀q∈p.2.X,jv 50 q
def DkAt (st:AH)(d:Nat)(ps:List (Str × PV)):Prop:=st[d]?=some (.dk (kd ps))∨st[d]?=some (.fz (kd ps))
def IsC (w:Bool)(X:List Rr)(t:Rat)(o:Option Rat):Prop:=(w=true→∃q,IsOut X t q∧o=q.map (·.2))∧(w=false→IsOff X t o)
theorem IsC.uniq {w:Bool}{X:List Rr}{t:Rat}{o o':Option Rat}(h:IsC w X t o)(h':IsC w X t o')(u1:∀q q',IsOut X t q→IsOut X t q'→q=q')(u2:∀q q',IsOff X t q→IsOff X t q'→q=q'):o=o':=by
 cases w with
 | true =>
  obtain⟨q,h1,rfl⟩:=h.1 rfl
  obtain⟨q',h2,rfl⟩:=h'.1 rfl
  rw[u1 q q' h1 h2]
 | false=>exact u2 o o' (h.2 rfl) (h'.2 rfl)
noncomputable abbrev wt (ws:List Str)(t:Ti):Bool:=ws.any fun j=>j == t.a
noncomputable abbrev Pm:=Str→Option Rat
def oV (T:List (Str × Ti))(ws:List Str)(f:Pm)(z:Str)(y:Rat):Prop:=f z=some y∨∃p∈T,p.2.b=z∧∃t,f p.2.a=some t∧IsC (wt ws p.2) (p.2.X.map Rq.r) t (some y)
def Step (T:List (Str × Ti))(ws:List Str)(f g:Pm):Prop:=∀z,(∀y,oV T ws f z y→∃y',g z=some y'∧y'≤y)∧∀y',g z=some y'→oV T ws f z y'
theorem Step.uniq {T:List (Str × Ti)}{ws:List Str}{f g g':Pm}(h:Step T ws f g)(h':Step T ws f g'):g=g':=by
 funext z
 obtain⟨a1,a2⟩:=h z
 obtain⟨b1,b2⟩:=h' z
 cases e:g z with
 | none =>
  cases e':g' z with
  | none=>rfl
  | some y=>obtain⟨y',q,_⟩:=a1 y (b2 y e');rw[e] at q;cases q
 | some y =>
  obtain⟨y',q,l1⟩:=b1 y (a2 y e)
  obtain⟨y2,q2,l2⟩:=a1 y' (b2 y' q)
  rw[e] at q2
  cases q2
  rw[q]
  congr 1
  grind
noncomputable def Lay (T:List (Str × Ti))(ws:List Str)(f0:Pm):Nat→Pm→Prop
 | 0,f=>f=f0
 | k+1,f=>∃g,Lay T ws f0 k g∧Step T ws g f
noncomputable abbrev Mom:=List (Str × Nat × Nat)
noncomputable def Mv (F:Mom):Pm:=fun z=>(F.find? fun p=>decide (p.1=z)).map fun p=>val p.2
noncomputable abbrev fd (F:Mom):List (Str × PV):=F.map fun p=>(p.1,fr p.2)
structure Fok (m:Nat)(F:Mom):Prop where
 nd:(F.map (·.1)).Nodup
 ok:∀p∈F,Nm p.1∧Cop p.2∧Sz m p.2
noncomputable abbrev Wom:=List (Str × (Nat × Nat) × List Str)
noncomputable abbrev Wom.mo (F:Wom):Mom:=F.map fun p=>(p.1,p.2.1)
noncomputable abbrev gd (F:Wom):List (Str × PV):=F.map fun p=>(p.1,.tup [fr p.2.1,.tup (sV p.2.2)])
noncomputable def f0 (s:Str)(t:Nat × Nat):Pm:=fun z=>if z=s then some (val t) else none
def Keys (T:List (Str × Ti))(s:Str)(F:Mom):Prop:=∀p∈F,p.1=s∨∃q∈T,q.2.b=p.1
def Pre (st s:AH):Prop:=∃g,s=st++g
noncomputable abbrev bS (e:PV)(ws:List Str)(d:Nat):PV:=.tup [e,.tup (sV ws),.ref d]
noncomputable abbrev cB:=aK
theorem gW {as st Q Q'}(h:∀v st,Q v st→Q' v st)(q:aK as st Q):aK as st Q':=gL h q
theorem iQ {as st Q}(q:aK as st Q):as.length=2:=iz q
def aT:FSp:=fun as st Q=>∃(m:Nat) (e:PV) (ws:List Str) (d:Nat) (T:List (Str × Ti)) (p:Str × Ti) (t:Nat × Nat),as=[bS e ws d,.str p.1,fr t]∧DkAt st d (td T)∧NetT T∧p∈T∧Cop t∧Sz m t∧m≤2600∧∀o:Option Fr2,(∀q,o=some q→Cop q.2∧Sz (m+252) q.2)→IsC (wt ws p.2) (p.2.X.map Rq.r) (val t) (o.map fun q=>val q.2)→Q (o2V o) st
theorem gE:Mo aT:=by walk_at "MO"
theorem ib:Ln aT 3:=by walk_at "LN"
noncomputable abbrev cfV (x:Str × (Nat × Nat) × Str):PV:=.tup [.str x.1,fr x.2.1,.str x.2.2]
noncomputable def srt (l:List Str):List Str:=Classical.epsilon fun ss=>ss.Perm l∧PyProof.Rows.sortedS ss=true
noncomputable def q8 (w:Bool)(X:List Rq)(t:Nat × Nat):Option (Nat × Nat):=Classical.epsilon fun o=>(∀p,o=some p→Cop p)∧IsC w (X.map Rq.r) (val t) (o.map val)
noncomputable def j0 (T:List (Str × Ti))(ws:List Str)(pl:Str)(t:Nat × Nat)(z:Str):Option (Str × (Nat × Nat) × Str):=(T.find? fun p=>decide (p.1=z)).bind fun p=>if p.2.a=pl then (q8 (wt ws p.2) p.2.X t).map fun c=>(p.2.b,c,p.1) else none
noncomputable def cfF (T:List (Str × Ti))(ws:List Str)(pl:Str)(t:Nat × Nat):List (Str × (Nat × Nat) × Str):=(srt (T.map (·.1))).filterMap (j0 T ws pl t)
structure Fa (T:List (Str × Ti))(ws:List Str)(m:Nat)(pl:Str)(t:Rat)(L:List (Str × (Nat × Nat) × Str)):Prop where
 src:∀x∈L,Cop x.2.1∧Sz m x.2.1∧Nm x.1∧Nm x.2.2∧∃p∈T,p.2.a=pl∧p.2.b=x.1∧IsC (wt ws p.2) (p.2.X.map Rq.r) t (some (val x.2.1))∧p.1=x.2.2
 all:∀p∈T,p.2.a=pl→∀y,IsC (wt ws p.2) (p.2.X.map Rq.r) t (some y)→∃x∈L,x.1=p.2.b∧val x.2.1=y
 ln:L.length≤30
def aZ:FSp:=fun as st Q=>∃(m:Nat) (e:PV) (ws:List Str) (d:Nat) (T:List (Str × Ti)) (pl:Str) (t:Nat × Nat),as=[bS e ws d,.str pl,fr t]∧DkAt st d (td T)∧NetT T∧Cop t∧Sz m t∧m≤2600∧∀n L s,Pre st s→s[n]?=some (.lst (L.map cfV))→Fa T ws (m+252) pl (val t) L→L=cfF T ws pl t→Q (.ref n) s
theorem im:Mo aZ:=by walk_at "MO"
theorem ja:Ln aZ 3:=by walk_at "LN"
noncomputable def cT {α:Type}(F:List (Str × α))(z:Str)(a:α):List (Str × α):=if z∈F.map (·.1) then F.map (fun p=>if p.1=z then (p.1,a) else p) else F++[(z,a)]
open Classical in
noncomputable def vt (w:List Str)(G:Wom)(x:Str × (Nat × Nat) × Str):Wom:=if ∀g∈G,g.1=x.1→val x.2.1<val g.2.1 then cT G x.1 (x.2.1,w++[x.2.2]) else G
noncomputable def otP (T:List (Str × Ti))(ws:List Str)(F G:Wom)(z:Str):Wom:=match F.find? fun p=>decide (p.1=z) with
 | none=>G
 | some p=>(cfF T ws z p.2.1).foldl (vt p.2.2) G
noncomputable def otF (T:List (Str × Ti))(ws:List Str)(F:Wom):Wom:=(srt (F.map (·.1))).foldl (otP T ws F) F
def Nw (T:List (Str × Ti))(ws:List Str)(F:Wom)(p:Str × (Nat × Nat) × List Str):Prop:=∃q∈T,q.2.b=p.1∧∃a∈F,a.1=q.2.a∧p.2.2=a.2.2++[q.1]∧IsC (wt ws q.2) (q.2.X.map Rq.r) (val a.2.1) (some (val p.2.1))∧∀y,Mv F.mo p.1=some y→val p.2.1<y
def om (T:List (Str × Ti))(ws:List Str)(F G:Wom):Prop:=∀p∈G,p∈F∨Nw T ws F p
def aP:FSp:=fun as st Q=>∃(m k:Nat) (e:PV) (ws:List Str) (d:Nat) (T:List (Str × Ti)) (sr:Str) (c:Nat) (F:Wom),as=[bS e ws d,.ref c]∧DkAt st d (td T)∧NetT T∧st[c]?=some (.dk (kd (gd F)))∧Fok m F.mo∧Keys T sr F.mo∧(∀p∈F,p.2.2.length≤k)∧k≤1000∧m≤2600∧∀n (G:Wom) s,Pre st s→st.length≤n→s[n]?=some (.dk (kd (gd G)))→Fok (m+252) G.mo→Keys T sr G.mo→(∀p∈G,p.2.2.length≤k+1)→Step T ws (Mv F.mo) (Mv G.mo)→om T ws F G→G=otF T ws F→Q (.ref n) s
theorem iD:Mo aP:=by walk_at "MO"
theorem jt:Ln aP 2:=by walk_at "LN"
structure LyOk (T:List (Str × Ti))(ws:List Str)(sr:Str)(t:Nat × Nat)(b:Nat)(s:AH)(ns:List Nat):Prop where
 up:ns.Pairwise (·< ·)
 ge:∀n∈ns,b≤n
 at_:∀i n,ns[i]?=some n→∃F,s[n]?=some (.dk (kd (fd F)))∧Fok 2800 F∧Keys T sr F∧Lay T ws (f0 sr t) i (Mv F)
noncomputable abbrev rfs (ns:List Nat):List PV:=ns.map PV.ref
def br:FSp:=fun as st Q=>∃(e:PV) (ws:List Str) (d:Nat) (T:List (Str × Ti)) (sr:Str) (t:Nat × Nat) (most:Nat),as=[bS e ws d,.str sr,fr t,.int most]∧st[d]?=some (.dk (kd (td T)))∧NetT T∧(∀q∈T,q.2.X.length≤100)∧Nm sr∧Cop t∧Sz 50 t∧most≤8∧∀c ns s,Pre st s→st.length≤c→s[c]?=some (.lst (rfs ns))→ns.length=most+1→LyOk T ws sr t st.length s ns→Q (.ref c) s
theorem jq:Mo br:=by walk_at "MO"
theorem kI:Ln br 4:=by walk_at "LN"
def dI:FSp:=fun as st Q=>∃(m:Nat) (q:Rq) (t:Nat × Nat),as=[rqV q,fr t]∧jv 50 q∧Cop t∧Sz m t∧m≤2600∧q.r.has (val t)∧∀p,Cop p→Sz (m+252) p→val p=q.r.to (val t)→Q (fr p) st
theorem pR:Mo dI:=by walk_at "MO"
theorem q9:Ln dI 2:=by walk_at "LN"
def Cm (w:Bool)(r:Rr)(t y:Rat):Prop:=(w=false∧r.has t∧y=r.to t)∨(w=true∧t≤r.L∧(y=r.to (if t<r.F then r.F else t)∨y=r.D))
def a9:FSp:=fun as st Q=>∃(m:Nat) (q:Rq) (w:Bool) (t:Nat × Nat),as=[rqV q,.bl w,fr t]∧jv 50 q∧Cop t∧Sz m t∧50≤m∧m≤2600∧∀n (L:List (Nat × Nat)) s,Pre st s→st.length≤n→s[n]?=some (.lst (L.map fr))→L.length≤2→(∀p∈L,Cop p∧Sz (m+252) p)→(∀y,(∃p∈L,val p=y)↔Cm w q.r (val t) y)→Q (.ref n) s
theorem iT:Mo a9:=by walk_at "MO"
theorem jr:Ln a9 3:=by walk_at "LN"
def bK:FSp:=fun as st Q=>∃(n:Nat) (L:List (Nat × Nat)),as=[.ref n]∧st[n]?=some (.lst (L.map fr))∧(∀p∈L,Cop p∧Sz 2900 p)∧∀o:Option (Nat × Nat),(o=none→L=[])→(∀p,o=some p→p∈L∧∀q∈L,val p≤val q)→Q (qK o) st
theorem kO:Mo bK:=by walk_at "MO"
theorem l5:Ln bK 1:=by walk_at "LN"
def bq:FSp:=fun as st Q=>∃(m:Nat) (e:PV) (ws:List Str) (d:Nat) (T:List (Str × Ti)) (p:Str × Ti) (t:Nat × Nat),as=[bS e ws d,.str p.1,fr t]∧DkAt st d (td T)∧NetT T∧p∈T∧p.2.X.length≤100∧Cop t∧Sz m t∧50≤m∧m≤2600∧∀(o:Option (Nat × Nat)) s,Pre st s→(∀q,o=some q→Cop q∧Sz (m+252) q)→IsC (wt ws p.2) (p.2.X.map Rq.r) (val t) (o.map val)→Q (qK o) s
theorem jE:Mo bq:=by walk_at "MO"
theorem kA:Ln bq 3:=by walk_at "LN"
def bo:FSp:=fun as st Q=>∃(p:Nat) (far bot:Int),as=[.ref p,.int far,.int bot]∧Pot st p∧0<far∧far≤10 ^ 10∧0<bot∧bot≤10 ^ 6∧∀t st',Cop t→Sz 50 t→Gr st p st'→Q (fr t) st'
theorem jo:Mo bo:=by walk_at "MO"
theorem kz:Ln bo 3:=by walk_at "LN"
def RNb (B:Nat)(v:PV):Prop:=∃f l c d:Nat,v=.tup [.int f,.int l,.int c,.int d]∧RideN f l c d∧c≤B∧d≤B
def aR:FSp:=fun as st Q=>∃(p:Nat) (far:Int),as=[.ref p,.int far]∧Pot st p∧0<far∧far≤10 ^ 8∧∀v st',RNb (10 ^ 11) v→Gr st p st'→Q v st'
theorem gD:Mo aR:=by walk_at "MO"
theorem gZ:Ln aR 2:=by walk_at "LN"
def aQ:FSp:=fun as st Q=>∃(p:Nat) (far many:Int),as=[.ref p,.int far,.int many]∧Pot st p∧0<far∧far≤10 ^ 8∧0≤many∧many≤3∧∀n L st',Gr st p st'→st.length≤n→st'[n]?=some (.lst L)→(∀v∈L,RNb (10 ^ 11) v)→L.length≤10→Q (.ref n) st'
theorem gF:Mo aQ:=by walk_at "MO"
theorem h_:Ln aQ 3:=by walk_at "LN"
def bM:FSp:=fun as st Q=>∃(p:Nat) (w:Bool) (far:Int),as=[.ref p,.bl w,.int far]∧Pot st p∧0<far∧far≤10 ^ 8∧∀n L st',Gr st p st'→st.length≤n→st'[n]?=some (.lst L)→(∀v∈L,RNb (10 ^ 11) v)→L.length≤10→Q (.ref n) st'
theorem kJ:Mo bM:=by walk_at "MO"
theorem lR:Ln bM 3:=by walk_at "LN"
def cY:FSp:=fun as st Q=>∃p:Nat,as=[.ref p]∧Pot st p∧∀st' e ws d T pl names far bot,Gr st p st'→st.length≤d→st.length≤pl→st'[d]?=some (.dk (kd (td T)))→NetT T→(∀q∈T,q.2.X.length≤100)→st'[pl]?=some (.lst (sV names))→0<names.length→names.length≤9→(∀z∈names,Nm z)→(∀q∈T,q.2.a∈names∧q.2.b∈names)→0<far→far≤10 ^ 10→0<bot→bot≤10 ^ 6→Q (.tup [bS e ws d,.ref pl,.int far,.int bot]) st'
theorem mO:Mo cY:=by walk_at "MO"
theorem oO:Ln cY 1:=by walk_at "LN"
noncomputable instance:Nonempty Pm:=⟨fun _=>none⟩
noncomputable def lyr (T:List (Str × Ti))(ws:List Str)(f:Pm):Nat→Pm
 | 0=>f
 | k+1=>Classical.epsilon fun g=>Step T ws (lyr T ws f k) g
inductive Wy (T:List (Str × Ti))(ws:List Str)(g:Nat→Pm)(s:Str)(t0:Rat):Nat→Str→Rat→List Str→List Str→Prop
 | nil:Wy T ws g s t0 0 s t0 [] [s]
 | snoc {k:Nat}{t:Rat}{w vs:List Str}{y:Rat}{q:Str × Ti}:Wy T ws g s t0 k q.2.a t w vs→q∈T→IsC (wt ws q.2) (q.2.X.map Rq.r) t (some y)→g (k+1) q.2.b=some y→(∀y',g k q.2.b=some y'→y<y')→Wy T ws g s t0 (k+1) q.2.b y (w++[q.1]) (vs++[q.2.b])
noncomputable def FF (T:List (Str × Ti))(ws:List Str)(sr:Str)(t:Nat × Nat):Nat→Wom
 | 0=>[(sr,t,[])]
 | k+1=>otF T ws (FF T ws sr t k)
def lE (F G:Wom):Prop:=∀p∈F,p∈G
def FwR (T:List (Str × Ti))(ws:List Str)(sr:Str)(t:Nat × Nat)(goal:Str)(o:Option (List Str)):Prop:=∃i,(∀j,j<i→¬lE (FF T ws sr t (j+1)) (FF T ws sr t j))∧lE (FF T ws sr t (i+1)) (FF T ws sr t i)∧o=((FF T ws sr t i).find? fun p=>decide (p.1=goal)).map fun p=>p.2.2
structure FwOk (T:List (Str × Ti))(ws:List Str)(sr:Str)(t:Nat × Nat)(goal:Str)(o:Option (List Str)):Prop where
 st:∀k,Step T ws (lyr T ws (f0 sr t) k) (lyr T ws (f0 sr t) (k+1))
 no:o=none→lyr T ws (f0 sr t) 8 goal=none
 wy:∀w,o=some w→w.length≤8∧∃y vs,lyr T ws (f0 sr t) 8 goal=some y∧Wy T ws (lyr T ws (f0 sr t)) sr (val t) w.length goal y w vs
noncomputable def wyV:Option (List Str)→PV
 | none=>.non
 | some w=>.tup (sV w)
def dE:FSp:=fun as st Q=>∃(e:PV) (ws:List Str) (d:Nat) (T:List (Str × Ti)) (sr goal:Str) (t:Nat × Nat) (names:List Str),as=[bS e ws d,.str sr,.str goal,fr t]∧DkAt st d (td T)∧NetT T∧Nm sr∧Cop t∧Sz 50 t∧names.length≤9∧(∀q∈T,q.2.a∈names∧q.2.b∈names)∧∀(o:Option (List Str)) s,Pre st s→FwR T ws sr t goal o→FwOk T ws sr t goal o→Q (wyV o) s
theorem qN:Mo dE:=by walk_at "MO"
theorem tU:Ln dE 4:=by walk_at "LN"
def bj:FSp:=fun as st Q=>∃(e:PV) (ws:List Str) (d:Nat) (T:List (Str × Ti)) (g:Nat→Pm) (sr goal:Str) (t:Nat × Nat) (w vs:List Str) (y:Rat),as=[bS e ws d,.tup (sV w),.str sr,fr t]∧DkAt st d (td T)∧NetT T∧(∀q∈T,q.2.X.length≤100)∧Cop t∧Sz 50 t∧w.length≤8∧Wy T ws g sr (val t) w.length goal y w vs∧∀c s,Pre st s→Cop c→Sz 2600 c→val c=y→Q (.tup [.str goal,fr c]) s
theorem jW:Mo bj:=by walk_at "MO"
theorem kw:Ln bj 4:=by walk_at "LN"
def bO:FSp:=fun as st Q=>∃(e:PV) (ws:List Str) (d:Nat) (T:List (Str × Ti)) (sr goal:Str) (t:Nat × Nat) (o:Option (List Str)),as=[bS e ws d,.str sr,.str goal,fr t,wyV o]∧st[d]?=some (.dk (kd (td T)))∧NetT T∧(∀q∈T,q.2.X.length≤100)∧Nm sr∧Nm goal∧Cop t∧Sz 50 t∧FwOk T ws sr t goal o∧∀s,Pre st s→Q (.bl true) s
theorem kE:Mo bO:=by walk_at "MO"
theorem mw:Ln bO 5:=by walk_at "LN"
noncomputable def Γ:Nat→FSp
 | 0=>aF
 | 1=>bU
 | 2=>aK
 | 3=>bY
 | 4=>bi
 | 5=>bJ
 | 6=>dM
 | 7=>fK
 | 8=>fL
 | 9=>ce
 | 10=>cg
 | 11=>dR
 | 12=>aT
 | 13=>aZ
 | 14=>aP
 | 15=>dE
 | 16=>cZ
 | 17=>bN
 | 18=>cX
 | 19=>cB
 | 20=>ci
 | 21=>aR
 | 22=>aQ
 | 23=>bM
 | 24=>cY
 | 25=>bo
 | 26=>dI
 | 27=>a9
 | 28=>bK
 | 29=>bq
 | 30=>br
 | 31=>bj
 | 32=>bO
 | 33=>gM
 | _=>fun _ _ _=>False
theorem Γ_0:Γ 0=aF:=id rfl
theorem Γ_1:Γ 1=bU:=id rfl
theorem Γ_2:Γ 2=aK:=id rfl
theorem Γ_3:Γ 3=bY:=id rfl
theorem Γ_4:Γ 4=bi:=id rfl
theorem Γ_5:Γ 5=bJ:=id rfl
theorem Γ_6:Γ 6=dM:=id rfl
theorem Γ_7:Γ 7=fK:=id rfl
theorem Γ_8:Γ 8=fL:=id rfl
theorem Γ_9:Γ 9=ce:=id rfl
theorem B_:Γ 10=cg:=id rfl
theorem Dr:Γ 11=dR:=id rfl
theorem Dw:Γ 12=aT:=id rfl
theorem BL:Γ 13=aZ:=id rfl
theorem DG:Γ 14=aP:=id rfl
theorem BT:Γ 15=dE:=id rfl
theorem CM:Γ 16=cZ:=id rfl
theorem CD:Γ 17=bN:=id rfl
theorem C1:Γ 18=cX:=id rfl
theorem BP:Γ 19=cB:=id rfl
theorem CN:Γ 20=ci:=id rfl
theorem CK:Γ 21=aR:=id rfl
theorem B8:Γ 22=aQ:=id rfl
theorem B7:Γ 23=bM:=id rfl
theorem DO:Γ 24=cY:=id rfl
theorem B9:Γ 25=bo:=id rfl
theorem BI:Γ 26=dI:=id rfl
theorem Dh:Γ 27=a9:=id rfl
theorem Ck:Γ 28=bK:=id rfl
theorem C0:Γ 29=bq:=id rfl
theorem Ca:Γ 30=br:=id rfl
theorem CC:Γ 31=bj:=id rfl
theorem Cu:Γ 32=bO:=id rfl
theorem CT:Γ 33=gM:=id rfl
theorem Γm:aW Γ:=by
 intro f vs st Q Q' h q
 match f,q with
 | 0,q=>exact gC (st:=st) h q
 | 1,q=>exact na (st:=st) h q
 | 2,q=>exact gL (st:=st) h q
 | 3,q=>exact k_ (st:=st) h q
 | 4,q=>exact i_ (st:=st) h q
 | 5,q=>exact kF (st:=st) h q
 | 6,q=>exact pQ (st:=st) h q
 | 7,q=>exact sX (st:=st) h q
 | 8,q=>exact tG (st:=st) h q
 | 9,q=>exact l' (st:=st) h q
 | 10,q=>exact lf (st:=st) h q
 | 11,q=>exact oM (st:=st) h q
 | 12,q=>exact gE (st:=st) h q
 | 13,q=>exact im (st:=st) h q
 | 14,q=>exact iD (st:=st) h q
 | 15,q=>exact qN (st:=st) h q
 | 16,q=>exact mI (st:=st) h q
 | 17,q=>exact kQ (st:=st) h q
 | 18,q=>exact ng (st:=st) h q
 | 19,q=>exact gW (st:=st) h q
 | 20,q=>exact mF (st:=st) h q
 | 21,q=>exact gD (st:=st) h q
 | 22,q=>exact gF (st:=st) h q
 | 23,q=>exact kJ (st:=st) h q
 | 24,q=>exact mO (st:=st) h q
 | 25,q=>exact jo (st:=st) h q
 | 26,q=>exact pR (st:=st) h q
 | 27,q=>exact iT (st:=st) h q
 | 28,q=>exact kO (st:=st) h q
 | 29,q=>exact jE (st:=st) h q
 | 30,q=>exact jq (st:=st) h q
 | 31,q=>exact jW (st:=st) h q
 | 32,q=>exact kE (st:=st) h q
 | 33,q=>exact yr (st:=st) h q
 | _+34,q=>exact q.elim
noncomputable def Fo:List Str:=((["common_divisor","fraction","is_below","crosswise","on_straight","has_moment","come_by","offer","falls","best_from","is_better","set_out","out_and_coming","comings_from","one_tie_more","fewest","_law_pot","_law_digit","_law_low","_law_is_below","_law_name","_law_free_ride","_law_row_rides","_law_rides","_law_net","_law_moment","_law_on","_law_comings","_law_least","_law_coming"]:List Str)++(["_law_layers","_law_ridden","_law_right","law"]:List Str))
noncomputable def Dq:List Str:=["sorted","dict","int","len","divmod","range","max","tuple","isinstance","str","min","list"]
noncomputable def glL:List (Str × PV):=[]
noncomputable def mkc (N:List Str)(s:Stmt)(k:Nat):Cfg:={ N:=N,names:=(ab s).names,fns:=Fo,lim:=k,blts:=Dq,gl:=glL }
local macro_rules | `(tactic| walk_at "SC")=>`(tactic| exact ⟨rfl,rfl,rfl,by decide +kernel,rfl,by decide +kernel,by decide +kernel⟩)
noncomputable abbrev bx:Stmt:=top 1
theorem iH:ah ["n","d"] ["n","d"] (ab bx):=by walk_at "SC"
noncomputable def e6:Cfg:=mkc ["n","d"] bx 0
noncomputable def bF:Ss:=(.cons (.whileS (.cmp .NotEq (.var 1) (.int 0)) (.cons (.par 0 1 (.var 1) (.bin .Mod (.var 0) (.var 1))) .nil)) (.cons (.ret (.var 0)) .nil))
theorem js:aw e6 bF (ae bx)=true:=by decide +kernel
noncomputable abbrev fw:Stmt:=top 2
theorem re:ah ["n","d","divisor"] ["n","d"] (ab fw):=by walk_at "SC"
noncomputable def lN:Cfg:=mkc ["n","d","divisor"] fw 1
noncomputable def eI:Ss:=(.cons (.set (.name 2) (.call 0 (.cons (.var 0) (.cons (.var 1) .nil)))) (.cons (.ret (.tup (.cons (.bin .FloorDiv (.var 0) (.var 2)) (.cons (.bin .FloorDiv (.var 1) (.var 2)) .nil)))) .nil))
theorem uf:aw lN eI (ae fw)=true:=by decide +kernel
noncomputable abbrev fg:Stmt:=top 3
theorem ql:ah ["one","other"] ["one","other"] (ab fg):=by walk_at "SC"
noncomputable def lr:Cfg:=mkc ["one","other"] fg 2
noncomputable def eF:Ss:=(.cons (.ret (.cmp .Lt (.bin .Mult (.ix (.var 0) (.int 0)) (.ix (.var 1) (.int 1))) (.bin .Mult (.ix (.var 1) (.int 0)) (.ix (.var 0) (.int 1))))) .nil)
theorem uj:aw lr eF (ae fg)=true:=by decide +kernel
noncomputable abbrev d_:Stmt:=top 5
theorem o_:ah ["one","other"] ["one","other"] (ab d_):=by walk_at "SC"
noncomputable def kj:Cfg:=mkc ["one","other"] d_ 3
noncomputable def dP:Ss:=(.cons (.ret (.bin .Sub (.bin .Mult (.ix (.var 0) (.int 0)) (.ix (.var 1) (.int 1))) (.bin .Mult (.ix (.var 1) (.int 0)) (.ix (.var 0) (.int 1))))) .nil)
theorem qO:aw kj dP (ae d_)=true:=by decide +kernel
noncomputable abbrev cN:Stmt:=top 6
theorem md:ah ["near","far","x","near_x","near_y","far_x","far_y","done","left","above"] ["near","far","x"] (ab cN):=by walk_at "SC"
noncomputable def gQ:Cfg:=mkc ["near","far","x","near_x","near_y","far_x","far_y","done","left","above"] cN 4
noncomputable def cH:Ss:=(.cons (.set (.tup (.cons (.tup (.cons (.name 3) (.cons (.name 4) .nil))) (.cons (.tup (.cons (.name 5) (.cons (.name 6) .nil))) .nil))) (.tup (.cons (.var 0) (.cons (.var 1) .nil)))) (.cons (.set (.name 7) (.bin .Mult (.call 3 (.cons (.var 2) (.cons (.var 3) .nil))) (.ix (.var 5) (.int 1)))) (.cons (.set (.name 8) (.bin .Mult (.call 3 (.cons (.var 5) (.cons (.var 2) .nil))) (.ix (.var 3) (.int 1)))) (.cons (.set (.name 9) (.bin .Add (.bin .Mult (.bin .Mult (.ix (.var 4) (.int 0)) (.ix (.var 6) (.int 1))) (.var 8)) (.bin .Mult (.bin .Mult (.ix (.var 6) (.int 0)) (.ix (.var 4) (.int 1))) (.var 7)))) (.cons (.ret (.call 1 (.cons (.var 9) (.cons (.bin .Mult (.bin .Mult (.ix (.var 4) (.int 1)) (.ix (.var 6) (.int 1))) (.bin .Add (.var 8) (.var 7))) .nil)))) .nil)))))
theorem mZ:aw gQ cH (ae cN)=true:=by decide +kernel
noncomputable abbrev dA:Stmt:=top 8
theorem nk:ah ["ride","t"] ["ride","t"] (ab dA):=by walk_at "SC"
noncomputable def iq:Cfg:=mkc ["ride","t"] dA 5
noncomputable def de:Ss:=(.cons (.ret (.bop true (.cons (.not (.call 2 (.cons (.var 1) (.cons (.ix (.var 0) (.int 0)) .nil)))) (.cons (.not (.call 2 (.cons (.ix (.var 0) (.int 1)) (.cons (.var 1) .nil)))) .nil)))) .nil)
theorem o7:aw iq de (ae dA)=true:=by decide +kernel
noncomputable abbrev gc:Stmt:=top 9
theorem tY:ah ["ride","t","first","last","come","comes"] ["ride","t"] (ab gc):=by walk_at "SC"
noncomputable def nS:Cfg:=mkc ["ride","t","first","last","come","comes"] gc 6
noncomputable def fq:Ss:=(.cons (.set (.tup (.cons (.name 2) (.cons (.name 3) (.cons (.name 4) (.cons (.name 5) .nil))))) (.var 0)) (.cons (.ifS (.cmp .Eq (.var 2) (.var 3)) (.cons (.ret (.var 4)) .nil) .nil) (.cons (.ret (.call 4 (.cons (.tup (.cons (.var 2) (.cons (.var 4) .nil))) (.cons (.tup (.cons (.var 3) (.cons (.var 5) .nil))) (.cons (.var 1) .nil))))) .nil)))
theorem vO:aw nS fq (ae gc)=true:=by decide +kernel
noncomputable abbrev k9:Stmt:=top 10
theorem w4:ah ["rides","t","least","ride","come"] ["rides","t"] (ab k9):=by walk_at "SC"
noncomputable def uP:Cfg:=mkc ["rides","t","least","ride","come"] k9 7
noncomputable def hJ:Ss:=(.cons (.set (.name 2) .non) (.cons (.forS (.name 3) (.seq (.var 0)) (.cons (.ifS (.call 5 (.cons (.var 3) (.cons (.var 1) .nil))) (.cons (.set (.name 4) (.call 6 (.cons (.var 3) (.cons (.var 1) .nil)))) (.cons (.ifS (.bop false (.cons (.cmp .Is (.var 2) .non) (.cons (.call 2 (.cons (.var 4) (.cons (.var 2) .nil))) .nil))) (.cons (.set (.name 2) (.var 4)) .nil) .nil) .nil)) .nil) .nil)) (.cons (.ret (.var 2)) .nil)))
theorem AB:aw uP hJ (ae k9)=true:=by decide +kernel
noncomputable abbrev k7:Stmt:=top 11
theorem yg:ah ["ride"] ["ride"] (ab k7):=by walk_at "SC"
noncomputable def vc:Cfg:=mkc ["ride"] k7 8
noncomputable def gY:Ss:=(.cons (.ret (.call 2 (.cons (.ix (.var 0) (.int 3)) (.cons (.ix (.var 0) (.int 2)) .nil)))) .nil)
theorem AQ:aw vc gY (ae k7)=true:=by decide +kernel
noncomputable abbrev eA:Stmt:=top 12
theorem oH:ah ["ride","t","out"] ["ride","t"] (ab eA):=by walk_at "SC"
noncomputable def kr:Cfg:=mkc ["ride","t","out"] eA 9
noncomputable def dL:Ss:=(.cons (.ifS (.call 8 (.cons (.var 0) .nil)) (.cons (.ret (.tup (.cons (.ix (.var 0) (.int 1)) (.cons (.ix (.var 0) (.int 3)) .nil)))) .nil) .nil) (.cons (.set (.name 2) (.ite (.call 2 (.cons (.ix (.var 0) (.int 0)) (.cons (.var 1) .nil))) (.var 1) (.ix (.var 0) (.int 0)))) (.cons (.ret (.tup (.cons (.var 2) (.cons (.call 6 (.cons (.var 0) (.cons (.var 2) .nil))) .nil)))) .nil)))
theorem rN:aw kr dL (ae eA)=true:=by decide +kernel
noncomputable abbrev eh:Stmt:=top 13
theorem qc:ah ["pair","best"] ["pair","best"] (ab eh):=by walk_at "SC"
noncomputable def kq:Cfg:=mkc ["pair","best"] eh 10
noncomputable def dX:Ss:=(.cons (.ifS (.cmp .Eq (.ix (.var 0) (.int 1)) (.ix (.var 1) (.int 1))) (.cons (.ret (.call 2 (.cons (.ix (.var 0) (.int 0)) (.cons (.ix (.var 1) (.int 0)) .nil)))) .nil) .nil) (.cons (.ret (.call 2 (.cons (.ix (.var 0) (.int 1)) (.cons (.ix (.var 1) (.int 1)) .nil)))) .nil))
theorem qv:aw kq dX (ae eh)=true:=by decide +kernel
noncomputable abbrev ga:Stmt:=top 14
theorem sC:ah ["rides","wait","t","come","best","ride","pair"] ["rides","wait","t"] (ab ga):=by walk_at "SC"
noncomputable def n_:Cfg:=mkc ["rides","wait","t","come","best","ride","pair"] ga 11
noncomputable def fu:Ss:=(.cons (.ifS (.not (.var 1)) (.cons (.set (.name 3) (.call 7 (.cons (.var 0) (.cons (.var 2) .nil)))) (.cons (.ret (.ite (.cmp .Is (.var 3) .non) .non (.tup (.cons (.var 2) (.cons (.var 3) .nil))))) .nil)) .nil) (.cons (.set (.name 4) .non) (.cons (.forS (.name 5) (.seq (.var 0)) (.cons (.ifS (.not (.call 2 (.cons (.ix (.var 5) (.int 1)) (.cons (.var 2) .nil)))) (.cons (.set (.name 6) (.call 9 (.cons (.var 5) (.cons (.var 2) .nil)))) (.cons (.ifS (.bop false (.cons (.cmp .Is (.var 4) .non) (.cons (.call 10 (.cons (.var 6) (.cons (.var 4) .nil))) .nil))) (.cons (.set (.name 4) (.var 6)) .nil) .nil) .nil)) .nil) .nil)) (.cons (.ret (.var 4)) .nil))))
theorem vS:aw n_ fu (ae ga)=true:=by decide +kernel
noncomputable abbrev bu:Stmt:=top 16
theorem iK:ah ["net","name","moment","end","waits","ties","a","b","rides"] ["net","name","moment"] (ab bu):=by walk_at "SC"
noncomputable def eO:Cfg:=mkc ["net","name","moment","end","waits","ties","a","b","rides"] bu 12
noncomputable def bG:Ss:=(.cons (.set (.tup (.cons (.name 3) (.cons (.name 4) (.cons (.name 5) .nil)))) (.var 0)) (.cons (.set (.tup (.cons (.name 6) (.cons (.name 7) (.cons (.name 8) .nil)))) (.ix (.var 5) (.var 1))) (.cons (.ret (.call 11 (.cons (.var 8) (.cons (.cmp .In (.var 6) (.var 4)) (.cons (.var 2) .nil))))) .nil)))
theorem jG:aw eO bG (ae bu)=true:=by decide +kernel
noncomputable abbrev cu:Stmt:=top 17
theorem ky:ah ["net","place","moment","end","waits","ties","told","name","pair"] ["net","place","moment"] (ab cu):=by walk_at "SC"
noncomputable def fV:Cfg:=mkc ["net","place","moment","end","waits","ties","told","name","pair"] cu 13
noncomputable def cb:Ss:=(.cons (.set (.tup (.cons (.name 3) (.cons (.name 4) (.cons (.name 5) .nil)))) (.var 0)) (.cons (.set (.name 6) (.lst .nil)) (.cons (.forS (.name 7) (.seq (.blt .sortD (.cons (.var 5) .nil))) (.cons (.ifS (.cmp .Eq (.ix (.ix (.var 5) (.var 7)) (.int 0)) (.var 1)) (.cons (.set (.name 8) (.call 12 (.cons (.var 0) (.cons (.var 7) (.cons (.var 2) .nil))))) (.cons (.ifS (.cmp .IsNot (.var 8) .non) (.cons (.expr (.met .append (.var 6) (.cons (.tup (.cons (.ix (.ix (.var 5) (.var 7)) (.int 1)) (.cons (.ix (.var 8) (.int 1)) (.cons (.var 7) .nil)))) .nil))) .nil) .nil) .nil)) .nil) .nil)) (.cons (.ret (.var 6)) .nil))))
theorem lU:aw fV cb (ae cu)=true:=by decide +kernel
noncomputable abbrev ca:Stmt:=top 19
theorem kC:ah ["net","found","more","place","moment","way","other","come","name"] ["net","found"] (ab ca):=by walk_at "SC"
noncomputable def fJ:Cfg:=mkc ["net","found","more","place","moment","way","other","come","name"] ca 14
noncomputable def ck:Ss:=(.cons (.set (.name 2) (.dcp (.var 1))) (.cons (.forS (.name 3) (.seq (.blt .sortD (.cons (.var 1) .nil))) (.cons (.set (.tup (.cons (.name 4) (.cons (.name 5) .nil))) (.ix (.var 1) (.var 3))) (.cons (.forS (.tup (.cons (.name 6) (.cons (.name 7) (.cons (.name 8) .nil)))) (.seq (.call 13 (.cons (.var 0) (.cons (.var 3) (.cons (.var 4) .nil))))) (.cons (.ifS (.bop false (.cons (.cmp .NotIn (.var 6) (.var 2)) (.cons (.call 2 (.cons (.var 7) (.cons (.ix (.ix (.var 2) (.var 6)) (.int 0)) .nil))) .nil))) (.cons (.set (.sub (.var 2) (.var 6)) (.tup (.cons (.var 7) (.cons (.bin .Add (.var 5) (.tup (.cons (.var 8) .nil))) .nil)))) .nil) .nil) .nil)) .nil))) (.cons (.ret (.var 2)) .nil)))
theorem lY:aw fJ ck (ae ca)=true:=by decide +kernel
noncomputable abbrev iy:Stmt:=top 20
theorem vo:ah ["net","start","goal","moment","found","more"] ["net","start","goal","moment"] (ab iy):=by walk_at "SC"
noncomputable def qy:Cfg:=mkc ["net","start","goal","moment","found","more"] iy 15
noncomputable def fN:Ss:=(.cons (.set (.name 4) .dct0) (.cons (.set (.name 5) (.dct2 (.var 1) (.tup (.cons (.var 3) (.cons (.tup .nil) .nil))))) (.cons (.whileS (.eqd true (.var 5) (.var 4)) (.cons (.set (.name 4) (.var 5)) (.cons (.set (.name 5) (.call 14 (.cons (.var 0) (.cons (.var 4) .nil)))) .nil))) (.cons (.ret (.ite (.cmp .In (.var 2) (.var 4)) (.ix (.ix (.var 4) (.var 2)) (.int 1)) .non)) .nil))))
theorem wA:aw qy fN (ae iy)=true:=by decide +kernel
noncomputable abbrev fv:Stmt:=top 22
theorem qq:ah ["_law_script","_law_k","_law_state","_law_cell","_law_own"] ["_law_script","_law_k"] (ab fv):=by walk_at "SC"
noncomputable def lB:Cfg:=mkc ["_law_script","_law_k","_law_state","_law_cell","_law_own"] fv 16
noncomputable def eJ:Ss:=(.cons (.set (.name 2) (.bin .Add (.int 3) (.bin .Mult (.int 1013) (.var 1)))) (.cons (.forS (.name 3) (.seq (.sl (.var 0) .no (.yes (.int 63)))) (.cons (.set (.name 2) (.bin .Mod (.bin .Add (.bin .Mult (.var 2) (.int 48271)) (.var 3)) (.int 2147483629))) .nil)) (.cons (.set (.name 4) (.ite (.cmp .Lt (.var 1) (.blt .len (.cons (.var 0) .nil))) (.ix (.var 0) (.var 1)) (.int 0))) (.cons (.ret (.lst (.cons (.bin .Mult (.var 4) (.blt .int1 (.cons (.cmp .GtE (.var 4) (.bin .Pow (.int 10) (.int 18))) .nil))) (.cons (.var 2) .nil)))) .nil))))
theorem tJ:aw lB eJ (ae fv)=true:=by decide +kernel
noncomputable abbrev dq:Stmt:=top 23
theorem m5:ah ["_law_pot_here","_law_many","_law_digit_here"] ["_law_pot_here","_law_many"] (ab dq):=by walk_at "SC"
noncomputable def iN:Cfg:=mkc ["_law_pot_here","_law_many","_law_digit_here"] dq 17
noncomputable def dh:Ss:=(.cons (.ifS (.cmp .Gt (.ix (.var 0) (.int 0)) (.int 0)) (.cons (.set (.tup (.cons (.sub (.var 0) (.int 0)) (.cons (.name 2) .nil))) (.blt .divmod (.cons (.ix (.var 0) (.int 0)) (.cons (.var 1) .nil)))) (.cons (.ret (.var 2)) .nil)) .nil) (.cons (.set (.sub (.var 0) (.int 1)) (.bin .Mod (.bin .Add (.bin .Mult (.ix (.var 0) (.int 1)) (.int 39373)) (.int 7001)) (.int 2147483629))) (.cons (.ret (.bin .Mod (.bin .FloorDiv (.bin .Mult (.ix (.var 0) (.int 1)) (.ix (.var 0) (.int 1))) (.int 11)) (.var 1))) .nil)))
theorem p9:aw iN dh (ae dq)=true:=by decide +kernel
noncomputable abbrev fj:Stmt:=top 24
theorem rK:ah ["_law_top","_law_bottom","_law_one","_law_other"] ["_law_top","_law_bottom"] (ab fj):=by walk_at "SC"
noncomputable def mq:Cfg:=mkc ["_law_top","_law_bottom","_law_one","_law_other"] fj 18
noncomputable def eE:Ss:=(.cons (.par 2 3 (.var 0) (.var 1)) (.cons (.whileS (.cmp .Gt (.var 3) (.int 0)) (.cons (.par 2 3 (.var 3) (.bin .Mod (.var 2) (.var 3))) .nil)) (.cons (.ret (.tup (.cons (.bin .FloorDiv (.var 0) (.var 2)) (.cons (.bin .FloorDiv (.var 1) (.var 2)) .nil)))) .nil)))
theorem sJ:aw mq eE (ae fj)=true:=by decide +kernel
noncomputable abbrev bP:Stmt:=top 25
theorem jP:ah ["_law_one","_law_other"] ["_law_one","_law_other"] (ab bP):=by walk_at "SC"
noncomputable def fF:Cfg:=mkc ["_law_one","_law_other"] bP 19
noncomputable def bR:Ss:=(.cons (.ret (.cmp .Lt (.bin .Mult (.ix (.var 0) (.int 0)) (.ix (.var 1) (.int 1))) (.bin .Mult (.ix (.var 1) (.int 0)) (.ix (.var 0) (.int 1))))) .nil)
theorem kK:aw fF bR (ae bP)=true:=by decide +kernel
noncomputable abbrev eB:Stmt:=top 26
theorem oF:ah ["_law_pot_here","_law_taken","_law_name_here","_law_k","_law_some"] ["_law_pot_here","_law_taken"] (ab eB):=by walk_at "SC"
noncomputable def jY:Cfg:=mkc ["_law_pot_here","_law_taken","_law_name_here","_law_k","_law_some"] eB 20
noncomputable def dQ:Ss:=(.cons (.set (.name 2) (.str "")) (.cons (.forS (.name 3) (.range1 (.bin .Add (.int 1) (.call 17 (.cons (.var 0) (.cons (.tmp (.ix (.lst (.cons (.int 2) (.cons (.int 8) .nil))) (.call 17 (.cons (.var 0) (.cons (.int 2) .nil))))) .nil))))) (.cons (.set (.name 2) (.bin .Add (.var 2) (.ix (.str "abcdefghijklmnopqrstuvwxyz") (.call 17 (.cons (.var 0) (.cons (.int 26) .nil)))))) .nil)) (.cons (.ifS (.cmp .In (.var 2) (.var 1)) (.cons (.set (.name 4) (.comp (.bin .Add (.sl (.var 1) .no (.yes (.int 7))) (.var 0)) (.name 0) (.chars (.str "abcdefghijklmnopqrstuvwxyz")) .nil ["_law_letter"] [2])) (.cons (.set (.name 2) (.tmp (.ix (.comp (.var 0) (.name 0) (.seq (.var 4)) (.cons (.cmp .NotIn (.var 0) (.var 1)) .nil) ["_law_one"] [1]) (.int 0)))) .nil)) .nil) (.cons (.expr (.met .append (.var 1) (.cons (.var 2) .nil))) (.cons (.ret (.var 2)) .nil)))))
theorem qf:aw jY dQ (ae eB)=true:=by decide +kernel
noncomputable abbrev bB:Stmt:=top 27
theorem i6:ah ["_law_pot_here","_law_far","_law_first","_law_long","_law_come"] ["_law_pot_here","_law_far"] (ab bB):=by walk_at "SC"
noncomputable def e7:Cfg:=mkc ["_law_pot_here","_law_far","_law_first","_law_long","_law_come"] bB 21
noncomputable def bI:Ss:=(.cons (.set (.name 2) (.call 17 (.cons (.var 0) (.cons (.var 1) .nil)))) (.cons (.set (.name 3) (.bin .Mult (.call 17 (.cons (.var 0) (.cons (.var 1) .nil))) (.blt .int1 (.cons (.cmp .Gt (.call 17 (.cons (.var 0) (.cons (.int 3) .nil))) (.int 0)) .nil)))) (.cons (.set (.name 4) (.bin .Add (.var 2) (.call 17 (.cons (.var 0) (.cons (.var 1) .nil))))) (.cons (.ifS (.cmp .Eq (.var 3) (.int 0)) (.cons (.ret (.tup (.cons (.var 2) (.cons (.var 2) (.cons (.var 4) (.cons (.var 4) .nil)))))) .nil) .nil) (.cons (.ret (.tup (.cons (.var 2) (.cons (.bin .Add (.var 2) (.var 3)) (.cons (.var 4) (.cons (.bin .Add (.bin .Add (.var 2) (.var 3)) (.call 17 (.cons (.var 0) (.cons (.var 1) .nil)))) .nil)))))) .nil)))))
theorem jA:aw e7 bI (ae bB)=true:=by decide +kernel
noncomputable abbrev bw:Stmt:=top 28
theorem iS:ah ["_law_pot_here","_law_far","_law_many","_law_begin","_law_ahead","_law_rides_here","_law_low_here","_law_end"] ["_law_pot_here","_law_far","_law_many"] (ab bw):=by walk_at "SC"
noncomputable def eP:Cfg:=mkc ["_law_pot_here","_law_far","_law_many","_law_begin","_law_ahead","_law_rides_here","_law_low_here","_law_end"] bw 22
noncomputable def bH:Ss:=(.cons (.set (.tup (.cons (.name 3) (.cons (.name 4) .nil))) (.tup (.cons (.int 0) (.cons (.int 0) .nil)))) (.cons (.set (.name 5) (.lst .nil)) (.cons (.ifS (.bop true (.cons (.cmp .Gt (.var 2) (.int 1)) (.cons (.cmp .Eq (.call 17 (.cons (.var 0) (.cons (.int 4) .nil))) (.int 0)) .nil))) (.cons (.set (.name 4) (.call 17 (.cons (.var 0) (.cons (.var 1) .nil)))) (.cons (.expr (.met .append (.var 5) (.cons (.tup (.cons (.int 0) (.cons (.int 0) (.cons (.var 4) (.cons (.var 4) .nil))))) .nil))) .nil)) .nil) (.cons (.whileS (.cmp .Lt (.blt .len (.cons (.var 5) .nil)) (.var 2)) (.cons (.set (.name 6) (.bin .Add (.blt .max2 (.cons (.var 4) (.cons (.var 3) .nil))) (.bin .Mult (.call 17 (.cons (.var 0) (.cons (.var 1) .nil))) (.blt .int1 (.cons (.cmp .Eq (.call 17 (.cons (.var 0) (.cons (.int 2) .nil))) (.int 1)) .nil))))) (.cons (.set (.name 7) (.bin .Add (.bin .Add (.var 3) (.int 1)) (.call 17 (.cons (.var 0) (.cons (.var 1) .nil))))) (.cons (.set (.name 4) (.bin .Add (.blt .max2 (.cons (.var 6) (.cons (.var 7) .nil))) (.bin .Mult (.call 17 (.cons (.var 0) (.cons (.var 1) .nil))) (.blt .int1 (.cons (.cmp .Gt (.call 17 (.cons (.var 0) (.cons (.int 3) .nil))) (.int 0)) .nil))))) (.cons (.expr (.met .append (.var 5) (.cons (.tup (.cons (.var 3) (.cons (.var 7) (.cons (.var 6) (.cons (.var 4) .nil))))) .nil))) (.cons (.set (.name 3) (.var 7)) .nil)))))) (.cons (.ret (.var 5)) .nil)))))
theorem jm:aw eP bH (ae bw)=true:=by decide +kernel
noncomputable abbrev dB:Stmt:=top 29
theorem mQ:ah ["_law_pot_here","_law_wait","_law_far","_law_many"] ["_law_pot_here","_law_wait","_law_far"] (ab dB):=by walk_at "SC"
noncomputable def iA:Cfg:=mkc ["_law_pot_here","_law_wait","_law_far","_law_many"] dB 23
noncomputable def db:Ss:=(.cons (.set (.name 3) (.call 17 (.cons (.var 0) (.cons (.int 4) .nil)))) (.cons (.ifS (.not (.var 1)) (.cons (.ret (.call 22 (.cons (.var 0) (.cons (.var 2) (.cons (.var 3) .nil))))) .nil) .nil) (.cons (.ret (.comp (.call 21 (.cons (.var 1) (.cons (.var 2) .nil))) (.name 0) (.range1 (.var 3)) .nil ["_law_k"] [0,2])) .nil)))
theorem p7:aw iA db (ae dB)=true:=by decide +kernel
noncomputable abbrev fk:Stmt:=top 30
theorem qS:ah ["_law_pot_here","_law_far","_law_bottom","_law_chain","_law_taken","_law_many","_law_places","_law_waits","_law_named","_law_ties","_law_most","_law_k","_law_a","_law_b","_law_later","_law_units","_law_rides_here","_law_ride","_law_end"] ["_law_pot_here"] (ab fk):=by walk_at "SC"
noncomputable def lh:Cfg:=mkc ["_law_pot_here","_law_far","_law_bottom","_law_chain","_law_taken","_law_many","_law_places","_law_waits","_law_named","_law_ties","_law_most","_law_k","_law_a","_law_b","_law_later","_law_units","_law_rides_here","_law_ride","_law_end"] fk 24
noncomputable def eK:Ss:=(.cons (.set (.name 1) (.tmp (.ix (.lst (.cons (.int 4) (.cons (.int 12) (.cons (.bin .Pow (.int 10) (.int 4)) (.cons (.bin .Pow (.int 10) (.int 8)) .nil))))) (.call 17 (.cons (.var 0) (.cons (.int 4) .nil)))))) (.cons (.set (.name 2) (.tmp (.ix (.lst (.cons (.int 1) (.cons (.bin .Add (.int 1) (.call 17 (.cons (.var 0) (.cons (.int 12) .nil)))) (.cons (.bin .Add (.int 1) (.call 17 (.cons (.var 0) (.cons (.bin .Pow (.int 10) (.int 6)) .nil)))) .nil)))) (.call 17 (.cons (.var 0) (.cons (.int 3) .nil)))))) (.cons (.set (.name 3) (.tmp (.ix (.lst (.cons (.int 0) (.cons (.bin .Add (.int 4) (.call 17 (.cons (.var 0) (.cons (.int 4) .nil)))) .nil))) (.blt .int1 (.cons (.cmp .Eq (.call 17 (.cons (.var 0) (.cons (.int 8) .nil))) (.int 7)) .nil))))) (.cons (.set (.name 4) (.lst .nil)) (.cons (.set (.name 5) (.ite (.cmp .Gt (.var 3) (.int 0)) (.bin .Add (.var 3) (.int 1)) (.bin .Add (.int 2) (.call 17 (.cons (.var 0) (.cons (.int 3) .nil)))))) (.cons (.set (.name 6) (.comp (.call 20 (.cons (.var 1) (.cons (.var 2) .nil))) (.name 0) (.range1 (.var 5)) .nil ["_law_k"] [0,4])) (.cons (.set (.name 7) (.blt .tuple1 (.cons (.blt .sortS (.cons (.comp (.var 0) (.name 0) (.seq (.var 6)) (.cons (.bop false (.cons (.cmp .Gt (.var 2) (.int 0)) (.cons (.cmp .Eq (.call 17 (.cons (.var 1) (.cons (.int 2) .nil))) (.int 1)) .nil))) .nil) ["_law_place"] [0,3]) .nil)) .nil))) (.cons (.set (.name 8) (.lst .nil)) (.cons (.set (.name 9) .dct0) (.cons (.set (.name 10) (.int 0)) (.cons (.forS (.name 11) (.range1 (.bin .Add (.var 3) (.call 17 (.cons (.var 0) (.cons (.ite (.cmp .Gt (.var 3) (.int 0)) (.int 4) (.int 7)) .nil))))) (.cons (.set (.name 12) (.call 17 (.cons (.var 0) (.cons (.blt .len (.cons (.var 6) .nil)) .nil)))) (.cons (.set (.name 13) (.bin .Mod (.bin .Add (.bin .Add (.var 12) (.int 1)) (.call 17 (.cons (.var 0) (.cons (.bin .Sub (.blt .len (.cons (.var 6) .nil)) (.int 1)) .nil)))) (.blt .len (.cons (.var 6) .nil)))) (.cons (.set (.name 14) (.int 0)) (.cons (.set (.name 15) (.lst .nil)) (.cons (.ifS (.cmp .Lt (.var 11) (.var 3)) (.cons (.par 12 13 (.var 11) (.bin .Add (.var 11) (.int 1))) (.cons (.set (.name 14) (.bin .Mult (.bin .Mult (.int 3) (.var 1)) (.var 11))) (.cons (.expr (.met .append (.var 15) (.cons (.call 21 (.cons (.var 0) (.cons (.var 1) .nil))) .nil))) .nil))) .nil) (.cons (.set (.name 15) (.bin .Add (.var 15) (.call 23 (.cons (.var 0) (.cons (.cmp .In (.ix (.var 6) (.var 12)) (.var 7)) (.cons (.var 1) .nil)))))) (.cons (.set (.name 16) (.lst .nil)) (.cons (.forS (.name 17) (.seq (.var 15)) (.cons (.set (.name 10) (.blt .max2 (.cons (.var 10) (.cons (.bin .Add (.ix (.var 17) (.int 1)) (.var 14)) .nil)))) (.cons (.expr (.met .append (.var 16) (.cons (.tmp (.blt .tuple1 (.cons (.comp (.call 18 (.cons (.bin .Add (.var 0) (.var 2)) (.cons (.var 1) .nil))) (.name 0) (.seq (.var 17)) .nil ["_law_one"] [2,14]) .nil))) .nil))) .nil))) (.cons (.set (.sub (.var 9) (.call 20 (.cons (.var 0) (.cons (.var 8) .nil)))) (.tup (.cons (.ix (.var 6) (.var 12)) (.cons (.ix (.var 6) (.var 13)) (.cons (.blt .tuple1 (.cons (.var 16) .nil)) .nil))))) .nil)))))))))) (.cons (.set (.name 18) (.call 18 (.cons (.bin .Add (.var 10) (.call 17 (.cons (.var 0) (.cons (.var 1) .nil)))) (.cons (.var 2) .nil)))) (.cons (.ret (.tup (.cons (.tup (.cons (.var 18) (.cons (.var 7) (.cons (.var 9) .nil)))) (.cons (.var 6) (.cons (.bin .Mult (.var 1) (.ite (.cmp .Gt (.var 3) (.int 0)) (.int 8) (.int 1))) (.cons (.var 2) .nil)))))) .nil)))))))))))))
theorem rS:aw lh eK (ae fk)=true:=by decide +kernel
noncomputable abbrev cJ:Stmt:=top 31
theorem l4:ah ["_law_pot_here","_law_far","_law_bottom","_law_top"] ["_law_pot_here","_law_far","_law_bottom"] (ab cJ):=by walk_at "SC"
noncomputable def gK:Cfg:=mkc ["_law_pot_here","_law_far","_law_bottom","_law_top"] cJ 25
noncomputable def cF:Ss:=(.cons (.set (.name 3) (.call 17 (.cons (.var 0) (.cons (.bin .Mult (.tmp (.ix (.lst (.cons (.int 2) (.cons (.int 4) (.cons (.int 12) .nil)))) (.call 17 (.cons (.var 0) (.cons (.int 3) .nil))))) (.var 1)) .nil)))) (.cons (.ret (.call 18 (.cons (.var 3) (.cons (.tmp (.ix (.lst (.cons (.var 2) (.cons (.bin .Add (.int 1) (.call 17 (.cons (.var 0) (.cons (.int 7) .nil)))) .nil))) (.call 17 (.cons (.var 0) (.cons (.int 2) .nil))))) .nil)))) .nil))
theorem mK:aw gK cF (ae cJ)=true:=by decide +kernel
noncomputable abbrev gw:Stmt:=top 32
theorem t8:ah ["_law_ride","_law_t","_law_first","_law_stop","_law_come","_law_comes","_law_whole","_law_before","_law_behind","_law_top"] ["_law_ride","_law_t"] (ab gw):=by walk_at "SC"
noncomputable def nH:Cfg:=mkc ["_law_ride","_law_t","_law_first","_law_stop","_law_come","_law_comes","_law_whole","_law_before","_law_behind","_law_top"] gw 26
noncomputable def fh:Ss:=(.cons (.set (.tup (.cons (.name 2) (.cons (.name 3) (.cons (.name 4) (.cons (.name 5) .nil))))) (.var 0)) (.cons (.ifS (.cmp .Eq (.var 2) (.var 3)) (.cons (.ret (.var 4)) .nil) .nil) (.cons (.set (.name 6) (.bin .Sub (.bin .Mult (.ix (.var 3) (.int 0)) (.ix (.var 2) (.int 1))) (.bin .Mult (.ix (.var 2) (.int 0)) (.ix (.var 3) (.int 1))))) (.cons (.set (.name 7) (.bin .Mult (.bin .Sub (.bin .Mult (.ix (.var 1) (.int 0)) (.ix (.var 2) (.int 1))) (.bin .Mult (.ix (.var 2) (.int 0)) (.ix (.var 1) (.int 1)))) (.ix (.var 3) (.int 1)))) (.cons (.set (.name 8) (.bin .Mult (.bin .Sub (.bin .Mult (.ix (.var 3) (.int 0)) (.ix (.var 1) (.int 1))) (.bin .Mult (.ix (.var 1) (.int 0)) (.ix (.var 3) (.int 1)))) (.ix (.var 2) (.int 1)))) (.cons (.set (.name 9) (.bin .Add (.bin .Mult (.bin .Mult (.ix (.var 4) (.int 0)) (.ix (.var 5) (.int 1))) (.var 8)) (.bin .Mult (.bin .Mult (.ix (.var 5) (.int 0)) (.ix (.var 4) (.int 1))) (.var 7)))) (.cons (.ret (.call 18 (.cons (.var 9) (.cons (.bin .Mult (.bin .Mult (.bin .Mult (.ix (.var 4) (.int 1)) (.ix (.var 5) (.int 1))) (.var 6)) (.ix (.var 1) (.int 1))) .nil)))) .nil)))))))
theorem vN:aw nH fh (ae gw)=true:=by decide +kernel
noncomputable abbrev bZ:Stmt:=top 33
theorem kR:ah ["_law_ride","_law_wait","_law_t","_law_begin"] ["_law_ride","_law_wait","_law_t"] (ab bZ):=by walk_at "SC"
noncomputable def fM:Cfg:=mkc ["_law_ride","_law_wait","_law_t","_law_begin"] bZ 27
noncomputable def b_:Ss:=(.cons (.ifS (.bop false (.cons (.call 19 (.cons (.ix (.var 0) (.int 1)) (.cons (.var 2) .nil))) (.cons (.bop true (.cons (.not (.var 1)) (.cons (.call 19 (.cons (.var 2) (.cons (.ix (.var 0) (.int 0)) .nil))) .nil))) .nil))) (.cons (.ret (.lst .nil)) .nil) .nil) (.cons (.ifS (.not (.var 1)) (.cons (.ret (.lst (.cons (.call 26 (.cons (.var 0) (.cons (.var 2) .nil))) .nil))) .nil) .nil) (.cons (.set (.name 3) (.ite (.call 19 (.cons (.var 2) (.cons (.ix (.var 0) (.int 0)) .nil))) (.ix (.var 0) (.int 0)) (.var 2))) (.cons (.ret (.lst (.cons (.call 26 (.cons (.var 0) (.cons (.var 3) .nil))) (.cons (.ix (.var 0) (.int 3)) .nil)))) .nil))))
theorem lH:aw fM b_ (ae bZ)=true:=by decide +kernel
noncomputable abbrev dw:Stmt:=top 34
theorem nj:ah ["_law_moments","_law_found","_law_moment_here"] ["_law_moments"] (ab dw):=by walk_at "SC"
noncomputable def iC:Cfg:=mkc ["_law_moments","_law_found","_law_moment_here"] dw 28
noncomputable def dj:Ss:=(.cons (.set (.name 1) .non) (.cons (.forS (.name 2) (.seq (.var 0)) (.cons (.ifS (.bop false (.cons (.cmp .Is (.var 1) .non) (.cons (.call 19 (.cons (.var 2) (.cons (.var 1) .nil))) .nil))) (.cons (.set (.name 1) (.var 2)) .nil) .nil) .nil)) (.cons (.ret (.var 1)) .nil)))
theorem oY:aw iC dj (ae dw)=true:=by decide +kernel
noncomputable abbrev cR:Stmt:=top 35
theorem lp:ah ["_law_net_here","_law_name_here","_law_t","_law_a","_law_b","_law_rides_here","_law_found","_law_ride"] ["_law_net_here","_law_name_here","_law_t"] (ab cR):=by walk_at "SC"
noncomputable def gO:Cfg:=mkc ["_law_net_here","_law_name_here","_law_t","_law_a","_law_b","_law_rides_here","_law_found","_law_ride"] cR 29
noncomputable def cy:Ss:=(.cons (.set (.tup (.cons (.name 3) (.cons (.name 4) (.cons (.name 5) .nil)))) (.ix (.ix (.var 0) (.int 2)) (.var 1))) (.cons (.set (.name 6) (.lst .nil)) (.cons (.forS (.name 7) (.seq (.var 5)) (.cons (.set (.name 6) (.bin .Add (.var 6) (.call 27 (.cons (.var 7) (.cons (.cmp .In (.var 3) (.ix (.var 0) (.int 1))) (.cons (.var 2) .nil)))))) .nil)) (.cons (.ret (.call 28 (.cons (.var 6) .nil))) .nil))))
theorem mL:aw gO cy (ae cR)=true:=by decide +kernel
noncomputable abbrev cO:Stmt:=top 36
theorem lx:ah ["_law_net_here","_law_start","_law_moment_here","_law_most","_law_found","_law_k","_law_here","_law_name_here","_law_a","_law_b","_law_rides_here","_law_come"] ["_law_net_here","_law_start","_law_moment_here","_law_most"] (ab cO):=by walk_at "SC"
noncomputable def gR:Cfg:=mkc ["_law_net_here","_law_start","_law_moment_here","_law_most","_law_found","_law_k","_law_here","_law_name_here","_law_a","_law_b","_law_rides_here","_law_come"] cO 30
noncomputable def cA:Ss:=(.cons (.set (.name 4) (.lst (.cons (.dct2 (.var 1) (.var 2)) .nil))) (.cons (.forS (.name 5) (.range1 (.var 3)) (.cons (.set (.name 6) (.dcp (.ix (.var 4) (.neg (.int 1))))) (.cons (.forK (.name 7) .keys (.ix (.var 0) (.int 2)) (.cons (.set (.tup (.cons (.name 8) (.cons (.name 9) (.cons (.name 10) .nil)))) (.ix (.ix (.var 0) (.int 2)) (.var 7))) (.cons (.set (.name 11) (.ite (.cmp .In (.var 8) (.ix (.var 4) (.neg (.int 1)))) (.call 29 (.cons (.var 0) (.cons (.var 7) (.cons (.ix (.ix (.var 4) (.neg (.int 1))) (.var 8)) .nil)))) .non)) (.cons (.ifS (.bop true (.cons (.cmp .IsNot (.var 11) .non) (.cons (.bop false (.cons (.cmp .NotIn (.var 9) (.var 6)) (.cons (.call 19 (.cons (.var 11) (.cons (.ix (.var 6) (.var 9)) .nil))) .nil))) .nil))) (.cons (.set (.sub (.var 6) (.var 9)) (.var 11)) .nil) .nil) .nil)))) (.cons (.expr (.met .append (.var 4) (.cons (.var 6) .nil))) .nil)))) (.cons (.ret (.var 4)) .nil)))
theorem mU:aw gR cA (ae cO)=true:=by decide +kernel
noncomputable abbrev cM:Stmt:=top 37
theorem mv:ah ["_law_net_here","_law_way","_law_start","_law_moment_here","_law_place","_law_here","_law_name_here"] ["_law_net_here","_law_way","_law_start","_law_moment_here"] (ab cM):=by walk_at "SC"
noncomputable def gH:Cfg:=mkc ["_law_net_here","_law_way","_law_start","_law_moment_here","_law_place","_law_here","_law_name_here"] cM 31
noncomputable def cG:Ss:=(.cons (.par 4 5 (.var 2) (.var 3)) (.cons (.forS (.name 6) (.seq (.var 1)) (.cons (.ifS (.bop false (.cons (.not (.inst (.var 6) "str")) (.cons (.cmp .NotIn (.var 6) (.ix (.var 0) (.int 2))) (.cons (.cmp .NotEq (.ix (.ix (.ix (.var 0) (.int 2)) (.var 6)) (.int 0)) (.var 4)) .nil)))) (.cons (.ret (.tup (.cons .non (.cons .non .nil)))) .nil) .nil) (.cons (.set (.name 4) (.ix (.ix (.ix (.var 0) (.int 2)) (.var 6)) (.int 1))) (.cons (.set (.name 5) (.call 29 (.cons (.var 0) (.cons (.var 6) (.cons (.var 5) .nil))))) (.cons (.ifS (.cmp .Is (.var 5) .non) (.cons (.ret (.tup (.cons .non (.cons .non .nil)))) .nil) .nil) .nil))))) (.cons (.ret (.tup (.cons (.var 4) (.cons (.var 5) .nil)))) .nil)))
theorem nr:aw gH cG (ae cM)=true:=by decide +kernel
noncomputable abbrev dy:Stmt:=top 38
theorem mX:ah ["_law_net_here","_law_start","_law_goal","_law_moment_here","_law_told","_law_due","_law_come"] ["_law_net_here","_law_start","_law_goal","_law_moment_here","_law_told"] (ab dy):=by walk_at "SC"
noncomputable def iZ:Cfg:=mkc ["_law_net_here","_law_start","_law_goal","_law_moment_here","_law_told","_law_due","_law_come"] dy 32
noncomputable def dm:Ss:=(.cons (.set (.name 5) (.call 30 (.cons (.var 0) (.cons (.var 1) (.cons (.var 3) (.cons (.int 8) .nil)))))) (.cons (.set (.name 6) (.dget (.ix (.var 5) (.neg (.int 1))) (.var 2))) (.cons (.ifS (.bop false (.cons (.cmp .Is (.var 4) .non) (.cons (.cmp .Is (.var 6) .non) .nil))) (.cons (.ret (.bop true (.cons (.cmp .Is (.var 4) .non) (.cons (.cmp .Is (.var 6) .non) .nil)))) .nil) .nil) (.cons (.ifS (.bop false (.cons (.not (.inst (.var 4) "tuple")) (.cons (.cmp .NotEq (.call 31 (.cons (.var 0) (.cons (.var 4) (.cons (.var 1) (.cons (.var 3) .nil))))) (.tup (.cons (.var 2) (.cons (.var 6) .nil)))) .nil))) (.cons (.ret (.bl false)) .nil) .nil) (.cons (.ret (.cmp .Eq (.tmp (.met .index (.comp (.cmp .Eq (.dget (.var 0) (.var 1)) (.var 2)) (.name 0) (.seq (.var 5)) .nil ["_law_layer"] [2,6]) (.cons (.bl true) .nil))) (.blt .len (.cons (.var 4) .nil)))) .nil)))))
theorem pk:aw iZ dm (ae dy)=true:=by decide +kernel
noncomputable abbrev j3:Stmt:=top 39
theorem DB:ah ["_law_script","_law_k","_law_pot_here","_law_net_here","_law_places","_law_far","_law_bottom","_law_start","_law_goal","_law_moment_here","_law_told"] ["_law_script"] (ab j3):=by walk_at "SC"
noncomputable def Bo:Cfg:=mkc ["_law_script","_law_k","_law_pot_here","_law_net_here","_law_places","_law_far","_law_bottom","_law_start","_law_goal","_law_moment_here","_law_told"] j3 33
noncomputable def lv:Ss:=(.cons (.forS (.name 1) (.range1 (.blt .max2 (.cons (.int 1) (.cons (.blt .min2 (.cons (.blt .len (.cons (.var 0) .nil)) (.cons (.int 3) .nil))) .nil)))) (.cons (.set (.name 2) (.call 16 (.cons (.var 0) (.cons (.var 1) .nil)))) (.cons (.set (.tup (.cons (.name 3) (.cons (.name 4) (.cons (.name 5) (.cons (.name 6) .nil))))) (.call 24 (.cons (.var 2) .nil))) (.cons (.set (.name 7) (.ix (.var 4) (.call 17 (.cons (.var 2) (.cons (.blt .len (.cons (.var 4) .nil)) .nil))))) (.cons (.set (.name 8) (.ix (.var 4) (.call 17 (.cons (.var 2) (.cons (.blt .len (.cons (.var 4) .nil)) .nil))))) (.cons (.ifS (.cmp .Eq (.call 17 (.cons (.var 2) (.cons (.int 8) .nil))) (.int 0)) (.cons (.set (.name 8) (.call 20 (.cons (.var 2) (.cons (.blt .list1 (.cons (.var 4) .nil)) .nil)))) .nil) .nil) (.cons (.set (.name 9) (.call 25 (.cons (.var 2) (.cons (.var 5) (.cons (.var 6) .nil))))) (.cons (.set (.name 10) (.call 15 (.cons (.var 3) (.cons (.var 7) (.cons (.var 8) (.cons (.var 9) .nil)))))) (.cons (.ifS (.bop false (.cons (.not (.call 32 (.cons (.var 3) (.cons (.var 7) (.cons (.var 8) (.cons (.var 9) (.cons (.var 10) .nil))))))) (.cons (.cmp .NotEq (.call 15 (.cons (.var 3) (.cons (.var 7) (.cons (.var 8) (.cons (.var 9) .nil))))) (.var 10)) .nil))) (.cons (.ret (.bl false)) .nil) .nil) (.cons (.ifS (.bop false (.cons (.cmp .NotEq (.call 15 (.cons (.var 3) (.cons (.var 8) (.cons (.var 8) (.cons (.var 9) .nil))))) (.tup .nil)) (.cons (.cmp .NotEq (.call 15 (.cons (.var 3) (.cons (.var 7) (.cons (.var 8) (.cons (.var 9) .nil))))) (.var 10)) .nil))) (.cons (.ret (.bl false)) .nil) .nil) .nil)))))))))) (.cons (.ret (.bl true)) .nil))
theorem ER:aw Bo lv (ae j3)=true:=by decide +kernel
local macro_rules | `(tactic| walk_at "WP")=>`(tactic| simp only [tK,uq,tM,sY,pJ,zC,zI,yW,yi,sw,yG,xg,sN,t5,sM,pW,qT,xW,rV,y7,uk,CU,oR,yV,r9,sG,t9,sj,yQ,t7,x_,yL,CA,zG,yF,Cc,zw,zv,sy,xf,wI,yS,wH,zJ,Cr,xN,BW,C2,ut,xz,sQ,zU,tP,wE,sZ,xn,yp,zO,uh,rQ,oJ,DN,zV,ze,Do,yB,wz,za,t_,yJ,ur,zu,Dx,sH,oD,sW,oQ,oN,rT,o3,sh,oP,rR,w9,lX,fo,jd,jw,pK,lT,zA,zj,zN,zh,xQ,yb,sS,uo,sv,r_,ux,tT,wK,B5,yx,Af,yA,wZ,xt,yo,su,w_,Cn,Cw,zg,yc,sk,sR,DF,Ci,CW,Cg,zB,zM,xE,je,lm,jI,jR,jJ,i7,oG,pE,pP,o4,mj,lO,ml,jb,jB,gS,jh,ma,jS,jC,jH,jc,yO,wG,yf,og,lj,xS,wY,yd,wO,xX,zL,uc,uB,uC,yT,wV,lV,si,uu,tR,oS,pi,pN,pX,wQ,pA,Df,CI,Cs,CJ,BX,xR,frame,Γ_0,Γ_1,Γ_2,Γ_3,Γ_4,Γ_5,Γ_6,Γ_7,Γ_8,Γ_9,B_,Dr,Dw,BL,DG,BT,CM,CD,C1,BP,CN,CK,B8,B7,DO,B9,BI,Dh,Ck,C0,Ca,CC,Cu,CT,Nat.add_assoc,dz,bL,List.append_assoc,List.length_append,List.length_set,List.map_cons,List.map_nil,List.length_cons,List.length_nil,List.replicate,List.cons_append,List.nil_append,List.append_nil,List.getElem?_cons_zero,List.getElem?_cons_succ,List.set_cons_zero,List.set_cons_succ,Option.some.injEq,Cell.lst.injEq,PV.int.injEq,PV.bl.injEq,PV.ref.injEq,PV.str.injEq,PV.tup.injEq,PV.rdl.injEq,List.cons.injEq,and_true,true_and,exists_eq_left,exists_eq_left',exists_eq_right,exists_and_left,exists_and_right,exists_const,Bool.not_true,Bool.not_false,Bool.not_not,Bool.not_eq_true',decide_eq_true_eq,decide_eq_false_iff_not,false_and,and_false,false_or,or_false,if_true,if_false,Bool.false_eq_true,reduceCtorEq,reduceIte,not_false_eq_true,Nat.add_zero,Nat.zero_add,Nat.reduceAdd,Nat.reduceSub,Nat.reduceLeDiff,Int.reduceToNat,Int.reducePow,Int.reduceLT,Int.reduceLE,Int.reduceNeg,Int.reduceAdd,Int.reduceSub,Int.reduceMul,uA,pB,exists_eq,exists_eq',exists_false,ne_eq,not_true_eq_false,and_assoc,Option.join_some,Option.join_none,decide_true,decide_false,uD,tj,ue,s_,sF,tO,sP,Int.reduceEq,Nat.reduceEqDiff,Bool.not_eq_false,Bool.not_eq_true,Bool.and_true,Bool.true_and,Bool.and_false,Bool.false_and,Bool.or_false,Bool.or_true])
local macro_rules | `(tactic| walk_at "WPO")=>`(tactic| simp only [tK,uq,tM,sY,pJ,zC,zI,yW,yi,sw,yG,xg,sN,t5,sM,pW,qT,xW,rV,y7,uk,CU,oR,yV,r9,sG,t9,sj,yQ,t7,x_,yL,CA,zG,yF,Cc,zw,zv,sy,xf,wI,yS,wH,zJ,Cr,xN,BW,C2,ut,xz,sQ,zU,tP,wE,sZ,xn,yp,zO,uh,rQ,oJ,DN,zV,ze,Do,yB,wz,za,t_,yJ,ur,zu,Dx,sH,oD,sW,oQ,oN,rT,o3,sh,oP,rR,w9,lX,fo,jd,jw,pK,lT,zA,zj,zN,zh,xQ,yb,sS,uo,sv,r_,ux,tT,wK,B5,yx,Af,yA,wZ,xt,yo,su,w_,Cn,Cw,zg,yc,sk,sR,DF,Ci,CW,Cg,zB,zM,xE,je,lm,jI,jR,jJ,i7,oG,pE,pP,o4,mj,lO,ml,jb,jB,gS,jh,ma,jS,jC,jH,jc,yO,wG,yf,og,lj,xS,wY,yd,wO,xX,zL,uc,uB,uC,yT,wV,lV,si,uu,tR,oS,pi,pN,pX,wQ,pA,Df,CI,Cs,CJ,BX,xR,frame,Γ_0,Γ_1,Γ_2,Γ_3,Γ_4,Γ_5,Γ_6,Γ_7,Γ_8,Γ_9,B_,Dr,Dw,BL,DG,BT,CM,CD,C1,BP,CN,CK,B8,B7,DO,B9,BI,Dh,Ck,C0,Ca,CC,Cu,CT,Nat.add_assoc,dz,bL,List.append_assoc,List.length_append,List.length_set,List.map_cons,List.map_nil,List.length_cons,List.length_nil,List.replicate,List.cons_append,List.nil_append,List.append_nil,List.getElem?_cons_zero,List.getElem?_cons_succ,List.set_cons_zero,List.set_cons_succ,Option.some.injEq,Cell.lst.injEq,PV.int.injEq,PV.bl.injEq,PV.ref.injEq,PV.str.injEq,PV.tup.injEq,PV.rdl.injEq,List.cons.injEq,and_true,true_and,exists_eq_left,exists_eq_left',exists_eq_right,exists_and_left,exists_and_right,exists_const,Bool.not_true,Bool.not_false,Bool.not_not,Bool.not_eq_true',decide_eq_true_eq,decide_eq_false_iff_not,false_and,and_false,false_or,or_false,if_true,if_false,Bool.false_eq_true,reduceCtorEq,reduceIte,not_false_eq_true,Nat.add_zero,Nat.zero_add,Nat.reduceAdd,Nat.reduceSub,Nat.reduceLeDiff,Int.reduceToNat,Int.reducePow,Int.reduceLT,Int.reduceLE,Int.reduceNeg,Int.reduceAdd,Int.reduceSub,Int.reduceMul,uA,pB,exists_eq,exists_eq',exists_false,ne_eq,not_true_eq_false,and_assoc,Option.join_some,Option.join_none,decide_true,decide_false,uD,tj,ue,s_,sF,tO,sP,Int.reduceEq,Nat.reduceEqDiff,Bool.not_eq_false,Bool.not_eq_true,Bool.and_true,Bool.true_and,Bool.and_false,Bool.false_and,Bool.or_false,Bool.or_true,qK])
theorem jX {as st Q}(h:aF as st Q):aq Γ bF (frame 2 as) st (af st Q):=by
 obtain⟨n,d,rfl,k⟩:=h
 unfold bF
 walk_at "WP"
 refine io Γm (fun m ρ s=>∃a b:Nat,ρ=[some (.int a),some (.int b)]∧s=st∧Nat.gcd a b=Nat.gcd n d∧m=b) (n:=d) ⟨n,d,rfl,rfl,rfl,rfl⟩ ?_
 rintro m ρ s ⟨a,b,rfl,rfl,hg,rfl⟩
 walk_at "WP"
 by_cases hb:(m:Int)=0
 ·rw[F_ (fun z=>z hb)]
  have:m=0:=by omega
  subst this
  rw[Nat.gcd_zero_right] at hg
  rw[hg]
  exact .inl k
 ·rw[GA hb]
  refine⟨by omega,a % m,Nat.mod_lt _ (by omega),m,rfl,a % m,?_,?_,rfl⟩
  ·simp
  ·rw[←hg,JA a m,Nat.gcd_rec m a,JA]
theorem tF {as st Q}(h:bU as st Q):aq Γ eI (frame 3 as) st (af st Q):=by
 obtain⟨n,d,rfl,h1,h2,k⟩:=h
 unfold eI
 walk_at "WP"
 refine⟨n,d,rfl,?_⟩
 walk_at "WP"
 refine⟨k6 h1 h2,k6 h1 h2,?_⟩
 rw[←JI,←JI]
 exact .inl k
theorem AN {α:Type}(U:List α):U=[]∨∃Y c,U=Y++[c]:=by
 rcases List.eq_nil_or_concat U with h|⟨Y,c,h⟩
 ·exact .inl h
 ·exact .inr ⟨Y,c,by rw[h,List.concat_eq_append]⟩
theorem aX {p:Prop}{inst:Decidable p}{A B:Prop}(h1:p→A)(h2:¬p→B):@ite Prop p inst A B:=by
 by_cases h:p
 ·rw[GA h];exact h1 h
 ·rw[F_ h];exact h2 h
theorem BdU.mono {N M:Nat}{U:List Un3}(h:BdU N U)(hm:N≤M):BdU M U:=fun u hu=>⟨GW (h u hu).1 hm,GW (h u hu).2.1 hm,GW (h u hu).2.2 hm⟩
theorem Fh:rH 10 8:=⟨by decide,by decide,by decide⟩
theorem Rt.at_:∀ {r:List Pc}{b hh:Rat}{i:Nat}{p:Pc},Rt b hh r→r[i]?=some p→p.Ok∧p.L≤p.H∧p.E≤p.H∧b<p.E∧hh≤p.L
 | q::r,b,hh,0,p,⟨h1,h2,h3,h4,h5,h6⟩,e=>by cases e;exact⟨h1,h4,h5,h2,h3⟩
 | q::r,b,hh,i+1,p,⟨h1,h2,h3,h4,h5,h6⟩,e=>by
  obtain⟨k1,k2,k3,k4,k5⟩:=h6.at_ (i:=i) (by simpa using e)
  exact⟨k1,k2,k3,by grind,by grind⟩
theorem Rt.two:∀ {r:List Pc}{b hh:Rat}{i:Nat}{q p:Pc},Rt b hh r→r[i]?=some q→r[i+1]?=some p→q.E<p.E∧q.H≤p.L
 | a::r,b,hh,0,q,p,⟨h1,h2,h3,h4,h5,h6⟩,e1,e2=>by
  cases e1
  have:=h6.at_ (i:=0) (by simpa using e2)
  exact⟨this.2.2.2.1,this.2.2.2.2⟩
 | a::r,b,hh,i+1,q,p,⟨h1,h2,h3,h4,h5,h6⟩,e1,e2=>h6.two (i:=i) (by simpa using e1) (by simpa using e2)
theorem RtF.at_ {L:List Pc}{i:Nat}{p:Pc}(h:RtF L)(e:L[i]?=some p):p.Ok∧p.L≤p.H∧p.E≤p.H:=by
 cases L with
 | nil=>simp at e
 | cons a r =>
  cases i with
  | zero=>cases e;exact⟨h.1,h.2.1,h.2.2.1⟩
  | succ i =>
   obtain⟨k1,k2,k3,k4,k5⟩:=h.2.2.2.2.at_ (i:=i) (by simpa using e)
   exact⟨k1,k2,k3⟩
theorem RtF.two {L:List Pc}{i:Nat}{q p:Pc}(h:RtF L)(e1:L[i]?=some q)(e2:L[i+1]?=some p):q.E<p.E∧q.H≤p.L:=by
 cases L with
 | nil=>simp at e1
 | cons a r =>
  cases i with
  | zero =>
   cases e1
   obtain⟨k1,k2,k3,k4,k5⟩:=h.2.2.2.2.at_ (i:=0) (by simpa using e2)
   exact⟨k4,k5⟩
  | succ i=>exact h.2.2.2.2.two (i:=i) (by simpa using e1) (by simpa using e2)
noncomputable def bg (L:List Pc):Nat→Nat × Nat
 | 0=>(0,1)
 | i+1=>((L[i]?).map Pc.e).getD (0,1)
noncomputable def hg (L:List Pc):Nat→Nat × Nat
 | 0=>(0,1)
 | i+1=>((L[i]?).map Pc.h).getD (0,1)
theorem l8 {p q:Nat × Nat}{j:Nat}(hp:Sz j p)(hq:Sz j q)(h:val q≤val p):decide (p.1*q.2<q.1*p.2)=false:=GV fun z=>by
 have:=(fB hp.pos hq.pos).mp z
 grind
theorem ii {p q:Nat × Nat}{j:Nat}(hp:Sz j p)(hq:Sz j q)(h:val p<val q):decide (p.1*q.2<q.1*p.2)=true:=HB ((fB hp.pos hq.pos).mpr h)
theorem NG.at_:∀ {L:List Pc}{b:Nat × Nat}{i:Nat}{a p:Pc},NG b L→L[i]?=some a→L[i+1]?=some p→gB (if i=0 then b else bg L i) a p=false
 | [],_,_,_,_,_,e,_=>by simp at e
 | [_],_,i,_,_,_,_,e=>by simp at e
 | x::y::r,b,0,a,p,h,e1,e2=>by
  cases e1
  cases e2
  exact h.1
 | x::y::r,b,i+1,a,p,h,e1,e2=>by
  have:=h.2.at_ (i:=i) (by simpa using e1) (by simpa using e2)
  rw[F_ (by omega)]
  cases i with
  | zero=>simpa[bg] using this
  | succ i=>rw[F_ (by omega)] at this;simpa[bg] using this
theorem bgS {L:List Pc}{i:Nat}{q:Pc}(h:L[i]?=some q):bg L (i+1)=q.e:=by show ((L[i]?).map Pc.e).getD (0,1)=_;rw[h];rfl
theorem nb {L:List Pc}{i:Nat}{q:Pc}(hR:RtF L)(hq:L[i]?=some q):Cop (bg L i)∧val (bg L i)≤q.E∧(val (bg L i)=q.E→q.L=q.H)∧(i≠0→val (bg L i)<q.E):=by
 obtain⟨qok,q1,q2⟩:=hR.at_ hq
 cases i with
 | zero =>
  refine⟨D4,?_,?_,fun z=>absurd rfl z⟩
  ·show val (0,1)≤_;rw[lc];exact Dn qok.e.pos
  ·show val (0,1)=_→_
   rw[lc]
   cases L with
   | nil=>simp at hq
   | cons a r=>cases hq;exact hR.2.2.2.1
 | succ i =>
  have il:=(FY.mp hq).1
  have ha:L[i]?=some L[i]:=GX (by omega)
  obtain⟨k1,k2⟩:=hR.two ha hq
  rw[bgS ha]
  exact⟨(hR.at_ ha).1.e,JZ k1,fun z=>absurd z (by grind),fun _=>k1⟩
theorem RU.rt {d:Nat}(h0:0<d):∀ {U:List Un3}{b hh:Nat},RU b hh U→Rt ((b:Rat)/d) ((hh:Rat)/d) (U.map (EL d))
 | [],_,_,_=>trivial
 | u::r,b,hh,⟨h1,h2,h3,h4,h5⟩=>by
  have dp:=bb h0
  have lt:∀ {x y:Nat},x<y→(x:Rat)/d<(y:Rat)/d:=fun h=>by
   rw[JR dp]
   have e:∀y:Rat,y/d*d=y:=fun y=>by grind
   rw[e]
   exact JB.mpr h
  have le:∀ {x y:Nat},x≤y→(x:Rat)/d≤(y:Rat)/d:=fun {x y} h=>by
   by_cases e:x=y
   ·rw[e];exact HD
   ·exact JZ (lt (by omega))
  have ih:=RU.rt h0 h5
  refine⟨⟨.low h0,.low h0,.low h0⟩,?_,?_,?_,?_,?_⟩
  ·show _<val (aV u.1 d);rw[az h0];exact lt h1
  ·show _≤val (aV u.2.1 d);rw[az h0];exact le h2
  ·show val (aV u.2.1 d)≤val (aV u.2.2 d);rw[az h0,az h0];exact le h3
  ·show val (aV u.1 d)≤val (aV u.2.2 d);rw[az h0,az h0];exact le h4
  ·show Rt (val (aV u.1 d)) (val (aV u.2.2 d)) _
   rw[az h0,az h0]
   exact ih
theorem RUF.rt {d:Nat}(h0:0<d){U:List Un3}(h:RUF U):RtF (U.map (EL d)):=by
 cases U with
 | nil=>trivial
 | cons u r =>
  obtain⟨h1,h2,h3,h4⟩:=h
  have dp:=bb h0
  have le:∀ {x y:Nat},x≤y→(x:Rat)/d≤(y:Rat)/d:=fun {x y} h=>by
   rw[←JY,JR dp]
   have e:∀y:Rat,y/d*d=y:=fun y=>by grind
   rw[e,JY]
   exact Rat.natCast_le_natCast.mpr h
  refine⟨⟨.low h0,.low h0,.low h0⟩,?_,?_,?_,?_⟩
  ·show val (aV u.2.1 d)≤val (aV u.2.2 d);rw[az h0,az h0];exact le h1
  ·show val (aV u.1 d)≤val (aV u.2.2 d);rw[az h0,az h0];exact le h2
  ·show 0=val (aV u.1 d)→val (aV u.2.1 d)=val (aV u.2.2 d)
   rw[az h0,az h0,az h0]
   intro z
   have:u.1=0:=by
    have e:(u.1:Rat)=0:=by grind
    exact Rat.natCast_eq_zero_iff.mp e
   rw[h3 this]
  ·show Rt (val (aV u.1 d)) (val (aV u.2.2 d)) _
   rw[az h0,az h0]
   exact h4.rt h0
theorem qU {as st Q}(h:bY as st Q):aq Γ dP (frame 2 as) st (af st Q):=by
 obtain⟨p,q,rfl,hp,hq,k⟩:=h
 unfold dP
 walk_at "WP"
 exact⟨cj hp.a hq.b,cj hq.a hp.b,.inl k⟩
theorem sL {as st Q}(h:aK as st Q):aq Γ eF (frame 2 as) st (af st Q):=by
 obtain⟨p,q,rfl,hp,hq,k⟩:=h
 unfold eF
 walk_at "WP"
 refine⟨cj hp.a hq.b,cj hq.a hp.b,?_⟩
 rw[←G_,←G_]
 simp only[Int.ofNat_lt]
 exact .inl k
theorem bf {p:Nat × Nat}(h:0<p.2):(p.1:Rat)=val p*(p.2:Rat):=by
 have:(p.2:Rat)≠0:=by simpa using Nat.pos_iff_ne_zero.mp h
 unfold val
 grind
theorem vg {N Y F G X c:Rat}(hc:c≠0)(h:N<F):(c*(Y*(F-X)+G*(X-N)))/(c*(F-N))=Y+(G-Y)*((X-N)/(F-N)):=by
 have:F-N≠0:=by grind
 grind
theorem mP {as st Q}(h:bi as st Q):aq Γ cH (frame 10 as) st (af st Q):=by
 obtain⟨sa,sb,sc,sd,m,nx,ny,fx,fy,x,rfl,j2,⟨z1,z2,z3,z4,z5⟩,⟨v1,v2,v3⟩,k⟩:=h
 unfold cH
 walk_at "WP"
 have hD:nx.1*x.2≤x.1*nx.2:=(g_ z1.pos z5.pos).mpr v2
 have hE:x.1*fx.2≤fx.1*x.2:=(g_ z5.pos z3.pos).mpr v3
 have cD:(x.1:Int)*nx.2-nx.1*x.2=((x.1*nx.2-nx.1*x.2:Nat):Int):=by rw[IV hD,G_,G_]
 have cE:(fx.1:Int)*x.2-x.1*fx.2=((fx.1*x.2-x.1*fx.2:Nat):Int):=by rw[IV hE,G_,G_]
 refine⟨_,_,rfl,z5.mono (by omega),z1.mono (by omega),?_⟩
 rw[cD]
 walk_at "WP"
 refine⟨?_,_,_,rfl,z3.mono (by omega),z5.mono (by omega),?_⟩
 rotate_left
 rw[cE]
 walk_at "WP"
 simp only[←Int.natCast_mul,←Int.natCast_add]
 generalize hDd:x.1*nx.2-nx.1*x.2=D
 generalize hEe:fx.1*x.2-x.1*fx.2=E
 have p1:=bb z1.pos
 have p2:=bb z2.pos
 have p3:=bb z3.pos
 have p4:=bb z4.pos
 have p5:=bb z5.pos
 have qD:(D:Rat)=(val x-val nx)*(x.2*nx.2):=by
  have:=GR (fun k:Nat=>(k:Rat)) (IF hD)
  rw[hDd] at this
  simp only[Rat.natCast_add,Rat.natCast_mul] at this
  rw[bf z1.pos,bf z5.pos] at this
  grind
 have qE:(E:Rat)=(val fx-val x)*(fx.2*x.2):=by
  have:=GR (fun k:Nat=>(k:Rat)) (IF hE)
  rw[hEe] at this
  simp only[Rat.natCast_add,Rat.natCast_mul] at this
  rw[bf z3.pos,bf z5.pos] at this
  grind
 have bD:D<2 ^ (m+sa):=by rw[←hDd];exact GN (JS _ _) (aO z5.a z1.b)
 have bE:E<2 ^ (sc+m):=by rw[←hEe];exact GN (JS _ _) (aO z3.a z5.b)
 have b1:D*fx.2<2 ^ (m+sa+sc):=aO bD z3.b
 have b2:E*nx.2<2 ^ (m+sa+sc):=by
  have:=aO bE z1.b
  rwa [show sc+m+sa=m+sa+sc by omega] at this
 have a1:ny.1*fy.2<2 ^ (sb+sd):=aO z2.a z4.b
 have a2:fy.1*ny.2<2 ^ (sb+sd):=by
  have:=aO z4.a z2.b
  rwa [Nat.add_comm sd sb] at this
 have a3:ny.2*fy.2<2 ^ (sb+sd):=aO z2.b z4.b
 have b3:E*nx.2+D*fx.2<2 ^ (m+sa+sc+1):=by
  have:(2:Nat) ^ (m+sa+sc+1)=2 ^ (m+sa+sc)+2 ^ (m+sa+sc):=by rw[KC];omega
  omega
 have c1:=aO a1 b2
 have c2:=aO a2 b1
 have c3:=aO a3 b3
 have c4:ny.1*fy.2*(E*nx.2)+fy.1*ny.2*(D*fx.2)<2 ^ (sa+sb+sc+sd+m+2):=by
  have h1:(2:Nat) ^ (sb+sd+(m+sa+sc))+2 ^ (sb+sd+(m+sa+sc))≤2 ^ (sa+sb+sc+sd+m+2):=by
   have e:2 ^ (sb+sd+(m+sa+sc)+1)≤2 ^ (sa+sb+sc+sd+m+2):=cC (by omega)
   rw[KC] at e
   omega
  omega
 have up:∀ {a j:Nat},a<2 ^ j→j≤3000→a<2 ^ 3000:=fun h hj=>F3 h (cC hj)
 have dpos:0<E*nx.2+D*fx.2:=by
  refine Nat.pos_of_ne_zero fun z=>?_
  have e:((E*nx.2+D*fx.2:Nat):Rat)=0:=by rw[z];rfl
  simp only[Rat.natCast_add,Rat.natCast_mul] at e
  rw[qD,qE] at e
  have:(val fx-val nx)*((fx.2:Rat)*x.2*nx.2)=0:=by grind
  have w:0<(val fx-val nx)*((fx.2:Rat)*x.2*nx.2):=HE (by grind) (HE (HE p3 p5) p1)
  grind
 have hpos:=JJ (JJ z2.pos z4.pos) dpos
 refine⟨cj (up bE (by omega)) (up z1.b (by omega)),cj (up z2.a (by omega)) (up z4.b (by omega)),cj (up a1 (by omega)) (up b2 (by omega)),cj (up z4.a (by omega)) (up z2.b (by omega)),cj (up a2 (by omega)) (up b1 (by omega)),cj (up z2.b (by omega)) (up z4.b (by omega)),cj (up a3 (by omega)) (up b3 (by omega)),
  _,_,rfl,hpos,F3 c3 (cC (by omega)),.inl ?_⟩
 rw[ot]
 refine k _ ⟨da hpos,mz hpos⟩ ⟨GN (iF _ _) c4,GN (iw _ _) (F3 c3 (cC (by omega))),da hpos⟩ ?_
 rw[az hpos]
 simp only[Rat.natCast_add,Rat.natCast_mul]
 rw[qD,qE,bf z2.pos,bf z4.pos]
 have hc:(ny.2:Rat)*fy.2*fx.2*x.2*nx.2≠0:=by
  have:=HE (HE (HE (HE p2 p4) p3) p5) p1
  grind
 rw[←vg (Y:=val ny) (G:=val fy) (X:=val x) hc v1]
 congr 1 <;> grind
 exact cj (F3 (GN (JS _ _) (aO z5.a z1.b)) (cC (by omega))) (F3 z3.b (cC (by omega)))
theorem BJ {a w:Rat}(hw:0<w)(h0:0≤a)(h1:a≤w):∃q,a/w=q∧q*w=a∧0≤q∧q≤1:=by
 have w0:w≠0:=by grind
 have e:a/w*w=a:=by grind
 refine⟨a/w,rfl,e,?_,?_⟩
 ·refine GH fun z=>?_
  have:=HE (a:=-(a/w)) (b:=w) (by grind) hw
  grind
 ·refine GH fun z=>?_
  have:=HE (a:=a/w-1) (b:=w) (by grind) hw
  grind
theorem CQ {b E L H t:Rat}(hb:b<E)(h0:b≤t)(h1:t≤E)(hL:b≤L)(hH:E≤H):t≤L+(H-L)*((t-b)/(E-b)):=by
 obtain⟨q,e,e1,e2,e3⟩:=BJ (a:=t-b) (w:=E-b) (by grind) (by grind) (by grind)
 rw[e]
 have m1:=IA (a:=L-b) (b:=1-q) (by grind) (by grind)
 have m2:=IA (a:=H-E) (b:=q) (by grind) e2
 grind
noncomputable def FU (b:Rat)(X:List Pc):Rat:=(X.getLast?.map Pc.E).getD b
noncomputable def nxE (P:Fr→AH→Prop):aG:={ nx:=P,rt:=fun _ _=>False }
theorem BO {P:Fr→AH→Prop}{ρ:Fr}{st:AH}:(nxE P).nx ρ st=P ρ st:=rfl
local macro_rules | `(tactic| walk_at "WPN")=>`(tactic| simp only [tK,uq,tM,sY,pJ,zC,zI,yW,yi,sw,yG,xg,sN,t5,sM,pW,qT,xW,rV,y7,uk,CU,oR,yV,r9,sG,t9,sj,yQ,t7,x_,yL,CA,zG,yF,Cc,zw,zv,sy,xf,wI,yS,wH,zJ,Cr,xN,BW,C2,ut,xz,sQ,zU,tP,wE,sZ,xn,yp,zO,uh,rQ,oJ,DN,zV,ze,Do,yB,wz,za,t_,yJ,ur,zu,Dx,sH,oD,sW,oQ,oN,rT,o3,sh,oP,rR,w9,lX,fo,jd,jw,pK,lT,zA,zj,zN,zh,xQ,yb,sS,uo,sv,r_,ux,tT,wK,B5,yx,Af,yA,wZ,xt,yo,su,w_,Cn,Cw,zg,yc,sk,sR,DF,Ci,CW,Cg,zB,zM,xE,je,lm,jI,jR,jJ,i7,oG,pE,pP,o4,mj,lO,ml,jb,jB,gS,jh,ma,jS,jC,jH,jc,yO,wG,yf,og,lj,xS,wY,yd,wO,xX,zL,uc,uB,uC,yT,wV,lV,si,uu,tR,oS,pi,pN,pX,wQ,pA,Df,CI,Cs,CJ,BX,xR,frame,Γ_0,Γ_1,Γ_2,Γ_3,Γ_4,Γ_5,Γ_6,Γ_7,Γ_8,Γ_9,B_,Dr,Dw,BL,DG,BT,CM,CD,C1,BP,CN,CK,B8,B7,DO,B9,BI,Dh,Ck,C0,Ca,CC,Cu,CT,Nat.add_assoc,dz,bL,List.append_assoc,List.length_append,List.length_set,List.map_cons,List.map_nil,List.length_cons,List.length_nil,List.replicate,List.cons_append,List.nil_append,List.append_nil,List.getElem?_cons_zero,List.getElem?_cons_succ,List.set_cons_zero,List.set_cons_succ,Option.some.injEq,Cell.lst.injEq,PV.int.injEq,PV.bl.injEq,PV.ref.injEq,PV.str.injEq,PV.tup.injEq,PV.rdl.injEq,List.cons.injEq,and_true,true_and,exists_eq_left,exists_eq_left',exists_eq_right,exists_and_left,exists_and_right,exists_const,Bool.not_true,Bool.not_false,Bool.not_not,Bool.not_eq_true',decide_eq_true_eq,decide_eq_false_iff_not,false_and,and_false,false_or,or_false,if_true,if_false,Bool.false_eq_true,reduceCtorEq,reduceIte,not_false_eq_true,Nat.add_zero,Nat.zero_add,Nat.reduceAdd,Nat.reduceSub,Nat.reduceLeDiff,Int.reduceToNat,Int.reducePow,Int.reduceLT,Int.reduceLE,Int.reduceNeg,Int.reduceAdd,Int.reduceSub,Int.reduceMul,uA,pB,exists_eq,exists_eq',exists_false,ne_eq,not_true_eq_false,and_assoc,Option.join_some,Option.join_none,decide_true,decide_false,uD,tj,ue,s_,sF,tO,sP,Int.reduceEq,Nat.reduceEqDiff,Bool.not_eq_false,Bool.not_eq_true,Bool.and_true,Bool.true_and,Bool.and_false,Bool.false_and,Bool.or_false,Bool.or_true,BO])
theorem bp {s:S}{ss:Ss}{ρ:Fr}{st:AH}{D:aG}(P:Fr→AH→Prop)(h1:wpS Γ s ρ st (nxE P))(h2:∀ρ' st',P ρ' st'→aq Γ ss ρ' st' D):aq Γ (.cons s ss) ρ st D:=by
 cases ss with
 | nil=>exact ip (D:=nxE P) Γm s ⟨fun ρ st z=>h2 ρ st z,fun _ _ z=>False.elim z,fun _ _ z=>False.elim z,fun _ _ z=>False.elim z⟩ h1
 | cons s2 ss=>exact ip (D:=nxE P) (D':=aft Γ (.cons s2 ss) D) Γm s ⟨fun ρ st z=>h2 ρ st z,fun _ _ z=>False.elim z,fun _ _ z=>False.elim z,fun _ _ z=>False.elim z⟩ h1
theorem uz {as st Q}(h:cX as st Q):aq Γ eE (frame 4 as) st (af st Q):=by
 obtain⟨n,d,rfl,h0,h1,k⟩:=h
 unfold eE
 walk_at "WP"
 refine io Γm (fun j ρ s=>s=st∧∃a:Nat,ρ=[some (.int n),some (.int d),some (.int a),some (.int j)]∧Nat.gcd a j=Nat.gcd n d) (n:=d) ⟨rfl,n,rfl,rfl⟩ ?_
 rintro m ρ s ⟨rfl,a,rfl,hg⟩
 walk_at "WP"
 by_cases hb:(0:Int)<m
 ·rw[GA hb]
  exact⟨hb,a % m,Nat.mod_lt _ (by omega),m,rfl,by simp,by rw[←hg,JA a m,Nat.gcd_rec m a,JA]⟩
 ·rw[F_ hb]
  have:m=0:=by omega
  subst this
  rw[Nat.gcd_zero_right] at hg
  subst hg
  refine⟨k6 h0 h1,k6 h0 h1,?_⟩
  rw[←JI,←JI]
  exact .inl k
theorem p6 {as st Q}(h:bN as st Q):aq Γ dh (frame 3 as) st (af st Q):=by
 obtain⟨p,many,rfl,⟨q,r,hp,hq,hr0,hr1⟩,hm,hm2,k⟩:=h
 have g0:Gr st p st:=.refl ⟨q,r,hp,hq,hr0,hr1⟩
 unfold dh
 walk_at "WP"
 refine⟨_,ad hp,_,og,?_⟩
 walk_at "WP"
 by_cases hz:0<q
 ·rw[GA hz]
  refine⟨_,ad hp,_,og,?_⟩
  walk_at "WP"
  refine⟨uJ hm hm2,_,hp,0,rfl,?_⟩
  exact .inl (k _ _ (J7 _ (by omega)) (JT _ hm) (g0.set ⟨Int.ediv_nonneg (by omega) (by omega),hr0,hr1⟩))
 ·rw[F_ hz]
  refine⟨_,ad hp,_,lj,?_⟩
  walk_at "WP"
  refine⟨nV (by decide) (by decide),_,hp,1,rfl,?_⟩
  have hs:∀z,(st.set p (pc q z))[p]?=some (pc q z):=fun z=>GB (ai hp)
  refine⟨_,ad (hs _),_,lj,_,ad (hs _),_,lj,?_⟩
  walk_at "WP"
  refine⟨qt (by omega) (by omega),uJ (by decide) (by decide),hm,?_⟩
  exact .inl (k _ _ (J7 _ (by omega)) (JT _ hm) (g0.set ⟨hq,by omega,by omega⟩))
theorem sg {as st Q}(h:cZ as st Q):aq Γ eJ (frame 5 as) st (af st Q):=by
 obtain⟨ns,m,rfl,hl,hm,k⟩:=h
 unfold eJ
 walk_at "WP"
 rw[EQ hl]
 refine⟨qt (by decide) (by decide),_,ad am,?_⟩
 refine bT Γm (fun i ρ s=>s=st++[.lst (ns.map PV.int)]∧∃(z:Int) (a:Option PV),ρ=[some (.rdl (ns.map PV.int)),some (.int m),some (.int z),a,none]∧0≤z∧z<8589934592) ⟨rfl,_,_,rfl,by omega,by omega⟩ ?_ ?_
 ·rintro i v ρ s hi ⟨rfl,z,a,rfl,hz,hz1⟩
  rw[F9] at hi
  obtain⟨y,hy,rfl⟩:=GK.mp hi
  refine⟨rfl,?_⟩
  walk_at "WP"
  exact⟨nV (by decide) (by decide),by omega,by omega⟩
 ·rintro ρ s ⟨rfl,z,a,rfl,hz,hz1⟩
  refine⟨rfl,?_⟩
  walk_at "WP"
  have fin:∀(y:Int) (b:Bool),(b=true→0≤y)→rH 10 18∧CMB y (b2z b)∧Ret st Q (PV.ref (List.length st+1)) (st++[Cell.lst (ns.map PV.int),Cell.lst [PV.int (y*b2z b),PV.int z]]):=fun y b hb=>by
   refine⟨EX,?_,.inl (k _ _ ⟨_,_,by rw[dz (k:=1)];rfl,?_,hz,hz1⟩)⟩
   ·unfold b2z;split <;> exact nV (by decide) (by decide)
   ·unfold b2z
    split
    ·rename_i q;have:=hb q;omega
    ·omega
  rw[GI]
  by_cases hl:m<ns.length
  ·rw[GA (by omega)]
   refine⟨_,zH hl,?_⟩
   walk_at "WP"
   exact fin _ _ fun q=>by have:=HC q;omega
  ·rw[F_ (by omega)]
   exact fin 0 false fun q=>by cases q
theorem bz (b:Bool):b2z b=0∨b2z b=1:=by cases b <;> simp[b2z]
theorem tq {x:Int}{b:Bool}(h:0≤x):0≤x*b2z b∧x*b2z b≤x:=by
 rcases bz b with e|e <;> rw[e] <;> omega
theorem tE {x:Int}{b:Bool}:CMB x (b2z b):=by
 rcases bz b with e|e <;> rw[e] <;> exact nV (by decide) (by decide)
theorem aU {st:AH}{n:Nat}{xs:List PV}(h:st[n]?=some (.lst xs)):bc st (.ref n)=some xs:=by simp[bc,h]
theorem Gr.push {st s:AH}{p:Nat}(g:Gr st p s){L:List PV}{n:Nat}(hn:st.length≤n):Gr st p (s.set n (.lst L)):=g.setN hn
theorem IsOff.uniq {X:List Rr}{t:Rat}{o o':Option Rat}(h:IsOff X t o)(h':IsOff X t o'):o=o':=by
 cases o with
 | none =>
  cases o' with
  | none=>rfl
  | some y=>obtain⟨⟨r,h1,h2,_⟩,_⟩:=h';exact absurd h2 (h r h1)
 | some x =>
  obtain⟨⟨r,h1,h2,h3⟩,h4⟩:=h
  cases o' with
  | none=>exact absurd h2 (h' r h1)
  | some y =>
   obtain⟨⟨r',g1,g2,g3⟩,g4⟩:=h'
   have a:=h4 r' g1 g2
   have b:=g4 r h1 h2
   congr 1
   grind
theorem IsOut.uniq {X:List Rr}{t:Rat}{o o':Option (Rat × Rat)}(h:IsOut X t o)(h':IsOut X t o'):o=o':=by
 cases o with
 | none =>
  cases o' with
  | none=>rfl
  | some y =>
   obtain⟨g0,⟨r,h1,h2,_⟩,_⟩:=h'
   have a:=h r h1
   have b:=h2.2
   exfalso
   grind
 | some x =>
  obtain⟨h0,⟨r,h1,h2,h3⟩,h4⟩:=h
  cases o' with
  | none =>
   have a:=h' r h1
   have b:=h2.2
   exfalso
   grind
  | some y =>
   obtain⟨g0,⟨r',g1,g2,g3⟩,g4⟩:=h'
   have a:=h4 r' g1 y.1 g0 g2
   have b:=g4 r h1 x.1 h0 h2
   have e:x.2=y.2:=by grind
   have e1:x.1=y.1:=by
    have a2:=a.2 (by rw[g3,e])
    have b2:=b.2 (by rw[h3,e])
    grind
   obtain⟨x1,x2⟩:=x
   obtain⟨y1,y2⟩:=y
   have e:x2=y2:=e
   have e1:x1=y1:=e1
   rw[e,e1]
theorem IsOff.snoc {X:List Rr}{r:Rr}{t:Rat}{o:Option Rat}(h:IsOff X t o)(no:¬r.has t):IsOff (X++[r]) t o:=by
 cases o with
 | none =>
  intro q hq
  rcases F7.mp hq with hq|hq
  ·exact h q hq
  ·rw[FZ] at hq;rw[hq];exact no
 | some y =>
  obtain⟨⟨q,h1,h2⟩,h3⟩:=h
  refine⟨⟨q,by simp[h1],h2⟩,fun q hq hh=>?_⟩
  rcases F7.mp hq with hq|hq
  ·exact h3 q hq hh
  ·rw[FZ] at hq;rw[hq] at hh;exact absurd hh no
theorem IsOff.keep {X:List Rr}{r:Rr}{t y:Rat}(h:IsOff X t (some y))(le:r.has t→y≤r.to t):IsOff (X++[r]) t (some y):=by
 obtain⟨⟨q,h1,h2⟩,h3⟩:=h
 refine⟨⟨q,by simp[h1],h2⟩,fun q hq hh=>?_⟩
 rcases F7.mp hq with hq|hq
 ·exact h3 q hq hh
 ·rw[FZ] at hq;rw[hq] at hh ⊢;exact le hh
theorem IsOff.new {X:List Rr}{r:Rr}{t:Rat}{o:Option Rat}(h:IsOff X t o)(hh:r.has t)(le:∀y,o=some y→r.to t≤y):IsOff (X++[r]) t (some (r.to t)):=by
 refine⟨⟨r,by simp,hh,rfl⟩,fun q hq hq2=>?_⟩
 rcases F7.mp hq with hq|hq
 ·cases o with
  | none=>exact absurd hq2 (h q hq)
  | some y =>
   have:=h.2 q hq hq2
   have:=le y rfl
   grind
 ·rw[FZ] at hq;rw[hq];exact HD
theorem IsOut.skip {X:List Rr}{r:Rr}{t:Rat}{o:Option (Rat × Rat)}(h:IsOut X t o)(no:r.L<t):IsOut (X++[r]) t o:=by
 cases o with
 | none =>
  intro q hq
  rcases F7.mp hq with hq|hq
  ·exact h q hq
  ·rw[FZ] at hq;rw[hq];exact no
 | some p =>
  obtain⟨h0,⟨q,h1,h2⟩,h3⟩:=h
  refine⟨h0,⟨q,by simp[h1],h2⟩,fun q hq v tv hv=>?_⟩
  rcases F7.mp hq with hq|hq
  ·exact h3 q hq v tv hv
  ·rw[FZ] at hq;rw[hq] at hv
   have:=hv.2
   exfalso
   grind
theorem IsOut.more {X:List Rr}{r:Rr}{t:Rat}{o:Option (Rat × Rat)}{p:Rat × Rat}(h:IsOut X t o)(hp:IsOut [r] t (some p)) :
  (∀b,o=some b→¬((p.2=b.2∧p.1<b.1)∨p.2<b.2)→IsOut (X++[r]) t o)∧((o=none∨∃b,o=some b∧((p.2=b.2∧p.1<b.1)∨p.2<b.2))→IsOut (X++[r]) t (some p)):=by
 obtain⟨p0,⟨r',p1,p2,p3⟩,p4⟩:=hp
 rw[FZ] at p1
 subst p1
 refine⟨fun b e nb=>?_,fun hb=>?_⟩
 ·subst e
  obtain⟨h0,⟨q,h1,h2⟩,h3⟩:=h
  refine⟨h0,⟨q,by simp[h1],h2⟩,fun q hq v tv hv=>?_⟩
  rcases F7.mp hq with hq|hq
  ·exact h3 q hq v tv hv
  ·rw[FZ] at hq;rw[hq] at hv ⊢
   have:=p4 r' (by simp) v tv hv
   exact⟨by grind,fun e=>by grind⟩
 ·refine⟨p0,⟨r',by simp,p2,p3⟩,fun q hq v tv hv=>?_⟩
  rcases F7.mp hq with hq|hq
  ·rcases hb with rfl|⟨b,rfl,hb⟩
   ·have:=h q hq
    have:=hv.2
    exfalso
    grind
   ·have:=h.2.2 q hq v tv hv
    exact⟨by grind,fun e=>by grind⟩
  ·rw[FZ] at hq;rw[hq] at hv ⊢
   exact p4 r' (by simp) v tv hv
theorem Rr.line {r:Rr}(h:r.F<r.L):∃s,r.D=r.C+s*(r.L-r.F)∧∀t,r.to t=r.C+s*(t-r.F):=by
 have n:r.L-r.F≠0:=by grind
 refine⟨(r.D-r.C)/(r.L-r.F),by grind,fun t=>?_⟩
 unfold Rr.to
 rw[F_ (by grind)]
 grind
theorem Rr.to_L {r:Rr}(h:r.Ok):r.to r.L=r.D:=by
 unfold Rr.to
 by_cases e:r.F=r.L
 ·rw[GA e];exact h.eq e
 ·rw[F_ e]
  have:r.L-r.F≠0:=by grind
  grind
theorem qV {r:Rr}{t:Rat}(ok:r.Ok)(h:t≤r.L)(f:r.D<r.C):IsOut [r] t (some (r.L,r.D)):=by
 have lt:r.F<r.L:=by
  have:=ok.fl
  have:=ok.eq
  grind
 obtain⟨s,hs,hl⟩:=Rr.line lt
 have sn:s<0:=GH fun z=>by
  have:=IA (a:=s) (b:=r.L-r.F) (by grind) (by grind)
  grind
 refine⟨h,⟨r,by simp,⟨ok.fl,HD⟩,Rr.to_L ok⟩,fun q hq v tv hv=>?_⟩
 rw[FZ] at hq
 subst hq
 have:=hv.2
 have e:q.to v=q.D+(-s)*(q.L-v):=by rw[hl,hs];grind
 show q.D≤q.to v∧(q.to v=q.D→q.L≤v)
 have p:=IA (a:=-s) (b:=q.L-v) (by grind) (by grind)
 refine⟨by grind,fun e2=>GH fun z=>?_⟩
 have:=HE (a:=-s) (b:=q.L-v) (by grind) (by grind)
 grind
theorem iL {r:Rr}{t u:Rat}(ok:r.Ok)(h:t≤r.L)(f:r.C≤r.D)(hu:(r.F<t∧u=t)∨(t≤r.F∧u=r.F)):IsOut [r] t (some (u,r.to u)):=by
 have fl:=ok.fl
 refine⟨by grind,⟨r,by simp,⟨by grind,by grind⟩,rfl⟩,fun q hq v tv hv=>?_⟩
 rw[FZ] at hq
 subst hq
 show q.to u≤q.to v∧(q.to v=q.to u→u≤v)
 have hF:=hv.1
 have uv:u≤v:=by grind
 refine⟨?_,fun _=>uv⟩
 by_cases e:q.F=q.L
 ·unfold Rr.to;rw[GA e,GA e];exact HD
 ·obtain⟨s,hs,hl⟩:=Rr.line (r:=q) (by grind)
  have sn:0≤s:=GH fun z=>by
   have:=HE (a:=-s) (b:=q.L-q.F) (by grind) (by grind)
   grind
  rw[hl,hl]
  have:=IA (a:=s) (b:=v-u) sn (by grind)
  grind
noncomputable abbrev Rr.sc (e:Rat)(r:Rr):Rr:=⟨r.F/e,r.L/e,r.C/e,r.D/e⟩
theorem um {e x y:Rat}(he:0<e):x/e≤y/e↔x≤y:=by
 have a:x/e*e=x:=by grind
 have b:y/e*e=y:=by grind
 constructor
 ·intro h
  have:=IA (a:=y/e-x/e) (b:=e) (by grind) (by grind)
  grind
 ·intro h
  refine GH fun z=>?_
  have:=HE (a:=x/e-y/e) (b:=e) (by grind) he
  grind
theorem qa {k:Nat}{p q:Nat × Nat}(hp:Sz k p)(hq:Sz k q):decide (p.1*q.2<q.1*p.2)=true↔val p<val q:=by
 rw[decide_eq_true_eq];exact fB hp.pos hq.pos
theorem p8 {as st Q}(h:bJ as st Q):aq Γ de (frame 2 as) st (af st Q):=by
 obtain⟨k,q,t,rfl,hk,ok,tz,kk⟩:=h
 unfold de
 walk_at "WP"
 refine⟨_,_,rfl,tz.mono (by omega),ok.zf.mono (by omega),_,rfl,?_⟩
 by_cases a:val t<val q.f
 ·rw[ii tz ok.zf a,F_ (by decide)]
  exact .inl (kk false ⟨fun z=>(by cases z),fun z=>by have:=z.1;exfalso;have:val q.f≤val t:=z.1;grind⟩)
 ·rw[l8 tz ok.zf (by grind),GA (by decide)]
  refine⟨_,_,rfl,ok.zl.mono (by omega),tz.mono (by omega),_,rfl,?_⟩
  by_cases b:val q.l<val t
  ·rw[ii ok.zl tz b]
   exact .inl (kk false ⟨fun z=>(by cases z),fun z=>by have:val t≤val q.l:=z.2;exfalso;grind⟩)
  ·rw[l8 ok.zl tz (by grind)]
   exact .inl (kk true ⟨fun _=>⟨by show val q.f≤_;grind,by show _≤val q.l;grind⟩,fun _=>rfl⟩)
theorem vF {as st Q}(h:dM as st Q):aq Γ fq (frame 6 as) st (af st Q):=by
 obtain⟨j,m,q,t,rfl,⟨j1,j2⟩,ok,tz,hh,k⟩:=h
 unfold fq
 walk_at "WP"
 refine rY ?_
 have hF:val q.f≤val t:=hh.1
 have hL:val t≤val q.l:=hh.2
 by_cases e:q.f=q.l
 ·rw[HB e,GA rfl]
  refine .inl (k q.c ok.cc (ok.zc.mono (by omega)) ?_)
  unfold Rr.to
  rw[GA (show val q.f=val q.l by rw[e])]
 ·rw[GV e,F_ FX]
  have ne:val q.f≠val q.l:=fun z=>e (gu ok.cf ok.cl z)
  refine⟨j,j,j,j,m,_,_,_,_,_,rfl,by omega,⟨ok.zf,ok.zc,ok.zl,ok.zd,tz⟩,⟨by grind,hF,hL⟩,fun r cr zr vr=>.inl (k r cr (zr.mono (by omega)) ?_)⟩
  unfold Rr.to
  rw[F_ (show ¬val q.f=val q.l from ne),vr]
def OfI (st:AH)(X:List Rq)(t:Nat × Nat)(z:Nat)(i:Nat)(ρ:Fr)(s:AH):Prop:=s=st∧∃(o:Option (Nat × Nat)) (a b:Option PV),(∀p,o=some p→Cop p∧Sz z p)∧IsOff ((X.take i).map Rq.r) (val t) (o.map val)∧ρ=[some (.tup (X.map rqV)),some (fr t),some (qK o),a,b]
theorem AZ {as st Q}(h:fK as st Q):aq Γ hJ (frame 5 as) st (af st Q):=by
 obtain⟨j,m,X,t,rfl,⟨j1,j2⟩,hX,tz,k⟩:=h
 unfold hJ
 walk_at "WP"
 refine bT Γm (OfI st X t (m+4*j+2)) ⟨rfl,none,_,_,fun p hp=>(nomatch hp),fun r hr=>by simp at hr,rfl⟩ ?_ ?_
 ·rintro i v ρ s hi ⟨rfl,o,a,b,ho,hI,rfl⟩
  refine⟨trivial,?_⟩
  rw[F9] at hi
  obtain⟨q,hq,rfl⟩:=GK.mp hi
  have ok:=hX q (GE hq)
  have et:(X.take (i+1)).map Rq.r=(X.take i).map Rq.r++[q.r]:=by rw[List.take_succ,hq,HW];rfl
  have up:jv (m+j) q:=⟨ok.cf,ok.cl,ok.cc,ok.cd,ok.zf.mono (by omega),ok.zl.mono (by omega),ok.zc.mono (by omega),ok.zd.mono (by omega),ok.ok⟩
  walk_at "WP"
  refine⟨m+j,q,t,rfl,by omega,up,tz.mono (by omega),fun c hc=>?_⟩
  walk_at "WP"
  cases c with
  | false =>
   rw[F_ FX]
   refine⟨rfl,o,_,_,ho,?_,rfl⟩
   rw[et]
   exact hI.snoc fun z=>by have:=hc.mpr z;cases this
  | true =>
   rw[GA rfl]
   have hh:=hc.mp rfl
   refine⟨j,m,q,t,rfl,⟨j1,j2⟩,ok,tz,hh,fun p cp zp vp=>?_⟩
   cases o with
   | none =>
    walk_at "WPO"
    refine⟨rfl,some p,_,_,fun p' hp'=>by cases hp';exact⟨cp,zp⟩,?_,rfl⟩
    rw[et]
    show IsOff _ _ (some (val p))
    rw[vp]
    exact hI.new hh fun y hy=>by cases hy
   | some x =>
    obtain⟨cx,zx⟩:=ho x rfl
    walk_at "WPO"
    refine⟨_,_,rfl,zp.mono (by omega),zx.mono (by omega),?_⟩
    by_cases lt:val p<val x
    ·rw[ii zp zx lt]
     walk_at "WP"
     refine⟨rfl,some p,_,_,fun p' hp'=>by cases hp';exact⟨cp,zp⟩,?_,rfl⟩
     rw[et]
     show IsOff _ _ (some (val p))
     rw[vp]
     exact hI.new hh fun y hy=>by cases hy;rw[←vp];exact JZ lt
    ·rw[l8 zp zx (by grind)]
     walk_at "WP"
     refine⟨rfl,some x,_,_,ho,?_,rfl⟩
     rw[et]
     exact IsOff.keep hI fun _=>by rw[←vp];grind
 ·rintro ρ s ⟨rfl,o,a,b,ho,hI,rfl⟩
  refine⟨trivial,?_⟩
  rw[GI,GZ] at hI
  walk_at "WP"
  exact .inl (k o ho hI)
theorem AY {as st Q}(h:fL as st Q):aq Γ gY (frame 1 as) st (af st Q):=by
 obtain⟨k,q,rfl,hk,ok,kk⟩:=h
 unfold gY
 walk_at "WP"
 exact⟨_,_,rfl,ok.zd.mono (by omega),ok.zc.mono (by omega),.inl (kk _ (qa ok.zd ok.zc))⟩
theorem rO {as st Q}(h:ce as st Q):aq Γ dL (frame 3 as) st (af st Q):=by
 obtain⟨j,m,q,t,rfl,⟨j1,j2⟩,ok,ct,tz,tl,k⟩:=h
 unfold dL
 walk_at "WP"
 refine⟨j,q,rfl,by omega,ok,fun b hb=>?_⟩
 walk_at "WP"
 cases b with
 | true =>
  rw[GA rfl]
  exact .inl (k (q.l,q.d) ok.cl ok.cd (ok.zl.mono (by omega)) (ok.zd.mono (by omega)) (qV ok.ok tl (hb.mp rfl)))
 | false =>
  rw[F_ FX]
  have nf:¬q.r.D<q.r.C:=fun z=>by have:=hb.mpr z;cases this
  have rs:q.r.C≤q.r.D:=by grind
  have fl:val q.f≤val q.l:=ok.ok.fl
  refine⟨_,_,rfl,ok.zf.mono (by omega),tz.mono (by omega),?_⟩
  have zf:Sz (m+j) q.f:=ok.zf.mono (by omega)
  have zt:Sz (m+j) t:=tz.mono (by omega)
  by_cases a:val q.f<val t
  ·rw[ii zf zt a]
   walk_at "WP"
   refine⟨j,m+j,q,t,rfl,⟨j1,by omega⟩,ok,zt,⟨by show val q.f≤_;grind,tl⟩,fun p cp zp vp=>.inl (k (t,p) ct cp (zt.mono (by omega)) (zp.mono (by omega)) ?_)⟩
   show IsOut _ _ (some (val t,val p))
   rw[vp]
   exact iL ok.ok tl rs (.inl ⟨a,rfl⟩)
  ·rw[l8 zf zt (by grind)]
   walk_at "WP"
   refine⟨j,m+j,q,q.f,rfl,⟨j1,by omega⟩,ok,zf,⟨HD,fl⟩,fun p cp zp vp=>.inl (k (q.f,p) ok.cf cp (zf.mono (by omega)) (zp.mono (by omega)) ?_)⟩
   show IsOut _ _ (some (val q.f,val p))
   rw[vp]
   exact iL ok.ok tl rs (.inr ⟨by show val t≤val q.f;grind,rfl⟩)
theorem qk {as st Q}(h:cg as st Q):aq Γ dX (frame 2 as) st (af st Q):=by
 obtain⟨k,p,q,rfl,hk,⟨c1,c2,c3,c4⟩,⟨z1,z2,z3,z4⟩,kk⟩:=h
 unfold dX
 walk_at "WP"
 refine rY ?_
 by_cases e:p.2=q.2
 ·rw[HB e,GA rfl]
  refine⟨_,_,rfl,z1.mono (by omega),z3.mono (by omega),.inl (kk _ ?_)⟩
  rw[qa z1 z3,e]
  grind
 ·rw[GV e,F_ FX]
  refine⟨_,_,rfl,z2.mono (by omega),z4.mono (by omega),.inl (kk _ ?_)⟩
  rw[qa z2 z4]
  have:val p.2≠val q.2:=fun z=>e (gu c2 c4 z)
  grind
def SoI (st:AH)(X:List Rq)(t:Nat × Nat)(z:Nat)(i:Nat)(ρ:Fr)(s:AH):Prop:=s=st∧∃(o:Option Fr2) (a b c:Option PV),(∀p,o=some p→(Cop p.1∧Cop p.2)∧Sz z p.1∧Sz z p.2)∧IsOut ((X.take i).map Rq.r) (val t) (o.map v2)∧ρ=[some (.tup (X.map rqV)),some (.bl true),some (fr t),a,some (o2V o),b,c]
theorem wg {as st Q}(h:dR as st Q):aq Γ fu (frame 7 as) st (af st Q):=by
 obtain⟨j,m,X,w,t,rfl,⟨j1,j2⟩,hX,ct,tz,k⟩:=h
 unfold fu
 walk_at "WP"
 cases w with
 | false =>
  refine⟨j,m,X,t,rfl,⟨j1,by omega⟩,hX,tz,fun o ho hI=>?_⟩
  cases o with
  | none =>
   walk_at "WPO"
   exact .inl (k none (fun p hp=>(nomatch hp)) (fun z=>by cases z) fun _=>⟨hI,fun p hp=>(nomatch hp)⟩)
  | some x =>
   obtain⟨cx,zx⟩:=ho x rfl
   walk_at "WPO"
   exact .inl (k (some (t,x)) (fun p hp=>by cases hp;exact⟨⟨ct,cx⟩,tz.mono (by omega),zx.mono (by omega)⟩) (fun z=>by cases z) fun _=>⟨hI,fun p hp=>by cases hp;rfl⟩)
 | true =>
  refine bT Γm (SoI st X t (m+5*j+2)) ⟨rfl,none,_,_,_,fun p hp=>(nomatch hp),fun r hr=>by simp at hr,rfl⟩ ?_ ?_
  ·rintro i v ρ s hi ⟨rfl,o,a,b,c,ho,hI,rfl⟩
   refine⟨trivial,?_⟩
   rw[F9] at hi
   obtain⟨q,hq,rfl⟩:=GK.mp hi
   have ok:=hX q (GE hq)
   have et:(X.take (i+1)).map Rq.r=(X.take i).map Rq.r++[q.r]:=by rw[List.take_succ,hq,HW];rfl
   have zl:Sz (m+j) q.l:=ok.zl.mono (by omega)
   have zt:Sz (m+j) t:=tz.mono (by omega)
   walk_at "WP"
   refine⟨_,_,rfl,ok.zl.mono (by omega),tz.mono (by omega),?_⟩
   by_cases lt:val q.l<val t
   ·rw[ii zl zt lt]
    walk_at "WP"
    refine⟨rfl,o,_,_,_,ho,?_,rfl⟩
    rw[et]
    exact hI.skip lt
   ·rw[l8 zl zt (by grind)]
    walk_at "WP"
    refine⟨j,m,q,t,rfl,⟨j1,j2⟩,ok,ct,tz,by show val t≤val q.l;grind,fun p c1 c2 z1 z2 hp=>?_⟩
    obtain⟨m1,m2⟩:=hI.more hp
    cases o with
    | none =>
     simp only[o2V]
     walk_at "WP"
     refine⟨rfl,some p,_,_,_,fun p' hp'=>by cases hp';exact⟨⟨c1,c2⟩,z1,z2⟩,?_,rfl⟩
     rw[et]
     exact m2 (.inl rfl)
    | some b =>
     obtain⟨⟨d1,d2⟩,y1,y2⟩:=ho b rfl
     simp only[o2V]
     walk_at "WP"
     refine⟨m+5*j+2,p,b,rfl,by omega,⟨c1,c2,d1,d2⟩,⟨z1,z2,y1,y2⟩,fun x hx=>?_⟩
     walk_at "WP"
     cases x with
     | true =>
      rw[GA rfl]
      refine⟨rfl,some p,_,_,_,fun p' hp'=>by cases hp';exact⟨⟨c1,c2⟩,z1,z2⟩,?_,rfl⟩
      rw[et]
      exact m2 (.inr ⟨v2 b,rfl,hx.mp rfl⟩)
     | false =>
      rw[F_ FX]
      refine⟨rfl,some b,_,_,_,ho,?_,rfl⟩
      rw[et]
      exact m1 (v2 b) rfl fun z=>by have:=hx.mpr z;cases this
  ·rintro ρ s ⟨rfl,o,a,b,c,ho,hI,rfl⟩
   refine⟨trivial,?_⟩
   rw[GI,GZ] at hI
   walk_at "WP"
   exact .inl (k o ho (fun _=>hI) fun z=>by cases z)
theorem AM {ps:List (Str × PV)}{i:Nat}{x:PV}(h:(cw .keys (kd ps))[i]?=some x):∃p,ps[i]?=some p∧x=.str p.1:=by
 unfold cw kd at h
 rw[F9,F9] at h
 cases q:ps[i]? with
 | none=>rw[q] at h;cases h
 | some p=>rw[q] at h;cases h;exact⟨p,rfl,rfl⟩
theorem zF {wk:DW}{ps:List (Str × PV)}:(cw wk (kd ps)).length=ps.length:=by cases wk <;> simp[cw]
theorem bQ:∀ {ps:List (Str × PV)}{p:Str × PV},(ps.map (·.1)).Nodup→p∈ps→bd (kd ps) (.inr p.1)=some p.2
 | [],p,_,h=>nomatch h
 | q::ps,p,hn,h=>by
  rw[GC,HL] at hn
  by_cases e:q.1=p.1
  ·rcases HA.mp h with z|z
   ·subst z;simp[bd,kd]
   ·exact absurd (e ▸ F1.mpr ⟨p,z,rfl⟩) hn.1
  ·rcases HA.mp h with z|z
   ·subst z;exact absurd rfl e
   ·have:=bQ hn.2 z
    unfold bd kd at this ⊢
    rw[GC,List.find?_cons]
    have ne:decide ((Sum.inr q.1:Key)=Sum.inr p.1)=false:=GV fun z=>e (J8 z)
    simp only[ne]
    exact this
theorem Ao {ps:List (Str × PV)}{z:Str}{v:PV}(h:z ∉ ps.map (·.1)):ic (kd ps) (.inr z) v=kd (ps++[(z,v)]):=by
 unfold ic
 have:((kd ps).any fun kv=>decide (kv.1=(.inr z:Key)))=false:=by
  rw[List.any_eq_false]
  intro x hx
  obtain⟨p,hp,rfl⟩:=F1.mp hx
  simp only[decide_eq_true_eq]
  exact fun e=>h (F1.mpr ⟨p,hp,J8 e⟩)
 rw[this,F_ FX]
 simp[kd]
theorem yh {ps:List (Str × PV)}{z:Str}{v:PV}(h:z∈ps.map (·.1)):ic (kd ps) (.inr z) v=kd (ps.map fun p=>if p.1=z then (p.1,v) else p):=by
 unfold ic
 have:((kd ps).any fun kv=>decide (kv.1=(.inr z:Key)))=true:=by
  rw[List.any_eq_true]
  obtain⟨p,hp,rfl⟩:=F1.mp h
  exact⟨_,F1.mpr ⟨p,hp,rfl⟩,by simp⟩
 rw[this,GA rfl]
 unfold kd
 rw[GU,GU]
 refine IM fun p _=>?_
 simp only[Function.comp,Sum.inr.injEq]
 by_cases e:p.1=z
 ·rw[GA e,GA e]
 ·rw[F_ e,F_ e]
theorem xY {st:AH}{n:Nat}{c d:Cell}(h:st[n]?=some c):(st.set n d).set n c=st:=by
 rw[List.set_set]
 obtain⟨h1,h2⟩:=FY.mp h
 rw[←h2]
 exact List.set_getElem_self h1
noncomputable def abc:List Nat:=[97,98,99,100,101,102,103,104,105,106,107,108,109,110,111,112,113,114,115,116,117,118,119,120,121,122]
theorem yy:("abcdefghijklmnopqrstuvwxyz":Str).cps.toList=abc:=by decide +kernel
theorem A2:("abcdefghijklmnopqrstuvwxyz":Str).length=26:=by decide +kernel
theorem Nm.app {z:Str}{c:Nat}(h:Nm z)(hl:z.length≤7)(hc:c∈abc):Nm (z++(⟨#[c]⟩:Str)):=by
 have hc':c<1114112:=by
  have:∀c∈abc,c<1114112:=by decide
  exact this c hc
 refine⟨?_,?_⟩
 ·rw[strLen_append]
  show z.length+1≤8
  omega
 ·show (z.cps++#[c]).all (·< 1114112)=true
  rw[Array.all_append,h.ok]
  simp[hc']
theorem Nm.nil:Nm "":=⟨by decide +kernel,by decide +kernel⟩
theorem Nm.cut {z:Str}(h:Nm z):Nm (jO z none (some 7))∧(jO z none (some 7)).length≤7:=by
 have li:(Builtin.Str.strSliceIndices none (some 7) 1 z.length).length≤7:=by
  unfold Builtin.Str.strSliceIndices sliceRange
  simp
  omega
 unfold jO
 split
 ·rename_i e
  have e:=eq_of_beq e
  exact⟨h,by omega⟩
 ·have l2:((Builtin.Str.strSliceIndices none (some 7) 1 z.length).filterMap (z.cps[·]?)).length≤7:=GW (IE _ _) li
  refine⟨⟨?_,?_⟩,?_⟩
  ·show (List.toArray _).size≤8
   rw[GM]
   omega
  ·show (List.toArray _).all (·< 1114112)=true
   rw[List.all_toArray,List.all_eq_true]
   intro c hc
   obtain⟨i,_,hi⟩:=JO.mp hc
   exact Array.all_eq_true_iff_forall_mem.mp h.ok c (Array.mem_of_getElem? hi)
  ·show (List.toArray _).size≤7
   rw[GM]
   exact l2
theorem jp:∀ {xs ys:List Str},xs.Nodup→(∀x∈xs,x∈ys)→xs.length≤ys.length
 | [],ys,_,_=>IZ _
 | x::xs,ys,hn,h=>by
  rw[HL] at hn
  have hx:=h x GQ
  have:=jp (xs:=xs) (ys:=ys.erase x) hn.2 fun y hy=>(List.mem_erase_of_ne (a:=y) (b:=x) (fun e=>hn.1 (by rw[←e];exact hy))).mpr (h y (GO _ hy))
  rw[List.length_erase_of_mem hx] at this
  have:0<ys.length:=List.length_pos_of_mem hx
  simp only[List.length_cons]
  omega
noncomputable def f7 (z:Str):List Str:=abc.map fun c=>z++(⟨#[c]⟩:Str)
theorem wJ {z:Str}:(f7 z).Nodup:=by
 unfold f7
 refine List.pairwise_map.mpr ?_
 have:abc.Nodup:=by decide
 refine List.Pairwise.imp (fun {a b} ne e=>ne ?_) this
 have e2:(z.cps++#[a])=(z.cps++#[b]):=GR Str.cps e
 have e3:=GR Array.toList e2
 simpa using e3
theorem sT {z:Str}{names:List Str}(h:names.length<26):∃x r,(f7 z).filter (fun x=>!(names.any fun j=>j == x))=x::r:=by
 cases q:(f7 z).filter (fun x=>!(names.any fun j=>j == x)) with
 | cons x r=>exact⟨x,r,rfl⟩
 | nil =>
  have all:∀x∈f7 z,x∈names:=fun x hx=>by
   have:=List.filter_eq_nil_iff.mp q x hx
   simp only[Bool.not_eq_true,Bool.not_eq_false'] at this
   obtain⟨j,hj,e⟩:=List.any_eq_true.mp this
   rw[←eq_of_beq e]
   exact hj
  have:=jp wJ all
  have:(f7 z).length=26:=by simp[f7,abc]
  omega
theorem v8:fP ("abcdefghijklmnopqrstuvwxyz":Str)=abc.map fun c=>.str ⟨#[c]⟩:=by unfold fP;rw[yy]
noncomputable def iM (names:List Str)(xs:List Str):List Str:=xs.filter fun x=>!(names.any fun j=>j == x)
theorem wu {names xs:List Str}{i:Nat}{x:Str}(h:xs[i]?=some x)(e:(names.any fun j=>j == x)=false):iM names (xs.take (i+1))=iM names (xs.take i)++[x]:=by
 unfold iM;rw[HK,h];simp only[Option.toList_some,List.filter_append];rw[List.filter_cons_of_pos (by rw[e];rfl),List.filter_nil]
theorem wB {names xs:List Str}{i:Nat}{x:Str}(h:xs[i]?=some x)(e:(names.any fun j=>j == x)=true):iM names (xs.take (i+1))=iM names (xs.take i):=by
 unfold iM;rw[HK,h];simp only[Option.toList_some,List.filter_append];rw[List.filter_cons_of_neg (by rw[e];decide),List.filter_nil,IT]
theorem rA {as st Q}(h:ci as st Q):aq Γ dQ (frame 5 as) st (af st Q):=by
 obtain⟨p,t,names,rfl,hp,ht,hn,nl,hN,k⟩:=h
 have pl:=hp.lt
 unfold dQ
 refine bp (fun ρ s=>st=s∧ρ=[some (.ref p),some (.ref t),some (.str ""),none,none]) (by walk_at "WPN") ?_
 rintro _ _ ⟨rfl,rfl⟩
 refine bp (fun ρ s=>∃z a,Gr st p s∧Nm z∧ρ=[some (.ref p),some (.ref t),some (.str z),a,none]) ?_ ?_
 ·walk_at "WPN"
  have g0:Gr st p (st++[Cell.lst [PV.int 2,PV.int 8]]):=(Gr.refl hp).app
  refine⟨p,2,rfl,g0.pot,by decide,by decide,fun y s1 y0 y1 g1=>?_⟩
  have hl:s1[st.length]?=some (.lst [.int 2,.int 8]):=g1.get am (by omega)
  obtain⟨v,ev,m,rfl,m0,m1⟩:=uG (L:=[PV.int 2,PV.int 8]) (P:=fun v=>∃m:Int,v=.int m∧0<m∧m≤8) (fun v hv=>by
   simp only[List.mem_cons,List.not_mem_nil,or_false] at hv
   rcases hv with rfl|rfl
   ·exact⟨2,rfl,by decide,by decide⟩
   ·exact⟨8,rfl,by decide,by decide⟩) y0 y1
  walk_at "WPN"
  refine⟨_,ad hl,_,ev,(g0.trans g1).tmp (by rw[PV.bel]) fun s2 g2 l2=>?_⟩
  refine⟨p,m,rfl,g2.pot,m0,by omega,fun x s3 x0 x1 g3=>?_⟩
  walk_at "WPN"
  obtain⟨N,hN⟩:∃N:Nat,1+x=N:=⟨(1+x).toNat,by omega⟩
  rw[hN]
  refine⟨by omega,by omega,?_⟩
  refine bT Γm (fun i ρ s=>∃z a,Gr st p s∧Nm z∧z.length≤i∧ρ=[some (.ref p),some (.ref t),some (.str z),a,none]) ⟨"",_,g2.trans g3,.nil,by decide +kernel,rfl⟩ ?_ ?_
  ·rintro i v ρ s hi ⟨z,a,g,hz,zl,rfl⟩
   obtain⟨rfl,hi⟩:=dO hi
   refine⟨trivial,?_⟩
   walk_at "WPN"
   refine⟨p,26,rfl,g.pot,by decide,by decide,fun y s4 y0 y1 g4=>?_⟩
   walk_at "WPN"
   obtain⟨m,rfl⟩:∃m:Nat,y=m:=⟨y.toNat,by omega⟩
   have hm:m<abc.length:=by have:abc.length=26:=rfl;omega
   have c:=JW hm
   have zl7:z.length≤7:=by omega
   refine⟨by rw[A2];decide,_,by rw[yy];exact fe (GX hm),?_⟩
   exact⟨by show z.length+1≤100000;omega,g.trans g4,_,hz.app zl7 c,by rw[strLen_append];show z.length+1≤i+1;omega,rfl⟩
  ·rintro ρ s ⟨z,a,g,hz,zl,rfl⟩
   exact⟨trivial,g,z,hz,_,rfl⟩
 ·rintro _ s ⟨z,a,g,hz,rfl⟩
  have hn1:=g.get hn ht
  refine bp (fun ρ s=>∃z a b,Gr st p s∧Nm z∧ρ=[some (.ref p),some (.ref t),some (.str z),a,b]) ?_ ?_
  ·walk_at "WPN"
   refine .inl ⟨names,hn1,aX (fun c=>?_) fun c=>⟨g,z,hz,rfl⟩⟩
   rw[v8]
   obtain⟨cz,cl⟩:=hz.cut
   refine⟨by simp[abc],comp_map Γm (fun x=>match x with | .str c=>.str (jO z none (some 7)++c)|v=>v) trivial (fun x hx=>?_) ?_⟩
   ·obtain⟨c,hc,rfl⟩:=F1.mp hx
    walk_at "WPN"
    refine⟨by have:=hz.len;omega,?_⟩
    show (jO z none (some 7)).length+1≤100000
    omega
   ·have e1:(abc.map fun c=>PV.str ⟨#[c]⟩).map (fun x=>match x with | .str c=>PV.str (jO z none (some 7)++c)|v=>v)=sV (f7 (jO z none (some 7))):=by
     unfold f7 sV
     rw[GU,GU]
     rfl
    rw[e1]
    generalize hC:f7 (jO z none (some 7))=C
    have cl26:C.length=26:=by rw[←hC];simp[f7,abc]
    refine⟨_,ad am,by simp[cl26],?_⟩
    refine i5 Γm (fun i acc s'=>s'=s++[.lst (sV C)]∧acc=sV (iM names (C.take i))) ⟨rfl,by simp[iM]⟩ ?_ ?_
    ·rintro i x acc s' hi ⟨rfl,rfl⟩
     rw[F9] at hi
     obtain⟨x,hx,rfl⟩:=GK.mp hi
     refine⟨rfl,?_⟩
     walk_at "WPN"
     refine .inl ⟨names,cP hn1,aX (fun c=>?_) fun c=>?_⟩
     ·rw[wu hx c];simp[sV]
     ·rw[wB hx (eq_true_of_ne_false c)]
    ·rintro acc s' ⟨rfl,rfl⟩
     refine⟨rfl,?_⟩
     rw[GI,GZ]
     obtain⟨x,r,hf⟩:=sT (z:=jO z none (some 7)) (names:=names) (by omega)
     rw[hC] at hf
     have hf:iM names C=x::r:=hf
     rw[hf]
     have hx:Nm x:=by
      have:x∈C:=(List.filter_sublist (p:=fun x=>!(names.any fun j=>j == x))).subset (by rw[show C.filter _=x::r from hf];exact GQ)
      rw[←hC] at this
      obtain⟨c,hc,rfl⟩:=F1.mp this
      exact cz.app cl hc
     refine⟨_,ad am,.str x,by simp[atI,ixN],?_⟩
     exact .app (by rw[PV.bel]) ⟨g.app,x,hx,rfl⟩
  ·rintro _ s ⟨z,a,b,g,hz,rfl⟩
   have hn1:=g.get hn ht
   walk_at "WP"
   refine⟨⟨_,aU hn1⟩,_,hn1,by simp;omega,.inl (k z _ hz ⟨by rw[JK];exact g.len,fun i h1 h2 h3=>by rw[F6 (Ne.symm h3)];exact g.old i h1 h2,?_⟩ ?_)⟩
   ·obtain⟨q,r,e,w⟩:=g.pot
    exact⟨q,r,by rw[F6 ht];exact e,w⟩
   ·rw[GB (ai hn1)]
    simp[sV]
theorem zy {names:List Str}(h:∀z∈names,Nm z){y:Int}(y0:0≤y)(y1:y<names.length):∃z,atI (sV names) y=some (.str z)∧Nm z:=by
 obtain⟨v,ev,z,rfl,hz⟩:=uG (L:=sV names) (P:=fun v=>∃z,v=.str z∧Nm z) (fun v hv=>by
  obtain⟨z,hz,rfl⟩:=F1.mp hv
  exact⟨z,rfl,h z hz⟩) y0 (by simpa[sV] using y1)
 exact⟨z,ev,hz⟩
theorem u4 {L:List Int}{B:Int}(h:∀i∈L,0<i∧i≤B){y:Int}(y0:0≤y)(y1:y<L.length):∃i,atI (L.map PV.int) y=some (.int i)∧0<i∧i≤B:=by
 obtain⟨v,ev,i,rfl,hi⟩:=uG (L:=L.map PV.int) (P:=fun v=>∃i,v=.int i∧0<i∧i≤B) (fun v hv=>by
  obtain⟨z,hz,rfl⟩:=F1.mp hv
  exact⟨z,rfl,h z hz⟩) y0 (by simpa using y1)
 exact⟨i,ev,hi⟩
theorem rnb {a b c d:Int}(ha:0≤a)(hab:a≤b)(hac:a≤c)(hbd:b≤d)(he:a=b→c=d)(hc1:c≤10 ^ 11)(hd1:d≤10 ^ 11):RNb (10 ^ 11) (.tup [.int a,.int b,.int c,.int d]) :=
 ⟨a.toNat,b.toNat,c.toNat,d.toNat,by rw[HI ha,HI (J0 ha hab),HI (J0 ha hac),HI (J0 (J0 ha hab) hbd)],⟨by omega,by omega,by omega,fun e=>by have:=he (by omega);omega,by omega,by omega,by omega⟩,by omega,by omega⟩
theorem jy {as st Q}(h:aR as st Q):aq Γ bI (frame 5 as) st (af st Q):=by
 obtain⟨p,far,rfl,hp,f0,f1,k⟩:=h
 have fb:far<2 ^ 200:=by omega
 unfold bI
 walk_at "WP"
 refine⟨p,far,rfl,hp,f0,fb,fun x s1 x0 x1 g1=>?_⟩
 walk_at "WP"
 refine⟨p,far,rfl,g1.pot,f0,fb,fun y s2 y0 y1 g2=>?_⟩
 walk_at "WP"
 refine⟨p,3,rfl,g2.pot,by decide,by decide,fun z s3 z0 z1 g3=>?_⟩
 walk_at "WP"
 refine⟨tE,p,far,rfl,g3.pot,f0,fb,fun u s4 u0 u1 g4=>?_⟩
 walk_at "WP"
 have g:=((g1.trans g2).trans g3).trans g4
 obtain⟨m0,m1⟩:=tq (b:=decide (0<z)) y0
 refine aX (fun e=>?_) fun e=>?_
 ·exact .inl (k _ _ (rnb x0 (by omega) (by omega) (by omega) (fun _=>rfl) (by omega) (by omega)) g)
 ·refine⟨p,far,rfl,g4.pot,f0,fb,fun v s5 v0 v1 g5=>?_⟩
  walk_at "WP"
  exact .inl (k _ _ (rnb x0 (by omega) (by omega) (by omega) (fun q=>absurd q (by omega)) (by omega) (by omega)) (g.trans g5))
def RrI (st:AH)(p:Nat)(far many:Int)(m:Nat)(ρ:Fr)(s:AH):Prop:=∃(L:List PV) (b a:Int) (lo en:Option PV),Gr st p s∧s[st.length]?=some (.lst L)∧(∀v∈L,RNb (10 ^ 11) v)∧m=(many-L.length).toNat∧L.length≤3∧0≤b∧b≤(L.length+1)*10 ^ 9∧0≤a∧a≤(L.length+1)*10 ^ 9 ∧
 ρ=[some (.ref p),some (.int far),some (.int many),some (.int b),some (.int a),some (.ref st.length),lo,en]
theorem jF {as st Q}(h:aQ as st Q):aq Γ bH (frame 8 as) st (af st Q):=by
 obtain⟨p,far,many,rfl,hp,f0,f1,m0,m1,k⟩:=h
 have fb:far<2 ^ 200:=by omega
 have g0:Gr st p (st++[.lst []]):=(Gr.refl hp).app
 have i0:RrI st p far many (many-0).toNat [some (.ref p),some (.int far),some (.int many),some (.int 0),some (.int 0),some (.ref st.length),none,none] (st++[.lst []]):=⟨[],0,0,none,none,g0,am,fun v hv=>(nomatch hv),by simp,by simp,by omega,by simp,by omega,by simp,rfl⟩
 unfold bH
 refine bp (fun ρ s=>st=s∧ρ=[some (.ref p),some (.int far),some (.int many),some (.int 0),some (.int 0),none,none,none]) (by walk_at "WPN") ?_
 rintro _ _ ⟨rfl,rfl⟩
 refine bp (fun ρ s=>s=st++[.lst []]∧ρ=[some (.ref p),some (.int far),some (.int many),some (.int 0),some (.int 0),some (.ref st.length),none,none]) (by walk_at "WPN") ?_
 rintro _ _ ⟨rfl,rfl⟩
 refine bp (fun ρ s=>∃m,RrI st p far many m ρ s) ?_ ?_
 ·walk_at "WPN"
  refine aX (fun c=>?_) fun c=>?_
  ·refine⟨p,4,rfl,g0.pot,by decide,by decide,fun x s1 x0 x1 g1=>?_⟩
   walk_at "WPN"
   have gg:=g0.trans g1
   have hL:s1[st.length]?=some (.lst []):=g1.get am (by have:=hp.lt;omega)
   refine aX (fun c2=>?_) fun c2=>?_
   ·refine⟨p,far,rfl,g1.pot,f0,fb,fun y s2 y0 y1 g2=>?_⟩
    walk_at "WPN"
    have hL2:s2[st.length]?=some (.lst []):=g2.get hL (by have:=hp.lt;omega)
    refine⟨⟨_,aU hL2⟩,_,hL2,by simp,_,_,_,_,_,_,(gg.trans g2).push (F2 _),GB (ai hL2),?_,rfl,?_,?_,?_,?_,?_,rfl⟩
    ·intro v hv
     simp only[List.nil_append,List.mem_singleton] at hv
     subst hv
     exact rnb (by omega) (by omega) (by omega) (by omega) (fun _=>rfl) (by omega) (by omega)
    all_goals (first|omega|(simp;done)|(simp;omega))
   ·exact⟨_,[],0,0,none,none,gg,hL,fun v hv=>(nomatch hv),rfl,by simp,by omega,by simp,by omega,by simp,rfl⟩
  ·exact⟨_,i0⟩
 ·rintro ρ s ⟨m,hI⟩
  refine bp (fun ρ s=>∃m,RrI st p far many m ρ s) ?_ ?_
  ·walk_at "WPN"
   refine io Γm (RrI st p far many) hI ?_
   rintro m ρ s ⟨L,b,a,lo,en,g,hL,hv,rfl,ll,b0,b1,a0,a1,rfl⟩
   walk_at "WPN"
   have ne:st.length≠p:=by have:=hp.lt;omega
   refine⟨_,ad hL,aX (fun c=>?_) fun c=>?_⟩
   ·refine⟨p,far,rfl,g.pot,f0,fb,fun x s1 x0 x1 g1=>?_⟩
    refine⟨p,2,rfl,g1.pot,by decide,by decide,fun y s2 y0 y1 g2=>?_⟩
    walk_at "WPN"
    refine⟨tE,p,far,rfl,g2.pot,f0,fb,fun z s3 z0 z1 g3=>?_⟩
    walk_at "WPN"
    refine⟨p,far,rfl,g3.pot,f0,fb,fun u s4 u0 u1 g4=>?_⟩
    refine⟨p,3,rfl,g4.pot,by decide,by decide,fun v s5 v0 v1 g5=>?_⟩
    walk_at "WPN"
    have g6:=(((g1.trans g2).trans g3).trans g4).trans g5
    have hL5:=g6.get hL ne
    obtain⟨q0,q1⟩:=tq (b:=decide (y=1)) x0
    obtain⟨w0,w1⟩:=tq (b:=decide (0<v)) u0
    generalize x*b2z (decide (y=1))=X at *
    generalize u*b2z (decide (0<v))=U at *
    have n1:(if a<b then b else a)≤((L.length:Int)+1)*10 ^ 9:=by split <;> omega
    have n2:0≤(if a<b then b else a):=by split <;> omega
    have n5:b≤(if a<b then b else a):=by split <;> omega
    generalize (if a<b then b else a)=A at *
    have n3:(if A+X<b+1+z then b+1+z else A+X)≤((L.length:Int)+1)*10 ^ 9+2*10 ^ 8:=by split <;> omega
    have n4:0≤(if A+X<b+1+z then b+1+z else A+X):=by split <;> omega
    have n6:b+1+z≤(if A+X<b+1+z then b+1+z else A+X):=by split <;> omega
    generalize (if A+X<b+1+z then b+1+z else A+X)=B at *
    refine⟨tE,⟨_,aU hL5⟩,_,hL5,by omega,?_⟩
    have le:(L++[PV.tup [PV.int b,PV.int (b+1+z),PV.int (A+X),PV.int (B+U)]]).length=L.length+1:=by simp
    refine⟨(many-((L.length+1:Nat):Int)).toNat,by omega,_,_,_,_,_,(g.trans g6).push (F2 _),GB (ai hL5),?_,by rw[le],by rw[le];omega,?_,?_,?_,?_,rfl⟩
    ·intro v hm
     rcases F7.mp hm with hm|hm
     ·exact hv v hm
     ·rw[FZ] at hm
      subst hm
      exact rnb (by omega) (by omega) (by omega) (by omega) (fun q=>absurd q (by omega)) (by omega) (by omega)
    all_goals (try rw[le])
    all_goals omega
   ·exact⟨_,_,_,_,_,_,g,hL,hv,rfl,ll,b0,b1,a0,a1,rfl⟩
  ·rintro ρ s ⟨m,L,b,a,lo,en,g,hL,hv,rfl,ll,b0,b1,a0,a1,rfl⟩
   walk_at "WP"
   exact .inl (k _ _ _ g (F2 _) hL hv (by omega))
theorem oT {as st Q}(h:bM as st Q):aq Γ db (frame 4 as) st (af st Q):=by
 obtain⟨p,w,far,rfl,hp,f0,f1,k⟩:=h
 unfold db
 walk_at "WP"
 refine⟨p,4,rfl,hp,by decide,by decide,fun x s1 x0 x1 g1=>?_⟩
 walk_at "WP"
 cases w with
 | false =>
  walk_at "WP"
  refine⟨p,far,x,rfl,g1.pot,f0,f1,x0,by omega,fun n L s2 g2 hn hL hv hl=>?_⟩
  exact .inl (k n L s2 (g1.trans g2) (GW g1.len hn) hL hv hl)
 | true =>
  walk_at "WP"
  obtain⟨N,rfl⟩:∃N:Nat,x=N:=⟨x.toNat,by omega⟩
  refine⟨by omega,by omega,by simp[di];omega,?_⟩
  refine i5 Γm (fun i acc s=>Gr st p s∧(∀v∈acc,RNb (10 ^ 11) v)∧acc.length=i) ⟨g1,fun v hv=>(nomatch hv),rfl⟩ ?_ ?_
  ·rintro i v acc s hi ⟨g,hv,hl⟩
   refine⟨trivial,?_⟩
   walk_at "WP"
   refine⟨p,far,rfl,g.pot,f0,f1,fun u s2 hu g2=>⟨g.trans g2,fun y hy=>?_,by simp[hl]⟩⟩
   rcases F7.mp hy with hy|hy
   ·exact hv y hy
   ·rw[FZ] at hy;subst hy;exact hu
  ·rintro acc s ⟨g,hv,hl⟩
   refine⟨trivial,.inl (k _ _ _ g.app g.len am hv ?_)⟩
   rw[hl]
   simp[di]
   omega
theorem Pre.refl {st:AH}:Pre st st:=⟨[],by simp⟩
theorem Pre.app {st s g:AH}(h:Pre st s):Pre st (s++g):=by obtain⟨a,rfl⟩:=h;exact⟨a++g,by simp⟩
theorem Pre.trans {st s r:AH}(h:Pre st s)(h':Pre s r):Pre st r:=by obtain⟨a,rfl⟩:=h;obtain⟨b,rfl⟩:=h';exact⟨a++b,by simp⟩
theorem Pre.set {st s:AH}{n:Nat}{c:Cell}(h:Pre st s)(hn:st.length≤n):Pre st (s.set n c):=by
 obtain⟨a,rfl⟩:=h
 exact⟨a.set (n-st.length) c,by rw[List.set_append_right _ _ hn]⟩
theorem Pre.get {st s:AH}{n:Nat}{c:Cell}(h:Pre st s)(e:st[n]?=some c):s[n]?=some c:=by obtain⟨a,rfl⟩:=h;exact cP e
theorem Pre.len {st s:AH}(h:Pre st s):st.length≤s.length:=by obtain⟨a,rfl⟩:=h;simp
theorem DkAt.pre {st s:AH}{d:Nat}{ps:List (Str × PV)}(h:DkAt st d ps)(p:Pre st s):DkAt s d ps:=h.imp p.get p.get
theorem Dp {n d:Nat}(h0:0<d)(h1:n<2 ^ 50)(h2:d<2 ^ 50):Cop (aV n d)∧Sz 50 (aV n d):=⟨.low h0,⟨GN (iF _ _) h1,GN (iw _ _) h2,da h0⟩⟩
theorem mH {as st Q}(h:bo as st Q):aq Γ cF (frame 4 as) st (af st Q):=by
 obtain⟨p,far,bot,rfl,hp,f0,f1,b0,b1,k⟩:=h
 have pp:=hp.lt
 have g0:Gr st p (st++[Cell.lst [PV.int 2,PV.int 4,PV.int 12]]):=(Gr.refl hp).app
 unfold cF
 walk_at "WP"
 refine⟨p,3,rfl,g0.pot,by decide,by decide,fun y s1 y0 y1 g1=>?_⟩
 obtain⟨i,ev,i0,i1⟩:=u4 (L:=[2,4,12]) (B:=12) (by decide) y0 y1
 walk_at "WP"
 refine⟨_,ad (g1.get am (by omega)),_,ev,(g0.trans g1).tmp (by rw[PV.bel]) fun s2 g2 l2=>?_⟩
 have m0:0<i*far:=Int.mul_pos i0 f0
 have m1:i*far≤12*far:=Int.mul_le_mul_of_nonneg_right i1 (by omega)
 refine⟨qt (by omega) (by omega),p,i*far,rfl,g2.pot,m0,by omega,fun x s3 x0 x1 g3=>?_⟩
 refine⟨p,7,rfl,g3.pot,by decide,by decide,fun z s4 z0 z1 g4=>?_⟩
 walk_at "WP"
 have g5:Gr s3 p (s4++[Cell.lst [PV.int bot,PV.int (1+z)]]):=g4.app
 refine⟨p,2,rfl,g5.pot,by decide,by decide,fun u s5 u0 u1 g6=>?_⟩
 obtain⟨b,eb,c0,c1⟩:=u4 (L:=[bot,1+z]) (B:=1000000) (fun i hi=>by
  simp only[List.mem_cons,List.not_mem_nil,or_false] at hi
  rcases hi with rfl|rfl <;> omega) u0 u1
 walk_at "WP"
 refine⟨_,ad (g6.get am (by have:=g5.was;have:=g4.len;omega)),_,eb,(g5.trans g6).tmp (by rw[PV.bel]) fun s6 g7 l7=>?_⟩
 obtain⟨A,rfl⟩:∃A:Nat,x=A:=⟨x.toNat,by omega⟩
 obtain⟨B,rfl⟩:∃B:Nat,b=B:=⟨b.toNat,by omega⟩
 obtain⟨k1,k2⟩:=Dp (n:=A) (d:=B) (by omega) (by omega) (by omega)
 have be:B<2 ^ 8000:=F3 (show B<2 ^ 64 by omega) (HS (by decide) (by decide))
 exact⟨A,B,rfl,by omega,be,.inl (k _ _ k1 k2 ((g2.trans g3).trans g7))⟩
def LsI (st:AH)(n:Nat)(L:List (Nat × Nat))(i:Nat)(ρ:Fr)(s:AH):Prop:=s=st∧∃(o:Option (Nat × Nat)) (a:Option PV),(o=none→i=0)∧(∀p,o=some p→p∈L.take i∧∀q∈L.take i,val p≤val q)∧ρ=[some (.ref n),some (qK o),a]
theorem oK {as st Q}(h:bK as st Q):aq Γ dj (frame 3 as) st (af st Q):=by
 obtain⟨n,L,rfl,hn,hL,k⟩:=h
 unfold dj
 walk_at "WP"
 refine⟨_,ad hn,bT Γm (LsI st n L) ⟨rfl,none,_,fun _=>rfl,fun p hp=>(nomatch hp),rfl⟩ ?_ ?_⟩
 ·rintro i v ρ s hi ⟨rfl,o,a,ho,hp,rfl⟩
  refine⟨rfl,?_⟩
  rw[F9] at hi
  obtain⟨q,hq,rfl⟩:=GK.mp hi
  have qL:=hL q (GE hq)
  have et:L.take (i+1)=L.take i++[q]:=by rw[HK,hq];rfl
  cases o with
  | none =>
   have i0:=ho rfl
   subst i0
   walk_at "WPO"
   refine⟨rfl,some q,_,fun e=>(nomatch e),fun p hp=>?_,rfl⟩
   cases hp
   rw[et]
   simp[Rat.le_refl]
  | some x =>
   have xx:=hp x rfl
   have xL:=hL x (List.mem_of_mem_take xx.1)
   walk_at "WPO"
   refine⟨q,x,rfl,qL.2.mono (by omega),xL.2.mono (by omega),?_⟩
   walk_at "WPO"
   have lt:=fB (p:=q) (q:=x) qL.1.pos xL.1.pos
   refine aX (fun c=>?_) fun c=>?_
   ·refine⟨rfl,some q,_,fun e=>(nomatch e),fun p hp=>?_,rfl⟩
    cases hp
    have:=lt.mp c
    rw[et]
    refine⟨by simp,fun r hr=>?_⟩
    rcases F7.mp hr with hr|hr
    ·have:=xx.2 r hr;grind
    ·rw[FZ] at hr;rw[hr];exact HD
   ·refine⟨rfl,some x,_,fun e=>(nomatch e),fun p hp=>?_,rfl⟩
    cases hp
    have:val x≤val q:=GH fun z=>c (lt.mpr (by grind))
    rw[et]
    refine⟨by simp[xx.1],fun r hr=>?_⟩
    rcases F7.mp hr with hr|hr
    ·exact xx.2 r hr
    ·rw[FZ] at hr;rw[hr];exact this
 ·rintro ρ s ⟨rfl,o,a,ho,hp,rfl⟩
  refine⟨rfl,?_⟩
  rw[GI] at ho hp
  rw[GZ] at hp
  walk_at "WP"
  exact .inl (k o (fun e=>I0.mp (ho e)) hp)
theorem jT {as st Q}(h:aT as st Q):aq Γ bG (frame 9 as) st (af st Q):=by
 obtain⟨m,e,ws,d,T,p,t,rfl,hd,hT,hp,ct,zt,hm,k⟩:=h
 have hdv:=bQ (ps:=td T) (p:=(p.1,p.2.v)) (by rw[GU];exact hT.nd) (F1.mpr ⟨p,hp,rfl⟩)
 unfold bG
 walk_at "WP"
 refine⟨_,hd,_,hdv,?_⟩
 walk_at "WP"
 refine⟨ws,rfl,50,m,p.2.X,_,t,rfl,⟨by omega,by omega⟩,hT.rq p hp,ct,zt,fun o ho h1 h2=>?_⟩
 exact .inl (k o (fun q hq=>⟨(ho q hq).1.2,(ho q hq).2.2⟩) ⟨fun e=>⟨o.map v2,h1 e,by cases o <;> rfl⟩,fun e=>(h2 e).1⟩)
theorem jV {α:Type}{F:List (Str × α)}{z:Str}{a:α}{v:α→PV}:ic (kd (F.map fun p=>(p.1,v p.2))) (.inr z) (v a)=kd ((cT F z a).map fun p=>(p.1,v p.2)):=by
 have e:(F.map fun p=>(p.1,v p.2)).map (·.1)=F.map (·.1):=by rw[GU];rfl
 unfold cT
 by_cases h:z∈F.map (·.1)
 ·rw[GA h,yh (by rw[e];exact h),GU,GU]
  congr 1
  refine IM fun p _=>?_
  simp only[Function.comp]
  by_cases q:p.1=z
  ·rw[GA q,GA q]
  ·rw[F_ q,F_ q]
 ·rw[F_ h,Ao (by rw[e];exact h),HW]
  rfl
theorem cU {α:Type}{F:List (Str × α)}{z:Str}{a:α}{p:Str × α}(h:p∈cT F z a):p∈F∨p=(z,a):=by
 unfold cT at h
 split at h
 ·obtain⟨q,hq,rfl⟩:=F1.mp h
  split
  ·rename_i e;exact .inr (by rw[e])
  ·exact .inl hq
 ·rcases F7.mp h with h|h
  ·exact .inl h
  ·exact .inr (FZ.mp h)
theorem pY {α:Type}{F:List (Str × α)}{z:Str}{a:α}(h:(F.map (·.1)).Nodup):((cT F z a).map (·.1)).Nodup:=by
 unfold cT
 split
 ·rw[GU]
  have:(F.map ((fun p=>p.1) ∘ fun p=>if p.1=z then (p.1,a) else p))=F.map (·.1):=IM fun p _=>by simp only[Function.comp];split <;> rfl
  rw[this]
  exact h
 ·rename_i hz
  rw[HW,ID]
  refine⟨h,by simp,fun x hx y hy e=>?_⟩
  simp only[List.map_cons,List.map_nil,List.mem_singleton] at hy
  subst hy e
  exact hz hx
theorem zY {α β:Type}{F:List (Str × α)}{z:Str}{a:α}{g:α→β}:(cT F z a).map (fun p=>(p.1,g p.2))=cT (F.map fun p=>(p.1,g p.2)) z (g a):=by
 have e:(F.map fun p=>(p.1,g p.2)).map (·.1)=F.map (·.1):=by rw[GU];rfl
 unfold cT
 by_cases h:z∈F.map (·.1)
 ·rw[GA h,GA (by rw[e];exact h),GU,GU]
  refine IM fun p _=>?_
  simp only[Function.comp]
  by_cases q:p.1=z
  ·rw[GA q,GA q]
  ·rw[F_ q,F_ q]
 ·rw[F_ h,F_ (by rw[e];exact h),HW]
  rfl
theorem kW {F:Mom}{z:Str}(h:z ∉ F.map (·.1)):Mv F z=none:=by
 unfold Mv
 rw[IG,IH]
 intro p hp e
 exact h (F1.mpr ⟨p,hp,HC e⟩)
theorem df:∀ {F:Mom}{p:Str × Nat × Nat},(F.map (·.1)).Nodup→p∈F→Mv F p.1=some (val p.2)
 | [],p,_,h=>nomatch h
 | q::F,p,hn,h=>by
  rw[GC,HL] at hn
  by_cases e:q.1=p.1
  ·rcases HA.mp h with z|z
   ·subst z;simp[Mv]
   ·exact absurd (e ▸ F1.mpr ⟨p,z,rfl⟩) hn.1
  ·rcases HA.mp h with z|z
   ·subst z;exact absurd rfl e
   ·have:=df hn.2 z
    unfold Mv at this ⊢
    rw[List.find?_cons,GV e]
    exact this
theorem gb {F:Mom}{z:Str}{y:Rat}(h:Mv F z=some y):∃p∈F,p.1=z∧val p.2=y:=by
 unfold Mv at h
 obtain⟨p,hp,e⟩:=GK.mp h
 exact⟨p,HZ hp,HC (p:=p.1=z) (JL (p:=fun p:Str × Nat × Nat=>decide (p.1=z)) hp),e⟩
theorem u9 {F:Mom}{z:Str}{q:Nat × Nat}(h:(F.map (·.1)).Nodup):Mv (cT F z q)=fun w=>if w=z then some (val q) else Mv F w:=by
 funext w
 have nd:=pY (z:=z) (a:=q) h
 by_cases e:w=z
 ·subst e
  rw[GA rfl]
  have:(w,q)∈cT F w q:=by
   unfold cT
   split
   ·rename_i hz
    obtain⟨p,hp,e⟩:=F1.mp hz
    exact F1.mpr ⟨p,hp,by rw[GA e,e]⟩
   ·simp
  exact df nd this
 ·rw[F_ e]
  cases c:Mv F w with
  | some y =>
   obtain⟨p,hp,rfl,rfl⟩:=gb c
   have:p∈cT F z q:=by
    unfold cT
    split
    ·exact F1.mpr ⟨p,hp,by rw[F_ e]⟩
    ·exact F7.mpr (.inl hp)
   exact df nd this
  | none =>
   cases c2:Mv (cT F z q) w with
   | none=>rfl
   | some y =>
    obtain⟨p,hp,rfl,rfl⟩:=gb c2
    rcases cU hp with hp|hp
    ·rw[df h hp] at c;cases c
    ·rw[hp] at e;exact absurd rfl e
theorem Fok.put {m:Nat}{F:Mom}{z:Str}{q:Nat × Nat}(h:Fok m F)(hz:Nm z)(hc:Cop q)(hs:Sz m q):Fok m (cT F z q):=⟨pY h.nd,fun p hp=>by
 rcases cU hp with hp|rfl
 ·exact h.ok p hp
 ·exact⟨hz,hc,hs⟩⟩
theorem Fok.mono {m k:Nat}{F:Mom}(h:Fok m F)(hk:m≤k):Fok k F:=⟨h.nd,fun p hp=>⟨(h.ok p hp).1,(h.ok p hp).2.1,(h.ok p hp).2.2.mono hk⟩⟩
theorem Keys.put {T:List (Str × Ti)}{s:Str}{F:Mom}{z:Str}{q:Nat × Nat}(h:Keys T s F)(hz:∃r∈T,r.2.b=z):Keys T s (cT F z q):=fun p hp=>by
 rcases cU hp with hp|rfl
 ·exact h p hp
 ·exact .inr hz
theorem Keys.len {T:List (Str × Ti)}{s:Str}{F:Mom}{m:Nat}(h:Keys T s F)(hF:Fok m F)(hT:NetT T):F.length≤21:=by
 have:=jp (xs:=F.map (·.1)) (ys:=s::T.map (·.2.b)) hF.nd fun x hx=>by
  obtain⟨p,hp,rfl⟩:=F1.mp hx
  rcases h p hp with e|⟨q,hq,e⟩
  ·rw[e];exact GQ
  ·exact GO _ (F1.mpr ⟨q,hq,e⟩)
 have l:=hT.ln
 rw[GI,JG,GI] at this
 omega
structure Sf (P C:Str→Rat→Prop)(g:Pm):Prop where
 lo:∀z y,P z y→∃y',g z=some y'∧y'≤y
 ok:∀z y,g z=some y→C z y
theorem Sf.imp {P P' C:Str→Rat→Prop}{g:Pm}(h:Sf P C g)(hp:∀z y,P' z y→P z y):Sf P' C g:=⟨fun z y q=>h.lo z y (hp z y q),h.ok⟩
theorem Sf.put {P C:Str→Rat→Prop}{g:Pm}{z:Str}{y:Rat}(h:Sf P C g)(hy:C z y)(lt:∀y',g z=some y'→y≤y'):Sf (fun w u=>P w u∨w=z∧u=y) C (fun w=>if w=z then some y else g w):=⟨fun w u q=>by
  by_cases e:w=z
  ·subst e
   rw[GA rfl]
   rcases q with q|⟨-,rfl⟩
   ·obtain⟨y',e1,e2⟩:=h.lo w u q
    exact⟨y,rfl,JN (lt y' e1) e2⟩
   ·exact⟨_,rfl,HD⟩
  ·rw[F_ e]
   rcases q with q|⟨e',-⟩
   ·exact h.lo w u q
   ·exact absurd e' e,
 fun w u q=>by
  by_cases e:w=z
  ·subst e
   rw[GA rfl] at q
   cases q
   exact hy
  ·rw[F_ e] at q
   exact h.ok w u q⟩
theorem Sf.keep {P C:Str→Rat→Prop}{g:Pm}{z:Str}{y y':Rat}(h:Sf P C g)(e:g z=some y')(le:y'≤y):Sf (fun w u=>P w u∨w=z∧u=y) C g:=⟨fun w u q=>by
  rcases q with q|⟨rfl,rfl⟩
  ·exact h.lo w u q
  ·exact⟨y',e,le⟩,h.ok⟩
theorem Sf.step {T:List (Str × Ti)}{ws:List Str}{f g:Pm}(h:Sf (oV T ws f) (oV T ws f) g):Step T ws f g:=fun z=>⟨h.lo z,h.ok z⟩
theorem get_last2 {st:AH}{a b:Cell}:(st++[a,b])[st.length+1]?=some b:=by rw[dz (k:=1)];rfl
theorem vV {as st Q}(h:dI as st Q):aq Γ fh (frame 10 as) st (af st Q):=by
 obtain⟨m,q,t,rfl,ok,ct,zt,hm,hh,k⟩:=h
 have hF:val q.f≤val t:=hh.1
 have hL:val t≤val q.l:=hh.2
 have pf:=ok.cf.pos
 have pl:=ok.cl.pos
 have pc:=ok.cc.pos
 have pd:=ok.cd.pos
 have ptt:=ct.pos
 unfold fh
 walk_at "WP"
 refine rY ?_
 by_cases e:q.f=q.l
 ·rw[HB e,GA rfl]
  refine .inl (k q.c ok.cc (ok.zc.mono (by omega)) ?_)
  unfold Rr.to
  rw[GA (show val q.f=val q.l by rw[e])]
 rw[GV e,F_ FX]
 have ne:val q.f≠val q.l:=fun z=>e (gu ok.cf ok.cl z)
 have lt:val q.f<val q.l:=by grind
 have hD:q.f.1*t.2≤t.1*q.f.2:=(g_ pf ptt).mpr hF
 have hE:t.1*q.l.2≤q.l.1*t.2:=(g_ ptt pl).mpr hL
 have hW:q.f.1*q.l.2≤q.l.1*q.f.2:=(g_ pf pl).mpr (by grind)
 have cD:(t.1:Int)*q.f.2-q.f.1*t.2=((t.1*q.f.2-q.f.1*t.2:Nat):Int):=by rw[IV hD,G_,G_]
 have cE:(q.l.1:Int)*t.2-t.1*q.l.2=((q.l.1*t.2-t.1*q.l.2:Nat):Int):=by rw[IV hE,G_,G_]
 have cW:(q.l.1:Int)*q.f.2-q.f.1*q.l.2=((q.l.1*q.f.2-q.f.1*q.l.2:Nat):Int):=by rw[IV hW,G_,G_]
 rw[cD,cE,cW]
 simp only[←Int.natCast_mul,←Int.natCast_add]
 generalize hDd:t.1*q.f.2-q.f.1*t.2=D
 generalize hEe:q.l.1*t.2-t.1*q.l.2=E
 generalize hWw:q.l.1*q.f.2-q.f.1*q.l.2=W
 have p1:=bb pf
 have p2:=bb pl
 have p3:=bb pc
 have p4:=bb pd
 have p5:=bb ptt
 have qD:(D:Rat)=(val t-val q.f)*(t.2*q.f.2):=by
  have:=GR (fun k:Nat=>(k:Rat)) (IF hD)
  rw[hDd] at this
  simp only[Rat.natCast_add,Rat.natCast_mul] at this
  rw[bf pf,bf ptt] at this
  grind
 have qE:(E:Rat)=(val q.l-val t)*(q.l.2*t.2):=by
  have:=GR (fun k:Nat=>(k:Rat)) (IF hE)
  rw[hEe] at this
  simp only[Rat.natCast_add,Rat.natCast_mul] at this
  rw[bf pl,bf ptt] at this
  grind
 have qW:(W:Rat)=(val q.l-val q.f)*(q.l.2*q.f.2):=by
  have:=GR (fun k:Nat=>(k:Rat)) (IF hW)
  rw[hWw] at this
  simp only[Rat.natCast_add,Rat.natCast_mul] at this
  rw[bf pl,bf pf] at this
  grind
 have bD:D<2 ^ (m+50):=by rw[←hDd];exact GN (JS _ _) (aO zt.a ok.zf.b)
 have bE:E<2 ^ (50+m):=by rw[←hEe];exact GN (JS _ _) (aO ok.zl.a zt.b)
 have bW:W<2 ^ (50+50):=by rw[←hWw];exact GN (JS _ _) (aO ok.zl.a ok.zf.b)
 have b1:D*q.l.2<2 ^ (m+50+50):=aO bD ok.zl.b
 have b2:E*q.f.2<2 ^ (50+m+50):=aO bE ok.zf.b
 have a1:q.c.1*q.d.2<2 ^ (50+50):=aO ok.zc.a ok.zd.b
 have a2:q.d.1*q.c.2<2 ^ (50+50):=aO ok.zd.a ok.zc.b
 have a3:q.c.2*q.d.2<2 ^ (50+50):=aO ok.zc.b ok.zd.b
 have c1:=aO a1 b2
 have c2:=aO a2 b1
 have c3:=aO a3 bW
 have c4:=aO c3 zt.b
 have c5:q.c.1*q.d.2*(E*q.f.2)+q.d.1*q.c.2*(D*q.l.2)<2 ^ (m+252):=by
  have e1:2 ^ (50+50+(50+m+50))≤2 ^ (m+251):=cC (by omega)
  have e2:2 ^ (50+50+(m+50+50))≤2 ^ (m+251):=cC (by omega)
  have e3:(2:Nat) ^ (m+252)=2 ^ (m+251)+2 ^ (m+251):=by rw[KC];omega
  omega
 have up:∀ {a j:Nat},a<2 ^ j→j≤3000→a<2 ^ 3000:=fun h hj=>F3 h (cC hj)
 have wpos:0<W:=by
  refine Nat.pos_of_ne_zero fun z=>?_
  have e:(W:Rat)=0:=by rw[z];rfl
  rw[qW] at e
  have w:0<(val q.l-val q.f)*((q.l.2:Rat)*q.f.2):=HE (by grind) (HE p2 p1)
  grind
 have hpos:0<q.c.2*q.d.2*W*t.2:=JJ (JJ (JJ pc pd) wpos) ptt
 refine⟨cj (up ok.zl.a (by omega)) (up ok.zf.b (by omega)),cj (up ok.zf.a (by omega)) (up ok.zl.b (by omega)),cj (up zt.a (by omega)) (up ok.zf.b (by omega)),cj (up ok.zf.a (by omega)) (up zt.b (by omega)),
  cj (up bD (by omega)) (up ok.zl.b (by omega)),cj (up ok.zl.a (by omega)) (up zt.b (by omega)),cj (up zt.a (by omega)) (up ok.zl.b (by omega)),cj (up bE (by omega)) (up ok.zf.b (by omega)),
  cj (up ok.zc.a (by omega)) (up ok.zd.b (by omega)),cj (up a1 (by omega)) (up b2 (by omega)),cj (up ok.zd.a (by omega)) (up ok.zc.b (by omega)),cj (up a2 (by omega)) (up b1 (by omega)),cj (up ok.zc.b (by omega)) (up ok.zd.b (by omega)),cj (up a3 (by omega)) (up bW (by omega)),cj (up c3 (by omega)) (up zt.b (by omega)),
  _,_,rfl,hpos,F3 c4 (cC (by omega)),.inl ?_⟩
 rw[ot]
 refine k _ ⟨da hpos,mz hpos⟩ ⟨GN (iF _ _) c5,GN (iw _ _) (F3 c4 (cC (by omega))),da hpos⟩ ?_
 rw[az hpos]
 unfold Rr.to
 rw[F_ (show ¬val q.f=val q.l from ne)]
 simp only[Rat.natCast_add,Rat.natCast_mul]
 rw[qD,qE,qW,bf pc,bf pd]
 have hc:(q.c.2:Rat)*q.d.2*q.l.2*t.2*q.f.2≠0:=by
  have:=HE (HE (HE (HE p3 p4) p2) p5) p1
  grind
 rw[←vg (Y:=val q.c) (G:=val q.d) (X:=val t) hc lt]
 congr 1 <;> grind
theorem RideN.r {r:Rd}(h:EG r):r.r.Ok:=by
 have c:∀ {a b:Nat},a≤b→(a:Rat)≤b:=fun h=>Rat.natCast_le_natCast.mpr h
 exact⟨c h.fl,c h.fc,c h.ld,fun z=>by
  have z:(r.f:Rat)=r.l:=z
  have:=h.eq (Rat.natCast_inj.mp z)
  show (r.c:Rat)=r.d
  rw[this]⟩
theorem Rd.qr {r:Rd}{e:Nat}(he:0<e):(r.q e).r=r.r.sc e:=by
 show Rr.mk _ _ _ _=Rr.mk _ _ _ _
 rw[az he,az he,az he,az he]
theorem Rr.Ok.sc {r:Rr}{e:Rat}(he:0<e)(h:r.Ok):(r.sc e).Ok:=⟨(um he).mpr h.fl,(um he).mpr h.fc,(um he).mpr h.ld,fun z=>by
 have z:r.F/e=r.L/e:=z
 have a:r.F/e*e=r.F:=by grind
 have b:r.L/e*e=r.L:=by grind
 show r.C/e=r.D/e
 rw[h.eq (by rw[←a,←b,z])]⟩
theorem RideN.q {r:Rd}{e:Nat}(h:EG r)(he:0<e)(e1:e≤10 ^ 11):jv 50 (r.q e):=by
 have s:∀n,n<10 ^ 13→Sz 50 (aV n e):=fun n hn=>⟨GN (iF _ _) (by omega),GN (iw _ _) (by omega),da he⟩
 have f1:=h.fl
 have f2:=h.bigl
 exact⟨.low he,.low he,.low he,.low he,s _ (by omega),s _ h.bigl,s _ h.bigc,s _ h.big,by rw[Rd.qr he];exact h.r.sc (bb he)⟩
theorem kZ {T:List (Str × Ti)}:(td T).map (·.1)=T.map (·.1):=by rw[GU];rfl
structure CfP (T:List (Str × Ti))(ws:List Str)(m:Nat)(pl:Str)(t:Nat × Nat)(ss:List Str)(L:List (Str × (Nat × Nat) × Str)):Prop where
 src:∀x∈L,Cop x.2.1∧Sz m x.2.1∧Nm x.1∧Nm x.2.2∧∃p∈T,p.2.a=pl∧p.2.b=x.1∧IsC (wt ws p.2) (p.2.X.map Rq.r) (val t) (some (val x.2.1))∧p.1=x.2.2
 all:∀p∈T,p.1∈ss→p.2.a=pl→∀y,IsC (wt ws p.2) (p.2.X.map Rq.r) (val t) (some y)→∃x∈L,x.1=p.2.b∧val x.2.1=y
 ln:L.length≤ss.length
 det:L=ss.filterMap (j0 T ws pl t)
def CfI (st:AH)(T:List (Str × Ti))(e:PV)(ws:List Str)(d:Nat)(m:Nat)(pl:Str)(t:Nat × Nat)(ss:List Str)(i:Nat)(ρ:Fr)(s:AH):Prop:=∃L a b,s=st++[.lst (L.map cfV),.lst (sV ss)]∧CfP T ws (m+252) pl t (ss.take i) L ∧
 ρ=[some (bS e ws d),some (PV.str pl),some (fr t),some e,some (PV.tup (sV ws)),some (PV.ref d),some (PV.ref (List.length st)),a,b]
theorem uM {α:Type}:∀ {T:List (Str × α)}{r p:Str × α},(T.map (·.1)).Nodup→r∈T→p∈T→r.1=p.1→r=p
 | [],_,_,_,h,_,_=>nomatch h
 | q::T,r,p,hn,hr,hp,e=>by
  rw[GC,HL] at hn
  rcases HA.mp hr with a|a
  ·rcases HA.mp hp with b|b
   ·rw[a,b]
   ·exact absurd (F1.mpr ⟨p,b,by rw[←e,a]⟩) hn.1
  ·rcases HA.mp hp with b|b
   ·exact absurd (F1.mpr ⟨r,a,by rw[e,b]⟩) hn.1
   ·exact uM hn.2 a b e
theorem dF {ps:List (Str × PV)}{z:Str}(h:z ∉ ps.map (·.1)):bd (kd ps) (.inr z)=none:=by
 unfold bd kd
 rw[IG,IH]
 intro x hx e
 obtain⟨p,hp,rfl⟩:=F1.mp hx
 exact h (F1.mpr ⟨p,hp,J8 (HC e)⟩)
theorem qo {w:Bool}{X:List Rq}{t:Nat × Nat}{o:Option (Nat × Nat)}(ho:∀p,o=some p→Cop p)(h:IsC w (X.map Rq.r) (val t) (o.map val)):q8 w X t=o:=by
 obtain⟨h1,h2⟩:=JC (p:=fun o:Option (Nat × Nat)=>(∀p,o=some p→Cop p)∧IsC w (X.map Rq.r) (val t) (o.map val)) ⟨o,ho,h⟩
 have e:(q8 w X t).map val=o.map val:=h2.uniq h (fun _ _ a b=>a.uniq b) (fun _ _ a b=>a.uniq b)
 have hh:∀p,q8 w X t=some p→Cop p:=h1
 clear h1 h2
 generalize q8 w X t=c at hh e ⊢
 cases c with
 | none=>cases o with|none=>rfl|some y=>cases e
 | some x =>
  cases o with
  | none=>cases e
  | some y=>rw[gu (hh x rfl) (ho y rfl) (GT e)]
theorem uY {α:Type}:∀ {T:List (Str × α)}{p:Str × α},(T.map (·.1)).Nodup→p∈T→(T.find? fun q=>decide (q.1=p.1))=some p:=fun {T p} hn hp=>by
 cases e:T.find? fun q=>decide (q.1=p.1) with
 | none=>exact absurd (HB rfl) (IH.mp e p hp)
 | some r =>
  have r1:=HZ e
  have r2:r.1=p.1:=HC (p:=r.1=p.1) (JL (p:=fun q:Str × α=>decide (q.1=p.1)) e)
  rw[uM hn r1 hp r2]
theorem oA:∀ {l:List Str}{x:Str},PyProof.Rows.risingS x l=true→(x::l).Pairwise fun a b:Str=>a.cps.toList≤b.cps.toList
 | [],x,_=>List.pairwise_singleton _ _
 | y::l,x,h=>by
  rw[PyProof.Rows.risingS,GD,PyProof.Rows.ltCps_eq] at h
  have le:x.cps.toList≤y.cps.toList:=List.not_lt.mp (by simpa using h.1)
  have pw:=oA h.2
  refine List.pairwise_cons.mpr ⟨fun z hz=>?_,pw⟩
  rcases HA.mp hz with rfl|hz
  ·exact le
  ·exact List.le_trans le ((List.pairwise_cons.mp pw).1 z hz)
theorem wR {l ss:List Str}(hp:ss.Perm l)(hs:PyProof.Rows.sortedS ss=true):srt l=ss:=by
 have pw:∀ {l:List Str},PyProof.Rows.sortedS l=true→l.Pairwise fun a b:Str=>a.cps.toList≤b.cps.toList:=fun {l} h=>by
  cases l with
  | nil=>exact .nil
  | cons x l=>exact oA h
 obtain⟨h1,h2⟩:=JC (p:=fun ss:List Str=>ss.Perm l∧PyProof.Rows.sortedS ss=true) ⟨ss,hp,hs⟩
 exact List.Perm.eq_of_pairwise (fun a b _ _ h h'=>by
  have:=List.le_antisymm h h'
  obtain⟨⟨a⟩⟩:=a
  obtain⟨⟨b⟩⟩:=b
  cases this
  rfl) (pw h2) (pw hs) (h1.trans hp.symm)
theorem lw {as st Q}(h:aZ as st Q):aq Γ cb (frame 9 as) st (af st Q):=by
 obtain⟨m,e,ws,d,T,pl,t,rfl,hd,hT,ct,zt,hm,k⟩:=h
 have ln:=hT.ln
 unfold cb
 walk_at "WP"
 refine⟨_,hd.pre (Pre.refl.app),T.map (·.1),by simp,by simp;omega,fun ss hp hso=>⟨_,ad get_last2,?_⟩⟩
 have sl:ss.length≤20:=by rw[hp.length_eq,GI];exact ln
 refine bT Γm (CfI st T e ws d m pl t ss) ⟨[],_,_,rfl,⟨fun x hx=>(nomatch hx),fun p _ hp=>by simp at hp,IZ _,rfl⟩,rfl⟩ ?_ ?_
 ·rintro i v ρ s hi ⟨L,a,b,rfl,hL,rfl⟩
  refine⟨get_last2.trans get_last2.symm,?_⟩
  rw[F9] at hi
  obtain⟨z,hz,rfl⟩:=GK.mp hi
  have zm:z∈T.map (·.1):=hp.subset (GE hz)
  obtain⟨p,hpT,rfl⟩:=F1.mp zm
  have et:ss.take (i+1)=ss.take i++[p.1]:=by rw[HK,hz];rfl
  have il:=(FY.mp hz).1
  have hdv:=bQ (ps:=td T) (p:=(p.1,p.2.v)) (by rw[kZ];exact hT.nd) (F1.mpr ⟨p,hpT,rfl⟩)
  have hd2:DkAt (st++[.lst (L.map cfV),.lst (sV ss)]) d (td T):=hd.pre Pre.refl.app
  walk_at "WP"
  refine⟨_,hd2,_,hdv,?_⟩
  walk_at "WP"
  have only:∀r∈T,r.1∈ss.take (i+1)→r.1∈ss.take i∨r=p:=fun r hr hs=>by
   rw[et] at hs
   rcases F7.mp hs with hs|hs
   ·exact .inl hs
   ·exact .inr (uM hT.nd hr hpT (FZ.mp hs))
  have tl:(ss.take (i+1)).length=(ss.take i).length+1:=by rw[et,HF];rfl
  have hn0:(st++[Cell.lst (L.map cfV),Cell.lst (sV ss)])[st.length]?=some (.lst (L.map cfV)):=by rw[bL];rfl
  have hl:=hL.ln
  have fd1:=uY hT.nd hpT
  have dets:∀ {r:Option (Str × (Nat × Nat) × Str)},j0 T ws pl t p.1=r→(ss.take (i+1)).filterMap (j0 T ws pl t)=L++r.toList:=fun {r} e=>by
   rw[et,List.filterMap_append,←hL.det]
   congr 1
   subst e
   simp only[List.filterMap]
   cases j0 T ws pl t p.1 <;> rfl
  have hi20:(ss.take i).length≤20:=GW (List.length_take_le _ _) (by omega)
  refine aX (fun c=>?_) fun c=>?_
  ·refine⟨m,e,ws,d,T,p,t,rfl,hd2,hT,hpT,ct,zt,hm,fun o ho hC=>?_⟩
   cases o with
   | none =>
    rw[F_ (by decide)]
    refine⟨L,_,_,rfl,⟨hL.src,fun r hr hs ha y hy=>?_,by omega,?_⟩,rfl⟩
    case refine_2 =>
     rw[dets (r:=none) (by unfold j0;rw[fd1];show ite _ _ _=_;rw[GA c,qo (o:=none) (fun p hp=>(nomatch hp)) hC];rfl)]
     simp
    rcases only r hr hs with z|z
    ·exact hL.all r hr z ha y hy
    ·subst z
     have:=hC.uniq hy (fun _ _ a b=>a.uniq b) (fun _ _ a b=>a.uniq b)
     cases this
   | some q =>
    rw[GA (by rfl)]
    refine⟨⟨_,aU hn0⟩,_,hd2,_,hdv,?_⟩
    show ixW (.tup [.str p.2.a,.str p.2.b,.tup (p.2.X.map rqV)]) (PV.int 1) _ fun x st1=>ixW (.tup [fr q.1,fr q.2]) (PV.int 1) st1 _
    walk_at "WP"
    refine⟨by simp;omega,L++[(p.2.b,q.2,p.1)],_,_,?_,⟨fun x hx=>?_,fun r hr hs ha y hy=>?_,by rw[tl,HF];exact Nat.succ_le_succ hl,by rw[dets (r:=some (p.2.b,q.2,p.1)) (by unfold j0;rw[fd1];show ite _ _ _=_;rw[GA c,qo (o:=some q.2) (fun p hp=>by cases hp;exact(ho q rfl).1) hC];rfl)];rfl⟩,rfl⟩
    ·rw[List.set_append_right _ _ (F2 _)]
     simp
    ·rcases F7.mp hx with hx|hx
     ·exact hL.src x hx
     ·rw[FZ] at hx
      subst hx
      have pn:=hT.nm p hpT
      exact⟨(ho q rfl).1,(ho q rfl).2,pn.2.2,pn.1,p,hpT,c,rfl,hC,rfl⟩
    ·rcases only r hr hs with z|z
     ·obtain⟨x,hx,h1,h2⟩:=hL.all r hr z ha y hy
      exact⟨x,by simp[hx],h1,h2⟩
     ·subst z
      have:=hC.uniq hy (fun _ _ a b=>a.uniq b) (fun _ _ a b=>a.uniq b)
      exact⟨(r.2.b,q.2,r.1),by simp,rfl,GT this⟩
  ·refine⟨L,_,_,rfl,⟨hL.src,fun r hr hs ha y hy=>?_,by omega,?_⟩,rfl⟩
   case refine_2 =>
    rw[dets (r:=none) (by unfold j0;rw[fd1];show ite _ _ _=_;rw[F_ c])]
    simp
   rcases only r hr hs with z|z
   ·exact hL.all r hr z ha y hy
   ·rw[z] at ha;exact absurd ha c
 ·rintro ρ s ⟨L,a,b,rfl,hL,rfl⟩
  refine⟨get_last2.trans get_last2.symm,?_⟩
  walk_at "WP"
  rw[GI,GZ] at hL
  refine .inl (k _ L _ (Pre.refl.app) (by rw[bL];rfl) ⟨hL.src,fun p hpT e=>hL.all p hpT (hp.mem_iff.mpr (F1.mpr ⟨p,hpT,rfl⟩)) e,?_⟩ (by unfold cfF;rw[wR hp hso];exact hL.det))
  have:=hL.ln
  omega
theorem C3 {r:Rr}{b v:Rat}(ok:r.Ok)(bv:b≤v)(vl:v≤r.L):r.to b≤r.to v∨r.D≤r.to v:=by
 by_cases e:r.F=r.L
 ·left;unfold Rr.to;rw[GA e,GA e];exact HD
 ·obtain⟨s,hs,hl⟩:=Rr.line (r:=r) (by have:=ok.fl;grind)
  rw[hl,hl,hs]
  by_cases sn:0≤s
  ·left
   have:=IA (a:=s) (b:=v-b) sn (by grind)
   grind
  ·right
   have:=IA (a:=-s) (b:=r.L-v) (by grind) (by grind)
   grind
theorem A9 {r:Rr}{t:Rat}(ok:r.Ok)(h:t≤r.L):∃p,IsOut [r] t (some p):=by
 by_cases f:r.D<r.C
 ·exact⟨_,qV ok h f⟩
 ·by_cases c:r.F<t
  ·exact⟨_,iL ok h (by grind) (.inl ⟨c,rfl⟩)⟩
  ·exact⟨_,iL ok h (by grind) (.inr ⟨by grind,rfl⟩)⟩
theorem wM {t:Rat}:∀(X Y:List Rr),(∀r∈X,r.Ok)→(∃q,IsOut Y t q)→∃q,IsOut (Y++X) t q
 | [],Y,_,h=>by rw[IT];exact h
 | r::X,Y,ok,⟨q,hq⟩=>by
  have:=wM X (Y++[r]) (fun s hs=>ok s (GO _ hs)) (by
   by_cases h:t≤r.L
   ·obtain⟨p,hp⟩:=A9 (ok r GQ) h
    obtain⟨m1,m2⟩:=hq.more hp
    cases q with
    | none=>exact⟨_,m2 (.inl rfl)⟩
    | some b =>
     by_cases z:(p.2=b.2∧p.1<b.1)∨p.2<b.2
     ·exact⟨_,m2 (.inr ⟨b,rfl,z⟩)⟩
     ·exact⟨_,m1 b rfl z⟩
   ·exact⟨q,hq.skip (by grind)⟩)
  rwa [List.append_assoc] at this
theorem Dt {w:Bool}{X:List Rr}{t:Rat}{o:Option Rat}(ok:∀r∈X,r.Ok)(h0:o=none→∀r∈X,∀y,¬Cm w r t y)(h1:∀y,o=some y→(∃r∈X,Cm w r t y)∧∀r∈X,∀y',Cm w r t y'→y≤y'):IsC w X t o:=by
 refine⟨fun e=>?_,fun e=>?_⟩
 ·subst e
  obtain⟨q,hq⟩:=wM X [] ok ⟨none,fun r hr=>(nomatch hr)⟩
  rw[J2] at hq
  refine⟨q,hq,?_⟩
  cases q with
  | none =>
   cases o with
   | none=>rfl
   | some y =>
    obtain⟨⟨r,hr,c|c⟩,_⟩:=h1 y rfl
    ·cases c.1
    ·have:=hq r hr
     have:=c.2.1
     exfalso
     grind
  | some p =>
   obtain⟨p0,⟨r,hr,ph,pe⟩,pm⟩:=hq
   have rl:t≤r.L:=JN p0 ph.2
   cases o with
   | none=>exact absurd (.inr ⟨rfl,rl,.inr rfl⟩) (h0 rfl r hr r.D)
   | some y =>
    obtain⟨⟨s,hs,c⟩,ym⟩:=h1 y rfl
    show some y=some p.2
    congr 1
    have a:y≤p.2:=by
     rw[←pe]
     rcases C3 (r:=r) (b:=if t<r.F then r.F else t) (v:=p.1) (ok r hr) (by have:=ph.1;split <;> grind) ph.2 with z|z
     ·exact JN (ym r hr _ (.inr ⟨rfl,rl,.inl rfl⟩)) z
     ·exact JN (ym r hr _ (.inr ⟨rfl,rl,.inr rfl⟩)) z
    have b:p.2≤y:=by
     rcases c with c|c
     ·cases c.1
     ·have sf:=(ok s hs).fl
      obtain⟨-,sl,c⟩:=c
      rcases c with c|c
      ·rw[c];exact(pm s hs _ (by split <;> grind) ⟨by split <;> grind,by split <;> grind⟩).1
      ·rw[c,←Rr.to_L (ok s hs)];exact(pm s hs s.L sl ⟨sf,HD⟩).1
    grind
 ·subst e
  cases o with
  | none=>exact fun r hr hh=>h0 rfl r hr _ (.inl ⟨rfl,hh,rfl⟩)
  | some y =>
   obtain⟨⟨r,hr,c|c⟩,m⟩:=h1 y rfl
   ·exact⟨⟨r,hr,c.2.1,c.2.2.symm⟩,fun s hs hh=>m s hs _ (.inl ⟨rfl,hh,rfl⟩)⟩
   ·cases c.1
theorem lJ {as st Q}(h:a9 as st Q):aq Γ b_ (frame 4 as) st (af st Q):=by
 obtain⟨m,q,w,t,rfl,ok,ct,zt,hm0,hm,k⟩:=h
 have b1:=fB (p:=q.l) (q:=t) ok.cl.pos ct.pos
 have b2:=fB (p:=t) (q:=q.f) ct.pos ok.cf.pos
 have fl:val q.f≤val q.l:=ok.ok.fl
 have none_:(∀y,¬Cm w q.r (val t) y)→Ret st Q (PV.ref (List.length st)) (st++[Cell.lst []]):=fun no =>
  .inl (k _ [] _ Pre.refl.app (F2 _) am (by simp) (fun p hp=>(nomatch hp)) fun y=>⟨fun ⟨p,hp,_⟩=>(nomatch hp),fun z=>absurd z (no y)⟩)
 unfold b_
 walk_at "WP"
 refine⟨_,_,rfl,ok.zl.mono (by omega),zt.mono (by omega),?_⟩
 walk_at "WP"
 refine aX (fun c=>?_) fun c=>?_
 ·have:=b1.mp c
  refine none_ fun y hy=>?_
  rcases hy with hy|hy
  ·have:val t≤val q.l:=hy.2.1.2;grind
  ·have:val t≤val q.l:=hy.2.1;grind
 have tl:val t≤val q.l:=GH fun z=>c (b1.mpr (by grind))
 cases w with
 | false =>
  walk_at "WP"
  refine⟨_,_,rfl,zt.mono (by omega),ok.zf.mono (by omega),?_⟩
  walk_at "WP"
  refine aX (fun c2=>?_) fun c2=>?_
  ·have:=b2.mp c2
   refine none_ fun y hy=>?_
   rcases hy with hy|hy
   ·have:val q.f≤val t:=hy.2.1.1;grind
   ·cases hy.1
  ·have ft:val q.f≤val t:=GH fun z=>c2 (b2.mpr (by grind))
   refine⟨m,q,t,rfl,ok,ct,zt,hm,⟨ft,tl⟩,fun p cp zp vp=>.inl (k _ [p] _ Pre.refl.app (F2 _) am (by simp) (fun r hr=>?_) fun y=>?_)⟩
   ·rw[FZ] at hr;subst hr;exact⟨cp,zp⟩
   ·constructor
    ·rintro⟨r,hr,e⟩
     rw[FZ] at hr
     subst hr
     exact .inl ⟨rfl,⟨ft,tl⟩,by rw[←e,vp]⟩
    ·rintro (z|z)
     ·exact⟨p,by simp,by rw[z.2.2,vp]⟩
     ·cases z.1
 | true =>
  walk_at "WP"
  refine⟨_,_,rfl,zt.mono (by omega),ok.zf.mono (by omega),?_⟩
  walk_at "WP"
  have fin:∀p,Cop p→Sz (m+252) p→val p=q.r.to (if val t<val q.f then val q.f else val t)→Ret st Q (PV.ref (List.length st)) (st++[Cell.lst [fr p,fr q.d]]):=fun p cp zp vp=>by
   refine .inl (k _ [p,q.d] _ Pre.refl.app (F2 _) am (by simp) (fun r hr=>?_) fun y=>?_)
   ·simp only[List.mem_cons,List.not_mem_nil,or_false] at hr
    rcases hr with rfl|rfl
    ·exact⟨cp,zp⟩
    ·exact⟨ok.cd,ok.zd.mono (by omega)⟩
   ·constructor
    ·rintro⟨r,hr,e⟩
     simp only[List.mem_cons,List.not_mem_nil,or_false] at hr
     rcases hr with rfl|rfl
     ·exact .inr ⟨rfl,tl,.inl (by rw[←e,vp])⟩
     ·exact .inr ⟨rfl,tl,.inr e.symm⟩
    ·rintro (z|z)
     ·cases z.1
     ·rcases z.2.2 with z|z
      ·exact⟨p,by simp,by rw[z,vp]⟩
      ·exact⟨q.d,by simp,z.symm⟩
  refine aX (fun c2=>?_) fun c2=>?_
  ·exact⟨50,q,q.f,rfl,ok,ok.cf,ok.zf,by omega,⟨HD,fl⟩,fun p cp zp vp=>fin p cp (zp.mono (by omega)) (by rw[GA (b2.mp c2)];exact vp)⟩
  ·have ft:val q.f≤val t:=GH fun z=>c2 (b2.mpr (by grind))
   exact⟨m,q,t,rfl,ok,ct,zt,hm,⟨ft,tl⟩,fun p cp zp vp=>fin p cp zp (by rw[F_ (by grind)];exact vp)⟩
def LcI (st:AH)(p:Str × Ti)(e:PV)(ws:List Str)(d:Nat)(m:Nat)(t:Nat × Nat)(i:Nat)(ρ:Fr)(s:AH):Prop:=∃(L:List (Nat × Nat)) (n:Nat) (a:Option PV),Pre st s∧s[n]?=some (.lst (L.map fr))∧(∀p∈L,Cop p∧Sz (m+252) p)∧L.length≤2*i∧(∀y,(∃p∈L,val p=y)↔∃q∈p.2.X.take i,Cm (wt ws p.2) q.r (val t) y) ∧
 ρ=[some (bS e ws d),some (PV.str p.fst),some (fr t),some (PV.str p.snd.a),some (PV.str p.snd.b),some (PV.tup (List.map rqV p.snd.X)),some (PV.ref n),a]
theorem mM {as st Q}(h:bq as st Q):aq Γ cy (frame 8 as) st (af st Q):=by
 obtain⟨m,e,ws,d,T,p,t,rfl,hd,hT,hpT,hX,ct,zt,hm0,hm,k⟩:=h
 have hdv:=bQ (ps:=td T) (p:=(p.1,p.2.v)) (by rw[kZ];exact hT.nd) (F1.mpr ⟨p,hpT,rfl⟩)
 unfold cy
 walk_at "WP"
 refine⟨_,hd,_,hdv,?_⟩
 walk_at "WP"
 refine bT Γm (LcI st p e ws d m t) ⟨[],_,_,Pre.refl.app,am,fun p hp=>(nomatch hp),by simp,by simp,rfl⟩ ?_ ?_
 ·rintro i v ρ s hi ⟨L,n,a,pr,hn,hL,ll,hc,rfl⟩
  refine⟨trivial,?_⟩
  rw[F9] at hi
  obtain⟨q,hq,rfl⟩:=GK.mp hi
  have il:=(FY.mp hq).1
  have et:p.2.X.take (i+1)=p.2.X.take i++[q]:=by rw[HK,hq];rfl
  walk_at "WP"
  refine⟨ws,rfl,m,q,_,t,rfl,hT.rq p hpT q (GE hq),ct,zt,hm0,hm,fun n2 L2 s2 pr2 hn2 hs2 l2 hz hc2=>?_⟩
  walk_at "WP"
  refine⟨_,pr2.get hn,_,hs2,by simp;omega,L++L2,_,_,(pr.trans pr2).app,by rw[am];simp,fun r hr=>?_,by simp;omega,fun y=>?_,rfl⟩
  ·rcases F7.mp hr with hr|hr
   ·exact hL r hr
   ·exact hz r hr
  ·rw[et]
   constructor
   ·rintro⟨r,hr,e⟩
    rcases F7.mp hr with hr|hr
    ·obtain⟨x,hx,c⟩:=(hc y).mp ⟨r,hr,e⟩
     exact⟨x,by simp[hx],c⟩
    ·exact⟨q,by simp,(hc2 y).mp ⟨r,hr,e⟩⟩
   ·rintro⟨x,hx,c⟩
    rcases F7.mp hx with hx|hx
    ·obtain⟨r,hr,e⟩:=(hc y).mpr ⟨x,hx,c⟩
     exact⟨r,by simp[hr],e⟩
    ·rw[FZ] at hx
     subst hx
     obtain⟨r,hr,e⟩:=(hc2 y).mpr c
     exact⟨r,by simp[hr],e⟩
 ·rintro ρ s ⟨L,n,a,pr,hn,hL,ll,hc,rfl⟩
  refine⟨trivial,?_⟩
  rw[GI,GZ] at hc
  walk_at "WP"
  refine⟨n,L,rfl,hn,fun p hp=>⟨(hL p hp).1,(hL p hp).2.mono (by omega)⟩,fun o h0 h1=>.inl (k o s pr (fun q hq=>hL q (h1 q hq).1) ?_)⟩
  refine Dt (fun r hr=>?_) (fun e r hr y c=>?_) fun y e=>?_
  ·obtain⟨q,hq,rfl⟩:=F1.mp hr
   exact(hT.rq p hpT q hq).ok
  ·obtain⟨q,hq,rfl⟩:=F1.mp hr
   have:=h0 (IG.mp e)
   obtain⟨x,hx,_⟩:=(hc y).mpr ⟨q,hq,c⟩
   rw[this] at hx
   cases hx
  ·obtain⟨x,rfl,rfl⟩:=GK.mp e
   obtain⟨xL,xm⟩:=h1 x rfl
   obtain⟨q,hq,c⟩:=(hc (val x)).mp ⟨x,xL,rfl⟩
   refine⟨⟨q.r,F1.mpr ⟨q,hq,rfl⟩,c⟩,fun r hr y' c'=>?_⟩
   obtain⟨q',hq',rfl⟩:=F1.mp hr
   obtain⟨x',hx',rfl⟩:=(hc y').mpr ⟨q',hq',c'⟩
   exact xm x' hx'
theorem gh {F:Wom}:(gd F).map (·.1)=F.map (·.1):=by rw[GU];rfl
theorem nE {m:Nat}{F:Wom}(h:Fok m F.mo):(F.map (·.1)).Nodup:=by have:=h.nd;rw[GU] at this;exact this
def BA (T:List (Str × Ti))(ws:List Str)(f:Pm)(ss:List Str)(z:Str)(y:Rat):Prop:=f z=some y∨∃p∈T,p.2.b=z∧p.2.a∈ss∧∃t,f p.2.a=some t∧IsC (wt ws p.2) (p.2.X.map Rq.r) t (some y)
def OtI (st:AH)(T:List (Str × Ti))(e:PV)(ws:List Str)(d m k:Nat)(sr:Str)(c:Nat)(F:Wom)(ss:List Str)(i:Nat)(ρ:Fr)(s:AH):Prop:=∃(G:Wom) (a4 a5 a3 a6 a7 a8:Option PV),Pre st s∧s[st.length]?=some (.dk (kd (gd G)))∧s[st.length+1]?=some (.lst (sV ss))∧Fok (m+252) G.mo∧Keys T sr G.mo∧(∀p∈G,p.2.2.length≤k+1)∧Sf (BA T ws (Mv F.mo) (ss.take i)) (oV T ws (Mv F.mo)) (Mv G.mo)∧om T ws F G∧G=(ss.take i).foldl (otP T ws F) F ∧
 ρ=[some (bS e ws d),some (PV.ref c),some (PV.ref (List.length st)),a3,a4,a5,a6,a7,a8]
def OuI (st:AH)(T:List (Str × Ti))(e:PV)(ws:List Str)(d m k:Nat)(sr:Str)(c:Nat)(F:Wom)(ss:List Str)(i:Nat)(p:Str × (Nat × Nat) × List Str)(nl:Nat)(L:List (Str × (Nat × Nat) × Str))(j:Nat)(ρ:Fr)(s:AH):Prop:=∃(G:Wom) (a6 a7 a8:Option PV),Pre st s∧s[st.length]?=some (.dk (kd (gd G)))∧s[st.length+1]?=some (.lst (sV ss))∧s[nl]?=some (.lst (L.map cfV))∧Fok (m+252) G.mo∧Keys T sr G.mo∧(∀p∈G,p.2.2.length≤k+1)∧Sf (fun z y=>BA T ws (Mv F.mo) (ss.take i) z y∨∃x∈L.take j,x.1=z∧val x.2.1=y) (oV T ws (Mv F.mo)) (Mv G.mo)∧om T ws F G∧G=(L.take j).foldl (vt p.2.2) ((ss.take i).foldl (otP T ws F) F) ∧
 ρ=[some (bS e ws d),some (PV.ref c),some (PV.ref (List.length st)),some (.str p.1),some (fr p.2.1),some (.tup (sV p.2.2)),a6,a7,a8]
theorem mB {as st Q}(h:aP as st Q):aq Γ ck (frame 9 as) st (af st Q):=by
 obtain⟨m,k,e,ws,d,T,sr,c,F,rfl,hd,hT,hc,hF,hK,hw,hk,hm,kk⟩:=h
 have kl:F.length≤21:=by have:=hK.len hF hT;rwa [GI] at this
 unfold ck
 walk_at "WP"
 refine⟨_,hc,_,.inl (cP hc),F.map (·.1),by simp,by simp;omega,fun ss hp hso=>⟨_,ad get_last2,?_⟩⟩
 have sl:ss.length≤21:=by rw[hp.length_eq,GI];exact kl
 refine bT Γm (OtI st T e ws d m k sr c F ss) ⟨F,_,_,_,_,_,_,Pre.refl.app,by rw[bL];rfl,get_last2,hF.mono (by omega),hK,fun p hp=>by have:=hw p hp;omega,⟨fun z y=>?_,fun z y=>?_⟩,fun p hp=>.inl hp,rfl,rfl⟩ ?_ ?_
 ·rintro (q|⟨p,hp,e,h,_⟩)
  ·exact⟨y,q,HD⟩
  ·simp at h
 ·exact fun q=>.inl q
 ·rintro i v ρ s hi ⟨G,a4,a5,a3,a6,a7,a8,pr,hn,hs,hG,hKG,hwG,hS,hWy,hDt,rfl⟩
  refine⟨hs.trans get_last2.symm,?_⟩
  rw[F9] at hi
  obtain⟨z,hz,rfl⟩:=GK.mp hi
  obtain⟨p,hpF,rfl⟩:=F1.mp (hp.subset (GE hz))
  have et:ss.take (i+1)=ss.take i++[p.1]:=by rw[HK,hz];rfl
  have hdv:=bQ (ps:=gd F) (p:=(p.1,.tup [fr p.2.1,.tup (sV p.2.2)])) (by rw[gh];exact nE hF) (F1.mpr ⟨p,hpF,rfl⟩)
  have pok:=hF.ok (p.1,p.2.1) (F1.mpr ⟨p,hpF,rfl⟩)
  walk_at "WP"
  refine⟨_,.inl (pr.get hc),_,hdv,?_⟩
  walk_at "WP"
  refine⟨m,e,ws,d,T,p.1,p.2.1,rfl,hd.pre pr,hT,pok.2.1,pok.2.2,hm,fun nl L s2 pr2 hL2 cf cfe=>?_⟩
  have la:st.length<s.length:=ai hn
  refine⟨_,ad hL2,bT Γm (OuI st T e ws d m k sr c F ss i p nl L) ⟨G,_,_,_,pr.trans pr2,pr2.get hn,pr2.get hs,hL2,hG,hKG,hwG,hS.imp fun z y h=>h.elim id fun h=>(by simp at h),hWy,hDt,rfl⟩ ?_ ?_⟩
  ·rintro j v ρ s3 hj ⟨G,a6,a7,a8,pr,hn,hs,hL3,hG,hKG,hwG,hS,hWy,hDt,rfl⟩
   refine⟨hL3.trans hL2.symm,?_⟩
   rw[F9] at hj
   obtain⟨⟨o,cm,nm⟩,hx,rfl⟩:=GK.mp hj
   have ej:L.take (j+1)=L.take j++[(o,cm,nm)]:=by rw[HK,hx];rfl
   obtain⟨ccm,zcm,no,nnm,p',hpT',pa,pb,pC,pn⟩:=cf.src _ (GE hx)
   have gl:G.length≤21:=by have:=hKG.len hG hT;rwa [GI] at this
   have pl:=hw p hpF
   have mo:Wom.mo (cT G o (cm,p.2.2++[nm]))=cT (Wom.mo G) o cm:=zY
   have cand:oV T ws (Mv F.mo) o (val cm):=.inr ⟨p',hpT',pb,val p.2.1,by rw[pa];exact df (p:=(p.1,p.2.1)) hF.nd (F1.mpr ⟨p,hpF,rfl⟩),pC⟩
   have dt:(L.take (j+1)).foldl (vt p.2.2) ((ss.take i).foldl (otP T ws F) F)=vt p.2.2 G (o,cm,nm):=by rw[ej,List.foldl_append,←hDt];rfl
   have gmem:∀g∈G,Mv G.mo g.1=some (val g.2.1):=fun g hg=>df (p:=(g.1,g.2.1)) hG.nd (F1.mpr ⟨g,hg,rfl⟩)
   have put:(∀y',Mv G.mo o=some y'→val cm<y')→(sV p.2.2).length≤99999∧∃kvs,s3[List.length st]?=some (Cell.dk kvs)∧kvs.length≤1000∧OuI st T e ws d m k sr c F ss i p nl L (j+1)
     [some (bS e ws d),some (PV.ref c),some (PV.ref (List.length st)),some (PV.str p.fst),some (fr p.snd.fst),some (PV.tup (sV p.snd.snd)),some (PV.str o),some (fr cm),some (PV.str nm)]
     (List.set s3 (List.length st) (Cell.dk (ic kvs (Sum.inr o) (PV.tup [fr cm,PV.tup (sV p.snd.snd++[PV.str nm])])))):=fun lt=>by
    refine⟨by simp;omega,_,hn,by simp;omega,cT G o (cm,p.2.2++[nm]),_,_,_,pr.set (F2 _),?_,?_,?_,?_,?_,?_,?_,?_,?_,rfl⟩
    ·rw[GB (ai hn),show sV p.2.2++[PV.str nm]=sV (p.2.2++[nm]) by simp]
     congr 2
     exact jV (F:=G) (a:=(cm,p.2.2++[nm])) (v:=fun x=>.tup [fr x.1,.tup (sV x.2)])
    ·rw[F6 (by omega)];exact hs
    ·rw[F6 (fun z=>by rw[←z,hn] at hL3;cases hL3)];exact hL3
    ·rw[mo];exact hG.put no ccm zcm
    ·rw[mo];exact hKG.put ⟨p',hpT',pb⟩
    ·intro q hq
     rcases cU hq with hq|rfl
     ·exact hwG q hq
     ·simp;omega
    ·rw[mo,u9 hG.nd]
     refine(hS.put cand fun y' e=>JZ (lt y' e)).imp fun z y h=>?_
     rcases h with h|⟨x,hx,e1,e2⟩
     ·exact .inl (.inl h)
     ·rw[ej] at hx
      rcases F7.mp hx with hx|hx
      ·exact .inl (.inr ⟨x,hx,e1,e2⟩)
      ·rw[FZ] at hx
       subst hx
       exact .inr ⟨e1.symm,e2.symm⟩
    ·intro g hg
     rcases cU hg with hg|rfl
     ·exact hWy g hg
     ·refine .inr ⟨p',hpT',pb,p,hpF,pa.symm,by rw[pn],pC,fun y hy=>?_⟩
      obtain⟨y',e1,e2⟩:=hS.lo o y (.inl (.inl hy))
      have:=lt y' e1
      show val cm<y
      grind
    ·rw[dt,vt,GA]
     intro g hg e
     exact lt _ (by have e:g.1=o:=e;rw[←e];exact gmem g hg)
   walk_at "WP"
   refine .inr ⟨_,.inl hn,?_⟩
   by_cases h:o∈G.map (·.1)
   ·obtain⟨g,hg,rfl⟩:=F1.mp h
    have hdv:=bQ (ps:=gd G) (p:=(g.1,.tup [fr g.2.1,.tup (sV g.2.2)])) (by rw[gh];exact nE hG) (F1.mpr ⟨g,hg,rfl⟩)
    have gok:=hG.ok (g.1,g.2.1) (F1.mpr ⟨g,hg,rfl⟩)
    have gv:Mv G.mo g.1=some (val g.2.1):=df (p:=(g.1,g.2.1)) hG.nd (F1.mpr ⟨g,hg,rfl⟩)
    have lt:=fB (p:=cm) (q:=g.2.1) ccm.pos gok.2.1.pos
    rw[hdv,F_ (by simp)]
    refine⟨_,.inl hn,_,hdv,?_⟩
    walk_at "WP"
    refine⟨cm,g.2.1,rfl,zcm.mono (by omega),gok.2.2.mono (by omega),?_⟩
    walk_at "WP"
    refine aX (fun c1=>?_) fun c1=>?_
    ·have:=lt.mp c1
     exact put fun y' e=>by rw[gv] at e;cases e;exact this
    ·have le:val g.2.1≤val cm:=GH fun z=>c1 (lt.mpr (by grind))
     refine⟨G,_,_,_,pr,hn,hs,hL3,hG,hKG,hwG,(hS.keep gv le).imp fun z y h=>?_,hWy,by rw[dt,vt,F_ (fun z=>by have:=z g hg rfl;have:val cm<val g.2.1:=this;grind)],rfl⟩
     rcases h with h|⟨x,hx,e1,e2⟩
     ·exact .inl (.inl h)
     ·rw[ej] at hx
      rcases F7.mp hx with hx|hx
      ·exact .inl (.inr ⟨x,hx,e1,e2⟩)
      ·rw[FZ] at hx
       subst hx
       exact .inr ⟨e1.symm,e2.symm⟩
   ·rw[dF (by rw[gh];exact h)]
    show ite (Option.isSome none=false) _ _
    rw[GA (show (none:Option PV).isSome=false from rfl)]
    exact put fun y' e=>by
     rw[kW (by rw[GU];exact h)] at e
     cases e
  ·rintro ρ s3 ⟨G,a6,a7,a8,pr,hn,hs,hL3,hG,hKG,hwG,hS,hWy,hDt,rfl⟩
   refine⟨hL3.trans hL2.symm,?_⟩
   walk_at "WP"
   rw[GI,GZ] at hS hDt
   refine⟨G,_,_,_,_,_,_,pr,hn,hs,hG,hKG,hwG,hS.imp fun z y h=>?_,hWy,?_,rfl⟩
   case refine_2 =>
    rw[et,List.foldl_append,hDt,cfe]
    show _=otP T ws F _ p.1
    rw[otP,uY (nE hF) hpF]
   rcases h with h|⟨r,hr,e1,e2,t,e3,e4⟩
   ·exact .inl (.inl h)
   ·rw[et] at e2
    rcases F7.mp e2 with e2|e2
    ·exact .inl (.inr ⟨r,hr,e1,e2,t,e3,e4⟩)
    ·rw[FZ] at e2
     have pv:Mv F.mo p.1=some (val p.2.1):=df (p:=(p.1,p.2.1)) hF.nd (F1.mpr ⟨p,hpF,rfl⟩)
     rw[e2,pv] at e3
     cases e3
     obtain⟨x,hx,x1,x2⟩:=cf.all r hr e2 y e4
     exact .inr ⟨x,hx,x1.trans e1,x2⟩
 ·rintro ρ s ⟨G,a4,a5,a3,a6,a7,a8,pr,hn,hs,hG,hKG,hwG,hS,hWy,hDt,rfl⟩
  refine⟨hs.trans get_last2.symm,?_⟩
  walk_at "WP"
  rw[GI,GZ] at hS hDt
  refine .inl (kk _ G _ pr (F2 _) hn hG hKG hwG (Sf.step (hS.imp fun z y h=>?_)) hWy (by unfold otF;rw[wR hp hso];exact hDt))
  rcases h with h|⟨p,hpT,e,t,ht,hC⟩
  ·exact .inl h
  ·refine .inr ⟨p,hpT,e,?_,t,ht,hC⟩
   obtain⟨x,hx,e1,_⟩:=gb ht
   obtain⟨y,hy,rfl⟩:=F1.mp hx
   exact hp.mem_iff.mpr (F1.mpr ⟨y,hy,e1⟩)
theorem LyOk.pre {T:List (Str × Ti)}{ws:List Str}{sr:Str}{t:Nat × Nat}{b:Nat}{s s':AH}{ns:List Nat}(h:LyOk T ws sr t b s ns)(p:Pre s s'):LyOk T ws sr t b s' ns:=⟨h.up,h.ge,fun i n e=>by
 obtain⟨F,h1,h2⟩:=h.at_ i n e
 exact⟨F,p.get h1,h2⟩⟩
theorem LyOk.setL {T:List (Str × Ti)}{ws:List Str}{sr:Str}{t:Nat × Nat}{b:Nat}{s:AH}{ns:List Nat}{n:Nat}{L:List PV}{c:Cell}(h:LyOk T ws sr t b s ns)(e:s[n]?=some (.lst L)):LyOk T ws sr t b (s.set n c) ns:=⟨h.up,h.ge,fun i x q=>by
 obtain⟨F,h1,h2⟩:=h.at_ i x q
 exact⟨F,by rw[F6 (fun z=>by rw[z,h1] at e;cases e)];exact h1,h2⟩⟩
theorem LyOk.lt {T:List (Str × Ti)}{ws:List Str}{sr:Str}{t:Nat × Nat}{b:Nat}{s:AH}{ns:List Nat}(h:LyOk T ws sr t b s ns)(n:Nat)(hn:n∈ns):n<s.length:=by
 obtain⟨i,hi⟩:=List.getElem?_of_mem hn
 obtain⟨F,h1,_⟩:=h.at_ i n hi
 exact ai h1
theorem LyOk.snoc {T:List (Str × Ti)}{ws:List Str}{sr:Str}{t:Nat × Nat}{b:Nat}{s:AH}{ns:List Nat}{n:Nat}{F:Mom}(h:LyOk T ws sr t b s ns)(hn:s[n]?=some (.dk (kd (fd F))))(lt:∀x∈ns,x<n)(bn:b≤n)(hF:Fok 2800 F∧Keys T sr F∧Lay T ws (f0 sr t) ns.length (Mv F)):LyOk T ws sr t b s (ns++[n]):=by
 refine⟨?_,fun x hx=>?_,fun i x q=>?_⟩
 ·rw[List.pairwise_append]
  exact⟨h.up,by simp,fun x hx y hy=>by rw[FZ] at hy;rw[hy];exact lt x hx⟩
 ·rcases F7.mp hx with hx|hx
  ·exact h.ge x hx
  ·rw[FZ] at hx;omega
 ·by_cases c:i<ns.length
  ·rw[GG c] at q
   exact h.at_ i x q
  ·rw[GJ (by omega)] at q
   have:i=ns.length:=by
    have:=(FY.mp q).1
    simp at this
    omega
   subst this
   rw[Nat.sub_self] at q
   cases q
   exact⟨F,hn,hF⟩
theorem Pre.thaw {s s2:AH}{d:Nat}{c c0:Cell}(p:Pre (s.set d c) s2)(h:s[d]?=some c0):Pre s (s2.set d c0):=by
 obtain⟨g,rfl⟩:=p
 have dl:=ai h
 rw[List.set_append_left _ _ (by simpa using dl),xY h]
 exact⟨g,rfl⟩
def yM (T U:List (Str × Ti))(ws:List Str)(f:Pm)(z:Str)(y:Rat):Prop:=f z=some y∨∃p∈U,p.2.b=z∧∃t,f p.2.a=some t∧IsC (wt ws p.2) (p.2.X.map Rq.r) t (some y)
def LlI (st:AH)(T:List (Str × Ti))(e:PV)(ws:List Str)(d:Nat)(sr:Str)(t:Nat × Nat)(most:Nat)(i:Nat)(ρ:Fr)(s:AH):Prop:=∃(ns:List Nat) (n:Nat) (F:Mom) (b5 b6 b7 b8 b9 b10 b11:Option PV),Pre st s∧s[st.length+1]?=some (.lst (rfs (ns++[n])))∧ns.length=i∧LyOk T ws sr t st.length s (ns++[n])∧s[n]?=some (.dk (kd (fd F)))∧Fok (50+252*i) F∧Keys T sr F∧Lay T ws (f0 sr t) i (Mv F) ∧
 ρ=[some (bS e ws d),some (PV.str sr),some (fr t),some (PV.int ↑most),some (PV.ref (List.length st+1)),b5,b6,b7,b8,b9,b10,b11]
def LmI (s:AH)(T:List (Str × Ti))(e:PV)(ws:List Str)(d:Nat)(sr:Str)(t:Nat × Nat)(most:Nat)(i l:Nat)(F:Mom)(j:Nat)(ρ:Fr)(s2:AH):Prop:=∃(G:Mom) (b7 b8 b9 b10 b11:Option PV),Pre (s.set d (.fz (kd (td T)))) s2∧s2[s.length]?=some (.dk (kd (fd G)))∧Fok (50+252*(i+1)) G∧Keys T sr G∧Sf (yM T (T.take j) ws (Mv F)) (oV T ws (Mv F)) (Mv G) ∧
 ρ=[some (bS e ws d),some (PV.str sr),some (fr t),some (PV.int ↑most),some (PV.ref l),some (PV.int i),some (PV.ref s.length),b7,b8,b9,b10,b11]
theorem ni {as st Q}(h:br as st Q):aq Γ cA (frame 12 as) st (af st Q):=by
 obtain⟨e,ws,d,T,sr,t,most,rfl,hd,hT,hX,hsr,ct,zt,hm,k⟩:=h
 unfold cA
 walk_at "WP"
 have F0:Fok 50 [(sr,t)]:=⟨by simp,fun p hp=>by rw[FZ] at hp;subst hp;exact⟨hsr,ct,zt⟩⟩
 have K0:Keys T sr [(sr,t)]:=fun p hp=>by rw[FZ] at hp;subst hp;exact .inl rfl
 have L0:Lay T ws (f0 sr t) 0 (Mv [(sr,t)]):=by
  show Mv _=f0 sr t
  funext z
  unfold Mv f0
  by_cases h:z=sr
  ·subst h;simp
  ·have:¬sr=z:=fun q=>h q.symm
   simp[h,this]
 have Y0:LyOk T ws sr t st.length (st++[Cell.dk [(Sum.inr sr,fr t)],Cell.lst [PV.ref (List.length st)]]) ([]++[st.length]):=LyOk.snoc (F:=[(sr,t)]) ⟨.nil,fun n hn=>(nomatch hn),fun i n h=>(by simp at h)⟩ (by rw[bL];rfl) (fun x hx=>(nomatch hx)) (F2 _) ⟨F0.mono (by omega),K0,L0⟩
 refine⟨by omega,by omega,?_⟩
 refine bT Γm (LlI st T e ws d sr t most) ⟨[],st.length,[(sr,t)],_,_,_,_,_,_,_,Pre.refl.app,get_last2,rfl,Y0,by rw[bL];rfl,F0,K0,L0,rfl⟩ ?_ ?_
 ·rintro i v ρ s hi ⟨ns,n,F,b5,b6,b7,b8,b9,b10,b11,pr,hl,nl,hL,hn,hF,hK,hLy,rfl⟩
  obtain⟨rfl,hi⟩:=dO hi
  have nn:=ai hn
  refine⟨trivial,?_⟩
  walk_at "WP"
  refine⟨_,ad hl,.ref n,by show atI (List.map PV.ref (ns++[n])) (-1)=_;rw[HW];exact lu,?_⟩
  walk_at "WP"
  refine⟨_,hn,_,cP (pr.get hd),?_⟩
  have dl:d<st.length:=ai hd
  have sl:=pr.len
  have sd:(s++[Cell.dk (kd (fd F))]).set d (.fz (kd (td T)))=s.set d (.fz (kd (td T)))++[Cell.dk (kd (fd F))]:=List.set_append_left _ _ (by omega)
  rw[sd]
  refine bT Γm (LmI s T e ws d sr t most i (st.length+1) F) ⟨F,_,_,_,_,_,Pre.refl.app,by rw[show s.length=(s.set d (Cell.fz (kd (td T)))).length by simp];exact am,hF.mono (by omega),hK,⟨fun z y=>?_,fun z y q=>.inl q⟩,rfl⟩ ?_ ?_
  ·rintro (q|⟨p,hp,_⟩)
   ·exact⟨y,q,HD⟩
   ·simp at hp
  ·rintro j v ρ s2 hj ⟨G,c7,c8,c9,c10,c11,pr2,hn2,hG,hKG,hS,rfl⟩
   refine⟨trivial,?_⟩
   obtain⟨q,hq,rfl⟩:=AM hj
   rw[F9] at hq
   obtain⟨p,hp,rfl⟩:=GK.mp hq
   have hpT:=GE hp
   have et:T.take (j+1)=T.take j++[p]:=by rw[HK,hp];rfl
   have hdv:=bQ (ps:=td T) (p:=(p.1,p.2.v)) (by rw[kZ];exact hT.nd) (F1.mpr ⟨p,hpT,rfl⟩)
   have hd2:s2[d]?=some (.fz (kd (td T))):=pr2.get (GB (by omega))
   have hl2:s2[st.length+1]?=some (.lst (rfs (ns++[n]))):=pr2.get (by rw[F6 (by omega)];exact hl)
   have ndd:n≠d:=by have:=hL.ge n (by simp);omega
   have hnn:s2[n]?=some (.dk (kd (fd F))):=pr2.get (by rw[F6 ndd.symm];exact hn)
   walk_at "WP"
   refine⟨_,.inr hd2,_,hdv,?_⟩
   walk_at "WP"
   have lastr:atI (rfs (ns++[n])) (-1)=some (.ref n):=by show atI (List.map PV.ref (ns++[n])) (-1)=_;rw[HW];exact lu
   have stay:(∀tt,Mv F p.2.a=some tt→∀y,¬IsC (wt ws p.2) (p.2.X.map Rq.r) tt (some y))→∀s3 x,Pre s2 s3→LmI s T e ws d sr t most i (List.length st+1) F (j+1) [some (bS e ws d),some (PV.str sr),some (fr t),some (PV.int ↑most),some (PV.ref (List.length st+1)),some (PV.int ↑i),some (PV.ref (List.length s)),some (PV.str p.fst),some (PV.str p.snd.a),some (PV.str p.snd.b),some (PV.tup (List.map rqV p.snd.X)),x] s3:=fun no s3 x pr3=>by
    refine⟨G,_,_,_,_,_,pr2.trans pr3,pr3.get hn2,hG,hKG,hS.imp fun z y h=>?_,rfl⟩
    rcases h with h|⟨r,hr,e1,tt,e2,e3⟩
    ·exact .inl h
    ·rw[et] at hr
     rcases F7.mp hr with hr|hr
     ·exact .inr ⟨r,hr,e1,tt,e2,e3⟩
     ·rw[FZ] at hr
      subst hr
      exact absurd e3 (no tt e2 y)
   refine⟨_,ad hl2,.ref n,lastr,?_⟩
   walk_at "WP"
   refine .inr ⟨_,.inl hnn,?_⟩
   by_cases h:p.2.a∈F.map (·.1)
   ·obtain⟨x,hx,ex⟩:=F1.mp h
    have hdx:=bQ (ps:=fd F) (p:=(x.1,fr x.2)) (by rw[GU];exact hF.nd) (F1.mpr ⟨x,hx,rfl⟩)
    have vx:Mv F p.2.a=some (val x.2):=by rw[←ex];exact df hF.nd hx
    have xok:=hF.ok x hx
    rw[ex] at hdx
    rw[hdx,GA (show (some (p.2.a,fr x.2).2).isSome=true from rfl)]
    refine⟨_,ad hl2,.ref n,lastr,?_⟩
    walk_at "WP"
    refine⟨_,.inl hnn,_,hdx,?_⟩
    refine⟨50+252*i,e,ws,d,T,p,x.2,rfl,.inr hd2,hT,hpT,hX p hpT,xok.2.1,xok.2.2,by omega,by omega,fun o s3 pr3 ho hC=>?_⟩
    cases o with
    | none =>
     rw[F_ (by decide)]
     refine stay (fun tt e2 y e3=>?_) s3 _ pr3
     rw[vx] at e2
     cases e2
     have:=hC.uniq e3 (fun _ _ a b=>a.uniq b) (fun _ _ a b=>a.uniq b)
     cases this
    | some q =>
     rw[GA (by rfl)]
     obtain⟨cq,zq⟩:=ho q rfl
     have hn3:=pr3.get hn2
     have gl:=hKG.len hG hT
     have pn:=hT.nm p hpT
     have up:∀z y,yM T (T.take (j+1)) ws (Mv F) z y→yM T (T.take j) ws (Mv F) z y∨z=p.2.b∧y=val q:=fun z y h=>by
      rcases h with h|⟨r,hr,e1,tt,e2,e3⟩
      ·exact .inl (.inl h)
      ·rw[et] at hr
       rcases F7.mp hr with hr|hr
       ·exact .inl (.inr ⟨r,hr,e1,tt,e2,e3⟩)
       ·rw[FZ] at hr
        subst hr
        rw[vx] at e2
        cases e2
        have:=hC.uniq e3 (fun _ _ a b=>a.uniq b) (fun _ _ a b=>a.uniq b)
        exact .inr ⟨e1.symm,(GT this).symm⟩
     have cand:oV T ws (Mv F) p.2.b (val q):=.inr ⟨p,hpT,rfl,val x.2,vx,hC⟩
     have put:(∀y',Mv G p.2.b=some y'→val q≤y')→∃kvs,s3[List.length s]?=some (Cell.dk kvs)∧kvs.length≤1000∧LmI s T e ws d sr t most i (List.length st+1) F (j+1)
       [some (bS e ws d),some (PV.str sr),some (fr t),some (PV.int ↑most),some (PV.ref (List.length st+1)),some (PV.int ↑i),some (PV.ref (List.length s)),some (PV.str p.fst),some (PV.str p.snd.a),some (PV.str p.snd.b),some (PV.tup (List.map rqV p.snd.X)),some (qK (some q))]
       (List.set s3 (List.length s) (Cell.dk (ic kvs (Sum.inr p.snd.b) (qK (some q))))):=fun lt=>by
      refine⟨_,hn3,by simp;omega,cT G p.2.b q,_,_,_,_,_,(pr2.trans pr3).set (by simp),?_,hG.put pn.2.2 cq zq,hKG.put ⟨p,hpT,rfl⟩,?_,rfl⟩
      ·rw[GB (ai hn3)]
       congr 2
       exact jV (F:=G) (a:=q) (v:=fr)
      ·rw[u9 hG.nd]
       exact(hS.put cand lt).imp up
     refine .inr ⟨_,.inl hn3,?_⟩
     by_cases hb:p.2.b∈G.map (·.1)
     ·obtain⟨g,hg,eg⟩:=F1.mp hb
      have hdg:=bQ (ps:=fd G) (p:=(g.1,fr g.2)) (by rw[GU];exact hG.nd) (F1.mpr ⟨g,hg,rfl⟩)
      have gok:=hG.ok g hg
      have gv:Mv G p.2.b=some (val g.2):=by rw[←eg];exact df hG.nd hg
      have lt:=fB (p:=q) (q:=g.2) cq.pos gok.2.1.pos
      rw[eg] at hdg
      rw[hdg,F_ (by simp)]
      refine⟨_,.inl hn3,_,hdg,?_⟩
      refine⟨q,g.2,rfl,zq.mono (by omega),gok.2.2.mono (by omega),?_⟩
      walk_at "WP"
      refine aX (fun c1=>?_) fun c1=>?_
      ·have:=lt.mp c1
       exact put fun y' e=>by rw[gv] at e;cases e;grind
      ·have le:val g.2≤val q:=GH fun z=>c1 (lt.mpr (by grind))
       exact⟨G,_,_,_,_,_,pr2.trans pr3,hn3,hG,hKG,(hS.keep gv le).imp up,rfl⟩
     ·rw[dF (by rw[GU];exact hb)]
      show ite (Option.isSome none=false) _ _
      rw[GA (show (none:Option PV).isSome=false from rfl)]
      exact put fun y' e=>by rw[kW hb] at e;cases e
   ·rw[dF (by rw[GU];exact h)]
    show ite (Option.isSome none=true) _ _
    rw[F_ (by simp)]
    refine stay (fun tt e2 y e3=>?_) s2 _ Pre.refl
    rw[kW h] at e2
    cases e2
  ·rintro ρ s2 ⟨G,c7,c8,c9,c10,c11,pr2,hn2,hG,hKG,hS,rfl⟩
   refine⟨trivial,?_⟩
   walk_at "WP"
   have prS:Pre s (s2.set d (.dk (kd (td T)))):=pr2.thaw (pr.get hd)
   have hlS:=prS.get hl
   have ls:=ai hl
   rw[zF,GI,GZ] at hS
   have hnS:(s2.set d (.dk (kd (td T))))[s.length]?=some (.dk (kd (fd G))):=by rw[F6 (by omega)];exact hn2
   have hLay:Lay T ws (f0 sr t) (i+1) (Mv G):=⟨_,hLy,Sf.step hS⟩
   have nl2:(ns++[n]).length=i+1:=by simp[nl]
   refine⟨pr2.get (GB (by omega)),⟨_,aU hlS⟩,_,hlS,by simp;omega,ns++[n],s.length,G,_,_,_,_,_,_,_,(pr.trans prS).set (by omega),?_,nl2,((hL.pre prS).snoc hnS (fun x hx=>hL.lt x hx) sl ⟨hG.mono (by omega),hKG,by rw[nl2];exact hLay⟩).setL hlS,?_,hG,hKG,hLay,rfl⟩
   ·rw[GB (ai hlS)]
    simp
   ·rw[F6 (by omega)]
    exact hnS
 ·rintro ρ s ⟨ns,n,F,b5,b6,b7,b8,b9,b10,b11,pr,hl,nl,hL,hn,hF,hK,hLy,rfl⟩
  refine⟨trivial,?_⟩
  walk_at "WP"
  refine .inl (k _ (ns++[n]) s pr (by omega) hl ?_ hL)
  rw[HF,nl]
  simp[di]
theorem Rr.to_ge {r:Rr}{v:Rat}(ok:r.Ok)(h:r.has v):v≤r.to v:=by
 obtain⟨h1,h2⟩:=h
 by_cases e:r.F=r.L
 ·unfold Rr.to
  rw[GA e]
  have:=ok.fc
  grind
 ·have lt:r.F<r.L:=by have:=ok.fl;grind
  have:=CQ (b:=r.F) (E:=r.L) (L:=r.C) (H:=r.D) (t:=v) lt h1 h2 ok.fc ok.ld
  unfold Rr.to
  rw[F_ e]
  exact this
theorem IsC.ge {w:Bool}{X:List Rr}{t y:Rat}(ok:∀r∈X,r.Ok)(h:IsC w X t (some y)):t≤y:=by
 cases w with
 | true =>
  obtain⟨q,h1,h2⟩:=h.1 rfl
  cases q with
  | none=>cases h2
  | some p =>
   obtain⟨a,⟨r,hr,b,c⟩,_⟩:=h1
   have:=Rr.to_ge (ok r hr) b
   have e:y=p.2:=GT h2
   grind
 | false =>
  obtain⟨⟨r,hr,b,c⟩,_⟩:=h.2 rfl
  have:=Rr.to_ge (ok r hr) b
  grind
theorem rX {T:List (Str × Ti)}{ws:List Str}{f g:Pm}{k:Nat}(h:Step T ws (lyr T ws f k) g):lyr T ws f (k+1)=g:=(JC (p:=fun g=>Step T ws (lyr T ws f k) g) ⟨g,h⟩).uniq h
theorem vf {T:List (Str × Ti)}{ws:List Str}{f:Pm}:∀ {k:Nat}{g:Pm},Lay T ws f k g→lyr T ws f k=g
 | 0,g,h=>h.symm
 | k+1,g,⟨g',h1,h2⟩=>rX (by rw[vf h1];exact h2)
theorem f_ {T:List (Str × Ti)}{ws:List Str}{g:Nat→Pm}{n i:Nat}(hs:∀k,k<n→Step T ws (g k) (g (k+1))){z:Str}{y:Rat}(h:g i z=some y):∀ {j:Nat},i≤j→j≤n→∃y',g j z=some y'∧y'≤y
 | 0,ij,_=>by
  have:i=0:=by omega
  subst this
  exact⟨y,h,HD⟩
 | j+1,ij,jn=>by
  by_cases e:i=j+1
  ·subst e;exact⟨y,h,HD⟩
  ·obtain⟨y1,h1,h2⟩:=f_ hs h (j:=j) (by omega) (by omega)
   obtain⟨y2,h3,h4⟩:=(hs j (by omega) z).1 y1 (.inl h1)
   exact⟨y2,h3,JN h4 h2⟩
theorem Wy.len {T:List (Str × Ti)}{ws:List Str}{g:Nat→Pm}{s:Str}{t0:Rat}{k:Nat}{z:Str}{y:Rat}{w vs:List Str}(h:Wy T ws g s t0 k z y w vs):w.length=k∧vs.length=k+1:=by
 induction h with
 | nil=>exact⟨rfl,rfl⟩
 | snoc _ _ _ _ _ ih=>exact⟨by simp[ih.1],by simp[ih.2]⟩
theorem Wy.at_ {T:List (Str × Ti)}{ws:List Str}{g:Nat→Pm}{s:Str}{t0:Rat}{k:Nat}{z:Str}{y:Rat}{w vs:List Str}(h0:g 0 s=some t0)(h:Wy T ws g s t0 k z y w vs):g k z=some y:=by
 cases h with
 | nil=>exact h0
 | snoc _ _ _ h _=>exact h
theorem Wy.nodup {T:List (Str × Ti)}{ws:List Str}{g:Nat→Pm}{s:Str}{t0:Rat}{n:Nat}(hT:NetT T)(h0:g 0 s=some t0)(hs:∀k,k<n→Step T ws (g k) (g (k+1))){k:Nat}{z:Str}{y:Rat}{w vs:List Str}(h:Wy T ws g s t0 k z y w vs):k≤n→vs.Nodup∧s∈vs∧∀v∈vs,∃i y',i≤k∧g i v=some y'∧y'≤y:=by
 induction h with
 | nil=>exact fun _=>⟨by simp,by simp,fun v hv=>⟨0,t0,F2 _,by rw[FZ] at hv;rw[hv];exact h0,HD⟩⟩
 | @snoc k t w vs y q hw hq hC hg hl ih =>
  intro kn
  obtain⟨i1,i2,i3⟩:=ih (by omega)
  have ge:t≤y:=hC.ge fun r hr=>by obtain⟨x,hx,rfl⟩:=F1.mp hr;exact(hT.rq q hq x hx).ok
  refine⟨ID.mpr ⟨i1,by simp,fun a ha b hb e=>?_⟩,by simp[i2],fun v hv=>?_⟩
  ·rw[FZ] at hb
   subst hb e
   obtain⟨i,y',h1,h2,h3⟩:=i3 _ ha
   obtain⟨y2,h4,h5⟩:=f_ hs h2 (j:=k) h1 (by omega)
   have:=hl y2 h4
   grind
  ·rcases F7.mp hv with hv|hv
   ·obtain⟨i,y',h1,h2,h3⟩:=i3 v hv
    exact⟨i,y',by omega,h2,by grind⟩
   ·rw[FZ] at hv
    subst hv
    exact⟨k+1,y,F2 _,hg,HD⟩
theorem Wy.names {T:List (Str × Ti)}{ws:List Str}{g:Nat→Pm}{s:Str}{t0:Rat}{N:List Str}(hN:∀q∈T,q.2.a∈N∧q.2.b∈N){k:Nat}{z:Str}{y:Rat}{w vs:List Str}(h:Wy T ws g s t0 k z y w vs):(k=0∧vs=[s])∨∀v∈vs,v∈N:=by
 induction h with
 | nil=>exact .inl ⟨rfl,rfl⟩
 | @snoc k t w vs y q hw hq hC hg hl ih =>
  refine .inr fun v hv=>?_
  rcases F7.mp hv with hv|hv
  ·rcases ih with⟨rfl,rfl⟩|ih
   ·rw[FZ] at hv
    have e:s=q.2.a:=by
     generalize q.2.a=a at hw
     cases hw
     rfl
    rw[hv,e]
    exact(hN q hq).1
   ·exact ih v hv
  ·rw[FZ] at hv
   rw[hv]
   exact(hN q hq).2
theorem Wy.short {T:List (Str × Ti)}{ws:List Str}{g:Nat→Pm}{s:Str}{t0:Rat}{n:Nat}{N:List Str}(hT:NetT T)(h0:g 0 s=some t0)(hs:∀k,k<n→Step T ws (g k) (g (k+1)))(hN:∀q∈T,q.2.a∈N∧q.2.b∈N)(hl:N.length≤9){k:Nat}{z:Str}{y:Rat}{w vs:List Str}(h:Wy T ws g s t0 k z y w vs)(kn:k≤n):k≤8:=by
 obtain⟨a,b,c⟩:=h.nodup hT h0 hs kn
 have l:=h.len.2
 rcases h.names hN with⟨rfl,_⟩|d
 ·omega
 ·have:=jp a d
  omega
theorem Wy.det {T:List (Str × Ti)}{ws:List Str}{g:Nat→Pm}{s:Str}{t0:Rat}(hT:NetT T){k:Nat}{z:Str}{y:Rat}{w vs:List Str}(h:Wy T ws g s t0 k z y w vs):∀ {k':Nat}{z':Str}{y':Rat}{w' vs':List Str},Wy T ws g s t0 k' z' y' w' vs'→w=w'→z=z'∧y=y':=by
 induction h with
 | nil =>
  intro k' z' y' w' vs' h' e
  cases h' with
  | nil=>exact⟨rfl,rfl⟩
  | snoc=>exact absurd (GR List.length e) (by simp)
 | @snoc k t w vs y q hw hq hC hg hl ih =>
  intro k' z' y' w' vs' h' e
  cases h' with
  | nil=>exact absurd (GR List.length e) (by simp)
  | @snoc k2 t2 w2 vs2 y2 q2 hw2 hq2 hC2 hg2 hl2 =>
   obtain⟨e1,e2⟩:=List.append_inj' e rfl
   have e2:q.1=q2.1:=by simpa using e2
   have:=uM hT.nd hq hq2 e2
   subst this
   obtain⟨_,e3⟩:=ih hw2 e1
   subst e3
   exact⟨rfl,GT (hC.uniq hC2 (fun _ _ a b=>a.uniq b) (fun _ _ a b=>a.uniq b))⟩
theorem Wy.take {T:List (Str × Ti)}{ws:List Str}{g:Nat→Pm}{s:Str}{t0:Rat}{k:Nat}{z:Str}{y:Rat}{w vs:List Str}(h:Wy T ws g s t0 k z y w vs):∀i,i≤k→∃z' y' vs',Wy T ws g s t0 i z' y' (w.take i) vs':=by
 induction h with
 | nil=>
  intro i hi
  have:i=0:=by omega
  subst this
  exact⟨_,_,_,.nil⟩
 | @snoc k t w vs y q hw hq hC hg hl ih =>
  intro i hi
  have l:=hw.len.1
  by_cases e:i=k+1
  ·subst e
   rw[List.take_of_length_le (by simp;omega)]
   exact⟨_,_,_,.snoc hw hq hC hg hl⟩
  ·obtain⟨z',y',vs',h'⟩:=ih i (by omega)
   refine⟨z',y',vs',?_⟩
   rw[List.take_append_of_le_length (by omega)]
   exact h'
def EnW (T:List (Str × Ti))(ws:List Str)(g:Nat→Pm)(s:Str)(t0:Rat)(k:Nat)(F:Wom):Prop:=∀p∈F,∃j vs,j≤k∧Wy T ws g s t0 j p.1 (val p.2.1) p.2.2 vs
theorem jL {F:Wom}{m:Nat}(h:Fok m F.mo){p:Str × (Nat × Nat) × List Str}(hp:p∈F):Mv F.mo p.1=some (val p.2.1):=df (p:=(p.1,p.2.1)) h.nd (F1.mpr ⟨p,hp,rfl⟩)
theorem Nw.wy {T:List (Str × Ti)}{ws:List Str}{g:Nat→Pm}{s:Str}{t0:Rat}{k m:Nat}{F:Wom}{p:Str × (Nat × Nat) × List Str}(h0:g 0 s=some t0)(hs:∀i,i<k→Step T ws (g i) (g (i+1)))(hF:Fok m F.mo)(ef:g k=Mv F.mo)(hE:EnW T ws g s t0 k F)(hg:g (k+1) p.1=some (val p.2.1))(h:Nw T ws F p):∃vs,Wy T ws g s t0 (k+1) p.1 (val p.2.1) p.2.2 vs:=by
 obtain⟨q,hq,qb,a,ha,ea,ew,hC,lt⟩:=h
 obtain⟨j,vs,jk,hw⟩:=hE a ha
 have va:g k a.1=some (val a.2.1):=by rw[ef];exact jL hF ha
 have jk2:j=k:=GH fun z=>by
  obtain⟨k',rfl⟩:∃k',k=k'+1:=⟨k-1,by omega⟩
  obtain⟨y1,h1,h2⟩:=f_ hs (hw.at_ h0) (j:=k') (by omega) (by omega)
  obtain⟨y2,h3,h4⟩:=(hs k' (by omega) a.1).1 y1 (.inl h1)
  rw[va] at h3
  cases h3
  have e:y1=val a.2.1:=by grind
  subst e
  obtain⟨y3,h5,h6⟩:=(hs k' (by omega) p.1).1 (val p.2.1) (.inr ⟨q,hq,qb,val a.2.1,by rw[←ea];exact h1,hC⟩)
  have:=lt y3 (by rw[←ef];exact h5)
  grind
 subst jk2
 rw[ew,←qb]
 refine⟨_,.snoc (by rw[←ea];exact hw) hq hC (by rw[qb];exact hg) fun y' hy=>lt y' ?_⟩
 rw[←qb,←ef]
 exact hy
theorem EnW.step {T:List (Str × Ti)}{ws:List Str}{g:Nat→Pm}{s:Str}{t0:Rat}{k m m':Nat}{F G:Wom}(h0:g 0 s=some t0)(hs:∀i,i<k→Step T ws (g i) (g (i+1)))(hF:Fok m F.mo)(hG:Fok m' G.mo)(ef:g k=Mv F.mo)(eg:g (k+1)=Mv G.mo)(hE:EnW T ws g s t0 k F)(hW:om T ws F G):EnW T ws g s t0 (k+1) G:=fun p hp=>by
 rcases hW p hp with h|h
 ·obtain⟨j,vs,jk,hw⟩:=hE p h
  exact⟨j,vs,by omega,hw⟩
 ·obtain⟨vs,hw⟩:=h.wy h0 hs hF ef hE (by rw[eg];exact jL hG hp)
  exact⟨k+1,vs,F2 _,hw⟩
theorem oq {T:List (Str × Ti)}{ws:List Str}{f:Pm}{i:Nat}(hs:∀k,k<i+1→Step T ws (lyr T ws f k) (lyr T ws f (k+1)))(e:lyr T ws f (i+1)=lyr T ws f i):∀j,lyr T ws f (i+j)=lyr T ws f i∧Step T ws (lyr T ws f (i+j)) (lyr T ws f (i+j+1))
 | 0=>⟨rfl,hs i (by omega)⟩
 | j+1=>by
  obtain⟨h1,h2⟩:=oq hs e j
  have st:Step T ws (lyr T ws f i) (lyr T ws f i):=by have:=hs i (by omega);rwa [e] at this
  have e1:lyr T ws f (i+(j+1))=lyr T ws f i:=by
   show lyr T ws f (i+j+1)=_
   rw[h1] at h2
   exact(h2.uniq st)
  have st2:Step T ws (lyr T ws f (i+(j+1))) (lyr T ws f i):=by rw[e1];exact st
  exact⟨e1,by rw[rX st2];exact st2⟩
theorem FwR.uniq {T:List (Str × Ti)}{ws:List Str}{sr:Str}{t:Nat × Nat}{goal:Str}{o o':Option (List Str)}(h:FwR T ws sr t goal o)(h':FwR T ws sr t goal o'):o=o':=by
 obtain⟨i,h1,h2,rfl⟩:=h
 obtain⟨j,h3,h4,rfl⟩:=h'
 have:i=j:=by
  rcases Nat.lt_trichotomy i j with z|z|z
  ·exact absurd h2 (h3 i z)
  ·exact z
  ·exact absurd h4 (h1 j z)
 rw[this]
theorem kT {as st Q}(h:cB as st Q):aq Γ bR (frame 2 as) st (af st Q):=by
 obtain⟨p,q,rfl,hp,hq,k⟩:=h
 unfold bR
 walk_at "WP"
 refine⟨cj hp.a hq.b,cj hq.a hp.b,?_⟩
 rw[←G_,←G_]
 simp only[Int.ofNat_lt]
 exact .inl k
theorem BB {names:List Str}(h:∀z∈names,Nm z){y:Int}(y0:0≤y)(y1:y<names.length):∃z,atI (sV names) y=some (.str z)∧Nm z∧z∈names:=by
 obtain⟨v,ev,z,rfl,hz⟩:=uG (L:=sV names) (P:=fun v=>∃z,v=.str z∧Nm z∧z∈names) (fun v hv=>by
  obtain⟨z,hz,rfl⟩:=F1.mp hv
  exact⟨z,rfl,h z hz,hz⟩) y0 (by simpa[sV] using y1)
 exact⟨z,ev,hz⟩
structure NS (st:AH)(p:Nat)(s:AH)(pl nm d:Nat)(names nms:List Str)(T:List (Str × Ti)):Prop where
 g:Gr st p s
 l1:st.length≤pl
 l2:pl<nm
 l3:nm<d
 hp:s[pl]?=some (.lst (sV names))
 hn:s[nm]?=some (.lst (sV nms))
 hd:s[d]?=some (.dk (kd (td T)))
 P:NetT T
 X:∀q∈T,q.2.X.length≤100∧q.2.a∈names∧q.2.b∈names
 N:∀z∈names,Nm z
 N2:2≤names.length
 N4:names.length≤9
 M:∀z∈nms,Nm z
theorem NS.mono {st s s':AH}{p pl nm d:Nat}{names nms:List Str}{T:List (Str × Ti)}(h:NS st p s pl nm d names nms T)(g:Gr s p s'):NS st p s' pl nm d names nms T:=by
 have:=h.g.was
 have:=h.l1
 have:=h.l2
 have:=h.l3
 exact⟨h.g.trans g,h.l1,h.l2,h.l3,g.get h.hp (by omega),g.get h.hn (by omega),g.get h.hd (by omega),h.P,h.X,h.N,h.N2,h.N4,h.M⟩
theorem NS.app {st s g:AH}{p pl nm d:Nat}{names nms:List Str}{T:List (Str × Ti)}(h:NS st p s pl nm d names nms T):NS st p (s++g) pl nm d names nms T:=h.mono (Gr.refl h.g.pot).app
theorem NS.setN {st s:AH}{p pl nm d n:Nat}{names nms:List Str}{T:List (Str × Ti)}{L:List PV}(h:NS st p s pl nm d names nms T)(hn:d<n):NS st p (s.set n (.lst L)) pl nm d names nms T:=by
 have:=h.g.was
 have:=h.l1
 have:=h.l2
 have:=h.l3
 exact⟨h.g.setN (by omega),h.l1,h.l2,h.l3,by rw[F6 (by omega)];exact h.hp,by rw[F6 (by omega)];exact h.hn,by rw[F6 (by omega)];exact h.hd,h.P,h.X,h.N,h.N2,h.N4,h.M⟩
theorem NS.named {st s s':AH}{p pl nm d:Nat}{names nms:List Str}{T:List (Str × Ti)}{z:Str}(h:NS st p s pl nm d names nms T)(g:Gn s p nm s')(hz:Nm z)(e:s'[nm]?=some (.lst (sV (nms++[z])))):NS st p s' pl nm d names (nms++[z]) T:=by
 have:=h.g.was
 have:=h.l1
 have:=h.l2
 have:=h.l3
 refine⟨Gn.gr h.g (by omega) g,h.l1,h.l2,h.l3,g.get h.hp (by omega) (by omega),e,g.get h.hd (by omega) (by omega),h.P,h.X,h.N,h.N2,h.N4,fun y hy=>?_⟩
 rcases F7.mp hy with hy|hy
 ·exact h.M y hy
 ·rw[FZ] at hy;subst hy;exact hz
theorem NS.put {st s:AH}{p pl nm d:Nat}{names nms:List Str}{T U:List (Str × Ti)}(h:NS st p s pl nm d names nms T)(hq:NetT U)(hx:∀q∈U,q.2.X.length≤100∧q.2.a∈names∧q.2.b∈names):NS st p (s.set d (.dk (kd (td U)))) pl nm d names nms U:=by
 have:=h.g.was
 have:=h.l1
 have:=h.l2
 have:=h.l3
 exact⟨h.g.setN (by omega),h.l1,h.l2,h.l3,by rw[F6 (by omega)];exact h.hp,by rw[F6 (by omega)];exact h.hn,GB (ai h.hd),hq,hx,h.N,h.N2,h.N4,h.M⟩
theorem qC {α:Type}{F:List (Str × α)}{z:Str}{a:α}:(cT F z a).length≤F.length+1:=by
 unfold cT
 split
 ·rw[GI];omega
 ·simp
theorem NetT.put {T:List (Str × Ti)}{z:Str}{t:Ti}(h:NetT T)(hl:T.length<20)(hz:Nm z)(ha:Nm t.a)(hb:Nm t.b)(hx:∀q∈t.X,jv 50 q):NetT (cT T z t):=⟨pY h.nd,by have:=qC (F:=T) (z:=z) (a:=t);omega,fun p hp=>by
  rcases cU hp with hp|rfl
  ·exact h.nm p hp
  ·exact⟨hz,ha,hb⟩,fun p hp=>by
  rcases cU hp with hp|rfl
  ·exact h.rq p hp
  ·exact hx⟩
theorem FC:rH 10 4:=⟨by decide,by decide,by decide⟩
noncomputable abbrev nF (p:Nat)(far bot:Int)(ch t:Nat)(many:Int)(pl:Nat)(ws:List Str)(nm d:Nat)(most:Int)(k a b la u r x e:Option PV):Fr:=[some (.ref p),some (.int far),some (.int bot),some (.int ch),some (.ref t),some (.int many),some (.ref pl),some (.tup (sV ws)),some (.ref nm),some (.ref d),some (.int most),k,a,b,la,u,r,x,e]
def NI (st:AH)(p:Nat)(far bot:Int)(ch t:Nat)(many:Int)(pl:Nat)(ws:List Str)(nm d:Nat)(names:List Str)(i:Nat)(ρ:Fr)(s:AH):Prop:=∃(nms:List Str) (T:List (Str × Ti)) (most:Nat) (k a b la u r x:Option PV),NS st p s pl nm d names nms T∧nms.length≤i∧T.length≤i∧most≤10 ^ 12∧ρ=nF p far bot ch t many pl ws nm d most k a b la u r x none
def NJ (st:AH)(p:Nat)(far:Int)(B ch t:Nat)(many:Int)(pl:Nat)(ws:List Str)(nm d:Nat)(names nms:List Str)(T:List (Str × Ti))(i x y LA un rn:Nat)(L:List PV)(j:Nat)(ρ:Fr)(s:AH):Prop:=∃(X:List Rq) (most:Nat) (v:Option PV),NS st p s pl nm d names nms T∧s[un]?=some (.lst L)∧s[rn]?=some (.lst (X.map rqV))∧X.length=j∧(∀q∈X,jv 50 q)∧most≤10 ^ 12∧ρ=nF p far B ch t many pl ws nm d most (some (.int i)) (some (.int x)) (some (.int y)) (some (.int LA)) (some (.ref un)) (some (.ref rn)) v none
noncomputable abbrev gI:Ss:=(.cons (.set (.name 12) (.call 17 (.cons (.var 0) (.cons (.blt .len (.cons (.var 6) .nil)) .nil)))) (.cons (.set (.name 13) (.bin .Mod (.bin .Add (.bin .Add (.var 12) (.int 1)) (.call 17 (.cons (.var 0) (.cons (.bin .Sub (.blt .len (.cons (.var 6) .nil)) (.int 1)) .nil)))) (.blt .len (.cons (.var 6) .nil)))) (.cons (.set (.name 14) (.int 0)) (.cons (.set (.name 15) (.lst .nil)) (.cons (.ifS (.cmp .Lt (.var 11) (.var 3)) (.cons (.par 12 13 (.var 11) (.bin .Add (.var 11) (.int 1))) (.cons (.set (.name 14) (.bin .Mult (.bin .Mult (.int 3) (.var 1)) (.var 11))) (.cons (.expr (.met .append (.var 15) (.cons (.call 21 (.cons (.var 0) (.cons (.var 1) .nil))) .nil))) .nil))) .nil) (.cons (.set (.name 15) (.bin .Add (.var 15) (.call 23 (.cons (.var 0) (.cons (.cmp .In (.ix (.var 6) (.var 12)) (.var 7)) (.cons (.var 1) .nil)))))) (.cons (.set (.name 16) (.lst .nil)) (.cons (.forS (.name 17) (.seq (.var 15)) (.cons (.set (.name 10) (.blt .max2 (.cons (.var 10) (.cons (.bin .Add (.ix (.var 17) (.int 1)) (.var 14)) .nil)))) (.cons (.expr (.met .append (.var 16) (.cons (.tmp (.blt .tuple1 (.cons (.comp (.call 18 (.cons (.bin .Add (.var 0) (.var 2)) (.cons (.var 1) .nil))) (.name 0) (.seq (.var 17)) .nil ["_law_one"] [2,14]) .nil))) .nil))) .nil))) (.cons (.set (.sub (.var 9) (.call 20 (.cons (.var 0) (.cons (.var 8) .nil)))) (.tup (.cons (.ix (.var 6) (.var 12)) (.cons (.ix (.var 6) (.var 13)) (.cons (.blt .tuple1 (.cons (.var 16) .nil)) .nil))))) .nil)))))))))
theorem ye {st:AH}{p:Nat}{far:Int}{B ch t:Nat}{many:Int}{pl:Nat}{ws:List Str}{nm d:Nat}{names:List Str}{i:Nat}{D:aG}{nms:List Str}{T:List (Str × Ti)}{most:Nat}{k a b la u r vv:Option PV}{s:AH}(f0:0<far)(f1:far≤10 ^ 8)(b0:0<B)(b1:B≤10 ^ 6)(hi:i<10)(hch:0<ch→ch≤7∧names.length=ch+1)
  (n:NS st p s pl nm d names nms T) (nl:nms.length≤i) (pl':T.length≤i) (m1:most≤10 ^ 12) :
  aq Γ gI (nF p far B ch t many pl ws nm d most (some (.int i)) a b la u r vv none) s (LD (NI st p far B ch t many pl ws nm d names (i+1)) D):=by
 unfold gI
 have N2:=n.N2
 have N4:=n.N4
 refine bp (fun ρ s=>∃x:Nat,x<names.length∧NS st p s pl nm d names nms T∧ρ=nF p far B ch t many pl ws nm d most (some (.int i)) (some (.int x)) b la u r vv none) ?_ ?_
 ·walk_at "WPN"
  exact⟨_,ad n.hp,p,names.length,by simp[sV],n.g.pot,by omega,by omega,fun y s1 y0 y1 g1=>⟨y.toNat,by omega,n.mono g1,by rw[HI y0]⟩⟩
 rintro _ s1 ⟨x,x1,n,rfl⟩
 refine bp (fun ρ s=>∃y:Nat,y<names.length∧NS st p s pl nm d names nms T∧ρ=nF p far B ch t many pl ws nm d most (some (.int i)) (some (.int x)) (some (.int y)) la u r vv none) ?_ ?_
 ·walk_at "WPN"
  refine⟨_,ad n.hp,p,(names.length:Int)-1,by simp[sV],n.g.pot,by omega,by omega,fun y s2 y0 y1 g1=>?_⟩
  walk_at "WPN"
  have n2:=n.mono g1
  have e:(sV names).length=names.length:=by simp[sV]
  have z0:0≤((x:Int)+1+y) % ((sV names).length:Int):=J7 _ (by omega)
  have z1:((x:Int)+1+y) % ((sV names).length:Int)<names.length:=by rw[e];exact JT _ (by omega)
  exact⟨_,ad n2.hp,by omega,(((x:Int)+1+y) % ((sV names).length:Int)).toNat,by omega,n2,by rw[HI z0]⟩
 rintro _ s2 ⟨y,y1,n,rfl⟩
 refine bp (fun ρ s=>s2=s∧ρ=nF p far B ch t many pl ws nm d most (some (.int i)) (some (.int x)) (some (.int y)) (some (.int 0)) u r vv none) (by walk_at "WPN") ?_
 rintro _ _ ⟨rfl,rfl⟩
 refine bp (fun ρ s=>s2++[.lst []]=s∧ρ=nF p far B ch t many pl ws nm d most (some (.int i)) (some (.int x)) (some (.int y)) (some (.int 0)) (some (.ref s2.length)) r vv none) (by walk_at "WPN") ?_
 rintro _ _ ⟨rfl,rfl⟩
 have dl:=ai n.hd
 have pp:=n.g.was
 have l1:=n.l1
 have l2:=n.l2
 have l3:=n.l3
 obtain⟨P5,hP5⟩:∃P:Fr→AH→Prop,P=fun ρ s=>∃(x y LA:Nat) (L:List PV),x<names.length∧y<names.length∧LA≤10 ^ 10∧NS st p s pl nm d names nms T∧s[s2.length]?=some (.lst L)∧(∀v∈L,RNb (10 ^ 11) v)∧L.length≤1∧ρ=nF p far B ch t many pl ws nm d most (some (.int i)) (some (.int x)) (some (.int y)) (some (.int LA)) (some (.ref s2.length)) r vv none:=⟨_,rfl⟩
 refine bp P5 ?_ ?_
 ·walk_at "WPN"
  refine aX (fun c=>?_) fun c=>?_
  ·have hc:=hch (by omega)
   have m0:0≤3*far*(i:Int):=Int.mul_nonneg (by omega) (by omega)
   have m2:3*far*(i:Int)≤3*far*10:=Int.mul_le_mul_of_nonneg_left (by omega) (by omega)
   refine⟨qt (by decide) (by decide),qt (by omega) (by omega),⟨_,aU am⟩,p,far,rfl,n.app.g.pot,f0,f1,fun v s3 hv g3=>?_⟩
   have hL:=g3.get (am (st:=s2) (c:=Cell.lst [])) (by omega)
   refine⟨_,hL,by simp,?_⟩
   rw[hP5]
   refine⟨i,i+1,(3*far*(i:Int)).toNat,[v],by omega,by omega,by omega,(n.app.mono g3).setN dl,?_,fun w hw=>?_,by simp,?_⟩
   ·rw[GB (ai hL)];rfl
   ·rw[FZ] at hw;subst hw;exact hv
   ·rw[HI m0];rfl
  ·rw[hP5]
   exact⟨x,y,0,[],x1,y1,by omega,n.app,am,fun v hv=>(nomatch hv),by simp,rfl⟩
 intro ρ5 s3 h5
 rw[hP5] at h5
 obtain⟨x,y,LA,L0,x1,y1,hLA,n,hu,hL0,l0,rfl⟩:=h5
 obtain⟨P6,hP6⟩:∃P:Fr→AH→Prop,P=fun ρ s=>∃un L,NS st p s pl nm d names nms T∧s[un]?=some (.lst L)∧(∀v∈L,RNb (10 ^ 11) v)∧L.length≤11∧d<un∧ρ=nF p far B ch t many pl ws nm d most (some (.int i)) (some (.int x)) (some (.int y)) (some (.int LA)) (some (.ref un)) r vv none:=⟨_,rfl⟩
 refine bp P6 ?_ ?_
 ·walk_at "WPN"
  obtain⟨z,ez,hz⟩:=zy (y:=(x:Int)) n.N (by omega) (by omega)
  refine⟨_,ad n.hp,_,ez,ws,rfl,p,_,far,rfl,n.g.pot,f0,f1,fun m L s' g' hm hL' hv hl=>?_⟩
  walk_at "WPN"
  have:=ai (n.mono g').hd
  refine⟨_,g'.get hu (by omega),_,hL',by omega,?_⟩
  rw[hP6]
  refine⟨s'.length,L0++L,(n.mono g').app,am,fun v hv'=>?_,by simp;omega,by omega,rfl⟩
  rcases F7.mp hv' with q|q
  ·exact hL0 v q
  ·exact hv v q
 intro ρ6 s4 h6
 rw[hP6] at h6
 obtain⟨un,L,n,hu,hL,ll,du,rfl⟩:=h6
 have dl4:=ai n.hd
 have ul4:=ai hu
 refine bp (fun ρ s=>s4++[.lst []]=s∧ρ=nF p far B ch t many pl ws nm d most (some (.int i)) (some (.int x)) (some (.int y)) (some (.int LA)) (some (.ref un)) (some (.ref s4.length)) vv none) (by walk_at "WPN") ?_
 rintro _ _ ⟨rfl,rfl⟩
 have be:B<2 ^ 8000:=F3 (show B<2 ^ 64 by omega) (HS (by decide) (by decide))
 refine bp (NJ st p far B ch t many pl ws nm d names nms T i x y LA un s4.length L L.length) ?_ ?_
 ·walk_at "WPN"
  refine⟨_,ad (cP hu),bT Γm (NJ st p far B ch t many pl ws nm d names nms T i x y LA un s4.length L) ⟨[],most,_,n.app,cP hu,am,rfl,fun q hq=>(nomatch hq),m1,rfl⟩ ?_ ?_⟩
  ·rintro j v ρ s hj ⟨X,most,w,n,hu2,hr,xl,hX,m1,rfl⟩
   refine⟨hu2.trans (cP hu).symm,?_⟩
   have jl:=(FY.mp hj).1
   obtain⟨f,l,c,dd,rfl,hN,c1,d1⟩:=hL v (GE hj)
   walk_at "WPN"
   have q1:=hN.fl
   have q2:=hN.fc
   have q3:=hN.ld
   have q4:=hN.eq
   have mx:(if (most:Int)<(l:Int)+LA then (l:Int)+LA else most)=((max most (l+LA):Nat):Int):=by split <;> omega
   rw[mx]
   refine⟨⟨_,aU hr⟩,by decide,comp_map Γm (fun x=>match x with | .int z=>fr (aV (z.toNat+LA) B)|v=>v) trivial (fun y hy=>?_) ?_⟩
   ·simp only[List.mem_cons,List.not_mem_nil,or_false] at hy
    rcases hy with rfl|rfl|rfl|rfl
    ·walk_at "WP";exact⟨f+LA,B,rfl,by omega,be,rfl,rfl⟩
    ·walk_at "WP";exact⟨l+LA,B,rfl,by omega,be,rfl,rfl⟩
    ·walk_at "WP";exact⟨c+LA,B,rfl,by omega,be,rfl,rfl⟩
    ·walk_at "WP";exact⟨dd+LA,B,rfl,by omega,be,rfl,rfl⟩
   ·refine⟨_,ad am,.app ?_ ?_⟩
    ·simp[PV.bel,PV.bels,fr]
    ·refine⟨_,hr,by simp;omega,X++[(Rd.mk (f+LA) (l+LA) (c+LA) (dd+LA)).q B],max most (l+LA),_,n.setN dl4,?_,?_,by simp[xl],fun q hq=>?_,by omega,rfl⟩
     ·rw[F6 (by omega)];exact hu2
     ·rw[GB (ai hr),HW];rfl
     ·rcases F7.mp hq with hq|hq
      ·exact hX q hq
      ·rw[FZ] at hq
       subst hq
       exact RideN.q (r:=⟨f+LA,l+LA,c+LA,dd+LA⟩) ⟨by show f+LA≤l+LA;omega,by show f+LA≤c+LA;omega,by show l+LA≤dd+LA;omega,fun z=>by have z:f+LA=l+LA:=z;have:=q4 (by omega);show c+LA=dd+LA;omega,by show dd+LA<_;omega,by show c+LA<_;omega,by show l+LA<_;omega⟩ b0 (by omega)
  ·rintro ρ s hI
   obtain⟨X,most,w,n,hu2,hr,xl,hX,m1,rfl⟩:=hI
   exact⟨hu2.trans (cP hu).symm,X,most,w,n,hu2,hr,xl,hX,m1,rfl⟩
 rintro _ s5 ⟨X,most,w,n,hu2,hr,xl,hX,m1,rfl⟩
 walk_at "WP"
 obtain⟨z1,e1,hz1,in1⟩:=BB (y:=(x:Int)) n.N (by omega) (by omega)
 obtain⟨z2,e2,hz2,in2⟩:=BB (y:=(y:Int)) n.N (by omega) (by omega)
 refine⟨_,ad n.hp,_,e1,_,ad n.hp,_,e2,_,ad hr,p,nm,nms,rfl,n.g.pot,by omega,n.hn,by omega,n.M,fun z s6 hz gn hs=>?_⟩
 have n6:=n.named gn hz hs
 refine⟨_,n6.hd,by simp[kd];omega,?_⟩
 have eq:ic (kd (td T)) (.inr z) (Ti.v ⟨z1,z2,X⟩)=kd (td (cT T z ⟨z1,z2,X⟩)):=jV (F:=T) (v:=Ti.v)
 have al:=qC (F:=T) (z:=z) (a:=⟨z1,z2,X⟩)
 show NI st p far B ch t many pl ws nm d names (i+1) _ (s6.set d (.dk (ic (kd (td T)) (.inr z) (Ti.v ⟨z1,z2,X⟩))))
 rw[eq]
 refine⟨nms++[z],_,most,_,_,_,_,_,_,_,n6.put (n6.P.put (by omega) hz hz1 hz2 hX) (fun q hq=>?_),by simp;omega,by omega,m1,rfl⟩
 rcases cU hq with hq|rfl
 ·exact n6.X q hq
 ·exact⟨by show X.length≤100;omega,in1,in2⟩
theorem uE {as st Q}(h:cY as st Q):aq Γ eK (frame 19 as) st (af st Q):=by
 obtain⟨p,rfl,hp,k⟩:=h
 have pp:=hp.lt
 unfold eK
 refine bp (fun ρ s=>∃far:Int,Gr st p s∧0<far∧far≤10 ^ 8∧ρ=[some (.ref p),some (.int far),none,none,none,none,none,none,none,none,none,none,none,none,none,none,none,none,none]) ?_ ?_
 ·walk_at "WPN"
  have g0:Gr st p (st++[Cell.lst [PV.int 4,PV.int 12,PV.int 10000,PV.int 100000000]]):=(Gr.refl hp).app
  refine⟨FC,Fh,p,4,rfl,g0.pot,by decide,by decide,fun y s y0 y1 g=>?_⟩
  obtain⟨i,ev,i0,i1⟩:=u4 (L:=[4,12,10000,100000000]) (B:=100000000) (by decide) y0 y1
  walk_at "WPN"
  exact⟨_,ad (g.get am (by omega)),_,ev,(g0.trans g).tmp (by rw[PV.bel]) fun s2 g2 l2=>⟨g2,i,i0,i1,rfl⟩⟩
 rintro _ s1 ⟨far,g1,f0,f1,rfl⟩
 refine bp (fun ρ s=>∃bot:Int,Gr st p s∧0<bot∧bot≤10 ^ 6∧ρ=[some (.ref p),some (.int far),some (.int bot),none,none,none,none,none,none,none,none,none,none,none,none,none,none,none,none]) ?_ ?_
 ·walk_at "WPN"
  refine⟨p,12,rfl,g1.pot,by decide,by decide,fun x s2 x0 x1 g2=>?_⟩
  walk_at "WPN"
  refine⟨E7,p,1000000,rfl,g2.pot,by decide,by decide,fun z s3 z0 z1 g3=>?_⟩
  walk_at "WPN"
  have g4:Gr s1 p (s3++[Cell.lst [PV.int 1,PV.int (1+x),PV.int (1+z)]]):=(g2.trans g3).app
  refine⟨p,3,rfl,g4.pot,by decide,by decide,fun y s5 y0 y1 g5=>?_⟩
  obtain⟨i,ev,i0,i1⟩:=u4 (L:=[1,1+x,1+z]) (B:=1000000) (fun i hi=>by
   simp only[List.mem_cons,List.not_mem_nil,or_false] at hi
   rcases hi with rfl|rfl|rfl <;> omega) y0 y1
  walk_at "WPN"
  exact⟨_,ad (g5.get am (by have:=g4.was;have:=(g2.trans g3).len;omega)),_,ev,(g4.trans g5).tmp (by rw[PV.bel]) fun s2 g2 l2=>⟨g1.trans g2,i,i0,i1,rfl⟩⟩
 rintro _ s2 ⟨bot,g2,b0,b1,rfl⟩
 obtain⟨P7,hP7⟩:∃P:Fr→AH→Prop,P=fun ρ s=>∃ch:Nat,Gr st p s∧(0<ch→4≤ch∧ch≤7)∧ρ=[some (.ref p),some (.int far),some (.int bot),some (.int ch),none,none,none,none,none,none,none,none,none,none,none,none,none,none,none]:=⟨_,rfl⟩
 refine bp P7 ?_ ?_
 ·walk_at "WPN"
  refine⟨p,4,rfl,g2.pot,by decide,by decide,fun x s3 x0 x1 g3=>?_⟩
  walk_at "WPN"
  have g4:Gr s2 p (s3++[Cell.lst [PV.int 0,PV.int (4+x)]]):=g3.app
  refine⟨p,8,rfl,g4.pot,by decide,by decide,fun y s5 y0 y1 g5=>?_⟩
  walk_at "WPN"
  have hl:=g5.get (am (st:=s3) (c:=Cell.lst [PV.int 0,PV.int (4+x)])) (by have:=g4.was;have:=g3.len;omega)
  refine⟨_,ad hl,?_⟩
  rcases bz (decide (y=7)) with e|e
  ·rw[e]
   exact⟨_,og,(g4.trans g5).tmp (by rw[PV.bel]) fun s6 g6 l6=>by rw[hP7];exact⟨0,g2.trans g6,fun z=>absurd z (by omega),rfl⟩⟩
  ·rw[e]
   exact⟨_,lj,(g4.trans g5).tmp (by rw[PV.bel]) fun s6 g6 l6=>by rw[hP7];exact⟨(4+x).toNat,g2.trans g6,fun _=>by omega,by rw[HI (by omega)]⟩⟩
 intro ρ7 s3 h7
 rw[hP7] at h7
 obtain⟨ch,g3,hch,rfl⟩:=h7
 have hc7:ch≤7:=by
  by_cases z:0<ch
  ·exact(hch z).2
  ·omega
 refine bp (fun ρ s=>s3++[.lst []]=s∧ρ=[some (.ref p),some (.int far),some (.int bot),some (.int ch),some (.ref s3.length),none,none,none,none,none,none,none,none,none,none,none,none,none,none]) (by walk_at "WPN") ?_
 rintro _ _ ⟨rfl,rfl⟩
 have l3:=g3.len
 obtain⟨P8,hP8⟩:∃P:Fr→AH→Prop,P=fun ρ s=>∃many:Nat,Gr (s3++[.lst []]) p s∧2≤many∧many≤9∧(0<ch→many=ch+1)∧ρ=[some (.ref p),some (.int far),some (.int bot),some (.int ch),some (.ref s3.length),some (.int many),none,none,none,none,none,none,none,none,none,none,none,none,none]:=⟨_,rfl⟩
 refine bp P8 ?_ ?_
 ·walk_at "WPN"
  refine aX (fun c=>?_) fun c=>?_
  ·have:=hch (by omega)
   rw[hP8]
   exact⟨ch+1,Gr.refl g3.pot.app,by omega,by omega,fun _=>rfl,rfl⟩
  ·refine⟨p,3,rfl,g3.pot.app,by decide,by decide,fun y s4 y0 y1 g4=>?_⟩
   walk_at "WPN"
   rw[hP8]
   exact⟨(2+y).toNat,g4,by omega,by omega,fun z=>absurd z (by omega),by rw[HI (by omega)]⟩
 intro ρ8 s4 h8
 rw[hP8] at h8
 obtain⟨many,g4,m2,m9,mch,rfl⟩:=h8
 have ht4:=g4.get (am (st:=s3) (c:=Cell.lst [])) (by omega)
 have g5:=(g3.app (g:=[Cell.lst []])).trans g4
 refine bp (fun ρ s=>∃pl names,Gr st p s∧st.length≤pl∧s[pl]?=some (.lst (sV names))∧(∀z∈names,Nm z)∧names.length=many∧ρ=[some (.ref p),some (.int far),some (.int bot),some (.int ch),some (.ref s3.length),some (.int many),some (.ref pl),none,none,none,none,none,none,none,none,none,none,none,none]) ?_ ?_
 ·walk_at "WPN"
  refine⟨by omega,by omega,by simp[di];omega,?_⟩
  refine i5 Γm (fun i acc s=>∃names,acc=sV names∧names.length=i∧(∀z∈names,Nm z)∧Gr st p s∧s[s3.length]?=some (.lst (sV names))) ⟨[],rfl,rfl,fun z hz=>(nomatch hz),g5,ht4⟩ ?_ ?_
  ·rintro i v acc s hi ⟨names,rfl,nl,hN',g,ht⟩
   obtain⟨rfl,hi⟩:=dO hi
   refine⟨trivial,?_⟩
   walk_at "WPN"
   refine⟨p,s3.length,names,rfl,g.pot,by omega,ht,by omega,hN',fun z s' hz gn hs=>⟨names++[z],by simp[sV],by simp[nl],fun y hy=>?_,Gn.gr g (by omega) gn,hs⟩⟩
   rcases F7.mp hy with hy|hy
   ·exact hN' y hy
   ·rw[FZ] at hy;subst hy;exact hz
  ·rintro acc s ⟨names,rfl,nl,hN',g,ht⟩
   refine⟨trivial,?_⟩
   have nl:names.length=many:=by simpa[di] using nl
   exact⟨g.app,s.length,by have:=g.len;omega,names,am,hN',nl,rfl⟩
 rintro _ s5 ⟨pl,names,g6,l6,hpl,N,nN,rfl⟩
 refine bp (fun ρ s=>∃ws,Gr s5 p s∧ρ=[some (.ref p),some (.int far),some (.int bot),some (.int ch),some (.ref s3.length),some (.int many),some (.ref pl),some (.tup (sV ws)),none,none,none,none,none,none,none,none,none,none,none]) ?_ ?_
 ·walk_at "WPN"
  refine⟨_,ad hpl,by simp[sV];omega,?_⟩
  refine i5 Γm (fun i acc s=>∃ws,acc=sV ws∧ws.length≤i∧Gr s5 p s) ⟨[],rfl,F2 _,Gr.refl g6.pot⟩ ?_ ?_
  ·rintro i v acc s hi ⟨ws,rfl,wl,g⟩
   rw[F9] at hi
   obtain⟨z,hz,rfl⟩:=GK.mp hi
   refine⟨g.old pl (ai hpl) (by omega),?_⟩
   walk_at "WPN"
   refine aX (fun c=>?_) fun c=>?_
   ·exact⟨ws++[z],by simp[sV],by simp;omega,g⟩
   ·refine⟨p,2,rfl,g.pot,by decide,by decide,fun y s' y0 y1 g'=>?_⟩
    walk_at "WPN"
    exact aX (fun c=>⟨ws++[z],by simp[sV],by simp;omega,g.trans g'⟩) fun c=>⟨ws,rfl,by omega,g.trans g'⟩
  ·rintro acc s ⟨ws,rfl,wl,g⟩
   refine⟨g.old pl (ai hpl) (by omega),?_⟩
   have wl:ws.length≤names.length:=by simpa[sV] using wl
   exact⟨ws,aU am,by omega,fun ss' hp' _=>⟨_,ad (by rw[dz (k:=1)];rfl),g.app,ss',rfl⟩⟩
 rintro _ s6 ⟨ws,g7,rfl⟩
 have hpl6:=g7.get hpl (by omega)
 refine bp (fun ρ s=>s6++[.lst []]=s∧ρ=[some (.ref p),some (.int far),some (.int bot),some (.int ch),some (.ref s3.length),some (.int many),some (.ref pl),some (.tup (sV ws)),some (.ref s6.length),none,none,none,none,none,none,none,none,none,none]) (by walk_at "WPN") ?_
 rintro _ _ ⟨rfl,rfl⟩
 refine bp (fun ρ s=>s6++[.lst [],.dk []]=s∧ρ=[some (.ref p),some (.int far),some (.int bot),some (.int ch),some (.ref s3.length),some (.int many),some (.ref pl),some (.tup (sV ws)),some (.ref s6.length),some (.ref (s6.length+1)),none,none,none,none,none,none,none,none,none]) (by walk_at "WPN") ?_
 rintro _ _ ⟨rfl,rfl⟩
 obtain⟨B,rfl⟩:∃B:Nat,bot=B:=⟨bot.toNat,by omega⟩
 refine bp (fun ρ s=>s6++[.lst [],.dk []]=s∧ρ=nF p far B ch s3.length many pl ws s6.length (s6.length+1) (0:Nat) none none none none none none none none) (by walk_at "WPN") ?_
 rintro _ _ ⟨rfl,rfl⟩
 have n0:NS st p (s6++[.lst [],.dk []]) pl s6.length (s6.length+1) names [] []:=⟨(g6.trans g7).app,l6,by have:=ai hpl6;omega,by omega,cP hpl6,by rw[bL];rfl,by rw[dz (k:=1)];rfl,⟨List.Pairwise.nil,by simp,fun q hq=>(nomatch hq),fun q hq=>(nomatch hq)⟩,fun q hq=>(nomatch hq),N,by omega,by omega,fun z hz=>(nomatch hz)⟩
 refine bp (fun ρ s=>∃i,NI st p far B ch s3.length many pl ws s6.length (s6.length+1) names i ρ s) ?_ ?_
 ·walk_at "WPN"
  refine aX (fun c=>⟨p,4,rfl,n0.g.pot,by decide,by decide,fun x s7 x0 x1 g7=>?_⟩) fun c=>⟨p,7,rfl,n0.g.pot,by decide,by decide,fun x s7 x0 x1 g7=>?_⟩
  all_goals
   have hx:(ch:Int)+x≤10:=by omega
   walk_at "WPN"
   obtain⟨M,hM⟩:∃M:Nat,(ch:Int)+x=M:=⟨((ch:Int)+x).toNat,by omega⟩
   rw[hM]
   refine⟨by omega,by omega,bT Γm (NI st p far B ch s3.length many pl ws s6.length (s6.length+1) names) ⟨[],[],0,_,_,_,_,_,_,_,n0.mono g7,F2 _,F2 _,by omega,rfl⟩ ?_ ?_⟩
   ·rintro i v ρ s hi ⟨nms,T,most,k',a,b,la,u,r,x',n,nl,tl,m1,rfl⟩
    obtain⟨rfl,hi⟩:=dO hi
    exact⟨trivial,ye (k:=k') f0 f1 (by omega) (by omega) (by omega) (fun z=>⟨hc7,by rw[nN];exact mch z⟩) n nl tl m1⟩
   ·rintro ρ s hI
    exact⟨trivial,_,hI⟩
 rintro _ s7 ⟨i,nms,T,most,k',a,b,la,u,r,x,n,nl,tl,m1,rfl⟩
 walk_at "WP"
 refine⟨p,far,rfl,n.g.pot,f0,by omega,fun y s8 y0 y1 g8=>?_⟩
 walk_at "WP"
 obtain⟨A,hA⟩:∃A:Nat,(most:Int)+y=A:=⟨((most:Int)+y).toNat,by omega⟩
 rw[hA]
 have n8:=n.mono g8
 have be:B<2 ^ 8000:=F3 (show B<2 ^ 64 by omega) (HS (by decide) (by decide))
 have q2:=n8.l2
 have q3:=n8.l3
 refine⟨A,B,rfl,by omega,be,aX (fun c=>⟨nV (by decide) (by decide),.inl ?_⟩) fun c=>⟨nV (by decide) (by decide),.inl ?_⟩⟩
 ·exact k _ _ ws _ T pl names (far*8) B n8.g (by have:=n8.l1;omega) n8.l1 n8.hd n8.P (fun q hq=>(n8.X q hq).1) n8.hp (by omega) n8.N4 n8.N (fun q hq=>(n8.X q hq).2) (by omega) (by omega) (by omega) (by omega)
 ·exact k _ _ ws _ T pl names (far*1) B n8.g (by have:=n8.l1;omega) n8.l1 n8.hd n8.P (fun q hq=>(n8.X q hq).1) n8.hp (by omega) n8.N4 n8.N (fun q hq=>(n8.X q hq).2) (by omega) (by omega) (by omega) (by omega)
open PySem L2 HX FW
noncomputable abbrev wD (t:Nat × Nat)(w:List Str):PyData:=.tuple [.tuple [.int t.1,.int t.2],.tuple (w.map PyData.str)]
theorem Cy:∀ {w:List Str},PV.toDs (sV w)=some (w.map PyData.str)
 | []=>by simp[sV,PV.toDs]
 | z::w=>by
  have:=Cy (w:=w)
  unfold sV at this ⊢
  rw[GC,PV.toDs,this,PV.toD]
  rfl
theorem vn {t:Nat × Nat}{w:List Str}:(PV.tup [fr t,.tup (sV w)]).toD=some (wD t w):=by
 simp[PV.toD,PV.toDs,fr,Cy]
theorem Aa {z:Str}(h:Nm z):(PyData.str z).canLay0=true:=by simp only[PyData.canLay0];exact h.ok
theorem pF:∀ {w:List Str},(∀z∈w,Nm z)→PyData.canLayAll0 (w.map PyData.str)=true∧PyData.depthAll (w.map PyData.str)≤1
 | [],_=>by simp[PyData.canLayAll0,PyData.depthAll]
 | z::w,h=>by
  obtain⟨a,b⟩:=pF (w:=w) fun y hy=>h y (GO _ hy)
  have c:=Aa (h z GQ)
  refine⟨by rw[GC,PyData.canLayAll0,c,a];rfl,?_⟩
  rw[GC,PyData.depthAll,PyData.depth]
  omega
theorem Br {t:Nat × Nat}{w:List Str}(h:∀z∈w,Nm z):SeqAt.shaped (wD t w)=true:=by
 obtain⟨a,b⟩:=pF h
 simp[SeqAt.shaped,PyData.canLay0,PyData.canLayAll0,PyData.depth,PyData.depthAll,a]
 omega
theorem rC:∀ {w w':List Str},PyData.eqvAll (w.map PyData.str) (w'.map PyData.str)=true→w=w'
 | [],[],_=>rfl
 | [],_::_,h=>by simp[PyData.eqvAll] at h
 | _::_,[],h=>by simp[PyData.eqvAll] at h
 | a::w,b::w',h=>by
  simp only[List.map_cons,PyData.eqvAll,Bool.and_eq_true,PyData.eqv,beq_iff_eq] at h
  rw[h.1,rC h.2]
theorem Cz {t t':Nat × Nat}{w w':List Str}(h:PyData.eqv (wD t w) (wD t' w')=true):t=t'∧w=w':=by
 simp only[PyData.eqv,PyData.eqvAll,Bool.and_eq_true,beq_iff_eq] at h
 have h1:=h.1.1
 have h2:=h.1.2.1
 have h3:=rC h.2.1
 exact⟨JV (by omega) (by omega),h3⟩
structure Gd (T:List (Str × Ti))(ws:List Str)(sr:Str)(t:Nat × Nat)(i:Nat):Prop where
 fok:Fok (50+252*i) (FF T ws sr t i).mo
 key:Keys T sr (FF T ws sr t i).mo
 wl:∀p∈FF T ws sr t i,p.2.2.length≤i∧∀z∈p.2.2,Nm z
 ly:lyr T ws (f0 sr t) i=Mv (FF T ws sr t i).mo
 st:∀k,k<i→Step T ws (lyr T ws (f0 sr t) k) (lyr T ws (f0 sr t) (k+1))
 en:EnW T ws (lyr T ws (f0 sr t)) sr (val t) i (FF T ws sr t i)
theorem oa {sr:Str}{t:Nat × Nat}:f0 sr t sr=some (val t):=by unfold f0;rw[GA rfl]
theorem Gd.zero {T:List (Str × Ti)}{ws:List Str}{sr:Str}{t:Nat × Nat}(hsr:Nm sr)(ct:Cop t)(zt:Sz 50 t):Gd T ws sr t 0:=by
 refine⟨⟨by simp[FF],fun p hp=>?_⟩,fun p hp=>?_,fun p hp=>?_,?_,fun k hk=>absurd hk (II _),fun p hp=>?_⟩
 ·simp only[FF,List.map_cons,List.map_nil,List.mem_singleton] at hp
  subst hp
  exact⟨hsr,ct,zt⟩
 ·simp only[FF,List.map_cons,List.map_nil,List.mem_singleton] at hp
  subst hp
  exact .inl rfl
 ·simp only[FF,List.mem_singleton] at hp
  subst hp
  exact⟨F2 _,fun z hz=>(nomatch hz)⟩
 ·show f0 sr t=Mv [(sr,t)]
  funext z
  unfold Mv f0
  by_cases h:z=sr
  ·subst h;simp
  ·have:¬sr=z:=fun q=>h q.symm
   simp[h,this]
 ·simp only[FF,List.mem_singleton] at hp
  subst hp
  exact⟨0,_,F2 _,.nil⟩
theorem Gd.next {T:List (Str × Ti)}{ws:List Str}{sr:Str}{t:Nat × Nat}{i:Nat}(hT:NetT T)(h:Gd T ws sr t i)(hf:Fok (50+252*i+252) (FF T ws sr t (i+1)).mo)(hk:Keys T sr (FF T ws sr t (i+1)).mo)(hw:∀p∈FF T ws sr t (i+1),p.2.2.length≤i+1)(hs:Step T ws (Mv (FF T ws sr t i).mo) (Mv (FF T ws sr t (i+1)).mo))(hW:om T ws (FF T ws sr t i) (FF T ws sr t (i+1))):Gd T ws sr t (i+1):=by
 have e:lyr T ws (f0 sr t) (i+1)=Mv (FF T ws sr t (i+1)).mo:=rX (by rw[h.ly];exact hs)
 refine⟨hf.mono (by omega),hk,fun p hp=>⟨hw p hp,?_⟩,e,fun k hk=>?_,EnW.step oa h.st h.fok hf h.ly e h.en hW⟩
 ·rcases hW p hp with q|⟨q,hq,_,a,ha,_,ew,_⟩
  ·exact(h.wl p q).2
  ·intro z hz
   rw[ew] at hz
   rcases F7.mp hz with hz|hz
   ·exact(h.wl a ha).2 z hz
   ·rw[FZ] at hz
    rw[hz]
    exact(hT.nm q hq).1
 ·by_cases z:k=i
  ·subst z;rw[e,h.ly];exact hs
  ·exact h.st k (by omega)
theorem sD {T:List (Str × Ti)}{ws:List Str}{sr:Str}{t:Nat × Nat}{i:Nat}(h:Gd T ws sr t i){p:Str × (Nat × Nat) × List Str}(hp:p∈FF T ws sr t i):bd (kd (gd (FF T ws sr t i))) (.inr p.1)=some (.tup [fr p.2.1,.tup (sV p.2.2)]):=bQ (ps:=gd (FF T ws sr t i)) (p:=(p.1,.tup [fr p.2.1,.tup (sV p.2.2)])) (by rw[gh];exact nE h.fok) (F1.mpr ⟨p,hp,rfl⟩)
theorem tH {T:List (Str × Ti)}{ws:List Str}{sr:Str}{t:Nat × Nat}{i:Nat}(h:Gd T ws sr t i):∀p∈kd (gd (FF T ws sr t i)),∃d,p.2.toD=some d∧SeqAt.shaped d=true:=fun p hp=>by
 obtain⟨q,hq,rfl⟩:=F1.mp hp
 obtain⟨r,hr,rfl⟩:=F1.mp hq
 exact⟨_,vn,Br (h.wl r hr).2⟩
theorem wm {T:List (Str × Ti)}{ws:List Str}{sr:Str}{t:Nat × Nat}{i:Nat}{s:AH}{c f:Nat}(h:Gd T ws sr t i)(h':Gd T ws sr t (i+1))(hc:s[c]?=some (.dk (kd (gd (FF T ws sr t (i+1))))))(hf:s[f]?=some (.dk (kd (gd (FF T ws sr t i)))))(e:lE (FF T ws sr t (i+1)) (FF T ws sr t i)):nA s (.ref c) (.ref f):=by
 refine .inr ⟨c,f,rfl,rfl,.inr ⟨c,f,_,_,rfl,rfl,hc,hf,?_,fun p hp=>?_⟩⟩
 ·have l1:=jp (nE h'.fok) (ys:=(FF T ws sr t i).map (·.1)) fun x hx=>by obtain⟨p,hp,rfl⟩:=F1.mp hx;exact F1.mpr ⟨p,e p hp,rfl⟩
  have l2:=jp (nE h.fok) (ys:=(FF T ws sr t (i+1)).map (·.1)) fun x hx=>by
   obtain⟨p,hp,rfl⟩:=F1.mp hx
   have v:=jL h.fok hp
   rw[←h.ly] at v
   obtain⟨y',e1,_⟩:=(h'.st i (by omega) p.1).1 _ (.inl v)
   rw[h'.ly] at e1
   obtain⟨q,hq,e2,_⟩:=gb e1
   obtain⟨r,hr,rfl⟩:=F1.mp hq
   exact F1.mpr ⟨r,hr,e2⟩
  simp only[List.length_map] at l1 l2 ⊢
  omega
 ·obtain⟨q,hq,rfl⟩:=F1.mp hp
  obtain⟨r,hr,rfl⟩:=F1.mp hq
  exact⟨_,sD h (e r hr),rfl,_,vn,Br (h'.wl r hr).2⟩
theorem zi {T:List (Str × Ti)}{ws:List Str}{sr:Str}{t:Nat × Nat}{i:Nat}{s:AH}{c f:Nat}(h:Gd T ws sr t i)(h':Gd T ws sr t (i+1))(hc:s[c]?=some (.dk (kd (gd (FF T ws sr t (i+1))))))(hf:s[f]?=some (.dk (kd (gd (FF T ws sr t i))))){p:Str × (Nat × Nat) × List Str}(hp:p∈FF T ws sr t (i+1))(np:p ∉ FF T ws sr t i):me s (.ref c) (.ref f):=by
 refine⟨c,f,_,_,rfl,rfl,hc,hf,tH h',tH h,.inr ⟨(.inr p.1,.tup [fr p.2.1,.tup (sV p.2.2)]),F1.mpr ⟨(p.1,.tup [fr p.2.1,.tup (sV p.2.2)]),F1.mpr ⟨p,hp,rfl⟩,rfl⟩,fun u hu=>?_⟩⟩
 by_cases q:p.1∈(FF T ws sr t i).map (·.1)
 ·obtain⟨r,hr,er⟩:=F1.mp q
  have:=sD h hr
  rw[er] at this
  have hu:bd (kd (gd (FF T ws sr t i))) (.inr p.1)=some u:=hu
  rw[this] at hu
  cases hu
  refine⟨_,_,vn,vn,?_⟩
  cases e:PyData.eqv (wD p.2.1 p.2.2) (wD r.2.1 r.2.2) with
  | false=>rfl
  | true =>
   obtain⟨e1,e2⟩:=Cz e
   exact absurd (show p∈_ by rw[show p=r from JV er.symm (JV e1 e2)];exact hr) np
 ·have hu:bd (kd (gd (FF T ws sr t i))) (.inr p.1)=some u:=hu
  rw[dF (by rw[gh];exact q)] at hu
  cases hu
noncomputable abbrev fwF (e:PV)(ws:List Str)(d:Nat)(sr goal:Str)(t:Nat × Nat)(f c:Nat):Fr:=[some (bS e ws d),some (.str sr),some (.str goal),some (fr t),some (.ref f),some (.ref c)]
def FwI (st:AH)(e:PV)(ws:List Str)(d:Nat)(T:List (Str × Ti))(sr goal:Str)(t:Nat × Nat)(n:Nat)(ρ:Fr)(s:AH):Prop:=∃i c f,n=10-i∧i≤9∧Pre st s∧s[c]?=some (.dk (kd (gd (FF T ws sr t i))))∧(i=0→s[f]?=some (.dk []))∧(∀j,i=j+1→s[f]?=some (.dk (kd (gd (FF T ws sr t j)))))∧(∀j,j≤i→Gd T ws sr t j)∧(∀j,j<i→om T ws (FF T ws sr t j) (FF T ws sr t (j+1)))∧(∀j,j+1<i→¬lE (FF T ws sr t (j+1)) (FF T ws sr t j))∧ρ=fwF e ws d sr goal t f c
theorem D7 {T:List (Str × Ti)}{ws:List Str}{sr goal:Str}{t:Nat × Nat}{i:Nat}{N:List Str}(hT:NetT T)(hN:∀q∈T,q.2.a∈N∧q.2.b∈N)(hl:N.length≤9)(i8:i≤8)(h:Gd T ws sr t i)(h':Gd T ws sr t (i+1))(e:lE (FF T ws sr t (i+1)) (FF T ws sr t i)):FwOk T ws sr t goal (((FF T ws sr t i).find? fun p=>decide (p.1=goal)).map fun p=>p.2.2):=by
 have eM:lyr T ws (f0 sr t) (i+1)=lyr T ws (f0 sr t) i:=by
  funext z
  cases e1:lyr T ws (f0 sr t) (i+1) z with
  | none =>
   cases e2:lyr T ws (f0 sr t) i z with
   | none=>rfl
   | some y=>obtain⟨y',e3,_⟩:=(h'.st i (by omega) z).1 y (.inl e2);rw[e1] at e3;cases e3
  | some y =>
   rw[h'.ly] at e1
   obtain⟨q,hq,e2,e3⟩:=gb e1
   obtain⟨r,hr,rfl⟩:=F1.mp hq
   rw[h.ly,←e2,←e3]
   exact(jL h.fok (e r hr)).symm
 have still:=oq h'.st eM
 have e8:lyr T ws (f0 sr t) 8=lyr T ws (f0 sr t) i:=by
  have:=(still (8-i)).1
  rwa [show i+(8-i)=8 by omega] at this
 refine⟨fun k=>?_,fun z=>?_,fun w hw=>?_⟩
 ·by_cases q:k<i
  ·exact h.st k q
  ·have:=(still (k-i)).2
   rwa [show i+(k-i)=k by omega] at this
 ·rw[e8,h.ly]
  refine kW fun q=>?_
  rw[IG,IH] at z
  rw[GU] at q
  obtain⟨p,hp,e⟩:=F1.mp q
  exact z p hp (HB e)
 ·obtain⟨p,hp,rfl⟩:=GK.mp hw
  have pm:=HZ hp
  have pe:p.1=goal:=HC (p:=p.1=goal) (JL (p:=fun p:Str × (Nat × Nat) × List Str=>decide (p.1=goal)) hp)
  obtain⟨j,vs,ji,hw⟩:=h.en p pm
  have l:=hw.len.1
  refine⟨by omega,val p.2.1,vs,by rw[e8,h.ly,←pe];exact jL h.fok pm,?_⟩
  rw[l,←pe]
  exact hw
theorem yw {as st Q}(h:dE as st Q):aq Γ fN (frame 6 as) st (af st Q):=by
 obtain⟨e,ws,d,T,sr,goal,t,N,rfl,hd,hT,hsr,ct,zt,hl,hN,k⟩:=h
 unfold fN
 walk_at "WP"
 refine io Γm (FwI st e ws d T sr goal t) (n:=10) ⟨0,st.length+1,st.length,rfl,by omega,Pre.refl.app,?_,fun _=>?_,fun j z=>(by omega),fun j hj=>?_,fun j hj=>absurd hj (II _),fun j hj=>absurd hj (II _),rfl⟩ ?_
 ·rw[dz (k:=1)];rfl
 ·rw[bL];rfl
 ·have:j=0:=by omega
  subst this
  exact .zero hsr ct zt
 rintro n ρ s ⟨i,c,f,rfl,i9,pr,hc,hf0,hf,hG,hW,hS,rfl⟩
 have hi:=hG i (F2 _)
 have body:i≤8→(∀j,j+1<i+1→¬lE (FF T ws sr t (j+1)) (FF T ws sr t j))→aP [bS e ws d,PV.ref c] s fun v st1=>∃m,m<10-i∧FwI st e ws d T sr goal t m [some (bS e ws d),some (PV.str sr),some (PV.str goal),some (fr t),some (PV.ref c),some v] st1:=fun i8 hS2=>by
  refine⟨50+252*i,i,e,ws,d,T,sr,c,FF T ws sr t i,rfl,hd.pre pr,hT,hc,hi.fok,hi.key,fun p hp=>(hi.wl p hp).1,by omega,by omega,fun n G s2 pr2 nl hn hF hK hw hs hWo eG=>?_⟩
  have eG:G=FF T ws sr t (i+1):=eG
  subst eG
  have hi1:=hi.next hT hF hK hw hs hWo
  refine⟨10-(i+1),by omega,i+1,n,c,rfl,by omega,pr.trans pr2,hn,fun z=>(by omega),fun j z=>?_,fun j hj=>?_,fun j hj=>?_,hS2,rfl⟩
  ·have:j=i:=by omega
   subst this
   exact pr2.get hc
  ·by_cases z:j=i+1
   ·subst z;exact hi1
   ·exact hG j (by omega)
  ·by_cases z:j=i
   ·subst z;exact hWo
   ·exact hW j (by omega)
 walk_at "WP"
 cases i with
 | zero=>exact .inr ⟨⟨c,f,_,_,rfl,rfl,hc,hf0 rfl,tH hi,fun p hp=>(nomatch hp),.inl (by simp[FF])⟩,body (by omega) fun j hj=>(by omega)⟩
 | succ i =>
  have hi0:=hG i (by omega)
  by_cases sm:lE (FF T ws sr t (i+1)) (FF T ws sr t i)
  ·refine .inl ⟨wm hi0 hi hc (hf i rfl) sm,?_⟩
   have R:FwR T ws sr t goal (((FF T ws sr t i).find? fun p=>decide (p.1=goal)).map fun p=>p.2.2):=⟨i,fun j hj=>hS j (by omega),sm,rfl⟩
   have O:=D7 (goal:=goal) hT hN hl (by omega) hi0 hi sm
   refine .inr ⟨_,.inl (hf i rfl),?_⟩
   cases ez:(FF T ws sr t i).find? fun p=>decide (p.1=goal) with
   | none =>
    rw[ez] at R O
    rw[dF (by
     rw[gh]
     intro q
     obtain⟨p,hp,e⟩:=F1.mp q
     exact IH.mp ez p hp (HB e)),F_ (by decide)]
    exact .inl (k none s pr R O)
   | some p =>
    rw[ez] at R O
    have dv:=sD hi0 (HZ ez)
    rw[show p.1=goal from HC (p:=p.1=goal) (JL (p:=fun p:Str × (Nat × Nat) × List Str=>decide (p.1=goal)) ez)] at dv
    rw[dv,GA (show (some _).isSome=true from rfl)]
    refine⟨_,.inl (hf i rfl),_,dv,?_⟩
    walk_at "WP"
    exact .inl (k (some p.2.2) s pr R O)
  ·obtain⟨p,hp,np⟩:∃p,p∈FF T ws sr t (i+1)∧p ∉ FF T ws sr t i:=GH fun z=>sm fun p hp=>GH fun q=>z ⟨p,hp,q⟩
   refine .inr ⟨zi hi0 hi hc (hf i rfl) hp np,body ?_ fun j hj=>?_⟩
   ·rcases hW i (by omega) p hp with q|q
    ·exact absurd q np
    ·obtain⟨vs,hw⟩:=q.wy oa hi0.st hi0.fok hi0.ly hi0.en (by rw[hi.ly];exact jL hi.fok hp)
     exact hw.short hT oa hi.st hN hl (F2 _)
   ·by_cases z:j=i
    ·subst z;exact sm
    ·exact hS j (by omega)
def RdI (st:AH)(e:PV)(ws:List Str)(d:Nat)(T:List (Str × Ti))(g:Nat→Pm)(sr:Str)(t:Nat × Nat)(w:List Str)(i:Nat)(ρ:Fr)(s:AH):Prop:=∃(z:Str) (c:Nat × Nat) (vs:List Str) (a:Option PV),Pre st s∧Cop c∧Sz (50+252*i) c∧Wy T ws g sr (val t) i z (val c) (w.take i) vs∧ρ=[some (bS e ws d),some (.tup (sV w)),some (.str sr),some (fr t),some (.str z),some (fr c),a]
theorem mT {as st Q}(h:bj as st Q):aq Γ cG (frame 7 as) st (af st Q):=by
 obtain⟨e,ws,d,T,g,sr,goal,t,w,vs,y,rfl,hd,hT,hX,ct,zt,wl,hw,k⟩:=h
 unfold cG
 walk_at "WP"
 refine bT Γm (RdI st e ws d T g sr t w) ⟨sr,t,_,_,Pre.refl,ct,zt,.nil,rfl⟩ ?_ ?_
 ·rintro i v ρ s hi ⟨z,c,vs1,a,pr,cc,zc,hw1,rfl⟩
  refine⟨trivial,?_⟩
  rw[F9] at hi
  obtain⟨nm,hnm,rfl⟩:=GK.mp hi
  have il:=(FY.mp hnm).1
  obtain⟨z2,y2,vs2,hw2⟩:=hw.take (i+1) (by omega)
  have et:w.take (i+1)=w.take i++[nm]:=by rw[HK,hnm];rfl
  rw[et] at hw2
  generalize ew:w.take i++[nm]=w2 at hw2
  generalize ek:i+1=k2 at hw2
  cases hw2 with
  | nil=>omega
  | @snoc k3 t3 w3 vs3 y3 q hw3 hq hC hg hl =>
   have:k3=i:=by omega
   subst this
   obtain⟨e1,e2⟩:=List.append_inj' ew rfl
   have e2:nm=q.1:=by simpa using e2
   subst e2
   obtain⟨rfl,et3⟩:=hw1.det hT hw3 e1
   subst et3
   have hdv:=bQ (ps:=td T) (p:=(q.1,q.2.v)) (by rw[kZ];exact hT.nd) (F1.mpr ⟨q,hq,rfl⟩)
   have hd2:=hd.pre pr
   walk_at "WP"
   rw[F_ (by decide)]
   refine .inr ⟨_,hd2,?_⟩
   rw[hdv]
   show ite (Option.isSome (some _)=false) _ _
   rw[F_ (show ¬Option.isSome (some q.2.v)=false by simp)]
   refine⟨_,hd2,_,hdv,?_⟩
   walk_at "WP"
   refine⟨_,hd2,_,hdv,?_⟩
   walk_at "WP"
   refine⟨50+252*k3,e,ws,d,T,q,c,rfl,hd2,hT,hq,hX q hq,cc,zc,by omega,by omega,fun o s2 pr2 ho hC2=>?_⟩
   have eo:=hC2.uniq hC (fun _ _ a b=>a.uniq b) (fun _ _ a b=>a.uniq b)
   cases o with
   | none=>cases eo
   | some c' =>
    have ec:val c'=y2:=GT eo
    show ite (cS (PV.tup _)=true) _ _
    rw[F_ (show ¬cS (PV.tup _)=true from FX)]
    refine⟨q.2.b,c',vs3++[q.2.b],_,pr.trans pr2,(ho c' rfl).1,(ho c' rfl).2.mono (by omega),?_,rfl⟩
    rw[et,e1,ec]
    exact .snoc hw3 hq hC hg hl
 ·rintro ρ s ⟨z,c,vs1,a,pr,cc,zc,hw1,rfl⟩
  refine⟨trivial,?_⟩
  have l:(sV w).length=w.length:=by simp[sV]
  rw[l] at zc hw1
  rw[GZ] at hw1
  obtain⟨rfl,rfl⟩:=hw1.det hT hw rfl
  walk_at "WP"
  exact .inl (k c s pr cc (zc.mono (by omega)) rfl)
theorem Wy.first {T:List (Str × Ti)}{ws:List Str}{g:Nat→Pm}{s:Str}{t0:Rat}{n k:Nat}{z:Str}{y:Rat}{w vs:List Str}(hs:∀k,k<n→Step T ws (g k) (g (k+1)))(kn:k≤n)(h:Wy T ws g s t0 k z y w vs):∀i,i<k→g i z≠some y:=by
 intro i ik e
 cases h with
 | nil=>omega
 | @snoc k t w vs y q hw hq hC hg hl =>
  obtain⟨y',h1,h2⟩:=f_ hs e (j:=k) (by omega) (by omega)
  have:=hl y' h1
  grind
theorem sO {F:Mom}{m:Nat}(h:Fok m F){goal:Str}{y:Rat}(e:Mv F goal=some y):∃c,Cop c∧Sz m c∧val c=y∧bd (kd (fd F)) (.inr goal)=some (fr c):=by
 obtain⟨p,hp,rfl,e2⟩:=gb e
 exact⟨p.2,(h.ok p hp).2.1,(h.ok p hp).2.2,e2,bQ (ps:=fd F) (p:=(p.1,fr p.2)) (by rw[GU];exact h.nd) (F1.mpr ⟨p,hp,rfl⟩)⟩
theorem oX {F:Mom}{goal:Str}(e:Mv F goal=none)(hn:(F.map (·.1)).Nodup):bd (kd (fd F)) (.inr goal)=none:=by
 refine dF fun q=>?_
 rw[GU] at q
 obtain⟨p,hp,rfl⟩:=F1.mp q
 have e:Mv F p.1=none:=e
 rw[df hn hp] at e
 cases e
theorem B2 {st:AH}{goal:Str}{c:Nat × Nat}{k:Bool→Prop}(h:Nm goal)(q:k true):eqW st (.tup [.str goal,fr c]) (.tup [.str goal,fr c]) k:=by
 have e:(PV.tup [.str goal,fr c]).toD=some (.tuple [.str goal,.tuple [.int c.1,.int c.2]]):=by simp[PV.toD,PV.toDs,fr]
 have o:=Aa h
 have s:SeqAt.shaped (.tuple [.str goal,.tuple [.int c.1,.int c.2]])=true:=by simp[SeqAt.shaped,PyData.canLay0,PyData.canLayAll0,PyData.depth,PyData.depthAll] at o ⊢;exact o
 refine⟨_,_,e_ e,e_ e,s,s,?_⟩
 rw[J_ _ (HM s)]
 exact q
noncomputable def gB8 (s:AH)(goal:Str)(c:Nat × Nat):PV→PV
 | .ref n=>match s[n]? with
  | some (.dk kvs)=>.bl (PV.same ((bd kvs (.inr goal)).getD .non) (fr c))
  | _=>.non
 | _=>.non
theorem zT {s:AH}{goal:Str}{c:Nat × Nat}{n:Nat}{kvs:List (Key × PV)}(h:s[n]?=some (.dk kvs)):gB8 s goal c (.ref n)=.bl (PV.same ((bd kvs (.inr goal)).getD .non) (fr c)):=by
 show (match s[n]? with|some (.dk kvs)=>PV.bl (PV.same ((bd kvs (.inr goal)).getD .non) (fr c))|_=>.non)=_
 rw[h]
theorem ow {f:Nat→Bool}:∀ {l:List Nat},j6 (l.map fun i=>PV.bl (f i))=some (l.map f)
 | []=>rfl
 | i::l=>by simp only[List.map_cons,j6,ow (l:=l),Option.map_some]
theorem o8 {as st Q}(h:bO as st Q):aq Γ dm (frame 7 as) st (af st Q):=by
 obtain⟨e,ws,d,T,sr,goal,t,o,rfl,hd,hT,hX,hsr,hgo,ct,zt,hF,k⟩:=h
 unfold dm
 show aq Γ (.cons _ _) [some (bS e ws d),some (.str sr),some (.str goal),some (fr t),some (wyV o),none,none] st _
 refine bp (fun ρ s=>∃(c:Nat) (ns:List Nat),Pre st s∧s[c]?=some (.lst (rfs ns))∧ns.length=9∧LyOk T ws sr t st.length s ns∧ρ=[some (bS e ws d),some (.str sr),some (.str goal),some (fr t),some (wyV o),some (.ref c),none]) ?_ ?_
 ·walk_at "WPN"
  exact⟨e,ws,d,T,sr,t,8,rfl,hd,hT,hX,hsr,ct,zt,by omega,fun c ns s pr cl hc nl hL=>⟨pr,c,ns,hc,nl,hL,rfl⟩⟩
 rintro ρ s ⟨c,ns,pr,hc,nl,hL,rfl⟩
 have lay:∀i n,ns[i]?=some n→∃F,s[n]?=some (.dk (kd (fd F)))∧Fok 2800 F∧lyr T ws (f0 sr t) i=Mv F:=fun i n hi=>by
  obtain⟨F,h1,h2,_,h3⟩:=hL.at_ i n hi
  exact⟨F,h1,h2,vf h3⟩
 obtain⟨n8,hn8⟩:∃n,ns[8]?=some n:=⟨_,GX (by omega)⟩
 obtain⟨F8,g1,g2,g3⟩:=lay 8 n8 hn8
 have last:atI (rfs ns) (-1)=some (.ref n8):=by
  rcases AN ns with rfl|⟨Y,z,rfl⟩
  ·simp at nl
  ·have:z=n8:=by
    rw[GJ (by simp at nl;omega)] at hn8
    simp at nl
    simp[nl] at hn8
    exact hn8
   subst this
   show atI (List.map PV.ref (Y++[z])) (-1)=_
   rw[HW]
   exact lu
 cases o with
 | none =>
  have no:=oX (goal:=goal) (by rw[←g3];exact hF.no rfl) g2.nd
  walk_at "WP"
  refine⟨_,ad hc,_,last,⟨n8,rfl,_,g1⟩,n8,rfl,_,g1,?_⟩
  rw[no]
  exact .inl (k s pr)
 | some w =>
  obtain⟨wl,y,vs,h8,hw⟩:=hF.wy w rfl
  rw[g3] at h8
  obtain⟨x,cx,zx,vx,dx⟩:=sO g2 h8
  walk_at "WP"
  refine⟨_,ad hc,_,last,⟨n8,rfl,_,g1⟩,n8,rfl,_,g1,?_⟩
  rw[dx]
  show ite (cS (PV.tup _)=true) _ _
  rw[F_ (show ¬cS (PV.tup _)=true from FX)]
  show ite (cS (PV.tup _)=true) _ _
  rw[F_ (show ¬cS (PV.tup _)=true from FX)]
  refine⟨_,rfl,?_⟩
  rw[F_ (by decide)]
  refine⟨e,ws,d,T,_,sr,goal,t,w,vs,y,rfl,.inl (pr.get hd),hT,hX,ct,zt,wl,hw,fun c' s2 pr2 cc' zc' vc'=>?_⟩
  have ec:c'=x:=gu cc' cx (by rw[vc',vx])
  subst ec
  refine B2 hgo ?_
  rw[F_ (by decide)]
  refine⟨_,ad (pr2.get hc),by simp;omega,FW.comp_map Γm (gB8 s2 goal c') rfl (fun v hv=>?_) ?_⟩
  ·obtain⟨n,hn,rfl⟩:=F1.mp hv
   obtain⟨i,hi⟩:=List.getElem?_of_mem hn
   obtain⟨F,q1,q2,q3⟩:=lay i n hi
   have q4:=pr2.get q1
   walk_at "WP"
   refine⟨⟨_,q4⟩,_,q4,?_⟩
   have pd:aM 3 ((bd (kd (fd F)) (.inr goal)).getD .non)=true:=by
    cases ez:Mv F goal with
    | none=>rw[oX ez q2.nd];rfl
    | some y=>obtain⟨c1,_,_,_,e1⟩:=sO q2 ez;rw[e1];rfl
   refine uR (n:=3) (by decide) pd rfl ?_
   rw[zT q4]
   rfl
  ·have hb:(rfs ns).map (gB8 s2 goal c')=(List.range 9).map fun i=>PV.bl (decide (lyr T ws (f0 sr t) i goal=some y)):=by
    refine List.ext_getElem (by simp[nl]) fun i h1 h2=>?_
    have il:i<ns.length:=by simpa using h1
    simp only[List.getElem_map,List.getElem_range]
    obtain⟨F,q1,q2,q3⟩:=lay i _ (GX il)
    have q4:=pr2.get q1
    rw[q3]
    show gB8 s2 goal c' (.ref ns[i])=_
    rw[zT q4]
    congr 1
    cases ez:Mv F goal with
    | none=>rw[oX ez q2.nd];rfl
    | some y1 =>
     obtain⟨c1,d1,_,d3,e1⟩:=sO q2 ez
     rw[e1]
     show PV.same (fr c1) (fr c')=_
     by_cases z:c1=c'
     ·subst z
      rw[j7,HB (by rw[←d3,←vc'])]
     ·rw[GV (fun q=>z (gu d1 cx (by rw[d3,vc'];exact GT q)))]
      cases q:PV.same (fr c1) (fr c') with
      | false=>rfl
      | true =>
       have:=PV.same_eq q
       simp only[fr,PV.tup.injEq,List.cons.injEq,PV.int.injEq,and_true] at this
       exact absurd (JV (by omega) (by omega)) z
   rw[hb]
   refine⟨⟨_,aU am⟩,_,ow (f:=fun i=>decide (lyr T ws (f0 sr t) i goal=some y)),by simp,w.length,?_,fun i hi=>?_,.app rfl ?_⟩
   ·rw[F9,IL (by omega)]
    show some (decide _)=_
    rw[HB (hw.at_ oa)]
   ·rw[F9,IL (by omega)]
    show some (decide _)=_
    rw[GV (hw.first (n:=8) (fun k _=>hF.st k) wl i hi)]
   ·show c_ B.len [PV.tup (sV w)] _ _
    walk_at "WP"
    have:(sV w).length=w.length:=by simp[sV]
    rw[this,HB rfl]
    exact .inl (k s2 (pr.trans pr2))
theorem y8 {st:AH}{o:Option (List Str)}{k:Bool→Prop}(h:∀w,o=some w→∀z∈w,Nm z)(q:k true):eqW st (wyV o) (wyV o) k:=by
 cases o with
 | none=>exact uR (v:=.non) (w:=.non) (n:=3) (by decide) rfl rfl q
 | some w =>
  obtain⟨a,b⟩:=pF (h w rfl)
  have e:(PV.tup (sV w)).toD=some (.tuple (w.map PyData.str)):=by simp[PV.toD,Cy]
  have s:SeqAt.shaped (.tuple (w.map PyData.str))=true:=by
   simp[SeqAt.shaped,PyData.canLay0,PyData.depth,a]
   omega
  refine⟨_,_,e_ e,e_ e,s,s,?_⟩
  rw[J_ _ (HM s)]
  exact q
theorem Wy.nms {T:List (Str × Ti)}{ws:List Str}{g:Nat→Pm}{s:Str}{t0:Rat}{k:Nat}{z:Str}{y:Rat}{w vs:List Str}(hT:NetT T)(h:Wy T ws g s t0 k z y w vs):∀x∈w,Nm x:=by
 induction h with
 | nil=>intro x hx;cases hx
 | @snoc k t w vs y q hw hq hC hg hl ih =>
  intro x hx
  rcases F7.mp hx with hx|hx
  ·exact ih x hx
  ·rw[FZ] at hx
   rw[hx]
   exact(hT.nm q hq).1
theorem FwOk.nms {T:List (Str × Ti)}{ws:List Str}{sr goal:Str}{t:Nat × Nat}{o:Option (List Str)}(hT:NetT T)(h:FwOk T ws sr t goal o):∀w,o=some w→∀z∈w,Nm z:=fun w e=>by
 obtain⟨_,y,vs,_,hw⟩:=h.wy w e
 exact hw.nms hT
theorem Wy.src {T:List (Str × Ti)}{ws:List Str}{g:Nat→Pm}{s:Str}{t0:Rat}{k:Nat}{z:Str}{y:Rat}{w vs:List Str}(h:Wy T ws g s t0 k z y w vs):s∈vs:=by
 induction h with
 | nil=>simp
 | snoc _ _ _ _ _ ih=>simp[ih]
theorem Wy.last {T:List (Str × Ti)}{ws:List Str}{g:Nat→Pm}{s:Str}{t0:Rat}{k:Nat}{z:Str}{y:Rat}{w vs:List Str}(h:Wy T ws g s t0 k z y w vs)(k0:k≠0):∃vs',vs=vs'++[z]∧s∈vs':=by
 cases h with
 | nil=>exact absurd rfl k0
 | snoc hw _ _ _ _=>exact⟨_,rfl,hw.src⟩
theorem FwOk.self {T:List (Str × Ti)}{ws:List Str}{sr:Str}{t:Nat × Nat}{o:Option (List Str)}(hT:NetT T)(h:FwOk T ws sr t sr o):o=some []:=by
 cases o with
 | none =>
  obtain⟨y',e,_⟩:=f_ (n:=8) (i:=0) (g:=lyr T ws (f0 sr t)) (fun k _=>h.st k) (z:=sr) oa (j:=8) (by omega) (by omega)
  rw[h.no rfl] at e
  cases e
 | some w =>
  obtain⟨wl,y,vs,_,hw⟩:=h.wy w rfl
  cases w with
  | nil=>rfl
  | cons x w =>
   obtain⟨nd,_⟩:=hw.nodup (n:=8) hT oa (fun k _=>h.st k) wl
   obtain⟨vs',rfl,sm⟩:=hw.last (by simp)
   exact absurd rfl ((ID.mp nd).2.2 sr sm sr (by simp))
noncomputable abbrev qh:Ss:=(.cons (.set (.name 2) (.call 16 (.cons (.var 0) (.cons (.var 1) .nil)))) (.cons (.set (.tup (.cons (.name 3) (.cons (.name 4) (.cons (.name 5) (.cons (.name 6) .nil))))) (.call 24 (.cons (.var 2) .nil))) (.cons (.set (.name 7) (.ix (.var 4) (.call 17 (.cons (.var 2) (.cons (.blt .len (.cons (.var 4) .nil)) .nil))))) (.cons (.set (.name 8) (.ix (.var 4) (.call 17 (.cons (.var 2) (.cons (.blt .len (.cons (.var 4) .nil)) .nil))))) (.cons (.ifS (.cmp .Eq (.call 17 (.cons (.var 2) (.cons (.int 8) .nil))) (.int 0)) (.cons (.set (.name 8) (.call 20 (.cons (.var 2) (.cons (.blt .list1 (.cons (.var 4) .nil)) .nil)))) .nil) .nil) (.cons (.set (.name 9) (.call 25 (.cons (.var 2) (.cons (.var 5) (.cons (.var 6) .nil))))) (.cons (.set (.name 10) (.call 15 (.cons (.var 3) (.cons (.var 7) (.cons (.var 8) (.cons (.var 9) .nil)))))) (.cons (.ifS (.bop false (.cons (.not (.call 32 (.cons (.var 3) (.cons (.var 7) (.cons (.var 8) (.cons (.var 9) (.cons (.var 10) .nil))))))) (.cons (.cmp .NotEq (.call 15 (.cons (.var 3) (.cons (.var 7) (.cons (.var 8) (.cons (.var 9) .nil))))) (.var 10)) .nil))) (.cons (.ret (.bl false)) .nil) .nil) (.cons (.ifS (.bop false (.cons (.cmp .NotEq (.call 15 (.cons (.var 3) (.cons (.var 8) (.cons (.var 8) (.cons (.var 9) .nil))))) (.tup .nil)) (.cons (.cmp .NotEq (.call 15 (.cons (.var 3) (.cons (.var 7) (.cons (.var 8) (.cons (.var 9) .nil))))) (.var 10)) .nil))) (.cons (.ret (.bl false)) .nil) .nil) .nil)))))))))
noncomputable abbrev lF (ns:List Int)(i:Nat)(a b c d e f g h j:Option PV):Fr:=[some (.rdl (ns.map PV.int)),some (.int i),a,b,c,d,e,f,g,h,j]
theorem wC {ns:List Int}{i:Nat}{a b c d e f g' h j:Option PV}{s:AH}{I:Fr→AH→Prop}{D:aG}(hl:ns.length≤63)(hi:i<9)(hI:∀x a b c d e f g h j s,I [some (.rdl (ns.map PV.int)),x,a,b,c,d,e,f,g,h,j] s) :
  aq Γ qh (lF ns i a b c d e f g' h j) s (LD I D):=by
 unfold qh
 refine bp (fun ρ s=>∃p,Pot s p∧ρ=lF ns i (some (.ref p)) b c d e f g' h j) ?_ ?_
 ·walk_at "WPN"
  exact⟨ns,i,rfl,hl,hi,fun p s hp=>⟨p,hp,rfl⟩⟩
 rintro _ s1 ⟨p,hp,rfl⟩
 have pp:=hp.lt
 obtain⟨P2,hP2⟩:∃P:Fr→AH→Prop,P=fun ρ s=>∃v ws dd T pl names far bot,Gr s1 p s∧s1.length≤dd∧s1.length≤pl∧s[dd]?=some (.dk (kd (td T)))∧NetT T∧(∀q∈T,q.2.X.length≤100)∧s[pl]?=some (.lst (sV names))∧0<names.length∧names.length≤9∧(∀z∈names,Nm z)∧(∀q∈T,q.2.a∈names∧q.2.b∈names)∧0<far∧far≤10 ^ 10∧0<bot∧bot≤10 ^ 6∧ρ=lF ns i (some (.ref p)) (some (bS v ws dd)) (some (.ref pl)) (some (.int far)) (some (.int bot)) f g' h j:=⟨_,rfl⟩
 refine bp P2 ?_ ?_
 ·walk_at "WPN"
  refine⟨p,rfl,hp,fun s' v ws dd T pl names far bot g l1 l2 hd hP hX hpl n0 n4 hN hE q1 q2 q3 q4=>?_⟩
  walk_at "WPN"
  rw[hP2]
  exact⟨v,ws,dd,T,pl,names,far,bot,g,l1,l2,hd,hP,hX,hpl,n0,n4,hN,hE,q1,q2,q3,q4,rfl⟩
 intro ρ2 s2 h2
 rw[hP2] at h2
 obtain⟨v,ws,dd,T,pl,names,far,bot,g,l1,l2,hd,hP,hX,hpl,n0,n4,hN,hE,q1,q2,q3,q4,rfl⟩:=h2
 obtain⟨P3,hP3⟩:∃P:Fr→AH→Prop,P=fun ρ s=>∃z,Nm z∧Gr s2 p s∧ρ=lF ns i (some (.ref p)) (some (bS v ws dd)) (some (.ref pl)) (some (.int far)) (some (.int bot)) (some (.str z)) g' h j:=⟨_,rfl⟩
 refine bp P3 ?_ ?_
 ·walk_at "WPN"
  refine⟨_,ad hpl,p,names.length,by simp[sV],g.pot,by omega,by omega,fun y s3 y0 y1 g3=>?_⟩
  obtain⟨z,ez,hz⟩:=zy hN y0 y1
  walk_at "WPN"
  refine⟨_,ad (g3.get hpl (by omega)),_,ez,?_⟩
  rw[hP3]
  exact⟨z,hz,g3,rfl⟩
 intro ρ3 s3 h3
 rw[hP3] at h3
 obtain⟨z,hz,g3,rfl⟩:=h3
 obtain⟨P4,hP4⟩:∃P:Fr→AH→Prop,P=fun ρ s=>∃x,Nm x∧Gr s2 p s∧ρ=lF ns i (some (.ref p)) (some (bS v ws dd)) (some (.ref pl)) (some (.int far)) (some (.int bot)) (some (.str z)) (some (.str x)) h j:=⟨_,rfl⟩
 refine bp P4 ?_ ?_
 ·walk_at "WPN"
  refine⟨_,ad (g3.get hpl (by omega)),p,names.length,by simp[sV],g3.pot,by omega,by omega,fun y s4 y0 y1 g4=>?_⟩
  obtain⟨x,ex,hx⟩:=zy hN y0 y1
  walk_at "WPN"
  refine⟨_,ad ((g3.trans g4).get hpl (by omega)),_,ex,?_⟩
  rw[hP4]
  exact⟨x,hx,g3.trans g4,rfl⟩
 intro ρ4 s4 h4
 rw[hP4] at h4
 obtain⟨x,hx,g4,rfl⟩:=h4
 refine bp P4 ?_ ?_
 ·walk_at "WPN"
  refine⟨p,8,rfl,g4.pot,by decide,by decide,fun y s5 y0 y1 g5=>?_⟩
  walk_at "WPN"
  have g6:=g4.trans g5
  refine aX (fun c=>?_) fun c=>by rw[hP4];exact⟨x,hx,g6,rfl⟩
  refine⟨_,ad (g6.get hpl (by omega)),p,s5.length,names,rfl,g6.pot.app,by have:=g6.pot.lt;omega,am,by omega,hN,fun y s6 hy g7 _=>?_⟩
  rw[hP4]
  exact⟨y,hy,Gn.gr g6.app g6.len g7,rfl⟩
 intro ρ5 s5 h5
 rw[hP4] at h5
 obtain⟨x,hx,g5,rfl⟩:=h5
 obtain⟨P5,hP5⟩:∃P:Fr→AH→Prop,P=fun ρ s=>∃t,Cop t∧Sz 50 t∧Gr s2 p s∧ρ=lF ns i (some (.ref p)) (some (bS v ws dd)) (some (.ref pl)) (some (.int far)) (some (.int bot)) (some (.str z)) (some (.str x)) (some (fr t)) j:=⟨_,rfl⟩
 refine bp P5 ?_ ?_
 ·walk_at "WPN"
  refine⟨p,far,bot,rfl,g5.pot,q1,q2,q3,q4,fun t s6 ct zt g6=>?_⟩
  walk_at "WPN"
  rw[hP5]
  exact⟨t,ct,zt,g5.trans g6,rfl⟩
 intro ρ6 s6 h6
 rw[hP5] at h6
 obtain⟨t,ct,zt,g6,rfl⟩:=h6
 have hd6:s6[dd]?=some (.dk (kd (td T))):=g6.get hd (by omega)
 obtain⟨P7,hP7⟩:∃P:Fr→AH→Prop,P=fun ρ s=>∃o,Pre s6 s∧FwR T ws z t x o∧FwOk T ws z t x o∧ρ=lF ns i (some (.ref p)) (some (bS v ws dd)) (some (.ref pl)) (some (.int far)) (some (.int bot)) (some (.str z)) (some (.str x)) (some (fr t)) (some (wyV o)):=⟨_,rfl⟩
 refine bp P7 ?_ ?_
 ·walk_at "WPN"
  refine⟨v,ws,dd,T,z,x,t,names,rfl,.inl hd6,hP,hz,ct,zt,n4,hE,fun o s7 pr hR hO=>?_⟩
  walk_at "WPN"
  rw[hP7]
  exact⟨o,pr,hR,hO,rfl⟩
 intro ρ7 s7 h7
 rw[hP7] at h7
 obtain⟨o,pr7,hR,hO,rfl⟩:=h7
 have again:∀(s8:AH) (K:Bool→AH→Prop),Pre s6 s8→(∀s9,Pre s8 s9→K true s9)→dE [bS v ws dd,.str z,.str x,fr t] s8 fun w s9=>eqW s9 w (wyV o) fun k=>K k s9:=fun s8 K pr8 hK=>by
  refine⟨v,ws,dd,T,z,x,t,names,rfl,.inl (pr8.get hd6),hP,hz,ct,zt,n4,hE,fun o' s9 pr9 hR' hO'=>?_⟩
  rw[hR'.uniq hR]
  exact y8 (hO.nms hP) (hK s9 pr9)
 refine bp (fun ρ s=>Pre s6 s∧ρ=lF ns i (some (.ref p)) (some (bS v ws dd)) (some (.ref pl)) (some (.int far)) (some (.int bot)) (some (.str z)) (some (.str x)) (some (fr t)) (some (wyV o))) ?_ ?_
 ·walk_at "WPN"
  refine⟨v,ws,dd,T,z,x,t,o,rfl,pr7.get hd6,hP,hX,hz,hx,ct,zt,hO,fun s8 pr8=>?_⟩
  walk_at "WPN"
  exact again s8 _ (pr7.trans pr8) fun s9 pr9=>by rw[F_ (by decide)];exact(pr7.trans pr8).trans pr9
 rintro _ s8 ⟨pr8,rfl⟩
 walk_at "WP"
 refine⟨v,ws,dd,T,x,x,t,names,rfl,.inl (pr8.get hd6),hP,hx,ct,zt,n4,hE,fun o' s9 pr9 hR' hO'=>?_⟩
 rw[hO'.self hP]
 refine y8 (o:=some []) (fun w e=>by cases e;exact fun z hz=>(nomatch hz)) ?_
 rw[F_ (by decide)]
 exact again s9 _ (pr8.trans pr9) fun s10 pr10=>by rw[F_ (by decide)];exact hI _ _ _ _ _ _ _ _ _ _ _
theorem EY {as st Q}(h:gM as st Q):aq Γ lv (frame 11 as) st (af st Q):=by
 obtain⟨ns,rfl,hl,k⟩:=h
 unfold lv
 walk_at "WP"
 rw[GI]
 obtain⟨N,hN,hN6⟩:∃N:Nat,(if 1<if 3<(ns.length:Int) then 3 else (ns.length:Int) then if 3<(ns.length:Int) then 3 else (ns.length:Int) else 1)=(N:Int)∧N≤3:=by
  refine⟨(if 1<if 3<(ns.length:Int) then 3 else (ns.length:Int) then if 3<(ns.length:Int) then 3 else (ns.length:Int) else 1).toNat,?_,?_⟩ <;> (repeat' split) <;> omega
 rw[hN]
 refine⟨by omega,by omega,?_⟩
 refine bT Γm (fun i ρ s=>∃x a b c d e f g h j,ρ=[some (.rdl (ns.map PV.int)),x,a,b,c,d,e,f,g,h,j]) ⟨_,_,_,_,_,_,_,_,_,_,rfl⟩ ?_ ?_
 ·rintro i v ρ s hi ⟨x,a,b,c,d,e,f,g,h,j,rfl⟩
  obtain⟨rfl,hi⟩:=dO hi
  exact⟨trivial,wC hl (by omega) fun x a b c d e f g h j s=>⟨x,a,b,c,d,e,f,g,h,j,rfl⟩⟩
 ·rintro ρ s ⟨x,a,b,c,d,e,f,g,h,j,rfl⟩
  refine⟨trivial,?_⟩
  walk_at "WP"
  exact .inl (k _)
local macro_rules | `(tactic| walk_at "AR")=>`(tactic| first|exact fun _ _ _ _ _ _ us hl=>ar1 (P:=fun us=>bindArgs _ { pos:=us }=pure (List.zip _ us)) (fun _=>rfl) us hl|exact fun _ _ _ _ _ _ us hl=>ar2 (P:=fun us=>bindArgs _ { pos:=us }=pure (List.zip _ us)) (fun _ _=>rfl) us hl|exact fun _ _ _ _ _ _ us hl=>ar3 (P:=fun us=>bindArgs _ { pos:=us }=pure (List.zip _ us)) (fun _ _ _=>rfl) us hl|exact fun _ _ _ _ _ _ us hl=>ar4 (P:=fun us=>bindArgs _ { pos:=us }=pure (List.zip _ us)) (fun _ _ _ _=>rfl) us hl|exact fun _ _ _ _ _ _ us hl=>ar5 (P:=fun us=>bindArgs _ { pos:=us }=pure (List.zip _ us)) (fun _ _ _ _ _=>rfl) us hl)
abbrev zn (K:W.Frag)(n:Str):Prop:=W.nsIn K mainGlobals n=some none
theorem all_mk {l:W.OpenLaw}{q:Program}{w:World}{K:W.Frag}{h:Heap}{mg:Str→Option Value}{fa:Addr}(X:K.In h)(G:h.Ns mainGlobals mg)(hfa:mg "law"=some (.ref fa))(d0:DI K "common_divisor" bx)(d1:DI K "fraction" fw)(d2:DI K "is_below" fg)(d3:DI K "crosswise" d_)(d4:DI K "on_straight" cN)(d5:DI K "has_moment" dA)(d6:DI K "come_by" gc)(d7:DI K "offer" k9)(d8:DI K "falls" k7)(d9:DI K "best_from" eA)(d10:DI K "is_better" eh)(d11:DI K "set_out" ga)(d12:DI K "out_and_coming" bu)(d13:DI K "comings_from" cu)(d14:DI K "one_tie_more" ca)(d15:DI K "fewest" iy)(d16:DI K "_law_pot" fv)(d17:DI K "_law_digit" dq)(d18:DI K "_law_low" fj)(d19:DI K "_law_is_below" bP)(d20:DI K "_law_name" eB)(d21:DI K "_law_free_ride" bB)(d22:DI K "_law_row_rides" bw)(d23:DI K "_law_rides" dB)(d24:DI K "_law_net" fk)(d25:DI K "_law_moment" cJ)(d26:DI K "_law_on" gw)(d27:DI K "_law_comings" bZ)(d28:DI K "_law_least" dw)(d29:DI K "_law_coming" cR)(d30:DI K "_law_layers" cO)(d31:DI K "_law_ridden" cM)(d32:DI K "_law_right" dy)(d33:DI K "law" j3)(z0:zn K "sorted")(z1:zn K "dict")(z2:zn K "int")(z3:zn K "len")(z4:zn K "divmod")(z5:zn K "range")(z6:zn K "max")(z7:zn K "tuple")(z8:zn K "isinstance")(z9:zn K "str")(z10:zn K "min")(z11:zn K "list")(tz0:zn K "coming")(tz1:zn K "latest")(tz2:zn K "through")
  : ∃fd:FuncData,(∀(s:Shared) (v:Value),BindsTo s fd ⟨[v],[]⟩ [("_law_script",v)])∧A8 K∧(∀x∈aS,W.tabIn K x=none∨∃d,(PyProof.Rows.recsOf q).find? (fun e=>e.name == x)=some d)∧∀base:Heap,K.In base→base.Ns mainGlobals mg→k8 K mg base→mG l.prog w K mg base CX0 34 fa fd ["_law_script"] (dH K gM):=by
 obtain⟨f,oc,od,kV,dc,pm,an,cd,ct,sl,aL,lL,cL,kL⟩:=d33
 have e:=hfa.symm.trans (W.mg_of X G aL)
 cases e
 have hb:∀x∈Dq,mg x=none:=by
  intro x hx
  simp only[Dq,List.mem_cons,List.not_mem_nil,or_false] at hx
  rcases hx with rfl|rfl|rfl|rfl|rfl|rfl|rfl|rfl|rfl|rfl|rfl|rfl
  ·exact HU X G z0
  ·exact HU X G z1
  ·exact HU X G z2
  ·exact HU X G z3
  ·exact HU X G z4
  ·exact HU X G z5
  ·exact HU X G z6
  ·exact HU X G z7
  ·exact HU X G z8
  ·exact HU X G z9
  ·exact HU X G z10
  ·exact HU X G z11
 have hgl:∀x v,glL.lookup x=some v→∃u y,mg x=some u∧RelV y u∧∀m H,R K m H v y:=by
  intro x v hx
  cases hx
 have t_coming:=tZ tz0
 have t_latest:=tZ tz1
 have t_through:=tZ tz2
 refine ⟨W.fnOf "law" "law" (cQ j3) (ae j3) (ab j3) .none kV dc pm an cd ct,fun s v=>.of_eq rfl,?lk,?lq,fun base _ _ B=>?_⟩
 case lk =>
  refine Ai fun x hx=>?_
  simp only[aS,List.mem_cons,List.not_mem_nil,or_false] at hx
  rcases hx with rfl|rfl|rfl
  ·exact .inl t_coming
  ·exact .inl t_latest
  ·exact .inl t_through
 case lq =>
  intro x hx
  simp only[aS,List.mem_cons,List.not_mem_nil,or_false] at hx
  rcases hx with rfl|rfl|rfl
  ·exact .inl t_coming
  ·exact .inl t_latest
  ·exact .inl t_through
 have G0:GOk l.prog w K mg base e6 Γ:=⟨fun f x hf=>absurd hf (II _),hb,hgl,Γm⟩
 have G1:GOk l.prog w K mg base lN Γ:=G0.nx X G d0 iH js gT jX (by walk_at "AR")
 have G2:GOk l.prog w K mg base lr Γ:=G1.nx X G d1 re uf oU tF (by walk_at "AR")
 have G3:GOk l.prog w K mg base kj Γ:=G2.nx X G d2 ql uj iz sL (by walk_at "AR")
 have G4:GOk l.prog w K mg base gQ Γ:=G3.nx X G d3 o_ qO mN qU (by walk_at "AR")
 have G5:GOk l.prog w K mg base iq Γ:=G4.nx X G d4 md mZ kM mP (by walk_at "AR")
 have G6:GOk l.prog w K mg base nS Γ:=G5.nx X G d5 nk o7 lG p8 (by walk_at "AR")
 have G7:GOk l.prog w K mg base uP Γ:=G6.nx X G d6 tY vO rD vF (by walk_at "AR")
 have G8:GOk l.prog w K mg base vc Γ:=G7.nx X G d7 w4 AB wf AZ (by walk_at "AR")
 have G9:GOk l.prog w K mg base kr Γ:=G8.nx X G d8 yg AQ we AY (by walk_at "AR")
 have G10:GOk l.prog w K mg base kq Γ:=G9.nx X G d9 oH rN mV rO (by walk_at "AR")
 have G11:GOk l.prog w K mg base n_ Γ:=G10.nx X G d10 qc qv mJ qk (by walk_at "AR")
 have G12:GOk l.prog w K mg base eO Γ:=G11.nx X G d11 sC vS qj wg (by walk_at "AR")
 have G13:GOk l.prog w K mg base fV Γ:=G12.nx X G d12 iK jG ib jT (by walk_at "AR")
 have G14:GOk l.prog w K mg base fJ Γ:=G13.nx X G d13 ky lU ja lw (by walk_at "AR")
 have G15:GOk l.prog w K mg base qy Γ:=G14.nx X G d14 kC lY jt mB (by walk_at "AR")
 have G16:GOk l.prog w K mg base lB Γ:=G15.nx X G d15 vo wA tU yw (by walk_at "AR")
 have G17:GOk l.prog w K mg base iN Γ:=G16.nx X G d16 qq tJ o0 sg (by walk_at "AR")
 have G18:GOk l.prog w K mg base mq Γ:=G17.nx X G d17 m5 p9 mr p6 (by walk_at "AR")
 have G19:GOk l.prog w K mg base fF Γ:=G18.nx X G d18 rK sJ oZ uz (by walk_at "AR")
 have G20:GOk l.prog w K mg base jY Γ:=G19.nx X G d19 jP kK iQ kT (by walk_at "AR")
 have G21:GOk l.prog w K mg base e7 Γ:=G20.nx X G d20 oF qf mY rA (by walk_at "AR")
 have G22:GOk l.prog w K mg base eP Γ:=G21.nx X G d21 i6 jA gZ jy (by walk_at "AR")
 have G23:GOk l.prog w K mg base iA Γ:=G22.nx X G d22 iS jm h_ jF (by walk_at "AR")
 have G24:GOk l.prog w K mg base lh Γ:=G23.nx X G d23 mQ p7 lR oT (by walk_at "AR")
 have G25:GOk l.prog w K mg base gK Γ:=G24.nx X G d24 qS rS oO uE (by walk_at "AR")
 have G26:GOk l.prog w K mg base nH Γ:=G25.nx X G d25 l4 mK kz mH (by walk_at "AR")
 have G27:GOk l.prog w K mg base fM Γ:=G26.nx X G d26 t8 vN q9 vV (by walk_at "AR")
 have G28:GOk l.prog w K mg base iC Γ:=G27.nx X G d27 kR lH jr lJ (by walk_at "AR")
 have G29:GOk l.prog w K mg base gO Γ:=G28.nx X G d28 nj oY l5 oK (by walk_at "AR")
 have G30:GOk l.prog w K mg base gR Γ:=G29.nx X G d29 lp mL kA mM (by walk_at "AR")
 have G31:GOk l.prog w K mg base gH Γ:=G30.nx X G d30 lx mU kI ni (by walk_at "AR")
 have G32:GOk l.prog w K mg base iZ Γ:=G31.nx X G d31 mv nr kw mT (by walk_at "AR")
 have G33:GOk l.prog w K mg base Bo Γ:=G32.nx X G d32 mX pk mw o8 (by walk_at "AR")
 exact A3 (qual:="law") (xj (st:=j3) lL cL kL) DB rfl rfl ER G33 (fun as st Q=>AJ) (fun as st Q=>EY)
end My
namespace PySem.W.Fast
def tw5388024731357274332:=()
def tw14361092737848882656:=()
def tw15771596151432606471:=()
def tw10861531874806146338:=()
def tw997616726545200589:=()
def tw7344009143430564883:=()
def tw15465542352673829677:=()
def tw15732586990338500109:=()
def tw2637298355054577350:=()
def tw1210598696332664555:=()
def tw15608423247092157574:=()
def tw4485333973439566848:=()
def tw8569027539553420391:=()
def tw7907989693743087381:=()
def tw4669547928372034546:=()
def tw6211104044940542742:=()
def tw5008963926257364946:=()
def tw8479655696909826749:=()
def tw15251111799637077432:=()
def tw4637195517235102611:=()
def tw10776204081546271273:=()
def tw9832145956449862959:=()
def tw10391596525798322808:=()
def tw2921383668311693341:=()
def tw15646381733801688891:=()
def tw14356594940785820410:=()
def tw12817355055364333009:=()
def tw16433981052230093590:=()
def tw9559396071719424416:=()
def tw15652293722497944993:=()
def tw15134213187350111974:=()
def tw17332067388236011038:=()
def tw17763823449985001787:=()
def tw6676860740927857585:=()
def tw4383114917112362514:=()
def tw1545033424849090224:=()
def tw6645979466136192274:=()
def tw3716296737652349955:=()
def tw13914712209074983708:=()
def tw3840074072224129610:=()
def tw5241127332384200560:=()
def tw7158435949934912292:=()
def tw16590733824008588343:=()
def tw7629178769769101170:=()
def tw13901236205274048342:=()
def tw2877426967035716821:=()
def tw316064195442636592:=()
def tw6051052679522546956:=()
def tw594049322695177438:=()
def tw3788815687461045986:=()
def tw15487874103416315465:=()
def tw6955805674014185212:=()
def tw10180287403243606429:=()
def tw3858617320600694899:=()
def tw2289015186179438039:=()
def tw6925664263887035551:=()
def tw6919728969003110117:=()
def tw6433051947726094691:=()
def tw9861460740687427702:=()
def tw12727395934207664631:=()
def tw5310295325866280120:=()
def tw17520893488108876360:=()
def tw16839265900727503114:=()
def tw11121494771456876890:=()
def tw6791999616516281496:=()
def tw17361511055284486799:=()
def tw6748524954181786083:=()
def tw64013437936020523:=()
def tw8310419407286124017:=()
def tw13979911496048289357:=()
def tw6876752809771263057:=()
def tw18118406770879948785:=()
def tw10844788644902733938:=()
def tw10511920867692568883:=()
def tw2171786968244372359:=()
def tw13788640512742152364:=()
def tw6934955074255095577:=()
def tw10190898383484182088:=()
def tw3198524356875079130:=()
def tw12767682605763374614:=()
def tw14590271033862571477:=()
def tw5132533529573093023:=()
def tw6054644807824579419:=()
def tw5527420733225950225:=()
def tw17676140658029814081:=()
def tw8866073491931918312:=()
def tw826068386690132077:=()
def tw7959891402344530663:=()
def tw74373447101544628:=()
def tw4891104664439968369:=()
def tw2343972766248466220:=()
def tw1890039400069849761:=()
def tw18269183243733586993:=()
def tw17049103475795090405:=()
def tw15984679244063976051:=()
def tw15234889243250088826:=()
def tw15063542046157437827:=()
def tw14746048365103694122:=()
def tw14609584218826589932:=()
def tw14530344195889267437:=()
def tw14414647612704729153:=()
def tw14383264872111937606:=()
def tw1293138520820601083:=()
def tw12448390925245760313:=()
def tw10284457665008751159:=()
def tw10201136153158458732:=()
def tw3950510438010604143:=()
def tw2938843551531464991:=()
def tw18418850672447514463:=()
def tw15092713689868006126:=()
def tw12641406074809996183:=()
def tw12075406249988610768:=()
def tw11851838440715292198:=()
def tw10919937665574158112:=()
def tw10024294683143115959:=()
def tw339953260216605010:=()
def tw17998168640365509628:=()
def tw10102091441273248576:=()
def tw13595392713536928490:=()
def tw15405939907444248052:=()
def tw2164983221855136819:=()
def tw8481872188825100974:=()
def tw17770126720329680472:=()
def tw7836028120112858832:=()
def tw17604563165602866927:=()
def tw4995531464476641674:=()
def tw16115189865745661887:=()
def tw10493516498202985941:=()
def tw3869633351733642027:=()
def tw12258551566149343679:=()
def tw4724480940039918935:=()
def tw14212765033245399469:=()
def tw6764127806449608172:=()
def tw3305168434105931839:=()
def tw7224574714816886324:=()
def tw6112732936124481510:=()
def tw245654945052173459:=()
def tw11045324113500438781:=()
def tw9175392573657698761:=()
def tw5077320696493223141:=()
def tw17339902223690080774:=()
def tw14115590033570501895:=()
def tw9754370326025115224:=()
def tw9254961292973987548:=()
def tw4506313492533382416:=()
def tw13042135048978395557:=()
def tw6353583842856902578:=()
def tw2700194144499166138:=()
def tw17047217821935493339:=()
def tw1493308314873211964:=()
def tw14621061433085366651:=()
def tw11689525473691630611:=()
def tw2297512775377315817:=()
def tw4626604463056779248:=()
def tw9791300502421822837:=()
def tw9717269822131733457:=()
def tw9541656710007912873:=()
def tw9315955191032666781:=()
def tw9150417736693530420:=()
def tw807697720383721927:=()
def tw7731571780257636544:=()
def tw7429284057059815236:=()
def tw6458951162030476498:=()
def tw6264948576118427634:=()
def tw6217389178431893618:=()
def tw61275677064319740:=()
def tw5973488357611910267:=()
def tw5594551894015080589:=()
def tw556666815860631530:=()
def tw5376465646410721137:=()
def tw5275280965266642:=()
def tw500875341985663276:=()
def tw4978790945395326351:=()
def tw4833744875754924120:=()
def tw4624635153085993872:=()
def tw4474323698698173145:=()
def tw4118818637564132293:=()
def tw3428092424037337883:=()
def tw3172492193091718279:=()
def tw3164667938216419961:=()
def tw3096408469483986953:=()
def tw2812904303237662766:=()
def tw2780055107882528892:=()
def tw2773577685585306662:=()
def tw254300959483800321:=()
def tw2417393298905205009:=()
def tw2346332898876806793:=()
def tw2319044117014881604:=()
def tw2314892532103968227:=()
def tw18432807205794021571:=()
def tw18069671652663753151:=()
def tw17767486202002698307:=()
def tw1764898799229694952:=()
def tw17632330391025873033:=()
def tw17626415634824804462:=()
def tw17232101551012936554:=()
def tw17218774338510200860:=()
def tw17214737705487051219:=()
def tw17041069887826747689:=()
def tw16881889759679033882:=()
def tw16871215268337538115:=()
def tw16752490619676783386:=()
def tw16702633397456298404:=()
def tw16606932090133667669:=()
def tw16042862137215531692:=()
def tw15592019129862699422:=()
def tw14165603545468862754:=()
def tw14093900411488662027:=()
def tw13538275103228161036:=()
def tw13057230697757567292:=()
def tw12730210306821460626:=()
def tw12661471160727646694:=()
def tw1253387535160427491:=()
def tw12019137956215518067:=()
def tw11902605884189227515:=()
def tw10924643144271733193:=()
def tw10845858441157987031:=()
def tw10834120537085135404:=()
def tw10413470804267549804:=()
def tw9897629139651047409:=()
def tw9391093430644880939:=()
def tw9335154261462755120:=()
def tw7805239223508807600:=()
def tw7583748795177803338:=()
def tw7426185347209354149:=()
def tw7039552295344424047:=()
def tw6550124706811219476:=()
def tw5218219832161785156:=()
def tw4935948055732279122:=()
def tw4709082951141328951:=()
def tw4620033937543452727:=()
def tw4616339792272413378:=()
def tw3258459076348818099:=()
def tw3201619486098209338:=()
def tw2512770458488923898:=()
def tw2477326922398596467:=()
def tw2471502339308154374:=()
def tw2367611763655910601:=()
def tw18217273540662273535:=()
def tw17303710550765959562:=()
def tw17189961362594893829:=()
def tw16793931382709194963:=()
def tw15980583985084554101:=()
def tw14775005918276690962:=()
def tw1435220169296957809:=()
def tw12857116267676555623:=()
def tw12712584600889746365:=()
def tw12074138644809805157:=()
def tw11569667121340192144:=()
def tw11113221270965454144:=()
def tw10863284379489290210:=()
def tw10691168163205958978:=()
def tw10418304545262631482:=()
def tw10294106295469446540:=()
end PySem.W.Fast
open PySem PySem.W PyProof.Rows
local macro_rules | `(tactic| walk_at "DI")=>`(tactic| (refine' FW.DI_mk ?a ?l ?c ?k;(case a=>k_is);(case l=>k_is);(case c=>k_is);(case k=>k_is)))
set_option maxRecDepth 100000 in
set_option maxHeartbeats 0 in
theorem PySem.Challenge.cw_hourstairs_k86_whole_fewest_ties_holds : PySem.Challenge.rw_hourstairs_k86_whole_fewest_ties.Holds := by
 w_on;o_law;k_head;(case hw=>w_witness2)
 k_fill
 refine FW.walkF (l:=PySem.Challenge.rw_hourstairs_k86_whole_fewest_ties) (k:=34) (x:="_law_script") rfl rfl ⟨rfl,by decide,by decide,rfl⟩ (fun w h Y=>PySem.W.kIn_of Y) ?F
 case F =>
  intro w mg fa h KX G hmg
  refine' My.all_mk KX G hmg ?d0 ?d1 ?d2 ?d3 ?d4 ?d5 ?d6 ?d7 ?d8 ?d9 ?d10 ?d11 ?d12 ?d13 ?d14 ?d15 ?d16 ?d17 ?d18 ?d19 ?d20 ?d21 ?d22 ?d23 ?d24 ?d25 ?d26 ?d27 ?d28 ?d29 ?d30 ?d31 ?d32 ?d33 ?z0 ?z1 ?z2 ?z3 ?z4 ?z5 ?z6 ?z7 ?z8 ?z9 ?z10 ?z11 ?tz0 ?tz1 ?tz2
  all_goals first|delta My.zn|skip
  (case d0=>walk_at "DI")
  (case d1=>walk_at "DI")
  (case d2=>walk_at "DI")
  (case d3=>walk_at "DI")
  (case d4=>walk_at "DI")
  (case d5=>walk_at "DI")
  (case d6=>walk_at "DI")
  (case d7=>walk_at "DI")
  (case d8=>walk_at "DI")
  (case d9=>walk_at "DI")
  (case d10=>walk_at "DI")
  (case d11=>walk_at "DI")
  (case d12=>walk_at "DI")
  (case d13=>walk_at "DI")
  (case d14=>walk_at "DI")
  (case d15=>walk_at "DI")
  (case d16=>walk_at "DI")
  (case d17=>walk_at "DI")
  (case d18=>walk_at "DI")
  (case d19=>walk_at "DI")
  (case d20=>walk_at "DI")
  (case d21=>walk_at "DI")
  (case d22=>walk_at "DI")
  (case d23=>walk_at "DI")
  (case d24=>walk_at "DI")
  (case d25=>walk_at "DI")
  (case d26=>walk_at "DI")
  (case d27=>walk_at "DI")
  (case d28=>walk_at "DI")
  (case d29=>walk_at "DI")
  (case d30=>walk_at "DI")
  (case d31=>walk_at "DI")
  (case d32=>walk_at "DI")
  (case d33=>walk_at "DI")
  (case z0=>k_is)
  (case z1=>k_is)
  (case z2=>k_is)
  (case z3=>k_is)
  (case z4=>k_is)
  (case z5=>k_is)
  (case z6=>k_is)
  (case z7=>k_is)
  (case z8=>k_is)
  (case z9=>k_is)
  (case z10=>k_is)
  (case z11=>k_is)
  (case tz0=>k_is)
  (case tz1=>k_is)
  (case tz2=>k_is)
