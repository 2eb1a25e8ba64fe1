import PyProof.Rows.All
import Wide.All
import OpenK.AllK
import Wide.FinOn
import Lean
import PyProof.EqAt
import PyProof.EqKinds
import PyProof.TupleCall
import PyProof.FactsAll.set
import PyProof.DictWalks
import PyProof.CollectWalk
import PyProof.Rows.SetFrom
import PyProof.Rows.SortWalk
import PyProof.Rows.SortStr
import PyProof.Rows.MinMaxN
import PyProof.StrCalls2
import KE.LcSums
import KE.KDictSum
import PyProof.DictItems
import PyProof.DictCompW
import PyProof.NeKinds
import KE.KEqDict
import KE.KPairComp
import KE.KDictOf
import PyProof.AttrMissHeap
import PyProof.RaisesMany
import PyProof.Rows.CatchOwn
import PyProof.Rows.TopTwo
import PyProof.IsInstanceT
import OpenK.KOwn
import PyProof.ExcBaseAll.ValueError
import PyProof.ExcAttrAll.ValueError
import PyProof.IsiTupleAll
import OpenK.KMore
import PySem.Challenge.RW_hourstairs_k15_whole_no_texts
open PySem PySem.Spec PyProof.Rows
set_option Elab.async false
set_option linter.all false
set_option maxRecDepth 100000
set_option maxHeartbeats 4000000
set_option genSizeOfSpec false
abbrev D1:=@Bool.false_ne_true
abbrev D3:=@List.getElem?_eq_some_iff
abbrev D4:=@PySem.wpAny_bind
abbrev D5:=@PySem.Heap.get?_push_of_some
abbrev D6:=@Bool.and_eq_true
abbrev D7:=@Nat.le_refl
abbrev D8:=@PySem.Heap.lt_size
abbrev D9:=@if_pos
abbrev D_:=@if_neg
abbrev EA:=@List.getElem?_append_right
abbrev EB:=@Nat.lt_of_lt_of_le
abbrev EC:=@PySem.Heap.get?_push_size
abbrev ED:=@List.size_toArray
abbrev EE:=@List.map_cons
abbrev EG:=@PySem.wpAny_pure
abbrev EH:=@List.mem_cons_of_mem
abbrev EJ:=@List.getElem?_append_left
abbrev EL:=@List.getElem?_map
abbrev EM:=@Nat.ne_of_lt
abbrev EN:=@List.length_map
abbrev EO:=@List.length_append
abbrev EQ:=@List.getElem?_set_ne
abbrev ER:=@List.mem_of_getElem?
abbrev ES:=@congrArg
abbrev ET:=@List.mem_cons_self
abbrev EU:=@Option.some.inj
abbrev EV:=@List.getElem?_set_self
abbrev EW:=@List.mem_singleton
abbrev EX:=@Nat.le_trans
abbrev EY:=@List.any_cons
abbrev EZ:=@List.getElem?_eq_getElem
abbrev E1:=@List.mem_append_right
abbrev E2:=@decide_eq_false
abbrev E3:=@List.mem_cons
abbrev E4:=@PySem.Heap.get?_update_other
abbrev E5:=@List.map_nil
abbrev E6:=@Nat.lt_of_le_of_lt
abbrev E7:=@List.filterMap_cons
abbrev E8:=@Nat.le_of_lt
abbrev E9:=@List.length_take
abbrev E_:=@PySem.mem_of_lookup
abbrev FA:=@Array.length_toList
abbrev FD:=@List.replicate_succ
abbrev FE:=@List.getElem?_eq_none
abbrev FF:=@decide_eq_true
abbrev FG:=@List.mem_append
abbrev FH:=@PySem.F.plainAttrs_list
abbrev FI:=@Array.getElem?_eq_some_iff
abbrev FJ:=@PyProof.Rows.slot_tuple_getitem
abbrev FK:=@List.drop_eq_getElem_cons
abbrev FL:=@List.length_cons
abbrev FM:=@List.all_cons
abbrev FN:=@PySem.W.mg_none_of
abbrev FO:=@List.append_assoc
abbrev FP:=@of_decide_eq_true
abbrev FR:=@PyProof.Rows.callWith_type1
abbrev FS:=@Option.map_eq_some_iff
abbrev FT:=@PySem.SeqAt.canLay_of_shaped
abbrev FU:=@PySem.W.Looks.here
abbrev FV:=@PySem.wpAny_holding
abbrev FY:=@PySem.W.kia_one
abbrev FZ:=@List.nodup_cons
abbrev F0:=@List.flatten_cons
abbrev F1:=@List.length_filterMap_le
abbrev F2:=@List.length_drop
abbrev F3:=@PySem.F.plainAttrs_str
abbrev F4:=@List.append_nil
abbrev F5:=@Nat.lt_irrefl
abbrev F6:=@PySem.Heap.get?_update_self
abbrev F7:=@PySem.F.typeOf_object_class
abbrev F8:=@PySem.StrLaws.strSub_toList
abbrev F9:=@List.mem_append_left
abbrev F_:=@Nat.ne_of_gt
abbrev GA:=@List.take_length
abbrev GB:=@List.getElem?_take_of_lt
abbrev GC:=@PySem.F.args_tuple_add_2
abbrev GD:=@PyProof.noPylong_of_log2
abbrev GE:=@List.foldl_cons
abbrev GF:=@Bool.or_eq_true
abbrev GG:=@List.mem_filterMap
abbrev GH:=@List.prefix_append
abbrev GI:=@PySem.F.entry_tuple_add
abbrev GJ:=@Nat.zero_le
abbrev GK:=@Nat.add_sub_cancel_left
abbrev GL:=@PySem.StrLaws.subAt_one
abbrev GM:=@PySem.F.slot_tuple_add
abbrev GN:=@PySem.W.mg_of
abbrev GO:=@PySem.F.slot_dict_get
abbrev GP:=@List.mem_iff_getElem?
abbrev GQ:=@List.prefix_refl
abbrev GR:=@beq_iff_eq
abbrev GS:=@Nat.log2_lt
abbrev GT:=@Nat.pow_le_pow_right
abbrev GU:=@List.mem_of_mem_take
abbrev GV:=@Bool.eq_iff_iff
abbrev GW:=@Nat.not_lt_zero
abbrev GY:=@List.getElem?_range
abbrev GZ:=@List.nodup_nil
abbrev G_:=@List.drop_zero
abbrev HB:=@Int.natCast_nonneg
abbrev HC:=@Option.isSome_map
abbrev HD:=@List.nodup_append
abbrev HE:=@List.getElem?_set
abbrev HG:=@Nat.lt_succ_self
abbrev HH:=@Nat.le_add_right
abbrev HI:=@Nat.lt_trans
abbrev HJ:=@List.mem_map
abbrev HK:=@Nat.gcd_comm
abbrev HL:=@List.of_mem_zip
abbrev HM:=@Int.natCast_pow
abbrev HN:=@List.cons.injEq
abbrev HP:=@Int.ediv_nonneg
abbrev HQ:=@List.forIn_cons
abbrev HR:=@List.head?_drop
abbrev HU:=@List.map_append
abbrev HV:=@Int.natCast_add
abbrev HW:=@Int.natCast_mul
abbrev HY:=@Bool.and_false
abbrev HZ:=@List.tail_drop
abbrev H_:=@Int.le_of_lt
abbrev IA:=@Nat.le_of_eq
abbrev IB:=@Nat.pow_succ
abbrev IC:=@PySem.W.kitx_list
abbrev ID:=@PySem.W.kitx_dict
abbrev IE:=@Nat.le_succ
abbrev IF:=@Iff.rfl
abbrev IG:=@Nat.not_lt
abbrev IH:=@Nat.mod_lt
namespace L2
noncomputable abbrev Key:=Sum Int Str
noncomputable def kw:Key→Value→Bool
 | .inl k,v=>Value.isInt k v
 | .inr x,v=>Value.isStrOf x v
noncomputable def DS (w:World):Key→Int
 | .inl k=>hashInt k
 | .inr x=>hashStr w x
theorem aR:∀ {k:Key}{v:Value},kw k v=true→(∃i t,k=Sum.inl i∧v=Value.int i t)∨(∃x t,k=Sum.inr x∧v=Value.str x t)
 | .inl i,v,h=>by
  obtain⟨t,e⟩:=Value.isInt_shape (k:=i) (v:=v) h
  exact .inl ⟨i,t,rfl,e⟩
 | .inr x,v,h=>by
  obtain⟨t,e⟩:=Value.isStrOf_shape (x:=x) (v:=v) h
  exact .inr ⟨x,t,rfl,e⟩
theorem qi (i:Int)(t:Tok):kw (.inl i) (.int i t)=true:=by simp[kw,Value.isInt]
theorem pV (x:Str)(t:Tok):kw (.inr x) (.str x t)=true:=by simp[kw,Value.isStrOf]
theorem wX (a b:Int):decide ((Sum.inl a:Key)=Sum.inl b)=(a == b):=by
 by_cases e:a=b
 ·subst e;simp
 ·have h:¬(Sum.inl a:Key)=Sum.inl b:=fun q=>e (Sum.inl.inj q)
  rw[E2 h]
  exact(beq_eq_false_iff_ne.mpr e).symm
theorem yX (a b:Str):decide ((Sum.inr a:Key)=Sum.inr b)=decide (a=b):=by
 by_cases e:a=b
 ·subst e;simp
 ·have h:¬(Sum.inr a:Key)=Sum.inr b:=fun q=>e (Sum.inr.inj q)
  rw[E2 h,E2 e]
theorem w_ (a:Int)(b:Str):decide ((Sum.inl a:Key)=Sum.inr b)=false:=E2 (fun q=>nomatch q)
theorem zy (a:Str)(b:Int):decide ((Sum.inr a:Key)=Sum.inl b)=false:=E2 (fun q=>nomatch q)
noncomputable def aB (prog:Program)(w:World):PySem.KeyKind prog w Key where
 is:=kw
 hash:=DS w
 inj:=fun v a b ha hb=>by
  rcases aR ha with⟨i,t,rfl,rfl⟩|⟨x,t,rfl,rfl⟩
  ·rcases aR hb with⟨j,u,rfl,e⟩|⟨y,u,rfl,e⟩
   ·injection e with e1 _;rw[e1]
   ·exact nomatch e
  ·rcases aR hb with⟨j,u,rfl,e⟩|⟨y,u,rfl,e⟩
   ·exact nomatch e
   ·injection e with e1 _;rw[e1]
 byValue:=fun k v h=>by
  rcases aR h with⟨i,t,rfl,rfl⟩|⟨x,t,rfl,rfl⟩ <;> rfl
 pyHash:=fun hv h=>by
  rcases aR hv with⟨i,t,rfl,rfl⟩|⟨x,t,rfl,rfl⟩
  ·exact wpAny_pyHash_int h
  ·exact wpAny_pyHash_str h
 eqBool:=fun hu hv h=>by
  rcases aR hu with⟨i,t,rfl,rfl⟩|⟨x,t,rfl,rfl⟩
  ·rcases aR hv with⟨j,u,rfl,rfl⟩|⟨y,u,rfl,rfl⟩
   ·rw[wX] at h;exact wpAny_eqBool_int h
   ·rw[w_] at h;exact SeqAt.EqAt.int_str i t y u _ _ _ _ h
  ·rcases aR hv with⟨j,u,rfl,rfl⟩|⟨y,u,rfl,rfl⟩
   ·rw[zy] at h;exact SeqAt.EqAt.str_int x t j u _ _ _ _ h
   ·rw[yX] at h;exact wpAny_eqBool_str h
 «strs»:=fun k x t v h=>by
  rcases aR h with⟨i,u,rfl,e⟩|⟨y,u,rfl,e⟩
  ·exact nomatch e
  ·injection e with e1 _
   subst e1
   cases v <;> rfl
theorem nb (prog:Program)(w:World)(i:Int)(t:Tok):(aB prog w).is (.inl i) (.int i t)=true:=qi i t
theorem iw (prog:Program)(w:World)(x:Str)(t:Tok):(aB prog w).is (.inr x) (.str x t)=true:=pV x t
end L2
namespace L2
inductive V where
 | non|bl (b:Bool)|int (i:Int)|str (x:Str)|byt (b:Array UInt8)|flt (b:UInt64)|ref (a:Addr)|ty (n:String)
 deriving DecidableEq
noncomputable def RelV:V→Value→Prop
 | .non,u=>u=Value.none
 | .bl b,u=>u=Value.bool b
 | .int i,u=>∃t,u=Value.int i t
 | .str x,u=>∃t,u=Value.str x t
 | .byt b,u=>∃t,u=Value.bytes b t
 | .flt b,u=>∃t,u=Value.float b t
 | .ref a,u=>u=Value.ref a
 | .ty n,u=>u=Value.type n
noncomputable abbrev Vals:List V→List Value→Prop:=Paired RelV
theorem Vals.length {xs:List V}{us:List Value}(r:Vals xs us):xs.length=us.length:=Paired.length r
theorem Vals.get:∀ {xs:List V}{us:List Value}{i:Nat}{x:V},Vals xs us→xs[i]?=some x→∃u,us[i]?=some u∧RelV x u
 | _,_,_,_,.nil,e=>by simp at e
 | _,_,0,_,.cons r _,e=>by simp at e;subst e;exact⟨_,rfl,r⟩
 | _,_,i+1,x,.cons _ t,e=>by
  obtain⟨u,h1,h2⟩:=Vals.get (i:=i) (x:=x) t (by simpa using e)
  exact⟨u,by simpa using h1,h2⟩
theorem Vals.set {x:V}{u:Value}(r:RelV x u):∀ {xs:List V}{us:List Value} (i:Nat),Vals xs us→Vals (xs.set i x) (us.set i u)
 | _,_,_,.nil=>.nil
 | _,_,0,.cons _ t=>.cons r t
 | _,_,i+1,.cons q t=>.cons q (Vals.set r i t)
theorem Vals.append:∀ {xs ys:List V}{us ws:List Value},Vals xs us→Vals ys ws→Vals (xs++ys) (us++ws)
 | _,_,_,_,.nil,s=>s
 | _,_,_,_,.cons r t,s=>.cons r (Vals.append t s)
theorem Vals.take:∀ {xs:List V}{us:List Value} (n:Nat),Vals xs us→Vals (xs.take n) (us.take n)
 | _,_,0,_=>.nil
 | _,_,_+1,.nil=>.nil
 | _,_,n+1,.cons r t=>.cons r (Vals.take n t)
theorem Vals.drop:∀ {xs:List V}{us:List Value} (n:Nat),Vals xs us→Vals (xs.drop n) (us.drop n)
 | _,_,0,r=>r
 | _,_,_+1,.nil=>.nil
 | _,_,n+1,.cons _ t=>Vals.drop n t
noncomputable def RelO:Option V→Option Value→Prop
 | some v,some u=>RelV v u
 | none,none=>True
 | _,_=>False
noncomputable def KV {κ:Type}:List (κ × V)→List (κ × Value)→Prop:=Paired fun (p:κ × V) (q:κ × Value)=>p.1=q.1∧RelV p.2 q.2
noncomputable def kV:Key→V
 | .inl i=>.int i
 | .inr x=>.str x
inductive HO where
 | lst (xs:List V)
 | tup (xs:List V)
 | dK (kvs:List (Key × V))|dT (kvs:List (List Key × V))
 | set (S:Int→Bool) (n:Nat)
 | ins (C dx:Addr) (fs:List (Str × V))
 | own (x:Addr)
 | xd (fs:List (Str × V))
 | met (f x:Addr)
 | rng (lo hi:Int)
 | frz (o:Obj) (u:HO)
 | tbl (ps:Array Value)
 | ext (φ:Heap→Prop)
noncomputable abbrev Hp:=Addr→Option HO
noncomputable def upd (H:Hp)(a:Addr)(o:HO):Hp:=fun b=>if b=a then some o else H b
theorem av {H:Hp}{a:Addr}{o:HO}:upd H a o a=some o:=by unfold upd;rw[D9 rfl]
theorem ae {H:Hp}{a b:Addr}{o:HO}(h:b≠a):upd H a o b=H b:=by unfold upd;rw[D_ h]
theorem BH {H:Hp}{a b:Addr}{o u:HO}(h:H a=some o)(h':H b=some u)(d:o≠u):a≠b:=by
 intro e;subst e;rw[h] at h';exact d (EU h')
theorem aj {H:Hp}{a b:Addr}{o:HO}(h:H a=some o)(h':H b=none):a≠b:=by
 intro e;subst e;rw[h] at h';cases h'
section
variable (P:Program) (w:World)
noncomputable def ObjOk (H:Hp)(h:Heap)(a:Addr):HO→Prop
 | .lst xs=>xs.length≤sizeLine∧∃(its:List Value) (n:Nat),Vals xs its∧h.get? a=some { cls:=.type "list",data:=.seq its.toArray n }
 | .tup xs=>xs.length≤sizeLine∧∃its:List Value,Vals xs its∧IsTup h a its.toArray
 | .dK kvs=>kvs.length≤sizeLine∧(a == sysModules)=false∧∃vs,KV kvs vs∧h.DictOf (aB P w) a vs
 | .dT kvs=>kvs.length≤sizeLine∧(a == sysModules)=false∧∃xs:List (List Key × Addr × Value),
   Paired (fun (p:List Key × V) (q:List Key × Addr × Value)=>p.1=q.1∧H q.2.1=some (.tup (p.1.map kV))∧RelV p.2 q.2.2) kvs xs ∧
   ∃o es ep,h.get? a=some o∧o.ExactDict∧o.data=.dict es ep∧es.toList=xs.map (entryOfKey (tupleKind (aB P w)))∧(xs.map (·.1)).Nodup
 | .set S n=>h.SetOf (intKind P w) a S n
 | .ins C dx fs=>H dx=some (.own a)∧fs.length≤1000∧dx≠a∧h.get? a=some (W.instObj C dx) ∧
   ∃mA,h.Ns1 dx mA∧(∀f,RelO (fs.lookup f) (mA f))∧PySem.Within mA (fs.map (·.1))
 | .own _=>∃o,h.get? a=some o
 | .xd fs=>∃mA,h.Ns1 a mA∧∀f,RelO (fs.lookup f) (mA f)
 | .rng lo hi=>∃t u v,h.get? a=some { cls:=.type "range",data:=.fields #[.int lo t,.int hi u,.int 1 v] }
 | .frz o u=>h.get? a=some o∧ObjOk H h a u
 | .tbl ps=>h.get? a=some { cls:=.none,data:=.fields ps }
 | .met f x=>h.get? a=some (W.methodObj (.ref f) (.ref x))
 | .ext φ=>φ h∧(∃o,h.get? a=some o)∧∀h1 h2:Heap,φ h1→(∀o,h1.get? a=some o→h2.get? a=some o)→φ h2
def HOk (H:Hp)(h:Heap):Prop:=∀a o,H a=some o→ObjOk P w H h a o
end
section
variable {P:Program}{w:World}{H H':Hp}{h h':Heap}{a:Addr}{o:HO}
theorem ObjOk.lt (x:ObjOk P w H h a o):a<h.objs.size:=by
 cases o with
 | lst xs=>obtain⟨_,_,_,_,e⟩:=x;exact D8 e
 | tup xs=>obtain⟨_,_,_,p⟩:=x;exact p.lt
 | dK kvs=>obtain⟨_,_,_,_,o,_,_,e,_⟩:=x;exact D8 e
 | dT kvs=>obtain⟨_,_,_,_,o,_,_,e,_⟩:=x;exact D8 e
 | set S n=>obtain⟨o,_,_,_,e,_⟩:=x;exact D8 e
 | ins C dx fs=>obtain⟨_,_,_,e,_⟩:=x;exact D8 e
 | own y=>obtain⟨_,e⟩:=x;exact D8 e
 | xd fs=>obtain⟨_,⟨_,_,_,e,_⟩,_⟩:=x;exact D8 e
 | rng lo hi=>obtain⟨_,_,_,e⟩:=x;exact D8 e
 | frz ob u=>obtain⟨e,_⟩:=x;exact D8 e
 | tbl ps=>exact D8 (show h.get? a=some _ from x)
 | met f y=>exact D8 (show h.get? a=some _ from x)
 | ext φ=>obtain⟨_,⟨_,e⟩,_⟩:=x;exact D8 e
theorem Paired.mapP {α β:Type}{F G:α→β→Prop}:∀ {l₁:List α}{l₂:List β},Paired F l₁ l₂→(∀a b,F a b→G a b)→Paired G l₁ l₂
 | _,_,.nil,_=>.nil
 | _,_,.cons r t,f=>.cons (f _ _ r) (Paired.mapP t f)
theorem ObjOk.stay (x:ObjOk P w H h a o)(k:∀b u,(b=a∨H b=some (.own a))→h.get? b=some u→h'.get? b=some u)
  (ho:∀b,H b=some (.own a)→H' b=some (.own a)) (ht:∀b xs,H b=some (.tup xs)→H' b=some (.tup xs)):ObjOk P w H' h' a o:=by
 induction o with
 | lst xs=>obtain⟨z,its,n,r,e⟩:=x;exact⟨z,its,n,r,k _ _ (.inl rfl) e⟩
 | tup xs=>obtain⟨z,its,r,ob,e,c⟩:=x;exact⟨z,its,r,ob,k _ _ (.inl rfl) e,c⟩
 | dK kvs=>obtain⟨z,y,vs,r,ob,es,ep,e,c⟩:=x;exact⟨z,y,vs,r,ob,es,ep,k _ _ (.inl rfl) e,c⟩
 | dT kvs =>
  obtain⟨z,y,xs,r,ob,es,ep,e,c⟩:=x
  exact⟨z,y,xs,Paired.mapP r fun p q z=>⟨z.1,ht _ _ z.2.1,z.2.2⟩,ob,es,ep,k _ _ (.inl rfl) e,c⟩
 | set S n=>obtain⟨ob,es,ep,t,e,c⟩:=x;exact⟨ob,es,ep,t,k _ _ (.inl rfl) e,c⟩
 | ins C dx fs =>
  obtain⟨d,z,ne,e,mA,⟨od,es,ep,e2,c⟩,r⟩:=x
  exact⟨ho _ d,z,ne,k _ _ (.inl rfl) e,mA,⟨od,es,ep,k _ _ (.inr d) e2,c⟩,r⟩
 | own y=>obtain⟨ob,e⟩:=x;exact⟨ob,k _ _ (.inl rfl) e⟩
 | xd fs=>obtain⟨mA,⟨od,es,ep,e,c⟩,r⟩:=x;exact⟨mA,⟨od,es,ep,k _ _ (.inl rfl) e,c⟩,r⟩
 | rng lo hi=>obtain⟨t,u,v,e⟩:=x;exact⟨t,u,v,k _ _ (.inl rfl) e⟩
 | frz ob u ih=>obtain⟨e,q⟩:=x;exact⟨k _ _ (.inl rfl) e,ih q⟩
 | tbl ps =>
  have e:h.get? a=some { cls:=.none,data:=.fields ps }:=x
  show h'.get? a=some { cls:=.none,data:=.fields ps }
  exact k a _ (.inl rfl) e
 | met f y =>
  have e:h.get? a=some (W.methodObj (.ref f) (.ref y)):=x
  show h'.get? a=some (W.methodObj (.ref f) (.ref y))
  exact k a _ (.inl rfl) e
 | ext φ=>obtain⟨p,⟨o,e⟩,st⟩:=x;exact⟨st _ _ p fun o q=>k _ _ (.inl rfl) q,⟨o,k _ _ (.inl rfl) e⟩,st⟩
theorem HOk.lt (x:HOk P w H h)(e:H a=some o):a<h.objs.size:=(x a o e).lt
theorem HOk.fresh (x:HOk P w H h)(e:h.objs.size≤a):H a=none:=by
 cases q:H a with
 | none=>rfl
 | some u=>exact absurd (EB (x.lt q) e) (F5 _)
theorem HOk.kept (x:HOk P w H h)(k:∀b u,h.get? b=some u→h'.get? b=some u):HOk P w H h':=fun a o e =>
 (x a o e).stay (fun b u _ q=>k b u q) (fun _ q=>q) fun _ _ q=>q
theorem HOk.laid (x:HOk P w H h)(k:∀b u,h.get? b=some u→h'.get? b=some u)(hp:h.objs.size≤a)(new:ObjOk P w (upd H a o) h' a o):HOk P w (upd H a o) h':=fun b u e=>by
 have hn:=x.fresh hp
 by_cases hb:b=a
 ·subst hb;rw[av] at e;cases e;exact new
 ·rw[ae hb] at e
  exact(x b u e).stay (fun c v _ q=>k c v q) (fun c q=>by rw[ae (aj q hn)];exact q) fun c xs q=>by rw[ae (aj q hn)];exact q
end
def Rd (H:Hp)(a:Addr)(u:HO):Prop:=H a=some u∨∃o,H a=some (.frz o u)
theorem Rd.ok {P:Program}{w:World}{H:Hp}{h:Heap}{a:Addr}{u:HO}(r:Rd H a u)(x:HOk P w H h):ObjOk P w H h a u:=by
 rcases r with r|⟨o,r⟩
 ·exact x a u r
 ·obtain⟨_,q⟩:=x a _ r
  exact q
noncomputable def Mut:Option HO→Prop
 | some (.lst _)=>True
 | some (.dK _)=>True
 | some (.dT _)=>True
 | some (.set _ _)=>True
 | some (.ins _ _ _)=>True
 | some (.ext _)=>True
 | _=>False
section
variable {P:Program}{w:World}{H:Hp}{h h':Heap}{x e:Addr}{o':HO}
theorem HOk.write (ok:HOk P w H h)(mu:Mut (H x))(he:e=x∨H e=some (.own x))(k:∀b u,b≠e→h.get? b=some u→h'.get? b=some u)(heo:∃u,h'.get? e=some u)
  (new:ObjOk P w (upd H x o') h' x o'):HOk P w (upd H x o') h':=fun b u q=>by
 have nown:∀c y,H c=some (.own y)→c≠x:=fun c y r z=>by subst z;rw[r] at mu;exact mu
 have ntup:∀c xs,H c=some (.tup xs)→c≠x:=fun c xs r z=>by subst z;rw[r] at mu;exact mu
 by_cases hb:b=x
 ·subst hb;rw[av] at q;cases q;exact new
 ·rw[ae hb] at q
  by_cases hbe:b=e
  ·have q':H b=some (.own x):=by
    rcases he with z|z
    ·exact absurd (hbe.trans z) hb
    ·rw[hbe];exact z
   rw[q] at q';cases q'
   obtain⟨v,hv⟩:=heo
   exact⟨v,by rw[hbe];exact hv⟩
  ·refine(ok b u q).stay (fun c v hc r=>k c v ?_ r) (fun c r=>by rw[ae (nown c b r)];exact r) fun c xs r=>by rw[ae (ntup c xs r)];exact r
   rcases hc with rfl|hc
   ·exact hbe
   ·rintro rfl
    rcases he with z|z
    ·exact nown c b hc z
    ·rw[hc] at z;cases z;exact hb rfl
end
structure Un (fs ex:List Addr)(H H':Hp)(h h':Heap):Prop where
 keep:∀b o,h.get? b=some o→H b=none→b ∉ fs→b ∉ ex→h'.get? b=some o
 slot:∀b o,h.get? b=some o→H b=none→b∈fs→b ∉ ex→∃sl,h'.get? b=some { o with slots:=sl }
 free:∀b o,h.get? b=some o→H b=none→b ∉ ex→H' b=none
 there:∀b o,h.get? b=some o→b ∉ ex→∃o',h'.get? b=some o'
 tups:∀b xs,H b=some (.tup xs)→H' b=some (.tup xs)
 frzs:∀b o u,H b=some (.frz o u)→H' b=some (.frz o u)
 tbls:∀b ps,H b=some (.tbl ps)→∃more,H' b=some (.tbl (ps++more))
section
variable {fs fs' ex ex':List Addr}{H H1 H2:Hp}{h h1 h2 h':Heap}{a x e:Addr}{o:HO}
theorem Un.any (u:Un fs ex H H1 h h1){b:Addr}{ob:Obj}(q:h.get? b=some ob)(n:H b=none)(hx:b ∉ ex):∃sl,h1.get? b=some { ob with slots:=sl }:=by
 by_cases hb:b∈fs
 ·exact u.slot b ob q n hb hx
 ·exact⟨ob.slots,u.keep b ob q n hb hx⟩
theorem Un.kept (k:∀b u,h.get? b=some u→h'.get? b=some u):Un fs ex H H h h' :=
 ⟨fun b ob q _ _ _=>k b ob q,fun b ob q _ _ _=>⟨ob.slots,k b ob q⟩,fun _ _ _ n _=>n,fun b ob q _=>⟨ob,k b ob q⟩,fun _ _ q=>q,fun _ _ _ q=>q,fun _ ps q=>⟨#[],by rw[q];simp⟩⟩
theorem Un.refl:Un fs ex H H h h:=Un.kept fun _ _ q=>q
theorem Un.laid (k:∀b u,h.get? b=some u→h'.get? b=some u)(hp:h.objs.size≤a)(hn:H a=none):Un fs ex H (upd H a o) h h' where
 keep:=fun b u q _ _ _=>k b u q
 slot:=fun b u q _ _ _=>⟨u.slots,k b u q⟩
 free:=fun b u q n _=>by rw[ae (EM (EB (D8 q) hp))];exact n
 there:=fun b u q _=>⟨u,k b u q⟩
 tups:=fun b xs q=>by rw[ae (aj q hn)];exact q
 frzs:=fun b u xs q=>by rw[ae (aj q hn)];exact q
 tbls:=fun b ps q=>⟨#[],by rw[ae (aj q hn),q];simp⟩
theorem Un.write (mu:Mut (H x))(he:e=x∨H e=some (.own x))(k:∀b u,b≠e→h.get? b=some u→h'.get? b=some u)(heo:∃u,h'.get? e=some u):Un fs ex H (upd H x o) h h':=by
 have hx:∀b,H b=none→b≠x:=fun b n z=>by subst z;rw[n] at mu;exact mu
 have hb:∀b,H b=none→b≠e:=fun b n z=>by
  subst z
  rcases he with r|r
  ·exact hx b n r
  ·rw[n] at r;cases r
 have hm:∀b u,H b=some u→¬Mut (some u)→b≠x:=fun b u q nm z=>by subst z;rw[q] at mu;exact nm mu
 refine⟨fun b u q n _ _=>k b u (hb b n) q,fun b u q n _ _=>⟨u.slots,k b u (hb b n) q⟩,fun b u q n _=>by rw[ae (hx b n)];exact n,fun b u q _=>?_,
  fun b xs q=>by rw[ae (hm b _ q fun z=>z)];exact q,fun b u xs q=>by rw[ae (hm b _ q fun z=>z)];exact q,fun b ps q=>⟨#[],by rw[ae (hm b _ q fun z=>z),q];simp⟩⟩
 by_cases hbe:b=e
 ·subst hbe;exact heo
 ·exact⟨u,k b u hbe q⟩
end
noncomputable def trk (h:Heap)(H:Hp):List Addr:=(List.range h.objs.size).filter fun a=>(H a).isSome
noncomputable def jX (h:Heap)(H:Hp):Heap:=W.hideAll h (trk h H)
theorem qR (h:Heap)(H:Hp):(jX h H).objs.size=h.objs.size:=W.hideAll_size _ _
theorem sR {h:Heap}{H:Hp}{b:Addr}{o:Obj}(e:h.get? b=some o)(n:H b=none):(jX h H).get? b=some o :=
 W.hideAll_get _ e fun hm=>by
  have q:(H b).isSome=true:=(List.mem_filter.mp hm).2
  rw[n] at q;simp at q
theorem uL {h:Heap}{H:Hp}{b:Addr}{o:Obj}(e:(jX h H).get? b=some o):h.get? b=some o∧H b=none:=by
 have e':h.get? b=some o:=W.of_hideAll (trk h H) e
 refine⟨e',?_⟩
 cases q:H b with
 | none=>rfl
 | some x =>
  have hm:b∈trk h H:=List.mem_filter.mpr ⟨List.mem_range.mpr (D8 e'),by simp[q]⟩
  have z:(jX h H).get? b=none:=W.hideAll_none (trk h H) hm
  rw[z] at e;cases e
end L2
namespace L2
structure Mod (K:W.Frag)(mg:Str→Option Value)(base:Heap):Prop where
 kin:K.In base
 glob:base.Ns mainGlobals mg
 blt:∃mb,base.Ns builtinsNs mb∧∀x:Str,x≠"__name__"→mb x=bootBuiltins x
 nolimit:base.NoLimit
structure Cx where
 prog:Program
 w:World
 K:W.Frag
 mg:Str→Option Value
 base:Heap
 A:Around
 N:List Str
 s₀:Shared
 H₀:Hp
 env:Env
 outer:List Env
 stack:List Env
 ex:List Addr
 fn:Str→Bool
 calm:Bool
 pn:List (Addr × Obj)
 xe:Value→Shared→Prop
noncomputable def frs (l:List Env):List Addr:=l.filterMap (·.frame)
noncomputable abbrev Cx.fs (X:Cx):List Addr:=frs X.outer
def Vis (sc:Scope)(x:Str):Prop:=sc.names.lookup x=some .local∨sc.names.lookup x=some .cell∨sc.names.lookup x=some .free
def Loc (sc:Scope)(x:Str):Prop:=sc.names.lookup x=some .local∨sc.names.lookup x=some .cell
def CP (env:Env)(h:Heap)(m:Str→Option Value)(x:Str)(u:Value):Prop :=
 (env.kindOf x=some .local∧m x=some u)∨((env.kindOf x=some .cell∨env.kindOf x=some .free)∧∃c,env.cells.lookup x=some c∧h.IsCell c (some u))
structure Cx.Ok (X:Cx):Prop where
 mod:Mod X.K X.mg X.base
 kind:X.env.scope.kind=.function
 glob:X.env.globals=mainGlobals
 blt:X.env.builtins=builtinsNs
 above:X.s₀.heap.objs.size≤X.env.locals
 inj:∀x y c,X.env.cells.lookup x=some c→X.env.cells.lookup y=some c→x=y
 has:∀x,(X.env.kindOf x=some .cell∨X.env.kindOf x=some .free)→∃c,X.env.cells.lookup x=some c
 cab:∀x c,X.fn x=true→X.env.cells.lookup x=some c→X.s₀.heap.objs.size≤c
 hd:X.calm=true→X.A.handled=none
 frames:X.A.frames=some X.stack
 stk:X.stack=X.outer∨(X.stack=X.env::X.outer∧X.env.frame=some X.env.locals)
 exf:∀b∈X.ex,b≠X.env.locals∧∀x c,X.env.cells.lookup x=some c→c≠b
 bs:∀b o,X.base.get? b=some o→X.s₀.heap.get? b=some o∧X.H₀ b=none
 bsz:X.base.objs.size≤X.s₀.heap.objs.size
 noex:∀b o,X.base.get? b=some o→b ∉ X.ex
 exfs:∀b∈X.ex,b ∉ X.fs
 funs:X.s₀.heap.FunFrames X.base X.outer
 frf:∀b∈X.fs,X.H₀ b=none
structure Inv (X:Cx)(pins:List (Addr × Obj))(σ:List (Option V))(H:Hp)(s:Shared):Prop where
 ok:X.Ok
 os:s.os=X.s₀.os
 bare:AllBare s.gens
 base:Un X.fs X.ex X.H₀ H X.s₀.heap s.heap
 loc:∃m,s.heap.Ns X.env.locals m∧∀(i:Nat) (x:Str) (v:V),X.N[i]?=some x→σ[i]?=some (some v)→Vis X.env.scope x→∃u,RelV v u∧CP X.env s.heap m x u
 cell:∀x c,X.env.cells.lookup x=some c→∃v,s.heap.IsCell c v
 free:H X.env.locals=none
 freeC:∀x c,X.env.cells.lookup x=some c→H c=none
 pin:∀p∈X.pn++pins,s.heap.get? p.1=some p.2∧H p.1=none∧p.1≠X.env.locals∧p.1 ∉ X.fs∧∀v,p.2.data≠.cell v
 hok:HOk X.prog X.w H s.heap
 len:σ.length=X.N.length
section
variable {X:Cx}{pins:List (Addr × Obj)}{σ:List (Option V)}{H H':Hp}{s:Shared}{h':Heap}
theorem Cx.Ok.nofr (ok:X.Ok){b:Addr}{o:Obj}(e:X.base.get? b=some o):b ∉ X.fs:=fun hb=>by
 have:=(ok.funs.mem hb).1
 rw[e] at this;cases this
theorem Inv.bs (I:Inv X pins σ H s):∀b o,X.base.get? b=some o→s.heap.get? b=some o∧H b=none:=fun b o e =>
 ⟨I.base.keep b o (I.ok.bs b o e).1 (I.ok.bs b o e).2 (I.ok.nofr e) (I.ok.noex b o e),I.base.free b o (I.ok.bs b o e).1 (I.ok.bs b o e).2 (I.ok.noex b o e)⟩
theorem Inv.bk (I:Inv X pins σ H s):∀b o,X.base.get? b=some o→s.heap.get? b=some o:=fun b o e=>(I.bs b o e).1
theorem Inv.mod (I:Inv X pins σ H s):Mod X.K X.mg X.base:=I.ok.mod
theorem Inv.kIn (I:Inv X pins σ H s):X.K.In s.heap:=I.ok.mod.kin.keeps I.bk
theorem Inv.lt (I:Inv X pins σ H s):X.env.locals<s.heap.objs.size:=let ⟨_,hn,_⟩:=I.loc;hn.lt
theorem Inv.sz (I:Inv X pins σ H s):X.s₀.heap.objs.size≤s.heap.objs.size:=EX I.ok.above (E8 I.lt)
theorem Inv.nofs (I:Inv X pins σ H s){a:Addr}(h:s.heap.objs.size≤a):a ∉ X.fs:=fun hb=>by
 obtain⟨_,o,ho,_⟩:=I.ok.funs.mem hb
 exact absurd (EB (D8 ho) (EX I.sz h)) (F5 _)
theorem Inv.cne (I:Inv X pins σ H s):∀x c,X.env.cells.lookup x=some c→c≠X.env.locals:=fun x c e z=>by
 obtain⟨v,o,ho,hd⟩:=I.cell x c e
 obtain⟨m,⟨o',es,ep,ho',hd',_⟩,_⟩:=I.loc
 rw[z,ho'] at ho;cases ho;rw[hd'] at hd;cases hd
theorem Inv.funs (I:Inv X pins σ H s):s.heap.FunFrames X.base X.outer:=by
 have all:∀(l:List Env),(∀b∈frs l,b∈X.fs)→X.s₀.heap.FunFrames X.base l→s.heap.FunFrames X.base l:=by
  intro l
  induction l with
  | nil=>intro _ _;trivial
  | cons env r ih =>
   intro hs hl
   obtain⟨hk,⟨L,o,hf,hn,ho,hd⟩,hr⟩:=hl
   have hL:L∈X.fs:=hs L (by unfold frs;rw[E7,hf];exact ET)
   obtain⟨sl,e⟩:=I.base.slot L o ho (I.ok.frf L hL) hL fun z=>I.ok.exfs L z hL
   exact⟨hk,⟨L,_,hf,hn,e,hd⟩,ih (fun b hb=>hs b (by unfold frs;rw[E7,hf];exact EH _ hb)) hr⟩
 exact all X.outer (fun _ hb=>hb) I.ok.funs
theorem Inv.stack (I:Inv X pins σ H s):s.heap.FunFrames X.base X.stack:=by
 rcases I.ok.stk with e|⟨e,hf⟩
 ·rw[e];exact I.funs
 ·rw[e]
  obtain⟨m,hn,_⟩:=I.loc
  refine .cons (by rw[I.ok.kind];decide) hf hn ?_ I.funs
  exact Heap.get?_none_of_le (EX I.ok.bsz I.ok.above)
theorem Inv.stkSub (I:Inv X pins σ H s):∀b∈frs X.stack,b∈X.env.locals::X.fs:=fun b hb=>by
 rcases I.ok.stk with e|⟨e,hf⟩
 ·rw[e] at hb;exact EH _ hb
 ·rw[e] at hb
  unfold frs at hb
  rw[E7,hf] at hb
  exact hb
theorem Inv.stkFree (I:Inv X pins σ H s):∀b∈frs X.stack,H b=none:=fun b hb=>by
 rcases E3.mp (I.stkSub b hb) with e|hb
 ·rw[e];exact I.free
 ·obtain⟨_,o,ho,_⟩:=I.ok.funs.mem hb
  exact I.base.free b o ho (I.ok.frf b hb) fun z=>I.ok.exfs b z hb
theorem Inv.step {g':Array GenState}{t':Nat}{d':Drawn}{ch:List Addr}(I:Inv X pins σ H s)
  (hch:∀b∈ch,(b∈X.ex∨X.s₀.heap.objs.size≤b)∧b≠X.env.locals∧(∀x c,X.env.cells.lookup x=some c→c≠b)∧∀p∈X.pn++pins,p.1≠b)
  (keep:∀b o,b≠X.env.locals→b ∉ X.fs→b ∉ ch→s.heap.get? b=some o→H b=none→h'.get? b=some o)
  (slot:∀b o,b≠X.env.locals→b∈X.fs→b ∉ ch→s.heap.get? b=some o→H b=none→∃sl,h'.get? b=some { o with slots:=sl }) (free:∀b o,b ∉ ch→s.heap.get? b=some o→H b=none→H' b=none)
  (there:∀b o,b ∉ ch→s.heap.get? b=some o→∃o',h'.get? b=some o')
  (tups:∀b xs,H b=some (.tup xs)→H' b=some (.tup xs)) (frzs:∀b o u,H b=some (.frz o u)→H' b=some (.frz o u)) (tbls:∀b ps,H b=some (.tbl ps)→∃more,H' b=some (.tbl (ps++more)))
  (ns:∀m,s.heap.Ns X.env.locals m→h'.Ns X.env.locals m) (hok:HOk X.prog X.w H' h') (hg:AllBare g') :
  Inv X pins σ H' { s with heap:=h',gens:=g',drawn:=d',toks:=t' }:=by
 have neL:∀b o,X.s₀.heap.get? b=some o→b≠X.env.locals:=fun b o e=>EM (EB (D8 e) I.ok.above)
 have neC:∀b o,X.s₀.heap.get? b=some o→b ∉ X.ex→b ∉ ch:=fun b o e hx hb=>by
  rcases (hch b hb).1 with z|z
  ·exact hx z
  ·exact absurd (EB (D8 e) z) (F5 _)
 have cellK:∀x c,X.env.cells.lookup x=some c→∀v,s.heap.IsCell c v→h'.IsCell c v:=fun x c e v ⟨o,ho,hd⟩=>by
  have nch:c ∉ ch:=fun z=>(hch c z).2.2.1 x c e rfl
  by_cases hc:c∈X.fs
  ·obtain⟨sl,q⟩:=slot c o (I.cne x c e) hc nch ho (I.freeC x c e)
   exact⟨_,q,hd⟩
  ·exact⟨o,keep c o (I.cne x c e) hc nch ho (I.freeC x c e),hd⟩
 refine⟨I.ok,I.os,hg,⟨fun b o e n hb hx=>?_,fun b o e n hb hx=>?_,fun b o e n hx=>?_,fun b o e hx=>?_,fun b xs e=>tups b xs (I.base.tups b xs e),fun b o xs e=>frzs b o xs (I.base.frzs b o xs e),fun b ps e=>?_⟩,?_,fun x c e=>?_,?_,fun x c e=>?_,fun p hp=>?_,hok,I.len⟩
 ·exact keep b o (neL b o e) hb (neC b o e hx) (I.base.keep b o e n hb hx) (I.base.free b o e n hx)
 ·obtain⟨sl,e1⟩:=I.base.slot b o e n hb hx
  obtain⟨sl',e2⟩:=slot b _ (neL b o e) hb (neC b o e hx) e1 (I.base.free b o e n hx)
  exact⟨sl',e2⟩
 ·obtain⟨o',e1⟩:=I.base.there b o e hx
  exact free b o' (neC b o e hx) e1 (I.base.free b o e n hx)
 ·obtain⟨o',e1⟩:=I.base.there b o e hx
  exact there b o' (neC b o e hx) e1
 ·obtain⟨m1,e1⟩:=I.base.tbls b ps e
  obtain⟨m2,e2⟩:=tbls b _ e1
  exact⟨m1++m2,by rw[e2,Array.append_assoc]⟩
 ·obtain⟨m,hn,hl⟩:=I.loc
  refine⟨m,ns m hn,fun i x v e1 e2 e3=>?_⟩
  obtain⟨u,r,l⟩:=hl i x v e1 e2 e3
  refine⟨u,r,?_⟩
  rcases l with l|⟨k,c,e,z⟩
  ·exact .inl l
  ·exact .inr ⟨k,c,e,cellK x c e _ z⟩
 ·obtain⟨v,z⟩:=I.cell x c e
  exact⟨v,cellK x c e v z⟩
 ·obtain⟨m,⟨o,_,_,ho,_⟩,_⟩:=I.loc
  exact free _ o (fun z=>(hch _ z).2.1 rfl) ho I.free
 ·obtain⟨v,o,ho,hd⟩:=I.cell x c e
  exact free c o (fun z=>(hch c z).2.2.1 x c e rfl) ho (I.freeC x c e)
 ·obtain⟨e,n,ne,nf,d⟩:=I.pin p hp
  have nch:p.1 ∉ ch:=fun z=>(hch p.1 z).2.2.2 p hp rfl
  exact⟨keep p.1 p.2 ne nf nch e n,free p.1 p.2 nch e n,ne,nf,d⟩
theorem Inv.un {t':Nat}(I:Inv X pins σ H s)(u:Un X.fs [] H H' s.heap h')(hok:HOk X.prog X.w H' h'):Inv X pins σ H' { s with heap:=h',toks:=t' }:=by
 obtain⟨m,⟨o,es,ep,ho,r⟩,_⟩:=id I.loc
 obtain⟨sl,hL⟩:=u.any ho I.free (by simp)
 exact I.step (g':=s.gens) (d':=s.drawn) (ch:=[]) (fun _ z=>nomatch z) (fun b o _ hb _ e n=>u.keep b o e n hb (by simp)) (fun b o _ hb _ e n=>u.slot b o e n hb (by simp)) (fun b o _ e n=>u.free b o e n (by simp)) (fun b o _ e=>u.there b o e (by simp)) u.tups u.frzs u.tbls (fun m' hm=>by
  obtain⟨o',es',ep',ho',r'⟩:=hm
  rw[ho] at ho';cases ho'
  exact⟨_,es',ep',hL,r'⟩) hok I.bare
theorem Inv.call {g':Array GenState}{t':Nat}{d':Drawn}{ch:List Addr}(I:Inv X pins σ H s)(u:Un (frs X.stack) ch H H' s.heap h')(hok:HOk X.prog X.w H' h')(hg:AllBare g')
  (hch:∀b∈ch,(b∈X.ex∨X.s₀.heap.objs.size≤b)∧b≠X.env.locals∧(∀x c,X.env.cells.lookup x=some c→c≠b)∧∀p∈X.pn++pins,p.1≠b) :
  Inv X pins σ H' { s with heap:=h',gens:=g',drawn:=d',toks:=t' }:=by
 obtain⟨m,⟨o,es,ep,ho,r⟩,_⟩:=id I.loc
 obtain⟨sl,hL⟩:=u.any ho I.free fun z=>(hch _ z).2.1 rfl
 exact I.step (ch:=ch) hch (fun b o hL hb hc e n=>u.keep b o e n (fun z=>(E3.mp (I.stkSub b z)).elim hL hb) hc) (fun b o _ _ hc e n=>u.any e n hc) (fun b o hc e n=>u.free b o e n hc) (fun b o hc e=>u.there b o e hc) u.tups u.frzs u.tbls (fun m' hm=>by
  obtain⟨o',es',ep',ho',r'⟩:=hm
  rw[ho] at ho';cases ho'
  exact⟨_,es',ep',hL,r'⟩) hok hg
theorem Inv.turned {t':Nat}{it:Addr}(I:Inv X pins σ H s)(k:∀b o,b≠it→s.heap.get? b=some o→h'.get? b=some o)(hn:H it=none)(hL:it≠X.env.locals)
  (h1:it∈X.ex∨X.s₀.heap.objs.size≤it) (h2:∀x c,X.env.cells.lookup x=some c→c≠it) (h3:∀p∈X.pn++pins,p.1≠it):Inv X pins σ H { s with heap:=h',toks:=t' }:=by
 have nit:∀b u,H b=some u→b≠it:=fun b u e z=>by rw[z,hn] at e;cases e
 refine I.step (g':=s.gens) (d':=s.drawn) (ch:=[it]) (fun b hb=>?_) (fun b o _ _ hc e _=>k b o (fun z=>hc (by simp[z])) e) (fun b o _ _ hc e _=>⟨o.slots,k b o (fun z=>hc (by simp[z])) e⟩) (fun _ _ _ _ n=>n)
  (fun b o hc e=>⟨o,k b o (fun z=>hc (by simp[z])) e⟩) (fun _ _ e=>e) (fun _ _ _ e=>e) (fun b ps e=>⟨#[],by rw[e];simp⟩) (fun m hm=>?_) (fun b u e=>?_) I.bare
 ·have e:b=it:=by simpa using hb
  subst e
  exact⟨h1,hL,h2,h3⟩
 ·obtain⟨o,es,ep,ho,r⟩:=hm
  exact⟨o,es,ep,k _ o (Ne.symm hL) ho,r⟩
 ·refine(I.hok b u e).stay (fun c v hc q=>k c v ?_ q) (fun _ q=>q) fun _ _ q=>q
  rcases hc with z|z
  ·rw[z];exact nit b u e
  ·exact nit c _ z
theorem Inv.tok (I:Inv X pins σ H s)(t:Nat):Inv X pins σ H { s with toks:=t }:=I.un (h':=s.heap) (t':=t) Un.refl I.hok
theorem Inv.kept {t':Nat}(I:Inv X pins σ H s)(k:∀b u,s.heap.get? b=some u→h'.get? b=some u):Inv X pins σ H { s with heap:=h',toks:=t' }:=I.un (Un.kept k) (I.hok.kept k)
theorem Inv.laid {a:Addr}{o:HO}{t':Nat}(I:Inv X pins σ H s)(k:∀b u,s.heap.get? b=some u→h'.get? b=some u)(hp:s.heap.objs.size≤a)(new:ObjOk X.prog X.w (upd H a o) h' a o) :
  Inv X pins σ (upd H a o) { s with heap:=h',toks:=t' }:=I.un (Un.laid k hp (I.hok.fresh hp)) (I.hok.laid k hp new)
theorem Inv.write {x e:Addr}{o:HO}{t':Nat}(I:Inv X pins σ H s)(mu:Mut (H x))(he:e=x∨H e=some (.own x))(k:∀b u,b≠e→s.heap.get? b=some u→h'.get? b=some u)(heo:∃u,h'.get? e=some u)
  (new:ObjOk X.prog X.w (upd H x o) h' x o):Inv X pins σ (upd H x o) { s with heap:=h',toks:=t' }:=I.un (Un.write mu he k heo) (I.hok.write mu he k heo new)
theorem Inv.pins_of {pins':List (Addr × Obj)}(I:Inv X pins σ H s)(h:∀p∈pins',s.heap.get? p.1=some p.2∧H p.1=none∧p.1≠X.env.locals∧p.1 ∉ X.fs∧∀v,p.2.data≠.cell v):Inv X pins' σ H s :=
 ⟨I.ok,I.os,I.bare,I.base,I.loc,I.cell,I.free,I.freeC,fun p hp=>(FG.mp hp).elim (fun z=>I.pin p (F9 _ z)) (h p),I.hok,I.len⟩
theorem jp {N:List Str}(hN:N.Nodup){i j:Nat}{x:Str}(a:N[i]?=some x)(b:N[j]?=some x):i=j:=by
 obtain⟨h1,e1⟩:=D3.mp a
 obtain⟨h2,e2⟩:=D3.mp b
 exact(List.getElem_inj hN).mp (e1.trans e2.symm)
theorem kI {M:Model}{A:Around}{E:Value→Shared→Prop}{i:Nat}{x:Str}{v:V}{u:Value}{Q:Unit→Shared→Prop}(I:Inv X pins σ H s)(hN:X.N.Nodup)(hi:X.N[i]?=some x)(hx:Loc X.env.scope x)(r:RelV v u)
  (h:∀s',Inv X pins (σ.set i (some v)) H s'→(∃a,Heap.SameBut a s.heap s'.heap∧(a=X.env.locals∨X.env.cells.lookup x=some a))→Q () s') (hf:X.fn x=true∨X.env.scope.names.lookup x=some .local:=by first|exact .inl rfl|exact .inr rfl|assumption):wpAny M A (storeName X.env x u) Q E s:=by
 obtain⟨m,hn,hl⟩:=id I.loc
 have hcls:(X.env.scope.kind == .class || (X.env.scope.kind == .module && X.env.locals != X.env.globals))=false:=by rw[I.ok.kind];rfl
 have hiσ:i<σ.length:=by rw[I.len];exact(D3.mp hi).1
 have cne:=I.cne
 have tracked:∀ {a:Addr}{h':Heap},(∃o,s.heap.get? a=some o∧H a=none)→Heap.SameBut a s.heap h'→HOk X.prog X.w H h':=fun {a h'} ha hs b ob e=>by
  obtain⟨_,_,hfree⟩:=ha
  refine(I.hok b ob e).stay (fun c w' hc q=>(hs.2 c ?_).trans q) (fun _ q=>q) fun _ _ q=>q
  rintro rfl
  rcases hc with rfl|hc
  ·rw[hfree] at e;cases e
  ·rw[hfree] at hc;cases hc
 rcases hx with hk|hk
 ·refine wpAny_storeName_local hk hn (fun h' hn' hs=>?_) hcls
  obtain⟨oL,_,_,hoL,_⟩:=id hn
  refine h _ ⟨I.ok,I.os,I.bare,⟨fun b o e n hb hx=>?_,fun b o e n hb hx=>?_,I.base.free,fun b o e hx=>?_,I.base.tups,I.base.frzs,I.base.tbls⟩,⟨_,hn',fun j y v' e1 e2 e3=>?_⟩,fun y c e=>?_,I.free,I.freeC,fun p hp=>?_,tracked ⟨oL,hoL,I.free⟩ hs,by simpa using I.len⟩ ⟨_,hs,.inl rfl⟩
  ·exact(hs.2 b (EM (EB (D8 e) I.ok.above))).trans (I.base.keep b o e n hb hx)
  ·obtain⟨sl,e1⟩:=I.base.slot b o e n hb hx
   exact⟨sl,(hs.2 b (EM (EB (D8 e) I.ok.above))).trans e1⟩
  ·obtain⟨o',e1⟩:=I.base.there b o e hx
   exact⟨o',(hs.2 b (EM (EB (D8 e) I.ok.above))).trans e1⟩
  ·by_cases hj:j=i
   ·subst hj
    rw[hi] at e1;cases e1
    rw[EV hiσ] at e2
    cases e2
    exact⟨u,r,.inl ⟨hk,by simp⟩⟩
   ·rw[EQ (Ne.symm hj)] at e2
    obtain⟨u',r',q⟩:=hl j y v' e1 e2 e3
    refine⟨u',r',?_⟩
    rcases q with⟨k,e⟩|⟨k,c,e,z⟩
    ·refine .inl ⟨k,?_⟩
     have:y≠x:=fun e=>hj (jp hN e1 (e ▸ hi))
     simp[this,e]
    ·exact .inr ⟨k,c,e,z.sameBut hs (cne y c e)⟩
  ·obtain⟨w',z⟩:=I.cell y c e
   exact⟨w',z.sameBut hs (cne y c e)⟩
  ·obtain⟨e,n,ne,nf,d⟩:=I.pin p hp
   exact⟨(hs.2 p.1 ne).trans e,n,ne,nf,d⟩
 ·have hfn:X.fn x=true:=by
   rcases hf with z|z
   ·exact z
   ·rw[z] at hk;cases hk
  obtain⟨c,hc⟩:=I.ok.has x (.inl hk)
  obtain⟨w',z⟩:=I.cell x c hc
  refine wpAny_storeName_cell I.ok.kind hk hc z (fun h' hc' hs=>?_)
  obtain⟨oc,hoc,hocd⟩:=id z
  refine h { s with heap:=h' } ⟨I.ok,I.os,I.bare,⟨fun b o e n hb hx=>?_,fun b o e n hb hx=>?_,I.base.free,fun b o e hx=>?_,I.base.tups,I.base.frzs,I.base.tbls⟩,⟨m,hn.sameBut hs (Ne.symm (cne x c hc)),fun j y v' e1 e2 e3=>?_⟩,fun y c' e=>?_,I.free,I.freeC,fun p hp=>?_,tracked ⟨oc,hoc,I.freeC x c hc⟩ hs,by simpa using I.len⟩ ⟨c,hs,.inr hc⟩
  ·exact(hs.2 b (EM (EB (D8 e) (I.ok.cab x c hfn hc)))).trans (I.base.keep b o e n hb hx)
  ·obtain⟨sl,e1⟩:=I.base.slot b o e n hb hx
   exact⟨sl,(hs.2 b (EM (EB (D8 e) (I.ok.cab x c hfn hc)))).trans e1⟩
  ·obtain⟨o',e1⟩:=I.base.there b o e hx
   exact⟨o',(hs.2 b (EM (EB (D8 e) (I.ok.cab x c hfn hc)))).trans e1⟩
  ·by_cases hj:j=i
   ·subst hj
    rw[hi] at e1;cases e1
    rw[EV hiσ] at e2
    cases e2
    exact⟨u,r,.inr ⟨.inl hk,c,hc,hc'⟩⟩
   ·rw[EQ (Ne.symm hj)] at e2
    obtain⟨u',r',q⟩:=hl j y v' e1 e2 e3
    refine⟨u',r',?_⟩
    rcases q with q|⟨k,c',e,z'⟩
    ·exact .inl q
    ·refine .inr ⟨k,c',e,z'.sameBut hs ?_⟩
     rintro rfl
     exact hj (jp hN e1 (I.ok.inj _ _ _ e hc ▸ hi))
  ·by_cases hcc:c'=c
   ·subst hcc;exact⟨_,hc'⟩
   ·obtain⟨w2,z2⟩:=I.cell y c' e
    exact⟨w2,z2.sameBut hs hcc⟩
  ·obtain⟨e,n,ne,nf,d⟩:=I.pin p hp
   refine⟨(hs.2 p.1 ?_).trans e,n,ne,nf,d⟩
   intro q
   rw[q,hoc] at e
   have q':oc=p.2:=EU e
   exact d w' (by rw[←q'];exact hocd)
theorem cB {M:Model}{A:Around}{E:Value→Shared→Prop}{i:Nat}{x:Str}{v:V}{u:Value}{Q:Unit→Shared→Prop}(I:Inv X pins σ H s)(hN:X.N.Nodup)(hi:X.N[i]?=some x)(hx:Loc X.env.scope x)(r:RelV v u)
  (h:∀s',Inv X pins (σ.set i (some v)) H s'→Q () s') (hf:X.fn x=true∨X.env.scope.names.lookup x=some .local:=by first|exact .inl rfl|exact .inr rfl|assumption):wpAny M A (storeName X.env x u) Q E s :=
 kI I hN hi hx r (fun s' I' _=>h s' I') hf
theorem Inv.call' {s':Shared}{ch:List Addr}(I:Inv X pins σ H s)(ho:s'.os=s.os)(u:Un (frs X.stack) ch H H' s.heap s'.heap)(hok:HOk X.prog X.w H' s'.heap)(hg:AllBare s'.gens)
  (hch:∀b∈ch,(b∈X.ex∨X.s₀.heap.objs.size≤b)∧b≠X.env.locals∧(∀x c,X.env.cells.lookup x=some c→c≠b)∧∀p∈X.pn++pins,p.1≠b):Inv X pins σ H' s':=by
 obtain⟨h',g',d',t',o'⟩:=s'
 have e:o'=s.os:=ho
 subst e
 exact I.call (g':=g') (t':=t') (d':=d') u hok hg hch
end
noncomputable abbrev XK:=Value→Option Addr→Hp→Prop
noncomputable abbrev St:=List (Option V)
noncomputable abbrev VK:=V→Hp→Prop
noncomputable abbrev TE:=St→Hp→VK→Prop
noncomputable abbrev TT:=St→Hp→(Bool→Hp→Prop)→Prop
noncomputable abbrev TA:=St→Hp→(List V→Hp→Prop)→Prop
structure Ends where
 nx:St→Hp→Prop
 rt:VK
 bk:St→Hp→Prop:=fun _ _=>False
 ct:St→Hp→Prop:=fun _ _=>False
noncomputable abbrev TS:=Ends→St→Hp→Prop
def EP (X:Cx)(pins:List (Addr × Obj))(σ:St)(Q:VK)(u:Value)(s':Shared):Prop:=∃v H',Inv X pins σ H' s'∧RelV v u∧Q v H'
def TP (X:Cx)(pins:List (Addr × Obj))(σ:St)(Q:Bool→Hp→Prop)(b:Bool)(s':Shared):Prop:=∃H',Inv X pins σ H' s'∧Q b H'
def AP (X:Cx)(pins:List (Addr × Obj))(σ:St)(Q:List V→Hp→Prop)(us:List Value)(s':Shared):Prop:=∃vs H',Inv X pins σ H' s'∧Vals vs us∧Q vs H'
def SP (X:Cx)(pins:List (Addr × Obj))(D:Ends)(f:Flow)(s':Shared):Prop :=
 match f with
 | .next=>∃σ' H',Inv X pins σ' H' s'∧D.nx σ' H'
 | .brk=>∃σ' H',Inv X pins σ' H' s'∧D.bk σ' H'
 | .cont=>∃σ' H',Inv X pins σ' H' s'∧D.ct σ' H'
 | .ret u=>∃v σ' H',Inv X pins σ' H' s'∧RelV v u∧D.rt v H'
def PE (X:Cx)(e:Expr)(t:TE):Prop :=
 ∀(pins:List (Addr × Obj)) (s:Shared) (σ:St) (H:Hp) (Q:VK),Inv X pins σ H s→t σ H Q→wpAny (model X.prog X.w) X.A (eval e X.env) (EP X pins σ Q) X.xe s
def PT (X:Cx)(e:Expr)(t:TT):Prop :=
 ∀(pins:List (Addr × Obj)) (s:Shared) (σ:St) (H:Hp) (Q:Bool→Hp→Prop),Inv X pins σ H s→t σ H Q→wpAny (model X.prog X.w) X.A (isTrue e X.env (eval e X.env)) (TP X pins σ Q) X.xe s
def PW (X:Cx)(e:Expr)(t:TT):Prop :=
 ∀(whole:Sem Value) (pins:List (Addr × Obj)) (s:Shared) (σ:St) (H:Hp) (Q:Bool→Hp→Prop),Inv X pins σ H s→t σ H Q→wpAny (model X.prog X.w) X.A (isTrue e X.env whole) (TP X pins σ Q) X.xe s
theorem PW.pt {X:Cx}{e:Expr}{t:TT}(h:PW X e t):PT X e t:=h _
def PA (X:Cx)(es:List Expr)(t:TA):Prop :=
 ∀(pos:Pos) (pins:List (Addr × Obj)) (s:Shared) (σ:St) (H:Hp) (Q:List V→Hp→Prop),Inv X pins σ H s→t σ H Q→wpAny (model X.prog X.w) X.A (spliced (backTo pos (starEach es X.env))) (AP X pins σ Q) X.xe s
def PS (X:Cx)(st:Stmt)(t:TS):Prop :=
 ∀(pins:List (Addr × Obj)) (s:Shared) (σ:St) (H:Hp) (D:Ends),Inv X pins σ H s→t D σ H→wpAny (model X.prog X.w) X.A (exec st X.env) (SP X pins D) X.xe s
def PSs (X:Cx)(st:List Stmt)(t:TS):Prop :=
 ∀(pins:List (Addr × Obj)) (s:Shared) (σ:St) (H:Hp) (D:Ends),Inv X pins σ H s→t D σ H→wpAny (model X.prog X.w) X.A (execs st X.env) (SP X pins D) X.xe s
theorem thn {α:Type}{t:Sem α}{Q Q':α→Shared→Prop}{M:Model}{A:Around}{E:Value→Shared→Prop}{s:Shared}(h:wpAny M A t Q E s)(hQ:∀a s,Q a s→Q' a s):wpAny M A t Q' E s:=wpAny_mono h hQ fun _ _ x=>x
end L2
namespace L2
section
variable {X:Cx}
noncomputable def uu (i:Nat):TE:=fun σ H Q=>∃v,σ[i]?=some (some v)∧Q v H
noncomputable def tC (v:V):TE:=fun _ H Q=>Q v H
theorem jg {i:Nat}{x:Str}{pos:Pos}(hN:X.N[i]?=some x)(hv:Vis X.env.scope x)(hd:(x == ("__debug__":Str))=false:=by decide)(hcd:(x == ("__classdict__":Str))=false:=by decide):PE X (.Name x pos) (uu i):=by
 intro pins s σ H Q I h
 obtain⟨v,e,h⟩:=h
 obtain⟨m,hn,hl⟩:=I.loc
 obtain⟨u,r,l⟩:=hl i x v hN e hv
 have fin:EP X pins σ Q u s:=⟨v,H,I,r,h⟩
 rcases l with⟨hk,hm⟩|⟨hk,c,hc,hcell⟩
 ·exact wpAny_Name (wpAny_loadName_local I.ok.kind hk hn hm fin) hd
 ·rcases hk with hk|hk
  ·exact wpAny_Name (wpAny_loadName_cell I.ok.kind hk hc hcell fin) hd
  ·exact wpAny_Name (wpAny_loadName_free I.ok.kind hk hc hcell fin hcd) hd
theorem xW {i j pos}:PE X (.Constant (.int i) j pos) (tC (.int i)):=fun _ _ _ H _ I h=>wpAny_Constant_int ⟨.int i,H,I.tok _,⟨_,rfl⟩,h⟩
theorem wt {b j pos}:PE X (.Constant (.bool b) j pos) (tC (.bl b)):=fun _ _ _ H _ I h=>Constant_bool ⟨.bl b,H,I,rfl,h⟩
theorem yO {j pos}:PE X (.Constant .none j pos) (tC .non):=fun _ _ _ H _ I h=>Constant_none ⟨.non,H,I,rfl,h⟩
theorem jt {x j pos}:PE X (.Constant (.str x) j pos) (tC (.str x)):=fun _ _ _ H _ I h=>Calls.Constant_str ⟨.str x,H,I.tok _,⟨_,rfl⟩,h⟩
def Gl (X:Cx)(x:Str):Prop:=X.env.kindOf x=some .globalImplicit
theorem eU {E:Value→Shared→Prop}{pins:List (Addr × Obj)}{s:Shared}{σ:St}{H:Hp}{x:Str}{u:Value}{pos:Pos}{Q:Value→Shared→Prop}(I:Inv X pins σ H s)(hg:Gl X x)(hm:X.mg x=some u)(h:Q u s)
  (hd:(x == ("__debug__":Str))=false:=by decide):wpAny (model X.prog X.w) X.A (eval (.Name x pos) X.env) Q E s :=
 Calls.Name_function_global I.ok.kind hg (Calls.loadGlobal_global (by rw[I.ok.glob];exact I.mod.glob.keeps I.bk) hm h) hd
theorem ig {E:Value→Shared→Prop}{pins:List (Addr × Obj)}{s:Shared}{σ:St}{H:Hp}{x:Str}{u:Value}{pos:Pos}{Q:Value→Shared→Prop}(I:Inv X pins σ H s)(hg:Gl X x)(hm:X.mg x=none)(hv:bootBuiltins x=some u)(h:Q u s)
  (hn:x≠"__name__":=by decide) (hd:(x == ("__debug__":Str))=false:=by decide):wpAny (model X.prog X.w) X.A (eval (.Name x pos) X.env) Q E s:=by
 obtain⟨mb,h1,h2⟩:=I.mod.blt
 exact Calls.Name_function_global I.ok.kind hg (Calls.loadGlobal_builtin (by rw[I.ok.glob];exact I.mod.glob.keeps I.bk) hm (by rw[I.ok.blt];exact h1.keeps I.bk) ((h2 x hn).trans hv) h) hd
theorem mi {x:Str}{v:V}{u:Value}{pos:Pos}(hg:Gl X x)(hm:X.mg x=some u)(r:RelV v u)(hd:(x == ("__debug__":Str))=false:=by decide):PE X (.Name x pos) (tC v) :=
 fun _ _ _ H _ I h=>eU I hg hm ⟨v,H,I,r,h⟩ hd
theorem pM {x:Str}{v:V}{u:Value}{pos:Pos}(hg:Gl X x)(hm:X.mg x=none)(hv:bootBuiltins x=some u)(r:RelV v u)(hn:x≠"__name__":=by decide)(hd:(x == ("__debug__":Str))=false:=by decide):PE X (.Name x pos) (tC v) :=
 fun _ _ _ H _ I h=>ig I hg hm hv ⟨v,H,I,r,h⟩ hn hd
variable {a b:Expr}{ta tb:TE}{pos:Pos}
variable {tA tB':TT}{rest:List Expr}
noncomputable def BM (t u:TT):TT:=fun σ H Q=>t σ H fun c H1=>if c=true then u σ H1 Q else Q false H1
noncomputable def tOr (t u:TT):TT:=fun σ H Q=>t σ H fun c H1=>if c=true then Q true H1 else u σ H1 Q
noncomputable def Do (t:TT):TT:=fun σ H Q=>t σ H fun c H1=>Q (!c) H1
theorem uN (ha:PT X a tA):PW X (.BoolOp .And [a] pos) tA:=by
 intro wh pins s σ H Q I h
 refine isTrue_and (thn (ha pins s σ H Q I h) fun c s1 e=>?_)
 cases c with
 | true=>exact isTrue_and_nil e
 | false=>exact e
theorem xK (ha:PT X a tA):PW X (.BoolOp .Or [a] pos) tA:=by
 intro wh pins s σ H Q I h
 refine isTrue_or (thn (ha pins s σ H Q I h) fun c s1 e=>?_)
 cases c with
 | false=>exact isTrue_or_nil e
 | true=>exact e
theorem zi (ha:PT X a tA)(hb:PW X (.BoolOp .And (b::rest) pos) tB'):PW X (.BoolOp .And (a::b::rest) pos) (BM tA tB'):=by
 intro wh pins s σ H Q I h
 refine isTrue_and (thn (ha pins s σ H _ I h) fun c s1 ⟨H1,I1,q1⟩=>?_)
 cases c with
 | true=>exact hb wh pins s1 σ H1 Q I1 q1
 | false=>exact⟨H1,I1,q1⟩
theorem Bv (ha:PT X a tA)(hb:PW X (.BoolOp .Or (b::rest) pos) tB'):PW X (.BoolOp .Or (a::b::rest) pos) (tOr tA tB'):=by
 intro wh pins s σ H Q I h
 refine isTrue_or (thn (ha pins s σ H _ I h) fun c s1 ⟨H1,I1,q1⟩=>?_)
 cases c with
 | true=>exact⟨H1,I1,q1⟩
 | false=>exact hb wh pins s1 σ H1 Q I1 q1
theorem xI (ha:PT X a tA):PT X (.UnaryOp .Not a pos) (Do tA):=by
 intro pins s σ H Q I h
 exact isTrue_not (ha pins s σ H (fun c H1=>Q (!c) H1) I h)
noncomputable def AF (ta tb:TE):TE:=fun σ H Q=>ta σ H fun x H1=>∃c,x=.bl c∧if c=true then tb σ H1 Q else Q (.bl false) H1
noncomputable def Cs (ta tb:TE):TE:=fun σ H Q=>ta σ H fun x H1=>∃c,x=.bl c∧if c=true then Q (.bl true) H1 else tb σ H1 Q
noncomputable def Bh (ta:TE):TE:=fun σ H Q=>ta σ H fun x H1=>∃c,x=.bl c∧Q (.bl (!c)) H1
theorem t6 {op}{t:TE}(h:PE X a t):PE X (.BoolOp op [a] pos) t:=fun pins s σ H Q I hw=>BoolOp_one (h pins s σ H Q I hw)
theorem yJ (ha:PE X a ta)(hb:PE X (.BoolOp .And (b::rest) pos) tb):PE X (.BoolOp .And (a::b::rest) pos) (AF ta tb):=by
 intro pins s σ H Q I h
 refine BoolOp_and (thn (ha pins s σ H _ I h) fun v s1 ⟨x,H1,I1,r1,q1⟩=>?_)
 obtain⟨c,rfl,q1⟩:=q1
 cases r1
 refine wpAny_truthy_bool ?_
 cases c with
 | true=>exact hb pins s1 σ H1 Q I1 q1
 | false=>exact⟨.bl false,H1,I1,rfl,q1⟩
theorem Bl (ha:PE X a ta)(hb:PE X (.BoolOp .Or (b::rest) pos) tb):PE X (.BoolOp .Or (a::b::rest) pos) (Cs ta tb):=by
 intro pins s σ H Q I h
 refine BoolOp_or (thn (ha pins s σ H _ I h) fun v s1 ⟨x,H1,I1,r1,q1⟩=>?_)
 obtain⟨c,rfl,q1⟩:=q1
 cases r1
 refine wpAny_truthy_bool ?_
 cases c with
 | false=>exact hb pins s1 σ H1 Q I1 q1
 | true=>exact⟨.bl true,H1,I1,rfl,q1⟩
theorem wB (ha:PE X a ta):PE X (.UnaryOp .Not a pos) (Bh ta):=by
 intro pins s σ H Q I h
 refine UnaryOp_ (thn (ha pins s σ H _ I h) fun v s1 ⟨x,H1,I1,r1,q1⟩=>?_)
 obtain⟨c,rfl,q1⟩:=q1
 cases r1
 exact not_of (wpAny_truthy_bool ⟨.bl (!c),H1,I1,rfl,q1⟩)
noncomputable def tIf (t:TT)(ta tb:TE):TE:=fun σ H Q=>t σ H fun c H1=>if c=true then ta σ H1 Q else tb σ H1 Q
theorem sL {c:Expr}(hc:PT X c tA)(ha:PE X a ta)(hb:PE X b tb):PE X (.IfExp c a b pos) (tIf tA ta tb):=by
 intro pins s σ H Q I h
 refine wpAny_IfExp (thn (hc pins s σ H _ I h) fun d s1 ⟨H1,I1,q1⟩=>?_)
 cases d with
 | true=>exact ha pins s1 σ H1 Q I1 q1
 | false=>exact hb pins s1 σ H1 Q I1 q1
end
end L2
namespace L2
def SqL (K:W.Frag)(H:Hp)(a:Addr)(xs:List V):Prop :=
 Rd H a (.lst xs) ∨
  ∃(o:Obj) (its:Array Value) (n:Nat),K.lookup a=some o∧o.cls=.type "list"∧o.dict=none∧o.data=.seq its n∧its.size≤sizeLine∧Vals xs its.toList
def SqT (K:W.Frag)(H:Hp)(a:Addr)(xs:List V):Prop :=
 Rd H a (.tup xs) ∨
  ∃(o:Obj) (its:Array Value) (n:Nat),K.lookup a=some o∧o.cls=.type "tuple"∧o.data=.seq its n∧its.size≤sizeLine∧Vals xs its.toList
noncomputable def CA:Value→Option V
 | .none=>some .non
 | .bool b=>some (.bl b)
 | .int i _=>some (.int i)
 | .str x _=>some (.str x)
 | .bytes b _=>some (.byt b)
 | .float b _=>some (.flt b)
 | .ref a=>some (.ref a)
 | .type n=>some (.ty n)
 | _=>none
theorem RelV.abs {x:V}{u:Value}(r:RelV x u):CA u=some x:=by
 cases x with
 | non=>cases r;rfl
 | bl _=>cases r;rfl
 | int _=>obtain⟨t,rfl⟩:=r;rfl
 | str _=>obtain⟨t,rfl⟩:=r;rfl
 | byt _=>obtain⟨t,rfl⟩:=r;rfl
 | flt _=>obtain⟨t,rfl⟩:=r;rfl
 | ref _=>cases r;rfl
 | ty _=>cases r;rfl
theorem RelV.inj {x y:V}{u:Value}(r:RelV x u)(q:RelV y u):x=y:=EU (r.abs.symm.trans q.abs)
theorem Vals.inj:∀ {xs ys:List V}{us:List Value},Vals xs us→Vals ys us→xs=ys
 | _,_,_,.nil,.nil=>rfl
 | _,_,_,.cons r t,.cons r' t'=>by rw[r.inj r',Vals.inj t t']
section
variable {X:Cx}{pins:List (Addr × Obj)}{σ:St}{H:Hp}{s:Shared}{a:Addr}{xs ys:List V}
theorem SqL.of {K:W.Frag}(h:H a=some (.lst xs)):SqL K H a xs:=.inl (.inl h)
theorem SqT.of {K:W.Frag}(h:H a=some (.tup xs)):SqT K H a xs:=.inl (.inl h)
theorem Inv.list (I:Inv X pins σ H s)(h:SqL X.K H a xs):∃its:List Value,Vals xs its∧PlainL s.heap a its.toArray∧xs.length≤sizeLine:=by
 rcases h with h|⟨o,its,n,hk,hc,hd,hs,hz,r⟩
 ·obtain⟨z,its,n,r,e⟩:=h.ok I.hok
  exact⟨its,r,⟨_,n,e,rfl,rfl,rfl⟩,z⟩
 ·refine⟨its.toList,r,⟨o,n,I.kIn a o hk,hc,hd,by simpa using hs⟩,?_⟩
  have e:=r.length
  simp only[Array.length_toList] at e
  omega
theorem Inv.tuple (I:Inv X pins σ H s)(h:SqT X.K H a xs):∃its:List Value,Vals xs its∧IsTup s.heap a its.toArray∧xs.length≤sizeLine:=by
 rcases h with h|⟨o,its,n,hk,hc,hs,hz,r⟩
 ·obtain⟨z,its,r,p⟩:=h.ok I.hok
  exact⟨its,r,p,z⟩
 ·refine⟨its.toList,r,⟨o,I.kIn a o hk,hc,n,by simpa using hs⟩,?_⟩
  have e:=r.length
  simp only[Array.length_toList] at e
  omega
theorem Inv.list_inj (I:Inv X pins σ H s)(h:SqL X.K H a xs)(h':SqL X.K H a ys):xs=ys:=by
 obtain⟨its,r,⟨o,n,e,_,_,d⟩,_⟩:=I.list h
 obtain⟨its',r',⟨o',n',e',_,_,d'⟩,_⟩:=I.list h'
 rw[e] at e';cases e'
 rw[d] at d'
 injection d' with d1 _
 have:its=its':=by simpa using ES Array.toList d1
 subst this
 exact r.inj r'
theorem Inv.tuple_inj (I:Inv X pins σ H s)(h:SqT X.K H a xs)(h':SqT X.K H a ys):xs=ys:=by
 obtain⟨its,r,⟨o,e,_,n,d⟩,_⟩:=I.tuple h
 obtain⟨its',r',⟨o',e',_,n',d'⟩,_⟩:=I.tuple h'
 rw[e] at e';cases e'
 rw[d] at d'
 injection d' with d1 _
 have:its=its':=by simpa using ES Array.toList d1
 subst this
 exact r.inj r'
end
noncomputable abbrev Cx.wish (X:Cx)(E:Value→Shared→Prop):Cx:={ X with xe:=E }
noncomputable abbrev Cx.nox (X:Cx):Cx:=X.wish fun _ _=>False
theorem Cx.Ok.wish {X:Cx}(ok:X.Ok)(E:Value→Shared→Prop):(X.wish E).Ok :=
 ⟨ok.mod,ok.kind,ok.glob,ok.blt,ok.above,ok.inj,ok.has,ok.cab,ok.hd,ok.frames,ok.stk,ok.exf,ok.bs,ok.bsz,ok.noex,ok.exfs,ok.funs,ok.frf⟩
theorem Cx.Ok.unwish {X:Cx}{E:Value→Shared→Prop}(ok:(X.wish E).Ok):X.Ok :=
 ⟨ok.mod,ok.kind,ok.glob,ok.blt,ok.above,ok.inj,ok.has,ok.cab,ok.hd,ok.frames,ok.stk,ok.exf,ok.bs,ok.bsz,ok.noex,ok.exfs,ok.funs,ok.frf⟩
section
variable {X:Cx}{pins:List (Addr × Obj)}{σ:St}{H:Hp}{s:Shared}{E:Value→Shared→Prop}
theorem Inv.wish (I:Inv X pins σ H s)(E:Value→Shared→Prop):Inv (X.wish E) pins σ H s:=⟨I.ok.wish E,I.os,I.bare,I.base,I.loc,I.cell,I.free,I.freeC,I.pin,I.hok,I.len⟩
theorem Inv.unwish (I:Inv (X.wish E) pins σ H s):Inv X pins σ H s:=⟨I.ok.unwish,I.os,I.bare,I.base,I.loc,I.cell,I.free,I.freeC,I.pin,I.hok,I.len⟩
theorem SP.unwish {D:Ends}{f:Flow}{s':Shared}(h:SP (X.wish E) pins D f s'):SP X pins D f s':=by
 cases f with
 | next=>obtain⟨σ',H',I,q⟩:=h;exact⟨σ',H',I.unwish,q⟩
 | brk=>obtain⟨σ',H',I,q⟩:=h;exact⟨σ',H',I.unwish,q⟩
 | cont=>obtain⟨σ',H',I,q⟩:=h;exact⟨σ',H',I.unwish,q⟩
 | ret u=>obtain⟨v,σ',H',I,r,q⟩:=h;exact⟨v,σ',H',I.unwish,r,q⟩
theorem PSs.nox {st:List Stmt}{t:TS}(h:PSs X.nox st t):PSs X st t:=fun pins s σ H D I hw =>
 wpAny_mono (h pins s σ H D (I.wish _) hw) (fun _ _ q=>q.unwish) fun _ _ z=>False.elim z
end
section
variable {X:Cx}{st:Stmt}{rest:List Stmt}{t u:TS}{e:Expr}{te:TE}{pos:Pos}
noncomputable def wu:TS:=fun D σ H=>D.nx σ H
noncomputable def DG (t u:TS):TS:=fun D σ H=>t { D with nx:=u D } σ H
theorem o7:PSs X [] wu:=fun _ _ σ H _ I h=>wpAny_execs_nil ⟨σ,H,I,h⟩
theorem jo (h1:PS X st t)(h2:PSs X rest u):PSs X (st::rest) (DG t u):=by
 intro pins s σ H D I h
 refine wpAny_execs_cons (thn (h1 pins s σ H { D with nx:=u D } I h) fun f s1 q=>?_)
 cases f with
 | next =>
  obtain⟨σ',H',I',q⟩:=q
  exact h2 pins s1 σ' H' D I' q
 | ret v=>exact q
 | brk=>exact q
 | cont=>exact q
noncomputable def xD:TS:=fun D σ H=>D.bk σ H
noncomputable def Bd:TS:=fun D σ H=>D.ct σ H
theorem u3:PS X (.Pass pos) wu:=fun _ _ σ H _ I h=>wpAny_Pass ⟨σ,H,I,h⟩
theorem q5:PS X (.Break pos) xD:=fun _ _ σ H _ I h=>wpAny_Break ⟨σ,H,I,h⟩
theorem m5:PS X (.Continue pos) Bd:=fun _ _ σ H _ I h=>wpAny_Continue ⟨σ,H,I,h⟩
theorem Inv.quiet {pins:List (Addr × Obj)}{σ:St}{H:Hp}{s:Shared}(I:Inv X pins σ H s):interactive X.env=false:=by simp[interactive,I.ok.kind]
noncomputable def Aw (te:TE):TS:=fun D σ H=>te σ H fun _ H1=>D.nx σ H1
theorem uR (he:PE X e te)(hs:swapsWith e none pos.line X.env=pure false:=by rfl):PS X (.Expr e pos) (Aw te):=by
 intro pins s σ H D I h
 exact wpAny_Expr_any (thn (he pins s σ H _ I h) fun v s1 ⟨x,H1,I1,r1,q1⟩=>⟨σ,H1,I1,q1⟩) I.quiet hs
noncomputable def Du (te:TE):TS:=fun D σ H=>te σ H D.rt
theorem zD (he:PE X e te):PS X (.Return (some e) pos) (Du te):=by
 intro pins s σ H D I h
 exact wpAny_Return_some (thn (he pins s σ H _ I h) fun v s1 ⟨x,H1,I1,r1,q1⟩=>⟨x,σ,H1,I1,r1,q1⟩)
noncomputable def AB:TS:=fun D _ H=>D.rt .non H
theorem uV:PS X (.Return none pos) AB:=fun _ _ σ H _ I h=>wpAny_Return_none ⟨.non,σ,H,I,rfl,h⟩
noncomputable def Da (c:TT)(t u:TS):TS:=fun D σ H=>c σ H fun b H1=>if b=true then t D σ H1 else u D σ H1
theorem Ai {c:Expr}{a b:List Stmt}{tc:TT}(hc:PT X c tc)(ha:PSs X a t)(hb:PSs X b u):PS X (.If c a b pos) (Da tc t u):=by
 intro pins s σ H D I h
 refine wpAny_If (thn (hc pins s σ H _ I h) fun d s1 ⟨H1,I1,q1⟩=>?_)
 cases d with
 | true=>exact ha pins s1 σ H1 D I1 q1
 | false=>exact hb pins s1 σ H1 D I1 q1
end
noncomputable abbrev TG:=V→St→Hp→(St→Hp→Prop)→Prop
noncomputable abbrev TGs:=List V→St→Hp→(St→Hp→Prop)→Prop
def PG (X:Cx)(target:Expr)(t:TG):Prop :=
 ∀(pins:List (Addr × Obj)) (s:Shared) (σ:St) (H:Hp) (v:V) (u:Value) (Q:St→Hp→Prop),Inv X pins σ H s→RelV v u→t v σ H Q →
  wpAny (model X.prog X.w) X.A (assign target X.env u) (fun _ s'=>∃σ' H',Inv X pins σ' H' s'∧Q σ' H') X.xe s
def PGs (X:Cx)(ts:List Expr)(t:TGs):Prop :=
 ∀(pins:List (Addr × Obj)) (s:Shared) (σ:St) (H:Hp) (vs:List V) (us:List Value) (Q:St→Hp→Prop),Inv X pins σ H s→Vals vs us→t vs σ H Q →
  wpAny (model X.prog X.w) X.A (assignInOrder ((assignEach ts X.env).map (·.2)) us) (fun _ s'=>∃σ' H',Inv X pins σ' H' s'∧Q σ' H') X.xe s
noncomputable abbrev wJ:=V→V→V→Hp→(Hp→Prop)→Prop
def zc (X:Cx)(t:wJ):Prop :=
 ∀(pins:List (Addr × Obj)) (s:Shared) (σ:St) (H:Hp) (o i v:V) (ov iv u:Value) (Q:Hp→Prop),Inv X pins σ H s→RelV o ov→RelV i iv→RelV v u→t o i v H Q →
  wpAny (model X.prog X.w) X.A (setItem ov iv u) (fun _ s'=>∃H',Inv X pins σ H' s'∧Q H') X.xe s
noncomputable abbrev TIp:=V→V→Hp→VK→Prop
def PIp (X:Cx)(op:Operator)(t:TIp):Prop :=
 ∀(pins:List (Addr × Obj)) (s:Shared) (σ:St) (H:Hp) (x y:V) (v u:Value) (Q:VK),Inv X pins σ H s→RelV x v→RelV y u→t x y H Q →
  wpAny (model X.prog X.w) X.A (inplaceOp op v u) (EP X pins σ Q) X.xe s
section
variable {X:Cx}{pos:Pos}
noncomputable def we (i:Nat):TG:=fun v σ H Q=>Q (σ.set i (some v)) H
theorem uq {i:Nat}{x:Str}(hN:X.N.Nodup)(hi:X.N[i]?=some x)(hx:Loc X.env.scope x)(hf:X.fn x=true∨X.env.scope.names.lookup x=some .local:=by first|exact .inl rfl|exact .inr rfl|assumption):PG X (.Name x pos) (we i):=by
 intro pins s σ H v u Q I r h
 exact wpAny_assign_Name (cB I hN hi hx r (fun s' I'=>⟨_,H,I',h⟩) hf)
noncomputable def C7:TGs:=fun vs σ H Q=>vs=[]∧Q σ H
noncomputable def zN (t:TG)(u:TGs):TGs:=fun vs σ H Q=>∃v r,vs=v::r∧t v σ H fun σ' H'=>u r σ' H' Q
theorem uX:PGs X [] C7:=by
 intro pins s σ H vs us Q I r h
 obtain⟨e,h⟩:=h
 subst e
 cases r
 exact assignInOrder_nil ⟨σ,H,I,h⟩
theorem rV {e:Expr}{es:List Expr}{t:TG}{u:TGs}(h1:PG X e t)(h2:PGs X es u)
  (hs:(assignEach (e::es) X.env).map (·.2)=assign e X.env::(assignEach es X.env).map (·.2):=by rfl):PGs X (e::es) (zN t u):=by
 intro pins s σ H vs us Q I r h
 obtain⟨v,vr,e1,h⟩:=h
 subst e1
 cases r with
 | cons r rr =>
  rw[hs]
  refine assignInOrder_cons (thn (h1 pins s σ H _ _ _ I r h) fun _ s1 ⟨σ1,H1,I1,q1⟩=>?_)
  exact h2 pins s1 σ1 H1 _ _ Q I1 rr q1
noncomputable def DN (K:W.Frag)(n:Nat)(t:TGs):TG:=fun v σ H Q=>∃a xs,v=.ref a∧SqT K H a xs∧xs.length=n∧t xs σ H Q
theorem zl {es:List Expr}{k:Nat}{t:TGs}{n:Nat}(hc:X.calm=true)(h:PGs X es t)
  (hn:(assignEach es X.env).length=n:=by rfl) (hst:(assignEach es X.env).findIdx? (·.1)=none:=by rfl):PG X (.Tuple es k pos) (DN X.K n t):=by
 intro pins s σ H v u Q I r hw
 obtain⟨a,xs,e1,hq,hl,hw⟩:=hw
 subst e1
 cases r
 obtain⟨its,rv,ht,hz⟩:=I.tuple hq
 refine assign_Tuple_tuple (I.ok.hd hc) ht (by simp[hn,←hl,rv.length]) hst fun h' hx=>?_
 have I1:Inv X pins σ H { s with heap:=h' }:=I.kept (t':=s.toks) fun b o e=>hx b o (EM (D8 e)) e
 exact h pins _ σ H xs _ Q I1 (by simpa using rv) hw
noncomputable def CZ (to ti:TE)(t:wJ):TG:=fun v σ H Q=>to σ H fun o H1=>ti σ H1 fun i H2=>t o i v H2 fun H3=>Q σ H3
theorem yy {o i:Expr}{to ti:TE}{t:wJ}(ho:PE X o to)(hi:PE X i ti)(hs:zc X t)
  (ha:∀v,assign (.Subscript o i pos) X.env v=(do
   let ov ←holding [v] (eval o X.env)
   let iv ←holding [v,ov] (eval i X.env)
   standAt pos
   holding [v,ov,iv] (setItem ov iv v)
   release [v,ov,iv] []):=by intro _;rfl):PG X (.Subscript o i pos) (CZ to ti t):=by
 intro pins s σ H v u Q I r h
 rw[ha]
 refine D4 (FV (thn (ho pins s σ H _ I h) fun ov s1 ⟨x,H1,I1,r1,q1⟩=>?_))
 refine D4 (FV (thn (hi pins s1 σ H1 _ I1 q1) fun iv s2 ⟨y,H2,I2,r2,q2⟩=>?_))
 refine D4 (wpAny_standAt (D4 (FV (thn (hs pins s2 σ H2 x y v ov iv u _ I2 r1 r2 r q2) fun _ s3 ⟨H3,I3,q3⟩=>?_))))
 exact wpAny_release ⟨σ,H3,I3,q3⟩
noncomputable def uB (te:TE)(g:TG):TS:=fun D σ H=>te σ H fun x H1=>g x σ H1 D.nx
theorem jC {tg e:Expr}{te:TE}{g:TG}(he:PE X e te)(hg:PG X tg g)(hs:swapsWithSole [tg] e pos.line X.env=pure false:=by rfl)(hw:swappedStores [tg] e X.env=pure none:=by rfl)
  (h1:(assignEach [tg] X.env).map (·.2)=[assign tg X.env]:=by rfl):PS X (.Assign [tg] e pos) (uB te g):=by
 intro pins s σ H D I h
 refine wpAny_Assign_stores (thn (he pins s σ H _ I h) fun v s1 ⟨x,H1,I1,r1,q1⟩=>?_) hs hw
 rw[h1]
 exact thn (hg pins s1 σ H1 x v _ I1 r1 q1) fun _ s2 q=>q
theorem gU {i:Nat}{x:Str}{e:Expr}{te:TE}{pos':Pos}(hN:X.N.Nodup)(hi:X.N[i]?=some x)(hx:Loc X.env.scope x)(he:PE X e te)(hs:swapsWith e (some (.Name x pos')) pos.line X.env=pure false:=by rfl)(hf:X.fn x=true∨X.env.scope.names.lookup x=some .local:=by first|exact .inl rfl|exact .inr rfl|assumption) :
  PS X (.Assign [.Name x pos'] e pos) (uB te (we i)):=by
 intro pins s σ H D I h
 refine wpAny_Assign_Name (thn (he pins s σ H _ I h) fun v s1 ⟨y,H1,I1,r1,q1⟩=>?_) hs
 exact cB I1 hN hi hx r1 (fun s2 I2=>⟨_,H1,I2,q1⟩) hf
noncomputable def Ct (i j:Nat)(ta:TA):TS:=fun D σ H=>ta σ H fun vs H1=>∃v w,vs=[v,w]∧D.nx ((σ.set i (some v)).set j (some w)) H1
theorem yx {i j:Nat}{x y:Str}{a b:Expr}{ta:TA}{px py pt:Pos}{kt k2 pt2}(hc:X.calm=true)(hN:X.N.Nodup)(hi:X.N[i]?=some x)(hj:X.N[j]?=some y)(hij:i≠j)
  (hx:X.env.scope.names.lookup x=some .local) (hy:X.env.scope.names.lookup y=some .local) (ha:PA X [a,b] ta)
  (hw:swappedStores [.Tuple [.Name x px,.Name y py] kt pt] (.Tuple [a,b] k2 pt2) X.env=pure (some [x,y]))
  (hs:swapsWithSole [.Tuple [.Name x px,.Name y py] kt pt] (.Tuple [a,b] k2 pt2) pos.line X.env=pure false:=by rfl) :
  PS X (.Assign [.Tuple [.Name x px,.Name y py] kt pt] (.Tuple [a,b] k2 pt2) pos) (Ct i j ta):=by
 intro pins s σ H D I h
 rw[exec_Assign_arm]
 refine D4 (wpAny_standAt ?_)
 rw[hs]
 refine D4 (EG ?_)
 rw[D_ (by decide)]
 refine D4 (Tuple_ (thn (ha _ pins s σ H _ I h) fun us s1 ⟨vs,H1,I1,r1,q1⟩=>?_))
 obtain⟨v,w,e1,q1⟩:=q1
 subst e1
 obtain⟨u1,u2,rfl,rv,rw'⟩:∃u1 u2,us=[u1,u2]∧RelV v u1∧RelV w u2:=by
  cases r1 with
  | cons p q =>
   cases q with
   | cons p' q' =>
    cases q'
    exact⟨_,_,rfl,p,p'⟩
 refine wpAny_newObj_type ?_ (by show 2≤sizeLine;decide)
 have I2:Inv X pins σ H1 { s1 with heap:=s1.heap.push { cls:=.type "tuple",data:=.seq [u1,u2].toArray } }:=I1.kept (t':=s1.toks) fun b o e=>D5 _ e
 rw[hw]
 refine D4 (EG ?_)
 show wpAny (model X.prog X.w) X.A (do rule "assign.swapped-stores";let items ←unpackItems (.ref s1.heap.objs.size) 2 none;assignInOrder [fun v=>bindName X.env y v,fun v=>bindName X.env x v] items.reverse;pure Flow.next) _ _ _
 refine D4 (wpAny_rule (D4 (unpackItems_tuple (items:=#[u1,u2]) (I.ok.hd hc) (IsTup.new s1.heap _) fun h' hx'=>?_)))
 have I3:=I2.kept (h':=h') (t':=s1.toks) fun b o e=>hx' b o (EM (D8 e)) e
 show wpAny _ _ (assignInOrder [fun v=>bindName X.env y v,fun v=>bindName X.env x v] [u2,u1] >>= fun _=>pure Flow.next) _ _ _
 refine D4 (assignInOrder_cons (wpAny_bindName (cB I3 hN hj (.inl hy) rw' (fun s2 I4=>?_) (.inr hy))))
 refine assignInOrder_cons (wpAny_bindName (cB I4 hN hi (.inl hx) rv (fun s3 I5=>assignInOrder_nil (EG ?_)) (.inr hx)))
 rw[List.set_comm _ _ (Ne.symm hij)] at I5
 exact⟨_,H1,I5,q1⟩
noncomputable def DQ (i:Nat)(te:TE)(ti:TIp):TS:=fun D σ H=>∃x,σ[i]?=some (some x)∧te σ H fun y H1=>ti x y H1 fun z H2=>D.nx (σ.set i (some z)) H2
theorem xh {i:Nat}{x:Str}{e:Expr}{te:TE}{op:Operator}{ti:TIp}{pos':Pos}(hN:X.N.Nodup)(hi:X.N[i]?=some x)(hx:Loc X.env.scope x)(he:PE X e te)(ho:PIp X op ti)(hf:X.fn x=true∨X.env.scope.names.lookup x=some .local:=by first|exact .inl rfl|exact .inr rfl|assumption) :
  PS X (.AugAssign (.Name x pos') op e pos) (DQ i te ti):=by
 intro pins s σ H D I h
 obtain⟨v,e1,h⟩:=h
 obtain⟨m,hn,hl⟩:=I.loc
 have vis:Vis X.env.scope x:=by rcases hx with k|k;exact .inl k;exact .inr (.inl k)
 obtain⟨u,r,l⟩:=hl i x v hi e1 vis
 refine wpAny_AugAssign_Name ?_
 have go:wpAny (model X.prog X.w) X.A (eval e X.env) (fun w s₂=>wpAny (model X.prog X.w) X.A (inplaceOp op u w) (fun r s₃=>wpAny (model X.prog X.w) X.A (storeName X.env x r) (fun _=>SP X pins D .next) X.xe s₃) X.xe s₂) X.xe s:=by
  refine thn (he pins s σ H _ I h) fun w s1 ⟨y,H1,I1,r1,q1⟩=>?_
  refine thn (ho pins s1 σ H1 v y u w _ I1 r r1 q1) fun z s2 ⟨zv,H2,I2,r2,q2⟩=>?_
  exact cB I2 hN hi hx r2 (fun s3 I3=>⟨_,H2,I3,q2⟩) hf
 rcases l with⟨hk,hm⟩|⟨hk,c,hc,hcell⟩
 ·exact wpAny_loadName_local I.ok.kind hk hn hm go
 ·rcases hk with hk|hk
  ·exact wpAny_loadName_cell I.ok.kind hk hc hcell go
  ·rcases hx with k|k
   ·have:X.env.scope.names.lookup x=some .free:=hk
    rw[k] at this;cases this
   ·have:X.env.scope.names.lookup x=some .free:=hk
    rw[k] at this;cases this
noncomputable def ipI (f:Int→Int→Int):TIp:=fun x y H Q=>∃i j,x=.int i∧y=.int j∧Q (.int (f i j)) H
theorem yM:PIp X .Add (ipI fun i j=>i+j):=by
 intro pins s σ H x y v u Q I r1 r2 h
 obtain⟨i,j,e1,e2,q⟩:=h
 subst e1;subst e2
 obtain⟨t,rfl⟩:=r1
 obtain⟨t',rfl⟩:=r2
 exact iadd_int ⟨.int _,H,I.tok _,⟨_,rfl⟩,q⟩
theorem xJ:PIp X .Sub (ipI fun i j=>i-j):=by
 intro pins s σ H x y v u Q I r1 r2 h
 obtain⟨i,j,e1,e2,q⟩:=h
 subst e1;subst e2
 obtain⟨t,rfl⟩:=r1
 obtain⟨t',rfl⟩:=r2
 exact isub_int ⟨.int _,H,I.tok _,⟨_,rfl⟩,q⟩
end
section
variable {X:Cx}{pos:Pos}
noncomputable def sx (c:TT)(tb:TS):TS:=fun D σ H=>∃W:Nat→St→Hp→Prop,(∃m,W m σ H)∧∀m σ H,W m σ H →
 c σ H fun b H1=>if b=true then ∃N:St→Hp→Prop,(∀σ' H',N σ' H'→∃m',m'<m∧W m' σ' H')∧tb { D with nx:=N,ct:=N,bk:=D.nx } σ H1 else D.nx σ H1
theorem q9 {c:Expr}{body:List Stmt}{tc:TT}{tb:TS}(hp:PassesOwn (model X.prog X.w) X.A X.env X.xe)(hc:PT X c tc)(hb:PSs X body tb):PS X (.While c body [] pos) (sx tc tb):=by
 intro pins s σ H D I h
 obtain⟨W,⟨m0,w0⟩,turn⟩:=h
 refine wpAny_While (codeAny_whileLoop (fun n s'=>∃σ' H',Inv X pins σ' H' s'∧W n σ' H') ?_ m0 ⟨σ,H,I,w0⟩)
 rintro n s1 ⟨σ1,H1,I1,w1⟩
 refine wpAny_passesOwn hp (thn (hc pins s1 σ1 H1 _ I1 (turn n σ1 H1 w1)) fun b s2 ⟨H2,I2,q2⟩=>?_)
 cases b with
 | true =>
  obtain⟨N,hN,q2⟩:=q2
  rw[D9 rfl]
  refine wpAny_passesOwn hp (thn (hb pins s2 σ1 H2 _ I2 q2) fun f s3 q3=>?_)
  cases f with
  | next =>
   obtain⟨σ3,H3,I3,n3⟩:=q3
   obtain⟨m',hm,w3⟩:=hN σ3 H3 n3
   exact⟨m',hm,σ3,H3,I3,w3⟩
  | cont =>
   obtain⟨σ3,H3,I3,n3⟩:=q3
   obtain⟨m',hm,w3⟩:=hN σ3 H3 n3
   exact⟨m',hm,σ3,H3,I3,w3⟩
  | brk=>exact q3
  | ret v=>exact q3
 | false =>
  rw[D_ D1]
  exact wpAny_execs_nil ⟨σ1,H2,I2,q2⟩
end
structure It where
 go:Nat→Hp→Prop
 yld:Nat→Hp→V→Hp→Prop
 stop:Nat→Hp→Prop
def iI (X:Cx)(pins:List (Addr × Obj))(H:Hp)(b:Addr):Prop :=
 H b=none∧b≠X.env.locals∧b ∉ X.fs∧(b∈X.ex∨X.s₀.heap.objs.size≤b)∧(∀x c,X.env.cells.lookup x=some c→c≠b)∧∀p∈X.pn++pins,p.1≠b
theorem Inv.fpOk {X:Cx}{pins:List (Addr × Obj)}{σ:St}{H H':Hp}{s:Shared}{b:Addr}(I:Inv X pins σ H s)(hb:s.heap.objs.size≤b)(hn:H' b=none):iI X pins H' b:=by
 refine⟨hn,F_ (EB I.lt hb),I.nofs hb,.inr (EX I.sz hb),fun x c e z=>?_,fun p hp z=>?_⟩
 ·obtain⟨v,q⟩:=I.cell x c e
  exact absurd (EB q.lt (by rw[z];exact hb)) (F5 _)
 ·exact absurd (EB (D8 (I.pin p hp).1) (by rw[z];exact hb)) (F5 _)
structure nL (P:Program)(w:World)(K:W.Frag)(tg:Expr)(J:It)(fp:List Addr)(it:Addr)(tn:Nat→Heap→Prop):Prop where
 mem:it∈fp
 obj:∀i h,tn i h→∀b∈fp,∃o,h.get? b=some o∧∀v,o.data≠.cell v
 keep:∀i h h',tn i h→(∀b∈fp,∀o,h.get? b=some o→h'.get? b=some o)→tn i h'
 item:∀(X:Cx),X.prog=P→X.w=w→X.K=K→X.calm=true→∀(i:Nat) (pins:List (Addr × Obj)) (s:Shared) (σ:St) (H:Hp) (E:Value→Shared→Prop),Inv X pins σ H s→(∀b∈fp,iI X pins H b)→tn i s.heap→J.go i H →
  wpAny (model P w) X.A (pyNext (.ref it)) (fun r s1=>∃u,r=some u ∧
   wpAny (model P w) X.A (letOwnedTupleGo tg (.ref it) u) (fun _ s2=>∃x H',Inv X pins σ H' s2∧RelV x u∧J.yld i H x H'∧tn (i+1) s2.heap∧∀b∈fp,H' b=none) E s1) E s
 done:∀(X:Cx),X.prog=P→X.w=w→X.K=K→X.calm=true→∀(i:Nat) (pins:List (Addr × Obj)) (s:Shared) (σ:St) (H:Hp) (E:Value→Shared→Prop),Inv X pins σ H s→(∀b∈fp,iI X pins H b)→tn i s.heap→J.stop i H →
  wpAny (model P w) X.A (pyNext (.ref it)) (fun r s1=>r=none∧Inv X pins σ H s1) E s
 self:∀(A:Around) (i:Nat) (s:Shared) (Q:Value→Shared→Prop) (E:Value→Shared→Prop),tn i s.heap→Q (.ref it) s→wpAny (model P w) A (pyIter (.ref it)) Q E s
noncomputable abbrev TI:=St→Hp→(It→Hp→Prop)→Prop
def PIE (X:Cx)(pins:List (Addr × Obj))(σ:St)(tg:Expr)(R:It→Hp→Prop)(itv:Value)(s2:Shared):Prop :=
 ∃(it:Addr) (fp:List Addr) (tn:Nat→Heap→Prop) (J:It) (H':Hp),itv=.ref it∧Inv X pins σ H' s2∧nL X.prog X.w X.K tg J fp it tn∧tn 0 s2.heap∧(∀b∈fp,iI X pins H' b)∧R J H'
def PI (X:Cx)(tg iter:Expr)(wi:TI):Prop :=
 ∀(pins:List (Addr × Obj)) (s:Shared) (σ:St) (H:Hp) (R:It→Hp→Prop),Inv X pins σ H s→wi σ H R →
  wpAny (model X.prog X.w) X.A (eval iter X.env) (fun v s1=>wpAny (model X.prog X.w) X.A (pyIter v) (PIE X pins σ tg R) X.xe s1) X.xe s
theorem kr {M:Model}{A:Around}{E:Value→Shared→Prop}{s:Shared}{tg:Expr}{it:Addr}{u:Value}{o:Obj}{n:String}{vs:Array Value}{Q:Unit→Shared→Prop}(ho:s.heap.get? it=some o)(hc:o.cls=.type n)(hd:o.data=.fields vs)
  (hn:["enumerate","zip","dict_itemiterator","dict_reverseitemiterator","odict_iterator","itertools.zip_longest","itertools.pairwise"].contains n=false) (hQ:Q () s):wpAny M A (letOwnedTupleGo tg (.ref it) u) Q E s:=by
 unfold letOwnedTupleGo
 cases tg <;> first
  | exact EG hQ
  | (cases u <;> first
    | exact EG hQ
    | (refine D4 (wpAny_load ho ?_)
       rw[hc,hd]
       show wpAny M A (if (["enumerate","zip","dict_itemiterator","dict_reverseitemiterator","odict_iterator","itertools.zip_longest","itertools.pairwise"].contains n && vs[0]? == some (rawInt _))=true then _ else _) Q E s
       rw[D_ (by intro h;rw[hn,Bool.false_and] at h;cases h)]
       exact EG hQ))
noncomputable def Itl (K:W.Frag)(a:Addr):It :=
 ⟨fun i H=>∃xs x,SqL K H a xs∧xs[i]?=some x,fun i H x H'=>H'=H∧∀xs,SqL K H a xs→xs[i]?=some x,fun i H=>∃xs,SqL K H a xs∧xs.length≤i⟩
noncomputable def Itt (K:W.Frag)(a:Addr):It :=
 ⟨fun i H=>∃xs x,SqT K H a xs∧xs[i]?=some x,fun i H x H'=>H'=H∧∀xs,SqT K H a xs→xs[i]?=some x,fun i H=>∃xs,SqT K H a xs∧xs.length≤i⟩
noncomputable def Itr (lo:Int)(n:Nat):It:=⟨fun i _=>i<n,fun i H x H'=>H'=H∧x=.int (lo+i),fun i _=>n≤i⟩
theorem qC {P:Program}{w:World}{K:W.Frag}{tg:Expr}(a it:Addr):nL P w K tg (Itl K a) [it] it (fun i h=>h.IsListIter it a i) where
 mem:=by simp
 obj:=fun i h st b hb=>by
  have e:b=it:=by simpa using hb
  subst e
  obtain⟨o,e,c,d⟩:=st
  exact⟨o,e,fun v z=>by rw[d] at z;cases z⟩
 keep:=fun i h h' st k=>st.at fun o e=>k it (by simp) o e
 item:=by
  intro X hP hw hK hc i pins s σ H E I hf st hg
  subst hP hw hK
  obtain⟨xs,x,hq,hx⟩:=hg
  obtain⟨its,rv,p,hz⟩:=I.list hq
  obtain⟨u,hu,ru⟩:=rv.get hx
  obtain⟨f0,f1,f2,f3,f4,f5⟩:=hf it (by simp)
  refine wpAny_pyNext_list_item st p.isList (x:=u) (by simpa using hu) fun h' st' sb=>?_
  have I1:Inv X pins σ H { s with heap:=h' }:=I.turned (t':=s.toks) (fun b o hb e=>(sb.2 b hb).trans e) f0 f1 f3 f4 f5
  obtain⟨o,e,c,d⟩:=id st'
  exact⟨u,rfl,kr (s:={ s with heap:=h' }) e c d (by decide) ⟨x,H,I1,ru,⟨rfl,fun ys hy=>by rw[I.list_inj hy hq];exact hx⟩,st',fun b hb=>(hf b hb).1⟩⟩
 done:=by
  intro X hP hw hK hc i pins s σ H E I hf st hg
  subst hP hw hK
  obtain⟨xs,hq,hx⟩:=hg
  obtain⟨its,rv,p,hz⟩:=I.list hq
  obtain⟨f0,f1,f2,f3,f4,f5⟩:=hf it (by simp)
  have hl:=rv.length
  exact wpAny_pyNext_list_end (I.ok.hd hc) st p.isList (by simp;omega) fun h' eb=>⟨rfl,I.turned (t':=s.toks) (fun b o hb e=>eb b o hb e) f0 f1 f3 f4 f5⟩
 self:=fun _ _ _ _ _ st h=>wpAny_pyIter_listiter st h
theorem oH {P:Program}{w:World}{K:W.Frag}{tg:Expr}(a it:Addr):nL P w K tg (Itt K a) [it] it (fun i h=>h.IsTupleIter it a i) where
 mem:=by simp
 obj:=fun i h st b hb=>by
  have e:b=it:=by simpa using hb
  subst e
  obtain⟨o,e,c,d⟩:=st
  exact⟨o,e,fun v z=>by rw[d] at z;cases z⟩
 keep:=fun i h h' st k=>st.at fun o e=>k it (by simp) o e
 item:=by
  intro X hP hw hK hc i pins s σ H E I hf st hg
  subst hP hw hK
  obtain⟨xs,x,hq,hx⟩:=hg
  obtain⟨its,rv,p,hz⟩:=I.tuple hq
  obtain⟨u,hu,ru⟩:=rv.get hx
  obtain⟨f0,f1,f2,f3,f4,f5⟩:=hf it (by simp)
  refine wpAny_pyNext_tuple_item st (show s.heap.IsTuple a its.toArray from p) (x:=u) (by simpa using hu) fun h' st' sb=>?_
  have I1:Inv X pins σ H { s with heap:=h' }:=I.turned (t':=s.toks) (fun b o hb e=>(sb.2 b hb).trans e) f0 f1 f3 f4 f5
  obtain⟨o,e,c,d⟩:=id st'
  exact⟨u,rfl,kr (s:={ s with heap:=h' }) e c d (by decide) ⟨x,H,I1,ru,⟨rfl,fun ys hy=>by rw[I.tuple_inj hy hq];exact hx⟩,st',fun b hb=>(hf b hb).1⟩⟩
 done:=by
  intro X hP hw hK hc i pins s σ H E I hf st hg
  subst hP hw hK
  obtain⟨xs,hq,hx⟩:=hg
  obtain⟨its,rv,p,hz⟩:=I.tuple hq
  obtain⟨f0,f1,f2,f3,f4,f5⟩:=hf it (by simp)
  have hl:=rv.length
  exact wpAny_pyNext_tuple_end (I.ok.hd hc) st (show s.heap.IsTuple a its.toArray from p) (by simp;omega) fun h' eb=>⟨rfl,I.turned (t':=s.toks) (fun b o hb e=>eb b o hb e) f0 f1 f3 f4 f5⟩
 self:=fun _ _ _ _ _ st h=>wpAny_pyIter_tupleiter st h
theorem oN {P:Program}{w:World}{K:W.Frag}{tg:Expr}(it:Addr)(lo:Int)(n:Nat):nL P w K tg (Itr lo n) [it] it (fun i h=>IsRangeIter h it (lo+(i:Nat)*1) ((n:Int)-(i:Nat)) 1) where
 mem:=by simp
 obj:=fun i h st b hb=>by
  have e:b=it:=by simpa using hb
  subst e
  exact⟨_,st,fun v z=>by
   have z':Data.fields _=Data.cell v:=z
   cases z'⟩
 keep:=fun i h h' st k=>k it (by simp) _ st
 item:=by
  intro X hP hw hK hc i pins s σ H E I hf st hg
  subst hP hw hK
  obtain⟨f0,f1,f2,f3,f4,f5⟩:=hf it (by simp)
  have W:=Walks.range (prog:=X.prog) (w:=X.w) (I.ok.hd hc) it lo 1 n
  refine W.item i s _ _ hg st fun v h' tk hv st' kk=>?_
  obtain⟨t,rfl⟩:=hv
  have I1:Inv X pins σ H { s with heap:=h',toks:=tk }:=I.turned (fun b o hb e=>kk b o (by simpa using hb) e) f0 f1 f3 f4 f5
  refine ⟨_,rfl,kr (s:={ s with heap:=h',toks:=tk }) (n:="range_iterator") st' rfl rfl (by decide) ⟨.int (lo+i),H,I1,⟨t,?_⟩,⟨rfl,rfl⟩,st',fun b hb=>(hf b hb).1⟩⟩
  rw[Int.mul_one]
 done:=by
  intro X hP hw hK hc i pins s σ H E I hf st hg
  subst hP hw hK
  obtain⟨f0,f1,f2,f3,f4,f5⟩:=hf it (by simp)
  exact wpAny_pyNext_range_end (I.ok.hd hc) st (by have:n≤i:=hg;omega) fun h' eb=>⟨rfl,I.turned (t':=s.toks) (fun b o hb e=>eb b o hb e) f0 f1 f3 f4 f5⟩
 self:=fun _ _ _ _ _ st h=>wpAny_pyIter_rangeiter st h
end L2
namespace L2
section
variable {X:Cx}{tg:Expr}
theorem m9 {pins:List (Addr × Obj)}{σ:St}{H:Hp}{s:Shared}{R:It→Hp→Prop}{E:Value→Shared→Prop}{lo hi:Int}{t u v:Tok}{tk:Nat}(I:Inv X pins σ H s)(h1:-(2 ^ 62)≤lo)(h2:lo<2 ^ 62)(h3:-(2 ^ 62)≤hi)(h4:hi<2 ^ 62)
  (q:R (Itr lo (hi-lo).toNat) H):wpAny (model X.prog X.w) X.A (pyIter (.ref s.heap.objs.size)) (PIE X pins σ tg R) E { s with heap:=s.heap.push { cls:=.type "range",data:=.fields #[.int lo t,.int hi u,.int 1 v] },toks:=tk }:=by
 refine wpAny_pyIter_range (IsRange.new ..) (small_one h1 h2 h3 h4) ?_
 have I1:Inv X pins σ H { s with heap:=s.heap.push { cls:=.type "range",data:=.fields #[.int lo t,.int hi u,.int 1 v] },toks:=tk }:=I.kept fun b o e=>D5 _ e
 refine ⟨(s.heap.push { cls:=.type "range",data:=.fields #[.int lo t,.int hi u,.int 1 v] }).objs.size,[(s.heap.push { cls:=.type "range",data:=.fields #[.int lo t,.int hi u,.int 1 v] }).objs.size],_,_,H,rfl,
  I1.kept (t':=tk) fun b o e=>D5 _ e,oN _ lo (hi-lo).toNat,?_,fun b hb=>?_,q⟩
 ·have e1:lo+((0:Nat):Int)*1=lo:=by simp
  have e2:(((hi-lo).toNat:Nat):Int)-((0:Nat):Int)=Builtin.Range.rangeSize lo hi 1:=by rw[rangeSize_one];split <;> omega
  show IsRangeIter _ _ (lo+((0:Nat):Int)*1) ((((hi-lo).toNat:Nat):Int)-((0:Nat):Int)) 1
  rw[e1,e2]
  exact EC _ rfl
 ·have e:b=(s.heap.push { cls:=.type "range",data:=.fields #[.int lo t,.int hi u,.int 1 v] }).objs.size:=by simpa using hb
  subst e
  exact I1.fpOk (D7 _) (I1.hok.fresh (D7 _))
noncomputable def Af (ta:TA):TI:=fun σ H R=>ta σ H fun vs H1=>∃j:Int,vs=[.int j]∧-(2 ^ 62)≤j∧j<2 ^ 62∧R (Itr 0 j.toNat) H1
noncomputable def Cc (ta:TA):TI:=fun σ H R=>ta σ H fun vs H1=>∃i j:Int,vs=[.int i,.int j]∧(-(2 ^ 62)≤i∧i<2 ^ 62∧-(2 ^ 62)≤j∧j<2 ^ 62)∧R (Itr i (j-i).toNat) H1
theorem qW {a:Expr}{ta:TA}{p pos:Pos}(hg:Gl X "range")(hm:X.mg "range"=none)(ha:PA X [a] ta)(hs:starEach [a] X.env=[(false,eval a X.env)]:=by rfl):PI X tg (.Call (.Name "range" p) [a] [] pos) (Af ta):=by
 intro pins s σ H R I h
 refine Call_ (ig I hg hm boot_range (FR (thn (ha pos pins s σ H _ I h) fun us s1 ⟨vs,H1,I1,r1,q1⟩=>?_) hs rfl))
 obtain⟨j,e,q1,q2,q⟩:=q1
 subst e
 cases r1 with
 | cons r rr =>
  cases rr
  obtain⟨t,rfl⟩:=r
  exact call_range_1 (m9 I1 (by omega) (by omega) q1 q2 (by simpa using q))
theorem qj {a b:Expr}{ta:TA}{p pos:Pos}(hg:Gl X "range")(hm:X.mg "range"=none)(ha:PA X [a,b] ta)(hs:starEach [a,b] X.env=[(false,eval a X.env),(false,eval b X.env)]:=by rfl)(hs2:starEach [b] X.env=[(false,eval b X.env)]:=by rfl) :
  PI X tg (.Call (.Name "range" p) [a,b] [] pos) (Cc ta):=by
 intro pins s σ H R I h
 refine Call_ (ig I hg hm boot_range (FR (thn (ha pos pins s σ H _ I h) fun us s1 ⟨vs,H1,I1,r1,q1⟩=>?_) (by rw[hs,hs2]) (by rw[hs2];rfl)))
 obtain⟨i,j,e,⟨q1,q2,q3,q4⟩,q⟩:=q1
 subst e
 cases r1 with
 | cons r rr =>
  cases rr with
  | cons r' rr =>
   cases rr
   obtain⟨t,rfl⟩:=r
   obtain⟨t',rfl⟩:=r'
   exact call_range_2 (m9 I1 q1 q2 q3 q4 q)
noncomputable def zC (wi:TI)(g:TG)(tb:TS):TS:=fun D σ H=>wi σ H fun J H1=>∃W:Nat→Nat→St→Hp→Prop,(∃m,W 0 m σ H1)∧∀i m σ H,W i m σ H →
 (J.stop i H∧D.nx σ H)∨(J.go i H∧∃N:St→Hp→Prop,(∀σ' H',N σ' H'→∃m',m'<m∧W (i+1) m' σ' H')∧∀x H',J.yld i H x H'→g x σ H' fun σ2 H2=>tb { D with nx:=N,ct:=N,bk:=D.nx } σ2 H2)
noncomputable def ju (fp:List Addr)(h:Heap):List (Addr × Obj):=fp.filterMap fun b=>(h.get? b).map fun o=>(b,o)
theorem dY {fp:List Addr}{h:Heap}{b:Addr}{o:Obj}(hb:b∈fp)(e:h.get? b=some o):(b,o)∈ju fp h:=GG.mpr ⟨b,hb,by rw[e];rfl⟩
theorem qO {fp:List Addr}{h:Heap}{p:Addr × Obj}(hp:p∈ju fp h):p.1∈fp∧h.get? p.1=some p.2:=by
 obtain⟨b,hb,e⟩:=GG.mp hp
 cases q:h.get? b with
 | none=>rw[q] at e;cases e
 | some o =>
  rw[q] at e
  have e':(b,o)=p:=EU e
  subst e'
  exact⟨hb,q⟩
theorem Inv.pinned {pins:List (Addr × Obj)}{σ:St}{H:Hp}{s:Shared}{fp:List Addr}(I:Inv X pins σ H s)(hf:∀b∈fp,iI X pins H b)(ho:∀b∈fp,∃o,s.heap.get? b=some o∧∀v,o.data≠.cell v):Inv X (pins++ju fp s.heap) σ H s :=
 I.pins_of fun p hp=>(FG.mp hp).elim (fun z=>I.pin p (E1 _ z)) fun z=>by
  obtain⟨hb,e⟩:=qO z
  obtain⟨f0,f1,f2,_⟩:=hf p.1 hb
  obtain⟨o,e',d⟩:=ho p.1 hb
  rw[e] at e';cases e'
  exact⟨e,f0,f1,f2,d⟩
theorem Inv.unpinned {pins pl:List (Addr × Obj)}{σ:St}{H:Hp}{s:Shared}(I:Inv X (pins++pl) σ H s):Inv X pins σ H s:=I.pins_of fun p hp=>I.pin p (E1 _ (F9 _ hp))
theorem rK {iter:Expr}{body:List Stmt}{wi:TI}{g:TG}{tb:TS}{pos:Pos}(hp:PassesOwn (model X.prog X.w) X.A X.env X.xe)(hc:X.calm=true)(hi:PI X tg iter wi)(hg:PG X tg g)(hb:PSs X body tb)
  (hs:∀x,foldedSetIterable iter X.env x=pure x:=by intro _;rfl):PS X (.For tg iter body [] pos) (zC wi g tb):=by
 intro pins s σ H D I h
 refine wpAny_For (thn (hi pins s σ H _ I h) fun v s1 h1=>thn h1 fun itv s2 h2=>?_) hs
 obtain⟨it,fp,tn,J,H2,e,I2,T,st2,f2,W,⟨m0,w0⟩,turn⟩:=h2
 subst e
 have stat:∀ {H':Hp},(∀b∈fp,H' b=none)→∀b∈fp,iI X pins H' b:=fun hn b hb=>⟨hn b hb,(f2 b hb).2⟩
 refine codeAny_forLoop_any (fun n s'=>∃i σ' H',Inv X pins σ' H' s'∧tn i s'.heap∧(∀b∈fp,H' b=none)∧W i n σ' H') ?_ m0 ⟨0,σ,H2,I2,st2,fun b hb=>(f2 b hb).1,w0⟩
 rintro n s3 ⟨i,σ3,H3,I3,st3,fr3,w3⟩
 rcases turn i n σ3 H3 w3 with⟨stop,qn⟩|⟨go,N,hN,step⟩
 ·refine wpAny_passesOwn hp (thn (T.done X rfl rfl rfl hc i pins s3 σ3 H3 X.xe I3 (stat fr3) st3 stop) fun r s4 ⟨hr,I4⟩=>?_)
  subst hr
  exact wpAny_execs_nil ⟨σ3,H3,I4,qn⟩
 ·refine wpAny_passesOwn hp (thn (T.item X rfl rfl rfl hc i pins s3 σ3 H3 X.xe I3 (stat fr3) st3 go) fun r s4 ⟨u,hr,h4⟩=>?_)
  subst hr
  refine wpAny_passesOwn hp (thn h4 fun _ s5 ⟨x,H5,I5,r5,y5,st5,fr5⟩=>?_)
  have I5':=I5.pinned (stat fr5) (T.obj _ _ st5)
  refine wpAny_passesOwn hp (thn (hg _ s5 σ3 H5 x u _ I5' r5 (step x H5 y5)) fun _ s6 ⟨σ6,H6,I6,q6⟩=>?_)
  refine wpAny_passesOwn hp (thn (hb _ s6 σ6 H6 _ I6 q6) fun f s7 q7=>?_)
  have again:∀ {σ7:St}{H7:Hp},Inv X (pins++ju fp s5.heap) σ7 H7 s7→N σ7 H7→∃m,m<n∧∃i σ' H',Inv X pins σ' H' s7∧tn i s7.heap∧(∀b∈fp,H' b=none)∧W i m σ' H':=fun {σ7 H7} I7 n7=>by
   obtain⟨m',hm,w7⟩:=hN σ7 H7 n7
   refine⟨m',hm,i+1,σ7,H7,I7.unpinned,T.keep _ _ _ st5 fun b hb o e=>(I7.pin (b,o) (E1 _ (E1 _ (dY hb e)))).1,fun b hb=>?_,w7⟩
   obtain⟨o,e,d⟩:=T.obj _ _ st5 b hb
   exact(I7.pin (b,o) (E1 _ (E1 _ (dY hb e)))).2.1
  cases f with
  | next=>obtain⟨σ7,H7,I7,n7⟩:=q7;exact again I7 n7
  | cont=>obtain⟨σ7,H7,I7,n7⟩:=q7;exact again I7 n7
  | brk=>obtain⟨σ7,H7,I7,q7⟩:=q7;exact⟨σ7,H7,I7.unpinned,q7⟩
  | ret v=>obtain⟨x7,σ7,H7,I7,r7,q7⟩:=q7;exact⟨x7,σ7,H7,I7.unpinned,r7,q7⟩
end
end L2
namespace L2
noncomputable abbrev R2:=V→V→Hp→VK→Prop
def OpR (X:Cx)(f:Value→Value→Sem Value)(r:R2):Prop :=
 ∀(pins:List (Addr × Obj)) (s:Shared) (σ:St) (H:Hp) (x y:V) (v u:Value) (Q:VK),Inv X pins σ H s→RelV x v→RelV y u→r x y H Q →
  wpAny (model X.prog X.w) X.A (f v u) (EP X pins σ Q) X.xe s
def UnR (X:Cx)(f:Value→Sem Value)(r:V→Hp→VK→Prop):Prop :=
 ∀(pins:List (Addr × Obj)) (s:Shared) (σ:St) (H:Hp) (x:V) (v:Value) (Q:VK),Inv X pins σ H s→RelV x v→r x H Q →
  wpAny (model X.prog X.w) X.A (f v) (EP X pins σ Q) X.xe s
def bX (X:Cx)(f:Value)(r:List V→Hp→VK→Prop):Prop :=
 ∀(pins:List (Addr × Obj)) (s:Shared) (σ:St) (H:Hp) (xs:List V) (us:List Value) (Q:VK),Inv X pins σ H s→Vals xs us→r xs H Q →
  wpAny (model X.prog X.w) X.A (call f us) (EP X pins σ Q) X.xe s
def Dk (X:Cx)(r:V→Hp→(Bool→Hp→Prop)→Prop):Prop :=
 ∀(pins:List (Addr × Obj)) (s:Shared) (σ:St) (H:Hp) (x:V) (v:Value) (Q:Bool→Hp→Prop),Inv X pins σ H s→RelV x v→r x H Q →
  wpAny (model X.prog X.w) X.A (truthy v) (TP X pins σ Q) X.xe s
noncomputable def tOp (r:R2)(ta tb:TE):TE:=fun σ H Q=>ta σ H fun x H1=>tb σ H1 fun y H2=>r x y H2 Q
noncomputable def tUn (r:V→Hp→VK→Prop)(ta:TE):TE:=fun σ H Q=>ta σ H fun x H1=>r x H1 Q
noncomputable def rI (C:Int→Int→Prop)(g:Int→Int→V):R2:=fun x y H Q=>∃i j,x=.int i∧y=.int j∧C i j∧Q (g i j) H
noncomputable def rI0 (g:Int→Int→V):R2:=fun x y H Q=>∃i j,x=.int i∧y=.int j∧Q (g i j) H
noncomputable def rU (g:Int→V):V→Hp→VK→Prop:=fun x H Q=>∃i,x=.int i∧Q (g i) H
section
variable {X:Cx}{a b c:Expr}{ta tb tc:TE}{pos:Pos}
theorem yr (ha:PE X a ta)(hb:PE X b tb){pins:List (Addr × Obj)}{s:Shared}{σ:St}{H:Hp}{R:V→V→Hp→Prop}(I:Inv X pins σ H s)
  (h:ta σ H fun x H1=>tb σ H1 fun y H2=>R x y H2) {Q:Value→Shared→Prop}{f:Value→Value→Sem Value}
  (hf:∀v u s2 x y H2,Inv X pins σ H2 s2→RelV x v→RelV y u→R x y H2→wpAny (model X.prog X.w) X.A (f v u) Q X.xe s2) :
  wpAny (model X.prog X.w) X.A (eval a X.env) (fun v s₁=>wpAny (model X.prog X.w) X.A (eval b X.env) (fun u s₂=>wpAny (model X.prog X.w) X.A (f v u) Q X.xe s₂) X.xe s₁) X.xe s:=by
 refine thn (ha pins s σ H _ I h) fun v s1 ⟨x,H1,I1,r1,q1⟩=>?_
 refine thn (hb pins s1 σ H1 _ I1 q1) fun u s2 ⟨y,H2,I2,r2,q2⟩=>?_
 exact hf v u s2 x y H2 I2 r1 r2 q2
theorem Bm {op:Operator}{r:R2}(ho:OpR X (binaryOp op) r)(ha:PE X a ta)(hb:PE X b tb):PE X (.BinOp a op b pos) (tOp r ta tb):=by
 intro pins s σ H Q I h
 exact wpAny_BinOp (yr ha hb I h fun v u s2 x y H2 I2 rx ry q=>ho pins s2 σ H2 x y v u Q I2 rx ry q)
theorem BI {op:UnaryOp}{r:V→Hp→VK→Prop}(ho:UnR X (unaryOp op) r)(ha:PE X a ta):PE X (.UnaryOp op a pos) (tUn r ta):=by
 intro pins s σ H Q I h
 exact UnaryOp_ (thn (ha pins s σ H _ I h) fun v s1 ⟨x,H1,I1,r1,q1⟩=>ho pins s1 σ H1 x v Q I1 r1 q1)
theorem opI {f:Value→Value→Sem Value}{C:Int→Int→Prop}{g:Int→Int→Int}
  (rule:∀(i j:Int) (t u:Tok) (s:Shared) (Q:Value→Shared→Prop) (E:Value→Shared→Prop),C i j→Q (.int (g i j) s.toks) { s with toks:=s.toks+1 }→wpAny (model X.prog X.w) X.A (f (.int i t) (.int j u)) Q E s) :
  OpR X f (rI C fun i j=>.int (g i j)):=by
 intro pins s σ H x y v u Q I rx ry h
 obtain⟨i,j,rfl,rfl,hc,q⟩:=h
 obtain⟨t,rfl⟩:=rx
 obtain⟨t',rfl⟩:=ry
 exact rule i j t t' s _ _ hc ⟨.int (g i j),H,I.tok _,⟨_,rfl⟩,q⟩
theorem zT {f:Value→Value→Sem Value}{g:Int→Int→Int}
  (rule:∀(i j:Int) (t u:Tok) (s:Shared) (Q:Value→Shared→Prop) (E:Value→Shared→Prop),Q (.int (g i j) s.toks) { s with toks:=s.toks+1 }→wpAny (model X.prog X.w) X.A (f (.int i t) (.int j u)) Q E s) :
  OpR X f (rI0 fun i j=>.int (g i j)):=by
 intro pins s σ H x y v u Q I rx ry h
 obtain⟨i,j,rfl,rfl,q⟩:=h
 obtain⟨t,rfl⟩:=rx
 obtain⟨t',rfl⟩:=ry
 exact rule i j t t' s _ _ ⟨.int (g i j),H,I.tok _,⟨_,rfl⟩,q⟩
theorem u6 {f:Value→Value→Sem Value}{g:Int→Int→Bool}
  (rule:∀(i j:Int) (t u:Tok) (s:Shared) (Q:Value→Shared→Prop) (E:Value→Shared→Prop),Q (.bool (g i j)) s→wpAny (model X.prog X.w) X.A (f (.int i t) (.int j u)) Q E s) :
  OpR X f (rI0 fun i j=>.bl (g i j)):=by
 intro pins s σ H x y v u Q I rx ry h
 obtain⟨i,j,rfl,rfl,q⟩:=h
 obtain⟨t,rfl⟩:=rx
 obtain⟨t',rfl⟩:=ry
 exact rule i j t t' s _ _ ⟨.bl (g i j),H,I,rfl,q⟩
def qF (i j:Int):Prop:=0≤j∧j≤1000000∧i.natAbs<2 ^ 64
theorem yG:OpR X (binaryOp .Add) (rI0 fun i j=>.int (i+j)):=zT fun _ _ _ _ _ _ _ q=>add_int q
theorem ye:OpR X (binaryOp .Sub) (rI0 fun i j=>.int (i-j)):=zT fun _ _ _ _ _ _ _ q=>sub_int q
theorem zm:OpR X (binaryOp .Mod) (rI (fun _ j=>0<j) fun i j=>.int (i % j)):=opI fun i j _ _ _ _ _ hc q=>by
 have h1:(0:Int)<j:=hc
 exact mod_int' (by omega) (by rw[Int.fmod_eq_emod_of_nonneg i (by omega)];exact q)
theorem x9:OpR X (binaryOp .Pow) (rI qF fun i j=>.int (i ^ j.toNat)):=opI fun _ _ _ _ _ _ _ hc q=>pow_int_small hc.1 hc.2.1 hc.2.2 q
theorem unI {f:Value→Sem Value}{g:Int→Int}
  (rule:∀(i:Int) (t:Tok) (s:Shared) (Q:Value→Shared→Prop) (E:Value→Shared→Prop),Q (.int (g i) s.toks) { s with toks:=s.toks+1 }→wpAny (model X.prog X.w) X.A (f (.int i t)) Q E s) :
  UnR X f (rU fun i=>.int (g i)):=by
 intro pins s σ H x v Q I rx h
 obtain⟨i,rfl,q⟩:=h
 obtain⟨t,rfl⟩:=rx
 exact rule i t s _ _ ⟨.int (g i),H,I.tok _,⟨_,rfl⟩,q⟩
theorem yI:UnR X (unaryOp .USub) (rU fun i=>.int (-i)):=unI fun _ _ _ _ _ q=>neg_int q
end
noncomputable def A2:V→V→Bool
 | .non,.non=>true | .non,.int _=>true | .int _,.non=>true | .non,.bl _=>true | .bl _,.non=>true | .non,.str _=>true | .str _,.non=>true
 | .int _,.int _=>true | .bl _,.bl _=>true | .str _,.str _=>true | .byt _,.byt _=>true
 | .int _,.str _=>true | .str _,.int _=>true | .bl _,.str _=>true | .str _,.bl _=>true
 | _,_=>false
noncomputable def rEq:R2:=fun x y H Q=>A2 x y=true∧Q (.bl (decide (x=y))) H
noncomputable def rNe:R2:=fun x y H Q=>A2 x y=true∧Q (.bl (!decide (x=y))) H
theorem pf {i j:Int}:decide (V.int i=V.int j)=(i == j):=by
 rw[GV]
 simp
theorem rW {i j:Bool}:decide (V.bl i=V.bl j)=(i == j):=by
 rw[GV]
 simp
theorem o_ {i j:Str}:decide (V.str i=V.str j)=(i == j):=by
 rw[GV]
 simp
theorem oW {i j:Array UInt8}:decide (V.byt i=V.byt j)=(i.toList == j.toList):=by
 rw[GV]
 cases i
 cases j
 simp
section
variable {X:Cx}{a b c:Expr}{ta tb tc:TE}{pos:Pos}
theorem az {pins:List (Addr × Obj)}{σ:St}{H:Hp}{s:Shared}{Q:VK}{k k':Bool}(I:Inv X pins σ H s)(q:Q (.bl k) H)(e:k=k'):EP X pins σ Q (.bool k') s:=by
 subst e
 exact⟨.bl k,H,I,rfl,q⟩
theorem s_:OpR X (compareOp .Eq) rEq:=by
 intro pins s σ H x y v u Q I rx ry h
 obtain⟨hs,q⟩:=h
 cases x with
 | non =>
  cases rx
  cases y with
  | non=>cases ry;exact PySem.EqNone.eq_none_none (az I q (by simp))
  | bl j=>cases ry;exact PySem.EqNone.eq_none_bool (az I q (by simp))
  | int j=>obtain⟨t',rfl⟩:=ry;exact PySem.EqNone.eq_none_int (az I q (by simp))
  | str j=>obtain⟨t',rfl⟩:=ry;exact PySem.EqNone.eq_none_str (az I q (by simp))
  | _=>exact absurd (show false=true from hs) D1
 | bl i =>
  cases rx
  cases y with
  | non=>cases ry;exact PySem.EqNone.eq_bool_none (az I q (by simp))
  | bl j=>cases ry;exact eq_bool (az I q rW)
  | str j=>obtain⟨t',rfl⟩:=ry;exact PySem.EqMixed.eq_bool_str (az I q (by simp))
  | _=>exact absurd (show false=true from hs) D1
 | int i =>
  obtain⟨t,rfl⟩:=rx
  cases y with
  | non=>cases ry;exact PySem.EqNone.eq_int_none (az I q (by simp))
  | int j=>obtain⟨t',rfl⟩:=ry;exact eq_int (az I q pf)
  | str j=>obtain⟨t',rfl⟩:=ry;exact PySem.EqMixed.eq_int_str (az I q (by simp))
  | _=>exact absurd (show false=true from hs) D1
 | str i =>
  obtain⟨t,rfl⟩:=rx
  cases y with
  | non=>cases ry;exact PySem.EqNone.eq_str_none (az I q (by simp))
  | bl j=>cases ry;exact PySem.EqMixed.eq_str_bool (az I q (by simp))
  | int j=>obtain⟨t',rfl⟩:=ry;exact PySem.EqMixed.eq_str_int (az I q (by simp))
  | str j=>obtain⟨t',rfl⟩:=ry;exact eq_str (az I q o_)
  | _=>exact absurd (show false=true from hs) D1
 | byt i =>
  obtain⟨t,rfl⟩:=rx
  cases y with
  | byt j=>obtain⟨t',rfl⟩:=ry;exact W.eq_bytes (az I q oW)
  | _=>exact absurd (show false=true from hs) D1
 | _=>cases y <;> exact absurd (show false=true from hs) D1
theorem sT:OpR X (compareOp .NotEq) rNe:=by
 intro pins s σ H x y v u Q I rx ry h
 obtain⟨hs,q⟩:=h
 cases x with
 | non =>
  cases rx
  cases y with
  | non=>cases ry;exact PySem.EqNone.ne_none_none (az I q (by simp))
  | bl j=>cases ry;exact PySem.EqNone.ne_none_bool (az I q (by simp))
  | int j=>obtain⟨t',rfl⟩:=ry;exact PySem.EqNone.ne_none_int (az I q (by simp))
  | str j=>obtain⟨t',rfl⟩:=ry;exact PySem.EqNone.ne_none_str (az I q (by simp))
  | _=>exact absurd (show false=true from hs) D1
 | bl i =>
  cases rx
  cases y with
  | non=>cases ry;exact PySem.EqNone.ne_bool_none (az I q (by simp))
  | bl j=>cases ry;exact ne_bool (az I q (ES not rW))
  | str j=>obtain⟨t',rfl⟩:=ry;exact PySem.EqMixed.ne_bool_str (az I q (by simp))
  | _=>exact absurd (show false=true from hs) D1
 | int i =>
  obtain⟨t,rfl⟩:=rx
  cases y with
  | non=>cases ry;exact PySem.EqNone.ne_int_none (az I q (by simp))
  | int j=>obtain⟨t',rfl⟩:=ry;exact ne_int (az I q (ES not pf))
  | str j=>obtain⟨t',rfl⟩:=ry;exact PySem.EqMixed.ne_int_str (az I q (by simp))
  | _=>exact absurd (show false=true from hs) D1
 | str i =>
  obtain⟨t,rfl⟩:=rx
  cases y with
  | non=>cases ry;exact PySem.EqNone.ne_str_none (az I q (by simp))
  | bl j=>cases ry;exact PySem.EqMixed.ne_str_bool (az I q (by simp))
  | int j=>obtain⟨t',rfl⟩:=ry;exact PySem.EqMixed.ne_str_int (az I q (by simp))
  | str j=>obtain⟨t',rfl⟩:=ry;exact ne_str (az I q (ES not o_))
  | _=>exact absurd (show false=true from hs) D1
 | byt i =>
  obtain⟨t,rfl⟩:=rx
  cases y with
  | byt j=>obtain⟨t',rfl⟩:=ry;exact W.ne_bytes (az I q (ES not oW))
  | _=>exact absurd (show false=true from hs) D1
 | _=>cases y <;> exact absurd (show false=true from hs) D1
theorem zP:OpR X (compareOp .Lt) (rI0 fun i j=>.bl (decide (i<j))):=u6 fun _ _ _ _ _ _ _ q=>lt_int q
theorem By:OpR X (compareOp .LtE) (rI0 fun i j=>.bl (decide (i≤j))):=u6 fun _ _ _ _ _ _ _ q=>le_int q
theorem BU:OpR X (compareOp .Gt) (rI0 fun i j=>.bl (decide (j<i))):=u6 fun _ _ _ _ _ _ _ q=>gt_int q
theorem BV:OpR X (compareOp .GtE) (rI0 fun i j=>.bl (decide (j≤i))):=u6 fun _ _ _ _ _ _ _ q=>ge_int q
theorem qY:OpR X (compareOp .In) (fun x y H Q=>∃i j,x=.str i∧y=.str j∧Q (.bl (!(Builtin.Str.occurrences j i 0 j.length 1).isEmpty)) H):=by
 intro pins s σ H x y v u Q I rx ry h
 obtain⟨i,j,rfl,rfl,q⟩:=h
 obtain⟨t,rfl⟩:=rx
 obtain⟨t',rfl⟩:=ry
 exact in_str (az I q rfl)
theorem yT:OpR X (compareOp .Is) (fun x y H Q=>y=.non∧Q (.bl (decide (x=.non))) H):=by
 intro pins s σ H x y v u Q I rx ry h
 obtain⟨rfl,q⟩:=h
 cases ry
 refine is_none_gen (az I q ?_)
 cases x <;> first
  | (cases rx;rfl)
  | (obtain⟨t,rfl⟩:=rx;rfl)
theorem uZ:OpR X (compareOp .IsNot) (fun x y H Q=>y=.non∧Q (.bl (!decide (x=.non))) H):=by
 intro pins s σ H x y v u Q I rx ry h
 obtain⟨rfl,q⟩:=h
 cases ry
 refine isnot_none_gen (az I q ?_)
 cases x <;> first
  | (cases rx;rfl)
  | (obtain⟨t,rfl⟩:=rx;rfl)
theorem pC {op:CmpOp}{r:R2}(ho:OpR X (compareOp op) r)(ha:PE X a ta)(hb:PE X b tb)(hm:behindInMarks op b=false):PE X (.Compare a [op] [b] pos) (tOp r ta tb):=by
 intro pins s σ H Q I h
 exact wpAny_Compare1 (yr ha hb I h fun v u s2 x y H2 I2 rx ry q=>ho pins s2 σ H2 x y v u Q I2 rx ry q) hm
noncomputable def Bn (t:TE):TT:=fun σ H Q=>t σ H fun x H'=>∃k,x=.bl k∧Q k H'
theorem oZ {op:CmpOp}{r:R2}(ho:OpR X (compareOp op) r)(ha:PE X a ta)(hb:PE X b tb)(hm:behindInMarks op b=false):PT X (.Compare a [op] [b] pos) (Bn (tOp r ta tb)):=by
 intro pins s σ H Q I h
 refine wpAny_isTrue_Compare1 (thn (ha pins s σ H _ I h) fun v s1 ⟨x,H1,I1,r1,q1⟩=>thn (hb pins s1 σ H1 _ I1 q1) fun u s2 ⟨y,H2,I2,r2,q2⟩ =>
  thn (ho pins s2 σ H2 x y v u _ I2 r1 r2 q2) fun c s3 ⟨z,H3,I3,r3,k,e,q3⟩=>?_) hm
 subst e
 cases r3
 exact wpAny_truthy_bool ⟨H3,I3,q3⟩
def yg (K:W.Frag)(x:V)(H:Hp)(k:Bool):Prop :=
 match x with
 | .non=>k=false
 | .bl b=>k=b
 | .int i=>k=(i != 0)
 | .str y=>y.length≤sizeLine∧k=((y.length:Int) != 0)
 | .byt y=>y.size≤sizeLine∧k=((y.size:Int) != 0)
 | .ref p=>(∃xs,SqL K H p xs∧k=!xs.isEmpty)∨(∃xs,SqT K H p xs∧k=!xs.isEmpty)∨∃kvs,H p=some (.dK kvs)∧k=!kvs.isEmpty
 | _=>False
theorem oa {κ:Type}{kvs:List (κ × V)}{vs:List (κ × Value)}(r:KV kvs vs):(!vs.isEmpty)=!kvs.isEmpty:=by
 cases r <;> rfl
theorem jV {xs:List V}{its:List Value}(r:Vals xs its):(!its.toArray.isEmpty)=!xs.isEmpty:=by
 cases r <;> simp
theorem f':(sizeLine:Nat)<2 ^ 63:=by rw[sizeLine_eq];decide
theorem wT:Dk X (fun x H Q=>∃k,yg X.K x H k∧Q k H):=by
 intro pins s σ H x v Q I rx h
 obtain⟨k,e,q⟩:=h
 have hl:=f'
 have hs:sizeLine=16777216:=sizeLine_eq
 cases x with
 | non =>
  cases rx
  have e':k=false:=e
  subst e'
  exact truthy_none ⟨H,I,q⟩
 | bl b =>
  cases rx
  have e':k=b:=e
  subst e'
  exact wpAny_truthy_bool ⟨H,I,q⟩
 | int i =>
  obtain⟨t,rfl⟩:=rx
  have e':k=(i != 0):=e
  subst e'
  exact PySem.P.truthy_int ⟨H,I,q⟩
 | str y =>
  obtain⟨t,rfl⟩:=rx
  obtain⟨hy,e'⟩:y.length≤sizeLine∧k=((y.length:Int) != 0):=e
  subst e'
  exact PySem.P.truthy_str (by omega) ⟨H,I.tok _,q⟩
 | byt y =>
  obtain⟨t,rfl⟩:=rx
  obtain⟨hy,e'⟩:y.size≤sizeLine∧k=((y.size:Int) != 0):=e
  subst e'
  exact W.truthy_bytes (by omega) ⟨H,I.tok _,q⟩
 | ref p =>
  cases rx
  have e':(∃xs,SqL X.K H p xs∧k=!xs.isEmpty)∨(∃xs,SqT X.K H p xs∧k=!xs.isEmpty)∨∃kvs,H p=some (.dK kvs)∧k=!kvs.isEmpty:=e
  rcases e' with⟨xs,hx,e'⟩|⟨xs,hx,e'⟩|⟨kvs,hx,e'⟩
  ·subst e'
   obtain⟨its,r,pl,hz⟩:=I.list hx
   have hlen:=r.length
   exact wpAny_truthy_list pl.isList (by simp only[List.size_toArray];omega) ⟨H,I.tok _,by rw[jV r];exact q⟩
  ·subst e'
   obtain⟨its,r,pl,hz⟩:=I.tuple hx
   have hlen:=r.length
   exact truthy_tuple pl (by simp only[List.size_toArray];omega) ⟨H,I.tok _,by rw[jV r];exact q⟩
  ·subst e'
   obtain⟨hz,hS,vs,r,m⟩:kvs.length≤sizeLine∧(p == sysModules)=false∧∃vs,KV kvs vs∧s.heap.DictOf (aB X.prog X.w) p vs:=I.hok p _ hx
   have hlen:kvs.length=vs.length:=Paired.length r
   exact wpAny_truthy_dict hS m (by omega) ⟨H,I.tok _,by rw[oa r];exact q⟩
 | _=>exact(show False from e).elim
theorem dG (ha:PE X a ta)(he:∀whole,isTrue a X.env whole=(do let v ←whole;standAt a.pos;holding [v] (truthy v))) :
  PT X a (fun σ H Q=>ta σ H fun x H'=>∃k,yg X.K x H' k∧Q k H'):=by
 intro pins s σ H Q I h
 exact isTrue_plain (thn (ha pins s σ H _ I h) fun v s1 ⟨x,H1,I1,r1,q1⟩=>wT pins s1 σ H1 x v Q I1 r1 q1) (he _)
theorem oP:OpR X (binaryOp .Add) (fun x y H Q=>∃i j,x=.str i∧y=.str j∧i.length+j.length≤sizeLine∧Q (.str (i++j)) H):=by
 intro pins s σ H x y v u Q I rx ry h
 obtain⟨i,j,rfl,rfl,hz,q⟩:=h
 obtain⟨t,rfl⟩:=rx
 obtain⟨t',rfl⟩:=ry
 exact add_str (fun t' tk=>⟨.str (i++j),H,I.tok _,⟨_,rfl⟩,q⟩) hz
theorem bQ {x:V}{us:List Value}(r:Vals [x] us):∃u,us=[u]∧RelV x u:=by
 cases r with
 | cons r1 r2=>cases r2;exact⟨_,rfl,r1⟩
theorem jH {x y:V}{us:List Value}(r:Vals [x,y] us):∃u w',us=[u,w']∧RelV x u∧RelV y w':=by
 cases r with
 | cons r1 r2 =>
  cases r2 with
  | cons r3 r4=>cases r4;exact⟨_,_,rfl,r1,r3⟩
theorem sm:bX X (.builtin "abs") (fun xs H Q=>∃i,xs=[.int i]∧Q (.int (if i<0 then -i else i)) H):=by
 intro pins s σ H xs us Q I r h
 obtain⟨i,rfl,q⟩:=h
 obtain⟨u,rfl,t,rfl⟩:=bQ r
 exact call_abs_int fun u tk=>⟨.int (if i<0 then -i else i),H,I.tok _,⟨_,rfl⟩,q⟩
theorem pU (hc:X.calm=true):bX X (.builtin "max") (fun xs H Q=>∃i j,xs=[.int i,.int j]∧Q (.int (if j > i then j else i)) H):=by
 intro pins s σ H xs us Q I r h
 obtain⟨i,j,rfl,q⟩:=h
 obtain⟨u,w',rfl,⟨t,rfl⟩,⟨t',rfl⟩⟩:=jH r
 refine max_two_ints (I.ok.hd hc) fun h' tk k=>⟨_,H,I.kept k,?_,q⟩
 by_cases hj:j > i
 ·rw[D9 hj,D9 hj];exact⟨_,rfl⟩
 ·rw[D_ hj,D_ hj];exact⟨_,rfl⟩
theorem qD (hc:X.calm=true):bX X (.builtin "min") (fun xs H Q=>∃i j,xs=[.int i,.int j]∧Q (.int (if j<i then j else i)) H):=by
 intro pins s σ H xs us Q I r h
 obtain⟨i,j,rfl,q⟩:=h
 obtain⟨u,w',rfl,⟨t,rfl⟩,⟨t',rfl⟩⟩:=jH r
 refine min_two_ints (I.ok.hd hc) fun h' tk k=>⟨_,H,I.kept k,?_,q⟩
 by_cases hj:j<i
 ·rw[D9 hj,D9 hj];exact⟨_,rfl⟩
 ·rw[D_ hj,D_ hj];exact⟨_,rfl⟩
theorem pO:bX X (.type "int") (fun xs H Q=>(∃i,xs=[.int i]∧Q (.int i) H)∨∃k,xs=[.bl k]∧Q (.int (if k then 1 else 0)) H):=by
 intro pins s σ H xs us Q I r h
 rcases h with⟨i,rfl,q⟩|⟨k,rfl,q⟩
 ·obtain⟨u,rfl,t,rfl⟩:=bQ r
  exact call_int_int ⟨.int i,H,I,⟨_,rfl⟩,q⟩
 ·obtain⟨u,rfl,r1⟩:=bQ r
  cases r1
  exact call_int_bool ⟨.int (if k then 1 else 0),H,I.tok _,⟨_,rfl⟩,q⟩
theorem lM:bX X (.type "str") (fun xs H Q=>∃i,xs=[.int i]∧i.natAbs.log2<1920∧Q (.str (toString i)) H):=by
 intro pins s σ H xs us Q I r h
 obtain⟨i,rfl,hz,q⟩:=h
 obtain⟨u,rfl,t,rfl⟩:=bQ r
 exact PySem.P.str_of_int hz ⟨.str _,H,I.tok _,⟨_,rfl⟩,q⟩
end
end L2
namespace L2
structure ObjM (h:Heap)(x dx C:Addr)(mA:Str→Option Value):Prop where
 obj:h.get? x=some (W.instObj C dx)
 ns:h.Ns1 dx mA
 ne:dx≠x
theorem qo {h:Heap}{dx:Addr}{mA:Str→Option Value}(n:h.Ns1 dx mA):∃od,h.get? dx=some od∧∀name,W.lookIn name od=some (mA name):=by
 obtain⟨o,es,ep,ho,hd,hk,_,hm⟩:=n
 refine⟨o,ho,fun name=>?_⟩
 have e:=hm name
 unfold nsFind findBy at e
 rw[←Array.find?_toList] at e
 unfold W.lookIn
 rw[hd]
 dsimp only
 split
 ·rename_i y q
  rw[q] at e
  exact ES some e
 ·rename_i q
  rw[q] at e
  have a:es.toList.any (·.refKey)=false:=by
   rw[List.any_eq_false]
   intro y hy
   obtain⟨z,t,hkey⟩:=hk y (Array.mem_toList_iff.mp hy)
   simp[DictEntry.refKey,hkey]
  have a':¬es.toList.any (·.refKey)=true:=by rw[a];exact D1
  rw[D_ a']
  exact ES some e
theorem ObjM.look {h:Heap}{x dx C:Addr}{mA:Str→Option Value}(I:ObjM h x dx C mA):∃od,W.InstAt h x (W.instObj C dx) C (some od)∧∀name,W.lookIn name od=some (mA name) :=
 let ⟨od,ho,hl⟩:=qo I.ns
 ⟨od,⟨I.obj,rfl,rfl,ho⟩,hl⟩
section
variable {prog:Program}{w:World}{A:Around}{E:Value→Shared→Prop}{s:Shared}{K:W.Frag}{x dx C f:Addr}{mA:Str→Option Value}{name:Str}{v:Value}
end
theorem RelO.some_of {v:V}{o:Option Value}(r:RelO (some v) o):∃u,o=some u∧RelV v u:=by
 cases o with
 | none=>exact(show False from r).elim
 | some u=>exact⟨u,rfl,r⟩
section
variable {P:Program}{w:World}{H H':Hp}{h h':Heap}{a C dx:Addr}{fs fs':List (Str × V)}
theorem uk (hok:HOk P w H h)(e:H a=some (.ins C dx fs)):∃mA,ObjM h a dx C mA∧(∀f,RelO (fs.lookup f) (mA f))∧PySem.Within mA (fs.map (·.1))∧fs.length≤1000∧H dx=some (.own a):=by
 obtain⟨d,z,ne,ob,mA,n,r,q⟩:=(show ObjOk P w H h a (.ins C dx fs) from hok a _ e)
 exact⟨mA,⟨ob,n,ne⟩,r,q,z,d⟩
end
structure Cls (K:W.Frag)(C:Addr):Prop where
 pg:W.plainGet K C Str.empty=true
 hd:W.hasDictIn K C=true
 po:W.plainOver K C=true
 sa:W.findIn K (.ref C) "__setattr__"=some (some (.builtin "object.__setattr__"))
theorem Cls.get {K:W.Frag}{C:Addr}(c:Cls K C)(f:Str):W.plainGet K C f=true:=c.pg
structure Con (K:W.Frag)(C:Addr)(f:Str)(v:V)(u:Value):Prop where
 at_:W.findIn K (.ref C) f=some (some u)
 rel:RelV v u
 get:W.specialIn K u "__get__"=some none
 cp:W.copiedNames.contains f=false
structure DZ (K:W.Frag)(C:Addr)(m:Str)(f:Addr):Prop where
 at_:W.findIn K (.ref C) m=some (some (.ref f))
 fn:W.isFn K (.ref f)=true
 kp:W.keepIn K (.ref f)=true
section
variable {X:Cx}{pins:List (Addr × Obj)}{σ:St}{H:Hp}{s:Shared}{a C dx:Addr}{fs:List (Str × V)}{f:Str}{v:V}{A:Around}{E:Value→Shared→Prop}
end
section
variable {X:Cx}{o e value:Expr}{f:Str}{pos pos' tpos:Pos}{ta tv:TE}
end
section
variable {X:Cx}{pins:List (Addr × Obj)}{σ:St}{H:Hp}{s:Shared}{A:Around}{E:Value→Shared→Prop}{Q:Value→Shared→Prop}{c:Value}{b:Bool}
inductive iJ (K:W.Frag)(H:Hp):V→Value→Prop where
 | non:iJ K H .non (.type "NoneType")
 | bl (x:Bool):iJ K H (.bl x) (.type "bool")
 | int (i:Int):iJ K H (.int i) (.type "int")
 | str (x:Str):iJ K H (.str x) (.type "str")
 | flt (x:UInt64):iJ K H (.flt x) (.type "float")
 | lst {a:Addr} {xs:List V} (e:H a=some (.lst xs)):iJ K H (.ref a) (.type "list")
 | frz {a:Addr} {o:Obj} {xs:List V} (e:H a=some (.frz o (.lst xs))):iJ K H (.ref a) (.type "list")
 | tup {a:Addr} {xs:List V} (e:H a=some (.tup xs)):iJ K H (.ref a) (.type "tuple")
 | dK {a:Addr} {kvs:List (Key × V)} (e:H a=some (.dK kvs)):iJ K H (.ref a) (.type "dict")
 | dT {a:Addr} {kvs:List (List Key × V)} (e:H a=some (.dT kvs)):iJ K H (.ref a) (.type "dict")
 | ins {a C dx:Addr} {fs:List (Str × V)} (e:H a=some (.ins C dx fs)) (cl:Cls K C) (ha:W.findIn K (.ref C) "__class__"=some (some (.builtin "object.__class__")))
   (hn:W.specialIn K (.builtin "object.__class__") "__get__"=some (some (.builtin "getset_descriptor.__get__"))) (htk:W.takesIn K (.builtin "object.__class__")=some true)
   (hm:W.mroIn K C (.type "object")=some true):iJ K H (.ref a) (.ref C)
theorem cU {x:V}{u t:Value}(I:Inv X pins σ H s)(rx:RelV x u)(ty:iJ X.K H x t)(e:W.kitOne X.K t c=some b)(h:∀tk,Q (.bool b) { s with toks:=tk }) :
  wpAny (model X.prog X.w) A (call (.builtin "isinstance") [u,c]) Q E s:=by
 cases ty with
 | non=>cases (show u=Value.none from rx);exact FY W.kitx_none I.kIn True.intro e (fun z=>nomatch z) h
 | bl y=>cases (show u=Value.bool y from rx);exact FY W.kitx_bool I.kIn True.intro e (fun z=>nomatch z) h
 | int i=>obtain⟨t,q⟩:=(show ∃t,u=Value.int i t from rx);cases q;exact FY W.kitx_int I.kIn True.intro e (fun z=>nomatch z) h
 | str y=>obtain⟨t,q⟩:=(show ∃t,u=Value.str y t from rx);cases q;exact FY W.kitx_str I.kIn True.intro e (fun z=>nomatch z) h
 | flt y=>obtain⟨t,q⟩:=(show ∃t,u=Value.float y t from rx);cases q;exact FY W.kitx_float I.kIn True.intro e (fun z=>nomatch z) h
 | @lst a xs ea =>
  cases (show u=Value.ref a from rx)
  obtain⟨_,_,n,_,h1⟩:=(show ObjOk X.prog X.w H s.heap a (.lst xs) from I.hok a _ ea)
  exact FY IC I.kIn ⟨_,h1,rfl⟩ e (fun z=>nomatch z) h
 | @frz a ob xs ea =>
  cases (show u=Value.ref a from rx)
  obtain⟨_,_,_,n,_,h1⟩:=(show ObjOk X.prog X.w H s.heap a (.frz ob (.lst xs)) from I.hok a _ ea)
  exact FY IC I.kIn ⟨_,h1,rfl⟩ e (fun z=>nomatch z) h
 | @tup a xs ea =>
  cases (show u=Value.ref a from rx)
  obtain⟨_,_,_,p⟩:=(show ObjOk X.prog X.w H s.heap a (.tup xs) from I.hok a _ ea)
  obtain⟨o,h1,h2,_⟩:=p
  exact FY W.kitx_tuple I.kIn ⟨o,h1,h2⟩ e (fun z=>nomatch z) h
 | @dK a kvs ea =>
  cases (show u=Value.ref a from rx)
  obtain⟨_,_,vs,_,p⟩:=(show ObjOk X.prog X.w H s.heap a (.dK kvs) from I.hok a _ ea)
  obtain⟨o,es,ep,h1,h2,_⟩:=p
  exact FY ID I.kIn ⟨o,h1,h2.1⟩ e (fun z=>nomatch z) h
 | @dT a kvs ea =>
  cases (show u=Value.ref a from rx)
  obtain⟨_,_,xs,_,o,es,ep,h1,h2,_⟩:=(show ObjOk X.prog X.w H s.heap a (.dT kvs) from I.hok a _ ea)
  exact FY ID I.kIn ⟨o,h1,h2.1⟩ e (fun z=>nomatch z) h
 | @ins a C dx fs ea cl ha hn htk hm =>
  cases (show u=Value.ref a from rx)
  obtain⟨mA,O,_⟩:=uk I.hok ea
  obtain⟨od,J,_⟩:=O.look
  exact FY (W.kitx_own (cl.get _) cl.hd ha hn htk hm) I.kIn J e (fun z=>nomatch z) h
end
end L2
namespace L2
structure Room (k:Nat)(A:Around):Prop where
 hd:A.handled=none
 dp:A.depth+3*k+5<recursionLimit
 un:A.units+16*k+200<cLine
 gd:A.guards=some []
theorem Room.mono {j k:Nat}{A:Around}(r:Room k A)(h:j≤k):Room j A:=⟨r.hd,by have:=r.dp;omega,by have:=r.un;omega,r.gd⟩
theorem Room.deeper {k:Nat}{A:Around}(r:Room (k+1) A)(env:Env):Room k (A.deeper env) :=
 ⟨r.hd,by have:=r.dp;show A.depth+1+3*k+5<_;omega,by have:=r.un;show A.units+3+16*k+200<_;omega,r.gd⟩
theorem Room.depth {k:Nat}{A:Around}(r:Room k A):A.depth<recursionLimit:=by have:=r.dp;omega
theorem Room.units {k:Nat}{A:Around}(r:Room k A):A.units+64<cLine:=by have:=r.un;omega
noncomputable def iY:TA:=fun _ H Q=>Q [] H
noncomputable def b7 (ta:TE)(tr:TA):TA:=fun σ H Q=>ta σ H fun x H1=>tr σ H1 fun xs H2=>Q (x::xs) H2
section
variable {X:Cx}{e:Expr}{es:List Expr}{te:TE}{t:TA}{pos:Pos}
theorem bH:PA X [] iY:=fun _ _ _ _ H Q I h=>Calls.spliced_nil ⟨[],H,I,.nil,h⟩
theorem vh (ha:PE X e te)(hr:PA X es t)(hs:starEach (e::es) X.env=(false,eval e X.env)::starEach es X.env:=by rfl):PA X (e::es) (b7 te t):=by
 intro pos pins s σ H Q I h
 rw[hs]
 show wpAny _ _ (spliced ((false,eval e X.env)::backTo pos (starEach es X.env))) _ _ s
 refine Calls.spliced_cons (thn (ha pins s σ H _ I h) fun u s1 ⟨x,H1,I1,r1,q1⟩=>?_)
 exact thn (hr pos pins s1 σ H1 _ I1 q1) fun us s2 ⟨xs,H2,I2,r2,q2⟩=>⟨x::xs,H2,I2,.cons r1 r2,q2⟩
noncomputable def zH (t:TA):TE:=fun σ H Q=>t σ H fun xs H1=>xs.length≤sizeLine∧∀p,H1 p=none→Q (.ref p) (upd H1 p (.tup xs))
noncomputable def DR (t:TA):TE:=fun σ H Q=>t σ H fun xs H1=>xs.length≤sizeLine∧∀p,H1 p=none→Q (.ref p) (upd H1 p (.lst xs))
theorem lw {x1}(h:PA X es t):PE X (.Tuple es x1 pos) (zH t):=by
 intro pins s σ H Q I hq
 refine wpAny_Tuple_spliced (thn (h pos pins s σ H _ I hq) fun us s1 ⟨xs,H1,I1,r,z,q⟩=>⟨by rw[←r.length];exact z,?_⟩)
 have hf:H1 s1.heap.objs.size=none:=I1.hok.fresh (D7 _)
 refine⟨.ref s1.heap.objs.size,upd H1 s1.heap.objs.size (.tup xs),I1.laid (t':=s1.toks) (fun b u e=>D5 _ e) (D7 _) ?_,rfl,q _ hf⟩
 exact⟨z,us,r,⟨_,EC _ rfl,rfl,_,rfl⟩⟩
theorem y9 (h:PA X es t):PE X (.List es pos) (DR t):=by
 intro pins s σ H Q I hq
 refine wpAny_List_spliced (thn (h pos pins s σ H _ I hq) fun us s1 ⟨xs,H1,I1,r,z,q⟩=>⟨by rw[←r.length];exact z,?_⟩)
 have hf:H1 s1.heap.objs.size=none:=I1.hok.fresh (D7 _)
 refine⟨.ref s1.heap.objs.size,upd H1 s1.heap.objs.size (.lst xs),I1.laid (t':=s1.toks) (fun b u e=>D5 _ e) (D7 _) ?_,rfl,q _ hf⟩
 exact⟨z,us,0,r,EC _ rfl⟩
end
noncomputable abbrev Sp:=List V→Hp→VK→XK→Prop
noncomputable abbrev CXT:=List Env→Hp→Shared→XK→Value→Shared→Prop
structure pZ (P:Program)(w:World)(K:W.Frag)(mg:Str→Option Value)(base:Heap)(A:Around)(outer:List Env)(s:Shared)(H:Hp):Prop where
 frames:A.frames=some outer
 mod:Mod K mg base
 bs:∀b o,base.get? b=some o→s.heap.get? b=some o∧H b=none
 bsz:base.objs.size≤s.heap.objs.size
 funs:s.heap.FunFrames base outer
 frf:∀b∈frs outer,H b=none
 hok:HOk P w H s.heap
 bare:AllBare s.gens
def CE (outer:List Env)(P:Program)(w:World)(H:Hp)(s:Shared)(Q:VK)(u:Value)(s':Shared):Prop :=
 ∃v H',s'.os=s.os∧AllBare s'.gens∧Un (frs outer) [] H H' s.heap s'.heap∧HOk P w H' s'.heap∧RelV v u∧Q v H'
def CR (CX:CXT)(outer:List Env)(P:Program)(w:World)(H:Hp)(s:Shared)(Q:VK)(E:XK)(r:Result)(s':Shared):Prop :=
 match r with
 | .ok (.ret u)=>CE outer P w H s Q u s'
 | .ok _=>False
 | .error e=>CX outer H s E e s'
structure i4 (P:Program)(w:World)(K:W.Frag)(mg:Str→Option Value)(base:Heap)(CX:CXT)(k:Nat)(f:Addr)(fd:FuncData)(ps:List Str)(sp:Sp):Prop where
 len:∀vs H Q E,sp vs H Q E→vs.length=ps.length
 run:∀(A:Around) (outer:List Env) (s:Shared) (H:Hp) (args:Args) (us:List Value) (vs:List V) (Q:VK) (E:XK),Room k A→pZ P w K mg base A outer s H→BindsTo s fd args (ps.zip us)→Vals vs us→sp vs H Q E →
  codeAny (model P w) A (.call (.ref f) args) (CR CX outer P w H s Q E) s
section
variable {X:Cx}{pins:List (Addr × Obj)}{σ:St}{H:Hp}{s s':Shared}
theorem Inv.env0 (I:Inv X pins σ H s):pZ X.prog X.w X.K X.mg X.base X.A X.stack s H :=
 ⟨I.ok.frames,I.ok.mod,I.bs,EX I.ok.bsz I.sz,I.stack,I.stkFree,I.hok,I.bare⟩
theorem Inv.after {Q:VK}{u:Value}(I:Inv X pins σ H s)(h:CE X.stack X.prog X.w H s Q u s'):EP X pins σ Q u s':=by
 obtain⟨v,H',os,bare,un,hok,r,q⟩:=h
 obtain⟨hh,g,d,t,os'⟩:=s'
 obtain rfl:os'=s.os:=os
 exact⟨v,H',I.call (h':=hh) (g':=g) (d':=d) (t':=t) (ch:=[]) un hok bare (fun b z=>absurd z (by simp)),r,q⟩
end
noncomputable def gw (sp:Sp)(dvs:List V)(E:XK)(t:TA):TE:=fun σ H Q=>t σ H fun vs H1=>sp (vs++dvs) H1 Q E
def Binds (K:W.Frag)(fd:FuncData)(ps:List Str)(ds:List Value):Prop :=
 ∀(s:Shared) (us:List Value),K.In s.heap→(us++ds).length=ps.length→BindsTo s fd ⟨us,[]⟩ (ps.zip (us++ds))
theorem Binds.all {K:W.Frag}{fd:FuncData}{ps:List Str}(h:∀us:List Value,us.length=ps.length→bindArgs fd ⟨us,[]⟩=pure (ps.zip us)):Binds K fd ps []:=fun s us _ hl=>by
 rw[F4] at hl ⊢
 exact .of_eq (h us hl)
def jR (CX:CXT)(X:Cx)(E:XK):Prop:=∀(pins:List (Addr × Obj)) (σ:St) (H:Hp) (s:Shared) (e:Value) (s':Shared),Inv X pins σ H s→CX X.stack H s E e s'→X.xe e s'
section
variable {X:Cx}{CX:CXT}{k:Nat}{f C:Addr}{fd:FuncData}{ps:List Str}{sp:Sp}{dvs:List V}{ds:List Value}{E:XK}{x m:Str}{p pos apos:Pos}{e o:Expr}{es:List Expr}{ta:TE}{t:TA}
theorem sN {pins:List (Addr × Obj)}{σ:St}{H:Hp}{s:Shared}{Q:VK}{us:List Value}{vs:List V}(F:i4 X.prog X.w X.K X.mg X.base CX k f fd ps sp)(hr:Room k X.A)(hb:Binds X.K fd ps ds)(hd:Vals dvs ds)(hx:jR CX X E)
  (I:Inv X pins σ H s) (r:Vals vs us) (h:sp (vs++dvs) H Q E):wpAny (model X.prog X.w) X.A (call (.ref f) us) (EP X pins σ Q) X.xe s:=by
 have r2:Vals (vs++dvs) (us++ds):=r.append hd
 have hl:(us++ds).length=ps.length:=by rw[←r2.length];exact F.len _ _ _ _ h
 refine wpAny_call (codeAny_mono (F.run X.A X.stack s H ⟨us,[]⟩ (us++ds) (vs++dvs) Q E hr I.env0 (hb s us I.kIn hl) r2 h) fun r s' hq=>?_)
 cases r with
 | error e=>exact hx pins σ H s e s' I hq
 | ok fl =>
  cases fl with
  | ret u=>exact I.after hq
  | next=>exact False.elim hq
  | brk=>exact False.elim hq
  | cont=>exact False.elim hq
theorem pB (F:i4 X.prog X.w X.K X.mg X.base CX k f fd ps sp)(hr:Room k X.A)(hg:Gl X x)(hm:X.mg x=some (.ref f))(hk:W.keepIn X.K (.ref f)=true)(hb:Binds X.K fd ps ds)(hd:Vals dvs ds)(hx:jR CX X E)
  (ha:PA X (e::es) t) (hdb:(x == ("__debug__":Str))=false:=by decide) (he:starEach (e::es) X.env=(false,eval e X.env)::starEach es X.env:=by rfl) (hpl:(backTo pos (starEach es X.env)).any (·.1)=false:=by rfl) :
  PE X (.Call (.Name x p) (e::es) [] pos) (gw sp dvs E t):=by
 intro pins s σ H Q I h
 refine wpAny_Call_Name_kw (eU I hg hm ?_ hdb)
 refine W.callWith_K (h₀:=X.base) I.ok.mod.kin hk (thn (ha pos pins s σ H _ I h) fun us s1 ⟨vs,H1,I1,r,q⟩=>⟨I1.kIn,?_⟩) he hpl
 exact sN F hr hb hd hx I1 r q
theorem tU (F:i4 X.prog X.w X.K X.mg X.base CX k f fd ps sp)(hr:Room k X.A)(hg:Gl X x)(hm:X.mg x=some (.ref f))(hk:W.keepIn X.K (.ref f)=true)(hb:Binds X.K fd ps ds)(hd:Vals dvs ds)(hx:jR CX X E)
  (hdb:(x == ("__debug__":Str))=false:=by decide):PE X (.Call (.Name x p) [] [] pos) (gw sp dvs E iY):=by
 intro pins s σ H Q I h
 refine wpAny_Call_Name_kw (eU I hg hm ?_ hdb)
 exact W.callWith_K0 I.kIn hk (sN (us:=[]) F hr hb hd hx I .nil h)
structure Mk (K:W.Frag)(C f:Addr):Prop where
 makes:W.makesIn K C=true
 init:W.findIn K (.ref C) "__init__"=some (some (.ref f))
 fn:W.isFn K (.ref f)=true
 kp:W.keepIn K (.ref C)=true
end
section
variable {X:Cx}{CX:CXT}{k:Nat}{f C:Addr}{fd:FuncData}{ps ks:List Str}{sp:Sp}{E:XK}{x m:Str}{p pos apos kpos:Pos}{e o:Expr}{es:List Expr}{kws:List Keyword}{te ta:TE}{t tk:TA}{nm:Option Str}
structure DU (K:W.Frag)(fd:FuncData)(ps ks:List Str)(g:List Value→List Value→List Value)(gV:List V→List V→List V):Prop where
 to:∀(s:Shared) (us ws:List Value),K.In s.heap→(g us ws).length=ps.length→BindsTo s fd ⟨us,ks.zip ws⟩ (ps.zip (g us ws))
 rel:∀ {vs:List V}{us:List Value}{zs:List V}{ws:List Value},Vals vs us→Vals zs ws→Vals (gV vs zs) (g us ws)
variable {g:List Value→List Value→List Value}{gV:List V→List V→List V}
end
structure ao (N P:List Str)(sc:Scope):Prop where
 kind:sc.kind=.function
 co:sc.isCoroutine=false
 gen:sc.isGenerator=false
 nd:N.Nodup
 pre:N.take P.length=P
 par:∀x∈P,sc.names.lookup x=some .local∨sc.names.lookup x=some .cell
 nofree:∀y∈sc.names,y.2≠.free
theorem kH {kindOf:Str→Option NameKind}{x:Str}:∀ {binds:List (Str × Value)}{m:Str→Option Value},(∀v,(x,v) ∉ binds)→bindL kindOf binds m x=m x
 | [],_,_=>rfl
 | (n,v)::r,m,h=>by
  unfold bindL
  rw[kH fun w hw=>h w (EH _ hw)]
  split
  ·have:x≠n:=by rintro rfl;exact h v ET
   simp[this]
  ·rfl
theorem kM {kindOf:Str→Option NameKind}{x:Str}:∀ {binds:List (Str × Value)}{m:Str→Option Value},(∀v,(x,v) ∉ binds)→bindC kindOf binds m x=m x
 | [],_,_=>rfl
 | (n,v)::r,m,h=>by
  unfold bindC
  rw[kM fun w hw=>h w (EH _ hw)]
  split
  ·rfl
  ·have:x≠n:=by rintro rfl;exact h v ET
   simp[this]
theorem k_ {kindOf:Str→Option NameKind}{x:Str}{v:Value}:∀ {P:List Str}{vs:List Value}{i:Nat}{m:Str→Option Value},P.Nodup→P[i]?=some x→vs[i]?=some v→kindOf x=some .local →
  bindL kindOf (P.zip vs) m x=some v
 | [],_,_,_,_,h,_,_=>by simp at h
 | _::_,[],_,_,_,_,h,_=>by simp at h
 | p::P,w::vs,0,m,nd,h1,h2,hk=>by
  simp at h1 h2;subst h1;subst h2
  show bindL kindOf ((p,w)::P.zip vs) m p=_
  unfold bindL
  rw[kH fun v hv=>(FZ.mp nd).1 (HL hv).1,D9 hk]
  simp
 | p::P,w::vs,i+1,m,nd,h1,h2,hk=>by
  show bindL kindOf ((p,w)::P.zip vs) m x=_
  unfold bindL
  exact k_ (i:=i) (FZ.mp nd).2 (by simpa using h1) (by simpa using h2) hk
theorem kY {kindOf:Str→Option NameKind}{x:Str}{v:Value}:∀ {P:List Str}{vs:List Value}{i:Nat}{m:Str→Option Value},P.Nodup→P[i]?=some x→vs[i]?=some v→kindOf x≠some .local →
  bindC kindOf (P.zip vs) m x=some v
 | [],_,_,_,_,h,_,_=>by simp at h
 | _::_,[],_,_,_,_,h,_=>by simp at h
 | p::P,w::vs,0,m,nd,h1,h2,hk=>by
  simp at h1 h2;subst h1;subst h2
  show bindC kindOf ((p,w)::P.zip vs) m p=_
  unfold bindC
  rw[kM fun v hv=>(FZ.mp nd).1 (HL hv).1,D_ hk]
  simp
 | p::P,w::vs,i+1,m,nd,h1,h2,hk=>by
  show bindC kindOf ((p,w)::P.zip vs) m x=_
  unfold bindC
  exact kY (i:=i) (FZ.mp nd).2 (by simpa using h1) (by simpa using h2) hk
noncomputable def start (N:List Str)(vs:List V):St:=vs.map some++List.replicate (N.length-vs.length) none
noncomputable def fC (CX:CXT)(P:Program)(w:World)(K:W.Frag)(mg:Str→Option Value)(base:Heap)(N:List Str)(qual:Str)(scope:Scope)(f:Addr)(cd:Value)(A:Around)(outer:List Env)(s:Shared)(H:Hp)(E:XK):Cx where
 prog:=P
 w:=w
 K:=K
 mg:=mg
 base:=base
 A:=A.deeper (envOfC qual scope s.heap.objs.size f cd)
 N:=N
 s₀:=s
 H₀:=H
 env:=envOfC qual scope s.heap.objs.size f cd
 outer:=outer
 stack:=envOfC qual scope s.heap.objs.size f cd::outer
 ex:=[]
 calm:=true
 fn:=fun _=>true
 pn:=[]
 xe:=fun e s'=>wpAny (model P w) (A.deeper (envOfC qual scope s.heap.objs.size f cd)) (leaving (envOfC qual scope s.heap.objs.size f cd) e) (fun _ s''=>CX outer H s E e s'') (fun e' s''=>CX outer H s E e' s'') s'
theorem mI {sc:Scope}{n:Nat}{x:Str}(h:sc.names.lookup x=some .cell):∃c,(cellsFrom n sc.names []).lookup x=some c:=by
 have q:=W.cellsFrom_some sc.names n [] (.inl h)
 exact Option.isSome_iff_exists.mp q
theorem qU {CX:CXT}{P:Program}{w:World}{K:W.Frag}{mg:Str→Option Value}{base:Heap}{N ps:List Str}{qual:Str}{scope:Scope}{f:Addr}{cd:Value}{A:Around}{outer:List Env}{s s1:Shared}{H:Hp}{E:XK}{us:List Value}{vs:List V}
  (S:ao N ps scope) (hd:A.handled=none) (e0:pZ P w K mg base A outer s H) (hl:vs.length=ps.length) (r:Vals vs us)
  (x:InCallC s s.heap.objs.size (bindL (envOfC qual scope s.heap.objs.size f cd).kindOf (ps.zip us) fun _=>none) (cellsFrom (s.heap.objs.size+1) scope.names []) (bindC (envOfC qual scope s.heap.objs.size f cd).kindOf (ps.zip us) fun _=>none) s1) :
  Inv (fC CX P w K mg base N qual scope f cd A outer s H E) [] (start N vs) H s1:=by
 have hpl:ps.length≤N.length:=by have:=ES List.length S.pre;rw[E9] at this;omega
 obtain⟨h1,tk,rfl,hk⟩:=x.done
 have noA:∀b:Addr,b ∉ (fC CX P w K mg base N qual scope f cd A outer s H E).ex:=fun b z=>absurd (show b∈([]:List Addr) from z) (by simp)
 refine⟨⟨e0.mod,S.kind,rfl,rfl,D7 _,fun y z c h1 h2=>?_,fun y hy=>?_,fun y c _ h=>?_,fun _=>hd,Around.frames_deeper e0.frames,.inr ⟨rfl,rfl⟩,fun b z=>absurd z (noA b),e0.bs,e0.bsz,fun b _ _=>noA b,fun b z=>absurd z (noA b),e0.funs,e0.frf⟩,
  rfl,e0.bare,Un.kept hk,⟨_,x.toInCall.ns,fun i y v h1 h2 h3=>?_⟩,fun y c h=>⟨_,x.cell y c h⟩,e0.hok.fresh (D7 _),fun y c h=>?_,fun p hp=>absurd (show p∈([]:List (Addr × Obj)) from hp) (by simp),e0.hok.kept hk,?_⟩
 ·exact name_of_addr x.apart (E_ h1) (E_ h2)
 ·have hy:scope.names.lookup y=some .cell∨scope.names.lookup y=some .free:=hy
  rcases hy with hy|hy
  ·exact mI hy
  ·exact absurd rfl (S.nofree _ (E_ hy))
 ·exact E8 (x.above y c (E_ h))
 ·have hi:i<vs.length:=by
   unfold start at h2
   by_cases hi:i<vs.length
   ·exact hi
   ·rw[EA (by simpa using hi)] at h2
    rw[List.getElem?_replicate] at h2
    split at h2 <;> cases h2
  have ha:vs[i]?=some v:=by
   unfold start at h2
   rw[EJ (by simpa using hi),EL] at h2
   cases e:vs[i]? with
   | none=>rw[e] at h2;cases h2
   | some a=>rw[e] at h2;cases h2;rfl
  obtain⟨u,hu,rv⟩:=r.get ha
  have hp:ps[i]?=some y:=by
   rw[←S.pre,GB (by omega)];exact h1
  have ndP:ps.Nodup:=by rw[←S.pre];exact S.nd.sublist (List.take_sublist _ _)
  refine⟨u,rv,?_⟩
  rcases S.par y (ER hp) with k|k
  ·exact .inl ⟨k,k_ ndP hp hu k⟩
  ·obtain⟨c,e⟩:=mI (n:=s.heap.objs.size+1) k
   refine .inr ⟨.inl k,c,e,?_⟩
   have q:=x.cell y c e
   rw[kY ndP hp hu (by show scope.names.lookup y≠_;rw[k];decide)] at q
   exact q
 ·exact e0.hok.fresh (E8 (x.above y c (E_ h)))
 ·unfold start
  show _=N.length
  rw[EO,EN,List.length_replicate]
  omega
theorem wf {CX:CXT}{P:Program}{w:World}{K:W.Frag}{mg:Str→Option Value}{base:Heap}{k:Nat}{f:Addr}{name qual:Str}{params:Arguments}{body:List Stmt}{scope:Scope}{dV kV doc pm cdv ct oc:Value}{an od:Option Addr}
  {osl:Array (Option Value)}{N ps:List Str}{sp:Sp} (lk:K.lookup f=some ⟨oc,od,.func (W.fnOf name qual params body scope dV kV doc pm an cdv ct),osl⟩) (hcd:W.codeIn K cdv qual=true) (S:ao N ps scope)
  (len:∀vs H Q E,sp vs H Q E→vs.length=ps.length)
  (hbody:∀(A:Around) (outer:List Env) (s:Shared) (H:Hp) (vs:List V) (Q:VK) (E:XK),Room k (A.deeper (envOfC qual scope s.heap.objs.size f cdv))→sp vs H Q E →
   ∃t,PSs (fC CX P w K mg base N qual scope f cdv A outer s H E) body t∧t { nx:=fun _ H'=>Q .non H',rt:=Q } (start N vs) H) :
  i4 P w K mg base CX (k+1) f (W.fnOf name qual params body scope dV kV doc pm an cdv ct) ps sp:=by
 refine⟨len,fun A outer s H args us vs Q E hr e0 hb r hsp=>?_⟩
 have hl:=len _ _ _ _ hsp
 have KX:K.In s.heap:=e0.mod.kin.keeps fun b o e=>(e0.bs b o e).1
 have lim:s.heap.NoLimit:=e0.mod.nolimit.keeps fun b o e=>(e0.bs b o e).1
 have hkind:∀y∈ps.zip us,scope.names.lookup y.1=some .local∨(scope.names.lookup y.1=some .cell∧((cellsFrom (s.heap.objs.size+1) scope.names []).lookup y.1).isSome=true):=fun ⟨n,v⟩ hy=>by
  rcases S.par n (HL hy).1 with q|q
  ·exact .inl q
  ·exact .inr ⟨q,W.cellsFrom_some _ _ _ (.inl q)⟩
 refine codeAny_call_function hr.depth (KX _ _ lk) rfl S.co S.gen rfl (W.codeRec_of KX hcd) (hb _ _ _ _ ?_)
 refine wpAny_newFunctionEnv_cells S.kind hkind fun env he s1 x=>?_
 subst he
 refine⟨lim.keeps x.toInCall.keep,codeAny_func ?_⟩
 obtain⟨t,ht,hq⟩:=hbody A outer s H vs Q E (hr.deeper _) hsp
 have I:Inv (fC CX P w K mg base N qual scope f cdv A outer s H E) [] (start N vs) H s1:=qU S hr.hd e0 hl r x
 refine wpAny_mono (ht [] s1 (start N vs) H _ I hq) (fun fl s' hs=>?_) fun e s' hs=>hs
 have fin:∀ {σ':St}{H':Hp}{v:V}{u:Value},Inv (fC CX P w K mg base N qual scope f cdv A outer s H E) [] σ' H' s'→RelV v u→Q v H'→CE outer P w H s Q u s' :=
  fun {σ' H' v u} J rv q=>⟨v,H',J.os,J.bare,J.base,J.hok,rv,q⟩
 cases fl with
 | ret u =>
  obtain⟨v,σ',H',J,rv,q⟩:=hs
  exact fin J rv q
 | next =>
  obtain⟨σ',H',J,q⟩:=hs
  exact fin (v:=V.non) (u:=Value.none) J rfl q
 | brk =>
  obtain⟨_,_,_,q⟩:=hs
  exact False.elim q
 | cont =>
  obtain⟨_,_,_,q⟩:=hs
  exact False.elim q
end L2
namespace L2
section
variable {X:Cx}{x:Str}{p pos:Pos}{e:Expr}{es:List Expr}{t:TA}{id T:String}{r:List V→Hp→VK→Prop}
noncomputable def tCB (r:List V→Hp→VK→Prop)(t:TA):TE:=fun σ H Q=>t σ H fun vs H1=>r vs H1 Q
theorem rH (hc:bX X (.builtin id) r)(hg:Gl X x)(hm:X.mg x=none)(hv:bootBuiltins x=some (.builtin id))(ha:PA X (e::es) t)(hn:x≠"__name__":=by decide)(hdb:(x == ("__debug__":Str))=false:=by decide)
  (he:starEach (e::es) X.env=(false,eval e X.env)::starEach es X.env:=by rfl) (hpl:(backTo pos (starEach es X.env)).any (·.1)=false:=by rfl):PE X (.Call (.Name x p) (e::es) [] pos) (tCB r t):=by
 intro pins s σ H Q I h
 refine wpAny_Call_Name_kw (ig I hg hm hv ?_ hn hdb)
 exact PyProof.Rows.callWith_builtin1 (thn (ha pos pins s σ H _ I h) fun us s1 ⟨vs,H1,I1,r1,q1⟩=>hc pins s1 σ H1 vs us Q I1 r1 q1) he hpl
theorem qP (hc:bX X (.type T) r)(hg:Gl X x)(hm:X.mg x=none)(hv:bootBuiltins x=some (.type T))(ha:PA X (e::es) t)(hn:x≠"__name__":=by decide)(hdb:(x == ("__debug__":Str))=false:=by decide)
  (he:starEach (e::es) X.env=(false,eval e X.env)::starEach es X.env:=by rfl) (hpl:(backTo pos (starEach es X.env)).any (·.1)=false:=by rfl):PE X (.Call (.Name x p) (e::es) [] pos) (tCB r t):=by
 intro pins s σ H Q I h
 refine wpAny_Call_Name_kw (ig I hg hm hv ?_ hn hdb)
 exact FR (thn (ha pos pins s σ H _ I h) fun us s1 ⟨vs,H1,I1,r1,q1⟩=>hc pins s1 σ H1 vs us Q I1 r1 q1) he hpl
end
end L2
namespace HT
open PySem PyProof.Rows
section
open PySem.SeqAt
open PySem.AutoSeq1 (wpAny_loadPart')
open PySem.MeetsSeq PySem.MeetsSeq2 PySem.MeetsSeq3
end
section
variable {prog:Program}{w:World}{A:Around}{E:Value→Shared→Prop}{s:Shared}
theorem cat_tup {t b:Addr}{vs ws:List Value}{Q:Value→Shared→Prop}(ht:IsTup s.heap t vs.toArray)(hb:IsTup s.heap b ws.toArray)(hv:vs≠[])
  (h1:ws=[]→Q (.ref t) s) (h2:ws≠[]→Q (.ref s.heap.objs.size) { s with heap:=s.heap.push { cls:=.type "tuple",data:=.seq (vs++ws).toArray } })
  (hsz:vs.length+ws.length≤sizeLine):wpAny (model prog w) A (binaryOp .Add (.ref t) (.ref b)) Q E s:=by
 obtain⟨⟨cls,dd,data,sl⟩,ho,hc,n,hd⟩:=id ht
 obtain⟨⟨cls2,dd2,data2,sl2⟩,ho2,hc2,n2,hd2⟩:=id hb
 simp only at hc hd hc2 hd2
 subst hc hd hc2 hd2
 have e:vs.toArray++ws.toArray=(vs++ws).toArray:=by simp
 by_cases hw:ws=[]
 ·exact concat_meets ⟨_,ho,rfl⟩ ⟨_,ho2,rfl⟩ noFill_tuple_add seq_tuple_add GM GI (GC _ _)
   (tuple_addW1 t b vs.toArray ws.toArray n n2 dd dd2 sl sl2 (by simpa using hv) (by simp[hw])) ⟨ho,ho2,h1 hw⟩
 ·refine concat_meets ⟨_,ho,rfl⟩ ⟨_,ho2,rfl⟩ noFill_tuple_add seq_tuple_add GM GI (GC _ _)
   (tuple_addW2 t b vs.toArray ws.toArray n n2 dd dd2 sl sl2 (by simpa using hv) (by simpa using hw) (by rw[ED,ED];exact hsz)) ⟨ho,ho2,?_⟩
  rw[e]
  exact h2 hw
noncomputable def sIx (n d:Nat):Option Int→Nat
 | none=>d
 | some v=>if v<0 then (v+(n:Int)).toNat else min v.toNat n
theorem sIx_none (n d:Nat):sIx n d none=d:=rfl
theorem sIx_nat (n d k:Nat):sIx n d (some (k:Int))=min k n:=by
 show (if (k:Int)<0 then ((k:Int)+(n:Int)).toNat else min (k:Int).toNat n)=min k n
 rw[D_ (by omega),Int.toNat_natCast]
theorem ya (n d:Nat)(hd:d≤n)(o:Option Int):sIx n d o≤n:=by
 cases o with
 | none=>exact hd
 | some v =>
  show (if v<0 then (v+(n:Int)).toNat else min v.toNat n)≤n
  by_cases hv:v<0
  ·rw[D9 hv];omega
  ·rw[D_ hv];exact Nat.min_le_right _ _
theorem pI (v:Int)(n d:Nat):(if v<0 then max (v+(n:Int)) 0 else min v (n:Int))=((sIx n d (some v):Nat):Int):=by
 show (if v<0 then max (v+(n:Int)) 0 else min v (n:Int))=(((if v<0 then (v+(n:Int)).toNat else min v.toNat n):Nat):Int)
 by_cases hv:v<0
 ·simp only[if_pos hv];omega
 ·simp only[if_neg hv];omega
theorem n5 (lo hi:Option Int)(n:Nat):Builtin.Slice.sliceAdjust lo hi 1 (n:Int)=(((sIx n 0 lo:Nat):Int),((sIx n n hi:Nat):Int)):=by
 have h1:¬((1:Int)<0):=by omega
 unfold Builtin.Slice.sliceAdjust
 simp only[h1,if_false]
 refine Prod.ext ?_ ?_
 ·cases lo with
  | none=>rfl
  | some v=>exact pI v n 0
 ·cases hi with
  | none=>rfl
  | some v=>exact pI v n n
theorem nU (i j:Nat):Builtin.Slice.slicePlaces (i:Int) (j:Int) 1=j-i:=by
 unfold Builtin.Slice.slicePlaces
 have h1:(1:Int) > 0:=by omega
 simp only[h1,if_true,Int.ediv_one]
 split <;> omega
theorem ji {v:Value}{o:Option Int}{Q:Option Int→Shared→Prop}(p:IsPart v o)(h:Q o s):wpAny (model prog w) A (Builtin.Slice.slicePartIndex v) Q E s:=by
 cases p with
 | none=>exact slicePart_none h
 | int i t=>exact slicePart_int h
theorem sliceApplied_gen {sl:Addr}{vl vu:Value}{lo hi:Option Int}{n:Nat}{Q:Int × Int × Nat→Shared→Prop}(hs:s.heap.IsSliceOf sl vl vu .none)(pl:IsPart vl lo)(pu:IsPart vu hi)
  (h:Q (((sIx n 0 lo:Nat):Int),1,sIx n n hi-sIx n 0 lo) s):wpAny (model prog w) A (Builtin.Slice.sliceApplied (.ref sl) (pure (n:Int))) Q E s:=by
 obtain⟨os,hos,hcs,hds⟩:=id hs
 unfold Builtin.Slice.sliceApplied Builtin.Slice.sliceFields
 refine D4 (D4 (wpAny_field hos hds (x:=vl) rfl (D4 (wpAny_field hos hds (x:=vu) rfl (D4 (wpAny_field hos hds (x:=.none) rfl (EG ?_)))))))
 refine D4 (slicePart_none ?_)
 show wpAny _ _ (if ((1:Int) == 0)=true then _ else _) _ _ s
 rw[D_ (by decide)]
 refine D4 (ji pl (D4 (ji pu (D4 (EG ?_)))))
 show wpAny _ _ (match Builtin.Slice.sliceAdjust lo hi 1 (n:Int) with|(lo,hi)=>pure (lo,(1:Int),Builtin.Slice.slicePlaces lo hi 1)) _ _ s
 rw[n5 lo hi n]
 show wpAny _ _ (pure (((sIx n 0 lo:Nat):Int),(1:Int),Builtin.Slice.slicePlaces ((sIx n 0 lo:Nat):Int) ((sIx n n hi:Nat):Int) 1)) _ _ s
 rw[nU]
 exact EG h
theorem rD (xs:Array Value)(i k:Nat):((List.range k).filterMap fun (m:Nat)=>xs[((i:Int)+(m:Int)*1).toNat]?).toArray=((xs.toList.drop i).take k).toArray:=by
 have e:(fun (m:Nat)=>xs[((i:Int)+(m:Int)*1).toNat]?)=fun m=>xs[i+m]?:=by
  funext m
  have:((i:Int)+(m:Int)*1).toNat=i+m:=by omega
  rw[this]
 rw[e]
 have:=pick_run xs i k
 rw[List.filterMap_map] at this
 have e2:((fun x=>xs[x]?) ∘ fun x=>i+x)=fun m=>xs[i+m]?:=rfl
 rw[e2] at this
 rw[this]
theorem getItem_tuple_cut {t sl:Addr}{items:Array Value}{vl vu:Value}{lo hi:Option Int}{Q:Value→Shared→Prop}(ht:IsTup s.heap t items)(hs:s.heap.IsSliceOf sl vl vu .none)(pl:IsPart vl lo)(pu:IsPart vu hi)
  (hw:¬(sIx items.size 0 lo=0∧sIx items.size items.size hi=items.size))
  (h:Q (.ref s.heap.objs.size) { s with heap:=s.heap.push { cls:=.type "tuple",data:=.seq ((items.toList.drop (sIx items.size 0 lo)).take (sIx items.size items.size hi-sIx items.size 0 lo)).toArray } })
  (hsz:items.size≤sizeLine):wpAny (model prog w) A (getItem (.ref t) (.ref sl)) Q E s:=by
 have htake:sizeOk (.seq ((items.toList.drop (sIx items.size 0 lo)).take (sIx items.size items.size hi-sIx items.size 0 lo)).toArray):=by
  show ((items.toList.drop (sIx items.size 0 lo)).take (sIx items.size items.size hi-sIx items.size 0 lo)).toArray.size≤sizeLine
  rw[ED,E9,F2,FA]
  omega
 have hj:sIx items.size items.size hi≤items.size:=ya _ _ (D7 _) hi
 obtain⟨os,hos,hcs,hds⟩:=id hs
 have hTs:s.TypeIs (.ref sl) "slice":=⟨os,hos,hcs⟩
 unfold getItem
 try with_reducible refine FV ?_
 first|refine D4 (EG ?_)|skip
 refine D4 (wpAny_sequenceKey ht.typeIs (by decide) ?_)
 refine D4 (wpAny_callSpecial?_slot (name:=Str.ofString "__getitem__") ht.typeIs FJ
  (wpAny_call_entry FJ ht.typeIs entry_tuple_getitem ?_ (args_tuple_getitem _ _)))
 show wpAny _ _ (Builtin.Tuple.tupleItemsOf (.ref t) >>= _) _ _ s
 refine D4 (tupleItemsOf_ ht ?_)
 refine D4 (wpAny_typeOf hTs ?_)
 rw[D9 (by decide)]
 refine D4 (sliceApplied_gen hs pl pu ?_)
 have hno:¬((((sIx items.size 0 lo:Nat):Int) == 0 && (1:Int) == 1 && (sIx items.size items.size hi-sIx items.size 0 lo) == items.size)=true):=by
  intro q
  rw[D6,D6] at q
  have q1:((sIx items.size 0 lo:Nat):Int)=0:=eq_of_beq q.1.1
  have q2:sIx items.size items.size hi-sIx items.size 0 lo=items.size:=eq_of_beq q.2
  exact hw ⟨by omega,by omega⟩
 show wpAny _ _ (if (((sIx items.size 0 lo:Nat):Int) == 0 && (1:Int) == 1 && (sIx items.size items.size hi-sIx items.size 0 lo) == items.size)=true then _ else _) _ _ s
 rw[D_ hno,rD]
 first
  | exact D4 (m:=Builtin.Tuple.tupleExact _) (wpAny_newObj_type (EG ⟨_,rfl,EG h⟩) htake)
  | exact D4 (m:=Builtin.Tuple.tupleExact _) (wpAny_newObj_type (D4 (EG (EG ⟨_,rfl,EG h⟩))) htake)
  | exact D4 (D4 (m:=Builtin.Tuple.tupleExact _) (wpAny_newObj_type (EG (EG ⟨_,rfl,EG h⟩)) htake))
  | exact D4 (D4 (m:=Builtin.Tuple.tupleExact _) (wpAny_newObj_type (EG ⟨_,rfl,EG h⟩) htake))
end
end HT
namespace L2
noncomputable abbrev TO:=St→Hp→(Option Int→Hp→Prop)→Prop
def PO (X:Cx)(e:Option Expr)(t:TO):Prop :=
 ∀(pins:List (Addr × Obj)) (s:Shared) (σ:St) (H:Hp) (Q:Option Int→Hp→Prop),Inv X pins σ H s→t σ H Q →
  wpAny (model X.prog X.w) X.A (evalPart e X.env) (fun u s'=>∃o H',Inv X pins σ H' s'∧IsPart u o∧Q o H') X.xe s
noncomputable def vS:TO:=fun _ H Q=>Q none H
noncomputable def B6 (t:TE):TO:=fun σ H Q=>t σ H fun x H1=>∃i,x=.int i∧Q (some i) H1
section
variable {X:Cx}{e:Expr}{te:TE}{lo hi:Option Expr}{tl th:TO}{pos p2:Pos}
theorem u8:PO X none vS:=by
 intro pins s σ H Q I h
 rw[evalPart_none]
 exact EG ⟨none,H,I,.none,h⟩
theorem uA (h:PE X e te):PO X (some e) (B6 te):=by
 intro pins s σ H Q I hw
 rw[evalPart_some]
 refine thn (h pins s σ H _ I hw) fun u s1 ⟨x,H1,I1,r1,q1⟩=>?_
 obtain⟨i,rfl,q⟩:=q1
 obtain⟨t,rfl⟩:=r1
 exact⟨some i,H1,I1,.int i t,q⟩
def SlR (X:Cx)(r:V→Option Int→Option Int→Hp→VK→Prop):Prop :=
 ∀(pins:List (Addr × Obj)) (s:Shared) (σ:St) (H:Hp) (x:V) (v vl vu:Value) (lo hi:Option Int) (sl:Addr) (Q:VK),Inv X pins σ H s→RelV x v→s.heap.IsSliceOf sl vl vu .none→IsPart vl lo→IsPart vu hi→r x lo hi H Q →
  ∃T id,typeLookup (.type T) "__getitem__"=pure (some (.builtin id))∧s.TypeIs v T∧wpAny (model X.prog X.w) X.A (getItem v (.ref sl)) (EP X pins σ Q) X.xe s
noncomputable def tSl (r:V→Option Int→Option Int→Hp→VK→Prop)(te:TE)(tl th:TO):TE:=fun σ H Q=>te σ H fun x H1=>tl σ H1 fun l H2=>th σ H2 fun u H3=>r x l u H3 Q
theorem sO {r:V→Option Int→Option Int→Hp→VK→Prop}(hr:SlR X r)(he:PE X e te)(hl:PO X lo tl)(hu:PO X hi th):PE X (.Subscript e (.Slice lo hi none p2) pos) (tSl r te tl th):=by
 intro pins s σ H Q I h
 refine Subscript_ (thn (he pins s σ H _ I h) fun v s1 ⟨x,H1,I1,r1,q1⟩=>?_)
 refine wpAny_Slice (thn (hl pins s1 σ H1 _ I1 q1) fun vl s2 ⟨l,H2,I2,pl,q2⟩=>thn (hu pins s2 σ H2 _ I2 q2) fun vu s3 ⟨u,H3,I3,pu,q3⟩=>?_)
 rw[evalPart_none]
 refine EG ?_
 have I4:Inv X pins σ H3 { s3 with heap:=s3.heap.push { cls:=.type "slice",data:=.fields #[vl,vu,.none] } }:=I3.kept (t':=s3.toks) fun b ob q=>D5 _ q
 obtain ⟨T,id,hT,ht,hg⟩:=hr pins { s3 with heap:=s3.heap.push { cls:=.type "slice",data:=.fields #[vl,vu,.none] } } σ H3 x v vl vu l u s3.heap.objs.size Q I4 r1 (Heap.IsSliceOf.new ..) pl pu q3
 show wpAny (model X.prog X.w) X.A (subscriptTail e (.Slice lo hi none p2) v (.ref s3.heap.objs.size)) (EP X pins σ Q) X.xe { s3 with heap:=s3.heap.push { cls:=.type "slice",data:=.fields #[vl,vu,.none] } }
 exact tail_any (ops:=[.ref s3.heap.objs.size,v]) ht hT hg (by with_unfolding_all rfl)
noncomputable def j6 (xs:List V)(lo hi:Option Int):List V:=(xs.drop (HT.sIx xs.length 0 lo)).take (HT.sIx xs.length xs.length hi-HT.sIx xs.length 0 lo)
theorem iC (xs:List V)(lo hi:Option Int):(j6 xs lo hi).length≤xs.length:=by
 unfold j6
 rw[E9,F2]
 omega
noncomputable def CG (K:W.Frag):V→Option Int→Option Int→Hp→VK→Prop:=fun x lo hi H Q=>∃a xs,x=.ref a∧SqT K H a xs ∧
 ¬(HT.sIx xs.length 0 lo=0∧HT.sIx xs.length xs.length hi=xs.length)∧∀p,H p=none→Q (.ref p) (upd H p (.tup (j6 xs lo hi)))
theorem xC:SlR X (CG X.K):=by
 intro pins s σ H x v vl vu lo hi sl Q I rx hs pl pu h
 obtain⟨a,xs,rfl,hx,hw,q⟩:=h
 cases rx
 obtain⟨its,r,ht,hz⟩:=I.tuple hx
 have hlen:its.toArray.size=xs.length:=by rw[ED];exact r.length.symm
 refine ⟨"tuple",_,PyProof.Rows.slot_tuple_getitem.lookup,ht.typeIs,?_⟩
 refine HT.getItem_tuple_cut ht hs pl pu (by rw[hlen];exact hw) ?_ (by rw[hlen];exact hz)
 rw[hlen]
 refine⟨.ref s.heap.objs.size,_,I.laid (t':=s.toks) (o:=.tup (j6 xs lo hi)) (fun b ob q=>D5 _ q) (D7 _) ?_,rfl,q _ (I.hok.fresh (D7 _))⟩
 exact⟨EX (iC xs lo hi) hz,_,(r.drop (HT.sIx xs.length 0 lo)).take (HT.sIx xs.length xs.length hi-HT.sIx xs.length 0 lo),IsTup.new _ _⟩
noncomputable def Az (K:W.Frag):R2:=fun x y H Q=>∃a b xs ys,x=.ref a∧y=.ref b∧SqT K H a xs∧SqT K H b ys∧xs≠[]∧xs.length+ys.length≤sizeLine ∧
 (ys=[]→Q (.ref a) H)∧(ys≠[]→∀p,H p=none→Q (.ref p) (upd H p (.tup (xs++ys))))
theorem Vals.nil_iff {xs:List V}{us:List Value}(r:Vals xs us):us=[]↔xs=[]:=by
 cases r with
 | nil=>simp
 | cons _ _=>simp
theorem uG:OpR X (binaryOp .Add) (Az X.K):=by
 intro pins s σ H x y v u Q I rx ry h
 obtain⟨a,b,xs,ys,rfl,rfl,ha,hb,hx,hz,q1,q2⟩:=h
 cases rx
 cases ry
 obtain⟨its,r1,p1,_⟩:=I.tuple ha
 obtain⟨its2,r2,p2,_⟩:=I.tuple hb
 refine HT.cat_tup p1 p2 (fun z=>hx (r1.nil_iff.mp z)) (fun z=>⟨.ref a,H,I,rfl,q1 (r2.nil_iff.mp z)⟩) (fun z=>?_) (by rw[←r1.length,←r2.length];exact hz)
 refine⟨.ref s.heap.objs.size,_,I.laid (t':=s.toks) (o:=.tup (xs++ys)) (fun b ob q=>D5 _ q) (D7 _) ?_,rfl,q2 (fun w=>z (r2.nil_iff.mpr w)) _ (I.hok.fresh (D7 _))⟩
 exact⟨by rw[EO];exact hz,_,r1.append r2,IsTup.new _ _⟩
end
end L2
namespace L2
noncomputable def ixN (n:Nat)(i:Int):Option Nat:=if 0≤i then (if i<n then some i.toNat else none) else if -(n:Int)≤i then some (i+n).toNat else none
noncomputable def atI {α:Type}(xs:List α)(i:Int):Option α:=(ixN xs.length i).bind fun j=>xs[j]?
theorem o4 {n:Nat}{i:Int}{j:Nat}(h:ixN n i=some j):seqIndex? i n=some j∧j<n∧-(n:Int)≤i∧i<n:=by
 unfold ixN at h
 by_cases h0:0≤i
 ·rw[D9 h0] at h
  by_cases h1:i<n
  ·rw[D9 h1] at h
   have e:i.toNat=j:=EU h
   exact⟨by rw[seqIndex_of h0 h1,e],by omega,by omega,h1⟩
  ·rw[D_ h1] at h;cases h
 ·rw[D_ h0] at h
  by_cases h1:-(n:Int)≤i
  ·rw[D9 h1] at h
   have e:(i+n).toNat=j:=EU h
   exact⟨by rw[seqIndex_neg (by omega) h1,e],by omega,h1,by omega⟩
  ·rw[D_ h1] at h;cases h
theorem l' {α:Type}{xs:List α}{i:Int}{v:α}(h:atI xs i=some v):∃j,seqIndex? i xs.length=some j∧xs[j]?=some v∧j<xs.length∧-(xs.length:Int)≤i∧i<xs.length:=by
 unfold atI at h
 cases e:ixN xs.length i with
 | none=>rw[e] at h;cases h
 | some j =>
  rw[e] at h
  obtain⟨h1,h2,h3,h4⟩:=o4 e
  exact⟨j,h1,h,h2,h3,h4⟩
theorem cS {α:Type}{xs:List α}{j:Nat}{v:α}(h:xs[j]?=some v):atI xs (j:Int)=some v:=by
 have hj:j<xs.length:=(D3.mp h).1
 have e:ixN xs.length (j:Int)=some j:=by
  unfold ixN
  rw[D9 (by omega),D9 (by omega)];simp
 unfold atI;rw[e];exact h
def o6 (b:Expr):Prop:=∀o i,subscripted b false o i=operate [o,i] (getItem o i)
def IxR (X:Cx)(r:R2):Prop :=
 ∀(value slice:Expr) (pins:List (Addr × Obj)) (s:Shared) (σ:St) (H:Hp) (x y:V) (v u:Value) (Q:VK),Inv X pins σ H s→RelV x v→RelV y u→r x y H Q →
  subscripted slice false v u=operate [v,u] (getItem v u)→wpAny (model X.prog X.w) X.A (subscriptTail value slice v u) (EP X pins σ Q) X.xe s
def MtR (X:Cx)(id:String)(r:V→List V→Hp→VK→Prop):Prop :=
 ∀(pins:List (Addr × Obj)) (s:Shared) (σ:St) (H:Hp) (x:V) (xs:List V) (v:Value) (us:List Value) (Q:VK),Inv X pins σ H s→RelV x v→Vals xs us→r x xs H Q →
  wpAny (model X.prog X.w) X.A (call (.builtin id) (v::us)) (EP X pins σ Q) X.xe s
section
variable {X:Cx}{a b:Expr}{ta tb:TE}{pos:Pos}
theorem BL {r:R2}(hr:IxR X r)(ha:PE X a ta)(hb:PE X b tb)(hs:o6 b):PE X (.Subscript a b pos) (tOp r ta tb):=by
 intro pins s σ H Q I h
 exact Subscript_ (yr ha hb I h fun v u s2 x y H2 I2 rx ry q=>hr a b pins s2 σ H2 x y v u Q I2 rx ry q (hs _ _))
noncomputable def DM (K:W.Frag):R2:=fun x y H Q=>∃p xs i v,x=.ref p∧y=.int i∧SqL K H p xs∧atI xs i=some v∧Q v H
noncomputable def CV (K:W.Frag):R2:=fun x y H Q=>∃p xs i v,x=.ref p∧y=.int i∧SqT K H p xs∧atI xs i=some v∧Q v H
noncomputable def Dj:R2:=fun x y H Q=>∃z i c,x=.str z∧y=.int i∧z.length≤sizeLine∧atI z.cps.toList i=some c∧Q (.str ⟨#[c]⟩) H
theorem uI:IxR X (DM X.K):=by
 intro value slice pins s σ H x y v u Q I rx ry h hs
 obtain⟨p,xs,i,z,rfl,rfl,hq,he,q⟩:=h
 cases rx
 obtain⟨t,rfl⟩:=ry
 obtain⟨its,r,pl,hz⟩:=I.list hq
 obtain⟨j,h1,h2,h3,h4,h5⟩:=l' he
 obtain⟨w,ew,rw'⟩:=r.get h2
 have hl:=r.length
 have hn:=f'
 have fin:EP X pins σ Q w s:=⟨z,H,I,rw',q⟩
 by_cases h0:0≤i
 ·have hj:i.toNat=j:=by
   rw[seqIndex_of h0 h5] at h1
   exact EU h1
  exact item_listR pl.isList h0 (by omega) (by rw[hj];simpa using ew) fin hs
 ·have hj:(i+(its.toArray.size:Int)).toNat=j:=by
   rw[seqIndex_neg (by omega) h4] at h1
   rw[ED,←hl]
   exact EU h1
  exact subscriptTail_builtinR (x:=w) pl.isList.typeIs slot_list_getitem.lookup
   (wpAny_getItem_list_neg (Q:=fun r s'=>r=w∧EP X pins σ Q r s') pl.isList (by omega) (by rw[ED] <;> omega) (by omega) (by rw[hj];simpa using ew) ⟨rfl,fin⟩) hs
theorem xz:IxR X (CV X.K):=by
 intro value slice pins s σ H x y v u Q I rx ry h hs
 obtain⟨p,xs,i,z,rfl,rfl,hq,he,q⟩:=h
 cases rx
 obtain⟨t,rfl⟩:=ry
 obtain⟨its,r,pl,hz⟩:=I.tuple hq
 obtain⟨j,h1,h2,h3,h4,h5⟩:=l' he
 obtain⟨w,ew,rw'⟩:=r.get h2
 have hl:=r.length
 have hn:=f'
 have fin:EP X pins σ Q w s:=⟨z,H,I,rw',q⟩
 exact subscriptTail_builtinR (x:=w) pl.typeIs slot_tuple_getitem.lookup
  (getItem_tuple (j:=j) (Q:=fun r s'=>r=w∧EP X pins σ Q r s') pl (by omega) (by omega) (by rw[ED,←hl];exact h1) (by simpa using ew) ⟨rfl,fin⟩) hs
theorem wN:IxR X Dj:=by
 intro value slice pins s σ H x y v u Q I rx ry h hs
 obtain⟨z,i,c,rfl,rfl,hz,he,q⟩:=h
 obtain⟨t,rfl⟩:=rx
 obtain⟨t',rfl⟩:=ry
 obtain⟨j,h1,h2,h3,h4,h5⟩:=l' he
 have hl:z.cps.toList.length=z.length:=by simp[Str.length]
 rw[hl] at h1 h4 h5
 have hn:=f'
 exact tail_any (typeIs_str s z t) slot_str_getitem.lookup (getItem_str (c:=c) (by
  have e1:decide (i < -(2 ^ 63:Int))=false:=E2 (by omega)
  have e2:decide (i ≥ 2 ^ 63)=false:=E2 (by omega)
  rw[e1,e2,Bool.or_false]) (by rw[h1];simpa using h2) ⟨.str ⟨#[c]⟩,H,I.tok _,⟨_,rfl⟩,q⟩) hs
theorem oB (its:List Value)(n j:Nat)(u:Value):Obj.mapSeq (·.setIfInBounds j u) { cls:=.type "list",data:=.seq its.toArray n }={ cls:=.type "list",data:=.seq (its.set j u).toArray n }:=by
 simp[Obj.mapSeq]
theorem Inv.lst {pins:List (Addr × Obj)}{σ:St}{H:Hp}{s:Shared}{p:Addr}{xs:List V}(I:Inv X pins σ H s)(h:H p=some (.lst xs)) :
  ∃(its:List Value) (n:Nat),Vals xs its∧s.heap.get? p=some { cls:=.type "list",data:=.seq its.toArray n }∧xs.length≤sizeLine:=by
 obtain⟨z,its,n,r,e⟩:=I.hok p _ h
 exact⟨its,n,r,e,z⟩
theorem Inv.lstUpd {pins:List (Addr × Obj)}{σ:St}{H:Hp}{s:Shared}{p:Addr}{xs ys:List V}{its its':List Value}{n n':Nat}{f:Obj→Obj}(I:Inv X pins σ H s)(h:H p=some (.lst xs))
  (ho:s.heap.get? p=some { cls:=.type "list",data:=.seq its.toArray n }) (hf:f { cls:=.type "list",data:=.seq its.toArray n }={ cls:=.type "list",data:=.seq its'.toArray n' }) (r:Vals ys its') (hz:ys.length≤sizeLine) (t:Nat) :
  Inv X pins σ (upd H p (.lst ys)) { s with heap:=s.heap.update p f,toks:=t }:=by
 have e:(s.heap.update p f).get? p=some { cls:=.type "list",data:=.seq its'.toArray n' }:=by
  rw[F6 f ho (by rw[hf] <;> rfl),hf]
 refine I.write (x:=p) (e:=p) (by rw[h];trivial) (.inl rfl) (fun b u hb q=>(E4 _ _ (Ne.symm hb)).trans q) ⟨_,e⟩ ?_
 exact⟨hz,its',n',r,e⟩
noncomputable def BW:V→V→V→Hp→(Hp→Prop)→Prop:=fun o i v H Q=>∃p xs k j,o=.ref p∧i=.int k∧H p=some (.lst xs)∧ixN xs.length k=some j∧Q (upd H p (.lst (xs.set j v)))
theorem uc:zc X BW:=by
 intro pins s σ H o i v ov iv u Q I ro ri rv h
 obtain⟨p,xs,k,j,rfl,rfl,hp,hj,q⟩:=h
 cases ro
 obtain⟨t,rfl⟩:=ri
 obtain⟨its,n,r,ho,hz⟩:=I.lst hp
 obtain⟨h1,h2,h3,h4⟩:=o4 hj
 have hl:=r.length
 have hn:=f'
 have I':Inv X pins σ (upd H p (.lst (xs.set j v))) { s with heap:=s.heap.update p (Obj.mapSeq (·.setIfInBounds j u)) } :=
  I.lstUpd hp ho (oB its n j u) (r.set rv j) (by rw[List.length_set];exact hz) s.toks
 by_cases h0:0≤k
 ·have hk:k.toNat=j:=by
   rw[seqIndex_of h0 h4] at h1
   exact EU h1
  exact W.ki_setAt ho h0 (by omega) (by rw[ED,←hl];exact h4) (by rw[hk];exact⟨_,I',q⟩)
 ·have hk:(k+(its.toArray.size:Int)).toNat=j:=by
   rw[seqIndex_neg (by omega) h3] at h1
   rw[ED,←hl]
   exact EU h1
  exact W.ki_setBack ho (by omega) (by rw[ED,←hl];exact h3) (by omega) (by rw[hk];exact⟨_,I',q⟩)
theorem ls (lo hi:Option Int)(n:Nat):(sliceBounds lo hi none n).1=((HT.sIx n 0 lo:Nat):Int)∧(sliceBounds lo hi none n).2.1=((HT.sIx n n hi:Nat):Int)∧(sliceBounds lo hi none n).2.2=1:=by
 refine⟨?_,?_,rfl⟩
 ·cases lo with
  | none=>simp[sliceBounds,HT.sIx]
  | some i =>
   simp only[sliceBounds,HT.sIx,Option.getD_none,show (1:Int) > 0 by decide,if_true]
   by_cases h:i<0
   ·simp only[h,if_true] <;> omega
   ·simp only[h,if_false] <;> omega
 ·cases hi with
  | none=>simp[sliceBounds,HT.sIx]
  | some i =>
   simp only[sliceBounds,HT.sIx,Option.getD_none,show (1:Int) > 0 by decide,if_true]
   by_cases h:i<0
   ·simp only[h,if_true] <;> omega
   ·simp only[h,if_false] <;> omega
theorem j' (its:List Value)(lo hi:Option Int):slicePick its.toArray lo hi none=((its.drop (HT.sIx its.length 0 lo)).take (HT.sIx its.length its.length hi-HT.sIx its.length 0 lo)).toArray:=by
 obtain⟨h1,h2,h3⟩:=ls lo hi its.toArray.size
 unfold slicePick
 rw[h1,h2,h3]
 simp only[sliceRange_one,pick_run,List.size_toArray] <;> rfl
noncomputable def CS (K:W.Frag):V→Option Int→Option Int→Hp→VK→Prop:=fun x lo hi H Q=>∃a xs,x=.ref a∧SqL K H a xs∧∀p,H p=none→Q (.ref p) (upd H p (.lst (j6 xs lo hi)))
theorem uS:SlR X (CS X.K):=by
 intro pins s σ H x v vl vu lo hi sl Q I rx hs pl pu h
 obtain⟨a,xs,rfl,hx,q⟩:=h
 cases rx
 obtain⟨its,r,ht,hz⟩:=I.list hx
 have hlen:=r.length
 refine ⟨"list",_,slot_list_getitem.lookup,ht.isList.typeIs,?_⟩
 refine wpAny_getItem_list_slice ht.isList hs pl pu .none (by simp) ?_ (by rw[ED] <;> omega)
 rw[j',←hlen]
 refine⟨.ref s.heap.objs.size,_,I.laid (t':=s.toks) (o:=.lst (j6 xs lo hi)) (fun b ob q=>D5 _ q) (D7 _) ?_,rfl,q _ (I.hok.fresh (D7 _))⟩
 exact⟨EX (iC xs lo hi) hz,_,0,(r.drop (HT.sIx xs.length 0 lo)).take (HT.sIx xs.length xs.length hi-HT.sIx xs.length 0 lo),EC _ rfl⟩
noncomputable def eG:V→Bool
 | .non=>true
 | .bl _=>true
 | .int _=>true
 | .str _=>true
 | _=>false
noncomputable def eqV:V→V→Bool
 | .non,.non=>true
 | .bl a,.bl b=>a == b
 | .bl a,.int b=>(if a then 1 else 0) == b
 | .int a,.bl b=>a == (if b then 1 else 0)
 | .int a,.int b=>a == b
 | .str a,.str b=>a == b
 | _,_=>false
theorem zg {A:Around}{s:Shared}{y x:V}{u v:Value}(ry:RelV y u)(rx:RelV x v)(fy:eG y=true)(fx:eG x=true):SeqAt.EqAt A s u v (eqV y x):=by
 cases y with
 | non =>
  cases ry
  cases x with
  | non=>cases rx;exact SeqAt.EqAt.same _
  | bl b=>cases rx;exact SeqAt.EqAt.none_bool b
  | int b=>obtain⟨t,rfl⟩:=rx;exact SeqAt.EqAt.none_int b t
  | str b=>obtain⟨t,rfl⟩:=rx;exact SeqAt.EqAt.none_str b t
  | _=>exact absurd (show false=true from fx) D1
 | bl a =>
  cases ry
  cases x with
  | non=>cases rx;exact SeqAt.EqAt.bool_none a
  | bl b=>cases rx;exact SeqAt.EqAt.bool_bool a b
  | int b=>obtain⟨t,rfl⟩:=rx;exact SeqAt.EqAt.bool_int a b t
  | str b=>obtain⟨t,rfl⟩:=rx;exact SeqAt.EqAt.bool_str a b t
  | _=>exact absurd (show false=true from fx) D1
 | int a =>
  obtain⟨t',rfl⟩:=ry
  cases x with
  | non=>cases rx;exact SeqAt.EqAt.int_none a t'
  | bl b=>cases rx;exact SeqAt.EqAt.int_bool a t' b
  | int b=>obtain⟨t,rfl⟩:=rx;exact SeqAt.EqAt.int_int a t' b t
  | str b=>obtain⟨t,rfl⟩:=rx;exact SeqAt.EqAt.int_str a t' b t
  | _=>exact absurd (show false=true from fx) D1
 | str a =>
  obtain⟨t',rfl⟩:=ry
  cases x with
  | non=>cases rx;exact SeqAt.EqAt.str_none a t'
  | bl b=>cases rx;exact SeqAt.EqAt.str_bool a t' b
  | int b=>obtain⟨t,rfl⟩:=rx;exact SeqAt.EqAt.str_int a t' b t
  | str b=>obtain⟨t,rfl⟩:=rx;exact SeqAt.EqAt.str_str a t' b t
  | _=>exact absurd (show false=true from fx) D1
 | _=>exact absurd (show false=true from fy) D1
noncomputable def eqU (x:V)(u:Value):Bool:=match u with
 | .none=>eqV .non x
 | .bool b=>eqV (.bl b) x
 | .int i _=>eqV (.int i) x
 | .str z _=>eqV (.str z) x
 | _=>false
theorem tM {x y:V}{u:Value}(r:RelV y u)(f:eG y=true):eqU x u=eqV y x:=by
 cases y with
 | non=>cases r;rfl
 | bl b=>cases r;rfl
 | int i=>obtain⟨t,rfl⟩:=r;rfl
 | str z=>obtain⟨t,rfl⟩:=r;rfl
 | _=>exact absurd (show false=true from f) D1
theorem gJ {x:V}:∀ {xs:List V}{us:List Value},Vals xs us→xs.all eG=true→us.any (eqU x)=xs.any fun y=>eqV y x
 | _,_,.nil,_=>rfl
 | y::xs,u::us,.cons r t,f=>by
  rw[FM,D6] at f
  rw[EY,EY,tM r f.1,gJ t f.2]
theorem eE {A:Around}{s:Shared}{x:V}{v:Value}(rx:RelV x v)(fx:eG x=true):∀ {xs:List V}{us:List Value},Vals xs us→xs.all eG=true→∀u∈us,SeqAt.EqAt A s u v (eqU x u)
 | _,_,.nil,_=>fun u hu=>by cases hu
 | y::xs,u::us,.cons r t,f=>fun u' hu=>by
  rw[FM,D6] at f
  rcases E3.mp hu with rfl|hu
  ·rw[tM r f.1];exact zg r rx f.1 fx
  ·exact eE rx fx t f.2 u' hu
noncomputable def inV (x:V)(xs:List V):Bool:=xs.any fun y=>eqV y x
noncomputable def rIn (K:W.Frag)(neg:Bool):R2:=fun x y H Q=>∃p xs,y=.ref p∧(SqL K H p xs∨SqT K H p xs)∧eG x=true∧xs.all eG=true∧Q (.bl (if neg then !inV x xs else inV x xs)) H
theorem eZ:OpR X (compareOp .In) (rIn X.K false):=by
 intro pins s σ H x y v u Q I rx ry h
 obtain⟨p,xs,rfl,hq,fx,fs,q⟩:=h
 cases ry
 rcases hq with hq|hq
 ·obtain⟨its,r,pl,hz⟩:=I.list hq
  refine SeqAt.in_listAt (eqU x) pl.isList (fun w hw=>eE rx fx r fs w (by simpa using hw)) ⟨.bl _,H,I,rfl,?_⟩
  rw[show its.toArray.any (eqU x)=its.any (eqU x) by simp,gJ r fs]
  exact q
 ·obtain⟨its,r,pl,hz⟩:=I.tuple hq
  refine SeqAt.in_tupleAt (eqU x) pl (fun w hw=>eE rx fx r fs w (by simpa using hw)) ⟨.bl _,H,I,rfl,?_⟩
  rw[show its.toArray.any (eqU x)=its.any (eqU x) by simp,gJ r fs]
  exact q
theorem d_:OpR X (compareOp .NotIn) (rIn X.K true):=by
 intro pins s σ H x y v u Q I rx ry h
 obtain⟨p,xs,rfl,hq,fx,fs,q⟩:=h
 cases ry
 rcases hq with hq|hq
 ·obtain⟨its,r,pl,hz⟩:=I.list hq
  refine SeqAt.notIn_listAt (eqU x) pl.isList (fun w hw=>eE rx fx r fs w (by simpa using hw)) ⟨.bl _,H,I,rfl,?_⟩
  rw[show its.toArray.any (eqU x)=its.any (eqU x) by simp,gJ r fs]
  exact q
 ·obtain⟨its,r,pl,hz⟩:=I.tuple hq
  refine SeqAt.notIn_tupleAt (eqU x) pl (fun w hw=>eE rx fx r fs w (by simpa using hw)) ⟨.bl _,H,I,rfl,?_⟩
  rw[show its.toArray.any (eqU x)=its.any (eqU x) by simp,gJ r fs]
  exact q
theorem lC:OpR X (compareOp .NotIn) (fun x y H Q=>∃i j,x=.str i∧y=.str j∧Q (.bl (!(!(Builtin.Str.occurrences j i 0 j.length 1).isEmpty))) H):=by
 intro pins s σ H x y v u Q I rx ry h
 obtain⟨i,j,rfl,rfl,q⟩:=h
 obtain⟨t,rfl⟩:=rx
 obtain⟨t',rfl⟩:=ry
 exact notIn_str ⟨.bl _,H,I,rfl,q⟩
theorem mh:bX X (.builtin "len") (fun xs H Q=>∃p ys,xs=[.ref p]∧(SqL X.K H p ys∨SqT X.K H p ys)∧Q (.int ys.length) H):=by
 intro pins s σ H xs us Q I r h
 obtain⟨p,ys,rfl,hq,q⟩:=h
 obtain⟨u,rfl,rx⟩:=bQ r
 cases rx
 have hn:=f'
 rcases hq with hq|hq
 ·obtain⟨its,r',pl,hz⟩:=I.list hq
  have hlen:=r'.length
  exact Calls.call_len_list pl.isList (by simp only[List.size_toArray] <;> omega) ⟨.int ys.length,H,I.tok _,⟨s.toks+1,by rw[ED,hlen]⟩,q⟩
 ·obtain⟨its,r',pl,hz⟩:=I.tuple hq
  have hlen:=r'.length
  exact len_tuple pl (by simp only[List.size_toArray] <;> omega) ⟨.int ys.length,H,I.tok _,⟨s.toks+1,by rw[ED,hlen]⟩,q⟩
theorem l7:bX X (.builtin "len") (fun xs H Q=>∃z,xs=[.str z]∧z.length≤sizeLine∧Q (.int z.length) H):=by
 intro pins s σ H xs us Q I r h
 obtain⟨z,rfl,hz,q⟩:=h
 obtain⟨u,rfl,t,rfl⟩:=bQ r
 have hn:=f'
 exact len_str (by omega) ⟨.int z.length,H,I.tok _,⟨_,rfl⟩,q⟩
theorem j_:bX X (.type "tuple") (fun xs H Q=>∃p ys,xs=[.ref p]∧((SqL X.K H p ys∧∀l,H l=none→Q (.ref l) (upd H l (.tup ys)))∨(SqT X.K H p ys∧Q (.ref p) H))):=by
 intro pins s σ H xs us Q I r h
 obtain⟨p,ys,rfl,h⟩:=h
 obtain⟨u,rfl,rx⟩:=bQ r
 cases rx
 rcases h with⟨hq,q⟩|⟨hq,q⟩
 ·obtain⟨its,r',pl,hz⟩:=I.list hq
  have hlen:=r'.length
  refine call_tuple_list pl.isList (fun h' kp=>?_) (by simp only[List.size_toArray] <;> omega)
  have I1:Inv X pins σ H { s with heap:=h' }:=I.kept (t':=s.toks) kp
  have I2:Inv X pins σ (upd H h'.objs.size (.tup ys)) { s with heap:=h'.push { cls:=.type "tuple",data:=.seq its.toArray } } :=
   I1.laid (t':=s.toks) (fun b o e=>D5 _ e) (D7 _) (show ObjOk X.prog X.w _ _ _ (.tup ys) from ⟨hz,its,r',IsTup.new _ _⟩)
  exact⟨.ref h'.objs.size,_,I2,rfl,q _ (I1.hok.fresh (D7 _))⟩
 ·obtain⟨its,r',pl,hz⟩:=I.tuple hq
  exact call_tuple_same pl ⟨.ref p,H,I,rfl,q⟩
def tyV (K:W.Frag)(T:String)(x:V)(H:Hp):Prop:=match x with
 | .str _=>T="str"
 | .int _=>T="int"
 | .ref p=>(T="list"∧∃xs,SqL K H p xs)∨(T="tuple"∧∃o,K.lookup p=some o∧o.cls=.type "tuple"∧o.dict=none) ∨
   (T="dict"∧((∃kvs,H p=some (.dK kvs))∨∃kvs,H p=some (.dT kvs)))∨(T="set"∧∃S n,H p=some (.set S n))
 | _=>False
theorem sI {pins:List (Addr × Obj)}{σ:St}{H:Hp}{s:Shared}{T:String}{x:V}{v:Value}(I:Inv X pins σ H s)(r:RelV x v)(ty:tyV X.K T x H) :
  s.TypeIs v T∧∀a,v=.ref a→∃ob,s.heap.get? a=some ob∧ob.dict=none:=by
 cases x with
 | str z =>
  obtain⟨t,rfl⟩:=r
  cases (show T="str" from ty)
  exact⟨typeIs_str s z t,fun _ e=>nomatch e⟩
 | int i =>
  obtain⟨t,rfl⟩:=r
  cases (show T="int" from ty)
  exact⟨typeIs_int s i t,fun _ e=>nomatch e⟩
 | ref p =>
  cases r
  rcases ty with⟨rfl,xs,hq⟩|⟨rfl,o,hk,hc,hd⟩|⟨rfl,hk⟩|⟨rfl,S,n,hk⟩
  ·obtain⟨its,_,pl,_⟩:=I.list hq
   refine⟨pl.isList.typeIs,fun a e=>?_⟩
   cases e
   obtain⟨o,n,e,c,hd,_⟩:=pl
   exact⟨o,e,hd⟩
  ·refine⟨⟨o,I.kIn p o hk,hc⟩,fun a e=>?_⟩
   cases e
   exact⟨o,I.kIn _ o hk,hd⟩
  ·have z:∃o,s.heap.get? p=some o∧o.ExactDict:=by
    rcases hk with⟨kvs,hk⟩|⟨kvs,hk⟩
    ·obtain⟨_,_,_,_,o,_,_,e,ex,_⟩:=I.hok p _ hk
     exact⟨o,e,ex⟩
    ·obtain⟨_,_,_,_,o,_,_,e,ex,_⟩:=I.hok p _ hk
     exact⟨o,e,ex⟩
   obtain⟨o,e,ex⟩:=z
   refine⟨⟨o,e,ex.1⟩,fun a e2=>?_⟩
   cases e2
   exact⟨o,e,ex.2.1⟩
  ·obtain⟨o,_,_,_,e,ex,_⟩:=I.hok p _ hk
   refine⟨⟨o,e,ex.1⟩,fun a e2=>?_⟩
   cases e2
   exact⟨o,e,ex.2.1⟩
 | _=>exact False.elim ty
noncomputable def CH (K:W.Frag)(T:String)(r:V→List V→Hp→VK→Prop)(to:TE):TE:=fun σ H Q=>to σ H fun x H1=>tyV K T x H1∧r x [] H1 Q
noncomputable def tBM (K:W.Frag)(T:String)(r:V→List V→Hp→VK→Prop)(to:TE)(t:TA):TE:=fun σ H Q=>to σ H fun x H1=>tyV K T x H1∧t σ H1 fun xs H2=>r x xs H2 Q
variable {o e:Expr}{es:List Expr}{to:TE}{t:TA}{name:Str}{apos cpos:Pos}{T id:String}{r:V→List V→Hp→VK→Prop}
theorem sQ (pa:PlainAttrs T)(slot:Slot T name id)(hty:typeOf (.builtin id)=pure (.type "method_descriptor"))(hm:MtR X id r)(ho:PE X o to)
  (hbase:attributeBase o name X.env (eval o X.env)=eval o X.env:=by rfl) (hline:(apos.endLine == cpos.line)=true:=by rfl):PE X (.Call (.Attribute o name apos) [] [] cpos) (CH X.K T r to):=by
 intro pins s σ H Q I h
 refine wpAny_Call_method0_late hbase hline (thn (ho pins s σ H _ I h) fun v s1 ⟨x,H1,I1,r1,ty,q1⟩=>?_)
 obtain⟨h1,h2⟩:=sI I1 r1 ty
 exact⟨T,id,pa,slot,hty,h1,h2,Calls.callWith_builtin rfl (PySem.evalArgs_none (hm pins s1 σ H1 x [] v [] Q I1 r1 .nil q1))⟩
theorem jy (pa:PlainAttrs T)(slot:Slot T name id)(hty:typeOf (.builtin id)=pure (.type "method_descriptor"))(hm:MtR X id r)(ho:PE X o to)(ha:PA X (e::es) t)
  (hbase:attributeBase o name X.env (eval o X.env)=eval o X.env:=by rfl)
  (hfew:((backTo cpos (starEach (e::es) X.env)).all (fun x=>!x.1) && (backToKw cpos (keywordEach [] X.env)).all (fun x=>x.1.isSome)
   && decide ((e::es).length+([]:List Keyword).length+(if ([]:List Keyword).isEmpty then 0 else 1)<30))=true:=by rfl)
  (hline:(apos.endLine == cpos.line)=true:=by rfl) (hs:starEach (e::es) X.env=(false,eval e X.env)::starEach es X.env:=by rfl) (hplain:(backTo cpos (starEach es X.env)).any (·.1)=false:=by rfl) :
  PE X (.Call (.Attribute o name apos) (e::es) [] cpos) (tBM X.K T r to t):=by
 intro pins s σ H Q I h
 refine wpAny_Call_method_late hbase hfew hline rfl (thn (ho pins s σ H _ I h) fun v s1 ⟨x,H1,I1,r1,ty,q1⟩=>?_)
 obtain⟨h1,h2⟩:=sI I1 r1 ty
 refine⟨T,id,pa,slot,hty,h1,h2,?_⟩
 have hA:=ha cpos pins s1 σ H1 _ I1 q1
 rw[hs] at hA ⊢
 refine Calls.callWith_builtin (by show (false || (backTo cpos (starEach es X.env)).any (·.1))=false;rw[hplain] <;> rfl) (Calls.evalArgs_plain ?_)
 exact thn hA fun us s2 ⟨vs,H2,I2,r2,q2⟩=>hm pins s2 σ H2 x vs v us Q I2 r1 r2 q2
end
end L2
namespace L2
def MtM (X:Cx)(id:String)(r:V→List V→Hp→VK→Prop):Prop :=
 ∀(pins:List (Addr × Obj)) (s:Shared) (σ:St) (H:Hp) (x:V) (xs:List V) (v:Value) (us:List Value) (Q:VK),Inv X pins σ H s→RelV x v→Vals xs us→r x xs H Q →
  wpAny (model X.prog X.w) X.A (call (.builtin id) (v::us)) (EP X pins σ Q) X.xe s
theorem Vals.one:∀ {x:V}{us:List Value},Vals [x] us→∃u,us=[u]∧RelV x u
 | _,_,.cons r .nil=>⟨_,rfl,r⟩
theorem Vals.zero:∀ {us:List Value},Vals [] us→us=[]
 | _,.nil=>rfl
theorem Vals.dropLast {xs:List V}{us:List Value}(h:Vals xs us):Vals xs.dropLast us.dropLast:=by
 induction h with
 | nil=>exact .nil
 | cons r t ih =>
  cases t with
  | nil=>exact .nil
  | cons q t'=>exact .cons r ih
theorem Vals.rep {xs:List V}{us:List Value}(h:Vals xs us):∀k:Nat,Vals (List.replicate k xs).flatten (List.replicate k us).flatten
 | 0=>.nil
 | k+1=>by
  rw[FD,FD,F0,F0]
  exact Vals.append h (Vals.rep h k)
theorem nV {α:Type}(l:List α):l.eraseIdx (l.length-1)=l.dropLast:=by
 induction l with
 | nil=>rfl
 | cons a r ih =>
  cases r with
  | nil=>rfl
  | cons b r =>
   have e:(a::b::r).length-1=((b::r).length-1)+1:=by
    have h1:(a::b::r).length=r.length+2:=rfl
    have h2:(b::r).length=r.length+1:=rfl
    omega
   rw[e,List.eraseIdx_cons_succ,ih]
   all_goals rfl
theorem lp (its:List Value):∀(k:Nat) (acc:List Value),
  List.foldl (fun x1 x2=>x1++x2) acc.toArray (List.replicate k its.toArray)=(acc++(List.replicate k its).flatten).toArray
 | 0,acc=>by simp
 | k+1,acc=>by
  have e:acc.toArray++its.toArray=(acc++its).toArray:=by simp
  have e2:(acc++its)++(List.replicate k its).flatten=acc++(List.replicate (k+1) its).flatten:=by
   rw[FD,F0,FO]
  rw[←e2,←lp its k (acc++its),←e,FD,GE]
section
variable {X:Cx}{pins:List (Addr × Obj)}{σ:St}{H:Hp}{s:Shared}{l b:Addr}{xs ys zs:List V}
theorem Inv.lset {its its':List Value}{n:Nat}{f:Array Value→Array Value}{t':Nat}(I:Inv X pins σ H s)(hH:H l=some (.lst xs))
  (e:s.heap.get? l=some { cls:=.type "list",data:=.seq its.toArray n }) (hf:f its.toArray=its'.toArray) (hv:Vals ys its') (hz:ys.length≤sizeLine) :
  Inv X pins σ (upd H l (.lst ys)) { s with heap:=s.heap.update l (Obj.mapSeq f),toks:=t' }:=by
 have q:=PySem.IsL.update e f
 rw[hf] at q
 refine I.write (x:=l) (e:=l) (by rw[hH];exact trivial) (.inl rfl) (fun b' u hb hu=>(E4 s.heap (Obj.mapSeq f) (Ne.symm hb)).trans hu) ⟨_,q⟩ ?_
 exact⟨hz,its',_,hv,q⟩
theorem Inv.lnew {its:List Value}{t':Nat}(I:Inv X pins σ H s)(hv:Vals ys its)(hz:ys.length≤sizeLine) :
  Inv X pins σ (upd H s.heap.objs.size (.lst ys)) { s with heap:=s.heap.push { cls:=.type "list",data:=.seq its.toArray },toks:=t' } :=
 I.laid (fun _ _ q=>D5 _ q) (D7 _) ⟨hz,its,0,hv,EC _ rfl⟩
theorem Inv.fresh (I:Inv X pins σ H s):H s.heap.objs.size=none:=I.hok.fresh (D7 _)
theorem Inv.lstM (I:Inv X pins σ H s)(hH:H l=some (.lst xs)):xs.length≤sizeLine∧∃(its:List Value) (n:Nat),Vals xs its∧xs.length=its.length∧s.heap.get? l=some { cls:=.type "list",data:=.seq its.toArray n }:=by
 obtain⟨z,its,n,r,e⟩:=I.hok l _ hH
 exact⟨z,its,n,r,r.length,e⟩
theorem ny {n:Nat}(h:n≤sizeLine):Builtin.List.listTooLong n=false:=by
 unfold Builtin.List.listTooLong
 exact E2 (by omega)
end
section
variable {X:Cx}
noncomputable def uF:V→List V→Hp→VK→Prop:=fun x vs H Q=>∃l xs y,x=.ref l∧vs=[y]∧H l=some (.lst xs)∧xs.length<sizeLine∧Q .non (upd H l (.lst (xs++[y])))
theorem kF:MtM X "list.append" uF:=by
 intro pins s σ H x vs v us Q I rx rv h
 obtain⟨l,xs,y,rfl,rfl,hH,hz,q⟩:=h
 cases rx
 obtain⟨u,rfl,ru⟩:=rv.one
 obtain⟨z,its,n,r,hl,e⟩:=I.lstM hH
 refine call_meets F.slot_list_append ⟨_,e,rfl⟩ F.entry_list_append (F.args_list_append_2 _ _) (PySem.list_append l its.toArray n u (by rw[ED];omega)) ⟨e,?_⟩
 refine⟨.non,_,I.lset (its':=its++[u]) hH e (by simp) (r.append (.cons ru .nil)) ?_,rfl,q⟩
 rw[EO,List.length_singleton]
 omega
noncomputable def CF:V→List V→Hp→VK→Prop:=fun x vs H Q=>∃l xs y,x=.ref l∧vs=[]∧H l=some (.lst xs)∧xs[xs.length-1]?=some y∧Q y (upd H l (.lst xs.dropLast))
theorem yU:MtM X "list.pop" CF:=by
 intro pins s σ H x vs v us Q I rx rv h
 obtain⟨l,xs,y,rfl,rfl,hH,hy,q⟩:=h
 cases rx
 have hus:=rv.zero
 subst hus
 obtain⟨z,its,n,r,hl,e⟩:=I.lstM hH
 obtain⟨u,hu,ru⟩:=r.get hy
 have hy':its.toArray[its.toArray.size-1]?=some u:=by
  show its.toArray[its.length-1]?=some u
  rw[←Array.getElem?_toList,←hl]
  exact hu
 refine call_meets F.slot_list_pop ⟨_,e,rfl⟩ F.entry_list_pop (F.args_list_pop_1 _) (MeetsSeq.list_pop_last l its.toArray n u hy' (by rw[ED];omega)) ⟨e,?_⟩
 refine⟨y,_,I.lset (its':=its.dropLast) hH e ?_ r.dropLast ?_,ru,q⟩
 ·show its.toArray.eraseIdxIfInBounds (its.toArray.size-1)=its.dropLast.toArray
  rw[ED,List.eraseIdxIfInBounds_toArray,nV]
 ·rw[List.length_dropLast]
  omega
noncomputable def CW:R2:=fun x y H Q=>∃l b xs zs,x=.ref l∧y=.ref b∧H l=some (.lst xs)∧H b=some (.lst zs)∧xs.length+zs.length≤sizeLine∧∀p,H p=none→Q (.ref p) (upd H p (.lst (xs++zs)))
theorem wW:OpR X (binaryOp .Add) CW:=by
 intro pins s σ H x y v u Q I rx ry h
 obtain⟨l,b,xs,zs,rfl,rfl,hH,hB,hz,q⟩:=h
 cases rx
 cases ry
 obtain⟨z,its,n,r,hl,e⟩:=I.lstM hH
 obtain⟨z2,its2,n2,r2,hl2,e2⟩:=I.lstM hB
 refine PySem.P.add_list e e2 ?_ (by rw[ED,ED];omega)
 have ea:its.toArray++its2.toArray=(its++its2).toArray:=by simp
 rw[ea]
 exact⟨.ref _,_,I.lnew (t':=s.toks) (r.append r2) (by rw[EO];omega),rfl,q _ I.fresh⟩
noncomputable def CO:R2:=fun x y H Q=>∃l k xs,x=.ref l∧y=.int k∧H l=some (.lst xs)∧-(2 ^ 63)≤k∧k<2 ^ 63∧xs.length*k.toNat≤sizeLine ∧
 ∀p,H p=none→Q (.ref p) (upd H p (.lst (List.replicate k.toNat xs).flatten))
theorem vH {α:Type}(xs:List α)(k:Nat):(List.replicate k xs).flatten.length=k*xs.length:=by
 induction k with
 | zero=>simp
 | succ k ih=>rw[FD,F0,EO,ih,Nat.succ_mul,Nat.add_comm]
theorem wP:OpR X (binaryOp .Mult) CO:=by
 intro pins s σ H x y v u Q I rx ry h
 obtain⟨l,k,xs,rfl,rfl,hH,h1,h2,hz,q⟩:=h
 cases rx
 obtain⟨t,rfl⟩:=ry
 obtain⟨z,its,n,r,hl,e⟩:=I.lstM hH
 have hlen:its.toArray.size*k.toNat≤sizeLine:=by rw[ED,←hl];exact hz
 have hcap:¬its.toArray.size*k.toNat > (2 ^ 63-1)/8:=by
  have:(sizeLine:Nat)≤(2 ^ 63-1)/8:=by decide
  omega
 have hfit:¬(!Builtin.List.listFitsIndex k)=true:=by
  rw[fitsIndex_both h1 h2]
  exact D1
 have hlong:¬Builtin.List.listTooLong (its.toArray.size*k.toNat)=true:=by
  rw[ny hlen]
  exact D1
 have hnew:List.foldl (fun x1 x2=>x1++x2) #[] (List.replicate (if its.toArray.isEmpty=true then 0 else k.toNat) its.toArray)=(List.replicate k.toNat its).flatten.toArray:=by
  have f0:∀m:Nat,List.foldl (fun x1 x2=>x1++x2) #[] (List.replicate m its.toArray)=(List.replicate m its).flatten.toArray:=fun m=>by
   have:=lp its m []
   rw[List.nil_append] at this
   exact this
  rw[f0]
  cases its with
  | nil=>simp
  | cons a r'=>rw[D_ (by simp)]
 refine wpAny_binaryOp_repeat_ref (T:="list") (U:="int") (by decide) ⟨_,e,rfl⟩ (fun s'=>typeIs_int s' k t) noFill_list_mul F.fills_int_mul F.slot_int_rmul repeat_list F.slot_int_index.lookup
  (call_meets F.slot_int_rmul (typeIs_int s k t) F.entry_int_rmul (F.args_int_rmul_2 _ _) (int___rmul___int_list k t l its.toArray n)
   ⟨e,rfl,⟨_,e,rfl⟩,call_meets F.slot_list_mul ⟨_,e,rfl⟩ F.entry_list_mul (F.args_list_mul_2 _ _) (AutoListH.list___mul___list_int_3 l its.toArray n k t hfit hcap hlong) ⟨e,?_⟩⟩)
 rw[hnew]
 exact⟨.ref _,_,I.lnew (t':=s.toks) (r.rep k.toNat) (by rw[vH,Nat.mul_comm];exact hz),rfl,q _ I.fresh⟩
end
section
variable {prog:Program}{w:World}{A:Around}{E:Value→Shared→Prop}{s:Shared}
set_option maxRecDepth 100000 in
end
section
variable {X:Cx}
end
end L2
namespace Att
open PySem PySem.W PySem.Calls PyProof.Rows
theorem iZ {P:Params}{h:Heap}:∀(ns:List Int) (vs:List Value),WellAll P h vs (ns.map WData.int)→IntsAre vs ns:=by
 intro ns
 induction ns with
 | nil =>
  intro vs w
  rw[E5] at w
  cases w
  exact .nil
 | cons n ns ih =>
  intro vs w
  rw[EE] at w
  cases w with
  | cons a b =>
   cases a
   exact .cons _ _ (ih _ b)
theorem qQ {l:OpenLaw}{n:Nat}(hn:l.most=some n){P:Params}{h:Heap}{args:List WData}{vals:List Value}
  (hpre:l.row.toRowW.claim.pre args=true) (hwl:WellAll P h vals args) :
  ∃a vs ns,vals=[Value.ref a]∧args=[WData.list (ns.map WData.int)]∧h.get? a=some { cls:=.type "list",data:=.seq vs.toArray }∧IntsAre vs ns∧ns.length≤n:=by
 have hsh:WShape.hasAll [] args [.list .int]=true:=(pre_splitW hpre).1
 have hc:l.pre.holds [] { args:=args }=true:=(pre_splitW hpre).2
 obtain⟨d,r,rfl,h1,h2⟩:=hasAllW_cons hsh
 obtain rfl:=hasAllW_nil h2
 obtain⟨xs,rfl,h3⟩:=hasW_list h1
 obtain⟨ns,rfl⟩:=items_int h3
 have hlen:ns.length≤n:=by
  unfold OpenLaw.pre at hc
  have h4:(WTm.not (.lt (.lit (.int (n:Int))) (.len (.arg 0)))).holds [] { args:=[.list (ns.map .int)] }=true:=by
   have h4:=(holds_andW hc).1
   rw[hn] at h4
   exact h4
  have h5:=condW_of h4 (w_not (w_lt w_lit (w_len_list (w_arg rfl))))
  rw[EN] at h5
  refine Nat.le_of_not_lt fun q=>?_
  have q':(n:Int)<((ns.length:Nat):Int):=by omega
  first
   | (rw[FF q'] at h5;exact absurd h5 (by decide))
   | (simp at h5;omega)
 cases hwl with
 | cons w1 w2 =>
  cases w2
  cases w1 with
  | list ho hall=>exact⟨_,_,ns,rfl,rfl,ho,iZ ns _ hall,hlen⟩
theorem qr (l:OpenLaw)(args:List WData):l.row.toRowW.claim.post args (.bool true) args=true :=
 postW_of (r:=l.row.toRowW) (X:=(true == true))
  (show WShape.has [] (.bool true) .bool=true by first|rfl|decide|simp[WShape.has,WShape.arms,WShape.armsAll])
  (show (WTm.eq .res (.lit (.bool true))).value [] { args:=args,res:=some (.bool true),after:=args }=some (.bool (true == true)) from w_eq_bool (w_res rfl) w_lit) rfl
theorem attach_call {l:OpenLaw}{n:Nat}{q:Program}{loose:List Str}{XP:(Str→Option Value)→Heap→Prop}{YP:World→Heap→Prop}{d:DefRec}
  (hn:l.most=some n) (hdf:d.params.defaults=[])
  (call:∀(w:World) (s₀ s₁:Shared) (mg mb:Str→Option Value) (fa:Addr) (o:Obj) (pm cd doc:Value) (a:Addr) (vs:List Value) (ns:List Int),
   Ground q loose [] XP w s₀ mg mb s₁.heap→YP w s₁.heap →
   s₁.heap.get? fa=some o→o.data=.func (docDef d.name d.params d.body d.scope pm cd doc)→s₁.heap.CodeRec cd d.name→mg d.name=some (.ref fa) →
   s₁.heap.get? a=some { cls:=.type "list",data:=.seq vs.toArray }→IntsAre vs ns→ns.length≤n→s₁.gens=#[] →
   codeAny (model l.prog w) callerA (.call (.ref fa) ⟨[.ref a],[]⟩) (fun r s'=>r=.ok (.ret (.bool true))∧OldK s₁.heap s'.heap∧s'.os=s₁.os∧AllBare s'.gens) s₁) :
  WalkO q loose XP YP l.row.toRowW d [] (fun f vs=>PySem.call f vs):=by
 intro w s₀ s₁ mg mb G Y fa o pm cd doc dV kV ho hd hcd hD hmg hg args vals as hpre hlay hrd hwl hlo
 obtain rfl:dV=.none:=Dflts.none hD hdf
 obtain rfl:kV=.none:=Dflts.noKw hD
 obtain⟨a,vs,ns,rfl,rfl,hobj,hints,hlen⟩:=qQ hn hpre hwl
 refine enter_call (codeAny_mono (call w s₀ s₁ mg mb fa o pm cd doc a vs ns G Y ho (fd_plain hd) hcd hmg hobj hints hlen hg) fun r s' hq=>?_)
 obtain⟨rfl,h2,h3,h4⟩:=hq
 exact⟨.inl ⟨.bool true,.bool true,[],rfl,fun _=>rfl,.bool true,qr l _,fun _=>⟨List.Pairwise.nil,fun _ hm=>(nomatch hm)⟩⟩,h2,h3,h4⟩
section
variable {prog:Program}{w:World}{A:Around}{E:Value→Shared→Prop}{s:Shared}{K:Frag}
end
end Att
namespace L2
theorem kX:∀ {vs:List Value}{ns:List Int},IntsAre vs ns→Vals (ns.map V.int) vs
 | _,_,.nil=>.nil
 | _,_,.cons n t h=>.cons ⟨t,rfl⟩ (kX h)
end L2
namespace L2
end L2
namespace L2
noncomputable def bz (s:Stmt):Arguments:=match s with
 | .FunctionDef _ a _ _ _ _ _ _ _ _=>a
 | _=>{ posonlyargs:=[],args:=[],vararg:=none,kwonlyargs:=[],kw_defaults:=[],kwarg:=none,defaults:=[] }
noncomputable def ah (s:Stmt):List Stmt:=match s with
 | .FunctionDef _ _ b _ _ _ _ _ _ _=>b
 | _=>[]
noncomputable def ac (s:Stmt):Scope:=match s with
 | .FunctionDef _ _ _ _ _ _ sc _ _ _=>sc
 | _=>{ kind:=.function,names:=[],isGenerator:=false,isCoroutine:=false }
noncomputable abbrev CX0:CXT:=fun _ _ _ _ _ _=>False
noncomputable abbrev E0:XK:=fun _ _ _=>False
theorem wn {X:Cx}:jR CX0 X E0:=fun _ _ _ _ _ _ _ h=>h.elim
structure Fun (K:W.Frag)(x qual:Str)(st:Stmt)(f:Addr)(fd:FuncData):Prop where
 ex:∃(oc:Value) (od:Option Addr) (kV doc pm:Value) (an:Option Addr) (cdv ct:Value) (osl:Array (Option Value)),
  fd=W.fnOf x qual (bz st) (ah st) (ac st) .none kV doc pm an cdv ct∧K.lookup f=some ⟨oc,od,.func fd,osl⟩∧W.codeIn K cdv qual=true
 kp:W.keepIn K (.ref f)=true
section
variable {P:Program}{w:World}{K:W.Frag}{mg:Str→Option Value}{base:Heap}
theorem Fun.ok {x qual:Str}{st:Stmt}{f:Addr}{fd:FuncData}{N ps:List Str}{k:Nat}{sp:Sp}(F:Fun K x qual st f fd)(S:ao N ps (ac st))(len:∀vs H Q E,sp vs H Q E→vs.length=ps.length)
  (hbody:∀(cdv:Value) (A:Around) (outer:List Env) (s:Shared) (H:Hp) (vs:List V) (Q:VK) (E:XK),Room k (A.deeper (envOfC qual (ac st) s.heap.objs.size f cdv))→sp vs H Q E →
   ∃t,PSs (fC CX0 P w K mg base N qual (ac st) f cdv A outer s H E).nox (ah st) t∧t { nx:=fun _ H'=>Q .non H',rt:=Q } (start N vs) H):i4 P w K mg base CX0 (k+1) f fd ps sp:=by
 obtain⟨oc,od,kV,doc,pm,an,cdv,ct,osl,rfl,lk,hcd⟩:=F.ex
 refine wf lk hcd S len fun A outer s H vs Q E hr hsp=>?_
 obtain⟨t,h,q⟩:=hbody cdv A outer s H vs Q E hr hsp
 exact⟨t,h.nox,q⟩
theorem Fun.binds {x qual:Str}{st:Stmt}{f:Addr}{fd:FuncData}{ps:List Str}(F:Fun K x qual st f fd)
  (h:∀(kV doc pm:Value) (an:Option Addr) (cdv ct:Value) (us:List Value),us.length=ps.length→bindArgs (W.fnOf x qual (bz st) (ah st) (ac st) .none kV doc pm an cdv ct) ⟨us,[]⟩=pure (ps.zip us)):Binds K fd ps []:=by
 obtain⟨oc,od,kV,doc,pm,an,cdv,ct,osl,rfl,lk,hcd⟩:=F.ex
 exact .all (h kV doc pm an cdv ct)
theorem tF {x qual:Str}{st:Stmt}{f:Addr}{oc:Value}{od an:Option Addr}{osl:Array (Option Value)}{kV doc pm cdv ct:Value}(l:K.lookup f=some ⟨oc,od,.func (W.fnOf x qual (bz st) (ah st) (ac st) .none kV doc pm an cdv ct),osl⟩)
  (c:W.codeIn K cdv qual=true) (k:W.keepIn K (.ref f)=true):Fun K x qual st f (W.fnOf x qual (bz st) (ah st) (ac st) .none kV doc pm an cdv ct):=⟨⟨oc,od,kV,doc,pm,an,cdv,ct,osl,rfl,l,c⟩,k⟩
end
theorem pP {n:Nat}(h:n≤1000):n<sizeLine:=E6 h (by decide)
section
variable {X:Cx}
end
theorem Ds {A B:Prop}(h:A):if true=true then A else B:=by
 rw[D9 rfl]
 exact h
def Same (H H':Hp):Prop:=∀b o,H b=some o→H' b=some o
theorem Same.seq {K:W.Frag}{H H':Hp}{a:Addr}{xs:List V}(e:Same H H')(h:SqL K H a xs):SqL K H' a xs:=by
 rcases h with (h|⟨o,h⟩)|h
 ·exact .inl (.inl (e _ _ h))
 ·exact .inl (.inr ⟨o,e _ _ h⟩)
 ·exact .inr h
end L2
namespace HX
open L2
section
variable {X:Cx}{a b c:Expr}{ta tb tc:TE}{pos:Pos}
def CBig (j:Int):Prop:=0<j∧j.natAbs.log2<9000
def CMB (i j:Int):Prop:=i.natAbs<2 ^ 20000∧j.natAbs<2 ^ 20000∨(-(2 ^ 64)<i∧i<2 ^ 64)∨(-(2 ^ 64)<j∧j<2 ^ 64)
theorem oU {i:Int}{n:Nat}(h:i.natAbs<2 ^ n):Builtin.Int.intBits i≤n:=by
 unfold Builtin.Int.intBits
 split
 ·exact GJ _
 ·rename_i hz
  have h0:i.natAbs≠0:=by
   intro z
   apply hz
   have:i=0:=by omega
   simp[this]
  have:i.natAbs.log2<n:=(GS h0).mpr h
  omega
theorem CMB.ok {i j:Int}(h:CMB i j):IntMulOk i j:=by
 rcases h with⟨h1,h2⟩|⟨h1,h2⟩|⟨h1,h2⟩
 ·exact IntMulOk.of_le (oU h1) (oU h2) (by decide)
 ·exact .of_left (intBits_le_64 h1 h2)
 ·exact .of_right (intBits_le_64 h1 h2)
theorem CBig.of {j:Int}(h:0<j)(h2:j<2 ^ 8999):CBig j:=by
 refine⟨h,?_⟩
 have h0:j.natAbs≠0:=by omega
 have:j.natAbs<2 ^ 8999:=by
  have e:((2:Int) ^ 8999)=((2 ^ 8999:Nat):Int):=by rw[HM];rfl
  rw[e] at h2
  generalize (2:Nat) ^ 8999=z at h2 ⊢
  omega
 have:=(GS h0).mpr this
 omega
theorem uJ:OpR X (binaryOp .Mult) (rI CMB fun i j=>.int (i*j)):=opI fun _ _ _ _ _ _ _ hc q=>mul_int q hc.ok
theorem sy:OpR X (binaryOp .FloorDiv) (rI (fun _ j=>CBig j) fun i j=>.int (i/j)):=opI fun i j _ _ _ _ _ hc q=>by
 refine floordiv_int (by have:=hc.1;omega) ?_ (.inl (GD hc.2))
 rw[Int.fdiv_eq_ediv_of_nonneg _ (H_ hc.1)]
 exact q
theorem l4:bX X (.builtin "divmod") (fun xs H Q=>∃i j,xs=[.int i,.int j]∧CBig j∧∀p,H p=none→Q (.ref p) (upd H p (.tup [.int (i/j),.int (i % j)]))):=by
 intro pins s σ H xs us Q I r h
 obtain⟨i,j,rfl,hc,q⟩:=h
 obtain⟨u,v,rfl,⟨t,rfl⟩,⟨t',rfl⟩⟩:=jH r
 refine divmod_int (by have:=hc.1;omega) ?_ (.inl (GD hc.2))
 rw[Int.fdiv_eq_ediv_of_nonneg _ (H_ hc.1),Int.fmod_eq_emod_of_nonneg _ (H_ hc.1)]
 have hf:H s.heap.objs.size=none:=I.hok.fresh (D7 _)
 refine⟨.ref s.heap.objs.size,upd H s.heap.objs.size (.tup [.int (i/j),.int (i % j)]),I.laid (t':=s.toks+1+1) (fun b u e=>D5 _ e) (D7 _) ?_,rfl,q _ hf⟩
 exact⟨by show 2≤sizeLine;decide,[_,_],.cons ⟨_,rfl⟩ (.cons ⟨_,rfl⟩ .nil),⟨_,EC _ rfl,rfl,_,rfl⟩⟩
theorem nI {x:V}{v:Value}(r:RelV x v)(k:Bool):(v == Value.bool k)=decide (x=.bl k):=by
 cases x with
 | non=>cases r;rfl
 | bl b=>cases r;cases b <;> cases k <;> rfl
 | int _=>obtain⟨t,rfl⟩:=r;rfl
 | str _=>obtain⟨t,rfl⟩:=r;rfl
 | byt _=>obtain⟨t,rfl⟩:=r;rfl
 | flt _=>obtain⟨t,rfl⟩:=r;rfl
 | ref _=>cases r;rfl
 | ty _=>cases r;rfl
theorem jw {x:V}{v:Value}(r:RelV x v)(k:Bool):plainIs v (.bool k)=true:=by
 cases x with
 | non=>cases r;rfl
 | bl b=>cases r;rfl
 | int _=>obtain⟨t,rfl⟩:=r;rfl
 | str _=>obtain⟨t,rfl⟩:=r;rfl
 | byt _=>obtain⟨t,rfl⟩:=r;rfl
 | flt _=>obtain⟨t,rfl⟩:=r;rfl
 | ref _=>cases r;rfl
 | ty _=>cases r;rfl
noncomputable def CK:R2:=fun x y H Q=>∃k,y=.bl k∧Q (.bl (decide (x=.bl k))) H
noncomputable def uQ:R2:=fun x y H Q=>∃k,y=.bl k∧Q (.bl (!decide (x=.bl k))) H
theorem wM:OpR X (compareOp .Is) CK:=by
 intro pins s σ H x y v u Q I rx ry h
 obtain⟨k,rfl,q⟩:=h
 cases ry
 exact wpAny_is_plain (jw rx k) ⟨.bl _,H,I,by rw[nI rx k];rfl,q⟩
theorem qu:OpR X (compareOp .IsNot) uQ:=by
 intro pins s σ H x y v u Q I rx ry h
 obtain⟨k,rfl,q⟩:=h
 cases ry
 exact wpAny_isNot_plain (jw rx k) ⟨.bl _,H,I,by rw[nI rx k];rfl,q⟩
noncomputable def bq (c n:String):Bool:=c == n || (n == "bool" && c == "int")
noncomputable def A6 (n c:String):Option Bool:=if (Value.type n == Value.type c)=true then some true else if W.kitMeta c=true then (fastBuiltinMro n).map (·.contains (.type c)) else none
theorem u5 (K:W.Frag)(n c:String):W.kitOne K (.type n) (.type c)=A6 n c:=rfl
theorem r_:∀c∈["int","bool","str","tuple","list","dict"],∀n∈["NoneType","bool","int","str","list","tuple","dict"],A6 n c=some (bq c n):=by decide +kernel
theorem sJ (K:W.Frag):∀c∈["int","bool","str","tuple","list","dict"],∀n∈["NoneType","bool","int","str","list","tuple","dict"],W.kitOne K (.type n) (.type c)=some (bq c n):=by
 intro c hc n hn
 rw[u5]
 exact r_ c hc n hn
end
end HX
namespace HX
open L2
theorem pw {X:Cx}{pins:List (Addr × Obj)}{σ:L2.St}{H:Hp}{s:Shared}(I:Inv X pins σ H s):sysModules<s.heap.objs.size :=
 HI (by decide) (show mainGlobals<s.heap.objs.size from (I.mod.glob.keeps I.bk).lt)
noncomputable def yY:TE:=fun _ H Q=>∀p,H p=none→Q (.ref p) (upd H p (.dK []))
theorem rY {X:Cx}{pos:Pos}:PE X (.Dict [] [] pos) yY:=fun pins s σ H Q I h=>by
 refine wpAny_Dict_empty ⟨.ref s.heap.objs.size,_,I.laid (a:=s.heap.objs.size) (o:=.dK []) (t':=s.toks) (fun _ _ q=>D5 _ q) (D7 _) ?_,rfl,h _ (I.hok.fresh (D7 _))⟩
 exact⟨GJ _,beq_eq_false_iff_ne.mpr (Ne.symm (EM (pw I))),[],.nil,Heap.DictOf.new _⟩
end HX
namespace HX
open L2
noncomputable abbrev D:=PyData
mutual
noncomputable def Den (K:W.Frag)(H:Hp):D→V→Prop
 | .none,v=>v=.non
 | .bool b,v=>v=.bl b
 | .int i,v=>v=.int i
 | .str x,v=>v=.str x
 | .tuple ds,v=>∃a xs,v=.ref a∧SqT K H a xs∧Dens K H ds xs
 | .list ds,v=>∃a xs,v=.ref a∧SqL K H a xs∧Dens K H ds xs
 | .dict _,_=>False
noncomputable def Dens (K:W.Frag)(H:Hp):List D→List V→Prop
 | [],xs=>xs=[]
 | d::ds,xs=>∃x r,xs=x::r∧Den K H d x∧Dens K H ds r
end
section
variable {K:W.Frag}{H H':Hp}{v:V}{xs:List V}
theorem den_int {i:Int}:Den K H (.int i) v↔v=.int i:=by unfold Den;exact IF
theorem den_bl {i:Bool}:Den K H (.bool i) v↔v=.bl i:=by unfold Den;exact IF
theorem den_str {i:Str}:Den K H (.str i) v↔v=.str i:=by unfold Den;exact IF
theorem den_non:Den K H .none v↔v=.non:=by unfold Den;exact IF
theorem den_tup {ds:List D}:Den K H (.tuple ds) v↔∃a xs,v=.ref a∧SqT K H a xs∧Dens K H ds xs:=by rw[Den]
theorem den_lst {ds:List D}:Den K H (.list ds) v↔∃a xs,v=.ref a∧SqL K H a xs∧Dens K H ds xs:=by rw[Den]
theorem mP {ds:List (D × D)}:Den K H (.dict ds) v↔False:=by rw[Den]
theorem dens_nil:Dens K H [] xs↔xs=[]:=by unfold Dens;exact IF
theorem gW {d:D}{ds:List D}:Dens K H (d::ds) xs↔∃x r,xs=x::r∧Den K H d x∧Dens K H ds r:=by rw[Dens]
theorem dens_cons' {d:D}{ds:List D}{x:V}:Dens K H (d::ds) (x::xs)↔Den K H d x∧Dens K H ds xs:=by
 rw[gW]
 constructor
 ·rintro⟨_,_,e,h1,h2⟩
  cases e
  exact⟨h1,h2⟩
 ·rintro⟨h1,h2⟩
  exact⟨_,_,rfl,h1,h2⟩
theorem sF {a:Addr}(e:Same H H')(h:SqT K H a xs):SqT K H' a xs:=by
 rcases h with (h|⟨o,h⟩)|h
 ·exact .inl (.inl (e _ _ h))
 ·exact .inl (.inr ⟨o,e _ _ h⟩)
 ·exact .inr h
end
mutual
theorem Den.mono {K:W.Frag}{H H':Hp}(e:Same H H'):∀ {d:D}{v:V},Den K H d v→Den K H' d v
 | .none,v,h=>by rw[den_non] at h ⊢;exact h
 | .bool b,v,h=>by rw[den_bl] at h ⊢;exact h
 | .int b,v,h=>by rw[den_int] at h ⊢;exact h
 | .str b,v,h=>by rw[den_str] at h ⊢;exact h
 | .dict b,v,h=>by rw[mP] at h;exact h.elim
 | .tuple ds,v,h=>by
  rw[den_tup] at h ⊢
  obtain⟨a,xs,h1,h2,h3⟩:=h
  exact⟨a,xs,h1,sF e h2,Dens.mono e h3⟩
 | .list ds,v,h=>by
  rw[den_lst] at h ⊢
  obtain⟨a,xs,h1,h2,h3⟩:=h
  exact⟨a,xs,h1,Same.seq e h2,Dens.mono e h3⟩
theorem Dens.mono {K:W.Frag}{H H':Hp}(e:Same H H'):∀ {ds:List D}{xs:List V},Dens K H ds xs→Dens K H' ds xs
 | [],xs,h=>by rw[dens_nil] at h ⊢;exact h
 | d::ds,xs,h=>by
  rw[gW] at h ⊢
  obtain⟨x,r,h1,h2,h3⟩:=h
  exact⟨x,r,h1,Den.mono e h2,Dens.mono e h3⟩
end
section
variable {X:Cx}{pins:List (Addr × Obj)}{σ:L2.St}{H:Hp}{s:Shared}
mutual
theorem Den.reads (I:Inv X pins σ H s):∀(d:D) (v:V) (u:Value),Den X.K H d v→RelV v u→∃as,Reads s.heap u d as
 | .none,v,u,h,r=>by rw[den_non] at h;subst h;cases r;exact⟨_,.none⟩
 | .bool b,v,u,h,r=>by rw[den_bl] at h;subst h;cases r;exact⟨_,.bool b⟩
 | .int b,v,u,h,r=>by rw[den_int] at h;subst h;obtain⟨t,rfl⟩:=r;exact⟨_,.int b t⟩
 | .str b,v,u,h,r=>by rw[den_str] at h;subst h;obtain⟨t,rfl⟩:=r;exact⟨_,.str b t⟩
 | .dict b,v,u,h,r=>by rw[mP] at h;exact h.elim
 | .tuple ds,v,u,h,r=>by
  rw[den_tup] at h
  obtain⟨a,xs,rfl,h2,h3⟩:=h
  cases r
  obtain⟨its,rv,⟨o,ho,hc,n,hd⟩,_⟩:=I.tuple h2
  obtain⟨as,hr⟩:=Dens.reads I ds xs its h3 rv
  exact⟨as,.tuple ho hc hd (by simpa using hr)⟩
 | .list ds,v,u,h,r=>by
  rw[den_lst] at h
  obtain⟨a,xs,rfl,h2,h3⟩:=h
  cases r
  obtain⟨its,rv,p,_⟩:=I.list h2
  obtain⟨o,ho,hc,n,hd⟩:=p.isList
  obtain⟨as,hr⟩:=Dens.reads I ds xs its h3 rv
  exact⟨_,.list ho hc hd (by simpa using hr)⟩
theorem Dens.reads (I:Inv X pins σ H s):∀(ds:List D) (xs:List V) (us:List Value),Dens X.K H ds xs→Vals xs us→∃as,ReadsAll s.heap us ds as
 | [],xs,us,h,r=>by rw[dens_nil] at h;subst h;cases r;exact⟨_,.nil⟩
 | d::ds,xs,us,h,r=>by
  rw[gW] at h
  obtain⟨x,q,rfl,h2,h3⟩:=h
  cases r with
  | cons r1 r2 =>
   obtain⟨as,h4⟩:=Den.reads I d x _ h2 r1
   obtain⟨bs,h5⟩:=Dens.reads I ds q _ h3 r2
   exact⟨_,.cons h4 h5⟩
end
end
section
variable {X:Cx}
noncomputable def DL (K:W.Frag):R2:=fun x y H Q=>∃d e,Den K H d x∧Den K H e y∧SeqAt.shaped d=true∧SeqAt.shaped e=true∧Q (.bl (PyData.eqv d e)) H
noncomputable def DO (K:W.Frag):R2:=fun x y H Q=>∃d e,Den K H d x∧Den K H e y∧SeqAt.shaped d=true∧SeqAt.shaped e=true∧Q (.bl (!PyData.eqv d e)) H
theorem yC (hu:X.A.units+64<cLine):OpR X (compareOp .Eq) (DL X.K):=by
 intro pins s σ H x y v u Q I rx ry h
 obtain⟨d,e,h1,h2,h3,h4,q⟩:=h
 obtain⟨as,ra⟩:=Den.reads I d x v h1 rx
 obtain⟨bs,rb⟩:=Den.reads I e y u h2 ry
 exact eq_dataH ra rb h3 h4 hu ⟨.bl _,H,I,rfl,q⟩
theorem zd (hu:X.A.units+64<cLine):OpR X (compareOp .NotEq) (DO X.K):=by
 intro pins s σ H x y v u Q I rx ry h
 obtain⟨d,e,h1,h2,h3,h4,q⟩:=h
 obtain⟨as,ra⟩:=Den.reads I d x v h1 rx
 obtain⟨bs,rb⟩:=Den.reads I e y u h2 ry
 exact ne_dataH ra rb h3 h4 hu ⟨.bl _,H,I,rfl,q⟩
structure Has (P:Program)(w:World)(K:W.Frag)(mg:Str→Option Value)(base:Heap)(k:Nat)(x:Str)(ps:List Str)(sp:Sp):Prop where
 ex:∃(f:Addr) (fd:FuncData),i4 P w K mg base CX0 k f fd ps sp∧mg x=some (.ref f)∧W.keepIn K (.ref f)=true∧Binds K fd ps []
structure At (K:W.Frag)(mg:Str→Option Value)(x:Str)(st:Stmt)(ps:List Str):Prop where
 ex:∃(f:Addr) (fd:FuncData),Fun K x x st f fd∧mg x=some (.ref f)∧Binds K fd ps []
theorem At.mk' {K:W.Frag}{mg:Str→Option Value}{h:Heap}{x:Str}{st:Stmt}{ps:List Str}{f:Addr}{oc:Value}{od an:Option Addr}{osl:Array (Option Value)}{kV doc pm cdv ct:Value}(X:K.In h)(G:h.Ns mainGlobals mg)
  (hb:∀(kV doc pm:Value) (an:Option Addr) (cdv ct:Value) (us:List Value),us.length=ps.length→bindArgs (W.fnOf x x (bz st) (ah st) (ac st) .none kV doc pm an cdv ct) ⟨us,[]⟩=pure (ps.zip us))
  (a:W.nsIn K mainGlobals x=some (some (.ref f))) (l:K.lookup f=some ⟨oc,od,.func (W.fnOf x x (bz st) (ah st) (ac st) .none kV doc pm an cdv ct),osl⟩)
  (c:W.codeIn K cdv x=true) (k:W.keepIn K (.ref f)=true):At K mg x st ps:=by
 have F:=tF (st:=st) l c k
 exact⟨f,_,F,GN X G a,F.binds hb⟩
theorem At.ok {P:Program}{w:World}{K:W.Frag}{mg:Str→Option Value}{base:Heap}{x:Str}{st:Stmt}{N ps:List Str}{k:Nat}{sp:Sp}(F:At K mg x st ps)(S:ao N ps (ac st))(len:∀vs H Q E,sp vs H Q E→vs.length=ps.length)
  (hbody:∀(f:Addr) (cdv:Value) (A:Around) (outer:List Env) (s:Shared) (H:Hp) (vs:List V) (Q:VK) (E:XK),Room k (A.deeper (envOfC x (ac st) s.heap.objs.size f cdv))→sp vs H Q E →
   ∃t,PSs (fC CX0 P w K mg base N x (ac st) f cdv A outer s H E).nox (ah st) t∧t { nx:=fun _ H'=>Q .non H',rt:=Q } (start N vs) H):Has P w K mg base (k+1) x ps sp:=by
 obtain⟨f,fd,Ff,m,b⟩:=F.ex
 exact⟨f,fd,Ff.ok S len (fun cdv A outer s H vs Q E hr h=>hbody f cdv A outer s H vs Q E hr h),m,Ff.kp,b⟩
theorem zE {k:Nat}{x:Str}{ps:List Str}{sp:Sp}{p pos:Pos}{e:Expr}{es:List Expr}{t:TA}(F:Has X.prog X.w X.K X.mg X.base k x ps sp)(hr:Room k X.A)(ha:PA X (e::es) t)
  (hg:Gl X x:=by rfl) (hdb:(x == ("__debug__":Str))=false:=by decide) (he:starEach (e::es) X.env=(false,eval e X.env)::starEach es X.env:=by rfl) (hpl:(backTo pos (starEach es X.env)).any (·.1)=false:=by rfl) :
  PE X (.Call (.Name x p) (e::es) [] pos) (gw sp [] E0 t):=by
 obtain⟨f,fd,F,m,kp,b⟩:=F.ex
 exact pB F hr hg m kp b .nil wn ha hdb he hpl
theorem va {k:Nat}{x:Str}{ps:List Str}{sp:Sp}{p pos:Pos}(F:Has X.prog X.w X.K X.mg X.base k x ps sp)(hr:Room k X.A)
  (hg:Gl X x:=by rfl) (hdb:(x == ("__debug__":Str))=false:=by decide) :
  PE X (.Call (.Name x p) [] [] pos) (gw sp [] E0 iY):=by
 obtain⟨f,fd,F,m,kp,b⟩:=F.ex
 exact tU F hr hg m kp b .nil wn hdb
end
end HX
namespace HX
open L2
noncomputable def ag:Expr→Bool
 | .Starred ..=>false
 | _=>true
theorem aw {e:Expr}{es:List Expr}{env:Env}(h:ag e=true):starEach (e::es) env=(false,eval e env)::starEach es env:=by
 cases e <;> first|rfl|cases h
theorem nG {env:Env}:∀ {es:List Expr},es.all ag=true→(starEach es env).any (·.1)=false
 | [],_=>rfl
 | e::es,h=>by
  rw[FM,D6] at h
  rw[aw h.1,EY,nG h.2]
  rfl
noncomputable def gN:Expr→Bool
 | .Slice ..=>false
 | _=>true
theorem AJ {b:Expr}(h:gN b=true):o6 b:=fun o i=>by
 cases b <;> first|rfl|cases h
section
variable {X:Cx}
theorem pac {e:Expr}{es:List Expr}{te:TE}{t:TA}(ha:PE X e te)(hr:PA X es t)(h:ag e=true:=by rfl):PA X (e::es) (b7 te t):=vh ha hr (aw h)
theorem tE {a b:Expr}{ta tb:TE}{pos:Pos}{r:R2}(hr:IxR X r)(ha:PE X a ta)(hb:PE X b tb)(hs:gN b=true:=by rfl):PE X (.Subscript a b pos) (tOp r ta tb):=BL hr ha hb (AJ hs)
theorem dI {env:Env}{pos:Pos}{es:List Expr}(h:es.all ag=true):(backTo pos (starEach es env)).any (·.1)=false:=by
 have:=nG (env:=env) h
 unfold backTo
 rw[List.any_map]
 exact this
theorem vJ {k:Nat}{x:Str}{ps:List Str}{sp:Sp}{p pos:Pos}{e:Expr}{es:List Expr}{t:TA}(F:Has X.prog X.w X.K X.mg X.base k x ps sp)(hr:Room k X.A)(ha:PA X (e::es) t)
  (hg:Gl X x:=by rfl) (hdb:(x == ("__debug__":Str))=false:=by decide) (he:ag e=true:=by rfl) (hpl:es.all ag=true:=by rfl) :
  PE X (.Call (.Name x p) (e::es) [] pos) (gw sp [] E0 t):=zE F hr ha hg hdb (aw he) (dI hpl)
theorem dJ {id:String}{r:List V→Hp→VK→Prop}{x:Str}{p pos:Pos}{e:Expr}{es:List Expr}{t:TA}(hc:bX X (.builtin id) r)(hg:Gl X x)(hm:X.mg x=none)(hv:bootBuiltins x=some (.builtin id))(ha:PA X (e::es) t)(hn:x≠"__name__":=by decide)(hdb:(x == ("__debug__":Str))=false:=by decide)
  (he:ag e=true:=by rfl) (hpl:es.all ag=true:=by rfl):PE X (.Call (.Name x p) (e::es) [] pos) (tCB r t):=rH hc hg hm hv ha hn hdb (aw he) (dI hpl)
theorem n8 {T:String}{r:List V→Hp→VK→Prop}{x:Str}{p pos:Pos}{e:Expr}{es:List Expr}{t:TA}(hc:bX X (.type T) r)(hg:Gl X x)(hm:X.mg x=none)(hv:bootBuiltins x=some (.type T))(ha:PA X (e::es) t)(hn:x≠"__name__":=by decide)(hdb:(x == ("__debug__":Str))=false:=by decide)
  (he:ag e=true:=by rfl) (hpl:es.all ag=true:=by rfl):PE X (.Call (.Name x p) (e::es) [] pos) (tCB r t):=qP hc hg hm hv ha hn hdb (aw he) (dI hpl)
end
end HX
namespace L2
section
variable {κ:Type} [DecidableEq κ]
noncomputable def eB (kvs:List (κ × V))(k:κ):Option V:=(kvs.find? fun kv=>decide (kv.1=k)).map (·.2)
noncomputable def gk (kvs:List (κ × V))(k:κ)(v:V):List (κ × V) :=
 if (kvs.any fun kv=>decide (kv.1=k))=true then kvs.map (fun kv=>if kv.1=k then (kv.1,v) else kv) else kvs++[(k,v)]
theorem gO {p:κ × V}{r:List (κ × V)}{k:κ}(e:p.1=k):eB (p::r) k=some p.2:=by simp[eB,List.find?_cons,e]
theorem gz {p:κ × V}{r:List (κ × V)}{k:κ}(e:¬p.1=k):eB (p::r) k=eB r k:=by simp[eB,List.find?_cons,e]
theorem nw (k:κ):∀kvs:List (κ × V),(kvs.any fun kv=>decide (kv.1=k))=(eB kvs k).isSome
 | []=>rfl
 | p::r=>by
  rw[EY]
  by_cases e:p.1=k
  ·simp only[gO e,decide_eq_true e,Bool.true_or,Option.isSome_some]
  ·rw[gz e,E2 e,Bool.false_or];exact nw k r
theorem iA (kvs:List (κ × V))(k:κ)(v:V):(gk kvs k v).length≤kvs.length+1:=by
 unfold gk
 split
 ·rw[EN];omega
 ·rw[EO,FL,List.length_nil];omega
theorem RelO.isSome_eq {o:Option V}{u:Option Value}(r:RelO o u):o.isSome=u.isSome:=by
 cases o with
 | none=>cases u with
  | none=>rfl
  | some _=>exact(show False from r).elim
 | some _=>cases u with
  | none=>exact(show False from r).elim
  | some _=>rfl
theorem RelO.getD {o:Option V}{u:Option Value}{d:V}{d':Value}(r:RelO o u)(rd:RelV d d'):RelV (o.getD d) (u.getD d'):=by
 cases o with
 | none=>cases u with
  | none=>exact rd
  | some _=>exact(show False from r).elim
 | some _=>cases u with
  | none=>exact(show False from r).elim
  | some _=>exact r
theorem KV.val {kvs:List (κ × V)}{vs:List (κ × Value)}(r:KV kvs vs)(k:κ):RelO (eB kvs k) (valueAt vs k):=by
 unfold KV at r
 induction r with
 | nil=>exact True.intro
 | @cons p q ps qs h t ih =>
  obtain⟨h1,h2⟩:=h
  by_cases e:p.1=k
  ·have e':q.1=k:=h1.symm.trans e
   have b:valueAt (q::qs) k=some q.2:=by simp[valueAt,List.find?_cons,e']
   rw[gO e,b];exact h2
  ·have e':¬q.1=k:=fun z=>e (h1.trans z)
   have b:valueAt (q::qs) k=valueAt qs k:=by simp[valueAt,List.find?_cons,e']
   rw[gz e,b];exact ih
theorem KV.any {kvs:List (κ × V)}{vs:List (κ × Value)}(r:KV kvs vs)(k:κ):(kvs.any fun kv=>decide (kv.1=k))=vs.any fun kv=>decide (kv.1=k):=by
 unfold KV at r
 induction r with
 | nil=>rfl
 | cons h t ih=>rw[EY,EY,ih,h.1]
theorem KV.repl {kvs:List (κ × V)}{vs:List (κ × Value)}(r:KV kvs vs)(k:κ){y:V}{u:Value}(ry:RelV y u) :
  KV (kvs.map fun kv=>if kv.1=k then (kv.1,y) else kv) (vs.map fun kv=>if kv.1=k then (kv.1,u) else kv):=by
 unfold KV at r ⊢
 induction r with
 | nil=>exact .nil
 | @cons p q ps qs h t ih =>
  rw[EE,EE]
  refine .cons ?_ ih
  obtain⟨h1,h2⟩:=h
  by_cases e:p.1=k
  ·rw[D9 e,D9 (h1.symm.trans e)];exact⟨h1,ry⟩
  ·rw[D_ e,D_ (fun z=>e (h1.trans z))];exact⟨h1,h2⟩
theorem KV.put {kvs:List (κ × V)}{vs:List (κ × Value)}(r:KV kvs vs)(k:κ){y:V}{u:Value}(ry:RelV y u):KV (gk kvs k y) (stored vs k u):=by
 unfold gk stored
 rw[r.any k]
 by_cases e:(vs.any fun kv=>decide (kv.1=k))=true
 ·rw[D9 e,D9 e];exact r.repl k ry
 ·rw[D_ e,D_ e];exact Paired.snoc r ⟨rfl,ry⟩
theorem KV.keys {kvs:List (κ × V)}{vs:List (κ × Value)}(r:KV kvs vs):kvs.map (·.1)=vs.map (·.1):=by
 unfold KV at r
 induction r with
 | nil=>rfl
 | cons h t ih=>rw[EE,EE,ih,h.1]
theorem KV.length {kvs:List (κ × V)}{vs:List (κ × Value)}(r:KV kvs vs):kvs.length=vs.length:=Paired.length r
end
theorem lf {P:Program}{w:World}{k:Key}{u:Value}(r:RelV (kV k) u):(aB P w).is k u=true:=by
 cases k with
 | inl i=>obtain⟨t,e⟩:=(show ∃t,u=Value.int i t from r);subst e;exact nb P w i t
 | inr x=>obtain⟨t,e⟩:=(show ∃t,u=Value.str x t from r);subst e;exact iw P w x t
theorem kG {P:Program}{w:World}:∀ {ks:List Key}{us:List Value},Vals (ks.map kV) us→ItemsAre (aB P w) ks us
 | [],_,r=>by rw[E5] at r;cases r;exact .nil
 | k::ks,_,r=>by
  rw[EE] at r
  cases r with
  | cons h t=>exact .cons (lf h) (kG t)
noncomputable abbrev KT (H:Hp):List (List Key × V)→List (List Key × Addr × Value)→Prop:=Paired fun p q=>p.1=q.1∧H q.2.1=some (.tup (p.1.map kV))∧RelV p.2 q.2.2
theorem KT.val {H:Hp}{kvs:List (List Key × V)}{xs:List (List Key × Addr × Value)}(r:KT H kvs xs)(k:List Key):RelO (eB kvs k) ((atKey xs k).map (·.2)):=by
 induction r with
 | nil=>exact True.intro
 | @cons p q ps qs h t ih =>
  obtain⟨h1,_,h2⟩:=h
  by_cases e:p.1=k
  ·have e':q.1=k:=h1.symm.trans e
   have b:atKey (q::qs) k=some q.2:=by simp[atKey,List.find?_cons,e']
   rw[gO e,b];exact h2
  ·have e':¬q.1=k:=fun z=>e (h1.trans z)
   have b:atKey (q::qs) k=atKey qs k:=by simp[atKey,List.find?_cons,e']
   rw[gz e,b];exact ih
theorem KT.repl {H:Hp}{kvs:List (List Key × V)}{xs:List (List Key × Addr × Value)}(r:KT H kvs xs)(k:List Key){y:V}{u:Value}(ry:RelV y u) :
  KT H (kvs.map fun kv=>if kv.1=k then (kv.1,y) else kv) (xs.map (putAt k u)):=by
 induction r with
 | nil=>exact .nil
 | @cons p q ps qs h t ih =>
  rw[EE,EE]
  refine .cons ?_ ih
  obtain⟨h1,h2,h3⟩:=h
  unfold putAt
  by_cases e:p.1=k
  ·rw[D9 e,D9 (h1.symm.trans e)];exact⟨h1,h2,ry⟩
  ·rw[D_ e,D_ (fun z=>e (h1.trans z))];exact⟨h1,h2,h3⟩
theorem KT.put {H:Hp}{kvs:List (List Key × V)}{xs:List (List Key × Addr × Value)}(r:KT H kvs xs)(k:List Key){b:Addr}{y:V}{u:Value}(hb:H b=some (.tup (k.map kV)))(ry:RelV y u) :
  KT H (gk kvs k y) (storedH xs k b u):=by
 have e:(kvs.any fun kv=>decide (kv.1=k))=(atKey xs k).isSome:=by
  rw[nw,(r.val k).isSome_eq,HC]
 unfold gk storedH
 rw[e]
 by_cases q:(atKey xs k).isSome=true
 ·rw[D9 q,D9 q];exact r.repl k ry
 ·rw[D_ q,D_ q];exact Paired.snoc r ⟨rfl,hb,ry⟩
theorem KT.keeps {H H':Hp}{kvs:List (List Key × V)}{xs:List (List Key × Addr × Value)}(r:KT H kvs xs)(ht:∀b ys,H b=some (.tup ys)→H' b=some (.tup ys)):KT H' kvs xs :=
 Paired.mapP r fun _ _ z=>⟨z.1,ht _ _ z.2.1,z.2.2⟩
section
variable {P:Program}{w:World}{H:Hp}{h:Heap}{a:Addr}
theorem wz {u:HO}(ok:HOk P w H h)(e:Rd H a u):ObjOk P w H h a u:=e.ok ok
theorem jn {kvs:List (Key × V)}(ok:HOk P w H h)(e:Rd H a (.dK kvs)):kvs.length≤sizeLine∧(a == sysModules)=false∧∃vs,KV kvs vs∧h.DictOf (aB P w) a vs :=
 show ObjOk P w H h a (.dK kvs) from wz ok e
theorem iF {kvs:List (Key × V)}(ok:HOk P w H h)(e:H a=some (.dK kvs)):kvs.length≤sizeLine∧(a == sysModules)=false∧∃vs,KV kvs vs∧h.DictOf (aB P w) a vs:=jn ok (.inl e)
theorem h_ {ks:List Key}(ok:HOk P w H h)(e:H a=some (.tup (ks.map kV))):(tupleKind (aB P w)).is h ks a:=by
 obtain⟨_,its,r,o,h1,h2,n,h3⟩:=(show ObjOk P w H h a (.tup (ks.map kV)) from ok a _ e)
 exact⟨o,its.toArray,n,h1,h2,h3,by simpa using kG r⟩
theorem nE {kvs:List (List Key × V)}(ok:HOk P w H h)(e:Rd H a (.dT kvs)):kvs.length≤sizeLine∧(a == sysModules)=false ∧
  ∃xs,KT H kvs xs∧h.DictOfH (tupleKind (aB P w)) a xs:=by
 obtain⟨z,y,xs,r,o,es,ep,h1,h2,h3,h4,h5⟩:=(show ObjOk P w H h a (.dT kvs) from wz ok e)
 refine⟨z,y,xs,r,o,es,ep,h1,h2,h3,h4,fun x hx=>?_,h5⟩
 have all:∀ {l:List (List Key × V)}{m:List (List Key × Addr × Value)},KT H l m→∀x∈m,(tupleKind (aB P w)).is h x.1 x.2.1:=by
  intro l m q
  induction q with
  | nil=>intro x hx;exact nomatch hx
  | @cons p q ps qs hq t ih =>
   intro x hx
   rcases E3.mp hx with e|hx
   ·subst e
    exact h_ ok (by rw[←hq.1];exact hq.2.1)
   ·exact ih x hx
 exact all r x hx
theorem zU {kvs:List (List Key × V)}(ok:HOk P w H h)(e:H a=some (.dT kvs)):kvs.length≤sizeLine∧(a == sysModules)=false ∧
  ∃xs,KT H kvs xs∧h.DictOfH (tupleKind (aB P w)) a xs:=nE ok (.inl e)
end
def DGet (H:Hp)(a:Addr)(y:V)(r:Option V):Prop :=
 (∃kvs k,Rd H a (.dK kvs)∧y=kV k∧r=eB kvs k)∨∃kvs k b,Rd H a (.dT kvs)∧y=.ref b∧H b=some (.tup (k.map kV))∧r=eB kvs k
def DPut (H:Hp)(a:Addr)(y v:V)(H':Hp):Prop :=
 (∃kvs k,H a=some (.dK kvs)∧y=kV k∧kvs.length<sizeLine∧H'=upd H a (.dK (gk kvs k v))) ∨
 ∃kvs k b,H a=some (.dT kvs)∧y=.ref b∧H b=some (.tup (k.map kV))∧kvs.length<sizeLine∧H'=upd H a (.dT (gk kvs k v))
theorem DGet.k {H:Hp}{a:Addr}{kvs:List (Key × V)}{k:Key}(e:H a=some (.dK kvs)):DGet H a (kV k) (eB kvs k):=.inl ⟨kvs,k,.inl e,rfl,rfl⟩
theorem DPut.k {H:Hp}{a:Addr}{kvs:List (Key × V)}{k:Key}{v:V}(e:H a=some (.dK kvs))(hl:kvs.length<sizeLine):DPut H a (kV k) v (upd H a (.dK (gk kvs k v))):=.inl ⟨kvs,k,e,rfl,hl,rfl⟩
section
variable {X:Cx}{pins:List (Addr × Obj)}{σ:St}{H:Hp}{s:Shared}{a:Addr}{y v:V}{u r:Value}{o:Option V}{A:Around}{E:Value→Shared→Prop}
theorem p8 {Q:Value→Shared→Prop}(hu:A.units+1<cLine)(I:Inv X pins σ H s)(g:DGet H a y (some v))(ry:RelV y u)(h:∀w' s',Inv X pins σ H s'→RelV v w'→Q w' s') :
  wpAny (model X.prog X.w) A (getItem (.ref a) u) Q E s:=by
 rcases g with⟨kvs,k,e,ey,l⟩|⟨kvs,k,b,e,ey,eb,l⟩
 ·subst ey
  obtain⟨z,hd,vs,rel,dd⟩:=jn I.hok e
  obtain⟨w',hw,rw'⟩:=RelO.some_of (v:=v) (o:=valueAt vs k) (by rw[l];exact rel.val k)
  exact wpAny_getItem_of (lf ry) dd.mapOf hw (h w' _ (I.tok _) rw')
 ·subst ey
  cases (show u=Value.ref b from ry)
  obtain⟨z,hd,xs,rel,dd⟩:=nE I.hok e
  obtain⟨w',hw,rw'⟩:=RelO.some_of (v:=v) (o:=(atKey xs k).map (·.2)) (by rw[l];exact rel.val k)
  obtain⟨p,hp,hp2⟩:=FS.mp hw
  refine wpAny_getItem_heap (tupleKind_room_in1 hu) (h_ I.hok eb) dd hp ?_
  rw[hp2]
  exact h w' _ (I.tok _) rw'
theorem Dd {Q:Value→Shared→Prop}(hu:A.units+1<cLine)(I:Inv X pins σ H s)(g:DGet H a y o)(ry:RelV y u)(h:∀s',Inv X pins σ H s'→Q (.bool o.isSome) s') :
  wpAny (model X.prog X.w) A (compareOp .In u (.ref a)) Q E s:=by
 rcases g with⟨kvs,k,e,ey,l⟩|⟨kvs,k,b,e,ey,eb,l⟩
 ·subst ey
  obtain⟨z,hd,vs,rel,dd⟩:=jn I.hok e
  refine wpAny_in_of (lf ry) hd dd.mapOf ?_
  rw[←(rel.val k).isSome_eq,←l]
  exact h _ (I.tok _)
 ·subst ey
  cases (show u=Value.ref b from ry)
  obtain⟨z,hd,xs,rel,dd⟩:=nE I.hok e
  refine wpAny_in_heap (tupleKind_room_in1 hu) (h_ I.hok eb) hd dd ?_
  have q:=(rel.val k).isSome_eq
  rw[HC] at q
  rw[←q,←l]
  exact h _ (I.tok _)
theorem ve {Q:Value→Shared→Prop}(hu:A.units+1<cLine)(I:Inv X pins σ H s)(g:DGet H a y o)(ry:RelV y u)(h:∀s',Inv X pins σ H s'→Q (.bool (!o.isSome)) s') :
  wpAny (model X.prog X.w) A (compareOp .NotIn u (.ref a)) Q E s:=by
 rcases g with⟨kvs,k,e,ey,l⟩|⟨kvs,k,b,e,ey,eb,l⟩
 ·subst ey
  obtain⟨z,hd,vs,rel,dd⟩:=jn I.hok e
  refine wpAny_notIn_of (lf ry) hd dd.mapOf ?_
  rw[←(rel.val k).isSome_eq,←l]
  exact h _ (I.tok _)
 ·subst ey
  cases (show u=Value.ref b from ry)
  obtain⟨z,hd,xs,rel,dd⟩:=nE I.hok e
  refine wpAny_notIn_heap (tupleKind_room_in1 hu) (h_ I.hok eb) hd dd ?_
  have q:=(rel.val k).isSome_eq
  rw[HC] at q
  rw[←q,←l]
  exact h _ (I.tok _)
theorem pH {h':Heap}{t':Nat}{ob:HO}(I:Inv X pins σ H s)(mu:Mut (H a))(hs:Heap.SameBut a s.heap h')(he:∃q,h'.get? a=some q)(new:ObjOk X.prog X.w (upd H a ob) h' a ob) :
  Inv X pins σ (upd H a ob) { s with heap:=h',toks:=t' } :=
 I.write (x:=a) (e:=a) mu (.inl rfl) (fun b q hb z=>(hs.2 b hb).trans z) he new
theorem xk {P:Program}{w:World}{H':Hp}{h':Heap}{kvs:List (Key × V)}{vs:List (Key × Value)}(z:kvs.length≤sizeLine)(hd:(a == sysModules)=false)(rel:KV kvs vs)(dd:h'.DictOf (aB P w) a vs) :
  ObjOk P w H' h' a (.dK kvs):=⟨z,hd,vs,rel,dd⟩
theorem qm {H':Hp}{Q:Unit→Shared→Prop}(hu:A.units+1<cLine)(I:Inv X pins σ H s)(g:DPut H a y v H')(ry:RelV y u)(rv:RelV v r)(h:∀s',Inv X pins σ H' s'→Q () s') :
  wpAny (model X.prog X.w) A (setItem (.ref a) u r) Q E s:=by
 rcases g with⟨kvs,k,e,ey,l,eH⟩|⟨kvs,k,b,e,ey,eb,l,eH⟩
 ·subst ey eH
  obtain⟨z,hd,vs,rel,dd⟩:=iF I.hok e
  have hz:vs.length≤sizeLine:=by rw[←rel.length];exact z
  have hl:(gk kvs k v).length≤sizeLine:=by have:=iA kvs k v;omega
  refine wpAny_setItem_pairs (hsz:=hz) (lf ry) dd fun h' dd' hs=>h _ ?_
  have he:∃q,h'.get? a=some q:=let ⟨q,_,_,hq,_⟩:=dd';⟨q,hq⟩
  exact pH I (by rw[e];exact True.intro) hs he (xk hl hd (rel.put k rv) dd')
 ·subst ey eH
  cases (show u=Value.ref b from ry)
  obtain⟨z,hd,xs,rel,dd⟩:=zU I.hok e
  have hz:xs.length≤sizeLine:=by rw[←Paired.length rel];exact z
  have hl:(gk kvs k v).length≤sizeLine:=by have:=iA kvs k v;omega
  refine wpAny_setItem_heap (hsz:=hz) (tupleKind_room_in1 hu) (h_ I.hok eb) dd fun h' dd' hs=>h _ ?_
  obtain⟨q,es,ep,hq,h2,h3,h4,_,h5⟩:=dd'
  refine pH I (by rw[e];exact True.intro) hs ⟨q,hq⟩ ⟨hl,hd,_,(rel.put k eb rv).keeps fun c ys ec=>?_,q,es,ep,hq,h2,h3,h4,h5⟩
  rw[ae (BH ec e (fun z=>nomatch z))]
  exact ec
end
section
variable {X:Cx}{pins:List (Addr × Obj)}{σ:St}{H:Hp}{s:Shared}{a:Addr}{kvs:List (Key × V)}{k:Key}{u:Value}{A:Around}{E:Value→Shared→Prop}
end
section
variable {X:Cx}{pins:List (Addr × Obj)}{σ:St}{H:Hp}{s:Shared}{a:Addr}{kvs:List (Key × V)}{A:Around}{E:Value→Shared→Prop}
end
section
variable {X:Cx}{pins:List (Addr × Obj)}{σ:St}{H:Hp}{s:Shared}{a:Addr}{y d:V}{u r:Value}{o:Option V}{A:Around}{E:Value→Shared→Prop}
theorem zh {Q:Value→Shared→Prop}(hu:A.units+1<cLine)(I:Inv X pins σ H s)(g:DGet H a y o)(ry:RelV y u)(h:∀w' s',Inv X pins σ H s'→RelV (o.getD .non) w'→Q w' s') :
  wpAny (model X.prog X.w) A (call (.builtin "dict.get") [.ref a,u]) Q E s:=by
 rcases g with⟨kvs,k,e,ey,l⟩|⟨kvs,k,b,e,ey,eb,l⟩
 ·subst ey
  obtain⟨z,hd,vs,rel,dd⟩:=jn I.hok e
  refine call_meetsIn GO dd.typeIs PySem.F.entry_dict_get (PySem.F.args_dict_get_2 _ _) (meets_dict_get (aB X.prog X.w) a (lf ry) hd) ⟨_,dd.mapOf,h _ _ (I.tok _) ?_⟩
  rw[l]
  exact(rel.val k).getD rfl
 ·subst ey
  cases (show u=Value.ref b from ry)
  obtain⟨z,hd,xs,rel,dd⟩:=nE I.hok e
  refine call_meetsIn GO dd.typeIs PySem.F.entry_dict_get (PySem.F.args_dict_get_2 _ _) (meetsH_dict_get (tupleKind (aB X.prog X.w)) a b hd) ⟨tupleKind_room_in1 hu,k,xs,h_ I.hok eb,dd,h _ _ (I.tok _) ?_⟩
  rw[l]
  exact(rel.val k).getD rfl
end
end L2
namespace FW
open L2
def De (xs:Array Nat):Prop:=∀i j,i<j→j<xs.size→xs.getD i 0<xs.getD j 0
structure zX (b:Bool)(t:SetTable):Prop where
 ris:De t.place
 led:t.led=b
noncomputable def toI:Value→Int
 | .int n _=>n
 | _=>0
section
variable {prog:Program}{w:World}{A:Around}{E:Value→Shared→Prop}{s:Shared}
def EI (prog:Program)(w:World)(e:Int × Value):Prop:=∃(k:Int) (t:Tok),e=((intKind prog w).hash k,.int k t)
structure C6 (prog:Program)(w:World)(b:Bool)(es:Array (Int × Value))(t:SetTable)(zs:List Int):Prop where
 el:∀e∈es.toList,EI prog w e
 nd:(es.toList.map fun e=>toI e.2).Nodup
 mem:∀i,i∈(es.toList.map fun e=>toI e.2)↔i∈zs
 ln:es.size≤zs.length
 fit:t.fits es.size=true
 ok:zX b t
noncomputable abbrev A_ (es:Array (Int × Value))(ep:Nat)(t:SetTable):Obj:={ cls:=.type "set",dict:=none,data:=.set es ep t }
def Dz (prog:Program)(w:World)(b:Bool)(h:Heap)(a:Addr)(zs:List Int):Prop:=∃es ep t,h.get? a=some (A_ es ep t)∧C6 prog w b es t zs
end
end FW
namespace FW
noncomputable abbrev byT (w:World):Bool:=w.params.followText "set-order"
section
variable {prog:Program}{w:World}{A:Around}{E:Value→Shared→Prop}{s:Shared}
end
end FW
namespace FW
section
variable {prog:Program}{w:World}{A:Around}{E:Value→Shared→Prop}{s:Shared}
set_option maxHeartbeats 3200000 in
end
end FW
namespace L2
section
variable {X:Cx}
theorem vL:fillsInplaceSlot (.type "list") "add" (Operator.Add == .Add)=pure false:=by
 unfold fillsInplaceSlot
 show (typeLookup (.type "list") (dunderI "add") >>= fun fi=>pure (fi.isSome && !isSeqSlot fi))=pure false
 rw[F.slot_list_iadd.lookup]
 have e:isSeqSlot (some (.builtin "list.__iadd__"))=true:=by decide +kernel
 show (pure (true && !isSeqSlot (some (.builtin "list.__iadd__"))):Sem Bool)=pure false
 rw[e]
 rfl
theorem vU:seqSlot? (.type "list") (dunderI "add")=pure (some (.builtin "list.__iadd__")):=PySem.seqSlot_of F.slot_list_iadd.lookup (by decide +kernel)
theorem pX {M:Model}{A:Around}{E:Value→Shared→Prop}{s:Shared}{a b:Value}{Q:Value→Shared→Prop}(ha:s.TypeIs a "list")(hb:s.TypeIs b "list")
  (hc:wpAny M A (call (.builtin "list.__iadd__") [a,b]) Q E s):wpAny M A (inplaceOp .Add a b) Q E s:=by
 unfold inplaceOp
 refine FV ?_
 refine D4 (wpAny_typeOf ha (D4 (wpAny_of_eq vL ?_)))
 show wpAny M A (if false=true then _ else _) Q E s
 rw[D_ D1]
 refine D4 (wpAny_binaryOp1_none (nm:="add") ha hb noFill_list_add ?_)
 refine D4 (wpAny_of_eq vU ?_)
 exact D4 (wpAny_rule hc)
theorem wH:PIp X .Add (fun x y H Q=>∃l b xs zs,x=.ref l∧y=.ref b∧H l=some (.lst xs)∧H b=some (.lst zs)∧xs.length+zs.length≤sizeLine∧Q (.ref l) (upd H l (.lst (xs++zs)))):=by
 intro pins s σ H x y v u Q I rx ry h
 obtain⟨l,b,xs,zs,rfl,rfl,hH,hB,hz,q⟩:=h
 cases rx
 cases ry
 obtain⟨z,its,n,r,hl,e⟩:=I.lstM hH
 obtain⟨z2,its2,n2,r2,hl2,e2⟩:=I.lstM hB
 have hsz:its.toArray.size+its2.toArray.size≤sizeLine:=by rw[ED,ED];omega
 have hlong:¬(!its.toArray.isEmpty && Builtin.List.listTooLong (its.toArray.size+its2.toArray.size))=true:=by
  rw[ny hsz,HY]
  exact D1
 refine pX ⟨_,e,rfl⟩ ⟨_,e2,rfl⟩ ?_
 refine call_meets F.slot_list_iadd ⟨_,e,rfl⟩ F.entry_list_iadd (F.args_list_iadd_2 _ _)
  (AutoSeq1.list___iadd___list_list_0 l its.toArray n b its2.toArray n2 hlong (by rw[ED];omega) (by omega)) ⟨e,e2,?_⟩
 refine⟨.ref l,_,I.lset (its':=its++its2) hH e (by simp) (r.append r2) ?_,rfl,q⟩
 rw[EO]
 omega
end
end L2
namespace L2
structure DY (h:Heap)(f:Addr)(qual:Str)(params:Arguments)(body:Expr)(scope:Scope)(cl:List (Str × Addr)):Prop where
 ex:∃pm c' ctv,h.get? f=some (W.kla_obj "<lambda>" qual params body scope cl pm c' ctv)∧h.CodeRec (.ref c') qual
structure Bp (x:Str)(scope:Scope)(cl:List (Str × Addr)):Prop where
 kind:scope.kind=.function
 co:scope.isCoroutine=false
 gen:scope.isGenerator=false
 nocell:∀y∈scope.names,y.2≠.cell
 par:scope.names.lookup x=some .local
 free:∀y,scope.names.lookup y=some .free→∃c,cl.lookup y=some c
 inj:∀y z c,cl.lookup y=some c→cl.lookup z=some c→y=z
end L2
namespace L2
def zf (oc:Obj)(q:Str):Prop:=∃vs t,oc.data=.fields vs∧vs[1]?=some (.str q t)
end L2
namespace FW
open PySem L2 HX
inductive PV where
 | non|bl (b:Bool)|int (i:Int)|str (x:Str)|tup (xs:List PV)|ref (n:Nat)|rdl (xs:List PV)|fn (a:Nat)
 deriving Inhabited
inductive Cell where
 | lst (xs:List PV)
 | dk (kvs:List (Key × PV))
 | fz (kvs:List (Key × PV))
noncomputable abbrev AH:=List Cell
noncomputable abbrev Fr:=List (Option PV)
noncomputable abbrev EK:=PV→AH→Prop
noncomputable abbrev LK:=List PV→AH→Prop
noncomputable abbrev BK:=Bool→AH→Prop
noncomputable abbrev FSp:=List PV→AH→EK→Prop
mutual
noncomputable def PV.bel (k:Nat):PV→Bool
 | .ref n=>decide (n<k)
 | .tup xs=>PV.bels k xs
 | .rdl xs=>PV.bels k xs
 | .non=>true
 | .bl _=>true
 | .int _=>true
 | .str _=>true
 | .fn _=>false
noncomputable def PV.bels (k:Nat):List PV→Bool
 | []=>true
 | x::xs=>x.bel k && PV.bels k xs
end
mutual
noncomputable def PV.bec (k:Nat):PV→Bool
 | .ref n=>decide (n<k)
 | .tup xs=>PV.becs k xs
 | .rdl xs=>PV.becs k xs
 | .non=>true
 | .bl _=>true
 | .int _=>true
 | .str _=>true
 | .fn _=>true
noncomputable def PV.becs (k:Nat):List PV→Bool
 | []=>true
 | x::xs=>x.bec k && PV.becs k xs
end
mutual
theorem PV.bel_bec {i j:Nat}(h:i≤j):∀ {v:PV},v.bel i=true→v.bec j=true
 | .non,_=>by rw[PV.bec]
 | .bl _,_=>by rw[PV.bec]
 | .int _,_=>by rw[PV.bec]
 | .str _,_=>by rw[PV.bec]
 | .ref n,z=>by rw[PV.bel] at z;rw[PV.bec];have:=FP z;exact FF (by omega)
 | .tup xs,z=>by rw[PV.bel] at z;rw[PV.bec];exact PV.bels_becs h z
 | .rdl xs,z=>by rw[PV.bel] at z;rw[PV.bec];exact PV.bels_becs h z
 | .fn _,z=>by rw[PV.bel] at z;cases z
theorem PV.bels_becs {i j:Nat}(h:i≤j):∀ {vs:List PV},PV.bels i vs=true→PV.becs j vs=true
 | [],_=>by rw[PV.becs]
 | v::vs,z=>by rw[PV.bels,D6] at z;rw[PV.becs,D6];exact⟨PV.bel_bec h z.1,PV.bels_becs h z.2⟩
end
noncomputable def Cell.bec (k:Nat):Cell→Bool
 | .lst xs=>PV.becs k xs
 | .dk kvs=>PV.becs k (kvs.map (·.2))
 | .fz kvs=>PV.becs k (kvs.map (·.2))
noncomputable def Cell.bel (k:Nat):Cell→Bool
 | .lst xs=>PV.bels k xs
 | .dk kvs=>PV.bels k (kvs.map (·.2))
 | .fz _=>false
mutual
noncomputable def PV.toD:PV→Option PyData
 | .non=>some .none
 | .bl b=>some (.bool b)
 | .int i=>some (.int i)
 | .str x=>some (.str x)
 | .tup xs=>(PV.toDs xs).map .tuple
 | .rdl xs=>(PV.toDs xs).map .list
 | .ref _=>none
 | .fn _=>none
noncomputable def PV.toDs:List PV→Option (List PyData)
 | []=>some []
 | x::xs=>match x.toD,PV.toDs xs with
  | some d,some ds=>some (d::ds)
  | _,_=>none
end
noncomputable def lr (st:AH):PV→Option PyData
 | .ref n=>match st[n]? with
  | some (.lst xs)=>(PV.toDs xs).map .list
  | _=>none
 | v=>v.toD
def eqW (st:AH)(x y:PV)(k:Bool→Prop):Prop :=
 match x,y with
 | .int i,.int j=>k (decide (i=j))
 | .bl a,.bl b=>k (decide (a=b))
 | .str a,.str b=>k (decide (a=b))
 | x,y=>∃d e,lr st x=some d∧lr st y=some e∧SeqAt.shaped d=true∧SeqAt.shaped e=true∧k (PyData.eqv d e)
noncomputable def a_ (st:AH):PV→Option String
 | .non=>some "NoneType"
 | .bl _=>some "bool"
 | .int _=>some "int"
 | .str _=>some "str"
 | .tup _=>some "tuple"
 | .rdl _=>some "list"
 | .ref n=>match st[n]? with
  | some (.lst _)=>some "list"
  | some (.dk _)=>some "dict"
  | some (.fz _)=>some "dict"
  | none=>none
 | .fn _=>none
noncomputable def aU (st:AH):PV→Option (List PV)
 | .rdl xs=>some xs
 | .ref n=>match st[n]? with
  | some (.lst xs)=>some xs
  | _=>none
 | _=>none
noncomputable def bt (st:AH):PV→Option (List PV)
 | .tup xs=>some xs
 | v=>aU st v
noncomputable def bj:PV→Bool
 | .non=>true
 | _=>false
noncomputable def rc:PV→Bool
 | .non=>true
 | .int _=>true
 | _=>false
noncomputable def fT (k:Bool):PV→Bool
 | .bl b=>b == k
 | _=>false
noncomputable def lU (xs:List PV)(lo hi:Option Int):List PV:=(xs.drop (HT.sIx xs.length 0 lo)).take (HT.sIx xs.length xs.length hi-HT.sIx xs.length 0 lo)
noncomputable def b2z (b:Bool):Int:=if b then 1 else 0
def iiW (f:Int→Int→Prop)(x y:PV):Prop :=
 match x with
 | .int i=>match y with
  | .int j=>f i j
  | _=>False
 | _=>False
def Cv (x y:PV)(st:AH)(Q:EK):Prop :=
 match x with
 | .int i=>match y with
  | .int j=>Q (.int (i+j)) st
  | _=>False
 | .ref n=>match y with
  | .ref k=>∃xs ys,st[n]?=some (.lst xs)∧st[k]?=some (.lst ys)∧xs.length+ys.length≤100000∧Q (.ref st.length) (st++[.lst (xs++ys)])
  | _=>False
 | .tup xs=>match y with
  | .tup ys=>xs.length+ys.length≤100000∧Q (.tup (xs++ys)) st
  | _=>False
 | .str a=>match y with
  | .str b=>a.length+b.length≤100000∧Q (.str (a++b)) st
  | _=>False
 | _=>False
noncomputable def nB (z:Str)(n:Nat):Str:=⟨(List.replicate n z.cps).foldl (·++ ·) #[]⟩
def DJ (x y:PV)(st:AH)(Q:EK):Prop :=
 match x with
 | .str z=>match y with
  | .int k=>2≤k∧k<2 ^ 30∧0<z.length∧z.length*k.toNat≤100000∧Q (.str (nB z k.toNat)) st
  | _=>False
 | .int i=>match y with
  | .int j=>CMB i j∧Q (.int (i*j)) st
  | _=>False
 | .ref n=>match y with
  | .int k=>∃xs,st[n]?=some (.lst xs)∧-(2 ^ 63)≤k∧k<2 ^ 63∧xs.length*k.toNat≤100000∧Q (.ref st.length) (st++[.lst (List.replicate k.toNat xs).flatten])
  | _=>False
 | _=>False
def fA (op:Operator)(x y:PV)(st:AH)(Q:EK):Prop :=
 match op with
 | .Add=>Cv x y st Q
 | .Sub=>iiW (fun i j=>Q (.int (i-j)) st) x y
 | .Mult=>DJ x y st Q
 | .FloorDiv=>iiW (fun i j=>CBig j∧Q (.int (i/j)) st) x y
 | .Mod=>iiW (fun i j=>0<j∧Q (.int (i % j)) st) x y
 | .Pow=>iiW (fun i j=>qF i j∧Q (.int (i ^ j.toNat)) st) x y
 | _=>False
noncomputable def c9 (kvs:List (Key × PV))(k:Key):Option PV:=(kvs.find? fun kv=>decide (kv.1=k)).map (·.2)
noncomputable def qV (kvs:List (Key × PV))(k:Key)(v:PV):List (Key × PV) :=
 if (kvs.any fun kv=>decide (kv.1=k))=true then kvs.map (fun kv=>if kv.1=k then (kv.1,v) else kv) else kvs++[(k,v)]
noncomputable def kP:Key→PV
 | .inl i=>.int i
 | .inr x=>.str x
inductive DW where
 | keys|items
 deriving DecidableEq
noncomputable def dm:DW→List (Key × PV)→List PV
 | .keys,kvs=>kvs.map fun p=>kP p.1
 | .items,kvs=>kvs.map fun p=>.tup [kP p.1,p.2]
noncomputable def v7 (ps:List (Str × PV)):List (Key × PV):=ps.foldl (fun d p=>qV d (.inr p.1) p.2) []
def oS (x y:PV):Prop:=x=y∧∃d,x.toD=some d∧SeqAt.shaped d=true
def rL (st:AH)(x y:PV):Prop:=oS x y∨∃n k kvs lvs,x=.ref n∧y=.ref k∧st[n]?=some (.dk kvs)∧st[k]?=some (.dk lvs)∧kvs.length=lvs.length∧∀p∈kvs,∃u,c9 lvs p.1=some u∧oS p.2 u
noncomputable def ou (st:AH):List PV→List PV→Prop
 | [],[]=>True
 | x::xs,y::ys=>rL st x y∧ou st xs ys
 | _,_=>False
def kQ (st:AH)(x y:PV):Prop:=∃n k kvs lvs,x=.ref n∧y=.ref k∧st[n]?=some (.dk kvs)∧st[k]?=some (.dk lvs)∧(∀p∈kvs,∃d,p.2.toD=some d∧SeqAt.shaped d=true)∧(∀p∈lvs,∃d,p.2.toD=some d∧SeqAt.shaped d=true)∧(kvs.length≠lvs.length∨∃p∈kvs,∀u,c9 lvs p.1=some u→∃d d',p.2.toD=some d∧u.toD=some d'∧PyData.eqv d d'=false)
def mK (st:AH)(x y:PV):Prop:=(∃xs ys,x=.tup xs∧y=.tup ys∧ou st xs ys)∨∃n k,x=.ref n∧y=.ref k∧rL st x y
def inR (a:Str)(n:Nat)(st:AH)(k:Bool→Prop):Prop :=
 (∃ns:List Str,st[n]?=some (.lst (ns.map PV.str))∧k (ns.any fun j=>j == a))∨∃kvs,(st[n]?=some (.dk kvs)∨st[n]?=some (.fz kvs))∧k (c9 kvs (.inr a)).isSome
def bY (op:CmpOp)(x y:PV)(st:AH)(Q:EK):Prop :=
 match op with
 | .Eq=>eqW st x y fun k=>Q (.bl k) st
 | .NotEq=>eqW st x y fun k=>Q (.bl (!k)) st
 | .Is=>match y with
  | .non=>Q (.bl (bj x)) st
  | .bl k=>Q (.bl (fT k x)) st
  | _=>False
 | .IsNot=>match y with
  | .non=>Q (.bl (!bj x)) st
  | .bl k=>Q (.bl (!fT k x)) st
  | _=>False
 | .Lt=>match x,y with
  | .int i,.int j=>Q (.bl (decide (i<j))) st
  | _,_=>False
 | .LtE=>match x,y with
  | .int i,.int j=>Q (.bl (decide (i≤j))) st
  | _,_=>False
 | .Gt=>match x,y with
  | .int i,.int j=>Q (.bl (decide (j<i))) st
  | _,_=>False
 | .GtE=>match x,y with
  | .int i,.int j=>Q (.bl (decide (j≤i))) st
  | _,_=>False
 | .In=>match x,y with
  | .str a,.str b=>Q (.bl (!(Builtin.Str.occurrences b a 0 b.length 1).isEmpty)) st
  | .non,.tup xs=>xs.all rc=true∧Q (.bl (xs.any bj)) st
  | .int i,.tup xs=>∃ns:List Int,xs=ns.map PV.int∧Q (.bl (ns.any fun j=>j == i)) st
  | .str a,.tup xs=>∃ns:List Str,xs=ns.map PV.str∧Q (.bl (ns.any fun j=>j == a)) st
  | .str a,.ref n=>inR a n st fun k=>Q (.bl k) st
  | _,_=>False
 | .NotIn=>match x,y with
  | .str a,.str b=>Q (.bl (!(!(Builtin.Str.occurrences b a 0 b.length 1).isEmpty))) st
  | .int i,.tup xs=>∃ns:List Int,xs=ns.map PV.int∧Q (.bl (!(ns.any fun j=>j == i))) st
  | .str a,.tup xs=>∃ns:List Str,xs=ns.map PV.str∧Q (.bl (!(ns.any fun j=>j == a))) st
  | .str a,.ref n=>inR a n st fun k=>Q (.bl (!k)) st
  | _,_=>False
def oq (o:Option (Option PV))(f:PV→Prop):Prop :=
 match o with
 | some (some v)=>f v
 | _=>False
theorem gP {o:Option (Option PV)}{f:PV→Prop}(h:oq o f):∃v,o=some (some v)∧f v:=by
 cases o with
 | none=>exact False.elim h
 | some o=>cases o with|none=>exact False.elim h|some v=>exact⟨v,rfl,h⟩
theorem mx {o:Option (Option PV)}{f:PV→Prop}{v:PV}(e:o=some (some v))(h:f v):oq o f:=by subst e;exact h
theorem qt {v:PV}{f:PV→Prop}:oq (some (some v)) f=f v:=rfl
def ixI (i:Int)(st:AH)(Q:EK)(x:PV):Prop :=
 match x with
 | .str z=>z.length≤100000∧∃c,atI z.cps.toList i=some c∧Q (.str ⟨#[c]⟩) st
 | x=>∃xs,bt st x=some xs∧∃v,atI xs i=some v∧Q v st
theorem oX {i:Int}{st:AH}{Q:EK}{x:PV}(h:ixI i st Q x):(∃z c,x=.str z∧z.length≤100000∧atI z.cps.toList i=some c∧Q (.str ⟨#[c]⟩) st)∨∃xs v,bt st x=some xs∧atI xs i=some v∧Q v st:=by
 cases x with
 | str z=>exact .inl ⟨z,h.2.choose,rfl,h.1,h.2.choose_spec⟩
 | _=>obtain⟨xs,e,v,e2,q⟩:=h;exact .inr ⟨xs,v,e,e2,q⟩
theorem vO {i:Int}{st:AH}{Q:EK}{x:PV}{xs:List PV}{v:PV}(e:bt st x=some xs)(e2:atI xs i=some v)(h:Q v st):ixI i st Q x:=by
 cases x with|str z=>cases e|_=>exact⟨xs,e,v,e2,h⟩
def ixD (z:Str)(st:AH)(Q:EK)(x:PV):Prop :=
 match x with
 | .ref n=>∃kvs v,(st[n]?=some (.dk kvs)∨st[n]?=some (.fz kvs))∧c9 kvs (.inr z)=some v∧Q v st
 | _=>False
theorem pJ {z:Str}{st:AH}{Q:EK}{x:PV}(h:ixD z st Q x):∃n kvs v,x=.ref n∧(st[n]?=some (.dk kvs)∨st[n]?=some (.fz kvs))∧c9 kvs (.inr z)=some v∧Q v st:=by
 cases x with
 | ref n=>obtain⟨kvs,v,h⟩:=h;exact⟨n,kvs,v,rfl,h⟩
 | _=>exact False.elim h
def ixW (x y:PV)(st:AH)(Q:EK):Prop :=
 match y with
 | .int i=>ixI i st Q x
 | .str z=>ixD z st Q x
 | _=>False
noncomputable def df (z:Str)(lo hi:Option Int):Str:=if ((Builtin.Str.strSliceIndices lo hi 1 z.length).length == z.length)=true then z else ⟨((Builtin.Str.strSliceIndices lo hi 1 z.length).filterMap (z.cps[·]?)).toArray⟩
noncomputable def k8 (z y:Str):List PV :=
 match Builtin.Str.occurrences z y 0 z.length 1 with
 | i::_=>[.str (Builtin.Str.strSub z 0 i),.str y,.str (Builtin.Str.strSub z (i+y.length) z.length)]
 | []=>[.str z,.str Str.empty,.str Str.empty]
def slW (x:PV)(lo hi:Option Int)(st:AH)(Q:EK):Prop :=
 match x with
 | .str z=>z.length≤100000∧Q (.str (df z lo hi)) st
 | .tup xs=>Q (.tup (lU xs lo hi)) st
 | x=>∃xs,aU st x=some xs∧Q (.ref st.length) (st++[.lst (lU xs lo hi)])
def xU (st:AH)(Q:EK)(x:PV):Prop :=
 match x with
 | .str z=>z.length≤100000∧Q (.int z.length) st
 | x=>∃xs,bt st x=some xs∧Q (.int xs.length) st
theorem mM {st:AH}{Q:EK}{x:PV}(h:xU st Q x):(∃z,x=.str z∧z.length≤100000∧Q (.int z.length) st)∨∃xs,bt st x=some xs∧Q (.int xs.length) st:=by
 cases x with|str z=>exact .inl ⟨z,rfl,h⟩|_=>exact .inr h
theorem ua {st:AH}{Q:EK}{x:PV}{xs:List PV}(e:bt st x=some xs)(h:Q (.int xs.length) st):xU st Q x:=by
 cases x with|str z=>cases e|_=>exact⟨xs,e,h⟩
def wm (st:AH)(Q:EK)(x:PV):Prop :=
 match x with
 | .bl b=>Q (.int (b2z b)) st
 | .str z=>z.length≤640∧∃n,PySem.intText? z=some n∧Q (.int n) st
 | _=>False
theorem kz {st:AH}{Q:EK}{x:PV}(h:wm st Q x):(∃b,x=.bl b∧Q (.int (b2z b)) st)∨∃z n,x=.str z∧z.length≤640∧PySem.intText? z=some n∧Q (.int n) st:=by
 cases x with|bl b=>exact .inl ⟨b,rfl,h⟩|str z=>exact .inr ⟨z,h.2.choose,rfl,h.1,h.2.choose_spec⟩|_=>exact False.elim h
inductive B where
 | len|max2|min2|divmod|int1|str1|tuple1|list1|all1|any1|abs1|sorted1|repr1|sortS|max1|sortD
 deriving DecidableEq
noncomputable def fL:List PV→Option (List Bool)
 | []=>some []
 | .bl b::r=>(fL r).map (b::·)
 | _::_=>none
def iS (f:PV→Prop)(vs:List PV):Prop :=
 match vs with
 | [x]=>f x
 | _=>False
def vg (f:PV→PV→Prop)(vs:List PV):Prop :=
 match vs with
 | [x,y]=>f x y
 | _=>False
def blW (f:Bool→Prop)(x:PV):Prop :=
 match x with
 | .bl b=>f b
 | _=>False
def inW (f:Int→Prop)(x:PV):Prop :=
 match x with
 | .int b=>f b
 | _=>False
def cf (b:B)(vs:List PV)(st:AH)(Q:EK):Prop :=
 match b with
 | .len=>iS (xU st Q) vs
 | .max2=>vg (iiW fun i j=>Q (.int (if i<j then j else i)) st) vs
 | .min2=>vg (iiW fun i j=>Q (.int (if j<i then j else i)) st) vs
 | .divmod=>vg (iiW fun i j=>CBig j∧Q (.tup [.int (i/j),.int (i % j)]) st) vs
 | .int1=>iS (wm st Q) vs
 | .str1=>iS (inW fun i=>i.natAbs.log2<1920∧Q (.str (toString i)) st) vs
 | .tuple1=>iS (fun x=>∃xs,bt st x=some xs∧Q (.tup xs) st) vs
 | .list1=>False
 | .all1=>iS (fun x=>∃xs bs,aU st x=some xs∧fL xs=some bs∧Q (.bl (bs.all id)) st) vs
 | .any1=>False
 | .abs1=>iS (inW fun i=>Q (.int i.natAbs) st) vs
 | .sorted1=>False
 | .repr1=>False
 | .sortS=>iS (fun x=>∃ss:List Str,aU st x=some (ss.map PV.str)∧ss.length<64∧∀ss':List Str,ss'.Perm ss→PyProof.Rows.sortedS ss'=true→Q (.ref st.length) (st++[.lst (ss'.map PV.str)])) vs
 | .max1=>iS (fun x=>∃ns:List Int,bt st x=some (ns.map PV.int)∧0<ns.length∧∀i,i∈ns→(∀j,j∈ns→j≤i)→Q (.int i) st) vs
 | .sortD=>iS (fun x=>∃n,x=.ref n∧∃kvs,(st[n]?=some (.dk kvs)∨st[n]?=some (.fz kvs))∧∃ss:List Str,kvs.map (·.1)=ss.map Sum.inr∧ss.length<64∧∀ss':List Str,ss'.Perm ss→PyProof.Rows.sortedS ss'=true→Q (.ref st.length) (st++[.lst (ss'.map PV.str)])) vs
inductive M where
 | append|pop0|extend|insert|count|index
 deriving DecidableEq
def rfW (f:Nat→Prop)(x:PV):Prop :=
 match x with
 | .ref n=>f n
 | _=>False
def v0 (f:Prop)(vs:List PV):Prop :=
 match vs with
 | []=>f
 | _=>False
def lO (m:M)(x:PV)(vs:List PV)(st:AH)(Q:EK):Prop :=
 match m with
 | .append=>rfW (fun n=>iS (fun v=>∃xs,st[n]?=some (.lst xs)∧xs.length<100000∧Q .non (st.set n (.lst (xs++[v])))) vs) x
 | .pop0=>rfW (fun n=>v0 (∃xs v,st[n]?=some (.lst xs)∧xs[xs.length-1]?=some v∧Q v (st.set n (.lst xs.dropLast))) vs) x
 | .extend=>False
 | .insert=>False
 | .count=>False
 | .index=>rfW (fun n=>iS (blW fun b=>∃xs bs,st[n]?=some (.lst xs)∧fL xs=some bs∧bs.length<100000∧∃j:Nat,bs[j]?=some b∧(∀i,i<j→bs[i]?=some (!b))∧Q (.int j) st) vs) x
theorem bi {f:Int→Int→Prop}{x y:PV}(h:iiW f x y):∃i j,x=.int i∧y=.int j∧f i j:=by
 cases x with
 | int i =>
  cases y with
  | int j=>exact⟨i,j,rfl,rfl,h⟩
  | _=>exact False.elim h
 | _=>exact False.elim h
theorem ay {f:PV→Prop}{vs:List PV}(h:iS f vs):∃x,vs=[x]∧f x:=by
 cases vs with
 | nil=>exact False.elim h
 | cons x t =>
  cases t with
  | nil=>exact⟨x,rfl,h⟩
  | cons _ _=>exact False.elim h
theorem dN {f:PV→PV→Prop}{vs:List PV}(h:vg f vs):∃x y,vs=[x,y]∧f x y:=by
 cases vs with
 | nil=>exact False.elim h
 | cons x t =>
  cases t with
  | nil=>exact False.elim h
  | cons y t =>
   cases t with
   | nil=>exact⟨x,y,rfl,h⟩
   | cons _ _=>exact False.elim h
theorem lm {f:Prop}{vs:List PV}(h:v0 f vs):vs=[]∧f:=by
 cases vs with
 | nil=>exact⟨rfl,h⟩
 | cons x t=>exact False.elim h
theorem pF {f:Bool→Prop}{x:PV}(h:blW f x):∃b,x=.bl b∧f b:=by
 cases x with
 | bl b=>exact⟨b,rfl,h⟩
 | _=>exact False.elim h
theorem i6 {f:Int→Prop}{x:PV}(h:inW f x):∃b,x=.int b∧f b:=by
 cases x with
 | int b=>exact⟨b,rfl,h⟩
 | _=>exact False.elim h
theorem fw {f:Nat→Prop}{x:PV}(h:rfW f x):∃b,x=.ref b∧f b:=by
 cases x with
 | ref b=>exact⟨b,rfl,h⟩
 | _=>exact False.elim h
def dy (x:PV)(st:AH)(Q:BK):Prop :=
 match x with
 | .bl b=>Q b st
 | .non=>Q false st
 | .int i=>Q (i != 0) st
 | .str _=>False
 | x=>∃xs,bt st x=some xs∧Q (!xs.isEmpty) st
def Sub (st st':AH):Prop:=∀i,i<st.length→st'[i]?=st[i]?∨∃c,st'[i]?=some c∧c.bel 0=true
noncomputable def Tmp (st:AH)(Q:EK):EK:=fun v st'=>∃st1 g,st'=st1++g∧st1.length=st.length∧Sub st st1∧v.bel st.length=true∧Q v st1
noncomputable def Ret (st:AH)(Q:EK):EK:=fun v st'=>Q v st'∨Tmp st Q v st'
inductive SM where
 | index|count|join
 deriving DecidableEq
def smW (k:SM)(x y:PV)(st:AH)(Q:EK):Prop :=
 match x with
 | .str z=>match k with
  | .join=>z.length=0∧∃ss:List Str,aU st y=some (ss.map PV.str)∧JoinOk z ss=true∧Q (.str (Txt.join z ss)) st
  | .index=>match y with
   | .str w=>∃i r,Builtin.Str.occurrences z w 0 z.length 1=i::r∧Q (.int (i:Nat)) st
   | _=>False
  | .count=>match y with
   | .str w=>Q (.int ((Builtin.Str.occurrences z w 0 z.length (z.length+1)).length:Nat)) st
   | _=>False
 | _=>False
mutual
inductive E where
 | var (i:Nat)|int (i:Int)|bl (b:Bool)|non|str (x:Str)|gv (x:Str) (v:PV)
 | tup (es:Es)|lst (es:Es)|dct0|dct1 (k:Str) (i:Int)
 | bin (op:Operator) (a b:E)|neg (a:E)|not (a:E)
 | cmp (op:CmpOp) (a b:E)
 | bop (isAnd:Bool) (es:Es)
 | ite (c a b:E)
 | ix (a b:E)|sl (a:E) (lo hi:O)
 | call (f:Nat) (es:Es)
 | blt (b:B) (es:Es)
 | inst (a:E) (t:String)
 | met (m:M) (o:E) (es:Es)
 | comp (elt:E) (tg:Tg) (it:It) (ifs:Es) (nt:List Str) (caps:List Nat)
 | tmp (a:E)
 | bad
 | jrev (a:E)|part (a:E) (y:Str)|sset (a:E)|clr (a:E)|dcp (a:E)|dget (a b:E)
 | pcall (i:Nat) (e:E)|hm (e be:E) (caps:List Nat)
 | compK (elt:E) (tg:Tg) (wk:DW) (e:E) (ifs:Es) (nt:List Str) (caps:List Nat)
 | compD (kx vx:E) (tg:Tg) (wk:DW) (e:E) (ifs:Es) (nt:List Str) (caps:List Nat)
 | dcl (a:E)|eqd (ne:Bool) (a b:E)|dct2 (k v:E)|smx (k:SM) (a b:E)
inductive Es where
 | nil|cons (e:E) (es:Es)
inductive O where
 | no|yes (e:E)
inductive It where
 | seq (e:E)|range1 (a:E)|range2 (a b:E)|zip (a b:E)|enum (a:E)|chars (e:E)|range3 (a b c:E)|zip3 (a b c:E)
inductive Tg where
 | name (i:Nat)|tup (ts:Tgs)|ltup (ts:Tgs)|sub (o i:E)
inductive Tgs where
 | nil|cons (t:Tg) (ts:Tgs)
end
noncomputable def Tgs.size:Tgs→Nat
 | .nil=>0
 | .cons _ ts=>ts.size+1
def lu (o i v:PV)(st:AH)(k:AH→Prop):Prop :=
 match o,i with
 | .ref n,.int j=>∃xs,st[n]?=some (.lst xs)∧∃q,ixN xs.length j=some q∧k (st.set n (.lst (xs.set q v)))
 | .ref n,.str z=>∃kvs,st[n]?=some (.dk kvs)∧kvs.length≤1000∧k (st.set n (.dk (qV kvs (.inr z) v)))
 | _,_=>False
noncomputable def c8 (chk:AH→Prop)(body:PV→AH→(Option PV→AH→Prop)→Prop):List PV→List PV→AH→LK→Prop
 | [],acc,st,Q=>chk st∧Q acc st
 | x::xs,acc,st,Q=>chk st∧body x st fun o st'=>c8 chk body xs (acc++o.toList) st' Q
noncomputable def tP (st:AH):PV→AH→Prop
 | .ref n=>fun st'=>st'[n]?=st[n]?
 | _=>fun _=>True
noncomputable def rSz (i j k:Int):Nat:=if i<j then ((j-i-1)/k+1).toNat else 0
noncomputable def dX (lo k:Int)(n:Nat):List PV:=(List.range n).map fun (i:Nat)=>PV.int (lo+(i:Int)*k)
noncomputable def cj (lo:Int)(n:Nat):List PV:=(List.range n).map fun (i:Nat)=>PV.int (lo+(i:Int))
noncomputable def ck (z:Str):List PV:=z.cps.toList.map fun c=>.str ⟨#[c]⟩
noncomputable def zx (g:PV→Bool)(xs:List PV):Nat→Nat→Nat→Nat
 | 0,lo,_=>lo
 | n+1,lo,hi=>if lo<hi then (if g (xs.getD ((lo+hi)/2) .non)=true then zx g xs n ((lo+hi)/2+1) hi else zx g xs n lo ((lo+hi)/2)) else lo
noncomputable def bsr (g:PV→Bool)(xs:List PV):Nat:=zx g xs xs.length 0 xs.length
section
variable (Γ:Nat→FSp)
mutual
noncomputable def wpE:E→Fr→AH→EK→Prop
 | .var i,ρ,st,Q=>oq ρ[i]? fun v=>Q v st
 | .int i,_,st,Q=>Q (.int i) st
 | .bl b,_,st,Q=>Q (.bl b) st
 | .non,_,st,Q=>Q .non st
 | .str x,_,st,Q=>Q (.str x) st
 | .gv _ v,_,st,Q=>Q v st
 | .tup es,ρ,st,Q=>bh es ρ st fun vs st1=>vs.length≤100000∧Q (.tup vs) st1
 | .lst es,ρ,st,Q=>bh es ρ st fun vs st1=>vs.length≤100000∧Q (.ref st1.length) (st1++[.lst vs])
 | .dct0,_,st,Q=>Q (.ref st.length) (st++[.dk []])
 | .dct1 _ _,_,_,_=>False
 | .bin op a b,ρ,st,Q=>wpE a ρ st fun x st1=>wpE b ρ st1 fun y st2=>fA op x y st2 Q
 | .neg a,ρ,st,Q=>wpE a ρ st fun x st1=>∃i,x=.int i∧Q (.int (-i)) st1
 | .not a,ρ,st,Q=>wpE a ρ st fun x st1=>∃c,x=.bl c∧Q (.bl (!c)) st1
 | .cmp op a b,ρ,st,Q=>wpE a ρ st fun x st1=>wpE b ρ st1 fun y st2=>bY op x y st2 Q
 | .bop true es,ρ,st,Q=>lW es ρ st Q
 | .bop false es,ρ,st,Q=>lv es ρ st Q
 | .ite c a b,ρ,st,Q=>wpT c ρ st fun k st1=>if k=true then wpE a ρ st1 Q else wpE b ρ st1 Q
 | .ix a b,ρ,st,Q=>wpE a ρ st fun x st1=>wpE b ρ st1 fun y st2=>ixW x y st2 Q
 | .sl a lo hi,ρ,st,Q=>wpE a ρ st fun x st1=>wpO lo ρ st1 fun l st2=>wpO hi ρ st2 fun h st3=>slW x l h st3 Q
 | .call f es,ρ,st,Q=>bh es ρ st fun vs st1=>Γ f vs st1 Q
 | .blt b es,ρ,st,Q=>bh es ρ st fun vs st1=>cf b vs st1 Q
 | .inst a t,ρ,st,Q=>wpE a ρ st fun x st1=>∃n,a_ st1 x=some n∧Q (.bl (bq t n)) st1
 | .met m o es,ρ,st,Q=>wpE o ρ st fun x st1=>(∃xs,aU st1 x=some xs)∧bh es ρ st1 fun vs st2=>lO m x vs st2 Q
 | .comp elt tg it ifs nt caps,ρ,st,Q=>fY it ρ st fun xs chk st1 =>
   xs.length<100000∧c8 chk (fun x st2 k=>bN tg x (nt.map (fun _=>none)++caps.map fun i=>(ρ[i]?).join) st2 fun ρ' st3=>eC ifs ρ' st3 fun c st4 =>
    if c=true then wpE elt ρ' st4 fun v st5=>k (some v) st5 else k none st4) xs [] st1 fun vs st2=>Q (.ref st2.length) (st2++[.lst vs])
 | .tmp a,ρ,st,Q=>wpE a ρ st (Tmp st Q)
 | .bad,_,_,_=>False
 | .jrev _,_,_,_=>False
 | .part a y,ρ,st,Q=>wpE a ρ st fun x st1=>∃z,x=.str z∧z.length≤100000∧Q (.tup (k8 z y)) st1
 | .dget a b,ρ,st,Q=>wpE a ρ st fun x st1=>(∃n kvs,x=.ref n∧st1[n]?=some (.dk kvs))∧wpE b ρ st1 fun y st2=>∃n,x=.ref n∧∃z,y=.str z∧∃kvs,st2[n]?=some (.dk kvs)∧Q ((c9 kvs (.inr z)).getD .non) st2
 | .smx k a b,ρ,st,Q=>wpE a ρ st fun x st1=>(∃z,x=.str z)∧wpE b ρ st1 fun y st2=>smW k x y st2 Q
 | .dcp _,_,_,_=>False
 | .clr _,_,_,_=>False
 | .sset _,_,_,_=>False
 | .pcall _ _,_,_,_=>False
 | .hm _ _ _,_,_,_=>False
 | .compK _ _ _ _ _ _ _,_,_,_=>False
 | .compD _ _ _ _ _ _ _ _,_,_,_=>False
 | .dct2 k v,ρ,st,Q=>wpE k ρ st fun x st1=>∃z,x=.str z∧wpE v ρ st1 fun y st2=>Q (.ref st2.length) (st2++[.dk [(.inr z,y)]])
 | .dcl _,_,_,_=>False
 | .eqd ne a b,ρ,st,Q=>wpE a ρ st fun x st1=>wpE b ρ st1 fun y st2=>(mK st2 x y∧Q (.bl (!ne)) st2)∨(kQ st2 x y∧Q (.bl ne) st2)
noncomputable def bh:Es→Fr→AH→LK→Prop
 | .nil,_,st,Q=>Q [] st
 | .cons e es,ρ,st,Q=>wpE e ρ st fun x st1=>bh es ρ st1 fun xs st2=>Q (x::xs) st2
noncomputable def wpO:O→Fr→AH→(Option Int→AH→Prop)→Prop
 | .no,_,st,Q=>Q none st
 | .yes e,ρ,st,Q=>wpE e ρ st fun x st1=>∃i,x=.int i∧Q (some i) st1
noncomputable def wpT:E→Fr→AH→BK→Prop
 | .bop true es,ρ,st,Q=>eC es ρ st Q
 | .bop false es,ρ,st,Q=>lG es ρ st Q
 | .not a,ρ,st,Q=>wpT a ρ st fun c st1=>Q (!c) st1
 | .cmp op a b,ρ,st,Q=>wpE a ρ st fun x st1=>wpE b ρ st1 fun y st2=>bY op x y st2 fun v st3=>∃c,v=.bl c∧Q c st3
 | .var i,ρ,st,Q=>oq ρ[i]? fun v=>dy v st Q
 | .call f es,ρ,st,Q=>bh es ρ st fun vs st1=>Γ f vs st1 fun v st2=>dy v st2 Q
 | .blt b es,ρ,st,Q=>bh es ρ st fun vs st1=>cf b vs st1 fun v st2=>dy v st2 Q
 | .inst a t,ρ,st,Q=>wpE a ρ st fun x st1=>∃n,a_ st1 x=some n∧Q (bq t n) st1
 | .tmp a,ρ,st,Q=>wpE a ρ st (Tmp st fun v st1=>dy v st1 Q)
 | .ix a b,ρ,st,Q=>wpE a ρ st fun x st1=>wpE b ρ st1 fun y st2=>ixW x y st2 fun v st3=>dy v st3 Q
 | .pcall _ _,_,_,_=>False
 | .eqd ne a b,ρ,st,Q=>wpE a ρ st fun x st1=>wpE b ρ st1 fun y st2=>(mK st2 x y∧Q (!ne) st2)∨(kQ st2 x y∧Q ne st2)
 | _,_,_,_=>False
noncomputable def lW:Es→Fr→AH→EK→Prop
 | .nil,_,_,_=>False
 | .cons e .nil,ρ,st,Q=>wpE e ρ st Q
 | .cons e es,ρ,st,Q=>wpE e ρ st fun x st1=>∃c,x=.bl c∧if c=true then lW es ρ st1 Q else Q (.bl false) st1
noncomputable def lv:Es→Fr→AH→EK→Prop
 | .nil,_,_,_=>False
 | .cons e .nil,ρ,st,Q=>wpE e ρ st Q
 | .cons e es,ρ,st,Q=>wpE e ρ st fun x st1=>∃c,x=.bl c∧if c=true then Q (.bl true) st1 else lv es ρ st1 Q
noncomputable def eC:Es→Fr→AH→BK→Prop
 | .nil,_,st,Q=>Q true st
 | .cons e .nil,ρ,st,Q=>wpT e ρ st Q
 | .cons e es,ρ,st,Q=>wpT e ρ st fun c st1=>if c=true then eC es ρ st1 Q else Q false st1
noncomputable def lG:Es→Fr→AH→BK→Prop
 | .nil,_,st,Q=>Q false st
 | .cons e .nil,ρ,st,Q=>wpT e ρ st Q
 | .cons e es,ρ,st,Q=>wpT e ρ st fun c st1=>if c=true then Q true st1 else lG es ρ st1 Q
noncomputable def fY:It→Fr→AH→(List PV→(AH→Prop)→AH→Prop)→Prop
 | .seq e,ρ,st,Q=>wpE e ρ st fun x st1=>∃xs,bt st1 x=some xs∧Q xs (tP st1 x) st1
 | .range1 a,ρ,st,Q=>wpE a ρ st fun x st1=>∃j,x=.int j∧-(2 ^ 62)≤j∧j<2 ^ 62∧Q (cj 0 j.toNat) (fun _=>True) st1
 | .range2 a b,ρ,st,Q=>wpE a ρ st fun x st1=>wpE b ρ st1 fun y st2=>∃i j,x=.int i∧y=.int j∧(-(2 ^ 62)≤i∧i<2 ^ 62∧-(2 ^ 62)≤j∧j<2 ^ 62)∧Q (cj i (j-i).toNat) (fun _=>True) st2
 | .zip _ _,_,_,_=>False
 | .zip3 _ _ _,_,_,_=>False
 | .enum _,_,_,_=>False
 | .chars a,ρ,st,Q=>wpE a ρ st fun x st1=>∃z,x=.str z∧Q (ck z) (fun _=>True) st1
 | .range3 a b c,ρ,st,Q=>wpE a ρ st fun x st1=>wpE b ρ st1 fun y st2=>wpE c ρ st2 fun u st3=>∃i j k,x=.int i∧y=.int j∧u=.int k∧(-(2 ^ 62)≤i∧i<2 ^ 62∧-(2 ^ 62)≤j∧j<2 ^ 62∧0<k∧k<2 ^ 62)∧Q (dX i k (rSz i j k)) (fun _=>True) st3
noncomputable def bN:Tg→PV→Fr→AH→(Fr→AH→Prop)→Prop
 | .name i,v,ρ,st,Q=>Q (ρ.set i (some v)) st
 | .tup ts,v,ρ,st,Q=>∃xs,v=.tup xs∧xs.length=ts.size∧dO ts xs ρ st Q
 | .ltup ts,v,ρ,st,Q=>∃xs,aU st v=some xs∧xs.length=ts.size∧dO ts xs ρ st Q
 | .sub o i,v,ρ,st,Q=>wpE o ρ st fun x st1=>wpE i ρ st1 fun y st2=>lu x y v st2 fun st3=>Q ρ st3
noncomputable def dO:Tgs→List PV→Fr→AH→(Fr→AH→Prop)→Prop
 | .nil,vs,ρ,st,Q=>vs=[]∧Q ρ st
 | .cons t ts,vs,ρ,st,Q=>∃v r,vs=v::r∧bN t v ρ st fun ρ' st'=>dO ts r ρ' st' Q
end
end
mutual
inductive S where
 | set (t:Tg) (e:E)|par (i j:Nat) (a b:E)|aug (i:Nat) (op:Operator) (e:E)|expr (e:E)|ret (e:E)|retN
 | ifS (c:E) (a b:Ss)|whileS (c:E) (b:Ss)|forS (t:Tg) (it:It) (b:Ss)|pass|brk|cont|bad|set2 (i j:Nat) (e:E)|forK (t:Tg) (wk:DW) (e:E) (b:Ss)
inductive Ss where
 | nil|cons (s:S) (ss:Ss)
end
structure aA where
 nx:Fr→AH→Prop
 rt:EK
 bk:Fr→AH→Prop:=fun _ _=>False
 ct:Fr→AH→Prop:=fun _ _=>False
noncomputable def fzD (n:Nat)(kvs:List (Key × PV))(D:aA):aA:={ nx:=fun ρ st=>st[n]?=some (.fz kvs)∧D.nx ρ (st.set n (.dk kvs)),rt:=fun v st=>st[n]?=some (.fz kvs)∧D.rt v (st.set n (.dk kvs)) }
noncomputable def iL (chk:AH→Prop)(body:PV→Fr→AH→aA→Prop)(D:aA):List PV→Fr→AH→Prop
 | [],ρ,st=>chk st∧D.nx ρ st
 | x::xs,ρ,st=>chk st∧body x ρ st { nx:=iL chk body D xs,ct:=iL chk body D xs,bk:=D.nx,rt:=D.rt }
noncomputable def cZ (c:Fr→AH→BK→Prop)(body:Fr→AH→aA→Prop)(D:aA):Nat→Fr→AH→Prop
 | 0,_,_=>False
 | n+1,ρ,st=>c ρ st fun k st1=>if k=true then body ρ st1 { nx:=cZ c body D n,ct:=cZ c body D n,bk:=D.nx,rt:=D.rt } else D.nx ρ st1
def j5 (op:Operator)(x y:PV)(st:AH)(Q:EK):Prop :=
 match op,x,y with
 | .Add,.int i,.int j=>Q (.int (i+j)) st
 | .Sub,.int i,.int j=>Q (.int (i-j)) st
 | .Add,.ref n,.ref k=>∃xs ys,st[n]?=some (.lst xs)∧st[k]?=some (.lst ys)∧xs.length+ys.length≤100000∧Q (.ref n) (st.set n (.lst (xs++ys)))
 | _,_,_=>False
section
variable (Γ:Nat→FSp)
mutual
noncomputable def wpS:S→Fr→AH→aA→Prop
 | .set t e,ρ,st,D=>wpE Γ e ρ st fun v st1=>bN Γ t v ρ st1 D.nx
 | .par i j a b,ρ,st,D=>wpE Γ a ρ st fun x st1=>wpE Γ b ρ st1 fun y st2=>D.nx ((ρ.set i (some x)).set j (some y)) st2
 | .aug i op e,ρ,st,D=>∃x,ρ[i]?=some (some x)∧wpE Γ e ρ st fun y st1=>j5 op x y st1 fun z st2=>D.nx (ρ.set i (some z)) st2
 | .expr e,ρ,st,D=>wpE Γ e ρ st fun _ st1=>D.nx ρ st1
 | .ret e,ρ,st,D=>wpE Γ e ρ st D.rt
 | .retN,_,st,D=>D.rt .non st
 | .ifS c a b,ρ,st,D=>wpT Γ c ρ st fun k st1=>if k=true then aN a ρ st1 D else aN b ρ st1 D
 | .whileS c b,ρ,st,D=>∃n,cZ (wpT Γ c) (aN b) D n ρ st
 | .forS t it b,ρ,st,D=>fY Γ it ρ st fun xs chk st1=>iL chk (fun x ρ' st' D'=>bN Γ t x ρ' st' fun ρ2 st2=>aN b ρ2 st2 D') D xs ρ st1
 | .pass,ρ,st,D=>D.nx ρ st
 | .brk,ρ,st,D=>D.bk ρ st
 | .cont,ρ,st,D=>D.ct ρ st
 | .bad,_,_,_=>False
 | .forK t wk e b,ρ,st,D=>wpE Γ e ρ st fun x st1=>∃n,x=.ref n∧∃kvs,st1[n]?=some (.dk kvs)∧iL (fun _=>True) (fun x ρ' st' D'=>bN Γ t x ρ' st' fun ρ2 st2=>aN b ρ2 st2 D') (fzD n kvs D) (dm wk kvs) ρ (st1.set n (.fz kvs))
 | .set2 i j e,ρ,st,D=>wpE Γ e ρ st fun v st1=>D.nx ((ρ.set i (some v)).set j (some v)) st1
noncomputable def aN:Ss→Fr→AH→aA→Prop
 | .nil,ρ,st,D=>D.nx ρ st
 | .cons s ss,ρ,st,D=>wpS s ρ st { D with nx:=fun ρ' st'=>aN ss ρ' st' D }
end
end
section
variable {Γ:Nat→FSp}{ρ:Fr}{st:AH}{Q:EK}{D:aA}{a b c:E}{es:Es}
theorem yH:aN Γ .nil ρ st D=D.nx ρ st:=rfl
theorem xg {s:S}:aN Γ (.cons s .nil) ρ st D=wpS Γ s ρ st D:=rfl
theorem re {t:Tg}:wpS Γ (.set t a) ρ st D=wpE Γ a ρ st fun v st1=>bN Γ t v ρ st1 D.nx:=rfl
theorem Ax {i j:Nat}:wpS Γ (.par i j a b) ρ st D=wpE Γ a ρ st fun x st1=>wpE Γ b ρ st1 fun y st2=>D.nx ((ρ.set i (some x)).set j (some y)) st2:=rfl
theorem Cn {i:Nat}{op:Operator}:wpS Γ (.aug i op a) ρ st D=∃x,ρ[i]?=some (some x)∧wpE Γ a ρ st fun y st1=>j5 op x y st1 fun z st2=>D.nx (ρ.set i (some z)) st2:=rfl
theorem xG:wpS Γ (.expr a) ρ st D=wpE Γ a ρ st fun _ st1=>D.nx ρ st1:=rfl
theorem Ak:wpS Γ (.ret a) ρ st D=wpE Γ a ρ st fun v st1=>D.rt v st1:=rfl
theorem wG:wpS Γ .retN ρ st D=D.rt .non st:=rfl
theorem DH {x y:Ss}:wpS Γ (.ifS c x y) ρ st D=wpT Γ c ρ st fun k st1=>if k=true then aN Γ x ρ st1 D else aN Γ y ρ st1 D:=rfl
theorem zr:wpS Γ .pass ρ st D=D.nx ρ st:=rfl
theorem yt {i j:Nat}:wpS Γ (.set2 i j a) ρ st D=wpE Γ a ρ st fun v st1=>D.nx ((ρ.set i (some v)).set j (some v)) st1:=rfl
theorem BF:wpS Γ .brk ρ st D=D.bk ρ st:=rfl
theorem wR:wpS Γ .cont ρ st D=D.ct ρ st:=rfl
theorem AO {i:Nat}:wpE Γ (.var i) ρ st Q=oq ρ[i]? fun v=>Q v st:=rfl
theorem B9 {i:Int}:wpE Γ (.int i) ρ st Q=Q (.int i) st:=rfl
theorem Df {i:Bool}:wpE Γ (.bl i) ρ st Q=Q (.bl i) st:=rfl
theorem zW:wpE Γ .non ρ st Q=Q .non st:=rfl
theorem A3 {i:Str}:wpE Γ (.str i) ρ st Q=Q (.str i) st:=rfl
theorem DT {x:Str}{v:PV}:wpE Γ (.gv x v) ρ st Q=Q v st:=rfl
theorem BP:wpE Γ (.tup es) ρ st Q=bh Γ es ρ st fun vs st1=>vs.length≤100000∧Q (.tup vs) st1:=rfl
theorem AY:wpE Γ (.lst es) ρ st Q=bh Γ es ρ st fun vs st1=>vs.length≤100000∧Q (.ref st1.length) (st1++[.lst vs]):=rfl
theorem ze:wpE Γ .dct0 ρ st Q=Q (.ref st.length) (st++[.dk []]):=rfl
theorem zR {op:Operator}:wpE Γ (.bin op a b) ρ st Q=wpE Γ a ρ st fun x st1=>wpE Γ b ρ st1 fun y st2=>fA op x y st2 Q:=rfl
theorem Aj:wpE Γ (.neg a) ρ st Q=wpE Γ a ρ st fun x st1=>∃i,x=.int i∧Q (.int (-i)) st1:=rfl
theorem Cq:wpE Γ (.not a) ρ st Q=wpE Γ a ρ st fun x st1=>∃c,x=.bl c∧Q (.bl (!c)) st1:=rfl
theorem Au {op:CmpOp}:wpE Γ (.cmp op a b) ρ st Q=wpE Γ a ρ st fun x st1=>wpE Γ b ρ st1 fun y st2=>bY op x y st2 Q:=rfl
theorem Bb:wpE Γ (.bop true es) ρ st Q=lW Γ es ρ st Q:=rfl
theorem CL:wpE Γ (.bop false es) ρ st Q=lv Γ es ρ st Q:=rfl
theorem zI:wpE Γ (.ite c a b) ρ st Q=wpT Γ c ρ st fun k st1=>if k=true then wpE Γ a ρ st1 Q else wpE Γ b ρ st1 Q:=rfl
theorem Dt:wpE Γ (.ix a b) ρ st Q=wpE Γ a ρ st fun x st1=>wpE Γ b ρ st1 fun y st2=>ixW x y st2 Q:=rfl
theorem CU {lo hi:O}:wpE Γ (.sl a lo hi) ρ st Q=wpE Γ a ρ st fun x st1=>wpO Γ lo ρ st1 fun l st2=>wpO Γ hi ρ st2 fun h st3=>slW x l h st3 Q:=rfl
theorem yW {f:Nat}:wpE Γ (.call f es) ρ st Q=bh Γ es ρ st fun vs st1=>Γ f vs st1 Q:=rfl
theorem B2 {f:B}:wpE Γ (.blt f es) ρ st Q=bh Γ es ρ st fun vs st1=>cf f vs st1 Q:=rfl
theorem xM {t:String}:wpE Γ (.inst a t) ρ st Q=wpE Γ a ρ st fun x st1=>∃n,a_ st1 x=some n∧Q (.bl (bq t n)) st1:=rfl
theorem B8 {m:M}:wpE Γ (.met m a es) ρ st Q=wpE Γ a ρ st fun x st1=>(∃xs,aU st1 x=some xs)∧bh Γ es ρ st1 fun vs st2=>lO m x vs st2 Q:=rfl
theorem yi:wpE Γ (.dget a b) ρ st Q=wpE Γ a ρ st fun x st1=>(∃n kvs,x=.ref n∧st1[n]?=some (.dk kvs))∧wpE Γ b ρ st1 fun y st2=>∃n,x=.ref n∧∃z,y=.str z∧∃kvs,st2[n]?=some (.dk kvs)∧Q ((c9 kvs (.inr z)).getD .non) st2:=rfl
theorem AK {k:SM}:wpE Γ (.smx k a b) ρ st Q=wpE Γ a ρ st fun x st1=>(∃z,x=.str z)∧wpE Γ b ρ st1 fun y st2=>smW k x y st2 Q:=rfl
theorem yR {y:Str}:wpE Γ (.part a y) ρ st Q=wpE Γ a ρ st fun x st1=>∃z,x=.str z∧z.length≤100000∧Q (.tup (k8 z y)) st1:=rfl
theorem xm:wpE Γ (.dct2 a b) ρ st Q=wpE Γ a ρ st fun x st1=>∃z,x=.str z∧wpE Γ b ρ st1 fun y st2=>Q (.ref st2.length) (st2++[.dk [(.inr z,y)]]):=rfl
theorem Ae {ne:Bool}:wpE Γ (.eqd ne a b) ρ st Q=wpE Γ a ρ st fun x st1=>wpE Γ b ρ st1 fun y st2=>(mK st2 x y∧Q (.bl (!ne)) st2)∨(kQ st2 x y∧Q (.bl ne) st2):=rfl
theorem Cr:wpE Γ (.tmp a) ρ st Q=wpE Γ a ρ st fun v st1=>Tmp st Q v st1:=rfl
variable {LQ:LK}{BQ:BK}{e e2:E}{i:Nat}{v:PV}{FQ:Fr→AH→Prop}{IQ:List PV→(AH→Prop)→AH→Prop}
theorem xc:bh Γ .nil ρ st LQ=LQ [] st:=rfl
theorem ue:bh Γ (.cons e es) ρ st LQ=wpE Γ e ρ st fun x st1=>bh Γ es ρ st1 fun xs st2=>LQ (x::xs) st2:=rfl
theorem CT {OQ:Option Int→AH→Prop}:wpO Γ .no ρ st OQ=OQ none st:=rfl
theorem B7 {OQ:Option Int→AH→Prop}:wpO Γ (.yes e) ρ st OQ=wpE Γ e ρ st fun x st1=>∃i,x=.int i∧OQ (some i) st1:=rfl
theorem Bs:wpT Γ (.bop true es) ρ st BQ=eC Γ es ρ st BQ:=rfl
theorem Dq:wpT Γ (.bop false es) ρ st BQ=lG Γ es ρ st BQ:=rfl
theorem Bg:wpT Γ (.not a) ρ st BQ=wpT Γ a ρ st fun c st1=>BQ (!c) st1:=rfl
theorem Aq {op:CmpOp}:wpT Γ (.cmp op a b) ρ st BQ=wpE Γ a ρ st fun x st1=>wpE Γ b ρ st1 fun y st2=>bY op x y st2 fun v st3=>∃c,v=.bl c∧BQ c st3:=rfl
theorem Ao:wpT Γ (.var i) ρ st BQ=oq ρ[i]? fun v=>dy v st BQ:=rfl
theorem zB {f:Nat}:wpT Γ (.call f es) ρ st BQ=bh Γ es ρ st fun vs st1=>Γ f vs st1 fun v st2=>dy v st2 BQ:=rfl
theorem Co {f:B}:wpT Γ (.blt f es) ρ st BQ=bh Γ es ρ st fun vs st1=>cf f vs st1 fun v st2=>dy v st2 BQ:=rfl
theorem wK {t:String}:wpT Γ (.inst a t) ρ st BQ=wpE Γ a ρ st fun x st1=>∃n,a_ st1 x=some n∧BQ (bq t n) st1:=rfl
theorem B5 {ne:Bool}:wpT Γ (.eqd ne a b) ρ st BQ=wpE Γ a ρ st fun x st1=>wpE Γ b ρ st1 fun y st2=>(mK st2 x y∧BQ (!ne) st2)∨(kQ st2 x y∧BQ ne st2):=rfl
theorem AN:wpT Γ (.tmp a) ρ st BQ=wpE Γ a ρ st fun v st1=>Tmp st (fun v st1=>dy v st1 BQ) v st1:=rfl
theorem CC:wpT Γ (.ix a b) ρ st BQ=wpE Γ a ρ st fun x st1=>wpE Γ b ρ st1 fun y st2=>ixW x y st2 fun v st3=>dy v st3 BQ:=rfl
theorem yB:lW Γ (.cons e .nil) ρ st Q=wpE Γ e ρ st Q:=rfl
theorem uD:lW Γ (.cons e (.cons e2 es)) ρ st Q=wpE Γ e ρ st fun x st1=>∃c,x=.bl c∧if c=true then lW Γ (.cons e2 es) ρ st1 Q else Q (.bl false) st1:=rfl
theorem zF:lv Γ (.cons e .nil) ρ st Q=wpE Γ e ρ st Q:=rfl
theorem ut:lv Γ (.cons e (.cons e2 es)) ρ st Q=wpE Γ e ρ st fun x st1=>∃c,x=.bl c∧if c=true then Q (.bl true) st1 else lv Γ (.cons e2 es) ρ st1 Q:=rfl
theorem sM:eC Γ .nil ρ st BQ=BQ true st:=rfl
theorem zq:eC Γ (.cons e .nil) ρ st BQ=wpT Γ e ρ st BQ:=rfl
theorem vR:eC Γ (.cons e (.cons e2 es)) ρ st BQ=wpT Γ e ρ st fun c st1=>if c=true then eC Γ (.cons e2 es) ρ st1 BQ else BQ false st1:=rfl
theorem yc:lG Γ (.cons e .nil) ρ st BQ=wpT Γ e ρ st BQ:=rfl
theorem uE:lG Γ (.cons e (.cons e2 es)) ρ st BQ=wpT Γ e ρ st fun c st1=>if c=true then BQ true st1 else lG Γ (.cons e2 es) ρ st1 BQ:=rfl
theorem xP:fY Γ (.seq e) ρ st IQ=wpE Γ e ρ st fun x st1=>∃xs,bt st1 x=some xs∧IQ xs (tP st1 x) st1:=rfl
theorem Ba:fY Γ (.range1 a) ρ st IQ=wpE Γ a ρ st fun x st1=>∃j,x=.int j∧-(2 ^ 62)≤j∧j<2 ^ 62∧IQ (cj 0 j.toNat) (fun _=>True) st1:=rfl
theorem Cg:fY Γ (.range2 a b) ρ st IQ=wpE Γ a ρ st fun x st1=>wpE Γ b ρ st1 fun y st2=>∃i j,x=.int i∧y=.int j∧(-(2 ^ 62)≤i∧i<2 ^ 62∧-(2 ^ 62)≤j∧j<2 ^ 62)∧IQ (cj i (j-i).toNat) (fun _=>True) st2:=rfl
theorem r9:fY Γ (.chars a) ρ st IQ=wpE Γ a ρ st fun x st1=>∃z,x=.str z∧IQ (ck z) (fun _=>True) st1:=rfl
theorem Av:fY Γ (.range3 a b c) ρ st IQ=wpE Γ a ρ st fun x st1=>wpE Γ b ρ st1 fun y st2=>wpE Γ c ρ st2 fun u st3=>∃i j k,x=.int i∧y=.int j∧u=.int k∧(-(2 ^ 62)≤i∧i<2 ^ 62∧-(2 ^ 62)≤j∧j<2 ^ 62∧0<k∧k<2 ^ 62)∧IQ (dX i k (rSz i j k)) (fun _=>True) st3:=rfl
theorem gu:bN Γ (.name i) v ρ st FQ=FQ (ρ.set i (some v)) st:=rfl
theorem mf {ts:Tgs}:bN Γ (.tup ts) v ρ st FQ=∃xs,v=.tup xs∧xs.length=ts.size∧dO Γ ts xs ρ st FQ:=rfl
theorem i5 {ts:Tgs}:bN Γ (.ltup ts) v ρ st FQ=∃xs,aU st v=some xs∧xs.length=ts.size∧dO Γ ts xs ρ st FQ:=rfl
theorem l9:bN Γ (.sub a b) v ρ st FQ=wpE Γ a ρ st fun x st1=>wpE Γ b ρ st1 fun y st2=>lu x y v st2 fun st3=>FQ ρ st3:=rfl
theorem vC {vs:List PV}:dO Γ .nil vs ρ st FQ=(vs=[]∧FQ ρ st):=rfl
theorem t7 {t:Tg}{ts:Tgs}{vs:List PV}:dO Γ (.cons t ts) vs ρ st FQ=∃v r,vs=v::r∧bN Γ t v ρ st fun ρ' st'=>dO Γ ts r ρ' st' FQ:=rfl
theorem wV:Tgs.size .nil=0:=id rfl
theorem uK {t:Tg}{ts:Tgs}:Tgs.size (.cons t ts)=ts.size+1:=id rfl
end
end FW
namespace FW
open PySem L2 HX
theorem mS {st:AH}{x y:PV}{k k':Bool→Prop}(h:∀b,k b→k' b)(q:eqW st x y k):eqW st x y k':=by
 unfold eqW at q ⊢
 split at q
 ·exact h _ q
 ·exact h _ q
 ·exact h _ q
 ·obtain⟨d,e,h1,h2,h3,h4,q⟩:=q
  exact⟨d,e,h1,h2,h3,h4,h _ q⟩
theorem kC {op:Operator}{x y:PV}{st:AH}{Q Q':EK}(h:∀v st,Q v st→Q' v st)(q:fA op x y st Q):fA op x y st Q':=by
 cases op with
 | Add =>
  cases x with
  | int i =>
   cases y with
   | int j=>exact h _ _ q
   | _=>exact False.elim q
  | ref n =>
   cases y with
   | ref k=>obtain⟨xs,ys,h1,h2,h3,q⟩:=q;exact⟨xs,ys,h1,h2,h3,h _ _ q⟩
   | _=>exact False.elim q
  | tup xs =>
   cases y with
   | tup ys=>exact⟨q.1,h _ _ q.2⟩
   | _=>exact False.elim q
  | str a =>
   cases y with
   | str b=>exact⟨q.1,h _ _ q.2⟩
   | _=>exact False.elim q
  | _=>exact False.elim q
 | Mult =>
  cases x with
  | int i =>
   cases y with
   | int j=>exact⟨q.1,h _ _ q.2⟩
   | _=>exact False.elim q
  | ref n =>
   cases y with
   | int k=>obtain⟨xs,h1,h2,h3,h4,q⟩:=q;exact⟨xs,h1,h2,h3,h4,h _ _ q⟩
   | _=>exact False.elim q
  | str z =>
   cases y with
   | int k=>obtain⟨h1,h2,h3,h4,q⟩:=q;exact⟨h1,h2,h3,h4,h _ _ q⟩
   | _=>exact False.elim q
  | _=>exact False.elim q
 | Sub=>obtain⟨i,j,rfl,rfl,q⟩:=bi q;exact h _ _ q
 | FloorDiv=>obtain⟨i,j,rfl,rfl,q⟩:=bi q;exact⟨q.1,h _ _ q.2⟩
 | Mod=>obtain⟨i,j,rfl,rfl,q⟩:=bi q;exact⟨q.1,h _ _ q.2⟩
 | Pow=>obtain⟨i,j,rfl,rfl,q⟩:=bi q;exact⟨q.1,h _ _ q.2⟩
 | _=>exact False.elim q
theorem mC {a:Str}{n:Nat}{st:AH}{k k':Bool→Prop}(h:∀b,k b→k' b)(q:inR a n st k):inR a n st k':=by
 rcases q with⟨ns,e,q⟩|⟨kvs,e,q⟩
 ·exact .inl ⟨ns,e,h _ q⟩
 ·exact .inr ⟨kvs,e,h _ q⟩
theorem fh {op:CmpOp}{x y:PV}{st:AH}{Q Q':EK}(h:∀v st,Q v st→Q' v st)(q:bY op x y st Q):bY op x y st Q':=by
 unfold bY at q ⊢
 split at q
 ·exact mS (fun _=>h _ _) q
 ·exact mS (fun _=>h _ _) q
 ·split at q <;> first|exact h _ _ q|exact q
 ·split at q <;> first|exact h _ _ q|exact q
 ·split at q <;> first|exact h _ _ q|exact q
 ·split at q <;> first|exact h _ _ q|exact q
 ·split at q <;> first|exact h _ _ q|exact q
 ·split at q <;> first|exact h _ _ q|exact q
 ·split at q <;> first|exact h _ _ q|(obtain⟨ns,e,q⟩:=q;exact⟨ns,e,h _ _ q⟩)|exact⟨q.1,h _ _ q.2⟩|exact mC (fun _=>h _ _) q|exact q
 ·split at q <;> first|exact h _ _ q|(obtain⟨ns,e,q⟩:=q;exact⟨ns,e,h _ _ q⟩)|exact mC (fun _=>h _ _) q|exact q
theorem gM {x y:PV}{st:AH}{Q Q':EK}(h:∀v st,Q v st→Q' v st)(q:ixW x y st Q):ixW x y st Q':=by
 cases y with
 | int i =>
  rcases oX q with⟨z,c,rfl,h1,h2,q⟩|⟨xs,v,h1,h2,q⟩
  ·exact⟨h1,c,h2,h _ _ q⟩
  ·exact vO h1 h2 (h _ _ q)
 | str z=>obtain⟨n,kvs,v,rfl,h1,h2,q⟩:=pJ q;exact⟨kvs,v,h1,h2,h _ _ q⟩
 | _=>exact q
theorem nS {x:PV}{lo hi:Option Int}{st:AH}{Q Q':EK}(h:∀v st,Q v st→Q' v st)(q:slW x lo hi st Q):slW x lo hi st Q':=by
 cases x with
 | tup xs=>exact h _ _ q
 | str z=>exact⟨q.1,h _ _ q.2⟩
 | _=>obtain⟨xs,e,q⟩:=q;exact⟨xs,e,h _ _ q⟩
theorem sW {k:SM}{x y:PV}{st:AH}{Q Q':EK}(h:∀v st,Q v st→Q' v st)(q:smW k x y st Q):smW k x y st Q':=by
 cases x with
 | str z =>
  cases k with
  | join=>obtain⟨h1,ss,h2,h3,q⟩:=q;exact⟨h1,ss,h2,h3,h _ _ q⟩
  | index =>
   cases y with
   | str w=>obtain⟨i,r,h1,q⟩:=q;exact⟨i,r,h1,h _ _ q⟩
   | _=>exact False.elim q
  | count =>
   cases y with
   | str w=>exact h _ _ q
   | _=>exact False.elim q
 | _=>exact False.elim q
theorem e8 {b:B}{vs:List PV}{st:AH}{Q Q':EK}(h:∀v st,Q v st→Q' v st)(q:cf b vs st Q):cf b vs st Q':=by
 cases b with
 | len =>
  obtain⟨x,rfl,q⟩:=ay q
  rcases mM q with⟨z,rfl,h1,q⟩|⟨xs,e,q⟩
  ·exact⟨h1,h _ _ q⟩
  ·exact ua e (h _ _ q)
 | max2=>obtain⟨x,y,rfl,q⟩:=dN q;obtain⟨i,j,rfl,rfl,q⟩:=bi q;exact h _ _ q
 | min2=>obtain⟨x,y,rfl,q⟩:=dN q;obtain⟨i,j,rfl,rfl,q⟩:=bi q;exact h _ _ q
 | divmod=>obtain⟨x,y,rfl,q⟩:=dN q;obtain⟨i,j,rfl,rfl,q⟩:=bi q;exact⟨q.1,h _ _ q.2⟩
 | int1 =>
  obtain⟨x,rfl,q⟩:=ay q
  rcases kz q with⟨b,rfl,q⟩|⟨z,n,rfl,h1,h2,q⟩
  ·exact h _ _ q
  ·exact⟨h1,n,h2,h _ _ q⟩
 | str1=>obtain⟨x,rfl,q⟩:=ay q;obtain⟨i,rfl,q⟩:=i6 q;exact⟨q.1,h _ _ q.2⟩
 | tuple1=>obtain⟨x,rfl,xs,h1,q⟩:=ay q;exact⟨xs,h1,h _ _ q⟩
 | list1=>exact False.elim q
 | all1=>obtain⟨x,rfl,xs,bs,h1,h2,q⟩:=ay q;exact⟨xs,bs,h1,h2,h _ _ q⟩
 | any1=>exact False.elim q
 | abs1=>obtain⟨x,rfl,q⟩:=ay q;obtain⟨i,rfl,q⟩:=i6 q;exact h _ _ q
 | sortS=>obtain⟨x,rfl,xs,h1,h2,q⟩:=ay q;exact⟨xs,h1,h2,fun z p s=>h _ _ (q z p s)⟩
 | sortD=>obtain⟨x,rfl,n,e,kvs,h1,ss,h2,h3,q⟩:=ay q;exact⟨n,e,kvs,h1,ss,h2,h3,fun z p s=>h _ _ (q z p s)⟩
 | max1=>obtain⟨x,rfl,xs,h1,h2,q⟩:=ay q;exact⟨xs,h1,h2,fun z p s=>h _ _ (q z p s)⟩
 | sorted1=>exact False.elim q
 | repr1=>exact False.elim q
theorem ff {m:M}{x:PV}{vs:List PV}{st:AH}{Q Q':EK}(h:∀v st,Q v st→Q' v st)(q:lO m x vs st Q):lO m x vs st Q':=by
 cases m with
 | append=>obtain⟨n,rfl,q⟩:=fw q;obtain⟨v,rfl,xs,h1,h2,q⟩:=ay q;exact⟨xs,h1,h2,h _ _ q⟩
 | pop0=>obtain⟨n,rfl,q⟩:=fw q;obtain⟨rfl,xs,v,h1,h2,q⟩:=lm q;exact⟨xs,v,h1,h2,h _ _ q⟩
 | extend=>exact False.elim q
 | insert=>exact False.elim q
 | count=>exact False.elim q
 | index=>obtain⟨n,rfl,q⟩:=fw q;obtain⟨v,rfl,q⟩:=ay q;obtain⟨b,rfl,xs,bs,h1,h2,h3,j,h4,h5,q⟩:=pF q;exact⟨xs,bs,h1,h2,h3,j,h4,h5,h _ _ q⟩
theorem bf {x:PV}{st:AH}{Q Q':BK}(h:∀v st,Q v st→Q' v st)(q:dy x st Q):dy x st Q':=by
 unfold dy at q ⊢
 split at q <;> first
  | exact h _ _ q
  | exact q.elim
  | (obtain⟨xs,h1,q⟩:=q;exact⟨xs,h1,h _ _ q⟩)
theorem kJ {o i v:PV}{st:AH}{k k':AH→Prop}(h:∀st,k st→k' st)(q:lu o i v st k):lu o i v st k':=by
 unfold lu at q ⊢
 split at q
 ·obtain⟨xs,h1,j,h2,q⟩:=q
  exact⟨xs,h1,j,h2,h _ q⟩
 ·obtain⟨xs,h1,h2,q⟩:=q
  exact⟨xs,h1,h2,h _ q⟩
 ·exact q
theorem nv {st0:AH}{Q Q':EK}(h:∀v st,Q v st→Q' v st){v:PV}{st:AH}(q:Tmp st0 Q v st):Tmp st0 Q' v st:=by
 obtain⟨st1,g,h1,h2,h3,h4,q⟩:=q
 exact⟨st1,g,h1,h2,h3,h4,h _ _ q⟩
theorem dU {chk:AH→Prop}{body body':PV→AH→(Option PV→AH→Prop)→Prop}(hb:∀x st k k',(∀o st,k o st→k' o st)→body x st k→body' x st k') :
  ∀ {xs acc:List PV}{st:AH}{Q Q':LK},(∀v st,Q v st→Q' v st)→c8 chk body xs acc st Q→c8 chk body' xs acc st Q'
 | [],acc,st,Q,Q',h,q=>⟨q.1,h _ _ q.2⟩
 | x::xs,acc,st,Q,Q',h,q=>⟨q.1,hb _ _ _ _ (fun o st' z=>dU hb h z) q.2⟩
section
variable {Γ:Nat→FSp}
def aO (Γ:Nat→FSp):Prop:=∀f vs st Q Q',(∀v st,Q v st→Q' v st)→Γ f vs st Q→Γ f vs st Q'
mutual
theorem aa (G:aO Γ):∀(e:E) {ρ:Fr}{st:AH}{Q Q':EK},(∀v st,Q v st→Q' v st)→wpE Γ e ρ st Q→wpE Γ e ρ st Q'
 | .var i,ρ,st,Q,Q',h,q=>by
  obtain⟨v,e,z⟩:=gP q
  exact mx e (h _ _ z)
 | .int i,ρ,st,Q,Q',h,q=>by exact h _ _ q
 | .bl i,ρ,st,Q,Q',h,q=>by exact h _ _ q
 | .non,ρ,st,Q,Q',h,q=>by exact h _ _ q
 | .str i,ρ,st,Q,Q',h,q=>by exact h _ _ q
 | .gv _ i,ρ,st,Q,Q',h,q=>by exact h _ _ q
 | .tup es,ρ,st,Q,Q',h,q=>by exact ar G es (fun vs st1 z=>⟨z.1,h _ _ z.2⟩) q
 | .lst es,ρ,st,Q,Q',h,q=>by exact ar G es (fun vs st1 z=>⟨z.1,h _ _ z.2⟩) q
 | .dct0,ρ,st,Q,Q',h,q=>by exact h _ _ q
 | .bad,ρ,st,Q,Q',h,q=>False.elim q
 | .jrev _,ρ,st,Q,Q',h,q=>False.elim q
 | .dget a b,ρ,st,Q,Q',h,q=>by exact aa G a (fun x st1 z=>⟨z.1,aa G b (fun y st2 z=>let ⟨n,e,u,e2,kvs,h1,z⟩:=z;⟨n,e,u,e2,kvs,h1,h _ _ z⟩) z.2⟩) q
 | .smx k a b,ρ,st,Q,Q',h,q=>by exact aa G a (fun x st1 z=>⟨z.1,aa G b (fun y st2 z=>sW h z) z.2⟩) q
 | .dcp _,ρ,st,Q,Q',h,q=>False.elim q
 | .clr _,ρ,st,Q,Q',h,q=>False.elim q
 | .sset _,ρ,st,Q,Q',h,q=>False.elim q
 | .part a y,ρ,st,Q,Q',h,q=>by
  refine aa G a (fun x st1 z=>?_) q
  obtain⟨w,e,h1,z⟩:=z
  exact⟨w,e,h1,h _ _ z⟩
 | .pcall _ _,ρ,st,Q,Q',h,q=>False.elim q
 | .hm _ _ _,ρ,st,Q,Q',h,q=>False.elim q
 | .dct1 _ _,ρ,st,Q,Q',h,q=>False.elim q
 | .bin op a b,ρ,st,Q,Q',h,q=>by exact aa G a (fun x st1 z=>aa G b (fun y st2 z=>kC h z) z) q
 | .neg a,ρ,st,Q,Q',h,q=>by
  skip
  refine aa G a (fun x st1 z=>?_) q
  obtain⟨i,e,z⟩:=z
  exact⟨i,e,h _ _ z⟩
 | .not a,ρ,st,Q,Q',h,q=>by
  skip
  refine aa G a (fun x st1 z=>?_) q
  obtain⟨i,e,z⟩:=z
  exact⟨i,e,h _ _ z⟩
 | .cmp op a b,ρ,st,Q,Q',h,q=>by exact aa G a (fun x st1 z=>aa G b (fun y st2 z=>fh h z) z) q
 | .bop true es,ρ,st,Q,Q',h,q=>by exact gY G es h q
 | .bop false es,ρ,st,Q,Q',h,q=>by exact im G es h q
 | .ite c a b,ρ,st,Q,Q',h,q=>by
  skip
  refine aC G c (fun k st1 z=>?_) q
  cases k with
  | true=>rw[D9 rfl] at z ⊢;exact aa G a h z
  | false=>rw[D_ D1] at z ⊢;exact aa G b h z
 | .ix a b,ρ,st,Q,Q',h,q=>by exact aa G a (fun x st1 z=>aa G b (fun y st2 z=>gM h z) z) q
 | .sl a lo hi,ρ,st,Q,Q',h,q=>by exact aa G a (fun x st1 z=>gb G lo (fun l st2 z=>gb G hi (fun u st3 z=>nS h z) z) z) q
 | .call f es,ρ,st,Q,Q',h,q=>by exact ar G es (fun vs st1 z=>G _ _ _ _ _ h z) q
 | .blt b es,ρ,st,Q,Q',h,q=>by exact ar G es (fun vs st1 z=>e8 h z) q
 | .inst a t,ρ,st,Q,Q',h,q=>by
  skip
  refine aa G a (fun x st1 z=>?_) q
  obtain⟨i,e,z⟩:=z
  exact⟨i,e,h _ _ z⟩
 | .met m o es,ρ,st,Q,Q',h,q=>by exact aa G o (fun x st1 z=>⟨z.1,ar G es (fun vs st2 z=>ff h z) z.2⟩) q
 | .comp elt tg it ifs nt caps,ρ,st,Q,Q',h,q=>by
  skip
  exact dB G it (fun xs chk st1 z=>⟨z.1,dU (fun x st k k' hk w=>aK G tg (fun ρ' st3 w=>bu G ifs (fun c st4 w=>by
   cases c with
   | true=>rw[D9 rfl] at w ⊢;exact aa G elt (fun v st5 w=>hk _ _ w) w
   | false=>rw[D_ D1] at w ⊢;exact hk _ _ w) w) w) (fun vs st2 w=>h _ _ w) z.2⟩) q
 | .tmp a,ρ,st,Q,Q',h,q=>by exact aa G a (fun v st1 z=>nv h z) q
 | .compK _ _ _ _ _ _ _,ρ,st,Q,Q',h,q=>False.elim q
 | .compD _ _ _ _ _ _ _ _,ρ,st,Q,Q',h,q=>False.elim q
 | .dct2 k v,ρ,st,Q,Q',h,q=>by exact aa G k (fun x st1 z=>let ⟨u,e,z⟩:=z;⟨u,e,aa G v (fun y st2 z=>h _ _ z) z⟩) q
 | .dcl _,ρ,st,Q,Q',h,q=>False.elim q
 | .eqd ne a b,ρ,st,Q,Q',h,q=>by exact aa G a (fun x st1 z=>aa G b (fun y st2 z=>z.imp (fun z=>⟨z.1,h _ _ z.2⟩) fun z=>⟨z.1,h _ _ z.2⟩) z) q
theorem ar (G:aO Γ):∀(e:Es) {ρ:Fr}{st:AH}{Q Q':LK},(∀v st,Q v st→Q' v st)→bh Γ e ρ st Q→bh Γ e ρ st Q'
 | .nil,ρ,st,Q,Q',h,q=>by exact h _ _ q
 | .cons e es,ρ,st,Q,Q',h,q=>by exact aa G e (fun x st1 z=>ar G es (fun xs st2 z=>h _ _ z) z) q
theorem gb (G:aO Γ):∀(e:O) {ρ:Fr}{st:AH}{Q Q':Option Int→AH→Prop},(∀v st,Q v st→Q' v st)→wpO Γ e ρ st Q→wpO Γ e ρ st Q'
 | .no,ρ,st,Q,Q',h,q=>by exact h _ _ q
 | .yes e,ρ,st,Q,Q',h,q=>by
  skip
  refine aa G e (fun x st1 z=>?_) q
  obtain⟨i,e,z⟩:=z
  exact⟨i,e,h _ _ z⟩
theorem aC (G:aO Γ):∀(e:E) {ρ:Fr}{st:AH}{Q Q':BK},(∀v st,Q v st→Q' v st)→wpT Γ e ρ st Q→wpT Γ e ρ st Q'
 | .bop true es,ρ,st,Q,Q',h,q=>by exact bu G es h q
 | .bop false es,ρ,st,Q,Q',h,q=>by exact g9 G es h q
 | .not a,ρ,st,Q,Q',h,q=>by exact aC G a (fun c st1 z=>h _ _ z) q
 | .cmp op a b,ρ,st,Q,Q',h,q=>by
  skip
  exact aa G a (fun x st1 z=>aa G b (fun y st2 z=>fh (fun v st3 w=>by obtain⟨c,e,w⟩:=w;exact⟨c,e,h _ _ w⟩) z) z) q
 | .var i,ρ,st,Q,Q',h,q=>by
  obtain⟨v,e,z⟩:=gP q
  exact mx e (bf h z)
 | .call f es,ρ,st,Q,Q',h,q=>by exact ar G es (fun vs st1 z=>G _ _ _ _ _ (fun v st2 z=>bf h z) z) q
 | .blt b es,ρ,st,Q,Q',h,q=>by exact ar G es (fun vs st1 z=>e8 (fun v st2 z=>bf h z) z) q
 | .inst a t,ρ,st,Q,Q',h,q=>by
  skip
  refine aa G a (fun x st1 z=>?_) q
  obtain⟨i,e,z⟩:=z
  exact⟨i,e,h _ _ z⟩
 | .tmp a,ρ,st,Q,Q',h,q=>by exact aa G a (fun v st1 z=>nv (fun v st2 z=>bf h z) z) q
 | .ix a b,ρ,st,Q,Q',h,q=>by exact aa G a (fun x st1 z=>aa G b (fun y st2 z=>gM (fun v st3 z=>bf h z) z) z) q
 | .pcall _ _,ρ,st,Q,Q',h,q=>False.elim q
 | .eqd ne a b,ρ,st,Q,Q',h,q=>by exact aa G a (fun x st1 z=>aa G b (fun y st2 z=>z.imp (fun z=>⟨z.1,h _ _ z.2⟩) fun z=>⟨z.1,h _ _ z.2⟩) z) q
 | .compK _ _ _ _ _ _ _,ρ,st,Q,Q',h,q=>False.elim q
 | .compD _ _ _ _ _ _ _ _,ρ,st,Q,Q',h,q=>False.elim q
 | .dcl _,ρ,st,Q,Q',h,q=>False.elim q
 | .dct2 _ _,ρ,st,Q,Q',h,q=>False.elim q
 | .hm _ _ _,ρ,st,Q,Q',h,q=>False.elim q
 | .int _,ρ,st,Q,Q',h,q=>False.elim q
 | .bl _,ρ,st,Q,Q',h,q=>False.elim q
 | .non,ρ,st,Q,Q',h,q=>False.elim q
 | .str _,ρ,st,Q,Q',h,q=>False.elim q
 | .gv _ _,ρ,st,Q,Q',h,q=>False.elim q
 | .tup _,ρ,st,Q,Q',h,q=>False.elim q
 | .lst _,ρ,st,Q,Q',h,q=>False.elim q
 | .dct0,ρ,st,Q,Q',h,q=>False.elim q
 | .bad,ρ,st,Q,Q',h,q=>False.elim q
 | .jrev _,ρ,st,Q,Q',h,q=>False.elim q
 | .dcp _,ρ,st,Q,Q',h,q=>False.elim q
 | .smx _ _ _,ρ,st,Q,Q',h,q=>False.elim q
 | .dget _ _,ρ,st,Q,Q',h,q=>False.elim q
 | .clr _,ρ,st,Q,Q',h,q=>False.elim q
 | .sset _,ρ,st,Q,Q',h,q=>False.elim q
 | .part _ _,ρ,st,Q,Q',h,q=>False.elim q
 | .dct1 _ _,ρ,st,Q,Q',h,q=>False.elim q
 | .bin _ _ _,ρ,st,Q,Q',h,q=>False.elim q
 | .neg _,ρ,st,Q,Q',h,q=>False.elim q
 | .ite _ _ _,ρ,st,Q,Q',h,q=>False.elim q
 | .sl _ _ _,ρ,st,Q,Q',h,q=>False.elim q
 | .met _ _ _,ρ,st,Q,Q',h,q=>False.elim q
 | .comp _ _ _ _ _ _,ρ,st,Q,Q',h,q=>False.elim q
theorem gY (G:aO Γ):∀(e:Es) {ρ:Fr}{st:AH}{Q Q':EK},(∀v st,Q v st→Q' v st)→lW Γ e ρ st Q→lW Γ e ρ st Q'
 | .nil,ρ,st,Q,Q',h,q=>False.elim q
 | .cons e .nil,ρ,st,Q,Q',h,q=>by exact aa G e h q
 | .cons e (.cons e2 es),ρ,st,Q,Q',h,q=>by
  skip
  refine aa G e (fun x st1 z=>?_) q
  obtain⟨c,e,z⟩:=z
  refine⟨c,e,?_⟩
  cases c with
  | true=>rw[D9 rfl] at z ⊢;exact gY G (.cons e2 es) h z
  | false=>rw[D_ D1] at z ⊢;exact h _ _ z
theorem im (G:aO Γ):∀(e:Es) {ρ:Fr}{st:AH}{Q Q':EK},(∀v st,Q v st→Q' v st)→lv Γ e ρ st Q→lv Γ e ρ st Q'
 | .nil,ρ,st,Q,Q',h,q=>False.elim q
 | .cons e .nil,ρ,st,Q,Q',h,q=>by exact aa G e h q
 | .cons e (.cons e2 es),ρ,st,Q,Q',h,q=>by
  skip
  refine aa G e (fun x st1 z=>?_) q
  obtain⟨c,e,z⟩:=z
  refine⟨c,e,?_⟩
  cases c with
  | true=>rw[D9 rfl] at z ⊢;exact h _ _ z
  | false=>rw[D_ D1] at z ⊢;exact im G (.cons e2 es) h z
theorem bu (G:aO Γ):∀(e:Es) {ρ:Fr}{st:AH}{Q Q':BK},(∀v st,Q v st→Q' v st)→eC Γ e ρ st Q→eC Γ e ρ st Q'
 | .nil,ρ,st,Q,Q',h,q=>by exact h _ _ q
 | .cons e .nil,ρ,st,Q,Q',h,q=>by exact aC G e h q
 | .cons e (.cons e2 es),ρ,st,Q,Q',h,q=>by
  skip
  refine aC G e (fun c st1 z=>?_) q
  cases c with
  | true=>rw[D9 rfl] at z ⊢;exact bu G (.cons e2 es) h z
  | false=>rw[D_ D1] at z ⊢;exact h _ _ z
theorem g9 (G:aO Γ):∀(e:Es) {ρ:Fr}{st:AH}{Q Q':BK},(∀v st,Q v st→Q' v st)→lG Γ e ρ st Q→lG Γ e ρ st Q'
 | .nil,ρ,st,Q,Q',h,q=>by exact h _ _ q
 | .cons e .nil,ρ,st,Q,Q',h,q=>by exact aC G e h q
 | .cons e (.cons e2 es),ρ,st,Q,Q',h,q=>by
  skip
  refine aC G e (fun c st1 z=>?_) q
  cases c with
  | true=>rw[D9 rfl] at z ⊢;exact h _ _ z
  | false=>rw[D_ D1] at z ⊢;exact g9 G (.cons e2 es) h z
theorem dB (G:aO Γ):∀(e:It) {ρ:Fr}{st:AH}{Q Q':List PV→(AH→Prop)→AH→Prop},(∀v c st,Q v c st→Q' v c st)→fY Γ e ρ st Q→fY Γ e ρ st Q'
 | .seq a,ρ,st,Q,Q',h,q=>by
  skip
  refine aa G a (fun x st1 z=>?_) q
  obtain⟨c,e,z⟩:=z
  exact⟨c,e,h _ _ _ z⟩
 | .range1 a,ρ,st,Q,Q',h,q=>by
  skip
  refine aa G a (fun x st1 z=>?_) q
  obtain⟨c,e,h1,h2,z⟩:=z
  exact⟨c,e,h1,h2,h _ _ _ z⟩
 | .range2 a b,ρ,st,Q,Q',h,q=>by
  skip
  refine aa G a (fun x st1 z=>aa G b (fun y st2 z=>?_) z) q
  obtain⟨i,j,e,e2,h1,z⟩:=z
  exact⟨i,j,e,e2,h1,h _ _ _ z⟩
 | .zip _ _,ρ,st,Q,Q',h,q=>False.elim q
 | .enum _,ρ,st,Q,Q',h,q=>False.elim q
 | .chars a,ρ,st,Q,Q',h,q=>by
  refine aa G a (fun x st1 z=>?_) q
  obtain⟨c,e,z⟩:=z
  exact⟨c,e,h _ _ _ z⟩
 | .zip3 _ _ _,ρ,st,Q,Q',h,q=>False.elim q
 | .range3 a b c,ρ,st,Q,Q',h,q=>by
  refine aa G a (fun x st1 z=>aa G b (fun y st2 z=>aa G c (fun u st3 z=>?_) z) z) q
  obtain⟨i,j,k,e,e2,e3,h1,z⟩:=z
  exact⟨i,j,k,e,e2,e3,h1,h _ _ _ z⟩
theorem aK (G:aO Γ):∀(t:Tg) {v:PV}{ρ:Fr}{st:AH}{Q Q':Fr→AH→Prop},(∀ρ st,Q ρ st→Q' ρ st)→bN Γ t v ρ st Q→bN Γ t v ρ st Q'
 | .name i,v,ρ,st,Q,Q',h,q=>by exact h _ _ q
 | .tup ts,v,ρ,st,Q,Q',h,q=>by
  skip
  obtain⟨xs,e,hl,q⟩:=q
  exact⟨xs,e,hl,de G ts h q⟩
 | .ltup ts,v,ρ,st,Q,Q',h,q=>by
  skip
  obtain⟨xs,e,hl,q⟩:=q
  exact⟨xs,e,hl,de G ts h q⟩
 | .sub o i,v,ρ,st,Q,Q',h,q=>by exact aa G o (fun x st1 z=>aa G i (fun y st2 z=>kJ (fun st3 z=>h _ _ z) z) z) q
theorem de (G:aO Γ):∀(t:Tgs) {v:List PV}{ρ:Fr}{st:AH}{Q Q':Fr→AH→Prop},(∀ρ st,Q ρ st→Q' ρ st)→dO Γ t v ρ st Q→dO Γ t v ρ st Q'
 | .nil,v,ρ,st,Q,Q',h,q=>by exact⟨q.1,h _ _ q.2⟩
 | .cons t ts,v,ρ,st,Q,Q',h,q=>by
  skip
  obtain⟨x,r,e,q⟩:=q
  exact⟨x,r,e,aK G t (fun ρ' st' z=>de G ts h z) q⟩
end
structure eg (D D':aA):Prop where
 nx:∀ρ st,D.nx ρ st→D'.nx ρ st
 rt:∀v st,D.rt v st→D'.rt v st
 bk:∀ρ st,D.bk ρ st→D'.bk ρ st
 ct:∀ρ st,D.ct ρ st→D'.ct ρ st
theorem eT {chk:AH→Prop}{body body':PV→Fr→AH→aA→Prop}{D D':aA}(hD:eg D D')(hb:∀x ρ st D D',eg D D'→body x ρ st D→body' x ρ st D') :
  ∀ {xs:List PV}{ρ:Fr}{st:AH},iL chk body D xs ρ st→iL chk body' D' xs ρ st
 | [],ρ,st,q=>⟨q.1,hD.nx _ _ q.2⟩
 | x::xs,ρ,st,q=>by
  refine⟨q.1,hb _ _ _ _ _ ?_ q.2⟩
  exact⟨fun _ _ z=>eT hD hb z,hD.rt,hD.nx,fun _ _ z=>eT hD hb z⟩
theorem eF {c:Fr→AH→BK→Prop}{body:Fr→AH→aA→Prop}{D D':aA}(hD:eg D D')(hc:∀ρ st Q Q',(∀b st,Q b st→Q' b st)→c ρ st Q→c ρ st Q')
  (hb:∀ρ st D D',eg D D'→body ρ st D→body ρ st D'):∀ {n:Nat}{ρ:Fr}{st:AH},cZ c body D n ρ st→cZ c body D' n ρ st
 | 0,ρ,st,q=>q
 | n+1,ρ,st,q=>hc _ _ _ _ (fun b st1 z=>by
  cases b with
  | true =>
   rw[D9 rfl] at z ⊢
   refine hb _ _ _ _ ?_ z
   exact⟨fun _ _ z=>eF hD hc hb z,hD.rt,hD.nx,fun _ _ z=>eF hD hc hb z⟩
  | false=>rw[D_ D1] at z ⊢;exact hD.nx _ _ z) q
theorem kR {op:Operator}{x y:PV}{st:AH}{Q Q':EK}(h:∀v st,Q v st→Q' v st)(q:j5 op x y st Q):j5 op x y st Q':=by
 unfold j5 at q ⊢
 split at q
 ·exact h _ _ q
 ·exact h _ _ q
 ·obtain⟨xs,ys,h1,h2,h3,q⟩:=q
  exact⟨xs,ys,h1,h2,h3,h _ _ q⟩
 ·exact q
mutual
theorem eK (G:aO Γ):∀(s:S) {ρ:Fr}{st:AH}{D D':aA},eg D D'→wpS Γ s ρ st D→wpS Γ s ρ st D'
 | .set t e,ρ,st,D,D',h,q=>by exact aa G e (fun v st1 z=>aK G t h.nx z) q
 | .par i j a b,ρ,st,D,D',h,q=>by exact aa G a (fun v st1 z=>aa G b (fun w st2 z=>h.nx _ _ z) z) q
 | .aug i op e,ρ,st,D,D',h,q=>by
  skip
  obtain⟨x,h1,q⟩:=q
  exact⟨x,h1,aa G e (fun v st1 z=>kR (fun _ _ z=>h.nx _ _ z) z) q⟩
 | .expr e,ρ,st,D,D',h,q=>by exact aa G e (fun v st1 z=>h.nx _ _ z) q
 | .ret e,ρ,st,D,D',h,q=>by exact aa G e h.rt q
 | .retN,ρ,st,D,D',h,q=>by exact h.rt _ _ q
 | .ifS c a b,ρ,st,D,D',h,q=>by
  skip
  refine aC G c (fun k st1 z=>?_) q
  cases k with
  | true=>rw[D9 rfl] at z ⊢;exact aH G a h z
  | false=>rw[D_ D1] at z ⊢;exact aH G b h z
 | .whileS c b,ρ,st,D,D',h,q=>by
  skip
  obtain⟨n,q⟩:=q
  refine⟨n,eF h (c:=wpT Γ c) (body:=aN Γ b) ?_ ?_ q⟩
  ·exact fun _ _ _ _ hk z=>aC G c hk z
  ·exact fun _ _ _ _ hk z=>aH G b hk z
 | .forS t it b,ρ,st,D,D',h,q=>by
  skip
  exact dB G it (fun xs chk st1 z=>eT h (fun x ρ st D D' hd w=>aK G t (fun ρ2 st2 w=>aH G b hd w) w) z) q
 | .forK t wk e b,ρ,st,D,D',h,q=>by
  skip
  refine aa G e (fun x st1 z=>?_) q
  obtain⟨n,ex,kvs,e1,z⟩:=z
  exact⟨n,ex,kvs,e1,eT (D:=fzD n kvs D) (D':=fzD n kvs D') ⟨fun _ _ z=>⟨z.1,h.nx _ _ z.2⟩,fun _ _ z=>⟨z.1,h.rt _ _ z.2⟩,fun _ _ z=>False.elim z,fun _ _ z=>False.elim z⟩ (fun x ρ st D D' hd w=>aK G t (fun ρ2 st2 w=>aH G b hd w) w) z⟩
 | .pass,ρ,st,D,D',h,q=>by exact h.nx _ _ q
 | .bad,ρ,st,D,D',h,q=>False.elim q
 | .set2 i j e,ρ,st,D,D',h,q=>by exact aa G e (fun v st1 z=>h.nx _ _ z) q
 | .brk,ρ,st,D,D',h,q=>by exact h.bk _ _ q
 | .cont,ρ,st,D,D',h,q=>by exact h.ct _ _ q
theorem aH (G:aO Γ):∀(s:Ss) {ρ:Fr}{st:AH}{D D':aA},eg D D'→aN Γ s ρ st D→aN Γ s ρ st D'
 | .nil,ρ,st,D,D',h,q=>by exact h.nx _ _ q
 | .cons s ss,ρ,st,D,D',h,q=>by
  skip
  refine eK G s ?_ q
  exact⟨fun _ _ z=>aH G ss h z,h.rt,h.bk,h.ct⟩
end
end
end FW
namespace FW
open L2 HX
def RdF (K:W.Frag)(H:Hp)(a:Addr)(ys:List V):Prop :=
 (∃o,H a=some (.frz o (.lst ys)))∨∃(o:Obj) (its:Array Value) (n:Nat),K.lookup a=some o∧o.cls=.type "list"∧o.dict=none∧o.data=.seq its n∧its.size≤sizeLine∧Vals ys its.toList
theorem RdF.sq {K:W.Frag}{H:Hp}{a:Addr}{ys:List V}(h:RdF K H a ys):SqL K H a ys:=by
 rcases h with h|h
 ·exact .inl (.inr h)
 ·exact .inr h
mutual
noncomputable def R (K:W.Frag)(m:List Addr)(H:Hp):PV→V→Prop
 | .non,v=>v=.non
 | .bl b,v=>v=.bl b
 | .int i,v=>v=.int i
 | .str x,v=>v=.str x
 | .ref n,v=>∃a,m[n]?=some a∧v=.ref a
 | .tup xs,v=>∃a ys,v=.ref a∧SqT K H a ys∧Rs K m H xs ys
 | .rdl xs,v=>∃a ys,v=.ref a∧RdF K H a ys∧Rs K m H xs ys
 | .fn a,v=>v=.ref a
noncomputable def Rs (K:W.Frag)(m:List Addr)(H:Hp):List PV→List V→Prop
 | [],ys=>ys=[]
 | x::xs,ys=>∃y r,ys=y::r∧R K m H x y∧Rs K m H xs r
end
section
variable {K:W.Frag}{m m':List Addr}{H H':Hp}{v:V}{vs:List V}
theorem R_non:R K m H .non v↔v=.non:=by rw[R]
theorem R_bl {b:Bool}:R K m H (.bl b) v↔v=.bl b:=by rw[R]
theorem R_int {b:Int}:R K m H (.int b) v↔v=.int b:=by rw[R]
theorem R_str {b:Str}:R K m H (.str b) v↔v=.str b:=by rw[R]
theorem dM {n:Nat}:R K m H (.ref n) v↔∃a,m[n]?=some a∧v=.ref a:=by rw[R]
theorem R_tup {xs:List PV}:R K m H (.tup xs) v↔∃a ys,v=.ref a∧SqT K H a ys∧Rs K m H xs ys:=by rw[R]
theorem dz {xs:List PV}:R K m H (.rdl xs) v↔∃a ys,v=.ref a∧RdF K H a ys∧Rs K m H xs ys:=by rw[R]
theorem pN {a:Nat}:R K m H (.fn a) v↔v=.ref a:=by rw[R]
theorem Rs_nil:Rs K m H [] vs↔vs=[]:=by rw[Rs]
theorem Rs_cons {x:PV}{xs:List PV}:Rs K m H (x::xs) vs↔∃y r,vs=y::r∧R K m H x y∧Rs K m H xs r:=by rw[Rs]
theorem Rs_cons' {x:PV}{xs:List PV}:Rs K m H (x::xs) (v::vs)↔R K m H x v∧Rs K m H xs vs:=by
 rw[Rs_cons]
 constructor
 ·rintro⟨_,_,e,h1,h2⟩;cases e;exact⟨h1,h2⟩
 ·rintro⟨h1,h2⟩;exact⟨_,_,rfl,h1,h2⟩
theorem Rs.len:∀ {xs:List PV}{ys:List V},Rs K m H xs ys→xs.length=ys.length
 | [],ys,h=>by rw[Rs_nil] at h;subst h;rfl
 | x::xs,ys,h=>by
  rw[Rs_cons] at h
  obtain⟨y,r,rfl,_,h⟩:=h
  simp[Rs.len h]
theorem Rs.get:∀ {xs:List PV}{ys:List V}{i:Nat}{x:PV},Rs K m H xs ys→xs[i]?=some x→∃y,ys[i]?=some y∧R K m H x y
 | [],ys,i,x,h,e=>by simp at e
 | x::xs,ys,i,z,h,e=>by
  rw[Rs_cons] at h
  obtain⟨y,r,rfl,h1,h⟩:=h
  cases i with
  | zero=>simp at e;subst e;exact⟨y,rfl,h1⟩
  | succ i =>
   obtain⟨w,e1,e2⟩:=Rs.get h (by simpa using e)
   exact⟨w,by simpa using e1,e2⟩
theorem Rs.app:∀ {xs zs:List PV}{ys ws:List V},Rs K m H xs ys→Rs K m H zs ws→Rs K m H (xs++zs) (ys++ws)
 | [],zs,ys,ws,h,h'=>by rw[Rs_nil] at h;subst h;exact h'
 | x::xs,zs,ys,ws,h,h'=>by
  rw[Rs_cons] at h
  obtain⟨y,r,rfl,h1,h⟩:=h
  rw[List.cons_append,Rs_cons]
  exact⟨y,r++ws,rfl,h1,h.app h'⟩
theorem Rs.drop:∀ {xs:List PV}{ys:List V} (n:Nat),Rs K m H xs ys→Rs K m H (xs.drop n) (ys.drop n)
 | xs,ys,0,h=>by simpa using h
 | [],ys,n+1,h=>by rw[Rs_nil] at h;subst h;simp[Rs_nil]
 | x::xs,ys,n+1,h=>by
  rw[Rs_cons] at h
  obtain⟨y,r,rfl,h1,h⟩:=h
  simpa using Rs.drop n h
theorem Rs.take:∀ {xs:List PV}{ys:List V} (n:Nat),Rs K m H xs ys→Rs K m H (xs.take n) (ys.take n)
 | xs,ys,0,h=>by simp[Rs_nil]
 | [],ys,n+1,h=>by rw[Rs_nil] at h;subst h;simp[Rs_nil]
 | x::xs,ys,n+1,h=>by
  rw[Rs_cons] at h
  obtain⟨y,r,rfl,h1,h⟩:=h
  rw[List.take_succ_cons,List.take_succ_cons,Rs_cons']
  exact⟨h1,Rs.take n h⟩
theorem Rs.set {x:PV}{y:V}(hx:R K m H x y):∀ {xs:List PV}{ys:List V} (n:Nat),Rs K m H xs ys→Rs K m H (xs.set n x) (ys.set n y)
 | [],ys,n,h=>by rw[Rs_nil] at h;subst h;simp[Rs_nil]
 | z::xs,ys,0,h=>by
  rw[Rs_cons] at h
  obtain⟨w,r,rfl,h1,h⟩:=h
  rw[List.set_cons_zero,List.set_cons_zero,Rs_cons']
  exact⟨hx,h⟩
 | z::xs,ys,n+1,h=>by
  rw[Rs_cons] at h
  obtain⟨w,r,rfl,h1,h⟩:=h
  rw[List.set_cons_succ,List.set_cons_succ,Rs_cons']
  exact⟨h1,Rs.set hx n h⟩
theorem Rs.cut {xs:List PV}{ys:List V}(h:Rs K m H xs ys)(lo hi:Option Int):Rs K m H (lU xs lo hi) (j6 ys lo hi):=by
 unfold lU j6
 rw[h.len]
 exact(h.drop _).take _
theorem Rs.atI {xs:List PV}{ys:List V}{i:Int}{x:PV}(h:Rs K m H xs ys)(e:atI xs i=some x):∃y,L2.atI ys i=some y∧R K m H x y:=by
 unfold L2.atI at e ⊢
 rw[h.len] at e
 cases q:ixN ys.length i with
 | none=>rw[q] at e;cases e
 | some j =>
  rw[q] at e
  obtain⟨y,e1,e2⟩:=h.get (show xs[j]?=some x from e)
  exact⟨y,e1,e2⟩
theorem Rs.dropLast {xs:List PV}{ys:List V}(h:Rs K m H xs ys):Rs K m H xs.dropLast ys.dropLast:=by
 rw[List.dropLast_eq_take,List.dropLast_eq_take,h.len]
 exact h.take _
theorem Rs.rep {xs:List PV}{ys:List V}(h:Rs K m H xs ys):∀n:Nat,Rs K m H (List.replicate n xs).flatten (List.replicate n ys).flatten
 | 0=>by simp[Rs_nil]
 | n+1=>by
  rw[FD,FD,F0,F0]
  exact h.app (Rs.rep h n)
theorem Rs.one {x:PV}{y:V}(h:R K m H x y):Rs K m H [x] [y]:=by rw[Rs_cons',Rs_nil];exact⟨h,rfl⟩
end
noncomputable def aW:List Str:=["coming","latest","through"]
def TB (K:W.Frag)(H:Hp):Prop:=∀x∈aW,∀c T,W.tabIn K x=some (c,T)→(∀y∈aW,∀d,W.tabIn K y=some (d,T)→y=x)∧∃ps,H T=some (.tbl ps)∧TriplesOk ps.toList ∧
 ∀pos cv,codeAmong pos ps.toList=some cv→∃c' oc,cv=.ref c'∧H c'=some (.frz oc (.own 0))∧zf oc (x++".<locals>."++"<lambda>")
theorem TB.keep {K:W.Frag}{H H':Hp}(t:TB K H)(h1:∀a ps,H a=some (.tbl ps)→H' a=some (.tbl ps))(h2:∀a o,H a=some (.frz o (.own 0))→H' a=some (.frz o (.own 0))):TB K H':=fun x hx c T e=>by
 obtain⟨e0,ps,e1,e2,e3⟩:=t x hx c T e
 refine⟨e0,ps,h1 _ _ e1,e2,fun pos cv q=>?_⟩
 obtain⟨c',oc,g1,g2,g3⟩:=e3 pos cv q
 exact⟨c',oc,g1,h2 _ _ g2,g3⟩
structure Ext (K:W.Frag)(m:List Addr)(H:Hp)(m':List Addr)(H':Hp):Prop where
 pre:m <+: m'
 new:∀a∈m',a∈m∨H a=none
 fr:∀a o,a ∉ m→H a=some o→(∀ps,o≠.tbl ps)→H' a=some o
 tup:∀a ys,SqT K H a ys→SqT K H' a ys
 rdf:∀a ys,RdF K H a ys→RdF K H' a ys
 tbs:∀a ps,a ∉ m→H a=some (.tbl ps)→∃ps',H' a=some (.tbl ps')
 tb:TB K H→TB K H'
 frz:∀a o u,H a=some (.frz o u)→H' a=some (.frz o u)
theorem Ext.refl (K:W.Frag)(m:List Addr)(H:Hp):Ext K m H m H:=⟨GQ _,fun _ h=>.inl h,fun _ _ _ h _=>h,fun _ _ h=>h,fun _ _ h=>h,fun _ ps _ h=>⟨ps,h⟩,fun h=>h,fun _ _ _ h=>h⟩
theorem Ext.ne {K:W.Frag}{m m':List Addr}{H H':Hp}(x:Ext K m H m' H'){a:Addr}{o:HO}(hm:a ∉ m)(e:H a=some o):H' a≠none:=fun z=>by
 by_cases h:∃ps,o=.tbl ps
 ·obtain⟨ps,rfl⟩:=h
  obtain⟨q,e2⟩:=x.tbs a ps hm e
  rw[e2] at z;cases z
 ·rw[x.fr a o hm e fun ps q=>h ⟨ps,q⟩] at z;cases z
theorem Ext.trans {K:W.Frag}{m m1 m2:List Addr}{H H1 H2:Hp}(a:Ext K m H m1 H1)(b:Ext K m1 H1 m2 H2):Ext K m H m2 H2:=by
 have nin:∀c o,c ∉ m→H c=some o→c ∉ m1:=fun c o h e z=>by
  rcases a.new c z with q|q
  ·exact h q
  ·rw[e] at q;cases q
 refine⟨a.pre.trans b.pre,fun c hc=>?_,fun c o h e n=>b.fr c o (nin c o h e) (a.fr c o h e n) n,fun c ys h=>b.tup c ys (a.tup c ys h),fun c ys h=>b.rdf c ys (a.rdf c ys h),fun c ps h e=>let ⟨p1,e1⟩:=a.tbs c ps h e;b.tbs c p1 (nin c _ h e) e1,fun h=>b.tb (a.tb h),fun c o u h=>b.frz c o u (a.frz c o u h)⟩
 rcases b.new c hc with q|q
 ·exact a.new c q
 ·by_cases hm:c∈m
  ·exact .inl hm
  ·cases e:H c with
   | none=>exact .inr rfl
   | some o=>exact absurd q (a.ne hm e)
theorem eW {m m':List Addr}(h:m <+: m'){n:Nat}{a:Addr}(e:m[n]?=some a):m'[n]?=some a:=by
 obtain⟨t,rfl⟩:=h
 rw[EJ (D3.mp e).1]
 exact e
mutual
theorem R.mono {K:W.Frag}{m m':List Addr}{H H':Hp}(x:Ext K m H m' H'):∀ {p:PV}{v:V},R K m H p v→R K m' H' p v
 | .non,v,h=>by rw[R_non] at h ⊢;exact h
 | .bl b,v,h=>by rw[R_bl] at h ⊢;exact h
 | .int b,v,h=>by rw[R_int] at h ⊢;exact h
 | .str b,v,h=>by rw[R_str] at h ⊢;exact h
 | .ref n,v,h=>by rw[dM] at h ⊢;obtain⟨a,e,q⟩:=h;exact⟨a,eW x.pre e,q⟩
 | .tup xs,v,h=>by rw[R_tup] at h ⊢;obtain⟨a,ys,e,q,r⟩:=h;exact⟨a,ys,e,x.tup _ _ q,Rs.mono x r⟩
 | .rdl xs,v,h=>by rw[dz] at h ⊢;obtain⟨a,ys,e,q,r⟩:=h;exact⟨a,ys,e,x.rdf _ _ q,Rs.mono x r⟩
 | .fn b,v,h=>by rw[pN] at h ⊢;exact h
theorem Rs.mono {K:W.Frag}{m m':List Addr}{H H':Hp}(x:Ext K m H m' H'):∀ {ps:List PV}{vs:List V},Rs K m H ps vs→Rs K m' H' ps vs
 | [],vs,h=>by rw[Rs_nil] at h ⊢;exact h
 | p::ps,vs,h=>by
  rw[Rs_cons] at h ⊢
  obtain⟨y,r,e,h1,h2⟩:=h
  exact⟨y,r,e,R.mono x h1,Rs.mono x h2⟩
end
mutual
theorem R.cut {K:W.Frag}{m:List Addr}{H:Hp}{k:Nat}:∀ {p:PV}{v:V},R K m H p v→p.bec k=true→R K (m.take k) H p v
 | .non,v,h,_=>by rw[R_non] at h ⊢;exact h
 | .bl b,v,h,_=>by rw[R_bl] at h ⊢;exact h
 | .int b,v,h,_=>by rw[R_int] at h ⊢;exact h
 | .str b,v,h,_=>by rw[R_str] at h ⊢;exact h
 | .ref n,v,h,z=>by
  rw[dM] at h ⊢
  obtain⟨a,e,q⟩:=h
  rw[PV.bec] at z
  exact⟨a,by rw[GB (FP z)];exact e,q⟩
 | .tup xs,v,h,z=>by
  rw[R_tup] at h ⊢
  obtain⟨a,ys,e,q,r⟩:=h
  rw[PV.bec] at z
  exact⟨a,ys,e,q,Rs.cutm r z⟩
 | .rdl xs,v,h,z=>by
  rw[dz] at h ⊢
  obtain⟨a,ys,e,q,r⟩:=h
  rw[PV.bec] at z
  exact⟨a,ys,e,q,Rs.cutm r z⟩
 | .fn b,v,h,_=>by rw[pN] at h ⊢;exact h
theorem Rs.cutm {K:W.Frag}{m:List Addr}{H:Hp}{k:Nat}:∀ {ps:List PV}{vs:List V},Rs K m H ps vs→PV.becs k ps=true→Rs K (m.take k) H ps vs
 | [],vs,h,_=>by rw[Rs_nil] at h ⊢;exact h
 | p::ps,vs,h,z=>by
  rw[Rs_cons] at h ⊢
  obtain⟨y,r,e,h1,h2⟩:=h
  rw[PV.becs,D6] at z
  exact⟨y,r,e,R.cut h1 z.1,Rs.cutm h2 z.2⟩
end
mutual
theorem R.bel {K:W.Frag}{m:List Addr}{H:Hp}:∀ {p:PV}{v:V},R K m H p v→p.bec m.length=true
 | .non,v,h=>by rw[PV.bec]
 | .bl b,v,h=>by rw[PV.bec]
 | .int b,v,h=>by rw[PV.bec]
 | .str b,v,h=>by rw[PV.bec]
 | .ref n,v,h=>by
  rw[dM] at h
  obtain⟨a,e,q⟩:=h
  rw[PV.bec]
  exact FF (D3.mp e).1
 | .tup xs,v,h=>by
  rw[R_tup] at h
  obtain⟨a,ys,e,q,r⟩:=h
  rw[PV.bec]
  exact Rs.bel r
 | .rdl xs,v,h=>by
  rw[dz] at h
  obtain⟨a,ys,e,q,r⟩:=h
  rw[PV.bec]
  exact Rs.bel r
 | .fn b,v,h=>by rw[PV.bec]
theorem Rs.bel {K:W.Frag}{m:List Addr}{H:Hp}:∀ {ps:List PV}{vs:List V},Rs K m H ps vs→PV.becs m.length ps=true
 | [],vs,h=>by rw[PV.becs]
 | p::ps,vs,h=>by
  rw[Rs_cons] at h
  obtain⟨y,r,e,h1,h2⟩:=h
  rw[PV.becs,D6]
  exact⟨R.bel h1,Rs.bel h2⟩
end
noncomputable def CellR (K:W.Frag)(m:List Addr)(H:Hp):Cell→Addr→Prop
 | .lst xs,a=>∃ys,H a=some (.lst ys)∧Rs K m H xs ys
 | .dk kvs,a=>∃ys,H a=some (.dK ys)∧ys.map (·.1)=kvs.map (·.1)∧Rs K m H (kvs.map (·.2)) (ys.map (·.2))
 | .fz kvs,a=>∃o ys,H a=some (.frz o (.dK ys))∧ys.map (·.1)=kvs.map (·.1)∧Rs K m H (kvs.map (·.2)) (ys.map (·.2))
theorem CellR.mono {K:W.Frag}{m m':List Addr}{H H':Hp}(x:Ext K m H m' H'){c:Cell}{a:Addr}(h:CellR K m H c a)(e:H' a=H a):CellR K m' H' c a:=by
 cases c with
 | lst xs=>obtain⟨ys,h1,h2⟩:=h;exact⟨ys,e.trans h1,h2.mono x⟩
 | dk kvs=>obtain⟨ys,h1,h2,h3⟩:=h;exact⟨ys,e.trans h1,h2,h3.mono x⟩
 | fz kvs=>obtain⟨o,ys,h1,h2,h3⟩:=h;exact⟨o,ys,e.trans h1,h2,h3.mono x⟩
theorem CellR.ex {K:W.Frag}{m:List Addr}{H:Hp}{c:Cell}{a:Addr}(h:CellR K m H c a):∃o,H a=some o∧(∀ys,o≠.tup ys)∧∀u p,o=.frz u p→∃ys,p=.dK ys:=by
 cases c with
 | lst xs=>obtain⟨ys,h1,h2⟩:=h;exact⟨_,h1,⟨fun _ z=>(by cases z),fun _ _ z=>(by cases z)⟩⟩
 | dk kvs=>obtain⟨ys,h1,h2,h3⟩:=h;exact⟨_,h1,⟨fun _ z=>(by cases z),fun _ _ z=>(by cases z)⟩⟩
 | fz kvs=>obtain⟨o,ys,h1,h2,h3⟩:=h;exact⟨_,h1,⟨fun _ z=>(by cases z),fun _ _ z=>(by cases z;exact⟨ys,rfl⟩)⟩⟩
theorem CellR.cut {K:W.Frag}{m:List Addr}{H:Hp}{c:Cell}{a:Addr}{k:Nat}(h:CellR K m H c a)(z:c.bec k=true):CellR K (m.take k) H c a:=by
 cases c with
 | lst xs=>obtain⟨ys,h1,h2⟩:=h;exact⟨ys,h1,h2.cutm z⟩
 | dk kvs=>obtain⟨ys,h1,h2,h3⟩:=h;exact⟨ys,h1,h2,h3.cutm z⟩
 | fz kvs=>obtain⟨o,ys,h1,h2,h3⟩:=h;exact⟨o,ys,h1,h2,h3.cutm z⟩
theorem CellR.bel {K:W.Frag}{m:List Addr}{H:Hp}{c:Cell}{a:Addr}(h:CellR K m H c a):c.bec m.length=true:=by
 cases c with
 | lst xs=>obtain⟨ys,h1,h2⟩:=h;exact h2.bel
 | dk kvs=>obtain⟨ys,h1,h2,h3⟩:=h;exact h3.bel
 | fz kvs=>obtain⟨o,ys,h1,h2,h3⟩:=h;exact h3.bel
structure RH (K:W.Frag)(m:List Addr)(H:Hp)(st:AH):Prop where
 len:m.length=st.length
 nd:m.Nodup
 at_:∀(n:Nat) (c:Cell) (a:Addr),st[n]?=some c→m[n]?=some a→CellR K m H c a
 tb:TB K H
section
variable {K:W.Frag}{m m':List Addr}{H H':Hp}{st:AH}
theorem RH.get {n:Nat}{c:Cell}(h:RH K m H st)(e:st[n]?=some c):∃a,m[n]?=some a∧CellR K m H c a:=by
 have:n<m.length:=by rw[h.len];exact(D3.mp e).1
 exact⟨m[n],by simp[this],h.at_ n c _ e (by simp[this])⟩
theorem RH.mem {a:Addr}(h:RH K m H st)(e:a∈m):∃o,H a=some o∧(∀ys,o≠.tup ys)∧∀u p,o=.frz u p→∃ys,p=.dK ys:=by
 obtain⟨n,hn,rfl⟩:=List.mem_iff_getElem.mp e
 have:n<st.length:=by rw[←h.len];exact hn
 exact(h.at_ n st[n] _ (by simp[this]) (by simp[hn])).ex
theorem RH.mem_tbl {a:Addr}(h:RH K m H st)(e:a∈m){ps:Array Value}:H a≠some (.tbl ps):=fun z=>by
 obtain⟨n,hn,rfl⟩:=List.mem_iff_getElem.mp e
 have:n<st.length:=by rw[←h.len];exact hn
 have c:=h.at_ n st[n] m[n] (by simp[this]) (by simp[hn])
 cases q:st[n] with
 | lst xs=>rw[q] at c;obtain⟨ys,h1,_⟩:=c;rw[h1] at z;cases z
 | dk xs=>rw[q] at c;obtain⟨ys,h1,_⟩:=c;rw[h1] at z;cases z
 | fz xs=>rw[q] at c;obtain⟨o,ys,h1,_⟩:=c;rw[h1] at z;cases z
theorem RH.lst {n:Nat}{xs:List PV}{v:V}(h:RH K m H st)(e:st[n]?=some (.lst xs))(r:R K m H (.ref n) v):∃a ys,v=.ref a∧m[n]?=some a∧H a=some (.lst ys)∧Rs K m H xs ys:=by
 rw[dM] at r
 obtain⟨a,e1,rfl⟩:=r
 obtain⟨ys,h1,h2⟩:=h.at_ n _ a e e1
 exact⟨a,ys,rfl,e1,h1,h2⟩
theorem RH.fresh {p:Addr}(h:RH K m H st)(e:H p=none):p ∉ m:=fun z=>by
 obtain⟨o,q,_⟩:=h.mem z
 rw[e] at q;cases q
theorem Ext.newT {p:Addr}{o:HO}(h:RH K m H st)(e:H p=none):Ext K m H m (upd H p o):=by
 refine⟨GQ _,fun _ z=>.inl z,fun a u _ q _=>?_,fun a ys q=>?_,fun a ys q=>?_,fun a ps _ q=>⟨ps,by rw[ae (aj q e)];exact q⟩,fun t=>t.keep (fun a ps q=>by rw[ae (aj q e)];exact q) fun a o q=>by rw[ae (aj q e)];exact q,fun a o u q=>by rw[ae (aj q e)];exact q⟩
 ·rw[ae (aj q e)];exact q
 ·rcases q with (q|⟨u,q⟩)|q
  ·exact .inl (.inl (by rw[ae (aj q e)];exact q))
  ·exact .inl (.inr ⟨u,by rw[ae (aj q e)];exact q⟩)
  ·exact .inr q
 ·rcases q with⟨u,q⟩|q
  ·exact .inl ⟨u,by rw[ae (aj q e)];exact q⟩
  ·exact .inr q
theorem RH.keep (h:RH K m H st)(x:Ext K m H m H')(e:∀a∈m,H' a=H a):RH K m H' st :=
 ⟨h.len,h.nd,fun n c a h1 h2=>(h.at_ n c a h1 h2).mono x (e a (ER h2)),x.tb h.tb⟩
theorem RH.newT {p:Addr}{o:HO}(h:RH K m H st)(e:H p=none):RH K m (upd H p o) st :=
 h.keep (Ext.newT h e) fun a ha=>ae fun z=>h.fresh e (z ▸ ha)
theorem Ext.new1 {p:Addr}{o:HO}(h:RH K m H st)(e:H p=none):Ext K m H (m++[p]) (upd H p o):=by
 have q:=Ext.newT (o:=o) h e
 refine⟨GH _ _,fun a z=>?_,q.fr,q.tup,q.rdf,q.tbs,q.tb,q.frz⟩
 rcases FG.mp z with z|z
 ·exact .inl z
 ·rw[EW] at z
  subst z
  exact .inr e
theorem RH.new1 {p:Addr}{o:HO}{c:Cell}(h:RH K m H st)(e:H p=none)(hc:CellR K (m++[p]) (upd H p o) c p):RH K (m++[p]) (upd H p o) (st++[c]):=by
 have x:=Ext.new1 (o:=o) h e
 refine⟨by simp[h.len],HD.mpr ⟨h.nd,FZ.mpr ⟨by simp,GZ⟩,fun a ha b hb z=>?_⟩,fun n c' a h1 h2=>?_,x.tb h.tb⟩
 ·rw[EW] at hb
  subst hb
  exact h.fresh e (z ▸ ha)
 ·by_cases hn:n<st.length
  ·rw[EJ hn] at h1
   rw[EJ (by rw[h.len];exact hn)] at h2
   exact(h.at_ n c' a h1 h2).mono x (ae fun z=>h.fresh e (z ▸ ER h2))
  ·rw[EA (by omega)] at h1
   rw[EA (by rw[h.len];omega)] at h2
   have hl:=h.len
   by_cases hz:n-st.length=0
   ·rw[hz] at h1
    rw[show n-m.length=0 by omega] at h2
    simp at h1 h2
    subst h1 h2
    exact hc
   ·rw[FE (by simp;omega)] at h1
    cases h1
theorem RH.newL {p:Addr}{xs:List PV}{ys:List V}(h:RH K m H st)(e:H p=none)(r:Rs K m H xs ys):RH K (m++[p]) (upd H p (.lst ys)) (st++[.lst xs]) :=
 h.new1 e ⟨ys,av,r.mono (Ext.new1 h e)⟩
theorem R.last {p:Addr}{n:Nat}(h:m.length=n):R K (m++[p]) H (.ref n) (.ref p):=by
 rw[dM]
 exact⟨p,by rw[←h];simp,rfl⟩
theorem nfL {H:Hp}{a:Addr}{ys:List V}(g:H a=some (.lst ys)):∀w v,H a≠some (.frz w v):=fun _ _ z=>by rw[g] at z;cases z
theorem nfD {H:Hp}{a:Addr}{ys:List (Key × V)}(g:H a=some (.dK ys)):∀w v,H a≠some (.frz w v):=fun _ _ z=>by rw[g] at z;cases z
theorem Ext.set {n:Nat}{a:Addr}{ys:List V}{o:HO}(h:RH K m H st)(e:m[n]?=some a)(hz:∀w v,H a≠some (.frz w v)):Ext K m H m (upd H a o):=by
 have hm:=ER e
 obtain⟨u,hu,h1,h2⟩:=h.mem hm
 refine⟨GQ _,fun _ z=>.inl z,fun b w hb q _=>?_,fun b zs q=>?_,fun b zs q=>?_,fun b ps hb q=>⟨ps,by rw[ae (show b≠a from fun z=>hb (by rw[z];exact hm))];exact q⟩,fun t=>t.keep (fun b ps q=>by rw[ae (fun z=>by subst z;exact h.mem_tbl hm q)];exact q) fun b w q=>by rw[ae (fun z=>by subst z;exact hz _ _ q)];exact q,fun b w v q=>by rw[ae (fun z=>by subst z;exact hz _ _ q)];exact q⟩
 ·have hne:b≠a:=fun z=>hb (by rw[z];exact hm)
  rw[ae hne];exact q
 ·rcases q with (q|⟨w,q⟩)|q
  ·exact .inl (.inl (by rw[ae (fun z=>by subst z;rw[hu] at q;cases q;exact h1 _ rfl)];exact q))
  ·exact .inl (.inr ⟨w,by rw[ae (fun z=>by subst z;exact hz _ _ q)];exact q⟩)
  ·exact .inr q
 ·rcases q with⟨w,q⟩|q
  ·exact .inl ⟨w,by rw[ae (fun z=>by subst z;exact hz _ _ q)];exact q⟩
  ·exact .inr q
theorem hU {m:List Addr}(h:m.Nodup){i j:Nat}{a:Addr}(e:m[i]?=some a)(e':m[j]?=some a):i=j:=by
 obtain⟨h1,h2⟩:=D3.mp e
 obtain⟨h3,h4⟩:=D3.mp e'
 exact(List.getElem_inj h).mp (h2.trans h4.symm)
theorem RH.setL {n:Nat}{a:Addr}{xs:List PV}{ys:List V}(h:RH K m H st)(e:m[n]?=some a)(hz:∀w v,H a≠some (.frz w v))(r:Rs K m H xs ys):RH K m (upd H a (.lst ys)) (st.set n (.lst xs)):=by
 have x:Ext K m H m (upd H a (.lst ys)):=Ext.set (ys:=ys) h e hz
 refine⟨by simp[h.len],h.nd,fun k c b h1 h2=>?_,x.tb h.tb⟩
 by_cases hk:k=n
 ·subst hk
  rw[e] at h2
  cases h2
  have hl:k<st.length:=by rw[←h.len];exact(D3.mp e).1
  rw[EV hl] at h1
  cases h1
  exact⟨ys,av,r.mono x⟩
 ·rw[EQ (fun z=>hk z.symm)] at h1
  exact(h.at_ k c b h1 h2).mono x (ae fun z=>hk (hU h.nd h2 (z ▸ e)))
end
structure RF (K:W.Frag)(m:List Addr)(H:Hp)(ρ:Fr)(σ:L2.St):Prop where
 len:ρ.length=σ.length
 at_:∀(i:Nat) v,ρ[i]?=some (some v)→∃x,σ[i]?=some (some x)∧R K m H v x
theorem RF.mono {K:W.Frag}{m m':List Addr}{H H':Hp}{ρ:Fr}{σ:L2.St}(h:RF K m H ρ σ)(x:Ext K m H m' H'):RF K m' H' ρ σ :=
 ⟨h.len,fun i v e=>let ⟨y,e1,r⟩:=h.at_ i v e;⟨y,e1,r.mono x⟩⟩
theorem RF.set {K:W.Frag}{m:List Addr}{H:Hp}{ρ:Fr}{σ:L2.St}(h:RF K m H ρ σ)(i:Nat){v:PV}{x:V}(r:R K m H v x):RF K m H (ρ.set i (some v)) (σ.set i (some x)):=by
 refine⟨by simp[h.len],fun j w e=>?_⟩
 by_cases hj:i=j
 ·subst hj
  have hl:i<ρ.length:=by have:=(D3.mp e).1;simpa using this
  rw[EV hl] at e
  cases e
  exact⟨x,by rw[EV (h.len ▸ hl)],r⟩
 ·rw[EQ hj] at e
  rw[EQ hj]
  exact h.at_ j w e
noncomputable def post (K:W.Frag)(m:List Addr)(H:Hp)(Q:VK):EK:=fun v st'=>∀m' H' x,Ext K m H m' H'→RH K m' H' st'→R K m' H' v x→Q x H'
noncomputable def postB (K:W.Frag)(m:List Addr)(H:Hp)(Q:Bool→Hp→Prop):BK:=fun v st'=>∀m' H',Ext K m H m' H'→RH K m' H' st'→Q v H'
noncomputable def wl (K:W.Frag)(m:List Addr)(H:Hp)(Q:List V→Hp→Prop):LK:=fun vs st'=>∀m' H' xs,Ext K m H m' H'→RH K m' H' st'→Rs K m' H' vs xs→Q xs H'
noncomputable def TEx (K:W.Frag)(w:Fr→AH→EK→Prop):TE:=fun σ H Q=>∃m ρ st,RF K m H ρ σ∧RH K m H st∧w ρ st (post K m H Q)
noncomputable def TTx (K:W.Frag)(w:Fr→AH→BK→Prop):TT:=fun σ H Q=>∃m ρ st,RF K m H ρ σ∧RH K m H st∧w ρ st (postB K m H Q)
noncomputable def TAx (K:W.Frag)(w:Fr→AH→LK→Prop):TA:=fun σ H Q=>∃m ρ st,RF K m H ρ σ∧RH K m H st∧w ρ st (wl K m H Q)
theorem post.ext {K:W.Frag}{m m1:List Addr}{H H1:Hp}{Q:VK}(x:Ext K m H m1 H1){v:PV}{st:AH}(q:post K m H Q v st):post K m1 H1 Q v st:=fun m' H' y e r s=>q m' H' y (x.trans e) r s
theorem postB.ext {K:W.Frag}{m m1:List Addr}{H H1:Hp}{Q:Bool→Hp→Prop}(x:Ext K m H m1 H1){v:Bool}{st:AH}(q:postB K m H Q v st):postB K m1 H1 Q v st:=fun m' H' e r=>q m' H' (x.trans e) r
noncomputable def rN (K:W.Frag)(w:PV→PV→AH→EK→Prop):R2:=fun x' y' H Q=>∃m st x y,RH K m H st∧R K m H x x'∧R K m H y y'∧w x y st (post K m H Q)
noncomputable def AA (K:W.Frag)(w:List PV→AH→EK→Prop):List V→Hp→VK→Prop:=fun xs' H Q=>∃m st xs,RH K m H st∧Rs K m H xs xs'∧w xs st (post K m H Q)
end FW
namespace FW
open L2 HX
theorem db {n:Nat}(h:n≤100000):n≤sizeLine:=by rw[sizeLine_eq];omega
theorem eX {n:Nat}(h:n<100000):n<sizeLine:=by rw[sizeLine_eq];omega
section
variable {X:Cx}
theorem post.here {K:W.Frag}{m:List Addr}{H:Hp}{Q:VK}{v:PV}{st:AH}{x:V}(q:post K m H Q v st)(h:RH K m H st)(r:R K m H v x):Q x H:=q m H x (Ext.refl _ _ _) h r
theorem post.newT {K:W.Frag}{m:List Addr}{H:Hp}{Q:VK}{xs:List PV}{ys:List V}{st:AH}{p:Addr}(q:post K m H Q (.tup xs) st)(h:RH K m H st)(r:Rs K m H xs ys)(e:H p=none):Q (.ref p) (upd H p (.tup ys)) :=
 q m _ _ (Ext.newT h e) (h.newT e) (R_tup.mpr ⟨p,ys,rfl,SqT.of av,r.mono (Ext.newT h e)⟩)
theorem post.newL {K:W.Frag}{m:List Addr}{H:Hp}{Q:VK}{xs:List PV}{ys:List V}{st:AH}{p:Addr}(q:post K m H Q (.ref st.length) (st++[.lst xs]))(h:RH K m H st)(r:Rs K m H xs ys)(e:H p=none):Q (.ref p) (upd H p (.lst ys)) :=
 q _ _ _ (Ext.new1 h e) (h.newL e r) (R.last h.len)
theorem post.setL {K:W.Frag}{m:List Addr}{H:Hp}{Q:VK}{v:PV}{y:V}{xs:List PV}{ys:List V}{st:AH}{n:Nat}{a:Addr}(q:post K m H Q v (st.set n (.lst xs)))(h:RH K m H st)(e:m[n]?=some a)(hz:∀w v,H a≠some (.frz w v))(r:Rs K m H xs ys)(rv:R K m H v y) :
  Q y (upd H a (.lst ys)):=q _ _ _ (Ext.set (ys:=ys) h e hz) (h.setL e hz r) (rv.mono (Ext.set (ys:=ys) h e hz))
theorem bv {K:W.Frag}{m:List Addr}{H:Hp}{st:AH}{v:PV}{x:V}{xs:List PV}(h:RH K m H st)(r:R K m H v x)(e:aU st v=some xs):∃a ys,x=.ref a∧SqL K H a ys∧Rs K m H xs ys:=by
 cases v with
 | rdl zs =>
  cases e
  rw[dz] at r
  obtain⟨a,ys,rfl,h1,h2⟩:=r
  exact⟨a,ys,rfl,h1.sq,h2⟩
 | ref n =>
  unfold aU at e
  simp only at e
  split at e
  ·cases e
   rename_i q
   obtain⟨a,ys,rfl,_,h1,h2⟩:=h.lst q r
   exact⟨a,ys,rfl,SqL.of h1,h2⟩
  ·cases e
 | _=>cases e
theorem gL {K:W.Frag}{m:List Addr}{H:Hp}{st:AH}{v:PV}{x:V}{xs:List PV}(h:RH K m H st)(r:R K m H v x)(e:bt st v=some xs):∃a ys,x=.ref a∧(SqL K H a ys∨SqT K H a ys)∧Rs K m H xs ys:=by
 cases v with
 | tup zs =>
  cases e
  rw[R_tup] at r
  obtain⟨a,ys,rfl,h1,h2⟩:=r
  exact⟨a,ys,rfl,.inr h1,h2⟩
 | rdl zs =>
  obtain⟨a,ys,h1,h2,h3⟩:=bv h r e
  exact⟨a,ys,h1,.inl h2,h3⟩
 | ref n =>
  obtain⟨a,ys,h1,h2,h3⟩:=bv h r e
  exact⟨a,ys,h1,.inl h2,h3⟩
 | _=>cases e
theorem Dc {P:Program}{w:World}{A:Around}{E:Value→Shared→Prop}{s:Shared}{t b:Addr}{ws:List Value}{Q:Value→Shared→Prop}(ht:IsTup s.heap t ([]:List Value).toArray)(hb:IsTup s.heap b ws.toArray)(h:Q (.ref b) s) :
  wpAny (model P w) A (binaryOp .Add (.ref t) (.ref b)) Q E s:=by
 obtain⟨⟨cls,dd,data,sl⟩,ho,hc,n,hd⟩:=id ht
 obtain⟨⟨cls2,dd2,data2,sl2⟩,ho2,hc2,n2,hd2⟩:=id hb
 simp only at hc hd hc2 hd2
 subst hc hd hc2 hd2
 exact concat_meets ⟨_,ho,rfl⟩ ⟨_,ho2,rfl⟩ noFill_tuple_add seq_tuple_add GM GI (GC _ _)
  (tuple_addW0 t b ([]:List Value).toArray ws.toArray n n2 dd dd2 sl sl2 rfl) ⟨ho,ho2,h⟩
theorem lx {z:Str}{n:Nat}:(nB z n).length=z.length*n:=by
 have:∀(n:Nat) (a:Array Nat),((List.replicate n z.cps).foldl (·++ ·) a).size=a.size+z.cps.size*n:=by
  intro n
  induction n with
  | zero=>intro a;simp
  | succ n ih=>intro a;rw[FD,GE,ih,Array.size_append,Nat.mul_succ];omega
 have:=this n #[]
 simpa[nB,Str.length] using this
theorem uf:OpR X (binaryOp .Mult) (fun x y H Q=>∃z k,x=.str z∧y=.int k∧2≤k∧k<2 ^ 30∧0<z.length∧z.length*k.toNat≤100000∧Q (.str (nB z k.toNat)) H):=by
 intro pins s σ H x y v u Q I rx ry h
 obtain⟨z,k,rfl,rfl,h1,h2,h3,h4,q⟩:=h
 obtain⟨t,rfl⟩:=rx
 obtain⟨t',rfl⟩:=ry
 have hz:(z.length:Int)≤100000:=by
  have:1≤k.toNat:=by omega
  have:=Nat.le_mul_of_pos_right z.length this
  omega
 have e1:(k == 1 || z.length == 0)=false:=by
  rw[Bool.or_eq_false_iff,beq_eq_false_iff_ne,beq_eq_false_iff_ne]
  omega
 refine PySem.P.mul_str (by rw[Bool.or_eq_false_iff,decide_eq_false_iff_not,decide_eq_false_iff_not];omega) (fun _ _=>?_) (fun _ _=>?_) ?_
 ·have:=Int.le_ediv_of_mul_le (a:=100000) (b:=2 ^ 63-1) (c:=k) (by omega) (by omega)
  omega
 ·unfold Builtin.Str.tooLong
  exact E2 (by rw[sizeLine_eq];omega)
 ·rw[D_ (by omega),D_ (by rw[e1];exact D1)]
  exact⟨by rw[show Str.length ⟨_⟩=(nB z k.toNat).length from rfl,lx,sizeLine_eq];omega,.str _,H,I.tok _,⟨_,rfl⟩,q⟩
theorem yu (op:Operator):OpR X (binaryOp op) (rN X.K (fA op)):=by
 intro pins s σ H x' y' v u Q I rx ry h
 obtain⟨m,st,x,y,rh,hx,hy,w⟩:=h
 cases op with
 | Add =>
  cases x with
  | int i =>
   cases y with
   | int j =>
    have w:post X.K m H Q (.int (i+j)) st:=w
    rw[R_int] at hx hy;subst hx hy
    exact yG pins s σ H _ _ v u Q I rx ry ⟨_,_,rfl,rfl,w.here rh (R_int.mpr rfl)⟩
   | _=>exact False.elim w
  | ref n =>
   cases y with
   | ref k =>
    obtain⟨xs,ys,h1,h2,h3,w⟩:=w
    obtain⟨a,xs',rfl,e1,g1,r1⟩:=rh.lst h1 hx
    obtain⟨b,ys',rfl,e2,g2,r2⟩:=rh.lst h2 hy
    exact wW pins s σ H _ _ v u Q I rx ry ⟨a,b,xs',ys',rfl,rfl,g1,g2,by rw[←r1.len,←r2.len];exact db h3,fun p hp=>w.newL rh (r1.app r2) hp⟩
   | _=>exact False.elim w
  | tup xs =>
   cases y with
   | tup ys =>
    obtain⟨h2,w⟩:=w
    rw[R_tup] at hx hy
    obtain⟨a,xs',rfl,g1,r1⟩:=hx
    obtain⟨b,ys',rfl,g2,r2⟩:=hy
    by_cases h1:xs'=[]
    ·subst h1
     cases rx
     cases ry
     obtain⟨its1,rv1,p1,_⟩:=I.tuple g1
     obtain⟨its2,rv2,p2,_⟩:=I.tuple g2
     cases rv1
     have e:=r1.len
     rw[List.length_eq_zero_iff.mp e,List.nil_append] at w
     exact Dc p1 p2 ⟨.ref b,H,I,rfl,w.here rh (R_tup.mpr ⟨b,ys',rfl,g2,r2⟩)⟩
    refine uG pins s σ H _ _ v u Q I rx ry ⟨a,b,xs',ys',rfl,rfl,g1,g2,fun z=>?_,by rw[←r1.len,←r2.len];exact db h2,fun z=>?_,fun z p hp=>w.newT rh (r1.app r2) hp⟩
    ·exact h1 z
    ·subst z
     have e:=r2.len
     rw[List.length_eq_zero_iff.mp e,F4] at w
     exact w.here rh (R_tup.mpr ⟨a,xs',rfl,g1,r1⟩)
   | _=>exact False.elim w
  | str a =>
   cases y with
   | str b =>
    obtain⟨h2,w⟩:=w
    rw[R_str] at hx hy;subst hx hy
    exact oP pins s σ H _ _ v u Q I rx ry ⟨_,_,rfl,rfl,db h2,w.here rh (R_str.mpr rfl)⟩
   | _=>exact False.elim w
  | _=>exact False.elim w
 | Mult =>
  cases x with
  | int i =>
   cases y with
   | int j =>
    have w:CMB i j∧post X.K m H Q (.int (i*j)) st:=w
    rw[R_int] at hx hy;subst hx hy
    exact uJ pins s σ H _ _ v u Q I rx ry ⟨_,_,rfl,rfl,w.1,w.2.here rh (R_int.mpr rfl)⟩
   | _=>exact False.elim w
  | ref n =>
   cases y with
   | int k =>
    obtain⟨xs,h1,h2,h3,h4,w⟩:=w
    rw[R_int] at hy;subst hy
    obtain⟨a,xs',rfl,e1,g1,r1⟩:=rh.lst h1 hx
    exact wP pins s σ H _ _ v u Q I rx ry ⟨a,_,xs',rfl,rfl,g1,h2,h3,by rw[←r1.len];exact db h4,fun p hp=>w.newL rh (r1.rep _) hp⟩
   | _=>exact False.elim w
  | str z =>
   cases y with
   | int k =>
    obtain⟨h1,h2,h3,h4,w⟩:=w
    rw[R_int] at hy;subst hy
    rw[R_str] at hx;subst hx
    exact uf pins s σ H _ _ v u Q I rx ry ⟨_,_,rfl,rfl,h1,h2,h3,h4,w.here rh (R_str.mpr rfl)⟩
   | _=>exact False.elim w
  | _=>exact False.elim w
 | Sub =>
  obtain⟨i,j,rfl,rfl,w⟩:=bi w
  rw[R_int] at hx hy;subst hx hy
  exact ye pins s σ H _ _ v u Q I rx ry ⟨_,_,rfl,rfl,w.here rh (R_int.mpr rfl)⟩
 | FloorDiv =>
  obtain⟨i,j,rfl,rfl,w⟩:=bi w
  rw[R_int] at hx hy;subst hx hy
  exact sy pins s σ H _ _ v u Q I rx ry ⟨_,_,rfl,rfl,w.1,w.2.here rh (R_int.mpr rfl)⟩
 | Mod =>
  obtain⟨i,j,rfl,rfl,w⟩:=bi w
  rw[R_int] at hx hy;subst hx hy
  exact zm pins s σ H _ _ v u Q I rx ry ⟨_,_,rfl,rfl,w.1,w.2.here rh (R_int.mpr rfl)⟩
 | Pow =>
  obtain⟨i,j,rfl,rfl,w⟩:=bi w
  rw[R_int] at hx hy;subst hx hy
  exact x9 pins s σ H _ _ v u Q I rx ry ⟨_,_,rfl,rfl,w.1,w.2.here rh (R_int.mpr rfl)⟩
 | _=>exact False.elim w
mutual
theorem R.den {K:W.Frag}{m:List Addr}{H:Hp}:∀ {p:PV}{v:V}{d:PyData},R K m H p v→p.toD=some d→(∃xs,d=.list xs)∨Den K H d v
 | .non,v,d,h,e=>by rw[PV.toD] at e;cases e;rw[R_non] at h;exact .inr (den_non.mpr h)
 | .bl b,v,d,h,e=>by rw[PV.toD] at e;cases e;rw[R_bl] at h;exact .inr (den_bl.mpr h)
 | .int b,v,d,h,e=>by rw[PV.toD] at e;cases e;rw[R_int] at h;exact .inr (den_int.mpr h)
 | .str b,v,d,h,e=>by rw[PV.toD] at e;cases e;rw[R_str] at h;exact .inr (den_str.mpr h)
 | .ref n,v,d,h,e=>by rw[PV.toD] at e;cases e
 | .fn n,v,d,h,e=>by rw[PV.toD] at e;cases e
 | .tup xs,v,d,h,e=>by
  rw[PV.toD] at e
  cases q:PV.toDs xs with
  | none=>rw[q] at e;cases e
  | some ds =>
   rw[q] at e
   cases e
   rw[R_tup] at h
   obtain⟨a,ys,rfl,h1,h2⟩:=h
   exact .inr (den_tup.mpr ⟨a,ys,rfl,h1,Rs.den h2 q⟩)
 | .rdl xs,v,d,h,e=>by
  rw[PV.toD] at e
  cases q:PV.toDs xs with
  | none=>rw[q] at e;cases e
  | some ds=>rw[q] at e;cases e;exact .inl ⟨_,rfl⟩
theorem Rs.den {K:W.Frag}{m:List Addr}{H:Hp}:∀ {ps:List PV}{vs:List V}{ds:List PyData},Rs K m H ps vs→PV.toDs ps=some ds→Dens K H ds vs
 | [],vs,ds,h,e=>by rw[PV.toDs] at e;cases e;rw[Rs_nil] at h;exact dens_nil.mpr h
 | p::ps,vs,ds,h,e=>by
  rw[Rs_cons] at h
  obtain⟨y,r,rfl,h1,h2⟩:=h
  rw[PV.toDs] at e
  cases q:p.toD with
  | none=>rw[q] at e;cases e
  | some d =>
   cases q2:PV.toDs ps with
   | none=>rw[q,q2] at e;cases e
   | some ds' =>
    rw[q,q2] at e
    cases e
    refine dens_cons'.mpr ⟨?_,Rs.den h2 q2⟩
    cases p with
    | rdl xs =>
     rw[PV.toD] at q
     cases q3:PV.toDs xs with
     | none=>rw[q3] at q;cases q
     | some es =>
      rw[q3] at q
      cases q
      rw[dz] at h1
      obtain⟨a,ys,rfl,g1,g2⟩:=h1
      exact den_lst.mpr ⟨a,ys,rfl,g1.sq,Rs.den g2 q3⟩
    | _ =>
     rcases R.den h1 q with⟨xs,rfl⟩|z
     ·first
       | (rw[PV.toD] at q;cases q;done)
       | (rw[PV.toD] at q;simp only[Option.map_eq_some_iff,reduceCtorEq,and_false,exists_false] at q)
     ·exact z
end
theorem cF {K:W.Frag}{m:List Addr}{H:Hp}{st:AH}{p:PV}{v:V}{d:PyData}(rh:RH K m H st)(h:R K m H p v)(e:lr st p=some d):Den K H d v:=by
 cases p with
 | ref n =>
  unfold lr at e
  simp only at e
  split at e
  ·rename_i xs q
   cases q2:PV.toDs xs with
   | none=>rw[q2] at e;cases e
   | some ds =>
    rw[q2] at e
    cases e
    obtain⟨a,ys,rfl,_,h1,h2⟩:=rh.lst q h
    exact den_lst.mpr ⟨a,ys,rfl,SqL.of h1,h2.den q2⟩
  ·cases e
 | rdl xs =>
  have e':(PV.rdl xs).toD=some d:=e
  rw[PV.toD] at e'
  cases q2:PV.toDs xs with
  | none=>rw[q2] at e';cases e'
  | some ds =>
   rw[q2] at e'
   cases e'
   rw[dz] at h
   obtain⟨a,ys,rfl,g1,g2⟩:=h
   exact den_lst.mpr ⟨a,ys,rfl,g1.sq,g2.den q2⟩
 | tup xs =>
  have e':(PV.tup xs).toD=some d:=e
  rcases R.den h e' with⟨zs,rfl⟩|z
  ·rw[PV.toD] at e'
   simp at e'
  ·exact z
 | fn b=>have e':(PV.fn b).toD=some d:=e;rw[PV.toD] at e';cases e'
 | non=>have e':(PV.non).toD=some d:=e;rw[PV.toD] at e';cases e';exact den_non.mpr (R_non.mp h)
 | bl b=>have e':(PV.bl b).toD=some d:=e;rw[PV.toD] at e';cases e';exact den_bl.mpr (R_bl.mp h)
 | int b=>have e':(PV.int b).toD=some d:=e;rw[PV.toD] at e';cases e';exact den_int.mpr (R_int.mp h)
 | str b=>have e':(PV.str b).toD=some d:=e;rw[PV.toD] at e';cases e';exact den_str.mpr (R_str.mp h)
theorem R.nonB {K:W.Frag}{m:List Addr}{H:Hp}{p:PV}{v:V}(h:R K m H p v):decide (v=.non)=bj p:=by
 cases p with
 | non=>rw[R_non] at h;subst h;rfl
 | bl b=>rw[R_bl] at h;subst h;rfl
 | int b=>rw[R_int] at h;subst h;rfl
 | str b=>rw[R_str] at h;subst h;rfl
 | ref n=>rw[dM] at h;obtain⟨a,_,rfl⟩:=h;rfl
 | tup n=>rw[R_tup] at h;obtain⟨a,_,rfl,_⟩:=h;rfl
 | rdl n=>rw[dz] at h;obtain⟨a,_,rfl,_⟩:=h;rfl
 | fn n=>rw[pN] at h;subst h;rfl
theorem R.blB {K:W.Frag}{m:List Addr}{H:Hp}{p:PV}{v:V}{k:Bool}(h:R K m H p v):decide (v=.bl k)=fT k p:=by
 cases p with
 | non=>rw[R_non] at h;subst h;rfl
 | bl b=>rw[R_bl] at h;subst h;cases b <;> cases k <;> rfl
 | int b=>rw[R_int] at h;subst h;rfl
 | str b=>rw[R_str] at h;subst h;rfl
 | ref n=>rw[dM] at h;obtain⟨a,_,rfl⟩:=h;rfl
 | tup n=>rw[R_tup] at h;obtain⟨a,_,rfl,_⟩:=h;rfl
 | rdl n=>rw[dz] at h;obtain⟨a,_,rfl,_⟩:=h;rfl
 | fn n=>rw[pN] at h;subst h;rfl
theorem AI {i j:Int}:decide (V.int i=V.int j)=decide (i=j):=by simp
theorem Cd {i j:Bool}:decide (V.bl i=V.bl j)=decide (i=j):=by simp
theorem zV {i j:Str}:decide (V.str i=V.str j)=decide (i=j):=by simp
theorem lR {K:W.Frag}{m:List Addr}{H:Hp}:∀ {ns:List Int}{ys:List V},Rs K m H (ns.map PV.int) ys→ys=ns.map V.int
 | [],ys,h=>by rw[E5,Rs_nil] at h;exact h
 | n::ns,ys,h=>by
  cases ys with
  | nil=>have:=h.len;simp at this
  | cons y ys =>
   rw[EE,Rs_cons',R_int] at h
   rw[h.1,lR h.2]
   rfl
theorem gT:∀ {ns:List Int},(ns.map V.int).all eG=true
 | []=>rfl
 | n::ns=>by rw[EE,FM,gT];rfl
theorem lQ {i:Int}:∀ {ns:List Int},inV (.int i) (ns.map V.int)=ns.any fun j=>j == i
 | []=>rfl
 | n::ns=>by
  have:=lQ (i:=i) (ns:=ns)
  unfold inV at this ⊢
  rw[EE,EY,EY,this]
  rfl
theorem fq {K:W.Frag}{m:List Addr}{H:Hp}:∀ {ns:List Str}{ys:List V},Rs K m H (ns.map PV.str) ys→ys=ns.map V.str
 | [],ys,h=>by rw[E5,Rs_nil] at h;exact h
 | n::ns,ys,h=>by
  cases ys with
  | nil=>have:=h.len;simp at this
  | cons y ys =>
   rw[EE,Rs_cons',R_str] at h
   rw[h.1,fq h.2]
   rfl
theorem dA:∀ {ns:List Str},(ns.map V.str).all eG=true
 | []=>rfl
 | n::ns=>by rw[EE,FM,dA];rfl
theorem mV {K:W.Frag}{m:List Addr}{H:Hp}:∀ {xs:List PV}{ys:List V},Rs K m H xs ys→xs.all rc=true→ys.all eG=true∧inV .non ys=xs.any bj
 | [],ys,r,_=>by rw[Rs_nil] at r;subst r;exact⟨rfl,rfl⟩
 | x::xs,ys,r,h=>by
  obtain⟨y,ys,rfl,r1,r2⟩:=r
  rw[FM,D6] at h
  obtain⟨a,b⟩:=mV r2 h.2
  unfold inV at b ⊢
  cases x with
  | non=>rw[R_non] at r1;subst r1;exact⟨by rw[FM,a];rfl,by rw[EY,EY,b];rfl⟩
  | int i=>rw[R_int] at r1;subst r1;exact⟨by rw[FM,a];rfl,by rw[EY,EY,b];rfl⟩
  | _=>exact absurd h.1 D1
theorem gB {i:Str}:∀ {ns:List Str},inV (.str i) (ns.map V.str)=ns.any fun j=>j == i
 | []=>rfl
 | n::ns=>by
  have:=gB (i:=i) (ns:=ns)
  unfold inV at this ⊢
  rw[EE,EY,EY,this]
  rfl
section
variable {K:W.Frag}{m:List Addr}{H:Hp}
theorem eD {k:Key}:∀ {kvs:List (Key × PV)}{ys:List (Key × V)},ys.map (·.1)=kvs.map (·.1)→Rs K m H (kvs.map (·.2)) (ys.map (·.2)) →
  (∀v,c9 kvs k=some v→∃v',eB ys k=some v'∧R K m H v v')∧(c9 kvs k=none→eB ys k=none)
 | [],ys,e,_=>by
  cases ys with
  | nil=>exact⟨fun v z=>(by cases z),fun _=>rfl⟩
  | cons y ys=>cases e
 | p::kvs,ys,e,r=>by
  cases ys with
  | nil=>cases e
  | cons y ys =>
   rw[EE,EE,HN] at e
   rw[EE,EE,Rs_cons'] at r
   obtain⟨a1,a2⟩:=eD (k:=k) e.2 r.2
   by_cases q:p.1=k
   ·have e1:c9 (p::kvs) k=some p.2:=by simp[c9,List.find?_cons,q]
    have e2:eB (y::ys) k=some y.2:=gO (by rw[e.1];exact q)
    rw[e1,e2]
    exact⟨fun v z=>⟨_,rfl,by cases z;exact r.1⟩,fun z=>by cases z⟩
   ·have e1:c9 (p::kvs) k=c9 kvs k:=by simp[c9,List.find?_cons,q]
    have e2:eB (y::ys) k=eB ys k:=gz (by rw[e.1];exact q)
    rw[e1,e2]
    exact⟨a1,a2⟩
theorem o5 {k:Key}{kvs:List (Key × PV)}{ys:List (Key × V)}(e:ys.map (·.1)=kvs.map (·.1))(r:Rs K m H (kvs.map (·.2)) (ys.map (·.2))):(eB ys k).isSome=(c9 kvs k).isSome:=by
 obtain⟨a1,a2⟩:=eD (k:=k) e r
 cases q:c9 kvs k with
 | none=>rw[a2 q];rfl
 | some v=>obtain⟨v',e',_⟩:=a1 v q;rw[e'];rfl
theorem sX {k:Key}:∀ {kvs:List (Key × PV)}{ys:List (Key × V)},ys.map (·.1)=kvs.map (·.1)→(kvs.any fun kv=>decide (kv.1=k))=ys.any fun kv=>decide (kv.1=k)
 | [],ys,e=>by cases ys with|nil=>rfl|cons y ys=>cases e
 | p::kvs,ys,e=>by
  cases ys with
  | nil=>cases e
  | cons y ys =>
   rw[EE,EE,HN] at e
   rw[EY,EY,sX e.2,e.1]
theorem rJ {k:Key}{v:PV}{v':V}(rv:R K m H v v'):∀ {kvs:List (Key × PV)}{ys:List (Key × V)},ys.map (·.1)=kvs.map (·.1)→Rs K m H (kvs.map (·.2)) (ys.map (·.2)) →
  (ys.map fun kv=>if kv.1=k then (kv.1,v') else kv).map (·.1)=(kvs.map fun kv=>if kv.1=k then (kv.1,v) else kv).map (·.1)∧Rs K m H ((kvs.map fun kv=>if kv.1=k then (kv.1,v) else kv).map (·.2)) ((ys.map fun kv=>if kv.1=k then (kv.1,v') else kv).map (·.2))
 | [],ys,e,_=>by cases ys with|nil=>exact⟨rfl,by rw[E5,E5,E5,E5,Rs_nil]⟩|cons y ys=>cases e
 | p::kvs,ys,e,r=>by
  cases ys with
  | nil=>cases e
  | cons y ys =>
   rw[EE,EE,HN] at e
   rw[EE,EE,Rs_cons'] at r
   obtain⟨a1,a2⟩:=rJ (k:=k) rv e.2 r.2
   simp only[List.map_cons]
   rw[Rs_cons',a1]
   by_cases q:p.1=k
   ·rw[D9 q,D9 (by rw[e.1];exact q)]
    exact⟨by rw[e.1],rv,a2⟩
   ·rw[D_ q,D_ (by rw[e.1];exact q)]
    exact⟨by rw[e.1],r.1,a2⟩
theorem wE {k:Key}{v:PV}{v':V}(rv:R K m H v v'){kvs:List (Key × PV)}{ys:List (Key × V)}(e:ys.map (·.1)=kvs.map (·.1))(r:Rs K m H (kvs.map (·.2)) (ys.map (·.2))) :
  (gk ys k v').map (·.1)=(qV kvs k v).map (·.1)∧Rs K m H ((qV kvs k v).map (·.2)) ((gk ys k v').map (·.2)):=by
 unfold gk qV
 rw[←sX (k:=k) e]
 by_cases q:(kvs.any fun kv=>decide (kv.1=k))=true
 ·rw[D9 q,D9 q]
  exact rJ rv e r
 ·rw[D_ q,D_ q]
  simp only[List.map_append,List.map_cons,List.map_nil]
  exact⟨by rw[e],r.app (.one rv)⟩
end
theorem RH.dkat {K:W.Frag}{m:List Addr}{H:Hp}{st:AH}{n:Nat}{kvs:List (Key × PV)}{v:V}(h:RH K m H st)(e:st[n]?=some (.dk kvs))(r:R K m H (.ref n) v):∃a ys,v=.ref a∧m[n]?=some a∧H a=some (.dK ys)∧ys.map (·.1)=kvs.map (·.1)∧Rs K m H (kvs.map (·.2)) (ys.map (·.2)):=by
 rw[dM] at r
 obtain⟨a,e1,rfl⟩:=r
 obtain⟨ys,h1,h2⟩:=h.at_ n _ a e e1
 exact⟨a,ys,rfl,e1,h1,h2⟩
theorem RH.setD {K:W.Frag}{m:List Addr}{H:Hp}{st:AH}{n:Nat}{a:Addr}{kvs:List (Key × PV)}{ys:List (Key × V)}(h:RH K m H st)(e:m[n]?=some a)(hz:∀w v,H a≠some (.frz w v))(r1:ys.map (·.1)=kvs.map (·.1))(r2:Rs K m H (kvs.map (·.2)) (ys.map (·.2))):RH K m (upd H a (.dK ys)) (st.set n (.dk kvs)):=by
 have x:Ext K m H m (upd H a (.dK ys)):=Ext.set (ys:=[]) h e hz
 refine⟨by simp[h.len],h.nd,fun k c b h1 h2=>?_,x.tb h.tb⟩
 by_cases hk:k=n
 ·subst hk
  have hl:k<st.length:=by rw[←h.len];exact(D3.mp e).1
  rw[EV hl] at h1
  rw[e] at h2
  cases h1
  cases h2
  exact⟨ys,av,r1,r2.mono x⟩
 ·rw[EQ (Ne.symm hk)] at h1
  have ne:b≠a:=fun z=>hk ((List.getElem?_inj (D3.mp h2).1 h.nd).mp (by rw[h2,e,z]))
  exact(h.at_ k c b h1 h2).mono x (ae ne)
theorem RH.dkrd {K:W.Frag}{m:List Addr}{H:Hp}{st:AH}{n:Nat}{kvs:List (Key × PV)}{v:V}(h:RH K m H st)(e:st[n]?=some (.dk kvs)∨st[n]?=some (.fz kvs))(r:R K m H (.ref n) v):∃a ys,v=.ref a∧m[n]?=some a∧Rd H a (.dK ys)∧ys.map (·.1)=kvs.map (·.1)∧Rs K m H (kvs.map (·.2)) (ys.map (·.2)):=by
 rw[dM] at r
 obtain⟨a,e1,rfl⟩:=r
 rcases e with e|e
 ·obtain⟨ys,h1,h2⟩:=h.at_ n _ a e e1
  exact⟨a,ys,rfl,e1,.inl h1,h2⟩
 ·obtain⟨o,ys,h1,h2⟩:=h.at_ n _ a e e1
  exact⟨a,ys,rfl,e1,.inr ⟨o,h1⟩,h2⟩
theorem so (hu:X.A.units+64<cLine)(op:CmpOp):OpR X (compareOp op) (rN X.K (bY op)):=by
 intro pins s σ H x' y' v u Q I rx ry h
 obtain⟨m,st,x,y,rh,hx,hy,w⟩:=h
 unfold bY at w
 cases op with
 | Eq =>
  simp only at w
  unfold eqW at w
  split at w
  ·rw[R_int] at hx hy;subst hx hy
   exact s_ pins s σ H _ _ v u Q I rx ry ⟨rfl,by rw[AI];exact w.here rh (R_bl.mpr rfl)⟩
  ·rw[R_bl] at hx hy;subst hx hy
   exact s_ pins s σ H _ _ v u Q I rx ry ⟨rfl,by rw[Cd];exact w.here rh (R_bl.mpr rfl)⟩
  ·rw[R_str] at hx hy;subst hx hy
   exact s_ pins s σ H _ _ v u Q I rx ry ⟨rfl,by rw[zV];exact w.here rh (R_bl.mpr rfl)⟩
  ·obtain⟨d,e,h1,h2,h3,h4,w⟩:=w
   exact yC hu pins s σ H _ _ v u Q I rx ry ⟨d,e,cF rh hx h1,cF rh hy h2,h3,h4,w.here rh (R_bl.mpr rfl)⟩
 | NotEq =>
  simp only at w
  unfold eqW at w
  split at w
  ·rw[R_int] at hx hy;subst hx hy
   exact sT pins s σ H _ _ v u Q I rx ry ⟨rfl,by rw[AI];exact w.here rh (R_bl.mpr rfl)⟩
  ·rw[R_bl] at hx hy;subst hx hy
   exact sT pins s σ H _ _ v u Q I rx ry ⟨rfl,by rw[Cd];exact w.here rh (R_bl.mpr rfl)⟩
  ·rw[R_str] at hx hy;subst hx hy
   exact sT pins s σ H _ _ v u Q I rx ry ⟨rfl,by rw[zV];exact w.here rh (R_bl.mpr rfl)⟩
  ·obtain⟨d,e,h1,h2,h3,h4,w⟩:=w
   exact zd hu pins s σ H _ _ v u Q I rx ry ⟨d,e,cF rh hx h1,cF rh hy h2,h3,h4,w.here rh (R_bl.mpr rfl)⟩
 | Is =>
  simp only at w
  split at w
  ·rw[R_non] at hy;subst hy
   exact yT pins s σ H _ _ v u Q I rx ry ⟨rfl,by rw[hx.nonB];exact w.here rh (R_bl.mpr rfl)⟩
  ·rw[R_bl] at hy;subst hy
   exact wM pins s σ H _ _ v u Q I rx ry ⟨_,rfl,by rw[hx.blB];exact w.here rh (R_bl.mpr rfl)⟩
  ·exact w.elim
 | IsNot =>
  simp only at w
  split at w
  ·rw[R_non] at hy;subst hy
   exact uZ pins s σ H _ _ v u Q I rx ry ⟨rfl,by rw[hx.nonB];exact w.here rh (R_bl.mpr rfl)⟩
  ·rw[R_bl] at hy;subst hy
   exact qu pins s σ H _ _ v u Q I rx ry ⟨_,rfl,by rw[hx.blB];exact w.here rh (R_bl.mpr rfl)⟩
  ·exact w.elim
 | Lt =>
  simp only at w
  split at w
  ·rw[R_int] at hx hy;subst hx hy
   exact zP pins s σ H _ _ v u Q I rx ry ⟨_,_,rfl,rfl,w.here rh (R_bl.mpr rfl)⟩
  ·exact w.elim
 | LtE =>
  simp only at w
  split at w
  ·rw[R_int] at hx hy;subst hx hy
   exact By pins s σ H _ _ v u Q I rx ry ⟨_,_,rfl,rfl,w.here rh (R_bl.mpr rfl)⟩
  ·exact w.elim
 | Gt =>
  simp only at w
  split at w
  ·rw[R_int] at hx hy;subst hx hy
   exact BU pins s σ H _ _ v u Q I rx ry ⟨_,_,rfl,rfl,w.here rh (R_bl.mpr rfl)⟩
  ·exact w.elim
 | GtE =>
  simp only at w
  split at w
  ·rw[R_int] at hx hy;subst hx hy
   exact BV pins s σ H _ _ v u Q I rx ry ⟨_,_,rfl,rfl,w.here rh (R_bl.mpr rfl)⟩
  ·exact w.elim
 | In =>
  simp only at w
  split at w
  ·rw[R_str] at hx hy;subst hx hy
   exact qY pins s σ H _ _ v u Q I rx ry ⟨_,_,rfl,rfl,w.here rh (R_bl.mpr rfl)⟩
  ·rw[R_non] at hx;subst hx
   obtain⟨hf,w⟩:=w
   obtain⟨a,ys,rfl,g,r⟩:=R_tup.mp hy
   obtain⟨f1,f2⟩:=mV r hf
   refine eZ pins s σ H _ _ v u Q I rx ry ⟨a,_,rfl,.inr g,rfl,f1,?_⟩
   rw[D_ D1,f2]
   exact w.here rh (R_bl.mpr rfl)
  ·rw[R_int] at hx;subst hx
   obtain⟨ns,rfl,w⟩:=w
   obtain⟨a,ys,rfl,g,r⟩:=R_tup.mp hy
   obtain rfl:=lR r
   refine eZ pins s σ H _ _ v u Q I rx ry ⟨a,_,rfl,.inr g,rfl,gT,?_⟩
   rw[D_ D1,lQ]
   exact w.here rh (R_bl.mpr rfl)
  ·rw[R_str] at hx;subst hx
   obtain⟨ns,rfl,w⟩:=w
   obtain⟨a,ys,rfl,g,r⟩:=R_tup.mp hy
   obtain rfl:=fq r
   refine eZ pins s σ H _ _ v u Q I rx ry ⟨a,_,rfl,.inr g,rfl,dA,?_⟩
   rw[D_ D1,gB]
   exact w.here rh (R_bl.mpr rfl)
  ·rw[R_str] at hx;subst hx
   rcases w with⟨ns,e,w⟩|⟨kvs,e,w⟩
   ·obtain⟨a,ys,rfl,_,g,r⟩:=rh.lst e hy
    obtain rfl:=fq r
    refine eZ pins s σ H _ _ v u Q I rx ry ⟨a,_,rfl,.inl (SqL.of g),rfl,dA,?_⟩
    rw[D_ D1,gB]
    exact w.here rh (R_bl.mpr rfl)
   ·obtain⟨a,ys,rfl,_,g,r1,r2⟩:=rh.dkrd e hy
    cases ry
    refine Dd (E6 (by omega) hu) I (.inl ⟨_,.inr _,g,rfl,rfl⟩) rx fun s' I'=>⟨.bl _,H,I',rfl,?_⟩
    rw[o5 r1 r2]
    exact w.here rh (R_bl.mpr rfl)
  ·exact w.elim
 | NotIn =>
  simp only at w
  split at w
  ·rw[R_str] at hx hy;subst hx hy
   exact lC pins s σ H _ _ v u Q I rx ry ⟨_,_,rfl,rfl,w.here rh (R_bl.mpr rfl)⟩
  ·rw[R_int] at hx;subst hx
   obtain⟨ns,rfl,w⟩:=w
   obtain⟨a,ys,rfl,g,r⟩:=R_tup.mp hy
   obtain rfl:=lR r
   refine d_ pins s σ H _ _ v u Q I rx ry ⟨a,_,rfl,.inr g,rfl,gT,?_⟩
   rw[D9 rfl,lQ]
   exact w.here rh (R_bl.mpr rfl)
  ·rw[R_str] at hx;subst hx
   obtain⟨ns,rfl,w⟩:=w
   obtain⟨a,ys,rfl,g,r⟩:=R_tup.mp hy
   obtain rfl:=fq r
   refine d_ pins s σ H _ _ v u Q I rx ry ⟨a,_,rfl,.inr g,rfl,dA,?_⟩
   rw[D9 rfl,gB]
   exact w.here rh (R_bl.mpr rfl)
  ·rw[R_str] at hx;subst hx
   rcases w with⟨ns,e,w⟩|⟨kvs,e,w⟩
   ·obtain⟨a,ys,rfl,_,g,r⟩:=rh.lst e hy
    obtain rfl:=fq r
    refine d_ pins s σ H _ _ v u Q I rx ry ⟨a,_,rfl,.inl (SqL.of g),rfl,dA,?_⟩
    rw[D9 rfl,gB]
    exact w.here rh (R_bl.mpr rfl)
   ·obtain⟨a,ys,rfl,_,g,r1,r2⟩:=rh.dkrd e hy
    cases ry
    refine ve (E6 (by omega) hu) I (.inl ⟨_,.inr _,g,rfl,rfl⟩) rx fun s' I'=>⟨.bl _,H,I',rfl,?_⟩
    rw[o5 r1 r2]
    exact w.here rh (R_bl.mpr rfl)
  ·exact w.elim
theorem Am {prog:Program}{w:World}{A:Around}{E:Value→Shared→Prop}{s:Shared}{value slice:Expr}{o i:Value}{T id:String}{Q:Value→Shared→Prop}
  (hl:typeLookup (.type T) "__getitem__"=pure (some (.builtin id))) (hs:subscripted slice false o i=operate [o,i] (getItem o i)) (hT:s.TypeIs o T) (h:wpAny (model prog w) A (getItem o i) Q E s) :
  wpAny (model prog w) A (subscriptTail value slice o i) Q E s:=by
 unfold subscriptTail
 refine D4 ?_
 rw[getitemInPython_of_ne hT.not_modules]
 refine D4 (wpAny_specialOf hT hl ?_)
 have fin:wpAny (model prog w) A (subscripted slice false o i) (fun r s₃=>wpAny (model prog w) A (letTemporaryGo value o r >>= fun _=>pure r) Q E s₃) E s:=by
  rw[hs]
  exact wpAny_operating (wpAny_mono h (fun r s₃ h₃=>D4 (wpAny_letTemporaryGo (EG h₃))) fun _ _ x=>x)
 first
  | exact EG (D4 fin)
  | exact D4 (EG (D4 fin))
  | exact D4 fin
theorem wj (hu:X.A.units+64<cLine):IxR X (rN X.K ixW):=by
 intro value slice pins s σ H x' y' v u Q I rx ry h hs
 obtain⟨m,st,x,y,rh,hx,hy,w⟩:=h
 cases y with
 | int i =>
  rw[R_int] at hy;subst hy
  rcases oX w with⟨z,c,rfl,h1,h2,w⟩|⟨xs,z,h1,h2,w⟩
  ·rw[R_str] at hx;subst hx
   exact wN value slice pins s σ H _ _ v u Q I rx ry ⟨_,_,c,rfl,rfl,db h1,h2,w.here rh (R_str.mpr rfl)⟩ hs
  obtain⟨a,ys,rfl,g,r⟩:=gL rh hx h1
  obtain⟨y,e,ry'⟩:=r.atI h2
  rcases g with g|g
  ·exact uI value slice pins s σ H _ _ v u Q I rx ry ⟨a,ys,_,y,rfl,rfl,g,e,w.here rh ry'⟩ hs
  ·exact xz value slice pins s σ H _ _ v u Q I rx ry ⟨a,ys,_,y,rfl,rfl,g,e,w.here rh ry'⟩ hs
 | str z =>
  rw[R_str] at hy;subst hy
  obtain⟨n,kvs,p,rfl,e,h2,w⟩:=pJ w
  obtain⟨a,ys,rfl,_,g,r1,r2⟩:=rh.dkrd e hx
  obtain⟨p',e',rp⟩:=(eD r1 r2).1 _ h2
  have dg:DGet H a (.str z) (some p'):=by rw[←e'];exact .inl ⟨_,.inr z,g,rfl,rfl⟩
  cases rx
  obtain⟨z1,hd,vs,rel,dd⟩:=jn I.hok g
  exact Am PySem.F.slot_dict_getitem.lookup hs dd.typeIs (p8 (E6 (by omega) hu) I dg ry fun w' s3 I3 rw'=>⟨p',H,I3,rw',w.here rh rp⟩)
 | _=>exact w.elim
theorem fE {prog:Program}{w:World}{A:Around}{E:Value→Shared→Prop}{s:Shared}{t sl:Addr}{items:Array Value}{vl vu:Value}{lo hi:Option Int}{Q:Value→Shared→Prop}(ht:IsTup s.heap t items)(hs:s.heap.IsSliceOf sl vl vu .none)(pl:IsPart vl lo)(pu:IsPart vu hi)
  (hw:HT.sIx items.size 0 lo=0∧HT.sIx items.size items.size hi=items.size) (h:Q (.ref t) s):wpAny (model prog w) A (getItem (.ref t) (.ref sl)) Q E s:=by
 obtain⟨os,hos,hcs,hds⟩:=id hs
 have hTs:s.TypeIs (.ref sl) "slice":=⟨os,hos,hcs⟩
 unfold getItem
 try with_reducible refine FV ?_
 first|refine D4 (EG ?_)|skip
 refine D4 (wpAny_sequenceKey ht.typeIs (by decide) ?_)
 refine D4 (wpAny_callSpecial?_slot (name:=Str.ofString "__getitem__") ht.typeIs FJ
  (wpAny_call_entry FJ ht.typeIs entry_tuple_getitem ?_ (args_tuple_getitem _ _)))
 show wpAny _ _ (Builtin.Tuple.tupleItemsOf (.ref t) >>= _) _ _ s
 refine D4 (tupleItemsOf_ ht ?_)
 refine D4 (wpAny_typeOf hTs ?_)
 rw[D9 (by decide)]
 refine D4 (HT.sliceApplied_gen hs pl pu ?_)
 have hyes:((((HT.sIx items.size 0 lo:Nat):Int) == 0 && (1:Int) == 1 && (HT.sIx items.size items.size hi-HT.sIx items.size 0 lo) == items.size)=true):=by
  rw[hw.1,hw.2]
  simp
 show wpAny _ _ (if (((HT.sIx items.size 0 lo:Nat):Int) == 0 && (1:Int) == 1 && (HT.sIx items.size items.size hi-HT.sIx items.size 0 lo) == items.size)=true then _ else _) _ _ s
 rw[D9 hyes]
 unfold Builtin.Tuple.tupleIsExact
 refine D4 (D4 (wpAny_typeOf ht.typeIs (EG ?_)))
 rw[D9 (by simp)]
 exact D4 (wpAny_rule (EG ⟨_,rfl,EG h⟩))
noncomputable def BE (K:W.Frag):V→Option Int→Option Int→Hp→VK→Prop:=fun x' lo hi H Q=>∃m st x,RH K m H st∧R K m H x x'∧slW x lo hi st (post K m H Q)
theorem oF {ys:List V}{lo hi:Option Int}(h:HT.sIx ys.length 0 lo=0∧HT.sIx ys.length ys.length hi=ys.length):j6 ys lo hi=ys:=by
 unfold j6
 rw[h.1,h.2,G_,Nat.sub_zero,GA]
theorem o0 {v:Value}{p:Option Int}(h:IsPart v p):∃q:Option (Int × Tok),v=partValue q∧q.map (·.1)=p:=by
 cases h with
 | none=>exact⟨none,rfl,rfl⟩
 | int i t=>exact⟨some (i,t),rfl,rfl⟩
theorem vP {z:Str}{t:Tok}{l u:Option (Int × Tok)}{lo hi:Option Int}{Q:Value→Shared→Prop}{s:Shared}(e:(l.map (·.1),u.map (·.1))=(lo,hi))(h1:z.length≤100000)(h:∀tk t',Q (.str (df z lo hi) t') { s with toks:=tk }):(sliceMade z t l u none).post Q s:=by
 cases e
 unfold sliceMade
 have h:∀tk t',Q (.str (if ((slicePicked z l u none).length == z.length)=true then z else ⟨((slicePicked z l u none).filterMap (z.cps[·]?)).toArray⟩) t') { s with toks:=tk }:=h
 cases q:((slicePicked z l u none).length == z.length) with
 | true =>
  rw[q] at h
  exact h s.toks t
 | false =>
  rw[q] at h
  refine⟨?_,h _ _⟩
  show ((slicePicked z l u none).filterMap (z.cps[·]?)).toArray.size≤sizeLine
  rw[ED]
  refine EX (F1 _ _) (EX ?_ (db h1))
  refine sliceRange_length_le _ _ _ _ (fun _=>?_) fun z=>absurd (show (1:Int) > 0 by decide) z
  cases l <;> cases u <;> constructor <;> simp only[Option.map,Option.getD,show (1:Int) > 0 by decide,if_true] <;> first|omega|(split <;> omega)
theorem Br:SlR X (BE X.K):=by
 intro pins s σ H x' v vl vu lo hi sl Q I rx hs pl pu h
 obtain⟨m,st,x,rh,hx,w⟩:=h
 unfold slW at w
 split at w
 ·rename_i z
  rw[R_str] at hx
  subst hx
  obtain⟨t,rfl⟩:=rx
  obtain⟨h1,w⟩:=w
  obtain⟨l,el,pl'⟩:=o0 pl
  obtain⟨u,eu,pu'⟩:=o0 pu
  subst el eu
  refine ⟨"str",_,PyProof.Rows.slot_str_getitem.lookup,typeIs_str _ _ _,?_⟩
  refine wpAny_getItem_str_slice (l:=l) (u:=u) (st:=none) hs rfl (vP ?_ h1 fun tk t'=>⟨.str (df z lo hi),H,I.tok tk,⟨t',rfl⟩,w.here rh (R_str.mpr rfl)⟩)
  rw[pl',pu']
 ·rw[R_tup] at hx
  obtain⟨a,ys,rfl,g,r⟩:=hx
  by_cases hw:HT.sIx ys.length 0 lo=0∧HT.sIx ys.length ys.length hi=ys.length
  ·cases rx
   obtain⟨its,r',ht,hz⟩:=I.tuple g
   have hlen:its.toArray.size=ys.length:=by rw[ED];exact r'.length.symm
   refine ⟨"tuple",_,PyProof.Rows.slot_tuple_getitem.lookup,ht.typeIs,fE ht hs pl pu (by rw [hlen];exact hw) ?_⟩
   refine⟨.ref a,H,I,rfl,w.here rh (R_tup.mpr ⟨a,ys,rfl,g,?_⟩)⟩
   have:=r.cut lo hi
   rw[oF hw] at this
   exact this
  ·exact xC pins s σ H _ v vl vu lo hi sl Q I rx hs pl pu ⟨a,ys,rfl,g,hw,fun p hp=>w.newT rh (r.cut lo hi) hp⟩
 ·obtain⟨xs,h1,w⟩:=w
  obtain⟨a,ys,rfl,g,r⟩:=bv rh hx h1
  exact uS pins s σ H _ v vl vu lo hi sl Q I rx hs pl pu ⟨a,ys,rfl,g,fun p hp=>w.newL rh (r.cut lo hi) hp⟩
theorem Rs.one' {K:W.Frag}{m:List Addr}{H:Hp}{x:PV}{ys:List V}(h:Rs K m H [x] ys):∃y,ys=[y]∧R K m H x y:=by
 rw[Rs_cons] at h
 obtain⟨y,r,rfl,h1,h2⟩:=h
 rw[Rs_nil] at h2
 subst h2
 exact⟨y,rfl,h1⟩
theorem Rs.two' {K:W.Frag}{m:List Addr}{H:Hp}{x z:PV}{ys:List V}(h:Rs K m H [x,z] ys):∃y u,ys=[y,u]∧R K m H x y∧R K m H z u:=by
 rw[Rs_cons] at h
 obtain⟨y,r,rfl,h1,h2⟩:=h
 obtain⟨u,rfl,h3⟩:=h2.one'
 exact⟨y,u,rfl,h1,h3⟩
theorem gR {K:W.Frag}{m:List Addr}{H:Hp}:∀ {xs:List PV}{bs:List Bool}{ys:List V}{us:List Value},fL xs=some bs→Rs K m H xs ys→Vals ys us→LSm.BoolsAre us bs
 | [],bs,ys,us,e,h,r=>by
  rw[Rs_nil] at h;subst h
  cases r
  cases e
  exact .nil
 | x::xs,bs,ys,us,e,h,r=>by
  rw[Rs_cons] at h
  obtain⟨y,q,rfl,h1,h2⟩:=h
  cases x with
  | bl b =>
   cases r with
   | cons r1 r2 =>
    rw[R_bl] at h1
    subst h1
    cases r1
    unfold fL at e
    cases z:fL xs with
    | none=>rw[z] at e;cases e
    | some bs' =>
     rw[z] at e
     cases e
     exact .cons b (gR z h2 r2)
  | _=>cases e
theorem pY {l:Addr}{vs:List Value}{bs:List Bool}{P:Program}{w:World}{A:Around}{E:Value→Shared→Prop}{s:Shared}{Q:Value→Shared→Prop}(hh:A.handled=none)(hl:s.heap.IsList l vs.toArray)(hb:LSm.BoolsAre vs bs)
  (h:∀h' tk,(∀b x,s.heap.get? b=some x→h'.get? b=some x)→Q (.bool (bs.all id)) { s with heap:=h',toks:=tk }):wpAny (model P w) A (call (.builtin "all") [.ref l]) Q E s:=by
 have hlt:l<s.heap.objs.size:=by obtain⟨_,e,_⟩:=hl;exact D8 e
 refine call_all_walk (wpAny_pyIter_list hl ?_)
 refine⟨s.heap.objs.size,[s.heap.objs.size,l],[s.heap.objs.size],vs.toArray.size,_,_,fun i=>(bs[i]?).getD true,rfl,Walks.list (A:=A.in1) hh _ l (EM hlt) vs.toArray,
  ⟨⟨_,EC _ rfl,rfl,rfl⟩,hl.push _⟩,fun i v s' Q' E' hP hQ=>?_,fun h' tk hk=>?_⟩
 ·obtain⟨b,e,rfl⟩:=hb.get i v (by simpa using hP)
  simp only[e,Option.getD_some] at hQ
  exact wpAny_truthy_bool hQ
 ·have e:((List.range vs.toArray.size).all fun i=>(bs[i]?).getD true)=bs.all id:=by
   rw[ED,hb.length];exact LSm.range_all bs
  rw[e]
  exact h h' tk (LSm.kept_iter hk)
noncomputable def AC:B→Value
 | .len=>.builtin "len"
 | .max2=>.builtin "max"
 | .min2=>.builtin "min"
 | .divmod=>.builtin "divmod"
 | .int1=>.type "int"
 | .str1=>.type "str"
 | .tuple1=>.type "tuple"
 | .list1=>.type "list"
 | .all1=>.builtin "all"
 | .any1=>.builtin "any"
 | .abs1=>.builtin "abs"
 | .sorted1=>.builtin "sorted"
 | .repr1=>.builtin "repr"
 | .sortS=>.builtin "sorted"
 | .max1=>.builtin "max"
 | .sortD=>.builtin "sorted"
theorem je {K:W.Frag}{m:List Addr}{H:Hp}:∀ {ns:List Int}{ys:List V}{us:List Value},Rs K m H (ns.map PV.int) ys→Vals ys us→IntsAre us ns
 | [],ys,us,h,r=>by
  rw[E5,Rs_nil] at h;subst h
  cases r
  exact .nil
 | n::ns,ys,us,h,r=>by
  rw[EE,Rs_cons] at h
  obtain⟨y,q,rfl,h1,h2⟩:=h
  rw[R_int] at h1
  subst h1
  cases r with
  | cons r1 r2 =>
   obtain⟨t,rfl⟩:=r1
   exact .cons n t (je h2 r2)
theorem nC {K:W.Frag}{m:List Addr}{H:Hp}:∀ {ns:List Str}{ys:List V}{us:List Value},Rs K m H (ns.map PV.str) ys→Vals ys us→StrsAre us ns
 | [],ys,us,h,r=>by
  rw[E5,Rs_nil] at h;subst h
  cases r;exact .nil
 | n::ns,ys,us,h,r=>by
  rw[EE] at h
  obtain⟨y,ys',rfl,h1,h2⟩:=Rs_cons.mp h
  rw[R_str] at h1;subst h1
  cases r with
  | cons r1 r2 =>
   obtain⟨t,rfl⟩:=r1
   exact .cons n t (nC h2 r2)
theorem eV:∀ {us:List Value}{ns:List Str},StrsAre us ns→Vals (ns.map V.str) us
 | _,_,.nil=>.nil
 | _,_,.cons n t r=>.cons ⟨t,rfl⟩ (eV r)
theorem nX {K:W.Frag}{m:List Addr}{H:Hp}:∀ {ns:List Str},Rs K m H (ns.map PV.str) (ns.map V.str)
 | []=>by rw[E5,E5,Rs_nil]
 | n::ns=>by rw[EE,EE,Rs_cons',R_str];exact⟨rfl,nX⟩
theorem mo {pins:List (Addr × Obj)}{s:Shared}{σ:L2.St}{H:Hp}{p:Addr}{its:List Value}{ns:List Str}{Q:VK}(I:L2.Inv X pins σ H s)(hl:s.heap.IsList p its.toArray)(hi:StrsAre its ns)(hn:ns.length<64)
  (q:∀ns':List Str,ns'.Perm ns→sortedS ns'=true→∀l,H l=none→Q (.ref l) (upd H l (.lst (ns'.map V.str)))):wpAny (model X.prog X.w) X.A (call (.builtin "sorted") [.ref p]) (EP X pins σ Q) X.xe s:=by
 have hlen:its.length=ns.length:=by
  have:=(eV hi).length
  simpa using this.symm
 refine sorted_strs hl hi (by omega) fun out ns' h1 h2 h3=>?_
 obtain⟨e,he⟩:=sortedAll_at s.heap its out
 refine⟨.ref (s.heap.objs.size+1),_,I.laid (t':=s.toks) (fun b o=>sortedAll_old) (IE _) (show ObjOk X.prog X.w _ _ _ (.lst (ns'.map V.str)) from ⟨?_,out.toList,e,eV h1,he⟩),rfl,q ns' h2 h3 _ (I.hok.fresh (IE _))⟩
 rw[EN,h2.length_eq]
 exact E8 (eX (by omega))
theorem lI {prog:Program}{w:World}{A:Around}{E:Value→Shared→Prop}{s:Shared}{T:String}{r d:Addr}{n:Nat}{P:Nat→Value→Prop}{OK:Heap→Prop}{R:List Value→Shared→Prop}(K:W.KdlSrc prog w T r d n P OK)(hh:A.handled=none)(hok:OK s.heap)(hn:n≤sizeLine)
  (h:∀(h':Heap) (tk:Nat) (acc:Array Value),(∀b o,s.heap.get? b=some o→h'.get? b=some o)→s.heap.objs.size≤h'.objs.size→ItemsOf P acc n→R acc.toList { s with heap:=h',toks:=tk }):wpAny (model prog w) A (collect (.ref r)) R E s:=by
 obtain⟨l1,l2⟩:=K.there _ hok
 unfold collect
 refine D4 (wpAny_runValue (codeAny_builtin entry_proto_collect' ?_))
 rw[Around.under_plainId PySem.F.plain_proto_collect _]
 show wpAny _ A.in1 (newList [] >>= fun l=>again (.builtin "list.__iadd__" ⟨[l,.ref r],[]⟩)) _ _ s
 refine D4 (wpAny_newObj_type (EG ⟨plainId_quiet PySem.F.plain_list_iadd _,codeAny_builtin entry_list_iadd' ?_⟩))
 rw[Around.under_plainId PySem.F.plain_list_iadd _]
 have new:(s.heap.push { cls:=.type "list",data:=.seq ([]:List Value).toArray }).get? s.heap.objs.size=some { cls:=.type "list",data:=.seq #[] }:=EC _ rfl
 show wpAny _ A.in1 (Builtin.List.listExtendWith (.ref s.heap.objs.size) (.ref r) (.ref s.heap.objs.size)) _ _ _
 have main:=W.kdl_extend (A:=A) (s:={ s with heap:=s.heap.push { cls:=.type "list",data:=.seq ([]:List Value).toArray } })
  (R:=fun (q:Result) (s':Shared)=>∃(h':Heap) (tk:Nat) (zs:Array Value) (c:Nat),q=.ok (.ret (.ref s.heap.objs.size))∧s'={ s with heap:=h',toks:=tk }∧(∀b o,s.heap.get? b=some o→h'.get? b=some o)∧h'.get? s.heap.objs.size=some { cls:=.type "list",dict:=none,data:=.seq zs c,slots:=#[] }∧ItemsOf P zs n)
  K hh (K.keep _ _ hok fun b _ o e=>D5 _ e) s.heap.objs.size (F_ l1) (F_ l2) (.ref s.heap.objs.size) 0 new
  (fun h' tk zs c hk hS hz=>⟨h',tk,zs,c,rfl,rfl,fun b o e=>hk b o (EM (D8 e)) (D5 _ e),hS,hz⟩) hn
 refine wpAny_mono main (fun fin s' x=>?_) fun e s' x=>?_
 ·cases fin with
  | done f =>
   obtain⟨h',tk,zs,c,e,rfl,hk,hS,hz⟩:=x
   cases e
   show wpAny _ A (load s.heap.objs.size >>= _) _ _ _
   exact D4 (wpAny_load hS (EG (h h' tk zs hk (E8 (D8 hS)) hz)))
  | again c₁ =>
   refine⟨x.1,codeAny_mono x.2 fun q s₂ y=>?_⟩
   obtain⟨h',tk,zs,c,rfl,rfl,hk,hS,hz⟩:=y
   show wpAny _ A (load s.heap.objs.size >>= _) _ _ _
   exact D4 (wpAny_load hS (EG (h h' tk zs hk (E8 (D8 hS)) hz)))
 ·obtain⟨_,_,_,_,e',_⟩:=x
  cases e'
theorem jb {P:Program}{w:World}:∀ {ss:List Str}{vs:List Value},vs.length=ss.length→(∀(j:Nat) v,vs[j]?=some v→∃x,ss[j]?=some x∧∃t,v=.str x t)→StrsAre vs ss
 | [],vs,hl,h=>by
  cases vs with
  | nil=>exact .nil
  | cons _ _=>simp at hl
 | s::ss,vs,hl,h=>by
  cases vs with
  | nil=>simp at hl
  | cons v vs =>
   obtain⟨x,e,t,rfl⟩:=h 0 v rfl
   simp at e
   subst e
   exact .cons _ t (jb (P:=P) (w:=w) (by simpa using hl) fun j u hu=>by simpa using h (j+1) u (by simpa using hu))
theorem l8 {pins:List (Addr × Obj)}{s:Shared}{σ:L2.St}{H:Hp}{a:Addr}{ys:List (Key × V)}{ss:List Str}{Q:VK}(hcalm:X.calm=true)(I:L2.Inv X pins σ H s)(g:Rd H a (.dK ys))(hk:ys.map (·.1)=ss.map Sum.inr)(hn:ss.length<64)
  (q:∀ss':List Str,ss'.Perm ss→sortedS ss'=true→∀l,H l=none→Q (.ref l) (upd H l (.lst (ss'.map V.str)))):wpAny (model X.prog X.w) X.A (call (.builtin "sorted") [.ref a]) (EP X pins σ Q) X.xe s:=by
 obtain⟨z,lo,vs,rel,dd⟩:=jn I.hok g
 obtain⟨ep,hat⟩:=dd.dictAt
 have hv:vs.length=ss.length:=by rw[←rel.length];simpa using ES List.length hk
 have kk:vs.map (·.1)=ss.map Sum.inr:=by rw[←rel.keys];exact hk
 refine Calls.call_function_entry kind_sorted plain_sorted entry_sorted (args_sorted1 _) ?_
 unfold Builtin.«sorted»
 refine D4 (m:=checkCount "sorted" 1 1 _) (EG ?_)
 refine D4 (lI (A:=X.A.in1) (W.kdl_dict (knd:=aB X.prog X.w) (kvs:=vs) (ep:=ep) lo) (I.ok.hd hcalm) hat (E8 (eX (by omega))) fun h1 tk acc k1 z1 hacc=>?_)
 have hl:acc.toList.length=ss.length:=by rw[FA,hacc.1,hv]
 have hS:StrsAre acc.toList ss:=jb (P:=X.prog) (w:=X.w) hl fun j v e=>by
  obtain⟨k,x,hx,hkk⟩:=hacc.2 j v (by rw[←Array.getElem?_toList];exact e)
  have e2:(vs.map (·.1))[j]?=some k:=by rw[EL,hx];rfl
  rw[kk,EL] at e2
  obtain⟨x',h3,rfl⟩:=FS.mp e2
  obtain⟨t,rfl⟩:=Value.isStrOf_shape (show Value.isStrOf x' v=true from hkk)
  exact⟨x',h3,t,rfl⟩
 refine D4 (wpAny_newList ?_ (by rw[hl];exact E8 (eX (by omega))))
 have hoL:(h1.push (seqObj "list" acc.toList.toArray 0)).get? h1.objs.size=some (seqObj "list" acc.toList.toArray 0):=EC _ rfl
 refine D4 (FV (wpAny_call_entry slot_list_sort ⟨_,hoL,rfl⟩ entry_list_sort (list_sort_treeK strKind_oneLt hoL hS.keysOf (fun v₁ v₂ rest e=>keyKind_strs (by rw[←e];exact hS)) (by rw[hl];exact hn) fun st' hp hs=>⟨_,rfl,?_⟩) (args_list_sort _)))
 obtain⟨ss',a1,a2,a3⟩:=sorted_out_str hS hp hs
 refine EG ⟨_,rfl,?_⟩
 obtain⟨e,he⟩:=sortedHeap_at (out:=(arrOf st').map (·.2)) hoL
 refine⟨.ref h1.objs.size,_,I.laid (t':=tk) (fun b o eb=>?_) z1 (show ObjOk X.prog X.w _ _ _ (.lst (ss'.map V.str)) from ⟨?_,_,e,eV a1,he⟩),rfl,q ss' a2 a3 _ (I.hok.fresh z1)⟩
 ·have lb:b<h1.objs.size:=EB (D8 eb) z1
  rw[sortedHeap_old (EM lb) (by rw[size_push'];exact Nat.lt_succ_of_lt lb)]
  exact D5 _ (k1 b o eb)
 ·rw[EN,a2.length_eq]
  exact E8 (eX (by omega))
theorem p7 {pins:List (Addr × Obj)}{s:Shared}{σ:L2.St}{H:Hp}{p:Addr}{its:List Value}{ns:List Int}{Q:VK}(I:L2.Inv X pins σ H s)(hc:X.calm=true)(hl:s.heap.IsList p its.toArray)(hi:IntsAre its ns)(hne:0<ns.length)
  (q:∀i,i∈ns→(∀j,j∈ns→j≤i)→Q (.int i) H):wpAny (model X.prog X.w) X.A (call (.builtin "max") [.ref p]) (EP X pins σ Q) X.xe s:=by
 obtain⟨xs,e⟩:=hi.allInts.items
 have hns:ns=xs.toList.map (·.1):=by rw[←hi.numsOf,←nums_intItems,←e]
 have hsz:0<xs.size:=by
  have h3:=hne;rw[hns,EN,FA] at h3;exact h3
 rw[e] at hl
 refine max_intList (I.ok.hd hc) hl hsz fun v h' tk hv hk=>?_
 obtain⟨t,rfl⟩:=intItems_at hv
 obtain⟨h1,h2⟩:=argBest_gt (numAt xs) (xs.size-1)
 refine⟨.int _,H,I.kept (t':=tk) hk,⟨t,rfl⟩,q _ ?_ fun j hj=>?_⟩
 ·rw[hns,numAt_eq];exact getD_mem (by rw[EN,FA];omega)
 ·rw[hns] at hj
  obtain⟨k,hk2,rfl⟩:=mem_getD hj
  rw[EN,FA] at hk2
  rw[←numAt_eq];exact h2 k (by omega)
section
variable {prog:Program}{w:World}{A:Around}{E:Value→Shared→Prop}{s:Shared}{l:Addr}{xs:Array (Int × Tok)}
theorem oJ {Q:Value→Shared→Prop}(hh:A.handled=none)(hl:s.heap.IsTuple l (intItems xs))(hne:0<xs.size)
  (h:∀v h' tk,(intItems xs)[argBest (fun i j=>decide (numAt xs i > numAt xs j)) (xs.size-1)]?=some v→(∀b o,s.heap.get? b=some o→h'.get? b=some o)→Q v { s with heap:=h',toks:=tk }) :
  wpAny (model prog w) A (call (.builtin "max") [.ref l]) Q E s:=by
 have hlt:l<s.heap.objs.size:=by obtain⟨_,e,_⟩:=hl;exact D8 e
 refine call_max_walk (wpAny_pyIter_tuple hl ?_)
 refine⟨_,_,_,_,_,_,_,rfl,Walks.tuple (A:=A.in1) hh s.heap.objs.size l (EM hlt) (intItems xs),⟨⟨_,EC _ rfl,rfl,rfl⟩,hl.push _⟩,fun b hb=>?_,by simpa[intItems] using hne,CmpOf.ints_gt (numAt xs) (fun _ _=>intItems_at),fun v h' tk hP hk=>?_⟩
 ·show b<(s.heap.push _).objs.size
  rw[Heap.size_push]
  rcases E3.mp hb with rfl|hb
  ·exact HG _
  ·rcases E3.mp hb with rfl|hb
   ·exact Nat.lt_succ_of_lt hlt
   ·cases hb
 ·refine h v h' tk (by simpa[intItems] using hP) fun b o e=>hk b o (fun hm=>?_) (D5 _ e)
  rcases E3.mp hm with e1|hm
  ·exact absurd (e1 ▸ D8 e) (F5 _)
  ·cases hm
end
theorem pW {pins:List (Addr × Obj)}{s:Shared}{σ:L2.St}{H:Hp}{p:Addr}{its:List Value}{ns:List Int}{Q:VK}(I:L2.Inv X pins σ H s)(hc:X.calm=true)(hl:s.heap.IsTuple p its.toArray)(hi:IntsAre its ns)(hne:0<ns.length)
  (q:∀i,i∈ns→(∀j,j∈ns→j≤i)→Q (.int i) H):wpAny (model X.prog X.w) X.A (call (.builtin "max") [.ref p]) (EP X pins σ Q) X.xe s:=by
 obtain⟨xs,e⟩:=hi.allInts.items
 have hns:ns=xs.toList.map (·.1):=by rw[←hi.numsOf,←nums_intItems,←e]
 have hsz:0<xs.size:=by
  have h3:=hne;rw[hns,EN,FA] at h3;exact h3
 rw[e] at hl
 refine oJ (I.ok.hd hc) hl hsz fun v h' tk hv hk=>?_
 obtain⟨t,rfl⟩:=intItems_at hv
 obtain⟨h1,h2⟩:=argBest_gt (numAt xs) (xs.size-1)
 refine⟨.int _,H,I.kept (t':=tk) hk,⟨t,rfl⟩,q _ ?_ fun j hj=>?_⟩
 ·rw[hns,numAt_eq];exact getD_mem (by rw[EN,FA];omega)
 ·rw[hns] at hj
  obtain⟨k,hk2,rfl⟩:=mem_getD hj
  rw[EN,FA] at hk2
  rw[←numAt_eq];exact h2 k (by omega)
theorem lP:bX X (.type "int") (fun xs H Q=>∃z n,xs=[.str z]∧z.length≤640∧PySem.intText? z=some n∧Q (.int n) H):=by
 intro pins s σ H xs us Q I r h
 obtain⟨z,n,rfl,h1,h2,q⟩:=h
 obtain⟨u,rfl,t,rfl⟩:=bQ r
 exact W.KIN.call_text h2 h1 ⟨.int n,H,I.tok _,⟨_,rfl⟩,q⟩
theorem xH (hc:X.calm=true)(hgd:X.A.guards=some [])(hun:X.A.units+64<cLine)(b:B):bX X (AC b) (AA X.K (cf b)):=by
 intro pins s σ H xs' us Q I r h
 obtain⟨m,st,xs,rh,hx,w⟩:=h
 cases b with
 | len =>
  obtain⟨x0,rfl,w⟩:=ay w
  obtain⟨y,rfl,hy⟩:=hx.one'
  rcases mM w with⟨z,rfl,h1,w⟩|⟨ys,h1,w⟩
  ·rw[R_str] at hy;subst hy
   exact l7 pins s σ H _ us Q I r ⟨_,rfl,db h1,w.here rh (R_int.mpr rfl)⟩
  obtain⟨a,zs,rfl,g,rz⟩:=gL rh hy h1
  refine mh pins s σ H _ us Q I r ⟨a,zs,rfl,g,?_⟩
  have:=w.here rh (x:=V.int ys.length) (R_int.mpr rfl)
  rw[rz.len] at this
  exact this
 | max2 =>
  obtain⟨x0,y0,rfl,w⟩:=dN w
  obtain⟨i,j,rfl,rfl,w⟩:=bi w
  obtain⟨y,u,rfl,hy,hu⟩:=hx.two'
  rw[R_int] at hy hu;subst hy hu
  exact pU hc pins s σ H _ us Q I r ⟨_,_,rfl,w.here rh (R_int.mpr rfl)⟩
 | min2 =>
  obtain⟨x0,y0,rfl,w⟩:=dN w
  obtain⟨i,j,rfl,rfl,w⟩:=bi w
  obtain⟨y,u,rfl,hy,hu⟩:=hx.two'
  rw[R_int] at hy hu;subst hy hu
  exact qD hc pins s σ H _ us Q I r ⟨_,_,rfl,w.here rh (R_int.mpr rfl)⟩
 | divmod =>
  obtain⟨x0,y0,rfl,w⟩:=dN w
  obtain⟨i,j,rfl,rfl,w⟩:=bi w
  obtain⟨y,u,rfl,hy,hu⟩:=hx.two'
  rw[R_int] at hy hu;subst hy hu
  refine l4 pins s σ H _ us Q I r ⟨_,_,rfl,w.1,fun p hp=>w.2.newT rh ?_ hp⟩
  rw[Rs_cons',Rs_cons',Rs_nil,R_int,R_int]
  exact⟨rfl,rfl,rfl⟩
 | int1 =>
  obtain⟨x0,rfl,w⟩:=ay w
  obtain⟨y,rfl,hy⟩:=hx.one'
  rcases kz w with⟨b0,rfl,w⟩|⟨z,n,rfl,h1,h2,w⟩
  case inr =>
   rw[R_str] at hy;subst hy
   exact lP pins s σ H _ us Q I r ⟨_,_,rfl,h1,h2,w.here rh (R_int.mpr rfl)⟩
  rw[R_bl] at hy;subst hy
  exact pO pins s σ H _ us Q I r (.inr ⟨_,rfl,w.here rh (R_int.mpr rfl)⟩)
 | str1 =>
  obtain⟨x0,rfl,w⟩:=ay w
  obtain⟨i,rfl,w⟩:=i6 w
  obtain⟨y,rfl,hy⟩:=hx.one'
  rw[R_int] at hy;subst hy
  exact lM pins s σ H _ us Q I r ⟨_,rfl,w.1,w.2.here rh (R_str.mpr rfl)⟩
 | tuple1 =>
  obtain⟨x0,rfl,w⟩:=ay w
  obtain⟨ys,h1,w⟩:=w
  obtain⟨y,rfl,hy⟩:=hx.one'
  obtain⟨a,zs,rfl,g,rz⟩:=gL rh hy h1
  refine j_ pins s σ H _ us Q I r ⟨a,zs,rfl,?_⟩
  rcases g with g|g
  ·exact .inl ⟨g,fun p hp=>w.newT rh rz hp⟩
  ·exact .inr ⟨g,w.here rh (R_tup.mpr ⟨a,zs,rfl,g,rz⟩)⟩
 | list1=>exact False.elim w
 | all1 =>
  obtain⟨x0,rfl,w⟩:=ay w
  obtain⟨ys,bs,h1,h2,w⟩:=w
  obtain⟨y,rfl,hy⟩:=hx.one'
  obtain⟨a,zs,rfl,g,rz⟩:=bv rh hy h1
  obtain⟨u,rfl,ru⟩:=bQ r
  cases ru
  obtain⟨its,ri,pl,_⟩:=I.list g
  exact pY (I.ok.hd hc) pl.isList (gR h2 rz ri) fun h' tk k=>⟨.bl _,H,I.kept k,rfl,w.here rh (R_bl.mpr rfl)⟩
 | any1=>exact False.elim w
 | abs1 =>
  obtain⟨x0,rfl,w⟩:=ay w
  obtain⟨i,rfl,w⟩:=i6 w
  obtain⟨y,rfl,hy⟩:=hx.one'
  rw[R_int] at hy;subst hy
  refine sm pins s σ H _ us Q I r ⟨_,rfl,?_⟩
  have:=w.here rh (R_int.mpr rfl)
  have e:(if i<0 then -i else i)=(i.natAbs:Int):=by split <;> omega
  rw[e]
  exact this
 | sorted1=>exact False.elim w
 | sortS =>
  obtain⟨x0,rfl,w⟩:=ay w
  obtain⟨ss,h1,h2,w⟩:=w
  obtain⟨y,rfl,hy⟩:=hx.one'
  obtain⟨a,zs,rfl,g,rz⟩:=bv rh hy h1
  obtain⟨u,rfl,ru⟩:=bQ r
  cases ru
  obtain⟨its,ri,pl,_⟩:=I.list g
  exact mo I pl.isList (nC rz ri) h2 fun ss' p1 p2 l hl=>(w ss' p1 p2).newL rh nX hl
 | sortD =>
  obtain⟨x0,rfl,n,rfl,kvs,h1,ss,h2,h3,w⟩:=ay w
  obtain⟨y,rfl,hy⟩:=hx.one'
  obtain⟨a,ys,rfl,_,g,r1,r2⟩:=rh.dkrd h1 hy
  obtain⟨u,rfl,ru⟩:=bQ r
  cases ru
  exact l8 hc I g (r1.trans h2) h3 fun ss' p1 p2 l hl=>(w ss' p1 p2).newL rh nX hl
 | max1 =>
  obtain⟨x0,rfl,w⟩:=ay w
  obtain⟨ns,h1,h2,wq⟩:=w
  obtain⟨y,rfl,hy⟩:=hx.one'
  cases x0 with
  | tup xs =>
   obtain rfl:=EU h1
   obtain⟨a,ys,rfl,g,rz⟩:=R_tup.mp hy
   obtain⟨u,rfl,ru⟩:=bQ r
   cases ru
   obtain⟨its,ri,pl,_⟩:=I.tuple g
   exact pW I hc pl (je rz ri) h2 fun i p1 p2=>(wq i p1 p2).here rh (R_int.mpr rfl)
  | _ =>
  obtain⟨a,zs,rfl,g,rz⟩:=bv rh hy h1
  obtain⟨u,rfl,ru⟩:=bQ r
  cases ru
  obtain⟨its,ri,pl,_⟩:=I.list g
  exact p7 I hc pl.isList (je rz ri) h2 fun i p1 p2=>(wq i p1 p2).here rh (R_int.mpr rfl)
 | repr1=>exact False.elim w
theorem qB {st:AH}{x:PV}{n:String}(h:a_ st x=some n):n∈["NoneType","bool","int","str","list","tuple","dict"]:=by
 cases x with
 | ref k =>
  unfold a_ at h
  simp only at h
  split at h <;> cases h <;> decide
 | _=>cases h <;> decide
theorem vb {pins:List (Addr × Obj)}{s:Shared}{σ:L2.St}{H:Hp}{A:Around}{E:Value→Shared→Prop}{K:W.Frag}{m:List Addr}{st:AH}{x:PV}{x':V}{u:Value}{n c:String}{Q:Value→Shared→Prop}(I:Inv X pins σ H s)(rh:RH X.K m H st)(hx:R X.K m H x x')
  (ru:RelV x' u) (hk:a_ st x=some n) (hc:c∈["int","bool","str","tuple","list","dict"]) (h:∀tk,Q (.bool (bq c n)) { s with toks:=tk }) :
  wpAny (model X.prog X.w) A (call (.builtin "isinstance") [u,.type c]) Q E s:=by
 have e:=sJ X.K c hc n (qB hk)
 cases x with
 | non=>cases hk;rw[R_non] at hx;subst hx;exact cU I ru .non e h
 | bl b=>cases hk;rw[R_bl] at hx;subst hx;exact cU I ru (.bl b) e h
 | fn b=>cases hk
 | int b=>cases hk;rw[R_int] at hx;subst hx;exact cU I ru (.int b) e h
 | str b=>cases hk;rw[R_str] at hx;subst hx;exact cU I ru (.str b) e h
 | tup xs =>
  cases hk
  rw[R_tup] at hx
  obtain⟨a,ys,rfl,g,r⟩:=hx
  cases ru
  obtain⟨its,_,⟨o,ho,hcl,_⟩,_⟩:=I.tuple g
  exact FY W.kitx_tuple I.kIn ⟨o,ho,hcl⟩ e (fun z=>nomatch z) h
 | rdl xs =>
  cases hk
  rw[dz] at hx
  obtain⟨a,ys,rfl,g,r⟩:=hx
  cases ru
  obtain⟨its,_,pl,_⟩:=I.list g.sq
  obtain⟨o,ho,hcl,_⟩:=pl.isList
  exact FY IC I.kIn ⟨o,ho,hcl⟩ e (fun z=>nomatch z) h
 | ref k =>
  unfold a_ at hk
  simp only at hk
  split at hk
  ·cases hk
   rename_i q
   obtain⟨a,ys,rfl,_,h1,h2⟩:=rh.lst q hx
   exact cU I ru (.lst h1) e h
  ·cases hk
   rename_i kvs q
   rw[dM] at hx
   obtain⟨a,e1,rfl⟩:=hx
   obtain⟨ys,h1,_⟩:=rh.at_ k _ a q e1
   exact cU I ru (.dK h1) e h
  ·cases hk
   rename_i kvs q
   rw[dM] at hx
   obtain⟨a,e1,rfl⟩:=hx
   obtain⟨o,ys,h1,_⟩:=rh.at_ k _ a q e1
   cases ru
   obtain⟨ho,_,_,vs,_,o',_,_,ho',hcl,_⟩:=I.hok a _ h1
   exact FY ID I.kIn ⟨o',ho',hcl.1⟩ e (fun z=>nomatch z) h
  ·cases hk
noncomputable def ph:M→String
 | .append=>"list.append"
 | .pop0=>"list.pop"
 | .extend=>"list.extend"
 | .insert=>"list.insert"
 | .count=>"list.count"
 | .index=>"list.index"
noncomputable def ol (b:Bool):Value→Bool
 | .bool c=>c == b
 | _=>false
theorem kU:∀ {us:List Value}{bs:List Bool},LSm.BoolsAre us bs→us.length=bs.length
 | _,_,.nil=>rfl
 | _,_,.cons c r=>by rw[FL,FL,kU r]
theorem mU:∀ {us:List Value}{bs:List Bool},LSm.BoolsAre us bs→∀i (h1:i<us.length) (h2:i<bs.length),us[i]=.bool bs[i]
 | _,_,.nil,i,h1,_=>absurd h1 (GW _)
 | _,_,.cons c r,0,_,_=>rfl
 | _,_,.cons c r,i+1,h1,h2=>mU r i (by simpa using h1) (by simpa using h2)
theorem jS {A:Around}{s:Shared}{b:Bool}:∀ {us:List Value}{bs:List Bool},LSm.BoolsAre us bs→∀y∈us,SeqAt.EqAt A s y (.bool b) (ol b y)
 | _,_,.nil,y,h=>nomatch h
 | _,_,.cons c r,y,h=>by
  rcases E3.mp h with rfl|h
  ·exact SeqAt.EqAt.bool_bool c b
  ·exact jS r y h
noncomputable def Bq (K:W.Frag)(w:PV→List PV→AH→EK→Prop):V→List V→Hp→VK→Prop:=fun x' xs' H Q=>∃m st x xs,RH K m H st∧R K m H x x'∧Rs K m H xs xs'∧w x xs st (post K m H Q)
theorem xR (c:M):MtR X (ph c) (Bq X.K (lO c)):=by
 intro pins s σ H x' vs' v us Q I rx rv h
 obtain⟨m,st,x,vs,rh,hx,hv,w⟩:=h
 cases c with
 | append =>
  obtain⟨n0,rfl,w⟩:=fw w
  obtain⟨x0,rfl,w⟩:=ay w
  obtain⟨xs,h1,h2,w⟩:=w
  obtain⟨a,ys,rfl,e,g,r⟩:=rh.lst h1 hx
  obtain⟨y,rfl,hy⟩:=hv.one'
  exact kF pins s σ H _ _ v us Q I rx rv ⟨a,ys,y,rfl,rfl,g,by rw[←r.len];exact eX h2,w.setL rh e (nfL g) (r.app (.one hy)) (R_non.mpr rfl)⟩
 | pop0 =>
  obtain⟨n0,rfl,w⟩:=fw w
  obtain⟨rfl,w⟩:=lm w
  obtain⟨xs,z,h1,h2,w⟩:=w
  obtain⟨a,ys,rfl,e,g,r⟩:=rh.lst h1 hx
  rw[Rs_nil] at hv;subst hv
  obtain⟨y,e2,ry⟩:=r.get h2
  rw[r.len] at e2
  exact yU pins s σ H _ _ v us Q I rx rv ⟨a,ys,y,rfl,rfl,g,e2,w.setL rh e (nfL g) r.dropLast ry⟩
 | index =>
  obtain⟨n0,rfl,w⟩:=fw w
  obtain⟨x0,rfl,w⟩:=ay w
  obtain⟨b0,rfl,w⟩:=pF w
  obtain⟨xs,bs,h1,h2,h3,j,h4,h5,w⟩:=w
  obtain⟨a,ys,rfl,e,g,r⟩:=rh.lst h1 hx
  obtain⟨y,rfl,hy⟩:=hv.one'
  rw[R_bl] at hy
  subst hy
  cases rx
  obtain⟨u,rfl,ru⟩:=bQ rv
  cases ru
  obtain⟨_,its,n,r',_,e'⟩:=I.lstM g
  have ba:=gR h2 r r'
  have jl:=(D3.mp h4).1
  have at_:=mU ba
  have il:its.length=bs.length:=kU ba
  refine call_meets PySem.F.slot_list_index ⟨_,e',rfl⟩ PySem.F.entry_list_index (PySem.F.args_list_index_2 _ _) (SeqAt.list_indexAt a its.toArray n none #[] (.bool b0) (ol b0) j (by simp;omega) (by omega) ?_ ?_) ⟨e',fun z hz=>jS ba z (by simpa using hz),?_⟩
  ·have:=at_ j (by omega) jl
   simp only[List.getElem_toArray]
   rw[this,(D3.mp h4).2]
   simp[ol]
  ·intro i hi hij
   have il2:i<its.length:=by simpa using hi
   have:=at_ i il2 (by omega)
   simp only[List.getElem_toArray]
   rw[this,(D3.mp (h5 i hij)).2]
   cases b0 <;> rfl
  ·exact⟨.int _,H,I.tok _,⟨_,rfl⟩,w.here rh (R_int.mpr rfl)⟩
 | count=>exact False.elim w
 | extend=>exact False.elim w
 | insert=>exact False.elim w
noncomputable def DD (K:W.Frag):V→V→V→Hp→(Hp→Prop)→Prop:=fun o' i' v' H Q=>∃m st o i v,RH K m H st∧R K m H o o'∧R K m H i i'∧R K m H v v'∧lu o i v st fun st'=>∀H',Ext K m H m H'→RH K m H' st'→Q H'
theorem yA (hu:X.A.units+64<cLine):zc X (DD X.K):=by
 intro pins s σ H o' i' v' ov iv u Q I ro ri rv h
 obtain⟨m,st,o,i,v,rh,ho,hi,hv,w⟩:=h
 unfold lu at w
 split at w
 ·obtain⟨xs,h1,q,h2,w⟩:=w
  obtain⟨a,ys,rfl,e,g,r⟩:=rh.lst h1 ho
  rw[R_int] at hi;subst hi
  exact uc pins s σ H _ _ _ ov iv u Q I ro ri rv ⟨a,ys,_,q,rfl,rfl,g,by rw[←r.len];exact h2,w _ (Ext.set (ys:=ys) rh e (nfL g)) (rh.setL e (nfL g) (r.set hv q))⟩
 ·obtain⟨kvs,h1,h2,w⟩:=w
  obtain⟨a,ys,rfl,e,g,r1,r2⟩:=rh.dkat h1 ho
  rw[R_str] at hi;subst hi
  cases ro
  obtain⟨q1,q2⟩:=wE (k:=.inr _) hv r1 r2
  refine qm (E6 (by omega) hu) I (DPut.k (k:=.inr _) g ?_) ri rv fun s' I'=>⟨_,I',w _ (Ext.set (ys:=[]) rh e (nfD g)) (rh.setD e (nfD g) q1 q2)⟩
  have:ys.length=kvs.length:=by have:=ES List.length r1;simpa using this
  rw[this]
  exact pP h2
 ·exact w.elim
noncomputable def DK (K:W.Frag):V→Hp→(Bool→Hp→Prop)→Prop:=fun x' H Q=>∃m st x,RH K m H st∧R K m H x x'∧dy x st (postB K m H Q)
theorem ni:∀ {x':V}{H:Hp}{Q:Bool→Hp→Prop},DK X.K x' H Q→∃k,yg X.K x' H k∧Q k H:=by
 intro x' H Q h
 obtain⟨m,st,x,rh,hx,w⟩:=h
 unfold dy at w
 split at w
 ·rw[R_bl] at hx;subst hx;exact⟨_,rfl,w m H (Ext.refl _ _ _) rh⟩
 ·rw[R_non] at hx;subst hx;exact⟨_,rfl,w m H (Ext.refl _ _ _) rh⟩
 ·rw[R_int] at hx;subst hx;exact⟨_,rfl,w m H (Ext.refl _ _ _) rh⟩
 ·exact w.elim
 ·obtain⟨xs,h1,w⟩:=w
  obtain⟨a,ys,rfl,g,r⟩:=gL rh hx h1
  have e:(!xs.isEmpty)=!ys.isEmpty:=by
   have:=r.len
   cases xs <;> cases ys <;> first|rfl|(simp at this)
  refine⟨_,?_,w m H (Ext.refl _ _ _) rh⟩
  rw[e]
  rcases g with g|g
  ·exact .inl ⟨ys,g,rfl⟩
  ·exact .inr (.inl ⟨ys,g,rfl⟩)
theorem yw (op:Operator):PIp X op (rN X.K (j5 op)):=by
 intro pins s σ H x' y' v u Q I rx ry h
 obtain⟨m,st,x,y,rh,hx,hy,w⟩:=h
 unfold j5 at w
 split at w
 ·rw[R_int] at hx hy;subst hx hy
  exact yM pins s σ H _ _ v u Q I rx ry ⟨_,_,rfl,rfl,w.here rh (R_int.mpr rfl)⟩
 ·rw[R_int] at hx hy;subst hx hy
  exact xJ pins s σ H _ _ v u Q I rx ry ⟨_,_,rfl,rfl,w.here rh (R_int.mpr rfl)⟩
 ·obtain⟨xs,zs,h1,h2,h3,w⟩:=w
  obtain⟨a,ys,rfl,e,g,r⟩:=rh.lst h1 hx
  obtain⟨b,ys2,rfl,e2,g2,r2⟩:=rh.lst h2 hy
  exact wH pins s σ H _ _ v u Q I rx ry ⟨a,b,ys,ys2,rfl,rfl,g,g2,by rw[←r.len,←r2.len];exact db h3,w.setL rh e (nfL g) (r.app r2) hx⟩
 ·exact w.elim
end
end FW
namespace FW
open L2 HX
mutual
noncomputable def PV.same:PV→PV→Bool
 | .non,y=>match y with | .non=>true|_=>false
 | .bl a,y=>match y with | .bl b=>a == b|_=>false
 | .int a,y=>match y with | .int b=>a == b|_=>false
 | .str a,y=>match y with | .str b=>a == b|_=>false
 | .tup xs,y=>match y with | .tup ys=>PV.sames xs ys|_=>false
 | .ref a,y=>match y with | .ref b=>a == b|_=>false
 | .rdl xs,y=>match y with | .rdl ys=>PV.sames xs ys|_=>false
 | .fn a,y=>match y with | .fn b=>a == b|_=>false
noncomputable def PV.sames:List PV→List PV→Bool
 | [],y=>y.isEmpty
 | x::xs,y=>match y with|y::ys=>x.same y && PV.sames xs ys | []=>false
end
mutual
theorem PV.same_eq:∀ {x y:PV},x.same y=true→x=y
 | .non,y,h=>by cases y with|non=>rfl|_=>exact Bool.noConfusion (show false=true from h)
 | .bl a,y,h=>by cases y with|bl b=>rw[eq_of_beq (show (a == b)=true from h)] | _=>exact Bool.noConfusion (show false=true from h)
 | .int a,y,h=>by cases y with|int b=>rw[eq_of_beq (show (a == b)=true from h)] | _=>exact Bool.noConfusion (show false=true from h)
 | .str a,y,h=>by cases y with|str b=>rw[eq_of_beq (show (a == b)=true from h)] | _=>exact Bool.noConfusion (show false=true from h)
 | .ref a,y,h=>by cases y with|ref b=>rw[eq_of_beq (show (a == b)=true from h)] | _=>exact Bool.noConfusion (show false=true from h)
 | .tup xs,y,h=>by cases y with|tup ys=>rw[PV.sames_eq (show PV.sames xs ys=true from h)] | _=>exact Bool.noConfusion (show false=true from h)
 | .rdl xs,y,h=>by cases y with|rdl ys=>rw[PV.sames_eq (show PV.sames xs ys=true from h)] | _=>exact Bool.noConfusion (show false=true from h)
 | .fn a,y,h=>by cases y with|fn b=>rw[eq_of_beq (show (a == b)=true from h)] | _=>exact Bool.noConfusion (show false=true from h)
theorem PV.sames_eq:∀ {x y:List PV},PV.sames x y=true→x=y
 | [],y,h=>by cases y with|nil=>rfl|cons a b=>exact Bool.noConfusion (show false=true from h)
 | x::xs,y,h=>by
  cases y with
  | nil=>exact Bool.noConfusion (show false=true from h)
  | cons y ys =>
   have h:=(D6 _ _).mp (show (x.same y && PV.sames xs ys)=true from h)
   rw[PV.same_eq h.1,PV.sames_eq h.2]
end
structure Cfg where
 N:List Str
 names:List (Str × NameKind)
 fns:List Str
 lim:Nat
 blts:List Str
 gl:List (Str × PV)
 pc:Bool:=false
 hm:Option Nat:=none
noncomputable def Cfg.vis (c:Cfg)(x:Str):Bool:=(c.names.lookup x == some .local || c.names.lookup x == some .cell || c.names.lookup x == some .free) && !(x == ("__debug__":Str)) && !(x == ("__classdict__":Str))
noncomputable def Cfg.loc (c:Cfg)(x:Str):Bool:=c.names.lookup x == some .local || c.names.lookup x == some .cell
noncomputable def Cfg.glb (c:Cfg)(x:Str):Bool:=c.names.lookup x == some .globalImplicit && !(x == ("__debug__":Str)) && !(x == ("__name__":Str))
noncomputable def Cfg.blt (c:Cfg)(x:Str):Bool:=c.glb x && c.blts.contains x
noncomputable def Cfg.fn (c:Cfg)(f:Nat)(x:Str):Bool:=c.fns[f]? == some x && decide (f<c.lim) && c.glb x
noncomputable def i9:B→Str
 | .len=>"len"
 | .max2=>"max"
 | .min2=>"min"
 | .divmod=>"divmod"
 | .int1=>"int"
 | .str1=>"str"
 | .tuple1=>"tuple"
 | .list1=>"list"
 | .all1=>"all"
 | .any1=>"any"
 | .abs1=>"abs"
 | .sorted1=>"sorted"
 | .repr1=>"repr"
 | .sortS=>"sorted"
 | .max1=>"max"
 | .sortD=>"sorted"
noncomputable def mw:M→Str
 | .append=>"append"
 | .pop0=>"pop"
 | .extend=>"extend"
 | .insert=>"insert"
 | .count=>"count"
 | .index=>"index"
noncomputable def kinds:List String:=["int","bool","str","tuple","list","dict"]
noncomputable def ip:Expr→Bool
 | .ListComp ..=>false
 | .SetComp ..=>false
 | .DictComp ..=>false
 | _=>true
noncomputable def og:Expr→Bool
 | .Name ..=>true
 | .Call ..=>true
 | .Subscript ..=>true
 | _=>false
mutual
noncomputable def Tg.low (n:Nat):Tg→Bool
 | .name i=>decide (i<n)
 | .tup ts=>Tgs.low n ts
 | .ltup ts=>Tgs.low n ts
 | .sub _ _=>false
noncomputable def Tgs.low (n:Nat):Tgs→Bool
 | .nil=>true
 | .cons t ts=>Tg.low n t && Tgs.low n ts
end
noncomputable def dL:Expr→Bool
 | .Set ..=>false
 | _=>true
noncomputable def Cfg.inner (c:Cfg)(nt:List Str)(caps:List Nat)(sc:Scope):Cfg:={ c with N:=nt++caps.filterMap (c.N[·]?),names:=sc.names,pc:=false,hm:=none }
noncomputable def qk (k:Option NameKind):Bool:=k == some .cell || k == some .free
noncomputable def Cfg.block (c:Cfg)(nt:List Str)(caps:List Nat)(sc:Scope):Bool :=
 sc.kind == .function && sc.names.all (fun y=>!(y.2 == .cell)) && sc.names.all (fun y=>!(y.2 == .local) || sc.names.lookup y.1 == some .local) && sc.names.all (fun y=>!(y.2 == .free) || qk (c.names.lookup y.1))
  && caps.all (fun i=>decide (i<c.N.length)) && (caps.filterMap (c.N[·]?)).all (fun x=>sc.names.lookup x == some .free && qk (c.names.lookup x)) && decide (nt++caps.filterMap (c.N[·]?)).Nodup
noncomputable def rG:It→Expr→Bool
 | .zip _ _,.Tuple ..=>true
 | .zip _ _,_=>false
 | .zip3 _ _ _,.Tuple ..=>true
 | .zip3 _ _ _,_=>false
 | .enum _,.Tuple ..=>true
 | .enum _,_=>false
 | .seq _,_ | .range1 _,_ | .range2 _ _,_ | .chars _,_ | .range3 _ _ _,_=>true
noncomputable def bR:Expr→Bool
 | .Name ..=>true
 | .List ..=>true
 | .Subscript ..=>true
 | .ListComp ..=>true
 | _=>false
noncomputable def oh:Expr→Bool
 | .Constant (.str _) ..=>true
 | _=>false
noncomputable def tB:SM→Str
 | .index=>"index"
 | .count=>"count"
 | .join=>"join"
noncomputable def al (x:Expr)(f:Str→Pos→Bool):Bool:=match x with | .Name y p=>f y p|_=>false
theorem af {x:Expr}{f:Str→Pos→Bool}(h:al x f=true):∃y p,x=.Name y p∧f y p=true:=by
 cases x with|Name y p=>exact⟨y,p,rfl,h⟩|_=>exact Bool.noConfusion h
noncomputable def pE (x:Expr)(f:Int→Bool):Bool:=match x with | .Constant (.int j) _ _=>f j|_=>false
theorem qc {x:Expr}{f:Int→Bool}(h:pE x f=true):∃j k p,x=.Constant (.int j) k p∧f j=true:=by
 cases x with
 | Constant v k p=>cases v with|int j=>exact⟨j,k,p,rfl,h⟩|_=>exact Bool.noConfusion h
 | _=>exact Bool.noConfusion h
noncomputable def yz (x:Expr)(f:Bool→Bool):Bool:=match x with | .Constant (.bool j) _ _=>f j|_=>false
theorem nF {x:Expr}{f:Bool→Bool}(h:yz x f=true):∃j k p,x=.Constant (.bool j) k p∧f j=true:=by
 cases x with
 | Constant v k p=>cases v with|bool j=>exact⟨j,k,p,rfl,h⟩|_=>exact Bool.noConfusion h
 | _=>exact Bool.noConfusion h
noncomputable def jA (x:Expr)(f:Str→Bool):Bool:=match x with | .Constant (.str j) _ _=>f j|_=>false
theorem fo {x:Expr}{f:Str→Bool}(h:jA x f=true):∃j k p,x=.Constant (.str j) k p∧f j=true:=by
 cases x with
 | Constant v k p=>cases v with|str j=>exact⟨j,k,p,rfl,h⟩|_=>exact Bool.noConfusion h
 | _=>exact Bool.noConfusion h
noncomputable def wb (x:Expr):Bool:=match x with | .Constant .none _ _=>true|_=>false
theorem qZ {x:Expr}(h:wb x=true):∃k p,x=.Constant .none k p:=by
 cases x with
 | Constant v k p=>cases v with|none=>exact⟨k,p,rfl⟩|_=>exact Bool.noConfusion h
 | _=>exact Bool.noConfusion h
noncomputable def bW (x:Expr)(f:List Expr→Bool):Bool:=match x with | .Tuple xs _ _=>f xs|_=>false
theorem aI {x:Expr}{f:List Expr→Bool}(h:bW x f=true):∃xs k p,x=.Tuple xs k p∧f xs=true:=by
 cases x with|Tuple xs k p=>exact⟨xs,k,p,rfl,h⟩|_=>exact Bool.noConfusion h
noncomputable def tH (x:Expr)(f:List Expr→Bool):Bool:=match x with | .List xs _=>f xs|_=>false
theorem ot {x:Expr}{f:List Expr→Bool}(h:tH x f=true):∃xs p,x=.List xs p∧f xs=true:=by
 cases x with|List xs p=>exact⟨xs,p,rfl,h⟩|_=>exact Bool.noConfusion h
noncomputable def on1 {α:Type}(xs:List α)(f:α→Bool):Bool:=match xs with | [a]=>f a|_=>false
theorem bU {α:Type}{xs:List α}{f:α→Bool}(h:on1 xs f=true):∃a,xs=[a]∧f a=true:=by
 cases xs with
 | nil=>exact Bool.noConfusion h
 | cons a t=>cases t with|nil=>exact⟨a,rfl,h⟩|cons _ _=>exact Bool.noConfusion h
noncomputable def on2 {α:Type}(xs:List α)(f:α→α→Bool):Bool:=match xs with | [a,b]=>f a b|_=>false
theorem fu {α:Type}{xs:List α}{f:α→α→Bool}(h:on2 xs f=true):∃a b,xs=[a,b]∧f a b=true:=by
 cases xs with
 | nil=>exact Bool.noConfusion h
 | cons a t=>cases t with
  | nil=>exact Bool.noConfusion h
  | cons b t=>cases t with|nil=>exact⟨a,b,rfl,h⟩|cons _ _=>exact Bool.noConfusion h
noncomputable def on3 {α:Type}(xs:List α)(f:α→α→α→Bool):Bool:=match xs with | [a,b,c]=>f a b c|_=>false
theorem vd {α:Type}{xs:List α}{f:α→α→α→Bool}(h:on3 xs f=true):∃a b c,xs=[a,b,c]∧f a b c=true:=by
 cases xs with
 | nil=>exact Bool.noConfusion h
 | cons a t=>cases t with
  | nil=>exact Bool.noConfusion h
  | cons b t=>cases t with
   | nil=>exact Bool.noConfusion h
   | cons c t=>cases t with|nil=>exact⟨a,b,c,rfl,h⟩|cons _ _=>exact Bool.noConfusion h
noncomputable def cr {α:Type}(xs:List α)(f:α→List α→Bool):Bool:=match xs with|a::t=>f a t | []=>false
theorem ai {α:Type}{xs:List α}{f:α→List α→Bool}(h:cr xs f=true):∃a t,xs=a::t∧f a t=true:=by
 cases xs with
 | nil=>exact Bool.noConfusion h
 | cons a t=>exact⟨a,t,rfl,h⟩
noncomputable def fU {α:Type}(x:Option α)(f:α→Bool):Bool:=match x with|some a=>f a|none=>false
theorem dS {α:Type}{x:Option α}{f:α→Bool}(h:fU x f=true):∃a,x=some a∧f a=true:=by
 cases x with
 | none=>exact Bool.noConfusion h
 | some a=>exact⟨a,rfl,h⟩
noncomputable def mr (x:Expr)(f:List (Option Expr)→List Expr→Bool):Bool:=match x with | .Dict ks vs _=>f ks vs|_=>false
theorem jW {x:Expr}{f:List (Option Expr)→List Expr→Bool}(h:mr x f=true):∃ks vs p,x=.Dict ks vs p∧f ks vs=true:=by
 cases x with|Dict ks vs p=>exact⟨ks,vs,p,rfl,h⟩|_=>exact Bool.noConfusion h
noncomputable def wd (x:Expr)(f:Expr→Operator→Expr→Bool):Bool:=match x with | .BinOp l o r _=>f l o r|_=>false
theorem qf {x:Expr}{f:Expr→Operator→Expr→Bool}(h:wd x f=true):∃l o r p,x=.BinOp l o r p∧f l o r=true:=by
 cases x with|BinOp l o r p=>exact⟨l,o,r,p,rfl,h⟩|_=>exact Bool.noConfusion h
noncomputable def t4 (x:Expr)(f:Expr→Bool):Bool:=match x with | .UnaryOp .USub y _=>f y|_=>false
theorem qH {x:Expr}{f:Expr→Bool}(h:t4 x f=true):∃y p,x=.UnaryOp .USub y p∧f y=true:=by
 cases x with
 | UnaryOp o y p=>cases o with|USub=>exact⟨y,p,rfl,h⟩|_=>exact Bool.noConfusion h
 | _=>exact Bool.noConfusion h
noncomputable def tG (x:Expr)(f:Expr→Bool):Bool:=match x with | .UnaryOp .Not y _=>f y|_=>false
theorem lc {x:Expr}{f:Expr→Bool}(h:tG x f=true):∃y p,x=.UnaryOp .Not y p∧f y=true:=by
 cases x with
 | UnaryOp o y p=>cases o with|Not=>exact⟨y,p,rfl,h⟩|_=>exact Bool.noConfusion h
 | _=>exact Bool.noConfusion h
noncomputable def mJ (x:Expr)(f:Expr→CmpOp→Expr→Bool):Bool:=match x with | .Compare l os rs _=>on1 os fun o=>on1 rs fun r=>f l o r|_=>false
theorem fc {x:Expr}{f:Expr→CmpOp→Expr→Bool}(h:mJ x f=true):∃l o r p,x=.Compare l [o] [r] p∧f l o r=true:=by
 cases x with
 | Compare l os rs p =>
  obtain⟨o,rfl,h⟩:=bU h
  obtain⟨r,rfl,h⟩:=bU h
  exact⟨l,o,r,p,rfl,h⟩
 | _=>exact Bool.noConfusion h
noncomputable def rS (x:Expr)(f:PySem.BoolOp→List Expr→Bool):Bool:=match x with | .BoolOp o xs _=>f o xs|_=>false
theorem fg {x:Expr}{f:PySem.BoolOp→List Expr→Bool}(h:rS x f=true):∃o xs p,x=.BoolOp o xs p∧f o xs=true:=by
 cases x with|BoolOp o xs p=>exact⟨o,xs,p,rfl,h⟩|_=>exact Bool.noConfusion h
noncomputable def wv (x:Expr)(f:Expr→Expr→Expr→Bool):Bool:=match x with | .IfExp y l r _=>f y l r|_=>false
theorem pR {x:Expr}{f:Expr→Expr→Expr→Bool}(h:wv x f=true):∃y l r p,x=.IfExp y l r p∧f y l r=true:=by
 cases x with|IfExp y l r p=>exact⟨y,l,r,p,rfl,h⟩|_=>exact Bool.noConfusion h
noncomputable def ld (x:Expr)(f:Expr→Expr→Bool):Bool:=match x with | .Subscript l r _=>f l r|_=>false
theorem dE {x:Expr}{f:Expr→Expr→Bool}(h:ld x f=true):∃l r p,x=.Subscript l r p∧f l r=true:=by
 cases x with|Subscript l r p=>exact⟨l,r,p,rfl,h⟩|_=>exact Bool.noConfusion h
noncomputable def pb (x:Expr)(f:Option Expr→Option Expr→Bool):Bool:=match x with | .Slice u v none _=>f u v|_=>false
theorem nJ {x:Expr}{f:Option Expr→Option Expr→Bool}(h:pb x f=true):∃u v p,x=.Slice u v none p∧f u v=true:=by
 cases x with
 | Slice u v w p=>cases w with|none=>exact⟨u,v,p,rfl,h⟩|some _=>exact Bool.noConfusion h
 | _=>exact Bool.noConfusion h
noncomputable def xQ (x:Expr)(f:Expr→Bool):Bool:=match x with | .Slice none none (some z) _=>f z|_=>false
noncomputable def aJ (x:Expr)(f:Expr→List Expr→Pos→Bool):Bool:=match x with | .Call g xs [] p=>f g xs p|_=>false
theorem aG {x:Expr}{f:Expr→List Expr→Pos→Bool}(h:aJ x f=true):∃g xs p,x=.Call g xs [] p∧f g xs p=true:=by
 cases x with
 | Call g xs ks p=>cases ks with|nil=>exact⟨g,xs,p,rfl,h⟩|cons _ _=>exact Bool.noConfusion h
 | _=>exact Bool.noConfusion h
noncomputable def eO (x:Expr)(f:Expr→Str→Pos→Bool):Bool:=match x with | .Attribute y n p=>f y n p|_=>false
theorem cX {x:Expr}{f:Expr→Str→Pos→Bool}(h:eO x f=true):∃y n p,x=.Attribute y n p∧f y n p=true:=by
 cases x with|Attribute y n p=>exact⟨y,n,p,rfl,h⟩|_=>exact Bool.noConfusion h
noncomputable def rP (x:Expr)(f:Expr→List Comprehension→Scope→Pos→Bool):Bool:=match x with | .ListComp e gs sc p=>f e gs sc p|_=>false
theorem gG {x:Expr}{f:Expr→List Comprehension→Scope→Pos→Bool}(h:rP x f=true):∃e gs sc p,x=.ListComp e gs sc p∧f e gs sc p=true:=by
 cases x with|ListComp e gs sc p=>exact⟨e,gs,sc,p,rfl,h⟩|_=>exact Bool.noConfusion h
noncomputable def y_ (x:Expr)(f:Expr→Expr→List Comprehension→Scope→Pos→Bool):Bool:=match x with | .DictComp k v gs sc p=>f k v gs sc p|_=>false
theorem sG {x:Expr}{f:Expr→Expr→List Comprehension→Scope→Pos→Bool}(h:y_ x f=true):∃k v gs sc p,x=.DictComp k v gs sc p∧f k v gs sc p=true:=by
 cases x with|DictComp k v gs sc p=>exact⟨k,v,gs,sc,p,rfl,h⟩|_=>exact Bool.noConfusion h
noncomputable def nA (wk:DW)(x:Expr)(f:Expr→Bool):Bool:=match wk with
 | .keys=>dL x && f x
 | .items=>aJ x fun g xs cp=>eO g fun y n ap=>n == ("items":Str) && ap.endLine == cp.line && xs.isEmpty && bR y && f y
theorem qv {x:Expr}{f:Expr→Bool}(h:nA .keys x f=true):dL x=true∧f x=true:=by
 unfold nA at h
 rw[D6] at h
 exact h
theorem nW {x:Expr}{f:Expr→Bool}(h:nA .items x f=true):∃y ap cp,x=.Call (.Attribute y "items" ap) [] [] cp∧(ap.endLine == cp.line)=true∧bR y=true∧f y=true:=by
 unfold nA at h
 replace h:=aG h
 obtain⟨g,xs,cp,rfl,h⟩:=h
 replace h:=cX h
 obtain⟨y,n,ap,rfl,h⟩:=h
 simp only[Bool.and_eq_true,beq_iff_eq] at h
 obtain⟨⟨⟨⟨h1,h2⟩,h3⟩,h4⟩,h5⟩:=h
 subst h1
 cases xs with
 | nil=>exact⟨y,ap,cp,rfl,by rw[h2];simp,h4,h5⟩
 | cons _ _=>cases h3
noncomputable def vT:DW→Expr→Bool
 | .items,.Tuple ..=>true
 | .items,_=>false
 | .keys,_=>true
theorem w9 {α β:Type}{xs:List α}{ys:List β}(h:(xs.isEmpty && ys.isEmpty)=true):xs=[]∧ys=[]:=by
 cases xs with
 | nil=>cases ys with|nil=>exact⟨rfl,rfl⟩|cons _ _=>exact Bool.noConfusion h
 | cons _ _=>exact Bool.noConfusion h
theorem qI {α:Type}{x:Option α}(h:x.isNone=true):x=none:=by
 cases x with|none=>rfl|some _=>exact Bool.noConfusion h
noncomputable def BX (x:Expr)(f:Arguments→Expr→Scope→Bool):Bool:=match x with | .Lambda a b sc _=>f a b sc|_=>false
noncomputable def Bf (x:Arguments)(f:Str→Bool):Bool:=x.posonlyargs.isEmpty && x.vararg.isNone && x.kwonlyargs.isEmpty && x.kw_defaults.isEmpty && x.kwarg.isNone && x.defaults.isEmpty && on1 x.args fun a=>f a.arg
noncomputable def Cfg.lam (c:Cfg)(k:Nat)(y:Str)(caps:List Nat)(sc:Scope):Cfg:={ c with N:=y::caps.filterMap (c.N[·]?),names:=sc.names,lim:=k,pc:=false,hm:=none }
noncomputable def Cfg.lamOk (c:Cfg)(k:Nat)(y:Str)(caps:List Nat)(sc:Scope):Bool :=
 sc.kind == .function && !sc.isCoroutine && !sc.isGenerator && sc.names.all (fun y=>!(y.2 == .cell)) && sc.names.lookup y == some .local && sc.names.all (fun y=>!(y.2 == .local) || sc.names.lookup y.1 == some .local) && sc.names.all (fun y=>!(y.2 == .free) || qk (c.names.lookup y.1))
  && decide (k+1<c.lim) && caps.all (fun i=>decide (i<c.N.length)) && (caps.filterMap (c.N[·]?)).all (fun x=>sc.names.lookup x == some .free && qk (c.names.lookup x)) && decide (y::caps.filterMap (c.N[·]?)).Nodup
mutual
noncomputable def aq (c:Cfg):E→Expr→Bool
 | .var i,x=>al x fun y _=>c.N[i]? == some y && c.vis y
 | .int i,x=>pE x fun j=>i == j
 | .bl i,x=>yz x fun j=>i == j
 | .non,x=>wb x
 | .str i,x=>jA x fun j=>i == j
 | .gv y v,x=>al x fun z _=>z == y && c.glb y && fU (c.gl.lookup y) fun w=>w.same v
 | .tup es,x=>bW x fun xs=>cD c es xs
 | .lst es,x=>tH x fun xs=>cD c es xs
 | .dct1 k i,x=>mr x fun ks vs=>on1 ks fun ok=>fU ok fun kx=>jA kx fun k'=>on1 vs fun vx=>pE vx fun i'=>k == k' && i == i'
 | .dct0,x=>mr x fun ks vs=>ks.isEmpty && vs.isEmpty
 | .bin op a b,x=>wd x fun l o r=>o == op && aq c a l && aq c b r
 | .neg a,x=>t4 x fun y=>aq c a y
 | .not a,x=>tG x fun y=>aq c a y
 | .cmp op a b,x=>mJ x fun l o r=>o == op && !behindInMarks o r && aq c a l && aq c b r
 | .bop k es,x=>rS x fun o xs=>(o == if k then .And else .Or) && cD c es xs && !xs.isEmpty
 | .ite t a b,x=>wv x fun y l r=>oO c t y && aq c a l && aq c b r
 | .ix a b,x=>ld x fun l r=>gN r && aq c a l && aq c b r
 | .sl a lo hi,x=>ld x fun l r=>pb r fun u v=>aq c a l && w5 c lo u && w5 c hi v
 | .call f es,x=>aJ x fun g xs _=>al g fun y _=>c.fn f y && xs.all ag && cD c es xs
 | .blt b es,x=>aJ x fun g xs _=>al g fun y _=>y == i9 b && c.blt y && xs.all ag && !xs.isEmpty && cD c es xs
 | .inst a t,x=>aJ x fun g xs _=>al g fun y _=>on2 xs fun l r=>al r fun z _=>y == ("isinstance":Str) && c.blt y && ag l && z == (t:Str) && c.blt z && kinds.contains t && aq c a l
 | .met m o es,x=>aJ x fun g xs cp=>eO g fun y n ap=>n == mw m && ap.endLine == cp.line && xs.all ag && decide (xs.length≤2) && bR y && aq c o y && cD c es xs
 | .comp elt tg it ifs nt caps,x=>rP x fun ex gs sc _=>on1 gs fun g=>g.is_async == 0 && rG it g.target && dL g.iter && tg.low nt.length && c.block nt caps sc && rE c it g.iter && fJ (c.inner nt caps sc) tg g.target && iq (c.inner nt caps sc) ifs g.ifs && aq (c.inner nt caps sc) elt ex
 | .tmp a,x=>aq c a x
 | .compK elt tg wk e ifs nt caps,x=>rP x fun ex gs sc _=>on1 gs fun g=>g.is_async == 0 && vT wk g.target && dL g.iter && tg.low nt.length && c.block nt caps sc && nA wk g.iter (fun y=>aq c e y) && fJ (c.inner nt caps sc) tg g.target && iq (c.inner nt caps sc) ifs g.ifs && aq (c.inner nt caps sc) elt ex
 | .compD kx vx tg wk e ifs nt caps,x=>y_ x fun ek ev gs sc _=>on1 gs fun g=>g.is_async == 0 && vT wk g.target && dL g.iter && tg.low nt.length && c.block nt caps sc && nA wk g.iter (fun y=>aq c e y) && fJ (c.inner nt caps sc) tg g.target && iq (c.inner nt caps sc) ifs g.ifs && aq (c.inner nt caps sc) kx ek && aq (c.inner nt caps sc) vx ev
 | .dct2 k v,x=>mr x fun ks vs=>on1 ks fun ok=>fU ok fun kx=>on1 vs fun vx=>aq c k kx && aq c v vx
 | .dcl a,x=>aJ x fun g xs _=>al g fun y _=>on1 xs fun u=>y == ("dict":Str) && c.blt y && ag u && aq c a u
 | .eqd ne a b,x=>mJ x fun l o r=>(o == if ne then .NotEq else .Eq) && !behindInMarks o r && aq c a l && aq c b r
 | .bad,_=>true
 | .dget a b,x=>aJ x fun g xs cp=>eO g fun y n ap=>on1 xs fun u=>n == ("get":Str) && ap.endLine == cp.line && ag u && bR y && aq c a y && aq c b u
 | .dcp a,x=>aJ x fun g xs _=>al g fun y _=>on1 xs fun u=>y == ("dict":Str) && c.blt y && ag u && aq c a u
 | .clr a,x=>aJ x fun g xs cp=>eO g fun y n ap=>n == ("clear":Str) && ap.endLine == cp.line && xs.isEmpty && bR y && aq c a y
 | .sset a,x=>aJ x fun g xs _=>al g fun y _=>on1 xs fun l=>aJ l fun g2 ys _=>al g2 fun z _=>on1 ys fun u=>y == ("sorted":Str) && c.blt y && z == ("set":Str) && c.blt z && ag l && ag u && aq c a u
 | .jrev a,x=>aJ x fun g xs cp=>eO g fun y n ap=>jA y fun j=>on1 xs fun l=>ld l fun u r=>xQ r fun z=>t4 z fun z1=>pE z1 fun i=>n == ("join":Str) && ap.endLine == cp.line && j == ("":Str) && i == 1 && aq c a u
 | .smx k a b,x=>aJ x fun g xs cp=>eO g fun y n ap=>on1 xs fun l=>n == tB k && ap.endLine == cp.line && (bR y || oh y) && ag l && aq c a y && aq c b l
 | .part a s,x=>aJ x fun g xs cp=>eO g fun y n ap=>on1 xs fun l=>jA l fun j=>n == ("partition":Str) && ap.endLine == cp.line && j == s && !(s.length == 0) && bR y && aq c a y
 | .pcall i e,x=>c.pc && aJ x fun g xs _=>al g fun y _=>on1 xs fun l=>c.N[i]? == some y && c.vis y && ag l && aq c e l
 | .hm e be caps,x=>fU c.hm fun k=>aJ x fun g xs _=>al g fun y _=>on2 xs fun l r=>BX r fun as b sc=>Bf as fun z=>y == ("how_many":Str) && c.glb y && ag l && c.lamOk k z caps sc && aq c e l && aq (c.lam k z caps sc) be b
termination_by structural e=>e
noncomputable def cD (c:Cfg):Es→List Expr→Bool
 | .nil,xs=>xs.isEmpty
 | .cons e es,xs=>cr xs fun y ys=>ag y && aq c e y && cD c es ys
termination_by structural e=>e
noncomputable def w5 (c:Cfg):O→Option Expr→Bool
 | .no,x=>x.isNone
 | .yes e,x=>fU x fun y=>aq c e y
termination_by structural e=>e
noncomputable def oO (c:Cfg):E→Expr→Bool
 | .not a,x=>tG x fun y=>oO c a y
 | .bop k es,x=>rS x fun o xs=>(o == if k then .And else .Or) && !xs.isEmpty && iq c es xs
 | .cmp op a b,x=>mJ x fun l o r=>o == op && !behindInMarks o r && aq c a l && aq c b r
 | .var i,x=>al x fun y _=>c.N[i]? == some y && c.vis y
 | .call f es,x=>aJ x fun g xs _=>al g fun y _=>c.fn f y && xs.all ag && cD c es xs
 | .blt b es,x=>aJ x fun g xs _=>al g fun y _=>y == i9 b && c.blt y && xs.all ag && !xs.isEmpty && cD c es xs
 | .inst a t,x=>aJ x fun g xs _=>al g fun y _=>on2 xs fun l r=>al r fun z _=>y == ("isinstance":Str) && c.blt y && ag l && z == (t:Str) && c.blt z && kinds.contains t && aq c a l
 | .tmp a,x=>og x && aq c a x
 | .ix a b,x=>ld x fun l r=>gN r && aq c a l && aq c b r
 | .pcall i e,x=>c.pc && aJ x fun g xs _=>al g fun y _=>on1 xs fun l=>c.N[i]? == some y && c.vis y && ag l && aq c e l
 | .eqd ne a b,x=>mJ x fun l o r=>(o == if ne then .NotEq else .Eq) && !behindInMarks o r && aq c a l && aq c b r
 | .compK _ _ _ _ _ _ _,_ | .compD _ _ _ _ _ _ _ _,_ | .dcl _,_ | .dct2 _ _,_ | .hm _ _ _,_ | .bl _,_ | .int _,_ | .non,_ | .str _,_ | .gv _ _,_ | .tup _,_ | .lst _,_ | .dct0,_ | .dct1 _ _,_ | .bin _ _ _,_ | .neg _,_ | .ite _ _ _,_ | .sl _ _ _,_ | .met _ _ _,_ | .comp _ _ _ _ _ _,_ | .bad,_ | .jrev _,_ | .sset _,_ | .clr _,_ | .dcp _,_ | .dget _ _,_ | .part _ _,_ | .smx _ _ _,_=>true
termination_by structural e=>e
noncomputable def iq (c:Cfg):Es→List Expr→Bool
 | .nil,xs=>xs.isEmpty
 | .cons e es,xs=>cr xs fun y ys=>oO c e y && iq c es ys
termination_by structural e=>e
noncomputable def rE (c:Cfg):It→Expr→Bool
 | .seq e,x=>dL x && aq c e x
 | .range1 a,x=>aJ x fun g xs _=>al g fun y _=>on1 xs fun l=>y == ("range":Str) && c.blt y && ag l && aq c a l
 | .range2 a b,x=>aJ x fun g xs _=>al g fun y _=>on2 xs fun l r=>y == ("range":Str) && c.blt y && ag l && ag r && aq c a l && aq c b r
 | .zip a b,x=>aJ x fun g xs _=>al g fun y _=>on2 xs fun l r=>y == ("zip":Str) && c.blt y && ag l && ag r && aq c a l && aq c b r
 | .zip3 a b d,x=>aJ x fun g xs _=>al g fun y _=>on3 xs fun l r u=>y == ("zip":Str) && c.blt y && ag l && ag r && ag u && aq c a l && aq c b r && aq c d u
 | .enum a,x=>aJ x fun g xs _=>al g fun y _=>on1 xs fun l=>y == ("enumerate":Str) && c.blt y && ag l && aq c a l
 | .chars e,x=>dL x && aq c e x
 | .range3 a b d,x=>aJ x fun g xs _=>al g fun y _=>on3 xs fun l r u=>y == ("range":Str) && c.blt y && ag l && ag r && ag u && aq c a l && aq c b r && aq c d u
termination_by structural e=>e
noncomputable def fJ (c:Cfg):Tg→Expr→Bool
 | .name i,x=>al x fun y _=>c.N[i]? == some y && c.loc y
 | .tup ts,x=>bW x fun xs=>jm c ts xs
 | .ltup ts,x=>bW x fun xs=>jm c ts xs
 | .sub o i,x=>ld x fun l r=>gN r && aq c o l && aq c i r
termination_by structural e=>e
noncomputable def jm (c:Cfg):Tgs→List Expr→Bool
 | .nil,xs=>xs.isEmpty
 | .cons t ts,xs=>cr xs fun y ys=>ag y && fJ c t y && jm c ts ys
termination_by structural e=>e
end
end FW
namespace FW
open L2 HX
noncomputable def b8 (K:W.Frag)(sp:FSp):Sp:=fun vs H Q _=>∃m st as,Rs K m H as vs∧RH K m H st∧sp as st (post K m H Q)
def wQ (P:Program)(w:World)(K:W.Frag)(mg:Str→Option Value)(base:Heap)(k:Nat)(outer:List Env)(s:Shared)(H:Hp)(a:Addr)(L:FSp):Prop :=
 ∀(A':Around) (outer':List Env) (s':Shared) (H':Hp) (u:Value) (v:V) (Q':VK),Room k A'→pZ P w K mg base A' outer' s' H'→Un (frs outer) [] H H' s.heap s'.heap→RelV v u→b8 K L [v] H' Q' E0 →
  W.FnAt a s'.heap∧codeAny (model P w) A' (.call (.ref a) ⟨[u],[]⟩) (CR CX0 outer' P w H' s' Q' E0) s'
def Bc (L:FSp):Prop:=∀as st Q Q',(∀v st,Q v st→Q' v st)→L as st Q→L as st Q'
def Dv (a:Nat)(L:FSp):FSp:=fun as st Q=>∃(xs:List PV) (g:PV→Bool),as=[.tup xs,.fn a]∧xs.length≤100000∧(∀y∈xs,∀Q':EK,Q' (.bl (g y)) st→L [y] st Q')∧Q (.int (bsr g xs)) st
structure CB (P:Program)(w:World)(K:W.Frag)(mg:Str→Option Value)(base:Heap)(k:Nat):Prop where
 ex:∃f fd,mg "how_many"=some (.ref f)∧W.keepIn K (.ref f)=true∧Binds K fd ["stair","holds"] [] ∧
  ∀(a:Addr) (L:FSp),Bc L→∀(A:Around) (outer:List Env) (s:Shared) (H:Hp) (args:Args) (us:List Value) (vs:List V) (Q:VK),Room (k+1) A→pZ P w K mg base A outer s H→BindsTo s fd args ((["stair","holds"]:List Str).zip us)→Vals vs us →
   wQ P w K mg base k outer s H a L→b8 K (Dv a L) vs H Q E0→codeAny (model P w) A (.call (.ref f) args) (CR CX0 outer P w H s Q E0) s
structure HmX (X:Cx)(k:Nat):Prop where
 ok:CB X.prog X.w X.K X.mg X.base (k+1)
 cd:∃x c0 T,x∈aW∧W.tabIn X.K x=some (c0,T)∧X.env.code=.ref c0∧X.env.qual=x++".<locals>."∧W.CodeHd X.base c0 T
 bm:∃bm ob,X.mg "__builtins__"=some (.ref bm)∧bm≠builtinsNs∧X.base.get? bm=some ob∧ob.cls=.type "module"∧ob.dict=some builtinsNs∧ob.data=.plain
structure COk (X:Cx)(c:Cfg)(Γ:Nat→FSp):Prop where
 calm:X.calm=true
 pass:PassesOwn (model X.prog X.w) X.A X.env X.xe
 N:X.N=c.N
 nd:c.N.Nodup
 vis:∀x,c.names.lookup x=some .local∨c.names.lookup x=some .cell∨c.names.lookup x=some .free→Vis X.env.scope x
 loc:∀x,c.names.lookup x=some .local∨c.names.lookup x=some .cell→Loc X.env.scope x∧(X.fn x=true∨X.env.scope.names.lookup x=some .local)
 lcl:∀x,c.names.lookup x=some .local→X.env.scope.names.lookup x=some .local
 glb:∀x,c.names.lookup x=some .globalImplicit→Gl X x
 bk:X.env.blockKind=.function
 cel:∀x,c.names.lookup x=some .cell∨c.names.lookup x=some .free→X.env.kindOf x=some .cell∨X.env.kindOf x=some .free
 room:Room c.lim X.A
 fn:∀f x,f<c.lim→c.fns[f]?=some x→∃ps,Has X.prog X.w X.K X.mg X.base (f+1) x ps (b8 X.K (Γ f))
 blt:∀x∈c.blts,X.mg x=none
 gl:∀x v,c.gl.lookup x=some v→∃u y,X.mg x=some u∧RelV y u∧∀m H,R X.K m H v y
 mono:aO Γ
 lam:c.pc=true→∀ {pins:List (Addr × Obj)}{σ:L2.St}{H:Hp}{s:Shared}{b:Addr}{u:Value}{v:V}{Q:VK},L2.Inv X pins σ H s→RelV v u→b8 X.K (Γ 1000) [.ref b,v] H Q E0 →
  W.FnAt b s.heap∧wpAny (model X.prog X.w) X.A (call (.ref b) [u]) (EP X pins σ Q) X.xe s
 hmo:∀k,c.hm=some k→HmX X k
section
variable {X:Cx}{c:Cfg}{Γ:Nat→FSp}
theorem COk.visx (C:COk X c Γ){x:Str}(h:c.vis x=true):Vis X.env.scope x∧(x == ("__debug__":Str))=false∧(x == ("__classdict__":Str))=false:=by
 unfold Cfg.vis at h
 simp only[Bool.and_eq_true,Bool.or_eq_true,beq_iff_eq,Bool.not_eq_true'] at h
 exact⟨C.vis x (by rcases h.1.1 with (h|h)|h <;> simp[h]),h.1.2,h.2⟩
theorem COk.glbx (C:COk X c Γ){x:Str}(h:c.glb x=true):Gl X x∧(x == ("__debug__":Str))=false∧x≠"__name__":=by
 unfold Cfg.glb at h
 simp only[Bool.and_eq_true,beq_iff_eq,Bool.not_eq_true'] at h
 exact⟨C.glb x h.1.1,h.1.2,fun z=>by rw[z] at h;exact absurd h.2 (by decide)⟩
theorem COk.bltx (C:COk X c Γ){x:Str}(h:c.blt x=true):Gl X x∧(x == ("__debug__":Str))=false∧x≠"__name__"∧X.mg x=none:=by
 unfold Cfg.blt at h
 rw[D6] at h
 obtain⟨h1,h2,h3⟩:=C.glbx h.1
 exact⟨h1,h2,h3,C.blt x (List.contains_iff_mem.mp h.2)⟩
theorem COk.fnx (C:COk X c Γ){f:Nat}{x:Str}(h:c.fn f x=true):Gl X x∧(x == ("__debug__":Str))=false∧Room (f+1) X.A∧∃ps,Has X.prog X.w X.K X.mg X.base (f+1) x ps (b8 X.K (Γ f)):=by
 unfold Cfg.fn at h
 simp only[Bool.and_eq_true,beq_iff_eq,decide_eq_true_eq] at h
 obtain⟨h1,h2,h3⟩:=C.glbx h.2
 exact⟨h1,h2,C.room.mono h.1.2,C.fn f x h.1.2 h.1.1⟩
theorem BC:∀b:B,bootBuiltins (i9 b)=some (AC b):=by
 intro b
 cases b <;> decide +kernel
theorem oD:∀t∈kinds,bootBuiltins (t:Str)=some (.type t):=by decide +kernel
theorem dj:bootBuiltins ("isinstance":Str)=some (.builtin "isinstance"):=by decide +kernel
theorem n4 {x:Expr}(h:og x=true)(env:Env):∀whole,isTrue x env whole=(do let v ←whole;standAt x.pos;holding [v] (truthy v)):=by
 cases x <;> first|(intro _;rfl)|cases h
theorem fQ {K:W.Frag}{m:List Addr}{H:Hp}{as:List PV}{vs:List V}(h:Rs K m H as vs):Rs K m H as (vs++[]):=by rw[F4];exact h
theorem mQ (C:COk X c Γ){f:Nat}{y:Str}{xs:List Expr}{p pos:Pos}{es:Es}(hf:c.fn f y=true)(hn:xs.all ag=true)(hc:cD c es xs=true)(ha:PA X xs (TAx X.K (bh Γ es))) :
  PE X (.Call (.Name y p) xs [] pos) (TEx X.K fun ρ st Q=>bh Γ es ρ st fun vs st1=>Γ f vs st1 Q):=by
 obtain⟨h1,h2,hr,ps,F⟩:=C.fnx hf
 have key:∀ {σ:L2.St}{H:Hp}{Q:VK},TEx X.K (fun ρ st Q=>bh Γ es ρ st fun vs st1=>Γ f vs st1 Q) σ H Q→gw (b8 X.K (Γ f)) [] E0 (TAx X.K (bh Γ es)) σ H Q:=by
  rintro σ H Q ⟨m,ρ,st,rf,rh,w⟩
  exact⟨m,ρ,st,rf,rh,ar C.mono es (fun vs st1 k m1 H1 xs1 e1 r1 r2=>⟨m1,st1,vs,fQ r2,r1,C.mono _ _ _ _ _ (fun _ _ q=>q.ext e1) k⟩) w⟩
 intro pins s σ H Q I h
 cases xs with
 | nil =>
  refine va F hr h1 h2 pins s σ H Q I ?_
  obtain⟨m,ρ,st,rf,rh,w⟩:=h
  cases es with
  | nil=>exact⟨m,st,[],Rs_nil.mpr rfl,rh,w⟩
  | cons e es=>exact Bool.noConfusion (show false=true from hc)
 | cons x xs =>
  rw[FM,D6] at hn
  exact vJ F hr ha h1 h2 hn.1 hn.2 pins s σ H Q I (key h)
theorem nP (C:COk X c Γ){b:B}{y:Str}{xs:List Expr}{p pos:Pos}{es:Es}(hy:y=i9 b)(hb:c.blt y=true)(hn:xs.all ag=true)(hne:xs.isEmpty=false)(ha:PA X xs (TAx X.K (bh Γ es))) :
  PE X (.Call (.Name y p) xs [] pos) (TEx X.K fun ρ st Q=>bh Γ es ρ st fun vs st1=>cf b vs st1 Q):=by
 obtain⟨h1,h2,h3,h4⟩:=C.bltx hb
 have hv:=BC b
 rw[←hy] at hv
 have key:∀ {σ:L2.St}{H:Hp}{Q:VK},TEx X.K (fun ρ st Q=>bh Γ es ρ st fun vs st1=>cf b vs st1 Q) σ H Q→tCB (AA X.K (cf b)) (TAx X.K (bh Γ es)) σ H Q:=by
  rintro σ H Q ⟨m,ρ,st,rf,rh,w⟩
  exact⟨m,ρ,st,rf,rh,ar C.mono es (fun vs st1 k m1 H1 xs1 e1 r1 r2=>⟨m1,st1,vs,r1,r2,e8 (fun _ _ q=>q.ext e1) k⟩) w⟩
 have hc:=xH C.calm C.room.gd C.room.units b
 cases xs with
 | nil=>cases hne
 | cons x xs =>
  rw[FM,D6] at hn
  intro pins s σ H Q I h
  cases b <;> first
   | exact dJ hc h1 h4 hv ha h3 h2 hn.1 hn.2 pins s σ H Q I (key h)
   | exact n8 hc h1 h4 hv ha h3 h2 hn.1 hn.2 pins s σ H Q I (key h)
theorem pT (m:M):PlainAttrs "list"∧Slot "list" (mw m) (ph m)∧typeOf (.builtin (ph m))=pure (.type "method_descriptor"):=by
 cases m
 ·exact⟨FH,PySem.F.slot_list_append,PySem.F.type_list_append⟩
 ·exact⟨FH,PySem.F.slot_list_pop,PySem.F.type_list_pop⟩
 ·exact⟨FH,PySem.F.slot_list_extend,PySem.F.type_list_extend⟩
 ·exact⟨FH,PySem.F.slot_list_insert,PySem.F.type_list_insert⟩
 ·exact⟨FH,PySem.F.slot_list_count,PySem.F.type_list_count⟩
 ·exact⟨FH,PySem.F.slot_list_index,PySem.F.type_list_index⟩
theorem cV {y:Expr}(h:bR y=true){n:Str}{env:Env}{w:Sem Value}:attributeBase y n env w=w:=by
 cases y <;> first|rfl|cases h
theorem tS (C:COk X c Γ){m:M}{n:Str}{y:Expr}{ap cp:Pos}{xs:List Expr}{o:E}{es:Es}(hn:n=mw m)(hl:(ap.endLine == cp.line)=true)(hs:xs.all ag=true)(h2:xs.length≤2)(hy:bR y=true)(ho:PE X y (TEx X.K (wpE Γ o)))(ha:PA X xs (TAx X.K (bh Γ es)))(hc:cD c es xs=true) :
  PE X (.Call (.Attribute y n ap) xs [] cp) (TEx X.K (wpE Γ (.met m o es))):=by
 obtain⟨pa,slot,ty⟩:=pT m
 rw[←hn] at slot
 have hm:MtR X (ph m) (Bq X.K (lO m)):=xR m
 intro pins s σ H Q I h
 obtain⟨mm,ρ,st,rf,rh,w⟩:=h
 skip
 have tyv:∀ {m1:List Addr} {H1:Hp} {st1:AH} {v:PV} {x:V},RH X.K m1 H1 st1→R X.K m1 H1 v x→(∃xs,aU st1 v=some xs)→tyV X.K "list" x H1:=by
  rintro m1 H1 st1 v x r1 r2 ⟨xs,e⟩
  obtain⟨a,ys,rfl,g,_⟩:=bv r1 r2 e
  exact .inl ⟨rfl,ys,g⟩
 match xs,hs,h2,ha,hc with
 | [],hs,h2,ha,hc =>
  refine sQ pa slot ty hm ho (cV hy) hl pins s σ H Q I ?_
  refine⟨mm,ρ,st,rf,rh,aa C.mono o (fun v st1 k m1 H1 x1 e1 r1 r2=>⟨tyv r1 r2 k.1,?_⟩) w⟩
  cases es with
  | nil =>
   have k2:=k.2
   skip
   exact⟨m1,st1,v,[],r1,r2,Rs_nil.mpr rfl,ff (fun _ _ q=>q.ext e1) k2⟩
  | cons e es=>exact Bool.noConfusion (show false=true from hc)
 | [a],hs,h2,ha,hc =>
  simp only[List.all_cons,List.all_nil,Bool.and_true] at hs
  have st1:starEach [a] X.env=[(false,eval a X.env)]:=aw hs
  refine jy pa slot ty hm ho ha (cV hy) (by rw[st1];rfl) hl st1 rfl pins s σ H Q I ?_
  refine⟨mm,ρ,st,rf,rh,aa C.mono o (fun v st1 k m1 H1 x1 e1 r1 r2=>⟨tyv r1 r2 k.1,?_⟩) w⟩
  exact⟨m1,ρ,st1,rf.mono e1,r1,ar C.mono es (fun vs st2 k m2 H2 xs2 e2 r3 r4=>⟨m2,st2,v,vs,r3,r2.mono e2,r4,ff (fun _ _ q=>q.ext (e1.trans e2)) k⟩) k.2⟩
 | [a,b],hs,h2,ha,hc =>
  simp only[List.all_cons,List.all_nil,Bool.and_true,Bool.and_eq_true] at hs
  have stb:starEach [b] X.env=[(false,eval b X.env)]:=aw hs.2
  have st1:starEach [a,b] X.env=(false,eval a X.env)::starEach [b] X.env:=aw hs.1
  refine jy pa slot ty hm ho ha (cV hy) (by rw[st1,stb];rfl) hl st1 (by rw[stb];rfl) pins s σ H Q I ?_
  refine⟨mm,ρ,st,rf,rh,aa C.mono o (fun v st1 k m1 H1 x1 e1 r1 r2=>⟨tyv r1 r2 k.1,?_⟩) w⟩
  exact⟨m1,ρ,st1,rf.mono e1,r1,ar C.mono es (fun vs st2 k m2 H2 xs2 e2 r3 r4=>⟨m2,st2,v,vs,r3,r2.mono e2,r4,ff (fun _ _ q=>q.ext (e1.trans e2)) k⟩) k.2⟩
 | _::_::_::_,hs,h2,ha,hc=>simp at h2
mutual
theorem PV.bel_le {i j:Nat}(h:i≤j):∀ {v:PV},v.bel i=true→v.bel j=true
 | .non,_=>by rw[PV.bel]
 | .bl _,_=>by rw[PV.bel]
 | .int _,_=>by rw[PV.bel]
 | .str _,_=>by rw[PV.bel]
 | .ref n,z=>by rw[PV.bel] at z ⊢;have:=FP z;exact FF (by omega)
 | .tup xs,z=>by rw[PV.bel] at z ⊢;exact PV.bels_le h z
 | .rdl xs,z=>by rw[PV.bel] at z ⊢;exact PV.bels_le h z
 | .fn _,z=>by rw[PV.bel] at z;cases z
theorem PV.bels_le {i j:Nat}(h:i≤j):∀ {vs:List PV},PV.bels i vs=true→PV.bels j vs=true
 | [],_=>by rw[PV.bels]
 | v::vs,z=>by rw[PV.bels,D6] at z ⊢;exact⟨PV.bel_le h z.1,PV.bels_le h z.2⟩
end
theorem pv (C:COk X c Γ){a:E}{t:String}{l:Expr}{y z:Str}{p q pos:Pos}(h:(y == ("isinstance":Str) && c.blt y && ag l && z == (t:Str) && c.blt z && kinds.contains t)=true)(ha:PE X l (TEx X.K (wpE Γ a))) :
  PE X (.Call (.Name y p) [l,.Name z q] [] pos) (TEx X.K (wpE Γ (.inst a t))):=by
 simp only[Bool.and_eq_true,beq_iff_eq] at h
 obtain⟨⟨⟨⟨⟨h1,h2⟩,h3⟩,h4⟩,h5⟩,h6⟩:=h
 subst h1 h4
 have ht:t∈kinds:=List.contains_iff_mem.mp h6
 obtain⟨g1,g2,g3,g4⟩:=C.bltx h2
 obtain⟨k1,k2,k3,k4⟩:=C.bltx h5
 rintro pins s σ H Q I ⟨m,ρ,st,rf,rh,w⟩
 skip
 have pt:PE X (.Name (t:Str) q) (tC (.ty t)):=pM k1 k4 (oD t ht) rfl k3 k2
 have hA:PA X [l,.Name (t:Str) q] (b7 (TEx X.K (wpE Γ a)) (b7 (tC (.ty t)) iY)):=pac ha (pac pt bH) h3
 have hC:bX X (.builtin "isinstance") (fun xs H Q=>∃m st x y n,RH X.K m H st∧R X.K m H x y∧xs=[y,.ty t]∧a_ st x=some n∧Q (.bl (bq t n)) H):=by
  rintro pins s σ H xs us Q I r ⟨m,st,x,y,n,r1,r2,rfl,e,q⟩
  obtain⟨u,v,rfl,ru,rv⟩:=jH r
  cases (show v=Value.type t from rv)
  exact vb (K:=X.K) I r1 r2 ru e ht fun tk=>⟨.bl _,H,I.tok tk,rfl,q⟩
 refine dJ hC g1 g4 dj hA g3 g2 h3 rfl pins s σ H Q I ?_
 refine⟨m,ρ,st,rf,rh,aa C.mono a (fun v st1 k m1 H1 x1 e1 r1 r2=>?_) w⟩
 obtain⟨n,e,k⟩:=k
 exact⟨m1,st1,v,x1,n,r1,r2,rfl,e,(k.ext e1).here r1 (R_bl.mpr rfl)⟩
theorem rm (C:COk X c Γ){i:Nat}{y:Str}{p:Pos}(h:(c.N[i]? == some y && c.vis y)=true):PE X (.Name y p) (TEx X.K (wpE Γ (.var i))):=by
 simp only[Bool.and_eq_true,beq_iff_eq] at h
 obtain⟨h1,h2,h3⟩:=C.visx h.2
 rintro pins s σ H Q I ⟨m,ρ,st,rf,rh,w⟩
 obtain⟨v,e,w⟩:=gP w
 obtain⟨y,e2,r⟩:=rf.at_ i v e
 exact jg (by rw[C.N];exact h.1) h1 h2 h3 pins s σ H Q I ⟨y,e2,w.here rh r⟩
theorem i_ {K:W.Frag}{m m':List Addr}{H H':Hp}{st st':AH}{Q:EK}{v:PV}{x:V}(rh:RH K m H st)(e:Ext K m H m' H')(rh':RH K m' H' st')(r:R K m' H' v x)(q:Tmp st Q v st') :
  ∃st1,Q v st1∧Ext K m H m H'∧RH K m H' st1∧R K m H' v x:=by
 obtain⟨st1,g,rfl,hl,hs,hb,q⟩:=q
 have hm:m'.take m.length=m:=by
  obtain⟨t,ht⟩:=e.pre
  rw[←ht,List.take_left]
 have hlen:m.length=st.length:=rh.len
 refine⟨st1,q,⟨GQ _,fun _ z=>.inl z,e.fr,e.tup,e.rdf,e.tbs,e.tb,e.frz⟩,⟨by rw[hl,hlen],rh.nd,fun n c a h1 h2=>?_,e.tb rh.tb⟩,?_⟩
 ·have hn:n<st1.length:=(D3.mp h1).1
  have c1:CellR K m' H' c a:=rh'.at_ n c a (by rw[EJ hn];exact h1) (eW e.pre h2)
  have hc:c.bec m.length=true:=by
   rcases hs n (by omega) with z|⟨c',z,zb⟩
   ·rw[h1] at z
    exact(rh.at_ n c a z.symm h2).bel
   ·rw[h1] at z
    cases z
    have zb':∀ {c:Cell},c.bel 0=true→c.bec m.length=true:=by
     have b0:∀(xs:List PV),PV.bels 0 xs=true→PV.becs m.length xs=true:=fun xs h=>PV.bels_becs (GJ _) h
     intro c h
     cases c with
     | lst xs=>exact b0 _ h
     | dk kvs=>exact b0 _ h
     | fz kvs=>cases h
    exact zb' zb
  have:=c1.cut hc
  rw[hm] at this
  exact this
 ·have:=r.cut (k:=m.length) (by rw[hlen];exact PV.bel_bec (D7 _) hb)
  rw[hm] at this
  exact this
noncomputable def postF (K:W.Frag)(m:List Addr)(H:Hp)(Q:L2.St→Hp→Prop):Fr→AH→Prop:=fun ρ' st'=>∀m' H' σ',Ext K m H m' H'→RH K m' H' st'→RF K m' H' ρ' σ'→Q σ' H'
theorem postF.ext {K:W.Frag}{m m1:List Addr}{H H1:Hp}{Q:L2.St→Hp→Prop}(x:Ext K m H m1 H1){ρ:Fr}{st:AH}(q:postF K m H Q ρ st):postF K m1 H1 Q ρ st:=fun m' H' σ' e r s=>q m' H' σ' (x.trans e) r s
theorem postF.here {K:W.Frag}{m:List Addr}{H:Hp}{Q:L2.St→Hp→Prop}{ρ:Fr}{σ:L2.St}{st:AH}(q:postF K m H Q ρ st)(h:RH K m H st)(r:RF K m H ρ σ):Q σ H:=q m H σ (Ext.refl _ _ _) h r
noncomputable def TGx (K:W.Frag)(w:PV→Fr→AH→(Fr→AH→Prop)→Prop):TG:=fun v' σ H Q=>∃m ρ st v,RF K m H ρ σ∧RH K m H st∧R K m H v v'∧w v ρ st (postF K m H Q)
noncomputable def DE (K:W.Frag)(w:List PV→Fr→AH→(Fr→AH→Prop)→Prop):TGs:=fun v' σ H Q=>∃m ρ st v,RF K m H ρ σ∧RH K m H st∧Rs K m H v v'∧w v ρ st (postF K m H Q)
theorem COk.locx (C:COk X c Γ){x:Str}(h:c.loc x=true):Loc X.env.scope x∧(X.fn x=true∨X.env.scope.names.lookup x=some .local):=by
 unfold Cfg.loc at h
 simp only[Bool.or_eq_true,beq_iff_eq] at h
 exact C.loc x h
theorem COk.ndX (C:COk X c Γ):X.N.Nodup:=by rw[C.N];exact C.nd
theorem fO {e:Expr}{es:List Expr}{env:Env}(h:ag e=true):assignEach (e::es) env=(false,assign e env)::assignEach es env:=by
 cases e <;> first|rfl|cases h
theorem fR {c:Cfg}:∀ {ts:Tgs}{xs:List Expr}{env:Env},jm c ts xs=true→(assignEach xs env).length=ts.size∧(assignEach xs env).findIdx? (·.1)=none
 | .nil,xs,env,h=>by
  have h:xs.isEmpty=true:=h
  cases xs with
  | nil=>exact⟨rfl,rfl⟩
  | cons _ _=>cases h
 | .cons t ts,xs,env,h=>by
  replace h:=ai h
  obtain⟨y,ys,rfl,h⟩:=h
  ·simp only[Bool.and_eq_true] at h
   obtain⟨⟨h1,h2⟩,h3⟩:=h
   obtain⟨g1,g2⟩:=fR (env:=env) h3
   rw[fO h1]
   exact⟨by simp[g1,Tgs.size],by simp[List.findIdx?_cons,g2]⟩
structure j4 (K:W.Frag)(J:L2.It)(xs:List PV)(chk:AH→Prop)(m0:List Addr)(H0:Hp):Prop where
 stop:∀m H st,Ext K m0 H0 m H→RH K m H st→chk st→J.stop xs.length H
 item:∀(i:Nat) v m H st,Ext K m0 H0 m H→RH K m H st→chk st→xs[i]?=some v→J.go i H∧∀x H',J.yld i H x H'→Ext K m H m H'∧RH K m H' st∧R K m H' v x
noncomputable def TIx (K:W.Frag)(w:Fr→AH→(List PV→(AH→Prop)→AH→Prop)→Prop):TI:=fun σ H Rr=>∃m ρ st,RF K m H ρ σ∧RH K m H st ∧
 w ρ st fun xs chk st1=>∀m1 H1 J,Ext K m H m1 H1→RH K m1 H1 st1→j4 K J xs chk m1 H1→Rr J H1
theorem jF {x:Expr}{env:Env}(h:dL x=true):∀v,foldedSetIterable x env v=pure v:=by
 cases x <;> first|(intro _;rfl)|cases h
theorem xn {tg l:Expr}{tl:TE}(hl:PE X l tl):PI X tg l (fun σ H Rr=>tl σ H fun x H1=>∃a,x=.ref a∧((∃xs,SqL X.K H1 a xs)∧Rr (Itl X.K a) H1∨(∃xs,SqT X.K H1 a xs)∧Rr (Itt X.K a) H1)):=by
 intro pins s σ H Rr I h
 refine thn (hl pins s σ H _ I h) fun v s1 ⟨x,H1,I1,r1,q1⟩=>?_
 obtain⟨a,e,q1⟩:=q1
 subst e
 cases r1
 rcases q1 with⟨⟨xs,hq⟩,q⟩|⟨⟨xs,hq⟩,q⟩
 ·obtain⟨its,rv,p,hz⟩:=I1.list hq
  refine wpAny_pyIter_list p.isList ?_
  refine⟨s1.heap.objs.size,[s1.heap.objs.size],_,_,H1,rfl,I1.kept (t':=s1.toks) fun b o e=>D5 _ e,qC a _,⟨_,EC _ rfl,rfl,rfl⟩,fun b hb=>?_,q⟩
  have e:b=s1.heap.objs.size:=by simpa using hb
  subst e
  exact I1.fpOk (D7 _) (I1.hok.fresh (D7 _))
 ·obtain⟨its,rv,p,hz⟩:=I1.tuple hq
  refine wpAny_pyIter_tuple (show s1.heap.IsTuple a its.toArray from p) ?_
  refine⟨s1.heap.objs.size,[s1.heap.objs.size],_,_,H1,rfl,I1.kept (t':=s1.toks) fun b o e=>D5 _ e,oH a _,⟨_,EC _ rfl,rfl,rfl⟩,fun b hb=>?_,q⟩
  have e:b=s1.heap.objs.size:=by simpa using hb
  subst e
  exact I1.fpOk (D7 _) (I1.hok.fresh (D7 _))
theorem ql {K:W.Frag}{m0:List Addr}{H0:Hp}{st0:AH}{n:Nat}{a:Addr}{xs:List PV}(rh:RH K m0 H0 st0)(e:st0[n]?=some (.lst xs))(ea:m0[n]?=some a):j4 K (Itl K a) xs (fun st'=>st'[n]?=st0[n]?) m0 H0:=by
 have get:∀m H st,Ext K m0 H0 m H→RH K m H st→st[n]?=st0[n]?→∃ys,H a=some (.lst ys)∧Rs K m H xs ys:=fun m H st x r q=>by
  rw[e] at q
  exact r.at_ n _ a q (eW x.pre ea)
 refine⟨fun m H st x r q=>?_,fun i v m H st x r q ev=>?_⟩
 ·obtain⟨ys,h1,h2⟩:=get m H st x r q
  exact⟨ys,SqL.of h1,by rw[h2.len];exact D7 _⟩
 ·obtain⟨ys,h1,h2⟩:=get m H st x r q
  obtain⟨y,e1,r1⟩:=h2.get ev
  refine⟨⟨ys,y,SqL.of h1,e1⟩,fun z H' ⟨e2,e3⟩=>?_⟩
  subst e2
  have:=e3 ys (SqL.of h1)
  rw[e1] at this
  cases this
  exact⟨Ext.refl _ _ _,r,r1⟩
theorem rQ {K:W.Frag}{m0:List Addr}{H0:Hp}{a:Addr}{xs:List PV}{ys:List V}(h:RdF K H0 a ys)(r0:Rs K m0 H0 xs ys):j4 K (Itl K a) xs (fun _=>True) m0 H0:=by
 refine⟨fun m H st x r q=>⟨ys,(x.rdf _ _ h).sq,by rw[r0.len];exact D7 _⟩,fun i v m H st x r q ev=>?_⟩
 obtain⟨y,e1,r1⟩:=(r0.mono x).get ev
 refine⟨⟨ys,y,(x.rdf _ _ h).sq,e1⟩,fun z H' ⟨e2,e3⟩=>?_⟩
 subst e2
 have:=e3 ys (x.rdf _ _ h).sq
 rw[e1] at this
 cases this
 exact⟨Ext.refl _ _ _,r,r1⟩
theorem tu {K:W.Frag}{m0:List Addr}{H0:Hp}{a:Addr}{xs:List PV}{ys:List V}(h:SqT K H0 a ys)(r0:Rs K m0 H0 xs ys):j4 K (Itt K a) xs (fun _=>True) m0 H0:=by
 refine⟨fun m H st x r q=>⟨ys,x.tup _ _ h,by rw[r0.len];exact D7 _⟩,fun i v m H st x r q ev=>?_⟩
 obtain⟨y,e1,r1⟩:=(r0.mono x).get ev
 refine⟨⟨ys,y,x.tup _ _ h,e1⟩,fun z H' ⟨e2,e3⟩=>?_⟩
 subst e2
 have:=e3 ys (x.tup _ _ h)
 rw[e1] at this
 cases this
 exact⟨Ext.refl _ _ _,r,r1⟩
theorem jG {K:W.Frag}{m0:List Addr}{H0:Hp}{lo:Int}{n:Nat}:j4 K (Itr lo n) (cj lo n) (fun _=>True) m0 H0:=by
 refine⟨fun m H st x r q=>by show n≤_;simp[cj],fun i v m H st x r q ev=>?_⟩
 unfold cj at ev
 rw[EL] at ev
 have hi:i<n:=by
  by_cases hi:i<n
  ·exact hi
  ·rw[FE (by simp;omega)] at ev;cases ev
 rw[GY hi] at ev
 cases ev
 refine⟨hi,fun z H' ⟨e2,e3⟩=>?_⟩
 subst e2 e3
 exact⟨Ext.refl _ _ _,r,R_int.mpr rfl⟩
end
end FW
namespace FW
open L2 HX
section
variable {X:Cx}{c:Cfg}{Γ:Nat→FSp}
noncomputable def D0 (prog:Program)(w:World)(a:Addr)(ns:List Int):HO:=.ext fun h=>Dz prog w (!(byT w)) h a ns
theorem vA (hu:X.A.units+64<cLine):MtR X "dict.get" (fun x xs H Q=>∃a y o,x=.ref a∧xs=[y]∧DGet H a y o∧Q (o.getD .non) H):=by
 rintro pins s σ H x xs v us Q I rx rv ⟨a,y,o,rfl,rfl,g,q⟩
 cases rx
 obtain⟨u,rfl,ru⟩:=bQ rv
 exact zh (by omega) I g ru fun w' s' I' r'=>⟨_,H,I',r',q⟩
theorem uw (C:COk X c Γ){n:Str}{y u:Expr}{ap cp:Pos}{a b:E}(hn:n="get")(hl:(ap.endLine == cp.line)=true)(hs:ag u=true)(hy:bR y=true)(ho:PE X y (TEx X.K (wpE Γ a)))(hb:PE X u (TEx X.K (wpE Γ b))):PE X (.Call (.Attribute y n ap) [u] [] cp) (TEx X.K (wpE Γ (.dget a b))):=by
 subst hn
 intro pins s σ H Q I h
 obtain⟨mm,ρ,st,rf,rh,w⟩:=h
 have se:starEach [u] X.env=[(false,eval u X.env)]:=aw hs
 refine jy PySem.F.plainAttrs_dict GO PySem.F.type_dict_get (vA (by have:=C.room.un;omega)) ho (pac hb bH hs) (cV hy) (by rw[se];rfl) hl se rfl pins s σ H Q I ?_
 refine⟨mm,ρ,st,rf,rh,aa C.mono a (fun v st1 k m1 H1 x1 e1 r1 r2=>?_) w⟩
 obtain⟨⟨n,kvs,rfl,hk⟩,k⟩:=k
 obtain⟨D,ys,rfl,_,g,r3,r4⟩:=r1.dkat hk r2
 refine⟨.inr (.inr (.inl ⟨rfl,.inl ⟨ys,g⟩⟩)),m1,ρ,st1,rf.mono e1,r1,aa C.mono b (fun y st2 k2 m2 H2 y2 e2 r5 r6=>?_) k⟩
 obtain⟨n',e,z,rfl,kvs',h1,q⟩:=k2
 cases e
 obtain⟨D2,ys2,e3,_,g2,r7,r8⟩:=r5.dkat h1 (r2.mono e2)
 cases e3
 rw[R_str] at r6
 subst r6
 refine⟨D,.str z,eB ys2 (.inr z),rfl,rfl,DGet.k (k:=.inr z) g2,?_⟩
 cases ez:c9 kvs' (.inr z) with
 | none =>
  rw[ez] at q
  rw[(eD r7 r8).2 ez]
  exact q m2 H2 .non (e1.trans e2) r5 (R_non.mpr rfl)
 | some u' =>
  obtain⟨w',t1,t2⟩:=(eD r7 r8).1 _ ez
  rw[ez] at q
  rw[t1]
  exact q m2 H2 w' (e1.trans e2) r5 t2
end
end FW
namespace FW
open L2 HX
section
variable {X:Cx}{pins:List (Addr × Obj)}{σ:L2.St}{H:Hp}{s:Shared}{h':Heap}
theorem uh {t':Nat}{wr:List Addr}{T:Addr}{xs:List V}{its:List Value}(I:L2.Inv X pins σ H s)(k:∀b o,b ∉ wr→s.heap.get? b=some o→h'.get? b=some o)(hf:∀b∈wr,iI X pins H b)
  (hT:s.heap.objs.size≤T) (hx:Vals xs its) (hz:xs.length≤sizeLine) (ht:h'.IsTuple T its.toArray):L2.Inv X pins σ (upd H T (.tup xs)) { s with heap:=h',toks:=t' }:=by
 have nit:∀b u,H b=some u→b ∉ wr:=fun b u e z=>by rw[(hf b z).1] at e;cases e
 have hn:H T=none:=I.hok.fresh hT
 have up:∀b u,H b=some u→upd H T (.tup xs) b=some u:=fun b u e=>by rw[ae (aj e hn)];exact e
 refine I.step (g':=s.gens) (d':=s.drawn) (ch:=wr) (fun b hb=>⟨(hf b hb).2.2.2.1,(hf b hb).2.1,(hf b hb).2.2.2.2.1,(hf b hb).2.2.2.2.2⟩) (fun b o _ _ hc e _=>k b o hc e) (fun b o _ _ hc e _=>⟨o.slots,k b o hc e⟩)
  (fun b o _ e n=>by rw[ae (EM (EB (D8 e) hT))];exact n)
  (fun b o hc e=>⟨o,k b o hc e⟩) (fun b _ e=>up b _ e) (fun b _ _ e=>up b _ e) (fun b ps e=>⟨#[],by rw[up b _ e];simp⟩) (fun m hm=>?_) (fun b u e=>?_) I.bare
 ·obtain⟨o,es,ep,ho,r⟩:=hm
  exact⟨o,es,ep,k _ o (fun z=>(hf _ z).2.1 rfl) ho,r⟩
 ·by_cases hb:b=T
  ·subst hb
   rw[av] at e
   cases e
   exact⟨hz,its,hx,ht⟩
  ·rw[ae hb] at e
   refine(I.hok b u e).stay (fun c v hc q=>k c v ?_ q) (fun c q=>up c _ q) fun c _ q=>up c _ q
   rcases hc with z|z
   ·rw[z];exact nit b u e
   ·exact nit c _ z
end
theorem uO {X:Cx}{es:List Expr}{k:Nat}{t:TGs}{n:Nat}{pos:Pos}(hc:X.calm=true)(h:PGs X es t)(hn:(assignEach es X.env).length=n)(hst:(assignEach es X.env).findIdx? (·.1)=none) :
  PG X (.Tuple es k pos) (fun v σ H Q=>∃a xs,v=.ref a∧SqL X.K H a xs∧xs.length=n∧t xs σ H Q):=by
 intro pins s σ H v u Q I r hw
 obtain⟨a,xs,e1,hq,hl,hw⟩:=hw
 subst e1
 cases r
 obtain⟨its,rv,ht,hz⟩:=I.list hq
 rw[PyProof.Rows.assign_Tuple]
 refine D4 (wpAny_standAt ?_)
 unfold unpack
 rw[hst]
 have hsz:(assignEach es X.env).length=its.toArray.size:=by simp[hn,←hl,rv.length]
 rw[hsz]
 refine D4 (FV (W.kun_itemsOf (I.ok.hd hc) ht.isList fun h' hx=>?_))
 have I1:L2.Inv X pins σ H { s with heap:=h' }:=I.kept (t':=s.toks) fun b o e=>hx b o (EM (D8 e)) e
 exact h pins _ σ H xs _ Q I1 (by simpa using rv) hw
end FW
namespace FW
open L2 HX
section
variable {prog:Program}{w:World}{A:Around}{E:Value→Shared→Prop}{s:Shared}{it t:Addr}{i:Nat}{items:Array Value}
end
section
variable {X:Cx}
end
end FW
namespace FW
open L2 HX
structure Zs where
 it:Addr
 c:Bool × Addr
 xs:Array Value
noncomputable abbrev Zs.a (q:Zs):Addr:=q.c.2
def Di (h:Heap)(c:Bool × Addr)(xs:Array Value):Prop:=if c.1=true then h.IsList c.2 xs else h.IsTuple c.2 xs
section
variable {prog:Program}{w:World}{A:Around}{E:Value→Shared→Prop}{s:Shared}{q:Zs}{i:Nat}
end
structure ZA (z TI TO:Addr)(ss:List Zs):Prop where
 nd:(z::TI::TO::ss.map Zs.it).Nodup
 ap:∀q∈ss,q.a ∉ z::TI::TO::ss.map Zs.it
section
variable {prog:Program}{w:World}{A:Around}{E:Value→Shared→Prop}{z TI TO:Addr}{i:Nat}
end
def SqB (K:W.Frag)(H:Hp)(c:Bool × Addr)(xs:List V):Prop:=if c.1=true then SqL K H c.2 xs else SqT K H c.2 xs
section
variable {prog:Program}{w:World}{A:Around}{E:Value→Shared→Prop}
end
section
variable {prog:Program}{w:World}{A:Around}{E:Value→Shared→Prop}{s:Shared}
end
section
variable {X:Cx}{pins:List (Addr × Obj)}{σ:L2.St}{H:Hp}{s:Shared}
theorem SqB.seq {c:Bool × Addr}{xs:List V}(I:L2.Inv X pins σ H s)(h:SqB X.K H c xs):∃ys,Di s.heap c ys:=by
 obtain⟨b,a⟩:=c
 cases b with
 | true=>obtain⟨its,_,p,_⟩:=I.list (show SqL X.K H a xs from h);exact⟨_,p.isList⟩
 | false=>obtain⟨its,_,p,_⟩:=I.tuple (show SqT X.K H a xs from h);exact⟨_,p⟩
end
section
variable {X:Cx}
end
end FW
namespace FW
open L2 HX
noncomputable def Itc (z:Str):L2.It:=⟨fun i _=>i<z.cps.size,fun i H x H'=>H'=H∧∃c,z.cps[i]?=some c∧x=.str ⟨#[c]⟩,fun i _=>i=z.cps.size⟩
theorem jj {P:Program}{w:World}{K:W.Frag}{tg:Expr}{it:Addr}{z:Str}{t:Tok}{nm:String}(hW:∀A:Around,A.handled=none→Walks P w A it [it] [it] z.cps.size (SignAt z) (fun i h=>h.IsStrIter it nm z t i))
  (hn:["enumerate","zip","dict_itemiterator","dict_reverseitemiterator","odict_iterator","itertools.zip_longest","itertools.pairwise"].contains nm=false) (hS:∀(A:Around) (i:Nat) (s:Shared) (Q:Value→Shared→Prop) (E:Value→Shared→Prop),s.heap.IsStrIter it nm z t i→Q (.ref it) s→wpAny (model P w) A (pyIter (.ref it)) Q E s):nL P w K tg (Itc z) [it] it (fun i h=>h.IsStrIter it nm z t i) where
 mem:=by simp
 obj:=fun i h st b hb=>by
  have e:b=it:=by simpa using hb
  subst e
  obtain⟨o,e,c,d⟩:=st
  exact⟨o,e,fun v z=>by rw[d] at z;cases z⟩
 keep:=fun i h h' st k=>by
  obtain⟨o,e,r⟩:=st
  exact⟨o,k it (by simp) o e,r⟩
 item:=by
  intro X hP hw hK hc i pins s σ H E I hf st hg
  subst hP hw hK
  obtain⟨f0,f1,f2,f3,f4,f5⟩:=hf it (by simp)
  refine(hW X.A (I.ok.hd hc)).item i s _ _ hg st fun v h' tk hv st' kk=>?_
  obtain⟨c,u,ec,rfl⟩:=hv
  have I1:L2.Inv X pins σ H { s with heap:=h',toks:=tk }:=I.turned (fun b o hb e=>kk b o (by simpa using hb) e) f0 f1 f3 f4 f5
  obtain⟨o,e,cc,d⟩:=id st'
  exact⟨_,rfl,kr (s:={ s with heap:=h',toks:=tk }) e cc d hn ⟨.str ⟨#[c]⟩,H,I1,⟨u,rfl⟩,⟨rfl,c,ec,rfl⟩,st',fun b hb=>(hf b hb).1⟩⟩
 done:=by
  intro X hP hw hK hc i pins s σ H E I hf st hg
  subst hP hw hK
  have hg:i=z.cps.size:=hg
  subst hg
  obtain⟨f0,f1,f2,f3,f4,f5⟩:=hf it (by simp)
  exact(hW X.A (I.ok.hd hc)).done s _ _ st fun h' tk kk=>⟨rfl,I.turned (fun b o hb e=>kk b o (by simpa using hb) e) f0 f1 f3 f4 f5⟩
 self:=hS
theorem oC {K:W.Frag}{m0:List Addr}{H0:Hp}{z:Str}:j4 K (Itc z) (ck z) (fun _=>True) m0 H0:=by
 refine⟨fun m H st x r q=>by show (ck z).length=z.cps.size;simp[ck],fun i v m H st x r q ev=>?_⟩
 unfold ck at ev
 rw[EL] at ev
 cases e:z.cps.toList[i]? with
 | none=>rw[e] at ev;cases ev
 | some c =>
  rw[e] at ev
  cases ev
  have e':z.cps[i]?=some c:=by simpa using e
  refine⟨(FI.mp e').1,?_⟩
  rintro y H' ⟨rfl,c',e2,rfl⟩
  rw[e'] at e2
  cases e2
  exact⟨Ext.refl _ _ _,r,R_str.mpr rfl⟩
section
variable {X:Cx}{tg:Expr}
noncomputable def wS (te:TE):TI:=fun σ H R=>te σ H fun x H1=>∃z,x=.str z∧R (Itc z) H1
theorem t0 {e:Expr}{te:TE}(he:PE X e te):PI X tg e (wS te):=by
 intro pins s σ H R I h
 refine thn (he pins s σ H _ I h) fun v s1 ⟨x,H1,I1,r1,q1⟩=>?_
 obtain⟨z,e,q⟩:=q1
 subst e
 obtain⟨t,rfl⟩:=r1
 have fin:∀b,b∈[s1.heap.objs.size]→iI X pins H1 b:=fun b hb=>by
  have e:b=s1.heap.objs.size:=by simpa using hb
  subst e
  exact I1.fpOk (D7 _) (I1.hok.fresh (D7 _))
 cases ha:z.cps.all (·< 128)
 ·exact wpAny_pyIter_wide ha ⟨_,_,_,_,H1,rfl,I1.kept (t':=s1.toks) fun b o e=>D5 _ e,jj (nm:="str_iterator") (fun A hA=>Walks.strWide hA _ z t) (by decide) (fun _ _ _ _ _ st h=>wpAny_pyIter_striter_wide st h),⟨_,EC _ rfl,rfl,rfl⟩,fin,q⟩
 ·exact wpAny_pyIter_ascii ha ⟨_,_,_,_,H1,rfl,I1.kept (t':=s1.toks) fun b o e=>D5 _ e,jj (nm:="str_ascii_iterator") (fun A hA=>Walks.strAscii hA _ z t) (by decide) (fun _ _ _ _ _ st h=>wpAny_pyIter_striter_ascii st h),⟨_,EC _ rfl,rfl,rfl⟩,fin,q⟩
noncomputable def wI (lo k:Int)(n:Nat):L2.It:=⟨fun i _=>i<n,fun i H x H'=>H'=H∧x=.int (lo+i*k),fun i _=>n≤i⟩
theorem vf {P:Program}{w:World}{K:W.Frag}{it:Addr}{lo k:Int}{n:Nat}:nL P w K tg (wI lo k n) [it] it (fun i h=>IsRangeIter h it (lo+(i:Nat)*k) ((n:Int)-(i:Nat)) k) where
 mem:=by simp
 obj:=fun i h st b hb=>by
  have e:b=it:=by simpa using hb
  subst e
  exact⟨_,st,fun v z=>by
   have z':Data.fields _=Data.cell v:=z
   cases z'⟩
 keep:=fun i h h' st k=>k it (by simp) _ st
 item:=by
  intro X hP hw hK hc i pins s σ H E I hf st hg
  subst hP hw hK
  obtain⟨f0,f1,f2,f3,f4,f5⟩:=hf it (by simp)
  have W:=Walks.range (prog:=X.prog) (w:=X.w) (I.ok.hd hc) it lo k n
  refine W.item i s _ _ hg st fun v h' tk hv st' kk=>?_
  obtain⟨t,rfl⟩:=hv
  have I1:L2.Inv X pins σ H { s with heap:=h',toks:=tk }:=I.turned (fun b o hb e=>kk b o (by simpa using hb) e) f0 f1 f3 f4 f5
  exact ⟨_,rfl,kr (s:={ s with heap:=h',toks:=tk }) (n:="range_iterator") st' rfl rfl (by decide) ⟨.int (lo+i*k),H,I1,⟨t,rfl⟩,⟨rfl,rfl⟩,st',fun b hb=>(hf b hb).1⟩⟩
 done:=by
  intro X hP hw hK hc i pins s σ H E I hf st hg
  subst hP hw hK
  obtain⟨f0,f1,f2,f3,f4,f5⟩:=hf it (by simp)
  exact wpAny_pyNext_range_end (I.ok.hd hc) st (by have:n≤i:=hg;omega) fun h' eb=>⟨rfl,I.turned (t':=s.toks) (fun b o hb e=>eb b o hb e) f0 f1 f3 f4 f5⟩
 self:=fun _ _ _ _ _ st h=>wpAny_pyIter_rangeiter st h
theorem vy {K:W.Frag}{m0:List Addr}{H0:Hp}{lo k:Int}{n:Nat}:j4 K (wI lo k n) (dX lo k n) (fun _=>True) m0 H0:=by
 refine⟨fun m H st x r q=>by show n≤_;simp[dX],fun i v m H st x r q ev=>?_⟩
 unfold dX at ev
 rw[EL] at ev
 have hi:i<n:=by
  by_cases hi:i<n
  ·exact hi
  ·rw[FE (by simp;omega)] at ev;cases ev
 rw[GY hi] at ev
 cases ev
 refine⟨hi,fun z H' ⟨e2,e3⟩=>?_⟩
 subst e2 e3
 exact⟨Ext.refl _ _ _,r,R_int.mpr rfl⟩
noncomputable def Bw (ta:TA):TI:=fun σ H R=>ta σ H fun vs H1=>∃i j k:Int,vs=[.int i,.int j,.int k]∧(-(2 ^ 62)≤i∧i<2 ^ 62∧-(2 ^ 62)≤j∧j<2 ^ 62∧0<k∧k<2 ^ 62)∧R (wI i k (rSz i j k)) H1
theorem tI {i j k:Int}(h:-(2 ^ 62)≤i∧i<2 ^ 62∧-(2 ^ 62)≤j∧j<2 ^ 62∧0<k∧k<2 ^ 62):Builtin.Range.rangeSize i j k=(rSz i j k:Nat)∧Builtin.Range.small i j k=true:=by
 have e:Builtin.Range.rangeSize i j k=(rSz i j k:Nat):=by
  unfold Builtin.Range.rangeSize rSz
  rw[D9 h.2.2.2.2.1]
  split
  ·have:0≤(j-i-1)/k:=HP (by omega) (by omega)
   omega
  ·rfl
 have b:(rSz i j k:Int)<2 ^ 63:=by
  unfold rSz
  split
  ·have h0:0≤(j-i-1)/k:=HP (by omega) (by omega)
   have h1:(j-i-1)/k≤j-i-1:=Int.ediv_le_self _ (by omega)
   omega
  ·decide
 refine⟨e,?_⟩
 unfold Builtin.Range.small
 rw[e]
 simp[Builtin.Range.rangeFitsLong]
 rw[D9 h.2.2.2.2.1]
 omega
theorem log2_lt {d:Nat}(h:d<2 ^ 63):d.log2<63:=by
 by_cases h0:d=0
 ·subst h0;decide
 ·exact(GS h0).mpr h
theorem qh {a b c:Expr}{ta:TA}{p pos:Pos}(hg:Gl X "range")(hm:X.mg "range"=none)(ha:PA X [a,b,c] ta)(hs:starEach [a,b,c] X.env=[(false,eval a X.env),(false,eval b X.env),(false,eval c X.env)])(hs2:starEach [b,c] X.env=[(false,eval b X.env),(false,eval c X.env)]) :
  PI X tg (.Call (.Name "range" p) [a,b,c] [] pos) (Bw ta):=by
 intro pins s σ H R I h
 refine Call_ (ig I hg hm boot_range (FR (thn (ha pos pins s σ H _ I h) fun us s1 ⟨vs,H1,I1,r1,q1⟩=>?_) (by rw[hs,hs2]) (by rw[hs2];rfl)))
 obtain⟨i,j,k,e,h1,q⟩:=q1
 subst e
 cases r1 with
 | cons r rr =>
  cases rr with
  | cons r' rr =>
   cases rr with
   | cons r'' rr =>
   cases rr
   obtain⟨t,rfl⟩:=r
   obtain⟨t',rfl⟩:=r'
   obtain⟨t'',rfl⟩:=r''
   obtain⟨e0,e1⟩:=tI h1
   refine call_range_3 (by omega) ?_ (.inl (GD (HI (log2_lt (d:=k.natAbs) (by omega)) (by decide))))
   refine wpAny_pyIter_range (IsRange.new ..) e1 ?_
   have I2:L2.Inv X pins σ H1 { s1 with heap:=s1.heap.push { cls:=.type "range",data:=.fields #[.int i t,.int j t',.int k t''] } }:=I1.kept (t':=s1.toks) fun b o e=>D5 _ e
   refine⟨_,[_],_,_,H1,rfl,I2.kept (t':=s1.toks) fun b o e=>D5 _ e,vf (lo:=i) (k:=k) (n:=rSz i j k),?_,fun b hb=>?_,q⟩
   ·have:=EC (s1.heap.push { cls:=.type "range",data:=.fields #[.int i t,.int j t',.int k t''] }) (o:={ cls:=.type "range_iterator",data:=.fields #[rawInt i,rawInt (Builtin.Range.rangeSize i j k),rawInt k] }) rfl
    show IsRangeIter _ _ (i+((0:Nat):Int)*k) ((rSz i j k:Int)-((0:Nat):Int)) k
    rw[show i+((0:Nat):Int)*k=i by simp,show (rSz i j k:Int)-((0:Nat):Int)=Builtin.Range.rangeSize i j k by rw[e0];simp]
    exact this
   ·rw[EW] at hb
    subst hb
    exact I2.fpOk (D7 _) (I2.hok.fresh (D7 _))
end
section
variable {X:Cx}
noncomputable def pe (z y:Str):List V :=
 match Builtin.Str.occurrences z y 0 z.length 1 with
 | i::_=>[.str (Builtin.Str.strSub z 0 i),.str y,.str (Builtin.Str.strSub z (i+y.length) z.length)]
 | []=>[.str z,.str Str.empty,.str Str.empty]
theorem yE {K:W.Frag}{m:List Addr}{H:Hp}{z y:Str}:Rs K m H (k8 z y) (pe z y):=by
 unfold k8 pe
 cases Builtin.Str.occurrences z y 0 z.length 1 with
 | nil=>show Rs K m H [_,_,_] [_,_,_];simp only[Rs_cons',Rs_nil,R_str,and_self]
 | cons i r=>show Rs K m H [_,_,_] [_,_,_];simp only[Rs_cons',Rs_nil,R_str,and_self]
theorem vo:MtR X "str.partition" (fun x vs H Q=>∃z y,x=.str z∧vs=[.str y]∧(y.length == 0)=false∧z.length≤100000∧∀p,H p=none→Q (.ref p) (upd H p (.tup (pe z y)))):=by
 intro pins s σ H x vs v us Q I rx rv h
 obtain⟨z,y,rfl,rfl,h1,h2,q⟩:=h
 obtain⟨t,rfl⟩:=rx
 obtain⟨u,rfl,t',rfl⟩:=bQ rv
 refine call_meets F.slot_str_partition (typeIs_str _ _ _) F.entry_str_partition (F.args_str_partition_2 _ _) (meets_str_partition z y t t' h1 (db h2)) ?_
 have hf:H s.heap.objs.size=none:=I.hok.fresh (D7 _)
 have q:=q _ hf
 unfold pe at q
 revert q
 cases Builtin.Str.occurrences z y 0 z.length 1 with
 | nil=>exact fun q=>⟨.ref s.heap.objs.size,_,I.laid (t':=s.toks+1) (o:=.tup [.str z,.str Str.empty,.str Str.empty]) (fun b u e=>D5 _ e) (D7 _) ⟨by show 3≤sizeLine;decide,[_,_,_],.cons ⟨_,rfl⟩ (.cons ⟨_,rfl⟩ (.cons ⟨_,rfl⟩ .nil)),⟨_,EC _ rfl,rfl,_,rfl⟩⟩,rfl,q⟩
 | cons i r=>exact fun q=>⟨.ref s.heap.objs.size,_,I.laid (t':=s.toks+1+1) (o:=.tup [.str (Builtin.Str.strSub z 0 i),.str y,.str (Builtin.Str.strSub z (i+y.length) z.length)]) (fun b u e=>D5 _ e) (D7 _) ⟨by show 3≤sizeLine;decide,[_,_,_],.cons ⟨_,rfl⟩ (.cons ⟨_,rfl⟩ (.cons ⟨_,rfl⟩ .nil)),⟨_,EC _ rfl,rfl,_,rfl⟩⟩,rfl,q⟩
theorem rZ:MtR X "str.index" (fun x vs H Q=>∃z y i r,x=.str z∧vs=[.str y]∧Builtin.Str.occurrences z y 0 z.length 1=i::r∧Q (.int (i:Nat)) H):=by
 intro pins s σ H x vs v us Q I rx rv h
 obtain⟨z,y,i,r,rfl,rfl,h1,q⟩:=h
 obtain⟨t,rfl⟩:=rx
 obtain⟨u,rfl,t',rfl⟩:=bQ rv
 exact call_gives F.slot_str_index (typeIs_str _ _ _) F.entry_str_index (F.args_str_index_2 _ _) (PySem.gives_str_index z y t t' i r h1) ⟨.int i,H,I.tok _,⟨_,rfl⟩,q⟩
theorem qz:MtR X "str.count" (fun x vs H Q=>∃z y,x=.str z∧vs=[.str y]∧Q (.int ((Builtin.Str.occurrences z y 0 z.length (z.length+1)).length:Nat)) H):=by
 intro pins s σ H x vs v us Q I rx rv h
 obtain⟨z,y,rfl,rfl,q⟩:=h
 obtain⟨t,rfl⟩:=rx
 obtain⟨u,rfl,t',rfl⟩:=bQ rv
 exact call_gives F.slot_str_count (typeIs_str _ _ _) F.entry_str_count (F.args_str_count_2 _ _) (PySem.gives_str_count z y t t') ⟨.int _,H,I.tok _,⟨_,rfl⟩,q⟩
theorem lh:∀ {ss:List Str}{us:List Value},Vals (ss.map V.str) us→∃l:List (Str × Tok),us=strValues l∧l.map (·.1)=ss
 | [],us,r=>by cases r;exact⟨[],rfl,rfl⟩
 | z::ss,us,r=>by
  cases r with
  | cons a b =>
   obtain⟨t,rfl⟩:=a
   obtain⟨l,rfl,e⟩:=lh b
   exact⟨(z,t)::l,rfl,by rw[EE,e]⟩
theorem ur:MtR X "str.join" (fun x vs H Q=>∃y l ss,x=.str y∧vs=[.ref l]∧SqL X.K H l (ss.map V.str)∧JoinOk y ss=true∧Q (.str (Txt.join y ss)) H):=by
 intro pins s σ H x vs v us Q I rx rv h
 obtain⟨y,l,ss,rfl,rfl,h1,h2,q⟩:=h
 obtain⟨t,rfl⟩:=rx
 obtain⟨u,rfl,ru⟩:=bQ rv
 cases ru
 obtain⟨its,ri,pl,_⟩:=I.list h1
 obtain⟨ts,rfl,e⟩:=lh ri
 exact SC.join pl.isList e h2 fun t' k=>⟨.str _,H,I.tok k,⟨t',rfl⟩,q⟩
end
end FW
namespace FW
open L2 HX
noncomputable def fV (env:Env):List (Str × NameKind)→List (Str × Addr)→List (Str × Addr)
 | [],cs=>cs
 | (x,k)::r,cs=>fV env r (if k == .free then (x,(env.cells.lookup x).getD 0)::cs else cs)
theorem oK {scope:Scope}{env:Env}(h:∀y∈scope.names,y.2=.free→∃c,env.cells.lookup y.1=some c):closureFor scope env=pure (fV env scope.names []):=by
 have key:∀(names:List (Str × NameKind)) (cs:List (Str × Addr)),(∀y∈names,y.2=.free→∃c,env.cells.lookup y.1=some c) →
   (forIn names cs fun (x:Str × NameKind) (r:List (Str × Addr))=>(match x with
    | (name,kind)=>if (kind == NameKind.free)=true then (do let a ←cellOf env name;pure (ForInStep.yield ((name,a)::r)):Sem _) else pure (ForInStep.yield r)))=(pure (fV env names cs):Sem _):=by
  intro names
  induction names with
  | nil=>intro cs _;rfl
  | cons y r ih =>
   intro cs hy
   obtain⟨x,k⟩:=y
   rw[HQ]
   by_cases hk:k=.free
   ·subst hk
    obtain⟨c,e⟩:=hy _ ET rfl
    have ec:cellOf env x=pure c:=by
     unfold cellOf
     rw[e]
    simp only[beq_self_eq_true,if_true,ec]
    show (forIn r ((x,c)::cs) _:Sem _)=_
    rw[ih _ fun y h=>hy y (EH _ h)]
    simp[fV,e]
   ·have hb:(k == NameKind.free)=false:=by simpa using hk
    simp only[hb,Bool.false_eq_true,if_false]
    show (forIn r cs _:Sem _)=_
    rw[ih _ fun y h=>hy y (EH _ h)]
    simp[fV,hb]
 unfold closureFor
 have:=key scope.names [] h
 exact ES (fun z=>z >>= fun r=>pure r) this
theorem eM {env:Env}:∀ {names:List (Str × NameKind)}{cs:List (Str × Addr)}{x:Str}{c:Addr},(∀y∈names,y.2=.free→∃c,env.cells.lookup y.1=some c)→(∀x c,cs.lookup x=some c→env.cells.lookup x=some c) →
  (fV env names cs).lookup x=some c→env.cells.lookup x=some c
 | [],cs,x,c,_,h,e=>h x c e
 | (y,k)::r,cs,x,c,hn,h,e=>by
  unfold fV at e
  refine eM (fun z hz=>hn z (EH _ hz)) ?_ e
  intro z d ez
  by_cases hk:k=.free
  ·subst hk
   obtain⟨c',ec⟩:=hn _ ET rfl
   simp only[beq_self_eq_true,if_true,List.lookup_cons] at ez
   by_cases q:z=y
   ·subst q
    simp[ec] at ez
    rw[ec,ez]
   ·have:(z == y)=false:=by simpa using q
    rw[this] at ez
    exact h z d ez
  ·have hb:(k == NameKind.free)=false:=by simpa using hk
   rw[hb] at ez
   exact h z d ez
theorem kK {env:Env}:∀ {names:List (Str × NameKind)}{cs:List (Str × Addr)}{x:Str},(∃c,cs.lookup x=some c)→∃c,(fV env names cs).lookup x=some c
 | [],cs,x,h=>h
 | (y,k)::r,cs,x,h=>by
  unfold fV
  refine kK ?_
  by_cases hk:k=.free
  ·subst hk
   simp only[beq_self_eq_true,if_true,List.lookup_cons]
   by_cases q:x=y
   ·subst q;simp
   ·have:(x == y)=false:=by simpa using q
    rw[this];exact h
  ·have hb:(k == NameKind.free)=false:=by simpa using hk
   rw[hb];exact h
theorem jD {env:Env}:∀ {names:List (Str × NameKind)}{cs:List (Str × Addr)}{x:Str},(x,NameKind.free)∈names→∃c,(fV env names cs).lookup x=some c
 | [],cs,x,h=>nomatch h
 | (y,k)::r,cs,x,h=>by
  unfold fV
  rcases E3.mp h with e|h
  ·cases e
   exact kK (by simp)
  ·exact jD h
def PTs (X:Cx)(xs:List Expr)(t:TT):Prop :=
 ∀(pins:List (Addr × Obj)) (s:Shared) (σ:L2.St) (H:Hp) (Q:Bool→Hp→Prop),L2.Inv X pins σ H s→t σ H Q →
  wpAny (model X.prog X.w) X.A (forIn xs true fun c r=>if r=true then do let ok ←isTrue c X.env (eval c X.env);pure (ForInStep.yield ok) else pure (ForInStep.yield r)) (TP X pins σ Q) X.xe s
theorem iz {env:Env}:∀xs:List Expr,(forIn xs false fun c r=>if r=true then do let ok ←isTrue c env (eval c env);pure (ForInStep.yield ok) else pure (ForInStep.yield r):Sem Bool)=pure false
 | []=>rfl
 | x::xs=>by
  rw[HQ]
  simp only[Bool.false_eq_true,if_false]
  exact iz xs
theorem o3 {X:Cx}:PTs X [] (fun σ H Q=>Q true H):=fun pins s σ H Q I h=>EG ⟨H,I,h⟩
theorem nO {X:Cx}{x:Expr}{xs:List Expr}{t u:TT}(h1:PT X x t)(h2:PTs X xs u):PTs X (x::xs) (BM t u):=by
 intro pins s σ H Q I h
 rw[HQ]
 simp only[if_true]
 refine D4 (D4 (thn (h1 pins s σ H _ I h) fun b s1 ⟨H1,I1,q1⟩=>?_))
 refine EG ?_
 cases b with
 | true =>
  rw[D9 rfl] at q1
  exact h2 pins s1 σ H1 Q I1 q1
 | false =>
  rw[D_ D1] at q1
  show wpAny _ _ (forIn xs false _) _ _ _
  rw[iz]
  exact EG ⟨H1,I1,q1⟩
theorem lT {prog:Program}{w:World}{A:Around}{R:Result→Shared→Prop}{s:Shared}{elt target iter:Expr}{ifs:List Expr}{scope:Scope}{pos:Pos}{it acc:Value}{env:Env}(I:Nat→Shared→Prop)
  (turn:∀n s,I n s→wpAny (model prog w) A (pyNext it) (fun r s₁=>match r with
   | none=>R (.ok .next) s₁
   | some v=>wpAny (model prog w) A (letOwnedTupleGo target it v) (fun _ s0=>wpAny (model prog w) A (assign target env v) (fun _ s₂ =>
     wpAny (model prog w) A (forIn ifs true fun c r=>if r=true then do let ok ←isTrue c env (eval c env);pure (ForInStep.yield ok) else pure (ForInStep.yield r)) (fun ok s₃ =>
      if ok=true then wpAny (model prog w) A (eval elt env) (fun x s₄ =>
       wpAny (model prog w) A (call (.builtin "list.append") [acc,x]) (fun _ s₅=>∃m,m<n∧I m s₅) (fun _ _=>False) s₄) (fun _ _=>False) s₃
      else ∃m,m<n∧I m s₃) (fun _ _=>False) s₂) (fun _ _=>False) s0) (fun _ _=>False) s₁) (fun _ _=>False) s)
  (n:Nat) (h:I n s):codeAny (model prog w) A (.compLoop (.ListComp elt [⟨target,iter,ifs,0⟩] scope pos) 0 it acc env) R s:=by
 refine codeAny_loop rfl I (fun n s hI=>?_) n h
 show wpAny _ A ((compTurn (.ListComp elt [⟨target,iter,ifs,0⟩] scope pos) 0 it acc env).onRaise (fun x=>do noteFrame x env;theTreesLotGoes x)) _ _ s
 refine wpAny_noted ?_
 rw[compTurn_list]
 refine D4 (wpAny_standAt (D4 (wpAny_mono (turn n s hI) (fun r s₁ h₁=>?_) fun _ _ h'=>h'.elim)))
 cases r with
 | none=>exact EG h₁
 | some v =>
  refine D4 (wpAny_mono h₁ (fun _ s0 h₁=>?_) fun _ _ h'=>h'.elim)
  refine D4 (wpAny_mono h₁ (fun _ s₂ h₂=>D4 (wpAny_mono h₂ (fun ok s₃ h₃=>?_) fun _ _ h'=>h'.elim)) fun _ _ h'=>h'.elim)
  cases ok with
  | false=>exact EG ⟨rfl,h₃⟩
  | true =>
   exact D4 (D4 (wpAny_mono h₃ (fun x s₄ h₄=>D4 (wpAny_mono h₄ (fun _ s₅ h₅=>EG (EG ⟨rfl,h₅⟩)) fun _ _ h'=>h'.elim)) fun _ _ h'=>h'.elim))
noncomputable def cxC (X:Cx)(N:List Str)(s2:Shared)(H2:Hp)(fp:List Addr)(scope:Scope)(C:Addr):Cx :=
 { X with N:=N,s₀:=s2,H₀:=H2,env:=compEnvC scope (fV X.env scope.names []) C X.env,outer:=X.stack,stack:=X.stack,ex:=fp,fn:=fun _=>false,pn:=[],xe:=fun _ _=>False }
structure CScope (X:Cx)(scope:Scope):Prop where
 kind:scope.kind=.function
 nocell:∀y∈scope.names,y.2≠.cell
 nms:∀y∈scope.names,y.2=.local→scope.names.lookup y.1=some .local
 free:∀y∈scope.names,y.2=.free→X.env.kindOf y.1=some .cell∨X.env.kindOf y.1=some .free
theorem iE {scope:Scope}{env:Env}{x:Str}{k:NameKind}(h:(relabel scope env).names.lookup x=some k)(hk:k=.cell∨k=.free)(nc:∀y∈scope.names,y.2≠.cell):(x,NameKind.free)∈scope.names:=by
 have hm:=E_ h
 unfold relabel at hm
 obtain⟨⟨n,k0⟩,hy,e⟩:=HJ.mp hm
 simp only at e
 split at e
 ·rename_i hc
  cases e
  simp only[Bool.and_eq_true,beq_iff_eq] at hc
  have:k0=.free:=hc.1.1
  subst this
  exact hy
 ·cases e
  rcases hk with rfl|rfl
  ·exact absurd rfl (nc _ hy)
  ·exact hy
theorem gA {env:Env}:∀ {names:List (Str × NameKind)}{x:Str},names.lookup x=some .globalImplicit →
  (names.map fun (n,k)=>if (k == NameKind.free && env.scope.kind == .function && env.kindOf n == some .cell) then (n,NameKind.cell) else (n,k)).lookup x=some .globalImplicit
 | [],_,h=>by simp at h
 | (n,k)::r,x,h=>by
  have ih:=@gA env r x
  show List.lookup x ((if (k == NameKind.free && env.scope.kind == .function && env.kindOf n == some .cell)=true then (n,NameKind.cell) else (n,k))::_)=_
  cases hx:x == n with
  | true =>
   simp only[List.lookup_cons,hx] at h
   cases h
   simp[List.lookup_cons,hx]
  | false =>
   simp only[List.lookup_cons,hx] at h
   by_cases hc:(k == NameKind.free && env.scope.kind == .function && env.kindOf n == some .cell)=true
   ·rw[D9 hc];simp only[List.lookup_cons,hx];exact ih h
   ·rw[D_ hc];simp only[List.lookup_cons,hx];exact ih h
theorem cN {env:Env}:∀ {names:List (Str × NameKind)}{x:Str},names.lookup x=some .free →
  (names.map fun (n,k)=>if (k == NameKind.free && env.scope.kind == .function && env.kindOf n == some .cell) then (n,NameKind.cell) else (n,k)).lookup x=some .cell ∨
  (names.map fun (n,k)=>if (k == NameKind.free && env.scope.kind == .function && env.kindOf n == some .cell) then (n,NameKind.cell) else (n,k)).lookup x=some .free
 | [],_,h=>by simp at h
 | (n,k)::r,x,h=>by
  have ih:=@cN env r x
  show List.lookup x ((if (k == NameKind.free && env.scope.kind == .function && env.kindOf n == some .cell)=true then (n,NameKind.cell) else (n,k))::_)=_∨List.lookup x ((if (k == NameKind.free && env.scope.kind == .function && env.kindOf n == some .cell)=true then (n,NameKind.cell) else (n,k))::_)=_
  cases hx:x == n with
  | true =>
   simp only[List.lookup_cons,hx] at h
   cases h
   by_cases hc:(NameKind.free == NameKind.free && env.scope.kind == .function && env.kindOf n == some .cell)=true
   ·rw[D9 hc];simp[List.lookup_cons,hx]
   ·rw[D_ hc];simp[List.lookup_cons,hx]
  | false =>
   simp only[List.lookup_cons,hx] at h
   by_cases hc:(k == NameKind.free && env.scope.kind == .function && env.kindOf n == some .cell)=true
   ·rw[D9 hc];simp only[List.lookup_cons,hx];exact ih h
   ·rw[D_ hc];simp only[List.lookup_cons,hx];exact ih h
section
variable {X:Cx}{pins:List (Addr × Obj)}{σ:L2.St}{H2:Hp}{s2:Shared}{fp:List Addr}{scope:Scope}{C:Addr}{N:List Str}
theorem CScope.cells (S:CScope X scope)(I:L2.Inv X pins σ H2 s2):∀y∈scope.names,y.2=.free→∃c,X.env.cells.lookup y.1=some c:=fun y hy hf=>I.ok.has y.1 (S.free y hy hf)
theorem wU (S:CScope X scope)(I:L2.Inv X pins σ H2 s2)(f2:∀b∈fp,iI X pins H2 b)(fl:∀b∈fp,b<s2.heap.objs.size)(hC:s2.heap.objs.size≤C):(cxC X N s2 H2 fp scope C).Ok where
 mod:=I.ok.mod
 kind:=S.kind
 glob:=I.ok.glob
 blt:=I.ok.blt
 above:=hC
 inj:=fun x y c h1 h2=>I.ok.inj x y c (eM (S.cells I) (fun _ _ z=>by simp at z) h1) (eM (S.cells I) (fun _ _ z=>by simp at z) h2)
 has:=fun x hx=>by
  refine jD (x:=x) ?_
  rcases hx with h|h
  ·exact iE h (.inl rfl) S.nocell
  ·exact iE h (.inr rfl) S.nocell
 cab:=fun x c h=>by cases h
 hd:=I.ok.hd
 frames:=I.ok.frames
 stk:=.inl rfl
 exf:=fun b hb=>⟨EM (EB (fl b hb) hC),fun x c h=>(f2 b hb).2.2.2.2.1 x c (eM (S.cells I) (fun _ _ z=>by simp at z) h)⟩
 bs:=I.bs
 bsz:=EX I.ok.bsz I.sz
 noex:=fun b o e hb=>by
  rcases (f2 b hb).2.2.2.1 with z|z
  ·exact I.ok.noex b o e z
  ·have:=D8 e
   exact absurd (EB (EB this I.ok.bsz) z) (F5 _)
 exfs:=fun b hb hf=>by
  rcases E3.mp (I.stkSub b hf) with z|z
  ·exact(f2 b hb).2.1 z
  ·exact(f2 b hb).2.2.1 z
 funs:=I.stack
 frf:=I.stkFree
theorem sZ {H3:Hp}{h1:Heap}{tk:Nat}{nt:List Str}{cn:List Str}{caps:List Nat}(S:CScope X scope)(I:L2.Inv X pins σ H2 s2)(f2:∀b∈fp,iI X pins H2 b)(fl:∀b∈fp,b<s2.heap.objs.size)(hC:s2.heap.objs.size≤C)
  (un:Un (frs X.stack) fp H2 H3 s2.heap h1) (hok:HOk X.prog X.w H3 h1) (ns:h1.Ns C (fun _=>none)) (hn:H3 C=none) (keep:∀b o,s2.heap.get? b=some o→h1.get? b=some o) (free:∀b o,s2.heap.get? b=some o→H2 b=none→H3 b=none)
  (hcn:cn=caps.filterMap (X.N[·]?)) (hcl:∀i∈caps,i<X.N.length) (hcf:∀x∈cn,scope.names.lookup x=some .free) (hce:∀x∈cn,X.env.kindOf x=some .cell∨X.env.kindOf x=some .free) :
  L2.Inv (cxC X (nt++cn) s2 H2 fp scope C) [] (nt.map (fun _=>none)++caps.map fun i=>(σ[i]?).join) H3 { s2 with heap:=h1,toks:=tk }:=by
 have cel:∀x c,(fV X.env scope.names []).lookup x=some c→X.env.cells.lookup x=some c:=fun x c h=>eM (S.cells I) (fun _ _ z=>by simp at z) h
 have lenc:cn.length=caps.length:=by
  rw[hcn]
  clear hcf hce hcn
  induction caps with
  | nil=>rfl
  | cons i r ih =>
   have:X.N[i]?=some (X.N[i]'(hcl i ET)):=EZ (hcl i ET)
   rw[E7,this]
   simp only[List.length_cons]
   rw[ih fun j hj=>hcl j (EH _ hj)]
 have getc:∀(j i:Nat),caps[j]?=some i→∃x,cn[j]?=some x∧X.N[i]?=some x:=by
  rw[hcn]
  clear hcf hce hcn lenc
  induction caps with
  | nil=>intro j i h;simp at h
  | cons k r ih =>
   intro j i h
   have hk:X.N[k]?=some (X.N[k]'(hcl k ET)):=EZ (hcl k ET)
   rw[E7,hk]
   cases j with
   | zero=>simp at h;subst h;exact⟨_,rfl,hk⟩
   | succ j=>exact ih (fun j hj=>hcl j (EH _ hj)) j i (by simpa using h)
 refine⟨wU S I f2 fl hC,rfl,I.bare,un,⟨_,ns,fun i x v e1 e2 e3=>?_⟩,fun x c e=>?_,hn,fun x c e=>?_,fun p hp=>absurd (show p∈([]:List (Addr × Obj)) from hp) (by simp),hok,?_⟩
 ·by_cases hi:i<nt.length
  ·rw[EJ (by simpa using hi),EL] at e2
   cases q:nt[i]? with
   | none=>rw[q] at e2;cases e2
   | some z=>rw[q] at e2;cases e2
  ·rw[EA (by simpa using hi),EN,EL] at e2
   have e1':(nt++cn)[i]?=some x:=e1
   rw[EA (by omega)] at e1'
   cases q:caps[i-nt.length]? with
   | none=>rw[q] at e2;cases e2
   | some j =>
    rw[q] at e2
    have e2':(σ[j]?).join=some v:=EU e2
    obtain⟨y,g1,g2⟩:=getc _ _ q
    rw[e1'] at g1
    cases g1
    have e4:σ[j]?=some (some v):=by
     cases z:σ[j]? with
     | none=>rw[z] at e2';cases e2'
     | some w=>rw[z] at e2';rw[show w=some v from e2']
    obtain⟨m,hm,hl⟩:=I.loc
    have kx:=hce x (ER e1')
    obtain⟨u,ru,lk⟩:=hl j x v g2 e4 (.inr (by rcases kx with k|k;exact .inl k;exact .inr k))
    refine⟨u,ru,.inr ⟨cN (hcf x (ER e1')),?_⟩⟩
    rcases lk with⟨k,_⟩|⟨_,c,ec,hc⟩
    ·rcases kx with k' | k' <;> rw[k] at k' <;> cases k'
    ·obtain⟨c',ec'⟩:=jD (env:=X.env) (names:=scope.names) (cs:=[]) (x:=x) (E_ (hcf x (ER e1')))
     have:=cel x c' ec'
     rw[ec] at this
     cases this
     obtain⟨o,ho,hd⟩:=hc
     exact⟨c,ec',o,keep _ _ ho,hd⟩
 ·obtain⟨v,o,ho,hd⟩:=I.cell x c (cel x c e)
  exact⟨v,o,keep _ _ ho,hd⟩
 ·obtain⟨v,o,ho,hd⟩:=I.cell x c (cel x c e)
  exact free c o ho (I.freeC x c (cel x c e))
 ·show (nt.map (fun _=>(none:Option V))++caps.map fun i=>(σ[i]?).join).length=(nt++cn).length
  simp[lenc]
end
end FW
namespace FW
open L2 HX
section
variable {Γ:Nat→FSp}
mutual
theorem ky {n:Nat}(G:aO Γ):∀(t:Tg) {v:PV}{ρ:Fr}{st:AH}{Q:Fr→AH→Prop},t.low n=true→bN Γ t v ρ st Q→bN Γ t v ρ st fun ρ' st'=>Q ρ' st'∧∀i,n≤i→ρ'[i]?=ρ[i]?
 | .name i,v,ρ,st,Q,h,q=>by
  skip
  rw[Tg.low] at h
  have:=FP h
  exact⟨q,fun j hj=>EQ (by omega)⟩
 | .tup ts,v,ρ,st,Q,h,q=>by
  skip
  rw[Tg.low] at h
  obtain⟨xs,e,hl,q⟩:=q
  exact⟨xs,e,hl,fZ G ts h q⟩
 | .ltup ts,v,ρ,st,Q,h,q=>by
  skip
  rw[Tg.low] at h
  obtain⟨xs,e,hl,q⟩:=q
  exact⟨xs,e,hl,fZ G ts h q⟩
 | .sub _ _,v,ρ,st,Q,h,q=>by rw[Tg.low] at h;cases h
theorem fZ {n:Nat}(G:aO Γ):∀(t:Tgs) {v:List PV}{ρ:Fr}{st:AH}{Q:Fr→AH→Prop},t.low n=true→dO Γ t v ρ st Q→dO Γ t v ρ st fun ρ' st'=>Q ρ' st'∧∀i,n≤i→ρ'[i]?=ρ[i]?
 | .nil,v,ρ,st,Q,h,q=>by exact⟨q.1,q.2,fun _ _=>rfl⟩
 | .cons t ts,v,ρ,st,Q,h,q=>by
  skip
  rw[Tgs.low,D6] at h
  obtain⟨x,r,e,q⟩:=q
  refine⟨x,r,e,aK G t (fun ρ1 st1 k=>?_) (ky G t h.1 q)⟩
  refine de G ts (fun ρ2 st2 k2=>⟨k2.1,fun i hi=>(k2.2 i hi).trans (k.2 i hi)⟩) (fZ G ts h.2 k.1)
end
end
mutual
theorem R.mono0 {K:W.Frag}{m:List Addr}{H H':Hp}(ht:∀a ys,SqT K H a ys→SqT K H' a ys)(hr:∀a ys,RdF K H a ys→RdF K H' a ys):∀ {p:PV}{v:V},R K m H p v→R K m H' p v
 | .non,v,h=>by rw[R_non] at h ⊢;exact h
 | .bl b,v,h=>by rw[R_bl] at h ⊢;exact h
 | .int b,v,h=>by rw[R_int] at h ⊢;exact h
 | .str b,v,h=>by rw[R_str] at h ⊢;exact h
 | .ref n,v,h=>by rw[dM] at h ⊢;exact h
 | .tup xs,v,h=>by rw[R_tup] at h ⊢;obtain⟨a,ys,e,q,r⟩:=h;exact⟨a,ys,e,ht _ _ q,Rs.mono0 ht hr r⟩
 | .rdl xs,v,h=>by rw[dz] at h ⊢;obtain⟨a,ys,e,q,r⟩:=h;exact⟨a,ys,e,hr _ _ q,Rs.mono0 ht hr r⟩
 | .fn a,v,h=>by rw[pN] at h ⊢;exact h
theorem Rs.mono0 {K:W.Frag}{m:List Addr}{H H':Hp}(ht:∀a ys,SqT K H a ys→SqT K H' a ys)(hr:∀a ys,RdF K H a ys→RdF K H' a ys):∀ {ps:List PV}{vs:List V},Rs K m H ps vs→Rs K m H' ps vs
 | [],vs,h=>by rw[Rs_nil] at h ⊢;exact h
 | p::ps,vs,h=>by
  rw[Rs_cons] at h ⊢
  obtain⟨y,r,e,h1,h2⟩:=h
  exact⟨y,r,e,R.mono0 ht hr h1,Rs.mono0 ht hr h2⟩
end
theorem fv {K:W.Frag}{H:Hp}{D:Addr}{ys zs:List V}(hD:H D=some (.lst ys)):∀a us,SqT K H a us→SqT K (upd H D (.lst zs)) a us:=fun a us q=>by
 rcases q with (q|⟨w,q⟩)|q
 ·exact .inl (.inl (by rw[ae (fun z=>by subst z;rw[hD] at q;cases q)];exact q))
 ·exact .inl (.inr ⟨w,by rw[ae (fun z=>by subst z;rw[hD] at q;cases q)];exact q⟩)
 ·exact .inr q
theorem eS {K:W.Frag}{H:Hp}{D:Addr}{ys zs:List V}(hD:H D=some (.lst ys)):∀a us,RdF K H a us→RdF K (upd H D (.lst zs)) a us:=fun a us q=>by
 rcases q with⟨w,q⟩|q
 ·exact .inl ⟨w,by rw[ae (fun z=>by subst z;rw[hD] at q;cases q)];exact q⟩
 ·exact .inr q
theorem TB.away {K:W.Frag}{H:Hp}{D:Addr}{ys zs:List V}(t:TB K H)(hD:H D=some (.lst ys)):TB K (upd H D (.lst zs)) :=
 t.keep (fun a ps q=>by rw[ae (fun z=>by subst z;rw[hD] at q;cases q)];exact q) fun a o q=>by rw[ae (fun z=>by subst z;rw[hD] at q;cases q)];exact q
theorem Ext.away {K:W.Frag}{m m':List Addr}{H H':Hp}{D:Addr}{ys zs:List V}(x:Ext K m H m' H')(h0:H D=none)(hD:H' D=some (.lst ys)):Ext K m H m' (upd H' D (.lst zs)) :=
 ⟨x.pre,x.new,fun a o ha e n=>by rw[ae (aj e h0)];exact x.fr a o ha e n,fun a us q=>fv hD a us (x.tup a us q),fun a us q=>eS hD a us (x.rdf a us q),fun a ps ha e=>let ⟨p1,e1⟩:=x.tbs a ps ha e;⟨p1,by rw[ae (aj e h0)];exact e1⟩,fun t=>(x.tb t).away hD,fun a o u e=>by rw[ae (aj e h0)];exact x.frz a o u e⟩
theorem RH.away {K:W.Frag}{m:List Addr}{H:Hp}{st:AH}{D:Addr}{ys zs:List V}(h:RH K m H st)(hm:D ∉ m)(hD:H D=some (.lst ys)):RH K m (upd H D (.lst zs)) st:=by
 refine⟨h.len,h.nd,fun n c a h1 h2=>?_,h.tb.away hD⟩
 have ha:a≠D:=fun z=>hm (z ▸ ER h2)
 have hc:=h.at_ n c a h1 h2
 cases c with
 | lst xs=>obtain⟨us,g1,g2⟩:=hc;exact⟨us,by rw[ae ha];exact g1,g2.mono0 (fv hD) (eS hD)⟩
 | dk kvs=>obtain⟨us,g1,g2,g3⟩:=hc;exact⟨us,by rw[ae ha];exact g1,g2,g3.mono0 (fv hD) (eS hD)⟩
 | fz kvs=>obtain⟨o,us,g1,g2,g3⟩:=hc;exact⟨o,us,by rw[ae ha];exact g1,g2,g3.mono0 (fv hD) (eS hD)⟩
theorem RF.away {K:W.Frag}{m:List Addr}{H:Hp}{ρ:Fr}{σ:L2.St}{D:Addr}{ys zs:List V}(h:RF K m H ρ σ)(hD:H D=some (.lst ys)):RF K m (upd H D (.lst zs)) ρ σ :=
 ⟨h.len,fun i v e=>let ⟨y,e1,r⟩:=h.at_ i v e;⟨y,e1,r.mono0 (fv hD) (eS hD)⟩⟩
theorem RF.less {K:W.Frag}{m:List Addr}{H:Hp}{ρ ρ':Fr}{σ:L2.St}{n:Nat}(h:RF K m H ρ' σ)(hl:ρ.length=ρ'.length)(hn:∀i v,ρ[i]?=some (some v)→n≤i)(hp:∀i,n≤i→ρ'[i]?=ρ[i]?):RF K m H ρ σ :=
 ⟨hl.trans h.len,fun i v e=>h.at_ i v (by rw[hp i (hn i v e)];exact e)⟩
theorem k9 {nt:List Str}{f:Nat→Option PV}{caps:List Nat}:∀(i:Nat) (v:PV),(nt.map (fun _=>(none:Option PV))++caps.map f)[i]?=some (some v)→nt.length≤i:=fun i v e=>by
 by_cases hi:i<nt.length
 ·rw[EJ (by simpa using hi),EL] at e
  cases q:nt[i]? with
  | none=>rw[q] at e;cases e
  | some z=>rw[q] at e;cases e
 ·omega
theorem u0 {K:W.Frag}{m:List Addr}{H:Hp}{ρ:Fr}{σ:L2.St}{nt:List Str}{caps:List Nat}(h:RF K m H ρ σ) :
  RF K m H (nt.map (fun _=>none)++caps.map fun i=>(ρ[i]?).join) (nt.map (fun _=>none)++caps.map fun i=>(σ[i]?).join):=by
 refine⟨by simp,fun i v e=>?_⟩
 have hi:=k9 i v e
 rw[EA (by simpa using hi),EN,EL] at e
 rw[EA (by simpa using hi),EN,EL]
 cases q:caps[i-nt.length]? with
 | none=>rw[q] at e;cases e
 | some j =>
  rw[q] at e
  have e':(ρ[j]?).join=some v:=EU e
  have e4:ρ[j]?=some (some v):=by
   cases z:ρ[j]? with
   | none=>rw[z] at e';cases e'
   | some w=>rw[z] at e';rw[show w=some v from e']
  obtain⟨y,e5,r⟩:=h.at_ j v e4
  exact⟨y,by show some ((σ[j]?).join)=_;rw[e5];rfl,r⟩
section
variable {X:Cx}{Γ:Nat→FSp}{pins:List (Addr × Obj)}{σ:L2.St}{H:Hp}{s:Shared}
noncomputable def cP (K:W.Frag)(m1:List Addr)(H1:Hp)(Fin:Addr→Hp→Prop):LK:=fun vs st2=>∀m2 H2 D ys,Ext K m1 H1 m2 H2→RH K m2 H2 st2→D ∉ m2→H1 D=none→H2 D=some (.lst ys)→Rs K m2 H2 vs ys→Fin D H2
noncomputable def dv (Γ:Nat→FSp)(elt:E)(tg:Tg)(ifs:Es)(ρ:Fr):PV→AH→(Option PV→AH→Prop)→Prop:=fun x st2 k=>bN Γ tg x ρ st2 fun ρ' st3=>eC Γ ifs ρ' st3 fun c st4=>if c=true then wpE Γ elt ρ' st4 fun v st5=>k (some v) st5 else k none st4
theorem lj (G:aO Γ)(hcalm:X.calm=true){elt:E}{tg:Tg}{ifs:Es}{nt:List Str}{caps:List Nat}{cn:List Str}{eltx tgx iterx:Expr}{ifsx:List Expr}{scope:Scope}{pos p0:Pos}{use:Option (Value→Sem Unit)}{Qf:Value→Shared→Prop}{Fin:Addr→Hp→Prop}{wi:TI}
  (S:CScope X scope) (hcn:cn=caps.filterMap (X.N[·]?)) (hcl:∀i∈caps,i<X.N.length) (hcf:∀x∈cn,scope.names.lookup x=some .free) (hce:∀x∈cn,X.env.kindOf x=some .cell∨X.env.kindOf x=some .free)
  (hset:dL iterx=true) (hlow:tg.low nt.length=true) (hI:PI X tgx iterx wi)
  (hG:∀s2 H2 fp C,PG (cxC X (nt++cn) s2 H2 fp scope C) tgx (TGx X.K (bN Γ tg)))
  (hT:∀s2 H2 fp C,PTs (cxC X (nt++cn) s2 H2 fp scope C) ifsx (TTx X.K (eC Γ ifs)))
  (hE:∀s2 H2 fp C,PE (cxC X (nt++cn) s2 H2 fp scope C) eltx (TEx X.K (wpE Γ elt)))
  (I:L2.Inv X pins σ H s)
  (h:wi σ H fun J H1=>∃m ρ st1 xs chk,RF X.K m H1 ρ σ∧RH X.K m H1 st1∧j4 X.K J xs chk m H1∧xs.length<100000∧c8 chk (dv Γ elt tg ifs (nt.map (fun _=>none)++caps.map fun i=>(ρ[i]?).join)) xs [] st1 (cP X.K m H1 Fin))
  (fin:∀C D H' s' m',L2.Inv X pins σ H' s'→s'.heap.Ns C m'→iI X pins H' C→Fin D H'→compPost (model X.prog X.w) X.A X.xe use Qf (.ref D) C (.ok .next) s') :
  wpAny (model X.prog X.w) X.A (comprehension (.ListComp eltx [⟨tgx,iterx,ifsx,0⟩] scope pos) scope X.env p0 (newList []) false (eval iterx X.env) use) Qf X.xe s:=by
 refine wpAny_comprehension_free (use:=use) rfl (jF hset) (oK (S.cells I)) S.kind S.nms ?_
 refine thn (hI pins s σ H _ I h) fun v s1 h1=>thn h1 fun itv s2 h2=>?_
 obtain⟨it,fp,tn,J,H2,e,I2,T,st2,f2,m,ρ,st1,xs,chk,rf,rh,W,hxs,w⟩:=h2
 subst e
 have fl:∀b∈fp,b<s2.heap.objs.size:=fun b hb=>by
  obtain⟨o,e,_⟩:=T.obj 0 _ st2 b hb
  exact D8 e
 refine wpAny_newObj_type (wpAny_newFunctionEnv S.nocell (by intro y hy;simp at hy) (fun h₁ hns₁ hsb₁=>?_) S.kind)
 dsimp only at hns₁ hsb₁ ⊢
 generalize hD:s2.heap.objs.size=D at *
 generalize hH3:s2.heap.push { cls:=.type "list",dict:=none,data:=.seq ([]:List Value).toArray }=P3 at hns₁ hsb₁ ⊢
 generalize hCC:P3.objs.size=C at *
 have hC1:C=D+1:=by rw[←hCC,←hH3,Heap.size_push,hD]
 have ltDC:D<C:=by rw[hC1];exact HG D
 have neC:∀b,b<D→b≠C:=fun b hb=>EM (HI hb ltDC)
 have hDn:H2 D=none:=by rw[←hD];exact I2.hok.fresh (D7 _)
 have hCn:H2 C=none:=I2.hok.fresh (by rw[hD];exact E8 ltDC)
 have old3:∀b o,s2.heap.get? b=some o→P3.get? b=some o:=fun b o e=>hH3 ▸ D5 _ e
 have old:∀b o,s2.heap.get? b=some o→h₁.get? b=some o:=fun b o e=>hsb₁.extBut b o (neC b (hD ▸ D8 e)) (D5 _ (old3 b o e))
 have newD:h₁.get? D=some { cls:=.type "list",data:=.seq #[] }:=hsb₁.extBut _ _ (EM ltDC) (D5 _ (by rw [←hH3,←hD];exact EC _ rfl))
 have un:Un (frs X.stack) fp H2 (upd H2 D (.lst [])) s2.heap h₁:=Un.laid old (by rw[hD];exact D7 _) hDn
 have hok:HOk X.prog X.w (upd H2 D (.lst [])) h₁:=I2.hok.laid old (by rw[hD];exact D7 _) ⟨GJ _,[],0,.nil,newD⟩
 have I4:=sZ (nt:=nt) (tk:=s2.toks+([]:List (Str × Value)).length) S I2 f2 (by rw[hD];exact fl) (C:=C) (by rw[hD];exact E8 ltDC) un hok (by simpa using hns₁) (by rw[ae (F_ ltDC)];exact hCn) old
  (fun b o e n=>by rw[ae (EM (hD ▸ D8 e))];exact n) hcn hcl hcf hce
 generalize hρ0:(nt.map (fun _=>none)++caps.map fun i=>(ρ[i]?).join:Fr)=ρ0 at w
 have hρn:∀i v,ρ0[i]?=some (some v)→nt.length≤i:=by rw[←hρ0];exact k9
 have rf0:RF X.K m H2 ρ0 (nt.map (fun _=>none)++caps.map fun i=>(σ[i]?).join):=by rw[←hρ0];exact u0 rf
 generalize (nt.map (fun _=>none)++caps.map fun i=>(σ[i]?).join:L2.St)=σ0 at I4 rf0
 have loop:codeAny (model X.prog X.w) X.A (.compLoop (.ListComp eltx [⟨tgx,iterx,ifsx,0⟩] scope pos) 0 (.ref it) (.ref D) (compEnvC scope (fV X.env scope.names []) C X.env)) (compPost (model X.prog X.w) X.A X.xe use Qf (.ref D) C)
   { s2 with heap:=h₁,toks:=s2.toks+([]:List (Str × Value)).length }:=by
  refine lT (fun n s'=>∃(i:Nat),∃σ' H' m' st' acc ys,n+i=xs.length∧L2.Inv (cxC X (nt++cn) s2 H2 fp scope C) [] σ' H' s'∧tn i s'.heap∧(∀b∈fp,H' b=none)∧Ext X.K m H2 m' H'∧RH X.K m' H' st'∧RF X.K m' H' ρ0 σ'∧D ∉ m'∧H' D=some (.lst ys)∧Rs X.K m' H' acc ys∧ys.length≤i ∧
   c8 chk (dv Γ elt tg ifs ρ0) (xs.drop i) acc st' (cP X.K m H2 Fin)) ?_ xs.length
   ⟨0,σ0,_,m,st1,[],[],rfl,I4,T.keep 0 _ _ st2 (fun b _ o e=>old b o e),fun b hb=>by rw[ae (EM (fl b hb))];exact(f2 b hb).1,Ext.newT rh hDn,rh.newT hDn,rf0.mono (Ext.newT rh hDn),rh.fresh hDn,av,Rs_nil.mpr rfl,D7 _,by simpa using w⟩
  rintro n s' ⟨i,σ',H',m',st',acc,ys,hn,I',tni,fpn,x',rh',rf',Dm,hDl,rys,hly,k⟩
  have stat:∀ {H'':Hp},(∀b∈fp,H'' b=none)→∀b∈fp,iI (cxC X (nt++cn) s2 H2 fp scope C) [] H'' b:=fun hz b hb=>⟨hz b hb,(I'.ok.exf b hb).1,I'.ok.exfs b hb,.inl hb,(I'.ok.exf b hb).2,fun p hp=>absurd (show p∈([]:List (Addr × Obj)) from hp) (by simp)⟩
  cases q:xs.drop i with
  | nil =>
   rw[q] at k
   have hi:i=xs.length:=by
    have:=ES List.length q
    simp at this
    omega
   subst hi
   refine thn (T.done (cxC X (nt++cn) s2 H2 fp scope C) rfl rfl rfl hcalm _ [] s' σ' H' (fun _ _=>False) I' (stat fpn) tni (W.stop m' H' st' x' rh' k.1)) fun r s1 ⟨hr,I1⟩=>?_
   subst hr
   have IX:L2.Inv X pins σ H' s1:=I2.call' I1.os I1.base I1.hok I1.bare fun b hb=>⟨(f2 b hb).2.2.2.1,(f2 b hb).2.1,(f2 b hb).2.2.2.2.1,(f2 b hb).2.2.2.2.2⟩
   obtain⟨mm,hns,_⟩:=I1.loc
   exact fin C D H' s1 mm IX hns (I2.fpOk (by rw[hD];exact E8 ltDC) I1.free) (k.2 m' H' D ys x' rh' Dm hDn hDl rys)
  | cons v rest =>
   rw[q] at k
   have hi:i<xs.length:=by
    have:=ES List.length q
    simp at this
    omega
   have ev:xs[i]?=some v:=by
    have:=ES List.head? q
    rw[HR] at this
    exact this
   have er:rest=xs.drop (i+1):=by
    have:=ES List.tail q
    rw[HZ] at this
    exact this.symm
   subst er
   obtain⟨kc,k⟩:=k
   obtain⟨go,yl⟩:=W.item i v m' H' st' x' rh' kc ev
   refine thn (T.item (cxC X (nt++cn) s2 H2 fp scope C) rfl rfl rfl hcalm i [] s' σ' H' (fun _ _=>False) I' (stat fpn) tni go) fun r s4 ⟨u,hr,h4⟩=>?_
   subst hr
   refine thn h4 fun _ s5 ⟨x,H5,I5,r5,y5,tn5,fr5⟩=>?_
   obtain⟨x5,rh5,rv5⟩:=yl x H5 y5
   have I5':=I5.pinned (stat fr5) (T.obj _ _ tn5)
   have again:∀ {σ7:L2.St}{H7:Hp}{s7:Shared}{m7:List Addr}{st7:AH}{acc7:List PV}{ys7:List V},L2.Inv (cxC X (nt++cn) s2 H2 fp scope C) ([]++ju fp s5.heap) σ7 H7 s7→Ext X.K m H2 m7 H7→RH X.K m7 H7 st7→RF X.K m7 H7 ρ0 σ7→D ∉ m7→H7 D=some (.lst ys7) →
     Rs X.K m7 H7 acc7 ys7→ys7.length≤i+1→c8 chk (dv Γ elt tg ifs ρ0) (xs.drop (i+1)) acc7 st7 (cP X.K m H2 Fin) →
     ∃n',n'<n∧∃(i:Nat),∃σ' H' m' st' acc ys,n'+i=xs.length∧L2.Inv (cxC X (nt++cn) s2 H2 fp scope C) [] σ' H' s7∧tn i s7.heap∧(∀b∈fp,H' b=none)∧Ext X.K m H2 m' H'∧RH X.K m' H' st'∧RF X.K m' H' ρ0 σ'∧D ∉ m'∧H' D=some (.lst ys)∧Rs X.K m' H' acc ys∧ys.length≤i ∧
      c8 chk (dv Γ elt tg ifs ρ0) (xs.drop i) acc st' (cP X.K m H2 Fin):=fun {σ7 H7 s7 m7 st7 acc7 ys7} I7 g1 g2 g3 g4 g5 g6 g7 g8=>by
    refine⟨n-1,by omega,i+1,σ7,H7,m7,st7,acc7,ys7,by omega,I7.unpinned,T.keep _ _ _ tn5 fun b hb o e=>(I7.pin (b,o) (E1 _ (E1 _ (dY hb e)))).1,fun b hb=>?_,g1,g2,g3,g4,g5,g6,g7,g8⟩
    obtain⟨o,e,d⟩:=T.obj _ _ tn5 b hb
    exact(I7.pin (b,o) (E1 _ (E1 _ (dY hb e)))).2.1
   have k2:=ky (n:=nt.length) G tg hlow k
   refine thn (hG s2 H2 fp C _ s5 σ' H5 x u (fun σ6 H6=>∃m6 ρ1 st6,Ext X.K m' H5 m6 H6∧RH X.K m6 H6 st6∧RF X.K m6 H6 ρ1 σ6∧(∀j,nt.length≤j→ρ1[j]?=ρ0[j]?) ∧
    eC Γ ifs ρ1 st6 fun c st4=>if c=true then wpE Γ elt ρ1 st4 fun vv st5=>c8 chk (dv Γ elt tg ifs ρ0) (xs.drop (i+1)) (acc++[vv]) st5 (cP X.K m H2 Fin) else c8 chk (dv Γ elt tg ifs ρ0) (xs.drop (i+1)) acc st4 (cP X.K m H2 Fin)) I5' r5
    ⟨m',ρ0,st',v,rf'.mono x5,rh5,rv5,aK G tg (fun ρ1 st6 z m6 H6 σ6 x6 rh6 rf6=>⟨m6,ρ1,st6,x6,rh6,rf6,z.2,bu G ifs (fun c st4 zz=>by
     cases c with
     | true=>rw[D9 rfl] at zz ⊢;exact zz
     | false=>rw[D_ D1] at zz ⊢;simpa using zz) z.1⟩) k2⟩) fun _ s6 ⟨σ6,H6,I6,m6,ρ1,st6,x6,rh6,rf6,pr,w6⟩=>?_
   have hlen:ρ0.length=ρ1.length:=by rw[rf6.len,I6.len,rf'.len,I'.len]
   refine thn (hT s2 H2 fp C _ s6 σ6 H6 (fun b H7=>∃m7 st7,Ext X.K m6 H6 m7 H7∧RH X.K m7 H7 st7∧if b=true then wpE Γ elt ρ1 st7 fun vv st5=>c8 chk (dv Γ elt tg ifs ρ0) (xs.drop (i+1)) (acc++[vv]) st5 (cP X.K m H2 Fin) else c8 chk (dv Γ elt tg ifs ρ0) (xs.drop (i+1)) acc st7 (cP X.K m H2 Fin)) I6
    ⟨m6,ρ1,st6,rf6,rh6,bu G ifs (fun b st7 z m7 H7 x7 rh7=>⟨m7,st7,x7,rh7,z⟩) w6⟩) fun b s7 ⟨H7,I7,m7,st7,x7,rh7,w7⟩=>?_
   have xx7:Ext X.K m' H' m7 H7:=(x5.trans x6).trans x7
   cases b with
   | false =>
    rw[D_ D1] at w7 ⊢
    refine again I7 (x'.trans xx7) rh7 ((rf6.mono x7).less hlen hρn pr) (fun z=>?_) (xx7.fr D _ Dm hDl fun _ z=>nomatch z) (rys.mono xx7) (by omega) w7
    rcases xx7.new D z with z|z
    ·exact Dm z
    ·rw[hDl] at z;cases z
   | true =>
    rw[D9 rfl] at w7 ⊢
    refine thn (hE s2 H2 fp C _ s7 σ6 H7 (fun y H8=>∃m8 st8 vv,Ext X.K m7 H7 m8 H8∧RH X.K m8 H8 st8∧R X.K m8 H8 vv y∧c8 chk (dv Γ elt tg ifs ρ0) (xs.drop (i+1)) (acc++[vv]) st8 (cP X.K m H2 Fin)) I7
     ⟨m7,ρ1,st7,rf6.mono x7,rh7,aa G elt (fun vv st8 z m8 H8 y x8 rh8 r8=>⟨m8,st8,vv,x8,rh8,r8,z⟩) w7⟩) fun uy s8 ⟨y,H8,I8,ry,m8,st8,vv,x8,rh8,r8,w8⟩=>?_
    have xx8:Ext X.K m' H' m8 H8:=xx7.trans x8
    have hD8:H8 D=some (.lst ys):=xx8.fr D _ Dm hDl fun _ z=>nomatch z
    have Dm8:D ∉ m8:=fun z=>by
     rcases xx8.new D z with z|z
     ·exact Dm z
     ·rw[hDl] at z;cases z
    refine thn (kF (X:=cxC X (nt++cn) s2 H2 fp scope C) _ s8 σ6 H8 (.ref D) [y] (.ref D) [uy] (fun _ H9=>H9=upd H8 D (.lst (ys++[y]))) I8 rfl (.cons ry .nil) ⟨D,ys,y,rfl,rfl,hD8,eX (by omega),rfl⟩) fun _ s9 ⟨_,H9,I9,_,e9⟩=>?_
    subst e9
    exact again I9 ((x'.trans xx8).away hDn hD8) (rh8.away Dm8 hD8) ((((rf6.mono x7).mono x8).less hlen hρn pr).away hD8) Dm8 av (((rys.mono xx8).app (.one r8)).mono0 (fv hD8) (eS hD8)) (by simp;omega) w8
 exact codeAny_compStart_list loop (T.self X.A 0 _ _ _ (T.keep 0 _ _ st2 fun b _ o e=>old b o e) loop)
end
end FW
namespace FW
open L2 HX
mutual
theorem R.pre {K:W.Frag}{m m':List Addr}{H:Hp}(hp:m <+: m'):∀ {p:PV}{v:V},R K m H p v→R K m' H p v
 | .non,v,h=>by rw[R_non] at h ⊢;exact h
 | .bl b,v,h=>by rw[R_bl] at h ⊢;exact h
 | .int b,v,h=>by rw[R_int] at h ⊢;exact h
 | .str b,v,h=>by rw[R_str] at h ⊢;exact h
 | .fn b,v,h=>by rw[pN] at h ⊢;exact h
 | .ref n,v,h=>by rw[dM] at h ⊢;obtain⟨a,e,q⟩:=h;exact⟨a,eW hp e,q⟩
 | .tup xs,v,h=>by rw[R_tup] at h ⊢;obtain⟨a,ys,e,q,r⟩:=h;exact⟨a,ys,e,q,Rs.pre hp r⟩
 | .rdl xs,v,h=>by rw[dz] at h ⊢;obtain⟨a,ys,e,q,r⟩:=h;exact⟨a,ys,e,q,Rs.pre hp r⟩
theorem Rs.pre {K:W.Frag}{m m':List Addr}{H:Hp}(hp:m <+: m'):∀ {ps:List PV}{vs:List V},Rs K m H ps vs→Rs K m' H ps vs
 | [],vs,h=>by rw[Rs_nil] at h ⊢;exact h
 | p::ps,vs,h=>by
  rw[Rs_cons] at h ⊢
  obtain⟨y,r,e,h1,h2⟩:=h
  exact⟨y,r,e,R.pre hp h1,Rs.pre hp h2⟩
end
section
variable {Γ:Nat→FSp}{X:Cx}{c:Cfg}
theorem pi {k:Option NameKind}(h:qk k=true):k=some .cell∨k=some .free:=by
 unfold qk at h
 simpa using h
end
end FW
namespace FW
open L2 HX
theorem wy {P:Program}{w:World}{k:Key}{u:Value}(h:(aB P w).is k u=true):L2.RelV (kV k) u:=by
 rcases aR h with⟨i,t,rfl,rfl⟩|⟨x,t,rfl,rfl⟩
 ·exact⟨t,rfl⟩
 ·exact⟨t,rfl⟩
def ObD (P:Program)(w:World)(a:Addr)(o:Obj)(ys:List (Key × V))(vs:List (Key × Value))(ep:Nat):Prop:=KV ys vs∧∀h:Heap,h.get? a=some o→h.DictAt (aB P w) a vs ep
noncomputable def ItF (wk:DW)(a:Addr)(o:Obj)(ys:List (Key × V)):L2.It :=
 ⟨fun i H=>i<ys.length∧H a=some (.frz o (.dK ys)),fun i H x H'=>∃p,ys[i]?=some p∧match wk with
  | .keys=>H'=H∧x=kV p.1
  | .items=>∃T,x=.ref T∧H T=none∧H'=upd H T (.tup [kV p.1,p.2]),fun i H=>i=ys.length∧H a=some (.frz o (.dK ys))⟩
theorem KV.at {ys:List (Key × V)}{vs:List (Key × Value)}(h:KV ys vs){i:Nat}{p:Key × V}(e:ys[i]?=some p):∃q,vs[i]?=some q∧p.1=q.1∧L2.RelV p.2 q.2:=by
 unfold KV at h
 induction h generalizing i with
 | nil=>simp at e
 | cons f t ih =>
  cases i with
  | zero=>simp at e;subst e;exact⟨_,rfl,f.1,f.2⟩
  | succ i=>obtain⟨q,e1,e2⟩:=ih (by simpa using e);exact⟨q,by simpa using e1,e2⟩
theorem qM {P:Program}{w:World}{K:W.Frag}{tg:Expr}{it a:Addr}{o:Obj}{ys:List (Key × V)}{vs:List (Key × Value)}{ep:Nat}(hO:ObD P w a o ys vs ep) :
  nL P w K tg (ItF .keys a o ys) [it] it (fun i h=>h.IsKeyIter it a i vs.length ep) where
 mem:=by simp
 obj:=fun i h st b hb=>by
  have e:b=it:=by simpa using hb
  subst e
  obtain⟨u,e,c,d⟩:=st
  exact⟨u,e,fun v z=>by rw[d] at z;cases z⟩
 keep:=fun i h h' st k=>by
  obtain⟨u,e,r⟩:=st
  exact⟨u,k it (by simp) u e,r⟩
 item:=by
  intro X hP hw hK hc i pins s σ H E I hf st hg
  subst hP hw hK
  obtain⟨f0,f1,f2,f3,f4,f5⟩:=hf it (by simp)
  obtain⟨hi,hF⟩:=hg
  have hd:=hO.2 _ (I.hok a _ hF).1
  obtain⟨p,hp⟩:∃p,ys[i]?=some p:=⟨ys[i],by simp[hi]⟩
  obtain⟨q,e1,e2,e3⟩:=KV.at hO.1 hp
  refine wpAny_pyNext_dict_item (k:=q.1) (v:=q.2) st hd e1 fun key h' hk st' sb=>?_
  have I1:L2.Inv X pins σ H { s with heap:=h' }:=I.turned (t':=s.toks) (fun b u hb e=>sb.extBut b u hb e) f0 f1 f3 f4 f5
  obtain⟨u,e,cc,dd⟩:=id st'
  refine⟨_,rfl,kr (s:={ s with heap:=h' }) e cc dd (by decide) ⟨kV p.1,H,I1,by rw[e2];exact wy hk,⟨p,hp,rfl,rfl⟩,st',fun b hb=>(hf b hb).1⟩⟩
 done:=by
  intro X hP hw hK hc i pins s σ H E I hf st hg
  subst hP hw hK
  obtain⟨f0,f1,f2,f3,f4,f5⟩:=hf it (by simp)
  obtain⟨hi,hF⟩:=hg
  have hd:=hO.2 _ (I.hok a _ hF).1
  exact wpAny_pyNext_dict_end (I.ok.hd hc) st hd (FE (by rw[hi,hO.1.length];exact D7 _)) fun h' kk=>⟨rfl,I.turned (t':=s.toks) (fun b u hb e=>kk b u hb e) f0 f1 f3 f4 f5⟩
 self:=fun _ _ _ _ _ st h=>wpAny_pyIter_keyiter st h
theorem ow {P:Program}{w:World}{K:W.Frag}{elts:List Expr}{kt:Nat}{pt:Pos}{it a:Addr}{o:Obj}{ys:List (Key × V)}{vs:List (Key × Value)}{ep:Nat}(hO:ObD P w a o ys vs ep) :
  nL P w K (.Tuple elts kt pt) (ItF .items a o ys) [it] it (fun i h=>∃x y,IsItemIter h it a i vs.length ep x y) where
 mem:=by simp
 obj:=fun i h st b hb=>by
  have e:b=it:=by simpa using hb
  subst e
  obtain⟨x,y,e⟩:=st
  exact⟨_,e,fun v z=>nomatch z⟩
 keep:=fun i h h' st k=>by
  obtain⟨x,y,e⟩:=st
  exact⟨x,y,k it (by simp) _ e⟩
 item:=by
  intro X hP hw hK hc i pins s σ H E I hf st hg
  subst hP hw hK
  obtain⟨hi,hF⟩:=hg
  have hd:=hO.2 _ (I.hok a _ hF).1
  obtain⟨p,hp⟩:∃p,ys[i]?=some p:=⟨ys[i],by simp[hi]⟩
  obtain⟨q,e1,e2,e3⟩:=KV.at hO.1 hp
  obtain⟨x,y,st⟩:=st
  refine wpAny_pyNext_items_item (k:=q.1) (v:=q.2) st hd e1 fun key h' hk st' hT hz kk=>?_
  refine⟨_,rfl,wpAny_letOwnedTupleGo_items (s:={ s with heap:=h' }) st' fun h'' st2 sb=>?_⟩
  have hlt:it<s.heap.objs.size:=D8 st
  have Tn:s.heap.objs.size≠it:=F_ hlt
  have rk:L2.RelV (kV p.1) key:=by rw[e2];exact wy hk
  have I2:L2.Inv X pins σ (upd H s.heap.objs.size (.tup [kV p.1,p.2])) { s with heap:=h'' }:=uh (t':=s.toks) (its:=[key,q.2]) (wr:=[it]) I (fun b u hb e=>by
   have hb:b≠it:=by simpa using hb
   rw[sb.2 b hb]
   exact kk b u hb e) (fun b hb=>hf b hb) (D7 _) (.cons rk (.cons e3 .nil)) (by show 2≤sizeLine;decide) ⟨_,by rw[sb.2 _ Tn];exact hT,rfl,0,rfl⟩
  refine⟨.ref _,_,I2,rfl,⟨p,hp,_,rfl,I.hok.fresh (D7 _),rfl⟩,⟨_,_,st2⟩,fun b hb=>?_⟩
  have e:b=it:=by simpa using hb
  subst e
  rw[ae (EM hlt)]
  exact(hf b hb).1
 done:=by
  intro X hP hw hK hc i pins s σ H E I hf st hg
  subst hP hw hK
  obtain⟨f0,f1,f2,f3,f4,f5⟩:=hf it (by simp)
  obtain⟨hi,hF⟩:=hg
  have hd:=hO.2 _ (I.hok a _ hF).1
  obtain⟨x,y,st⟩:=st
  exact wpAny_pyNext_items_end (I.ok.hd hc) st hd (FE (by rw[hi,hO.1.length];exact D7 _)) fun h' kk=>⟨rfl,I.turned (t':=s.toks) (fun b u hb e=>kk b u hb e) f0 f1 f3 f4 f5⟩
 self:=fun A i s Q E st h=>by
  obtain⟨x,y,st⟩:=st
  exact W.kcp_self st h
theorem wo {K:W.Frag}{m:List Addr}{H:Hp}{k:Key}:R K m H (kP k) (kV k):=by
 cases k with
 | inl i=>exact R_int.mpr rfl
 | inr x=>exact R_str.mpr rfl
theorem gH {K:W.Frag}{m:List Addr}{H:Hp}:∀ {kvs:List (Key × PV)}{ys:List (Key × V)}{i:Nat}{p:Key × V},ys.map (·.1)=kvs.map (·.1)→Rs K m H (kvs.map (·.2)) (ys.map (·.2))→ys[i]?=some p→∃q,kvs[i]?=some q∧q.1=p.1∧R K m H q.2 p.2
 | [],ys,i,p,e,r,h=>by
  cases ys with
  | nil=>simp at h
  | cons _ _=>simp at e
 | q::kvs,ys,i,p,e,r,h=>by
  cases ys with
  | nil=>simp at h
  | cons y ys =>
   simp only[List.map_cons,List.cons.injEq] at e
   rw[EE,EE,Rs_cons'] at r
   cases i with
   | zero=>simp at h;subst h;exact⟨q,rfl,e.1.symm,r.1⟩
   | succ i=>obtain⟨z,h1,h2⟩:=gH e.2 r.2 (show ys[i]?=some p by simpa using h);exact⟨z,by simpa using h1,h2⟩
theorem yZ {K:W.Frag}{wk:DW}{m0:List Addr}{H0:Hp}{a:Addr}{o:Obj}{ys:List (Key × V)}{kvs:List (Key × PV)}(hF:H0 a=some (.frz o (.dK ys)))(r1:ys.map (·.1)=kvs.map (·.1))(r2:Rs K m0 H0 (kvs.map (·.2)) (ys.map (·.2))) :
  j4 K (ItF wk a o ys) (dm wk kvs) (fun _=>True) m0 H0:=by
 have hl:ys.length=kvs.length:=by simpa using ES List.length r1
 have hw:(dm wk kvs).length=ys.length:=by cases wk <;> simp[dm,hl]
 refine⟨fun m H st x r q=>⟨hw,x.frz _ _ _ hF⟩,fun i v m H st x r q ev=>?_⟩
 have hi:i<ys.length:=by rw[←hw];exact(D3.mp ev).1
 refine⟨⟨hi,x.frz _ _ _ hF⟩,?_⟩
 rintro y H' ⟨p,hp,z⟩
 obtain⟨u,hu,e1,e2⟩:=gH r1 r2 hp
 cases wk with
 | keys =>
  obtain⟨rfl,rfl⟩:=z
  have:(dm .keys kvs)[i]?=some (kP u.1):=by unfold dm;rw[EL,hu];rfl
  rw[this] at ev
  cases ev
  exact⟨Ext.refl _ _ _,r,by rw[e1];exact wo⟩
 | items =>
  obtain⟨T,rfl,hT,rfl⟩:=z
  have:(dm .items kvs)[i]?=some (.tup [kP u.1,u.2]):=by unfold dm;rw[EL,hu];rfl
  rw[this] at ev
  cases ev
  have xT:=Ext.newT (o:=.tup [kV p.1,p.2]) r hT
  refine⟨xT,r.newT hT,R_tup.mpr ⟨T,_,rfl,SqT.of av,?_⟩⟩
  rw[Rs_cons',Rs_cons',Rs_nil]
  exact⟨by rw[e1];exact wo,(e2.mono x).mono xT,rfl⟩
end FW
namespace FW
open L2 HX
section
variable {X:Cx}{pins:List (Addr × Obj)}{σ:L2.St}{H:Hp}{s:Shared}{a:Addr}{ys:List (Key × V)}{o:Obj}
theorem i8 (I:L2.Inv X pins σ H s)(e:H a=some (.dK ys))(ho:s.heap.get? a=some o):L2.Inv X pins σ (upd H a (.frz o (.dK ys))) s:=by
 have nh:∀b u,H b=some u→(∀zs,u≠.dK zs)→upd H a (.frz o (.dK ys)) b=some u:=fun b u q n=>by
  rw[ae (fun z=>by subst z;rw[e] at q;cases q;exact n _ rfl)];exact q
 have no:∀b,H b=none→upd H a (.frz o (.dK ys)) b=none:=fun b q=>by rw[ae (fun z=>by subst z;rw[e] at q;cases q)];exact q
 refine⟨I.ok,I.os,I.bare,⟨I.base.keep,I.base.slot,fun b u q n hx=>no b (I.base.free b u q n hx),I.base.there,fun b xs q=>nh b _ (I.base.tups b xs q) (fun _ z=>nomatch z),fun b u v q=>nh b _ (I.base.frzs b u v q) (fun _ z=>nomatch z),fun b ps q=>let ⟨m,z⟩:=I.base.tbls b ps q;⟨m,nh b _ z (fun _ z=>nomatch z)⟩⟩,I.loc,I.cell,no _ I.free,fun x c q=>no _ (I.freeC x c q),fun p hp=>let ⟨h1,h2,h3⟩:=I.pin p hp;⟨h1,no _ h2,h3⟩,fun b u q=>?_,I.len⟩
 have st:∀ {b:Addr}{u:HO},ObjOk X.prog X.w H s.heap b u→ObjOk X.prog X.w (upd H a (.frz o (.dK ys))) s.heap b u:=fun {b u} x=>x.stay (fun _ _ _ q=>q) (fun c q=>nh c _ q (fun _ z=>nomatch z)) fun c xs q=>nh c _ q fun _ z=>nomatch z
 by_cases hb:b=a
 ·subst hb
  rw[av] at q
  cases q
  exact⟨ho,st (I.hok b _ e)⟩
 ·rw[ae hb] at q
  exact st (I.hok b u q)
theorem mO (I:L2.Inv X pins σ H s)(e:H a=some (.frz o (.dK ys)))(hz:∀u q,X.H₀ a≠some (.frz u q)):L2.Inv X pins σ (upd H a (.dK ys)) s:=by
 have nh:∀b u,H b=some u→(∀w zs,u≠.frz w (.dK zs))→upd H a (.dK ys) b=some u:=fun b u q n=>by
  rw[ae (fun z=>by subst z;rw[e] at q;cases q;exact n _ _ rfl)];exact q
 have no:∀b,H b=none→upd H a (.dK ys) b=none:=fun b q=>by rw[ae (fun z=>by subst z;rw[e] at q;cases q)];exact q
 refine⟨I.ok,I.os,I.bare,⟨I.base.keep,I.base.slot,fun b u q n hx=>no b (I.base.free b u q n hx),I.base.there,fun b xs q=>nh b _ (I.base.tups b xs q) (fun _ _ z=>nomatch z),fun b u v q=>by rw[ae (fun z=>by subst z;exact hz _ _ q)];exact I.base.frzs b u v q,fun b ps q=>let ⟨m,z⟩:=I.base.tbls b ps q;⟨m,nh b _ z (fun _ _ z=>nomatch z)⟩⟩,I.loc,I.cell,no _ I.free,fun x c q=>no _ (I.freeC x c q),fun p hp=>let ⟨h1,h2,h3⟩:=I.pin p hp;⟨h1,no _ h2,h3⟩,fun b u q=>?_,I.len⟩
 have st:∀ {b:Addr}{u:HO},ObjOk X.prog X.w H s.heap b u→ObjOk X.prog X.w (upd H a (.dK ys)) s.heap b u:=fun {b u} x=>x.stay (fun _ _ _ q=>q) (fun c q=>nh c _ q (fun _ _ z=>nomatch z)) fun c xs q=>nh c _ q fun _ _ z=>nomatch z
 by_cases hb:b=a
 ·subst hb
  rw[av] at q
  cases q
  exact st (I.hok b _ e).2
 ·rw[ae hb] at q
  exact st (I.hok b u q)
theorem tm (I:L2.Inv X pins σ H s)(e:H a=some (.dK ys)):∀u q,X.H₀ a≠some (.frz u q):=fun u q z=>by
 have:=I.base.frzs a u q z
 rw[e] at this
 cases this
end
section
variable {K:W.Frag}{m m2:List Addr}{H H2:Hp}{st:AH}{n:Nat}{a:Addr}{o:Obj}{ys:List (Key × V)}{kvs:List (Key × PV)}
theorem RH.frz (h:RH K m H st)(e:m[n]?=some a)(g:H a=some (.dK ys))(r1:ys.map (·.1)=kvs.map (·.1))(r2:Rs K m H (kvs.map (·.2)) (ys.map (·.2))):RH K m (upd H a (.frz o (.dK ys))) (st.set n (.fz kvs)):=by
 have x:Ext K m H m (upd H a (.frz o (.dK ys))):=Ext.set (ys:=[]) h e (nfD g)
 refine⟨by simp[h.len],h.nd,fun k c b h1 h2=>?_,x.tb h.tb⟩
 by_cases hk:k=n
 ·subst hk
  have hl:k<st.length:=by rw[←h.len];exact(D3.mp e).1
  rw[EV hl] at h1
  rw[e] at h2
  cases h1
  cases h2
  exact⟨o,ys,av,r1,r2.mono x⟩
 ·rw[EQ (Ne.symm hk)] at h1
  exact(h.at_ k c b h1 h2).mono x (ae fun z=>hk (hU h.nd h2 (z ▸ e)))
theorem c5 (hD:H a=some (.frz o (.dK ys))):∀b us,SqT K H b us→SqT K (upd H a (.dK ys)) b us:=fun b us q=>by
 rcases q with (q|⟨w,q⟩)|q
 ·exact .inl (.inl (by rw[ae (fun z=>by subst z;rw[hD] at q;cases q)];exact q))
 ·exact .inl (.inr ⟨w,by rw[ae (fun z=>by subst z;rw[hD] at q;cases q)];exact q⟩)
 ·exact .inr q
theorem cY (hD:H a=some (.frz o (.dK ys))):∀b us,RdF K H b us→RdF K (upd H a (.dK ys)) b us:=fun b us q=>by
 rcases q with⟨w,q⟩|q
 ·exact .inl ⟨w,by rw[ae (fun z=>by subst z;rw[hD] at q;cases q)];exact q⟩
 ·exact .inr q
theorem TB.thaw (t:TB K H)(hD:H a=some (.frz o (.dK ys))):TB K (upd H a (.dK ys)) :=
 t.keep (fun b ps q=>by rw[ae (fun z=>by subst z;rw[hD] at q;cases q)];exact q) fun b w q=>by rw[ae (fun z=>by subst z;rw[hD] at q;cases q)];exact q
theorem RH.thaw (h:RH K m H st)(e:m[n]?=some a)(hF:H a=some (.frz o (.dK ys)))(hs:st[n]?=some (.fz kvs)):RH K m (upd H a (.dK ys)) (st.set n (.dk kvs)):=by
 refine⟨by simp[h.len],h.nd,fun k c b h1 h2=>?_,h.tb.thaw hF⟩
 by_cases hk:k=n
 ·subst hk
  have hl:k<st.length:=(D3.mp hs).1
  rw[EV hl] at h1
  rw[e] at h2
  cases h1
  cases h2
  obtain⟨o',ys',g1,g2,g3⟩:=h.at_ k _ a hs e
  rw[hF] at g1
  cases g1
  exact⟨ys,av,g2,g3.mono0 (c5 hF) (cY hF)⟩
 ·rw[EQ (Ne.symm hk)] at h1
  have ne:b≠a:=fun z=>hk (hU h.nd h2 (z ▸ e))
  have hc:=h.at_ k c b h1 h2
  cases c with
  | lst xs=>obtain⟨us,g1,g2⟩:=hc;exact⟨us,by rw[ae ne];exact g1,g2.mono0 (c5 hF) (cY hF)⟩
  | dk kvs=>obtain⟨us,g1,g2,g3⟩:=hc;exact⟨us,by rw[ae ne];exact g1,g2,g3.mono0 (c5 hF) (cY hF)⟩
  | fz kvs=>obtain⟨w,us,g1,g2,g3⟩:=hc;exact⟨w,us,by rw[ae ne];exact g1,g2,g3.mono0 (c5 hF) (cY hF)⟩
theorem Ext.thaw (h:RH K m H st)(e:m[n]?=some a)(g:H a=some (.dK ys))(x:Ext K m (upd H a (.frz o (.dK ys))) m2 H2):Ext K m H m2 (upd H2 a (.dK ys)):=by
 have hm:a∈m:=ER e
 have y:Ext K m H m (upd H a (.frz o (.dK ys))):=Ext.set (ys:=[]) h e (nfD g)
 have hF:H2 a=some (.frz o (.dK ys)):=x.frz _ _ _ av
 have z:=y.trans x
 refine⟨z.pre,z.new,fun b u hb q n=>?_,fun b us q=>c5 hF b us (z.tup b us q),fun b us q=>cY hF b us (z.rdf b us q),fun b ps hb q=>?_,fun t=>(z.tb t).thaw hF,fun b u v q=>?_⟩
 ·rw[ae (show b≠a from fun w=>hb (by rw[w];exact hm))];exact z.fr b u hb q n
 ·rw[ae (show b≠a from fun w=>hb (by rw[w];exact hm))];exact z.tbs b ps hb q
 ·rw[ae (fun w=>by subst w;exact nfD g _ _ q)];exact z.frz b u v q
end
section
variable {X:Cx}{c:Cfg}{Γ:Nat→FSp}
noncomputable def wiF (X:Cx)(Γ:Nat→FSp)(wk:DW)(e:E):TI:=fun σ H Rr=>∃m ρ st,RF X.K m H ρ σ∧RH X.K m H st∧wpE Γ e ρ st fun x st1=>∃n kvs,x=.ref n∧st1[n]?=some (.dk kvs) ∧
 ∀m1 H1 a o ys,Ext X.K m H m1 H1→RH X.K m1 H1 st1→m1[n]?=some a→H1 a=some (.dK ys)→ys.map (·.1)=kvs.map (·.1)→Rs X.K m1 H1 (kvs.map (·.2)) (ys.map (·.2))→(∀u q,X.H₀ a≠some (.frz u q))→Rr (ItF wk a o ys) (upd H1 a (.frz o (.dK ys)))
theorem u7 (C:COk X c Γ){tg u:Expr}{e:E}(he:PE X u (TEx X.K (wpE Γ e))):PI X tg u (wiF X Γ .keys e):=by
 rintro pins s σ H Rr I ⟨m,ρ,st,rf,rh,w⟩
 refine thn (he pins s σ H (fun x H1=>∃a ys,x=.ref a∧H1 a=some (.dK ys)∧∀o,(∀u q,X.H₀ a≠some (.frz u q))→Rr (ItF .keys a o ys) (upd H1 a (.frz o (.dK ys)))) I ⟨m,ρ,st,rf,rh,aa C.mono e (fun v st1 k m1 H1 x1 e1 r1 r2=>?_) w⟩) fun v s1 ⟨x,H1,I1,r1,a,ys,ex,hd,q⟩=>?_
 ·obtain⟨n,kvs,rfl,h1,k⟩:=k
  obtain⟨b,ys,rfl,eb,g,r3,r4⟩:=r1.dkat h1 r2
  exact⟨b,ys,rfl,g,fun o hz=>k m1 H1 b o ys e1 r1 eb g r3 r4 hz⟩
 ·subst ex
  cases r1
  obtain⟨z,hm,vs,rel,o,es,ep,ho,rr⟩:=iF I1.hok hd
  have hO:ObD X.prog X.w a o ys vs ep:=⟨rel,fun h e=>⟨o,es,e,rr⟩⟩
  refine wpAny_pyIter_dict hm (hO.2 _ ho) ?_
  refine⟨s1.heap.objs.size,[s1.heap.objs.size],_,_,_,rfl,(i8 I1 hd ho).kept (t':=s1.toks) fun b u e=>D5 _ e,qM hO,⟨_,EC _ rfl,rfl,rfl⟩,fun b hb=>?_,q o (tm I1 hd)⟩
  have e:b=s1.heap.objs.size:=by simpa using hb
  subst e
  exact I1.fpOk (D7 _) ((i8 I1 hd ho).hok.fresh (D7 _))
noncomputable def pG (v a:Addr):HO:=.ext fun h=>h.IsItemsView v a
theorem tY:MtR X "dict.items" (fun x xs H Q=>∃a kvs,x=.ref a∧xs=[]∧H a=some (.dK kvs)∧∀v,H v=none→Q (.ref v) (upd H v (pG v a))):=by
 rintro pins s σ H x xs v us Q I rx rv ⟨a,kvs,rfl,rfl,g,q⟩
 cases rx
 cases rv
 obtain⟨z,hm,vs,rel,dd⟩:=iF I.hok g
 refine call_meetsIn PySem.F.slot_dict_items dd.typeIs PySem.F.entry_dict_items (PySem.F.args_dict_items_1 _) (meets_dict_items (aB X.prog X.w) a hm) ⟨⟨vs,dd⟩,?_⟩
 refine⟨.ref s.heap.objs.size,_,I.laid (t':=s.toks) (fun b u e=>D5 _ e) (D7 _) (show ObjOk X.prog X.w _ _ _ (pG s.heap.objs.size a) from ⟨⟨_,EC _ rfl,rfl,rfl⟩,⟨_,EC _ rfl⟩,fun h1 h2 z e=>let ⟨ob,h3,r⟩:=z;⟨ob,e _ h3,r⟩⟩),rfl,q _ (I.hok.fresh (D7 _))⟩
theorem t5 (C:COk X c Γ){elts:List Expr}{kt:Nat}{pt ap cp:Pos}{y:Expr}{e:E}(hl:(ap.endLine == cp.line)=true)(hy:bR y=true)(he:PE X y (TEx X.K (wpE Γ e))):PI X (.Tuple elts kt pt) (.Call (.Attribute y "items" ap) [] [] cp) (wiF X Γ .items e):=by
 rintro pins s σ H Rr I ⟨m,ρ,st,rf,rh,w⟩
 have hE:=sQ (X:=X) (apos:=ap) (cpos:=cp) PySem.F.plainAttrs_dict PySem.F.slot_dict_items PySem.F.type_dict_items tY he (cV hy) hl
 refine thn (hE pins s σ H (fun x H1=>∃v a ys,x=.ref v∧H1 v=some (pG v a)∧H1 a=some (.dK ys)∧∀o,(∀u q,X.H₀ a≠some (.frz u q))→Rr (ItF .items a o ys) (upd H1 a (.frz o (.dK ys)))) I ⟨m,ρ,st,rf,rh,aa C.mono e (fun v st1 k m1 H1 x1 e1 r1 r2=>?_) w⟩) fun v s1 ⟨x,H1,I1,r1,vw,a,ys,ex,hv,hd,q⟩=>?_
 ·obtain⟨n,kvs,rfl,h1,k⟩:=k
  obtain⟨b,ys,rfl,eb,g,r3,r4⟩:=r1.dkat h1 r2
  refine⟨.inr (.inr (.inl ⟨rfl,.inl ⟨ys,g⟩⟩)),b,ys,rfl,rfl,g,fun v hv=>⟨v,b,ys,rfl,av,?_,fun o hz=>?_⟩⟩
  ·rw[ae (aj g hv)];exact g
  ·have xv:=Ext.newT (o:=pG v b) r1 hv
   exact k m1 _ b o ys (e1.trans xv) (r1.newT hv) eb (by rw[ae (aj g hv)];exact g) r3 (r4.mono xv) hz
 ·subst ex
  cases r1
  obtain⟨z,hm,vs,rel,o,es,ep,ho,rr⟩:=iF I1.hok hd
  have hO:ObD X.prog X.w a o ys vs ep:=⟨rel,fun h e=>⟨o,es,e,rr⟩⟩
  have hw:s1.heap.IsItemsView vw a:=(I1.hok vw _ hv).1
  refine wpAny_pyIter_items hw (hO.2 _ ho) ?_
  refine⟨s1.heap.objs.size,[s1.heap.objs.size],_,_,_,rfl,(i8 I1 hd ho).kept (t':=s1.toks) fun b u e=>D5 _ e,ow hO,⟨_,_,EC _ rfl⟩,fun b hb=>?_,q o (tm I1 hd)⟩
  have e:b=s1.heap.objs.size:=by simpa using hb
  subst e
  exact I1.fpOk (D7 _) ((i8 I1 hd ho).hok.fresh (D7 _))
theorem DC (C:COk X c Γ){wk:DW}{tg ix:Expr}{e:E}(h1:vT wk tg=true)(h2:nA wk ix (fun y=>aq c e y)=true)(he:∀y,aq c e y=true→PE X y (TEx X.K (wpE Γ e))):PI X tg ix (wiF X Γ wk e):=by
 cases wk with
 | keys=>exact u7 C (he _ (qv h2).2)
 | items =>
  obtain⟨y,ap,cp,rfl,h3,h4,h5⟩:=nW h2
  cases tg with
  | Tuple elts kt pt=>exact t5 C h3 h4 (he _ h5)
  | _=>cases h1
end
end FW
namespace FW
open L2 HX
section
variable {X:Cx}{pins:List (Addr × Obj)}{σ:L2.St}{H:Hp}{s:Shared}{a:Addr}{A:Around}{E:Value→Shared→Prop}
end
section
variable {K:W.Frag}{m m':List Addr}{H H':Hp}{st:AH}{D:Addr}{ys zs:List (Key × V)}
theorem eQ (hD:H D=some (.dK ys)):∀a us,SqT K H a us→SqT K (upd H D (.dK zs)) a us:=fun a us q=>by
 rcases q with (q|⟨w,q⟩)|q
 ·exact .inl (.inl (by rw[ae (fun z=>by subst z;rw[hD] at q;cases q)];exact q))
 ·exact .inl (.inr ⟨w,by rw[ae (fun z=>by subst z;rw[hD] at q;cases q)];exact q⟩)
 ·exact .inr q
theorem eR (hD:H D=some (.dK ys)):∀a us,RdF K H a us→RdF K (upd H D (.dK zs)) a us:=fun a us q=>by
 rcases q with⟨w,q⟩|q
 ·exact .inl ⟨w,by rw[ae (fun z=>by subst z;rw[hD] at q;cases q)];exact q⟩
 ·exact .inr q
theorem TB.awayD (t:TB K H)(hD:H D=some (.dK ys)):TB K (upd H D (.dK zs)) :=
 t.keep (fun a ps q=>by rw[ae (fun z=>by subst z;rw[hD] at q;cases q)];exact q) fun a o q=>by rw[ae (fun z=>by subst z;rw[hD] at q;cases q)];exact q
theorem Ext.awayD (x:Ext K m H m' H')(h0:H D=none)(hD:H' D=some (.dK ys)):Ext K m H m' (upd H' D (.dK zs)) :=
 ⟨x.pre,x.new,fun a o ha e n=>by rw[ae (aj e h0)];exact x.fr a o ha e n,fun a us q=>eQ hD a us (x.tup a us q),fun a us q=>eR hD a us (x.rdf a us q),fun a ps ha e=>let ⟨p1,e1⟩:=x.tbs a ps ha e;⟨p1,by rw[ae (aj e h0)];exact e1⟩,fun t=>(x.tb t).awayD hD,fun a o u e=>by rw[ae (aj e h0)];exact x.frz a o u e⟩
theorem RH.awayD (h:RH K m H st)(hm:D ∉ m)(hD:H D=some (.dK ys)):RH K m (upd H D (.dK zs)) st:=by
 refine⟨h.len,h.nd,fun n c a h1 h2=>?_,h.tb.awayD hD⟩
 have ha:a≠D:=fun z=>hm (z ▸ ER h2)
 have hc:=h.at_ n c a h1 h2
 cases c with
 | lst xs=>obtain⟨us,g1,g2⟩:=hc;exact⟨us,by rw[ae ha];exact g1,g2.mono0 (eQ hD) (eR hD)⟩
 | dk kvs=>obtain⟨us,g1,g2,g3⟩:=hc;exact⟨us,by rw[ae ha];exact g1,g2,g3.mono0 (eQ hD) (eR hD)⟩
 | fz kvs=>obtain⟨o,us,g1,g2,g3⟩:=hc;exact⟨o,us,by rw[ae ha];exact g1,g2,g3.mono0 (eQ hD) (eR hD)⟩
end
section
variable {X:Cx}{Γ:Nat→FSp}{pins:List (Addr × Obj)}{σ:L2.St}{H:Hp}{s:Shared}
def DRel (K:W.Frag)(m:List Addr)(H:Hp)(ps:List (Str × PV))(ds:List (Key × V)):Prop:=ds.map (·.1)=(v7 ps).map (·.1)∧Rs K m H ((v7 ps).map (·.2)) (ds.map (·.2))
theorem DRel.mono {K:W.Frag}{m m':List Addr}{H H':Hp}{ps:List (Str × PV)}{ds:List (Key × V)}(h:DRel K m H ps ds)(x:Ext K m H m' H'):DRel K m' H' ps ds:=⟨h.1,h.2.mono x⟩
end
end FW
namespace FW
open L2 HX
section
variable {prog:Program}{w:World}{A:Around}{E:Value→Shared→Prop}{s:Shared}
variable {R:Result→Shared→Prop}
end
end FW
namespace FW
open L2 HX
section
variable {prog:Program}{w:World}{A:Around}{E:Value→Shared→Prop}{s:Shared}
end
section
variable {X:Cx}{c:Cfg}{Γ:Nat→FSp}
end
end FW
namespace FW
open L2 HX
def EqW (prog:Program)(w:World)(A:Around)(s:Shared)(y x:Value):Prop:=∀(E:Value→Shared→Prop) (Q:Bool→Shared→Prop),Q true s→wpAny (model prog w) A (eqBool y x) Q E s
section
variable {prog:Program}{w:World}
theorem n6 (p q:Addr)(us vs:Array Value)(op op2:Obj)(c1:op.cls=.type "tuple")(c2:op2.cls=.type "tuple")(k1 k2:Nat)(d1:op.data=.seq us k1)(d2:op2.data=.seq vs k2)(hn:us.size=vs.size) :
  MeetsIn prog w (Builtin.«tuple.__ne__» ⟨[.ref p,.ref q],[]⟩) (fun A R s=>s.heap.get? p=some op∧s.heap.get? q=some op2∧(∀j (h1:j<us.size) (h2:j<vs.size),EqW prog w A.in1 s us[j] vs[j])∧R (.ok (.ret (.bool false))) s) :=
 .of_wp fun A R s h=>by
  obtain⟨cl,dd,dt,sl⟩:=op
  obtain⟨cl2,dd2,dt2,sl2⟩:=op2
  simp only at c1 c2 d1 d2
  subst c1 c2 d1 d2
  obtain⟨hp,g,dr,tk,os⟩:=s;obtain⟨hl,hb,he,hR⟩:=h
  have f2:=AutoSeq1.sub_tuple_tuple
  have hZ:(us.toList.zip vs.toList).length=us.size:=by simp[hn]
  wp_walk using AutoSeq1.wpAny_loadPart' hl,AutoSeq1.wpAny_loadPart' hb,wpAny_forIn_list _ (fun left b s'=>b.1=none∧s'=⟨hp,g,dr,tk,os⟩∧∃i,left=(us.toList.zip vs.toList).drop i) _
  case turn =>
   rintro⟨y,x⟩ left b s' ⟨hb',rfl,i,hz⟩
   have hlt:i<(us.toList.zip vs.toList).length:=by
    rcases Nat.lt_or_ge i (us.toList.zip vs.toList).length with h' | h'
    ·exact h'
    ·rw[List.drop_of_length_le h'] at hz;cases hz
   have h1:i<us.size:=by omega
   have h2:i<vs.size:=by omega
   rw[FK hlt] at hz
   injection hz with hyx hleft
   have hy:y=us[i]:=by have:=ES Prod.fst hyx;simpa using this
   have hx:x=vs[i]:=by have:=ES Prod.snd hyx;simpa using this
   subst hy hx
   refine D4 (he i h1 h2 _ _ ?_)
   wp_walk
   exact⟨rfl,rfl,i+1,hleft⟩
  case fin =>
   rintro⟨b1,b2⟩ s' ⟨hb',rfl,i,hz⟩
   simp only at hb'
   subst hb'
   wp_walk
   exact⟨_,rfl,by simpa[Builtin.Tuple.tupleCompareSizes,bne,hn] using hR⟩
  case h=>exact⟨rfl,rfl,0,rfl⟩
theorem oA (p q:Addr)(us vs:Array Value)(op op2:Obj)(c1:op.cls=.type "tuple")(c2:op2.cls=.type "tuple")(k1 k2:Nat)(d1:op.data=.seq us k1)(d2:op2.data=.seq vs k2)(hn:us.size=vs.size) :
  MeetsIn prog w (Builtin.«tuple.__eq__» ⟨[.ref p,.ref q],[]⟩) (fun A R s=>s.heap.get? p=some op∧s.heap.get? q=some op2∧(∀j (h1:j<us.size) (h2:j<vs.size),EqW prog w A.in1 s us[j] vs[j])∧R (.ok (.ret (.bool true))) s) :=
 .of_wp fun A R s h=>by
  obtain⟨cl,dd,dt,sl⟩:=op
  obtain⟨cl2,dd2,dt2,sl2⟩:=op2
  simp only at c1 c2 d1 d2
  subst c1 c2 d1 d2
  obtain⟨hp,g,dr,tk,os⟩:=s;obtain⟨hl,hb,he,hR⟩:=h
  have f2:=AutoSeq1.sub_tuple_tuple
  have hZ:(us.toList.zip vs.toList).length=us.size:=by simp[hn]
  wp_walk using AutoSeq1.wpAny_loadPart' hl,AutoSeq1.wpAny_loadPart' hb,wpAny_forIn_list _ (fun left b s'=>b.1=none∧s'=⟨hp,g,dr,tk,os⟩∧∃i,left=(us.toList.zip vs.toList).drop i) _
  case turn =>
   rintro⟨y,x⟩ left b s' ⟨hb',rfl,i,hz⟩
   have hlt:i<(us.toList.zip vs.toList).length:=by
    rcases Nat.lt_or_ge i (us.toList.zip vs.toList).length with h' | h'
    ·exact h'
    ·rw[List.drop_of_length_le h'] at hz;cases hz
   have h1:i<us.size:=by omega
   have h2:i<vs.size:=by omega
   rw[FK hlt] at hz
   injection hz with hyx hleft
   have hy:y=us[i]:=by have:=ES Prod.fst hyx;simpa using this
   have hx:x=vs[i]:=by have:=ES Prod.snd hyx;simpa using this
   subst hy hx
   refine D4 (he i h1 h2 _ _ ?_)
   wp_walk
   exact⟨rfl,rfl,i+1,hleft⟩
  case fin =>
   rintro⟨b1,b2⟩ s' ⟨hb',rfl,i,hz⟩
   simp only at hb'
   subst hb'
   wp_walk
   exact⟨_,rfl,by simpa[Builtin.Tuple.tupleCompareSizes,bne,hn] using hR⟩
  case h=>exact⟨rfl,rfl,0,rfl⟩
variable {A:Around}{E:Value→Shared→Prop}{s:Shared}
noncomputable def opB (ne:Bool):CmpOp:=if ne then .NotEq else .Eq
theorem sj {ne:Bool}{p q:Addr}{us vs:Array Value}{Q:Value→Shared→Prop}(hp:s.heap.IsTuple p us)(hq:s.heap.IsTuple q vs)(hn:us.size=vs.size)(hu:A.units<cLine)(he:∀j (h1:j<us.size) (h2:j<vs.size),EqW prog w A.in1 s us[j] vs[j])(h:Q (.bool (!ne)) s) :
  wpAny (model prog w) A (compareOp (opB ne) (.ref p) (.ref q)) Q E s:=by
 obtain⟨o1,ho,hc,n,hd⟩:=id hp
 obtain⟨o2,ho2,hc2,n2,hd2⟩:=id hq
 cases ne with
 | true=>exact wpAny_richCompare_same_room (op:=.NotEq) ⟨_,ho,hc⟩ ⟨_,ho2,hc2⟩ F.slot_tuple_ne (call_meetsIn F.slot_tuple_ne ⟨_,ho,hc⟩ F.entry_tuple_ne (F.args_tuple_ne_2 _ _) (n6 p q us vs o1 o2 hc hc2 n n2 hd hd2 hn) ⟨ho,ho2,he,⟨(fun x=>nomatch x),h⟩⟩) hu
 | false=>exact wpAny_richCompare_same_room (op:=.Eq) ⟨_,ho,hc⟩ ⟨_,ho2,hc2⟩ F.slot_tuple_eq (call_meetsIn F.slot_tuple_eq ⟨_,ho,hc⟩ F.entry_tuple_eq (F.args_tuple_eq_2 _ _) (oA p q us vs o1 o2 hc hc2 n n2 hd hd2 hn) ⟨ho,ho2,he,⟨(fun x=>nomatch x),h⟩⟩) hu
end
section
variable {X:Cx}{pins:List (Addr × Obj)}{σ:L2.St}{H:Hp}{s:Shared}{m:List Addr}{st:AH}
theorem nk {lvs:List (Key × PV)}{k:Key}{u:PV}(h:c9 lvs k=some u):∃kv∈lvs,kv.2=u:=by
 unfold c9 at h
 obtain⟨kv,h1,h2⟩:=FS.mp h
 exact⟨kv,List.mem_of_find?_eq_some h1,h2⟩
theorem gf {v:PV}{d:PyData}(h:v.toD=some d):lr st v=some d:=by
 cases v with
 | ref n=>rw[PV.toD] at h;cases h
 | _=>exact h
theorem nK {A:Around}(hu:A.units+64<cLine)(I:L2.Inv X pins σ H s)(rh:RH X.K m H st){x y:PV}{x' y':V}{u v:Value}(h:oS x y)(rx:R X.K m H x x')(ry:R X.K m H y y')(ru:L2.RelV x' u)(rv:L2.RelV y' v):SeqAt.EqAt A s u v true:=by
 obtain⟨rfl,d,h1,h2⟩:=h
 obtain⟨as,ra⟩:=Den.reads I d x' u (cF rh rx (gf h1)) ru
 obtain⟨bs,rb⟩:=Den.reads I d y' v (cF rh ry (gf h1)) rv
 have:=SeqAt.eqAt_reads d d A s u v as bs ra rb (FT h2) (FT h2) (SeqAt.room_of_shaped h2 hu)
 rw[SeqAt.eqv_refl d (FT h2)] at this
 exact this
theorem pA {A:Around}{kb:List (Key × Value)}:∀ {ka:List (Key × Value)},(∀p∈ka,∃y,valueAt kb p.1=some y∧SeqAt.EqAt A s p.2 y true)→W.KeqHits A s kb ka true
 | [],_=>.nil
 | (k,v)::r,h=>by
  obtain⟨y,e1,e2⟩:=h (k,v) ET
  exact .hit e1 e2 (pA fun p hp=>h p (EH _ hp))
theorem kA {A:Around}{E:Value→Shared→Prop}(hu:A.units+80<cLine)(I:L2.Inv X pins σ H s)(rh:RH X.K m H st){n k:Nat}{kvs lvs:List (Key × PV)}{x' y':V}{u v:Value}(h1:st[n]?=some (.dk kvs))(h2:st[k]?=some (.dk lvs))(hl:kvs.length=lvs.length)(hp:∀p∈kvs,∃u,c9 lvs p.1=some u∧oS p.2 u)
  (rx:R X.K m H (.ref n) x') (ry:R X.K m H (.ref k) y') (ru:L2.RelV x' u) (rv:L2.RelV y' v):∃a b,u=.ref a∧v=.ref b∧∀(ne:Bool) (Q:Value→Shared→Prop),Q (.bool (!ne)) s→wpAny (model X.prog X.w) A (compareOp (opB ne) u v) Q E s:=by
 obtain⟨a,ys,rfl,_,g1,r1,r2⟩:=rh.dkat h1 rx
 obtain⟨b,zs,rfl,_,g2,r3,r4⟩:=rh.dkat h2 ry
 cases ru
 cases rv
 obtain⟨z1,d1,vs,rel1,dd1⟩:=iF I.hok g1
 obtain⟨z2,d2,ws,rel2,dd2⟩:=iF I.hok g2
 refine⟨a,b,rfl,rfl,fun ne Q q=>?_⟩
 have e1:ys.length=kvs.length:=by simpa using ES List.length r1
 have e2:zs.length=lvs.length:=by simpa using ES List.length r3
 have l1:=rel1.length
 have l2:=rel2.length
 have lab:vs.length=ws.length:=by omega
 have hits:W.KeqHits A.in1 s ws vs true:=pA fun p hm=>by
  obtain⟨i,hi⟩:=GP.mp hm
  have hy:i<ys.length:=by have:=(D3.mp hi).1;omega
  obtain⟨w',w1,w2,w3⟩:=KV.at rel1 (show ys[i]?=some ys[i] by simp[hy])
  rw[hi] at w1
  cases w1
  obtain⟨q',q1,q2,q3⟩:=gH r1 r2 (show ys[i]?=some ys[i] by simp[hy])
  obtain⟨u,u1,u2⟩:=hp q' (ER q1)
  obtain⟨u',t1,t2⟩:=(eD r3 r4).1 _ u1
  rw[q2,w2] at t1
  obtain⟨y,y1,y2⟩:=RelO.some_of (v:=u') (o:=valueAt ws p.1) (by rw[←t1];exact rel2.val p.1)
  exact⟨y,y1,nK (A:=A.in1) (by show A.units+1+64<cLine;omega) I rh u2 q3 t2 w3 y2⟩
 have fin:(vs.length == ws.length && true)=true:=by simp[lab]
 cases ne with
 | true=>exact W.keq_ne (knd:=aB X.prog X.w) d1 d2 dd1 dd2 (by omega) (fun _=>hits) (by rw[fin];exact q)
 | false=>exact W.keq_eq (knd:=aB X.prog X.w) d1 d2 dd1 dd2 (by omega) (fun _=>hits) (by rw[fin];exact q)
theorem kO {A:Around}(hu:A.units+64<cLine)(I:L2.Inv X pins σ H s)(rh:RH X.K m H st){x y:PV}{x' y':V}{u v:Value}{d d':PyData}(h1:x.toD=some d)(h2:y.toD=some d')(s1:SeqAt.shaped d=true)(s2:SeqAt.shaped d'=true)(rx:R X.K m H x x')(ry:R X.K m H y y')(ru:L2.RelV x' u)(rv:L2.RelV y' v):SeqAt.EqAt A s u v (PyData.eqv d d'):=by
 obtain⟨as,ra⟩:=Den.reads I d x' u (cF rh rx (gf h1)) ru
 obtain⟨bs,rb⟩:=Den.reads I d' y' v (cF rh ry (gf h2)) rv
 exact SeqAt.eqAt_reads d d' A s u v as bs ra rb (FT s1) (FT s2) (SeqAt.room_of_shaped s1 hu)
theorem nR {A:Around}{kb:List (Key × Value)}:∀ {ka:List (Key × Value)},(∀p∈ka,∀y,valueAt kb p.1=some y→∃e,SeqAt.EqAt A s p.2 y e)→(∃p∈ka,∀y,valueAt kb p.1=some y→SeqAt.EqAt A s p.2 y false)→W.KeqHits A s kb ka false
 | [],_,h=>by obtain⟨p,hp,_⟩:=h;cases hp
 | (k,v)::r,h,hb=>by
  cases e:valueAt kb k with
  | none=>exact .miss e
  | some y =>
   by_cases z:SeqAt.EqAt A s v y false
   ·have:∃b,W.KeqHits A s kb r b:=hits_some fun p hp=>h p (EH _ hp)
    obtain⟨b,hb⟩:=this
    exact .hit (e:=false) e z hb
   ·obtain⟨p,hp,hq⟩:=hb
    rcases E3.mp hp with rfl|hp
    ·exact absurd (hq y e) z
    ·obtain⟨e',he⟩:=h (k,v) ET y e
     have:=W.KeqHits.hit (A:=A) (s:=s) e he (nR (fun p hp=>h p (EH _ hp)) ⟨p,hp,hq⟩)
     rw[HY] at this
     exact this
where hits_some {kb:List (Key × Value)}:∀ {ka:List (Key × Value)},(∀p∈ka,∀y,valueAt kb p.1=some y→∃e,SeqAt.EqAt A s p.2 y e)→∃b,W.KeqHits A s kb ka b
 | [],_=>⟨_,.nil⟩
 | (k,v)::r,h=>by
  cases e:valueAt kb k with
  | none=>exact⟨_,.miss e⟩
  | some y =>
   obtain⟨b,hb⟩:=hits_some (ka:=r) fun p hp=>h p (EH _ hp)
   obtain⟨e',he⟩:=h (k,v) ET y e
   exact⟨_,.hit e he hb⟩
theorem qJ {A:Around}{E:Value→Shared→Prop}(hu:A.units+80<cLine)(I:L2.Inv X pins σ H s)(rh:RH X.K m H st){x y:PV}{x' y':V}{u v:Value}(hd:kQ st x y)
  (rx:R X.K m H x x') (ry:R X.K m H y y') (ru:L2.RelV x' u) (rv:L2.RelV y' v):∀(ne:Bool) (Q:Value→Shared→Prop),Q (.bool ne) s→wpAny (model X.prog X.w) A (compareOp (opB ne) u v) Q E s:=by
 obtain⟨n,k,kvs,lvs,rfl,rfl,h1,h2,dk,dl,hb⟩:=hd
 obtain⟨a,ys,rfl,_,g1,r1,r2⟩:=rh.dkat h1 rx
 obtain⟨b,zs,rfl,_,g2,r3,r4⟩:=rh.dkat h2 ry
 cases ru
 cases rv
 obtain⟨z1,d1,vs,rel1,dd1⟩:=iF I.hok g1
 obtain⟨z2,d2,ws,rel2,dd2⟩:=iF I.hok g2
 have e1:ys.length=kvs.length:=by simpa using ES List.length r1
 have e2:zs.length=lvs.length:=by simpa using ES List.length r3
 have l1:=rel1.length
 have l2:=rel2.length
 have A1:A.in1.units+64<cLine:=by show A.units+1+64<cLine;omega
 have look:∀(i:Nat) (p:Key × Value),vs[i]?=some p→∃q',kvs[i]?=some q'∧q'.1=p.1∧∃v1,R X.K m H q'.2 v1∧L2.RelV v1 p.2:=fun i p hi=>by
  have hy:i<ys.length:=by have:=(D3.mp hi).1;omega
  obtain⟨w',w1,w2,w3⟩:=KV.at rel1 (show ys[i]?=some ys[i] by simp[hy])
  rw[hi] at w1
  cases w1
  obtain⟨q',q1,q2,q3⟩:=gH r1 r2 (show ys[i]?=some ys[i] by simp[hy])
  exact⟨q',q1,q2.trans w2,_,q3,w3⟩
 have right:∀(key:Key) (y:Value),valueAt ws key=some y→∃u u',c9 lvs key=some u∧R X.K m H u u'∧L2.RelV u' y:=fun key y hy=>by
  have o:=rel2.val key
  rw[hy] at o
  cases ez:c9 lvs key with
  | none =>
   have:=(eD r3 r4).2 ez
   rw[this] at o
   cases o
  | some u =>
   obtain⟨u',t1,t2⟩:=(eD r3 r4).1 _ ez
   rw[t1] at o
   exact⟨u,u',rfl,t2,o⟩
 have data:∀p∈vs,∀y,valueAt ws p.1=some y→∃e,SeqAt.EqAt A.in1 s p.2 y e:=fun p hm y hy=>by
  obtain⟨i,hi⟩:=GP.mp hm
  obtain⟨q',q1,q2,v1,q3,q4⟩:=look i p hi
  obtain⟨u,u',t1,t2,t3⟩:=right p.1 y hy
  obtain⟨d,hd1,hd2⟩:=dk q' (ER q1)
  obtain⟨kv,km,ke⟩:=nk t1
  obtain⟨d',hd3,hd4⟩:=dl kv km
  rw[ke] at hd3
  exact⟨_,kO A1 I rh hd1 hd3 hd2 hd4 q3 t2 q4 t3⟩
 have fin:∀(r:Bool),(vs.length=ws.length→W.KeqHits A.in1 s ws vs r)→(vs.length == ws.length && r)=false→∀(ne:Bool) (Q:Value→Shared→Prop),Q (.bool ne) s→wpAny (model X.prog X.w) A (compareOp (opB ne) (.ref a) (.ref b)) Q E s:=fun r hr hf ne Q q=>by
  cases ne with
  | true=>exact W.keq_ne (knd:=aB X.prog X.w) d1 d2 dd1 dd2 (by omega) hr (by rw[hf];exact q)
  | false=>exact W.keq_eq (knd:=aB X.prog X.w) d1 d2 dd1 dd2 (by omega) hr (by rw[hf];exact q)
 rcases hb with hb|⟨p,hp,hq⟩
 ·exact fin true (fun z=>absurd z (by omega)) (by rw[beq_eq_false_iff_ne.mpr (by omega)];rfl)
 ·refine fin false (fun _=>nR data ?_) (HY _)
  obtain⟨i,hi⟩:=GP.mp hp
  have il:i<vs.length:=by have:=(D3.mp hi).1;omega
  refine⟨vs[i],List.getElem_mem il,fun y hy=>?_⟩
  obtain⟨q',q1,q2,v1,q3,q4⟩:=look i vs[i] (EZ il)
  rw[hi] at q1
  cases q1
  obtain⟨u,u',t1,t2,t3⟩:=right _ y hy
  rw[←q2] at t1
  obtain⟨d,d',c1,c2,c3⟩:=hq u t1
  obtain⟨e,hd1,hd2⟩:=dk p hp
  obtain⟨kv,km,ke⟩:=nk t1
  obtain⟨e',hd3,hd4⟩:=dl kv km
  rw[ke] at hd3
  rw[c1] at hd1
  rw[c2] at hd3
  cases hd1
  cases hd3
  rw[←c3]
  exact kO A1 I rh c1 c2 hd2 hd4 q3 t2 q4 t3
theorem sV {A:Around}(hu:A.units+80<cLine)(I:L2.Inv X pins σ H s)(rh:RH X.K m H st){x y:PV}{x' y':V}{u v:Value}(h:rL st x y)(rx:R X.K m H x x')(ry:R X.K m H y y')(ru:L2.RelV x' u)(rv:L2.RelV y' v):EqW X.prog X.w A s u v:=by
 rcases h with h|⟨n,k,kvs,lvs,rfl,rfl,h1,h2,h3,h4⟩
 ·exact fun E Q q=>nK (by omega) I rh h rx ry ru rv X.prog X.w E Q q
 ·intro E Q q
  obtain⟨a,b,rfl,rfl,hc⟩:=kA (A:=A) (E:=E) hu I rh h1 h2 h3 h4 rx ry ru rv
  by_cases hab:a=b
  ·subst hab
   exact SeqAt.EqAt.same (A:=A) (s:=s) (.ref a) X.prog X.w E Q q
  ·unfold eqBool
   refine FV ?_
   refine wpAny_ite_split (fun hx=>absurd (by have:=eq_of_beq hx;injection this) hab) (fun _=>?_)
   exact D4 (hc false _ (wpAny_truthy_bool q))
theorem kE {A:Around}(hu:A.units+80<cLine)(I:L2.Inv X pins σ H s)(rh:RH X.K m H st):∀ {xs ys:List PV}{xs' ys':List V}{us vs:List Value},ou st xs ys→Rs X.K m H xs xs'→Rs X.K m H ys ys'→Vals xs' us→Vals ys' vs→us.length=vs.length∧∀j (h1:j<us.length) (h2:j<vs.length),EqW X.prog X.w A s us[j] vs[j]
 | [],[],xs',ys',us,vs,_,rx,ry,ru,rv=>by
  rw[Rs_nil] at rx ry
  subst rx ry
  cases ru
  cases rv
  exact⟨rfl,fun j h1 _=>absurd h1 (GW _)⟩
 | x::xs,y::ys,xs',ys',us,vs,h,rx,ry,ru,rv=>by
  rw[Rs_cons] at rx ry
  obtain⟨a,r,rfl,rx1,rx⟩:=rx
  obtain⟨b,q,rfl,ry1,ry⟩:=ry
  cases ru with
  | cons ru1 ru =>
   cases rv with
   | cons rv1 rv =>
    obtain⟨i1,i2⟩:=kE hu I rh h.2 rx ry ru rv
    refine⟨by simp[i1],fun j h1 h2=>?_⟩
    cases j with
    | zero=>exact sV hu I rh h.1 rx1 ry1 ru1 rv1
    | succ j=>exact i2 j (by simpa using h1) (by simpa using h2)
 | [],y::ys,_,_,_,_,h,_,_,_,_=>h.elim
 | x::xs,[],_,_,_,_,h,_,_,_,_=>h.elim
end
theorem sB {X:Cx}(hu:X.A.units+100<cLine)(ne:Bool):OpR X (compareOp (opB ne)) (rN X.K fun x y st Q=>(mK st x y∧Q (.bl (!ne)) st)∨(kQ st x y∧Q (.bl ne) st)):=by
 intro pins s σ H x' y' v u Q I rx ry h
 obtain⟨m,st,x,y,rh,hx,hy,h⟩:=h
 rcases h with⟨hs,w⟩|⟨hs,w⟩
 case inr=>exact qJ (A:=X.A) (E:=X.xe) (by omega) I rh hs hx hy rx ry ne _ ⟨.bl ne,H,I,rfl,w.here rh (R_bl.mpr rfl)⟩
 have fin:EP X pins σ Q (.bool (!ne)) s:=⟨.bl (!ne),H,I,rfl,w.here rh (R_bl.mpr rfl)⟩
 rcases hs with⟨xs,ys,rfl,rfl,hs⟩|⟨n,k,rfl,rfl,hs⟩
 ·rw[R_tup] at hx hy
  obtain⟨a,xs',rfl,g1,r1⟩:=hx
  obtain⟨b,ys',rfl,g2,r2⟩:=hy
  cases rx
  cases ry
  obtain⟨us,ru,p1,_⟩:=I.tuple g1
  obtain⟨vs,rv,p2,_⟩:=I.tuple g2
  obtain⟨i1,i2⟩:=kE (A:=X.A.in1) (by show X.A.units+1+80<cLine;omega) I rh hs r1 r2 ru rv
  exact sj (us:=us.toArray) (vs:=vs.toArray) p1 p2 (by simp[i1]) (by omega) (fun j h1 h2=>by simpa using i2 j (by simpa using h1) (by simpa using h2)) fin
 ·rcases hs with h|⟨n',k',kvs,lvs,e1,e2,h1,h2,h3,h4⟩
  ·obtain⟨_,d,h1,_⟩:=h
   rw[PV.toD] at h1
   cases h1
  ·cases e1
   cases e2
   obtain⟨a,b,rfl,rfl,hc⟩:=kA (A:=X.A) (E:=X.xe) (by omega) I rh h1 h2 h3 h4 hx hy rx ry
   exact hc ne _ fin
end FW
namespace FW
open L2 HX
theorem Ext.addD {K:W.Frag}{m m2:List Addr}{H H2:Hp}{D:Addr}(x:Ext K m H m2 H2)(h0:H D=none):Ext K m H (m2++[D]) H2:=by
 refine⟨x.pre.trans (GH _ _),fun a ha=>?_,x.fr,x.tup,x.rdf,x.tbs,x.tb,x.frz⟩
 rcases FG.mp ha with z|z
 ·exact x.new a z
 ·rw[EW] at z
  subst z
  exact .inr h0
theorem RH.addDk {K:W.Frag}{m:List Addr}{H:Hp}{st:AH}{D:Addr}{kvs:List (Key × PV)}{ys:List (Key × V)}(h:RH K m H st)(Dm:D ∉ m)(hD:H D=some (.dK ys))(r1:ys.map (·.1)=kvs.map (·.1))(r2:Rs K m H (kvs.map (·.2)) (ys.map (·.2))):RH K (m++[D]) H (st++[.dk kvs]):=by
 have hp:m <+: m++[D]:=GH _ _
 refine⟨by simp[h.len],HD.mpr ⟨h.nd,FZ.mpr ⟨by simp,GZ⟩,fun a ha b hb z=>?_⟩,fun n c' a h1 h2=>?_,h.tb⟩
 ·rw[EW] at hb
  subst hb
  exact Dm (z ▸ ha)
 ·by_cases hn:n<st.length
  ·rw[EJ hn] at h1
   rw[EJ (by rw[h.len];exact hn)] at h2
   have hc:=h.at_ n c' a h1 h2
   cases c' with
   | lst xs=>obtain⟨us,g1,g2⟩:=hc;exact⟨us,g1,g2.pre hp⟩
   | dk kvs=>obtain⟨us,g1,g2,g3⟩:=hc;exact⟨us,g1,g2,g3.pre hp⟩
   | fz kvs=>obtain⟨o,us,g1,g2,g3⟩:=hc;exact⟨o,us,g1,g2,g3.pre hp⟩
  ·rw[EA (by omega)] at h1
   rw[EA (by rw[h.len];omega)] at h2
   have hl:=h.len
   by_cases hz:n-st.length=0
   ·rw[hz] at h1
    rw[show n-m.length=0 by omega] at h2
    simp at h1 h2
    subst h1 h2
    exact⟨ys,hD,r1,r2.pre hp⟩
   ·rw[FE (by simp;omega)] at h1
    cases h1
section
variable {X:Cx}{c:Cfg}{Γ:Nat→FSp}
theorem vM {ek ev:Expr}{tk tv:TE}{pos:Pos}(hk:PE X ek tk)(hv:PE X ev tv):PE X (.Dict [some ek] [ev] pos) (fun σ H Q=>∀p,H p=none→tk σ (upd H p (.dK [])) fun x H1=>∃z,x=.str z∧tv σ H1 fun y H2=>H2 p=some (.dK [])∧Q (.ref p) (upd H2 p (.dK [(.inr z,y)]))):=by
 intro pins s σ H Q I q
 have hn:=I.hok.fresh (D7 s.heap.objs.size)
 have I1:=I.laid (a:=s.heap.objs.size) (o:=.dK []) (h':=s.heap.push { cls:=.type "dict",data:=.dict #[] }) (t':=s.toks) (fun _ _ q=>D5 _ q) (D7 _)
  ⟨GJ _,beq_eq_false_iff_ne.mpr (Ne.symm (EM (pw I))),[],.nil,Heap.DictOf.new _⟩
 refine wpAny_Dict_walk (knd:=aB X.prog X.w) rfl rfl (by simp) (by simp) ?_
 refine pairTrees_cons_walk (thn (hk pins _ σ _ _ I1 (q _ hn)) fun u s1 ⟨x,H1,I2,rx,z,ex,w⟩=>?_)
 subst ex
 refine thn (hv pins _ σ _ _ I2 w) fun u2 s2 ⟨y,H2,I3,ry,e,q2⟩=>?_
 refine pairTrees_nil_walk ?_
 obtain⟨zz,hd,vs0,r0,dd⟩:=I3.hok _ _ e
 cases r0
 refine⟨[(.inr z,u2)],⟨by obtain⟨t,rfl⟩:=rx;exact iw _ _ z t,rfl,True.intro⟩,dd,fun h' dd' hs=>⟨.ref s.heap.objs.size,_,?_,rfl,q2⟩⟩
 have he:∃q,h'.get? s.heap.objs.size=some q:=let ⟨q,_,_,hq,_⟩:=dd';⟨q,hq⟩
 exact I3.write (x:=s.heap.objs.size) (e:=s.heap.objs.size) (o:=.dK [(.inr z,y)]) (h':=h') (t':=s2.toks+1) (by rw[e];exact True.intro) (.inl rfl) (fun b u hb hu=>(hs.2 b hb).trans hu) he
  ⟨by simp[sizeLine],hd,_,.cons ⟨rfl,ry⟩ .nil,dd'⟩
theorem vN (C:COk X c Γ){ek ev:Expr}{pos:Pos}{k v:E}(hk:PE X ek (TEx X.K (wpE Γ k)))(hv:PE X ev (TEx X.K (wpE Γ v))):PE X (.Dict [some ek] [ev] pos) (TEx X.K (wpE Γ (.dct2 k v))):=by
 intro pins s σ H Q I h
 refine vM hk hv pins s σ H Q I fun p hp=>?_
 obtain⟨m,ρ,st,rf,rh,w⟩:=h
 have x0:=Ext.newT (o:=.dK []) rh hp
 refine⟨m,ρ,st,rf.mono x0,rh.newT hp,aa C.mono k (fun x st1 z m1 H1 x1 e1 r1 r2=>?_) w⟩
 obtain⟨zz,rfl,z⟩:=z
 rw[R_str] at r2
 subst r2
 refine⟨zz,rfl,m1,ρ,st1,(rf.mono x0).mono e1,r1,aa C.mono v (fun y st2 z m2 H2 y2 e2 r3 r4=>?_) z⟩
 have pm:p ∉ m:=rh.fresh hp
 have ee:=e1.trans e2
 have hP:H2 p=some (.dK []):=ee.fr p _ pm av fun _ z=>nomatch z
 have pm2:p ∉ m2:=fun q=>by
  rcases ee.new p q with q|q
  ·exact pm q
  ·rw[av] at q;cases q
 refine⟨hP,?_⟩
 have e3:Ext X.K m H m2 H2:=x0.trans ee
 have e4:Ext X.K m H m2 (upd H2 p (.dK [(.inr zz,y2)])):=e3.awayD hp hP
 have r5:=(r3.awayD (zs:=[(.inr zz,y2)]) pm2 hP).addDk (kvs:=[(.inr zz,y)]) pm2 av rfl (by rw[EE,EE,Rs_cons',E5,E5,Rs_nil];exact⟨r4.mono0 (eQ hP) (eR hP),rfl⟩)
 exact z _ _ _ (e4.addD hp) r5 (R.last r3.len)
end
end FW
namespace FW
open L2 HX
section
variable {Γ:Nat→FSp}
theorem jM (G:aO Γ){elt:E}{tg:Tg}{ifs:Es}{ρ:Fr}{x:PV}{st:AH}{k k':Option PV→AH→Prop}(hk:∀o st,k o st→k' o st)(q:dv Γ elt tg ifs ρ x st k):dv Γ elt tg ifs ρ x st k' :=
 aK G tg (fun ρ' st3 w=>bu G ifs (fun c st4 w=>by
  cases c with
  | true=>rw[D9 rfl] at w ⊢;exact aa G elt (fun v st5 w=>hk _ _ w) w
  | false=>rw[D_ D1] at w ⊢;exact hk _ _ w) w) q
theorem RH.addD {K:W.Frag}{m:List Addr}{H:Hp}{st:AH}{D:Addr}{vs:List PV}{ys:List V}(h:RH K m H st)(Dm:D ∉ m)(hD:H D=some (.lst ys))(r:Rs K m H vs ys):RH K (m++[D]) H (st++[.lst vs]):=by
 have hp:m <+: m++[D]:=GH _ _
 refine⟨by simp[h.len],HD.mpr ⟨h.nd,FZ.mpr ⟨by simp,GZ⟩,fun a ha b hb z=>?_⟩,fun n c' a h1 h2=>?_,h.tb⟩
 ·rw[EW] at hb
  subst hb
  exact Dm (z ▸ ha)
 ·by_cases hn:n<st.length
  ·rw[EJ hn] at h1
   rw[EJ (by rw[h.len];exact hn)] at h2
   have hc:=h.at_ n c' a h1 h2
   cases c' with
   | lst xs=>obtain⟨us,g1,g2⟩:=hc;exact⟨us,g1,g2.pre hp⟩
   | dk kvs=>obtain⟨us,g1,g2,g3⟩:=hc;exact⟨us,g1,g2,g3.pre hp⟩
   | fz kvs=>obtain⟨o,us,g1,g2,g3⟩:=hc;exact⟨o,us,g1,g2,g3.pre hp⟩
  ·rw[EA (by omega)] at h1
   rw[EA (by rw[h.len];omega)] at h2
   have hl:=h.len
   by_cases hz:n-st.length=0
   ·rw[hz] at h1
    rw[show n-m.length=0 by omega] at h2
    simp at h1 h2
    subst h1 h2
    exact⟨ys,hD,r.pre hp⟩
   ·rw[FE (by simp;omega)] at h1
    cases h1
theorem jQ {X:Cx}{c:Cfg}(C:COk X c Γ){nt:List Str}{caps:List Nat}{sc:Scope}(h:c.block nt caps sc=true) :
  CScope X sc∧(∀i∈caps,i<X.N.length)∧(∀x∈caps.filterMap (X.N[·]?),sc.names.lookup x=some .free)∧(∀x∈caps.filterMap (X.N[·]?),X.env.kindOf x=some .cell∨X.env.kindOf x=some .free)∧(nt++caps.filterMap (X.N[·]?)).Nodup:=by
 unfold Cfg.block at h
 simp only[Bool.and_eq_true,List.all_eq_true,beq_iff_eq,decide_eq_true_eq,Bool.or_eq_true,Bool.not_eq_true',beq_eq_false_iff_ne] at h
 obtain⟨⟨⟨⟨⟨⟨h1,h2⟩,h3⟩,h4⟩,h5⟩,h6⟩,h7⟩:=h
 rw[C.N]
 refine⟨⟨h1,fun y hy=>h2 y hy,fun y hy e=>?_,fun y hy e=>?_⟩,h5,fun x hx=>(h6 x hx).1,fun x hx=>C.cel x (pi (h6 x hx).2),h7⟩
 ·rcases h3 y hy with z|z
  ·exact absurd e z
  ·exact z
 ·rcases h4 y hy with z|z
  ·exact absurd e z
  ·exact C.cel _ (pi z)
theorem sv {X:Cx}{c:Cfg}(C:COk X c Γ){nt:List Str}{caps:List Nat}{sc:Scope}(h:c.block nt caps sc=true){s2:Shared}{H2:Hp}{fp:List Addr}{A:Addr} :
  COk (cxC X (nt++caps.filterMap (X.N[·]?)) s2 H2 fp sc A) (c.inner nt caps sc) Γ:=by
 obtain⟨S,k1,k2,k3,k4⟩:=jQ C h
 have nocell:∀x,sc.names.lookup x≠some .cell:=fun x e=>S.nocell _ (E_ e) rfl
 refine⟨C.calm,PassesOwn.never,?_,?_,fun x hx=>?_,fun x hx=>?_,fun x hx=>lookup_relabel_local hx,fun x hx=>gA hx,?_,fun x hx=>?_,C.room,C.fn,C.blt,C.gl,C.mono,fun h=>Bool.noConfusion (show false=true from h),fun k h=>by cases h⟩
 ·show nt++caps.filterMap (X.N[·]?)=nt++caps.filterMap (c.N[·]?)
  rw[C.N]
 ·show (nt++caps.filterMap (c.N[·]?)).Nodup
  rw[←C.N]
  exact k4
 ·rcases hx with hx|hx|hx
  ·exact .inl (lookup_relabel_local hx)
  ·exact absurd hx (nocell x)
  ·rcases cN (env:=X.env) hx with z|z
   ·exact .inr (.inl z)
   ·exact .inr (.inr z)
 ·rcases hx with hx|hx
  ·exact⟨.inl (lookup_relabel_local hx),.inr (lookup_relabel_local hx)⟩
  ·exact absurd hx (nocell x)
 ·show Env.blockKind (compEnvC sc (fV X.env sc.names []) A X.env)=_
  unfold Env.blockKind
  show (if sc.kind.isAnnotationScope=true then _ else sc.kind)=_
  rw[S.kind]
  rfl
 ·rcases hx with hx|hx
  ·exact absurd hx (nocell x)
  ·exact cN hx
theorem fS {y:Expr}(h:(bR y || oh y)=true){n:Str}{env:Env}{w:Sem Value}:attributeBase y n env w=w:=by
 cases y <;> first|rfl|cases h
theorem wO {X:Cx}{c:Cfg}(C:COk X c Γ){k:SM}{a b:E}{u l:Expr}{ap cp:Pos}(hl:(ap.endLine == cp.line)=true)(hy:(bR u || oh u)=true)(hs:ag l=true)(ha:PE X u (TEx X.K (wpE Γ a)))(hb:PE X l (TEx X.K (wpE Γ b))) :
  PE X (.Call (.Attribute u (tB k) ap) [l] [] cp) (TEx X.K (wpE Γ (.smx k a b))):=by
 intro pins s σ H Q I h
 obtain⟨m,ρ,st,rf,rh,w⟩:=h
 have hB:PA X [l] (b7 (TEx X.K (wpE Γ b)) iY):=pac hb bH hs
 cases k with
 | index =>
  refine jy F3 PySem.F.slot_str_index PySem.F.type_str_index rZ ha hB (fS hy) (by rw[aw hs];rfl) hl (aw hs) rfl pins s σ H Q I ?_
  refine⟨m,ρ,st,rf,rh,aa C.mono a (fun v st1 k m1 H1 x1 e1 r1 r2=>?_) w⟩
  obtain⟨⟨z,rfl⟩,k⟩:=k
  rw[R_str] at r2
  subst r2
  refine⟨rfl,m1,ρ,st1,rf.mono e1,r1,aa C.mono b (fun v st2 k m2 H2 x2 e2 r3 r4=>?_) k⟩
  cases v with
  | str w =>
   obtain⟨i,r,h1,k⟩:=k
   rw[R_str] at r4
   subst r4
   exact⟨z,w,i,r,rfl,rfl,h1,k m2 H2 _ (e1.trans e2) r3 (R_int.mpr rfl)⟩
  | _=>exact False.elim k
 | count =>
  refine jy F3 PySem.F.slot_str_count PySem.F.type_str_count qz ha hB (fS hy) (by rw[aw hs];rfl) hl (aw hs) rfl pins s σ H Q I ?_
  refine⟨m,ρ,st,rf,rh,aa C.mono a (fun v st1 k m1 H1 x1 e1 r1 r2=>?_) w⟩
  obtain⟨⟨z,rfl⟩,k⟩:=k
  rw[R_str] at r2
  subst r2
  refine⟨rfl,m1,ρ,st1,rf.mono e1,r1,aa C.mono b (fun v st2 k m2 H2 x2 e2 r3 r4=>?_) k⟩
  cases v with
  | str w =>
   rw[R_str] at r4
   subst r4
   exact⟨z,w,rfl,rfl,k m2 H2 _ (e1.trans e2) r3 (R_int.mpr rfl)⟩
  | _=>exact False.elim k
 | join =>
  refine jy F3 PySem.F.slot_str_join PySem.F.type_str_join ur ha hB (fS hy) (by rw[aw hs];rfl) hl (aw hs) rfl pins s σ H Q I ?_
  refine⟨m,ρ,st,rf,rh,aa C.mono a (fun v st1 k m1 H1 x1 e1 r1 r2=>?_) w⟩
  obtain⟨⟨z,rfl⟩,k⟩:=k
  rw[R_str] at r2
  subst r2
  refine⟨rfl,m1,ρ,st1,rf.mono e1,r1,aa C.mono b (fun v st2 k m2 H2 x2 e2 r3 r4=>?_) k⟩
  obtain⟨_,ss,h2,h3,k⟩:=k
  obtain⟨a,zs,rfl,g,rz⟩:=bv r3 r4 h2
  obtain rfl:=fq rz
  exact⟨z,a,ss,rfl,rfl,g,h3,k m2 H2 _ (e1.trans e2) r3 (R_str.mpr rfl)⟩
theorem u9 {X:Cx}{c:Cfg}(C:COk X c Γ){a:E}{u:Expr}{y:Str}{ap cp p3:Pos}{k3:Nat}(hl:(ap.endLine == cp.line)=true)(h0:(y.length == 0)=false)(hy:bR u=true)(ha:PE X u (TEx X.K (wpE Γ a))) :
  PE X (.Call (.Attribute u "partition" ap) [.Constant (.str y) k3 p3] [] cp) (TEx X.K (wpE Γ (.part a y))):=by
 intro pins s σ H Q I h
 obtain⟨m,ρ,st,rf,rh,w⟩:=h
 refine jy F3 PySem.F.slot_str_partition PySem.F.type_str_partition vo ha (pac jt bH rfl) (cV hy) rfl hl rfl rfl pins s σ H Q I ?_
 refine⟨m,ρ,st,rf,rh,aa C.mono a (fun v st1 k m1 H1 x1 e1 r1 r2=>?_) w⟩
 obtain⟨z,rfl,h1,k⟩:=k
 rw[R_str] at r2
 subst r2
 exact⟨rfl,z,y,rfl,rfl,h0,h1,fun p hp=>(k.ext e1).newT r1 yE hp⟩
mutual
theorem aD:∀(e:E) {X:Cx}{c:Cfg} (C:COk X c Γ) (x:Expr),aq c e x=true→PE X x (TEx X.K (wpE Γ e))
 | .var i,X,c,C,x,h=>by
  replace h:=af h
  obtain⟨y,p,rfl,h⟩:=h
  ·exact rm C h
 | .int i,X,c,C,x,h=>by
  replace h:=qc h
  obtain⟨j,k,p,rfl,h⟩:=h
  ·rw[GR] at h;subst h
   rintro pins s σ H Q I ⟨m,ρ,st,rf,rh,w⟩
   skip
   exact xW pins s σ H Q I (w.here rh (R_int.mpr rfl))
 | .bl i,X,c,C,x,h=>by
  replace h:=nF h
  obtain⟨j,k,p,rfl,h⟩:=h
  ·rw[GR] at h;subst h
   rintro pins s σ H Q I ⟨m,ρ,st,rf,rh,w⟩
   skip
   exact wt pins s σ H Q I (w.here rh (R_bl.mpr rfl))
 | .non,X,c,C,x,h=>by
  replace h:=qZ h
  obtain⟨k,p,rfl⟩:=h
  ·rintro pins s σ H Q I ⟨m,ρ,st,rf,rh,w⟩
   skip
   exact yO pins s σ H Q I (w.here rh (R_non.mpr rfl))
 | .str i,X,c,C,x,h=>by
  replace h:=fo h
  obtain⟨j,k,p,rfl,h⟩:=h
  ·rw[GR] at h;subst h
   rintro pins s σ H Q I ⟨m,ρ,st,rf,rh,w⟩
   skip
   exact jt pins s σ H Q I (w.here rh (R_str.mpr rfl))
 | .gv y v,X,c,C,x,h=>by
  replace h:=af h
  obtain⟨z,p,rfl,h⟩:=h
  ·simp only[Bool.and_eq_true,beq_iff_eq] at h
   obtain⟨⟨h1,h2⟩,h3⟩:=h
   subst h1
   obtain⟨g1,g2,_⟩:=C.glbx h2
   replace h3:=dS h3
   obtain⟨w,hw,h3⟩:=h3
   ·have:=PV.same_eq h3
    subst this
    obtain⟨u,z,e1,e2,e3⟩:=C.gl _ _ hw
    rintro pins s σ H Q I ⟨m,ρ,st,rf,rh,w⟩
    skip
    exact mi g1 e1 e2 g2 pins s σ H Q I (w.here rh (e3 m H))
 | .tup es,X,c,C,x,h=>by
  replace h:=aI h
  obtain⟨xs,k,p,rfl,h⟩:=h
  ·rintro pins s σ H Q I ⟨m,ρ,st,rf,rh,w⟩
   skip
   refine lw (fK es C _ h) pins s σ H Q I ⟨m,ρ,st,rf,rh,ar C.mono es (fun vs st1 k m1 H1 xs1 e1 r1 r2=>⟨by rw[←r2.len];exact db k.1,fun p hp=>?_⟩) w⟩
   exact(k.2.ext e1).newT r1 r2 hp
 | .lst es,X,c,C,x,h=>by
  replace h:=ot h
  obtain⟨xs,p,rfl,h⟩:=h
  ·rintro pins s σ H Q I ⟨m,ρ,st,rf,rh,w⟩
   skip
   refine y9 (fK es C _ h) pins s σ H Q I ⟨m,ρ,st,rf,rh,ar C.mono es (fun vs st1 k m1 H1 xs1 e1 r1 r2=>⟨by rw[←r2.len];exact db k.1,fun p hp=>?_⟩) w⟩
   exact(k.2.ext e1).newL r1 r2 hp
 | .bad,X,c,C,x,h=>by rintro pins s σ H Q I ⟨m,ρ,st,rf,rh,w⟩;exact False.elim w
 | .dct0,X,c,C,x,h=>by
  replace h:=jW h
  obtain⟨ks,vs,p,rfl,h⟩:=h
  replace h:=w9 h
  obtain⟨rfl,rfl⟩:=h
  ·rintro pins s σ H Q I ⟨m,ρ,st,rf,rh,w⟩
   skip
   refine rY pins s σ H Q I fun p hp=>?_
   exact w _ _ _ (Ext.new1 rh hp) (rh.new1 hp ⟨[],av,rfl,Rs_nil.mpr rfl⟩) (R.last rh.len)
 | .dct1 _ _,X,c,C,x,h=>by rintro pins s σ H Q I ⟨m,ρ,st,rf,rh,w⟩;exact False.elim w
 | .bin op a b,X,c,C,x,h=>by
  replace h:=qf h
  obtain⟨l,o,r,p,rfl,h⟩:=h
  ·simp only[Bool.and_eq_true,beq_iff_eq] at h
   obtain⟨⟨h1,h2⟩,h3⟩:=h
   subst h1
   rintro pins s σ H Q I ⟨m,ρ,st,rf,rh,w⟩
   skip
   exact Bm (yu _) (aD a C _ h2) (aD b C _ h3) pins s σ H Q I ⟨m,ρ,st,rf,rh,aa C.mono a (fun v st1 k m1 H1 x1 e1 r1 r2=>⟨m1,ρ,st1,rf.mono e1,r1,
    aa C.mono b (fun u st2 k2 m2 H2 y2 e2 r3 r4=>⟨m2,st2,v,u,r3,r2.mono e2,r4,kC (fun _ _ q=>q.ext (e1.trans e2)) k2⟩) k⟩) w⟩
 | .neg a,X,c,C,x,h=>by
  replace h:=qH h
  obtain⟨y,p,rfl,h⟩:=h
  ·rintro pins s σ H Q I ⟨m,ρ,st,rf,rh,w⟩
   skip
   refine BI yI (aD a C _ h) pins s σ H Q I ⟨m,ρ,st,rf,rh,aa C.mono a (fun v st1 k m1 H1 x1 e1 r1 r2=>?_) w⟩
   obtain⟨i,rfl,k⟩:=k
   rw[R_int] at r2
   subst r2
   exact⟨i,rfl,(k.ext e1).here r1 (R_int.mpr rfl)⟩
 | .not a,X,c,C,x,h=>by
  replace h:=lc h
  obtain⟨y,p,rfl,h⟩:=h
  ·rintro pins s σ H Q I ⟨m,ρ,st,rf,rh,w⟩
   skip
   refine wB (aD a C _ h) pins s σ H Q I ⟨m,ρ,st,rf,rh,aa C.mono a (fun v st1 k m1 H1 x1 e1 r1 r2=>?_) w⟩
   obtain⟨i,rfl,k⟩:=k
   rw[R_bl] at r2
   subst r2
   exact⟨i,rfl,(k.ext e1).here r1 (R_bl.mpr rfl)⟩
 | .cmp op a b,X,c,C,x,h=>by
  replace h:=fc h
  obtain⟨l,o,r,p,rfl,h⟩:=h
  ·simp only[Bool.and_eq_true,beq_iff_eq,Bool.not_eq_true',beq_eq_false_iff_ne] at h
   obtain⟨⟨⟨h1,n1⟩,h2⟩,h3⟩:=h
   subst h1
   rintro pins s σ H Q I ⟨m,ρ,st,rf,rh,w⟩
   skip
   exact pC (so C.room.units _) (aD a C _ h2) (aD b C _ h3) n1 pins s σ H Q I ⟨m,ρ,st,rf,rh,aa C.mono a (fun v st1 k m1 H1 x1 e1 r1 r2=>⟨m1,ρ,st1,rf.mono e1,r1,
    aa C.mono b (fun u st2 k2 m2 H2 y2 e2 r3 r4=>⟨m2,st2,v,u,r3,r2.mono e2,r4,fh (fun _ _ q=>q.ext (e1.trans e2)) k2⟩) k⟩) w⟩
 | .bop true es,X,c,C,x,h=>by
  replace h:=fg h
  obtain⟨o,xs,p,rfl,h⟩:=h
  ·simp only[Bool.and_eq_true,beq_iff_eq,Bool.not_eq_true'] at h
   obtain⟨⟨h1,h2⟩,h3⟩:=h
   subst h1
   rintro pins s σ H Q I ⟨m,ρ,st,rf,rh,w⟩
   skip
   exact wx es C _ _ h2 h3 pins s σ H Q I ⟨m,ρ,st,rf,rh,w⟩
 | .bop false es,X,c,C,x,h=>by
  replace h:=fg h
  obtain⟨o,xs,p,rfl,h⟩:=h
  ·simp only[Bool.and_eq_true,beq_iff_eq,Bool.not_eq_true'] at h
   obtain⟨⟨h1,h2⟩,h3⟩:=h
   subst h1
   rintro pins s σ H Q I ⟨m,ρ,st,rf,rh,w⟩
   skip
   exact vZ es C _ _ h2 h3 pins s σ H Q I ⟨m,ρ,st,rf,rh,w⟩
 | .ite t a b,X,c,C,x,h=>by
  replace h:=pR h
  obtain⟨y,l,r,p,rfl,h⟩:=h
  ·simp only[Bool.and_eq_true] at h
   obtain⟨⟨h1,h2⟩,h3⟩:=h
   rintro pins s σ H Q I ⟨m,ρ,st,rf,rh,w⟩
   skip
   refine sL (jB t C _ h1) (aD a C _ h2) (aD b C _ h3) pins s σ H Q I ⟨m,ρ,st,rf,rh,aC C.mono t (fun k st1 z m1 H1 e1 r1=>?_) w⟩
   cases k with
   | true=>rw[D9 rfl] at z ⊢;exact⟨m1,ρ,st1,rf.mono e1,r1,aa C.mono a (fun _ _ q=>q.ext e1) z⟩
   | false=>rw[D_ D1] at z ⊢;exact⟨m1,ρ,st1,rf.mono e1,r1,aa C.mono b (fun _ _ q=>q.ext e1) z⟩
 | .ix a b,X,c,C,x,h=>by
  replace h:=dE h
  obtain⟨l,r,p,rfl,h⟩:=h
  ·simp only[Bool.and_eq_true] at h
   obtain⟨⟨h1,h2⟩,h3⟩:=h
   rintro pins s σ H Q I ⟨m,ρ,st,rf,rh,w⟩
   skip
   exact tE (wj C.room.units) (aD a C _ h2) (aD b C _ h3) h1 pins s σ H Q I ⟨m,ρ,st,rf,rh,aa C.mono a (fun v st1 k m1 H1 x1 e1 r1 r2=>⟨m1,ρ,st1,rf.mono e1,r1,
    aa C.mono b (fun u st2 k2 m2 H2 y2 e2 r3 r4=>⟨m2,st2,v,u,r3,r2.mono e2,r4,gM (fun _ _ q=>q.ext (e1.trans e2)) k2⟩) k⟩) w⟩
 | .sl a lo hi,X,c,C,x,h=>by
  replace h:=dE h
  obtain⟨l,r,p,rfl,h⟩:=h
  replace h:=nJ h
  obtain⟨u,v,p2,rfl,h⟩:=h
  ·simp only[Bool.and_eq_true] at h
   obtain⟨⟨h1,h2⟩,h3⟩:=h
   rintro pins s σ H Q I ⟨m,ρ,st,rf,rh,w⟩
   skip
   exact sO Br (aD a C _ h1) (zQ lo C _ h2) (zQ hi C _ h3) pins s σ H Q I ⟨m,ρ,st,rf,rh,aa C.mono a (fun v st1 k m1 H1 x1 e1 r1 r2=>⟨m1,ρ,st1,rf.mono e1,r1,
    gb C.mono lo (fun l st2 k2 m2 H2 e2 r3=>⟨m2,ρ,st2,(rf.mono e1).mono e2,r3,gb C.mono hi (fun u st3 k3 m3 H3 e3 r4=>⟨m3,st3,v,r4,(r2.mono e2).mono e3,nS (fun _ _ q=>q.ext ((e1.trans e2).trans e3)) k3⟩) k2⟩) k⟩) w⟩
 | .call f es,X,c,C,x,h=>by
  replace h:=aG h
  obtain⟨g,xs,p,rfl,h⟩:=h
  replace h:=af h
  obtain⟨y,p2,rfl,h⟩:=h
  ·simp only[Bool.and_eq_true] at h
   obtain⟨⟨h1,h2⟩,h3⟩:=h
   rintro pins s σ H Q I ⟨m,ρ,st,rf,rh,w⟩
   skip
   exact mQ C h1 h2 h3 (fK es C _ h3) pins s σ H Q I ⟨m,ρ,st,rf,rh,w⟩
 | .blt b es,X,c,C,x,h=>by
  replace h:=aG h
  obtain⟨g,xs,p,rfl,h⟩:=h
  replace h:=af h
  obtain⟨y,p2,rfl,h⟩:=h
  ·simp only[Bool.and_eq_true,beq_iff_eq,Bool.not_eq_true'] at h
   obtain⟨⟨⟨⟨h1,h2⟩,h3⟩,h4⟩,h5⟩:=h
   rintro pins s σ H Q I ⟨m,ρ,st,rf,rh,w⟩
   skip
   exact nP C h1 h2 h3 h4 (fK es C _ h5) pins s σ H Q I ⟨m,ρ,st,rf,rh,w⟩
 | .inst a t,X,c,C,x,h=>by
  replace h:=aG h
  obtain⟨g,xs,p,rfl,h⟩:=h
  replace h:=af h
  obtain⟨y,p2,rfl,h⟩:=h
  replace h:=fu h
  obtain⟨l,r,rfl,h⟩:=h
  replace h:=af h
  obtain⟨z,p3,rfl,h⟩:=h
  ·rw[D6] at h
   exact pv C h.1 (aD a C _ h.2)
 | .met mm o es,X,c,C,x,h=>by
  replace h:=aG h
  obtain⟨g,xs,p,rfl,h⟩:=h
  replace h:=cX h
  obtain⟨y,n,p2,rfl,h⟩:=h
  ·simp only[Bool.and_eq_true,beq_iff_eq,decide_eq_true_eq] at h
   obtain⟨⟨⟨⟨⟨⟨h1,h2⟩,h3⟩,h4⟩,h0⟩,h5⟩,h6⟩:=h
   exact tS C h1 (by rw[h2];simp) h3 h4 h0 (aD o C _ h5) (fK es C _ h6) h6
 | .comp elt tg it ifs nt caps,X,c,C,x,h=>by
  replace h:=gG h
  obtain⟨ex,gs,sc,pos,rfl,h⟩:=h
  replace h:=bU h
  obtain⟨g,rfl,h⟩:=h
  obtain⟨tx,ix,fx,ia⟩:=g
  dsimp only at h
  ·simp only[Bool.and_eq_true,beq_iff_eq] at h
   obtain⟨⟨⟨⟨⟨⟨⟨⟨h1,h0⟩,h2⟩,h3⟩,h4⟩,h5⟩,h6⟩,h7⟩,h8⟩:=h
   subst h1
   obtain⟨S,k1,k2,k3,k4⟩:=jQ C h4
   have hC:∀s2 H2 fp A,COk (cxC X (nt++caps.filterMap (X.N[·]?)) s2 H2 fp sc A) (c.inner nt caps sc) Γ:=fun s2 H2 fp A=>sv C h4
   rintro pins s σ H Q I ⟨m,ρ,st,rf,rh,w⟩
   skip
   rw[eval_ListComp]
   refine lj (elt:=elt) (tg:=tg) (ifs:=ifs) (nt:=nt) (caps:=caps) (use:=none) (Fin:=fun D H'=>Q (.ref D) H') (wi:=TIx X.K (fY Γ it)) C.mono C.calm S rfl k1 k2 k3 h2 h3 (rq it C ix h0 h5) (fun s2 H2 fp A=>jq tg (hC s2 H2 fp A) _ h6) (fun s2 H2 fp A=>oo ifs (hC s2 H2 fp A) _ h7) (fun s2 H2 fp A=>aD elt (hC s2 H2 fp A) _ h8) I ?_ ?_
   ·refine⟨m,ρ,st,rf,rh,dB C.mono it (fun xs chk st1 z m1 H1 J e1 r1 W=>⟨m1,ρ,st1,xs,chk,rf.mono e1,r1,W,z.1,?_⟩) w⟩
    refine dU (body:=dv Γ elt tg ifs (nt.map (fun _=>none)++caps.map fun i=>(ρ[i]?).join)) (fun _ _ _ _ hk q=>jM C.mono hk q) (fun vs st2 k m2 H2 D ys e2 r2 Dm hD0 hD ry=>?_) z.2
    have hD1:H D=none:=by
     cases q:H D with
     | none=>rfl
     | some o =>
      by_cases hm:D∈m
      ·exact absurd ((e1.trans e2).pre.subset hm) Dm
      ·exact absurd hD0 (e1.ne hm q)
    exact k _ _ _ ((e1.trans e2).addD hD1) (r2.addD Dm hD ry) (R.last r2.len)
   ·intro C' D H' s' m' I' ns fp F
    refine⟨m',ns,fun h' hs'=>?_⟩
    exact⟨.ref D,H',I'.turned (t':=s'.toks) (fun b o hb e=>hs'.extBut b o hb e) fp.1 fp.2.1 fp.2.2.2.1 fp.2.2.2.2.1 fp.2.2.2.2.2,rfl,F⟩
 | .compK _ _ _ _ _ _ _,X,c,C,x,h=>by rintro pins s σ H Q I ⟨m,ρ,st,rf,rh,w⟩;exact False.elim w
 | .compD _ _ _ _ _ _ _ _,X,c,C,x,h=>by rintro pins s σ H Q I ⟨m,ρ,st,rf,rh,w⟩;exact False.elim w
 | .dct2 k v,X,c,C,x,h=>by
  replace h:=jW h
  obtain⟨ks,vs,p,rfl,h⟩:=h
  replace h:=bU h
  obtain⟨ok,rfl,h⟩:=h
  replace h:=dS h
  obtain⟨kx,rfl,h⟩:=h
  replace h:=bU h
  obtain⟨vx,rfl,h⟩:=h
  simp only[Bool.and_eq_true] at h
  exact vN C (aD k C _ h.1) (aD v C _ h.2)
 | .dcl _,X,c,C,x,h=>by rintro pins s σ H Q I ⟨m,ρ,st,rf,rh,w⟩;exact False.elim w
 | .eqd ne a b,X,c,C,x,h=>by
  replace h:=fc h
  obtain⟨l,o,r,p,rfl,h⟩:=h
  simp only[Bool.and_eq_true,beq_iff_eq,Bool.not_eq_true',beq_eq_false_iff_ne] at h
  obtain⟨⟨⟨h1,n1⟩,h2⟩,h3⟩:=h
  subst h1
  rintro pins s σ H Q I ⟨m,ρ,st,rf,rh,w⟩
  exact pC (sB (by have:=C.room.un;omega) ne) (aD a C _ h2) (aD b C _ h3) n1 pins s σ H Q I ⟨m,ρ,st,rf,rh,aa C.mono a (fun v st1 k m1 H1 x1 e1 r1 r2=>⟨m1,ρ,st1,rf.mono e1,r1,
   aa C.mono b (fun u st2 k2 m2 H2 y2 e2 r3 r4=>⟨m2,st2,v,u,r3,r2.mono e2,r4,k2.imp (fun k2=>⟨k2.1,k2.2.ext (e1.trans e2)⟩) fun k2=>⟨k2.1,k2.2.ext (e1.trans e2)⟩⟩) k⟩) w⟩
 | .tmp a,X,c,C,x,h=>by
  have h:aq c a x=true:=h
  rintro pins s σ H Q I ⟨m,ρ,st,rf,rh,w⟩
  skip
  refine aD a C x h pins s σ H Q I ⟨m,ρ,st,rf,rh,aa C.mono a (fun v st1 k m1 H1 x1 e1 r1 r2=>?_) w⟩
  obtain⟨st2,q,e2,r3,r4⟩:=i_ rh e1 r1 r2 k
  exact q m H1 x1 e2 r3 r4
 | .dget a b,X,c,C,x,h=>by
  replace h:=aG h
  obtain⟨g,xs,p,rfl,h⟩:=h
  replace h:=cX h
  obtain⟨y,n,p2,rfl,h⟩:=h
  replace h:=bU h
  obtain⟨u,rfl,h⟩:=h
  simp only[Bool.and_eq_true,beq_iff_eq] at h
  obtain⟨⟨⟨⟨⟨h1,h2⟩,h3⟩,h4⟩,h5⟩,h6⟩:=h
  exact uw C h1 (by rw[h2];exact beq_self_eq_true _) h3 h4 (aD a C _ h5) (aD b C _ h6)
 | .dcp _,X,c,C,x,h=>by rintro pins s σ H Q I ⟨m,ρ,st,rf,rh,w⟩;exact False.elim w
 | .clr _,X,c,C,x,h=>by rintro pins s σ H Q I ⟨m,ρ,st,rf,rh,w⟩;exact False.elim w
 | .sset _,X,c,C,x,h=>by rintro pins s σ H Q I ⟨m,ρ,st,rf,rh,w⟩;exact False.elim w
 | .jrev _,X,c,C,x,h=>by rintro pins s σ H Q I ⟨m,ρ,st,rf,rh,w⟩;exact False.elim w
 | .pcall _ _,X,c,C,x,h=>by rintro pins s σ H Q I ⟨m,ρ,st,rf,rh,w⟩;exact False.elim w
 | .hm _ _ _,X,c,C,x,h=>by rintro pins s σ H Q I ⟨m,ρ,st,rf,rh,w⟩;exact False.elim w
 | .smx k a b,X,c,C,x,h=>by
  replace h:=aG h
  obtain⟨g,xs,p,rfl,h⟩:=h
  replace h:=cX h
  obtain⟨u,n,p2,rfl,h⟩:=h
  replace h:=bU h
  obtain⟨l,rfl,h⟩:=h
  rw[D6,D6,D6,D6,D6] at h
  obtain⟨⟨⟨⟨⟨h1,h2⟩,h3⟩,h4⟩,h5⟩,h6⟩:=h
  obtain rfl:=beq_iff_eq.mp h1
  exact wO C h2 h3 h4 (aD a C _ h5) (aD b C _ h6)
 | .part a y,X,c,C,x,h=>by
  replace h:=aG h
  obtain⟨g,xs,p,rfl,h⟩:=h
  replace h:=cX h
  obtain⟨u,n,p2,rfl,h⟩:=h
  replace h:=bU h
  obtain⟨l,rfl,h⟩:=h
  replace h:=fo h
  obtain⟨j,kk,p3,rfl,h⟩:=h
  ·simp only[Bool.and_eq_true,beq_iff_eq,Bool.not_eq_true'] at h
   obtain⟨⟨⟨⟨⟨h1,h2⟩,h3⟩,h4⟩,h5⟩,h6⟩:=h
   subst h1 h3
   exact u9 C (by rw[h2];simp) h4 h5 (aD a C _ h6)
theorem fK:∀(es:Es) {X:Cx}{c:Cfg} (C:COk X c Γ) (xs:List Expr),cD c es xs=true→PA X xs (TAx X.K (bh Γ es))
 | .nil,X,c,C,xs,h=>by
  have h:xs.isEmpty=true:=h
  cases xs with
  | nil =>
   rintro pos pins s σ H Q I ⟨m,ρ,st,rf,rh,w⟩
   skip
   exact bH pos pins s σ H Q I (w m H [] (Ext.refl _ _ _) rh (Rs_nil.mpr rfl))
  | cons x xs=>cases h
 | .cons e es,X,c,C,xs,h=>by
  replace h:=ai h
  obtain⟨y,ys,rfl,h⟩:=h
  ·simp only[Bool.and_eq_true] at h
   obtain⟨⟨h1,h2⟩,h3⟩:=h
   rintro pos pins s σ H Q I ⟨m,ρ,st,rf,rh,w⟩
   skip
   exact pac (aD e C _ h2) (fK es C _ h3) h1 pos pins s σ H Q I ⟨m,ρ,st,rf,rh,aa C.mono e (fun v st1 k m1 H1 x1 e1 r1 r2=>⟨m1,ρ,st1,rf.mono e1,r1,
    ar C.mono es (fun us st2 k2 m2 H2 ys e2 r3 r4=>k2 m2 H2 _ (e1.trans e2) r3 (Rs_cons'.mpr ⟨r2.mono e2,r4⟩)) k⟩) w⟩
theorem zQ:∀(o:O) {X:Cx}{c:Cfg} (C:COk X c Γ) (x:Option Expr),w5 c o x=true→PO X x (fun σ H Q=>∃m ρ st,RF X.K m H ρ σ∧RH X.K m H st∧wpO Γ o ρ st fun v st'=>∀m' H',Ext X.K m H m' H'→RH X.K m' H' st'→Q v H')
 | .no,X,c,C,x,h=>by
  have h:x.isNone=true:=h
  cases x with
  | none =>
   rintro pins s σ H Q I ⟨m,ρ,st,rf,rh,w⟩
   skip
   exact u8 pins s σ H Q I (w m H (Ext.refl _ _ _) rh)
  | some y=>cases h
 | .yes e,X,c,C,x,h=>by
  replace h:=dS h
  obtain⟨y,rfl,h⟩:=h
  ·rintro pins s σ H Q I ⟨m,ρ,st,rf,rh,w⟩
   skip
   refine uA (aD e C _ h) pins s σ H Q I ⟨m,ρ,st,rf,rh,aa C.mono e (fun v st1 k m1 H1 x1 e1 r1 r2=>?_) w⟩
   obtain⟨i,rfl,k⟩:=k
   rw[R_int] at r2
   exact⟨i,r2,k m1 H1 e1 r1⟩
theorem jB:∀(e:E) {X:Cx}{c:Cfg} (C:COk X c Γ) (x:Expr),oO c e x=true→PT X x (TTx X.K (wpT Γ e))
 | .not a,X,c,C,x,h=>by
  replace h:=lc h
  obtain⟨y,p,rfl,h⟩:=h
  ·rintro pins s σ H Q I ⟨m,ρ,st,rf,rh,w⟩
   skip
   exact xI (jB a C _ h) pins s σ H Q I ⟨m,ρ,st,rf,rh,aC C.mono a (fun k st1 z m1 H1 e1 r1=>z m1 H1 e1 r1) w⟩
 | .bop true es,X,c,C,x,h=>by
  replace h:=fg h
  obtain⟨o,xs,p,rfl,h⟩:=h
  ·simp only[Bool.and_eq_true,beq_iff_eq,Bool.not_eq_true'] at h
   obtain⟨⟨h1,h2⟩,h3⟩:=h
   subst h1
   rintro pins s σ H Q I ⟨m,ρ,st,rf,rh,w⟩
   skip
   exact(vY es C _ _ h3 h2).pt pins s σ H Q I ⟨m,ρ,st,rf,rh,w⟩
 | .bop false es,X,c,C,x,h=>by
  replace h:=fg h
  obtain⟨o,xs,p,rfl,h⟩:=h
  ·simp only[Bool.and_eq_true,beq_iff_eq,Bool.not_eq_true'] at h
   obtain⟨⟨h1,h2⟩,h3⟩:=h
   subst h1
   rintro pins s σ H Q I ⟨m,ρ,st,rf,rh,w⟩
   skip
   exact(wg es C _ _ h3 h2).pt pins s σ H Q I ⟨m,ρ,st,rf,rh,w⟩
 | .cmp op a b,X,c,C,x,h=>by
  replace h:=fc h
  obtain⟨l,o,r,p,rfl,h⟩:=h
  ·simp only[Bool.and_eq_true,beq_iff_eq,Bool.not_eq_true',beq_eq_false_iff_ne] at h
   obtain⟨⟨⟨h1,n1⟩,h2⟩,h3⟩:=h
   subst h1
   rintro pins s σ H Q I ⟨m,ρ,st,rf,rh,w⟩
   skip
   refine oZ (so C.room.units _) (aD a C _ h2) (aD b C _ h3) n1 pins s σ H Q I ⟨m,ρ,st,rf,rh,aa C.mono a (fun v st1 k m1 H1 x1 e1 r1 r2=>⟨m1,ρ,st1,rf.mono e1,r1,
    aa C.mono b (fun u st2 k2 m2 H2 y2 e2 r3 r4=>⟨m2,st2,v,u,r3,r2.mono e2,r4,fh (fun _ _ q=>?_) k2⟩) k⟩) w⟩
   obtain⟨k,rfl,q⟩:=q
   intro m' H' y e3 r5 r6
   rw[R_bl] at r6
   exact⟨k,r6,q m' H' ((e1.trans e2).trans e3) r5⟩
 | .var i,X,c,C,x,h=>by
  replace h:=af h
  obtain⟨y,p,rfl,h⟩:=h
  ·rintro pins s σ H Q I ⟨m,ρ,st,rf,rh,w⟩
   skip
   refine dG (rm C h) (fun _=>rfl) pins s σ H Q I ⟨m,ρ,st,rf,rh,?_⟩
   obtain⟨v,e,w⟩:=gP w
   exact mx e fun m' H' y e1 r1 r2=>ni ⟨m',st,v,r1,r2,bf (fun _ _ q=>q.ext e1) w⟩
 | .call f es,X,c,C,x,h=>by
  replace h:=aG h
  obtain⟨g,xs,p,rfl,h⟩:=h
  replace h:=af h
  obtain⟨y,p2,rfl,h⟩:=h
  ·simp only[Bool.and_eq_true] at h
   obtain⟨⟨h1,h2⟩,h3⟩:=h
   rintro pins s σ H Q I ⟨m,ρ,st,rf,rh,w⟩
   skip
   exact dG (mQ C h1 h2 h3 (fK es C _ h3)) (fun _=>rfl) pins s σ H Q I ⟨m,ρ,st,rf,rh,ar C.mono es (fun vs st1 k=>C.mono _ _ _ _ _ (fun v st2 k2 m' H' y e1 r1 r2=>ni ⟨m',st2,v,r1,r2,bf (fun _ _ q=>q.ext e1) k2⟩) k) w⟩
 | .blt b es,X,c,C,x,h=>by
  replace h:=aG h
  obtain⟨g,xs,p,rfl,h⟩:=h
  replace h:=af h
  obtain⟨y,p2,rfl,h⟩:=h
  ·simp only[Bool.and_eq_true,beq_iff_eq,Bool.not_eq_true'] at h
   obtain⟨⟨⟨⟨h1,h2⟩,h3⟩,h4⟩,h5⟩:=h
   rintro pins s σ H Q I ⟨m,ρ,st,rf,rh,w⟩
   skip
   exact dG (nP C h1 h2 h3 h4 (fK es C _ h5)) (fun _=>rfl) pins s σ H Q I ⟨m,ρ,st,rf,rh,ar C.mono es (fun vs st1 k=>e8 (fun v st2 k2 m' H' y e1 r1 r2=>ni ⟨m',st2,v,r1,r2,bf (fun _ _ q=>q.ext e1) k2⟩) k) w⟩
 | .inst a t,X,c,C,x,h=>by
  replace h:=aG h
  obtain⟨g,xs,p,rfl,h⟩:=h
  replace h:=af h
  obtain⟨y,p2,rfl,h⟩:=h
  replace h:=fu h
  obtain⟨l,r,rfl,h⟩:=h
  replace h:=af h
  obtain⟨z,p3,rfl,h⟩:=h
  ·rw[D6] at h
   rintro pins s σ H Q I ⟨m,ρ,st,rf,rh,w⟩
   skip
   refine dG (pv C h.1 (aD a C _ h.2)) (fun _=>rfl) pins s σ H Q I ⟨m,ρ,st,rf,rh,?_⟩
   skip
   refine aa C.mono a (fun v st1 k=>?_) w
   obtain⟨n,e,k⟩:=k
   refine⟨n,e,fun m' H' y e1 r1 r2=>?_⟩
   rw[R_bl] at r2
   subst r2
   exact⟨_,rfl,k m' H' e1 r1⟩
 | .tmp a,X,c,C,x,h=>by
  have h:(og x && aq c a x)=true:=h
  rw[D6] at h
  rintro pins s σ H Q I ⟨m,ρ,st,rf,rh,w⟩
  skip
  have q:=aD a C x h.2
  refine dG q (n4 h.1 X.env) pins s σ H Q I ⟨m,ρ,st,rf,rh,aa C.mono a (fun v st1 k m1 H1 x1 e1 r1 r2=>?_) w⟩
  obtain⟨st2,q,e2,r3,r4⟩:=i_ rh e1 r1 r2 k
  exact ni ⟨m,st2,v,r3,r4,bf (fun _ _ q=>q.ext e2) q⟩
 | .ix a b,X,c,C,x,h=>by
  replace h:=dE h
  obtain⟨l,r,p,rfl,h⟩:=h
  ·simp only[Bool.and_eq_true] at h
   obtain⟨⟨h1,h2⟩,h3⟩:=h
   rintro pins s σ H Q I ⟨m,ρ,st,rf,rh,w⟩
   skip
   refine dG (tE (wj C.room.units) (aD a C _ h2) (aD b C _ h3) h1) (fun _=>rfl) pins s σ H Q I ⟨m,ρ,st,rf,rh,aa C.mono a (fun v st1 k m1 H1 x1 e1 r1 r2=>⟨m1,ρ,st1,rf.mono e1,r1,
    aa C.mono b (fun u st2 k2 m2 H2 y2 e2 r3 r4=>⟨m2,st2,v,u,r3,r2.mono e2,r4,gM (fun z st3 q m3 H3 y3 e3 r5 r6=>?_) k2⟩) k⟩) w⟩
   exact ni ⟨m3,st3,z,r5,r6,bf (fun _ _ q=>q.ext ((e1.trans e2).trans e3)) q⟩
 | .bl _,X,c,C,x,h=>by rintro pins s σ H Q I ⟨m,ρ,st,rf,rh,w⟩;exact False.elim w
 | .int _,X,c,C,x,h=>by rintro pins s σ H Q I ⟨m,ρ,st,rf,rh,w⟩;exact False.elim w
 | .non,X,c,C,x,h=>by rintro pins s σ H Q I ⟨m,ρ,st,rf,rh,w⟩;exact False.elim w
 | .str _,X,c,C,x,h=>by rintro pins s σ H Q I ⟨m,ρ,st,rf,rh,w⟩;exact False.elim w
 | .gv _ _,X,c,C,x,h=>by rintro pins s σ H Q I ⟨m,ρ,st,rf,rh,w⟩;exact False.elim w
 | .tup _,X,c,C,x,h=>by rintro pins s σ H Q I ⟨m,ρ,st,rf,rh,w⟩;exact False.elim w
 | .lst _,X,c,C,x,h=>by rintro pins s σ H Q I ⟨m,ρ,st,rf,rh,w⟩;exact False.elim w
 | .dct0,X,c,C,x,h=>by rintro pins s σ H Q I ⟨m,ρ,st,rf,rh,w⟩;exact False.elim w
 | .bad,X,c,C,x,h=>by rintro pins s σ H Q I ⟨m,ρ,st,rf,rh,w⟩;exact False.elim w
 | .dct1 _ _,X,c,C,x,h=>by rintro pins s σ H Q I ⟨m,ρ,st,rf,rh,w⟩;exact False.elim w
 | .bin _ _ _,X,c,C,x,h=>by rintro pins s σ H Q I ⟨m,ρ,st,rf,rh,w⟩;exact False.elim w
 | .neg _,X,c,C,x,h=>by rintro pins s σ H Q I ⟨m,ρ,st,rf,rh,w⟩;exact False.elim w
 | .ite _ _ _,X,c,C,x,h=>by rintro pins s σ H Q I ⟨m,ρ,st,rf,rh,w⟩;exact False.elim w
 | .sl _ _ _,X,c,C,x,h=>by rintro pins s σ H Q I ⟨m,ρ,st,rf,rh,w⟩;exact False.elim w
 | .met _ _ _,X,c,C,x,h=>by rintro pins s σ H Q I ⟨m,ρ,st,rf,rh,w⟩;exact False.elim w
 | .eqd ne a b,X,c,C,x,h=>by
  replace h:=fc h
  obtain⟨l,o,r,p,rfl,h⟩:=h
  simp only[Bool.and_eq_true,beq_iff_eq,Bool.not_eq_true',beq_eq_false_iff_ne] at h
  obtain⟨⟨⟨h1,n1⟩,h2⟩,h3⟩:=h
  subst h1
  rintro pins s σ H Q I ⟨m,ρ,st,rf,rh,w⟩
  refine oZ (sB (by have:=C.room.un;omega) ne) (aD a C _ h2) (aD b C _ h3) n1 pins s σ H Q I ⟨m,ρ,st,rf,rh,aa C.mono a (fun v st1 k m1 H1 x1 e1 r1 r2=>⟨m1,ρ,st1,rf.mono e1,r1,
   aa C.mono b (fun u st2 k2 m2 H2 y2 e2 r3 r4=>⟨m2,st2,v,u,r3,r2.mono e2,r4,k2.imp (fun k2=>⟨k2.1,fun m' H' y e3 r5 r6=>?_⟩) fun k2=>⟨k2.1,fun m' H' y e3 r5 r6=>?_⟩⟩) k⟩) w⟩
  ·rw[R_bl] at r6
   exact⟨!ne,r6,k2.2 m' H' ((e1.trans e2).trans e3) r5⟩
  ·rw[R_bl] at r6
   exact⟨ne,r6,k2.2 m' H' ((e1.trans e2).trans e3) r5⟩
 | .compK _ _ _ _ _ _ _,X,c,C,x,h=>by rintro pins s σ H Q I ⟨m,ρ,st,rf,rh,w⟩;exact False.elim w
 | .compD _ _ _ _ _ _ _ _,X,c,C,x,h=>by rintro pins s σ H Q I ⟨m,ρ,st,rf,rh,w⟩;exact False.elim w
 | .dct2 _ _,X,c,C,x,h=>by rintro pins s σ H Q I ⟨m,ρ,st,rf,rh,w⟩;exact False.elim w
 | .dcl _,X,c,C,x,h=>by rintro pins s σ H Q I ⟨m,ρ,st,rf,rh,w⟩;exact False.elim w
 | .comp _ _ _ _ _ _,X,c,C,x,h=>by rintro pins s σ H Q I ⟨m,ρ,st,rf,rh,w⟩;exact False.elim w
 | .pcall _ _,X,c,C,x,h=>by rintro pins s σ H Q I ⟨m,ρ,st,rf,rh,w⟩;exact False.elim w
 | .hm _ _ _,X,c,C,x,h=>by rintro pins s σ H Q I ⟨m,ρ,st,rf,rh,w⟩;exact False.elim w
 | .jrev _,X,c,C,x,h=>by rintro pins s σ H Q I ⟨m,ρ,st,rf,rh,w⟩;exact False.elim w
 | .dget _ _,X,c,C,x,h=>by rintro pins s σ H Q I ⟨m,ρ,st,rf,rh,w⟩;exact False.elim w
 | .dcp _,X,c,C,x,h=>by rintro pins s σ H Q I ⟨m,ρ,st,rf,rh,w⟩;exact False.elim w
 | .clr _,X,c,C,x,h=>by rintro pins s σ H Q I ⟨m,ρ,st,rf,rh,w⟩;exact False.elim w
 | .sset _,X,c,C,x,h=>by rintro pins s σ H Q I ⟨m,ρ,st,rf,rh,w⟩;exact False.elim w
 | .smx _ _ _,X,c,C,x,h=>by rintro pins s σ H Q I ⟨m,ρ,st,rf,rh,w⟩;exact False.elim w
 | .part _ _,X,c,C,x,h=>by rintro pins s σ H Q I ⟨m,ρ,st,rf,rh,w⟩;exact False.elim w
theorem wx:∀(es:Es) {X:Cx}{c:Cfg} (C:COk X c Γ) (xs:List Expr) (pos:Pos),cD c es xs=true→xs.isEmpty=false→PE X (.BoolOp .And xs pos) (TEx X.K (lW Γ es))
 | .nil,X,c,C,xs,pos,h,hn=>by
  have h:xs.isEmpty=true:=h
  rw[h] at hn
  cases hn
 | .cons e .nil,X,c,C,xs,pos,h,hn=>by
  replace h:=ai h
  obtain⟨y,ys,rfl,h⟩:=h
  ·simp only[Bool.and_eq_true] at h
   obtain⟨⟨h1,h2⟩,h3⟩:=h
   have h3:ys.isEmpty=true:=h3
   cases ys with
   | nil =>
    rintro pins s σ H Q I ⟨m,ρ,st,rf,rh,w⟩
    skip
    exact t6 (aD e C _ h2) pins s σ H Q I ⟨m,ρ,st,rf,rh,w⟩
   | cons _ _=>cases h3
 | .cons e (.cons e2 es),X,c,C,xs,pos,h,hn=>by
  replace h:=ai h
  obtain⟨y,ys,rfl,h⟩:=h
  ·simp only[Bool.and_eq_true] at h
   obtain⟨⟨h1,h2⟩,h3⟩:=h
   cases ys with
   | nil=>exact Bool.noConfusion (show false=true from h3)
   | cons y2 ys =>
    rintro pins s σ H Q I ⟨m,ρ,st,rf,rh,w⟩
    skip
    refine yJ (aD e C _ h2) (wx (.cons e2 es) C (y2::ys) pos h3 rfl) pins s σ H Q I ⟨m,ρ,st,rf,rh,aa C.mono e (fun v st1 k m1 H1 x1 e1 r1 r2=>?_) w⟩
    obtain⟨b,rfl,k⟩:=k
    rw[R_bl] at r2
    subst r2
    refine⟨b,rfl,?_⟩
    cases b with
    | true=>rw[D9 rfl] at k ⊢;exact⟨m1,ρ,st1,rf.mono e1,r1,gY C.mono _ (fun _ _ q=>q.ext e1) k⟩
    | false=>rw[D_ D1] at k ⊢;exact(k.ext e1).here r1 (R_bl.mpr rfl)
theorem vZ:∀(es:Es) {X:Cx}{c:Cfg} (C:COk X c Γ) (xs:List Expr) (pos:Pos),cD c es xs=true→xs.isEmpty=false→PE X (.BoolOp .Or xs pos) (TEx X.K (lv Γ es))
 | .nil,X,c,C,xs,pos,h,hn=>by
  have h:xs.isEmpty=true:=h
  rw[h] at hn
  cases hn
 | .cons e .nil,X,c,C,xs,pos,h,hn=>by
  replace h:=ai h
  obtain⟨y,ys,rfl,h⟩:=h
  ·simp only[Bool.and_eq_true] at h
   obtain⟨⟨h1,h2⟩,h3⟩:=h
   have h3:ys.isEmpty=true:=h3
   cases ys with
   | nil =>
    rintro pins s σ H Q I ⟨m,ρ,st,rf,rh,w⟩
    skip
    exact t6 (aD e C _ h2) pins s σ H Q I ⟨m,ρ,st,rf,rh,w⟩
   | cons _ _=>cases h3
 | .cons e (.cons e2 es),X,c,C,xs,pos,h,hn=>by
  replace h:=ai h
  obtain⟨y,ys,rfl,h⟩:=h
  ·simp only[Bool.and_eq_true] at h
   obtain⟨⟨h1,h2⟩,h3⟩:=h
   cases ys with
   | nil=>exact Bool.noConfusion (show false=true from h3)
   | cons y2 ys =>
    rintro pins s σ H Q I ⟨m,ρ,st,rf,rh,w⟩
    skip
    refine Bl (aD e C _ h2) (vZ (.cons e2 es) C (y2::ys) pos h3 rfl) pins s σ H Q I ⟨m,ρ,st,rf,rh,aa C.mono e (fun v st1 k m1 H1 x1 e1 r1 r2=>?_) w⟩
    obtain⟨b,rfl,k⟩:=k
    rw[R_bl] at r2
    subst r2
    refine⟨b,rfl,?_⟩
    cases b with
    | true=>rw[D9 rfl] at k ⊢;exact(k.ext e1).here r1 (R_bl.mpr rfl)
    | false=>rw[D_ D1] at k ⊢;exact⟨m1,ρ,st1,rf.mono e1,r1,im C.mono _ (fun _ _ q=>q.ext e1) k⟩
theorem vY:∀(es:Es) {X:Cx}{c:Cfg} (C:COk X c Γ) (xs:List Expr) (pos:Pos),iq c es xs=true→xs.isEmpty=false→PW X (.BoolOp .And xs pos) (TTx X.K (eC Γ es))
 | .nil,X,c,C,xs,pos,h,hn=>by
  have h:xs.isEmpty=true:=h
  rw[h] at hn
  cases hn
 | .cons e .nil,X,c,C,xs,pos,h,hn=>by
  replace h:=ai h
  obtain⟨y,ys,rfl,h⟩:=h
  ·simp only[Bool.and_eq_true] at h
   obtain⟨h2,h3⟩:=h
   have h3:ys.isEmpty=true:=h3
   cases ys with
   | nil =>
    rintro whole pins s σ H Q I ⟨m,ρ,st,rf,rh,w⟩
    skip
    exact uN (jB e C _ h2) whole pins s σ H Q I ⟨m,ρ,st,rf,rh,w⟩
   | cons _ _=>cases h3
 | .cons e (.cons e2 es),X,c,C,xs,pos,h,hn=>by
  replace h:=ai h
  obtain⟨y,ys,rfl,h⟩:=h
  ·simp only[Bool.and_eq_true] at h
   obtain⟨h2,h3⟩:=h
   cases ys with
   | nil=>exact Bool.noConfusion (show false=true from h3)
   | cons y2 ys =>
    rintro whole pins s σ H Q I ⟨m,ρ,st,rf,rh,w⟩
    skip
    refine zi (jB e C _ h2) (vY (.cons e2 es) C (y2::ys) pos h3 rfl) whole pins s σ H Q I ⟨m,ρ,st,rf,rh,aC C.mono e (fun b st1 k m1 H1 e1 r1=>?_) w⟩
    cases b with
    | true=>rw[D9 rfl] at k ⊢;exact⟨m1,ρ,st1,rf.mono e1,r1,bu C.mono _ (fun _ _ q=>q.ext e1) k⟩
    | false=>rw[D_ D1] at k ⊢;exact k m1 H1 e1 r1
theorem wg:∀(es:Es) {X:Cx}{c:Cfg} (C:COk X c Γ) (xs:List Expr) (pos:Pos),iq c es xs=true→xs.isEmpty=false→PW X (.BoolOp .Or xs pos) (TTx X.K (lG Γ es))
 | .nil,X,c,C,xs,pos,h,hn=>by
  have h:xs.isEmpty=true:=h
  rw[h] at hn
  cases hn
 | .cons e .nil,X,c,C,xs,pos,h,hn=>by
  replace h:=ai h
  obtain⟨y,ys,rfl,h⟩:=h
  ·simp only[Bool.and_eq_true] at h
   obtain⟨h2,h3⟩:=h
   have h3:ys.isEmpty=true:=h3
   cases ys with
   | nil =>
    rintro whole pins s σ H Q I ⟨m,ρ,st,rf,rh,w⟩
    skip
    exact xK (jB e C _ h2) whole pins s σ H Q I ⟨m,ρ,st,rf,rh,w⟩
   | cons _ _=>cases h3
 | .cons e (.cons e2 es),X,c,C,xs,pos,h,hn=>by
  replace h:=ai h
  obtain⟨y,ys,rfl,h⟩:=h
  ·simp only[Bool.and_eq_true] at h
   obtain⟨h2,h3⟩:=h
   cases ys with
   | nil=>exact Bool.noConfusion (show false=true from h3)
   | cons y2 ys =>
    rintro whole pins s σ H Q I ⟨m,ρ,st,rf,rh,w⟩
    skip
    refine Bv (jB e C _ h2) (wg (.cons e2 es) C (y2::ys) pos h3 rfl) whole pins s σ H Q I ⟨m,ρ,st,rf,rh,aC C.mono e (fun b st1 k m1 H1 e1 r1=>?_) w⟩
    cases b with
    | true=>rw[D9 rfl] at k ⊢;exact k m1 H1 e1 r1
    | false=>rw[D_ D1] at k ⊢;exact⟨m1,ρ,st1,rf.mono e1,r1,g9 C.mono _ (fun _ _ q=>q.ext e1) k⟩
theorem jq:∀(t:Tg) {X:Cx}{c:Cfg} (C:COk X c Γ) (x:Expr),fJ c t x=true→PG X x (TGx X.K (bN Γ t))
 | .name i,X,c,C,x,h=>by
  replace h:=af h
  obtain⟨y,p,rfl,h⟩:=h
  ·simp only[Bool.and_eq_true,beq_iff_eq] at h
   obtain⟨h1,h2⟩:=C.locx h.2
   rintro pins s σ H v u Q I r ⟨m,ρ,st,p,rf,rh,hr,w⟩
   skip
   exact uq C.ndX (by rw[C.N];exact h.1) h1 h2 pins s σ H v u Q I r (w.here rh (rf.set i hr))
 | .tup ts,X,c,C,x,h=>by
  replace h:=aI h
  obtain⟨xs,k,p,rfl,h⟩:=h
  ·rintro pins s σ H v u Q I r ⟨m,ρ,st,p,rf,rh,hr,w⟩
   skip
   obtain⟨vs,rfl,hl,w⟩:=w
   rw[R_tup] at hr
   obtain⟨a,ys,rfl,g,r2⟩:=hr
   obtain⟨l1,l2⟩:=fR (env:=X.env) h
   refine zl C.calm (n_ ts C _ h) l1 l2 pins s σ H _ u Q I r ⟨a,ys,rfl,g,?_,m,ρ,st,vs,rf,rh,r2,w⟩
   rw[←r2.len]
   exact hl
 | .ltup ts,X,c,C,x,h=>by
  replace h:=aI h
  obtain⟨xs,k,p,rfl,h⟩:=h
  ·rintro pins s σ H v u Q I r ⟨m,ρ,st,p,rf,rh,hr,w⟩
   skip
   obtain⟨vs,hvs,hl,w⟩:=w
   obtain⟨a,ys,rfl,g,r2⟩:=bv rh hr hvs
   obtain⟨l1,l2⟩:=fR (env:=X.env) h
   refine uO C.calm (n_ ts C _ h) l1 l2 pins s σ H _ u Q I r ⟨a,ys,rfl,g,?_,m,ρ,st,vs,rf,rh,r2,w⟩
   rw[←r2.len]
   exact hl
 | .sub o i,X,c,C,x,h=>by
  replace h:=dE h
  obtain⟨l,rr,pos,rfl,h⟩:=h
  ·simp only[Bool.and_eq_true] at h
   obtain⟨⟨h1,h2⟩,h3⟩:=h
   rintro pins s σ H v u Q I r ⟨m,ρ,st,p,rf,rh,hr,w⟩
   skip
   refine yy (aD o C _ h2) (aD i C _ h3) (yA C.room.units) (by cases rr <;> first|(intro _;rfl)|cases h1) pins s σ H v u Q I r ⟨m,ρ,st,rf,rh,aa C.mono o (fun a st1 k m1 H1 x1 e1 r1 r2=>⟨m1,ρ,st1,rf.mono e1,r1,
    aa C.mono i (fun b st2 k2 m2 H2 y2 e2 r3 r4=>⟨m2,st2,a,b,p,r3,r2.mono e2,r4,(hr.mono e1).mono e2,kJ (fun st3 q H3 e3 r5=>?_) k2⟩) k⟩) w⟩
   exact q m2 H3 σ ((e1.trans e2).trans e3) r5 (((rf.mono e1).mono e2).mono e3)
theorem n_:∀(ts:Tgs) {X:Cx}{c:Cfg} (C:COk X c Γ) (xs:List Expr),jm c ts xs=true→PGs X xs (DE X.K (dO Γ ts))
 | .nil,X,c,C,xs,h=>by
  have h:xs.isEmpty=true:=h
  cases xs with
  | nil =>
   rintro pins s σ H v u Q I r ⟨m,ρ,st,p,rf,rh,hr,w⟩
   skip
   obtain⟨rfl,w⟩:=w
   rw[Rs_nil] at hr
   exact uX pins s σ H v u Q I r ⟨hr,w.here rh rf⟩
  | cons _ _=>cases h
 | .cons t ts,X,c,C,xs,h=>by
  replace h:=ai h
  obtain⟨y,ys,rfl,h⟩:=h
  ·simp only[Bool.and_eq_true] at h
   obtain⟨⟨h1,h2⟩,h3⟩:=h
   rintro pins s σ H v u Q I r ⟨m,ρ,st,p,rf,rh,hr,w⟩
   skip
   obtain⟨x,q,rfl,w⟩:=w
   rw[Rs_cons] at hr
   obtain⟨y,ys,rfl,g1,g2⟩:=hr
   refine rV (jq t C _ h2) (n_ ts C _ h3) (by rw[fO h1];rfl) pins s σ H _ u Q I r ⟨y,ys,rfl,m,ρ,st,x,rf,rh,g1,aK C.mono t (fun ρ1 st1 k m1 H1 σ1 e1 r1 r2=>?_) w⟩
   exact⟨m1,ρ1,st1,q,r2,r1,g2.mono e1,de C.mono ts (fun _ _ q=>q.ext e1) k⟩
theorem rq:∀(it:It) {X:Cx}{c:Cfg} (C:COk X c Γ) {tg:Expr} (x:Expr),rG it tg=true→rE c it x=true→PI X tg x (TIx X.K (fY Γ it))
 | .seq e,X,c,C,tg,x,_,h=>by
  have h:(dL x && aq c e x)=true:=h
  rw[D6] at h
  rintro pins s σ H Rr I ⟨m,ρ,st,rf,rh,w⟩
  skip
  refine xn (aD e C x h.2) pins s σ H Rr I ⟨m,ρ,st,rf,rh,aa C.mono e (fun v st1 k m1 H1 x1 e1 r1 r2=>?_) w⟩
  obtain⟨xs,es,k⟩:=k
  cases v with
  | tup ys =>
   cases es
   rw[R_tup] at r2
   obtain⟨a,zs,rfl,g,r3⟩:=r2
   exact⟨a,rfl,.inr ⟨⟨zs,g⟩,k m1 H1 _ e1 r1 (tu g r3)⟩⟩
  | rdl ys =>
   cases es
   rw[dz] at r2
   obtain⟨a,zs,rfl,g,r3⟩:=r2
   exact⟨a,rfl,.inl ⟨⟨zs,g.sq⟩,k m1 H1 _ e1 r1 (rQ g r3)⟩⟩
  | ref n =>
   unfold bt aU at es
   simp only at es
   split at es
   ·cases es
    rename_i q
    obtain⟨a,zs,rfl,ea,g,r3⟩:=r1.lst q r2
    exact⟨a,rfl,.inl ⟨⟨zs,SqL.of g⟩,k m1 H1 _ e1 r1 (ql r1 q ea)⟩⟩
   ·cases es
  | _=>cases es
 | .range1 a,X,c,C,tg,x,_,h=>by
  replace h:=aG h
  obtain⟨g,xs,p,rfl,h⟩:=h
  replace h:=af h
  obtain⟨y,p2,rfl,h⟩:=h
  replace h:=bU h
  obtain⟨l,rfl,h⟩:=h
  ·simp only[Bool.and_eq_true,beq_iff_eq] at h
   obtain⟨⟨⟨h1,h2⟩,h3⟩,h4⟩:=h
   subst h1
   obtain⟨g1,g2,g3,g4⟩:=C.bltx h2
   rintro pins s σ H Rr I ⟨m,ρ,st,rf,rh,w⟩
   skip
   have hA:PA X [_] (b7 (TEx X.K (wpE Γ a)) iY):=pac (aD a C _ h4) bH h3
   refine qW g1 g4 hA (aw h3) pins s σ H Rr I ⟨m,ρ,st,rf,rh,aa C.mono a (fun v st1 k m1 H1 x1 e1 r1 r2=>?_) w⟩
   obtain⟨j,rfl,k1,k2,k⟩:=k
   rw[R_int] at r2
   subst r2
   exact⟨j,rfl,k1,k2,k m1 H1 _ e1 r1 jG⟩
 | .range2 a b,X,c,C,tg,x,_,h=>by
  replace h:=aG h
  obtain⟨g,xs,p,rfl,h⟩:=h
  replace h:=af h
  obtain⟨y,p2,rfl,h⟩:=h
  replace h:=fu h
  obtain⟨l,r,rfl,h⟩:=h
  ·simp only[Bool.and_eq_true,beq_iff_eq] at h
   obtain⟨⟨⟨⟨⟨h1,h2⟩,h3⟩,h3'⟩,h4⟩,h5⟩:=h
   subst h1
   obtain⟨g1,g2,g3,g4⟩:=C.bltx h2
   rintro pins s σ H Rr I ⟨m,ρ,st,rf,rh,w⟩
   skip
   have hA:PA X [_,_] (b7 (TEx X.K (wpE Γ a)) (b7 (TEx X.K (wpE Γ b)) iY)):=pac (aD a C _ h4) (pac (aD b C _ h5) bH h3') h3
   refine qj g1 g4 hA (by rw[aw h3,aw h3'];rfl) (aw h3') pins s σ H Rr I ⟨m,ρ,st,rf,rh,aa C.mono a (fun v st1 k m1 H1 x1 e1 r1 r2=>⟨m1,ρ,st1,rf.mono e1,r1,
    aa C.mono b (fun u st2 k2 m2 H2 y2 e2 r3 r4=>?_) k⟩) w⟩
   obtain⟨i,j,rfl,rfl,k1,k⟩:=k2
   rw[R_int] at r2 r4
   subst r2 r4
   exact⟨i,j,rfl,k1,k m2 H2 _ (e1.trans e2) r3 jG⟩
 | .zip _ _,X,c,C,tg,x,ht,h=>by rintro pins s σ H Rr I ⟨m,ρ,st,rf,rh,w⟩;exact False.elim w
 | .zip3 _ _ _,X,c,C,tg,x,ht,h=>by rintro pins s σ H Rr I ⟨m,ρ,st,rf,rh,w⟩;exact False.elim w
 | .enum _,X,c,C,tg,x,ht,h=>by rintro pins s σ H Rr I ⟨m,ρ,st,rf,rh,w⟩;exact False.elim w
 | .chars e,X,c,C,tg,x,_,h=>by
  have h:(dL x && aq c e x)=true:=h
  rw[D6] at h
  rintro pins s σ H Rr I ⟨m,ρ,st,rf,rh,w⟩
  refine t0 (aD e C x h.2) pins s σ H Rr I ⟨m,ρ,st,rf,rh,aa C.mono e (fun v st1 k m1 H1 x1 e1 r1 r2=>?_) w⟩
  obtain⟨z,rfl,k⟩:=k
  rw[R_str] at r2
  exact⟨z,r2,k m1 H1 _ e1 r1 oC⟩
 | .range3 a b d,X,c,C,tg,x,_,h=>by
  replace h:=aG h
  obtain⟨g,xs,p,rfl,h⟩:=h
  replace h:=af h
  obtain⟨y,p2,rfl,h⟩:=h
  replace h:=vd h
  obtain⟨l,r,u,rfl,h⟩:=h
  ·simp only[Bool.and_eq_true,beq_iff_eq] at h
   obtain⟨⟨⟨⟨⟨⟨⟨h1,h2⟩,h3⟩,h3'⟩,h3''⟩,h4⟩,h5⟩,h6⟩:=h
   subst h1
   obtain⟨g1,g2,g3,g4⟩:=C.bltx h2
   rintro pins s σ H Rr I ⟨m,ρ,st,rf,rh,w⟩
   have hA:PA X [_,_,_] (b7 (TEx X.K (wpE Γ a)) (b7 (TEx X.K (wpE Γ b)) (b7 (TEx X.K (wpE Γ d)) iY))):=pac (aD a C _ h4) (pac (aD b C _ h5) (pac (aD d C _ h6) bH h3'') h3') h3
   refine qh g1 g4 hA (by rw[aw h3,aw h3',aw h3''];rfl) (by rw[aw h3',aw h3''];rfl) pins s σ H Rr I ⟨m,ρ,st,rf,rh,aa C.mono a (fun v st1 k m1 H1 x1 e1 r1 r2=>⟨m1,ρ,st1,rf.mono e1,r1,
    aa C.mono b (fun u st2 k2 m2 H2 y2 e2 r3 r4=>⟨m2,ρ,st2,(rf.mono e1).mono e2,r3,aa C.mono d (fun w st3 k3 m3 H3 y3 e3 r5 r6=>?_) k2⟩) k⟩) w⟩
   obtain⟨i,j,q,rfl,rfl,rfl,k1,k⟩:=k3
   rw[R_int] at r2 r4 r6
   subst r2 r4 r6
   exact⟨i,j,q,rfl,k1,k m3 H3 _ ((e1.trans e2).trans e3) r5 vy⟩
theorem oo:∀(es:Es) {X:Cx}{c:Cfg} (C:COk X c Γ) (xs:List Expr),iq c es xs=true→PTs X xs (TTx X.K (eC Γ es))
 | .nil,X,c,C,xs,h=>by
  have h:xs.isEmpty=true:=h
  cases xs with
  | nil =>
   rintro pins s σ H Q I ⟨m,ρ,st,rf,rh,w⟩
   skip
   exact o3 pins s σ H Q I (w m H (Ext.refl _ _ _) rh)
  | cons _ _=>cases h
 | .cons e .nil,X,c,C,xs,h=>by
  replace h:=ai h
  obtain⟨y,ys,rfl,h⟩:=h
  ·simp only[Bool.and_eq_true] at h
   obtain⟨h2,h3⟩:=h
   have h3:ys.isEmpty=true:=h3
   cases ys with
   | nil =>
    rintro pins s σ H Q I ⟨m,ρ,st,rf,rh,w⟩
    skip
    refine nO (jB e C _ h2) o3 pins s σ H Q I ⟨m,ρ,st,rf,rh,aC C.mono e (fun b st1 k m1 H1 e1 r1=>?_) w⟩
    cases b with
    | true=>rw[D9 rfl];exact k m1 H1 e1 r1
    | false=>rw[D_ D1];exact k m1 H1 e1 r1
   | cons _ _=>cases h3
 | .cons e (.cons e2 es),X,c,C,xs,h=>by
  replace h:=ai h
  obtain⟨y,ys,rfl,h⟩:=h
  ·simp only[Bool.and_eq_true] at h
   obtain⟨h2,h3⟩:=h
   rintro pins s σ H Q I ⟨m,ρ,st,rf,rh,w⟩
   skip
   refine nO (jB e C _ h2) (oo (.cons e2 es) C _ h3) pins s σ H Q I ⟨m,ρ,st,rf,rh,aC C.mono e (fun b st1 k m1 H1 e1 r1=>?_) w⟩
   cases b with
   | true=>rw[D9 rfl] at k ⊢;exact⟨m1,ρ,st1,rf.mono e1,r1,bu C.mono _ (fun _ _ q=>q.ext e1) k⟩
   | false=>rw[D_ D1] at k ⊢;exact k m1 H1 e1 r1
end
end
end FW
namespace FW
open L2 HX
section
variable {X:Cx}{c:Cfg}{Γ:Nat→FSp}{tg:Expr}
noncomputable def AE (K:W.Frag)(m:List Addr)(H:Hp)(D:L2.Ends):aA:={ nx:=postF K m H D.nx,rt:=post K m H D.rt,bk:=postF K m H D.bk,ct:=postF K m H D.ct }
noncomputable def TSx (K:W.Frag)(w:Fr→AH→aA→Prop):TS:=fun D σ H=>∃m ρ st,RF K m H ρ σ∧RH K m H st∧w ρ st (AE K m H D)
theorem AE.ext {K:W.Frag}{m m1:List Addr}{H H1:Hp}{D:L2.Ends}(x:Ext K m H m1 H1):eg (AE K m H D) (AE K m1 H1 D) :=
 ⟨fun _ _ q=>q.ext x,fun _ _ q=>q.ext x,fun _ _ q=>q.ext x,fun _ _ q=>q.ext x⟩
theorem uP (G:aO Γ){t:Tg}{it:It}{b:Ss}{D:L2.Ends}{σ:L2.St}{H:Hp}(h:TSx X.K (wpS Γ (.forS t it b)) D σ H):zC (TIx X.K (fY Γ it)) (TGx X.K (bN Γ t)) (TSx X.K (aN Γ b)) D σ H:=by
 obtain⟨m,ρ,st,rf,rh,w⟩:=h
 skip
 refine⟨m,ρ,st,rf,rh,dB G it (fun xs chk st1 k m1 H1 J e1 r1 W=>?_) w⟩
 refine⟨fun i n σ' H'=>n+i=xs.length∧∃m' ρ' st',Ext X.K m1 H1 m' H'∧RH X.K m' H' st'∧RF X.K m' H' ρ' σ'∧iL chk (fun x ρ' st' D'=>bN Γ t x ρ' st' fun ρ2 st2=>aN Γ b ρ2 st2 D') (AE X.K m H D) (xs.drop i) ρ' st',
  ⟨xs.length,rfl,m1,ρ,st1,Ext.refl _ _ _,r1,rf.mono e1,by simpa using k⟩,?_⟩
 rintro i n σ' H' ⟨hn,m',ρ',st',x',rh',rf',k'⟩
 cases q:xs.drop i with
 | nil =>
  rw[q] at k'
  have hi:i=xs.length:=by
   have:=ES List.length q
   simp at this
   omega
  subst hi
  exact .inl ⟨W.stop m' H' st' x' rh' k'.1,k'.2 m' H' σ' (e1.trans x') rh' rf'⟩
 | cons v rest =>
  rw[q] at k'
  have hi:i<xs.length:=by
   have:=ES List.length q
   simp at this
   omega
  have ev:xs[i]?=some v:=by
   have:=ES List.head? q
   rw[HR] at this
   exact this
  have er:rest=xs.drop (i+1):=by
   have:=ES List.tail q
   rw[HZ] at this
   exact this.symm
  subst er
  obtain⟨kc,k'⟩:=k'
  obtain⟨go,yl⟩:=W.item i v m' H' st' x' rh' kc ev
  refine .inr ⟨go,fun σ'' H''=>(n-1+(i+1)=xs.length∧∃m' ρ' st',Ext X.K m1 H1 m' H''∧RH X.K m' H'' st'∧RF X.K m' H'' ρ' σ''∧iL chk (fun x ρ' st' D'=>bN Γ t x ρ' st' fun ρ2 st2=>aN Γ b ρ2 st2 D') (AE X.K m H D) (xs.drop (i+1)) ρ' st'),fun σ'' H'' z=>⟨n-1,by omega,z⟩,fun y H2 hy=>?_⟩
  obtain⟨x2,r2,rv⟩:=yl y H2 hy
  refine⟨m',ρ',st',v,rf'.mono x2,r2,rv,aK G t (fun ρ3 st3 k3 m3 H3 σ3 x3 r3 f3=>?_) k'⟩
  refine⟨m3,ρ3,st3,f3,r3,aH G b ?_ k3⟩
  have xx:Ext X.K m H m3 H3:=((e1.trans x').trans x2).trans x3
  refine⟨fun ρ4 st4 k4 m4 H4 σ4 x4 r4 f4=>⟨by omega,m4,ρ4,st4,((x'.trans x2).trans x3).trans x4,r4,f4,k4⟩,fun v4 st4 k4=>k4.ext xx,fun ρ4 st4 k4=>k4.ext xx,fun ρ4 st4 k4 m4 H4 σ4 x4 r4 f4=>⟨by omega,m4,ρ4,st4,((x'.trans x2).trans x3).trans x4,r4,f4,k4⟩⟩
noncomputable def EF (X:Cx)(D:L2.Ends):L2.Ends:={ nx:=fun σ H=>∃a o ys,H a=some (.frz o (.dK ys))∧(∀u q,X.H₀ a≠some (.frz u q))∧D.nx σ (upd H a (.dK ys)),rt:=fun v H=>∃a o ys,H a=some (.frz o (.dK ys))∧(∀u q,X.H₀ a≠some (.frz u q))∧D.rt v (upd H a (.dK ys)),bk:=fun _ _=>False,ct:=fun _ _=>False }
theorem vE {pins:List (Addr × Obj)}{D:L2.Ends}{f:Flow}{s':Shared}(h:SP X pins (EF X D) f s'):SP X pins D f s':=by
 cases f with
 | next=>obtain⟨σ',H',I,a,o,ys,hF,hz,q⟩:=h;exact⟨σ',_,mO I hF hz,q⟩
 | ret u=>obtain⟨v,σ',H',I,r,a,o,ys,hF,hz,q⟩:=h;exact⟨v,σ',_,mO I hF hz,r,q⟩
 | brk=>obtain⟨σ',H',I,q⟩:=h;exact False.elim q
 | cont=>obtain⟨σ',H',I,q⟩:=h;exact False.elim q
theorem sY (G:aO Γ){t:Tg}{wk:DW}{e:E}{b:Ss}{D:L2.Ends}{σ:L2.St}{H:Hp}(h:TSx X.K (wpS Γ (.forK t wk e b)) D σ H):zC (wiF X Γ wk e) (TGx X.K (bN Γ t)) (TSx X.K (aN Γ b)) (EF X D) σ H:=by
 obtain⟨m,ρ,st,rf,rh,w⟩:=h
 refine⟨m,ρ,st,rf,rh,aa G e (fun v st1 z=>?_) w⟩
 obtain⟨n,rfl,kvs,h1,k⟩:=z
 refine⟨n,kvs,rfl,h1,fun m1 H1 a o ys e1 r1 ea g r3 r4 hz=>?_⟩
 have xs:Ext X.K m1 H1 m1 (upd H1 a (.frz o (.dK ys))):=Ext.set (ys:=[]) r1 ea (nfD g)
 have W:j4 X.K (ItF wk a o ys) (dm wk kvs) (fun _=>True) m1 (upd H1 a (.frz o (.dK ys))):=yZ av r3 (r4.mono xs)
 have rF:=r1.frz (o:=o) ea g r3 r4
 generalize hH2:upd H1 a (.frz o (.dK ys))=H2 at *
 have hF0:H2 a=some (.frz o (.dK ys)):=by rw[←hH2];exact av
 have toD:∀ {m':List Addr}{H':Hp},Ext X.K m1 H2 m' H'→Ext X.K m H m' (upd H' a (.dK ys)):=fun {m' H'} x=>e1.trans (Ext.thaw (o:=o) r1 ea g (by rw[hH2];exact x))
 have endN:∀ {ρ':Fr}{st':AH}{m':List Addr}{H':Hp}{σ':L2.St},Ext X.K m1 H2 m' H'→RH X.K m' H' st'→RF X.K m' H' ρ' σ'→(fzD n kvs (AE X.K m H D)).nx ρ' st'→(EF X D).nx σ' H':=fun {ρ' st' m' H' σ'} x r f q=>by
  have hF:H' a=some (.frz o (.dK ys)):=x.frz _ _ _ hF0
  exact⟨a,o,ys,hF,hz,q.2 m' _ σ' (toD x) (r.thaw (eW x.pre ea) hF q.1) ⟨f.len,fun i v e=>let ⟨y,e1,rr⟩:=f.at_ i v e;⟨y,e1,rr.mono0 (c5 hF) (cY hF)⟩⟩⟩
 have endR:∀ {v:PV}{x:V}{st':AH}{m':List Addr}{H':Hp},Ext X.K m1 H2 m' H'→RH X.K m' H' st'→R X.K m' H' v x→(fzD n kvs (AE X.K m H D)).rt v st'→(EF X D).rt x H':=fun {v x st' m' H'} e r f q=>by
  have hF:H' a=some (.frz o (.dK ys)):=e.frz _ _ _ hF0
  exact⟨a,o,ys,hF,hz,q.2 m' _ x (toD e) (r.thaw (eW e.pre ea) hF q.1) (f.mono0 (c5 hF) (cY hF))⟩
 refine⟨fun i n' σ' H'=>n'+i=(dm wk kvs).length∧∃m' ρ' st',Ext X.K m1 H2 m' H'∧RH X.K m' H' st'∧RF X.K m' H' ρ' σ'∧iL (fun _=>True) (fun x ρ' st' D'=>bN Γ t x ρ' st' fun ρ2 st2=>aN Γ b ρ2 st2 D') (fzD n kvs (AE X.K m H D)) ((dm wk kvs).drop i) ρ' st',
  ⟨(dm wk kvs).length,rfl,m1,ρ,st1.set n (.fz kvs),Ext.refl _ _ _,rF,(rf.mono e1).mono xs,by simpa using k⟩,?_⟩
 generalize dm wk kvs=xl at *
 rintro i n' σ' H' ⟨hn,m',ρ',st',x',rh',rf',k'⟩
 cases q:xl.drop i with
 | nil =>
  rw[q] at k'
  have hi:i=xl.length:=by
   have:=ES List.length q
   simp at this
   omega
  subst hi
  exact .inl ⟨W.stop m' H' st' x' rh' trivial,endN x' rh' rf' k'.2⟩
 | cons v rest =>
  rw[q] at k'
  have hi:i<xl.length:=by
   have:=ES List.length q
   simp at this
   omega
  have ev:xl[i]?=some v:=by
   have:=ES List.head? q
   rw[HR] at this
   exact this
  have er:rest=xl.drop (i+1):=by
   have:=ES List.tail q
   rw[HZ] at this
   exact this.symm
  subst er
  obtain⟨kc,k'⟩:=k'
  obtain⟨go,yl⟩:=W.item i v m' H' st' x' rh' trivial ev
  refine .inr ⟨go,fun σ'' H''=>(n'-1+(i+1)=xl.length∧∃m' ρ' st',Ext X.K m1 H2 m' H''∧RH X.K m' H'' st'∧RF X.K m' H'' ρ' σ''∧iL (fun _=>True) (fun x ρ' st' D'=>bN Γ t x ρ' st' fun ρ2 st2=>aN Γ b ρ2 st2 D') (fzD n kvs (AE X.K m H D)) (xl.drop (i+1)) ρ' st'),fun σ'' H'' z=>⟨n'-1,by omega,z⟩,fun y H3 hy=>?_⟩
  obtain⟨x2,r2,rv⟩:=yl y H3 hy
  refine⟨m',ρ',st',v,rf'.mono x2,r2,rv,aK G t (fun ρ3 st3 k3 m3 H4 σ3 x3 r3 f3=>?_) k'⟩
  refine⟨m3,ρ3,st3,f3,r3,aH G b ?_ k3⟩
  have xx:Ext X.K m1 H2 m3 H4:=(x'.trans x2).trans x3
  exact⟨fun ρ4 st4 k4 m4 H4 σ4 x4 r4 f4=>⟨by omega,m4,ρ4,st4,xx.trans x4,r4,f4,k4⟩,fun v4 st4 k4 m4 H4 y4 x4 r4 f4=>endR (xx.trans x4) r4 f4 k4,fun ρ4 st4 k4 m4 H4 σ4 x4 r4 f4=>endN (xx.trans x4) r4 f4 k4,fun ρ4 st4 k4 m4 H4 σ4 x4 r4 f4=>⟨by omega,m4,ρ4,st4,xx.trans x4,r4,f4,k4⟩⟩
theorem qS (G:aO Γ){cd:E}{b:Ss}{D:L2.Ends}{σ:L2.St}{H:Hp}(h:TSx X.K (wpS Γ (.whileS cd b)) D σ H):sx (TTx X.K (wpT Γ cd)) (TSx X.K (aN Γ b)) D σ H:=by
 obtain⟨m,ρ,st,rf,rh,w⟩:=h
 skip
 obtain⟨n0,w⟩:=w
 refine⟨fun n σ' H'=>∃m' ρ' st',Ext X.K m H m' H'∧RH X.K m' H' st'∧RF X.K m' H' ρ' σ'∧cZ (wpT Γ cd) (aN Γ b) (AE X.K m H D) n ρ' st',⟨n0,m,ρ,st,Ext.refl _ _ _,rh,rf,w⟩,?_⟩
 rintro n σ' H' ⟨m',ρ',st',x',rh',rf',k'⟩
 cases n with
 | zero=>exact k'.elim
 | succ n =>
  refine⟨m',ρ',st',rf',rh',aC G cd (fun b st1 k m1 H1 x1 r1=>?_) k'⟩
  cases b with
  | false=>rw[D_ D1] at k ⊢;exact k m1 H1 σ' (x'.trans x1) r1 (rf'.mono x1)
  | true =>
   rw[D9 rfl] at k ⊢
   refine⟨fun σ'' H''=>∃m' ρ' st',Ext X.K m H m' H''∧RH X.K m' H'' st'∧RF X.K m' H'' ρ' σ''∧cZ (wpT Γ cd) (aN Γ b) (AE X.K m H D) n ρ' st',fun σ'' H'' z=>⟨n,HG _,z⟩,m1,ρ',st1,rf'.mono x1,r1,aH G _ ?_ k⟩
   have xx:=x'.trans x1
   exact⟨fun ρ4 st4 k4 m4 H4 σ4 x4 r4 f4=>⟨m4,ρ4,st4,xx.trans x4,r4,f4,k4⟩,fun v4 st4 k4=>k4.ext xx,fun ρ4 st4 k4=>k4.ext xx,fun ρ4 st4 k4 m4 H4 σ4 x4 r4 f4=>⟨m4,ρ4,st4,xx.trans x4,r4,f4,k4⟩⟩
end
end FW
namespace FW
open L2 HX
noncomputable def jK:Expr→Bool
 | .Name ..=>true
 | _=>false
noncomputable def rg:Expr→Expr→Bool
 | .Tuple ts _ _,.Tuple vs _ _=>(ts.any fun t=>!jK t) || vs.all (foldedForSure 8)
 | .Tuple ..,_=>true
 | .Subscript ..,_=>true
 | _,_=>false
noncomputable def om (y:Str)(sc:Scope):Bool:=sc.names.any fun x=>match x with|(n,k)=>n == y && (k == .local || k == .cell)
noncomputable def oI (x:Stmt)(f:List Expr→Expr→Bool):Bool:=match x with | .Assign ts v _=>f ts v|_=>false
theorem jT {x:Stmt}{f:List Expr→Expr→Bool}(h:oI x f=true):∃ts v p,x=.Assign ts v p∧f ts v=true:=by
 cases x with|Assign ts v p=>exact⟨ts,v,p,rfl,h⟩|_=>exact Bool.noConfusion h
noncomputable def kD (x:Stmt)(f:Expr→Expr→Bool):Bool:=oI x fun ts v=>on1 ts fun t=>f t v
theorem dH {x:Stmt}{f:Expr→Expr→Bool}(h:kD x f=true):∃t v p,x=.Assign [t] v p∧f t v=true:=by
 replace h:=jT h
 obtain⟨ts,v,p,rfl,h⟩:=h
 replace h:=bU h
 obtain⟨t,rfl,h⟩:=h
 exact⟨t,v,p,rfl,h⟩
noncomputable def wc (x:Stmt)(f:Expr→Operator→Expr→Bool):Bool:=match x with | .AugAssign t o v _=>f t o v|_=>false
theorem p9 {x:Stmt}{f:Expr→Operator→Expr→Bool}(h:wc x f=true):∃t o v p,x=.AugAssign t o v p∧f t o v=true:=by
 cases x with|AugAssign t o v p=>exact⟨t,o,v,p,rfl,h⟩|_=>exact Bool.noConfusion h
noncomputable def AZ (x:Stmt)(f:Expr→Bool):Bool:=match x with | .Expr v _=>f v|_=>false
theorem tj {x:Stmt}{f:Expr→Bool}(h:AZ x f=true):∃v p,x=.Expr v p∧f v=true:=by
 cases x with|Expr v p=>exact⟨v,p,rfl,h⟩|_=>exact Bool.noConfusion h
noncomputable def sH (x:Stmt)(f:Option Expr→Bool):Bool:=match x with | .Return v _=>f v|_=>false
theorem k7 {x:Stmt}{f:Option Expr→Bool}(h:sH x f=true):∃v p,x=.Return v p∧f v=true:=by
 cases x with|Return v p=>exact⟨v,p,rfl,h⟩|_=>exact Bool.noConfusion h
noncomputable def xu (x:Stmt)(f:Expr→List Stmt→List Stmt→Bool):Bool:=match x with | .If v a b _=>f v a b|_=>false
theorem nM {x:Stmt}{f:Expr→List Stmt→List Stmt→Bool}(h:xu x f=true):∃v a b p,x=.If v a b p∧f v a b=true:=by
 cases x with|If v a b p=>exact⟨v,a,b,p,rfl,h⟩|_=>exact Bool.noConfusion h
noncomputable def o9 (x:Stmt)(f:Expr→List Stmt→Bool):Bool:=match x with | .While v a [] _=>f v a|_=>false
theorem nr {x:Stmt}{f:Expr→List Stmt→Bool}(h:o9 x f=true):∃v a p,x=.While v a [] p∧f v a=true:=by
 cases x with
 | While v a b p=>cases b with|nil=>exact⟨v,a,p,rfl,h⟩|cons _ _=>exact Bool.noConfusion h
 | _=>exact Bool.noConfusion h
noncomputable def sg (x:Stmt)(f:Expr→Expr→List Stmt→Bool):Bool:=match x with | .For t v a [] _=>f t v a|_=>false
theorem kZ {x:Stmt}{f:Expr→Expr→List Stmt→Bool}(h:sg x f=true):∃t v a p,x=.For t v a [] p∧f t v a=true:=by
 cases x with
 | For t v a b p=>cases b with|nil=>exact⟨t,v,a,p,rfl,h⟩|cons _ _=>exact Bool.noConfusion h
 | _=>exact Bool.noConfusion h
noncomputable def rC (x:Stmt):Bool:=match x with | .Pass _=>true|_=>false
theorem oE {x:Stmt}(h:rC x=true):∃p,x=.Pass p:=by
 cases x with|Pass p=>exact⟨p,rfl⟩|_=>exact Bool.noConfusion h
noncomputable def v6 (x:Stmt):Bool:=match x with | .Break _=>true|_=>false
theorem qe {x:Stmt}(h:v6 x=true):∃p,x=.Break p:=by
 cases x with|Break p=>exact⟨p,rfl⟩|_=>exact Bool.noConfusion h
noncomputable def sD (x:Stmt):Bool:=match x with | .Continue _=>true|_=>false
theorem nZ {x:Stmt}(h:sD x=true):∃p,x=.Continue p:=by
 cases x with|Continue p=>exact⟨p,rfl⟩|_=>exact Bool.noConfusion h
noncomputable def xS:Tg→Bool
 | .name _=>true
 | _=>false
noncomputable def Al:E→Bool
 | .comp ..=>true
 | _=>false
noncomputable def xq (c:Cfg)(t:Tg)(e:E)(tg x:Expr):Bool :=
 xS t && Al e && al tg fun y py=>rP x fun _ _ sc pos=>c.names.lookup y == some .cell || (c.names.lookup y == some .local && py.line == pos.line && !om y sc)
noncomputable def A7:E→Bool
 | .compD ..=>true
 | _=>false
noncomputable def t_ (c:Cfg)(t:Tg)(e:E)(tg x:Expr):Bool :=
 xS t && A7 e && al tg fun y py=>y_ x fun _ _ _ sc pos=>c.names.lookup y == some .local && py.line == pos.line && !om y sc
theorem vn {e:E}(h:A7 e=true):∃kx vx tg wk d ifs nt caps,e=.compD kx vx tg wk d ifs nt caps:=by
 cases e with|compD kx vx tg wk d ifs nt caps=>exact⟨kx,vx,tg,wk,d,ifs,nt,caps,rfl⟩|_=>exact Bool.noConfusion h
noncomputable def Ah (c:Cfg)(t:Expr):Bool:=al t fun y _=>c.names.lookup y == some .cell
noncomputable def setT (c:Cfg)(tg x:Expr):Bool:=bW tg fun ts=>(rP x fun _ _ _ _=>true) || bW x fun _=>ts.any (Ah c)
mutual
noncomputable def ux (c:Cfg):S→Stmt→Bool
 | .set t e,s=>kD s fun tg x=>(fJ c t tg && aq c e x) && ((ip x && (jK tg || rg tg x)) || (xq c t e tg x || (setT c tg x || t_ c t e tg x)))
 | .par i j a b,s=>kD s fun tg vx=>bW tg fun ts=>on2 ts fun ta tb=>al ta fun x px=>al tb fun y py=>bW vx fun us=>on2 us fun u v=>c.N[i]? == some x && c.N[j]? == some y && !(i == j) && !(x == y) && c.names.lookup x == some .local && c.names.lookup y == some .local
    && px.line == py.line && ag u && ag v && !(foldedForSure 8 u && foldedForSure 8 v) && !(constantsAlone 8 u && constantsAlone 8 v) && aq c a u && aq c b v
 | .aug i op e,s=>wc s fun t o x=>al t fun y _=>c.N[i]? == some y && c.loc y && o == op && aq c e x
 | .expr e,s=>AZ s fun x=>ip x && aq c e x
 | .ret e,s=>sH s fun o=>fU o fun x=>aq c e x
 | .retN,s=>sH s fun o=>o.isNone
 | .ifS t a b,s=>xu s fun x ys zs=>oO c t x && aZ c a ys && aZ c b zs
 | .whileS t b,s=>o9 s fun x ys=>oO c t x && aZ c b ys
 | .forS t it b,s=>sg s fun tg x ys=>rG it tg && dL x && fJ c t tg && rE c it x && aZ c b ys
 | .forK t wk e b,s=>sg s fun tg x ys=>vT wk tg && dL x && fJ c t tg && nA wk x (fun y=>aq c e y) && aZ c b ys
 | .pass,s=>rC s
 | .brk,s=>v6 s
 | .cont,s=>sD s
 | .bad,_=>true
 | .set2 i j e,s=>oI s fun ts v=>on2 ts fun ta tb=>al ta fun x _=>al tb fun y _=>c.N[i]? == some x && c.N[j]? == some y && !(i == j) && c.loc x && c.loc y && ip v && aq c e v
termination_by structural s=>s
noncomputable def aZ (c:Cfg):Ss→List Stmt→Bool
 | .nil,xs=>xs.isEmpty
 | .cons s ss,xs=>cr xs fun y ys=>ux c s y && aZ c ss ys
termination_by structural s=>s
end
theorem pq {t:Tg}(h:xS t=true):∃i,t=.name i:=by
 cases t with|name i=>exact⟨i,rfl⟩|_=>exact Bool.noConfusion h
theorem vj {e:E}(h:Al e=true):∃elt tg it ifs nt caps,e=.comp elt tg it ifs nt caps:=by
 cases e with|comp elt tg it ifs nt caps=>exact⟨elt,tg,it,ifs,nt,caps,rfl⟩|_=>exact Bool.noConfusion h
theorem br {x:Expr}{t:Option Expr}{l:Nat}{env:Env}(h:ip x=true):swapsWith x t l env=pure false:=by
 cases x <;> first|rfl|cases h
theorem eN {x t:Expr}{l:Nat}{env:Env}(h:ip x=true):swapsWithSole [t] x l env=pure false:=by
 unfold swapsWithSole
 exact br h
theorem iB:∀(ts:List Expr) (f:Expr→Option Str),(ts.any fun t=>!jK t)=true→(∀t,jK t=false→f t=none)→(ts.filterMap f).length<ts.length
 | [],f,h,_=>by cases h
 | t::ts,f,h,hf=>by
  rw[EY,GF] at h
  have hl:(ts.filterMap f).length≤ts.length:=F1 _ _
  rcases h with h|h
  ·rw[E7,hf t (by simpa using h)]
   simp only[List.length_cons]
   omega
  ·have:=iB ts f h hf
   rw[E7]
   cases f t <;> simp only[List.length_cons] <;> omega
theorem gn:∀(ts:List Expr) (P:Expr→Bool) (f:Expr→Option Str),ts.any P=true→(∀t,P t=true→f t=none)→(ts.filterMap f).length<ts.length
 | [],P,f,h,_=>by cases h
 | t::ts,P,f,h,hf=>by
  rw[EY,GF] at h
  have hl:(ts.filterMap f).length≤ts.length:=F1 _ _
  rcases h with h|h
  ·rw[E7,hf t h]
   simp only[List.length_cons]
   omega
  ·have:=gn ts P f h hf
   rw[E7]
   cases f t <;> simp only[List.length_cons] <;> omega
theorem su {ts vs:List Expr}{k k2:Nat}{p p2:Pos}{env:Env}{P:Expr→Bool}(hs:ts.any P=true)(hP:∀t,P t=true→∃y q,t=.Name y q∧(env.kindOf y == some .local)=false):swappedStores [.Tuple ts k p] (.Tuple vs k2 p2) env=pure none:=by
 unfold swappedStores
 dsimp only
 split
 ·rfl
 ·split
  ·rfl
  ·have hlt:=gn ts P (fun x=>match x with
    | .Name id pos=>if (env.kindOf id == some .local && pos.line == (Option.map (fun x=>x.pos.line) ts.head?).getD 0)=true then some id else none
    | _=>none) hs (fun t ht=>by
     obtain⟨y,q,rfl,hk⟩:=hP t ht
     show (if (env.kindOf y == some .local && _)=true then some y else none)=none
     rw[hk,Bool.false_and,D_ D1])
   rw[D9]
   rw[GF]
   left
   rw[bne_iff_ne]
   exact EM hlt
theorem gZ {tg x:Expr}{env:Env}(h:rg tg x=true):swappedStores [tg] x env=pure none:=by
 cases tg with
 | Tuple ts k p =>
  cases x with
  | Tuple vs k2 p2 =>
   have hs:((ts.any fun t=>!jK t) || vs.all (foldedForSure 8))=true:=h
   rw[GF] at hs
   unfold swappedStores
   dsimp only
   split
   ·rfl
   ·split
    ·rfl
    rcases hs with hs|hs
    rotate_left
    ·split
     ·rfl
     ·first|rfl|rw[D9 hs]
    ·have hlt:=iB ts (fun x=>match x with
      | .Name id pos=>if (env.kindOf id == some .local && pos.line == (Option.map (fun x=>x.pos.line) ts.head?).getD 0)=true then some id else none
      | _=>none) hs (fun t ht=>by cases t <;> first|rfl|cases ht)
     rw[D9]
     rw[GF]
     left
     rw[bne_iff_ne]
     exact EM hlt
  | _=>rfl
 | Subscript a b p=>cases x <;> rfl
 | _=>cases h
noncomputable def n9:Expr→Bool
 | .Starred ..=>true
 | _=>false
theorem kW {u:Expr}(h:ag u=true):n9 u=false:=by
 cases u <;> first|rfl|cases h
theorem oj {u v:Expr}(h1:ag u=true)(h2:ag v=true):([u,v].any fun | .Starred ..=>true|_=>false)=false:=by
 show (n9 u || (n9 v || false))=false
 rw[kW h1,kW h2]
 rfl
theorem tZ {env:Env}{x y:Str}{px py pt:Pos}{kt k2:Nat}{pt2:Pos}{u v:Expr}(hb:env.blockKind=.function)(hx:env.kindOf x=some .local)(hy:env.kindOf y=some .local)(hxy:x≠y)(hl:px.line=py.line)
  (h1:ag u=true) (h2:ag v=true) (h3:(foldedForSure 8 u && foldedForSure 8 v)=false) (h4:(constantsAlone 8 u && constantsAlone 8 v)=false) :
  swappedStores [.Tuple [.Name x px,.Name y py] kt pt] (.Tuple [u,v] k2 pt2) env=pure (some [x,y]):=by
 unfold swappedStores
 dsimp only
 have e0:(Option.map (fun x=>x.pos.line) [Expr.Name x px,Expr.Name y py].head?).getD 0=px.line:=rfl
 have e1:([u,v].any fun | .Starred ..=>true|_=>false)=false:=oj h1 h2
 have e2:[u,v].all (foldedForSure 8)=false:=by simpa using h3
 have e3:[u,v].all (constantsAlone 8)=false:=by simpa using h4
 have e4:[x,y].eraseDups.length=2:=by
  have:(y == x)=false:=by simpa using fun z=>hxy z.symm
  simp[List.eraseDups_cons,this]
 rw[D_ (by simp[hb]),D_ ?h1]
 case h1=>exact fun z=>D1 (e1.symm.trans z)
 have e5:(List.filterMap (fun t=>match t with
   | .Name id pos=>if (env.kindOf id == some .local && pos.line == (Option.map (fun x=>x.pos.line) [Expr.Name x px,Expr.Name y py].head?).getD 0)=true then some id else none
   | _=>none) [Expr.Name x px,Expr.Name y py])=[x,y]:=by
  rw[e0]
  simp[List.filterMap_cons,hx,hy,hl]
 generalize hn:List.filterMap _ [Expr.Name x px,Expr.Name y py]=ns
 have hns:ns=[x,y]:=hn.symm.trans e5
 subst hns
 rw[D_,D_,D_]
 ·rw[e3];decide
 ·rw[e2];decide
 ·rw[e4]
  simp
section
variable {X:Cx}{c:Cfg}{Γ:Nat→FSp}
theorem tJ {X:Cx}{c:Cfg}{Γ:Nat→FSp}(C:COk X c Γ){t:Tg}{e:E}{tg x:Expr}{pos:Pos}(h2:fJ c t tg=true)(h3:aq c e x=true)(h:xq c t e tg x=true):PS X (.Assign [tg] x pos) (TSx X.K (wpS Γ (.set t e))):=by
 have hE:=aD e C _ h3
 unfold xq at h
 rw[D6,D6] at h
 obtain⟨⟨ht,he⟩,h⟩:=h
 replace h:=af h
 obtain⟨y,py,rfl,h⟩:=h
 replace h:=gG h
 obtain⟨ex,gens,sc,cpos,rfl,h⟩:=h
 obtain⟨i,rfl⟩:=pq ht
 obtain⟨elt,tg,it,ifs,nt,caps,rfl⟩:=vj he
 ·have h2:(c.N[i]? == some y && c.loc y)=true:=h2
  simp only[Bool.and_eq_true,beq_iff_eq] at h2
  obtain⟨g1,g2⟩:=C.locx h2.2
  rintro pins s σ H D I ⟨m,ρ,st,rf,rh,w⟩
  simp only[Bool.or_eq_true,Bool.and_eq_true,beq_iff_eq,Bool.not_eq_true'] at h
  rcases h with h|⟨⟨hl,hp⟩,hn⟩
  ·have hk:=C.cel y (.inl h)
   have hs:swapsWith (.ListComp ex gens sc cpos) (some (.Name y py)) pos.line X.env=pure false:=by
    unfold swapsWith
    have:(X.env.kindOf y == some NameKind.local)=false:=by rcases hk with hk|hk <;> rw[hk] <;> rfl
    simp only[this,Bool.and_false,Bool.false_and]
   rw[re] at w
   refine gU C.ndX (by rw[C.N];exact h2.1) g1 hE hs g2 pins s σ H D I ⟨m,ρ,st,rf,rh,aa C.mono _ (fun v st1 k m1 H1 x1 e1 r1 r2=>?_) w⟩
   try simp only[gu,mf,i5,l9] at k
   exact k m1 H1 _ e1 r1 ((rf.mono e1).set i r2)
  ·have hll:=C.lcl _ hl
   have hs:swapsWith (.ListComp ex gens sc cpos) (some (.Name y py)) pos.line X.env=pure true:=by
    unfold swapsWith
    have q1:(X.env.kindOf y == some NameKind.local)=true:=by unfold Env.kindOf;rw[hll];rfl
    have q2:(X.env.blockKind == ScopeKind.function)=true:=by rw[C.bk];rfl
    have q3:(py.line == cpos.line)=true:=by rw[hp];simp
    unfold om at hn
    show pure (_ && _ && _ && !_)=_
    rw[q1,q2]
    show pure (true && true && (py.line == cpos.line) && !_)=_
    rw[q3,hn]
    rfl
   replace h3:=gG h3
   obtain⟨ex',gs',sc',pos',heq,h3⟩:=h3
   cases heq
   replace h3:=bU h3
   obtain⟨g,rfl,h3⟩:=h3
   obtain⟨tx,ix,fx,ia⟩:=g
   ·simp only[Bool.and_eq_true,beq_iff_eq] at h3
    obtain⟨⟨⟨⟨⟨⟨⟨⟨h1,h0⟩,k2'⟩,h3⟩,h4⟩,h5⟩,h6⟩,h7⟩,h8⟩:=h3
    subst h1
    obtain⟨S,k1,k2,k3,k4⟩:=jQ C h4
    have hC:∀s2 H2 fp A,COk (cxC X (nt++caps.filterMap (X.N[·]?)) s2 H2 fp sc A) (c.inner nt caps sc) Γ:=fun s2 H2 fp A=>sv C h4
    skip
    rw[exec_Assign_Name_used _ _ _ _ hs]
    refine D4 (wpAny_standAt ?_)
    refine D4 ?_
    unfold evalThenUse
    refine D4 ?_
    refine lj (elt:=elt) (tg:=tg) (ifs:=ifs) (nt:=nt) (caps:=caps) (use:=some (assign (.Name y py) X.env)) (Fin:=fun A H'=>D.nx (σ.set i (some (.ref A))) H') (wi:=TIx X.K (fY Γ it)) C.mono C.calm S rfl k1 k2 k3 k2' h3 (rq it C _ h0 h5) (fun s2 H2 fp A=>jq tg (hC s2 H2 fp A) _ h6) (fun s2 H2 fp A=>oo ifs (hC s2 H2 fp A) _ h7) (fun s2 H2 fp A=>aD elt (hC s2 H2 fp A) _ h8) I ?_ ?_
    ·refine⟨m,ρ,st,rf,rh,dB C.mono it (fun xs chk st1 z m1 H1 J e1 r1 W=>⟨m1,ρ,st1,xs,chk,rf.mono e1,r1,W,z.1,?_⟩) w⟩
     refine dU (body:=dv Γ elt tg ifs (nt.map (fun _=>none)++caps.map fun i=>(ρ[i]?).join)) (fun _ _ _ _ hk q=>jM C.mono hk q) (fun vs st2 k m2 H2 A ys e2 r2 Dm hD0 hD ry=>?_) z.2
     have hD1:H A=none:=by
      cases q:H A with
      | none=>rfl
      | some o =>
       by_cases hm:A∈m
       ·exact absurd ((e1.trans e2).pre.subset hm) Dm
       ·exact absurd hD0 (e1.ne hm q)
     try simp only[gu,mf,i5,l9] at k
     exact k _ _ _ ((e1.trans e2).addD hD1) (r2.addD Dm hD ry) ((rf.mono ((e1.trans e2).addD hD1)).set i (R.last r2.len))
    ·intro C' A H' s' m' I' ns fp F
     refine wpAny_assign_Name (kI I' C.ndX (by rw[C.N];exact h2.1) g1 (v:=.ref A) rfl (fun s2 I2 hh=>?_) g2)
     obtain⟨a,hs2,ha⟩:=hh
     have hne:C'≠a:=by
      rcases ha with rfl|ha
      ·exact fp.2.1
      ·exact fun q=>fp.2.2.2.2.1 _ _ ha q.symm
     refine⟨m',?_,fun h' hs'=>?_⟩
     ·obtain⟨o,es,ep,q1,q2⟩:=ns
      exact⟨o,es,ep,(hs2.2 C' hne).trans q1,q2⟩
     ·refine EG (EG ?_)
      exact⟨_,H',I2.turned (t':=s2.toks) (fun b o hb e=>hs'.extBut b o hb e) fp.1 fp.2.1 fp.2.2.2.1 fp.2.2.2.2.1 fp.2.2.2.2.2,F⟩
theorem sP {X:Cx}{c:Cfg}{Γ:Nat→FSp}(C:COk X c Γ){t:Tg}{e:E}{tg x:Expr}{pos:Pos}(h2:fJ c t tg=true)(h3:aq c e x=true)(h:t_ c t e tg x=true):PS X (.Assign [tg] x pos) (TSx X.K (wpS Γ (.set t e))):=by
 unfold t_ at h
 rw[D6,D6] at h
 obtain⟨⟨ht,he⟩,h⟩:=h
 replace h:=af h
 obtain⟨y,py,rfl,h⟩:=h
 replace h:=sG h
 obtain⟨ek,ev,gens,sc,cpos,rfl,h⟩:=h
 obtain⟨i,rfl⟩:=pq ht
 obtain⟨kx,vx,tg,wk,d,ifs,nt,caps,rfl⟩:=vn he
 have h2:(c.N[i]? == some y && c.loc y)=true:=h2
 simp only[Bool.and_eq_true,beq_iff_eq] at h2
 obtain⟨g1,g2⟩:=C.locx h2.2
 rintro pins s σ H D I ⟨m,ρ,st,rf,rh,w⟩
 rw[re] at w
 exact False.elim w
mutual
theorem w4 (C:COk X c Γ):∀(e:S) (x:Stmt),ux c e x=true→PS X x (TSx X.K (wpS Γ e))
 | .set t e,x,h=>by
  replace h:=dH h
  obtain⟨tg,x,pos,rfl,h⟩:=h
  ·simp only[Bool.and_eq_true,Bool.or_eq_true] at h
   obtain⟨⟨h2,h3⟩,h14⟩:=h
   rcases h14 with⟨h1,h4⟩|h14|h14|h14
   rotate_left
   ·exact tJ C h2 h3 h14
   rotate_left
   ·exact sP C h2 h3 h14
   rotate_right
   ·have hE:=aD e C _ h3
    have hG:=jq t C _ h2
    rintro pins s σ H D I ⟨m,ρ,st,rf,rh,w⟩
    skip
    have rd:uB (TEx X.K (wpE Γ e)) (TGx X.K (bN Γ t)) D σ H:=⟨m,ρ,st,rf,rh,aa C.mono e (fun v st1 k m1 H1 x1 e1 r1 r2=>⟨m1,ρ,st1,v,rf.mono e1,r1,r2,aK C.mono t (fun _ _ q=>q.ext e1) k⟩) w⟩
    obtain⟨ts,k,p,rfl,h14⟩:=aI h14
    rcases Bool.or_eq_true_iff.mp h14 with h14|h14
    ·obtain⟨a,b,d,f,rfl,_⟩:=gG h14
     exact jC hE hG rfl rfl rfl pins s σ H D I rd
    ·obtain⟨us,k2,p2,rfl,h14⟩:=aI h14
     refine jC hE hG rfl (su (P:=Ah c) h14 fun t ht=>?_) rfl pins s σ H D I rd
     obtain⟨y,q,rfl,hy⟩:=af (show al t _=true from ht)
     refine⟨y,q,rfl,?_⟩
     rcases C.cel y (.inl (by simpa using hy)) with hk|hk <;> rw[hk] <;> rfl
   ·have hE:=aD e C _ h3
    have hG:=jq t C _ h2
    rintro pins s σ H D I ⟨m,ρ,st,rf,rh,w⟩
    skip
    have rd:uB (TEx X.K (wpE Γ e)) (TGx X.K (bN Γ t)) D σ H:=⟨m,ρ,st,rf,rh,aa C.mono e (fun v st1 k m1 H1 x1 e1 r1 r2=>⟨m1,ρ,st1,v,rf.mono e1,r1,r2,aK C.mono t (fun _ _ q=>q.ext e1) k⟩) w⟩
    cases t with
    | name i =>
     obtain⟨y,p,rfl,h2⟩:=af h2
     have h2:=Bool.and_eq_true_iff.mp h2
     obtain⟨g1,g2⟩:=C.locx h2.2
     refine gU C.ndX (by rw[C.N];exact beq_iff_eq.mp h2.1) g1 hE (br h1) g2 pins s σ H D I ⟨m,ρ,st,rf,rh,aa C.mono e (fun v st1 k m1 H1 x1 e1 r1 r2=>?_) w⟩
     try simp only[gu,mf,i5,l9] at k
     exact k m1 H1 _ e1 r1 ((rf.mono e1).set i r2)
    | tup ts =>
     obtain⟨xs,k,p,rfl,_⟩:=aI h2
     exact jC hE hG (eN h1) (gZ (by rcases h4 with h4|h4;cases h4;exact h4)) rfl pins s σ H D I rd
    | ltup ts =>
     obtain⟨xs,k,p,rfl,_⟩:=aI h2
     exact jC hE hG (eN h1) (gZ (by rcases h4 with h4|h4;cases h4;exact h4)) rfl pins s σ H D I rd
    | sub o i =>
     obtain⟨l,r,p,rfl,_⟩:=dE h2
     exact jC hE hG (eN h1) (gZ (by rcases h4 with h4|h4;cases h4;exact h4)) rfl pins s σ H D I rd
 | .par i j a b,x,h=>by
  replace h:=dH h
  obtain⟨tg,vx,pos,rfl,h⟩:=h
  replace h:=aI h
  obtain⟨ts,k,p1,rfl,h⟩:=h
  replace h:=fu h
  obtain⟨ta,tb,rfl,h⟩:=h
  replace h:=af h
  obtain⟨x,px,rfl,h⟩:=h
  replace h:=af h
  obtain⟨y,py,rfl,h⟩:=h
  replace h:=aI h
  obtain⟨us,k2,p2,rfl,h⟩:=h
  replace h:=fu h
  obtain⟨u,v,rfl,h⟩:=h
  ·simp only[Bool.and_eq_true,beq_iff_eq,Bool.not_eq_true',beq_eq_false_iff_ne] at h
   obtain⟨⟨⟨⟨⟨⟨⟨⟨⟨⟨⟨⟨h1,h2⟩,h3⟩,h4⟩,h5⟩,h6⟩,h7⟩,h8⟩,h9⟩,h10⟩,h11⟩,h12⟩,h13⟩:=h
   have hx:=C.lcl _ h5
   have hy:=C.lcl _ h6
   rintro pins s σ H D I ⟨m,ρ,st,rf,rh,w⟩
   skip
   refine yx C.calm C.ndX (by rw[C.N];exact h1) (by rw[C.N];exact h2) h3 hx hy (pac (aD a C _ h12) (pac (aD b C _ h13) bH h9) h8)
    (tZ C.bk hx hy h4 h7 h8 h9 h10 h11) rfl pins s σ H D I ⟨m,ρ,st,rf,rh,aa C.mono a (fun v st1 k m1 H1 x1 e1 r1 r2=>⟨m1,ρ,st1,rf.mono e1,r1,
    aa C.mono b (fun u st2 k2 m2 H2 y2 e2 r3 r4=>⟨x1,y2,rfl,?_⟩) k⟩) w⟩
   exact k2 m2 H2 _ (e1.trans e2) r3 ((((rf.mono e1).mono e2).set i (r2.mono e2)).set j r4)
 | .aug i op e,x,h=>by
  replace h:=p9 h
  obtain⟨t,o,x,p,rfl,h⟩:=h
  replace h:=af h
  obtain⟨y,py,rfl,h⟩:=h
  ·simp only[Bool.and_eq_true,beq_iff_eq] at h
   obtain⟨⟨⟨h1,h2⟩,h3⟩,h4⟩:=h
   subst h3
   obtain⟨g1,g2⟩:=C.locx h2
   rintro pins s σ H D I ⟨m,ρ,st,rf,rh,w⟩
   skip
   obtain⟨v,ev,w⟩:=w
   obtain⟨y,ey,ry⟩:=rf.at_ i v ev
   refine xh C.ndX (by rw[C.N];exact h1) g1 (aD e C _ h4) (yw _) g2 pins s σ H D I ⟨y,ey,m,ρ,st,rf,rh,aa C.mono e (fun u st1 k m1 H1 x1 e1 r1 r2=>⟨m1,st1,v,u,r1,ry.mono e1,r2,kR (fun z st2 q m2 H2 z2 e2 r3 r4=>?_) k⟩) w⟩
   exact q m2 H2 _ (e1.trans e2) r3 (((rf.mono e1).mono e2).set i r4)
 | .expr e,x,h=>by
  replace h:=tj h
  obtain⟨x,p,rfl,h⟩:=h
  ·simp only[Bool.and_eq_true] at h
   rintro pins s σ H D I ⟨m,ρ,st,rf,rh,w⟩
   skip
   exact uR (aD e C _ h.2) (br h.1) pins s σ H D I ⟨m,ρ,st,rf,rh,aa C.mono e (fun u st1 k m1 H1 x1 e1 r1 r2=>k m1 H1 σ e1 r1 (rf.mono e1)) w⟩
 | .ret e,x,h=>by
  replace h:=k7 h
  obtain⟨o,p,rfl,h⟩:=h
  replace h:=dS h
  obtain⟨x,rfl,h⟩:=h
  ·rintro pins s σ H D I ⟨m,ρ,st,rf,rh,w⟩
   skip
   exact zD (aD e C _ h) pins s σ H D I ⟨m,ρ,st,rf,rh,w⟩
 | .retN,x,h=>by
  replace h:=k7 h
  obtain⟨o,p,rfl,h⟩:=h
  replace h:=qI h
  obtain rfl:=h
  ·rintro pins s σ H D I ⟨m,ρ,st,rf,rh,w⟩
   skip
   exact uV pins s σ H D I (post.here w rh (R_non.mpr rfl))
 | .ifS t a b,x,h=>by
  replace h:=nM h
  obtain⟨x,ys,zs,p,rfl,h⟩:=h
  ·simp only[Bool.and_eq_true] at h
   obtain⟨⟨h1,h2⟩,h3⟩:=h
   rintro pins s σ H D I ⟨m,ρ,st,rf,rh,w⟩
   skip
   refine Ai (jB t C _ h1) (iy C a _ h2) (iy C b _ h3) pins s σ H D I ⟨m,ρ,st,rf,rh,aC C.mono t (fun k st1 z m1 H1 e1 r1=>?_) w⟩
   cases k with
   | true=>rw[D9 rfl] at z ⊢;exact⟨m1,ρ,st1,rf.mono e1,r1,aH C.mono a (AE.ext e1) z⟩
   | false=>rw[D_ D1] at z ⊢;exact⟨m1,ρ,st1,rf.mono e1,r1,aH C.mono b (AE.ext e1) z⟩
 | .whileS t b,x,h=>by
  replace h:=nr h
  obtain⟨x,ys,p,rfl,h⟩:=h
  ·simp only[Bool.and_eq_true] at h
   intro pins s σ H D I w
   exact q9 C.pass (jB t C _ h.1) (iy C b _ h.2) pins s σ H D I (qS C.mono w)
 | .forS t it b,x,h=>by
  replace h:=kZ h
  obtain⟨tg,x,ys,p,rfl,h⟩:=h
  ·simp only[Bool.and_eq_true] at h
   obtain⟨⟨⟨⟨h0,h1⟩,h2⟩,h3⟩,h4⟩:=h
   intro pins s σ H D I w
   exact rK C.pass C.calm (rq it C _ h0 h3) (jq t C _ h2) (iy C b _ h4) (jF h1) pins s σ H D I (uP C.mono w)
 | .forK t wk e b,x,h=>by
  replace h:=kZ h
  obtain⟨tg,x,ys,p,rfl,h⟩:=h
  simp only[Bool.and_eq_true] at h
  obtain⟨⟨⟨⟨h0,h1⟩,h2⟩,h3⟩,h4⟩:=h
  intro pins s σ H D I w
  exact thn (rK C.pass C.calm (DC C h0 h3 fun y hy=>aD e C y hy) (jq t C _ h2) (iy C b _ h4) (jF h1) pins s σ H (EF X D) I (sY C.mono w)) fun f s' hh=>vE hh
 | .bad,x,h=>by
  rintro pins s σ H D I ⟨m,ρ,st,rf,rh,w⟩
  exact False.elim w
 | .set2 i j e,x,h=>by
  replace h:=jT h
  obtain⟨ts,v,pos,rfl,h⟩:=h
  replace h:=fu h
  obtain⟨ta,tb,rfl,h⟩:=h
  replace h:=af h
  obtain⟨x,px,rfl,h⟩:=h
  replace h:=af h
  obtain⟨y,py,rfl,h⟩:=h
  ·simp only[Bool.and_eq_true,beq_iff_eq,Bool.not_eq_true',beq_eq_false_iff_ne] at h
   obtain⟨⟨⟨⟨⟨⟨h1,h2⟩,h3⟩,h4⟩,h5⟩,h6⟩,h7⟩:=h
   obtain⟨a1,a2⟩:=C.locx h4
   obtain⟨b1,b2⟩:=C.locx h5
   rintro pins s σ H D I ⟨m,ρ,st,rf,rh,w⟩
   skip
   refine wpAny_Assign_two (thn (aD e C _ h7 pins s σ H (fun y H1=>D.nx ((σ.set i (some y)).set j (some y)) H1) I ⟨m,ρ,st,rf,rh,aa C.mono e (fun v st1 k m1 H1 x1 e1 r1 r2=>k m1 H1 _ e1 r1 (((rf.mono e1).set i r2).set j r2)) w⟩) fun v s1 ⟨y,H1,I1,r1,q1⟩=>?_) rfl rfl
   refine PySem.wpAny_assign_Name ?_
   refine cB I1 C.ndX (by rw[C.N];exact h1) a1 r1 (fun s2 I2=>?_) a2
   refine PySem.wpAny_assign_Name ?_
   exact cB I2 C.ndX (by rw[C.N];exact h2) b1 r1 (fun s3 I3=>⟨_,H1,I3,q1⟩) b2
 | .pass,x,h=>by
  replace h:=oE h
  obtain⟨p,rfl⟩:=h
  ·rintro pins s σ H D I ⟨m,ρ,st,rf,rh,w⟩
   skip
   exact u3 pins s σ H D I (postF.here w rh rf)
 | .brk,x,h=>by
  replace h:=qe h
  obtain⟨p,rfl⟩:=h
  ·rintro pins s σ H D I ⟨m,ρ,st,rf,rh,w⟩
   skip
   exact q5 pins s σ H D I (postF.here w rh rf)
 | .cont,x,h=>by
  replace h:=nZ h
  obtain⟨p,rfl⟩:=h
  ·rintro pins s σ H D I ⟨m,ρ,st,rf,rh,w⟩
   skip
   exact m5 pins s σ H D I (postF.here w rh rf)
theorem iy (C:COk X c Γ):∀(e:Ss) (x:List Stmt),aZ c e x=true→PSs X x (TSx X.K (aN Γ e))
 | .nil,x,h=>by
  have h:x.isEmpty=true:=h
  cases x with
  | nil =>
   rintro pins s σ H D I ⟨m,ρ,st,rf,rh,w⟩
   skip
   exact o7 pins s σ H D I (postF.here w rh rf)
  | cons _ _=>cases h
 | .cons e es,x,h=>by
  replace h:=ai h
  obtain⟨y,ys,rfl,h⟩:=h
  ·simp only[Bool.and_eq_true] at h
   rintro pins s σ H D I ⟨m,ρ,st,rf,rh,w⟩
   skip
   refine jo (w4 C e _ h.1) (iy C es _ h.2) pins s σ H D I ⟨m,ρ,st,rf,rh,eK C.mono e ?_ w⟩
   exact⟨fun ρ1 st1 k m1 H1 σ1 e1 r1 f1=>⟨m1,ρ1,st1,f1,r1,aH C.mono es (AE.ext e1) k⟩,fun _ _ q=>q,fun _ _ q=>q,fun _ _ q=>q⟩
end
structure GOk (P:Program)(w:World)(K:W.Frag)(mg:Str→Option Value)(base:Heap)(c:Cfg)(Γ:Nat→FSp):Prop where
 fn:∀f x,f<c.lim→c.fns[f]?=some x→∃ps,Has P w K mg base (f+1) x ps (b8 K (Γ f))
 blt:∀x∈c.blts,mg x=none
 gl:∀x v,c.gl.lookup x=some v→∃u y,mg x=some u∧RelV y u∧∀m H,R K m H v y
 mono:aO Γ
noncomputable def frame (n:Nat)(as:List PV):Fr:=as.map some++List.replicate (n-as.length) none
noncomputable def am (st:AH)(Q:EK):aA:={ nx:=fun _ st'=>Ret st Q .non st',rt:=Ret st Q }
theorem cC {K:W.Frag}{m:List Addr}{H:Hp}{st st':AH}{Q:VK}{v:PV}(rh:RH K m H st)(q:Ret st (post K m H Q) v st'):post K m H Q v st':=by
 rcases q with q|q
 ·exact q
 ·intro m' H' x e r s
  obtain⟨st1,q,e2,r3,r4⟩:=i_ rh e r s q
  exact q m H' x e2 r3 r4
theorem gF {K:W.Frag}{m:List Addr}{H:Hp}{N:List Str}{as:List PV}{vs:List V}(r:Rs K m H as vs):RF K m H (frame N.length as) (L2.start N vs):=by
 have hl:=r.len
 refine⟨by simp[frame,L2.start,hl],fun i v e=>?_⟩
 unfold frame at e
 unfold L2.start
 by_cases hi:i<as.length
 ·rw[EJ (by simpa using hi),EL] at e
  cases q:as[i]? with
  | none=>rw[q] at e;cases e
  | some a =>
   rw[q] at e
   cases e
   obtain⟨y,e1,r1⟩:=r.get q
   exact⟨y,by rw[EJ (by simp;omega),EL,e1];rfl,r1⟩
 ·rw[EA (by simpa using hi),List.getElem?_replicate] at e
  split at e <;> cases e
theorem mj {P:Program}{w:World}{K:W.Frag}{mg:Str→Option Value}{base:Heap}{x:Str}{st:Stmt}{N ps:List Str}(S:ao N ps (ac st)){f:Addr}{cdv:Value}{A:Around}{outer:List Env}{s:Shared}{H:Hp}{E:XK}
  (hN:c.N=N) (hn:c.names=(ac st).names) (hr:Room c.lim (A.deeper (envOfC x (ac st) s.heap.objs.size f cdv))) (G:GOk P w K mg base c Γ)
  (lam:c.pc=true→∀ {pins:List (Addr × Obj)}{σ:L2.St}{H2:Hp}{s2:Shared}{b:Addr}{u:Value}{v:V}{Q:VK},L2.Inv (fC CX0 P w K mg base N x (ac st) f cdv A outer s H E).nox pins σ H2 s2→RelV v u→b8 K (Γ 1000) [.ref b,v] H2 Q E0 →
   W.FnAt b s2.heap∧wpAny (model P w) (fC CX0 P w K mg base N x (ac st) f cdv A outer s H E).nox.A (call (.ref b) [u]) (EP (fC CX0 P w K mg base N x (ac st) f cdv A outer s H E).nox pins σ Q) (fC CX0 P w K mg base N x (ac st) f cdv A outer s H E).nox.xe s2)
  (hmo:∀k,c.hm=some k→HmX (fC CX0 P w K mg base N x (ac st) f cdv A outer s H E).nox k) :
  COk (fC CX0 P w K mg base N x (ac st) f cdv A outer s H E).nox c Γ where
 calm:=rfl
 pass:=PassesOwn.never
 N:=hN.symm
 nd:=by rw[hN];exact S.nd
 vis:=fun y h=>by rw[hn] at h;exact h
 loc:=fun y h=>by rw[hn] at h;exact⟨h,.inl rfl⟩
 lcl:=fun y h=>by rw[hn] at h;exact h
 glb:=fun y h=>by rw[hn] at h;exact h
 bk:=by
  show Env.blockKind (envOfC x (ac st) s.heap.objs.size f cdv)=_
  unfold Env.blockKind
  show (if (ac st).kind.isAnnotationScope=true then _ else (ac st).kind)=_
  rw[S.kind]
  rfl
 cel:=fun y h=>by rw[hn] at h;exact h
 room:=hr
 fn:=G.fn
 blt:=G.blt
 gl:=G.gl
 mono:=G.mono
 lam:=lam
 hmo:=hmo
theorem yF {P:Program}{w:World}{K:W.Frag}{mg:Str→Option Value}{base:Heap}{x:Str}{st:Stmt}{N ps:List Str}{sp:FSp}{code:Ss}(F:At K mg x st ps)(S:ao N ps (ac st))(hN:c.N=N)(hn:c.names=(ac st).names)
  (hc:aZ c code (ah st)=true) (G:GOk P w K mg base c Γ) (len:∀as st Q,sp as st Q→as.length=ps.length)
  (h:∀as st Q,sp as st Q→aN Γ code (frame N.length as) st (am st Q)) (hpc:c.pc=false:=by rfl) (hhm:c.hm=none:=by rfl):Has P w K mg base (c.lim+1) x ps (b8 K sp):=by
 refine F.ok S (fun vs H Q E ⟨m,st,as,r1,r2,q⟩=>by rw[←r1.len];exact len as st _ q) fun f cdv A outer s H vs Q E hr ⟨m,st',as,r1,r2,q⟩=>?_
 have C:=mj (E:=E) (H:=H) (outer:=outer) (Γ:=Γ) S hN hn hr G (fun z=>by rw[hpc] at z;cases z) fun k z=>by rw[hhm] at z;cases z
 refine⟨_,iy C code _ hc,m,frame N.length as,st',gF r1,r2,aH G.mono code ?_ (h as st' _ q)⟩
 exact⟨fun ρ st2 k m' H' σ' e r f=>cC r2 k m' H' .non e r (R_non.mpr rfl),fun v st2 k=>cC r2 k,fun _ _ k=>k.elim,fun _ _ k=>k.elim⟩
end
end FW
namespace FW
open L2 HX
section
variable {P:Program}{w:World}{K:W.Frag}{mg:Str→Option Value}{base:Heap}{c c':Cfg}{Γ:Nat→FSp}
theorem GOk.next (G:GOk P w K mg base c Γ)(h1:c'.fns=c.fns)(h2:c'.lim=c.lim+1)(h3:c'.blts=c.blts)(h4:c'.gl=c.gl){x:Str}{ps:List Str}(hx:c.fns[c.lim]?=some x)(H:Has P w K mg base (c.lim+1) x ps (b8 K (Γ c.lim))):GOk P w K mg base c' Γ where
 fn:=fun f y hf e=>by
  rw[h1] at e
  rw[h2] at hf
  by_cases hl:f<c.lim
  ·exact G.fn f y hl e
  ·have:f=c.lim:=by omega
   subst this
   rw[hx] at e
   cases e
   exact⟨ps,H⟩
 blt:=by rw[h3];exact G.blt
 gl:=by rw[h4];exact G.gl
 mono:=G.mono
theorem vV {x qual:Str}{st:Stmt}{f:Addr}{fd:FuncData}{N ps:List Str}{sp:FSp}{code:Ss}(F:Fun K x x st f fd)(S:ao N ps (ac st))(hN:c.N=N)(hn:c.names=(ac st).names)
  (hc:aZ c code (ah st)=true) (G:GOk P w K mg base c Γ) (len:∀as st Q,sp as st Q→as.length=ps.length)
  (h:∀as st Q,sp as st Q→aN Γ code (frame N.length as) st (am st Q)) (hpc:c.pc=false:=by rfl) (hhm:c.hm=none:=by rfl):i4 P w K mg base CX0 (c.lim+1) f fd ps (b8 K sp):=by
 refine F.ok S (fun vs H Q E ⟨m,st,as,r1,r2,q⟩=>by rw[←r1.len];exact len as st _ q) fun cdv A outer s H vs Q E hr ⟨m,st',as,r1,r2,q⟩=>?_
 have C:=mj (E:=E) (H:=H) (outer:=outer) (Γ:=Γ) S hN hn hr G (fun z=>by rw[hpc] at z;cases z) fun k z=>by rw[hhm] at z;cases z
 refine⟨_,iy C code _ hc,m,frame N.length as,st',gF r1,r2,aH G.mono code ?_ (h as st' _ q)⟩
 exact⟨fun ρ st2 k m' H' σ' e r f=>cC r2 k m' H' .non e r (R_non.mpr rfl),fun v st2 k=>cC r2 k,fun _ _ k=>k.elim,fun _ _ k=>k.elim⟩
end
def fN:FSp:=fun as st Q=>∃ns:List Int,as=[.rdl (ns.map PV.int)]∧ns.length≤63∧∀st',Q (.bl true) st'
theorem pk {K:W.Frag}{m:List Addr}{H:Hp}:∀ {ns:List Int},Rs K m H (ns.map PV.int) (ns.map V.int)
 | []=>by rw[E5,E5,Rs_nil]
 | n::ns=>by rw[EE,EE,Rs_cons',R_int];exact⟨rfl,pk⟩
structure zo (K:W.Frag)(h:Heap):Prop where
 at_:∀x∈aW,∀c T,W.tabIn K x=some (c,T)→W.CodeHd h c T∧h.get? T=some (W.tabObj #[])
structure uz (K:W.Frag):Prop where
 at_:∀x∈aW,∀c T,W.tabIn K x=some (c,T)→K.lookup T=none∧∀y∈aW,∀d,W.tabIn K y=some (d,T)→y=x
structure i7 (K:W.Frag)(mg:Str→Option Value)(base:Heap):Prop where
 hd:∀x∈aW,∀c T,W.tabIn K x=some (c,T)→W.CodeHd base c T
 bm:∃bm ob,mg "__builtins__"=some (.ref bm)∧bm≠builtinsNs∧base.get? bm=some ob∧ob.cls=.type "module"∧ob.dict=some builtinsNs∧ob.data=.plain
theorem tR {K:W.Frag}{H:Hp}{a:Addr}{ns:List Int}(hl:ns.length≤63)(hO:∀ys,H a≠some (.lst ys))(hS:SqL K H a (ns.map V.int))(tb:TB K H):b8 K fN [.ref a] H (fun v _=>v=.bl true) fun _ _ _=>False:=by
 have hF:RdF K H a (ns.map V.int):=by
  rcases hS with (h|h)|h
  ·exact absurd h (hO _)
  ·exact .inl h
  ·exact .inr h
 refine⟨[],[],[.rdl (ns.map PV.int)],?_,⟨rfl,GZ,fun n c a h=>by simp at h,tb⟩,ns,rfl,hl,fun st' m' H' x e r s=>R_bl.mp s⟩
 rw[Rs_cons',Rs_nil,dz]
 exact⟨⟨a,_,rfl,hF,pk⟩,rfl⟩
def k6 (K:W.Frag)(b:Addr):Prop:=∃x∈aW,∃c,W.tabIn K x=some (c,b)
open Classical in
noncomputable def di (K:W.Frag)(a:Addr)(scr:Option HO):Hp:=fun b=>if b=a then scr else if k6 K b then some (.tbl #[]) else none
theorem qT {P:Program}{w:World}{K:W.Frag}{mg mb:Str→Option Value}{k:Nat}{fa a:Addr}{fd:FuncData}{x:Str}{s₁:Shared}{vs:List Value}{ns:List Int}
  (KX:K.In s₁.heap) (hns:s₁.heap.Ns mainGlobals mg) (hb:s₁.heap.Ns builtinsNs mb) (hbb:∀x:Str,x≠"__name__"→mb x=bootBuiltins x) (hlim:s₁.heap.NoLimit) (hg:s₁.gens=#[])
  (LT:zo K s₁.heap) (LK:uz K) (hbm:∃bm ob,mg "__builtins__"=some (.ref bm)∧bm≠builtinsNs∧s₁.heap.get? bm=some ob∧ob.cls=.type "module"∧ob.dict=some builtinsNs∧ob.data=.plain)
  (ha:s₁.heap.get? a=some { cls:=.type "list",data:=.seq vs.toArray }) (hi:IntsAre vs ns) (hl:ns.length≤63) (hr:Room k callerA)
  (F:∀base:Heap,K.In base→base.Ns mainGlobals mg→i7 K mg base→i4 P w K mg base CX0 k fa fd [x] (b8 K fN)) (hbind:∀(s:Shared) (u:Value),BindsTo s fd ⟨[u],[]⟩ [(x,u)]) :
  codeAny (model P w) callerA (.call (.ref fa) ⟨[.ref a],[]⟩) (fun r s'=>r=.ok (.ret (.bool true))∧OldK s₁.heap s'.heap∧s'.os=s₁.os∧AllBare s'.gens) s₁:=by
 have rv:=kX hi
 have lenV:=hi.length
 have hl2:ns.length≤sizeLine:=EX hl (by decide)
 have tabAt:∀ {b:Addr},k6 K b→s₁.heap.get? b=some (W.tabObj #[]):=fun ⟨x,hx,c,e⟩=>(LT.at_ x hx c _ e).2
 have naT:¬k6 K a:=fun z=>by have e:=tabAt z;rw[ha] at e;cases e
 have core:∀scr:Option HO,(∀ys,scr≠some (.lst ys))→SqL K (di K a scr) a (ns.map V.int)→(∀u,scr=some u→(∃o xs,u=.frz o (.lst xs))∧ObjOk P w (di K a scr) s₁.heap a u)→(scr≠none→K.lookup a=none) →
   codeAny (model P w) callerA (.call (.ref fa) ⟨[.ref a],[]⟩) (fun r s'=>r=.ok (.ret (.bool true))∧OldK s₁.heap s'.heap∧s'.os=s₁.os∧AllBare s'.gens) s₁:=by
  intro scr hscr hS hso hK
  have atA:di K a scr a=scr:=D9 rfl
  have atT:∀ {b:Addr},k6 K b→di K a scr b=some (.tbl #[]):=fun {b} z=>by
   have:b≠a:=fun q=>naT (q ▸ z)
   exact(D_ this).trans (D9 z)
  have cs:∀b,di K a scr b≠none→(b=a∧scr≠none)∨k6 K b:=fun b z=>by
   by_cases h1:b=a
   ·exact .inl ⟨h1,by rw[h1,atA] at z;exact z⟩
   ·by_cases h2:k6 K b
    ·exact .inr h2
    ·exact absurd ((D_ h1).trans (D_ h2)) z
  have hok:HOk P w (di K a scr) s₁.heap:=fun b u e=>by
   rcases cs b (by rw[e];simp) with⟨rfl,z⟩|z
   ·rw[atA] at e
    exact(hso u e).2
   ·rw[atT z] at e
    cases e
    exact tabAt z
  have base_of:∀ {b:Addr}{o:Obj},s₁.heap.get? b=some o→di K a scr b=none→(jX s₁.heap (di K a scr)).get? b=some o:=fun e n=>sR e n
  have noD:∀ {b:Addr}{o:Obj},s₁.heap.get? b=some o→(∀its n,o.data≠.seq its n)→(∀qs,o.data≠.fields qs)→di K a scr b=none:=fun {b o} e n1 n2=>by
   cases q:di K a scr b with
   | none=>rfl
   | some u =>
    rcases cs b (by rw[q];simp) with⟨rfl,_⟩|z
    ·rw[ha] at e;cases e;exact absurd rfl (n1 _ _)
    ·rw[tabAt z] at e;cases e;exact absurd rfl (n2 _)
  have nsK:∀ {b:Addr}{m:Str→Option Value},s₁.heap.Ns b m→(jX s₁.heap (di K a scr)).Ns b m:=fun {b m} ⟨o,es,ep,e,d,r⟩=>⟨o,es,ep,base_of e (noD e (fun _ _ z=>by rw[d] at z;cases z) fun _ z=>by rw[d] at z;cases z),d,r⟩
  have hKn:∀ {b:Addr}{o:Obj},K.lookup b=some o→di K a scr b=none:=fun {b o} e=>by
   cases q:di K a scr b with
   | none=>rfl
   | some u =>
    rcases cs b (by rw[q];simp) with⟨rfl,z⟩|⟨x,hx,c,z⟩
    ·rw[hK z] at e;cases e
    ·rw[(LK.at_ x hx c _ z).1] at e;cases e
  have hKb:K.In (jX s₁.heap (di K a scr)):=fun b o e=>base_of (KX b o e) (hKn e)
  have hM:Mod K mg (jX s₁.heap (di K a scr)):=⟨hKb,nsK hns,⟨mb,nsK hb,hbb⟩,let ⟨mc,h1,h2⟩:=hlim;⟨mc,nsK h1,h2⟩⟩
  have e0:pZ P w K mg (jX s₁.heap (di K a scr)) callerA [] s₁ (di K a scr):=⟨rfl,hM,fun b o e=>uL e,IA (qR _ _),trivial,fun b hb=>absurd (show b∈([]:List Addr) from hb) (by simp),hok,.of_eq hg⟩
  have hB:i7 K mg (jX s₁.heap (di K a scr)):=by
   refine⟨fun x hx c T e=>?_,?_⟩
   ·obtain⟨o,vs',file,tf,flags,tg,inF,text,tt,q,r⟩:=(LT.at_ x hx c T e).1
    have kc:∃oc,K.lookup c=some oc:=by
     have e':=e
     unfold W.tabIn at e'
     split at e'
     ·split at e'
      ·split at e'
       ·split at e'
        ·rename_i hh
         split at e'
         ·cases e';exact⟨_,hh⟩
         ·cases e'
        ·cases e'
       ·cases e'
      ·cases e'
     ·cases e'
    obtain⟨oc,kc⟩:=kc
    exact⟨o,vs',file,tf,flags,tg,inF,text,tt,base_of q (hKn kc),r⟩
   ·obtain⟨bm,ob,b1,b2,b3,b4,b5,b6⟩:=hbm
    exact⟨bm,ob,b1,b2,base_of b3 (noD b3 (fun _ _ z=>by rw[b6] at z;cases z) fun _ z=>by rw[b6] at z;cases z),b4,b5,b6⟩
  have tb:TB K (di K a scr):=fun x hx c T e=>⟨(LK.at_ x hx c T e).2,#[],atT ⟨x,hx,c,e⟩,trivial,fun pos cv q=>by cases q⟩
  refine codeAny_mono ((F _ hKb (nsK hns) hB).run callerA [] s₁ (di K a scr) ⟨[.ref a],[]⟩ [.ref a] [.ref a] _ _ hr e0 (hbind s₁ (.ref a)) (.cons rfl .nil) (tR hl (by rw[atA];exact hscr) hS tb)) fun r s' h=>?_
  cases r with
  | error e=>exact False.elim h
  | ok fl =>
   cases fl with
   | next=>exact False.elim h
   | brk=>exact False.elim h
   | cont=>exact False.elim h
   | ret u =>
    obtain⟨v,H',os,bare,un,hok',r',q⟩:=h
    have q':v=.bl true:=q
    subst q'
    obtain rfl:u=Value.bool true:=r'
    refine⟨rfl,⟨fun b o e=>?_,fun b o e=>un.there b o e (by simp)⟩,os,bare⟩
    cases q:di K a scr b with
    | none=>exact .inl (un.keep b o e q (by intro z;exact absurd (show b∈([]:List Addr) from z) (by simp)) (by simp))
    | some u =>
     rcases cs b (by rw[q];simp) with⟨rfl,z⟩|z
     ·rw[atA] at q
      obtain⟨⟨ob,xs,rfl⟩,_⟩:=hso u q
      have z1:di K b scr b=some (.frz ob (.lst xs)):=by rw[atA];exact q
      have z2:=un.frzs b ob _ z1
      obtain⟨e1,_⟩:=hok b _ z1
      obtain⟨e2,_⟩:=hok' b _ z2
      rw[e] at e1;cases e1
      exact .inl e2
     ·obtain⟨more,z2⟩:=un.tbls b _ (atT z)
      have e1:=tabAt z
      rw[e] at e1
      cases e1
      have e2:s'.heap.get? b=some { cls:=.none,data:=.fields (#[]++more) }:=hok' b _ z2
      obtain⟨x,hx,c,et⟩:=z
      have ht0:=(LT.at_ x hx c b et)
      exact .inr (.inl ⟨(ht0.1.tab ht0.2).isCodeTable,rfl,#[],more,rfl,e2⟩)
 cases hk:K.lookup a with
 | some o =>
  have e:=KX a o hk
  rw[ha] at e
  cases e
  refine core none (fun _ z=>nomatch z) (.inr ⟨_,vs.toArray,_,hk,rfl,rfl,rfl,by rw[ED,lenV];exact hl2,by simpa using rv⟩) (fun u z=>nomatch z) fun z=>absurd rfl z
 | none =>
  refine core (some (.frz { cls:=.type "list",data:=.seq vs.toArray } (.lst (ns.map V.int)))) (fun _ z=>nomatch z) (.inl (.inr ⟨{ cls:=.type "list",data:=.seq vs.toArray },D9 rfl⟩)) (fun u z=>?_) fun _=>hk
  cases z
  exact⟨⟨_,_,rfl⟩,ha,by rw[EN];exact hl2,vs,_,rv,ha⟩
theorem walkF {l:W.OpenLaw}{q:Program}{loose:List Str}{XP:(Str→Option Value)→Heap→Prop}{YP:World→Heap→Prop}{d:DefRec}{K:Params→W.Frag}{k:Nat}{x:Str}(hn:l.most=some 63)(hdf:d.params.defaults=[])(hr:Room k callerA)
  (hY:∀(w:World) (h:Heap),YP w h→(K w.params).In h)
  (F:∀(w:World) (mg:Str→Option Value) (fa:Addr) (h:Heap),(K w.params).In h→h.Ns mainGlobals mg→mg d.name=some (.ref fa) →
   ∃fd:FuncData,(∀(s:Shared) (u:Value),BindsTo s fd ⟨[u],[]⟩ [(x,u)])∧uz (K w.params)∧(∀x∈aW,W.tabIn (K w.params) x=none∨∃d,(recsOf q).find? (fun e=>e.name == x)=some d)∧∀base:Heap,(K w.params).In base→base.Ns mainGlobals mg→i7 (K w.params) mg base→i4 l.prog w (K w.params) mg base CX0 k fa fd [x] (b8 (K w.params) fN)) :
  W.WalkO q loose XP YP l.row.toRowW d [] (fun f vs=>PySem.call f vs):=by
 refine Att.attach_call hn hdf fun w s₀ s₁ mg mb fa o pm cd doc a vs ns G Y ho hd hcd hmg hobj hints hlen hg=>?_
 have KX:=hY w _ Y
 obtain⟨fd,hb,hK,hq,hF⟩:=F w mg fa _ KX G.T.g hmg
 refine qT KX G.T.g G.T.b G.T.builtins G.T.nolimit hg ⟨fun x hx c T e=>?_⟩ hK G.T.bmain hobj hints hlen hr hF hb
 rcases hq x hx with z|⟨d,r⟩
 ·rw[z] at e;cases e
 ·exact W.tab_of G.T KX r e
theorem Sub.refl (st:AH):Sub st st:=fun i _=>.inl rfl
theorem Sub.set {st st':AH}{n:Nat}{c:Cell}(h:Sub st st')(hc:c.bel 0=true):Sub st (st'.set n c):=fun i hi=>by
 by_cases e:n=i
 ·subst e
  by_cases hl:n<st'.length
  ·exact .inr ⟨c,EV hl,hc⟩
  ·rw[List.set_eq_of_length_le (by omega)]
   exact h n hi
 ·rw[EQ e]
  exact h i hi
theorem Tmp.same {st:AH}{Q:EK}{v:PV}(h:v.bel st.length=true)(q:Q v st):Tmp st Q v st:=⟨st,[],by simp,rfl,Sub.refl st,h,q⟩
theorem Tmp.app {st g:AH}{Q:EK}{v:PV}(h:v.bel st.length=true)(q:Q v st):Tmp st Q v (st++g):=⟨st,g,rfl,rfl,Sub.refl st,h,q⟩
theorem Tmp.setA {st g:AH}{Q:EK}{v:PV}{n:Nat}{c:Cell}(h:v.bel st.length=true)(hc:c.bel 0=true)(q:Q v (st.set n c)):Tmp st Q v (st.set n c++g):=⟨st.set n c,g,rfl,by simp,(Sub.refl st).set hc,h,q⟩
theorem Ret.all {st st':AH}{Q:EK}{v:PV}(q:Q v st'):Ret st Q v st':=.inl q
theorem ar1 {P:List Value→Prop}(h:∀a,P [a])(us:List Value)(hl:us.length=1):P us:=by
 match us,hl with
 | [a],_=>exact h a
theorem ar2 {P:List Value→Prop}(h:∀a b,P [a,b])(us:List Value)(hl:us.length=2):P us:=by
 match us,hl with
 | [a,b],_=>exact h a b
theorem ar3 {P:List Value→Prop}(h:∀a b c,P [a,b,c])(us:List Value)(hl:us.length=3):P us:=by
 match us,hl with
 | [a,b,c],_=>exact h a b c
theorem ar4 {P:List Value→Prop}(h:∀a b c d,P [a,b,c,d])(us:List Value)(hl:us.length=4):P us:=by
 match us,hl with
 | [a,b,c,d],_=>exact h a b c d
theorem ar5 {P:List Value→Prop}(h:∀a b c d e,P [a,b,c,d,e])(us:List Value)(hl:us.length=5):P us:=by
 match us,hl with
 | [a,b,c,d,e],_=>exact h a b c d e
abbrev DI (K:W.Frag)(x:Str)(st:Stmt):Prop:=∃(f:Addr) (oc:Value) (od:Option Addr) (kV dc pm:Value) (an:Option Addr) (cd ct:Value) (sl:Array (Option Value)),W.nsIn K mainGlobals x=some (some (.ref f))∧K.lookup f=some ⟨oc,od,.func (W.fnOf x x (bz st) (ah st) (ac st) .none kV dc pm an cd ct),sl⟩∧W.codeIn K cd x=true∧W.keepIn K (.ref f)=true
theorem DI_mk {K:W.Frag}{x:Str}{st:Stmt}{f:Addr}{oc:Value}{od:Option Addr}{kV dc pm:Value}{an:Option Addr}{cd ct:Value}{sl:Array (Option Value)}(a:W.nsIn K mainGlobals x=some (some (.ref f)))(l:K.lookup f=some ⟨oc,od,.func (W.fnOf x x (bz st) (ah st) (ac st) .none kV dc pm an cd ct),sl⟩)(c:W.codeIn K cd x=true)(k:W.keepIn K (.ref f)=true):DI K x st:=⟨f,oc,od,kV,dc,pm,an,cd,ct,sl,a,l,c,k⟩
theorem GOk.nx {P:Program}{w:World}{K:W.Frag}{mg:Str→Option Value}{base h:Heap}{Γ:Nat→FSp}{c c':Cfg}{x:Str}{st:Stmt}{N ps:List Str}{code:Ss}{sp:FSp}(G:GOk P w K mg base c Γ)(X:K.In h)(Gn:h.Ns mainGlobals mg)(d:DI K x st)(S:ao N ps (ac st))(hc:aZ c code (ah st)=true)
  (len:∀ {as st Q},sp as st Q→as.length=ps.length) (hw:∀ {as st Q},sp as st Q→aN Γ code (frame N.length as) st (am st Q))
  (hb:∀(kV doc pm:Value) (an:Option Addr) (cdv ct:Value) (us:List Value),us.length=ps.length→bindArgs (W.fnOf x x (bz st) (ah st) (ac st) .none kV doc pm an cdv ct) ⟨us,[]⟩=pure (ps.zip us))
  (hN:c.N=N:=by rfl) (hn:c.names=(ac st).names:=by rfl) (hpc:c.pc=false:=by rfl) (hhm:c.hm=none:=by rfl) (h1:c'.fns=c.fns:=by rfl) (h2:c'.lim=c.lim+1:=by rfl) (h3:c'.blts=c.blts:=by rfl) (h4:c'.gl=c.gl:=by rfl) (hx:c.fns[c.lim]?=some x:=by rfl) (hs:Γ c.lim=sp:=by rfl):GOk P w K mg base c' Γ:=by
 obtain⟨f,oc,od,kV,dc,pm,an,cd,ct,sl,a,l,cc,k⟩:=d
 subst hs
 exact G.next h1 h2 h3 h4 hx (yF (At.mk' X Gn hb a l cc k) S hN hn hc G (fun _ _ _=>len) (fun _ _ _=>hw) hpc hhm)
end FW
namespace FW
open L2 HX
section
variable {P:Program}{w:World}{K:W.Frag}{mg:Str→Option Value}{base:Heap}{c:Cfg}{Γ:Nat→FSp}
theorem on {x:Str}(z:W.nsIn K mainGlobals x=some none):W.tabIn K x=none:=by
 unfold W.tabIn
 rw[z]
theorem vD (h:∀x∈aW,W.tabIn K x=none∨∃c T,W.tabIn K x=some (c,T)∧K.lookup T=none∧∀y∈aW,y≠x→∀d,W.tabIn K y≠some (d,T)):uz K:=⟨fun x hx c T e=>by
 rcases h x hx with z|⟨c',T',z,n,u⟩
 ·rw[z] at e;cases e
 ·rw[z] at e
  cases e
  exact⟨n,fun y hy d ed=>Classical.byContradiction fun q=>u y hy q d ed⟩⟩
end
end FW
namespace FW
open L2 HX
section
variable {Γ:Nat→FSp}{ρ:Fr}{st:AH}{Q:EK}{D:aA}{a b c:E}{es:Es}
noncomputable def aft (Γ:Nat→FSp)(ss:Ss)(D:aA):aA:={ D with nx:=fun ρ' st'=>aN Γ ss ρ' st' D }
noncomputable def LD (I:Fr→AH→Prop)(D:aA):aA:={ nx:=I,ct:=I,bk:=D.nx,rt:=D.rt }
def qq (Γ:Nat→FSp)(t:Tg)(b:Ss)(chk:AH→Prop)(D:aA)(xs:List PV)(ρ:Fr)(st:AH):Prop:=iL chk (fun x ρ' st' D'=>bN Γ t x ρ' st' fun ρ2 st2=>aN Γ b ρ2 st2 D') D xs ρ st
def Bk (Γ:Nat→FSp)(c:E)(b:Ss)(D:aA)(ρ:Fr)(st:AH):Prop:=∃n,cZ (wpT Γ c) (aN Γ b) D n ρ st
def tX (Γ:Nat→FSp)(elt:E)(tg:Tg)(ifs:Es)(chk:AH→Prop)(ρ:Fr)(xs:List PV)(st:AH)(Q:LK):Prop :=
 c8 chk (fun x st2 k=>bN Γ tg x ρ st2 fun ρ' st3=>eC Γ ifs ρ' st3 fun c st4=>if c=true then wpE Γ elt ρ' st4 fun v st5=>k (some v) st5 else k none st4) xs [] st Q
theorem yq {ss:Ss}:(aft Γ ss D).nx ρ st=aN Γ ss ρ st D:=rfl
theorem yd {ss:Ss}{v:PV}:(aft Γ ss D).rt v st=D.rt v st:=rfl
theorem xw {ss:Ss}:(aft Γ ss D).bk ρ st=D.bk ρ st:=rfl
theorem y6 {ss:Ss}:(aft Γ ss D).ct ρ st=D.ct ρ st:=rfl
theorem vQ {ss:Ss}:(aft Γ ss D).rt=D.rt:=rfl
theorem BA {I:Fr→AH→Prop}:(LD I D).nx ρ st=I ρ st:=rfl
theorem BO {I:Fr→AH→Prop}:(LD I D).ct ρ st=I ρ st:=rfl
theorem Ar {I:Fr→AH→Prop}:(LD I D).bk ρ st=D.nx ρ st:=rfl
theorem AL {I:Fr→AH→Prop}{v:PV}:(LD I D).rt v st=D.rt v st:=rfl
theorem wD {I:Fr→AH→Prop}:(LD I D).rt=D.rt:=rfl
theorem AM {st0:AH}:(am st0 Q).nx ρ st=Ret st0 Q .non st:=rfl
theorem BN {st0:AH}{v:PV}:(am st0 Q).rt v st=Ret st0 Q v st:=rfl
theorem xA {st0:AH}:(am st0 Q).rt=Ret st0 Q:=rfl
theorem vK {s s2:S}{ss:Ss}:aN Γ (.cons s (.cons s2 ss)) ρ st D=wpS Γ s ρ st (aft Γ (.cons s2 ss) D):=rfl
theorem uv {x:Ss}:wpS Γ (.whileS c x) ρ st D=Bk Γ c x D ρ st:=rfl
theorem zJ {t:Tg}{it:It}{x:Ss}:wpS Γ (.forS t it x) ρ st D=fY Γ it ρ st fun xs chk st1=>qq Γ t x chk D xs ρ st1:=rfl
theorem x_ {tg:Tg}{it:It}{ifs:Es}{nt:List Str}{caps:List Nat}:wpE Γ (.comp a tg it ifs nt caps) ρ st Q=fY Γ it ρ st fun xs chk st1 =>
  xs.length<100000∧tX Γ a tg ifs chk (nt.map (fun _=>none)++caps.map fun i=>(ρ[i]?).join) xs st1 fun vs st2=>Q (.ref st2.length) (st2++[.lst vs]):=rfl
theorem yL {t:Tg}{wk:DW}{e:E}{x:Ss}:wpS Γ (.forK t wk e x) ρ st D=wpE Γ e ρ st fun v st1=>∃n,v=.ref n∧∃kvs,st1[n]?=some (.dk kvs)∧qq Γ t x (fun _=>True) (fzD n kvs D) (dm wk kvs) ρ (st1.set n (.fz kvs)):=rfl
theorem zw {n:Nat}{kvs:List (Key × PV)}:(fzD n kvs D).nx ρ st=(st[n]?=some (.fz kvs)∧D.nx ρ (st.set n (.dk kvs))):=rfl
theorem l6 (G:aO Γ){t:Tg}{b:Ss}{chk:AH→Prop}{D:aA}(I:Nat→Fr→AH→Prop){xs:List PV}{ρ:Fr}{st:AH}(h0:I 0 ρ st)
  (hs:∀i x ρ st,xs[i]?=some x→I i ρ st→chk st∧bN Γ t x ρ st (fun ρ2 st2=>aN Γ b ρ2 st2 (LD (I (i+1)) D)))
  (hd:∀ρ st,I xs.length ρ st→chk st∧D.nx ρ st):qq Γ t b chk D xs ρ st:=by
 have key:∀(k i:Nat) (ρ:Fr) (st:AH),i+k=xs.length→I i ρ st→iL chk (fun x ρ' st' D'=>bN Γ t x ρ' st' fun ρ2 st2=>aN Γ b ρ2 st2 D') D (xs.drop i) ρ st:=by
  intro k
  induction k with
  | zero =>
   intro i ρ st hi h
   have:i=xs.length:=by omega
   subst this
   rw[List.drop_length]
   exact hd ρ st h
  | succ k ih =>
   intro i ρ st hi h
   have hlt:i<xs.length:=by omega
   rw[FK hlt]
   obtain⟨h1,h2⟩:=hs i xs[i] ρ st (by simp[hlt]) h
   refine⟨h1,aK G t (fun ρ2 st2 k2=>aH G b ?_ k2) h2⟩
   exact⟨fun ρ3 st3 z=>ih (i+1) ρ3 st3 (by omega) z,fun _ _ z=>z,fun _ _ z=>z,fun ρ3 st3 z=>ih (i+1) ρ3 st3 (by omega) z⟩
 have:=key xs.length 0 ρ st (by omega) h0
 rwa [G_] at this
theorem fj {c:Fr→AH→BK→Prop}{body:Fr→AH→aA→Prop}{D:aA}(hc:∀ρ st Q Q',(∀b st,Q b st→Q' b st)→c ρ st Q→c ρ st Q')(hb:∀ρ st D D',eg D D'→body ρ st D→body ρ st D') :
  ∀ {n k:Nat}{ρ:Fr}{st:AH},n≤k→cZ c body D n ρ st→cZ c body D k ρ st
 | 0,k,ρ,st,_,h=>h.elim
 | n+1,0,ρ,st,hk,h=>absurd hk (by omega)
 | n+1,k+1,ρ,st,hk,h=>by
  refine hc _ _ _ _ (fun b st1 z=>?_) h
  cases b with
  | false=>exact z
  | true =>
   rw[D9 rfl] at z ⊢
   refine hb _ _ _ _ ?_ z
   exact⟨fun _ _ z=>fj hc hb (by omega) z,fun _ _ z=>z,fun _ _ z=>z,fun _ _ z=>fj hc hb (by omega) z⟩
theorem nq (G:aO Γ){c:E}{b:Ss}{D:aA}(I:Nat→Fr→AH→Prop){n:Nat}{ρ:Fr}{st:AH}(h0:I n ρ st)
  (hs:∀n ρ st,I n ρ st→wpT Γ c ρ st (fun k st1=>if k=true then aN Γ b ρ st1 (LD (fun ρ' st'=>∃m,m<n∧I m ρ' st') D) else D.nx ρ st1)):Bk Γ c b D ρ st:=by
 have hc:∀ρ st Q Q',(∀b st,Q b st→Q' b st)→wpT Γ c ρ st Q→wpT Γ c ρ st Q':=fun _ _ _ _ hk z=>aC G c hk z
 have hb:∀ρ st D D',eg D D'→aN Γ b ρ st D→aN Γ b ρ st D':=fun _ _ _ _ hk z=>aH G b hk z
 have key:∀(k n:Nat),n<k→∀(ρ:Fr) (st:AH),I n ρ st→cZ (wpT Γ c) (aN Γ b) D (n+1) ρ st:=by
  intro k
  induction k with
  | zero=>intro n hn;exact absurd hn (by omega)
  | succ k ih =>
   intro n hn ρ st h
   refine hc _ _ _ _ (fun q st1 z=>?_) (hs n ρ st h)
   cases q with
   | false=>exact z
   | true =>
    rw[D9 rfl] at z ⊢
    refine hb _ _ _ _ ?_ z
    exact⟨fun ρ' st' ⟨m,hm,z⟩=>fj hc hb (by omega) (ih m (by omega) ρ' st' z),fun _ _ z=>z,fun _ _ z=>z,fun ρ' st' ⟨m,hm,z⟩=>fj hc hb (by omega) (ih m (by omega) ρ' st' z)⟩
 exact⟨_,key (n+1) n (by omega) ρ st h0⟩
end
section
variable {Γ:Nat→FSp}
theorem lN (G:aO Γ){elt:E}{tg:Tg}{ifs:Es}{chk:AH→Prop}{ρ:Fr}{xs:List PV}{st:AH}{Q:LK}(I:Nat→List PV→AH→Prop)(h0:I 0 [] st)
  (hs:∀i x acc st,xs[i]?=some x→I i acc st→chk st∧bN Γ tg x ρ st fun ρ' st3=>eC Γ ifs ρ' st3 fun c st4=>if c=true then wpE Γ elt ρ' st4 fun v st5=>I (i+1) (acc++[v]) st5 else I (i+1) acc st4)
  (hd:∀acc st,I xs.length acc st→chk st∧Q acc st):tX Γ elt tg ifs chk ρ xs st Q:=by
 have key:∀(k i:Nat) (acc:List PV) (st:AH),i+k=xs.length→I i acc st→c8 chk (dv Γ elt tg ifs ρ) (xs.drop i) acc st Q:=by
  intro k
  induction k with
  | zero =>
   intro i acc st hi h
   have:i=xs.length:=by omega
   subst this
   rw[List.drop_length]
   exact hd acc st h
  | succ k ih =>
   intro i acc st hi h
   have hlt:i<xs.length:=by omega
   rw[FK hlt]
   obtain⟨h1,h2⟩:=hs i xs[i] acc st (by simp[hlt]) h
   refine⟨h1,aK G tg (fun ρ2 st2 k2=>bu G ifs (fun c st4 k4=>?_) k2) h2⟩
   cases c with
   | true=>rw[D9 rfl] at k4 ⊢;exact aa G elt (fun v st5 z=>ih (i+1) _ st5 (by omega) z) k4
   | false=>rw[D_ D1] at k4 ⊢;simpa using ih (i+1) _ st4 (by omega) k4
 have:=key xs.length 0 [] st (by omega) h0
 rw[G_] at this
 exact this
theorem comp_map (G:aO Γ){elt:E}{i:Nat}{chk:AH→Prop}{ρ:Fr}{xs:List PV}{st:AH}{Q:LK}(f:PV→PV)(hc:chk st)(hs:∀x∈xs,wpE Γ elt (ρ.set i (some x)) st fun v st'=>v=f x∧st'=st)(q:Q (xs.map f) st):tX Γ elt (.name i) .nil chk ρ xs st Q:=by
 refine lN G (fun j acc s=>s=st∧acc=(xs.take j).map f) ⟨rfl,by simp⟩ ?_ ?_
 ·rintro j x acc s hx ⟨rfl,rfl⟩
  refine⟨hc,?_⟩
  simp only[gu,sM]
  rw[D9 trivial]
  refine aa G elt (fun v st5 z=>?_) (hs x (ER hx))
  obtain⟨rfl,rfl⟩:=z
  refine⟨rfl,?_⟩
  rw[List.take_add_one,hx]
  simp
 ·rintro acc s ⟨rfl,rfl⟩
  rw[GA]
  exact⟨hc,q⟩
theorem e_ {f:PV→Bool}:∀ {xs:List PV},fL (xs.map fun x=>.bl (f x))=some (xs.map f)
 | []=>rfl
 | x::xs=>by simp only[List.map_cons,fL,e_ (xs:=xs),Option.map_some]
end
section
variable {st:AH}{Q:EK}{i j:Int}{n k:Nat}{xs ys:List PV}{x y v:PV}{b b':Bool}{s s':Str}{kB:Bool→Prop}{BQ:BK}
theorem B0:fA .Add (.int i) (.int j) st Q=Q (.int (i+j)) st:=rfl
theorem Ad:fA .Sub (.int i) (.int j) st Q=Q (.int (i-j)) st:=rfl
theorem BT:fA .Mult (.int i) (.int j) st Q=(CMB i j∧Q (.int (i*j)) st):=rfl
theorem AV:fA .FloorDiv (.int i) (.int j) st Q=(CBig j∧Q (.int (i/j)) st):=rfl
theorem BY:fA .Mod (.int i) (.int j) st Q=(0<j∧Q (.int (i % j)) st):=rfl
theorem AX:fA .Pow (.int i) (.int j) st Q=(qF i j∧Q (.int (i ^ j.toNat)) st):=rfl
theorem yP:fA .Add (.ref n) (.ref k) st Q=∃xs ys,st[n]?=some (.lst xs)∧st[k]?=some (.lst ys)∧xs.length+ys.length≤100000∧Q (.ref st.length) (st++[.lst (xs++ys)]):=rfl
theorem wL:fA .Mult (.ref n) (.int i) st Q=∃xs,st[n]?=some (.lst xs)∧-(2 ^ 63)≤i∧i<2 ^ 63∧xs.length*i.toNat≤100000∧Q (.ref st.length) (st++[.lst (List.replicate i.toNat xs).flatten]):=rfl
theorem yk {a b:Str}:fA .Add (.str a) (.str b) st Q=(a.length+b.length≤100000∧Q (.str (a++b)) st):=rfl
theorem yo:fA .Add (.tup xs) (.tup ys) st Q=(xs.length+ys.length≤100000∧Q (.tup (xs++ys)) st):=rfl
theorem Dw:bY .Eq x y st Q=eqW st x y fun k=>Q (.bl k) st:=rfl
theorem Db:bY .NotEq x y st Q=eqW st x y fun k=>Q (.bl (!k)) st:=rfl
theorem B3:bY .Is x .non st Q=Q (.bl (bj x)) st:=rfl
theorem Bj:bY .Is x (.bl b) st Q=Q (.bl (fT b x)) st:=rfl
theorem yb:bY .IsNot x .non st Q=Q (.bl (!bj x)) st:=rfl
theorem yK:bY .IsNot x (.bl b) st Q=Q (.bl (!fT b x)) st:=rfl
theorem Dy:bY .Lt (.int i) (.int j) st Q=Q (.bl (decide (i<j))) st:=rfl
theorem Cu:bY .LtE (.int i) (.int j) st Q=Q (.bl (decide (i≤j))) st:=rfl
theorem C_:bY .Gt (.int i) (.int j) st Q=Q (.bl (decide (j<i))) st:=rfl
theorem Dl:bY .GtE (.int i) (.int j) st Q=Q (.bl (decide (j≤i))) st:=rfl
theorem BD:eqW st (.int i) (.int j) kB=kB (decide (i=j)):=rfl
theorem Ag:eqW st (.bl b) (.bl b') kB=kB (decide (b=b')):=rfl
theorem AU:eqW st (.str s) (.str s') kB=kB (decide (s=s')):=rfl
theorem pS:bj .non=true:=rfl
theorem sw:bj (.bl b)=false:=rfl
theorem qK:bj (.int i)=false:=rfl
theorem p_:bj (.str s)=false:=rfl
theorem qx:bj (.tup xs)=false:=rfl
theorem qE:bj (.ref n)=false:=rfl
theorem vX:fT true (.bl true)=true:=rfl
theorem vB:fT true (.bl false)=false:=rfl
theorem vm:fT false (.bl true)=false:=rfl
theorem uY:fT false (.bl false)=true:=rfl
theorem sU:fT b (.int i)=false:=rfl
theorem t9:fT b .non=false:=rfl
theorem q_:fT b (.tup xs)=false:=rfl
theorem qL:bt st (.tup xs)=some xs:=rfl
theorem qw:bt st (.rdl xs)=some xs:=rfl
theorem ox:aU st (.rdl xs)=some xs:=rfl
theorem dW (h:st[n]?=some (.lst xs)):aU st (.ref n)=some xs:=by simp[aU,h]
theorem bA (h:st[n]?=some (.lst xs)):bt st (.ref n)=some xs:=by simp[bt,aU,h]
theorem qN:a_ st .non=some "NoneType":=rfl
theorem tz:a_ st (.bl b)=some "bool":=rfl
theorem qG:a_ st (.int i)=some "int":=rfl
theorem pQ:a_ st (.str s)=some "str":=rfl
theorem qA:a_ st (.tup xs)=some "tuple":=rfl
theorem qg:a_ st (.rdl xs)=some "list":=rfl
theorem Ac {z:Str}:ixW (.str z) (.int i) st Q=(z.length≤100000∧∃c,atI z.cps.toList i=some c∧Q (.str ⟨#[c]⟩) st):=rfl
theorem AW:ixW (.tup xs) (.int i) st Q=∃v,atI xs i=some v∧Q v st:=propext ⟨fun ⟨ys,e,q⟩=>by cases e;exact q,fun q=>⟨xs,rfl,q⟩⟩
theorem zZ:ixW (.rdl xs) (.int i) st Q=∃v,atI xs i=some v∧Q v st:=propext ⟨fun ⟨ys,e,q⟩=>by cases e;exact q,fun q=>⟨xs,rfl,q⟩⟩
theorem BR:ixW (.ref n) (.int i) st Q=∃xs,bt st (.ref n)=some xs∧∃v,atI xs i=some v∧Q v st:=rfl
theorem nH:atI (x::xs) 0=some x:=cS (j:=0) rfl
theorem li:atI (x::y::xs) 1=some y:=cS (j:=1) rfl
theorem tT:atI (x::y::v::xs) 2=some v:=cS (j:=2) rfl
theorem rT {u:PV}:atI (x::y::v::u::xs) 3=some u:=cS (j:=3) rfl
theorem B4:ixW (.tup (x::xs)) (.int 0) st Q=Q x st:=propext ⟨fun ⟨ys,e,w,e2,q⟩=>by cases e;rw[nH] at e2;cases e2;exact q,fun q=>⟨_,rfl,_,nH,q⟩⟩
theorem zY:ixW (.tup (x::y::xs)) (.int 1) st Q=Q y st:=propext ⟨fun ⟨ys,e,w,e2,q⟩=>by cases e;rw[li] at e2;cases e2;exact q,fun q=>⟨_,rfl,_,li,q⟩⟩
theorem A5:ixW (.tup (x::y::v::xs)) (.int 2) st Q=Q v st:=propext ⟨fun ⟨ys,e,w,e2,q⟩=>by cases e;rw[tT] at e2;cases e2;exact q,fun q=>⟨_,rfl,_,tT,q⟩⟩
theorem Be {u:PV}:ixW (.tup (x::y::v::u::xs)) (.int 3) st Q=Q u st:=propext ⟨fun ⟨ys,e,w,e2,q⟩=>by cases e;rw[rT] at e2;cases e2;exact q,fun q=>⟨_,rfl,_,rT,q⟩⟩
theorem BG {lo hi:Option Int}:slW (.tup xs) lo hi st Q=Q (.tup (lU xs lo hi)) st:=rfl
theorem Bi {lo hi:Option Int}:slW (.rdl xs) lo hi st Q=Q (.ref st.length) (st++[.lst (lU xs lo hi)]):=by simp[slW,aU]
theorem Aa {lo hi:Option Int}{z:Str}:slW (.str z) lo hi st Q=(z.length≤100000∧Q (.str (df z lo hi)) st):=rfl
theorem zL {lo hi:Option Int}:slW (.ref n) lo hi st Q=∃xs,aU st (.ref n)=some xs∧Q (.ref st.length) (st++[.lst (lU xs lo hi)]):=rfl
theorem xr {z:Str}:cf .len [.str z] st Q=(z.length≤100000∧Q (.int z.length) st):=rfl
theorem xf {z:Str}:cf .int1 [.str z] st Q=(z.length≤640∧∃n,PySem.intText? z=some n∧Q (.int n) st):=rfl
theorem DX {a b:Str}:bY .In (.str a) (.str b) st Q=Q (.bl (!(Builtin.Str.occurrences b a 0 b.length 1).isEmpty)) st:=rfl
theorem z_ {z w:Str}:smW .index (.str z) (.str w) st Q=∃i r,Builtin.Str.occurrences z w 0 z.length 1=i::r∧Q (.int (i:Nat)) st:=rfl
theorem Bt {z w:Str}:smW .count (.str z) (.str w) st Q=Q (.int ((Builtin.Str.occurrences z w 0 z.length (z.length+1)).length:Nat)) st:=rfl
theorem zM {z:Str}:smW .join (.str z) y st Q=(z.length=0∧∃ss:List Str,aU st y=some (ss.map PV.str)∧JoinOk z ss=true∧Q (.str (Txt.join z ss)) st):=rfl
theorem wC {z:Str}{k:Int}:fA .Mult (.str z) (.int k) st Q=(2≤k∧k<2 ^ 30∧0<z.length∧z.length*k.toNat≤100000∧Q (.str (nB z k.toNat)) st):=rfl
theorem CQ {a b:Str}:bY .NotIn (.str a) (.str b) st Q=Q (.bl (!(!(Builtin.Str.occurrences b a 0 b.length 1).isEmpty))) st:=rfl
theorem AQ:bY .In .non (.tup xs) st Q=(xs.all rc=true∧Q (.bl (xs.any bj)) st):=rfl
theorem Ap:bY .In (.int i) (.tup xs) st Q=∃ns:List Int,xs=ns.map PV.int∧Q (.bl (ns.any fun j=>j == i)) st:=rfl
theorem AS:bY .NotIn (.int i) (.tup xs) st Q=∃ns:List Int,xs=ns.map PV.int∧Q (.bl (!(ns.any fun j=>j == i))) st:=rfl
theorem Ca {a:Str}:bY .In (.str a) (.tup xs) st Q=∃ns:List Str,xs=ns.map PV.str∧Q (.bl (ns.any fun j=>j == a)) st:=rfl
theorem AG {a:Str}:bY .NotIn (.str a) (.tup xs) st Q=∃ns:List Str,xs=ns.map PV.str∧Q (.bl (!(ns.any fun j=>j == a))) st:=rfl
theorem Ay {a:Str}:bY .In (.str a) (.ref n) st Q=inR a n st fun k=>Q (.bl k) st:=rfl
theorem zS {a:Str}:bY .NotIn (.str a) (.ref n) st Q=inR a n st fun k=>Q (.bl (!k)) st:=rfl
theorem BZ {z:Str}:ixW (.ref n) (.str z) st Q=∃kvs v,(st[n]?=some (.dk kvs)∨st[n]?=some (.fz kvs))∧c9 kvs (.inr z)=some v∧Q v st:=rfl
theorem xZ {kS:AH→Prop}{z:Str}:lu (.ref n) (.str z) v st kS=∃kvs,st[n]?=some (.dk kvs)∧kvs.length≤1000∧kS (st.set n (.dk (qV kvs (.inr z) v))):=rfl
theorem yh:cf .len [.tup xs] st Q=Q (.int xs.length) st:=propext ⟨fun ⟨ys,e,q⟩=>by cases e;exact q,fun q=>⟨xs,rfl,q⟩⟩
theorem yQ:cf .len [.rdl xs] st Q=Q (.int xs.length) st:=propext ⟨fun ⟨ys,e,q⟩=>by cases e;exact q,fun q=>⟨xs,rfl,q⟩⟩
theorem zt:cf .len [.ref n] st Q=∃xs,bt st (.ref n)=some xs∧Q (.int xs.length) st:=rfl
theorem An:cf .max2 [.int i,.int j] st Q=Q (.int (if i<j then j else i)) st:=rfl
theorem Ce:cf .min2 [.int i,.int j] st Q=Q (.int (if j<i then j else i)) st:=rfl
theorem t8:cf .divmod [.int i,.int j] st Q=(CBig j∧Q (.tup [.int (i/j),.int (i % j)]) st):=rfl
theorem xN:cf .int1 [.bl b] st Q=Q (.int (b2z b)) st:=rfl
theorem xo:cf .str1 [.int i] st Q=(i.natAbs.log2<1920∧Q (.str (toString i)) st):=rfl
theorem xE:cf .tuple1 [.tup xs] st Q=Q (.tup xs) st:=propext ⟨fun ⟨ys,e,q⟩=>by cases e;exact q,fun q=>⟨xs,rfl,q⟩⟩
theorem zA:cf .tuple1 [.ref n] st Q=∃xs,bt st (.ref n)=some xs∧Q (.tup xs) st:=rfl
theorem B1:cf .all1 [x] st Q=∃xs bs,aU st x=some xs∧fL xs=some bs∧Q (.bl (bs.all id)) st:=rfl
theorem vG:cf .sortS [x] st Q=∃ss:List Str,aU st x=some (ss.map PV.str)∧ss.length<64∧∀ss':List Str,ss'.Perm ss→PyProof.Rows.sortedS ss'=true→Q (.ref st.length) (st++[.lst (ss'.map PV.str)]):=rfl
theorem ui {n:Nat}:cf .sortD [.ref n] st Q=∃kvs,(st[n]?=some (.dk kvs)∨st[n]?=some (.fz kvs))∧∃ss:List Str,kvs.map (·.1)=ss.map Sum.inr∧ss.length<64∧∀ss':List Str,ss'.Perm ss→PyProof.Rows.sortedS ss'=true→Q (.ref st.length) (st++[.lst (ss'.map PV.str)]):=propext ⟨fun ⟨_,e,q⟩=>by cases e;exact q,fun q=>⟨_,rfl,q⟩⟩
theorem xX:cf .max1 [x] st Q=∃ns:List Int,bt st x=some (ns.map PV.int)∧0<ns.length∧∀i,i∈ns→(∀j,j∈ns→j≤i)→Q (.int i) st:=rfl
theorem zO:cf .abs1 [.int i] st Q=Q (.int i.natAbs) st:=rfl
theorem BB:lO .append (.ref n) [v] st Q=∃xs,st[n]?=some (.lst xs)∧xs.length<100000∧Q .non (st.set n (.lst (xs++[v]))):=rfl
theorem BJ:lO .pop0 (.ref n) [] st Q=∃xs v,st[n]?=some (.lst xs)∧xs[xs.length-1]?=some v∧Q v (st.set n (.lst xs.dropLast)):=rfl
theorem u4:lO .index (.ref n) [.bl b] st Q=∃xs bs,st[n]?=some (.lst xs)∧fL xs=some bs∧bs.length<100000∧∃j:Nat,bs[j]?=some b∧(∀i,i<j→bs[i]?=some (!b))∧Q (.int j) st:=rfl
theorem CD:dy (.bl b) st BQ=BQ b st:=rfl
theorem Cy:dy .non st BQ=BQ false st:=rfl
theorem CN:dy (.int i) st BQ=BQ (i != 0) st:=rfl
theorem Dh:dy (.tup xs) st BQ=BQ (!xs.isEmpty) st:=by simp[dy,bt]
theorem CY:dy (.ref n) st BQ=∃xs,bt st (.ref n)=some xs∧BQ (!xs.isEmpty) st:=rfl
theorem Cm {kS:AH→Prop}:lu (.ref n) (.int j) v st kS=∃xs,st[n]?=some (.lst xs)∧∃q,ixN xs.length j=some q∧kS (st.set n (.lst (xs.set q v))):=rfl
theorem yv:j5 .Add (.int i) (.int j) st Q=Q (.int (i+j)) st:=rfl
theorem yS:j5 .Add (.ref n) (.ref k) st Q=∃xs ys,st[n]?=some (.lst xs)∧st[k]?=some (.lst ys)∧xs.length+ys.length≤100000∧Q (.ref n) (st.set n (.lst (xs++ys))):=rfl
theorem xi:j5 .Sub (.int i) (.int j) st Q=Q (.int (i-j)) st:=rfl
end
theorem yf:((0:Nat):Int)=0:=rfl
theorem zj:((1:Nat):Int)=1:=rfl
theorem xy:((2:Nat):Int)=2:=rfl
theorem wY:((3:Nat):Int)=3:=rfl
theorem xt:((4:Nat):Int)=4:=rfl
theorem zG:((5:Nat):Int)=5:=rfl
theorem xj:((6:Nat):Int)=6:=rfl
theorem pL {s g:AH}{k:Nat}:(s++g)[s.length+k]?=g[k]?:=by
 rw[EA (HH _ _),GK]
theorem ud {s g:AH}:(s++g)[s.length]?=g[0]?:=pL (k:=0)
theorem dC {st:AH}{c:Cell}:(st++[c])[st.length]?=some c:=by simp
theorem ja {st g:AH}{n:Nat}{c:Cell}(h:st[n]?=some c):(st++g)[n]?=some c:=by
 rw[EJ (D3.mp h).1]
 exact h
theorem ll {st:AH}{n:Nat}{c:Cell}(h:st[n]?=some c):n<st.length:=(D3.mp h).1
theorem vc {st g:AH}{n:Nat}{c:Cell}(h:n<st.length):(st++g).set n c=st.set n c++g:=List.set_append_left _ _ h
end FW
namespace FW
open L2 HX
section
variable {M:Model}{A:Around}{E:Value→Shared→Prop}{s:Shared}
theorem nz {base:Heap}{env:Env}{outer:List Env}{L e:Addr}{oe:Obj}{vs:Array Value}{head:Value}{hadNext:Bool}{Q:Unit→Shared→Prop}
  (hfr:A.frames=some (env::outer)) (hl:s.heap.FunFrames base (env::outer)) (hf:env.frame=some L)
  (he:s.heap.get? e=some oe) (hd:oe.data=.fields vs) (hsz:1<vs.size)
  (h:∀h' T oe' vs' oT ts,(∀b o,b ∉ frs (env::outer)→b≠e→s.heap.get? b=some o→h'.get? b=some o)→(∀b o,b∈frs (env::outer)→s.heap.get? b=some o→∃sl,h'.get? b=some { o with slots:=sl }) →
   s.heap.objs.size≤T→h'.get? e=some oe'→oe'.cls=oe.cls→oe'.data=.fields vs'→vs'[1]?=some (.ref T)→h'.get? T=some oT→oT.data=.fields ts→ts[3]?=some .none→Q () { s with heap:=h' }) :
  wpAny M A (do let a ←frameOf env;let pl ←entryPlaceOf L hadNext;let b ←EntryCells.newEntry head a .none (rawInt L) .none pl;setField (.ref e) 1 b) (fun _ s'=>wpAny M A (setFlight (.ref e) none) Q E s') E s:=by
 have hene:e ∉ (env::outer).filterMap (·.frame):=fun hm=>by
  obtain⟨_,o,ho,hnf⟩:=hl.mem hm
  rw[he] at ho;injection ho with ho;subst ho;exact hnf vs hd
 refine D4 (wpAny_frameOf_fun hfr hl hf fun h₁ hs₁=>?_)
 refine D4 (wpAny_entryPlaceOf fun pl hpl=>?_)
 unfold EntryCells.newEntry newFields
 refine D4 (wpAny_newObj_type ?_ (hpl.sizeOk5 _ _ _ _ _))
 have he₁:h₁.get? e=some oe:=(hs₁.2.1 e hene).trans he
 have he₂:=D5 (h:=h₁) { cls:=.type "traceback",dict:=none,data:=.fields ([head,.ref L,.none,rawInt L,.none]++(if pl.isEmpty then List.replicate 6 Value.none else pl)).toArray } he₁
 refine wpAny_setField he₂ hd hsz ?_
 have hTe:h₁.objs.size≠e:=F_ (D8 he₁)
 have hd₃:=Obj.data_mapFields hd (·.setIfInBounds 1 (Value.ref h₁.objs.size))
 have he₃:=F6 (Obj.mapFields (·.setIfInBounds 1 (Value.ref h₁.objs.size))) he₂ (Obj.isFreed_of_fields hd₃)
 have hT₃:=(E4 (h₁.push { cls:=.type "traceback",dict:=none,data:=.fields ([head,.ref L,.none,rawInt L,.none]++(if pl.isEmpty then List.replicate 6 Value.none else pl)).toArray })
  (Obj.mapFields (·.setIfInBounds 1 (Value.ref h₁.objs.size))) (Ne.symm hTe)).trans (EC h₁ rfl)
 unfold setFlight
 refine D4 (wpAny_field he₃ hd₃ (x:=.ref h₁.objs.size) (by simp[hsz]) ?_)
 rw[D9 (show (Value.ref h₁.objs.size != Value.none)=true from by simp)]
 have keep:∀b o,b≠e→h₁.get? b=some o →
   (((h₁.push { cls:=.type "traceback",dict:=none,data:=.fields ([head,.ref L,.none,rawInt L,.none]++(if pl.isEmpty then List.replicate 6 Value.none else pl)).toArray }).update e (Obj.mapFields (·.setIfInBounds 1 (Value.ref h₁.objs.size)))).update h₁.objs.size
    (Obj.mapFields (·.setIfInBounds 3 ((none:Option Addr).elim Value.none fun f=>rawInt f)))).get? b=some o:=fun b o hbe hb=>by
  have hbT:h₁.objs.size≠b:=F_ (D8 hb)
  rw[E4 _ _ hbT,E4 _ _ (Ne.symm hbe)]
  exact D5 _ hb
 refine wpAny_setField hT₃ rfl (by simp only[List.size_toArray,List.length_append,List.length_cons,List.length_nil] <;> omega) ?_
 refine h _ h₁.objs.size _ _ _ _ (fun b o hb hbe e=>keep b o hbe ((hs₁.2.1 b hb).trans e)) (fun b o hb e=>?_) (IA hs₁.1.symm) ((E4 _ _ hTe).trans he₃) (Obj.cls_mapFields _ _) hd₃ (by simp[hsz]) (F6 _ hT₃ (Obj.isFreed_of_fields (Obj.data_mapFields rfl _))) (Obj.data_mapFields rfl _) ?_
 ·obtain⟨sl,hs⟩:=hs₁.2.2 b o e
  exact⟨sl,keep b _ (fun q=>hene (q ▸ hb)) hs⟩
 ·first|(simp;done)|(rcases hpl with rfl|⟨_,_,_,_,_,_,_,rfl⟩ <;> simp)
end
structure Fly (h0:Heap)(H:Hp)(h:Heap)(a C:Addr):Prop where
 obj:∃oe vs,h.get? a=some oe∧oe.cls=.ref C∧oe.data=.fields vs∧(vs[1]?=some .none∨∃T oT ts,vs[1]?=some (.ref T)∧h0.get? T=none∧T≠a∧H T=none∧h.get? T=some oT∧oT.data=.fields ts∧ts[3]?=some .none)
 ge:h0.get? a=none
 fr:H a=none
theorem Fly.le {h1 h0:Heap}{H:Hp}{h:Heap}{a C:Addr}(f:Fly h1 H h a C)(q:∀b o,h0.get? b=some o→∃o',h1.get? b=some o'):Fly h0 H h a C:=by
 have no:∀b,h1.get? b=none→h0.get? b=none:=fun b e=>by
  cases z:h0.get? b with
  | none=>rfl
  | some o=>obtain⟨o',z'⟩:=q b o z;rw[e] at z';cases z'
 obtain⟨⟨oe,vs,h1,h2,h3,h4⟩,h5,h6⟩:=f
 refine⟨⟨oe,vs,h1,h2,h3,?_⟩,no _ h5,h6⟩
 rcases h4 with h4|⟨T,oT,ts,a1,a2,a3⟩
 ·exact .inl h4
 ·exact .inr ⟨T,oT,ts,a1,no _ a2,a3⟩
structure wa (fs:List Addr)(n:Heap)(P:Program)(w:World)(H:Hp)(a C:Addr)(h h':Heap):Prop where
 un:∃ch,(∀c∈ch,n.get? c=none∧H c=none)∧Un fs ch H H h h'
 hok:HOk P w H h'
 fly:Fly n H h' a C
 sz:h.objs.size≤h'.objs.size
section
variable {P:Program}{w:World}{A:Around}{E:Value→Shared→Prop}{s:Shared}
theorem nj {base:Heap}{env:Env}{outer:List Env}{L a C:Addr}{n:Heap}{H:Hp}{M:Model}{Q:Unit→Shared→Prop}
  (hfr:A.frames=some (env::outer)) (hl:s.heap.FunFrames base (env::outer)) (hf:env.frame=some L) (frH:∀b∈frs (env::outer),H b=none)
  (ok:HOk P w H s.heap) (hns:n.objs.size≤s.heap.objs.size) (f:Fly n H s.heap a C)
  (h:∀h',wa (frs (env::outer)) n P w H a C s.heap h'→Q () { s with heap:=h' }) :
  wpAny M A (noteFrame (.ref a) env) (fun _ s'=>wpAny M A (setFlight (.ref a) none) Q E s') E s:=by
 obtain⟨⟨oe,vs,he,hc,hd,h1⟩,hge,hH⟩:=f
 unfold noteFrame
 simp only[hf]
 have nofs:∀b o vs,s.heap.get? b=some o→o.data=.fields vs→b ∉ frs (env::outer):=fun b o vs e d hm=>by
  obtain⟨_,o',ho,hnf⟩:=hl.mem hm
  rw[e] at ho;injection ho with ho;subst ho;exact hnf vs d
 have fin:∀(ch:List Addr) (h':Heap) (T:Addr) oe' vs' oT ts,(∀c∈ch,n.get? c=none∧H c=none)→(∀b o,b ∉ frs (env::outer)→b ∉ ch→s.heap.get? b=some o→h'.get? b=some o)→(∀b o,b∈frs (env::outer)→s.heap.get? b=some o→∃sl,h'.get? b=some { o with slots:=sl }) →
   (∀b o,s.heap.get? b=some o→b ∉ ch→∃o',h'.get? b=some o') →
   s.heap.objs.size≤T→T≠a→h'.get? a=some oe'→oe'.cls=oe.cls→oe'.data=.fields vs'→vs'[1]?=some (.ref T)→h'.get? T=some oT→oT.data=.fields ts→ts[3]?=some .none→Q () { s with heap:=h' }:=by
  intro ch h' T oe' vs' oT ts hch hk hsl hth hT hTa e1 e2 e3 e4 e5 e6 e7
  have hTH:H T=none:=ok.fresh hT
  refine h h' ⟨⟨ch,hch,⟨fun b o e _ hb hx=>hk b o hb hx e,fun b o e _ hb hx=>hsl b o hb e,fun b o e hn _=>hn,fun b o e hx=>hth b o e hx,fun b xs e=>e,fun b o u e=>e,fun b ps e=>⟨#[],by rw[e];simp⟩⟩⟩,fun b o e=>?_,⟨⟨oe',vs',e1,e2.trans hc,e3,.inr ⟨T,oT,ts,e4,Heap.get?_none_of_le (EX hns hT),hTa,hTH,e5,e6,e7⟩⟩,hge,hH⟩,?_⟩
  ·have nn:∀c,H c≠none→c ∉ frs (env::outer)∧c ∉ ch:=fun c z=>⟨fun q=>z (frH c q),fun q=>z (hch c q).2⟩
   refine(ok b o e).stay (fun c u hc q=>?_) (fun c q=>q) fun c xs q=>q
   have:H c≠none:=by
    rcases hc with rfl|hc
    ·rw[e];exact Option.some_ne_none _
    ·rw[hc];exact Option.some_ne_none _
   exact hk c u (nn c this).1 (nn c this).2 q
  ·exact EX hT (E8 (D8 e5))
 rcases h1 with h1|⟨T,oT,ts,h1,hnT,hTa,hTH,hT,hdT,h3⟩
 ·refine D4 (wpAny_field he hd h1 ?_)
  rw[D_ (by decide)]
  refine nz hfr hl hf he hd (FI.mp h1).1 fun h' T oe' vs' oT ts k1 k2 hT e1 e2 e3 e4 e5 e6 e7=>?_
  refine fin [a] h' T oe' vs' oT ts (fun c hc=>by cases EW.mp hc;exact⟨hge,hH⟩) (fun b o hb hx e=>k1 b o hb (fun q=>hx (by simp[q])) e) k2 (fun b o e hx=>?_) hT (fun q=>by rw[q] at hT;exact absurd (D8 he) (IG.mpr hT)) e1 e2 e3 e4 e5 e6 e7
  by_cases hb:b∈frs (env::outer)
  ·obtain⟨sl,z⟩:=k2 b o hb e
   exact⟨_,z⟩
  ·exact⟨_,k1 b o hb (fun q=>hx (by simp[q])) e⟩
 ·refine D4 (wpAny_field he hd h1 ?_)
  rw[D9 (show (Value.ref T != Value.none)=true from by simp)]
  refine D4 (wpAny_field hT hdT h3 ?_)
  rw[D_ (show ¬((Value.none == rawInt L)=true) from by simp[rawInt])]
  refine D4 (wpAny_setField hT hdT (FI.mp h3).1 ?_)
  have other:∀b,b≠T→(s.heap.update T (Obj.mapFields (·.setIfInBounds 3 Value.none))).get? b=s.heap.get? b:=fun b hb=>E4 _ _ (Ne.symm hb)
  have nT:∀b,b∈frs (env::outer)→b≠T:=fun b hb q=>nofs T oT ts hT hdT (q ▸ hb)
  have hl':(s.heap.update T (Obj.mapFields (·.setIfInBounds 3 Value.none))).FunFrames base (env::outer):=hl.of_keeps fun b o hb hnf=>⟨o,(other b fun q=>by rw[q,hT] at hb;injection hb with hb;subst hb;exact hnf ts hdT).trans hb,rfl⟩
  refine nz (s:={ s with heap:=s.heap.update T (Obj.mapFields (·.setIfInBounds 3 Value.none)) }) hfr hl' hf ((other a (Ne.symm hTa)).trans he) hd (FI.mp h1).1 fun h' T' oe' vs' oT' ts' k1 k2 hT' e1 e2 e3 e4 e5 e6 e7=>?_
  have hszu:(s.heap.update T (Obj.mapFields (·.setIfInBounds 3 Value.none))).objs.size=s.heap.objs.size:=Heap.size_after_update ..
  have hT2:s.heap.objs.size≤T':=by rw[←hszu];exact hT'
  have kk:∀b o,b ∉ frs (env::outer)→b ∉ [a,T]→s.heap.get? b=some o→h'.get? b=some o:=fun b o hb hx e=>k1 b o hb (fun q=>hx (by simp[q])) ((other b fun q=>hx (by simp[q])).trans e)
  have ks:∀b o,b∈frs (env::outer)→s.heap.get? b=some o→∃sl,h'.get? b=some { o with slots:=sl }:=fun b o hb e=>k2 b o hb ((other b (nT b hb)).trans e)
  refine fin [a,T] h' T' oe' vs' oT' ts' (fun c hc=>?_) kk ks (fun b o e hx=>?_) hT2 (fun q=>by rw[q] at hT2;exact absurd (D8 he) (IG.mpr hT2)) e1 e2 e3 e4 e5 e6 e7
  ·rcases E3.mp hc with rfl|hc
   ·exact⟨hge,hH⟩
   ·cases EW.mp hc;exact⟨hnT,hTH⟩
  ·by_cases hb:b∈frs (env::outer)
   ·obtain⟨sl,z⟩:=ks b o hb e
    exact⟨_,z⟩
   ·exact⟨_,kk b o hb hx e⟩
end
theorem Un.noted {fs fs' ch:List Addr}{H0 H1:Hp}{h0 h1 h2:Heap}(a:Un fs [] H0 H1 h0 h1)(b:Un fs' ch H1 H1 h1 h2)(hfs:∀x o,h0.get? x=some o→x∈fs'→x∈fs)(hsf:∀x∈fs,x∈fs')(hch:∀c∈ch,h0.get? c=none):Un fs [] H0 H1 h0 h2:=by
 have nc:∀x o,h0.get? x=some o→x ∉ ch:=fun x o e z=>by rw[hch x z] at e;cases e
 have nx:∀x:Addr,x ∉ ([]:List Addr):=fun x z=>by cases z
 refine⟨fun x o e n hx _=>?_,fun x o e n hx _=>?_,fun x o e n _=>a.free x o e n (nx x),fun x o e _=>?_,a.tups,a.frzs,a.tbls⟩
 ·exact b.keep x o (a.keep x o e n hx (nx x)) (a.free x o e n (nx x)) (fun z=>hx (hfs x o e z)) (nc x o e)
 ·obtain⟨sl,z⟩:=a.slot x o e n hx (nx x)
  obtain⟨sl',z'⟩:=b.slot x _ z (a.free x o e n (nx x)) (hsf x hx) (nc x o e)
  exact⟨sl',z'⟩
 ·obtain⟨o',z⟩:=a.there x o e (nx x)
  exact b.there x o' z (nc x o e)
noncomputable def CXe (P:Program)(w:World):CXT:=fun outer H s E e s'=>∃a C H',e=.ref a∧s'.os=s.os∧AllBare s'.gens∧s.heap.objs.size≤s'.heap.objs.size∧Un (frs outer) [] H H' s.heap s'.heap∧HOk P w H' s'.heap∧Fly s.heap H' s'.heap a C∧E (.ref C) none H'
def xp (X:Cx)(W:Addr→Hp→Prop)(e:Value)(s':Shared):Prop:=∃a C pins σ H',e=.ref a∧L2.Inv X pins σ H' s'∧Fly X.s₀.heap H' s'.heap a C∧W C H'
theorem tW {P:Program}{w:World}{K:W.Frag}{mg:Str→Option Value}{base:Heap}{N:List Str}{qual:Str}{scope:Scope}{f:Addr}{cd:Value}{A:Around}{outer:List Env}{s:Shared}{H:Hp}{E:XK}{e:Value}{s':Shared}
  (h:xp (fC (CXe P w) P w K mg base N qual scope f cd A outer s H E) (fun C H'=>E (.ref C) none H') e s'):(fC (CXe P w) P w K mg base N qual scope f cd A outer s H E).xe e s':=by
 obtain⟨a,C,pins,σ,H',rfl,I,fl,q⟩:=h
 show wpAny _ _ (leaving _ _) _ _ _
 unfold leaving
 have I':=I
 refine D4 (nj (P:=P) (w:=w) (n:=s.heap) (base:=base) (I.ok.frames) I.stack rfl I.stkFree I.hok I.sz fl fun h' nt=>?_)
 obtain⟨⟨ch,hch,un⟩,hok,fl',sz⟩:=nt
 refine⟨a,C,H',rfl,I.os,I.bare,EX I.sz sz,?_,hok,fl',q⟩
 have bs:Un (frs outer) [] H H' s.heap s'.heap:=I.base
 refine Un.noted bs un (fun x o e hx=>?_) (fun x hx=>EH _ hx) fun c hc=>(hch c hc).1
 rcases E3.mp hx with rfl|hx
 ·exact absurd (D8 e) (IG.mpr I.ok.above)
 ·exact hx
theorem ug {P:Program}{w:World}{X:Cx}{W:Addr→Hp→Prop}{pins:List (Addr × Obj)}{σ:L2.St}{H:Hp}{s:Shared}{e:Value}{s':Shared}(hP:X.prog=P)(hw:X.w=w)(hex:X.ex=[])(I:L2.Inv X pins σ H s)(h:CXe P w X.stack H s (fun v _ H'=>∃C,v=.ref C∧W C H') e s'):xp X W e s':=by
 subst hP hw
 obtain⟨a,C,H',rfl,os,bare,sz,un,hok,fl,C',hC,q⟩:=h
 cases hC
 exact⟨a,C,pins,σ,H',rfl,I.call' os un hok bare (fun b z=>by cases z),fl.le fun b o e=>I.base.there b o e (by rw[hex];intro z;cases z),q⟩
end FW
namespace FW
open L2 HX
noncomputable abbrev eo:List Value:=[.type "ValueError",.type "Exception",.type "BaseException",.type "object"]
theorem lY {K:W.Frag}{h:Heap}{C:Addr}{bmB:List Value}{newId:String}{x:Str}{mg:Str→Option Value}(X:K.In h)(m:mg x=some (.ref C))(q:W.excIn K C bmB newId=true):OwnCls x C bmB newId mg h:=by
 refine⟨m,?_⟩
 unfold W.excIn at q
 split at q
 ·rename_i dd cd sl ho
  split at q
  ·rename_i C' bm k0 k1 k2 k3 n k5 hm hs
   simp only[Bool.and_eq_true,beq_iff_eq,Bool.not_eq_true'] at q
   obtain⟨⟨⟨⟨⟨rfl,rfl⟩,hdel⟩,ht⟩,hok⟩,hni⟩:=q
   obtain⟨nm,bs,mro,ns,qn,hd,sn,sub,ab,col,del⟩:=cd
   dsimp only at hm hdel hok hni
   subst hm hdel
   have hsl:sl=#[k0,k1,k2,k3,some (.builtin n),k5]:=by
    obtain⟨l⟩:=sl
    simp only at hs
    rw[hs]
   subst hsl
   exact⟨bm,ns,nm,qn,bs,hd,sn,sub,ab,col,dd,k0,k1,k2,k3,k5,_,X _ _ ho,.of_isNs (W.isNs_of_in X hok),W.nsMap_none_of_in X hok hni,W.tail_of_in X ht⟩
  ·cases q
 ·cases q
theorem ObjOk.obj {P:Program}{w:World}{H:Hp}{h:Heap}{a:Addr}{o:HO}(x:ObjOk P w H h a o):∃u,h.get? a=some u:=by
 cases o with
 | lst xs=>obtain⟨_,_,_,_,e⟩:=x;exact⟨_,e⟩
 | tup xs=>obtain⟨_,_,_,o,e,_⟩:=x;exact⟨_,e⟩
 | dK kvs=>obtain⟨_,_,_,_,o,_,_,e,_⟩:=x;exact⟨_,e⟩
 | dT kvs=>obtain⟨_,_,_,_,o,_,_,e,_⟩:=x;exact⟨_,e⟩
 | set S n=>obtain⟨o,_,_,_,e,_⟩:=x;exact⟨_,e⟩
 | ins C dx fs=>obtain⟨_,_,_,e,_⟩:=x;exact⟨_,e⟩
 | own y=>obtain⟨_,e⟩:=x;exact⟨_,e⟩
 | xd fs=>obtain⟨_,⟨_,_,_,e,_⟩,_⟩:=x;exact⟨_,e⟩
 | rng lo hi=>obtain⟨_,_,_,e⟩:=x;exact⟨_,e⟩
 | frz ob u=>obtain⟨e,_⟩:=x;exact⟨_,e⟩
 | tbl ps=>exact⟨_,show h.get? a=some _ from x⟩
 | met f y=>exact⟨_,show h.get? a=some _ from x⟩
 | ext φ=>obtain⟨_,⟨_,e⟩,_⟩:=x;exact⟨_,e⟩
section
variable {X:Cx}{pins:List (Addr × Obj)}{σ:L2.St}{H:Hp}{s:Shared}
theorem xY {W:Addr→Hp→Prop}{C e:Addr}{h':Heap}{vs:List Value}(I:L2.Inv X pins σ H s)(hex:X.ex=[])(m:Heap.MadeExcOf s.heap h' e (.ref C) vs)(w:W C H):xp X W (.ref e) { s with heap:=h' }:=by
 refine⟨e,C,pins,σ,H,rfl,I.call' (ch:=[]) rfl (Un.kept m.keeps) (I.hok.kept m.keeps) I.bare (fun b z=>by cases z),⟨?_,?_,?_⟩,w⟩
 ·obtain⟨t,e1,_⟩:=m.there
  exact⟨_,_,e1,rfl,rfl,.inl rfl⟩
 ·cases z:X.s₀.heap.get? e with
  | none=>rfl
  | some o =>
   obtain⟨o',z'⟩:=I.base.there e o z (by rw[hex];intro z;cases z)
   rw[m.new] at z';cases z'
 ·cases z:H e with
  | none=>rfl
  | some o =>
   obtain⟨u,z'⟩:=ObjOk.obj (I.hok e o z)
   rw[m.new] at z';cases z'
theorem tQ {W:Addr→Hp→Prop}{D:L2.Ends}{x:Str}{C:Addr}{t:Str}{j:Nat}{np cp ap pos:Pos}(I:L2.Inv X pins σ H s)(hc:X.calm=true)(hex:X.ex=[])(hg:Gl X x)(hdb:(x == ("__debug__":Str))=false)(hm:X.mg x=some (.ref C))(q:PySem.W.excIn X.K C eo "ValueError.__new__"=true)(w:W C H) :
  wpAny (model X.prog X.w) X.A (exec (.Raise (some (.Call (.Name x np) [.Constant (.str t) j ap] [] cp)) none pos) X.env) (SP X pins D) (xp X W) s:=by
 have FB:=PySem.F.excBase_ValueError
 obtain⟨tl,N,nm,qn,bs,hdct,sn,sub,ab,col,dd,k0,k1,k2,k3,k5,mN,hC,hN,hni,T⟩:=(lY (x:=x) (mg:=X.mg) I.ok.mod.kin hm q).obj
 have hplain:(backTo cp (starEach [.Constant (.str t) j ap] X.env)).any (·.1)=false:=dI (pos:=cp) (es:=[.Constant (.str t) j ap]) rfl
 refine wpAny_Raise_call_subU (C:=C) (nm:=nm) (q:=qn) (N:=N) (bs:=bs) (bm:=tl) (hdct:=hdct) (sn:=sn) (sub:=sub) (ab:=ab) (col:=col) (dd:=dd) (k0:=k0) (k1:=k1) (k2:=k2) (k3:=k3) (k5:=k5) (mN:=mN)
  FB (by decide) FB (T.hasType FB.hasBase) (I.ok.hd hc) hplain hni (eU I hg hm ⟨rfl,?_⟩ hdb)
 have hA:PA X.nox [.Constant (.str t) j ap] (b7 (tC (.str t)) iY):=pac jt bH rfl
 have st1:starEach [.Constant (.str t) j ap] X.env=(false,eval (.Constant (.str t) j ap) X.env)::starEach [] X.env:=aw rfl
 have h0:wpAny (model X.prog X.w) X.A (spliced (backTo cp (starEach [.Constant (.str t) j ap] X.env))) (AP X.nox pins σ (fun vs H1=>vs=[.str t]∧H1=H)) (fun _ _=>False) s:=hA cp pins s σ H _ (I.wish _) ⟨rfl,rfl⟩
 rw[st1] at h0 ⊢
 refine Calls.evalArgs_plain (wpAny_mono h0 (fun us s2 ⟨vs,H1,I2,r,hv,hH⟩=>?_) fun _ _ z=>False.elim z)
 subst hv hH
 have I3:=I2.unwish
 refine⟨rfl,by rw[←r.length];show 1≤sizeLine;decide,?_⟩
 exact⟨I3.bk _ _ hC,hN.keeps I3.bk,T.keeps I3.bk,fun h' e m=>xY I3 hex m w⟩
end
end FW
namespace FW
open L2 HX
noncomputable abbrev XW:=Nat→AH→Prop
noncomputable abbrev okR (v:PV):PV:=.tup [.bl true,v]
noncomputable abbrev exR (k:Nat):PV:=.tup [.bl false,.int k]
noncomputable def jd (Q:EK)(W:XW):EK:=fun r st=>match r with
 | .tup [.bl true,v]=>Q v st
 | .tup [.bl false,.int k]=>W k.toNat st
 | _=>False
theorem mn {Q:EK}{W:XW}{v:PV}{st:AH}:jd Q W (okR v) st=Q v st:=rfl
theorem ce {Q Q':EK}{W W':XW}(hq:∀v st,Q v st→Q' v st)(hw:∀k st,W k st→W' k st):∀r st,jd Q W r st→jd Q' W' r st:=by
 intro r st h
 unfold jd at h ⊢
 split at h
 ·exact hq _ _ h
 ·exact hw _ _ h
 ·exact h.elim
mutual
inductive XS where
 | st (s:S)|ifX (t:E) (a b:XSs)|raise (k:Nat)|setX (i f:Nat) (es:Es)
inductive XSs where
 | nil|cons (s:XS) (ss:XSs)
end
mutual
noncomputable def wpX (Γ ΓR:Nat→FSp):XS→Fr→AH→aA→XW→Prop
 | .st s,ρ,st,D,_=>wpS Γ s ρ st D
 | .ifX t a b,ρ,st,D,W=>wpT Γ t ρ st fun k st1=>if k=true then bZ Γ ΓR a ρ st1 D W else bZ Γ ΓR b ρ st1 D W
 | .raise k,_,st,_,W=>W k st
 | .setX i f es,ρ,st,D,W=>bh Γ es ρ st fun vs st1=>ΓR f vs st1 (jd (fun v st2=>D.nx (ρ.set i (some v)) st2) W)
noncomputable def bZ (Γ ΓR:Nat→FSp):XSs→Fr→AH→aA→XW→Prop
 | .nil,ρ,st,D,_=>D.nx ρ st
 | .cons s ss,ρ,st,D,W=>wpX Γ ΓR s ρ st { D with nx:=fun ρ1 st1=>bZ Γ ΓR ss ρ1 st1 D W } W
end
section
variable {Γ ΓR:Nat→FSp}
mutual
theorem mF (G:aO Γ)(G':aO ΓR):∀(s:XS) {ρ:Fr}{st:AH}{D D':aA}{W W':XW},eg D D'→(∀k st,W k st→W' k st)→wpX Γ ΓR s ρ st D W→wpX Γ ΓR s ρ st D' W'
 | .st s,ρ,st,D,D',W,W',hD,hW,h=>by
  rw[wpX] at h ⊢
  exact eK G s hD h
 | .ifX t a b,ρ,st,D,D',W,W',hD,hW,h=>by
  rw[wpX] at h ⊢
  refine aC G t (fun k st1 z=>?_) h
  cases k with
  | true=>rw[D9 rfl] at z ⊢;exact cb G G' a hD hW z
  | false=>rw[D_ D1] at z ⊢;exact cb G G' b hD hW z
 | .raise k,ρ,st,D,D',W,W',hD,hW,h=>by
  rw[wpX] at h ⊢
  exact hW _ _ h
 | .setX i f es,ρ,st,D,D',W,W',hD,hW,h=>by
  rw[wpX] at h ⊢
  exact ar G es (fun vs st1 z=>G' _ _ _ _ _ (ce (fun v st2 z=>hD.nx _ _ z) hW) z) h
theorem cb (G:aO Γ)(G':aO ΓR):∀(s:XSs) {ρ:Fr}{st:AH}{D D':aA}{W W':XW},eg D D'→(∀k st,W k st→W' k st)→bZ Γ ΓR s ρ st D W→bZ Γ ΓR s ρ st D' W'
 | .nil,ρ,st,D,D',W,W',hD,hW,h=>by
  rw[bZ] at h ⊢
  exact hD.nx _ _ h
 | .cons s ss,ρ,st,D,D',W,W',hD,hW,h=>by
  rw[bZ] at h ⊢
  exact mF G G' s (D:={ D with nx:=fun ρ1 st1=>bZ Γ ΓR ss ρ1 st1 D W }) (D':={ D' with nx:=fun ρ1 st1=>bZ Γ ΓR ss ρ1 st1 D' W' }) ⟨fun _ _ z=>cb G G' ss hD hW z,hD.rt,hD.bk,hD.ct⟩ hW h
end
end
structure Xf where
 xs:List Str
 rz:List Nat
noncomputable def onRaise (x:Stmt)(f:Str→Bool):Bool:=match x with
 | .Raise (some (.Call (.Name y _) [.Constant (.str _) _ _] [] _)) none _=>f y
 | _=>false
theorem mW {x:Stmt}{f:Str→Bool}(h:onRaise x f=true):∃y np t j ap cp pos,x=.Raise (some (.Call (.Name y np) [.Constant (.str t) j ap] [] cp)) none pos∧f y=true:=by
 unfold onRaise at h
 split at h
 ·exact⟨_,_,_,_,_,_,_,rfl,h⟩
 ·cases h
noncomputable def oG (x:Stmt)(f:Str→Str→Expr→List Expr→Bool):Bool:=match x with
 | .Assign [.Name y _] (.Call (.Name g _) (a::as) [] _) _=>f y g a as
 | _=>false
theorem oM {x:Stmt}{f:Str→Str→Expr→List Expr→Bool}(h:oG x f=true):∃y p g gp a as cp pos,x=.Assign [.Name y p] (.Call (.Name g gp) (a::as) [] cp) pos∧f y g a as=true:=by
 unfold oG at h
 split at h
 ·exact⟨_,_,_,_,_,_,_,_,rfl,h⟩
 ·cases h
mutual
noncomputable def qb (c:Cfg)(F:Xf):XS→Stmt→Bool
 | .st s,x=>ux c s x
 | .ifX t a b,x=>xu x fun y ys zs=>oO c t y && fH c F a ys && fH c F b zs
 | .raise k,x=>onRaise x fun y=>F.xs[k]? == some y && c.glb y
 | .setX i f es,x=>oG x fun y g a as=>c.N[i]? == some y && c.loc y && c.fn f g && F.rz.contains f && ag a && as.all ag && cD c es (a::as)
noncomputable def fH (c:Cfg)(F:Xf):XSs→List Stmt→Bool
 | .nil,x=>x.isEmpty
 | .cons s ss,x=>cr x fun y ys=>qb c F s y && fH c F ss ys
end
noncomputable def Cp (K:W.Frag)(m:List Addr)(H:Hp)(ca:Nat→Addr)(E:XK):XW:=fun k st'=>∀m' H',Ext K m H m' H'→RH K m' H' st'→E (.ref (ca k)) none H'
noncomputable def f_ (K:W.Frag)(ca:Nat→Addr)(sp:FSp):Sp:=fun vs H Q E=>∃m st as,Rs K m H as vs∧RH K m H st∧sp as st (jd (post K m H Q) (Cp K m H ca E))
structure HasX (P:Program)(w:World)(K:W.Frag)(mg:Str→Option Value)(base:Heap)(k:Nat)(x:Str)(ps:List Str)(sp:Sp):Prop where
 ex:∃(f:Addr) (fd:FuncData),i4 P w K mg base (CXe P w) k f fd ps sp∧mg x=some (.ref f)∧W.keepIn K (.ref f)=true∧Binds K fd ps []
structure XG (P:Program)(w:World)(K:W.Frag)(mg:Str→Option Value)(base:Heap)(c:Cfg)(F:Xf)(ΓR:Nat→FSp)(ca:Nat→Addr):Prop where
 fn:∀f x,f<c.lim→c.fns[f]?=some x→F.rz.contains f=true→∃ps,HasX P w K mg base (f+1) x ps (f_ K ca (ΓR f))
 cls:∀k x,F.xs[k]?=some x→mg x=some (.ref (ca k))∧W.excIn K (ca k) eo "ValueError.__new__"=true
 mono:aO ΓR
noncomputable def postW (K:W.Frag)(m:List Addr)(H:Hp)(ca:Nat→Addr)(W:Addr→Hp→Prop):XW:=fun k st'=>∀m' H',Ext K m H m' H'→RH K m' H' st'→W (ca k) H'
theorem postW.ext {K:W.Frag}{m m1:List Addr}{H H1:Hp}{ca:Nat→Addr}{W:Addr→Hp→Prop}(x:Ext K m H m1 H1){k:Nat}{st:AH}(q:postW K m H ca W k st):postW K m1 H1 ca W k st:=fun m' H' e r=>q m' H' (x.trans e) r
noncomputable abbrev TX:=L2.Ends→(Addr→Hp→Prop)→L2.St→Hp→Prop
noncomputable def TXx (K:W.Frag)(ca:Nat→Addr)(w:Fr→AH→aA→XW→Prop):TX:=fun D W σ H=>∃m ρ st,RF K m H ρ σ∧RH K m H st∧w ρ st (AE K m H D) (postW K m H ca W)
def PX (X:Cx)(st:Stmt)(t:TX):Prop :=
 ∀(pins:List (Addr × Obj)) (s:Shared) (σ:L2.St) (H:Hp) (D:L2.Ends) (W:Addr→Hp→Prop),L2.Inv X pins σ H s→t D W σ H→wpAny (model X.prog X.w) X.A (exec st X.env) (SP X pins D) (xp X W) s
def PXs (X:Cx)(st:List Stmt)(t:TX):Prop :=
 ∀(pins:List (Addr × Obj)) (s:Shared) (σ:L2.St) (H:Hp) (D:L2.Ends) (W:Addr→Hp→Prop),L2.Inv X pins σ H s→t D W σ H→wpAny (model X.prog X.w) X.A (execs st X.env) (SP X pins D) (xp X W) s
section
variable {X:Cx}{c:Cfg}{F:Xf}{Γ ΓR:Nat→FSp}{ca:Nat→Addr}
theorem PA.to {es:List Expr}{t:TA}{E:Value→Shared→Prop}(h:PA X.nox es t):PA (X.wish E) es t:=fun pos pins s σ H Q I w =>
 wpAny_mono (h pos pins s σ H Q (I.unwish.wish _) w) (fun _ _ ⟨v,H',I',r,q⟩=>⟨v,H',I'.unwish.wish _,r,q⟩) fun _ _ z=>False.elim z
theorem uT (C:COk X.nox c Γ)(G:XG X.prog X.w X.K X.mg X.base c F ΓR ca)(hex:X.ex=[]){i f:Nat}{es:Es}{y g:Str}{a:Expr}{as:List Expr}{p gp cp pos:Pos}
  (h:(c.N[i]? == some y && c.loc y && c.fn f g && F.rz.contains f && ag a && as.all ag && cD c es (a::as))=true):PX X (.Assign [.Name y p] (.Call (.Name g gp) (a::as) [] cp) pos) (TXx X.K ca (wpX Γ ΓR (.setX i f es))):=by
 simp only[Bool.and_eq_true] at h
 obtain⟨⟨⟨⟨⟨⟨h1,h2⟩,h3⟩,h4⟩,h5⟩,h6⟩,h7⟩:=h
 obtain⟨g1,g2⟩:=C.locx h2
 obtain⟨k1,k2,k3,_⟩:=C.fnx h3
 have h3':=h3
 unfold Cfg.fn at h3'
 simp only[Bool.and_eq_true,beq_iff_eq,decide_eq_true_eq] at h3'
 obtain⟨ps,HF⟩:=G.fn f g h3'.1.2 h3'.1.1 h4
 obtain⟨fa,fd,Fn,fm,fk,fb⟩:=HF.ex
 rintro pins s σ H D W I ⟨m,ρ,st,rf,rh,w⟩
 rw[wpX] at w
 have hps:jR (CXe X.prog X.w) (X.wish (xp X W)) (fun v _ H'=>∃C,v=.ref C∧W C H'):=fun pins σ H s e s' I q=>ug (X:=X) rfl rfl hex I.unwish q
 have hE:PE (X.wish (xp X W)) (.Call (.Name g gp) (a::as) [] cp) (gw (f_ X.K ca (ΓR f)) [] (fun v _ H'=>∃C,v=.ref C∧W C H') (TAx X.K (bh Γ es))) :=
  pB (X:=X.wish (xp X W)) Fn k3 k1 fm fk fb .nil hps (PA.to (fK es C _ h7)) k2 (aw h5) (dI h6)
 refine wpAny_mono (gU (X:=X.wish (xp X W)) (i:=i) C.ndX (by have:=C.N;exact(ES (fun l=>l[i]?) this).trans (beq_iff_eq.mp h1)) g1 hE (br rfl) g2 pins s σ H D (I.wish _) ⟨m,ρ,st,rf,rh,ar C.mono es (fun vs st1 k m1 H1 xs1 e1 r1 r2=>⟨m1,st1,vs,fQ r2,r1,G.mono _ _ _ _ _ (ce (fun v st2 q m2 H2 x2 e2 r3 r4=>?_) fun k st2 q m2 H2 e2 r3=>?_) k⟩) w⟩) (fun _ _ q=>q.unwish) fun _ _ q=>q
 ·exact q m2 H2 _ (e1.trans e2) r3 (((rf.mono e1).mono e2).set i r4)
 ·exact⟨ca k,rfl,q m2 H2 (e1.trans e2) r3⟩
mutual
theorem CJ (C:COk X.nox c Γ)(G:XG X.prog X.w X.K X.mg X.base c F ΓR ca)(hex:X.ex=[])(hc:X.calm=true):∀(e:XS) (x:Stmt),qb c F e x=true→PX X x (TXx X.K ca (wpX Γ ΓR e))
 | .st e,x,h=>by
  rw[qb] at h
  rintro pins s σ H D W I ⟨m,ρ,st,rf,rh,w⟩
  rw[wpX] at w
  exact wpAny_mono (w4 C e x h pins s σ H D (I.wish _) ⟨m,ρ,st,rf,rh,w⟩) (fun _ _ q=>q.unwish) fun _ _ z=>False.elim z
 | .ifX t a b,x,h=>by
  rw[qb] at h
  replace h:=nM h
  obtain⟨x,ys,zs,p,rfl,h⟩:=h
  simp only[Bool.and_eq_true] at h
  obtain⟨⟨h1,h2⟩,h3⟩:=h
  rintro pins s σ H D W I ⟨m,ρ,st,rf,rh,w⟩
  rw[wpX] at w
  refine wpAny_If (wpAny_mono (jB t C _ h1 pins s σ H (fun k H1=>if k=true then TXx X.K ca (bZ Γ ΓR a) D W σ H1 else TXx X.K ca (bZ Γ ΓR b) D W σ H1) (I.wish _) ⟨m,ρ,st,rf,rh,aC C.mono t (fun k st1 z m1 H1 e1 r1=>?_) w⟩) (fun d s1 ⟨H1,I1,q1⟩=>?_) fun _ _ z=>False.elim z)
  ·cases k with
   | true=>rw[D9 rfl] at z ⊢;exact⟨m1,ρ,st1,rf.mono e1,r1,cb C.mono G.mono a (AE.ext e1) (fun _ _ q=>q.ext e1) z⟩
   | false=>rw[D_ D1] at z ⊢;exact⟨m1,ρ,st1,rf.mono e1,r1,cb C.mono G.mono b (AE.ext e1) (fun _ _ q=>q.ext e1) z⟩
  ·cases d with
   | true=>exact pD C G hex hc a _ h2 pins s1 σ H1 D W I1.unwish q1
   | false=>exact pD C G hex hc b _ h3 pins s1 σ H1 D W I1.unwish q1
 | .raise k,x,h=>by
  rw[qb] at h
  obtain⟨y,np,t,j,ap,cp,pos,rfl,h⟩:=mW h
  have h:=Bool.and_eq_true_iff.mp h
  obtain⟨g1,g2,g3⟩:=C.glbx h.2
  rintro pins s σ H D W I ⟨m,ρ,st,rf,rh,w⟩
  rw[wpX] at w
  obtain⟨e1,e2⟩:=G.cls k y (beq_iff_eq.mp h.1)
  exact tQ I hc hex g1 g2 e1 e2 (w m H (Ext.refl _ _ _) rh)
 | .setX i f es,x,h=>by
  rw[qb] at h
  obtain⟨y,p,g,gp,a,as,cp,pos,rfl,h⟩:=oM h
  exact uT C G hex h
theorem pD (C:COk X.nox c Γ)(G:XG X.prog X.w X.K X.mg X.base c F ΓR ca)(hex:X.ex=[])(hc:X.calm=true):∀(e:XSs) (x:List Stmt),fH c F e x=true→PXs X x (TXx X.K ca (bZ Γ ΓR e))
 | .nil,x,h=>by
  rw[fH] at h
  cases x with
  | nil =>
   rintro pins s σ H D W I ⟨m,ρ,st,rf,rh,w⟩
   rw[bZ] at w
   exact wpAny_execs_nil ⟨_,_,I,postF.here w rh rf⟩
  | cons _ _=>cases h
 | .cons e es,x,h=>by
  rw[fH] at h
  replace h:=ai h
  obtain⟨y,ys,rfl,h⟩:=h
  simp only[Bool.and_eq_true] at h
  rintro pins s σ H D W I ⟨m,ρ,st,rf,rh,w⟩
  rw[bZ] at w
  refine wpAny_execs_cons (thn (CJ C G hex hc e _ h.1 pins s σ H { D with nx:=fun σ1 H1=>TXx X.K ca (bZ Γ ΓR es) D W σ1 H1 } W I ⟨m,ρ,st,rf,rh,mF C.mono G.mono e (D:={ AE X.K m H D with nx:=fun ρ1 st1=>bZ Γ ΓR es ρ1 st1 (AE X.K m H D) (postW X.K m H ca W) }) (D':=AE X.K m H { D with nx:=fun σ1 H1=>TXx X.K ca (bZ Γ ΓR es) D W σ1 H1 }) ⟨fun ρ1 st1 k m1 H1 σ1 e1 r1 f1=>⟨m1,ρ1,st1,f1,r1,cb C.mono G.mono es (AE.ext e1) (fun _ _ q=>q.ext e1) k⟩,fun _ _ q=>q,fun _ _ q=>q,fun _ _ q=>q⟩ (fun _ _ q=>q) w⟩) fun f s1 q=>?_)
  cases f with
  | next =>
   obtain⟨σ',H',I',q⟩:=q
   exact pD C G hex hc es _ h.2 pins s1 σ' H' D W I' q
  | ret v=>exact q
  | brk=>exact q
  | cont=>exact q
end
end
end FW
namespace FW
open L2 HX
noncomputable def js (st:AH)(Q:EK):aA:={ nx:=fun _ st'=>Ret st (fun v s=>Q (okR v) s) .non st',rt:=Ret st (fun v s=>Q (okR v) s) }
noncomputable def nN (st:AH)(Q:EK):XW:=fun k st'=>Ret st (fun _ s=>Q (exR k) s) .non st'
def okO (sp:FSp):FSp:=fun as st Q=>sp as st (jd Q fun _ _=>False)
section
variable {P:Program}{w:World}{K:W.Frag}{mg:Str→Option Value}{base:Heap}{c:Cfg}{F:Xf}{Γ ΓR:Nat→FSp}{ca:Nat→Addr}
theorem uU {x:Str}{st:Stmt}{N ps:List Str}{sp:FSp}{code:XSs}(A0:At K mg x st ps)(S:ao N ps (ac st))(hN:c.N=N)(hn:c.names=(ac st).names)
  (hc:fH c F code (ah st)=true) (G:GOk P w K mg base c Γ) (GX:XG P w K mg base c F ΓR ca) (len:∀as st Q,sp as st Q→as.length=ps.length) (ms:∀as st Q Q',(∀v st,Q v st→Q' v st)→sp as st Q→sp as st Q')
  (h:∀as st Q,sp as st Q→bZ Γ ΓR code (frame N.length as) st (js st Q) (nN st Q)) (hpc:c.pc=false:=by rfl) (hhm:c.hm=none:=by rfl):HasX P w K mg base (c.lim+1) x ps (f_ K ca sp):=by
 obtain⟨f,fd,Ff,fm,fb⟩:=A0.ex
 have kp:=Ff.kp
 obtain⟨oc,od,kV,doc,pm,an,cdv,ct,osl,rfl,lk,hcd⟩:=Ff.ex
 refine⟨f,_,wf lk hcd S (fun vs H Q E ⟨m,st,as,r1,r2,q⟩=>by rw[←r1.len];exact len as st _ q) fun A outer s H vs Q E hr ⟨m,st',as,r1,r2,q⟩=>?_,fm,kp,fb⟩
 have C:COk (fC (CXe P w) P w K mg base N x (ac st) f cdv A outer s H E).nox c Γ:=mj (E:=E) (H:=H) (outer:=outer) (Γ:=Γ) S hN hn hr G (fun z=>by rw[hpc] at z;cases z) fun k z=>by rw[hhm] at z;cases z
 refine⟨fun D σ H1=>TXx K ca (bZ Γ ΓR code) D (fun C H'=>E (.ref C) none H') σ H1,fun pins s1 σ H1 D I w=>wpAny_mono (pD C GX rfl rfl code _ hc pins s1 σ H1 D _ I w) (fun _ _ q=>q) fun e s' q=>tW q,m,frame N.length as,st',gF r1,r2,cb G.mono GX.mono code ?_ ?_ (h as st' _ q)⟩
 ·exact⟨fun ρ st2 k m' H' σ' e r f=>cC r2 k m' H' .non e r (R_non.mpr rfl),fun v st2 k=>cC r2 k,fun _ _ k=>k.elim,fun _ _ k=>k.elim⟩
 ·intro k st2 z m' H' e r
  rcases z with z|z
  ·exact z m' H' e r
  ·obtain⟨st1,q,e2,r3,_⟩:=i_ r2 e r (R_non.mpr rfl) z
   exact q m H' e2 r3
theorem HasX.ok {k:Nat}{x:Str}{ps:List Str}{sp:FSp}(ms:∀as st Q Q',(∀v st,Q v st→Q' v st)→sp as st Q→sp as st Q')(h:HasX P w K mg base k x ps (f_ K ca sp)):Has P w K mg base k x ps (b8 K (okO sp)):=by
 obtain⟨f,fd,Fn,fm,fk,fb⟩:=h.ex
 have imp:∀vs H Q E,b8 K (okO sp) vs H Q E→f_ K ca sp vs H Q E0:=fun vs H Q E ⟨m,st,as,r1,r2,q⟩=>⟨m,st,as,r1,r2,ms _ _ _ _ (ce (fun _ _ z=>z) fun _ _ z=>z.elim) q⟩
 refine⟨f,fd,⟨fun vs H Q E q=>Fn.len vs H Q E0 (imp _ _ _ _ q),fun A outer s H args us vs Q E hr he hb hv hs=>codeAny_mono (Fn.run A outer s H args us vs Q E0 hr he hb hv (imp _ _ _ _ hs)) fun r s' z=>?_⟩,fm,fk,fb⟩
 cases r with
 | error e =>
  obtain⟨_,_,_,_,_,_,_,_,_,_,z⟩:=z
  exact z
 | ok fl=>cases fl <;> exact z
end
end FW
namespace FW
open L2 HX
noncomputable abbrev Cx.pin (X:Cx)(pins:List (Addr × Obj))(E:Value→Shared→Prop):Cx:={ X with pn:=X.pn++pins,xe:=E }
section
variable {X:Cx}{pins:List (Addr × Obj)}{σ:L2.St}{H:Hp}{s:Shared}{E:Value→Shared→Prop}
theorem Inv.pinned (I:L2.Inv X pins σ H s)(E:Value→Shared→Prop):L2.Inv (Cx.pin X pins E) [] σ H s :=
 ⟨⟨I.ok.mod,I.ok.kind,I.ok.glob,I.ok.blt,I.ok.above,I.ok.inj,I.ok.has,I.ok.cab,I.ok.hd,I.ok.frames,I.ok.stk,I.ok.exf,I.ok.bs,I.ok.bsz,I.ok.noex,I.ok.exfs,I.ok.funs,I.ok.frf⟩,I.os,I.bare,I.base,I.loc,I.cell,I.free,I.freeC,fun p hp=>I.pin p (by rw[F4] at hp;exact hp),I.hok,I.len⟩
theorem Inv.unpin {ps:List (Addr × Obj)}(I:L2.Inv (Cx.pin X pins E) ps σ H s):L2.Inv X pins σ H s :=
 ⟨⟨I.ok.mod,I.ok.kind,I.ok.glob,I.ok.blt,I.ok.above,I.ok.inj,I.ok.has,I.ok.cab,I.ok.hd,I.ok.frames,I.ok.stk,I.ok.exf,I.ok.bs,I.ok.bsz,I.ok.noex,I.ok.exfs,I.ok.funs,I.ok.frf⟩,I.os,I.bare,I.base,I.loc,I.cell,I.free,I.freeC,fun p hp=>I.pin p (F9 _ hp),I.hok,I.len⟩
theorem SP.unpin {ps:List (Addr × Obj)}{D:L2.Ends}{f:Flow}{s':Shared}(h:SP (Cx.pin X pins E) ps D f s'):SP X pins D f s':=by
 cases f with
 | next=>obtain⟨σ',H',I,q⟩:=h;exact⟨σ',H',Inv.unpin I,q⟩
 | brk=>obtain⟨σ',H',I,q⟩:=h;exact⟨σ',H',Inv.unpin I,q⟩
 | cont=>obtain⟨σ',H',I,q⟩:=h;exact⟨σ',H',Inv.unpin I,q⟩
 | ret u=>obtain⟨v,σ',H',I,r,q⟩:=h;exact⟨v,σ',H',Inv.unpin I,r,q⟩
noncomputable abbrev Cx.hnd (X:Cx)(pins:List (Addr × Obj))(a:Addr)(o:Obj):Cx:={ X with A:=X.A.mark (some (.ref a)),calm:=false,pn:=(a,o)::(X.pn++pins),xe:=fun _ _=>False }
theorem Inv.hnd {a:Addr}{o:Obj}(I:L2.Inv X pins σ H s)(e:s.heap.get? a=some o)(n:H a=none)(hl:a≠X.env.locals)(hf:a ∉ X.fs)(hd:∀v,o.data≠.cell v):L2.Inv (Cx.hnd X pins a o) [] σ H s :=
 ⟨⟨I.ok.mod,I.ok.kind,I.ok.glob,I.ok.blt,I.ok.above,I.ok.inj,I.ok.has,I.ok.cab,(fun z=>by cases z),I.ok.frames,I.ok.stk,I.ok.exf,I.ok.bs,I.ok.bsz,I.ok.noex,I.ok.exfs,I.ok.funs,I.ok.frf⟩,I.os,I.bare,I.base,I.loc,I.cell,I.free,I.freeC,fun p hp=>by
  rw[F4] at hp
  rcases E3.mp hp with rfl|hp
  ·exact⟨e,n,hl,hf,hd⟩
  ·exact I.pin p hp,I.hok,I.len⟩
theorem Inv.unhnd {a:Addr}{o:Obj}{ps:List (Addr × Obj)}(ok:X.Ok)(I:L2.Inv (Cx.hnd X pins a o) ps σ H s):L2.Inv X pins σ H s :=
 ⟨ok,I.os,I.bare,I.base,I.loc,I.cell,I.free,I.freeC,fun p hp=>I.pin p (F9 _ (EH _ hp)),I.hok,I.len⟩
theorem uM {M:Model}{A:Around}{i:Nat}{x:Str}{pos:Pos}{Q:Unit→Shared→Prop}(I:L2.Inv X pins σ H s)(hN:X.N.Nodup)(hi:X.N[i]?=some x)(hk:X.env.scope.names.lookup x=some .local)(hkk:X.env.kindOf x=some .local)
  (h:∀s',L2.Inv X pins (σ.set i none) H s'→Q () s'):wpAny M A (do bindName X.env x .none;unbindBehindTheSuite X.env x pos) Q E s:=by
 obtain⟨m,hn,hl⟩:=id I.loc
 have hcls:(X.env.scope.kind == .class || (X.env.scope.kind == .module && X.env.locals != X.env.globals))=false:=by rw[I.ok.kind];rfl
 have cne:=I.cne
 have tracked:∀ {a:Addr}{h':Heap},(∃o,s.heap.get? a=some o∧H a=none)→Heap.SameBut a s.heap h'→HOk X.prog X.w H h':=fun {a h'} ha hs b ob e=>by
  obtain⟨_,_,hfree⟩:=ha
  refine(I.hok b ob e).stay (fun c w' hc q=>(hs.2 c ?_).trans q) (fun _ q=>q) fun _ _ q=>q
  rintro rfl
  rcases hc with rfl|hc
  ·rw[hfree] at e;cases e
  ·rw[hfree] at hc;cases hc
 refine wpAny_nameGoes_keeps hkk hn hcls fun h' v hn' hs=>?_
 obtain⟨oL,_,_,hoL,_⟩:=id hn
 refine h _ ⟨I.ok,I.os,I.bare,⟨fun b o e n hb hx=>?_,fun b o e n hb hx=>?_,I.base.free,fun b o e hx=>?_,I.base.tups,I.base.frzs,I.base.tbls⟩,⟨_,hn',fun j y v' e1 e2 e3=>?_⟩,fun y c e=>?_,I.free,I.freeC,fun p hp=>?_,tracked ⟨oL,hoL,I.free⟩ hs,by simpa using I.len⟩
 ·exact(hs.2 b (EM (EB (D8 e) I.ok.above))).trans (I.base.keep b o e n hb hx)
 ·obtain⟨sl,e1⟩:=I.base.slot b o e n hb hx
  exact⟨sl,(hs.2 b (EM (EB (D8 e) I.ok.above))).trans e1⟩
 ·obtain⟨o',e1⟩:=I.base.there b o e hx
  exact⟨o',(hs.2 b (EM (EB (D8 e) I.ok.above))).trans e1⟩
 ·by_cases hj:j=i
  ·subst hj
   rw[HE] at e2
   split at e2
   ·split at e2 <;> cases e2
   ·rename_i z;exact absurd rfl z
  ·rw[EQ (Ne.symm hj)] at e2
   obtain⟨u',r',q⟩:=hl j y v' e1 e2 e3
   refine⟨u',r',?_⟩
   rcases q with⟨k,e⟩|⟨k,c,e,z⟩
   ·refine .inl ⟨k,?_⟩
    have:y≠x:=fun e=>hj (jp hN e1 (e ▸ hi))
    simp[this,e]
   ·exact .inr ⟨k,c,e,z.sameBut hs (cne y c e)⟩
 ·obtain⟨w',z⟩:=I.cell y c e
  exact⟨w',z.sameBut hs (cne y c e)⟩
 ·obtain⟨e,n,ne,nf,d⟩:=I.pin p hp
  exact⟨(hs.2 p.1 ne).trans e,n,ne,nf,d⟩
end
theorem sE {P:Program}{w:World}{A:Around}{E:Value→Shared→Prop}{s:Shared}{fs:List Addr}{a C:Addr}{n:Heap}{H:Hp}{M:Model}{Q:Unit→Shared→Prop}
  (frH:∀b∈fs,H b=none) (hfs:∀b∈fs,∃o,s.heap.get? b=some o∧∀vs,o.data≠.fields vs) (ok:HOk P w H s.heap) (f:Fly n H s.heap a C)
  (h:∀h',wa fs n P w H a C s.heap h'→Q () { s with heap:=h' }):wpAny M A (setFlight (.ref a) none) Q E s:=by
 obtain⟨⟨oe,vs,he,hc,hd,h1⟩,hge,hH⟩:=f
 unfold setFlight
 rcases h1 with h1|⟨T,oT,ts,h1,hnT,hTa,hTH,hT,hdT,h3⟩
 ·refine D4 (wpAny_field he hd h1 ?_)
  rw[D_ (by decide)]
  refine EG (h s.heap ⟨⟨[],fun c z=>(by cases z),Un.kept fun _ _ z=>z⟩,ok,⟨⟨oe,vs,he,hc,hd,.inl h1⟩,hge,hH⟩,D7 _⟩)
 ·refine D4 (wpAny_field he hd h1 ?_)
  rw[D9 (show (Value.ref T != Value.none)=true from by simp)]
  have hsz:=(FI.mp h3).1
  refine wpAny_setField hT hdT hsz ?_
  have other:∀b,b≠T→(s.heap.update T (Obj.mapFields (·.setIfInBounds 3 ((none:Option Addr).elim Value.none fun f=>rawInt f)))).get? b=s.heap.get? b:=fun b hb=>E4 _ _ (Ne.symm hb)
  have nT:∀b∈fs,b≠T:=fun b hb q=>by
   obtain⟨o,e,z⟩:=hfs b hb
   rw[q,hT] at e;cases e;exact z ts hdT
  refine h _ ⟨⟨[T],fun c z=>(by cases EW.mp z;exact⟨hnT,hTH⟩),⟨fun b o e _ _ hx=>(other b fun q=>hx (by simp[q])).trans e,fun b o e _ hb _=>⟨o.slots,(other b (nT b hb)).trans e⟩,fun b o e hn _=>hn,fun b o e hx=>⟨o,(other b fun q=>hx (by simp[q])).trans e⟩,fun b xs e=>e,fun b o u e=>e,fun b ps e=>⟨#[],by rw[e];simp⟩⟩⟩,fun b o e=>?_,⟨⟨oe,vs,(other a (Ne.symm hTa)).trans he,hc,hd,.inr ⟨T,_,_,h1,hnT,hTa,hTH,F6 _ hT (Obj.isFreed_of_fields (Obj.data_mapFields hdT _)),Obj.data_mapFields hdT _,by simp[hsz]⟩⟩,hge,hH⟩,IA (Heap.size_after_update ..).symm⟩
  refine(ok b o e).stay (fun c u hc q=>(other c ?_).trans q) (fun c q=>q) fun c xs q=>q
  rintro rfl
  rcases hc with rfl|hc
  ·rw[hTH] at e;cases e
  ·rw[hTH] at hc;cases hc
theorem ng {M:Model}{A:Around}{E:Value→Shared→Prop}{K:W.Frag}{s:Shared}{a C C':Addr}{oe:Obj}{Q:Bool→Shared→Prop}{mg:Str→Option Value}{x y:Str}(O:OwnCls x C eo "ValueError.__new__" mg s.heap)(O':OwnCls y C' eo "ValueError.__new__" mg s.heap)
  (he:s.heap.get? a=some oe) (hcls:oe.cls=.ref C) (hin:∀o cd,s.heap.get? C=some o→o.data=.cls cd→cd.mro.contains (.ref C')=true) (hq:Q true s):wpAny M A (excMatches (.ref a) (.ref C')) Q E s:=by
 obtain⟨bm,N,nm,qn,bs,hdct,sn,sub,ab,col,dd,k0,k1,k2,k3,k5,mN,hC,hN,hni,T⟩:=O.obj
 obtain⟨bm',N',nm',qn',bs',hdct',sn',sub',ab',col',dd',l0,l1,l2,l3,l5,mN',hC',hN',hni',T'⟩:=O'.obj
 have hcC:=hin _ _ hC rfl
 dsimp only at hcC
 have hcB:(Value.ref C'::bm').contains (.type "BaseException")=true:=by rw [List.contains_cons,T'.hasType PySem.F.excBase_ValueError.hasBase,Bool.or_true]
 have f:=tc_notTuple
 obtain⟨h,g,d,t,os⟩:=s
 unfold excMatches
 repeat (first|(with_reducible refine wpAny_loadPart_at he ?_;rw[hcls])|with_reducible refine wpAny_loadPart_at hC' ?_|(with_reducible refine wpAny_isSubtype_exc hC' ?_;rw[hcB])|(with_reducible refine wpAny_isSubtype_exc hC ?_;rw[hcC])|wp_step)
 exact hq
theorem sk {X:Cx}{pins:List (Addr × Obj)}{σ:L2.St}{H1:Hp}{s1 s':Shared}{W:Addr→Hp→Prop}{e:Value}{D:L2.Ends}{Ex:Value→Shared→Prop}{y n:Str}{j:Nat}{C':Addr}{b₀:Stmt}{suite:List Stmt}{np pos:Pos}{rest:List ExceptHandler}
  (I:L2.Inv X pins σ H1 s1) (q:CXe X.prog X.w X.stack H1 s1 (fun v _ H'=>∃C,v=.ref C∧W C H') e s') (hst:X.stack=X.env::X.outer) (hfr:X.env.frame=some X.env.locals)
  (hg:Gl X y) (hdb:(y == ("__debug__":Str))=false) (hy:X.mg y=some (.ref C')) (hy2:PySem.W.excIn X.K C' eo "ValueError.__new__"=true)
  (hW:∀C H',W C H'→∃x,X.mg x=some (.ref C)∧PySem.W.excIn X.K C eo "ValueError.__new__"=true∧∃o cd,X.K.lookup C=some o∧o.data=.cls cd∧cd.mro.contains (.ref C')=true)
  (hN:X.N.Nodup) (hj:X.N[j]?=some n) (hk:X.env.scope.names.lookup n=some .local) (hkk:X.env.kindOf n=some .local)
  (hs:∀a C H' o s2,W C H'→o.cls=.ref C→L2.Inv (Cx.hnd X pins a o) [] (σ.set j (some (.ref a))) H' s2→wpAny (model X.prog X.w) (X.A.mark (some (.ref a))) (execs (b₀::suite) X.env) (SP (Cx.hnd X pins a o) [] { nx:=fun σ' H''=>D.nx (σ'.set j none) H'',rt:=fun _ _=>False }) (fun _ _=>False) s2) :
  wpAny (model X.prog X.w) X.A (noteFrame e X.env) (fun _ s₂=>wpAny (model X.prog X.w) X.A (setFlight e none) (fun _ s₃=>wpAny (model X.prog X.w) X.A (handleBy e X.env (.ExceptHandler (some (.Name y np)) (some n) (b₀::suite) pos::rest)) (SP X pins D) Ex s₃) Ex s₂) Ex s':=by
 obtain⟨a,C,H',rfl,os,bare,sz,un,hok,fl,C0,hC0,wq⟩:=q
 cases hC0
 have I':L2.Inv X pins σ H' s':=I.call' (ch:=[]) os un hok bare fun b z=>by cases z
 have aL:a≠X.env.locals:=fun z=>by
  obtain⟨m,⟨o,_,_,ho,_⟩,_⟩:=I.loc
  have:=fl.ge
  rw[z,ho] at this;cases this
 have aF:a ∉ frs X.stack:=fun z=>by
  obtain⟨_,o,ho,_⟩:=I.stack.mem z
  have:=fl.ge
  rw[ho] at this;cases this
 have aF':a ∉ X.fs:=fun z=>aF (by rw[hst];exact GG.mpr (by obtain⟨v,h1,h2⟩:=GG.mp z;exact⟨v,EH _ h1,h2⟩))
 refine nj (P:=X.prog) (w:=X.w) (n:=s1.heap) (base:=X.base) (env:=X.env) (outer:=X.outer) (by rw[←hst];exact I'.ok.frames) (by rw[←hst];exact I'.stack) hfr (by rw[←hst];exact I'.stkFree) hok sz fl fun h2 nt=>?_
 obtain⟨⟨ch,hch,un2⟩,hok2,fl2,sz2⟩:=nt
 rw[←hst] at un2
 have un3:Un (frs X.stack) [] H1 H' s1.heap h2:=Un.noted un un2 (fun _ _ _ z=>z) (fun _ z=>z) fun c hc=>(hch c hc).1
 have I2:L2.Inv X pins σ H' { s' with heap:=h2 }:=I.call' (s':={ s' with heap:=h2 }) (ch:=[]) os un3 hok2 bare fun b z=>by cases z
 obtain⟨oe,vs,he,hc,hd,_⟩:=id fl2.obj
 have nc:∀v,oe.data≠.cell v:=fun v z=>by rw[hd] at z;cases z
 have J2:=Inv.hnd I2 he fl2.fr aL aF' nc
 obtain⟨x,hx,hx2,o,cd,hKl,hcd,hmro⟩:=hW C H' wq
 refine wpAny_handleBy_cons (codeAny_handlers_test (eU (X:=Cx.hnd X pins a oe) J2 hg hy ?_ hdb)) (by intro q;cases q)
 refine ng (K:=X.K) (mg:=X.mg) (x:=x) (y:=y) (lY I2.kIn hx hx2) (lY I2.kIn hy hy2) he hc (fun o' cd' e1 e2=>?_) ?_
 ·have:=I2.kIn _ _ hKl
  rw[this] at e1;cases e1
  rw[hcd] at e2;cases e2
  exact hmro
 show codeAny _ _ _ _ _
 refine codeAny_handlers_suite_as ?_
 refine sE (P:=X.prog) (w:=X.w) (fs:=frs X.stack) (n:=s1.heap) I2.stkFree (fun b z=>?_) hok2 fl2 fun h3 nt3=>?_
 ·obtain⟨_,o,ho,hnf⟩:=I2.stack.mem z
  exact⟨o,ho,hnf⟩
 obtain⟨⟨ch3,hch3,un4⟩,hok3,fl3,sz3⟩:=nt3
 have un5:Un (frs X.stack) [] H1 H' s1.heap h3:=Un.noted un3 un4 (fun _ _ _ z=>z) (fun _ z=>z) fun c hc=>(hch3 c hc).1
 have I3:L2.Inv X pins σ H' { s' with heap:=h3 }:=I.call' (s':={ s' with heap:=h3 }) (ch:=[]) os un5 hok3 bare fun b z=>by cases z
 obtain⟨oe3,vs3,he3,hc3,hd3,_⟩:=id fl3.obj
 have nc3:∀v,oe3.data≠.cell v:=fun v z=>by rw[hd3] at z;cases z
 have J3:=Inv.hnd I3 he3 fl3.fr aL aF' nc3
 refine cB (X:=Cx.hnd X pins a oe3) (v:=.ref a) J3 hN hj (.inl hk) rfl (fun s4 J4=>?_) (.inr hk)
 refine wpAny_mono (hs a C H' oe3 s4 wq hc3 J4) (fun f s5 z=>?_) fun _ _ z=>False.elim z
 cases f with
 | next =>
  obtain⟨σ5,H5,J5,z⟩:=z
  exact uM (Inv.unhnd I3.ok J5) hN hj hk hkk fun s6 I6=>⟨_,_,I6,z⟩
 | brk=>obtain⟨_,_,_,z⟩:=z;exact False.elim z
 | cont=>obtain⟨_,_,_,z⟩:=z;exact False.elim z
 | ret u=>obtain⟨_,_,_,_,_,z⟩:=z;exact False.elim z
end FW
namespace FW
open L2 HX
open PySem.W (findIn mroIn typeIn clsIn looks_findIn looks_mroIn looks_typeIn)
structure XCl (K:W.Frag)(C:Addr):Prop where
 ga:findIn K (.ref C) "__getattribute__"=some (some (.builtin "BaseException.__getattribute__"))
 gt:findIn K (.ref C) "__getattr__"=some none
 cl:findIn K (.ref C) "__class__"=some (some (.builtin "object.__class__"))
 ob:mroIn K C (.type "object")=some true
 be:mroIn K C (.type "BaseException")=some true
 ty:typeIn K (.ref C)=some (.type "type")
 cd:∃cd,clsIn K C=some cd
section
variable {prog:Program}{w:World}{A:Around}{E:Value→Shared→Prop}{h:Heap}{g:Array GenState}{d:Drawn}{t:Nat}{os:OsState}{a C:Addr}{o:Obj}{K:W.Frag}
theorem vi {R:Result→Shared→Prop}(X:K.In h)(F:XCl K C)(hx:h.get? a=some o)(hc:o.cls=.ref C)(hq:R (.ok (.ret (.ref C))) ⟨h,g,d,t,os⟩) :
  codeAny (model prog w) A (.call (.builtin "getset_descriptor.__get__") ⟨[.builtin "object.__class__",.ref a,.ref C],[]⟩) R ⟨h,g,d,t,os⟩:=by
 have hT5:(⟨h,g,d,t,os⟩:Shared).TypeIs (.builtin "object.__class__") "getset_descriptor":=F7
 have L:W.Looks (model prog w) h (isSubtype (.ref C) (.type (".".intercalate ("object.__class__".cutAt '.').dropLast))) true:=by rw [PySem.F.owner_object_class];exact looks_mroIn X F.ob
 refine codeAny_call_builtin PySem.F.slot_gs_get.plain PySem.F.entry_gs_get (PySem.F.slot_gs_get.check _ _ _ _ _ _ _ _ hT5 (PySem.F.args_gs_get _ _ _) ?_)
 repeat (any_goals (first|assumption|(with_reducible refine wpAny_loadPart_at hx ?_;rw[hc])|with_reducible refine FU L ?_|wp_step))
 refine⟨Code.quiet_builtin _ (by decide +kernel),codeAny_builtin PySem.F.entry_object_class ?_⟩
 repeat (any_goals (first|assumption|(with_reducible refine wpAny_loadPart_at hx ?_;rw[hc])|wp_step))
theorem qX {tk:Tok}{Q:Fin→Shared→Prop}(X:K.In h)(F:XCl K C)(hx:h.get? a=some o)(hc:o.cls=.ref C)(hq:Q (.done (.ret (.ref C))) ⟨h,g,d,t,os⟩) :
  wpAny (model prog w) A (Builtin.«object.__getattribute__» ⟨[.ref a,.str "__class__" tk],[]⟩) Q E ⟨h,g,d,t,os⟩:=by
 have hT5:(⟨h,g,d,t,os⟩:Shared).TypeIs (.builtin "object.__class__") "getset_descriptor":=F7
 have L:=looks_findIn (M:=model prog w) X F.cl
 have f5:=F7
 have f6:=PySem.F.slot_gs_get.lookup
 have f7:=PySem.F.slot_gs_set.lookup
 repeat (any_goals (first|assumption|(with_reducible refine wpAny_loadPart_at hx ?_;rw[hc])|with_reducible refine FU L ?_|wp_step))
 refine vi X F hx hc ?_
 repeat (any_goals (first|assumption|wp_step))
theorem qa {M:Model}{nameV:Value}{Q:Unit→Shared→Prop}(X:K.In h)(F:XCl K C)(hx:h.get? a=some o)(hc:o.cls=.ref C)(hq:Q () ⟨h,g,d,t,os⟩):wpAny M A (checkBuiltinCall "BaseException.__getattribute__" ⟨[.ref a,nameV],[]⟩) Q E ⟨h,g,d,t,os⟩:=by
 have hk:builtinKind "BaseException.__getattribute__"=some .slot:=by decide +kernel
 have hsplit:splitId "BaseException.__getattribute__"=some ("BaseException","__getattribute__"):=by decide +kernel
 have L:=looks_mroIn (M:=M) X F.be
 have ha:=PySem.F.args_bexc_ga (.ref a) nameV
 simp only[checkBuiltinCall,hk,hsplit]
 refine D4 ?_
 unfold isInstance
 repeat (first|(with_reducible refine wpAny_loadPart_at hx ?_;rw[hc])|with_reducible refine FU L ?_|wp_step)
 exact hq
theorem sK {tk:Tok}{R:Result→Shared→Prop}(X:K.In h)(F:XCl K C)(hx:h.get? a=some o)(hc:o.cls=.ref C)(hq:R (.ok (.ret (.ref C))) ⟨h,g,d,t,os⟩) :
  codeAny (model prog w) A (.call (.builtin "BaseException.__getattribute__") ⟨[.ref a,.str "__class__" tk],[]⟩) R ⟨h,g,d,t,os⟩ :=
 codeAny_call_builtin PySem.F.attrBase_ValueError.ga.plain PySem.F.entry_bexc_ga (qa X F hx hc (qX X F hx hc hq))
theorem wZ {tk:Tok}{Q:Value→Shared→Prop}(X:K.In h)(F:XCl K C)(hx:h.get? a=some o)(hc:o.cls=.ref C)(hq:Q (.ref C) ⟨h,g,d,t,os⟩) :
  wpAny (model prog w) A (getAttrBy (.ref a) (.str "__class__" tk) false) Q E ⟨h,g,d,t,os⟩:=by
 have f3:=PySem.F.attrBase_ValueError.ga.bind (.ref a)
 have hx2:(Value.builtin "BaseException.__getattribute__" == Value.builtin "object.__getattribute__")=false:=by decide +kernel
 have hx1:(onTheHeap (Value.ref C) && Value.builtin "BaseException.__getattribute__" == Value.builtin "object.__getattribute__")=false:=by rw [hx2];rfl
 have L1:=looks_findIn (M:=model prog w) X F.ga
 have L2:=looks_findIn (M:=model prog w) X F.gt
 repeat (any_goals (first|assumption|(with_reducible refine wpAny_loadPart_at hx ?_;rw[hc])|with_reducible refine FU L1 ?_|with_reducible refine FU L2 ?_|wp_step))
 refine sK X F hx hc ?_
 repeat (any_goals (first|assumption|wp_step))
theorem tK {Q:Option Value→Shared→Prop}(X:K.In h)(F:XCl K C)(hx:h.get? a=some o)(hc:o.cls=.ref C)(hq:Q (some (.ref C)) ⟨h,g,d,t+1,os⟩):wpAny (model prog w) A (getAttr? (.ref a) "__class__") Q E ⟨h,g,d,t,os⟩:=by
 unfold getAttr? getAttrBy?
 repeat (any_goals (first|assumption|with_reducible apply wZ X F hx hc|wp_step))
theorem kN {C':Addr}{dep:Int}{tk:Tok}{Q:Fin→Shared→Prop}(X:K.In h)(F:XCl K C)(F':XCl K C')(hx:h.get? a=some o)(hc:o.cls=.ref C)(hn:mroIn K C (.ref C')=some false)(hne:C≠C')(hq:Q (.done (.ret (.bool false))) ⟨h,g,d,t+1,os⟩) :
  wpAny (model prog w) A (Builtin.«isinstance.nested» ⟨[.ref a,.ref C',.int dep tk],[]⟩) Q E ⟨h,g,d,t,os⟩:=by
 have hne':(Value.ref C == Value.ref C')=false:=by simpa using hne
 have L1:=looks_typeIn (M:=model prog w) X F'.ty
 have L2:=looks_mroIn (M:=model prog w) X hn
 obtain⟨cd',e'⟩:=F'.cd
 obtain⟨cd,e⟩:=F.cd
 unfold clsIn at e e'
 split at e'
 rotate_left
 ·cases e'
 split at e
 rotate_left
 ·cases e
 rename_i c1 d1 k1 sl1 hl1 _ c2 d2 k2 sl2 hl2
 have ho1:=X _ _ hl1
 have ho2:=X _ _ hl2
 repeat (any_goals (first|assumption|(with_reducible refine wpAny_loadPart_at hx ?_;rw[hc])|with_reducible refine FU L1 ?_|with_reducible refine FU L2 ?_|with_reducible apply tK X F hx hc|wp_step))
theorem mH {C':Addr}{dep:Int}{tk:Tok}{Q:Fin→Shared→Prop}(X:K.In h)(F':XCl K C')(hx:h.get? a=some o)(hc:o.cls=.ref C)(hn:mroIn K C (.ref C')=some true)(hq:Q (.done (.ret (.bool true))) ⟨h,g,d,t,os⟩) :
  wpAny (model prog w) A (Builtin.«isinstance.nested» ⟨[.ref a,.ref C',.int dep tk],[]⟩) Q E ⟨h,g,d,t,os⟩:=by
 have L1:=looks_typeIn (M:=model prog w) X F'.ty
 have L2:=looks_mroIn (M:=model prog w) X hn
 obtain⟨cd',e'⟩:=F'.cd
 unfold clsIn at e'
 split at e'
 rotate_left
 ·cases e'
 rename_i c1 d1 k1 sl1 hl1
 have ho1:=X _ _ hl1
 by_cases hne:C=C'
 ·subst hne
  have hne':(Value.ref C == Value.ref C)=true:=by simp
  repeat (any_goals (first|assumption|(with_reducible refine wpAny_loadPart_at hx ?_;rw[hc])|wp_step))
 ·have hne':(Value.ref C == Value.ref C')=false:=by simpa using hne
  repeat (any_goals (first|assumption|(with_reducible refine wpAny_loadPart_at hx ?_;rw[hc])|with_reducible refine FU L1 ?_|with_reducible refine FU L2 ?_|wp_step))
theorem sd {T:String}{dep:Int}{tk:Tok}{Q:Fin→Shared→Prop}(X:K.In h)(hx:h.get? a=some o)(hc:o.cls=.ref C)(hn:mroIn K C (.type T)=some true)(hty:typeOf (.type T)=pure (.type "type"))(hq:Q (.done (.ret (.bool true))) ⟨h,g,d,t,os⟩) :
  wpAny (model prog w) A (Builtin.«isinstance.nested» ⟨[.ref a,.type T,.int dep tk],[]⟩) Q E ⟨h,g,d,t,os⟩:=by
 have L2:=looks_mroIn (M:=model prog w) X hn
 have hne':(Value.ref C == Value.type T)=false:=by simp
 repeat (any_goals (first|assumption|(with_reducible refine wpAny_loadPart_at hx ?_;rw[hc])|with_reducible refine FU L2 ?_|wp_step))
theorem ul {P:Shared→Prop}(hP:∀s tk,P s→P { s with toks:=tk }){tp:Addr}{ob:Obj}{n:Nat}{cs:List Value}{vs:List Bool}{tk:Tok}{s:Shared}{Q:Fin→Shared→Prop}
  (hx:s.heap.get? a=some o) (hc:o.cls=.ref C) (hne:C≠tp) (htp:s.heap.get? tp=some ob) (hcl:ob.cls=.type "tuple") (hdt:ob.data=.seq cs.toArray n) (ha:AnswersAll P (.ref a) cs vs) (hs:P s)
  (hq:∀tk',Q (.done (.ret (.bool (vs.any id)))) { s with toks:=tk' }):wpAny (model prog w) A (Builtin.«isinstance.nested» ⟨[.ref a,.ref tp,.int 0 tk],[]⟩) Q E s:=by
 obtain⟨h,g,d,t,os⟩:=s
 have hT2:(⟨h,g,d,t,os⟩:Shared).TypeIs (.ref tp) "tuple":=⟨_,htp,hcl⟩
 have f1:=PySem.F.isi_sub_tuple
 have hne':(Value.ref C == Value.ref tp)=false:=by simpa using hne
 repeat (any_goals (first|assumption|(with_reducible refine wpAny_loadPart_at hx ?_;rw[hc])|with_reducible refine wpAny_seqItems htp hdt ?_|wp_step))
 refine wpAny_arrayLoop ?_
 simp only[Option.getD_some,List.toList_toArray]
 refine isinstance_items (dep:=0) hP cs vs _ _ ha hs fun tk'=>?_
 cases hv:vs.any id with
 | true =>
  simp only[if_true]
  repeat (any_goals (first|assumption|wp_step))
  exact hv ▸ hq tk'
 | false =>
  simp only[Bool.false_eq_true,if_false]
  repeat (any_goals (first|assumption|wp_step))
  exact hv ▸ hq tk'
variable {s:Shared}{Q:Value→Shared→Prop}
theorem ml {C':Addr}(X:K.In s.heap)(F':XCl K C')(hx:s.heap.get? a=some o)(hc:o.cls=.ref C)(hn:mroIn K C (.ref C')=some true)(hq:Q (.bool true) s):wpAny (model prog w) A (call (.builtin "isinstance") [.ref a,.ref C']) Q E s :=
 call_isinstance (S:=fun _ R s=>(K.In s.heap∧s.heap.get? a=some o)∧R (.ok (.ret (.bool true))) s) (fun _ _ _ _ s hs=>by
  obtain⟨h,g,d,t,os⟩:=s
  exact isinstance_outer (mH hs.1.1 F' hs.1.2 hc hn hs.2) (by intro e;cases e)) ⟨⟨X,hx⟩,hq⟩
theorem kd {T:String}(X:K.In s.heap)(hx:s.heap.get? a=some o)(hc:o.cls=.ref C)(hn:mroIn K C (.type T)=some true)(hty:typeOf (.type T)=pure (.type "type"))(hq:Q (.bool true) s):wpAny (model prog w) A (call (.builtin "isinstance") [.ref a,.type T]) Q E s :=
 call_isinstance (S:=fun _ R s=>(K.In s.heap∧s.heap.get? a=some o)∧R (.ok (.ret (.bool true))) s) (fun _ _ _ _ s hs=>by
  obtain⟨h,g,d,t,os⟩:=s
  exact isinstance_outer (sd hs.1.1 hs.1.2 hc hn hty hs.2) (by intro e;cases e)) ⟨⟨X,hx⟩,hq⟩
def PIs (K:W.Frag)(a:Addr)(o:Obj)(s:Shared):Prop:=K.In s.heap∧s.heap.get? a=some o
theorem y7 {C':Addr}(F:XCl K C)(F':XCl K C')(hc:o.cls=.ref C)(hn:mroIn K C (.ref C')=some false)(hne:C≠C'):Answers (PIs K a o) (.ref a) (.ref C') false:=fun _ _ _ _ _ _ s hs=>by
 obtain⟨h,g,d,t,os⟩:=s
 exact kN hs.1.1 F F' hs.1.2 hc hn hne (hs.2 (t+1))
theorem me {tp:Addr}{ob:Obj}{n:Nat}{cs:List Value}{vs:List Bool}(X:K.In s.heap)(hx:s.heap.get? a=some o)(hc:o.cls=.ref C)(hne:C≠tp)(htp:s.heap.get? tp=some ob)(hcl:ob.cls=.type "tuple")(hdt:ob.data=.seq cs.toArray n)(ha:AnswersAll (PIs K a o) (.ref a) cs vs)
  (hq:∀tk,Q (.bool (vs.any id)) { s with toks:=tk }):wpAny (model prog w) A (call (.builtin "isinstance") [.ref a,.ref tp]) Q E s :=
 call_isinstance (S:=fun _ R s=>(PIs K a o s∧s.heap.get? tp=some ob)∧∀tk,R (.ok (.ret (.bool (vs.any id)))) { s with toks:=tk }) (fun _ _ _ _ s hs=>isinstance_outer (ul (fun _ _ z=>z) hs.1.1.2 hc hne hs.1.2 hcl hdt ha hs.1.1 hs.2) (by intro e;cases e)) ⟨⟨⟨X,hx⟩,htp⟩,hq⟩
end
end FW
namespace FW
open L2 HX
open PySem.W (findIn mroIn typeIn clsIn)
structure XT (K:W.Frag)(mg:Str→Option Value)(xs ys:List Str)(ca da:Nat→Addr)(rel:Nat→Nat→Bool):Prop where
 y:∀i x,ys[i]?=some x→mg x=some (.ref (da i))∧XCl K (da i)
 x:∀k,k<xs.length→XCl K (ca k)∧mroIn K (ca k) (.type "ValueError")=some true
 rl:∀k i,k<xs.length→i<ys.length→mroIn K (ca k) (.ref (da i))=some (rel k i)∧(rel k i=false→ca k≠da i)
inductive HA where
 | str (x:Str)|bl (b:Bool)|var (i:Nat)|isv|iso (i:Nat)|isos (is:List Nat)
inductive HS where
 | set (i:Nat) (a:HA)|setT (i:Nat) (as:List HA)
noncomputable def hv (rel:Nat→Bool)(ρ:Fr):HA→Option PV
 | .str x=>some (.str x)
 | .bl b=>some (.bl b)
 | .var i=>ρ[i]?.join
 | .isv=>some (.bl true)
 | .iso i=>some (.bl (rel i))
 | .isos is=>some (.bl (is.any rel))
noncomputable def hvs (rel:Nat→Bool)(ρ:Fr):List HA→Option (List PV)
 | []=>some []
 | a::as=>match hv rel ρ a,hvs rel ρ as with
  | some v,some vs=>some (v::vs)
  | _,_=>none
noncomputable def ma (rel:Nat→Bool):List HS→Fr→Option Fr
 | [],ρ=>some ρ
 | .set i a::r,ρ=>match hv rel ρ a with
  | some v=>ma rel r (ρ.set i (some v))
  | none=>none
 | .setT i as::r,ρ=>match hvs rel ρ as with
  | some vs=>ma rel r (ρ.set i (some (.tup vs)))
  | none=>none
noncomputable def nl (x:Expr)(f:Str→Str→Expr→Bool):Bool:=match x with
 | .Call (.Name g _) [.Name e _,r] [] _=>f g e r
 | _=>false
theorem ic {x:Expr}{f:Str→Str→Expr→Bool}(h:nl x f=true):∃g gp e ep r p,x=.Call (.Name g gp) [.Name e ep,r] [] p∧f g e r=true:=by
 unfold nl at h
 split at h
 ·exact⟨_,_,_,_,_,_,rfl,h⟩
 ·cases h
noncomputable def sA (c:Cfg)(ys:List Str):List Nat→List Expr→Bool
 | [],xs=>xs.isEmpty
 | i::is,xs=>cr xs fun x r=>al x fun z _=>ys[i]? == some z && c.glb z && sA c ys is r
noncomputable def xL (c:Cfg)(ys:List Str)(j:Nat):HA→Expr→Bool
 | .str i,x=>jA x fun j=>i == j
 | .bl i,x=>yz x fun j=>i == j
 | .var i,x=>al x fun y _=>c.N[i]? == some y && c.vis y
 | .isv,x=>nl x fun g e r=>al r fun z _=>g == ("isinstance":Str) && c.blt g && c.N[j]? == some e && c.vis e && z == ("ValueError":Str) && c.blt z
 | .iso i,x=>nl x fun g e r=>al r fun z _=>g == ("isinstance":Str) && c.blt g && c.N[j]? == some e && c.vis e && ys[i]? == some z && c.glb z
 | .isos is,x=>nl x fun g e r=>bW r fun zs=>g == ("isinstance":Str) && c.blt g && c.N[j]? == some e && c.vis e && decide (is.length≤1000) && sA c ys is zs
noncomputable def tO (c:Cfg)(ys:List Str)(j:Nat):List HA→List Expr→Bool
 | [],xs=>xs.isEmpty
 | a::as,xs=>cr xs fun x r=>ag x && xL c ys j a x && tO c ys j as r
noncomputable def A4 (c:Cfg)(ys:List Str)(j:Nat):HS→Stmt→Bool
 | .set i a,x=>kD x fun t v=>al t fun y _=>c.N[i]? == some y && c.loc y && i != j && ip v && xL c ys j a v
 | .setT i as,x=>kD x fun t v=>al t fun y _=>c.N[i]? == some y && c.loc y && i != j && bW v fun vs=>decide (as.length≤1000) && tO c ys j as vs
noncomputable def lD (c:Cfg)(ys:List Str)(j:Nat):List HS→List Stmt→Bool
 | [],xs=>xs.isEmpty
 | a::as,xs=>cr xs fun x r=>A4 c ys j a x && lD c ys j as r
section
variable {X:Cx}{c:Cfg}{Γ:Nat→FSp}{xs ys:List Str}{ca da:Nat→Addr}{rel:Nat→Nat→Bool}{k j:Nat}{pins:List (Addr × Obj)}{ad:Addr}{o:Obj}
theorem B_:typeOf (.type "ValueError")=pure (.type "type"):=by first|rfl|(simp[typeOf];rfl)|kernel_rfl
theorem uj:bootBuiltins ("ValueError":Str)=some (.type "ValueError"):=by decide +kernel
noncomputable def THx (K:W.Frag)(j:Nat)(ad:Addr)(f:Fr→Option PV):TE:=fun σ H Q=>σ[j]?=some (some (.ref ad))∧∃m ρ st v,RF K m H ρ σ∧RH K m H st∧f ρ=some v∧post K m H Q v st
noncomputable def THs (K:W.Frag)(j:Nat)(ad:Addr)(f:Fr→Option (List PV)):TA:=fun σ H Q=>σ[j]?=some (some (.ref ad))∧∃m ρ st v,RF K m H ρ σ∧RH K m H st∧f ρ=some v∧wl K m H Q v st
theorem wA (C:COk X.nox c Γ)(T:XT X.K X.mg xs ys ca da rel):∀(is:List Nat) (zs:List Expr),sA c ys is zs=true→PA (Cx.hnd X pins ad o) zs (fun σ H Q=>Q (is.map fun i=>.ref (da i)) H)∧∀i∈is,i<ys.length
 | [],zs,h=>by
  have h:zs.isEmpty=true:=h
  cases zs with
  | nil=>exact⟨bH,fun i z=>by cases z⟩
  | cons _ _=>cases h
 | i::is,zs,h=>by
  replace h:=ai h
  obtain⟨x,r,rfl,h⟩:=h
  replace h:=af h
  obtain⟨z,p,rfl,h⟩:=h
  simp only[Bool.and_eq_true,beq_iff_eq] at h
  obtain⟨⟨h1,h2⟩,h3⟩:=h
  obtain⟨g1,g2,g3⟩:=C.glbx h2
  obtain⟨a1,a2⟩:=wA C T is r h3
  refine⟨pac (mi (X:=Cx.hnd X pins ad o) (v:=.ref (da i)) g1 (T.y i z h1).1 rfl g2) a1 rfl,fun i' hi=>?_⟩
  rcases E3.mp hi with rfl|hi
  ·exact(D3.mp h1).1
  ·exact a2 i' hi
theorem kT {f:Nat→Addr}:∀ {is:List Nat}{us:List Value},Vals (is.map fun i=>V.ref (f i)) us→us=is.map fun i=>Value.ref (f i)
 | [],us,r=>by cases r;rfl
 | i::is,us,r=>by
  cases r with
  | cons a b =>
   rw[kT b]
   cases (show _=Value.ref (f i) from a)
   rfl
theorem jP {K:W.Frag}{C:Addr}{f:Nat→Addr}{g:Nat→Bool}(hc:o.cls=.ref C)(F:XCl K C):∀(is:List Nat),(∀i∈is,XCl K (f i)∧mroIn K C (.ref (f i))=some (g i)∧(g i=false→C≠f i))→AnswersAll (PIs K ad o) (.ref ad) (is.map fun i=>.ref (f i)) (is.map g)
 | [],_=>trivial
 | i::is,h=>by
  refine⟨?_,jP hc F is fun i' hi=>h i' (EH _ hi)⟩
  obtain⟨h1,h2,h3⟩:=h i (.head _)
  cases q:g i with
  | false=>rw[q] at h2;exact y7 F h1 hc h2 (h3 q)
  | true =>
   rw[q] at h2
   exact fun _ _ _ _ _ _ s hs=>by
    obtain⟨h,g,d,t,os⟩:=s
    exact mH hs.1.1 h1 hs.1.2 hc h2 (hs.2 t)
theorem v_ (C:COk X.nox c Γ)(T:XT X.K X.mg xs ys ca da rel)(hk:k<xs.length)(hc:o.cls=.ref (ca k)):∀(a:HA) (x:Expr),xL c ys j a x=true→PE (Cx.hnd X pins ad o) x (THx X.K j ad fun ρ=>hv (rel k) ρ a)
 | .str i,x,h=>by
  replace h:=fo h
  obtain⟨j,q,p,rfl,h⟩:=h
  rw[GR] at h;subst h
  rintro pins s σ H Q I ⟨_,m,ρ,st,v,rf,rh,e,w⟩
  cases e
  exact jt pins s σ H Q I (w.here rh (R_str.mpr rfl))
 | .bl i,x,h=>by
  replace h:=nF h
  obtain⟨j,q,p,rfl,h⟩:=h
  rw[GR] at h;subst h
  rintro pins s σ H Q I ⟨_,m,ρ,st,v,rf,rh,e,w⟩
  cases e
  exact wt pins s σ H Q I (w.here rh (R_bl.mpr rfl))
 | .var i,x,h=>by
  replace h:=af h
  obtain⟨y,p,rfl,h⟩:=h
  simp only[Bool.and_eq_true,beq_iff_eq] at h
  obtain⟨h1,h2,h3⟩:=C.visx h.2
  rintro ps s σ H Q I ⟨_,m,ρ,st,v,rf,rh,e,w⟩
  have e':ρ[i]?=some (some v):=by
   have e:ρ[i]?.join=some v:=e
   cases z:ρ[i]? with
   | none=>rw[z] at e;cases e
   | some u=>rw[z] at e;cases u with
    | none=>cases e
    | some u=>rw[show u=v from EU e]
  obtain⟨y,e2,r⟩:=rf.at_ i v e'
  exact jg (X:=Cx.hnd X pins ad o) (by have:=C.N;exact(ES (fun l=>l[i]?) this).trans h.1) h1 h2 h3 ps s σ H Q I ⟨y,e2,w.here rh r⟩
 | .isv,x,h=>by
  replace h:=ic h
  obtain⟨g,gp,e,ep,r,p,rfl,h⟩:=h
  replace h:=af h
  obtain⟨z,zp,rfl,h⟩:=h
  simp only[Bool.and_eq_true,beq_iff_eq] at h
  obtain⟨⟨⟨⟨⟨h1,h2⟩,h3⟩,h4⟩,h5⟩,h6⟩:=h
  subst h1 h5
  obtain⟨a1,a2,a3,a4⟩:=C.bltx h2
  obtain⟨b1,b2,b3,b4⟩:=C.bltx h6
  obtain⟨v1,v2,v3⟩:=C.visx h4
  rintro ps s σ H Q I ⟨hj,m,ρ,st,v,rf,rh,e,w⟩
  cases e
  have hA:PA (Cx.hnd X pins ad o) [.Name _ ep,.Name ("ValueError":Str) zp] (b7 (uu j) (b7 (tC (.ty "ValueError")) iY)):=pac (jg (X:=Cx.hnd X pins ad o) (by have:=C.N;exact (ES (fun l=>l[j]?) this).trans h3) v1 v2 v3) (pac (pM (X:=Cx.hnd X pins ad o) b1 b4 uj rfl b3 b2) bH rfl) rfl
  have hC:bX (Cx.hnd X pins ad o) (.builtin "isinstance") (fun xs H Q=>xs=[.ref ad,.ty "ValueError"]∧Q (.bl true) H):=by
   rintro ps s σ H xs us Q I r ⟨rfl,q⟩
   obtain⟨u,v,rfl,ru,rv⟩:=jH r
   cases (show u=Value.ref ad from ru)
   cases (show v=Value.type "ValueError" from rv)
   exact kd (K:=X.K) I.kIn (I.pin (ad,o) (.head _)).1 hc (T.x k hk).2 B_ ⟨.bl true,H,I,rfl,q⟩
  refine dJ (X:=Cx.hnd X pins ad o) hC a1 a4 dj hA a3 a2 rfl rfl ps s σ H Q I ?_
  exact⟨.ref ad,hj,rfl,w.here rh (R_bl.mpr rfl)⟩
 | .iso i,x,h=>by
  replace h:=ic h
  obtain⟨g,gp,e,ep,r,p,rfl,h⟩:=h
  replace h:=af h
  obtain⟨z,zp,rfl,h⟩:=h
  simp only[Bool.and_eq_true,beq_iff_eq] at h
  obtain⟨⟨⟨⟨⟨h1,h2⟩,h3⟩,h4⟩,h5⟩,h6⟩:=h
  subst h1
  obtain⟨a1,a2,a3,a4⟩:=C.bltx h2
  obtain⟨b1,b2,b3⟩:=C.glbx h6
  obtain⟨v1,v2,v3⟩:=C.visx h4
  have hi:=(D3.mp h5).1
  rintro ps s σ H Q I ⟨hj,m,ρ,st,v,rf,rh,e,w⟩
  cases e
  have hA:PA (Cx.hnd X pins ad o) [.Name _ ep,.Name z zp] (b7 (uu j) (b7 (tC (.ref (da i))) iY)):=pac (jg (X:=Cx.hnd X pins ad o) (by have:=C.N;exact(ES (fun l=>l[j]?) this).trans h3) v1 v2 v3) (pac (mi (X:=Cx.hnd X pins ad o) (v:=.ref (da i)) b1 (T.y i z h5).1 rfl b2) bH rfl) rfl
  have hC:bX (Cx.hnd X pins ad o) (.builtin "isinstance") (fun xs H Q=>xs=[.ref ad,.ref (da i)]∧Q (.bl (rel k i)) H):=by
   rintro ps s σ H xs us Q I r ⟨rfl,q⟩
   obtain⟨u,v,rfl,ru,rv⟩:=jH r
   cases (show u=Value.ref ad from ru)
   cases (show v=Value.ref (da i) from rv)
   obtain⟨e1,e2⟩:=T.rl k i hk hi
   cases hr:rel k i with
   | true=>rw[hr] at e1 q;exact ml (K:=X.K) I.kIn (T.y i z h5).2 (I.pin (ad,o) (.head _)).1 hc e1 ⟨.bl true,H,I,rfl,q⟩
   | false =>
    rw[hr] at e1 q
    exact call_isinstance (S:=fun _ R s=>PIs X.K ad o s∧∀tk,R (.ok (.ret (.bool false))) { s with toks:=tk }) (fun _ _ _ _ s hs=>by
     obtain⟨h,g,d,t,os⟩:=s
     exact isinstance_outer (kN hs.1.1 (T.x k hk).1 (T.y i z h5).2 hs.1.2 hc e1 (e2 hr) (hs.2 (t+1))) (by intro e;cases e)) ⟨⟨I.kIn,(I.pin (ad,o) (.head _)).1⟩,fun tk=>⟨.bl false,H,I.tok tk,rfl,q⟩⟩
  refine dJ (X:=Cx.hnd X pins ad o) hC a1 a4 dj hA a3 a2 rfl rfl ps s σ H Q I ?_
  exact⟨.ref ad,hj,rfl,w.here rh (R_bl.mpr rfl)⟩
 | .isos is,x,h=>by
  replace h:=ic h
  obtain⟨g,gp,e,ep,r,p,rfl,h⟩:=h
  replace h:=aI h
  obtain⟨zs,zk,zp,rfl,h⟩:=h
  simp only[Bool.and_eq_true,beq_iff_eq,decide_eq_true_eq] at h
  obtain⟨⟨⟨⟨⟨h1,h2⟩,h3⟩,h4⟩,h5⟩,h6⟩:=h
  subst h1
  obtain⟨a1,a2,a3,a4⟩:=C.bltx h2
  obtain⟨v1,v2,v3⟩:=C.visx h4
  obtain⟨n1,n2⟩:=wA (pins:=pins) (ad:=ad) (o:=o) C T is zs h6
  rintro ps s σ H Q I ⟨hj,m,ρ,st,v,rf,rh,e,w⟩
  cases e
  have hA:PA (Cx.hnd X pins ad o) [.Name _ ep,.Tuple zs zk zp] (b7 (uu j) (b7 (zH fun σ H Q=>Q (is.map fun i=>.ref (da i)) H) iY)):=pac (jg (X:=Cx.hnd X pins ad o) (by have:=C.N;exact(ES (fun l=>l[j]?) this).trans h3) v1 v2 v3) (pac (lw n1) bH rfl) rfl
  have hC:bX (Cx.hnd X pins ad o) (.builtin "isinstance") (fun xs H Q=>∃p,xs=[.ref ad,.ref p]∧H p=some (.tup (is.map fun i=>.ref (da i)))∧Q (.bl (is.any (rel k))) H):=by
   rintro ps s σ H xs us Q I r ⟨p,rfl,hp,q⟩
   obtain⟨u,v,rfl,ru,rv⟩:=jH r
   cases (show u=Value.ref ad from ru)
   cases (show v=Value.ref p from rv)
   obtain⟨_,its,r,ob,e1,e2,n,e3⟩:=I.hok p _ hp
   rw[kT r] at e3
   have FC:=(T.x k hk).1
   have hne:ca k≠p:=fun z=>by
    obtain⟨cd,ec⟩:=FC.cd
    unfold clsIn at ec
    split at ec
    ·rename_i hl
     have:=I.kIn _ _ hl
     rw[z,e1] at this
     cases this
     cases e3
    ·cases ec
   refine me (K:=X.K) (vs:=is.map (rel k)) I.kIn (I.pin (ad,o) (.head _)).1 hc hne e1 e2 e3 (jP hc FC is fun i hi=>?_) fun tk=>⟨.bl _,H,I.tok tk,rfl,?_⟩
   ·obtain⟨r1,r2⟩:=T.rl k i hk (n2 i hi)
    exact⟨(T.y i _ (EZ (n2 i hi))).2,r1,r2⟩
   ·rw[List.any_map];exact q
  refine dJ (X:=Cx.hnd X pins ad o) hC a1 a4 dj hA a3 a2 rfl rfl ps s σ H Q I ?_
  refine⟨.ref ad,hj,?_,fun p hp=>⟨p,rfl,av,?_⟩⟩
  ·rw[EN];exact EX h5 (by decide)
  ·exact w m _ _ (Ext.newT rh hp) (rh.newT hp) (R_bl.mpr rfl)
theorem rj (C:COk X.nox c Γ)(T:XT X.K X.mg xs ys ca da rel)(hk:k<xs.length)(hc:o.cls=.ref (ca k)):∀(as:List HA) (zs:List Expr),tO c ys j as zs=true→PA (Cx.hnd X pins ad o) zs (THs X.K j ad fun ρ=>hvs (rel k) ρ as)
 | [],zs,h=>by
  have h:zs.isEmpty=true:=h
  cases zs with
  | nil =>
   rintro pos ps s σ H Q I ⟨_,m,ρ,st,v,rf,rh,e,w⟩
   cases e
   exact bH pos ps s σ H Q I (w m H [] (Ext.refl _ _ _) rh (Rs_nil.mpr rfl))
  | cons _ _=>cases h
 | a::as,zs,h=>by
  replace h:=ai h
  obtain⟨x,r,rfl,h⟩:=h
  simp only[Bool.and_eq_true] at h
  obtain⟨⟨h1,h2⟩,h3⟩:=h
  rintro pos ps s σ H Q I ⟨hj,m,ρ,st,v,rf,rh,e,w⟩
  have e:(match hv (rel k) ρ a,hvs (rel k) ρ as with
   | some v,some vs=>some (v::vs)
   | _,_=>none)=some v:=e
  cases e1:hv (rel k) ρ a with
  | none=>rw[e1] at e;cases e
  | some u =>
   cases e2:hvs (rel k) ρ as with
   | none=>rw[e1,e2] at e;cases e
   | some us =>
    rw[e1,e2] at e
    cases e
    refine pac (v_ C T hk hc a x h2) (rj C T hk hc as r h3) h1 pos ps s σ H Q I ⟨hj,m,ρ,st,u,rf,rh,e1,fun m1 H1 y x1 r1 r2=>⟨hj,m1,ρ,st,us,rf.mono x1,r1,e2,fun m2 H2 ys x2 r3 r4=>?_⟩⟩
    exact w m2 H2 _ (x1.trans x2) r3 (Rs_cons'.mpr ⟨r2.mono x2,r4⟩)
theorem tq (C:COk X.nox c Γ)(T:XT X.K X.mg xs ys ca da rel)(hk:k<xs.length)(hc:o.cls=.ref (ca k)):∀(l:List HS) (zs:List Stmt),lD c ys j l zs=true →
  PSs (Cx.hnd X pins ad o) zs (fun D σ H=>σ[j]?=some (some (.ref ad))∧∃m ρ st ρ',RF X.K m H ρ σ∧RH X.K m H st∧ma (rel k) l ρ=some ρ'∧postF X.K m H D.nx ρ' st)
 | [],zs,h=>by
  have h:zs.isEmpty=true:=h
  cases zs with
  | nil =>
   rintro ps s σ H D I ⟨hj,m,ρ,st,ρ',rf,rh,e,w⟩
   cases e
   exact o7 ps s σ H D I (w.here rh rf)
  | cons _ _=>cases h
 | .set i a::l,zs,h=>by
  replace h:=ai h
  obtain⟨x,r,rfl,h⟩:=h
  rw[D6] at h
  obtain⟨h0,h9⟩:=h
  replace h0:=dH h0
  obtain⟨tg,v,pos,rfl,h⟩:=h0
  replace h:=af h
  obtain⟨y,yp,rfl,h⟩:=h
  simp only[Bool.and_eq_true,beq_iff_eq,bne_iff_ne,ne_eq] at h
  obtain⟨⟨⟨⟨h1,h2⟩,h3⟩,h4⟩,h5⟩:=h
  obtain⟨g1,g2⟩:=C.locx h2
  rintro ps s σ H D I ⟨hj,m,ρ,st,ρ',rf,rh,e,w⟩
  rw[ma] at e
  cases e1:hv (rel k) ρ a with
  | none=>rw[e1] at e;cases e
  | some u =>
   rw[e1] at e
   refine jo (gU (X:=Cx.hnd X pins ad o) (i:=i) C.ndX (by have:=C.N;exact(ES (fun l=>l[i]?) this).trans h1) g1 (v_ C T hk hc a v h5) (br h4) g2) (tq C T hk hc l r h9) ps s σ H D I ⟨hj,m,ρ,st,u,rf,rh,e1,fun m1 H1 z x1 r1 r2=>?_⟩
   exact⟨by rw[EQ h3];exact hj,m1,ρ.set i (some u),st,ρ',(rf.mono x1).set i r2,r1,e,w.ext x1⟩
 | .setT i as::l,zs,h=>by
  replace h:=ai h
  obtain⟨x,r,rfl,h⟩:=h
  rw[D6] at h
  obtain⟨h0,h9⟩:=h
  replace h0:=dH h0
  obtain⟨tg,v,pos,rfl,h⟩:=h0
  replace h:=af h
  obtain⟨y,yp,rfl,h⟩:=h
  simp only[Bool.and_eq_true,beq_iff_eq,bne_iff_ne,ne_eq] at h
  obtain⟨⟨⟨h1,h2⟩,h3⟩,h5⟩:=h
  replace h5:=aI h5
  obtain⟨vs,vk,vp,rfl,h5⟩:=h5
  rw[D6,decide_eq_true_eq] at h5
  obtain⟨h4,h5⟩:=h5
  obtain⟨g1,g2⟩:=C.locx h2
  rintro ps s σ H D I ⟨hj,m,ρ,st,ρ',rf,rh,e,w⟩
  rw[ma] at e
  cases e1:hvs (rel k) ρ as with
  | none=>rw[e1] at e;cases e
  | some u =>
   rw[e1] at e
   have hl:∀(as:List HA) (u:List PV),hvs (rel k) ρ as=some u→u.length=as.length:=by
    intro as
    induction as with
    | nil=>intro u e;cases e;rfl
    | cons a as ih =>
     intro u e
     rw[hvs] at e
     cases q1:hv (rel k) ρ a with
     | none=>rw[q1] at e;cases e
     | some v1 =>
      cases q2:hvs (rel k) ρ as with
      | none=>rw[q1,q2] at e;cases e
      | some v2=>rw[q1,q2] at e;cases e;rw[FL,ih _ q2,FL]
   refine jo (gU (X:=Cx.hnd X pins ad o) (i:=i) C.ndX (by have:=C.N;exact(ES (fun l=>l[i]?) this).trans h1) g1 (lw (rj C T hk hc as vs h5)) (br rfl) g2) (tq C T hk hc l r h9) ps s σ H D I ⟨hj,m,ρ,st,u,rf,rh,e1,fun m1 H1 z x1 r1 r2=>⟨?_,fun p hp=>?_⟩⟩
   ·rw[←r2.len,hl as u e1];exact EX h4 (by decide)
   ·have x2:=Ext.newT (o:=.tup z) r1 hp
    exact⟨by rw[EQ h3];exact hj,m1,ρ.set i (some (.tup u)),st,ρ',(rf.mono (x1.trans x2)).set i (R_tup.mpr ⟨p,z,rfl,SqT.of av,r2.mono x2⟩),r1.newT hp,e,w.ext (x1.trans x2)⟩
end
end FW
namespace FW
open L2 HX
open PySem.W (findIn mroIn typeIn clsIn)
inductive TSs where
 | nil|st (s:S) (r:TSs)|tr (i:Nat) (w:Str) (f:Nat) (es:Es) (j:Nat) (hs:List HS) (r:TSs)
noncomputable def cE (Γ ΓR:Nat→FSp)(n:Nat)(rel:Nat→Nat→Bool):TSs→Fr→AH→aA→Prop
 | .nil,ρ,st,D=>D.nx ρ st
 | .st s r,ρ,st,D=>wpS Γ s ρ st { D with nx:=fun ρ1 st1=>cE Γ ΓR n rel r ρ1 st1 D }
 | .tr i w f es j hs r,ρ,st,D=>bh Γ es ρ st fun vs st1=>ΓR f vs st1 (jd (fun v st2=>cE Γ ΓR n rel r (ρ.set i (some (.tup [.str w,v]))) st2 D)
   fun k st2=>k<n∧rel k 0=true∧∃ρ',ma (rel k) hs (ρ.set j none)=some ρ'∧cE Γ ΓR n rel r (ρ'.set j none) st2 D)
theorem b_ {Γ ΓR:Nat→FSp}{n:Nat}{rel:Nat→Nat→Bool}(G:aO Γ)(G':aO ΓR):∀(s:TSs) {ρ:Fr}{st:AH}{D D':aA},eg D D'→cE Γ ΓR n rel s ρ st D→cE Γ ΓR n rel s ρ st D'
 | .nil,ρ,st,D,D',hD,h=>hD.nx _ _ h
 | .st s r,ρ,st,D,D',hD,h=>by
  rw[cE] at h ⊢
  exact eK G s (D:={ D with nx:=fun ρ1 st1=>cE Γ ΓR n rel r ρ1 st1 D }) (D':={ D' with nx:=fun ρ1 st1=>cE Γ ΓR n rel r ρ1 st1 D' }) ⟨fun _ _ z=>b_ G G' r hD z,hD.rt,hD.bk,hD.ct⟩ h
 | .tr i w f es j hs r,ρ,st,D,D',hD,h=>by
  rw[cE] at h ⊢
  exact ar G es (fun vs st1 z=>G' _ _ _ _ _ (ce (fun v st2 z=>b_ G G' r hD z) fun k st2 ⟨a,b,ρ',c,d⟩=>⟨a,b,ρ',c,b_ G G' r hD d⟩) z) h
noncomputable def tV (x:Stmt)(f:Stmt→Expr→Str→Stmt→List Stmt→Bool):Bool:=match x with
 | .Try [b] [.ExceptHandler (some e) (some n) (s₀::s) _] [] [] _=>f b e n s₀ s
 | _=>false
theorem qd {x:Stmt}{f:Stmt→Expr→Str→Stmt→List Stmt→Bool}(h:tV x f=true):∃b e n s₀ s hp pos,x=.Try [b] [.ExceptHandler (some e) (some n) (s₀::s) hp] [] [] pos∧f b e n s₀ s=true:=by
 unfold tV at h
 split at h
 ·exact⟨_,_,_,_,_,_,_,rfl,h⟩
 ·cases h
noncomputable def lz (x:Expr)(f:Str→Expr→List Expr→Bool):Bool:=match x with
 | .Call (.Name g _) (a::as) [] _=>f g a as
 | _=>false
theorem mZ {x:Expr}{f:Str→Expr→List Expr→Bool}(h:lz x f=true):∃g gp a as p,x=.Call (.Name g gp) (a::as) [] p∧f g a as=true:=by
 unfold lz at h
 split at h
 ·exact⟨_,_,_,_,_,rfl,h⟩
 ·cases h
noncomputable def AT (c:Cfg)(F:Xf)(w:Str)(f:Nat)(es:Es)(vs:List Expr):Bool :=
 cr vs fun v1 r1=>jA v1 (fun q=>q == w) && cr r1 fun v2 r2=>r2.isEmpty && lz v2 fun g a as=>c.fn f g && F.rz.contains f && ag a && as.all ag && cD c es (a::as)
noncomputable def gE (c:Cfg)(F:Xf)(ys:List Str):TSs→List Stmt→Bool
 | .nil,x=>x.isEmpty
 | .st s r,x=>cr x fun y z=>ux c s y && gE c F ys r z
 | .tr i w f es j hs r,x=>cr x fun y z=>tV y (fun b e n s₀ s=>al e (fun q _=>ys[0]? == some q && c.glb q) && c.N[j]? == some n && c.names.lookup n == some .local && lD c ys j hs (s₀::s)
   && kD b fun t v=>al t fun y _=>c.N[i]? == some y && c.loc y && bW v fun vs=>AT c F w f es vs) && gE c F ys r z
section
variable {X:Cx}{c:Cfg}{F:Xf}{Γ ΓR:Nat→FSp}{ca da:Nat→Addr}{rel:Nat→Nat→Bool}{ys:List Str}{pins:List (Addr × Obj)}{E:Value→Shared→Prop}
theorem Inv.pinTo {ps:List (Addr × Obj)}{σ:L2.St}{H:Hp}{s:Shared}(I:L2.Inv (Cx.pin X pins E) ps σ H s):L2.Inv X.nox (pins++ps) σ H s :=
 ⟨⟨I.ok.mod,I.ok.kind,I.ok.glob,I.ok.blt,I.ok.above,I.ok.inj,I.ok.has,I.ok.cab,I.ok.hd,I.ok.frames,I.ok.stk,I.ok.exf,I.ok.bs,I.ok.bsz,I.ok.noex,I.ok.exfs,I.ok.funs,I.ok.frf⟩,I.os,I.bare,I.base,I.loc,I.cell,I.free,I.freeC,fun p hp=>I.pin p (by rw[FO];exact hp),I.hok,I.len⟩
theorem Inv.pinOf {ps:List (Addr × Obj)}{σ:L2.St}{H:Hp}{s:Shared}(I:L2.Inv X.nox (pins++ps) σ H s):L2.Inv (Cx.pin X pins E) ps σ H s :=
 ⟨⟨I.ok.mod,I.ok.kind,I.ok.glob,I.ok.blt,I.ok.above,I.ok.inj,I.ok.has,I.ok.cab,I.ok.hd,I.ok.frames,I.ok.stk,I.ok.exf,I.ok.bs,I.ok.bsz,I.ok.noex,I.ok.exfs,I.ok.funs,I.ok.frf⟩,I.os,I.bare,I.base,I.loc,I.cell,I.free,I.freeC,fun p hp=>I.pin p (by rw[←FO];exact hp),I.hok,I.len⟩
theorem PA.pin {es:List Expr}{t:TA}(h:PA X.nox es t):PA (Cx.pin X pins E) es t:=fun pos ps s σ H Q I w =>
 wpAny_mono (h pos (pins++ps) s σ H Q (Inv.pinTo I) w) (fun _ _ ⟨v,H',I',r,q⟩=>⟨v,H',Inv.pinOf I',r,q⟩) fun _ _ z=>False.elim z
theorem RF.setN {K:W.Frag}{m:List Addr}{H:Hp}{ρ:Fr}{σ:L2.St}(h:RF K m H ρ σ)(j:Nat)(x:Option V):RF K m H (ρ.set j none) (σ.set j x):=by
 refine⟨by simp[h.len],fun i v e=>?_⟩
 by_cases hj:j=i
 ·subst hj
  rw[HE] at e
  split at e
  ·split at e <;> cases e
  ·rename_i z;exact absurd rfl z
 ·rw[EQ hj] at e ⊢
  exact h.at_ i v e
section
variable {Y:Cx}{CX:CXT}{k:Nat}{f:Addr}{fd:FuncData}{ps:List Str}{sp:Sp}{dvs:List V}{ds:List Value}{Ex:XK}{x:Str}{p pos:Pos}{e:Expr}{es:List Expr}{t:TA}{σ:L2.St}
theorem si (F:i4 Y.prog Y.w Y.K Y.mg Y.base CX k f fd ps sp)(hr:Room k Y.A)(hg:Gl Y x)(hm:Y.mg x=some (.ref f))(hk:W.keepIn Y.K (.ref f)=true)(hb:Binds Y.K fd ps ds)(hd:Vals dvs ds)
  (hx:∀pins H s e s',L2.Inv Y pins σ H s→CX Y.stack H s Ex e s'→Y.xe e s')
  (ha:PA Y (e::es) t) (hdb:(x == ("__debug__":Str))=false) (he:starEach (e::es) Y.env=(false,eval e Y.env)::starEach es Y.env) (hpl:(backTo pos (starEach es Y.env)).any (·.1)=false) :
  PE Y (.Call (.Name x p) (e::es) [] pos) (fun σ' H Q=>σ'=σ∧gw sp dvs Ex t σ' H Q):=by
 rintro pins s σ' H Q I ⟨rfl,h⟩
 refine wpAny_Call_Name_kw (eU I hg hm ?_ hdb)
 refine W.callWith_K (h₀:=Y.base) I.ok.mod.kin hk (thn (ha pos pins s σ' H _ I h) fun us s1 ⟨vs,H1,I1,r,q⟩=>⟨I1.kIn,?_⟩) he hpl
 have r2:Vals (vs++dvs) (us++ds):=r.append hd
 have hl:(us++ds).length=ps.length:=by rw[←r2.length];exact F.len _ _ _ _ q
 refine wpAny_call (codeAny_mono (F.run Y.A Y.stack s1 H1 ⟨us,[]⟩ (us++ds) (vs++dvs) Q Ex hr I1.env0 (hb s1 us I1.kIn hl) r2 q) fun r s' hq=>?_)
 cases r with
 | error e=>exact hx pins H1 s1 e s' I1 hq
 | ok fl =>
  cases fl with
  | ret u=>exact I1.after hq
  | next=>exact False.elim hq
  | brk=>exact False.elim hq
  | cont=>exact False.elim hq
end
theorem ym (C:COk X.nox c Γ)(G:XG X.prog X.w X.K X.mg X.base c F ΓR ca)(T:XT X.K X.mg F.xs ys ca da rel)(hE:W.excIn X.K (da 0) eo "ValueError.__new__"=true)(hst:X.stack=X.env::X.outer)(hfr:X.env.frame=some X.env.locals)
  {i f j:Nat}{w:Str}{es:Es}{hs:List HS}{y n q:Str}{s₀:Stmt}{sr:List Stmt}{vs:List Expr}{k1:Nat}{p1 p2 p3 p4 p5 p6:Pos} (h0:ys[0]?=some q) (h1:c.glb q=true) (h2:c.N[j]?=some n) (h3:c.names.lookup n=some .local) (h4:lD c ys j hs (s₀::sr)=true)
  (h5:c.N[i]?=some y) (h6:c.loc y=true) (h7:AT c F w f es vs=true) :
  ∀(pins:List (Addr × Obj)) (s:Shared) (σ:L2.St) (H:Hp) (D:L2.Ends),L2.Inv X pins σ H s→(∃m ρ st,RF X.K m H ρ σ∧RH X.K m H st∧bh Γ es ρ st fun vs st1=>ΓR f vs st1 (jd (fun v st2=>postF X.K m H D.nx (ρ.set i (some (.tup [.str w,v]))) st2)
   fun k st2=>k<F.xs.length∧rel k 0=true∧∃ρ',ma (rel k) hs (ρ.set j none)=some ρ'∧postF X.K m H D.nx (ρ'.set j none) st2)) →
   wpAny (model X.prog X.w) X.A (exec (.Try [.Assign [.Name y p1] (.Tuple vs k1 p2) p3] [.ExceptHandler (some (.Name q p4)) (some n) (s₀::sr) p5] [] [] p6) X.env) (SP X pins D) E s:=by
 rintro pins s σ H D I ⟨m,ρ,st,rf,rh,wq⟩
 replace h7:=ai h7
 obtain⟨v1,r1,rfl,h7⟩:=h7
 rw[D6] at h7
 obtain⟨h8,h7⟩:=h7
 replace h8:=fo h8
 obtain⟨w',wk,wp,rfl,h8⟩:=h8
 rw[GR] at h8;subst h8
 replace h7:=ai h7
 obtain⟨v2,r2,rfl,h7⟩:=h7
 rw[D6] at h7
 obtain⟨h9,h7⟩:=h7
 obtain rfl:=List.isEmpty_iff.mp h9
 replace h7:=mZ h7
 obtain⟨g,gp,a,as,cp,rfl,h7⟩:=h7
 simp only[Bool.and_eq_true] at h7
 obtain⟨⟨⟨⟨a1,a2⟩,a3⟩,a4⟩,a5⟩:=h7
 obtain⟨g1,g2⟩:=C.locx h6
 obtain⟨k1',k2,k3,_⟩:=C.fnx a1
 have a1':=a1
 unfold Cfg.fn at a1'
 simp only[Bool.and_eq_true,beq_iff_eq,decide_eq_true_eq] at a1'
 obtain⟨ps,HF⟩:=G.fn f g a1'.1.2 a1'.1.1 a2
 obtain⟨fa,fd,Fn,fm,fk,fb⟩:=HF.ex
 obtain⟨q1,q2,q3⟩:=C.glbx h1
 let W:Addr→Hp→Prop:=fun Cl H'=>∃k m' st',Cl=ca k∧k<F.xs.length∧rel k 0=true∧Ext X.K m H m' H'∧RH X.K m' H' st'∧∃ρ',ma (rel k) hs (ρ.set j none)=some ρ'∧postF X.K m H D.nx (ρ'.set j none) st'
 let Xe:Value→Shared→Prop:=fun e s'=>∃s1 H1,L2.Inv X pins σ H1 s1∧CXe X.prog X.w X.stack H1 s1 (fun v _ H'=>∃C,v=.ref C∧W C H') e s'
 have hy:=T.y 0 q h0
 have hN:X.N=c.N:=C.N
 refine wpAny_Try_except (wpAny_mono (wpAny_execs_cons (thn (Q:=SP (Cx.pin X pins Xe) [] D) (E:=Xe) ?_ fun fl s1 z=>?_)) (fun _ _ z=>z) fun e s1 z=>?_)
 ·have hE1:PE (Cx.pin X pins Xe) (.Call (.Name g gp) (a::as) [] cp) (fun σ' H Q=>σ'=σ∧gw (f_ X.K ca (ΓR f)) [] (fun v _ H'=>∃C,v=.ref C∧W C H') (TAx X.K (bh Γ es)) σ' H Q) :=
   si (Y:=Cx.pin X pins Xe) Fn k3 k1' fm fk fb .nil (fun ps H1 s1 e s' I1 z=>⟨s1,H1,Inv.unpin I1,z⟩) (PA.pin (fK es C _ a5)) k2 (aw a3) (dI a4)
  have hE2:PE (Cx.pin X pins Xe) (.Tuple [.Constant (.str w') wk wp,.Call (.Name g gp) (a::as) [] cp] k1 p2) _:=lw (pac jt (pac hE1 bH rfl) rfl)
  refine gU (X:=Cx.pin X pins Xe) (i:=i) C.ndX (by rw[hN];exact h5) g1 hE2 (br rfl) g2 [] s σ H D (Inv.pinned I _) ?_
  refine⟨rfl,m,ρ,st,rf,rh,ar C.mono es (fun vs st1 k m1 H1 xs1 e1 r1 r2=>⟨m1,st1,vs,fQ r2,r1,G.mono _ _ _ _ _ (ce (fun v st2 z m2 H2 x2 e2 r3 r4=>?_) fun k st2 ⟨z1,z2,ρ',z3,z4⟩ m2 H2 e2 r3=>?_) k⟩) wq⟩
  ·refine⟨show 2≤sizeLine from by decide,fun p hp=>?_⟩
   have x3:=Ext.newT (o:=.tup [.str w',x2]) r3 hp
   exact z m2 _ _ ((e1.trans e2).trans x3) (r3.newT hp) (((rf.mono (e1.trans e2)).mono x3).set i (R_tup.mpr ⟨p,_,rfl,SqT.of av,Rs_cons'.mpr ⟨R_str.mpr rfl,Rs_cons'.mpr ⟨r4.mono x3,Rs_nil.mpr rfl⟩⟩⟩))
  ·exact⟨ca k,rfl,k,m2,st2,rfl,z1,z2,e1.trans e2,r3,ρ',z3,z4⟩
 ·cases fl with
  | next=>exact wpAny_execs_nil (wpAny_execs_nil (SP.unpin z))
  | brk=>exact SP.unpin z
  | cont=>exact SP.unpin z
  | ret u=>exact SP.unpin z
 ·obtain⟨s2,H2,I2,cx⟩:=z
  refine sk (W:=W) I2 cx hst hfr q1 q2 hy.1 hE (fun Cl H' z=>?_) C.ndX (by rw[hN];exact h2) (C.lcl n h3) (C.lcl n h3) fun ad Cl H' o s3 z oc J=>?_
  ·obtain⟨k,m',st',rfl,z1,z2,_⟩:=z
   obtain⟨e1,e2⟩:=G.cls k _ (EZ z1)
   refine⟨_,e1,e2,?_⟩
   have hr:=(T.rl k 0 z1 (D3.mp h0).1).1
   rw[z2] at hr
   unfold mroIn at hr
   obtain⟨cd,e3,e4⟩:=Option.bind_eq_some_iff.mp hr
   unfold clsIn at e3
   split at e3
   ·rename_i ho
    cases e3
    refine⟨_,_,ho,rfl,?_⟩
    split at e4
    ·cases e4
    ·exact EU e4
   ·cases e3
  ·obtain⟨k,m',st',rfl,z1,z2,z3,z4,ρ',z5,z6⟩:=z
   refine tq C T z1 oc hs _ h4 [] s3 _ H' _ J ⟨?_,m',ρ.set j none,st',ρ',(rf.mono z3).setN j _,z4,z5,fun m2 H3 σ' x2 r2 f2=>z6 m2 H3 _ (z3.trans x2) r2 (f2.setN j none)⟩
   have hl:=I2.len
   rw[HE]
   rw[D9 rfl,D9]
   rw[hl,hN]
   exact(D3.mp h2).1
theorem tw (C:COk X.nox c Γ)(G:XG X.prog X.w X.K X.mg X.base c F ΓR ca)(T:XT X.K X.mg F.xs ys ca da rel)(hE:W.excIn X.K (da 0) eo "ValueError.__new__"=true)(hst:X.stack=X.env::X.outer)(hfr:X.env.frame=some X.env.locals) :
  ∀(e:TSs) (x:List Stmt),gE c F ys e x=true→PSs X.nox x (TSx X.K (cE Γ ΓR F.xs.length rel e))
 | .nil,x,h=>by
  rw[gE] at h
  cases x with
  | nil =>
   rintro pins s σ H D I ⟨m,ρ,st,rf,rh,w⟩
   exact wpAny_execs_nil ⟨_,_,I,postF.here w rh rf⟩
  | cons _ _=>cases h
 | .st e es,x,h=>by
  rw[gE] at h
  replace h:=ai h
  obtain⟨y,ys,rfl,h⟩:=h
  simp only[Bool.and_eq_true] at h
  rintro pins s σ H D I ⟨m,ρ,st,rf,rh,w⟩
  rw[cE] at w
  refine wpAny_execs_cons (thn (w4 C e _ h.1 pins s σ H { D with nx:=fun σ1 H1=>TSx X.K (cE Γ ΓR F.xs.length rel es) D σ1 H1 } I ⟨m,ρ,st,rf,rh,eK C.mono e (D:={ AE X.K m H D with nx:=fun ρ1 st1=>cE Γ ΓR F.xs.length rel es ρ1 st1 (AE X.K m H D) }) (D':=AE X.K m H { D with nx:=fun σ1 H1=>TSx X.K (cE Γ ΓR F.xs.length rel es) D σ1 H1 }) ⟨fun ρ1 st1 k m1 H1 σ1 e1 r1 f1=>⟨m1,ρ1,st1,f1,r1,b_ C.mono G.mono es (AE.ext e1) k⟩,fun _ _ q=>q,fun _ _ q=>q,fun _ _ q=>q⟩ w⟩) fun f s1 q=>?_)
  cases f with
  | next =>
   obtain⟨σ',H',I',q⟩:=q
   exact tw C G T hE hst hfr es _ h.2 pins s1 σ' H' D I' q
  | ret v=>exact q
  | brk=>exact q
  | cont=>exact q
 | .tr i w f es j hs r,x,h=>by
  rw[gE] at h
  replace h:=ai h
  obtain⟨y,zs,rfl,h⟩:=h
  rw[D6] at h
  obtain⟨h,hr⟩:=h
  replace h:=qd h
  obtain⟨b,e,n,s₀,sr,hp,pos,rfl,h⟩:=h
  simp only[Bool.and_eq_true,beq_iff_eq] at h
  obtain⟨⟨⟨⟨h1,h2⟩,h3⟩,h4⟩,h5⟩:=h
  replace h1:=af h1
  obtain⟨q,qp,rfl,h1⟩:=h1
  rw[D6,GR] at h1
  replace h5:=dH h5
  obtain⟨tg,v,ap,rfl,h5⟩:=h5
  replace h5:=af h5
  obtain⟨yn,yp,rfl,h5⟩:=h5
  simp only[Bool.and_eq_true,beq_iff_eq] at h5
  obtain⟨⟨h5,h6⟩,h7⟩:=h5
  replace h7:=aI h7
  obtain⟨vs,vk,vp,rfl,h7⟩:=h7
  rintro pins s σ H D I ⟨m,ρ,st,rf,rh,wq⟩
  rw[cE] at wq
  refine wpAny_execs_cons (thn (ym (X:=X.nox) (E:=fun _ _=>False) C G T hE hst hfr h1.1 h1.2 h2 h3 h4 h5 h6 h7 pins s σ H { D with nx:=fun σ1 H1=>TSx X.K (cE Γ ΓR F.xs.length rel r) D σ1 H1 } I ⟨m,ρ,st,rf,rh,ar C.mono es (fun vs st1 z=>G.mono _ _ _ _ _ (ce (fun v st2 z m1 H1 σ1 e1 r1 f1=>?_) fun k st2 ⟨z1,z2,ρ',z3,z4⟩=>⟨z1,z2,ρ',z3,fun m1 H1 σ1 e1 r1 f1=>?_⟩) z) wq⟩) fun fl s1 q=>?_)
  ·exact⟨m1,_,st2,f1,r1,b_ C.mono G.mono r (AE.ext e1) z⟩
  ·cases fl with
   | next =>
    obtain⟨σ',H',I',q⟩:=q
    exact tw C G T hE hst hfr r _ hr pins s1 σ' H' D I' q
   | ret v=>exact q
   | brk=>exact q
   | cont=>exact q
  ·exact⟨m1,_,st2,f1,r1,b_ C.mono G.mono r (AE.ext e1) z4⟩
end
theorem um {P:Program}{w:World}{K:W.Frag}{mg:Str→Option Value}{base:Heap}{x:Str}{st:Stmt}{N ps:List Str}{sp:FSp}{code:TSs}{c:Cfg}{Fx:Xf}{Γ ΓR:Nat→FSp}{ca da:Nat→Addr}{rel:Nat→Nat→Bool}{ys:List Str}(F:At K mg x st ps)(S:ao N ps (ac st))(hN:c.N=N)(hn:c.names=(ac st).names)
  (hc:gE c Fx ys code (ah st)=true) (G:GOk P w K mg base c Γ) (GX:XG P w K mg base c Fx ΓR ca) (T:XT K mg Fx.xs ys ca da rel) (hE:W.excIn K (da 0) eo "ValueError.__new__"=true) (len:∀as st Q,sp as st Q→as.length=ps.length)
  (h:∀as st Q,sp as st Q→cE Γ ΓR Fx.xs.length rel code (frame N.length as) st (am st Q)) (hpc:c.pc=false:=by rfl) (hhm:c.hm=none:=by rfl):Has P w K mg base (c.lim+1) x ps (b8 K sp):=by
 refine F.ok S (fun vs H Q E ⟨m,st,as,r1,r2,q⟩=>by rw[←r1.len];exact len as st _ q) fun f cdv A outer s H vs Q E hr ⟨m,st',as,r1,r2,q⟩=>?_
 have C:=mj (E:=E) (H:=H) (outer:=outer) (Γ:=Γ) S hN hn hr G (fun z=>by rw[hpc] at z;cases z) fun k z=>by rw[hhm] at z;cases z
 refine⟨_,tw C GX T hE rfl rfl code _ hc,m,frame N.length as,st',gF r1,r2,b_ G.mono GX.mono code ?_ (h as st' _ q)⟩
 exact⟨fun ρ st2 k m' H' σ' e r f=>cC r2 k m' H' .non e r (R_non.mpr rfl),fun v st2 k=>cC r2 k,fun _ _ k=>k.elim,fun _ _ k=>k.elim⟩
end FW
namespace FW
open L2 HX
open PySem.W (findIn mroIn typeIn clsIn)
structure JX (P:Program)(w:World)(K:W.Frag)(mg:Str→Option Value)(base:Heap)(c:Cfg)(F:Xf)(Γ ΓR:Nat→FSp)(ca:Nat→Addr):Prop where
 g:GOk P w K mg base c Γ
 x:XG P w K mg base c F ΓR ca
section
variable {P:Program}{w:World}{K:W.Frag}{mg:Str→Option Value}{base h:Heap}{Γ ΓR:Nat→FSp}{c c':Cfg}{F:Xf}{ca da:Nat→Addr}{rel:Nat→Nat→Bool}{ys:List Str}{x:Str}{st:Stmt}{N ps:List Str}{sp:FSp}
theorem XG.skip (G:XG P w K mg base c F ΓR ca)(h1:c'.fns=c.fns)(h2:c'.lim=c.lim+1)(hr:F.rz.contains c.lim=false):XG P w K mg base c' F ΓR ca :=
 ⟨fun f x hf e r=>by
  rw[h2] at hf
  rw[h1] at e
  by_cases z:f=c.lim
  ·subst z;rw[hr] at r;cases r
  ·exact G.fn f x (by omega) e r,G.cls,G.mono⟩
theorem XG.next (G:XG P w K mg base c F ΓR ca)(h1:c'.fns=c.fns)(h2:c'.lim=c.lim+1)(hx:c.fns[c.lim]?=some x)(H:HasX P w K mg base (c.lim+1) x ps (f_ K ca (ΓR c.lim))):XG P w K mg base c' F ΓR ca :=
 ⟨fun f y hf e r=>by
  rw[h2] at hf
  rw[h1] at e
  by_cases z:f=c.lim
  ·subst z;rw[hx] at e;cases e;exact⟨ps,H⟩
  ·exact G.fn f y (by omega) e r,G.cls,G.mono⟩
theorem JX.nx {code:Ss}(J:JX P w K mg base c F Γ ΓR ca)(X:K.In h)(Gn:h.Ns mainGlobals mg)(d:DI K x st)(S:ao N ps (ac st))(hc:aZ c code (ah st)=true)
  (len:∀ {as st Q},sp as st Q→as.length=ps.length) (hw:∀ {as st Q},sp as st Q→aN Γ code (frame N.length as) st (am st Q))
  (hb:∀(kV doc pm:Value) (an:Option Addr) (cdv ct:Value) (us:List Value),us.length=ps.length→bindArgs (W.fnOf x x (bz st) (ah st) (ac st) .none kV doc pm an cdv ct) ⟨us,[]⟩=pure (ps.zip us))
  (hN:c.N=N:=by rfl) (hn:c.names=(ac st).names:=by rfl) (hpc:c.pc=false:=by rfl) (hhm:c.hm=none:=by rfl) (h1:c'.fns=c.fns:=by rfl) (h2:c'.lim=c.lim+1:=by rfl) (h3:c'.blts=c.blts:=by rfl) (h4:c'.gl=c.gl:=by rfl) (hx:c.fns[c.lim]?=some x:=by rfl) (hs:Γ c.lim=sp:=by rfl) (hr:F.rz.contains c.lim=false:=by rfl):JX P w K mg base c' F Γ ΓR ca :=
 ⟨J.g.nx X Gn d S hc len hw hb hN hn hpc hhm h1 h2 h3 h4 hx hs,J.x.skip h1 h2 hr⟩
theorem JX.nxX {code:XSs}(J:JX P w K mg base c F Γ ΓR ca)(X:K.In h)(Gn:h.Ns mainGlobals mg)(d:DI K x st)(S:ao N ps (ac st))(hc:fH c F code (ah st)=true)
  (len:∀ {as st Q},sp as st Q→as.length=ps.length) (ms:∀ {as st Q Q'},(∀v st,Q v st→Q' v st)→sp as st Q→sp as st Q') (hw:∀ {as st Q},sp as st Q→bZ Γ ΓR code (frame N.length as) st (js st Q) (nN st Q))
  (hb:∀(kV doc pm:Value) (an:Option Addr) (cdv ct:Value) (us:List Value),us.length=ps.length→bindArgs (W.fnOf x x (bz st) (ah st) (ac st) .none kV doc pm an cdv ct) ⟨us,[]⟩=pure (ps.zip us))
  (hN:c.N=N:=by rfl) (hn:c.names=(ac st).names:=by rfl) (hpc:c.pc=false:=by rfl) (hhm:c.hm=none:=by rfl) (h1:c'.fns=c.fns:=by rfl) (h2:c'.lim=c.lim+1:=by rfl) (h3:c'.blts=c.blts:=by rfl) (h4:c'.gl=c.gl:=by rfl) (hx:c.fns[c.lim]?=some x:=by rfl) (hs:Γ c.lim=okO sp:=by rfl) (hs2:ΓR c.lim=sp:=by rfl):JX P w K mg base c' F Γ ΓR ca:=by
 obtain⟨f,oc,od,kV,dc,pm,an,cd,ct,sl,a,l,cc,k⟩:=d
 have HX:=uU (sp:=sp) (At.mk' X Gn hb a l cc k) S hN hn hc J.g J.x (fun as st Q z=>len z) (fun as st Q Q' z z2=>ms z z2) (fun as st Q z=>hw z) hpc hhm
 refine⟨J.g.next h1 h2 h3 h4 hx (by rw[hs];exact HX.ok fun _ _ _ _ z z2=>ms z z2),J.x.next h1 h2 hx (by rw[hs2];exact HX)⟩
theorem JX.nxT {code:TSs}(J:JX P w K mg base c F Γ ΓR ca)(T:XT K mg F.xs ys ca da rel)(hE:W.excIn K (da 0) eo "ValueError.__new__"=true)(X:K.In h)(Gn:h.Ns mainGlobals mg)(d:DI K x st)(S:ao N ps (ac st))(hc:gE c F ys code (ah st)=true)
  (len:∀ {as st Q},sp as st Q→as.length=ps.length) (hw:∀ {as st Q},sp as st Q→cE Γ ΓR F.xs.length rel code (frame N.length as) st (am st Q))
  (hb:∀(kV doc pm:Value) (an:Option Addr) (cdv ct:Value) (us:List Value),us.length=ps.length→bindArgs (W.fnOf x x (bz st) (ah st) (ac st) .none kV doc pm an cdv ct) ⟨us,[]⟩=pure (ps.zip us))
  (hN:c.N=N:=by rfl) (hn:c.names=(ac st).names:=by rfl) (hpc:c.pc=false:=by rfl) (hhm:c.hm=none:=by rfl) (h1:c'.fns=c.fns:=by rfl) (h2:c'.lim=c.lim+1:=by rfl) (h3:c'.blts=c.blts:=by rfl) (h4:c'.gl=c.gl:=by rfl) (hx:c.fns[c.lim]?=some x:=by rfl) (hs:Γ c.lim=sp:=by rfl) (hr:F.rz.contains c.lim=false:=by rfl):JX P w K mg base c' F Γ ΓR ca:=by
 obtain⟨f,oc,od,kV,dc,pm,an,cd,ct,sl,a,l,cc,k⟩:=d
 subst hs
 exact⟨J.g.next h1 h2 h3 h4 hx (um (At.mk' X Gn hb a l cc k) S hN hn hc J.g J.x T hE (fun _ _ _=>len) (fun _ _ _=>hw) hpc hhm),J.x.skip h1 h2 hr⟩
abbrev CI (K:W.Frag)(x:Str)(C:Addr):Prop:=W.nsIn K mainGlobals x=some (some (.ref C))∧findIn K (.ref C) "__getattribute__"=some (some (.builtin "BaseException.__getattribute__"))∧findIn K (.ref C) "__getattr__"=some none∧findIn K (.ref C) "__class__"=some (some (.builtin "object.__class__"))∧mroIn K C (.type "object")=some true∧mroIn K C (.type "BaseException")=some true∧typeIn K (.ref C)=some (.type "type")∧(∃cd,clsIn K C=some cd)
theorem CI_mk {C:Addr}{cd:ClassData}(a:W.nsIn K mainGlobals x=some (some (.ref C)))(b:findIn K (.ref C) "__getattribute__"=some (some (.builtin "BaseException.__getattribute__")))(c:findIn K (.ref C) "__getattr__"=some none)(d:findIn K (.ref C) "__class__"=some (some (.builtin "object.__class__")))(e:mroIn K C (.type "object")=some true)(f:mroIn K C (.type "BaseException")=some true)(g:typeIn K (.ref C)=some (.type "type"))(h:clsIn K C=some cd):CI K x C:=⟨a,b,c,d,e,f,g,cd,h⟩
theorem CI.cl {C:Addr}(c:CI K x C):XCl K C:=⟨c.2.1,c.2.2.1,c.2.2.2.1,c.2.2.2.2.1,c.2.2.2.2.2.1,c.2.2.2.2.2.2.1,c.2.2.2.2.2.2.2⟩
end
end FW
namespace FW
open PySem L2 HX
noncomputable def vq (Γ ΓR:Nat→FSp)(ss:XSs)(D:aA)(W:XW):aA:={ D with nx:=fun ρ1 st1=>bZ Γ ΓR ss ρ1 st1 D W }
noncomputable def vW (Γ ΓR:Nat→FSp)(n:Nat)(rel:Nat→Nat→Bool)(ss:TSs)(D:aA):aA:={ D with nx:=fun ρ1 st1=>cE Γ ΓR n rel ss ρ1 st1 D }
section
variable {Γ ΓR:Nat→FSp}{ρ:Fr}{st:AH}{D:aA}{W:XW}{Q:EK}{n:Nat}{rel:Nat→Nat→Bool}
theorem BS {ss:XSs}:(vq Γ ΓR ss D W).nx ρ st=bZ Γ ΓR ss ρ st D W:=rfl
theorem zK {ss:XSs}{v:PV}:(vq Γ ΓR ss D W).rt v st=D.rt v st:=rfl
theorem zu {ss:XSs}:(vq Γ ΓR ss D W).rt=D.rt:=rfl
theorem Ci {ss:TSs}:(vW Γ ΓR n rel ss D).nx ρ st=cE Γ ΓR n rel ss ρ st D:=rfl
theorem Bx {ss:TSs}{v:PV}:(vW Γ ΓR n rel ss D).rt v st=D.rt v st:=rfl
theorem xV {ss:TSs}:(vW Γ ΓR n rel ss D).rt=D.rt:=rfl
theorem Cb:bZ Γ ΓR .nil ρ st D W=D.nx ρ st:=rfl
theorem xa {s:XS}{ss:XSs}:bZ Γ ΓR (.cons s ss) ρ st D W=wpX Γ ΓR s ρ st (vq Γ ΓR ss D W) W:=rfl
theorem Dn {s:S}:wpX Γ ΓR (.st s) ρ st D W=wpS Γ s ρ st D:=rfl
theorem CM {t:E}{a b:XSs}:wpX Γ ΓR (.ifX t a b) ρ st D W=wpT Γ t ρ st fun k st1=>if k=true then bZ Γ ΓR a ρ st1 D W else bZ Γ ΓR b ρ st1 D W:=rfl
theorem uo {k:Nat}:wpX Γ ΓR (.raise k) ρ st D W=W k st:=rfl
theorem Ab {i f:Nat}{es:Es}:wpX Γ ΓR (.setX i f es) ρ st D W=bh Γ es ρ st fun vs st1=>ΓR f vs st1 (jd (fun v st2=>D.nx (ρ.set i (some v)) st2) W):=rfl
theorem Cj {st0:AH}:(js st0 Q).nx ρ st=Ret st0 (fun v s=>Q (okR v) s) .non st:=rfl
theorem Bo {st0:AH}{v:PV}:(js st0 Q).rt v st=Ret st0 (fun v s=>Q (okR v) s) v st:=rfl
theorem xb {st0:AH}:(js st0 Q).rt=Ret st0 (fun v s=>Q (okR v) s):=rfl
theorem Ch {st0:AH}{k:Nat}:nN st0 Q k st=Ret st0 (fun _ s=>Q (exR k) s) .non st:=rfl
theorem xB:cE Γ ΓR n rel .nil ρ st D=D.nx ρ st:=rfl
theorem Cf {s:S}{r:TSs}:cE Γ ΓR n rel (.st s r) ρ st D=wpS Γ s ρ st (vW Γ ΓR n rel r D):=rfl
theorem Bu {i f j:Nat}{w:Str}{es:Es}{hs:List HS}{r:TSs}:cE Γ ΓR n rel (.tr i w f es j hs r) ρ st D=bh Γ es ρ st fun vs st1=>ΓR f vs st1 (jd (fun v st2=>cE Γ ΓR n rel r (ρ.set i (some (.tup [.str w,v]))) st2 D)
   fun k st2=>k<n∧rel k 0=true∧∃ρ',ma (rel k) hs (ρ.set j none)=some ρ'∧cE Γ ΓR n rel r (ρ'.set j none) st2 D):=rfl
end
theorem mE {sp:FSp}(ms:∀ {as st Q Q'},(∀v st,Q v st→Q' v st)→sp as st Q→sp as st Q'){as:List PV}{st:AH}{Q Q':EK}(h:∀v st,Q v st→Q' v st)(q:okO sp as st Q):okO sp as st Q':=ms (ce h fun _ _ z=>z) q
end FW
namespace My
open PySem L2 HX FW
noncomputable def top (i:Nat):Stmt:=PySem.Challenge.pw_hourstairs_k15_whole_no_texts.main.body.getD i (.Pass ⟨0,0,0,0⟩)
theorem du {st:AH}{v:PV}(h:v.bel st.length=true):∃n,a_ st v=some n:=by
 cases v with
 | ref k =>
  rw[PV.bel] at h
  have hk:=FP h
  have e:st[k]?=some st[k]:=EZ hk
  cases q:st[k] with
  | lst xs=>exact ⟨"list",by simp [a_,e,q]⟩
  | dk xs=>exact ⟨"dict",by simp [a_,e,q]⟩
  | fz xs=>exact ⟨"dict",by simp [a_,e,q]⟩
 | fn a=>rw[PV.bel] at h;cases h
 | _=>exact⟨_,rfl⟩
noncomputable def io:PV→Bool
 | .int _=>true
 | _=>false
theorem rB {st:AH}{v:PV}{n:String}(h:a_ st v=some n):io v=(bq "int" n && (!fT true v) && (!fT false v)):=by
 cases v with
 | ref k =>
  unfold a_ at h
  simp only at h
  split at h <;> cases h <;> rfl
 | bl b=>cases h;cases b <;> rfl
 | fn a=>cases h
 | _=>cases h;rfl
noncomputable def nu:PV→Bool
 | .tup [.int n,.int d]=>decide (0≤n∧1≤d∧Nat.gcd n.natAbs d.natAbs=1)
 | _=>false
theorem oz {st:AH}{v:PV}{n:String}(h:a_ st v=some n):(bq "tuple" n=true→∃xs,v=.tup xs)∧(bq "tuple" n=false→nu v=false):=by
 cases v with
 | tup xs=>cases h;exact⟨fun _=>⟨xs,rfl⟩,fun z=>absurd z (by decide)⟩
 | ref k =>
  unfold a_ at h
  simp only at h
  split at h <;> cases h <;> exact⟨fun z=>absurd z (by decide),fun _=>rfl⟩
 | fn a=>cases h
 | _=>cases h;exact⟨fun z=>absurd z (by decide),fun _=>rfl⟩
theorem mY {x y:PV}:nu (.tup [x,y])=(match x,y with | .int n,.int d=>decide (0≤n∧1≤d∧Nat.gcd n.natAbs d.natAbs=1)|_,_=>false):=by
 cases x <;> cases y <;> rfl
theorem sS {xs:List PV}(hl:xs.length≠2):nu (.tup xs)=false:=by
 match xs,hl with
 | [],_=>rfl
 | [x],_=>cases x <;> rfl
 | [_,_],hl=>exact absurd rfl hl
 | x::y::_::_,_=>cases x <;> cases y <;> rfl
theorem m_ {n d:Int}(h0:0≤n)(h1:1≤d):decide (((Nat.gcd n.toNat d.toNat:Nat):Int)=1)=decide (0≤n∧1≤d∧Nat.gcd n.natAbs d.natAbs=1):=by
 have e1:n.natAbs=n.toNat:=by omega
 have e2:d.natAbs=d.toNat:=by omega
 rw[e1,e2]
 simp[h0,h1]
 omega
theorem oV {n d:Nat}(h:0<d)(h2:d<2 ^ 8000):CBig (Nat.gcd n d:Nat):=by
 have h3:0<Nat.gcd n d:=Nat.gcd_pos_of_pos_right _ h
 have h4:Nat.gcd n d≤d:=Nat.gcd_le_right _ h
 refine⟨by omega,?_⟩
 have h5:((Nat.gcd n d:Nat):Int).natAbs=Nat.gcd n d:=rfl
 rw[h5]
 have:Nat.gcd n d<2 ^ 8000:=E6 h4 h2
 have:=(GS (by omega)).mpr this
 omega
noncomputable abbrev pc (q r:Int):Cell:=.lst [.int q,.int r]
def gy (q r:Int):Prop:=0≤q∧0≤r∧r<2147483629
theorem yN {q r:Int}{k:Nat}:(pc q r).bel k=true:=by simp[pc,Cell.bel,PV.bels,PV.bel]
theorem C8:qF 10 6:=⟨by decide,by decide,by decide⟩
theorem v5:qF 10 12:=⟨by decide,by decide,by decide⟩
theorem ww:qF 10 18:=⟨by decide,by decide,by decide⟩
theorem pK {j:Int}(h:0<j)(h2:j<2 ^ 200):CBig j:=CBig.of h (Int.lt_of_lt_of_le h2 (by
 have:((2:Int) ^ 200)=((2 ^ 200:Nat):Int):=by rw[HM];rfl
 have e2:((2:Int) ^ 8999)=((2 ^ 8999:Nat):Int):=by rw[HM];rfl
 rw[this,e2]
 exact Int.ofNat_le.mpr (GT (by decide) (by decide))))
theorem v8 {i j:Int}(h1:-(2 ^ 64)<i)(h2:i<2 ^ 64):CMB i j:=.inr (.inl ⟨h1,h2⟩)
theorem la {i j:Int}(h1:-(2 ^ 64)<j)(h2:j<2 ^ 64):CMB i j:=.inr (.inr ⟨h1,h2⟩)
theorem Bz {ns:List Int}(h:ns.length≤63):lU (ns.map PV.int) none (some 63)=ns.map PV.int:=by
 unfold lU
 have e:HT.sIx (ns.map PV.int).length (ns.map PV.int).length (some (63:Int))=(ns.map PV.int).length:=by
  have:=HT.sIx_nat (ns.map PV.int).length (ns.map PV.int).length 63
  rw[show ((63:Nat):Int)=(63:Int) from rfl] at this
  rw[this,EN]
  omega
 rw[HT.sIx_none,e,G_,Nat.sub_zero,GA]
theorem sf {ns:List Int}{k:Nat}(h:k<ns.length):atI (ns.map PV.int) (k:Int)=some (.int (ns.getD k 0)):=by
 refine cS ?_
 rw[EL,List.getD_eq_getElem?_getD,EZ h]
 rfl
theorem A9:(10:Nat) ^ 12<2 ^ 8000:=EB (by decide:(10:Nat) ^ 12<2 ^ 64) (GT (by decide) (by decide))
theorem uH {n d:Nat}(h:0<d):Nat.gcd (n/Nat.gcd n d) (d/Nat.gcd n d)=1:=Nat.gcd_div_gcd_div_gcd_of_pos_right h
theorem ib {i:Int}(h0:-1000000000001<i)(h1:i<1000000000001):i.natAbs.log2<1920:=by
 by_cases h:i.natAbs=0
 ·rw[h];decide
 ·have:i.natAbs<2 ^ 64:=by omega
  have:=(GS h).mpr this
  omega
def bp:FSp:=fun as st Q=>∃v,as=[v]∧v.bel st.length=true∧Q (.bl (io v)) st
theorem j3 {as st Q Q'}(h:∀v st,Q v st→Q' v st)(q:bp as st Q):bp as st Q':=by obtain⟨v,e,b,q⟩:=q;exact⟨v,e,b,h _ _ q⟩
theorem lS {as st Q}(q:bp as st Q):as.length=1:=by obtain⟨v,rfl,_⟩:=q;rfl
noncomputable abbrev bB:=bp
theorem fP {as st Q Q'}(h:∀v st,Q v st→Q' v st)(q:bp as st Q):bp as st Q':=j3 h q
theorem gx {as st Q}(q:bp as st Q):as.length=1:=lS q
def ak:FSp:=fun as st Q=>∃n d:Nat,as=[.int n,.int d]∧Q (.int (Nat.gcd n d:Nat)) st
theorem cK {as st Q Q'}(h:∀v st,Q v st→Q' v st)(q:ak as st Q):ak as st Q':=by obtain⟨n,d,e,q⟩:=q;exact⟨n,d,e,h _ _ q⟩
theorem cW {as st Q}(q:ak as st Q):as.length=2:=by obtain⟨n,d,rfl,_⟩:=q;rfl
noncomputable abbrev bV:=ak
theorem hX {as st Q Q'}(h:∀v st,Q v st→Q' v st)(q:ak as st Q):ak as st Q':=cK h q
theorem iQ {as st Q}(q:ak as st Q):as.length=2:=cW q
def aT:FSp:=fun as st Q=>∃v,as=[v]∧v.bel st.length=true∧Q (.bl (nu v)) st
theorem ie {as st Q Q'}(h:∀v st,Q v st→Q' v st)(q:aT as st Q):aT as st Q':=by obtain⟨v,e,b,q⟩:=q;exact⟨v,e,b,h _ _ q⟩
theorem iO {as st Q}(q:aT as st Q):as.length=1:=by obtain⟨v,rfl,_⟩:=q;rfl
noncomputable abbrev aQ:=aT
theorem eA {as st Q Q'}(h:∀v st,Q v st→Q' v st)(q:aT as st Q):aT as st Q':=ie h q
theorem eJ {as st Q}(q:aT as st Q):as.length=1:=iO q
def bo:FSp:=fun as st Q=>∃(ns:List Int) (k:Nat),as=[.rdl (ns.map .int),.int k]∧ns.length≤63∧k<64∧∀g q r,gy q r→Q (.ref (st.length+1)) (st++[g,pc q r])
theorem kl {as st Q Q'}(h:∀v st,Q v st→Q' v st)(q:bo as st Q):bo as st Q':=by obtain⟨n,d,e,h1,h2,q⟩:=q;exact⟨n,d,e,h1,h2,fun g a b z=>h _ _ (q g a b z)⟩
theorem lA {as st Q}(q:bo as st Q):as.length=2:=by obtain⟨n,d,rfl,_⟩:=q;rfl
def Pot (st:AH)(p:Nat):Prop:=∃q r,st[p]?=some (pc q r)∧gy q r
theorem Pot.lt {st:AH}{p:Nat}(h:Pot st p):p<st.length:=by obtain⟨q,r,e,_⟩:=h;exact ll e
theorem Pot.set {st:AH}{p:Nat}(h:Pot st p){q r:Int}(z:gy q r):Pot (st.set p (pc q r)) p:=⟨q,r,by rw[EV h.lt],z⟩
theorem Pot.app {st g:AH}{p:Nat}(h:Pot st p):Pot (st++g) p:=by obtain⟨q,r,e,z⟩:=h;exact⟨q,r,ja e,z⟩
theorem eP {st:AH}{p:Nat}{c d:Cell}:(st.set p c).set p d=st.set p d:=List.set_set ..
def aY:FSp:=fun as st Q=>∃(p:Nat) (many:Int),as=[.ref p,.int many]∧Pot st p∧0<many∧many<2 ^ 200∧∀x q r,0≤x→x<many→gy q r→Q (.int x) (st.set p (pc q r))
theorem iX {as st Q Q'}(h:∀v st,Q v st→Q' v st)(q:aY as st Q):aY as st Q':=by obtain⟨n,d,e,h1,h2,h3,q⟩:=q;exact⟨n,d,e,h1,h2,h3,fun x a b z1 z2 z3=>h _ _ (q x a b z1 z2 z3)⟩
theorem jv {as st Q}(q:aY as st Q):as.length=2:=by obtain⟨n,d,rfl,_⟩:=q;rfl
def aX:FSp:=fun as st Q=>∃(p:Nat),as=[.ref p]∧Pot st p∧∀x q r,0≤x→x<1000000000000→gy q r→Q (.int x) (st.set p (pc q r))
theorem iK {as st Q Q'}(h:∀v st,Q v st→Q' v st)(q:aX as st Q):aX as st Q':=by obtain⟨n,e,h1,q⟩:=q;exact⟨n,e,h1,fun x a b z1 z2 z3=>h _ _ (q x a b z1 z2 z3)⟩
theorem jf {as st Q}(q:aX as st Q):as.length=1:=by obtain⟨n,rfl,_⟩:=q;rfl
def xF (n d:Nat):Prop:=n<10 ^ 12∧0<d∧d<10 ^ 12∧Nat.gcd n d=1
def aM:FSp:=fun as st Q=>∃(p:Nat),as=[.ref p]∧Pot st p∧∀(n d:Nat) q r,xF n d→gy q r→Q (.tup [.int n,.int d]) (st.set p (pc q r))
theorem f8 {as st Q Q'}(h:∀v st,Q v st→Q' v st)(q:aM as st Q):aM as st Q':=by obtain⟨n,e,h1,q⟩:=q;exact⟨n,e,h1,fun x a b c z1 z2=>h _ _ (q x a b c z1 z2)⟩
theorem gm {as st Q}(q:aM as st Q):as.length=1:=by obtain⟨n,rfl,_⟩:=q;rfl
theorem q8 {as st Q Q'}(h:∀v st,Q v st→Q' v st)(q:fN as st Q):fN as st Q':=by obtain⟨n,e,h1,q⟩:=q;exact⟨n,e,h1,fun z=>h _ _ (q z)⟩
theorem vt {as st Q}(q:fN as st Q):as.length=1:=by obtain⟨n,rfl,_⟩:=q;rfl
noncomputable def dg (n:Nat):List Nat:=(Nat.toDigits 10 n).map Char.toNat
noncomputable abbrev nt (n:Nat):Str:=Str.ofString (toString ((n:Nat):Int))
theorem lK (n:Nat):(nt n).cps.toList=dg n:=W.KIN.signs_num n
theorem gD {n:Nat}(h:n<10):dg n=[48+n]:=by
 unfold dg
 rw[Nat.toDigits_of_lt_base h]
 have:∀d:Nat,d<10→(Nat.digitChar d).toNat=48+d:=by decide
 show [(Nat.digitChar n).toNat]=_
 rw[this n h]
theorem pd {n:Nat}(h:¬n<10):dg n=dg (n/10)++[48+n % 10]:=by
 have hm:n % 10<10:=IH n (by decide)
 have t:Nat.toDigits 10 (n/10)++Nat.toDigits 10 (n % 10)=Nat.toDigits 10 (10*(n/10)+n % 10):=Nat.toDigits_append_toDigits (by decide) (by omega) hm
 rw[Nat.div_add_mod] at t
 have e:=gD hm
 unfold dg at e ⊢
 rw[←t,HU,e]
theorem vI (n:Nat):∃c r,dg n=c::r∧(c=48→n=0):=by
 induction n using Nat.strongRecOn with
 | _ n ih =>
  by_cases h:n<10
  ·exact⟨_,_,gD h,fun e=>by omega⟩
  ·obtain⟨c,r,e,k⟩:=ih (n/10) (by omega)
   refine⟨c,r++[48+n % 10],by rw[pd h,e];rfl,fun z=>?_⟩
   have:=k z
   omega
theorem nY:∀(k n:Nat),n<10 ^ (k+1)→(dg n).length≤k+1
 | 0,n,h=>by rw[gD h];exact D7 _
 | k+1,n,h=>by
  by_cases h1:n<10
  ·rw[gD h1];simp
  ·rw[pd h1,EO]
   have:n/10<10 ^ (k+1):=by
    rw[IB] at h
    omega
   have:=nY k _ this
   simp only[List.length_singleton]
   omega
theorem vF {x y:Str}(h:x.cps.toList=y.cps.toList):x=y:=by
 obtain⟨⟨a⟩⟩:=x
 obtain⟨⟨b⟩⟩:=y
 cases h
 rfl
theorem gg (x y:Str):(x++y).cps.toList=x.cps.toList++y.cps.toList:=by
 show (x.cps++y.cps).toList=_
 rw[Array.toList_append]
theorem au (x:Str):x.length=x.cps.toList.length:=by simp[Str.length]
theorem mz {n:Nat}(h:n<10 ^ 12):(nt n).length≤12:=by
 rw[au,lK]
 exact nY 11 n h
theorem rn (cs:List Nat):PySem.NumText.digitsVal (48::cs)=PySem.NumText.digitsVal cs:=by
 unfold PySem.NumText.digitsVal
 rw[GE]
noncomputable def ft (n d:Nat):Str:=if d=1 then nt n else nt n++("/":Str)++nt d
theorem rX {n d:Nat}(hn:n<10 ^ 12)(hd:d<10 ^ 12):(ft n d).length≤25:=by
 unfold ft
 have:=mz hn
 have:=mz hd
 split
 ·omega
 ·rw[au,gg,gg,EO,EO,←au,←au,←au]
  show (nt n).length+1+(nt d).length≤25
  omega
noncomputable def bE (z:Str):Bool:=!z.cps.toList.isEmpty && z.cps.toList.all (fun c=>decide (48≤c∧c≤57)) && (decide (z="0") || !decide (z.cps.toList.head?=some 48))
noncomputable def cQ (z:Str):Nat:=PySem.NumText.digitsVal z.cps.toList
noncomputable def j8 (z:Str):Bool:=!(Builtin.Str.occurrences z "/" 0 z.length 1).isEmpty
noncomputable def dP (z:Str):Str:=match Builtin.Str.occurrences z "/" 0 z.length 1 with
 | i::_=>Builtin.Str.strSub z 0 i
 | []=>z
noncomputable def c6 (z:Str):Str:=match Builtin.Str.occurrences z "/" 0 z.length 1 with
 | i::_=>Builtin.Str.strSub z (i+1) z.length
 | []=>Str.empty
noncomputable def rdF:PV→Option (Nat × Nat)
 | .str z=>if bE (dP z)=true then (if j8 z=true then (if bE (c6 z)=true∧2≤cQ (c6 z)∧Nat.gcd (cQ (dP z)) (cQ (c6 z))=1 then some (cQ (dP z),cQ (c6 z)) else none) else some (cQ (dP z),1)) else none
 | _=>none
noncomputable def frR:Option (Nat × Nat)→PV
 | some (n,d)=>okR (.tup [.int n,.int d])
 | none=>exR 0
noncomputable def frV:Option (Nat × Nat)→PV
 | some (n,d)=>.tup [.int n,.int d]
 | none=>.non
def o8 (st:AH)(x:PV):Prop:=x.bel st.length=true∧∀z,x=.str z→z.length≤5000
theorem pz (z:Str):k8 z "/"=if j8 z=true then [.str (dP z),.str "/",.str (c6 z)] else [.str z,.str Str.empty,.str Str.empty]:=by
 unfold k8 j8 dP c6
 cases Builtin.Str.occurrences z "/" 0 z.length 1 with
 | nil=>rfl
 | cons i r=>rfl
theorem oR {z:Str}(h:j8 z=false):dP z=z:=by
 unfold j8 at h
 unfold dP
 revert h
 cases Builtin.Str.occurrences z "/" 0 z.length 1 with
 | nil=>intro _;rfl
 | cons i r=>intro h;cases h
theorem na (z:Str):(dP z).length≤z.length:=by
 unfold dP
 cases Builtin.Str.occurrences z "/" 0 z.length 1 with
 | nil=>exact D7 _
 | cons i r=>show (Builtin.Str.strSub z 0 i).length≤_;rw[au,F8,au z,E9,F2];omega
theorem mT (z:Str):(c6 z).length≤z.length:=by
 unfold c6
 cases Builtin.Str.occurrences z "/" 0 z.length 1 with
 | nil=>exact GJ _
 | cons i r=>show (Builtin.Str.strSub z _ _).length≤_;rw[au,F8,au z,E9,F2];omega
theorem oi {z:Str}(h:bE z=true):(∀c∈z.cps.toList,48≤c∧c≤57)∧z.cps.toList≠[]:=by
 unfold bE at h
 rw[D6,D6,List.all_eq_true] at h
 refine⟨fun c hc=>FP (h.1.2 c hc),fun e=>?_⟩
 rw[e] at h
 exact absurd h.1.1 (by decide)
theorem za {z:Str}(h:bE z=true):47 ∉ z.cps.toList:=fun m=>by
 have:=(oi h).1 47 m
 omega
theorem mq {c:Nat}:∀ {l:List Nat},c ∉ l→PyProof.Rows.cnt c l=0
 | [],_=>rfl
 | n::r,h=>by
  rw[PyProof.Rows.cnt_cons,D_ (fun e=>h (by rw[e];exact ET ..)),mq (fun m=>h (EH _ m))]
  rfl
theorem mG {z:Str}(h:1<(Builtin.Str.occurrences z "/" 0 z.length (z.length+1)).length):j8 z=true∧bE (c6 z)=false:=by
 have hc:((Builtin.Str.occurrences z "/" 0 z.length (z.length+1)).length:Int)=PyProof.Rows.cnt 47 z.cps.toList:=PyProof.Rows.count_cnt z 47
 rcases PySem.StrLaws.occ_head z "/" 1 (D7 _) with ⟨e,hn⟩|⟨i,r,e,ha,hf⟩
 ·exfalso
  have:47 ∉ z.cps.toList:=fun m=>by
   obtain⟨j,hj⟩:=List.getElem?_of_mem m
   exact hn j ((GL z 47 j).mpr hj)
  rw[mq this] at hc
  omega
 ·refine⟨by unfold j8;rw[e];rfl,?_⟩
  cases q:bE (c6 z) with
  | false=>rfl
  | true =>
   exfalso
   have hm:=za q
   have hi:=(GL z 47 i).mp ha
   unfold c6 at hm
   rw[e] at hm
   have hm:47 ∉ (Builtin.Str.strSub z (i+1) z.length).cps.toList:=hm
   rw[F8,au,List.take_of_length_le (by rw[F2];omega)] at hm
   have h1:47 ∉ z.cps.toList.take i:=fun m=>by
    obtain⟨j,hj⟩:=List.getElem?_of_mem m
    have hj2:j<i:=by
     have:=(D3.mp hj).1
     rw[E9] at this
     omega
    rw[GB hj2] at hj
    exact hf j hj2 ((GL z 47 j).mpr hj)
   have el:z.cps.toList=z.cps.toList.take i++47::z.cps.toList.drop (i+1):=by
    obtain⟨hl,he⟩:=D3.mp hi
    rw[←he,←FK hl,List.take_append_drop]
   rw[el,PyProof.Rows.cnt_append,PyProof.Rows.cnt_cons,mq h1,mq hm,D9 rfl] at hc
   omega
theorem jN:∀(l:List Nat) (a:Nat),l.foldl (fun acc c=>acc*10+(c-48)) a=a*10 ^ l.length+PySem.NumText.digitsVal l
 | [],a=>by simp[PySem.NumText.digitsVal]
 | c::l,a=>by
  unfold PySem.NumText.digitsVal
  rw[GE,GE,jN l,jN l (0*10+(c-48)),FL,IB,Nat.add_mul,Nat.zero_mul,Nat.zero_add,Nat.mul_comm (10 ^ l.length) 10,←Nat.mul_assoc]
  omega
theorem pj (a b:List Nat):PySem.NumText.digitsVal (a++b)=PySem.NumText.digitsVal a*10 ^ b.length+PySem.NumText.digitsVal b:=by
 show (a++b).foldl _ 0=_
 rw[List.foldl_append]
 exact jN b _
theorem sC (a:List Nat)(c:Nat):PySem.NumText.digitsVal (a++[c])=PySem.NumText.digitsVal a*10+(c-48):=by
 show (a++[c]).foldl _ 0=_
 rw[List.foldl_append]
 rfl
theorem rO:∀ {l:List Nat},(∀c∈l,48≤c∧c≤57)→PySem.NumText.digitsVal l<10 ^ l.length
 | [],_=>by decide
 | c::l,h=>by
  have e:=pj [c] l
  have hc:=h c (ET ..)
  have:=rO (l:=l) fun d hd=>h d (EH _ hd)
  have e1:PySem.NumText.digitsVal [c]=c-48:=by show 0*10+(c-48)=_;omega
  rw[List.singleton_append,e1] at e
  rw[e,FL,IB]
  have:(c-48)*10 ^ l.length≤9*10 ^ l.length:=Nat.mul_le_mul_right _ (by omega)
  omega
theorem uW {n k:Nat}(h:n<10 ^ k)(hk:k≤5000):n<2 ^ 20000:=by
 have h1:(10:Nat) ^ k≤10 ^ 5000:=GT (by decide) hk
 have h2:(10:Nat) ^ 5000≤16 ^ 5000:=Nat.pow_le_pow_left (by decide) 5000
 have h3:(16:Nat) ^ 5000=2 ^ 20000:=by rw[show (16:Nat)=2 ^ 4 from rfl,←Nat.pow_mul]
 rw[←h3]
 exact EB h (EX h1 h2)
theorem tL (z:Str)(l u:Option Int):df z l u=PySem.StrLaws.sliceText z l u:=rfl
theorem wF {z:Str}{k:Nat}(h:k≤z.length):(df z none (some (k:Int))).cps.toList=z.cps.toList.take k:=by
 rw[tL,PySem.StrLaws.sliceText_to ⟨HB _,by rw[au] at h;omega⟩]
 simp
theorem uC {z:Str}{a b:Nat}(hab:a≤b)(h:b≤z.length):(df z (some (a:Int)) (some (b:Int))).cps.toList=(z.cps.toList.drop a).take (b-a):=by
 rw[tL,PySem.StrLaws.sliceText_nat z hab h]
abbrev Mo (s:FSp):Prop:=∀ {as:List PV}{st:AH}{Q Q':EK},(∀v st,Q v st→Q' v st)→s as st Q→s as st Q'
abbrev Ln (s:FSp)(n:Nat):Prop:=∀ {as:List PV}{st:AH}{Q:EK},s as st Q→as.length=n
local macro_rules | `(tactic| walk_at "MO")=>`(tactic| (intro as st Q Q' h q;repeat (first|exact h _ _ q|(obtain ⟨a,q⟩:=q;first|refine Exists.intro a ?_|refine And.intro a ?_)|(intro a;replace q:=q a))))
local macro_rules | `(tactic| walk_at "LN")=>`(tactic| (intro as st Q q;repeat (obtain ⟨a,q⟩:=q;try exact congrArg List.length a)))
def aP:FSp:=fun as st Q=>∃z:Str,as=[.str z]∧z.length≤5000∧Q (.bl (bE z)) st
theorem fD:Mo aP:=by walk_at "MO"
theorem fW:Ln aP 1:=by walk_at "LN"
def aE:FSp:=fun as st Q=>∃z:Str,as=[.str z]∧z.length≤5000∧Q (if bE z=true then okR (.int (cQ z)) else exR 0) st
theorem cu:Mo aE:=by walk_at "MO"
theorem i3:Ln aE 1:=by walk_at "LN"
def ax:FSp:=fun as st Q=>∃x:PV,as=[x]∧o8 st x∧Q (frR (rdF x)) st
theorem bO:Mo ax:=by walk_at "MO"
theorem gK:Ln ax 1:=by walk_at "LN"
def bw:FSp:=fun as st Q=>∃n d:Nat,as=[.tup [.int n,.int d]]∧xF n d∧Q (.str (ft n d)) st
theorem jJ:Mo bw:=by walk_at "MO"
theorem kh:Ln bw 1:=by walk_at "LN"
def a7:FSp:=fun as st Q=>∃z:Str,as=[.str z]∧z.length≤5000∧Q (if bE z=true then .int (cQ z) else .non) st
theorem gQ:Mo a7:=by walk_at "MO"
theorem iW:Ln a7 1:=by walk_at "LN"
def aV:FSp:=fun as st Q=>∃x:PV,as=[x]∧o8 st x∧Q (frV (rdF x)) st
theorem gC:Mo aV:=by walk_at "MO"
theorem hJ:Ln aV 1:=by walk_at "LN"
noncomputable def ku:Option (Nat × Nat)→PV
 | some (n,d)=>.tup [.str "read",.tup [.int n,.int d]]
 | none=>.tup [.str "refused",.bl true,.bl true,.bl false]
def a8:FSp:=fun as st Q=>∃x:PV,as=[x]∧o8 st x∧Q (ku (rdF x)) st
theorem jI:Mo a8:=by walk_at "MO"
theorem kj:Ln a8 1:=by walk_at "LN"
def bc:FSp:=fun as st Q=>∃x:PV,as=[x]∧o8 st x∧Q (.bl true) st
theorem iH:Mo bc:=by walk_at "MO"
theorem jh:Ln bc 1:=by walk_at "LN"
def bb:FSp:=fun as st Q=>∃p:Nat,as=[.ref p]∧Pot st p∧∀(z:Str) q r,z.length≤100→gy q r→Q (.str z) (st.set p (pc q r))
theorem iT:Mo bb:=by walk_at "MO"
theorem jc:Ln bb 1:=by walk_at "LN"
def a6:FSp:=fun as st Q=>∃(p:Nat) (n d:Nat),as=[.ref p,.tup [.int n,.int d]]∧Pot st p∧xF n d∧∀(zs:List Str) q r (g:AH),(∀z∈zs,z.length≤200)→zs.length=12→gy q r→Q (.ref (st.length+g.length)) (st.set p (pc q r)++g++[.lst (zs.map PV.str)])
theorem g_:Mo a6:=by walk_at "MO"
theorem iG:Ln a6 2:=by walk_at "LN"
noncomputable abbrev gi:PV:=(.int 10000000000000000000000000000000000000000000000000000000000000000)
noncomputable abbrev aS:PV:=(.int 64)
noncomputable abbrev dR:PV:=(.str "0123456789")
noncomputable def Γ:Nat→FSp
 | 0=>ak
 | 1=>aP
 | 2=>okO aE
 | 3=>okO ax
 | 4=>bo
 | 5=>aY
 | 6=>aX
 | 7=>bV
 | 8=>bB
 | 9=>aQ
 | 10=>aM
 | 11=>bw
 | 12=>a7
 | 13=>aV
 | 14=>a8
 | 15=>bc
 | 16=>bb
 | 17=>a6
 | 18=>fN
 | _=>fun _ _ _=>False
theorem Γ_0:Γ 0=ak:=id rfl
theorem Γ_1:Γ 1=aP:=id rfl
theorem Γ_2:Γ 2=okO aE:=id rfl
theorem Γ_3:Γ 3=okO ax:=id rfl
theorem Γ_4:Γ 4=bo:=id rfl
theorem Γ_5:Γ 5=aY:=id rfl
theorem Γ_6:Γ 6=aX:=id rfl
theorem Γ_7:Γ 7=bV:=id rfl
theorem Γ_8:Γ 8=bB:=id rfl
theorem Γ_9:Γ 9=aQ:=id rfl
theorem DA:Γ 10=aM:=id rfl
theorem Dr:Γ 11=bw:=id rfl
theorem C9:Γ 12=a7:=id rfl
theorem Cw:Γ 13=aV:=id rfl
theorem DV:Γ 14=a8:=id rfl
theorem DP:Γ 15=bc:=id rfl
theorem DB:Γ 16=bb:=id rfl
theorem DF:Γ 17=a6:=id rfl
theorem Cz:Γ 18=fN:=id rfl
theorem Γm:aO Γ:=by
 intro f vs st Q Q' h q
 match f,q with
 | 0,q=>exact cK (st:=st) h q
 | 1,q=>exact fD (st:=st) h q
 | 2,q=>exact mE (sp:=aE) cu h q
 | 3,q=>exact mE (sp:=ax) bO h q
 | 4,q=>exact kl (st:=st) h q
 | 5,q=>exact iX (st:=st) h q
 | 6,q=>exact iK (st:=st) h q
 | 7,q=>exact hX (st:=st) h q
 | 8,q=>exact fP (st:=st) h q
 | 9,q=>exact eA (st:=st) h q
 | 10,q=>exact f8 (st:=st) h q
 | 11,q=>exact jJ (st:=st) h q
 | 12,q=>exact gQ (st:=st) h q
 | 13,q=>exact gC (st:=st) h q
 | 14,q=>exact jI (st:=st) h q
 | 15,q=>exact iH (st:=st) h q
 | 16,q=>exact iT (st:=st) h q
 | 17,q=>exact g_ (st:=st) h q
 | 18,q=>exact q8 (st:=st) h q
 | _+19,q=>exact q.elim
noncomputable def ΓR:Nat→FSp
 | 2=>aE
 | 3=>ax
 | _=>fun _ _ _=>False
theorem Dp:ΓR 2=aE:=id rfl
theorem Dg:ΓR 3=ax:=id rfl
theorem ΓRm:aO ΓR:=by
 intro f vs st Q Q' h q
 unfold ΓR at q ⊢
 split at q
 ·exact cu (st:=st) h q
 ·exact bO (st:=st) h q
 ·exact q.elim
noncomputable def FX:Xf:={ xs:=["NoText"],rz:=[2,3] }
noncomputable def ysL:List Str:=["HourError","NoText","NoDay","NoTie","NotRight","Overtaken"]
noncomputable def B' (k i:Nat):Bool:=([true,true,false,false,false,false]:List Bool).getD (6*k+i) false
noncomputable def Dx:List Str:=["common_divisor","is_number_text","read_number","read_fraction","_law_pot","_law_digit","_law_great","_law_common","_law_is_whole","_law_is_fraction","_law_fraction","_law_text","_law_number","_law_reading","_law_read","_law_right","_law_drawn","_law_spoilt","law"]
noncomputable def xO:List Str:=["all","range","len","int","isinstance","str","divmod","tuple","max","ValueError","min"]
noncomputable def glL:List (Str × PV):=[("FIGURES",dR),("BLOCK_FIGURES",aS),("BLOCK",gi)]
noncomputable def mkc (N:List Str)(s:Stmt)(k:Nat):Cfg:={ N:=N,names:=(ac s).names,fns:=Dx,lim:=k,blts:=xO,gl:=glL }
local macro_rules | `(tactic| walk_at "SC")=>`(tactic| exact ⟨rfl,rfl,rfl,by decide +kernel,rfl,by decide +kernel,by decide +kernel⟩)
noncomputable abbrev bC:Stmt:=top 11
theorem gr:ao ["n","d"] ["n","d"] (ac bC):=by walk_at "SC"
noncomputable def dF:Cfg:=mkc ["n","d"] bC 0
noncomputable def bG:Ss:=(.cons (.whileS (.cmp .NotEq (.var 1) (.int 0)) (.cons (.par 0 1 (.var 1) (.bin .Mod (.var 0) (.var 1))) .nil)) (.cons (.ret (.var 0)) .nil))
theorem g0:aZ dF  bG (ah bC)=true:=by decide +kernel
noncomputable abbrev bD:Stmt:=top 12
theorem gh:ao ["text"] ["text"] (ac bD):=by walk_at "SC"
noncomputable def dD:Cfg:=mkc ["text"] bD 1
noncomputable def bF:Ss:=(.cons (.ifS (.bop false (.cons (.cmp .Eq (.var 0) (.str "")) (.cons (.not (.tmp (.blt .all1 (.cons (.comp (.cmp .In (.var 0) (.gv "FIGURES" dR)) (.name 0) (.chars (.var 0)) .nil ["sign"] []) .nil)))) .nil))) (.cons (.ret (.bl false)) .nil) .nil) (.cons (.ret (.bop false (.cons (.cmp .Eq (.var 0) (.str "0")) (.cons (.cmp .NotEq (.ix (.var 0) (.int 0)) (.str "0")) .nil)))) .nil))
theorem hV:aZ dD  bF (ah bD)=true:=by decide +kernel
noncomputable abbrev cw:Stmt:=top 13
theorem jx:ao ["text","head","number","at"] ["text"] (ac cw):=by walk_at "SC"
noncomputable def fG:Cfg:=mkc ["text","head","number","at"] cw 2
noncomputable def cg:XSs:=(.cons (.ifX (.not (.call 1 (.cons (.var 0) .nil))) (.cons (.raise 0) .nil) .nil) (.cons (.st (.set (.name 1) (.bin .Mod (.blt .len (.cons (.var 0) .nil)) (.gv "BLOCK_FIGURES" aS)))) (.cons (.st (.set (.name 2) (.blt .int1 (.cons (.bin .Add (.str "0") (.sl (.var 0) .no (.yes (.var 1)))) .nil)))) (.cons (.st (.forS (.name 3) (.range3 (.var 1) (.blt .len (.cons (.var 0) .nil)) (.gv "BLOCK_FIGURES" aS)) (.cons (.set (.name 2) (.bin .Add (.bin .Mult (.var 2) (.gv "BLOCK" gi)) (.tmp (.blt .int1 (.cons (.sl (.var 0) (.yes (.var 3)) (.yes (.bin .Add (.var 3) (.gv "BLOCK_FIGURES" aS)))) .nil))))) .nil))) (.cons (.st (.ret (.var 2))) .nil)))))
theorem kq:fH fG FX cg (ah cw)=true:=by decide +kernel
noncomputable abbrev bK:Stmt:=top 14
theorem ii:ao ["text","above","slash","below","n","d"] ["text"] (ac bK):=by walk_at "SC"
noncomputable def ei:Cfg:=mkc ["text","above","slash","below","n","d"] bK 3
noncomputable def bM:XSs:=(.cons (.ifX (.not (.inst (.var 0) "str")) (.cons (.raise 0) .nil) .nil) (.cons (.st (.set (.tup (.cons (.name 1) (.cons (.name 2) (.cons (.name 3) .nil)))) (.part (.var 0) "/"))) (.cons (.setX 4 2 (.cons (.var 1) .nil)) (.cons (.st (.ifS (.cmp .Eq (.var 2) (.str "")) (.cons (.ret (.tup (.cons (.var 4) (.cons (.int 1) .nil)))) .nil) .nil)) (.cons (.setX 5 2 (.cons (.var 3) .nil)) (.cons (.ifX (.bop false (.cons (.cmp .Lt (.var 5) (.int 2)) (.cons (.cmp .NotEq (.call 0 (.cons (.var 4) (.cons (.var 5) .nil))) (.int 1)) .nil))) (.cons (.raise 0) .nil) .nil) (.cons (.st (.ret (.tup (.cons (.var 4) (.cons (.var 5) .nil))))) .nil)))))))
theorem iN:fH ei FX bM (ah bK)=true:=by decide +kernel
noncomputable abbrev dQ:Stmt:=top 16
theorem mD:ao ["_law_script","_law_k","_law_state","_law_cell","_law_own"] ["_law_script","_law_k"] (ac dQ):=by walk_at "SC"
noncomputable def jE:Cfg:=mkc ["_law_script","_law_k","_law_state","_law_cell","_law_own"] dQ 4
noncomputable def dw:Ss:=(.cons (.set (.name 2) (.bin .Add (.int 5) (.bin .Mult (.int 1013) (.var 1)))) (.cons (.forS (.name 3) (.seq (.sl (.var 0) .no (.yes (.int 63)))) (.cons (.set (.name 2) (.bin .Mod (.bin .Add (.bin .Mult (.var 2) (.int 48271)) (.var 3)) (.int 2147483629))) .nil)) (.cons (.set (.name 4) (.ite (.cmp .Lt (.var 1) (.blt .len (.cons (.var 0) .nil))) (.ix (.var 0) (.var 1)) (.int 0))) (.cons (.ret (.lst (.cons (.bin .Mult (.var 4) (.blt .int1 (.cons (.cmp .GtE (.var 4) (.bin .Pow (.int 10) (.int 18))) .nil))) (.cons (.var 2) .nil)))) .nil))))
theorem oy:aZ jE  dw (ah dQ)=true:=by decide +kernel
noncomputable abbrev cM:Stmt:=top 17
theorem ki:ao ["_law_pot_here","_law_many","_law_digit_here"] ["_law_pot_here","_law_many"] (ac cM):=by walk_at "SC"
noncomputable def gI:Cfg:=mkc ["_law_pot_here","_law_many","_law_digit_here"] cM 5
noncomputable def cI:Ss:=(.cons (.ifS (.cmp .Gt (.ix (.var 0) (.int 0)) (.int 0)) (.cons (.set (.tup (.cons (.sub (.var 0) (.int 0)) (.cons (.name 2) .nil))) (.blt .divmod (.cons (.ix (.var 0) (.int 0)) (.cons (.var 1) .nil)))) (.cons (.ret (.var 2)) .nil)) .nil) (.cons (.set (.sub (.var 0) (.int 1)) (.bin .Mod (.bin .Add (.bin .Mult (.ix (.var 0) (.int 1)) (.int 39373)) (.int 7001)) (.int 2147483629))) (.cons (.ret (.bin .Mod (.bin .FloorDiv (.bin .Mult (.ix (.var 0) (.int 1)) (.ix (.var 0) (.int 1))) (.int 11)) (.var 1))) .nil)))
theorem mv:aZ gI  cI (ah cM)=true:=by decide +kernel
noncomputable abbrev cT:Stmt:=top 18
theorem j2:ao ["_law_pot_here","_law_size"] ["_law_pot_here"] (ac cT):=by walk_at "SC"
noncomputable def gq:Cfg:=mkc ["_law_pot_here","_law_size"] cT 6
noncomputable def cH:Ss:=(.cons (.set (.name 1) (.tmp (.ix (.lst (.cons (.int 8) (.cons (.int 60) (.cons (.bin .Pow (.int 10) (.int 6)) (.cons (.bin .Pow (.int 10) (.int 12)) .nil))))) (.call 5 (.cons (.var 0) (.cons (.int 4) .nil)))))) (.cons (.ret (.call 5 (.cons (.var 0) (.cons (.var 1) .nil)))) .nil))
theorem lE:aZ gq  cH (ah cT)=true:=by decide +kernel
noncomputable abbrev cA:Stmt:=top 19
theorem jk:ao ["_law_one","_law_other"] ["_law_one","_law_other"] (ac cA):=by walk_at "SC"
noncomputable def fF:Cfg:=mkc ["_law_one","_law_other"] cA 7
noncomputable def b9:Ss:=(.cons (.whileS (.cmp .Gt (.var 1) (.int 0)) (.cons (.par 0 1 (.var 1) (.bin .Mod (.var 0) (.var 1))) .nil)) (.cons (.ret (.var 0)) .nil))
theorem jZ:aZ fF  b9 (ah cA)=true:=by decide +kernel
noncomputable abbrev bJ:Stmt:=top 20
theorem gX:ao ["_law_thing"] ["_law_thing"] (ac bJ):=by walk_at "SC"
noncomputable def eh:Cfg:=mkc ["_law_thing"] bJ 8
noncomputable def bP:Ss:=(.cons (.ret (.bop true (.cons (.inst (.var 0) "int") (.cons (.cmp .IsNot (.var 0) (.bl true)) (.cons (.cmp .IsNot (.var 0) (.bl false)) .nil))))) .nil)
theorem iV:aZ eh  bP (ah bJ)=true:=by decide +kernel
noncomputable abbrev a9:Stmt:=top 21
theorem fB:ao ["_law_thing"] ["_law_thing"] (ac a9):=by walk_at "SC"
noncomputable def c_:Cfg:=mkc ["_law_thing"] a9 9
noncomputable def bg:Ss:=(.cons (.ifS (.bop false (.cons (.not (.inst (.var 0) "tuple")) (.cons (.cmp .NotEq (.blt .len (.cons (.var 0) .nil)) (.int 2)) (.cons (.not (.call 8 (.cons (.ix (.var 0) (.int 0)) .nil))) (.cons (.not (.call 8 (.cons (.ix (.var 0) (.int 1)) .nil))) .nil))))) (.cons (.ret (.bl false)) .nil) .nil) (.cons (.ret (.bop true (.cons (.cmp .GtE (.ix (.var 0) (.int 0)) (.int 0)) (.cons (.cmp .GtE (.ix (.var 0) (.int 1)) (.int 1)) (.cons (.cmp .Eq (.call 7 (.cons (.ix (.var 0) (.int 0)) (.cons (.ix (.var 0) (.int 1)) .nil))) (.int 1)) .nil))))) .nil))
theorem f9:aZ c_  bg (ah a9)=true:=by decide +kernel
noncomputable abbrev bI:Stmt:=top 22
theorem gS:ao ["_law_pot_here","_law_top","_law_bottom","_law_share"] ["_law_pot_here"] (ac bI):=by walk_at "SC"
noncomputable def ej:Cfg:=mkc ["_law_pot_here","_law_top","_law_bottom","_law_share"] bI 10
noncomputable def bL:Ss:=(.cons (.set (.name 1) (.call 6 (.cons (.var 0) .nil))) (.cons (.set (.name 2) (.blt .max2 (.cons (.int 1) (.cons (.call 6 (.cons (.var 0) .nil)) .nil)))) (.cons (.set (.name 3) (.call 7 (.cons (.var 1) (.cons (.var 2) .nil)))) (.cons (.ret (.tup (.cons (.bin .FloorDiv (.var 1) (.var 3)) (.cons (.bin .FloorDiv (.var 2) (.var 3)) .nil)))) .nil))))
theorem iR:aZ ej  bL (ah bI)=true:=by decide +kernel
noncomputable abbrev dq:Stmt:=top 23
theorem lV:ao ["_law_told"] ["_law_told"] (ac dq):=by walk_at "SC"
noncomputable def iu:Cfg:=mkc ["_law_told"] dq 11
noncomputable def c7:Ss:=(.cons (.ret (.ite (.cmp .Eq (.ix (.var 0) (.int 1)) (.int 1)) (.blt .str1 (.cons (.ix (.var 0) (.int 0)) .nil)) (.bin .Add (.bin .Add (.blt .str1 (.cons (.ix (.var 0) (.int 0)) .nil)) (.str "/")) (.blt .str1 (.cons (.ix (.var 0) (.int 1)) .nil))))) .nil)
theorem nQ:aZ iu  c7 (ah dq)=true:=by decide +kernel
noncomputable abbrev cy:Stmt:=top 24
theorem jU:ao ["_law_figures","_law_found","_law_sign"] ["_law_figures"] (ac cy):=by walk_at "SC"
noncomputable def fI:Cfg:=mkc ["_law_figures","_law_found","_law_sign"] cy 12
noncomputable def ci:Ss:=(.cons (.ifS (.bop false (.cons (.cmp .Eq (.var 0) (.str "")) (.cons (.bop true (.cons (.cmp .Eq (.ix (.var 0) (.int 0)) (.str "0")) (.cons (.cmp .NotEq (.var 0) (.str "0")) .nil))) .nil))) (.cons (.ret .non) .nil) .nil) (.cons (.set (.name 1) (.int 0)) (.cons (.forS (.name 2) (.chars (.var 0)) (.cons (.ifS (.cmp .NotIn (.var 2) (.str "0123456789")) (.cons (.ret .non) .nil) .nil) (.cons (.set (.name 1) (.bin .Add (.bin .Mult (.var 1) (.int 10)) (.smx .index (.str "0123456789") (.var 2)))) .nil))) (.cons (.ret (.var 1)) .nil))))
theorem ko:aZ fI  ci (ah cy)=true:=by decide +kernel
noncomputable abbrev bS:Stmt:=top 25
theorem iM:ao ["_law_text_here","_law_above","_law_stroke","_law_below","_law_told"] ["_law_text_here"] (ac bS):=by walk_at "SC"
noncomputable def eI:Cfg:=mkc ["_law_text_here","_law_above","_law_stroke","_law_below","_law_told"] bS 13
noncomputable def bT:Ss:=(.cons (.ifS (.bop false (.cons (.not (.inst (.var 0) "str")) (.cons (.cmp .Gt (.smx .count (.var 0) (.str "/")) (.int 1)) .nil))) (.cons (.ret .non) .nil) .nil) (.cons (.set (.tup (.cons (.name 1) (.cons (.name 2) (.cons (.name 3) .nil)))) (.part (.var 0) "/")) (.cons (.set (.name 4) (.tup (.cons (.call 12 (.cons (.var 1) .nil)) (.cons (.ite (.cmp .Eq (.var 2) (.str "/")) (.call 12 (.cons (.var 3) .nil)) (.int 1)) .nil)))) (.cons (.ifS (.bop false (.cons (.cmp .In .non (.var 4)) (.cons (.bop true (.cons (.cmp .Eq (.var 2) (.str "/")) (.cons (.cmp .Lt (.ix (.var 4) (.int 1)) (.int 2)) .nil))) (.cons (.cmp .NotEq (.call 7 (.cons (.ix (.var 4) (.int 0)) (.cons (.ix (.var 4) (.int 1)) .nil))) (.int 1)) .nil)))) (.cons (.ret .non) .nil) .nil) (.cons (.ret (.var 4)) .nil)))))
theorem jr:aZ eI  bT (ah bS)=true:=by decide +kernel
noncomputable abbrev dn:Stmt:=top 26
theorem lH:ao ["_law_text_here","_law_found","e","_law_other"] ["_law_text_here"] (ac dn):=by walk_at "SC"
noncomputable def ir:Cfg:=mkc ["_law_text_here","_law_found","e","_law_other"] dn 14
noncomputable def dh:TSs:=(.st (.set (.name 1) .non) (.tr 1 "read" 3 (.cons (.var 0) .nil) 2 [.set 3 (.isos [2,3,4,5]),.setT 1 [(.str "refused"),.isv,(.iso 1),(.var 3)]] (.st (.ret (.var 1)) .nil)))
theorem mR:gE ir FX ysL dh (ah dn)=true:=by decide +kernel
noncomputable abbrev cO:Stmt:=top 27
theorem kn:ao ["_law_thing","_law_due","_law_found"] ["_law_thing"] (ac cO):=by walk_at "SC"
noncomputable def gj:Cfg:=mkc ["_law_thing","_law_due","_law_found"] cO 15
noncomputable def cG:Ss:=(.cons (.set (.name 1) (.call 13 (.cons (.var 0) .nil))) (.cons (.ifS (.bop true (.cons (.cmp .IsNot (.var 1) .non) (.cons (.cmp .GtE (.blt .max1 (.cons (.var 1) .nil)) (.bin .Pow (.int 10) (.int 12))) .nil))) (.cons (.ret (.bl true)) .nil) .nil) (.cons (.set (.name 2) (.call 14 (.cons (.var 0) .nil))) (.cons (.ifS (.cmp .Is (.var 1) .non) (.cons (.ret (.cmp .Eq (.var 2) (.tup (.cons (.str "refused") (.cons (.bl true) (.cons (.bl true) (.cons (.bl false) .nil))))))) .nil) .nil) (.cons (.ret (.bop true (.cons (.cmp .Eq (.var 2) (.tup (.cons (.str "read") (.cons (.var 1) .nil)))) (.cons (.call 9 (.cons (.ix (.var 2) (.int 1)) .nil)) .nil)))) .nil)))))
theorem l_:aZ gj  cG (ah cO)=true:=by decide +kernel
noncomputable abbrev cR:Stmt:=top 28
theorem kg:ao ["_law_pot_here","_law_signs"] ["_law_pot_here"] (ac cR):=by walk_at "SC"
noncomputable def gc:Cfg:=mkc ["_law_pot_here","_law_signs"] cR 16
noncomputable def cJ:Ss:=(.cons (.set (.name 1) (.str "0123456789/ .+-_a10//9")) (.cons (.ret (.tmp (.smx .join (.str "") (.comp (.ix (.var 2) (.call 5 (.cons (.var 1) (.cons (.blt .len (.cons (.var 2) .nil)) .nil)))) (.name 0) (.range1 (.call 5 (.cons (.var 0) (.cons (.int 15) .nil)))) .nil ["_law_k"] [0,1])))) .nil))
theorem my:aZ gc  cJ (ah cR)=true:=by decide +kernel
noncomputable abbrev cz:Stmt:=top 29
theorem jz:ao ["_law_pot_here","_law_told","_law_text_here","_law_at","_law_sign","_law_many","_law_twice","_law_plain"] ["_law_pot_here","_law_told"] (ac cz):=by walk_at "SC"
noncomputable def fM:Cfg:=mkc ["_law_pot_here","_law_told","_law_text_here","_law_at","_law_sign","_law_many","_law_twice","_law_plain"] cz 17
noncomputable def cq:Ss:=(.cons (.set (.name 2) (.call 11 (.cons (.var 1) .nil))) (.cons (.set (.name 3) (.call 5 (.cons (.var 0) (.cons (.blt .len (.cons (.var 2) .nil)) .nil)))) (.cons (.set (.name 4) (.ix (.str "0/ 1-+_.\n") (.call 5 (.cons (.var 0) (.cons (.int 9) .nil))))) (.cons (.set (.name 5) (.bin .Add (.int 2) (.call 5 (.cons (.var 0) (.cons (.int 9) .nil))))) (.cons (.set (.name 6) (.bin .Add (.bin .Add (.blt .str1 (.cons (.bin .Mult (.ix (.var 1) (.int 0)) (.var 5)) .nil)) (.str "/")) (.blt .str1 (.cons (.bin .Mult (.ix (.var 1) (.int 1)) (.var 5)) .nil)))) (.cons (.set (.name 7) (.lst (.cons (.bin .Add (.var 2) (.var 2)) (.cons (.bin .Add (.bin .Add (.var 2) (.str "/")) (.var 2)) (.cons (.bin .Add (.var 2) (.str "/1")) (.cons (.bin .Add (.str "0") (.var 2)) (.cons (.bin .Add (.var 2) (.var 4)) (.cons (.bin .Add (.var 4) (.var 2)) (.cons (.var 6) (.cons (.sl (.var 2) .no (.yes (.neg (.int 1)))) (.cons (.var 2) .nil))))))))))) (.cons (.ret (.bin .Add (.var 7) (.lst (.cons (.bin .Add (.bin .Add (.sl (.var 2) .no (.yes (.var 3))) (.var 4)) (.sl (.var 2) (.yes (.var 3)) .no)) (.cons (.bin .Add (.sl (.var 2) .no (.yes (.var 3))) (.sl (.var 2) (.yes (.bin .Add (.var 3) (.int 1))) .no)) (.cons (.bin .Add (.bin .Add (.sl (.var 2) .no (.yes (.var 3))) (.var 4)) (.sl (.var 2) (.yes (.bin .Add (.var 3) (.int 1))) .no)) .nil)))))) .nil)))))))
theorem jY:aZ fM  cq (ah cz)=true:=by decide +kernel
noncomputable abbrev iD:Stmt:=top 30
theorem y8:ao ["_law_script","_law_fixed","_law_odd","_law_k","_law_pot_here","_law_told","_law_texts"] ["_law_script"] (ac iD):=by walk_at "SC"
noncomputable def v9:Cfg:=mkc ["_law_script","_law_fixed","_law_odd","_law_k","_law_pot_here","_law_told","_law_texts"] iD 18
noncomputable def jL:Ss:=(.cons (.set (.name 1) (.lst (.cons (.str "") (.cons (.str "/") (.cons (.str "1/") (.cons (.str "/2") (.cons (.str "00") (.cons (.str "0/1") (.cons (.str "0/2") (.cons (.str "2/4") (.cons (.str "1/0") (.cons (.str "3/1") (.cons (.str "01/2") (.cons (.str "1/02") (.cons (.str "1_0") (.cons (.str " 1") (.cons (.str "1 ") (.cons (.str "-1") .nil)))))))))))))))))) (.cons (.set (.name 1) (.bin .Add (.var 1) (.lst (.cons (.bin .Mult (.str "0") (.int 4000)) (.cons (.bin .Add (.bin .Mult (.str "1") (.int 4000)) (.str "/0")) (.cons (.bin .Add (.bin .Mult (.str "1") (.int 4000)) (.str "/")) .nil)))))) (.cons (.set (.name 2) (.lst (.cons .non (.cons (.int 1) (.cons (.int 0) (.cons (.tup (.cons (.int 1) (.cons (.int 2) .nil))) (.cons (.lst (.cons (.str "1") .nil)) (.cons (.lst (.cons (.str "1/2") .nil)) (.cons (.bl true) (.cons .dct0 (.cons (.tup .nil) .nil))))))))))) (.cons (.forS (.name 3) (.range1 (.blt .max2 (.cons (.int 1) (.cons (.blt .min2 (.cons (.blt .len (.cons (.var 0) .nil)) (.cons (.int 6) .nil))) .nil)))) (.cons (.set (.name 4) (.call 4 (.cons (.var 0) (.cons (.var 3) .nil)))) (.cons (.set (.name 5) (.call 10 (.cons (.var 4) .nil))) (.cons (.set (.name 6) (.bin .Add (.comp (.call 16 (.cons (.var 1) .nil)) (.name 0) (.range1 (.bin .Add (.int 1) (.call 5 (.cons (.var 4) (.cons (.int 8) .nil))))) .nil ["_law_one"] [4]) (.call 17 (.cons (.var 4) (.cons (.var 5) .nil))))) (.cons (.ifS (.not (.tmp (.blt .all1 (.cons (.comp (.call 15 (.cons (.var 0) .nil)) (.name 0) (.seq (.bin .Add (.var 6) (.lst (.cons (.call 11 (.cons (.var 5) .nil)) .nil)))) .nil ["_law_text_here"] []) .nil)))) (.cons (.ret (.bl false)) .nil) .nil) .nil))))) (.cons (.ret (.tmp (.blt .all1 (.cons (.comp (.call 15 (.cons (.var 0) .nil)) (.name 0) (.seq (.bin .Add (.bin .Add (.var 1) (.var 2)) (.lst (.cons (.str "0") (.cons (.str "1/2") .nil))))) .nil ["_law_thing"] []) .nil)))) .nil)))))
theorem As:aZ v9  jL (ah iD)=true:=by decide +kernel
local macro_rules | `(tactic| walk_at "WP")=>do
 let l<-(("qt yq yd xw y6 vQ BA BO Ar AL wD AM BN xA yH xg vK re Ax Cn xG Ak wG DH uv zJ yL zw zr yt BF wR AO B9 Df zW A3 DT BP AY ze zR Aj Cq Au Bb CL zI Dt CU yW B2 xM B8 x_ Cr xm Ae B5 yR yi xc ue CT B7 Bs Dq Bg Aq Ao zB Co wK AN CC yB uD zF ut sM zq vR yc uE xP Ba Cg r9 Av gu mf i5 l9 vC t7 B0 Ad BT AV BY AX yP wL yo yk xr xf Ac DX Ap Ca AG Ay zS BZ xZ AS Dw Db B3 Bj yb yK Dy Cu C_ Dl BD Ag AU pS sw qK p_ qx qE vX vB vm uY sU t9 q_ qL qw ox qN tz qG pQ qA qg AW zZ BR nH li tT rT BG Bi zL Aa yh yQ zt An Ce t8 xN xo xE zA B1 zO vG ui xX BB BJ u4 CD Cy CN Dh CY Cm yv yS xi BS zK zu Ci Bx xV Cb xa Dn CM uo Ab Cj Bo xb Ch xB Cf Bu AK z_ Bt zM wC AQ CQ frame Γ_0 Γ_1 Γ_2 Γ_3 Γ_4 Γ_5 Γ_6 Γ_7 Γ_8 Γ_9 DA Dr C9 Cw DV DP DB DF Cz Dp Dg Nat.add_assoc pL ud List.append_assoc List.length_append List.length_set List.map_cons List.map_nil List.length_cons List.length_nil List.replicate List.cons_append List.nil_append List.append_nil List.getElem?_cons_zero List.getElem?_cons_succ List.set_cons_zero List.set_cons_succ Option.some.injEq Cell.lst.injEq PV.int.injEq PV.bl.injEq PV.ref.injEq PV.str.injEq PV.tup.injEq PV.rdl.injEq List.cons.injEq and_true true_and exists_eq_left exists_eq_left' exists_eq_right exists_and_left exists_and_right exists_const Bool.not_true Bool.not_false Bool.not_not Bool.not_eq_true' decide_eq_true_eq decide_eq_false_iff_not false_and and_false false_or or_false if_true if_false Bool.false_eq_true reduceCtorEq reduceIte not_false_eq_true Nat.add_zero Nat.zero_add Nat.reduceAdd Nat.reduceSub Nat.reduceLeDiff Int.reduceToNat Int.reducePow Int.reduceLT Int.reduceLE Int.reduceNeg Int.reduceAdd Int.reduceSub Int.reduceMul wV uK exists_eq exists_eq' exists_false ne_eq not_true_eq_false and_assoc Option.join_some Option.join_none decide_true decide_false yf zj xy wY xt zG xj Int.reduceEq Nat.reduceEqDiff Bool.not_eq_false Bool.not_eq_true Bool.and_true Bool.true_and Bool.and_false Bool.false_and Bool.or_false Bool.or_true".splitOn " ").toArray.mapM fun s=>`(Lean.Parser.Tactic.simpLemma|$(Lean.mkIdent s.toName):ident))
 `(tactic|simp only[↓B4,↓zY,↓A5,↓Be,$l,*])
theorem ik {as st Q}(h:ak as st Q):aN Γ bG (frame 2 as) st (am st Q):=by
 obtain⟨n,d,rfl,k⟩:=h
 unfold bG
 walk_at "WP"
 refine nq Γm (fun m ρ s=>∃a b:Nat,ρ=[some (.int a),some (.int b)]∧s=st∧Nat.gcd a b=Nat.gcd n d∧m=b) (n:=d) ⟨n,d,rfl,rfl,rfl,rfl⟩ ?_
 rintro m ρ s ⟨a,b,rfl,rfl,hg,rfl⟩
 walk_at "WP"
 by_cases hb:(m:Int)=0
 ·rw[D_ (fun z=>z hb)]
  have:m=0:=by omega
  subst this
  rw[Nat.gcd_zero_right] at hg
  rw[hg]
  exact .inl k
 ·rw[D9 hb]
  refine⟨by omega,a % m,IH _ (by omega),m,rfl,a % m,?_,?_,rfl⟩
  ·simp
  ·rw[←hg,HK a m,Nat.gcd_rec m a,HK]
theorem j9 {as st Q}(h:bV as st Q):aN Γ b9 (frame 2 as) st (am st Q):=by
 obtain⟨n,d,rfl,k⟩:=h
 unfold b9
 walk_at "WP"
 refine nq Γm (fun m ρ s=>∃a b:Nat,ρ=[some (.int a),some (.int b)]∧s=st∧Nat.gcd a b=Nat.gcd n d∧m=b) (n:=d) ⟨n,d,rfl,rfl,rfl,rfl⟩ ?_
 rintro m ρ s ⟨a,b,rfl,rfl,hg,rfl⟩
 walk_at "WP"
 by_cases hb:0<(m:Int)
 ·rw[D9 hb]
  refine⟨hb,a % m,IH _ (by omega),m,rfl,a % m,?_,?_,rfl⟩
  ·simp
  ·rw[←hg,HK a m,Nat.gcd_rec m a,HK]
 ·rw[D_ hb]
  have:m=0:=by omega
  subst this
  rw[Nat.gcd_zero_right] at hg
  rw[hg]
  exact .inl k
theorem i0 {as st Q}(h:bB as st Q):aN Γ bP (frame 1 as) st (am st Q):=by
 obtain⟨v,rfl,hb,k⟩:=h
 obtain⟨n,hn⟩:=du hb
 unfold bP
 walk_at "WP"
 rw[rB hn] at k
 refine⟨n,hn,?_⟩
 cases e:bq "int" n with
 | false =>
  rw[e] at k
  exact .inl k
 | true =>
  rw[e] at k
  refine Ds ?_
  cases e2:fT true v with
  | true=>rw[e2] at k;exact .inl k
  | false=>rw[e2] at k;exact .inl k
theorem yj {xs:List PV}(h:xs.length=2):∃x y,xs=[x,y]:=by
 match xs,h with
 | [x,y],_=>exact⟨x,y,rfl⟩
theorem rA {k:Nat}{x y:PV}(h:(PV.tup [x,y]).bel k=true):x.bel k=true∧y.bel k=true:=by
 rw[PV.bel,PV.bels,PV.bels,PV.bels,Bool.and_true,D6] at h
 exact h
theorem fX {as st Q}(h:aQ as st Q):aN Γ bg (frame 1 as) st (am st Q):=by
 obtain⟨v,rfl,hb,k⟩:=h
 obtain⟨n,hn⟩:=du hb
 unfold bg
 walk_at "WP"
 refine⟨n,hn,?_⟩
 obtain⟨kt,kf⟩:=oz hn
 cases e:bq "tuple" n with
 | false =>
  rw[kf e] at k
  exact .inl k
 | true =>
  obtain⟨xs,rfl⟩:=kt e
  walk_at "WP"
  by_cases hl:xs.length=2
  ·obtain⟨x,y,rfl⟩:=yj hl
   obtain⟨bx,by'⟩:=rA hb
   rw[mY] at k
   walk_at "WP"
   refine⟨x,rfl,bx,?_⟩
   cases x with
   | int i =>
    simp only[io];walk_at "WP"
    refine⟨y,rfl,by',?_⟩
    cases y with
    | int j =>
     simp only[io];walk_at "WP"
     by_cases h0:0≤i
     ·rw[D9 h0]
      by_cases h1:1≤j
      ·rw[D9 h1]
       refine⟨i.toNat,j.toNat,?_,?_⟩
       ·rw[Int.toNat_of_nonneg h0,Int.toNat_of_nonneg (by omega)]
       ·walk_at "WP"
        rw[m_ h0 h1]
        exact .inl k
      ·rw[D_ h1]
       simp only[h1,false_and,and_false,decide_false] at k
       exact .inl k
     ·rw[D_ h0]
      simp only[h0,false_and,decide_false] at k
      exact .inl k
    | _=>simp only[io];walk_at "WP";exact .inl k
   | _=>simp only[io];walk_at "WP";exact .inl k
  ·rw[sS hl] at k
   rw[D9 (by omega)]
   exact .inl k
theorem oQ {as st Q}(h:bo as st Q):aN Γ dw (frame 5 as) st (am st Q):=by
 obtain⟨ns,m,rfl,hl,hm,k⟩:=h
 unfold dw
 walk_at "WP"
 refine⟨v8 (by decide) (by decide),?_⟩
 rw[Bz hl]
 refine⟨ns.map PV.int,bA dC,?_⟩
 refine l6 Γm (fun i ρ s=>∃(x:Int) (c:Option PV),ρ=[some (.rdl (ns.map PV.int)),some (.int m),some (.int x),c,none]∧s=st++[.lst (ns.map PV.int)]∧0≤x∧x<2147483629) ⟨5+1013*(m:Int),none,rfl,rfl,by omega,by omega⟩ ?_ ?_
 ·rintro i v ρ s hi ⟨x,c,rfl,rfl,h0,h1⟩
  obtain⟨z,rfl⟩:∃z,v=PV.int z:=by
   rw[EL] at hi
   cases e:ns[i]? with
   | none=>rw[e] at hi;cases hi
   | some z=>rw[e] at hi;exact⟨z,(EU hi).symm⟩
  refine⟨rfl,?_⟩
  walk_at "WP"
  exact⟨la (by decide) (by decide),by omega,by omega⟩
 ·rintro ρ s ⟨x,c,rfl,rfl,h0,h1⟩
  refine⟨rfl,?_⟩
  walk_at "WP"
  have fin:∀z:Int,Ret st Q (PV.ref (st.length+1)) (st++[Cell.lst (List.map PV.int ns),Cell.lst [PV.int (z*b2z (decide (1000000000000000000≤z))),PV.int x]]):=fun z=>by
   refine .inl (k _ _ _ ⟨?_,h0,h1⟩)
   unfold b2z
   by_cases hz:1000000000000000000≤z
   ·simp[hz];omega
   ·simp[hz]
  have cm:∀z:Int,CMB z (b2z (decide (1000000000000000000≤z))):=fun z=>by
   unfold b2z
   split <;> exact la (by decide) (by decide)
  rw[EN]
  by_cases hk:m<ns.length
  ·rw[D9 (by omega)]
   refine⟨_,sf hk,ww,?_⟩
   walk_at "WP"
   exact⟨cm _,fin _⟩
  ·rw[D_ (by omega)]
   exact⟨ww,cm 0,fin 0⟩
theorem ly {as st Q}(h:aY as st Q):aN Γ cI (frame 3 as) st (am st Q):=by
 obtain⟨p,many,rfl,⟨q,r,hp,hq,hr0,hr1⟩,hm,hm2,k⟩:=h
 unfold cI
 walk_at "WP"
 refine⟨_,bA hp,_,nH,?_⟩
 walk_at "WP"
 by_cases hz:0<q
 ·rw[D9 hz]
  refine⟨_,bA hp,_,nH,?_⟩
  walk_at "WP"
  refine⟨pK hm hm2,_,hp,0,rfl,?_⟩
  exact .inl (k _ _ _ (Int.emod_nonneg _ (by omega)) (Int.emod_lt_of_pos _ hm) ⟨HP (by omega) (by omega),hr0,hr1⟩)
 ·rw[D_ hz]
  refine⟨_,bA hp,_,li,?_⟩
  walk_at "WP"
  refine⟨la (by decide) (by decide),_,hp,1,rfl,?_⟩
  have h2:0≤(r*39373+7001) % 2147483629:=by omega
  have h3:(r*39373+7001) % 2147483629<2147483629:=by omega
  have hs:(st.set p (pc q ((r*39373+7001) % 2147483629)))[p]?=some (pc q ((r*39373+7001) % 2147483629)):=EV (ll hp)
  refine⟨_,bA hs,_,li,_,bA hs,_,li,?_⟩
  walk_at "WP"
  refine⟨v8 (by omega) (by omega),pK (by decide) (by decide),hm,?_⟩
  exact .inl (k _ _ _ (Int.emod_nonneg _ (by omega)) (Int.emod_lt_of_pos _ hm) ⟨hq,h2,h3⟩)
theorem A8 {x:Int}(h0:0≤x)(h1:x<4):∃m:Int,atI [PV.int 8,.int 60,.int 1000000,.int 1000000000000] x=some (.int m)∧0<m∧m≤1000000000000:=by
 have:x=0∨x=1∨x=2∨x=3:=by omega
 rcases this with rfl|rfl|rfl|rfl
 ·exact⟨8,rfl,by decide,by decide⟩
 ·exact⟨60,rfl,by decide,by decide⟩
 ·exact⟨1000000,rfl,by decide,by decide⟩
 ·exact⟨1000000000000,rfl,by decide,by decide⟩
theorem lX {as st Q}(h:aX as st Q):aN Γ cH (frame 2 as) st (am st Q):=by
 obtain⟨p,rfl,hp,k⟩:=h
 unfold cH
 walk_at "WP"
 refine⟨C8,v5,p,4,rfl,hp.app,by decide,by decide,fun x q r x0 x1 z=>?_⟩
 obtain⟨m,e,m0,m1⟩:=A8 x0 x1
 walk_at "WP"
 rw[vc hp.lt]
 refine⟨_,bA (by simp),_,e,?_⟩
 refine .setA rfl yN ?_
 refine⟨p,m,rfl,hp.set z,m0,by omega,fun y q2 r2 y0 y1 z2=>?_⟩
 rw[eP]
 exact .inl (k y q2 r2 y0 (by omega) z2)
theorem iP {as st Q}(h:aM as st Q):aN Γ bL (frame 4 as) st (am st Q):=by
 obtain⟨p,rfl,hp,k⟩:=h
 unfold bL
 walk_at "WP"
 refine⟨p,rfl,hp,fun x q r x0 x1 z=>?_⟩
 walk_at "WP"
 refine⟨p,rfl,hp.set z,fun y q2 r2 y0 y1 z2=>?_⟩
 rw[eP]
 walk_at "WP"
 obtain⟨n,rfl⟩:∃n:Nat,x=n:=⟨x.toNat,by omega⟩
 obtain⟨d,e,d0,d1⟩:∃d:Nat,(if 1<y then y else 1)=(d:Int)∧0<d∧d<10 ^ 12:=by
  refine⟨(if 1<y then y else 1).toNat,?_,?_,?_⟩ <;> split <;> omega
 rw[e]
 refine⟨n,d,rfl,?_⟩
 walk_at "WP"
 have big:d<2 ^ 8000:=HI d1 A9
 refine⟨oV d0 big,oV d0 big,?_⟩
 rw[←Int.natCast_ediv,←Int.natCast_ediv]
 refine .inl (k _ _ _ _ ⟨E6 (Nat.div_le_self _ _) (by omega),Nat.div_pos (Nat.gcd_le_right _ d0) (Nat.gcd_pos_of_pos_right _ d0),E6 (Nat.div_le_self _ _) d1,uH d0⟩ z2)
open PySem L2 HX FW
theorem rR (c:Nat):(!(Builtin.Str.occurrences "0123456789" ⟨#[c]⟩ 0 (Str.length "0123456789") 1).isEmpty)=decide (48≤c∧c≤57):=by
 have f:=PySem.StrLaws.found_one (Str.ofString "0123456789") c
 refine f.trans ?_
 have e:c∈(Str.ofString "0123456789").cps.toList↔48≤c∧c≤57:=by
  show c∈[48,49,50,51,52,53,54,55,56,57]↔_
  simp only[List.mem_cons,List.not_mem_nil,or_false]
  omega
 exact decide_eq_decide.mpr e
noncomputable def inF:PV→Bool
 | .str x=>!(Builtin.Str.occurrences "0123456789" x 0 (Str.length "0123456789") 1).isEmpty
 | _=>false
theorem u_ (z:Str):((ck z).map inF).all id=z.cps.toList.all (fun c=>decide (48≤c∧c≤57)):=by
 unfold ck
 rw[List.map_map,List.all_map]
 congr 1
 funext c
 exact rR c
theorem figs_ne {z:Str}:z=Str.ofString ""↔z.cps.toList=[]:=⟨fun h=>by rw[h];rfl,fun h=>vF h⟩
theorem sign_zero {c:Nat}:(({ cps:=#[c] }:Str)=Str.ofString "0")↔c=48:=⟨fun h=>by have:=ES (fun z:Str=>z.cps.toList) h;exact List.head_eq_of_cons_eq this,fun h=>by rw[h];rfl⟩
theorem mB {st:AH}{x:PV}{n:String}(h:a_ st x=some n):(bq "str" n=true→∃z,x=.str z)∧(bq "str" n=false→rdF x=none):=by
 cases x with
 | str z=>cases h;exact⟨fun _=>⟨z,rfl⟩,fun z=>absurd z (by decide)⟩
 | ref k =>
  unfold a_ at h
  simp only at h
  split at h <;> cases h <;> exact⟨fun z=>absurd z (by decide),fun _=>rfl⟩
 | fn a=>cases h
 | _=>cases h;exact⟨fun z=>absurd z (by decide),fun _=>rfl⟩
theorem ij {as st Q}(h:aP as st Q):aN Γ bF (frame 1 as) st (am st Q):=by
 obtain⟨z,rfl,hl,k⟩:=h
 unfold bF
 walk_at "WP"
 by_cases h0:z=Str.ofString ""
 ·rw[D9 h0]
  have e:bE z=false:=by subst h0;rfl
  rw[e] at k
  exact .inl k
 rw[D_ h0]
 refine⟨by simp only[ck,List.length_map];rw[←au];omega,?_⟩
 refine FW.comp_map Γm (fun v=>.bl (inF v)) trivial (fun v hv=>?_) ?_
 ·obtain⟨c,hc,rfl⟩:=HJ.mp hv
  walk_at "WP"
  rfl
 refine⟨_,dW dC,_,e_ (f:=inF),.app rfl ?_⟩
 rw[u_]
 obtain⟨c,r,hz⟩:∃c r,z.cps.toList=c::r:=by
  cases e:z.cps.toList with
  | nil=>exact absurd (figs_ne.mpr e) h0
  | cons c r=>exact⟨c,r,rfl⟩
 cases ha:z.cps.toList.all (fun c=>decide (48≤c∧c≤57)) with
 | false =>
  walk_at "WP"
  have e:bE z=false:=by unfold bE;rw[ha];simp
  rw[e] at k
  exact .inl k
 | true =>
  walk_at "WP"
  by_cases h1:z=Str.ofString "0"
  ·rw[D9 h1]
   have e:bE z=true:=by subst h1;decide
   rw[e] at k
   exact .inl k
  ·rw[D_ h1]
   refine⟨by omega,c,by rw[hz];exact cS (xs:=c::r) (j:=0) rfl,?_⟩
   have e:bE z=!decide (({ cps:=#[c] }:Str)=Str.ofString "0"):=by
    unfold bE
    rw[ha,hz,E2 h1]
    simp[sign_zero]
   rw[←e]
   exact .inl k
theorem rM {z:Str}(h:bE z=true)(hl:z.length≤5000)(k:Nat):PySem.NumText.digitsVal (z.cps.toList.take k)<2 ^ 20000:=by
 have:=rO (l:=z.cps.toList.take k) fun c hc=>(oi h).1 c (GU hc)
 rw[au] at hl
 exact uW this (by rw[E9];omega)
theorem j7 {as st Q}(h:aE as st Q):bZ Γ ΓR cg (frame 4 as) st (js st Q) (nN st Q):=by
 obtain⟨z,rfl,hl,k⟩:=h
 unfold cg
 walk_at "WP"
 refine⟨z,rfl,hl,?_⟩
 cases hz:bE z with
 | false =>
  rw[hz] at k
  walk_at "WP"
  exact .inl k
 | true =>
  rw[hz,D9 rfl] at k
  walk_at "WP"
  have e64:((z.length:Int) % 64)=((z.length % 64:Nat):Int):=by omega
  rw[e64]
  have hh:z.length % 64≤z.length:=Nat.mod_le ..
  obtain⟨nd,ne⟩:=oi hz
  have hc:=wF hh
  have hcl:(df z none (some ((z.length % 64:Nat):Int))).length=z.length % 64:=by rw[au,hc,E9,←au];omega
  have h0:(Str.ofString "0").length=1:=rfl
  have ef:(Str.ofString "0"++df z none (some ((z.length % 64:Nat):Int))).cps.toList=48::z.cps.toList.take (z.length % 64):=by rw [gg,hc];rfl
  have h1:(Str.ofString "0"++df z none (some ((z.length % 64:Nat):Int))).length=1+z.length % 64:=by rw [au,ef,FL,E9,←au];omega
  have hr:=PySem.intText_digits (x:=Str.ofString "0"++df z none (some ((z.length % 64:Nat):Int))) (by
   intro c hc
   rw[ef] at hc
   rcases E3.mp hc with rfl|hc
   ·decide
   ·exact nd c (GU hc)) (by rw[ef];exact fun z=>nomatch z) (by omega)
  rw[ef,rn] at hr
  refine⟨by omega,by omega,by omega,by omega,_,hr,by omega,by omega,by omega,by omega,by omega,?_⟩
  have hn:rSz ((z.length % 64:Nat):Int) z.length 64=z.length/64:=by
   unfold rSz
   split <;> omega
  rw[hn]
  refine l6 Γm (fun i ρ s=>s=st∧∃c,ρ=[some (.str z),some (.int ((z.length % 64:Nat):Int)),some (.int (PySem.NumText.digitsVal (z.cps.toList.take (z.length % 64+i*64)):Nat)),c]) ⟨rfl,none,by rw[Nat.zero_mul,Nat.add_zero]⟩ (fun i v ρ s hi hI=>?_) ?_
  ·obtain⟨rfl,c,rfl⟩:=hI
   have hin:i<z.length/64:=by
    have:=(D3.mp hi).1
    simpa[dX] using this
   have hv:v=.int ((z.length % 64+i*64:Nat):Int):=by
    unfold dX at hi
    rw[EL,GY hin] at hi
    rw[←EU hi]
    simp
   subst hv
   refine⟨trivial,?_⟩
   have hb:z.length % 64+i*64+64≤z.length:=by omega
   have hm:=uC (z:=z) (a:=z.length % 64+i*64) (b:=z.length % 64+i*64+64) (by omega) hb
   rw[show z.length % 64+i*64+64-(z.length % 64+i*64)=64 by omega] at hm
   have eb:((z.length % 64+i*64:Nat):Int)+64=((z.length % 64+i*64+64:Nat):Int):=by omega
   walk_at "WP"
   rw[eb]
   have hml:(df z (some ((z.length % 64+i*64:Nat):Int)) (some ((z.length % 64+i*64+64:Nat):Int))).length=64:=by
    rw[au,hm,E9,F2,←au]
    omega
   have hr2:=PySem.intText_digits (x:=df z (some ((z.length % 64+i*64:Nat):Int)) (some ((z.length % 64+i*64+64:Nat):Int))) (by
    intro c hc
    rw[hm] at hc
    exact nd c (List.mem_of_mem_drop (GU hc))) (fun e=>by rw[au,e] at hml;cases hml) (by omega)
   refine⟨.inl ⟨rM hz hl _,by decide +kernel⟩,by omega,by omega,_,hr2,⟨s,[],(F4 _).symm,rfl,fun _ _=>.inl rfl,rfl,?_⟩⟩
   walk_at "WP"
   have ev:PySem.NumText.digitsVal (z.cps.toList.take (z.length % 64+(i+1)*64))=PySem.NumText.digitsVal (z.cps.toList.take (z.length % 64+i*64))*10 ^ 64+PySem.NumText.digitsVal (df z (some ((z.length % 64+i*64:Nat):Int)) (some ((z.length % 64+i*64+64:Nat):Int))).cps.toList:=by
    rw[hm,show z.length % 64+(i+1)*64=(z.length % 64+i*64)+64 by omega,List.take_add,pj,show ((z.cps.toList.drop (z.length % 64+i*64)).take 64).length=64 by rw[←hm,←au];exact hml,←hm]
   rw[ev]
   rw[HV,HW]
   rfl
  ·rintro ρ s ⟨rfl,c,rfl⟩
   refine⟨trivial,?_⟩
   walk_at "WP"
   have e:z.length % 64+(dX ((z.length % 64:Nat):Int) 64 (z.length/64)).length*64=z.length:=by
    simp only[dX,List.length_map,List.length_range]
    omega
   rw[e,au,GA]
   exact .inl k
theorem lZ (z:Str):rdF (.str z)=if bE (dP z)=true then (if j8 z=true then (if bE (c6 z)=true∧2≤cQ (c6 z)∧Nat.gcd (cQ (dP z)) (cQ (c6 z))=1 then some (cQ (dP z),cQ (c6 z)) else none) else some (cQ (dP z),1)) else none:=rfl
theorem iU {as st Q}(h:ax as st Q):bZ Γ ΓR bM (frame 6 as) st (js st Q) (nN st Q):=by
 obtain⟨x,rfl,⟨hb,hl⟩,k⟩:=h
 unfold bM
 walk_at "WP"
 obtain⟨n,hn⟩:=du hb
 obtain⟨k1,k2⟩:=mB hn
 refine⟨n,hn,?_⟩
 cases hk:bq "str" n with
 | false =>
  rw[D9 rfl]
  rw[k2 hk] at k
  exact .inl k
 | true =>
  rw[D_ (by decide)]
  obtain⟨z,rfl⟩:=k1 hk
  have hl:=hl z rfl
  refine⟨z,rfl,by omega,?_⟩
  rw[pz]
  have hA:=na z
  have hB:=mT z
  rw[lZ] at k
  cases hs:j8 z with
  | false =>
   rw[D_ (by decide)]
   rw[hs,oR hs] at k
   refine⟨rfl,_,_,rfl,_,_,rfl,_,_,rfl,rfl,z,rfl,hl,?_⟩
   cases hz:bE z with
   | true =>
    rw[hz] at k
    rw[D9 rfl]
    simp only[mn]
    walk_at "WP"
    exact .inl k
   | false =>
    rw[hz] at k
    exact .inl k
  | true =>
   rw[D9 rfl]
   rw[hs] at k
   refine⟨rfl,_,_,rfl,_,_,rfl,_,_,rfl,rfl,_,rfl,by omega,?_⟩
   cases hz:bE (dP z) with
   | false =>
    rw[hz] at k
    exact .inl k
   | true =>
    rw[hz,D9 rfl,D9 rfl] at k
    rw[D9 rfl]
    simp only[mn]
    walk_at "WP"
    rw[D_ (by decide)]
    refine⟨_,rfl,by omega,?_⟩
    cases hy:bE (c6 z) with
    | false =>
     rw[hy,D_ (fun z=>absurd z.1 (by decide))] at k
     exact .inl k
    | true =>
     rw[hy] at k
     rw[D9 rfl]
     simp only[mn]
     walk_at "WP"
     by_cases h2:cQ (c6 z)<2
     ·rw[D_ (fun z=>by omega)] at k
      rw[D9 (by omega)]
      exact .inl k
     ·rw[D_ (by omega)]
      refine⟨_,_,rfl,?_⟩
      walk_at "WP"
      by_cases hg:Nat.gcd (cQ (dP z)) (cQ (c6 z))=1
      ·rw[D9 ⟨rfl,by omega,hg⟩] at k
       rw[hg]
       walk_at "WP"
       exact .inl k
      ·rw[D_ (fun z=>hg z.2.2)] at k
       rw[D9 (by omega)]
       exact .inl k
theorem yV:∀d:Nat,d<10→Builtin.Str.occurrences "0123456789" ⟨#[48+d]⟩ 0 (Str.length "0123456789") 1=[d]:=by decide +kernel
theorem vz (c:Nat):(Builtin.Str.occurrences "0123456789" ⟨#[c]⟩ 0 (Str.length "0123456789") 1).isEmpty=!decide (48≤c∧c≤57):=by rw[←rR,Bool.not_not]
theorem mL {as st Q}(h:bw as st Q):aN Γ c7 (frame 1 as) st (am st Q):=by
 obtain⟨n,d,rfl,⟨h1,h2,h3,h4⟩,k⟩:=h
 unfold c7
 walk_at "WP"
 by_cases hd:d=1
 ·subst hd
  rw[D9 (show (((1:Nat):Int))=1 from rfl)]
  exact⟨ib (by omega) (by omega),.inl k⟩
 ·unfold ft at k
  rw[D_ hd] at k
  rw[D_ (by omega)]
  have:=mz h1
  have:=mz h3
  have e:(Str.ofString "/").length=1:=rfl
  have e2:(nt n++Str.ofString "/").length=(nt n).length+1:=by rw [au,gg,EO,←au];rfl
  exact ⟨ib (by omega) (by omega),by show (nt n).length+_≤_;omega,ib (by omega) (by omega),by show (nt n++Str.ofString "/").length+(nt d).length≤_;omega,.inl k⟩
theorem j0 {as st Q}(h:a7 as st Q):aN Γ ci (frame 3 as) st (am st Q):=by
 obtain⟨z,rfl,hl,k⟩:=h
 unfold ci
 walk_at "WP"
 by_cases h0:z=Str.ofString ""
 ·rw[D9 h0]
  have e:bE z=false:=by subst h0;rfl
  rw[e] at k
  exact .inl k
 rw[D_ h0]
 obtain⟨c,r,hz⟩:∃c r,z.cps.toList=c::r:=by
  cases e:z.cps.toList with
  | nil=>exact absurd (figs_ne.mpr e) h0
  | cons c r=>exact⟨c,r,rfl⟩
 refine⟨by omega,c,by rw[hz];exact cS (xs:=c::r) (j:=0) rfl,?_⟩
 have loop:(z=Str.ofString "0"∨c≠48)→qq Γ (Tg.name 2)
   (Ss.cons (S.ifS (E.cmp CmpOp.NotIn (E.var 2) (E.str (Str.ofString "0123456789"))) (Ss.cons (S.ret E.non) Ss.nil) Ss.nil) (Ss.cons (S.set (Tg.name 1) (E.bin Operator.Add (E.bin Operator.Mult (E.var 1) (E.int 10)) (E.smx SM.index (E.str (Str.ofString "0123456789")) (E.var 2)))) Ss.nil))
   (fun x=>True) (aft Γ (Ss.cons (S.ret (E.var 1)) Ss.nil) (am st Q)) (ck z) [some (PV.str z),some (PV.int 0),none] st:=by
  intro hc
  have hnt:bE z=z.cps.toList.all (fun c=>decide (48≤c∧c≤57)):=by
   unfold bE
   have:(decide (z="0") || !decide (z.cps.toList.head?=some 48))=true:=by
    rcases hc with hc|hc
    ·rw [show decide (z="0")=true from FF hc];rfl
    ·rw[hz];simp[hc]
   rw[this,Bool.and_true,hz]
   rfl
  refine l6 Γm (fun i ρ s=>s=st∧(∀c∈z.cps.toList.take i,48≤c∧c≤57)∧∃c,ρ=[some (.str z),some (.int (PySem.NumText.digitsVal (z.cps.toList.take i):Nat)),c]) ⟨rfl,(fun c hc=>by cases hc),none,rfl⟩ (fun i v ρ s hi hI=>?_) ?_
  ·obtain⟨rfl,hd,c0,rfl⟩:=hI
   unfold ck at hi
   rw[EL] at hi
   obtain⟨d,hd2,rfl⟩:=FS.mp hi
   refine⟨trivial,?_⟩
   walk_at "WP"
   rw[vz]
   have ht:z.cps.toList.take (i+1)=z.cps.toList.take i++[d]:=by rw[List.take_add_one,hd2];rfl
   by_cases hdd:48≤d∧d≤57
   ·rw[FF hdd]
    walk_at "WP"
    obtain⟨j,rfl⟩:∃j,d=48+j:=⟨d-48,by omega⟩
    refine⟨la (by decide) (by decide),j,⟨[],yV j (by omega)⟩,fun c hc=>?_,?_⟩
    ·rw[ht] at hc
     rcases FG.mp hc with hc|hc
     ·exact hd c hc
     ·rw[EW.mp hc];exact hdd
    ·rw[ht,sC]
     omega
   ·rw[E2 hdd]
    walk_at "WP"
    have e:bE z=false:=by
     rw[hnt]
     refine List.all_eq_false.mpr ⟨d,ER hd2,?_⟩
     rw[E2 hdd]
     exact D1
    rw[e] at k
    exact .inl k
  ·rintro ρ s ⟨rfl,hd,c0,rfl⟩
   refine⟨trivial,?_⟩
   walk_at "WP"
   have el:(ck z).length=z.cps.toList.length:=by unfold ck;rw[EN]
   rw[el,GA] at hd ⊢
   have e:bE z=true:=by rw[hnt];exact List.all_eq_true.mpr fun c hc=>FF (hd c hc)
   rw[e] at k
   exact .inl k
 by_cases h48:c=48
 ·rw[D9 (sign_zero.mpr h48)]
  by_cases h1:z=Str.ofString "0"
  ·rw[D_ (fun q=>q h1)]
   exact loop (.inl h1)
  ·rw[D9 h1]
   have e:bE z=false:=by
    unfold bE
    rw [hz,h48,show decide (z="0")=false from E2 h1]
    simp
   rw[e] at k
   exact .inl k
 ·rw[D_ (fun q=>h48 (sign_zero.mp q))]
  exact loop (.inr h48)
theorem jO {as st Q}(h:aV as st Q):aN Γ bT (frame 5 as) st (am st Q):=by
 obtain⟨x,rfl,⟨hb,hl⟩,k⟩:=h
 unfold bT
 walk_at "WP"
 obtain⟨n,hn⟩:=du hb
 obtain⟨k1,k2⟩:=mB hn
 refine⟨n,hn,?_⟩
 cases hk:bq "str" n with
 | false =>
  rw[D9 rfl]
  rw[k2 hk] at k
  exact .inl k
 | true =>
  rw[D_ (by decide)]
  obtain⟨z,rfl⟩:=k1 hk
  have hl:=hl z rfl
  refine⟨⟨z,rfl⟩,?_⟩
  walk_at "WP"
  by_cases hc:1<(Builtin.Str.occurrences z "/" 0 z.length (z.length+1)).length
  ·obtain⟨hs,hB⟩:=mG hc
   rw[show rdF (.str z)=none by rw[lZ,hs,hB];simp] at k
   rw[D9 (by omega)]
   exact .inl k
  rw[D_ (by omega)]
  rw[lZ] at k
  refine⟨by omega,?_⟩
  rw[pz]
  have hA:=na z
  have hB:=mT z
  cases hs:j8 z with
  | false =>
   rw[D_ (by decide)]
   rw[hs,oR hs] at k
   refine⟨rfl,_,_,rfl,_,_,rfl,_,_,rfl,rfl,z,rfl,hl,?_⟩
   walk_at "WP"
   cases hz:bE z with
   | true =>
    rw[hz,D9 rfl,D_ D1] at k
    walk_at "WP"
    rw[D_ (by decide)]
    refine⟨rfl,?_⟩
    rw[D_ (show ¬([PV.int (cQ z:Nat),PV.int 1].any bj=true) from D1),D_ (by decide)]
    refine⟨cQ z,1,rfl,?_⟩
    rw[Nat.gcd_one_right]
    walk_at "WP"
    exact .inl k
   | false =>
    rw[hz,D_ D1] at k
    walk_at "WP"
    rw[D_ (by decide)]
    refine⟨rfl,?_⟩
    rw[D9 (show ([PV.non,PV.int 1].any bj=true) from rfl)]
    exact .inl k
  | true =>
   rw[D9 rfl]
   rw[hs] at k
   refine⟨rfl,_,_,rfl,_,_,rfl,_,_,rfl,rfl,_,rfl,by omega,?_⟩
   walk_at "WP"
   refine⟨_,rfl,by omega,?_⟩
   cases hz:bE (dP z) with
   | false =>
    rw[hz,D_ D1] at k
    cases hy:bE (c6 z) with
    | false=>exact⟨rfl,.inl k⟩
    | true=>exact⟨rfl,.inl k⟩
   | true =>
    rw[hz,D9 rfl,D9 rfl] at k
    cases hy:bE (c6 z) with
    | false =>
     rw[hy,D_ (fun z=>absurd z.1 D1)] at k
     exact⟨rfl,.inl k⟩
    | true =>
     rw[hy] at k
     refine⟨rfl,?_⟩
     rw[D9 rfl,D9 rfl,D_ (show ¬([PV.int (cQ (dP z):Nat),PV.int (cQ (c6 z):Nat)].any bj=true) from D1)]
     walk_at "WP"
     by_cases h2:cQ (c6 z)<2
     ·rw[D_ (fun z=>by omega)] at k
      rw[D9 (by omega)]
      exact .inl k
     ·rw[D_ (by omega)]
      refine⟨_,_,rfl,?_⟩
      walk_at "WP"
      by_cases hg:Nat.gcd (cQ (dP z)) (cQ (c6 z))=1
      ·rw[D9 ⟨rfl,by omega,hg⟩] at k
       rw[hg]
       walk_at "WP"
       exact .inl k
      ·rw[D_ (fun z=>hg z.2.2)] at k
       rw[D9 (by omega)]
       exact .inl k
theorem nD {as st Q}(h:a8 as st Q):cE Γ ΓR FX.xs.length B' dh (frame 4 as) st (am st Q):=by
 obtain⟨x,rfl,hx,k⟩:=h
 unfold dh
 walk_at "WP"
 refine⟨x,rfl,hx,?_⟩
 cases h:rdF x with
 | some p =>
  obtain⟨n,d⟩:=p
  rw[h] at k
  exact .inl k
 | none =>
  rw[h] at k
  exact⟨by decide,rfl,_,rfl,.inl k⟩
theorem Ck {x:PV}{n d:Nat}(h:rdF x=some (n,d)):nu (.tup [.int n,.int d])=true:=by
 rw[mY]
 cases x with
 | str z =>
  rw[lZ] at h
  split at h
  ·split at h
   ·split at h
    ·rename_i q
     cases h
     exact FF ⟨HB _,by omega,q.2.2⟩
    ·cases h
   ·cases h
    exact FF ⟨HB _,by decide,Nat.gcd_one_right _⟩
  ·cases h
 | _=>cases h
theorem lF {as st Q}(h:bc as st Q):aN Γ cG (frame 3 as) st (am st Q):=by
 obtain⟨x,rfl,hx,k⟩:=h
 unfold cG
 walk_at "WP"
 refine⟨x,rfl,hx,?_⟩
 have fin:∀o,rdF x=o→a8 [x] st fun v_1 st1=>if bj (frV o)=true then eqW st1 v_1 (PV.tup [PV.str (Str.ofString "refused"),PV.bl true,PV.bl true,PV.bl false]) fun k=>Ret st Q (PV.bl k) st1 else eqW st1 v_1 (PV.tup [PV.str (Str.ofString "read"),frV o]) fun k=>if k=true then ixW v_1 (PV.int 1) st1 fun x st1=>aQ [x] st1 fun v st1=>Ret st Q v st1 else Ret st Q (PV.bl false) st1:=by
  intro o h
  refine⟨x,rfl,hx,?_⟩
  rw[h]
  cases o with
  | none =>
   show (if bj (frV none)=true then eqW st (ku none) _ _ else _)
   rw[D9 (show bj (frV none)=true from rfl)]
   refine ⟨.tuple [.str "refused",.bool true,.bool true,.bool false],.tuple [.str "refused",.bool true,.bool true,.bool false],by simp [lr,ku,PV.toD,PV.toDs],by simp [lr,PV.toD,PV.toDs],by decide +kernel,by decide +kernel,?_⟩
   rw [show PyData.eqv (.tuple [.str "refused",.bool true,.bool true,.bool false]) (.tuple [.str "refused",.bool true,.bool true,.bool false])=true from by decide +kernel]
   exact .inl k
  | some p =>
   obtain⟨n,d⟩:=p
   show (if bj (frV (some (n,d)))=true then _ else eqW st (ku (some (n,d))) _ _)
   rw[D_ (show ¬bj (frV (some (n,d)))=true from D1)]
   have sh:SeqAt.shaped (.tuple [.str "read",.tuple [.int n,.int d]])=true:=by simp [SeqAt.shaped,PyData.canLay0,PyData.canLayAll0,PyData.depth,PyData.depthAll];decide +kernel
   refine ⟨.tuple [.str "read",.tuple [.int n,.int d]],.tuple [.str "read",.tuple [.int n,.int d]],by simp [lr,ku,PV.toD,PV.toDs],by simp [lr,frV,PV.toD,PV.toDs],sh,sh,?_⟩
   rw [show PyData.eqv (.tuple [.str "read",.tuple [.int n,.int d]]) (.tuple [.str "read",.tuple [.int n,.int d]])=true from by simp [PyData.eqv,PyData.eqvAll]]
   show (if true=true then _ else _)
   rw[D9 rfl]
   unfold ku
   walk_at "WP"
   refine⟨_,rfl,rfl,?_⟩
   rw[Ck h]
   exact .inl k
 cases h:rdF x with
 | none=>exact fin none h
 | some p =>
  obtain⟨n,d⟩:=p
  show (if bj (frV (some (n,d)))=false then _ else _)
  rw[D9 (show bj (frV (some (n,d)))=false from rfl)]
  refine⟨[(n:Int),(d:Int)],rfl,Nat.succ_pos _,fun i _ _=>⟨v5,?_⟩⟩
  split
  ·exact .inl k
  ·exact fin _ h
theorem md {as st Q}(h:bb as st Q):aN Γ cJ (frame 2 as) st (am st Q):=by
 obtain⟨p,rfl,hp,k⟩:=h
 unfold cJ
 walk_at "WP"
 refine⟨p,15,rfl,hp,by decide,by decide,fun x q r h0 h1 hq=>?_⟩
 walk_at "WP"
 have hx:(cj 0 x.toNat).length=x.toNat:=by simp[cj]
 refine⟨by omega,by omega,by omega,?_⟩
 refine lN Γm (fun i acc s=>∃q r,gy q r∧s=st.set p (pc q r)∧∃ss:List Str,acc=ss.map PV.str∧ss.length=i∧∀s∈ss,s.length≤1) ⟨q,r,hq,rfl,[],rfl,rfl,fun s hs=>by cases hs⟩ ?_ ?_
 ·rintro i v acc s hi ⟨q',r',hq',rfl,ss,rfl,hl,hs⟩
  refine⟨trivial,?_⟩
  walk_at "WP"
  refine⟨by decide,p,_,rfl,hp.set hq',by decide,by decide,fun y q2 r2 y0 y1 hq2=>?_⟩
  rw[eP]
  walk_at "WP"
  obtain⟨j,rfl⟩:∃j:Nat,y=j:=⟨y.toNat,by omega⟩
  have hj:j<(Str.ofString "0123456789/ .+-_a10//9").cps.toList.length:=by rw [←au];omega
  refine⟨by decide,_,cS (EZ hj),q2,r2,hq2,rfl,ss++[⟨#[_]⟩],by rw[HU];rfl,by rw[EO,hl];rfl,fun s hs'=>?_⟩
  rcases FG.mp hs' with h|h
  ·exact hs s h
  ·rw[EW.mp h];exact D7 1
 ·rintro acc s ⟨q',r',hq',rfl,ss,rfl,hl,hs⟩
  have h1:=PySem.StrLaws.join_length_le (Str.ofString "") ss
  have h2:=PySem.StrLaws.sumLen_le (B:=1) ss hs
  have h3:(Str.ofString "").length=0:=rfl
  rw[h3,Nat.mul_zero,Nat.add_zero] at h1
  rw[Nat.mul_one] at h2
  refine⟨trivial,rfl,ss,dW dC,?_,?_⟩
  ·unfold JoinOk
   rw[PySem.StrLaws.joinFits (B:=1) hs (by rw[h3];omega)]
   rfl
  ·refine .setA rfl rfl (.inl (k _ _ _ ?_ hq'))
   show (Builtin.Str.glued (Str.ofString "") ss).length≤100
   rw[PySem.StrLaws.glued_eq_join]
   omega
theorem lB (z:Str)(l u:Option Int):(df z l u).length≤z.length:=by
 unfold df
 split
 ·exact D7 _
 have sr:∀(A B:Int) (n:Nat),0≤A→B≤n→(sliceRange A B 1).length≤n:=by
  intro A B n h0 h1
  unfold sliceRange
  simp only[show ((1:Int) > 0)=True from by simp,if_true]
  split
  ·rw[EN,List.length_range,Int.ediv_one];omega
  ·exact GJ _
 rw[au]
 show (List.filterMap (fun x=>z.cps[x]?) (Builtin.Str.strSliceIndices l u 1 z.length)).toArray.toList.length≤z.length
 rw[List.toList_toArray]
 refine EX (F1 ..) ?_
 unfold Builtin.Str.strSliceIndices
 refine sr _ _ _ ?_ ?_
 ·cases l with
  | none=>simp
  | some i=>simp only[show ((1:Int) > 0)=True from by simp,if_true];omega
 ·cases u with
  | none=>simp
  | some i=>simp only[show ((1:Int) > 0)=True from by simp,if_true];omega
theorem fe (x y:Str):(x++y).length=x.length+y.length:=by rw[au,gg,EO,←au,←au]
theorem oY {m:Nat}(h:m<10 ^ 14):(nt m).length≤14:=by rw[au,lK];exact nY 13 m h
theorem yD {n d:Nat}:0<(ft n d).length:=by
 have hn:0<(nt n).length:=by
  rw[au,lK]
  obtain⟨c,r,e,_⟩:=vI n
  rw[e]
  exact Nat.succ_pos _
 unfold ft
 split
 ·exact hn
 ·rw[fe,fe]
  omega
theorem j1 {as st Q}(h:a6 as st Q):aN Γ cq (frame 8 as) st (am st Q):=by
 obtain⟨p,n,d,rfl,hp,hf,k⟩:=h
 have hft:=rX hf.1 hf.2.2.1
 have hft0:=yD (n:=n) (d:=d)
 obtain⟨f1,f2,f3,f4⟩:=hf
 unfold cq
 walk_at "WP"
 refine⟨n,d,rfl,⟨f1,f2,f3,f4⟩,?_⟩
 walk_at "WP"
 generalize ft n d=t at *
 refine⟨by omega,p,_,rfl,hp,by omega,by omega,fun a q r a0 a1 hq=>?_⟩
 refine⟨p,9,rfl,hp.set hq,by decide,by decide,fun b q2 r2 b0 b1 hq2=>?_⟩
 rw[eP]
 walk_at "WP"
 obtain⟨b,rfl⟩:∃j:Nat,b=j:=⟨b.toNat,by omega⟩
 have hb:b<(Str.ofString "0/ 1-+_.\n").cps.toList.length:=by
  have:(Str.ofString "0/ 1-+_.\n").cps.toList.length=9:=by decide
  omega
 refine⟨by decide,_,cS (EZ hb),p,9,rfl,hp.set hq2,by decide,by decide,fun e q3 r3 e0 e1 hq3=>?_⟩
 rw[eP]
 obtain⟨e,rfl⟩:∃j:Nat,e=j:=⟨e.toNat,by omega⟩
 walk_at "WP"
 generalize hs:({ cps:=#[(Str.ofString "0/ 1-+_.\n").cps.toList[b]] }:Str)=s
 have hs1:s.length=1:=by rw[←hs];rfl
 have en:((n:Int)*(2+(e:Int)))=((n*(2+e):Nat):Int):=by rw[HW,HV];rfl
 have ed:((d:Int)*(2+(e:Int)))=((d*(2+e):Nat):Int):=by rw[HW,HV];rfl
 have bn:n*(2+e)<10 ^ 14:=E6 (Nat.mul_le_mul (E8 f1) (show 2+e≤10 by omega)) (by decide)
 have bd:d*(2+e)<10 ^ 14:=E6 (Nat.mul_le_mul (E8 f3) (show 2+e≤10 by omega)) (by decide)
 rw[en,ed]
 have tn:(Str.ofString (toString ((n*(2+e):Nat):Int))).length≤14:=oY bn
 have td:(Str.ofString (toString ((d*(2+e):Nat):Int))).length≤14:=oY bd
 have l1:(Str.ofString "/").length=1:=rfl
 have l2:(Str.ofString "/1").length=2:=rfl
 have l3:(Str.ofString "0").length=1:=rfl
 have c1:=lB t none (some a)
 have c2:=lB t (some a) none
 have c3:=lB t (some (a+1)) none
 have c4:=lB t none (some (-1))
 have lg:∀m:Nat,m<10 ^ 14→((m:Nat):Int).natAbs.log2<1920:=fun m hm=>by
  rw[Int.natAbs_natCast]
  by_cases h0:m=0
  ·subst h0;decide
  ·have:m.log2<64:=(GS h0).mpr (by omega)
   omega
 generalize Str.ofString (toString ((n*(2+e):Nat):Int))=tN at tn ⊢
 generalize Str.ofString (toString ((d*(2+e):Nat):Int))=tD at td ⊢
 simp only[fe]
 refine⟨la (by omega) (by omega),lg _ bn,by omega,la (by omega) (by omega),lg _ bd,by omega,by omega,by omega,by omega,by omega,by omega,by omega,by omega,by omega,by omega,by omega,by omega,by omega,by omega,by omega,by omega,by omega,by omega,by omega,by omega,?_⟩
 have fin:=fun g1 g2=>k [t++t,t++Str.ofString "/"++t,t++Str.ofString "/1",Str.ofString "0"++t,t++s,s++t,tN++Str.ofString "/"++tD,df t none (some (-1)),t,df t none (some a)++s++df t (some a) none,df t none (some a)++df t (some (a+1)) none,df t none (some a)++s++df t (some (a+1)) none] q3 r3 [g1,g2] (fun z hz=>by
  simp only[List.mem_cons,List.not_mem_nil,or_false] at hz
  rcases hz with rfl|rfl|rfl|rfl|rfl|rfl|rfl|rfl|rfl|rfl|rfl|rfl <;> (try simp only[fe]) <;> omega) rfl hq3
 simp only[List.append_assoc] at fin
 exact .inl (fin _ _)
theorem dZ {n:Nat}{z:Str}(h:z.length≤5000):PV.bel n (.str z)=true∧∀z',PV.str z=.str z'→z'.length≤5000:=⟨rfl,fun z' e=>by cases e;exact h⟩
theorem mX {xs:List PV}:(xs.map fun _=>true).all id=true:=by simp
mutual
theorem ub:∀ {x:PV}{n m:Nat},x.bel n=true→n≤m→x.bel m=true
 | .non,_,_,_,_=>rfl
 | .bl _,_,_,_,_=>rfl
 | .int _,_,_,_,_=>rfl
 | .str _,_,_,_,_=>rfl
 | .rdl xs,n,m,h,hm=>by rw[PV.bel] at h ⊢;exact lJ h hm
 | .tup xs,n,m,h,hm=>by rw[PV.bel] at h ⊢;exact lJ h hm
 | .ref k,n,m,h,hm=>by rw[PV.bel] at h ⊢;exact FF (EB (FP h) hm)
 | .fn k,n,m,h,hm=>by rw[PV.bel] at h;cases h
theorem lJ:∀ {xs:List PV}{n m:Nat},PV.bels n xs=true→n≤m→PV.bels m xs=true
 | [],_,_,_,_=>by rw[PV.bels]
 | x::xs,n,m,h,hm=>by
  rw[PV.bels,D6] at h ⊢
  exact⟨ub h.1 hm,lJ h.2 hm⟩
end
theorem qy {t:Tg}{b:Ss}{chk:AH→Prop}{D:aA}{xs:List PV}{ρ:Fr}{st:AH}(h:∀S,S=st→qq Γ t b chk D xs ρ S):qq Γ t b chk D xs ρ st:=h st rfl
def Pre (S s:AH):Prop:=∃g,s=S++g
theorem Pre.refl (S:AH):Pre S S:=⟨[],by simp⟩
theorem Pre.app {S s:AH}(h:Pre S s)(g:AH):Pre S (s++g):=by obtain⟨a,rfl⟩:=h;exact⟨a++g,by simp⟩
theorem Pre.set {S s:AH}(h:Pre S s){p:Nat}(hp:S.length≤p)(c:Cell):Pre S (s.set p c):=by obtain⟨a,rfl⟩:=h;exact⟨a.set (p-S.length) c,by rw[List.set_append_right _ _ hp]⟩
theorem Pre.get {S s:AH}(h:Pre S s){n:Nat}{c:Cell}(e:S[n]?=some c):s[n]?=some c:=by obtain⟨a,rfl⟩:=h;exact ja e
theorem Pre.len {S s:AH}(h:Pre S s):S.length≤s.length:=by obtain⟨a,rfl⟩:=h;simp
theorem AD {as st Q}(h:fN as st Q):aN Γ jL (frame 7 as) st (am st Q):=by
 obtain⟨ns,rfl,hl,k⟩:=h
 unfold jL
 walk_at "WP"
 have l0:(Str.ofString "0").length=1:=rfl
 have l1:(Str.ofString "1").length=1:=rfl
 have l2:(Str.ofString "/0").length=2:=rfl
 have l3:(Str.ofString "/").length=1:=rfl
 have r1:(nB (Str.ofString "1") 4000).length=4000:=by rw [lx];rfl
 have r0:(nB (Str.ofString "0") 4000).length=4000:=by rw [lx];rfl
 refine⟨by omega,by omega,by omega,by omega,by omega,by omega,by omega,by omega,by split <;> split <;> omega,by split <;> split <;> omega,?_⟩
 refine qy fun S hS=>?_
 obtain⟨Fx,OD,e1,e2,hF⟩:∃Fx OD,S[st.length+2]?=some (.lst Fx)∧S[st.length+6]?=some (.lst OD)∧(Fx++OD).length≤100∧∀x∈Fx++OD,x.bel S.length=true∧∀z,x=.str z→z.length≤5000:=by
  subst hS
  refine⟨_,_,by simp only[List.getElem?_append_right (Nat.le_add_right ..),Nat.add_sub_cancel_left];rfl,by simp only[List.getElem?_append_right (Nat.le_add_right ..),Nat.add_sub_cancel_left];rfl,by show 28≤100;decide,fun x hx=>?_⟩
  rw[EO]
  have e7:∀j,j<7→PV.bel (st.length+7) (.ref (st.length+j))=true:=fun j hj=>by rw[PV.bel];exact FF (Nat.add_lt_add_left hj _)
  simp only[List.mem_append,List.mem_cons,List.not_mem_nil,or_false] at hx
  rcases hx with (rfl|rfl|rfl|rfl|rfl|rfl|rfl|rfl|rfl|rfl|rfl|rfl|rfl|rfl|rfl|rfl|rfl|rfl|rfl)|rfl|rfl|rfl|rfl|rfl|rfl|rfl|rfl|rfl
  all_goals first
   | exact dZ (by rw[r0];decide)
   | exact dZ (by rw[fe,r1,l2];decide)
   | exact dZ (by rw[fe,r1,l3];decide)
   | exact dZ (by decide)
   | exact⟨e7 3 (by decide),fun z e=>nomatch e⟩
   | exact⟨e7 4 (by decide),fun z e=>nomatch e⟩
   | exact⟨e7 5 (by decide),fun z e=>nomatch e⟩
   | exact⟨by rfl,fun z e=>nomatch e⟩
   | exact⟨by simp[PV.bel,PV.bels],fun z e=>nomatch e⟩
 clear hS
 refine l6 Γm (fun i ρ s=>Pre S s∧∃a b c d,ρ=[some (.rdl (ns.map PV.int)),some (.ref (st.length+2)),some (.ref (st.length+6)),a,b,c,d]) ⟨.refl S,none,none,none,none,rfl⟩ (fun i v ρ s hi hI=>?_) ?_
 ·obtain⟨hp,a,b,c,d,rfl⟩:=hI
  refine⟨trivial,?_⟩
  walk_at "WP"
  have hi6:i<64:=by
   have:=(D3.mp hi).1
   simp only[cj,List.length_map,List.length_range] at this
   revert this
   split <;> split <;> omega
  have hv:v=.int (i:Nat):=by
   unfold cj at hi
   obtain⟨m,hm,e⟩:=FS.mp ((EL ..).symm.trans hi)
   have:=D3.mp hm
   obtain⟨h1,h2⟩:=this
   rw[List.getElem_range] at h2
   subst h2
   rw[←e]
   simp
  subst hv
  refine⟨ns,i,rfl,hl,hi6,fun g1 q r hq=>?_⟩
  have hP:Pre S (s++[g1,pc q r]):=hp.app _
  have hlen:=hp.len
  have hpt:Pot (s++[g1,pc q r]) (s.length+1):=⟨q,r,by rw[EA (IE _)];simp,hq⟩
  generalize s++[g1,pc q r]=s1 at hP hpt
  generalize hpp:s.length+1=p at hpt
  have hSp:S.length≤p:=by omega
  refine⟨p,rfl,hpt,fun n d q r hf hq=>?_⟩
  have hpt:=hpt.set hq
  have hP:=hP.set hSp (pc q r)
  generalize s1.set p (pc q r)=s1 at hP hpt
  refine⟨p,8,rfl,hpt,by decide,by decide,fun x q r x0 x1 hq=>?_⟩
  have hpt:=hpt.set hq
  have hP:=hP.set hSp (pc q r)
  generalize s1.set p (pc q r)=s1 at hP hpt
  walk_at "WP"
  have hx:(cj 0 (1+x).toNat).length=(1+x).toNat:=by simp[cj]
  refine⟨by omega,by omega,by omega,?_⟩
  refine lN Γm (fun i acc s=>Pre S s∧Pot s p∧∃zs:List Str,acc=zs.map PV.str∧zs.length=i∧∀z∈zs,z.length≤200) ⟨hP,hpt,[],rfl,rfl,fun s hs=>by cases hs⟩ ?_ ?_
  ·rintro j v acc s2 hj ⟨hP,hpt,zs,rfl,hl,hz⟩
   refine⟨trivial,?_⟩
   walk_at "WP"
   refine⟨p,rfl,hpt,fun z q r hz1 hq=>⟨hP.set hSp _,hpt.set hq,zs++[z],by rw[HU];rfl,by rw[EO,hl];rfl,fun y hy=>?_⟩⟩
   rcases FG.mp hy with h|h
   ·exact hz y h
   ·rw[EW.mp h];omega
  rintro acc s2 ⟨hP,hpt,zs,rfl,hzl,hz⟩
  refine⟨trivial,?_⟩
  refine⟨p,n,d,rfl,hpt.app,hf,fun ys q r g hy hyl hq=>?_⟩
  have hl2:(s2++[Cell.lst (zs.map PV.str)]).length=s2.length+1:=by simp
  have hpl:p<s2.length:=hpt.lt
  have eL:((s2++[Cell.lst (zs.map PV.str)]).set p (pc q r)++g++[Cell.lst (ys.map PV.str)])[s2.length]?=some (.lst (zs.map PV.str)):=by
   rw[List.set_append_left _ _ hpl]
   exact ja (ja (by rw[EA (by simp)];simp))
  have eY:((s2++[Cell.lst (zs.map PV.str)]).set p (pc q r)++g++[Cell.lst (ys.map PV.str)])[(s2++[Cell.lst (zs.map PV.str)]).length+g.length]?=some (.lst (ys.map PV.str)):=by
   have:(s2++[Cell.lst (zs.map PV.str)]).length+g.length=((s2++[Cell.lst (zs.map PV.str)]).set p (pc q r)++g).length:=by simp
   rw[this]
   exact dC
  have hP:=((hP.app [Cell.lst (zs.map PV.str)]).set hSp (pc q r)).app g |>.app [Cell.lst (ys.map PV.str)]
  generalize (s2++[Cell.lst (zs.map PV.str)]).set p (pc q r)++g++[Cell.lst (ys.map PV.str)]=s3 at hP eL eY
  rw[hl2,Nat.add_assoc] at eY
  walk_at "WP"
  refine⟨_,eL,_,eY,by simp only[List.length_map];omega,?_⟩
  refine⟨n,d,rfl,hf,?_⟩
  have hft:=rX hf.1 hf.2.2.1
  walk_at "WP"
  have hlz:(zs.map PV.str).length=zs.length:=EN ..
  have hly:(ys.map PV.str).length=ys.length:=EN ..
  refine⟨by omega,_,bA (n:=s3.length+2) (by rw[EA (HH ..),GK];rfl),by simp only[List.length_append,List.length_cons,List.length_nil];omega,?_⟩
  refine FW.comp_map Γm (fun _=>.bl true) rfl (fun v hv=>?_) ?_
  ·walk_at "WP"
   refine⟨v,rfl,?_,rfl,rfl⟩
   rcases FG.mp hv with hv|hv
   ·obtain⟨z,hz1,rfl⟩:=HJ.mp hv
    exact dZ (EX (hz z hz1) (by decide))
   ·rcases FG.mp hv with hv|hv
    ·obtain⟨z,hz1,rfl⟩:=HJ.mp hv
     exact dZ (EX (hy z hz1) (by decide))
    ·rw[EW.mp hv]
     exact dZ (by omega)
  ·refine⟨_,dW dC,_,e_ (f:=fun _=>true),?_⟩
   rw[mX,FO]
   refine⟨s3++[Cell.lst (zs.map PV.str++ys.map PV.str)],[Cell.lst [PV.str (ft n d)],Cell.lst (zs.map PV.str++(ys.map PV.str++[PV.str (ft n d)])),_],by rw[FO];rfl,rfl,Sub.refl _,rfl,?_⟩
   walk_at "WP"
   exact hP.app _
 ·rintro ρ s ⟨hp,a,b,c,d,rfl⟩
  refine⟨trivial,?_⟩
  walk_at "WP"
  refine⟨Fx,hp.get e1,OD,hp.get e2,?_⟩
  have hF1:=hF.1
  rw[EO] at hF1
  refine⟨by omega,by omega,_,bA (n:=s.length+2) (by rw[EA (HH ..),GK];rfl),by simp only[List.length_append,List.length_cons,List.length_nil];omega,?_⟩
  refine FW.comp_map Γm (fun _=>.bl true) rfl (fun v hv=>?_) ?_
  ·walk_at "WP"
   refine⟨v,rfl,?_,rfl,rfl⟩
   have hpl:=hp.len
   rw[←FO] at hv
   rcases FG.mp hv with hv|hv
   ·obtain⟨h1,h2⟩:=hF.2 v hv
    exact⟨ub h1 (by rw[EO];omega),h2⟩
   ·simp only[List.mem_cons,List.not_mem_nil,or_false] at hv
    rcases hv with rfl|rfl
    ·exact dZ (by decide)
    ·exact dZ (by decide)
  ·refine⟨_,dW dC,_,e_ (f:=fun _=>true),?_⟩
   rw[mX]
   rw[FO]
   exact .app rfl (.inl (k _))
local macro_rules | `(tactic| walk_at "AR")=>`(tactic| first|exact fun _ _ _ _ _ _ us hl=>ar1 (P:=fun us=>bindArgs _ { pos:=us }=pure (List.zip _ us)) (fun _=>rfl) us hl|exact fun _ _ _ _ _ _ us hl=>ar2 (P:=fun us=>bindArgs _ { pos:=us }=pure (List.zip _ us)) (fun _ _=>rfl) us hl|exact fun _ _ _ _ _ _ us hl=>ar3 (P:=fun us=>bindArgs _ { pos:=us }=pure (List.zip _ us)) (fun _ _ _=>rfl) us hl|exact fun _ _ _ _ _ _ us hl=>ar4 (P:=fun us=>bindArgs _ { pos:=us }=pure (List.zip _ us)) (fun _ _ _ _=>rfl) us hl|exact fun _ _ _ _ _ _ us hl=>ar5 (P:=fun us=>bindArgs _ { pos:=us }=pure (List.zip _ us)) (fun _ _ _ _ _=>rfl) us hl)
abbrev zn (K:W.Frag)(n:Str):Prop:=W.nsIn K mainGlobals n=some none
theorem all_mk {l:W.OpenLaw}{q:Program}{w:World}{K:W.Frag}{h:Heap}{mg:Str→Option Value}{fa:Addr}(X:K.In h)(G:h.Ns mainGlobals mg)(hfa:mg "law"=some (.ref fa))
  {C0 C1 C2 C3 C4 C5:Addr}
  {tg0:Tok}
  {tg1:Tok}
  {tg2:Tok}
  (d0:DI K "common_divisor" bC) (d1:DI K "is_number_text" bD) (d2:DI K "read_number" cw) (d3:DI K "read_fraction" bK) (d4:DI K "_law_pot" dQ) (d5:DI K "_law_digit" cM) (d6:DI K "_law_great" cT) (d7:DI K "_law_common" cA) (d8:DI K "_law_is_whole" bJ) (d9:DI K "_law_is_fraction" a9) (d10:DI K "_law_fraction" bI) (d11:DI K "_law_text" dq) (d12:DI K "_law_number" cy) (d13:DI K "_law_reading" bS) (d14:DI K "_law_read" dn) (d15:DI K "_law_right" cO) (d16:DI K "_law_drawn" cR) (d17:DI K "_law_spoilt" cz) (d18:DI K "law" iD) (z0:zn K "all") (z1:zn K "range") (z2:zn K "len") (z3:zn K "int") (z4:zn K "isinstance") (z5:zn K "str") (z6:zn K "divmod") (z7:zn K "tuple") (z8:zn K "max") (z9:zn K "ValueError") (z10:zn K "min") (tz0:zn K "coming") (tz1:zn K "latest") (tz2:zn K "through") (y0:CI K "HourError" C0) (y1:CI K "NoText" C1) (y2:CI K "NoDay" C2) (y3:CI K "NoTie" C3) (y4:CI K "NotRight" C4) (y5:CI K "Overtaken" C5) (ex0:W.excIn K C0 eo "ValueError.__new__"=true) (ex1:W.excIn K C1 eo "ValueError.__new__"=true) (xv0:W.mroIn K C1 (.type "ValueError")=some true) (rl_0_0:W.mroIn K C1 (.ref C0)=some true) (rl_0_1:W.mroIn K C1 (.ref C1)=some true) (rl_0_2:W.mroIn K C1 (.ref C2)=some false) (ne_0_2:C1≠C2) (rl_0_3:W.mroIn K C1 (.ref C3)=some false) (ne_0_3:C1≠C3) (rl_0_4:W.mroIn K C1 (.ref C4)=some false) (ne_0_4:C1≠C4) (rl_0_5:W.mroIn K C1 (.ref C5)=some false) (ne_0_5:C1≠C5) (ga0_:W.nsIn K mainGlobals "FIGURES"=some (some (.str "0123456789" tg0))) (ga1_:W.nsIn K mainGlobals "BLOCK_FIGURES"=some (some (.int 64 tg1))) (ga2_:W.nsIn K mainGlobals "BLOCK"=some (some (.int 10000000000000000000000000000000000000000000000000000000000000000 tg2)))
  : ∃fd:FuncData,(∀(s:Shared) (v:Value),BindsTo s fd ⟨[v],[]⟩ [("_law_script",v)])∧uz K∧(∀x∈aW,W.tabIn K x=none∨∃d,(PyProof.Rows.recsOf q).find? (fun e=>e.name == x)=some d)∧∀base:Heap,K.In base→base.Ns mainGlobals mg→i7 K mg base→i4 l.prog w K mg base CX0 19 fa fd ["_law_script"] (b8 K fN):=by
 obtain⟨f,oc,od,kV,dc,pm,an,cd,ct,sl,aL,lL,cL,kL⟩:=d18
 have e:=hfa.symm.trans (GN X G aL)
 cases e
 have hb:∀x∈xO,mg x=none:=by
  intro x hx
  simp only[xO,List.mem_cons,List.not_mem_nil,or_false] at hx
  rcases hx with rfl|rfl|rfl|rfl|rfl|rfl|rfl|rfl|rfl|rfl|rfl
  ·exact FN X G z0
  ·exact FN X G z1
  ·exact FN X G z2
  ·exact FN X G z3
  ·exact FN X G z4
  ·exact FN X G z5
  ·exact FN X G z6
  ·exact FN X G z7
  ·exact FN X G z8
  ·exact FN X G z9
  ·exact FN X G z10
 have hgl:∀x v,glL.lookup x=some v→∃u y,mg x=some u∧RelV y u∧∀m H,R K m H v y:=by
  intro x v hx
  by_cases q0:x=("FIGURES":Str)
  ·subst q0
   have e:v=dR:=by
    have:glL.lookup ("FIGURES":Str)=some dR:=rfl
    rw[this] at hx;cases hx;rfl
   subst e
   exact ⟨_,.str "0123456789",GN X G ga0_,⟨tg0,rfl⟩,fun m H=>R_str.mpr rfl⟩
  by_cases q1:x=("BLOCK_FIGURES":Str)
  ·subst q1
   have e:v=aS:=by
    have:glL.lookup ("BLOCK_FIGURES":Str)=some aS:=rfl
    rw[this] at hx;cases hx;rfl
   subst e
   exact⟨_,.int 64,GN X G ga1_,⟨tg1,rfl⟩,fun m H=>R_int.mpr rfl⟩
  by_cases q2:x=("BLOCK":Str)
  ·subst q2
   have e:v=gi:=by
    have:glL.lookup ("BLOCK":Str)=some gi:=rfl
    rw[this] at hx;cases hx;rfl
   subst e
   exact⟨_,.int 10000000000000000000000000000000000000000000000000000000000000000,GN X G ga2_,⟨tg2,rfl⟩,fun m H=>R_int.mpr rfl⟩
  exact absurd hx (by simp only[glL,List.lookup_cons,List.lookup_nil];simp only[beq_eq_false_iff_ne.mpr q0,beq_eq_false_iff_ne.mpr q1,beq_eq_false_iff_ne.mpr q2];exact fun z=>nomatch z)
 have t_coming:=on tz0
 have t_latest:=on tz1
 have t_through:=on tz2
 refine ⟨W.fnOf "law" "law" (bz iD) (ah iD) (ac iD) .none kV dc pm an cd ct,fun s v=>.of_eq rfl,?lk,?lq,fun base _ _ B=>?_⟩
 case lk =>
  refine vD fun x hx=>?_
  simp only[aW,List.mem_cons,List.not_mem_nil,or_false] at hx
  rcases hx with rfl|rfl|rfl
  ·exact .inl t_coming
  ·exact .inl t_latest
  ·exact .inl t_through
 case lq =>
  intro x hx
  simp only[aW,List.mem_cons,List.not_mem_nil,or_false] at hx
  rcases hx with rfl|rfl|rfl
  ·exact .inl t_coming
  ·exact .inl t_latest
  ·exact .inl t_through
 have T:XT K mg FX.xs ysL (fun k=>([C1]:List Addr).getD k 0) (fun i=>([C0,C1,C2,C3,C4,C5]:List Addr).getD i 0) B':=by
  refine⟨fun i x e=>?_,fun k hk=>?_,fun k i hk hi=>?_⟩
  ·match i,e with
   | 0,e=>cases e;exact⟨GN X G y0.1,y0.cl⟩
   | 1,e=>cases e;exact⟨GN X G y1.1,y1.cl⟩
   | 2,e=>cases e;exact⟨GN X G y2.1,y2.cl⟩
   | 3,e=>cases e;exact⟨GN X G y3.1,y3.cl⟩
   | 4,e=>cases e;exact⟨GN X G y4.1,y4.cl⟩
   | 5,e=>cases e;exact⟨GN X G y5.1,y5.cl⟩
  ·match k,hk with
   | 0,hk=>exact⟨y1.cl,xv0⟩
  ·match k,hk with
   | 0,hk =>
    match i,hi with
    | 0,hi=>exact⟨rl_0_0,fun z=>absurd z (by decide)⟩
    | 1,hi=>exact⟨rl_0_1,fun z=>absurd z (by decide)⟩
    | 2,hi=>exact⟨rl_0_2,fun _=>ne_0_2⟩
    | 3,hi=>exact⟨rl_0_3,fun _=>ne_0_3⟩
    | 4,hi=>exact⟨rl_0_4,fun _=>ne_0_4⟩
    | 5,hi=>exact⟨rl_0_5,fun _=>ne_0_5⟩
 have G0:JX l.prog w K mg base dF FX Γ ΓR (fun k=>([C1]:List Addr).getD k 0):=by
  refine⟨⟨fun f x hf=>absurd hf (GW _),hb,hgl,Γm⟩,⟨fun f x hf=>absurd hf (GW _),fun k x e=>?_,ΓRm⟩⟩
  match k,e with
  | 0,e=>cases e;exact⟨GN X G y1.1,ex1⟩
 have G1:JX l.prog w K mg base dD FX Γ ΓR (fun k=>([C1]:List Addr).getD k 0):=G0.nx (sp:=ak) X G d0 gr g0 cW ik (by walk_at "AR")
 have G2:JX l.prog w K mg base fG FX Γ ΓR (fun k=>([C1]:List Addr).getD k 0):=G1.nx (sp:=aP) X G d1 gh hV fW ij (by walk_at "AR")
 have G3:JX l.prog w K mg base ei FX Γ ΓR (fun k=>([C1]:List Addr).getD k 0):=G2.nxX (sp:=aE) X G d2 jx kq i3 cu j7 (by walk_at "AR")
 have G4:JX l.prog w K mg base jE FX Γ ΓR (fun k=>([C1]:List Addr).getD k 0):=G3.nxX (sp:=ax) X G d3 ii iN gK bO iU (by walk_at "AR")
 have G5:JX l.prog w K mg base gI FX Γ ΓR (fun k=>([C1]:List Addr).getD k 0):=G4.nx (sp:=bo) X G d4 mD oy lA oQ (by walk_at "AR")
 have G6:JX l.prog w K mg base gq FX Γ ΓR (fun k=>([C1]:List Addr).getD k 0):=G5.nx (sp:=aY) X G d5 ki mv jv ly (by walk_at "AR")
 have G7:JX l.prog w K mg base fF FX Γ ΓR (fun k=>([C1]:List Addr).getD k 0):=G6.nx (sp:=aX) X G d6 j2 lE jf lX (by walk_at "AR")
 have G8:JX l.prog w K mg base eh FX Γ ΓR (fun k=>([C1]:List Addr).getD k 0):=G7.nx (sp:=bV) X G d7 jk jZ iQ j9 (by walk_at "AR")
 have G9:JX l.prog w K mg base c_ FX Γ ΓR (fun k=>([C1]:List Addr).getD k 0):=G8.nx (sp:=bB) X G d8 gX iV gx i0 (by walk_at "AR")
 have G10:JX l.prog w K mg base ej FX Γ ΓR (fun k=>([C1]:List Addr).getD k 0):=G9.nx (sp:=aQ) X G d9 fB f9 eJ fX (by walk_at "AR")
 have G11:JX l.prog w K mg base iu FX Γ ΓR (fun k=>([C1]:List Addr).getD k 0):=G10.nx (sp:=aM) X G d10 gS iR gm iP (by walk_at "AR")
 have G12:JX l.prog w K mg base fI FX Γ ΓR (fun k=>([C1]:List Addr).getD k 0):=G11.nx (sp:=bw) X G d11 lV nQ kh mL (by walk_at "AR")
 have G13:JX l.prog w K mg base eI FX Γ ΓR (fun k=>([C1]:List Addr).getD k 0):=G12.nx (sp:=a7) X G d12 jU ko iW j0 (by walk_at "AR")
 have G14:JX l.prog w K mg base ir FX Γ ΓR (fun k=>([C1]:List Addr).getD k 0):=G13.nx (sp:=aV) X G d13 iM jr hJ jO (by walk_at "AR")
 have G15:JX l.prog w K mg base gj FX Γ ΓR (fun k=>([C1]:List Addr).getD k 0):=G14.nxT (sp:=a8) T ex0 X G d14 lH mR kj nD (by walk_at "AR")
 have G16:JX l.prog w K mg base gc FX Γ ΓR (fun k=>([C1]:List Addr).getD k 0):=G15.nx (sp:=bc) X G d15 kn l_ jh lF (by walk_at "AR")
 have G17:JX l.prog w K mg base fM FX Γ ΓR (fun k=>([C1]:List Addr).getD k 0):=G16.nx (sp:=bb) X G d16 kg my jc md (by walk_at "AR")
 have G18:JX l.prog w K mg base v9 FX Γ ΓR (fun k=>([C1]:List Addr).getD k 0):=G17.nx (sp:=a6) X G d17 jz jY iG j1 (by walk_at "AR")
 exact vV (qual:="law") (tF (st:=iD) lL cL kL) y8 rfl rfl As G18.g (fun as st Q=>vt) (fun as st Q=>AD)
end My
namespace PySem.W.Fast
def tw7981236815590221020:=()
def tw12567284212658442013:=()
def tw1901840322838947462:=()
def tw10722686611173010891:=()
def tw1805167365294718450:=()
def tw3860291235964385410:=()
def tw2054721136351533988:=()
def tw6059323329308073841:=()
def tw3851097432871304428:=()
def tw15695944405089863877:=()
def tw1625785081508046904:=()
def tw9504109142106640138:=()
def tw18330676858434371560:=()
def tw11419047287411741279:=()
def tw6357056543816378732:=()
def tw10769042420786950352:=()
def tw9962771299458270950:=()
def tw4468782236080043848:=()
def tw4615372300968869898:=()
def tw12808273900331359004:=()
def tw10041630071462894097:=()
def tw13571234132697172744:=()
def tw10859926943349653376:=()
def tw10102497545199075523:=()
def tw5988871350788110394:=()
def tw12810322262868431450:=()
def tw9389064682192314622:=()
def tw7300709063809800348:=()
def tw4742407543476886135:=()
def tw2506224399325049190:=()
def tw5497807170887938586:=()
def tw9096410434116407847:=()
def tw8924226335827448469:=()
def tw1511975075672593275:=()
def tw16967749203470854048:=()
def tw9611768545524743693:=()
def tw4983689916550950949:=()
def tw2681221727501421293:=()
def tw9937544962101399767:=()
def tw16776456099275272549:=()
def tw17596957793932778185:=()
def tw8317354858962474938:=()
def tw2537459294956513412:=()
def tw5009099795212985360:=()
def tw12579790195542122166:=()
def tw8855677697797746986:=()
def tw4168522630852971689:=()
def tw3739817304255244571:=()
def tw4381919317757866787:=()
def tw6021667330166322195:=()
def tw2071713973803432704:=()
def tw5988006482568058759:=()
def tw1406246602358558390:=()
def tw18082815801929665555:=()
def tw11595151015723248181:=()
def tw1785096706079335769:=()
def tw17654706411576063813:=()
def tw16960047906936815597:=()
def tw11891221187261736086:=()
def tw18309335866992435229:=()
def tw7728715567784912466:=()
def tw10657205313437641089:=()
def tw12009879080826055020:=()
def tw17350358456641736125:=()
def tw15911312896117447425:=()
def tw15088018392453197524:=()
def tw12207068483958082762:=()
def tw14187701452438741280:=()
def tw8056271621376529251:=()
def tw13043471135215455176:=()
def tw964805592479549613:=()
def tw4140313143476391213:=()
def tw15795250772139663362:=()
def tw16568955767556439687:=()
def tw9116660106710276926:=()
def tw9962926826418745022:=()
def tw559319879041836516:=()
def tw16302723629417645625:=()
def tw6769593499040248935:=()
def tw63530474536817468:=()
def tw5992605918583994253:=()
def tw596615935249007279:=()
def tw5525121088905123161:=()
def tw2906338558730618549:=()
def tw17454808148827706841:=()
def tw15749449368534702668:=()
def tw14922700280992034119:=()
def tw14598479259630126732:=()
def tw14085477511151905120:=()
def tw13508661322826420413:=()
def tw1313346106229692173:=()
def tw11220991717990974696:=()
def tw10048636159188197650:=()
def tw150311167972769505:=()
def tw11662272769625039347:=()
def tw2266282366803131406:=()
def tw9431070997534235429:=()
def tw16971480291075686582:=()
def tw12702737581363359042:=()
def tw8524281752652285726:=()
def tw4287226497146998740:=()
def tw16518133027181467222:=()
def tw11242438212825983547:=()
def tw11167872631006415630:=()
def tw5842993344442657176:=()
def tw5188835475399490881:=()
def tw18109643334193338835:=()
def tw15838048948600713907:=()
def tw12438295235247586691:=()
def tw460879172305375943:=()
def tw15996954741099138353:=()
def tw8085717639483623749:=()
def tw7675280299928816761:=()
def tw7026566773850542755:=()
def tw3608756538864353257:=()
def tw15178324987409611823:=()
def tw15103312163528073337:=()
def tw15042928415346145262:=()
def tw14805244656887840921:=()
def tw12156463510617694899:=()
def tw10257979379430038377:=()
def tw2150774335158084786:=()
def tw6214920153112184176:=()
def tw992607341661583199:=()
def tw8580348932192800714:=()
def tw613306177091258903:=()
def tw6117895094126890834:=()
def tw5862212259734586590:=()
def tw13806133992810133867:=()
def tw8565872776457460653:=()
def tw16345069171928050627:=()
def tw15468831270974982237:=()
def tw9753837635066625074:=()
def tw4531726947069015658:=()
def tw18199412689258948214:=()
def tw16282967002951030001:=()
def tw3304789428474736330:=()
def tw9893831503215775176:=()
def tw17653425764855082414:=()
def tw17485886209834519804:=()
def tw877664580502512342:=()
def tw13669483459609307252:=()
def tw13511287856429690522:=()
def tw12243620133947401691:=()
def tw11413242829213312259:=()
def tw10889698621965041268:=()
def tw8343931783436781600:=()
def tw5994493714372071865:=()
def tw14646779418133588530:=()
def tw13121149012778094651:=()
def tw917020051040365231:=()
def tw5543022468326273158:=()
def tw9331638092544116809:=()
def tw5231222602872625513:=()
def tw3212537062164677066:=()
def tw1647685903673454408:=()
def tw16065051807183343518:=()
def tw6827732651640707694:=()
def tw5736956501438298738:=()
def tw16805860911300223419:=()
def tw10884010830642546939:=()
def tw9194943155649310872:=()
def tw5502692138193127366:=()
def tw9250974538963502751:=()
def tw8602556131132189215:=()
def tw7191184395941965798:=()
def tw4522373706793639947:=()
def tw1900610894268293401:=()
def tw1695707919508591158:=()
def tw10120517836192889024:=()
def tw7571550638413113916:=()
def tw5102849457199718163:=()
def tw16384649411206562306:=()
def tw14304994303332567594:=()
def tw1150363205609448189:=()
def tw8510360121433768454:=()
def tw6563501994284323683:=()
def tw5248272595313223421:=()
def tw4829981591770661988:=()
def tw1862796320914869996:=()
def tw16974766684571484890:=()
def tw15562660426274176953:=()
def tw13878481849367162471:=()
def tw13218881765861925586:=()
def tw12013122300512116491:=()
def tw11867779274778537645:=()
def tw5005531599430777825:=()
def tw4193114542983236088:=()
def tw17230132081056560140:=()
def tw15587066852955161846:=()
def tw11888588369321276283:=()
def tw11274985340822482644:=()
def tw17391287660663541054:=()
def tw6118317068526397550:=()
def tw471120253568677683:=()
def tw18056073426948792056:=()
def tw15952492511812157163:=()
def tw15255130306281372128:=()
def tw13802209412746245229:=()
def tw9093956690932028840:=()
def tw8835390446914904429:=()
def tw8323947841864683400:=()
def tw8207099355369726178:=()
def tw7866695896746849608:=()
def tw7764718885962569517:=()
def tw7656483460882119268:=()
def tw7578548861238332828:=()
def tw7380171956259934081:=()
def tw6510750990730649260:=()
def tw6498784460401390850:=()
def tw5982267616922777434:=()
def tw5974352140901355559:=()
def tw5870427246167345898:=()
def tw5614511506973769098:=()
def tw4344296623686787272:=()
def tw4187394864281485654:=()
def tw4079309679761766444:=()
def tw4060465762492210587:=()
def tw3904825435475958454:=()
def tw3884287576215469252:=()
def tw3357045587290032457:=()
def tw3245953204411793181:=()
def tw3116836345836725976:=()
def tw2396109370370928763:=()
def tw2380162794309508993:=()
def tw18068686385169457635:=()
def tw18054146009028578849:=()
def tw17967848484691936677:=()
def tw17677741932483671482:=()
def tw16828102622522312921:=()
def tw16789483095149910843:=()
def tw16417060406213872402:=()
def tw16379696746138538443:=()
def tw16162887701379326855:=()
def tw15981873062662729022:=()
def tw15477078064278811578:=()
def tw15316195562756106053:=()
def tw14682315437953478496:=()
def tw13949763125509748580:=()
def tw13558768081563409448:=()
def tw13020306734454369559:=()
def tw12939678388427237414:=()
def tw12929602635671788283:=()
def tw12561546586828177391:=()
def tw12025034552986750901:=()
def tw11844329944117173736:=()
def tw11700674843902807579:=()
def tw1148777555904346471:=()
def tw10519792279491917079:=()
def tw10067908041488102820:=()
def tw10052449276862401798:=()
def tw9169410337284868874:=()
def tw9153908944400152608:=()
def tw9066946880279705994:=()
def tw8756049050115566546:=()
def tw6257177223157086831:=()
def tw5955171230809099573:=()
def tw5422780855971198884:=()
def tw5222988414742126097:=()
def tw4498691311997899184:=()
def tw3097747721978281469:=()
def tw18154328233788721863:=()
def tw17230661746917593371:=()
def tw16743063052168953997:=()
def tw16288853337975643635:=()
def tw15950611539663026439:=()
def tw15468355170171844597:=()
def tw14634791623368908691:=()
def tw14135651267111640445:=()
def tw13473657401310975316:=()
def tw13419228999631868318:=()
def tw12429410341430981155:=()
def tw12100184461906135706:=()
def tw11904391836687701866:=()
def tw10914521770054230587:=()
def tw10112019989188676136:=()
def tw10065257091141454235:=()
end PySem.W.Fast
open PySem PySem.W PyProof.Rows
local macro_rules | `(tactic| walk_at "DI")=>`(tactic| (refine' FW.DI_mk ?a ?l ?c ?k;(case a=>k_is);(case l=>k_is);(case c=>k_is);(case k=>k_is)))
local macro_rules | `(tactic| walk_at "CI")=>`(tactic| (refine' FW.CI_mk ?a ?b ?c ?d ?e ?f ?g ?h;(case a=>k_is);(case b=>k_is);(case c=>k_is);(case d=>k_is);(case e=>k_is);(case f=>k_is);(case g=>k_is);(case h=>k_is)))
set_option maxRecDepth 100000 in
set_option maxHeartbeats 0 in
theorem PySem.Challenge.cw_hourstairs_k15_whole_no_texts_holds : PySem.Challenge.rw_hourstairs_k15_whole_no_texts.Holds := by
 w_on;o_law;k_head;(case hw=>w_witness2)
 k_fill
 refine FW.walkF (l:=PySem.Challenge.rw_hourstairs_k15_whole_no_texts) (k:=19) (x:="_law_script") rfl rfl ⟨rfl,by decide,by decide,rfl⟩ (fun w h Y=>PySem.W.kIn_of Y) ?F
 case F =>
  intro w mg fa h KX G hmg
  refine' My.all_mk KX G hmg ?d0 ?d1 ?d2 ?d3 ?d4 ?d5 ?d6 ?d7 ?d8 ?d9 ?d10 ?d11 ?d12 ?d13 ?d14 ?d15 ?d16 ?d17 ?d18 ?z0 ?z1 ?z2 ?z3 ?z4 ?z5 ?z6 ?z7 ?z8 ?z9 ?z10 ?tz0 ?tz1 ?tz2 ?y0 ?y1 ?y2 ?y3 ?y4 ?y5 ?ex0 ?ex1 ?xv0 ?rl_0_0 ?rl_0_1 ?rl_0_2 ?ne_0_2 ?rl_0_3 ?ne_0_3 ?rl_0_4 ?ne_0_4 ?rl_0_5 ?ne_0_5 ?ga0_ ?ga1_ ?ga2_
  all_goals first|delta My.zn|skip
  (case d0=>walk_at "DI")
  (case d1=>walk_at "DI")
  (case d2=>walk_at "DI")
  (case d3=>walk_at "DI")
  (case d4=>walk_at "DI")
  (case d5=>walk_at "DI")
  (case d6=>walk_at "DI")
  (case d7=>walk_at "DI")
  (case d8=>walk_at "DI")
  (case d9=>walk_at "DI")
  (case d10=>walk_at "DI")
  (case d11=>walk_at "DI")
  (case d12=>walk_at "DI")
  (case d13=>walk_at "DI")
  (case d14=>walk_at "DI")
  (case d15=>walk_at "DI")
  (case d16=>walk_at "DI")
  (case d17=>walk_at "DI")
  (case d18=>walk_at "DI")
  (case z0=>k_is)
  (case z1=>k_is)
  (case z2=>k_is)
  (case z3=>k_is)
  (case z4=>k_is)
  (case z5=>k_is)
  (case z6=>k_is)
  (case z7=>k_is)
  (case z8=>k_is)
  (case z9=>k_is)
  (case z10=>k_is)
  (case tz0=>k_is)
  (case tz1=>k_is)
  (case tz2=>k_is)
  (case y0=>walk_at "CI")
  (case y1=>walk_at "CI")
  (case y2=>walk_at "CI")
  (case y3=>walk_at "CI")
  (case y4=>walk_at "CI")
  (case y5=>walk_at "CI")
  (case ex0=>kernel_rfl)
  (case ex1=>kernel_rfl)
  (case xv0=>k_is)
  (case rl_0_0=>k_is)
  (case rl_0_1=>k_is)
  (case rl_0_2=>k_is)
  (case ne_0_2=>decide)
  (case rl_0_3=>k_is)
  (case ne_0_3=>decide)
  (case rl_0_4=>k_is)
  (case ne_0_4=>decide)
  (case rl_0_5=>k_is)
  (case ne_0_5=>decide)
  (case ga0_=>k_is)
  (case ga1_=>k_is)
  (case ga2_=>k_is)
