import PyProof.Rows.All
import Wide.All
import OpenK.AllK
import Wide.FinOn
import Lean
import PyProof.EqAt
import PyProof.EqKinds
import PyProof.TupleCall
import PyProof.FactsAll.set
import PyProof.DictWalks
import PyProof.CollectWalk
import PyProof.Rows.SetFrom
import PyProof.Rows.SortWalk
import PyProof.Rows.SortStr
import PyProof.Rows.MinMaxN
import KE.LcSums
import PyProof.DictItems
import PyProof.DictCompW
import PyProof.NeKinds
import KE.KEqDict
import KE.KPairComp
import KE.KDictOf
import PyProof.AttrMissHeap
import PySem.Challenge.RW_hourstairs_k88_without_places
set_option genSizeOfSpec false
set_option Elab.async false
set_option linter.all false
set_option maxRecDepth 100000
namespace L2
open PySem PySem.Spec PyProof.Rows
noncomputable abbrev Key:=Sum Int Str
noncomputable def jg:Key→Value→Bool
 | .inl k,v=>Value.isInt k v
 | .inr x,v=>Value.isStrOf x v
noncomputable def zw (w:World):Key→Int
 | .inl k=>hashInt k
 | .inr x=>hashStr w x
theorem aI:∀ {k:Key} {v:Value},jg k v=true→(∃i t,k=Sum.inl i∧v=Value.int i t)∨(∃x t,k=Sum.inr x∧v=Value.str x t)
 | .inl i,v,h=>by
  obtain ⟨t,e⟩:=Value.isInt_shape (k:=i) (v:=v) h
  exact .inl ⟨i,t,rfl,e⟩
 | .inr x,v,h=>by
  obtain ⟨t,e⟩:=Value.isStrOf_shape (x:=x) (v:=v) h
  exact .inr ⟨x,t,rfl,e⟩
theorem ol (i:Int) (t:Tok):jg (.inl i) (.int i t)=true:=by simp [jg,Value.isInt]
theorem om (x:Str) (t:Tok):jg (.inr x) (.str x t)=true:=by simp [jg,Value.isStrOf]
theorem vQ (a b:Int):decide ((Sum.inl a:Key)=Sum.inl b)=(a == b):=by
 by_cases e:a=b
 ·subst e;simp
 ·have h:¬(Sum.inl a:Key)=Sum.inl b:=fun q=>e (Sum.inl.inj q)
  rw [decide_eq_false h]
  exact (beq_eq_false_iff_ne.mpr e).symm
theorem wS (a b:Str):decide ((Sum.inr a:Key)=Sum.inr b)=decide (a=b):=by
 by_cases e:a=b
 ·subst e;simp
 ·have h:¬(Sum.inr a:Key)=Sum.inr b:=fun q=>e (Sum.inr.inj q)
  rw [decide_eq_false h,decide_eq_false e]
theorem xb (a:Int) (b:Str):decide ((Sum.inl a:Key)=Sum.inr b)=false:=decide_eq_false (fun q=>nomatch q)
theorem wg (a:Str) (b:Int):decide ((Sum.inr a:Key)=Sum.inl b)=false:=decide_eq_false (fun q=>nomatch q)
noncomputable def ak (prog:Program) (w:World):PySem.KeyKind prog w Key where
 is:=jg
 hash:=zw w
 inj:=fun v a b ha hb=>by
  rcases aI ha with ⟨i,t,rfl,rfl⟩|⟨x,t,rfl,rfl⟩
  ·rcases aI hb with ⟨j,u,rfl,e⟩|⟨y,u,rfl,e⟩
   ·injection e with e1 _;rw [e1]
   ·exact nomatch e
  ·rcases aI hb with ⟨j,u,rfl,e⟩|⟨y,u,rfl,e⟩
   ·exact nomatch e
   ·injection e with e1 _;rw [e1]
 byValue:=fun k v h=>by
  rcases aI h with ⟨i,t,rfl,rfl⟩|⟨x,t,rfl,rfl⟩ <;> rfl
 pyHash:=fun hv h=>by
  rcases aI hv with ⟨i,t,rfl,rfl⟩|⟨x,t,rfl,rfl⟩
  ·exact wpAny_pyHash_int h
  ·exact wpAny_pyHash_str h
 eqBool:=fun hu hv h=>by
  rcases aI hu with ⟨i,t,rfl,rfl⟩|⟨x,t,rfl,rfl⟩
  ·rcases aI hv with ⟨j,u,rfl,rfl⟩|⟨y,u,rfl,rfl⟩
   ·rw [vQ] at h;exact wpAny_eqBool_int h
   ·rw [xb] at h;exact SeqAt.EqAt.int_str i t y u _ _ _ _ h
  ·rcases aI hv with ⟨j,u,rfl,rfl⟩|⟨y,u,rfl,rfl⟩
   ·rw [wg] at h;exact SeqAt.EqAt.str_int x t j u _ _ _ _ h
   ·rw [wS] at h;exact wpAny_eqBool_str h
 «strs»:=fun k x t v h=>by
  rcases aI h with ⟨i,u,rfl,e⟩|⟨y,u,rfl,e⟩
  ·exact nomatch e
  ·injection e with e1 _
   subst e1
   cases v <;> rfl
theorem kg (prog:Program) (w:World) (i:Int) (t:Tok):(ak prog w).is (.inl i) (.int i t)=true:=ol i t
theorem lr (prog:Program) (w:World) (x:Str) (t:Tok):(ak prog w).is (.inr x) (.str x t)=true:=om x t
end L2
namespace L2
open PySem PySem.Spec PyProof.Rows
inductive V where
 | non|bl (b:Bool)|int (i:Int)|str (x:Str)|byt (b:Array UInt8)|flt (b:UInt64)|ref (a:Addr)|ty (n:String)
 deriving DecidableEq
noncomputable def RelV:V→Value→Prop
 | .non,u=>u=Value.none
 | .bl b,u=>u=Value.bool b
 | .int i,u=>∃t,u=Value.int i t
 | .str x,u=>∃t,u=Value.str x t
 | .byt b,u=>∃t,u=Value.bytes b t
 | .flt b,u=>∃t,u=Value.float b t
 | .ref a,u=>u=Value.ref a
 | .ty n,u=>u=Value.type n
noncomputable abbrev Vals:List V→List Value→Prop:=Paired RelV
theorem Vals.length {xs:List V} {us:List Value} (r:Vals xs us):xs.length=us.length:=Paired.length r
theorem Vals.get:∀ {xs:List V} {us:List Value} {i:Nat} {x:V},Vals xs us→xs[i]?=some x→∃u,us[i]?=some u∧RelV x u
 | _,_,_,_,.nil,e=>by simp at e
 | _,_,0,_,.cons r _,e=>by simp at e;subst e;exact ⟨_,rfl,r⟩
 | _,_,i+1,x,.cons _ t,e=>by
  obtain ⟨u,h1,h2⟩:=Vals.get (i:=i) (x:=x) t (by simpa using e)
  exact ⟨u,by simpa using h1,h2⟩
theorem Vals.set {x:V} {u:Value} (r:RelV x u):∀ {xs:List V} {us:List Value} (i:Nat),Vals xs us→Vals (xs.set i x) (us.set i u)
 | _,_,_,.nil=>.nil
 | _,_,0,.cons _ t=>.cons r t
 | _,_,i+1,.cons q t=>.cons q (Vals.set r i t)
theorem Vals.append:∀ {xs ys:List V} {us ws:List Value},Vals xs us→Vals ys ws→Vals (xs++ys) (us++ws)
 | _,_,_,_,.nil,s=>s
 | _,_,_,_,.cons r t,s=>.cons r (Vals.append t s)
theorem Vals.take:∀ {xs:List V} {us:List Value} (n:Nat),Vals xs us→Vals (xs.take n) (us.take n)
 | _,_,0,_=>.nil
 | _,_,_+1,.nil=>.nil
 | _,_,n+1,.cons r t=>.cons r (Vals.take n t)
theorem Vals.drop:∀ {xs:List V} {us:List Value} (n:Nat),Vals xs us→Vals (xs.drop n) (us.drop n)
 | _,_,0,r=>r
 | _,_,_+1,.nil=>.nil
 | _,_,n+1,.cons _ t=>Vals.drop n t
noncomputable def RelO:Option V→Option Value→Prop
 | some v,some u=>RelV v u
 | none,none=>True
 | _,_=>False
noncomputable def KV {κ:Type}:List (κ × V)→List (κ × Value)→Prop:=Paired fun (p:κ × V) (q:κ × Value)=>p.1=q.1∧RelV p.2 q.2
noncomputable def kV:Key→V
 | .inl i=>.int i
 | .inr x=>.str x
inductive HO where
 | lst (xs:List V)
 | tup (xs:List V)
 | dK (kvs:List (Key × V))|dT (kvs:List (List Key × V))
 | set (S:Int→Bool) (n:Nat)
 | ins (C dx:Addr) (fs:List (Str × V))
 | own (x:Addr)
 | xd (fs:List (Str × V))
 | met (f x:Addr)
 | rng (lo hi:Int)
 | frz (o:Obj) (u:HO)
 | tbl (ps:Array Value)
 | ext (φ:Heap→Prop)
noncomputable abbrev Hp:=Addr→Option HO
noncomputable def upd (H:Hp) (a:Addr) (o:HO):Hp:=fun b=>if b=a then some o else H b
theorem ai {H:Hp} {a:Addr} {o:HO}:upd H a o a=some o:=by unfold upd;rw [if_pos rfl]
theorem ab {H:Hp} {a b:Addr} {o:HO} (h:b≠a):upd H a o b=H b:=by unfold upd;rw [if_neg h]
theorem yU {H:Hp} {a b:Addr} {o u:HO} (h:H a=some o) (h':H b=some u) (d:o≠u):a≠b:=by
 intro e;subst e;rw [h] at h';exact d (Option.some.inj h')
theorem ag {H:Hp} {a b:Addr} {o:HO} (h:H a=some o) (h':H b=none):a≠b:=by
 intro e;subst e;rw [h] at h';cases h'
section
variable (P:Program) (w:World)
noncomputable def ObjOk (H:Hp) (h:Heap) (a:Addr):HO→Prop
 | .lst xs=>xs.length≤sizeLine∧∃(its:List Value) (n:Nat),Vals xs its∧h.get? a=some { cls:=.type "list",data:=.seq its.toArray n }
 | .tup xs=>xs.length≤sizeLine∧∃its:List Value,Vals xs its∧IsTup h a its.toArray
 | .dK kvs=>kvs.length≤sizeLine∧(a == sysModules)=false∧∃vs,KV kvs vs∧h.DictOf (ak P w) a vs
 | .dT kvs=>kvs.length≤sizeLine∧(a == sysModules)=false∧∃xs:List (List Key × Addr × Value),
   Paired (fun (p:List Key × V) (q:List Key × Addr × Value)=>p.1=q.1∧H q.2.1=some (.tup (p.1.map kV))∧RelV p.2 q.2.2) kvs xs ∧
   ∃o es ep,h.get? a=some o∧o.ExactDict∧o.data=.dict es ep∧es.toList=xs.map (entryOfKey (tupleKind (ak P w)))∧(xs.map (·.1)).Nodup
 | .set S n=>h.SetOf (intKind P w) a S n
 | .ins C dx fs=>H dx=some (.own a)∧fs.length≤1000∧dx≠a∧h.get? a=some (PySem.W.instObj C dx) ∧
   ∃mA,h.Ns1 dx mA∧(∀f,RelO (fs.lookup f) (mA f))∧PySem.Within mA (fs.map (·.1))
 | .own _=>∃o,h.get? a=some o
 | .xd fs=>∃mA,h.Ns1 a mA∧∀f,RelO (fs.lookup f) (mA f)
 | .rng lo hi=>∃t u v,h.get? a=some { cls:=.type "range",data:=.fields #[.int lo t,.int hi u,.int 1 v] }
 | .frz o u=>h.get? a=some o∧ObjOk H h a u
 | .tbl ps=>h.get? a=some { cls:=.none,data:=.fields ps }
 | .met f x=>h.get? a=some (PySem.W.methodObj (.ref f) (.ref x))
 | .ext φ=>φ h∧(∃o,h.get? a=some o)∧∀h1 h2:Heap,φ h1→(∀o,h1.get? a=some o→h2.get? a=some o)→φ h2
noncomputable def HOk (H:Hp) (h:Heap):Prop:=∀a o,H a=some o→ObjOk P w H h a o
end
section
variable {P:Program} {w:World} {H H':Hp} {h h':Heap} {a:Addr} {o:HO}
theorem ObjOk.lt (x:ObjOk P w H h a o):a<h.objs.size:=by
 cases o with
 | lst xs=>obtain ⟨_,_,_,_,e⟩:=x;exact Heap.lt_size e
 | tup xs=>obtain ⟨_,_,_,p⟩:=x;exact p.lt
 | dK kvs=>obtain ⟨_,_,_,_,o,_,_,e,_⟩:=x;exact Heap.lt_size e
 | dT kvs=>obtain ⟨_,_,_,_,o,_,_,e,_⟩:=x;exact Heap.lt_size e
 | set S n=>obtain ⟨o,_,_,_,e,_⟩:=x;exact Heap.lt_size e
 | ins C dx fs=>obtain ⟨_,_,_,e,_⟩:=x;exact Heap.lt_size e
 | own y=>obtain ⟨_,e⟩:=x;exact Heap.lt_size e
 | xd fs=>obtain ⟨_,⟨_,_,_,e,_⟩,_⟩:=x;exact Heap.lt_size e
 | rng lo hi=>obtain ⟨_,_,_,e⟩:=x;exact Heap.lt_size e
 | frz ob u=>obtain ⟨e,_⟩:=x;exact Heap.lt_size e
 | tbl ps=>exact Heap.lt_size (show h.get? a=some _ from x)
 | met f y=>exact Heap.lt_size (show h.get? a=some _ from x)
 | ext φ=>obtain ⟨_,⟨_,e⟩,_⟩:=x;exact Heap.lt_size e
theorem Paired.mapP {α β:Type} {F G:α→β→Prop}:∀ {l₁:List α} {l₂:List β},Paired F l₁ l₂→(∀a b,F a b→G a b)→Paired G l₁ l₂
 | _,_,.nil,_=>.nil
 | _,_,.cons r t,f=>.cons (f _ _ r) (Paired.mapP t f)
theorem ObjOk.stay (x:ObjOk P w H h a o) (k:∀b u,(b=a∨H b=some (.own a))→h.get? b=some u→h'.get? b=some u)
  (ho:∀b,H b=some (.own a)→H' b=some (.own a)) (ht:∀b xs,H b=some (.tup xs)→H' b=some (.tup xs)):ObjOk P w H' h' a o:=by
 induction o with
 | lst xs=>obtain ⟨z,its,n,r,e⟩:=x;exact ⟨z,its,n,r,k _ _ (.inl rfl) e⟩
 | tup xs=>obtain ⟨z,its,r,ob,e,c⟩:=x;exact ⟨z,its,r,ob,k _ _ (.inl rfl) e,c⟩
 | dK kvs=>obtain ⟨z,y,vs,r,ob,es,ep,e,c⟩:=x;exact ⟨z,y,vs,r,ob,es,ep,k _ _ (.inl rfl) e,c⟩
 | dT kvs =>
  obtain ⟨z,y,xs,r,ob,es,ep,e,c⟩:=x
  exact ⟨z,y,xs,Paired.mapP r fun p q z=>⟨z.1,ht _ _ z.2.1,z.2.2⟩,ob,es,ep,k _ _ (.inl rfl) e,c⟩
 | set S n=>obtain ⟨ob,es,ep,t,e,c⟩:=x;exact ⟨ob,es,ep,t,k _ _ (.inl rfl) e,c⟩
 | ins C dx fs =>
  obtain ⟨d,z,ne,e,mA,⟨od,es,ep,e2,c⟩,r⟩:=x
  exact ⟨ho _ d,z,ne,k _ _ (.inl rfl) e,mA,⟨od,es,ep,k _ _ (.inr d) e2,c⟩,r⟩
 | own y=>obtain ⟨ob,e⟩:=x;exact ⟨ob,k _ _ (.inl rfl) e⟩
 | xd fs=>obtain ⟨mA,⟨od,es,ep,e,c⟩,r⟩:=x;exact ⟨mA,⟨od,es,ep,k _ _ (.inl rfl) e,c⟩,r⟩
 | rng lo hi=>obtain ⟨t,u,v,e⟩:=x;exact ⟨t,u,v,k _ _ (.inl rfl) e⟩
 | frz ob u ih=>obtain ⟨e,q⟩:=x;exact ⟨k _ _ (.inl rfl) e,ih q⟩
 | tbl ps =>
  have e:h.get? a=some { cls:=.none,data:=.fields ps }:=x
  show h'.get? a=some { cls:=.none,data:=.fields ps }
  exact k a _ (.inl rfl) e
 | met f y =>
  have e:h.get? a=some (PySem.W.methodObj (.ref f) (.ref y)):=x
  show h'.get? a=some (PySem.W.methodObj (.ref f) (.ref y))
  exact k a _ (.inl rfl) e
 | ext φ=>obtain ⟨p,⟨o,e⟩,st⟩:=x;exact ⟨st _ _ p fun o q=>k _ _ (.inl rfl) q,⟨o,k _ _ (.inl rfl) e⟩,st⟩
theorem HOk.lt (x:HOk P w H h) (e:H a=some o):a<h.objs.size:=(x a o e).lt
theorem HOk.fresh (x:HOk P w H h) (e:h.objs.size≤a):H a=none:=by
 cases q:H a with
 | none=>rfl
 | some u=>exact absurd (Nat.lt_of_lt_of_le (x.lt q) e) (Nat.lt_irrefl _)
theorem HOk.kept (x:HOk P w H h) (k:∀b u,h.get? b=some u→h'.get? b=some u):HOk P w H h':=fun a o e =>
 (x a o e).stay (fun b u _ q=>k b u q) (fun _ q=>q) fun _ _ q=>q
theorem HOk.laid (x:HOk P w H h) (k:∀b u,h.get? b=some u→h'.get? b=some u) (hp:h.objs.size≤a) (new:ObjOk P w (upd H a o) h' a o):HOk P w (upd H a o) h':=fun b u e=>by
 have hn:=x.fresh hp
 by_cases hb:b=a
 ·subst hb;rw [ai] at e;cases e;exact new
 ·rw [ab hb] at e
  exact (x b u e).stay (fun c v _ q=>k c v q) (fun c q=>by rw [ab (ag q hn)];exact q) fun c xs q=>by rw [ab (ag q hn)];exact q
end
noncomputable def Rd (H:Hp) (a:Addr) (u:HO):Prop:=H a=some u∨∃o,H a=some (.frz o u)
theorem Rd.ok {P:Program} {w:World} {H:Hp} {h:Heap} {a:Addr} {u:HO} (r:Rd H a u) (x:HOk P w H h):ObjOk P w H h a u:=by
 rcases r with r|⟨o,r⟩
 ·exact x a u r
 ·obtain ⟨_,q⟩:=x a _ r
  exact q
noncomputable def Mut:Option HO→Prop
 | some (.lst _)=>True
 | some (.dK _)=>True
 | some (.dT _)=>True
 | some (.set _ _)=>True
 | some (.ins _ _ _)=>True
 | some (.ext _)=>True
 | _=>False
section
variable {P:Program} {w:World} {H:Hp} {h h':Heap} {x e:Addr} {o':HO}
theorem HOk.write (ok:HOk P w H h) (mu:Mut (H x)) (he:e=x∨H e=some (.own x)) (k:∀b u,b≠e→h.get? b=some u→h'.get? b=some u) (heo:∃u,h'.get? e=some u)
  (new:ObjOk P w (upd H x o') h' x o'):HOk P w (upd H x o') h':=fun b u q=>by
 have nown:∀c y,H c=some (.own y)→c≠x:=fun c y r z=>by subst z;rw [r] at mu;exact mu
 have ntup:∀c xs,H c=some (.tup xs)→c≠x:=fun c xs r z=>by subst z;rw [r] at mu;exact mu
 by_cases hb:b=x
 ·subst hb;rw [ai] at q;cases q;exact new
 ·rw [ab hb] at q
  by_cases hbe:b=e
  ·have q':H b=some (.own x):=by
    rcases he with z|z
    ·exact absurd (hbe.trans z) hb
    ·rw [hbe];exact z
   rw [q] at q';cases q'
   obtain ⟨v,hv⟩:=heo
   exact ⟨v,by rw [hbe];exact hv⟩
  ·refine (ok b u q).stay (fun c v hc r=>k c v ?_ r) (fun c r=>by rw [ab (nown c b r)];exact r) fun c xs r=>by rw [ab (ntup c xs r)];exact r
   rcases hc with rfl|hc
   ·exact hbe
   ·rintro rfl
    rcases he with z|z
    ·exact nown c b hc z
    ·rw [hc] at z;cases z;exact hb rfl
end
structure Un (fs ex:List Addr) (H H':Hp) (h h':Heap):Prop where
 keep:∀b o,h.get? b=some o→H b=none→b ∉ fs→b ∉ ex→h'.get? b=some o
 slot:∀b o,h.get? b=some o→H b=none→b∈fs→b ∉ ex→∃sl,h'.get? b=some { o with slots:=sl }
 free:∀b o,h.get? b=some o→H b=none→b ∉ ex→H' b=none
 there:∀b o,h.get? b=some o→b ∉ ex→∃o',h'.get? b=some o'
 tups:∀b xs,H b=some (.tup xs)→H' b=some (.tup xs)
 frzs:∀b o u,H b=some (.frz o u)→H' b=some (.frz o u)
 tbls:∀b ps,H b=some (.tbl ps)→∃more,H' b=some (.tbl (ps++more))
section
variable {fs fs' ex ex':List Addr} {H H1 H2:Hp} {h h1 h2 h':Heap} {a x e:Addr} {o:HO}
theorem Un.any (u:Un fs ex H H1 h h1) {b:Addr} {ob:Obj} (q:h.get? b=some ob) (n:H b=none) (hx:b ∉ ex):∃sl,h1.get? b=some { ob with slots:=sl }:=by
 by_cases hb:b∈fs
 ·exact u.slot b ob q n hb hx
 ·exact ⟨ob.slots,u.keep b ob q n hb hx⟩
theorem Un.kept (k:∀b u,h.get? b=some u→h'.get? b=some u):Un fs ex H H h h' :=
 ⟨fun b ob q _ _ _=>k b ob q,fun b ob q _ _ _=>⟨ob.slots,k b ob q⟩,fun _ _ _ n _=>n,fun b ob q _=>⟨ob,k b ob q⟩,fun _ _ q=>q,fun _ _ _ q=>q,fun _ ps q=>⟨#[],by rw [q];simp⟩⟩
theorem Un.refl:Un fs ex H H h h:=Un.kept fun _ _ q=>q
theorem Un.laid (k:∀b u,h.get? b=some u→h'.get? b=some u) (hp:h.objs.size≤a) (hn:H a=none):Un fs ex H (upd H a o) h h' where
 keep:=fun b u q _ _ _=>k b u q
 slot:=fun b u q _ _ _=>⟨u.slots,k b u q⟩
 free:=fun b u q n _=>by rw [ab (Nat.ne_of_lt (Nat.lt_of_lt_of_le (Heap.lt_size q) hp))];exact n
 there:=fun b u q _=>⟨u,k b u q⟩
 tups:=fun b xs q=>by rw [ab (ag q hn)];exact q
 frzs:=fun b u xs q=>by rw [ab (ag q hn)];exact q
 tbls:=fun b ps q=>⟨#[],by rw [ab (ag q hn),q];simp⟩
theorem Un.write (mu:Mut (H x)) (he:e=x∨H e=some (.own x)) (k:∀b u,b≠e→h.get? b=some u→h'.get? b=some u) (heo:∃u,h'.get? e=some u):Un fs ex H (upd H x o) h h':=by
 have hx:∀b,H b=none→b≠x:=fun b n z=>by subst z;rw [n] at mu;exact mu
 have hb:∀b,H b=none→b≠e:=fun b n z=>by
  subst z
  rcases he with r|r
  ·exact hx b n r
  ·rw [n] at r;cases r
 have hm:∀b u,H b=some u→¬Mut (some u)→b≠x:=fun b u q nm z=>by subst z;rw [q] at mu;exact nm mu
 refine ⟨fun b u q n _ _=>k b u (hb b n) q,fun b u q n _ _=>⟨u.slots,k b u (hb b n) q⟩,fun b u q n _=>by rw [ab (hx b n)];exact n,fun b u q _=>?_,
  fun b xs q=>by rw [ab (hm b _ q fun z=>z)];exact q,fun b u xs q=>by rw [ab (hm b _ q fun z=>z)];exact q,fun b ps q=>⟨#[],by rw [ab (hm b _ q fun z=>z),q];simp⟩⟩
 by_cases hbe:b=e
 ·subst hbe;exact heo
 ·exact ⟨u,k b u hbe q⟩
end
noncomputable def trk (h:Heap) (H:Hp):List Addr:=(List.range h.objs.size).filter fun a=>(H a).isSome
noncomputable def iw (h:Heap) (H:Hp):Heap:=PySem.W.hideAll h (trk h H)
theorem oM (h:Heap) (H:Hp):(iw h H).objs.size=h.objs.size:=PySem.W.hideAll_size _ _
theorem rH {h:Heap} {H:Hp} {b:Addr} {o:Obj} (e:h.get? b=some o) (n:H b=none):(iw h H).get? b=some o :=
 PySem.W.hideAll_get _ e fun hm=>by
  have q:(H b).isSome=true:=(List.mem_filter.mp hm).2
  rw [n] at q;simp at q
theorem sU {h:Heap} {H:Hp} {b:Addr} {o:Obj} (e:(iw h H).get? b=some o):h.get? b=some o∧H b=none:=by
 have e':h.get? b=some o:=PySem.W.of_hideAll (trk h H) e
 refine ⟨e',?_⟩
 cases q:H b with
 | none=>rfl
 | some x =>
  have hm:b∈trk h H:=List.mem_filter.mpr ⟨List.mem_range.mpr (Heap.lt_size e'),by simp [q]⟩
  have z:(iw h H).get? b=none:=PySem.W.hideAll_none (trk h H) hm
  rw [z] at e;cases e
end L2
namespace L2
open PySem PySem.Spec PyProof.Rows
structure Mod (K:PySem.W.Frag) (mg:Str→Option Value) (base:Heap):Prop where
 kin:K.In base
 glob:base.Ns mainGlobals mg
 blt:∃mb,base.Ns builtinsNs mb∧∀x:Str,x≠"__name__"→mb x=bootBuiltins x
 nolimit:base.NoLimit
structure Cx where
 prog:Program
 w:World
 K:PySem.W.Frag
 mg:Str→Option Value
 base:Heap
 A:Around
 N:List Str
 s₀:Shared
 H₀:Hp
 env:Env
 outer:List Env
 stack:List Env
 ex:List Addr
 fn:Str→Bool
 calm:Bool
 pn:List (Addr × Obj)
 xe:Value→Shared→Prop
noncomputable def frs (l:List Env):List Addr:=l.filterMap (·.frame)
noncomputable abbrev Cx.fs (X:Cx):List Addr:=frs X.outer
noncomputable def Vis (sc:Scope) (x:Str):Prop:=sc.names.lookup x=some .local∨sc.names.lookup x=some .cell∨sc.names.lookup x=some .free
noncomputable def Loc (sc:Scope) (x:Str):Prop:=sc.names.lookup x=some .local∨sc.names.lookup x=some .cell
noncomputable def zj (env:Env) (h:Heap) (m:Str→Option Value) (x:Str) (u:Value):Prop :=
 (env.kindOf x=some .local∧m x=some u)∨((env.kindOf x=some .cell∨env.kindOf x=some .free)∧∃c,env.cells.lookup x=some c∧h.IsCell c (some u))
structure Cx.Ok (X:Cx):Prop where
 mod:Mod X.K X.mg X.base
 kind:X.env.scope.kind=.function
 glob:X.env.globals=mainGlobals
 blt:X.env.builtins=builtinsNs
 above:X.s₀.heap.objs.size≤X.env.locals
 inj:∀x y c,X.env.cells.lookup x=some c→X.env.cells.lookup y=some c→x=y
 has:∀x,(X.env.kindOf x=some .cell∨X.env.kindOf x=some .free)→∃c,X.env.cells.lookup x=some c
 cab:∀x c,X.fn x=true→X.env.cells.lookup x=some c→X.s₀.heap.objs.size≤c
 hd:X.calm=true→X.A.handled=none
 frames:X.A.frames=some X.stack
 stk:X.stack=X.outer∨(X.stack=X.env::X.outer∧X.env.frame=some X.env.locals)
 exf:∀b∈X.ex,b≠X.env.locals∧∀x c,X.env.cells.lookup x=some c→c≠b
 bs:∀b o,X.base.get? b=some o→X.s₀.heap.get? b=some o∧X.H₀ b=none
 bsz:X.base.objs.size≤X.s₀.heap.objs.size
 noex:∀b o,X.base.get? b=some o→b ∉ X.ex
 exfs:∀b∈X.ex,b ∉ X.fs
 funs:X.s₀.heap.FunFrames X.base X.outer
 frf:∀b∈X.fs,X.H₀ b=none
structure Inv (X:Cx) (pins:List (Addr × Obj)) (σ:List (Option V)) (H:Hp) (s:Shared):Prop where
 ok:X.Ok
 os:s.os=X.s₀.os
 bare:AllBare s.gens
 base:Un X.fs X.ex X.H₀ H X.s₀.heap s.heap
 loc:∃m,s.heap.Ns X.env.locals m∧∀(i:Nat) (x:Str) (v:V),X.N[i]?=some x→σ[i]?=some (some v)→Vis X.env.scope x→∃u,RelV v u∧zj X.env s.heap m x u
 cell:∀x c,X.env.cells.lookup x=some c→∃v,s.heap.IsCell c v
 free:H X.env.locals=none
 freeC:∀x c,X.env.cells.lookup x=some c→H c=none
 pin:∀p∈X.pn++pins,s.heap.get? p.1=some p.2∧H p.1=none∧p.1≠X.env.locals∧p.1 ∉ X.fs∧∀v,p.2.data≠.cell v
 hok:HOk X.prog X.w H s.heap
 len:σ.length=X.N.length
section
variable {X:Cx} {pins:List (Addr × Obj)} {σ:List (Option V)} {H H':Hp} {s:Shared} {h':Heap}
theorem Cx.Ok.nofr (ok:X.Ok) {b:Addr} {o:Obj} (e:X.base.get? b=some o):b ∉ X.fs:=fun hb=>by
 have:=(ok.funs.mem hb).1
 rw [e] at this;cases this
theorem Inv.bs (I:Inv X pins σ H s):∀b o,X.base.get? b=some o→s.heap.get? b=some o∧H b=none:=fun b o e =>
 ⟨I.base.keep b o (I.ok.bs b o e).1 (I.ok.bs b o e).2 (I.ok.nofr e) (I.ok.noex b o e),I.base.free b o (I.ok.bs b o e).1 (I.ok.bs b o e).2 (I.ok.noex b o e)⟩
theorem Inv.bk (I:Inv X pins σ H s):∀b o,X.base.get? b=some o→s.heap.get? b=some o:=fun b o e=>(I.bs b o e).1
theorem Inv.mod (I:Inv X pins σ H s):Mod X.K X.mg X.base:=I.ok.mod
theorem Inv.kIn (I:Inv X pins σ H s):X.K.In s.heap:=I.ok.mod.kin.keeps I.bk
theorem Inv.lt (I:Inv X pins σ H s):X.env.locals<s.heap.objs.size:=let ⟨_,hn,_⟩:=I.loc;hn.lt
theorem Inv.sz (I:Inv X pins σ H s):X.s₀.heap.objs.size≤s.heap.objs.size:=Nat.le_trans I.ok.above (Nat.le_of_lt I.lt)
theorem Inv.nofs (I:Inv X pins σ H s) {a:Addr} (h:s.heap.objs.size≤a):a ∉ X.fs:=fun hb=>by
 obtain ⟨_,o,ho,_⟩:=I.ok.funs.mem hb
 exact absurd (Nat.lt_of_lt_of_le (Heap.lt_size ho) (Nat.le_trans I.sz h)) (Nat.lt_irrefl _)
theorem Inv.cne (I:Inv X pins σ H s):∀x c,X.env.cells.lookup x=some c→c≠X.env.locals:=fun x c e z=>by
 obtain ⟨v,o,ho,hd⟩:=I.cell x c e
 obtain ⟨m,⟨o',es,ep,ho',hd',_⟩,_⟩:=I.loc
 rw [z,ho'] at ho;cases ho;rw [hd'] at hd;cases hd
theorem Inv.funs (I:Inv X pins σ H s):s.heap.FunFrames X.base X.outer:=by
 have all:∀(l:List Env),(∀b∈frs l,b∈X.fs)→X.s₀.heap.FunFrames X.base l→s.heap.FunFrames X.base l:=by
  intro l
  induction l with
  | nil=>intro _ _;trivial
  | cons env r ih =>
   intro hs hl
   obtain ⟨hk,⟨L,o,hf,hn,ho,hd⟩,hr⟩:=hl
   have hL:L∈X.fs:=hs L (by unfold frs;rw [List.filterMap_cons,hf];exact List.mem_cons_self)
   obtain ⟨sl,e⟩:=I.base.slot L o ho (I.ok.frf L hL) hL fun z=>I.ok.exfs L z hL
   exact ⟨hk,⟨L,_,hf,hn,e,hd⟩,ih (fun b hb=>hs b (by unfold frs;rw [List.filterMap_cons,hf];exact List.mem_cons_of_mem _ hb)) hr⟩
 exact all X.outer (fun _ hb=>hb) I.ok.funs
theorem Inv.stack (I:Inv X pins σ H s):s.heap.FunFrames X.base X.stack:=by
 rcases I.ok.stk with e|⟨e,hf⟩
 ·rw [e];exact I.funs
 ·rw [e]
  obtain ⟨m,hn,_⟩:=I.loc
  refine .cons (by rw [I.ok.kind];decide) hf hn ?_ I.funs
  exact Heap.get?_none_of_le (Nat.le_trans I.ok.bsz I.ok.above)
theorem Inv.stkSub (I:Inv X pins σ H s):∀b∈frs X.stack,b∈X.env.locals::X.fs:=fun b hb=>by
 rcases I.ok.stk with e|⟨e,hf⟩
 ·rw [e] at hb;exact List.mem_cons_of_mem _ hb
 ·rw [e] at hb
  unfold frs at hb
  rw [List.filterMap_cons,hf] at hb
  exact hb
theorem Inv.stkFree (I:Inv X pins σ H s):∀b∈frs X.stack,H b=none:=fun b hb=>by
 rcases List.mem_cons.mp (I.stkSub b hb) with e|hb
 ·rw [e];exact I.free
 ·obtain ⟨_,o,ho,_⟩:=I.ok.funs.mem hb
  exact I.base.free b o ho (I.ok.frf b hb) fun z=>I.ok.exfs b z hb
theorem Inv.step {g':Array GenState} {t':Nat} {d':Drawn} {ch:List Addr} (I:Inv X pins σ H s)
  (hch:∀b∈ch,(b∈X.ex∨X.s₀.heap.objs.size≤b)∧b≠X.env.locals∧(∀x c,X.env.cells.lookup x=some c→c≠b)∧∀p∈X.pn++pins,p.1≠b)
  (keep:∀b o,b≠X.env.locals→b ∉ X.fs→b ∉ ch→s.heap.get? b=some o→H b=none→h'.get? b=some o)
  (slot:∀b o,b≠X.env.locals→b∈X.fs→b ∉ ch→s.heap.get? b=some o→H b=none→∃sl,h'.get? b=some { o with slots:=sl }) (free:∀b o,b ∉ ch→s.heap.get? b=some o→H b=none→H' b=none)
  (there:∀b o,b ∉ ch→s.heap.get? b=some o→∃o',h'.get? b=some o')
  (tups:∀b xs,H b=some (.tup xs)→H' b=some (.tup xs)) (frzs:∀b o u,H b=some (.frz o u)→H' b=some (.frz o u)) (tbls:∀b ps,H b=some (.tbl ps)→∃more,H' b=some (.tbl (ps++more)))
  (ns:∀m,s.heap.Ns X.env.locals m→h'.Ns X.env.locals m) (hok:HOk X.prog X.w H' h') (hg:AllBare g') :
  Inv X pins σ H' { s with heap:=h',gens:=g',drawn:=d',toks:=t' }:=by
 have neL:∀b o,X.s₀.heap.get? b=some o→b≠X.env.locals:=fun b o e=>Nat.ne_of_lt (Nat.lt_of_lt_of_le (Heap.lt_size e) I.ok.above)
 have neC:∀b o,X.s₀.heap.get? b=some o→b ∉ X.ex→b ∉ ch:=fun b o e hx hb=>by
  rcases (hch b hb).1 with z|z
  ·exact hx z
  ·exact absurd (Nat.lt_of_lt_of_le (Heap.lt_size e) z) (Nat.lt_irrefl _)
 have cellK:∀x c,X.env.cells.lookup x=some c→∀v,s.heap.IsCell c v→h'.IsCell c v:=fun x c e v ⟨o,ho,hd⟩=>by
  have nch:c ∉ ch:=fun z=>(hch c z).2.2.1 x c e rfl
  by_cases hc:c∈X.fs
  ·obtain ⟨sl,q⟩:=slot c o (I.cne x c e) hc nch ho (I.freeC x c e)
   exact ⟨_,q,hd⟩
  ·exact ⟨o,keep c o (I.cne x c e) hc nch ho (I.freeC x c e),hd⟩
 refine ⟨I.ok,I.os,hg,⟨fun b o e n hb hx=>?_,fun b o e n hb hx=>?_,fun b o e n hx=>?_,fun b o e hx=>?_,fun b xs e=>tups b xs (I.base.tups b xs e),fun b o xs e=>frzs b o xs (I.base.frzs b o xs e),fun b ps e=>?_⟩,?_,fun x c e=>?_,?_,fun x c e=>?_,fun p hp=>?_,hok,I.len⟩
 ·exact keep b o (neL b o e) hb (neC b o e hx) (I.base.keep b o e n hb hx) (I.base.free b o e n hx)
 ·obtain ⟨sl,e1⟩:=I.base.slot b o e n hb hx
  obtain ⟨sl',e2⟩:=slot b _ (neL b o e) hb (neC b o e hx) e1 (I.base.free b o e n hx)
  exact ⟨sl',e2⟩
 ·obtain ⟨o',e1⟩:=I.base.there b o e hx
  exact free b o' (neC b o e hx) e1 (I.base.free b o e n hx)
 ·obtain ⟨o',e1⟩:=I.base.there b o e hx
  exact there b o' (neC b o e hx) e1
 ·obtain ⟨m1,e1⟩:=I.base.tbls b ps e
  obtain ⟨m2,e2⟩:=tbls b _ e1
  exact ⟨m1++m2,by rw [e2,Array.append_assoc]⟩
 ·obtain ⟨m,hn,hl⟩:=I.loc
  refine ⟨m,ns m hn,fun i x v e1 e2 e3=>?_⟩
  obtain ⟨u,r,l⟩:=hl i x v e1 e2 e3
  refine ⟨u,r,?_⟩
  rcases l with l|⟨k,c,e,z⟩
  ·exact .inl l
  ·exact .inr ⟨k,c,e,cellK x c e _ z⟩
 ·obtain ⟨v,z⟩:=I.cell x c e
  exact ⟨v,cellK x c e v z⟩
 ·obtain ⟨m,⟨o,_,_,ho,_⟩,_⟩:=I.loc
  exact free _ o (fun z=>(hch _ z).2.1 rfl) ho I.free
 ·obtain ⟨v,o,ho,hd⟩:=I.cell x c e
  exact free c o (fun z=>(hch c z).2.2.1 x c e rfl) ho (I.freeC x c e)
 ·obtain ⟨e,n,ne,nf,d⟩:=I.pin p hp
  have nch:p.1 ∉ ch:=fun z=>(hch p.1 z).2.2.2 p hp rfl
  exact ⟨keep p.1 p.2 ne nf nch e n,free p.1 p.2 nch e n,ne,nf,d⟩
theorem Inv.un {t':Nat} (I:Inv X pins σ H s) (u:Un X.fs [] H H' s.heap h') (hok:HOk X.prog X.w H' h'):Inv X pins σ H' { s with heap:=h',toks:=t' }:=by
 obtain ⟨m,⟨o,es,ep,ho,r⟩,_⟩:=id I.loc
 obtain ⟨sl,hL⟩:=u.any ho I.free (by simp)
 exact I.step (g':=s.gens) (d':=s.drawn) (ch:=[]) (fun _ z=>nomatch z) (fun b o _ hb _ e n=>u.keep b o e n hb (by simp)) (fun b o _ hb _ e n=>u.slot b o e n hb (by simp)) (fun b o _ e n=>u.free b o e n (by simp)) (fun b o _ e=>u.there b o e (by simp)) u.tups u.frzs u.tbls (fun m' hm=>by
  obtain ⟨o',es',ep',ho',r'⟩:=hm
  rw [ho] at ho';cases ho'
  exact ⟨_,es',ep',hL,r'⟩) hok I.bare
theorem Inv.call {g':Array GenState} {t':Nat} {d':Drawn} {ch:List Addr} (I:Inv X pins σ H s) (u:Un (frs X.stack) ch H H' s.heap h') (hok:HOk X.prog X.w H' h') (hg:AllBare g')
  (hch:∀b∈ch,(b∈X.ex∨X.s₀.heap.objs.size≤b)∧b≠X.env.locals∧(∀x c,X.env.cells.lookup x=some c→c≠b)∧∀p∈X.pn++pins,p.1≠b) :
  Inv X pins σ H' { s with heap:=h',gens:=g',drawn:=d',toks:=t' }:=by
 obtain ⟨m,⟨o,es,ep,ho,r⟩,_⟩:=id I.loc
 obtain ⟨sl,hL⟩:=u.any ho I.free fun z=>(hch _ z).2.1 rfl
 exact I.step (ch:=ch) hch (fun b o hL hb hc e n=>u.keep b o e n (fun z=>(List.mem_cons.mp (I.stkSub b z)).elim hL hb) hc) (fun b o _ _ hc e n=>u.any e n hc) (fun b o hc e n=>u.free b o e n hc) (fun b o hc e=>u.there b o e hc) u.tups u.frzs u.tbls (fun m' hm=>by
  obtain ⟨o',es',ep',ho',r'⟩:=hm
  rw [ho] at ho';cases ho'
  exact ⟨_,es',ep',hL,r'⟩) hok hg
theorem Inv.turned {t':Nat} {it:Addr} (I:Inv X pins σ H s) (k:∀b o,b≠it→s.heap.get? b=some o→h'.get? b=some o) (hn:H it=none) (hL:it≠X.env.locals)
  (h1:it∈X.ex∨X.s₀.heap.objs.size≤it) (h2:∀x c,X.env.cells.lookup x=some c→c≠it) (h3:∀p∈X.pn++pins,p.1≠it):Inv X pins σ H { s with heap:=h',toks:=t' }:=by
 have nit:∀b u,H b=some u→b≠it:=fun b u e z=>by rw [z,hn] at e;cases e
 refine I.step (g':=s.gens) (d':=s.drawn) (ch:=[it]) (fun b hb=>?_) (fun b o _ _ hc e _=>k b o (fun z=>hc (by simp [z])) e) (fun b o _ _ hc e _=>⟨o.slots,k b o (fun z=>hc (by simp [z])) e⟩) (fun _ _ _ _ n=>n)
  (fun b o hc e=>⟨o,k b o (fun z=>hc (by simp [z])) e⟩) (fun _ _ e=>e) (fun _ _ _ e=>e) (fun b ps e=>⟨#[],by rw [e];simp⟩) (fun m hm=>?_) (fun b u e=>?_) I.bare
 ·have e:b=it:=by simpa using hb
  subst e
  exact ⟨h1,hL,h2,h3⟩
 ·obtain ⟨o,es,ep,ho,r⟩:=hm
  exact ⟨o,es,ep,k _ o (Ne.symm hL) ho,r⟩
 ·refine (I.hok b u e).stay (fun c v hc q=>k c v ?_ q) (fun _ q=>q) fun _ _ q=>q
  rcases hc with z|z
  ·rw [z];exact nit b u e
  ·exact nit c _ z
theorem Inv.tok (I:Inv X pins σ H s) (t:Nat):Inv X pins σ H { s with toks:=t }:=I.un (h':=s.heap) (t':=t) Un.refl I.hok
theorem Inv.kept {t':Nat} (I:Inv X pins σ H s) (k:∀b u,s.heap.get? b=some u→h'.get? b=some u):Inv X pins σ H { s with heap:=h',toks:=t' }:=I.un (Un.kept k) (I.hok.kept k)
theorem Inv.laid {a:Addr} {o:HO} {t':Nat} (I:Inv X pins σ H s) (k:∀b u,s.heap.get? b=some u→h'.get? b=some u) (hp:s.heap.objs.size≤a) (new:ObjOk X.prog X.w (upd H a o) h' a o) :
  Inv X pins σ (upd H a o) { s with heap:=h',toks:=t' }:=I.un (Un.laid k hp (I.hok.fresh hp)) (I.hok.laid k hp new)
theorem Inv.write {x e:Addr} {o:HO} {t':Nat} (I:Inv X pins σ H s) (mu:Mut (H x)) (he:e=x∨H e=some (.own x)) (k:∀b u,b≠e→s.heap.get? b=some u→h'.get? b=some u) (heo:∃u,h'.get? e=some u)
  (new:ObjOk X.prog X.w (upd H x o) h' x o):Inv X pins σ (upd H x o) { s with heap:=h',toks:=t' }:=I.un (Un.write mu he k heo) (I.hok.write mu he k heo new)
theorem Inv.pins_of {pins':List (Addr × Obj)} (I:Inv X pins σ H s) (h:∀p∈pins',s.heap.get? p.1=some p.2∧H p.1=none∧p.1≠X.env.locals∧p.1 ∉ X.fs∧∀v,p.2.data≠.cell v):Inv X pins' σ H s :=
 ⟨I.ok,I.os,I.bare,I.base,I.loc,I.cell,I.free,I.freeC,fun p hp=>(List.mem_append.mp hp).elim (fun z=>I.pin p (List.mem_append_left _ z)) (h p),I.hok,I.len⟩
theorem kj {N:List Str} (hN:N.Nodup) {i j:Nat} {x:Str} (a:N[i]?=some x) (b:N[j]?=some x):i=j:=by
 obtain ⟨h1,e1⟩:=List.getElem?_eq_some_iff.mp a
 obtain ⟨h2,e2⟩:=List.getElem?_eq_some_iff.mp b
 exact (List.getElem_inj hN).mp (e1.trans e2.symm)
theorem fg {M:Model} {A:Around} {E:Value→Shared→Prop} {i:Nat} {x:Str} {v:V} {u:Value} {Q:Unit→Shared→Prop} (I:Inv X pins σ H s) (hN:X.N.Nodup) (hi:X.N[i]?=some x) (hx:Loc X.env.scope x) (r:RelV v u)
  (h:∀s',Inv X pins (σ.set i (some v)) H s'→(∃a,Heap.SameBut a s.heap s'.heap∧(a=X.env.locals∨X.env.cells.lookup x=some a))→Q () s') (hf:X.fn x=true∨X.env.scope.names.lookup x=some .local:=by first|exact .inl rfl|exact .inr rfl|assumption):wpAny M A (storeName X.env x u) Q E s:=by
 obtain ⟨m,hn,hl⟩:=id I.loc
 have hcls:(X.env.scope.kind == .class || (X.env.scope.kind == .module && X.env.locals != X.env.globals))=false:=by rw [I.ok.kind];rfl
 have hiσ:i<σ.length:=by rw [I.len];exact (List.getElem?_eq_some_iff.mp hi).1
 have cne:=I.cne
 have tracked:∀ {a:Addr} {h':Heap},(∃o,s.heap.get? a=some o∧H a=none)→Heap.SameBut a s.heap h'→HOk X.prog X.w H h':=fun {a h'} ha hs b ob e=>by
  obtain ⟨_,_,hfree⟩:=ha
  refine (I.hok b ob e).stay (fun c w' hc q=>(hs.2 c ?_).trans q) (fun _ q=>q) fun _ _ q=>q
  rintro rfl
  rcases hc with rfl|hc
  ·rw [hfree] at e;cases e
  ·rw [hfree] at hc;cases hc
 rcases hx with hk|hk
 ·refine wpAny_storeName_local hk hn (fun h' hn' hs=>?_) hcls
  obtain ⟨oL,_,_,hoL,_⟩:=id hn
  refine h _ ⟨I.ok,I.os,I.bare,⟨fun b o e n hb hx=>?_,fun b o e n hb hx=>?_,I.base.free,fun b o e hx=>?_,I.base.tups,I.base.frzs,I.base.tbls⟩,⟨_,hn',fun j y v' e1 e2 e3=>?_⟩,fun y c e=>?_,I.free,I.freeC,fun p hp=>?_,tracked ⟨oL,hoL,I.free⟩ hs,by simpa using I.len⟩ ⟨_,hs,.inl rfl⟩
  ·exact (hs.2 b (Nat.ne_of_lt (Nat.lt_of_lt_of_le (Heap.lt_size e) I.ok.above))).trans (I.base.keep b o e n hb hx)
  ·obtain ⟨sl,e1⟩:=I.base.slot b o e n hb hx
   exact ⟨sl,(hs.2 b (Nat.ne_of_lt (Nat.lt_of_lt_of_le (Heap.lt_size e) I.ok.above))).trans e1⟩
  ·obtain ⟨o',e1⟩:=I.base.there b o e hx
   exact ⟨o',(hs.2 b (Nat.ne_of_lt (Nat.lt_of_lt_of_le (Heap.lt_size e) I.ok.above))).trans e1⟩
  ·by_cases hj:j=i
   ·subst hj
    rw [hi] at e1;cases e1
    rw [List.getElem?_set_self hiσ] at e2
    cases e2
    exact ⟨u,r,.inl ⟨hk,by simp⟩⟩
   ·rw [List.getElem?_set_ne (Ne.symm hj)] at e2
    obtain ⟨u',r',q⟩:=hl j y v' e1 e2 e3
    refine ⟨u',r',?_⟩
    rcases q with ⟨k,e⟩|⟨k,c,e,z⟩
    ·refine .inl ⟨k,?_⟩
     have:y≠x:=fun e=>hj (kj hN e1 (e ▸ hi))
     simp [this,e]
    ·exact .inr ⟨k,c,e,z.sameBut hs (cne y c e)⟩
  ·obtain ⟨w',z⟩:=I.cell y c e
   exact ⟨w',z.sameBut hs (cne y c e)⟩
  ·obtain ⟨e,n,ne,nf,d⟩:=I.pin p hp
   exact ⟨(hs.2 p.1 ne).trans e,n,ne,nf,d⟩
 ·have hfn:X.fn x=true:=by
   rcases hf with z|z
   ·exact z
   ·rw [z] at hk;cases hk
  obtain ⟨c,hc⟩:=I.ok.has x (.inl hk)
  obtain ⟨w',z⟩:=I.cell x c hc
  refine wpAny_storeName_cell I.ok.kind hk hc z (fun h' hc' hs=>?_)
  obtain ⟨oc,hoc,hocd⟩:=id z
  refine h { s with heap:=h' } ⟨I.ok,I.os,I.bare,⟨fun b o e n hb hx=>?_,fun b o e n hb hx=>?_,I.base.free,fun b o e hx=>?_,I.base.tups,I.base.frzs,I.base.tbls⟩,⟨m,hn.sameBut hs (Ne.symm (cne x c hc)),fun j y v' e1 e2 e3=>?_⟩,fun y c' e=>?_,I.free,I.freeC,fun p hp=>?_,tracked ⟨oc,hoc,I.freeC x c hc⟩ hs,by simpa using I.len⟩ ⟨c,hs,.inr hc⟩
  ·exact (hs.2 b (Nat.ne_of_lt (Nat.lt_of_lt_of_le (Heap.lt_size e) (I.ok.cab x c hfn hc)))).trans (I.base.keep b o e n hb hx)
  ·obtain ⟨sl,e1⟩:=I.base.slot b o e n hb hx
   exact ⟨sl,(hs.2 b (Nat.ne_of_lt (Nat.lt_of_lt_of_le (Heap.lt_size e) (I.ok.cab x c hfn hc)))).trans e1⟩
  ·obtain ⟨o',e1⟩:=I.base.there b o e hx
   exact ⟨o',(hs.2 b (Nat.ne_of_lt (Nat.lt_of_lt_of_le (Heap.lt_size e) (I.ok.cab x c hfn hc)))).trans e1⟩
  ·by_cases hj:j=i
   ·subst hj
    rw [hi] at e1;cases e1
    rw [List.getElem?_set_self hiσ] at e2
    cases e2
    exact ⟨u,r,.inr ⟨.inl hk,c,hc,hc'⟩⟩
   ·rw [List.getElem?_set_ne (Ne.symm hj)] at e2
    obtain ⟨u',r',q⟩:=hl j y v' e1 e2 e3
    refine ⟨u',r',?_⟩
    rcases q with q|⟨k,c',e,z'⟩
    ·exact .inl q
    ·refine .inr ⟨k,c',e,z'.sameBut hs ?_⟩
     rintro rfl
     exact hj (kj hN e1 (I.ok.inj _ _ _ e hc ▸ hi))
  ·by_cases hcc:c'=c
   ·subst hcc;exact ⟨_,hc'⟩
   ·obtain ⟨w2,z2⟩:=I.cell y c' e
    exact ⟨w2,z2.sameBut hs hcc⟩
  ·obtain ⟨e,n,ne,nf,d⟩:=I.pin p hp
   refine ⟨(hs.2 p.1 ?_).trans e,n,ne,nf,d⟩
   intro q
   rw [q,hoc] at e
   have q':oc=p.2:=Option.some.inj e
   exact d w' (by rw [←q'];exact hocd)
theorem cg {M:Model} {A:Around} {E:Value→Shared→Prop} {i:Nat} {x:Str} {v:V} {u:Value} {Q:Unit→Shared→Prop} (I:Inv X pins σ H s) (hN:X.N.Nodup) (hi:X.N[i]?=some x) (hx:Loc X.env.scope x) (r:RelV v u)
  (h:∀s',Inv X pins (σ.set i (some v)) H s'→Q () s') (hf:X.fn x=true∨X.env.scope.names.lookup x=some .local:=by first|exact .inl rfl|exact .inr rfl|assumption):wpAny M A (storeName X.env x u) Q E s :=
 fg I hN hi hx r (fun s' I' _=>h s' I') hf
theorem Inv.call' {s':Shared} {ch:List Addr} (I:Inv X pins σ H s) (ho:s'.os=s.os) (u:Un (frs X.stack) ch H H' s.heap s'.heap) (hok:HOk X.prog X.w H' s'.heap) (hg:AllBare s'.gens)
  (hch:∀b∈ch,(b∈X.ex∨X.s₀.heap.objs.size≤b)∧b≠X.env.locals∧(∀x c,X.env.cells.lookup x=some c→c≠b)∧∀p∈X.pn++pins,p.1≠b):Inv X pins σ H' s':=by
 obtain ⟨h',g',d',t',o'⟩:=s'
 have e:o'=s.os:=ho
 subst e
 exact I.call (g':=g') (t':=t') (d':=d') u hok hg hch
end
noncomputable abbrev XK:=Value→Option Addr→Hp→Prop
noncomputable abbrev St:=List (Option V)
noncomputable abbrev VK:=V→Hp→Prop
noncomputable abbrev TE:=St→Hp→VK→Prop
noncomputable abbrev TT:=St→Hp→(Bool→Hp→Prop)→Prop
noncomputable abbrev TA:=St→Hp→(List V→Hp→Prop)→Prop
structure Ends where
 nx:St→Hp→Prop
 rt:VK
 bk:St→Hp→Prop:=fun _ _=>False
 ct:St→Hp→Prop:=fun _ _=>False
noncomputable abbrev TS:=Ends→St→Hp→Prop
noncomputable def EP (X:Cx) (pins:List (Addr × Obj)) (σ:St) (Q:VK) (u:Value) (s':Shared):Prop:=∃v H',Inv X pins σ H' s'∧RelV v u∧Q v H'
noncomputable def TP (X:Cx) (pins:List (Addr × Obj)) (σ:St) (Q:Bool→Hp→Prop) (b:Bool) (s':Shared):Prop:=∃H',Inv X pins σ H' s'∧Q b H'
noncomputable def AP (X:Cx) (pins:List (Addr × Obj)) (σ:St) (Q:List V→Hp→Prop) (us:List Value) (s':Shared):Prop:=∃vs H',Inv X pins σ H' s'∧Vals vs us∧Q vs H'
noncomputable def SP (X:Cx) (pins:List (Addr × Obj)) (D:Ends) (f:Flow) (s':Shared):Prop :=
 match f with
 | .next=>∃σ' H',Inv X pins σ' H' s'∧D.nx σ' H'
 | .brk=>∃σ' H',Inv X pins σ' H' s'∧D.bk σ' H'
 | .cont=>∃σ' H',Inv X pins σ' H' s'∧D.ct σ' H'
 | .ret u=>∃v σ' H',Inv X pins σ' H' s'∧RelV v u∧D.rt v H'
noncomputable def PE (X:Cx) (e:Expr) (t:TE):Prop :=
 ∀(pins:List (Addr × Obj)) (s:Shared) (σ:St) (H:Hp) (Q:VK),Inv X pins σ H s→t σ H Q→wpAny (model X.prog X.w) X.A (eval e X.env) (EP X pins σ Q) X.xe s
noncomputable def PT (X:Cx) (e:Expr) (t:TT):Prop :=
 ∀(pins:List (Addr × Obj)) (s:Shared) (σ:St) (H:Hp) (Q:Bool→Hp→Prop),Inv X pins σ H s→t σ H Q→wpAny (model X.prog X.w) X.A (isTrue e X.env (eval e X.env)) (TP X pins σ Q) X.xe s
noncomputable def PW (X:Cx) (e:Expr) (t:TT):Prop :=
 ∀(whole:Sem Value) (pins:List (Addr × Obj)) (s:Shared) (σ:St) (H:Hp) (Q:Bool→Hp→Prop),Inv X pins σ H s→t σ H Q→wpAny (model X.prog X.w) X.A (isTrue e X.env whole) (TP X pins σ Q) X.xe s
theorem PW.pt {X:Cx} {e:Expr} {t:TT} (h:PW X e t):PT X e t:=h _
noncomputable def PA (X:Cx) (es:List Expr) (t:TA):Prop :=
 ∀(pos:Pos) (pins:List (Addr × Obj)) (s:Shared) (σ:St) (H:Hp) (Q:List V→Hp→Prop),Inv X pins σ H s→t σ H Q→wpAny (model X.prog X.w) X.A (spliced (backTo pos (starEach es X.env))) (AP X pins σ Q) X.xe s
noncomputable def PS (X:Cx) (st:Stmt) (t:TS):Prop :=
 ∀(pins:List (Addr × Obj)) (s:Shared) (σ:St) (H:Hp) (D:Ends),Inv X pins σ H s→t D σ H→wpAny (model X.prog X.w) X.A (exec st X.env) (SP X pins D) X.xe s
noncomputable def PSs (X:Cx) (st:List Stmt) (t:TS):Prop :=
 ∀(pins:List (Addr × Obj)) (s:Shared) (σ:St) (H:Hp) (D:Ends),Inv X pins σ H s→t D σ H→wpAny (model X.prog X.w) X.A (execs st X.env) (SP X pins D) X.xe s
theorem thn {α:Type} {t:Sem α} {Q Q':α→Shared→Prop} {M:Model} {A:Around} {E:Value→Shared→Prop} {s:Shared} (h:wpAny M A t Q E s) (hQ:∀a s,Q a s→Q' a s):wpAny M A t Q' E s:=wpAny_mono h hQ fun _ _ x=>x
end L2
namespace L2
open PySem PySem.Spec PyProof.Rows
section
variable {X:Cx}
noncomputable def zh (i:Nat):TE:=fun σ H Q=>∃v,σ[i]?=some (some v)∧Q v H
noncomputable def tC (v:V):TE:=fun _ H Q=>Q v H
theorem wD {i:Nat} {x:Str} {pos:Pos} (hN:X.N[i]?=some x) (hv:Vis X.env.scope x) (hd:(x == ("__debug__":Str))=false:=by decide) (hcd:(x == ("__classdict__":Str))=false:=by decide):PE X (.Name x pos) (zh i):=by
 intro pins s σ H Q I h
 obtain ⟨v,e,h⟩:=h
 obtain ⟨m,hn,hl⟩:=I.loc
 obtain ⟨u,r,l⟩:=hl i x v hN e hv
 have fin:EP X pins σ Q u s:=⟨v,H,I,r,h⟩
 rcases l with ⟨hk,hm⟩|⟨hk,c,hc,hcell⟩
 ·exact wpAny_Name (wpAny_loadName_local I.ok.kind hk hn hm fin) hd
 ·rcases hk with hk|hk
  ·exact wpAny_Name (wpAny_loadName_cell I.ok.kind hk hc hcell fin) hd
  ·exact wpAny_Name (wpAny_loadName_free I.ok.kind hk hc hcell fin hcd) hd
theorem wC {i j pos}:PE X (.Constant (.int i) j pos) (tC (.int i)):=fun _ _ _ H _ I h=>wpAny_Constant_int ⟨.int i,H,I.tok _,⟨_,rfl⟩,h⟩
theorem yI {b j pos}:PE X (.Constant (.bool b) j pos) (tC (.bl b)):=fun _ _ _ H _ I h=>Constant_bool ⟨.bl b,H,I,rfl,h⟩
theorem we {j pos}:PE X (.Constant .none j pos) (tC .non):=fun _ _ _ H _ I h=>Constant_none ⟨.non,H,I,rfl,h⟩
theorem vT {x j pos}:PE X (.Constant (.str x) j pos) (tC (.str x)):=fun _ _ _ H _ I h=>Calls.Constant_str ⟨.str x,H,I.tok _,⟨_,rfl⟩,h⟩
noncomputable def Gl (X:Cx) (x:Str):Prop:=X.env.kindOf x=some .globalImplicit
theorem jW {E:Value→Shared→Prop} {pins:List (Addr × Obj)} {s:Shared} {σ:St} {H:Hp} {x:Str} {u:Value} {pos:Pos} {Q:Value→Shared→Prop} (I:Inv X pins σ H s) (hg:Gl X x) (hm:X.mg x=some u) (h:Q u s)
  (hd:(x == ("__debug__":Str))=false:=by decide):wpAny (model X.prog X.w) X.A (eval (.Name x pos) X.env) Q E s :=
 Calls.Name_function_global I.ok.kind hg (Calls.loadGlobal_global (by rw [I.ok.glob];exact I.mod.glob.keeps I.bk) hm h) hd
theorem fm {E:Value→Shared→Prop} {pins:List (Addr × Obj)} {s:Shared} {σ:St} {H:Hp} {x:Str} {u:Value} {pos:Pos} {Q:Value→Shared→Prop} (I:Inv X pins σ H s) (hg:Gl X x) (hm:X.mg x=none) (hv:bootBuiltins x=some u) (h:Q u s)
  (hn:x≠"__name__":=by decide) (hd:(x == ("__debug__":Str))=false:=by decide):wpAny (model X.prog X.w) X.A (eval (.Name x pos) X.env) Q E s:=by
 obtain ⟨mb,h1,h2⟩:=I.mod.blt
 exact Calls.Name_function_global I.ok.kind hg (Calls.loadGlobal_builtin (by rw [I.ok.glob];exact I.mod.glob.keeps I.bk) hm (by rw [I.ok.blt];exact h1.keeps I.bk) ((h2 x hn).trans hv) h) hd
theorem sX {x:Str} {v:V} {u:Value} {pos:Pos} (hg:Gl X x) (hm:X.mg x=some u) (r:RelV v u) (hd:(x == ("__debug__":Str))=false:=by decide):PE X (.Name x pos) (tC v) :=
 fun _ _ _ H _ I h=>jW I hg hm ⟨v,H,I,r,h⟩ hd
theorem sQ {x:Str} {v:V} {u:Value} {pos:Pos} (hg:Gl X x) (hm:X.mg x=none) (hv:bootBuiltins x=some u) (r:RelV v u) (hn:x≠"__name__":=by decide) (hd:(x == ("__debug__":Str))=false:=by decide):PE X (.Name x pos) (tC v) :=
 fun _ _ _ H _ I h=>fm I hg hm hv ⟨v,H,I,r,h⟩ hn hd
variable {a b:Expr} {ta tb:TE} {pos:Pos}
variable {tA tB':TT} {rest:List Expr}
noncomputable def yr (t u:TT):TT:=fun σ H Q=>t σ H fun c H1=>if c=true then u σ H1 Q else Q false H1
noncomputable def tOr (t u:TT):TT:=fun σ H Q=>t σ H fun c H1=>if c=true then Q true H1 else u σ H1 Q
noncomputable def zH (t:TT):TT:=fun σ H Q=>t σ H fun c H1=>Q (!c) H1
theorem sF (ha:PT X a tA):PW X (.BoolOp .And [a] pos) tA:=by
 intro wh pins s σ H Q I h
 refine isTrue_and (thn (ha pins s σ H Q I h) fun c s1 e=>?_)
 cases c with
 | true=>exact isTrue_and_nil e
 | false=>exact e
theorem xk (ha:PT X a tA):PW X (.BoolOp .Or [a] pos) tA:=by
 intro wh pins s σ H Q I h
 refine isTrue_or (thn (ha pins s σ H Q I h) fun c s1 e=>?_)
 cases c with
 | false=>exact isTrue_or_nil e
 | true=>exact e
theorem wY (ha:PT X a tA) (hb:PW X (.BoolOp .And (b::rest) pos) tB'):PW X (.BoolOp .And (a::b::rest) pos) (yr tA tB'):=by
 intro wh pins s σ H Q I h
 refine isTrue_and (thn (ha pins s σ H _ I h) fun c s1 ⟨H1,I1,q1⟩=>?_)
 cases c with
 | true=>exact hb wh pins s1 σ H1 Q I1 q1
 | false=>exact ⟨H1,I1,q1⟩
theorem yC (ha:PT X a tA) (hb:PW X (.BoolOp .Or (b::rest) pos) tB'):PW X (.BoolOp .Or (a::b::rest) pos) (tOr tA tB'):=by
 intro wh pins s σ H Q I h
 refine isTrue_or (thn (ha pins s σ H _ I h) fun c s1 ⟨H1,I1,q1⟩=>?_)
 cases c with
 | true=>exact ⟨H1,I1,q1⟩
 | false=>exact hb wh pins s1 σ H1 Q I1 q1
theorem vU (ha:PT X a tA):PT X (.UnaryOp .Not a pos) (zH tA):=by
 intro pins s σ H Q I h
 exact isTrue_not (ha pins s σ H (fun c H1=>Q (!c) H1) I h)
noncomputable def xW (ta tb:TE):TE:=fun σ H Q=>ta σ H fun x H1=>∃c,x=.bl c∧if c=true then tb σ H1 Q else Q (.bl false) H1
noncomputable def zk (ta tb:TE):TE:=fun σ H Q=>ta σ H fun x H1=>∃c,x=.bl c∧if c=true then Q (.bl true) H1 else tb σ H1 Q
noncomputable def yp (ta:TE):TE:=fun σ H Q=>ta σ H fun x H1=>∃c,x=.bl c∧Q (.bl (!c)) H1
theorem ph {op} {t:TE} (h:PE X a t):PE X (.BoolOp op [a] pos) t:=fun pins s σ H Q I hw=>BoolOp_one (h pins s σ H Q I hw)
theorem v3 (ha:PE X a ta) (hb:PE X (.BoolOp .And (b::rest) pos) tb):PE X (.BoolOp .And (a::b::rest) pos) (xW ta tb):=by
 intro pins s σ H Q I h
 refine BoolOp_and (thn (ha pins s σ H _ I h) fun v s1 ⟨x,H1,I1,r1,q1⟩=>?_)
 obtain ⟨c,rfl,q1⟩:=q1
 cases r1
 refine wpAny_truthy_bool ?_
 cases c with
 | true=>exact hb pins s1 σ H1 Q I1 q1
 | false=>exact ⟨.bl false,H1,I1,rfl,q1⟩
theorem xR (ha:PE X a ta) (hb:PE X (.BoolOp .Or (b::rest) pos) tb):PE X (.BoolOp .Or (a::b::rest) pos) (zk ta tb):=by
 intro pins s σ H Q I h
 refine BoolOp_or (thn (ha pins s σ H _ I h) fun v s1 ⟨x,H1,I1,r1,q1⟩=>?_)
 obtain ⟨c,rfl,q1⟩:=q1
 cases r1
 refine wpAny_truthy_bool ?_
 cases c with
 | false=>exact hb pins s1 σ H1 Q I1 q1
 | true=>exact ⟨.bl true,H1,I1,rfl,q1⟩
theorem ww (ha:PE X a ta):PE X (.UnaryOp .Not a pos) (yp ta):=by
 intro pins s σ H Q I h
 refine UnaryOp_ (thn (ha pins s σ H _ I h) fun v s1 ⟨x,H1,I1,r1,q1⟩=>?_)
 obtain ⟨c,rfl,q1⟩:=q1
 cases r1
 exact not_of (wpAny_truthy_bool ⟨.bl (!c),H1,I1,rfl,q1⟩)
noncomputable def tIf (t:TT) (ta tb:TE):TE:=fun σ H Q=>t σ H fun c H1=>if c=true then ta σ H1 Q else tb σ H1 Q
theorem rC {c:Expr} (hc:PT X c tA) (ha:PE X a ta) (hb:PE X b tb):PE X (.IfExp c a b pos) (tIf tA ta tb):=by
 intro pins s σ H Q I h
 refine wpAny_IfExp (thn (hc pins s σ H _ I h) fun d s1 ⟨H1,I1,q1⟩=>?_)
 cases d with
 | true=>exact ha pins s1 σ H1 Q I1 q1
 | false=>exact hb pins s1 σ H1 Q I1 q1
end
end L2
namespace L2
open PySem PySem.Spec PyProof.Rows
noncomputable def SqL (K:PySem.W.Frag) (H:Hp) (a:Addr) (xs:List V):Prop :=
 Rd H a (.lst xs) ∨
  ∃(o:Obj) (its:Array Value) (n:Nat),K.lookup a=some o∧o.cls=.type "list"∧o.dict=none∧o.data=.seq its n∧its.size≤sizeLine∧Vals xs its.toList
noncomputable def SqT (K:PySem.W.Frag) (H:Hp) (a:Addr) (xs:List V):Prop :=
 Rd H a (.tup xs) ∨
  ∃(o:Obj) (its:Array Value) (n:Nat),K.lookup a=some o∧o.cls=.type "tuple"∧o.data=.seq its n∧its.size≤sizeLine∧Vals xs its.toList
noncomputable def zN:Value→Option V
 | .none=>some .non
 | .bool b=>some (.bl b)
 | .int i _=>some (.int i)
 | .str x _=>some (.str x)
 | .bytes b _=>some (.byt b)
 | .float b _=>some (.flt b)
 | .ref a=>some (.ref a)
 | .type n=>some (.ty n)
 | _=>none
theorem RelV.abs {x:V} {u:Value} (r:RelV x u):zN u=some x:=by
 cases x with
 | non=>cases r;rfl
 | bl _=>cases r;rfl
 | int _=>obtain ⟨t,rfl⟩:=r;rfl
 | str _=>obtain ⟨t,rfl⟩:=r;rfl
 | byt _=>obtain ⟨t,rfl⟩:=r;rfl
 | flt _=>obtain ⟨t,rfl⟩:=r;rfl
 | ref _=>cases r;rfl
 | ty _=>cases r;rfl
theorem RelV.inj {x y:V} {u:Value} (r:RelV x u) (q:RelV y u):x=y:=Option.some.inj (r.abs.symm.trans q.abs)
theorem Vals.inj:∀ {xs ys:List V} {us:List Value},Vals xs us→Vals ys us→xs=ys
 | _,_,_,.nil,.nil=>rfl
 | _,_,_,.cons r t,.cons r' t'=>by rw [r.inj r',Vals.inj t t']
section
variable {X:Cx} {pins:List (Addr × Obj)} {σ:St} {H:Hp} {s:Shared} {a:Addr} {xs ys:List V}
theorem SqL.of {K:PySem.W.Frag} (h:H a=some (.lst xs)):SqL K H a xs:=.inl (.inl h)
theorem SqT.of {K:PySem.W.Frag} (h:H a=some (.tup xs)):SqT K H a xs:=.inl (.inl h)
theorem Inv.list (I:Inv X pins σ H s) (h:SqL X.K H a xs):∃its:List Value,Vals xs its∧PlainL s.heap a its.toArray∧xs.length≤sizeLine:=by
 rcases h with h|⟨o,its,n,hk,hc,hd,hs,hz,r⟩
 ·obtain ⟨z,its,n,r,e⟩:=h.ok I.hok
  exact ⟨its,r,⟨_,n,e,rfl,rfl,rfl⟩,z⟩
 ·refine ⟨its.toList,r,⟨o,n,I.kIn a o hk,hc,hd,by simpa using hs⟩,?_⟩
  have e:=r.length
  simp only [Array.length_toList] at e
  omega
theorem Inv.tuple (I:Inv X pins σ H s) (h:SqT X.K H a xs):∃its:List Value,Vals xs its∧IsTup s.heap a its.toArray∧xs.length≤sizeLine:=by
 rcases h with h|⟨o,its,n,hk,hc,hs,hz,r⟩
 ·obtain ⟨z,its,r,p⟩:=h.ok I.hok
  exact ⟨its,r,p,z⟩
 ·refine ⟨its.toList,r,⟨o,I.kIn a o hk,hc,n,by simpa using hs⟩,?_⟩
  have e:=r.length
  simp only [Array.length_toList] at e
  omega
theorem Inv.list_inj (I:Inv X pins σ H s) (h:SqL X.K H a xs) (h':SqL X.K H a ys):xs=ys:=by
 obtain ⟨its,r,⟨o,n,e,_,_,d⟩,_⟩:=I.list h
 obtain ⟨its',r',⟨o',n',e',_,_,d'⟩,_⟩:=I.list h'
 rw [e] at e';cases e'
 rw [d] at d'
 injection d' with d1 _
 have:its=its':=by simpa using congrArg Array.toList d1
 subst this
 exact r.inj r'
theorem Inv.tuple_inj (I:Inv X pins σ H s) (h:SqT X.K H a xs) (h':SqT X.K H a ys):xs=ys:=by
 obtain ⟨its,r,⟨o,e,_,n,d⟩,_⟩:=I.tuple h
 obtain ⟨its',r',⟨o',e',_,n',d'⟩,_⟩:=I.tuple h'
 rw [e] at e';cases e'
 rw [d] at d'
 injection d' with d1 _
 have:its=its':=by simpa using congrArg Array.toList d1
 subst this
 exact r.inj r'
end
noncomputable abbrev Cx.wish (X:Cx) (E:Value→Shared→Prop):Cx:={ X with xe:=E }
noncomputable abbrev Cx.nox (X:Cx):Cx:=X.wish fun _ _=>False
theorem Cx.Ok.wish {X:Cx} (ok:X.Ok) (E:Value→Shared→Prop):(X.wish E).Ok :=
 ⟨ok.mod,ok.kind,ok.glob,ok.blt,ok.above,ok.inj,ok.has,ok.cab,ok.hd,ok.frames,ok.stk,ok.exf,ok.bs,ok.bsz,ok.noex,ok.exfs,ok.funs,ok.frf⟩
theorem Cx.Ok.unwish {X:Cx} {E:Value→Shared→Prop} (ok:(X.wish E).Ok):X.Ok :=
 ⟨ok.mod,ok.kind,ok.glob,ok.blt,ok.above,ok.inj,ok.has,ok.cab,ok.hd,ok.frames,ok.stk,ok.exf,ok.bs,ok.bsz,ok.noex,ok.exfs,ok.funs,ok.frf⟩
section
variable {X:Cx} {pins:List (Addr × Obj)} {σ:St} {H:Hp} {s:Shared} {E:Value→Shared→Prop}
theorem Inv.wish (I:Inv X pins σ H s) (E:Value→Shared→Prop):Inv (X.wish E) pins σ H s:=⟨I.ok.wish E,I.os,I.bare,I.base,I.loc,I.cell,I.free,I.freeC,I.pin,I.hok,I.len⟩
theorem Inv.unwish (I:Inv (X.wish E) pins σ H s):Inv X pins σ H s:=⟨I.ok.unwish,I.os,I.bare,I.base,I.loc,I.cell,I.free,I.freeC,I.pin,I.hok,I.len⟩
theorem SP.unwish {D:Ends} {f:Flow} {s':Shared} (h:SP (X.wish E) pins D f s'):SP X pins D f s':=by
 cases f with
 | next=>obtain ⟨σ',H',I,q⟩:=h;exact ⟨σ',H',I.unwish,q⟩
 | brk=>obtain ⟨σ',H',I,q⟩:=h;exact ⟨σ',H',I.unwish,q⟩
 | cont=>obtain ⟨σ',H',I,q⟩:=h;exact ⟨σ',H',I.unwish,q⟩
 | ret u=>obtain ⟨v,σ',H',I,r,q⟩:=h;exact ⟨v,σ',H',I.unwish,r,q⟩
theorem PSs.nox {st:List Stmt} {t:TS} (h:PSs X.nox st t):PSs X st t:=fun pins s σ H D I hw =>
 wpAny_mono (h pins s σ H D (I.wish _) hw) (fun _ _ q=>q.unwish) fun _ _ z=>False.elim z
end
section
variable {X:Cx} {st:Stmt} {rest:List Stmt} {t u:TS} {e:Expr} {te:TE} {pos:Pos}
noncomputable def vN:TS:=fun D σ H=>D.nx σ H
noncomputable def zT (t u:TS):TS:=fun D σ H=>t { D with nx:=u D } σ H
theorem tN:PSs X [] vN:=fun _ _ σ H _ I h=>wpAny_execs_nil ⟨σ,H,I,h⟩
theorem qK (h1:PS X st t) (h2:PSs X rest u):PSs X (st::rest) (zT t u):=by
 intro pins s σ H D I h
 refine wpAny_execs_cons (thn (h1 pins s σ H { D with nx:=u D } I h) fun f s1 q=>?_)
 cases f with
 | next =>
  obtain ⟨σ',H',I',q⟩:=q
  exact h2 pins s1 σ' H' D I' q
 | ret v=>exact q
 | brk=>exact q
 | cont=>exact q
noncomputable def w4:TS:=fun D σ H=>D.bk σ H
noncomputable def xA:TS:=fun D σ H=>D.ct σ H
theorem sB:PS X (.Pass pos) vN:=fun _ _ σ H _ I h=>wpAny_Pass ⟨σ,H,I,h⟩
theorem p8:PS X (.Break pos) w4:=fun _ _ σ H _ I h=>wpAny_Break ⟨σ,H,I,h⟩
theorem kC:PS X (.Continue pos) xA:=fun _ _ σ H _ I h=>wpAny_Continue ⟨σ,H,I,h⟩
theorem Inv.quiet {pins:List (Addr × Obj)} {σ:St} {H:Hp} {s:Shared} (I:Inv X pins σ H s):interactive X.env=false:=by simp [interactive,I.ok.kind]
noncomputable def xZ (te:TE):TS:=fun D σ H=>te σ H fun _ H1=>D.nx σ H1
theorem td (he:PE X e te) (hs:swapsWith e none pos.line X.env=pure false:=by rfl):PS X (.Expr e pos) (xZ te):=by
 intro pins s σ H D I h
 exact wpAny_Expr_any (thn (he pins s σ H _ I h) fun v s1 ⟨x,H1,I1,r1,q1⟩=>⟨σ,H1,I1,q1⟩) I.quiet hs
noncomputable def zf (te:TE):TS:=fun D σ H=>te σ H D.rt
theorem wU (he:PE X e te):PS X (.Return (some e) pos) (zf te):=by
 intro pins s σ H D I h
 exact wpAny_Return_some (thn (he pins s σ H _ I h) fun v s1 ⟨x,H1,I1,r1,q1⟩=>⟨x,σ,H1,I1,r1,q1⟩)
noncomputable def yi:TS:=fun D _ H=>D.rt .non H
theorem sI:PS X (.Return none pos) yi:=fun _ _ σ H _ I h=>wpAny_Return_none ⟨.non,σ,H,I,rfl,h⟩
noncomputable def y6 (c:TT) (t u:TS):TS:=fun D σ H=>c σ H fun b H1=>if b=true then t D σ H1 else u D σ H1
theorem yo {c:Expr} {a b:List Stmt} {tc:TT} (hc:PT X c tc) (ha:PSs X a t) (hb:PSs X b u):PS X (.If c a b pos) (y6 tc t u):=by
 intro pins s σ H D I h
 refine wpAny_If (thn (hc pins s σ H _ I h) fun d s1 ⟨H1,I1,q1⟩=>?_)
 cases d with
 | true=>exact ha pins s1 σ H1 D I1 q1
 | false=>exact hb pins s1 σ H1 D I1 q1
end
noncomputable abbrev TG:=V→St→Hp→(St→Hp→Prop)→Prop
noncomputable abbrev TGs:=List V→St→Hp→(St→Hp→Prop)→Prop
noncomputable def PG (X:Cx) (target:Expr) (t:TG):Prop :=
 ∀(pins:List (Addr × Obj)) (s:Shared) (σ:St) (H:Hp) (v:V) (u:Value) (Q:St→Hp→Prop),Inv X pins σ H s→RelV v u→t v σ H Q →
  wpAny (model X.prog X.w) X.A (assign target X.env u) (fun _ s'=>∃σ' H',Inv X pins σ' H' s'∧Q σ' H') X.xe s
noncomputable def PGs (X:Cx) (ts:List Expr) (t:TGs):Prop :=
 ∀(pins:List (Addr × Obj)) (s:Shared) (σ:St) (H:Hp) (vs:List V) (us:List Value) (Q:St→Hp→Prop),Inv X pins σ H s→Vals vs us→t vs σ H Q →
  wpAny (model X.prog X.w) X.A (assignInOrder ((assignEach ts X.env).map (·.2)) us) (fun _ s'=>∃σ' H',Inv X pins σ' H' s'∧Q σ' H') X.xe s
noncomputable abbrev wm:=V→V→V→Hp→(Hp→Prop)→Prop
noncomputable def vX (X:Cx) (t:wm):Prop :=
 ∀(pins:List (Addr × Obj)) (s:Shared) (σ:St) (H:Hp) (o i v:V) (ov iv u:Value) (Q:Hp→Prop),Inv X pins σ H s→RelV o ov→RelV i iv→RelV v u→t o i v H Q →
  wpAny (model X.prog X.w) X.A (setItem ov iv u) (fun _ s'=>∃H',Inv X pins σ H' s'∧Q H') X.xe s
noncomputable abbrev TIp:=V→V→Hp→VK→Prop
noncomputable def PIp (X:Cx) (op:Operator) (t:TIp):Prop :=
 ∀(pins:List (Addr × Obj)) (s:Shared) (σ:St) (H:Hp) (x y:V) (v u:Value) (Q:VK),Inv X pins σ H s→RelV x v→RelV y u→t x y H Q →
  wpAny (model X.prog X.w) X.A (inplaceOp op v u) (EP X pins σ Q) X.xe s
section
variable {X:Cx} {pos:Pos}
noncomputable def uj (i:Nat):TG:=fun v σ H Q=>Q (σ.set i (some v)) H
theorem sw {i:Nat} {x:Str} (hN:X.N.Nodup) (hi:X.N[i]?=some x) (hx:Loc X.env.scope x) (hf:X.fn x=true∨X.env.scope.names.lookup x=some .local:=by first|exact .inl rfl|exact .inr rfl|assumption):PG X (.Name x pos) (uj i):=by
 intro pins s σ H v u Q I r h
 exact wpAny_assign_Name (cg I hN hi hx r (fun s' I'=>⟨_,H,I',h⟩) hf)
noncomputable def za:TGs:=fun vs σ H Q=>vs=[]∧Q σ H
noncomputable def xI (t:TG) (u:TGs):TGs:=fun vs σ H Q=>∃v r,vs=v::r∧t v σ H fun σ' H'=>u r σ' H' Q
theorem tQ:PGs X [] za:=by
 intro pins s σ H vs us Q I r h
 obtain ⟨e,h⟩:=h
 subst e
 cases r
 exact assignInOrder_nil ⟨σ,H,I,h⟩
theorem p5 {e:Expr} {es:List Expr} {t:TG} {u:TGs} (h1:PG X e t) (h2:PGs X es u)
  (hs:(assignEach (e::es) X.env).map (·.2)=assign e X.env::(assignEach es X.env).map (·.2):=by rfl):PGs X (e::es) (xI t u):=by
 intro pins s σ H vs us Q I r h
 obtain ⟨v,vr,e1,h⟩:=h
 subst e1
 cases r with
 | cons r rr =>
  rw [hs]
  refine assignInOrder_cons (thn (h1 pins s σ H _ _ _ I r h) fun _ s1 ⟨σ1,H1,I1,q1⟩=>?_)
  exact h2 pins s1 σ1 H1 _ _ Q I1 rr q1
noncomputable def zB (K:PySem.W.Frag) (n:Nat) (t:TGs):TG:=fun v σ H Q=>∃a xs,v=.ref a∧SqT K H a xs∧xs.length=n∧t xs σ H Q
theorem vP {es:List Expr} {k:Nat} {t:TGs} {n:Nat} (hc:X.calm=true) (h:PGs X es t)
  (hn:(assignEach es X.env).length=n:=by rfl) (hst:(assignEach es X.env).findIdx? (·.1)=none:=by rfl):PG X (.Tuple es k pos) (zB X.K n t):=by
 intro pins s σ H v u Q I r hw
 obtain ⟨a,xs,e1,hq,hl,hw⟩:=hw
 subst e1
 cases r
 obtain ⟨its,rv,ht,hz⟩:=I.tuple hq
 refine assign_Tuple_tuple (I.ok.hd hc) ht (by simp [hn,←hl,rv.length]) hst fun h' hx=>?_
 have I1:Inv X pins σ H { s with heap:=h' }:=I.kept (t':=s.toks) fun b o e=>hx b o (Nat.ne_of_lt (Heap.lt_size e)) e
 exact h pins _ σ H xs _ Q I1 (by simpa using rv) hw
noncomputable def zx (to ti:TE) (t:wm):TG:=fun v σ H Q=>to σ H fun o H1=>ti σ H1 fun i H2=>t o i v H2 fun H3=>Q σ H3
theorem wT {o i:Expr} {to ti:TE} {t:wm} (ho:PE X o to) (hi:PE X i ti) (hs:vX X t)
  (ha:∀v,assign (.Subscript o i pos) X.env v=(do
   let ov ←holding [v] (eval o X.env)
   let iv ←holding [v,ov] (eval i X.env)
   standAt pos
   holding [v,ov,iv] (setItem ov iv v)
   release [v,ov,iv] []):=by intro _;rfl):PG X (.Subscript o i pos) (zx to ti t):=by
 intro pins s σ H v u Q I r h
 rw [ha]
 refine wpAny_bind (wpAny_holding (thn (ho pins s σ H _ I h) fun ov s1 ⟨x,H1,I1,r1,q1⟩=>?_))
 refine wpAny_bind (wpAny_holding (thn (hi pins s1 σ H1 _ I1 q1) fun iv s2 ⟨y,H2,I2,r2,q2⟩=>?_))
 refine wpAny_bind (wpAny_standAt (wpAny_bind (wpAny_holding (thn (hs pins s2 σ H2 x y v ov iv u _ I2 r1 r2 r q2) fun _ s3 ⟨H3,I3,q3⟩=>?_))))
 exact wpAny_release ⟨σ,H3,I3,q3⟩
noncomputable def tu (te:TE) (g:TG):TS:=fun D σ H=>te σ H fun x H1=>g x σ H1 D.nx
theorem gY {tg e:Expr} {te:TE} {g:TG} (he:PE X e te) (hg:PG X tg g) (hs:swapsWithSole [tg] e pos.line X.env=pure false:=by rfl) (hw:swappedStores [tg] e X.env=pure none:=by rfl)
  (h1:(assignEach [tg] X.env).map (·.2)=[assign tg X.env]:=by rfl):PS X (.Assign [tg] e pos) (tu te g):=by
 intro pins s σ H D I h
 refine wpAny_Assign_stores (thn (he pins s σ H _ I h) fun v s1 ⟨x,H1,I1,r1,q1⟩=>?_) hs hw
 rw [h1]
 exact thn (hg pins s1 σ H1 x v _ I1 r1 q1) fun _ s2 q=>q
theorem qO {i:Nat} {x:Str} {e:Expr} {te:TE} {pos':Pos} (hN:X.N.Nodup) (hi:X.N[i]?=some x) (hx:Loc X.env.scope x) (he:PE X e te) (hs:swapsWith e (some (.Name x pos')) pos.line X.env=pure false:=by rfl) (hf:X.fn x=true∨X.env.scope.names.lookup x=some .local:=by first|exact .inl rfl|exact .inr rfl|assumption) :
  PS X (.Assign [.Name x pos'] e pos) (tu te (uj i)):=by
 intro pins s σ H D I h
 refine wpAny_Assign_Name (thn (he pins s σ H _ I h) fun v s1 ⟨y,H1,I1,r1,q1⟩=>?_) hs
 exact cg I1 hN hi hx r1 (fun s2 I2=>⟨_,H1,I2,q1⟩) hf
noncomputable def y8 (i j:Nat) (ta:TA):TS:=fun D σ H=>ta σ H fun vs H1=>∃v w,vs=[v,w]∧D.nx ((σ.set i (some v)).set j (some w)) H1
theorem wL {i j:Nat} {x y:Str} {a b:Expr} {ta:TA} {px py pt:Pos} {kt k2 pt2} (hc:X.calm=true) (hN:X.N.Nodup) (hi:X.N[i]?=some x) (hj:X.N[j]?=some y) (hij:i≠j)
  (hx:X.env.scope.names.lookup x=some .local) (hy:X.env.scope.names.lookup y=some .local) (ha:PA X [a,b] ta)
  (hw:swappedStores [.Tuple [.Name x px,.Name y py] kt pt] (.Tuple [a,b] k2 pt2) X.env=pure (some [x,y]))
  (hs:swapsWithSole [.Tuple [.Name x px,.Name y py] kt pt] (.Tuple [a,b] k2 pt2) pos.line X.env=pure false:=by rfl) :
  PS X (.Assign [.Tuple [.Name x px,.Name y py] kt pt] (.Tuple [a,b] k2 pt2) pos) (y8 i j ta):=by
 intro pins s σ H D I h
 rw [exec_Assign_arm]
 refine wpAny_bind (wpAny_standAt ?_)
 rw [hs]
 refine wpAny_bind (wpAny_pure ?_)
 rw [if_neg (by decide)]
 refine wpAny_bind (Tuple_ (thn (ha _ pins s σ H _ I h) fun us s1 ⟨vs,H1,I1,r1,q1⟩=>?_))
 obtain ⟨v,w,e1,q1⟩:=q1
 subst e1
 obtain ⟨u1,u2,rfl,rv,rw'⟩:∃u1 u2,us=[u1,u2]∧RelV v u1∧RelV w u2:=by
  cases r1 with
  | cons p q =>
   cases q with
   | cons p' q' =>
    cases q'
    exact ⟨_,_,rfl,p,p'⟩
 refine wpAny_newObj_type ?_ (by show 2≤sizeLine;decide)
 have I2:Inv X pins σ H1 { s1 with heap:=s1.heap.push { cls:=.type "tuple",data:=.seq [u1,u2].toArray } }:=I1.kept (t':=s1.toks) fun b o e=>Heap.get?_push_of_some _ e
 rw [hw]
 refine wpAny_bind (wpAny_pure ?_)
 show wpAny (model X.prog X.w) X.A (do rule "assign.swapped-stores";let items ←unpackItems (.ref s1.heap.objs.size) 2 none;assignInOrder [fun v=>bindName X.env y v,fun v=>bindName X.env x v] items.reverse;pure Flow.next) _ _ _
 refine wpAny_bind (wpAny_rule (wpAny_bind (unpackItems_tuple (items:=#[u1,u2]) (I.ok.hd hc) (IsTup.new s1.heap _) fun h' hx'=>?_)))
 have I3:=I2.kept (h':=h') (t':=s1.toks) fun b o e=>hx' b o (Nat.ne_of_lt (Heap.lt_size e)) e
 show wpAny _ _ (assignInOrder [fun v=>bindName X.env y v,fun v=>bindName X.env x v] [u2,u1] >>= fun _=>pure Flow.next) _ _ _
 refine wpAny_bind (assignInOrder_cons (wpAny_bindName (cg I3 hN hj (.inl hy) rw' (fun s2 I4=>?_) (.inr hy))))
 refine assignInOrder_cons (wpAny_bindName (cg I4 hN hi (.inl hx) rv (fun s3 I5=>assignInOrder_nil (wpAny_pure ?_)) (.inr hx)))
 rw [List.set_comm _ _ (Ne.symm hij)] at I5
 exact ⟨_,H1,I5,q1⟩
noncomputable def zC (i:Nat) (te:TE) (ti:TIp):TS:=fun D σ H=>∃x,σ[i]?=some (some x)∧te σ H fun y H1=>ti x y H1 fun z H2=>D.nx (σ.set i (some z)) H2
theorem wW {i:Nat} {x:Str} {e:Expr} {te:TE} {op:Operator} {ti:TIp} {pos':Pos} (hN:X.N.Nodup) (hi:X.N[i]?=some x) (hx:Loc X.env.scope x) (he:PE X e te) (ho:PIp X op ti) (hf:X.fn x=true∨X.env.scope.names.lookup x=some .local:=by first|exact .inl rfl|exact .inr rfl|assumption) :
  PS X (.AugAssign (.Name x pos') op e pos) (zC i te ti):=by
 intro pins s σ H D I h
 obtain ⟨v,e1,h⟩:=h
 obtain ⟨m,hn,hl⟩:=I.loc
 have vis:Vis X.env.scope x:=by rcases hx with k|k;exact .inl k;exact .inr (.inl k)
 obtain ⟨u,r,l⟩:=hl i x v hi e1 vis
 refine wpAny_AugAssign_Name ?_
 have go:wpAny (model X.prog X.w) X.A (eval e X.env) (fun w s₂=>wpAny (model X.prog X.w) X.A (inplaceOp op u w) (fun r s₃=>wpAny (model X.prog X.w) X.A (storeName X.env x r) (fun _=>SP X pins D .next) X.xe s₃) X.xe s₂) X.xe s:=by
  refine thn (he pins s σ H _ I h) fun w s1 ⟨y,H1,I1,r1,q1⟩=>?_
  refine thn (ho pins s1 σ H1 v y u w _ I1 r r1 q1) fun z s2 ⟨zv,H2,I2,r2,q2⟩=>?_
  exact cg I2 hN hi hx r2 (fun s3 I3=>⟨_,H2,I3,q2⟩) hf
 rcases l with ⟨hk,hm⟩|⟨hk,c,hc,hcell⟩
 ·exact wpAny_loadName_local I.ok.kind hk hn hm go
 ·rcases hk with hk|hk
  ·exact wpAny_loadName_cell I.ok.kind hk hc hcell go
  ·rcases hx with k|k
   ·have:X.env.scope.names.lookup x=some .free:=hk
    rw [k] at this;cases this
   ·have:X.env.scope.names.lookup x=some .free:=hk
    rw [k] at this;cases this
noncomputable def ipI (f:Int→Int→Int):TIp:=fun x y H Q=>∃i j,x=.int i∧y=.int j∧Q (.int (f i j)) H
theorem vZ:PIp X .Add (ipI fun i j=>i+j):=by
 intro pins s σ H x y v u Q I r1 r2 h
 obtain ⟨i,j,e1,e2,q⟩:=h
 subst e1;subst e2
 obtain ⟨t,rfl⟩:=r1
 obtain ⟨t',rfl⟩:=r2
 exact iadd_int ⟨.int _,H,I.tok _,⟨_,rfl⟩,q⟩
theorem wO:PIp X .Sub (ipI fun i j=>i-j):=by
 intro pins s σ H x y v u Q I r1 r2 h
 obtain ⟨i,j,e1,e2,q⟩:=h
 subst e1;subst e2
 obtain ⟨t,rfl⟩:=r1
 obtain ⟨t',rfl⟩:=r2
 exact isub_int ⟨.int _,H,I.tok _,⟨_,rfl⟩,q⟩
end
section
variable {X:Cx} {pos:Pos}
noncomputable def qM (c:TT) (tb:TS):TS:=fun D σ H=>∃W:Nat→St→Hp→Prop,(∃m,W m σ H)∧∀m σ H,W m σ H →
 c σ H fun b H1=>if b=true then ∃N:St→Hp→Prop,(∀σ' H',N σ' H'→∃m',m'<m∧W m' σ' H')∧tb { D with nx:=N,ct:=N,bk:=D.nx } σ H1 else D.nx σ H1
theorem qb {c:Expr} {body:List Stmt} {tc:TT} {tb:TS} (hp:PassesOwn (model X.prog X.w) X.A X.env X.xe) (hc:PT X c tc) (hb:PSs X body tb):PS X (.While c body [] pos) (qM tc tb):=by
 intro pins s σ H D I h
 obtain ⟨W,⟨m0,w0⟩,turn⟩:=h
 refine wpAny_While (codeAny_whileLoop (fun n s'=>∃σ' H',Inv X pins σ' H' s'∧W n σ' H') ?_ m0 ⟨σ,H,I,w0⟩)
 rintro n s1 ⟨σ1,H1,I1,w1⟩
 refine wpAny_passesOwn hp (thn (hc pins s1 σ1 H1 _ I1 (turn n σ1 H1 w1)) fun b s2 ⟨H2,I2,q2⟩=>?_)
 cases b with
 | true =>
  obtain ⟨N,hN,q2⟩:=q2
  rw [if_pos rfl]
  refine wpAny_passesOwn hp (thn (hb pins s2 σ1 H2 _ I2 q2) fun f s3 q3=>?_)
  cases f with
  | next =>
   obtain ⟨σ3,H3,I3,n3⟩:=q3
   obtain ⟨m',hm,w3⟩:=hN σ3 H3 n3
   exact ⟨m',hm,σ3,H3,I3,w3⟩
  | cont =>
   obtain ⟨σ3,H3,I3,n3⟩:=q3
   obtain ⟨m',hm,w3⟩:=hN σ3 H3 n3
   exact ⟨m',hm,σ3,H3,I3,w3⟩
  | brk=>exact q3
  | ret v=>exact q3
 | false =>
  rw [if_neg Bool.false_ne_true]
  exact wpAny_execs_nil ⟨σ1,H2,I2,q2⟩
end
structure It where
 go:Nat→Hp→Prop
 yld:Nat→Hp→V→Hp→Prop
 stop:Nat→Hp→Prop
noncomputable def ef (X:Cx) (pins:List (Addr × Obj)) (H:Hp) (b:Addr):Prop :=
 H b=none∧b≠X.env.locals∧b ∉ X.fs∧(b∈X.ex∨X.s₀.heap.objs.size≤b)∧(∀x c,X.env.cells.lookup x=some c→c≠b)∧∀p∈X.pn++pins,p.1≠b
theorem Inv.fpOk {X:Cx} {pins:List (Addr × Obj)} {σ:St} {H H':Hp} {s:Shared} {b:Addr} (I:Inv X pins σ H s) (hb:s.heap.objs.size≤b) (hn:H' b=none):ef X pins H' b:=by
 refine ⟨hn,Nat.ne_of_gt (Nat.lt_of_lt_of_le I.lt hb),I.nofs hb,.inr (Nat.le_trans I.sz hb),fun x c e z=>?_,fun p hp z=>?_⟩
 ·obtain ⟨v,q⟩:=I.cell x c e
  exact absurd (Nat.lt_of_lt_of_le q.lt (by rw [z];exact hb)) (Nat.lt_irrefl _)
 ·exact absurd (Nat.lt_of_lt_of_le (Heap.lt_size (I.pin p hp).1) (by rw [z];exact hb)) (Nat.lt_irrefl _)
structure kU (P:Program) (w:World) (K:PySem.W.Frag) (tg:Expr) (J:It) (fp:List Addr) (it:Addr) (tn:Nat→Heap→Prop):Prop where
 mem:it∈fp
 obj:∀i h,tn i h→∀b∈fp,∃o,h.get? b=some o∧∀v,o.data≠.cell v
 keep:∀i h h',tn i h→(∀b∈fp,∀o,h.get? b=some o→h'.get? b=some o)→tn i h'
 item:∀(X:Cx),X.prog=P→X.w=w→X.K=K→X.calm=true→∀(i:Nat) (pins:List (Addr × Obj)) (s:Shared) (σ:St) (H:Hp) (E:Value→Shared→Prop),Inv X pins σ H s→(∀b∈fp,ef X pins H b)→tn i s.heap→J.go i H →
  wpAny (model P w) X.A (pyNext (.ref it)) (fun r s1=>∃u,r=some u ∧
   wpAny (model P w) X.A (letOwnedTupleGo tg (.ref it) u) (fun _ s2=>∃x H',Inv X pins σ H' s2∧RelV x u∧J.yld i H x H'∧tn (i+1) s2.heap∧∀b∈fp,H' b=none) E s1) E s
 done:∀(X:Cx),X.prog=P→X.w=w→X.K=K→X.calm=true→∀(i:Nat) (pins:List (Addr × Obj)) (s:Shared) (σ:St) (H:Hp) (E:Value→Shared→Prop),Inv X pins σ H s→(∀b∈fp,ef X pins H b)→tn i s.heap→J.stop i H →
  wpAny (model P w) X.A (pyNext (.ref it)) (fun r s1=>r=none∧Inv X pins σ H s1) E s
 self:∀(A:Around) (i:Nat) (s:Shared) (Q:Value→Shared→Prop) (E:Value→Shared→Prop),tn i s.heap→Q (.ref it) s→wpAny (model P w) A (pyIter (.ref it)) Q E s
noncomputable abbrev TI:=St→Hp→(It→Hp→Prop)→Prop
noncomputable def PIE (X:Cx) (pins:List (Addr × Obj)) (σ:St) (tg:Expr) (R:It→Hp→Prop) (itv:Value) (s2:Shared):Prop :=
 ∃(it:Addr) (fp:List Addr) (tn:Nat→Heap→Prop) (J:It) (H':Hp),itv=.ref it∧Inv X pins σ H' s2∧kU X.prog X.w X.K tg J fp it tn∧tn 0 s2.heap∧(∀b∈fp,ef X pins H' b)∧R J H'
noncomputable def PI (X:Cx) (tg iter:Expr) (wi:TI):Prop :=
 ∀(pins:List (Addr × Obj)) (s:Shared) (σ:St) (H:Hp) (R:It→Hp→Prop),Inv X pins σ H s→wi σ H R →
  wpAny (model X.prog X.w) X.A (eval iter X.env) (fun v s1=>wpAny (model X.prog X.w) X.A (pyIter v) (PIE X pins σ tg R) X.xe s1) X.xe s
theorem ky {M:Model} {A:Around} {E:Value→Shared→Prop} {s:Shared} {tg:Expr} {it:Addr} {u:Value} {o:Obj} {n:String} {vs:Array Value} {Q:Unit→Shared→Prop} (ho:s.heap.get? it=some o) (hc:o.cls=.type n) (hd:o.data=.fields vs)
  (hn:["enumerate","zip","dict_itemiterator","dict_reverseitemiterator","odict_iterator","itertools.zip_longest","itertools.pairwise"].contains n=false) (hQ:Q () s):wpAny M A (letOwnedTupleGo tg (.ref it) u) Q E s:=by
 unfold letOwnedTupleGo
 cases tg <;> first
  | exact wpAny_pure hQ
  | (cases u <;> first
    | exact wpAny_pure hQ
    | (refine wpAny_bind (wpAny_load ho ?_)
       rw [hc,hd]
       show wpAny M A (if (["enumerate","zip","dict_itemiterator","dict_reverseitemiterator","odict_iterator","itertools.zip_longest","itertools.pairwise"].contains n && vs[0]? == some (rawInt _))=true then _ else _) Q E s
       rw [if_neg (by intro h;rw [hn,Bool.false_and] at h;cases h)]
       exact wpAny_pure hQ))
noncomputable def Itl (K:PySem.W.Frag) (a:Addr):It :=
 ⟨fun i H=>∃xs x,SqL K H a xs∧xs[i]?=some x,fun i H x H'=>H'=H∧∀xs,SqL K H a xs→xs[i]?=some x,fun i H=>∃xs,SqL K H a xs∧xs.length≤i⟩
noncomputable def Itt (K:PySem.W.Frag) (a:Addr):It :=
 ⟨fun i H=>∃xs x,SqT K H a xs∧xs[i]?=some x,fun i H x H'=>H'=H∧∀xs,SqT K H a xs→xs[i]?=some x,fun i H=>∃xs,SqT K H a xs∧xs.length≤i⟩
noncomputable def Itr (lo:Int) (n:Nat):It:=⟨fun i _=>i<n,fun i H x H'=>H'=H∧x=.int (lo+i),fun i _=>n≤i⟩
theorem o7 {P:Program} {w:World} {K:PySem.W.Frag} {tg:Expr} (a it:Addr):kU P w K tg (Itl K a) [it] it (fun i h=>h.IsListIter it a i) where
 mem:=by simp
 obj:=fun i h st b hb=>by
  have e:b=it:=by simpa using hb
  subst e
  obtain ⟨o,e,c,d⟩:=st
  exact ⟨o,e,fun v z=>by rw [d] at z;cases z⟩
 keep:=fun i h h' st k=>st.at fun o e=>k it (by simp) o e
 item:=by
  intro X hP hw hK hc i pins s σ H E I hf st hg
  subst hP hw hK
  obtain ⟨xs,x,hq,hx⟩:=hg
  obtain ⟨its,rv,p,hz⟩:=I.list hq
  obtain ⟨u,hu,ru⟩:=rv.get hx
  obtain ⟨f0,f1,f2,f3,f4,f5⟩:=hf it (by simp)
  refine wpAny_pyNext_list_item st p.isList (x:=u) (by simpa using hu) fun h' st' sb=>?_
  have I1:Inv X pins σ H { s with heap:=h' }:=I.turned (t':=s.toks) (fun b o hb e=>(sb.2 b hb).trans e) f0 f1 f3 f4 f5
  obtain ⟨o,e,c,d⟩:=id st'
  exact ⟨u,rfl,ky (s:={ s with heap:=h' }) e c d (by decide) ⟨x,H,I1,ru,⟨rfl,fun ys hy=>by rw [I.list_inj hy hq];exact hx⟩,st',fun b hb=>(hf b hb).1⟩⟩
 done:=by
  intro X hP hw hK hc i pins s σ H E I hf st hg
  subst hP hw hK
  obtain ⟨xs,hq,hx⟩:=hg
  obtain ⟨its,rv,p,hz⟩:=I.list hq
  obtain ⟨f0,f1,f2,f3,f4,f5⟩:=hf it (by simp)
  have hl:=rv.length
  exact wpAny_pyNext_list_end (I.ok.hd hc) st p.isList (by simp;omega) fun h' eb=>⟨rfl,I.turned (t':=s.toks) (fun b o hb e=>eb b o hb e) f0 f1 f3 f4 f5⟩
 self:=fun _ _ _ _ _ st h=>wpAny_pyIter_listiter st h
theorem lZ {P:Program} {w:World} {K:PySem.W.Frag} {tg:Expr} (a it:Addr):kU P w K tg (Itt K a) [it] it (fun i h=>h.IsTupleIter it a i) where
 mem:=by simp
 obj:=fun i h st b hb=>by
  have e:b=it:=by simpa using hb
  subst e
  obtain ⟨o,e,c,d⟩:=st
  exact ⟨o,e,fun v z=>by rw [d] at z;cases z⟩
 keep:=fun i h h' st k=>st.at fun o e=>k it (by simp) o e
 item:=by
  intro X hP hw hK hc i pins s σ H E I hf st hg
  subst hP hw hK
  obtain ⟨xs,x,hq,hx⟩:=hg
  obtain ⟨its,rv,p,hz⟩:=I.tuple hq
  obtain ⟨u,hu,ru⟩:=rv.get hx
  obtain ⟨f0,f1,f2,f3,f4,f5⟩:=hf it (by simp)
  refine wpAny_pyNext_tuple_item st (show s.heap.IsTuple a its.toArray from p) (x:=u) (by simpa using hu) fun h' st' sb=>?_
  have I1:Inv X pins σ H { s with heap:=h' }:=I.turned (t':=s.toks) (fun b o hb e=>(sb.2 b hb).trans e) f0 f1 f3 f4 f5
  obtain ⟨o,e,c,d⟩:=id st'
  exact ⟨u,rfl,ky (s:={ s with heap:=h' }) e c d (by decide) ⟨x,H,I1,ru,⟨rfl,fun ys hy=>by rw [I.tuple_inj hy hq];exact hx⟩,st',fun b hb=>(hf b hb).1⟩⟩
 done:=by
  intro X hP hw hK hc i pins s σ H E I hf st hg
  subst hP hw hK
  obtain ⟨xs,hq,hx⟩:=hg
  obtain ⟨its,rv,p,hz⟩:=I.tuple hq
  obtain ⟨f0,f1,f2,f3,f4,f5⟩:=hf it (by simp)
  have hl:=rv.length
  exact wpAny_pyNext_tuple_end (I.ok.hd hc) st (show s.heap.IsTuple a its.toArray from p) (by simp;omega) fun h' eb=>⟨rfl,I.turned (t':=s.toks) (fun b o hb e=>eb b o hb e) f0 f1 f3 f4 f5⟩
 self:=fun _ _ _ _ _ st h=>wpAny_pyIter_tupleiter st h
theorem lA {P:Program} {w:World} {K:PySem.W.Frag} {tg:Expr} (it:Addr) (lo:Int) (n:Nat):kU P w K tg (Itr lo n) [it] it (fun i h=>IsRangeIter h it (lo+(i:Nat)*1) ((n:Int)-(i:Nat)) 1) where
 mem:=by simp
 obj:=fun i h st b hb=>by
  have e:b=it:=by simpa using hb
  subst e
  exact ⟨_,st,fun v z=>by
   have z':Data.fields _=Data.cell v:=z
   cases z'⟩
 keep:=fun i h h' st k=>k it (by simp) _ st
 item:=by
  intro X hP hw hK hc i pins s σ H E I hf st hg
  subst hP hw hK
  obtain ⟨f0,f1,f2,f3,f4,f5⟩:=hf it (by simp)
  have W:=Walks.range (prog:=X.prog) (w:=X.w) (I.ok.hd hc) it lo 1 n
  refine W.item i s _ _ hg st fun v h' tk hv st' kk=>?_
  obtain ⟨t,rfl⟩:=hv
  have I1:Inv X pins σ H { s with heap:=h',toks:=tk }:=I.turned (fun b o hb e=>kk b o (by simpa using hb) e) f0 f1 f3 f4 f5
  refine ⟨_,rfl,ky (s:={ s with heap:=h',toks:=tk }) (n:="range_iterator") st' rfl rfl (by decide) ⟨.int (lo+i),H,I1,⟨t,?_⟩,⟨rfl,rfl⟩,st',fun b hb=>(hf b hb).1⟩⟩
  rw [Int.mul_one]
 done:=by
  intro X hP hw hK hc i pins s σ H E I hf st hg
  subst hP hw hK
  obtain ⟨f0,f1,f2,f3,f4,f5⟩:=hf it (by simp)
  exact wpAny_pyNext_range_end (I.ok.hd hc) st (by have:n≤i:=hg;omega) fun h' eb=>⟨rfl,I.turned (t':=s.toks) (fun b o hb e=>eb b o hb e) f0 f1 f3 f4 f5⟩
 self:=fun _ _ _ _ _ st h=>wpAny_pyIter_rangeiter st h
end L2
namespace L2
open PySem PySem.Spec PyProof.Rows
section
variable {X:Cx} {tg:Expr}
theorem lh {pins:List (Addr × Obj)} {σ:St} {H:Hp} {s:Shared} {R:It→Hp→Prop} {E:Value→Shared→Prop} {lo hi:Int} {t u v:Tok} {tk:Nat} (I:Inv X pins σ H s) (h1:-(2 ^ 62)≤lo) (h2:lo<2 ^ 62) (h3:-(2 ^ 62)≤hi) (h4:hi<2 ^ 62)
  (q:R (Itr lo (hi-lo).toNat) H):wpAny (model X.prog X.w) X.A (pyIter (.ref s.heap.objs.size)) (PIE X pins σ tg R) E { s with heap:=s.heap.push { cls:=.type "range",data:=.fields #[.int lo t,.int hi u,.int 1 v] },toks:=tk }:=by
 refine wpAny_pyIter_range (IsRange.new ..) (small_one h1 h2 h3 h4) ?_
 have I1:Inv X pins σ H { s with heap:=s.heap.push { cls:=.type "range",data:=.fields #[.int lo t,.int hi u,.int 1 v] },toks:=tk }:=I.kept fun b o e=>Heap.get?_push_of_some _ e
 refine ⟨(s.heap.push { cls:=.type "range",data:=.fields #[.int lo t,.int hi u,.int 1 v] }).objs.size,[(s.heap.push { cls:=.type "range",data:=.fields #[.int lo t,.int hi u,.int 1 v] }).objs.size],_,_,H,rfl,
  I1.kept (t':=tk) fun b o e=>Heap.get?_push_of_some _ e,lA _ lo (hi-lo).toNat,?_,fun b hb=>?_,q⟩
 ·have e1:lo+((0:Nat):Int)*1=lo:=by simp
  have e2:(((hi-lo).toNat:Nat):Int)-((0:Nat):Int)=Builtin.Range.rangeSize lo hi 1:=by rw [rangeSize_one];split <;> omega
  show IsRangeIter _ _ (lo+((0:Nat):Int)*1) ((((hi-lo).toNat:Nat):Int)-((0:Nat):Int)) 1
  rw [e1,e2]
  exact Heap.get?_push_size _ rfl
 ·have e:b=(s.heap.push { cls:=.type "range",data:=.fields #[.int lo t,.int hi u,.int 1 v] }).objs.size:=by simpa using hb
  subst e
  exact I1.fpOk (Nat.le_refl _) (I1.hok.fresh (Nat.le_refl _))
noncomputable def xC (ta:TA):TI:=fun σ H R=>ta σ H fun vs H1=>∃j:Int,vs=[.int j]∧-(2 ^ 62)≤j∧j<2 ^ 62∧R (Itr 0 j.toNat) H1
noncomputable def yY (ta:TA):TI:=fun σ H R=>ta σ H fun vs H1=>∃i j:Int,vs=[.int i,.int j]∧(-(2 ^ 62)≤i∧i<2 ^ 62∧-(2 ^ 62)≤j∧j<2 ^ 62)∧R (Itr i (j-i).toNat) H1
theorem oQ {a:Expr} {ta:TA} {p pos:Pos} (hg:Gl X "range") (hm:X.mg "range"=none) (ha:PA X [a] ta) (hs:starEach [a] X.env=[(false,eval a X.env)]:=by rfl):PI X tg (.Call (.Name "range" p) [a] [] pos) (xC ta):=by
 intro pins s σ H R I h
 refine Call_ (fm I hg hm boot_range (PyProof.Rows.callWith_type1 (thn (ha pos pins s σ H _ I h) fun us s1 ⟨vs,H1,I1,r1,q1⟩=>?_) hs rfl))
 obtain ⟨j,e,q1,q2,q⟩:=q1
 subst e
 cases r1 with
 | cons r rr =>
  cases rr
  obtain ⟨t,rfl⟩:=r
  exact call_range_1 (lh I1 (by omega) (by omega) q1 q2 (by simpa using q))
theorem oH {a b:Expr} {ta:TA} {p pos:Pos} (hg:Gl X "range") (hm:X.mg "range"=none) (ha:PA X [a,b] ta) (hs:starEach [a,b] X.env=[(false,eval a X.env),(false,eval b X.env)]:=by rfl) (hs2:starEach [b] X.env=[(false,eval b X.env)]:=by rfl) :
  PI X tg (.Call (.Name "range" p) [a,b] [] pos) (yY ta):=by
 intro pins s σ H R I h
 refine Call_ (fm I hg hm boot_range (PyProof.Rows.callWith_type1 (thn (ha pos pins s σ H _ I h) fun us s1 ⟨vs,H1,I1,r1,q1⟩=>?_) (by rw [hs,hs2]) (by rw [hs2];rfl)))
 obtain ⟨i,j,e,⟨q1,q2,q3,q4⟩,q⟩:=q1
 subst e
 cases r1 with
 | cons r rr =>
  cases rr with
  | cons r' rr =>
   cases rr
   obtain ⟨t,rfl⟩:=r
   obtain ⟨t',rfl⟩:=r'
   exact call_range_2 (lh I1 q1 q2 q3 q4 q)
noncomputable def yL (wi:TI) (g:TG) (tb:TS):TS:=fun D σ H=>wi σ H fun J H1=>∃W:Nat→Nat→St→Hp→Prop,(∃m,W 0 m σ H1)∧∀i m σ H,W i m σ H →
 (J.stop i H∧D.nx σ H)∨(J.go i H∧∃N:St→Hp→Prop,(∀σ' H',N σ' H'→∃m',m'<m∧W (i+1) m' σ' H')∧∀x H',J.yld i H x H'→g x σ H' fun σ2 H2=>tb { D with nx:=N,ct:=N,bk:=D.nx } σ2 H2)
noncomputable def fI (fp:List Addr) (h:Heap):List (Addr × Obj):=fp.filterMap fun b=>(h.get? b).map fun o=>(b,o)
theorem bJ {fp:List Addr} {h:Heap} {b:Addr} {o:Obj} (hb:b∈fp) (e:h.get? b=some o):(b,o)∈fI fp h:=List.mem_filterMap.mpr ⟨b,hb,by rw [e];rfl⟩
theorem oy {fp:List Addr} {h:Heap} {p:Addr × Obj} (hp:p∈fI fp h):p.1∈fp∧h.get? p.1=some p.2:=by
 obtain ⟨b,hb,e⟩:=List.mem_filterMap.mp hp
 cases q:h.get? b with
 | none=>rw [q] at e;cases e
 | some o =>
  rw [q] at e
  have e':(b,o)=p:=Option.some.inj e
  subst e'
  exact ⟨hb,q⟩
theorem Inv.pinned {pins:List (Addr × Obj)} {σ:St} {H:Hp} {s:Shared} {fp:List Addr} (I:Inv X pins σ H s) (hf:∀b∈fp,ef X pins H b) (ho:∀b∈fp,∃o,s.heap.get? b=some o∧∀v,o.data≠.cell v):Inv X (pins++fI fp s.heap) σ H s :=
 I.pins_of fun p hp=>(List.mem_append.mp hp).elim (fun z=>I.pin p (List.mem_append_right _ z)) fun z=>by
  obtain ⟨hb,e⟩:=oy z
  obtain ⟨f0,f1,f2,_⟩:=hf p.1 hb
  obtain ⟨o,e',d⟩:=ho p.1 hb
  rw [e] at e';cases e'
  exact ⟨e,f0,f1,f2,d⟩
theorem Inv.unpinned {pins pl:List (Addr × Obj)} {σ:St} {H:Hp} {s:Shared} (I:Inv X (pins++pl) σ H s):Inv X pins σ H s:=I.pins_of fun p hp=>I.pin p (List.mem_append_right _ (List.mem_append_left _ hp))
theorem wx {iter:Expr} {body:List Stmt} {wi:TI} {g:TG} {tb:TS} {pos:Pos} (hp:PassesOwn (model X.prog X.w) X.A X.env X.xe) (hc:X.calm=true) (hi:PI X tg iter wi) (hg:PG X tg g) (hb:PSs X body tb)
  (hs:∀x,foldedSetIterable iter X.env x=pure x:=by intro _;rfl):PS X (.For tg iter body [] pos) (yL wi g tb):=by
 intro pins s σ H D I h
 refine wpAny_For (thn (hi pins s σ H _ I h) fun v s1 h1=>thn h1 fun itv s2 h2=>?_) hs
 obtain ⟨it,fp,tn,J,H2,e,I2,T,st2,f2,W,⟨m0,w0⟩,turn⟩:=h2
 subst e
 have stat:∀ {H':Hp},(∀b∈fp,H' b=none)→∀b∈fp,ef X pins H' b:=fun hn b hb=>⟨hn b hb,(f2 b hb).2⟩
 refine codeAny_forLoop_any (fun n s'=>∃i σ' H',Inv X pins σ' H' s'∧tn i s'.heap∧(∀b∈fp,H' b=none)∧W i n σ' H') ?_ m0 ⟨0,σ,H2,I2,st2,fun b hb=>(f2 b hb).1,w0⟩
 rintro n s3 ⟨i,σ3,H3,I3,st3,fr3,w3⟩
 rcases turn i n σ3 H3 w3 with ⟨stop,qn⟩|⟨go,N,hN,step⟩
 ·refine wpAny_passesOwn hp (thn (T.done X rfl rfl rfl hc i pins s3 σ3 H3 X.xe I3 (stat fr3) st3 stop) fun r s4 ⟨hr,I4⟩=>?_)
  subst hr
  exact wpAny_execs_nil ⟨σ3,H3,I4,qn⟩
 ·refine wpAny_passesOwn hp (thn (T.item X rfl rfl rfl hc i pins s3 σ3 H3 X.xe I3 (stat fr3) st3 go) fun r s4 ⟨u,hr,h4⟩=>?_)
  subst hr
  refine wpAny_passesOwn hp (thn h4 fun _ s5 ⟨x,H5,I5,r5,y5,st5,fr5⟩=>?_)
  have I5':=I5.pinned (stat fr5) (T.obj _ _ st5)
  refine wpAny_passesOwn hp (thn (hg _ s5 σ3 H5 x u _ I5' r5 (step x H5 y5)) fun _ s6 ⟨σ6,H6,I6,q6⟩=>?_)
  refine wpAny_passesOwn hp (thn (hb _ s6 σ6 H6 _ I6 q6) fun f s7 q7=>?_)
  have again:∀ {σ7:St} {H7:Hp},Inv X (pins++fI fp s5.heap) σ7 H7 s7→N σ7 H7→∃m,m<n∧∃i σ' H',Inv X pins σ' H' s7∧tn i s7.heap∧(∀b∈fp,H' b=none)∧W i m σ' H':=fun {σ7 H7} I7 n7=>by
   obtain ⟨m',hm,w7⟩:=hN σ7 H7 n7
   refine ⟨m',hm,i+1,σ7,H7,I7.unpinned,T.keep _ _ _ st5 fun b hb o e=>(I7.pin (b,o) (List.mem_append_right _ (List.mem_append_right _ (bJ hb e)))).1,fun b hb=>?_,w7⟩
   obtain ⟨o,e,d⟩:=T.obj _ _ st5 b hb
   exact (I7.pin (b,o) (List.mem_append_right _ (List.mem_append_right _ (bJ hb e)))).2.1
  cases f with
  | next=>obtain ⟨σ7,H7,I7,n7⟩:=q7;exact again I7 n7
  | cont=>obtain ⟨σ7,H7,I7,n7⟩:=q7;exact again I7 n7
  | brk=>obtain ⟨σ7,H7,I7,q7⟩:=q7;exact ⟨σ7,H7,I7.unpinned,q7⟩
  | ret v=>obtain ⟨x7,σ7,H7,I7,r7,q7⟩:=q7;exact ⟨x7,σ7,H7,I7.unpinned,r7,q7⟩
end
end L2
namespace L2
open PySem PySem.Spec PyProof.Rows
noncomputable abbrev R2:=V→V→Hp→VK→Prop
noncomputable def OpR (X:Cx) (f:Value→Value→Sem Value) (r:R2):Prop :=
 ∀(pins:List (Addr × Obj)) (s:Shared) (σ:St) (H:Hp) (x y:V) (v u:Value) (Q:VK),Inv X pins σ H s→RelV x v→RelV y u→r x y H Q →
  wpAny (model X.prog X.w) X.A (f v u) (EP X pins σ Q) X.xe s
noncomputable def UnR (X:Cx) (f:Value→Sem Value) (r:V→Hp→VK→Prop):Prop :=
 ∀(pins:List (Addr × Obj)) (s:Shared) (σ:St) (H:Hp) (x:V) (v:Value) (Q:VK),Inv X pins σ H s→RelV x v→r x H Q →
  wpAny (model X.prog X.w) X.A (f v) (EP X pins σ Q) X.xe s
noncomputable def bR (X:Cx) (f:Value) (r:List V→Hp→VK→Prop):Prop :=
 ∀(pins:List (Addr × Obj)) (s:Shared) (σ:St) (H:Hp) (xs:List V) (us:List Value) (Q:VK),Inv X pins σ H s→Vals xs us→r xs H Q →
  wpAny (model X.prog X.w) X.A (call f us) (EP X pins σ Q) X.xe s
noncomputable def zA (X:Cx) (r:V→Hp→(Bool→Hp→Prop)→Prop):Prop :=
 ∀(pins:List (Addr × Obj)) (s:Shared) (σ:St) (H:Hp) (x:V) (v:Value) (Q:Bool→Hp→Prop),Inv X pins σ H s→RelV x v→r x H Q →
  wpAny (model X.prog X.w) X.A (truthy v) (TP X pins σ Q) X.xe s
noncomputable def tOp (r:R2) (ta tb:TE):TE:=fun σ H Q=>ta σ H fun x H1=>tb σ H1 fun y H2=>r x y H2 Q
noncomputable def tUn (r:V→Hp→VK→Prop) (ta:TE):TE:=fun σ H Q=>ta σ H fun x H1=>r x H1 Q
noncomputable def rI (C:Int→Int→Prop) (g:Int→Int→V):R2:=fun x y H Q=>∃i j,x=.int i∧y=.int j∧C i j∧Q (g i j) H
noncomputable def rI0 (g:Int→Int→V):R2:=fun x y H Q=>∃i j,x=.int i∧y=.int j∧Q (g i j) H
noncomputable def rU (g:Int→V):V→Hp→VK→Prop:=fun x H Q=>∃i,x=.int i∧Q (g i) H
section
variable {X:Cx} {a b c:Expr} {ta tb tc:TE} {pos:Pos}
theorem wK (ha:PE X a ta) (hb:PE X b tb) {pins:List (Addr × Obj)} {s:Shared} {σ:St} {H:Hp} {R:V→V→Hp→Prop} (I:Inv X pins σ H s)
  (h:ta σ H fun x H1=>tb σ H1 fun y H2=>R x y H2) {Q:Value→Shared→Prop} {f:Value→Value→Sem Value}
  (hf:∀v u s2 x y H2,Inv X pins σ H2 s2→RelV x v→RelV y u→R x y H2→wpAny (model X.prog X.w) X.A (f v u) Q X.xe s2) :
  wpAny (model X.prog X.w) X.A (eval a X.env) (fun v s₁=>wpAny (model X.prog X.w) X.A (eval b X.env) (fun u s₂=>wpAny (model X.prog X.w) X.A (f v u) Q X.xe s₂) X.xe s₁) X.xe s:=by
 refine thn (ha pins s σ H _ I h) fun v s1 ⟨x,H1,I1,r1,q1⟩=>?_
 refine thn (hb pins s1 σ H1 _ I1 q1) fun u s2 ⟨y,H2,I2,r2,q2⟩=>?_
 exact hf v u s2 x y H2 I2 r1 r2 q2
theorem xp {op:Operator} {r:R2} (ho:OpR X (binaryOp op) r) (ha:PE X a ta) (hb:PE X b tb):PE X (.BinOp a op b pos) (tOp r ta tb):=by
 intro pins s σ H Q I h
 exact wpAny_BinOp (wK ha hb I h fun v u s2 x y H2 I2 rx ry q=>ho pins s2 σ H2 x y v u Q I2 rx ry q)
theorem yK {op:UnaryOp} {r:V→Hp→VK→Prop} (ho:UnR X (unaryOp op) r) (ha:PE X a ta):PE X (.UnaryOp op a pos) (tUn r ta):=by
 intro pins s σ H Q I h
 exact UnaryOp_ (thn (ha pins s σ H _ I h) fun v s1 ⟨x,H1,I1,r1,q1⟩=>ho pins s1 σ H1 x v Q I1 r1 q1)
theorem opI {f:Value→Value→Sem Value} {C:Int→Int→Prop} {g:Int→Int→Int}
  (rule:∀(i j:Int) (t u:Tok) (s:Shared) (Q:Value→Shared→Prop) (E:Value→Shared→Prop),C i j→Q (.int (g i j) s.toks) { s with toks:=s.toks+1 }→wpAny (model X.prog X.w) X.A (f (.int i t) (.int j u)) Q E s) :
  OpR X f (rI C fun i j=>.int (g i j)):=by
 intro pins s σ H x y v u Q I rx ry h
 obtain ⟨i,j,rfl,rfl,hc,q⟩:=h
 obtain ⟨t,rfl⟩:=rx
 obtain ⟨t',rfl⟩:=ry
 exact rule i j t t' s _ _ hc ⟨.int (g i j),H,I.tok _,⟨_,rfl⟩,q⟩
theorem yG {f:Value→Value→Sem Value} {g:Int→Int→Int}
  (rule:∀(i j:Int) (t u:Tok) (s:Shared) (Q:Value→Shared→Prop) (E:Value→Shared→Prop),Q (.int (g i j) s.toks) { s with toks:=s.toks+1 }→wpAny (model X.prog X.w) X.A (f (.int i t) (.int j u)) Q E s) :
  OpR X f (rI0 fun i j=>.int (g i j)):=by
 intro pins s σ H x y v u Q I rx ry h
 obtain ⟨i,j,rfl,rfl,q⟩:=h
 obtain ⟨t,rfl⟩:=rx
 obtain ⟨t',rfl⟩:=ry
 exact rule i j t t' s _ _ ⟨.int (g i j),H,I.tok _,⟨_,rfl⟩,q⟩
theorem tL {f:Value→Value→Sem Value} {g:Int→Int→Bool}
  (rule:∀(i j:Int) (t u:Tok) (s:Shared) (Q:Value→Shared→Prop) (E:Value→Shared→Prop),Q (.bool (g i j)) s→wpAny (model X.prog X.w) X.A (f (.int i t) (.int j u)) Q E s) :
  OpR X f (rI0 fun i j=>.bl (g i j)):=by
 intro pins s σ H x y v u Q I rx ry h
 obtain ⟨i,j,rfl,rfl,q⟩:=h
 obtain ⟨t,rfl⟩:=rx
 obtain ⟨t',rfl⟩:=ry
 exact rule i j t t' s _ _ ⟨.bl (g i j),H,I,rfl,q⟩
noncomputable def kM (i j:Int):Prop:=0≤j∧j≤1000000∧i.natAbs<2 ^ 64
theorem vR:OpR X (binaryOp .Add) (rI0 fun i j=>.int (i+j)):=yG fun _ _ _ _ _ _ _ q=>add_int q
theorem wo:OpR X (binaryOp .Sub) (rI0 fun i j=>.int (i-j)):=yG fun _ _ _ _ _ _ _ q=>sub_int q
theorem wd:OpR X (binaryOp .Mod) (rI (fun _ j=>0<j) fun i j=>.int (i % j)):=opI fun i j _ _ _ _ _ hc q=>by
 have h1:(0:Int)<j:=hc
 exact mod_int' (by omega) (by rw [Int.fmod_eq_emod_of_nonneg i (by omega)];exact q)
theorem xj:OpR X (binaryOp .Pow) (rI kM fun i j=>.int (i ^ j.toNat)):=opI fun _ _ _ _ _ _ _ hc q=>pow_int_small hc.1 hc.2.1 hc.2.2 q
theorem unI {f:Value→Sem Value} {g:Int→Int}
  (rule:∀(i:Int) (t:Tok) (s:Shared) (Q:Value→Shared→Prop) (E:Value→Shared→Prop),Q (.int (g i) s.toks) { s with toks:=s.toks+1 }→wpAny (model X.prog X.w) X.A (f (.int i t)) Q E s) :
  UnR X f (rU fun i=>.int (g i)):=by
 intro pins s σ H x v Q I rx h
 obtain ⟨i,rfl,q⟩:=h
 obtain ⟨t,rfl⟩:=rx
 exact rule i t s _ _ ⟨.int (g i),H,I.tok _,⟨_,rfl⟩,q⟩
theorem wF:UnR X (unaryOp .USub) (rU fun i=>.int (-i)):=unI fun _ _ _ _ _ q=>neg_int q
end
noncomputable def xU:V→V→Bool
 | .non,.non=>true | .non,.int _=>true | .int _,.non=>true | .non,.bl _=>true | .bl _,.non=>true | .non,.str _=>true | .str _,.non=>true
 | .int _,.int _=>true | .bl _,.bl _=>true | .str _,.str _=>true | .byt _,.byt _=>true
 | .int _,.str _=>true | .str _,.int _=>true | .bl _,.str _=>true | .str _,.bl _=>true
 | _,_=>false
noncomputable def rEq:R2:=fun x y H Q=>xU x y=true∧Q (.bl (decide (x=y))) H
noncomputable def rNe:R2:=fun x y H Q=>xU x y=true∧Q (.bl (!decide (x=y))) H
theorem nY {i j:Int}:decide (V.int i=V.int j)=(i == j):=by
 rw [Bool.eq_iff_iff]
 simp
theorem pd {i j:Bool}:decide (V.bl i=V.bl j)=(i == j):=by
 rw [Bool.eq_iff_iff]
 simp
theorem mP {i j:Str}:decide (V.str i=V.str j)=(i == j):=by
 rw [Bool.eq_iff_iff]
 simp
theorem nH {i j:Array UInt8}:decide (V.byt i=V.byt j)=(i.toList == j.toList):=by
 rw [Bool.eq_iff_iff]
 cases i
 cases j
 simp
section
variable {X:Cx} {a b c:Expr} {ta tb tc:TE} {pos:Pos}
theorem ao {pins:List (Addr × Obj)} {σ:St} {H:Hp} {s:Shared} {Q:VK} {k k':Bool} (I:Inv X pins σ H s) (q:Q (.bl k) H) (e:k=k'):EP X pins σ Q (.bool k') s:=by
 subst e
 exact ⟨.bl k,H,I,rfl,q⟩
theorem qw:OpR X (compareOp .Eq) rEq:=by
 intro pins s σ H x y v u Q I rx ry h
 obtain ⟨hs,q⟩:=h
 cases x with
 | non =>
  cases rx
  cases y with
  | non=>cases ry;exact PySem.EqNone.eq_none_none (ao I q (by simp))
  | bl j=>cases ry;exact PySem.EqNone.eq_none_bool (ao I q (by simp))
  | int j=>obtain ⟨t',rfl⟩:=ry;exact PySem.EqNone.eq_none_int (ao I q (by simp))
  | str j=>obtain ⟨t',rfl⟩:=ry;exact PySem.EqNone.eq_none_str (ao I q (by simp))
  | _=>exact absurd (show false=true from hs) Bool.false_ne_true
 | bl i =>
  cases rx
  cases y with
  | non=>cases ry;exact PySem.EqNone.eq_bool_none (ao I q (by simp))
  | bl j=>cases ry;exact eq_bool (ao I q pd)
  | str j=>obtain ⟨t',rfl⟩:=ry;exact PySem.EqMixed.eq_bool_str (ao I q (by simp))
  | _=>exact absurd (show false=true from hs) Bool.false_ne_true
 | int i =>
  obtain ⟨t,rfl⟩:=rx
  cases y with
  | non=>cases ry;exact PySem.EqNone.eq_int_none (ao I q (by simp))
  | int j=>obtain ⟨t',rfl⟩:=ry;exact eq_int (ao I q nY)
  | str j=>obtain ⟨t',rfl⟩:=ry;exact PySem.EqMixed.eq_int_str (ao I q (by simp))
  | _=>exact absurd (show false=true from hs) Bool.false_ne_true
 | str i =>
  obtain ⟨t,rfl⟩:=rx
  cases y with
  | non=>cases ry;exact PySem.EqNone.eq_str_none (ao I q (by simp))
  | bl j=>cases ry;exact PySem.EqMixed.eq_str_bool (ao I q (by simp))
  | int j=>obtain ⟨t',rfl⟩:=ry;exact PySem.EqMixed.eq_str_int (ao I q (by simp))
  | str j=>obtain ⟨t',rfl⟩:=ry;exact eq_str (ao I q mP)
  | _=>exact absurd (show false=true from hs) Bool.false_ne_true
 | byt i =>
  obtain ⟨t,rfl⟩:=rx
  cases y with
  | byt j=>obtain ⟨t',rfl⟩:=ry;exact PySem.W.eq_bytes (ao I q nH)
  | _=>exact absurd (show false=true from hs) Bool.false_ne_true
 | _=>cases y <;> exact absurd (show false=true from hs) Bool.false_ne_true
theorem qm:OpR X (compareOp .NotEq) rNe:=by
 intro pins s σ H x y v u Q I rx ry h
 obtain ⟨hs,q⟩:=h
 cases x with
 | non =>
  cases rx
  cases y with
  | non=>cases ry;exact PySem.EqNone.ne_none_none (ao I q (by simp))
  | bl j=>cases ry;exact PySem.EqNone.ne_none_bool (ao I q (by simp))
  | int j=>obtain ⟨t',rfl⟩:=ry;exact PySem.EqNone.ne_none_int (ao I q (by simp))
  | str j=>obtain ⟨t',rfl⟩:=ry;exact PySem.EqNone.ne_none_str (ao I q (by simp))
  | _=>exact absurd (show false=true from hs) Bool.false_ne_true
 | bl i =>
  cases rx
  cases y with
  | non=>cases ry;exact PySem.EqNone.ne_bool_none (ao I q (by simp))
  | bl j=>cases ry;exact ne_bool (ao I q (congrArg not pd))
  | str j=>obtain ⟨t',rfl⟩:=ry;exact PySem.EqMixed.ne_bool_str (ao I q (by simp))
  | _=>exact absurd (show false=true from hs) Bool.false_ne_true
 | int i =>
  obtain ⟨t,rfl⟩:=rx
  cases y with
  | non=>cases ry;exact PySem.EqNone.ne_int_none (ao I q (by simp))
  | int j=>obtain ⟨t',rfl⟩:=ry;exact ne_int (ao I q (congrArg not nY))
  | str j=>obtain ⟨t',rfl⟩:=ry;exact PySem.EqMixed.ne_int_str (ao I q (by simp))
  | _=>exact absurd (show false=true from hs) Bool.false_ne_true
 | str i =>
  obtain ⟨t,rfl⟩:=rx
  cases y with
  | non=>cases ry;exact PySem.EqNone.ne_str_none (ao I q (by simp))
  | bl j=>cases ry;exact PySem.EqMixed.ne_str_bool (ao I q (by simp))
  | int j=>obtain ⟨t',rfl⟩:=ry;exact PySem.EqMixed.ne_str_int (ao I q (by simp))
  | str j=>obtain ⟨t',rfl⟩:=ry;exact ne_str (ao I q (congrArg not mP))
  | _=>exact absurd (show false=true from hs) Bool.false_ne_true
 | byt i =>
  obtain ⟨t,rfl⟩:=rx
  cases y with
  | byt j=>obtain ⟨t',rfl⟩:=ry;exact PySem.W.ne_bytes (ao I q (congrArg not nH))
  | _=>exact absurd (show false=true from hs) Bool.false_ne_true
 | _=>cases y <;> exact absurd (show false=true from hs) Bool.false_ne_true
theorem xN:OpR X (compareOp .Lt) (rI0 fun i j=>.bl (decide (i<j))):=tL fun _ _ _ _ _ _ _ q=>lt_int q
theorem xl:OpR X (compareOp .LtE) (rI0 fun i j=>.bl (decide (i≤j))):=tL fun _ _ _ _ _ _ _ q=>le_int q
theorem xH:OpR X (compareOp .Gt) (rI0 fun i j=>.bl (decide (j<i))):=tL fun _ _ _ _ _ _ _ q=>gt_int q
theorem yH:OpR X (compareOp .GtE) (rI0 fun i j=>.bl (decide (j≤i))):=tL fun _ _ _ _ _ _ _ q=>ge_int q
theorem oP:OpR X (compareOp .In) (fun x y H Q=>∃i j,x=.str i∧y=.str j∧Q (.bl (!(Builtin.Str.occurrences j i 0 j.length 1).isEmpty)) H):=by
 intro pins s σ H x y v u Q I rx ry h
 obtain ⟨i,j,rfl,rfl,q⟩:=h
 obtain ⟨t,rfl⟩:=rx
 obtain ⟨t',rfl⟩:=ry
 exact in_str (ao I q rfl)
theorem wa:OpR X (compareOp .Is) (fun x y H Q=>y=.non∧Q (.bl (decide (x=.non))) H):=by
 intro pins s σ H x y v u Q I rx ry h
 obtain ⟨rfl,q⟩:=h
 cases ry
 refine is_none_gen (ao I q ?_)
 cases x <;> first
  | (cases rx;rfl)
  | (obtain ⟨t,rfl⟩:=rx;rfl)
theorem sx:OpR X (compareOp .IsNot) (fun x y H Q=>y=.non∧Q (.bl (!decide (x=.non))) H):=by
 intro pins s σ H x y v u Q I rx ry h
 obtain ⟨rfl,q⟩:=h
 cases ry
 refine isnot_none_gen (ao I q ?_)
 cases x <;> first
  | (cases rx;rfl)
  | (obtain ⟨t,rfl⟩:=rx;rfl)
theorem nD {op:CmpOp} {r:R2} (ho:OpR X (compareOp op) r) (ha:PE X a ta) (hb:PE X b tb) (hm:behindInMarks op b=false):PE X (.Compare a [op] [b] pos) (tOp r ta tb):=by
 intro pins s σ H Q I h
 exact wpAny_Compare1 (wK ha hb I h fun v u s2 x y H2 I2 rx ry q=>ho pins s2 σ H2 x y v u Q I2 rx ry q) hm
noncomputable def yV (t:TE):TT:=fun σ H Q=>t σ H fun x H'=>∃k,x=.bl k∧Q k H'
theorem nX {op:CmpOp} {r:R2} (ho:OpR X (compareOp op) r) (ha:PE X a ta) (hb:PE X b tb) (hm:behindInMarks op b=false):PT X (.Compare a [op] [b] pos) (yV (tOp r ta tb)):=by
 intro pins s σ H Q I h
 refine wpAny_isTrue_Compare1 (thn (ha pins s σ H _ I h) fun v s1 ⟨x,H1,I1,r1,q1⟩=>thn (hb pins s1 σ H1 _ I1 q1) fun u s2 ⟨y,H2,I2,r2,q2⟩ =>
  thn (ho pins s2 σ H2 x y v u _ I2 r1 r2 q2) fun c s3 ⟨z,H3,I3,r3,k,e,q3⟩=>?_) hm
 subst e
 cases r3
 exact wpAny_truthy_bool ⟨H3,I3,q3⟩
noncomputable def vS (K:PySem.W.Frag) (x:V) (H:Hp) (k:Bool):Prop :=
 match x with
 | .non=>k=false
 | .bl b=>k=b
 | .int i=>k=(i != 0)
 | .str y=>y.length≤sizeLine∧k=((y.length:Int) != 0)
 | .byt y=>y.size≤sizeLine∧k=((y.size:Int) != 0)
 | .ref p=>(∃xs,SqL K H p xs∧k=!xs.isEmpty)∨(∃xs,SqT K H p xs∧k=!xs.isEmpty)∨∃kvs,H p=some (.dK kvs)∧k=!kvs.isEmpty
 | _=>False
theorem mw {κ:Type} {kvs:List (κ × V)} {vs:List (κ × Value)} (r:KV kvs vs):(!vs.isEmpty)=!kvs.isEmpty:=by
 cases r <;> rfl
theorem gy {xs:List V} {its:List Value} (r:Vals xs its):(!its.toArray.isEmpty)=!xs.isEmpty:=by
 cases r <;> simp
theorem d0:(sizeLine:Nat)<2 ^ 63:=by rw [sizeLine_eq];decide
theorem wV:zA X (fun x H Q=>∃k,vS X.K x H k∧Q k H):=by
 intro pins s σ H x v Q I rx h
 obtain ⟨k,e,q⟩:=h
 have hl:=d0
 have hs:sizeLine=16777216:=sizeLine_eq
 cases x with
 | non =>
  cases rx
  have e':k=false:=e
  subst e'
  exact truthy_none ⟨H,I,q⟩
 | bl b =>
  cases rx
  have e':k=b:=e
  subst e'
  exact wpAny_truthy_bool ⟨H,I,q⟩
 | int i =>
  obtain ⟨t,rfl⟩:=rx
  have e':k=(i != 0):=e
  subst e'
  exact PySem.P.truthy_int ⟨H,I,q⟩
 | str y =>
  obtain ⟨t,rfl⟩:=rx
  obtain ⟨hy,e'⟩:y.length≤sizeLine∧k=((y.length:Int) != 0):=e
  subst e'
  exact PySem.P.truthy_str (by omega) ⟨H,I.tok _,q⟩
 | byt y =>
  obtain ⟨t,rfl⟩:=rx
  obtain ⟨hy,e'⟩:y.size≤sizeLine∧k=((y.size:Int) != 0):=e
  subst e'
  exact PySem.W.truthy_bytes (by omega) ⟨H,I.tok _,q⟩
 | ref p =>
  cases rx
  have e':(∃xs,SqL X.K H p xs∧k=!xs.isEmpty)∨(∃xs,SqT X.K H p xs∧k=!xs.isEmpty)∨∃kvs,H p=some (.dK kvs)∧k=!kvs.isEmpty:=e
  rcases e' with ⟨xs,hx,e'⟩|⟨xs,hx,e'⟩|⟨kvs,hx,e'⟩
  ·subst e'
   obtain ⟨its,r,pl,hz⟩:=I.list hx
   have hlen:=r.length
   exact wpAny_truthy_list pl.isList (by simp only [List.size_toArray];omega) ⟨H,I.tok _,by rw [gy r];exact q⟩
  ·subst e'
   obtain ⟨its,r,pl,hz⟩:=I.tuple hx
   have hlen:=r.length
   exact truthy_tuple pl (by simp only [List.size_toArray];omega) ⟨H,I.tok _,by rw [gy r];exact q⟩
  ·subst e'
   obtain ⟨hz,hS,vs,r,m⟩:kvs.length≤sizeLine∧(p == sysModules)=false∧∃vs,KV kvs vs∧s.heap.DictOf (ak X.prog X.w) p vs:=I.hok p _ hx
   have hlen:kvs.length=vs.length:=Paired.length r
   exact wpAny_truthy_dict hS m (by omega) ⟨H,I.tok _,by rw [mw r];exact q⟩
 | _=>exact (show False from e).elim
theorem cP (ha:PE X a ta) (he:∀whole,isTrue a X.env whole=(do let v ←whole;standAt a.pos;holding [v] (truthy v))) :
  PT X a (fun σ H Q=>ta σ H fun x H'=>∃k,vS X.K x H' k∧Q k H'):=by
 intro pins s σ H Q I h
 exact isTrue_plain (thn (ha pins s σ H _ I h) fun v s1 ⟨x,H1,I1,r1,q1⟩=>wV pins s1 σ H1 x v Q I1 r1 q1) (he _)
theorem mf:OpR X (binaryOp .Add) (fun x y H Q=>∃i j,x=.str i∧y=.str j∧i.length+j.length≤sizeLine∧Q (.str (i++j)) H):=by
 intro pins s σ H x y v u Q I rx ry h
 obtain ⟨i,j,rfl,rfl,hz,q⟩:=h
 obtain ⟨t,rfl⟩:=rx
 obtain ⟨t',rfl⟩:=ry
 exact add_str (fun t' tk=>⟨.str (i++j),H,I.tok _,⟨_,rfl⟩,q⟩) hz
theorem dh {x:V} {us:List Value} (r:Vals [x] us):∃u,us=[u]∧RelV x u:=by
 cases r with
 | cons r1 r2=>cases r2;exact ⟨_,rfl,r1⟩
theorem mQ {x y:V} {us:List Value} (r:Vals [x,y] us):∃u w',us=[u,w']∧RelV x u∧RelV y w':=by
 cases r with
 | cons r1 r2 =>
  cases r2 with
  | cons r3 r4=>cases r4;exact ⟨_,_,rfl,r1,r3⟩
theorem q5:bR X (.builtin "abs") (fun xs H Q=>∃i,xs=[.int i]∧Q (.int (if i<0 then -i else i)) H):=by
 intro pins s σ H xs us Q I r h
 obtain ⟨i,rfl,q⟩:=h
 obtain ⟨u,rfl,t,rfl⟩:=dh r
 exact call_abs_int fun u tk=>⟨.int (if i<0 then -i else i),H,I.tok _,⟨_,rfl⟩,q⟩
theorem oS (hc:X.calm=true):bR X (.builtin "max") (fun xs H Q=>∃i j,xs=[.int i,.int j]∧Q (.int (if j > i then j else i)) H):=by
 intro pins s σ H xs us Q I r h
 obtain ⟨i,j,rfl,q⟩:=h
 obtain ⟨u,w',rfl,⟨t,rfl⟩,⟨t',rfl⟩⟩:=mQ r
 refine max_two_ints (I.ok.hd hc) fun h' tk k=>⟨_,H,I.kept k,?_,q⟩
 by_cases hj:j > i
 ·rw [if_pos hj,if_pos hj];exact ⟨_,rfl⟩
 ·rw [if_neg hj,if_neg hj];exact ⟨_,rfl⟩
theorem n_ (hc:X.calm=true):bR X (.builtin "min") (fun xs H Q=>∃i j,xs=[.int i,.int j]∧Q (.int (if j<i then j else i)) H):=by
 intro pins s σ H xs us Q I r h
 obtain ⟨i,j,rfl,q⟩:=h
 obtain ⟨u,w',rfl,⟨t,rfl⟩,⟨t',rfl⟩⟩:=mQ r
 refine min_two_ints (I.ok.hd hc) fun h' tk k=>⟨_,H,I.kept k,?_,q⟩
 by_cases hj:j<i
 ·rw [if_pos hj,if_pos hj];exact ⟨_,rfl⟩
 ·rw [if_neg hj,if_neg hj];exact ⟨_,rfl⟩
theorem oe:bR X (.type "int") (fun xs H Q=>(∃i,xs=[.int i]∧Q (.int i) H)∨∃k,xs=[.bl k]∧Q (.int (if k then 1 else 0)) H):=by
 intro pins s σ H xs us Q I r h
 rcases h with ⟨i,rfl,q⟩|⟨k,rfl,q⟩
 ·obtain ⟨u,rfl,t,rfl⟩:=dh r
  exact call_int_int ⟨.int i,H,I,⟨_,rfl⟩,q⟩
 ·obtain ⟨u,rfl,r1⟩:=dh r
  cases r1
  exact call_int_bool ⟨.int (if k then 1 else 0),H,I.tok _,⟨_,rfl⟩,q⟩
end
end L2
namespace L2
open PySem PySem.Spec PyProof.Rows
structure ObjM (h:Heap) (x dx C:Addr) (mA:Str→Option Value):Prop where
 obj:h.get? x=some (PySem.W.instObj C dx)
 ns:h.Ns1 dx mA
 ne:dx≠x
theorem oZ {h:Heap} {dx:Addr} {mA:Str→Option Value} (n:h.Ns1 dx mA):∃od,h.get? dx=some od∧∀name,PySem.W.lookIn name od=some (mA name):=by
 obtain ⟨o,es,ep,ho,hd,hk,_,hm⟩:=n
 refine ⟨o,ho,fun name=>?_⟩
 have e:=hm name
 unfold nsFind findBy at e
 rw [←Array.find?_toList] at e
 unfold PySem.W.lookIn
 rw [hd]
 dsimp only
 split
 ·rename_i y q
  rw [q] at e
  exact congrArg some e
 ·rename_i q
  rw [q] at e
  have a:es.toList.any (·.refKey)=false:=by
   rw [List.any_eq_false]
   intro y hy
   obtain ⟨z,t,hkey⟩:=hk y (Array.mem_toList_iff.mp hy)
   simp [DictEntry.refKey,hkey]
  have a':¬es.toList.any (·.refKey)=true:=by rw [a];exact Bool.false_ne_true
  rw [if_neg a']
  exact congrArg some e
theorem ObjM.look {h:Heap} {x dx C:Addr} {mA:Str→Option Value} (I:ObjM h x dx C mA):∃od,PySem.W.InstAt h x (PySem.W.instObj C dx) C (some od)∧∀name,PySem.W.lookIn name od=some (mA name) :=
 let ⟨od,ho,hl⟩:=oZ I.ns
 ⟨od,⟨I.obj,rfl,rfl,ho⟩,hl⟩
section
variable {prog:Program} {w:World} {A:Around} {E:Value→Shared→Prop} {s:Shared} {K:PySem.W.Frag} {x dx C f:Addr} {mA:Str→Option Value} {name:Str} {v:Value}
end
theorem RelO.some_of {v:V} {o:Option Value} (r:RelO (some v) o):∃u,o=some u∧RelV v u:=by
 cases o with
 | none=>exact (show False from r).elim
 | some u=>exact ⟨u,rfl,r⟩
section
variable {P:Program} {w:World} {H H':Hp} {h h':Heap} {a C dx:Addr} {fs fs':List (Str × V)}
theorem sH (hok:HOk P w H h) (e:H a=some (.ins C dx fs)):∃mA,ObjM h a dx C mA∧(∀f,RelO (fs.lookup f) (mA f))∧PySem.Within mA (fs.map (·.1))∧fs.length≤1000∧H dx=some (.own a):=by
 obtain ⟨d,z,ne,ob,mA,n,r,q⟩:=(show ObjOk P w H h a (.ins C dx fs) from hok a _ e)
 exact ⟨mA,⟨ob,n,ne⟩,r,q,z,d⟩
end
structure Cls (K:PySem.W.Frag) (C:Addr):Prop where
 pg:PySem.W.plainGet K C Str.empty=true
 hd:PySem.W.hasDictIn K C=true
 po:PySem.W.plainOver K C=true
 sa:PySem.W.findIn K (.ref C) "__setattr__"=some (some (.builtin "object.__setattr__"))
theorem Cls.get {K:PySem.W.Frag} {C:Addr} (c:Cls K C) (f:Str):PySem.W.plainGet K C f=true:=c.pg
structure Con (K:PySem.W.Frag) (C:Addr) (f:Str) (v:V) (u:Value):Prop where
 at_:PySem.W.findIn K (.ref C) f=some (some u)
 rel:RelV v u
 get:PySem.W.specialIn K u "__get__"=some none
 cp:PySem.W.copiedNames.contains f=false
structure zW (K:PySem.W.Frag) (C:Addr) (m:Str) (f:Addr):Prop where
 at_:PySem.W.findIn K (.ref C) m=some (some (.ref f))
 fn:PySem.W.isFn K (.ref f)=true
 kp:PySem.W.keepIn K (.ref f)=true
section
variable {X:Cx} {pins:List (Addr × Obj)} {σ:St} {H:Hp} {s:Shared} {a C dx:Addr} {fs:List (Str × V)} {f:Str} {v:V} {A:Around} {E:Value→Shared→Prop}
end
section
variable {X:Cx} {o e value:Expr} {f:Str} {pos pos' tpos:Pos} {ta tv:TE}
end
section
variable {X:Cx} {pins:List (Addr × Obj)} {σ:St} {H:Hp} {s:Shared} {A:Around} {E:Value→Shared→Prop} {Q:Value→Shared→Prop} {c:Value} {b:Bool}
inductive f' (K:PySem.W.Frag) (H:Hp):V→Value→Prop where
 | non:f' K H .non (.type "NoneType")
 | bl (x:Bool):f' K H (.bl x) (.type "bool")
 | int (i:Int):f' K H (.int i) (.type "int")
 | str (x:Str):f' K H (.str x) (.type "str")
 | flt (x:UInt64):f' K H (.flt x) (.type "float")
 | lst {a:Addr} {xs:List V} (e:H a=some (.lst xs)):f' K H (.ref a) (.type "list")
 | frz {a:Addr} {o:Obj} {xs:List V} (e:H a=some (.frz o (.lst xs))):f' K H (.ref a) (.type "list")
 | tup {a:Addr} {xs:List V} (e:H a=some (.tup xs)):f' K H (.ref a) (.type "tuple")
 | dK {a:Addr} {kvs:List (Key × V)} (e:H a=some (.dK kvs)):f' K H (.ref a) (.type "dict")
 | dT {a:Addr} {kvs:List (List Key × V)} (e:H a=some (.dT kvs)):f' K H (.ref a) (.type "dict")
 | ins {a C dx:Addr} {fs:List (Str × V)} (e:H a=some (.ins C dx fs)) (cl:Cls K C) (ha:PySem.W.findIn K (.ref C) "__class__"=some (some (.builtin "object.__class__")))
   (hn:PySem.W.specialIn K (.builtin "object.__class__") "__get__"=some (some (.builtin "getset_descriptor.__get__"))) (htk:PySem.W.takesIn K (.builtin "object.__class__")=some true)
   (hm:PySem.W.mroIn K C (.type "object")=some true):f' K H (.ref a) (.ref C)
theorem bY {x:V} {u t:Value} (I:Inv X pins σ H s) (rx:RelV x u) (ty:f' X.K H x t) (e:PySem.W.kitOne X.K t c=some b) (h:∀tk,Q (.bool b) { s with toks:=tk }) :
  wpAny (model X.prog X.w) A (call (.builtin "isinstance") [u,c]) Q E s:=by
 cases ty with
 | non=>cases (show u=Value.none from rx);exact PySem.W.kia_one PySem.W.kitx_none I.kIn True.intro e (fun z=>nomatch z) h
 | bl y=>cases (show u=Value.bool y from rx);exact PySem.W.kia_one PySem.W.kitx_bool I.kIn True.intro e (fun z=>nomatch z) h
 | int i=>obtain ⟨t,q⟩:=(show ∃t,u=Value.int i t from rx);cases q;exact PySem.W.kia_one PySem.W.kitx_int I.kIn True.intro e (fun z=>nomatch z) h
 | str y=>obtain ⟨t,q⟩:=(show ∃t,u=Value.str y t from rx);cases q;exact PySem.W.kia_one PySem.W.kitx_str I.kIn True.intro e (fun z=>nomatch z) h
 | flt y=>obtain ⟨t,q⟩:=(show ∃t,u=Value.float y t from rx);cases q;exact PySem.W.kia_one PySem.W.kitx_float I.kIn True.intro e (fun z=>nomatch z) h
 | @lst a xs ea =>
  cases (show u=Value.ref a from rx)
  obtain ⟨_,_,n,_,h1⟩:=(show ObjOk X.prog X.w H s.heap a (.lst xs) from I.hok a _ ea)
  exact PySem.W.kia_one PySem.W.kitx_list I.kIn ⟨_,h1,rfl⟩ e (fun z=>nomatch z) h
 | @frz a ob xs ea =>
  cases (show u=Value.ref a from rx)
  obtain ⟨_,_,_,n,_,h1⟩:=(show ObjOk X.prog X.w H s.heap a (.frz ob (.lst xs)) from I.hok a _ ea)
  exact PySem.W.kia_one PySem.W.kitx_list I.kIn ⟨_,h1,rfl⟩ e (fun z=>nomatch z) h
 | @tup a xs ea =>
  cases (show u=Value.ref a from rx)
  obtain ⟨_,_,_,p⟩:=(show ObjOk X.prog X.w H s.heap a (.tup xs) from I.hok a _ ea)
  obtain ⟨o,h1,h2,_⟩:=p
  exact PySem.W.kia_one PySem.W.kitx_tuple I.kIn ⟨o,h1,h2⟩ e (fun z=>nomatch z) h
 | @dK a kvs ea =>
  cases (show u=Value.ref a from rx)
  obtain ⟨_,_,vs,_,p⟩:=(show ObjOk X.prog X.w H s.heap a (.dK kvs) from I.hok a _ ea)
  obtain ⟨o,es,ep,h1,h2,_⟩:=p
  exact PySem.W.kia_one PySem.W.kitx_dict I.kIn ⟨o,h1,h2.1⟩ e (fun z=>nomatch z) h
 | @dT a kvs ea =>
  cases (show u=Value.ref a from rx)
  obtain ⟨_,_,xs,_,o,es,ep,h1,h2,_⟩:=(show ObjOk X.prog X.w H s.heap a (.dT kvs) from I.hok a _ ea)
  exact PySem.W.kia_one PySem.W.kitx_dict I.kIn ⟨o,h1,h2.1⟩ e (fun z=>nomatch z) h
 | @ins a C dx fs ea cl ha hn htk hm =>
  cases (show u=Value.ref a from rx)
  obtain ⟨mA,O,_⟩:=sH I.hok ea
  obtain ⟨od,J,_⟩:=O.look
  exact PySem.W.kia_one (PySem.W.kitx_own (cl.get _) cl.hd ha hn htk hm) I.kIn J e (fun z=>nomatch z) h
end
end L2
namespace L2
open PySem PySem.Spec PyProof.Rows
structure Room (k:Nat) (A:Around):Prop where
 hd:A.handled=none
 dp:A.depth+3*k+5<recursionLimit
 un:A.units+16*k+200<cLine
 gd:A.guards=some []
theorem Room.mono {j k:Nat} {A:Around} (r:Room k A) (h:j≤k):Room j A:=⟨r.hd,by have:=r.dp;omega,by have:=r.un;omega,r.gd⟩
theorem Room.deeper {k:Nat} {A:Around} (r:Room (k+1) A) (env:Env):Room k (A.deeper env) :=
 ⟨r.hd,by have:=r.dp;show A.depth+1+3*k+5<_;omega,by have:=r.un;show A.units+3+16*k+200<_;omega,r.gd⟩
theorem Room.depth {k:Nat} {A:Around} (r:Room k A):A.depth<recursionLimit:=by have:=r.dp;omega
theorem Room.units {k:Nat} {A:Around} (r:Room k A):A.units+64<cLine:=by have:=r.un;omega
noncomputable def mj:TA:=fun _ H Q=>Q [] H
noncomputable def fT (ta:TE) (tr:TA):TA:=fun σ H Q=>ta σ H fun x H1=>tr σ H1 fun xs H2=>Q (x::xs) H2
section
variable {X:Cx} {e:Expr} {es:List Expr} {te:TE} {t:TA} {pos:Pos}
theorem dn:PA X [] mj:=fun _ _ _ _ H Q I h=>Calls.spliced_nil ⟨[],H,I,.nil,h⟩
theorem tz (ha:PE X e te) (hr:PA X es t) (hs:starEach (e::es) X.env=(false,eval e X.env)::starEach es X.env:=by rfl):PA X (e::es) (fT te t):=by
 intro pos pins s σ H Q I h
 rw [hs]
 show wpAny _ _ (spliced ((false,eval e X.env)::backTo pos (starEach es X.env))) _ _ s
 refine Calls.spliced_cons (thn (ha pins s σ H _ I h) fun u s1 ⟨x,H1,I1,r1,q1⟩=>?_)
 exact thn (hr pos pins s1 σ H1 _ I1 q1) fun us s2 ⟨xs,H2,I2,r2,q2⟩=>⟨x::xs,H2,I2,.cons r1 r2,q2⟩
noncomputable def y7 (t:TA):TE:=fun σ H Q=>t σ H fun xs H1=>xs.length≤sizeLine∧∀p,H1 p=none→Q (.ref p) (upd H1 p (.tup xs))
noncomputable def zR (t:TA):TE:=fun σ H Q=>t σ H fun xs H1=>xs.length≤sizeLine∧∀p,H1 p=none→Q (.ref p) (upd H1 p (.lst xs))
theorem wy {x1} (h:PA X es t):PE X (.Tuple es x1 pos) (y7 t):=by
 intro pins s σ H Q I hq
 refine wpAny_Tuple_spliced (thn (h pos pins s σ H _ I hq) fun us s1 ⟨xs,H1,I1,r,z,q⟩=>⟨by rw [←r.length];exact z,?_⟩)
 have hf:H1 s1.heap.objs.size=none:=I1.hok.fresh (Nat.le_refl _)
 refine ⟨.ref s1.heap.objs.size,upd H1 s1.heap.objs.size (.tup xs),I1.laid (t':=s1.toks) (fun b u e=>Heap.get?_push_of_some _ e) (Nat.le_refl _) ?_,rfl,q _ hf⟩
 exact ⟨z,us,r,⟨_,Heap.get?_push_size _ rfl,rfl,_,rfl⟩⟩
theorem xh (h:PA X es t):PE X (.List es pos) (zR t):=by
 intro pins s σ H Q I hq
 refine wpAny_List_spliced (thn (h pos pins s σ H _ I hq) fun us s1 ⟨xs,H1,I1,r,z,q⟩=>⟨by rw [←r.length];exact z,?_⟩)
 have hf:H1 s1.heap.objs.size=none:=I1.hok.fresh (Nat.le_refl _)
 refine ⟨.ref s1.heap.objs.size,upd H1 s1.heap.objs.size (.lst xs),I1.laid (t':=s1.toks) (fun b u e=>Heap.get?_push_of_some _ e) (Nat.le_refl _) ?_,rfl,q _ hf⟩
 exact ⟨z,us,0,r,Heap.get?_push_size _ rfl⟩
end
noncomputable abbrev Sp:=List V→Hp→VK→XK→Prop
noncomputable abbrev CXT:=List Env→Hp→Shared→XK→Value→Shared→Prop
structure o8 (P:Program) (w:World) (K:PySem.W.Frag) (mg:Str→Option Value) (base:Heap) (A:Around) (outer:List Env) (s:Shared) (H:Hp):Prop where
 frames:A.frames=some outer
 mod:Mod K mg base
 bs:∀b o,base.get? b=some o→s.heap.get? b=some o∧H b=none
 bsz:base.objs.size≤s.heap.objs.size
 funs:s.heap.FunFrames base outer
 frf:∀b∈frs outer,H b=none
 hok:HOk P w H s.heap
 bare:AllBare s.gens
noncomputable def CE (outer:List Env) (P:Program) (w:World) (H:Hp) (s:Shared) (Q:VK) (u:Value) (s':Shared):Prop :=
 ∃v H',s'.os=s.os∧AllBare s'.gens∧Un (frs outer) [] H H' s.heap s'.heap∧HOk P w H' s'.heap∧RelV v u∧Q v H'
noncomputable def CR (CX:CXT) (outer:List Env) (P:Program) (w:World) (H:Hp) (s:Shared) (Q:VK) (E:XK) (r:Result) (s':Shared):Prop :=
 match r with
 | .ok (.ret u)=>CE outer P w H s Q u s'
 | .ok _=>False
 | .error e=>CX outer H s E e s'
structure im (P:Program) (w:World) (K:PySem.W.Frag) (mg:Str→Option Value) (base:Heap) (CX:CXT) (k:Nat) (f:Addr) (fd:FuncData) (ps:List Str) (sp:Sp):Prop where
 len:∀vs H Q E,sp vs H Q E→vs.length=ps.length
 run:∀(A:Around) (outer:List Env) (s:Shared) (H:Hp) (args:Args) (us:List Value) (vs:List V) (Q:VK) (E:XK),Room k A→o8 P w K mg base A outer s H→BindsTo s fd args (ps.zip us)→Vals vs us→sp vs H Q E →
  codeAny (model P w) A (.call (.ref f) args) (CR CX outer P w H s Q E) s
section
variable {X:Cx} {pins:List (Addr × Obj)} {σ:St} {H:Hp} {s s':Shared}
theorem Inv.env0 (I:Inv X pins σ H s):o8 X.prog X.w X.K X.mg X.base X.A X.stack s H :=
 ⟨I.ok.frames,I.ok.mod,I.bs,Nat.le_trans I.ok.bsz I.sz,I.stack,I.stkFree,I.hok,I.bare⟩
theorem Inv.after {Q:VK} {u:Value} (I:Inv X pins σ H s) (h:CE X.stack X.prog X.w H s Q u s'):EP X pins σ Q u s':=by
 obtain ⟨v,H',os,bare,un,hok,r,q⟩:=h
 obtain ⟨hh,g,d,t,os'⟩:=s'
 obtain rfl:os'=s.os:=os
 exact ⟨v,H',I.call (h':=hh) (g':=g) (d':=d) (t':=t) (ch:=[]) un hok bare (fun b z=>absurd z (by simp)),r,q⟩
end
noncomputable def jd (sp:Sp) (dvs:List V) (E:XK) (t:TA):TE:=fun σ H Q=>t σ H fun vs H1=>sp (vs++dvs) H1 Q E
noncomputable def Binds (K:PySem.W.Frag) (fd:FuncData) (ps:List Str) (ds:List Value):Prop :=
 ∀(s:Shared) (us:List Value),K.In s.heap→(us++ds).length=ps.length→BindsTo s fd ⟨us,[]⟩ (ps.zip (us++ds))
theorem Binds.all {K:PySem.W.Frag} {fd:FuncData} {ps:List Str} (h:∀us:List Value,us.length=ps.length→bindArgs fd ⟨us,[]⟩=pure (ps.zip us)):Binds K fd ps []:=fun s us _ hl=>by
 rw [List.append_nil] at hl ⊢
 exact .of_eq (h us hl)
noncomputable def jZ (CX:CXT) (X:Cx) (E:XK):Prop:=∀(pins:List (Addr × Obj)) (σ:St) (H:Hp) (s:Shared) (e:Value) (s':Shared),Inv X pins σ H s→CX X.stack H s E e s'→X.xe e s'
section
variable {X:Cx} {CX:CXT} {k:Nat} {f C:Addr} {fd:FuncData} {ps:List Str} {sp:Sp} {dvs:List V} {ds:List Value} {E:XK} {x m:Str} {p pos apos:Pos} {e o:Expr} {es:List Expr} {ta:TE} {t:TA}
theorem sh {pins:List (Addr × Obj)} {σ:St} {H:Hp} {s:Shared} {Q:VK} {us:List Value} {vs:List V} (F:im X.prog X.w X.K X.mg X.base CX k f fd ps sp) (hr:Room k X.A) (hb:Binds X.K fd ps ds) (hd:Vals dvs ds) (hx:jZ CX X E)
  (I:Inv X pins σ H s) (r:Vals vs us) (h:sp (vs++dvs) H Q E):wpAny (model X.prog X.w) X.A (call (.ref f) us) (EP X pins σ Q) X.xe s:=by
 have r2:Vals (vs++dvs) (us++ds):=r.append hd
 have hl:(us++ds).length=ps.length:=by rw [←r2.length];exact F.len _ _ _ _ h
 refine wpAny_call (codeAny_mono (F.run X.A X.stack s H ⟨us,[]⟩ (us++ds) (vs++dvs) Q E hr I.env0 (hb s us I.kIn hl) r2 h) fun r s' hq=>?_)
 cases r with
 | error e=>exact hx pins σ H s e s' I hq
 | ok fl =>
  cases fl with
  | ret u=>exact I.after hq
  | next=>exact False.elim hq
  | brk=>exact False.elim hq
  | cont=>exact False.elim hq
theorem tE (F:im X.prog X.w X.K X.mg X.base CX k f fd ps sp) (hr:Room k X.A) (hg:Gl X x) (hm:X.mg x=some (.ref f)) (hk:PySem.W.keepIn X.K (.ref f)=true) (hb:Binds X.K fd ps ds) (hd:Vals dvs ds) (hx:jZ CX X E)
  (ha:PA X (e::es) t) (hdb:(x == ("__debug__":Str))=false:=by decide) (he:starEach (e::es) X.env=(false,eval e X.env)::starEach es X.env:=by rfl) (hpl:(backTo pos (starEach es X.env)).any (·.1)=false:=by rfl) :
  PE X (.Call (.Name x p) (e::es) [] pos) (jd sp dvs E t):=by
 intro pins s σ H Q I h
 refine wpAny_Call_Name_kw (jW I hg hm ?_ hdb)
 refine PySem.W.callWith_K (h₀:=X.base) I.ok.mod.kin hk (thn (ha pos pins s σ H _ I h) fun us s1 ⟨vs,H1,I1,r,q⟩=>⟨I1.kIn,?_⟩) he hpl
 exact sh F hr hb hd hx I1 r q
theorem qX (F:im X.prog X.w X.K X.mg X.base CX k f fd ps sp) (hr:Room k X.A) (hg:Gl X x) (hm:X.mg x=some (.ref f)) (hk:PySem.W.keepIn X.K (.ref f)=true) (hb:Binds X.K fd ps ds) (hd:Vals dvs ds) (hx:jZ CX X E)
  (hdb:(x == ("__debug__":Str))=false:=by decide):PE X (.Call (.Name x p) [] [] pos) (jd sp dvs E mj):=by
 intro pins s σ H Q I h
 refine wpAny_Call_Name_kw (jW I hg hm ?_ hdb)
 exact PySem.W.callWith_K0 I.kIn hk (sh (us:=[]) F hr hb hd hx I .nil h)
structure Mk (K:PySem.W.Frag) (C f:Addr):Prop where
 makes:PySem.W.makesIn K C=true
 init:PySem.W.findIn K (.ref C) "__init__"=some (some (.ref f))
 fn:PySem.W.isFn K (.ref f)=true
 kp:PySem.W.keepIn K (.ref C)=true
end
section
variable {X:Cx} {CX:CXT} {k:Nat} {f C:Addr} {fd:FuncData} {ps ks:List Str} {sp:Sp} {E:XK} {x m:Str} {p pos apos kpos:Pos} {e o:Expr} {es:List Expr} {kws:List Keyword} {te ta:TE} {t tk:TA} {nm:Option Str}
structure zc (K:PySem.W.Frag) (fd:FuncData) (ps ks:List Str) (g:List Value→List Value→List Value) (gV:List V→List V→List V):Prop where
 to:∀(s:Shared) (us ws:List Value),K.In s.heap→(g us ws).length=ps.length→BindsTo s fd ⟨us,ks.zip ws⟩ (ps.zip (g us ws))
 rel:∀ {vs:List V} {us:List Value} {zs:List V} {ws:List Value},Vals vs us→Vals zs ws→Vals (gV vs zs) (g us ws)
variable {g:List Value→List Value→List Value} {gV:List V→List V→List V}
end
structure aM (N P:List Str) (sc:Scope):Prop where
 kind:sc.kind=.function
 co:sc.isCoroutine=false
 gen:sc.isGenerator=false
 nd:N.Nodup
 pre:N.take P.length=P
 par:∀x∈P,sc.names.lookup x=some .local∨sc.names.lookup x=some .cell
 nofree:∀y∈sc.names,y.2≠.free
theorem i8 {kindOf:Str→Option NameKind} {x:Str}:∀ {binds:List (Str × Value)} {m:Str→Option Value},(∀v,(x,v) ∉ binds)→bindL kindOf binds m x=m x
 | [],_,_=>rfl
 | (n,v)::r,m,h=>by
  unfold bindL
  rw [i8 fun w hw=>h w (List.mem_cons_of_mem _ hw)]
  split
  ·have:x≠n:=by rintro rfl;exact h v List.mem_cons_self
   simp [this]
  ·rfl
theorem i6 {kindOf:Str→Option NameKind} {x:Str}:∀ {binds:List (Str × Value)} {m:Str→Option Value},(∀v,(x,v) ∉ binds)→bindC kindOf binds m x=m x
 | [],_,_=>rfl
 | (n,v)::r,m,h=>by
  unfold bindC
  rw [i6 fun w hw=>h w (List.mem_cons_of_mem _ hw)]
  split
  ·rfl
  ·have:x≠n:=by rintro rfl;exact h v List.mem_cons_self
   simp [this]
theorem iL {kindOf:Str→Option NameKind} {x:Str} {v:Value}:∀ {P:List Str} {vs:List Value} {i:Nat} {m:Str→Option Value},P.Nodup→P[i]?=some x→vs[i]?=some v→kindOf x=some .local →
  bindL kindOf (P.zip vs) m x=some v
 | [],_,_,_,_,h,_,_=>by simp at h
 | _::_,[],_,_,_,_,h,_=>by simp at h
 | p::P,w::vs,0,m,nd,h1,h2,hk=>by
  simp at h1 h2;subst h1;subst h2
  show bindL kindOf ((p,w)::P.zip vs) m p=_
  unfold bindL
  rw [i8 fun v hv=>(List.nodup_cons.mp nd).1 (List.of_mem_zip hv).1,if_pos hk]
  simp
 | p::P,w::vs,i+1,m,nd,h1,h2,hk=>by
  show bindL kindOf ((p,w)::P.zip vs) m x=_
  unfold bindL
  exact iL (i:=i) (List.nodup_cons.mp nd).2 (by simpa using h1) (by simpa using h2) hk
theorem ja {kindOf:Str→Option NameKind} {x:Str} {v:Value}:∀ {P:List Str} {vs:List Value} {i:Nat} {m:Str→Option Value},P.Nodup→P[i]?=some x→vs[i]?=some v→kindOf x≠some .local →
  bindC kindOf (P.zip vs) m x=some v
 | [],_,_,_,_,h,_,_=>by simp at h
 | _::_,[],_,_,_,_,h,_=>by simp at h
 | p::P,w::vs,0,m,nd,h1,h2,hk=>by
  simp at h1 h2;subst h1;subst h2
  show bindC kindOf ((p,w)::P.zip vs) m p=_
  unfold bindC
  rw [i6 fun v hv=>(List.nodup_cons.mp nd).1 (List.of_mem_zip hv).1,if_neg hk]
  simp
 | p::P,w::vs,i+1,m,nd,h1,h2,hk=>by
  show bindC kindOf ((p,w)::P.zip vs) m x=_
  unfold bindC
  exact ja (i:=i) (List.nodup_cons.mp nd).2 (by simpa using h1) (by simpa using h2) hk
noncomputable def start (N:List Str) (vs:List V):St:=vs.map some++List.replicate (N.length-vs.length) none
noncomputable def fw (CX:CXT) (P:Program) (w:World) (K:PySem.W.Frag) (mg:Str→Option Value) (base:Heap) (N:List Str) (qual:Str) (scope:Scope) (f:Addr) (cd:Value) (A:Around) (outer:List Env) (s:Shared) (H:Hp) (E:XK):Cx where
 prog:=P
 w:=w
 K:=K
 mg:=mg
 base:=base
 A:=A.deeper (envOfC qual scope s.heap.objs.size f cd)
 N:=N
 s₀:=s
 H₀:=H
 env:=envOfC qual scope s.heap.objs.size f cd
 outer:=outer
 stack:=envOfC qual scope s.heap.objs.size f cd::outer
 ex:=[]
 calm:=true
 fn:=fun _=>true
 pn:=[]
 xe:=fun e s'=>wpAny (model P w) (A.deeper (envOfC qual scope s.heap.objs.size f cd)) (leaving (envOfC qual scope s.heap.objs.size f cd) e) (fun _ s''=>CX outer H s E e s'') (fun e' s''=>CX outer H s E e' s'') s'
theorem kw {sc:Scope} {n:Nat} {x:Str} (h:sc.names.lookup x=some .cell):∃c,(cellsFrom n sc.names []).lookup x=some c:=by
 have q:=PySem.W.cellsFrom_some sc.names n [] (.inl h)
 exact Option.isSome_iff_exists.mp q
theorem oG {CX:CXT} {P:Program} {w:World} {K:PySem.W.Frag} {mg:Str→Option Value} {base:Heap} {N ps:List Str} {qual:Str} {scope:Scope} {f:Addr} {cd:Value} {A:Around} {outer:List Env} {s s1:Shared} {H:Hp} {E:XK} {us:List Value} {vs:List V}
  (S:aM N ps scope) (hd:A.handled=none) (e0:o8 P w K mg base A outer s H) (hl:vs.length=ps.length) (r:Vals vs us)
  (x:InCallC s s.heap.objs.size (bindL (envOfC qual scope s.heap.objs.size f cd).kindOf (ps.zip us) fun _=>none) (cellsFrom (s.heap.objs.size+1) scope.names []) (bindC (envOfC qual scope s.heap.objs.size f cd).kindOf (ps.zip us) fun _=>none) s1) :
  Inv (fw CX P w K mg base N qual scope f cd A outer s H E) [] (start N vs) H s1:=by
 have hpl:ps.length≤N.length:=by have:=congrArg List.length S.pre;rw [List.length_take] at this;omega
 obtain ⟨h1,tk,rfl,hk⟩:=x.done
 have noA:∀b:Addr,b ∉ (fw CX P w K mg base N qual scope f cd A outer s H E).ex:=fun b z=>absurd (show b∈([]:List Addr) from z) (by simp)
 refine ⟨⟨e0.mod,S.kind,rfl,rfl,Nat.le_refl _,fun y z c h1 h2=>?_,fun y hy=>?_,fun y c _ h=>?_,fun _=>hd,Around.frames_deeper e0.frames,.inr ⟨rfl,rfl⟩,fun b z=>absurd z (noA b),e0.bs,e0.bsz,fun b _ _=>noA b,fun b z=>absurd z (noA b),e0.funs,e0.frf⟩,
  rfl,e0.bare,Un.kept hk,⟨_,x.toInCall.ns,fun i y v h1 h2 h3=>?_⟩,fun y c h=>⟨_,x.cell y c h⟩,e0.hok.fresh (Nat.le_refl _),fun y c h=>?_,fun p hp=>absurd (show p∈([]:List (Addr × Obj)) from hp) (by simp),e0.hok.kept hk,?_⟩
 ·exact name_of_addr x.apart (PySem.mem_of_lookup h1) (PySem.mem_of_lookup h2)
 ·have hy:scope.names.lookup y=some .cell∨scope.names.lookup y=some .free:=hy
  rcases hy with hy|hy
  ·exact kw hy
  ·exact absurd rfl (S.nofree _ (PySem.mem_of_lookup hy))
 ·exact Nat.le_of_lt (x.above y c (PySem.mem_of_lookup h))
 ·have hi:i<vs.length:=by
   unfold start at h2
   by_cases hi:i<vs.length
   ·exact hi
   ·rw [List.getElem?_append_right (by simpa using hi)] at h2
    rw [List.getElem?_replicate] at h2
    split at h2 <;> cases h2
  have ha:vs[i]?=some v:=by
   unfold start at h2
   rw [List.getElem?_append_left (by simpa using hi),List.getElem?_map] at h2
   cases e:vs[i]? with
   | none=>rw [e] at h2;cases h2
   | some a=>rw [e] at h2;cases h2;rfl
  obtain ⟨u,hu,rv⟩:=r.get ha
  have hp:ps[i]?=some y:=by
   rw [←S.pre,List.getElem?_take_of_lt (by omega)];exact h1
  have ndP:ps.Nodup:=by rw [←S.pre];exact S.nd.sublist (List.take_sublist _ _)
  refine ⟨u,rv,?_⟩
  rcases S.par y (List.mem_of_getElem? hp) with k|k
  ·exact .inl ⟨k,iL ndP hp hu k⟩
  ·obtain ⟨c,e⟩:=kw (n:=s.heap.objs.size+1) k
   refine .inr ⟨.inl k,c,e,?_⟩
   have q:=x.cell y c e
   rw [ja ndP hp hu (by show scope.names.lookup y≠_;rw [k];decide)] at q
   exact q
 ·exact e0.hok.fresh (Nat.le_of_lt (x.above y c (PySem.mem_of_lookup h)))
 ·unfold start
  show _=N.length
  rw [List.length_append,List.length_map,List.length_replicate]
  omega
theorem yq {CX:CXT} {P:Program} {w:World} {K:PySem.W.Frag} {mg:Str→Option Value} {base:Heap} {k:Nat} {f:Addr} {name qual:Str} {params:Arguments} {body:List Stmt} {scope:Scope} {dV kV doc pm cdv ct oc:Value} {an od:Option Addr}
  {osl:Array (Option Value)} {N ps:List Str} {sp:Sp} (lk:K.lookup f=some ⟨oc,od,.func (PySem.W.fnOf name qual params body scope dV kV doc pm an cdv ct),osl⟩) (hcd:PySem.W.codeIn K cdv qual=true) (S:aM N ps scope)
  (len:∀vs H Q E,sp vs H Q E→vs.length=ps.length)
  (hbody:∀(A:Around) (outer:List Env) (s:Shared) (H:Hp) (vs:List V) (Q:VK) (E:XK),Room k (A.deeper (envOfC qual scope s.heap.objs.size f cdv))→sp vs H Q E →
   ∃t,PSs (fw CX P w K mg base N qual scope f cdv A outer s H E) body t∧t { nx:=fun _ H'=>Q .non H',rt:=Q } (start N vs) H) :
  im P w K mg base CX (k+1) f (PySem.W.fnOf name qual params body scope dV kV doc pm an cdv ct) ps sp:=by
 refine ⟨len,fun A outer s H args us vs Q E hr e0 hb r hsp=>?_⟩
 have hl:=len _ _ _ _ hsp
 have KX:K.In s.heap:=e0.mod.kin.keeps fun b o e=>(e0.bs b o e).1
 have lim:s.heap.NoLimit:=e0.mod.nolimit.keeps fun b o e=>(e0.bs b o e).1
 have hkind:∀y∈ps.zip us,scope.names.lookup y.1=some .local∨(scope.names.lookup y.1=some .cell∧((cellsFrom (s.heap.objs.size+1) scope.names []).lookup y.1).isSome=true):=fun ⟨n,v⟩ hy=>by
  rcases S.par n (List.of_mem_zip hy).1 with q|q
  ·exact .inl q
  ·exact .inr ⟨q,PySem.W.cellsFrom_some _ _ _ (.inl q)⟩
 refine codeAny_call_function hr.depth (KX _ _ lk) rfl S.co S.gen rfl (PySem.W.codeRec_of KX hcd) (hb _ _ _ _ ?_)
 refine wpAny_newFunctionEnv_cells S.kind hkind fun env he s1 x=>?_
 subst he
 refine ⟨lim.keeps x.toInCall.keep,codeAny_func ?_⟩
 obtain ⟨t,ht,hq⟩:=hbody A outer s H vs Q E (hr.deeper _) hsp
 have I:Inv (fw CX P w K mg base N qual scope f cdv A outer s H E) [] (start N vs) H s1:=oG S hr.hd e0 hl r x
 refine wpAny_mono (ht [] s1 (start N vs) H _ I hq) (fun fl s' hs=>?_) fun e s' hs=>hs
 have fin:∀ {σ':St} {H':Hp} {v:V} {u:Value},Inv (fw CX P w K mg base N qual scope f cdv A outer s H E) [] σ' H' s'→RelV v u→Q v H'→CE outer P w H s Q u s' :=
  fun {σ' H' v u} J rv q=>⟨v,H',J.os,J.bare,J.base,J.hok,rv,q⟩
 cases fl with
 | ret u =>
  obtain ⟨v,σ',H',J,rv,q⟩:=hs
  exact fin J rv q
 | next =>
  obtain ⟨σ',H',J,q⟩:=hs
  exact fin (v:=V.non) (u:=Value.none) J rfl q
 | brk =>
  obtain ⟨_,_,_,q⟩:=hs
  exact False.elim q
 | cont =>
  obtain ⟨_,_,_,q⟩:=hs
  exact False.elim q
end L2
namespace L2
open PySem PySem.Spec PyProof.Rows
section
variable {X:Cx} {x:Str} {p pos:Pos} {e:Expr} {es:List Expr} {t:TA} {id T:String} {r:List V→Hp→VK→Prop}
noncomputable def tCB (r:List V→Hp→VK→Prop) (t:TA):TE:=fun σ H Q=>t σ H fun vs H1=>r vs H1 Q
theorem rD (hc:bR X (.builtin id) r) (hg:Gl X x) (hm:X.mg x=none) (hv:bootBuiltins x=some (.builtin id)) (ha:PA X (e::es) t) (hn:x≠"__name__":=by decide) (hdb:(x == ("__debug__":Str))=false:=by decide)
  (he:starEach (e::es) X.env=(false,eval e X.env)::starEach es X.env:=by rfl) (hpl:(backTo pos (starEach es X.env)).any (·.1)=false:=by rfl):PE X (.Call (.Name x p) (e::es) [] pos) (tCB r t):=by
 intro pins s σ H Q I h
 refine wpAny_Call_Name_kw (fm I hg hm hv ?_ hn hdb)
 exact PyProof.Rows.callWith_builtin1 (thn (ha pos pins s σ H _ I h) fun us s1 ⟨vs,H1,I1,r1,q1⟩=>hc pins s1 σ H1 vs us Q I1 r1 q1) he hpl
theorem n9 (hc:bR X (.type T) r) (hg:Gl X x) (hm:X.mg x=none) (hv:bootBuiltins x=some (.type T)) (ha:PA X (e::es) t) (hn:x≠"__name__":=by decide) (hdb:(x == ("__debug__":Str))=false:=by decide)
  (he:starEach (e::es) X.env=(false,eval e X.env)::starEach es X.env:=by rfl) (hpl:(backTo pos (starEach es X.env)).any (·.1)=false:=by rfl):PE X (.Call (.Name x p) (e::es) [] pos) (tCB r t):=by
 intro pins s σ H Q I h
 refine wpAny_Call_Name_kw (fm I hg hm hv ?_ hn hdb)
 exact PyProof.Rows.callWith_type1 (thn (ha pos pins s σ H _ I h) fun us s1 ⟨vs,H1,I1,r1,q1⟩=>hc pins s1 σ H1 vs us Q I1 r1 q1) he hpl
end
end L2
namespace HT
open PySem PyProof.Rows
section
open PySem.SeqAt
open PySem.AutoSeq1 (wpAny_loadPart')
open PySem.MeetsSeq PySem.MeetsSeq2 PySem.MeetsSeq3
end
section
variable {prog:Program} {w:World} {A:Around} {E:Value→Shared→Prop} {s:Shared}
theorem cat_tup {t b:Addr} {vs ws:List Value} {Q:Value→Shared→Prop} (ht:IsTup s.heap t vs.toArray) (hb:IsTup s.heap b ws.toArray) (hv:vs≠[])
  (h1:ws=[]→Q (.ref t) s) (h2:ws≠[]→Q (.ref s.heap.objs.size) { s with heap:=s.heap.push { cls:=.type "tuple",data:=.seq (vs++ws).toArray } })
  (hsz:vs.length+ws.length≤sizeLine):wpAny (model prog w) A (binaryOp .Add (.ref t) (.ref b)) Q E s:=by
 obtain ⟨⟨cls,dd,data,sl⟩,ho,hc,n,hd⟩:=id ht
 obtain ⟨⟨cls2,dd2,data2,sl2⟩,ho2,hc2,n2,hd2⟩:=id hb
 simp only at hc hd hc2 hd2
 subst hc hd hc2 hd2
 have e:vs.toArray++ws.toArray=(vs++ws).toArray:=by simp
 by_cases hw:ws=[]
 ·exact concat_meets ⟨_,ho,rfl⟩ ⟨_,ho2,rfl⟩ noFill_tuple_add seq_tuple_add PySem.F.slot_tuple_add PySem.F.entry_tuple_add (PySem.F.args_tuple_add_2 _ _)
   (tuple_addW1 t b vs.toArray ws.toArray n n2 dd dd2 sl sl2 (by simpa using hv) (by simp [hw])) ⟨ho,ho2,h1 hw⟩
 ·refine concat_meets ⟨_,ho,rfl⟩ ⟨_,ho2,rfl⟩ noFill_tuple_add seq_tuple_add PySem.F.slot_tuple_add PySem.F.entry_tuple_add (PySem.F.args_tuple_add_2 _ _)
   (tuple_addW2 t b vs.toArray ws.toArray n n2 dd dd2 sl sl2 (by simpa using hv) (by simpa using hw) (by rw [List.size_toArray,List.size_toArray];exact hsz)) ⟨ho,ho2,?_⟩
  rw [e]
  exact h2 hw
noncomputable def sIx (n d:Nat):Option Int→Nat
 | none=>d
 | some v=>if v<0 then (v+(n:Int)).toNat else min v.toNat n
theorem sIx_none (n d:Nat):sIx n d none=d:=rfl
theorem sIx_nat (n d k:Nat):sIx n d (some (k:Int))=min k n:=by
 show (if (k:Int)<0 then ((k:Int)+(n:Int)).toNat else min (k:Int).toNat n)=min k n
 rw [if_neg (by omega),Int.toNat_natCast]
theorem wc (n d:Nat) (hd:d≤n) (o:Option Int):sIx n d o≤n:=by
 cases o with
 | none=>exact hd
 | some v =>
  show (if v<0 then (v+(n:Int)).toNat else min v.toNat n)≤n
  by_cases hv:v<0
  ·rw [if_pos hv];omega
  ·rw [if_neg hv];exact Nat.min_le_right _ _
theorem mN (v:Int) (n d:Nat):(if v<0 then max (v+(n:Int)) 0 else min v (n:Int))=((sIx n d (some v):Nat):Int):=by
 show (if v<0 then max (v+(n:Int)) 0 else min v (n:Int))=(((if v<0 then (v+(n:Int)).toNat else min v.toNat n):Nat):Int)
 by_cases hv:v<0
 ·simp only [if_pos hv];omega
 ·simp only [if_neg hv];omega
theorem lP (lo hi:Option Int) (n:Nat):Builtin.Slice.sliceAdjust lo hi 1 (n:Int)=(((sIx n 0 lo:Nat):Int),((sIx n n hi:Nat):Int)):=by
 have h1:¬((1:Int)<0):=by omega
 unfold Builtin.Slice.sliceAdjust
 simp only [h1,if_false]
 refine Prod.ext ?_ ?_
 ·cases lo with
  | none=>rfl
  | some v=>exact mN v n 0
 ·cases hi with
  | none=>rfl
  | some v=>exact mN v n n
theorem md (i j:Nat):Builtin.Slice.slicePlaces (i:Int) (j:Int) 1=j-i:=by
 unfold Builtin.Slice.slicePlaces
 have h1:(1:Int) > 0:=by omega
 simp only [h1,if_true,Int.ediv_one]
 split <;> omega
theorem gR {v:Value} {o:Option Int} {Q:Option Int→Shared→Prop} (p:IsPart v o) (h:Q o s):wpAny (model prog w) A (Builtin.Slice.slicePartIndex v) Q E s:=by
 cases p with
 | none=>exact slicePart_none h
 | int i t=>exact slicePart_int h
theorem sliceApplied_gen {sl:Addr} {vl vu:Value} {lo hi:Option Int} {n:Nat} {Q:Int × Int × Nat→Shared→Prop} (hs:s.heap.IsSliceOf sl vl vu .none) (pl:IsPart vl lo) (pu:IsPart vu hi)
  (h:Q (((sIx n 0 lo:Nat):Int),1,sIx n n hi-sIx n 0 lo) s):wpAny (model prog w) A (Builtin.Slice.sliceApplied (.ref sl) (pure (n:Int))) Q E s:=by
 obtain ⟨os,hos,hcs,hds⟩:=id hs
 unfold Builtin.Slice.sliceApplied Builtin.Slice.sliceFields
 refine wpAny_bind (wpAny_bind (wpAny_field hos hds (x:=vl) rfl (wpAny_bind (wpAny_field hos hds (x:=vu) rfl (wpAny_bind (wpAny_field hos hds (x:=.none) rfl (wpAny_pure ?_)))))))
 refine wpAny_bind (slicePart_none ?_)
 show wpAny _ _ (if ((1:Int) == 0)=true then _ else _) _ _ s
 rw [if_neg (by decide)]
 refine wpAny_bind (gR pl (wpAny_bind (gR pu (wpAny_bind (wpAny_pure ?_)))))
 show wpAny _ _ (match Builtin.Slice.sliceAdjust lo hi 1 (n:Int) with|(lo,hi)=>pure (lo,(1:Int),Builtin.Slice.slicePlaces lo hi 1)) _ _ s
 rw [lP lo hi n]
 show wpAny _ _ (pure (((sIx n 0 lo:Nat):Int),(1:Int),Builtin.Slice.slicePlaces ((sIx n 0 lo:Nat):Int) ((sIx n n hi:Nat):Int) 1)) _ _ s
 rw [md]
 exact wpAny_pure h
theorem rZ (xs:Array Value) (i k:Nat):((List.range k).filterMap fun (m:Nat)=>xs[((i:Int)+(m:Int)*1).toNat]?).toArray=((xs.toList.drop i).take k).toArray:=by
 have e:(fun (m:Nat)=>xs[((i:Int)+(m:Int)*1).toNat]?)=fun m=>xs[i+m]?:=by
  funext m
  have:((i:Int)+(m:Int)*1).toNat=i+m:=by omega
  rw [this]
 rw [e]
 have:=pick_run xs i k
 rw [List.filterMap_map] at this
 have e2:((fun x=>xs[x]?) ∘ fun x=>i+x)=fun m=>xs[i+m]?:=rfl
 rw [e2] at this
 rw [this]
theorem getItem_tuple_cut {t sl:Addr} {items:Array Value} {vl vu:Value} {lo hi:Option Int} {Q:Value→Shared→Prop} (ht:IsTup s.heap t items) (hs:s.heap.IsSliceOf sl vl vu .none) (pl:IsPart vl lo) (pu:IsPart vu hi)
  (hw:¬(sIx items.size 0 lo=0∧sIx items.size items.size hi=items.size))
  (h:Q (.ref s.heap.objs.size) { s with heap:=s.heap.push { cls:=.type "tuple",data:=.seq ((items.toList.drop (sIx items.size 0 lo)).take (sIx items.size items.size hi-sIx items.size 0 lo)).toArray } })
  (hsz:items.size≤sizeLine):wpAny (model prog w) A (getItem (.ref t) (.ref sl)) Q E s:=by
 have htake:sizeOk (.seq ((items.toList.drop (sIx items.size 0 lo)).take (sIx items.size items.size hi-sIx items.size 0 lo)).toArray):=by
  show ((items.toList.drop (sIx items.size 0 lo)).take (sIx items.size items.size hi-sIx items.size 0 lo)).toArray.size≤sizeLine
  rw [List.size_toArray,List.length_take,List.length_drop,Array.length_toList]
  omega
 have hj:sIx items.size items.size hi≤items.size:=wc _ _ (Nat.le_refl _) hi
 obtain ⟨os,hos,hcs,hds⟩:=id hs
 have hTs:s.TypeIs (.ref sl) "slice":=⟨os,hos,hcs⟩
 unfold getItem
 try with_reducible refine wpAny_holding ?_
 first|refine wpAny_bind (wpAny_pure ?_)|skip
 refine wpAny_bind (wpAny_sequenceKey ht.typeIs (by decide) ?_)
 refine wpAny_bind (wpAny_callSpecial?_slot (name:=Str.ofString "__getitem__") ht.typeIs PyProof.Rows.slot_tuple_getitem
  (wpAny_call_entry PyProof.Rows.slot_tuple_getitem ht.typeIs entry_tuple_getitem ?_ (args_tuple_getitem _ _)))
 show wpAny _ _ (Builtin.Tuple.tupleItemsOf (.ref t) >>= _) _ _ s
 refine wpAny_bind (tupleItemsOf_ ht ?_)
 refine wpAny_bind (wpAny_typeOf hTs ?_)
 rw [if_pos (by decide)]
 refine wpAny_bind (sliceApplied_gen hs pl pu ?_)
 have hno:¬((((sIx items.size 0 lo:Nat):Int) == 0 && (1:Int) == 1 && (sIx items.size items.size hi-sIx items.size 0 lo) == items.size)=true):=by
  intro q
  rw [Bool.and_eq_true,Bool.and_eq_true] at q
  have q1:((sIx items.size 0 lo:Nat):Int)=0:=eq_of_beq q.1.1
  have q2:sIx items.size items.size hi-sIx items.size 0 lo=items.size:=eq_of_beq q.2
  exact hw ⟨by omega,by omega⟩
 show wpAny _ _ (if (((sIx items.size 0 lo:Nat):Int) == 0 && (1:Int) == 1 && (sIx items.size items.size hi-sIx items.size 0 lo) == items.size)=true then _ else _) _ _ s
 rw [if_neg hno,rZ]
 first
  | exact wpAny_bind (m:=Builtin.Tuple.tupleExact _) (wpAny_newObj_type (wpAny_pure ⟨_,rfl,wpAny_pure h⟩) htake)
  | exact wpAny_bind (m:=Builtin.Tuple.tupleExact _) (wpAny_newObj_type (wpAny_bind (wpAny_pure (wpAny_pure ⟨_,rfl,wpAny_pure h⟩))) htake)
  | exact wpAny_bind (wpAny_bind (m:=Builtin.Tuple.tupleExact _) (wpAny_newObj_type (wpAny_pure (wpAny_pure ⟨_,rfl,wpAny_pure h⟩)) htake))
  | exact wpAny_bind (wpAny_bind (m:=Builtin.Tuple.tupleExact _) (wpAny_newObj_type (wpAny_pure ⟨_,rfl,wpAny_pure h⟩) htake))
end
end HT
namespace L2
open PySem PySem.Spec PyProof.Rows
noncomputable abbrev TO:=St→Hp→(Option Int→Hp→Prop)→Prop
noncomputable def PO (X:Cx) (e:Option Expr) (t:TO):Prop :=
 ∀(pins:List (Addr × Obj)) (s:Shared) (σ:St) (H:Hp) (Q:Option Int→Hp→Prop),Inv X pins σ H s→t σ H Q →
  wpAny (model X.prog X.w) X.A (evalPart e X.env) (fun u s'=>∃o H',Inv X pins σ H' s'∧IsPart u o∧Q o H') X.xe s
noncomputable def sP:TO:=fun _ H Q=>Q none H
noncomputable def xm (t:TE):TO:=fun σ H Q=>t σ H fun x H1=>∃i,x=.int i∧Q (some i) H1
section
variable {X:Cx} {e:Expr} {te:TE} {lo hi:Option Expr} {tl th:TO} {pos p2:Pos}
theorem sK:PO X none sP:=by
 intro pins s σ H Q I h
 rw [evalPart_none]
 exact wpAny_pure ⟨none,H,I,.none,h⟩
theorem tR (h:PE X e te):PO X (some e) (xm te):=by
 intro pins s σ H Q I hw
 rw [evalPart_some]
 refine thn (h pins s σ H _ I hw) fun u s1 ⟨x,H1,I1,r1,q1⟩=>?_
 obtain ⟨i,rfl,q⟩:=q1
 obtain ⟨t,rfl⟩:=r1
 exact ⟨some i,H1,I1,.int i t,q⟩
noncomputable def SlR (X:Cx) (r:V→Option Int→Option Int→Hp→VK→Prop):Prop :=
 ∀(pins:List (Addr × Obj)) (s:Shared) (σ:St) (H:Hp) (x:V) (v vl vu:Value) (lo hi:Option Int) (sl:Addr) (Q:VK),Inv X pins σ H s→RelV x v→s.heap.IsSliceOf sl vl vu .none→IsPart vl lo→IsPart vu hi→r x lo hi H Q →
  ∃T id,typeLookup (.type T) "__getitem__"=pure (some (.builtin id))∧s.TypeIs v T∧wpAny (model X.prog X.w) X.A (getItem v (.ref sl)) (EP X pins σ Q) X.xe s
noncomputable def tSl (r:V→Option Int→Option Int→Hp→VK→Prop) (te:TE) (tl th:TO):TE:=fun σ H Q=>te σ H fun x H1=>tl σ H1 fun l H2=>th σ H2 fun u H3=>r x l u H3 Q
theorem qj {r:V→Option Int→Option Int→Hp→VK→Prop} (hr:SlR X r) (he:PE X e te) (hl:PO X lo tl) (hu:PO X hi th):PE X (.Subscript e (.Slice lo hi none p2) pos) (tSl r te tl th):=by
 intro pins s σ H Q I h
 refine Subscript_ (thn (he pins s σ H _ I h) fun v s1 ⟨x,H1,I1,r1,q1⟩=>?_)
 refine wpAny_Slice (thn (hl pins s1 σ H1 _ I1 q1) fun vl s2 ⟨l,H2,I2,pl,q2⟩=>thn (hu pins s2 σ H2 _ I2 q2) fun vu s3 ⟨u,H3,I3,pu,q3⟩=>?_)
 rw [evalPart_none]
 refine wpAny_pure ?_
 have I4:Inv X pins σ H3 { s3 with heap:=s3.heap.push { cls:=.type "slice",data:=.fields #[vl,vu,.none] } }:=I3.kept (t':=s3.toks) fun b ob q=>Heap.get?_push_of_some _ q
 obtain ⟨T,id,hT,ht,hg⟩:=hr pins { s3 with heap:=s3.heap.push { cls:=.type "slice",data:=.fields #[vl,vu,.none] } } σ H3 x v vl vu l u s3.heap.objs.size Q I4 r1 (Heap.IsSliceOf.new ..) pl pu q3
 show wpAny (model X.prog X.w) X.A (subscriptTail e (.Slice lo hi none p2) v (.ref s3.heap.objs.size)) (EP X pins σ Q) X.xe { s3 with heap:=s3.heap.push { cls:=.type "slice",data:=.fields #[vl,vu,.none] } }
 exact tail_any (ops:=[.ref s3.heap.objs.size,v]) ht hT hg (by with_unfolding_all rfl)
noncomputable def ir (xs:List V) (lo hi:Option Int):List V:=(xs.drop (HT.sIx xs.length 0 lo)).take (HT.sIx xs.length xs.length hi-HT.sIx xs.length 0 lo)
theorem fR (xs:List V) (lo hi:Option Int):(ir xs lo hi).length≤xs.length:=by
 unfold ir
 rw [List.length_take,List.length_drop]
 omega
noncomputable def y_ (K:PySem.W.Frag):V→Option Int→Option Int→Hp→VK→Prop:=fun x lo hi H Q=>∃a xs,x=.ref a∧SqT K H a xs ∧
 ¬(HT.sIx xs.length 0 lo=0∧HT.sIx xs.length xs.length hi=xs.length)∧∀p,H p=none→Q (.ref p) (upd H p (.tup (ir xs lo hi)))
theorem vY:SlR X (y_ X.K):=by
 intro pins s σ H x v vl vu lo hi sl Q I rx hs pl pu h
 obtain ⟨a,xs,rfl,hx,hw,q⟩:=h
 cases rx
 obtain ⟨its,r,ht,hz⟩:=I.tuple hx
 have hlen:its.toArray.size=xs.length:=by rw [List.size_toArray];exact r.length.symm
 refine ⟨"tuple",_,PyProof.Rows.slot_tuple_getitem.lookup,ht.typeIs,?_⟩
 refine HT.getItem_tuple_cut ht hs pl pu (by rw [hlen];exact hw) ?_ (by rw [hlen];exact hz)
 rw [hlen]
 refine ⟨.ref s.heap.objs.size,_,I.laid (t':=s.toks) (o:=.tup (ir xs lo hi)) (fun b ob q=>Heap.get?_push_of_some _ q) (Nat.le_refl _) ?_,rfl,q _ (I.hok.fresh (Nat.le_refl _))⟩
 exact ⟨Nat.le_trans (fR xs lo hi) hz,_,(r.drop (HT.sIx xs.length 0 lo)).take (HT.sIx xs.length xs.length hi-HT.sIx xs.length 0 lo),IsTup.new _ _⟩
noncomputable def xz (K:PySem.W.Frag):R2:=fun x y H Q=>∃a b xs ys,x=.ref a∧y=.ref b∧SqT K H a xs∧SqT K H b ys∧xs≠[]∧xs.length+ys.length≤sizeLine ∧
 (ys=[]→Q (.ref a) H)∧(ys≠[]→∀p,H p=none→Q (.ref p) (upd H p (.tup (xs++ys))))
theorem Vals.nil_iff {xs:List V} {us:List Value} (r:Vals xs us):us=[]↔xs=[]:=by
 cases r with
 | nil=>simp
 | cons _ _=>simp
theorem tB:OpR X (binaryOp .Add) (xz X.K):=by
 intro pins s σ H x y v u Q I rx ry h
 obtain ⟨a,b,xs,ys,rfl,rfl,ha,hb,hx,hz,q1,q2⟩:=h
 cases rx
 cases ry
 obtain ⟨its,r1,p1,_⟩:=I.tuple ha
 obtain ⟨its2,r2,p2,_⟩:=I.tuple hb
 refine HT.cat_tup p1 p2 (fun z=>hx (r1.nil_iff.mp z)) (fun z=>⟨.ref a,H,I,rfl,q1 (r2.nil_iff.mp z)⟩) (fun z=>?_) (by rw [←r1.length,←r2.length];exact hz)
 refine ⟨.ref s.heap.objs.size,_,I.laid (t':=s.toks) (o:=.tup (xs++ys)) (fun b ob q=>Heap.get?_push_of_some _ q) (Nat.le_refl _) ?_,rfl,q2 (fun w=>z (r2.nil_iff.mpr w)) _ (I.hok.fresh (Nat.le_refl _))⟩
 exact ⟨by rw [List.length_append];exact hz,_,r1.append r2,IsTup.new _ _⟩
end
end L2
namespace L2
open PySem PySem.Spec PyProof.Rows
noncomputable def ixN (n:Nat) (i:Int):Option Nat:=if 0≤i then (if i<n then some i.toNat else none) else if -(n:Int)≤i then some (i+n).toNat else none
noncomputable def atI {α:Type} (xs:List α) (i:Int):Option α:=(ixN xs.length i).bind fun j=>xs[j]?
theorem nV {n:Nat} {i:Int} {j:Nat} (h:ixN n i=some j):seqIndex? i n=some j∧j<n∧-(n:Int)≤i∧i<n:=by
 unfold ixN at h
 by_cases h0:0≤i
 ·rw [if_pos h0] at h
  by_cases h1:i<n
  ·rw [if_pos h1] at h
   have e:i.toNat=j:=Option.some.inj h
   exact ⟨by rw [seqIndex_of h0 h1,e],by omega,by omega,h1⟩
  ·rw [if_neg h1] at h;cases h
 ·rw [if_neg h0] at h
  by_cases h1:-(n:Int)≤i
  ·rw [if_pos h1] at h
   have e:(i+n).toNat=j:=Option.some.inj h
   exact ⟨by rw [seqIndex_neg (by omega) h1,e],by omega,h1,by omega⟩
  ·rw [if_neg h1] at h;cases h
theorem jA {α:Type} {xs:List α} {i:Int} {v:α} (h:atI xs i=some v):∃j,seqIndex? i xs.length=some j∧xs[j]?=some v∧j<xs.length∧-(xs.length:Int)≤i∧i<xs.length:=by
 unfold atI at h
 cases e:ixN xs.length i with
 | none=>rw [e] at h;cases h
 | some j =>
  rw [e] at h
  obtain ⟨h1,h2,h3,h4⟩:=nV e
  exact ⟨j,h1,h,h2,h3,h4⟩
theorem cW {α:Type} {xs:List α} {j:Nat} {v:α} (h:xs[j]?=some v):atI xs (j:Int)=some v:=by
 have hj:j<xs.length:=(List.getElem?_eq_some_iff.mp h).1
 have e:ixN xs.length (j:Int)=some j:=by
  unfold ixN
  rw [if_pos (by omega),if_pos (by omega)];simp
 unfold atI;rw [e];exact h
noncomputable def nG (b:Expr):Prop:=∀o i,subscripted b false o i=operate [o,i] (getItem o i)
noncomputable def IxR (X:Cx) (r:R2):Prop :=
 ∀(value slice:Expr) (pins:List (Addr × Obj)) (s:Shared) (σ:St) (H:Hp) (x y:V) (v u:Value) (Q:VK),Inv X pins σ H s→RelV x v→RelV y u→r x y H Q →
  subscripted slice false v u=operate [v,u] (getItem v u)→wpAny (model X.prog X.w) X.A (subscriptTail value slice v u) (EP X pins σ Q) X.xe s
noncomputable def MtR (X:Cx) (id:String) (r:V→List V→Hp→VK→Prop):Prop :=
 ∀(pins:List (Addr × Obj)) (s:Shared) (σ:St) (H:Hp) (x:V) (xs:List V) (v:Value) (us:List Value) (Q:VK),Inv X pins σ H s→RelV x v→Vals xs us→r x xs H Q →
  wpAny (model X.prog X.w) X.A (call (.builtin id) (v::us)) (EP X pins σ Q) X.xe s
section
variable {X:Cx} {a b:Expr} {ta tb:TE} {pos:Pos}
theorem xK {r:R2} (hr:IxR X r) (ha:PE X a ta) (hb:PE X b tb) (hs:nG b):PE X (.Subscript a b pos) (tOp r ta tb):=by
 intro pins s σ H Q I h
 exact Subscript_ (wK ha hb I h fun v u s2 x y H2 I2 rx ry q=>hr a b pins s2 σ H2 x y v u Q I2 rx ry q (hs _ _))
noncomputable def zd (K:PySem.W.Frag):R2:=fun x y H Q=>∃p xs i v,x=.ref p∧y=.int i∧SqL K H p xs∧atI xs i=some v∧Q v H
noncomputable def zn (K:PySem.W.Frag):R2:=fun x y H Q=>∃p xs i v,x=.ref p∧y=.int i∧SqT K H p xs∧atI xs i=some v∧Q v H
noncomputable def zO:R2:=fun x y H Q=>∃z i c,x=.str z∧y=.int i∧z.length≤sizeLine∧atI z.cps.toList i=some c∧Q (.str ⟨#[c]⟩) H
theorem sO:IxR X (zd X.K):=by
 intro value slice pins s σ H x y v u Q I rx ry h hs
 obtain ⟨p,xs,i,z,rfl,rfl,hq,he,q⟩:=h
 cases rx
 obtain ⟨t,rfl⟩:=ry
 obtain ⟨its,r,pl,hz⟩:=I.list hq
 obtain ⟨j,h1,h2,h3,h4,h5⟩:=jA he
 obtain ⟨w,ew,rw'⟩:=r.get h2
 have hl:=r.length
 have hn:=d0
 have fin:EP X pins σ Q w s:=⟨z,H,I,rw',q⟩
 by_cases h0:0≤i
 ·have hj:i.toNat=j:=by
   rw [seqIndex_of h0 h5] at h1
   exact Option.some.inj h1
  exact item_listR pl.isList h0 (by omega) (by rw [hj];simpa using ew) fin hs
 ·have hj:(i+(its.toArray.size:Int)).toNat=j:=by
   rw [seqIndex_neg (by omega) h4] at h1
   rw [List.size_toArray,←hl]
   exact Option.some.inj h1
  exact subscriptTail_builtinR (x:=w) pl.isList.typeIs slot_list_getitem.lookup
   (wpAny_getItem_list_neg (Q:=fun r s'=>r=w∧EP X pins σ Q r s') pl.isList (by omega) (by rw [List.size_toArray] <;> omega) (by omega) (by rw [hj];simpa using ew) ⟨rfl,fin⟩) hs
theorem wJ:IxR X (zn X.K):=by
 intro value slice pins s σ H x y v u Q I rx ry h hs
 obtain ⟨p,xs,i,z,rfl,rfl,hq,he,q⟩:=h
 cases rx
 obtain ⟨t,rfl⟩:=ry
 obtain ⟨its,r,pl,hz⟩:=I.tuple hq
 obtain ⟨j,h1,h2,h3,h4,h5⟩:=jA he
 obtain ⟨w,ew,rw'⟩:=r.get h2
 have hl:=r.length
 have hn:=d0
 have fin:EP X pins σ Q w s:=⟨z,H,I,rw',q⟩
 exact subscriptTail_builtinR (x:=w) pl.typeIs slot_tuple_getitem.lookup
  (getItem_tuple (j:=j) (Q:=fun r s'=>r=w∧EP X pins σ Q r s') pl (by omega) (by omega) (by rw [List.size_toArray,←hl];exact h1) (by simpa using ew) ⟨rfl,fin⟩) hs
theorem wN:IxR X zO:=by
 intro value slice pins s σ H x y v u Q I rx ry h hs
 obtain ⟨z,i,c,rfl,rfl,hz,he,q⟩:=h
 obtain ⟨t,rfl⟩:=rx
 obtain ⟨t',rfl⟩:=ry
 obtain ⟨j,h1,h2,h3,h4,h5⟩:=jA he
 have hl:z.cps.toList.length=z.length:=by simp [Str.length]
 rw [hl] at h1 h4 h5
 have hn:=d0
 exact tail_any (typeIs_str s z t) slot_str_getitem.lookup (getItem_str (c:=c) (by
  have e1:decide (i < -(2 ^ 63:Int))=false:=decide_eq_false (by omega)
  have e2:decide (i ≥ 2 ^ 63)=false:=decide_eq_false (by omega)
  rw [e1,e2,Bool.or_false]) (by rw [h1];simpa using h2) ⟨.str ⟨#[c]⟩,H,I.tok _,⟨_,rfl⟩,q⟩) hs
theorem lN (its:List Value) (n j:Nat) (u:Value):Obj.mapSeq (·.setIfInBounds j u) { cls:=.type "list",data:=.seq its.toArray n }={ cls:=.type "list",data:=.seq (its.set j u).toArray n }:=by
 simp [Obj.mapSeq]
theorem Inv.lst {pins:List (Addr × Obj)} {σ:St} {H:Hp} {s:Shared} {p:Addr} {xs:List V} (I:Inv X pins σ H s) (h:H p=some (.lst xs)) :
  ∃(its:List Value) (n:Nat),Vals xs its∧s.heap.get? p=some { cls:=.type "list",data:=.seq its.toArray n }∧xs.length≤sizeLine:=by
 obtain ⟨z,its,n,r,e⟩:=I.hok p _ h
 exact ⟨its,n,r,e,z⟩
theorem Inv.lstUpd {pins:List (Addr × Obj)} {σ:St} {H:Hp} {s:Shared} {p:Addr} {xs ys:List V} {its its':List Value} {n n':Nat} {f:Obj→Obj} (I:Inv X pins σ H s) (h:H p=some (.lst xs))
  (ho:s.heap.get? p=some { cls:=.type "list",data:=.seq its.toArray n }) (hf:f { cls:=.type "list",data:=.seq its.toArray n }={ cls:=.type "list",data:=.seq its'.toArray n' }) (r:Vals ys its') (hz:ys.length≤sizeLine) (t:Nat) :
  Inv X pins σ (upd H p (.lst ys)) { s with heap:=s.heap.update p f,toks:=t }:=by
 have e:(s.heap.update p f).get? p=some { cls:=.type "list",data:=.seq its'.toArray n' }:=by
  rw [Heap.get?_update_self f ho (by rw [hf] <;> rfl),hf]
 refine I.write (x:=p) (e:=p) (by rw [h];trivial) (.inl rfl) (fun b u hb q=>(Heap.get?_update_other _ _ (Ne.symm hb)).trans q) ⟨_,e⟩ ?_
 exact ⟨hz,its',n',r,e⟩
noncomputable def yO:V→V→V→Hp→(Hp→Prop)→Prop:=fun o i v H Q=>∃p xs k j,o=.ref p∧i=.int k∧H p=some (.lst xs)∧ixN xs.length k=some j∧Q (upd H p (.lst (xs.set j v)))
theorem qR:vX X yO:=by
 intro pins s σ H o i v ov iv u Q I ro ri rv h
 obtain ⟨p,xs,k,j,rfl,rfl,hp,hj,q⟩:=h
 cases ro
 obtain ⟨t,rfl⟩:=ri
 obtain ⟨its,n,r,ho,hz⟩:=I.lst hp
 obtain ⟨h1,h2,h3,h4⟩:=nV hj
 have hl:=r.length
 have hn:=d0
 have I':Inv X pins σ (upd H p (.lst (xs.set j v))) { s with heap:=s.heap.update p (Obj.mapSeq (·.setIfInBounds j u)) } :=
  I.lstUpd hp ho (lN its n j u) (r.set rv j) (by rw [List.length_set];exact hz) s.toks
 by_cases h0:0≤k
 ·have hk:k.toNat=j:=by
   rw [seqIndex_of h0 h4] at h1
   exact Option.some.inj h1
  exact PySem.W.ki_setAt ho h0 (by omega) (by rw [List.size_toArray,←hl];exact h4) (by rw [hk];exact ⟨_,I',q⟩)
 ·have hk:(k+(its.toArray.size:Int)).toNat=j:=by
   rw [seqIndex_neg (by omega) h3] at h1
   rw [List.size_toArray,←hl]
   exact Option.some.inj h1
  exact PySem.W.ki_setBack ho (by omega) (by rw [List.size_toArray,←hl];exact h3) (by omega) (by rw [hk];exact ⟨_,I',q⟩)
theorem jX (lo hi:Option Int) (n:Nat):(sliceBounds lo hi none n).1=((HT.sIx n 0 lo:Nat):Int)∧(sliceBounds lo hi none n).2.1=((HT.sIx n n hi:Nat):Int)∧(sliceBounds lo hi none n).2.2=1:=by
 refine ⟨?_,?_,rfl⟩
 ·cases lo with
  | none=>simp [sliceBounds,HT.sIx]
  | some i =>
   simp only [sliceBounds,HT.sIx,Option.getD_none,show (1:Int) > 0 by decide,if_true]
   by_cases h:i<0
   ·simp only [h,if_true] <;> omega
   ·simp only [h,if_false] <;> omega
 ·cases hi with
  | none=>simp [sliceBounds,HT.sIx]
  | some i =>
   simp only [sliceBounds,HT.sIx,Option.getD_none,show (1:Int) > 0 by decide,if_true]
   by_cases h:i<0
   ·simp only [h,if_true] <;> omega
   ·simp only [h,if_false] <;> omega
theorem iz (its:List Value) (lo hi:Option Int):slicePick its.toArray lo hi none=((its.drop (HT.sIx its.length 0 lo)).take (HT.sIx its.length its.length hi-HT.sIx its.length 0 lo)).toArray:=by
 obtain ⟨h1,h2,h3⟩:=jX lo hi its.toArray.size
 unfold slicePick
 rw [h1,h2,h3]
 simp only [sliceRange_one,pick_run,List.size_toArray] <;> rfl
noncomputable def zy (K:PySem.W.Frag):V→Option Int→Option Int→Hp→VK→Prop:=fun x lo hi H Q=>∃a xs,x=.ref a∧SqL K H a xs∧∀p,H p=none→Q (.ref p) (upd H p (.lst (ir xs lo hi)))
theorem sy:SlR X (zy X.K):=by
 intro pins s σ H x v vl vu lo hi sl Q I rx hs pl pu h
 obtain ⟨a,xs,rfl,hx,q⟩:=h
 cases rx
 obtain ⟨its,r,ht,hz⟩:=I.list hx
 have hlen:=r.length
 refine ⟨"list",_,slot_list_getitem.lookup,ht.isList.typeIs,?_⟩
 refine wpAny_getItem_list_slice ht.isList hs pl pu .none (by simp) ?_ (by rw [List.size_toArray] <;> omega)
 rw [iz,←hlen]
 refine ⟨.ref s.heap.objs.size,_,I.laid (t':=s.toks) (o:=.lst (ir xs lo hi)) (fun b ob q=>Heap.get?_push_of_some _ q) (Nat.le_refl _) ?_,rfl,q _ (I.hok.fresh (Nat.le_refl _))⟩
 exact ⟨Nat.le_trans (fR xs lo hi) hz,_,0,(r.drop (HT.sIx xs.length 0 lo)).take (HT.sIx xs.length xs.length hi-HT.sIx xs.length 0 lo),Heap.get?_push_size _ rfl⟩
noncomputable def dU:V→Bool
 | .non=>true
 | .bl _=>true
 | .int _=>true
 | .str _=>true
 | _=>false
noncomputable def eqV:V→V→Bool
 | .non,.non=>true
 | .bl a,.bl b=>a == b
 | .bl a,.int b=>(if a then 1 else 0) == b
 | .int a,.bl b=>a == (if b then 1 else 0)
 | .int a,.int b=>a == b
 | .str a,.str b=>a == b
 | _,_=>false
theorem wG {A:Around} {s:Shared} {y x:V} {u v:Value} (ry:RelV y u) (rx:RelV x v) (fy:dU y=true) (fx:dU x=true):SeqAt.EqAt A s u v (eqV y x):=by
 cases y with
 | non =>
  cases ry
  cases x with
  | non=>cases rx;exact SeqAt.EqAt.same _
  | bl b=>cases rx;exact SeqAt.EqAt.none_bool b
  | int b=>obtain ⟨t,rfl⟩:=rx;exact SeqAt.EqAt.none_int b t
  | str b=>obtain ⟨t,rfl⟩:=rx;exact SeqAt.EqAt.none_str b t
  | _=>exact absurd (show false=true from fx) Bool.false_ne_true
 | bl a =>
  cases ry
  cases x with
  | non=>cases rx;exact SeqAt.EqAt.bool_none a
  | bl b=>cases rx;exact SeqAt.EqAt.bool_bool a b
  | int b=>obtain ⟨t,rfl⟩:=rx;exact SeqAt.EqAt.bool_int a b t
  | str b=>obtain ⟨t,rfl⟩:=rx;exact SeqAt.EqAt.bool_str a b t
  | _=>exact absurd (show false=true from fx) Bool.false_ne_true
 | int a =>
  obtain ⟨t',rfl⟩:=ry
  cases x with
  | non=>cases rx;exact SeqAt.EqAt.int_none a t'
  | bl b=>cases rx;exact SeqAt.EqAt.int_bool a t' b
  | int b=>obtain ⟨t,rfl⟩:=rx;exact SeqAt.EqAt.int_int a t' b t
  | str b=>obtain ⟨t,rfl⟩:=rx;exact SeqAt.EqAt.int_str a t' b t
  | _=>exact absurd (show false=true from fx) Bool.false_ne_true
 | str a =>
  obtain ⟨t',rfl⟩:=ry
  cases x with
  | non=>cases rx;exact SeqAt.EqAt.str_none a t'
  | bl b=>cases rx;exact SeqAt.EqAt.str_bool a t' b
  | int b=>obtain ⟨t,rfl⟩:=rx;exact SeqAt.EqAt.str_int a t' b t
  | str b=>obtain ⟨t,rfl⟩:=rx;exact SeqAt.EqAt.str_str a t' b t
  | _=>exact absurd (show false=true from fx) Bool.false_ne_true
 | _=>exact absurd (show false=true from fy) Bool.false_ne_true
noncomputable def eqU (x:V) (u:Value):Bool:=match u with
 | .none=>eqV .non x
 | .bool b=>eqV (.bl b) x
 | .int i _=>eqV (.int i) x
 | .str z _=>eqV (.str z) x
 | _=>false
theorem pi {x y:V} {u:Value} (r:RelV y u) (f:dU y=true):eqU x u=eqV y x:=by
 cases y with
 | non=>cases r;rfl
 | bl b=>cases r;rfl
 | int i=>obtain ⟨t,rfl⟩:=r;rfl
 | str z=>obtain ⟨t,rfl⟩:=r;rfl
 | _=>exact absurd (show false=true from f) Bool.false_ne_true
theorem eP {x:V}:∀ {xs:List V} {us:List Value},Vals xs us→xs.all dU=true→us.any (eqU x)=xs.any fun y=>eqV y x
 | _,_,.nil,_=>rfl
 | y::xs,u::us,.cons r t,f=>by
  rw [List.all_cons,Bool.and_eq_true] at f
  rw [List.any_cons,List.any_cons,pi r f.1,eP t f.2]
theorem db {A:Around} {s:Shared} {x:V} {v:Value} (rx:RelV x v) (fx:dU x=true):∀ {xs:List V} {us:List Value},Vals xs us→xs.all dU=true→∀u∈us,SeqAt.EqAt A s u v (eqU x u)
 | _,_,.nil,_=>fun u hu=>by cases hu
 | y::xs,u::us,.cons r t,f=>fun u' hu=>by
  rw [List.all_cons,Bool.and_eq_true] at f
  rcases List.mem_cons.mp hu with rfl|hu
  ·rw [pi r f.1];exact wG r rx f.1 fx
  ·exact db rx fx t f.2 u' hu
noncomputable def inV (x:V) (xs:List V):Bool:=xs.any fun y=>eqV y x
noncomputable def rIn (K:PySem.W.Frag) (neg:Bool):R2:=fun x y H Q=>∃p xs,y=.ref p∧(SqL K H p xs∨SqT K H p xs)∧dU x=true∧xs.all dU=true∧Q (.bl (if neg then !inV x xs else inV x xs)) H
theorem fP:OpR X (compareOp .In) (rIn X.K false):=by
 intro pins s σ H x y v u Q I rx ry h
 obtain ⟨p,xs,rfl,hq,fx,fs,q⟩:=h
 cases ry
 rcases hq with hq|hq
 ·obtain ⟨its,r,pl,hz⟩:=I.list hq
  refine SeqAt.in_listAt (eqU x) pl.isList (fun w hw=>db rx fx r fs w (by simpa using hw)) ⟨.bl _,H,I,rfl,?_⟩
  rw [show its.toArray.any (eqU x)=its.any (eqU x) by simp,eP r fs]
  exact q
 ·obtain ⟨its,r,pl,hz⟩:=I.tuple hq
  refine SeqAt.in_tupleAt (eqU x) pl (fun w hw=>db rx fx r fs w (by simpa using hw)) ⟨.bl _,H,I,rfl,?_⟩
  rw [show its.toArray.any (eqU x)=its.any (eqU x) by simp,eP r fs]
  exact q
theorem cU:OpR X (compareOp .NotIn) (rIn X.K true):=by
 intro pins s σ H x y v u Q I rx ry h
 obtain ⟨p,xs,rfl,hq,fx,fs,q⟩:=h
 cases ry
 rcases hq with hq|hq
 ·obtain ⟨its,r,pl,hz⟩:=I.list hq
  refine SeqAt.notIn_listAt (eqU x) pl.isList (fun w hw=>db rx fx r fs w (by simpa using hw)) ⟨.bl _,H,I,rfl,?_⟩
  rw [show its.toArray.any (eqU x)=its.any (eqU x) by simp,eP r fs]
  exact q
 ·obtain ⟨its,r,pl,hz⟩:=I.tuple hq
  refine SeqAt.notIn_tupleAt (eqU x) pl (fun w hw=>db rx fx r fs w (by simpa using hw)) ⟨.bl _,H,I,rfl,?_⟩
  rw [show its.toArray.any (eqU x)=its.any (eqU x) by simp,eP r fs]
  exact q
theorem jD:bR X (.builtin "len") (fun xs H Q=>∃p ys,xs=[.ref p]∧(SqL X.K H p ys∨SqT X.K H p ys)∧Q (.int ys.length) H):=by
 intro pins s σ H xs us Q I r h
 obtain ⟨p,ys,rfl,hq,q⟩:=h
 obtain ⟨u,rfl,rx⟩:=dh r
 cases rx
 have hn:=d0
 rcases hq with hq|hq
 ·obtain ⟨its,r',pl,hz⟩:=I.list hq
  have hlen:=r'.length
  exact Calls.call_len_list pl.isList (by simp only [List.size_toArray] <;> omega) ⟨.int ys.length,H,I.tok _,⟨s.toks+1,by rw [List.size_toArray,hlen]⟩,q⟩
 ·obtain ⟨its,r',pl,hz⟩:=I.tuple hq
  have hlen:=r'.length
  exact len_tuple pl (by simp only [List.size_toArray] <;> omega) ⟨.int ys.length,H,I.tok _,⟨s.toks+1,by rw [List.size_toArray,hlen]⟩,q⟩
theorem jq:bR X (.builtin "len") (fun xs H Q=>∃z,xs=[.str z]∧z.length≤sizeLine∧Q (.int z.length) H):=by
 intro pins s σ H xs us Q I r h
 obtain ⟨z,rfl,hz,q⟩:=h
 obtain ⟨u,rfl,t,rfl⟩:=dh r
 have hn:=d0
 exact len_str (by omega) ⟨.int z.length,H,I.tok _,⟨_,rfl⟩,q⟩
theorem il:bR X (.type "tuple") (fun xs H Q=>∃p ys,xs=[.ref p]∧((SqL X.K H p ys∧∀l,H l=none→Q (.ref l) (upd H l (.tup ys)))∨(SqT X.K H p ys∧Q (.ref p) H))):=by
 intro pins s σ H xs us Q I r h
 obtain ⟨p,ys,rfl,h⟩:=h
 obtain ⟨u,rfl,rx⟩:=dh r
 cases rx
 rcases h with ⟨hq,q⟩|⟨hq,q⟩
 ·obtain ⟨its,r',pl,hz⟩:=I.list hq
  have hlen:=r'.length
  refine call_tuple_list pl.isList (fun h' kp=>?_) (by simp only [List.size_toArray] <;> omega)
  have I1:Inv X pins σ H { s with heap:=h' }:=I.kept (t':=s.toks) kp
  have I2:Inv X pins σ (upd H h'.objs.size (.tup ys)) { s with heap:=h'.push { cls:=.type "tuple",data:=.seq its.toArray } } :=
   I1.laid (t':=s.toks) (fun b o e=>Heap.get?_push_of_some _ e) (Nat.le_refl _) (show ObjOk X.prog X.w _ _ _ (.tup ys) from ⟨hz,its,r',IsTup.new _ _⟩)
  exact ⟨.ref h'.objs.size,_,I2,rfl,q _ (I1.hok.fresh (Nat.le_refl _))⟩
 ·obtain ⟨its,r',pl,hz⟩:=I.tuple hq
  exact call_tuple_same pl ⟨.ref p,H,I,rfl,q⟩
noncomputable def tyV (K:PySem.W.Frag) (T:String) (x:V) (H:Hp):Prop:=match x with
 | .str _=>T="str"
 | .int _=>T="int"
 | .ref p=>(T="list"∧∃xs,SqL K H p xs)∨(T="tuple"∧∃o,K.lookup p=some o∧o.cls=.type "tuple"∧o.dict=none) ∨
   (T="dict"∧((∃kvs,H p=some (.dK kvs))∨∃kvs,H p=some (.dT kvs)))∨(T="set"∧∃S n,H p=some (.set S n))
 | _=>False
theorem pq {pins:List (Addr × Obj)} {σ:St} {H:Hp} {s:Shared} {T:String} {x:V} {v:Value} (I:Inv X pins σ H s) (r:RelV x v) (ty:tyV X.K T x H) :
  s.TypeIs v T∧∀a,v=.ref a→∃ob,s.heap.get? a=some ob∧ob.dict=none:=by
 cases x with
 | str z =>
  obtain ⟨t,rfl⟩:=r
  cases (show T="str" from ty)
  exact ⟨typeIs_str s z t,fun _ e=>nomatch e⟩
 | int i =>
  obtain ⟨t,rfl⟩:=r
  cases (show T="int" from ty)
  exact ⟨typeIs_int s i t,fun _ e=>nomatch e⟩
 | ref p =>
  cases r
  rcases ty with ⟨rfl,xs,hq⟩|⟨rfl,o,hk,hc,hd⟩|⟨rfl,hk⟩|⟨rfl,S,n,hk⟩
  ·obtain ⟨its,_,pl,_⟩:=I.list hq
   refine ⟨pl.isList.typeIs,fun a e=>?_⟩
   cases e
   obtain ⟨o,n,e,c,hd,_⟩:=pl
   exact ⟨o,e,hd⟩
  ·refine ⟨⟨o,I.kIn p o hk,hc⟩,fun a e=>?_⟩
   cases e
   exact ⟨o,I.kIn _ o hk,hd⟩
  ·have z:∃o,s.heap.get? p=some o∧o.ExactDict:=by
    rcases hk with ⟨kvs,hk⟩|⟨kvs,hk⟩
    ·obtain ⟨_,_,_,_,o,_,_,e,ex,_⟩:=I.hok p _ hk
     exact ⟨o,e,ex⟩
    ·obtain ⟨_,_,_,_,o,_,_,e,ex,_⟩:=I.hok p _ hk
     exact ⟨o,e,ex⟩
   obtain ⟨o,e,ex⟩:=z
   refine ⟨⟨o,e,ex.1⟩,fun a e2=>?_⟩
   cases e2
   exact ⟨o,e,ex.2.1⟩
  ·obtain ⟨o,_,_,_,e,ex,_⟩:=I.hok p _ hk
   refine ⟨⟨o,e,ex.1⟩,fun a e2=>?_⟩
   cases e2
   exact ⟨o,e,ex.2.1⟩
 | _=>exact False.elim ty
noncomputable def ze (K:PySem.W.Frag) (T:String) (r:V→List V→Hp→VK→Prop) (to:TE):TE:=fun σ H Q=>to σ H fun x H1=>tyV K T x H1∧r x [] H1 Q
noncomputable def tBM (K:PySem.W.Frag) (T:String) (r:V→List V→Hp→VK→Prop) (to:TE) (t:TA):TE:=fun σ H Q=>to σ H fun x H1=>tyV K T x H1∧t σ H1 fun xs H2=>r x xs H2 Q
variable {o e:Expr} {es:List Expr} {to:TE} {t:TA} {name:Str} {apos cpos:Pos} {T id:String} {r:V→List V→Hp→VK→Prop}
theorem ly (pa:PlainAttrs T) (slot:Slot T name id) (hty:typeOf (.builtin id)=pure (.type "method_descriptor")) (hm:MtR X id r) (ho:PE X o to)
  (hbase:attributeBase o name X.env (eval o X.env)=eval o X.env:=by rfl) (hline:(apos.endLine == cpos.line)=true:=by rfl):PE X (.Call (.Attribute o name apos) [] [] cpos) (ze X.K T r to):=by
 intro pins s σ H Q I h
 refine wpAny_Call_method0_late hbase hline (thn (ho pins s σ H _ I h) fun v s1 ⟨x,H1,I1,r1,ty,q1⟩=>?_)
 obtain ⟨h1,h2⟩:=pq I1 r1 ty
 exact ⟨T,id,pa,slot,hty,h1,h2,Calls.callWith_builtin rfl (PySem.evalArgs_none (hm pins s1 σ H1 x [] v [] Q I1 r1 .nil q1))⟩
theorem uv (pa:PlainAttrs T) (slot:Slot T name id) (hty:typeOf (.builtin id)=pure (.type "method_descriptor")) (hm:MtR X id r) (ho:PE X o to) (ha:PA X (e::es) t)
  (hbase:attributeBase o name X.env (eval o X.env)=eval o X.env:=by rfl)
  (hfew:((backTo cpos (starEach (e::es) X.env)).all (fun x=>!x.1) && (backToKw cpos (keywordEach [] X.env)).all (fun x=>x.1.isSome)
   && decide ((e::es).length+([]:List Keyword).length+(if ([]:List Keyword).isEmpty then 0 else 1)<30))=true:=by rfl)
  (hline:(apos.endLine == cpos.line)=true:=by rfl) (hs:starEach (e::es) X.env=(false,eval e X.env)::starEach es X.env:=by rfl) (hplain:(backTo cpos (starEach es X.env)).any (·.1)=false:=by rfl) :
  PE X (.Call (.Attribute o name apos) (e::es) [] cpos) (tBM X.K T r to t):=by
 intro pins s σ H Q I h
 refine wpAny_Call_method_late hbase hfew hline rfl (thn (ho pins s σ H _ I h) fun v s1 ⟨x,H1,I1,r1,ty,q1⟩=>?_)
 obtain ⟨h1,h2⟩:=pq I1 r1 ty
 refine ⟨T,id,pa,slot,hty,h1,h2,?_⟩
 have hA:=ha cpos pins s1 σ H1 _ I1 q1
 rw [hs] at hA ⊢
 refine Calls.callWith_builtin (by show (false || (backTo cpos (starEach es X.env)).any (·.1))=false;rw [hplain] <;> rfl) (Calls.evalArgs_plain ?_)
 exact thn hA fun us s2 ⟨vs,H2,I2,r2,q2⟩=>hm pins s2 σ H2 x vs v us Q I2 r1 r2 q2
end
end L2
namespace L2
open PySem PySem.Spec PyProof.Rows
noncomputable def MtM (X:Cx) (id:String) (r:V→List V→Hp→VK→Prop):Prop :=
 ∀(pins:List (Addr × Obj)) (s:Shared) (σ:St) (H:Hp) (x:V) (xs:List V) (v:Value) (us:List Value) (Q:VK),Inv X pins σ H s→RelV x v→Vals xs us→r x xs H Q →
  wpAny (model X.prog X.w) X.A (call (.builtin id) (v::us)) (EP X pins σ Q) X.xe s
theorem Vals.one:∀ {x:V} {us:List Value},Vals [x] us→∃u,us=[u]∧RelV x u
 | _,_,.cons r .nil=>⟨_,rfl,r⟩
theorem Vals.zero:∀ {us:List Value},Vals [] us→us=[]
 | _,.nil=>rfl
theorem Vals.dropLast {xs:List V} {us:List Value} (h:Vals xs us):Vals xs.dropLast us.dropLast:=by
 induction h with
 | nil=>exact .nil
 | cons r t ih =>
  cases t with
  | nil=>exact .nil
  | cons q t'=>exact .cons r ih
theorem Vals.rep {xs:List V} {us:List Value} (h:Vals xs us):∀k:Nat,Vals (List.replicate k xs).flatten (List.replicate k us).flatten
 | 0=>.nil
 | k+1=>by
  rw [List.replicate_succ,List.replicate_succ,List.flatten_cons,List.flatten_cons]
  exact Vals.append h (Vals.rep h k)
theorem l_ {α:Type} (l:List α):l.eraseIdx (l.length-1)=l.dropLast:=by
 induction l with
 | nil=>rfl
 | cons a r ih =>
  cases r with
  | nil=>rfl
  | cons b r =>
   have e:(a::b::r).length-1=((b::r).length-1)+1:=by
    have h1:(a::b::r).length=r.length+2:=rfl
    have h2:(b::r).length=r.length+1:=rfl
    omega
   rw [e,List.eraseIdx_cons_succ,ih]
   all_goals rfl
theorem i7 (its:List Value):∀(k:Nat) (acc:List Value),
  List.foldl (fun x1 x2=>x1++x2) acc.toArray (List.replicate k its.toArray)=(acc++(List.replicate k its).flatten).toArray
 | 0,acc=>by simp
 | k+1,acc=>by
  have e:acc.toArray++its.toArray=(acc++its).toArray:=by simp
  have e2:(acc++its)++(List.replicate k its).flatten=acc++(List.replicate (k+1) its).flatten:=by
   rw [List.replicate_succ,List.flatten_cons,List.append_assoc]
  rw [←e2,←i7 its k (acc++its),←e,List.replicate_succ,List.foldl_cons]
section
variable {X:Cx} {pins:List (Addr × Obj)} {σ:St} {H:Hp} {s:Shared} {l b:Addr} {xs ys zs:List V}
theorem Inv.lset {its its':List Value} {n:Nat} {f:Array Value→Array Value} {t':Nat} (I:Inv X pins σ H s) (hH:H l=some (.lst xs))
  (e:s.heap.get? l=some { cls:=.type "list",data:=.seq its.toArray n }) (hf:f its.toArray=its'.toArray) (hv:Vals ys its') (hz:ys.length≤sizeLine) :
  Inv X pins σ (upd H l (.lst ys)) { s with heap:=s.heap.update l (Obj.mapSeq f),toks:=t' }:=by
 have q:=PySem.IsL.update e f
 rw [hf] at q
 refine I.write (x:=l) (e:=l) (by rw [hH];exact trivial) (.inl rfl) (fun b' u hb hu=>(Heap.get?_update_other s.heap (Obj.mapSeq f) (Ne.symm hb)).trans hu) ⟨_,q⟩ ?_
 exact ⟨hz,its',_,hv,q⟩
theorem Inv.lnew {its:List Value} {t':Nat} (I:Inv X pins σ H s) (hv:Vals ys its) (hz:ys.length≤sizeLine) :
  Inv X pins σ (upd H s.heap.objs.size (.lst ys)) { s with heap:=s.heap.push { cls:=.type "list",data:=.seq its.toArray },toks:=t' } :=
 I.laid (fun _ _ q=>Heap.get?_push_of_some _ q) (Nat.le_refl _) ⟨hz,its,0,hv,Heap.get?_push_size _ rfl⟩
theorem Inv.fresh (I:Inv X pins σ H s):H s.heap.objs.size=none:=I.hok.fresh (Nat.le_refl _)
theorem Inv.lstM (I:Inv X pins σ H s) (hH:H l=some (.lst xs)):xs.length≤sizeLine∧∃(its:List Value) (n:Nat),Vals xs its∧xs.length=its.length∧s.heap.get? l=some { cls:=.type "list",data:=.seq its.toArray n }:=by
 obtain ⟨z,its,n,r,e⟩:=I.hok l _ hH
 exact ⟨z,its,n,r,r.length,e⟩
theorem kF {n:Nat} (h:n≤sizeLine):Builtin.List.listTooLong n=false:=by
 unfold Builtin.List.listTooLong
 exact decide_eq_false (by omega)
end
section
variable {X:Cx}
noncomputable def tm:V→List V→Hp→VK→Prop:=fun x vs H Q=>∃l xs y,x=.ref l∧vs=[y]∧H l=some (.lst xs)∧xs.length<sizeLine∧Q .non (upd H l (.lst (xs++[y])))
theorem jl:MtM X "list.append" tm:=by
 intro pins s σ H x vs v us Q I rx rv h
 obtain ⟨l,xs,y,rfl,rfl,hH,hz,q⟩:=h
 cases rx
 obtain ⟨u,rfl,ru⟩:=rv.one
 obtain ⟨z,its,n,r,hl,e⟩:=I.lstM hH
 refine call_meets F.slot_list_append ⟨_,e,rfl⟩ F.entry_list_append (F.args_list_append_2 _ _) (PySem.list_append l its.toArray n u (by rw [List.size_toArray];omega)) ⟨e,?_⟩
 refine ⟨.non,_,I.lset (its':=its++[u]) hH e (by simp) (r.append (.cons ru .nil)) ?_,rfl,q⟩
 rw [List.length_append,List.length_singleton]
 omega
noncomputable def zu:V→List V→Hp→VK→Prop:=fun x vs H Q=>∃l xs y,x=.ref l∧vs=[]∧H l=some (.lst xs)∧xs[xs.length-1]?=some y∧Q y (upd H l (.lst xs.dropLast))
theorem wH:MtM X "list.pop" zu:=by
 intro pins s σ H x vs v us Q I rx rv h
 obtain ⟨l,xs,y,rfl,rfl,hH,hy,q⟩:=h
 cases rx
 have hus:=rv.zero
 subst hus
 obtain ⟨z,its,n,r,hl,e⟩:=I.lstM hH
 obtain ⟨u,hu,ru⟩:=r.get hy
 have hy':its.toArray[its.toArray.size-1]?=some u:=by
  show its.toArray[its.length-1]?=some u
  rw [←Array.getElem?_toList,←hl]
  exact hu
 refine call_meets F.slot_list_pop ⟨_,e,rfl⟩ F.entry_list_pop (F.args_list_pop_1 _) (MeetsSeq.list_pop_last l its.toArray n u hy' (by rw [List.size_toArray];omega)) ⟨e,?_⟩
 refine ⟨y,_,I.lset (its':=its.dropLast) hH e ?_ r.dropLast ?_,ru,q⟩
 ·show its.toArray.eraseIdxIfInBounds (its.toArray.size-1)=its.dropLast.toArray
  rw [List.size_toArray,List.eraseIdxIfInBounds_toArray,l_]
 ·rw [List.length_dropLast]
  omega
noncomputable def zM:R2:=fun x y H Q=>∃l b xs zs,x=.ref l∧y=.ref b∧H l=some (.lst xs)∧H b=some (.lst zs)∧xs.length+zs.length≤sizeLine∧∀p,H p=none→Q (.ref p) (upd H p (.lst (xs++zs)))
theorem wE:OpR X (binaryOp .Add) zM:=by
 intro pins s σ H x y v u Q I rx ry h
 obtain ⟨l,b,xs,zs,rfl,rfl,hH,hB,hz,q⟩:=h
 cases rx
 cases ry
 obtain ⟨z,its,n,r,hl,e⟩:=I.lstM hH
 obtain ⟨z2,its2,n2,r2,hl2,e2⟩:=I.lstM hB
 refine PySem.P.add_list e e2 ?_ (by rw [List.size_toArray,List.size_toArray];omega)
 have ea:its.toArray++its2.toArray=(its++its2).toArray:=by simp
 rw [ea]
 exact ⟨.ref _,_,I.lnew (t':=s.toks) (r.append r2) (by rw [List.length_append];omega),rfl,q _ I.fresh⟩
noncomputable def zD:R2:=fun x y H Q=>∃l k xs,x=.ref l∧y=.int k∧H l=some (.lst xs)∧-(2 ^ 63)≤k∧k<2 ^ 63∧xs.length*k.toNat≤sizeLine ∧
 ∀p,H p=none→Q (.ref p) (upd H p (.lst (List.replicate k.toNat xs).flatten))
theorem tM {α:Type} (xs:List α) (k:Nat):(List.replicate k xs).flatten.length=k*xs.length:=by
 induction k with
 | zero=>simp
 | succ k ih=>rw [List.replicate_succ,List.flatten_cons,List.length_append,ih,Nat.succ_mul,Nat.add_comm]
theorem wA:OpR X (binaryOp .Mult) zD:=by
 intro pins s σ H x y v u Q I rx ry h
 obtain ⟨l,k,xs,rfl,rfl,hH,h1,h2,hz,q⟩:=h
 cases rx
 obtain ⟨t,rfl⟩:=ry
 obtain ⟨z,its,n,r,hl,e⟩:=I.lstM hH
 have hlen:its.toArray.size*k.toNat≤sizeLine:=by rw [List.size_toArray,←hl];exact hz
 have hcap:¬its.toArray.size*k.toNat > (2 ^ 63-1)/8:=by
  have:(sizeLine:Nat)≤(2 ^ 63-1)/8:=by decide
  omega
 have hfit:¬(!Builtin.List.listFitsIndex k)=true:=by
  rw [fitsIndex_both h1 h2]
  exact Bool.false_ne_true
 have hlong:¬Builtin.List.listTooLong (its.toArray.size*k.toNat)=true:=by
  rw [kF hlen]
  exact Bool.false_ne_true
 have hnew:List.foldl (fun x1 x2=>x1++x2) #[] (List.replicate (if its.toArray.isEmpty=true then 0 else k.toNat) its.toArray)=(List.replicate k.toNat its).flatten.toArray:=by
  have f0:∀m:Nat,List.foldl (fun x1 x2=>x1++x2) #[] (List.replicate m its.toArray)=(List.replicate m its).flatten.toArray:=fun m=>by
   have:=i7 its m []
   rw [List.nil_append] at this
   exact this
  rw [f0]
  cases its with
  | nil=>simp
  | cons a r'=>rw [if_neg (by simp)]
 refine wpAny_binaryOp_repeat_ref (T:="list") (U:="int") (by decide) ⟨_,e,rfl⟩ (fun s'=>typeIs_int s' k t) noFill_list_mul F.fills_int_mul F.slot_int_rmul repeat_list F.slot_int_index.lookup
  (call_meets F.slot_int_rmul (typeIs_int s k t) F.entry_int_rmul (F.args_int_rmul_2 _ _) (int___rmul___int_list k t l its.toArray n)
   ⟨e,rfl,⟨_,e,rfl⟩,call_meets F.slot_list_mul ⟨_,e,rfl⟩ F.entry_list_mul (F.args_list_mul_2 _ _) (AutoListH.list___mul___list_int_3 l its.toArray n k t hfit hcap hlong) ⟨e,?_⟩⟩)
 rw [hnew]
 exact ⟨.ref _,_,I.lnew (t':=s.toks) (r.rep k.toNat) (by rw [tM,Nat.mul_comm];exact hz),rfl,q _ I.fresh⟩
end
section
variable {prog:Program} {w:World} {A:Around} {E:Value→Shared→Prop} {s:Shared}
set_option maxRecDepth 100000 in
end
section
variable {X:Cx}
end
end L2
namespace Att
open PySem PySem.W PySem.Calls PyProof.Rows
theorem gf {P:Params} {h:Heap}:∀(ns:List Int) (vs:List Value),WellAll P h vs (ns.map WData.int)→IntsAre vs ns:=by
 intro ns
 induction ns with
 | nil =>
  intro vs w
  rw [List.map_nil] at w
  cases w
  exact .nil
 | cons n ns ih =>
  intro vs w
  rw [List.map_cons] at w
  cases w with
  | cons a b =>
   cases a
   exact .cons _ _ (ih _ b)
theorem oW {l:OpenLaw} {n:Nat} (hn:l.most=some n) {P:Params} {h:Heap} {args:List WData} {vals:List Value}
  (hpre:l.row.toRowW.claim.pre args=true) (hwl:WellAll P h vals args) :
  ∃a vs ns,vals=[Value.ref a]∧args=[WData.list (ns.map WData.int)]∧h.get? a=some { cls:=.type "list",data:=.seq vs.toArray }∧IntsAre vs ns∧ns.length≤n:=by
 have hsh:WShape.hasAll [] args [.list .int]=true:=(pre_splitW hpre).1
 have hc:l.pre.holds [] { args:=args }=true:=(pre_splitW hpre).2
 obtain ⟨d,r,rfl,h1,h2⟩:=hasAllW_cons hsh
 obtain rfl:=hasAllW_nil h2
 obtain ⟨xs,rfl,h3⟩:=hasW_list h1
 obtain ⟨ns,rfl⟩:=items_int h3
 have hlen:ns.length≤n:=by
  unfold OpenLaw.pre at hc
  have h4:(WTm.not (.lt (.lit (.int (n:Int))) (.len (.arg 0)))).holds [] { args:=[.list (ns.map .int)] }=true:=by
   have h4:=(holds_andW hc).1
   rw [hn] at h4
   exact h4
  have h5:=condW_of h4 (w_not (w_lt w_lit (w_len_list (w_arg rfl))))
  rw [List.length_map] at h5
  refine Nat.le_of_not_lt fun q=>?_
  have q':(n:Int)<((ns.length:Nat):Int):=by omega
  first
   | (rw [decide_eq_true q'] at h5;exact absurd h5 (by decide))
   | (simp at h5;omega)
 cases hwl with
 | cons w1 w2 =>
  cases w2
  cases w1 with
  | list ho hall=>exact ⟨_,_,ns,rfl,rfl,ho,gf ns _ hall,hlen⟩
theorem oE (l:OpenLaw) (args:List WData):l.row.toRowW.claim.post args (.bool true) args=true :=
 postW_of (r:=l.row.toRowW) (X:=(true == true))
  (show WShape.has [] (.bool true) .bool=true by first|rfl|decide|simp [WShape.has,WShape.arms,WShape.armsAll])
  (show (WTm.eq .res (.lit (.bool true))).value [] { args:=args,res:=some (.bool true),after:=args }=some (.bool (true == true)) from w_eq_bool (w_res rfl) w_lit) rfl
theorem attach_call {l:OpenLaw} {n:Nat} {q:Program} {loose:List Str} {XP:(Str→Option Value)→Heap→Prop} {YP:World→Heap→Prop} {d:DefRec}
  (hn:l.most=some n) (hdf:d.params.defaults=[])
  (call:∀(w:World) (s₀ s₁:Shared) (mg mb:Str→Option Value) (fa:Addr) (o:Obj) (pm cd doc:Value) (a:Addr) (vs:List Value) (ns:List Int),
   Ground q loose [] XP w s₀ mg mb s₁.heap→YP w s₁.heap →
   s₁.heap.get? fa=some o→o.data=.func (docDef d.name d.params d.body d.scope pm cd doc)→s₁.heap.CodeRec cd d.name→mg d.name=some (.ref fa) →
   s₁.heap.get? a=some { cls:=.type "list",data:=.seq vs.toArray }→IntsAre vs ns→ns.length≤n→s₁.gens=#[] →
   codeAny (model l.prog w) callerA (.call (.ref fa) ⟨[.ref a],[]⟩) (fun r s'=>r=.ok (.ret (.bool true))∧OldK s₁.heap s'.heap∧s'.os=s₁.os∧AllBare s'.gens) s₁) :
  WalkO q loose XP YP l.row.toRowW d [] (fun f vs=>PySem.call f vs):=by
 intro w s₀ s₁ mg mb G Y fa o pm cd doc dV kV ho hd hcd hD hmg hg args vals as hpre hlay hrd hwl hlo
 obtain rfl:dV=.none:=Dflts.none hD hdf
 obtain rfl:kV=.none:=Dflts.noKw hD
 obtain ⟨a,vs,ns,rfl,rfl,hobj,hints,hlen⟩:=oW hn hpre hwl
 refine enter_call (codeAny_mono (call w s₀ s₁ mg mb fa o pm cd doc a vs ns G Y ho (fd_plain hd) hcd hmg hobj hints hlen hg) fun r s' hq=>?_)
 obtain ⟨rfl,h2,h3,h4⟩:=hq
 exact ⟨.inl ⟨.bool true,.bool true,[],rfl,fun _=>rfl,.bool true,oE l _,fun _=>⟨List.Pairwise.nil,fun _ hm=>(nomatch hm)⟩⟩,h2,h3,h4⟩
section
variable {prog:Program} {w:World} {A:Around} {E:Value→Shared→Prop} {s:Shared} {K:Frag}
end
end Att
namespace L2
open PySem PySem.Spec PyProof.Rows
theorem iR:∀ {vs:List Value} {ns:List Int},IntsAre vs ns→Vals (ns.map V.int) vs
 | _,_,.nil=>.nil
 | _,_,.cons n t h=>.cons ⟨t,rfl⟩ (iR h)
end L2
namespace L2
open PySem PySem.Spec PyProof.Rows
end L2
namespace L2
open PySem PySem.Spec PyProof.Rows
noncomputable def aN (s:Stmt):Arguments:=match s with
 | .FunctionDef _ a _ _ _ _ _ _ _ _=>a
 | _=>{ posonlyargs:=[],args:=[],vararg:=none,kwonlyargs:=[],kw_defaults:=[],kwarg:=none,defaults:=[] }
noncomputable def ah (s:Stmt):List Stmt:=match s with
 | .FunctionDef _ _ b _ _ _ _ _ _ _=>b
 | _=>[]
noncomputable def ac (s:Stmt):Scope:=match s with
 | .FunctionDef _ _ _ _ _ _ sc _ _ _=>sc
 | _=>{ kind:=.function,names:=[],isGenerator:=false,isCoroutine:=false }
noncomputable abbrev CX0:CXT:=fun _ _ _ _ _ _=>False
noncomputable abbrev E0:XK:=fun _ _ _=>False
theorem t3 {X:Cx}:jZ CX0 X E0:=fun _ _ _ _ _ _ _ h=>h.elim
structure Fun (K:PySem.W.Frag) (x qual:Str) (st:Stmt) (f:Addr) (fd:FuncData):Prop where
 ex:∃(oc:Value) (od:Option Addr) (kV doc pm:Value) (an:Option Addr) (cdv ct:Value) (osl:Array (Option Value)),
  fd=PySem.W.fnOf x qual (aN st) (ah st) (ac st) .none kV doc pm an cdv ct∧K.lookup f=some ⟨oc,od,.func fd,osl⟩∧PySem.W.codeIn K cdv qual=true
 kp:PySem.W.keepIn K (.ref f)=true
section
variable {P:Program} {w:World} {K:PySem.W.Frag} {mg:Str→Option Value} {base:Heap}
theorem Fun.ok {x qual:Str} {st:Stmt} {f:Addr} {fd:FuncData} {N ps:List Str} {k:Nat} {sp:Sp} (F:Fun K x qual st f fd) (S:aM N ps (ac st)) (len:∀vs H Q E,sp vs H Q E→vs.length=ps.length)
  (hbody:∀(cdv:Value) (A:Around) (outer:List Env) (s:Shared) (H:Hp) (vs:List V) (Q:VK) (E:XK),Room k (A.deeper (envOfC qual (ac st) s.heap.objs.size f cdv))→sp vs H Q E →
   ∃t,PSs (fw CX0 P w K mg base N qual (ac st) f cdv A outer s H E).nox (ah st) t∧t { nx:=fun _ H'=>Q .non H',rt:=Q } (start N vs) H):im P w K mg base CX0 (k+1) f fd ps sp:=by
 obtain ⟨oc,od,kV,doc,pm,an,cdv,ct,osl,rfl,lk,hcd⟩:=F.ex
 refine yq lk hcd S len fun A outer s H vs Q E hr hsp=>?_
 obtain ⟨t,h,q⟩:=hbody cdv A outer s H vs Q E hr hsp
 exact ⟨t,h.nox,q⟩
theorem Fun.binds {x qual:Str} {st:Stmt} {f:Addr} {fd:FuncData} {ps:List Str} (F:Fun K x qual st f fd)
  (h:∀(kV doc pm:Value) (an:Option Addr) (cdv ct:Value) (us:List Value),us.length=ps.length→bindArgs (PySem.W.fnOf x qual (aN st) (ah st) (ac st) .none kV doc pm an cdv ct) ⟨us,[]⟩=pure (ps.zip us)):Binds K fd ps []:=by
 obtain ⟨oc,od,kV,doc,pm,an,cdv,ct,osl,rfl,lk,hcd⟩:=F.ex
 exact .all (h kV doc pm an cdv ct)
theorem qr {x qual:Str} {st:Stmt} {f:Addr} {oc:Value} {od an:Option Addr} {osl:Array (Option Value)} {kV doc pm cdv ct:Value} (l:K.lookup f=some ⟨oc,od,.func (PySem.W.fnOf x qual (aN st) (ah st) (ac st) .none kV doc pm an cdv ct),osl⟩)
  (c:PySem.W.codeIn K cdv qual=true) (k:PySem.W.keepIn K (.ref f)=true):Fun K x qual st f (PySem.W.fnOf x qual (aN st) (ah st) (ac st) .none kV doc pm an cdv ct):=⟨⟨oc,od,kV,doc,pm,an,cdv,ct,osl,rfl,l,c⟩,k⟩
end
theorem oT {n:Nat} (h:n≤1000):n<sizeLine:=Nat.lt_of_le_of_lt h (by decide)
section
variable {X:Cx}
end
noncomputable def Same (H H':Hp):Prop:=∀b o,H b=some o→H' b=some o
theorem Same.seq {K:PySem.W.Frag} {H H':Hp} {a:Addr} {xs:List V} (e:Same H H') (h:SqL K H a xs):SqL K H' a xs:=by
 rcases h with (h|⟨o,h⟩)|h
 ·exact .inl (.inl (e _ _ h))
 ·exact .inl (.inr ⟨o,e _ _ h⟩)
 ·exact .inr h
end L2
set_option Elab.async false
set_option linter.all false
set_option maxRecDepth 100000
namespace HX
open PySem PySem.Spec PyProof.Rows L2
section
variable {X:Cx} {a b c:Expr} {ta tb tc:TE} {pos:Pos}
noncomputable def CBig (j:Int):Prop:=0<j∧j.natAbs.log2<9000
noncomputable def CMB (i j:Int):Prop:=i.natAbs<2 ^ 6000∧j.natAbs<2 ^ 6000∨(-(2 ^ 64)<i∧i<2 ^ 64)∨(-(2 ^ 64)<j∧j<2 ^ 64)
theorem mI {i:Int} {n:Nat} (h:i.natAbs<2 ^ n):Builtin.Int.intBits i≤n:=by
 unfold Builtin.Int.intBits
 split
 ·exact Nat.zero_le _
 ·rename_i hz
  have h0:i.natAbs≠0:=by
   intro z
   apply hz
   have:i=0:=by omega
   simp [this]
  have:i.natAbs.log2<n:=(Nat.log2_lt h0).mpr h
  omega
theorem CMB.ok {i j:Int} (h:CMB i j):IntMulOk i j:=by
 rcases h with ⟨h1,h2⟩|⟨h1,h2⟩|⟨h1,h2⟩
 ·exact IntMulOk.of_le (mI h1) (mI h2) (by decide)
 ·exact .of_left (intBits_le_64 h1 h2)
 ·exact .of_right (intBits_le_64 h1 h2)
theorem CBig.of {j:Int} (h:0<j) (h2:j<2 ^ 8999):CBig j:=by
 refine ⟨h,?_⟩
 have h0:j.natAbs≠0:=by omega
 have:j.natAbs<2 ^ 8999:=by
  have e:((2:Int) ^ 8999)=((2 ^ 8999:Nat):Int):=by rw [Int.natCast_pow];rfl
  rw [e] at h2
  generalize (2:Nat) ^ 8999=z at h2 ⊢
  omega
 have:=(Nat.log2_lt h0).mpr this
 omega
theorem tU:OpR X (binaryOp .Mult) (rI CMB fun i j=>.int (i*j)):=opI fun _ _ _ _ _ _ _ hc q=>mul_int q hc.ok
theorem pI:OpR X (binaryOp .FloorDiv) (rI (fun _ j=>CBig j) fun i j=>.int (i/j)):=opI fun i j _ _ _ _ _ hc q=>by
 refine floordiv_int (by have:=hc.1;omega) ?_ (.inl (PyProof.noPylong_of_log2 hc.2))
 rw [Int.fdiv_eq_ediv_of_nonneg _ (Int.le_of_lt hc.1)]
 exact q
theorem jQ:bR X (.builtin "divmod") (fun xs H Q=>∃i j,xs=[.int i,.int j]∧CBig j∧∀p,H p=none→Q (.ref p) (upd H p (.tup [.int (i/j),.int (i % j)]))):=by
 intro pins s σ H xs us Q I r h
 obtain ⟨i,j,rfl,hc,q⟩:=h
 obtain ⟨u,v,rfl,⟨t,rfl⟩,⟨t',rfl⟩⟩:=mQ r
 refine divmod_int (by have:=hc.1;omega) ?_ (.inl (PyProof.noPylong_of_log2 hc.2))
 rw [Int.fdiv_eq_ediv_of_nonneg _ (Int.le_of_lt hc.1),Int.fmod_eq_emod_of_nonneg _ (Int.le_of_lt hc.1)]
 have hf:H s.heap.objs.size=none:=I.hok.fresh (Nat.le_refl _)
 refine ⟨.ref s.heap.objs.size,upd H s.heap.objs.size (.tup [.int (i/j),.int (i % j)]),I.laid (t':=s.toks+1+1) (fun b u e=>Heap.get?_push_of_some _ e) (Nat.le_refl _) ?_,rfl,q _ hf⟩
 exact ⟨by show 2≤sizeLine;decide,[_,_],.cons ⟨_,rfl⟩ (.cons ⟨_,rfl⟩ .nil),⟨_,Heap.get?_push_size _ rfl,rfl,_,rfl⟩⟩
theorem kA {x:V} {v:Value} (r:RelV x v) (k:Bool):(v == Value.bool k)=decide (x=.bl k):=by
 cases x with
 | non=>cases r;rfl
 | bl b=>cases r;cases b <;> cases k <;> rfl
 | int _=>obtain ⟨t,rfl⟩:=r;rfl
 | str _=>obtain ⟨t,rfl⟩:=r;rfl
 | byt _=>obtain ⟨t,rfl⟩:=r;rfl
 | flt _=>obtain ⟨t,rfl⟩:=r;rfl
 | ref _=>cases r;rfl
 | ty _=>cases r;rfl
theorem gN {x:V} {v:Value} (r:RelV x v) (k:Bool):plainIs v (.bool k)=true:=by
 cases x with
 | non=>cases r;rfl
 | bl b=>cases r;rfl
 | int _=>obtain ⟨t,rfl⟩:=r;rfl
 | str _=>obtain ⟨t,rfl⟩:=r;rfl
 | byt _=>obtain ⟨t,rfl⟩:=r;rfl
 | flt _=>obtain ⟨t,rfl⟩:=r;rfl
 | ref _=>cases r;rfl
 | ty _=>cases r;rfl
noncomputable def zK:R2:=fun x y H Q=>∃k,y=.bl k∧Q (.bl (decide (x=.bl k))) H
noncomputable def s_:R2:=fun x y H Q=>∃k,y=.bl k∧Q (.bl (!decide (x=.bl k))) H
theorem wM:OpR X (compareOp .Is) zK:=by
 intro pins s σ H x y v u Q I rx ry h
 obtain ⟨k,rfl,q⟩:=h
 cases ry
 exact wpAny_is_plain (gN rx k) ⟨.bl _,H,I,by rw [kA rx k];rfl,q⟩
theorem o6:OpR X (compareOp .IsNot) s_:=by
 intro pins s σ H x y v u Q I rx ry h
 obtain ⟨k,rfl,q⟩:=h
 cases ry
 exact wpAny_isNot_plain (gN rx k) ⟨.bl _,H,I,by rw [kA rx k];rfl,q⟩
noncomputable def dv (c n:String):Bool:=c == n || (n == "bool" && c == "int")
noncomputable def yX (n c:String):Option Bool:=if (Value.type n == Value.type c)=true then some true else if PySem.W.kitMeta c=true then (fastBuiltinMro n).map (·.contains (.type c)) else none
theorem tV (K:PySem.W.Frag) (n c:String):PySem.W.kitOne K (.type n) (.type c)=yX n c:=rfl
theorem pP:∀c∈["int","bool","str","tuple","list","dict"],∀n∈["NoneType","bool","int","str","list","tuple","dict"],yX n c=some (dv c n):=by decide +kernel
theorem rG (K:PySem.W.Frag):∀c∈["int","bool","str","tuple","list","dict"],∀n∈["NoneType","bool","int","str","list","tuple","dict"],PySem.W.kitOne K (.type n) (.type c)=some (dv c n):=by
 intro c hc n hn
 rw [tV]
 exact pP c hc n hn
end
end HX
namespace HX
open PySem PySem.Spec PyProof.Rows L2
theorem tG {X:Cx} {pins:List (Addr × Obj)} {σ:L2.St} {H:Hp} {s:Shared} (I:Inv X pins σ H s):sysModules<s.heap.objs.size :=
 Nat.lt_trans (by decide) (show mainGlobals<s.heap.objs.size from (I.mod.glob.keeps I.bk).lt)
noncomputable def v9:TE:=fun _ H Q=>∀p,H p=none→Q (.ref p) (upd H p (.dK []))
theorem pC {X:Cx} {pos:Pos}:PE X (.Dict [] [] pos) v9:=fun pins s σ H Q I h=>by
 refine wpAny_Dict_empty ⟨.ref s.heap.objs.size,_,I.laid (a:=s.heap.objs.size) (o:=.dK []) (t':=s.toks) (fun _ _ q=>Heap.get?_push_of_some _ q) (Nat.le_refl _) ?_,rfl,h _ (I.hok.fresh (Nat.le_refl _))⟩
 exact ⟨Nat.zero_le _,beq_eq_false_iff_ne.mpr (Ne.symm (Nat.ne_of_lt (tG I))),[],.nil,Heap.DictOf.new _⟩
end HX
set_option Elab.async false
set_option linter.all false
set_option maxRecDepth 100000
namespace HX
open PySem PySem.Spec PyProof.Rows L2
noncomputable abbrev D:=PyData
mutual
noncomputable def Den (K:PySem.W.Frag) (H:Hp):D→V→Prop
 | .none,v=>v=.non
 | .bool b,v=>v=.bl b
 | .int i,v=>v=.int i
 | .str x,v=>v=.str x
 | .tuple ds,v=>∃a xs,v=.ref a∧SqT K H a xs∧Dens K H ds xs
 | .list ds,v=>∃a xs,v=.ref a∧SqL K H a xs∧Dens K H ds xs
 | .dict _,_=>False
noncomputable def Dens (K:PySem.W.Frag) (H:Hp):List D→List V→Prop
 | [],xs=>xs=[]
 | d::ds,xs=>∃x r,xs=x::r∧Den K H d x∧Dens K H ds r
end
section
variable {K:PySem.W.Frag} {H H':Hp} {v:V} {xs:List V}
theorem den_int {i:Int}:Den K H (.int i) v↔v=.int i:=by unfold Den;exact Iff.rfl
theorem den_bl {i:Bool}:Den K H (.bool i) v↔v=.bl i:=by unfold Den;exact Iff.rfl
theorem den_str {i:Str}:Den K H (.str i) v↔v=.str i:=by unfold Den;exact Iff.rfl
theorem den_non:Den K H .none v↔v=.non:=by unfold Den;exact Iff.rfl
theorem den_tup {ds:List D}:Den K H (.tuple ds) v↔∃a xs,v=.ref a∧SqT K H a xs∧Dens K H ds xs:=by rw [Den]
theorem den_lst {ds:List D}:Den K H (.list ds) v↔∃a xs,v=.ref a∧SqL K H a xs∧Dens K H ds xs:=by rw [Den]
theorem kX {ds:List (D × D)}:Den K H (.dict ds) v↔False:=by rw [Den]
theorem dens_nil:Dens K H [] xs↔xs=[]:=by unfold Dens;exact Iff.rfl
theorem fK {d:D} {ds:List D}:Dens K H (d::ds) xs↔∃x r,xs=x::r∧Den K H d x∧Dens K H ds r:=by rw [Dens]
theorem dens_cons' {d:D} {ds:List D} {x:V}:Dens K H (d::ds) (x::xs)↔Den K H d x∧Dens K H ds xs:=by
 rw [fK]
 constructor
 ·rintro ⟨_,_,e,h1,h2⟩
  cases e
  exact ⟨h1,h2⟩
 ·rintro ⟨h1,h2⟩
  exact ⟨_,_,rfl,h1,h2⟩
theorem pU {a:Addr} (e:Same H H') (h:SqT K H a xs):SqT K H' a xs:=by
 rcases h with (h|⟨o,h⟩)|h
 ·exact .inl (.inl (e _ _ h))
 ·exact .inl (.inr ⟨o,e _ _ h⟩)
 ·exact .inr h
end
mutual
theorem Den.mono {K:PySem.W.Frag} {H H':Hp} (e:Same H H'):∀ {d:D} {v:V},Den K H d v→Den K H' d v
 | .none,v,h=>by rw [den_non] at h ⊢;exact h
 | .bool b,v,h=>by rw [den_bl] at h ⊢;exact h
 | .int b,v,h=>by rw [den_int] at h ⊢;exact h
 | .str b,v,h=>by rw [den_str] at h ⊢;exact h
 | .dict b,v,h=>by rw [kX] at h;exact h.elim
 | .tuple ds,v,h=>by
  rw [den_tup] at h ⊢
  obtain ⟨a,xs,h1,h2,h3⟩:=h
  exact ⟨a,xs,h1,pU e h2,Dens.mono e h3⟩
 | .list ds,v,h=>by
  rw [den_lst] at h ⊢
  obtain ⟨a,xs,h1,h2,h3⟩:=h
  exact ⟨a,xs,h1,Same.seq e h2,Dens.mono e h3⟩
theorem Dens.mono {K:PySem.W.Frag} {H H':Hp} (e:Same H H'):∀ {ds:List D} {xs:List V},Dens K H ds xs→Dens K H' ds xs
 | [],xs,h=>by rw [dens_nil] at h ⊢;exact h
 | d::ds,xs,h=>by
  rw [fK] at h ⊢
  obtain ⟨x,r,h1,h2,h3⟩:=h
  exact ⟨x,r,h1,Den.mono e h2,Dens.mono e h3⟩
end
section
variable {X:Cx} {pins:List (Addr × Obj)} {σ:L2.St} {H:Hp} {s:Shared}
mutual
theorem Den.reads (I:Inv X pins σ H s):∀(d:D) (v:V) (u:Value),Den X.K H d v→RelV v u→∃as,Reads s.heap u d as
 | .none,v,u,h,r=>by rw [den_non] at h;subst h;cases r;exact ⟨_,.none⟩
 | .bool b,v,u,h,r=>by rw [den_bl] at h;subst h;cases r;exact ⟨_,.bool b⟩
 | .int b,v,u,h,r=>by rw [den_int] at h;subst h;obtain ⟨t,rfl⟩:=r;exact ⟨_,.int b t⟩
 | .str b,v,u,h,r=>by rw [den_str] at h;subst h;obtain ⟨t,rfl⟩:=r;exact ⟨_,.str b t⟩
 | .dict b,v,u,h,r=>by rw [kX] at h;exact h.elim
 | .tuple ds,v,u,h,r=>by
  rw [den_tup] at h
  obtain ⟨a,xs,rfl,h2,h3⟩:=h
  cases r
  obtain ⟨its,rv,⟨o,ho,hc,n,hd⟩,_⟩:=I.tuple h2
  obtain ⟨as,hr⟩:=Dens.reads I ds xs its h3 rv
  exact ⟨as,.tuple ho hc hd (by simpa using hr)⟩
 | .list ds,v,u,h,r=>by
  rw [den_lst] at h
  obtain ⟨a,xs,rfl,h2,h3⟩:=h
  cases r
  obtain ⟨its,rv,p,_⟩:=I.list h2
  obtain ⟨o,ho,hc,n,hd⟩:=p.isList
  obtain ⟨as,hr⟩:=Dens.reads I ds xs its h3 rv
  exact ⟨_,.list ho hc hd (by simpa using hr)⟩
theorem Dens.reads (I:Inv X pins σ H s):∀(ds:List D) (xs:List V) (us:List Value),Dens X.K H ds xs→Vals xs us→∃as,ReadsAll s.heap us ds as
 | [],xs,us,h,r=>by rw [dens_nil] at h;subst h;cases r;exact ⟨_,.nil⟩
 | d::ds,xs,us,h,r=>by
  rw [fK] at h
  obtain ⟨x,q,rfl,h2,h3⟩:=h
  cases r with
  | cons r1 r2 =>
   obtain ⟨as,h4⟩:=Den.reads I d x _ h2 r1
   obtain ⟨bs,h5⟩:=Dens.reads I ds q _ h3 r2
   exact ⟨_,.cons h4 h5⟩
end
end
section
variable {X:Cx}
noncomputable def y9 (K:PySem.W.Frag):R2:=fun x y H Q=>∃d e,Den K H d x∧Den K H e y∧SeqAt.shaped d=true∧SeqAt.shaped e=true∧Q (.bl (PyData.eqv d e)) H
noncomputable def zi (K:PySem.W.Frag):R2:=fun x y H Q=>∃d e,Den K H d x∧Den K H e y∧SeqAt.shaped d=true∧SeqAt.shaped e=true∧Q (.bl (!PyData.eqv d e)) H
theorem xa (hu:X.A.units+64<cLine):OpR X (compareOp .Eq) (y9 X.K):=by
 intro pins s σ H x y v u Q I rx ry h
 obtain ⟨d,e,h1,h2,h3,h4,q⟩:=h
 obtain ⟨as,ra⟩:=Den.reads I d x v h1 rx
 obtain ⟨bs,rb⟩:=Den.reads I e y u h2 ry
 exact eq_dataH ra rb h3 h4 hu ⟨.bl _,H,I,rfl,q⟩
theorem wv (hu:X.A.units+64<cLine):OpR X (compareOp .NotEq) (zi X.K):=by
 intro pins s σ H x y v u Q I rx ry h
 obtain ⟨d,e,h1,h2,h3,h4,q⟩:=h
 obtain ⟨as,ra⟩:=Den.reads I d x v h1 rx
 obtain ⟨bs,rb⟩:=Den.reads I e y u h2 ry
 exact ne_dataH ra rb h3 h4 hu ⟨.bl _,H,I,rfl,q⟩
structure Has (P:Program) (w:World) (K:PySem.W.Frag) (mg:Str→Option Value) (base:Heap) (k:Nat) (x:Str) (ps:List Str) (sp:Sp):Prop where
 ex:∃(f:Addr) (fd:FuncData),im P w K mg base CX0 k f fd ps sp∧mg x=some (.ref f)∧PySem.W.keepIn K (.ref f)=true∧Binds K fd ps []
structure At (K:PySem.W.Frag) (mg:Str→Option Value) (x:Str) (st:Stmt) (ps:List Str):Prop where
 ex:∃(f:Addr) (fd:FuncData),Fun K x x st f fd∧mg x=some (.ref f)∧Binds K fd ps []
theorem At.mk' {K:PySem.W.Frag} {mg:Str→Option Value} {h:Heap} {x:Str} {st:Stmt} {ps:List Str} {f:Addr} {oc:Value} {od an:Option Addr} {osl:Array (Option Value)} {kV doc pm cdv ct:Value} (X:K.In h) (G:h.Ns mainGlobals mg)
  (hb:∀(kV doc pm:Value) (an:Option Addr) (cdv ct:Value) (us:List Value),us.length=ps.length→bindArgs (PySem.W.fnOf x x (aN st) (ah st) (ac st) .none kV doc pm an cdv ct) ⟨us,[]⟩=pure (ps.zip us))
  (a:PySem.W.nsIn K mainGlobals x=some (some (.ref f))) (l:K.lookup f=some ⟨oc,od,.func (PySem.W.fnOf x x (aN st) (ah st) (ac st) .none kV doc pm an cdv ct),osl⟩)
  (c:PySem.W.codeIn K cdv x=true) (k:PySem.W.keepIn K (.ref f)=true):At K mg x st ps:=by
 have F:=qr (st:=st) l c k
 exact ⟨f,_,F,PySem.W.mg_of X G a,F.binds hb⟩
theorem At.ok {P:Program} {w:World} {K:PySem.W.Frag} {mg:Str→Option Value} {base:Heap} {x:Str} {st:Stmt} {N ps:List Str} {k:Nat} {sp:Sp} (F:At K mg x st ps) (S:aM N ps (ac st)) (len:∀vs H Q E,sp vs H Q E→vs.length=ps.length)
  (hbody:∀(f:Addr) (cdv:Value) (A:Around) (outer:List Env) (s:Shared) (H:Hp) (vs:List V) (Q:VK) (E:XK),Room k (A.deeper (envOfC x (ac st) s.heap.objs.size f cdv))→sp vs H Q E →
   ∃t,PSs (fw CX0 P w K mg base N x (ac st) f cdv A outer s H E).nox (ah st) t∧t { nx:=fun _ H'=>Q .non H',rt:=Q } (start N vs) H):Has P w K mg base (k+1) x ps sp:=by
 obtain ⟨f,fd,Ff,m,b⟩:=F.ex
 exact ⟨f,fd,Ff.ok S len (fun cdv A outer s H vs Q E hr h=>hbody f cdv A outer s H vs Q E hr h),m,Ff.kp,b⟩
theorem xf {k:Nat} {x:Str} {ps:List Str} {sp:Sp} {p pos:Pos} {e:Expr} {es:List Expr} {t:TA} (F:Has X.prog X.w X.K X.mg X.base k x ps sp) (hr:Room k X.A) (ha:PA X (e::es) t)
  (hg:Gl X x:=by rfl) (hdb:(x == ("__debug__":Str))=false:=by decide) (he:starEach (e::es) X.env=(false,eval e X.env)::starEach es X.env:=by rfl) (hpl:(backTo pos (starEach es X.env)).any (·.1)=false:=by rfl) :
  PE X (.Call (.Name x p) (e::es) [] pos) (jd sp [] E0 t):=by
 obtain ⟨f,fd,F,m,kp,b⟩:=F.ex
 exact tE F hr hg m kp b .nil t3 ha hdb he hpl
theorem sG {k:Nat} {x:Str} {ps:List Str} {sp:Sp} {p pos:Pos} (F:Has X.prog X.w X.K X.mg X.base k x ps sp) (hr:Room k X.A)
  (hg:Gl X x:=by rfl) (hdb:(x == ("__debug__":Str))=false:=by decide) :
  PE X (.Call (.Name x p) [] [] pos) (jd sp [] E0 mj):=by
 obtain ⟨f,fd,F,m,kp,b⟩:=F.ex
 exact qX F hr hg m kp b .nil t3 hdb
end
end HX
set_option Elab.async false
set_option linter.all false
set_option maxRecDepth 100000
namespace HX
open PySem PySem.Spec PyProof.Rows L2
noncomputable def ae:Expr→Bool
 | .Starred ..=>false
 | _=>true
theorem bi {e:Expr} {es:List Expr} {env:Env} (h:ae e=true):starEach (e::es) env=(false,eval e env)::starEach es env:=by
 cases e <;> first|rfl|cases h
theorem kJ {env:Env}:∀ {es:List Expr},es.all ae=true→(starEach es env).any (·.1)=false
 | [],_=>rfl
 | e::es,h=>by
  rw [List.all_cons,Bool.and_eq_true] at h
  rw [bi h.1,List.any_cons,kJ h.2]
  rfl
noncomputable def eO:Expr→Bool
 | .Slice ..=>false
 | _=>true
theorem yv {b:Expr} (h:eO b=true):nG b:=fun o i=>by
 cases b <;> first|rfl|cases h
section
variable {X:Cx}
theorem pac {e:Expr} {es:List Expr} {te:TE} {t:TA} (ha:PE X e te) (hr:PA X es t) (h:ae e=true:=by rfl):PA X (e::es) (fT te t):=tz ha hr (bi h)
theorem pw {a b:Expr} {ta tb:TE} {pos:Pos} {r:R2} (hr:IxR X r) (ha:PE X a ta) (hb:PE X b tb) (hs:eO b=true:=by rfl):PE X (.Subscript a b pos) (tOp r ta tb):=xK hr ha hb (yv hs)
theorem g9 {env:Env} {pos:Pos} {es:List Expr} (h:es.all ae=true):(backTo pos (starEach es env)).any (·.1)=false:=by
 have:=kJ (env:=env) h
 unfold backTo
 rw [List.any_map]
 exact this
theorem tY {k:Nat} {x:Str} {ps:List Str} {sp:Sp} {p pos:Pos} {e:Expr} {es:List Expr} {t:TA} (F:Has X.prog X.w X.K X.mg X.base k x ps sp) (hr:Room k X.A) (ha:PA X (e::es) t)
  (hg:Gl X x:=by rfl) (hdb:(x == ("__debug__":Str))=false:=by decide) (he:ae e=true:=by rfl) (hpl:es.all ae=true:=by rfl) :
  PE X (.Call (.Name x p) (e::es) [] pos) (jd sp [] E0 t):=xf F hr ha hg hdb (bi he) (g9 hpl)
theorem jh {id:String} {r:List V→Hp→VK→Prop} {x:Str} {p pos:Pos} {e:Expr} {es:List Expr} {t:TA} (hc:bR X (.builtin id) r) (hg:Gl X x) (hm:X.mg x=none) (hv:bootBuiltins x=some (.builtin id)) (ha:PA X (e::es) t) (hn:x≠"__name__":=by decide) (hdb:(x == ("__debug__":Str))=false:=by decide)
  (he:ae e=true:=by rfl) (hpl:es.all ae=true:=by rfl):PE X (.Call (.Name x p) (e::es) [] pos) (tCB r t):=rD hc hg hm hv ha hn hdb (bi he) (g9 hpl)
theorem em {T:String} {r:List V→Hp→VK→Prop} {x:Str} {p pos:Pos} {e:Expr} {es:List Expr} {t:TA} (hc:bR X (.type T) r) (hg:Gl X x) (hm:X.mg x=none) (hv:bootBuiltins x=some (.type T)) (ha:PA X (e::es) t) (hn:x≠"__name__":=by decide) (hdb:(x == ("__debug__":Str))=false:=by decide)
  (he:ae e=true:=by rfl) (hpl:es.all ae=true:=by rfl):PE X (.Call (.Name x p) (e::es) [] pos) (tCB r t):=n9 hc hg hm hv ha hn hdb (bi he) (g9 hpl)
end
end HX
set_option Elab.async false
set_option linter.all false
set_option maxRecDepth 100000
namespace L2
open PySem PySem.Spec PyProof.Rows
section
variable {κ:Type} [DecidableEq κ]
noncomputable def dN (kvs:List (κ × V)) (k:κ):Option V:=(kvs.find? fun kv=>decide (kv.1=k)).map (·.2)
noncomputable def cy (kvs:List (κ × V)) (k:κ) (v:V):List (κ × V) :=
 if (kvs.any fun kv=>decide (kv.1=k))=true then kvs.map (fun kv=>if kv.1=k then (kv.1,v) else kv) else kvs++[(k,v)]
theorem eM {p:κ × V} {r:List (κ × V)} {k:κ} (e:p.1=k):dN (p::r) k=some p.2:=by simp [dN,List.find?_cons,e]
theorem eE {p:κ × V} {r:List (κ × V)} {k:κ} (e:¬p.1=k):dN (p::r) k=dN r k:=by simp [dN,List.find?_cons,e]
theorem lg (k:κ):∀kvs:List (κ × V),(kvs.any fun kv=>decide (kv.1=k))=(dN kvs k).isSome
 | []=>rfl
 | p::r=>by
  rw [List.any_cons]
  by_cases e:p.1=k
  ·simp only [eM e,decide_eq_true e,Bool.true_or,Option.isSome_some]
  ·rw [eE e,decide_eq_false e,Bool.false_or];exact lg k r
theorem ck (kvs:List (κ × V)) (k:κ) (v:V):(cy kvs k v).length≤kvs.length+1:=by
 unfold cy
 split
 ·rw [List.length_map];omega
 ·rw [List.length_append,List.length_cons,List.length_nil];omega
theorem RelO.isSome_eq {o:Option V} {u:Option Value} (r:RelO o u):o.isSome=u.isSome:=by
 cases o with
 | none=>cases u with
  | none=>rfl
  | some _=>exact (show False from r).elim
 | some _=>cases u with
  | none=>exact (show False from r).elim
  | some _=>rfl
theorem KV.val {kvs:List (κ × V)} {vs:List (κ × Value)} (r:KV kvs vs) (k:κ):RelO (dN kvs k) (valueAt vs k):=by
 unfold KV at r
 induction r with
 | nil=>exact True.intro
 | @cons p q ps qs h t ih =>
  obtain ⟨h1,h2⟩:=h
  by_cases e:p.1=k
  ·have e':q.1=k:=h1.symm.trans e
   have b:valueAt (q::qs) k=some q.2:=by simp [valueAt,List.find?_cons,e']
   rw [eM e,b];exact h2
  ·have e':¬q.1=k:=fun z=>e (h1.trans z)
   have b:valueAt (q::qs) k=valueAt qs k:=by simp [valueAt,List.find?_cons,e']
   rw [eE e,b];exact ih
theorem KV.any {kvs:List (κ × V)} {vs:List (κ × Value)} (r:KV kvs vs) (k:κ):(kvs.any fun kv=>decide (kv.1=k))=vs.any fun kv=>decide (kv.1=k):=by
 unfold KV at r
 induction r with
 | nil=>rfl
 | cons h t ih=>rw [List.any_cons,List.any_cons,ih,h.1]
theorem KV.repl {kvs:List (κ × V)} {vs:List (κ × Value)} (r:KV kvs vs) (k:κ) {y:V} {u:Value} (ry:RelV y u) :
  KV (kvs.map fun kv=>if kv.1=k then (kv.1,y) else kv) (vs.map fun kv=>if kv.1=k then (kv.1,u) else kv):=by
 unfold KV at r ⊢
 induction r with
 | nil=>exact .nil
 | @cons p q ps qs h t ih =>
  rw [List.map_cons,List.map_cons]
  refine .cons ?_ ih
  obtain ⟨h1,h2⟩:=h
  by_cases e:p.1=k
  ·rw [if_pos e,if_pos (h1.symm.trans e)];exact ⟨h1,ry⟩
  ·rw [if_neg e,if_neg (fun z=>e (h1.trans z))];exact ⟨h1,h2⟩
theorem KV.put {kvs:List (κ × V)} {vs:List (κ × Value)} (r:KV kvs vs) (k:κ) {y:V} {u:Value} (ry:RelV y u):KV (cy kvs k y) (stored vs k u):=by
 unfold cy stored
 rw [r.any k]
 by_cases e:(vs.any fun kv=>decide (kv.1=k))=true
 ·rw [if_pos e,if_pos e];exact r.repl k ry
 ·rw [if_neg e,if_neg e];exact Paired.snoc r ⟨rfl,ry⟩
theorem KV.length {kvs:List (κ × V)} {vs:List (κ × Value)} (r:KV kvs vs):kvs.length=vs.length:=Paired.length r
end
theorem hJ {P:Program} {w:World} {k:Key} {u:Value} (r:RelV (kV k) u):(ak P w).is k u=true:=by
 cases k with
 | inl i=>obtain ⟨t,e⟩:=(show ∃t,u=Value.int i t from r);subst e;exact kg P w i t
 | inr x=>obtain ⟨t,e⟩:=(show ∃t,u=Value.str x t from r);subst e;exact lr P w x t
theorem iW {P:Program} {w:World}:∀ {ks:List Key} {us:List Value},Vals (ks.map kV) us→ItemsAre (ak P w) ks us
 | [],_,r=>by rw [List.map_nil] at r;cases r;exact .nil
 | k::ks,_,r=>by
  rw [List.map_cons] at r
  cases r with
  | cons h t=>exact .cons (hJ h) (iW t)
noncomputable abbrev KT (H:Hp):List (List Key × V)→List (List Key × Addr × Value)→Prop:=Paired fun p q=>p.1=q.1∧H q.2.1=some (.tup (p.1.map kV))∧RelV p.2 q.2.2
theorem KT.val {H:Hp} {kvs:List (List Key × V)} {xs:List (List Key × Addr × Value)} (r:KT H kvs xs) (k:List Key):RelO (dN kvs k) ((atKey xs k).map (·.2)):=by
 induction r with
 | nil=>exact True.intro
 | @cons p q ps qs h t ih =>
  obtain ⟨h1,_,h2⟩:=h
  by_cases e:p.1=k
  ·have e':q.1=k:=h1.symm.trans e
   have b:atKey (q::qs) k=some q.2:=by simp [atKey,List.find?_cons,e']
   rw [eM e,b];exact h2
  ·have e':¬q.1=k:=fun z=>e (h1.trans z)
   have b:atKey (q::qs) k=atKey qs k:=by simp [atKey,List.find?_cons,e']
   rw [eE e,b];exact ih
theorem KT.repl {H:Hp} {kvs:List (List Key × V)} {xs:List (List Key × Addr × Value)} (r:KT H kvs xs) (k:List Key) {y:V} {u:Value} (ry:RelV y u) :
  KT H (kvs.map fun kv=>if kv.1=k then (kv.1,y) else kv) (xs.map (putAt k u)):=by
 induction r with
 | nil=>exact .nil
 | @cons p q ps qs h t ih =>
  rw [List.map_cons,List.map_cons]
  refine .cons ?_ ih
  obtain ⟨h1,h2,h3⟩:=h
  unfold putAt
  by_cases e:p.1=k
  ·rw [if_pos e,if_pos (h1.symm.trans e)];exact ⟨h1,h2,ry⟩
  ·rw [if_neg e,if_neg (fun z=>e (h1.trans z))];exact ⟨h1,h2,h3⟩
theorem KT.put {H:Hp} {kvs:List (List Key × V)} {xs:List (List Key × Addr × Value)} (r:KT H kvs xs) (k:List Key) {b:Addr} {y:V} {u:Value} (hb:H b=some (.tup (k.map kV))) (ry:RelV y u) :
  KT H (cy kvs k y) (storedH xs k b u):=by
 have e:(kvs.any fun kv=>decide (kv.1=k))=(atKey xs k).isSome:=by
  rw [lg,(r.val k).isSome_eq,Option.isSome_map]
 unfold cy storedH
 rw [e]
 by_cases q:(atKey xs k).isSome=true
 ·rw [if_pos q,if_pos q];exact r.repl k ry
 ·rw [if_neg q,if_neg q];exact Paired.snoc r ⟨rfl,hb,ry⟩
theorem KT.keeps {H H':Hp} {kvs:List (List Key × V)} {xs:List (List Key × Addr × Value)} (r:KT H kvs xs) (ht:∀b ys,H b=some (.tup ys)→H' b=some (.tup ys)):KT H' kvs xs :=
 Paired.mapP r fun _ _ z=>⟨z.1,ht _ _ z.2.1,z.2.2⟩
section
variable {P:Program} {w:World} {H:Hp} {h:Heap} {a:Addr}
theorem uI {u:HO} (ok:HOk P w H h) (e:Rd H a u):ObjOk P w H h a u:=e.ok ok
theorem iP {kvs:List (Key × V)} (ok:HOk P w H h) (e:Rd H a (.dK kvs)):kvs.length≤sizeLine∧(a == sysModules)=false∧∃vs,KV kvs vs∧h.DictOf (ak P w) a vs :=
 show ObjOk P w H h a (.dK kvs) from uI ok e
theorem fW {kvs:List (Key × V)} (ok:HOk P w H h) (e:H a=some (.dK kvs)):kvs.length≤sizeLine∧(a == sysModules)=false∧∃vs,KV kvs vs∧h.DictOf (ak P w) a vs:=iP ok (.inl e)
theorem gz {ks:List Key} (ok:HOk P w H h) (e:H a=some (.tup (ks.map kV))):(tupleKind (ak P w)).is h ks a:=by
 obtain ⟨_,its,r,o,h1,h2,n,h3⟩:=(show ObjOk P w H h a (.tup (ks.map kV)) from ok a _ e)
 exact ⟨o,its.toArray,n,h1,h2,h3,by simpa using iW r⟩
theorem nE {kvs:List (List Key × V)} (ok:HOk P w H h) (e:Rd H a (.dT kvs)):kvs.length≤sizeLine∧(a == sysModules)=false ∧
  ∃xs,KT H kvs xs∧h.DictOfH (tupleKind (ak P w)) a xs:=by
 obtain ⟨z,y,xs,r,o,es,ep,h1,h2,h3,h4,h5⟩:=(show ObjOk P w H h a (.dT kvs) from uI ok e)
 refine ⟨z,y,xs,r,o,es,ep,h1,h2,h3,h4,fun x hx=>?_,h5⟩
 have all:∀ {l:List (List Key × V)} {m:List (List Key × Addr × Value)},KT H l m→∀x∈m,(tupleKind (ak P w)).is h x.1 x.2.1:=by
  intro l m q
  induction q with
  | nil=>intro x hx;exact nomatch hx
  | @cons p q ps qs hq t ih =>
   intro x hx
   rcases List.mem_cons.mp hx with e|hx
   ·subst e
    exact gz ok (by rw [←hq.1];exact hq.2.1)
   ·exact ih x hx
 exact all r x hx
theorem xn {kvs:List (List Key × V)} (ok:HOk P w H h) (e:H a=some (.dT kvs)):kvs.length≤sizeLine∧(a == sysModules)=false ∧
  ∃xs,KT H kvs xs∧h.DictOfH (tupleKind (ak P w)) a xs:=nE ok (.inl e)
end
noncomputable def sN (H:Hp) (a:Addr) (y:V) (r:Option V):Prop :=
 (∃kvs k,Rd H a (.dK kvs)∧y=kV k∧r=dN kvs k)∨∃kvs k b,Rd H a (.dT kvs)∧y=.ref b∧H b=some (.tup (k.map kV))∧r=dN kvs k
noncomputable def DPut (H:Hp) (a:Addr) (y v:V) (H':Hp):Prop :=
 (∃kvs k,H a=some (.dK kvs)∧y=kV k∧kvs.length<sizeLine∧H'=upd H a (.dK (cy kvs k v))) ∨
 ∃kvs k b,H a=some (.dT kvs)∧y=.ref b∧H b=some (.tup (k.map kV))∧kvs.length<sizeLine∧H'=upd H a (.dT (cy kvs k v))
theorem DPut.k {H:Hp} {a:Addr} {kvs:List (Key × V)} {k:Key} {v:V} (e:H a=some (.dK kvs)) (hl:kvs.length<sizeLine):DPut H a (kV k) v (upd H a (.dK (cy kvs k v))):=.inl ⟨kvs,k,e,rfl,hl,rfl⟩
section
variable {X:Cx} {pins:List (Addr × Obj)} {σ:St} {H:Hp} {s:Shared} {a:Addr} {y v:V} {u r:Value} {o:Option V} {A:Around} {E:Value→Shared→Prop}
theorem Inv.big (I:Inv X pins σ H s):sysModules<s.heap.objs.size:=by
 have h:mainGlobals<s.heap.objs.size:=(I.mod.glob.keeps I.bk).lt
 exact Nat.lt_trans (by decide) h
theorem oF {Q:Value→Shared→Prop} (hu:A.units+1<cLine) (I:Inv X pins σ H s) (g:sN H a y (some v)) (ry:RelV y u) (h:∀w' s',Inv X pins σ H s'→RelV v w'→Q w' s') :
  wpAny (model X.prog X.w) A (getItem (.ref a) u) Q E s:=by
 rcases g with ⟨kvs,k,e,ey,l⟩|⟨kvs,k,b,e,ey,eb,l⟩
 ·subst ey
  obtain ⟨z,hd,vs,rel,dd⟩:=iP I.hok e
  obtain ⟨w',hw,rw'⟩:=RelO.some_of (v:=v) (o:=valueAt vs k) (by rw [l];exact rel.val k)
  exact wpAny_getItem_of (hJ ry) dd.mapOf hw (h w' _ (I.tok _) rw')
 ·subst ey
  cases (show u=Value.ref b from ry)
  obtain ⟨z,hd,xs,rel,dd⟩:=nE I.hok e
  obtain ⟨w',hw,rw'⟩:=RelO.some_of (v:=v) (o:=(atKey xs k).map (·.2)) (by rw [l];exact rel.val k)
  obtain ⟨p,hp,hp2⟩:=Option.map_eq_some_iff.mp hw
  refine wpAny_getItem_heap (tupleKind_room_in1 hu) (gz I.hok eb) dd hp ?_
  rw [hp2]
  exact h w' _ (I.tok _) rw'
theorem zg {Q:Value→Shared→Prop} (hu:A.units+1<cLine) (I:Inv X pins σ H s) (g:sN H a y o) (ry:RelV y u) (h:∀s',Inv X pins σ H s'→Q (.bool o.isSome) s') :
  wpAny (model X.prog X.w) A (compareOp .In u (.ref a)) Q E s:=by
 rcases g with ⟨kvs,k,e,ey,l⟩|⟨kvs,k,b,e,ey,eb,l⟩
 ·subst ey
  obtain ⟨z,hd,vs,rel,dd⟩:=iP I.hok e
  refine wpAny_in_of (hJ ry) hd dd.mapOf ?_
  rw [←(rel.val k).isSome_eq,←l]
  exact h _ (I.tok _)
 ·subst ey
  cases (show u=Value.ref b from ry)
  obtain ⟨z,hd,xs,rel,dd⟩:=nE I.hok e
  refine wpAny_in_heap (tupleKind_room_in1 hu) (gz I.hok eb) hd dd ?_
  have q:=(rel.val k).isSome_eq
  rw [Option.isSome_map] at q
  rw [←q,←l]
  exact h _ (I.tok _)
theorem su {Q:Value→Shared→Prop} (hu:A.units+1<cLine) (I:Inv X pins σ H s) (g:sN H a y o) (ry:RelV y u) (h:∀s',Inv X pins σ H s'→Q (.bool (!o.isSome)) s') :
  wpAny (model X.prog X.w) A (compareOp .NotIn u (.ref a)) Q E s:=by
 rcases g with ⟨kvs,k,e,ey,l⟩|⟨kvs,k,b,e,ey,eb,l⟩
 ·subst ey
  obtain ⟨z,hd,vs,rel,dd⟩:=iP I.hok e
  refine wpAny_notIn_of (hJ ry) hd dd.mapOf ?_
  rw [←(rel.val k).isSome_eq,←l]
  exact h _ (I.tok _)
 ·subst ey
  cases (show u=Value.ref b from ry)
  obtain ⟨z,hd,xs,rel,dd⟩:=nE I.hok e
  refine wpAny_notIn_heap (tupleKind_room_in1 hu) (gz I.hok eb) hd dd ?_
  have q:=(rel.val k).isSome_eq
  rw [Option.isSome_map] at q
  rw [←q,←l]
  exact h _ (I.tok _)
theorem gp {h':Heap} {t':Nat} {ob:HO} (I:Inv X pins σ H s) (mu:Mut (H a)) (hs:Heap.SameBut a s.heap h') (he:∃q,h'.get? a=some q) (new:ObjOk X.prog X.w (upd H a ob) h' a ob) :
  Inv X pins σ (upd H a ob) { s with heap:=h',toks:=t' } :=
 I.write (x:=a) (e:=a) mu (.inl rfl) (fun b q hb z=>(hs.2 b hb).trans z) he new
theorem gP {P:Program} {w:World} {H':Hp} {h':Heap} {kvs:List (Key × V)} {vs:List (Key × Value)} (z:kvs.length≤sizeLine) (hd:(a == sysModules)=false) (rel:KV kvs vs) (dd:h'.DictOf (ak P w) a vs) :
  ObjOk P w H' h' a (.dK kvs):=⟨z,hd,vs,rel,dd⟩
theorem ow {H':Hp} {Q:Unit→Shared→Prop} (hu:A.units+1<cLine) (I:Inv X pins σ H s) (g:DPut H a y v H') (ry:RelV y u) (rv:RelV v r) (h:∀s',Inv X pins σ H' s'→Q () s') :
  wpAny (model X.prog X.w) A (setItem (.ref a) u r) Q E s:=by
 rcases g with ⟨kvs,k,e,ey,l,eH⟩|⟨kvs,k,b,e,ey,eb,l,eH⟩
 ·subst ey eH
  obtain ⟨z,hd,vs,rel,dd⟩:=fW I.hok e
  have hz:vs.length≤sizeLine:=by rw [←rel.length];exact z
  have hl:(cy kvs k v).length≤sizeLine:=by have:=ck kvs k v;omega
  refine wpAny_setItem_pairs (hsz:=hz) (hJ ry) dd fun h' dd' hs=>h _ ?_
  have he:∃q,h'.get? a=some q:=let ⟨q,_,_,hq,_⟩:=dd';⟨q,hq⟩
  exact gp I (by rw [e];exact True.intro) hs he (gP hl hd (rel.put k rv) dd')
 ·subst ey eH
  cases (show u=Value.ref b from ry)
  obtain ⟨z,hd,xs,rel,dd⟩:=xn I.hok e
  have hz:xs.length≤sizeLine:=by rw [←Paired.length rel];exact z
  have hl:(cy kvs k v).length≤sizeLine:=by have:=ck kvs k v;omega
  refine wpAny_setItem_heap (hsz:=hz) (tupleKind_room_in1 hu) (gz I.hok eb) dd fun h' dd' hs=>h _ ?_
  obtain ⟨q,es,ep,hq,h2,h3,h4,_,h5⟩:=dd'
  refine gp I (by rw [e];exact True.intro) hs ⟨q,hq⟩ ⟨hl,hd,_,(rel.put k eb rv).keeps fun c ys ec=>?_,q,es,ep,hq,h2,h3,h4,h5⟩
  rw [ab (yU ec e (fun z=>nomatch z))]
  exact ec
end
section
variable {X:Cx} {pins:List (Addr × Obj)} {σ:St} {H:Hp} {s:Shared} {a:Addr} {kvs:List (Key × V)} {k:Key} {u:Value} {A:Around} {E:Value→Shared→Prop}
theorem sC {Q:Value→Shared→Prop} (I:Inv X pins σ H s) (e:H a=some (.dK kvs)) (h:∀s',Inv X pins σ (upd H a (.dK [])) s'→Q .none s'):wpAny (model X.prog X.w) A (call (.builtin "dict.clear") [.ref a]) Q E s:=by
 obtain ⟨z,hd,vs,rel,dd⟩:=fW I.hok e
 refine call_meetsIn PySem.F.slot_dict_clear dd.typeIs PySem.F.entry_dict_clear (PySem.F.args_dict_clear_1 _) (meets_dict_clear (ak X.prog X.w) a) ⟨vs,dd,by rw [←rel.length];exact z,fun h' dd' hs=>h _ ?_⟩
 have he:∃q,h'.get? a=some q:=let ⟨q,_,_,hq,_⟩:=dd';⟨q,hq⟩
 exact gp (t':=s.toks) I (by rw [e];exact True.intro) hs he (gP (Nat.zero_le _) hd .nil dd')
end
section
variable {X:Cx} {pins:List (Addr × Obj)} {σ:St} {H:Hp} {s:Shared} {a:Addr} {kvs:List (Key × V)} {A:Around} {E:Value→Shared→Prop}
theorem qc {Q:Value→Shared→Prop} (I:Inv X pins σ H s) (e:Rd H a (.dK kvs)) (h:∀p s',H p=none→Inv X pins σ (upd H p (.dK kvs)) s'→Q (.ref p) s'):wpAny (model X.prog X.w) A (call (.type "dict") [.ref a]) Q E s:=by
 obtain ⟨z,hd,vs,rel,dd⟩:=iP I.hok e
 refine kt_call_dict hd dd (by rw [←rel.length];exact z) fun h' dd' hs=>?_
 refine h _ _ (I.hok.fresh (Nat.le_refl _)) (I.laid (a:=s.heap.objs.size) (o:=.dK kvs) (t':=s.toks) (fun b q hq=>?_) (Nat.le_refl _) (gP z (beq_eq_false_iff_ne.mpr (Ne.symm (Nat.ne_of_lt I.big))) rel dd'))
 exact (hs.2 b (Nat.ne_of_lt (Heap.lt_size hq))).trans (Heap.get?_push_of_some _ hq)
end
end L2
set_option Elab.async false
set_option linter.all false
set_option maxRecDepth 100000
namespace FW
open PySem PySem.Spec PyProof.Rows L2
noncomputable def zP (xs:Array Nat):Prop:=∀i j,i<j→j<xs.size→xs.getD i 0<xs.getD j 0
structure yZ (b:Bool) (t:SetTable):Prop where
 ris:zP t.place
 led:t.led=b
noncomputable def toI:Value→Int
 | .int n _=>n
 | _=>0
section
variable {prog:Program} {w:World} {A:Around} {E:Value→Shared→Prop} {s:Shared}
noncomputable def EI (prog:Program) (w:World) (e:Int × Value):Prop:=∃(k:Int) (t:Tok),e=((intKind prog w).hash k,.int k t)
structure y4 (prog:Program) (w:World) (b:Bool) (es:Array (Int × Value)) (t:SetTable) (zs:List Int):Prop where
 el:∀e∈es.toList,EI prog w e
 nd:(es.toList.map fun e=>toI e.2).Nodup
 mem:∀i,i∈(es.toList.map fun e=>toI e.2)↔i∈zs
 ln:es.size≤zs.length
 fit:t.fits es.size=true
 ok:yZ b t
noncomputable abbrev xL (es:Array (Int × Value)) (ep:Nat) (t:SetTable):Obj:={ cls:=.type "set",dict:=none,data:=.set es ep t }
noncomputable def SetZ (prog:Program) (w:World) (b:Bool) (h:Heap) (a:Addr) (zs:List Int):Prop:=∃es ep t,h.get? a=some (xL es ep t)∧y4 prog w b es t zs
theorem EI.of {es:List (Int × Value)} (h:∀e∈es,EI prog w e):ElemsOf (intKind prog w) es:=fun e he=>by
 obtain ⟨k,t,rfl⟩:=h e he
 exact ⟨⟨k,intKind_is _ _ _ _,rfl⟩,rfl⟩
end
end FW
set_option Elab.async false
set_option linter.all false
set_option maxRecDepth 100000
namespace FW
open PySem PySem.Spec PyProof.Rows
noncomputable abbrev byT (w:World):Bool:=w.params.followText "set-order"
section
variable {prog:Program} {w:World} {A:Around} {E:Value→Shared→Prop} {s:Shared}
noncomputable def IsSI (h:Heap) (it:Addr) (first:Value) (i:Nat) (a:Addr) (n ep:Nat):Prop :=
 ∃o,h.get? it=some o∧o.cls=.type "set_iterator"∧o.data=.fields #[first,.int i 0,.ref a,.int n 0,.int ep 0]
theorem IsSI.typeIs {it:Addr} {first:Value} {i n ep:Nat} {a:Addr} (x:IsSI s.heap it first i a n ep):s.TypeIs (.ref it) "set_iterator":=let ⟨o,ho,hc,_⟩:=x;⟨o,ho,hc⟩
end
end FW
set_option Elab.async false
set_option linter.all false
set_option maxRecDepth 100000
namespace FW
open PySem PySem.Spec PyProof.Rows
section
variable {prog:Program} {w:World} {A:Around} {E:Value→Shared→Prop} {s:Shared}
theorem SetZ.at {b:Bool} {h h':Heap} {a:Addr} {zs:List Int} (x:SetZ prog w b h a zs) (e:∀o,h.get? a=some o→h'.get? a=some o):SetZ prog w b h' a zs :=
 let ⟨es,ep,t,ho,d⟩:=x;⟨es,ep,t,e _ ho,d⟩
set_option maxHeartbeats 3200000 in
end
end FW
set_option Elab.async false
set_option linter.all false
set_option maxRecDepth 100000
namespace L2
open PySem PySem.Spec PyProof.Rows
section
variable {X:Cx}
theorem tS:fillsInplaceSlot (.type "list") "add" (Operator.Add == .Add)=pure false:=by
 unfold fillsInplaceSlot
 show (typeLookup (.type "list") (dunderI "add") >>= fun fi=>pure (fi.isSome && !isSeqSlot fi))=pure false
 rw [F.slot_list_iadd.lookup]
 have e:isSeqSlot (some (.builtin "list.__iadd__"))=true:=by decide +kernel
 show (pure (true && !isSeqSlot (some (.builtin "list.__iadd__"))):Sem Bool)=pure false
 rw [e]
 rfl
theorem sv:seqSlot? (.type "list") (dunderI "add")=pure (some (.builtin "list.__iadd__")):=PySem.seqSlot_of F.slot_list_iadd.lookup (by decide +kernel)
theorem oU {M:Model} {A:Around} {E:Value→Shared→Prop} {s:Shared} {a b:Value} {Q:Value→Shared→Prop} (ha:s.TypeIs a "list") (hb:s.TypeIs b "list")
  (hc:wpAny M A (call (.builtin "list.__iadd__") [a,b]) Q E s):wpAny M A (inplaceOp .Add a b) Q E s:=by
 unfold inplaceOp
 refine wpAny_holding ?_
 refine wpAny_bind (wpAny_typeOf ha (wpAny_bind (wpAny_of_eq tS ?_)))
 show wpAny M A (if false=true then _ else _) Q E s
 rw [if_neg Bool.false_ne_true]
 refine wpAny_bind (wpAny_binaryOp1_none (nm:="add") ha hb noFill_list_add ?_)
 refine wpAny_bind (wpAny_of_eq sv ?_)
 exact wpAny_bind (wpAny_rule hc)
theorem wQ:PIp X .Add (fun x y H Q=>∃l b xs zs,x=.ref l∧y=.ref b∧H l=some (.lst xs)∧H b=some (.lst zs)∧xs.length+zs.length≤sizeLine∧Q (.ref l) (upd H l (.lst (xs++zs)))):=by
 intro pins s σ H x y v u Q I rx ry h
 obtain ⟨l,b,xs,zs,rfl,rfl,hH,hB,hz,q⟩:=h
 cases rx
 cases ry
 obtain ⟨z,its,n,r,hl,e⟩:=I.lstM hH
 obtain ⟨z2,its2,n2,r2,hl2,e2⟩:=I.lstM hB
 have hsz:its.toArray.size+its2.toArray.size≤sizeLine:=by rw [List.size_toArray,List.size_toArray];omega
 have hlong:¬(!its.toArray.isEmpty && Builtin.List.listTooLong (its.toArray.size+its2.toArray.size))=true:=by
  rw [kF hsz,Bool.and_false]
  exact Bool.false_ne_true
 refine oU ⟨_,e,rfl⟩ ⟨_,e2,rfl⟩ ?_
 refine call_meets F.slot_list_iadd ⟨_,e,rfl⟩ F.entry_list_iadd (F.args_list_iadd_2 _ _)
  (AutoSeq1.list___iadd___list_list_0 l its.toArray n b its2.toArray n2 hlong (by rw [List.size_toArray];omega) (by omega)) ⟨e,e2,?_⟩
 refine ⟨.ref l,_,I.lset (its':=its++its2) hH e (by simp) (r.append r2) ?_,rfl,q⟩
 rw [List.length_append]
 omega
end
end L2
set_option Elab.async false
set_option linter.all false
set_option maxRecDepth 100000
set_option maxHeartbeats 1000000
namespace L2
open PySem PySem.Spec PyProof.Rows
structure zU (h:Heap) (f:Addr) (qual:Str) (params:Arguments) (body:Expr) (scope:Scope) (cl:List (Str × Addr)):Prop where
 ex:∃pm c' ctv,h.get? f=some (PySem.W.kla_obj "<lambda>" qual params body scope cl pm c' ctv)∧h.CodeRec (.ref c') qual
structure xr (x:Str) (scope:Scope) (cl:List (Str × Addr)):Prop where
 kind:scope.kind=.function
 co:scope.isCoroutine=false
 gen:scope.isGenerator=false
 nocell:∀y∈scope.names,y.2≠.cell
 par:scope.names.lookup x=some .local
 free:∀y,scope.names.lookup y=some .free→∃c,cl.lookup y=some c
 inj:∀y z c,cl.lookup y=some c→cl.lookup z=some c→y=z
end L2
set_option Elab.async false
set_option linter.all false
set_option maxRecDepth 100000
set_option maxHeartbeats 1000000
namespace L2
open PySem PySem.Spec PyProof.Rows
noncomputable abbrev xY (ps:Array Value) (pos:Pos) (c':Addr):Array Value:=ps++#[rawInt pos.line,rawInt pos.col,.ref c']
noncomputable abbrev rA (H:Hp) (T:Addr) (ps:Array Value) (pos:Pos) (c':Addr) (oc:Obj):Hp:=upd (upd H T (.tbl (xY ps pos c'))) c' (.frz oc (.own 0))
noncomputable def qB (oc:Obj) (q:Str):Prop:=∃vs t,oc.data=.fields vs∧vs[1]?=some (.str q t)
end L2
set_option Elab.async false
set_option linter.all false
set_option maxRecDepth 100000
namespace FW
open PySem L2 HX
inductive PV where
 | non|bl (b:Bool)|int (i:Int)|str (x:Str)|tup (xs:List PV)|ref (n:Nat)|rdl (xs:List PV)|fn (a:Nat)
 deriving Inhabited
inductive Cell where
 | lst (xs:List PV)
 | dk (kvs:List (Key × PV))
 | fz (kvs:List (Key × PV))
noncomputable abbrev AH:=List Cell
noncomputable abbrev Fr:=List (Option PV)
noncomputable abbrev EK:=PV→AH→Prop
noncomputable abbrev LK:=List PV→AH→Prop
noncomputable abbrev BK:=Bool→AH→Prop
noncomputable abbrev FSp:=List PV→AH→EK→Prop
mutual
noncomputable def PV.bel (k:Nat):PV→Bool
 | .ref n=>decide (n<k)
 | .tup xs=>PV.bels k xs
 | .rdl xs=>PV.bels k xs
 | .non=>true
 | .bl _=>true
 | .int _=>true
 | .str _=>true
 | .fn _=>false
noncomputable def PV.bels (k:Nat):List PV→Bool
 | []=>true
 | x::xs=>x.bel k && PV.bels k xs
end
mutual
noncomputable def PV.bec (k:Nat):PV→Bool
 | .ref n=>decide (n<k)
 | .tup xs=>PV.becs k xs
 | .rdl xs=>PV.becs k xs
 | .non=>true
 | .bl _=>true
 | .int _=>true
 | .str _=>true
 | .fn _=>true
noncomputable def PV.becs (k:Nat):List PV→Bool
 | []=>true
 | x::xs=>x.bec k && PV.becs k xs
end
mutual
theorem PV.bel_bec {i j:Nat} (h:i≤j):∀ {v:PV},v.bel i=true→v.bec j=true
 | .non,_=>by rw [PV.bec]
 | .bl _,_=>by rw [PV.bec]
 | .int _,_=>by rw [PV.bec]
 | .str _,_=>by rw [PV.bec]
 | .ref n,z=>by rw [PV.bel] at z;rw [PV.bec];have:=of_decide_eq_true z;exact decide_eq_true (by omega)
 | .tup xs,z=>by rw [PV.bel] at z;rw [PV.bec];exact PV.bels_becs h z
 | .rdl xs,z=>by rw [PV.bel] at z;rw [PV.bec];exact PV.bels_becs h z
 | .fn _,z=>by rw [PV.bel] at z;cases z
theorem PV.bels_becs {i j:Nat} (h:i≤j):∀ {vs:List PV},PV.bels i vs=true→PV.becs j vs=true
 | [],_=>by rw [PV.becs]
 | v::vs,z=>by rw [PV.bels,Bool.and_eq_true] at z;rw [PV.becs,Bool.and_eq_true];exact ⟨PV.bel_bec h z.1,PV.bels_becs h z.2⟩
end
noncomputable def Cell.bec (k:Nat):Cell→Bool
 | .lst xs=>PV.becs k xs
 | .dk kvs=>PV.becs k (kvs.map (·.2))
 | .fz kvs=>PV.becs k (kvs.map (·.2))
noncomputable def Cell.bel (k:Nat):Cell→Bool
 | .lst xs=>PV.bels k xs
 | .dk kvs=>PV.bels k (kvs.map (·.2))
 | .fz _=>false
mutual
noncomputable def PV.toD:PV→Option PyData
 | .non=>some .none
 | .bl b=>some (.bool b)
 | .int i=>some (.int i)
 | .str x=>some (.str x)
 | .tup xs=>(PV.toDs xs).map .tuple
 | .rdl xs=>(PV.toDs xs).map .list
 | .ref _=>none
 | .fn _=>none
noncomputable def PV.toDs:List PV→Option (List PyData)
 | []=>some []
 | x::xs=>match x.toD,PV.toDs xs with
  | some d,some ds=>some (d::ds)
  | _,_=>none
end
noncomputable def p7 (st:AH):PV→Option PyData
 | .ref n=>match st[n]? with
  | some (.lst xs)=>(PV.toDs xs).map .list
  | _=>none
 | v=>v.toD
noncomputable def eqW (st:AH) (x y:PV) (k:Bool→Prop):Prop :=
 match x,y with
 | .int i,.int j=>k (decide (i=j))
 | .bl a,.bl b=>k (decide (a=b))
 | .str a,.str b=>k (decide (a=b))
 | x,y=>∃d e,p7 st x=some d∧p7 st y=some e∧SeqAt.shaped d=true∧SeqAt.shaped e=true∧k (PyData.eqv d e)
noncomputable def b8 (st:AH):PV→Option String
 | .non=>some "NoneType"
 | .bl _=>some "bool"
 | .int _=>some "int"
 | .str _=>some "str"
 | .tup _=>some "tuple"
 | .rdl _=>some "list"
 | .ref n=>match st[n]? with
  | some (.lst _)=>some "list"
  | some (.dk _)=>some "dict"
  | some (.fz _)=>some "dict"
  | none=>none
 | .fn _=>none
noncomputable def aO (st:AH):PV→Option (List PV)
 | .rdl xs=>some xs
 | .ref n=>match st[n]? with
  | some (.lst xs)=>some xs
  | _=>none
 | _=>none
noncomputable def bp (st:AH):PV→Option (List PV)
 | .tup xs=>some xs
 | v=>aO st v
noncomputable def dm:PV→Bool
 | .non=>true
 | _=>false
noncomputable def ga (k:Bool):PV→Bool
 | .bl b=>b == k
 | _=>false
noncomputable def jx (xs:List PV) (lo hi:Option Int):List PV:=(xs.drop (HT.sIx xs.length 0 lo)).take (HT.sIx xs.length xs.length hi-HT.sIx xs.length 0 lo)
noncomputable def b2z (b:Bool):Int:=if b then 1 else 0
noncomputable def iiW (f:Int→Int→Prop) (x y:PV):Prop :=
 match x with
 | .int i=>match y with
  | .int j=>f i j
  | _=>False
 | _=>False
noncomputable def zL (x y:PV) (st:AH) (Q:EK):Prop :=
 match x with
 | .int i=>match y with
  | .int j=>Q (.int (i+j)) st
  | _=>False
 | .ref n=>match y with
  | .ref k=>∃xs ys,st[n]?=some (.lst xs)∧st[k]?=some (.lst ys)∧xs.length+ys.length≤100000∧Q (.ref st.length) (st++[.lst (xs++ys)])
  | _=>False
 | .tup xs=>match y with
  | .tup ys=>xs.length+ys.length≤100000∧Q (.tup (xs++ys)) st
  | _=>False
 | .str a=>match y with
  | .str b=>a.length+b.length≤100000∧Q (.str (a++b)) st
  | _=>False
 | _=>False
noncomputable def zQ (x y:PV) (st:AH) (Q:EK):Prop :=
 match x with
 | .int i=>match y with
  | .int j=>CMB i j∧Q (.int (i*j)) st
  | _=>False
 | .ref n=>match y with
  | .int k=>∃xs,st[n]?=some (.lst xs)∧-(2 ^ 63)≤k∧k<2 ^ 63∧xs.length*k.toNat≤100000∧Q (.ref st.length) (st++[.lst (List.replicate k.toNat xs).flatten])
  | _=>False
 | _=>False
noncomputable def eg (op:Operator) (x y:PV) (st:AH) (Q:EK):Prop :=
 match op with
 | .Add=>zL x y st Q
 | .Sub=>iiW (fun i j=>Q (.int (i-j)) st) x y
 | .Mult=>zQ x y st Q
 | .FloorDiv=>iiW (fun i j=>CBig j∧Q (.int (i/j)) st) x y
 | .Mod=>iiW (fun i j=>0<j∧Q (.int (i % j)) st) x y
 | .Pow=>iiW (fun i j=>kM i j∧Q (.int (i ^ j.toNat)) st) x y
 | _=>False
noncomputable def cX (kvs:List (Key × PV)) (k:Key):Option PV:=(kvs.find? fun kv=>decide (kv.1=k)).map (·.2)
noncomputable def dc (kvs:List (Key × PV)) (k:Key) (v:PV):List (Key × PV) :=
 if (kvs.any fun kv=>decide (kv.1=k))=true then kvs.map (fun kv=>if kv.1=k then (kv.1,v) else kv) else kvs++[(k,v)]
noncomputable def kP:Key→PV
 | .inl i=>.int i
 | .inr x=>.str x
inductive DW where
 | keys|items
 deriving DecidableEq
noncomputable def a_:DW→List (Key × PV)→List PV
 | .keys,kvs=>kvs.map fun p=>kP p.1
 | .items,kvs=>kvs.map fun p=>.tup [kP p.1,p.2]
noncomputable def prL (ps:List (Str × PV)):List PV:=ps.map fun p=>.tup [.str p.1,p.2]
noncomputable def bM (ps:List (Str × PV)):List (Key × PV):=ps.foldl (fun d p=>dc d (.inr p.1) p.2) []
noncomputable def kE (x y:PV):Prop:=x=y∧∃d,x.toD=some d∧SeqAt.shaped d=true
noncomputable def np (st:AH) (x y:PV):Prop:=kE x y∨∃n k kvs lvs,x=.ref n∧y=.ref k∧st[n]?=some (.dk kvs)∧st[k]?=some (.dk lvs)∧kvs.length=lvs.length∧∀p∈kvs,∃u,cX lvs p.1=some u∧kE p.2 u
noncomputable def ms (st:AH):List PV→List PV→Prop
 | [],[]=>True
 | x::xs,y::ys=>np st x y∧ms st xs ys
 | _,_=>False
noncomputable def gX (st:AH) (x y:PV):Prop:=(∃xs ys,x=.tup xs∧y=.tup ys∧ms st xs ys)∨∃n k,x=.ref n∧y=.ref k∧np st x y
noncomputable def inR (a:Str) (n:Nat) (st:AH) (k:Bool→Prop):Prop :=
 (∃ns:List Str,st[n]?=some (.lst (ns.map PV.str))∧k (ns.any fun j=>j == a))∨∃kvs,(st[n]?=some (.dk kvs)∨st[n]?=some (.fz kvs))∧k (cX kvs (.inr a)).isSome
noncomputable def bO (op:CmpOp) (x y:PV) (st:AH) (Q:EK):Prop :=
 match op with
 | .Eq=>eqW st x y fun k=>Q (.bl k) st
 | .NotEq=>eqW st x y fun k=>Q (.bl (!k)) st
 | .Is=>match y with
  | .non=>Q (.bl (dm x)) st
  | .bl k=>Q (.bl (ga k x)) st
  | _=>False
 | .IsNot=>match y with
  | .non=>Q (.bl (!dm x)) st
  | .bl k=>Q (.bl (!ga k x)) st
  | _=>False
 | .Lt=>match x,y with
  | .int i,.int j=>Q (.bl (decide (i<j))) st
  | _,_=>False
 | .LtE=>match x,y with
  | .int i,.int j=>Q (.bl (decide (i≤j))) st
  | _,_=>False
 | .Gt=>match x,y with
  | .int i,.int j=>Q (.bl (decide (j<i))) st
  | _,_=>False
 | .GtE=>match x,y with
  | .int i,.int j=>Q (.bl (decide (j≤i))) st
  | _,_=>False
 | .In=>match x,y with
  | .str a,.str b=>Q (.bl (!(Builtin.Str.occurrences b a 0 b.length 1).isEmpty)) st
  | .int i,.tup xs=>∃ns:List Int,xs=ns.map PV.int∧Q (.bl (ns.any fun j=>j == i)) st
  | .str a,.tup xs=>∃ns:List Str,xs=ns.map PV.str∧Q (.bl (ns.any fun j=>j == a)) st
  | .str a,.ref n=>inR a n st fun k=>Q (.bl k) st
  | _,_=>False
 | .NotIn=>match x,y with
  | .int i,.tup xs=>∃ns:List Int,xs=ns.map PV.int∧Q (.bl (!(ns.any fun j=>j == i))) st
  | .str a,.tup xs=>∃ns:List Str,xs=ns.map PV.str∧Q (.bl (!(ns.any fun j=>j == a))) st
  | .str a,.ref n=>inR a n st fun k=>Q (.bl (!k)) st
  | _,_=>False
noncomputable def ixI (i:Int) (st:AH) (Q:EK) (x:PV):Prop :=
 match x with
 | .str z=>z.length≤100000∧∃c,atI z.cps.toList i=some c∧Q (.str ⟨#[c]⟩) st
 | x=>∃xs,bp st x=some xs∧∃v,atI xs i=some v∧Q v st
theorem nL {i:Int} {st:AH} {Q:EK} {x:PV} (h:ixI i st Q x):(∃z c,x=.str z∧z.length≤100000∧atI z.cps.toList i=some c∧Q (.str ⟨#[c]⟩) st)∨∃xs v,bp st x=some xs∧atI xs i=some v∧Q v st:=by
 cases x with
 | str z=>exact .inl ⟨z,h.2.choose,rfl,h.1,h.2.choose_spec⟩
 | _=>obtain ⟨xs,e,v,e2,q⟩:=h;exact .inr ⟨xs,v,e,e2,q⟩
theorem sD {i:Int} {st:AH} {Q:EK} {x:PV} {xs:List PV} {v:PV} (e:bp st x=some xs) (e2:atI xs i=some v) (h:Q v st):ixI i st Q x:=by
 cases x with|str z=>cases e|_=>exact ⟨xs,e,v,e2,h⟩
noncomputable def ixD (z:Str) (st:AH) (Q:EK) (x:PV):Prop :=
 match x with
 | .ref n=>∃kvs v,(st[n]?=some (.dk kvs)∨st[n]?=some (.fz kvs))∧cX kvs (.inr z)=some v∧Q v st
 | _=>False
theorem nq {z:Str} {st:AH} {Q:EK} {x:PV} (h:ixD z st Q x):∃n kvs v,x=.ref n∧(st[n]?=some (.dk kvs)∨st[n]?=some (.fz kvs))∧cX kvs (.inr z)=some v∧Q v st:=by
 cases x with
 | ref n=>obtain ⟨kvs,v,h⟩:=h;exact ⟨n,kvs,v,rfl,h⟩
 | _=>exact False.elim h
noncomputable def ixW (x y:PV) (st:AH) (Q:EK):Prop :=
 match y with
 | .int i=>ixI i st Q x
 | .str z=>ixD z st Q x
 | _=>False
noncomputable def ft (z:Str) (lo hi:Option Int):Str:=if ((Builtin.Str.strSliceIndices lo hi 1 z.length).length == z.length)=true then z else ⟨((Builtin.Str.strSliceIndices lo hi 1 z.length).filterMap (z.cps[·]?)).toArray⟩
noncomputable def slW (x:PV) (lo hi:Option Int) (st:AH) (Q:EK):Prop :=
 match x with
 | .str z=>z.length≤100000∧Q (.str (ft z lo hi)) st
 | .tup xs=>Q (.tup (jx xs lo hi)) st
 | x=>∃xs,aO st x=some xs∧Q (.ref st.length) (st++[.lst (jx xs lo hi)])
noncomputable def w_ (st:AH) (Q:EK) (x:PV):Prop :=
 match x with
 | .str z=>z.length≤100000∧Q (.int z.length) st
 | x=>∃xs,bp st x=some xs∧Q (.int xs.length) st
theorem kr {st:AH} {Q:EK} {x:PV} (h:w_ st Q x):(∃z,x=.str z∧z.length≤100000∧Q (.int z.length) st)∨∃xs,bp st x=some xs∧Q (.int xs.length) st:=by
 cases x with|str z=>exact .inl ⟨z,rfl,h⟩|_=>exact .inr h
theorem pe {st:AH} {Q:EK} {x:PV} {xs:List PV} (e:bp st x=some xs) (h:Q (.int xs.length) st):w_ st Q x:=by
 cases x with|str z=>cases e|_=>exact ⟨xs,e,h⟩
noncomputable def uk (st:AH) (Q:EK) (x:PV):Prop :=
 match x with
 | .bl b=>Q (.int (b2z b)) st
 | .str z=>z.length≤640∧∃n,PySem.intText? z=some n∧Q (.int n) st
 | _=>False
theorem iJ {st:AH} {Q:EK} {x:PV} (h:uk st Q x):(∃b,x=.bl b∧Q (.int (b2z b)) st)∨∃z n,x=.str z∧z.length≤640∧PySem.intText? z=some n∧Q (.int n) st:=by
 cases x with|bl b=>exact .inl ⟨b,rfl,h⟩|str z=>exact .inr ⟨z,h.2.choose,rfl,h.1,h.2.choose_spec⟩|_=>exact False.elim h
inductive B where
 | len|max2|min2|divmod|int1|str1|tuple1|list1|all1|any1|abs1|sorted1|repr1|sortS|max1
 deriving DecidableEq
noncomputable def yR:List PV→Option (List Bool)
 | []=>some []
 | .bl b::r=>(yR r).map (b::·)
 | _::_=>none
noncomputable def j5 (f:PV→Prop) (vs:List PV):Prop :=
 match vs with
 | [x]=>f x
 | _=>False
noncomputable def sT (f:PV→PV→Prop) (vs:List PV):Prop :=
 match vs with
 | [x,y]=>f x y
 | _=>False
noncomputable def inW (f:Int→Prop) (x:PV):Prop :=
 match x with
 | .int b=>f b
 | _=>False
noncomputable def bX (b:B) (vs:List PV) (st:AH) (Q:EK):Prop :=
 match b with
 | .len=>j5 (w_ st Q) vs
 | .max2=>sT (iiW fun i j=>Q (.int (if i<j then j else i)) st) vs
 | .min2=>sT (iiW fun i j=>Q (.int (if j<i then j else i)) st) vs
 | .divmod=>sT (iiW fun i j=>CBig j∧Q (.tup [.int (i/j),.int (i % j)]) st) vs
 | .int1=>j5 (uk st Q) vs
 | .str1=>False
 | .tuple1=>j5 (fun x=>∃xs,bp st x=some xs∧Q (.tup xs) st) vs
 | .list1=>False
 | .all1=>False
 | .any1=>False
 | .abs1=>j5 (inW fun i=>Q (.int i.natAbs) st) vs
 | .sorted1=>False
 | .repr1=>False
 | .sortS=>j5 (fun x=>∃ss:List Str,aO st x=some (ss.map PV.str)∧ss.length<64∧∀ss':List Str,ss'.Perm ss→PyProof.Rows.sortedS ss'=true→Q (.ref st.length) (st++[.lst (ss'.map PV.str)])) vs
 | .max1=>j5 (fun x=>∃ns:List Int,aO st x=some (ns.map PV.int)∧0<ns.length∧∀i,i∈ns→(∀j,j∈ns→j≤i)→Q (.int i) st) vs
inductive M where
 | append|pop0|extend|insert|count
 deriving DecidableEq
noncomputable def rfW (f:Nat→Prop) (x:PV):Prop :=
 match x with
 | .ref n=>f n
 | _=>False
noncomputable def u4 (f:Prop) (vs:List PV):Prop :=
 match vs with
 | []=>f
 | _=>False
noncomputable def lu (m:M) (x:PV) (vs:List PV) (st:AH) (Q:EK):Prop :=
 match m with
 | .append=>rfW (fun n=>j5 (fun v=>∃xs,st[n]?=some (.lst xs)∧xs.length<100000∧Q .non (st.set n (.lst (xs++[v])))) vs) x
 | .pop0=>rfW (fun n=>u4 (∃xs v,st[n]?=some (.lst xs)∧xs[xs.length-1]?=some v∧Q v (st.set n (.lst xs.dropLast))) vs) x
 | .extend=>False
 | .insert=>False
 | .count=>False
theorem ba {f:Int→Int→Prop} {x y:PV} (h:iiW f x y):∃i j,x=.int i∧y=.int j∧f i j:=by
 cases x with
 | int i =>
  cases y with
  | int j=>exact ⟨i,j,rfl,rfl,h⟩
  | _=>exact False.elim h
 | _=>exact False.elim h
theorem aT {f:PV→Prop} {vs:List PV} (h:j5 f vs):∃x,vs=[x]∧f x:=by
 cases vs with
 | nil=>exact False.elim h
 | cons x t =>
  cases t with
  | nil=>exact ⟨x,rfl,h⟩
  | cons _ _=>exact False.elim h
theorem cH {f:PV→PV→Prop} {vs:List PV} (h:sT f vs):∃x y,vs=[x,y]∧f x y:=by
 cases vs with
 | nil=>exact False.elim h
 | cons x t =>
  cases t with
  | nil=>exact False.elim h
  | cons y t =>
   cases t with
   | nil=>exact ⟨x,y,rfl,h⟩
   | cons _ _=>exact False.elim h
theorem jc {f:Prop} {vs:List PV} (h:u4 f vs):vs=[]∧f:=by
 cases vs with
 | nil=>exact ⟨rfl,h⟩
 | cons x t=>exact False.elim h
theorem mU {f:Int→Prop} {x:PV} (h:inW f x):∃b,x=.int b∧f b:=by
 cases x with
 | int b=>exact ⟨b,rfl,h⟩
 | _=>exact False.elim h
theorem gi {f:Nat→Prop} {x:PV} (h:rfW f x):∃b,x=.ref b∧f b:=by
 cases x with
 | ref b=>exact ⟨b,rfl,h⟩
 | _=>exact False.elim h
noncomputable def cx (x:PV) (st:AH) (Q:BK):Prop :=
 match x with
 | .bl b=>Q b st
 | .non=>Q false st
 | .int i=>Q (i != 0) st
 | .str _=>False
 | x=>∃xs,bp st x=some xs∧Q (!xs.isEmpty) st
noncomputable def Sub (st st':AH):Prop:=∀i,i<st.length→st'[i]?=st[i]?∨∃c,st'[i]?=some c∧c.bel 0=true
noncomputable def Tmp (st:AH) (Q:EK):EK:=fun v st'=>∃st1 g,st'=st1++g∧st1.length=st.length∧Sub st st1∧v.bel st.length=true∧Q v st1
noncomputable def Ret (st:AH) (Q:EK):EK:=fun v st'=>Q v st'∨Tmp st Q v st'
mutual
inductive E where
 | var (i:Nat)|int (i:Int)|bl (b:Bool)|non|str (x:Str)|gv (x:Str) (v:PV)
 | tup (es:Es)|lst (es:Es)|dct0|dct1 (k:Str) (i:Int)
 | bin (op:Operator) (a b:E)|neg (a:E)|not (a:E)
 | cmp (op:CmpOp) (a b:E)
 | bop (isAnd:Bool) (es:Es)
 | ite (c a b:E)
 | ix (a b:E)|sl (a:E) (lo hi:O)
 | call (f:Nat) (es:Es)
 | blt (b:B) (es:Es)
 | inst (a:E) (t:String)
 | met (m:M) (o:E) (es:Es)
 | comp (elt:E) (tg:Tg) (it:It) (ifs:Es) (nt:List Str) (caps:List Nat)
 | tmp (a:E)
 | bad
 | jrev (a:E)|part (a:E) (y:Str)|sset (a:E)|clr (a:E)|dcp (a:E)
 | pcall (i:Nat) (e:E)|hm (e be:E) (caps:List Nat)
 | compK (elt:E) (tg:Tg) (wk:DW) (e:E) (ifs:Es) (nt:List Str) (caps:List Nat)
 | compD (kx vx:E) (tg:Tg) (wk:DW) (e:E) (ifs:Es) (nt:List Str) (caps:List Nat)
 | dcl (a:E)|eqd (ne:Bool) (a b:E)
inductive Es where
 | nil|cons (e:E) (es:Es)
inductive O where
 | no|yes (e:E)
inductive It where
 | seq (e:E)|range1 (a:E)|range2 (a b:E)|zip (a b:E)|enum (a:E)|chars (e:E)|range3 (a b c:E)|zip3 (a b c:E)
inductive Tg where
 | name (i:Nat)|tup (ts:Tgs)|ltup (ts:Tgs)|sub (o i:E)
inductive Tgs where
 | nil|cons (t:Tg) (ts:Tgs)
end
noncomputable def Tgs.size:Tgs→Nat
 | .nil=>0
 | .cons _ ts=>ts.size+1
noncomputable def jH (o i v:PV) (st:AH) (k:AH→Prop):Prop :=
 match o,i with
 | .ref n,.int j=>∃xs,st[n]?=some (.lst xs)∧∃q,ixN xs.length j=some q∧k (st.set n (.lst (xs.set q v)))
 | .ref n,.str z=>∃kvs,st[n]?=some (.dk kvs)∧kvs.length≤1000∧k (st.set n (.dk (dc kvs (.inr z) v)))
 | _,_=>False
noncomputable def aG (chk:AH→Prop) (body:PV→AH→(Option PV→AH→Prop)→Prop):List PV→List PV→AH→LK→Prop
 | [],acc,st,Q=>chk st∧Q acc st
 | x::xs,acc,st,Q=>chk st∧body x st fun o st'=>aG chk body xs (acc++o.toList) st' Q
noncomputable def rX (st:AH):PV→AH→Prop
 | .ref n=>fun st'=>st'[n]?=st[n]?
 | _=>fun _=>True
noncomputable def bD (lo:Int) (n:Nat):List PV:=(List.range n).map fun (i:Nat)=>PV.int (lo+(i:Int))
noncomputable def cY:Int→List PV→List PV
 | _,[]=>[]
 | i,x::xs=>.tup [.int i,x]::cY (i+1) xs
noncomputable def di (z:Str):List PV:=z.cps.toList.map fun c=>.str ⟨#[c]⟩
noncomputable def wP (g:PV→Bool) (xs:List PV):Nat→Nat→Nat→Nat
 | 0,lo,_=>lo
 | n+1,lo,hi=>if lo<hi then (if g (xs.getD ((lo+hi)/2) .non)=true then wP g xs n ((lo+hi)/2+1) hi else wP g xs n lo ((lo+hi)/2)) else lo
noncomputable def bsr (g:PV→Bool) (xs:List PV):Nat:=wP g xs xs.length 0 xs.length
section
variable (Γ:Nat→FSp)
mutual
noncomputable def wpE:E→Fr→AH→EK→Prop
 | .var i,ρ,st,Q=>∃v,ρ[i]?=some (some v)∧Q v st
 | .int i,_,st,Q=>Q (.int i) st
 | .bl b,_,st,Q=>Q (.bl b) st
 | .non,_,st,Q=>Q .non st
 | .str x,_,st,Q=>Q (.str x) st
 | .gv _ v,_,st,Q=>Q v st
 | .tup es,ρ,st,Q=>bx es ρ st fun vs st1=>vs.length≤100000∧Q (.tup vs) st1
 | .lst es,ρ,st,Q=>bx es ρ st fun vs st1=>vs.length≤100000∧Q (.ref st1.length) (st1++[.lst vs])
 | .dct0,_,st,Q=>Q (.ref st.length) (st++[.dk []])
 | .dct1 _ _,_,_,_=>False
 | .bin op a b,ρ,st,Q=>wpE a ρ st fun x st1=>wpE b ρ st1 fun y st2=>eg op x y st2 Q
 | .neg a,ρ,st,Q=>wpE a ρ st fun x st1=>∃i,x=.int i∧Q (.int (-i)) st1
 | .not a,ρ,st,Q=>wpE a ρ st fun x st1=>∃c,x=.bl c∧Q (.bl (!c)) st1
 | .cmp op a b,ρ,st,Q=>wpE a ρ st fun x st1=>wpE b ρ st1 fun y st2=>bO op x y st2 Q
 | .bop true es,ρ,st,Q=>jN es ρ st Q
 | .bop false es,ρ,st,Q=>jr es ρ st Q
 | .ite c a b,ρ,st,Q=>wpT c ρ st fun k st1=>if k=true then wpE a ρ st1 Q else wpE b ρ st1 Q
 | .ix a b,ρ,st,Q=>wpE a ρ st fun x st1=>wpE b ρ st1 fun y st2=>ixW x y st2 Q
 | .sl a lo hi,ρ,st,Q=>wpE a ρ st fun x st1=>wpO lo ρ st1 fun l st2=>wpO hi ρ st2 fun h st3=>slW x l h st3 Q
 | .call f es,ρ,st,Q=>bx es ρ st fun vs st1=>Γ f vs st1 Q
 | .blt b es,ρ,st,Q=>bx es ρ st fun vs st1=>bX b vs st1 Q
 | .inst a t,ρ,st,Q=>wpE a ρ st fun x st1=>∃n,b8 st1 x=some n∧Q (.bl (dv t n)) st1
 | .met m o es,ρ,st,Q=>wpE o ρ st fun x st1=>(∃xs,aO st1 x=some xs)∧bx es ρ st1 fun vs st2=>lu m x vs st2 Q
 | .comp elt tg it ifs nt caps,ρ,st,Q=>d9 it ρ st fun xs chk st1 =>
   xs.length<100000∧aG chk (fun x st2 k=>bd tg x (nt.map (fun _=>none)++caps.map fun i=>(ρ[i]?).join) st2 fun ρ' st3=>bN ifs ρ' st3 fun c st4 =>
    if c=true then wpE elt ρ' st4 fun v st5=>k (some v) st5 else k none st4) xs [] st1 fun vs st2=>Q (.ref st2.length) (st2++[.lst vs])
 | .tmp a,ρ,st,Q=>wpE a ρ st (Tmp st Q)
 | .bad,_,_,_=>False
 | .jrev _,_,_,_=>False
 | .part _ _,_,_,_=>False
 | .dcp a,ρ,st,Q=>wpE a ρ st fun x st1=>∃n,x=.ref n∧∃kvs,st1[n]?=some (.dk kvs)∧Q (.ref st1.length) (st1++[.dk kvs])
 | .clr a,ρ,st,Q=>wpE a ρ st fun x st1=>∃n,x=.ref n∧∃kvs,st1[n]?=some (.dk kvs)∧Q .non (st1.set n (.dk []))
 | .sset _,_,_,_=>False
 | .pcall _ _,_,_,_=>False
 | .hm _ _ _,_,_,_=>False
 | .compK elt tg wk e ifs nt caps,ρ,st,Q=>wpE e ρ st fun x st1=>∃n,x=.ref n∧∃kvs,st1[n]?=some (.dk kvs)∧kvs.length<100000 ∧
   aG (fun _=>True) (fun x st2 k=>bd tg x (nt.map (fun _=>none)++caps.map fun i=>(ρ[i]?).join) st2 fun ρ' st3=>bN ifs ρ' st3 fun c st4 =>
    if c=true then wpE elt ρ' st4 fun v st5=>k (some v) st5 else k none st4) (a_ wk kvs) [] (st1.set n (.fz kvs)) fun vs st2=>st2[n]?=some (.fz kvs)∧Q (.ref st2.length) (st2.set n (.dk kvs)++[.lst vs])
 | .compD kx vx tg wk e ifs nt caps,ρ,st,Q=>wpE e ρ st fun x st1=>∃n,x=.ref n∧∃kvs,st1[n]?=some (.dk kvs)∧kvs.length<1000 ∧
   aG (fun _=>True) (fun x st2 k=>bd tg x (nt.map (fun _=>none)++caps.map fun i=>(ρ[i]?).join) st2 fun ρ' st3=>bN ifs ρ' st3 fun c st4 =>
    if c=true then wpE kx ρ' st4 fun u st5=>wpE vx ρ' st5 fun v st6=>∃z,u=.str z∧k (some (.tup [u,v])) st6 else k none st4) (a_ wk kvs) [] (st1.set n (.fz kvs)) fun vs st2=>st2[n]?=some (.fz kvs)∧∀ps,vs=prL ps→Q (.ref st2.length) (st2.set n (.dk kvs)++[.dk (bM ps)])
 | .dcl a,ρ,st,Q=>wpE a ρ st fun x st1=>∃n,x=.ref n∧∃ps,st1[n]?=some (.lst (prL ps))∧ps.length<1000∧Q (.ref st1.length) (st1++[.dk (bM ps)])
 | .eqd ne a b,ρ,st,Q=>wpE a ρ st fun x st1=>wpE b ρ st1 fun y st2=>gX st2 x y∧Q (.bl (!ne)) st2
noncomputable def bx:Es→Fr→AH→LK→Prop
 | .nil,_,st,Q=>Q [] st
 | .cons e es,ρ,st,Q=>wpE e ρ st fun x st1=>bx es ρ st1 fun xs st2=>Q (x::xs) st2
noncomputable def wpO:O→Fr→AH→(Option Int→AH→Prop)→Prop
 | .no,_,st,Q=>Q none st
 | .yes e,ρ,st,Q=>wpE e ρ st fun x st1=>∃i,x=.int i∧Q (some i) st1
noncomputable def wpT:E→Fr→AH→BK→Prop
 | .bop true es,ρ,st,Q=>bN es ρ st Q
 | .bop false es,ρ,st,Q=>jy es ρ st Q
 | .not a,ρ,st,Q=>wpT a ρ st fun c st1=>Q (!c) st1
 | .cmp op a b,ρ,st,Q=>wpE a ρ st fun x st1=>wpE b ρ st1 fun y st2=>bO op x y st2 fun v st3=>∃c,v=.bl c∧Q c st3
 | .var i,ρ,st,Q=>∃v,ρ[i]?=some (some v)∧cx v st Q
 | .call f es,ρ,st,Q=>bx es ρ st fun vs st1=>Γ f vs st1 fun v st2=>cx v st2 Q
 | .blt b es,ρ,st,Q=>bx es ρ st fun vs st1=>bX b vs st1 fun v st2=>cx v st2 Q
 | .inst a t,ρ,st,Q=>wpE a ρ st fun x st1=>∃n,b8 st1 x=some n∧Q (dv t n) st1
 | .tmp a,ρ,st,Q=>wpE a ρ st (Tmp st fun v st1=>cx v st1 Q)
 | .ix a b,ρ,st,Q=>wpE a ρ st fun x st1=>wpE b ρ st1 fun y st2=>ixW x y st2 fun v st3=>cx v st3 Q
 | .pcall _ _,_,_,_=>False
 | .eqd ne a b,ρ,st,Q=>wpE a ρ st fun x st1=>wpE b ρ st1 fun y st2=>gX st2 x y∧Q (!ne) st2
 | _,_,_,_=>False
noncomputable def jN:Es→Fr→AH→EK→Prop
 | .nil,_,_,_=>False
 | .cons e .nil,ρ,st,Q=>wpE e ρ st Q
 | .cons e es,ρ,st,Q=>wpE e ρ st fun x st1=>∃c,x=.bl c∧if c=true then jN es ρ st1 Q else Q (.bl false) st1
noncomputable def jr:Es→Fr→AH→EK→Prop
 | .nil,_,_,_=>False
 | .cons e .nil,ρ,st,Q=>wpE e ρ st Q
 | .cons e es,ρ,st,Q=>wpE e ρ st fun x st1=>∃c,x=.bl c∧if c=true then Q (.bl true) st1 else jr es ρ st1 Q
noncomputable def bN:Es→Fr→AH→BK→Prop
 | .nil,_,st,Q=>Q true st
 | .cons e .nil,ρ,st,Q=>wpT e ρ st Q
 | .cons e es,ρ,st,Q=>wpT e ρ st fun c st1=>if c=true then bN es ρ st1 Q else Q false st1
noncomputable def jy:Es→Fr→AH→BK→Prop
 | .nil,_,st,Q=>Q false st
 | .cons e .nil,ρ,st,Q=>wpT e ρ st Q
 | .cons e es,ρ,st,Q=>wpT e ρ st fun c st1=>if c=true then Q true st1 else jy es ρ st1 Q
noncomputable def d9:It→Fr→AH→(List PV→(AH→Prop)→AH→Prop)→Prop
 | .seq e,ρ,st,Q=>wpE e ρ st fun x st1=>∃xs,bp st1 x=some xs∧Q xs (rX st1 x) st1
 | .range1 a,ρ,st,Q=>wpE a ρ st fun x st1=>∃j,x=.int j∧-(2 ^ 62)≤j∧j<2 ^ 62∧Q (bD 0 j.toNat) (fun _=>True) st1
 | .range2 a b,ρ,st,Q=>wpE a ρ st fun x st1=>wpE b ρ st1 fun y st2=>∃i j,x=.int i∧y=.int j∧(-(2 ^ 62)≤i∧i<2 ^ 62∧-(2 ^ 62)≤j∧j<2 ^ 62)∧Q (bD i (j-i).toNat) (fun _=>True) st2
 | .zip _ _,_,_,_=>False
 | .zip3 _ _ _,_,_,_=>False
 | .enum a,ρ,st,Q=>wpE a ρ st fun x st1=>∃xs,x=.tup xs∧Q (cY 0 xs) (fun _=>True) st1
 | .chars a,ρ,st,Q=>wpE a ρ st fun x st1=>∃z,x=.str z∧Q (di z) (fun _=>True) st1
 | .range3 _ _ _,_,_,_=>False
noncomputable def bd:Tg→PV→Fr→AH→(Fr→AH→Prop)→Prop
 | .name i,v,ρ,st,Q=>Q (ρ.set i (some v)) st
 | .tup ts,v,ρ,st,Q=>∃xs,v=.tup xs∧xs.length=ts.size∧cJ ts xs ρ st Q
 | .ltup ts,v,ρ,st,Q=>∃xs,aO st v=some xs∧xs.length=ts.size∧cJ ts xs ρ st Q
 | .sub o i,v,ρ,st,Q=>wpE o ρ st fun x st1=>wpE i ρ st1 fun y st2=>jH x y v st2 fun st3=>Q ρ st3
noncomputable def cJ:Tgs→List PV→Fr→AH→(Fr→AH→Prop)→Prop
 | .nil,vs,ρ,st,Q=>vs=[]∧Q ρ st
 | .cons t ts,vs,ρ,st,Q=>∃v r,vs=v::r∧bd t v ρ st fun ρ' st'=>cJ ts r ρ' st' Q
end
end
mutual
inductive S where
 | set (t:Tg) (e:E)|par (i j:Nat) (a b:E)|aug (i:Nat) (op:Operator) (e:E)|expr (e:E)|ret (e:E)|retN
 | ifS (c:E) (a b:Ss)|whileS (c:E) (b:Ss)|forS (t:Tg) (it:It) (b:Ss)|pass|brk|cont|bad|set2 (i j:Nat) (e:E)
inductive Ss where
 | nil|cons (s:S) (ss:Ss)
end
structure aJ where
 nx:Fr→AH→Prop
 rt:EK
 bk:Fr→AH→Prop:=fun _ _=>False
 ct:Fr→AH→Prop:=fun _ _=>False
noncomputable def jU (chk:AH→Prop) (body:PV→Fr→AH→aJ→Prop) (D:aJ):List PV→Fr→AH→Prop
 | [],ρ,st=>chk st∧D.nx ρ st
 | x::xs,ρ,st=>chk st∧body x ρ st { nx:=jU chk body D xs,ct:=jU chk body D xs,bk:=D.nx,rt:=D.rt }
noncomputable def ce (c:Fr→AH→BK→Prop) (body:Fr→AH→aJ→Prop) (D:aJ):Nat→Fr→AH→Prop
 | 0,_,_=>False
 | n+1,ρ,st=>c ρ st fun k st1=>if k=true then body ρ st1 { nx:=ce c body D n,ct:=ce c body D n,bk:=D.nx,rt:=D.rt } else D.nx ρ st1
noncomputable def iy (op:Operator) (x y:PV) (st:AH) (Q:EK):Prop :=
 match op,x,y with
 | .Add,.int i,.int j=>Q (.int (i+j)) st
 | .Sub,.int i,.int j=>Q (.int (i-j)) st
 | .Add,.ref n,.ref k=>∃xs ys,st[n]?=some (.lst xs)∧st[k]?=some (.lst ys)∧xs.length+ys.length≤100000∧Q (.ref n) (st.set n (.lst (xs++ys)))
 | _,_,_=>False
section
variable (Γ:Nat→FSp)
mutual
noncomputable def wpS:S→Fr→AH→aJ→Prop
 | .set t e,ρ,st,D=>wpE Γ e ρ st fun v st1=>bd Γ t v ρ st1 D.nx
 | .par i j a b,ρ,st,D=>wpE Γ a ρ st fun x st1=>wpE Γ b ρ st1 fun y st2=>D.nx ((ρ.set i (some x)).set j (some y)) st2
 | .aug i op e,ρ,st,D=>∃x,ρ[i]?=some (some x)∧wpE Γ e ρ st fun y st1=>iy op x y st1 fun z st2=>D.nx (ρ.set i (some z)) st2
 | .expr e,ρ,st,D=>wpE Γ e ρ st fun _ st1=>D.nx ρ st1
 | .ret e,ρ,st,D=>wpE Γ e ρ st D.rt
 | .retN,_,st,D=>D.rt .non st
 | .ifS c a b,ρ,st,D=>wpT Γ c ρ st fun k st1=>if k=true then aK a ρ st1 D else aK b ρ st1 D
 | .whileS c b,ρ,st,D=>∃n,ce (wpT Γ c) (aK b) D n ρ st
 | .forS t it b,ρ,st,D=>d9 Γ it ρ st fun xs chk st1=>jU chk (fun x ρ' st' D'=>bd Γ t x ρ' st' fun ρ2 st2=>aK b ρ2 st2 D') D xs ρ st1
 | .pass,ρ,st,D=>D.nx ρ st
 | .brk,ρ,st,D=>D.bk ρ st
 | .cont,ρ,st,D=>D.ct ρ st
 | .bad,_,_,_=>False
 | .set2 i j e,ρ,st,D=>wpE Γ e ρ st fun v st1=>D.nx ((ρ.set i (some v)).set j (some v)) st1
noncomputable def aK:Ss→Fr→AH→aJ→Prop
 | .nil,ρ,st,D=>D.nx ρ st
 | .cons s ss,ρ,st,D=>wpS s ρ st { D with nx:=fun ρ' st'=>aK ss ρ' st' D }
end
end
section
variable {Γ:Nat→FSp} {ρ:Fr} {st:AH} {Q:EK} {D:aJ} {a b c:E} {es:Es}
theorem r_:aK Γ .nil ρ st D=D.nx ρ st:=rfl
theorem rO {s:S}:aK Γ (.cons s .nil) ρ st D=wpS Γ s ρ st D:=rfl
theorem mH {t:Tg}:wpS Γ (.set t a) ρ st D=wpE Γ a ρ st fun v st1=>bd Γ t v ρ st1 D.nx:=rfl
theorem t5 {i j:Nat}:wpS Γ (.par i j a b) ρ st D=wpE Γ a ρ st fun x st1=>wpE Γ b ρ st1 fun y st2=>D.nx ((ρ.set i (some x)).set j (some y)) st2:=rfl
theorem t4 {i:Nat} {op:Operator}:wpS Γ (.aug i op a) ρ st D=∃x,ρ[i]?=some (some x)∧wpE Γ a ρ st fun y st1=>iy op x y st1 fun z st2=>D.nx (ρ.set i (some z)) st2:=rfl
theorem qD:wpS Γ (.expr a) ρ st D=wpE Γ a ρ st fun _ st1=>D.nx ρ st1:=rfl
theorem ug:wpS Γ (.ret a) ρ st D=wpE Γ a ρ st fun v st1=>D.rt v st1:=rfl
theorem qa:wpS Γ .retN ρ st D=D.rt .non st:=rfl
theorem xG {x y:Ss}:wpS Γ (.ifS c x y) ρ st D=wpT Γ c ρ st fun k st1=>if k=true then aK Γ x ρ st1 D else aK Γ y ρ st1 D:=rfl
theorem rm:wpS Γ .pass ρ st D=D.nx ρ st:=rfl
theorem q9 {i j:Nat}:wpS Γ (.set2 i j a) ρ st D=wpE Γ a ρ st fun v st1=>D.nx ((ρ.set i (some v)).set j (some v)) st1:=rfl
theorem vo:wpS Γ .brk ρ st D=D.bk ρ st:=rfl
theorem qo:wpS Γ .cont ρ st D=D.ct ρ st:=rfl
theorem uh {i:Nat}:wpE Γ (.var i) ρ st Q=∃v,ρ[i]?=some (some v)∧Q v st:=rfl
theorem uU {i:Int}:wpE Γ (.int i) ρ st Q=Q (.int i) st:=rfl
theorem xt {i:Bool}:wpE Γ (.bl i) ρ st Q=Q (.bl i) st:=rfl
theorem ud:wpE Γ .non ρ st Q=Q .non st:=rfl
theorem vg {i:Str}:wpE Γ (.str i) ρ st Q=Q (.str i) st:=rfl
theorem yf {x:Str} {v:PV}:wpE Γ (.gv x v) ρ st Q=Q v st:=rfl
theorem t8:wpE Γ (.tup es) ρ st Q=bx Γ es ρ st fun vs st1=>vs.length≤100000∧Q (.tup vs) st1:=rfl
theorem uE:wpE Γ (.lst es) ρ st Q=bx Γ es ρ st fun vs st1=>vs.length≤100000∧Q (.ref st1.length) (st1++[.lst vs]):=rfl
theorem pv:wpE Γ .dct0 ρ st Q=Q (.ref st.length) (st++[.dk []]):=rfl
theorem uf {op:Operator}:wpE Γ (.bin op a b) ρ st Q=wpE Γ a ρ st fun x st1=>wpE Γ b ρ st1 fun y st2=>eg op x y st2 Q:=rfl
theorem ut:wpE Γ (.neg a) ρ st Q=wpE Γ a ρ st fun x st1=>∃i,x=.int i∧Q (.int (-i)) st1:=rfl
theorem uq:wpE Γ (.not a) ρ st Q=wpE Γ a ρ st fun x st1=>∃c,x=.bl c∧Q (.bl (!c)) st1:=rfl
theorem u8 {op:CmpOp}:wpE Γ (.cmp op a b) ρ st Q=wpE Γ a ρ st fun x st1=>wpE Γ b ρ st1 fun y st2=>bO op x y st2 Q:=rfl
theorem vf:wpE Γ (.bop true es) ρ st Q=jN Γ es ρ st Q:=rfl
theorem yt:wpE Γ (.bop false es) ρ st Q=jr Γ es ρ st Q:=rfl
theorem vy:wpE Γ (.ite c a b) ρ st Q=wpT Γ c ρ st fun k st1=>if k=true then wpE Γ a ρ st1 Q else wpE Γ b ρ st1 Q:=rfl
theorem xq:wpE Γ (.ix a b) ρ st Q=wpE Γ a ρ st fun x st1=>wpE Γ b ρ st1 fun y st2=>ixW x y st2 Q:=rfl
theorem yz {lo hi:O}:wpE Γ (.sl a lo hi) ρ st Q=wpE Γ a ρ st fun x st1=>wpO Γ lo ρ st1 fun l st2=>wpO Γ hi ρ st2 fun h st3=>slW x l h st3 Q:=rfl
theorem pb {f:Nat}:wpE Γ (.call f es) ρ st Q=bx Γ es ρ st fun vs st1=>Γ f vs st1 Q:=rfl
theorem uN {f:B}:wpE Γ (.blt f es) ρ st Q=bx Γ es ρ st fun vs st1=>bX f vs st1 Q:=rfl
theorem qL {t:String}:wpE Γ (.inst a t) ρ st Q=wpE Γ a ρ st fun x st1=>∃n,b8 st1 x=some n∧Q (.bl (dv t n)) st1:=rfl
theorem vm {m:M}:wpE Γ (.met m a es) ρ st Q=wpE Γ a ρ st fun x st1=>(∃xs,aO st1 x=some xs)∧bx Γ es ρ st1 fun vs st2=>lu m x vs st2 Q:=rfl
theorem u6:wpE Γ (.dcp a) ρ st Q=wpE Γ a ρ st fun x st1=>∃n,x=.ref n∧∃kvs,st1[n]?=some (.dk kvs)∧Q (.ref st1.length) (st1++[.dk kvs]):=rfl
theorem vd:wpE Γ (.clr a) ρ st Q=wpE Γ a ρ st fun x st1=>∃n,x=.ref n∧∃kvs,st1[n]?=some (.dk kvs)∧Q .non (st1.set n (.dk [])):=rfl
theorem sW {elt e:E} {tg:Tg} {wk:DW} {ifs:Es} {nt:List Str} {caps:List Nat}:wpE Γ (.compK elt tg wk e ifs nt caps) ρ st Q=wpE Γ e ρ st fun x st1=>∃n,x=.ref n∧∃kvs,st1[n]?=some (.dk kvs)∧kvs.length<100000 ∧
   aG (fun _=>True) (fun x st2 k=>bd Γ tg x (nt.map (fun _=>none)++caps.map fun i=>(ρ[i]?).join) st2 fun ρ' st3=>bN Γ ifs ρ' st3 fun c st4 =>
    if c=true then wpE Γ elt ρ' st4 fun v st5=>k (some v) st5 else k none st4) (a_ wk kvs) [] (st1.set n (.fz kvs)) fun vs st2=>st2[n]?=some (.fz kvs)∧Q (.ref st2.length) (st2.set n (.dk kvs)++[.lst vs]):=rfl
theorem sJ {kx vx e:E} {tg:Tg} {wk:DW} {ifs:Es} {nt:List Str} {caps:List Nat}:wpE Γ (.compD kx vx tg wk e ifs nt caps) ρ st Q=wpE Γ e ρ st fun x st1=>∃n,x=.ref n∧∃kvs,st1[n]?=some (.dk kvs)∧kvs.length<1000 ∧
   aG (fun _=>True) (fun x st2 k=>bd Γ tg x (nt.map (fun _=>none)++caps.map fun i=>(ρ[i]?).join) st2 fun ρ' st3=>bN Γ ifs ρ' st3 fun c st4 =>
    if c=true then wpE Γ kx ρ' st4 fun u st5=>wpE Γ vx ρ' st5 fun v st6=>∃z,u=.str z∧k (some (.tup [u,v])) st6 else k none st4) (a_ wk kvs) [] (st1.set n (.fz kvs)) fun vs st2=>st2[n]?=some (.fz kvs)∧∀ps,vs=prL ps→Q (.ref st2.length) (st2.set n (.dk kvs)++[.dk (bM ps)]):=rfl
theorem uJ:wpE Γ (.dcl a) ρ st Q=wpE Γ a ρ st fun x st1=>∃n,x=.ref n∧∃ps,st1[n]?=some (.lst (prL ps))∧ps.length<1000∧Q (.ref st1.length) (st1++[.dk (bM ps)]):=rfl
theorem uo {ne:Bool}:wpE Γ (.eqd ne a b) ρ st Q=wpE Γ a ρ st fun x st1=>wpE Γ b ρ st1 fun y st2=>gX st2 x y∧Q (.bl (!ne)) st2:=rfl
theorem uF:wpE Γ (.tmp a) ρ st Q=wpE Γ a ρ st fun v st1=>Tmp st Q v st1:=rfl
variable {LQ:LK} {BQ:BK} {e e2:E} {i:Nat} {v:PV} {FQ:Fr→AH→Prop} {IQ:List PV→(AH→Prop)→AH→Prop}
theorem qF:bx Γ .nil ρ st LQ=LQ [] st:=rfl
theorem ny:bx Γ (.cons e es) ρ st LQ=wpE Γ e ρ st fun x st1=>bx Γ es ρ st1 fun xs st2=>LQ (x::xs) st2:=rfl
theorem xO {OQ:Option Int→AH→Prop}:wpO Γ .no ρ st OQ=OQ none st:=rfl
theorem uX {OQ:Option Int→AH→Prop}:wpO Γ (.yes e) ρ st OQ=wpE Γ e ρ st fun x st1=>∃i,x=.int i∧OQ (some i) st1:=rfl
theorem ua:wpT Γ (.bop true es) ρ st BQ=bN Γ es ρ st BQ:=rfl
theorem ym:wpT Γ (.bop false es) ρ st BQ=jy Γ es ρ st BQ:=rfl
theorem vj:wpT Γ (.not a) ρ st BQ=wpT Γ a ρ st fun c st1=>BQ (!c) st1:=rfl
theorem uM {op:CmpOp}:wpT Γ (.cmp op a b) ρ st BQ=wpE Γ a ρ st fun x st1=>wpE Γ b ρ st1 fun y st2=>bO op x y st2 fun v st3=>∃c,v=.bl c∧BQ c st3:=rfl
theorem va:wpT Γ (.var i) ρ st BQ=∃v,ρ[i]?=some (some v)∧cx v st BQ:=rfl
theorem pR {f:Nat}:wpT Γ (.call f es) ρ st BQ=bx Γ es ρ st fun vs st1=>Γ f vs st1 fun v st2=>cx v st2 BQ:=rfl
theorem u3 {f:B}:wpT Γ (.blt f es) ρ st BQ=bx Γ es ρ st fun vs st1=>bX f vs st1 fun v st2=>cx v st2 BQ:=rfl
theorem pV {t:String}:wpT Γ (.inst a t) ρ st BQ=wpE Γ a ρ st fun x st1=>∃n,b8 st1 x=some n∧BQ (dv t n) st1:=rfl
theorem uQ {ne:Bool}:wpT Γ (.eqd ne a b) ρ st BQ=wpE Γ a ρ st fun x st1=>wpE Γ b ρ st1 fun y st2=>gX st2 x y∧BQ (!ne) st2:=rfl
theorem uO:wpT Γ (.tmp a) ρ st BQ=wpE Γ a ρ st fun v st1=>Tmp st (fun v st1=>cx v st1 BQ) v st1:=rfl
theorem yW:wpT Γ (.ix a b) ρ st BQ=wpE Γ a ρ st fun x st1=>wpE Γ b ρ st1 fun y st2=>ixW x y st2 fun v st3=>cx v st3 BQ:=rfl
theorem pT:jN Γ (.cons e .nil) ρ st Q=wpE Γ e ρ st Q:=rfl
theorem nr:jN Γ (.cons e (.cons e2 es)) ρ st Q=wpE Γ e ρ st fun x st1=>∃c,x=.bl c∧if c=true then jN Γ (.cons e2 es) ρ st1 Q else Q (.bl false) st1:=rfl
theorem p6:jr Γ (.cons e .nil) ρ st Q=wpE Γ e ρ st Q:=rfl
theorem nB:jr Γ (.cons e (.cons e2 es)) ρ st Q=wpE Γ e ρ st fun x st1=>∃c,x=.bl c∧if c=true then Q (.bl true) st1 else jr Γ (.cons e2 es) ρ st1 Q:=rfl
theorem lM:bN Γ .nil ρ st BQ=BQ true st:=rfl
theorem sf:bN Γ (.cons e .nil) ρ st BQ=wpT Γ e ρ st BQ:=rfl
theorem mO:bN Γ (.cons e (.cons e2 es)) ρ st BQ=wpT Γ e ρ st fun c st1=>if c=true then bN Γ (.cons e2 es) ρ st1 BQ else BQ false st1:=rfl
theorem p_:jy Γ (.cons e .nil) ρ st BQ=wpT Γ e ρ st BQ:=rfl
theorem m_:jy Γ (.cons e (.cons e2 es)) ρ st BQ=wpT Γ e ρ st fun c st1=>if c=true then BQ true st1 else jy Γ (.cons e2 es) ρ st1 BQ:=rfl
theorem qE:d9 Γ (.seq e) ρ st IQ=wpE Γ e ρ st fun x st1=>∃xs,bp st1 x=some xs∧IQ xs (rX st1 x) st1:=rfl
theorem uK:d9 Γ (.range1 a) ρ st IQ=wpE Γ a ρ st fun x st1=>∃j,x=.int j∧-(2 ^ 62)≤j∧j<2 ^ 62∧IQ (bD 0 j.toNat) (fun _=>True) st1:=rfl
theorem uR:d9 Γ (.range2 a b) ρ st IQ=wpE Γ a ρ st fun x st1=>wpE Γ b ρ st1 fun y st2=>∃i j,x=.int i∧y=.int j∧(-(2 ^ 62)≤i∧i<2 ^ 62∧-(2 ^ 62)≤j∧j<2 ^ 62)∧IQ (bD i (j-i).toNat) (fun _=>True) st2:=rfl
theorem ni:d9 Γ (.enum a) ρ st IQ=wpE Γ a ρ st fun x st1=>∃xs,x=.tup xs∧IQ (cY 0 xs) (fun _=>True) st1:=rfl
theorem j6:d9 Γ (.chars a) ρ st IQ=wpE Γ a ρ st fun x st1=>∃z,x=.str z∧IQ (di z) (fun _=>True) st1:=rfl
theorem cq:bd Γ (.name i) v ρ st FQ=FQ (ρ.set i (some v)) st:=rfl
theorem fM {ts:Tgs}:bd Γ (.tup ts) v ρ st FQ=∃xs,v=.tup xs∧xs.length=ts.size∧cJ Γ ts xs ρ st FQ:=rfl
theorem dG {ts:Tgs}:bd Γ (.ltup ts) v ρ st FQ=∃xs,aO st v=some xs∧xs.length=ts.size∧cJ Γ ts xs ρ st FQ:=rfl
theorem fo:bd Γ (.sub a b) v ρ st FQ=wpE Γ a ρ st fun x st1=>wpE Γ b ρ st1 fun y st2=>jH x y v st2 fun st3=>FQ ρ st3:=rfl
theorem ng {vs:List PV}:cJ Γ .nil vs ρ st FQ=(vs=[]∧FQ ρ st):=rfl
theorem j3 {t:Tg} {ts:Tgs} {vs:List PV}:cJ Γ (.cons t ts) vs ρ st FQ=∃v r,vs=v::r∧bd Γ t v ρ st fun ρ' st'=>cJ Γ ts r ρ' st' FQ:=rfl
theorem se:Tgs.size .nil=0:=id rfl
theorem nj {t:Tg} {ts:Tgs}:Tgs.size (.cons t ts)=ts.size+1:=id rfl
end
end FW
set_option Elab.async false
set_option linter.all false
set_option maxRecDepth 100000
namespace FW
open PySem L2 HX
theorem kz {st:AH} {x y:PV} {k k':Bool→Prop} (h:∀b,k b→k' b) (q:eqW st x y k):eqW st x y k':=by
 unfold eqW at q ⊢
 split at q
 ·exact h _ q
 ·exact h _ q
 ·exact h _ q
 ·obtain ⟨d,e,h1,h2,h3,h4,q⟩:=q
  exact ⟨d,e,h1,h2,h3,h4,h _ q⟩
theorem iO {op:Operator} {x y:PV} {st:AH} {Q Q':EK} (h:∀v st,Q v st→Q' v st) (q:eg op x y st Q):eg op x y st Q':=by
 cases op with
 | Add =>
  cases x with
  | int i =>
   cases y with
   | int j=>exact h _ _ q
   | _=>exact False.elim q
  | ref n =>
   cases y with
   | ref k=>obtain ⟨xs,ys,h1,h2,h3,q⟩:=q;exact ⟨xs,ys,h1,h2,h3,h _ _ q⟩
   | _=>exact False.elim q
  | tup xs =>
   cases y with
   | tup ys=>exact ⟨q.1,h _ _ q.2⟩
   | _=>exact False.elim q
  | str a =>
   cases y with
   | str b=>exact ⟨q.1,h _ _ q.2⟩
   | _=>exact False.elim q
  | _=>exact False.elim q
 | Mult =>
  cases x with
  | int i =>
   cases y with
   | int j=>exact ⟨q.1,h _ _ q.2⟩
   | _=>exact False.elim q
  | ref n =>
   cases y with
   | int k=>obtain ⟨xs,h1,h2,h3,h4,q⟩:=q;exact ⟨xs,h1,h2,h3,h4,h _ _ q⟩
   | _=>exact False.elim q
  | _=>exact False.elim q
 | Sub=>obtain ⟨i,j,rfl,rfl,q⟩:=ba q;exact h _ _ q
 | FloorDiv=>obtain ⟨i,j,rfl,rfl,q⟩:=ba q;exact ⟨q.1,h _ _ q.2⟩
 | Mod=>obtain ⟨i,j,rfl,rfl,q⟩:=ba q;exact ⟨q.1,h _ _ q.2⟩
 | Pow=>obtain ⟨i,j,rfl,rfl,q⟩:=ba q;exact ⟨q.1,h _ _ q.2⟩
 | _=>exact False.elim q
theorem kL {a:Str} {n:Nat} {st:AH} {k k':Bool→Prop} (h:∀b,k b→k' b) (q:inR a n st k):inR a n st k':=by
 rcases q with ⟨ns,e,q⟩|⟨kvs,e,q⟩
 ·exact .inl ⟨ns,e,h _ q⟩
 ·exact .inr ⟨kvs,e,h _ q⟩
theorem dy {op:CmpOp} {x y:PV} {st:AH} {Q Q':EK} (h:∀v st,Q v st→Q' v st) (q:bO op x y st Q):bO op x y st Q':=by
 unfold bO at q ⊢
 split at q
 ·exact kz (fun _=>h _ _) q
 ·exact kz (fun _=>h _ _) q
 ·split at q <;> first|exact h _ _ q|exact q
 ·split at q <;> first|exact h _ _ q|exact q
 ·split at q <;> first|exact h _ _ q|exact q
 ·split at q <;> first|exact h _ _ q|exact q
 ·split at q <;> first|exact h _ _ q|exact q
 ·split at q <;> first|exact h _ _ q|exact q
 ·split at q <;> first|exact h _ _ q|(obtain ⟨ns,e,q⟩:=q;exact ⟨ns,e,h _ _ q⟩)|exact kL (fun _=>h _ _) q|exact q
 ·split at q <;> first|(obtain ⟨ns,e,q⟩:=q;exact ⟨ns,e,h _ _ q⟩)|exact kL (fun _=>h _ _) q|exact q
theorem eI {x y:PV} {st:AH} {Q Q':EK} (h:∀v st,Q v st→Q' v st) (q:ixW x y st Q):ixW x y st Q':=by
 cases y with
 | int i =>
  rcases nL q with ⟨z,c,rfl,h1,h2,q⟩|⟨xs,v,h1,h2,q⟩
  ·exact ⟨h1,c,h2,h _ _ q⟩
  ·exact sD h1 h2 (h _ _ q)
 | str z=>obtain ⟨n,kvs,v,rfl,h1,h2,q⟩:=nq q;exact ⟨kvs,v,h1,h2,h _ _ q⟩
 | _=>exact q
theorem j_ {x:PV} {lo hi:Option Int} {st:AH} {Q Q':EK} (h:∀v st,Q v st→Q' v st) (q:slW x lo hi st Q):slW x lo hi st Q':=by
 cases x with
 | tup xs=>exact h _ _ q
 | str z=>exact ⟨q.1,h _ _ q.2⟩
 | _=>obtain ⟨xs,e,q⟩:=q;exact ⟨xs,e,h _ _ q⟩
theorem dC {b:B} {vs:List PV} {st:AH} {Q Q':EK} (h:∀v st,Q v st→Q' v st) (q:bX b vs st Q):bX b vs st Q':=by
 cases b with
 | len =>
  obtain ⟨x,rfl,q⟩:=aT q
  rcases kr q with ⟨z,rfl,h1,q⟩|⟨xs,e,q⟩
  ·exact ⟨h1,h _ _ q⟩
  ·exact pe e (h _ _ q)
 | max2=>obtain ⟨x,y,rfl,q⟩:=cH q;obtain ⟨i,j,rfl,rfl,q⟩:=ba q;exact h _ _ q
 | min2=>obtain ⟨x,y,rfl,q⟩:=cH q;obtain ⟨i,j,rfl,rfl,q⟩:=ba q;exact h _ _ q
 | divmod=>obtain ⟨x,y,rfl,q⟩:=cH q;obtain ⟨i,j,rfl,rfl,q⟩:=ba q;exact ⟨q.1,h _ _ q.2⟩
 | int1 =>
  obtain ⟨x,rfl,q⟩:=aT q
  rcases iJ q with ⟨b,rfl,q⟩|⟨z,n,rfl,h1,h2,q⟩
  ·exact h _ _ q
  ·exact ⟨h1,n,h2,h _ _ q⟩
 | str1=>exact False.elim q
 | tuple1=>obtain ⟨x,rfl,xs,h1,q⟩:=aT q;exact ⟨xs,h1,h _ _ q⟩
 | list1=>exact False.elim q
 | all1=>exact False.elim q
 | any1=>exact False.elim q
 | abs1=>obtain ⟨x,rfl,q⟩:=aT q;obtain ⟨i,rfl,q⟩:=mU q;exact h _ _ q
 | sortS=>obtain ⟨x,rfl,xs,h1,h2,q⟩:=aT q;exact ⟨xs,h1,h2,fun z p s=>h _ _ (q z p s)⟩
 | max1=>obtain ⟨x,rfl,xs,h1,h2,q⟩:=aT q;exact ⟨xs,h1,h2,fun z p s=>h _ _ (q z p s)⟩
 | sorted1=>exact False.elim q
 | repr1=>exact False.elim q
theorem dI {m:M} {x:PV} {vs:List PV} {st:AH} {Q Q':EK} (h:∀v st,Q v st→Q' v st) (q:lu m x vs st Q):lu m x vs st Q':=by
 cases m with
 | append=>obtain ⟨n,rfl,q⟩:=gi q;obtain ⟨v,rfl,xs,h1,h2,q⟩:=aT q;exact ⟨xs,h1,h2,h _ _ q⟩
 | pop0=>obtain ⟨n,rfl,q⟩:=gi q;obtain ⟨rfl,xs,v,h1,h2,q⟩:=jc q;exact ⟨xs,v,h1,h2,h _ _ q⟩
 | extend=>exact False.elim q
 | insert=>exact False.elim q
 | count=>exact False.elim q
theorem aZ {x:PV} {st:AH} {Q Q':BK} (h:∀v st,Q v st→Q' v st) (q:cx x st Q):cx x st Q':=by
 unfold cx at q ⊢
 split at q <;> first
  | exact h _ _ q
  | exact q.elim
  | (obtain ⟨xs,h1,q⟩:=q;exact ⟨xs,h1,h _ _ q⟩)
theorem iH {o i v:PV} {st:AH} {k k':AH→Prop} (h:∀st,k st→k' st) (q:jH o i v st k):jH o i v st k':=by
 unfold jH at q ⊢
 split at q
 ·obtain ⟨xs,h1,j,h2,q⟩:=q
  exact ⟨xs,h1,j,h2,h _ q⟩
 ·obtain ⟨xs,h1,h2,q⟩:=q
  exact ⟨xs,h1,h2,h _ q⟩
 ·exact q
theorem kR {st0:AH} {Q Q':EK} (h:∀v st,Q v st→Q' v st) {v:PV} {st:AH} (q:Tmp st0 Q v st):Tmp st0 Q' v st:=by
 obtain ⟨st1,g,h1,h2,h3,h4,q⟩:=q
 exact ⟨st1,g,h1,h2,h3,h4,h _ _ q⟩
theorem bh {chk:AH→Prop} {body body':PV→AH→(Option PV→AH→Prop)→Prop} (hb:∀x st k k',(∀o st,k o st→k' o st)→body x st k→body' x st k') :
  ∀ {xs acc:List PV} {st:AH} {Q Q':LK},(∀v st,Q v st→Q' v st)→aG chk body xs acc st Q→aG chk body' xs acc st Q'
 | [],acc,st,Q,Q',h,q=>⟨q.1,h _ _ q.2⟩
 | x::xs,acc,st,Q,Q',h,q=>⟨q.1,hb _ _ _ _ (fun o st' z=>bh hb h z) q.2⟩
section
variable {Γ:Nat→FSp}
noncomputable def aV (Γ:Nat→FSp):Prop:=∀f vs st Q Q',(∀v st,Q v st→Q' v st)→Γ f vs st Q→Γ f vs st Q'
mutual
theorem aa (G:aV Γ):∀(e:E) {ρ:Fr} {st:AH} {Q Q':EK},(∀v st,Q v st→Q' v st)→wpE Γ e ρ st Q→wpE Γ e ρ st Q'
 | .var i,ρ,st,Q,Q',h,q=>by
  skip
  obtain ⟨v,h1,q⟩:=q
  exact ⟨v,h1,h _ _ q⟩
 | .int i,ρ,st,Q,Q',h,q=>by exact h _ _ q
 | .bl i,ρ,st,Q,Q',h,q=>by exact h _ _ q
 | .non,ρ,st,Q,Q',h,q=>by exact h _ _ q
 | .str i,ρ,st,Q,Q',h,q=>by exact h _ _ q
 | .gv _ i,ρ,st,Q,Q',h,q=>by exact h _ _ q
 | .tup es,ρ,st,Q,Q',h,q=>by exact au G es (fun vs st1 z=>⟨z.1,h _ _ z.2⟩) q
 | .lst es,ρ,st,Q,Q',h,q=>by exact au G es (fun vs st1 z=>⟨z.1,h _ _ z.2⟩) q
 | .dct0,ρ,st,Q,Q',h,q=>by exact h _ _ q
 | .bad,ρ,st,Q,Q',h,q=>False.elim q
 | .jrev _,ρ,st,Q,Q',h,q=>False.elim q
 | .dcp a,ρ,st,Q,Q',h,q=>by
  refine aa G a (fun x st1 z=>?_) q
  obtain ⟨n,e,kvs,h1,z⟩:=z
  exact ⟨n,e,kvs,h1,h _ _ z⟩
 | .clr a,ρ,st,Q,Q',h,q=>by
  refine aa G a (fun x st1 z=>?_) q
  obtain ⟨n,e,kvs,h1,z⟩:=z
  exact ⟨n,e,kvs,h1,h _ _ z⟩
 | .sset _,ρ,st,Q,Q',h,q=>False.elim q
 | .part _ _,ρ,st,Q,Q',h,q=>False.elim q
 | .pcall _ _,ρ,st,Q,Q',h,q=>False.elim q
 | .hm _ _ _,ρ,st,Q,Q',h,q=>False.elim q
 | .dct1 _ _,ρ,st,Q,Q',h,q=>False.elim q
 | .bin op a b,ρ,st,Q,Q',h,q=>by exact aa G a (fun x st1 z=>aa G b (fun y st2 z=>iO h z) z) q
 | .neg a,ρ,st,Q,Q',h,q=>by
  skip
  refine aa G a (fun x st1 z=>?_) q
  obtain ⟨i,e,z⟩:=z
  exact ⟨i,e,h _ _ z⟩
 | .not a,ρ,st,Q,Q',h,q=>by
  skip
  refine aa G a (fun x st1 z=>?_) q
  obtain ⟨i,e,z⟩:=z
  exact ⟨i,e,h _ _ z⟩
 | .cmp op a b,ρ,st,Q,Q',h,q=>by exact aa G a (fun x st1 z=>aa G b (fun y st2 z=>dy h z) z) q
 | .bop true es,ρ,st,Q,Q',h,q=>by exact fO G es h q
 | .bop false es,ρ,st,Q,Q',h,q=>by exact ff G es h q
 | .ite c a b,ρ,st,Q,Q',h,q=>by
  skip
  refine aC G c (fun k st1 z=>?_) q
  cases k with
  | true=>rw [if_pos rfl] at z ⊢;exact aa G a h z
  | false=>rw [if_neg Bool.false_ne_true] at z ⊢;exact aa G b h z
 | .ix a b,ρ,st,Q,Q',h,q=>by exact aa G a (fun x st1 z=>aa G b (fun y st2 z=>eI h z) z) q
 | .sl a lo hi,ρ,st,Q,Q',h,q=>by exact aa G a (fun x st1 z=>e7 G lo (fun l st2 z=>e7 G hi (fun u st3 z=>j_ h z) z) z) q
 | .call f es,ρ,st,Q,Q',h,q=>by exact au G es (fun vs st1 z=>G _ _ _ _ _ h z) q
 | .blt b es,ρ,st,Q,Q',h,q=>by exact au G es (fun vs st1 z=>dC h z) q
 | .inst a t,ρ,st,Q,Q',h,q=>by
  skip
  refine aa G a (fun x st1 z=>?_) q
  obtain ⟨i,e,z⟩:=z
  exact ⟨i,e,h _ _ z⟩
 | .met m o es,ρ,st,Q,Q',h,q=>by exact aa G o (fun x st1 z=>⟨z.1,au G es (fun vs st2 z=>dI h z) z.2⟩) q
 | .comp elt tg it ifs nt caps,ρ,st,Q,Q',h,q=>by
  skip
  exact cK G it (fun xs chk st1 z=>⟨z.1,bh (fun x st k k' hk w=>aq G tg (fun ρ' st3 w=>aB G ifs (fun c st4 w=>by
   cases c with
   | true=>rw [if_pos rfl] at w ⊢;exact aa G elt (fun v st5 w=>hk _ _ w) w
   | false=>rw [if_neg Bool.false_ne_true] at w ⊢;exact hk _ _ w) w) w) (fun vs st2 w=>h _ _ w) z.2⟩) q
 | .tmp a,ρ,st,Q,Q',h,q=>by exact aa G a (fun v st1 z=>kR h z) q
 | .compK elt tg wk e ifs nt caps,ρ,st,Q,Q',h,q=>by
  skip
  refine aa G e (fun x st1 z=>?_) q
  obtain ⟨n,ex,kvs,e1,e2,z⟩:=z
  exact ⟨n,ex,kvs,e1,e2,bh (fun x st k k' hk w=>aq G tg (fun ρ' st3 w=>aB G ifs (fun c st4 w=>by
   cases c with
   | true=>rw [if_pos rfl] at w ⊢;exact aa G elt (fun v st5 w=>hk _ _ w) w
   | false=>rw [if_neg Bool.false_ne_true] at w ⊢;exact hk _ _ w) w) w) (fun vs st2 w=>⟨w.1,h _ _ w.2⟩) z⟩
 | .compD kx vx tg wk e ifs nt caps,ρ,st,Q,Q',h,q=>by
  skip
  refine aa G e (fun x st1 z=>?_) q
  obtain ⟨n,ex,kvs,e1,e2,z⟩:=z
  exact ⟨n,ex,kvs,e1,e2,bh (fun x st k k' hk w=>aq G tg (fun ρ' st3 w=>aB G ifs (fun c st4 w=>by
   cases c with
   | true=>rw [if_pos rfl] at w ⊢;exact aa G kx (fun u st5 w=>aa G vx (fun v st6 w=>let ⟨z,e3,w⟩:=w;⟨z,e3,hk _ _ w⟩) w) w
   | false=>rw [if_neg Bool.false_ne_true] at w ⊢;exact hk _ _ w) w) w) (fun vs st2 w=>⟨w.1,fun ps e3=>h _ _ (w.2 ps e3)⟩) z⟩
 | .dcl a,ρ,st,Q,Q',h,q=>by
  skip
  refine aa G a (fun x st1 z=>?_) q
  obtain ⟨n,ex,ps,e1,e2,z⟩:=z
  exact ⟨n,ex,ps,e1,e2,h _ _ z⟩
 | .eqd ne a b,ρ,st,Q,Q',h,q=>by exact aa G a (fun x st1 z=>aa G b (fun y st2 z=>⟨z.1,h _ _ z.2⟩) z) q
theorem au (G:aV Γ):∀(e:Es) {ρ:Fr} {st:AH} {Q Q':LK},(∀v st,Q v st→Q' v st)→bx Γ e ρ st Q→bx Γ e ρ st Q'
 | .nil,ρ,st,Q,Q',h,q=>by exact h _ _ q
 | .cons e es,ρ,st,Q,Q',h,q=>by exact aa G e (fun x st1 z=>au G es (fun xs st2 z=>h _ _ z) z) q
theorem e7 (G:aV Γ):∀(e:O) {ρ:Fr} {st:AH} {Q Q':Option Int→AH→Prop},(∀v st,Q v st→Q' v st)→wpO Γ e ρ st Q→wpO Γ e ρ st Q'
 | .no,ρ,st,Q,Q',h,q=>by exact h _ _ q
 | .yes e,ρ,st,Q,Q',h,q=>by
  skip
  refine aa G e (fun x st1 z=>?_) q
  obtain ⟨i,e,z⟩:=z
  exact ⟨i,e,h _ _ z⟩
theorem aC (G:aV Γ):∀(e:E) {ρ:Fr} {st:AH} {Q Q':BK},(∀v st,Q v st→Q' v st)→wpT Γ e ρ st Q→wpT Γ e ρ st Q'
 | .bop true es,ρ,st,Q,Q',h,q=>by exact aB G es h q
 | .bop false es,ρ,st,Q,Q',h,q=>by exact fv G es h q
 | .not a,ρ,st,Q,Q',h,q=>by exact aC G a (fun c st1 z=>h _ _ z) q
 | .cmp op a b,ρ,st,Q,Q',h,q=>by
  skip
  exact aa G a (fun x st1 z=>aa G b (fun y st2 z=>dy (fun v st3 w=>by obtain ⟨c,e,w⟩:=w;exact ⟨c,e,h _ _ w⟩) z) z) q
 | .var i,ρ,st,Q,Q',h,q=>by
  skip
  obtain ⟨v,h1,q⟩:=q
  exact ⟨v,h1,aZ h q⟩
 | .call f es,ρ,st,Q,Q',h,q=>by exact au G es (fun vs st1 z=>G _ _ _ _ _ (fun v st2 z=>aZ h z) z) q
 | .blt b es,ρ,st,Q,Q',h,q=>by exact au G es (fun vs st1 z=>dC (fun v st2 z=>aZ h z) z) q
 | .inst a t,ρ,st,Q,Q',h,q=>by
  skip
  refine aa G a (fun x st1 z=>?_) q
  obtain ⟨i,e,z⟩:=z
  exact ⟨i,e,h _ _ z⟩
 | .tmp a,ρ,st,Q,Q',h,q=>by exact aa G a (fun v st1 z=>kR (fun v st2 z=>aZ h z) z) q
 | .ix a b,ρ,st,Q,Q',h,q=>by exact aa G a (fun x st1 z=>aa G b (fun y st2 z=>eI (fun v st3 z=>aZ h z) z) z) q
 | .pcall _ _,ρ,st,Q,Q',h,q=>False.elim q
 | .eqd ne a b,ρ,st,Q,Q',h,q=>by exact aa G a (fun x st1 z=>aa G b (fun y st2 z=>⟨z.1,h _ _ z.2⟩) z) q
 | .compK _ _ _ _ _ _ _,ρ,st,Q,Q',h,q=>False.elim q
 | .compD _ _ _ _ _ _ _ _,ρ,st,Q,Q',h,q=>False.elim q
 | .dcl _,ρ,st,Q,Q',h,q=>False.elim q
 | .hm _ _ _,ρ,st,Q,Q',h,q=>False.elim q
 | .int _,ρ,st,Q,Q',h,q=>False.elim q
 | .bl _,ρ,st,Q,Q',h,q=>False.elim q
 | .non,ρ,st,Q,Q',h,q=>False.elim q
 | .str _,ρ,st,Q,Q',h,q=>False.elim q
 | .gv _ _,ρ,st,Q,Q',h,q=>False.elim q
 | .tup _,ρ,st,Q,Q',h,q=>False.elim q
 | .lst _,ρ,st,Q,Q',h,q=>False.elim q
 | .dct0,ρ,st,Q,Q',h,q=>False.elim q
 | .bad,ρ,st,Q,Q',h,q=>False.elim q
 | .jrev _,ρ,st,Q,Q',h,q=>False.elim q
 | .dcp _,ρ,st,Q,Q',h,q=>False.elim q
 | .clr _,ρ,st,Q,Q',h,q=>False.elim q
 | .sset _,ρ,st,Q,Q',h,q=>False.elim q
 | .part _ _,ρ,st,Q,Q',h,q=>False.elim q
 | .dct1 _ _,ρ,st,Q,Q',h,q=>False.elim q
 | .bin _ _ _,ρ,st,Q,Q',h,q=>False.elim q
 | .neg _,ρ,st,Q,Q',h,q=>False.elim q
 | .ite _ _ _,ρ,st,Q,Q',h,q=>False.elim q
 | .sl _ _ _,ρ,st,Q,Q',h,q=>False.elim q
 | .met _ _ _,ρ,st,Q,Q',h,q=>False.elim q
 | .comp _ _ _ _ _ _,ρ,st,Q,Q',h,q=>False.elim q
theorem fO (G:aV Γ):∀(e:Es) {ρ:Fr} {st:AH} {Q Q':EK},(∀v st,Q v st→Q' v st)→jN Γ e ρ st Q→jN Γ e ρ st Q'
 | .nil,ρ,st,Q,Q',h,q=>False.elim q
 | .cons e .nil,ρ,st,Q,Q',h,q=>by exact aa G e h q
 | .cons e (.cons e2 es),ρ,st,Q,Q',h,q=>by
  skip
  refine aa G e (fun x st1 z=>?_) q
  obtain ⟨c,e,z⟩:=z
  refine ⟨c,e,?_⟩
  cases c with
  | true=>rw [if_pos rfl] at z ⊢;exact fO G (.cons e2 es) h z
  | false=>rw [if_neg Bool.false_ne_true] at z ⊢;exact h _ _ z
theorem ff (G:aV Γ):∀(e:Es) {ρ:Fr} {st:AH} {Q Q':EK},(∀v st,Q v st→Q' v st)→jr Γ e ρ st Q→jr Γ e ρ st Q'
 | .nil,ρ,st,Q,Q',h,q=>False.elim q
 | .cons e .nil,ρ,st,Q,Q',h,q=>by exact aa G e h q
 | .cons e (.cons e2 es),ρ,st,Q,Q',h,q=>by
  skip
  refine aa G e (fun x st1 z=>?_) q
  obtain ⟨c,e,z⟩:=z
  refine ⟨c,e,?_⟩
  cases c with
  | true=>rw [if_pos rfl] at z ⊢;exact h _ _ z
  | false=>rw [if_neg Bool.false_ne_true] at z ⊢;exact ff G (.cons e2 es) h z
theorem aB (G:aV Γ):∀(e:Es) {ρ:Fr} {st:AH} {Q Q':BK},(∀v st,Q v st→Q' v st)→bN Γ e ρ st Q→bN Γ e ρ st Q'
 | .nil,ρ,st,Q,Q',h,q=>by exact h _ _ q
 | .cons e .nil,ρ,st,Q,Q',h,q=>by exact aC G e h q
 | .cons e (.cons e2 es),ρ,st,Q,Q',h,q=>by
  skip
  refine aC G e (fun c st1 z=>?_) q
  cases c with
  | true=>rw [if_pos rfl] at z ⊢;exact aB G (.cons e2 es) h z
  | false=>rw [if_neg Bool.false_ne_true] at z ⊢;exact h _ _ z
theorem fv (G:aV Γ):∀(e:Es) {ρ:Fr} {st:AH} {Q Q':BK},(∀v st,Q v st→Q' v st)→jy Γ e ρ st Q→jy Γ e ρ st Q'
 | .nil,ρ,st,Q,Q',h,q=>by exact h _ _ q
 | .cons e .nil,ρ,st,Q,Q',h,q=>by exact aC G e h q
 | .cons e (.cons e2 es),ρ,st,Q,Q',h,q=>by
  skip
  refine aC G e (fun c st1 z=>?_) q
  cases c with
  | true=>rw [if_pos rfl] at z ⊢;exact h _ _ z
  | false=>rw [if_neg Bool.false_ne_true] at z ⊢;exact fv G (.cons e2 es) h z
theorem cK (G:aV Γ):∀(e:It) {ρ:Fr} {st:AH} {Q Q':List PV→(AH→Prop)→AH→Prop},(∀v c st,Q v c st→Q' v c st)→d9 Γ e ρ st Q→d9 Γ e ρ st Q'
 | .seq a,ρ,st,Q,Q',h,q=>by
  skip
  refine aa G a (fun x st1 z=>?_) q
  obtain ⟨c,e,z⟩:=z
  exact ⟨c,e,h _ _ _ z⟩
 | .range1 a,ρ,st,Q,Q',h,q=>by
  skip
  refine aa G a (fun x st1 z=>?_) q
  obtain ⟨c,e,h1,h2,z⟩:=z
  exact ⟨c,e,h1,h2,h _ _ _ z⟩
 | .range2 a b,ρ,st,Q,Q',h,q=>by
  skip
  refine aa G a (fun x st1 z=>aa G b (fun y st2 z=>?_) z) q
  obtain ⟨i,j,e,e2,h1,z⟩:=z
  exact ⟨i,j,e,e2,h1,h _ _ _ z⟩
 | .zip _ _,ρ,st,Q,Q',h,q=>False.elim q
 | .enum a,ρ,st,Q,Q',h,q=>by
  skip
  refine aa G a (fun x st1 z=>?_) q
  obtain ⟨c,e,z⟩:=z
  exact ⟨c,e,h _ _ _ z⟩
 | .chars a,ρ,st,Q,Q',h,q=>by
  refine aa G a (fun x st1 z=>?_) q
  obtain ⟨c,e,z⟩:=z
  exact ⟨c,e,h _ _ _ z⟩
 | .zip3 _ _ _,ρ,st,Q,Q',h,q=>False.elim q
 | .range3 _ _ _,ρ,st,Q,Q',h,q=>False.elim q
theorem aq (G:aV Γ):∀(t:Tg) {v:PV} {ρ:Fr} {st:AH} {Q Q':Fr→AH→Prop},(∀ρ st,Q ρ st→Q' ρ st)→bd Γ t v ρ st Q→bd Γ t v ρ st Q'
 | .name i,v,ρ,st,Q,Q',h,q=>by exact h _ _ q
 | .tup ts,v,ρ,st,Q,Q',h,q=>by
  skip
  obtain ⟨xs,e,hl,q⟩:=q
  exact ⟨xs,e,hl,bZ G ts h q⟩
 | .ltup ts,v,ρ,st,Q,Q',h,q=>by
  skip
  obtain ⟨xs,e,hl,q⟩:=q
  exact ⟨xs,e,hl,bZ G ts h q⟩
 | .sub o i,v,ρ,st,Q,Q',h,q=>by exact aa G o (fun x st1 z=>aa G i (fun y st2 z=>iH (fun st3 z=>h _ _ z) z) z) q
theorem bZ (G:aV Γ):∀(t:Tgs) {v:List PV} {ρ:Fr} {st:AH} {Q Q':Fr→AH→Prop},(∀ρ st,Q ρ st→Q' ρ st)→cJ Γ t v ρ st Q→cJ Γ t v ρ st Q'
 | .nil,v,ρ,st,Q,Q',h,q=>by exact ⟨q.1,h _ _ q.2⟩
 | .cons t ts,v,ρ,st,Q,Q',h,q=>by
  skip
  obtain ⟨x,r,e,q⟩:=q
  exact ⟨x,r,e,aq G t (fun ρ' st' z=>bZ G ts h z) q⟩
end
structure eS (D D':aJ):Prop where
 nx:∀ρ st,D.nx ρ st→D'.nx ρ st
 rt:∀v st,D.rt v st→D'.rt v st
 bk:∀ρ st,D.bk ρ st→D'.bk ρ st
 ct:∀ρ st,D.ct ρ st→D'.ct ρ st
theorem fu {chk:AH→Prop} {body body':PV→Fr→AH→aJ→Prop} {D D':aJ} (hD:eS D D') (hb:∀x ρ st D D',eS D D'→body x ρ st D→body' x ρ st D') :
  ∀ {xs:List PV} {ρ:Fr} {st:AH},jU chk body D xs ρ st→jU chk body' D' xs ρ st
 | [],ρ,st,q=>⟨q.1,hD.nx _ _ q.2⟩
 | x::xs,ρ,st,q=>by
  refine ⟨q.1,hb _ _ _ _ _ ?_ q.2⟩
  exact ⟨fun _ _ z=>fu hD hb z,hD.rt,hD.nx,fun _ _ z=>fu hD hb z⟩
theorem dq {c:Fr→AH→BK→Prop} {body:Fr→AH→aJ→Prop} {D D':aJ} (hD:eS D D') (hc:∀ρ st Q Q',(∀b st,Q b st→Q' b st)→c ρ st Q→c ρ st Q')
  (hb:∀ρ st D D',eS D D'→body ρ st D→body ρ st D'):∀ {n:Nat} {ρ:Fr} {st:AH},ce c body D n ρ st→ce c body D' n ρ st
 | 0,ρ,st,q=>q
 | n+1,ρ,st,q=>hc _ _ _ _ (fun b st1 z=>by
  cases b with
  | true =>
   rw [if_pos rfl] at z ⊢
   refine hb _ _ _ _ ?_ z
   exact ⟨fun _ _ z=>dq hD hc hb z,hD.rt,hD.nx,fun _ _ z=>dq hD hc hb z⟩
  | false=>rw [if_neg Bool.false_ne_true] at z ⊢;exact hD.nx _ _ z) q
theorem iZ {op:Operator} {x y:PV} {st:AH} {Q Q':EK} (h:∀v st,Q v st→Q' v st) (q:iy op x y st Q):iy op x y st Q':=by
 unfold iy at q ⊢
 split at q
 ·exact h _ _ q
 ·exact h _ _ q
 ·obtain ⟨xs,ys,h1,h2,h3,q⟩:=q
  exact ⟨xs,ys,h1,h2,h3,h _ _ q⟩
 ·exact q
mutual
theorem e8 (G:aV Γ):∀(s:S) {ρ:Fr} {st:AH} {D D':aJ},eS D D'→wpS Γ s ρ st D→wpS Γ s ρ st D'
 | .set t e,ρ,st,D,D',h,q=>by exact aa G e (fun v st1 z=>aq G t h.nx z) q
 | .par i j a b,ρ,st,D,D',h,q=>by exact aa G a (fun v st1 z=>aa G b (fun w st2 z=>h.nx _ _ z) z) q
 | .aug i op e,ρ,st,D,D',h,q=>by
  skip
  obtain ⟨x,h1,q⟩:=q
  exact ⟨x,h1,aa G e (fun v st1 z=>iZ (fun _ _ z=>h.nx _ _ z) z) q⟩
 | .expr e,ρ,st,D,D',h,q=>by exact aa G e (fun v st1 z=>h.nx _ _ z) q
 | .ret e,ρ,st,D,D',h,q=>by exact aa G e h.rt q
 | .retN,ρ,st,D,D',h,q=>by exact h.rt _ _ q
 | .ifS c a b,ρ,st,D,D',h,q=>by
  skip
  refine aC G c (fun k st1 z=>?_) q
  cases k with
  | true=>rw [if_pos rfl] at z ⊢;exact aE G a h z
  | false=>rw [if_neg Bool.false_ne_true] at z ⊢;exact aE G b h z
 | .whileS c b,ρ,st,D,D',h,q=>by
  skip
  obtain ⟨n,q⟩:=q
  refine ⟨n,dq h (c:=wpT Γ c) (body:=aK Γ b) ?_ ?_ q⟩
  ·exact fun _ _ _ _ hk z=>aC G c hk z
  ·exact fun _ _ _ _ hk z=>aE G b hk z
 | .forS t it b,ρ,st,D,D',h,q=>by
  skip
  exact cK G it (fun xs chk st1 z=>fu h (fun x ρ st D D' hd w=>aq G t (fun ρ2 st2 w=>aE G b hd w) w) z) q
 | .pass,ρ,st,D,D',h,q=>by exact h.nx _ _ q
 | .bad,ρ,st,D,D',h,q=>False.elim q
 | .set2 i j e,ρ,st,D,D',h,q=>by exact aa G e (fun v st1 z=>h.nx _ _ z) q
 | .brk,ρ,st,D,D',h,q=>by exact h.bk _ _ q
 | .cont,ρ,st,D,D',h,q=>by exact h.ct _ _ q
theorem aE (G:aV Γ):∀(s:Ss) {ρ:Fr} {st:AH} {D D':aJ},eS D D'→aK Γ s ρ st D→aK Γ s ρ st D'
 | .nil,ρ,st,D,D',h,q=>by exact h.nx _ _ q
 | .cons s ss,ρ,st,D,D',h,q=>by
  skip
  refine e8 G s ?_ q
  exact ⟨fun _ _ z=>aE G ss h z,h.rt,h.bk,h.ct⟩
end
end
end FW
set_option Elab.async false
set_option linter.all false
set_option maxRecDepth 100000
namespace FW
open PySem PySem.Spec PyProof.Rows L2 HX
noncomputable def RdF (K:PySem.W.Frag) (H:Hp) (a:Addr) (ys:List V):Prop :=
 (∃o,H a=some (.frz o (.lst ys)))∨∃(o:Obj) (its:Array Value) (n:Nat),K.lookup a=some o∧o.cls=.type "list"∧o.dict=none∧o.data=.seq its n∧its.size≤sizeLine∧Vals ys its.toList
theorem RdF.sq {K:PySem.W.Frag} {H:Hp} {a:Addr} {ys:List V} (h:RdF K H a ys):SqL K H a ys:=by
 rcases h with h|h
 ·exact .inl (.inr h)
 ·exact .inr h
mutual
noncomputable def R (K:PySem.W.Frag) (m:List Addr) (H:Hp):PV→V→Prop
 | .non,v=>v=.non
 | .bl b,v=>v=.bl b
 | .int i,v=>v=.int i
 | .str x,v=>v=.str x
 | .ref n,v=>∃a,m[n]?=some a∧v=.ref a
 | .tup xs,v=>∃a ys,v=.ref a∧SqT K H a ys∧Rs K m H xs ys
 | .rdl xs,v=>∃a ys,v=.ref a∧RdF K H a ys∧Rs K m H xs ys
 | .fn a,v=>v=.ref a
noncomputable def Rs (K:PySem.W.Frag) (m:List Addr) (H:Hp):List PV→List V→Prop
 | [],ys=>ys=[]
 | x::xs,ys=>∃y r,ys=y::r∧R K m H x y∧Rs K m H xs r
end
section
variable {K:PySem.W.Frag} {m m':List Addr} {H H':Hp} {v:V} {vs:List V}
theorem R_non:R K m H .non v↔v=.non:=by rw [R]
theorem R_bl {b:Bool}:R K m H (.bl b) v↔v=.bl b:=by rw [R]
theorem R_int {b:Int}:R K m H (.int b) v↔v=.int b:=by rw [R]
theorem R_str {b:Str}:R K m H (.str b) v↔v=.str b:=by rw [R]
theorem R_ref {n:Nat}:R K m H (.ref n) v↔∃a,m[n]?=some a∧v=.ref a:=by rw [R]
theorem R_tup {xs:List PV}:R K m H (.tup xs) v↔∃a ys,v=.ref a∧SqT K H a ys∧Rs K m H xs ys:=by rw [R]
theorem cG {xs:List PV}:R K m H (.rdl xs) v↔∃a ys,v=.ref a∧RdF K H a ys∧Rs K m H xs ys:=by rw [R]
theorem oD {a:Nat}:R K m H (.fn a) v↔v=.ref a:=by rw [R]
theorem Rs_nil:Rs K m H [] vs↔vs=[]:=by rw [Rs]
theorem Rs_cons {x:PV} {xs:List PV}:Rs K m H (x::xs) vs↔∃y r,vs=y::r∧R K m H x y∧Rs K m H xs r:=by rw [Rs]
theorem Rs_cons' {x:PV} {xs:List PV}:Rs K m H (x::xs) (v::vs)↔R K m H x v∧Rs K m H xs vs:=by
 rw [Rs_cons]
 constructor
 ·rintro ⟨_,_,e,h1,h2⟩;cases e;exact ⟨h1,h2⟩
 ·rintro ⟨h1,h2⟩;exact ⟨_,_,rfl,h1,h2⟩
theorem Rs.len:∀ {xs:List PV} {ys:List V},Rs K m H xs ys→xs.length=ys.length
 | [],ys,h=>by rw [Rs_nil] at h;subst h;rfl
 | x::xs,ys,h=>by
  rw [Rs_cons] at h
  obtain ⟨y,r,rfl,_,h⟩:=h
  simp [Rs.len h]
theorem Rs.get:∀ {xs:List PV} {ys:List V} {i:Nat} {x:PV},Rs K m H xs ys→xs[i]?=some x→∃y,ys[i]?=some y∧R K m H x y
 | [],ys,i,x,h,e=>by simp at e
 | x::xs,ys,i,z,h,e=>by
  rw [Rs_cons] at h
  obtain ⟨y,r,rfl,h1,h⟩:=h
  cases i with
  | zero=>simp at e;subst e;exact ⟨y,rfl,h1⟩
  | succ i =>
   obtain ⟨w,e1,e2⟩:=Rs.get h (by simpa using e)
   exact ⟨w,by simpa using e1,e2⟩
theorem Rs.app:∀ {xs zs:List PV} {ys ws:List V},Rs K m H xs ys→Rs K m H zs ws→Rs K m H (xs++zs) (ys++ws)
 | [],zs,ys,ws,h,h'=>by rw [Rs_nil] at h;subst h;exact h'
 | x::xs,zs,ys,ws,h,h'=>by
  rw [Rs_cons] at h
  obtain ⟨y,r,rfl,h1,h⟩:=h
  rw [List.cons_append,Rs_cons]
  exact ⟨y,r++ws,rfl,h1,h.app h'⟩
theorem Rs.drop:∀ {xs:List PV} {ys:List V} (n:Nat),Rs K m H xs ys→Rs K m H (xs.drop n) (ys.drop n)
 | xs,ys,0,h=>by simpa using h
 | [],ys,n+1,h=>by rw [Rs_nil] at h;subst h;simp [Rs_nil]
 | x::xs,ys,n+1,h=>by
  rw [Rs_cons] at h
  obtain ⟨y,r,rfl,h1,h⟩:=h
  simpa using Rs.drop n h
theorem Rs.take:∀ {xs:List PV} {ys:List V} (n:Nat),Rs K m H xs ys→Rs K m H (xs.take n) (ys.take n)
 | xs,ys,0,h=>by simp [Rs_nil]
 | [],ys,n+1,h=>by rw [Rs_nil] at h;subst h;simp [Rs_nil]
 | x::xs,ys,n+1,h=>by
  rw [Rs_cons] at h
  obtain ⟨y,r,rfl,h1,h⟩:=h
  rw [List.take_succ_cons,List.take_succ_cons,Rs_cons']
  exact ⟨h1,Rs.take n h⟩
theorem Rs.set {x:PV} {y:V} (hx:R K m H x y):∀ {xs:List PV} {ys:List V} (n:Nat),Rs K m H xs ys→Rs K m H (xs.set n x) (ys.set n y)
 | [],ys,n,h=>by rw [Rs_nil] at h;subst h;simp [Rs_nil]
 | z::xs,ys,0,h=>by
  rw [Rs_cons] at h
  obtain ⟨w,r,rfl,h1,h⟩:=h
  rw [List.set_cons_zero,List.set_cons_zero,Rs_cons']
  exact ⟨hx,h⟩
 | z::xs,ys,n+1,h=>by
  rw [Rs_cons] at h
  obtain ⟨w,r,rfl,h1,h⟩:=h
  rw [List.set_cons_succ,List.set_cons_succ,Rs_cons']
  exact ⟨h1,Rs.set hx n h⟩
theorem Rs.cut {xs:List PV} {ys:List V} (h:Rs K m H xs ys) (lo hi:Option Int):Rs K m H (jx xs lo hi) (ir ys lo hi):=by
 unfold jx ir
 rw [h.len]
 exact (h.drop _).take _
theorem Rs.atI {xs:List PV} {ys:List V} {i:Int} {x:PV} (h:Rs K m H xs ys) (e:atI xs i=some x):∃y,L2.atI ys i=some y∧R K m H x y:=by
 unfold L2.atI at e ⊢
 rw [h.len] at e
 cases q:ixN ys.length i with
 | none=>rw [q] at e;cases e
 | some j =>
  rw [q] at e
  obtain ⟨y,e1,e2⟩:=h.get (show xs[j]?=some x from e)
  exact ⟨y,e1,e2⟩
theorem Rs.dropLast {xs:List PV} {ys:List V} (h:Rs K m H xs ys):Rs K m H xs.dropLast ys.dropLast:=by
 rw [List.dropLast_eq_take,List.dropLast_eq_take,h.len]
 exact h.take _
theorem Rs.rep {xs:List PV} {ys:List V} (h:Rs K m H xs ys):∀n:Nat,Rs K m H (List.replicate n xs).flatten (List.replicate n ys).flatten
 | 0=>by simp [Rs_nil]
 | n+1=>by
  rw [List.replicate_succ,List.replicate_succ,List.flatten_cons,List.flatten_cons]
  exact h.app (Rs.rep h n)
theorem Rs.one {x:PV} {y:V} (h:R K m H x y):Rs K m H [x] [y]:=by rw [Rs_cons',Rs_nil];exact ⟨h,rfl⟩
end
noncomputable def aL:List Str:=["coming","latest","through"]
noncomputable def TB (K:PySem.W.Frag) (H:Hp):Prop:=∀x∈aL,∀c T,PySem.W.tabIn K x=some (c,T)→(∀y∈aL,∀d,PySem.W.tabIn K y=some (d,T)→y=x)∧∃ps,H T=some (.tbl ps)∧TriplesOk ps.toList ∧
 ∀pos cv,codeAmong pos ps.toList=some cv→∃c' oc,cv=.ref c'∧H c'=some (.frz oc (.own 0))∧qB oc (x++".<locals>."++"<lambda>")
theorem TB.keep {K:PySem.W.Frag} {H H':Hp} (t:TB K H) (h1:∀a ps,H a=some (.tbl ps)→H' a=some (.tbl ps)) (h2:∀a o,H a=some (.frz o (.own 0))→H' a=some (.frz o (.own 0))):TB K H':=fun x hx c T e=>by
 obtain ⟨e0,ps,e1,e2,e3⟩:=t x hx c T e
 refine ⟨e0,ps,h1 _ _ e1,e2,fun pos cv q=>?_⟩
 obtain ⟨c',oc,g1,g2,g3⟩:=e3 pos cv q
 exact ⟨c',oc,g1,h2 _ _ g2,g3⟩
structure Ext (K:PySem.W.Frag) (m:List Addr) (H:Hp) (m':List Addr) (H':Hp):Prop where
 pre:m <+: m'
 new:∀a∈m',a∈m∨H a=none
 fr:∀a o,a ∉ m→H a=some o→(∀ps,o≠.tbl ps)→H' a=some o
 tup:∀a ys,SqT K H a ys→SqT K H' a ys
 rdf:∀a ys,RdF K H a ys→RdF K H' a ys
 tbs:∀a ps,a ∉ m→H a=some (.tbl ps)→∃ps',H' a=some (.tbl ps')
 tb:TB K H→TB K H'
 frz:∀a o u,H a=some (.frz o u)→H' a=some (.frz o u)
theorem Ext.refl (K:PySem.W.Frag) (m:List Addr) (H:Hp):Ext K m H m H:=⟨List.prefix_refl _,fun _ h=>.inl h,fun _ _ _ h _=>h,fun _ _ h=>h,fun _ _ h=>h,fun _ ps _ h=>⟨ps,h⟩,fun h=>h,fun _ _ _ h=>h⟩
theorem Ext.ne {K:PySem.W.Frag} {m m':List Addr} {H H':Hp} (x:Ext K m H m' H') {a:Addr} {o:HO} (hm:a ∉ m) (e:H a=some o):H' a≠none:=fun z=>by
 by_cases h:∃ps,o=.tbl ps
 ·obtain ⟨ps,rfl⟩:=h
  obtain ⟨q,e2⟩:=x.tbs a ps hm e
  rw [e2] at z;cases z
 ·rw [x.fr a o hm e fun ps q=>h ⟨ps,q⟩] at z;cases z
theorem Ext.trans {K:PySem.W.Frag} {m m1 m2:List Addr} {H H1 H2:Hp} (a:Ext K m H m1 H1) (b:Ext K m1 H1 m2 H2):Ext K m H m2 H2:=by
 have nin:∀c o,c ∉ m→H c=some o→c ∉ m1:=fun c o h e z=>by
  rcases a.new c z with q|q
  ·exact h q
  ·rw [e] at q;cases q
 refine ⟨a.pre.trans b.pre,fun c hc=>?_,fun c o h e n=>b.fr c o (nin c o h e) (a.fr c o h e n) n,fun c ys h=>b.tup c ys (a.tup c ys h),fun c ys h=>b.rdf c ys (a.rdf c ys h),fun c ps h e=>let ⟨p1,e1⟩:=a.tbs c ps h e;b.tbs c p1 (nin c _ h e) e1,fun h=>b.tb (a.tb h),fun c o u h=>b.frz c o u (a.frz c o u h)⟩
 rcases b.new c hc with q|q
 ·exact a.new c q
 ·by_cases hm:c∈m
  ·exact .inl hm
  ·cases e:H c with
   | none=>exact .inr rfl
   | some o=>exact absurd q (a.ne hm e)
theorem dB {m m':List Addr} (h:m <+: m') {n:Nat} {a:Addr} (e:m[n]?=some a):m'[n]?=some a:=by
 obtain ⟨t,rfl⟩:=h
 rw [List.getElem?_append_left (List.getElem?_eq_some_iff.mp e).1]
 exact e
mutual
theorem R.mono {K:PySem.W.Frag} {m m':List Addr} {H H':Hp} (x:Ext K m H m' H'):∀ {p:PV} {v:V},R K m H p v→R K m' H' p v
 | .non,v,h=>by rw [R_non] at h ⊢;exact h
 | .bl b,v,h=>by rw [R_bl] at h ⊢;exact h
 | .int b,v,h=>by rw [R_int] at h ⊢;exact h
 | .str b,v,h=>by rw [R_str] at h ⊢;exact h
 | .ref n,v,h=>by rw [R_ref] at h ⊢;obtain ⟨a,e,q⟩:=h;exact ⟨a,dB x.pre e,q⟩
 | .tup xs,v,h=>by rw [R_tup] at h ⊢;obtain ⟨a,ys,e,q,r⟩:=h;exact ⟨a,ys,e,x.tup _ _ q,Rs.mono x r⟩
 | .rdl xs,v,h=>by rw [cG] at h ⊢;obtain ⟨a,ys,e,q,r⟩:=h;exact ⟨a,ys,e,x.rdf _ _ q,Rs.mono x r⟩
 | .fn b,v,h=>by rw [oD] at h ⊢;exact h
theorem Rs.mono {K:PySem.W.Frag} {m m':List Addr} {H H':Hp} (x:Ext K m H m' H'):∀ {ps:List PV} {vs:List V},Rs K m H ps vs→Rs K m' H' ps vs
 | [],vs,h=>by rw [Rs_nil] at h ⊢;exact h
 | p::ps,vs,h=>by
  rw [Rs_cons] at h ⊢
  obtain ⟨y,r,e,h1,h2⟩:=h
  exact ⟨y,r,e,R.mono x h1,Rs.mono x h2⟩
end
mutual
theorem R.cut {K:PySem.W.Frag} {m:List Addr} {H:Hp} {k:Nat}:∀ {p:PV} {v:V},R K m H p v→p.bec k=true→R K (m.take k) H p v
 | .non,v,h,_=>by rw [R_non] at h ⊢;exact h
 | .bl b,v,h,_=>by rw [R_bl] at h ⊢;exact h
 | .int b,v,h,_=>by rw [R_int] at h ⊢;exact h
 | .str b,v,h,_=>by rw [R_str] at h ⊢;exact h
 | .ref n,v,h,z=>by
  rw [R_ref] at h ⊢
  obtain ⟨a,e,q⟩:=h
  rw [PV.bec] at z
  exact ⟨a,by rw [List.getElem?_take_of_lt (of_decide_eq_true z)];exact e,q⟩
 | .tup xs,v,h,z=>by
  rw [R_tup] at h ⊢
  obtain ⟨a,ys,e,q,r⟩:=h
  rw [PV.bec] at z
  exact ⟨a,ys,e,q,Rs.cutm r z⟩
 | .rdl xs,v,h,z=>by
  rw [cG] at h ⊢
  obtain ⟨a,ys,e,q,r⟩:=h
  rw [PV.bec] at z
  exact ⟨a,ys,e,q,Rs.cutm r z⟩
 | .fn b,v,h,_=>by rw [oD] at h ⊢;exact h
theorem Rs.cutm {K:PySem.W.Frag} {m:List Addr} {H:Hp} {k:Nat}:∀ {ps:List PV} {vs:List V},Rs K m H ps vs→PV.becs k ps=true→Rs K (m.take k) H ps vs
 | [],vs,h,_=>by rw [Rs_nil] at h ⊢;exact h
 | p::ps,vs,h,z=>by
  rw [Rs_cons] at h ⊢
  obtain ⟨y,r,e,h1,h2⟩:=h
  rw [PV.becs,Bool.and_eq_true] at z
  exact ⟨y,r,e,R.cut h1 z.1,Rs.cutm h2 z.2⟩
end
mutual
theorem R.bel {K:PySem.W.Frag} {m:List Addr} {H:Hp}:∀ {p:PV} {v:V},R K m H p v→p.bec m.length=true
 | .non,v,h=>by rw [PV.bec]
 | .bl b,v,h=>by rw [PV.bec]
 | .int b,v,h=>by rw [PV.bec]
 | .str b,v,h=>by rw [PV.bec]
 | .ref n,v,h=>by
  rw [R_ref] at h
  obtain ⟨a,e,q⟩:=h
  rw [PV.bec]
  exact decide_eq_true (List.getElem?_eq_some_iff.mp e).1
 | .tup xs,v,h=>by
  rw [R_tup] at h
  obtain ⟨a,ys,e,q,r⟩:=h
  rw [PV.bec]
  exact Rs.bel r
 | .rdl xs,v,h=>by
  rw [cG] at h
  obtain ⟨a,ys,e,q,r⟩:=h
  rw [PV.bec]
  exact Rs.bel r
 | .fn b,v,h=>by rw [PV.bec]
theorem Rs.bel {K:PySem.W.Frag} {m:List Addr} {H:Hp}:∀ {ps:List PV} {vs:List V},Rs K m H ps vs→PV.becs m.length ps=true
 | [],vs,h=>by rw [PV.becs]
 | p::ps,vs,h=>by
  rw [Rs_cons] at h
  obtain ⟨y,r,e,h1,h2⟩:=h
  rw [PV.becs,Bool.and_eq_true]
  exact ⟨R.bel h1,Rs.bel h2⟩
end
noncomputable def CellR (K:PySem.W.Frag) (m:List Addr) (H:Hp):Cell→Addr→Prop
 | .lst xs,a=>∃ys,H a=some (.lst ys)∧Rs K m H xs ys
 | .dk kvs,a=>∃ys,H a=some (.dK ys)∧ys.map (·.1)=kvs.map (·.1)∧Rs K m H (kvs.map (·.2)) (ys.map (·.2))
 | .fz kvs,a=>∃o ys,H a=some (.frz o (.dK ys))∧ys.map (·.1)=kvs.map (·.1)∧Rs K m H (kvs.map (·.2)) (ys.map (·.2))
theorem CellR.mono {K:PySem.W.Frag} {m m':List Addr} {H H':Hp} (x:Ext K m H m' H') {c:Cell} {a:Addr} (h:CellR K m H c a) (e:H' a=H a):CellR K m' H' c a:=by
 cases c with
 | lst xs=>obtain ⟨ys,h1,h2⟩:=h;exact ⟨ys,e.trans h1,h2.mono x⟩
 | dk kvs=>obtain ⟨ys,h1,h2,h3⟩:=h;exact ⟨ys,e.trans h1,h2,h3.mono x⟩
 | fz kvs=>obtain ⟨o,ys,h1,h2,h3⟩:=h;exact ⟨o,ys,e.trans h1,h2,h3.mono x⟩
theorem CellR.ex {K:PySem.W.Frag} {m:List Addr} {H:Hp} {c:Cell} {a:Addr} (h:CellR K m H c a):∃o,H a=some o∧(∀ys,o≠.tup ys)∧∀u p,o=.frz u p→∃ys,p=.dK ys:=by
 cases c with
 | lst xs=>obtain ⟨ys,h1,h2⟩:=h;exact ⟨_,h1,⟨fun _ z=>(by cases z),fun _ _ z=>(by cases z)⟩⟩
 | dk kvs=>obtain ⟨ys,h1,h2,h3⟩:=h;exact ⟨_,h1,⟨fun _ z=>(by cases z),fun _ _ z=>(by cases z)⟩⟩
 | fz kvs=>obtain ⟨o,ys,h1,h2,h3⟩:=h;exact ⟨_,h1,⟨fun _ z=>(by cases z),fun _ _ z=>(by cases z;exact ⟨ys,rfl⟩)⟩⟩
theorem CellR.cut {K:PySem.W.Frag} {m:List Addr} {H:Hp} {c:Cell} {a:Addr} {k:Nat} (h:CellR K m H c a) (z:c.bec k=true):CellR K (m.take k) H c a:=by
 cases c with
 | lst xs=>obtain ⟨ys,h1,h2⟩:=h;exact ⟨ys,h1,h2.cutm z⟩
 | dk kvs=>obtain ⟨ys,h1,h2,h3⟩:=h;exact ⟨ys,h1,h2,h3.cutm z⟩
 | fz kvs=>obtain ⟨o,ys,h1,h2,h3⟩:=h;exact ⟨o,ys,h1,h2,h3.cutm z⟩
theorem CellR.bel {K:PySem.W.Frag} {m:List Addr} {H:Hp} {c:Cell} {a:Addr} (h:CellR K m H c a):c.bec m.length=true:=by
 cases c with
 | lst xs=>obtain ⟨ys,h1,h2⟩:=h;exact h2.bel
 | dk kvs=>obtain ⟨ys,h1,h2,h3⟩:=h;exact h3.bel
 | fz kvs=>obtain ⟨o,ys,h1,h2,h3⟩:=h;exact h3.bel
structure RH (K:PySem.W.Frag) (m:List Addr) (H:Hp) (st:AH):Prop where
 len:m.length=st.length
 nd:m.Nodup
 at_:∀(n:Nat) (c:Cell) (a:Addr),st[n]?=some c→m[n]?=some a→CellR K m H c a
 tb:TB K H
section
variable {K:PySem.W.Frag} {m m':List Addr} {H H':Hp} {st:AH}
theorem RH.get {n:Nat} {c:Cell} (h:RH K m H st) (e:st[n]?=some c):∃a,m[n]?=some a∧CellR K m H c a:=by
 have:n<m.length:=by rw [h.len];exact (List.getElem?_eq_some_iff.mp e).1
 exact ⟨m[n],by simp [this],h.at_ n c _ e (by simp [this])⟩
theorem RH.mem {a:Addr} (h:RH K m H st) (e:a∈m):∃o,H a=some o∧(∀ys,o≠.tup ys)∧∀u p,o=.frz u p→∃ys,p=.dK ys:=by
 obtain ⟨n,hn,rfl⟩:=List.mem_iff_getElem.mp e
 have:n<st.length:=by rw [←h.len];exact hn
 exact (h.at_ n st[n] _ (by simp [this]) (by simp [hn])).ex
theorem RH.mem_tbl {a:Addr} (h:RH K m H st) (e:a∈m) {ps:Array Value}:H a≠some (.tbl ps):=fun z=>by
 obtain ⟨n,hn,rfl⟩:=List.mem_iff_getElem.mp e
 have:n<st.length:=by rw [←h.len];exact hn
 have c:=h.at_ n st[n] m[n] (by simp [this]) (by simp [hn])
 cases q:st[n] with
 | lst xs=>rw [q] at c;obtain ⟨ys,h1,_⟩:=c;rw [h1] at z;cases z
 | dk xs=>rw [q] at c;obtain ⟨ys,h1,_⟩:=c;rw [h1] at z;cases z
 | fz xs=>rw [q] at c;obtain ⟨o,ys,h1,_⟩:=c;rw [h1] at z;cases z
theorem RH.lst {n:Nat} {xs:List PV} {v:V} (h:RH K m H st) (e:st[n]?=some (.lst xs)) (r:R K m H (.ref n) v):∃a ys,v=.ref a∧m[n]?=some a∧H a=some (.lst ys)∧Rs K m H xs ys:=by
 rw [R_ref] at r
 obtain ⟨a,e1,rfl⟩:=r
 obtain ⟨ys,h1,h2⟩:=h.at_ n _ a e e1
 exact ⟨a,ys,rfl,e1,h1,h2⟩
theorem RH.fresh {p:Addr} (h:RH K m H st) (e:H p=none):p ∉ m:=fun z=>by
 obtain ⟨o,q,_⟩:=h.mem z
 rw [e] at q;cases q
theorem Ext.newT {p:Addr} {o:HO} (h:RH K m H st) (e:H p=none):Ext K m H m (upd H p o):=by
 refine ⟨List.prefix_refl _,fun _ z=>.inl z,fun a u _ q _=>?_,fun a ys q=>?_,fun a ys q=>?_,fun a ps _ q=>⟨ps,by rw [ab (ag q e)];exact q⟩,fun t=>t.keep (fun a ps q=>by rw [ab (ag q e)];exact q) fun a o q=>by rw [ab (ag q e)];exact q,fun a o u q=>by rw [ab (ag q e)];exact q⟩
 ·rw [ab (ag q e)];exact q
 ·rcases q with (q|⟨u,q⟩)|q
  ·exact .inl (.inl (by rw [ab (ag q e)];exact q))
  ·exact .inl (.inr ⟨u,by rw [ab (ag q e)];exact q⟩)
  ·exact .inr q
 ·rcases q with ⟨u,q⟩|q
  ·exact .inl ⟨u,by rw [ab (ag q e)];exact q⟩
  ·exact .inr q
theorem RH.keep (h:RH K m H st) (x:Ext K m H m H') (e:∀a∈m,H' a=H a):RH K m H' st :=
 ⟨h.len,h.nd,fun n c a h1 h2=>(h.at_ n c a h1 h2).mono x (e a (List.mem_of_getElem? h2)),x.tb h.tb⟩
theorem RH.newT {p:Addr} {o:HO} (h:RH K m H st) (e:H p=none):RH K m (upd H p o) st :=
 h.keep (Ext.newT h e) fun a ha=>ab fun z=>h.fresh e (z ▸ ha)
theorem Ext.new1 {p:Addr} {o:HO} (h:RH K m H st) (e:H p=none):Ext K m H (m++[p]) (upd H p o):=by
 have q:=Ext.newT (o:=o) h e
 refine ⟨List.prefix_append _ _,fun a z=>?_,q.fr,q.tup,q.rdf,q.tbs,q.tb,q.frz⟩
 rcases List.mem_append.mp z with z|z
 ·exact .inl z
 ·rw [List.mem_singleton] at z
  subst z
  exact .inr e
theorem RH.new1 {p:Addr} {o:HO} {c:Cell} (h:RH K m H st) (e:H p=none) (hc:CellR K (m++[p]) (upd H p o) c p):RH K (m++[p]) (upd H p o) (st++[c]):=by
 have x:=Ext.new1 (o:=o) h e
 refine ⟨by simp [h.len],List.nodup_append.mpr ⟨h.nd,List.nodup_cons.mpr ⟨by simp,List.nodup_nil⟩,fun a ha b hb z=>?_⟩,fun n c' a h1 h2=>?_,x.tb h.tb⟩
 ·rw [List.mem_singleton] at hb
  subst hb
  exact h.fresh e (z ▸ ha)
 ·by_cases hn:n<st.length
  ·rw [List.getElem?_append_left hn] at h1
   rw [List.getElem?_append_left (by rw [h.len];exact hn)] at h2
   exact (h.at_ n c' a h1 h2).mono x (ab fun z=>h.fresh e (z ▸ List.mem_of_getElem? h2))
  ·rw [List.getElem?_append_right (by omega)] at h1
   rw [List.getElem?_append_right (by rw [h.len];omega)] at h2
   have hl:=h.len
   by_cases hz:n-st.length=0
   ·rw [hz] at h1
    rw [show n-m.length=0 by omega] at h2
    simp at h1 h2
    subst h1 h2
    exact hc
   ·rw [List.getElem?_eq_none (by simp;omega)] at h1
    cases h1
theorem RH.newL {p:Addr} {xs:List PV} {ys:List V} (h:RH K m H st) (e:H p=none) (r:Rs K m H xs ys):RH K (m++[p]) (upd H p (.lst ys)) (st++[.lst xs]) :=
 h.new1 e ⟨ys,ai,r.mono (Ext.new1 h e)⟩
theorem R.last {p:Addr} {n:Nat} (h:m.length=n):R K (m++[p]) H (.ref n) (.ref p):=by
 rw [R_ref]
 exact ⟨p,by rw [←h];simp,rfl⟩
theorem nfL {H:Hp} {a:Addr} {ys:List V} (g:H a=some (.lst ys)):∀w v,H a≠some (.frz w v):=fun _ _ z=>by rw [g] at z;cases z
theorem nfD {H:Hp} {a:Addr} {ys:List (Key × V)} (g:H a=some (.dK ys)):∀w v,H a≠some (.frz w v):=fun _ _ z=>by rw [g] at z;cases z
theorem Ext.set {n:Nat} {a:Addr} {ys:List V} {o:HO} (h:RH K m H st) (e:m[n]?=some a) (hz:∀w v,H a≠some (.frz w v)):Ext K m H m (upd H a o):=by
 have hm:=List.mem_of_getElem? e
 obtain ⟨u,hu,h1,h2⟩:=h.mem hm
 refine ⟨List.prefix_refl _,fun _ z=>.inl z,fun b w hb q _=>?_,fun b zs q=>?_,fun b zs q=>?_,fun b ps hb q=>⟨ps,by rw [ab (show b≠a from fun z=>hb (by rw [z];exact hm))];exact q⟩,fun t=>t.keep (fun b ps q=>by rw [ab (fun z=>by subst z;exact h.mem_tbl hm q)];exact q) fun b w q=>by rw [ab (fun z=>by subst z;exact hz _ _ q)];exact q,fun b w v q=>by rw [ab (fun z=>by subst z;exact hz _ _ q)];exact q⟩
 ·have hne:b≠a:=fun z=>hb (by rw [z];exact hm)
  rw [ab hne];exact q
 ·rcases q with (q|⟨w,q⟩)|q
  ·exact .inl (.inl (by rw [ab (fun z=>by subst z;rw [hu] at q;cases q;exact h1 _ rfl)];exact q))
  ·exact .inl (.inr ⟨w,by rw [ab (fun z=>by subst z;exact hz _ _ q)];exact q⟩)
  ·exact .inr q
 ·rcases q with ⟨w,q⟩|q
  ·exact .inl ⟨w,by rw [ab (fun z=>by subst z;exact hz _ _ q)];exact q⟩
  ·exact .inr q
theorem fJ {m:List Addr} (h:m.Nodup) {i j:Nat} {a:Addr} (e:m[i]?=some a) (e':m[j]?=some a):i=j:=by
 obtain ⟨h1,h2⟩:=List.getElem?_eq_some_iff.mp e
 obtain ⟨h3,h4⟩:=List.getElem?_eq_some_iff.mp e'
 exact (List.getElem_inj h).mp (h2.trans h4.symm)
theorem RH.setL {n:Nat} {a:Addr} {xs:List PV} {ys:List V} (h:RH K m H st) (e:m[n]?=some a) (hz:∀w v,H a≠some (.frz w v)) (r:Rs K m H xs ys):RH K m (upd H a (.lst ys)) (st.set n (.lst xs)):=by
 have x:Ext K m H m (upd H a (.lst ys)):=Ext.set (ys:=ys) h e hz
 refine ⟨by simp [h.len],h.nd,fun k c b h1 h2=>?_,x.tb h.tb⟩
 by_cases hk:k=n
 ·subst hk
  rw [e] at h2
  cases h2
  have hl:k<st.length:=by rw [←h.len];exact (List.getElem?_eq_some_iff.mp e).1
  rw [List.getElem?_set_self hl] at h1
  cases h1
  exact ⟨ys,ai,r.mono x⟩
 ·rw [List.getElem?_set_ne (fun z=>hk z.symm)] at h1
  exact (h.at_ k c b h1 h2).mono x (ab fun z=>hk (fJ h.nd h2 (z ▸ e)))
end
structure RF (K:PySem.W.Frag) (m:List Addr) (H:Hp) (ρ:Fr) (σ:L2.St):Prop where
 len:ρ.length=σ.length
 at_:∀(i:Nat) v,ρ[i]?=some (some v)→∃x,σ[i]?=some (some x)∧R K m H v x
theorem RF.mono {K:PySem.W.Frag} {m m':List Addr} {H H':Hp} {ρ:Fr} {σ:L2.St} (h:RF K m H ρ σ) (x:Ext K m H m' H'):RF K m' H' ρ σ :=
 ⟨h.len,fun i v e=>let ⟨y,e1,r⟩:=h.at_ i v e;⟨y,e1,r.mono x⟩⟩
theorem RF.set {K:PySem.W.Frag} {m:List Addr} {H:Hp} {ρ:Fr} {σ:L2.St} (h:RF K m H ρ σ) (i:Nat) {v:PV} {x:V} (r:R K m H v x):RF K m H (ρ.set i (some v)) (σ.set i (some x)):=by
 refine ⟨by simp [h.len],fun j w e=>?_⟩
 by_cases hj:i=j
 ·subst hj
  have hl:i<ρ.length:=by have:=(List.getElem?_eq_some_iff.mp e).1;simpa using this
  rw [List.getElem?_set_self hl] at e
  cases e
  exact ⟨x,by rw [List.getElem?_set_self (h.len ▸ hl)],r⟩
 ·rw [List.getElem?_set_ne hj] at e
  rw [List.getElem?_set_ne hj]
  exact h.at_ j w e
noncomputable def post (K:PySem.W.Frag) (m:List Addr) (H:Hp) (Q:VK):EK:=fun v st'=>∀m' H' x,Ext K m H m' H'→RH K m' H' st'→R K m' H' v x→Q x H'
noncomputable def postB (K:PySem.W.Frag) (m:List Addr) (H:Hp) (Q:Bool→Hp→Prop):BK:=fun v st'=>∀m' H',Ext K m H m' H'→RH K m' H' st'→Q v H'
noncomputable def yx (K:PySem.W.Frag) (m:List Addr) (H:Hp) (Q:List V→Hp→Prop):LK:=fun vs st'=>∀m' H' xs,Ext K m H m' H'→RH K m' H' st'→Rs K m' H' vs xs→Q xs H'
noncomputable def TEx (K:PySem.W.Frag) (w:Fr→AH→EK→Prop):TE:=fun σ H Q=>∃m ρ st,RF K m H ρ σ∧RH K m H st∧w ρ st (post K m H Q)
noncomputable def TTx (K:PySem.W.Frag) (w:Fr→AH→BK→Prop):TT:=fun σ H Q=>∃m ρ st,RF K m H ρ σ∧RH K m H st∧w ρ st (postB K m H Q)
noncomputable def TAx (K:PySem.W.Frag) (w:Fr→AH→LK→Prop):TA:=fun σ H Q=>∃m ρ st,RF K m H ρ σ∧RH K m H st∧w ρ st (yx K m H Q)
theorem post.ext {K:PySem.W.Frag} {m m1:List Addr} {H H1:Hp} {Q:VK} (x:Ext K m H m1 H1) {v:PV} {st:AH} (q:post K m H Q v st):post K m1 H1 Q v st:=fun m' H' y e r s=>q m' H' y (x.trans e) r s
theorem postB.ext {K:PySem.W.Frag} {m m1:List Addr} {H H1:Hp} {Q:Bool→Hp→Prop} (x:Ext K m H m1 H1) {v:Bool} {st:AH} (q:postB K m H Q v st):postB K m1 H1 Q v st:=fun m' H' e r=>q m' H' (x.trans e) r
noncomputable def rY (K:PySem.W.Frag) (w:PV→PV→AH→EK→Prop):R2:=fun x' y' H Q=>∃m st x y,RH K m H st∧R K m H x x'∧R K m H y y'∧w x y st (post K m H Q)
noncomputable def yD (K:PySem.W.Frag) (w:List PV→AH→EK→Prop):List V→Hp→VK→Prop:=fun xs' H Q=>∃m st xs,RH K m H st∧Rs K m H xs xs'∧w xs st (post K m H Q)
end FW
set_option Elab.async false
set_option linter.all false
set_option maxRecDepth 100000
set_option maxHeartbeats 1000000
namespace FW
open PySem PySem.Spec PyProof.Rows L2 HX
theorem cC {n:Nat} (h:n≤100000):n≤sizeLine:=by rw [sizeLine_eq];omega
theorem dE {n:Nat} (h:n<100000):n<sizeLine:=by rw [sizeLine_eq];omega
section
variable {X:Cx}
theorem post.here {K:PySem.W.Frag} {m:List Addr} {H:Hp} {Q:VK} {v:PV} {st:AH} {x:V} (q:post K m H Q v st) (h:RH K m H st) (r:R K m H v x):Q x H:=q m H x (Ext.refl _ _ _) h r
theorem post.newT {K:PySem.W.Frag} {m:List Addr} {H:Hp} {Q:VK} {xs:List PV} {ys:List V} {st:AH} {p:Addr} (q:post K m H Q (.tup xs) st) (h:RH K m H st) (r:Rs K m H xs ys) (e:H p=none):Q (.ref p) (upd H p (.tup ys)) :=
 q m _ _ (Ext.newT h e) (h.newT e) (R_tup.mpr ⟨p,ys,rfl,SqT.of ai,r.mono (Ext.newT h e)⟩)
theorem post.newL {K:PySem.W.Frag} {m:List Addr} {H:Hp} {Q:VK} {xs:List PV} {ys:List V} {st:AH} {p:Addr} (q:post K m H Q (.ref st.length) (st++[.lst xs])) (h:RH K m H st) (r:Rs K m H xs ys) (e:H p=none):Q (.ref p) (upd H p (.lst ys)) :=
 q _ _ _ (Ext.new1 h e) (h.newL e r) (R.last h.len)
theorem post.setL {K:PySem.W.Frag} {m:List Addr} {H:Hp} {Q:VK} {v:PV} {y:V} {xs:List PV} {ys:List V} {st:AH} {n:Nat} {a:Addr} (q:post K m H Q v (st.set n (.lst xs))) (h:RH K m H st) (e:m[n]?=some a) (hz:∀w v,H a≠some (.frz w v)) (r:Rs K m H xs ys) (rv:R K m H v y) :
  Q y (upd H a (.lst ys)):=q _ _ _ (Ext.set (ys:=ys) h e hz) (h.setL e hz r) (rv.mono (Ext.set (ys:=ys) h e hz))
theorem bI {K:PySem.W.Frag} {m:List Addr} {H:Hp} {st:AH} {v:PV} {x:V} {xs:List PV} (h:RH K m H st) (r:R K m H v x) (e:aO st v=some xs):∃a ys,x=.ref a∧SqL K H a ys∧Rs K m H xs ys:=by
 cases v with
 | rdl zs =>
  cases e
  rw [cG] at r
  obtain ⟨a,ys,rfl,h1,h2⟩:=r
  exact ⟨a,ys,rfl,h1.sq,h2⟩
 | ref n =>
  unfold aO at e
  simp only at e
  split at e
  ·cases e
   rename_i q
   obtain ⟨a,ys,rfl,_,h1,h2⟩:=h.lst q r
   exact ⟨a,ys,rfl,SqL.of h1,h2⟩
  ·cases e
 | _=>cases e
theorem eV {K:PySem.W.Frag} {m:List Addr} {H:Hp} {st:AH} {v:PV} {x:V} {xs:List PV} (h:RH K m H st) (r:R K m H v x) (e:bp st v=some xs):∃a ys,x=.ref a∧(SqL K H a ys∨SqT K H a ys)∧Rs K m H xs ys:=by
 cases v with
 | tup zs =>
  cases e
  rw [R_tup] at r
  obtain ⟨a,ys,rfl,h1,h2⟩:=r
  exact ⟨a,ys,rfl,.inr h1,h2⟩
 | rdl zs =>
  obtain ⟨a,ys,h1,h2,h3⟩:=bI h r e
  exact ⟨a,ys,h1,.inl h2,h3⟩
 | ref n =>
  obtain ⟨a,ys,h1,h2,h3⟩:=bI h r e
  exact ⟨a,ys,h1,.inl h2,h3⟩
 | _=>cases e
theorem zJ {P:Program} {w:World} {A:Around} {E:Value→Shared→Prop} {s:Shared} {t b:Addr} {ws:List Value} {Q:Value→Shared→Prop} (ht:IsTup s.heap t ([]:List Value).toArray) (hb:IsTup s.heap b ws.toArray) (h:Q (.ref b) s) :
  wpAny (model P w) A (binaryOp .Add (.ref t) (.ref b)) Q E s:=by
 obtain ⟨⟨cls,dd,data,sl⟩,ho,hc,n,hd⟩:=id ht
 obtain ⟨⟨cls2,dd2,data2,sl2⟩,ho2,hc2,n2,hd2⟩:=id hb
 simp only at hc hd hc2 hd2
 subst hc hd hc2 hd2
 exact concat_meets ⟨_,ho,rfl⟩ ⟨_,ho2,rfl⟩ noFill_tuple_add seq_tuple_add PySem.F.slot_tuple_add PySem.F.entry_tuple_add (PySem.F.args_tuple_add_2 _ _)
  (tuple_addW0 t b ([]:List Value).toArray ws.toArray n n2 dd dd2 sl sl2 rfl) ⟨ho,ho2,h⟩
theorem v7 (op:Operator):OpR X (binaryOp op) (rY X.K (eg op)):=by
 intro pins s σ H x' y' v u Q I rx ry h
 obtain ⟨m,st,x,y,rh,hx,hy,w⟩:=h
 cases op with
 | Add =>
  cases x with
  | int i =>
   cases y with
   | int j =>
    have w:post X.K m H Q (.int (i+j)) st:=w
    rw [R_int] at hx hy;subst hx hy
    exact vR pins s σ H _ _ v u Q I rx ry ⟨_,_,rfl,rfl,w.here rh (R_int.mpr rfl)⟩
   | _=>exact False.elim w
  | ref n =>
   cases y with
   | ref k =>
    obtain ⟨xs,ys,h1,h2,h3,w⟩:=w
    obtain ⟨a,xs',rfl,e1,g1,r1⟩:=rh.lst h1 hx
    obtain ⟨b,ys',rfl,e2,g2,r2⟩:=rh.lst h2 hy
    exact wE pins s σ H _ _ v u Q I rx ry ⟨a,b,xs',ys',rfl,rfl,g1,g2,by rw [←r1.len,←r2.len];exact cC h3,fun p hp=>w.newL rh (r1.app r2) hp⟩
   | _=>exact False.elim w
  | tup xs =>
   cases y with
   | tup ys =>
    obtain ⟨h2,w⟩:=w
    rw [R_tup] at hx hy
    obtain ⟨a,xs',rfl,g1,r1⟩:=hx
    obtain ⟨b,ys',rfl,g2,r2⟩:=hy
    by_cases h1:xs'=[]
    ·subst h1
     cases rx
     cases ry
     obtain ⟨its1,rv1,p1,_⟩:=I.tuple g1
     obtain ⟨its2,rv2,p2,_⟩:=I.tuple g2
     cases rv1
     have e:=r1.len
     rw [List.length_eq_zero_iff.mp e,List.nil_append] at w
     exact zJ p1 p2 ⟨.ref b,H,I,rfl,w.here rh (R_tup.mpr ⟨b,ys',rfl,g2,r2⟩)⟩
    refine tB pins s σ H _ _ v u Q I rx ry ⟨a,b,xs',ys',rfl,rfl,g1,g2,fun z=>?_,by rw [←r1.len,←r2.len];exact cC h2,fun z=>?_,fun z p hp=>w.newT rh (r1.app r2) hp⟩
    ·exact h1 z
    ·subst z
     have e:=r2.len
     rw [List.length_eq_zero_iff.mp e,List.append_nil] at w
     exact w.here rh (R_tup.mpr ⟨a,xs',rfl,g1,r1⟩)
   | _=>exact False.elim w
  | str a =>
   cases y with
   | str b =>
    obtain ⟨h2,w⟩:=w
    rw [R_str] at hx hy;subst hx hy
    exact mf pins s σ H _ _ v u Q I rx ry ⟨_,_,rfl,rfl,cC h2,w.here rh (R_str.mpr rfl)⟩
   | _=>exact False.elim w
  | _=>exact False.elim w
 | Mult =>
  cases x with
  | int i =>
   cases y with
   | int j =>
    have w:CMB i j∧post X.K m H Q (.int (i*j)) st:=w
    rw [R_int] at hx hy;subst hx hy
    exact tU pins s σ H _ _ v u Q I rx ry ⟨_,_,rfl,rfl,w.1,w.2.here rh (R_int.mpr rfl)⟩
   | _=>exact False.elim w
  | ref n =>
   cases y with
   | int k =>
    obtain ⟨xs,h1,h2,h3,h4,w⟩:=w
    rw [R_int] at hy;subst hy
    obtain ⟨a,xs',rfl,e1,g1,r1⟩:=rh.lst h1 hx
    exact wA pins s σ H _ _ v u Q I rx ry ⟨a,_,xs',rfl,rfl,g1,h2,h3,by rw [←r1.len];exact cC h4,fun p hp=>w.newL rh (r1.rep _) hp⟩
   | _=>exact False.elim w
  | _=>exact False.elim w
 | Sub =>
  obtain ⟨i,j,rfl,rfl,w⟩:=ba w
  rw [R_int] at hx hy;subst hx hy
  exact wo pins s σ H _ _ v u Q I rx ry ⟨_,_,rfl,rfl,w.here rh (R_int.mpr rfl)⟩
 | FloorDiv =>
  obtain ⟨i,j,rfl,rfl,w⟩:=ba w
  rw [R_int] at hx hy;subst hx hy
  exact pI pins s σ H _ _ v u Q I rx ry ⟨_,_,rfl,rfl,w.1,w.2.here rh (R_int.mpr rfl)⟩
 | Mod =>
  obtain ⟨i,j,rfl,rfl,w⟩:=ba w
  rw [R_int] at hx hy;subst hx hy
  exact wd pins s σ H _ _ v u Q I rx ry ⟨_,_,rfl,rfl,w.1,w.2.here rh (R_int.mpr rfl)⟩
 | Pow =>
  obtain ⟨i,j,rfl,rfl,w⟩:=ba w
  rw [R_int] at hx hy;subst hx hy
  exact xj pins s σ H _ _ v u Q I rx ry ⟨_,_,rfl,rfl,w.1,w.2.here rh (R_int.mpr rfl)⟩
 | _=>exact False.elim w
mutual
theorem R.den {K:PySem.W.Frag} {m:List Addr} {H:Hp}:∀ {p:PV} {v:V} {d:PyData},R K m H p v→p.toD=some d→(∃xs,d=.list xs)∨Den K H d v
 | .non,v,d,h,e=>by rw [PV.toD] at e;cases e;rw [R_non] at h;exact .inr (den_non.mpr h)
 | .bl b,v,d,h,e=>by rw [PV.toD] at e;cases e;rw [R_bl] at h;exact .inr (den_bl.mpr h)
 | .int b,v,d,h,e=>by rw [PV.toD] at e;cases e;rw [R_int] at h;exact .inr (den_int.mpr h)
 | .str b,v,d,h,e=>by rw [PV.toD] at e;cases e;rw [R_str] at h;exact .inr (den_str.mpr h)
 | .ref n,v,d,h,e=>by rw [PV.toD] at e;cases e
 | .fn n,v,d,h,e=>by rw [PV.toD] at e;cases e
 | .tup xs,v,d,h,e=>by
  rw [PV.toD] at e
  cases q:PV.toDs xs with
  | none=>rw [q] at e;cases e
  | some ds =>
   rw [q] at e
   cases e
   rw [R_tup] at h
   obtain ⟨a,ys,rfl,h1,h2⟩:=h
   exact .inr (den_tup.mpr ⟨a,ys,rfl,h1,Rs.den h2 q⟩)
 | .rdl xs,v,d,h,e=>by
  rw [PV.toD] at e
  cases q:PV.toDs xs with
  | none=>rw [q] at e;cases e
  | some ds=>rw [q] at e;cases e;exact .inl ⟨_,rfl⟩
theorem Rs.den {K:PySem.W.Frag} {m:List Addr} {H:Hp}:∀ {ps:List PV} {vs:List V} {ds:List PyData},Rs K m H ps vs→PV.toDs ps=some ds→Dens K H ds vs
 | [],vs,ds,h,e=>by rw [PV.toDs] at e;cases e;rw [Rs_nil] at h;exact dens_nil.mpr h
 | p::ps,vs,ds,h,e=>by
  rw [Rs_cons] at h
  obtain ⟨y,r,rfl,h1,h2⟩:=h
  rw [PV.toDs] at e
  cases q:p.toD with
  | none=>rw [q] at e;cases e
  | some d =>
   cases q2:PV.toDs ps with
   | none=>rw [q,q2] at e;cases e
   | some ds' =>
    rw [q,q2] at e
    cases e
    refine dens_cons'.mpr ⟨?_,Rs.den h2 q2⟩
    cases p with
    | rdl xs =>
     rw [PV.toD] at q
     cases q3:PV.toDs xs with
     | none=>rw [q3] at q;cases q
     | some es =>
      rw [q3] at q
      cases q
      rw [cG] at h1
      obtain ⟨a,ys,rfl,g1,g2⟩:=h1
      exact den_lst.mpr ⟨a,ys,rfl,g1.sq,Rs.den g2 q3⟩
    | _ =>
     rcases R.den h1 q with ⟨xs,rfl⟩|z
     ·first
       | (rw [PV.toD] at q;cases q;done)
       | (rw [PV.toD] at q;simp only [Option.map_eq_some_iff,reduceCtorEq,and_false,exists_false] at q)
     ·exact z
end
theorem cL {K:PySem.W.Frag} {m:List Addr} {H:Hp} {st:AH} {p:PV} {v:V} {d:PyData} (rh:RH K m H st) (h:R K m H p v) (e:p7 st p=some d):Den K H d v:=by
 cases p with
 | ref n =>
  unfold p7 at e
  simp only at e
  split at e
  ·rename_i xs q
   cases q2:PV.toDs xs with
   | none=>rw [q2] at e;cases e
   | some ds =>
    rw [q2] at e
    cases e
    obtain ⟨a,ys,rfl,_,h1,h2⟩:=rh.lst q h
    exact den_lst.mpr ⟨a,ys,rfl,SqL.of h1,h2.den q2⟩
  ·cases e
 | rdl xs =>
  have e':(PV.rdl xs).toD=some d:=e
  rw [PV.toD] at e'
  cases q2:PV.toDs xs with
  | none=>rw [q2] at e';cases e'
  | some ds =>
   rw [q2] at e'
   cases e'
   rw [cG] at h
   obtain ⟨a,ys,rfl,g1,g2⟩:=h
   exact den_lst.mpr ⟨a,ys,rfl,g1.sq,g2.den q2⟩
 | tup xs =>
  have e':(PV.tup xs).toD=some d:=e
  rcases R.den h e' with ⟨zs,rfl⟩|z
  ·rw [PV.toD] at e'
   simp at e'
  ·exact z
 | fn b=>have e':(PV.fn b).toD=some d:=e;rw [PV.toD] at e';cases e'
 | non=>have e':(PV.non).toD=some d:=e;rw [PV.toD] at e';cases e';exact den_non.mpr (R_non.mp h)
 | bl b=>have e':(PV.bl b).toD=some d:=e;rw [PV.toD] at e';cases e';exact den_bl.mpr (R_bl.mp h)
 | int b=>have e':(PV.int b).toD=some d:=e;rw [PV.toD] at e';cases e';exact den_int.mpr (R_int.mp h)
 | str b=>have e':(PV.str b).toD=some d:=e;rw [PV.toD] at e';cases e';exact den_str.mpr (R_str.mp h)
theorem R.nonB {K:PySem.W.Frag} {m:List Addr} {H:Hp} {p:PV} {v:V} (h:R K m H p v):decide (v=.non)=dm p:=by
 cases p with
 | non=>rw [R_non] at h;subst h;rfl
 | bl b=>rw [R_bl] at h;subst h;rfl
 | int b=>rw [R_int] at h;subst h;rfl
 | str b=>rw [R_str] at h;subst h;rfl
 | ref n=>rw [R_ref] at h;obtain ⟨a,_,rfl⟩:=h;rfl
 | tup n=>rw [R_tup] at h;obtain ⟨a,_,rfl,_⟩:=h;rfl
 | rdl n=>rw [cG] at h;obtain ⟨a,_,rfl,_⟩:=h;rfl
 | fn n=>rw [oD] at h;subst h;rfl
theorem R.blB {K:PySem.W.Frag} {m:List Addr} {H:Hp} {p:PV} {v:V} {k:Bool} (h:R K m H p v):decide (v=.bl k)=ga k p:=by
 cases p with
 | non=>rw [R_non] at h;subst h;rfl
 | bl b=>rw [R_bl] at h;subst h;cases b <;> cases k <;> rfl
 | int b=>rw [R_int] at h;subst h;rfl
 | str b=>rw [R_str] at h;subst h;rfl
 | ref n=>rw [R_ref] at h;obtain ⟨a,_,rfl⟩:=h;rfl
 | tup n=>rw [R_tup] at h;obtain ⟨a,_,rfl,_⟩:=h;rfl
 | rdl n=>rw [cG] at h;obtain ⟨a,_,rfl,_⟩:=h;rfl
 | fn n=>rw [oD] at h;subst h;rfl
theorem yu {i j:Int}:decide (V.int i=V.int j)=decide (i=j):=by simp
theorem yk {i j:Bool}:decide (V.bl i=V.bl j)=decide (i=j):=by simp
theorem yj {i j:Str}:decide (V.str i=V.str j)=decide (i=j):=by simp
theorem jK {K:PySem.W.Frag} {m:List Addr} {H:Hp}:∀ {ns:List Int} {ys:List V},Rs K m H (ns.map PV.int) ys→ys=ns.map V.int
 | [],ys,h=>by rw [List.map_nil,Rs_nil] at h;exact h
 | n::ns,ys,h=>by
  cases ys with
  | nil=>have:=h.len;simp at this
  | cons y ys =>
   rw [List.map_cons,Rs_cons',R_int] at h
   rw [h.1,jK h.2]
   rfl
theorem fA:∀ {ns:List Int},(ns.map V.int).all dU=true
 | []=>rfl
 | n::ns=>by rw [List.map_cons,List.all_cons,fA];rfl
theorem jV {i:Int}:∀ {ns:List Int},inV (.int i) (ns.map V.int)=ns.any fun j=>j == i
 | []=>rfl
 | n::ns=>by
  have:=jV (i:=i) (ns:=ns)
  unfold inV at this ⊢
  rw [List.map_cons,List.any_cons,List.any_cons,this]
  rfl
theorem e6 {K:PySem.W.Frag} {m:List Addr} {H:Hp}:∀ {ns:List Str} {ys:List V},Rs K m H (ns.map PV.str) ys→ys=ns.map V.str
 | [],ys,h=>by rw [List.map_nil,Rs_nil] at h;exact h
 | n::ns,ys,h=>by
  cases ys with
  | nil=>have:=h.len;simp at this
  | cons y ys =>
   rw [List.map_cons,Rs_cons',R_str] at h
   rw [h.1,e6 h.2]
   rfl
theorem cM:∀ {ns:List Str},(ns.map V.str).all dU=true
 | []=>rfl
 | n::ns=>by rw [List.map_cons,List.all_cons,cM];rfl
theorem eF {i:Str}:∀ {ns:List Str},inV (.str i) (ns.map V.str)=ns.any fun j=>j == i
 | []=>rfl
 | n::ns=>by
  have:=eF (i:=i) (ns:=ns)
  unfold inV at this ⊢
  rw [List.map_cons,List.any_cons,List.any_cons,this]
  rfl
section
variable {K:PySem.W.Frag} {m:List Addr} {H:Hp}
theorem jt {k:Key}:∀ {kvs:List (Key × PV)} {ys:List (Key × V)},ys.map (·.1)=kvs.map (·.1)→Rs K m H (kvs.map (·.2)) (ys.map (·.2)) →
  (∀v,cX kvs k=some v→∃v',dN ys k=some v'∧R K m H v v')∧(cX kvs k=none→dN ys k=none)
 | [],ys,e,_=>by
  cases ys with
  | nil=>exact ⟨fun v z=>(by cases z),fun _=>rfl⟩
  | cons y ys=>cases e
 | p::kvs,ys,e,r=>by
  cases ys with
  | nil=>cases e
  | cons y ys =>
   rw [List.map_cons,List.map_cons,List.cons.injEq] at e
   rw [List.map_cons,List.map_cons,Rs_cons'] at r
   obtain ⟨a1,a2⟩:=jt (k:=k) e.2 r.2
   by_cases q:p.1=k
   ·have e1:cX (p::kvs) k=some p.2:=by simp [cX,List.find?_cons,q]
    have e2:dN (y::ys) k=some y.2:=eM (by rw [e.1];exact q)
    rw [e1,e2]
    exact ⟨fun v z=>⟨_,rfl,by cases z;exact r.1⟩,fun z=>by cases z⟩
   ·have e1:cX (p::kvs) k=cX kvs k:=by simp [cX,List.find?_cons,q]
    have e2:dN (y::ys) k=dN ys k:=eE (by rw [e.1];exact q)
    rw [e1,e2]
    exact ⟨a1,a2⟩
theorem m5 {k:Key} {kvs:List (Key × PV)} {ys:List (Key × V)} (e:ys.map (·.1)=kvs.map (·.1)) (r:Rs K m H (kvs.map (·.2)) (ys.map (·.2))):(dN ys k).isSome=(cX kvs k).isSome:=by
 obtain ⟨a1,a2⟩:=jt (k:=k) e r
 cases q:cX kvs k with
 | none=>rw [a2 q];rfl
 | some v=>obtain ⟨v',e',_⟩:=a1 v q;rw [e'];rfl
theorem rN {k:Key}:∀ {kvs:List (Key × PV)} {ys:List (Key × V)},ys.map (·.1)=kvs.map (·.1)→(kvs.any fun kv=>decide (kv.1=k))=ys.any fun kv=>decide (kv.1=k)
 | [],ys,e=>by cases ys with|nil=>rfl|cons y ys=>cases e
 | p::kvs,ys,e=>by
  cases ys with
  | nil=>cases e
  | cons y ys =>
   rw [List.map_cons,List.map_cons,List.cons.injEq] at e
   rw [List.any_cons,List.any_cons,rN e.2,e.1]
theorem qQ {k:Key} {v:PV} {v':V} (rv:R K m H v v'):∀ {kvs:List (Key × PV)} {ys:List (Key × V)},ys.map (·.1)=kvs.map (·.1)→Rs K m H (kvs.map (·.2)) (ys.map (·.2)) →
  (ys.map fun kv=>if kv.1=k then (kv.1,v') else kv).map (·.1)=(kvs.map fun kv=>if kv.1=k then (kv.1,v) else kv).map (·.1)∧Rs K m H ((kvs.map fun kv=>if kv.1=k then (kv.1,v) else kv).map (·.2)) ((ys.map fun kv=>if kv.1=k then (kv.1,v') else kv).map (·.2))
 | [],ys,e,_=>by cases ys with|nil=>exact ⟨rfl,by rw [List.map_nil,List.map_nil,List.map_nil,List.map_nil,Rs_nil]⟩|cons y ys=>cases e
 | p::kvs,ys,e,r=>by
  cases ys with
  | nil=>cases e
  | cons y ys =>
   rw [List.map_cons,List.map_cons,List.cons.injEq] at e
   rw [List.map_cons,List.map_cons,Rs_cons'] at r
   obtain ⟨a1,a2⟩:=qQ (k:=k) rv e.2 r.2
   simp only [List.map_cons]
   rw [Rs_cons',a1]
   by_cases q:p.1=k
   ·rw [if_pos q,if_pos (by rw [e.1];exact q)]
    exact ⟨by rw [e.1],rv,a2⟩
   ·rw [if_neg q,if_neg (by rw [e.1];exact q)]
    exact ⟨by rw [e.1],r.1,a2⟩
theorem ml {k:Key} {v:PV} {v':V} (rv:R K m H v v') {kvs:List (Key × PV)} {ys:List (Key × V)} (e:ys.map (·.1)=kvs.map (·.1)) (r:Rs K m H (kvs.map (·.2)) (ys.map (·.2))) :
  (cy ys k v').map (·.1)=(dc kvs k v).map (·.1)∧Rs K m H ((dc kvs k v).map (·.2)) ((cy ys k v').map (·.2)):=by
 unfold cy dc
 rw [←rN (k:=k) e]
 by_cases q:(kvs.any fun kv=>decide (kv.1=k))=true
 ·rw [if_pos q,if_pos q]
  exact qQ rv e r
 ·rw [if_neg q,if_neg q]
  simp only [List.map_append,List.map_cons,List.map_nil]
  exact ⟨by rw [e],r.app (.one rv)⟩
end
theorem RH.dkat {K:PySem.W.Frag} {m:List Addr} {H:Hp} {st:AH} {n:Nat} {kvs:List (Key × PV)} {v:V} (h:RH K m H st) (e:st[n]?=some (.dk kvs)) (r:R K m H (.ref n) v):∃a ys,v=.ref a∧m[n]?=some a∧H a=some (.dK ys)∧ys.map (·.1)=kvs.map (·.1)∧Rs K m H (kvs.map (·.2)) (ys.map (·.2)):=by
 rw [R_ref] at r
 obtain ⟨a,e1,rfl⟩:=r
 obtain ⟨ys,h1,h2⟩:=h.at_ n _ a e e1
 exact ⟨a,ys,rfl,e1,h1,h2⟩
theorem RH.setD {K:PySem.W.Frag} {m:List Addr} {H:Hp} {st:AH} {n:Nat} {a:Addr} {kvs:List (Key × PV)} {ys:List (Key × V)} (h:RH K m H st) (e:m[n]?=some a) (hz:∀w v,H a≠some (.frz w v)) (r1:ys.map (·.1)=kvs.map (·.1)) (r2:Rs K m H (kvs.map (·.2)) (ys.map (·.2))):RH K m (upd H a (.dK ys)) (st.set n (.dk kvs)):=by
 have x:Ext K m H m (upd H a (.dK ys)):=Ext.set (ys:=[]) h e hz
 refine ⟨by simp [h.len],h.nd,fun k c b h1 h2=>?_,x.tb h.tb⟩
 by_cases hk:k=n
 ·subst hk
  have hl:k<st.length:=by rw [←h.len];exact (List.getElem?_eq_some_iff.mp e).1
  rw [List.getElem?_set_self hl] at h1
  rw [e] at h2
  cases h1
  cases h2
  exact ⟨ys,ai,r1,r2.mono x⟩
 ·rw [List.getElem?_set_ne (Ne.symm hk)] at h1
  have ne:b≠a:=fun z=>hk ((List.getElem?_inj (List.getElem?_eq_some_iff.mp h2).1 h.nd).mp (by rw [h2,e,z]))
  exact (h.at_ k c b h1 h2).mono x (ab ne)
theorem RH.dkrd {K:PySem.W.Frag} {m:List Addr} {H:Hp} {st:AH} {n:Nat} {kvs:List (Key × PV)} {v:V} (h:RH K m H st) (e:st[n]?=some (.dk kvs)∨st[n]?=some (.fz kvs)) (r:R K m H (.ref n) v):∃a ys,v=.ref a∧m[n]?=some a∧Rd H a (.dK ys)∧ys.map (·.1)=kvs.map (·.1)∧Rs K m H (kvs.map (·.2)) (ys.map (·.2)):=by
 rw [R_ref] at r
 obtain ⟨a,e1,rfl⟩:=r
 rcases e with e|e
 ·obtain ⟨ys,h1,h2⟩:=h.at_ n _ a e e1
  exact ⟨a,ys,rfl,e1,.inl h1,h2⟩
 ·obtain ⟨o,ys,h1,h2⟩:=h.at_ n _ a e e1
  exact ⟨a,ys,rfl,e1,.inr ⟨o,h1⟩,h2⟩
theorem pH (hu:X.A.units+64<cLine) (op:CmpOp):OpR X (compareOp op) (rY X.K (bO op)):=by
 intro pins s σ H x' y' v u Q I rx ry h
 obtain ⟨m,st,x,y,rh,hx,hy,w⟩:=h
 unfold bO at w
 cases op with
 | Eq =>
  simp only at w
  unfold eqW at w
  split at w
  ·rw [R_int] at hx hy;subst hx hy
   exact qw pins s σ H _ _ v u Q I rx ry ⟨rfl,by rw [yu];exact w.here rh (R_bl.mpr rfl)⟩
  ·rw [R_bl] at hx hy;subst hx hy
   exact qw pins s σ H _ _ v u Q I rx ry ⟨rfl,by rw [yk];exact w.here rh (R_bl.mpr rfl)⟩
  ·rw [R_str] at hx hy;subst hx hy
   exact qw pins s σ H _ _ v u Q I rx ry ⟨rfl,by rw [yj];exact w.here rh (R_bl.mpr rfl)⟩
  ·obtain ⟨d,e,h1,h2,h3,h4,w⟩:=w
   exact xa hu pins s σ H _ _ v u Q I rx ry ⟨d,e,cL rh hx h1,cL rh hy h2,h3,h4,w.here rh (R_bl.mpr rfl)⟩
 | NotEq =>
  simp only at w
  unfold eqW at w
  split at w
  ·rw [R_int] at hx hy;subst hx hy
   exact qm pins s σ H _ _ v u Q I rx ry ⟨rfl,by rw [yu];exact w.here rh (R_bl.mpr rfl)⟩
  ·rw [R_bl] at hx hy;subst hx hy
   exact qm pins s σ H _ _ v u Q I rx ry ⟨rfl,by rw [yk];exact w.here rh (R_bl.mpr rfl)⟩
  ·rw [R_str] at hx hy;subst hx hy
   exact qm pins s σ H _ _ v u Q I rx ry ⟨rfl,by rw [yj];exact w.here rh (R_bl.mpr rfl)⟩
  ·obtain ⟨d,e,h1,h2,h3,h4,w⟩:=w
   exact wv hu pins s σ H _ _ v u Q I rx ry ⟨d,e,cL rh hx h1,cL rh hy h2,h3,h4,w.here rh (R_bl.mpr rfl)⟩
 | Is =>
  simp only at w
  split at w
  ·rw [R_non] at hy;subst hy
   exact wa pins s σ H _ _ v u Q I rx ry ⟨rfl,by rw [hx.nonB];exact w.here rh (R_bl.mpr rfl)⟩
  ·rw [R_bl] at hy;subst hy
   exact wM pins s σ H _ _ v u Q I rx ry ⟨_,rfl,by rw [hx.blB];exact w.here rh (R_bl.mpr rfl)⟩
  ·exact w.elim
 | IsNot =>
  simp only at w
  split at w
  ·rw [R_non] at hy;subst hy
   exact sx pins s σ H _ _ v u Q I rx ry ⟨rfl,by rw [hx.nonB];exact w.here rh (R_bl.mpr rfl)⟩
  ·rw [R_bl] at hy;subst hy
   exact o6 pins s σ H _ _ v u Q I rx ry ⟨_,rfl,by rw [hx.blB];exact w.here rh (R_bl.mpr rfl)⟩
  ·exact w.elim
 | Lt =>
  simp only at w
  split at w
  ·rw [R_int] at hx hy;subst hx hy
   exact xN pins s σ H _ _ v u Q I rx ry ⟨_,_,rfl,rfl,w.here rh (R_bl.mpr rfl)⟩
  ·exact w.elim
 | LtE =>
  simp only at w
  split at w
  ·rw [R_int] at hx hy;subst hx hy
   exact xl pins s σ H _ _ v u Q I rx ry ⟨_,_,rfl,rfl,w.here rh (R_bl.mpr rfl)⟩
  ·exact w.elim
 | Gt =>
  simp only at w
  split at w
  ·rw [R_int] at hx hy;subst hx hy
   exact xH pins s σ H _ _ v u Q I rx ry ⟨_,_,rfl,rfl,w.here rh (R_bl.mpr rfl)⟩
  ·exact w.elim
 | GtE =>
  simp only at w
  split at w
  ·rw [R_int] at hx hy;subst hx hy
   exact yH pins s σ H _ _ v u Q I rx ry ⟨_,_,rfl,rfl,w.here rh (R_bl.mpr rfl)⟩
  ·exact w.elim
 | In =>
  simp only at w
  split at w
  ·rw [R_str] at hx hy;subst hx hy
   exact oP pins s σ H _ _ v u Q I rx ry ⟨_,_,rfl,rfl,w.here rh (R_bl.mpr rfl)⟩
  ·rw [R_int] at hx;subst hx
   obtain ⟨ns,rfl,w⟩:=w
   obtain ⟨a,ys,rfl,g,r⟩:=R_tup.mp hy
   obtain rfl:=jK r
   refine fP pins s σ H _ _ v u Q I rx ry ⟨a,_,rfl,.inr g,rfl,fA,?_⟩
   rw [if_neg Bool.false_ne_true,jV]
   exact w.here rh (R_bl.mpr rfl)
  ·rw [R_str] at hx;subst hx
   obtain ⟨ns,rfl,w⟩:=w
   obtain ⟨a,ys,rfl,g,r⟩:=R_tup.mp hy
   obtain rfl:=e6 r
   refine fP pins s σ H _ _ v u Q I rx ry ⟨a,_,rfl,.inr g,rfl,cM,?_⟩
   rw [if_neg Bool.false_ne_true,eF]
   exact w.here rh (R_bl.mpr rfl)
  ·rw [R_str] at hx;subst hx
   rcases w with ⟨ns,e,w⟩|⟨kvs,e,w⟩
   ·obtain ⟨a,ys,rfl,_,g,r⟩:=rh.lst e hy
    obtain rfl:=e6 r
    refine fP pins s σ H _ _ v u Q I rx ry ⟨a,_,rfl,.inl (SqL.of g),rfl,cM,?_⟩
    rw [if_neg Bool.false_ne_true,eF]
    exact w.here rh (R_bl.mpr rfl)
   ·obtain ⟨a,ys,rfl,_,g,r1,r2⟩:=rh.dkrd e hy
    cases ry
    refine zg (Nat.lt_of_le_of_lt (by omega) hu) I (.inl ⟨_,.inr _,g,rfl,rfl⟩) rx fun s' I'=>⟨.bl _,H,I',rfl,?_⟩
    rw [m5 r1 r2]
    exact w.here rh (R_bl.mpr rfl)
  ·exact w.elim
 | NotIn =>
  simp only at w
  split at w
  ·rw [R_int] at hx;subst hx
   obtain ⟨ns,rfl,w⟩:=w
   obtain ⟨a,ys,rfl,g,r⟩:=R_tup.mp hy
   obtain rfl:=jK r
   refine cU pins s σ H _ _ v u Q I rx ry ⟨a,_,rfl,.inr g,rfl,fA,?_⟩
   rw [if_pos rfl,jV]
   exact w.here rh (R_bl.mpr rfl)
  ·rw [R_str] at hx;subst hx
   obtain ⟨ns,rfl,w⟩:=w
   obtain ⟨a,ys,rfl,g,r⟩:=R_tup.mp hy
   obtain rfl:=e6 r
   refine cU pins s σ H _ _ v u Q I rx ry ⟨a,_,rfl,.inr g,rfl,cM,?_⟩
   rw [if_pos rfl,eF]
   exact w.here rh (R_bl.mpr rfl)
  ·rw [R_str] at hx;subst hx
   rcases w with ⟨ns,e,w⟩|⟨kvs,e,w⟩
   ·obtain ⟨a,ys,rfl,_,g,r⟩:=rh.lst e hy
    obtain rfl:=e6 r
    refine cU pins s σ H _ _ v u Q I rx ry ⟨a,_,rfl,.inl (SqL.of g),rfl,cM,?_⟩
    rw [if_pos rfl,eF]
    exact w.here rh (R_bl.mpr rfl)
   ·obtain ⟨a,ys,rfl,_,g,r1,r2⟩:=rh.dkrd e hy
    cases ry
    refine su (Nat.lt_of_le_of_lt (by omega) hu) I (.inl ⟨_,.inr _,g,rfl,rfl⟩) rx fun s' I'=>⟨.bl _,H,I',rfl,?_⟩
    rw [m5 r1 r2]
    exact w.here rh (R_bl.mpr rfl)
  ·exact w.elim
theorem xP {prog:Program} {w:World} {A:Around} {E:Value→Shared→Prop} {s:Shared} {value slice:Expr} {o i:Value} {T id:String} {Q:Value→Shared→Prop}
  (hl:typeLookup (.type T) "__getitem__"=pure (some (.builtin id))) (hs:subscripted slice false o i=operate [o,i] (getItem o i)) (hT:s.TypeIs o T) (h:wpAny (model prog w) A (getItem o i) Q E s) :
  wpAny (model prog w) A (subscriptTail value slice o i) Q E s:=by
 unfold subscriptTail
 refine wpAny_bind ?_
 rw [getitemInPython_of_ne hT.not_modules]
 refine wpAny_bind (wpAny_specialOf hT hl ?_)
 have fin:wpAny (model prog w) A (subscripted slice false o i) (fun r s₃=>wpAny (model prog w) A (letTemporaryGo value o r >>= fun _=>pure r) Q E s₃) E s:=by
  rw [hs]
  exact wpAny_operating (wpAny_mono h (fun r s₃ h₃=>wpAny_bind (wpAny_letTemporaryGo (wpAny_pure h₃))) fun _ _ x=>x)
 first
  | exact wpAny_pure (wpAny_bind fin)
  | exact wpAny_bind (wpAny_pure (wpAny_bind fin))
  | exact wpAny_bind fin
theorem uD (hu:X.A.units+64<cLine):IxR X (rY X.K ixW):=by
 intro value slice pins s σ H x' y' v u Q I rx ry h hs
 obtain ⟨m,st,x,y,rh,hx,hy,w⟩:=h
 cases y with
 | int i =>
  rw [R_int] at hy;subst hy
  rcases nL w with ⟨z,c,rfl,h1,h2,w⟩|⟨xs,z,h1,h2,w⟩
  ·rw [R_str] at hx;subst hx
   exact wN value slice pins s σ H _ _ v u Q I rx ry ⟨_,_,c,rfl,rfl,cC h1,h2,w.here rh (R_str.mpr rfl)⟩ hs
  obtain ⟨a,ys,rfl,g,r⟩:=eV rh hx h1
  obtain ⟨y,e,ry'⟩:=r.atI h2
  rcases g with g|g
  ·exact sO value slice pins s σ H _ _ v u Q I rx ry ⟨a,ys,_,y,rfl,rfl,g,e,w.here rh ry'⟩ hs
  ·exact wJ value slice pins s σ H _ _ v u Q I rx ry ⟨a,ys,_,y,rfl,rfl,g,e,w.here rh ry'⟩ hs
 | str z =>
  rw [R_str] at hy;subst hy
  obtain ⟨n,kvs,p,rfl,e,h2,w⟩:=nq w
  obtain ⟨a,ys,rfl,_,g,r1,r2⟩:=rh.dkrd e hx
  obtain ⟨p',e',rp⟩:=(jt r1 r2).1 _ h2
  have dg:sN H a (.str z) (some p'):=by rw [←e'];exact .inl ⟨_,.inr z,g,rfl,rfl⟩
  cases rx
  obtain ⟨z1,hd,vs,rel,dd⟩:=iP I.hok g
  exact xP PySem.F.slot_dict_getitem.lookup hs dd.typeIs (oF (Nat.lt_of_le_of_lt (by omega) hu) I dg ry fun w' s3 I3 rw'=>⟨p',H,I3,rw',w.here rh rp⟩)
 | _=>exact w.elim
theorem dQ {prog:Program} {w:World} {A:Around} {E:Value→Shared→Prop} {s:Shared} {t sl:Addr} {items:Array Value} {vl vu:Value} {lo hi:Option Int} {Q:Value→Shared→Prop} (ht:IsTup s.heap t items) (hs:s.heap.IsSliceOf sl vl vu .none) (pl:IsPart vl lo) (pu:IsPart vu hi)
  (hw:HT.sIx items.size 0 lo=0∧HT.sIx items.size items.size hi=items.size) (h:Q (.ref t) s):wpAny (model prog w) A (getItem (.ref t) (.ref sl)) Q E s:=by
 obtain ⟨os,hos,hcs,hds⟩:=id hs
 have hTs:s.TypeIs (.ref sl) "slice":=⟨os,hos,hcs⟩
 unfold getItem
 try with_reducible refine wpAny_holding ?_
 first|refine wpAny_bind (wpAny_pure ?_)|skip
 refine wpAny_bind (wpAny_sequenceKey ht.typeIs (by decide) ?_)
 refine wpAny_bind (wpAny_callSpecial?_slot (name:=Str.ofString "__getitem__") ht.typeIs PyProof.Rows.slot_tuple_getitem
  (wpAny_call_entry PyProof.Rows.slot_tuple_getitem ht.typeIs entry_tuple_getitem ?_ (args_tuple_getitem _ _)))
 show wpAny _ _ (Builtin.Tuple.tupleItemsOf (.ref t) >>= _) _ _ s
 refine wpAny_bind (tupleItemsOf_ ht ?_)
 refine wpAny_bind (wpAny_typeOf hTs ?_)
 rw [if_pos (by decide)]
 refine wpAny_bind (HT.sliceApplied_gen hs pl pu ?_)
 have hyes:((((HT.sIx items.size 0 lo:Nat):Int) == 0 && (1:Int) == 1 && (HT.sIx items.size items.size hi-HT.sIx items.size 0 lo) == items.size)=true):=by
  rw [hw.1,hw.2]
  simp
 show wpAny _ _ (if (((HT.sIx items.size 0 lo:Nat):Int) == 0 && (1:Int) == 1 && (HT.sIx items.size items.size hi-HT.sIx items.size 0 lo) == items.size)=true then _ else _) _ _ s
 rw [if_pos hyes]
 unfold Builtin.Tuple.tupleIsExact
 refine wpAny_bind (wpAny_bind (wpAny_typeOf ht.typeIs (wpAny_pure ?_)))
 rw [if_pos (by simp)]
 exact wpAny_bind (wpAny_rule (wpAny_pure ⟨_,rfl,wpAny_pure h⟩))
noncomputable def yc (K:PySem.W.Frag):V→Option Int→Option Int→Hp→VK→Prop:=fun x' lo hi H Q=>∃m st x,RH K m H st∧R K m H x x'∧slW x lo hi st (post K m H Q)
theorem l' {ys:List V} {lo hi:Option Int} (h:HT.sIx ys.length 0 lo=0∧HT.sIx ys.length ys.length hi=ys.length):ir ys lo hi=ys:=by
 unfold ir
 rw [h.1,h.2,List.drop_zero,Nat.sub_zero,List.take_length]
theorem mG {v:Value} {p:Option Int} (h:IsPart v p):∃q:Option (Int × Tok),v=partValue q∧q.map (·.1)=p:=by
 cases h with
 | none=>exact ⟨none,rfl,rfl⟩
 | int i t=>exact ⟨some (i,t),rfl,rfl⟩
theorem tP {z:Str} {t:Tok} {l u:Option (Int × Tok)} {lo hi:Option Int} {Q:Value→Shared→Prop} {s:Shared} (e:(l.map (·.1),u.map (·.1))=(lo,hi)) (h1:z.length≤100000) (h:∀tk t',Q (.str (ft z lo hi) t') { s with toks:=tk }):(sliceMade z t l u none).post Q s:=by
 cases e
 unfold sliceMade
 have h:∀tk t',Q (.str (if ((slicePicked z l u none).length == z.length)=true then z else ⟨((slicePicked z l u none).filterMap (z.cps[·]?)).toArray⟩) t') { s with toks:=tk }:=h
 cases q:((slicePicked z l u none).length == z.length) with
 | true =>
  rw [q] at h
  exact h s.toks t
 | false =>
  rw [q] at h
  refine ⟨?_,h _ _⟩
  show ((slicePicked z l u none).filterMap (z.cps[·]?)).toArray.size≤sizeLine
  rw [List.size_toArray]
  refine Nat.le_trans (List.length_filterMap_le _ _) (Nat.le_trans ?_ (cC h1))
  refine sliceRange_length_le _ _ _ _ (fun _=>?_) fun z=>absurd (show (1:Int) > 0 by decide) z
  cases l <;> cases u <;> constructor <;> simp only [Option.map,Option.getD,show (1:Int) > 0 by decide,if_true] <;> first|omega|(split <;> omega)
theorem yF:SlR X (yc X.K):=by
 intro pins s σ H x' v vl vu lo hi sl Q I rx hs pl pu h
 obtain ⟨m,st,x,rh,hx,w⟩:=h
 unfold slW at w
 split at w
 ·rename_i z
  rw [R_str] at hx
  subst hx
  obtain ⟨t,rfl⟩:=rx
  obtain ⟨h1,w⟩:=w
  obtain ⟨l,el,pl'⟩:=mG pl
  obtain ⟨u,eu,pu'⟩:=mG pu
  subst el eu
  refine ⟨"str",_,PyProof.Rows.slot_str_getitem.lookup,typeIs_str _ _ _,?_⟩
  refine wpAny_getItem_str_slice (l:=l) (u:=u) (st:=none) hs rfl (tP ?_ h1 fun tk t'=>⟨.str (ft z lo hi),H,I.tok tk,⟨t',rfl⟩,w.here rh (R_str.mpr rfl)⟩)
  rw [pl',pu']
 ·rw [R_tup] at hx
  obtain ⟨a,ys,rfl,g,r⟩:=hx
  by_cases hw:HT.sIx ys.length 0 lo=0∧HT.sIx ys.length ys.length hi=ys.length
  ·cases rx
   obtain ⟨its,r',ht,hz⟩:=I.tuple g
   have hlen:its.toArray.size=ys.length:=by rw [List.size_toArray];exact r'.length.symm
   refine ⟨"tuple",_,PyProof.Rows.slot_tuple_getitem.lookup,ht.typeIs,dQ ht hs pl pu (by rw [hlen];exact hw) ?_⟩
   refine ⟨.ref a,H,I,rfl,w.here rh (R_tup.mpr ⟨a,ys,rfl,g,?_⟩)⟩
   have:=r.cut lo hi
   rw [l' hw] at this
   exact this
  ·exact vY pins s σ H _ v vl vu lo hi sl Q I rx hs pl pu ⟨a,ys,rfl,g,hw,fun p hp=>w.newT rh (r.cut lo hi) hp⟩
 ·obtain ⟨xs,h1,w⟩:=w
  obtain ⟨a,ys,rfl,g,r⟩:=bI rh hx h1
  exact sy pins s σ H _ v vl vu lo hi sl Q I rx hs pl pu ⟨a,ys,rfl,g,fun p hp=>w.newL rh (r.cut lo hi) hp⟩
theorem Rs.one' {K:PySem.W.Frag} {m:List Addr} {H:Hp} {x:PV} {ys:List V} (h:Rs K m H [x] ys):∃y,ys=[y]∧R K m H x y:=by
 rw [Rs_cons] at h
 obtain ⟨y,r,rfl,h1,h2⟩:=h
 rw [Rs_nil] at h2
 subst h2
 exact ⟨y,rfl,h1⟩
theorem Rs.two' {K:PySem.W.Frag} {m:List Addr} {H:Hp} {x z:PV} {ys:List V} (h:Rs K m H [x,z] ys):∃y u,ys=[y,u]∧R K m H x y∧R K m H z u:=by
 rw [Rs_cons] at h
 obtain ⟨y,r,rfl,h1,h2⟩:=h
 obtain ⟨u,rfl,h3⟩:=h2.one'
 exact ⟨y,u,rfl,h1,h3⟩
noncomputable def yS:B→Value
 | .len=>.builtin "len"
 | .max2=>.builtin "max"
 | .min2=>.builtin "min"
 | .divmod=>.builtin "divmod"
 | .int1=>.type "int"
 | .str1=>.type "str"
 | .tuple1=>.type "tuple"
 | .list1=>.type "list"
 | .all1=>.builtin "all"
 | .any1=>.builtin "any"
 | .abs1=>.builtin "abs"
 | .sorted1=>.builtin "sorted"
 | .repr1=>.builtin "repr"
 | .sortS=>.builtin "sorted"
 | .max1=>.builtin "max"
theorem kT {K:PySem.W.Frag} {m:List Addr} {H:Hp}:∀ {ns:List Int} {ys:List V} {us:List Value},Rs K m H (ns.map PV.int) ys→Vals ys us→IntsAre us ns
 | [],ys,us,h,r=>by
  rw [List.map_nil,Rs_nil] at h;subst h
  cases r
  exact .nil
 | n::ns,ys,us,h,r=>by
  rw [List.map_cons,Rs_cons] at h
  obtain ⟨y,q,rfl,h1,h2⟩:=h
  rw [R_int] at h1
  subst h1
  cases r with
  | cons r1 r2 =>
   obtain ⟨t,rfl⟩:=r1
   exact .cons n t (kT h2 r2)
theorem kh {K:PySem.W.Frag} {m:List Addr} {H:Hp}:∀ {ns:List Str} {ys:List V} {us:List Value},Rs K m H (ns.map PV.str) ys→Vals ys us→StrsAre us ns
 | [],ys,us,h,r=>by
  rw [List.map_nil,Rs_nil] at h;subst h
  cases r;exact .nil
 | n::ns,ys,us,h,r=>by
  rw [List.map_cons] at h
  obtain ⟨y,ys',rfl,h1,h2⟩:=Rs_cons.mp h
  rw [R_str] at h1;subst h1
  cases r with
  | cons r1 r2 =>
   obtain ⟨t,rfl⟩:=r1
   exact .cons n t (kh h2 r2)
theorem fN:∀ {us:List Value} {ns:List Str},StrsAre us ns→Vals (ns.map V.str) us
 | _,_,.nil=>.nil
 | _,_,.cons n t r=>.cons ⟨t,rfl⟩ (fN r)
theorem rT {K:PySem.W.Frag} {m:List Addr} {H:Hp}:∀ {ns:List Str},Rs K m H (ns.map PV.str) (ns.map V.str)
 | []=>by rw [List.map_nil,List.map_nil,Rs_nil]
 | n::ns=>by rw [List.map_cons,List.map_cons,Rs_cons',R_str];exact ⟨rfl,rT⟩
theorem jO {pins:List (Addr × Obj)} {s:Shared} {σ:L2.St} {H:Hp} {p:Addr} {its:List Value} {ns:List Str} {Q:VK} (I:L2.Inv X pins σ H s) (hl:s.heap.IsList p its.toArray) (hi:StrsAre its ns) (hn:ns.length<64)
  (q:∀ns':List Str,ns'.Perm ns→sortedS ns'=true→∀l,H l=none→Q (.ref l) (upd H l (.lst (ns'.map V.str)))):wpAny (model X.prog X.w) X.A (call (.builtin "sorted") [.ref p]) (EP X pins σ Q) X.xe s:=by
 have hlen:its.length=ns.length:=by
  have:=(fN hi).length
  simpa using this.symm
 refine sorted_strs hl hi (by omega) fun out ns' h1 h2 h3=>?_
 obtain ⟨e,he⟩:=sortedAll_at s.heap its out
 refine ⟨.ref (s.heap.objs.size+1),_,I.laid (t':=s.toks) (fun b o=>sortedAll_old) (Nat.le_succ _) (show ObjOk X.prog X.w _ _ _ (.lst (ns'.map V.str)) from ⟨?_,out.toList,e,fN h1,he⟩),rfl,q ns' h2 h3 _ (I.hok.fresh (Nat.le_succ _))⟩
 rw [List.length_map,h2.length_eq]
 exact Nat.le_of_lt (dE (by omega))
theorem oh {pins:List (Addr × Obj)} {s:Shared} {σ:L2.St} {H:Hp} {p:Addr} {its:List Value} {ns:List Int} {Q:VK} (I:L2.Inv X pins σ H s) (hc:X.calm=true) (hl:s.heap.IsList p its.toArray) (hi:IntsAre its ns) (hne:0<ns.length)
  (q:∀i,i∈ns→(∀j,j∈ns→j≤i)→Q (.int i) H):wpAny (model X.prog X.w) X.A (call (.builtin "max") [.ref p]) (EP X pins σ Q) X.xe s:=by
 obtain ⟨xs,e⟩:=hi.allInts.items
 have hns:ns=xs.toList.map (·.1):=by rw [←hi.numsOf,←nums_intItems,←e]
 have hsz:0<xs.size:=by
  have h3:=hne;rw [hns,List.length_map,Array.length_toList] at h3;exact h3
 rw [e] at hl
 refine max_intList (I.ok.hd hc) hl hsz fun v h' tk hv hk=>?_
 obtain ⟨t,rfl⟩:=intItems_at hv
 obtain ⟨h1,h2⟩:=argBest_gt (numAt xs) (xs.size-1)
 refine ⟨.int _,H,I.kept (t':=tk) hk,⟨t,rfl⟩,q _ ?_ fun j hj=>?_⟩
 ·rw [hns,numAt_eq];exact getD_mem (by rw [List.length_map,Array.length_toList];omega)
 ·rw [hns] at hj
  obtain ⟨k,hk2,rfl⟩:=mem_getD hj
  rw [List.length_map,Array.length_toList] at hk2
  rw [←numAt_eq];exact h2 k (by omega)
theorem jT:bR X (.type "int") (fun xs H Q=>∃z n,xs=[.str z]∧z.length≤640∧PySem.intText? z=some n∧Q (.int n) H):=by
 intro pins s σ H xs us Q I r h
 obtain ⟨z,n,rfl,h1,h2,q⟩:=h
 obtain ⟨u,rfl,t,rfl⟩:=dh r
 exact PySem.W.KIN.call_text h2 h1 ⟨.int n,H,I.tok _,⟨_,rfl⟩,q⟩
theorem wu (hc:X.calm=true) (hgd:X.A.guards=some []) (hun:X.A.units+64<cLine) (b:B):bR X (yS b) (yD X.K (bX b)):=by
 intro pins s σ H xs' us Q I r h
 obtain ⟨m,st,xs,rh,hx,w⟩:=h
 cases b with
 | len =>
  obtain ⟨x0,rfl,w⟩:=aT w
  obtain ⟨y,rfl,hy⟩:=hx.one'
  rcases kr w with ⟨z,rfl,h1,w⟩|⟨ys,h1,w⟩
  ·rw [R_str] at hy;subst hy
   exact jq pins s σ H _ us Q I r ⟨_,rfl,cC h1,w.here rh (R_int.mpr rfl)⟩
  obtain ⟨a,zs,rfl,g,rz⟩:=eV rh hy h1
  refine jD pins s σ H _ us Q I r ⟨a,zs,rfl,g,?_⟩
  have:=w.here rh (x:=V.int ys.length) (R_int.mpr rfl)
  rw [rz.len] at this
  exact this
 | max2 =>
  obtain ⟨x0,y0,rfl,w⟩:=cH w
  obtain ⟨i,j,rfl,rfl,w⟩:=ba w
  obtain ⟨y,u,rfl,hy,hu⟩:=hx.two'
  rw [R_int] at hy hu;subst hy hu
  exact oS hc pins s σ H _ us Q I r ⟨_,_,rfl,w.here rh (R_int.mpr rfl)⟩
 | min2 =>
  obtain ⟨x0,y0,rfl,w⟩:=cH w
  obtain ⟨i,j,rfl,rfl,w⟩:=ba w
  obtain ⟨y,u,rfl,hy,hu⟩:=hx.two'
  rw [R_int] at hy hu;subst hy hu
  exact n_ hc pins s σ H _ us Q I r ⟨_,_,rfl,w.here rh (R_int.mpr rfl)⟩
 | divmod =>
  obtain ⟨x0,y0,rfl,w⟩:=cH w
  obtain ⟨i,j,rfl,rfl,w⟩:=ba w
  obtain ⟨y,u,rfl,hy,hu⟩:=hx.two'
  rw [R_int] at hy hu;subst hy hu
  refine jQ pins s σ H _ us Q I r ⟨_,_,rfl,w.1,fun p hp=>w.2.newT rh ?_ hp⟩
  rw [Rs_cons',Rs_cons',Rs_nil,R_int,R_int]
  exact ⟨rfl,rfl,rfl⟩
 | int1 =>
  obtain ⟨x0,rfl,w⟩:=aT w
  obtain ⟨y,rfl,hy⟩:=hx.one'
  rcases iJ w with ⟨b0,rfl,w⟩|⟨z,n,rfl,h1,h2,w⟩
  case inr =>
   rw [R_str] at hy;subst hy
   exact jT pins s σ H _ us Q I r ⟨_,_,rfl,h1,h2,w.here rh (R_int.mpr rfl)⟩
  rw [R_bl] at hy;subst hy
  exact oe pins s σ H _ us Q I r (.inr ⟨_,rfl,w.here rh (R_int.mpr rfl)⟩)
 | str1=>exact False.elim w
 | tuple1 =>
  obtain ⟨x0,rfl,w⟩:=aT w
  obtain ⟨ys,h1,w⟩:=w
  obtain ⟨y,rfl,hy⟩:=hx.one'
  obtain ⟨a,zs,rfl,g,rz⟩:=eV rh hy h1
  refine il pins s σ H _ us Q I r ⟨a,zs,rfl,?_⟩
  rcases g with g|g
  ·exact .inl ⟨g,fun p hp=>w.newT rh rz hp⟩
  ·exact .inr ⟨g,w.here rh (R_tup.mpr ⟨a,zs,rfl,g,rz⟩)⟩
 | list1=>exact False.elim w
 | all1=>exact False.elim w
 | any1=>exact False.elim w
 | abs1 =>
  obtain ⟨x0,rfl,w⟩:=aT w
  obtain ⟨i,rfl,w⟩:=mU w
  obtain ⟨y,rfl,hy⟩:=hx.one'
  rw [R_int] at hy;subst hy
  refine q5 pins s σ H _ us Q I r ⟨_,rfl,?_⟩
  have:=w.here rh (R_int.mpr rfl)
  have e:(if i<0 then -i else i)=(i.natAbs:Int):=by split <;> omega
  rw [e]
  exact this
 | sorted1=>exact False.elim w
 | sortS =>
  obtain ⟨x0,rfl,w⟩:=aT w
  obtain ⟨ss,h1,h2,w⟩:=w
  obtain ⟨y,rfl,hy⟩:=hx.one'
  obtain ⟨a,zs,rfl,g,rz⟩:=bI rh hy h1
  obtain ⟨u,rfl,ru⟩:=dh r
  cases ru
  obtain ⟨its,ri,pl,_⟩:=I.list g
  exact jO I pl.isList (kh rz ri) h2 fun ss' p1 p2 l hl=>(w ss' p1 p2).newL rh rT hl
 | max1 =>
  obtain ⟨x0,rfl,w⟩:=aT w
  obtain ⟨ns,h1,h2,w⟩:=w
  obtain ⟨y,rfl,hy⟩:=hx.one'
  obtain ⟨a,zs,rfl,g,rz⟩:=bI rh hy h1
  obtain ⟨u,rfl,ru⟩:=dh r
  cases ru
  obtain ⟨its,ri,pl,_⟩:=I.list g
  exact oh I hc pl.isList (kT rz ri) h2 fun i p1 p2=>(w i p1 p2).here rh (R_int.mpr rfl)
 | repr1=>exact False.elim w
theorem oz {st:AH} {x:PV} {n:String} (h:b8 st x=some n):n∈["NoneType","bool","int","str","list","tuple","dict"]:=by
 cases x with
 | ref k =>
  unfold b8 at h
  simp only at h
  split at h <;> cases h <;> decide
 | _=>cases h <;> decide
theorem sZ {pins:List (Addr × Obj)} {s:Shared} {σ:L2.St} {H:Hp} {A:Around} {E:Value→Shared→Prop} {K:PySem.W.Frag} {m:List Addr} {st:AH} {x:PV} {x':V} {u:Value} {n c:String} {Q:Value→Shared→Prop} (I:Inv X pins σ H s) (rh:RH X.K m H st) (hx:R X.K m H x x')
  (ru:RelV x' u) (hk:b8 st x=some n) (hc:c∈["int","bool","str","tuple","list","dict"]) (h:∀tk,Q (.bool (dv c n)) { s with toks:=tk }) :
  wpAny (model X.prog X.w) A (call (.builtin "isinstance") [u,.type c]) Q E s:=by
 have e:=rG X.K c hc n (oz hk)
 cases x with
 | non=>cases hk;rw [R_non] at hx;subst hx;exact bY I ru .non e h
 | bl b=>cases hk;rw [R_bl] at hx;subst hx;exact bY I ru (.bl b) e h
 | fn b=>cases hk
 | int b=>cases hk;rw [R_int] at hx;subst hx;exact bY I ru (.int b) e h
 | str b=>cases hk;rw [R_str] at hx;subst hx;exact bY I ru (.str b) e h
 | tup xs =>
  cases hk
  rw [R_tup] at hx
  obtain ⟨a,ys,rfl,g,r⟩:=hx
  cases ru
  obtain ⟨its,_,⟨o,ho,hcl,_⟩,_⟩:=I.tuple g
  exact PySem.W.kia_one PySem.W.kitx_tuple I.kIn ⟨o,ho,hcl⟩ e (fun z=>nomatch z) h
 | rdl xs =>
  cases hk
  rw [cG] at hx
  obtain ⟨a,ys,rfl,g,r⟩:=hx
  cases ru
  obtain ⟨its,_,pl,_⟩:=I.list g.sq
  obtain ⟨o,ho,hcl,_⟩:=pl.isList
  exact PySem.W.kia_one PySem.W.kitx_list I.kIn ⟨o,ho,hcl⟩ e (fun z=>nomatch z) h
 | ref k =>
  unfold b8 at hk
  simp only at hk
  split at hk
  ·cases hk
   rename_i q
   obtain ⟨a,ys,rfl,_,h1,h2⟩:=rh.lst q hx
   exact bY I ru (.lst h1) e h
  ·cases hk
   rename_i kvs q
   rw [R_ref] at hx
   obtain ⟨a,e1,rfl⟩:=hx
   obtain ⟨ys,h1,_⟩:=rh.at_ k _ a q e1
   exact bY I ru (.dK h1) e h
  ·cases hk
   rename_i kvs q
   rw [R_ref] at hx
   obtain ⟨a,e1,rfl⟩:=hx
   obtain ⟨o,ys,h1,_⟩:=rh.at_ k _ a q e1
   cases ru
   obtain ⟨ho,_,_,vs,_,o',_,_,ho',hcl,_⟩:=I.hok a _ h1
   exact PySem.W.kia_one PySem.W.kitx_dict I.kIn ⟨o',ho',hcl.1⟩ e (fun z=>nomatch z) h
  ·cases hk
noncomputable def nz:M→String
 | .append=>"list.append"
 | .pop0=>"list.pop"
 | .extend=>"list.extend"
 | .insert=>"list.insert"
 | .count=>"list.count"
noncomputable def xV (K:PySem.W.Frag) (w:PV→List PV→AH→EK→Prop):V→List V→Hp→VK→Prop:=fun x' xs' H Q=>∃m st x xs,RH K m H st∧R K m H x x'∧Rs K m H xs xs'∧w x xs st (post K m H Q)
theorem v5 (c:M):MtR X (nz c) (xV X.K (lu c)):=by
 intro pins s σ H x' vs' v us Q I rx rv h
 obtain ⟨m,st,x,vs,rh,hx,hv,w⟩:=h
 cases c with
 | append =>
  obtain ⟨n0,rfl,w⟩:=gi w
  obtain ⟨x0,rfl,w⟩:=aT w
  obtain ⟨xs,h1,h2,w⟩:=w
  obtain ⟨a,ys,rfl,e,g,r⟩:=rh.lst h1 hx
  obtain ⟨y,rfl,hy⟩:=hv.one'
  exact jl pins s σ H _ _ v us Q I rx rv ⟨a,ys,y,rfl,rfl,g,by rw [←r.len];exact dE h2,w.setL rh e (nfL g) (r.app (.one hy)) (R_non.mpr rfl)⟩
 | pop0 =>
  obtain ⟨n0,rfl,w⟩:=gi w
  obtain ⟨rfl,w⟩:=jc w
  obtain ⟨xs,z,h1,h2,w⟩:=w
  obtain ⟨a,ys,rfl,e,g,r⟩:=rh.lst h1 hx
  rw [Rs_nil] at hv;subst hv
  obtain ⟨y,e2,ry⟩:=r.get h2
  rw [r.len] at e2
  exact wH pins s σ H _ _ v us Q I rx rv ⟨a,ys,y,rfl,rfl,g,e2,w.setL rh e (nfL g) r.dropLast ry⟩
 | count=>exact False.elim w
 | extend=>exact False.elim w
 | insert=>exact False.elim w
noncomputable def zS (K:PySem.W.Frag):V→V→V→Hp→(Hp→Prop)→Prop:=fun o' i' v' H Q=>∃m st o i v,RH K m H st∧R K m H o o'∧R K m H i i'∧R K m H v v'∧jH o i v st fun st'=>∀H',Ext K m H m H'→RH K m H' st'→Q H'
theorem wj (hu:X.A.units+64<cLine):vX X (zS X.K):=by
 intro pins s σ H o' i' v' ov iv u Q I ro ri rv h
 obtain ⟨m,st,o,i,v,rh,ho,hi,hv,w⟩:=h
 unfold jH at w
 split at w
 ·obtain ⟨xs,h1,q,h2,w⟩:=w
  obtain ⟨a,ys,rfl,e,g,r⟩:=rh.lst h1 ho
  rw [R_int] at hi;subst hi
  exact qR pins s σ H _ _ _ ov iv u Q I ro ri rv ⟨a,ys,_,q,rfl,rfl,g,by rw [←r.len];exact h2,w _ (Ext.set (ys:=ys) rh e (nfL g)) (rh.setL e (nfL g) (r.set hv q))⟩
 ·obtain ⟨kvs,h1,h2,w⟩:=w
  obtain ⟨a,ys,rfl,e,g,r1,r2⟩:=rh.dkat h1 ho
  rw [R_str] at hi;subst hi
  cases ro
  obtain ⟨q1,q2⟩:=ml (k:=.inr _) hv r1 r2
  refine ow (Nat.lt_of_le_of_lt (by omega) hu) I (DPut.k (k:=.inr _) g ?_) ri rv fun s' I'=>⟨_,I',w _ (Ext.set (ys:=[]) rh e (nfD g)) (rh.setD e (nfD g) q1 q2)⟩
  have:ys.length=kvs.length:=by have:=congrArg List.length r1;simpa using this
  rw [this]
  exact oT h2
 ·exact w.elim
noncomputable def zI (K:PySem.W.Frag):V→Hp→(Bool→Hp→Prop)→Prop:=fun x' H Q=>∃m st x,RH K m H st∧R K m H x x'∧cx x st (postB K m H Q)
theorem kH:∀ {x':V} {H:Hp} {Q:Bool→Hp→Prop},zI X.K x' H Q→∃k,vS X.K x' H k∧Q k H:=by
 intro x' H Q h
 obtain ⟨m,st,x,rh,hx,w⟩:=h
 unfold cx at w
 split at w
 ·rw [R_bl] at hx;subst hx;exact ⟨_,rfl,w m H (Ext.refl _ _ _) rh⟩
 ·rw [R_non] at hx;subst hx;exact ⟨_,rfl,w m H (Ext.refl _ _ _) rh⟩
 ·rw [R_int] at hx;subst hx;exact ⟨_,rfl,w m H (Ext.refl _ _ _) rh⟩
 ·exact w.elim
 ·obtain ⟨xs,h1,w⟩:=w
  obtain ⟨a,ys,rfl,g,r⟩:=eV rh hx h1
  have e:(!xs.isEmpty)=!ys.isEmpty:=by
   have:=r.len
   cases xs <;> cases ys <;> first|rfl|(simp at this)
  refine ⟨_,?_,w m H (Ext.refl _ _ _) rh⟩
  rw [e]
  rcases g with g|g
  ·exact .inl ⟨ys,g,rfl⟩
  ·exact .inr (.inl ⟨ys,g,rfl⟩)
theorem wf (op:Operator):PIp X op (rY X.K (iy op)):=by
 intro pins s σ H x' y' v u Q I rx ry h
 obtain ⟨m,st,x,y,rh,hx,hy,w⟩:=h
 unfold iy at w
 split at w
 ·rw [R_int] at hx hy;subst hx hy
  exact vZ pins s σ H _ _ v u Q I rx ry ⟨_,_,rfl,rfl,w.here rh (R_int.mpr rfl)⟩
 ·rw [R_int] at hx hy;subst hx hy
  exact wO pins s σ H _ _ v u Q I rx ry ⟨_,_,rfl,rfl,w.here rh (R_int.mpr rfl)⟩
 ·obtain ⟨xs,zs,h1,h2,h3,w⟩:=w
  obtain ⟨a,ys,rfl,e,g,r⟩:=rh.lst h1 hx
  obtain ⟨b,ys2,rfl,e2,g2,r2⟩:=rh.lst h2 hy
  exact wQ pins s σ H _ _ v u Q I rx ry ⟨a,b,ys,ys2,rfl,rfl,g,g2,by rw [←r.len,←r2.len];exact cC h3,w.setL rh e (nfL g) (r.app r2) hx⟩
 ·exact w.elim
end
end FW
set_option Elab.async false
set_option linter.all false
set_option maxRecDepth 100000
set_option maxHeartbeats 1000000
namespace FW
open PySem PySem.Spec PyProof.Rows L2 HX
mutual
noncomputable def PV.same:PV→PV→Bool
 | .non,y=>match y with | .non=>true|_=>false
 | .bl a,y=>match y with | .bl b=>a == b|_=>false
 | .int a,y=>match y with | .int b=>a == b|_=>false
 | .str a,y=>match y with | .str b=>a == b|_=>false
 | .tup xs,y=>match y with | .tup ys=>PV.sames xs ys|_=>false
 | .ref a,y=>match y with | .ref b=>a == b|_=>false
 | .rdl xs,y=>match y with | .rdl ys=>PV.sames xs ys|_=>false
 | .fn a,y=>match y with | .fn b=>a == b|_=>false
noncomputable def PV.sames:List PV→List PV→Bool
 | [],y=>y.isEmpty
 | x::xs,y=>match y with|y::ys=>x.same y && PV.sames xs ys | []=>false
end
mutual
theorem PV.same_eq:∀ {x y:PV},x.same y=true→x=y
 | .non,y,h=>by cases y with|non=>rfl|_=>exact Bool.noConfusion (show false=true from h)
 | .bl a,y,h=>by cases y with|bl b=>rw [eq_of_beq (show (a == b)=true from h)] | _=>exact Bool.noConfusion (show false=true from h)
 | .int a,y,h=>by cases y with|int b=>rw [eq_of_beq (show (a == b)=true from h)] | _=>exact Bool.noConfusion (show false=true from h)
 | .str a,y,h=>by cases y with|str b=>rw [eq_of_beq (show (a == b)=true from h)] | _=>exact Bool.noConfusion (show false=true from h)
 | .ref a,y,h=>by cases y with|ref b=>rw [eq_of_beq (show (a == b)=true from h)] | _=>exact Bool.noConfusion (show false=true from h)
 | .tup xs,y,h=>by cases y with|tup ys=>rw [PV.sames_eq (show PV.sames xs ys=true from h)] | _=>exact Bool.noConfusion (show false=true from h)
 | .rdl xs,y,h=>by cases y with|rdl ys=>rw [PV.sames_eq (show PV.sames xs ys=true from h)] | _=>exact Bool.noConfusion (show false=true from h)
 | .fn a,y,h=>by cases y with|fn b=>rw [eq_of_beq (show (a == b)=true from h)] | _=>exact Bool.noConfusion (show false=true from h)
theorem PV.sames_eq:∀ {x y:List PV},PV.sames x y=true→x=y
 | [],y,h=>by cases y with|nil=>rfl|cons a b=>exact Bool.noConfusion (show false=true from h)
 | x::xs,y,h=>by
  cases y with
  | nil=>exact Bool.noConfusion (show false=true from h)
  | cons y ys =>
   have h:=(Bool.and_eq_true _ _).mp (show (x.same y && PV.sames xs ys)=true from h)
   rw [PV.same_eq h.1,PV.sames_eq h.2]
end
structure Cfg where
 N:List Str
 names:List (Str × NameKind)
 fns:List Str
 lim:Nat
 blts:List Str
 gl:List (Str × PV)
 pc:Bool:=false
 hm:Option Nat:=none
noncomputable def Cfg.vis (c:Cfg) (x:Str):Bool:=(c.names.lookup x == some .local || c.names.lookup x == some .cell || c.names.lookup x == some .free) && !(x == ("__debug__":Str)) && !(x == ("__classdict__":Str))
noncomputable def Cfg.loc (c:Cfg) (x:Str):Bool:=c.names.lookup x == some .local || c.names.lookup x == some .cell
noncomputable def Cfg.glb (c:Cfg) (x:Str):Bool:=c.names.lookup x == some .globalImplicit && !(x == ("__debug__":Str)) && !(x == ("__name__":Str))
noncomputable def Cfg.blt (c:Cfg) (x:Str):Bool:=c.glb x && c.blts.contains x
noncomputable def Cfg.fn (c:Cfg) (f:Nat) (x:Str):Bool:=c.fns[f]? == some x && decide (f<c.lim) && c.glb x
noncomputable def gh:B→Str
 | .len=>"len"
 | .max2=>"max"
 | .min2=>"min"
 | .divmod=>"divmod"
 | .int1=>"int"
 | .str1=>"str"
 | .tuple1=>"tuple"
 | .list1=>"list"
 | .all1=>"all"
 | .any1=>"any"
 | .abs1=>"abs"
 | .sorted1=>"sorted"
 | .repr1=>"repr"
 | .sortS=>"sorted"
 | .max1=>"max"
noncomputable def jY:M→Str
 | .append=>"append"
 | .pop0=>"pop"
 | .extend=>"extend"
 | .insert=>"insert"
 | .count=>"count"
noncomputable def kinds:List String:=["int","bool","str","tuple","list","dict"]
noncomputable def ic:Expr→Bool
 | .ListComp ..=>false
 | .SetComp ..=>false
 | .DictComp ..=>false
 | _=>true
noncomputable def mo:Expr→Bool
 | .Name ..=>true
 | .Call ..=>true
 | .Subscript ..=>true
 | _=>false
mutual
noncomputable def Tg.low (n:Nat):Tg→Bool
 | .name i=>decide (i<n)
 | .tup ts=>Tgs.low n ts
 | .ltup ts=>Tgs.low n ts
 | .sub _ _=>false
noncomputable def Tgs.low (n:Nat):Tgs→Bool
 | .nil=>true
 | .cons t ts=>Tg.low n t && Tgs.low n ts
end
noncomputable def cI:Expr→Bool
 | .Set ..=>false
 | _=>true
noncomputable def Cfg.inner (c:Cfg) (nt:List Str) (caps:List Nat) (sc:Scope):Cfg:={ c with N:=nt++caps.filterMap (c.N[·]?),names:=sc.names,pc:=false,hm:=none }
noncomputable def ot (k:Option NameKind):Bool:=k == some .cell || k == some .free
noncomputable def Cfg.block (c:Cfg) (nt:List Str) (caps:List Nat) (sc:Scope):Bool :=
 sc.kind == .function && sc.names.all (fun y=>!(y.2 == .cell)) && sc.names.all (fun y=>!(y.2 == .local) || sc.names.lookup y.1 == some .local) && sc.names.all (fun y=>!(y.2 == .free) || ot (c.names.lookup y.1))
  && caps.all (fun i=>decide (i<c.N.length)) && (caps.filterMap (c.N[·]?)).all (fun x=>sc.names.lookup x == some .free && ot (c.names.lookup x)) && decide (nt++caps.filterMap (c.N[·]?)).Nodup
noncomputable def rc:It→Expr→Bool
 | .zip _ _,.Tuple ..=>true
 | .zip _ _,_=>false
 | .zip3 _ _ _,.Tuple ..=>true
 | .zip3 _ _ _,_=>false
 | .enum _,.Tuple ..=>true
 | .enum _,_=>false
 | .seq _,_ | .range1 _,_ | .range2 _ _,_ | .chars _,_ | .range3 _ _ _,_=>true
noncomputable def cR:Expr→Bool
 | .Name ..=>true
 | .List ..=>true
 | .Subscript ..=>true
 | _=>false
noncomputable def al (x:Expr) (f:Str→Pos→Bool):Bool:=match x with | .Name y p=>f y p|_=>false
theorem ad {x:Expr} {f:Str→Pos→Bool} (h:al x f=true):∃y p,x=.Name y p∧f y p=true:=by
 cases x with|Name y p=>exact ⟨y,p,rfl,h⟩|_=>exact Bool.noConfusion h
noncomputable def mS (x:Expr) (f:Int→Bool):Bool:=match x with | .Constant (.int j) _ _=>f j|_=>false
theorem og {x:Expr} {f:Int→Bool} (h:mS x f=true):∃j k p,x=.Constant (.int j) k p∧f j=true:=by
 cases x with
 | Constant v k p=>cases v with|int j=>exact ⟨j,k,p,rfl,h⟩|_=>exact Bool.noConfusion h
 | _=>exact Bool.noConfusion h
noncomputable def xE (x:Expr) (f:Bool→Bool):Bool:=match x with | .Constant (.bool j) _ _=>f j|_=>false
theorem qJ {x:Expr} {f:Bool→Bool} (h:xE x f=true):∃j k p,x=.Constant (.bool j) k p∧f j=true:=by
 cases x with
 | Constant v k p=>cases v with|bool j=>exact ⟨j,k,p,rfl,h⟩|_=>exact Bool.noConfusion h
 | _=>exact Bool.noConfusion h
noncomputable def lc (x:Expr) (f:Str→Bool):Bool:=match x with | .Constant (.str j) _ _=>f j|_=>false
theorem oq {x:Expr} {f:Str→Bool} (h:lc x f=true):∃j k p,x=.Constant (.str j) k p∧f j=true:=by
 cases x with
 | Constant v k p=>cases v with|str j=>exact ⟨j,k,p,rfl,h⟩|_=>exact Bool.noConfusion h
 | _=>exact Bool.noConfusion h
noncomputable def vt (x:Expr):Bool:=match x with | .Constant .none _ _=>true|_=>false
theorem oI {x:Expr} (h:vt x=true):∃k p,x=.Constant .none k p:=by
 cases x with
 | Constant v k p=>cases v with|none=>exact ⟨k,p,rfl⟩|_=>exact Bool.noConfusion h
 | _=>exact Bool.noConfusion h
noncomputable def cj (x:Expr) (f:List Expr→Bool):Bool:=match x with | .Tuple xs _ _=>f xs|_=>false
theorem aS {x:Expr} {f:List Expr→Bool} (h:cj x f=true):∃xs k p,x=.Tuple xs k p∧f xs=true:=by
 cases x with|Tuple xs k p=>exact ⟨xs,k,p,rfl,h⟩|_=>exact Bool.noConfusion h
noncomputable def pZ (x:Expr) (f:List Expr→Bool):Bool:=match x with | .List xs _=>f xs|_=>false
theorem lH {x:Expr} {f:List Expr→Bool} (h:pZ x f=true):∃xs p,x=.List xs p∧f xs=true:=by
 cases x with|List xs p=>exact ⟨xs,p,rfl,h⟩|_=>exact Bool.noConfusion h
noncomputable def on1 {α:Type} (xs:List α) (f:α→Bool):Bool:=match xs with | [a]=>f a|_=>false
theorem bu {α:Type} {xs:List α} {f:α→Bool} (h:on1 xs f=true):∃a,xs=[a]∧f a=true:=by
 cases xs with
 | nil=>exact Bool.noConfusion h
 | cons a t=>cases t with|nil=>exact ⟨a,rfl,h⟩|cons _ _=>exact Bool.noConfusion h
noncomputable def on2 {α:Type} (xs:List α) (f:α→α→Bool):Bool:=match xs with | [a,b]=>f a b|_=>false
theorem dH {α:Type} {xs:List α} {f:α→α→Bool} (h:on2 xs f=true):∃a b,xs=[a,b]∧f a b=true:=by
 cases xs with
 | nil=>exact Bool.noConfusion h
 | cons a t=>cases t with
  | nil=>exact Bool.noConfusion h
  | cons b t=>cases t with|nil=>exact ⟨a,b,rfl,h⟩|cons _ _=>exact Bool.noConfusion h
noncomputable def on3 {α:Type} (xs:List α) (f:α→α→α→Bool):Bool:=match xs with | [a,b,c]=>f a b c|_=>false
noncomputable def g_ {α:Type} (xs:List α) (f:α→List α→Bool):Bool:=match xs with|a::t=>f a t | []=>false
theorem aA {α:Type} {xs:List α} {f:α→List α→Bool} (h:g_ xs f=true):∃a t,xs=a::t∧f a t=true:=by
 cases xs with
 | nil=>exact Bool.noConfusion h
 | cons a t=>exact ⟨a,t,rfl,h⟩
noncomputable def fe {α:Type} (x:Option α) (f:α→Bool):Bool:=match x with|some a=>f a|none=>false
theorem d3 {α:Type} {x:Option α} {f:α→Bool} (h:fe x f=true):∃a,x=some a∧f a=true:=by
 cases x with
 | none=>exact Bool.noConfusion h
 | some a=>exact ⟨a,rfl,h⟩
noncomputable def lD (x:Expr) (f:List (Option Expr)→List Expr→Bool):Bool:=match x with | .Dict ks vs _=>f ks vs|_=>false
theorem lU {x:Expr} {f:List (Option Expr)→List Expr→Bool} (h:lD x f=true):∃ks vs p,x=.Dict ks vs p∧f ks vs=true:=by
 cases x with|Dict ks vs p=>exact ⟨ks,vs,p,rfl,h⟩|_=>exact Bool.noConfusion h
noncomputable def tZ (x:Expr) (f:Expr→Operator→Expr→Bool):Bool:=match x with | .BinOp l o r _=>f l o r|_=>false
theorem oK {x:Expr} {f:Expr→Operator→Expr→Bool} (h:tZ x f=true):∃l o r p,x=.BinOp l o r p∧f l o r=true:=by
 cases x with|BinOp l o r p=>exact ⟨l,o,r,p,rfl,h⟩|_=>exact Bool.noConfusion h
noncomputable def sm (x:Expr) (f:Expr→Bool):Bool:=match x with | .UnaryOp .USub y _=>f y|_=>false
theorem oX {x:Expr} {f:Expr→Bool} (h:sm x f=true):∃y p,x=.UnaryOp .USub y p∧f y=true:=by
 cases x with
 | UnaryOp o y p=>cases o with|USub=>exact ⟨y,p,rfl,h⟩|_=>exact Bool.noConfusion h
 | _=>exact Bool.noConfusion h
noncomputable def rl (x:Expr) (f:Expr→Bool):Bool:=match x with | .UnaryOp .Not y _=>f y|_=>false
theorem iF {x:Expr} {f:Expr→Bool} (h:rl x f=true):∃y p,x=.UnaryOp .Not y p∧f y=true:=by
 cases x with
 | UnaryOp o y p=>cases o with|Not=>exact ⟨y,p,rfl,h⟩|_=>exact Bool.noConfusion h
 | _=>exact Bool.noConfusion h
noncomputable def lb (x:Expr) (f:Expr→CmpOp→Expr→Bool):Bool:=match x with | .Compare l os rs _=>on1 os fun o=>on1 rs fun r=>f l o r|_=>false
theorem dL {x:Expr} {f:Expr→CmpOp→Expr→Bool} (h:lb x f=true):∃l o r p,x=.Compare l [o] [r] p∧f l o r=true:=by
 cases x with
 | Compare l os rs p =>
  obtain ⟨o,rfl,h⟩:=bu h
  obtain ⟨r,rfl,h⟩:=bu h
  exact ⟨l,o,r,p,rfl,h⟩
 | _=>exact Bool.noConfusion h
noncomputable def pL (x:Expr) (f:PySem.BoolOp→List Expr→Bool):Bool:=match x with | .BoolOp o xs _=>f o xs|_=>false
theorem dJ {x:Expr} {f:PySem.BoolOp→List Expr→Bool} (h:pL x f=true):∃o xs p,x=.BoolOp o xs p∧f o xs=true:=by
 cases x with|BoolOp o xs p=>exact ⟨o,xs,p,rfl,h⟩|_=>exact Bool.noConfusion h
noncomputable def uH (x:Expr) (f:Expr→Expr→Expr→Bool):Bool:=match x with | .IfExp y l r _=>f y l r|_=>false
theorem oC {x:Expr} {f:Expr→Expr→Expr→Bool} (h:uH x f=true):∃y l r p,x=.IfExp y l r p∧f y l r=true:=by
 cases x with|IfExp y l r p=>exact ⟨y,l,r,p,rfl,h⟩|_=>exact Bool.noConfusion h
noncomputable def i3 (x:Expr) (f:Expr→Expr→Bool):Bool:=match x with | .Subscript l r _=>f l r|_=>false
theorem cE {x:Expr} {f:Expr→Expr→Bool} (h:i3 x f=true):∃l r p,x=.Subscript l r p∧f l r=true:=by
 cases x with|Subscript l r p=>exact ⟨l,r,p,rfl,h⟩|_=>exact Bool.noConfusion h
noncomputable def nZ (x:Expr) (f:Option Expr→Option Expr→Bool):Bool:=match x with | .Slice u v none _=>f u v|_=>false
theorem j9 {x:Expr} {f:Option Expr→Option Expr→Bool} (h:nZ x f=true):∃u v p,x=.Slice u v none p∧f u v=true:=by
 cases x with
 | Slice u v w p=>cases w with|none=>exact ⟨u,v,p,rfl,h⟩|some _=>exact Bool.noConfusion h
 | _=>exact Bool.noConfusion h
noncomputable def wZ (x:Expr) (f:Expr→Bool):Bool:=match x with | .Slice none none (some z) _=>f z|_=>false
noncomputable def aF (x:Expr) (f:Expr→List Expr→Pos→Bool):Bool:=match x with | .Call g xs [] p=>f g xs p|_=>false
theorem ay {x:Expr} {f:Expr→List Expr→Pos→Bool} (h:aF x f=true):∃g xs p,x=.Call g xs [] p∧f g xs p=true:=by
 cases x with
 | Call g xs ks p=>cases ks with|nil=>exact ⟨g,xs,p,rfl,h⟩|cons _ _=>exact Bool.noConfusion h
 | _=>exact Bool.noConfusion h
noncomputable def fG (x:Expr) (f:Expr→Str→Pos→Bool):Bool:=match x with | .Attribute y n p=>f y n p|_=>false
theorem eh {x:Expr} {f:Expr→Str→Pos→Bool} (h:fG x f=true):∃y n p,x=.Attribute y n p∧f y n p=true:=by
 cases x with|Attribute y n p=>exact ⟨y,n,p,rfl,h⟩|_=>exact Bool.noConfusion h
noncomputable def qq (x:Expr) (f:Expr→List Comprehension→Scope→Pos→Bool):Bool:=match x with | .ListComp e gs sc p=>f e gs sc p|_=>false
theorem dw {x:Expr} {f:Expr→List Comprehension→Scope→Pos→Bool} (h:qq x f=true):∃e gs sc p,x=.ListComp e gs sc p∧f e gs sc p=true:=by
 cases x with|ListComp e gs sc p=>exact ⟨e,gs,sc,p,rfl,h⟩|_=>exact Bool.noConfusion h
noncomputable def wp (x:Expr) (f:Expr→Expr→List Comprehension→Scope→Pos→Bool):Bool:=match x with | .DictComp k v gs sc p=>f k v gs sc p|_=>false
theorem hV {x:Expr} {f:Expr→Expr→List Comprehension→Scope→Pos→Bool} (h:wp x f=true):∃k v gs sc p,x=.DictComp k v gs sc p∧f k v gs sc p=true:=by
 cases x with|DictComp k v gs sc p=>exact ⟨k,v,gs,sc,p,rfl,h⟩|_=>exact Bool.noConfusion h
noncomputable def lY (wk:DW) (x:Expr) (f:Expr→Bool):Bool:=match wk with
 | .keys=>cI x && f x
 | .items=>aF x fun g xs cp=>fG g fun y n ap=>n == ("items":Str) && ap.endLine == cp.line && xs.isEmpty && cR y && f y
theorem oj {x:Expr} {f:Expr→Bool} (h:lY .keys x f=true):cI x=true∧f x=true:=by
 unfold lY at h
 rw [Bool.and_eq_true] at h
 exact h
theorem lL {x:Expr} {f:Expr→Bool} (h:lY .items x f=true):∃y ap cp,x=.Call (.Attribute y "items" ap) [] [] cp∧(ap.endLine == cp.line)=true∧cR y=true∧f y=true:=by
 unfold lY at h
 replace h:=ay h
 obtain ⟨g,xs,cp,rfl,h⟩:=h
 replace h:=eh h
 obtain ⟨y,n,ap,rfl,h⟩:=h
 simp only [Bool.and_eq_true,beq_iff_eq] at h
 obtain ⟨⟨⟨⟨h1,h2⟩,h3⟩,h4⟩,h5⟩:=h
 subst h1
 cases xs with
 | nil=>exact ⟨y,ap,cp,rfl,by rw [h2];simp,h4,h5⟩
 | cons _ _=>cases h3
noncomputable def v8:DW→Expr→Bool
 | .items,.Tuple ..=>true
 | .items,_=>false
 | .keys,_=>true
theorem wq {α β:Type} {xs:List α} {ys:List β} (h:(xs.isEmpty && ys.isEmpty)=true):xs=[]∧ys=[]:=by
 cases xs with
 | nil=>cases ys with|nil=>exact ⟨rfl,rfl⟩|cons _ _=>exact Bool.noConfusion h
 | cons _ _=>exact Bool.noConfusion h
theorem o9 {α:Type} {x:Option α} (h:x.isNone=true):x=none:=by
 cases x with|none=>rfl|some _=>exact Bool.noConfusion h
noncomputable def yP (x:Expr) (f:Arguments→Expr→Scope→Bool):Bool:=match x with | .Lambda a b sc _=>f a b sc|_=>false
noncomputable def xM (x:Arguments) (f:Str→Bool):Bool:=x.posonlyargs.isEmpty && x.vararg.isNone && x.kwonlyargs.isEmpty && x.kw_defaults.isEmpty && x.kwarg.isNone && x.defaults.isEmpty && on1 x.args fun a=>f a.arg
noncomputable def Cfg.lam (c:Cfg) (k:Nat) (y:Str) (caps:List Nat) (sc:Scope):Cfg:={ c with N:=y::caps.filterMap (c.N[·]?),names:=sc.names,lim:=k,pc:=false,hm:=none }
noncomputable def Cfg.lamOk (c:Cfg) (k:Nat) (y:Str) (caps:List Nat) (sc:Scope):Bool :=
 sc.kind == .function && !sc.isCoroutine && !sc.isGenerator && sc.names.all (fun y=>!(y.2 == .cell)) && sc.names.lookup y == some .local && sc.names.all (fun y=>!(y.2 == .local) || sc.names.lookup y.1 == some .local) && sc.names.all (fun y=>!(y.2 == .free) || ot (c.names.lookup y.1))
  && decide (k+1<c.lim) && caps.all (fun i=>decide (i<c.N.length)) && (caps.filterMap (c.N[·]?)).all (fun x=>sc.names.lookup x == some .free && ot (c.names.lookup x)) && decide (y::caps.filterMap (c.N[·]?)).Nodup
mutual
noncomputable def aj (c:Cfg):E→Expr→Bool
 | .var i,x=>al x fun y _=>c.N[i]? == some y && c.vis y
 | .int i,x=>mS x fun j=>i == j
 | .bl i,x=>xE x fun j=>i == j
 | .non,x=>vt x
 | .str i,x=>lc x fun j=>i == j
 | .gv y v,x=>al x fun z _=>z == y && c.glb y && fe (c.gl.lookup y) fun w=>w.same v
 | .tup es,x=>cj x fun xs=>cm c es xs
 | .lst es,x=>pZ x fun xs=>cm c es xs
 | .dct1 k i,x=>lD x fun ks vs=>on1 ks fun ok=>fe ok fun kx=>lc kx fun k'=>on1 vs fun vx=>mS vx fun i'=>k == k' && i == i'
 | .dct0,x=>lD x fun ks vs=>ks.isEmpty && vs.isEmpty
 | .bin op a b,x=>tZ x fun l o r=>o == op && aj c a l && aj c b r
 | .neg a,x=>sm x fun y=>aj c a y
 | .not a,x=>rl x fun y=>aj c a y
 | .cmp op a b,x=>lb x fun l o r=>o == op && !behindInMarks o r && aj c a l && aj c b r
 | .bop k es,x=>pL x fun o xs=>(o == if k then .And else .Or) && cm c es xs && !xs.isEmpty
 | .ite t a b,x=>uH x fun y l r=>oo c t y && aj c a l && aj c b r
 | .ix a b,x=>i3 x fun l r=>eO r && aj c a l && aj c b r
 | .sl a lo hi,x=>i3 x fun l r=>nZ r fun u v=>aj c a l && wI c lo u && wI c hi v
 | .call f es,x=>aF x fun g xs _=>al g fun y _=>c.fn f y && xs.all ae && cm c es xs
 | .blt b es,x=>aF x fun g xs _=>al g fun y _=>y == gh b && c.blt y && xs.all ae && !xs.isEmpty && cm c es xs
 | .inst a t,x=>aF x fun g xs _=>al g fun y _=>on2 xs fun l r=>al r fun z _=>y == ("isinstance":Str) && c.blt y && ae l && z == (t:Str) && c.blt z && kinds.contains t && aj c a l
 | .met m o es,x=>aF x fun g xs cp=>fG g fun y n ap=>n == jY m && ap.endLine == cp.line && xs.all ae && decide (xs.length≤2) && cR y && aj c o y && cm c es xs
 | .comp elt tg it ifs nt caps,x=>qq x fun ex gs sc _=>on1 gs fun g=>g.is_async == 0 && rc it g.target && cI g.iter && tg.low nt.length && c.block nt caps sc && pk c it g.iter && eD (c.inner nt caps sc) tg g.target && fV (c.inner nt caps sc) ifs g.ifs && aj (c.inner nt caps sc) elt ex
 | .tmp a,x=>aj c a x
 | .compK elt tg wk e ifs nt caps,x=>qq x fun ex gs sc _=>on1 gs fun g=>g.is_async == 0 && v8 wk g.target && cI g.iter && tg.low nt.length && c.block nt caps sc && lY wk g.iter (fun y=>aj c e y) && eD (c.inner nt caps sc) tg g.target && fV (c.inner nt caps sc) ifs g.ifs && aj (c.inner nt caps sc) elt ex
 | .compD kx vx tg wk e ifs nt caps,x=>wp x fun ek ev gs sc _=>on1 gs fun g=>g.is_async == 0 && v8 wk g.target && cI g.iter && tg.low nt.length && c.block nt caps sc && lY wk g.iter (fun y=>aj c e y) && eD (c.inner nt caps sc) tg g.target && fV (c.inner nt caps sc) ifs g.ifs && aj (c.inner nt caps sc) kx ek && aj (c.inner nt caps sc) vx ev
 | .dcl a,x=>aF x fun g xs _=>al g fun y _=>on1 xs fun u=>y == ("dict":Str) && c.blt y && ae u && aj c a u
 | .eqd ne a b,x=>lb x fun l o r=>(o == if ne then .NotEq else .Eq) && !behindInMarks o r && aj c a l && aj c b r
 | .bad,_=>true
 | .dcp a,x=>aF x fun g xs _=>al g fun y _=>on1 xs fun u=>y == ("dict":Str) && c.blt y && ae u && aj c a u
 | .clr a,x=>aF x fun g xs cp=>fG g fun y n ap=>n == ("clear":Str) && ap.endLine == cp.line && xs.isEmpty && cR y && aj c a y
 | .sset a,x=>aF x fun g xs _=>al g fun y _=>on1 xs fun l=>aF l fun g2 ys _=>al g2 fun z _=>on1 ys fun u=>y == ("sorted":Str) && c.blt y && z == ("set":Str) && c.blt z && ae l && ae u && aj c a u
 | .jrev a,x=>aF x fun g xs cp=>fG g fun y n ap=>lc y fun j=>on1 xs fun l=>i3 l fun u r=>wZ r fun z=>sm z fun z1=>mS z1 fun i=>n == ("join":Str) && ap.endLine == cp.line && j == ("":Str) && i == 1 && aj c a u
 | .part a s,x=>aF x fun g xs cp=>fG g fun y n ap=>on1 xs fun l=>lc l fun j=>n == ("partition":Str) && ap.endLine == cp.line && j == s && !(s.length == 0) && cR y && aj c a y
 | .pcall i e,x=>c.pc && aF x fun g xs _=>al g fun y _=>on1 xs fun l=>c.N[i]? == some y && c.vis y && ae l && aj c e l
 | .hm e be caps,x=>fe c.hm fun k=>aF x fun g xs _=>al g fun y _=>on2 xs fun l r=>yP r fun as b sc=>xM as fun z=>y == ("how_many":Str) && c.glb y && ae l && c.lamOk k z caps sc && aj c e l && aj (c.lam k z caps sc) be b
termination_by structural e=>e
noncomputable def cm (c:Cfg):Es→List Expr→Bool
 | .nil,xs=>xs.isEmpty
 | .cons e es,xs=>g_ xs fun y ys=>ae y && aj c e y && cm c es ys
termination_by structural e=>e
noncomputable def wI (c:Cfg):O→Option Expr→Bool
 | .no,x=>x.isNone
 | .yes e,x=>fe x fun y=>aj c e y
termination_by structural e=>e
noncomputable def oo (c:Cfg):E→Expr→Bool
 | .not a,x=>rl x fun y=>oo c a y
 | .bop k es,x=>pL x fun o xs=>(o == if k then .And else .Or) && !xs.isEmpty && fV c es xs
 | .cmp op a b,x=>lb x fun l o r=>o == op && !behindInMarks o r && aj c a l && aj c b r
 | .var i,x=>al x fun y _=>c.N[i]? == some y && c.vis y
 | .call f es,x=>aF x fun g xs _=>al g fun y _=>c.fn f y && xs.all ae && cm c es xs
 | .blt b es,x=>aF x fun g xs _=>al g fun y _=>y == gh b && c.blt y && xs.all ae && !xs.isEmpty && cm c es xs
 | .inst a t,x=>aF x fun g xs _=>al g fun y _=>on2 xs fun l r=>al r fun z _=>y == ("isinstance":Str) && c.blt y && ae l && z == (t:Str) && c.blt z && kinds.contains t && aj c a l
 | .tmp a,x=>mo x && aj c a x
 | .ix a b,x=>i3 x fun l r=>eO r && aj c a l && aj c b r
 | .pcall i e,x=>c.pc && aF x fun g xs _=>al g fun y _=>on1 xs fun l=>c.N[i]? == some y && c.vis y && ae l && aj c e l
 | .eqd ne a b,x=>lb x fun l o r=>(o == if ne then .NotEq else .Eq) && !behindInMarks o r && aj c a l && aj c b r
 | .compK _ _ _ _ _ _ _,_ | .compD _ _ _ _ _ _ _ _,_ | .dcl _,_ | .hm _ _ _,_ | .bl _,_ | .int _,_ | .non,_ | .str _,_ | .gv _ _,_ | .tup _,_ | .lst _,_ | .dct0,_ | .dct1 _ _,_ | .bin _ _ _,_ | .neg _,_ | .ite _ _ _,_ | .sl _ _ _,_ | .met _ _ _,_ | .comp _ _ _ _ _ _,_ | .bad,_ | .jrev _,_ | .sset _,_ | .clr _,_ | .dcp _,_ | .part _ _,_=>true
termination_by structural e=>e
noncomputable def fV (c:Cfg):Es→List Expr→Bool
 | .nil,xs=>xs.isEmpty
 | .cons e es,xs=>g_ xs fun y ys=>oo c e y && fV c es ys
termination_by structural e=>e
noncomputable def pk (c:Cfg):It→Expr→Bool
 | .seq e,x=>cI x && aj c e x
 | .range1 a,x=>aF x fun g xs _=>al g fun y _=>on1 xs fun l=>y == ("range":Str) && c.blt y && ae l && aj c a l
 | .range2 a b,x=>aF x fun g xs _=>al g fun y _=>on2 xs fun l r=>y == ("range":Str) && c.blt y && ae l && ae r && aj c a l && aj c b r
 | .zip a b,x=>aF x fun g xs _=>al g fun y _=>on2 xs fun l r=>y == ("zip":Str) && c.blt y && ae l && ae r && aj c a l && aj c b r
 | .zip3 a b d,x=>aF x fun g xs _=>al g fun y _=>on3 xs fun l r u=>y == ("zip":Str) && c.blt y && ae l && ae r && ae u && aj c a l && aj c b r && aj c d u
 | .enum a,x=>aF x fun g xs _=>al g fun y _=>on1 xs fun l=>y == ("enumerate":Str) && c.blt y && ae l && aj c a l
 | .chars e,x=>cI x && aj c e x
 | .range3 a b d,x=>aF x fun g xs _=>al g fun y _=>on3 xs fun l r u=>y == ("range":Str) && c.blt y && ae l && ae r && ae u && aj c a l && aj c b r && aj c d u
termination_by structural e=>e
noncomputable def eD (c:Cfg):Tg→Expr→Bool
 | .name i,x=>al x fun y _=>c.N[i]? == some y && c.loc y
 | .tup ts,x=>cj x fun xs=>gJ c ts xs
 | .ltup ts,x=>cj x fun xs=>gJ c ts xs
 | .sub o i,x=>i3 x fun l r=>eO r && aj c o l && aj c i r
termination_by structural e=>e
noncomputable def gJ (c:Cfg):Tgs→List Expr→Bool
 | .nil,xs=>xs.isEmpty
 | .cons t ts,xs=>g_ xs fun y ys=>ae y && eD c t y && gJ c ts ys
termination_by structural e=>e
end
end FW
set_option Elab.async false
set_option linter.all false
set_option maxRecDepth 100000
set_option maxHeartbeats 1000000
namespace FW
open PySem PySem.Spec PyProof.Rows L2 HX
noncomputable def aY (K:PySem.W.Frag) (sp:FSp):Sp:=fun vs H Q _=>∃m st as,Rs K m H as vs∧RH K m H st∧sp as st (post K m H Q)
noncomputable def v_ (P:Program) (w:World) (K:PySem.W.Frag) (mg:Str→Option Value) (base:Heap) (k:Nat) (outer:List Env) (s:Shared) (H:Hp) (a:Addr) (L:FSp):Prop :=
 ∀(A':Around) (outer':List Env) (s':Shared) (H':Hp) (u:Value) (v:V) (Q':VK),Room k A'→o8 P w K mg base A' outer' s' H'→Un (frs outer) [] H H' s.heap s'.heap→RelV v u→aY K L [v] H' Q' E0 →
  PySem.W.FnAt a s'.heap∧codeAny (model P w) A' (.call (.ref a) ⟨[u],[]⟩) (CR CX0 outer' P w H' s' Q' E0) s'
noncomputable def xQ (L:FSp):Prop:=∀as st Q Q',(∀v st,Q v st→Q' v st)→L as st Q→L as st Q'
noncomputable def zr (a:Nat) (L:FSp):FSp:=fun as st Q=>∃(xs:List PV) (g:PV→Bool),as=[.tup xs,.fn a]∧xs.length≤100000∧(∀y∈xs,∀Q':EK,Q' (.bl (g y)) st→L [y] st Q')∧Q (.int (bsr g xs)) st
structure zq (P:Program) (w:World) (K:PySem.W.Frag) (mg:Str→Option Value) (base:Heap) (k:Nat):Prop where
 ex:∃f fd,mg "how_many"=some (.ref f)∧PySem.W.keepIn K (.ref f)=true∧Binds K fd ["stair","holds"] [] ∧
  ∀(a:Addr) (L:FSp),xQ L→∀(A:Around) (outer:List Env) (s:Shared) (H:Hp) (args:Args) (us:List Value) (vs:List V) (Q:VK),Room (k+1) A→o8 P w K mg base A outer s H→BindsTo s fd args ((["stair","holds"]:List Str).zip us)→Vals vs us →
   v_ P w K mg base k outer s H a L→aY K (zr a L) vs H Q E0→codeAny (model P w) A (.call (.ref f) args) (CR CX0 outer P w H s Q E0) s
structure HmX (X:Cx) (k:Nat):Prop where
 ok:zq X.prog X.w X.K X.mg X.base (k+1)
 cd:∃x c0 T,x∈aL∧PySem.W.tabIn X.K x=some (c0,T)∧X.env.code=.ref c0∧X.env.qual=x++".<locals>."∧PySem.W.CodeHd X.base c0 T
 bm:∃bm ob,X.mg "__builtins__"=some (.ref bm)∧bm≠builtinsNs∧X.base.get? bm=some ob∧ob.cls=.type "module"∧ob.dict=some builtinsNs∧ob.data=.plain
structure COk (X:Cx) (c:Cfg) (Γ:Nat→FSp):Prop where
 calm:X.calm=true
 pass:PassesOwn (model X.prog X.w) X.A X.env X.xe
 N:X.N=c.N
 nd:c.N.Nodup
 vis:∀x,c.names.lookup x=some .local∨c.names.lookup x=some .cell∨c.names.lookup x=some .free→Vis X.env.scope x
 loc:∀x,c.names.lookup x=some .local∨c.names.lookup x=some .cell→Loc X.env.scope x∧(X.fn x=true∨X.env.scope.names.lookup x=some .local)
 lcl:∀x,c.names.lookup x=some .local→X.env.scope.names.lookup x=some .local
 glb:∀x,c.names.lookup x=some .globalImplicit→Gl X x
 bk:X.env.blockKind=.function
 cel:∀x,c.names.lookup x=some .cell∨c.names.lookup x=some .free→X.env.kindOf x=some .cell∨X.env.kindOf x=some .free
 room:Room c.lim X.A
 fn:∀f x,f<c.lim→c.fns[f]?=some x→∃ps,Has X.prog X.w X.K X.mg X.base (f+1) x ps (aY X.K (Γ f))
 blt:∀x∈c.blts,X.mg x=none
 gl:∀x v,c.gl.lookup x=some v→∃u y,X.mg x=some u∧RelV y u∧∀m H,R X.K m H v y
 mono:aV Γ
 lam:c.pc=true→∀ {pins:List (Addr × Obj)} {σ:L2.St} {H:Hp} {s:Shared} {b:Addr} {u:Value} {v:V} {Q:VK},L2.Inv X pins σ H s→RelV v u→aY X.K (Γ 1000) [.ref b,v] H Q E0 →
  PySem.W.FnAt b s.heap∧wpAny (model X.prog X.w) X.A (call (.ref b) [u]) (EP X pins σ Q) X.xe s
 hmo:∀k,c.hm=some k→HmX X k
section
variable {X:Cx} {c:Cfg} {Γ:Nat→FSp}
theorem COk.visx (C:COk X c Γ) {x:Str} (h:c.vis x=true):Vis X.env.scope x∧(x == ("__debug__":Str))=false∧(x == ("__classdict__":Str))=false:=by
 unfold Cfg.vis at h
 simp only [Bool.and_eq_true,Bool.or_eq_true,beq_iff_eq,Bool.not_eq_true'] at h
 exact ⟨C.vis x (by rcases h.1.1 with (h|h)|h <;> simp [h]),h.1.2,h.2⟩
theorem COk.glbx (C:COk X c Γ) {x:Str} (h:c.glb x=true):Gl X x∧(x == ("__debug__":Str))=false∧x≠"__name__":=by
 unfold Cfg.glb at h
 simp only [Bool.and_eq_true,beq_iff_eq,Bool.not_eq_true'] at h
 exact ⟨C.glb x h.1.1,h.1.2,fun z=>by rw [z] at h;exact absurd h.2 (by decide)⟩
theorem COk.bltx (C:COk X c Γ) {x:Str} (h:c.blt x=true):Gl X x∧(x == ("__debug__":Str))=false∧x≠"__name__"∧X.mg x=none:=by
 unfold Cfg.blt at h
 rw [Bool.and_eq_true] at h
 obtain ⟨h1,h2,h3⟩:=C.glbx h.1
 exact ⟨h1,h2,h3,C.blt x (List.contains_iff_mem.mp h.2)⟩
theorem COk.fnx (C:COk X c Γ) {f:Nat} {x:Str} (h:c.fn f x=true):Gl X x∧(x == ("__debug__":Str))=false∧Room (f+1) X.A∧∃ps,Has X.prog X.w X.K X.mg X.base (f+1) x ps (aY X.K (Γ f)):=by
 unfold Cfg.fn at h
 simp only [Bool.and_eq_true,beq_iff_eq,decide_eq_true_eq] at h
 obtain ⟨h1,h2,h3⟩:=C.glbx h.2
 exact ⟨h1,h2,C.room.mono h.1.2,C.fn f x h.1.2 h.1.1⟩
theorem xu:∀b:B,bootBuiltins (gh b)=some (yS b):=by
 intro b
 cases b <;> decide +kernel
theorem mF:∀t∈kinds,bootBuiltins (t:Str)=some (.type t):=by decide +kernel
theorem j0:bootBuiltins ("isinstance":Str)=some (.builtin "isinstance"):=by decide +kernel
theorem mi {x:Expr} (h:mo x=true) (env:Env):∀whole,isTrue x env whole=(do let v ←whole;standAt x.pos;holding [v] (truthy v)):=by
 cases x <;> first|(intro _;rfl)|cases h
theorem lO {K:PySem.W.Frag} {m:List Addr} {H:Hp} {as:List PV} {vs:List V} (h:Rs K m H as vs):Rs K m H as (vs++[]):=by rw [List.append_nil];exact h
theorem lv (C:COk X c Γ) {f:Nat} {y:Str} {xs:List Expr} {p pos:Pos} {es:Es} (hf:c.fn f y=true) (hn:xs.all ae=true) (hc:cm c es xs=true) (ha:PA X xs (TAx X.K (bx Γ es))) :
  PE X (.Call (.Name y p) xs [] pos) (TEx X.K fun ρ st Q=>bx Γ es ρ st fun vs st1=>Γ f vs st1 Q):=by
 obtain ⟨h1,h2,hr,ps,F⟩:=C.fnx hf
 have key:∀ {σ:L2.St} {H:Hp} {Q:VK},TEx X.K (fun ρ st Q=>bx Γ es ρ st fun vs st1=>Γ f vs st1 Q) σ H Q→jd (aY X.K (Γ f)) [] E0 (TAx X.K (bx Γ es)) σ H Q:=by
  rintro σ H Q ⟨m,ρ,st,rf,rh,w⟩
  exact ⟨m,ρ,st,rf,rh,au C.mono es (fun vs st1 k m1 H1 xs1 e1 r1 r2=>⟨m1,st1,vs,lO r2,r1,C.mono _ _ _ _ _ (fun _ _ q=>q.ext e1) k⟩) w⟩
 intro pins s σ H Q I h
 cases xs with
 | nil =>
  refine sG F hr h1 h2 pins s σ H Q I ?_
  obtain ⟨m,ρ,st,rf,rh,w⟩:=h
  cases es with
  | nil=>exact ⟨m,st,[],Rs_nil.mpr rfl,rh,w⟩
  | cons e es=>exact Bool.noConfusion (show false=true from hc)
 | cons x xs =>
  rw [List.all_cons,Bool.and_eq_true] at hn
  exact tY F hr ha h1 h2 hn.1 hn.2 pins s σ H Q I (key h)
theorem j1 (C:COk X c Γ) {b:B} {y:Str} {xs:List Expr} {p pos:Pos} {es:Es} (hy:y=gh b) (hb:c.blt y=true) (hn:xs.all ae=true) (hne:xs.isEmpty=false) (ha:PA X xs (TAx X.K (bx Γ es))) :
  PE X (.Call (.Name y p) xs [] pos) (TEx X.K fun ρ st Q=>bx Γ es ρ st fun vs st1=>bX b vs st1 Q):=by
 obtain ⟨h1,h2,h3,h4⟩:=C.bltx hb
 have hv:=xu b
 rw [←hy] at hv
 have key:∀ {σ:L2.St} {H:Hp} {Q:VK},TEx X.K (fun ρ st Q=>bx Γ es ρ st fun vs st1=>bX b vs st1 Q) σ H Q→tCB (yD X.K (bX b)) (TAx X.K (bx Γ es)) σ H Q:=by
  rintro σ H Q ⟨m,ρ,st,rf,rh,w⟩
  exact ⟨m,ρ,st,rf,rh,au C.mono es (fun vs st1 k m1 H1 xs1 e1 r1 r2=>⟨m1,st1,vs,r1,r2,dC (fun _ _ q=>q.ext e1) k⟩) w⟩
 have hc:=wu C.calm C.room.gd C.room.units b
 cases xs with
 | nil=>cases hne
 | cons x xs =>
  rw [List.all_cons,Bool.and_eq_true] at hn
  intro pins s σ H Q I h
  cases b <;> first
   | exact jh hc h1 h4 hv ha h3 h2 hn.1 hn.2 pins s σ H Q I (key h)
   | exact em hc h1 h4 hv ha h3 h2 hn.1 hn.2 pins s σ H Q I (key h)
theorem on (m:M):PlainAttrs "list"∧Slot "list" (jY m) (nz m)∧typeOf (.builtin (nz m))=pure (.type "method_descriptor"):=by
 cases m
 ·exact ⟨PySem.F.plainAttrs_list,PySem.F.slot_list_append,PySem.F.type_list_append⟩
 ·exact ⟨PySem.F.plainAttrs_list,PySem.F.slot_list_pop,PySem.F.type_list_pop⟩
 ·exact ⟨PySem.F.plainAttrs_list,PySem.F.slot_list_extend,PySem.F.type_list_extend⟩
 ·exact ⟨PySem.F.plainAttrs_list,PySem.F.slot_list_insert,PySem.F.type_list_insert⟩
 ·exact ⟨PySem.F.plainAttrs_list,PySem.F.slot_list_count,PySem.F.type_list_count⟩
theorem cO {y:Expr} (h:cR y=true) {n:Str} {env:Env} {w:Sem Value}:attributeBase y n env w=w:=by
 cases y <;> first|rfl|cases h
theorem pE (C:COk X c Γ) {m:M} {n:Str} {y:Expr} {ap cp:Pos} {xs:List Expr} {o:E} {es:Es} (hn:n=jY m) (hl:(ap.endLine == cp.line)=true) (hs:xs.all ae=true) (h2:xs.length≤2) (hy:cR y=true) (ho:PE X y (TEx X.K (wpE Γ o))) (ha:PA X xs (TAx X.K (bx Γ es))) (hc:cm c es xs=true) :
  PE X (.Call (.Attribute y n ap) xs [] cp) (TEx X.K (wpE Γ (.met m o es))):=by
 obtain ⟨pa,slot,ty⟩:=on m
 rw [←hn] at slot
 have hm:MtR X (nz m) (xV X.K (lu m)):=v5 m
 intro pins s σ H Q I h
 obtain ⟨mm,ρ,st,rf,rh,w⟩:=h
 skip
 have tyv:∀ {m1:List Addr} {H1:Hp} {st1:AH} {v:PV} {x:V},RH X.K m1 H1 st1→R X.K m1 H1 v x→(∃xs,aO st1 v=some xs)→tyV X.K "list" x H1:=by
  rintro m1 H1 st1 v x r1 r2 ⟨xs,e⟩
  obtain ⟨a,ys,rfl,g,_⟩:=bI r1 r2 e
  exact .inl ⟨rfl,ys,g⟩
 match xs,hs,h2,ha,hc with
 | [],hs,h2,ha,hc =>
  refine ly pa slot ty hm ho (cO hy) hl pins s σ H Q I ?_
  refine ⟨mm,ρ,st,rf,rh,aa C.mono o (fun v st1 k m1 H1 x1 e1 r1 r2=>⟨tyv r1 r2 k.1,?_⟩) w⟩
  cases es with
  | nil =>
   have k2:=k.2
   skip
   exact ⟨m1,st1,v,[],r1,r2,Rs_nil.mpr rfl,dI (fun _ _ q=>q.ext e1) k2⟩
  | cons e es=>exact Bool.noConfusion (show false=true from hc)
 | [a],hs,h2,ha,hc =>
  simp only [List.all_cons,List.all_nil,Bool.and_true] at hs
  have st1:starEach [a] X.env=[(false,eval a X.env)]:=bi hs
  refine uv pa slot ty hm ho ha (cO hy) (by rw [st1];rfl) hl st1 rfl pins s σ H Q I ?_
  refine ⟨mm,ρ,st,rf,rh,aa C.mono o (fun v st1 k m1 H1 x1 e1 r1 r2=>⟨tyv r1 r2 k.1,?_⟩) w⟩
  exact ⟨m1,ρ,st1,rf.mono e1,r1,au C.mono es (fun vs st2 k m2 H2 xs2 e2 r3 r4=>⟨m2,st2,v,vs,r3,r2.mono e2,r4,dI (fun _ _ q=>q.ext (e1.trans e2)) k⟩) k.2⟩
 | [a,b],hs,h2,ha,hc =>
  simp only [List.all_cons,List.all_nil,Bool.and_true,Bool.and_eq_true] at hs
  have stb:starEach [b] X.env=[(false,eval b X.env)]:=bi hs.2
  have st1:starEach [a,b] X.env=(false,eval a X.env)::starEach [b] X.env:=bi hs.1
  refine uv pa slot ty hm ho ha (cO hy) (by rw [st1,stb];rfl) hl st1 (by rw [stb];rfl) pins s σ H Q I ?_
  refine ⟨mm,ρ,st,rf,rh,aa C.mono o (fun v st1 k m1 H1 x1 e1 r1 r2=>⟨tyv r1 r2 k.1,?_⟩) w⟩
  exact ⟨m1,ρ,st1,rf.mono e1,r1,au C.mono es (fun vs st2 k m2 H2 xs2 e2 r3 r4=>⟨m2,st2,v,vs,r3,r2.mono e2,r4,dI (fun _ _ q=>q.ext (e1.trans e2)) k⟩) k.2⟩
 | _::_::_::_,hs,h2,ha,hc=>simp at h2
mutual
theorem PV.bel_le {i j:Nat} (h:i≤j):∀ {v:PV},v.bel i=true→v.bel j=true
 | .non,_=>by rw [PV.bel]
 | .bl _,_=>by rw [PV.bel]
 | .int _,_=>by rw [PV.bel]
 | .str _,_=>by rw [PV.bel]
 | .ref n,z=>by rw [PV.bel] at z ⊢;have:=of_decide_eq_true z;exact decide_eq_true (by omega)
 | .tup xs,z=>by rw [PV.bel] at z ⊢;exact PV.bels_le h z
 | .rdl xs,z=>by rw [PV.bel] at z ⊢;exact PV.bels_le h z
 | .fn _,z=>by rw [PV.bel] at z;cases z
theorem PV.bels_le {i j:Nat} (h:i≤j):∀ {vs:List PV},PV.bels i vs=true→PV.bels j vs=true
 | [],_=>by rw [PV.bels]
 | v::vs,z=>by rw [PV.bels,Bool.and_eq_true] at z ⊢;exact ⟨PV.bel_le h z.1,PV.bels_le h z.2⟩
end
theorem mR (C:COk X c Γ) {a:E} {t:String} {l:Expr} {y z:Str} {p q pos:Pos} (h:(y == ("isinstance":Str) && c.blt y && ae l && z == (t:Str) && c.blt z && kinds.contains t)=true) (ha:PE X l (TEx X.K (wpE Γ a))) :
  PE X (.Call (.Name y p) [l,.Name z q] [] pos) (TEx X.K (wpE Γ (.inst a t))):=by
 simp only [Bool.and_eq_true,beq_iff_eq] at h
 obtain ⟨⟨⟨⟨⟨h1,h2⟩,h3⟩,h4⟩,h5⟩,h6⟩:=h
 subst h1 h4
 have ht:t∈kinds:=List.contains_iff_mem.mp h6
 obtain ⟨g1,g2,g3,g4⟩:=C.bltx h2
 obtain ⟨k1,k2,k3,k4⟩:=C.bltx h5
 rintro pins s σ H Q I ⟨m,ρ,st,rf,rh,w⟩
 skip
 have pt:PE X (.Name (t:Str) q) (tC (.ty t)):=sQ k1 k4 (mF t ht) rfl k3 k2
 have hA:PA X [l,.Name (t:Str) q] (fT (TEx X.K (wpE Γ a)) (fT (tC (.ty t)) mj)):=pac ha (pac pt dn) h3
 have hC:bR X (.builtin "isinstance") (fun xs H Q=>∃m st x y n,RH X.K m H st∧R X.K m H x y∧xs=[y,.ty t]∧b8 st x=some n∧Q (.bl (dv t n)) H):=by
  rintro pins s σ H xs us Q I r ⟨m,st,x,y,n,r1,r2,rfl,e,q⟩
  obtain ⟨u,v,rfl,ru,rv⟩:=mQ r
  cases (show v=Value.type t from rv)
  exact sZ (K:=X.K) I r1 r2 ru e ht fun tk=>⟨.bl _,H,I.tok tk,rfl,q⟩
 refine jh hC g1 g4 j0 hA g3 g2 h3 rfl pins s σ H Q I ?_
 refine ⟨m,ρ,st,rf,rh,aa C.mono a (fun v st1 k m1 H1 x1 e1 r1 r2=>?_) w⟩
 obtain ⟨n,e,k⟩:=k
 exact ⟨m1,st1,v,x1,n,r1,r2,rfl,e,(k.ext e1).here r1 (R_bl.mpr rfl)⟩
theorem p4 (C:COk X c Γ) {i:Nat} {y:Str} {p:Pos} (h:(c.N[i]? == some y && c.vis y)=true):PE X (.Name y p) (TEx X.K (wpE Γ (.var i))):=by
 simp only [Bool.and_eq_true,beq_iff_eq] at h
 obtain ⟨h1,h2,h3⟩:=C.visx h.2
 rintro pins s σ H Q I ⟨m,ρ,st,rf,rh,w⟩
 skip
 obtain ⟨v,e,w⟩:=w
 obtain ⟨y,e2,r⟩:=rf.at_ i v e
 exact wD (by rw [C.N];exact h.1) h1 h2 h3 pins s σ H Q I ⟨y,e2,w.here rh r⟩
theorem jL {K:PySem.W.Frag} {m m':List Addr} {H H':Hp} {st st':AH} {Q:EK} {v:PV} {x:V} (rh:RH K m H st) (e:Ext K m H m' H') (rh':RH K m' H' st') (r:R K m' H' v x) (q:Tmp st Q v st') :
  ∃st1,Q v st1∧Ext K m H m H'∧RH K m H' st1∧R K m H' v x:=by
 obtain ⟨st1,g,rfl,hl,hs,hb,q⟩:=q
 have hm:m'.take m.length=m:=by
  obtain ⟨t,ht⟩:=e.pre
  rw [←ht,List.take_left]
 have hlen:m.length=st.length:=rh.len
 refine ⟨st1,q,⟨List.prefix_refl _,fun _ z=>.inl z,e.fr,e.tup,e.rdf,e.tbs,e.tb,e.frz⟩,⟨by rw [hl,hlen],rh.nd,fun n c a h1 h2=>?_,e.tb rh.tb⟩,?_⟩
 ·have hn:n<st1.length:=(List.getElem?_eq_some_iff.mp h1).1
  have c1:CellR K m' H' c a:=rh'.at_ n c a (by rw [List.getElem?_append_left hn];exact h1) (dB e.pre h2)
  have hc:c.bec m.length=true:=by
   rcases hs n (by omega) with z|⟨c',z,zb⟩
   ·rw [h1] at z
    exact (rh.at_ n c a z.symm h2).bel
   ·rw [h1] at z
    cases z
    have zb':∀ {c:Cell},c.bel 0=true→c.bec m.length=true:=by
     have b0:∀(xs:List PV),PV.bels 0 xs=true→PV.becs m.length xs=true:=fun xs h=>PV.bels_becs (Nat.zero_le _) h
     intro c h
     cases c with
     | lst xs=>exact b0 _ h
     | dk kvs=>exact b0 _ h
     | fz kvs=>cases h
    exact zb' zb
  have:=c1.cut hc
  rw [hm] at this
  exact this
 ·have:=r.cut (k:=m.length) (by rw [hlen];exact PV.bel_bec (Nat.le_refl _) hb)
  rw [hm] at this
  exact this
noncomputable def postF (K:PySem.W.Frag) (m:List Addr) (H:Hp) (Q:L2.St→Hp→Prop):Fr→AH→Prop:=fun ρ' st'=>∀m' H' σ',Ext K m H m' H'→RH K m' H' st'→RF K m' H' ρ' σ'→Q σ' H'
theorem postF.ext {K:PySem.W.Frag} {m m1:List Addr} {H H1:Hp} {Q:L2.St→Hp→Prop} (x:Ext K m H m1 H1) {ρ:Fr} {st:AH} (q:postF K m H Q ρ st):postF K m1 H1 Q ρ st:=fun m' H' σ' e r s=>q m' H' σ' (x.trans e) r s
theorem postF.here {K:PySem.W.Frag} {m:List Addr} {H:Hp} {Q:L2.St→Hp→Prop} {ρ:Fr} {σ:L2.St} {st:AH} (q:postF K m H Q ρ st) (h:RH K m H st) (r:RF K m H ρ σ):Q σ H:=q m H σ (Ext.refl _ _ _) h r
noncomputable def TGx (K:PySem.W.Frag) (w:PV→Fr→AH→(Fr→AH→Prop)→Prop):TG:=fun v' σ H Q=>∃m ρ st v,RF K m H ρ σ∧RH K m H st∧R K m H v v'∧w v ρ st (postF K m H Q)
noncomputable def zm (K:PySem.W.Frag) (w:List PV→Fr→AH→(Fr→AH→Prop)→Prop):TGs:=fun v' σ H Q=>∃m ρ st v,RF K m H ρ σ∧RH K m H st∧Rs K m H v v'∧w v ρ st (postF K m H Q)
theorem COk.locx (C:COk X c Γ) {x:Str} (h:c.loc x=true):Loc X.env.scope x∧(X.fn x=true∨X.env.scope.names.lookup x=some .local):=by
 unfold Cfg.loc at h
 simp only [Bool.or_eq_true,beq_iff_eq] at h
 exact C.loc x h
theorem COk.ndX (C:COk X c Γ):X.N.Nodup:=by rw [C.N];exact C.nd
theorem dS {e:Expr} {es:List Expr} {env:Env} (h:ae e=true):assignEach (e::es) env=(false,assign e env)::assignEach es env:=by
 cases e <;> first|rfl|cases h
theorem ej {c:Cfg}:∀ {ts:Tgs} {xs:List Expr} {env:Env},gJ c ts xs=true→(assignEach xs env).length=ts.size∧(assignEach xs env).findIdx? (·.1)=none
 | .nil,xs,env,h=>by
  have h:xs.isEmpty=true:=h
  cases xs with
  | nil=>exact ⟨rfl,rfl⟩
  | cons _ _=>cases h
 | .cons t ts,xs,env,h=>by
  replace h:=aA h
  obtain ⟨y,ys,rfl,h⟩:=h
  ·simp only [Bool.and_eq_true] at h
   obtain ⟨⟨h1,h2⟩,h3⟩:=h
   obtain ⟨g1,g2⟩:=ej (env:=env) h3
   rw [dS h1]
   exact ⟨by simp [g1,Tgs.size],by simp [List.findIdx?_cons,g2]⟩
structure fZ (K:PySem.W.Frag) (J:L2.It) (xs:List PV) (chk:AH→Prop) (m0:List Addr) (H0:Hp):Prop where
 stop:∀m H st,Ext K m0 H0 m H→RH K m H st→chk st→J.stop xs.length H
 item:∀(i:Nat) v m H st,Ext K m0 H0 m H→RH K m H st→chk st→xs[i]?=some v→J.go i H∧∀x H',J.yld i H x H'→Ext K m H m H'∧RH K m H' st∧R K m H' v x
noncomputable def TIx (K:PySem.W.Frag) (w:Fr→AH→(List PV→(AH→Prop)→AH→Prop)→Prop):TI:=fun σ H Rr=>∃m ρ st,RF K m H ρ σ∧RH K m H st ∧
 w ρ st fun xs chk st1=>∀m1 H1 J,Ext K m H m1 H1→RH K m1 H1 st1→fZ K J xs chk m1 H1→Rr J H1
theorem h_ {x:Expr} {env:Env} (h:cI x=true):∀v,foldedSetIterable x env v=pure v:=by
 cases x <;> first|(intro _;rfl)|cases h
theorem xc {tg l:Expr} {tl:TE} (hl:PE X l tl):PI X tg l (fun σ H Rr=>tl σ H fun x H1=>∃a,x=.ref a∧((∃xs,SqL X.K H1 a xs)∧Rr (Itl X.K a) H1∨(∃xs,SqT X.K H1 a xs)∧Rr (Itt X.K a) H1)):=by
 intro pins s σ H Rr I h
 refine thn (hl pins s σ H _ I h) fun v s1 ⟨x,H1,I1,r1,q1⟩=>?_
 obtain ⟨a,e,q1⟩:=q1
 subst e
 cases r1
 rcases q1 with ⟨⟨xs,hq⟩,q⟩|⟨⟨xs,hq⟩,q⟩
 ·obtain ⟨its,rv,p,hz⟩:=I1.list hq
  refine wpAny_pyIter_list p.isList ?_
  refine ⟨s1.heap.objs.size,[s1.heap.objs.size],_,_,H1,rfl,I1.kept (t':=s1.toks) fun b o e=>Heap.get?_push_of_some _ e,o7 a _,⟨_,Heap.get?_push_size _ rfl,rfl,rfl⟩,fun b hb=>?_,q⟩
  have e:b=s1.heap.objs.size:=by simpa using hb
  subst e
  exact I1.fpOk (Nat.le_refl _) (I1.hok.fresh (Nat.le_refl _))
 ·obtain ⟨its,rv,p,hz⟩:=I1.tuple hq
  refine wpAny_pyIter_tuple (show s1.heap.IsTuple a its.toArray from p) ?_
  refine ⟨s1.heap.objs.size,[s1.heap.objs.size],_,_,H1,rfl,I1.kept (t':=s1.toks) fun b o e=>Heap.get?_push_of_some _ e,lZ a _,⟨_,Heap.get?_push_size _ rfl,rfl,rfl⟩,fun b hb=>?_,q⟩
  have e:b=s1.heap.objs.size:=by simpa using hb
  subst e
  exact I1.fpOk (Nat.le_refl _) (I1.hok.fresh (Nat.le_refl _))
theorem Rd.inj {H:Hp} {a:Addr} {u u':HO} (h:L2.Rd H a u) (h':L2.Rd H a u') (n:∀o p,u≠.frz o p) (n':∀o p,u'≠.frz o p):u=u':=by
 rcases h with h|⟨o,h⟩ <;> rcases h' with h' | ⟨o',h'⟩
 ·rw [h] at h';exact Option.some.inj h'
 ·rw [h] at h';exact absurd (Option.some.inj h') (n _ _)
 ·rw [h] at h';exact absurd (Option.some.inj h').symm (n' _ _)
 ·rw [h] at h';cases h';rfl
theorem oJ {K:PySem.W.Frag} {m0:List Addr} {H0:Hp} {st0:AH} {n:Nat} {a:Addr} {xs:List PV} (rh:RH K m0 H0 st0) (e:st0[n]?=some (.lst xs)) (ea:m0[n]?=some a):fZ K (Itl K a) xs (fun st'=>st'[n]?=st0[n]?) m0 H0:=by
 have get:∀m H st,Ext K m0 H0 m H→RH K m H st→st[n]?=st0[n]?→∃ys,H a=some (.lst ys)∧Rs K m H xs ys:=fun m H st x r q=>by
  rw [e] at q
  exact r.at_ n _ a q (dB x.pre ea)
 refine ⟨fun m H st x r q=>?_,fun i v m H st x r q ev=>?_⟩
 ·obtain ⟨ys,h1,h2⟩:=get m H st x r q
  exact ⟨ys,SqL.of h1,by rw [h2.len];exact Nat.le_refl _⟩
 ·obtain ⟨ys,h1,h2⟩:=get m H st x r q
  obtain ⟨y,e1,r1⟩:=h2.get ev
  refine ⟨⟨ys,y,SqL.of h1,e1⟩,fun z H' ⟨e2,e3⟩=>?_⟩
  subst e2
  have:=e3 ys (SqL.of h1)
  rw [e1] at this
  cases this
  exact ⟨Ext.refl _ _ _,r,r1⟩
theorem qY {K:PySem.W.Frag} {m0:List Addr} {H0:Hp} {a:Addr} {xs:List PV} {ys:List V} (h:RdF K H0 a ys) (r0:Rs K m0 H0 xs ys):fZ K (Itl K a) xs (fun _=>True) m0 H0:=by
 refine ⟨fun m H st x r q=>⟨ys,(x.rdf _ _ h).sq,by rw [r0.len];exact Nat.le_refl _⟩,fun i v m H st x r q ev=>?_⟩
 obtain ⟨y,e1,r1⟩:=(r0.mono x).get ev
 refine ⟨⟨ys,y,(x.rdf _ _ h).sq,e1⟩,fun z H' ⟨e2,e3⟩=>?_⟩
 subst e2
 have:=e3 ys (x.rdf _ _ h).sq
 rw [e1] at this
 cases this
 exact ⟨Ext.refl _ _ _,r,r1⟩
theorem rq {K:PySem.W.Frag} {m0:List Addr} {H0:Hp} {a:Addr} {xs:List PV} {ys:List V} (h:SqT K H0 a ys) (r0:Rs K m0 H0 xs ys):fZ K (Itt K a) xs (fun _=>True) m0 H0:=by
 refine ⟨fun m H st x r q=>⟨ys,x.tup _ _ h,by rw [r0.len];exact Nat.le_refl _⟩,fun i v m H st x r q ev=>?_⟩
 obtain ⟨y,e1,r1⟩:=(r0.mono x).get ev
 refine ⟨⟨ys,y,x.tup _ _ h,e1⟩,fun z H' ⟨e2,e3⟩=>?_⟩
 subst e2
 have:=e3 ys (x.tup _ _ h)
 rw [e1] at this
 cases this
 exact ⟨Ext.refl _ _ _,r,r1⟩
theorem gZ {K:PySem.W.Frag} {m0:List Addr} {H0:Hp} {lo:Int} {n:Nat}:fZ K (Itr lo n) (bD lo n) (fun _=>True) m0 H0:=by
 refine ⟨fun m H st x r q=>by show n≤_;simp [bD],fun i v m H st x r q ev=>?_⟩
 unfold bD at ev
 rw [List.getElem?_map] at ev
 have hi:i<n:=by
  by_cases hi:i<n
  ·exact hi
  ·rw [List.getElem?_eq_none (by simp;omega)] at ev;cases ev
 rw [List.getElem?_range hi] at ev
 cases ev
 refine ⟨hi,fun z H' ⟨e2,e3⟩=>?_⟩
 subst e2 e3
 exact ⟨Ext.refl _ _ _,r,R_int.mpr rfl⟩
end
end FW
set_option Elab.async false
set_option linter.all false
set_option maxRecDepth 100000
namespace FW
open PySem PySem.Spec PyProof.Rows L2 HX
section
variable {X:Cx} {c:Cfg} {Γ:Nat→FSp}
noncomputable def zV (prog:Program) (w:World) (a:Addr) (ns:List Int):HO:=.ext fun h=>SetZ prog w (!(byT w)) h a ns
theorem o_:MtR X "dict.clear" (fun x xs H Q=>∃a kvs,x=.ref a∧xs=[]∧H a=some (.dK kvs)∧Q .non (upd H a (.dK []))):=by
 rintro pins s σ H x xs v us Q I rx rv ⟨a,kvs,rfl,rfl,g,q⟩
 cases rx
 cases rv
 exact sC I g fun s' I'=>⟨.non,_,I',rfl,q⟩
theorem wR (C:COk X c Γ) {n:Str} {y:Expr} {ap cp:Pos} {a:E} (hn:n="clear") (hl:(ap.endLine == cp.line)=true) (hy:cR y=true) (ho:PE X y (TEx X.K (wpE Γ a))):PE X (.Call (.Attribute y n ap) [] [] cp) (TEx X.K (wpE Γ (.clr a))):=by
 subst hn
 intro pins s σ H Q I h
 obtain ⟨mm,ρ,st,rf,rh,w⟩:=h
 refine ly PySem.F.plainAttrs_dict PySem.F.slot_dict_clear PySem.F.type_dict_clear o_ ho (cO hy) hl pins s σ H Q I ?_
 refine ⟨mm,ρ,st,rf,rh,aa C.mono a (fun v st1 k m1 H1 x1 e1 r1 r2=>?_) w⟩
 obtain ⟨n,rfl,kvs,h1,k⟩:=k
 obtain ⟨b,ys,rfl,eb,g,r3,r4⟩:=r1.dkat h1 r2
 refine ⟨.inr (.inr (.inl ⟨rfl,.inl ⟨ys,g⟩⟩)),b,ys,rfl,rfl,g,k m1 _ .non (e1.trans (Ext.set (ys:=[]) r1 eb (nfD g))) (r1.setD eb (nfD g) (by rfl) (by rw [List.map_nil,List.map_nil,Rs_nil])) (R_non.mpr rfl)⟩
theorem my:bR X (.type "dict") (fun xs H Q=>∃p kvs,xs=[V.ref p]∧H p=some (.dK kvs)∧∀a,H a=none→Q (.ref a) (upd H a (.dK kvs))):=by
 rintro pins s σ H xs us Q I r ⟨p,kvs,rfl,hp,q⟩
 obtain ⟨u,rfl,ru⟩:=dh r
 cases ru
 exact qc I (.inl hp) fun a s' ha I'=>⟨.ref a,_,I',rfl,q a ha⟩
theorem wX (C:COk X c Γ) {y:Str} {u:Expr} {p p2:Pos} {a:E} (h1:y="dict") (h2:c.blt y=true) (h6:ae u=true) (ha:PE X u (TEx X.K (wpE Γ a))):PE X (.Call (.Name y p2) [u] [] p) (TEx X.K (wpE Γ (.dcp a))):=by
 obtain ⟨a1,a2,a3,a4⟩:=C.bltx h2
 have v1:bootBuiltins y=some (.type "dict"):=by rw [h1];decide +kernel
 intro pins s σ H Q I h
 refine em (pos:=p) (p:=p2) my a1 a4 v1 (pac ha dn h6) a3 a2 h6 rfl pins s σ H Q I ?_
 obtain ⟨m,ρ,st,rf,rh,w⟩:=h
 refine ⟨m,ρ,st,rf,rh,aa C.mono a (fun v st1 k m1 H1 x1 e1 r1 r2=>?_) w⟩
 obtain ⟨n,rfl,kvs,h1,k⟩:=k
 obtain ⟨b,ys,rfl,eb,g,r3,r4⟩:=r1.dkat h1 r2
 refine ⟨b,ys,rfl,g,fun q hq=>?_⟩
 exact k _ _ _ (e1.trans (Ext.new1 r1 hq)) (r1.new1 hq ⟨ys,ai,r3,r4.mono (Ext.new1 r1 hq)⟩) (R.last r1.len)
end
end FW
set_option Elab.async false
set_option linter.all false
set_option maxRecDepth 100000
set_option maxHeartbeats 1000000
namespace FW
open PySem PySem.Spec PyProof.Rows L2 HX
section
variable {X:Cx} {pins:List (Addr × Obj)} {σ:L2.St} {H:Hp} {s:Shared} {h':Heap}
theorem sL {t':Nat} {wr:List Addr} (I:L2.Inv X pins σ H s) (k:∀b o,b ∉ wr→s.heap.get? b=some o→h'.get? b=some o) (hf:∀b∈wr,ef X pins H b):L2.Inv X pins σ H { s with heap:=h',toks:=t' }:=by
 have nit:∀b u,H b=some u→b ∉ wr:=fun b u e z=>by rw [(hf b z).1] at e;cases e
 refine I.step (g':=s.gens) (d':=s.drawn) (ch:=wr) (fun b hb=>⟨(hf b hb).2.2.2.1,(hf b hb).2.1,(hf b hb).2.2.2.2.1,(hf b hb).2.2.2.2.2⟩) (fun b o _ _ hc e _=>k b o hc e) (fun b o _ _ hc e _=>⟨o.slots,k b o hc e⟩) (fun _ _ _ _ n=>n)
  (fun b o hc e=>⟨o,k b o hc e⟩) (fun _ _ e=>e) (fun _ _ _ e=>e) (fun b ps e=>⟨#[],by rw [e];simp⟩) (fun m hm=>?_) (fun b u e=>?_) I.bare
 ·obtain ⟨o,es,ep,ho,r⟩:=hm
  exact ⟨o,es,ep,k _ o (fun z=>(hf _ z).2.1 rfl) ho,r⟩
 ·refine (I.hok b u e).stay (fun c v hc q=>k c v ?_ q) (fun _ q=>q) fun _ _ q=>q
  rcases hc with z|z
  ·rw [z];exact nit b u e
  ·exact nit c _ z
theorem nR {t':Nat} {wr:List Addr} {T:Addr} {xs:List V} {its:List Value} (I:L2.Inv X pins σ H s) (k:∀b o,b ∉ wr→s.heap.get? b=some o→h'.get? b=some o) (hf:∀b∈wr,ef X pins H b)
  (hT:s.heap.objs.size≤T) (hx:Vals xs its) (hz:xs.length≤sizeLine) (ht:h'.IsTuple T its.toArray):L2.Inv X pins σ (upd H T (.tup xs)) { s with heap:=h',toks:=t' }:=by
 have nit:∀b u,H b=some u→b ∉ wr:=fun b u e z=>by rw [(hf b z).1] at e;cases e
 have hn:H T=none:=I.hok.fresh hT
 have up:∀b u,H b=some u→upd H T (.tup xs) b=some u:=fun b u e=>by rw [ab (ag e hn)];exact e
 refine I.step (g':=s.gens) (d':=s.drawn) (ch:=wr) (fun b hb=>⟨(hf b hb).2.2.2.1,(hf b hb).2.1,(hf b hb).2.2.2.2.1,(hf b hb).2.2.2.2.2⟩) (fun b o _ _ hc e _=>k b o hc e) (fun b o _ _ hc e _=>⟨o.slots,k b o hc e⟩)
  (fun b o _ e n=>by rw [ab (Nat.ne_of_lt (Nat.lt_of_lt_of_le (Heap.lt_size e) hT))];exact n)
  (fun b o hc e=>⟨o,k b o hc e⟩) (fun b _ e=>up b _ e) (fun b _ _ e=>up b _ e) (fun b ps e=>⟨#[],by rw [up b _ e];simp⟩) (fun m hm=>?_) (fun b u e=>?_) I.bare
 ·obtain ⟨o,es,ep,ho,r⟩:=hm
  exact ⟨o,es,ep,k _ o (fun z=>(hf _ z).2.1 rfl) ho,r⟩
 ·by_cases hb:b=T
  ·subst hb
   rw [ai] at e
   cases e
   exact ⟨hz,its,hx,ht⟩
  ·rw [ab hb] at e
   refine (I.hok b u e).stay (fun c v hc q=>k c v ?_ q) (fun c q=>up c _ q) fun c _ q=>up c _ q
   rcases hc with z|z
   ·rw [z];exact nit b u e
   ·exact nit c _ z
end
theorem sS {X:Cx} {es:List Expr} {k:Nat} {t:TGs} {n:Nat} {pos:Pos} (hc:X.calm=true) (h:PGs X es t) (hn:(assignEach es X.env).length=n) (hst:(assignEach es X.env).findIdx? (·.1)=none) :
  PG X (.Tuple es k pos) (fun v σ H Q=>∃a xs,v=.ref a∧SqL X.K H a xs∧xs.length=n∧t xs σ H Q):=by
 intro pins s σ H v u Q I r hw
 obtain ⟨a,xs,e1,hq,hl,hw⟩:=hw
 subst e1
 cases r
 obtain ⟨its,rv,ht,hz⟩:=I.list hq
 rw [PyProof.Rows.assign_Tuple]
 refine wpAny_bind (wpAny_standAt ?_)
 unfold unpack
 rw [hst]
 have hsz:(assignEach es X.env).length=its.toArray.size:=by simp [hn,←hl,rv.length]
 rw [hsz]
 refine wpAny_bind (wpAny_holding (PySem.W.kun_itemsOf (I.ok.hd hc) ht.isList fun h' hx=>?_))
 have I1:L2.Inv X pins σ H { s with heap:=h' }:=I.kept (t':=s.toks) fun b o e=>hx b o (Nat.ne_of_lt (Heap.lt_size e)) e
 exact h pins _ σ H xs _ Q I1 (by simpa using rv) hw
end FW
set_option Elab.async false
set_option linter.all false
set_option maxRecDepth 100000
set_option maxHeartbeats 1000000
namespace FW
open PySem PySem.Spec PyProof.Rows L2 HX
theorem tI {h:Heap} {it t:Addr} {i:Nat} {x:Value} {o:Obj} {k:Nat} (e:h.get? it=some o) (hc:o.cls=.type "tuple_iterator") (hd:o.data=.fields #[.ref t,.int (i:Int) 0]) :
  (h.update it (Obj.mapFields fun z=>z.setIfInBounds k x)).get? it=some (Obj.mapFields (fun z=>z.setIfInBounds k x) o):=by
 refine Heap.get?_update_self _ e ?_
 obtain ⟨c,d,da,sl⟩:=o
 simp only at hc hd
 subst hc hd
 rfl
theorem ko (it t:Addr) (i:Nat) (items:Array Value) (x:Value):Meets (Builtin.«tuple_iterator.__next__» { pos:=[.ref it] }) fun _ R s =>
  s.heap.IsTupleIter it t i∧s.heap.IsTuple t items∧items[i]?=some x∧∀h',h'.IsTupleIter it t (i+1)→Heap.SameBut it s.heap h'→R (.ok (.ret x)) { s with heap:=h' }:=by
 intro prog w A R s ⟨⟨o,e,hc,hd⟩,⟨o2,e2,hc2,n,hd2⟩,hx,h⟩
 refine wpAny_bind (wpAny_pure ?_)
 refine wpAny_bind (wpAny_field (i:=0) e hd rfl ?_)
 refine wpAny_bind (wpAny_field (i:=1) e hd rfl ?_)
 refine wpAny_bind (wpAny_seqItems e2 hd2 ?_)
 show wpAny _ _ (match items[((i:Nat):Int).toNat]? with|some x=>_|none=>_) _ _ _
 rw [Int.toNat_natCast,hx]
 refine wpAny_bind (wpAny_setField e hd (Nat.lt_succ_self 1) ?_)
 refine wpAny_pure ?_
 refine h _ ⟨_,tI e hc hd,?_,?_⟩ (Heap.SameBut.update _ _ _)
 ·obtain ⟨c,d,da,sl⟩:=o
  simp only at hc hd
  subst hc hd
  rfl
 ·obtain ⟨c,d,da,sl⟩:=o
  simp only at hc hd
  subst hc hd
  show Data.fields #[.ref t,rawInt ((i:Int)+1)]=Data.fields #[.ref t,.int ((i+1:Nat):Int) 0]
  rw [Int.natCast_add]
  rfl
theorem sR {α:Type} {M:Model} {A:Around} {E:Value→Shared→Prop} {s:Shared} {Q:α→Shared→Prop} (hh:A.handled=none) (h:∀h' e,(∀b o,s.heap.get? b=some o→h'.get? b=some o)→(∃o,h'.get? e=some o∧o.cls=.type "StopIteration")→E (.ref e) { s with heap:=h' }) :
  wpAny M A (Builtin.SmallTypes.stopIteration:Sem α) Q E s:=by
 refine wpAny_bind ?_
 refine wpAny_bind (wpAny_newTuple ?_)
 refine wpAny_bind (wpAny_pure ?_)
 refine wpAny_newObj_type (wpAny_raiseNew_none hh ?_)
 refine h _ _ (fun b o e=>Heap.get?_push_of_some _ (Heap.get?_push_of_some _ e)) ⟨_,Heap.get?_push_size _ rfl,rfl⟩
theorem mh (it t:Addr) (i:Nat) (items:Array Value):Meets (Builtin.«tuple_iterator.__next__» { pos:=[.ref it] }) fun A R s =>
  A.handled=none∧s.heap.IsTupleIter it t i∧s.heap.IsTuple t items∧items[i]?=none∧∀h' e,Heap.ExtBut it s.heap h'→(∃o,h'.get? e=some o∧o.cls=.type "StopIteration")→R (.error (.ref e)) { s with heap:=h' }:=by
 intro prog w A R s ⟨hh,⟨o,e,hc,hd⟩,⟨o2,e2,hc2,n,hd2⟩,hx,h⟩
 refine wpAny_bind (wpAny_pure ?_)
 refine wpAny_bind (wpAny_field (i:=0) e hd rfl ?_)
 refine wpAny_bind (wpAny_field (i:=1) e hd rfl ?_)
 refine wpAny_bind (wpAny_seqItems e2 hd2 ?_)
 show wpAny _ _ (match items[((i:Nat):Int).toNat]? with|some x=>_|none=>_) _ _ _
 rw [Int.toNat_natCast,hx]
 refine wpAny_bind (wpAny_rule ?_)
 refine wpAny_bind (wpAny_setField e hd (Nat.zero_lt_succ 1) ?_)
 refine sR hh fun h' x k1 k2=>h h' x (fun b o' hb eb=>k1 b o' ?_) k2
 show (s.heap.update it _).get? b=some o'
 rw [Heap.get?_update_ne _ _ _ _ hb]
 exact eb
section
variable {prog:Program} {w:World} {A:Around} {E:Value→Shared→Prop} {s:Shared} {it t:Addr} {i:Nat} {items:Array Value}
theorem jS {x:Value} {Q:Value→Shared→Prop} (hi:s.heap.IsTupleIter it t i) (ht:s.heap.IsTuple t items) (hx:items[i]?=some x) (h:∀h',h'.IsTupleIter it t (i+1)→Heap.SameBut it s.heap h'→Q x { s with heap:=h' }) :
  wpAny (model prog w) A (Builtin.SmallTypes.nextOf (.ref it)) Q E s:=by
 refine wpAny_bind (wpAny_callSpecial?_slot hi.typeIs F.slot_tuple_iterator_next ?_)
 refine call_meets F.slot_tuple_iterator_next hi.typeIs F.entry_tuple_iterator_next (F.args_tuple_iterator_next_1 _) (ko it t i items x) ⟨hi,ht,hx,fun h' k1 k2=>wpAny_pure (h h' k1 k2)⟩
theorem j' {Q:Value→Shared→Prop} (hh:A.handled=none) (hi:s.heap.IsTupleIter it t i) (ht:s.heap.IsTuple t items) (hx:items[i]?=none) (h:∀h' e,Heap.ExtBut it s.heap h'→(∃o,h'.get? e=some o∧o.cls=.type "StopIteration")→E (.ref e) { s with heap:=h' }) :
  wpAny (model prog w) A (Builtin.SmallTypes.nextOf (.ref it)) Q E s:=by
 refine wpAny_bind (wpAny_callSpecial?_slot hi.typeIs F.slot_tuple_iterator_next ?_)
 exact call_meets F.slot_tuple_iterator_next hi.typeIs F.entry_tuple_iterator_next (F.args_tuple_iterator_next_1 _) (mh it t i items) ⟨hh,hi,ht,hx,h⟩
end
theorem gF {h h':Heap} {it t:Addr} {i:Nat} (k:∀o,h.get? it=some o→h'.get? it=some o) (z:h.IsTupleIter it t i):h'.IsTupleIter it t i:=by
 obtain ⟨o,e,r⟩:=z
 exact ⟨o,k o e,r⟩
theorem hU {h h':Heap} {t:Addr} {items:Array Value} (k:∀o,h.get? t=some o→h'.get? t=some o) (z:h.IsTuple t items):h'.IsTuple t items:=by
 obtain ⟨o,e,r⟩:=z
 exact ⟨o,k o e,r⟩
theorem fU {prog:Program} {w:World} {A:Around} (hh:A.handled=none) (it t:Addr) (hne:t≠it) (items:Array Value) :
  Draws prog w A it [it,t] items.size (fun i v=>items[i]?=some v) fun i h=>h.IsTupleIter it t i∧h.IsTuple t items where
 live:=fun i h z=>let ⟨o,e,_⟩:=z.1;⟨o,e⟩
 frame:=fun i h h' z k=>⟨gF (fun o e=>k it (by simp) o e) z.1,hU (fun o e=>k t (by simp) o e) z.2⟩
 item:=fun i s Q E hi z h=>jS z.1 z.2 (Array.getElem?_eq_getElem hi) fun h' k1 k2=>h _ h' s.toks (Array.getElem?_eq_getElem hi) ⟨k1,hU (fun o e=>by rw [k2.2 t hne];exact e) z.2⟩ k2
 done:=fun s Q E z h=>j' hh z.1 z.2 (Array.getElem?_eq_none (Nat.le_refl _)) h
theorem kY (t:Addr) (items:Array Value):Meets (Builtin.«enumerate.__new__» { pos:=[.type "enumerate",.ref t] }) fun _ R s =>
  s.heap.IsTuple t items∧∀h',IsEnum h' (s.heap.objs.size+1) s.heap.objs.size 0 .none→h'.IsTupleIter s.heap.objs.size t 0→(∀b o,s.heap.get? b=some o→h'.get? b=some o)→R (.ok (.ret (.ref (s.heap.objs.size+1)))) { s with heap:=h' }:=by
 intro prog w A R s ⟨ht,h⟩
 refine wpAny_bind ?_
 refine wpAny_bind (wpAny_pure ?_)
 rw [sub_enumerate]
 refine wpAny_bind (wpAny_pure ?_)
 refine wpAny_pure ?_
 refine wpAny_bind (wpAny_bind (wpAny_stack fun st _ _ _=>wpAny_pure ?_))
 have fin:wpAny (model prog w) A.in1 (do
   let i ←pyIter (.ref t)
   let r ←Builtin.SmallTypes.newRecord (.type "enumerate") (Builtin.SmallTypes.ownedTupleFields++[i,rawInt 0,.none,.none])
   ret r) (fun fin s'=>match fin with
   | Fin.done f=>R (Except.ok f) s'
   | Fin.again c'=>c'.quiet=true∧codeAny (model prog w) A c' R s') (fun e s'=>R (Except.error e) s') s:=by
  refine wpAny_bind (wpAny_pyIter_tuple ht ?_)
  refine wpAny_bind (wpAny_newObj_type (T:="enumerate") (data:=.fields #[.none,.bool false,.ref s.heap.objs.size,rawInt 0,.none,.none]) ?_)
  refine wpAny_pure ?_
  have hl:(s.heap.push { cls:=.type "tuple_iterator",data:=.fields #[.ref t,.int 0 0] }).objs.size=s.heap.objs.size+1:=Heap.size_push ..
  have:=h ((s.heap.push { cls:=.type "tuple_iterator",data:=.fields #[.ref t,.int 0 0] }).push { cls:=.type "enumerate",data:=.fields #[.none,.bool false,.ref s.heap.objs.size,rawInt 0,.none,.none] }) (by
   have e:=Heap.get?_push_size (s.heap.push { cls:=.type "tuple_iterator",data:=.fields #[.ref t,.int 0 0] }) (o:={ cls:=.type "enumerate",data:=.fields #[.none,.bool false,.ref s.heap.objs.size,rawInt 0,.none,.none] }) rfl
   rw [hl] at e
   exact e) ⟨_,Heap.get?_push_of_some _ (Heap.get?_push_size _ rfl),rfl,rfl⟩ (fun b o e=>Heap.get?_push_of_some _ (Heap.get?_push_of_some _ e))
  rw [←hl] at this
  exact this
 split
 ·rename_i c _ _ _ _ _
  generalize (c == Value.type "enumerate")=b
  cases b with
  | true=>exact wpAny_bind (m:=pure (Value.ref t,none)) (wpAny_pure fin)
  | false=>exact wpAny_bind (m:=pure (Value.ref t,none)) (wpAny_pure fin)
 ·exact wpAny_bind (m:=pure (Value.ref t,none)) (wpAny_pure fin)
theorem lB {prog:Program} {w:World} {A:Around} {E:Value→Shared→Prop} {s:Shared} {t:Addr} {items:Array Value} {Q:Value→Shared→Prop} (ht:s.heap.IsTuple t items)
  (h:∀h',IsEnum h' (s.heap.objs.size+1) s.heap.objs.size 0 .none→h'.IsTupleIter s.heap.objs.size t 0→(∀b o,s.heap.get? b=some o→h'.get? b=some o)→Q (.ref (s.heap.objs.size+1)) { s with heap:=h' }) :
  wpAny (model prog w) A (call (.type "enumerate") [.ref t]) Q E s:=by
 refine callType_new F.called_enumerate rfl (F.typeCall_enumerate_1 _) (F.newCall_enumerate_1 _) (fun obj=>?_) F.entry_enumerate_new (kY t items) ⟨ht,fun h' k1 k2 k3=>⟨⟨_,k1,rfl⟩,h h' k1 k2 k3⟩⟩
 exact F.args_object_init_2 _ _
noncomputable def Ite (K:PySem.W.Frag) (a:Addr):L2.It :=
 ⟨fun i H=>∃xs x,SqT K H a xs∧xs[i]?=some x,
  fun i H v H'=>∃T,v=.ref T∧H T=none∧∀xs x,SqT K H a xs→xs[i]?=some x→H'=upd H T (.tup [.int i,x]),
  fun i H=>∃xs,SqT K H a xs∧i=xs.length⟩
noncomputable def vW (a e it:Addr) (i:Nat) (h:Heap):Prop:=(∃old,IsEnum h e it (i:Int) old)∧h.IsTupleIter it a i
theorem oN {P:Program} {w:World} {K:PySem.W.Frag} {elts:List Expr} {kt:Nat} {pt:Pos} {a e it:Addr} (h1:e≠it) (h2:a≠e) (h3:a≠it) :
  kU P w K (.Tuple elts kt pt) (Ite K a) [e,it] e (vW a e it) where
 mem:=by simp
 obj:=fun i h st c hc=>by
  obtain ⟨⟨old,q1⟩,⟨o4,e4,c4,d4⟩⟩:=st
  simp only [List.mem_cons,List.not_mem_nil,or_false] at hc
  rcases hc with rfl|rfl
  ·exact ⟨_,q1,fun v z=>nomatch z⟩
  ·exact ⟨o4,e4,fun v z=>by rw [d4] at z;cases z⟩
 keep:=fun i h h' st k=>by
  obtain ⟨⟨old,q1⟩,q2⟩:=st
  exact ⟨⟨old,k e (by simp) _ q1⟩,gF (fun o z=>k it (by simp) o z) q2⟩
 item:=by
  intro X hP hw hK hc i pins s σ H E I hf st hg
  subst hP hw hK
  obtain ⟨xs,x,hq1,hx⟩:=hg
  obtain ⟨its1,rv1,p1,hz1⟩:=I.tuple hq1
  obtain ⟨u1,hu1,ru1⟩:=rv1.get hx
  have W:=WalksT.enumerateD (A:=X.A) (fU (prog:=X.prog) (w:=X.w) (A:=X.A.in1) (I.ok.hd hc) it a h3 its1.toArray) e h1 (by simp [h1,Ne.symm h2]) (by simp)
  obtain ⟨q1,q2⟩:=st
  have l1:=(List.getElem?_eq_some_iff.mp hu1).1
  have tp:s.heap.IsTuple a its1.toArray:=p1
  refine W.item i s _ _ (by rw [List.size_toArray];exact l1) ⟨q1,q2,tp⟩ fun T vals h' tk hv hT isT mid kk=>?_
  obtain ⟨tt,v1,e1,rfl⟩:=hv
  have z1:v1=u1:=by
   (have:its1[i]?=some v1:=by simpa using e1);rw [hu1] at this;cases this;rfl
  subst z1
  refine ⟨_,rfl,W.go elts kt pt i T { s with heap:=h',toks:=tk } _ _ mid fun h'' st'' kk2=>?_⟩
  have ap:=W.apart i T h' mid
  obtain ⟨o,eo,c,d⟩:=isT
  have I2:L2.Inv X pins σ (upd H T (.tup [.int i,x])) { s with heap:=h'',toks:=tk }:=nR (its:=[.int i tt,v1]) I (fun b o hb z=>kk2 b o hb (kk b o hb z)) (fun b hb=>hf b (by simpa using hb)) hT (.cons ⟨tt,rfl⟩ (.cons ru1 .nil)) (by simp [sizeLine]) ⟨o,kk2 T o ap eo,c,d⟩
  refine ⟨.ref T,_,I2,rfl,⟨T,rfl,I.hok.fresh hT,fun xs' x' k1 k2=>?_⟩,⟨st''.1,st''.2.1⟩,fun b hb=>?_⟩
  ·rw [I.tuple_inj k1 hq1,hx] at k2
   cases k2;rfl
  ·have hlt:b<s.heap.objs.size:=by
    simp only [List.mem_cons,List.not_mem_nil,or_false] at hb
    obtain ⟨old,q1⟩:=q1
    obtain ⟨o5,e5,_⟩:=q2
    rcases hb with rfl|rfl
    ·exact Heap.lt_size q1
    ·exact Heap.lt_size e5
   rw [ab (Nat.ne_of_lt (Nat.lt_of_lt_of_le hlt hT))]
   exact (hf b hb).1
 done:=by
  intro X hP hw hK hc i pins s σ H E I hf st hg
  subst hP hw hK
  obtain ⟨xs,hq1,rfl⟩:=hg
  obtain ⟨its1,rv1,p1,hz1⟩:=I.tuple hq1
  have W:=WalksT.enumerateD (A:=X.A) (fU (prog:=X.prog) (w:=X.w) (A:=X.A.in1) (I.ok.hd hc) it a h3 its1.toArray) e h1 (by simp [h1,Ne.symm h2]) (by simp)
  obtain ⟨q1,q2⟩:=st
  rw [rv1.length] at q1 q2
  exact W.done s _ _ ⟨by simpa using q1,by simpa using q2,p1⟩ fun h' tk kk=>⟨rfl,sL I kk fun b hb=>hf b (by simpa using hb)⟩
 self:=fun _ _ _ _ _ st h=>by
  obtain ⟨⟨old,q1⟩,_⟩:=st
  exact wpAny_pyIter_enum q1 h
section
variable {X:Cx}
noncomputable def yg (K:PySem.W.Frag) (ta:TA):TI:=fun σ H R=>ta σ H fun vs H1=>∃a,vs=[.ref a]∧(∃xs,SqT K H1 a xs)∧R (Ite K a) H1
theorem tF {elts:List Expr} {kt:Nat} {pt:Pos} {a:Expr} {ta:TA} {p pos:Pos} (hg:Gl X "enumerate") (hm:X.mg "enumerate"=none) (ha:PA X [a] ta) (hs:starEach [a] X.env=[(false,eval a X.env)]) :
  PI X (.Tuple elts kt pt) (.Call (.Name "enumerate" p) [a] [] pos) (yg X.K ta):=by
 intro pins s σ H R I h
 refine Call_ (fm I hg hm boot_enumerate (PyProof.Rows.callWith_type1 (thn (ha pos pins s σ H _ I h) fun us s1 ⟨vs,H1,I1,r1,q1⟩=>?_) (by rw [hs];rfl) rfl))
 obtain ⟨l1,e,⟨xs,hq1⟩,q⟩:=q1
 subst e
 cases r1 with
 | cons r rr =>
  cases rr
  cases r
  obtain ⟨its1,rv1,p1,hz1⟩:=I1.tuple hq1
  have tp:s1.heap.IsTuple l1 its1.toArray:=p1
  have lt1:l1<s1.heap.objs.size:=by obtain ⟨_,e,_⟩:=tp;exact Heap.lt_size e
  refine lB tp fun h' k1 k2 kk=>?_
  refine wpAny_pyIter_enum k1 ?_
  refine ⟨_,_,_,_,H1,rfl,I1.kept (t':=s1.toks) kk,oN (Nat.succ_ne_self _) (Nat.ne_of_lt (Nat.lt_succ_of_lt lt1)) (Nat.ne_of_lt lt1),⟨⟨_,k1⟩,k2⟩,fun b hb=>?_,q⟩
  have hb':s1.heap.objs.size≤b:=by
   simp only [List.mem_cons,List.not_mem_nil,or_false] at hb
   rcases hb with rfl|rfl <;> first|exact Nat.le_refl _|exact Nat.le_add_right _ _
  exact I1.fpOk hb' (I1.hok.fresh hb')
end
theorem jm:∀ {xs:List PV} {i:Int},(cY i xs).length=xs.length
 | [],i=>by simp [cY]
 | x::xs,i=>by simp only [cY,List.length_cons,jm (xs:=xs)]
theorem iX:∀ {xs:List PV} {k:Int} {i:Nat} {v:PV},(cY k xs)[i]?=some v→∃x,xs[i]?=some x∧v=.tup [.int (k+i),x]
 | [],k,i,v,h=>by simp [cY] at h
 | x::xs,k,0,v,h=>by simp [cY] at h;exact ⟨x,rfl,by rw [←h];simp⟩
 | x::xs,k,i+1,v,h=>by
  simp only [cY,List.getElem?_cons_succ] at h ⊢
  obtain ⟨y,e,rfl⟩:=iX h
  refine ⟨y,e,?_⟩
  rw [show k+1+(i:Int)=k+((i+1:Nat):Int) by omega]
theorem oO {K:PySem.W.Frag} {m0:List Addr} {H0:Hp} {a:Addr} {xs:List PV} {ys:List V} (h:SqT K H0 a ys) (r0:Rs K m0 H0 xs ys):fZ K (Ite K a) (cY 0 xs) (fun _=>True) m0 H0:=by
 refine ⟨fun m H st x r q=>⟨ys,x.tup _ _ h,by rw [jm,r0.len]⟩,fun i v m H st x r q ev=>?_⟩
 obtain ⟨u,e1,rfl⟩:=iX ev
 obtain ⟨y1,f1,q1⟩:=r0.get e1
 refine ⟨⟨ys,y1,x.tup _ _ h,f1⟩,?_⟩
 rintro z H' ⟨T,rfl,hT,hh⟩
 have:=hh ys y1 (x.tup _ _ h) f1
 subst this
 refine ⟨Ext.newT r hT,r.newT hT,R_tup.mpr ⟨T,[.int i,y1],rfl,SqT.of ai,?_⟩⟩
 rw [Rs_cons',Rs_cons',Rs_nil,R_int]
 exact ⟨by simp,(q1.mono x).mono (Ext.newT r hT),rfl⟩
end FW
set_option Elab.async false
set_option linter.all false
set_option maxRecDepth 100000
set_option maxHeartbeats 1000000
namespace FW
open PySem PySem.Spec PyProof.Rows L2 HX
structure Zs where
 it:Addr
 c:Bool × Addr
 xs:Array Value
noncomputable abbrev Zs.a (q:Zs):Addr:=q.c.2
noncomputable def ItB (h:Heap) (it:Addr) (c:Bool × Addr) (i:Nat):Prop:=if c.1=true then h.IsListIter it c.2 i else h.IsTupleIter it c.2 i
noncomputable def SeqB (h:Heap) (c:Bool × Addr) (xs:Array Value):Prop:=if c.1=true then h.IsList c.2 xs else h.IsTuple c.2 xs
theorem ItB.keep {h h':Heap} {it:Addr} {c:Bool × Addr} {i:Nat} (z:ItB h it c i) (k:∀o,h.get? it=some o→h'.get? it=some o):ItB h' it c i:=by
 obtain ⟨b,a⟩:=c
 cases b with
 | true=>exact (show h.IsListIter it a i from z).at k
 | false=>exact gF k (show h.IsTupleIter it a i from z)
theorem ItB.obj {h:Heap} {it:Addr} {c:Bool × Addr} {i:Nat} (z:ItB h it c i):∃o vs,h.get? it=some o∧o.data=.fields vs:=by
 obtain ⟨b,a⟩:=c
 cases b with
 | true=>obtain ⟨o,e,_,d⟩:=(show h.IsListIter it a i from z);exact ⟨o,_,e,d⟩
 | false=>obtain ⟨o,e,_,d⟩:=(show h.IsTupleIter it a i from z);exact ⟨o,_,e,d⟩
theorem SeqB.keep {h h':Heap} {c:Bool × Addr} {xs:Array Value} (z:SeqB h c xs) (k:∀o,h.get? c.2=some o→h'.get? c.2=some o):SeqB h' c xs:=by
 obtain ⟨b,a⟩:=c
 cases b with
 | true=>exact (show h.IsList a xs from z).at k
 | false=>exact hU k (show h.IsTuple a xs from z)
noncomputable def SrcAt (h:Heap) (q:Zs) (i:Nat):Prop:=ItB h q.it q.c i∧SeqB h q.c q.xs
theorem SrcAt.keep {h h':Heap} {q:Zs} {i:Nat} (z:SrcAt h q i) (k1:∀o,h.get? q.it=some o→h'.get? q.it=some o) (k2:∀o,h.get? q.a=some o→h'.get? q.a=some o):SrcAt h' q i:=⟨z.1.keep k1,z.2.keep k2⟩
theorem SrcAt.obj {h:Heap} {q:Zs} {i:Nat} (z:SrcAt h q i):∃o vs,h.get? q.it=some o∧o.data=.fields vs:=z.1.obj
section
variable {prog:Program} {w:World} {A:Around} {E:Value→Shared→Prop} {s:Shared} {q:Zs} {i:Nat}
end
structure ZA (z TI TO:Addr) (ss:List Zs):Prop where
 nd:(z::TI::TO::ss.map Zs.it).Nodup
 ap:∀q∈ss,q.a ∉ z::TI::TO::ss.map Zs.it
section
variable {prog:Program} {w:World} {A:Around} {E:Value→Shared→Prop} {z TI TO:Addr} {i:Nat}
end
noncomputable def SqB (K:PySem.W.Frag) (H:Hp) (c:Bool × Addr) (xs:List V):Prop:=if c.1=true then SqL K H c.2 xs else SqT K H c.2 xs
theorem SqB.inj {X:Cx} {pins:List (Addr × Obj)} {σ:L2.St} {H:Hp} {s:Shared} (I:L2.Inv X pins σ H s):∀ {cs:List (Bool × Addr)} {xss yss:List (List V)},Paired (SqB X.K H) cs xss→Paired (SqB X.K H) cs yss→xss=yss
 | _,_,_,.nil,.nil=>rfl
 | _,_,_,.cons (a:=c) h1 t1,.cons h2 t2=>by
  rw [SqB.inj I t1 t2]
  obtain ⟨b,a⟩:=c
  cases b with
  | true=>rw [I.list_inj (show SqL X.K H a _ from h1) h2]
  | false=>rw [I.tuple_inj (show SqT X.K H a _ from h1) h2]
section
variable {prog:Program} {w:World} {A:Around} {E:Value→Shared→Prop}
end
section
variable {prog:Program} {w:World} {A:Around} {E:Value→Shared→Prop} {s:Shared}
end
section
variable {X:Cx} {pins:List (Addr × Obj)} {σ:L2.St} {H:Hp} {s:Shared}
theorem SqB.seq {c:Bool × Addr} {xs:List V} (I:L2.Inv X pins σ H s) (h:SqB X.K H c xs):∃ys,SeqB s.heap c ys:=by
 obtain ⟨b,a⟩:=c
 cases b with
 | true=>obtain ⟨its,_,p,_⟩:=I.list (show SqL X.K H a xs from h);exact ⟨_,p.isList⟩
 | false=>obtain ⟨its,_,p,_⟩:=I.tuple (show SqT X.K H a xs from h);exact ⟨_,p⟩
theorem SeqB.lt {h:Heap} {c:Bool × Addr} {ys:Array Value} (z:SeqB h c ys):c.2<h.objs.size:=by
 obtain ⟨b,a⟩:=c
 cases b with
 | true=>obtain ⟨_,e,_⟩:=(show h.IsList a ys from z);exact Heap.lt_size e
 | false=>obtain ⟨_,e,_⟩:=(show h.IsTuple a ys from z);exact Heap.lt_size e
end
section
variable {X:Cx}
end
end FW
set_option Elab.async false
set_option linter.all false
set_option maxRecDepth 100000
set_option maxHeartbeats 1000000
namespace FW
open PySem PySem.Spec PyProof.Rows L2 HX
noncomputable def Itc (z:Str):L2.It:=⟨fun i _=>i<z.cps.size,fun i H x H'=>H'=H∧∃c,z.cps[i]?=some c∧x=.str ⟨#[c]⟩,fun i _=>i=z.cps.size⟩
theorem gU {P:Program} {w:World} {K:PySem.W.Frag} {tg:Expr} {it:Addr} {z:Str} {t:Tok} {nm:String} (hW:∀A:Around,A.handled=none→Walks P w A it [it] [it] z.cps.size (SignAt z) (fun i h=>h.IsStrIter it nm z t i))
  (hn:["enumerate","zip","dict_itemiterator","dict_reverseitemiterator","odict_iterator","itertools.zip_longest","itertools.pairwise"].contains nm=false) (hS:∀(A:Around) (i:Nat) (s:Shared) (Q:Value→Shared→Prop) (E:Value→Shared→Prop),s.heap.IsStrIter it nm z t i→Q (.ref it) s→wpAny (model P w) A (pyIter (.ref it)) Q E s):kU P w K tg (Itc z) [it] it (fun i h=>h.IsStrIter it nm z t i) where
 mem:=by simp
 obj:=fun i h st b hb=>by
  have e:b=it:=by simpa using hb
  subst e
  obtain ⟨o,e,c,d⟩:=st
  exact ⟨o,e,fun v z=>by rw [d] at z;cases z⟩
 keep:=fun i h h' st k=>by
  obtain ⟨o,e,r⟩:=st
  exact ⟨o,k it (by simp) o e,r⟩
 item:=by
  intro X hP hw hK hc i pins s σ H E I hf st hg
  subst hP hw hK
  obtain ⟨f0,f1,f2,f3,f4,f5⟩:=hf it (by simp)
  refine (hW X.A (I.ok.hd hc)).item i s _ _ hg st fun v h' tk hv st' kk=>?_
  obtain ⟨c,u,ec,rfl⟩:=hv
  have I1:L2.Inv X pins σ H { s with heap:=h',toks:=tk }:=I.turned (fun b o hb e=>kk b o (by simpa using hb) e) f0 f1 f3 f4 f5
  obtain ⟨o,e,cc,d⟩:=id st'
  exact ⟨_,rfl,ky (s:={ s with heap:=h',toks:=tk }) e cc d hn ⟨.str ⟨#[c]⟩,H,I1,⟨u,rfl⟩,⟨rfl,c,ec,rfl⟩,st',fun b hb=>(hf b hb).1⟩⟩
 done:=by
  intro X hP hw hK hc i pins s σ H E I hf st hg
  subst hP hw hK
  have hg:i=z.cps.size:=hg
  subst hg
  obtain ⟨f0,f1,f2,f3,f4,f5⟩:=hf it (by simp)
  exact (hW X.A (I.ok.hd hc)).done s _ _ st fun h' tk kk=>⟨rfl,I.turned (fun b o hb e=>kk b o (by simpa using hb) e) f0 f1 f3 f4 f5⟩
 self:=hS
theorem mD {K:PySem.W.Frag} {m0:List Addr} {H0:Hp} {z:Str}:fZ K (Itc z) (di z) (fun _=>True) m0 H0:=by
 refine ⟨fun m H st x r q=>by show (di z).length=z.cps.size;simp [di],fun i v m H st x r q ev=>?_⟩
 unfold di at ev
 rw [List.getElem?_map] at ev
 cases e:z.cps.toList[i]? with
 | none=>rw [e] at ev;cases ev
 | some c =>
  rw [e] at ev
  cases ev
  have e':z.cps[i]?=some c:=by simpa using e
  refine ⟨(Array.getElem?_eq_some_iff.mp e').1,?_⟩
  rintro y H' ⟨rfl,c',e2,rfl⟩
  rw [e'] at e2
  cases e2
  exact ⟨Ext.refl _ _ _,r,R_str.mpr rfl⟩
section
variable {X:Cx} {tg:Expr}
noncomputable def wn (te:TE):TI:=fun σ H R=>te σ H fun x H1=>∃z,x=.str z∧R (Itc z) H1
theorem rJ {e:Expr} {te:TE} (he:PE X e te):PI X tg e (wn te):=by
 intro pins s σ H R I h
 refine thn (he pins s σ H _ I h) fun v s1 ⟨x,H1,I1,r1,q1⟩=>?_
 obtain ⟨z,e,q⟩:=q1
 subst e
 obtain ⟨t,rfl⟩:=r1
 have fin:∀b,b∈[s1.heap.objs.size]→ef X pins H1 b:=fun b hb=>by
  have e:b=s1.heap.objs.size:=by simpa using hb
  subst e
  exact I1.fpOk (Nat.le_refl _) (I1.hok.fresh (Nat.le_refl _))
 cases ha:z.cps.all (·< 128)
 ·exact wpAny_pyIter_wide ha ⟨_,_,_,_,H1,rfl,I1.kept (t':=s1.toks) fun b o e=>Heap.get?_push_of_some _ e,gU (nm:="str_iterator") (fun A hA=>Walks.strWide hA _ z t) (by decide) (fun _ _ _ _ _ st h=>wpAny_pyIter_striter_wide st h),⟨_,Heap.get?_push_size _ rfl,rfl,rfl⟩,fin,q⟩
 ·exact wpAny_pyIter_ascii ha ⟨_,_,_,_,H1,rfl,I1.kept (t':=s1.toks) fun b o e=>Heap.get?_push_of_some _ e,gU (nm:="str_ascii_iterator") (fun A hA=>Walks.strAscii hA _ z t) (by decide) (fun _ _ _ _ _ st h=>wpAny_pyIter_striter_ascii st h),⟨_,Heap.get?_push_size _ rfl,rfl,rfl⟩,fin,q⟩
end
section
variable {X:Cx}
end
end FW
set_option Elab.async false
set_option linter.all false
set_option maxRecDepth 100000
set_option maxHeartbeats 1000000
namespace FW
open PySem PySem.Spec PyProof.Rows L2 HX
noncomputable def dO (env:Env):List (Str × NameKind)→List (Str × Addr)→List (Str × Addr)
 | [],cs=>cs
 | (x,k)::r,cs=>dO env r (if k == .free then (x,(env.cells.lookup x).getD 0)::cs else cs)
theorem gW {scope:Scope} {env:Env} (h:∀y∈scope.names,y.2=.free→∃c,env.cells.lookup y.1=some c):closureFor scope env=pure (dO env scope.names []):=by
 have key:∀(names:List (Str × NameKind)) (cs:List (Str × Addr)),(∀y∈names,y.2=.free→∃c,env.cells.lookup y.1=some c) →
   (forIn names cs fun (x:Str × NameKind) (r:List (Str × Addr))=>(match x with
    | (name,kind)=>if (kind == NameKind.free)=true then (do let a ←cellOf env name;pure (ForInStep.yield ((name,a)::r)):Sem _) else pure (ForInStep.yield r)))=(pure (dO env names cs):Sem _):=by
  intro names
  induction names with
  | nil=>intro cs _;rfl
  | cons y r ih =>
   intro cs hy
   obtain ⟨x,k⟩:=y
   rw [List.forIn_cons]
   by_cases hk:k=.free
   ·subst hk
    obtain ⟨c,e⟩:=hy _ List.mem_cons_self rfl
    have ec:cellOf env x=pure c:=by
     unfold cellOf
     rw [e]
    simp only [beq_self_eq_true,if_true,ec]
    show (forIn r ((x,c)::cs) _:Sem _)=_
    rw [ih _ fun y h=>hy y (List.mem_cons_of_mem _ h)]
    simp [dO,e]
   ·have hb:(k == NameKind.free)=false:=by simpa using hk
    simp only [hb,Bool.false_eq_true,if_false]
    show (forIn r cs _:Sem _)=_
    rw [ih _ fun y h=>hy y (List.mem_cons_of_mem _ h)]
    simp [dO,hb]
 unfold closureFor
 have:=key scope.names [] h
 exact congrArg (fun z=>z >>= fun r=>pure r) this
theorem df {env:Env}:∀ {names:List (Str × NameKind)} {cs:List (Str × Addr)} {x:Str} {c:Addr},(∀y∈names,y.2=.free→∃c,env.cells.lookup y.1=some c)→(∀x c,cs.lookup x=some c→env.cells.lookup x=some c) →
  (dO env names cs).lookup x=some c→env.cells.lookup x=some c
 | [],cs,x,c,_,h,e=>h x c e
 | (y,k)::r,cs,x,c,hn,h,e=>by
  unfold dO at e
  refine df (fun z hz=>hn z (List.mem_cons_of_mem _ hz)) ?_ e
  intro z d ez
  by_cases hk:k=.free
  ·subst hk
   obtain ⟨c',ec⟩:=hn _ List.mem_cons_self rfl
   simp only [beq_self_eq_true,if_true,List.lookup_cons] at ez
   by_cases q:z=y
   ·subst q
    simp [ec] at ez
    rw [ec,ez]
   ·have:(z == y)=false:=by simpa using q
    rw [this] at ez
    exact h z d ez
  ·have hb:(k == NameKind.free)=false:=by simpa using hk
   rw [hb] at ez
   exact h z d ez
theorem ji {env:Env}:∀ {names:List (Str × NameKind)} {cs:List (Str × Addr)} {x:Str},(∃c,cs.lookup x=some c)→∃c,(dO env names cs).lookup x=some c
 | [],cs,x,h=>h
 | (y,k)::r,cs,x,h=>by
  unfold dO
  refine ji ?_
  by_cases hk:k=.free
  ·subst hk
   simp only [beq_self_eq_true,if_true,List.lookup_cons]
   by_cases q:x=y
   ·subst q;simp
   ·have:(x == y)=false:=by simpa using q
    rw [this];exact h
  ·have hb:(k == NameKind.free)=false:=by simpa using hk
   rw [hb];exact h
theorem gQ {env:Env}:∀ {names:List (Str × NameKind)} {cs:List (Str × Addr)} {x:Str},(x,NameKind.free)∈names→∃c,(dO env names cs).lookup x=some c
 | [],cs,x,h=>nomatch h
 | (y,k)::r,cs,x,h=>by
  unfold dO
  rcases List.mem_cons.mp h with e|h
  ·cases e
   exact ji (by simp)
  ·exact gQ h
noncomputable def PTs (X:Cx) (xs:List Expr) (t:TT):Prop :=
 ∀(pins:List (Addr × Obj)) (s:Shared) (σ:L2.St) (H:Hp) (Q:Bool→Hp→Prop),L2.Inv X pins σ H s→t σ H Q →
  wpAny (model X.prog X.w) X.A (forIn xs true fun c r=>if r=true then do let ok ←isTrue c X.env (eval c X.env);pure (ForInStep.yield ok) else pure (ForInStep.yield r)) (TP X pins σ Q) X.xe s
theorem fS {env:Env}:∀xs:List Expr,(forIn xs false fun c r=>if r=true then do let ok ←isTrue c env (eval c env);pure (ForInStep.yield ok) else pure (ForInStep.yield r):Sem Bool)=pure false
 | []=>rfl
 | x::xs=>by
  rw [List.forIn_cons]
  simp only [Bool.false_eq_true,if_false]
  exact fS xs
theorem nA {X:Cx}:PTs X [] (fun σ H Q=>Q true H):=fun pins s σ H Q I h=>wpAny_pure ⟨H,I,h⟩
theorem kG {X:Cx} {x:Expr} {xs:List Expr} {t u:TT} (h1:PT X x t) (h2:PTs X xs u):PTs X (x::xs) (yr t u):=by
 intro pins s σ H Q I h
 rw [List.forIn_cons]
 simp only [if_true]
 refine wpAny_bind (wpAny_bind (thn (h1 pins s σ H _ I h) fun b s1 ⟨H1,I1,q1⟩=>?_))
 refine wpAny_pure ?_
 cases b with
 | true =>
  rw [if_pos rfl] at q1
  exact h2 pins s1 σ H1 Q I1 q1
 | false =>
  rw [if_neg Bool.false_ne_true] at q1
  show wpAny _ _ (forIn xs false _) _ _ _
  rw [fS]
  exact wpAny_pure ⟨H1,I1,q1⟩
theorem jC {prog:Program} {w:World} {A:Around} {R:Result→Shared→Prop} {s:Shared} {elt target iter:Expr} {ifs:List Expr} {scope:Scope} {pos:Pos} {it acc:Value} {env:Env} (I:Nat→Shared→Prop)
  (turn:∀n s,I n s→wpAny (model prog w) A (pyNext it) (fun r s₁=>match r with
   | none=>R (.ok .next) s₁
   | some v=>wpAny (model prog w) A (letOwnedTupleGo target it v) (fun _ s0=>wpAny (model prog w) A (assign target env v) (fun _ s₂ =>
     wpAny (model prog w) A (forIn ifs true fun c r=>if r=true then do let ok ←isTrue c env (eval c env);pure (ForInStep.yield ok) else pure (ForInStep.yield r)) (fun ok s₃ =>
      if ok=true then wpAny (model prog w) A (eval elt env) (fun x s₄ =>
       wpAny (model prog w) A (call (.builtin "list.append") [acc,x]) (fun _ s₅=>∃m,m<n∧I m s₅) (fun _ _=>False) s₄) (fun _ _=>False) s₃
      else ∃m,m<n∧I m s₃) (fun _ _=>False) s₂) (fun _ _=>False) s0) (fun _ _=>False) s₁) (fun _ _=>False) s)
  (n:Nat) (h:I n s):codeAny (model prog w) A (.compLoop (.ListComp elt [⟨target,iter,ifs,0⟩] scope pos) 0 it acc env) R s:=by
 refine codeAny_loop rfl I (fun n s hI=>?_) n h
 show wpAny _ A ((compTurn (.ListComp elt [⟨target,iter,ifs,0⟩] scope pos) 0 it acc env).onRaise (fun x=>do noteFrame x env;theTreesLotGoes x)) _ _ s
 refine wpAny_noted ?_
 rw [compTurn_list]
 refine wpAny_bind (wpAny_standAt (wpAny_bind (wpAny_mono (turn n s hI) (fun r s₁ h₁=>?_) fun _ _ h'=>h'.elim)))
 cases r with
 | none=>exact wpAny_pure h₁
 | some v =>
  refine wpAny_bind (wpAny_mono h₁ (fun _ s0 h₁=>?_) fun _ _ h'=>h'.elim)
  refine wpAny_bind (wpAny_mono h₁ (fun _ s₂ h₂=>wpAny_bind (wpAny_mono h₂ (fun ok s₃ h₃=>?_) fun _ _ h'=>h'.elim)) fun _ _ h'=>h'.elim)
  cases ok with
  | false=>exact wpAny_pure ⟨rfl,h₃⟩
  | true =>
   exact wpAny_bind (wpAny_bind (wpAny_mono h₃ (fun x s₄ h₄=>wpAny_bind (wpAny_mono h₄ (fun _ s₅ h₅=>wpAny_pure (wpAny_pure ⟨rfl,h₅⟩)) fun _ _ h'=>h'.elim)) fun _ _ h'=>h'.elim))
noncomputable def cxC (X:Cx) (N:List Str) (s2:Shared) (H2:Hp) (fp:List Addr) (scope:Scope) (C:Addr):Cx :=
 { X with N:=N,s₀:=s2,H₀:=H2,env:=compEnvC scope (dO X.env scope.names []) C X.env,outer:=X.stack,stack:=X.stack,ex:=fp,fn:=fun _=>false,pn:=[],xe:=fun _ _=>False }
structure CScope (X:Cx) (scope:Scope):Prop where
 kind:scope.kind=.function
 nocell:∀y∈scope.names,y.2≠.cell
 nms:∀y∈scope.names,y.2=.local→scope.names.lookup y.1=some .local
 free:∀y∈scope.names,y.2=.free→X.env.kindOf y.1=some .cell∨X.env.kindOf y.1=some .free
theorem fX {scope:Scope} {env:Env} {x:Str} {k:NameKind} (h:(relabel scope env).names.lookup x=some k) (hk:k=.cell∨k=.free) (nc:∀y∈scope.names,y.2≠.cell):(x,NameKind.free)∈scope.names:=by
 have hm:=PySem.mem_of_lookup h
 unfold relabel at hm
 obtain ⟨⟨n,k0⟩,hy,e⟩:=List.mem_map.mp hm
 simp only at e
 split at e
 ·rename_i hc
  cases e
  simp only [Bool.and_eq_true,beq_iff_eq] at hc
  have:k0=.free:=hc.1.1
  subst this
  exact hy
 ·cases e
  rcases hk with rfl|rfl
  ·exact absurd rfl (nc _ hy)
  ·exact hy
theorem eC {env:Env}:∀ {names:List (Str × NameKind)} {x:Str},names.lookup x=some .globalImplicit →
  (names.map fun (n,k)=>if (k == NameKind.free && env.scope.kind == .function && env.kindOf n == some .cell) then (n,NameKind.cell) else (n,k)).lookup x=some .globalImplicit
 | [],_,h=>by simp at h
 | (n,k)::r,x,h=>by
  have ih:=@eC env r x
  show List.lookup x ((if (k == NameKind.free && env.scope.kind == .function && env.kindOf n == some .cell)=true then (n,NameKind.cell) else (n,k))::_)=_
  cases hx:x == n with
  | true =>
   simp only [List.lookup_cons,hx] at h
   cases h
   simp [List.lookup_cons,hx]
  | false =>
   simp only [List.lookup_cons,hx] at h
   by_cases hc:(k == NameKind.free && env.scope.kind == .function && env.kindOf n == some .cell)=true
   ·rw [if_pos hc];simp only [List.lookup_cons,hx];exact ih h
   ·rw [if_neg hc];simp only [List.lookup_cons,hx];exact ih h
theorem bW {env:Env}:∀ {names:List (Str × NameKind)} {x:Str},names.lookup x=some .free →
  (names.map fun (n,k)=>if (k == NameKind.free && env.scope.kind == .function && env.kindOf n == some .cell) then (n,NameKind.cell) else (n,k)).lookup x=some .cell ∨
  (names.map fun (n,k)=>if (k == NameKind.free && env.scope.kind == .function && env.kindOf n == some .cell) then (n,NameKind.cell) else (n,k)).lookup x=some .free
 | [],_,h=>by simp at h
 | (n,k)::r,x,h=>by
  have ih:=@bW env r x
  show List.lookup x ((if (k == NameKind.free && env.scope.kind == .function && env.kindOf n == some .cell)=true then (n,NameKind.cell) else (n,k))::_)=_∨List.lookup x ((if (k == NameKind.free && env.scope.kind == .function && env.kindOf n == some .cell)=true then (n,NameKind.cell) else (n,k))::_)=_
  cases hx:x == n with
  | true =>
   simp only [List.lookup_cons,hx] at h
   cases h
   by_cases hc:(NameKind.free == NameKind.free && env.scope.kind == .function && env.kindOf n == some .cell)=true
   ·rw [if_pos hc];simp [List.lookup_cons,hx]
   ·rw [if_neg hc];simp [List.lookup_cons,hx]
  | false =>
   simp only [List.lookup_cons,hx] at h
   by_cases hc:(k == NameKind.free && env.scope.kind == .function && env.kindOf n == some .cell)=true
   ·rw [if_pos hc];simp only [List.lookup_cons,hx];exact ih h
   ·rw [if_neg hc];simp only [List.lookup_cons,hx];exact ih h
section
variable {X:Cx} {pins:List (Addr × Obj)} {σ:L2.St} {H2:Hp} {s2:Shared} {fp:List Addr} {scope:Scope} {C:Addr} {N:List Str}
theorem CScope.cells (S:CScope X scope) (I:L2.Inv X pins σ H2 s2):∀y∈scope.names,y.2=.free→∃c,X.env.cells.lookup y.1=some c:=fun y hy hf=>I.ok.has y.1 (S.free y hy hf)
theorem wb (S:CScope X scope) (I:L2.Inv X pins σ H2 s2) (f2:∀b∈fp,ef X pins H2 b) (fl:∀b∈fp,b<s2.heap.objs.size) (hC:s2.heap.objs.size≤C):(cxC X N s2 H2 fp scope C).Ok where
 mod:=I.ok.mod
 kind:=S.kind
 glob:=I.ok.glob
 blt:=I.ok.blt
 above:=hC
 inj:=fun x y c h1 h2=>I.ok.inj x y c (df (S.cells I) (fun _ _ z=>by simp at z) h1) (df (S.cells I) (fun _ _ z=>by simp at z) h2)
 has:=fun x hx=>by
  refine gQ (x:=x) ?_
  rcases hx with h|h
  ·exact fX h (.inl rfl) S.nocell
  ·exact fX h (.inr rfl) S.nocell
 cab:=fun x c h=>by cases h
 hd:=I.ok.hd
 frames:=I.ok.frames
 stk:=.inl rfl
 exf:=fun b hb=>⟨Nat.ne_of_lt (Nat.lt_of_lt_of_le (fl b hb) hC),fun x c h=>(f2 b hb).2.2.2.2.1 x c (df (S.cells I) (fun _ _ z=>by simp at z) h)⟩
 bs:=I.bs
 bsz:=Nat.le_trans I.ok.bsz I.sz
 noex:=fun b o e hb=>by
  rcases (f2 b hb).2.2.2.1 with z|z
  ·exact I.ok.noex b o e z
  ·have:=Heap.lt_size e
   exact absurd (Nat.lt_of_lt_of_le (Nat.lt_of_lt_of_le this I.ok.bsz) z) (Nat.lt_irrefl _)
 exfs:=fun b hb hf=>by
  rcases List.mem_cons.mp (I.stkSub b hf) with z|z
  ·exact (f2 b hb).2.1 z
  ·exact (f2 b hb).2.2.1 z
 funs:=I.stack
 frf:=I.stkFree
theorem lm {H3:Hp} {h1:Heap} {tk:Nat} {nt:List Str} {cn:List Str} {caps:List Nat} (S:CScope X scope) (I:L2.Inv X pins σ H2 s2) (f2:∀b∈fp,ef X pins H2 b) (fl:∀b∈fp,b<s2.heap.objs.size) (hC:s2.heap.objs.size≤C)
  (un:Un (frs X.stack) fp H2 H3 s2.heap h1) (hok:HOk X.prog X.w H3 h1) (ns:h1.Ns C (fun _=>none)) (hn:H3 C=none) (keep:∀b o,s2.heap.get? b=some o→h1.get? b=some o) (free:∀b o,s2.heap.get? b=some o→H2 b=none→H3 b=none)
  (hcn:cn=caps.filterMap (X.N[·]?)) (hcl:∀i∈caps,i<X.N.length) (hcf:∀x∈cn,scope.names.lookup x=some .free) (hce:∀x∈cn,X.env.kindOf x=some .cell∨X.env.kindOf x=some .free) :
  L2.Inv (cxC X (nt++cn) s2 H2 fp scope C) [] (nt.map (fun _=>none)++caps.map fun i=>(σ[i]?).join) H3 { s2 with heap:=h1,toks:=tk }:=by
 have cel:∀x c,(dO X.env scope.names []).lookup x=some c→X.env.cells.lookup x=some c:=fun x c h=>df (S.cells I) (fun _ _ z=>by simp at z) h
 have lenc:cn.length=caps.length:=by
  rw [hcn]
  clear hcf hce hcn
  induction caps with
  | nil=>rfl
  | cons i r ih =>
   have:X.N[i]?=some (X.N[i]'(hcl i List.mem_cons_self)):=List.getElem?_eq_getElem (hcl i List.mem_cons_self)
   rw [List.filterMap_cons,this]
   simp only [List.length_cons]
   rw [ih fun j hj=>hcl j (List.mem_cons_of_mem _ hj)]
 have getc:∀(j i:Nat),caps[j]?=some i→∃x,cn[j]?=some x∧X.N[i]?=some x:=by
  rw [hcn]
  clear hcf hce hcn lenc
  induction caps with
  | nil=>intro j i h;simp at h
  | cons k r ih =>
   intro j i h
   have hk:X.N[k]?=some (X.N[k]'(hcl k List.mem_cons_self)):=List.getElem?_eq_getElem (hcl k List.mem_cons_self)
   rw [List.filterMap_cons,hk]
   cases j with
   | zero=>simp at h;subst h;exact ⟨_,rfl,hk⟩
   | succ j=>exact ih (fun j hj=>hcl j (List.mem_cons_of_mem _ hj)) j i (by simpa using h)
 refine ⟨wb S I f2 fl hC,rfl,I.bare,un,⟨_,ns,fun i x v e1 e2 e3=>?_⟩,fun x c e=>?_,hn,fun x c e=>?_,fun p hp=>absurd (show p∈([]:List (Addr × Obj)) from hp) (by simp),hok,?_⟩
 ·by_cases hi:i<nt.length
  ·rw [List.getElem?_append_left (by simpa using hi),List.getElem?_map] at e2
   cases q:nt[i]? with
   | none=>rw [q] at e2;cases e2
   | some z=>rw [q] at e2;cases e2
  ·rw [List.getElem?_append_right (by simpa using hi),List.length_map,List.getElem?_map] at e2
   have e1':(nt++cn)[i]?=some x:=e1
   rw [List.getElem?_append_right (by omega)] at e1'
   cases q:caps[i-nt.length]? with
   | none=>rw [q] at e2;cases e2
   | some j =>
    rw [q] at e2
    have e2':(σ[j]?).join=some v:=Option.some.inj e2
    obtain ⟨y,g1,g2⟩:=getc _ _ q
    rw [e1'] at g1
    cases g1
    have e4:σ[j]?=some (some v):=by
     cases z:σ[j]? with
     | none=>rw [z] at e2';cases e2'
     | some w=>rw [z] at e2';rw [show w=some v from e2']
    obtain ⟨m,hm,hl⟩:=I.loc
    have kx:=hce x (List.mem_of_getElem? e1')
    obtain ⟨u,ru,lk⟩:=hl j x v g2 e4 (.inr (by rcases kx with k|k;exact .inl k;exact .inr k))
    refine ⟨u,ru,.inr ⟨bW (hcf x (List.mem_of_getElem? e1')),?_⟩⟩
    rcases lk with ⟨k,_⟩|⟨_,c,ec,hc⟩
    ·rcases kx with k' | k' <;> rw [k] at k' <;> cases k'
    ·obtain ⟨c',ec'⟩:=gQ (env:=X.env) (names:=scope.names) (cs:=[]) (x:=x) (PySem.mem_of_lookup (hcf x (List.mem_of_getElem? e1')))
     have:=cel x c' ec'
     rw [ec] at this
     cases this
     obtain ⟨o,ho,hd⟩:=hc
     exact ⟨c,ec',o,keep _ _ ho,hd⟩
 ·obtain ⟨v,o,ho,hd⟩:=I.cell x c (cel x c e)
  exact ⟨v,o,keep _ _ ho,hd⟩
 ·obtain ⟨v,o,ho,hd⟩:=I.cell x c (cel x c e)
  exact free c o ho (I.freeC x c (cel x c e))
 ·show (nt.map (fun _=>(none:Option V))++caps.map fun i=>(σ[i]?).join).length=(nt++cn).length
  simp [lenc]
end
end FW
set_option Elab.async false
set_option linter.all false
set_option maxRecDepth 100000
set_option maxHeartbeats 1000000
namespace FW
open PySem PySem.Spec PyProof.Rows L2 HX
section
variable {Γ:Nat→FSp}
mutual
theorem fF {n:Nat} (G:aV Γ):∀(t:Tg) {v:PV} {ρ:Fr} {st:AH} {Q:Fr→AH→Prop},t.low n=true→bd Γ t v ρ st Q→bd Γ t v ρ st fun ρ' st'=>Q ρ' st'∧∀i,n≤i→ρ'[i]?=ρ[i]?
 | .name i,v,ρ,st,Q,h,q=>by
  skip
  rw [Tg.low] at h
  have:=of_decide_eq_true h
  exact ⟨q,fun j hj=>List.getElem?_set_ne (by omega)⟩
 | .tup ts,v,ρ,st,Q,h,q=>by
  skip
  rw [Tg.low] at h
  obtain ⟨xs,e,hl,q⟩:=q
  exact ⟨xs,e,hl,ee G ts h q⟩
 | .ltup ts,v,ρ,st,Q,h,q=>by
  skip
  rw [Tg.low] at h
  obtain ⟨xs,e,hl,q⟩:=q
  exact ⟨xs,e,hl,ee G ts h q⟩
 | .sub _ _,v,ρ,st,Q,h,q=>by rw [Tg.low] at h;cases h
theorem ee {n:Nat} (G:aV Γ):∀(t:Tgs) {v:List PV} {ρ:Fr} {st:AH} {Q:Fr→AH→Prop},t.low n=true→cJ Γ t v ρ st Q→cJ Γ t v ρ st fun ρ' st'=>Q ρ' st'∧∀i,n≤i→ρ'[i]?=ρ[i]?
 | .nil,v,ρ,st,Q,h,q=>by exact ⟨q.1,q.2,fun _ _=>rfl⟩
 | .cons t ts,v,ρ,st,Q,h,q=>by
  skip
  rw [Tgs.low,Bool.and_eq_true] at h
  obtain ⟨x,r,e,q⟩:=q
  refine ⟨x,r,e,aq G t (fun ρ1 st1 k=>?_) (fF G t h.1 q)⟩
  refine bZ G ts (fun ρ2 st2 k2=>⟨k2.1,fun i hi=>(k2.2 i hi).trans (k.2 i hi)⟩) (ee G ts h.2 k.1)
end
end
mutual
theorem R.mono0 {K:PySem.W.Frag} {m:List Addr} {H H':Hp} (ht:∀a ys,SqT K H a ys→SqT K H' a ys) (hr:∀a ys,RdF K H a ys→RdF K H' a ys):∀ {p:PV} {v:V},R K m H p v→R K m H' p v
 | .non,v,h=>by rw [R_non] at h ⊢;exact h
 | .bl b,v,h=>by rw [R_bl] at h ⊢;exact h
 | .int b,v,h=>by rw [R_int] at h ⊢;exact h
 | .str b,v,h=>by rw [R_str] at h ⊢;exact h
 | .ref n,v,h=>by rw [R_ref] at h ⊢;exact h
 | .tup xs,v,h=>by rw [R_tup] at h ⊢;obtain ⟨a,ys,e,q,r⟩:=h;exact ⟨a,ys,e,ht _ _ q,Rs.mono0 ht hr r⟩
 | .rdl xs,v,h=>by rw [cG] at h ⊢;obtain ⟨a,ys,e,q,r⟩:=h;exact ⟨a,ys,e,hr _ _ q,Rs.mono0 ht hr r⟩
 | .fn a,v,h=>by rw [oD] at h ⊢;exact h
theorem Rs.mono0 {K:PySem.W.Frag} {m:List Addr} {H H':Hp} (ht:∀a ys,SqT K H a ys→SqT K H' a ys) (hr:∀a ys,RdF K H a ys→RdF K H' a ys):∀ {ps:List PV} {vs:List V},Rs K m H ps vs→Rs K m H' ps vs
 | [],vs,h=>by rw [Rs_nil] at h ⊢;exact h
 | p::ps,vs,h=>by
  rw [Rs_cons] at h ⊢
  obtain ⟨y,r,e,h1,h2⟩:=h
  exact ⟨y,r,e,R.mono0 ht hr h1,Rs.mono0 ht hr h2⟩
end
theorem dz {K:PySem.W.Frag} {H:Hp} {D:Addr} {ys zs:List V} (hD:H D=some (.lst ys)):∀a us,SqT K H a us→SqT K (upd H D (.lst zs)) a us:=fun a us q=>by
 rcases q with (q|⟨w,q⟩)|q
 ·exact .inl (.inl (by rw [ab (fun z=>by subst z;rw [hD] at q;cases q)];exact q))
 ·exact .inl (.inr ⟨w,by rw [ab (fun z=>by subst z;rw [hD] at q;cases q)];exact q⟩)
 ·exact .inr q
theorem dD {K:PySem.W.Frag} {H:Hp} {D:Addr} {ys zs:List V} (hD:H D=some (.lst ys)):∀a us,RdF K H a us→RdF K (upd H D (.lst zs)) a us:=fun a us q=>by
 rcases q with ⟨w,q⟩|q
 ·exact .inl ⟨w,by rw [ab (fun z=>by subst z;rw [hD] at q;cases q)];exact q⟩
 ·exact .inr q
theorem TB.away {K:PySem.W.Frag} {H:Hp} {D:Addr} {ys zs:List V} (t:TB K H) (hD:H D=some (.lst ys)):TB K (upd H D (.lst zs)) :=
 t.keep (fun a ps q=>by rw [ab (fun z=>by subst z;rw [hD] at q;cases q)];exact q) fun a o q=>by rw [ab (fun z=>by subst z;rw [hD] at q;cases q)];exact q
theorem Ext.away {K:PySem.W.Frag} {m m':List Addr} {H H':Hp} {D:Addr} {ys zs:List V} (x:Ext K m H m' H') (h0:H D=none) (hD:H' D=some (.lst ys)):Ext K m H m' (upd H' D (.lst zs)) :=
 ⟨x.pre,x.new,fun a o ha e n=>by rw [ab (ag e h0)];exact x.fr a o ha e n,fun a us q=>dz hD a us (x.tup a us q),fun a us q=>dD hD a us (x.rdf a us q),fun a ps ha e=>let ⟨p1,e1⟩:=x.tbs a ps ha e;⟨p1,by rw [ab (ag e h0)];exact e1⟩,fun t=>(x.tb t).away hD,fun a o u e=>by rw [ab (ag e h0)];exact x.frz a o u e⟩
theorem RH.away {K:PySem.W.Frag} {m:List Addr} {H:Hp} {st:AH} {D:Addr} {ys zs:List V} (h:RH K m H st) (hm:D ∉ m) (hD:H D=some (.lst ys)):RH K m (upd H D (.lst zs)) st:=by
 refine ⟨h.len,h.nd,fun n c a h1 h2=>?_,h.tb.away hD⟩
 have ha:a≠D:=fun z=>hm (z ▸ List.mem_of_getElem? h2)
 have hc:=h.at_ n c a h1 h2
 cases c with
 | lst xs=>obtain ⟨us,g1,g2⟩:=hc;exact ⟨us,by rw [ab ha];exact g1,g2.mono0 (dz hD) (dD hD)⟩
 | dk kvs=>obtain ⟨us,g1,g2,g3⟩:=hc;exact ⟨us,by rw [ab ha];exact g1,g2,g3.mono0 (dz hD) (dD hD)⟩
 | fz kvs=>obtain ⟨o,us,g1,g2,g3⟩:=hc;exact ⟨o,us,by rw [ab ha];exact g1,g2,g3.mono0 (dz hD) (dD hD)⟩
theorem RF.away {K:PySem.W.Frag} {m:List Addr} {H:Hp} {ρ:Fr} {σ:L2.St} {D:Addr} {ys zs:List V} (h:RF K m H ρ σ) (hD:H D=some (.lst ys)):RF K m (upd H D (.lst zs)) ρ σ :=
 ⟨h.len,fun i v e=>let ⟨y,e1,r⟩:=h.at_ i v e;⟨y,e1,r.mono0 (dz hD) (dD hD)⟩⟩
theorem RF.less {K:PySem.W.Frag} {m:List Addr} {H:Hp} {ρ ρ':Fr} {σ:L2.St} {n:Nat} (h:RF K m H ρ' σ) (hl:ρ.length=ρ'.length) (hn:∀i v,ρ[i]?=some (some v)→n≤i) (hp:∀i,n≤i→ρ'[i]?=ρ[i]?):RF K m H ρ σ :=
 ⟨hl.trans h.len,fun i v e=>h.at_ i v (by rw [hp i (hn i v e)];exact e)⟩
theorem fk {nt:List Str} {f:Nat→Option PV} {caps:List Nat}:∀(i:Nat) (v:PV),(nt.map (fun _=>(none:Option PV))++caps.map f)[i]?=some (some v)→nt.length≤i:=fun i v e=>by
 by_cases hi:i<nt.length
 ·rw [List.getElem?_append_left (by simpa using hi),List.getElem?_map] at e
  cases q:nt[i]? with
  | none=>rw [q] at e;cases e
  | some z=>rw [q] at e;cases e
 ·omega
theorem nQ {K:PySem.W.Frag} {m:List Addr} {H:Hp} {ρ:Fr} {σ:L2.St} {nt:List Str} {caps:List Nat} (h:RF K m H ρ σ) :
  RF K m H (nt.map (fun _=>none)++caps.map fun i=>(ρ[i]?).join) (nt.map (fun _=>none)++caps.map fun i=>(σ[i]?).join):=by
 refine ⟨by simp,fun i v e=>?_⟩
 have hi:=fk i v e
 rw [List.getElem?_append_right (by simpa using hi),List.length_map,List.getElem?_map] at e
 rw [List.getElem?_append_right (by simpa using hi),List.length_map,List.getElem?_map]
 cases q:caps[i-nt.length]? with
 | none=>rw [q] at e;cases e
 | some j =>
  rw [q] at e
  have e':(ρ[j]?).join=some v:=Option.some.inj e
  have e4:ρ[j]?=some (some v):=by
   cases z:ρ[j]? with
   | none=>rw [z] at e';cases e'
   | some w=>rw [z] at e';rw [show w=some v from e']
  obtain ⟨y,e5,r⟩:=h.at_ j v e4
  exact ⟨y,by show some ((σ[j]?).join)=_;rw [e5];rfl,r⟩
section
variable {X:Cx} {Γ:Nat→FSp} {pins:List (Addr × Obj)} {σ:L2.St} {H:Hp} {s:Shared}
noncomputable def bK (K:PySem.W.Frag) (m1:List Addr) (H1:Hp) (Fin:Addr→Hp→Prop):LK:=fun vs st2=>∀m2 H2 D ys,Ext K m1 H1 m2 H2→RH K m2 H2 st2→D ∉ m2→H1 D=none→H2 D=some (.lst ys)→Rs K m2 H2 vs ys→Fin D H2
noncomputable def bV (Γ:Nat→FSp) (elt:E) (tg:Tg) (ifs:Es) (ρ:Fr):PV→AH→(Option PV→AH→Prop)→Prop:=fun x st2 k=>bd Γ tg x ρ st2 fun ρ' st3=>bN Γ ifs ρ' st3 fun c st4=>if c=true then wpE Γ elt ρ' st4 fun v st5=>k (some v) st5 else k none st4
theorem e_ (G:aV Γ) (hcalm:X.calm=true) {elt:E} {tg:Tg} {ifs:Es} {nt:List Str} {caps:List Nat} {cn:List Str} {eltx tgx iterx:Expr} {ifsx:List Expr} {scope:Scope} {pos p0:Pos} {use:Option (Value→Sem Unit)} {Qf:Value→Shared→Prop} {Fin:Addr→Hp→Prop} {wi:TI}
  (S:CScope X scope) (hcn:cn=caps.filterMap (X.N[·]?)) (hcl:∀i∈caps,i<X.N.length) (hcf:∀x∈cn,scope.names.lookup x=some .free) (hce:∀x∈cn,X.env.kindOf x=some .cell∨X.env.kindOf x=some .free)
  (hset:cI iterx=true) (hlow:tg.low nt.length=true) (hI:PI X tgx iterx wi)
  (hG:∀s2 H2 fp C,PG (cxC X (nt++cn) s2 H2 fp scope C) tgx (TGx X.K (bd Γ tg)))
  (hT:∀s2 H2 fp C,PTs (cxC X (nt++cn) s2 H2 fp scope C) ifsx (TTx X.K (bN Γ ifs)))
  (hE:∀s2 H2 fp C,PE (cxC X (nt++cn) s2 H2 fp scope C) eltx (TEx X.K (wpE Γ elt)))
  (I:L2.Inv X pins σ H s)
  (h:wi σ H fun J H1=>∃m ρ st1 xs chk,RF X.K m H1 ρ σ∧RH X.K m H1 st1∧fZ X.K J xs chk m H1∧xs.length<100000∧aG chk (bV Γ elt tg ifs (nt.map (fun _=>none)++caps.map fun i=>(ρ[i]?).join)) xs [] st1 (bK X.K m H1 Fin))
  (fin:∀C D H' s' m',L2.Inv X pins σ H' s'→s'.heap.Ns C m'→ef X pins H' C→Fin D H'→compPost (model X.prog X.w) X.A X.xe use Qf (.ref D) C (.ok .next) s') :
  wpAny (model X.prog X.w) X.A (comprehension (.ListComp eltx [⟨tgx,iterx,ifsx,0⟩] scope pos) scope X.env p0 (newList []) false (eval iterx X.env) use) Qf X.xe s:=by
 refine wpAny_comprehension_free (use:=use) rfl (h_ hset) (gW (S.cells I)) S.kind S.nms ?_
 refine thn (hI pins s σ H _ I h) fun v s1 h1=>thn h1 fun itv s2 h2=>?_
 obtain ⟨it,fp,tn,J,H2,e,I2,T,st2,f2,m,ρ,st1,xs,chk,rf,rh,W,hxs,w⟩:=h2
 subst e
 have fl:∀b∈fp,b<s2.heap.objs.size:=fun b hb=>by
  obtain ⟨o,e,_⟩:=T.obj 0 _ st2 b hb
  exact Heap.lt_size e
 refine wpAny_newObj_type (wpAny_newFunctionEnv S.nocell (by intro y hy;simp at hy) (fun h₁ hns₁ hsb₁=>?_) S.kind)
 dsimp only at hns₁ hsb₁ ⊢
 generalize hD:s2.heap.objs.size=D at *
 generalize hH3:s2.heap.push { cls:=.type "list",dict:=none,data:=.seq ([]:List Value).toArray }=P3 at hns₁ hsb₁ ⊢
 generalize hCC:P3.objs.size=C at *
 have hC1:C=D+1:=by rw [←hCC,←hH3,Heap.size_push,hD]
 have ltDC:D<C:=by rw [hC1];exact Nat.lt_succ_self D
 have neC:∀b,b<D→b≠C:=fun b hb=>Nat.ne_of_lt (Nat.lt_trans hb ltDC)
 have hDn:H2 D=none:=by rw [←hD];exact I2.hok.fresh (Nat.le_refl _)
 have hCn:H2 C=none:=I2.hok.fresh (by rw [hD];exact Nat.le_of_lt ltDC)
 have old3:∀b o,s2.heap.get? b=some o→P3.get? b=some o:=fun b o e=>hH3 ▸ Heap.get?_push_of_some _ e
 have old:∀b o,s2.heap.get? b=some o→h₁.get? b=some o:=fun b o e=>hsb₁.extBut b o (neC b (hD ▸ Heap.lt_size e)) (Heap.get?_push_of_some _ (old3 b o e))
 have newD:h₁.get? D=some { cls:=.type "list",data:=.seq #[] }:=hsb₁.extBut _ _ (Nat.ne_of_lt ltDC) (Heap.get?_push_of_some _ (by rw [←hH3,←hD];exact Heap.get?_push_size _ rfl))
 have un:Un (frs X.stack) fp H2 (upd H2 D (.lst [])) s2.heap h₁:=Un.laid old (by rw [hD];exact Nat.le_refl _) hDn
 have hok:HOk X.prog X.w (upd H2 D (.lst [])) h₁:=I2.hok.laid old (by rw [hD];exact Nat.le_refl _) ⟨Nat.zero_le _,[],0,.nil,newD⟩
 have I4:=lm (nt:=nt) (tk:=s2.toks+([]:List (Str × Value)).length) S I2 f2 (by rw [hD];exact fl) (C:=C) (by rw [hD];exact Nat.le_of_lt ltDC) un hok (by simpa using hns₁) (by rw [ab (Nat.ne_of_gt ltDC)];exact hCn) old
  (fun b o e n=>by rw [ab (Nat.ne_of_lt (hD ▸ Heap.lt_size e))];exact n) hcn hcl hcf hce
 generalize hρ0:(nt.map (fun _=>none)++caps.map fun i=>(ρ[i]?).join:Fr)=ρ0 at w
 have hρn:∀i v,ρ0[i]?=some (some v)→nt.length≤i:=by rw [←hρ0];exact fk
 have rf0:RF X.K m H2 ρ0 (nt.map (fun _=>none)++caps.map fun i=>(σ[i]?).join):=by rw [←hρ0];exact nQ rf
 generalize (nt.map (fun _=>none)++caps.map fun i=>(σ[i]?).join:L2.St)=σ0 at I4 rf0
 have loop:codeAny (model X.prog X.w) X.A (.compLoop (.ListComp eltx [⟨tgx,iterx,ifsx,0⟩] scope pos) 0 (.ref it) (.ref D) (compEnvC scope (dO X.env scope.names []) C X.env)) (compPost (model X.prog X.w) X.A X.xe use Qf (.ref D) C)
   { s2 with heap:=h₁,toks:=s2.toks+([]:List (Str × Value)).length }:=by
  refine jC (fun n s'=>∃(i:Nat),∃σ' H' m' st' acc ys,n+i=xs.length∧L2.Inv (cxC X (nt++cn) s2 H2 fp scope C) [] σ' H' s'∧tn i s'.heap∧(∀b∈fp,H' b=none)∧Ext X.K m H2 m' H'∧RH X.K m' H' st'∧RF X.K m' H' ρ0 σ'∧D ∉ m'∧H' D=some (.lst ys)∧Rs X.K m' H' acc ys∧ys.length≤i ∧
   aG chk (bV Γ elt tg ifs ρ0) (xs.drop i) acc st' (bK X.K m H2 Fin)) ?_ xs.length
   ⟨0,σ0,_,m,st1,[],[],rfl,I4,T.keep 0 _ _ st2 (fun b _ o e=>old b o e),fun b hb=>by rw [ab (Nat.ne_of_lt (fl b hb))];exact (f2 b hb).1,Ext.newT rh hDn,rh.newT hDn,rf0.mono (Ext.newT rh hDn),rh.fresh hDn,ai,Rs_nil.mpr rfl,Nat.le_refl _,by simpa using w⟩
  rintro n s' ⟨i,σ',H',m',st',acc,ys,hn,I',tni,fpn,x',rh',rf',Dm,hDl,rys,hly,k⟩
  have stat:∀ {H'':Hp},(∀b∈fp,H'' b=none)→∀b∈fp,ef (cxC X (nt++cn) s2 H2 fp scope C) [] H'' b:=fun hz b hb=>⟨hz b hb,(I'.ok.exf b hb).1,I'.ok.exfs b hb,.inl hb,(I'.ok.exf b hb).2,fun p hp=>absurd (show p∈([]:List (Addr × Obj)) from hp) (by simp)⟩
  cases q:xs.drop i with
  | nil =>
   rw [q] at k
   have hi:i=xs.length:=by
    have:=congrArg List.length q
    simp at this
    omega
   subst hi
   refine thn (T.done (cxC X (nt++cn) s2 H2 fp scope C) rfl rfl rfl hcalm _ [] s' σ' H' (fun _ _=>False) I' (stat fpn) tni (W.stop m' H' st' x' rh' k.1)) fun r s1 ⟨hr,I1⟩=>?_
   subst hr
   have IX:L2.Inv X pins σ H' s1:=I2.call' I1.os I1.base I1.hok I1.bare fun b hb=>⟨(f2 b hb).2.2.2.1,(f2 b hb).2.1,(f2 b hb).2.2.2.2.1,(f2 b hb).2.2.2.2.2⟩
   obtain ⟨mm,hns,_⟩:=I1.loc
   exact fin C D H' s1 mm IX hns (I2.fpOk (by rw [hD];exact Nat.le_of_lt ltDC) I1.free) (k.2 m' H' D ys x' rh' Dm hDn hDl rys)
  | cons v rest =>
   rw [q] at k
   have hi:i<xs.length:=by
    have:=congrArg List.length q
    simp at this
    omega
   have ev:xs[i]?=some v:=by
    have:=congrArg List.head? q
    rw [List.head?_drop] at this
    exact this
   have er:rest=xs.drop (i+1):=by
    have:=congrArg List.tail q
    rw [List.tail_drop] at this
    exact this.symm
   subst er
   obtain ⟨kc,k⟩:=k
   obtain ⟨go,yl⟩:=W.item i v m' H' st' x' rh' kc ev
   refine thn (T.item (cxC X (nt++cn) s2 H2 fp scope C) rfl rfl rfl hcalm i [] s' σ' H' (fun _ _=>False) I' (stat fpn) tni go) fun r s4 ⟨u,hr,h4⟩=>?_
   subst hr
   refine thn h4 fun _ s5 ⟨x,H5,I5,r5,y5,tn5,fr5⟩=>?_
   obtain ⟨x5,rh5,rv5⟩:=yl x H5 y5
   have I5':=I5.pinned (stat fr5) (T.obj _ _ tn5)
   have again:∀ {σ7:L2.St} {H7:Hp} {s7:Shared} {m7:List Addr} {st7:AH} {acc7:List PV} {ys7:List V},L2.Inv (cxC X (nt++cn) s2 H2 fp scope C) ([]++fI fp s5.heap) σ7 H7 s7→Ext X.K m H2 m7 H7→RH X.K m7 H7 st7→RF X.K m7 H7 ρ0 σ7→D ∉ m7→H7 D=some (.lst ys7) →
     Rs X.K m7 H7 acc7 ys7→ys7.length≤i+1→aG chk (bV Γ elt tg ifs ρ0) (xs.drop (i+1)) acc7 st7 (bK X.K m H2 Fin) →
     ∃n',n'<n∧∃(i:Nat),∃σ' H' m' st' acc ys,n'+i=xs.length∧L2.Inv (cxC X (nt++cn) s2 H2 fp scope C) [] σ' H' s7∧tn i s7.heap∧(∀b∈fp,H' b=none)∧Ext X.K m H2 m' H'∧RH X.K m' H' st'∧RF X.K m' H' ρ0 σ'∧D ∉ m'∧H' D=some (.lst ys)∧Rs X.K m' H' acc ys∧ys.length≤i ∧
      aG chk (bV Γ elt tg ifs ρ0) (xs.drop i) acc st' (bK X.K m H2 Fin):=fun {σ7 H7 s7 m7 st7 acc7 ys7} I7 g1 g2 g3 g4 g5 g6 g7 g8=>by
    refine ⟨n-1,by omega,i+1,σ7,H7,m7,st7,acc7,ys7,by omega,I7.unpinned,T.keep _ _ _ tn5 fun b hb o e=>(I7.pin (b,o) (List.mem_append_right _ (List.mem_append_right _ (bJ hb e)))).1,fun b hb=>?_,g1,g2,g3,g4,g5,g6,g7,g8⟩
    obtain ⟨o,e,d⟩:=T.obj _ _ tn5 b hb
    exact (I7.pin (b,o) (List.mem_append_right _ (List.mem_append_right _ (bJ hb e)))).2.1
   have k2:=fF (n:=nt.length) G tg hlow k
   refine thn (hG s2 H2 fp C _ s5 σ' H5 x u (fun σ6 H6=>∃m6 ρ1 st6,Ext X.K m' H5 m6 H6∧RH X.K m6 H6 st6∧RF X.K m6 H6 ρ1 σ6∧(∀j,nt.length≤j→ρ1[j]?=ρ0[j]?) ∧
    bN Γ ifs ρ1 st6 fun c st4=>if c=true then wpE Γ elt ρ1 st4 fun vv st5=>aG chk (bV Γ elt tg ifs ρ0) (xs.drop (i+1)) (acc++[vv]) st5 (bK X.K m H2 Fin) else aG chk (bV Γ elt tg ifs ρ0) (xs.drop (i+1)) acc st4 (bK X.K m H2 Fin)) I5' r5
    ⟨m',ρ0,st',v,rf'.mono x5,rh5,rv5,aq G tg (fun ρ1 st6 z m6 H6 σ6 x6 rh6 rf6=>⟨m6,ρ1,st6,x6,rh6,rf6,z.2,aB G ifs (fun c st4 zz=>by
     cases c with
     | true=>rw [if_pos rfl] at zz ⊢;exact zz
     | false=>rw [if_neg Bool.false_ne_true] at zz ⊢;simpa using zz) z.1⟩) k2⟩) fun _ s6 ⟨σ6,H6,I6,m6,ρ1,st6,x6,rh6,rf6,pr,w6⟩=>?_
   have hlen:ρ0.length=ρ1.length:=by rw [rf6.len,I6.len,rf'.len,I'.len]
   refine thn (hT s2 H2 fp C _ s6 σ6 H6 (fun b H7=>∃m7 st7,Ext X.K m6 H6 m7 H7∧RH X.K m7 H7 st7∧if b=true then wpE Γ elt ρ1 st7 fun vv st5=>aG chk (bV Γ elt tg ifs ρ0) (xs.drop (i+1)) (acc++[vv]) st5 (bK X.K m H2 Fin) else aG chk (bV Γ elt tg ifs ρ0) (xs.drop (i+1)) acc st7 (bK X.K m H2 Fin)) I6
    ⟨m6,ρ1,st6,rf6,rh6,aB G ifs (fun b st7 z m7 H7 x7 rh7=>⟨m7,st7,x7,rh7,z⟩) w6⟩) fun b s7 ⟨H7,I7,m7,st7,x7,rh7,w7⟩=>?_
   have xx7:Ext X.K m' H' m7 H7:=(x5.trans x6).trans x7
   cases b with
   | false =>
    rw [if_neg Bool.false_ne_true] at w7 ⊢
    refine again I7 (x'.trans xx7) rh7 ((rf6.mono x7).less hlen hρn pr) (fun z=>?_) (xx7.fr D _ Dm hDl fun _ z=>nomatch z) (rys.mono xx7) (by omega) w7
    rcases xx7.new D z with z|z
    ·exact Dm z
    ·rw [hDl] at z;cases z
   | true =>
    rw [if_pos rfl] at w7 ⊢
    refine thn (hE s2 H2 fp C _ s7 σ6 H7 (fun y H8=>∃m8 st8 vv,Ext X.K m7 H7 m8 H8∧RH X.K m8 H8 st8∧R X.K m8 H8 vv y∧aG chk (bV Γ elt tg ifs ρ0) (xs.drop (i+1)) (acc++[vv]) st8 (bK X.K m H2 Fin)) I7
     ⟨m7,ρ1,st7,rf6.mono x7,rh7,aa G elt (fun vv st8 z m8 H8 y x8 rh8 r8=>⟨m8,st8,vv,x8,rh8,r8,z⟩) w7⟩) fun uy s8 ⟨y,H8,I8,ry,m8,st8,vv,x8,rh8,r8,w8⟩=>?_
    have xx8:Ext X.K m' H' m8 H8:=xx7.trans x8
    have hD8:H8 D=some (.lst ys):=xx8.fr D _ Dm hDl fun _ z=>nomatch z
    have Dm8:D ∉ m8:=fun z=>by
     rcases xx8.new D z with z|z
     ·exact Dm z
     ·rw [hDl] at z;cases z
    refine thn (jl (X:=cxC X (nt++cn) s2 H2 fp scope C) _ s8 σ6 H8 (.ref D) [y] (.ref D) [uy] (fun _ H9=>H9=upd H8 D (.lst (ys++[y]))) I8 rfl (.cons ry .nil) ⟨D,ys,y,rfl,rfl,hD8,dE (by omega),rfl⟩) fun _ s9 ⟨_,H9,I9,_,e9⟩=>?_
    subst e9
    exact again I9 ((x'.trans xx8).away hDn hD8) (rh8.away Dm8 hD8) ((((rf6.mono x7).mono x8).less hlen hρn pr).away hD8) Dm8 ai (((rys.mono xx8).app (.one r8)).mono0 (dz hD8) (dD hD8)) (by simp;omega) w8
 exact codeAny_compStart_list loop (T.self X.A 0 _ _ _ (T.keep 0 _ _ st2 fun b _ o e=>old b o e) loop)
end
end FW
set_option Elab.async false
set_option linter.all false
set_option maxRecDepth 100000
set_option maxHeartbeats 1000000
namespace FW
open PySem PySem.Spec PyProof.Rows L2 HX
mutual
theorem R.pre {K:PySem.W.Frag} {m m':List Addr} {H:Hp} (hp:m <+: m'):∀ {p:PV} {v:V},R K m H p v→R K m' H p v
 | .non,v,h=>by rw [R_non] at h ⊢;exact h
 | .bl b,v,h=>by rw [R_bl] at h ⊢;exact h
 | .int b,v,h=>by rw [R_int] at h ⊢;exact h
 | .str b,v,h=>by rw [R_str] at h ⊢;exact h
 | .fn b,v,h=>by rw [oD] at h ⊢;exact h
 | .ref n,v,h=>by rw [R_ref] at h ⊢;obtain ⟨a,e,q⟩:=h;exact ⟨a,dB hp e,q⟩
 | .tup xs,v,h=>by rw [R_tup] at h ⊢;obtain ⟨a,ys,e,q,r⟩:=h;exact ⟨a,ys,e,q,Rs.pre hp r⟩
 | .rdl xs,v,h=>by rw [cG] at h ⊢;obtain ⟨a,ys,e,q,r⟩:=h;exact ⟨a,ys,e,q,Rs.pre hp r⟩
theorem Rs.pre {K:PySem.W.Frag} {m m':List Addr} {H:Hp} (hp:m <+: m'):∀ {ps:List PV} {vs:List V},Rs K m H ps vs→Rs K m' H ps vs
 | [],vs,h=>by rw [Rs_nil] at h ⊢;exact h
 | p::ps,vs,h=>by
  rw [Rs_cons] at h ⊢
  obtain ⟨y,r,e,h1,h2⟩:=h
  exact ⟨y,r,e,R.pre hp h1,Rs.pre hp h2⟩
end
section
variable {Γ:Nat→FSp} {X:Cx} {c:Cfg}
theorem iA {pos pos':Pos} {c cv:Value} (l:List Value) (h:TriplesOk l) (e:codeAmong pos (l++[rawInt pos'.line,rawInt pos'.col,c])=some cv):codeAmong pos l=some cv∨cv=c:=by
 fun_induction TriplesOk l with
 | case1 =>
  simp only [List.nil_append,codeAmong,rawInt] at e
  split at e
  ·cases e;exact .inr rfl
  ·cases e
 | case2 a t b u x rest ih =>
  simp only [List.cons_append,codeAmong] at e ⊢
  split at e
  ·rename_i hc;rw [if_pos hc];exact .inl e
  ·rename_i hc;rw [if_neg hc];exact ih h e
 | case3 l h1 h2=>exact h.elim
theorem Ext.lam {K:PySem.W.Frag} {m:List Addr} {H:Hp} {T:Addr} {ps:Array Value} {pos:Pos} {c' c0:Addr} {oc:Obj} {x:Str} (hx:x∈aL) (ht:PySem.W.tabIn K x=some (c0,T)) (hT:H T=some (.tbl ps)) (hn:H c'=none) (ho:qB oc (x++".<locals>."++"<lambda>")):Ext K m H m (rA H T ps pos c' oc):=by
 have cT:c'≠T:=fun z=>by rw [z,hT] at hn;cases hn
 have same:∀b,b≠T→b≠c'→rA H T ps pos c' oc b=H b:=fun b h1 h2=>(ab h2).trans (ab h1)
 have nT:∀ {b:Addr} {o:HO},H b=some o→(∀qs,o≠.tbl qs)→b≠T:=fun {b o} e n z=>by rw [z,hT] at e;cases e;exact n _ rfl
 have nc:∀ {b:Addr} {o:HO},H b=some o→b≠c':=fun {b o} e z=>by rw [z,hn] at e;cases e
 have atT:rA H T ps pos c' oc T=some (.tbl (xY ps pos c')):=(ab cT.symm).trans (if_pos rfl)
 have atc:rA H T ps pos c' oc c'=some (.frz oc (.own 0)):=if_pos rfl
 refine ⟨List.prefix_refl _,fun _ z=>.inl z,fun a o _ e n=>?_,fun a ys q=>?_,fun a ys q=>?_,fun a qs _ e=>?_,fun t y hy d T' hd=>?_,fun a o u e=>by rw [same a (nT e fun _ z=>nomatch z) (nc e)];exact e⟩
 ·rw [same a (nT e n) (nc e)];exact e
 ·rcases q with (q|⟨w,q⟩)|q
  ·exact .inl (.inl (by rw [same a (nT q fun _ z=>nomatch z) (nc q)];exact q))
  ·exact .inl (.inr ⟨w,by rw [same a (nT q fun _ z=>nomatch z) (nc q)];exact q⟩)
  ·exact .inr q
 ·rcases q with ⟨w,q⟩|q
  ·exact .inl ⟨w,by rw [same a (nT q fun _ z=>nomatch z) (nc q)];exact q⟩
  ·exact .inr q
 ·by_cases ha:a=T
  ·subst ha;exact ⟨_,atT⟩
  ·exact ⟨qs,by rw [same a ha (nc e)];exact e⟩
 ·obtain ⟨u,qs,e1,e2,e3⟩:=t y hy d T' hd
  have keepF:∀ {b:Addr} {o:Obj},H b=some (.frz o (.own 0))→rA H T ps pos c' oc b=some (.frz o (.own 0)):=fun {b o} e=>by rw [same b (nT e fun _ z=>nomatch z) (nc e)];exact e
  by_cases hz:T'=T
  ·subst hz
   obtain rfl:x=y:=u x hx c0 ht
   rw [hT] at e1
   cases e1
   refine ⟨u,_,atT,?_,fun p cv q=>?_⟩
   ·rw [Array.toList_append];exact TriplesOk_snoc _ _ _ _ e2
   ·rw [Array.toList_append] at q
    rcases iA _ e2 q with q|q
    ·obtain ⟨c2,o2,g1,g2,g3⟩:=e3 p cv q
     exact ⟨c2,o2,g1,keepF g2,g3⟩
    ·exact ⟨c',oc,q,atc,ho⟩
  ·refine ⟨u,qs,by rw [same T' hz (nc e1)];exact e1,e2,fun p cv q=>?_⟩
   obtain ⟨c2,o2,g1,g2,g3⟩:=e3 p cv q
   exact ⟨c2,o2,g1,keepF g2,g3⟩
theorem mZ {k:Option NameKind} (h:ot k=true):k=some .cell∨k=some .free:=by
 unfold ot at h
 simpa using h
end
end FW
set_option Elab.async false
set_option linter.all false
set_option maxRecDepth 100000
set_option maxHeartbeats 1000000
namespace FW
open PySem PySem.Spec PyProof.Rows L2 HX
theorem um {P:Program} {w:World} {k:Key} {u:Value} (h:(ak P w).is k u=true):L2.RelV (kV k) u:=by
 rcases aI h with ⟨i,t,rfl,rfl⟩|⟨x,t,rfl,rfl⟩
 ·exact ⟨t,rfl⟩
 ·exact ⟨t,rfl⟩
noncomputable def ObD (P:Program) (w:World) (a:Addr) (o:Obj) (ys:List (Key × V)) (vs:List (Key × Value)) (ep:Nat):Prop:=KV ys vs∧∀h:Heap,h.get? a=some o→h.DictAt (ak P w) a vs ep
noncomputable def ItF (wk:DW) (a:Addr) (o:Obj) (ys:List (Key × V)):L2.It :=
 ⟨fun i H=>i<ys.length∧H a=some (.frz o (.dK ys)),fun i H x H'=>∃p,ys[i]?=some p∧match wk with
  | .keys=>H'=H∧x=kV p.1
  | .items=>∃T,x=.ref T∧H T=none∧H'=upd H T (.tup [kV p.1,p.2]),fun i H=>i=ys.length∧H a=some (.frz o (.dK ys))⟩
theorem KV.at {ys:List (Key × V)} {vs:List (Key × Value)} (h:KV ys vs) {i:Nat} {p:Key × V} (e:ys[i]?=some p):∃q,vs[i]?=some q∧p.1=q.1∧L2.RelV p.2 q.2:=by
 unfold KV at h
 induction h generalizing i with
 | nil=>simp at e
 | cons f t ih =>
  cases i with
  | zero=>simp at e;subst e;exact ⟨_,rfl,f.1,f.2⟩
  | succ i=>obtain ⟨q,e1,e2⟩:=ih (by simpa using e);exact ⟨q,by simpa using e1,e2⟩
theorem n8 {P:Program} {w:World} {K:PySem.W.Frag} {tg:Expr} {it a:Addr} {o:Obj} {ys:List (Key × V)} {vs:List (Key × Value)} {ep:Nat} (hO:ObD P w a o ys vs ep) :
  kU P w K tg (ItF .keys a o ys) [it] it (fun i h=>h.IsKeyIter it a i vs.length ep) where
 mem:=by simp
 obj:=fun i h st b hb=>by
  have e:b=it:=by simpa using hb
  subst e
  obtain ⟨u,e,c,d⟩:=st
  exact ⟨u,e,fun v z=>by rw [d] at z;cases z⟩
 keep:=fun i h h' st k=>by
  obtain ⟨u,e,r⟩:=st
  exact ⟨u,k it (by simp) u e,r⟩
 item:=by
  intro X hP hw hK hc i pins s σ H E I hf st hg
  subst hP hw hK
  obtain ⟨f0,f1,f2,f3,f4,f5⟩:=hf it (by simp)
  obtain ⟨hi,hF⟩:=hg
  have hd:=hO.2 _ (I.hok a _ hF).1
  obtain ⟨p,hp⟩:∃p,ys[i]?=some p:=⟨ys[i],by simp [hi]⟩
  obtain ⟨q,e1,e2,e3⟩:=KV.at hO.1 hp
  refine wpAny_pyNext_dict_item (k:=q.1) (v:=q.2) st hd e1 fun key h' hk st' sb=>?_
  have I1:L2.Inv X pins σ H { s with heap:=h' }:=I.turned (t':=s.toks) (fun b u hb e=>sb.extBut b u hb e) f0 f1 f3 f4 f5
  obtain ⟨u,e,cc,dd⟩:=id st'
  refine ⟨_,rfl,ky (s:={ s with heap:=h' }) e cc dd (by decide) ⟨kV p.1,H,I1,by rw [e2];exact um hk,⟨p,hp,rfl,rfl⟩,st',fun b hb=>(hf b hb).1⟩⟩
 done:=by
  intro X hP hw hK hc i pins s σ H E I hf st hg
  subst hP hw hK
  obtain ⟨f0,f1,f2,f3,f4,f5⟩:=hf it (by simp)
  obtain ⟨hi,hF⟩:=hg
  have hd:=hO.2 _ (I.hok a _ hF).1
  exact wpAny_pyNext_dict_end (I.ok.hd hc) st hd (List.getElem?_eq_none (by rw [hi,hO.1.length];exact Nat.le_refl _)) fun h' kk=>⟨rfl,I.turned (t':=s.toks) (fun b u hb e=>kk b u hb e) f0 f1 f3 f4 f5⟩
 self:=fun _ _ _ _ _ st h=>wpAny_pyIter_keyiter st h
theorem lz {P:Program} {w:World} {K:PySem.W.Frag} {elts:List Expr} {kt:Nat} {pt:Pos} {it a:Addr} {o:Obj} {ys:List (Key × V)} {vs:List (Key × Value)} {ep:Nat} (hO:ObD P w a o ys vs ep) :
  kU P w K (.Tuple elts kt pt) (ItF .items a o ys) [it] it (fun i h=>∃x y,IsItemIter h it a i vs.length ep x y) where
 mem:=by simp
 obj:=fun i h st b hb=>by
  have e:b=it:=by simpa using hb
  subst e
  obtain ⟨x,y,e⟩:=st
  exact ⟨_,e,fun v z=>nomatch z⟩
 keep:=fun i h h' st k=>by
  obtain ⟨x,y,e⟩:=st
  exact ⟨x,y,k it (by simp) _ e⟩
 item:=by
  intro X hP hw hK hc i pins s σ H E I hf st hg
  subst hP hw hK
  obtain ⟨hi,hF⟩:=hg
  have hd:=hO.2 _ (I.hok a _ hF).1
  obtain ⟨p,hp⟩:∃p,ys[i]?=some p:=⟨ys[i],by simp [hi]⟩
  obtain ⟨q,e1,e2,e3⟩:=KV.at hO.1 hp
  obtain ⟨x,y,st⟩:=st
  refine wpAny_pyNext_items_item (k:=q.1) (v:=q.2) st hd e1 fun key h' hk st' hT hz kk=>?_
  refine ⟨_,rfl,wpAny_letOwnedTupleGo_items (s:={ s with heap:=h' }) st' fun h'' st2 sb=>?_⟩
  have hlt:it<s.heap.objs.size:=Heap.lt_size st
  have Tn:s.heap.objs.size≠it:=Nat.ne_of_gt hlt
  have rk:L2.RelV (kV p.1) key:=by rw [e2];exact um hk
  have I2:L2.Inv X pins σ (upd H s.heap.objs.size (.tup [kV p.1,p.2])) { s with heap:=h'' }:=nR (t':=s.toks) (its:=[key,q.2]) (wr:=[it]) I (fun b u hb e=>by
   have hb:b≠it:=by simpa using hb
   rw [sb.2 b hb]
   exact kk b u hb e) (fun b hb=>hf b hb) (Nat.le_refl _) (.cons rk (.cons e3 .nil)) (by show 2≤sizeLine;decide) ⟨_,by rw [sb.2 _ Tn];exact hT,rfl,0,rfl⟩
  refine ⟨.ref _,_,I2,rfl,⟨p,hp,_,rfl,I.hok.fresh (Nat.le_refl _),rfl⟩,⟨_,_,st2⟩,fun b hb=>?_⟩
  have e:b=it:=by simpa using hb
  subst e
  rw [ab (Nat.ne_of_lt hlt)]
  exact (hf b hb).1
 done:=by
  intro X hP hw hK hc i pins s σ H E I hf st hg
  subst hP hw hK
  obtain ⟨f0,f1,f2,f3,f4,f5⟩:=hf it (by simp)
  obtain ⟨hi,hF⟩:=hg
  have hd:=hO.2 _ (I.hok a _ hF).1
  obtain ⟨x,y,st⟩:=st
  exact wpAny_pyNext_items_end (I.ok.hd hc) st hd (List.getElem?_eq_none (by rw [hi,hO.1.length];exact Nat.le_refl _)) fun h' kk=>⟨rfl,I.turned (t':=s.toks) (fun b u hb e=>kk b u hb e) f0 f1 f3 f4 f5⟩
 self:=fun A i s Q E st h=>by
  obtain ⟨x,y,st⟩:=st
  exact PySem.W.kcp_self st h
theorem vO {K:PySem.W.Frag} {m:List Addr} {H:Hp} {k:Key}:R K m H (kP k) (kV k):=by
 cases k with
 | inl i=>exact R_int.mpr rfl
 | inr x=>exact R_str.mpr rfl
theorem gw {K:PySem.W.Frag} {m:List Addr} {H:Hp}:∀ {kvs:List (Key × PV)} {ys:List (Key × V)} {i:Nat} {p:Key × V},ys.map (·.1)=kvs.map (·.1)→Rs K m H (kvs.map (·.2)) (ys.map (·.2))→ys[i]?=some p→∃q,kvs[i]?=some q∧q.1=p.1∧R K m H q.2 p.2
 | [],ys,i,p,e,r,h=>by
  cases ys with
  | nil=>simp at h
  | cons _ _=>simp at e
 | q::kvs,ys,i,p,e,r,h=>by
  cases ys with
  | nil=>simp at h
  | cons y ys =>
   simp only [List.map_cons,List.cons.injEq] at e
   rw [List.map_cons,List.map_cons,Rs_cons'] at r
   cases i with
   | zero=>simp at h;subst h;exact ⟨q,rfl,e.1.symm,r.1⟩
   | succ i=>obtain ⟨z,h1,h2⟩:=gw e.2 r.2 (show ys[i]?=some p by simpa using h);exact ⟨z,by simpa using h1,h2⟩
theorem pF {K:PySem.W.Frag} {wk:DW} {m0:List Addr} {H0:Hp} {a:Addr} {o:Obj} {ys:List (Key × V)} {kvs:List (Key × PV)} (hF:H0 a=some (.frz o (.dK ys))) (r1:ys.map (·.1)=kvs.map (·.1)) (r2:Rs K m0 H0 (kvs.map (·.2)) (ys.map (·.2))) :
  fZ K (ItF wk a o ys) (a_ wk kvs) (fun _=>True) m0 H0:=by
 have hl:ys.length=kvs.length:=by simpa using congrArg List.length r1
 have hw:(a_ wk kvs).length=ys.length:=by cases wk <;> simp [a_,hl]
 refine ⟨fun m H st x r q=>⟨hw,x.frz _ _ _ hF⟩,fun i v m H st x r q ev=>?_⟩
 have hi:i<ys.length:=by rw [←hw];exact (List.getElem?_eq_some_iff.mp ev).1
 refine ⟨⟨hi,x.frz _ _ _ hF⟩,?_⟩
 rintro y H' ⟨p,hp,z⟩
 obtain ⟨u,hu,e1,e2⟩:=gw r1 r2 hp
 cases wk with
 | keys =>
  obtain ⟨rfl,rfl⟩:=z
  have:(a_ .keys kvs)[i]?=some (kP u.1):=by unfold a_;rw [List.getElem?_map,hu];rfl
  rw [this] at ev
  cases ev
  exact ⟨Ext.refl _ _ _,r,by rw [e1];exact vO⟩
 | items =>
  obtain ⟨T,rfl,hT,rfl⟩:=z
  have:(a_ .items kvs)[i]?=some (.tup [kP u.1,u.2]):=by unfold a_;rw [List.getElem?_map,hu];rfl
  rw [this] at ev
  cases ev
  have xT:=Ext.newT (o:=.tup [kV p.1,p.2]) r hT
  refine ⟨xT,r.newT hT,R_tup.mpr ⟨T,_,rfl,SqT.of ai,?_⟩⟩
  rw [Rs_cons',Rs_cons',Rs_nil]
  exact ⟨by rw [e1];exact vO,(e2.mono x).mono xT,rfl⟩
end FW
set_option Elab.async false
set_option linter.all false
set_option maxRecDepth 100000
set_option maxHeartbeats 1000000
namespace FW
open PySem PySem.Spec PyProof.Rows L2 HX
section
variable {X:Cx} {pins:List (Addr × Obj)} {σ:L2.St} {H:Hp} {s:Shared} {a:Addr} {ys:List (Key × V)} {o:Obj}
theorem gj (I:L2.Inv X pins σ H s) (e:H a=some (.dK ys)) (ho:s.heap.get? a=some o):L2.Inv X pins σ (upd H a (.frz o (.dK ys))) s:=by
 have nh:∀b u,H b=some u→(∀zs,u≠.dK zs)→upd H a (.frz o (.dK ys)) b=some u:=fun b u q n=>by
  rw [ab (fun z=>by subst z;rw [e] at q;cases q;exact n _ rfl)];exact q
 have no:∀b,H b=none→upd H a (.frz o (.dK ys)) b=none:=fun b q=>by rw [ab (fun z=>by subst z;rw [e] at q;cases q)];exact q
 refine ⟨I.ok,I.os,I.bare,⟨I.base.keep,I.base.slot,fun b u q n hx=>no b (I.base.free b u q n hx),I.base.there,fun b xs q=>nh b _ (I.base.tups b xs q) (fun _ z=>nomatch z),fun b u v q=>nh b _ (I.base.frzs b u v q) (fun _ z=>nomatch z),fun b ps q=>let ⟨m,z⟩:=I.base.tbls b ps q;⟨m,nh b _ z (fun _ z=>nomatch z)⟩⟩,I.loc,I.cell,no _ I.free,fun x c q=>no _ (I.freeC x c q),fun p hp=>let ⟨h1,h2,h3⟩:=I.pin p hp;⟨h1,no _ h2,h3⟩,fun b u q=>?_,I.len⟩
 have st:∀ {b:Addr} {u:HO},ObjOk X.prog X.w H s.heap b u→ObjOk X.prog X.w (upd H a (.frz o (.dK ys))) s.heap b u:=fun {b u} x=>x.stay (fun _ _ _ q=>q) (fun c q=>nh c _ q (fun _ z=>nomatch z)) fun c xs q=>nh c _ q fun _ z=>nomatch z
 by_cases hb:b=a
 ·subst hb
  rw [ai] at q
  cases q
  exact ⟨ho,st (I.hok b _ e)⟩
 ·rw [ab hb] at q
  exact st (I.hok b u q)
theorem gA (I:L2.Inv X pins σ H s) (e:H a=some (.frz o (.dK ys))) (hz:∀u q,X.H₀ a≠some (.frz u q)):L2.Inv X pins σ (upd H a (.dK ys)) s:=by
 have nh:∀b u,H b=some u→(∀w zs,u≠.frz w (.dK zs))→upd H a (.dK ys) b=some u:=fun b u q n=>by
  rw [ab (fun z=>by subst z;rw [e] at q;cases q;exact n _ _ rfl)];exact q
 have no:∀b,H b=none→upd H a (.dK ys) b=none:=fun b q=>by rw [ab (fun z=>by subst z;rw [e] at q;cases q)];exact q
 refine ⟨I.ok,I.os,I.bare,⟨I.base.keep,I.base.slot,fun b u q n hx=>no b (I.base.free b u q n hx),I.base.there,fun b xs q=>nh b _ (I.base.tups b xs q) (fun _ _ z=>nomatch z),fun b u v q=>by rw [ab (fun z=>by subst z;exact hz _ _ q)];exact I.base.frzs b u v q,fun b ps q=>let ⟨m,z⟩:=I.base.tbls b ps q;⟨m,nh b _ z (fun _ _ z=>nomatch z)⟩⟩,I.loc,I.cell,no _ I.free,fun x c q=>no _ (I.freeC x c q),fun p hp=>let ⟨h1,h2,h3⟩:=I.pin p hp;⟨h1,no _ h2,h3⟩,fun b u q=>?_,I.len⟩
 have st:∀ {b:Addr} {u:HO},ObjOk X.prog X.w H s.heap b u→ObjOk X.prog X.w (upd H a (.dK ys)) s.heap b u:=fun {b u} x=>x.stay (fun _ _ _ q=>q) (fun c q=>nh c _ q (fun _ _ z=>nomatch z)) fun c xs q=>nh c _ q fun _ _ z=>nomatch z
 by_cases hb:b=a
 ·subst hb
  rw [ai] at q
  cases q
  exact st (I.hok b _ e).2
 ·rw [ab hb] at q
  exact st (I.hok b u q)
theorem rL (I:L2.Inv X pins σ H s) (e:H a=some (.dK ys)):∀u q,X.H₀ a≠some (.frz u q):=fun u q z=>by
 have:=I.base.frzs a u q z
 rw [e] at this
 cases this
end
section
variable {K:PySem.W.Frag} {m m2:List Addr} {H H2:Hp} {st:AH} {n:Nat} {a:Addr} {o:Obj} {ys:List (Key × V)} {kvs:List (Key × PV)}
theorem RH.frz (h:RH K m H st) (e:m[n]?=some a) (g:H a=some (.dK ys)) (r1:ys.map (·.1)=kvs.map (·.1)) (r2:Rs K m H (kvs.map (·.2)) (ys.map (·.2))):RH K m (upd H a (.frz o (.dK ys))) (st.set n (.fz kvs)):=by
 have x:Ext K m H m (upd H a (.frz o (.dK ys))):=Ext.set (ys:=[]) h e (nfD g)
 refine ⟨by simp [h.len],h.nd,fun k c b h1 h2=>?_,x.tb h.tb⟩
 by_cases hk:k=n
 ·subst hk
  have hl:k<st.length:=by rw [←h.len];exact (List.getElem?_eq_some_iff.mp e).1
  rw [List.getElem?_set_self hl] at h1
  rw [e] at h2
  cases h1
  cases h2
  exact ⟨o,ys,ai,r1,r2.mono x⟩
 ·rw [List.getElem?_set_ne (Ne.symm hk)] at h1
  exact (h.at_ k c b h1 h2).mono x (ab fun z=>hk (fJ h.nd h2 (z ▸ e)))
theorem b7 (hD:H a=some (.frz o (.dK ys))):∀b us,SqT K H b us→SqT K (upd H a (.dK ys)) b us:=fun b us q=>by
 rcases q with (q|⟨w,q⟩)|q
 ·exact .inl (.inl (by rw [ab (fun z=>by subst z;rw [hD] at q;cases q)];exact q))
 ·exact .inl (.inr ⟨w,by rw [ab (fun z=>by subst z;rw [hD] at q;cases q)];exact q⟩)
 ·exact .inr q
theorem b_ (hD:H a=some (.frz o (.dK ys))):∀b us,RdF K H b us→RdF K (upd H a (.dK ys)) b us:=fun b us q=>by
 rcases q with ⟨w,q⟩|q
 ·exact .inl ⟨w,by rw [ab (fun z=>by subst z;rw [hD] at q;cases q)];exact q⟩
 ·exact .inr q
theorem TB.thaw (t:TB K H) (hD:H a=some (.frz o (.dK ys))):TB K (upd H a (.dK ys)) :=
 t.keep (fun b ps q=>by rw [ab (fun z=>by subst z;rw [hD] at q;cases q)];exact q) fun b w q=>by rw [ab (fun z=>by subst z;rw [hD] at q;cases q)];exact q
theorem RH.thaw (h:RH K m H st) (e:m[n]?=some a) (hF:H a=some (.frz o (.dK ys))) (hs:st[n]?=some (.fz kvs)):RH K m (upd H a (.dK ys)) (st.set n (.dk kvs)):=by
 refine ⟨by simp [h.len],h.nd,fun k c b h1 h2=>?_,h.tb.thaw hF⟩
 by_cases hk:k=n
 ·subst hk
  have hl:k<st.length:=(List.getElem?_eq_some_iff.mp hs).1
  rw [List.getElem?_set_self hl] at h1
  rw [e] at h2
  cases h1
  cases h2
  obtain ⟨o',ys',g1,g2,g3⟩:=h.at_ k _ a hs e
  rw [hF] at g1
  cases g1
  exact ⟨ys,ai,g2,g3.mono0 (b7 hF) (b_ hF)⟩
 ·rw [List.getElem?_set_ne (Ne.symm hk)] at h1
  have ne:b≠a:=fun z=>hk (fJ h.nd h2 (z ▸ e))
  have hc:=h.at_ k c b h1 h2
  cases c with
  | lst xs=>obtain ⟨us,g1,g2⟩:=hc;exact ⟨us,by rw [ab ne];exact g1,g2.mono0 (b7 hF) (b_ hF)⟩
  | dk kvs=>obtain ⟨us,g1,g2,g3⟩:=hc;exact ⟨us,by rw [ab ne];exact g1,g2,g3.mono0 (b7 hF) (b_ hF)⟩
  | fz kvs=>obtain ⟨w,us,g1,g2,g3⟩:=hc;exact ⟨w,us,by rw [ab ne];exact g1,g2,g3.mono0 (b7 hF) (b_ hF)⟩
theorem Ext.thaw (h:RH K m H st) (e:m[n]?=some a) (g:H a=some (.dK ys)) (x:Ext K m (upd H a (.frz o (.dK ys))) m2 H2):Ext K m H m2 (upd H2 a (.dK ys)):=by
 have hm:a∈m:=List.mem_of_getElem? e
 have y:Ext K m H m (upd H a (.frz o (.dK ys))):=Ext.set (ys:=[]) h e (nfD g)
 have hF:H2 a=some (.frz o (.dK ys)):=x.frz _ _ _ ai
 have z:=y.trans x
 refine ⟨z.pre,z.new,fun b u hb q n=>?_,fun b us q=>b7 hF b us (z.tup b us q),fun b us q=>b_ hF b us (z.rdf b us q),fun b ps hb q=>?_,fun t=>(z.tb t).thaw hF,fun b u v q=>?_⟩
 ·rw [ab (show b≠a from fun w=>hb (by rw [w];exact hm))];exact z.fr b u hb q n
 ·rw [ab (show b≠a from fun w=>hb (by rw [w];exact hm))];exact z.tbs b ps hb q
 ·rw [ab (fun w=>by subst w;exact nfD g _ _ q)];exact z.frz b u v q
end
section
variable {X:Cx} {c:Cfg} {Γ:Nat→FSp}
noncomputable def wiF (X:Cx) (Γ:Nat→FSp) (wk:DW) (e:E):TI:=fun σ H Rr=>∃m ρ st,RF X.K m H ρ σ∧RH X.K m H st∧wpE Γ e ρ st fun x st1=>∃n kvs,x=.ref n∧st1[n]?=some (.dk kvs) ∧
 ∀m1 H1 a o ys,Ext X.K m H m1 H1→RH X.K m1 H1 st1→m1[n]?=some a→H1 a=some (.dK ys)→ys.map (·.1)=kvs.map (·.1)→Rs X.K m1 H1 (kvs.map (·.2)) (ys.map (·.2))→(∀u q,X.H₀ a≠some (.frz u q))→Rr (ItF wk a o ys) (upd H1 a (.frz o (.dK ys)))
theorem tW (C:COk X c Γ) {tg u:Expr} {e:E} (he:PE X u (TEx X.K (wpE Γ e))):PI X tg u (wiF X Γ .keys e):=by
 rintro pins s σ H Rr I ⟨m,ρ,st,rf,rh,w⟩
 refine thn (he pins s σ H (fun x H1=>∃a ys,x=.ref a∧H1 a=some (.dK ys)∧∀o,(∀u q,X.H₀ a≠some (.frz u q))→Rr (ItF .keys a o ys) (upd H1 a (.frz o (.dK ys)))) I ⟨m,ρ,st,rf,rh,aa C.mono e (fun v st1 k m1 H1 x1 e1 r1 r2=>?_) w⟩) fun v s1 ⟨x,H1,I1,r1,a,ys,ex,hd,q⟩=>?_
 ·obtain ⟨n,kvs,rfl,h1,k⟩:=k
  obtain ⟨b,ys,rfl,eb,g,r3,r4⟩:=r1.dkat h1 r2
  exact ⟨b,ys,rfl,g,fun o hz=>k m1 H1 b o ys e1 r1 eb g r3 r4 hz⟩
 ·subst ex
  cases r1
  obtain ⟨z,hm,vs,rel,o,es,ep,ho,rr⟩:=fW I1.hok hd
  have hO:ObD X.prog X.w a o ys vs ep:=⟨rel,fun h e=>⟨o,es,e,rr⟩⟩
  refine wpAny_pyIter_dict hm (hO.2 _ ho) ?_
  refine ⟨s1.heap.objs.size,[s1.heap.objs.size],_,_,_,rfl,(gj I1 hd ho).kept (t':=s1.toks) fun b u e=>Heap.get?_push_of_some _ e,n8 hO,⟨_,Heap.get?_push_size _ rfl,rfl,rfl⟩,fun b hb=>?_,q o (rL I1 hd)⟩
  have e:b=s1.heap.objs.size:=by simpa using hb
  subst e
  exact I1.fpOk (Nat.le_refl _) ((gj I1 hd ho).hok.fresh (Nat.le_refl _))
noncomputable def mK (v a:Addr):HO:=.ext fun h=>h.IsItemsView v a
theorem qg:MtR X "dict.items" (fun x xs H Q=>∃a kvs,x=.ref a∧xs=[]∧H a=some (.dK kvs)∧∀v,H v=none→Q (.ref v) (upd H v (mK v a))):=by
 rintro pins s σ H x xs v us Q I rx rv ⟨a,kvs,rfl,rfl,g,q⟩
 cases rx
 cases rv
 obtain ⟨z,hm,vs,rel,dd⟩:=fW I.hok g
 refine call_meetsIn PySem.F.slot_dict_items dd.typeIs PySem.F.entry_dict_items (PySem.F.args_dict_items_1 _) (meets_dict_items (ak X.prog X.w) a hm) ⟨⟨vs,dd⟩,?_⟩
 refine ⟨.ref s.heap.objs.size,_,I.laid (t':=s.toks) (fun b u e=>Heap.get?_push_of_some _ e) (Nat.le_refl _) (show ObjOk X.prog X.w _ _ _ (mK s.heap.objs.size a) from ⟨⟨_,Heap.get?_push_size _ rfl,rfl,rfl⟩,⟨_,Heap.get?_push_size _ rfl⟩,fun h1 h2 z e=>let ⟨ob,h3,r⟩:=z;⟨ob,e _ h3,r⟩⟩),rfl,q _ (I.hok.fresh (Nat.le_refl _))⟩
theorem rQ (C:COk X c Γ) {elts:List Expr} {kt:Nat} {pt ap cp:Pos} {y:Expr} {e:E} (hl:(ap.endLine == cp.line)=true) (hy:cR y=true) (he:PE X y (TEx X.K (wpE Γ e))):PI X (.Tuple elts kt pt) (.Call (.Attribute y "items" ap) [] [] cp) (wiF X Γ .items e):=by
 rintro pins s σ H Rr I ⟨m,ρ,st,rf,rh,w⟩
 have hE:=ly (X:=X) (apos:=ap) (cpos:=cp) PySem.F.plainAttrs_dict PySem.F.slot_dict_items PySem.F.type_dict_items qg he (cO hy) hl
 refine thn (hE pins s σ H (fun x H1=>∃v a ys,x=.ref v∧H1 v=some (mK v a)∧H1 a=some (.dK ys)∧∀o,(∀u q,X.H₀ a≠some (.frz u q))→Rr (ItF .items a o ys) (upd H1 a (.frz o (.dK ys)))) I ⟨m,ρ,st,rf,rh,aa C.mono e (fun v st1 k m1 H1 x1 e1 r1 r2=>?_) w⟩) fun v s1 ⟨x,H1,I1,r1,vw,a,ys,ex,hv,hd,q⟩=>?_
 ·obtain ⟨n,kvs,rfl,h1,k⟩:=k
  obtain ⟨b,ys,rfl,eb,g,r3,r4⟩:=r1.dkat h1 r2
  refine ⟨.inr (.inr (.inl ⟨rfl,.inl ⟨ys,g⟩⟩)),b,ys,rfl,rfl,g,fun v hv=>⟨v,b,ys,rfl,ai,?_,fun o hz=>?_⟩⟩
  ·rw [ab (ag g hv)];exact g
  ·have xv:=Ext.newT (o:=mK v b) r1 hv
   exact k m1 _ b o ys (e1.trans xv) (r1.newT hv) eb (by rw [ab (ag g hv)];exact g) r3 (r4.mono xv) hz
 ·subst ex
  cases r1
  obtain ⟨z,hm,vs,rel,o,es,ep,ho,rr⟩:=fW I1.hok hd
  have hO:ObD X.prog X.w a o ys vs ep:=⟨rel,fun h e=>⟨o,es,e,rr⟩⟩
  have hw:s1.heap.IsItemsView vw a:=(I1.hok vw _ hv).1
  refine wpAny_pyIter_items hw (hO.2 _ ho) ?_
  refine ⟨s1.heap.objs.size,[s1.heap.objs.size],_,_,_,rfl,(gj I1 hd ho).kept (t':=s1.toks) fun b u e=>Heap.get?_push_of_some _ e,lz hO,⟨_,_,Heap.get?_push_size _ rfl⟩,fun b hb=>?_,q o (rL I1 hd)⟩
  have e:b=s1.heap.objs.size:=by simpa using hb
  subst e
  exact I1.fpOk (Nat.le_refl _) ((gj I1 hd ho).hok.fresh (Nat.le_refl _))
theorem xg (C:COk X c Γ) {wk:DW} {tg ix:Expr} {e:E} (h1:v8 wk tg=true) (h2:lY wk ix (fun y=>aj c e y)=true) (he:∀y,aj c e y=true→PE X y (TEx X.K (wpE Γ e))):PI X tg ix (wiF X Γ wk e):=by
 cases wk with
 | keys=>exact tW C (he _ (oj h2).2)
 | items =>
  obtain ⟨y,ap,cp,rfl,h3,h4,h5⟩:=lL h2
  cases tg with
  | Tuple elts kt pt=>exact rQ C h3 h4 (he _ h5)
  | _=>cases h1
end
end FW
set_option Elab.async false
set_option linter.all false
set_option maxRecDepth 100000
set_option maxHeartbeats 1000000
namespace FW
open PySem PySem.Spec PyProof.Rows L2 HX
section
variable {X:Cx} {pins:List (Addr × Obj)} {σ:L2.St} {H:Hp} {s:Shared} {a:Addr} {A:Around} {E:Value→Shared→Prop}
theorem oR {ds:List (Key × V)} {k:Key} {v:V} {u r:Value} {Q:Unit→Shared→Prop} (I:L2.Inv X pins σ H s) (e:H a=some (.dK ds)) (ry:L2.RelV (kV k) u) (rv:L2.RelV v r) (l:ds.length<sizeLine) (h:∀s',L2.Inv X pins σ (upd H a (.dK (cy ds k v))) s'→Q () s') :
  wpAny (model X.prog X.w) A (dictSet a u r) Q E s:=by
 obtain ⟨z,hd,vs,rel,dd⟩:=fW I.hok e
 refine wpAny_dictSet_pairs (hsz:=by rw [←rel.length];exact z) (hJ ry) dd fun h' dd' hs=>h _ ?_
 have he:∃q,h'.get? a=some q:=let ⟨q,_,_,hq,_⟩:=dd';⟨q,hq⟩
 have hl:(cy ds k v).length≤sizeLine:=by have:=ck ds k v;omega
 exact gp I (by rw [e];exact True.intro) hs he (gP hl hd (rel.put k rv) dd')
end
theorem js {prog:Program} {w:World} {A:Around} {R:Result→Shared→Prop} {s:Shared} {kx vx target iter:Expr} {ifs:List Expr} {scope:Scope} {pos:Pos} {it:Value} {D:Addr} {env:Env} (I:Nat→Shared→Prop)
  (turn:∀n s,I n s→wpAny (model prog w) A (pyNext it) (fun r s₁=>match r with
   | none=>R (.ok .next) s₁
   | some v=>wpAny (model prog w) A (letOwnedTupleGo target it v) (fun _ s0=>wpAny (model prog w) A (assign target env v) (fun _ s₂ =>
     wpAny (model prog w) A (forIn ifs true fun c r=>if r=true then do let ok ←isTrue c env (eval c env);pure (ForInStep.yield ok) else pure (ForInStep.yield r)) (fun ok s₃ =>
      if ok=true then wpAny (model prog w) A (eval kx env) (fun x s₄=>wpAny (model prog w) A (eval vx env) (fun y s₅ =>
       wpAny (model prog w) A (dictSet D x y) (fun _ s₆=>∃m,m<n∧I m s₆) (fun _ _=>False) s₅) (fun _ _=>False) s₄) (fun _ _=>False) s₃
      else ∃m,m<n∧I m s₃) (fun _ _=>False) s₂) (fun _ _=>False) s0) (fun _ _=>False) s₁) (fun _ _=>False) s)
  (n:Nat) (h:I n s):codeAny (model prog w) A (.compLoop (.DictComp kx vx [⟨target,iter,ifs,0⟩] scope pos) 0 it (.ref D) env) R s:=by
 refine codeAny_loop rfl I (fun n s hI=>?_) n h
 show wpAny _ A ((compTurn (.DictComp kx vx [⟨target,iter,ifs,0⟩] scope pos) 0 it (.ref D) env).onRaise (fun x=>do noteFrame x env;theTreesLotGoes x)) _ _ s
 refine wpAny_noted ?_
 rw [compTurn_dict]
 refine wpAny_bind (wpAny_standAt (wpAny_bind (wpAny_mono (turn n s hI) (fun r s₁ h₁=>?_) fun _ _ h'=>h'.elim)))
 cases r with
 | none=>exact wpAny_pure h₁
 | some v =>
  refine wpAny_bind (wpAny_mono h₁ (fun _ s0 h₁=>?_) fun _ _ h'=>h'.elim)
  refine wpAny_bind (wpAny_mono h₁ (fun _ s₂ h₂=>wpAny_bind (wpAny_mono h₂ (fun ok s₃ h₃=>?_) fun _ _ h'=>h'.elim)) fun _ _ h'=>h'.elim)
  cases ok with
  | false=>exact wpAny_pure ⟨rfl,h₃⟩
  | true =>
   exact wpAny_bind (wpAny_bind (wpAny_mono h₃ (fun x s₄ h₄=>wpAny_bind (wpAny_holding (wpAny_mono h₄ (fun y s₅ h₅=>wpAny_bind (wpAny_standAt (wpAny_holding (wpAny_mono h₅ (fun _ s₆ h₆=>wpAny_pure ⟨rfl,h₆⟩) fun _ _ h'=>h'.elim)))) fun _ _ h'=>h'.elim))) fun _ _ h'=>h'.elim))
section
variable {K:PySem.W.Frag} {m m':List Addr} {H H':Hp} {st:AH} {D:Addr} {ys zs:List (Key × V)}
theorem cN (hD:H D=some (.dK ys)):∀a us,SqT K H a us→SqT K (upd H D (.dK zs)) a us:=fun a us q=>by
 rcases q with (q|⟨w,q⟩)|q
 ·exact .inl (.inl (by rw [ab (fun z=>by subst z;rw [hD] at q;cases q)];exact q))
 ·exact .inl (.inr ⟨w,by rw [ab (fun z=>by subst z;rw [hD] at q;cases q)];exact q⟩)
 ·exact .inr q
theorem cD (hD:H D=some (.dK ys)):∀a us,RdF K H a us→RdF K (upd H D (.dK zs)) a us:=fun a us q=>by
 rcases q with ⟨w,q⟩|q
 ·exact .inl ⟨w,by rw [ab (fun z=>by subst z;rw [hD] at q;cases q)];exact q⟩
 ·exact .inr q
theorem TB.awayD (t:TB K H) (hD:H D=some (.dK ys)):TB K (upd H D (.dK zs)) :=
 t.keep (fun a ps q=>by rw [ab (fun z=>by subst z;rw [hD] at q;cases q)];exact q) fun a o q=>by rw [ab (fun z=>by subst z;rw [hD] at q;cases q)];exact q
theorem Ext.awayD (x:Ext K m H m' H') (h0:H D=none) (hD:H' D=some (.dK ys)):Ext K m H m' (upd H' D (.dK zs)) :=
 ⟨x.pre,x.new,fun a o ha e n=>by rw [ab (ag e h0)];exact x.fr a o ha e n,fun a us q=>cN hD a us (x.tup a us q),fun a us q=>cD hD a us (x.rdf a us q),fun a ps ha e=>let ⟨p1,e1⟩:=x.tbs a ps ha e;⟨p1,by rw [ab (ag e h0)];exact e1⟩,fun t=>(x.tb t).awayD hD,fun a o u e=>by rw [ab (ag e h0)];exact x.frz a o u e⟩
theorem RH.awayD (h:RH K m H st) (hm:D ∉ m) (hD:H D=some (.dK ys)):RH K m (upd H D (.dK zs)) st:=by
 refine ⟨h.len,h.nd,fun n c a h1 h2=>?_,h.tb.awayD hD⟩
 have ha:a≠D:=fun z=>hm (z ▸ List.mem_of_getElem? h2)
 have hc:=h.at_ n c a h1 h2
 cases c with
 | lst xs=>obtain ⟨us,g1,g2⟩:=hc;exact ⟨us,by rw [ab ha];exact g1,g2.mono0 (cN hD) (cD hD)⟩
 | dk kvs=>obtain ⟨us,g1,g2,g3⟩:=hc;exact ⟨us,by rw [ab ha];exact g1,g2,g3.mono0 (cN hD) (cD hD)⟩
 | fz kvs=>obtain ⟨o,us,g1,g2,g3⟩:=hc;exact ⟨o,us,by rw [ab ha];exact g1,g2,g3.mono0 (cN hD) (cD hD)⟩
theorem RF.awayD {ρ:Fr} {σ:L2.St} (h:RF K m H ρ σ) (hD:H D=some (.dK ys)):RF K m (upd H D (.dK zs)) ρ σ :=
 ⟨h.len,fun i v e=>let ⟨y,e1,r⟩:=h.at_ i v e;⟨y,e1,r.mono0 (cN hD) (cD hD)⟩⟩
theorem gT {ps:List (Str × PV)} {z:Str} {v:PV}:prL ps++[.tup [.str z,v]]=prL (ps++[(z,v)]):=by simp [prL]
theorem nW:∀ {ps qs:List (Str × PV)},prL ps=prL qs→ps=qs
 | [],[],_=>rfl
 | [],_::_,h=>by simp [prL] at h
 | _::_,[],h=>by simp [prL] at h
 | p::ps,q::qs,h=>by
  obtain ⟨p1,p2⟩:=p
  obtain ⟨q1,q2⟩:=q
  simp only [prL,List.map_cons,List.cons.injEq,PV.tup.injEq,PV.str.injEq,and_true] at h
  rw [nW (ps:=ps) (qs:=qs) h.2,h.1.1,h.1.2]
theorem d5 {ps:List (Str × PV)} {z:Str} {v:PV}:bM (ps++[(z,v)])=dc (bM ps) (.inr z) v:=by simp [bM]
theorem so {kvs:List (Key × PV)} {k:Key} {v:PV}:(dc kvs k v).length≤kvs.length+1:=by
 unfold dc
 split
 ·rw [List.length_map];omega
 ·rw [List.length_append];simp
end
section
variable {X:Cx} {Γ:Nat→FSp} {pins:List (Addr × Obj)} {σ:L2.St} {H:Hp} {s:Shared}
noncomputable def DRel (K:PySem.W.Frag) (m:List Addr) (H:Hp) (ps:List (Str × PV)) (ds:List (Key × V)):Prop:=ds.map (·.1)=(bM ps).map (·.1)∧Rs K m H ((bM ps).map (·.2)) (ds.map (·.2))
theorem DRel.mono {K:PySem.W.Frag} {m m':List Addr} {H H':Hp} {ps:List (Str × PV)} {ds:List (Key × V)} (h:DRel K m H ps ds) (x:Ext K m H m' H'):DRel K m' H' ps ds:=⟨h.1,h.2.mono x⟩
noncomputable def bC (K:PySem.W.Frag) (m1:List Addr) (H1:Hp) (Fin:Addr→Hp→Prop):LK:=fun vs st2=>∀m2 H2 D ps ds,vs=prL ps→Ext K m1 H1 m2 H2→RH K m2 H2 st2→D ∉ m2→H1 D=none→H2 D=some (.dK ds)→DRel K m2 H2 ps ds→Fin D H2
noncomputable def b9 (Γ:Nat→FSp) (kx vx:E) (tg:Tg) (ifs:Es) (ρ:Fr):PV→AH→(Option PV→AH→Prop)→Prop:=fun x st2 k=>bd Γ tg x ρ st2 fun ρ' st3=>bN Γ ifs ρ' st3 fun c st4 =>
 if c=true then wpE Γ kx ρ' st4 fun u st5=>wpE Γ vx ρ' st5 fun v st6=>∃z,u=.str z∧k (some (.tup [u,v])) st6 else k none st4
theorem jb (G:aV Γ) (hcalm:X.calm=true) {kx vx:E} {tg:Tg} {ifs:Es} {nt:List Str} {caps:List Nat} {cn:List Str} {ekx evx tgx iterx:Expr} {ifsx:List Expr} {scope:Scope} {pos p0:Pos} {use:Option (Value→Sem Unit)} {Qf:Value→Shared→Prop} {Fin:Addr→Hp→Prop} {wi:TI}
  (S:CScope X scope) (hcn:cn=caps.filterMap (X.N[·]?)) (hcl:∀i∈caps,i<X.N.length) (hcf:∀x∈cn,scope.names.lookup x=some .free) (hce:∀x∈cn,X.env.kindOf x=some .cell∨X.env.kindOf x=some .free)
  (hset:cI iterx=true) (hlow:tg.low nt.length=true) (hI:PI X tgx iterx wi)
  (hG:∀s2 H2 fp C,PG (cxC X (nt++cn) s2 H2 fp scope C) tgx (TGx X.K (bd Γ tg)))
  (hT:∀s2 H2 fp C,PTs (cxC X (nt++cn) s2 H2 fp scope C) ifsx (TTx X.K (bN Γ ifs)))
  (hK:∀s2 H2 fp C,PE (cxC X (nt++cn) s2 H2 fp scope C) ekx (TEx X.K (wpE Γ kx)))
  (hE:∀s2 H2 fp C,PE (cxC X (nt++cn) s2 H2 fp scope C) evx (TEx X.K (wpE Γ vx)))
  (I:L2.Inv X pins σ H s)
  (h:wi σ H fun J H1=>∃m ρ st1 xs chk,RF X.K m H1 ρ σ∧RH X.K m H1 st1∧fZ X.K J xs chk m H1∧xs.length<100000∧aG chk (b9 Γ kx vx tg ifs (nt.map (fun _=>none)++caps.map fun i=>(ρ[i]?).join)) xs [] st1 (bC X.K m H1 Fin))
  (fin:∀C D H' s' m',L2.Inv X pins σ H' s'→s'.heap.Ns C m'→ef X pins H' C→Fin D H'→compPost (model X.prog X.w) X.A X.xe use Qf (.ref D) C (.ok .next) s') :
  wpAny (model X.prog X.w) X.A (comprehension (.DictComp ekx evx [⟨tgx,iterx,ifsx,0⟩] scope pos) scope X.env p0 newDict false (eval iterx X.env) use) Qf X.xe s:=by
 refine wpAny_comprehension_free (use:=use) rfl (h_ hset) (gW (S.cells I)) S.kind S.nms ?_
 refine thn (hI pins s σ H _ I h) fun v s1 h1=>thn h1 fun itv s2 h2=>?_
 obtain ⟨it,fp,tn,J,H2,e,I2,T,st2,f2,m,ρ,st1,xs,chk,rf,rh,W,hxs,w⟩:=h2
 subst e
 have fl:∀b∈fp,b<s2.heap.objs.size:=fun b hb=>by
  obtain ⟨o,e,_⟩:=T.obj 0 _ st2 b hb
  exact Heap.lt_size e
 refine wpAny_newObj_type (wpAny_newFunctionEnv S.nocell (by intro y hy;simp at hy) (fun h₁ hns₁ hsb₁=>?_) S.kind)
 dsimp only at hns₁ hsb₁ ⊢
 have hbig:sysModules<s2.heap.objs.size:=L2.Inv.big I2
 have hnew:(s2.heap.push { cls:=.type "dict",dict:=none,data:=.dict #[] }).DictOf (ak X.prog X.w) s2.heap.objs.size []:=Heap.DictOf.new s2.heap
 generalize hD:s2.heap.objs.size=D at *
 generalize hH3:s2.heap.push { cls:=.type "dict",dict:=none,data:=.dict #[] }=P3 at hns₁ hsb₁ hnew ⊢
 generalize hCC:P3.objs.size=C at *
 have hC1:C=D+1:=by rw [←hCC,←hH3,Heap.size_push,hD]
 have ltDC:D<C:=by rw [hC1];exact Nat.lt_succ_self D
 have neC:∀b,b<D→b≠C:=fun b hb=>Nat.ne_of_lt (Nat.lt_trans hb ltDC)
 have hDn:H2 D=none:=by rw [←hD];exact I2.hok.fresh (Nat.le_refl _)
 have hCn:H2 C=none:=I2.hok.fresh (by rw [hD];exact Nat.le_of_lt ltDC)
 have old3:∀b o,s2.heap.get? b=some o→P3.get? b=some o:=fun b o e=>hH3 ▸ Heap.get?_push_of_some _ e
 have old:∀b o,s2.heap.get? b=some o→h₁.get? b=some o:=fun b o e=>hsb₁.extBut b o (neC b (hD ▸ Heap.lt_size e)) (Heap.get?_push_of_some _ (old3 b o e))
 have newD:h₁.DictOf (ak X.prog X.w) D []:=hnew.at fun o e=>hsb₁.extBut _ _ (Nat.ne_of_lt ltDC) (Heap.get?_push_of_some _ e)
 have un:Un (frs X.stack) fp H2 (upd H2 D (.dK [])) s2.heap h₁:=Un.laid old (by rw [hD];exact Nat.le_refl _) hDn
 have hok:HOk X.prog X.w (upd H2 D (.dK [])) h₁:=I2.hok.laid old (by rw [hD];exact Nat.le_refl _) ⟨Nat.zero_le _,by
  have:D≠sysModules:=Nat.ne_of_gt hbig
  simpa using this,[],.nil,newD⟩
 have I4:=lm (nt:=nt) (tk:=s2.toks+([]:List (Str × Value)).length) S I2 f2 (by rw [hD];exact fl) (C:=C) (by rw [hD];exact Nat.le_of_lt ltDC) un hok (by simpa using hns₁) (by rw [ab (Nat.ne_of_gt ltDC)];exact hCn) old
  (fun b o e n=>by rw [ab (Nat.ne_of_lt (hD ▸ Heap.lt_size e))];exact n) hcn hcl hcf hce
 generalize hρ0:(nt.map (fun _=>none)++caps.map fun i=>(ρ[i]?).join:Fr)=ρ0 at w
 have hρn:∀i v,ρ0[i]?=some (some v)→nt.length≤i:=by rw [←hρ0];exact fk
 have rf0:RF X.K m H2 ρ0 (nt.map (fun _=>none)++caps.map fun i=>(σ[i]?).join):=by rw [←hρ0];exact nQ rf
 generalize (nt.map (fun _=>none)++caps.map fun i=>(σ[i]?).join:L2.St)=σ0 at I4 rf0
 have loop:codeAny (model X.prog X.w) X.A (.compLoop (.DictComp ekx evx [⟨tgx,iterx,ifsx,0⟩] scope pos) 0 (.ref it) (.ref D) (compEnvC scope (dO X.env scope.names []) C X.env)) (compPost (model X.prog X.w) X.A X.xe use Qf (.ref D) C)
   { s2 with heap:=h₁,toks:=s2.toks+([]:List (Str × Value)).length }:=by
  refine js (fun n s'=>∃(i:Nat),∃σ' H' m' st' ps ds,n+i=xs.length∧L2.Inv (cxC X (nt++cn) s2 H2 fp scope C) [] σ' H' s'∧tn i s'.heap∧(∀b∈fp,H' b=none)∧Ext X.K m H2 m' H'∧RH X.K m' H' st'∧RF X.K m' H' ρ0 σ'∧D ∉ m'∧H' D=some (.dK ds)∧DRel X.K m' H' ps ds∧(bM ps).length≤i ∧
   aG chk (b9 Γ kx vx tg ifs ρ0) (xs.drop i) (prL ps) st' (bC X.K m H2 Fin)) ?_ xs.length
   ⟨0,σ0,_,m,st1,[],[],rfl,I4,T.keep 0 _ _ st2 (fun b _ o e=>old b o e),fun b hb=>by rw [ab (Nat.ne_of_lt (fl b hb))];exact (f2 b hb).1,Ext.newT rh hDn,rh.newT hDn,rf0.mono (Ext.newT rh hDn),rh.fresh hDn,ai,⟨rfl,Rs_nil.mpr rfl⟩,Nat.le_refl _,by simpa [prL] using w⟩
  rintro n s' ⟨i,σ',H',m',st',ps,ds,hn,I',tni,fpn,x',rh',rf',Dm,hDl,rys,hly,k⟩
  have stat:∀ {H'':Hp},(∀b∈fp,H'' b=none)→∀b∈fp,ef (cxC X (nt++cn) s2 H2 fp scope C) [] H'' b:=fun hz b hb=>⟨hz b hb,(I'.ok.exf b hb).1,I'.ok.exfs b hb,.inl hb,(I'.ok.exf b hb).2,fun p hp=>absurd (show p∈([]:List (Addr × Obj)) from hp) (by simp)⟩
  cases q:xs.drop i with
  | nil =>
   rw [q] at k
   have hi:i=xs.length:=by
    have:=congrArg List.length q
    simp at this
    omega
   subst hi
   refine thn (T.done (cxC X (nt++cn) s2 H2 fp scope C) rfl rfl rfl hcalm _ [] s' σ' H' (fun _ _=>False) I' (stat fpn) tni (W.stop m' H' st' x' rh' k.1)) fun r s1 ⟨hr,I1⟩=>?_
   subst hr
   have IX:L2.Inv X pins σ H' s1:=I2.call' I1.os I1.base I1.hok I1.bare fun b hb=>⟨(f2 b hb).2.2.2.1,(f2 b hb).2.1,(f2 b hb).2.2.2.2.1,(f2 b hb).2.2.2.2.2⟩
   obtain ⟨mm,hns,_⟩:=I1.loc
   exact fin C D H' s1 mm IX hns (I2.fpOk (by rw [hD];exact Nat.le_of_lt ltDC) I1.free) (k.2 m' H' D ps ds rfl x' rh' Dm hDn hDl rys)
  | cons v rest =>
   rw [q] at k
   have hi:i<xs.length:=by
    have:=congrArg List.length q
    simp at this
    omega
   have ev:xs[i]?=some v:=by
    have:=congrArg List.head? q
    rw [List.head?_drop] at this
    exact this
   have er:rest=xs.drop (i+1):=by
    have:=congrArg List.tail q
    rw [List.tail_drop] at this
    exact this.symm
   subst er
   obtain ⟨kc,k⟩:=k
   obtain ⟨go,yl⟩:=W.item i v m' H' st' x' rh' kc ev
   refine thn (T.item (cxC X (nt++cn) s2 H2 fp scope C) rfl rfl rfl hcalm i [] s' σ' H' (fun _ _=>False) I' (stat fpn) tni go) fun r s4 ⟨u,hr,h4⟩=>?_
   subst hr
   refine thn h4 fun _ s5 ⟨x,H5,I5,r5,y5,tn5,fr5⟩=>?_
   obtain ⟨x5,rh5,rv5⟩:=yl x H5 y5
   have I5':=I5.pinned (stat fr5) (T.obj _ _ tn5)
   have again:∀ {σ7:L2.St} {H7:Hp} {s7:Shared} {m7:List Addr} {st7:AH} {ps7:List (Str × PV)} {ds7:List (Key × V)},L2.Inv (cxC X (nt++cn) s2 H2 fp scope C) ([]++fI fp s5.heap) σ7 H7 s7→Ext X.K m H2 m7 H7→RH X.K m7 H7 st7→RF X.K m7 H7 ρ0 σ7→D ∉ m7→H7 D=some (.dK ds7) →
     DRel X.K m7 H7 ps7 ds7→(bM ps7).length≤i+1→aG chk (b9 Γ kx vx tg ifs ρ0) (xs.drop (i+1)) (prL ps7) st7 (bC X.K m H2 Fin) →
     ∃n',n'<n∧∃(i:Nat),∃σ' H' m' st' ps ds,n'+i=xs.length∧L2.Inv (cxC X (nt++cn) s2 H2 fp scope C) [] σ' H' s7∧tn i s7.heap∧(∀b∈fp,H' b=none)∧Ext X.K m H2 m' H'∧RH X.K m' H' st'∧RF X.K m' H' ρ0 σ'∧D ∉ m'∧H' D=some (.dK ds)∧DRel X.K m' H' ps ds∧(bM ps).length≤i ∧
      aG chk (b9 Γ kx vx tg ifs ρ0) (xs.drop i) (prL ps) st' (bC X.K m H2 Fin):=fun {σ7 H7 s7 m7 st7 ps7 ds7} I7 g1 g2 g3 g4 g5 g6 g7 g8=>by
    refine ⟨n-1,by omega,i+1,σ7,H7,m7,st7,ps7,ds7,by omega,I7.unpinned,T.keep _ _ _ tn5 fun b hb o e=>(I7.pin (b,o) (List.mem_append_right _ (List.mem_append_right _ (bJ hb e)))).1,fun b hb=>?_,g1,g2,g3,g4,g5,g6,g7,g8⟩
    obtain ⟨o,e,d⟩:=T.obj _ _ tn5 b hb
    exact (I7.pin (b,o) (List.mem_append_right _ (List.mem_append_right _ (bJ hb e)))).2.1
   have k2:=fF (n:=nt.length) G tg hlow k
   refine thn (hG s2 H2 fp C _ s5 σ' H5 x u (fun σ6 H6=>∃m6 ρ1 st6,Ext X.K m' H5 m6 H6∧RH X.K m6 H6 st6∧RF X.K m6 H6 ρ1 σ6∧(∀j,nt.length≤j→ρ1[j]?=ρ0[j]?) ∧
    bN Γ ifs ρ1 st6 fun c st4=>if c=true then wpE Γ kx ρ1 st4 fun uu st5=>wpE Γ vx ρ1 st5 fun vv st8=>∃z,uu=.str z∧aG chk (b9 Γ kx vx tg ifs ρ0) (xs.drop (i+1)) (prL ps++[.tup [uu,vv]]) st8 (bC X.K m H2 Fin) else aG chk (b9 Γ kx vx tg ifs ρ0) (xs.drop (i+1)) (prL ps) st4 (bC X.K m H2 Fin)) I5' r5
    ⟨m',ρ0,st',v,rf'.mono x5,rh5,rv5,aq G tg (fun ρ1 st6 z m6 H6 σ6 x6 rh6 rf6=>⟨m6,ρ1,st6,x6,rh6,rf6,z.2,aB G ifs (fun c st4 zz=>by
     cases c with
     | true=>rw [if_pos rfl] at zz ⊢;exact zz
     | false=>rw [if_neg Bool.false_ne_true] at zz ⊢;simpa using zz) z.1⟩) k2⟩) fun _ s6 ⟨σ6,H6,I6,m6,ρ1,st6,x6,rh6,rf6,pr,w6⟩=>?_
   have hlen:ρ0.length=ρ1.length:=by rw [rf6.len,I6.len,rf'.len,I'.len]
   refine thn (hT s2 H2 fp C _ s6 σ6 H6 (fun b H7=>∃m7 st7,Ext X.K m6 H6 m7 H7∧RH X.K m7 H7 st7∧if b=true then wpE Γ kx ρ1 st7 fun uu st5=>wpE Γ vx ρ1 st5 fun vv st8=>∃z,uu=.str z∧aG chk (b9 Γ kx vx tg ifs ρ0) (xs.drop (i+1)) (prL ps++[.tup [uu,vv]]) st8 (bC X.K m H2 Fin) else aG chk (b9 Γ kx vx tg ifs ρ0) (xs.drop (i+1)) (prL ps) st7 (bC X.K m H2 Fin)) I6
    ⟨m6,ρ1,st6,rf6,rh6,aB G ifs (fun b st7 z m7 H7 x7 rh7=>⟨m7,st7,x7,rh7,z⟩) w6⟩) fun b s7 ⟨H7,I7,m7,st7,x7,rh7,w7⟩=>?_
   have xx7:Ext X.K m' H' m7 H7:=(x5.trans x6).trans x7
   cases b with
   | false =>
    rw [if_neg Bool.false_ne_true] at w7 ⊢
    refine again I7 (x'.trans xx7) rh7 ((rf6.mono x7).less hlen hρn pr) (fun z=>?_) (xx7.fr D _ Dm hDl fun _ z=>nomatch z) (rys.mono xx7) (by omega) w7
    rcases xx7.new D z with z|z
    ·exact Dm z
    ·rw [hDl] at z;cases z
   | true =>
    rw [if_pos rfl] at w7 ⊢
    refine thn (hK s2 H2 fp C _ s7 σ6 H7 (fun y H8=>∃m8 st8 uu,Ext X.K m7 H7 m8 H8∧RH X.K m8 H8 st8∧R X.K m8 H8 uu y∧wpE Γ vx ρ1 st8 fun vv st9=>∃z,uu=.str z∧aG chk (b9 Γ kx vx tg ifs ρ0) (xs.drop (i+1)) (prL ps++[.tup [uu,vv]]) st9 (bC X.K m H2 Fin)) I7
     ⟨m7,ρ1,st7,rf6.mono x7,rh7,aa G kx (fun uu st8 z m8 H8 y x8 rh8 r8=>⟨m8,st8,uu,x8,rh8,r8,z⟩) w7⟩) fun ux s8 ⟨kk,H8,I8,rk,m8,st8,uu,x8,rh8,r8,w8⟩=>?_
    refine thn (hE s2 H2 fp C _ s8 σ6 H8 (fun y H9=>∃m9 st9 vv z,Ext X.K m8 H8 m9 H9∧RH X.K m9 H9 st9∧R X.K m9 H9 vv y∧uu=.str z∧aG chk (b9 Γ kx vx tg ifs ρ0) (xs.drop (i+1)) (prL ps++[.tup [uu,vv]]) st9 (bC X.K m H2 Fin)) I8
     ⟨m8,ρ1,st8,(rf6.mono x7).mono x8,rh8,aa G vx (fun vv st9 z m9 H9 y x9 rh9 r9=>let ⟨zz,e9,k9⟩:=z;⟨m9,st9,vv,zz,x9,rh9,r9,e9,k9⟩) w8⟩) fun uy s9 ⟨y,H9,I9,ry,m9,st9,vv,z,x9,rh9,r9,ez,w9⟩=>?_
    subst ez
    rw [R_str] at r8
    subst r8
    have xx9:Ext X.K m' H' m9 H9:=(xx7.trans x8).trans x9
    have hD9:H9 D=some (.dK ds):=xx9.fr D _ Dm hDl fun _ z=>nomatch z
    have Dm9:D ∉ m9:=fun z=>by
     rcases xx9.new D z with z|z
     ·exact Dm z
     ·rw [hDl] at z;cases z
    have dl:ds.length=(bM ps).length:=by simpa using congrArg List.length rys.1
    refine oR (X:=cxC X (nt++cn) s2 H2 fp scope C) (k:=.inr z) I9 hD9 rk ry (dE (by omega)) fun s10 I10=>?_
    rw [gT] at w9
    have rr:=ml (k:=.inr z) r9 (rys.mono xx9).1 (rys.mono xx9).2
    have dr:DRel X.K m9 (upd H9 D (.dK (cy ds (.inr z) y))) (ps++[(z,vv)]) (cy ds (.inr z) y):=⟨by rw [d5];exact rr.1,by rw [d5];exact rr.2.mono0 (cN hD9) (cD hD9)⟩
    refine again I10 ((x'.trans xx9).awayD hDn hD9) (rh9.awayD Dm9 hD9) (((((rf6.mono x7).mono x8).mono x9).less hlen hρn pr).awayD hD9) Dm9 ai dr ?_ w9
    have:=so (kvs:=bM ps) (k:=.inr z) (v:=vv)
    rw [d5]
    omega
 exact codeAny_compStart_dict loop (T.self X.A 0 _ _ _ (T.keep 0 _ _ st2 fun b _ o e=>old b o e) loop)
end
end FW
set_option Elab.async false
set_option linter.all false
set_option maxRecDepth 100000
set_option maxHeartbeats 1000000
namespace FW
open PySem PySem.Spec PyProof.Rows L2 HX
theorem jE:typeLookup (.type "list") "keys"=pure none:=am_miss_of_fast (by kernel_rfl)
section
variable {prog:Program} {w:World} {A:Around} {E:Value→Shared→Prop} {s:Shared}
theorem tH {a:Addr} {xs:Array Value} {k:Nat} {sl:Array (Option Value)} {Q:Option Value→Shared→Prop} (hx:s.heap.get? a=some { cls:=.type "list",dict:=none,data:=.seq xs k,slots:=sl }) (hA:A.handled=none)
  (h:∀h' tk,(∀b ob,s.heap.get? b=some ob→h'.get? b=some ob)→Q none { s with heap:=h',toks:=tk }):wpAny (model prog w) A (getAttr? (.ref a) "keys") Q E s:=by
 obtain ⟨hp,g,d,tk,os⟩:=s
 have hT:∀tk',(⟨hp,g,d,tk',os⟩:Shared).TypeIs (.ref a) "list":=fun _=>⟨_,hx,rfl⟩
 have f1:=sub_AttributeError
 have f3:=F.slot_list_getattribute.lookup
 have f4:=F.slot_list_getattribute.bind (.ref a)
 have f5:=am_list_getattr_none
 unfold getAttr? getAttrBy? getAttrBy
 repeat (any_goals (first|assumption|exact hT _|((with_reducible show wpAny _ _ (call (Value.builtin "list.__getattribute__") _ _) _ _ _);refine call_meets F.slot_list_getattribute (hT _) am_entry_list_getattribute (F.args_list_getattribute_2 _ _) (meets_getattribute_miss_list a xs k sl "keys" _ jE (by decide +kernel) (by decide)) ⟨hx,hA,fun h' tk' e hx'=>?_⟩)|wp_step))
 obtain ⟨t',u',he⟩:=hx'.there
 show wpAny _ _ (getattributeRaised _ _ _ _ _ _ _) _ _ _
 unfold getattributeRaised
 repeat (any_goals (first|assumption|wp_step))
 exact h _ _ hx'.keeps
theorem kN:entryFor table "dict.update.loop"=some Builtin.«dict.update.loop»:=entryFor_of_tree (by kernel_rfl)
theorem eB:plainId "dict.update.loop"=true:=by decide +kernel
variable {R:Result→Shared→Prop}
noncomputable def mC (prog:Program) (w:World) (h:Heap) (v:Value) (p:Key × Value):Prop:=∃(t:Addr) (key:Value),v=.ref t∧h.IsTuple t #[key,p.2]∧(ak prog w).is p.1 key=true
noncomputable def eL:List (Key × Value)→List (Key × Value)→List (Key × Value)
 | d,[]=>d
 | d,p::r=>eL (stored d p.1 p.2) r
theorem mx {D it l:Addr} {items:Array Value} {ps:List (Key × Value)} {tD:(D == sysModules)=false} (hh:A.handled=none) (n1:D≠it) (n2:l≠D) (n3:l≠it) (hl:ps.length=items.size) (hz:items.size≤1000) :
  ∀(k i:Nat) (h:Heap) (tk:Nat) (kvs:List (Key × Value)),items.size-i=k→i≤items.size→kvs.length≤i→h.IsListIter it l i→h.IsList l items→h.DictOf (ak prog w) D kvs →
   (∀(j:Nat) v p,items[j]?=some v→ps[j]?=some p→mC prog w h v p)→(∀(j:Nat) (t:Addr),items[j]?=some (.ref t)→t≠D∧t≠it) →
   (∀h' tk',h'.DictOf (ak prog w) D (eL kvs (ps.drop i))→(∀b o,b≠D→b≠it→h.get? b=some o→h'.get? b=some o)→R (.ok (.ret .none)) { s with heap:=h',toks:=tk' }) →
   codeAny (model prog w) A (.builtin "dict.update.loop" ⟨[.ref D,.ref it,rawInt i,.none],[]⟩) R { s with heap:=h,toks:=tk }:=by
 intro k
 induction k with
 | zero =>
  intro i h tk kvs hk hi hle hit hli hd hp hne hR
  have hin:i=items.size:=by omega
  subst hin
  refine codeAny_builtin kN ?_
  rw [Around.under_plainId eB _]
  show wpAny _ A.in1 (pyNext (.ref it) >>= _) _ _ _
  refine wpAny_bind (wpAny_pyNext_list_end (s:={ s with heap:=h,toks:=tk }) hh hit hli (by simp) fun h' he=>?_)
  show wpAny _ A.in1 (Builtin.Dict.addKeywords D [] >>= _) _ _ _
  refine wpAny_bind (wpAny_pure (wpAny_pure ?_))
  refine hR h' tk ?_ fun b o _ hb e=>he b o hb e
  rw [List.drop_of_length_le (by omega)]
  exact hd.at fun o e=>he _ o n1 e
 | succ k ih =>
  intro i h tk kvs hk hi hle hit hli hd hp hne hR
  have hlt:i<items.size:=by omega
  have ei:items[i]?=some items[i]:=by simp [hlt]
  have ep:ps[i]?=some (ps[i]'(by omega)):=by simp [hl,hlt]
  obtain ⟨t,key,ev,ht,hkey⟩:=hp i _ _ ei ep
  generalize hpi:ps[i]'(by omega)=p at ep ht hkey
  refine codeAny_builtin kN ?_
  rw [Around.under_plainId eB _]
  show wpAny _ A.in1 (pyNext (.ref it) >>= _) _ _ _
  refine wpAny_bind (wpAny_pyNext_list_item (s:={ s with heap:=h,toks:=tk }) hit hli ei fun h1 hit1 sb=>?_)
  have ent:=hne i t (by rw [ei,ev])
  rw [ev]
  have ht1:h1.IsTuple t #[key,p.2]:=let ⟨o,e,r⟩:=ht;⟨o,sb.extBut t o ent.2 e,r⟩
  show wpAny _ A.in1 (holding [Value.ref t] _ >>= _) _ _ _
  refine wpAny_bind (wpAny_holding ?_)
  show wpAny _ A.in1 (tryCatch (Builtin.Dict.pairItems (.ref t)) _ >>= _) _ _ _
  refine wpAny_bind (wpAny_tryCatch ?_)
  unfold Builtin.Dict.pairItems
  obtain ⟨o,eo,ec,nn,edt⟩:=id ht1
  refine wpAny_bind (wpAny_typeOf (T:="tuple") ⟨o,eo,ec⟩ ?_)
  rw [if_pos (by decide)]
  refine wpAny_bind (wpAny_seqItems eo edt (wpAny_pure ?_))
  show wpAny _ A.in1 (holding [key,p.2] (dictSet D key p.2)) _ _ _
  have hd1:h1.DictOf (ak prog w) D kvs:=hd.at fun o e=>sb.extBut _ o n1 e
  refine wpAny_holding (wpAny_dictSet_pairs (s:={ s with heap:=h1,toks:=tk }) (hsz:=Nat.le_of_lt (dE (by omega))) hkey hd1 fun h2 hd2 sb2=>?_)
  refine wpAny_pure ⟨plainId_quiet eB _,?_⟩
  have keep:∀b o,b≠D→b≠it→h.get? b=some o→h2.get? b=some o:=fun b o hb hb2 e=>sb2.extBut b o hb (sb.extBut b o hb2 e)
  have hc:((i:Int)+1)=((i+1:Nat):Int):=by push_cast;rfl
  show codeAny _ A (.builtin "dict.update.loop" ⟨[.ref D,.ref it,rawInt ((i:Int)+1),.none],[]⟩) R _
  rw [hc]
  refine ih (i+1) h2 (tk+1) (stored kvs p.1 p.2) (by omega) hlt ?_ (hit1.at fun o e=>sb2.extBut _ o (Ne.symm n1) e) (hli.at fun o e=>keep l o n2 n3 e) hd2 (fun j v q e1 e2=>?_) hne fun h' tk' hd' kk=>?_
  ·have:=stored_length_le kvs p.1 p.2
   omega
  ·obtain ⟨u,key',rfl,⟨ou,eu,ru⟩,hk'⟩:=hp j v q e1 e2
   have nn:=hne j u e1
   exact ⟨u,key',rfl,⟨ou,keep u ou nn.1 nn.2 eu,ru⟩,hk'⟩
  ·refine hR h' tk' ?_ fun b o hb hb2 e=>kk b o hb hb2 (keep b o hb hb2 e)
   rw [List.drop_eq_getElem_cons (by omega:i<ps.length),hpi]
   exact hd'
end
end FW
set_option Elab.async false
set_option linter.all false
set_option maxRecDepth 100000
set_option maxHeartbeats 1000000
namespace FW
open PySem PySem.Spec PyProof.Rows L2 HX
section
variable {prog:Program} {w:World} {A:Around} {E:Value→Shared→Prop} {s:Shared}
theorem lC {l:Addr} {items:Array Value} {k:Nat} {ps:List (Key × Value)} {Q:Value→Shared→Prop} (hh:A.handled=none) (hbig:sysModules<s.heap.objs.size) (hx:s.heap.get? l=some { cls:=.type "list",data:=.seq items k }) (hl:ps.length=items.size) (hz:items.size≤1000)
  (hp:∀(j:Nat) v p,items[j]?=some v→ps[j]?=some p→mC prog w s.heap v p)
  (h:∀h' tk,h'.DictOf (ak prog w) s.heap.objs.size (eL [] ps)→(∀b o,s.heap.get? b=some o→h'.get? b=some o)→Q (.ref s.heap.objs.size) { s with heap:=h',toks:=tk }) :
  wpAny (model prog w) A (call (.type "dict") [.ref l]) Q E s:=by
 refine callType_codes (Q₁:=fun obj s₁=>obj=.ref s.heap.objs.size∧s₁={ s with heap:=s.heap.push { cls:=.type "dict",data:=.dict #[] } }) F.kt_called_dict (F.kt_typeCall_dict_1 _) F.entry_dict_init (kt_code_dict_new _ ⟨rfl,rfl⟩) ?_
 rintro obj s₁ ⟨rfl,rfl⟩
 have hnew:(s.heap.push { cls:=.type "dict",data:=.dict #[] }).DictOf (ak prog w) s.heap.objs.size []:=Heap.DictOf.new s.heap
 have hx':=Heap.get?_push_of_some { cls:=.type "dict",data:=.dict #[] } hx
 generalize hD:s.heap.objs.size=D at *
 have hlD:l<D:=hD ▸ Heap.lt_size hx
 generalize hP:s.heap.push { cls:=.type "dict",data:=.dict #[] }=P at *
 have old:∀b o,s.heap.get? b=some o→P.get? b=some o:=fun b o e=>hP ▸ Heap.get?_push_of_some _ e
 refine ⟨hnew.typeIs,F.args_dict_init_2 _ _,?_⟩
 unfold Builtin.«dict.__init__»
 refine wpAny_bind ?_
 unfold Builtin.Dict.selfAndRest
 refine wpAny_bind (wpAny_notOrdered_dict hnew.typeIs ?_)
 show wpAny _ _ (pure (D,[Value.ref l])) _ _ _
 refine wpAny_pure ?_
 show wpAny _ _ (Builtin.Dict.updateFrom "dict.__init__" D (.ref l) [] .none) _ _ _
 unfold Builtin.Dict.updateFrom
 refine wpAny_bind (wpAny_typeOf (T:="list") ⟨_,hx',rfl⟩ ?_)
 rw [if_pos (by decide)]
 refine wpAny_bind (tH hx' hh fun h1 tk1 k1=>?_)
 show wpAny _ _ (rule _ >>= _) _ _ _
 refine wpAny_bind (wpAny_rule ?_)
 have hl1:h1.IsList l items:=⟨_,k1 _ _ hx',rfl,_,rfl⟩
 refine wpAny_bind (wpAny_pyIter_list (s:={ s with heap:=h1,toks:=tk1 }) hl1 ?_)
 refine wpAny_pure ⟨plainId_quiet eB _,?_⟩
 have hD1:h1.DictOf (ak prog w) D []:=hnew.at fun o e=>k1 _ o e
 have lt1:D<h1.objs.size:=let ⟨o,_,_,e,_⟩:=hD1;Heap.lt_size e
 refine mx (s:=s) (A:=A.in1) (tD:=by simpa using Nat.ne_of_gt hbig) hh (Nat.ne_of_lt lt1) (Nat.ne_of_lt hlD) (Nat.ne_of_lt (Nat.lt_trans hlD lt1)) hl hz items.size 0 _ tk1 [] (by omega) (Nat.zero_le _) (Nat.le_refl _) ⟨_,Heap.get?_push_size _ rfl,rfl,rfl⟩ ⟨_,Heap.get?_push_of_some _ (k1 _ _ hx'),rfl,_,rfl⟩ (hD1.at fun o e=>Heap.get?_push_of_some _ e) (fun j v p e1 e2=>?_) (fun j t e1=>?_) fun h' tk' hd' kk=>?_
 ·obtain ⟨t,key,e3,⟨o,e4,r⟩,e5⟩:=hp j v p e1 e2
  exact ⟨t,key,e3,⟨o,Heap.get?_push_of_some _ (k1 _ _ (old _ _ e4)),r⟩,e5⟩
 ·have hj:j<ps.length:=by rw [hl];exact (Array.getElem?_eq_some_iff.mp e1).1
  obtain ⟨t',key,e3,⟨o,e4,r⟩,e5⟩:=hp j _ ps[j] e1 (by simp [hj])
  cases e3
  have:t<D:=hD ▸ Heap.lt_size e4
  exact ⟨Nat.ne_of_lt this,Nat.ne_of_lt (Nat.lt_trans this lt1)⟩
 ·refine ⟨rfl,h h' tk' (by simpa using hd') fun b o e=>kk b o (Nat.ne_of_lt (hD ▸ Heap.lt_size e)) (Nat.ne_of_lt (Nat.lt_trans (hD ▸ Heap.lt_size e) lt1)) (Heap.get?_push_of_some _ (k1 _ _ (old _ _ e)))⟩
end
noncomputable def eZ:List (Key × V)→List (Key × V)→List (Key × V)
 | d,[]=>d
 | d,p::r=>eZ (cy d p.1 p.2) r
theorem mM:∀ {ps:List (Key × V)} {qs:List (Key × Value)} {d:List (Key × V)} {d':List (Key × Value)},KV ps qs→KV d d'→KV (eZ d ps) (eL d' qs)
 | [],_,_,_,.nil,h=>h
 | p::ps,_,d,d',.cons (b:=q) f t,h=>by
  show KV (eZ (cy d p.1 p.2) ps) (eL (stored d' q.1 q.2) _)
  exact mM t (by rw [←f.1];exact KV.put h _ f.2)
theorem jk:∀ {ps d:List (Key × V)},(eZ d ps).length≤d.length+ps.length
 | [],d=>by simp [eZ]
 | p::r,d=>by
  have:=jk (ps:=r) (d:=cy d p.1 p.2)
  have:=ck d p.1 p.2
  simp only [eZ,List.length_cons]
  omega
section
variable {X:Cx} {c:Cfg} {Γ:Nat→FSp}
noncomputable def lI (K:PySem.W.Frag) (H:Hp):List V→List (Key × V)→Prop:=Paired fun (z:V) (p:Key × V)=>∃t,z=.ref t∧SqT K H t [kV p.1,p.2]
theorem jp {pins:List (Addr × Obj)} {σ:L2.St} {H:Hp} {s:Shared} (I:L2.Inv X pins σ H s):∀ {zs:List V} {ps:List (Key × V)} {its:List Value},lI X.K H zs ps→Vals zs its→∃qs,KV ps qs∧Paired (fun v q=>mC X.prog X.w s.heap v q) its qs
 | _,_,_,.nil,.nil=>⟨[],.nil,.nil⟩
 | _,_,_,.cons f t,.cons r rr=>by
  obtain ⟨qs,h1,h2⟩:=jp I t rr
  obtain ⟨a,rfl,g⟩:=f
  cases r
  obtain ⟨us,rv,p,_⟩:=I.tuple g
  cases rv with
  | cons r1 rv =>
   cases rv with
   | cons r2 rv =>
    cases rv
    rename_i u1 u2
    exact ⟨(_,u2)::qs,.cons ⟨rfl,r2⟩ h1,.cons ⟨a,u1,rfl,p,hJ r1⟩ h2⟩
theorem qu {α β:Type} {F:α→β→Prop}:∀ {l:List α} {r:List β} {j:Nat} {a:α} {b:β},Paired F l r→l[j]?=some a→r[j]?=some b→F a b
 | _,_,j,a,b,.nil,e,_=>by simp at e
 | _,_,0,a,b,.cons f t,e,e2=>by simp at e e2;subst e e2;exact f
 | _,_,j+1,a,b,.cons f t,e,e2=>qu t (by simpa using e) (by simpa using e2)
theorem mE (hcalm:X.calm=true):bR X (.type "dict") (fun xs H Q=>∃p zs ps,xs=[V.ref p]∧H p=some (.lst zs)∧lI X.K H zs ps∧zs.length<1000∧∀a,H a=none→Q (.ref a) (upd H a (.dK (eZ [] ps)))):=by
 rintro pins s σ H xs us Q I r ⟨p,zs,ps,rfl,hp,hq,hn,q⟩
 obtain ⟨u,rfl,ru⟩:=dh r
 cases ru
 obtain ⟨zz,its,n,ri,hl,e⟩:=I.lstM hp
 obtain ⟨qs,k1,k2⟩:=jp I hq ri
 have l1:zs.length=its.length:=ri.length
 have l2:its.length=qs.length:=k2.length
 have l3:ps.length=qs.length:=k1.length
 have hbig:sysModules<s.heap.objs.size:=L2.Inv.big I
 refine lC (ps:=qs) (I.ok.hd hcalm) hbig e (by simp;omega) (by simp;omega) (fun j v p e1 e2=>qu k2 (by simpa using e1) e2) fun h' tk hd kk=>?_
 refine ⟨.ref s.heap.objs.size,_,I.laid (t':=tk) (fun b u e=>kk b u e) (Nat.le_refl _) (gP ?_ ?_ (mM k1 .nil) hd),rfl,q _ (I.hok.fresh (Nat.le_refl _))⟩
 ·have:=jk (ps:=ps) (d:=[])
  simp at this
  exact Nat.le_of_lt (dE (by omega))
 ·simpa using Nat.ne_of_gt hbig
theorem i4 {K:PySem.W.Frag} {m:List Addr} {H:Hp}:∀ {ps:List (Str × PV)} {zs:List V} {d:List (Key × PV)} {d':List (Key × V)},Rs K m H (prL ps) zs→d'.map (·.1)=d.map (·.1)→Rs K m H (d.map (·.2)) (d'.map (·.2)) →
  ∃qs,lI K H zs qs∧(eZ d' qs).map (·.1)=(ps.foldl (fun d p=>dc d (.inr p.1) p.2) d).map (·.1)∧Rs K m H ((ps.foldl (fun d p=>dc d (.inr p.1) p.2) d).map (·.2)) ((eZ d' qs).map (·.2))
 | [],zs,d,d',r,e1,e2=>by
  have:zs=[]:=by rw [show prL []=[] from rfl,Rs_nil] at r;exact r
  subst this
  exact ⟨[],.nil,e1,e2⟩
 | p::ps,zs,d,d',r,e1,e2=>by
  rw [show prL (p::ps)=.tup [.str p.1,p.2]::prL ps from rfl,Rs_cons] at r
  obtain ⟨y,zs,rfl,r1,r⟩:=r
  rw [R_tup] at r1
  obtain ⟨a,ys,rfl,g,r1⟩:=r1
  rw [Rs_cons] at r1
  obtain ⟨y1,ys,rfl,r2,r1⟩:=r1
  rw [Rs_cons] at r1
  obtain ⟨y2,ys,rfl,r3,r1⟩:=r1
  rw [Rs_nil] at r1
  rw [R_str] at r2
  subst r1 r2
  have pp:=ml (k:=.inr p.1) r3 e1 e2
  obtain ⟨qs,h1,h2,h3⟩:=i4 r pp.1 pp.2
  exact ⟨(.inr p.1,y2)::qs,.cons ⟨a,rfl,g⟩ h1,h2,h3⟩
theorem wz (C:COk X c Γ) {y:Str} {u:Expr} {p p2:Pos} {a:E} (h1:y="dict") (h2:c.blt y=true) (h6:ae u=true) (ha:PE X u (TEx X.K (wpE Γ a))):PE X (.Call (.Name y p2) [u] [] p) (TEx X.K (wpE Γ (.dcl a))):=by
 obtain ⟨a1,a2,a3,a4⟩:=C.bltx h2
 have v1:bootBuiltins y=some (.type "dict"):=by rw [h1];decide +kernel
 intro pins s σ H Q I h
 refine em (pos:=p) (p:=p2) (mE C.calm) a1 a4 v1 (pac ha dn h6) a3 a2 h6 rfl pins s σ H Q I ?_
 obtain ⟨m,ρ,st,rf,rh,w⟩:=h
 refine ⟨m,ρ,st,rf,rh,aa C.mono a (fun v st1 k m1 H1 x1 e1 r1 r2=>?_) w⟩
 obtain ⟨n,rfl,ps,h1,hn,k⟩:=k
 obtain ⟨b,ys,rfl,eb,g,ry⟩:=r1.lst h1 r2
 obtain ⟨qs,q1,q2,q3⟩:=i4 (d:=[]) (d':=[]) ry rfl (Rs_nil.mpr rfl)
 have hl:ys.length=ps.length:=by rw [←ry.len];simp [prL]
 refine ⟨b,ys,qs,rfl,g,q1,by omega,fun q hq=>?_⟩
 exact k _ _ _ (e1.trans (Ext.new1 r1 hq)) (r1.new1 hq ⟨_,ai,q2,q3.mono (Ext.new1 r1 hq)⟩) (R.last r1.len)
end
end FW
set_option Elab.async false
set_option linter.all false
set_option maxRecDepth 100000
set_option maxHeartbeats 1000000
namespace FW
open PySem PySem.Spec PyProof.Rows L2 HX
noncomputable def EqW (prog:Program) (w:World) (A:Around) (s:Shared) (y x:Value):Prop:=∀(E:Value→Shared→Prop) (Q:Bool→Shared→Prop),Q true s→wpAny (model prog w) A (eqBool y x) Q E s
section
variable {prog:Program} {w:World}
theorem mt (p q:Addr) (us vs:Array Value) (op op2:Obj) (c1:op.cls=.type "tuple") (c2:op2.cls=.type "tuple") (k1 k2:Nat) (d1:op.data=.seq us k1) (d2:op2.data=.seq vs k2) (hn:us.size=vs.size) :
  MeetsIn prog w (Builtin.«tuple.__ne__» ⟨[.ref p,.ref q],[]⟩) (fun A R s=>s.heap.get? p=some op∧s.heap.get? q=some op2∧(∀j (h1:j<us.size) (h2:j<vs.size),EqW prog w A.in1 s us[j] vs[j])∧R (.ok (.ret (.bool false))) s) :=
 .of_wp fun A R s h=>by
  obtain ⟨cl,dd,dt,sl⟩:=op
  obtain ⟨cl2,dd2,dt2,sl2⟩:=op2
  simp only at c1 c2 d1 d2
  subst c1 c2 d1 d2
  obtain ⟨hp,g,dr,tk,os⟩:=s;obtain ⟨hl,hb,he,hR⟩:=h
  have f2:=AutoSeq1.sub_tuple_tuple
  have hZ:(us.toList.zip vs.toList).length=us.size:=by simp [hn]
  wp_walk using AutoSeq1.wpAny_loadPart' hl,AutoSeq1.wpAny_loadPart' hb,wpAny_forIn_list _ (fun left b s'=>b.1=none∧s'=⟨hp,g,dr,tk,os⟩∧∃i,left=(us.toList.zip vs.toList).drop i) _
  case turn =>
   rintro ⟨y,x⟩ left b s' ⟨hb',rfl,i,hz⟩
   have hlt:i<(us.toList.zip vs.toList).length:=by
    rcases Nat.lt_or_ge i (us.toList.zip vs.toList).length with h' | h'
    ·exact h'
    ·rw [List.drop_of_length_le h'] at hz;cases hz
   have h1:i<us.size:=by omega
   have h2:i<vs.size:=by omega
   rw [List.drop_eq_getElem_cons hlt] at hz
   injection hz with hyx hleft
   have hy:y=us[i]:=by have:=congrArg Prod.fst hyx;simpa using this
   have hx:x=vs[i]:=by have:=congrArg Prod.snd hyx;simpa using this
   subst hy hx
   refine wpAny_bind (he i h1 h2 _ _ ?_)
   wp_walk
   exact ⟨rfl,rfl,i+1,hleft⟩
  case fin =>
   rintro ⟨b1,b2⟩ s' ⟨hb',rfl,i,hz⟩
   simp only at hb'
   subst hb'
   wp_walk
   exact ⟨_,rfl,by simpa [Builtin.Tuple.tupleCompareSizes,bne,hn] using hR⟩
  case h=>exact ⟨rfl,rfl,0,rfl⟩
theorem lS (p q:Addr) (us vs:Array Value) (op op2:Obj) (c1:op.cls=.type "tuple") (c2:op2.cls=.type "tuple") (k1 k2:Nat) (d1:op.data=.seq us k1) (d2:op2.data=.seq vs k2) (hn:us.size=vs.size) :
  MeetsIn prog w (Builtin.«tuple.__eq__» ⟨[.ref p,.ref q],[]⟩) (fun A R s=>s.heap.get? p=some op∧s.heap.get? q=some op2∧(∀j (h1:j<us.size) (h2:j<vs.size),EqW prog w A.in1 s us[j] vs[j])∧R (.ok (.ret (.bool true))) s) :=
 .of_wp fun A R s h=>by
  obtain ⟨cl,dd,dt,sl⟩:=op
  obtain ⟨cl2,dd2,dt2,sl2⟩:=op2
  simp only at c1 c2 d1 d2
  subst c1 c2 d1 d2
  obtain ⟨hp,g,dr,tk,os⟩:=s;obtain ⟨hl,hb,he,hR⟩:=h
  have f2:=AutoSeq1.sub_tuple_tuple
  have hZ:(us.toList.zip vs.toList).length=us.size:=by simp [hn]
  wp_walk using AutoSeq1.wpAny_loadPart' hl,AutoSeq1.wpAny_loadPart' hb,wpAny_forIn_list _ (fun left b s'=>b.1=none∧s'=⟨hp,g,dr,tk,os⟩∧∃i,left=(us.toList.zip vs.toList).drop i) _
  case turn =>
   rintro ⟨y,x⟩ left b s' ⟨hb',rfl,i,hz⟩
   have hlt:i<(us.toList.zip vs.toList).length:=by
    rcases Nat.lt_or_ge i (us.toList.zip vs.toList).length with h' | h'
    ·exact h'
    ·rw [List.drop_of_length_le h'] at hz;cases hz
   have h1:i<us.size:=by omega
   have h2:i<vs.size:=by omega
   rw [List.drop_eq_getElem_cons hlt] at hz
   injection hz with hyx hleft
   have hy:y=us[i]:=by have:=congrArg Prod.fst hyx;simpa using this
   have hx:x=vs[i]:=by have:=congrArg Prod.snd hyx;simpa using this
   subst hy hx
   refine wpAny_bind (he i h1 h2 _ _ ?_)
   wp_walk
   exact ⟨rfl,rfl,i+1,hleft⟩
  case fin =>
   rintro ⟨b1,b2⟩ s' ⟨hb',rfl,i,hz⟩
   simp only at hb'
   subst hb'
   wp_walk
   exact ⟨_,rfl,by simpa [Builtin.Tuple.tupleCompareSizes,bne,hn] using hR⟩
  case h=>exact ⟨rfl,rfl,0,rfl⟩
variable {A:Around} {E:Value→Shared→Prop} {s:Shared}
noncomputable def opB (ne:Bool):CmpOp:=if ne then .NotEq else .Eq
theorem sj {ne:Bool} {p q:Addr} {us vs:Array Value} {Q:Value→Shared→Prop} (hp:s.heap.IsTuple p us) (hq:s.heap.IsTuple q vs) (hn:us.size=vs.size) (hu:A.units<cLine) (he:∀j (h1:j<us.size) (h2:j<vs.size),EqW prog w A.in1 s us[j] vs[j]) (h:Q (.bool (!ne)) s) :
  wpAny (model prog w) A (compareOp (opB ne) (.ref p) (.ref q)) Q E s:=by
 obtain ⟨o1,ho,hc,n,hd⟩:=id hp
 obtain ⟨o2,ho2,hc2,n2,hd2⟩:=id hq
 cases ne with
 | true=>exact wpAny_richCompare_same_room (op:=.NotEq) ⟨_,ho,hc⟩ ⟨_,ho2,hc2⟩ F.slot_tuple_ne (call_meetsIn F.slot_tuple_ne ⟨_,ho,hc⟩ F.entry_tuple_ne (F.args_tuple_ne_2 _ _) (mt p q us vs o1 o2 hc hc2 n n2 hd hd2 hn) ⟨ho,ho2,he,⟨(fun x=>nomatch x),h⟩⟩) hu
 | false=>exact wpAny_richCompare_same_room (op:=.Eq) ⟨_,ho,hc⟩ ⟨_,ho2,hc2⟩ F.slot_tuple_eq (call_meetsIn F.slot_tuple_eq ⟨_,ho,hc⟩ F.entry_tuple_eq (F.args_tuple_eq_2 _ _) (lS p q us vs o1 o2 hc hc2 n n2 hd hd2 hn) ⟨ho,ho2,he,⟨(fun x=>nomatch x),h⟩⟩) hu
end
section
variable {X:Cx} {pins:List (Addr × Obj)} {σ:L2.St} {H:Hp} {s:Shared} {m:List Addr} {st:AH}
theorem kO {v:PV} {d:PyData} (h:v.toD=some d):p7 st v=some d:=by
 cases v with
 | ref n=>rw [PV.toD] at h;cases h
 | _=>exact h
theorem j2 {A:Around} (hu:A.units+64<cLine) (I:L2.Inv X pins σ H s) (rh:RH X.K m H st) {x y:PV} {x' y':V} {u v:Value} (h:kE x y) (rx:R X.K m H x x') (ry:R X.K m H y y') (ru:L2.RelV x' u) (rv:L2.RelV y' v):SeqAt.EqAt A s u v true:=by
 obtain ⟨rfl,d,h1,h2⟩:=h
 obtain ⟨as,ra⟩:=Den.reads I d x' u (cL rh rx (kO h1)) ru
 obtain ⟨bs,rb⟩:=Den.reads I d y' v (cL rh ry (kO h1)) rv
 have:=SeqAt.eqAt_reads d d A s u v as bs ra rb (SeqAt.canLay_of_shaped h2) (SeqAt.canLay_of_shaped h2) (SeqAt.room_of_shaped h2 hu)
 rw [SeqAt.eqv_refl d (SeqAt.canLay_of_shaped h2)] at this
 exact this
theorem nb {A:Around} {kb:List (Key × Value)}:∀ {ka:List (Key × Value)},(∀p∈ka,∃y,valueAt kb p.1=some y∧SeqAt.EqAt A s p.2 y true)→PySem.W.KeqHits A s kb ka true
 | [],_=>.nil
 | (k,v)::r,h=>by
  obtain ⟨y,e1,e2⟩:=h (k,v) List.mem_cons_self
  exact .hit e1 e2 (nb fun p hp=>h p (List.mem_cons_of_mem _ hp))
theorem iM {A:Around} {E:Value→Shared→Prop} (hu:A.units+80<cLine) (I:L2.Inv X pins σ H s) (rh:RH X.K m H st) {n k:Nat} {kvs lvs:List (Key × PV)} {x' y':V} {u v:Value} (h1:st[n]?=some (.dk kvs)) (h2:st[k]?=some (.dk lvs)) (hl:kvs.length=lvs.length) (hp:∀p∈kvs,∃u,cX lvs p.1=some u∧kE p.2 u)
  (rx:R X.K m H (.ref n) x') (ry:R X.K m H (.ref k) y') (ru:L2.RelV x' u) (rv:L2.RelV y' v):∃a b,u=.ref a∧v=.ref b∧∀(ne:Bool) (Q:Value→Shared→Prop),Q (.bool (!ne)) s→wpAny (model X.prog X.w) A (compareOp (opB ne) u v) Q E s:=by
 obtain ⟨a,ys,rfl,_,g1,r1,r2⟩:=rh.dkat h1 rx
 obtain ⟨b,zs,rfl,_,g2,r3,r4⟩:=rh.dkat h2 ry
 cases ru
 cases rv
 obtain ⟨z1,d1,vs,rel1,dd1⟩:=fW I.hok g1
 obtain ⟨z2,d2,ws,rel2,dd2⟩:=fW I.hok g2
 refine ⟨a,b,rfl,rfl,fun ne Q q=>?_⟩
 have e1:ys.length=kvs.length:=by simpa using congrArg List.length r1
 have e2:zs.length=lvs.length:=by simpa using congrArg List.length r3
 have l1:=rel1.length
 have l2:=rel2.length
 have lab:vs.length=ws.length:=by omega
 have hits:PySem.W.KeqHits A.in1 s ws vs true:=nb fun p hm=>by
  obtain ⟨i,hi⟩:=List.mem_iff_getElem?.mp hm
  have hy:i<ys.length:=by have:=(List.getElem?_eq_some_iff.mp hi).1;omega
  obtain ⟨w',w1,w2,w3⟩:=KV.at rel1 (show ys[i]?=some ys[i] by simp [hy])
  rw [hi] at w1
  cases w1
  obtain ⟨q',q1,q2,q3⟩:=gw r1 r2 (show ys[i]?=some ys[i] by simp [hy])
  obtain ⟨u,u1,u2⟩:=hp q' (List.mem_of_getElem? q1)
  obtain ⟨u',t1,t2⟩:=(jt r3 r4).1 _ u1
  rw [q2,w2] at t1
  obtain ⟨y,y1,y2⟩:=RelO.some_of (v:=u') (o:=valueAt ws p.1) (by rw [←t1];exact rel2.val p.1)
  exact ⟨y,y1,j2 (A:=A.in1) (by show A.units+1+64<cLine;omega) I rh u2 q3 t2 w3 y2⟩
 have fin:(vs.length == ws.length && true)=true:=by simp [lab]
 cases ne with
 | true=>exact PySem.W.keq_ne (knd:=ak X.prog X.w) d1 d2 dd1 dd2 (by omega) (fun _=>hits) (by rw [fin];exact q)
 | false=>exact PySem.W.keq_eq (knd:=ak X.prog X.w) d1 d2 dd1 dd2 (by omega) (fun _=>hits) (by rw [fin];exact q)
theorem rg {A:Around} (hu:A.units+80<cLine) (I:L2.Inv X pins σ H s) (rh:RH X.K m H st) {x y:PV} {x' y':V} {u v:Value} (h:np st x y) (rx:R X.K m H x x') (ry:R X.K m H y y') (ru:L2.RelV x' u) (rv:L2.RelV y' v):EqW X.prog X.w A s u v:=by
 rcases h with h|⟨n,k,kvs,lvs,rfl,rfl,h1,h2,h3,h4⟩
 ·exact fun E Q q=>j2 (by omega) I rh h rx ry ru rv X.prog X.w E Q q
 ·intro E Q q
  obtain ⟨a,b,rfl,rfl,hc⟩:=iM (A:=A) (E:=E) hu I rh h1 h2 h3 h4 rx ry ru rv
  by_cases hab:a=b
  ·subst hab
   exact SeqAt.EqAt.same (A:=A) (s:=s) (.ref a) X.prog X.w E Q q
  ·unfold eqBool
   refine wpAny_holding ?_
   refine wpAny_ite_split (fun hx=>absurd (by have:=eq_of_beq hx;injection this) hab) (fun _=>?_)
   exact wpAny_bind (hc false _ (wpAny_truthy_bool q))
theorem iN {A:Around} (hu:A.units+80<cLine) (I:L2.Inv X pins σ H s) (rh:RH X.K m H st):∀ {xs ys:List PV} {xs' ys':List V} {us vs:List Value},ms st xs ys→Rs X.K m H xs xs'→Rs X.K m H ys ys'→Vals xs' us→Vals ys' vs→us.length=vs.length∧∀j (h1:j<us.length) (h2:j<vs.length),EqW X.prog X.w A s us[j] vs[j]
 | [],[],xs',ys',us,vs,_,rx,ry,ru,rv=>by
  rw [Rs_nil] at rx ry
  subst rx ry
  cases ru
  cases rv
  exact ⟨rfl,fun j h1 _=>absurd h1 (Nat.not_lt_zero _)⟩
 | x::xs,y::ys,xs',ys',us,vs,h,rx,ry,ru,rv=>by
  rw [Rs_cons] at rx ry
  obtain ⟨a,r,rfl,rx1,rx⟩:=rx
  obtain ⟨b,q,rfl,ry1,ry⟩:=ry
  cases ru with
  | cons ru1 ru =>
   cases rv with
   | cons rv1 rv =>
    obtain ⟨i1,i2⟩:=iN hu I rh h.2 rx ry ru rv
    refine ⟨by simp [i1],fun j h1 h2=>?_⟩
    cases j with
    | zero=>exact rg hu I rh h.1 rx1 ry1 ru1 rv1
    | succ j=>exact i2 j (by simpa using h1) (by simpa using h2)
 | [],y::ys,_,_,_,_,h,_,_,_,_=>h.elim
 | x::xs,[],_,_,_,_,h,_,_,_,_=>h.elim
end
theorem qI {X:Cx} (hu:X.A.units+100<cLine) (ne:Bool):OpR X (compareOp (opB ne)) (rY X.K fun x y st Q=>gX st x y∧Q (.bl (!ne)) st):=by
 intro pins s σ H x' y' v u Q I rx ry h
 obtain ⟨m,st,x,y,rh,hx,hy,hs,w⟩:=h
 have fin:EP X pins σ Q (.bool (!ne)) s:=⟨.bl (!ne),H,I,rfl,w.here rh (R_bl.mpr rfl)⟩
 rcases hs with ⟨xs,ys,rfl,rfl,hs⟩|⟨n,k,rfl,rfl,hs⟩
 ·rw [R_tup] at hx hy
  obtain ⟨a,xs',rfl,g1,r1⟩:=hx
  obtain ⟨b,ys',rfl,g2,r2⟩:=hy
  cases rx
  cases ry
  obtain ⟨us,ru,p1,_⟩:=I.tuple g1
  obtain ⟨vs,rv,p2,_⟩:=I.tuple g2
  obtain ⟨i1,i2⟩:=iN (A:=X.A.in1) (by show X.A.units+1+80<cLine;omega) I rh hs r1 r2 ru rv
  exact sj (us:=us.toArray) (vs:=vs.toArray) p1 p2 (by simp [i1]) (by omega) (fun j h1 h2=>by simpa using i2 j (by simpa using h1) (by simpa using h2)) fin
 ·rcases hs with h|⟨n',k',kvs,lvs,e1,e2,h1,h2,h3,h4⟩
  ·obtain ⟨_,d,h1,_⟩:=h
   rw [PV.toD] at h1
   cases h1
  ·cases e1
   cases e2
   obtain ⟨a,b,rfl,rfl,hc⟩:=iM (A:=X.A) (E:=X.xe) (by omega) I rh h1 h2 h3 h4 hx hy rx ry
   exact hc ne _ fin
end FW
set_option Elab.async false
set_option linter.all false
set_option maxRecDepth 100000
set_option maxHeartbeats 1000000
namespace FW
open PySem PySem.Spec PyProof.Rows L2 HX
section
variable {Γ:Nat→FSp}
theorem d_ (G:aV Γ) {elt:E} {tg:Tg} {ifs:Es} {ρ:Fr} {x:PV} {st:AH} {k k':Option PV→AH→Prop} (hk:∀o st,k o st→k' o st) (q:bV Γ elt tg ifs ρ x st k):bV Γ elt tg ifs ρ x st k' :=
 aq G tg (fun ρ' st3 w=>aB G ifs (fun c st4 w=>by
  cases c with
  | true=>rw [if_pos rfl] at w ⊢;exact aa G elt (fun v st5 w=>hk _ _ w) w
  | false=>rw [if_neg Bool.false_ne_true] at w ⊢;exact hk _ _ w) w) q
theorem Ext.addD {K:PySem.W.Frag} {m m2:List Addr} {H H2:Hp} {D:Addr} (x:Ext K m H m2 H2) (h0:H D=none):Ext K m H (m2++[D]) H2:=by
 refine ⟨x.pre.trans (List.prefix_append _ _),fun a ha=>?_,x.fr,x.tup,x.rdf,x.tbs,x.tb,x.frz⟩
 rcases List.mem_append.mp ha with z|z
 ·exact x.new a z
 ·rw [List.mem_singleton] at z
  subst z
  exact .inr h0
theorem RH.addD {K:PySem.W.Frag} {m:List Addr} {H:Hp} {st:AH} {D:Addr} {vs:List PV} {ys:List V} (h:RH K m H st) (Dm:D ∉ m) (hD:H D=some (.lst ys)) (r:Rs K m H vs ys):RH K (m++[D]) H (st++[.lst vs]):=by
 have hp:m <+: m++[D]:=List.prefix_append _ _
 refine ⟨by simp [h.len],List.nodup_append.mpr ⟨h.nd,List.nodup_cons.mpr ⟨by simp,List.nodup_nil⟩,fun a ha b hb z=>?_⟩,fun n c' a h1 h2=>?_,h.tb⟩
 ·rw [List.mem_singleton] at hb
  subst hb
  exact Dm (z ▸ ha)
 ·by_cases hn:n<st.length
  ·rw [List.getElem?_append_left hn] at h1
   rw [List.getElem?_append_left (by rw [h.len];exact hn)] at h2
   have hc:=h.at_ n c' a h1 h2
   cases c' with
   | lst xs=>obtain ⟨us,g1,g2⟩:=hc;exact ⟨us,g1,g2.pre hp⟩
   | dk kvs=>obtain ⟨us,g1,g2,g3⟩:=hc;exact ⟨us,g1,g2,g3.pre hp⟩
   | fz kvs=>obtain ⟨o,us,g1,g2,g3⟩:=hc;exact ⟨o,us,g1,g2,g3.pre hp⟩
  ·rw [List.getElem?_append_right (by omega)] at h1
   rw [List.getElem?_append_right (by rw [h.len];omega)] at h2
   have hl:=h.len
   by_cases hz:n-st.length=0
   ·rw [hz] at h1
    rw [show n-m.length=0 by omega] at h2
    simp at h1 h2
    subst h1 h2
    exact ⟨ys,hD,r.pre hp⟩
   ·rw [List.getElem?_eq_none (by simp;omega)] at h1
    cases h1
theorem RH.addDk {K:PySem.W.Frag} {m:List Addr} {H:Hp} {st:AH} {D:Addr} {kvs:List (Key × PV)} {ys:List (Key × V)} (h:RH K m H st) (Dm:D ∉ m) (hD:H D=some (.dK ys)) (r1:ys.map (·.1)=kvs.map (·.1)) (r2:Rs K m H (kvs.map (·.2)) (ys.map (·.2))):RH K (m++[D]) H (st++[.dk kvs]):=by
 have hp:m <+: m++[D]:=List.prefix_append _ _
 refine ⟨by simp [h.len],List.nodup_append.mpr ⟨h.nd,List.nodup_cons.mpr ⟨by simp,List.nodup_nil⟩,fun a ha b hb z=>?_⟩,fun n c' a h1 h2=>?_,h.tb⟩
 ·rw [List.mem_singleton] at hb
  subst hb
  exact Dm (z ▸ ha)
 ·by_cases hn:n<st.length
  ·rw [List.getElem?_append_left hn] at h1
   rw [List.getElem?_append_left (by rw [h.len];exact hn)] at h2
   have hc:=h.at_ n c' a h1 h2
   cases c' with
   | lst xs=>obtain ⟨us,g1,g2⟩:=hc;exact ⟨us,g1,g2.pre hp⟩
   | dk kvs=>obtain ⟨us,g1,g2,g3⟩:=hc;exact ⟨us,g1,g2,g3.pre hp⟩
   | fz kvs=>obtain ⟨o,us,g1,g2,g3⟩:=hc;exact ⟨o,us,g1,g2,g3.pre hp⟩
  ·rw [List.getElem?_append_right (by omega)] at h1
   rw [List.getElem?_append_right (by rw [h.len];omega)] at h2
   have hl:=h.len
   by_cases hz:n-st.length=0
   ·rw [hz] at h1
    rw [show n-m.length=0 by omega] at h2
    simp at h1 h2
    subst h1 h2
    exact ⟨ys,hD,r1,r2.pre hp⟩
   ·rw [List.getElem?_eq_none (by simp;omega)] at h1
    cases h1
noncomputable def ql (X:Cx) (P:Addr→Hp→Prop):Addr→Hp→Prop:=fun D H'=>∃a o ys,H' a=some (.frz o (.dK ys))∧(∀u q,X.H₀ a≠some (.frz u q))∧P D (upd H' a (.dK ys))
theorem jf {K:PySem.W.Frag} {m m1 m2:List Addr} {H H1:Hp} {a D:Addr} {ho:HO} (e1:Ext K m H m1 H1) (am:a∈m1) (pre:m1 <+: m2) (Dm:D ∉ m2) (h:upd H1 a ho D=none):D≠a∧H D=none:=by
 have ne:D≠a:=fun z=>Dm (z ▸ pre.subset am)
 rw [ab ne] at h
 refine ⟨ne,?_⟩
 cases q:H D with
 | none=>rfl
 | some o =>
  by_cases hm:D∈m
  ·exact absurd (pre.subset (e1.pre.subset hm)) Dm
  ·exact absurd h (e1.ne hm q)
theorem pS {X:Cx} {c:Cfg} (C:COk X c Γ) {elt e:E} {tg:Tg} {wk:DW} {ifs:Es} {nt:List Str} {caps:List Nat} {m:List Addr} {ρ:Fr} {st:AH} {σ:L2.St} {H:Hp} {Q:EK} {P:Addr→Hp→Prop} (rf:RF X.K m H ρ σ) (rh:RH X.K m H st) (w:wpE Γ (.compK elt tg wk e ifs nt caps) ρ st Q)
  (hQ:∀n st2 m' H' D,Ext X.K m H m' H'→RH X.K m' H' st2→m'[n]?=some D→Q (.ref n) st2→P D H') :
  wiF X Γ wk e σ H fun J H1=>∃m ρ st1 xs chk,RF X.K m H1 ρ σ∧RH X.K m H1 st1∧fZ X.K J xs chk m H1∧xs.length<100000∧aG chk (bV Γ elt tg ifs (nt.map (fun _=>none)++caps.map fun i=>(ρ[i]?).join)) xs [] st1 (bK X.K m H1 (ql X P)):=by
 rw [sW] at w
 refine ⟨m,ρ,st,rf,rh,aa C.mono e (fun v st1 z=>?_) w⟩
 obtain ⟨n,rfl,kvs,h1,hl,z⟩:=z
 refine ⟨n,kvs,rfl,h1,fun m1 H1 a o ys e1 r1 ea g r3 r4 hz=>?_⟩
 have xs:Ext X.K m1 H1 m1 (upd H1 a (.frz o (.dK ys))):=Ext.set (ys:=[]) r1 ea (nfD g)
 refine ⟨m1,ρ,st1.set n (.fz kvs),a_ wk kvs,fun _=>True,(rf.mono e1).mono xs,r1.frz ea g r3 r4,pF ai r3 (r4.mono xs),by cases wk <;> simpa [a_] using hl,?_⟩
 refine bh (body:=bV Γ elt tg ifs (nt.map (fun _=>none)++caps.map fun i=>(ρ[i]?).join)) (fun _ _ _ _ hk q=>d_ C.mono hk q) (fun vs st2 k m2 H2 D zs e2 r2 Dm hD0 hD ry=>?_) z
 obtain ⟨k1,k⟩:=k
 have hF:H2 a=some (.frz o (.dK ys)):=e2.frz _ _ _ ai
 obtain ⟨ne,hD1⟩:=jf e1 (List.mem_of_getElem? ea) e2.pre Dm hD0
 have r5:=r2.thaw (dB e2.pre ea) hF k1
 have r6:=r5.addD Dm (by rw [ab ne];exact hD) (ry.mono0 (b7 hF) (b_ hF))
 exact ⟨a,o,ys,hF,hz,hQ _ _ _ _ D ((e1.trans (Ext.thaw r1 ea g e2)).addD hD1) r6 (by rw [←r2.len];simp) k⟩
theorem lG (G:aV Γ) {kx vx:E} {tg:Tg} {ifs:Es} {ρ:Fr} {x:PV} {st:AH} {k k':Option PV→AH→Prop} (hk:∀o st,k o st→k' o st) (q:b9 Γ kx vx tg ifs ρ x st k):b9 Γ kx vx tg ifs ρ x st k' :=
 aq G tg (fun ρ' st3 w=>aB G ifs (fun c st4 w=>by
  cases c with
  | true=>rw [if_pos rfl] at w ⊢;exact aa G kx (fun u st5 w=>aa G vx (fun v st6 w=>let ⟨z,e,w⟩:=w;⟨z,e,hk _ _ w⟩) w) w
  | false=>rw [if_neg Bool.false_ne_true] at w ⊢;exact hk _ _ w) w) q
theorem kD {X:Cx} {c:Cfg} (C:COk X c Γ) {kx vx e:E} {tg:Tg} {wk:DW} {ifs:Es} {nt:List Str} {caps:List Nat} {m:List Addr} {ρ:Fr} {st:AH} {σ:L2.St} {H:Hp} {Q:EK} {P:Addr→Hp→Prop} (rf:RF X.K m H ρ σ) (rh:RH X.K m H st) (w:wpE Γ (.compD kx vx tg wk e ifs nt caps) ρ st Q)
  (hQ:∀n st2 m' H' D,Ext X.K m H m' H'→RH X.K m' H' st2→m'[n]?=some D→Q (.ref n) st2→P D H') :
  wiF X Γ wk e σ H fun J H1=>∃m ρ st1 xs chk,RF X.K m H1 ρ σ∧RH X.K m H1 st1∧fZ X.K J xs chk m H1∧xs.length<100000∧aG chk (b9 Γ kx vx tg ifs (nt.map (fun _=>none)++caps.map fun i=>(ρ[i]?).join)) xs [] st1 (bC X.K m H1 (ql X P)):=by
 rw [sJ] at w
 refine ⟨m,ρ,st,rf,rh,aa C.mono e (fun v st1 z=>?_) w⟩
 obtain ⟨n,rfl,kvs,h1,hl,z⟩:=z
 refine ⟨n,kvs,rfl,h1,fun m1 H1 a o ys e1 r1 ea g r3 r4 hz=>?_⟩
 have xs:Ext X.K m1 H1 m1 (upd H1 a (.frz o (.dK ys))):=Ext.set (ys:=[]) r1 ea (nfD g)
 refine ⟨m1,ρ,st1.set n (.fz kvs),a_ wk kvs,fun _=>True,(rf.mono e1).mono xs,r1.frz ea g r3 r4,pF ai r3 (r4.mono xs),by rw [show (a_ wk kvs).length=kvs.length by cases wk <;> simp [a_]];omega,?_⟩
 refine bh (body:=b9 Γ kx vx tg ifs (nt.map (fun _=>none)++caps.map fun i=>(ρ[i]?).join)) (fun _ _ _ _ hk q=>lG C.mono hk q) (fun vs st2 k m2 H2 D ps ds ev e2 r2 Dm hD0 hD ry=>?_) z
 obtain ⟨k1,k⟩:=k
 have hF:H2 a=some (.frz o (.dK ys)):=e2.frz _ _ _ ai
 obtain ⟨ne,hD1⟩:=jf e1 (List.mem_of_getElem? ea) e2.pre Dm hD0
 have r5:=r2.thaw (dB e2.pre ea) hF k1
 have r6:=r5.addDk Dm (by rw [ab ne];exact hD) ry.1 (ry.2.mono0 (b7 hF) (b_ hF))
 exact ⟨a,o,ys,hF,hz,hQ _ _ _ _ D ((e1.trans (Ext.thaw r1 ea g e2)).addD hD1) r6 (by rw [←r2.len];simp) (k ps ev)⟩
theorem cF {X:Cx} {c:Cfg} (C:COk X c Γ) {nt:List Str} {caps:List Nat} {sc:Scope} (h:c.block nt caps sc=true) :
  CScope X sc∧(∀i∈caps,i<X.N.length)∧(∀x∈caps.filterMap (X.N[·]?),sc.names.lookup x=some .free)∧(∀x∈caps.filterMap (X.N[·]?),X.env.kindOf x=some .cell∨X.env.kindOf x=some .free)∧(nt++caps.filterMap (X.N[·]?)).Nodup:=by
 unfold Cfg.block at h
 simp only [Bool.and_eq_true,List.all_eq_true,beq_iff_eq,decide_eq_true_eq,Bool.or_eq_true,Bool.not_eq_true',beq_eq_false_iff_ne] at h
 obtain ⟨⟨⟨⟨⟨⟨h1,h2⟩,h3⟩,h4⟩,h5⟩,h6⟩,h7⟩:=h
 rw [C.N]
 refine ⟨⟨h1,fun y hy=>h2 y hy,fun y hy e=>?_,fun y hy e=>?_⟩,h5,fun x hx=>(h6 x hx).1,fun x hx=>C.cel x (mZ (h6 x hx).2),h7⟩
 ·rcases h3 y hy with z|z
  ·exact absurd e z
  ·exact z
 ·rcases h4 y hy with z|z
  ·exact absurd e z
  ·exact C.cel _ (mZ z)
theorem gC {X:Cx} {c:Cfg} (C:COk X c Γ) {nt:List Str} {caps:List Nat} {sc:Scope} (h:c.block nt caps sc=true) {s2:Shared} {H2:Hp} {fp:List Addr} {A:Addr} :
  COk (cxC X (nt++caps.filterMap (X.N[·]?)) s2 H2 fp sc A) (c.inner nt caps sc) Γ:=by
 obtain ⟨S,k1,k2,k3,k4⟩:=cF C h
 have nocell:∀x,sc.names.lookup x≠some .cell:=fun x e=>S.nocell _ (PySem.mem_of_lookup e) rfl
 refine ⟨C.calm,PassesOwn.never,?_,?_,fun x hx=>?_,fun x hx=>?_,fun x hx=>lookup_relabel_local hx,fun x hx=>eC hx,?_,fun x hx=>?_,C.room,C.fn,C.blt,C.gl,C.mono,fun h=>Bool.noConfusion (show false=true from h),fun k h=>by cases h⟩
 ·show nt++caps.filterMap (X.N[·]?)=nt++caps.filterMap (c.N[·]?)
  rw [C.N]
 ·show (nt++caps.filterMap (c.N[·]?)).Nodup
  rw [←C.N]
  exact k4
 ·rcases hx with hx|hx|hx
  ·exact .inl (lookup_relabel_local hx)
  ·exact absurd hx (nocell x)
  ·rcases bW (env:=X.env) hx with z|z
   ·exact .inr (.inl z)
   ·exact .inr (.inr z)
 ·rcases hx with hx|hx
  ·exact ⟨.inl (lookup_relabel_local hx),.inr (lookup_relabel_local hx)⟩
  ·exact absurd hx (nocell x)
 ·show Env.blockKind (compEnvC sc (dO X.env sc.names []) A X.env)=_
  unfold Env.blockKind
  show (if sc.kind.isAnnotationScope=true then _ else sc.kind)=_
  rw [S.kind]
  rfl
 ·rcases hx with hx|hx
  ·exact absurd hx (nocell x)
  ·exact bW hx
mutual
theorem ax:∀(e:E) {X:Cx} {c:Cfg} (C:COk X c Γ) (x:Expr),aj c e x=true→PE X x (TEx X.K (wpE Γ e))
 | .var i,X,c,C,x,h=>by
  replace h:=ad h
  obtain ⟨y,p,rfl,h⟩:=h
  ·exact p4 C h
 | .int i,X,c,C,x,h=>by
  replace h:=og h
  obtain ⟨j,k,p,rfl,h⟩:=h
  ·rw [beq_iff_eq] at h;subst h
   rintro pins s σ H Q I ⟨m,ρ,st,rf,rh,w⟩
   skip
   exact wC pins s σ H Q I (w.here rh (R_int.mpr rfl))
 | .bl i,X,c,C,x,h=>by
  replace h:=qJ h
  obtain ⟨j,k,p,rfl,h⟩:=h
  ·rw [beq_iff_eq] at h;subst h
   rintro pins s σ H Q I ⟨m,ρ,st,rf,rh,w⟩
   skip
   exact yI pins s σ H Q I (w.here rh (R_bl.mpr rfl))
 | .non,X,c,C,x,h=>by
  replace h:=oI h
  obtain ⟨k,p,rfl⟩:=h
  ·rintro pins s σ H Q I ⟨m,ρ,st,rf,rh,w⟩
   skip
   exact we pins s σ H Q I (w.here rh (R_non.mpr rfl))
 | .str i,X,c,C,x,h=>by
  replace h:=oq h
  obtain ⟨j,k,p,rfl,h⟩:=h
  ·rw [beq_iff_eq] at h;subst h
   rintro pins s σ H Q I ⟨m,ρ,st,rf,rh,w⟩
   skip
   exact vT pins s σ H Q I (w.here rh (R_str.mpr rfl))
 | .gv y v,X,c,C,x,h=>by
  replace h:=ad h
  obtain ⟨z,p,rfl,h⟩:=h
  ·simp only [Bool.and_eq_true,beq_iff_eq] at h
   obtain ⟨⟨h1,h2⟩,h3⟩:=h
   subst h1
   obtain ⟨g1,g2,_⟩:=C.glbx h2
   replace h3:=d3 h3
   obtain ⟨w,hw,h3⟩:=h3
   ·have:=PV.same_eq h3
    subst this
    obtain ⟨u,z,e1,e2,e3⟩:=C.gl _ _ hw
    rintro pins s σ H Q I ⟨m,ρ,st,rf,rh,w⟩
    skip
    exact sX g1 e1 e2 g2 pins s σ H Q I (w.here rh (e3 m H))
 | .tup es,X,c,C,x,h=>by
  replace h:=aS h
  obtain ⟨xs,k,p,rfl,h⟩:=h
  ·rintro pins s σ H Q I ⟨m,ρ,st,rf,rh,w⟩
   skip
   refine wy (fY es C _ h) pins s σ H Q I ⟨m,ρ,st,rf,rh,au C.mono es (fun vs st1 k m1 H1 xs1 e1 r1 r2=>⟨by rw [←r2.len];exact cC k.1,fun p hp=>?_⟩) w⟩
   exact (k.2.ext e1).newT r1 r2 hp
 | .lst es,X,c,C,x,h=>by
  replace h:=lH h
  obtain ⟨xs,p,rfl,h⟩:=h
  ·rintro pins s σ H Q I ⟨m,ρ,st,rf,rh,w⟩
   skip
   refine xh (fY es C _ h) pins s σ H Q I ⟨m,ρ,st,rf,rh,au C.mono es (fun vs st1 k m1 H1 xs1 e1 r1 r2=>⟨by rw [←r2.len];exact cC k.1,fun p hp=>?_⟩) w⟩
   exact (k.2.ext e1).newL r1 r2 hp
 | .bad,X,c,C,x,h=>by rintro pins s σ H Q I ⟨m,ρ,st,rf,rh,w⟩;exact False.elim w
 | .dct0,X,c,C,x,h=>by
  replace h:=lU h
  obtain ⟨ks,vs,p,rfl,h⟩:=h
  replace h:=wq h
  obtain ⟨rfl,rfl⟩:=h
  ·rintro pins s σ H Q I ⟨m,ρ,st,rf,rh,w⟩
   skip
   refine pC pins s σ H Q I fun p hp=>?_
   exact w _ _ _ (Ext.new1 rh hp) (rh.new1 hp ⟨[],ai,rfl,Rs_nil.mpr rfl⟩) (R.last rh.len)
 | .dct1 _ _,X,c,C,x,h=>by rintro pins s σ H Q I ⟨m,ρ,st,rf,rh,w⟩;exact False.elim w
 | .bin op a b,X,c,C,x,h=>by
  replace h:=oK h
  obtain ⟨l,o,r,p,rfl,h⟩:=h
  ·simp only [Bool.and_eq_true,beq_iff_eq] at h
   obtain ⟨⟨h1,h2⟩,h3⟩:=h
   subst h1
   rintro pins s σ H Q I ⟨m,ρ,st,rf,rh,w⟩
   skip
   exact xp (v7 _) (ax a C _ h2) (ax b C _ h3) pins s σ H Q I ⟨m,ρ,st,rf,rh,aa C.mono a (fun v st1 k m1 H1 x1 e1 r1 r2=>⟨m1,ρ,st1,rf.mono e1,r1,
    aa C.mono b (fun u st2 k2 m2 H2 y2 e2 r3 r4=>⟨m2,st2,v,u,r3,r2.mono e2,r4,iO (fun _ _ q=>q.ext (e1.trans e2)) k2⟩) k⟩) w⟩
 | .neg a,X,c,C,x,h=>by
  replace h:=oX h
  obtain ⟨y,p,rfl,h⟩:=h
  ·rintro pins s σ H Q I ⟨m,ρ,st,rf,rh,w⟩
   skip
   refine yK wF (ax a C _ h) pins s σ H Q I ⟨m,ρ,st,rf,rh,aa C.mono a (fun v st1 k m1 H1 x1 e1 r1 r2=>?_) w⟩
   obtain ⟨i,rfl,k⟩:=k
   rw [R_int] at r2
   subst r2
   exact ⟨i,rfl,(k.ext e1).here r1 (R_int.mpr rfl)⟩
 | .not a,X,c,C,x,h=>by
  replace h:=iF h
  obtain ⟨y,p,rfl,h⟩:=h
  ·rintro pins s σ H Q I ⟨m,ρ,st,rf,rh,w⟩
   skip
   refine ww (ax a C _ h) pins s σ H Q I ⟨m,ρ,st,rf,rh,aa C.mono a (fun v st1 k m1 H1 x1 e1 r1 r2=>?_) w⟩
   obtain ⟨i,rfl,k⟩:=k
   rw [R_bl] at r2
   subst r2
   exact ⟨i,rfl,(k.ext e1).here r1 (R_bl.mpr rfl)⟩
 | .cmp op a b,X,c,C,x,h=>by
  replace h:=dL h
  obtain ⟨l,o,r,p,rfl,h⟩:=h
  ·simp only [Bool.and_eq_true,beq_iff_eq,Bool.not_eq_true',beq_eq_false_iff_ne] at h
   obtain ⟨⟨⟨h1,n1⟩,h2⟩,h3⟩:=h
   subst h1
   rintro pins s σ H Q I ⟨m,ρ,st,rf,rh,w⟩
   skip
   exact nD (pH C.room.units _) (ax a C _ h2) (ax b C _ h3) n1 pins s σ H Q I ⟨m,ρ,st,rf,rh,aa C.mono a (fun v st1 k m1 H1 x1 e1 r1 r2=>⟨m1,ρ,st1,rf.mono e1,r1,
    aa C.mono b (fun u st2 k2 m2 H2 y2 e2 r3 r4=>⟨m2,st2,v,u,r3,r2.mono e2,r4,dy (fun _ _ q=>q.ext (e1.trans e2)) k2⟩) k⟩) w⟩
 | .bop true es,X,c,C,x,h=>by
  replace h:=dJ h
  obtain ⟨o,xs,p,rfl,h⟩:=h
  ·simp only [Bool.and_eq_true,beq_iff_eq,Bool.not_eq_true'] at h
   obtain ⟨⟨h1,h2⟩,h3⟩:=h
   subst h1
   rintro pins s σ H Q I ⟨m,ρ,st,rf,rh,w⟩
   skip
   exact vB es C _ _ h2 h3 pins s σ H Q I ⟨m,ρ,st,rf,rh,w⟩
 | .bop false es,X,c,C,x,h=>by
  replace h:=dJ h
  obtain ⟨o,xs,p,rfl,h⟩:=h
  ·simp only [Bool.and_eq_true,beq_iff_eq,Bool.not_eq_true'] at h
   obtain ⟨⟨h1,h2⟩,h3⟩:=h
   subst h1
   rintro pins s σ H Q I ⟨m,ρ,st,rf,rh,w⟩
   skip
   exact ue es C _ _ h2 h3 pins s σ H Q I ⟨m,ρ,st,rf,rh,w⟩
 | .ite t a b,X,c,C,x,h=>by
  replace h:=oC h
  obtain ⟨y,l,r,p,rfl,h⟩:=h
  ·simp only [Bool.and_eq_true] at h
   obtain ⟨⟨h1,h2⟩,h3⟩:=h
   rintro pins s σ H Q I ⟨m,ρ,st,rf,rh,w⟩
   skip
   refine rC (io t C _ h1) (ax a C _ h2) (ax b C _ h3) pins s σ H Q I ⟨m,ρ,st,rf,rh,aC C.mono t (fun k st1 z m1 H1 e1 r1=>?_) w⟩
   cases k with
   | true=>rw [if_pos rfl] at z ⊢;exact ⟨m1,ρ,st1,rf.mono e1,r1,aa C.mono a (fun _ _ q=>q.ext e1) z⟩
   | false=>rw [if_neg Bool.false_ne_true] at z ⊢;exact ⟨m1,ρ,st1,rf.mono e1,r1,aa C.mono b (fun _ _ q=>q.ext e1) z⟩
 | .ix a b,X,c,C,x,h=>by
  replace h:=cE h
  obtain ⟨l,r,p,rfl,h⟩:=h
  ·simp only [Bool.and_eq_true] at h
   obtain ⟨⟨h1,h2⟩,h3⟩:=h
   rintro pins s σ H Q I ⟨m,ρ,st,rf,rh,w⟩
   skip
   exact pw (uD C.room.units) (ax a C _ h2) (ax b C _ h3) h1 pins s σ H Q I ⟨m,ρ,st,rf,rh,aa C.mono a (fun v st1 k m1 H1 x1 e1 r1 r2=>⟨m1,ρ,st1,rf.mono e1,r1,
    aa C.mono b (fun u st2 k2 m2 H2 y2 e2 r3 r4=>⟨m2,st2,v,u,r3,r2.mono e2,r4,eI (fun _ _ q=>q.ext (e1.trans e2)) k2⟩) k⟩) w⟩
 | .sl a lo hi,X,c,C,x,h=>by
  replace h:=cE h
  obtain ⟨l,r,p,rfl,h⟩:=h
  replace h:=j9 h
  obtain ⟨u,v,p2,rfl,h⟩:=h
  ·simp only [Bool.and_eq_true] at h
   obtain ⟨⟨h1,h2⟩,h3⟩:=h
   rintro pins s σ H Q I ⟨m,ρ,st,rf,rh,w⟩
   skip
   exact qj yF (ax a C _ h1) (yb lo C _ h2) (yb hi C _ h3) pins s σ H Q I ⟨m,ρ,st,rf,rh,aa C.mono a (fun v st1 k m1 H1 x1 e1 r1 r2=>⟨m1,ρ,st1,rf.mono e1,r1,
    e7 C.mono lo (fun l st2 k2 m2 H2 e2 r3=>⟨m2,ρ,st2,(rf.mono e1).mono e2,r3,e7 C.mono hi (fun u st3 k3 m3 H3 e3 r4=>⟨m3,st3,v,r4,(r2.mono e2).mono e3,j_ (fun _ _ q=>q.ext ((e1.trans e2).trans e3)) k3⟩) k2⟩) k⟩) w⟩
 | .call f es,X,c,C,x,h=>by
  replace h:=ay h
  obtain ⟨g,xs,p,rfl,h⟩:=h
  replace h:=ad h
  obtain ⟨y,p2,rfl,h⟩:=h
  ·simp only [Bool.and_eq_true] at h
   obtain ⟨⟨h1,h2⟩,h3⟩:=h
   rintro pins s σ H Q I ⟨m,ρ,st,rf,rh,w⟩
   skip
   exact lv C h1 h2 h3 (fY es C _ h3) pins s σ H Q I ⟨m,ρ,st,rf,rh,w⟩
 | .blt b es,X,c,C,x,h=>by
  replace h:=ay h
  obtain ⟨g,xs,p,rfl,h⟩:=h
  replace h:=ad h
  obtain ⟨y,p2,rfl,h⟩:=h
  ·simp only [Bool.and_eq_true,beq_iff_eq,Bool.not_eq_true'] at h
   obtain ⟨⟨⟨⟨h1,h2⟩,h3⟩,h4⟩,h5⟩:=h
   rintro pins s σ H Q I ⟨m,ρ,st,rf,rh,w⟩
   skip
   exact j1 C h1 h2 h3 h4 (fY es C _ h5) pins s σ H Q I ⟨m,ρ,st,rf,rh,w⟩
 | .inst a t,X,c,C,x,h=>by
  replace h:=ay h
  obtain ⟨g,xs,p,rfl,h⟩:=h
  replace h:=ad h
  obtain ⟨y,p2,rfl,h⟩:=h
  replace h:=dH h
  obtain ⟨l,r,rfl,h⟩:=h
  replace h:=ad h
  obtain ⟨z,p3,rfl,h⟩:=h
  ·rw [Bool.and_eq_true] at h
   exact mR C h.1 (ax a C _ h.2)
 | .met mm o es,X,c,C,x,h=>by
  replace h:=ay h
  obtain ⟨g,xs,p,rfl,h⟩:=h
  replace h:=eh h
  obtain ⟨y,n,p2,rfl,h⟩:=h
  ·simp only [Bool.and_eq_true,beq_iff_eq,decide_eq_true_eq] at h
   obtain ⟨⟨⟨⟨⟨⟨h1,h2⟩,h3⟩,h4⟩,h0⟩,h5⟩,h6⟩:=h
   exact pE C h1 (by rw [h2];simp) h3 h4 h0 (ax o C _ h5) (fY es C _ h6) h6
 | .comp elt tg it ifs nt caps,X,c,C,x,h=>by
  replace h:=dw h
  obtain ⟨ex,gs,sc,pos,rfl,h⟩:=h
  replace h:=bu h
  obtain ⟨g,rfl,h⟩:=h
  obtain ⟨tx,ix,fx,ia⟩:=g
  dsimp only at h
  ·simp only [Bool.and_eq_true,beq_iff_eq] at h
   obtain ⟨⟨⟨⟨⟨⟨⟨⟨h1,h0⟩,h2⟩,h3⟩,h4⟩,h5⟩,h6⟩,h7⟩,h8⟩:=h
   subst h1
   obtain ⟨S,k1,k2,k3,k4⟩:=cF C h4
   have hC:∀s2 H2 fp A,COk (cxC X (nt++caps.filterMap (X.N[·]?)) s2 H2 fp sc A) (c.inner nt caps sc) Γ:=fun s2 H2 fp A=>gC C h4
   rintro pins s σ H Q I ⟨m,ρ,st,rf,rh,w⟩
   skip
   rw [eval_ListComp]
   refine e_ (elt:=elt) (tg:=tg) (ifs:=ifs) (nt:=nt) (caps:=caps) (use:=none) (Fin:=fun D H'=>Q (.ref D) H') (wi:=TIx X.K (d9 Γ it)) C.mono C.calm S rfl k1 k2 k3 h2 h3 (rj it C ix h0 h5) (fun s2 H2 fp A=>eW tg (hC s2 H2 fp A) _ h6) (fun s2 H2 fp A=>fB ifs (hC s2 H2 fp A) _ h7) (fun s2 H2 fp A=>ax elt (hC s2 H2 fp A) _ h8) I ?_ ?_
   ·refine ⟨m,ρ,st,rf,rh,cK C.mono it (fun xs chk st1 z m1 H1 J e1 r1 W=>⟨m1,ρ,st1,xs,chk,rf.mono e1,r1,W,z.1,?_⟩) w⟩
    refine bh (body:=bV Γ elt tg ifs (nt.map (fun _=>none)++caps.map fun i=>(ρ[i]?).join)) (fun _ _ _ _ hk q=>d_ C.mono hk q) (fun vs st2 k m2 H2 D ys e2 r2 Dm hD0 hD ry=>?_) z.2
    have hD1:H D=none:=by
     cases q:H D with
     | none=>rfl
     | some o =>
      by_cases hm:D∈m
      ·exact absurd ((e1.trans e2).pre.subset hm) Dm
      ·exact absurd hD0 (e1.ne hm q)
    exact k _ _ _ ((e1.trans e2).addD hD1) (r2.addD Dm hD ry) (R.last r2.len)
   ·intro C' D H' s' m' I' ns fp F
    refine ⟨m',ns,fun h' hs'=>?_⟩
    exact ⟨.ref D,H',I'.turned (t':=s'.toks) (fun b o hb e=>hs'.extBut b o hb e) fp.1 fp.2.1 fp.2.2.2.1 fp.2.2.2.2.1 fp.2.2.2.2.2,rfl,F⟩
 | .compK elt tg wk e ifs nt caps,X,c,C,x,h=>by
  replace h:=dw h
  obtain ⟨ex,gs,sc,pos,rfl,h⟩:=h
  replace h:=bu h
  obtain ⟨g,rfl,h⟩:=h
  obtain ⟨tx,ix,fx,ia⟩:=g
  dsimp only at h
  simp only [Bool.and_eq_true,beq_iff_eq] at h
  obtain ⟨⟨⟨⟨⟨⟨⟨⟨h1,h0⟩,h2⟩,h3⟩,h4⟩,h5⟩,h6⟩,h7⟩,h8⟩:=h
  subst h1
  obtain ⟨S,k1,k2,k3,k4⟩:=cF C h4
  have hC:∀s2 H2 fp A,COk (cxC X (nt++caps.filterMap (X.N[·]?)) s2 H2 fp sc A) (c.inner nt caps sc) Γ:=fun s2 H2 fp A=>gC C h4
  rintro pins s σ H Q I ⟨m,ρ,st,rf,rh,w⟩
  rw [eval_ListComp]
  refine e_ (elt:=elt) (tg:=tg) (ifs:=ifs) (nt:=nt) (caps:=caps) (use:=none) (Fin:=ql X fun D H'=>Q (.ref D) H') (wi:=wiF X Γ wk e) C.mono C.calm S rfl k1 k2 k3 h2 h3 (xg C h0 h5 fun y hy=>ax e C y hy) (fun s2 H2 fp A=>eW tg (hC s2 H2 fp A) _ h6) (fun s2 H2 fp A=>fB ifs (hC s2 H2 fp A) _ h7) (fun s2 H2 fp A=>ax elt (hC s2 H2 fp A) _ h8) I (pS C rf rh w fun n st2 m' H' D e1 r1 r2 q=>q m' H' _ e1 r1 (R_ref.mpr ⟨D,r2,rfl⟩)) ?_
  rintro C' D H' s' m' I' ns fp ⟨a,o,ys,hF,hz,q⟩
  exact ⟨m',ns,fun h' hs'=>⟨.ref D,_,gA (I'.turned (t':=s'.toks) (fun b o hb e=>hs'.extBut b o hb e) fp.1 fp.2.1 fp.2.2.2.1 fp.2.2.2.2.1 fp.2.2.2.2.2) hF hz,rfl,q⟩⟩
 | .compD kx vx tg wk e ifs nt caps,X,c,C,x,h=>by
  replace h:=hV h
  obtain ⟨ek,ev,gs,sc,pos,rfl,h⟩:=h
  replace h:=bu h
  obtain ⟨g,rfl,h⟩:=h
  obtain ⟨tx,ix,fx,ia⟩:=g
  dsimp only at h
  simp only [Bool.and_eq_true,beq_iff_eq] at h
  obtain ⟨⟨⟨⟨⟨⟨⟨⟨⟨h1,h0⟩,h2⟩,h3⟩,h4⟩,h5⟩,h6⟩,h7⟩,h8⟩,h9⟩:=h
  subst h1
  obtain ⟨S,k1,k2,k3,k4⟩:=cF C h4
  have hC:∀s2 H2 fp A,COk (cxC X (nt++caps.filterMap (X.N[·]?)) s2 H2 fp sc A) (c.inner nt caps sc) Γ:=fun s2 H2 fp A=>gC C h4
  rintro pins s σ H Q I ⟨m,ρ,st,rf,rh,w⟩
  rw [arm_eval_DictComp]
  refine jb (kx:=kx) (vx:=vx) (tg:=tg) (ifs:=ifs) (nt:=nt) (caps:=caps) (use:=none) (Fin:=ql X fun D H'=>Q (.ref D) H') (wi:=wiF X Γ wk e) C.mono C.calm S rfl k1 k2 k3 h2 h3 (xg C h0 h5 fun y hy=>ax e C y hy) (fun s2 H2 fp A=>eW tg (hC s2 H2 fp A) _ h6) (fun s2 H2 fp A=>fB ifs (hC s2 H2 fp A) _ h7) (fun s2 H2 fp A=>ax kx (hC s2 H2 fp A) _ h8) (fun s2 H2 fp A=>ax vx (hC s2 H2 fp A) _ h9) I (kD C rf rh w fun n st2 m' H' D e1 r1 r2 q=>q m' H' _ e1 r1 (R_ref.mpr ⟨D,r2,rfl⟩)) ?_
  rintro C' D H' s' m' I' ns fp ⟨a,o,ys,hF,hz,q⟩
  exact ⟨m',ns,fun h' hs'=>⟨.ref D,_,gA (I'.turned (t':=s'.toks) (fun b o hb e=>hs'.extBut b o hb e) fp.1 fp.2.1 fp.2.2.2.1 fp.2.2.2.2.1 fp.2.2.2.2.2) hF hz,rfl,q⟩⟩
 | .dcl a,X,c,C,x,h=>by
  replace h:=ay h
  obtain ⟨g,xs,p,rfl,h⟩:=h
  replace h:=ad h
  obtain ⟨y,p2,rfl,h⟩:=h
  replace h:=bu h
  obtain ⟨u,rfl,h⟩:=h
  simp only [Bool.and_eq_true,beq_iff_eq] at h
  obtain ⟨⟨⟨h1,h2⟩,h3⟩,h4⟩:=h
  exact wz C h1 h2 h3 (ax a C _ h4)
 | .eqd ne a b,X,c,C,x,h=>by
  replace h:=dL h
  obtain ⟨l,o,r,p,rfl,h⟩:=h
  simp only [Bool.and_eq_true,beq_iff_eq,Bool.not_eq_true',beq_eq_false_iff_ne] at h
  obtain ⟨⟨⟨h1,n1⟩,h2⟩,h3⟩:=h
  subst h1
  rintro pins s σ H Q I ⟨m,ρ,st,rf,rh,w⟩
  exact nD (qI (by have:=C.room.un;omega) ne) (ax a C _ h2) (ax b C _ h3) n1 pins s σ H Q I ⟨m,ρ,st,rf,rh,aa C.mono a (fun v st1 k m1 H1 x1 e1 r1 r2=>⟨m1,ρ,st1,rf.mono e1,r1,
   aa C.mono b (fun u st2 k2 m2 H2 y2 e2 r3 r4=>⟨m2,st2,v,u,r3,r2.mono e2,r4,k2.1,k2.2.ext (e1.trans e2)⟩) k⟩) w⟩
 | .tmp a,X,c,C,x,h=>by
  have h:aj c a x=true:=h
  rintro pins s σ H Q I ⟨m,ρ,st,rf,rh,w⟩
  skip
  refine ax a C x h pins s σ H Q I ⟨m,ρ,st,rf,rh,aa C.mono a (fun v st1 k m1 H1 x1 e1 r1 r2=>?_) w⟩
  obtain ⟨st2,q,e2,r3,r4⟩:=jL rh e1 r1 r2 k
  exact q m H1 x1 e2 r3 r4
 | .dcp a,X,c,C,x,h=>by
  replace h:=ay h
  obtain ⟨g,xs,p,rfl,h⟩:=h
  replace h:=ad h
  obtain ⟨y,p2,rfl,h⟩:=h
  replace h:=bu h
  obtain ⟨u,rfl,h⟩:=h
  simp only [Bool.and_eq_true,beq_iff_eq] at h
  obtain ⟨⟨⟨h1,h2⟩,h3⟩,h4⟩:=h
  exact wX C h1 h2 h3 (ax a C _ h4)
 | .clr a,X,c,C,x,h=>by
  replace h:=ay h
  obtain ⟨g,xs,p,rfl,h⟩:=h
  replace h:=eh h
  obtain ⟨y,n,p2,rfl,h⟩:=h
  simp only [Bool.and_eq_true,beq_iff_eq,List.isEmpty_iff] at h
  obtain ⟨⟨⟨⟨h1,h2⟩,h3⟩,h4⟩,h5⟩:=h
  subst h3
  exact wR C h1 (by rw [h2];exact beq_self_eq_true _) h4 (ax a C _ h5)
 | .sset _,X,c,C,x,h=>by rintro pins s σ H Q I ⟨m,ρ,st,rf,rh,w⟩;exact False.elim w
 | .jrev _,X,c,C,x,h=>by rintro pins s σ H Q I ⟨m,ρ,st,rf,rh,w⟩;exact False.elim w
 | .pcall _ _,X,c,C,x,h=>by rintro pins s σ H Q I ⟨m,ρ,st,rf,rh,w⟩;exact False.elim w
 | .hm _ _ _,X,c,C,x,h=>by rintro pins s σ H Q I ⟨m,ρ,st,rf,rh,w⟩;exact False.elim w
 | .part _ _,X,c,C,x,h=>by rintro pins s σ H Q I ⟨m,ρ,st,rf,rh,w⟩;exact False.elim w
theorem fY:∀(es:Es) {X:Cx} {c:Cfg} (C:COk X c Γ) (xs:List Expr),cm c es xs=true→PA X xs (TAx X.K (bx Γ es))
 | .nil,X,c,C,xs,h=>by
  have h:xs.isEmpty=true:=h
  cases xs with
  | nil =>
   rintro pos pins s σ H Q I ⟨m,ρ,st,rf,rh,w⟩
   skip
   exact dn pos pins s σ H Q I (w m H [] (Ext.refl _ _ _) rh (Rs_nil.mpr rfl))
  | cons x xs=>cases h
 | .cons e es,X,c,C,xs,h=>by
  replace h:=aA h
  obtain ⟨y,ys,rfl,h⟩:=h
  ·simp only [Bool.and_eq_true] at h
   obtain ⟨⟨h1,h2⟩,h3⟩:=h
   rintro pos pins s σ H Q I ⟨m,ρ,st,rf,rh,w⟩
   skip
   exact pac (ax e C _ h2) (fY es C _ h3) h1 pos pins s σ H Q I ⟨m,ρ,st,rf,rh,aa C.mono e (fun v st1 k m1 H1 x1 e1 r1 r2=>⟨m1,ρ,st1,rf.mono e1,r1,
    au C.mono es (fun us st2 k2 m2 H2 ys e2 r3 r4=>k2 m2 H2 _ (e1.trans e2) r3 (Rs_cons'.mpr ⟨r2.mono e2,r4⟩)) k⟩) w⟩
theorem yb:∀(o:O) {X:Cx} {c:Cfg} (C:COk X c Γ) (x:Option Expr),wI c o x=true→PO X x (fun σ H Q=>∃m ρ st,RF X.K m H ρ σ∧RH X.K m H st∧wpO Γ o ρ st fun v st'=>∀m' H',Ext X.K m H m' H'→RH X.K m' H' st'→Q v H')
 | .no,X,c,C,x,h=>by
  have h:x.isNone=true:=h
  cases x with
  | none =>
   rintro pins s σ H Q I ⟨m,ρ,st,rf,rh,w⟩
   skip
   exact sK pins s σ H Q I (w m H (Ext.refl _ _ _) rh)
  | some y=>cases h
 | .yes e,X,c,C,x,h=>by
  replace h:=d3 h
  obtain ⟨y,rfl,h⟩:=h
  ·rintro pins s σ H Q I ⟨m,ρ,st,rf,rh,w⟩
   skip
   refine tR (ax e C _ h) pins s σ H Q I ⟨m,ρ,st,rf,rh,aa C.mono e (fun v st1 k m1 H1 x1 e1 r1 r2=>?_) w⟩
   obtain ⟨i,rfl,k⟩:=k
   rw [R_int] at r2
   exact ⟨i,r2,k m1 H1 e1 r1⟩
theorem io:∀(e:E) {X:Cx} {c:Cfg} (C:COk X c Γ) (x:Expr),oo c e x=true→PT X x (TTx X.K (wpT Γ e))
 | .not a,X,c,C,x,h=>by
  replace h:=iF h
  obtain ⟨y,p,rfl,h⟩:=h
  ·rintro pins s σ H Q I ⟨m,ρ,st,rf,rh,w⟩
   skip
   exact vU (io a C _ h) pins s σ H Q I ⟨m,ρ,st,rf,rh,aC C.mono a (fun k st1 z m1 H1 e1 r1=>z m1 H1 e1 r1) w⟩
 | .bop true es,X,c,C,x,h=>by
  replace h:=dJ h
  obtain ⟨o,xs,p,rfl,h⟩:=h
  ·simp only [Bool.and_eq_true,beq_iff_eq,Bool.not_eq_true'] at h
   obtain ⟨⟨h1,h2⟩,h3⟩:=h
   subst h1
   rintro pins s σ H Q I ⟨m,ρ,st,rf,rh,w⟩
   skip
   exact (u7 es C _ _ h3 h2).pt pins s σ H Q I ⟨m,ρ,st,rf,rh,w⟩
 | .bop false es,X,c,C,x,h=>by
  replace h:=dJ h
  obtain ⟨o,xs,p,rfl,h⟩:=h
  ·simp only [Bool.and_eq_true,beq_iff_eq,Bool.not_eq_true'] at h
   obtain ⟨⟨h1,h2⟩,h3⟩:=h
   subst h1
   rintro pins s σ H Q I ⟨m,ρ,st,rf,rh,w⟩
   skip
   exact (uC es C _ _ h3 h2).pt pins s σ H Q I ⟨m,ρ,st,rf,rh,w⟩
 | .cmp op a b,X,c,C,x,h=>by
  replace h:=dL h
  obtain ⟨l,o,r,p,rfl,h⟩:=h
  ·simp only [Bool.and_eq_true,beq_iff_eq,Bool.not_eq_true',beq_eq_false_iff_ne] at h
   obtain ⟨⟨⟨h1,n1⟩,h2⟩,h3⟩:=h
   subst h1
   rintro pins s σ H Q I ⟨m,ρ,st,rf,rh,w⟩
   skip
   refine nX (pH C.room.units _) (ax a C _ h2) (ax b C _ h3) n1 pins s σ H Q I ⟨m,ρ,st,rf,rh,aa C.mono a (fun v st1 k m1 H1 x1 e1 r1 r2=>⟨m1,ρ,st1,rf.mono e1,r1,
    aa C.mono b (fun u st2 k2 m2 H2 y2 e2 r3 r4=>⟨m2,st2,v,u,r3,r2.mono e2,r4,dy (fun _ _ q=>?_) k2⟩) k⟩) w⟩
   obtain ⟨k,rfl,q⟩:=q
   intro m' H' y e3 r5 r6
   rw [R_bl] at r6
   exact ⟨k,r6,q m' H' ((e1.trans e2).trans e3) r5⟩
 | .var i,X,c,C,x,h=>by
  replace h:=ad h
  obtain ⟨y,p,rfl,h⟩:=h
  ·rintro pins s σ H Q I ⟨m,ρ,st,rf,rh,w⟩
   skip
   refine cP (p4 C h) (fun _=>rfl) pins s σ H Q I ⟨m,ρ,st,rf,rh,?_⟩
   skip
   obtain ⟨v,e,w⟩:=w
   exact ⟨v,e,fun m' H' y e1 r1 r2=>kH ⟨m',st,v,r1,r2,aZ (fun _ _ q=>q.ext e1) w⟩⟩
 | .call f es,X,c,C,x,h=>by
  replace h:=ay h
  obtain ⟨g,xs,p,rfl,h⟩:=h
  replace h:=ad h
  obtain ⟨y,p2,rfl,h⟩:=h
  ·simp only [Bool.and_eq_true] at h
   obtain ⟨⟨h1,h2⟩,h3⟩:=h
   rintro pins s σ H Q I ⟨m,ρ,st,rf,rh,w⟩
   skip
   exact cP (lv C h1 h2 h3 (fY es C _ h3)) (fun _=>rfl) pins s σ H Q I ⟨m,ρ,st,rf,rh,au C.mono es (fun vs st1 k=>C.mono _ _ _ _ _ (fun v st2 k2 m' H' y e1 r1 r2=>kH ⟨m',st2,v,r1,r2,aZ (fun _ _ q=>q.ext e1) k2⟩) k) w⟩
 | .blt b es,X,c,C,x,h=>by
  replace h:=ay h
  obtain ⟨g,xs,p,rfl,h⟩:=h
  replace h:=ad h
  obtain ⟨y,p2,rfl,h⟩:=h
  ·simp only [Bool.and_eq_true,beq_iff_eq,Bool.not_eq_true'] at h
   obtain ⟨⟨⟨⟨h1,h2⟩,h3⟩,h4⟩,h5⟩:=h
   rintro pins s σ H Q I ⟨m,ρ,st,rf,rh,w⟩
   skip
   exact cP (j1 C h1 h2 h3 h4 (fY es C _ h5)) (fun _=>rfl) pins s σ H Q I ⟨m,ρ,st,rf,rh,au C.mono es (fun vs st1 k=>dC (fun v st2 k2 m' H' y e1 r1 r2=>kH ⟨m',st2,v,r1,r2,aZ (fun _ _ q=>q.ext e1) k2⟩) k) w⟩
 | .inst a t,X,c,C,x,h=>by
  replace h:=ay h
  obtain ⟨g,xs,p,rfl,h⟩:=h
  replace h:=ad h
  obtain ⟨y,p2,rfl,h⟩:=h
  replace h:=dH h
  obtain ⟨l,r,rfl,h⟩:=h
  replace h:=ad h
  obtain ⟨z,p3,rfl,h⟩:=h
  ·rw [Bool.and_eq_true] at h
   rintro pins s σ H Q I ⟨m,ρ,st,rf,rh,w⟩
   skip
   refine cP (mR C h.1 (ax a C _ h.2)) (fun _=>rfl) pins s σ H Q I ⟨m,ρ,st,rf,rh,?_⟩
   skip
   refine aa C.mono a (fun v st1 k=>?_) w
   obtain ⟨n,e,k⟩:=k
   refine ⟨n,e,fun m' H' y e1 r1 r2=>?_⟩
   rw [R_bl] at r2
   subst r2
   exact ⟨_,rfl,k m' H' e1 r1⟩
 | .tmp a,X,c,C,x,h=>by
  have h:(mo x && aj c a x)=true:=h
  rw [Bool.and_eq_true] at h
  rintro pins s σ H Q I ⟨m,ρ,st,rf,rh,w⟩
  skip
  have q:=ax a C x h.2
  refine cP q (mi h.1 X.env) pins s σ H Q I ⟨m,ρ,st,rf,rh,aa C.mono a (fun v st1 k m1 H1 x1 e1 r1 r2=>?_) w⟩
  obtain ⟨st2,q,e2,r3,r4⟩:=jL rh e1 r1 r2 k
  exact kH ⟨m,st2,v,r3,r4,aZ (fun _ _ q=>q.ext e2) q⟩
 | .ix a b,X,c,C,x,h=>by
  replace h:=cE h
  obtain ⟨l,r,p,rfl,h⟩:=h
  ·simp only [Bool.and_eq_true] at h
   obtain ⟨⟨h1,h2⟩,h3⟩:=h
   rintro pins s σ H Q I ⟨m,ρ,st,rf,rh,w⟩
   skip
   refine cP (pw (uD C.room.units) (ax a C _ h2) (ax b C _ h3) h1) (fun _=>rfl) pins s σ H Q I ⟨m,ρ,st,rf,rh,aa C.mono a (fun v st1 k m1 H1 x1 e1 r1 r2=>⟨m1,ρ,st1,rf.mono e1,r1,
    aa C.mono b (fun u st2 k2 m2 H2 y2 e2 r3 r4=>⟨m2,st2,v,u,r3,r2.mono e2,r4,eI (fun z st3 q m3 H3 y3 e3 r5 r6=>?_) k2⟩) k⟩) w⟩
   exact kH ⟨m3,st3,z,r5,r6,aZ (fun _ _ q=>q.ext ((e1.trans e2).trans e3)) q⟩
 | .bl _,X,c,C,x,h=>by rintro pins s σ H Q I ⟨m,ρ,st,rf,rh,w⟩;exact False.elim w
 | .int _,X,c,C,x,h=>by rintro pins s σ H Q I ⟨m,ρ,st,rf,rh,w⟩;exact False.elim w
 | .non,X,c,C,x,h=>by rintro pins s σ H Q I ⟨m,ρ,st,rf,rh,w⟩;exact False.elim w
 | .str _,X,c,C,x,h=>by rintro pins s σ H Q I ⟨m,ρ,st,rf,rh,w⟩;exact False.elim w
 | .gv _ _,X,c,C,x,h=>by rintro pins s σ H Q I ⟨m,ρ,st,rf,rh,w⟩;exact False.elim w
 | .tup _,X,c,C,x,h=>by rintro pins s σ H Q I ⟨m,ρ,st,rf,rh,w⟩;exact False.elim w
 | .lst _,X,c,C,x,h=>by rintro pins s σ H Q I ⟨m,ρ,st,rf,rh,w⟩;exact False.elim w
 | .dct0,X,c,C,x,h=>by rintro pins s σ H Q I ⟨m,ρ,st,rf,rh,w⟩;exact False.elim w
 | .bad,X,c,C,x,h=>by rintro pins s σ H Q I ⟨m,ρ,st,rf,rh,w⟩;exact False.elim w
 | .dct1 _ _,X,c,C,x,h=>by rintro pins s σ H Q I ⟨m,ρ,st,rf,rh,w⟩;exact False.elim w
 | .bin _ _ _,X,c,C,x,h=>by rintro pins s σ H Q I ⟨m,ρ,st,rf,rh,w⟩;exact False.elim w
 | .neg _,X,c,C,x,h=>by rintro pins s σ H Q I ⟨m,ρ,st,rf,rh,w⟩;exact False.elim w
 | .ite _ _ _,X,c,C,x,h=>by rintro pins s σ H Q I ⟨m,ρ,st,rf,rh,w⟩;exact False.elim w
 | .sl _ _ _,X,c,C,x,h=>by rintro pins s σ H Q I ⟨m,ρ,st,rf,rh,w⟩;exact False.elim w
 | .met _ _ _,X,c,C,x,h=>by rintro pins s σ H Q I ⟨m,ρ,st,rf,rh,w⟩;exact False.elim w
 | .eqd ne a b,X,c,C,x,h=>by
  replace h:=dL h
  obtain ⟨l,o,r,p,rfl,h⟩:=h
  simp only [Bool.and_eq_true,beq_iff_eq,Bool.not_eq_true',beq_eq_false_iff_ne] at h
  obtain ⟨⟨⟨h1,n1⟩,h2⟩,h3⟩:=h
  subst h1
  rintro pins s σ H Q I ⟨m,ρ,st,rf,rh,w⟩
  refine nX (qI (by have:=C.room.un;omega) ne) (ax a C _ h2) (ax b C _ h3) n1 pins s σ H Q I ⟨m,ρ,st,rf,rh,aa C.mono a (fun v st1 k m1 H1 x1 e1 r1 r2=>⟨m1,ρ,st1,rf.mono e1,r1,
   aa C.mono b (fun u st2 k2 m2 H2 y2 e2 r3 r4=>⟨m2,st2,v,u,r3,r2.mono e2,r4,k2.1,?_⟩) k⟩) w⟩
  intro m' H' y e3 r5 r6
  rw [R_bl] at r6
  exact ⟨!ne,r6,k2.2 m' H' ((e1.trans e2).trans e3) r5⟩
 | .compK _ _ _ _ _ _ _,X,c,C,x,h=>by rintro pins s σ H Q I ⟨m,ρ,st,rf,rh,w⟩;exact False.elim w
 | .compD _ _ _ _ _ _ _ _,X,c,C,x,h=>by rintro pins s σ H Q I ⟨m,ρ,st,rf,rh,w⟩;exact False.elim w
 | .dcl _,X,c,C,x,h=>by rintro pins s σ H Q I ⟨m,ρ,st,rf,rh,w⟩;exact False.elim w
 | .comp _ _ _ _ _ _,X,c,C,x,h=>by rintro pins s σ H Q I ⟨m,ρ,st,rf,rh,w⟩;exact False.elim w
 | .pcall _ _,X,c,C,x,h=>by rintro pins s σ H Q I ⟨m,ρ,st,rf,rh,w⟩;exact False.elim w
 | .hm _ _ _,X,c,C,x,h=>by rintro pins s σ H Q I ⟨m,ρ,st,rf,rh,w⟩;exact False.elim w
 | .jrev _,X,c,C,x,h=>by rintro pins s σ H Q I ⟨m,ρ,st,rf,rh,w⟩;exact False.elim w
 | .dcp _,X,c,C,x,h=>by rintro pins s σ H Q I ⟨m,ρ,st,rf,rh,w⟩;exact False.elim w
 | .clr _,X,c,C,x,h=>by rintro pins s σ H Q I ⟨m,ρ,st,rf,rh,w⟩;exact False.elim w
 | .sset _,X,c,C,x,h=>by rintro pins s σ H Q I ⟨m,ρ,st,rf,rh,w⟩;exact False.elim w
 | .part _ _,X,c,C,x,h=>by rintro pins s σ H Q I ⟨m,ρ,st,rf,rh,w⟩;exact False.elim w
theorem vB:∀(es:Es) {X:Cx} {c:Cfg} (C:COk X c Γ) (xs:List Expr) (pos:Pos),cm c es xs=true→xs.isEmpty=false→PE X (.BoolOp .And xs pos) (TEx X.K (jN Γ es))
 | .nil,X,c,C,xs,pos,h,hn=>by
  have h:xs.isEmpty=true:=h
  rw [h] at hn
  cases hn
 | .cons e .nil,X,c,C,xs,pos,h,hn=>by
  replace h:=aA h
  obtain ⟨y,ys,rfl,h⟩:=h
  ·simp only [Bool.and_eq_true] at h
   obtain ⟨⟨h1,h2⟩,h3⟩:=h
   have h3:ys.isEmpty=true:=h3
   cases ys with
   | nil =>
    rintro pins s σ H Q I ⟨m,ρ,st,rf,rh,w⟩
    skip
    exact ph (ax e C _ h2) pins s σ H Q I ⟨m,ρ,st,rf,rh,w⟩
   | cons _ _=>cases h3
 | .cons e (.cons e2 es),X,c,C,xs,pos,h,hn=>by
  replace h:=aA h
  obtain ⟨y,ys,rfl,h⟩:=h
  ·simp only [Bool.and_eq_true] at h
   obtain ⟨⟨h1,h2⟩,h3⟩:=h
   cases ys with
   | nil=>exact Bool.noConfusion (show false=true from h3)
   | cons y2 ys =>
    rintro pins s σ H Q I ⟨m,ρ,st,rf,rh,w⟩
    skip
    refine v3 (ax e C _ h2) (vB (.cons e2 es) C (y2::ys) pos h3 rfl) pins s σ H Q I ⟨m,ρ,st,rf,rh,aa C.mono e (fun v st1 k m1 H1 x1 e1 r1 r2=>?_) w⟩
    obtain ⟨b,rfl,k⟩:=k
    rw [R_bl] at r2
    subst r2
    refine ⟨b,rfl,?_⟩
    cases b with
    | true=>rw [if_pos rfl] at k ⊢;exact ⟨m1,ρ,st1,rf.mono e1,r1,fO C.mono _ (fun _ _ q=>q.ext e1) k⟩
    | false=>rw [if_neg Bool.false_ne_true] at k ⊢;exact (k.ext e1).here r1 (R_bl.mpr rfl)
theorem ue:∀(es:Es) {X:Cx} {c:Cfg} (C:COk X c Γ) (xs:List Expr) (pos:Pos),cm c es xs=true→xs.isEmpty=false→PE X (.BoolOp .Or xs pos) (TEx X.K (jr Γ es))
 | .nil,X,c,C,xs,pos,h,hn=>by
  have h:xs.isEmpty=true:=h
  rw [h] at hn
  cases hn
 | .cons e .nil,X,c,C,xs,pos,h,hn=>by
  replace h:=aA h
  obtain ⟨y,ys,rfl,h⟩:=h
  ·simp only [Bool.and_eq_true] at h
   obtain ⟨⟨h1,h2⟩,h3⟩:=h
   have h3:ys.isEmpty=true:=h3
   cases ys with
   | nil =>
    rintro pins s σ H Q I ⟨m,ρ,st,rf,rh,w⟩
    skip
    exact ph (ax e C _ h2) pins s σ H Q I ⟨m,ρ,st,rf,rh,w⟩
   | cons _ _=>cases h3
 | .cons e (.cons e2 es),X,c,C,xs,pos,h,hn=>by
  replace h:=aA h
  obtain ⟨y,ys,rfl,h⟩:=h
  ·simp only [Bool.and_eq_true] at h
   obtain ⟨⟨h1,h2⟩,h3⟩:=h
   cases ys with
   | nil=>exact Bool.noConfusion (show false=true from h3)
   | cons y2 ys =>
    rintro pins s σ H Q I ⟨m,ρ,st,rf,rh,w⟩
    skip
    refine xR (ax e C _ h2) (ue (.cons e2 es) C (y2::ys) pos h3 rfl) pins s σ H Q I ⟨m,ρ,st,rf,rh,aa C.mono e (fun v st1 k m1 H1 x1 e1 r1 r2=>?_) w⟩
    obtain ⟨b,rfl,k⟩:=k
    rw [R_bl] at r2
    subst r2
    refine ⟨b,rfl,?_⟩
    cases b with
    | true=>rw [if_pos rfl] at k ⊢;exact (k.ext e1).here r1 (R_bl.mpr rfl)
    | false=>rw [if_neg Bool.false_ne_true] at k ⊢;exact ⟨m1,ρ,st1,rf.mono e1,r1,ff C.mono _ (fun _ _ q=>q.ext e1) k⟩
theorem u7:∀(es:Es) {X:Cx} {c:Cfg} (C:COk X c Γ) (xs:List Expr) (pos:Pos),fV c es xs=true→xs.isEmpty=false→PW X (.BoolOp .And xs pos) (TTx X.K (bN Γ es))
 | .nil,X,c,C,xs,pos,h,hn=>by
  have h:xs.isEmpty=true:=h
  rw [h] at hn
  cases hn
 | .cons e .nil,X,c,C,xs,pos,h,hn=>by
  replace h:=aA h
  obtain ⟨y,ys,rfl,h⟩:=h
  ·simp only [Bool.and_eq_true] at h
   obtain ⟨h2,h3⟩:=h
   have h3:ys.isEmpty=true:=h3
   cases ys with
   | nil =>
    rintro whole pins s σ H Q I ⟨m,ρ,st,rf,rh,w⟩
    skip
    exact sF (io e C _ h2) whole pins s σ H Q I ⟨m,ρ,st,rf,rh,w⟩
   | cons _ _=>cases h3
 | .cons e (.cons e2 es),X,c,C,xs,pos,h,hn=>by
  replace h:=aA h
  obtain ⟨y,ys,rfl,h⟩:=h
  ·simp only [Bool.and_eq_true] at h
   obtain ⟨h2,h3⟩:=h
   cases ys with
   | nil=>exact Bool.noConfusion (show false=true from h3)
   | cons y2 ys =>
    rintro whole pins s σ H Q I ⟨m,ρ,st,rf,rh,w⟩
    skip
    refine wY (io e C _ h2) (u7 (.cons e2 es) C (y2::ys) pos h3 rfl) whole pins s σ H Q I ⟨m,ρ,st,rf,rh,aC C.mono e (fun b st1 k m1 H1 e1 r1=>?_) w⟩
    cases b with
    | true=>rw [if_pos rfl] at k ⊢;exact ⟨m1,ρ,st1,rf.mono e1,r1,aB C.mono _ (fun _ _ q=>q.ext e1) k⟩
    | false=>rw [if_neg Bool.false_ne_true] at k ⊢;exact k m1 H1 e1 r1
theorem uC:∀(es:Es) {X:Cx} {c:Cfg} (C:COk X c Γ) (xs:List Expr) (pos:Pos),fV c es xs=true→xs.isEmpty=false→PW X (.BoolOp .Or xs pos) (TTx X.K (jy Γ es))
 | .nil,X,c,C,xs,pos,h,hn=>by
  have h:xs.isEmpty=true:=h
  rw [h] at hn
  cases hn
 | .cons e .nil,X,c,C,xs,pos,h,hn=>by
  replace h:=aA h
  obtain ⟨y,ys,rfl,h⟩:=h
  ·simp only [Bool.and_eq_true] at h
   obtain ⟨h2,h3⟩:=h
   have h3:ys.isEmpty=true:=h3
   cases ys with
   | nil =>
    rintro whole pins s σ H Q I ⟨m,ρ,st,rf,rh,w⟩
    skip
    exact xk (io e C _ h2) whole pins s σ H Q I ⟨m,ρ,st,rf,rh,w⟩
   | cons _ _=>cases h3
 | .cons e (.cons e2 es),X,c,C,xs,pos,h,hn=>by
  replace h:=aA h
  obtain ⟨y,ys,rfl,h⟩:=h
  ·simp only [Bool.and_eq_true] at h
   obtain ⟨h2,h3⟩:=h
   cases ys with
   | nil=>exact Bool.noConfusion (show false=true from h3)
   | cons y2 ys =>
    rintro whole pins s σ H Q I ⟨m,ρ,st,rf,rh,w⟩
    skip
    refine yC (io e C _ h2) (uC (.cons e2 es) C (y2::ys) pos h3 rfl) whole pins s σ H Q I ⟨m,ρ,st,rf,rh,aC C.mono e (fun b st1 k m1 H1 e1 r1=>?_) w⟩
    cases b with
    | true=>rw [if_pos rfl] at k ⊢;exact k m1 H1 e1 r1
    | false=>rw [if_neg Bool.false_ne_true] at k ⊢;exact ⟨m1,ρ,st1,rf.mono e1,r1,fv C.mono _ (fun _ _ q=>q.ext e1) k⟩
theorem eW:∀(t:Tg) {X:Cx} {c:Cfg} (C:COk X c Γ) (x:Expr),eD c t x=true→PG X x (TGx X.K (bd Γ t))
 | .name i,X,c,C,x,h=>by
  replace h:=ad h
  obtain ⟨y,p,rfl,h⟩:=h
  ·simp only [Bool.and_eq_true,beq_iff_eq] at h
   obtain ⟨h1,h2⟩:=C.locx h.2
   rintro pins s σ H v u Q I r ⟨m,ρ,st,p,rf,rh,hr,w⟩
   skip
   exact sw C.ndX (by rw [C.N];exact h.1) h1 h2 pins s σ H v u Q I r (w.here rh (rf.set i hr))
 | .tup ts,X,c,C,x,h=>by
  replace h:=aS h
  obtain ⟨xs,k,p,rfl,h⟩:=h
  ·rintro pins s σ H v u Q I r ⟨m,ρ,st,p,rf,rh,hr,w⟩
   skip
   obtain ⟨vs,rfl,hl,w⟩:=w
   rw [R_tup] at hr
   obtain ⟨a,ys,rfl,g,r2⟩:=hr
   obtain ⟨l1,l2⟩:=ej (env:=X.env) h
   refine vP C.calm (mq ts C _ h) l1 l2 pins s σ H _ u Q I r ⟨a,ys,rfl,g,?_,m,ρ,st,vs,rf,rh,r2,w⟩
   rw [←r2.len]
   exact hl
 | .ltup ts,X,c,C,x,h=>by
  replace h:=aS h
  obtain ⟨xs,k,p,rfl,h⟩:=h
  ·rintro pins s σ H v u Q I r ⟨m,ρ,st,p,rf,rh,hr,w⟩
   skip
   obtain ⟨vs,hvs,hl,w⟩:=w
   obtain ⟨a,ys,rfl,g,r2⟩:=bI rh hr hvs
   obtain ⟨l1,l2⟩:=ej (env:=X.env) h
   refine sS C.calm (mq ts C _ h) l1 l2 pins s σ H _ u Q I r ⟨a,ys,rfl,g,?_,m,ρ,st,vs,rf,rh,r2,w⟩
   rw [←r2.len]
   exact hl
 | .sub o i,X,c,C,x,h=>by
  replace h:=cE h
  obtain ⟨l,rr,pos,rfl,h⟩:=h
  ·simp only [Bool.and_eq_true] at h
   obtain ⟨⟨h1,h2⟩,h3⟩:=h
   rintro pins s σ H v u Q I r ⟨m,ρ,st,p,rf,rh,hr,w⟩
   skip
   refine wT (ax o C _ h2) (ax i C _ h3) (wj C.room.units) (by cases rr <;> first|(intro _;rfl)|cases h1) pins s σ H v u Q I r ⟨m,ρ,st,rf,rh,aa C.mono o (fun a st1 k m1 H1 x1 e1 r1 r2=>⟨m1,ρ,st1,rf.mono e1,r1,
    aa C.mono i (fun b st2 k2 m2 H2 y2 e2 r3 r4=>⟨m2,st2,a,b,p,r3,r2.mono e2,r4,(hr.mono e1).mono e2,iH (fun st3 q H3 e3 r5=>?_) k2⟩) k⟩) w⟩
   exact q m2 H3 σ ((e1.trans e2).trans e3) r5 (((rf.mono e1).mono e2).mono e3)
theorem mq:∀(ts:Tgs) {X:Cx} {c:Cfg} (C:COk X c Γ) (xs:List Expr),gJ c ts xs=true→PGs X xs (zm X.K (cJ Γ ts))
 | .nil,X,c,C,xs,h=>by
  have h:xs.isEmpty=true:=h
  cases xs with
  | nil =>
   rintro pins s σ H v u Q I r ⟨m,ρ,st,p,rf,rh,hr,w⟩
   skip
   obtain ⟨rfl,w⟩:=w
   rw [Rs_nil] at hr
   exact tQ pins s σ H v u Q I r ⟨hr,w.here rh rf⟩
  | cons _ _=>cases h
 | .cons t ts,X,c,C,xs,h=>by
  replace h:=aA h
  obtain ⟨y,ys,rfl,h⟩:=h
  ·simp only [Bool.and_eq_true] at h
   obtain ⟨⟨h1,h2⟩,h3⟩:=h
   rintro pins s σ H v u Q I r ⟨m,ρ,st,p,rf,rh,hr,w⟩
   skip
   obtain ⟨x,q,rfl,w⟩:=w
   rw [Rs_cons] at hr
   obtain ⟨y,ys,rfl,g1,g2⟩:=hr
   refine p5 (eW t C _ h2) (mq ts C _ h3) (by rw [dS h1];rfl) pins s σ H _ u Q I r ⟨y,ys,rfl,m,ρ,st,x,rf,rh,g1,aq C.mono t (fun ρ1 st1 k m1 H1 σ1 e1 r1 r2=>?_) w⟩
   exact ⟨m1,ρ1,st1,q,r2,r1,g2.mono e1,bZ C.mono ts (fun _ _ q=>q.ext e1) k⟩
theorem rj:∀(it:It) {X:Cx} {c:Cfg} (C:COk X c Γ) {tg:Expr} (x:Expr),rc it tg=true→pk c it x=true→PI X tg x (TIx X.K (d9 Γ it))
 | .seq e,X,c,C,tg,x,_,h=>by
  have h:(cI x && aj c e x)=true:=h
  rw [Bool.and_eq_true] at h
  rintro pins s σ H Rr I ⟨m,ρ,st,rf,rh,w⟩
  skip
  refine xc (ax e C x h.2) pins s σ H Rr I ⟨m,ρ,st,rf,rh,aa C.mono e (fun v st1 k m1 H1 x1 e1 r1 r2=>?_) w⟩
  obtain ⟨xs,es,k⟩:=k
  cases v with
  | tup ys =>
   cases es
   rw [R_tup] at r2
   obtain ⟨a,zs,rfl,g,r3⟩:=r2
   exact ⟨a,rfl,.inr ⟨⟨zs,g⟩,k m1 H1 _ e1 r1 (rq g r3)⟩⟩
  | rdl ys =>
   cases es
   rw [cG] at r2
   obtain ⟨a,zs,rfl,g,r3⟩:=r2
   exact ⟨a,rfl,.inl ⟨⟨zs,g.sq⟩,k m1 H1 _ e1 r1 (qY g r3)⟩⟩
  | ref n =>
   unfold bp aO at es
   simp only at es
   split at es
   ·cases es
    rename_i q
    obtain ⟨a,zs,rfl,ea,g,r3⟩:=r1.lst q r2
    exact ⟨a,rfl,.inl ⟨⟨zs,SqL.of g⟩,k m1 H1 _ e1 r1 (oJ r1 q ea)⟩⟩
   ·cases es
  | _=>cases es
 | .range1 a,X,c,C,tg,x,_,h=>by
  replace h:=ay h
  obtain ⟨g,xs,p,rfl,h⟩:=h
  replace h:=ad h
  obtain ⟨y,p2,rfl,h⟩:=h
  replace h:=bu h
  obtain ⟨l,rfl,h⟩:=h
  ·simp only [Bool.and_eq_true,beq_iff_eq] at h
   obtain ⟨⟨⟨h1,h2⟩,h3⟩,h4⟩:=h
   subst h1
   obtain ⟨g1,g2,g3,g4⟩:=C.bltx h2
   rintro pins s σ H Rr I ⟨m,ρ,st,rf,rh,w⟩
   skip
   have hA:PA X [_] (fT (TEx X.K (wpE Γ a)) mj):=pac (ax a C _ h4) dn h3
   refine oQ g1 g4 hA (bi h3) pins s σ H Rr I ⟨m,ρ,st,rf,rh,aa C.mono a (fun v st1 k m1 H1 x1 e1 r1 r2=>?_) w⟩
   obtain ⟨j,rfl,k1,k2,k⟩:=k
   rw [R_int] at r2
   subst r2
   exact ⟨j,rfl,k1,k2,k m1 H1 _ e1 r1 gZ⟩
 | .range2 a b,X,c,C,tg,x,_,h=>by
  replace h:=ay h
  obtain ⟨g,xs,p,rfl,h⟩:=h
  replace h:=ad h
  obtain ⟨y,p2,rfl,h⟩:=h
  replace h:=dH h
  obtain ⟨l,r,rfl,h⟩:=h
  ·simp only [Bool.and_eq_true,beq_iff_eq] at h
   obtain ⟨⟨⟨⟨⟨h1,h2⟩,h3⟩,h3'⟩,h4⟩,h5⟩:=h
   subst h1
   obtain ⟨g1,g2,g3,g4⟩:=C.bltx h2
   rintro pins s σ H Rr I ⟨m,ρ,st,rf,rh,w⟩
   skip
   have hA:PA X [_,_] (fT (TEx X.K (wpE Γ a)) (fT (TEx X.K (wpE Γ b)) mj)):=pac (ax a C _ h4) (pac (ax b C _ h5) dn h3') h3
   refine oH g1 g4 hA (by rw [bi h3,bi h3'];rfl) (bi h3') pins s σ H Rr I ⟨m,ρ,st,rf,rh,aa C.mono a (fun v st1 k m1 H1 x1 e1 r1 r2=>⟨m1,ρ,st1,rf.mono e1,r1,
    aa C.mono b (fun u st2 k2 m2 H2 y2 e2 r3 r4=>?_) k⟩) w⟩
   obtain ⟨i,j,rfl,rfl,k1,k⟩:=k2
   rw [R_int] at r2 r4
   subst r2 r4
   exact ⟨i,j,rfl,k1,k m2 H2 _ (e1.trans e2) r3 gZ⟩
 | .zip _ _,X,c,C,tg,x,ht,h=>by rintro pins s σ H Rr I ⟨m,ρ,st,rf,rh,w⟩;exact False.elim w
 | .zip3 _ _ _,X,c,C,tg,x,ht,h=>by rintro pins s σ H Rr I ⟨m,ρ,st,rf,rh,w⟩;exact False.elim w
 | .enum a,X,c,C,tg,x,ht,h=>by
  replace h:=ay h
  obtain ⟨g,xs,p,rfl,h⟩:=h
  replace h:=ad h
  obtain ⟨y,p2,rfl,h⟩:=h
  replace h:=bu h
  obtain ⟨l,rfl,h⟩:=h
  ·simp only [Bool.and_eq_true,beq_iff_eq] at h
   obtain ⟨⟨⟨h1,h2⟩,h3⟩,h4⟩:=h
   subst h1
   obtain ⟨g1,g2,g3,g4⟩:=C.bltx h2
   cases tg with
   | Tuple elts kt pt =>
    rintro pins s σ H Rr I ⟨m,ρ,st,rf,rh,w⟩
    skip
    have hA:PA X [_] (fT (TEx X.K (wpE Γ a)) mj):=pac (ax a C _ h4) dn h3
    refine tF g1 g4 hA (bi h3) pins s σ H Rr I ⟨m,ρ,st,rf,rh,aa C.mono a (fun v st1 k m1 H1 x1 e1 r1 r2=>?_) w⟩
    obtain ⟨xs,rfl,k⟩:=k
    rw [R_tup] at r2
    obtain ⟨a1,zs,rfl,g,r3⟩:=r2
    exact ⟨a1,rfl,⟨zs,g⟩,k m1 H1 _ e1 r1 (oO g r3)⟩
   | _=>cases ht
 | .chars e,X,c,C,tg,x,_,h=>by
  have h:(cI x && aj c e x)=true:=h
  rw [Bool.and_eq_true] at h
  rintro pins s σ H Rr I ⟨m,ρ,st,rf,rh,w⟩
  refine rJ (ax e C x h.2) pins s σ H Rr I ⟨m,ρ,st,rf,rh,aa C.mono e (fun v st1 k m1 H1 x1 e1 r1 r2=>?_) w⟩
  obtain ⟨z,rfl,k⟩:=k
  rw [R_str] at r2
  exact ⟨z,r2,k m1 H1 _ e1 r1 mD⟩
 | .range3 _ _ _,X,c,C,tg,x,_,h=>by rintro pins s σ H Rr I ⟨m,ρ,st,rf,rh,w⟩;exact False.elim w
theorem fB:∀(es:Es) {X:Cx} {c:Cfg} (C:COk X c Γ) (xs:List Expr),fV c es xs=true→PTs X xs (TTx X.K (bN Γ es))
 | .nil,X,c,C,xs,h=>by
  have h:xs.isEmpty=true:=h
  cases xs with
  | nil =>
   rintro pins s σ H Q I ⟨m,ρ,st,rf,rh,w⟩
   skip
   exact nA pins s σ H Q I (w m H (Ext.refl _ _ _) rh)
  | cons _ _=>cases h
 | .cons e .nil,X,c,C,xs,h=>by
  replace h:=aA h
  obtain ⟨y,ys,rfl,h⟩:=h
  ·simp only [Bool.and_eq_true] at h
   obtain ⟨h2,h3⟩:=h
   have h3:ys.isEmpty=true:=h3
   cases ys with
   | nil =>
    rintro pins s σ H Q I ⟨m,ρ,st,rf,rh,w⟩
    skip
    refine kG (io e C _ h2) nA pins s σ H Q I ⟨m,ρ,st,rf,rh,aC C.mono e (fun b st1 k m1 H1 e1 r1=>?_) w⟩
    cases b with
    | true=>rw [if_pos rfl];exact k m1 H1 e1 r1
    | false=>rw [if_neg Bool.false_ne_true];exact k m1 H1 e1 r1
   | cons _ _=>cases h3
 | .cons e (.cons e2 es),X,c,C,xs,h=>by
  replace h:=aA h
  obtain ⟨y,ys,rfl,h⟩:=h
  ·simp only [Bool.and_eq_true] at h
   obtain ⟨h2,h3⟩:=h
   rintro pins s σ H Q I ⟨m,ρ,st,rf,rh,w⟩
   skip
   refine kG (io e C _ h2) (fB (.cons e2 es) C _ h3) pins s σ H Q I ⟨m,ρ,st,rf,rh,aC C.mono e (fun b st1 k m1 H1 e1 r1=>?_) w⟩
   cases b with
   | true=>rw [if_pos rfl] at k ⊢;exact ⟨m1,ρ,st1,rf.mono e1,r1,aB C.mono _ (fun _ _ q=>q.ext e1) k⟩
   | false=>rw [if_neg Bool.false_ne_true] at k ⊢;exact k m1 H1 e1 r1
end
end
end FW
set_option Elab.async false
set_option linter.all false
set_option maxRecDepth 100000
set_option maxHeartbeats 1000000
namespace FW
open PySem PySem.Spec PyProof.Rows L2 HX
section
variable {X:Cx} {c:Cfg} {Γ:Nat→FSp} {tg:Expr}
noncomputable def AE (K:PySem.W.Frag) (m:List Addr) (H:Hp) (D:L2.Ends):aJ:={ nx:=postF K m H D.nx,rt:=post K m H D.rt,bk:=postF K m H D.bk,ct:=postF K m H D.ct }
noncomputable def TSx (K:PySem.W.Frag) (w:Fr→AH→aJ→Prop):TS:=fun D σ H=>∃m ρ st,RF K m H ρ σ∧RH K m H st∧w ρ st (AE K m H D)
theorem AE.ext {K:PySem.W.Frag} {m m1:List Addr} {H H1:Hp} {D:L2.Ends} (x:Ext K m H m1 H1):eS (AE K m H D) (AE K m1 H1 D) :=
 ⟨fun _ _ q=>q.ext x,fun _ _ q=>q.ext x,fun _ _ q=>q.ext x,fun _ _ q=>q.ext x⟩
theorem sA (G:aV Γ) {t:Tg} {it:It} {b:Ss} {D:L2.Ends} {σ:L2.St} {H:Hp} (h:TSx X.K (wpS Γ (.forS t it b)) D σ H):yL (TIx X.K (d9 Γ it)) (TGx X.K (bd Γ t)) (TSx X.K (aK Γ b)) D σ H:=by
 obtain ⟨m,ρ,st,rf,rh,w⟩:=h
 skip
 refine ⟨m,ρ,st,rf,rh,cK G it (fun xs chk st1 k m1 H1 J e1 r1 W=>?_) w⟩
 refine ⟨fun i n σ' H'=>n+i=xs.length∧∃m' ρ' st',Ext X.K m1 H1 m' H'∧RH X.K m' H' st'∧RF X.K m' H' ρ' σ'∧jU chk (fun x ρ' st' D'=>bd Γ t x ρ' st' fun ρ2 st2=>aK Γ b ρ2 st2 D') (AE X.K m H D) (xs.drop i) ρ' st',
  ⟨xs.length,rfl,m1,ρ,st1,Ext.refl _ _ _,r1,rf.mono e1,by simpa using k⟩,?_⟩
 rintro i n σ' H' ⟨hn,m',ρ',st',x',rh',rf',k'⟩
 cases q:xs.drop i with
 | nil =>
  rw [q] at k'
  have hi:i=xs.length:=by
   have:=congrArg List.length q
   simp at this
   omega
  subst hi
  exact .inl ⟨W.stop m' H' st' x' rh' k'.1,k'.2 m' H' σ' (e1.trans x') rh' rf'⟩
 | cons v rest =>
  rw [q] at k'
  have hi:i<xs.length:=by
   have:=congrArg List.length q
   simp at this
   omega
  have ev:xs[i]?=some v:=by
   have:=congrArg List.head? q
   rw [List.head?_drop] at this
   exact this
  have er:rest=xs.drop (i+1):=by
   have:=congrArg List.tail q
   rw [List.tail_drop] at this
   exact this.symm
  subst er
  obtain ⟨kc,k'⟩:=k'
  obtain ⟨go,yl⟩:=W.item i v m' H' st' x' rh' kc ev
  refine .inr ⟨go,fun σ'' H''=>(n-1+(i+1)=xs.length∧∃m' ρ' st',Ext X.K m1 H1 m' H''∧RH X.K m' H'' st'∧RF X.K m' H'' ρ' σ''∧jU chk (fun x ρ' st' D'=>bd Γ t x ρ' st' fun ρ2 st2=>aK Γ b ρ2 st2 D') (AE X.K m H D) (xs.drop (i+1)) ρ' st'),fun σ'' H'' z=>⟨n-1,by omega,z⟩,fun y H2 hy=>?_⟩
  obtain ⟨x2,r2,rv⟩:=yl y H2 hy
  refine ⟨m',ρ',st',v,rf'.mono x2,r2,rv,aq G t (fun ρ3 st3 k3 m3 H3 σ3 x3 r3 f3=>?_) k'⟩
  refine ⟨m3,ρ3,st3,f3,r3,aE G b ?_ k3⟩
  have xx:Ext X.K m H m3 H3:=((e1.trans x').trans x2).trans x3
  refine ⟨fun ρ4 st4 k4 m4 H4 σ4 x4 r4 f4=>⟨by omega,m4,ρ4,st4,((x'.trans x2).trans x3).trans x4,r4,f4,k4⟩,fun v4 st4 k4=>k4.ext xx,fun ρ4 st4 k4=>k4.ext xx,fun ρ4 st4 k4 m4 H4 σ4 x4 r4 f4=>⟨by omega,m4,ρ4,st4,((x'.trans x2).trans x3).trans x4,r4,f4,k4⟩⟩
theorem oY (G:aV Γ) {cd:E} {b:Ss} {D:L2.Ends} {σ:L2.St} {H:Hp} (h:TSx X.K (wpS Γ (.whileS cd b)) D σ H):qM (TTx X.K (wpT Γ cd)) (TSx X.K (aK Γ b)) D σ H:=by
 obtain ⟨m,ρ,st,rf,rh,w⟩:=h
 skip
 obtain ⟨n0,w⟩:=w
 refine ⟨fun n σ' H'=>∃m' ρ' st',Ext X.K m H m' H'∧RH X.K m' H' st'∧RF X.K m' H' ρ' σ'∧ce (wpT Γ cd) (aK Γ b) (AE X.K m H D) n ρ' st',⟨n0,m,ρ,st,Ext.refl _ _ _,rh,rf,w⟩,?_⟩
 rintro n σ' H' ⟨m',ρ',st',x',rh',rf',k'⟩
 cases n with
 | zero=>exact k'.elim
 | succ n =>
  refine ⟨m',ρ',st',rf',rh',aC G cd (fun b st1 k m1 H1 x1 r1=>?_) k'⟩
  cases b with
  | false=>rw [if_neg Bool.false_ne_true] at k ⊢;exact k m1 H1 σ' (x'.trans x1) r1 (rf'.mono x1)
  | true =>
   rw [if_pos rfl] at k ⊢
   refine ⟨fun σ'' H''=>∃m' ρ' st',Ext X.K m H m' H''∧RH X.K m' H'' st'∧RF X.K m' H'' ρ' σ''∧ce (wpT Γ cd) (aK Γ b) (AE X.K m H D) n ρ' st',fun σ'' H'' z=>⟨n,Nat.lt_succ_self _,z⟩,m1,ρ',st1,rf'.mono x1,r1,aE G _ ?_ k⟩
   have xx:=x'.trans x1
   exact ⟨fun ρ4 st4 k4 m4 H4 σ4 x4 r4 f4=>⟨m4,ρ4,st4,xx.trans x4,r4,f4,k4⟩,fun v4 st4 k4=>k4.ext xx,fun ρ4 st4 k4=>k4.ext xx,fun ρ4 st4 k4 m4 H4 σ4 x4 r4 f4=>⟨m4,ρ4,st4,xx.trans x4,r4,f4,k4⟩⟩
end
end FW
set_option Elab.async false
set_option linter.all false
set_option maxRecDepth 100000
set_option maxHeartbeats 1000000
namespace FW
open PySem PySem.Spec PyProof.Rows L2 HX
noncomputable def gH:Expr→Bool
 | .Name ..=>true
 | _=>false
noncomputable def pN:Expr→Expr→Bool
 | .Tuple ts _ _,.Tuple vs _ _=>(ts.any fun t=>!gH t) || vs.all (foldedForSure 8)
 | .Tuple ..,_=>true
 | .Subscript ..,_=>true
 | _,_=>false
noncomputable def jI (y:Str) (sc:Scope):Bool:=sc.names.any fun x=>match x with|(n,k)=>n == y && (k == .local || k == .cell)
noncomputable def lx (x:Stmt) (f:List Expr→Expr→Bool):Bool:=match x with | .Assign ts v _=>f ts v|_=>false
theorem gu {x:Stmt} {f:List Expr→Expr→Bool} (h:lx x f=true):∃ts v p,x=.Assign ts v p∧f ts v=true:=by
 cases x with|Assign ts v p=>exact ⟨ts,v,p,rfl,h⟩|_=>exact Bool.noConfusion h
noncomputable def si (x:Stmt) (f:Expr→Expr→Bool):Bool:=lx x fun ts v=>on1 ts fun t=>f t v
theorem jo {x:Stmt} {f:Expr→Expr→Bool} (h:si x f=true):∃t v p,x=.Assign [t] v p∧f t v=true:=by
 replace h:=gu h
 obtain ⟨ts,v,p,rfl,h⟩:=h
 replace h:=bu h
 obtain ⟨t,rfl,h⟩:=h
 exact ⟨t,v,p,rfl,h⟩
noncomputable def vb (x:Stmt) (f:Expr→Operator→Expr→Bool):Bool:=match x with | .AugAssign t o v _=>f t o v|_=>false
theorem oV {x:Stmt} {f:Expr→Operator→Expr→Bool} (h:vb x f=true):∃t o v p,x=.AugAssign t o v p∧f t o v=true:=by
 cases x with|AugAssign t o v p=>exact ⟨t,o,v,p,rfl,h⟩|_=>exact Bool.noConfusion h
noncomputable def yM (x:Stmt) (f:Expr→Bool):Bool:=match x with | .Expr v _=>f v|_=>false
theorem rE {x:Stmt} {f:Expr→Bool} (h:yM x f=true):∃v p,x=.Expr v p∧f v=true:=by
 cases x with|Expr v p=>exact ⟨v,p,rfl,h⟩|_=>exact Bool.noConfusion h
noncomputable def pX (x:Stmt) (f:Option Expr→Bool):Bool:=match x with | .Return v _=>f v|_=>false
theorem iQ {x:Stmt} {f:Option Expr→Bool} (h:pX x f=true):∃v p,x=.Return v p∧f v=true:=by
 cases x with|Return v p=>exact ⟨v,p,rfl,h⟩|_=>exact Bool.noConfusion h
noncomputable def xB (x:Stmt) (f:Expr→List Stmt→List Stmt→Bool):Bool:=match x with | .If v a b _=>f v a b|_=>false
theorem qx {x:Stmt} {f:Expr→List Stmt→List Stmt→Bool} (h:xB x f=true):∃v a b p,x=.If v a b p∧f v a b=true:=by
 cases x with|If v a b p=>exact ⟨v,a,b,p,rfl,h⟩|_=>exact Bool.noConfusion h
noncomputable def nJ (x:Stmt) (f:Expr→List Stmt→Bool):Bool:=match x with | .While v a [] _=>f v a|_=>false
theorem ke {x:Stmt} {f:Expr→List Stmt→Bool} (h:nJ x f=true):∃v a p,x=.While v a [] p∧f v a=true:=by
 cases x with
 | While v a b p=>cases b with|nil=>exact ⟨v,a,p,rfl,h⟩|cons _ _=>exact Bool.noConfusion h
 | _=>exact Bool.noConfusion h
noncomputable def vC (x:Stmt) (f:Expr→Expr→List Stmt→Bool):Bool:=match x with | .For t v a [] _=>f t v a|_=>false
theorem oA {x:Stmt} {f:Expr→Expr→List Stmt→Bool} (h:vC x f=true):∃t v a p,x=.For t v a [] p∧f t v a=true:=by
 cases x with
 | For t v a b p=>cases b with|nil=>exact ⟨t,v,a,p,rfl,h⟩|cons _ _=>exact Bool.noConfusion h
 | _=>exact Bool.noConfusion h
noncomputable def pB (x:Stmt):Bool:=match x with | .Pass _=>true|_=>false
theorem lV {x:Stmt} (h:pB x=true):∃p,x=.Pass p:=by
 cases x with|Pass p=>exact ⟨p,rfl⟩|_=>exact Bool.noConfusion h
noncomputable def t_ (x:Stmt):Bool:=match x with | .Break _=>true|_=>false
theorem oi {x:Stmt} (h:t_ x=true):∃p,x=.Break p:=by
 cases x with|Break p=>exact ⟨p,rfl⟩|_=>exact Bool.noConfusion h
noncomputable def pA (x:Stmt):Bool:=match x with | .Continue _=>true|_=>false
theorem mB {x:Stmt} (h:pA x=true):∃p,x=.Continue p:=by
 cases x with|Continue p=>exact ⟨p,rfl⟩|_=>exact Bool.noConfusion h
noncomputable def vV:Tg→Bool
 | .name _=>true
 | _=>false
noncomputable def yy:E→Bool
 | .comp ..=>true
 | _=>false
noncomputable def xi (c:Cfg) (t:Tg) (e:E) (tg x:Expr):Bool :=
 vV t && yy e && al tg fun y py=>qq x fun _ _ sc pos=>c.names.lookup y == some .cell || (c.names.lookup y == some .local && py.line == pos.line && !jI y sc)
noncomputable def yQ:E→Bool
 | .compD ..=>true
 | _=>false
noncomputable def sr (c:Cfg) (t:Tg) (e:E) (tg x:Expr):Bool :=
 vV t && yQ e && al tg fun y py=>wp x fun _ _ _ sc pos=>c.names.lookup y == some .local && py.line == pos.line && !jI y sc
theorem tX {e:E} (h:yQ e=true):∃kx vx tg wk d ifs nt caps,e=.compD kx vx tg wk d ifs nt caps:=by
 cases e with|compD kx vx tg wk d ifs nt caps=>exact ⟨kx,vx,tg,wk,d,ifs,nt,caps,rfl⟩|_=>exact Bool.noConfusion h
noncomputable def yn (c:Cfg) (t:Expr):Bool:=al t fun y _=>c.names.lookup y == some .cell
noncomputable def zt (c:Cfg) (tg x:Expr):Bool:=cj tg fun ts=>(qq x fun _ _ _ _=>true) || cj x fun _=>ts.any (yn c)
mutual
noncomputable def ye (c:Cfg):S→Stmt→Bool
 | .set t e,s=>si s fun tg x=>(eD c t tg && aj c e x) && ((ic x && (gH tg || pN tg x)) || (xi c t e tg x || (zt c tg x || sr c t e tg x)))
 | .par i j a b,s=>si s fun tg vx=>cj tg fun ts=>on2 ts fun ta tb=>al ta fun x px=>al tb fun y py=>cj vx fun us=>on2 us fun u v=>c.N[i]? == some x && c.N[j]? == some y && !(i == j) && !(x == y) && c.names.lookup x == some .local && c.names.lookup y == some .local
    && px.line == py.line && ae u && ae v && !(foldedForSure 8 u && foldedForSure 8 v) && !(constantsAlone 8 u && constantsAlone 8 v) && aj c a u && aj c b v
 | .aug i op e,s=>vb s fun t o x=>al t fun y _=>c.N[i]? == some y && c.loc y && o == op && aj c e x
 | .expr e,s=>yM s fun x=>ic x && aj c e x
 | .ret e,s=>pX s fun o=>fe o fun x=>aj c e x
 | .retN,s=>pX s fun o=>o.isNone
 | .ifS t a b,s=>xB s fun x ys zs=>oo c t x && bB c a ys && bB c b zs
 | .whileS t b,s=>nJ s fun x ys=>oo c t x && bB c b ys
 | .forS t it b,s=>vC s fun tg x ys=>rc it tg && cI x && eD c t tg && pk c it x && bB c b ys
 | .pass,s=>pB s
 | .brk,s=>t_ s
 | .cont,s=>pA s
 | .bad,_=>true
 | .set2 i j e,s=>lx s fun ts v=>on2 ts fun ta tb=>al ta fun x _=>al tb fun y _=>c.N[i]? == some x && c.N[j]? == some y && !(i == j) && c.loc x && c.loc y && ic v && aj c e v
termination_by structural s=>s
noncomputable def bB (c:Cfg):Ss→List Stmt→Bool
 | .nil,xs=>xs.isEmpty
 | .cons s ss,xs=>g_ xs fun y ys=>ye c s y && bB c ss ys
termination_by structural s=>s
end
theorem nw {t:Tg} (h:vV t=true):∃i,t=.name i:=by
 cases t with|name i=>exact ⟨i,rfl⟩|_=>exact Bool.noConfusion h
theorem tj {e:E} (h:yy e=true):∃elt tg it ifs nt caps,e=.comp elt tg it ifs nt caps:=by
 cases e with|comp elt tg it ifs nt caps=>exact ⟨elt,tg,it,ifs,nt,caps,rfl⟩|_=>exact Bool.noConfusion h
theorem cZ {x:Expr} {t:Option Expr} {l:Nat} {env:Env} (h:ic x=true):swapsWith x t l env=pure false:=by
 cases x <;> first|rfl|cases h
theorem dj {x t:Expr} {l:Nat} {env:Env} (h:ic x=true):swapsWithSole [t] x l env=pure false:=by
 unfold swapsWithSole
 exact cZ h
theorem fQ:∀(ts:List Expr) (f:Expr→Option Str),(ts.any fun t=>!gH t)=true→(∀t,gH t=false→f t=none)→(ts.filterMap f).length<ts.length
 | [],f,h,_=>by cases h
 | t::ts,f,h,hf=>by
  rw [List.any_cons,Bool.or_eq_true] at h
  have hl:(ts.filterMap f).length≤ts.length:=List.length_filterMap_le _ _
  rcases h with h|h
  ·rw [List.filterMap_cons,hf t (by simpa using h)]
   simp only [List.length_cons]
   omega
  ·have:=fQ ts f h hf
   rw [List.filterMap_cons]
   cases f t <;> simp only [List.length_cons] <;> omega
theorem eK:∀(ts:List Expr) (P:Expr→Bool) (f:Expr→Option Str),ts.any P=true→(∀t,P t=true→f t=none)→(ts.filterMap f).length<ts.length
 | [],P,f,h,_=>by cases h
 | t::ts,P,f,h,hf=>by
  rw [List.any_cons,Bool.or_eq_true] at h
  have hl:(ts.filterMap f).length≤ts.length:=List.length_filterMap_le _ _
  rcases h with h|h
  ·rw [List.filterMap_cons,hf t h]
   simp only [List.length_cons]
   omega
  ·have:=eK ts P f h hf
   rw [List.filterMap_cons]
   cases f t <;> simp only [List.length_cons] <;> omega
theorem pW {ts vs:List Expr} {k k2:Nat} {p p2:Pos} {env:Env} {P:Expr→Bool} (hs:ts.any P=true) (hP:∀t,P t=true→∃y q,t=.Name y q∧(env.kindOf y == some .local)=false):swappedStores [.Tuple ts k p] (.Tuple vs k2 p2) env=pure none:=by
 unfold swappedStores
 dsimp only
 split
 ·rfl
 ·split
  ·rfl
  ·have hlt:=eK ts P (fun x=>match x with
    | .Name id pos=>if (env.kindOf id == some .local && pos.line == (Option.map (fun x=>x.pos.line) ts.head?).getD 0)=true then some id else none
    | _=>none) hs (fun t ht=>by
     obtain ⟨y,q,rfl,hk⟩:=hP t ht
     show (if (env.kindOf y == some .local && _)=true then some y else none)=none
     rw [hk,Bool.false_and,if_neg Bool.false_ne_true])
   rw [if_pos]
   rw [Bool.or_eq_true]
   left
   rw [bne_iff_ne]
   exact Nat.ne_of_lt hlt
theorem fL {tg x:Expr} {env:Env} (h:pN tg x=true):swappedStores [tg] x env=pure none:=by
 cases tg with
 | Tuple ts k p =>
  cases x with
  | Tuple vs k2 p2 =>
   have hs:((ts.any fun t=>!gH t) || vs.all (foldedForSure 8))=true:=h
   rw [Bool.or_eq_true] at hs
   unfold swappedStores
   dsimp only
   split
   ·rfl
   ·split
    ·rfl
    rcases hs with hs|hs
    rotate_left
    ·split
     ·rfl
     ·first|rfl|rw [if_pos hs]
    ·have hlt:=fQ ts (fun x=>match x with
      | .Name id pos=>if (env.kindOf id == some .local && pos.line == (Option.map (fun x=>x.pos.line) ts.head?).getD 0)=true then some id else none
      | _=>none) hs (fun t ht=>by cases t <;> first|rfl|cases ht)
     rw [if_pos]
     rw [Bool.or_eq_true]
     left
     rw [bne_iff_ne]
     exact Nat.ne_of_lt hlt
  | _=>rfl
 | Subscript a b p=>cases x <;> rfl
 | _=>cases h
noncomputable def mv:Expr→Bool
 | .Starred ..=>true
 | _=>false
theorem i_ {u:Expr} (h:ae u=true):mv u=false:=by
 cases u <;> first|rfl|cases h
theorem mz {u v:Expr} (h1:ae u=true) (h2:ae v=true):([u,v].any fun | .Starred ..=>true|_=>false)=false:=by
 show (mv u || (mv v || false))=false
 rw [i_ h1,i_ h2]
 rfl
theorem qk {env:Env} {x y:Str} {px py pt:Pos} {kt k2:Nat} {pt2:Pos} {u v:Expr} (hb:env.blockKind=.function) (hx:env.kindOf x=some .local) (hy:env.kindOf y=some .local) (hxy:x≠y) (hl:px.line=py.line)
  (h1:ae u=true) (h2:ae v=true) (h3:(foldedForSure 8 u && foldedForSure 8 v)=false) (h4:(constantsAlone 8 u && constantsAlone 8 v)=false) :
  swappedStores [.Tuple [.Name x px,.Name y py] kt pt] (.Tuple [u,v] k2 pt2) env=pure (some [x,y]):=by
 unfold swappedStores
 dsimp only
 have e0:(Option.map (fun x=>x.pos.line) [Expr.Name x px,Expr.Name y py].head?).getD 0=px.line:=rfl
 have e1:([u,v].any fun | .Starred ..=>true|_=>false)=false:=mz h1 h2
 have e2:[u,v].all (foldedForSure 8)=false:=by simpa using h3
 have e3:[u,v].all (constantsAlone 8)=false:=by simpa using h4
 have e4:[x,y].eraseDups.length=2:=by
  have:(y == x)=false:=by simpa using fun z=>hxy z.symm
  simp [List.eraseDups_cons,this]
 rw [if_neg (by simp [hb]),if_neg ?h1]
 case h1=>exact fun z=>Bool.false_ne_true (e1.symm.trans z)
 have e5:(List.filterMap (fun t=>match t with
   | .Name id pos=>if (env.kindOf id == some .local && pos.line == (Option.map (fun x=>x.pos.line) [Expr.Name x px,Expr.Name y py].head?).getD 0)=true then some id else none
   | _=>none) [Expr.Name x px,Expr.Name y py])=[x,y]:=by
  rw [e0]
  simp [List.filterMap_cons,hx,hy,hl]
 generalize hn:List.filterMap _ [Expr.Name x px,Expr.Name y py]=ns
 have hns:ns=[x,y]:=hn.symm.trans e5
 subst hns
 rw [if_neg,if_neg,if_neg]
 ·rw [e3];decide
 ·rw [e2];decide
 ·rw [e4]
  simp
section
variable {X:Cx} {c:Cfg} {Γ:Nat→FSp}
theorem qP {X:Cx} {c:Cfg} {Γ:Nat→FSp} (C:COk X c Γ) {t:Tg} {e:E} {tg x:Expr} {pos:Pos} (h2:eD c t tg=true) (h3:aj c e x=true) (h:xi c t e tg x=true):PS X (.Assign [tg] x pos) (TSx X.K (wpS Γ (.set t e))):=by
 have hE:=ax e C _ h3
 unfold xi at h
 rw [Bool.and_eq_true,Bool.and_eq_true] at h
 obtain ⟨⟨ht,he⟩,h⟩:=h
 replace h:=ad h
 obtain ⟨y,py,rfl,h⟩:=h
 replace h:=dw h
 obtain ⟨ex,gens,sc,cpos,rfl,h⟩:=h
 obtain ⟨i,rfl⟩:=nw ht
 obtain ⟨elt,tg,it,ifs,nt,caps,rfl⟩:=tj he
 ·have h2:(c.N[i]? == some y && c.loc y)=true:=h2
  simp only [Bool.and_eq_true,beq_iff_eq] at h2
  obtain ⟨g1,g2⟩:=C.locx h2.2
  rintro pins s σ H D I ⟨m,ρ,st,rf,rh,w⟩
  simp only [Bool.or_eq_true,Bool.and_eq_true,beq_iff_eq,Bool.not_eq_true'] at h
  rcases h with h|⟨⟨hl,hp⟩,hn⟩
  ·have hk:=C.cel y (.inl h)
   have hs:swapsWith (.ListComp ex gens sc cpos) (some (.Name y py)) pos.line X.env=pure false:=by
    unfold swapsWith
    have:(X.env.kindOf y == some NameKind.local)=false:=by rcases hk with hk|hk <;> rw [hk] <;> rfl
    simp only [this,Bool.and_false,Bool.false_and]
   rw [mH] at w
   refine qO C.ndX (by rw [C.N];exact h2.1) g1 hE hs g2 pins s σ H D I ⟨m,ρ,st,rf,rh,aa C.mono _ (fun v st1 k m1 H1 x1 e1 r1 r2=>?_) w⟩
   try simp only [cq,fM,dG,fo] at k
   exact k m1 H1 _ e1 r1 ((rf.mono e1).set i r2)
  ·have hll:=C.lcl _ hl
   have hs:swapsWith (.ListComp ex gens sc cpos) (some (.Name y py)) pos.line X.env=pure true:=by
    unfold swapsWith
    have q1:(X.env.kindOf y == some NameKind.local)=true:=by unfold Env.kindOf;rw [hll];rfl
    have q2:(X.env.blockKind == ScopeKind.function)=true:=by rw [C.bk];rfl
    have q3:(py.line == cpos.line)=true:=by rw [hp];simp
    unfold jI at hn
    show pure (_ && _ && _ && !_)=_
    rw [q1,q2]
    show pure (true && true && (py.line == cpos.line) && !_)=_
    rw [q3,hn]
    rfl
   replace h3:=dw h3
   obtain ⟨ex',gs',sc',pos',heq,h3⟩:=h3
   cases heq
   replace h3:=bu h3
   obtain ⟨g,rfl,h3⟩:=h3
   obtain ⟨tx,ix,fx,ia⟩:=g
   ·simp only [Bool.and_eq_true,beq_iff_eq] at h3
    obtain ⟨⟨⟨⟨⟨⟨⟨⟨h1,h0⟩,k2'⟩,h3⟩,h4⟩,h5⟩,h6⟩,h7⟩,h8⟩:=h3
    subst h1
    obtain ⟨S,k1,k2,k3,k4⟩:=cF C h4
    have hC:∀s2 H2 fp A,COk (cxC X (nt++caps.filterMap (X.N[·]?)) s2 H2 fp sc A) (c.inner nt caps sc) Γ:=fun s2 H2 fp A=>gC C h4
    skip
    rw [exec_Assign_Name_used _ _ _ _ hs]
    refine wpAny_bind (wpAny_standAt ?_)
    refine wpAny_bind ?_
    unfold evalThenUse
    refine wpAny_bind ?_
    refine e_ (elt:=elt) (tg:=tg) (ifs:=ifs) (nt:=nt) (caps:=caps) (use:=some (assign (.Name y py) X.env)) (Fin:=fun A H'=>D.nx (σ.set i (some (.ref A))) H') (wi:=TIx X.K (d9 Γ it)) C.mono C.calm S rfl k1 k2 k3 k2' h3 (rj it C _ h0 h5) (fun s2 H2 fp A=>eW tg (hC s2 H2 fp A) _ h6) (fun s2 H2 fp A=>fB ifs (hC s2 H2 fp A) _ h7) (fun s2 H2 fp A=>ax elt (hC s2 H2 fp A) _ h8) I ?_ ?_
    ·refine ⟨m,ρ,st,rf,rh,cK C.mono it (fun xs chk st1 z m1 H1 J e1 r1 W=>⟨m1,ρ,st1,xs,chk,rf.mono e1,r1,W,z.1,?_⟩) w⟩
     refine bh (body:=bV Γ elt tg ifs (nt.map (fun _=>none)++caps.map fun i=>(ρ[i]?).join)) (fun _ _ _ _ hk q=>d_ C.mono hk q) (fun vs st2 k m2 H2 A ys e2 r2 Dm hD0 hD ry=>?_) z.2
     have hD1:H A=none:=by
      cases q:H A with
      | none=>rfl
      | some o =>
       by_cases hm:A∈m
       ·exact absurd ((e1.trans e2).pre.subset hm) Dm
       ·exact absurd hD0 (e1.ne hm q)
     try simp only [cq,fM,dG,fo] at k
     exact k _ _ _ ((e1.trans e2).addD hD1) (r2.addD Dm hD ry) ((rf.mono ((e1.trans e2).addD hD1)).set i (R.last r2.len))
    ·intro C' A H' s' m' I' ns fp F
     refine wpAny_assign_Name (fg I' C.ndX (by rw [C.N];exact h2.1) g1 (v:=.ref A) rfl (fun s2 I2 hh=>?_) g2)
     obtain ⟨a,hs2,ha⟩:=hh
     have hne:C'≠a:=by
      rcases ha with rfl|ha
      ·exact fp.2.1
      ·exact fun q=>fp.2.2.2.2.1 _ _ ha q.symm
     refine ⟨m',?_,fun h' hs'=>?_⟩
     ·obtain ⟨o,es,ep,q1,q2⟩:=ns
      exact ⟨o,es,ep,(hs2.2 C' hne).trans q1,q2⟩
     ·refine wpAny_pure (wpAny_pure ?_)
      exact ⟨_,H',I2.turned (t':=s2.toks) (fun b o hb e=>hs'.extBut b o hb e) fp.1 fp.2.1 fp.2.2.2.1 fp.2.2.2.2.1 fp.2.2.2.2.2,F⟩
theorem qt {X:Cx} {c:Cfg} {Γ:Nat→FSp} (C:COk X c Γ) {t:Tg} {e:E} {tg x:Expr} {pos:Pos} (h2:eD c t tg=true) (h3:aj c e x=true) (h:sr c t e tg x=true):PS X (.Assign [tg] x pos) (TSx X.K (wpS Γ (.set t e))):=by
 unfold sr at h
 rw [Bool.and_eq_true,Bool.and_eq_true] at h
 obtain ⟨⟨ht,he⟩,h⟩:=h
 replace h:=ad h
 obtain ⟨y,py,rfl,h⟩:=h
 replace h:=hV h
 obtain ⟨ek,ev,gens,sc,cpos,rfl,h⟩:=h
 obtain ⟨i,rfl⟩:=nw ht
 obtain ⟨kx,vx,tg,wk,d,ifs,nt,caps,rfl⟩:=tX he
 have h2:(c.N[i]? == some y && c.loc y)=true:=h2
 simp only [Bool.and_eq_true,beq_iff_eq] at h2
 obtain ⟨g1,g2⟩:=C.locx h2.2
 rintro pins s σ H D I ⟨m,ρ,st,rf,rh,w⟩
 simp only [Bool.and_eq_true,beq_iff_eq,Bool.not_eq_true'] at h
 obtain ⟨⟨hl,hp⟩,hn⟩:=h
 have hll:=C.lcl _ hl
 have hs:swapsWith (.DictComp ek ev gens sc cpos) (some (.Name y py)) pos.line X.env=pure true:=by
  unfold swapsWith
  have q1:(X.env.kindOf y == some NameKind.local)=true:=by unfold Env.kindOf;rw [hll];rfl
  have q2:(X.env.blockKind == ScopeKind.function)=true:=by rw [C.bk];rfl
  have q3:(py.line == cpos.line)=true:=by rw [hp];simp
  unfold jI at hn
  show pure (_ && _ && _ && !_)=_
  rw [q1,q2]
  show pure (true && true && (py.line == cpos.line) && !_)=_
  rw [q3,hn]
  rfl
 replace h3:=hV h3
 obtain ⟨ek',ev',gs',sc',pos',heq,h3⟩:=h3
 cases heq
 replace h3:=bu h3
 obtain ⟨g,rfl,h3⟩:=h3
 obtain ⟨tx,ix,fx,ia⟩:=g
 simp only [Bool.and_eq_true,beq_iff_eq] at h3
 obtain ⟨⟨⟨⟨⟨⟨⟨⟨⟨h1,h0⟩,k2'⟩,h3⟩,h4⟩,h5⟩,h6⟩,h7⟩,h8⟩,h9⟩:=h3
 subst h1
 obtain ⟨S,k1,k2,k3,k4⟩:=cF C h4
 have hC:∀s2 H2 fp A,COk (cxC X (nt++caps.filterMap (X.N[·]?)) s2 H2 fp sc A) (c.inner nt caps sc) Γ:=fun s2 H2 fp A=>gC C h4
 rw [mH] at w
 rw [exec_Assign_Name_used _ _ _ _ hs]
 refine wpAny_bind (wpAny_standAt ?_)
 refine wpAny_bind ?_
 unfold evalThenUse
 refine wpAny_bind ?_
 refine jb (kx:=kx) (vx:=vx) (tg:=tg) (ifs:=ifs) (nt:=nt) (caps:=caps) (use:=some (assign (.Name y py) X.env)) (Fin:=ql X fun A H'=>D.nx (σ.set i (some (.ref A))) H') (wi:=wiF X Γ wk d) C.mono C.calm S rfl k1 k2 k3 k2' h3 (xg C h0 h5 fun y hy=>ax d C y hy) (fun s2 H2 fp A=>eW tg (hC s2 H2 fp A) _ h6) (fun s2 H2 fp A=>fB ifs (hC s2 H2 fp A) _ h7) (fun s2 H2 fp A=>ax kx (hC s2 H2 fp A) _ h8) (fun s2 H2 fp A=>ax vx (hC s2 H2 fp A) _ h9) I (kD C rf rh w fun n st2 m' H' A e1 r1 r2 q=>?_) ?_
 ·try simp only [cq,fM,dG,fo] at q
  exact q _ _ _ e1 r1 ((rf.mono e1).set i (R_ref.mpr ⟨A,r2,rfl⟩))
 ·rintro C' A H' s' m' I' ns fp ⟨a,o,ys,hF,hz,F⟩
  refine wpAny_assign_Name (fg I' C.ndX (by rw [C.N];exact h2.1) g1 (v:=.ref A) rfl (fun s2 I2 hh=>?_) g2)
  obtain ⟨b,hs2,hb⟩:=hh
  have hne:C'≠b:=by
   rcases hb with rfl|hb
   ·exact fp.2.1
   ·exact fun q=>fp.2.2.2.2.1 _ _ hb q.symm
  refine ⟨m',?_,fun h' hs'=>?_⟩
  ·obtain ⟨o,es,ep,q1,q2⟩:=ns
   exact ⟨o,es,ep,(hs2.2 C' hne).trans q1,q2⟩
  ·refine wpAny_pure (wpAny_pure ?_)
   exact ⟨_,_,gA (I2.turned (t':=s2.toks) (fun b o hb e=>hs'.extBut b o hb e) fp.1 fp.2.1 fp.2.2.2.1 fp.2.2.2.2.1 fp.2.2.2.2.2) hF hz,F⟩
mutual
theorem zo (C:COk X c Γ):∀(e:S) (x:Stmt),ye c e x=true→PS X x (TSx X.K (wpS Γ e))
 | .set t e,x,h=>by
  replace h:=jo h
  obtain ⟨tg,x,pos,rfl,h⟩:=h
  ·simp only [Bool.and_eq_true,Bool.or_eq_true] at h
   obtain ⟨⟨h2,h3⟩,h14⟩:=h
   rcases h14 with ⟨h1,h4⟩|h14|h14|h14
   rotate_left
   ·exact qP C h2 h3 h14
   rotate_left
   ·exact qt C h2 h3 h14
   rotate_right
   ·have hE:=ax e C _ h3
    have hG:=eW t C _ h2
    rintro pins s σ H D I ⟨m,ρ,st,rf,rh,w⟩
    skip
    have rd:tu (TEx X.K (wpE Γ e)) (TGx X.K (bd Γ t)) D σ H:=⟨m,ρ,st,rf,rh,aa C.mono e (fun v st1 k m1 H1 x1 e1 r1 r2=>⟨m1,ρ,st1,v,rf.mono e1,r1,r2,aq C.mono t (fun _ _ q=>q.ext e1) k⟩) w⟩
    obtain ⟨ts,k,p,rfl,h14⟩:=aS h14
    rcases Bool.or_eq_true_iff.mp h14 with h14|h14
    ·obtain ⟨a,b,d,f,rfl,_⟩:=dw h14
     exact gY hE hG rfl rfl rfl pins s σ H D I rd
    ·obtain ⟨us,k2,p2,rfl,h14⟩:=aS h14
     refine gY hE hG rfl (pW (P:=yn c) h14 fun t ht=>?_) rfl pins s σ H D I rd
     obtain ⟨y,q,rfl,hy⟩:=ad (show al t _=true from ht)
     refine ⟨y,q,rfl,?_⟩
     rcases C.cel y (.inl (by simpa using hy)) with hk|hk <;> rw [hk] <;> rfl
   ·have hE:=ax e C _ h3
    have hG:=eW t C _ h2
    rintro pins s σ H D I ⟨m,ρ,st,rf,rh,w⟩
    skip
    have rd:tu (TEx X.K (wpE Γ e)) (TGx X.K (bd Γ t)) D σ H:=⟨m,ρ,st,rf,rh,aa C.mono e (fun v st1 k m1 H1 x1 e1 r1 r2=>⟨m1,ρ,st1,v,rf.mono e1,r1,r2,aq C.mono t (fun _ _ q=>q.ext e1) k⟩) w⟩
    cases t with
    | name i =>
     obtain ⟨y,p,rfl,h2⟩:=ad h2
     have h2:=Bool.and_eq_true_iff.mp h2
     obtain ⟨g1,g2⟩:=C.locx h2.2
     refine qO C.ndX (by rw [C.N];exact beq_iff_eq.mp h2.1) g1 hE (cZ h1) g2 pins s σ H D I ⟨m,ρ,st,rf,rh,aa C.mono e (fun v st1 k m1 H1 x1 e1 r1 r2=>?_) w⟩
     try simp only [cq,fM,dG,fo] at k
     exact k m1 H1 _ e1 r1 ((rf.mono e1).set i r2)
    | tup ts =>
     obtain ⟨xs,k,p,rfl,_⟩:=aS h2
     exact gY hE hG (dj h1) (fL (by rcases h4 with h4|h4;cases h4;exact h4)) rfl pins s σ H D I rd
    | ltup ts =>
     obtain ⟨xs,k,p,rfl,_⟩:=aS h2
     exact gY hE hG (dj h1) (fL (by rcases h4 with h4|h4;cases h4;exact h4)) rfl pins s σ H D I rd
    | sub o i =>
     obtain ⟨l,r,p,rfl,_⟩:=cE h2
     exact gY hE hG (dj h1) (fL (by rcases h4 with h4|h4;cases h4;exact h4)) rfl pins s σ H D I rd
 | .par i j a b,x,h=>by
  replace h:=jo h
  obtain ⟨tg,vx,pos,rfl,h⟩:=h
  replace h:=aS h
  obtain ⟨ts,k,p1,rfl,h⟩:=h
  replace h:=dH h
  obtain ⟨ta,tb,rfl,h⟩:=h
  replace h:=ad h
  obtain ⟨x,px,rfl,h⟩:=h
  replace h:=ad h
  obtain ⟨y,py,rfl,h⟩:=h
  replace h:=aS h
  obtain ⟨us,k2,p2,rfl,h⟩:=h
  replace h:=dH h
  obtain ⟨u,v,rfl,h⟩:=h
  ·simp only [Bool.and_eq_true,beq_iff_eq,Bool.not_eq_true',beq_eq_false_iff_ne] at h
   obtain ⟨⟨⟨⟨⟨⟨⟨⟨⟨⟨⟨⟨h1,h2⟩,h3⟩,h4⟩,h5⟩,h6⟩,h7⟩,h8⟩,h9⟩,h10⟩,h11⟩,h12⟩,h13⟩:=h
   have hx:=C.lcl _ h5
   have hy:=C.lcl _ h6
   rintro pins s σ H D I ⟨m,ρ,st,rf,rh,w⟩
   skip
   refine wL C.calm C.ndX (by rw [C.N];exact h1) (by rw [C.N];exact h2) h3 hx hy (pac (ax a C _ h12) (pac (ax b C _ h13) dn h9) h8)
    (qk C.bk hx hy h4 h7 h8 h9 h10 h11) rfl pins s σ H D I ⟨m,ρ,st,rf,rh,aa C.mono a (fun v st1 k m1 H1 x1 e1 r1 r2=>⟨m1,ρ,st1,rf.mono e1,r1,
    aa C.mono b (fun u st2 k2 m2 H2 y2 e2 r3 r4=>⟨x1,y2,rfl,?_⟩) k⟩) w⟩
   exact k2 m2 H2 _ (e1.trans e2) r3 ((((rf.mono e1).mono e2).set i (r2.mono e2)).set j r4)
 | .aug i op e,x,h=>by
  replace h:=oV h
  obtain ⟨t,o,x,p,rfl,h⟩:=h
  replace h:=ad h
  obtain ⟨y,py,rfl,h⟩:=h
  ·simp only [Bool.and_eq_true,beq_iff_eq] at h
   obtain ⟨⟨⟨h1,h2⟩,h3⟩,h4⟩:=h
   subst h3
   obtain ⟨g1,g2⟩:=C.locx h2
   rintro pins s σ H D I ⟨m,ρ,st,rf,rh,w⟩
   skip
   obtain ⟨v,ev,w⟩:=w
   obtain ⟨y,ey,ry⟩:=rf.at_ i v ev
   refine wW C.ndX (by rw [C.N];exact h1) g1 (ax e C _ h4) (wf _) g2 pins s σ H D I ⟨y,ey,m,ρ,st,rf,rh,aa C.mono e (fun u st1 k m1 H1 x1 e1 r1 r2=>⟨m1,st1,v,u,r1,ry.mono e1,r2,iZ (fun z st2 q m2 H2 z2 e2 r3 r4=>?_) k⟩) w⟩
   exact q m2 H2 _ (e1.trans e2) r3 (((rf.mono e1).mono e2).set i r4)
 | .expr e,x,h=>by
  replace h:=rE h
  obtain ⟨x,p,rfl,h⟩:=h
  ·simp only [Bool.and_eq_true] at h
   rintro pins s σ H D I ⟨m,ρ,st,rf,rh,w⟩
   skip
   exact td (ax e C _ h.2) (cZ h.1) pins s σ H D I ⟨m,ρ,st,rf,rh,aa C.mono e (fun u st1 k m1 H1 x1 e1 r1 r2=>k m1 H1 σ e1 r1 (rf.mono e1)) w⟩
 | .ret e,x,h=>by
  replace h:=iQ h
  obtain ⟨o,p,rfl,h⟩:=h
  replace h:=d3 h
  obtain ⟨x,rfl,h⟩:=h
  ·rintro pins s σ H D I ⟨m,ρ,st,rf,rh,w⟩
   skip
   exact wU (ax e C _ h) pins s σ H D I ⟨m,ρ,st,rf,rh,w⟩
 | .retN,x,h=>by
  replace h:=iQ h
  obtain ⟨o,p,rfl,h⟩:=h
  replace h:=o9 h
  obtain rfl:=h
  ·rintro pins s σ H D I ⟨m,ρ,st,rf,rh,w⟩
   skip
   exact sI pins s σ H D I (post.here w rh (R_non.mpr rfl))
 | .ifS t a b,x,h=>by
  replace h:=qx h
  obtain ⟨x,ys,zs,p,rfl,h⟩:=h
  ·simp only [Bool.and_eq_true] at h
   obtain ⟨⟨h1,h2⟩,h3⟩:=h
   rintro pins s σ H D I ⟨m,ρ,st,rf,rh,w⟩
   skip
   refine yo (io t C _ h1) (gx C a _ h2) (gx C b _ h3) pins s σ H D I ⟨m,ρ,st,rf,rh,aC C.mono t (fun k st1 z m1 H1 e1 r1=>?_) w⟩
   cases k with
   | true=>rw [if_pos rfl] at z ⊢;exact ⟨m1,ρ,st1,rf.mono e1,r1,aE C.mono a (AE.ext e1) z⟩
   | false=>rw [if_neg Bool.false_ne_true] at z ⊢;exact ⟨m1,ρ,st1,rf.mono e1,r1,aE C.mono b (AE.ext e1) z⟩
 | .whileS t b,x,h=>by
  replace h:=ke h
  obtain ⟨x,ys,p,rfl,h⟩:=h
  ·simp only [Bool.and_eq_true] at h
   intro pins s σ H D I w
   exact qb C.pass (io t C _ h.1) (gx C b _ h.2) pins s σ H D I (oY C.mono w)
 | .forS t it b,x,h=>by
  replace h:=oA h
  obtain ⟨tg,x,ys,p,rfl,h⟩:=h
  ·simp only [Bool.and_eq_true] at h
   obtain ⟨⟨⟨⟨h0,h1⟩,h2⟩,h3⟩,h4⟩:=h
   intro pins s σ H D I w
   exact wx C.pass C.calm (rj it C _ h0 h3) (eW t C _ h2) (gx C b _ h4) (h_ h1) pins s σ H D I (sA C.mono w)
 | .bad,x,h=>by
  rintro pins s σ H D I ⟨m,ρ,st,rf,rh,w⟩
  exact False.elim w
 | .set2 i j e,x,h=>by
  replace h:=gu h
  obtain ⟨ts,v,pos,rfl,h⟩:=h
  replace h:=dH h
  obtain ⟨ta,tb,rfl,h⟩:=h
  replace h:=ad h
  obtain ⟨x,px,rfl,h⟩:=h
  replace h:=ad h
  obtain ⟨y,py,rfl,h⟩:=h
  ·simp only [Bool.and_eq_true,beq_iff_eq,Bool.not_eq_true',beq_eq_false_iff_ne] at h
   obtain ⟨⟨⟨⟨⟨⟨h1,h2⟩,h3⟩,h4⟩,h5⟩,h6⟩,h7⟩:=h
   obtain ⟨a1,a2⟩:=C.locx h4
   obtain ⟨b1,b2⟩:=C.locx h5
   rintro pins s σ H D I ⟨m,ρ,st,rf,rh,w⟩
   skip
   refine wpAny_Assign_two (thn (ax e C _ h7 pins s σ H (fun y H1=>D.nx ((σ.set i (some y)).set j (some y)) H1) I ⟨m,ρ,st,rf,rh,aa C.mono e (fun v st1 k m1 H1 x1 e1 r1 r2=>k m1 H1 _ e1 r1 (((rf.mono e1).set i r2).set j r2)) w⟩) fun v s1 ⟨y,H1,I1,r1,q1⟩=>?_) rfl rfl
   refine PySem.wpAny_assign_Name ?_
   refine cg I1 C.ndX (by rw [C.N];exact h1) a1 r1 (fun s2 I2=>?_) a2
   refine PySem.wpAny_assign_Name ?_
   exact cg I2 C.ndX (by rw [C.N];exact h2) b1 r1 (fun s3 I3=>⟨_,H1,I3,q1⟩) b2
 | .pass,x,h=>by
  replace h:=lV h
  obtain ⟨p,rfl⟩:=h
  ·rintro pins s σ H D I ⟨m,ρ,st,rf,rh,w⟩
   skip
   exact sB pins s σ H D I (postF.here w rh rf)
 | .brk,x,h=>by
  replace h:=oi h
  obtain ⟨p,rfl⟩:=h
  ·rintro pins s σ H D I ⟨m,ρ,st,rf,rh,w⟩
   skip
   exact p8 pins s σ H D I (postF.here w rh rf)
 | .cont,x,h=>by
  replace h:=mB h
  obtain ⟨p,rfl⟩:=h
  ·rintro pins s σ H D I ⟨m,ρ,st,rf,rh,w⟩
   skip
   exact kC pins s σ H D I (postF.here w rh rf)
theorem gx (C:COk X c Γ):∀(e:Ss) (x:List Stmt),bB c e x=true→PSs X x (TSx X.K (aK Γ e))
 | .nil,x,h=>by
  have h:x.isEmpty=true:=h
  cases x with
  | nil =>
   rintro pins s σ H D I ⟨m,ρ,st,rf,rh,w⟩
   skip
   exact tN pins s σ H D I (postF.here w rh rf)
  | cons _ _=>cases h
 | .cons e es,x,h=>by
  replace h:=aA h
  obtain ⟨y,ys,rfl,h⟩:=h
  ·simp only [Bool.and_eq_true] at h
   rintro pins s σ H D I ⟨m,ρ,st,rf,rh,w⟩
   skip
   refine qK (zo C e _ h.1) (gx C es _ h.2) pins s σ H D I ⟨m,ρ,st,rf,rh,e8 C.mono e ?_ w⟩
   exact ⟨fun ρ1 st1 k m1 H1 σ1 e1 r1 f1=>⟨m1,ρ1,st1,f1,r1,aE C.mono es (AE.ext e1) k⟩,fun _ _ q=>q,fun _ _ q=>q,fun _ _ q=>q⟩
end
structure GOk (P:Program) (w:World) (K:PySem.W.Frag) (mg:Str→Option Value) (base:Heap) (c:Cfg) (Γ:Nat→FSp):Prop where
 fn:∀f x,f<c.lim→c.fns[f]?=some x→∃ps,Has P w K mg base (f+1) x ps (aY K (Γ f))
 blt:∀x∈c.blts,mg x=none
 gl:∀x v,c.gl.lookup x=some v→∃u y,mg x=some u∧RelV y u∧∀m H,R K m H v y
 mono:aV Γ
noncomputable def frame (n:Nat) (as:List PV):Fr:=as.map some++List.replicate (n-as.length) none
noncomputable def aD (st:AH) (Q:EK):aJ:={ nx:=fun _ st'=>Ret st Q .non st',rt:=Ret st Q }
theorem eJ {K:PySem.W.Frag} {m:List Addr} {H:Hp} {st st':AH} {Q:VK} {v:PV} (rh:RH K m H st) (q:Ret st (post K m H Q) v st'):post K m H Q v st':=by
 rcases q with q|q
 ·exact q
 ·intro m' H' x e r s
  obtain ⟨st1,q,e2,r3,r4⟩:=jL rh e r s q
  exact q m H' x e2 r3 r4
theorem kQ {K:PySem.W.Frag} {m:List Addr} {H:Hp} {N:List Str} {as:List PV} {vs:List V} (r:Rs K m H as vs):RF K m H (frame N.length as) (L2.start N vs):=by
 have hl:=r.len
 refine ⟨by simp [frame,L2.start,hl],fun i v e=>?_⟩
 unfold frame at e
 unfold L2.start
 by_cases hi:i<as.length
 ·rw [List.getElem?_append_left (by simpa using hi),List.getElem?_map] at e
  cases q:as[i]? with
  | none=>rw [q] at e;cases e
  | some a =>
   rw [q] at e
   cases e
   obtain ⟨y,e1,r1⟩:=r.get q
   exact ⟨y,by rw [List.getElem?_append_left (by simp;omega),List.getElem?_map,e1];rfl,r1⟩
 ·rw [List.getElem?_append_right (by simpa using hi),List.getElem?_replicate] at e
  split at e <;> cases e
theorem qd {P:Program} {w:World} {K:PySem.W.Frag} {mg:Str→Option Value} {base:Heap} {x:Str} {st:Stmt} {N ps:List Str} (S:aM N ps (ac st)) {f:Addr} {cdv:Value} {A:Around} {outer:List Env} {s:Shared} {H:Hp} {E:XK}
  (hN:c.N=N) (hn:c.names=(ac st).names) (hr:Room c.lim (A.deeper (envOfC x (ac st) s.heap.objs.size f cdv))) (G:GOk P w K mg base c Γ)
  (lam:c.pc=true→∀ {pins:List (Addr × Obj)} {σ:L2.St} {H2:Hp} {s2:Shared} {b:Addr} {u:Value} {v:V} {Q:VK},L2.Inv (fw CX0 P w K mg base N x (ac st) f cdv A outer s H E).nox pins σ H2 s2→RelV v u→aY K (Γ 1000) [.ref b,v] H2 Q E0 →
   PySem.W.FnAt b s2.heap∧wpAny (model P w) (fw CX0 P w K mg base N x (ac st) f cdv A outer s H E).nox.A (call (.ref b) [u]) (EP (fw CX0 P w K mg base N x (ac st) f cdv A outer s H E).nox pins σ Q) (fw CX0 P w K mg base N x (ac st) f cdv A outer s H E).nox.xe s2)
  (hmo:∀k,c.hm=some k→HmX (fw CX0 P w K mg base N x (ac st) f cdv A outer s H E).nox k) :
  COk (fw CX0 P w K mg base N x (ac st) f cdv A outer s H E).nox c Γ where
 calm:=rfl
 pass:=PassesOwn.never
 N:=hN.symm
 nd:=by rw [hN];exact S.nd
 vis:=fun y h=>by rw [hn] at h;exact h
 loc:=fun y h=>by rw [hn] at h;exact ⟨h,.inl rfl⟩
 lcl:=fun y h=>by rw [hn] at h;exact h
 glb:=fun y h=>by rw [hn] at h;exact h
 bk:=by
  show Env.blockKind (envOfC x (ac st) s.heap.objs.size f cdv)=_
  unfold Env.blockKind
  show (if (ac st).kind.isAnnotationScope=true then _ else (ac st).kind)=_
  rw [S.kind]
  rfl
 cel:=fun y h=>by rw [hn] at h;exact h
 room:=hr
 fn:=G.fn
 blt:=G.blt
 gl:=G.gl
 mono:=G.mono
 lam:=lam
 hmo:=hmo
theorem cB {P:Program} {w:World} {K:PySem.W.Frag} {mg:Str→Option Value} {base:Heap} {x:Str} {st:Stmt} {N ps:List Str} {sp:FSp} {code:Ss} (F:At K mg x st ps) (S:aM N ps (ac st)) (hN:c.N=N) (hn:c.names=(ac st).names)
  (hc:bB c code (ah st)=true) (G:GOk P w K mg base c Γ) (len:∀as st Q,sp as st Q→as.length=ps.length)
  (h:∀as st Q,sp as st Q→aK Γ code (frame N.length as) st (aD st Q)) (hpc:c.pc=false:=by rfl) (hhm:c.hm=none:=by rfl):Has P w K mg base (c.lim+1) x ps (aY K sp):=by
 refine F.ok S (fun vs H Q E ⟨m,st,as,r1,r2,q⟩=>by rw [←r1.len];exact len as st _ q) fun f cdv A outer s H vs Q E hr ⟨m,st',as,r1,r2,q⟩=>?_
 have C:=qd (E:=E) (H:=H) (outer:=outer) (Γ:=Γ) S hN hn hr G (fun z=>by rw [hpc] at z;cases z) fun k z=>by rw [hhm] at z;cases z
 refine ⟨_,gx C code _ hc,m,frame N.length as,st',kQ r1,r2,aE G.mono code ?_ (h as st' _ q)⟩
 exact ⟨fun ρ st2 k m' H' σ' e r f=>eJ r2 k m' H' .non e r (R_non.mpr rfl),fun v st2 k=>eJ r2 k,fun _ _ k=>k.elim,fun _ _ k=>k.elim⟩
end
end FW
set_option Elab.async false
set_option linter.all false
set_option maxRecDepth 100000
set_option maxHeartbeats 1000000
namespace FW
open PySem PySem.Spec PyProof.Rows L2 HX
section
variable {P:Program} {w:World} {K:PySem.W.Frag} {mg:Str→Option Value} {base:Heap} {c c':Cfg} {Γ:Nat→FSp}
theorem GOk.next (G:GOk P w K mg base c Γ) (h1:c'.fns=c.fns) (h2:c'.lim=c.lim+1) (h3:c'.blts=c.blts) (h4:c'.gl=c.gl) {x:Str} {ps:List Str} (hx:c.fns[c.lim]?=some x) (H:Has P w K mg base (c.lim+1) x ps (aY K (Γ c.lim))):GOk P w K mg base c' Γ where
 fn:=fun f y hf e=>by
  rw [h1] at e
  rw [h2] at hf
  by_cases hl:f<c.lim
  ·exact G.fn f y hl e
  ·have:f=c.lim:=by omega
   subst this
   rw [hx] at e
   cases e
   exact ⟨ps,H⟩
 blt:=by rw [h3];exact G.blt
 gl:=by rw [h4];exact G.gl
 mono:=G.mono
theorem sY {x qual:Str} {st:Stmt} {f:Addr} {fd:FuncData} {N ps:List Str} {sp:FSp} {code:Ss} (F:Fun K x x st f fd) (S:aM N ps (ac st)) (hN:c.N=N) (hn:c.names=(ac st).names)
  (hc:bB c code (ah st)=true) (G:GOk P w K mg base c Γ) (len:∀as st Q,sp as st Q→as.length=ps.length)
  (h:∀as st Q,sp as st Q→aK Γ code (frame N.length as) st (aD st Q)) (hpc:c.pc=false:=by rfl) (hhm:c.hm=none:=by rfl):im P w K mg base CX0 (c.lim+1) f fd ps (aY K sp):=by
 refine F.ok S (fun vs H Q E ⟨m,st,as,r1,r2,q⟩=>by rw [←r1.len];exact len as st _ q) fun cdv A outer s H vs Q E hr ⟨m,st',as,r1,r2,q⟩=>?_
 have C:=qd (E:=E) (H:=H) (outer:=outer) (Γ:=Γ) S hN hn hr G (fun z=>by rw [hpc] at z;cases z) fun k z=>by rw [hhm] at z;cases z
 refine ⟨_,gx C code _ hc,m,frame N.length as,st',kQ r1,r2,aE G.mono code ?_ (h as st' _ q)⟩
 exact ⟨fun ρ st2 k m' H' σ' e r f=>eJ r2 k m' H' .non e r (R_non.mpr rfl),fun v st2 k=>eJ r2 k,fun _ _ k=>k.elim,fun _ _ k=>k.elim⟩
end
noncomputable def dR:FSp:=fun as st Q=>∃ns:List Int,as=[.rdl (ns.map PV.int)]∧ns.length≤63∧∀st',Q (.bl true) st'
theorem nC {K:PySem.W.Frag} {m:List Addr} {H:Hp}:∀ {ns:List Int},Rs K m H (ns.map PV.int) (ns.map V.int)
 | []=>by rw [List.map_nil,List.map_nil,Rs_nil]
 | n::ns=>by rw [List.map_cons,List.map_cons,Rs_cons',R_int];exact ⟨rfl,nC⟩
structure wB (K:PySem.W.Frag) (h:Heap):Prop where
 at_:∀x∈aL,∀c T,PySem.W.tabIn K x=some (c,T)→PySem.W.CodeHd h c T∧h.get? T=some (PySem.W.tabObj #[])
structure sE (K:PySem.W.Frag):Prop where
 at_:∀x∈aL,∀c T,PySem.W.tabIn K x=some (c,T)→K.lookup T=none∧∀y∈aL,∀d,PySem.W.tabIn K y=some (d,T)→y=x
structure gm (K:PySem.W.Frag) (mg:Str→Option Value) (base:Heap):Prop where
 hd:∀x∈aL,∀c T,PySem.W.tabIn K x=some (c,T)→PySem.W.CodeHd base c T
 bm:∃bm ob,mg "__builtins__"=some (.ref bm)∧bm≠builtinsNs∧base.get? bm=some ob∧ob.cls=.type "module"∧ob.dict=some builtinsNs∧ob.data=.plain
theorem qT {K:PySem.W.Frag} {H:Hp} {a:Addr} {ns:List Int} (hl:ns.length≤63) (hO:∀ys,H a≠some (.lst ys)) (hS:SqL K H a (ns.map V.int)) (tb:TB K H):aY K dR [.ref a] H (fun v _=>v=.bl true) fun _ _ _=>False:=by
 have hF:RdF K H a (ns.map V.int):=by
  rcases hS with (h|h)|h
  ·exact absurd h (hO _)
  ·exact .inl h
  ·exact .inr h
 refine ⟨[],[],[.rdl (ns.map PV.int)],?_,⟨rfl,List.nodup_nil,fun n c a h=>by simp at h,tb⟩,ns,rfl,hl,fun st' m' H' x e r s=>R_bl.mp s⟩
 rw [Rs_cons',Rs_nil,cG]
 exact ⟨⟨a,_,rfl,hF,nC⟩,rfl⟩
noncomputable def iE (K:PySem.W.Frag) (b:Addr):Prop:=∃x∈aL,∃c,PySem.W.tabIn K x=some (c,b)
open Classical in
noncomputable def ci (K:PySem.W.Frag) (a:Addr) (scr:Option HO):Hp:=fun b=>if b=a then scr else if iE K b then some (.tbl #[]) else none
theorem n5 {P:Program} {w:World} {K:PySem.W.Frag} {mg mb:Str→Option Value} {k:Nat} {fa a:Addr} {fd:FuncData} {x:Str} {s₁:Shared} {vs:List Value} {ns:List Int}
  (KX:K.In s₁.heap) (hns:s₁.heap.Ns mainGlobals mg) (hb:s₁.heap.Ns builtinsNs mb) (hbb:∀x:Str,x≠"__name__"→mb x=bootBuiltins x) (hlim:s₁.heap.NoLimit) (hg:s₁.gens=#[])
  (LT:wB K s₁.heap) (LK:sE K) (hbm:∃bm ob,mg "__builtins__"=some (.ref bm)∧bm≠builtinsNs∧s₁.heap.get? bm=some ob∧ob.cls=.type "module"∧ob.dict=some builtinsNs∧ob.data=.plain)
  (ha:s₁.heap.get? a=some { cls:=.type "list",data:=.seq vs.toArray }) (hi:IntsAre vs ns) (hl:ns.length≤63) (hr:Room k callerA)
  (F:∀base:Heap,K.In base→base.Ns mainGlobals mg→gm K mg base→im P w K mg base CX0 k fa fd [x] (aY K dR)) (hbind:∀(s:Shared) (u:Value),BindsTo s fd ⟨[u],[]⟩ [(x,u)]) :
  codeAny (model P w) callerA (.call (.ref fa) ⟨[.ref a],[]⟩) (fun r s'=>r=.ok (.ret (.bool true))∧OldK s₁.heap s'.heap∧s'.os=s₁.os∧AllBare s'.gens) s₁:=by
 have rv:=iR hi
 have lenV:=hi.length
 have hl2:ns.length≤sizeLine:=Nat.le_trans hl (by decide)
 have tabAt:∀ {b:Addr},iE K b→s₁.heap.get? b=some (PySem.W.tabObj #[]):=fun ⟨x,hx,c,e⟩=>(LT.at_ x hx c _ e).2
 have naT:¬iE K a:=fun z=>by have e:=tabAt z;rw [ha] at e;cases e
 have core:∀scr:Option HO,(∀ys,scr≠some (.lst ys))→SqL K (ci K a scr) a (ns.map V.int)→(∀u,scr=some u→(∃o xs,u=.frz o (.lst xs))∧ObjOk P w (ci K a scr) s₁.heap a u)→(scr≠none→K.lookup a=none) →
   codeAny (model P w) callerA (.call (.ref fa) ⟨[.ref a],[]⟩) (fun r s'=>r=.ok (.ret (.bool true))∧OldK s₁.heap s'.heap∧s'.os=s₁.os∧AllBare s'.gens) s₁:=by
  intro scr hscr hS hso hK
  have atA:ci K a scr a=scr:=if_pos rfl
  have atT:∀ {b:Addr},iE K b→ci K a scr b=some (.tbl #[]):=fun {b} z=>by
   have:b≠a:=fun q=>naT (q ▸ z)
   exact (if_neg this).trans (if_pos z)
  have cs:∀b,ci K a scr b≠none→(b=a∧scr≠none)∨iE K b:=fun b z=>by
   by_cases h1:b=a
   ·exact .inl ⟨h1,by rw [h1,atA] at z;exact z⟩
   ·by_cases h2:iE K b
    ·exact .inr h2
    ·exact absurd ((if_neg h1).trans (if_neg h2)) z
  have hok:HOk P w (ci K a scr) s₁.heap:=fun b u e=>by
   rcases cs b (by rw [e];simp) with ⟨rfl,z⟩|z
   ·rw [atA] at e
    exact (hso u e).2
   ·rw [atT z] at e
    cases e
    exact tabAt z
  have base_of:∀ {b:Addr} {o:Obj},s₁.heap.get? b=some o→ci K a scr b=none→(iw s₁.heap (ci K a scr)).get? b=some o:=fun e n=>rH e n
  have noD:∀ {b:Addr} {o:Obj},s₁.heap.get? b=some o→(∀its n,o.data≠.seq its n)→(∀qs,o.data≠.fields qs)→ci K a scr b=none:=fun {b o} e n1 n2=>by
   cases q:ci K a scr b with
   | none=>rfl
   | some u =>
    rcases cs b (by rw [q];simp) with ⟨rfl,_⟩|z
    ·rw [ha] at e;cases e;exact absurd rfl (n1 _ _)
    ·rw [tabAt z] at e;cases e;exact absurd rfl (n2 _)
  have nsK:∀ {b:Addr} {m:Str→Option Value},s₁.heap.Ns b m→(iw s₁.heap (ci K a scr)).Ns b m:=fun {b m} ⟨o,es,ep,e,d,r⟩=>⟨o,es,ep,base_of e (noD e (fun _ _ z=>by rw [d] at z;cases z) fun _ z=>by rw [d] at z;cases z),d,r⟩
  have hKn:∀ {b:Addr} {o:Obj},K.lookup b=some o→ci K a scr b=none:=fun {b o} e=>by
   cases q:ci K a scr b with
   | none=>rfl
   | some u =>
    rcases cs b (by rw [q];simp) with ⟨rfl,z⟩|⟨x,hx,c,z⟩
    ·rw [hK z] at e;cases e
    ·rw [(LK.at_ x hx c _ z).1] at e;cases e
  have hKb:K.In (iw s₁.heap (ci K a scr)):=fun b o e=>base_of (KX b o e) (hKn e)
  have hM:Mod K mg (iw s₁.heap (ci K a scr)):=⟨hKb,nsK hns,⟨mb,nsK hb,hbb⟩,let ⟨mc,h1,h2⟩:=hlim;⟨mc,nsK h1,h2⟩⟩
  have e0:o8 P w K mg (iw s₁.heap (ci K a scr)) callerA [] s₁ (ci K a scr):=⟨rfl,hM,fun b o e=>sU e,Nat.le_of_eq (oM _ _),trivial,fun b hb=>absurd (show b∈([]:List Addr) from hb) (by simp),hok,.of_eq hg⟩
  have hB:gm K mg (iw s₁.heap (ci K a scr)):=by
   refine ⟨fun x hx c T e=>?_,?_⟩
   ·obtain ⟨o,vs',file,tf,flags,tg,inF,text,tt,q,r⟩:=(LT.at_ x hx c T e).1
    have kc:∃oc,K.lookup c=some oc:=by
     have e':=e
     unfold PySem.W.tabIn at e'
     split at e'
     ·split at e'
      ·split at e'
       ·split at e'
        ·rename_i hh
         split at e'
         ·cases e';exact ⟨_,hh⟩
         ·cases e'
        ·cases e'
       ·cases e'
      ·cases e'
     ·cases e'
    obtain ⟨oc,kc⟩:=kc
    exact ⟨o,vs',file,tf,flags,tg,inF,text,tt,base_of q (hKn kc),r⟩
   ·obtain ⟨bm,ob,b1,b2,b3,b4,b5,b6⟩:=hbm
    exact ⟨bm,ob,b1,b2,base_of b3 (noD b3 (fun _ _ z=>by rw [b6] at z;cases z) fun _ z=>by rw [b6] at z;cases z),b4,b5,b6⟩
  have tb:TB K (ci K a scr):=fun x hx c T e=>⟨(LK.at_ x hx c T e).2,#[],atT ⟨x,hx,c,e⟩,trivial,fun pos cv q=>by cases q⟩
  refine codeAny_mono ((F _ hKb (nsK hns) hB).run callerA [] s₁ (ci K a scr) ⟨[.ref a],[]⟩ [.ref a] [.ref a] _ _ hr e0 (hbind s₁ (.ref a)) (.cons rfl .nil) (qT hl (by rw [atA];exact hscr) hS tb)) fun r s' h=>?_
  cases r with
  | error e=>exact False.elim h
  | ok fl =>
   cases fl with
   | next=>exact False.elim h
   | brk=>exact False.elim h
   | cont=>exact False.elim h
   | ret u =>
    obtain ⟨v,H',os,bare,un,hok',r',q⟩:=h
    have q':v=.bl true:=q
    subst q'
    obtain rfl:u=Value.bool true:=r'
    refine ⟨rfl,⟨fun b o e=>?_,fun b o e=>un.there b o e (by simp)⟩,os,bare⟩
    cases q:ci K a scr b with
    | none=>exact .inl (un.keep b o e q (by intro z;exact absurd (show b∈([]:List Addr) from z) (by simp)) (by simp))
    | some u =>
     rcases cs b (by rw [q];simp) with ⟨rfl,z⟩|z
     ·rw [atA] at q
      obtain ⟨⟨ob,xs,rfl⟩,_⟩:=hso u q
      have z1:ci K b scr b=some (.frz ob (.lst xs)):=by rw [atA];exact q
      have z2:=un.frzs b ob _ z1
      obtain ⟨e1,_⟩:=hok b _ z1
      obtain ⟨e2,_⟩:=hok' b _ z2
      rw [e] at e1;cases e1
      exact .inl e2
     ·obtain ⟨more,z2⟩:=un.tbls b _ (atT z)
      have e1:=tabAt z
      rw [e] at e1
      cases e1
      have e2:s'.heap.get? b=some { cls:=.none,data:=.fields (#[]++more) }:=hok' b _ z2
      obtain ⟨x,hx,c,et⟩:=z
      have ht0:=(LT.at_ x hx c b et)
      exact .inr (.inl ⟨(ht0.1.tab ht0.2).isCodeTable,rfl,#[],more,rfl,e2⟩)
 cases hk:K.lookup a with
 | some o =>
  have e:=KX a o hk
  rw [ha] at e
  cases e
  refine core none (fun _ z=>nomatch z) (.inr ⟨_,vs.toArray,_,hk,rfl,rfl,rfl,by rw [List.size_toArray,lenV];exact hl2,by simpa using rv⟩) (fun u z=>nomatch z) fun z=>absurd rfl z
 | none =>
  refine core (some (.frz { cls:=.type "list",data:=.seq vs.toArray } (.lst (ns.map V.int)))) (fun _ z=>nomatch z) (.inl (.inr ⟨{ cls:=.type "list",data:=.seq vs.toArray },if_pos rfl⟩)) (fun u z=>?_) fun _=>hk
  cases z
  exact ⟨⟨_,_,rfl⟩,ha,by rw [List.length_map];exact hl2,vs,_,rv,ha⟩
theorem walkF {l:PySem.W.OpenLaw} {q:Program} {loose:List Str} {XP:(Str→Option Value)→Heap→Prop} {YP:World→Heap→Prop} {d:DefRec} {K:Params→PySem.W.Frag} {k:Nat} {x:Str} (hn:l.most=some 63) (hdf:d.params.defaults=[]) (hr:Room k callerA)
  (hY:∀(w:World) (h:Heap),YP w h→(K w.params).In h)
  (F:∀(w:World) (mg:Str→Option Value) (fa:Addr) (h:Heap),(K w.params).In h→h.Ns mainGlobals mg→mg d.name=some (.ref fa) →
   ∃fd:FuncData,(∀(s:Shared) (u:Value),BindsTo s fd ⟨[u],[]⟩ [(x,u)])∧sE (K w.params)∧(∀x∈aL,PySem.W.tabIn (K w.params) x=none∨∃d,(recsOf q).find? (fun e=>e.name == x)=some d)∧∀base:Heap,(K w.params).In base→base.Ns mainGlobals mg→gm (K w.params) mg base→im l.prog w (K w.params) mg base CX0 k fa fd [x] (aY (K w.params) dR)) :
  PySem.W.WalkO q loose XP YP l.row.toRowW d [] (fun f vs=>PySem.call f vs):=by
 refine Att.attach_call hn hdf fun w s₀ s₁ mg mb fa o pm cd doc a vs ns G Y ho hd hcd hmg hobj hints hlen hg=>?_
 have KX:=hY w _ Y
 obtain ⟨fd,hb,hK,hq,hF⟩:=F w mg fa _ KX G.T.g hmg
 refine n5 KX G.T.g G.T.b G.T.builtins G.T.nolimit hg ⟨fun x hx c T e=>?_⟩ hK G.T.bmain hobj hints hlen hr hF hb
 rcases hq x hx with z|⟨d,r⟩
 ·rw [z] at e;cases e
 ·exact PySem.W.tab_of G.T KX r e
theorem Sub.refl (st:AH):Sub st st:=fun i _=>.inl rfl
theorem Sub.set {st st':AH} {n:Nat} {c:Cell} (h:Sub st st') (hc:c.bel 0=true):Sub st (st'.set n c):=fun i hi=>by
 by_cases e:n=i
 ·subst e
  by_cases hl:n<st'.length
  ·exact .inr ⟨c,List.getElem?_set_self hl,hc⟩
  ·rw [List.set_eq_of_length_le (by omega)]
   exact h n hi
 ·rw [List.getElem?_set_ne e]
  exact h i hi
theorem Tmp.same {st:AH} {Q:EK} {v:PV} (h:v.bel st.length=true) (q:Q v st):Tmp st Q v st:=⟨st,[],by simp,rfl,Sub.refl st,h,q⟩
theorem Tmp.app {st g:AH} {Q:EK} {v:PV} (h:v.bel st.length=true) (q:Q v st):Tmp st Q v (st++g):=⟨st,g,rfl,rfl,Sub.refl st,h,q⟩
theorem Ret.all {st st':AH} {Q:EK} {v:PV} (q:Q v st'):Ret st Q v st':=.inl q
theorem Ret.cut {st st':AH} {Q:EK} {v:PV} (q:Tmp st Q v st'):Ret st Q v st':=.inr q
theorem ar1 {P:List Value→Prop} (h:∀a,P [a]) (us:List Value) (hl:us.length=1):P us:=by
 match us,hl with
 | [a],_=>exact h a
theorem ar2 {P:List Value→Prop} (h:∀a b,P [a,b]) (us:List Value) (hl:us.length=2):P us:=by
 match us,hl with
 | [a,b],_=>exact h a b
theorem ar3 {P:List Value→Prop} (h:∀a b c,P [a,b,c]) (us:List Value) (hl:us.length=3):P us:=by
 match us,hl with
 | [a,b,c],_=>exact h a b c
end FW
set_option Elab.async false
set_option linter.all false
set_option maxRecDepth 100000
set_option maxHeartbeats 1000000
namespace FW
open PySem PySem.Spec PyProof.Rows L2 HX
section
variable {P:Program} {w:World} {K:PySem.W.Frag} {mg:Str→Option Value} {base:Heap} {c:Cfg} {Γ:Nat→FSp}
theorem lK {x:Str} (z:PySem.W.nsIn K mainGlobals x=some none):PySem.W.tabIn K x=none:=by
 unfold PySem.W.tabIn
 rw [z]
theorem tq (h:∀x∈aL,PySem.W.tabIn K x=none∨∃c T,PySem.W.tabIn K x=some (c,T)∧K.lookup T=none∧∀y∈aL,y≠x→∀d,PySem.W.tabIn K y≠some (d,T)):sE K:=⟨fun x hx c T e=>by
 rcases h x hx with z|⟨c',T',z,n,u⟩
 ·rw [z] at e;cases e
 ·rw [z] at e
  cases e
  exact ⟨n,fun y hy d ed=>Classical.byContradiction fun q=>u y hy q d ed⟩⟩
end
end FW
set_option Elab.async false
set_option linter.all false
set_option maxRecDepth 100000
set_option maxHeartbeats 1000000
namespace FW
open PySem PySem.Spec PyProof.Rows L2 HX
section
variable {Γ:Nat→FSp} {ρ:Fr} {st:AH} {Q:EK} {D:aJ} {a b c:E} {es:Es}
noncomputable def aft (Γ:Nat→FSp) (ss:Ss) (D:aJ):aJ:={ D with nx:=fun ρ' st'=>aK Γ ss ρ' st' D }
noncomputable def LD (I:Fr→AH→Prop) (D:aJ):aJ:={ nx:=I,ct:=I,bk:=D.nx,rt:=D.rt }
noncomputable def yJ (Γ:Nat→FSp) (t:Tg) (b:Ss) (chk:AH→Prop) (D:aJ) (xs:List PV) (ρ:Fr) (st:AH):Prop:=jU chk (fun x ρ' st' D'=>bd Γ t x ρ' st' fun ρ2 st2=>aK Γ b ρ2 st2 D') D xs ρ st
noncomputable def xo (Γ:Nat→FSp) (c:E) (b:Ss) (D:aJ) (ρ:Fr) (st:AH):Prop:=∃n,ce (wpT Γ c) (aK Γ b) D n ρ st
noncomputable def mY (Γ:Nat→FSp) (elt:E) (tg:Tg) (ifs:Es) (chk:AH→Prop) (ρ:Fr) (xs:List PV) (st:AH) (Q:LK):Prop :=
 aG chk (fun x st2 k=>bd Γ tg x ρ st2 fun ρ' st3=>bN Γ ifs ρ' st3 fun c st4=>if c=true then wpE Γ elt ρ' st4 fun v st5=>k (some v) st5 else k none st4) xs [] st Q
theorem re {ss:Ss}:(aft Γ ss D).nx ρ st=aK Γ ss ρ st D:=rfl
theorem rP {ss:Ss} {v:PV}:(aft Γ ss D).rt v st=D.rt v st:=rfl
theorem sd {ss:Ss}:(aft Γ ss D).bk ρ st=D.bk ρ st:=rfl
theorem pY {ss:Ss}:(aft Γ ss D).ct ρ st=D.ct ρ st:=rfl
theorem nI {ss:Ss}:(aft Γ ss D).rt=D.rt:=rfl
theorem vp {I:Fr→AH→Prop}:(LD I D).nx ρ st=I ρ st:=rfl
theorem u_ {I:Fr→AH→Prop}:(LD I D).ct ρ st=I ρ st:=rfl
theorem uL {I:Fr→AH→Prop}:(LD I D).bk ρ st=D.nx ρ st:=rfl
theorem vi {I:Fr→AH→Prop} {v:PV}:(LD I D).rt v st=D.rt v st:=rfl
theorem rR {I:Fr→AH→Prop}:(LD I D).rt=D.rt:=rfl
theorem uS {st0:AH}:(aD st0 Q).nx ρ st=Ret st0 Q .non st:=rfl
theorem uY {st0:AH} {v:PV}:(aD st0 Q).rt v st=Ret st0 Q v st:=rfl
theorem pj {st0:AH}:(aD st0 Q).rt=Ret st0 Q:=rfl
theorem mJ {s s2:S} {ss:Ss}:aK Γ (.cons s (.cons s2 ss)) ρ st D=wpS Γ s ρ st (aft Γ (.cons s2 ss) D):=rfl
theorem nU {x:Ss}:wpS Γ (.whileS c x) ρ st D=xo Γ c x D ρ st:=rfl
theorem vh {t:Tg} {it:It} {x:Ss}:wpS Γ (.forS t it x) ρ st D=d9 Γ it ρ st fun xs chk st1=>yJ Γ t x chk D xs ρ st1:=rfl
theorem pJ {tg:Tg} {it:It} {ifs:Es} {nt:List Str} {caps:List Nat}:wpE Γ (.comp a tg it ifs nt caps) ρ st Q=d9 Γ it ρ st fun xs chk st1 =>
  xs.length<100000∧mY Γ a tg ifs chk (nt.map (fun _=>none)++caps.map fun i=>(ρ[i]?).join) xs st1 fun vs st2=>Q (.ref st2.length) (st2++[.lst vs]):=rfl
theorem nv {e:E} {tg:Tg} {wk:DW} {ifs:Es} {nt:List Str} {caps:List Nat}:wpE Γ (.compK a tg wk e ifs nt caps) ρ st Q=wpE Γ e ρ st fun x st1=>∃n,x=.ref n∧∃kvs,st1[n]?=some (.dk kvs)∧kvs.length<100000 ∧
  mY Γ a tg ifs (fun _=>True) (nt.map (fun _=>none)++caps.map fun i=>(ρ[i]?).join) (a_ wk kvs) (st1.set n (.fz kvs)) fun vs st2=>st2[n]?=some (.fz kvs)∧Q (.ref st2.length) (st2.set n (.dk kvs)++[.lst vs]):=rfl
noncomputable def vA (Γ:Nat→FSp) (kx vx:E) (tg:Tg) (ifs:Es) (ρ:Fr) (xs:List PV) (st:AH) (Q:LK):Prop :=
 aG (fun _=>True) (fun x st2 k=>bd Γ tg x ρ st2 fun ρ' st3=>bN Γ ifs ρ' st3 fun c st4=>if c=true then wpE Γ kx ρ' st4 fun u st5=>wpE Γ vx ρ' st5 fun v st6=>∃z,u=.str z∧k (some (.tup [u,v])) st6 else k none st4) xs [] st Q
theorem nu {e:E} {tg:Tg} {wk:DW} {ifs:Es} {nt:List Str} {caps:List Nat}:wpE Γ (.compD a b tg wk e ifs nt caps) ρ st Q=wpE Γ e ρ st fun x st1=>∃n,x=.ref n∧∃kvs,st1[n]?=some (.dk kvs)∧kvs.length<1000 ∧
  vA Γ a b tg ifs (nt.map (fun _=>none)++caps.map fun i=>(ρ[i]?).join) (a_ wk kvs) (st1.set n (.fz kvs)) fun vs st2=>st2[n]?=some (.fz kvs)∧∀ps,vs=prL ps→Q (.ref st2.length) (st2.set n (.dk kvs)++[.dk (bM ps)]):=rfl
theorem hX (G:aV Γ) {t:Tg} {b:Ss} {chk:AH→Prop} {D:aJ} (I:Nat→Fr→AH→Prop) {xs:List PV} {ρ:Fr} {st:AH} (h0:I 0 ρ st)
  (hs:∀i x ρ st,xs[i]?=some x→I i ρ st→chk st∧bd Γ t x ρ st (fun ρ2 st2=>aK Γ b ρ2 st2 (LD (I (i+1)) D)))
  (hd:∀ρ st,I xs.length ρ st→chk st∧D.nx ρ st):yJ Γ t b chk D xs ρ st:=by
 have key:∀(k i:Nat) (ρ:Fr) (st:AH),i+k=xs.length→I i ρ st→jU chk (fun x ρ' st' D'=>bd Γ t x ρ' st' fun ρ2 st2=>aK Γ b ρ2 st2 D') D (xs.drop i) ρ st:=by
  intro k
  induction k with
  | zero =>
   intro i ρ st hi h
   have:i=xs.length:=by omega
   subst this
   rw [List.drop_length]
   exact hd ρ st h
  | succ k ih =>
   intro i ρ st hi h
   have hlt:i<xs.length:=by omega
   rw [List.drop_eq_getElem_cons hlt]
   obtain ⟨h1,h2⟩:=hs i xs[i] ρ st (by simp [hlt]) h
   refine ⟨h1,aq G t (fun ρ2 st2 k2=>aE G b ?_ k2) h2⟩
   exact ⟨fun ρ3 st3 z=>ih (i+1) ρ3 st3 (by omega) z,fun _ _ z=>z,fun _ _ z=>z,fun ρ3 st3 z=>ih (i+1) ρ3 st3 (by omega) z⟩
 have:=key xs.length 0 ρ st (by omega) h0
 rwa [List.drop_zero] at this
theorem dA {c:Fr→AH→BK→Prop} {body:Fr→AH→aJ→Prop} {D:aJ} (hc:∀ρ st Q Q',(∀b st,Q b st→Q' b st)→c ρ st Q→c ρ st Q') (hb:∀ρ st D D',eS D D'→body ρ st D→body ρ st D') :
  ∀ {n k:Nat} {ρ:Fr} {st:AH},n≤k→ce c body D n ρ st→ce c body D k ρ st
 | 0,k,ρ,st,_,h=>h.elim
 | n+1,0,ρ,st,hk,h=>absurd hk (by omega)
 | n+1,k+1,ρ,st,hk,h=>by
  refine hc _ _ _ _ (fun b st1 z=>?_) h
  cases b with
  | false=>exact z
  | true =>
   rw [if_pos rfl] at z ⊢
   refine hb _ _ _ _ ?_ z
   exact ⟨fun _ _ z=>dA hc hb (by omega) z,fun _ _ z=>z,fun _ _ z=>z,fun _ _ z=>dA hc hb (by omega) z⟩
theorem k_ (G:aV Γ) {c:E} {b:Ss} {D:aJ} (I:Nat→Fr→AH→Prop) {n:Nat} {ρ:Fr} {st:AH} (h0:I n ρ st)
  (hs:∀n ρ st,I n ρ st→wpT Γ c ρ st (fun k st1=>if k=true then aK Γ b ρ st1 (LD (fun ρ' st'=>∃m,m<n∧I m ρ' st') D) else D.nx ρ st1)):xo Γ c b D ρ st:=by
 have hc:∀ρ st Q Q',(∀b st,Q b st→Q' b st)→wpT Γ c ρ st Q→wpT Γ c ρ st Q':=fun _ _ _ _ hk z=>aC G c hk z
 have hb:∀ρ st D D',eS D D'→aK Γ b ρ st D→aK Γ b ρ st D':=fun _ _ _ _ hk z=>aE G b hk z
 have key:∀(k n:Nat),n<k→∀(ρ:Fr) (st:AH),I n ρ st→ce (wpT Γ c) (aK Γ b) D (n+1) ρ st:=by
  intro k
  induction k with
  | zero=>intro n hn;exact absurd hn (by omega)
  | succ k ih =>
   intro n hn ρ st h
   refine hc _ _ _ _ (fun q st1 z=>?_) (hs n ρ st h)
   cases q with
   | false=>exact z
   | true =>
    rw [if_pos rfl] at z ⊢
    refine hb _ _ _ _ ?_ z
    exact ⟨fun ρ' st' ⟨m,hm,z⟩=>dA hc hb (by omega) (ih m (by omega) ρ' st' z),fun _ _ z=>z,fun _ _ z=>z,fun ρ' st' ⟨m,hm,z⟩=>dA hc hb (by omega) (ih m (by omega) ρ' st' z)⟩
 exact ⟨_,key (n+1) n (by omega) ρ st h0⟩
end
section
variable {Γ:Nat→FSp}
theorem dF (G:aV Γ) {elt:E} {tg:Tg} {ifs:Es} {chk:AH→Prop} {ρ:Fr} {xs:List PV} {st:AH} {Q:LK} (I:Nat→List PV→AH→Prop) (h0:I 0 [] st)
  (hs:∀i x acc st,xs[i]?=some x→I i acc st→chk st∧bd Γ tg x ρ st fun ρ' st3=>bN Γ ifs ρ' st3 fun c st4=>if c=true then wpE Γ elt ρ' st4 fun v st5=>I (i+1) (acc++[v]) st5 else I (i+1) acc st4)
  (hd:∀acc st,I xs.length acc st→chk st∧Q acc st):mY Γ elt tg ifs chk ρ xs st Q:=by
 have key:∀(k i:Nat) (acc:List PV) (st:AH),i+k=xs.length→I i acc st→aG chk (bV Γ elt tg ifs ρ) (xs.drop i) acc st Q:=by
  intro k
  induction k with
  | zero =>
   intro i acc st hi h
   have:i=xs.length:=by omega
   subst this
   rw [List.drop_length]
   exact hd acc st h
  | succ k ih =>
   intro i acc st hi h
   have hlt:i<xs.length:=by omega
   rw [List.drop_eq_getElem_cons hlt]
   obtain ⟨h1,h2⟩:=hs i xs[i] acc st (by simp [hlt]) h
   refine ⟨h1,aq G tg (fun ρ2 st2 k2=>aB G ifs (fun c st4 k4=>?_) k2) h2⟩
   cases c with
   | true=>rw [if_pos rfl] at k4 ⊢;exact aa G elt (fun v st5 z=>ih (i+1) _ st5 (by omega) z) k4
   | false=>rw [if_neg Bool.false_ne_true] at k4 ⊢;simpa using ih (i+1) _ st4 (by omega) k4
 have:=key xs.length 0 [] st (by omega) h0
 rw [List.drop_zero] at this
 exact this
theorem pf (G:aV Γ) {kx vx:E} {tg:Tg} {ifs:Es} {ρ:Fr} {xs:List PV} {st:AH} {Q:LK} (I:Nat→List PV→AH→Prop) (h0:I 0 [] st)
  (hs:∀i x acc st,xs[i]?=some x→I i acc st→bd Γ tg x ρ st fun ρ' st3=>bN Γ ifs ρ' st3 fun c st4=>if c=true then wpE Γ kx ρ' st4 fun u st5=>wpE Γ vx ρ' st5 fun v st6=>∃z,u=.str z∧I (i+1) (acc++[.tup [u,v]]) st6 else I (i+1) acc st4)
  (hd:∀acc st,I xs.length acc st→Q acc st):vA Γ kx vx tg ifs ρ xs st Q:=by
 have key:∀(k i:Nat) (acc:List PV) (st:AH),i+k=xs.length→I i acc st→aG (fun _=>True) (b9 Γ kx vx tg ifs ρ) (xs.drop i) acc st Q:=by
  intro k
  induction k with
  | zero =>
   intro i acc st hi h
   have:i=xs.length:=by omega
   subst this
   rw [List.drop_length]
   exact ⟨trivial,hd acc st h⟩
  | succ k ih =>
   intro i acc st hi h
   have hlt:i<xs.length:=by omega
   rw [List.drop_eq_getElem_cons hlt]
   refine ⟨trivial,aq G tg (fun ρ2 st2 k2=>aB G ifs (fun c st4 k4=>?_) k2) (hs i xs[i] acc st (by simp [hlt]) h)⟩
   cases c with
   | true=>rw [if_pos rfl] at k4 ⊢;exact aa G kx (fun u st5 z=>aa G vx (fun v st6 z=>let ⟨zz,e,z⟩:=z;⟨zz,e,ih (i+1) _ st6 (by omega) z⟩) z) k4
   | false=>rw [if_neg Bool.false_ne_true] at k4 ⊢;simpa using ih (i+1) _ st4 (by omega) k4
 have:=key xs.length 0 [] st (by omega) h0
 rw [List.drop_zero] at this
 exact this
theorem eY (G:aV Γ) {elt:E} {i:Nat} {chk:AH→Prop} {ρ:Fr} {xs:List PV} {st:AH} {Q:LK} (f:PV→PV) (hc:chk st) (hs:∀x∈xs,wpE Γ elt (ρ.set i (some x)) st fun v st'=>v=f x∧st'=st) (q:Q (xs.map f) st):mY Γ elt (.name i) .nil chk ρ xs st Q:=by
 refine dF G (fun j acc s=>s=st∧acc=(xs.take j).map f) ⟨rfl,by simp⟩ ?_ ?_
 ·rintro j x acc s hx ⟨rfl,rfl⟩
  refine ⟨hc,?_⟩
  simp only [cq,lM]
  rw [if_pos trivial]
  refine aa G elt (fun v st5 z=>?_) (hs x (List.mem_of_getElem? hx))
  obtain ⟨rfl,rfl⟩:=z
  refine ⟨rfl,?_⟩
  rw [List.take_add_one,hx]
  simp
 ·rintro acc s ⟨rfl,rfl⟩
  rw [List.take_length]
  exact ⟨hc,q⟩
end
section
variable {st:AH} {Q:EK} {i j:Int} {n k:Nat} {xs ys:List PV} {x y v:PV} {b b':Bool} {s s':Str} {kB:Bool→Prop} {BQ:BK}
theorem uZ:eg .Add (.int i) (.int j) st Q=Q (.int (i+j)) st:=rfl
theorem t0:eg .Sub (.int i) (.int j) st Q=Q (.int (i-j)) st:=rfl
theorem uV:eg .Mult (.int i) (.int j) st Q=(CMB i j∧Q (.int (i*j)) st):=rfl
theorem vJ:eg .FloorDiv (.int i) (.int j) st Q=(CBig j∧Q (.int (i/j)) st):=rfl
theorem u5:eg .Mod (.int i) (.int j) st Q=(0<j∧Q (.int (i % j)) st):=rfl
theorem uz:eg .Pow (.int i) (.int j) st Q=(kM i j∧Q (.int (i ^ j.toNat)) st):=rfl
theorem qU:eg .Add (.ref n) (.ref k) st Q=∃xs ys,st[n]?=some (.lst xs)∧st[k]?=some (.lst ys)∧xs.length+ys.length≤100000∧Q (.ref st.length) (st++[.lst (xs++ys)]):=rfl
theorem qN:eg .Mult (.ref n) (.int i) st Q=∃xs,st[n]?=some (.lst xs)∧-(2 ^ 63)≤i∧i<2 ^ 63∧xs.length*i.toNat≤100000∧Q (.ref st.length) (st++[.lst (List.replicate i.toNat xs).flatten]):=rfl
theorem sk {a b:Str}:eg .Add (.str a) (.str b) st Q=(a.length+b.length≤100000∧Q (.str (a++b)) st):=rfl
theorem qz:eg .Add (.tup xs) (.tup ys) st Q=(xs.length+ys.length≤100000∧Q (.tup (xs++ys)) st):=rfl
theorem xS:bO .Eq x y st Q=eqW st x y fun k=>Q (.bl k) st:=rfl
theorem x_:bO .NotEq x y st Q=eqW st x y fun k=>Q (.bl (!k)) st:=rfl
theorem ub:bO .Is x .non st Q=Q (.bl (dm x)) st:=rfl
theorem uw:bO .Is x (.bl b) st Q=Q (.bl (ga b x)) st:=rfl
theorem rS:bO .IsNot x .non st Q=Q (.bl (!dm x)) st:=rfl
theorem qV:bO .IsNot x (.bl b) st Q=Q (.bl (!ga b x)) st:=rfl
theorem yd:bO .Lt (.int i) (.int j) st Q=Q (.bl (decide (i<j))) st:=rfl
theorem xD:bO .LtE (.int i) (.int j) st Q=Q (.bl (decide (i≤j))) st:=rfl
theorem xJ:bO .Gt (.int i) (.int j) st Q=Q (.bl (decide (j<i))) st:=rfl
theorem xX:bO .GtE (.int i) (.int j) st Q=Q (.bl (decide (j≤i))) st:=rfl
theorem vM:eqW st (.int i) (.int j) kB=kB (decide (i=j)):=rfl
theorem vI:eqW st (.bl b) (.bl b') kB=kB (decide (b=b')):=rfl
theorem vF:eqW st (.str s) (.str s') kB=kB (decide (s=s')):=rfl
theorem iI:dm .non=true:=rfl
theorem j4:dm (.bl b)=false:=rfl
theorem jj:dm (.int i)=false:=rfl
theorem iK:dm (.str s)=false:=rfl
theorem iY:dm (.tup xs)=false:=rfl
theorem iU:dm (.ref n)=false:=rfl
theorem nN:ga true (.bl true)=true:=rfl
theorem nS:ga true (.bl false)=false:=rfl
theorem mW:ga false (.bl true)=false:=rfl
theorem nO:ga false (.bl false)=true:=rfl
theorem ls:ga b (.int i)=false:=rfl
theorem kf:ga b .non=false:=rfl
theorem kI:ga b (.tup xs)=false:=rfl
theorem i5:bp st (.tup xs)=some xs:=rfl
theorem iV:bp st (.rdl xs)=some xs:=rfl
theorem gE:aO st (.rdl xs)=some xs:=rfl
theorem bv (h:st[n]?=some (.lst xs)):aO st (.ref n)=some xs:=by simp [aO,h]
theorem af (h:st[n]?=some (.lst xs)):bp st (.ref n)=some xs:=by simp [bp,aO,h]
theorem i9:b8 st .non=some "NoneType":=rfl
theorem kq:b8 st (.bl b)=some "bool":=rfl
theorem je:b8 st (.int i)=some "int":=rfl
theorem iT:b8 st (.str s)=some "str":=rfl
theorem iS:b8 st (.tup xs)=some "tuple":=rfl
theorem iD:b8 st (.rdl xs)=some "list":=rfl
theorem ul {z:Str}:ixW (.str z) (.int i) st Q=(z.length≤100000∧∃c,atI z.cps.toList i=some c∧Q (.str ⟨#[c]⟩) st):=rfl
theorem vk:ixW (.tup xs) (.int i) st Q=∃v,atI xs i=some v∧Q v st:=propext ⟨fun ⟨ys,e,q⟩=>by cases e;exact q,fun q=>⟨xs,rfl,q⟩⟩
theorem vn:ixW (.rdl xs) (.int i) st Q=∃v,atI xs i=some v∧Q v st:=propext ⟨fun ⟨ys,e,q⟩=>by cases e;exact q,fun q=>⟨xs,rfl,q⟩⟩
theorem uP:ixW (.ref n) (.int i) st Q=∃xs,bp st (.ref n)=some xs∧∃v,atI xs i=some v∧Q v st:=rfl
theorem nK:atI (x::xs) 0=some x:=cW (j:=0) rfl
theorem lp:atI (x::y::xs) 1=some y:=cW (j:=1) rfl
theorem ur:atI (x::y::v::xs) 2=some v:=cW (j:=2) rfl
theorem vc {u:PV}:atI (x::y::v::u::xs) 3=some u:=cW (j:=3) rfl
theorem t6 {lo hi:Option Int}:slW (.tup xs) lo hi st Q=Q (.tup (jx xs lo hi)) st:=rfl
theorem ve {lo hi:Option Int}:slW (.rdl xs) lo hi st Q=Q (.ref st.length) (st++[.lst (jx xs lo hi)]):=by simp [slW,aO]
theorem t9 {lo hi:Option Int} {z:Str}:slW (.str z) lo hi st Q=(z.length≤100000∧Q (.str (ft z lo hi)) st):=rfl
theorem ui {lo hi:Option Int}:slW (.ref n) lo hi st Q=∃xs,aO st (.ref n)=some xs∧Q (.ref st.length) (st++[.lst (jx xs lo hi)]):=rfl
theorem qi {z:Str}:bX .len [.str z] st Q=(z.length≤100000∧Q (.int z.length) st):=rfl
theorem pQ {z:Str}:bX .int1 [.str z] st Q=(z.length≤640∧∃n,PySem.intText? z=some n∧Q (.int n) st):=rfl
theorem yT {a b:Str}:bO .In (.str a) (.str b) st Q=Q (.bl (!(Builtin.Str.occurrences b a 0 b.length 1).isEmpty)) st:=rfl
theorem vq:bO .In (.int i) (.tup xs) st Q=∃ns:List Int,xs=ns.map PV.int∧Q (.bl (ns.any fun j=>j == i)) st:=rfl
theorem vG:bO .NotIn (.int i) (.tup xs) st Q=∃ns:List Int,xs=ns.map PV.int∧Q (.bl (!(ns.any fun j=>j == i))) st:=rfl
theorem uA {a:Str}:bO .In (.str a) (.tup xs) st Q=∃ns:List Str,xs=ns.map PV.str∧Q (.bl (ns.any fun j=>j == a)) st:=rfl
theorem vH {a:Str}:bO .NotIn (.str a) (.tup xs) st Q=∃ns:List Str,xs=ns.map PV.str∧Q (.bl (!(ns.any fun j=>j == a))) st:=rfl
theorem uT {a:Str}:bO .In (.str a) (.ref n) st Q=inR a n st fun k=>Q (.bl k) st:=rfl
theorem vK {a:Str}:bO .NotIn (.str a) (.ref n) st Q=inR a n st fun k=>Q (.bl (!k)) st:=rfl
theorem uc {z:Str}:ixW (.ref n) (.str z) st Q=∃kvs v,(st[n]?=some (.dk kvs)∨st[n]?=some (.fz kvs))∧cX kvs (.inr z)=some v∧Q v st:=rfl
theorem pM {kS:AH→Prop} {z:Str}:jH (.ref n) (.str z) v st kS=∃kvs,st[n]?=some (.dk kvs)∧kvs.length≤1000∧kS (st.set n (.dk (dc kvs (.inr z) v))):=rfl
theorem qe:bX .len [.tup xs] st Q=Q (.int xs.length) st:=propext ⟨fun ⟨ys,e,q⟩=>by cases e;exact q,fun q=>⟨xs,rfl,q⟩⟩
theorem qS:bX .len [.rdl xs] st Q=Q (.int xs.length) st:=propext ⟨fun ⟨ys,e,q⟩=>by cases e;exact q,fun q=>⟨xs,rfl,q⟩⟩
theorem pD:bX .len [.ref n] st Q=∃xs,bp st (.ref n)=some xs∧Q (.int xs.length) st:=rfl
theorem u9:bX .max2 [.int i,.int j] st Q=Q (.int (if i<j then j else i)) st:=rfl
theorem vz:bX .min2 [.int i,.int j] st Q=Q (.int (if j<i then j else i)) st:=rfl
theorem kn:bX .divmod [.int i,.int j] st Q=(CBig j∧Q (.tup [.int (i/j),.int (i % j)]) st):=rfl
theorem sn:bX .int1 [.bl b] st Q=Q (.int (b2z b)) st:=rfl
theorem qy:bX .tuple1 [.tup xs] st Q=Q (.tup xs) st:=propext ⟨fun ⟨ys,e,q⟩=>by cases e;exact q,fun q=>⟨xs,rfl,q⟩⟩
theorem qf:bX .tuple1 [.ref n] st Q=∃xs,bp st (.ref n)=some xs∧Q (.tup xs) st:=rfl
theorem mL:bX .sortS [x] st Q=∃ss:List Str,aO st x=some (ss.map PV.str)∧ss.length<64∧∀ss':List Str,ss'.Perm ss→PyProof.Rows.sortedS ss'=true→Q (.ref st.length) (st++[.lst (ss'.map PV.str)]):=rfl
theorem qv:bX .max1 [x] st Q=∃ns:List Int,aO st x=some (ns.map PV.int)∧0<ns.length∧∀i,i∈ns→(∀j,j∈ns→j≤i)→Q (.int i) st:=rfl
theorem uG:bX .abs1 [.int i] st Q=Q (.int i.natAbs) st:=rfl
theorem vL:lu .append (.ref n) [v] st Q=∃xs,st[n]?=some (.lst xs)∧xs.length<100000∧Q .non (st.set n (.lst (xs++[v]))):=rfl
theorem uB:lu .pop0 (.ref n) [] st Q=∃xs v,st[n]?=some (.lst xs)∧xs[xs.length-1]?=some v∧Q v (st.set n (.lst xs.dropLast)):=rfl
theorem yN:cx (.bl b) st BQ=BQ b st:=rfl
theorem yB:cx .non st BQ=BQ false st:=rfl
theorem yw:cx (.int i) st BQ=BQ (i != 0) st:=rfl
theorem yE:cx (.tup xs) st BQ=BQ (!xs.isEmpty) st:=by simp [cx,bp]
theorem ya:cx (.ref n) st BQ=∃xs,bp st (.ref n)=some xs∧BQ (!xs.isEmpty) st:=rfl
theorem uW {kS:AH→Prop}:jH (.ref n) (.int j) v st kS=∃xs,st[n]?=some (.lst xs)∧∃q,ixN xs.length j=some q∧kS (st.set n (.lst (xs.set q v))):=rfl
theorem pO:iy .Add (.int i) (.int j) st Q=Q (.int (i+j)) st:=rfl
theorem qh:iy .Add (.ref n) (.ref k) st Q=∃xs ys,st[n]?=some (.lst xs)∧st[k]?=some (.lst ys)∧xs.length+ys.length≤100000∧Q (.ref n) (st.set n (.lst (xs++ys))):=rfl
theorem rF:iy .Sub (.int i) (.int j) st Q=Q (.int (i-j)) st:=rfl
end
theorem rn:((0:Nat):Int)=0:=rfl
theorem p9:((1:Nat):Int)=1:=rfl
theorem qG:((2:Nat):Int)=2:=rfl
theorem qW:((3:Nat):Int)=3:=rfl
theorem q_:((4:Nat):Int)=4:=rfl
theorem rM:((5:Nat):Int)=5:=rfl
theorem qZ:((6:Nat):Int)=6:=rfl
theorem bt {s g:AH} {k:Nat}:(s++g)[s.length+k]?=g[k]?:=by
 rw [List.getElem?_append_right (Nat.le_add_right _ _),Nat.add_sub_cancel_left]
theorem eU {s g:AH}:(s++g)[s.length]?=g[0]?:=bt (k:=0)
theorem az {st:AH} {c:Cell}:(st++[c])[st.length]?=some c:=by simp
theorem aU {st g:AH} {n:Nat} {c:Cell} (h:st[n]?=some c):(st++g)[n]?=some c:=by
 rw [List.getElem?_append_left (List.getElem?_eq_some_iff.mp h).1]
 exact h
theorem ar {st:AH} {n:Nat} {c:Cell} (h:st[n]?=some c):n<st.length:=(List.getElem?_eq_some_iff.mp h).1
end FW
set_option Elab.async false
set_option linter.all false
set_option maxRecDepth 100000
set_option maxHeartbeats 4000000
namespace My
open PySem L2 HX FW
noncomputable def top (i:Nat):Stmt:=PySem.Challenge.pw_hourstairs_k88_without_places.main.body.getD i (.Pass ⟨0,0,0,0⟩)
theorem na {n d:Nat} (h:0<d) (h2:d<2 ^ 8000):CBig (Nat.gcd n d:Nat):=by
 have h3:0<Nat.gcd n d:=Nat.gcd_pos_of_pos_right _ h
 have h4:Nat.gcd n d≤d:=Nat.gcd_le_right _ h
 refine ⟨by omega,?_⟩
 have h5:((Nat.gcd n d:Nat):Int).natAbs=Nat.gcd n d:=rfl
 rw [h5]
 have:Nat.gcd n d<2 ^ 8000:=Nat.lt_of_le_of_lt h4 h2
 have:=(Nat.log2_lt (by omega)).mpr this
 omega
noncomputable abbrev pc (q r:Int):Cell:=.lst [.int q,.int r]
theorem w5 {q r:Int} {k:Nat}:(pc q r).bel k=true:=by simp [pc,Cell.bel,PV.bels,PV.bel]
theorem zp:kM 10 6:=⟨by decide,by decide,by decide⟩
theorem xy:kM 10 18:=⟨by decide,by decide,by decide⟩
theorem mX {j:Int} (h:0<j) (h2:j<2 ^ 200):CBig j:=CBig.of h (Int.lt_of_lt_of_le h2 (by
 have:((2:Int) ^ 200)=((2 ^ 200:Nat):Int):=by rw [Int.natCast_pow];rfl
 have e2:((2:Int) ^ 8999)=((2 ^ 8999:Nat):Int):=by rw [Int.natCast_pow];rfl
 rw [this,e2]
 exact Int.ofNat_le.mpr (Nat.pow_le_pow_right (by decide) (by decide))))
theorem vE {i j:Int} (h1:-(2 ^ 64)<i) (h2:i<2 ^ 64):CMB i j:=.inr (.inl ⟨h1,h2⟩)
theorem mT {i j:Int} (h1:-(2 ^ 64)<j) (h2:j<2 ^ 64):CMB i j:=.inr (.inr ⟨h1,h2⟩)
theorem yA {ns:List Int} (h:ns.length≤63):jx (ns.map PV.int) none (some 63)=ns.map PV.int:=by
 unfold jx
 have e:HT.sIx (ns.map PV.int).length (ns.map PV.int).length (some (63:Int))=(ns.map PV.int).length:=by
  have:=HT.sIx_nat (ns.map PV.int).length (ns.map PV.int).length 63
  rw [show ((63:Nat):Int)=(63:Int) from rfl] at this
  rw [this,List.length_map]
  omega
 rw [HT.sIx_none,e,List.drop_zero,Nat.sub_zero,List.take_length]
theorem rB {ns:List Int} {k:Nat} (h:k<ns.length):atI (ns.map PV.int) (k:Int)=some (.int (ns.getD k 0)):=by
 refine cW ?_
 rw [List.getElem?_map,List.getD_eq_getElem?_getD,List.getElem?_eq_getElem h]
 rfl
theorem sM {n d:Nat} (h:0<d):Nat.gcd (n/Nat.gcd n d) (d/Nat.gcd n d)=1:=Nat.gcd_div_gcd_div_gcd_of_pos_right h
theorem tK {n d:Nat} (h:0<d):0<d/Nat.gcd n d:=Nat.div_pos (Nat.gcd_le_right _ h) (Nat.gcd_pos_of_pos_right _ h)
theorem cf {n i:Nat} {v:PV} (h:(bD 0 ((n:Int).toNat))[i]?=some v):v=.int i∧i<n:=by
 unfold bD at h
 rw [List.getElem?_map] at h
 have hi:i<n:=by
  by_cases hi:i<n
  ·exact hi
  ·rw [List.getElem?_eq_none (by simp;omega)] at h;cases h
 rw [List.getElem?_range (by simpa using hi)] at h
 cases h
 exact ⟨by simp,hi⟩
noncomputable abbrev low (n d:Nat):PV:=.tup [.int (n/Nat.gcd n d:Nat),.int (d/Nat.gcd n d:Nat)]
noncomputable abbrev fr (p:Nat × Nat):PV:=.tup [.int p.1,.int p.2]
noncomputable def gI (n d:Nat):Nat × Nat:=(n/Nat.gcd n d,d/Nat.gcd n d)
theorem rK {n d:Nat} (h:0<d):0<(gI n d).2:=tK h
theorem qC {n d:Nat} (h:0<d):Nat.gcd (gI n d).1 (gI n d).2=1:=sM h
theorem o0 {n d:Nat} (h:Nat.gcd n d=1):gI n d=(n,d):=by simp [gI,h]
theorem wt {a b c d:Nat} (h1:Nat.gcd a b=1) (h2:Nat.gcd c d=1) (hb:0<b) (hd:0<d) (h:a*d=c*b):a=c∧b=d:=by
 have hbd:b ∣ d:=by
  have:b ∣ a*d:=⟨c,by rw [h,Nat.mul_comm]⟩
  exact Nat.Coprime.dvd_of_dvd_mul_left (show Nat.Coprime b a by unfold Nat.Coprime;rw [Nat.gcd_comm];exact h1) this
 have hdb:d ∣ b:=by
  have:d ∣ c*b:=⟨a,by rw [←h,Nat.mul_comm]⟩
  exact Nat.Coprime.dvd_of_dvd_mul_left (show Nat.Coprime d c by unfold Nat.Coprime;rw [Nat.gcd_comm];exact h2) this
 have e:b=d:=Nat.dvd_antisymm hbd hdb
 subst e
 exact ⟨Nat.eq_of_mul_eq_mul_right hb h,rfl⟩
structure Cop (p:Nat × Nat):Prop where
 pos:0<p.2
 one:Nat.gcd p.1 p.2=1
theorem Cop.low {n d:Nat} (h:0<d):Cop (gI n d):=⟨rK h,qC h⟩
theorem Cop.self {p:Nat × Nat} (h:Cop p):gI p.1 p.2=p:=o0 h.one
theorem Cop.ext {p q:Nat × Nat} (h1:Cop p) (h2:Cop q) (h:p.1*q.2=q.1*p.2):p=q:=by
 obtain ⟨e1,e2⟩:=wt h1.one h2.one h1.pos h2.pos h
 exact Prod.ext e1 e2
structure Sz (k:Nat) (p:Nat × Nat):Prop where
 a:p.1<2 ^ k
 b:p.2<2 ^ k
 pos:0<p.2
theorem Sz.mono {j k:Nat} {p:Nat × Nat} (h:Sz j p) (hk:j≤k):Sz k p:=⟨Nat.lt_of_lt_of_le h.a (Nat.pow_le_pow_right (by decide) hk),Nat.lt_of_lt_of_le h.b (Nat.pow_le_pow_right (by decide) hk),h.pos⟩
noncomputable def zG (p q:Nat × Nat):Prop:=p.1*q.2<q.1*p.2
noncomputable instance (p q:Nat × Nat):Decidable (zG p q):=inferInstanceAs (Decidable (_<_))
noncomputable def PK (q r:Int):Prop:=0≤q∧0≤r∧r<8589934592
noncomputable def Pot (st:AH) (p:Nat):Prop:=∃q r,st[p]?=some (pc q r)∧PK q r
theorem Pot.lt {st:AH} {p:Nat} (h:Pot st p):p<st.length:=by obtain ⟨q,r,e,_⟩:=h;exact ar e
theorem Pot.app {st g:AH} {p:Nat} (h:Pot st p):Pot (st++g) p:=by obtain ⟨q,r,e,z⟩:=h;exact ⟨q,r,aU e,z⟩
structure Gr (st:AH) (p:Nat) (st':AH):Prop where
 len:st.length≤st'.length
 old:∀i,i<st.length→i≠p→st'[i]?=st[i]?
 pot:Pot st' p
 was:p<st.length
theorem Gr.refl {st:AH} {p:Nat} (h:Pot st p):Gr st p st:=⟨Nat.le_refl _,fun _ _ _=>rfl,h,h.lt⟩
theorem Gr.trans {st s1 s2:AH} {p:Nat} (a:Gr st p s1) (b:Gr s1 p s2):Gr st p s2:=⟨Nat.le_trans a.len b.len,fun i h1 h2=>(b.old i (Nat.lt_of_lt_of_le h1 a.len) h2).trans (a.old i h1 h2),b.pot,a.was⟩
theorem Gr.app {st s1 g:AH} {p:Nat} (a:Gr st p s1):Gr st p (s1++g) :=
 ⟨by rw [List.length_append];exact Nat.le_trans a.len (Nat.le_add_right _ _),fun i h1 h2=>by rw [List.getElem?_append_left (Nat.lt_of_lt_of_le h1 a.len)];exact a.old i h1 h2,a.pot.app,a.was⟩
theorem Gr.set {st s1:AH} {p:Nat} (a:Gr st p s1) {q r:Int} (z:PK q r):Gr st p (s1.set p (pc q r)) :=
 ⟨by rw [List.length_set];exact a.len,fun i h1 h2=>by rw [List.getElem?_set_ne (Ne.symm h2)];exact a.old i h1 h2,⟨q,r,List.getElem?_set_self a.pot.lt,z⟩,a.was⟩
theorem Gr.setN {st s1:AH} {p n:Nat} {c:Cell} (a:Gr st p s1) (h:st.length≤n):Gr st p (s1.set n c):=by
 have hn:n≠p:=fun e=>by have:=a.was;omega
 refine ⟨by rw [List.length_set];exact a.len,fun i h1 h2=>by rw [List.getElem?_set_ne (by omega)];exact a.old i h1 h2,?_,a.was⟩
 obtain ⟨q,r,e,z⟩:=a.pot
 exact ⟨q,r,by rw [List.getElem?_set_ne hn];exact e,z⟩
theorem Gr.get {st s1:AH} {p n:Nat} {c:Cell} (a:Gr st p s1) (h:st[n]?=some c) (hn:n≠p):s1[n]?=some c:=(a.old n (ar h) hn).trans h
theorem Gr.tmp {st s1:AH} {p:Nat} {v:PV} {Q:EK} (a:Gr st p s1) (hv:v.bel st.length=true) (k:∀s2,Gr st p s2→s2.length=st.length→Q v s2):Tmp st Q v s1:=by
 have hl:(s1.take st.length).length=st.length:=by rw [List.length_take];exact Nat.min_eq_left a.len
 have hg:∀i,i<st.length→(s1.take st.length)[i]?=s1[i]?:=fun i hi=>by rw [List.getElem?_take_of_lt hi]
 obtain ⟨q,r,e,z⟩:=a.pot
 refine ⟨s1.take st.length,s1.drop st.length,(List.take_append_drop _ _).symm,hl,fun i hi=>?_,hv,k _ ⟨by omega,fun i h1 h2=>(hg i h1).trans (a.old i h1 h2),⟨q,r,(hg p a.was).trans e,z⟩,a.was⟩ hl⟩
 by_cases hp:i=p
 ·subst hp
  exact .inr ⟨pc q r,(hg i a.was).trans e,w5⟩
 ·exact .inl ((hg i hi).trans (a.old i hi hp))
theorem q8 {L:List PV} {P:PV→Prop} (h:∀v∈L,P v) {y:Int} (y0:0≤y) (y1:y<L.length):∃v,atI L y=some v∧P v:=by
 obtain ⟨m,rfl⟩:∃m:Nat,y=m:=⟨y.toNat,by omega⟩
 have hm:m<L.length:=by omega
 exact ⟨L[m],cW (List.getElem?_eq_getElem hm),h _ (List.getElem_mem hm)⟩
theorem Gr.ne {st s1:AH} {p:Nat} (a:Gr st p s1):s1.length≠p:=fun e=>by have:=a.pot.lt;omega
theorem rW {as st Q Q'} (h:∀v st,Q v st→Q' v st) (q:dR as st Q):dR as st Q':=by obtain ⟨n,e,h1,q⟩:=q;exact ⟨n,e,h1,fun z=>h _ _ (q z)⟩
theorem tw {as st Q} (q:dR as st Q):as.length=1:=by obtain ⟨n,rfl,_⟩:=q;rfl
structure Nm (z:Str):Prop where
 len:z.length≤8
 ok:z.cps.all (·< 1114112)=true
structure Gn (st:AH) (p t:Nat) (st':AH):Prop where
 len:st.length≤st'.length
 old:∀i,i<st.length→i≠p→i≠t→st'[i]?=st[i]?
 pot:Pot st' p
theorem Gn.of {st s1:AH} {p t:Nat} (a:Gr st p s1):Gn st p t s1:=⟨a.len,fun i h1 h2 _=>a.old i h1 h2,a.pot⟩
theorem Gn.trans {st s1 s2:AH} {p t:Nat} (a:Gn st p t s1) (b:Gn s1 p t s2):Gn st p t s2:=⟨Nat.le_trans a.len b.len,fun i h1 h2 h3=>(b.old i (Nat.lt_of_lt_of_le h1 a.len) h2 h3).trans (a.old i h1 h2 h3),b.pot⟩
theorem Gn.get {st s1:AH} {p t n:Nat} {c:Cell} (a:Gn st p t s1) (h:st[n]?=some c) (hn:n≠p) (ht:n≠t):s1[n]?=some c:=(a.old n (ar h) hn ht).trans h
theorem Gn.gr {st s1 s2:AH} {p t:Nat} (a:Gr st p s1) (ht:st.length≤t) (b:Gn s1 p t s2):Gr st p s2:=⟨Nat.le_trans a.len b.len,fun i h1 h2=>(b.old i (Nat.lt_of_lt_of_le h1 a.len) h2 (by omega)).trans (a.old i h1 h2),b.pot,a.was⟩
noncomputable def gD (v:PV):Prop:=∃a b c d:Nat,v=.tup [.int a,.int b,.int c,.int d]∧a≤10 ^ 12∧b≤10 ^ 12∧c≤10 ^ 12∧d≤10 ^ 12
noncomputable def Dat (n:Nat) (v:PV):Prop:=∃d,v.toD=some d∧d.canLay0=true∧d.depth≤n
noncomputable abbrev kd (ps:List (Str × PV)):List (Key × PV):=ps.map fun p=>(Sum.inr p.1,p.2)
noncomputable def TieV (v:PV):Prop:=∃(a b:Str) (r:PV),v=.tup [.str a,.str b,r]∧Nm a∧Nm b∧Dat 6 r
structure NetP (ps:List (Str × PV)):Prop where
 nd:(ps.map (·.1)).Nodup
 ln:ps.length≤20
 tie:∀p∈ps,TieV p.2
noncomputable def eX (ns:List Str):PV→Bool
 | .tup (.str a::.str b::_)=>!(ns.any fun j=>j == a) && !(ns.any fun j=>j == b)
 | _=>false
noncomputable def bU (ns:List Str) (ps:List (Str × PV)):List (Str × PV):=ps.filter fun p=>eX ns p.2
noncomputable abbrev sV (ns:List Str):List PV:=ns.map PV.str
noncomputable abbrev Mo (s:FSp):Prop:=∀ {as:List PV} {st:AH} {Q Q':EK},(∀v st,Q v st→Q' v st)→s as st Q→s as st Q'
noncomputable abbrev Ln (s:FSp) (n:Nat):Prop:=∀ {as:List PV} {st:AH} {Q:EK},s as st Q→as.length=n
local macro_rules | `(tactic| walk_at "MO")=>`(tactic| (intro as st Q Q' h q;repeat (first|exact h _ _ q|(obtain ⟨a,q⟩:=q;first|refine Exists.intro a ?_|refine And.intro a ?_)|(intro a;replace q:=q a))))
local macro_rules | `(tactic| walk_at "LN")=>`(tactic| (intro as st Q q;repeat (obtain ⟨a,q⟩:=q;try exact congrArg List.length a)))
noncomputable def cb:FSp:=fun as st Q=>∃(e w:PV) (n:Nat) (ps:List (Str × PV)) (ns:List Str),as=[.tup [e,w,.ref n],.tup (sV ns)]∧st[n]?=some (.dk (kd ps))∧NetP ps∧Q (.tup [e,w,.ref st.length]) (st++[.dk (kd (bU ns ps))])
theorem jR:Mo cb:=by walk_at "MO"
theorem la:Ln cb 2:=by walk_at "LN"
noncomputable def bL:FSp:=fun as st Q=>∃(ns:List Int) (k:Nat),as=[.rdl (ns.map .int),.int k]∧ns.length≤63∧k<9∧∀p s,Pot s p→Q (.ref p) s
theorem iC:Mo bL:=by walk_at "MO"
theorem jv:Ln bL 2:=by walk_at "LN"
noncomputable def bo:FSp:=fun as st Q=>∃(p:Nat) (many:Int),as=[.ref p,.int many]∧Pot st p∧0<many∧many<2 ^ 200∧∀x st',0≤x→x<many→Gr st p st'→Q (.int x) st'
theorem gb:Mo bo:=by walk_at "MO"
theorem gL:Ln bo 2:=by walk_at "LN"
noncomputable def bQ:FSp:=fun as st Q=>∃n d:Nat,as=[.int n,.int d]∧0<d∧d<2 ^ 8000∧Q (low n d) st
theorem ip:Mo bQ:=by walk_at "MO"
theorem jF:Ln bQ 2:=by walk_at "LN"
noncomputable def bA:FSp:=fun as st Q=>∃(p t:Nat) (names:List Str),as=[.ref p,.ref t]∧Pot st p∧t≠p∧st[t]?=some (.lst (sV names))∧names.length<20∧(∀z∈names,Nm z)∧∀z st',Nm z→Gn st p t st'→st'[t]?=some (.lst (sV (names++[z])))→Q (.str z) st'
theorem gO:Mo bA:=by walk_at "MO"
theorem ig:Ln bA 2:=by walk_at "LN"
noncomputable def aQ:FSp:=fun as st Q=>∃(p:Nat) (far:Int),as=[.ref p,.int far]∧Pot st p∧0<far∧far≤10 ^ 8∧∀v st',gD v→Gr st p st'→Q v st'
theorem dM:Mo aQ:=by walk_at "MO"
theorem dZ:Ln aQ 2:=by walk_at "LN"
noncomputable def aW:FSp:=fun as st Q=>∃(p:Nat) (far many:Int),as=[.ref p,.int far,.int many]∧Pot st p∧0<far∧far≤10 ^ 8∧0≤many∧many≤3∧∀n L st',Gr st p st'→st.length≤n→st'[n]?=some (.lst L)→(∀v∈L,gD v)→L.length≤10→Q (.ref n) st'
theorem dP:Mo aW:=by walk_at "MO"
theorem d7:Ln aW 3:=by walk_at "LN"
noncomputable def br:FSp:=fun as st Q=>∃(p:Nat) (w:Bool) (far:Int),as=[.ref p,.bl w,.int far]∧Pot st p∧0<far∧far≤10 ^ 8∧∀n L st',Gr st p st'→st.length≤n→st'[n]?=some (.lst L)→(∀v∈L,gD v)→L.length≤10→Q (.ref n) st'
theorem gc:Mo br:=by walk_at "MO"
theorem gB:Ln br 3:=by walk_at "LN"
noncomputable def bP:FSp:=fun as st Q=>∃p:Nat,as=[.ref p]∧Pot st p∧∀st' e ws d ps pl names far bot,Gr st p st'→st.length≤d→st.length≤pl→st'[d]?=some (.dk (kd ps))→NetP ps→st'[pl]?=some (.lst (sV names))→0<names.length→names.length≤4→(∀z∈names,Nm z)→Dat 6 e→(∀z∈ws,Nm z)→Q (.tup [.tup [e,.tup (sV ws),.ref d],.ref pl,.int far,.int bot]) st'
theorem ie:Mo bP:=by walk_at "MO"
theorem ju:Ln bP 1:=by walk_at "LN"
noncomputable def bc:FSp:=fun as st Q=>∃(p pl:Nat) (names:List Str),as=[.ref p,.ref pl]∧Pot st p∧pl≠p∧st[pl]?=some (.lst (sV names))∧0<names.length∧names.length≤4∧(∀z∈names,Nm z)∧∀ns st',(∀z∈ns,Nm z)→Gr st p st'→Q (.tup (sV ns)) st'
theorem fH:Mo bc:=by walk_at "MO"
theorem f_:Ln bc 2:=by walk_at "LN"
noncomputable def Γ:Nat→FSp
 | 0=>cb
 | 1=>bL
 | 2=>bo
 | 3=>bQ
 | 4=>bA
 | 5=>aQ
 | 6=>aW
 | 7=>br
 | 8=>bP
 | 9=>bc
 | 10=>dR
 | _=>fun _ _ _=>False
theorem Γ_0:Γ 0=cb:=id rfl
theorem Γ_1:Γ 1=bL:=id rfl
theorem Γ_2:Γ 2=bo:=id rfl
theorem Γ_3:Γ 3=bQ:=id rfl
theorem Γ_4:Γ 4=bA:=id rfl
theorem Γ_5:Γ 5=aQ:=id rfl
theorem Γ_6:Γ 6=aW:=id rfl
theorem Γ_7:Γ 7=br:=id rfl
theorem Γ_8:Γ 8=bP:=id rfl
theorem Γ_9:Γ 9=bc:=id rfl
theorem yh:Γ 10=dR:=id rfl
theorem Γm:aV Γ:=by
 intro f vs st Q Q' h q
 match f,q with
 | 0,q=>exact jR (st:=st) h q
 | 1,q=>exact iC (st:=st) h q
 | 2,q=>exact gb (st:=st) h q
 | 3,q=>exact ip (st:=st) h q
 | 4,q=>exact gO (st:=st) h q
 | 5,q=>exact dM (st:=st) h q
 | 6,q=>exact dP (st:=st) h q
 | 7,q=>exact gc (st:=st) h q
 | 8,q=>exact ie (st:=st) h q
 | 9,q=>exact fH (st:=st) h q
 | 10,q=>exact rW (st:=st) h q
 | _+11,q=>exact q.elim
noncomputable def gq:List Str:=["without","_law_pot","_law_digit","_law_low","_law_name","_law_free_ride","_law_row_rides","_law_rides","_law_net","_law_places","law"]
noncomputable def fD:List Str:=["int","len","divmod","range","max","tuple","sorted","min","isinstance","dict"]
noncomputable def glL:List (Str × PV):=[]
noncomputable abbrev bw:Stmt:=top 1
theorem me:aM ["net","places","end","waits","ties","left"] ["net","places"] (ac bw):=⟨rfl,rfl,rfl,by decide +kernel,rfl,by decide +kernel,by decide +kernel⟩
noncomputable def fq:Cfg:={ N:=["net","places","end","waits","ties","left"],names:=(ac bw).names,fns:=gq,lim:=0,blts:=fD,gl:=glL }
noncomputable def cS:Ss:=(.cons (.set (.tup (.cons (.name 2) (.cons (.name 3) (.cons (.name 4) .nil)))) (.var 0)) (.cons (.set (.name 5) (.compD (.var 0) (.var 1) (.tup (.cons (.name 0) (.cons (.name 1) .nil))) .items (.var 4) (.cons (.bop true (.cons (.cmp .NotIn (.ix (.var 1) (.int 0)) (.var 2)) (.cons (.cmp .NotIn (.ix (.var 1) (.int 1)) (.var 2)) .nil))) .nil) ["name","tie"] [1])) (.cons (.ret (.tup (.cons (.var 2) (.cons (.var 3) (.cons (.var 5) .nil))))) .nil)))
theorem o3:bB fq cS (ah bw)=true:=by decide +kernel
noncomputable abbrev bg:Stmt:=top 3
theorem lf:aM ["_law_script","_law_k","_law_state","_law_cell","_law_own"] ["_law_script","_law_k"] (ac bg):=⟨rfl,rfl,rfl,by decide +kernel,rfl,by decide +kernel,by decide +kernel⟩
noncomputable def d8:Cfg:={ N:=["_law_script","_law_k","_law_state","_law_cell","_law_own"],names:=(ac bg).names,fns:=gq,lim:=1,blts:=fD,gl:=glL }
noncomputable def cr:Ss:=(.cons (.set (.name 2) (.bin .Add (.int 3) (.bin .Mult (.int 1013) (.var 1)))) (.cons (.forS (.name 3) (.seq (.sl (.var 0) .no (.yes (.int 63)))) (.cons (.set (.name 2) (.bin .Mod (.bin .Add (.bin .Mult (.var 2) (.int 48271)) (.var 3)) (.int 2147483629))) .nil)) (.cons (.set (.name 4) (.ite (.cmp .Lt (.var 1) (.blt .len (.cons (.var 0) .nil))) (.ix (.var 0) (.var 1)) (.int 0))) (.cons (.ret (.lst (.cons (.bin .Mult (.var 4) (.blt .int1 (.cons (.cmp .GtE (.var 4) (.bin .Pow (.int 10) (.int 18))) .nil))) (.cons (.var 2) .nil)))) .nil))))
theorem lW:bB d8 cr (ah bg)=true:=by decide +kernel
noncomputable abbrev aP:Stmt:=top 4
theorem ik:aM ["_law_pot_here","_law_many","_law_digit_here"] ["_law_pot_here","_law_many"] (ac aP):=⟨rfl,rfl,rfl,by decide +kernel,rfl,by decide +kernel,by decide +kernel⟩
noncomputable def cV:Cfg:={ N:=["_law_pot_here","_law_many","_law_digit_here"],names:=(ac aP).names,fns:=gq,lim:=2,blts:=fD,gl:=glL }
noncomputable def bT:Ss:=(.cons (.ifS (.cmp .Gt (.ix (.var 0) (.int 0)) (.int 0)) (.cons (.set (.tup (.cons (.sub (.var 0) (.int 0)) (.cons (.name 2) .nil))) (.blt .divmod (.cons (.ix (.var 0) (.int 0)) (.cons (.var 1) .nil)))) (.cons (.ret (.var 2)) .nil)) .nil) (.cons (.set (.sub (.var 0) (.int 1)) (.bin .Mod (.bin .Add (.bin .Mult (.ix (.var 0) (.int 1)) (.int 39373)) (.int 7001)) (.int 2147483629))) (.cons (.ret (.bin .Mod (.bin .FloorDiv (.bin .Mult (.ix (.var 0) (.int 1)) (.ix (.var 0) (.int 1))) (.int 11)) (.var 1))) .nil)))
theorem jJ:bB cV bT (ah aP)=true:=by decide +kernel
noncomputable abbrev bb:Stmt:=top 5
theorem j7:aM ["_law_top","_law_bottom","_law_one","_law_other"] ["_law_top","_law_bottom"] (ac bb):=⟨rfl,rfl,rfl,by decide +kernel,rfl,by decide +kernel,by decide +kernel⟩
noncomputable def eA:Cfg:={ N:=["_law_top","_law_bottom","_law_one","_law_other"],names:=(ac bb).names,fns:=gq,lim:=3,blts:=fD,gl:=glL }
noncomputable def cw:Ss:=(.cons (.par 2 3 (.var 0) (.var 1)) (.cons (.whileS (.cmp .Gt (.var 3) (.int 0)) (.cons (.par 2 3 (.var 3) (.bin .Mod (.var 2) (.var 3))) .nil)) (.cons (.ret (.tup (.cons (.bin .FloorDiv (.var 0) (.var 2)) (.cons (.bin .FloorDiv (.var 1) (.var 2)) .nil)))) .nil)))
theorem ma:bB eA cw (ah bb)=true:=by decide +kernel
noncomputable abbrev aX:Stmt:=top 7
theorem jw:aM ["_law_pot_here","_law_taken","_law_name_here","_law_k","_law_some"] ["_law_pot_here","_law_taken"] (ac aX):=⟨rfl,rfl,rfl,by decide +kernel,rfl,by decide +kernel,by decide +kernel⟩
noncomputable def de:Cfg:={ N:=["_law_pot_here","_law_taken","_law_name_here","_law_k","_law_some"],names:=(ac aX).names,fns:=gq,lim:=4,blts:=fD,gl:=glL }
noncomputable def ca:Ss:=(.cons (.set (.name 2) (.str "")) (.cons (.forS (.name 3) (.range1 (.bin .Add (.int 1) (.call 2 (.cons (.var 0) (.cons (.tmp (.ix (.lst (.cons (.int 2) (.cons (.int 8) .nil))) (.call 2 (.cons (.var 0) (.cons (.int 2) .nil))))) .nil))))) (.cons (.set (.name 2) (.bin .Add (.var 2) (.ix (.str "abcdefghijklmnopqrstuvwxyz") (.call 2 (.cons (.var 0) (.cons (.int 26) .nil)))))) .nil)) (.cons (.ifS (.cmp .In (.var 2) (.var 1)) (.cons (.set (.name 4) (.comp (.bin .Add (.sl (.var 1) .no (.yes (.int 7))) (.var 0)) (.name 0) (.chars (.str "abcdefghijklmnopqrstuvwxyz")) .nil ["_law_letter"] [2])) (.cons (.set (.name 2) (.tmp (.ix (.comp (.var 0) (.name 0) (.seq (.var 4)) (.cons (.cmp .NotIn (.var 0) (.var 1)) .nil) ["_law_one"] [1]) (.int 0)))) .nil)) .nil) (.cons (.expr (.met .append (.var 1) (.cons (.var 2) .nil))) (.cons (.ret (.var 2)) .nil)))))
theorem kW:bB de ca (ah aX)=true:=by decide +kernel
noncomputable abbrev aw:Stmt:=top 8
theorem eR:aM ["_law_pot_here","_law_far","_law_first","_law_long","_law_come"] ["_law_pot_here","_law_far"] (ac aw):=⟨rfl,rfl,rfl,by decide +kernel,rfl,by decide +kernel,by decide +kernel⟩
noncomputable def bH:Cfg:={ N:=["_law_pot_here","_law_far","_law_first","_law_long","_law_come"],names:=(ac aw).names,fns:=gq,lim:=5,blts:=fD,gl:=glL }
noncomputable def bj:Ss:=(.cons (.set (.name 2) (.call 2 (.cons (.var 0) (.cons (.var 1) .nil)))) (.cons (.set (.name 3) (.bin .Mult (.call 2 (.cons (.var 0) (.cons (.var 1) .nil))) (.blt .int1 (.cons (.cmp .Gt (.call 2 (.cons (.var 0) (.cons (.int 3) .nil))) (.int 0)) .nil)))) (.cons (.set (.name 4) (.bin .Add (.var 2) (.call 2 (.cons (.var 0) (.cons (.var 1) .nil))))) (.cons (.ifS (.cmp .Eq (.var 3) (.int 0)) (.cons (.ret (.tup (.cons (.var 2) (.cons (.var 2) (.cons (.var 4) (.cons (.var 4) .nil)))))) .nil) .nil) (.cons (.ret (.tup (.cons (.var 2) (.cons (.bin .Add (.var 2) (.var 3)) (.cons (.var 4) (.cons (.bin .Add (.bin .Add (.var 2) (.var 3)) (.call 2 (.cons (.var 0) (.cons (.var 1) .nil)))) .nil)))))) .nil)))))
theorem fc:bB bH bj (ah aw)=true:=by decide +kernel
noncomputable abbrev av:Stmt:=top 9
theorem eT:aM ["_law_pot_here","_law_far","_law_many","_law_begin","_law_ahead","_law_rides_here","_law_low_here","_law_end"] ["_law_pot_here","_law_far","_law_many"] (ac av):=⟨rfl,rfl,rfl,by decide +kernel,rfl,by decide +kernel,by decide +kernel⟩
noncomputable def bF:Cfg:={ N:=["_law_pot_here","_law_far","_law_many","_law_begin","_law_ahead","_law_rides_here","_law_low_here","_law_end"],names:=(ac av).names,fns:=gq,lim:=6,blts:=fD,gl:=glL }
noncomputable def bn:Ss:=(.cons (.set (.tup (.cons (.name 3) (.cons (.name 4) .nil))) (.tup (.cons (.int 0) (.cons (.int 0) .nil)))) (.cons (.set (.name 5) (.lst .nil)) (.cons (.ifS (.bop true (.cons (.cmp .Gt (.var 2) (.int 1)) (.cons (.cmp .Eq (.call 2 (.cons (.var 0) (.cons (.int 4) .nil))) (.int 0)) .nil))) (.cons (.set (.name 4) (.call 2 (.cons (.var 0) (.cons (.var 1) .nil)))) (.cons (.expr (.met .append (.var 5) (.cons (.tup (.cons (.int 0) (.cons (.int 0) (.cons (.var 4) (.cons (.var 4) .nil))))) .nil))) .nil)) .nil) (.cons (.whileS (.cmp .Lt (.blt .len (.cons (.var 5) .nil)) (.var 2)) (.cons (.set (.name 6) (.bin .Add (.blt .max2 (.cons (.var 4) (.cons (.var 3) .nil))) (.bin .Mult (.call 2 (.cons (.var 0) (.cons (.var 1) .nil))) (.blt .int1 (.cons (.cmp .Eq (.call 2 (.cons (.var 0) (.cons (.int 2) .nil))) (.int 1)) .nil))))) (.cons (.set (.name 7) (.bin .Add (.bin .Add (.var 3) (.int 1)) (.call 2 (.cons (.var 0) (.cons (.var 1) .nil))))) (.cons (.set (.name 4) (.bin .Add (.blt .max2 (.cons (.var 6) (.cons (.var 7) .nil))) (.bin .Mult (.call 2 (.cons (.var 0) (.cons (.var 1) .nil))) (.blt .int1 (.cons (.cmp .Gt (.call 2 (.cons (.var 0) (.cons (.int 3) .nil))) (.int 0)) .nil))))) (.cons (.expr (.met .append (.var 5) (.cons (.tup (.cons (.var 3) (.cons (.var 7) (.cons (.var 6) (.cons (.var 4) .nil))))) .nil))) (.cons (.set (.name 3) (.var 7)) .nil)))))) (.cons (.ret (.var 5)) .nil)))))
theorem fh:bB bF bn (ah av)=true:=by decide +kernel
noncomputable abbrev aR:Stmt:=top 10
theorem iB:aM ["_law_pot_here","_law_wait","_law_far","_law_many"] ["_law_pot_here","_law_wait","_law_far"] (ac aR):=⟨rfl,rfl,rfl,by decide +kernel,rfl,by decide +kernel,by decide +kernel⟩
noncomputable def cQ:Cfg:={ N:=["_law_pot_here","_law_wait","_law_far","_law_many"],names:=(ac aR).names,fns:=gq,lim:=7,blts:=fD,gl:=glL }
noncomputable def bS:Ss:=(.cons (.set (.name 3) (.call 2 (.cons (.var 0) (.cons (.int 4) .nil)))) (.cons (.ifS (.not (.var 1)) (.cons (.ret (.call 6 (.cons (.var 0) (.cons (.var 2) (.cons (.var 3) .nil))))) .nil) .nil) (.cons (.ret (.comp (.call 5 (.cons (.var 1) (.cons (.var 2) .nil))) (.name 0) (.range1 (.var 3)) .nil ["_law_k"] [0,2])) .nil)))
theorem jP:bB cQ bS (ah aR)=true:=by decide +kernel
noncomputable abbrev bf:Stmt:=top 11
theorem j8:aM ["_law_pot_here","_law_far","_law_bottom","_law_taken","_law_places_here","_law_waits","_law_named","_law_ties","_law_most","_law_k","_law_a","_law_b","_law_units","_law_rides_here","_law_end"] ["_law_pot_here"] (ac bf):=⟨rfl,rfl,rfl,by decide +kernel,rfl,by decide +kernel,by decide +kernel⟩
noncomputable def d6:Cfg:={ N:=["_law_pot_here","_law_far","_law_bottom","_law_taken","_law_places_here","_law_waits","_law_named","_law_ties","_law_most","_law_k","_law_a","_law_b","_law_units","_law_rides_here","_law_end"],names:=(ac bf).names,fns:=gq,lim:=8,blts:=fD,gl:=glL }
noncomputable def cA:Ss:=(.cons (.set (.name 1) (.tmp (.ix (.lst (.cons (.int 4) (.cons (.int 12) (.cons (.bin .Pow (.int 10) (.int 4)) (.cons (.bin .Pow (.int 10) (.int 8)) .nil))))) (.call 2 (.cons (.var 0) (.cons (.int 4) .nil)))))) (.cons (.set (.name 2) (.tmp (.ix (.lst (.cons (.int 1) (.cons (.bin .Add (.int 1) (.call 2 (.cons (.var 0) (.cons (.int 12) .nil)))) (.cons (.bin .Add (.int 1) (.call 2 (.cons (.var 0) (.cons (.bin .Pow (.int 10) (.int 6)) .nil)))) .nil)))) (.call 2 (.cons (.var 0) (.cons (.int 3) .nil)))))) (.cons (.set (.name 3) (.lst .nil)) (.cons (.set (.name 4) (.comp (.call 4 (.cons (.var 1) (.cons (.var 2) .nil))) (.name 0) (.range1 (.bin .Add (.int 2) (.call 2 (.cons (.var 0) (.cons (.int 3) .nil))))) .nil ["_law_k"] [0,3])) (.cons (.set (.name 5) (.blt .tuple1 (.cons (.blt .sortS (.cons (.comp (.var 0) (.name 0) (.seq (.var 4)) (.cons (.cmp .Eq (.call 2 (.cons (.var 1) (.cons (.int 2) .nil))) (.int 1)) .nil) ["_law_place"] [0]) .nil)) .nil))) (.cons (.set (.name 6) (.lst .nil)) (.cons (.set (.name 7) .dct0) (.cons (.set (.name 8) (.int 0)) (.cons (.forS (.name 9) (.range1 (.call 2 (.cons (.var 0) (.cons (.int 7) .nil)))) (.cons (.set (.name 10) (.call 2 (.cons (.var 0) (.cons (.blt .len (.cons (.var 4) .nil)) .nil)))) (.cons (.set (.name 11) (.bin .Mod (.bin .Add (.bin .Add (.var 10) (.int 1)) (.call 2 (.cons (.var 0) (.cons (.bin .Sub (.blt .len (.cons (.var 4) .nil)) (.int 1)) .nil)))) (.blt .len (.cons (.var 4) .nil)))) (.cons (.set (.name 12) (.call 7 (.cons (.var 0) (.cons (.cmp .In (.ix (.var 4) (.var 10)) (.var 5)) (.cons (.var 1) .nil))))) (.cons (.set (.name 8) (.blt .max1 (.cons (.bin .Add (.lst (.cons (.var 8) .nil)) (.comp (.ix (.var 0) (.int 1)) (.name 0) (.seq (.var 12)) .nil ["_law_ride"] [])) .nil))) (.cons (.set (.name 13) (.tmp (.blt .tuple1 (.cons (.comp (.tmp (.blt .tuple1 (.cons (.comp (.call 3 (.cons (.var 0) (.cons (.var 1) .nil))) (.name 0) (.seq (.var 0)) .nil ["_law_one"] [1]) .nil))) (.name 0) (.seq (.var 12)) .nil ["_law_ride"] [2]) .nil)))) (.cons (.set (.sub (.var 7) (.call 4 (.cons (.var 0) (.cons (.var 6) .nil)))) (.tup (.cons (.ix (.var 4) (.var 10)) (.cons (.ix (.var 4) (.var 11)) (.cons (.var 13) .nil))))) .nil))))))) (.cons (.set (.name 14) (.call 3 (.cons (.bin .Add (.var 8) (.call 2 (.cons (.var 0) (.cons (.var 1) .nil)))) (.cons (.var 2) .nil)))) (.cons (.ret (.tup (.cons (.tup (.cons (.var 14) (.cons (.var 5) (.cons (.var 7) .nil)))) (.cons (.var 4) (.cons (.var 1) (.cons (.var 2) .nil)))))) .nil)))))))))))
theorem lX:bB d6 cA (ah bf)=true:=by decide +kernel
noncomputable abbrev aH:Stmt:=top 17
theorem gG:aM ["_law_pot_here","_law_places_here","_law_found","_law_k","_law_one"] ["_law_pot_here","_law_places_here"] (ac aH):=⟨rfl,rfl,rfl,by decide +kernel,rfl,by decide +kernel,by decide +kernel⟩
noncomputable def cu:Cfg:={ N:=["_law_pot_here","_law_places_here","_law_found","_law_k","_law_one"],names:=(ac aH).names,fns:=gq,lim:=9,blts:=fD,gl:=glL }
noncomputable def bE:Ss:=(.cons (.set (.name 2) (.lst .nil)) (.cons (.forS (.name 3) (.range1 (.call 2 (.cons (.var 0) (.cons (.int 4) .nil)))) (.cons (.set (.name 4) (.ix (.var 1) (.call 2 (.cons (.var 0) (.cons (.blt .len (.cons (.var 1) .nil)) .nil))))) (.cons (.ifS (.cmp .Eq (.call 2 (.cons (.var 0) (.cons (.int 5) .nil))) (.int 0)) (.cons (.set (.name 4) (.call 4 (.cons (.var 0) (.cons (.bin .Add (.var 1) (.var 2)) .nil)))) .nil) .nil) (.cons (.ifS (.cmp .NotIn (.var 4) (.var 2)) (.cons (.expr (.met .append (.var 2) (.cons (.var 4) .nil))) .nil) .nil) .nil)))) (.cons (.ret (.blt .tuple1 (.cons (.var 2) .nil))) .nil)))
theorem iu:bB cu bE (ah aH)=true:=by decide +kernel
noncomputable abbrev dY:Stmt:=top 18
theorem v2:aM ["_law_script","_law_k","_law_pot_here","_law_net_here","_law_places_here","_law_far","_law_bottom","_law_barred","_law_ties","_law_due","_law_before","_law_told"] ["_law_script"] (ac dY):=⟨rfl,rfl,rfl,by decide +kernel,rfl,by decide +kernel,by decide +kernel⟩
noncomputable def t7:Cfg:={ N:=["_law_script","_law_k","_law_pot_here","_law_net_here","_law_places_here","_law_far","_law_bottom","_law_barred","_law_ties","_law_due","_law_before","_law_told"],names:=(ac dY).names,fns:=gq,lim:=10,blts:=fD,gl:=glL }
noncomputable def gS:Ss:=(.cons (.forS (.name 1) (.range1 (.blt .max2 (.cons (.int 1) (.cons (.blt .min2 (.cons (.blt .len (.cons (.var 0) .nil)) (.cons (.int 4) .nil))) .nil)))) (.cons (.set (.name 2) (.call 1 (.cons (.var 0) (.cons (.var 1) .nil)))) (.cons (.set (.tup (.cons (.name 3) (.cons (.name 4) (.cons (.name 5) (.cons (.name 6) .nil))))) (.call 8 (.cons (.var 2) .nil))) (.cons (.set (.name 7) (.call 9 (.cons (.var 2) (.cons (.var 4) .nil)))) (.cons (.set (.name 8) (.ix (.var 3) (.int 2))) (.cons (.set (.name 9) (.dcl (.compK (.tup (.cons (.var 0) (.cons (.ix (.var 2) (.var 0)) .nil))) (.name 0) .keys (.var 8) (.cons (.bop true (.cons (.cmp .NotIn (.ix (.ix (.var 2) (.var 0)) (.int 0)) (.var 1)) (.cons (.cmp .NotIn (.ix (.ix (.var 2) (.var 0)) (.int 1)) (.var 1)) .nil))) .nil) ["_law_name_here"] [7,8]))) (.cons (.set (.name 10) (.dcp (.ix (.var 3) (.int 2)))) (.cons (.set (.name 11) (.call 0 (.cons (.var 3) (.cons (.var 7) .nil)))) (.cons (.ifS (.bop false (.cons (.not (.inst (.var 11) "tuple")) (.cons (.eqd true (.var 11) (.tup (.cons (.ix (.var 3) (.int 0)) (.cons (.ix (.var 3) (.int 1)) (.cons (.var 9) .nil))))) (.cons (.eqd true (.ix (.var 3) (.int 2)) (.var 10)) .nil)))) (.cons (.ret (.bl false)) .nil) .nil) (.cons (.expr (.clr (.ix (.var 11) (.int 2)))) (.cons (.ifS (.bop false (.cons (.eqd true (.ix (.var 3) (.int 2)) (.var 10)) (.cons (.eqd true (.call 0 (.cons (.var 3) (.cons (.var 7) .nil))) (.tup (.cons (.ix (.var 3) (.int 0)) (.cons (.ix (.var 3) (.int 1)) (.cons (.var 9) .nil))))) (.cons (.eqd true (.call 0 (.cons (.var 3) (.cons (.tup .nil) .nil))) (.var 3)) .nil)))) (.cons (.ret (.bl false)) .nil) .nil) .nil))))))))))) (.cons (.ret (.bl true)) .nil))
theorem xF:bB t7 gS (ah dY)=true:=by decide +kernel
local macro_rules | `(tactic| walk_at "WP")=>`(tactic| simp only [re,rP,sd,pY,nI,vp,u_,uL,vi,rR,uS,uY,pj,r_,rO,mJ,mH,t5,t4,qD,ug,qa,xG,nU,vh,rm,q9,vo,qo,uh,uU,xt,ud,vg,yf,t8,uE,pv,uf,ut,uq,u8,vf,yt,vy,xq,yz,pb,uN,qL,vm,pJ,uF,nv,nu,uJ,uo,uQ,vd,u6,qF,ny,xO,uX,ua,ym,vj,uM,va,pR,u3,pV,uO,yW,pT,nr,p6,nB,lM,sf,mO,p_,m_,qE,uK,uR,ni,j6,cq,fM,dG,fo,ng,j3,uZ,t0,uV,vJ,u5,uz,qU,qN,qz,sk,qi,pQ,ul,yT,vq,uA,vH,uT,vK,uc,pM,vG,xS,x_,ub,uw,rS,qV,yd,xD,xJ,xX,vM,vI,vF,iI,j4,jj,iK,iY,iU,nN,nS,mW,nO,ls,kf,kI,i5,iV,gE,i9,kq,je,iT,iS,iD,vk,vn,uP,nK,lp,ur,vc,t6,ve,ui,t9,qe,qS,pD,u9,vz,kn,sn,qy,qf,uG,mL,qv,vL,uB,yN,yB,yw,yE,ya,uW,pO,qh,rF,frame,Γ_0,Γ_1,Γ_2,Γ_3,Γ_4,Γ_5,Γ_6,Γ_7,Γ_8,Γ_9,yh,Nat.add_assoc,bt,eU,List.append_assoc,List.length_append,List.length_set,List.map_cons,List.map_nil,List.length_cons,List.length_nil,List.replicate,List.cons_append,List.nil_append,List.append_nil,List.getElem?_cons_zero,List.getElem?_cons_succ,List.set_cons_zero,List.set_cons_succ,Option.some.injEq,Cell.lst.injEq,PV.int.injEq,PV.bl.injEq,PV.ref.injEq,PV.str.injEq,PV.tup.injEq,PV.rdl.injEq,List.cons.injEq,and_true,true_and,exists_eq_left,exists_eq_left',exists_eq_right,exists_and_left,exists_and_right,exists_const,Bool.not_true,Bool.not_false,Bool.not_not,Bool.not_eq_true',decide_eq_true_eq,decide_eq_false_iff_not,false_and,and_false,false_or,or_false,if_true,if_false,Bool.false_eq_true,reduceCtorEq,reduceIte,not_false_eq_true,Nat.add_zero,Nat.zero_add,Nat.reduceAdd,Nat.reduceSub,Nat.reduceLeDiff,Int.reduceToNat,Int.reducePow,Int.reduceLT,Int.reduceLE,Int.reduceNeg,Int.reduceAdd,Int.reduceSub,Int.reduceMul,se,nj,exists_eq,exists_eq',exists_false,ne_eq,not_true_eq_false,and_assoc,Option.join_some,Option.join_none,decide_true,decide_false,rn,p9,qG,qW,q_,rM,qZ,Int.reduceEq,Nat.reduceEqDiff,Bool.not_eq_false,Bool.not_eq_true,Bool.and_true,Bool.true_and,Bool.and_false,Bool.false_and,Bool.or_false,Bool.or_true])
theorem bG {p:Prop} {inst:Decidable p} {A B:Prop} (h1:p→A) (h2:¬p→B):@ite Prop p inst A B:=by
 by_cases h:p
 ·rw [if_pos h];exact h1 h
 ·rw [if_neg h];exact h2 h
noncomputable def nxE (P:Fr→AH→Prop):aJ:={ nx:=P,rt:=fun _ _=>False }
theorem v6 {P:Fr→AH→Prop} {ρ:Fr} {st:AH}:(nxE P).nx ρ st=P ρ st:=rfl
local macro_rules | `(tactic| walk_at "WPN")=>`(tactic| simp only [re,rP,sd,pY,nI,vp,u_,uL,vi,rR,uS,uY,pj,r_,rO,mJ,mH,t5,t4,qD,ug,qa,xG,nU,vh,rm,q9,vo,qo,uh,uU,xt,ud,vg,yf,t8,uE,pv,uf,ut,uq,u8,vf,yt,vy,xq,yz,pb,uN,qL,vm,pJ,uF,nv,nu,uJ,uo,uQ,vd,u6,qF,ny,xO,uX,ua,ym,vj,uM,va,pR,u3,pV,uO,yW,pT,nr,p6,nB,lM,sf,mO,p_,m_,qE,uK,uR,ni,j6,cq,fM,dG,fo,ng,j3,uZ,t0,uV,vJ,u5,uz,qU,qN,qz,sk,qi,pQ,ul,yT,vq,uA,vH,uT,vK,uc,pM,vG,xS,x_,ub,uw,rS,qV,yd,xD,xJ,xX,vM,vI,vF,iI,j4,jj,iK,iY,iU,nN,nS,mW,nO,ls,kf,kI,i5,iV,gE,i9,kq,je,iT,iS,iD,vk,vn,uP,nK,lp,ur,vc,t6,ve,ui,t9,qe,qS,pD,u9,vz,kn,sn,qy,qf,uG,mL,qv,vL,uB,yN,yB,yw,yE,ya,uW,pO,qh,rF,frame,Γ_0,Γ_1,Γ_2,Γ_3,Γ_4,Γ_5,Γ_6,Γ_7,Γ_8,Γ_9,yh,Nat.add_assoc,bt,eU,List.append_assoc,List.length_append,List.length_set,List.map_cons,List.map_nil,List.length_cons,List.length_nil,List.replicate,List.cons_append,List.nil_append,List.append_nil,List.getElem?_cons_zero,List.getElem?_cons_succ,List.set_cons_zero,List.set_cons_succ,Option.some.injEq,Cell.lst.injEq,PV.int.injEq,PV.bl.injEq,PV.ref.injEq,PV.str.injEq,PV.tup.injEq,PV.rdl.injEq,List.cons.injEq,and_true,true_and,exists_eq_left,exists_eq_left',exists_eq_right,exists_and_left,exists_and_right,exists_const,Bool.not_true,Bool.not_false,Bool.not_not,Bool.not_eq_true',decide_eq_true_eq,decide_eq_false_iff_not,false_and,and_false,false_or,or_false,if_true,if_false,Bool.false_eq_true,reduceCtorEq,reduceIte,not_false_eq_true,Nat.add_zero,Nat.zero_add,Nat.reduceAdd,Nat.reduceSub,Nat.reduceLeDiff,Int.reduceToNat,Int.reducePow,Int.reduceLT,Int.reduceLE,Int.reduceNeg,Int.reduceAdd,Int.reduceSub,Int.reduceMul,se,nj,exists_eq,exists_eq',exists_false,ne_eq,not_true_eq_false,and_assoc,Option.join_some,Option.join_none,decide_true,decide_false,rn,p9,qG,qW,q_,rM,qZ,Int.reduceEq,Nat.reduceEqDiff,Bool.not_eq_false,Bool.not_eq_true,Bool.and_true,Bool.true_and,Bool.and_false,Bool.false_and,Bool.or_false,Bool.or_true,v6])
theorem bq {s:S} {ss:Ss} {ρ:Fr} {st:AH} {D:aJ} (P:Fr→AH→Prop) (h1:wpS Γ s ρ st (nxE P)) (h2:∀ρ' st',P ρ' st'→aK Γ ss ρ' st' D):aK Γ (.cons s ss) ρ st D:=by
 cases ss with
 | nil=>exact e8 (D:=nxE P) Γm s ⟨fun ρ st z=>h2 ρ st z,fun _ _ z=>False.elim z,fun _ _ z=>False.elim z,fun _ _ z=>False.elim z⟩ h1
 | cons s2 ss=>exact e8 (D:=nxE P) (D':=aft Γ (.cons s2 ss) D) Γm s ⟨fun ρ st z=>h2 ρ st z,fun _ _ z=>False.elim z,fun _ _ z=>False.elim z,fun _ _ z=>False.elim z⟩ h1
theorem lR {as st Q} (h:bQ as st Q):aK Γ cw (frame 4 as) st (aD st Q):=by
 obtain ⟨n,d,rfl,h0,h1,k⟩:=h
 unfold cw
 walk_at "WP"
 refine k_ Γm (fun j ρ s=>s=st∧∃a:Nat,ρ=[some (.int n),some (.int d),some (.int a),some (.int j)]∧Nat.gcd a j=Nat.gcd n d) (n:=d) ⟨rfl,n,rfl,rfl⟩ ?_
 rintro m ρ s ⟨rfl,a,rfl,hg⟩
 walk_at "WP"
 by_cases hb:(0:Int)<m
 ·rw [if_pos hb]
  exact ⟨hb,a % m,Nat.mod_lt _ (by omega),m,rfl,by simp,by rw [←hg,Nat.gcd_comm a m,Nat.gcd_rec m a,Nat.gcd_comm]⟩
 ·rw [if_neg hb]
  have:m=0:=by omega
  subst this
  rw [Nat.gcd_zero_right] at hg
  subst hg
  refine ⟨na h0 h1,na h0 h1,?_⟩
  rw [←Int.natCast_ediv,←Int.natCast_ediv]
  exact .inl k
theorem jB {as st Q} (h:bo as st Q):aK Γ bT (frame 3 as) st (aD st Q):=by
 obtain ⟨p,many,rfl,⟨q,r,hp,hq,hr0,hr1⟩,hm,hm2,k⟩:=h
 have g0:Gr st p st:=.refl ⟨q,r,hp,hq,hr0,hr1⟩
 unfold bT
 walk_at "WP"
 refine ⟨_,af hp,_,nK,?_⟩
 walk_at "WP"
 by_cases hz:0<q
 ·rw [if_pos hz]
  refine ⟨_,af hp,_,nK,?_⟩
  walk_at "WP"
  refine ⟨mX hm hm2,_,hp,0,rfl,?_⟩
  exact .inl (k _ _ (Int.emod_nonneg _ (by omega)) (Int.emod_lt_of_pos _ hm) (g0.set ⟨Int.ediv_nonneg (by omega) (by omega),hr0,hr1⟩))
 ·rw [if_neg hz]
  refine ⟨_,af hp,_,lp,?_⟩
  walk_at "WP"
  refine ⟨mT (by decide) (by decide),_,hp,1,rfl,?_⟩
  have hs:∀z,(st.set p (pc q z))[p]?=some (pc q z):=fun z=>List.getElem?_set_self (ar hp)
  refine ⟨_,af (hs _),_,lp,_,af (hs _),_,lp,?_⟩
  walk_at "WP"
  refine ⟨vE (by omega) (by omega),mX (by decide) (by decide),hm,?_⟩
  exact .inl (k _ _ (Int.emod_nonneg _ (by omega)) (Int.emod_lt_of_pos _ hm) (g0.set ⟨hq,by omega,by omega⟩))
theorem lE {as st Q} (h:bL as st Q):aK Γ cr (frame 5 as) st (aD st Q):=by
 obtain ⟨ns,m,rfl,hl,hm,k⟩:=h
 unfold cr
 walk_at "WP"
 rw [yA hl]
 refine ⟨vE (by decide) (by decide),_,af az,?_⟩
 refine hX Γm (fun i ρ s=>s=st++[.lst (ns.map PV.int)]∧∃(z:Int) (a:Option PV),ρ=[some (.rdl (ns.map PV.int)),some (.int m),some (.int z),a,none]∧0≤z∧z<8589934592) ⟨rfl,_,_,rfl,by omega,by omega⟩ ?_ ?_
 ·rintro i v ρ s hi ⟨rfl,z,a,rfl,hz,hz1⟩
  rw [List.getElem?_map] at hi
  obtain ⟨y,hy,rfl⟩:=Option.map_eq_some_iff.mp hi
  refine ⟨rfl,?_⟩
  walk_at "WP"
  exact ⟨mT (by decide) (by decide),by omega,by omega⟩
 ·rintro ρ s ⟨rfl,z,a,rfl,hz,hz1⟩
  refine ⟨rfl,?_⟩
  walk_at "WP"
  have fin:∀(y:Int) (b:Bool),(b=true→0≤y)→kM 10 18∧CMB y (b2z b)∧Ret st Q (PV.ref (List.length st+1)) (st++[Cell.lst (ns.map PV.int),Cell.lst [PV.int (y*b2z b),PV.int z]]):=fun y b hb=>by
   refine ⟨xy,?_,.inl (k _ _ ⟨_,_,by rw [bt (k:=1)];rfl,?_,hz,hz1⟩)⟩
   ·unfold b2z;split <;> exact mT (by decide) (by decide)
   ·unfold b2z
    split
    ·rename_i q;have:=hb q;omega
    ·omega
  rw [List.length_map]
  by_cases hl:m<ns.length
  ·rw [if_pos (by omega)]
   refine ⟨_,rB hl,?_⟩
   walk_at "WP"
   exact fin _ _ fun q=>by have:=of_decide_eq_true q;omega
  ·rw [if_neg (by omega)]
   exact fin 0 false fun q=>by cases q
theorem bz (b:Bool):b2z b=0∨b2z b=1:=by cases b <;> simp [b2z]
theorem lT {x:Int} {b:Bool} (h:0≤x):0≤x*b2z b∧x*b2z b≤x:=by
 rcases bz b with e|e <;> rw [e] <;> omega
theorem mr {x:Int} {b:Bool}:CMB x (b2z b):=by
 rcases bz b with e|e <;> rw [e] <;> exact mT (by decide) (by decide)
theorem nM {a b c d:Int} (ha:0≤a) (ha1:a≤10 ^ 12) (hb:0≤b) (hb1:b≤10 ^ 12) (hc:0≤c) (hc1:c≤10 ^ 12) (hd:0≤d) (hd1:d≤10 ^ 12):gD (.tup [.int a,.int b,.int c,.int d]) :=
 ⟨a.toNat,b.toNat,c.toNat,d.toNat,by rw [Int.toNat_of_nonneg ha,Int.toNat_of_nonneg hb,Int.toNat_of_nonneg hc,Int.toNat_of_nonneg hd],by omega,by omega,by omega,by omega⟩
theorem fC {as st Q} (h:aQ as st Q):aK Γ bj (frame 5 as) st (aD st Q):=by
 obtain ⟨p,far,rfl,hp,f0,f1,k⟩:=h
 have fb:far<2 ^ 200:=by omega
 unfold bj
 walk_at "WP"
 refine ⟨p,far,rfl,hp,f0,fb,fun x s1 x0 x1 g1=>?_⟩
 walk_at "WP"
 refine ⟨p,far,rfl,g1.pot,f0,fb,fun y s2 y0 y1 g2=>?_⟩
 walk_at "WP"
 refine ⟨p,3,rfl,g2.pot,by decide,by decide,fun z s3 z0 z1 g3=>?_⟩
 walk_at "WP"
 refine ⟨mr,p,far,rfl,g3.pot,f0,fb,fun u s4 u0 u1 g4=>?_⟩
 walk_at "WP"
 have g:=((g1.trans g2).trans g3).trans g4
 obtain ⟨m0,m1⟩:=lT (b:=decide (0<z)) y0
 refine bG (fun e=>?_) fun e=>?_
 ·exact .inl (k _ _ (nM x0 (by omega) x0 (by omega) (by omega) (by omega) (by omega) (by omega)) g)
 ·refine ⟨p,far,rfl,g4.pot,f0,fb,fun v s5 v0 v1 g5=>?_⟩
  walk_at "WP"
  exact .inl (k _ _ (nM x0 (by omega) (by omega) (by omega) (by omega) (by omega) (by omega) (by omega)) (g.trans g5))
noncomputable def RrI (st:AH) (p:Nat) (far many:Int) (m:Nat) (ρ:Fr) (s:AH):Prop:=∃(L:List PV) (b a:Int) (lo en:Option PV),Gr st p s∧s[st.length]?=some (.lst L)∧(∀v∈L,gD v)∧m=(many-L.length).toNat∧L.length≤3∧0≤b∧b≤(L.length+1)*10 ^ 9∧0≤a∧a≤(L.length+1)*10 ^ 9 ∧
 ρ=[some (.ref p),some (.int far),some (.int many),some (.int b),some (.int a),some (.ref st.length),lo,en]
theorem bv {st:AH} {n:Nat} {xs:List PV} (h:st[n]?=some (.lst xs)):aO st (.ref n)=some xs:=by simp [aO,h]
theorem Gr.push {st s:AH} {p:Nat} (g:Gr st p s) {L:List PV} {n:Nat} (hn:st.length≤n):Gr st p (s.set n (.lst L)):=g.setN hn
theorem fE {as st Q} (h:aW as st Q):aK Γ bn (frame 8 as) st (aD st Q):=by
 obtain ⟨p,far,many,rfl,hp,f0,f1,m0,m1,k⟩:=h
 have fb:far<2 ^ 200:=by omega
 have g0:Gr st p (st++[.lst []]):=(Gr.refl hp).app
 have i0:RrI st p far many (many-0).toNat [some (.ref p),some (.int far),some (.int many),some (.int 0),some (.int 0),some (.ref st.length),none,none] (st++[.lst []]):=⟨[],0,0,none,none,g0,az,fun v hv=>(nomatch hv),by simp,by simp,by omega,by simp,by omega,by simp,rfl⟩
 unfold bn
 refine bq (fun ρ s=>st=s∧ρ=[some (.ref p),some (.int far),some (.int many),some (.int 0),some (.int 0),none,none,none]) (by walk_at "WPN") ?_
 rintro _ _ ⟨rfl,rfl⟩
 refine bq (fun ρ s=>s=st++[.lst []]∧ρ=[some (.ref p),some (.int far),some (.int many),some (.int 0),some (.int 0),some (.ref st.length),none,none]) (by walk_at "WPN") ?_
 rintro _ _ ⟨rfl,rfl⟩
 refine bq (fun ρ s=>∃m,RrI st p far many m ρ s) ?_ ?_
 ·walk_at "WPN"
  refine bG (fun c=>?_) fun c=>?_
  ·refine ⟨p,4,rfl,g0.pot,by decide,by decide,fun x s1 x0 x1 g1=>?_⟩
   walk_at "WPN"
   have gg:=g0.trans g1
   have hL:s1[st.length]?=some (.lst []):=g1.get az (by have:=hp.lt;omega)
   refine bG (fun c2=>?_) fun c2=>?_
   ·refine ⟨p,far,rfl,g1.pot,f0,fb,fun y s2 y0 y1 g2=>?_⟩
    walk_at "WPN"
    have hL2:s2[st.length]?=some (.lst []):=g2.get hL (by have:=hp.lt;omega)
    refine ⟨⟨_,bv hL2⟩,_,hL2,by simp,_,_,_,_,_,_,(gg.trans g2).push (Nat.le_refl _),List.getElem?_set_self (ar hL2),?_,rfl,?_,?_,?_,?_,?_,rfl⟩
    ·intro v hv
     simp only [List.nil_append,List.mem_singleton] at hv
     subst hv
     exact nM (by omega) (by omega) (by omega) (by omega) (by omega) (by omega) (by omega) (by omega)
    all_goals (first|omega|(simp;done)|(simp;omega))
   ·exact ⟨_,[],0,0,none,none,gg,hL,fun v hv=>(nomatch hv),rfl,by simp,by omega,by simp,by omega,by simp,rfl⟩
  ·exact ⟨_,i0⟩
 ·rintro ρ s ⟨m,hI⟩
  refine bq (fun ρ s=>∃m,RrI st p far many m ρ s) ?_ ?_
  ·walk_at "WPN"
   refine k_ Γm (RrI st p far many) hI ?_
   rintro m ρ s ⟨L,b,a,lo,en,g,hL,hv,rfl,ll,b0,b1,a0,a1,rfl⟩
   walk_at "WPN"
   have ne:st.length≠p:=by have:=hp.lt;omega
   refine ⟨_,af hL,bG (fun c=>?_) fun c=>?_⟩
   ·refine ⟨p,far,rfl,g.pot,f0,fb,fun x s1 x0 x1 g1=>?_⟩
    refine ⟨p,2,rfl,g1.pot,by decide,by decide,fun y s2 y0 y1 g2=>?_⟩
    walk_at "WPN"
    refine ⟨mr,p,far,rfl,g2.pot,f0,fb,fun z s3 z0 z1 g3=>?_⟩
    walk_at "WPN"
    refine ⟨p,far,rfl,g3.pot,f0,fb,fun u s4 u0 u1 g4=>?_⟩
    refine ⟨p,3,rfl,g4.pot,by decide,by decide,fun v s5 v0 v1 g5=>?_⟩
    walk_at "WPN"
    have g6:=(((g1.trans g2).trans g3).trans g4).trans g5
    have hL5:=g6.get hL ne
    obtain ⟨q0,q1⟩:=lT (b:=decide (y=1)) x0
    obtain ⟨w0,w1⟩:=lT (b:=decide (0<v)) u0
    generalize x*b2z (decide (y=1))=X at *
    generalize u*b2z (decide (0<v))=U at *
    have n1:(if a<b then b else a)≤((L.length:Int)+1)*10 ^ 9:=by split <;> omega
    have n2:0≤(if a<b then b else a):=by split <;> omega
    generalize (if a<b then b else a)=A at *
    have n3:(if A+X<b+1+z then b+1+z else A+X)≤((L.length:Int)+1)*10 ^ 9+2*10 ^ 8:=by split <;> omega
    have n4:0≤(if A+X<b+1+z then b+1+z else A+X):=by split <;> omega
    generalize (if A+X<b+1+z then b+1+z else A+X)=B at *
    refine ⟨mr,⟨_,bv hL5⟩,_,hL5,by omega,?_⟩
    have le:(L++[PV.tup [PV.int b,PV.int (b+1+z),PV.int (A+X),PV.int (B+U)]]).length=L.length+1:=by simp
    refine ⟨(many-((L.length+1:Nat):Int)).toNat,by omega,_,_,_,_,_,(g.trans g6).push (Nat.le_refl _),List.getElem?_set_self (ar hL5),?_,by rw [le],by rw [le];omega,?_,?_,?_,?_,rfl⟩
    ·intro v hm
     rcases List.mem_append.mp hm with hm|hm
     ·exact hv v hm
     ·rw [List.mem_singleton] at hm
      subst hm
      exact nM (by omega) (by omega) (by omega) (by omega) (by omega) (by omega) (by omega) (by omega)
    all_goals (try rw [le])
    all_goals omega
   ·exact ⟨_,_,_,_,_,_,g,hL,hv,rfl,ll,b0,b1,a0,a1,rfl⟩
  ·rintro ρ s ⟨m,L,b,a,lo,en,g,hL,hv,rfl,ll,b0,b1,a0,a1,rfl⟩
   walk_at "WP"
   exact .inl (k _ _ _ g (Nat.le_refl _) hL hv (by omega))
theorem jG {as st Q} (h:br as st Q):aK Γ bS (frame 4 as) st (aD st Q):=by
 obtain ⟨p,w,far,rfl,hp,f0,f1,k⟩:=h
 unfold bS
 walk_at "WP"
 refine ⟨p,4,rfl,hp,by decide,by decide,fun x s1 x0 x1 g1=>?_⟩
 walk_at "WP"
 cases w with
 | false =>
  walk_at "WP"
  refine ⟨p,far,x,rfl,g1.pot,f0,f1,x0,by omega,fun n L s2 g2 hn hL hv hl=>?_⟩
  exact .inl (k n L s2 (g1.trans g2) (Nat.le_trans g1.len hn) hL hv hl)
 | true =>
  walk_at "WP"
  obtain ⟨N,rfl⟩:∃N:Nat,x=N:=⟨x.toNat,by omega⟩
  refine ⟨by omega,by omega,by simp [bD];omega,?_⟩
  refine dF Γm (fun i acc s=>Gr st p s∧(∀v∈acc,gD v)∧acc.length=i) ⟨g1,fun v hv=>(nomatch hv),rfl⟩ ?_ ?_
  ·rintro i v acc s hi ⟨g,hv,hl⟩
   refine ⟨trivial,?_⟩
   walk_at "WP"
   refine ⟨p,far,rfl,g.pot,f0,f1,fun u s2 hu g2=>⟨g.trans g2,fun y hy=>?_,by simp [hl]⟩⟩
   rcases List.mem_append.mp hy with hy|hy
   ·exact hv y hy
   ·rw [List.mem_singleton] at hy;subst hy;exact hu
  ·rintro acc s ⟨g,hv,hl⟩
   refine ⟨trivial,.inl (k _ _ _ g.app g.len az hv ?_)⟩
   rw [hl]
   simp [bD]
   omega
theorem tO {ps:List (Str × PV)} {i:Nat} {x:PV} (h:(a_ .items (kd ps))[i]?=some x):∃p,ps[i]?=some p∧x=.tup [.str p.1,p.2]:=by
 unfold a_ kd at h
 rw [List.getElem?_map,List.getElem?_map] at h
 cases q:ps[i]? with
 | none=>rw [q] at h;cases h
 | some p=>rw [q] at h;cases h;exact ⟨p,rfl,rfl⟩
theorem tJ {ps:List (Str × PV)} {i:Nat} {x:PV} (h:(a_ .keys (kd ps))[i]?=some x):∃p,ps[i]?=some p∧x=.str p.1:=by
 unfold a_ kd at h
 rw [List.getElem?_map,List.getElem?_map] at h
 cases q:ps[i]? with
 | none=>rw [q] at h;cases h
 | some p=>rw [q] at h;cases h;exact ⟨p,rfl,rfl⟩
theorem ld {wk:DW} {ps:List (Str × PV)}:(a_ wk (kd ps)).length=ps.length:=by cases wk <;> simp [a_]
theorem lw {ns:List Str} {ps:List (Str × PV)} {i:Nat} {p:Str × PV} (h:ps[i]?=some p) (e:eX ns p.2=true):bU ns (ps.take (i+1))=bU ns (ps.take i)++[p]:=by
 unfold bU;rw [List.take_add_one,h];simp [List.filter_append,e]
theorem gk {ns:List Str} {ps:List (Str × PV)} {i:Nat} {p:Str × PV} (h:ps[i]?=some p) (e:eX ns p.2=false):bU ns (ps.take (i+1))=bU ns (ps.take i):=by
 unfold bU;rw [List.take_add_one,h];simp [List.filter_append,e]
theorem jz:∀ {ps:List (Str × PV)} {p:Str × PV},(ps.map (·.1)).Nodup→p∈ps→cX (kd ps) (.inr p.1)=some p.2
 | [],p,_,h=>nomatch h
 | q::ps,p,hn,h=>by
  rw [List.map_cons,List.nodup_cons] at hn
  by_cases e:q.1=p.1
  ·rcases List.mem_cons.mp h with z|z
   ·subst z;simp [cX,kd]
   ·exact absurd (e ▸ List.mem_map.mpr ⟨p,z,rfl⟩) hn.1
  ·rcases List.mem_cons.mp h with z|z
   ·subst z;exact absurd rfl e
   ·have:=jz hn.2 z
    unfold cX kd at this ⊢
    rw [List.map_cons,List.find?_cons]
    have ne:decide ((Sum.inr q.1:Key)=Sum.inr p.1)=false:=decide_eq_false fun z=>e (Sum.inr.inj z)
    simp only [ne]
    exact this
theorem nP {ps:List (Str × PV)} {z:Str} {v:PV} (h:z ∉ ps.map (·.1)):dc (kd ps) (.inr z) v=kd (ps++[(z,v)]):=by
 unfold dc
 have:((kd ps).any fun kv=>decide (kv.1=(.inr z:Key)))=false:=by
  rw [List.any_eq_false]
  intro x hx
  obtain ⟨p,hp,rfl⟩:=List.mem_map.mp hx
  simp only [decide_eq_true_eq]
  exact fun e=>h (List.mem_map.mpr ⟨p,hp,Sum.inr.inj e⟩)
 rw [this,if_neg Bool.false_ne_true]
 simp [kd]
theorem sg {ps:List (Str × PV)} {z:Str} {v:PV} (h:z∈ps.map (·.1)):dc (kd ps) (.inr z) v=kd (ps.map fun p=>if p.1=z then (p.1,v) else p):=by
 unfold dc
 have:((kd ps).any fun kv=>decide (kv.1=(.inr z:Key)))=true:=by
  rw [List.any_eq_true]
  obtain ⟨p,hp,rfl⟩:=List.mem_map.mp h
  exact ⟨_,List.mem_map.mpr ⟨p,hp,rfl⟩,by simp⟩
 rw [this,if_pos rfl]
 unfold kd
 rw [List.map_map,List.map_map]
 refine List.map_congr_left fun p _=>?_
 simp only [Function.comp,Sum.inr.injEq]
 by_cases e:p.1=z
 ·rw [if_pos e,if_pos e]
 ·rw [if_neg e,if_neg e]
theorem ki:∀ {ps:List (Str × PV)},(ps.map (·.1)).Nodup→bM ps=kd ps:=by
 have key:∀(qs ps:List (Str × PV)),((ps++qs).map (·.1)).Nodup→qs.foldl (fun d p=>dc d (.inr p.1) p.2) (kd ps)=kd (ps++qs):=by
  intro qs
  induction qs with
  | nil=>intro ps _;simp
  | cons q qs ih =>
   intro ps h
   have hq:q.1 ∉ ps.map (·.1):=fun z=>by
    rw [List.map_append,List.nodup_append] at h
    exact h.2.2 _ z _ (by simp) rfl
   rw [List.foldl_cons,nP hq]
   have:=ih (ps++[q]) (by simpa using h)
   simpa using this
 intro ps h
 simpa [bM,kd] using key ps [] (by simpa using h)
theorem NetP.keep {ns:List Str} {ps:List (Str × PV)} (h:NetP ps):NetP (bU ns ps):=by
 have sub:(bU ns ps).Sublist ps:=List.filter_sublist
 exact ⟨h.nd.sublist (sub.map _),Nat.le_trans sub.length_le h.ln,fun p hp=>h.tie p (sub.subset hp)⟩
theorem NetP.put {ps:List (Str × PV)} {z:Str} {v:PV} (h:NetP ps) (hv:TieV v) (hl:ps.length<20):∃qs,dc (kd ps) (.inr z) v=kd qs∧NetP qs∧qs.length≤ps.length+1:=by
 by_cases hz:z∈ps.map (·.1)
 ·refine ⟨_,sg hz,⟨?_,by rw [List.length_map];exact h.ln,fun p hp=>?_⟩,by rw [List.length_map];omega⟩
  ·rw [List.map_map]
   have:(ps.map ((fun p=>p.1) ∘ fun p=>if p.1=z then (p.1,v) else p))=ps.map (·.1):=List.map_congr_left fun p _=>by simp only [Function.comp];split <;> rfl
   rw [this]
   exact h.nd
  ·obtain ⟨q,hq,rfl⟩:=List.mem_map.mp hp
   split
   ·exact hv
   ·exact h.tie q hq
 ·refine ⟨_,nP hz,⟨?_,by simp;omega,fun p hp=>?_⟩,by simp⟩
  ·rw [List.map_append,List.nodup_append]
   refine ⟨h.nd,by simp,fun x hx y hy e=>?_⟩
   simp only [List.map_cons,List.map_nil,List.mem_singleton] at hy
   subst hy e
   exact hz hx
  ·rcases List.mem_append.mp hp with hp|hp
   ·exact h.tie p hp
   ·rw [List.mem_singleton] at hp;subst hp;exact hv
theorem lj {st:AH} {n:Nat} {c d:Cell} (h:st[n]?=some c):(st.set n d).set n c=st:=by
 rw [List.set_set]
 obtain ⟨h1,h2⟩:=List.getElem?_eq_some_iff.mp h
 rw [←h2]
 exact List.set_getElem_self h1
theorem oB {as st Q} (h:cb as st Q):aK Γ cS (frame 6 as) st (aD st Q):=by
 obtain ⟨e,w,n,ps,ns,rfl,hn,hP,k⟩:=h
 unfold cS
 walk_at "WP"
 refine ⟨_,hn,by simp [kd];have:=hP.ln;omega,?_⟩
 refine pf Γm (fun i acc s=>s=st.set n (.fz (kd ps))∧acc=prL (bU ns (ps.take i))) ⟨rfl,by simp [bU,prL]⟩ ?_ ?_
 ·rintro i x acc s hi ⟨rfl,rfl⟩
  obtain ⟨⟨z,v⟩,hp,rfl⟩:=tO hi
  obtain ⟨a,b,r,rfl,-⟩:=hP.tie _ (List.mem_of_getElem? hp)
  walk_at "WP"
  refine ⟨ns,rfl,bG (fun c=>⟨ns,rfl,bG (fun c2=>?_) fun c2=>?_⟩) fun c=>?_⟩
  ·rw [lw hp (by simp only [eX,c,c2];rfl),←gT]
  ·rw [gk hp (by simp [eX,eq_true_of_ne_false c2])]
  ·rw [gk hp (by simp [eX,eq_true_of_ne_false c])]
 ·rintro acc s ⟨rfl,rfl⟩
  rw [ld,List.take_length]
  refine ⟨List.getElem?_set_self (ar hn),fun qs hq=>?_⟩
  rw [←nW hq,ki hP.keep.nd,lj hn,List.length_set]
  exact .inl k
noncomputable def abc:List Nat:=[97,98,99,100,101,102,103,104,105,106,107,108,109,110,111,112,113,114,115,116,117,118,119,120,121,122]
theorem rV:("abcdefghijklmnopqrstuvwxyz":Str).cps.toList=abc:=by decide +kernel
theorem tT:("abcdefghijklmnopqrstuvwxyz":Str).length=26:=by decide +kernel
theorem Nm.app {z:Str} {c:Nat} (h:Nm z) (hl:z.length≤7) (hc:c∈abc):Nm (z++(⟨#[c]⟩:Str)):=by
 have hc':c<1114112:=by
  have:∀c∈abc,c<1114112:=by decide
  exact this c hc
 refine ⟨?_,?_⟩
 ·rw [strLen_append]
  show z.length+1≤8
  omega
 ·show (z.cps++#[c]).all (·< 1114112)=true
  rw [Array.all_append,h.ok]
  simp [hc']
theorem Nm.nil:Nm "":=⟨by decide +kernel,by decide +kernel⟩
theorem Nm.cut {z:Str} (h:Nm z):Nm (ft z none (some 7))∧(ft z none (some 7)).length≤7:=by
 have li:(Builtin.Str.strSliceIndices none (some 7) 1 z.length).length≤7:=by
  unfold Builtin.Str.strSliceIndices sliceRange
  simp
  omega
 unfold ft
 split
 ·rename_i e
  have e:=eq_of_beq e
  exact ⟨h,by omega⟩
 ·have l2:((Builtin.Str.strSliceIndices none (some 7) 1 z.length).filterMap (z.cps[·]?)).length≤7:=Nat.le_trans (List.length_filterMap_le _ _) li
  refine ⟨⟨?_,?_⟩,?_⟩
  ·show (List.toArray _).size≤8
   rw [List.size_toArray]
   omega
  ·show (List.toArray _).all (·< 1114112)=true
   rw [List.all_toArray,List.all_eq_true]
   intro c hc
   obtain ⟨i,_,hi⟩:=List.mem_filterMap.mp hc
   exact Array.all_eq_true_iff_forall_mem.mp h.ok c (Array.mem_of_getElem? hi)
  ·show (List.toArray _).size≤7
   rw [List.size_toArray]
   exact l2
theorem qA:∀ {xs ys:List Str},xs.Nodup→(∀x∈xs,x∈ys)→xs.length≤ys.length
 | [],ys,_,_=>Nat.zero_le _
 | x::xs,ys,hn,h=>by
  rw [List.nodup_cons] at hn
  have hx:=h x List.mem_cons_self
  have:=qA (xs:=xs) (ys:=ys.erase x) hn.2 fun y hy=>(List.mem_erase_of_ne (a:=y) (b:=x) (fun e=>hn.1 (by rw [←e];exact hy))).mpr (h y (List.mem_cons_of_mem _ hy))
  rw [List.length_erase_of_mem hx] at this
  have:0<ys.length:=List.length_pos_of_mem hx
  simp only [List.length_cons]
  omega
noncomputable def c_ (z:Str):List Str:=abc.map fun c=>z++(⟨#[c]⟩:Str)
theorem pK {z:Str}:(c_ z).Nodup:=by
 unfold c_
 refine List.pairwise_map.mpr ?_
 have:abc.Nodup:=by decide
 refine List.Pairwise.imp (fun {a b} ne e=>ne ?_) this
 have e2:(z.cps++#[a])=(z.cps++#[b]):=congrArg Str.cps e
 have e3:=congrArg Array.toList e2
 simpa using e3
theorem lQ {z:Str} {names:List Str} (h:names.length<26):∃x r,(c_ z).filter (fun x=>!(names.any fun j=>j == x))=x::r:=by
 cases q:(c_ z).filter (fun x=>!(names.any fun j=>j == x)) with
 | cons x r=>exact ⟨x,r,rfl⟩
 | nil =>
  have all:∀x∈c_ z,x∈names:=fun x hx=>by
   have:=List.filter_eq_nil_iff.mp q x hx
   simp only [Bool.not_eq_true,Bool.not_eq_false'] at this
   obtain ⟨j,hj,e⟩:=List.any_eq_true.mp this
   rw [←eq_of_beq e]
   exact hj
  have:=qA pK all
  have:(c_ z).length=26:=by simp [c_,abc]
  omega
theorem ox:di ("abcdefghijklmnopqrstuvwxyz":Str)=abc.map fun c=>.str ⟨#[c]⟩:=by unfold di;rw [rV]
noncomputable def eN (names:List Str) (xs:List Str):List Str:=xs.filter fun x=>!(names.any fun j=>j == x)
theorem oa {names xs:List Str} {i:Nat} {x:Str} (h:xs[i]?=some x) (e:(names.any fun j=>j == x)=false):eN names (xs.take (i+1))=eN names (xs.take i)++[x]:=by
 unfold eN;rw [List.take_add_one,h];simp only [Option.toList_some,List.filter_append];rw [List.filter_cons_of_pos (by rw [e];rfl),List.filter_nil]
theorem pG {names xs:List Str} {i:Nat} {x:Str} (h:xs[i]?=some x) (e:(names.any fun j=>j == x)=true):eN names (xs.take (i+1))=eN names (xs.take i):=by
 unfold eN;rw [List.take_add_one,h];simp only [Option.toList_some,List.filter_append];rw [List.filter_cons_of_neg (by rw [e];decide),List.filter_nil,List.append_nil]
theorem kK {as st Q} (h:bA as st Q):aK Γ ca (frame 5 as) st (aD st Q):=by
 obtain ⟨p,t,names,rfl,hp,ht,hn,nl,hN,k⟩:=h
 have pl:=hp.lt
 unfold ca
 refine bq (fun ρ s=>st=s∧ρ=[some (.ref p),some (.ref t),some (.str ""),none,none]) (by walk_at "WPN") ?_
 rintro _ _ ⟨rfl,rfl⟩
 refine bq (fun ρ s=>∃z a,Gr st p s∧Nm z∧ρ=[some (.ref p),some (.ref t),some (.str z),a,none]) ?_ ?_
 ·walk_at "WPN"
  have g0:Gr st p (st++[Cell.lst [PV.int 2,PV.int 8]]):=(Gr.refl hp).app
  refine ⟨p,2,rfl,g0.pot,by decide,by decide,fun y s1 y0 y1 g1=>?_⟩
  have hl:s1[st.length]?=some (.lst [.int 2,.int 8]):=g1.get az (by omega)
  obtain ⟨v,ev,m,rfl,m0,m1⟩:=q8 (L:=[PV.int 2,PV.int 8]) (P:=fun v=>∃m:Int,v=.int m∧0<m∧m≤8) (fun v hv=>by
   simp only [List.mem_cons,List.not_mem_nil,or_false] at hv
   rcases hv with rfl|rfl
   ·exact ⟨2,rfl,by decide,by decide⟩
   ·exact ⟨8,rfl,by decide,by decide⟩) y0 y1
  walk_at "WPN"
  refine ⟨_,af hl,_,ev,(g0.trans g1).tmp (by rw [PV.bel]) fun s2 g2 l2=>?_⟩
  refine ⟨p,m,rfl,g2.pot,m0,by omega,fun x s3 x0 x1 g3=>?_⟩
  walk_at "WPN"
  obtain ⟨N,hN⟩:∃N:Nat,1+x=N:=⟨(1+x).toNat,by omega⟩
  rw [hN]
  refine ⟨by omega,by omega,?_⟩
  refine hX Γm (fun i ρ s=>∃z a,Gr st p s∧Nm z∧z.length≤i∧ρ=[some (.ref p),some (.ref t),some (.str z),a,none]) ⟨"",_,g2.trans g3,.nil,by decide +kernel,rfl⟩ ?_ ?_
  ·rintro i v ρ s hi ⟨z,a,g,hz,zl,rfl⟩
   obtain ⟨rfl,hi⟩:=cf hi
   refine ⟨trivial,?_⟩
   walk_at "WPN"
   refine ⟨p,26,rfl,g.pot,by decide,by decide,fun y s4 y0 y1 g4=>?_⟩
   walk_at "WPN"
   obtain ⟨m,rfl⟩:∃m:Nat,y=m:=⟨y.toNat,by omega⟩
   have hm:m<abc.length:=by have:abc.length=26:=rfl;omega
   have c:=List.getElem_mem hm
   have zl7:z.length≤7:=by omega
   refine ⟨by rw [tT];decide,_,by rw [rV];exact cW (List.getElem?_eq_getElem hm),?_⟩
   exact ⟨by show z.length+1≤100000;omega,g.trans g4,_,hz.app zl7 c,by rw [strLen_append];show z.length+1≤i+1;omega,rfl⟩
  ·rintro ρ s ⟨z,a,g,hz,zl,rfl⟩
   exact ⟨trivial,g,z,hz,_,rfl⟩
 ·rintro _ s ⟨z,a,g,hz,rfl⟩
  have hn1:=g.get hn ht
  refine bq (fun ρ s=>∃z a b,Gr st p s∧Nm z∧ρ=[some (.ref p),some (.ref t),some (.str z),a,b]) ?_ ?_
  ·walk_at "WPN"
   refine .inl ⟨names,hn1,bG (fun c=>?_) fun c=>⟨g,z,hz,rfl⟩⟩
   rw [ox]
   obtain ⟨cz,cl⟩:=hz.cut
   refine ⟨by simp [abc],eY Γm (fun x=>match x with | .str c=>.str (ft z none (some 7)++c)|v=>v) trivial (fun x hx=>?_) ?_⟩
   ·obtain ⟨c,hc,rfl⟩:=List.mem_map.mp hx
    walk_at "WPN"
    refine ⟨by have:=hz.len;omega,?_⟩
    show (ft z none (some 7)).length+1≤100000
    omega
   ·have e1:(abc.map fun c=>PV.str ⟨#[c]⟩).map (fun x=>match x with | .str c=>PV.str (ft z none (some 7)++c)|v=>v)=sV (c_ (ft z none (some 7))):=by
     unfold c_ sV
     rw [List.map_map,List.map_map]
     rfl
    rw [e1]
    generalize hC:c_ (ft z none (some 7))=C
    have cl26:C.length=26:=by rw [←hC];simp [c_,abc]
    refine ⟨_,af az,by simp [cl26],?_⟩
    refine dF Γm (fun i acc s'=>s'=s++[.lst (sV C)]∧acc=sV (eN names (C.take i))) ⟨rfl,by simp [eN]⟩ ?_ ?_
    ·rintro i x acc s' hi ⟨rfl,rfl⟩
     rw [List.getElem?_map] at hi
     obtain ⟨x,hx,rfl⟩:=Option.map_eq_some_iff.mp hi
     refine ⟨rfl,?_⟩
     walk_at "WPN"
     refine .inl ⟨names,aU hn1,bG (fun c=>?_) fun c=>?_⟩
     ·rw [oa hx c];simp [sV]
     ·rw [pG hx (eq_true_of_ne_false c)]
    ·rintro acc s' ⟨rfl,rfl⟩
     refine ⟨rfl,?_⟩
     rw [List.length_map,List.take_length]
     obtain ⟨x,r,hf⟩:=lQ (z:=ft z none (some 7)) (names:=names) (by omega)
     rw [hC] at hf
     have hf:eN names C=x::r:=hf
     rw [hf]
     have hx:Nm x:=by
      have:x∈C:=(List.filter_sublist (p:=fun x=>!(names.any fun j=>j == x))).subset (by rw [show C.filter _=x::r from hf];exact List.mem_cons_self)
      rw [←hC] at this
      obtain ⟨c,hc,rfl⟩:=List.mem_map.mp this
      exact cz.app cl hc
     refine ⟨_,af az,.str x,by simp [atI,ixN],?_⟩
     exact .app (by rw [PV.bel]) ⟨g.app,x,hx,rfl⟩
  ·rintro _ s ⟨z,a,b,g,hz,rfl⟩
   have hn1:=g.get hn ht
   walk_at "WP"
   refine ⟨⟨_,bv hn1⟩,_,hn1,by simp;omega,.inl (k z _ hz ⟨by rw [List.length_set];exact g.len,fun i h1 h2 h3=>by rw [List.getElem?_set_ne (Ne.symm h3)];exact g.old i h1 h2,?_⟩ ?_)⟩
   ·obtain ⟨q,r,e,w⟩:=g.pot
    exact ⟨q,r,by rw [List.getElem?_set_ne ht];exact e,w⟩
   ·rw [List.getElem?_set_self (ar hn1)]
    simp [sV]
noncomputable def PlI (st:AH) (p pl:Nat) (i:Nat) (ρ:Fr) (s:AH):Prop:=∃(fs:List Str) (a b:Option PV),Gr st p s∧s[st.length]?=some (.lst (sV fs))∧(∀z∈fs,Nm z)∧fs.length≤i∧ρ=[some (.ref p),some (.ref pl),some (.ref st.length),a,b]
theorem mV {names:List Str} (h:∀z∈names,Nm z) {y:Int} (y0:0≤y) (y1:y<names.length):∃z,atI (sV names) y=some (.str z)∧Nm z:=by
 obtain ⟨v,ev,z,rfl,hz⟩:=q8 (L:=sV names) (P:=fun v=>∃z,v=.str z∧Nm z) (fun v hv=>by
  obtain ⟨z,hz,rfl⟩:=List.mem_map.mp hv
  exact ⟨z,rfl,h z hz⟩) y0 (by simpa [sV] using y1)
 exact ⟨z,ev,hz⟩
theorem ii {as st Q} (h:bc as st Q):aK Γ bE (frame 5 as) st (aD st Q):=by
 obtain ⟨p,pl,names,rfl,hp,hpl,hn,n0,n4,hN,k⟩:=h
 have pp:=hp.lt
 have ln:=ar hn
 unfold bE
 walk_at "WP"
 have g0:Gr st p (st++[Cell.lst []]):=(Gr.refl hp).app
 refine ⟨p,4,rfl,g0.pot,by decide,by decide,fun x s1 x0 x1 g1=>?_⟩
 walk_at "WP"
 obtain ⟨N,rfl⟩:∃N:Nat,x=N:=⟨x.toNat,by omega⟩
 refine ⟨by omega,by omega,?_⟩
 refine hX Γm (PlI st p pl) ⟨[],_,_,g0.trans g1,g1.get az (by omega),fun z hz=>(nomatch hz),Nat.le_refl _,rfl⟩ ?_ ?_
 ·rintro i v ρ s hi ⟨fs,a,b,g,hf,hF,fl,rfl⟩
  obtain ⟨rfl,hi⟩:=cf hi
  refine ⟨trivial,?_⟩
  have tl:∀(z:Str) (s:AH) (c:Option PV),Nm z→Gr st p s→s[st.length]?=some (.lst (sV fs))→aK Γ (.cons (.ifS (.cmp .NotIn (.var 4) (.var 2)) (.cons (.expr (.met .append (.var 2) (.cons (.var 4) .nil))) .nil) .nil) .nil) [some (.ref p),some (.ref pl),some (.ref st.length),c,some (.str z)] s (LD (PlI st p pl (i+1)) (aft Γ (.cons (.ret (.blt .tuple1 (.cons (.var 2) .nil))) .nil) (aD st Q))):=fun z s c hz g hf=>by
   walk_at "WP"
   refine .inl ⟨fs,hf,bG (fun cc=>?_) fun cc=>⟨fs,_,_,g,hf,hF,by omega,rfl⟩⟩
   refine ⟨⟨_,bv hf⟩,_,hf,by simp;omega,fs++[z],_,_,g.setN (Nat.le_refl _),by rw [List.getElem?_set_self (ar hf)];simp [sV],fun y hy=>?_,by simp;omega,rfl⟩
   rcases List.mem_append.mp hy with hy|hy
   ·exact hF y hy
   ·rw [List.mem_singleton] at hy;subst hy;exact hz
  have hn1:=g.get hn hpl
  rw [cq]
  refine bq (fun ρ s=>∃z,Nm z∧Gr st p s∧s[st.length]?=some (.lst (sV fs))∧ρ=[some (.ref p),some (.ref pl),some (.ref st.length),some (.int i),some (.str z)]) ?_ ?_
  ·walk_at "WPN"
   refine ⟨_,af hn1,p,names.length,by simp,g.pot,by omega,by omega,fun y s1 y0 y1 g1=>?_⟩
   have hn2:=g1.get hn1 hpl
   obtain ⟨z,ez,hz⟩:=mV hN y0 y1
   walk_at "WPN"
   exact ⟨_,af hn2,_,ez,z,hz,g.trans g1,g1.get hf (by omega),rfl⟩
  rintro _ s2 ⟨z,hz,g,hf,rfl⟩
  have hn1:=g.get hn hpl
  refine bq (fun ρ s=>∃z,Nm z∧Gr st p s∧s[st.length]?=some (.lst (sV fs))∧ρ=[some (.ref p),some (.ref pl),some (.ref st.length),some (.int i),some (.str z)]) ?_ ?_
  ·walk_at "WPN"
   refine ⟨p,5,rfl,g.pot,by decide,by decide,fun u s3 u0 u1 g2=>?_⟩
   walk_at "WPN"
   have g3:=g.trans g2
   have hf3:=g2.get hf (by omega)
   refine bG (fun c=>?_) fun c=>⟨z,hz,g3,hf3,rfl⟩
   have sl:st.length<s3.length:=ar hf3
   refine ⟨_,g2.get hn1 hpl,_,hf3,by simp [sV];omega,?_⟩
   refine ⟨p,s3.length,names++fs,rfl,g3.pot.app,by have:=g3.pot.lt;omega,by rw [az];simp [sV],by simp;omega,fun y hy=>?_,fun y s4 hy g4 _=>?_⟩
   ·rcases List.mem_append.mp hy with hy|hy
    ·exact hN y hy
    ·exact hF y hy
   ·exact ⟨y,hy,Gn.gr g3.app (by omega) g4,g4.get (aU hf3) (by omega) (by omega),rfl⟩
  rintro _ s4 ⟨z,hz,g,hf,rfl⟩
  exact tl z s4 _ hz g hf
 ·rintro ρ s ⟨fs,a,b,g,hf,hF,fl,rfl⟩
  refine ⟨trivial,?_⟩
  walk_at "WP"
  exact ⟨_,af hf,.inl (k _ _ hF g)⟩
theorem Dat.int {n:Nat} {i:Int}:Dat n (.int i):=⟨.int i,by rw [PV.toD],by simp [PyData.canLay0],by simp [PyData.depth]⟩
theorem Dat.str {n:Nat} {z:Str} (h:Nm z):Dat n (.str z):=⟨.str z,by rw [PV.toD],by simp only [PyData.canLay0];exact h.ok,by simp [PyData.depth]⟩
theorem Dat.tup {n:Nat} {xs:List PV} (h:∀x∈xs,Dat n x):Dat (n+1) (.tup xs):=by
 have:∀xs:List PV,(∀x∈xs,Dat n x)→∃ds,PV.toDs xs=some ds∧PyData.canLayAll0 ds=true∧PyData.depthAll ds≤n:=by
  intro xs
  induction xs with
  | nil=>intro _;exact ⟨[],by rw [PV.toDs],by simp [PyData.canLayAll0],by simp [PyData.depthAll]⟩
  | cons x xs ih =>
   intro h
   obtain ⟨d,e1,e2,e3⟩:=h x List.mem_cons_self
   obtain ⟨ds,f1,f2,f3⟩:=ih fun y hy=>h y (List.mem_cons_of_mem _ hy)
   exact ⟨d::ds,by simp [PV.toDs,e1,f1],by simp [PyData.canLayAll0,e2,f2],by simp [PyData.depthAll];omega⟩
 obtain ⟨ds,e1,e2,e3⟩:=this xs h
 exact ⟨.tuple ds,by simp [PV.toD,e1],by simp [PyData.canLay0,e2],by simp [PyData.depth];omega⟩
mutual
theorem nk {k:Nat}:∀ {v:PV} {d:PyData},v.toD=some d→v.bel k=true
 | .non,_,_=>by rw [PV.bel]
 | .bl _,_,_=>by rw [PV.bel]
 | .int _,_,_=>by rw [PV.bel]
 | .str _,_,_=>by rw [PV.bel]
 | .ref _,_,h=>by rw [PV.toD] at h;cases h
 | .fn _,_,h=>by rw [PV.toD] at h;cases h
 | .tup xs,_,h=>by
  rw [PV.toD] at h
  obtain ⟨ds,e,_⟩:=Option.map_eq_some_iff.mp h
  rw [PV.bel]
  exact fj e
 | .rdl xs,_,h=>by
  rw [PV.toD] at h
  obtain ⟨ds,e,_⟩:=Option.map_eq_some_iff.mp h
  rw [PV.bel]
  exact fj e
theorem fj {k:Nat}:∀ {xs:List PV} {ds:List PyData},PV.toDs xs=some ds→PV.bels k xs=true
 | [],_,_=>by rw [PV.bels]
 | x::xs,ds,h=>by
  rw [PV.toDs] at h
  split at h
  ·rename_i d es e1 e2
   rw [PV.bels,nk e1,fj e2]
   rfl
  ·cases h
end
theorem Dat.bel {n k:Nat} {v:PV} (h:Dat n v):v.bel k=true:=by obtain ⟨d,e,_⟩:=h;exact nk e
theorem Dat.mono {n m:Nat} {v:PV} (h:Dat n v) (hm:n≤m):Dat m v:=by obtain ⟨d,e1,e2,e3⟩:=h;exact ⟨d,e1,e2,by omega⟩
theorem Dat.fr {n:Nat} {q:Nat × Nat}:Dat (n+1) (fr q):=Dat.tup fun x hx=>by
 simp only [List.mem_cons,List.not_mem_nil,or_false] at hx
 rcases hx with rfl|rfl <;> exact Dat.int
theorem Dat.same {n:Nat} {v:PV} (h:Dat n v) (hn:n≤60):kE v v:=by
 obtain ⟨d,e1,e2,e3⟩:=h
 exact ⟨rfl,d,e1,by simp only [SeqAt.shaped,e2,Bool.true_and,decide_eq_true_eq];omega⟩
structure NS (st:AH) (p:Nat) (s:AH) (pl nm d:Nat) (names nms:List Str) (ps:List (Str × PV)):Prop where
 g:Gr st p s
 l1:st.length≤pl
 l2:pl<nm
 l3:nm<d
 hp:s[pl]?=some (.lst (sV names))
 hn:s[nm]?=some (.lst (sV nms))
 hd:s[d]?=some (.dk (kd ps))
 P:NetP ps
 N:∀z∈names,Nm z
 N2:2≤names.length
 N4:names.length≤4
 M:∀z∈nms,Nm z
theorem NS.mono {st s s':AH} {p pl nm d:Nat} {names nms:List Str} {ps:List (Str × PV)} (h:NS st p s pl nm d names nms ps) (g:Gr s p s'):NS st p s' pl nm d names nms ps:=by
 have:=h.g.was
 have:=h.l1
 have:=h.l2
 have:=h.l3
 exact ⟨h.g.trans g,h.l1,h.l2,h.l3,g.get h.hp (by omega),g.get h.hn (by omega),g.get h.hd (by omega),h.P,h.N,h.N2,h.N4,h.M⟩
theorem NS.app {st s g:AH} {p pl nm d:Nat} {names nms:List Str} {ps:List (Str × PV)} (h:NS st p s pl nm d names nms ps):NS st p (s++g) pl nm d names nms ps:=h.mono (Gr.refl h.g.pot).app
theorem NS.named {st s s':AH} {p pl nm d:Nat} {names nms:List Str} {ps:List (Str × PV)} {z:Str} (h:NS st p s pl nm d names nms ps) (g:Gn s p nm s') (hz:Nm z) (e:s'[nm]?=some (.lst (sV (nms++[z])))):NS st p s' pl nm d names (nms++[z]) ps:=by
 have:=h.g.was
 have:=h.l1
 have:=h.l2
 have:=h.l3
 refine ⟨Gn.gr h.g (by omega) g,h.l1,h.l2,h.l3,g.get h.hp (by omega) (by omega),e,g.get h.hd (by omega) (by omega),h.P,h.N,h.N2,h.N4,fun y hy=>?_⟩
 rcases List.mem_append.mp hy with hy|hy
 ·exact h.M y hy
 ·rw [List.mem_singleton] at hy;subst hy;exact hz
theorem NS.put {st s:AH} {p pl nm d:Nat} {names nms:List Str} {ps qs:List (Str × PV)} (h:NS st p s pl nm d names nms ps) (hq:NetP qs):NS st p (s.set d (.dk (kd qs))) pl nm d names nms qs:=by
 have:=h.g.was
 have:=h.l1
 have:=h.l2
 have:=h.l3
 exact ⟨h.g.setN (by omega),h.l1,h.l2,h.l3,by rw [List.getElem?_set_ne (by omega)];exact h.hp,by rw [List.getElem?_set_ne (by omega)];exact h.hn,List.getElem?_set_self (ar h.hd),hq,h.N,h.N2,h.N4,h.M⟩
theorem vD {L:List Int} {B:Int} (h:∀i∈L,0<i∧i≤B) {y:Int} (y0:0≤y) (y1:y<L.length):∃i,atI (L.map PV.int) y=some (.int i)∧0<i∧i≤B:=by
 obtain ⟨v,ev,i,rfl,hi⟩:=q8 (L:=L.map PV.int) (P:=fun v=>∃i,v=.int i∧0<i∧i≤B) (fun v hv=>by
  obtain ⟨z,hz,rfl⟩:=List.mem_map.mp hv
  exact ⟨z,rfl,h z hz⟩) y0 (by simpa using y1)
 exact ⟨i,ev,hi⟩
theorem zE:kM 10 4:=⟨by decide,by decide,by decide⟩
theorem zF:kM 10 8:=⟨by decide,by decide,by decide⟩
noncomputable abbrev nF (p:Nat) (far bot:Int) (t pl:Nat) (ws:List Str) (nm d:Nat) (most:Int) (k a b u r e:Option PV):Fr:=[some (.ref p),some (.int far),some (.int bot),some (.ref t),some (.ref pl),some (.tup (sV ws)),some (.ref nm),some (.ref d),some (.int most),k,a,b,u,r,e]
noncomputable def NI (st:AH) (p:Nat) (far bot:Int) (t pl:Nat) (ws:List Str) (nm d:Nat) (names:List Str) (i:Nat) (ρ:Fr) (s:AH):Prop:=∃(nms:List Str) (ps:List (Str × PV)) (most:Int) (k a b u r:Option PV),NS st p s pl nm d names nms ps∧nms.length≤i∧ps.length≤i∧0≤most∧most≤10 ^ 12∧ρ=nF p far bot t pl ws nm d most k a b u r none
noncomputable abbrev dX:Ss:=(.cons (.set (.name 10) (.call 2 (.cons (.var 0) (.cons (.blt .len (.cons (.var 4) .nil)) .nil)))) (.cons (.set (.name 11) (.bin .Mod (.bin .Add (.bin .Add (.var 10) (.int 1)) (.call 2 (.cons (.var 0) (.cons (.bin .Sub (.blt .len (.cons (.var 4) .nil)) (.int 1)) .nil)))) (.blt .len (.cons (.var 4) .nil)))) (.cons (.set (.name 12) (.call 7 (.cons (.var 0) (.cons (.cmp .In (.ix (.var 4) (.var 10)) (.var 5)) (.cons (.var 1) .nil))))) (.cons (.set (.name 8) (.blt .max1 (.cons (.bin .Add (.lst (.cons (.var 8) .nil)) (.comp (.ix (.var 0) (.int 1)) (.name 0) (.seq (.var 12)) .nil ["_law_ride"] [])) .nil))) (.cons (.set (.name 13) (.tmp (.blt .tuple1 (.cons (.comp (.tmp (.blt .tuple1 (.cons (.comp (.call 3 (.cons (.var 0) (.cons (.var 1) .nil))) (.name 0) (.seq (.var 0)) .nil ["_law_one"] [1]) .nil))) (.name 0) (.seq (.var 12)) .nil ["_law_ride"] [2]) .nil)))) (.cons (.set (.sub (.var 7) (.call 4 (.cons (.var 0) (.cons (.var 6) .nil)))) (.tup (.cons (.ix (.var 4) (.var 10)) (.cons (.ix (.var 4) (.var 11)) (.cons (.var 13) .nil))))) .nil))))))
theorem qH {st:AH} {p:Nat} {far bot:Int} {t pl:Nat} {ws:List Str} {nm d:Nat} {names:List Str} {i:Nat} {D:aJ} {nms:List Str} {ps:List (Str × PV)} {most:Int} {k a b u r:Option PV} {s:AH} (f0:0<far) (f1:far≤10 ^ 8) (b0:0<bot) (b1:bot≤10 ^ 6) (hi:i<6)
  (n:NS st p s pl nm d names nms ps) (nl:nms.length≤i) (pl':ps.length≤i) (m0:0≤most) (m1:most≤10 ^ 12) :
  aK Γ dX (nF p far bot t pl ws nm d most (some (.int i)) a b u r none) s (LD (NI st p far bot t pl ws nm d names (i+1)) D):=by
 unfold dX
 have N2:=n.N2
 have N4:=n.N4
 refine bq (fun ρ s=>∃x:Int,0≤x∧x<names.length∧NS st p s pl nm d names nms ps∧ρ=nF p far bot t pl ws nm d most (some (.int i)) (some (.int x)) b u r none) ?_ ?_
 ·walk_at "WPN"
  exact ⟨_,af n.hp,p,names.length,by simp [sV],n.g.pot,by omega,by omega,fun y s1 y0 y1 g1=>⟨y,y0,y1,n.mono g1,rfl⟩⟩
 rintro _ s1 ⟨x,x0,x1,n,rfl⟩
 refine bq (fun ρ s=>∃y:Int,0≤y∧y<names.length∧NS st p s pl nm d names nms ps∧ρ=nF p far bot t pl ws nm d most (some (.int i)) (some (.int x)) (some (.int y)) u r none) ?_ ?_
 ·walk_at "WPN"
  refine ⟨_,af n.hp,p,(names.length:Int)-1,by simp [sV],n.g.pot,by omega,by omega,fun y s2 y0 y1 g1=>?_⟩
  walk_at "WPN"
  have n2:=n.mono g1
  have e:(sV names).length=names.length:=by simp [sV]
  exact ⟨_,af n2.hp,by omega,_,Int.emod_nonneg _ (by omega),by rw [e];exact Int.emod_lt_of_pos _ (by omega),n2,rfl⟩
 rintro _ s2 ⟨y,y0,y1,n,rfl⟩
 refine bq (fun ρ s=>∃un L,NS st p s pl nm d names nms ps∧s[un]?=some (.lst L)∧(∀v∈L,gD v)∧L.length≤10∧d<un∧ρ=nF p far bot t pl ws nm d most (some (.int i)) (some (.int x)) (some (.int y)) (some (.ref un)) r none) ?_ ?_
 ·walk_at "WPN"
  obtain ⟨z,ez,hz⟩:=mV n.N x0 x1
  refine ⟨_,af n.hp,_,ez,ws,rfl,p,_,far,rfl,n.g.pot,f0,f1,fun m L s' g' hm hL' hv hl=>?_⟩
  have:=ar n.hd
  exact ⟨n.mono g',m,L,hL',hv,hl,by omega,rfl⟩
 rintro _ s3 ⟨un,L,n,hu,hL,ll,du,rfl⟩
 refine bq (fun ρ s=>∃most':Int,0≤most'∧most'≤10 ^ 12∧NS st p s pl nm d names nms ps∧s[un]?=some (.lst L)∧ρ=nF p far bot t pl ws nm d most' (some (.int i)) (some (.int x)) (some (.int y)) (some (.ref un)) r none) ?_ ?_
 ·walk_at "WPN"
  refine ⟨_,af (aU hu),by omega,eY Γm (fun x=>match x with | .tup (_::y::_)=>y|v=>v) rfl (fun v hv=>?_) ?_⟩
  ·obtain ⟨a,b,c,d,rfl,-⟩:=hL v hv
   walk_at "WPN"
  ·have e1:L.map (fun x=>match x with | .tup (_::y::_)=>y|v=>v)=(L.map fun x=>match x with | .tup (_::.int y::_)=>y|_=>0).map PV.int:=by
    rw [List.map_map]
    refine List.map_congr_left fun v hv=>?_
    obtain ⟨a,b,c,d,rfl,-⟩:=hL v hv
    rfl
   have e2:∀j∈(L.map fun x=>match x with|PV.tup (_::.int y::_)=>y|_=>0),0≤j∧j≤10 ^ 12:=fun j hj=>by
    obtain ⟨v,hv,rfl⟩:=List.mem_map.mp hj
    obtain ⟨a,b,c,d,rfl,h1,h2,_⟩:=hL v hv
    show (0:Int)≤b∧(b:Int)≤10 ^ 12
    omega
   have e3:(L.map fun x=>match x with|PV.tup (_::.int y::_)=>y|_=>0).length≤10:=by simpa using ll
   rw [e1]
   generalize (L.map fun x=>match x with|PV.tup (_::.int y::_)=>y|_=>0)=J at *
   refine ⟨[.int most],by rw [List.append_assoc,eU];rfl,by simp;omega,most::J,bv (by rw [bt (k:=1)];rfl),by simp,fun i hi _=>?_⟩
   have ib:0≤i∧i≤10 ^ 12:=by
    rcases List.mem_cons.mp hi with rfl|hi
    ·exact ⟨m0,m1⟩
    ·exact e2 i hi
   exact ⟨i,ib.1,ib.2,n.app.app,aU (aU hu),rfl⟩
 rintro _ s4 ⟨most',m0,m1,n,hu,rfl⟩
 refine bq (fun ρ s=>∃R,Dat 6 R∧NS st p s pl nm d names nms ps∧ρ=nF p far bot t pl ws nm d most' (some (.int i)) (some (.int x)) (some (.int y)) (some (.ref un)) (some R) none) ?_ ?_
 ·walk_at "WPN"
  obtain ⟨B,rfl⟩:∃B:Nat,bot=B:=⟨bot.toNat,by omega⟩
  have be:B<2 ^ 8000:=Nat.lt_of_lt_of_le (show B<2 ^ 64 by omega) (Nat.pow_le_pow_right (by decide) (by decide))
  refine ⟨_,af hu,by omega,eY Γm (fun x=>match x with | .tup xs=>.tup (xs.map fun y=>match y with | .int z=>fr (gI z.toNat B)|v=>v)|v=>v) rfl (fun v hv=>?_) ?_⟩
  ·obtain ⟨a,b,c,d,rfl,-⟩:=hL v hv
   walk_at "WPN"
   refine ⟨by decide,?_⟩
   refine eY Γm (fun x=>match x with | .int z=>fr (gI z.toNat B)|v=>v) trivial (fun y hy=>?_) ?_
   ·simp only [List.mem_cons,List.not_mem_nil,or_false] at hy
    rcases hy with rfl|rfl|rfl|rfl
    ·walk_at "WP";exact ⟨_,B,rfl,by omega,be,rfl,rfl⟩
    ·walk_at "WP";exact ⟨_,B,rfl,by omega,be,rfl,rfl⟩
    ·walk_at "WP";exact ⟨_,B,rfl,by omega,be,rfl,rfl⟩
    ·walk_at "WP";exact ⟨_,B,rfl,by omega,be,rfl,rfl⟩
   ·refine ⟨_,af az,.app ?_ ⟨rfl,rfl⟩⟩
    simp [PV.bel,PV.bels,fr]
  ·have dW:Dat 6 (.tup (L.map (fun x=>match x with|PV.tup xs=>PV.tup (xs.map fun y=>match y with | .int z=>fr (gI z.toNat B)|v=>v)|v=>v))):=Dat.mono (Dat.tup (n:=2) fun v hv=>by
    obtain ⟨u,hu,rfl⟩:=List.mem_map.mp hv
    obtain ⟨a,b,c,d,rfl,-⟩:=hL u hu
    refine Dat.tup (n:=1) fun y hy=>?_
    simp only [List.map_cons,List.map_nil,List.mem_cons,List.not_mem_nil,or_false] at hy
    rcases hy with rfl|rfl|rfl|rfl <;> exact Dat.fr) (by omega)
   exact ⟨_,af az,.app dW.bel ⟨_,dW,n,rfl⟩⟩
 rintro _ s5 ⟨R,hR,n,rfl⟩
 walk_at "WP"
 obtain ⟨z1,e1,hz1⟩:=mV n.N x0 x1
 obtain ⟨z2,e2,hz2⟩:=mV n.N y0 y1
 have:=n.g.was
 have:=n.l1
 have:=n.l2
 have:=n.l3
 refine ⟨_,af n.hp,_,e1,_,af n.hp,_,e2,p,nm,nms,rfl,n.g.pot,by omega,n.hn,by omega,n.M,fun z s6 hz gn hs=>?_⟩
 have n6:=n.named gn hz hs
 obtain ⟨qs,eq,hq,lq⟩:=n6.P.put (z:=z) (v:=.tup [.str z1,.str z2,R]) ⟨z1,z2,R,rfl,hz1,hz2,hR⟩ (by omega)
 refine ⟨_,n6.hd,by simp [kd];omega,?_⟩
 rw [eq]
 exact ⟨nms++[z],qs,most',_,_,_,_,_,n6.put hq,by simp;omega,by omega,m0,m1,rfl⟩
theorem lJ {as st Q} (h:bP as st Q):aK Γ cA (frame 15 as) st (aD st Q):=by
 obtain ⟨p,rfl,hp,k⟩:=h
 have pp:=hp.lt
 unfold cA
 refine bq (fun ρ s=>∃far:Int,Gr st p s∧0<far∧far≤10 ^ 8∧ρ=[some (.ref p),some (.int far),none,none,none,none,none,none,none,none,none,none,none,none,none]) ?_ ?_
 ·walk_at "WPN"
  have g0:Gr st p (st++[Cell.lst [PV.int 4,PV.int 12,PV.int 10000,PV.int 100000000]]):=(Gr.refl hp).app
  refine ⟨zE,zF,p,4,rfl,g0.pot,by decide,by decide,fun y s y0 y1 g=>?_⟩
  obtain ⟨i,ev,i0,i1⟩:=vD (L:=[4,12,10000,100000000]) (B:=100000000) (by decide) y0 y1
  walk_at "WPN"
  exact ⟨_,af (g.get az (by omega)),_,ev,(g0.trans g).tmp (by rw [PV.bel]) fun s2 g2 l2=>⟨g2,i,i0,i1,rfl⟩⟩
 rintro _ s1 ⟨far,g1,f0,f1,rfl⟩
 refine bq (fun ρ s=>∃bot:Int,Gr st p s∧0<bot∧bot≤10 ^ 6∧ρ=[some (.ref p),some (.int far),some (.int bot),none,none,none,none,none,none,none,none,none,none,none,none]) ?_ ?_
 ·walk_at "WPN"
  refine ⟨p,12,rfl,g1.pot,by decide,by decide,fun x s2 x0 x1 g2=>?_⟩
  walk_at "WPN"
  refine ⟨zp,p,1000000,rfl,g2.pot,by decide,by decide,fun z s3 z0 z1 g3=>?_⟩
  walk_at "WPN"
  have g4:Gr s1 p (s3++[Cell.lst [PV.int 1,PV.int (1+x),PV.int (1+z)]]):=(g2.trans g3).app
  refine ⟨p,3,rfl,g4.pot,by decide,by decide,fun y s5 y0 y1 g5=>?_⟩
  obtain ⟨i,ev,i0,i1⟩:=vD (L:=[1,1+x,1+z]) (B:=1000000) (fun i hi=>by
   simp only [List.mem_cons,List.not_mem_nil,or_false] at hi
   rcases hi with rfl|rfl|rfl <;> omega) y0 y1
  walk_at "WPN"
  exact ⟨_,af (g5.get az (by have:=g4.was;have:=(g2.trans g3).len;omega)),_,ev,(g4.trans g5).tmp (by rw [PV.bel]) fun s2 g2 l2=>⟨g1.trans g2,i,i0,i1,rfl⟩⟩
 rintro _ s2 ⟨bot,g2,b0,b1,rfl⟩
 refine bq (fun ρ s=>s2++[.lst []]=s∧ρ=[some (.ref p),some (.int far),some (.int bot),some (.ref s2.length),none,none,none,none,none,none,none,none,none,none,none]) (by walk_at "WPN") ?_
 rintro _ _ ⟨rfl,rfl⟩
 have l2:=g2.len
 refine bq (fun ρ s=>∃pl names,Gr st p s∧st.length≤pl∧s[pl]?=some (.lst (sV names))∧(∀z∈names,Nm z)∧2≤names.length∧names.length≤4∧ρ=[some (.ref p),some (.int far),some (.int bot),some (.ref s2.length),some (.ref pl),none,none,none,none,none,none,none,none,none,none]) ?_ ?_
 ·walk_at "WPN"
  refine ⟨p,3,rfl,g2.pot.app,by decide,by decide,fun y s3 y0 y1 g3=>?_⟩
  walk_at "WPN"
  obtain ⟨N,hN⟩:∃N:Nat,2+y=N:=⟨(2+y).toNat,by omega⟩
  rw [hN]
  refine ⟨by omega,by omega,by simp [bD];omega,?_⟩
  refine dF Γm (fun i acc s=>∃names,acc=sV names∧names.length=i∧(∀z∈names,Nm z)∧Gr st p s∧s[s2.length]?=some (.lst (sV names))) ⟨[],rfl,rfl,fun z hz=>(nomatch hz),g2.app.trans g3,g3.get az (by omega)⟩ ?_ ?_
  ·rintro i v acc s hi ⟨names,rfl,nl,hN',g,ht⟩
   obtain ⟨rfl,hi⟩:=cf hi
   refine ⟨trivial,?_⟩
   walk_at "WPN"
   refine ⟨p,s2.length,names,rfl,g.pot,by omega,ht,by omega,hN',fun z s' hz gn hs=>⟨names++[z],by simp [sV],by simp [nl],fun y hy=>?_,Gn.gr g (by omega) gn,hs⟩⟩
   rcases List.mem_append.mp hy with hy|hy
   ·exact hN' y hy
   ·rw [List.mem_singleton] at hy;subst hy;exact hz
  ·rintro acc s ⟨names,rfl,nl,hN',g,ht⟩
   refine ⟨trivial,?_⟩
   have nl:names.length=N:=by simpa [bD] using nl
   exact ⟨g.app,s.length,by have:=g.len;omega,names,az,hN',by omega,by omega,rfl⟩
 rintro _ s3 ⟨pl,names,g3,l3,hpl,N,N2,N4,rfl⟩
 refine bq (fun ρ s=>∃ws,Gr s3 p s∧(∀z∈ws,Nm z)∧ρ=[some (.ref p),some (.int far),some (.int bot),some (.ref s2.length),some (.ref pl),some (.tup (sV ws)),none,none,none,none,none,none,none,none,none]) ?_ ?_
 ·walk_at "WPN"
  refine ⟨_,af hpl,by simp [sV];omega,?_⟩
  refine dF Γm (fun i acc s=>∃ws,acc=sV ws∧ws.length≤i∧(∀z∈ws,Nm z)∧Gr s3 p s) ⟨[],rfl,Nat.le_refl _,fun z hz=>(nomatch hz),Gr.refl g3.pot⟩ ?_ ?_
  ·rintro i v acc s hi ⟨ws,rfl,wl,hw,g⟩
   rw [List.getElem?_map] at hi
   obtain ⟨z,hz,rfl⟩:=Option.map_eq_some_iff.mp hi
   refine ⟨g.old pl (ar hpl) (by omega),?_⟩
   walk_at "WPN"
   refine ⟨p,2,rfl,g.pot,by decide,by decide,fun y s' y0 y1 g'=>?_⟩
   walk_at "WPN"
   refine bG (fun c=>⟨ws++[z],by simp [sV],by simp;omega,fun y hy=>?_,g.trans g'⟩) fun c=>⟨ws,rfl,by omega,hw,g.trans g'⟩
   rcases List.mem_append.mp hy with hy|hy
   ·exact hw y hy
   ·rw [List.mem_singleton] at hy;subst hy;exact N _ (List.mem_of_getElem? hz)
  ·rintro acc s ⟨ws,rfl,wl,hw,g⟩
   refine ⟨g.old pl (ar hpl) (by omega),?_⟩
   have wl:ws.length≤names.length:=by simpa [sV] using wl
   exact ⟨ws,bv az,by omega,fun ss' hp' _=>⟨_,af (by rw [bt (k:=1)];rfl),g.app,ss',fun z hz=>hw z (hp'.subset hz),rfl⟩⟩
 rintro _ s4 ⟨ws,g4,hws,rfl⟩
 have hpl4:=g4.get hpl (by omega)
 refine bq (fun ρ s=>s4++[.lst []]=s∧ρ=[some (.ref p),some (.int far),some (.int bot),some (.ref s2.length),some (.ref pl),some (.tup (sV ws)),some (.ref s4.length),none,none,none,none,none,none,none,none]) (by walk_at "WPN") ?_
 rintro _ _ ⟨rfl,rfl⟩
 refine bq (fun ρ s=>s4++[.lst [],.dk []]=s∧ρ=[some (.ref p),some (.int far),some (.int bot),some (.ref s2.length),some (.ref pl),some (.tup (sV ws)),some (.ref s4.length),some (.ref (s4.length+1)),none,none,none,none,none,none,none]) (by walk_at "WPN") ?_
 rintro _ _ ⟨rfl,rfl⟩
 refine bq (fun ρ s=>s4++[.lst [],.dk []]=s∧ρ=[some (.ref p),some (.int far),some (.int bot),some (.ref s2.length),some (.ref pl),some (.tup (sV ws)),some (.ref s4.length),some (.ref (s4.length+1)),some (.int 0),none,none,none,none,none,none]) (by walk_at "WPN") ?_
 rintro _ _ ⟨rfl,rfl⟩
 have n0:NS st p (s4++[.lst [],.dk []]) pl s4.length (s4.length+1) names [] []:=⟨(g3.trans g4).app,l3,by have:=ar hpl4;omega,by omega,aU hpl4,by rw [eU];rfl,by rw [bt (k:=1)];rfl,⟨List.Pairwise.nil,by simp,fun q hq=>(nomatch hq)⟩,N,N2,N4,fun z hz=>(nomatch hz)⟩
 have n0:=n0
 refine bq (fun ρ s=>∃i,NI st p far bot s2.length pl ws s4.length (s4.length+1) names i ρ s) ?_ ?_
 ·walk_at "WPN"
  refine ⟨p,7,rfl,n0.g.pot,by decide,by decide,fun x s5 x0 x1 g5=>?_⟩
  walk_at "WPN"
  obtain ⟨M,rfl⟩:∃M:Nat,x=M:=⟨x.toNat,by omega⟩
  refine ⟨by omega,by omega,?_⟩
  refine hX Γm (NI st p far bot s2.length pl ws s4.length (s4.length+1) names) ⟨[],[],0,_,_,_,_,_,n0.mono g5,Nat.le_refl _,Nat.le_refl _,by omega,by omega,rfl⟩ ?_ ?_
  ·rintro i v ρ s hi ⟨nms,ps,most,k',a,b,u,r,n,nl,pl',m0,m1,rfl⟩
   obtain ⟨rfl,hi⟩:=cf hi
   exact ⟨trivial,qH (k:=k') f0 f1 b0 b1 (by omega) n nl pl' m0 m1⟩
  ·rintro ρ s hI
   exact ⟨trivial,_,hI⟩
 rintro _ s5 ⟨i,nms,ps,most,k',a,b,u,r,n,nl,pl',m0,m1,rfl⟩
 walk_at "WP"
 refine ⟨p,far,rfl,n.g.pot,f0,by omega,fun y s6 y0 y1 g6=>?_⟩
 walk_at "WP"
 obtain ⟨A,hA⟩:∃A:Nat,most+y=A:=⟨(most+y).toNat,by omega⟩
 obtain ⟨B,rfl⟩:∃B:Nat,bot=B:=⟨bot.toNat,by omega⟩
 rw [hA]
 have n6:=n.mono g6
 have be:B<2 ^ 8000:=Nat.lt_of_lt_of_le (show B<2 ^ 64 by omega) (Nat.pow_le_pow_right (by decide) (by decide))
 exact ⟨A,B,rfl,by omega,be,.inl (k _ _ ws _ ps pl names far B n6.g (by have:=n6.l1;have:=n6.l2;have:=n6.l3;omega) n6.l1 n6.hd n6.P n6.hp (by omega) n6.N4 n6.N (Dat.fr (q:=gI A B)) hws)⟩
set_option Elab.async false
set_option linter.all false
set_option maxRecDepth 100000
set_option maxHeartbeats 4000000
open PySem L2 HX FW
theorem TieV.dat {v:PV} (h:TieV v):Dat 7 v:=by
 obtain ⟨a,b,r,rfl,ha,hb,hr⟩:=h
 refine Dat.tup (n:=6) fun x hx=>?_
 simp only [List.mem_cons,List.not_mem_nil,or_false] at hx
 rcases hx with rfl|rfl|rfl
 ·exact Dat.str ha
 ·exact Dat.str hb
 ·exact hr
theorem iG {st:AH} {a b:Nat} {qs:List (Str × PV)} (ha:st[a]?=some (.dk (kd qs))) (hb:st[b]?=some (.dk (kd qs))) (hq:NetP qs):np st (.ref a) (.ref b):=by
 refine .inr ⟨a,b,kd qs,kd qs,rfl,rfl,ha,hb,rfl,fun p hp=>?_⟩
 obtain ⟨q,hm,rfl⟩:=List.mem_map.mp hp
 exact ⟨q.2,jz hq.nd hm,(hq.tie q hm).dat.same (by omega)⟩
theorem jn {st:AH} {a b:Nat} {qs:List (Str × PV)} (ha:st[a]?=some (.dk (kd qs))) (hb:st[b]?=some (.dk (kd qs))) (hq:NetP qs):gX st (.ref a) (.ref b):=.inr ⟨a,b,rfl,rfl,iG ha hb hq⟩
theorem gK {st:AH} {v w:PV} {a b:Nat} {qs:List (Str × PV)} (hv:Dat 6 v) (hw:Dat 6 w) (ha:st[a]?=some (.dk (kd qs))) (hb:st[b]?=some (.dk (kd qs))) (hq:NetP qs):gX st (.tup [v,w,.ref a]) (.tup [v,w,.ref b]) :=
 .inl ⟨_,_,rfl,rfl,.inl (hv.same (by omega)),.inl (hw.same (by omega)),iG ha hb hq,trivial⟩
theorem qp {ps:List (Str × PV)} (h:NetP ps):bU [] ps=ps:=by
 unfold bU
 refine List.filter_eq_self.mpr fun p hp=>?_
 obtain ⟨a,b,r,e,_⟩:=h.tie p hp
 rw [e]
 rfl
noncomputable abbrev km:Ss:=(.cons (.set (.name 2) (.call 1 (.cons (.var 0) (.cons (.var 1) .nil)))) (.cons (.set (.tup (.cons (.name 3) (.cons (.name 4) (.cons (.name 5) (.cons (.name 6) .nil))))) (.call 8 (.cons (.var 2) .nil))) (.cons (.set (.name 7) (.call 9 (.cons (.var 2) (.cons (.var 4) .nil)))) (.cons (.set (.name 8) (.ix (.var 3) (.int 2))) (.cons (.set (.name 9) (.dcl (.compK (.tup (.cons (.var 0) (.cons (.ix (.var 2) (.var 0)) .nil))) (.name 0) .keys (.var 8) (.cons (.bop true (.cons (.cmp .NotIn (.ix (.ix (.var 2) (.var 0)) (.int 0)) (.var 1)) (.cons (.cmp .NotIn (.ix (.ix (.var 2) (.var 0)) (.int 1)) (.var 1)) .nil))) .nil) ["_law_name_here"] [7,8]))) (.cons (.set (.name 10) (.dcp (.ix (.var 3) (.int 2)))) (.cons (.set (.name 11) (.call 0 (.cons (.var 3) (.cons (.var 7) .nil)))) (.cons (.ifS (.bop false (.cons (.not (.inst (.var 11) "tuple")) (.cons (.eqd true (.var 11) (.tup (.cons (.ix (.var 3) (.int 0)) (.cons (.ix (.var 3) (.int 1)) (.cons (.var 9) .nil))))) (.cons (.eqd true (.ix (.var 3) (.int 2)) (.var 10)) .nil)))) (.cons (.ret (.bl false)) .nil) .nil) (.cons (.expr (.clr (.ix (.var 11) (.int 2)))) (.cons (.ifS (.bop false (.cons (.eqd true (.ix (.var 3) (.int 2)) (.var 10)) (.cons (.eqd true (.call 0 (.cons (.var 3) (.cons (.var 7) .nil))) (.tup (.cons (.ix (.var 3) (.int 0)) (.cons (.ix (.var 3) (.int 1)) (.cons (.var 9) .nil))))) (.cons (.eqd true (.call 0 (.cons (.var 3) (.cons (.tup .nil) .nil))) (.var 3)) .nil)))) (.cons (.ret (.bl false)) .nil) .nil) .nil))))))))))
noncomputable def L2P (ns:List Int) (i p:Nat) (f g' h j l:Option PV) (s1:AH) (ρ:Fr) (s:AH):Prop:=∃v ws dd ps pl names far bot,Gr s1 p s∧s1.length≤dd∧s1.length≤pl∧s[dd]?=some (.dk (kd ps))∧NetP ps∧s[pl]?=some (.lst (sV names))∧0<names.length∧names.length≤4∧(∀z∈names,Nm z)∧Dat 6 v∧(∀z∈ws,Nm z) ∧
  ρ=[some (.rdl (ns.map PV.int)),some (.int i),some (.ref p),some (.tup [v,.tup (sV ws),.ref dd]),some (.ref pl),some (.int far),some (.int bot),f,g',h,j,l]
noncomputable abbrev lF (ns:List Int) (i p:Nat) (v:PV) (ws:List Str) (dd pl:Nat) (far bot:Int) (bs:List Str) (g h j l:Option PV):Fr:=[some (.rdl (ns.map PV.int)),some (.int i),some (.ref p),some (.tup [v,.tup (sV ws),.ref dd]),some (.ref pl),some (.int far),some (.int bot),some (.tup (sV bs)),g,h,j,l]
noncomputable def L3P (ns:List Int) (i p:Nat) (v:PV) (ws:List Str) (dd pl:Nat) (far bot:Int) (g h j l:Option PV) (ps:List (Str × PV)) (ρ:Fr) (s:AH):Prop:=∃bs:List Str,s[dd]?=some (.dk (kd ps))∧ρ=lF ns i p v ws dd pl far bot bs g h j l
theorem pz {ns:List Int} {i:Nat} {x a b c d e f g' h j l:Option PV} {s:AH} {I:Fr→AH→Prop} {D:aJ} (hl:ns.length≤63) (hi:i<9) (hI:∀x a b c d e f g h j l s,I [some (.rdl (ns.map PV.int)),x,a,b,c,d,e,f,g,h,j,l] s) :
  aK Γ km [some (.rdl (ns.map PV.int)),some (.int i),a,b,c,d,e,f,g',h,j,l] s (LD I D):=by
 unfold km
 refine bq (fun ρ s=>∃p,Pot s p∧ρ=[some (.rdl (ns.map PV.int)),some (.int i),some (.ref p),b,c,d,e,f,g',h,j,l]) ?_ ?_
 ·walk_at "WPN"
  exact ⟨ns,i,rfl,hl,hi,fun p s hp=>⟨p,hp,rfl⟩⟩
 rintro _ s1 ⟨p,hp,rfl⟩
 refine bq (L2P ns i p f g' h j l s1) ?_ ?_
 ·walk_at "WPN"
  refine ⟨p,rfl,hp,fun s' v ws dd ps pl names far bot g l1 l2 hd hP hpl n0 n4 hN hv hws=>?_⟩
  walk_at "WPN"
  exact ⟨v,ws,dd,ps,pl,names,far,bot,g,l1,l2,hd,hP,hpl,n0,n4,hN,hv,hws,rfl⟩
 rintro _ s2 ⟨v,ws,dd,ps,pl,names,far,bot,g,l1,l2,hd,hP,hpl,n0,n4,hN,hv,hws,rfl⟩
 have pp:=hp.lt
 have hw:Dat 6 (.tup (sV ws)):=Dat.tup (n:=5) fun x hx=>by
  obtain ⟨z,hz,rfl⟩:=List.mem_map.mp hx
  exact Dat.str (hws z hz)
 refine bq (L3P ns i p v ws dd pl far bot g' h j l ps) ?_ ?_
 ·walk_at "WPN"
  exact ⟨p,pl,names,rfl,g.pot,by omega,hpl,n0,n4,hN,fun bs s' _ g'=>⟨bs,g'.get hd (by omega),rfl⟩⟩
 rintro _ S ⟨bs,hd,rfl⟩
 have hK:=hP.keep (ns:=bs)
 generalize hKK:bU bs ps=K at hK
 refine bq (fun ρ s=>S=s∧ρ=lF ns i p v ws dd pl far bot bs (some (.ref dd)) h j l) (by walk_at "WPN") ?_
 rintro _ _ ⟨rfl,rfl⟩
 refine bq (fun ρ s=>S++[.lst (prL K),.dk (kd K)]=s∧ρ=lF ns i p v ws dd pl far bot bs (some (.ref dd)) (some (.ref (S.length+1))) j l) ?_ ?_
 ·walk_at "WPN"
  refine ⟨_,hd,by simp [kd];have:=hP.ln;omega,?_⟩
  refine dF Γm (fun i acc s=>s=S.set dd (.fz (kd ps))∧acc=prL (bU bs (ps.take i))) ⟨rfl,by simp [bU,prL]⟩ ?_ ?_
  ·rintro i x acc s hx ⟨rfl,rfl⟩
   obtain ⟨⟨z,w⟩,hq,rfl⟩:=tJ hx
   obtain ⟨a,b,r,rfl,-⟩:=hP.tie _ (List.mem_of_getElem? hq)
   have hdv:=jz hP.nd (List.mem_of_getElem? hq)
   have hfz:(S.set dd (.fz (kd ps)))[dd]?=some (.fz (kd ps)):=List.getElem?_set_self (ar hd)
   refine ⟨trivial,?_⟩
   walk_at "WPN"
   refine ⟨_,.inr hfz,_,hdv,?_⟩
   walk_at "WPN"
   refine ⟨bs,rfl,bG (fun c=>⟨_,.inr hfz,_,hdv,?_⟩) fun c=>?_⟩
   ·walk_at "WPN"
    refine ⟨bs,rfl,bG (fun c2=>⟨_,.inr hfz,_,hdv,?_⟩) fun c2=>?_⟩
    ·rw [lw hq (by simp only [eX,c,c2];rfl),←gT]
    ·rw [gk hq (by simp [eX,eq_true_of_ne_false c2])]
   ·rw [gk hq (by simp [eX,eq_true_of_ne_false c])]
  ·rintro acc s ⟨rfl,rfl⟩
   rw [ld,List.take_length,hKK]
   refine ⟨trivial,List.getElem?_set_self (ar hd),?_⟩
   rw [lj hd]
   exact ⟨K,by rw [List.length_set];exact az,by have:=hK.ln;omega,by rw [ki hK.nd],List.length_set⟩
 rintro _ _ ⟨rfl,rfl⟩
 refine bq (fun ρ s=>S++[.lst (prL K),.dk (kd K),.dk (kd ps)]=s∧ρ=lF ns i p v ws dd pl far bot bs (some (.ref dd)) (some (.ref (S.length+1))) (some (.ref (S.length+2))) l) ?_ ?_
 ·walk_at "WPN"
  exact ⟨_,aU hd,rfl⟩
 rintro _ _ ⟨rfl,rfl⟩
 refine bq (fun ρ s=>S++[.lst (prL K),.dk (kd K),.dk (kd ps),.dk (kd K)]=s∧ρ=lF ns i p v ws dd pl far bot bs (some (.ref dd)) (some (.ref (S.length+1))) (some (.ref (S.length+2))) (some (.tup [v,.tup (sV ws),.ref (S.length+3)]))) ?_ ?_
 ·walk_at "WPN"
  exact ⟨v,.tup (sV ws),dd,ps,bs,rfl,aU hd,hP,by rw [hKK];simp,by simp⟩
 rintro _ _ ⟨rfl,rfl⟩
 refine bq (fun ρ s=>S++[.lst (prL K),.dk (kd K),.dk (kd ps),.dk (kd K)]=s∧ρ=lF ns i p v ws dd pl far bot bs (some (.ref dd)) (some (.ref (S.length+1))) (some (.ref (S.length+2))) (some (.tup [v,.tup (sV ws),.ref (S.length+3)]))) ?_ ?_
 ·walk_at "WPN"
  rw [if_neg (by decide)]
  refine ⟨gK hv hw (by rw [bt (k:=3)];rfl) (by rw [bt (k:=1)];rfl) hK,?_⟩
  exact jn (aU hd) (by rw [bt (k:=2)];rfl) hP
 rintro _ _ ⟨rfl,rfl⟩
 refine bq (fun ρ s=>S++[.lst (prL K),.dk (kd K),.dk (kd ps),.dk []]=s∧ρ=lF ns i p v ws dd pl far bot bs (some (.ref dd)) (some (.ref (S.length+1))) (some (.ref (S.length+2))) (some (.tup [v,.tup (sV ws),.ref (S.length+3)]))) ?_ ?_
 ·walk_at "WPN"
  refine ⟨⟨_,rfl⟩,?_⟩
  rw [List.set_append_right _ _ (by omega)]
  simp
 rintro _ _ ⟨rfl,rfl⟩
 walk_at "WP"
 refine ⟨jn (aU hd) (by rw [bt (k:=2)];rfl) hP,v,.tup (sV ws),dd,ps,bs,rfl,aU hd,hP,?_⟩
 rw [hKK]
 refine ⟨gK hv hw az (by rw [List.append_assoc,bt (k:=1)];rfl) hK,v,.tup (sV ws),dd,ps,[],rfl,aU (aU hd),hP,?_⟩
 rw [qp hP]
 exact ⟨gK hv hw az (aU (aU (aU hd))) hP,hI _ _ _ _ _ _ _ _ _ _ _ _⟩
theorem xw {as st Q} (h:dR as st Q):aK Γ gS (frame 12 as) st (aD st Q):=by
 obtain ⟨ns,rfl,hl,k⟩:=h
 unfold gS
 walk_at "WP"
 rw [List.length_map]
 obtain ⟨N,hN,hN6⟩:∃N:Nat,(if 1<if 4<(ns.length:Int) then 4 else (ns.length:Int) then if 4<(ns.length:Int) then 4 else (ns.length:Int) else 1)=(N:Int)∧N≤4:=by
  refine ⟨(if 1<if 4<(ns.length:Int) then 4 else (ns.length:Int) then if 4<(ns.length:Int) then 4 else (ns.length:Int) else 1).toNat,?_,?_⟩ <;> (repeat' split) <;> omega
 rw [hN]
 refine ⟨by omega,by omega,?_⟩
 refine hX Γm (fun i ρ s=>∃x a b c d e f g h j l,ρ=[some (.rdl (ns.map PV.int)),x,a,b,c,d,e,f,g,h,j,l]) ⟨_,_,_,_,_,_,_,_,_,_,_,rfl⟩ ?_ ?_
 ·rintro i v ρ s hi ⟨x,a,b,c,d,e,f,g,h,j,l,rfl⟩
  obtain ⟨rfl,hi⟩:=cf hi
  exact ⟨trivial,pz (x:=x) hl (by omega) fun x a b c d e f g h j l s=>⟨x,a,b,c,d,e,f,g,h,j,l,rfl⟩⟩
 ·rintro ρ s ⟨x,a,b,c,d,e,f,g,h,j,l,rfl⟩
  refine ⟨trivial,?_⟩
  walk_at "WP"
  exact .inl (k _)
section
variable {P:Program} {w:World} {K:PySem.W.Frag} {mg:Str→Option Value} {base:Heap}
theorem mn (F:At K mg "without" bw ["net","places"]) (G:GOk P w K mg base fq Γ):Has P w K mg base 1 "without" ["net","places"] (aY K (Γ 0)):=cB F me rfl rfl o3 G (fun as st Q=>la (st:=st)) (fun as st Q=>oB)
theorem kl (F:At K mg "_law_pot" bg ["_law_script","_law_k"]) (G:GOk P w K mg base d8 Γ):Has P w K mg base 2 "_law_pot" ["_law_script","_law_k"] (aY K (Γ 1)):=cB F lf rfl rfl lW G (fun as st Q=>jv (st:=st)) (fun as st Q=>lE)
theorem ij (F:At K mg "_law_digit" aP ["_law_pot_here","_law_many"]) (G:GOk P w K mg base cV Γ):Has P w K mg base 3 "_law_digit" ["_law_pot_here","_law_many"] (aY K (Γ 2)):=cB F ik rfl rfl jJ G (fun as st Q=>gL (st:=st)) (fun as st Q=>jB)
theorem kZ (F:At K mg "_law_low" bb ["_law_top","_law_bottom"]) (G:GOk P w K mg base eA Γ):Has P w K mg base 4 "_law_low" ["_law_top","_law_bottom"] (aY K (Γ 3)):=cB F j7 rfl rfl ma G (fun as st Q=>jF (st:=st)) (fun as st Q=>lR)
theorem jM (F:At K mg "_law_name" aX ["_law_pot_here","_law_taken"]) (G:GOk P w K mg base de Γ):Has P w K mg base 5 "_law_name" ["_law_pot_here","_law_taken"] (aY K (Γ 4)):=cB F jw rfl rfl kW G (fun as st Q=>ig (st:=st)) (fun as st Q=>kK)
theorem eQ (F:At K mg "_law_free_ride" aw ["_law_pot_here","_law_far"]) (G:GOk P w K mg base bH Γ):Has P w K mg base 6 "_law_free_ride" ["_law_pot_here","_law_far"] (aY K (Γ 5)):=cB F eR rfl rfl fc G (fun as st Q=>dZ (st:=st)) (fun as st Q=>fC)
theorem eG (F:At K mg "_law_row_rides" av ["_law_pot_here","_law_far","_law_many"]) (G:GOk P w K mg base bF Γ):Has P w K mg base 7 "_law_row_rides" ["_law_pot_here","_law_far","_law_many"] (aY K (Γ 6)):=cB F eT rfl rfl fh G (fun as st Q=>d7 (st:=st)) (fun as st Q=>fE)
theorem iq (F:At K mg "_law_rides" aR ["_law_pot_here","_law_wait","_law_far"]) (G:GOk P w K mg base cQ Γ):Has P w K mg base 8 "_law_rides" ["_law_pot_here","_law_wait","_law_far"] (aY K (Γ 7)):=cB F iB rfl rfl jP G (fun as st Q=>gB (st:=st)) (fun as st Q=>jG)
theorem ku (F:At K mg "_law_net" bf ["_law_pot_here"]) (G:GOk P w K mg base d6 Γ):Has P w K mg base 9 "_law_net" ["_law_pot_here"] (aY K (Γ 8)):=cB F j8 rfl rfl lX G (fun as st Q=>ju (st:=st)) (fun as st Q=>lJ)
theorem gM (F:At K mg "_law_places" aH ["_law_pot_here","_law_places_here"]) (G:GOk P w K mg base cu Γ):Has P w K mg base 10 "_law_places" ["_law_pot_here","_law_places_here"] (aY K (Γ 9)):=cB F gG rfl rfl iu G (fun as st Q=>f_ (st:=st)) (fun as st Q=>ii)
end
theorem all_mk {l:PySem.W.OpenLaw} {q:Program} {w:World} {K:PySem.W.Frag} {h:Heap} {mg:Str→Option Value} {fa:Addr} (X:K.In h) (G:h.Ns mainGlobals mg) (hfa:mg "law"=some (.ref fa))
  {f0:Addr} {oc0 kV0 dc0 pm0 cd0 ct0:Value} {od0 an0:Option Addr} {sl0:Array (Option Value)}
  {f1:Addr} {oc1 kV1 dc1 pm1 cd1 ct1:Value} {od1 an1:Option Addr} {sl1:Array (Option Value)}
  {f2:Addr} {oc2 kV2 dc2 pm2 cd2 ct2:Value} {od2 an2:Option Addr} {sl2:Array (Option Value)}
  {f3:Addr} {oc3 kV3 dc3 pm3 cd3 ct3:Value} {od3 an3:Option Addr} {sl3:Array (Option Value)}
  {f4:Addr} {oc4 kV4 dc4 pm4 cd4 ct4:Value} {od4 an4:Option Addr} {sl4:Array (Option Value)}
  {f5:Addr} {oc5 kV5 dc5 pm5 cd5 ct5:Value} {od5 an5:Option Addr} {sl5:Array (Option Value)}
  {f6:Addr} {oc6 kV6 dc6 pm6 cd6 ct6:Value} {od6 an6:Option Addr} {sl6:Array (Option Value)}
  {f7:Addr} {oc7 kV7 dc7 pm7 cd7 ct7:Value} {od7 an7:Option Addr} {sl7:Array (Option Value)}
  {f8:Addr} {oc8 kV8 dc8 pm8 cd8 ct8:Value} {od8 an8:Option Addr} {sl8:Array (Option Value)}
  {f9:Addr} {oc9 kV9 dc9 pm9 cd9 ct9:Value} {od9 an9:Option Addr} {sl9:Array (Option Value)}
  {f10:Addr} {oc10 kV10 dc10 pm10 cd10 ct10:Value} {od10 an10:Option Addr} {sl10:Array (Option Value)}
  (a0:PySem.W.nsIn K mainGlobals "without"=some (some (.ref f0)))
  (l0:K.lookup f0=some ⟨oc0,od0,.func (PySem.W.fnOf "without" "without" (aN bw) (ah bw) (ac bw) .none kV0 dc0 pm0 an0 cd0 ct0),sl0⟩)
  (c0:PySem.W.codeIn K cd0 "without"=true) (k0:PySem.W.keepIn K (.ref f0)=true)
  (a1:PySem.W.nsIn K mainGlobals "_law_pot"=some (some (.ref f1)))
  (l1:K.lookup f1=some ⟨oc1,od1,.func (PySem.W.fnOf "_law_pot" "_law_pot" (aN bg) (ah bg) (ac bg) .none kV1 dc1 pm1 an1 cd1 ct1),sl1⟩)
  (c1:PySem.W.codeIn K cd1 "_law_pot"=true) (k1:PySem.W.keepIn K (.ref f1)=true)
  (a2:PySem.W.nsIn K mainGlobals "_law_digit"=some (some (.ref f2)))
  (l2:K.lookup f2=some ⟨oc2,od2,.func (PySem.W.fnOf "_law_digit" "_law_digit" (aN aP) (ah aP) (ac aP) .none kV2 dc2 pm2 an2 cd2 ct2),sl2⟩)
  (c2:PySem.W.codeIn K cd2 "_law_digit"=true) (k2:PySem.W.keepIn K (.ref f2)=true)
  (a3:PySem.W.nsIn K mainGlobals "_law_low"=some (some (.ref f3)))
  (l3:K.lookup f3=some ⟨oc3,od3,.func (PySem.W.fnOf "_law_low" "_law_low" (aN bb) (ah bb) (ac bb) .none kV3 dc3 pm3 an3 cd3 ct3),sl3⟩)
  (c3:PySem.W.codeIn K cd3 "_law_low"=true) (k3:PySem.W.keepIn K (.ref f3)=true)
  (a4:PySem.W.nsIn K mainGlobals "_law_name"=some (some (.ref f4)))
  (l4:K.lookup f4=some ⟨oc4,od4,.func (PySem.W.fnOf "_law_name" "_law_name" (aN aX) (ah aX) (ac aX) .none kV4 dc4 pm4 an4 cd4 ct4),sl4⟩)
  (c4:PySem.W.codeIn K cd4 "_law_name"=true) (k4:PySem.W.keepIn K (.ref f4)=true)
  (a5:PySem.W.nsIn K mainGlobals "_law_free_ride"=some (some (.ref f5)))
  (l5:K.lookup f5=some ⟨oc5,od5,.func (PySem.W.fnOf "_law_free_ride" "_law_free_ride" (aN aw) (ah aw) (ac aw) .none kV5 dc5 pm5 an5 cd5 ct5),sl5⟩)
  (c5:PySem.W.codeIn K cd5 "_law_free_ride"=true) (k5:PySem.W.keepIn K (.ref f5)=true)
  (a6:PySem.W.nsIn K mainGlobals "_law_row_rides"=some (some (.ref f6)))
  (l6:K.lookup f6=some ⟨oc6,od6,.func (PySem.W.fnOf "_law_row_rides" "_law_row_rides" (aN av) (ah av) (ac av) .none kV6 dc6 pm6 an6 cd6 ct6),sl6⟩)
  (c6:PySem.W.codeIn K cd6 "_law_row_rides"=true) (k6:PySem.W.keepIn K (.ref f6)=true)
  (a7:PySem.W.nsIn K mainGlobals "_law_rides"=some (some (.ref f7)))
  (l7:K.lookup f7=some ⟨oc7,od7,.func (PySem.W.fnOf "_law_rides" "_law_rides" (aN aR) (ah aR) (ac aR) .none kV7 dc7 pm7 an7 cd7 ct7),sl7⟩)
  (c7:PySem.W.codeIn K cd7 "_law_rides"=true) (k7:PySem.W.keepIn K (.ref f7)=true)
  (a8:PySem.W.nsIn K mainGlobals "_law_net"=some (some (.ref f8)))
  (l8:K.lookup f8=some ⟨oc8,od8,.func (PySem.W.fnOf "_law_net" "_law_net" (aN bf) (ah bf) (ac bf) .none kV8 dc8 pm8 an8 cd8 ct8),sl8⟩)
  (c8:PySem.W.codeIn K cd8 "_law_net"=true) (k8:PySem.W.keepIn K (.ref f8)=true)
  (a9:PySem.W.nsIn K mainGlobals "_law_places"=some (some (.ref f9)))
  (l9:K.lookup f9=some ⟨oc9,od9,.func (PySem.W.fnOf "_law_places" "_law_places" (aN aH) (ah aH) (ac aH) .none kV9 dc9 pm9 an9 cd9 ct9),sl9⟩)
  (c9:PySem.W.codeIn K cd9 "_law_places"=true) (k9:PySem.W.keepIn K (.ref f9)=true)
  (a10:PySem.W.nsIn K mainGlobals "law"=some (some (.ref f10)))
  (l10:K.lookup f10=some ⟨oc10,od10,.func (PySem.W.fnOf "law" "law" (aN dY) (ah dY) (ac dY) .none kV10 dc10 pm10 an10 cd10 ct10),sl10⟩)
  (c10:PySem.W.codeIn K cd10 "law"=true) (k10:PySem.W.keepIn K (.ref f10)=true)
  (z0:PySem.W.nsIn K mainGlobals "int"=some none)
  (z1:PySem.W.nsIn K mainGlobals "len"=some none)
  (z2:PySem.W.nsIn K mainGlobals "divmod"=some none)
  (z3:PySem.W.nsIn K mainGlobals "range"=some none)
  (z4:PySem.W.nsIn K mainGlobals "max"=some none)
  (z5:PySem.W.nsIn K mainGlobals "tuple"=some none)
  (z6:PySem.W.nsIn K mainGlobals "sorted"=some none)
  (z7:PySem.W.nsIn K mainGlobals "min"=some none)
  (z8:PySem.W.nsIn K mainGlobals "isinstance"=some none)
  (z9:PySem.W.nsIn K mainGlobals "dict"=some none)
  (tz0:PySem.W.nsIn K mainGlobals "coming"=some none)
  (tz1:PySem.W.nsIn K mainGlobals "latest"=some none)
  (tz2:PySem.W.nsIn K mainGlobals "through"=some none)
  : ∃fd:FuncData,(∀(s:Shared) (v:Value),BindsTo s fd ⟨[v],[]⟩ [("_law_script",v)])∧sE K∧(∀x∈aL,PySem.W.tabIn K x=none∨∃d,(PyProof.Rows.recsOf q).find? (fun e=>e.name == x)=some d)∧∀base:Heap,K.In base→base.Ns mainGlobals mg→gm K mg base→im l.prog w K mg base CX0 11 fa fd ["_law_script"] (aY K dR):=by
 have e:=hfa.symm.trans (PySem.W.mg_of X G a10)
 cases e
 have hb:∀x∈fD,mg x=none:=by
  intro x hx
  simp only [fD,List.mem_cons,List.not_mem_nil,or_false] at hx
  rcases hx with rfl|rfl|rfl|rfl|rfl|rfl|rfl|rfl|rfl|rfl
  ·exact PySem.W.mg_none_of X G z0
  ·exact PySem.W.mg_none_of X G z1
  ·exact PySem.W.mg_none_of X G z2
  ·exact PySem.W.mg_none_of X G z3
  ·exact PySem.W.mg_none_of X G z4
  ·exact PySem.W.mg_none_of X G z5
  ·exact PySem.W.mg_none_of X G z6
  ·exact PySem.W.mg_none_of X G z7
  ·exact PySem.W.mg_none_of X G z8
  ·exact PySem.W.mg_none_of X G z9
 have hgl:∀x v,glL.lookup x=some v→∃u y,mg x=some u∧RelV y u∧∀m H,R K m H v y:=by
  intro x v hx
  cases hx
 have F_without:At K mg "without" bw ["net","places"]:=At.mk' X G (fun _ _ _ _ _ _ us hl=>ar2 (P:=fun us=>bindArgs _ { pos:=us }=pure (List.zip _ us)) (fun _ _=>rfl) us hl) a0 l0 c0 k0
 have F__law_pot:At K mg "_law_pot" bg ["_law_script","_law_k"]:=At.mk' X G (fun _ _ _ _ _ _ us hl=>ar2 (P:=fun us=>bindArgs _ { pos:=us }=pure (List.zip _ us)) (fun _ _=>rfl) us hl) a1 l1 c1 k1
 have F__law_digit:At K mg "_law_digit" aP ["_law_pot_here","_law_many"]:=At.mk' X G (fun _ _ _ _ _ _ us hl=>ar2 (P:=fun us=>bindArgs _ { pos:=us }=pure (List.zip _ us)) (fun _ _=>rfl) us hl) a2 l2 c2 k2
 have F__law_low:At K mg "_law_low" bb ["_law_top","_law_bottom"]:=At.mk' X G (fun _ _ _ _ _ _ us hl=>ar2 (P:=fun us=>bindArgs _ { pos:=us }=pure (List.zip _ us)) (fun _ _=>rfl) us hl) a3 l3 c3 k3
 have F__law_name:At K mg "_law_name" aX ["_law_pot_here","_law_taken"]:=At.mk' X G (fun _ _ _ _ _ _ us hl=>ar2 (P:=fun us=>bindArgs _ { pos:=us }=pure (List.zip _ us)) (fun _ _=>rfl) us hl) a4 l4 c4 k4
 have F__law_free_ride:At K mg "_law_free_ride" aw ["_law_pot_here","_law_far"]:=At.mk' X G (fun _ _ _ _ _ _ us hl=>ar2 (P:=fun us=>bindArgs _ { pos:=us }=pure (List.zip _ us)) (fun _ _=>rfl) us hl) a5 l5 c5 k5
 have F__law_row_rides:At K mg "_law_row_rides" av ["_law_pot_here","_law_far","_law_many"]:=At.mk' X G (fun _ _ _ _ _ _ us hl=>ar3 (P:=fun us=>bindArgs _ { pos:=us }=pure (List.zip _ us)) (fun _ _ _=>rfl) us hl) a6 l6 c6 k6
 have F__law_rides:At K mg "_law_rides" aR ["_law_pot_here","_law_wait","_law_far"]:=At.mk' X G (fun _ _ _ _ _ _ us hl=>ar3 (P:=fun us=>bindArgs _ { pos:=us }=pure (List.zip _ us)) (fun _ _ _=>rfl) us hl) a7 l7 c7 k7
 have F__law_net:At K mg "_law_net" bf ["_law_pot_here"]:=At.mk' X G (fun _ _ _ _ _ _ us hl=>ar1 (P:=fun us=>bindArgs _ { pos:=us }=pure (List.zip _ us)) (fun _=>rfl) us hl) a8 l8 c8 k8
 have F__law_places:At K mg "_law_places" aH ["_law_pot_here","_law_places_here"]:=At.mk' X G (fun _ _ _ _ _ _ us hl=>ar2 (P:=fun us=>bindArgs _ { pos:=us }=pure (List.zip _ us)) (fun _ _=>rfl) us hl) a9 l9 c9 k9
 have t_coming:=lK tz0
 have t_latest:=lK tz1
 have t_through:=lK tz2
 refine ⟨PySem.W.fnOf "law" "law" (aN dY) (ah dY) (ac dY) .none kV10 dc10 pm10 an10 cd10 ct10,fun s v=>.of_eq rfl,?lk,?lq,fun base _ _ B=>?_⟩
 case lk =>
  refine tq fun x hx=>?_
  simp only [aL,List.mem_cons,List.not_mem_nil,or_false] at hx
  rcases hx with rfl|rfl|rfl
  ·exact .inl t_coming
  ·exact .inl t_latest
  ·exact .inl t_through
 case lq =>
  intro x hx
  simp only [aL,List.mem_cons,List.not_mem_nil,or_false] at hx
  rcases hx with rfl|rfl|rfl
  ·exact .inl t_coming
  ·exact .inl t_latest
  ·exact .inl t_through
 have G0:GOk l.prog w K mg base fq Γ:=⟨fun f x hf=>absurd hf (Nat.not_lt_zero _),hb,hgl,Γm⟩
 have G1:GOk l.prog w K mg base d8 Γ:=G0.next rfl rfl rfl rfl rfl (mn F_without G0)
 have G2:GOk l.prog w K mg base cV Γ:=G1.next rfl rfl rfl rfl rfl (kl F__law_pot G1)
 have G3:GOk l.prog w K mg base eA Γ:=G2.next rfl rfl rfl rfl rfl (ij F__law_digit G2)
 have G4:GOk l.prog w K mg base de Γ:=G3.next rfl rfl rfl rfl rfl (kZ F__law_low G3)
 have G5:GOk l.prog w K mg base bH Γ:=G4.next rfl rfl rfl rfl rfl (jM F__law_name G4)
 have G6:GOk l.prog w K mg base bF Γ:=G5.next rfl rfl rfl rfl rfl (eQ F__law_free_ride G5)
 have G7:GOk l.prog w K mg base cQ Γ:=G6.next rfl rfl rfl rfl rfl (eG F__law_row_rides G6)
 have G8:GOk l.prog w K mg base d6 Γ:=G7.next rfl rfl rfl rfl rfl (iq F__law_rides G7)
 have G9:GOk l.prog w K mg base cu Γ:=G8.next rfl rfl rfl rfl rfl (ku F__law_net G8)
 have G10:GOk l.prog w K mg base t7 Γ:=G9.next rfl rfl rfl rfl rfl (gM F__law_places G9)
 exact sY (qual:="law") (qr (st:=dY) l10 c10 k10) v2 rfl rfl xF G10 (fun as st Q=>tw) (fun as st Q=>xw)
end My
namespace PySem.W.Fast
def tw10117694806924929931:=()
def tw10136091431199073007:=()
def tw10167667892031682645:=()
def tw10234192424850376177:=()
def tw10330831162910158657:=()
def tw10459208866426247727:=()
def tw1051061552242948928:=()
def tw10806320065074059634:=()
def tw10810766183863301280:=()
def tw10869980013512902537:=()
def tw10914174787914616634:=()
def tw10938368050065046585:=()
def tw10941213278746316100:=()
def tw11058988839414565825:=()
def tw11077663729580306278:=()
def tw11080787498884347817:=()
def tw11273754953166600948:=()
def tw11590685509660446681:=()
def tw11709566980271830081:=()
def tw11726240923480186665:=()
def tw11795176927792217862:=()
def tw11813003093969399681:=()
def tw11870672700736085016:=()
def tw11919599520812798730:=()
def tw12236547829824435697:=()
def tw12410585246830574061:=()
def tw12503748373870530706:=()
def tw12921275674826762531:=()
def tw13223007615145511460:=()
def tw13278016456721943393:=()
def tw13316939456367672328:=()
def tw13416950385547135355:=()
def tw13459558856821835236:=()
def tw13473376824325177716:=()
def tw13566996166636912392:=()
def tw13614791861350392401:=()
def tw13796456968082057471:=()
def tw14037882416223003894:=()
def tw14218079992041980992:=()
def tw145796259846879802:=()
def tw14678736381891353862:=()
def tw14991581949280086172:=()
def tw15020170084631031654:=()
def tw15056589090413954737:=()
def tw15115411044004793974:=()
def tw15636025947809245805:=()
def tw15745877540351540257:=()
def tw16191142892078068081:=()
def tw16454504971029602977:=()
def tw16824565243227121982:=()
def tw17120768219524093132:=()
def tw17164967009060279730:=()
def tw17301660776201479658:=()
def tw17406949993946221392:=()
def tw17412410624569702457:=()
def tw1747177283735830318:=()
def tw17529975038355704491:=()
def tw17673118588174604480:=()
def tw17733152413507034886:=()
def tw1774054316916802504:=()
def tw17777834672120944523:=()
def tw18009507866323811656:=()
def tw18128410760811831748:=()
def tw18162422225416835324:=()
def tw1930029166780837672:=()
def tw2055292039087371339:=()
def tw2060873462130391156:=()
def tw206321986342309496:=()
def tw2207273219581823856:=()
def tw240175141618542756:=()
def tw2446325593208431858:=()
def tw2776671565339540916:=()
def tw3296161778725029756:=()
def tw3489894169572596260:=()
def tw3501745045586796762:=()
def tw3520564534941115948:=()
def tw3733636190013653714:=()
def tw3753331514695117978:=()
def tw3931577163362557172:=()
def tw3978351626012528131:=()
def tw4133640809574202857:=()
def tw4163179261063670524:=()
def tw4178756396864677993:=()
def tw4210801143959749896:=()
def tw4360467472286466975:=()
def tw4386298211368402095:=()
def tw4434638034844856840:=()
def tw4440891818118162287:=()
def tw473910701148860364:=()
def tw4991180107978910557:=()
def tw5089175623318677099:=()
def tw5187744678299149408:=()
def tw5394772015521351989:=()
def tw545069408927266396:=()
def tw5518478453064022051:=()
def tw5781065840091732445:=()
def tw5871567451012436009:=()
def tw5912051047369455493:=()
def tw5941810152737925487:=()
def tw6033116992471718696:=()
def tw609650440603168715:=()
def tw6120209596447432108:=()
def tw6407129859581093378:=()
def tw6457411965469309879:=()
def tw6487288522796601446:=()
def tw6500334702200283825:=()
def tw6857355220516012970:=()
def tw6905084174415930017:=()
def tw6919972065609230737:=()
def tw6970441598162712263:=()
def tw7198242966214014892:=()
def tw729697191540307077:=()
def tw7401924033303176856:=()
def tw7425771905032655725:=()
def tw7454798212041805819:=()
def tw7530830220080350191:=()
def tw7640388192394540991:=()
def tw7742467585077336777:=()
def tw7760500154068038487:=()
def tw7953157035827049263:=()
def tw8084277410208993674:=()
def tw8130634111176322012:=()
def tw8621570184449999329:=()
def tw8638428846820811808:=()
def tw8924803232140746204:=()
def tw9025728531890912472:=()
def tw960591281287902703:=()
def tw9634604946850292042:=()
def tw964921764549872217:=()
end PySem.W.Fast
open PySem PySem.W PyProof.Rows
set_option maxRecDepth 100000 in
set_option maxHeartbeats 0 in
theorem PySem.Challenge.cw_hourstairs_k88_without_places_holds : PySem.Challenge.rw_hourstairs_k88_without_places.Holds := by
 w_on;o_law;k_head;(case hw=>w_witness2)
 k_fill
 refine FW.walkF (l:=PySem.Challenge.rw_hourstairs_k88_without_places) (k:=11) (x:="_law_script") rfl rfl ⟨rfl,by decide,by decide,rfl⟩ (fun w h Y=>PySem.W.kIn_of Y) ?F
 case F =>
  intro w mg fa h KX G hmg
  refine' My.all_mk KX G hmg ?a0 ?l0 ?c0 ?k0 ?a1 ?l1 ?c1 ?k1 ?a2 ?l2 ?c2 ?k2 ?a3 ?l3 ?c3 ?k3 ?a4 ?l4 ?c4 ?k4 ?a5 ?l5 ?c5 ?k5 ?a6 ?l6 ?c6 ?k6 ?a7 ?l7 ?c7 ?k7 ?a8 ?l8 ?c8 ?k8 ?a9 ?l9 ?c9 ?k9 ?a10 ?l10 ?c10 ?k10 ?z0 ?z1 ?z2 ?z3 ?z4 ?z5 ?z6 ?z7 ?z8 ?z9 ?tz0 ?tz1 ?tz2
  (case a0=>k_is)
  (case l0=>k_is)
  (case c0=>k_is)
  (case k0=>k_is)
  (case a1=>k_is)
  (case l1=>k_is)
  (case c1=>k_is)
  (case k1=>k_is)
  (case a2=>k_is)
  (case l2=>k_is)
  (case c2=>k_is)
  (case k2=>k_is)
  (case a3=>k_is)
  (case l3=>k_is)
  (case c3=>k_is)
  (case k3=>k_is)
  (case a4=>k_is)
  (case l4=>k_is)
  (case c4=>k_is)
  (case k4=>k_is)
  (case a5=>k_is)
  (case l5=>k_is)
  (case c5=>k_is)
  (case k5=>k_is)
  (case a6=>k_is)
  (case l6=>k_is)
  (case c6=>k_is)
  (case k6=>k_is)
  (case a7=>k_is)
  (case l7=>k_is)
  (case c7=>k_is)
  (case k7=>k_is)
  (case a8=>k_is)
  (case l8=>k_is)
  (case c8=>k_is)
  (case k8=>k_is)
  (case a9=>k_is)
  (case l9=>k_is)
  (case c9=>k_is)
  (case k9=>k_is)
  (case a10=>k_is)
  (case l10=>k_is)
  (case c10=>k_is)
  (case k10=>k_is)
  (case z0=>k_is)
  (case z1=>k_is)
  (case z2=>k_is)
  (case z3=>k_is)
  (case z4=>k_is)
  (case z5=>k_is)
  (case z6=>k_is)
  (case z7=>k_is)
  (case z8=>k_is)
  (case z9=>k_is)
  (case tz0=>k_is)
  (case tz1=>k_is)
  (case tz2=>k_is)
