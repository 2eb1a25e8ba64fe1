import PyProof.Rows.All
import Wide.All
import OpenK.AllK
import Wide.FinOn
import Lean
import PyProof.EqAt
import PyProof.EqKinds
import PyProof.TupleCall
import PyProof.FactsAll.set
import PyProof.DictWalks
import PyProof.CollectWalk
import PyProof.Rows.SetFrom
import PyProof.Rows.SortWalk
import PyProof.Rows.SortStr
import PyProof.Rows.MinMaxN
import KE.LcSums
import KE.KDictSum
import PyProof.DictItems
import PyProof.DictCompW
import PyProof.NeKinds
import KE.KEqDict
import KE.KPairComp
import KE.KDictOf
import PyProof.AttrMissHeap
import PySem.Challenge.RW_hourstairs_k85_whole_layers
open PySem PySem.Spec PyProof.Rows
set_option Elab.async false
set_option linter.all false
set_option maxRecDepth 100000
set_option maxHeartbeats 4000000
set_option genSizeOfSpec false
namespace L2
noncomputable abbrev Key:=Sum Int Str
noncomputable def o4:Key→Value→Bool
 | .inl k,v=>Value.isInt k v
 | .inr x,v=>Value.isStrOf x v
noncomputable def GP (w:World):Key→Int
 | .inl k=>hashInt k
 | .inr x=>hashStr w x
theorem aS:∀ {k:Key} {v:Value},o4 k v=true→(∃i t,k=Sum.inl i∧v=Value.int i t)∨(∃x t,k=Sum.inr x∧v=Value.str x t)
 | .inl i,v,h=>by
  obtain ⟨t,e⟩:=Value.isInt_shape (k:=i) (v:=v) h
  exact .inl ⟨i,t,rfl,e⟩
 | .inr x,v,h=>by
  obtain ⟨t,e⟩:=Value.isStrOf_shape (x:=x) (v:=v) h
  exact .inr ⟨x,t,rfl,e⟩
theorem wZ (i:Int) (t:Tok):o4 (.inl i) (.int i t)=true:=by simp [o4,Value.isInt]
theorem xN (x:Str) (t:Tok):o4 (.inr x) (.str x t)=true:=by simp [o4,Value.isStrOf]
theorem EJ (a b:Int):decide ((Sum.inl a:Key)=Sum.inl b)=(a == b):=by
 by_cases e:a=b
 ·subst e;simp
 ·have h:¬(Sum.inl a:Key)=Sum.inl b:=fun q=>e (Sum.inl.inj q)
  rw [decide_eq_false h]
  exact (beq_eq_false_iff_ne.mpr e).symm
theorem D5 (a b:Str):decide ((Sum.inr a:Key)=Sum.inr b)=decide (a=b):=by
 by_cases e:a=b
 ·subst e;simp
 ·have h:¬(Sum.inr a:Key)=Sum.inr b:=fun q=>e (Sum.inr.inj q)
  rw [decide_eq_false h,decide_eq_false e]
theorem EA (a:Int) (b:Str):decide ((Sum.inl a:Key)=Sum.inr b)=false:=decide_eq_false (fun q=>nomatch q)
theorem Dv (a:Str) (b:Int):decide ((Sum.inr a:Key)=Sum.inl b)=false:=decide_eq_false (fun q=>nomatch q)
noncomputable def aD (prog:Program) (w:World):PySem.KeyKind prog w Key where
 is:=o4
 hash:=GP w
 inj:=fun v a b ha hb=>by
  rcases aS ha with ⟨i,t,rfl,rfl⟩|⟨x,t,rfl,rfl⟩
  ·rcases aS hb with ⟨j,u,rfl,e⟩|⟨y,u,rfl,e⟩
   ·injection e with e1 _;rw [e1]
   ·exact nomatch e
  ·rcases aS hb with ⟨j,u,rfl,e⟩|⟨y,u,rfl,e⟩
   ·exact nomatch e
   ·injection e with e1 _;rw [e1]
 byValue:=fun k v h=>by
  rcases aS h with ⟨i,t,rfl,rfl⟩|⟨x,t,rfl,rfl⟩ <;> rfl
 pyHash:=fun hv h=>by
  rcases aS hv with ⟨i,t,rfl,rfl⟩|⟨x,t,rfl,rfl⟩
  ·exact wpAny_pyHash_int h
  ·exact wpAny_pyHash_str h
 eqBool:=fun hu hv h=>by
  rcases aS hu with ⟨i,t,rfl,rfl⟩|⟨x,t,rfl,rfl⟩
  ·rcases aS hv with ⟨j,u,rfl,rfl⟩|⟨y,u,rfl,rfl⟩
   ·rw [EJ] at h;exact wpAny_eqBool_int h
   ·rw [EA] at h;exact SeqAt.EqAt.int_str i t y u _ _ _ _ h
  ·rcases aS hv with ⟨j,u,rfl,rfl⟩|⟨y,u,rfl,rfl⟩
   ·rw [Dv] at h;exact SeqAt.EqAt.str_int x t j u _ _ _ _ h
   ·rw [D5] at h;exact wpAny_eqBool_str h
 «strs»:=fun k x t v h=>by
  rcases aS h with ⟨i,u,rfl,e⟩|⟨y,u,rfl,e⟩
  ·exact nomatch e
  ·injection e with e1 _
   subst e1
   cases v <;> rfl
theorem sW (prog:Program) (w:World) (i:Int) (t:Tok):(aD prog w).is (.inl i) (.int i t)=true:=wZ i t
theorem lz (prog:Program) (w:World) (x:Str) (t:Tok):(aD prog w).is (.inr x) (.str x t)=true:=xN x t
end L2
namespace L2
inductive V where
 | non|bl (b:Bool)|int (i:Int)|str (x:Str)|byt (b:Array UInt8)|flt (b:UInt64)|ref (a:Addr)|ty (n:String)
 deriving DecidableEq
noncomputable def RelV:V→Value→Prop
 | .non,u=>u=Value.none
 | .bl b,u=>u=Value.bool b
 | .int i,u=>∃t,u=Value.int i t
 | .str x,u=>∃t,u=Value.str x t
 | .byt b,u=>∃t,u=Value.bytes b t
 | .flt b,u=>∃t,u=Value.float b t
 | .ref a,u=>u=Value.ref a
 | .ty n,u=>u=Value.type n
noncomputable abbrev Vals:List V→List Value→Prop:=Paired RelV
theorem Vals.length {xs:List V} {us:List Value} (r:Vals xs us):xs.length=us.length:=Paired.length r
theorem Vals.get:∀ {xs:List V} {us:List Value} {i:Nat} {x:V},Vals xs us→xs[i]?=some x→∃u,us[i]?=some u∧RelV x u
 | _,_,_,_,.nil,e=>by simp at e
 | _,_,0,_,.cons r _,e=>by simp at e;subst e;exact ⟨_,rfl,r⟩
 | _,_,i+1,x,.cons _ t,e=>by
  obtain ⟨u,h1,h2⟩:=Vals.get (i:=i) (x:=x) t (by simpa using e)
  exact ⟨u,by simpa using h1,h2⟩
theorem Vals.set {x:V} {u:Value} (r:RelV x u):∀ {xs:List V} {us:List Value} (i:Nat),Vals xs us→Vals (xs.set i x) (us.set i u)
 | _,_,_,.nil=>.nil
 | _,_,0,.cons _ t=>.cons r t
 | _,_,i+1,.cons q t=>.cons q (Vals.set r i t)
theorem Vals.append:∀ {xs ys:List V} {us ws:List Value},Vals xs us→Vals ys ws→Vals (xs++ys) (us++ws)
 | _,_,_,_,.nil,s=>s
 | _,_,_,_,.cons r t,s=>.cons r (Vals.append t s)
theorem Vals.take:∀ {xs:List V} {us:List Value} (n:Nat),Vals xs us→Vals (xs.take n) (us.take n)
 | _,_,0,_=>.nil
 | _,_,_+1,.nil=>.nil
 | _,_,n+1,.cons r t=>.cons r (Vals.take n t)
theorem Vals.drop:∀ {xs:List V} {us:List Value} (n:Nat),Vals xs us→Vals (xs.drop n) (us.drop n)
 | _,_,0,r=>r
 | _,_,_+1,.nil=>.nil
 | _,_,n+1,.cons _ t=>Vals.drop n t
noncomputable def RelO:Option V→Option Value→Prop
 | some v,some u=>RelV v u
 | none,none=>True
 | _,_=>False
noncomputable def KV {κ:Type}:List (κ × V)→List (κ × Value)→Prop:=Paired fun (p:κ × V) (q:κ × Value)=>p.1=q.1∧RelV p.2 q.2
noncomputable def kV:Key→V
 | .inl i=>.int i
 | .inr x=>.str x
inductive HO where
 | lst (xs:List V)
 | tup (xs:List V)
 | dK (kvs:List (Key × V))|dT (kvs:List (List Key × V))
 | set (S:Int→Bool) (n:Nat)
 | ins (C dx:Addr) (fs:List (Str × V))
 | own (x:Addr)
 | xd (fs:List (Str × V))
 | met (f x:Addr)
 | rng (lo hi:Int)
 | frz (o:Obj) (u:HO)
 | tbl (ps:Array Value)
 | ext (φ:Heap→Prop)
noncomputable abbrev Hp:=Addr→Option HO
noncomputable def upd (H:Hp) (a:Addr) (o:HO):Hp:=fun b=>if b=a then some o else H b
theorem ao {H:Hp} {a:Addr} {o:HO}:upd H a o a=some o:=by unfold upd;rw [if_pos rfl]
theorem ac {H:Hp} {a b:Addr} {o:HO} (h:b≠a):upd H a o b=H b:=by unfold upd;rw [if_neg h]
theorem FS {H:Hp} {a b:Addr} {o u:HO} (h:H a=some o) (h':H b=some u) (d:o≠u):a≠b:=by
 intro e;subst e;rw [h] at h';exact d (Option.some.inj h')
theorem aq {H:Hp} {a b:Addr} {o:HO} (h:H a=some o) (h':H b=none):a≠b:=by
 intro e;subst e;rw [h] at h';cases h'
section
variable (P:Program) (w:World)
noncomputable def ObjOk (H:Hp) (h:Heap) (a:Addr):HO→Prop
 | .lst xs=>xs.length≤sizeLine∧∃(its:List Value) (n:Nat),Vals xs its∧h.get? a=some { cls:=.type "list",data:=.seq its.toArray n }
 | .tup xs=>xs.length≤sizeLine∧∃its:List Value,Vals xs its∧IsTup h a its.toArray
 | .dK kvs=>kvs.length≤sizeLine∧(a == sysModules)=false∧∃vs,KV kvs vs∧h.DictOf (aD P w) a vs
 | .dT kvs=>kvs.length≤sizeLine∧(a == sysModules)=false∧∃xs:List (List Key × Addr × Value),
   Paired (fun (p:List Key × V) (q:List Key × Addr × Value)=>p.1=q.1∧H q.2.1=some (.tup (p.1.map kV))∧RelV p.2 q.2.2) kvs xs ∧
   ∃o es ep,h.get? a=some o∧o.ExactDict∧o.data=.dict es ep∧es.toList=xs.map (entryOfKey (tupleKind (aD P w)))∧(xs.map (·.1)).Nodup
 | .set S n=>h.SetOf (intKind P w) a S n
 | .ins C dx fs=>H dx=some (.own a)∧fs.length≤1000∧dx≠a∧h.get? a=some (W.instObj C dx) ∧
   ∃mA,h.Ns1 dx mA∧(∀f,RelO (fs.lookup f) (mA f))∧PySem.Within mA (fs.map (·.1))
 | .own _=>∃o,h.get? a=some o
 | .xd fs=>∃mA,h.Ns1 a mA∧∀f,RelO (fs.lookup f) (mA f)
 | .rng lo hi=>∃t u v,h.get? a=some { cls:=.type "range",data:=.fields #[.int lo t,.int hi u,.int 1 v] }
 | .frz o u=>h.get? a=some o∧ObjOk H h a u
 | .tbl ps=>h.get? a=some { cls:=.none,data:=.fields ps }
 | .met f x=>h.get? a=some (W.methodObj (.ref f) (.ref x))
 | .ext φ=>φ h∧(∃o,h.get? a=some o)∧∀h1 h2:Heap,φ h1→(∀o,h1.get? a=some o→h2.get? a=some o)→φ h2
noncomputable def HOk (H:Hp) (h:Heap):Prop:=∀a o,H a=some o→ObjOk P w H h a o
end
section
variable {P:Program} {w:World} {H H':Hp} {h h':Heap} {a:Addr} {o:HO}
theorem ObjOk.lt (x:ObjOk P w H h a o):a<h.objs.size:=by
 cases o with
 | lst xs=>obtain ⟨_,_,_,_,e⟩:=x;exact Heap.lt_size e
 | tup xs=>obtain ⟨_,_,_,p⟩:=x;exact p.lt
 | dK kvs=>obtain ⟨_,_,_,_,o,_,_,e,_⟩:=x;exact Heap.lt_size e
 | dT kvs=>obtain ⟨_,_,_,_,o,_,_,e,_⟩:=x;exact Heap.lt_size e
 | set S n=>obtain ⟨o,_,_,_,e,_⟩:=x;exact Heap.lt_size e
 | ins C dx fs=>obtain ⟨_,_,_,e,_⟩:=x;exact Heap.lt_size e
 | own y=>obtain ⟨_,e⟩:=x;exact Heap.lt_size e
 | xd fs=>obtain ⟨_,⟨_,_,_,e,_⟩,_⟩:=x;exact Heap.lt_size e
 | rng lo hi=>obtain ⟨_,_,_,e⟩:=x;exact Heap.lt_size e
 | frz ob u=>obtain ⟨e,_⟩:=x;exact Heap.lt_size e
 | tbl ps=>exact Heap.lt_size (show h.get? a=some _ from x)
 | met f y=>exact Heap.lt_size (show h.get? a=some _ from x)
 | ext φ=>obtain ⟨_,⟨_,e⟩,_⟩:=x;exact Heap.lt_size e
theorem Paired.mapP {α β:Type} {F G:α→β→Prop}:∀ {l₁:List α} {l₂:List β},Paired F l₁ l₂→(∀a b,F a b→G a b)→Paired G l₁ l₂
 | _,_,.nil,_=>.nil
 | _,_,.cons r t,f=>.cons (f _ _ r) (Paired.mapP t f)
theorem ObjOk.stay (x:ObjOk P w H h a o) (k:∀b u,(b=a∨H b=some (.own a))→h.get? b=some u→h'.get? b=some u)
  (ho:∀b,H b=some (.own a)→H' b=some (.own a)) (ht:∀b xs,H b=some (.tup xs)→H' b=some (.tup xs)):ObjOk P w H' h' a o:=by
 induction o with
 | lst xs=>obtain ⟨z,its,n,r,e⟩:=x;exact ⟨z,its,n,r,k _ _ (.inl rfl) e⟩
 | tup xs=>obtain ⟨z,its,r,ob,e,c⟩:=x;exact ⟨z,its,r,ob,k _ _ (.inl rfl) e,c⟩
 | dK kvs=>obtain ⟨z,y,vs,r,ob,es,ep,e,c⟩:=x;exact ⟨z,y,vs,r,ob,es,ep,k _ _ (.inl rfl) e,c⟩
 | dT kvs =>
  obtain ⟨z,y,xs,r,ob,es,ep,e,c⟩:=x
  exact ⟨z,y,xs,Paired.mapP r fun p q z=>⟨z.1,ht _ _ z.2.1,z.2.2⟩,ob,es,ep,k _ _ (.inl rfl) e,c⟩
 | set S n=>obtain ⟨ob,es,ep,t,e,c⟩:=x;exact ⟨ob,es,ep,t,k _ _ (.inl rfl) e,c⟩
 | ins C dx fs =>
  obtain ⟨d,z,ne,e,mA,⟨od,es,ep,e2,c⟩,r⟩:=x
  exact ⟨ho _ d,z,ne,k _ _ (.inl rfl) e,mA,⟨od,es,ep,k _ _ (.inr d) e2,c⟩,r⟩
 | own y=>obtain ⟨ob,e⟩:=x;exact ⟨ob,k _ _ (.inl rfl) e⟩
 | xd fs=>obtain ⟨mA,⟨od,es,ep,e,c⟩,r⟩:=x;exact ⟨mA,⟨od,es,ep,k _ _ (.inl rfl) e,c⟩,r⟩
 | rng lo hi=>obtain ⟨t,u,v,e⟩:=x;exact ⟨t,u,v,k _ _ (.inl rfl) e⟩
 | frz ob u ih=>obtain ⟨e,q⟩:=x;exact ⟨k _ _ (.inl rfl) e,ih q⟩
 | tbl ps =>
  have e:h.get? a=some { cls:=.none,data:=.fields ps }:=x
  show h'.get? a=some { cls:=.none,data:=.fields ps }
  exact k a _ (.inl rfl) e
 | met f y =>
  have e:h.get? a=some (W.methodObj (.ref f) (.ref y)):=x
  show h'.get? a=some (W.methodObj (.ref f) (.ref y))
  exact k a _ (.inl rfl) e
 | ext φ=>obtain ⟨p,⟨o,e⟩,st⟩:=x;exact ⟨st _ _ p fun o q=>k _ _ (.inl rfl) q,⟨o,k _ _ (.inl rfl) e⟩,st⟩
theorem HOk.lt (x:HOk P w H h) (e:H a=some o):a<h.objs.size:=(x a o e).lt
theorem HOk.fresh (x:HOk P w H h) (e:h.objs.size≤a):H a=none:=by
 cases q:H a with
 | none=>rfl
 | some u=>exact absurd (Nat.lt_of_lt_of_le (x.lt q) e) (Nat.lt_irrefl _)
theorem HOk.kept (x:HOk P w H h) (k:∀b u,h.get? b=some u→h'.get? b=some u):HOk P w H h':=fun a o e =>
 (x a o e).stay (fun b u _ q=>k b u q) (fun _ q=>q) fun _ _ q=>q
theorem HOk.laid (x:HOk P w H h) (k:∀b u,h.get? b=some u→h'.get? b=some u) (hp:h.objs.size≤a) (new:ObjOk P w (upd H a o) h' a o):HOk P w (upd H a o) h':=fun b u e=>by
 have hn:=x.fresh hp
 by_cases hb:b=a
 ·subst hb;rw [ao] at e;cases e;exact new
 ·rw [ac hb] at e
  exact (x b u e).stay (fun c v _ q=>k c v q) (fun c q=>by rw [ac (aq q hn)];exact q) fun c xs q=>by rw [ac (aq q hn)];exact q
end
noncomputable def Rd (H:Hp) (a:Addr) (u:HO):Prop:=H a=some u∨∃o,H a=some (.frz o u)
theorem Rd.ok {P:Program} {w:World} {H:Hp} {h:Heap} {a:Addr} {u:HO} (r:Rd H a u) (x:HOk P w H h):ObjOk P w H h a u:=by
 rcases r with r|⟨o,r⟩
 ·exact x a u r
 ·obtain ⟨_,q⟩:=x a _ r
  exact q
noncomputable def Mut:Option HO→Prop
 | some (.lst _)=>True
 | some (.dK _)=>True
 | some (.dT _)=>True
 | some (.set _ _)=>True
 | some (.ins _ _ _)=>True
 | some (.ext _)=>True
 | _=>False
section
variable {P:Program} {w:World} {H:Hp} {h h':Heap} {x e:Addr} {o':HO}
theorem HOk.write (ok:HOk P w H h) (mu:Mut (H x)) (he:e=x∨H e=some (.own x)) (k:∀b u,b≠e→h.get? b=some u→h'.get? b=some u) (heo:∃u,h'.get? e=some u)
  (new:ObjOk P w (upd H x o') h' x o'):HOk P w (upd H x o') h':=fun b u q=>by
 have nown:∀c y,H c=some (.own y)→c≠x:=fun c y r z=>by subst z;rw [r] at mu;exact mu
 have ntup:∀c xs,H c=some (.tup xs)→c≠x:=fun c xs r z=>by subst z;rw [r] at mu;exact mu
 by_cases hb:b=x
 ·subst hb;rw [ao] at q;cases q;exact new
 ·rw [ac hb] at q
  by_cases hbe:b=e
  ·have q':H b=some (.own x):=by
    rcases he with z|z
    ·exact absurd (hbe.trans z) hb
    ·rw [hbe];exact z
   rw [q] at q';cases q'
   obtain ⟨v,hv⟩:=heo
   exact ⟨v,by rw [hbe];exact hv⟩
  ·refine (ok b u q).stay (fun c v hc r=>k c v ?_ r) (fun c r=>by rw [ac (nown c b r)];exact r) fun c xs r=>by rw [ac (ntup c xs r)];exact r
   rcases hc with rfl|hc
   ·exact hbe
   ·rintro rfl
    rcases he with z|z
    ·exact nown c b hc z
    ·rw [hc] at z;cases z;exact hb rfl
end
structure Un (fs ex:List Addr) (H H':Hp) (h h':Heap):Prop where
 keep:∀b o,h.get? b=some o→H b=none→b ∉ fs→b ∉ ex→h'.get? b=some o
 slot:∀b o,h.get? b=some o→H b=none→b∈fs→b ∉ ex→∃sl,h'.get? b=some { o with slots:=sl }
 free:∀b o,h.get? b=some o→H b=none→b ∉ ex→H' b=none
 there:∀b o,h.get? b=some o→b ∉ ex→∃o',h'.get? b=some o'
 tups:∀b xs,H b=some (.tup xs)→H' b=some (.tup xs)
 frzs:∀b o u,H b=some (.frz o u)→H' b=some (.frz o u)
 tbls:∀b ps,H b=some (.tbl ps)→∃more,H' b=some (.tbl (ps++more))
section
variable {fs fs' ex ex':List Addr} {H H1 H2:Hp} {h h1 h2 h':Heap} {a x e:Addr} {o:HO}
theorem Un.any (u:Un fs ex H H1 h h1) {b:Addr} {ob:Obj} (q:h.get? b=some ob) (n:H b=none) (hx:b ∉ ex):∃sl,h1.get? b=some { ob with slots:=sl }:=by
 by_cases hb:b∈fs
 ·exact u.slot b ob q n hb hx
 ·exact ⟨ob.slots,u.keep b ob q n hb hx⟩
theorem Un.kept (k:∀b u,h.get? b=some u→h'.get? b=some u):Un fs ex H H h h' :=
 ⟨fun b ob q _ _ _=>k b ob q,fun b ob q _ _ _=>⟨ob.slots,k b ob q⟩,fun _ _ _ n _=>n,fun b ob q _=>⟨ob,k b ob q⟩,fun _ _ q=>q,fun _ _ _ q=>q,fun _ ps q=>⟨#[],by rw [q];simp⟩⟩
theorem Un.refl:Un fs ex H H h h:=Un.kept fun _ _ q=>q
theorem Un.laid (k:∀b u,h.get? b=some u→h'.get? b=some u) (hp:h.objs.size≤a) (hn:H a=none):Un fs ex H (upd H a o) h h' where
 keep:=fun b u q _ _ _=>k b u q
 slot:=fun b u q _ _ _=>⟨u.slots,k b u q⟩
 free:=fun b u q n _=>by rw [ac (Nat.ne_of_lt (Nat.lt_of_lt_of_le (Heap.lt_size q) hp))];exact n
 there:=fun b u q _=>⟨u,k b u q⟩
 tups:=fun b xs q=>by rw [ac (aq q hn)];exact q
 frzs:=fun b u xs q=>by rw [ac (aq q hn)];exact q
 tbls:=fun b ps q=>⟨#[],by rw [ac (aq q hn),q];simp⟩
theorem Un.write (mu:Mut (H x)) (he:e=x∨H e=some (.own x)) (k:∀b u,b≠e→h.get? b=some u→h'.get? b=some u) (heo:∃u,h'.get? e=some u):Un fs ex H (upd H x o) h h':=by
 have hx:∀b,H b=none→b≠x:=fun b n z=>by subst z;rw [n] at mu;exact mu
 have hb:∀b,H b=none→b≠e:=fun b n z=>by
  subst z
  rcases he with r|r
  ·exact hx b n r
  ·rw [n] at r;cases r
 have hm:∀b u,H b=some u→¬Mut (some u)→b≠x:=fun b u q nm z=>by subst z;rw [q] at mu;exact nm mu
 refine ⟨fun b u q n _ _=>k b u (hb b n) q,fun b u q n _ _=>⟨u.slots,k b u (hb b n) q⟩,fun b u q n _=>by rw [ac (hx b n)];exact n,fun b u q _=>?_,
  fun b xs q=>by rw [ac (hm b _ q fun z=>z)];exact q,fun b u xs q=>by rw [ac (hm b _ q fun z=>z)];exact q,fun b ps q=>⟨#[],by rw [ac (hm b _ q fun z=>z),q];simp⟩⟩
 by_cases hbe:b=e
 ·subst hbe;exact heo
 ·exact ⟨u,k b u hbe q⟩
end
noncomputable def trk (h:Heap) (H:Hp):List Addr:=(List.range h.objs.size).filter fun a=>(H a).isSome
noncomputable def oj (h:Heap) (H:Hp):Heap:=W.hideAll h (trk h H)
theorem xj (h:Heap) (H:Hp):(oj h H).objs.size=h.objs.size:=W.hideAll_size _ _
theorem yp {h:Heap} {H:Hp} {b:Addr} {o:Obj} (e:h.get? b=some o) (n:H b=none):(oj h H).get? b=some o :=
 W.hideAll_get _ e fun hm=>by
  have q:(H b).isSome=true:=(List.mem_filter.mp hm).2
  rw [n] at q;simp at q
theorem Ce {h:Heap} {H:Hp} {b:Addr} {o:Obj} (e:(oj h H).get? b=some o):h.get? b=some o∧H b=none:=by
 have e':h.get? b=some o:=W.of_hideAll (trk h H) e
 refine ⟨e',?_⟩
 cases q:H b with
 | none=>rfl
 | some x =>
  have hm:b∈trk h H:=List.mem_filter.mpr ⟨List.mem_range.mpr (Heap.lt_size e'),by simp [q]⟩
  have z:(oj h H).get? b=none:=W.hideAll_none (trk h H) hm
  rw [z] at e;cases e
end L2
namespace L2
structure Mod (K:W.Frag) (mg:Str→Option Value) (base:Heap):Prop where
 kin:K.In base
 glob:base.Ns mainGlobals mg
 blt:∃mb,base.Ns builtinsNs mb∧∀x:Str,x≠"__name__"→mb x=bootBuiltins x
 nolimit:base.NoLimit
structure Cx where
 prog:Program
 w:World
 K:W.Frag
 mg:Str→Option Value
 base:Heap
 A:Around
 N:List Str
 s₀:Shared
 H₀:Hp
 env:Env
 outer:List Env
 stack:List Env
 ex:List Addr
 fn:Str→Bool
 calm:Bool
 pn:List (Addr × Obj)
 xe:Value→Shared→Prop
noncomputable def frs (l:List Env):List Addr:=l.filterMap (·.frame)
noncomputable abbrev Cx.fs (X:Cx):List Addr:=frs X.outer
noncomputable def Vis (sc:Scope) (x:Str):Prop:=sc.names.lookup x=some .local∨sc.names.lookup x=some .cell∨sc.names.lookup x=some .free
noncomputable def Loc (sc:Scope) (x:Str):Prop:=sc.names.lookup x=some .local∨sc.names.lookup x=some .cell
noncomputable def Gz (env:Env) (h:Heap) (m:Str→Option Value) (x:Str) (u:Value):Prop :=
 (env.kindOf x=some .local∧m x=some u)∨((env.kindOf x=some .cell∨env.kindOf x=some .free)∧∃c,env.cells.lookup x=some c∧h.IsCell c (some u))
structure Cx.Ok (X:Cx):Prop where
 mod:Mod X.K X.mg X.base
 kind:X.env.scope.kind=.function
 glob:X.env.globals=mainGlobals
 blt:X.env.builtins=builtinsNs
 above:X.s₀.heap.objs.size≤X.env.locals
 inj:∀x y c,X.env.cells.lookup x=some c→X.env.cells.lookup y=some c→x=y
 has:∀x,(X.env.kindOf x=some .cell∨X.env.kindOf x=some .free)→∃c,X.env.cells.lookup x=some c
 cab:∀x c,X.fn x=true→X.env.cells.lookup x=some c→X.s₀.heap.objs.size≤c
 hd:X.calm=true→X.A.handled=none
 frames:X.A.frames=some X.stack
 stk:X.stack=X.outer∨(X.stack=X.env::X.outer∧X.env.frame=some X.env.locals)
 exf:∀b∈X.ex,b≠X.env.locals∧∀x c,X.env.cells.lookup x=some c→c≠b
 bs:∀b o,X.base.get? b=some o→X.s₀.heap.get? b=some o∧X.H₀ b=none
 bsz:X.base.objs.size≤X.s₀.heap.objs.size
 noex:∀b o,X.base.get? b=some o→b ∉ X.ex
 exfs:∀b∈X.ex,b ∉ X.fs
 funs:X.s₀.heap.FunFrames X.base X.outer
 frf:∀b∈X.fs,X.H₀ b=none
structure Inv (X:Cx) (pins:List (Addr × Obj)) (σ:List (Option V)) (H:Hp) (s:Shared):Prop where
 ok:X.Ok
 os:s.os=X.s₀.os
 bare:AllBare s.gens
 base:Un X.fs X.ex X.H₀ H X.s₀.heap s.heap
 loc:∃m,s.heap.Ns X.env.locals m∧∀(i:Nat) (x:Str) (v:V),X.N[i]?=some x→σ[i]?=some (some v)→Vis X.env.scope x→∃u,RelV v u∧Gz X.env s.heap m x u
 cell:∀x c,X.env.cells.lookup x=some c→∃v,s.heap.IsCell c v
 free:H X.env.locals=none
 freeC:∀x c,X.env.cells.lookup x=some c→H c=none
 pin:∀p∈X.pn++pins,s.heap.get? p.1=some p.2∧H p.1=none∧p.1≠X.env.locals∧p.1 ∉ X.fs∧∀v,p.2.data≠.cell v
 hok:HOk X.prog X.w H s.heap
 len:σ.length=X.N.length
section
variable {X:Cx} {pins:List (Addr × Obj)} {σ:List (Option V)} {H H':Hp} {s:Shared} {h':Heap}
theorem Cx.Ok.nofr (ok:X.Ok) {b:Addr} {o:Obj} (e:X.base.get? b=some o):b ∉ X.fs:=fun hb=>by
 have:=(ok.funs.mem hb).1
 rw [e] at this;cases this
theorem Inv.bs (I:Inv X pins σ H s):∀b o,X.base.get? b=some o→s.heap.get? b=some o∧H b=none:=fun b o e =>
 ⟨I.base.keep b o (I.ok.bs b o e).1 (I.ok.bs b o e).2 (I.ok.nofr e) (I.ok.noex b o e),I.base.free b o (I.ok.bs b o e).1 (I.ok.bs b o e).2 (I.ok.noex b o e)⟩
theorem Inv.bk (I:Inv X pins σ H s):∀b o,X.base.get? b=some o→s.heap.get? b=some o:=fun b o e=>(I.bs b o e).1
theorem Inv.mod (I:Inv X pins σ H s):Mod X.K X.mg X.base:=I.ok.mod
theorem Inv.kIn (I:Inv X pins σ H s):X.K.In s.heap:=I.ok.mod.kin.keeps I.bk
theorem Inv.lt (I:Inv X pins σ H s):X.env.locals<s.heap.objs.size:=let ⟨_,hn,_⟩:=I.loc;hn.lt
theorem Inv.sz (I:Inv X pins σ H s):X.s₀.heap.objs.size≤s.heap.objs.size:=Nat.le_trans I.ok.above (Nat.le_of_lt I.lt)
theorem Inv.nofs (I:Inv X pins σ H s) {a:Addr} (h:s.heap.objs.size≤a):a ∉ X.fs:=fun hb=>by
 obtain ⟨_,o,ho,_⟩:=I.ok.funs.mem hb
 exact absurd (Nat.lt_of_lt_of_le (Heap.lt_size ho) (Nat.le_trans I.sz h)) (Nat.lt_irrefl _)
theorem Inv.cne (I:Inv X pins σ H s):∀x c,X.env.cells.lookup x=some c→c≠X.env.locals:=fun x c e z=>by
 obtain ⟨v,o,ho,hd⟩:=I.cell x c e
 obtain ⟨m,⟨o',es,ep,ho',hd',_⟩,_⟩:=I.loc
 rw [z,ho'] at ho;cases ho;rw [hd'] at hd;cases hd
theorem Inv.funs (I:Inv X pins σ H s):s.heap.FunFrames X.base X.outer:=by
 have all:∀(l:List Env),(∀b∈frs l,b∈X.fs)→X.s₀.heap.FunFrames X.base l→s.heap.FunFrames X.base l:=by
  intro l
  induction l with
  | nil=>intro _ _;trivial
  | cons env r ih =>
   intro hs hl
   obtain ⟨hk,⟨L,o,hf,hn,ho,hd⟩,hr⟩:=hl
   have hL:L∈X.fs:=hs L (by unfold frs;rw [List.filterMap_cons,hf];exact List.mem_cons_self)
   obtain ⟨sl,e⟩:=I.base.slot L o ho (I.ok.frf L hL) hL fun z=>I.ok.exfs L z hL
   exact ⟨hk,⟨L,_,hf,hn,e,hd⟩,ih (fun b hb=>hs b (by unfold frs;rw [List.filterMap_cons,hf];exact List.mem_cons_of_mem _ hb)) hr⟩
 exact all X.outer (fun _ hb=>hb) I.ok.funs
theorem Inv.stack (I:Inv X pins σ H s):s.heap.FunFrames X.base X.stack:=by
 rcases I.ok.stk with e|⟨e,hf⟩
 ·rw [e];exact I.funs
 ·rw [e]
  obtain ⟨m,hn,_⟩:=I.loc
  refine .cons (by rw [I.ok.kind];decide) hf hn ?_ I.funs
  exact Heap.get?_none_of_le (Nat.le_trans I.ok.bsz I.ok.above)
theorem Inv.stkSub (I:Inv X pins σ H s):∀b∈frs X.stack,b∈X.env.locals::X.fs:=fun b hb=>by
 rcases I.ok.stk with e|⟨e,hf⟩
 ·rw [e] at hb;exact List.mem_cons_of_mem _ hb
 ·rw [e] at hb
  unfold frs at hb
  rw [List.filterMap_cons,hf] at hb
  exact hb
theorem Inv.stkFree (I:Inv X pins σ H s):∀b∈frs X.stack,H b=none:=fun b hb=>by
 rcases List.mem_cons.mp (I.stkSub b hb) with e|hb
 ·rw [e];exact I.free
 ·obtain ⟨_,o,ho,_⟩:=I.ok.funs.mem hb
  exact I.base.free b o ho (I.ok.frf b hb) fun z=>I.ok.exfs b z hb
theorem Inv.step {g':Array GenState} {t':Nat} {d':Drawn} {ch:List Addr} (I:Inv X pins σ H s)
  (hch:∀b∈ch,(b∈X.ex∨X.s₀.heap.objs.size≤b)∧b≠X.env.locals∧(∀x c,X.env.cells.lookup x=some c→c≠b)∧∀p∈X.pn++pins,p.1≠b)
  (keep:∀b o,b≠X.env.locals→b ∉ X.fs→b ∉ ch→s.heap.get? b=some o→H b=none→h'.get? b=some o)
  (slot:∀b o,b≠X.env.locals→b∈X.fs→b ∉ ch→s.heap.get? b=some o→H b=none→∃sl,h'.get? b=some { o with slots:=sl }) (free:∀b o,b ∉ ch→s.heap.get? b=some o→H b=none→H' b=none)
  (there:∀b o,b ∉ ch→s.heap.get? b=some o→∃o',h'.get? b=some o')
  (tups:∀b xs,H b=some (.tup xs)→H' b=some (.tup xs)) (frzs:∀b o u,H b=some (.frz o u)→H' b=some (.frz o u)) (tbls:∀b ps,H b=some (.tbl ps)→∃more,H' b=some (.tbl (ps++more)))
  (ns:∀m,s.heap.Ns X.env.locals m→h'.Ns X.env.locals m) (hok:HOk X.prog X.w H' h') (hg:AllBare g') :
  Inv X pins σ H' { s with heap:=h',gens:=g',drawn:=d',toks:=t' }:=by
 have neL:∀b o,X.s₀.heap.get? b=some o→b≠X.env.locals:=fun b o e=>Nat.ne_of_lt (Nat.lt_of_lt_of_le (Heap.lt_size e) I.ok.above)
 have neC:∀b o,X.s₀.heap.get? b=some o→b ∉ X.ex→b ∉ ch:=fun b o e hx hb=>by
  rcases (hch b hb).1 with z|z
  ·exact hx z
  ·exact absurd (Nat.lt_of_lt_of_le (Heap.lt_size e) z) (Nat.lt_irrefl _)
 have cellK:∀x c,X.env.cells.lookup x=some c→∀v,s.heap.IsCell c v→h'.IsCell c v:=fun x c e v ⟨o,ho,hd⟩=>by
  have nch:c ∉ ch:=fun z=>(hch c z).2.2.1 x c e rfl
  by_cases hc:c∈X.fs
  ·obtain ⟨sl,q⟩:=slot c o (I.cne x c e) hc nch ho (I.freeC x c e)
   exact ⟨_,q,hd⟩
  ·exact ⟨o,keep c o (I.cne x c e) hc nch ho (I.freeC x c e),hd⟩
 refine ⟨I.ok,I.os,hg,⟨fun b o e n hb hx=>?_,fun b o e n hb hx=>?_,fun b o e n hx=>?_,fun b o e hx=>?_,fun b xs e=>tups b xs (I.base.tups b xs e),fun b o xs e=>frzs b o xs (I.base.frzs b o xs e),fun b ps e=>?_⟩,?_,fun x c e=>?_,?_,fun x c e=>?_,fun p hp=>?_,hok,I.len⟩
 ·exact keep b o (neL b o e) hb (neC b o e hx) (I.base.keep b o e n hb hx) (I.base.free b o e n hx)
 ·obtain ⟨sl,e1⟩:=I.base.slot b o e n hb hx
  obtain ⟨sl',e2⟩:=slot b _ (neL b o e) hb (neC b o e hx) e1 (I.base.free b o e n hx)
  exact ⟨sl',e2⟩
 ·obtain ⟨o',e1⟩:=I.base.there b o e hx
  exact free b o' (neC b o e hx) e1 (I.base.free b o e n hx)
 ·obtain ⟨o',e1⟩:=I.base.there b o e hx
  exact there b o' (neC b o e hx) e1
 ·obtain ⟨m1,e1⟩:=I.base.tbls b ps e
  obtain ⟨m2,e2⟩:=tbls b _ e1
  exact ⟨m1++m2,by rw [e2,Array.append_assoc]⟩
 ·obtain ⟨m,hn,hl⟩:=I.loc
  refine ⟨m,ns m hn,fun i x v e1 e2 e3=>?_⟩
  obtain ⟨u,r,l⟩:=hl i x v e1 e2 e3
  refine ⟨u,r,?_⟩
  rcases l with l|⟨k,c,e,z⟩
  ·exact .inl l
  ·exact .inr ⟨k,c,e,cellK x c e _ z⟩
 ·obtain ⟨v,z⟩:=I.cell x c e
  exact ⟨v,cellK x c e v z⟩
 ·obtain ⟨m,⟨o,_,_,ho,_⟩,_⟩:=I.loc
  exact free _ o (fun z=>(hch _ z).2.1 rfl) ho I.free
 ·obtain ⟨v,o,ho,hd⟩:=I.cell x c e
  exact free c o (fun z=>(hch c z).2.2.1 x c e rfl) ho (I.freeC x c e)
 ·obtain ⟨e,n,ne,nf,d⟩:=I.pin p hp
  have nch:p.1 ∉ ch:=fun z=>(hch p.1 z).2.2.2 p hp rfl
  exact ⟨keep p.1 p.2 ne nf nch e n,free p.1 p.2 nch e n,ne,nf,d⟩
theorem Inv.un {t':Nat} (I:Inv X pins σ H s) (u:Un X.fs [] H H' s.heap h') (hok:HOk X.prog X.w H' h'):Inv X pins σ H' { s with heap:=h',toks:=t' }:=by
 obtain ⟨m,⟨o,es,ep,ho,r⟩,_⟩:=id I.loc
 obtain ⟨sl,hL⟩:=u.any ho I.free (by simp)
 exact I.step (g':=s.gens) (d':=s.drawn) (ch:=[]) (fun _ z=>nomatch z) (fun b o _ hb _ e n=>u.keep b o e n hb (by simp)) (fun b o _ hb _ e n=>u.slot b o e n hb (by simp)) (fun b o _ e n=>u.free b o e n (by simp)) (fun b o _ e=>u.there b o e (by simp)) u.tups u.frzs u.tbls (fun m' hm=>by
  obtain ⟨o',es',ep',ho',r'⟩:=hm
  rw [ho] at ho';cases ho'
  exact ⟨_,es',ep',hL,r'⟩) hok I.bare
theorem Inv.call {g':Array GenState} {t':Nat} {d':Drawn} {ch:List Addr} (I:Inv X pins σ H s) (u:Un (frs X.stack) ch H H' s.heap h') (hok:HOk X.prog X.w H' h') (hg:AllBare g')
  (hch:∀b∈ch,(b∈X.ex∨X.s₀.heap.objs.size≤b)∧b≠X.env.locals∧(∀x c,X.env.cells.lookup x=some c→c≠b)∧∀p∈X.pn++pins,p.1≠b) :
  Inv X pins σ H' { s with heap:=h',gens:=g',drawn:=d',toks:=t' }:=by
 obtain ⟨m,⟨o,es,ep,ho,r⟩,_⟩:=id I.loc
 obtain ⟨sl,hL⟩:=u.any ho I.free fun z=>(hch _ z).2.1 rfl
 exact I.step (ch:=ch) hch (fun b o hL hb hc e n=>u.keep b o e n (fun z=>(List.mem_cons.mp (I.stkSub b z)).elim hL hb) hc) (fun b o _ _ hc e n=>u.any e n hc) (fun b o hc e n=>u.free b o e n hc) (fun b o hc e=>u.there b o e hc) u.tups u.frzs u.tbls (fun m' hm=>by
  obtain ⟨o',es',ep',ho',r'⟩:=hm
  rw [ho] at ho';cases ho'
  exact ⟨_,es',ep',hL,r'⟩) hok hg
theorem Inv.turned {t':Nat} {it:Addr} (I:Inv X pins σ H s) (k:∀b o,b≠it→s.heap.get? b=some o→h'.get? b=some o) (hn:H it=none) (hL:it≠X.env.locals)
  (h1:it∈X.ex∨X.s₀.heap.objs.size≤it) (h2:∀x c,X.env.cells.lookup x=some c→c≠it) (h3:∀p∈X.pn++pins,p.1≠it):Inv X pins σ H { s with heap:=h',toks:=t' }:=by
 have nit:∀b u,H b=some u→b≠it:=fun b u e z=>by rw [z,hn] at e;cases e
 refine I.step (g':=s.gens) (d':=s.drawn) (ch:=[it]) (fun b hb=>?_) (fun b o _ _ hc e _=>k b o (fun z=>hc (by simp [z])) e) (fun b o _ _ hc e _=>⟨o.slots,k b o (fun z=>hc (by simp [z])) e⟩) (fun _ _ _ _ n=>n)
  (fun b o hc e=>⟨o,k b o (fun z=>hc (by simp [z])) e⟩) (fun _ _ e=>e) (fun _ _ _ e=>e) (fun b ps e=>⟨#[],by rw [e];simp⟩) (fun m hm=>?_) (fun b u e=>?_) I.bare
 ·have e:b=it:=by simpa using hb
  subst e
  exact ⟨h1,hL,h2,h3⟩
 ·obtain ⟨o,es,ep,ho,r⟩:=hm
  exact ⟨o,es,ep,k _ o (Ne.symm hL) ho,r⟩
 ·refine (I.hok b u e).stay (fun c v hc q=>k c v ?_ q) (fun _ q=>q) fun _ _ q=>q
  rcases hc with z|z
  ·rw [z];exact nit b u e
  ·exact nit c _ z
theorem Inv.tok (I:Inv X pins σ H s) (t:Nat):Inv X pins σ H { s with toks:=t }:=I.un (h':=s.heap) (t':=t) Un.refl I.hok
theorem Inv.kept {t':Nat} (I:Inv X pins σ H s) (k:∀b u,s.heap.get? b=some u→h'.get? b=some u):Inv X pins σ H { s with heap:=h',toks:=t' }:=I.un (Un.kept k) (I.hok.kept k)
theorem Inv.laid {a:Addr} {o:HO} {t':Nat} (I:Inv X pins σ H s) (k:∀b u,s.heap.get? b=some u→h'.get? b=some u) (hp:s.heap.objs.size≤a) (new:ObjOk X.prog X.w (upd H a o) h' a o) :
  Inv X pins σ (upd H a o) { s with heap:=h',toks:=t' }:=I.un (Un.laid k hp (I.hok.fresh hp)) (I.hok.laid k hp new)
theorem Inv.write {x e:Addr} {o:HO} {t':Nat} (I:Inv X pins σ H s) (mu:Mut (H x)) (he:e=x∨H e=some (.own x)) (k:∀b u,b≠e→s.heap.get? b=some u→h'.get? b=some u) (heo:∃u,h'.get? e=some u)
  (new:ObjOk X.prog X.w (upd H x o) h' x o):Inv X pins σ (upd H x o) { s with heap:=h',toks:=t' }:=I.un (Un.write mu he k heo) (I.hok.write mu he k heo new)
theorem Inv.pins_of {pins':List (Addr × Obj)} (I:Inv X pins σ H s) (h:∀p∈pins',s.heap.get? p.1=some p.2∧H p.1=none∧p.1≠X.env.locals∧p.1 ∉ X.fs∧∀v,p.2.data≠.cell v):Inv X pins' σ H s :=
 ⟨I.ok,I.os,I.bare,I.base,I.loc,I.cell,I.free,I.freeC,fun p hp=>(List.mem_append.mp hp).elim (fun z=>I.pin p (List.mem_append_left _ z)) (h p),I.hok,I.len⟩
theorem rG {N:List Str} (hN:N.Nodup) {i j:Nat} {x:Str} (a:N[i]?=some x) (b:N[j]?=some x):i=j:=by
 obtain ⟨h1,e1⟩:=List.getElem?_eq_some_iff.mp a
 obtain ⟨h2,e2⟩:=List.getElem?_eq_some_iff.mp b
 exact (List.getElem_inj hN).mp (e1.trans e2.symm)
theorem kK {M:Model} {A:Around} {E:Value→Shared→Prop} {i:Nat} {x:Str} {v:V} {u:Value} {Q:Unit→Shared→Prop} (I:Inv X pins σ H s) (hN:X.N.Nodup) (hi:X.N[i]?=some x) (hx:Loc X.env.scope x) (r:RelV v u)
  (h:∀s',Inv X pins (σ.set i (some v)) H s'→(∃a,Heap.SameBut a s.heap s'.heap∧(a=X.env.locals∨X.env.cells.lookup x=some a))→Q () s') (hf:X.fn x=true∨X.env.scope.names.lookup x=some .local:=by first|exact .inl rfl|exact .inr rfl|assumption):wpAny M A (storeName X.env x u) Q E s:=by
 obtain ⟨m,hn,hl⟩:=id I.loc
 have hcls:(X.env.scope.kind == .class || (X.env.scope.kind == .module && X.env.locals != X.env.globals))=false:=by rw [I.ok.kind];rfl
 have hiσ:i<σ.length:=by rw [I.len];exact (List.getElem?_eq_some_iff.mp hi).1
 have cne:=I.cne
 have tracked:∀ {a:Addr} {h':Heap},(∃o,s.heap.get? a=some o∧H a=none)→Heap.SameBut a s.heap h'→HOk X.prog X.w H h':=fun {a h'} ha hs b ob e=>by
  obtain ⟨_,_,hfree⟩:=ha
  refine (I.hok b ob e).stay (fun c w' hc q=>(hs.2 c ?_).trans q) (fun _ q=>q) fun _ _ q=>q
  rintro rfl
  rcases hc with rfl|hc
  ·rw [hfree] at e;cases e
  ·rw [hfree] at hc;cases hc
 rcases hx with hk|hk
 ·refine wpAny_storeName_local hk hn (fun h' hn' hs=>?_) hcls
  obtain ⟨oL,_,_,hoL,_⟩:=id hn
  refine h _ ⟨I.ok,I.os,I.bare,⟨fun b o e n hb hx=>?_,fun b o e n hb hx=>?_,I.base.free,fun b o e hx=>?_,I.base.tups,I.base.frzs,I.base.tbls⟩,⟨_,hn',fun j y v' e1 e2 e3=>?_⟩,fun y c e=>?_,I.free,I.freeC,fun p hp=>?_,tracked ⟨oL,hoL,I.free⟩ hs,by simpa using I.len⟩ ⟨_,hs,.inl rfl⟩
  ·exact (hs.2 b (Nat.ne_of_lt (Nat.lt_of_lt_of_le (Heap.lt_size e) I.ok.above))).trans (I.base.keep b o e n hb hx)
  ·obtain ⟨sl,e1⟩:=I.base.slot b o e n hb hx
   exact ⟨sl,(hs.2 b (Nat.ne_of_lt (Nat.lt_of_lt_of_le (Heap.lt_size e) I.ok.above))).trans e1⟩
  ·obtain ⟨o',e1⟩:=I.base.there b o e hx
   exact ⟨o',(hs.2 b (Nat.ne_of_lt (Nat.lt_of_lt_of_le (Heap.lt_size e) I.ok.above))).trans e1⟩
  ·by_cases hj:j=i
   ·subst hj
    rw [hi] at e1;cases e1
    rw [List.getElem?_set_self hiσ] at e2
    cases e2
    exact ⟨u,r,.inl ⟨hk,by simp⟩⟩
   ·rw [List.getElem?_set_ne (Ne.symm hj)] at e2
    obtain ⟨u',r',q⟩:=hl j y v' e1 e2 e3
    refine ⟨u',r',?_⟩
    rcases q with ⟨k,e⟩|⟨k,c,e,z⟩
    ·refine .inl ⟨k,?_⟩
     have:y≠x:=fun e=>hj (rG hN e1 (e ▸ hi))
     simp [this,e]
    ·exact .inr ⟨k,c,e,z.sameBut hs (cne y c e)⟩
  ·obtain ⟨w',z⟩:=I.cell y c e
   exact ⟨w',z.sameBut hs (cne y c e)⟩
  ·obtain ⟨e,n,ne,nf,d⟩:=I.pin p hp
   exact ⟨(hs.2 p.1 ne).trans e,n,ne,nf,d⟩
 ·have hfn:X.fn x=true:=by
   rcases hf with z|z
   ·exact z
   ·rw [z] at hk;cases hk
  obtain ⟨c,hc⟩:=I.ok.has x (.inl hk)
  obtain ⟨w',z⟩:=I.cell x c hc
  refine wpAny_storeName_cell I.ok.kind hk hc z (fun h' hc' hs=>?_)
  obtain ⟨oc,hoc,hocd⟩:=id z
  refine h { s with heap:=h' } ⟨I.ok,I.os,I.bare,⟨fun b o e n hb hx=>?_,fun b o e n hb hx=>?_,I.base.free,fun b o e hx=>?_,I.base.tups,I.base.frzs,I.base.tbls⟩,⟨m,hn.sameBut hs (Ne.symm (cne x c hc)),fun j y v' e1 e2 e3=>?_⟩,fun y c' e=>?_,I.free,I.freeC,fun p hp=>?_,tracked ⟨oc,hoc,I.freeC x c hc⟩ hs,by simpa using I.len⟩ ⟨c,hs,.inr hc⟩
  ·exact (hs.2 b (Nat.ne_of_lt (Nat.lt_of_lt_of_le (Heap.lt_size e) (I.ok.cab x c hfn hc)))).trans (I.base.keep b o e n hb hx)
  ·obtain ⟨sl,e1⟩:=I.base.slot b o e n hb hx
   exact ⟨sl,(hs.2 b (Nat.ne_of_lt (Nat.lt_of_lt_of_le (Heap.lt_size e) (I.ok.cab x c hfn hc)))).trans e1⟩
  ·obtain ⟨o',e1⟩:=I.base.there b o e hx
   exact ⟨o',(hs.2 b (Nat.ne_of_lt (Nat.lt_of_lt_of_le (Heap.lt_size e) (I.ok.cab x c hfn hc)))).trans e1⟩
  ·by_cases hj:j=i
   ·subst hj
    rw [hi] at e1;cases e1
    rw [List.getElem?_set_self hiσ] at e2
    cases e2
    exact ⟨u,r,.inr ⟨.inl hk,c,hc,hc'⟩⟩
   ·rw [List.getElem?_set_ne (Ne.symm hj)] at e2
    obtain ⟨u',r',q⟩:=hl j y v' e1 e2 e3
    refine ⟨u',r',?_⟩
    rcases q with q|⟨k,c',e,z'⟩
    ·exact .inl q
    ·refine .inr ⟨k,c',e,z'.sameBut hs ?_⟩
     rintro rfl
     exact hj (rG hN e1 (I.ok.inj _ _ _ e hc ▸ hi))
  ·by_cases hcc:c'=c
   ·subst hcc;exact ⟨_,hc'⟩
   ·obtain ⟨w2,z2⟩:=I.cell y c' e
    exact ⟨w2,z2.sameBut hs hcc⟩
  ·obtain ⟨e,n,ne,nf,d⟩:=I.pin p hp
   refine ⟨(hs.2 p.1 ?_).trans e,n,ne,nf,d⟩
   intro q
   rw [q,hoc] at e
   have q':oc=p.2:=Option.some.inj e
   exact d w' (by rw [←q'];exact hocd)
theorem fP {M:Model} {A:Around} {E:Value→Shared→Prop} {i:Nat} {x:Str} {v:V} {u:Value} {Q:Unit→Shared→Prop} (I:Inv X pins σ H s) (hN:X.N.Nodup) (hi:X.N[i]?=some x) (hx:Loc X.env.scope x) (r:RelV v u)
  (h:∀s',Inv X pins (σ.set i (some v)) H s'→Q () s') (hf:X.fn x=true∨X.env.scope.names.lookup x=some .local:=by first|exact .inl rfl|exact .inr rfl|assumption):wpAny M A (storeName X.env x u) Q E s :=
 kK I hN hi hx r (fun s' I' _=>h s' I') hf
theorem Inv.call' {s':Shared} {ch:List Addr} (I:Inv X pins σ H s) (ho:s'.os=s.os) (u:Un (frs X.stack) ch H H' s.heap s'.heap) (hok:HOk X.prog X.w H' s'.heap) (hg:AllBare s'.gens)
  (hch:∀b∈ch,(b∈X.ex∨X.s₀.heap.objs.size≤b)∧b≠X.env.locals∧(∀x c,X.env.cells.lookup x=some c→c≠b)∧∀p∈X.pn++pins,p.1≠b):Inv X pins σ H' s':=by
 obtain ⟨h',g',d',t',o'⟩:=s'
 have e:o'=s.os:=ho
 subst e
 exact I.call (g':=g') (t':=t') (d':=d') u hok hg hch
end
noncomputable abbrev XK:=Value→Option Addr→Hp→Prop
noncomputable abbrev St:=List (Option V)
noncomputable abbrev VK:=V→Hp→Prop
noncomputable abbrev TE:=St→Hp→VK→Prop
noncomputable abbrev TT:=St→Hp→(Bool→Hp→Prop)→Prop
noncomputable abbrev TA:=St→Hp→(List V→Hp→Prop)→Prop
structure Ends where
 nx:St→Hp→Prop
 rt:VK
 bk:St→Hp→Prop:=fun _ _=>False
 ct:St→Hp→Prop:=fun _ _=>False
noncomputable abbrev TS:=Ends→St→Hp→Prop
noncomputable def EP (X:Cx) (pins:List (Addr × Obj)) (σ:St) (Q:VK) (u:Value) (s':Shared):Prop:=∃v H',Inv X pins σ H' s'∧RelV v u∧Q v H'
noncomputable def TP (X:Cx) (pins:List (Addr × Obj)) (σ:St) (Q:Bool→Hp→Prop) (b:Bool) (s':Shared):Prop:=∃H',Inv X pins σ H' s'∧Q b H'
noncomputable def AP (X:Cx) (pins:List (Addr × Obj)) (σ:St) (Q:List V→Hp→Prop) (us:List Value) (s':Shared):Prop:=∃vs H',Inv X pins σ H' s'∧Vals vs us∧Q vs H'
noncomputable def SP (X:Cx) (pins:List (Addr × Obj)) (D:Ends) (f:Flow) (s':Shared):Prop :=
 match f with
 | .next=>∃σ' H',Inv X pins σ' H' s'∧D.nx σ' H'
 | .brk=>∃σ' H',Inv X pins σ' H' s'∧D.bk σ' H'
 | .cont=>∃σ' H',Inv X pins σ' H' s'∧D.ct σ' H'
 | .ret u=>∃v σ' H',Inv X pins σ' H' s'∧RelV v u∧D.rt v H'
noncomputable def PE (X:Cx) (e:Expr) (t:TE):Prop :=
 ∀(pins:List (Addr × Obj)) (s:Shared) (σ:St) (H:Hp) (Q:VK),Inv X pins σ H s→t σ H Q→wpAny (model X.prog X.w) X.A (eval e X.env) (EP X pins σ Q) X.xe s
noncomputable def PT (X:Cx) (e:Expr) (t:TT):Prop :=
 ∀(pins:List (Addr × Obj)) (s:Shared) (σ:St) (H:Hp) (Q:Bool→Hp→Prop),Inv X pins σ H s→t σ H Q→wpAny (model X.prog X.w) X.A (isTrue e X.env (eval e X.env)) (TP X pins σ Q) X.xe s
noncomputable def PW (X:Cx) (e:Expr) (t:TT):Prop :=
 ∀(whole:Sem Value) (pins:List (Addr × Obj)) (s:Shared) (σ:St) (H:Hp) (Q:Bool→Hp→Prop),Inv X pins σ H s→t σ H Q→wpAny (model X.prog X.w) X.A (isTrue e X.env whole) (TP X pins σ Q) X.xe s
theorem PW.pt {X:Cx} {e:Expr} {t:TT} (h:PW X e t):PT X e t:=h _
noncomputable def PA (X:Cx) (es:List Expr) (t:TA):Prop :=
 ∀(pos:Pos) (pins:List (Addr × Obj)) (s:Shared) (σ:St) (H:Hp) (Q:List V→Hp→Prop),Inv X pins σ H s→t σ H Q→wpAny (model X.prog X.w) X.A (spliced (backTo pos (starEach es X.env))) (AP X pins σ Q) X.xe s
noncomputable def PS (X:Cx) (st:Stmt) (t:TS):Prop :=
 ∀(pins:List (Addr × Obj)) (s:Shared) (σ:St) (H:Hp) (D:Ends),Inv X pins σ H s→t D σ H→wpAny (model X.prog X.w) X.A (exec st X.env) (SP X pins D) X.xe s
noncomputable def PSs (X:Cx) (st:List Stmt) (t:TS):Prop :=
 ∀(pins:List (Addr × Obj)) (s:Shared) (σ:St) (H:Hp) (D:Ends),Inv X pins σ H s→t D σ H→wpAny (model X.prog X.w) X.A (execs st X.env) (SP X pins D) X.xe s
theorem thn {α:Type} {t:Sem α} {Q Q':α→Shared→Prop} {M:Model} {A:Around} {E:Value→Shared→Prop} {s:Shared} (h:wpAny M A t Q E s) (hQ:∀a s,Q a s→Q' a s):wpAny M A t Q' E s:=wpAny_mono h hQ fun _ _ x=>x
end L2
namespace L2
section
variable {X:Cx}
noncomputable def He (i:Nat):TE:=fun σ H Q=>∃v,σ[i]?=some (some v)∧Q v H
noncomputable def tC (v:V):TE:=fun _ H Q=>Q v H
theorem DJ {i:Nat} {x:Str} {pos:Pos} (hN:X.N[i]?=some x) (hv:Vis X.env.scope x) (hd:(x == ("__debug__":Str))=false:=by decide) (hcd:(x == ("__classdict__":Str))=false:=by decide):PE X (.Name x pos) (He i):=by
 intro pins s σ H Q I h
 obtain ⟨v,e,h⟩:=h
 obtain ⟨m,hn,hl⟩:=I.loc
 obtain ⟨u,r,l⟩:=hl i x v hN e hv
 have fin:EP X pins σ Q u s:=⟨v,H,I,r,h⟩
 rcases l with ⟨hk,hm⟩|⟨hk,c,hc,hcell⟩
 ·exact wpAny_Name (wpAny_loadName_local I.ok.kind hk hn hm fin) hd
 ·rcases hk with hk|hk
  ·exact wpAny_Name (wpAny_loadName_cell I.ok.kind hk hc hcell fin) hd
  ·exact wpAny_Name (wpAny_loadName_free I.ok.kind hk hc hcell fin hcd) hd
theorem Eg {i j pos}:PE X (.Constant (.int i) j pos) (tC (.int i)):=fun _ _ _ H _ I h=>wpAny_Constant_int ⟨.int i,H,I.tok _,⟨_,rfl⟩,h⟩
theorem Fl {b j pos}:PE X (.Constant (.bool b) j pos) (tC (.bl b)):=fun _ _ _ H _ I h=>Constant_bool ⟨.bl b,H,I,rfl,h⟩
theorem D0 {j pos}:PE X (.Constant .none j pos) (tC .non):=fun _ _ _ H _ I h=>Constant_none ⟨.non,H,I,rfl,h⟩
theorem Dx {x j pos}:PE X (.Constant (.str x) j pos) (tC (.str x)):=fun _ _ _ H _ I h=>Calls.Constant_str ⟨.str x,H,I.tok _,⟨_,rfl⟩,h⟩
noncomputable def Gl (X:Cx) (x:Str):Prop:=X.env.kindOf x=some .globalImplicit
theorem rj {E:Value→Shared→Prop} {pins:List (Addr × Obj)} {s:Shared} {σ:St} {H:Hp} {x:Str} {u:Value} {pos:Pos} {Q:Value→Shared→Prop} (I:Inv X pins σ H s) (hg:Gl X x) (hm:X.mg x=some u) (h:Q u s)
  (hd:(x == ("__debug__":Str))=false:=by decide):wpAny (model X.prog X.w) X.A (eval (.Name x pos) X.env) Q E s :=
 Calls.Name_function_global I.ok.kind hg (Calls.loadGlobal_global (by rw [I.ok.glob];exact I.mod.glob.keeps I.bk) hm h) hd
theorem mV {E:Value→Shared→Prop} {pins:List (Addr × Obj)} {s:Shared} {σ:St} {H:Hp} {x:Str} {u:Value} {pos:Pos} {Q:Value→Shared→Prop} (I:Inv X pins σ H s) (hg:Gl X x) (hm:X.mg x=none) (hv:bootBuiltins x=some u) (h:Q u s)
  (hn:x≠"__name__":=by decide) (hd:(x == ("__debug__":Str))=false:=by decide):wpAny (model X.prog X.w) X.A (eval (.Name x pos) X.env) Q E s:=by
 obtain ⟨mb,h1,h2⟩:=I.mod.blt
 exact Calls.Name_function_global I.ok.kind hg (Calls.loadGlobal_builtin (by rw [I.ok.glob];exact I.mod.glob.keeps I.bk) hm (by rw [I.ok.blt];exact h1.keeps I.bk) ((h2 x hn).trans hv) h) hd
theorem BP {x:Str} {v:V} {u:Value} {pos:Pos} (hg:Gl X x) (hm:X.mg x=some u) (r:RelV v u) (hd:(x == ("__debug__":Str))=false:=by decide):PE X (.Name x pos) (tC v) :=
 fun _ _ _ H _ I h=>rj I hg hm ⟨v,H,I,r,h⟩ hd
theorem Cj {x:Str} {v:V} {u:Value} {pos:Pos} (hg:Gl X x) (hm:X.mg x=none) (hv:bootBuiltins x=some u) (r:RelV v u) (hn:x≠"__name__":=by decide) (hd:(x == ("__debug__":Str))=false:=by decide):PE X (.Name x pos) (tC v) :=
 fun _ _ _ H _ I h=>mV I hg hm hv ⟨v,H,I,r,h⟩ hn hd
variable {a b:Expr} {ta tb:TE} {pos:Pos}
variable {tA tB':TT} {rest:List Expr}
noncomputable def Fp (t u:TT):TT:=fun σ H Q=>t σ H fun c H1=>if c=true then u σ H1 Q else Q false H1
noncomputable def tOr (t u:TT):TT:=fun σ H Q=>t σ H fun c H1=>if c=true then Q true H1 else u σ H1 Q
noncomputable def Hl (t:TT):TT:=fun σ H Q=>t σ H fun c H1=>Q (!c) H1
theorem BO (ha:PT X a tA):PW X (.BoolOp .And [a] pos) tA:=by
 intro wh pins s σ H Q I h
 refine isTrue_and (thn (ha pins s σ H Q I h) fun c s1 e=>?_)
 cases c with
 | true=>exact isTrue_and_nil e
 | false=>exact e
theorem Dq (ha:PT X a tA):PW X (.BoolOp .Or [a] pos) tA:=by
 intro wh pins s σ H Q I h
 refine isTrue_or (thn (ha pins s σ H Q I h) fun c s1 e=>?_)
 cases c with
 | false=>exact isTrue_or_nil e
 | true=>exact e
theorem E_ (ha:PT X a tA) (hb:PW X (.BoolOp .And (b::rest) pos) tB'):PW X (.BoolOp .And (a::b::rest) pos) (Fp tA tB'):=by
 intro wh pins s σ H Q I h
 refine isTrue_and (thn (ha pins s σ H _ I h) fun c s1 ⟨H1,I1,q1⟩=>?_)
 cases c with
 | true=>exact hb wh pins s1 σ H1 Q I1 q1
 | false=>exact ⟨H1,I1,q1⟩
theorem FB (ha:PT X a tA) (hb:PW X (.BoolOp .Or (b::rest) pos) tB'):PW X (.BoolOp .Or (a::b::rest) pos) (tOr tA tB'):=by
 intro wh pins s σ H Q I h
 refine isTrue_or (thn (ha pins s σ H _ I h) fun c s1 ⟨H1,I1,q1⟩=>?_)
 cases c with
 | true=>exact ⟨H1,I1,q1⟩
 | false=>exact hb wh pins s1 σ H1 Q I1 q1
theorem DA (ha:PT X a tA):PT X (.UnaryOp .Not a pos) (Hl tA):=by
 intro pins s σ H Q I h
 exact isTrue_not (ha pins s σ H (fun c H1=>Q (!c) H1) I h)
noncomputable def Ga (ta tb:TE):TE:=fun σ H Q=>ta σ H fun x H1=>∃c,x=.bl c∧if c=true then tb σ H1 Q else Q (.bl false) H1
noncomputable def GF (ta tb:TE):TE:=fun σ H Q=>ta σ H fun x H1=>∃c,x=.bl c∧if c=true then Q (.bl true) H1 else tb σ H1 Q
noncomputable def Gg (ta:TE):TE:=fun σ H Q=>ta σ H fun x H1=>∃c,x=.bl c∧Q (.bl (!c)) H1
theorem Bx {op} {t:TE} (h:PE X a t):PE X (.BoolOp op [a] pos) t:=fun pins s σ H Q I hw=>BoolOp_one (h pins s σ H Q I hw)
theorem Dg (ha:PE X a ta) (hb:PE X (.BoolOp .And (b::rest) pos) tb):PE X (.BoolOp .And (a::b::rest) pos) (Ga ta tb):=by
 intro pins s σ H Q I h
 refine BoolOp_and (thn (ha pins s σ H _ I h) fun v s1 ⟨x,H1,I1,r1,q1⟩=>?_)
 obtain ⟨c,rfl,q1⟩:=q1
 cases r1
 refine wpAny_truthy_bool ?_
 cases c with
 | true=>exact hb pins s1 σ H1 Q I1 q1
 | false=>exact ⟨.bl false,H1,I1,rfl,q1⟩
theorem FA (ha:PE X a ta) (hb:PE X (.BoolOp .Or (b::rest) pos) tb):PE X (.BoolOp .Or (a::b::rest) pos) (GF ta tb):=by
 intro pins s σ H Q I h
 refine BoolOp_or (thn (ha pins s σ H _ I h) fun v s1 ⟨x,H1,I1,r1,q1⟩=>?_)
 obtain ⟨c,rfl,q1⟩:=q1
 cases r1
 refine wpAny_truthy_bool ?_
 cases c with
 | false=>exact hb pins s1 σ H1 Q I1 q1
 | true=>exact ⟨.bl true,H1,I1,rfl,q1⟩
theorem Fj (ha:PE X a ta):PE X (.UnaryOp .Not a pos) (Gg ta):=by
 intro pins s σ H Q I h
 refine UnaryOp_ (thn (ha pins s σ H _ I h) fun v s1 ⟨x,H1,I1,r1,q1⟩=>?_)
 obtain ⟨c,rfl,q1⟩:=q1
 cases r1
 exact not_of (wpAny_truthy_bool ⟨.bl (!c),H1,I1,rfl,q1⟩)
noncomputable def tIf (t:TT) (ta tb:TE):TE:=fun σ H Q=>t σ H fun c H1=>if c=true then ta σ H1 Q else tb σ H1 Q
theorem zS {c:Expr} (hc:PT X c tA) (ha:PE X a ta) (hb:PE X b tb):PE X (.IfExp c a b pos) (tIf tA ta tb):=by
 intro pins s σ H Q I h
 refine wpAny_IfExp (thn (hc pins s σ H _ I h) fun d s1 ⟨H1,I1,q1⟩=>?_)
 cases d with
 | true=>exact ha pins s1 σ H1 Q I1 q1
 | false=>exact hb pins s1 σ H1 Q I1 q1
end
end L2
namespace L2
noncomputable def SqL (K:W.Frag) (H:Hp) (a:Addr) (xs:List V):Prop :=
 Rd H a (.lst xs) ∨
  ∃(o:Obj) (its:Array Value) (n:Nat),K.lookup a=some o∧o.cls=.type "list"∧o.dict=none∧o.data=.seq its n∧its.size≤sizeLine∧Vals xs its.toList
noncomputable def SqT (K:W.Frag) (H:Hp) (a:Addr) (xs:List V):Prop :=
 Rd H a (.tup xs) ∨
  ∃(o:Obj) (its:Array Value) (n:Nat),K.lookup a=some o∧o.cls=.type "tuple"∧o.data=.seq its n∧its.size≤sizeLine∧Vals xs its.toList
noncomputable def Gv:Value→Option V
 | .none=>some .non
 | .bool b=>some (.bl b)
 | .int i _=>some (.int i)
 | .str x _=>some (.str x)
 | .bytes b _=>some (.byt b)
 | .float b _=>some (.flt b)
 | .ref a=>some (.ref a)
 | .type n=>some (.ty n)
 | _=>none
theorem RelV.abs {x:V} {u:Value} (r:RelV x u):Gv u=some x:=by
 cases x with
 | non=>cases r;rfl
 | bl _=>cases r;rfl
 | int _=>obtain ⟨t,rfl⟩:=r;rfl
 | str _=>obtain ⟨t,rfl⟩:=r;rfl
 | byt _=>obtain ⟨t,rfl⟩:=r;rfl
 | flt _=>obtain ⟨t,rfl⟩:=r;rfl
 | ref _=>cases r;rfl
 | ty _=>cases r;rfl
theorem RelV.inj {x y:V} {u:Value} (r:RelV x u) (q:RelV y u):x=y:=Option.some.inj (r.abs.symm.trans q.abs)
theorem Vals.inj:∀ {xs ys:List V} {us:List Value},Vals xs us→Vals ys us→xs=ys
 | _,_,_,.nil,.nil=>rfl
 | _,_,_,.cons r t,.cons r' t'=>by rw [r.inj r',Vals.inj t t']
section
variable {X:Cx} {pins:List (Addr × Obj)} {σ:St} {H:Hp} {s:Shared} {a:Addr} {xs ys:List V}
theorem SqL.of {K:W.Frag} (h:H a=some (.lst xs)):SqL K H a xs:=.inl (.inl h)
theorem SqT.of {K:W.Frag} (h:H a=some (.tup xs)):SqT K H a xs:=.inl (.inl h)
theorem Inv.list (I:Inv X pins σ H s) (h:SqL X.K H a xs):∃its:List Value,Vals xs its∧PlainL s.heap a its.toArray∧xs.length≤sizeLine:=by
 rcases h with h|⟨o,its,n,hk,hc,hd,hs,hz,r⟩
 ·obtain ⟨z,its,n,r,e⟩:=h.ok I.hok
  exact ⟨its,r,⟨_,n,e,rfl,rfl,rfl⟩,z⟩
 ·refine ⟨its.toList,r,⟨o,n,I.kIn a o hk,hc,hd,by simpa using hs⟩,?_⟩
  have e:=r.length
  simp only [Array.length_toList] at e
  omega
theorem Inv.tuple (I:Inv X pins σ H s) (h:SqT X.K H a xs):∃its:List Value,Vals xs its∧IsTup s.heap a its.toArray∧xs.length≤sizeLine:=by
 rcases h with h|⟨o,its,n,hk,hc,hs,hz,r⟩
 ·obtain ⟨z,its,r,p⟩:=h.ok I.hok
  exact ⟨its,r,p,z⟩
 ·refine ⟨its.toList,r,⟨o,I.kIn a o hk,hc,n,by simpa using hs⟩,?_⟩
  have e:=r.length
  simp only [Array.length_toList] at e
  omega
theorem Inv.list_inj (I:Inv X pins σ H s) (h:SqL X.K H a xs) (h':SqL X.K H a ys):xs=ys:=by
 obtain ⟨its,r,⟨o,n,e,_,_,d⟩,_⟩:=I.list h
 obtain ⟨its',r',⟨o',n',e',_,_,d'⟩,_⟩:=I.list h'
 rw [e] at e';cases e'
 rw [d] at d'
 injection d' with d1 _
 have:its=its':=by simpa using congrArg Array.toList d1
 subst this
 exact r.inj r'
theorem Inv.tuple_inj (I:Inv X pins σ H s) (h:SqT X.K H a xs) (h':SqT X.K H a ys):xs=ys:=by
 obtain ⟨its,r,⟨o,e,_,n,d⟩,_⟩:=I.tuple h
 obtain ⟨its',r',⟨o',e',_,n',d'⟩,_⟩:=I.tuple h'
 rw [e] at e';cases e'
 rw [d] at d'
 injection d' with d1 _
 have:its=its':=by simpa using congrArg Array.toList d1
 subst this
 exact r.inj r'
end
noncomputable abbrev Cx.wish (X:Cx) (E:Value→Shared→Prop):Cx:={ X with xe:=E }
noncomputable abbrev Cx.nox (X:Cx):Cx:=X.wish fun _ _=>False
theorem Cx.Ok.wish {X:Cx} (ok:X.Ok) (E:Value→Shared→Prop):(X.wish E).Ok :=
 ⟨ok.mod,ok.kind,ok.glob,ok.blt,ok.above,ok.inj,ok.has,ok.cab,ok.hd,ok.frames,ok.stk,ok.exf,ok.bs,ok.bsz,ok.noex,ok.exfs,ok.funs,ok.frf⟩
theorem Cx.Ok.unwish {X:Cx} {E:Value→Shared→Prop} (ok:(X.wish E).Ok):X.Ok :=
 ⟨ok.mod,ok.kind,ok.glob,ok.blt,ok.above,ok.inj,ok.has,ok.cab,ok.hd,ok.frames,ok.stk,ok.exf,ok.bs,ok.bsz,ok.noex,ok.exfs,ok.funs,ok.frf⟩
section
variable {X:Cx} {pins:List (Addr × Obj)} {σ:St} {H:Hp} {s:Shared} {E:Value→Shared→Prop}
theorem Inv.wish (I:Inv X pins σ H s) (E:Value→Shared→Prop):Inv (X.wish E) pins σ H s:=⟨I.ok.wish E,I.os,I.bare,I.base,I.loc,I.cell,I.free,I.freeC,I.pin,I.hok,I.len⟩
theorem Inv.unwish (I:Inv (X.wish E) pins σ H s):Inv X pins σ H s:=⟨I.ok.unwish,I.os,I.bare,I.base,I.loc,I.cell,I.free,I.freeC,I.pin,I.hok,I.len⟩
theorem SP.unwish {D:Ends} {f:Flow} {s':Shared} (h:SP (X.wish E) pins D f s'):SP X pins D f s':=by
 cases f with
 | next=>obtain ⟨σ',H',I,q⟩:=h;exact ⟨σ',H',I.unwish,q⟩
 | brk=>obtain ⟨σ',H',I,q⟩:=h;exact ⟨σ',H',I.unwish,q⟩
 | cont=>obtain ⟨σ',H',I,q⟩:=h;exact ⟨σ',H',I.unwish,q⟩
 | ret u=>obtain ⟨v,σ',H',I,r,q⟩:=h;exact ⟨v,σ',H',I.unwish,r,q⟩
theorem PSs.nox {st:List Stmt} {t:TS} (h:PSs X.nox st t):PSs X st t:=fun pins s σ H D I hw =>
 wpAny_mono (h pins s σ H D (I.wish _) hw) (fun _ _ q=>q.unwish) fun _ _ z=>False.elim z
end
section
variable {X:Cx} {st:Stmt} {rest:List Stmt} {t u:TS} {e:Expr} {te:TE} {pos:Pos}
noncomputable def C5:TS:=fun D σ H=>D.nx σ H
noncomputable def G' (t u:TS):TS:=fun D σ H=>t { D with nx:=u D } σ H
theorem BB:PSs X [] C5:=fun _ _ σ H _ I h=>wpAny_execs_nil ⟨σ,H,I,h⟩
theorem Ag (h1:PS X st t) (h2:PSs X rest u):PSs X (st::rest) (G' t u):=by
 intro pins s σ H D I h
 refine wpAny_execs_cons (thn (h1 pins s σ H { D with nx:=u D } I h) fun f s1 q=>?_)
 cases f with
 | next =>
  obtain ⟨σ',H',I',q⟩:=q
  exact h2 pins s1 σ' H' D I' q
 | ret v=>exact q
 | brk=>exact q
 | cont=>exact q
noncomputable def DX:TS:=fun D σ H=>D.bk σ H
noncomputable def FV:TS:=fun D σ H=>D.ct σ H
theorem B0:PS X (.Pass pos) C5:=fun _ _ σ H _ I h=>wpAny_Pass ⟨σ,H,I,h⟩
theorem AA:PS X (.Break pos) DX:=fun _ _ σ H _ I h=>wpAny_Break ⟨σ,H,I,h⟩
theorem so:PS X (.Continue pos) FV:=fun _ _ σ H _ I h=>wpAny_Continue ⟨σ,H,I,h⟩
theorem Inv.quiet {pins:List (Addr × Obj)} {σ:St} {H:Hp} {s:Shared} (I:Inv X pins σ H s):interactive X.env=false:=by simp [interactive,I.ok.kind]
noncomputable def FN (te:TE):TS:=fun D σ H=>te σ H fun _ H1=>D.nx σ H1
theorem Cq (he:PE X e te) (hs:swapsWith e none pos.line X.env=pure false:=by rfl):PS X (.Expr e pos) (FN te):=by
 intro pins s σ H D I h
 exact wpAny_Expr_any (thn (he pins s σ H _ I h) fun v s1 ⟨x,H1,I1,r1,q1⟩=>⟨σ,H1,I1,q1⟩) I.quiet hs
noncomputable def Hc (te:TE):TS:=fun D σ H=>te σ H D.rt
theorem EZ (he:PE X e te):PS X (.Return (some e) pos) (Hc te):=by
 intro pins s σ H D I h
 exact wpAny_Return_some (thn (he pins s σ H _ I h) fun v s1 ⟨x,H1,I1,r1,q1⟩=>⟨x,σ,H1,I1,r1,q1⟩)
noncomputable def F4:TS:=fun D _ H=>D.rt .non H
theorem BV:PS X (.Return none pos) F4:=fun _ _ σ H _ I h=>wpAny_Return_none ⟨.non,σ,H,I,rfl,h⟩
noncomputable def GO (c:TT) (t u:TS):TS:=fun D σ H=>c σ H fun b H1=>if b=true then t D σ H1 else u D σ H1
theorem FK {c:Expr} {a b:List Stmt} {tc:TT} (hc:PT X c tc) (ha:PSs X a t) (hb:PSs X b u):PS X (.If c a b pos) (GO tc t u):=by
 intro pins s σ H D I h
 refine wpAny_If (thn (hc pins s σ H _ I h) fun d s1 ⟨H1,I1,q1⟩=>?_)
 cases d with
 | true=>exact ha pins s1 σ H1 D I1 q1
 | false=>exact hb pins s1 σ H1 D I1 q1
end
noncomputable abbrev TG:=V→St→Hp→(St→Hp→Prop)→Prop
noncomputable abbrev TGs:=List V→St→Hp→(St→Hp→Prop)→Prop
noncomputable def PG (X:Cx) (target:Expr) (t:TG):Prop :=
 ∀(pins:List (Addr × Obj)) (s:Shared) (σ:St) (H:Hp) (v:V) (u:Value) (Q:St→Hp→Prop),Inv X pins σ H s→RelV v u→t v σ H Q →
  wpAny (model X.prog X.w) X.A (assign target X.env u) (fun _ s'=>∃σ' H',Inv X pins σ' H' s'∧Q σ' H') X.xe s
noncomputable def PGs (X:Cx) (ts:List Expr) (t:TGs):Prop :=
 ∀(pins:List (Addr × Obj)) (s:Shared) (σ:St) (H:Hp) (vs:List V) (us:List Value) (Q:St→Hp→Prop),Inv X pins σ H s→Vals vs us→t vs σ H Q →
  wpAny (model X.prog X.w) X.A (assignInOrder ((assignEach ts X.env).map (·.2)) us) (fun _ s'=>∃σ' H',Inv X pins σ' H' s'∧Q σ' H') X.xe s
noncomputable abbrev Do:=V→V→V→Hp→(Hp→Prop)→Prop
noncomputable def ES (X:Cx) (t:Do):Prop :=
 ∀(pins:List (Addr × Obj)) (s:Shared) (σ:St) (H:Hp) (o i v:V) (ov iv u:Value) (Q:Hp→Prop),Inv X pins σ H s→RelV o ov→RelV i iv→RelV v u→t o i v H Q →
  wpAny (model X.prog X.w) X.A (setItem ov iv u) (fun _ s'=>∃H',Inv X pins σ H' s'∧Q H') X.xe s
section
variable {X:Cx} {pos:Pos}
noncomputable def C8 (i:Nat):TG:=fun v σ H Q=>Q (σ.set i (some v)) H
theorem Ct {i:Nat} {x:Str} (hN:X.N.Nodup) (hi:X.N[i]?=some x) (hx:Loc X.env.scope x) (hf:X.fn x=true∨X.env.scope.names.lookup x=some .local:=by first|exact .inl rfl|exact .inr rfl|assumption):PG X (.Name x pos) (C8 i):=by
 intro pins s σ H v u Q I r h
 exact wpAny_assign_Name (fP I hN hi hx r (fun s' I'=>⟨_,H,I',h⟩) hf)
noncomputable def GB:TGs:=fun vs σ H Q=>vs=[]∧Q σ H
noncomputable def Fy (t:TG) (u:TGs):TGs:=fun vs σ H Q=>∃v r,vs=v::r∧t v σ H fun σ' H'=>u r σ' H' Q
theorem Cl:PGs X [] GB:=by
 intro pins s σ H vs us Q I r h
 obtain ⟨e,h⟩:=h
 subst e
 cases r
 exact assignInOrder_nil ⟨σ,H,I,h⟩
theorem Am {e:Expr} {es:List Expr} {t:TG} {u:TGs} (h1:PG X e t) (h2:PGs X es u)
  (hs:(assignEach (e::es) X.env).map (·.2)=assign e X.env::(assignEach es X.env).map (·.2):=by rfl):PGs X (e::es) (Fy t u):=by
 intro pins s σ H vs us Q I r h
 obtain ⟨v,vr,e1,h⟩:=h
 subst e1
 cases r with
 | cons r rr =>
  rw [hs]
  refine assignInOrder_cons (thn (h1 pins s σ H _ _ _ I r h) fun _ s1 ⟨σ1,H1,I1,q1⟩=>?_)
  exact h2 pins s1 σ1 H1 _ _ Q I1 rr q1
noncomputable def Hb (K:W.Frag) (n:Nat) (t:TGs):TG:=fun v σ H Q=>∃a xs,v=.ref a∧SqT K H a xs∧xs.length=n∧t xs σ H Q
theorem Eb {es:List Expr} {k:Nat} {t:TGs} {n:Nat} (hc:X.calm=true) (h:PGs X es t)
  (hn:(assignEach es X.env).length=n:=by rfl) (hst:(assignEach es X.env).findIdx? (·.1)=none:=by rfl):PG X (.Tuple es k pos) (Hb X.K n t):=by
 intro pins s σ H v u Q I r hw
 obtain ⟨a,xs,e1,hq,hl,hw⟩:=hw
 subst e1
 cases r
 obtain ⟨its,rv,ht,hz⟩:=I.tuple hq
 refine assign_Tuple_tuple (I.ok.hd hc) ht (by simp [hn,←hl,rv.length]) hst fun h' hx=>?_
 have I1:Inv X pins σ H { s with heap:=h' }:=I.kept (t':=s.toks) fun b o e=>hx b o (Nat.ne_of_lt (Heap.lt_size e)) e
 exact h pins _ σ H xs _ Q I1 (by simpa using rv) hw
noncomputable def GN (to ti:TE) (t:Do):TG:=fun v σ H Q=>to σ H fun o H1=>ti σ H1 fun i H2=>t o i v H2 fun H3=>Q σ H3
theorem D3 {o i:Expr} {to ti:TE} {t:Do} (ho:PE X o to) (hi:PE X i ti) (hs:ES X t)
  (ha:∀v,assign (.Subscript o i pos) X.env v=(do
   let ov ←holding [v] (eval o X.env)
   let iv ←holding [v,ov] (eval i X.env)
   standAt pos
   holding [v,ov,iv] (setItem ov iv v)
   release [v,ov,iv] []):=by intro _;rfl):PG X (.Subscript o i pos) (GN to ti t):=by
 intro pins s σ H v u Q I r h
 rw [ha]
 refine wpAny_bind (wpAny_holding (thn (ho pins s σ H _ I h) fun ov s1 ⟨x,H1,I1,r1,q1⟩=>?_))
 refine wpAny_bind (wpAny_holding (thn (hi pins s1 σ H1 _ I1 q1) fun iv s2 ⟨y,H2,I2,r2,q2⟩=>?_))
 refine wpAny_bind (wpAny_standAt (wpAny_bind (wpAny_holding (thn (hs pins s2 σ H2 x y v ov iv u _ I2 r1 r2 r q2) fun _ s3 ⟨H3,I3,q3⟩=>?_))))
 exact wpAny_release ⟨σ,H3,I3,q3⟩
noncomputable def Cw (te:TE) (g:TG):TS:=fun D σ H=>te σ H fun x H1=>g x σ H1 D.nx
theorem mX {tg e:Expr} {te:TE} {g:TG} (he:PE X e te) (hg:PG X tg g) (hs:swapsWithSole [tg] e pos.line X.env=pure false:=by rfl) (hw:swappedStores [tg] e X.env=pure none:=by rfl)
  (h1:(assignEach [tg] X.env).map (·.2)=[assign tg X.env]:=by rfl):PS X (.Assign [tg] e pos) (Cw te g):=by
 intro pins s σ H D I h
 refine wpAny_Assign_stores (thn (he pins s σ H _ I h) fun v s1 ⟨x,H1,I1,r1,q1⟩=>?_) hs hw
 rw [h1]
 exact thn (hg pins s1 σ H1 x v _ I1 r1 q1) fun _ s2 q=>q
theorem zI {i:Nat} {x:Str} {e:Expr} {te:TE} {pos':Pos} (hN:X.N.Nodup) (hi:X.N[i]?=some x) (hx:Loc X.env.scope x) (he:PE X e te) (hs:swapsWith e (some (.Name x pos')) pos.line X.env=pure false:=by rfl) (hf:X.fn x=true∨X.env.scope.names.lookup x=some .local:=by first|exact .inl rfl|exact .inr rfl|assumption) :
  PS X (.Assign [.Name x pos'] e pos) (Cw te (C8 i)):=by
 intro pins s σ H D I h
 refine wpAny_Assign_Name (thn (he pins s σ H _ I h) fun v s1 ⟨y,H1,I1,r1,q1⟩=>?_) hs
 exact fP I1 hN hi hx r1 (fun s2 I2=>⟨_,H1,I2,q1⟩) hf
noncomputable def GZ (i j:Nat) (ta:TA):TS:=fun D σ H=>ta σ H fun vs H1=>∃v w,vs=[v,w]∧D.nx ((σ.set i (some v)).set j (some w)) H1
theorem Ec {i j:Nat} {x y:Str} {a b:Expr} {ta:TA} {px py pt:Pos} {kt k2 pt2} (hc:X.calm=true) (hN:X.N.Nodup) (hi:X.N[i]?=some x) (hj:X.N[j]?=some y) (hij:i≠j)
  (hx:X.env.scope.names.lookup x=some .local) (hy:X.env.scope.names.lookup y=some .local) (ha:PA X [a,b] ta)
  (hw:swappedStores [.Tuple [.Name x px,.Name y py] kt pt] (.Tuple [a,b] k2 pt2) X.env=pure (some [x,y]))
  (hs:swapsWithSole [.Tuple [.Name x px,.Name y py] kt pt] (.Tuple [a,b] k2 pt2) pos.line X.env=pure false:=by rfl) :
  PS X (.Assign [.Tuple [.Name x px,.Name y py] kt pt] (.Tuple [a,b] k2 pt2) pos) (GZ i j ta):=by
 intro pins s σ H D I h
 rw [exec_Assign_arm]
 refine wpAny_bind (wpAny_standAt ?_)
 rw [hs]
 refine wpAny_bind (wpAny_pure ?_)
 rw [if_neg (by decide)]
 refine wpAny_bind (Tuple_ (thn (ha _ pins s σ H _ I h) fun us s1 ⟨vs,H1,I1,r1,q1⟩=>?_))
 obtain ⟨v,w,e1,q1⟩:=q1
 subst e1
 obtain ⟨u1,u2,rfl,rv,rw'⟩:∃u1 u2,us=[u1,u2]∧RelV v u1∧RelV w u2:=by
  cases r1 with
  | cons p q =>
   cases q with
   | cons p' q' =>
    cases q'
    exact ⟨_,_,rfl,p,p'⟩
 refine wpAny_newObj_type ?_ (by show 2≤sizeLine;decide)
 have I2:Inv X pins σ H1 { s1 with heap:=s1.heap.push { cls:=.type "tuple",data:=.seq [u1,u2].toArray } }:=I1.kept (t':=s1.toks) fun b o e=>Heap.get?_push_of_some _ e
 rw [hw]
 refine wpAny_bind (wpAny_pure ?_)
 show wpAny (model X.prog X.w) X.A (do rule "assign.swapped-stores";let items ←unpackItems (.ref s1.heap.objs.size) 2 none;assignInOrder [fun v=>bindName X.env y v,fun v=>bindName X.env x v] items.reverse;pure Flow.next) _ _ _
 refine wpAny_bind (wpAny_rule (wpAny_bind (unpackItems_tuple (items:=#[u1,u2]) (I.ok.hd hc) (IsTup.new s1.heap _) fun h' hx'=>?_)))
 have I3:=I2.kept (h':=h') (t':=s1.toks) fun b o e=>hx' b o (Nat.ne_of_lt (Heap.lt_size e)) e
 show wpAny _ _ (assignInOrder [fun v=>bindName X.env y v,fun v=>bindName X.env x v] [u2,u1] >>= fun _=>pure Flow.next) _ _ _
 refine wpAny_bind (assignInOrder_cons (wpAny_bindName (fP I3 hN hj (.inl hy) rw' (fun s2 I4=>?_) (.inr hy))))
 refine assignInOrder_cons (wpAny_bindName (fP I4 hN hi (.inl hx) rv (fun s3 I5=>assignInOrder_nil (wpAny_pure ?_)) (.inr hx)))
 rw [List.set_comm _ _ (Ne.symm hij)] at I5
 exact ⟨_,H1,I5,q1⟩
end
section
variable {X:Cx} {pos:Pos}
noncomputable def yx (c:TT) (tb:TS):TS:=fun D σ H=>∃W:Nat→St→Hp→Prop,(∃m,W m σ H)∧∀m σ H,W m σ H →
 c σ H fun b H1=>if b=true then ∃N:St→Hp→Prop,(∀σ' H',N σ' H'→∃m',m'<m∧W m' σ' H')∧tb { D with nx:=N,ct:=N,bk:=D.nx } σ H1 else D.nx σ H1
theorem Ao {c:Expr} {body:List Stmt} {tc:TT} {tb:TS} (hp:PassesOwn (model X.prog X.w) X.A X.env X.xe) (hc:PT X c tc) (hb:PSs X body tb):PS X (.While c body [] pos) (yx tc tb):=by
 intro pins s σ H D I h
 obtain ⟨W,⟨m0,w0⟩,turn⟩:=h
 refine wpAny_While (codeAny_whileLoop (fun n s'=>∃σ' H',Inv X pins σ' H' s'∧W n σ' H') ?_ m0 ⟨σ,H,I,w0⟩)
 rintro n s1 ⟨σ1,H1,I1,w1⟩
 refine wpAny_passesOwn hp (thn (hc pins s1 σ1 H1 _ I1 (turn n σ1 H1 w1)) fun b s2 ⟨H2,I2,q2⟩=>?_)
 cases b with
 | true =>
  obtain ⟨N,hN,q2⟩:=q2
  rw [if_pos rfl]
  refine wpAny_passesOwn hp (thn (hb pins s2 σ1 H2 _ I2 q2) fun f s3 q3=>?_)
  cases f with
  | next =>
   obtain ⟨σ3,H3,I3,n3⟩:=q3
   obtain ⟨m',hm,w3⟩:=hN σ3 H3 n3
   exact ⟨m',hm,σ3,H3,I3,w3⟩
  | cont =>
   obtain ⟨σ3,H3,I3,n3⟩:=q3
   obtain ⟨m',hm,w3⟩:=hN σ3 H3 n3
   exact ⟨m',hm,σ3,H3,I3,w3⟩
  | brk=>exact q3
  | ret v=>exact q3
 | false =>
  rw [if_neg Bool.false_ne_true]
  exact wpAny_execs_nil ⟨σ1,H2,I2,q2⟩
end
structure It where
 go:Nat→Hp→Prop
 yld:Nat→Hp→V→Hp→Prop
 stop:Nat→Hp→Prop
noncomputable def iE (X:Cx) (pins:List (Addr × Obj)) (H:Hp) (b:Addr):Prop :=
 H b=none∧b≠X.env.locals∧b ∉ X.fs∧(b∈X.ex∨X.s₀.heap.objs.size≤b)∧(∀x c,X.env.cells.lookup x=some c→c≠b)∧∀p∈X.pn++pins,p.1≠b
theorem Inv.fpOk {X:Cx} {pins:List (Addr × Obj)} {σ:St} {H H':Hp} {s:Shared} {b:Addr} (I:Inv X pins σ H s) (hb:s.heap.objs.size≤b) (hn:H' b=none):iE X pins H' b:=by
 refine ⟨hn,Nat.ne_of_gt (Nat.lt_of_lt_of_le I.lt hb),I.nofs hb,.inr (Nat.le_trans I.sz hb),fun x c e z=>?_,fun p hp z=>?_⟩
 ·obtain ⟨v,q⟩:=I.cell x c e
  exact absurd (Nat.lt_of_lt_of_le q.lt (by rw [z];exact hb)) (Nat.lt_irrefl _)
 ·exact absurd (Nat.lt_of_lt_of_le (Heap.lt_size (I.pin p hp).1) (by rw [z];exact hb)) (Nat.lt_irrefl _)
structure sR (P:Program) (w:World) (K:W.Frag) (tg:Expr) (J:It) (fp:List Addr) (it:Addr) (tn:Nat→Heap→Prop):Prop where
 mem:it∈fp
 obj:∀i h,tn i h→∀b∈fp,∃o,h.get? b=some o∧∀v,o.data≠.cell v
 keep:∀i h h',tn i h→(∀b∈fp,∀o,h.get? b=some o→h'.get? b=some o)→tn i h'
 item:∀(X:Cx),X.prog=P→X.w=w→X.K=K→X.calm=true→∀(i:Nat) (pins:List (Addr × Obj)) (s:Shared) (σ:St) (H:Hp) (E:Value→Shared→Prop),Inv X pins σ H s→(∀b∈fp,iE X pins H b)→tn i s.heap→J.go i H →
  wpAny (model P w) X.A (pyNext (.ref it)) (fun r s1=>∃u,r=some u ∧
   wpAny (model P w) X.A (letOwnedTupleGo tg (.ref it) u) (fun _ s2=>∃x H',Inv X pins σ H' s2∧RelV x u∧J.yld i H x H'∧tn (i+1) s2.heap∧∀b∈fp,H' b=none) E s1) E s
 done:∀(X:Cx),X.prog=P→X.w=w→X.K=K→X.calm=true→∀(i:Nat) (pins:List (Addr × Obj)) (s:Shared) (σ:St) (H:Hp) (E:Value→Shared→Prop),Inv X pins σ H s→(∀b∈fp,iE X pins H b)→tn i s.heap→J.stop i H →
  wpAny (model P w) X.A (pyNext (.ref it)) (fun r s1=>r=none∧Inv X pins σ H s1) E s
 self:∀(A:Around) (i:Nat) (s:Shared) (Q:Value→Shared→Prop) (E:Value→Shared→Prop),tn i s.heap→Q (.ref it) s→wpAny (model P w) A (pyIter (.ref it)) Q E s
noncomputable abbrev TI:=St→Hp→(It→Hp→Prop)→Prop
noncomputable def PIE (X:Cx) (pins:List (Addr × Obj)) (σ:St) (tg:Expr) (R:It→Hp→Prop) (itv:Value) (s2:Shared):Prop :=
 ∃(it:Addr) (fp:List Addr) (tn:Nat→Heap→Prop) (J:It) (H':Hp),itv=.ref it∧Inv X pins σ H' s2∧sR X.prog X.w X.K tg J fp it tn∧tn 0 s2.heap∧(∀b∈fp,iE X pins H' b)∧R J H'
noncomputable def PI (X:Cx) (tg iter:Expr) (wi:TI):Prop :=
 ∀(pins:List (Addr × Obj)) (s:Shared) (σ:St) (H:Hp) (R:It→Hp→Prop),Inv X pins σ H s→wi σ H R →
  wpAny (model X.prog X.w) X.A (eval iter X.env) (fun v s1=>wpAny (model X.prog X.w) X.A (pyIter v) (PIE X pins σ tg R) X.xe s1) X.xe s
theorem sL {M:Model} {A:Around} {E:Value→Shared→Prop} {s:Shared} {tg:Expr} {it:Addr} {u:Value} {o:Obj} {n:String} {vs:Array Value} {Q:Unit→Shared→Prop} (ho:s.heap.get? it=some o) (hc:o.cls=.type n) (hd:o.data=.fields vs)
  (hn:["enumerate","zip","dict_itemiterator","dict_reverseitemiterator","odict_iterator","itertools.zip_longest","itertools.pairwise"].contains n=false) (hQ:Q () s):wpAny M A (letOwnedTupleGo tg (.ref it) u) Q E s:=by
 unfold letOwnedTupleGo
 cases tg <;> first
  | exact wpAny_pure hQ
  | (cases u <;> first
    | exact wpAny_pure hQ
    | (refine wpAny_bind (wpAny_load ho ?_)
       rw [hc,hd]
       show wpAny M A (if (["enumerate","zip","dict_itemiterator","dict_reverseitemiterator","odict_iterator","itertools.zip_longest","itertools.pairwise"].contains n && vs[0]? == some (rawInt _))=true then _ else _) Q E s
       rw [if_neg (by intro h;rw [hn,Bool.false_and] at h;cases h)]
       exact wpAny_pure hQ))
noncomputable def Itl (K:W.Frag) (a:Addr):It :=
 ⟨fun i H=>∃xs x,SqL K H a xs∧xs[i]?=some x,fun i H x H'=>H'=H∧∀xs,SqL K H a xs→xs[i]?=some x,fun i H=>∃xs,SqL K H a xs∧xs.length≤i⟩
noncomputable def Itt (K:W.Frag) (a:Addr):It :=
 ⟨fun i H=>∃xs x,SqT K H a xs∧xs[i]?=some x,fun i H x H'=>H'=H∧∀xs,SqT K H a xs→xs[i]?=some x,fun i H=>∃xs,SqT K H a xs∧xs.length≤i⟩
noncomputable def Itr (lo:Int) (n:Nat):It:=⟨fun i _=>i<n,fun i H x H'=>H'=H∧x=.int (lo+i),fun i _=>n≤i⟩
theorem xK {P:Program} {w:World} {K:W.Frag} {tg:Expr} (a it:Addr):sR P w K tg (Itl K a) [it] it (fun i h=>h.IsListIter it a i) where
 mem:=by simp
 obj:=fun i h st b hb=>by
  have e:b=it:=by simpa using hb
  subst e
  obtain ⟨o,e,c,d⟩:=st
  exact ⟨o,e,fun v z=>by rw [d] at z;cases z⟩
 keep:=fun i h h' st k=>st.at fun o e=>k it (by simp) o e
 item:=by
  intro X hP hw hK hc i pins s σ H E I hf st hg
  subst hP hw hK
  obtain ⟨xs,x,hq,hx⟩:=hg
  obtain ⟨its,rv,p,hz⟩:=I.list hq
  obtain ⟨u,hu,ru⟩:=rv.get hx
  obtain ⟨f0,f1,f2,f3,f4,f5⟩:=hf it (by simp)
  refine wpAny_pyNext_list_item st p.isList (x:=u) (by simpa using hu) fun h' st' sb=>?_
  have I1:Inv X pins σ H { s with heap:=h' }:=I.turned (t':=s.toks) (fun b o hb e=>(sb.2 b hb).trans e) f0 f1 f3 f4 f5
  obtain ⟨o,e,c,d⟩:=id st'
  exact ⟨u,rfl,sL (s:={ s with heap:=h' }) e c d (by decide) ⟨x,H,I1,ru,⟨rfl,fun ys hy=>by rw [I.list_inj hy hq];exact hx⟩,st',fun b hb=>(hf b hb).1⟩⟩
 done:=by
  intro X hP hw hK hc i pins s σ H E I hf st hg
  subst hP hw hK
  obtain ⟨xs,hq,hx⟩:=hg
  obtain ⟨its,rv,p,hz⟩:=I.list hq
  obtain ⟨f0,f1,f2,f3,f4,f5⟩:=hf it (by simp)
  have hl:=rv.length
  exact wpAny_pyNext_list_end (I.ok.hd hc) st p.isList (by simp;omega) fun h' eb=>⟨rfl,I.turned (t':=s.toks) (fun b o hb e=>eb b o hb e) f0 f1 f3 f4 f5⟩
 self:=fun _ _ _ _ _ st h=>wpAny_pyIter_listiter st h
theorem ub {P:Program} {w:World} {K:W.Frag} {tg:Expr} (a it:Addr):sR P w K tg (Itt K a) [it] it (fun i h=>h.IsTupleIter it a i) where
 mem:=by simp
 obj:=fun i h st b hb=>by
  have e:b=it:=by simpa using hb
  subst e
  obtain ⟨o,e,c,d⟩:=st
  exact ⟨o,e,fun v z=>by rw [d] at z;cases z⟩
 keep:=fun i h h' st k=>st.at fun o e=>k it (by simp) o e
 item:=by
  intro X hP hw hK hc i pins s σ H E I hf st hg
  subst hP hw hK
  obtain ⟨xs,x,hq,hx⟩:=hg
  obtain ⟨its,rv,p,hz⟩:=I.tuple hq
  obtain ⟨u,hu,ru⟩:=rv.get hx
  obtain ⟨f0,f1,f2,f3,f4,f5⟩:=hf it (by simp)
  refine wpAny_pyNext_tuple_item st (show s.heap.IsTuple a its.toArray from p) (x:=u) (by simpa using hu) fun h' st' sb=>?_
  have I1:Inv X pins σ H { s with heap:=h' }:=I.turned (t':=s.toks) (fun b o hb e=>(sb.2 b hb).trans e) f0 f1 f3 f4 f5
  obtain ⟨o,e,c,d⟩:=id st'
  exact ⟨u,rfl,sL (s:={ s with heap:=h' }) e c d (by decide) ⟨x,H,I1,ru,⟨rfl,fun ys hy=>by rw [I.tuple_inj hy hq];exact hx⟩,st',fun b hb=>(hf b hb).1⟩⟩
 done:=by
  intro X hP hw hK hc i pins s σ H E I hf st hg
  subst hP hw hK
  obtain ⟨xs,hq,hx⟩:=hg
  obtain ⟨its,rv,p,hz⟩:=I.tuple hq
  obtain ⟨f0,f1,f2,f3,f4,f5⟩:=hf it (by simp)
  have hl:=rv.length
  exact wpAny_pyNext_tuple_end (I.ok.hd hc) st (show s.heap.IsTuple a its.toArray from p) (by simp;omega) fun h' eb=>⟨rfl,I.turned (t':=s.toks) (fun b o hb e=>eb b o hb e) f0 f1 f3 f4 f5⟩
 self:=fun _ _ _ _ _ st h=>wpAny_pyIter_tupleiter st h
theorem uw {P:Program} {w:World} {K:W.Frag} {tg:Expr} (it:Addr) (lo:Int) (n:Nat):sR P w K tg (Itr lo n) [it] it (fun i h=>IsRangeIter h it (lo+(i:Nat)*1) ((n:Int)-(i:Nat)) 1) where
 mem:=by simp
 obj:=fun i h st b hb=>by
  have e:b=it:=by simpa using hb
  subst e
  exact ⟨_,st,fun v z=>by
   have z':Data.fields _=Data.cell v:=z
   cases z'⟩
 keep:=fun i h h' st k=>k it (by simp) _ st
 item:=by
  intro X hP hw hK hc i pins s σ H E I hf st hg
  subst hP hw hK
  obtain ⟨f0,f1,f2,f3,f4,f5⟩:=hf it (by simp)
  have W:=Walks.range (prog:=X.prog) (w:=X.w) (I.ok.hd hc) it lo 1 n
  refine W.item i s _ _ hg st fun v h' tk hv st' kk=>?_
  obtain ⟨t,rfl⟩:=hv
  have I1:Inv X pins σ H { s with heap:=h',toks:=tk }:=I.turned (fun b o hb e=>kk b o (by simpa using hb) e) f0 f1 f3 f4 f5
  refine ⟨_,rfl,sL (s:={ s with heap:=h',toks:=tk }) (n:="range_iterator") st' rfl rfl (by decide) ⟨.int (lo+i),H,I1,⟨t,?_⟩,⟨rfl,rfl⟩,st',fun b hb=>(hf b hb).1⟩⟩
  rw [Int.mul_one]
 done:=by
  intro X hP hw hK hc i pins s σ H E I hf st hg
  subst hP hw hK
  obtain ⟨f0,f1,f2,f3,f4,f5⟩:=hf it (by simp)
  exact wpAny_pyNext_range_end (I.ok.hd hc) st (by have:n≤i:=hg;omega) fun h' eb=>⟨rfl,I.turned (t':=s.toks) (fun b o hb e=>eb b o hb e) f0 f1 f3 f4 f5⟩
 self:=fun _ _ _ _ _ st h=>wpAny_pyIter_rangeiter st h
end L2
namespace L2
section
variable {X:Cx} {tg:Expr}
theorem xS {pins:List (Addr × Obj)} {σ:St} {H:Hp} {s:Shared} {R:It→Hp→Prop} {E:Value→Shared→Prop} {lo hi:Int} {t u v:Tok} {tk:Nat} (I:Inv X pins σ H s) (h1:-(2 ^ 62)≤lo) (h2:lo<2 ^ 62) (h3:-(2 ^ 62)≤hi) (h4:hi<2 ^ 62)
  (q:R (Itr lo (hi-lo).toNat) H):wpAny (model X.prog X.w) X.A (pyIter (.ref s.heap.objs.size)) (PIE X pins σ tg R) E { s with heap:=s.heap.push { cls:=.type "range",data:=.fields #[.int lo t,.int hi u,.int 1 v] },toks:=tk }:=by
 refine wpAny_pyIter_range (IsRange.new ..) (small_one h1 h2 h3 h4) ?_
 have I1:Inv X pins σ H { s with heap:=s.heap.push { cls:=.type "range",data:=.fields #[.int lo t,.int hi u,.int 1 v] },toks:=tk }:=I.kept fun b o e=>Heap.get?_push_of_some _ e
 refine ⟨(s.heap.push { cls:=.type "range",data:=.fields #[.int lo t,.int hi u,.int 1 v] }).objs.size,[(s.heap.push { cls:=.type "range",data:=.fields #[.int lo t,.int hi u,.int 1 v] }).objs.size],_,_,H,rfl,
  I1.kept (t':=tk) fun b o e=>Heap.get?_push_of_some _ e,uw _ lo (hi-lo).toNat,?_,fun b hb=>?_,q⟩
 ·have e1:lo+((0:Nat):Int)*1=lo:=by simp
  have e2:(((hi-lo).toNat:Nat):Int)-((0:Nat):Int)=Builtin.Range.rangeSize lo hi 1:=by rw [rangeSize_one];split <;> omega
  show IsRangeIter _ _ (lo+((0:Nat):Int)*1) ((((hi-lo).toNat:Nat):Int)-((0:Nat):Int)) 1
  rw [e1,e2]
  exact Heap.get?_push_size _ rfl
 ·have e:b=(s.heap.push { cls:=.type "range",data:=.fields #[.int lo t,.int hi u,.int 1 v] }).objs.size:=by simpa using hb
  subst e
  exact I1.fpOk (Nat.le_refl _) (I1.hok.fresh (Nat.le_refl _))
noncomputable def Fx (ta:TA):TI:=fun σ H R=>ta σ H fun vs H1=>∃j:Int,vs=[.int j]∧-(2 ^ 62)≤j∧j<2 ^ 62∧R (Itr 0 j.toNat) H1
theorem wF {a:Expr} {ta:TA} {p pos:Pos} (hg:Gl X "range") (hm:X.mg "range"=none) (ha:PA X [a] ta) (hs:starEach [a] X.env=[(false,eval a X.env)]:=by rfl):PI X tg (.Call (.Name "range" p) [a] [] pos) (Fx ta):=by
 intro pins s σ H R I h
 refine Call_ (mV I hg hm boot_range (PyProof.Rows.callWith_type1 (thn (ha pos pins s σ H _ I h) fun us s1 ⟨vs,H1,I1,r1,q1⟩=>?_) hs rfl))
 obtain ⟨j,e,q1,q2,q⟩:=q1
 subst e
 cases r1 with
 | cons r rr =>
  cases rr
  obtain ⟨t,rfl⟩:=r
  exact call_range_1 (xS I1 (by omega) (by omega) q1 q2 (by simpa using q))
noncomputable def Dy (wi:TI) (g:TG) (tb:TS):TS:=fun D σ H=>wi σ H fun J H1=>∃W:Nat→Nat→St→Hp→Prop,(∃m,W 0 m σ H1)∧∀i m σ H,W i m σ H →
 (J.stop i H∧D.nx σ H)∨(J.go i H∧∃N:St→Hp→Prop,(∀σ' H',N σ' H'→∃m',m'<m∧W (i+1) m' σ' H')∧∀x H',J.yld i H x H'→g x σ H' fun σ2 H2=>tb { D with nx:=N,ct:=N,bk:=D.nx } σ2 H2)
noncomputable def kn (fp:List Addr) (h:Heap):List (Addr × Obj):=fp.filterMap fun b=>(h.get? b).map fun o=>(b,o)
theorem dI {fp:List Addr} {h:Heap} {b:Addr} {o:Obj} (hb:b∈fp) (e:h.get? b=some o):(b,o)∈kn fp h:=List.mem_filterMap.mpr ⟨b,hb,by rw [e];rfl⟩
theorem xa {fp:List Addr} {h:Heap} {p:Addr × Obj} (hp:p∈kn fp h):p.1∈fp∧h.get? p.1=some p.2:=by
 obtain ⟨b,hb,e⟩:=List.mem_filterMap.mp hp
 cases q:h.get? b with
 | none=>rw [q] at e;cases e
 | some o =>
  rw [q] at e
  have e':(b,o)=p:=Option.some.inj e
  subst e'
  exact ⟨hb,q⟩
theorem Inv.pinned {pins:List (Addr × Obj)} {σ:St} {H:Hp} {s:Shared} {fp:List Addr} (I:Inv X pins σ H s) (hf:∀b∈fp,iE X pins H b) (ho:∀b∈fp,∃o,s.heap.get? b=some o∧∀v,o.data≠.cell v):Inv X (pins++kn fp s.heap) σ H s :=
 I.pins_of fun p hp=>(List.mem_append.mp hp).elim (fun z=>I.pin p (List.mem_append_right _ z)) fun z=>by
  obtain ⟨hb,e⟩:=xa z
  obtain ⟨f0,f1,f2,_⟩:=hf p.1 hb
  obtain ⟨o,e',d⟩:=ho p.1 hb
  rw [e] at e';cases e'
  exact ⟨e,f0,f1,f2,d⟩
theorem Inv.unpinned {pins pl:List (Addr × Obj)} {σ:St} {H:Hp} {s:Shared} (I:Inv X (pins++pl) σ H s):Inv X pins σ H s:=I.pins_of fun p hp=>I.pin p (List.mem_append_right _ (List.mem_append_left _ hp))
theorem AD {iter:Expr} {body:List Stmt} {wi:TI} {g:TG} {tb:TS} {pos:Pos} (hp:PassesOwn (model X.prog X.w) X.A X.env X.xe) (hc:X.calm=true) (hi:PI X tg iter wi) (hg:PG X tg g) (hb:PSs X body tb)
  (hs:∀x,foldedSetIterable iter X.env x=pure x:=by intro _;rfl):PS X (.For tg iter body [] pos) (Dy wi g tb):=by
 intro pins s σ H D I h
 refine wpAny_For (thn (hi pins s σ H _ I h) fun v s1 h1=>thn h1 fun itv s2 h2=>?_) hs
 obtain ⟨it,fp,tn,J,H2,e,I2,T,st2,f2,W,⟨m0,w0⟩,turn⟩:=h2
 subst e
 have stat:∀ {H':Hp},(∀b∈fp,H' b=none)→∀b∈fp,iE X pins H' b:=fun hn b hb=>⟨hn b hb,(f2 b hb).2⟩
 refine codeAny_forLoop_any (fun n s'=>∃i σ' H',Inv X pins σ' H' s'∧tn i s'.heap∧(∀b∈fp,H' b=none)∧W i n σ' H') ?_ m0 ⟨0,σ,H2,I2,st2,fun b hb=>(f2 b hb).1,w0⟩
 rintro n s3 ⟨i,σ3,H3,I3,st3,fr3,w3⟩
 rcases turn i n σ3 H3 w3 with ⟨stop,qn⟩|⟨go,N,hN,step⟩
 ·refine wpAny_passesOwn hp (thn (T.done X rfl rfl rfl hc i pins s3 σ3 H3 X.xe I3 (stat fr3) st3 stop) fun r s4 ⟨hr,I4⟩=>?_)
  subst hr
  exact wpAny_execs_nil ⟨σ3,H3,I4,qn⟩
 ·refine wpAny_passesOwn hp (thn (T.item X rfl rfl rfl hc i pins s3 σ3 H3 X.xe I3 (stat fr3) st3 go) fun r s4 ⟨u,hr,h4⟩=>?_)
  subst hr
  refine wpAny_passesOwn hp (thn h4 fun _ s5 ⟨x,H5,I5,r5,y5,st5,fr5⟩=>?_)
  have I5':=I5.pinned (stat fr5) (T.obj _ _ st5)
  refine wpAny_passesOwn hp (thn (hg _ s5 σ3 H5 x u _ I5' r5 (step x H5 y5)) fun _ s6 ⟨σ6,H6,I6,q6⟩=>?_)
  refine wpAny_passesOwn hp (thn (hb _ s6 σ6 H6 _ I6 q6) fun f s7 q7=>?_)
  have again:∀ {σ7:St} {H7:Hp},Inv X (pins++kn fp s5.heap) σ7 H7 s7→N σ7 H7→∃m,m<n∧∃i σ' H',Inv X pins σ' H' s7∧tn i s7.heap∧(∀b∈fp,H' b=none)∧W i m σ' H':=fun {σ7 H7} I7 n7=>by
   obtain ⟨m',hm,w7⟩:=hN σ7 H7 n7
   refine ⟨m',hm,i+1,σ7,H7,I7.unpinned,T.keep _ _ _ st5 fun b hb o e=>(I7.pin (b,o) (List.mem_append_right _ (List.mem_append_right _ (dI hb e)))).1,fun b hb=>?_,w7⟩
   obtain ⟨o,e,d⟩:=T.obj _ _ st5 b hb
   exact (I7.pin (b,o) (List.mem_append_right _ (List.mem_append_right _ (dI hb e)))).2.1
  cases f with
  | next=>obtain ⟨σ7,H7,I7,n7⟩:=q7;exact again I7 n7
  | cont=>obtain ⟨σ7,H7,I7,n7⟩:=q7;exact again I7 n7
  | brk=>obtain ⟨σ7,H7,I7,q7⟩:=q7;exact ⟨σ7,H7,I7.unpinned,q7⟩
  | ret v=>obtain ⟨x7,σ7,H7,I7,r7,q7⟩:=q7;exact ⟨x7,σ7,H7,I7.unpinned,r7,q7⟩
end
end L2
namespace L2
noncomputable abbrev R2:=V→V→Hp→VK→Prop
noncomputable def OpR (X:Cx) (f:Value→Value→Sem Value) (r:R2):Prop :=
 ∀(pins:List (Addr × Obj)) (s:Shared) (σ:St) (H:Hp) (x y:V) (v u:Value) (Q:VK),Inv X pins σ H s→RelV x v→RelV y u→r x y H Q →
  wpAny (model X.prog X.w) X.A (f v u) (EP X pins σ Q) X.xe s
noncomputable def UnR (X:Cx) (f:Value→Sem Value) (r:V→Hp→VK→Prop):Prop :=
 ∀(pins:List (Addr × Obj)) (s:Shared) (σ:St) (H:Hp) (x:V) (v:Value) (Q:VK),Inv X pins σ H s→RelV x v→r x H Q →
  wpAny (model X.prog X.w) X.A (f v) (EP X pins σ Q) X.xe s
noncomputable def eA (X:Cx) (f:Value) (r:List V→Hp→VK→Prop):Prop :=
 ∀(pins:List (Addr × Obj)) (s:Shared) (σ:St) (H:Hp) (xs:List V) (us:List Value) (Q:VK),Inv X pins σ H s→Vals xs us→r xs H Q →
  wpAny (model X.prog X.w) X.A (call f us) (EP X pins σ Q) X.xe s
noncomputable def GI (X:Cx) (r:V→Hp→(Bool→Hp→Prop)→Prop):Prop :=
 ∀(pins:List (Addr × Obj)) (s:Shared) (σ:St) (H:Hp) (x:V) (v:Value) (Q:Bool→Hp→Prop),Inv X pins σ H s→RelV x v→r x H Q →
  wpAny (model X.prog X.w) X.A (truthy v) (TP X pins σ Q) X.xe s
noncomputable def tOp (r:R2) (ta tb:TE):TE:=fun σ H Q=>ta σ H fun x H1=>tb σ H1 fun y H2=>r x y H2 Q
noncomputable def tUn (r:V→Hp→VK→Prop) (ta:TE):TE:=fun σ H Q=>ta σ H fun x H1=>r x H1 Q
noncomputable def rI (C:Int→Int→Prop) (g:Int→Int→V):R2:=fun x y H Q=>∃i j,x=.int i∧y=.int j∧C i j∧Q (g i j) H
noncomputable def rI0 (g:Int→Int→V):R2:=fun x y H Q=>∃i j,x=.int i∧y=.int j∧Q (g i j) H
noncomputable def rU (g:Int→V):V→Hp→VK→Prop:=fun x H Q=>∃i,x=.int i∧Q (g i) H
section
variable {X:Cx} {a b c:Expr} {ta tb tc:TE} {pos:Pos}
theorem EE (ha:PE X a ta) (hb:PE X b tb) {pins:List (Addr × Obj)} {s:Shared} {σ:St} {H:Hp} {R:V→V→Hp→Prop} (I:Inv X pins σ H s)
  (h:ta σ H fun x H1=>tb σ H1 fun y H2=>R x y H2) {Q:Value→Shared→Prop} {f:Value→Value→Sem Value}
  (hf:∀v u s2 x y H2,Inv X pins σ H2 s2→RelV x v→RelV y u→R x y H2→wpAny (model X.prog X.w) X.A (f v u) Q X.xe s2) :
  wpAny (model X.prog X.w) X.A (eval a X.env) (fun v s₁=>wpAny (model X.prog X.w) X.A (eval b X.env) (fun u s₂=>wpAny (model X.prog X.w) X.A (f v u) Q X.xe s₂) X.xe s₁) X.xe s:=by
 refine thn (ha pins s σ H _ I h) fun v s1 ⟨x,H1,I1,r1,q1⟩=>?_
 refine thn (hb pins s1 σ H1 _ I1 q1) fun u s2 ⟨y,H2,I2,r2,q2⟩=>?_
 exact hf v u s2 x y H2 I2 r1 r2 q2
theorem F6 {op:Operator} {r:R2} (ho:OpR X (binaryOp op) r) (ha:PE X a ta) (hb:PE X b tb):PE X (.BinOp a op b pos) (tOp r ta tb):=by
 intro pins s σ H Q I h
 exact wpAny_BinOp (EE ha hb I h fun v u s2 x y H2 I2 rx ry q=>ho pins s2 σ H2 x y v u Q I2 rx ry q)
theorem Gc {op:UnaryOp} {r:V→Hp→VK→Prop} (ho:UnR X (unaryOp op) r) (ha:PE X a ta):PE X (.UnaryOp op a pos) (tUn r ta):=by
 intro pins s σ H Q I h
 exact UnaryOp_ (thn (ha pins s σ H _ I h) fun v s1 ⟨x,H1,I1,r1,q1⟩=>ho pins s1 σ H1 x v Q I1 r1 q1)
theorem opI {f:Value→Value→Sem Value} {C:Int→Int→Prop} {g:Int→Int→Int}
  (rule:∀(i j:Int) (t u:Tok) (s:Shared) (Q:Value→Shared→Prop) (E:Value→Shared→Prop),C i j→Q (.int (g i j) s.toks) { s with toks:=s.toks+1 }→wpAny (model X.prog X.w) X.A (f (.int i t) (.int j u)) Q E s) :
  OpR X f (rI C fun i j=>.int (g i j)):=by
 intro pins s σ H x y v u Q I rx ry h
 obtain ⟨i,j,rfl,rfl,hc,q⟩:=h
 obtain ⟨t,rfl⟩:=rx
 obtain ⟨t',rfl⟩:=ry
 exact rule i j t t' s _ _ hc ⟨.int (g i j),H,I.tok _,⟨_,rfl⟩,q⟩
theorem Fq {f:Value→Value→Sem Value} {g:Int→Int→Int}
  (rule:∀(i j:Int) (t u:Tok) (s:Shared) (Q:Value→Shared→Prop) (E:Value→Shared→Prop),Q (.int (g i j) s.toks) { s with toks:=s.toks+1 }→wpAny (model X.prog X.w) X.A (f (.int i t) (.int j u)) Q E s) :
  OpR X f (rI0 fun i j=>.int (g i j)):=by
 intro pins s σ H x y v u Q I rx ry h
 obtain ⟨i,j,rfl,rfl,q⟩:=h
 obtain ⟨t,rfl⟩:=rx
 obtain ⟨t',rfl⟩:=ry
 exact rule i j t t' s _ _ ⟨.int (g i j),H,I.tok _,⟨_,rfl⟩,q⟩
theorem Ca {f:Value→Value→Sem Value} {g:Int→Int→Bool}
  (rule:∀(i j:Int) (t u:Tok) (s:Shared) (Q:Value→Shared→Prop) (E:Value→Shared→Prop),Q (.bool (g i j)) s→wpAny (model X.prog X.w) X.A (f (.int i t) (.int j u)) Q E s) :
  OpR X f (rI0 fun i j=>.bl (g i j)):=by
 intro pins s σ H x y v u Q I rx ry h
 obtain ⟨i,j,rfl,rfl,q⟩:=h
 obtain ⟨t,rfl⟩:=rx
 obtain ⟨t',rfl⟩:=ry
 exact rule i j t t' s _ _ ⟨.bl (g i j),H,I,rfl,q⟩
noncomputable def tD (i j:Int):Prop:=0≤j∧j≤1000000∧i.natAbs<2 ^ 64
theorem Dn:OpR X (binaryOp .Add) (rI0 fun i j=>.int (i+j)):=Fq fun _ _ _ _ _ _ _ q=>add_int q
theorem Ep:OpR X (binaryOp .Sub) (rI0 fun i j=>.int (i-j)):=Fq fun _ _ _ _ _ _ _ q=>sub_int q
theorem DO:OpR X (binaryOp .Mod) (rI (fun _ j=>0<j) fun i j=>.int (i % j)):=opI fun i j _ _ _ _ _ hc q=>by
 have h1:(0:Int)<j:=hc
 exact mod_int' (by omega) (by rw [Int.fmod_eq_emod_of_nonneg i (by omega)];exact q)
theorem Ex:OpR X (binaryOp .Pow) (rI tD fun i j=>.int (i ^ j.toNat)):=opI fun _ _ _ _ _ _ _ hc q=>pow_int_small hc.1 hc.2.1 hc.2.2 q
theorem unI {f:Value→Sem Value} {g:Int→Int}
  (rule:∀(i:Int) (t:Tok) (s:Shared) (Q:Value→Shared→Prop) (E:Value→Shared→Prop),Q (.int (g i) s.toks) { s with toks:=s.toks+1 }→wpAny (model X.prog X.w) X.A (f (.int i t)) Q E s) :
  UnR X f (rU fun i=>.int (g i)):=by
 intro pins s σ H x v Q I rx h
 obtain ⟨i,rfl,q⟩:=h
 obtain ⟨t,rfl⟩:=rx
 exact rule i t s _ _ ⟨.int (g i),H,I.tok _,⟨_,rfl⟩,q⟩
theorem Dw:UnR X (unaryOp .USub) (rU fun i=>.int (-i)):=unI fun _ _ _ _ _ q=>neg_int q
end
noncomputable def Fm:V→V→Bool
 | .non,.non=>true | .non,.int _=>true | .int _,.non=>true | .non,.bl _=>true | .bl _,.non=>true | .non,.str _=>true | .str _,.non=>true
 | .int _,.int _=>true | .bl _,.bl _=>true | .str _,.str _=>true | .byt _,.byt _=>true
 | .int _,.str _=>true | .str _,.int _=>true | .bl _,.str _=>true | .str _,.bl _=>true
 | _,_=>false
noncomputable def rEq:R2:=fun x y H Q=>Fm x y=true∧Q (.bl (decide (x=y))) H
noncomputable def rNe:R2:=fun x y H Q=>Fm x y=true∧Q (.bl (!decide (x=y))) H
theorem v6 {i j:Int}:decide (V.int i=V.int j)=(i == j):=by
 rw [Bool.eq_iff_iff]
 simp
theorem yF {i j:Bool}:decide (V.bl i=V.bl j)=(i == j):=by
 rw [Bool.eq_iff_iff]
 simp
theorem ww {i j:Str}:decide (V.str i=V.str j)=(i == j):=by
 rw [Bool.eq_iff_iff]
 simp
theorem wu {i j:Array UInt8}:decide (V.byt i=V.byt j)=(i.toList == j.toList):=by
 rw [Bool.eq_iff_iff]
 cases i
 cases j
 simp
section
variable {X:Cx} {a b c:Expr} {ta tb tc:TE} {pos:Pos}
theorem aA {pins:List (Addr × Obj)} {σ:St} {H:Hp} {s:Shared} {Q:VK} {k k':Bool} (I:Inv X pins σ H s) (q:Q (.bl k) H) (e:k=k'):EP X pins σ Q (.bool k') s:=by
 subst e
 exact ⟨.bl k,H,I,rfl,q⟩
theorem zU:OpR X (compareOp .Eq) rEq:=by
 intro pins s σ H x y v u Q I rx ry h
 obtain ⟨hs,q⟩:=h
 cases x with
 | non =>
  cases rx
  cases y with
  | non=>cases ry;exact PySem.EqNone.eq_none_none (aA I q (by simp))
  | bl j=>cases ry;exact PySem.EqNone.eq_none_bool (aA I q (by simp))
  | int j=>obtain ⟨t',rfl⟩:=ry;exact PySem.EqNone.eq_none_int (aA I q (by simp))
  | str j=>obtain ⟨t',rfl⟩:=ry;exact PySem.EqNone.eq_none_str (aA I q (by simp))
  | _=>exact absurd (show false=true from hs) Bool.false_ne_true
 | bl i =>
  cases rx
  cases y with
  | non=>cases ry;exact PySem.EqNone.eq_bool_none (aA I q (by simp))
  | bl j=>cases ry;exact eq_bool (aA I q yF)
  | str j=>obtain ⟨t',rfl⟩:=ry;exact PySem.EqMixed.eq_bool_str (aA I q (by simp))
  | _=>exact absurd (show false=true from hs) Bool.false_ne_true
 | int i =>
  obtain ⟨t,rfl⟩:=rx
  cases y with
  | non=>cases ry;exact PySem.EqNone.eq_int_none (aA I q (by simp))
  | int j=>obtain ⟨t',rfl⟩:=ry;exact eq_int (aA I q v6)
  | str j=>obtain ⟨t',rfl⟩:=ry;exact PySem.EqMixed.eq_int_str (aA I q (by simp))
  | _=>exact absurd (show false=true from hs) Bool.false_ne_true
 | str i =>
  obtain ⟨t,rfl⟩:=rx
  cases y with
  | non=>cases ry;exact PySem.EqNone.eq_str_none (aA I q (by simp))
  | bl j=>cases ry;exact PySem.EqMixed.eq_str_bool (aA I q (by simp))
  | int j=>obtain ⟨t',rfl⟩:=ry;exact PySem.EqMixed.eq_str_int (aA I q (by simp))
  | str j=>obtain ⟨t',rfl⟩:=ry;exact eq_str (aA I q ww)
  | _=>exact absurd (show false=true from hs) Bool.false_ne_true
 | byt i =>
  obtain ⟨t,rfl⟩:=rx
  cases y with
  | byt j=>obtain ⟨t',rfl⟩:=ry;exact W.eq_bytes (aA I q wu)
  | _=>exact absurd (show false=true from hs) Bool.false_ne_true
 | _=>cases y <;> exact absurd (show false=true from hs) Bool.false_ne_true
theorem AR:OpR X (compareOp .NotEq) rNe:=by
 intro pins s σ H x y v u Q I rx ry h
 obtain ⟨hs,q⟩:=h
 cases x with
 | non =>
  cases rx
  cases y with
  | non=>cases ry;exact PySem.EqNone.ne_none_none (aA I q (by simp))
  | bl j=>cases ry;exact PySem.EqNone.ne_none_bool (aA I q (by simp))
  | int j=>obtain ⟨t',rfl⟩:=ry;exact PySem.EqNone.ne_none_int (aA I q (by simp))
  | str j=>obtain ⟨t',rfl⟩:=ry;exact PySem.EqNone.ne_none_str (aA I q (by simp))
  | _=>exact absurd (show false=true from hs) Bool.false_ne_true
 | bl i =>
  cases rx
  cases y with
  | non=>cases ry;exact PySem.EqNone.ne_bool_none (aA I q (by simp))
  | bl j=>cases ry;exact ne_bool (aA I q (congrArg not yF))
  | str j=>obtain ⟨t',rfl⟩:=ry;exact PySem.EqMixed.ne_bool_str (aA I q (by simp))
  | _=>exact absurd (show false=true from hs) Bool.false_ne_true
 | int i =>
  obtain ⟨t,rfl⟩:=rx
  cases y with
  | non=>cases ry;exact PySem.EqNone.ne_int_none (aA I q (by simp))
  | int j=>obtain ⟨t',rfl⟩:=ry;exact ne_int (aA I q (congrArg not v6))
  | str j=>obtain ⟨t',rfl⟩:=ry;exact PySem.EqMixed.ne_int_str (aA I q (by simp))
  | _=>exact absurd (show false=true from hs) Bool.false_ne_true
 | str i =>
  obtain ⟨t,rfl⟩:=rx
  cases y with
  | non=>cases ry;exact PySem.EqNone.ne_str_none (aA I q (by simp))
  | bl j=>cases ry;exact PySem.EqMixed.ne_str_bool (aA I q (by simp))
  | int j=>obtain ⟨t',rfl⟩:=ry;exact PySem.EqMixed.ne_str_int (aA I q (by simp))
  | str j=>obtain ⟨t',rfl⟩:=ry;exact ne_str (aA I q (congrArg not ww))
  | _=>exact absurd (show false=true from hs) Bool.false_ne_true
 | byt i =>
  obtain ⟨t,rfl⟩:=rx
  cases y with
  | byt j=>obtain ⟨t',rfl⟩:=ry;exact W.ne_bytes (aA I q (congrArg not wu))
  | _=>exact absurd (show false=true from hs) Bool.false_ne_true
 | _=>cases y <;> exact absurd (show false=true from hs) Bool.false_ne_true
theorem Fk:OpR X (compareOp .Lt) (rI0 fun i j=>.bl (decide (i<j))):=Ca fun _ _ _ _ _ _ _ q=>lt_int q
theorem Gd:OpR X (compareOp .LtE) (rI0 fun i j=>.bl (decide (i≤j))):=Ca fun _ _ _ _ _ _ _ q=>le_int q
theorem F9:OpR X (compareOp .Gt) (rI0 fun i j=>.bl (decide (j<i))):=Ca fun _ _ _ _ _ _ _ q=>gt_int q
theorem Gb:OpR X (compareOp .GtE) (rI0 fun i j=>.bl (decide (j≤i))):=Ca fun _ _ _ _ _ _ _ q=>ge_int q
theorem xP:OpR X (compareOp .In) (fun x y H Q=>∃i j,x=.str i∧y=.str j∧Q (.bl (!(Builtin.Str.occurrences j i 0 j.length 1).isEmpty)) H):=by
 intro pins s σ H x y v u Q I rx ry h
 obtain ⟨i,j,rfl,rfl,q⟩:=h
 obtain ⟨t,rfl⟩:=rx
 obtain ⟨t',rfl⟩:=ry
 exact in_str (aA I q rfl)
theorem Ej:OpR X (compareOp .Is) (fun x y H Q=>y=.non∧Q (.bl (decide (x=.non))) H):=by
 intro pins s σ H x y v u Q I rx ry h
 obtain ⟨rfl,q⟩:=h
 cases ry
 refine is_none_gen (aA I q ?_)
 cases x <;> first
  | (cases rx;rfl)
  | (obtain ⟨t,rfl⟩:=rx;rfl)
theorem B5:OpR X (compareOp .IsNot) (fun x y H Q=>y=.non∧Q (.bl (!decide (x=.non))) H):=by
 intro pins s σ H x y v u Q I rx ry h
 obtain ⟨rfl,q⟩:=h
 cases ry
 refine isnot_none_gen (aA I q ?_)
 cases x <;> first
  | (cases rx;rfl)
  | (obtain ⟨t,rfl⟩:=rx;rfl)
theorem wj {op:CmpOp} {r:R2} (ho:OpR X (compareOp op) r) (ha:PE X a ta) (hb:PE X b tb) (hm:behindInMarks op b=false):PE X (.Compare a [op] [b] pos) (tOp r ta tb):=by
 intro pins s σ H Q I h
 exact wpAny_Compare1 (EE ha hb I h fun v u s2 x y H2 I2 rx ry q=>ho pins s2 σ H2 x y v u Q I2 rx ry q) hm
noncomputable def FO (t:TE):TT:=fun σ H Q=>t σ H fun x H'=>∃k,x=.bl k∧Q k H'
theorem wv {op:CmpOp} {r:R2} (ho:OpR X (compareOp op) r) (ha:PE X a ta) (hb:PE X b tb) (hm:behindInMarks op b=false):PT X (.Compare a [op] [b] pos) (FO (tOp r ta tb)):=by
 intro pins s σ H Q I h
 refine wpAny_isTrue_Compare1 (thn (ha pins s σ H _ I h) fun v s1 ⟨x,H1,I1,r1,q1⟩=>thn (hb pins s1 σ H1 _ I1 q1) fun u s2 ⟨y,H2,I2,r2,q2⟩ =>
  thn (ho pins s2 σ H2 x y v u _ I2 r1 r2 q2) fun c s3 ⟨z,H3,I3,r3,k,e,q3⟩=>?_) hm
 subst e
 cases r3
 exact wpAny_truthy_bool ⟨H3,I3,q3⟩
noncomputable def EM (K:W.Frag) (x:V) (H:Hp) (k:Bool):Prop :=
 match x with
 | .non=>k=false
 | .bl b=>k=b
 | .int i=>k=(i != 0)
 | .str y=>y.length≤sizeLine∧k=((y.length:Int) != 0)
 | .byt y=>y.size≤sizeLine∧k=((y.size:Int) != 0)
 | .ref p=>(∃xs,SqL K H p xs∧k=!xs.isEmpty)∨(∃xs,SqT K H p xs∧k=!xs.isEmpty)∨∃kvs,H p=some (.dK kvs)∧k=!kvs.isEmpty
 | _=>False
theorem u3 {κ:Type} {kvs:List (κ × V)} {vs:List (κ × Value)} (r:KV kvs vs):(!vs.isEmpty)=!kvs.isEmpty:=by
 cases r <;> rfl
theorem ng {xs:List V} {its:List Value} (r:Vals xs its):(!its.toArray.isEmpty)=!xs.isEmpty:=by
 cases r <;> simp
theorem iQ:(sizeLine:Nat)<2 ^ 63:=by rw [sizeLine_eq];decide
theorem Ew:GI X (fun x H Q=>∃k,EM X.K x H k∧Q k H):=by
 intro pins s σ H x v Q I rx h
 obtain ⟨k,e,q⟩:=h
 have hl:=iQ
 have hs:sizeLine=16777216:=sizeLine_eq
 cases x with
 | non =>
  cases rx
  have e':k=false:=e
  subst e'
  exact truthy_none ⟨H,I,q⟩
 | bl b =>
  cases rx
  have e':k=b:=e
  subst e'
  exact wpAny_truthy_bool ⟨H,I,q⟩
 | int i =>
  obtain ⟨t,rfl⟩:=rx
  have e':k=(i != 0):=e
  subst e'
  exact PySem.P.truthy_int ⟨H,I,q⟩
 | str y =>
  obtain ⟨t,rfl⟩:=rx
  obtain ⟨hy,e'⟩:y.length≤sizeLine∧k=((y.length:Int) != 0):=e
  subst e'
  exact PySem.P.truthy_str (by omega) ⟨H,I.tok _,q⟩
 | byt y =>
  obtain ⟨t,rfl⟩:=rx
  obtain ⟨hy,e'⟩:y.size≤sizeLine∧k=((y.size:Int) != 0):=e
  subst e'
  exact W.truthy_bytes (by omega) ⟨H,I.tok _,q⟩
 | ref p =>
  cases rx
  have e':(∃xs,SqL X.K H p xs∧k=!xs.isEmpty)∨(∃xs,SqT X.K H p xs∧k=!xs.isEmpty)∨∃kvs,H p=some (.dK kvs)∧k=!kvs.isEmpty:=e
  rcases e' with ⟨xs,hx,e'⟩|⟨xs,hx,e'⟩|⟨kvs,hx,e'⟩
  ·subst e'
   obtain ⟨its,r,pl,hz⟩:=I.list hx
   have hlen:=r.length
   exact wpAny_truthy_list pl.isList (by simp only [List.size_toArray];omega) ⟨H,I.tok _,by rw [ng r];exact q⟩
  ·subst e'
   obtain ⟨its,r,pl,hz⟩:=I.tuple hx
   have hlen:=r.length
   exact truthy_tuple pl (by simp only [List.size_toArray];omega) ⟨H,I.tok _,by rw [ng r];exact q⟩
  ·subst e'
   obtain ⟨hz,hS,vs,r,m⟩:kvs.length≤sizeLine∧(p == sysModules)=false∧∃vs,KV kvs vs∧s.heap.DictOf (aD X.prog X.w) p vs:=I.hok p _ hx
   have hlen:kvs.length=vs.length:=Paired.length r
   exact wpAny_truthy_dict hS m (by omega) ⟨H,I.tok _,by rw [u3 r];exact q⟩
 | _=>exact (show False from e).elim
theorem fH (ha:PE X a ta) (he:∀whole,isTrue a X.env whole=(do let v ←whole;standAt a.pos;holding [v] (truthy v))) :
  PT X a (fun σ H Q=>ta σ H fun x H'=>∃k,EM X.K x H' k∧Q k H'):=by
 intro pins s σ H Q I h
 exact isTrue_plain (thn (ha pins s σ H _ I h) fun v s1 ⟨x,H1,I1,r1,q1⟩=>Ew pins s1 σ H1 x v Q I1 r1 q1) (he _)
theorem vG:OpR X (binaryOp .Add) (fun x y H Q=>∃i j,x=.str i∧y=.str j∧i.length+j.length≤sizeLine∧Q (.str (i++j)) H):=by
 intro pins s σ H x y v u Q I rx ry h
 obtain ⟨i,j,rfl,rfl,hz,q⟩:=h
 obtain ⟨t,rfl⟩:=rx
 obtain ⟨t',rfl⟩:=ry
 exact add_str (fun t' tk=>⟨.str (i++j),H,I.tok _,⟨_,rfl⟩,q⟩) hz
theorem gK {x:V} {us:List Value} (r:Vals [x] us):∃u,us=[u]∧RelV x u:=by
 cases r with
 | cons r1 r2=>cases r2;exact ⟨_,rfl,r1⟩
theorem rN {x y:V} {us:List Value} (r:Vals [x,y] us):∃u w',us=[u,w']∧RelV x u∧RelV y w':=by
 cases r with
 | cons r1 r2 =>
  cases r2 with
  | cons r3 r4=>cases r4;exact ⟨_,_,rfl,r1,r3⟩
theorem xJ (hc:X.calm=true):eA X (.builtin "max") (fun xs H Q=>∃i j,xs=[.int i,.int j]∧Q (.int (if j > i then j else i)) H):=by
 intro pins s σ H xs us Q I r h
 obtain ⟨i,j,rfl,q⟩:=h
 obtain ⟨u,w',rfl,⟨t,rfl⟩,⟨t',rfl⟩⟩:=rN r
 refine max_two_ints (I.ok.hd hc) fun h' tk k=>⟨_,H,I.kept k,?_,q⟩
 by_cases hj:j > i
 ·rw [if_pos hj,if_pos hj];exact ⟨_,rfl⟩
 ·rw [if_neg hj,if_neg hj];exact ⟨_,rfl⟩
theorem wW (hc:X.calm=true):eA X (.builtin "min") (fun xs H Q=>∃i j,xs=[.int i,.int j]∧Q (.int (if j<i then j else i)) H):=by
 intro pins s σ H xs us Q I r h
 obtain ⟨i,j,rfl,q⟩:=h
 obtain ⟨u,w',rfl,⟨t,rfl⟩,⟨t',rfl⟩⟩:=rN r
 refine min_two_ints (I.ok.hd hc) fun h' tk k=>⟨_,H,I.kept k,?_,q⟩
 by_cases hj:j<i
 ·rw [if_pos hj,if_pos hj];exact ⟨_,rfl⟩
 ·rw [if_neg hj,if_neg hj];exact ⟨_,rfl⟩
theorem xh:eA X (.type "int") (fun xs H Q=>(∃i,xs=[.int i]∧Q (.int i) H)∨∃k,xs=[.bl k]∧Q (.int (if k then 1 else 0)) H):=by
 intro pins s σ H xs us Q I r h
 rcases h with ⟨i,rfl,q⟩|⟨k,rfl,q⟩
 ·obtain ⟨u,rfl,t,rfl⟩:=gK r
  exact call_int_int ⟨.int i,H,I,⟨_,rfl⟩,q⟩
 ·obtain ⟨u,rfl,r1⟩:=gK r
  cases r1
  exact call_int_bool ⟨.int (if k then 1 else 0),H,I.tok _,⟨_,rfl⟩,q⟩
end
end L2
namespace L2
structure ObjM (h:Heap) (x dx C:Addr) (mA:Str→Option Value):Prop where
 obj:h.get? x=some (W.instObj C dx)
 ns:h.Ns1 dx mA
 ne:dx≠x
theorem wI {h:Heap} {dx:Addr} {mA:Str→Option Value} (n:h.Ns1 dx mA):∃od,h.get? dx=some od∧∀name,W.lookIn name od=some (mA name):=by
 obtain ⟨o,es,ep,ho,hd,hk,_,hm⟩:=n
 refine ⟨o,ho,fun name=>?_⟩
 have e:=hm name
 unfold nsFind findBy at e
 rw [←Array.find?_toList] at e
 unfold W.lookIn
 rw [hd]
 dsimp only
 split
 ·rename_i y q
  rw [q] at e
  exact congrArg some e
 ·rename_i q
  rw [q] at e
  have a:es.toList.any (·.refKey)=false:=by
   rw [List.any_eq_false]
   intro y hy
   obtain ⟨z,t,hkey⟩:=hk y (Array.mem_toList_iff.mp hy)
   simp [DictEntry.refKey,hkey]
  have a':¬es.toList.any (·.refKey)=true:=by rw [a];exact Bool.false_ne_true
  rw [if_neg a']
  exact congrArg some e
theorem ObjM.look {h:Heap} {x dx C:Addr} {mA:Str→Option Value} (I:ObjM h x dx C mA):∃od,W.InstAt h x (W.instObj C dx) C (some od)∧∀name,W.lookIn name od=some (mA name) :=
 let ⟨od,ho,hl⟩:=wI I.ns
 ⟨od,⟨I.obj,rfl,rfl,ho⟩,hl⟩
section
variable {prog:Program} {w:World} {A:Around} {E:Value→Shared→Prop} {s:Shared} {K:W.Frag} {x dx C f:Addr} {mA:Str→Option Value} {name:Str} {v:Value}
end
theorem RelO.some_of {v:V} {o:Option Value} (r:RelO (some v) o):∃u,o=some u∧RelV v u:=by
 cases o with
 | none=>exact (show False from r).elim
 | some u=>exact ⟨u,rfl,r⟩
section
variable {P:Program} {w:World} {H H':Hp} {h h':Heap} {a C dx:Addr} {fs fs':List (Str × V)}
theorem Cr (hok:HOk P w H h) (e:H a=some (.ins C dx fs)):∃mA,ObjM h a dx C mA∧(∀f,RelO (fs.lookup f) (mA f))∧PySem.Within mA (fs.map (·.1))∧fs.length≤1000∧H dx=some (.own a):=by
 obtain ⟨d,z,ne,ob,mA,n,r,q⟩:=(show ObjOk P w H h a (.ins C dx fs) from hok a _ e)
 exact ⟨mA,⟨ob,n,ne⟩,r,q,z,d⟩
end
structure Cls (K:W.Frag) (C:Addr):Prop where
 pg:W.plainGet K C Str.empty=true
 hd:W.hasDictIn K C=true
 po:W.plainOver K C=true
 sa:W.findIn K (.ref C) "__setattr__"=some (some (.builtin "object.__setattr__"))
theorem Cls.get {K:W.Frag} {C:Addr} (c:Cls K C) (f:Str):W.plainGet K C f=true:=c.pg
structure Con (K:W.Frag) (C:Addr) (f:Str) (v:V) (u:Value):Prop where
 at_:W.findIn K (.ref C) f=some (some u)
 rel:RelV v u
 get:W.specialIn K u "__get__"=some none
 cp:W.copiedNames.contains f=false
structure Hr (K:W.Frag) (C:Addr) (m:Str) (f:Addr):Prop where
 at_:W.findIn K (.ref C) m=some (some (.ref f))
 fn:W.isFn K (.ref f)=true
 kp:W.keepIn K (.ref f)=true
section
variable {X:Cx} {pins:List (Addr × Obj)} {σ:St} {H:Hp} {s:Shared} {a C dx:Addr} {fs:List (Str × V)} {f:Str} {v:V} {A:Around} {E:Value→Shared→Prop}
end
section
variable {X:Cx} {o e value:Expr} {f:Str} {pos pos' tpos:Pos} {ta tv:TE}
end
section
variable {X:Cx} {pins:List (Addr × Obj)} {σ:St} {H:Hp} {s:Shared} {A:Around} {E:Value→Shared→Prop} {Q:Value→Shared→Prop} {c:Value} {b:Bool}
inductive lI (K:W.Frag) (H:Hp):V→Value→Prop where
 | non:lI K H .non (.type "NoneType")
 | bl (x:Bool):lI K H (.bl x) (.type "bool")
 | int (i:Int):lI K H (.int i) (.type "int")
 | str (x:Str):lI K H (.str x) (.type "str")
 | flt (x:UInt64):lI K H (.flt x) (.type "float")
 | lst {a:Addr} {xs:List V} (e:H a=some (.lst xs)):lI K H (.ref a) (.type "list")
 | frz {a:Addr} {o:Obj} {xs:List V} (e:H a=some (.frz o (.lst xs))):lI K H (.ref a) (.type "list")
 | tup {a:Addr} {xs:List V} (e:H a=some (.tup xs)):lI K H (.ref a) (.type "tuple")
 | dK {a:Addr} {kvs:List (Key × V)} (e:H a=some (.dK kvs)):lI K H (.ref a) (.type "dict")
 | dT {a:Addr} {kvs:List (List Key × V)} (e:H a=some (.dT kvs)):lI K H (.ref a) (.type "dict")
 | ins {a C dx:Addr} {fs:List (Str × V)} (e:H a=some (.ins C dx fs)) (cl:Cls K C) (ha:W.findIn K (.ref C) "__class__"=some (some (.builtin "object.__class__")))
   (hn:W.specialIn K (.builtin "object.__class__") "__get__"=some (some (.builtin "getset_descriptor.__get__"))) (htk:W.takesIn K (.builtin "object.__class__")=some true)
   (hm:W.mroIn K C (.type "object")=some true):lI K H (.ref a) (.ref C)
theorem eJ {x:V} {u t:Value} (I:Inv X pins σ H s) (rx:RelV x u) (ty:lI X.K H x t) (e:W.kitOne X.K t c=some b) (h:∀tk,Q (.bool b) { s with toks:=tk }) :
  wpAny (model X.prog X.w) A (call (.builtin "isinstance") [u,c]) Q E s:=by
 cases ty with
 | non=>cases (show u=Value.none from rx);exact W.kia_one W.kitx_none I.kIn True.intro e (fun z=>nomatch z) h
 | bl y=>cases (show u=Value.bool y from rx);exact W.kia_one W.kitx_bool I.kIn True.intro e (fun z=>nomatch z) h
 | int i=>obtain ⟨t,q⟩:=(show ∃t,u=Value.int i t from rx);cases q;exact W.kia_one W.kitx_int I.kIn True.intro e (fun z=>nomatch z) h
 | str y=>obtain ⟨t,q⟩:=(show ∃t,u=Value.str y t from rx);cases q;exact W.kia_one W.kitx_str I.kIn True.intro e (fun z=>nomatch z) h
 | flt y=>obtain ⟨t,q⟩:=(show ∃t,u=Value.float y t from rx);cases q;exact W.kia_one W.kitx_float I.kIn True.intro e (fun z=>nomatch z) h
 | @lst a xs ea =>
  cases (show u=Value.ref a from rx)
  obtain ⟨_,_,n,_,h1⟩:=(show ObjOk X.prog X.w H s.heap a (.lst xs) from I.hok a _ ea)
  exact W.kia_one W.kitx_list I.kIn ⟨_,h1,rfl⟩ e (fun z=>nomatch z) h
 | @frz a ob xs ea =>
  cases (show u=Value.ref a from rx)
  obtain ⟨_,_,_,n,_,h1⟩:=(show ObjOk X.prog X.w H s.heap a (.frz ob (.lst xs)) from I.hok a _ ea)
  exact W.kia_one W.kitx_list I.kIn ⟨_,h1,rfl⟩ e (fun z=>nomatch z) h
 | @tup a xs ea =>
  cases (show u=Value.ref a from rx)
  obtain ⟨_,_,_,p⟩:=(show ObjOk X.prog X.w H s.heap a (.tup xs) from I.hok a _ ea)
  obtain ⟨o,h1,h2,_⟩:=p
  exact W.kia_one W.kitx_tuple I.kIn ⟨o,h1,h2⟩ e (fun z=>nomatch z) h
 | @dK a kvs ea =>
  cases (show u=Value.ref a from rx)
  obtain ⟨_,_,vs,_,p⟩:=(show ObjOk X.prog X.w H s.heap a (.dK kvs) from I.hok a _ ea)
  obtain ⟨o,es,ep,h1,h2,_⟩:=p
  exact W.kia_one W.kitx_dict I.kIn ⟨o,h1,h2.1⟩ e (fun z=>nomatch z) h
 | @dT a kvs ea =>
  cases (show u=Value.ref a from rx)
  obtain ⟨_,_,xs,_,o,es,ep,h1,h2,_⟩:=(show ObjOk X.prog X.w H s.heap a (.dT kvs) from I.hok a _ ea)
  exact W.kia_one W.kitx_dict I.kIn ⟨o,h1,h2.1⟩ e (fun z=>nomatch z) h
 | @ins a C dx fs ea cl ha hn htk hm =>
  cases (show u=Value.ref a from rx)
  obtain ⟨mA,O,_⟩:=Cr I.hok ea
  obtain ⟨od,J,_⟩:=O.look
  exact W.kia_one (W.kitx_own (cl.get _) cl.hd ha hn htk hm) I.kIn J e (fun z=>nomatch z) h
end
end L2
namespace L2
structure Room (k:Nat) (A:Around):Prop where
 hd:A.handled=none
 dp:A.depth+3*k+5<recursionLimit
 un:A.units+16*k+200<cLine
 gd:A.guards=some []
theorem Room.mono {j k:Nat} {A:Around} (r:Room k A) (h:j≤k):Room j A:=⟨r.hd,by have:=r.dp;omega,by have:=r.un;omega,r.gd⟩
theorem Room.deeper {k:Nat} {A:Around} (r:Room (k+1) A) (env:Env):Room k (A.deeper env) :=
 ⟨r.hd,by have:=r.dp;show A.depth+1+3*k+5<_;omega,by have:=r.un;show A.units+3+16*k+200<_;omega,r.gd⟩
theorem Room.depth {k:Nat} {A:Around} (r:Room k A):A.depth<recursionLimit:=by have:=r.dp;omega
theorem Room.units {k:Nat} {A:Around} (r:Room k A):A.units+64<cLine:=by have:=r.un;omega
noncomputable def wS:TA:=fun _ H Q=>Q [] H
noncomputable def nj (ta:TE) (tr:TA):TA:=fun σ H Q=>ta σ H fun x H1=>tr σ H1 fun xs H2=>Q (x::xs) H2
section
variable {X:Cx} {e:Expr} {es:List Expr} {te:TE} {t:TA} {pos:Pos}
theorem jI:PA X [] wS:=fun _ _ _ _ H Q I h=>Calls.spliced_nil ⟨[],H,I,.nil,h⟩
theorem B' (ha:PE X e te) (hr:PA X es t) (hs:starEach (e::es) X.env=(false,eval e X.env)::starEach es X.env:=by rfl):PA X (e::es) (nj te t):=by
 intro pos pins s σ H Q I h
 rw [hs]
 show wpAny _ _ (spliced ((false,eval e X.env)::backTo pos (starEach es X.env))) _ _ s
 refine Calls.spliced_cons (thn (ha pins s σ H _ I h) fun u s1 ⟨x,H1,I1,r1,q1⟩=>?_)
 exact thn (hr pos pins s1 σ H1 _ I1 q1) fun us s2 ⟨xs,H2,I2,r2,q2⟩=>⟨x::xs,H2,I2,.cons r1 r2,q2⟩
noncomputable def GJ (t:TA):TE:=fun σ H Q=>t σ H fun xs H1=>xs.length≤sizeLine∧∀p,H1 p=none→Q (.ref p) (upd H1 p (.tup xs))
noncomputable def GV (t:TA):TE:=fun σ H Q=>t σ H fun xs H1=>xs.length≤sizeLine∧∀p,H1 p=none→Q (.ref p) (upd H1 p (.lst xs))
theorem D7 {x1} (h:PA X es t):PE X (.Tuple es x1 pos) (GJ t):=by
 intro pins s σ H Q I hq
 refine wpAny_Tuple_spliced (thn (h pos pins s σ H _ I hq) fun us s1 ⟨xs,H1,I1,r,z,q⟩=>⟨by rw [←r.length];exact z,?_⟩)
 have hf:H1 s1.heap.objs.size=none:=I1.hok.fresh (Nat.le_refl _)
 refine ⟨.ref s1.heap.objs.size,upd H1 s1.heap.objs.size (.tup xs),I1.laid (t':=s1.toks) (fun b u e=>Heap.get?_push_of_some _ e) (Nat.le_refl _) ?_,rfl,q _ hf⟩
 exact ⟨z,us,r,⟨_,Heap.get?_push_size _ rfl,rfl,_,rfl⟩⟩
theorem Ef (h:PA X es t):PE X (.List es pos) (GV t):=by
 intro pins s σ H Q I hq
 refine wpAny_List_spliced (thn (h pos pins s σ H _ I hq) fun us s1 ⟨xs,H1,I1,r,z,q⟩=>⟨by rw [←r.length];exact z,?_⟩)
 have hf:H1 s1.heap.objs.size=none:=I1.hok.fresh (Nat.le_refl _)
 refine ⟨.ref s1.heap.objs.size,upd H1 s1.heap.objs.size (.lst xs),I1.laid (t':=s1.toks) (fun b u e=>Heap.get?_push_of_some _ e) (Nat.le_refl _) ?_,rfl,q _ hf⟩
 exact ⟨z,us,0,r,Heap.get?_push_size _ rfl⟩
end
noncomputable abbrev Sp:=List V→Hp→VK→XK→Prop
noncomputable abbrev CXT:=List Env→Hp→Shared→XK→Value→Shared→Prop
structure xf (P:Program) (w:World) (K:W.Frag) (mg:Str→Option Value) (base:Heap) (A:Around) (outer:List Env) (s:Shared) (H:Hp):Prop where
 frames:A.frames=some outer
 mod:Mod K mg base
 bs:∀b o,base.get? b=some o→s.heap.get? b=some o∧H b=none
 bsz:base.objs.size≤s.heap.objs.size
 funs:s.heap.FunFrames base outer
 frf:∀b∈frs outer,H b=none
 hok:HOk P w H s.heap
 bare:AllBare s.gens
noncomputable def CE (outer:List Env) (P:Program) (w:World) (H:Hp) (s:Shared) (Q:VK) (u:Value) (s':Shared):Prop :=
 ∃v H',s'.os=s.os∧AllBare s'.gens∧Un (frs outer) [] H H' s.heap s'.heap∧HOk P w H' s'.heap∧RelV v u∧Q v H'
noncomputable def CR (CX:CXT) (outer:List Env) (P:Program) (w:World) (H:Hp) (s:Shared) (Q:VK) (E:XK) (r:Result) (s':Shared):Prop :=
 match r with
 | .ok (.ret u)=>CE outer P w H s Q u s'
 | .ok _=>False
 | .error e=>CX outer H s E e s'
structure oa (P:Program) (w:World) (K:W.Frag) (mg:Str→Option Value) (base:Heap) (CX:CXT) (k:Nat) (f:Addr) (fd:FuncData) (ps:List Str) (sp:Sp):Prop where
 len:∀vs H Q E,sp vs H Q E→vs.length=ps.length
 run:∀(A:Around) (outer:List Env) (s:Shared) (H:Hp) (args:Args) (us:List Value) (vs:List V) (Q:VK) (E:XK),Room k A→xf P w K mg base A outer s H→BindsTo s fd args (ps.zip us)→Vals vs us→sp vs H Q E →
  codeAny (model P w) A (.call (.ref f) args) (CR CX outer P w H s Q E) s
section
variable {X:Cx} {pins:List (Addr × Obj)} {σ:St} {H:Hp} {s s':Shared}
theorem Inv.env0 (I:Inv X pins σ H s):xf X.prog X.w X.K X.mg X.base X.A X.stack s H :=
 ⟨I.ok.frames,I.ok.mod,I.bs,Nat.le_trans I.ok.bsz I.sz,I.stack,I.stkFree,I.hok,I.bare⟩
theorem Inv.after {Q:VK} {u:Value} (I:Inv X pins σ H s) (h:CE X.stack X.prog X.w H s Q u s'):EP X pins σ Q u s':=by
 obtain ⟨v,H',os,bare,un,hok,r,q⟩:=h
 obtain ⟨hh,g,d,t,os'⟩:=s'
 obtain rfl:os'=s.os:=os
 exact ⟨v,H',I.call (h':=hh) (g':=g) (d':=d) (t':=t) (ch:=[]) un hok bare (fun b z=>absurd z (by simp)),r,q⟩
end
noncomputable def oU (sp:Sp) (dvs:List V) (E:XK) (t:TA):TE:=fun σ H Q=>t σ H fun vs H1=>sp (vs++dvs) H1 Q E
noncomputable def Binds (K:W.Frag) (fd:FuncData) (ps:List Str) (ds:List Value):Prop :=
 ∀(s:Shared) (us:List Value),K.In s.heap→(us++ds).length=ps.length→BindsTo s fd ⟨us,[]⟩ (ps.zip (us++ds))
theorem Binds.all {K:W.Frag} {fd:FuncData} {ps:List Str} (h:∀us:List Value,us.length=ps.length→bindArgs fd ⟨us,[]⟩=pure (ps.zip us)):Binds K fd ps []:=fun s us _ hl=>by
 rw [List.append_nil] at hl ⊢
 exact .of_eq (h us hl)
noncomputable def qb (CX:CXT) (X:Cx) (E:XK):Prop:=∀(pins:List (Addr × Obj)) (σ:St) (H:Hp) (s:Shared) (e:Value) (s':Shared),Inv X pins σ H s→CX X.stack H s E e s'→X.xe e s'
section
variable {X:Cx} {CX:CXT} {k:Nat} {f C:Addr} {fd:FuncData} {ps:List Str} {sp:Sp} {dvs:List V} {ds:List Value} {E:XK} {x m:Str} {p pos apos:Pos} {e o:Expr} {es:List Expr} {ta:TE} {t:TA}
theorem yn {pins:List (Addr × Obj)} {σ:St} {H:Hp} {s:Shared} {Q:VK} {us:List Value} {vs:List V} (F:oa X.prog X.w X.K X.mg X.base CX k f fd ps sp) (hr:Room k X.A) (hb:Binds X.K fd ps ds) (hd:Vals dvs ds) (hx:qb CX X E)
  (I:Inv X pins σ H s) (r:Vals vs us) (h:sp (vs++dvs) H Q E):wpAny (model X.prog X.w) X.A (call (.ref f) us) (EP X pins σ Q) X.xe s:=by
 have r2:Vals (vs++dvs) (us++ds):=r.append hd
 have hl:(us++ds).length=ps.length:=by rw [←r2.length];exact F.len _ _ _ _ h
 refine wpAny_call (codeAny_mono (F.run X.A X.stack s H ⟨us,[]⟩ (us++ds) (vs++dvs) Q E hr I.env0 (hb s us I.kIn hl) r2 h) fun r s' hq=>?_)
 cases r with
 | error e=>exact hx pins σ H s e s' I hq
 | ok fl =>
  cases fl with
  | ret u=>exact I.after hq
  | next=>exact False.elim hq
  | brk=>exact False.elim hq
  | cont=>exact False.elim hq
theorem CH (F:oa X.prog X.w X.K X.mg X.base CX k f fd ps sp) (hr:Room k X.A) (hg:Gl X x) (hm:X.mg x=some (.ref f)) (hk:W.keepIn X.K (.ref f)=true) (hb:Binds X.K fd ps ds) (hd:Vals dvs ds) (hx:qb CX X E)
  (ha:PA X (e::es) t) (hdb:(x == ("__debug__":Str))=false:=by decide) (he:starEach (e::es) X.env=(false,eval e X.env)::starEach es X.env:=by rfl) (hpl:(backTo pos (starEach es X.env)).any (·.1)=false:=by rfl) :
  PE X (.Call (.Name x p) (e::es) [] pos) (oU sp dvs E t):=by
 intro pins s σ H Q I h
 refine wpAny_Call_Name_kw (rj I hg hm ?_ hdb)
 refine W.callWith_K (h₀:=X.base) I.ok.mod.kin hk (thn (ha pos pins s σ H _ I h) fun us s1 ⟨vs,H1,I1,r,q⟩=>⟨I1.kIn,?_⟩) he hpl
 exact yn F hr hb hd hx I1 r q
theorem yZ (F:oa X.prog X.w X.K X.mg X.base CX k f fd ps sp) (hr:Room k X.A) (hg:Gl X x) (hm:X.mg x=some (.ref f)) (hk:W.keepIn X.K (.ref f)=true) (hb:Binds X.K fd ps ds) (hd:Vals dvs ds) (hx:qb CX X E)
  (hdb:(x == ("__debug__":Str))=false:=by decide):PE X (.Call (.Name x p) [] [] pos) (oU sp dvs E wS):=by
 intro pins s σ H Q I h
 refine wpAny_Call_Name_kw (rj I hg hm ?_ hdb)
 exact W.callWith_K0 I.kIn hk (yn (us:=[]) F hr hb hd hx I .nil h)
structure Mk (K:W.Frag) (C f:Addr):Prop where
 makes:W.makesIn K C=true
 init:W.findIn K (.ref C) "__init__"=some (some (.ref f))
 fn:W.isFn K (.ref f)=true
 kp:W.keepIn K (.ref C)=true
end
section
variable {X:Cx} {CX:CXT} {k:Nat} {f C:Addr} {fd:FuncData} {ps ks:List Str} {sp:Sp} {E:XK} {x m:Str} {p pos apos kpos:Pos} {e o:Expr} {es:List Expr} {kws:List Keyword} {te ta:TE} {t tk:TA} {nm:Option Str}
structure Hi (K:W.Frag) (fd:FuncData) (ps ks:List Str) (g:List Value→List Value→List Value) (gV:List V→List V→List V):Prop where
 to:∀(s:Shared) (us ws:List Value),K.In s.heap→(g us ws).length=ps.length→BindsTo s fd ⟨us,ks.zip ws⟩ (ps.zip (g us ws))
 rel:∀ {vs:List V} {us:List Value} {zs:List V} {ws:List Value},Vals vs us→Vals zs ws→Vals (gV vs zs) (g us ws)
variable {g:List Value→List Value→List Value} {gV:List V→List V→List V}
end
structure ah (N P:List Str) (sc:Scope):Prop where
 kind:sc.kind=.function
 co:sc.isCoroutine=false
 gen:sc.isGenerator=false
 nd:N.Nodup
 pre:N.take P.length=P
 par:∀x∈P,sc.names.lookup x=some .local∨sc.names.lookup x=some .cell
 nofree:∀y∈sc.names,y.2≠.free
theorem o0 {kindOf:Str→Option NameKind} {x:Str}:∀ {binds:List (Str × Value)} {m:Str→Option Value},(∀v,(x,v) ∉ binds)→bindL kindOf binds m x=m x
 | [],_,_=>rfl
 | (n,v)::r,m,h=>by
  unfold bindL
  rw [o0 fun w hw=>h w (List.mem_cons_of_mem _ hw)]
  split
  ·have:x≠n:=by rintro rfl;exact h v List.mem_cons_self
   simp [this]
  ·rfl
theorem o5 {kindOf:Str→Option NameKind} {x:Str}:∀ {binds:List (Str × Value)} {m:Str→Option Value},(∀v,(x,v) ∉ binds)→bindC kindOf binds m x=m x
 | [],_,_=>rfl
 | (n,v)::r,m,h=>by
  unfold bindC
  rw [o5 fun w hw=>h w (List.mem_cons_of_mem _ hw)]
  split
  ·rfl
  ·have:x≠n:=by rintro rfl;exact h v List.mem_cons_self
   simp [this]
theorem pz {kindOf:Str→Option NameKind} {x:Str} {v:Value}:∀ {P:List Str} {vs:List Value} {i:Nat} {m:Str→Option Value},P.Nodup→P[i]?=some x→vs[i]?=some v→kindOf x=some .local →
  bindL kindOf (P.zip vs) m x=some v
 | [],_,_,_,_,h,_,_=>by simp at h
 | _::_,[],_,_,_,_,h,_=>by simp at h
 | p::P,w::vs,0,m,nd,h1,h2,hk=>by
  simp at h1 h2;subst h1;subst h2
  show bindL kindOf ((p,w)::P.zip vs) m p=_
  unfold bindL
  rw [o0 fun v hv=>(List.nodup_cons.mp nd).1 (List.of_mem_zip hv).1,if_pos hk]
  simp
 | p::P,w::vs,i+1,m,nd,h1,h2,hk=>by
  show bindL kindOf ((p,w)::P.zip vs) m x=_
  unfold bindL
  exact pz (i:=i) (List.nodup_cons.mp nd).2 (by simpa using h1) (by simpa using h2) hk
theorem o8 {kindOf:Str→Option NameKind} {x:Str} {v:Value}:∀ {P:List Str} {vs:List Value} {i:Nat} {m:Str→Option Value},P.Nodup→P[i]?=some x→vs[i]?=some v→kindOf x≠some .local →
  bindC kindOf (P.zip vs) m x=some v
 | [],_,_,_,_,h,_,_=>by simp at h
 | _::_,[],_,_,_,_,h,_=>by simp at h
 | p::P,w::vs,0,m,nd,h1,h2,hk=>by
  simp at h1 h2;subst h1;subst h2
  show bindC kindOf ((p,w)::P.zip vs) m p=_
  unfold bindC
  rw [o5 fun v hv=>(List.nodup_cons.mp nd).1 (List.of_mem_zip hv).1,if_neg hk]
  simp
 | p::P,w::vs,i+1,m,nd,h1,h2,hk=>by
  show bindC kindOf ((p,w)::P.zip vs) m x=_
  unfold bindC
  exact o8 (i:=i) (List.nodup_cons.mp nd).2 (by simpa using h1) (by simpa using h2) hk
noncomputable def start (N:List Str) (vs:List V):St:=vs.map some++List.replicate (N.length-vs.length) none
noncomputable def kE (CX:CXT) (P:Program) (w:World) (K:W.Frag) (mg:Str→Option Value) (base:Heap) (N:List Str) (qual:Str) (scope:Scope) (f:Addr) (cd:Value) (A:Around) (outer:List Env) (s:Shared) (H:Hp) (E:XK):Cx where
 prog:=P
 w:=w
 K:=K
 mg:=mg
 base:=base
 A:=A.deeper (envOfC qual scope s.heap.objs.size f cd)
 N:=N
 s₀:=s
 H₀:=H
 env:=envOfC qual scope s.heap.objs.size f cd
 outer:=outer
 stack:=envOfC qual scope s.heap.objs.size f cd::outer
 ex:=[]
 calm:=true
 fn:=fun _=>true
 pn:=[]
 xe:=fun e s'=>wpAny (model P w) (A.deeper (envOfC qual scope s.heap.objs.size f cd)) (leaving (envOfC qual scope s.heap.objs.size f cd) e) (fun _ s''=>CX outer H s E e s'') (fun e' s''=>CX outer H s E e' s'') s'
theorem sO {sc:Scope} {n:Nat} {x:Str} (h:sc.names.lookup x=some .cell):∃c,(cellsFrom n sc.names []).lookup x=some c:=by
 have q:=W.cellsFrom_some sc.names n [] (.inl h)
 exact Option.isSome_iff_exists.mp q
theorem xq {CX:CXT} {P:Program} {w:World} {K:W.Frag} {mg:Str→Option Value} {base:Heap} {N ps:List Str} {qual:Str} {scope:Scope} {f:Addr} {cd:Value} {A:Around} {outer:List Env} {s s1:Shared} {H:Hp} {E:XK} {us:List Value} {vs:List V}
  (S:ah N ps scope) (hd:A.handled=none) (e0:xf P w K mg base A outer s H) (hl:vs.length=ps.length) (r:Vals vs us)
  (x:InCallC s s.heap.objs.size (bindL (envOfC qual scope s.heap.objs.size f cd).kindOf (ps.zip us) fun _=>none) (cellsFrom (s.heap.objs.size+1) scope.names []) (bindC (envOfC qual scope s.heap.objs.size f cd).kindOf (ps.zip us) fun _=>none) s1) :
  Inv (kE CX P w K mg base N qual scope f cd A outer s H E) [] (start N vs) H s1:=by
 have hpl:ps.length≤N.length:=by have:=congrArg List.length S.pre;rw [List.length_take] at this;omega
 obtain ⟨h1,tk,rfl,hk⟩:=x.done
 have noA:∀b:Addr,b ∉ (kE CX P w K mg base N qual scope f cd A outer s H E).ex:=fun b z=>absurd (show b∈([]:List Addr) from z) (by simp)
 refine ⟨⟨e0.mod,S.kind,rfl,rfl,Nat.le_refl _,fun y z c h1 h2=>?_,fun y hy=>?_,fun y c _ h=>?_,fun _=>hd,Around.frames_deeper e0.frames,.inr ⟨rfl,rfl⟩,fun b z=>absurd z (noA b),e0.bs,e0.bsz,fun b _ _=>noA b,fun b z=>absurd z (noA b),e0.funs,e0.frf⟩,
  rfl,e0.bare,Un.kept hk,⟨_,x.toInCall.ns,fun i y v h1 h2 h3=>?_⟩,fun y c h=>⟨_,x.cell y c h⟩,e0.hok.fresh (Nat.le_refl _),fun y c h=>?_,fun p hp=>absurd (show p∈([]:List (Addr × Obj)) from hp) (by simp),e0.hok.kept hk,?_⟩
 ·exact name_of_addr x.apart (PySem.mem_of_lookup h1) (PySem.mem_of_lookup h2)
 ·have hy:scope.names.lookup y=some .cell∨scope.names.lookup y=some .free:=hy
  rcases hy with hy|hy
  ·exact sO hy
  ·exact absurd rfl (S.nofree _ (PySem.mem_of_lookup hy))
 ·exact Nat.le_of_lt (x.above y c (PySem.mem_of_lookup h))
 ·have hi:i<vs.length:=by
   unfold start at h2
   by_cases hi:i<vs.length
   ·exact hi
   ·rw [List.getElem?_append_right (by simpa using hi)] at h2
    rw [List.getElem?_replicate] at h2
    split at h2 <;> cases h2
  have ha:vs[i]?=some v:=by
   unfold start at h2
   rw [List.getElem?_append_left (by simpa using hi),List.getElem?_map] at h2
   cases e:vs[i]? with
   | none=>rw [e] at h2;cases h2
   | some a=>rw [e] at h2;cases h2;rfl
  obtain ⟨u,hu,rv⟩:=r.get ha
  have hp:ps[i]?=some y:=by
   rw [←S.pre,List.getElem?_take_of_lt (by omega)];exact h1
  have ndP:ps.Nodup:=by rw [←S.pre];exact S.nd.sublist (List.take_sublist _ _)
  refine ⟨u,rv,?_⟩
  rcases S.par y (List.mem_of_getElem? hp) with k|k
  ·exact .inl ⟨k,pz ndP hp hu k⟩
  ·obtain ⟨c,e⟩:=sO (n:=s.heap.objs.size+1) k
   refine .inr ⟨.inl k,c,e,?_⟩
   have q:=x.cell y c e
   rw [o8 ndP hp hu (by show scope.names.lookup y≠_;rw [k];decide)] at q
   exact q
 ·exact e0.hok.fresh (Nat.le_of_lt (x.above y c (PySem.mem_of_lookup h)))
 ·unfold start
  show _=N.length
  rw [List.length_append,List.length_map,List.length_replicate]
  omega
theorem FH {CX:CXT} {P:Program} {w:World} {K:W.Frag} {mg:Str→Option Value} {base:Heap} {k:Nat} {f:Addr} {name qual:Str} {params:Arguments} {body:List Stmt} {scope:Scope} {dV kV doc pm cdv ct oc:Value} {an od:Option Addr}
  {osl:Array (Option Value)} {N ps:List Str} {sp:Sp} (lk:K.lookup f=some ⟨oc,od,.func (W.fnOf name qual params body scope dV kV doc pm an cdv ct),osl⟩) (hcd:W.codeIn K cdv qual=true) (S:ah N ps scope)
  (len:∀vs H Q E,sp vs H Q E→vs.length=ps.length)
  (hbody:∀(A:Around) (outer:List Env) (s:Shared) (H:Hp) (vs:List V) (Q:VK) (E:XK),Room k (A.deeper (envOfC qual scope s.heap.objs.size f cdv))→sp vs H Q E →
   ∃t,PSs (kE CX P w K mg base N qual scope f cdv A outer s H E) body t∧t { nx:=fun _ H'=>Q .non H',rt:=Q } (start N vs) H) :
  oa P w K mg base CX (k+1) f (W.fnOf name qual params body scope dV kV doc pm an cdv ct) ps sp:=by
 refine ⟨len,fun A outer s H args us vs Q E hr e0 hb r hsp=>?_⟩
 have hl:=len _ _ _ _ hsp
 have KX:K.In s.heap:=e0.mod.kin.keeps fun b o e=>(e0.bs b o e).1
 have lim:s.heap.NoLimit:=e0.mod.nolimit.keeps fun b o e=>(e0.bs b o e).1
 have hkind:∀y∈ps.zip us,scope.names.lookup y.1=some .local∨(scope.names.lookup y.1=some .cell∧((cellsFrom (s.heap.objs.size+1) scope.names []).lookup y.1).isSome=true):=fun ⟨n,v⟩ hy=>by
  rcases S.par n (List.of_mem_zip hy).1 with q|q
  ·exact .inl q
  ·exact .inr ⟨q,W.cellsFrom_some _ _ _ (.inl q)⟩
 refine codeAny_call_function hr.depth (KX _ _ lk) rfl S.co S.gen rfl (W.codeRec_of KX hcd) (hb _ _ _ _ ?_)
 refine wpAny_newFunctionEnv_cells S.kind hkind fun env he s1 x=>?_
 subst he
 refine ⟨lim.keeps x.toInCall.keep,codeAny_func ?_⟩
 obtain ⟨t,ht,hq⟩:=hbody A outer s H vs Q E (hr.deeper _) hsp
 have I:Inv (kE CX P w K mg base N qual scope f cdv A outer s H E) [] (start N vs) H s1:=xq S hr.hd e0 hl r x
 refine wpAny_mono (ht [] s1 (start N vs) H _ I hq) (fun fl s' hs=>?_) fun e s' hs=>hs
 have fin:∀ {σ':St} {H':Hp} {v:V} {u:Value},Inv (kE CX P w K mg base N qual scope f cdv A outer s H E) [] σ' H' s'→RelV v u→Q v H'→CE outer P w H s Q u s' :=
  fun {σ' H' v u} J rv q=>⟨v,H',J.os,J.bare,J.base,J.hok,rv,q⟩
 cases fl with
 | ret u =>
  obtain ⟨v,σ',H',J,rv,q⟩:=hs
  exact fin J rv q
 | next =>
  obtain ⟨σ',H',J,q⟩:=hs
  exact fin (v:=V.non) (u:=Value.none) J rfl q
 | brk =>
  obtain ⟨_,_,_,q⟩:=hs
  exact False.elim q
 | cont =>
  obtain ⟨_,_,_,q⟩:=hs
  exact False.elim q
end L2
namespace L2
section
variable {X:Cx} {x:Str} {p pos:Pos} {e:Expr} {es:List Expr} {t:TA} {id T:String} {r:List V→Hp→VK→Prop}
noncomputable def tCB (r:List V→Hp→VK→Prop) (t:TA):TE:=fun σ H Q=>t σ H fun vs H1=>r vs H1 Q
theorem yj (hc:eA X (.builtin id) r) (hg:Gl X x) (hm:X.mg x=none) (hv:bootBuiltins x=some (.builtin id)) (ha:PA X (e::es) t) (hn:x≠"__name__":=by decide) (hdb:(x == ("__debug__":Str))=false:=by decide)
  (he:starEach (e::es) X.env=(false,eval e X.env)::starEach es X.env:=by rfl) (hpl:(backTo pos (starEach es X.env)).any (·.1)=false:=by rfl):PE X (.Call (.Name x p) (e::es) [] pos) (tCB r t):=by
 intro pins s σ H Q I h
 refine wpAny_Call_Name_kw (mV I hg hm hv ?_ hn hdb)
 exact PyProof.Rows.callWith_builtin1 (thn (ha pos pins s σ H _ I h) fun us s1 ⟨vs,H1,I1,r1,q1⟩=>hc pins s1 σ H1 vs us Q I1 r1 q1) he hpl
theorem wU (hc:eA X (.type T) r) (hg:Gl X x) (hm:X.mg x=none) (hv:bootBuiltins x=some (.type T)) (ha:PA X (e::es) t) (hn:x≠"__name__":=by decide) (hdb:(x == ("__debug__":Str))=false:=by decide)
  (he:starEach (e::es) X.env=(false,eval e X.env)::starEach es X.env:=by rfl) (hpl:(backTo pos (starEach es X.env)).any (·.1)=false:=by rfl):PE X (.Call (.Name x p) (e::es) [] pos) (tCB r t):=by
 intro pins s σ H Q I h
 refine wpAny_Call_Name_kw (mV I hg hm hv ?_ hn hdb)
 exact PyProof.Rows.callWith_type1 (thn (ha pos pins s σ H _ I h) fun us s1 ⟨vs,H1,I1,r1,q1⟩=>hc pins s1 σ H1 vs us Q I1 r1 q1) he hpl
end
end L2
namespace HT
open PySem PyProof.Rows
section
open PySem.SeqAt
open PySem.AutoSeq1 (wpAny_loadPart')
open PySem.MeetsSeq PySem.MeetsSeq2 PySem.MeetsSeq3
end
section
variable {prog:Program} {w:World} {A:Around} {E:Value→Shared→Prop} {s:Shared}
theorem cat_tup {t b:Addr} {vs ws:List Value} {Q:Value→Shared→Prop} (ht:IsTup s.heap t vs.toArray) (hb:IsTup s.heap b ws.toArray) (hv:vs≠[])
  (h1:ws=[]→Q (.ref t) s) (h2:ws≠[]→Q (.ref s.heap.objs.size) { s with heap:=s.heap.push { cls:=.type "tuple",data:=.seq (vs++ws).toArray } })
  (hsz:vs.length+ws.length≤sizeLine):wpAny (model prog w) A (binaryOp .Add (.ref t) (.ref b)) Q E s:=by
 obtain ⟨⟨cls,dd,data,sl⟩,ho,hc,n,hd⟩:=id ht
 obtain ⟨⟨cls2,dd2,data2,sl2⟩,ho2,hc2,n2,hd2⟩:=id hb
 simp only at hc hd hc2 hd2
 subst hc hd hc2 hd2
 have e:vs.toArray++ws.toArray=(vs++ws).toArray:=by simp
 by_cases hw:ws=[]
 ·exact concat_meets ⟨_,ho,rfl⟩ ⟨_,ho2,rfl⟩ noFill_tuple_add seq_tuple_add PySem.F.slot_tuple_add PySem.F.entry_tuple_add (PySem.F.args_tuple_add_2 _ _)
   (tuple_addW1 t b vs.toArray ws.toArray n n2 dd dd2 sl sl2 (by simpa using hv) (by simp [hw])) ⟨ho,ho2,h1 hw⟩
 ·refine concat_meets ⟨_,ho,rfl⟩ ⟨_,ho2,rfl⟩ noFill_tuple_add seq_tuple_add PySem.F.slot_tuple_add PySem.F.entry_tuple_add (PySem.F.args_tuple_add_2 _ _)
   (tuple_addW2 t b vs.toArray ws.toArray n n2 dd dd2 sl sl2 (by simpa using hv) (by simpa using hw) (by rw [List.size_toArray,List.size_toArray];exact hsz)) ⟨ho,ho2,?_⟩
  rw [e]
  exact h2 hw
noncomputable def sIx (n d:Nat):Option Int→Nat
 | none=>d
 | some v=>if v<0 then (v+(n:Int)).toNat else min v.toNat n
theorem sIx_none (n d:Nat):sIx n d none=d:=rfl
theorem sIx_nat (n d k:Nat):sIx n d (some (k:Int))=min k n:=by
 show (if (k:Int)<0 then ((k:Int)+(n:Int)).toNat else min (k:Int).toNat n)=min k n
 rw [if_neg (by omega),Int.toNat_natCast]
theorem EO (n d:Nat) (hd:d≤n) (o:Option Int):sIx n d o≤n:=by
 cases o with
 | none=>exact hd
 | some v =>
  show (if v<0 then (v+(n:Int)).toNat else min v.toNat n)≤n
  by_cases hv:v<0
  ·rw [if_pos hv];omega
  ·rw [if_neg hv];exact Nat.min_le_right _ _
theorem vY (v:Int) (n d:Nat):(if v<0 then max (v+(n:Int)) 0 else min v (n:Int))=((sIx n d (some v):Nat):Int):=by
 show (if v<0 then max (v+(n:Int)) 0 else min v (n:Int))=(((if v<0 then (v+(n:Int)).toNat else min v.toNat n):Nat):Int)
 by_cases hv:v<0
 ·simp only [if_pos hv];omega
 ·simp only [if_neg hv];omega
theorem uZ (lo hi:Option Int) (n:Nat):Builtin.Slice.sliceAdjust lo hi 1 (n:Int)=(((sIx n 0 lo:Nat):Int),((sIx n n hi:Nat):Int)):=by
 have h1:¬((1:Int)<0):=by omega
 unfold Builtin.Slice.sliceAdjust
 simp only [h1,if_false]
 refine Prod.ext ?_ ?_
 ·cases lo with
  | none=>rfl
  | some v=>exact vY v n 0
 ·cases hi with
  | none=>rfl
  | some v=>exact vY v n n
theorem tS (i j:Nat):Builtin.Slice.slicePlaces (i:Int) (j:Int) 1=j-i:=by
 unfold Builtin.Slice.slicePlaces
 have h1:(1:Int) > 0:=by omega
 simp only [h1,if_true,Int.ediv_one]
 split <;> omega
theorem mh {v:Value} {o:Option Int} {Q:Option Int→Shared→Prop} (p:IsPart v o) (h:Q o s):wpAny (model prog w) A (Builtin.Slice.slicePartIndex v) Q E s:=by
 cases p with
 | none=>exact slicePart_none h
 | int i t=>exact slicePart_int h
theorem sliceApplied_gen {sl:Addr} {vl vu:Value} {lo hi:Option Int} {n:Nat} {Q:Int × Int × Nat→Shared→Prop} (hs:s.heap.IsSliceOf sl vl vu .none) (pl:IsPart vl lo) (pu:IsPart vu hi)
  (h:Q (((sIx n 0 lo:Nat):Int),1,sIx n n hi-sIx n 0 lo) s):wpAny (model prog w) A (Builtin.Slice.sliceApplied (.ref sl) (pure (n:Int))) Q E s:=by
 obtain ⟨os,hos,hcs,hds⟩:=id hs
 unfold Builtin.Slice.sliceApplied Builtin.Slice.sliceFields
 refine wpAny_bind (wpAny_bind (wpAny_field hos hds (x:=vl) rfl (wpAny_bind (wpAny_field hos hds (x:=vu) rfl (wpAny_bind (wpAny_field hos hds (x:=.none) rfl (wpAny_pure ?_)))))))
 refine wpAny_bind (slicePart_none ?_)
 show wpAny _ _ (if ((1:Int) == 0)=true then _ else _) _ _ s
 rw [if_neg (by decide)]
 refine wpAny_bind (mh pl (wpAny_bind (mh pu (wpAny_bind (wpAny_pure ?_)))))
 show wpAny _ _ (match Builtin.Slice.sliceAdjust lo hi 1 (n:Int) with|(lo,hi)=>pure (lo,(1:Int),Builtin.Slice.slicePlaces lo hi 1)) _ _ s
 rw [uZ lo hi n]
 show wpAny _ _ (pure (((sIx n 0 lo:Nat):Int),(1:Int),Builtin.Slice.slicePlaces ((sIx n 0 lo:Nat):Int) ((sIx n n hi:Nat):Int) 1)) _ _ s
 rw [tS]
 exact wpAny_pure h
theorem zH (xs:Array Value) (i k:Nat):((List.range k).filterMap fun (m:Nat)=>xs[((i:Int)+(m:Int)*1).toNat]?).toArray=((xs.toList.drop i).take k).toArray:=by
 have e:(fun (m:Nat)=>xs[((i:Int)+(m:Int)*1).toNat]?)=fun m=>xs[i+m]?:=by
  funext m
  have:((i:Int)+(m:Int)*1).toNat=i+m:=by omega
  rw [this]
 rw [e]
 have:=pick_run xs i k
 rw [List.filterMap_map] at this
 have e2:((fun x=>xs[x]?) ∘ fun x=>i+x)=fun m=>xs[i+m]?:=rfl
 rw [e2] at this
 rw [this]
theorem getItem_tuple_cut {t sl:Addr} {items:Array Value} {vl vu:Value} {lo hi:Option Int} {Q:Value→Shared→Prop} (ht:IsTup s.heap t items) (hs:s.heap.IsSliceOf sl vl vu .none) (pl:IsPart vl lo) (pu:IsPart vu hi)
  (hw:¬(sIx items.size 0 lo=0∧sIx items.size items.size hi=items.size))
  (h:Q (.ref s.heap.objs.size) { s with heap:=s.heap.push { cls:=.type "tuple",data:=.seq ((items.toList.drop (sIx items.size 0 lo)).take (sIx items.size items.size hi-sIx items.size 0 lo)).toArray } })
  (hsz:items.size≤sizeLine):wpAny (model prog w) A (getItem (.ref t) (.ref sl)) Q E s:=by
 have htake:sizeOk (.seq ((items.toList.drop (sIx items.size 0 lo)).take (sIx items.size items.size hi-sIx items.size 0 lo)).toArray):=by
  show ((items.toList.drop (sIx items.size 0 lo)).take (sIx items.size items.size hi-sIx items.size 0 lo)).toArray.size≤sizeLine
  rw [List.size_toArray,List.length_take,List.length_drop,Array.length_toList]
  omega
 have hj:sIx items.size items.size hi≤items.size:=EO _ _ (Nat.le_refl _) hi
 obtain ⟨os,hos,hcs,hds⟩:=id hs
 have hTs:s.TypeIs (.ref sl) "slice":=⟨os,hos,hcs⟩
 unfold getItem
 try with_reducible refine wpAny_holding ?_
 first|refine wpAny_bind (wpAny_pure ?_)|skip
 refine wpAny_bind (wpAny_sequenceKey ht.typeIs (by decide) ?_)
 refine wpAny_bind (wpAny_callSpecial?_slot (name:=Str.ofString "__getitem__") ht.typeIs PyProof.Rows.slot_tuple_getitem
  (wpAny_call_entry PyProof.Rows.slot_tuple_getitem ht.typeIs entry_tuple_getitem ?_ (args_tuple_getitem _ _)))
 show wpAny _ _ (Builtin.Tuple.tupleItemsOf (.ref t) >>= _) _ _ s
 refine wpAny_bind (tupleItemsOf_ ht ?_)
 refine wpAny_bind (wpAny_typeOf hTs ?_)
 rw [if_pos (by decide)]
 refine wpAny_bind (sliceApplied_gen hs pl pu ?_)
 have hno:¬((((sIx items.size 0 lo:Nat):Int) == 0 && (1:Int) == 1 && (sIx items.size items.size hi-sIx items.size 0 lo) == items.size)=true):=by
  intro q
  rw [Bool.and_eq_true,Bool.and_eq_true] at q
  have q1:((sIx items.size 0 lo:Nat):Int)=0:=eq_of_beq q.1.1
  have q2:sIx items.size items.size hi-sIx items.size 0 lo=items.size:=eq_of_beq q.2
  exact hw ⟨by omega,by omega⟩
 show wpAny _ _ (if (((sIx items.size 0 lo:Nat):Int) == 0 && (1:Int) == 1 && (sIx items.size items.size hi-sIx items.size 0 lo) == items.size)=true then _ else _) _ _ s
 rw [if_neg hno,zH]
 first
  | exact wpAny_bind (m:=Builtin.Tuple.tupleExact _) (wpAny_newObj_type (wpAny_pure ⟨_,rfl,wpAny_pure h⟩) htake)
  | exact wpAny_bind (m:=Builtin.Tuple.tupleExact _) (wpAny_newObj_type (wpAny_bind (wpAny_pure (wpAny_pure ⟨_,rfl,wpAny_pure h⟩))) htake)
  | exact wpAny_bind (wpAny_bind (m:=Builtin.Tuple.tupleExact _) (wpAny_newObj_type (wpAny_pure (wpAny_pure ⟨_,rfl,wpAny_pure h⟩)) htake))
  | exact wpAny_bind (wpAny_bind (m:=Builtin.Tuple.tupleExact _) (wpAny_newObj_type (wpAny_pure ⟨_,rfl,wpAny_pure h⟩) htake))
end
end HT
namespace L2
noncomputable abbrev TO:=St→Hp→(Option Int→Hp→Prop)→Prop
noncomputable def PO (X:Cx) (e:Option Expr) (t:TO):Prop :=
 ∀(pins:List (Addr × Obj)) (s:Shared) (σ:St) (H:Hp) (Q:Option Int→Hp→Prop),Inv X pins σ H s→t σ H Q →
  wpAny (model X.prog X.w) X.A (evalPart e X.env) (fun u s'=>∃o H',Inv X pins σ H' s'∧IsPart u o∧Q o H') X.xe s
noncomputable def CG:TO:=fun _ H Q=>Q none H
noncomputable def F' (t:TE):TO:=fun σ H Q=>t σ H fun x H1=>∃i,x=.int i∧Q (some i) H1
section
variable {X:Cx} {e:Expr} {te:TE} {lo hi:Option Expr} {tl th:TO} {pos p2:Pos}
theorem BT:PO X none CG:=by
 intro pins s σ H Q I h
 rw [evalPart_none]
 exact wpAny_pure ⟨none,H,I,.none,h⟩
theorem B_ (h:PE X e te):PO X (some e) (F' te):=by
 intro pins s σ H Q I hw
 rw [evalPart_some]
 refine thn (h pins s σ H _ I hw) fun u s1 ⟨x,H1,I1,r1,q1⟩=>?_
 obtain ⟨i,rfl,q⟩:=q1
 obtain ⟨t,rfl⟩:=r1
 exact ⟨some i,H1,I1,.int i t,q⟩
noncomputable def SlR (X:Cx) (r:V→Option Int→Option Int→Hp→VK→Prop):Prop :=
 ∀(pins:List (Addr × Obj)) (s:Shared) (σ:St) (H:Hp) (x:V) (v vl vu:Value) (lo hi:Option Int) (sl:Addr) (Q:VK),Inv X pins σ H s→RelV x v→s.heap.IsSliceOf sl vl vu .none→IsPart vl lo→IsPart vu hi→r x lo hi H Q →
  ∃T id,typeLookup (.type T) "__getitem__"=pure (some (.builtin id))∧s.TypeIs v T∧wpAny (model X.prog X.w) X.A (getItem v (.ref sl)) (EP X pins σ Q) X.xe s
noncomputable def tSl (r:V→Option Int→Option Int→Hp→VK→Prop) (te:TE) (tl th:TO):TE:=fun σ H Q=>te σ H fun x H1=>tl σ H1 fun l H2=>th σ H2 fun u H3=>r x l u H3 Q
theorem Bg {r:V→Option Int→Option Int→Hp→VK→Prop} (hr:SlR X r) (he:PE X e te) (hl:PO X lo tl) (hu:PO X hi th):PE X (.Subscript e (.Slice lo hi none p2) pos) (tSl r te tl th):=by
 intro pins s σ H Q I h
 refine Subscript_ (thn (he pins s σ H _ I h) fun v s1 ⟨x,H1,I1,r1,q1⟩=>?_)
 refine wpAny_Slice (thn (hl pins s1 σ H1 _ I1 q1) fun vl s2 ⟨l,H2,I2,pl,q2⟩=>thn (hu pins s2 σ H2 _ I2 q2) fun vu s3 ⟨u,H3,I3,pu,q3⟩=>?_)
 rw [evalPart_none]
 refine wpAny_pure ?_
 have I4:Inv X pins σ H3 { s3 with heap:=s3.heap.push { cls:=.type "slice",data:=.fields #[vl,vu,.none] } }:=I3.kept (t':=s3.toks) fun b ob q=>Heap.get?_push_of_some _ q
 obtain ⟨T,id,hT,ht,hg⟩:=hr pins { s3 with heap:=s3.heap.push { cls:=.type "slice",data:=.fields #[vl,vu,.none] } } σ H3 x v vl vu l u s3.heap.objs.size Q I4 r1 (Heap.IsSliceOf.new ..) pl pu q3
 show wpAny (model X.prog X.w) X.A (subscriptTail e (.Slice lo hi none p2) v (.ref s3.heap.objs.size)) (EP X pins σ Q) X.xe { s3 with heap:=s3.heap.push { cls:=.type "slice",data:=.fields #[vl,vu,.none] } }
 exact tail_any (ops:=[.ref s3.heap.objs.size,v]) ht hT hg (by with_unfolding_all rfl)
noncomputable def nU (xs:List V) (lo hi:Option Int):List V:=(xs.drop (HT.sIx xs.length 0 lo)).take (HT.sIx xs.length xs.length hi-HT.sIx xs.length 0 lo)
theorem lj (xs:List V) (lo hi:Option Int):(nU xs lo hi).length≤xs.length:=by
 unfold nU
 rw [List.length_take,List.length_drop]
 omega
noncomputable def G_ (K:W.Frag):V→Option Int→Option Int→Hp→VK→Prop:=fun x lo hi H Q=>∃a xs,x=.ref a∧SqT K H a xs ∧
 ¬(HT.sIx xs.length 0 lo=0∧HT.sIx xs.length xs.length hi=xs.length)∧∀p,H p=none→Q (.ref p) (upd H p (.tup (nU xs lo hi)))
theorem EC:SlR X (G_ X.K):=by
 intro pins s σ H x v vl vu lo hi sl Q I rx hs pl pu h
 obtain ⟨a,xs,rfl,hx,hw,q⟩:=h
 cases rx
 obtain ⟨its,r,ht,hz⟩:=I.tuple hx
 have hlen:its.toArray.size=xs.length:=by rw [List.size_toArray];exact r.length.symm
 refine ⟨"tuple",_,PyProof.Rows.slot_tuple_getitem.lookup,ht.typeIs,?_⟩
 refine HT.getItem_tuple_cut ht hs pl pu (by rw [hlen];exact hw) ?_ (by rw [hlen];exact hz)
 rw [hlen]
 refine ⟨.ref s.heap.objs.size,_,I.laid (t':=s.toks) (o:=.tup (nU xs lo hi)) (fun b ob q=>Heap.get?_push_of_some _ q) (Nat.le_refl _) ?_,rfl,q _ (I.hok.fresh (Nat.le_refl _))⟩
 exact ⟨Nat.le_trans (lj xs lo hi) hz,_,(r.drop (HT.sIx xs.length 0 lo)).take (HT.sIx xs.length xs.length hi-HT.sIx xs.length 0 lo),IsTup.new _ _⟩
noncomputable def FT (K:W.Frag):R2:=fun x y H Q=>∃a b xs ys,x=.ref a∧y=.ref b∧SqT K H a xs∧SqT K H b ys∧xs≠[]∧xs.length+ys.length≤sizeLine ∧
 (ys=[]→Q (.ref a) H)∧(ys≠[]→∀p,H p=none→Q (.ref p) (upd H p (.tup (xs++ys))))
theorem Vals.nil_iff {xs:List V} {us:List Value} (r:Vals xs us):us=[]↔xs=[]:=by
 cases r with
 | nil=>simp
 | cons _ _=>simp
theorem BI:OpR X (binaryOp .Add) (FT X.K):=by
 intro pins s σ H x y v u Q I rx ry h
 obtain ⟨a,b,xs,ys,rfl,rfl,ha,hb,hx,hz,q1,q2⟩:=h
 cases rx
 cases ry
 obtain ⟨its,r1,p1,_⟩:=I.tuple ha
 obtain ⟨its2,r2,p2,_⟩:=I.tuple hb
 refine HT.cat_tup p1 p2 (fun z=>hx (r1.nil_iff.mp z)) (fun z=>⟨.ref a,H,I,rfl,q1 (r2.nil_iff.mp z)⟩) (fun z=>?_) (by rw [←r1.length,←r2.length];exact hz)
 refine ⟨.ref s.heap.objs.size,_,I.laid (t':=s.toks) (o:=.tup (xs++ys)) (fun b ob q=>Heap.get?_push_of_some _ q) (Nat.le_refl _) ?_,rfl,q2 (fun w=>z (r2.nil_iff.mpr w)) _ (I.hok.fresh (Nat.le_refl _))⟩
 exact ⟨by rw [List.length_append];exact hz,_,r1.append r2,IsTup.new _ _⟩
end
end L2
namespace L2
noncomputable def ixN (n:Nat) (i:Int):Option Nat:=if 0≤i then (if i<n then some i.toNat else none) else if -(n:Int)≤i then some (i+n).toNat else none
noncomputable def atI {α:Type} (xs:List α) (i:Int):Option α:=(ixN xs.length i).bind fun j=>xs[j]?
theorem wa {n:Nat} {i:Int} {j:Nat} (h:ixN n i=some j):seqIndex? i n=some j∧j<n∧-(n:Int)≤i∧i<n:=by
 unfold ixN at h
 by_cases h0:0≤i
 ·rw [if_pos h0] at h
  by_cases h1:i<n
  ·rw [if_pos h1] at h
   have e:i.toNat=j:=Option.some.inj h
   exact ⟨by rw [seqIndex_of h0 h1,e],by omega,by omega,h1⟩
  ·rw [if_neg h1] at h;cases h
 ·rw [if_neg h0] at h
  by_cases h1:-(n:Int)≤i
  ·rw [if_pos h1] at h
   have e:(i+n).toNat=j:=Option.some.inj h
   exact ⟨by rw [seqIndex_neg (by omega) h1,e],by omega,h1,by omega⟩
  ·rw [if_neg h1] at h;cases h
theorem pH {α:Type} {xs:List α} {i:Int} {v:α} (h:atI xs i=some v):∃j,seqIndex? i xs.length=some j∧xs[j]?=some v∧j<xs.length∧-(xs.length:Int)≤i∧i<xs.length:=by
 unfold atI at h
 cases e:ixN xs.length i with
 | none=>rw [e] at h;cases h
 | some j =>
  rw [e] at h
  obtain ⟨h1,h2,h3,h4⟩:=wa e
  exact ⟨j,h1,h,h2,h3,h4⟩
theorem f' {α:Type} {xs:List α} {j:Nat} {v:α} (h:xs[j]?=some v):atI xs (j:Int)=some v:=by
 have hj:j<xs.length:=(List.getElem?_eq_some_iff.mp h).1
 have e:ixN xs.length (j:Int)=some j:=by
  unfold ixN
  rw [if_pos (by omega),if_pos (by omega)];simp
 unfold atI;rw [e];exact h
noncomputable def wb (b:Expr):Prop:=∀o i,subscripted b false o i=operate [o,i] (getItem o i)
noncomputable def IxR (X:Cx) (r:R2):Prop :=
 ∀(value slice:Expr) (pins:List (Addr × Obj)) (s:Shared) (σ:St) (H:Hp) (x y:V) (v u:Value) (Q:VK),Inv X pins σ H s→RelV x v→RelV y u→r x y H Q →
  subscripted slice false v u=operate [v,u] (getItem v u)→wpAny (model X.prog X.w) X.A (subscriptTail value slice v u) (EP X pins σ Q) X.xe s
noncomputable def MtR (X:Cx) (id:String) (r:V→List V→Hp→VK→Prop):Prop :=
 ∀(pins:List (Addr × Obj)) (s:Shared) (σ:St) (H:Hp) (x:V) (xs:List V) (v:Value) (us:List Value) (Q:VK),Inv X pins σ H s→RelV x v→Vals xs us→r x xs H Q →
  wpAny (model X.prog X.w) X.A (call (.builtin id) (v::us)) (EP X pins σ Q) X.xe s
section
variable {X:Cx} {a b:Expr} {ta tb:TE} {pos:Pos}
theorem F2 {r:R2} (hr:IxR X r) (ha:PE X a ta) (hb:PE X b tb) (hs:wb b):PE X (.Subscript a b pos) (tOp r ta tb):=by
 intro pins s σ H Q I h
 exact Subscript_ (EE ha hb I h fun v u s2 x y H2 I2 rx ry q=>hr a b pins s2 σ H2 x y v u Q I2 rx ry q (hs _ _))
noncomputable def GK (K:W.Frag):R2:=fun x y H Q=>∃p xs i v,x=.ref p∧y=.int i∧SqL K H p xs∧atI xs i=some v∧Q v H
noncomputable def GH (K:W.Frag):R2:=fun x y H Q=>∃p xs i v,x=.ref p∧y=.int i∧SqT K H p xs∧atI xs i=some v∧Q v H
noncomputable def GG:R2:=fun x y H Q=>∃z i c,x=.str z∧y=.int i∧z.length≤sizeLine∧atI z.cps.toList i=some c∧Q (.str ⟨#[c]⟩) H
theorem CK:IxR X (GK X.K):=by
 intro value slice pins s σ H x y v u Q I rx ry h hs
 obtain ⟨p,xs,i,z,rfl,rfl,hq,he,q⟩:=h
 cases rx
 obtain ⟨t,rfl⟩:=ry
 obtain ⟨its,r,pl,hz⟩:=I.list hq
 obtain ⟨j,h1,h2,h3,h4,h5⟩:=pH he
 obtain ⟨w,ew,rw'⟩:=r.get h2
 have hl:=r.length
 have hn:=iQ
 have fin:EP X pins σ Q w s:=⟨z,H,I,rw',q⟩
 by_cases h0:0≤i
 ·have hj:i.toNat=j:=by
   rw [seqIndex_of h0 h5] at h1
   exact Option.some.inj h1
  exact item_listR pl.isList h0 (by omega) (by rw [hj];simpa using ew) fin hs
 ·have hj:(i+(its.toArray.size:Int)).toNat=j:=by
   rw [seqIndex_neg (by omega) h4] at h1
   rw [List.size_toArray,←hl]
   exact Option.some.inj h1
  exact subscriptTail_builtinR (x:=w) pl.isList.typeIs slot_list_getitem.lookup
   (wpAny_getItem_list_neg (Q:=fun r s'=>r=w∧EP X pins σ Q r s') pl.isList (by omega) (by rw [List.size_toArray] <;> omega) (by omega) (by rw [hj];simpa using ew) ⟨rfl,fin⟩) hs
theorem Dt:IxR X (GH X.K):=by
 intro value slice pins s σ H x y v u Q I rx ry h hs
 obtain ⟨p,xs,i,z,rfl,rfl,hq,he,q⟩:=h
 cases rx
 obtain ⟨t,rfl⟩:=ry
 obtain ⟨its,r,pl,hz⟩:=I.tuple hq
 obtain ⟨j,h1,h2,h3,h4,h5⟩:=pH he
 obtain ⟨w,ew,rw'⟩:=r.get h2
 have hl:=r.length
 have hn:=iQ
 have fin:EP X pins σ Q w s:=⟨z,H,I,rw',q⟩
 exact subscriptTail_builtinR (x:=w) pl.typeIs slot_tuple_getitem.lookup
  (getItem_tuple (j:=j) (Q:=fun r s'=>r=w∧EP X pins σ Q r s') pl (by omega) (by omega) (by rw [List.size_toArray,←hl];exact h1) (by simpa using ew) ⟨rfl,fin⟩) hs
theorem DE:IxR X GG:=by
 intro value slice pins s σ H x y v u Q I rx ry h hs
 obtain ⟨z,i,c,rfl,rfl,hz,he,q⟩:=h
 obtain ⟨t,rfl⟩:=rx
 obtain ⟨t',rfl⟩:=ry
 obtain ⟨j,h1,h2,h3,h4,h5⟩:=pH he
 have hl:z.cps.toList.length=z.length:=by simp [Str.length]
 rw [hl] at h1 h4 h5
 have hn:=iQ
 exact tail_any (typeIs_str s z t) slot_str_getitem.lookup (getItem_str (c:=c) (by
  have e1:decide (i < -(2 ^ 63:Int))=false:=decide_eq_false (by omega)
  have e2:decide (i ≥ 2 ^ 63)=false:=decide_eq_false (by omega)
  rw [e1,e2,Bool.or_false]) (by rw [h1];simpa using h2) ⟨.str ⟨#[c]⟩,H,I.tok _,⟨_,rfl⟩,q⟩) hs
theorem uD (its:List Value) (n j:Nat) (u:Value):Obj.mapSeq (·.setIfInBounds j u) { cls:=.type "list",data:=.seq its.toArray n }={ cls:=.type "list",data:=.seq (its.set j u).toArray n }:=by
 simp [Obj.mapSeq]
theorem Inv.lst {pins:List (Addr × Obj)} {σ:St} {H:Hp} {s:Shared} {p:Addr} {xs:List V} (I:Inv X pins σ H s) (h:H p=some (.lst xs)) :
  ∃(its:List Value) (n:Nat),Vals xs its∧s.heap.get? p=some { cls:=.type "list",data:=.seq its.toArray n }∧xs.length≤sizeLine:=by
 obtain ⟨z,its,n,r,e⟩:=I.hok p _ h
 exact ⟨its,n,r,e,z⟩
theorem Inv.lstUpd {pins:List (Addr × Obj)} {σ:St} {H:Hp} {s:Shared} {p:Addr} {xs ys:List V} {its its':List Value} {n n':Nat} {f:Obj→Obj} (I:Inv X pins σ H s) (h:H p=some (.lst xs))
  (ho:s.heap.get? p=some { cls:=.type "list",data:=.seq its.toArray n }) (hf:f { cls:=.type "list",data:=.seq its.toArray n }={ cls:=.type "list",data:=.seq its'.toArray n' }) (r:Vals ys its') (hz:ys.length≤sizeLine) (t:Nat) :
  Inv X pins σ (upd H p (.lst ys)) { s with heap:=s.heap.update p f,toks:=t }:=by
 have e:(s.heap.update p f).get? p=some { cls:=.type "list",data:=.seq its'.toArray n' }:=by
  rw [Heap.get?_update_self f ho (by rw [hf] <;> rfl),hf]
 refine I.write (x:=p) (e:=p) (by rw [h];trivial) (.inl rfl) (fun b u hb q=>(Heap.get?_update_other _ _ (Ne.symm hb)).trans q) ⟨_,e⟩ ?_
 exact ⟨hz,its',n',r,e⟩
noncomputable def FC:V→V→V→Hp→(Hp→Prop)→Prop:=fun o i v H Q=>∃p xs k j,o=.ref p∧i=.int k∧H p=some (.lst xs)∧ixN xs.length k=some j∧Q (upd H p (.lst (xs.set j v)))
theorem yU:ES X FC:=by
 intro pins s σ H o i v ov iv u Q I ro ri rv h
 obtain ⟨p,xs,k,j,rfl,rfl,hp,hj,q⟩:=h
 cases ro
 obtain ⟨t,rfl⟩:=ri
 obtain ⟨its,n,r,ho,hz⟩:=I.lst hp
 obtain ⟨h1,h2,h3,h4⟩:=wa hj
 have hl:=r.length
 have hn:=iQ
 have I':Inv X pins σ (upd H p (.lst (xs.set j v))) { s with heap:=s.heap.update p (Obj.mapSeq (·.setIfInBounds j u)) } :=
  I.lstUpd hp ho (uD its n j u) (r.set rv j) (by rw [List.length_set];exact hz) s.toks
 by_cases h0:0≤k
 ·have hk:k.toNat=j:=by
   rw [seqIndex_of h0 h4] at h1
   exact Option.some.inj h1
  exact W.ki_setAt ho h0 (by omega) (by rw [List.size_toArray,←hl];exact h4) (by rw [hk];exact ⟨_,I',q⟩)
 ·have hk:(k+(its.toArray.size:Int)).toNat=j:=by
   rw [seqIndex_neg (by omega) h3] at h1
   rw [List.size_toArray,←hl]
   exact Option.some.inj h1
  exact W.ki_setBack ho (by omega) (by rw [List.size_toArray,←hl];exact h3) (by omega) (by rw [hk];exact ⟨_,I',q⟩)
theorem qi (lo hi:Option Int) (n:Nat):(sliceBounds lo hi none n).1=((HT.sIx n 0 lo:Nat):Int)∧(sliceBounds lo hi none n).2.1=((HT.sIx n n hi:Nat):Int)∧(sliceBounds lo hi none n).2.2=1:=by
 refine ⟨?_,?_,rfl⟩
 ·cases lo with
  | none=>simp [sliceBounds,HT.sIx]
  | some i =>
   simp only [sliceBounds,HT.sIx,Option.getD_none,show (1:Int) > 0 by decide,if_true]
   by_cases h:i<0
   ·simp only [h,if_true] <;> omega
   ·simp only [h,if_false] <;> omega
 ·cases hi with
  | none=>simp [sliceBounds,HT.sIx]
  | some i =>
   simp only [sliceBounds,HT.sIx,Option.getD_none,show (1:Int) > 0 by decide,if_true]
   by_cases h:i<0
   ·simp only [h,if_true] <;> omega
   ·simp only [h,if_false] <;> omega
theorem n_ (its:List Value) (lo hi:Option Int):slicePick its.toArray lo hi none=((its.drop (HT.sIx its.length 0 lo)).take (HT.sIx its.length its.length hi-HT.sIx its.length 0 lo)).toArray:=by
 obtain ⟨h1,h2,h3⟩:=qi lo hi its.toArray.size
 unfold slicePick
 rw [h1,h2,h3]
 simp only [sliceRange_one,pick_run,List.size_toArray] <;> rfl
noncomputable def GA (K:W.Frag):V→Option Int→Option Int→Hp→VK→Prop:=fun x lo hi H Q=>∃a xs,x=.ref a∧SqL K H a xs∧∀p,H p=none→Q (.ref p) (upd H p (.lst (nU xs lo hi)))
theorem BL:SlR X (GA X.K):=by
 intro pins s σ H x v vl vu lo hi sl Q I rx hs pl pu h
 obtain ⟨a,xs,rfl,hx,q⟩:=h
 cases rx
 obtain ⟨its,r,ht,hz⟩:=I.list hx
 have hlen:=r.length
 refine ⟨"list",_,slot_list_getitem.lookup,ht.isList.typeIs,?_⟩
 refine wpAny_getItem_list_slice ht.isList hs pl pu .none (by simp) ?_ (by rw [List.size_toArray] <;> omega)
 rw [n_,←hlen]
 refine ⟨.ref s.heap.objs.size,_,I.laid (t':=s.toks) (o:=.lst (nU xs lo hi)) (fun b ob q=>Heap.get?_push_of_some _ q) (Nat.le_refl _) ?_,rfl,q _ (I.hok.fresh (Nat.le_refl _))⟩
 exact ⟨Nat.le_trans (lj xs lo hi) hz,_,0,(r.drop (HT.sIx xs.length 0 lo)).take (HT.sIx xs.length xs.length hi-HT.sIx xs.length 0 lo),Heap.get?_push_size _ rfl⟩
noncomputable def iq:V→Bool
 | .non=>true
 | .bl _=>true
 | .int _=>true
 | .str _=>true
 | _=>false
noncomputable def eqV:V→V→Bool
 | .non,.non=>true
 | .bl a,.bl b=>a == b
 | .bl a,.int b=>(if a then 1 else 0) == b
 | .int a,.bl b=>a == (if b then 1 else 0)
 | .int a,.int b=>a == b
 | .str a,.str b=>a == b
 | _,_=>false
theorem Eo {A:Around} {s:Shared} {y x:V} {u v:Value} (ry:RelV y u) (rx:RelV x v) (fy:iq y=true) (fx:iq x=true):SeqAt.EqAt A s u v (eqV y x):=by
 cases y with
 | non =>
  cases ry
  cases x with
  | non=>cases rx;exact SeqAt.EqAt.same _
  | bl b=>cases rx;exact SeqAt.EqAt.none_bool b
  | int b=>obtain ⟨t,rfl⟩:=rx;exact SeqAt.EqAt.none_int b t
  | str b=>obtain ⟨t,rfl⟩:=rx;exact SeqAt.EqAt.none_str b t
  | _=>exact absurd (show false=true from fx) Bool.false_ne_true
 | bl a =>
  cases ry
  cases x with
  | non=>cases rx;exact SeqAt.EqAt.bool_none a
  | bl b=>cases rx;exact SeqAt.EqAt.bool_bool a b
  | int b=>obtain ⟨t,rfl⟩:=rx;exact SeqAt.EqAt.bool_int a b t
  | str b=>obtain ⟨t,rfl⟩:=rx;exact SeqAt.EqAt.bool_str a b t
  | _=>exact absurd (show false=true from fx) Bool.false_ne_true
 | int a =>
  obtain ⟨t',rfl⟩:=ry
  cases x with
  | non=>cases rx;exact SeqAt.EqAt.int_none a t'
  | bl b=>cases rx;exact SeqAt.EqAt.int_bool a t' b
  | int b=>obtain ⟨t,rfl⟩:=rx;exact SeqAt.EqAt.int_int a t' b t
  | str b=>obtain ⟨t,rfl⟩:=rx;exact SeqAt.EqAt.int_str a t' b t
  | _=>exact absurd (show false=true from fx) Bool.false_ne_true
 | str a =>
  obtain ⟨t',rfl⟩:=ry
  cases x with
  | non=>cases rx;exact SeqAt.EqAt.str_none a t'
  | bl b=>cases rx;exact SeqAt.EqAt.str_bool a t' b
  | int b=>obtain ⟨t,rfl⟩:=rx;exact SeqAt.EqAt.str_int a t' b t
  | str b=>obtain ⟨t,rfl⟩:=rx;exact SeqAt.EqAt.str_str a t' b t
  | _=>exact absurd (show false=true from fx) Bool.false_ne_true
 | _=>exact absurd (show false=true from fy) Bool.false_ne_true
noncomputable def eqU (x:V) (u:Value):Bool:=match u with
 | .none=>eqV .non x
 | .bool b=>eqV (.bl b) x
 | .int i _=>eqV (.int i) x
 | .str z _=>eqV (.str z) x
 | _=>false
theorem y7 {x y:V} {u:Value} (r:RelV y u) (f:iq y=true):eqU x u=eqV y x:=by
 cases y with
 | non=>cases r;rfl
 | bl b=>cases r;rfl
 | int i=>obtain ⟨t,rfl⟩:=r;rfl
 | str z=>obtain ⟨t,rfl⟩:=r;rfl
 | _=>exact absurd (show false=true from f) Bool.false_ne_true
theorem i7 {x:V}:∀ {xs:List V} {us:List Value},Vals xs us→xs.all iq=true→us.any (eqU x)=xs.any fun y=>eqV y x
 | _,_,.nil,_=>rfl
 | y::xs,u::us,.cons r t,f=>by
  rw [List.all_cons,Bool.and_eq_true] at f
  rw [List.any_cons,List.any_cons,y7 r f.1,i7 t f.2]
theorem gA {A:Around} {s:Shared} {x:V} {v:Value} (rx:RelV x v) (fx:iq x=true):∀ {xs:List V} {us:List Value},Vals xs us→xs.all iq=true→∀u∈us,SeqAt.EqAt A s u v (eqU x u)
 | _,_,.nil,_=>fun u hu=>by cases hu
 | y::xs,u::us,.cons r t,f=>fun u' hu=>by
  rw [List.all_cons,Bool.and_eq_true] at f
  rcases List.mem_cons.mp hu with rfl|hu
  ·rw [y7 r f.1];exact Eo r rx f.1 fx
  ·exact gA rx fx t f.2 u' hu
noncomputable def inV (x:V) (xs:List V):Bool:=xs.any fun y=>eqV y x
noncomputable def rIn (K:W.Frag) (neg:Bool):R2:=fun x y H Q=>∃p xs,y=.ref p∧(SqL K H p xs∨SqT K H p xs)∧iq x=true∧xs.all iq=true∧Q (.bl (if neg then !inV x xs else inV x xs)) H
theorem ku:OpR X (compareOp .In) (rIn X.K false):=by
 intro pins s σ H x y v u Q I rx ry h
 obtain ⟨p,xs,rfl,hq,fx,fs,q⟩:=h
 cases ry
 rcases hq with hq|hq
 ·obtain ⟨its,r,pl,hz⟩:=I.list hq
  refine SeqAt.in_listAt (eqU x) pl.isList (fun w hw=>gA rx fx r fs w (by simpa using hw)) ⟨.bl _,H,I,rfl,?_⟩
  rw [show its.toArray.any (eqU x)=its.any (eqU x) by simp,i7 r fs]
  exact q
 ·obtain ⟨its,r,pl,hz⟩:=I.tuple hq
  refine SeqAt.in_tupleAt (eqU x) pl (fun w hw=>gA rx fx r fs w (by simpa using hw)) ⟨.bl _,H,I,rfl,?_⟩
  rw [show its.toArray.any (eqU x)=its.any (eqU x) by simp,i7 r fs]
  exact q
theorem fQ:OpR X (compareOp .NotIn) (rIn X.K true):=by
 intro pins s σ H x y v u Q I rx ry h
 obtain ⟨p,xs,rfl,hq,fx,fs,q⟩:=h
 cases ry
 rcases hq with hq|hq
 ·obtain ⟨its,r,pl,hz⟩:=I.list hq
  refine SeqAt.notIn_listAt (eqU x) pl.isList (fun w hw=>gA rx fx r fs w (by simpa using hw)) ⟨.bl _,H,I,rfl,?_⟩
  rw [show its.toArray.any (eqU x)=its.any (eqU x) by simp,i7 r fs]
  exact q
 ·obtain ⟨its,r,pl,hz⟩:=I.tuple hq
  refine SeqAt.notIn_tupleAt (eqU x) pl (fun w hw=>gA rx fx r fs w (by simpa using hw)) ⟨.bl _,H,I,rfl,?_⟩
  rw [show its.toArray.any (eqU x)=its.any (eqU x) by simp,i7 r fs]
  exact q
theorem qz:eA X (.builtin "len") (fun xs H Q=>∃p ys,xs=[.ref p]∧(SqL X.K H p ys∨SqT X.K H p ys)∧Q (.int ys.length) H):=by
 intro pins s σ H xs us Q I r h
 obtain ⟨p,ys,rfl,hq,q⟩:=h
 obtain ⟨u,rfl,rx⟩:=gK r
 cases rx
 have hn:=iQ
 rcases hq with hq|hq
 ·obtain ⟨its,r',pl,hz⟩:=I.list hq
  have hlen:=r'.length
  exact Calls.call_len_list pl.isList (by simp only [List.size_toArray] <;> omega) ⟨.int ys.length,H,I.tok _,⟨s.toks+1,by rw [List.size_toArray,hlen]⟩,q⟩
 ·obtain ⟨its,r',pl,hz⟩:=I.tuple hq
  have hlen:=r'.length
  exact len_tuple pl (by simp only [List.size_toArray] <;> omega) ⟨.int ys.length,H,I.tok _,⟨s.toks+1,by rw [List.size_toArray,hlen]⟩,q⟩
theorem q_:eA X (.builtin "len") (fun xs H Q=>∃z,xs=[.str z]∧z.length≤sizeLine∧Q (.int z.length) H):=by
 intro pins s σ H xs us Q I r h
 obtain ⟨z,rfl,hz,q⟩:=h
 obtain ⟨u,rfl,t,rfl⟩:=gK r
 have hn:=iQ
 exact len_str (by omega) ⟨.int z.length,H,I.tok _,⟨_,rfl⟩,q⟩
theorem p8:eA X (.type "list") (fun xs H Q=>∃p ys,xs=[.ref p]∧(SqL X.K H p ys∨SqT X.K H p ys)∧∀l,H l=none→Q (.ref l) (upd H l (.lst ys))):=by
 intro pins s σ H xs us Q I r h
 obtain ⟨p,ys,rfl,hq,q⟩:=h
 obtain ⟨u,rfl,rx⟩:=gK r
 cases rx
 have fin:∀(its:List Value),Vals ys its→ys.length≤sizeLine→∀(h':Heap) (c':Nat),(∀b o',s.heap.get? b=some o'→h'.get? b=some o') →
   h'.get? s.heap.objs.size=some { cls:=.type "list",dict:=none,data:=.seq its.toArray c',slots:=#[] }→EP X pins σ Q (.ref s.heap.objs.size) { s with heap:=h' }:=fun its r' hz h' c' kp e =>
  ⟨.ref s.heap.objs.size,_,I.laid (t':=s.toks) kp (Nat.le_refl _) (show ObjOk X.prog X.w _ h' _ (.lst ys) from ⟨hz,its,c',r',e⟩),rfl,q _ (I.hok.fresh (Nat.le_refl _))⟩
 rcases hq with hq|hq
 ·obtain ⟨its,r',pl,hz⟩:=I.list hq
  have hlen:=r'.length
  obtain ⟨o,ho,hc,n,hd⟩:=pl.isList
  exact call_list_seq p (.inl rfl) ho hc hd (fun h' c' kp e=>fin its r' hz h' c' kp e) (by simp only [List.size_toArray] <;> omega)
 ·obtain ⟨its,r',pl,hz⟩:=I.tuple hq
  have hlen:=r'.length
  obtain ⟨o,ho,hc,n,hd⟩:=pl
  exact call_list_seq p (.inr rfl) ho hc hd (fun h' c' kp e=>fin its r' hz h' c' kp e) (by simp only [List.size_toArray] <;> omega)
theorem oz:eA X (.type "tuple") (fun xs H Q=>∃p ys,xs=[.ref p]∧((SqL X.K H p ys∧∀l,H l=none→Q (.ref l) (upd H l (.tup ys)))∨(SqT X.K H p ys∧Q (.ref p) H))):=by
 intro pins s σ H xs us Q I r h
 obtain ⟨p,ys,rfl,h⟩:=h
 obtain ⟨u,rfl,rx⟩:=gK r
 cases rx
 rcases h with ⟨hq,q⟩|⟨hq,q⟩
 ·obtain ⟨its,r',pl,hz⟩:=I.list hq
  have hlen:=r'.length
  refine call_tuple_list pl.isList (fun h' kp=>?_) (by simp only [List.size_toArray] <;> omega)
  have I1:Inv X pins σ H { s with heap:=h' }:=I.kept (t':=s.toks) kp
  have I2:Inv X pins σ (upd H h'.objs.size (.tup ys)) { s with heap:=h'.push { cls:=.type "tuple",data:=.seq its.toArray } } :=
   I1.laid (t':=s.toks) (fun b o e=>Heap.get?_push_of_some _ e) (Nat.le_refl _) (show ObjOk X.prog X.w _ _ _ (.tup ys) from ⟨hz,its,r',IsTup.new _ _⟩)
  exact ⟨.ref h'.objs.size,_,I2,rfl,q _ (I1.hok.fresh (Nat.le_refl _))⟩
 ·obtain ⟨its,r',pl,hz⟩:=I.tuple hq
  exact call_tuple_same pl ⟨.ref p,H,I,rfl,q⟩
noncomputable def tyV (K:W.Frag) (T:String) (x:V) (H:Hp):Prop:=match x with
 | .str _=>T="str"
 | .int _=>T="int"
 | .ref p=>(T="list"∧∃xs,SqL K H p xs)∨(T="tuple"∧∃o,K.lookup p=some o∧o.cls=.type "tuple"∧o.dict=none) ∨
   (T="dict"∧((∃kvs,H p=some (.dK kvs))∨∃kvs,H p=some (.dT kvs)))∨(T="set"∧∃S n,H p=some (.set S n))
 | _=>False
theorem Ad {pins:List (Addr × Obj)} {σ:St} {H:Hp} {s:Shared} {T:String} {x:V} {v:Value} (I:Inv X pins σ H s) (r:RelV x v) (ty:tyV X.K T x H) :
  s.TypeIs v T∧∀a,v=.ref a→∃ob,s.heap.get? a=some ob∧ob.dict=none:=by
 cases x with
 | str z =>
  obtain ⟨t,rfl⟩:=r
  cases (show T="str" from ty)
  exact ⟨typeIs_str s z t,fun _ e=>nomatch e⟩
 | int i =>
  obtain ⟨t,rfl⟩:=r
  cases (show T="int" from ty)
  exact ⟨typeIs_int s i t,fun _ e=>nomatch e⟩
 | ref p =>
  cases r
  rcases ty with ⟨rfl,xs,hq⟩|⟨rfl,o,hk,hc,hd⟩|⟨rfl,hk⟩|⟨rfl,S,n,hk⟩
  ·obtain ⟨its,_,pl,_⟩:=I.list hq
   refine ⟨pl.isList.typeIs,fun a e=>?_⟩
   cases e
   obtain ⟨o,n,e,c,hd,_⟩:=pl
   exact ⟨o,e,hd⟩
  ·refine ⟨⟨o,I.kIn p o hk,hc⟩,fun a e=>?_⟩
   cases e
   exact ⟨o,I.kIn _ o hk,hd⟩
  ·have z:∃o,s.heap.get? p=some o∧o.ExactDict:=by
    rcases hk with ⟨kvs,hk⟩|⟨kvs,hk⟩
    ·obtain ⟨_,_,_,_,o,_,_,e,ex,_⟩:=I.hok p _ hk
     exact ⟨o,e,ex⟩
    ·obtain ⟨_,_,_,_,o,_,_,e,ex,_⟩:=I.hok p _ hk
     exact ⟨o,e,ex⟩
   obtain ⟨o,e,ex⟩:=z
   refine ⟨⟨o,e,ex.1⟩,fun a e2=>?_⟩
   cases e2
   exact ⟨o,e,ex.2.1⟩
  ·obtain ⟨o,_,_,_,e,ex,_⟩:=I.hok p _ hk
   refine ⟨⟨o,e,ex.1⟩,fun a e2=>?_⟩
   cases e2
   exact ⟨o,e,ex.2.1⟩
 | _=>exact False.elim ty
noncomputable def GR (K:W.Frag) (T:String) (r:V→List V→Hp→VK→Prop) (to:TE):TE:=fun σ H Q=>to σ H fun x H1=>tyV K T x H1∧r x [] H1 Q
noncomputable def tBM (K:W.Frag) (T:String) (r:V→List V→Hp→VK→Prop) (to:TE) (t:TA):TE:=fun σ H Q=>to σ H fun x H1=>tyV K T x H1∧t σ H1 fun xs H2=>r x xs H2 Q
variable {o e:Expr} {es:List Expr} {to:TE} {t:TA} {name:Str} {apos cpos:Pos} {T id:String} {r:V→List V→Hp→VK→Prop}
theorem uq (pa:PlainAttrs T) (slot:Slot T name id) (hty:typeOf (.builtin id)=pure (.type "method_descriptor")) (hm:MtR X id r) (ho:PE X o to)
  (hbase:attributeBase o name X.env (eval o X.env)=eval o X.env:=by rfl) (hline:(apos.endLine == cpos.line)=true:=by rfl):PE X (.Call (.Attribute o name apos) [] [] cpos) (GR X.K T r to):=by
 intro pins s σ H Q I h
 refine wpAny_Call_method0_late hbase hline (thn (ho pins s σ H _ I h) fun v s1 ⟨x,H1,I1,r1,ty,q1⟩=>?_)
 obtain ⟨h1,h2⟩:=Ad I1 r1 ty
 exact ⟨T,id,pa,slot,hty,h1,h2,Calls.callWith_builtin rfl (PySem.evalArgs_none (hm pins s1 σ H1 x [] v [] Q I1 r1 .nil q1))⟩
theorem CN (pa:PlainAttrs T) (slot:Slot T name id) (hty:typeOf (.builtin id)=pure (.type "method_descriptor")) (hm:MtR X id r) (ho:PE X o to) (ha:PA X (e::es) t)
  (hbase:attributeBase o name X.env (eval o X.env)=eval o X.env:=by rfl)
  (hfew:((backTo cpos (starEach (e::es) X.env)).all (fun x=>!x.1) && (backToKw cpos (keywordEach [] X.env)).all (fun x=>x.1.isSome)
   && decide ((e::es).length+([]:List Keyword).length+(if ([]:List Keyword).isEmpty then 0 else 1)<30))=true:=by rfl)
  (hline:(apos.endLine == cpos.line)=true:=by rfl) (hs:starEach (e::es) X.env=(false,eval e X.env)::starEach es X.env:=by rfl) (hplain:(backTo cpos (starEach es X.env)).any (·.1)=false:=by rfl) :
  PE X (.Call (.Attribute o name apos) (e::es) [] cpos) (tBM X.K T r to t):=by
 intro pins s σ H Q I h
 refine wpAny_Call_method_late hbase hfew hline rfl (thn (ho pins s σ H _ I h) fun v s1 ⟨x,H1,I1,r1,ty,q1⟩=>?_)
 obtain ⟨h1,h2⟩:=Ad I1 r1 ty
 refine ⟨T,id,pa,slot,hty,h1,h2,?_⟩
 have hA:=ha cpos pins s1 σ H1 _ I1 q1
 rw [hs] at hA ⊢
 refine Calls.callWith_builtin (by show (false || (backTo cpos (starEach es X.env)).any (·.1))=false;rw [hplain] <;> rfl) (Calls.evalArgs_plain ?_)
 exact thn hA fun us s2 ⟨vs,H2,I2,r2,q2⟩=>hm pins s2 σ H2 x vs v us Q I2 r1 r2 q2
end
end L2
namespace L2
noncomputable def MtM (X:Cx) (id:String) (r:V→List V→Hp→VK→Prop):Prop :=
 ∀(pins:List (Addr × Obj)) (s:Shared) (σ:St) (H:Hp) (x:V) (xs:List V) (v:Value) (us:List Value) (Q:VK),Inv X pins σ H s→RelV x v→Vals xs us→r x xs H Q →
  wpAny (model X.prog X.w) X.A (call (.builtin id) (v::us)) (EP X pins σ Q) X.xe s
theorem Vals.one:∀ {x:V} {us:List Value},Vals [x] us→∃u,us=[u]∧RelV x u
 | _,_,.cons r .nil=>⟨_,rfl,r⟩
theorem Vals.rep {xs:List V} {us:List Value} (h:Vals xs us):∀k:Nat,Vals (List.replicate k xs).flatten (List.replicate k us).flatten
 | 0=>.nil
 | k+1=>by
  rw [List.replicate_succ,List.replicate_succ,List.flatten_cons,List.flatten_cons]
  exact Vals.append h (Vals.rep h k)
theorem oO (its:List Value):∀(k:Nat) (acc:List Value),
  List.foldl (fun x1 x2=>x1++x2) acc.toArray (List.replicate k its.toArray)=(acc++(List.replicate k its).flatten).toArray
 | 0,acc=>by simp
 | k+1,acc=>by
  have e:acc.toArray++its.toArray=(acc++its).toArray:=by simp
  have e2:(acc++its)++(List.replicate k its).flatten=acc++(List.replicate (k+1) its).flatten:=by
   rw [List.replicate_succ,List.flatten_cons,List.append_assoc]
  rw [←e2,←oO its k (acc++its),←e,List.replicate_succ,List.foldl_cons]
section
variable {X:Cx} {pins:List (Addr × Obj)} {σ:St} {H:Hp} {s:Shared} {l b:Addr} {xs ys zs:List V}
theorem Inv.lset {its its':List Value} {n:Nat} {f:Array Value→Array Value} {t':Nat} (I:Inv X pins σ H s) (hH:H l=some (.lst xs))
  (e:s.heap.get? l=some { cls:=.type "list",data:=.seq its.toArray n }) (hf:f its.toArray=its'.toArray) (hv:Vals ys its') (hz:ys.length≤sizeLine) :
  Inv X pins σ (upd H l (.lst ys)) { s with heap:=s.heap.update l (Obj.mapSeq f),toks:=t' }:=by
 have q:=PySem.IsL.update e f
 rw [hf] at q
 refine I.write (x:=l) (e:=l) (by rw [hH];exact trivial) (.inl rfl) (fun b' u hb hu=>(Heap.get?_update_other s.heap (Obj.mapSeq f) (Ne.symm hb)).trans hu) ⟨_,q⟩ ?_
 exact ⟨hz,its',_,hv,q⟩
theorem Inv.lnew {its:List Value} {t':Nat} (I:Inv X pins σ H s) (hv:Vals ys its) (hz:ys.length≤sizeLine) :
  Inv X pins σ (upd H s.heap.objs.size (.lst ys)) { s with heap:=s.heap.push { cls:=.type "list",data:=.seq its.toArray },toks:=t' } :=
 I.laid (fun _ _ q=>Heap.get?_push_of_some _ q) (Nat.le_refl _) ⟨hz,its,0,hv,Heap.get?_push_size _ rfl⟩
theorem Inv.fresh (I:Inv X pins σ H s):H s.heap.objs.size=none:=I.hok.fresh (Nat.le_refl _)
theorem Inv.lstM (I:Inv X pins σ H s) (hH:H l=some (.lst xs)):xs.length≤sizeLine∧∃(its:List Value) (n:Nat),Vals xs its∧xs.length=its.length∧s.heap.get? l=some { cls:=.type "list",data:=.seq its.toArray n }:=by
 obtain ⟨z,its,n,r,e⟩:=I.hok l _ hH
 exact ⟨z,its,n,r,r.length,e⟩
theorem Ah {n:Nat} (h:n≤sizeLine):Builtin.List.listTooLong n=false:=by
 unfold Builtin.List.listTooLong
 exact decide_eq_false (by omega)
end
section
variable {X:Cx}
noncomputable def Cu:V→List V→Hp→VK→Prop:=fun x vs H Q=>∃l xs y,x=.ref l∧vs=[y]∧H l=some (.lst xs)∧xs.length<sizeLine∧Q .non (upd H l (.lst (xs++[y])))
theorem oZ:MtM X "list.append" Cu:=by
 intro pins s σ H x vs v us Q I rx rv h
 obtain ⟨l,xs,y,rfl,rfl,hH,hz,q⟩:=h
 cases rx
 obtain ⟨u,rfl,ru⟩:=rv.one
 obtain ⟨z,its,n,r,hl,e⟩:=I.lstM hH
 refine call_meets F.slot_list_append ⟨_,e,rfl⟩ F.entry_list_append (F.args_list_append_2 _ _) (PySem.list_append l its.toArray n u (by rw [List.size_toArray];omega)) ⟨e,?_⟩
 refine ⟨.non,_,I.lset (its':=its++[u]) hH e (by simp) (r.append (.cons ru .nil)) ?_,rfl,q⟩
 rw [List.length_append,List.length_singleton]
 omega
noncomputable def GM:R2:=fun x y H Q=>∃l b xs zs,x=.ref l∧y=.ref b∧H l=some (.lst xs)∧H b=some (.lst zs)∧xs.length+zs.length≤sizeLine∧∀p,H p=none→Q (.ref p) (upd H p (.lst (xs++zs)))
theorem D6:OpR X (binaryOp .Add) GM:=by
 intro pins s σ H x y v u Q I rx ry h
 obtain ⟨l,b,xs,zs,rfl,rfl,hH,hB,hz,q⟩:=h
 cases rx
 cases ry
 obtain ⟨z,its,n,r,hl,e⟩:=I.lstM hH
 obtain ⟨z2,its2,n2,r2,hl2,e2⟩:=I.lstM hB
 refine PySem.P.add_list e e2 ?_ (by rw [List.size_toArray,List.size_toArray];omega)
 have ea:its.toArray++its2.toArray=(its++its2).toArray:=by simp
 rw [ea]
 exact ⟨.ref _,_,I.lnew (t':=s.toks) (r.append r2) (by rw [List.length_append];omega),rfl,q _ I.fresh⟩
noncomputable def Hk:R2:=fun x y H Q=>∃l k xs,x=.ref l∧y=.int k∧H l=some (.lst xs)∧-(2 ^ 63)≤k∧k<2 ^ 63∧xs.length*k.toNat≤sizeLine ∧
 ∀p,H p=none→Q (.ref p) (upd H p (.lst (List.replicate k.toNat xs).flatten))
theorem B9 {α:Type} (xs:List α) (k:Nat):(List.replicate k xs).flatten.length=k*xs.length:=by
 induction k with
 | zero=>simp
 | succ k ih=>rw [List.replicate_succ,List.flatten_cons,List.length_append,ih,Nat.succ_mul,Nat.add_comm]
theorem DC:OpR X (binaryOp .Mult) Hk:=by
 intro pins s σ H x y v u Q I rx ry h
 obtain ⟨l,k,xs,rfl,rfl,hH,h1,h2,hz,q⟩:=h
 cases rx
 obtain ⟨t,rfl⟩:=ry
 obtain ⟨z,its,n,r,hl,e⟩:=I.lstM hH
 have hlen:its.toArray.size*k.toNat≤sizeLine:=by rw [List.size_toArray,←hl];exact hz
 have hcap:¬its.toArray.size*k.toNat > (2 ^ 63-1)/8:=by
  have:(sizeLine:Nat)≤(2 ^ 63-1)/8:=by decide
  omega
 have hfit:¬(!Builtin.List.listFitsIndex k)=true:=by
  rw [fitsIndex_both h1 h2]
  exact Bool.false_ne_true
 have hlong:¬Builtin.List.listTooLong (its.toArray.size*k.toNat)=true:=by
  rw [Ah hlen]
  exact Bool.false_ne_true
 have hnew:List.foldl (fun x1 x2=>x1++x2) #[] (List.replicate (if its.toArray.isEmpty=true then 0 else k.toNat) its.toArray)=(List.replicate k.toNat its).flatten.toArray:=by
  have f0:∀m:Nat,List.foldl (fun x1 x2=>x1++x2) #[] (List.replicate m its.toArray)=(List.replicate m its).flatten.toArray:=fun m=>by
   have:=oO its m []
   rw [List.nil_append] at this
   exact this
  rw [f0]
  cases its with
  | nil=>simp
  | cons a r'=>rw [if_neg (by simp)]
 refine wpAny_binaryOp_repeat_ref (T:="list") (U:="int") (by decide) ⟨_,e,rfl⟩ (fun s'=>typeIs_int s' k t) noFill_list_mul F.fills_int_mul F.slot_int_rmul repeat_list F.slot_int_index.lookup
  (call_meets F.slot_int_rmul (typeIs_int s k t) F.entry_int_rmul (F.args_int_rmul_2 _ _) (int___rmul___int_list k t l its.toArray n)
   ⟨e,rfl,⟨_,e,rfl⟩,call_meets F.slot_list_mul ⟨_,e,rfl⟩ F.entry_list_mul (F.args_list_mul_2 _ _) (AutoListH.list___mul___list_int_3 l its.toArray n k t hfit hcap hlong) ⟨e,?_⟩⟩)
 rw [hnew]
 exact ⟨.ref _,_,I.lnew (t':=s.toks) (r.rep k.toNat) (by rw [B9,Nat.mul_comm];exact hz),rfl,q _ I.fresh⟩
end
section
variable {prog:Program} {w:World} {A:Around} {E:Value→Shared→Prop} {s:Shared}
set_option maxRecDepth 100000 in
end
section
variable {X:Cx}
end
end L2
namespace Att
open PySem PySem.W PySem.Calls PyProof.Rows
theorem lM {P:Params} {h:Heap}:∀(ns:List Int) (vs:List Value),WellAll P h vs (ns.map WData.int)→IntsAre vs ns:=by
 intro ns
 induction ns with
 | nil =>
  intro vs w
  rw [List.map_nil] at w
  cases w
  exact .nil
 | cons n ns ih =>
  intro vs w
  rw [List.map_cons] at w
  cases w with
  | cons a b =>
   cases a
   exact .cons _ _ (ih _ b)
theorem wP {l:OpenLaw} {n:Nat} (hn:l.most=some n) {P:Params} {h:Heap} {args:List WData} {vals:List Value}
  (hpre:l.row.toRowW.claim.pre args=true) (hwl:WellAll P h vals args) :
  ∃a vs ns,vals=[Value.ref a]∧args=[WData.list (ns.map WData.int)]∧h.get? a=some { cls:=.type "list",data:=.seq vs.toArray }∧IntsAre vs ns∧ns.length≤n:=by
 have hsh:WShape.hasAll [] args [.list .int]=true:=(pre_splitW hpre).1
 have hc:l.pre.holds [] { args:=args }=true:=(pre_splitW hpre).2
 obtain ⟨d,r,rfl,h1,h2⟩:=hasAllW_cons hsh
 obtain rfl:=hasAllW_nil h2
 obtain ⟨xs,rfl,h3⟩:=hasW_list h1
 obtain ⟨ns,rfl⟩:=items_int h3
 have hlen:ns.length≤n:=by
  unfold OpenLaw.pre at hc
  have h4:(WTm.not (.lt (.lit (.int (n:Int))) (.len (.arg 0)))).holds [] { args:=[.list (ns.map .int)] }=true:=by
   have h4:=(holds_andW hc).1
   rw [hn] at h4
   exact h4
  have h5:=condW_of h4 (w_not (w_lt w_lit (w_len_list (w_arg rfl))))
  rw [List.length_map] at h5
  refine Nat.le_of_not_lt fun q=>?_
  have q':(n:Int)<((ns.length:Nat):Int):=by omega
  first
   | (rw [decide_eq_true q'] at h5;exact absurd h5 (by decide))
   | (simp at h5;omega)
 cases hwl with
 | cons w1 w2 =>
  cases w2
  cases w1 with
  | list ho hall=>exact ⟨_,_,ns,rfl,rfl,ho,lM ns _ hall,hlen⟩
theorem w4 (l:OpenLaw) (args:List WData):l.row.toRowW.claim.post args (.bool true) args=true :=
 postW_of (r:=l.row.toRowW) (X:=(true == true))
  (show WShape.has [] (.bool true) .bool=true by first|rfl|decide|simp [WShape.has,WShape.arms,WShape.armsAll])
  (show (WTm.eq .res (.lit (.bool true))).value [] { args:=args,res:=some (.bool true),after:=args }=some (.bool (true == true)) from w_eq_bool (w_res rfl) w_lit) rfl
theorem attach_call {l:OpenLaw} {n:Nat} {q:Program} {loose:List Str} {XP:(Str→Option Value)→Heap→Prop} {YP:World→Heap→Prop} {d:DefRec}
  (hn:l.most=some n) (hdf:d.params.defaults=[])
  (call:∀(w:World) (s₀ s₁:Shared) (mg mb:Str→Option Value) (fa:Addr) (o:Obj) (pm cd doc:Value) (a:Addr) (vs:List Value) (ns:List Int),
   Ground q loose [] XP w s₀ mg mb s₁.heap→YP w s₁.heap →
   s₁.heap.get? fa=some o→o.data=.func (docDef d.name d.params d.body d.scope pm cd doc)→s₁.heap.CodeRec cd d.name→mg d.name=some (.ref fa) →
   s₁.heap.get? a=some { cls:=.type "list",data:=.seq vs.toArray }→IntsAre vs ns→ns.length≤n→s₁.gens=#[] →
   codeAny (model l.prog w) callerA (.call (.ref fa) ⟨[.ref a],[]⟩) (fun r s'=>r=.ok (.ret (.bool true))∧OldK s₁.heap s'.heap∧s'.os=s₁.os∧AllBare s'.gens) s₁) :
  WalkO q loose XP YP l.row.toRowW d [] (fun f vs=>PySem.call f vs):=by
 intro w s₀ s₁ mg mb G Y fa o pm cd doc dV kV ho hd hcd hD hmg hg args vals as hpre hlay hrd hwl hlo
 obtain rfl:dV=.none:=Dflts.none hD hdf
 obtain rfl:kV=.none:=Dflts.noKw hD
 obtain ⟨a,vs,ns,rfl,rfl,hobj,hints,hlen⟩:=wP hn hpre hwl
 refine enter_call (codeAny_mono (call w s₀ s₁ mg mb fa o pm cd doc a vs ns G Y ho (fd_plain hd) hcd hmg hobj hints hlen hg) fun r s' hq=>?_)
 obtain ⟨rfl,h2,h3,h4⟩:=hq
 exact ⟨.inl ⟨.bool true,.bool true,[],rfl,fun _=>rfl,.bool true,w4 l _,fun _=>⟨List.Pairwise.nil,fun _ hm=>(nomatch hm)⟩⟩,h2,h3,h4⟩
section
variable {prog:Program} {w:World} {A:Around} {E:Value→Shared→Prop} {s:Shared} {K:Frag}
end
end Att
namespace L2
theorem o6:∀ {vs:List Value} {ns:List Int},IntsAre vs ns→Vals (ns.map V.int) vs
 | _,_,.nil=>.nil
 | _,_,.cons n t h=>.cons ⟨t,rfl⟩ (o6 h)
end L2
namespace L2
end L2
namespace L2
noncomputable def fh (s:Stmt):Arguments:=match s with
 | .FunctionDef _ a _ _ _ _ _ _ _ _=>a
 | _=>{ posonlyargs:=[],args:=[],vararg:=none,kwonlyargs:=[],kw_defaults:=[],kwarg:=none,defaults:=[] }
noncomputable def af (s:Stmt):List Stmt:=match s with
 | .FunctionDef _ _ b _ _ _ _ _ _ _=>b
 | _=>[]
noncomputable def ab (s:Stmt):Scope:=match s with
 | .FunctionDef _ _ _ _ _ _ sc _ _ _=>sc
 | _=>{ kind:=.function,names:=[],isGenerator:=false,isCoroutine:=false }
noncomputable abbrev CX0:CXT:=fun _ _ _ _ _ _=>False
noncomputable abbrev E0:XK:=fun _ _ _=>False
theorem CW {X:Cx}:qb CX0 X E0:=fun _ _ _ _ _ _ _ h=>h.elim
structure Fun (K:W.Frag) (x qual:Str) (st:Stmt) (f:Addr) (fd:FuncData):Prop where
 ex:∃(oc:Value) (od:Option Addr) (kV doc pm:Value) (an:Option Addr) (cdv ct:Value) (osl:Array (Option Value)),
  fd=W.fnOf x qual (fh st) (af st) (ab st) .none kV doc pm an cdv ct∧K.lookup f=some ⟨oc,od,.func fd,osl⟩∧W.codeIn K cdv qual=true
 kp:W.keepIn K (.ref f)=true
section
variable {P:Program} {w:World} {K:W.Frag} {mg:Str→Option Value} {base:Heap}
theorem Fun.ok {x qual:Str} {st:Stmt} {f:Addr} {fd:FuncData} {N ps:List Str} {k:Nat} {sp:Sp} (F:Fun K x qual st f fd) (S:ah N ps (ab st)) (len:∀vs H Q E,sp vs H Q E→vs.length=ps.length)
  (hbody:∀(cdv:Value) (A:Around) (outer:List Env) (s:Shared) (H:Hp) (vs:List V) (Q:VK) (E:XK),Room k (A.deeper (envOfC qual (ab st) s.heap.objs.size f cdv))→sp vs H Q E →
   ∃t,PSs (kE CX0 P w K mg base N qual (ab st) f cdv A outer s H E).nox (af st) t∧t { nx:=fun _ H'=>Q .non H',rt:=Q } (start N vs) H):oa P w K mg base CX0 (k+1) f fd ps sp:=by
 obtain ⟨oc,od,kV,doc,pm,an,cdv,ct,osl,rfl,lk,hcd⟩:=F.ex
 refine FH lk hcd S len fun A outer s H vs Q E hr hsp=>?_
 obtain ⟨t,h,q⟩:=hbody cdv A outer s H vs Q E hr hsp
 exact ⟨t,h.nox,q⟩
theorem Fun.binds {x qual:Str} {st:Stmt} {f:Addr} {fd:FuncData} {ps:List Str} (F:Fun K x qual st f fd)
  (h:∀(kV doc pm:Value) (an:Option Addr) (cdv ct:Value) (us:List Value),us.length=ps.length→bindArgs (W.fnOf x qual (fh st) (af st) (ab st) .none kV doc pm an cdv ct) ⟨us,[]⟩=pure (ps.zip us)):Binds K fd ps []:=by
 obtain ⟨oc,od,kV,doc,pm,an,cdv,ct,osl,rfl,lk,hcd⟩:=F.ex
 exact .all (h kV doc pm an cdv ct)
theorem zF {x qual:Str} {st:Stmt} {f:Addr} {oc:Value} {od an:Option Addr} {osl:Array (Option Value)} {kV doc pm cdv ct:Value} (l:K.lookup f=some ⟨oc,od,.func (W.fnOf x qual (fh st) (af st) (ab st) .none kV doc pm an cdv ct),osl⟩)
  (c:W.codeIn K cdv qual=true) (k:W.keepIn K (.ref f)=true):Fun K x qual st f (W.fnOf x qual (fh st) (af st) (ab st) .none kV doc pm an cdv ct):=⟨⟨oc,od,kV,doc,pm,an,cdv,ct,osl,rfl,l,c⟩,k⟩
end
theorem xA {n:Nat} (h:n≤1000):n<sizeLine:=Nat.lt_of_le_of_lt h (by decide)
section
variable {X:Cx}
end
theorem Hm {A B:Prop} (h:A):if true=true then A else B:=by
 rw [if_pos rfl]
 exact h
noncomputable def Same (H H':Hp):Prop:=∀b o,H b=some o→H' b=some o
theorem Same.seq {K:W.Frag} {H H':Hp} {a:Addr} {xs:List V} (e:Same H H') (h:SqL K H a xs):SqL K H' a xs:=by
 rcases h with (h|⟨o,h⟩)|h
 ·exact .inl (.inl (e _ _ h))
 ·exact .inl (.inr ⟨o,e _ _ h⟩)
 ·exact .inr h
end L2
namespace HX
open L2
section
variable {X:Cx} {a b c:Expr} {ta tb tc:TE} {pos:Pos}
noncomputable def CBig (j:Int):Prop:=0<j∧j.natAbs.log2<9000
noncomputable def CMB (i j:Int):Prop:=i.natAbs<2 ^ 6000∧j.natAbs<2 ^ 6000∨(-(2 ^ 64)<i∧i<2 ^ 64)∨(-(2 ^ 64)<j∧j<2 ^ 64)
theorem vZ {i:Int} {n:Nat} (h:i.natAbs<2 ^ n):Builtin.Int.intBits i≤n:=by
 unfold Builtin.Int.intBits
 split
 ·exact Nat.zero_le _
 ·rename_i hz
  have h0:i.natAbs≠0:=by
   intro z
   apply hz
   have:i=0:=by omega
   simp [this]
  have:i.natAbs.log2<n:=(Nat.log2_lt h0).mpr h
  omega
theorem CMB.ok {i j:Int} (h:CMB i j):IntMulOk i j:=by
 rcases h with ⟨h1,h2⟩|⟨h1,h2⟩|⟨h1,h2⟩
 ·exact IntMulOk.of_le (vZ h1) (vZ h2) (by decide)
 ·exact .of_left (intBits_le_64 h1 h2)
 ·exact .of_right (intBits_le_64 h1 h2)
theorem CBig.of {j:Int} (h:0<j) (h2:j<2 ^ 8999):CBig j:=by
 refine ⟨h,?_⟩
 have h0:j.natAbs≠0:=by omega
 have:j.natAbs<2 ^ 8999:=by
  have e:((2:Int) ^ 8999)=((2 ^ 8999:Nat):Int):=by rw [Int.natCast_pow];rfl
  rw [e] at h2
  generalize (2:Nat) ^ 8999=z at h2 ⊢
  omega
 have:=(Nat.log2_lt h0).mpr this
 omega
theorem B4:OpR X (binaryOp .Mult) (rI CMB fun i j=>.int (i*j)):=opI fun _ _ _ _ _ _ _ hc q=>mul_int q hc.ok
theorem yL:OpR X (binaryOp .FloorDiv) (rI (fun _ j=>CBig j) fun i j=>.int (i/j)):=opI fun i j _ _ _ _ _ hc q=>by
 refine floordiv_int (by have:=hc.1;omega) ?_ (.inl (PyProof.noPylong_of_log2 hc.2))
 rw [Int.fdiv_eq_ediv_of_nonneg _ (Int.le_of_lt hc.1)]
 exact q
theorem p6:eA X (.builtin "divmod") (fun xs H Q=>∃i j,xs=[.int i,.int j]∧CBig j∧∀p,H p=none→Q (.ref p) (upd H p (.tup [.int (i/j),.int (i % j)]))):=by
 intro pins s σ H xs us Q I r h
 obtain ⟨i,j,rfl,hc,q⟩:=h
 obtain ⟨u,v,rfl,⟨t,rfl⟩,⟨t',rfl⟩⟩:=rN r
 refine divmod_int (by have:=hc.1;omega) ?_ (.inl (PyProof.noPylong_of_log2 hc.2))
 rw [Int.fdiv_eq_ediv_of_nonneg _ (Int.le_of_lt hc.1),Int.fmod_eq_emod_of_nonneg _ (Int.le_of_lt hc.1)]
 have hf:H s.heap.objs.size=none:=I.hok.fresh (Nat.le_refl _)
 refine ⟨.ref s.heap.objs.size,upd H s.heap.objs.size (.tup [.int (i/j),.int (i % j)]),I.laid (t':=s.toks+1+1) (fun b u e=>Heap.get?_push_of_some _ e) (Nat.le_refl _) ?_,rfl,q _ hf⟩
 exact ⟨by show 2≤sizeLine;decide,[_,_],.cons ⟨_,rfl⟩ (.cons ⟨_,rfl⟩ .nil),⟨_,Heap.get?_push_size _ rfl,rfl,_,rfl⟩⟩
theorem rK {x:V} {v:Value} (r:RelV x v) (k:Bool):(v == Value.bool k)=decide (x=.bl k):=by
 cases x with
 | non=>cases r;rfl
 | bl b=>cases r;cases b <;> cases k <;> rfl
 | int _=>obtain ⟨t,rfl⟩:=r;rfl
 | str _=>obtain ⟨t,rfl⟩:=r;rfl
 | byt _=>obtain ⟨t,rfl⟩:=r;rfl
 | flt _=>obtain ⟨t,rfl⟩:=r;rfl
 | ref _=>cases r;rfl
 | ty _=>cases r;rfl
theorem nP {x:V} {v:Value} (r:RelV x v) (k:Bool):plainIs v (.bool k)=true:=by
 cases x with
 | non=>cases r;rfl
 | bl b=>cases r;rfl
 | int _=>obtain ⟨t,rfl⟩:=r;rfl
 | str _=>obtain ⟨t,rfl⟩:=r;rfl
 | byt _=>obtain ⟨t,rfl⟩:=r;rfl
 | flt _=>obtain ⟨t,rfl⟩:=r;rfl
 | ref _=>cases r;rfl
 | ty _=>cases r;rfl
noncomputable def GC:R2:=fun x y H Q=>∃k,y=.bl k∧Q (.bl (decide (x=.bl k))) H
noncomputable def BN:R2:=fun x y H Q=>∃k,y=.bl k∧Q (.bl (!decide (x=.bl k))) H
theorem EW:OpR X (compareOp .Is) GC:=by
 intro pins s σ H x y v u Q I rx ry h
 obtain ⟨k,rfl,q⟩:=h
 cases ry
 exact wpAny_is_plain (nP rx k) ⟨.bl _,H,I,by rw [rK rx k];rfl,q⟩
theorem wK:OpR X (compareOp .IsNot) BN:=by
 intro pins s σ H x y v u Q I rx ry h
 obtain ⟨k,rfl,q⟩:=h
 cases ry
 exact wpAny_isNot_plain (nP rx k) ⟨.bl _,H,I,by rw [rK rx k];rfl,q⟩
noncomputable def fk (c n:String):Bool:=c == n || (n == "bool" && c == "int")
noncomputable def Fu (n c:String):Option Bool:=if (Value.type n == Value.type c)=true then some true else if W.kitMeta c=true then (fastBuiltinMro n).map (·.contains (.type c)) else none
theorem Ci (K:W.Frag) (n c:String):W.kitOne K (.type n) (.type c)=Fu n c:=rfl
theorem yv:∀c∈["int","bool","str","tuple","list","dict"],∀n∈["NoneType","bool","int","str","list","tuple","dict"],Fu n c=some (fk c n):=by decide +kernel
theorem zg (K:W.Frag):∀c∈["int","bool","str","tuple","list","dict"],∀n∈["NoneType","bool","int","str","list","tuple","dict"],W.kitOne K (.type n) (.type c)=some (fk c n):=by
 intro c hc n hn
 rw [Ci]
 exact yv c hc n hn
end
end HX
namespace HX
open L2
theorem wC {X:Cx} {pins:List (Addr × Obj)} {σ:L2.St} {H:Hp} {s:Shared} (I:Inv X pins σ H s):sysModules<s.heap.objs.size :=
 Nat.lt_trans (by decide) (show mainGlobals<s.heap.objs.size from (I.mod.glob.keeps I.bk).lt)
noncomputable def D_:TE:=fun _ H Q=>∀p,H p=none→Q (.ref p) (upd H p (.dK []))
theorem Ae {X:Cx} {pos:Pos}:PE X (.Dict [] [] pos) D_:=fun pins s σ H Q I h=>by
 refine wpAny_Dict_empty ⟨.ref s.heap.objs.size,_,I.laid (a:=s.heap.objs.size) (o:=.dK []) (t':=s.toks) (fun _ _ q=>Heap.get?_push_of_some _ q) (Nat.le_refl _) ?_,rfl,h _ (I.hok.fresh (Nat.le_refl _))⟩
 exact ⟨Nat.zero_le _,beq_eq_false_iff_ne.mpr (Ne.symm (Nat.ne_of_lt (wC I))),[],.nil,Heap.DictOf.new _⟩
end HX
namespace HX
open L2
noncomputable abbrev D:=PyData
mutual
noncomputable def Den (K:W.Frag) (H:Hp):D→V→Prop
 | .none,v=>v=.non
 | .bool b,v=>v=.bl b
 | .int i,v=>v=.int i
 | .str x,v=>v=.str x
 | .tuple ds,v=>∃a xs,v=.ref a∧SqT K H a xs∧Dens K H ds xs
 | .list ds,v=>∃a xs,v=.ref a∧SqL K H a xs∧Dens K H ds xs
 | .dict _,_=>False
noncomputable def Dens (K:W.Frag) (H:Hp):List D→List V→Prop
 | [],xs=>xs=[]
 | d::ds,xs=>∃x r,xs=x::r∧Den K H d x∧Dens K H ds r
end
section
variable {K:W.Frag} {H H':Hp} {v:V} {xs:List V}
theorem den_int {i:Int}:Den K H (.int i) v↔v=.int i:=by unfold Den;exact Iff.rfl
theorem den_bl {i:Bool}:Den K H (.bool i) v↔v=.bl i:=by unfold Den;exact Iff.rfl
theorem den_str {i:Str}:Den K H (.str i) v↔v=.str i:=by unfold Den;exact Iff.rfl
theorem den_non:Den K H .none v↔v=.non:=by unfold Den;exact Iff.rfl
theorem den_tup {ds:List D}:Den K H (.tuple ds) v↔∃a xs,v=.ref a∧SqT K H a xs∧Dens K H ds xs:=by rw [Den]
theorem den_lst {ds:List D}:Den K H (.list ds) v↔∃a xs,v=.ref a∧SqL K H a xs∧Dens K H ds xs:=by rw [Den]
theorem rJ {ds:List (D × D)}:Den K H (.dict ds) v↔False:=by rw [Den]
theorem dens_nil:Dens K H [] xs↔xs=[]:=by unfold Dens;exact Iff.rfl
theorem jP {d:D} {ds:List D}:Dens K H (d::ds) xs↔∃x r,xs=x::r∧Den K H d x∧Dens K H ds r:=by rw [Dens]
theorem dens_cons' {d:D} {ds:List D} {x:V}:Dens K H (d::ds) (x::xs)↔Den K H d x∧Dens K H ds xs:=by
 rw [jP]
 constructor
 ·rintro ⟨_,_,e,h1,h2⟩
  cases e
  exact ⟨h1,h2⟩
 ·rintro ⟨h1,h2⟩
  exact ⟨_,_,rfl,h1,h2⟩
theorem zC {a:Addr} (e:Same H H') (h:SqT K H a xs):SqT K H' a xs:=by
 rcases h with (h|⟨o,h⟩)|h
 ·exact .inl (.inl (e _ _ h))
 ·exact .inl (.inr ⟨o,e _ _ h⟩)
 ·exact .inr h
end
mutual
theorem Den.mono {K:W.Frag} {H H':Hp} (e:Same H H'):∀ {d:D} {v:V},Den K H d v→Den K H' d v
 | .none,v,h=>by rw [den_non] at h ⊢;exact h
 | .bool b,v,h=>by rw [den_bl] at h ⊢;exact h
 | .int b,v,h=>by rw [den_int] at h ⊢;exact h
 | .str b,v,h=>by rw [den_str] at h ⊢;exact h
 | .dict b,v,h=>by rw [rJ] at h;exact h.elim
 | .tuple ds,v,h=>by
  rw [den_tup] at h ⊢
  obtain ⟨a,xs,h1,h2,h3⟩:=h
  exact ⟨a,xs,h1,zC e h2,Dens.mono e h3⟩
 | .list ds,v,h=>by
  rw [den_lst] at h ⊢
  obtain ⟨a,xs,h1,h2,h3⟩:=h
  exact ⟨a,xs,h1,Same.seq e h2,Dens.mono e h3⟩
theorem Dens.mono {K:W.Frag} {H H':Hp} (e:Same H H'):∀ {ds:List D} {xs:List V},Dens K H ds xs→Dens K H' ds xs
 | [],xs,h=>by rw [dens_nil] at h ⊢;exact h
 | d::ds,xs,h=>by
  rw [jP] at h ⊢
  obtain ⟨x,r,h1,h2,h3⟩:=h
  exact ⟨x,r,h1,Den.mono e h2,Dens.mono e h3⟩
end
section
variable {X:Cx} {pins:List (Addr × Obj)} {σ:L2.St} {H:Hp} {s:Shared}
mutual
theorem Den.reads (I:Inv X pins σ H s):∀(d:D) (v:V) (u:Value),Den X.K H d v→RelV v u→∃as,Reads s.heap u d as
 | .none,v,u,h,r=>by rw [den_non] at h;subst h;cases r;exact ⟨_,.none⟩
 | .bool b,v,u,h,r=>by rw [den_bl] at h;subst h;cases r;exact ⟨_,.bool b⟩
 | .int b,v,u,h,r=>by rw [den_int] at h;subst h;obtain ⟨t,rfl⟩:=r;exact ⟨_,.int b t⟩
 | .str b,v,u,h,r=>by rw [den_str] at h;subst h;obtain ⟨t,rfl⟩:=r;exact ⟨_,.str b t⟩
 | .dict b,v,u,h,r=>by rw [rJ] at h;exact h.elim
 | .tuple ds,v,u,h,r=>by
  rw [den_tup] at h
  obtain ⟨a,xs,rfl,h2,h3⟩:=h
  cases r
  obtain ⟨its,rv,⟨o,ho,hc,n,hd⟩,_⟩:=I.tuple h2
  obtain ⟨as,hr⟩:=Dens.reads I ds xs its h3 rv
  exact ⟨as,.tuple ho hc hd (by simpa using hr)⟩
 | .list ds,v,u,h,r=>by
  rw [den_lst] at h
  obtain ⟨a,xs,rfl,h2,h3⟩:=h
  cases r
  obtain ⟨its,rv,p,_⟩:=I.list h2
  obtain ⟨o,ho,hc,n,hd⟩:=p.isList
  obtain ⟨as,hr⟩:=Dens.reads I ds xs its h3 rv
  exact ⟨_,.list ho hc hd (by simpa using hr)⟩
theorem Dens.reads (I:Inv X pins σ H s):∀(ds:List D) (xs:List V) (us:List Value),Dens X.K H ds xs→Vals xs us→∃as,ReadsAll s.heap us ds as
 | [],xs,us,h,r=>by rw [dens_nil] at h;subst h;cases r;exact ⟨_,.nil⟩
 | d::ds,xs,us,h,r=>by
  rw [jP] at h
  obtain ⟨x,q,rfl,h2,h3⟩:=h
  cases r with
  | cons r1 r2 =>
   obtain ⟨as,h4⟩:=Den.reads I d x _ h2 r1
   obtain ⟨bs,h5⟩:=Dens.reads I ds q _ h3 r2
   exact ⟨_,.cons h4 h5⟩
end
end
section
variable {X:Cx}
noncomputable def GL (K:W.Frag):R2:=fun x y H Q=>∃d e,Den K H d x∧Den K H e y∧SeqAt.shaped d=true∧SeqAt.shaped e=true∧Q (.bl (PyData.eqv d e)) H
noncomputable def Hd (K:W.Frag):R2:=fun x y H Q=>∃d e,Den K H d x∧Den K H e y∧SeqAt.shaped d=true∧SeqAt.shaped e=true∧Q (.bl (!PyData.eqv d e)) H
theorem E5 (hu:X.A.units+64<cLine):OpR X (compareOp .Eq) (GL X.K):=by
 intro pins s σ H x y v u Q I rx ry h
 obtain ⟨d,e,h1,h2,h3,h4,q⟩:=h
 obtain ⟨as,ra⟩:=Den.reads I d x v h1 rx
 obtain ⟨bs,rb⟩:=Den.reads I e y u h2 ry
 exact eq_dataH ra rb h3 h4 hu ⟨.bl _,H,I,rfl,q⟩
theorem Ds (hu:X.A.units+64<cLine):OpR X (compareOp .NotEq) (Hd X.K):=by
 intro pins s σ H x y v u Q I rx ry h
 obtain ⟨d,e,h1,h2,h3,h4,q⟩:=h
 obtain ⟨as,ra⟩:=Den.reads I d x v h1 rx
 obtain ⟨bs,rb⟩:=Den.reads I e y u h2 ry
 exact ne_dataH ra rb h3 h4 hu ⟨.bl _,H,I,rfl,q⟩
structure Has (P:Program) (w:World) (K:W.Frag) (mg:Str→Option Value) (base:Heap) (k:Nat) (x:Str) (ps:List Str) (sp:Sp):Prop where
 ex:∃(f:Addr) (fd:FuncData),oa P w K mg base CX0 k f fd ps sp∧mg x=some (.ref f)∧W.keepIn K (.ref f)=true∧Binds K fd ps []
structure At (K:W.Frag) (mg:Str→Option Value) (x:Str) (st:Stmt) (ps:List Str):Prop where
 ex:∃(f:Addr) (fd:FuncData),Fun K x x st f fd∧mg x=some (.ref f)∧Binds K fd ps []
theorem At.mk' {K:W.Frag} {mg:Str→Option Value} {h:Heap} {x:Str} {st:Stmt} {ps:List Str} {f:Addr} {oc:Value} {od an:Option Addr} {osl:Array (Option Value)} {kV doc pm cdv ct:Value} (X:K.In h) (G:h.Ns mainGlobals mg)
  (hb:∀(kV doc pm:Value) (an:Option Addr) (cdv ct:Value) (us:List Value),us.length=ps.length→bindArgs (W.fnOf x x (fh st) (af st) (ab st) .none kV doc pm an cdv ct) ⟨us,[]⟩=pure (ps.zip us))
  (a:W.nsIn K mainGlobals x=some (some (.ref f))) (l:K.lookup f=some ⟨oc,od,.func (W.fnOf x x (fh st) (af st) (ab st) .none kV doc pm an cdv ct),osl⟩)
  (c:W.codeIn K cdv x=true) (k:W.keepIn K (.ref f)=true):At K mg x st ps:=by
 have F:=zF (st:=st) l c k
 exact ⟨f,_,F,W.mg_of X G a,F.binds hb⟩
theorem At.ok {P:Program} {w:World} {K:W.Frag} {mg:Str→Option Value} {base:Heap} {x:Str} {st:Stmt} {N ps:List Str} {k:Nat} {sp:Sp} (F:At K mg x st ps) (S:ah N ps (ab st)) (len:∀vs H Q E,sp vs H Q E→vs.length=ps.length)
  (hbody:∀(f:Addr) (cdv:Value) (A:Around) (outer:List Env) (s:Shared) (H:Hp) (vs:List V) (Q:VK) (E:XK),Room k (A.deeper (envOfC x (ab st) s.heap.objs.size f cdv))→sp vs H Q E →
   ∃t,PSs (kE CX0 P w K mg base N x (ab st) f cdv A outer s H E).nox (af st) t∧t { nx:=fun _ H'=>Q .non H',rt:=Q } (start N vs) H):Has P w K mg base (k+1) x ps sp:=by
 obtain ⟨f,fd,Ff,m,b⟩:=F.ex
 exact ⟨f,fd,Ff.ok S len (fun cdv A outer s H vs Q E hr h=>hbody f cdv A outer s H vs Q E hr h),m,Ff.kp,b⟩
theorem E8 {k:Nat} {x:Str} {ps:List Str} {sp:Sp} {p pos:Pos} {e:Expr} {es:List Expr} {t:TA} (F:Has X.prog X.w X.K X.mg X.base k x ps sp) (hr:Room k X.A) (ha:PA X (e::es) t)
  (hg:Gl X x:=by rfl) (hdb:(x == ("__debug__":Str))=false:=by decide) (he:starEach (e::es) X.env=(false,eval e X.env)::starEach es X.env:=by rfl) (hpl:(backTo pos (starEach es X.env)).any (·.1)=false:=by rfl) :
  PE X (.Call (.Name x p) (e::es) [] pos) (oU sp [] E0 t):=by
 obtain ⟨f,fd,F,m,kp,b⟩:=F.ex
 exact CH F hr hg m kp b .nil CW ha hdb he hpl
theorem BU {k:Nat} {x:Str} {ps:List Str} {sp:Sp} {p pos:Pos} (F:Has X.prog X.w X.K X.mg X.base k x ps sp) (hr:Room k X.A)
  (hg:Gl X x:=by rfl) (hdb:(x == ("__debug__":Str))=false:=by decide) :
  PE X (.Call (.Name x p) [] [] pos) (oU sp [] E0 wS):=by
 obtain ⟨f,fd,F,m,kp,b⟩:=F.ex
 exact yZ F hr hg m kp b .nil CW hdb
end
end HX
namespace HX
open L2
noncomputable def ai:Expr→Bool
 | .Starred ..=>false
 | _=>true
theorem cM {e:Expr} {es:List Expr} {env:Env} (h:ai e=true):starEach (e::es) env=(false,eval e env)::starEach es env:=by
 cases e <;> first|rfl|cases h
theorem sg {env:Env}:∀ {es:List Expr},es.all ai=true→(starEach es env).any (·.1)=false
 | [],_=>rfl
 | e::es,h=>by
  rw [List.all_cons,Bool.and_eq_true] at h
  rw [cM h.1,List.any_cons,sg h.2]
  rfl
noncomputable def jp:Expr→Bool
 | .Slice ..=>false
 | _=>true
theorem FU {b:Expr} (h:jp b=true):wb b:=fun o i=>by
 cases b <;> first|rfl|cases h
section
variable {X:Cx}
theorem pac {e:Expr} {es:List Expr} {te:TE} {t:TA} (ha:PE X e te) (hr:PA X es t) (h:ai e=true:=by rfl):PA X (e::es) (nj te t):=B' ha hr (cM h)
theorem Ai {a b:Expr} {ta tb:TE} {pos:Pos} {r:R2} (hr:IxR X r) (ha:PE X a ta) (hb:PE X b tb) (hs:jp b=true:=by rfl):PE X (.Subscript a b pos) (tOp r ta tb):=F2 hr ha hb (FU hs)
theorem nr {env:Env} {pos:Pos} {es:List Expr} (h:es.all ai=true):(backTo pos (starEach es env)).any (·.1)=false:=by
 have:=sg (env:=env) h
 unfold backTo
 rw [List.any_map]
 exact this
theorem BZ {k:Nat} {x:Str} {ps:List Str} {sp:Sp} {p pos:Pos} {e:Expr} {es:List Expr} {t:TA} (F:Has X.prog X.w X.K X.mg X.base k x ps sp) (hr:Room k X.A) (ha:PA X (e::es) t)
  (hg:Gl X x:=by rfl) (hdb:(x == ("__debug__":Str))=false:=by decide) (he:ai e=true:=by rfl) (hpl:es.all ai=true:=by rfl) :
  PE X (.Call (.Name x p) (e::es) [] pos) (oU sp [] E0 t):=E8 F hr ha hg hdb (cM he) (nr hpl)
theorem oT {id:String} {r:List V→Hp→VK→Prop} {x:Str} {p pos:Pos} {e:Expr} {es:List Expr} {t:TA} (hc:eA X (.builtin id) r) (hg:Gl X x) (hm:X.mg x=none) (hv:bootBuiltins x=some (.builtin id)) (ha:PA X (e::es) t) (hn:x≠"__name__":=by decide) (hdb:(x == ("__debug__":Str))=false:=by decide)
  (he:ai e=true:=by rfl) (hpl:es.all ai=true:=by rfl):PE X (.Call (.Name x p) (e::es) [] pos) (tCB r t):=yj hc hg hm hv ha hn hdb (cM he) (nr hpl)
theorem nS {T:String} {r:List V→Hp→VK→Prop} {x:Str} {p pos:Pos} {e:Expr} {es:List Expr} {t:TA} (hc:eA X (.type T) r) (hg:Gl X x) (hm:X.mg x=none) (hv:bootBuiltins x=some (.type T)) (ha:PA X (e::es) t) (hn:x≠"__name__":=by decide) (hdb:(x == ("__debug__":Str))=false:=by decide)
  (he:ai e=true:=by rfl) (hpl:es.all ai=true:=by rfl):PE X (.Call (.Name x p) (e::es) [] pos) (tCB r t):=wU hc hg hm hv ha hn hdb (cM he) (nr hpl)
end
end HX
namespace L2
section
variable {κ:Type} [DecidableEq κ]
noncomputable def ib (kvs:List (κ × V)) (k:κ):Option V:=(kvs.find? fun kv=>decide (kv.1=k)).map (·.2)
noncomputable def gj (kvs:List (κ × V)) (k:κ) (v:V):List (κ × V) :=
 if (kvs.any fun kv=>decide (kv.1=k))=true then kvs.map (fun kv=>if kv.1=k then (kv.1,v) else kv) else kvs++[(k,v)]
theorem jd {p:κ × V} {r:List (κ × V)} {k:κ} (e:p.1=k):ib (p::r) k=some p.2:=by simp [ib,List.find?_cons,e]
theorem jf {p:κ × V} {r:List (κ × V)} {k:κ} (e:¬p.1=k):ib (p::r) k=ib r k:=by simp [ib,List.find?_cons,e]
theorem tw (k:κ):∀kvs:List (κ × V),(kvs.any fun kv=>decide (kv.1=k))=(ib kvs k).isSome
 | []=>rfl
 | p::r=>by
  rw [List.any_cons]
  by_cases e:p.1=k
  ·simp only [jd e,decide_eq_true e,Bool.true_or,Option.isSome_some]
  ·rw [jf e,decide_eq_false e,Bool.false_or];exact tw k r
theorem gF (kvs:List (κ × V)) (k:κ) (v:V):(gj kvs k v).length≤kvs.length+1:=by
 unfold gj
 split
 ·rw [List.length_map];omega
 ·rw [List.length_append,List.length_cons,List.length_nil];omega
theorem RelO.isSome_eq {o:Option V} {u:Option Value} (r:RelO o u):o.isSome=u.isSome:=by
 cases o with
 | none=>cases u with
  | none=>rfl
  | some _=>exact (show False from r).elim
 | some _=>cases u with
  | none=>exact (show False from r).elim
  | some _=>rfl
theorem KV.val {kvs:List (κ × V)} {vs:List (κ × Value)} (r:KV kvs vs) (k:κ):RelO (ib kvs k) (valueAt vs k):=by
 unfold KV at r
 induction r with
 | nil=>exact True.intro
 | @cons p q ps qs h t ih =>
  obtain ⟨h1,h2⟩:=h
  by_cases e:p.1=k
  ·have e':q.1=k:=h1.symm.trans e
   have b:valueAt (q::qs) k=some q.2:=by simp [valueAt,List.find?_cons,e']
   rw [jd e,b];exact h2
  ·have e':¬q.1=k:=fun z=>e (h1.trans z)
   have b:valueAt (q::qs) k=valueAt qs k:=by simp [valueAt,List.find?_cons,e']
   rw [jf e,b];exact ih
theorem KV.any {kvs:List (κ × V)} {vs:List (κ × Value)} (r:KV kvs vs) (k:κ):(kvs.any fun kv=>decide (kv.1=k))=vs.any fun kv=>decide (kv.1=k):=by
 unfold KV at r
 induction r with
 | nil=>rfl
 | cons h t ih=>rw [List.any_cons,List.any_cons,ih,h.1]
theorem KV.repl {kvs:List (κ × V)} {vs:List (κ × Value)} (r:KV kvs vs) (k:κ) {y:V} {u:Value} (ry:RelV y u) :
  KV (kvs.map fun kv=>if kv.1=k then (kv.1,y) else kv) (vs.map fun kv=>if kv.1=k then (kv.1,u) else kv):=by
 unfold KV at r ⊢
 induction r with
 | nil=>exact .nil
 | @cons p q ps qs h t ih =>
  rw [List.map_cons,List.map_cons]
  refine .cons ?_ ih
  obtain ⟨h1,h2⟩:=h
  by_cases e:p.1=k
  ·rw [if_pos e,if_pos (h1.symm.trans e)];exact ⟨h1,ry⟩
  ·rw [if_neg e,if_neg (fun z=>e (h1.trans z))];exact ⟨h1,h2⟩
theorem KV.put {kvs:List (κ × V)} {vs:List (κ × Value)} (r:KV kvs vs) (k:κ) {y:V} {u:Value} (ry:RelV y u):KV (gj kvs k y) (stored vs k u):=by
 unfold gj stored
 rw [r.any k]
 by_cases e:(vs.any fun kv=>decide (kv.1=k))=true
 ·rw [if_pos e,if_pos e];exact r.repl k ry
 ·rw [if_neg e,if_neg e];exact Paired.snoc r ⟨rfl,ry⟩
theorem KV.keys {kvs:List (κ × V)} {vs:List (κ × Value)} (r:KV kvs vs):kvs.map (·.1)=vs.map (·.1):=by
 unfold KV at r
 induction r with
 | nil=>rfl
 | cons h t ih=>rw [List.map_cons,List.map_cons,ih,h.1]
theorem KV.length {kvs:List (κ × V)} {vs:List (κ × Value)} (r:KV kvs vs):kvs.length=vs.length:=Paired.length r
end
theorem pq {P:Program} {w:World} {k:Key} {u:Value} (r:RelV (kV k) u):(aD P w).is k u=true:=by
 cases k with
 | inl i=>obtain ⟨t,e⟩:=(show ∃t,u=Value.int i t from r);subst e;exact sW P w i t
 | inr x=>obtain ⟨t,e⟩:=(show ∃t,u=Value.str x t from r);subst e;exact lz P w x t
theorem oR {P:Program} {w:World}:∀ {ks:List Key} {us:List Value},Vals (ks.map kV) us→ItemsAre (aD P w) ks us
 | [],_,r=>by rw [List.map_nil] at r;cases r;exact .nil
 | k::ks,_,r=>by
  rw [List.map_cons] at r
  cases r with
  | cons h t=>exact .cons (pq h) (oR t)
noncomputable abbrev KT (H:Hp):List (List Key × V)→List (List Key × Addr × Value)→Prop:=Paired fun p q=>p.1=q.1∧H q.2.1=some (.tup (p.1.map kV))∧RelV p.2 q.2.2
theorem KT.val {H:Hp} {kvs:List (List Key × V)} {xs:List (List Key × Addr × Value)} (r:KT H kvs xs) (k:List Key):RelO (ib kvs k) ((atKey xs k).map (·.2)):=by
 induction r with
 | nil=>exact True.intro
 | @cons p q ps qs h t ih =>
  obtain ⟨h1,_,h2⟩:=h
  by_cases e:p.1=k
  ·have e':q.1=k:=h1.symm.trans e
   have b:atKey (q::qs) k=some q.2:=by simp [atKey,List.find?_cons,e']
   rw [jd e,b];exact h2
  ·have e':¬q.1=k:=fun z=>e (h1.trans z)
   have b:atKey (q::qs) k=atKey qs k:=by simp [atKey,List.find?_cons,e']
   rw [jf e,b];exact ih
theorem KT.repl {H:Hp} {kvs:List (List Key × V)} {xs:List (List Key × Addr × Value)} (r:KT H kvs xs) (k:List Key) {y:V} {u:Value} (ry:RelV y u) :
  KT H (kvs.map fun kv=>if kv.1=k then (kv.1,y) else kv) (xs.map (putAt k u)):=by
 induction r with
 | nil=>exact .nil
 | @cons p q ps qs h t ih =>
  rw [List.map_cons,List.map_cons]
  refine .cons ?_ ih
  obtain ⟨h1,h2,h3⟩:=h
  unfold putAt
  by_cases e:p.1=k
  ·rw [if_pos e,if_pos (h1.symm.trans e)];exact ⟨h1,h2,ry⟩
  ·rw [if_neg e,if_neg (fun z=>e (h1.trans z))];exact ⟨h1,h2,h3⟩
theorem KT.put {H:Hp} {kvs:List (List Key × V)} {xs:List (List Key × Addr × Value)} (r:KT H kvs xs) (k:List Key) {b:Addr} {y:V} {u:Value} (hb:H b=some (.tup (k.map kV))) (ry:RelV y u) :
  KT H (gj kvs k y) (storedH xs k b u):=by
 have e:(kvs.any fun kv=>decide (kv.1=k))=(atKey xs k).isSome:=by
  rw [tw,(r.val k).isSome_eq,Option.isSome_map]
 unfold gj storedH
 rw [e]
 by_cases q:(atKey xs k).isSome=true
 ·rw [if_pos q,if_pos q];exact r.repl k ry
 ·rw [if_neg q,if_neg q];exact Paired.snoc r ⟨rfl,hb,ry⟩
theorem KT.keeps {H H':Hp} {kvs:List (List Key × V)} {xs:List (List Key × Addr × Value)} (r:KT H kvs xs) (ht:∀b ys,H b=some (.tup ys)→H' b=some (.tup ys)):KT H' kvs xs :=
 Paired.mapP r fun _ _ z=>⟨z.1,ht _ _ z.2.1,z.2.2⟩
section
variable {P:Program} {w:World} {H:Hp} {h:Heap} {a:Addr}
theorem C2 {u:HO} (ok:HOk P w H h) (e:Rd H a u):ObjOk P w H h a u:=e.ok ok
theorem na {kvs:List (Key × V)} (ok:HOk P w H h) (e:Rd H a (.dK kvs)):kvs.length≤sizeLine∧(a == sysModules)=false∧∃vs,KV kvs vs∧h.DictOf (aD P w) a vs :=
 show ObjOk P w H h a (.dK kvs) from C2 ok e
theorem lm {kvs:List (Key × V)} (ok:HOk P w H h) (e:H a=some (.dK kvs)):kvs.length≤sizeLine∧(a == sysModules)=false∧∃vs,KV kvs vs∧h.DictOf (aD P w) a vs:=na ok (.inl e)
theorem mq {ks:List Key} (ok:HOk P w H h) (e:H a=some (.tup (ks.map kV))):(tupleKind (aD P w)).is h ks a:=by
 obtain ⟨_,its,r,o,h1,h2,n,h3⟩:=(show ObjOk P w H h a (.tup (ks.map kV)) from ok a _ e)
 exact ⟨o,its.toArray,n,h1,h2,h3,by simpa using oR r⟩
theorem wE {kvs:List (List Key × V)} (ok:HOk P w H h) (e:Rd H a (.dT kvs)):kvs.length≤sizeLine∧(a == sysModules)=false ∧
  ∃xs,KT H kvs xs∧h.DictOfH (tupleKind (aD P w)) a xs:=by
 obtain ⟨z,y,xs,r,o,es,ep,h1,h2,h3,h4,h5⟩:=(show ObjOk P w H h a (.dT kvs) from C2 ok e)
 refine ⟨z,y,xs,r,o,es,ep,h1,h2,h3,h4,fun x hx=>?_,h5⟩
 have all:∀ {l:List (List Key × V)} {m:List (List Key × Addr × Value)},KT H l m→∀x∈m,(tupleKind (aD P w)).is h x.1 x.2.1:=by
  intro l m q
  induction q with
  | nil=>intro x hx;exact nomatch hx
  | @cons p q ps qs hq t ih =>
   intro x hx
   rcases List.mem_cons.mp hx with e|hx
   ·subst e
    exact mq ok (by rw [←hq.1];exact hq.2.1)
   ·exact ih x hx
 exact all r x hx
theorem Ge {kvs:List (List Key × V)} (ok:HOk P w H h) (e:H a=some (.dT kvs)):kvs.length≤sizeLine∧(a == sysModules)=false ∧
  ∃xs,KT H kvs xs∧h.DictOfH (tupleKind (aD P w)) a xs:=wE ok (.inl e)
end
noncomputable def CJ (H:Hp) (a:Addr) (y:V) (r:Option V):Prop :=
 (∃kvs k,Rd H a (.dK kvs)∧y=kV k∧r=ib kvs k)∨∃kvs k b,Rd H a (.dT kvs)∧y=.ref b∧H b=some (.tup (k.map kV))∧r=ib kvs k
noncomputable def DPut (H:Hp) (a:Addr) (y v:V) (H':Hp):Prop :=
 (∃kvs k,H a=some (.dK kvs)∧y=kV k∧kvs.length<sizeLine∧H'=upd H a (.dK (gj kvs k v))) ∨
 ∃kvs k b,H a=some (.dT kvs)∧y=.ref b∧H b=some (.tup (k.map kV))∧kvs.length<sizeLine∧H'=upd H a (.dT (gj kvs k v))
theorem DPut.k {H:Hp} {a:Addr} {kvs:List (Key × V)} {k:Key} {v:V} (e:H a=some (.dK kvs)) (hl:kvs.length<sizeLine):DPut H a (kV k) v (upd H a (.dK (gj kvs k v))):=.inl ⟨kvs,k,e,rfl,hl,rfl⟩
section
variable {X:Cx} {pins:List (Addr × Obj)} {σ:St} {H:Hp} {s:Shared} {a:Addr} {y v:V} {u r:Value} {o:Option V} {A:Around} {E:Value→Shared→Prop}
theorem Inv.big (I:Inv X pins σ H s):sysModules<s.heap.objs.size:=by
 have h:mainGlobals<s.heap.objs.size:=(I.mod.glob.keeps I.bk).lt
 exact Nat.lt_trans (by decide) h
theorem wV {Q:Value→Shared→Prop} (hu:A.units+1<cLine) (I:Inv X pins σ H s) (g:CJ H a y (some v)) (ry:RelV y u) (h:∀w' s',Inv X pins σ H s'→RelV v w'→Q w' s') :
  wpAny (model X.prog X.w) A (getItem (.ref a) u) Q E s:=by
 rcases g with ⟨kvs,k,e,ey,l⟩|⟨kvs,k,b,e,ey,eb,l⟩
 ·subst ey
  obtain ⟨z,hd,vs,rel,dd⟩:=na I.hok e
  obtain ⟨w',hw,rw'⟩:=RelO.some_of (v:=v) (o:=valueAt vs k) (by rw [l];exact rel.val k)
  exact wpAny_getItem_of (pq ry) dd.mapOf hw (h w' _ (I.tok _) rw')
 ·subst ey
  cases (show u=Value.ref b from ry)
  obtain ⟨z,hd,xs,rel,dd⟩:=wE I.hok e
  obtain ⟨w',hw,rw'⟩:=RelO.some_of (v:=v) (o:=(atKey xs k).map (·.2)) (by rw [l];exact rel.val k)
  obtain ⟨p,hp,hp2⟩:=Option.map_eq_some_iff.mp hw
  refine wpAny_getItem_heap (tupleKind_room_in1 hu) (mq I.hok eb) dd hp ?_
  rw [hp2]
  exact h w' _ (I.tok _) rw'
theorem Gw {Q:Value→Shared→Prop} (hu:A.units+1<cLine) (I:Inv X pins σ H s) (g:CJ H a y o) (ry:RelV y u) (h:∀s',Inv X pins σ H s'→Q (.bool o.isSome) s') :
  wpAny (model X.prog X.w) A (compareOp .In u (.ref a)) Q E s:=by
 rcases g with ⟨kvs,k,e,ey,l⟩|⟨kvs,k,b,e,ey,eb,l⟩
 ·subst ey
  obtain ⟨z,hd,vs,rel,dd⟩:=na I.hok e
  refine wpAny_in_of (pq ry) hd dd.mapOf ?_
  rw [←(rel.val k).isSome_eq,←l]
  exact h _ (I.tok _)
 ·subst ey
  cases (show u=Value.ref b from ry)
  obtain ⟨z,hd,xs,rel,dd⟩:=wE I.hok e
  refine wpAny_in_heap (tupleKind_room_in1 hu) (mq I.hok eb) hd dd ?_
  have q:=(rel.val k).isSome_eq
  rw [Option.isSome_map] at q
  rw [←q,←l]
  exact h _ (I.tok _)
theorem BH {Q:Value→Shared→Prop} (hu:A.units+1<cLine) (I:Inv X pins σ H s) (g:CJ H a y o) (ry:RelV y u) (h:∀s',Inv X pins σ H s'→Q (.bool (!o.isSome)) s') :
  wpAny (model X.prog X.w) A (compareOp .NotIn u (.ref a)) Q E s:=by
 rcases g with ⟨kvs,k,e,ey,l⟩|⟨kvs,k,b,e,ey,eb,l⟩
 ·subst ey
  obtain ⟨z,hd,vs,rel,dd⟩:=na I.hok e
  refine wpAny_notIn_of (pq ry) hd dd.mapOf ?_
  rw [←(rel.val k).isSome_eq,←l]
  exact h _ (I.tok _)
 ·subst ey
  cases (show u=Value.ref b from ry)
  obtain ⟨z,hd,xs,rel,dd⟩:=wE I.hok e
  refine wpAny_notIn_heap (tupleKind_room_in1 hu) (mq I.hok eb) hd dd ?_
  have q:=(rel.val k).isSome_eq
  rw [Option.isSome_map] at q
  rw [←q,←l]
  exact h _ (I.tok _)
theorem lW {h':Heap} {t':Nat} {ob:HO} (I:Inv X pins σ H s) (mu:Mut (H a)) (hs:Heap.SameBut a s.heap h') (he:∃q,h'.get? a=some q) (new:ObjOk X.prog X.w (upd H a ob) h' a ob) :
  Inv X pins σ (upd H a ob) { s with heap:=h',toks:=t' } :=
 I.write (x:=a) (e:=a) mu (.inl rfl) (fun b q hb z=>(hs.2 b hb).trans z) he new
theorem pM {P:Program} {w:World} {H':Hp} {h':Heap} {kvs:List (Key × V)} {vs:List (Key × Value)} (z:kvs.length≤sizeLine) (hd:(a == sysModules)=false) (rel:KV kvs vs) (dd:h'.DictOf (aD P w) a vs) :
  ObjOk P w H' h' a (.dK kvs):=⟨z,hd,vs,rel,dd⟩
theorem wT {H':Hp} {Q:Unit→Shared→Prop} (hu:A.units+1<cLine) (I:Inv X pins σ H s) (g:DPut H a y v H') (ry:RelV y u) (rv:RelV v r) (h:∀s',Inv X pins σ H' s'→Q () s') :
  wpAny (model X.prog X.w) A (setItem (.ref a) u r) Q E s:=by
 rcases g with ⟨kvs,k,e,ey,l,eH⟩|⟨kvs,k,b,e,ey,eb,l,eH⟩
 ·subst ey eH
  obtain ⟨z,hd,vs,rel,dd⟩:=lm I.hok e
  have hz:vs.length≤sizeLine:=by rw [←rel.length];exact z
  have hl:(gj kvs k v).length≤sizeLine:=by have:=gF kvs k v;omega
  refine wpAny_setItem_pairs (hsz:=hz) (pq ry) dd fun h' dd' hs=>h _ ?_
  have he:∃q,h'.get? a=some q:=let ⟨q,_,_,hq,_⟩:=dd';⟨q,hq⟩
  exact lW I (by rw [e];exact True.intro) hs he (pM hl hd (rel.put k rv) dd')
 ·subst ey eH
  cases (show u=Value.ref b from ry)
  obtain ⟨z,hd,xs,rel,dd⟩:=Ge I.hok e
  have hz:xs.length≤sizeLine:=by rw [←Paired.length rel];exact z
  have hl:(gj kvs k v).length≤sizeLine:=by have:=gF kvs k v;omega
  refine wpAny_setItem_heap (hsz:=hz) (tupleKind_room_in1 hu) (mq I.hok eb) dd fun h' dd' hs=>h _ ?_
  obtain ⟨q,es,ep,hq,h2,h3,h4,_,h5⟩:=dd'
  refine lW I (by rw [e];exact True.intro) hs ⟨q,hq⟩ ⟨hl,hd,_,(rel.put k eb rv).keeps fun c ys ec=>?_,q,es,ep,hq,h2,h3,h4,h5⟩
  rw [ac (FS ec e (fun z=>nomatch z))]
  exact ec
end
section
variable {X:Cx} {pins:List (Addr × Obj)} {σ:St} {H:Hp} {s:Shared} {a:Addr} {kvs:List (Key × V)} {k:Key} {u:Value} {A:Around} {E:Value→Shared→Prop}
theorem CI {Q:Value→Shared→Prop} (I:Inv X pins σ H s) (e:H a=some (.dK kvs)) (h:∀s',Inv X pins σ (upd H a (.dK [])) s'→Q .none s'):wpAny (model X.prog X.w) A (call (.builtin "dict.clear") [.ref a]) Q E s:=by
 obtain ⟨z,hd,vs,rel,dd⟩:=lm I.hok e
 refine call_meetsIn PySem.F.slot_dict_clear dd.typeIs PySem.F.entry_dict_clear (PySem.F.args_dict_clear_1 _) (meets_dict_clear (aD X.prog X.w) a) ⟨vs,dd,by rw [←rel.length];exact z,fun h' dd' hs=>h _ ?_⟩
 have he:∃q,h'.get? a=some q:=let ⟨q,_,_,hq,_⟩:=dd';⟨q,hq⟩
 exact lW (t':=s.toks) I (by rw [e];exact True.intro) hs he (pM (Nat.zero_le _) hd .nil dd')
end
section
variable {X:Cx} {pins:List (Addr × Obj)} {σ:St} {H:Hp} {s:Shared} {a:Addr} {kvs:List (Key × V)} {A:Around} {E:Value→Shared→Prop}
theorem A1 {Q:Value→Shared→Prop} (I:Inv X pins σ H s) (e:Rd H a (.dK kvs)) (h:∀p s',H p=none→Inv X pins σ (upd H p (.dK kvs)) s'→Q (.ref p) s'):wpAny (model X.prog X.w) A (call (.type "dict") [.ref a]) Q E s:=by
 obtain ⟨z,hd,vs,rel,dd⟩:=na I.hok e
 refine kt_call_dict hd dd (by rw [←rel.length];exact z) fun h' dd' hs=>?_
 refine h _ _ (I.hok.fresh (Nat.le_refl _)) (I.laid (a:=s.heap.objs.size) (o:=.dK kvs) (t':=s.toks) (fun b q hq=>?_) (Nat.le_refl _) (pM z (beq_eq_false_iff_ne.mpr (Ne.symm (Nat.ne_of_lt I.big))) rel dd'))
 exact (hs.2 b (Nat.ne_of_lt (Heap.lt_size hq))).trans (Heap.get?_push_of_some _ hq)
end
end L2
namespace FW
open L2
noncomputable def GE (xs:Array Nat):Prop:=∀i j,i<j→j<xs.size→xs.getD i 0<xs.getD j 0
structure CY (b:Bool) (t:SetTable):Prop where
 ris:GE t.place
 led:t.led=b
noncomputable def toI:Value→Int
 | .int n _=>n
 | _=>0
section
variable {prog:Program} {w:World} {A:Around} {E:Value→Shared→Prop} {s:Shared}
noncomputable def EI (prog:Program) (w:World) (e:Int × Value):Prop:=∃(k:Int) (t:Tok),e=((intKind prog w).hash k,.int k t)
structure SetD (prog:Program) (w:World) (b:Bool) (es:Array (Int × Value)) (t:SetTable) (zs:List Int):Prop where
 el:∀e∈es.toList,EI prog w e
 nd:(es.toList.map fun e=>toI e.2).Nodup
 mem:∀i,i∈(es.toList.map fun e=>toI e.2)↔i∈zs
 ln:es.size≤zs.length
 fit:t.fits es.size=true
 ok:CY b t
noncomputable abbrev F1 (es:Array (Int × Value)) (ep:Nat) (t:SetTable):Obj:={ cls:=.type "set",dict:=none,data:=.set es ep t }
noncomputable def SetZ (prog:Program) (w:World) (b:Bool) (h:Heap) (a:Addr) (zs:List Int):Prop:=∃es ep t,h.get? a=some (F1 es ep t)∧SetD prog w b es t zs
theorem EI.of {es:List (Int × Value)} (h:∀e∈es,EI prog w e):ElemsOf (intKind prog w) es:=fun e he=>by
 obtain ⟨k,t,rfl⟩:=h e he
 exact ⟨⟨k,intKind_is _ _ _ _,rfl⟩,rfl⟩
theorem SetD.more {b:Bool} {es es':Array (Int × Value)} {t t':SetTable} {zs:List Int} {k:Int} {tk:Tok} (h:SetD prog w b es t zs) (new:k ∉ (es.toList.map fun e=>toI e.2)) (p:List.Perm es'.toList (es.push ((intKind prog w).hash k,.int k tk)).toList) (f:t'.fits es'.size=true) (ok:CY b t'):SetD prog w b es' t' (zs++[k]):=by
 rw [Array.toList_push] at p
 refine ⟨fun e he=>?_,?_,fun i=>?_,?_,f,ok⟩
 ·rcases List.mem_append.mp (p.mem_iff.mp he) with he|he
  ·exact h.el e he
  ·rw [List.mem_singleton] at he;exact ⟨k,tk,he⟩
 ·rw [(p.map _).nodup_iff,List.map_append,List.nodup_append]
  refine ⟨h.nd,by simp,fun x hx y hy=>?_⟩
  have:y=k:=by simpa [toI] using hy
  subst this
  exact fun z=>new (z ▸ hx)
 ·rw [(p.map _).mem_iff,List.map_append,List.mem_append,List.mem_append,h.mem]
  simp [toI]
 ·have:=p.length_eq
  rw [Array.length_toList,List.length_append,Array.length_toList] at this
  have:=h.ln
  simp at *
  omega
end
end FW
namespace FW
noncomputable abbrev byT (w:World):Bool:=w.params.followText "set-order"
section
variable {prog:Program} {w:World} {A:Around} {E:Value→Shared→Prop} {s:Shared}
noncomputable def IsSI (h:Heap) (it:Addr) (first:Value) (i:Nat) (a:Addr) (n ep:Nat):Prop :=
 ∃o,h.get? it=some o∧o.cls=.type "set_iterator"∧o.data=.fields #[first,.int i 0,.ref a,.int n 0,.int ep 0]
theorem IsSI.typeIs {it:Addr} {first:Value} {i n ep:Nat} {a:Addr} (x:IsSI s.heap it first i a n ep):s.TypeIs (.ref it) "set_iterator":=let ⟨o,ho,hc,_⟩:=x;⟨o,ho,hc⟩
end
end FW
namespace FW
section
variable {prog:Program} {w:World} {A:Around} {E:Value→Shared→Prop} {s:Shared}
theorem SetZ.at {b:Bool} {h h':Heap} {a:Addr} {zs:List Int} (x:SetZ prog w b h a zs) (e:∀o,h.get? a=some o→h'.get? a=some o):SetZ prog w b h' a zs :=
 let ⟨es,ep,t,ho,d⟩:=x;⟨es,ep,t,e _ ho,d⟩
set_option maxHeartbeats 3200000 in
end
end FW
namespace L2
section
variable {X:Cx}
end
end L2
namespace L2
structure Hn (h:Heap) (f:Addr) (qual:Str) (params:Arguments) (body:Expr) (scope:Scope) (cl:List (Str × Addr)):Prop where
 ex:∃pm c' ctv,h.get? f=some (W.kla_obj "<lambda>" qual params body scope cl pm c' ctv)∧h.CodeRec (.ref c') qual
structure FG (x:Str) (scope:Scope) (cl:List (Str × Addr)):Prop where
 kind:scope.kind=.function
 co:scope.isCoroutine=false
 gen:scope.isGenerator=false
 nocell:∀y∈scope.names,y.2≠.cell
 par:scope.names.lookup x=some .local
 free:∀y,scope.names.lookup y=some .free→∃c,cl.lookup y=some c
 inj:∀y z c,cl.lookup y=some c→cl.lookup z=some c→y=z
end L2
namespace L2
noncomputable abbrev Fs (ps:Array Value) (pos:Pos) (c':Addr):Array Value:=ps++#[rawInt pos.line,rawInt pos.col,.ref c']
noncomputable abbrev Br (H:Hp) (T:Addr) (ps:Array Value) (pos:Pos) (c':Addr) (oc:Obj):Hp:=upd (upd H T (.tbl (Fs ps pos c'))) c' (.frz oc (.own 0))
noncomputable def yq (oc:Obj) (q:Str):Prop:=∃vs t,oc.data=.fields vs∧vs[1]?=some (.str q t)
end L2
namespace FW
open PySem L2 HX
inductive PV where
 | non|bl (b:Bool)|int (i:Int)|str (x:Str)|tup (xs:List PV)|ref (n:Nat)|rdl (xs:List PV)|fn (a:Nat)
 deriving Inhabited
inductive Cell where
 | lst (xs:List PV)
 | dk (kvs:List (Key × PV))
 | fz (kvs:List (Key × PV))
noncomputable abbrev AH:=List Cell
noncomputable abbrev Fr:=List (Option PV)
noncomputable abbrev EK:=PV→AH→Prop
noncomputable abbrev LK:=List PV→AH→Prop
noncomputable abbrev BK:=Bool→AH→Prop
noncomputable abbrev FSp:=List PV→AH→EK→Prop
mutual
noncomputable def PV.bel (k:Nat):PV→Bool
 | .ref n=>decide (n<k)
 | .tup xs=>PV.bels k xs
 | .rdl xs=>PV.bels k xs
 | .non=>true
 | .bl _=>true
 | .int _=>true
 | .str _=>true
 | .fn _=>false
noncomputable def PV.bels (k:Nat):List PV→Bool
 | []=>true
 | x::xs=>x.bel k && PV.bels k xs
end
mutual
noncomputable def PV.bec (k:Nat):PV→Bool
 | .ref n=>decide (n<k)
 | .tup xs=>PV.becs k xs
 | .rdl xs=>PV.becs k xs
 | .non=>true
 | .bl _=>true
 | .int _=>true
 | .str _=>true
 | .fn _=>true
noncomputable def PV.becs (k:Nat):List PV→Bool
 | []=>true
 | x::xs=>x.bec k && PV.becs k xs
end
mutual
theorem PV.bel_bec {i j:Nat} (h:i≤j):∀ {v:PV},v.bel i=true→v.bec j=true
 | .non,_=>by rw [PV.bec]
 | .bl _,_=>by rw [PV.bec]
 | .int _,_=>by rw [PV.bec]
 | .str _,_=>by rw [PV.bec]
 | .ref n,z=>by rw [PV.bel] at z;rw [PV.bec];have:=of_decide_eq_true z;exact decide_eq_true (by omega)
 | .tup xs,z=>by rw [PV.bel] at z;rw [PV.bec];exact PV.bels_becs h z
 | .rdl xs,z=>by rw [PV.bel] at z;rw [PV.bec];exact PV.bels_becs h z
 | .fn _,z=>by rw [PV.bel] at z;cases z
theorem PV.bels_becs {i j:Nat} (h:i≤j):∀ {vs:List PV},PV.bels i vs=true→PV.becs j vs=true
 | [],_=>by rw [PV.becs]
 | v::vs,z=>by rw [PV.bels,Bool.and_eq_true] at z;rw [PV.becs,Bool.and_eq_true];exact ⟨PV.bel_bec h z.1,PV.bels_becs h z.2⟩
end
noncomputable def Cell.bec (k:Nat):Cell→Bool
 | .lst xs=>PV.becs k xs
 | .dk kvs=>PV.becs k (kvs.map (·.2))
 | .fz kvs=>PV.becs k (kvs.map (·.2))
noncomputable def Cell.bel (k:Nat):Cell→Bool
 | .lst xs=>PV.bels k xs
 | .dk kvs=>PV.bels k (kvs.map (·.2))
 | .fz _=>false
mutual
noncomputable def PV.toD:PV→Option PyData
 | .non=>some .none
 | .bl b=>some (.bool b)
 | .int i=>some (.int i)
 | .str x=>some (.str x)
 | .tup xs=>(PV.toDs xs).map .tuple
 | .rdl xs=>(PV.toDs xs).map .list
 | .ref _=>none
 | .fn _=>none
noncomputable def PV.toDs:List PV→Option (List PyData)
 | []=>some []
 | x::xs=>match x.toD,PV.toDs xs with
  | some d,some ds=>some (d::ds)
  | _,_=>none
end
noncomputable def vk (st:AH):PV→Option PyData
 | .ref n=>match st[n]? with
  | some (.lst xs)=>(PV.toDs xs).map .list
  | _=>none
 | v=>v.toD
noncomputable def eqW (st:AH) (x y:PV) (k:Bool→Prop):Prop :=
 match x,y with
 | .int i,.int j=>k (decide (i=j))
 | .bl a,.bl b=>k (decide (a=b))
 | .str a,.str b=>k (decide (a=b))
 | x,y=>∃d e,vk st x=some d∧vk st y=some e∧SeqAt.shaped d=true∧SeqAt.shaped e=true∧k (PyData.eqv d e)
noncomputable def cj (st:AH):PV→Option String
 | .non=>some "NoneType"
 | .bl _=>some "bool"
 | .int _=>some "int"
 | .str _=>some "str"
 | .tup _=>some "tuple"
 | .rdl _=>some "list"
 | .ref n=>match st[n]? with
  | some (.lst _)=>some "list"
  | some (.dk _)=>some "dict"
  | some (.fz _)=>some "dict"
  | none=>none
 | .fn _=>none
noncomputable def br (st:AH):PV→Option (List PV)
 | .rdl xs=>some xs
 | .ref n=>match st[n]? with
  | some (.lst xs)=>some xs
  | _=>none
 | _=>none
noncomputable def bo (st:AH):PV→Option (List PV)
 | .tup xs=>some xs
 | v=>br st v
noncomputable def gC:PV→Bool
 | .non=>true
 | _=>false
noncomputable def iY (k:Bool):PV→Bool
 | .bl b=>b == k
 | _=>false
noncomputable def i4 (xs:List PV) (lo hi:Option Int):List PV:=(xs.drop (HT.sIx xs.length 0 lo)).take (HT.sIx xs.length xs.length hi-HT.sIx xs.length 0 lo)
noncomputable def b2z (b:Bool):Int:=if b then 1 else 0
noncomputable def iiW (f:Int→Int→Prop) (x y:PV):Prop :=
 match x with
 | .int i=>match y with
  | .int j=>f i j
  | _=>False
 | _=>False
noncomputable def GD (x y:PV) (st:AH) (Q:EK):Prop :=
 match x with
 | .int i=>match y with
  | .int j=>Q (.int (i+j)) st
  | _=>False
 | .ref n=>match y with
  | .ref k=>∃xs ys,st[n]?=some (.lst xs)∧st[k]?=some (.lst ys)∧xs.length+ys.length≤100000∧Q (.ref st.length) (st++[.lst (xs++ys)])
  | _=>False
 | .tup xs=>match y with
  | .tup ys=>xs.length+ys.length≤100000∧Q (.tup (xs++ys)) st
  | _=>False
 | .str a=>match y with
  | .str b=>a.length+b.length≤100000∧Q (.str (a++b)) st
  | _=>False
 | _=>False
noncomputable def GW (x y:PV) (st:AH) (Q:EK):Prop :=
 match x with
 | .int i=>match y with
  | .int j=>CMB i j∧Q (.int (i*j)) st
  | _=>False
 | .ref n=>match y with
  | .int k=>∃xs,st[n]?=some (.lst xs)∧-(2 ^ 63)≤k∧k<2 ^ 63∧xs.length*k.toNat≤100000∧Q (.ref st.length) (st++[.lst (List.replicate k.toNat xs).flatten])
  | _=>False
 | _=>False
noncomputable def iM (op:Operator) (x y:PV) (st:AH) (Q:EK):Prop :=
 match op with
 | .Add=>GD x y st Q
 | .Sub=>iiW (fun i j=>Q (.int (i-j)) st) x y
 | .Mult=>GW x y st Q
 | .FloorDiv=>iiW (fun i j=>CBig j∧Q (.int (i/j)) st) x y
 | .Mod=>iiW (fun i j=>0<j∧Q (.int (i % j)) st) x y
 | .Pow=>iiW (fun i j=>tD i j∧Q (.int (i ^ j.toNat)) st) x y
 | _=>False
noncomputable def fI (kvs:List (Key × PV)) (k:Key):Option PV:=(kvs.find? fun kv=>decide (kv.1=k)).map (·.2)
noncomputable def gb (kvs:List (Key × PV)) (k:Key) (v:PV):List (Key × PV) :=
 if (kvs.any fun kv=>decide (kv.1=k))=true then kvs.map (fun kv=>if kv.1=k then (kv.1,v) else kv) else kvs++[(k,v)]
noncomputable def kP:Key→PV
 | .inl i=>.int i
 | .inr x=>.str x
inductive DW where
 | keys|items
 deriving DecidableEq
noncomputable def aZ:DW→List (Key × PV)→List PV
 | .keys,kvs=>kvs.map fun p=>kP p.1
 | .items,kvs=>kvs.map fun p=>.tup [kP p.1,p.2]
noncomputable def prL (ps:List (Str × PV)):List PV:=ps.map fun p=>.tup [.str p.1,p.2]
noncomputable def eY (ps:List (Str × PV)):List (Key × PV):=ps.foldl (fun d p=>gb d (.inr p.1) p.2) []
noncomputable def sx (x y:PV):Prop:=x=y∧∃d,x.toD=some d∧SeqAt.shaped d=true
noncomputable def yt (st:AH) (x y:PV):Prop:=sx x y∨∃n k kvs lvs,x=.ref n∧y=.ref k∧st[n]?=some (.dk kvs)∧st[k]?=some (.dk lvs)∧kvs.length=lvs.length∧∀p∈kvs,∃u,fI lvs p.1=some u∧sx p.2 u
noncomputable def uc (st:AH):List PV→List PV→Prop
 | [],[]=>True
 | x::xs,y::ys=>yt st x y∧uc st xs ys
 | _,_=>False
noncomputable def oI (st:AH) (x y:PV):Prop:=(∃xs ys,x=.tup xs∧y=.tup ys∧uc st xs ys)∨∃n k,x=.ref n∧y=.ref k∧yt st x y
noncomputable def inR (a:Str) (n:Nat) (st:AH) (k:Bool→Prop):Prop :=
 (∃ns:List Str,st[n]?=some (.lst (ns.map PV.str))∧k (ns.any fun j=>j == a))∨∃kvs,(st[n]?=some (.dk kvs)∨st[n]?=some (.fz kvs))∧k (fI kvs (.inr a)).isSome
noncomputable def dZ (op:CmpOp) (x y:PV) (st:AH) (Q:EK):Prop :=
 match op with
 | .Eq=>eqW st x y fun k=>Q (.bl k) st
 | .NotEq=>eqW st x y fun k=>Q (.bl (!k)) st
 | .Is=>match y with
  | .non=>Q (.bl (gC x)) st
  | .bl k=>Q (.bl (iY k x)) st
  | _=>False
 | .IsNot=>match y with
  | .non=>Q (.bl (!gC x)) st
  | .bl k=>Q (.bl (!iY k x)) st
  | _=>False
 | .Lt=>match x,y with
  | .int i,.int j=>Q (.bl (decide (i<j))) st
  | _,_=>False
 | .LtE=>match x,y with
  | .int i,.int j=>Q (.bl (decide (i≤j))) st
  | _,_=>False
 | .Gt=>match x,y with
  | .int i,.int j=>Q (.bl (decide (j<i))) st
  | _,_=>False
 | .GtE=>match x,y with
  | .int i,.int j=>Q (.bl (decide (j≤i))) st
  | _,_=>False
 | .In=>match x,y with
  | .str a,.str b=>Q (.bl (!(Builtin.Str.occurrences b a 0 b.length 1).isEmpty)) st
  | .int i,.tup xs=>∃ns:List Int,xs=ns.map PV.int∧Q (.bl (ns.any fun j=>j == i)) st
  | .str a,.tup xs=>∃ns:List Str,xs=ns.map PV.str∧Q (.bl (ns.any fun j=>j == a)) st
  | .str a,.ref n=>inR a n st fun k=>Q (.bl k) st
  | _,_=>False
 | .NotIn=>match x,y with
  | .int i,.tup xs=>∃ns:List Int,xs=ns.map PV.int∧Q (.bl (!(ns.any fun j=>j == i))) st
  | .str a,.tup xs=>∃ns:List Str,xs=ns.map PV.str∧Q (.bl (!(ns.any fun j=>j == a))) st
  | .str a,.ref n=>inR a n st fun k=>Q (.bl (!k)) st
  | _,_=>False
noncomputable def ixI (i:Int) (st:AH) (Q:EK) (x:PV):Prop :=
 match x with
 | .str z=>z.length≤100000∧∃c,atI z.cps.toList i=some c∧Q (.str ⟨#[c]⟩) st
 | x=>∃xs,bo st x=some xs∧∃v,atI xs i=some v∧Q v st
theorem wB {i:Int} {st:AH} {Q:EK} {x:PV} (h:ixI i st Q x):(∃z c,x=.str z∧z.length≤100000∧atI z.cps.toList i=some c∧Q (.str ⟨#[c]⟩) st)∨∃xs v,bo st x=some xs∧atI xs i=some v∧Q v st:=by
 cases x with
 | str z=>exact .inl ⟨z,h.2.choose,rfl,h.1,h.2.choose_spec⟩
 | _=>obtain ⟨xs,e,v,e2,q⟩:=h;exact .inr ⟨xs,v,e,e2,q⟩
theorem B6 {i:Int} {st:AH} {Q:EK} {x:PV} {xs:List PV} {v:PV} (e:bo st x=some xs) (e2:atI xs i=some v) (h:Q v st):ixI i st Q x:=by
 cases x with|str z=>cases e|_=>exact ⟨xs,e,v,e2,h⟩
noncomputable def ixD (z:Str) (st:AH) (Q:EK) (x:PV):Prop :=
 match x with
 | .ref n=>∃kvs v,(st[n]?=some (.dk kvs)∨st[n]?=some (.fz kvs))∧fI kvs (.inr z)=some v∧Q v st
 | _=>False
theorem vV {z:Str} {st:AH} {Q:EK} {x:PV} (h:ixD z st Q x):∃n kvs v,x=.ref n∧(st[n]?=some (.dk kvs)∨st[n]?=some (.fz kvs))∧fI kvs (.inr z)=some v∧Q v st:=by
 cases x with
 | ref n=>obtain ⟨kvs,v,h⟩:=h;exact ⟨n,kvs,v,rfl,h⟩
 | _=>exact False.elim h
noncomputable def ixW (x y:PV) (st:AH) (Q:EK):Prop :=
 match y with
 | .int i=>ixI i st Q x
 | .str z=>ixD z st Q x
 | _=>False
noncomputable def jQ (z:Str) (lo hi:Option Int):Str:=if ((Builtin.Str.strSliceIndices lo hi 1 z.length).length == z.length)=true then z else ⟨((Builtin.Str.strSliceIndices lo hi 1 z.length).filterMap (z.cps[·]?)).toArray⟩
noncomputable def slW (x:PV) (lo hi:Option Int) (st:AH) (Q:EK):Prop :=
 match x with
 | .str z=>z.length≤100000∧Q (.str (jQ z lo hi)) st
 | .tup xs=>Q (.tup (i4 xs lo hi)) st
 | x=>∃xs,br st x=some xs∧Q (.ref st.length) (st++[.lst (i4 xs lo hi)])
noncomputable def Dz (st:AH) (Q:EK) (x:PV):Prop :=
 match x with
 | .str z=>z.length≤100000∧Q (.int z.length) st
 | x=>∃xs,bo st x=some xs∧Q (.int xs.length) st
theorem rH {st:AH} {Q:EK} {x:PV} (h:Dz st Q x):(∃z,x=.str z∧z.length≤100000∧Q (.int z.length) st)∨∃xs,bo st x=some xs∧Q (.int xs.length) st:=by
 cases x with|str z=>exact .inl ⟨z,rfl,h⟩|_=>exact .inr h
theorem zO {st:AH} {Q:EK} {x:PV} {xs:List PV} (e:bo st x=some xs) (h:Q (.int xs.length) st):Dz st Q x:=by
 cases x with|str z=>cases e|_=>exact ⟨xs,e,h⟩
noncomputable def C3 (st:AH) (Q:EK) (x:PV):Prop :=
 match x with
 | .bl b=>Q (.int (b2z b)) st
 | .str z=>z.length≤640∧∃n,PySem.intText? z=some n∧Q (.int n) st
 | _=>False
theorem oK {st:AH} {Q:EK} {x:PV} (h:C3 st Q x):(∃b,x=.bl b∧Q (.int (b2z b)) st)∨∃z n,x=.str z∧z.length≤640∧PySem.intText? z=some n∧Q (.int n) st:=by
 cases x with|bl b=>exact .inl ⟨b,rfl,h⟩|str z=>exact .inr ⟨z,h.2.choose,rfl,h.1,h.2.choose_spec⟩|_=>exact False.elim h
inductive B where
 | len|max2|min2|divmod|int1|str1|tuple1|list1|all1|any1|abs1|sorted1|repr1|sortS|max1|sortD
 deriving DecidableEq
noncomputable def lu:List PV→Option (List Bool)
 | []=>some []
 | .bl b::r=>(lu r).map (b::·)
 | _::_=>none
noncomputable def p_ (f:PV→Prop) (vs:List PV):Prop :=
 match vs with
 | [x]=>f x
 | _=>False
noncomputable def BE (f:PV→PV→Prop) (vs:List PV):Prop :=
 match vs with
 | [x,y]=>f x y
 | _=>False
noncomputable def d0 (b:B) (vs:List PV) (st:AH) (Q:EK):Prop :=
 match b with
 | .len=>p_ (Dz st Q) vs
 | .max2=>BE (iiW fun i j=>Q (.int (if i<j then j else i)) st) vs
 | .min2=>BE (iiW fun i j=>Q (.int (if j<i then j else i)) st) vs
 | .divmod=>BE (iiW fun i j=>CBig j∧Q (.tup [.int (i/j),.int (i % j)]) st) vs
 | .int1=>p_ (C3 st Q) vs
 | .str1=>False
 | .tuple1=>p_ (fun x=>∃xs,bo st x=some xs∧Q (.tup xs) st) vs
 | .list1=>p_ (fun x=>∃xs,bo st x=some xs∧Q (.ref st.length) (st++[.lst xs])) vs
 | .all1=>p_ (fun x=>∃xs bs,br st x=some xs∧lu xs=some bs∧Q (.bl (bs.all id)) st) vs
 | .any1=>False
 | .abs1=>False
 | .sorted1=>False
 | .repr1=>False
 | .sortS=>p_ (fun x=>∃ss:List Str,br st x=some (ss.map PV.str)∧ss.length<64∧∀ss':List Str,ss'.Perm ss→PyProof.Rows.sortedS ss'=true→Q (.ref st.length) (st++[.lst (ss'.map PV.str)])) vs
 | .max1=>False
 | .sortD=>p_ (fun x=>∃n,x=.ref n∧∃kvs,(st[n]?=some (.dk kvs)∨st[n]?=some (.fz kvs))∧∃ss:List Str,kvs.map (·.1)=ss.map Sum.inr∧ss.length<64∧∀ss':List Str,ss'.Perm ss→PyProof.Rows.sortedS ss'=true→Q (.ref st.length) (st++[.lst (ss'.map PV.str)])) vs
inductive M where
 | append|pop0|extend|insert|count
 deriving DecidableEq
noncomputable def rfW (f:Nat→Prop) (x:PV):Prop :=
 match x with
 | .ref n=>f n
 | _=>False
noncomputable def um (m:M) (x:PV) (vs:List PV) (st:AH) (Q:EK):Prop :=
 match m with
 | .append=>rfW (fun n=>p_ (fun v=>∃xs,st[n]?=some (.lst xs)∧xs.length<100000∧Q .non (st.set n (.lst (xs++[v])))) vs) x
 | .pop0=>False
 | .extend=>False
 | .insert=>False
 | .count=>False
theorem bR {f:Int→Int→Prop} {x y:PV} (h:iiW f x y):∃i j,x=.int i∧y=.int j∧f i j:=by
 cases x with
 | int i =>
  cases y with
  | int j=>exact ⟨i,j,rfl,rfl,h⟩
  | _=>exact False.elim h
 | _=>exact False.elim h
theorem aP {f:PV→Prop} {vs:List PV} (h:p_ f vs):∃x,vs=[x]∧f x:=by
 cases vs with
 | nil=>exact False.elim h
 | cons x t =>
  cases t with
  | nil=>exact ⟨x,rfl,h⟩
  | cons _ _=>exact False.elim h
theorem fE {f:PV→PV→Prop} {vs:List PV} (h:BE f vs):∃x y,vs=[x,y]∧f x y:=by
 cases vs with
 | nil=>exact False.elim h
 | cons x t =>
  cases t with
  | nil=>exact False.elim h
  | cons y t =>
   cases t with
   | nil=>exact ⟨x,y,rfl,h⟩
   | cons _ _=>exact False.elim h
theorem wx {f:Nat→Prop} {x:PV} (h:rfW f x):∃b,x=.ref b∧f b:=by
 cases x with
 | ref b=>exact ⟨b,rfl,h⟩
 | _=>exact False.elim h
noncomputable def fw (x:PV) (st:AH) (Q:BK):Prop :=
 match x with
 | .bl b=>Q b st
 | .non=>Q false st
 | .int i=>Q (i != 0) st
 | .str _=>False
 | x=>∃xs,bo st x=some xs∧Q (!xs.isEmpty) st
noncomputable def Sub (st st':AH):Prop:=∀i,i<st.length→st'[i]?=st[i]?∨∃c,st'[i]?=some c∧c.bel 0=true
noncomputable def Tmp (st:AH) (Q:EK):EK:=fun v st'=>∃st1 g,st'=st1++g∧st1.length=st.length∧Sub st st1∧v.bel st.length=true∧Q v st1
noncomputable def Ret (st:AH) (Q:EK):EK:=fun v st'=>Q v st'∨Tmp st Q v st'
mutual
inductive E where
 | var (i:Nat)|int (i:Int)|bl (b:Bool)|non|str (x:Str)|gv (x:Str) (v:PV)
 | tup (es:Es)|lst (es:Es)|dct0|dct1 (k:Str) (i:Int)
 | bin (op:Operator) (a b:E)|neg (a:E)|not (a:E)
 | cmp (op:CmpOp) (a b:E)
 | bop (isAnd:Bool) (es:Es)
 | ite (c a b:E)
 | ix (a b:E)|sl (a:E) (lo hi:O)
 | call (f:Nat) (es:Es)
 | blt (b:B) (es:Es)
 | inst (a:E) (t:String)
 | met (m:M) (o:E) (es:Es)
 | comp (elt:E) (tg:Tg) (it:It) (ifs:Es) (nt:List Str) (caps:List Nat)
 | tmp (a:E)
 | bad
 | jrev (a:E)|part (a:E) (y:Str)|sset (a:E)|clr (a:E)|dcp (a:E)
 | pcall (i:Nat) (e:E)|hm (e be:E) (caps:List Nat)
 | compK (elt:E) (tg:Tg) (wk:DW) (e:E) (ifs:Es) (nt:List Str) (caps:List Nat)
 | compD (kx vx:E) (tg:Tg) (wk:DW) (e:E) (ifs:Es) (nt:List Str) (caps:List Nat)
 | dcl (a:E)|eqd (ne:Bool) (a b:E)|dct2 (k v:E)
inductive Es where
 | nil|cons (e:E) (es:Es)
inductive O where
 | no|yes (e:E)
inductive It where
 | seq (e:E)|range1 (a:E)|range2 (a b:E)|zip (a b:E)|enum (a:E)|chars (e:E)|range3 (a b c:E)|zip3 (a b c:E)
inductive Tg where
 | name (i:Nat)|tup (ts:Tgs)|ltup (ts:Tgs)|sub (o i:E)
inductive Tgs where
 | nil|cons (t:Tg) (ts:Tgs)
end
noncomputable def Tgs.size:Tgs→Nat
 | .nil=>0
 | .cons _ ts=>ts.size+1
noncomputable def pP (o i v:PV) (st:AH) (k:AH→Prop):Prop :=
 match o,i with
 | .ref n,.int j=>∃xs,st[n]?=some (.lst xs)∧∃q,ixN xs.length j=some q∧k (st.set n (.lst (xs.set q v)))
 | .ref n,.str z=>∃kvs,st[n]?=some (.dk kvs)∧kvs.length≤1000∧k (st.set n (.dk (gb kvs (.inr z) v)))
 | _,_=>False
noncomputable def aQ (chk:AH→Prop) (body:PV→AH→(Option PV→AH→Prop)→Prop):List PV→List PV→AH→LK→Prop
 | [],acc,st,Q=>chk st∧Q acc st
 | x::xs,acc,st,Q=>chk st∧body x st fun o st'=>aQ chk body xs (acc++o.toList) st' Q
noncomputable def iI (st:AH):PV→AH→Prop
 | .ref n=>fun st'=>st'[n]?=st[n]?
 | _=>fun _=>True
noncomputable def dL (lo:Int) (n:Nat):List PV:=(List.range n).map fun (i:Nat)=>PV.int (lo+(i:Int))
noncomputable def gi:List PV→List PV→List PV
 | x::xs,y::ys=>.tup [x,y]::gi xs ys
 | _,_=>[]
noncomputable def gJ (z:Str):List PV:=z.cps.toList.map fun c=>.str ⟨#[c]⟩
noncomputable def ED (g:PV→Bool) (xs:List PV):Nat→Nat→Nat→Nat
 | 0,lo,_=>lo
 | n+1,lo,hi=>if lo<hi then (if g (xs.getD ((lo+hi)/2) .non)=true then ED g xs n ((lo+hi)/2+1) hi else ED g xs n lo ((lo+hi)/2)) else lo
noncomputable def bsr (g:PV→Bool) (xs:List PV):Nat:=ED g xs xs.length 0 xs.length
section
variable (Γ:Nat→FSp)
mutual
noncomputable def wpE:E→Fr→AH→EK→Prop
 | .var i,ρ,st,Q=>∃v,ρ[i]?=some (some v)∧Q v st
 | .int i,_,st,Q=>Q (.int i) st
 | .bl b,_,st,Q=>Q (.bl b) st
 | .non,_,st,Q=>Q .non st
 | .str x,_,st,Q=>Q (.str x) st
 | .gv _ v,_,st,Q=>Q v st
 | .tup es,ρ,st,Q=>cV es ρ st fun vs st1=>vs.length≤100000∧Q (.tup vs) st1
 | .lst es,ρ,st,Q=>cV es ρ st fun vs st1=>vs.length≤100000∧Q (.ref st1.length) (st1++[.lst vs])
 | .dct0,_,st,Q=>Q (.ref st.length) (st++[.dk []])
 | .dct1 _ _,_,_,_=>False
 | .bin op a b,ρ,st,Q=>wpE a ρ st fun x st1=>wpE b ρ st1 fun y st2=>iM op x y st2 Q
 | .neg a,ρ,st,Q=>wpE a ρ st fun x st1=>∃i,x=.int i∧Q (.int (-i)) st1
 | .not a,ρ,st,Q=>wpE a ρ st fun x st1=>∃c,x=.bl c∧Q (.bl (!c)) st1
 | .cmp op a b,ρ,st,Q=>wpE a ρ st fun x st1=>wpE b ρ st1 fun y st2=>dZ op x y st2 Q
 | .bop true es,ρ,st,Q=>pQ es ρ st Q
 | .bop false es,ρ,st,Q=>pN es ρ st Q
 | .ite c a b,ρ,st,Q=>wpT c ρ st fun k st1=>if k=true then wpE a ρ st1 Q else wpE b ρ st1 Q
 | .ix a b,ρ,st,Q=>wpE a ρ st fun x st1=>wpE b ρ st1 fun y st2=>ixW x y st2 Q
 | .sl a lo hi,ρ,st,Q=>wpE a ρ st fun x st1=>wpO lo ρ st1 fun l st2=>wpO hi ρ st2 fun h st3=>slW x l h st3 Q
 | .call f es,ρ,st,Q=>cV es ρ st fun vs st1=>Γ f vs st1 Q
 | .blt b es,ρ,st,Q=>cV es ρ st fun vs st1=>d0 b vs st1 Q
 | .inst a t,ρ,st,Q=>wpE a ρ st fun x st1=>∃n,cj st1 x=some n∧Q (.bl (fk t n)) st1
 | .met m o es,ρ,st,Q=>wpE o ρ st fun x st1=>(∃xs,br st1 x=some xs)∧cV es ρ st1 fun vs st2=>um m x vs st2 Q
 | .comp elt tg it ifs nt caps,ρ,st,Q=>i8 it ρ st fun xs chk st1 =>
   xs.length<100000∧aQ chk (fun x st2 k=>bF tg x (nt.map (fun _=>none)++caps.map fun i=>(ρ[i]?).join) st2 fun ρ' st3=>dX ifs ρ' st3 fun c st4 =>
    if c=true then wpE elt ρ' st4 fun v st5=>k (some v) st5 else k none st4) xs [] st1 fun vs st2=>Q (.ref st2.length) (st2++[.lst vs])
 | .tmp a,ρ,st,Q=>wpE a ρ st (Tmp st Q)
 | .bad,_,_,_=>False
 | .jrev _,_,_,_=>False
 | .part _ _,_,_,_=>False
 | .dcp a,ρ,st,Q=>wpE a ρ st fun x st1=>∃n,x=.ref n∧∃kvs,st1[n]?=some (.dk kvs)∧Q (.ref st1.length) (st1++[.dk kvs])
 | .clr a,ρ,st,Q=>wpE a ρ st fun x st1=>∃n,x=.ref n∧∃kvs,st1[n]?=some (.dk kvs)∧Q .non (st1.set n (.dk []))
 | .sset _,_,_,_=>False
 | .pcall _ _,_,_,_=>False
 | .hm _ _ _,_,_,_=>False
 | .compK elt tg wk e ifs nt caps,ρ,st,Q=>wpE e ρ st fun x st1=>∃n,x=.ref n∧∃kvs,st1[n]?=some (.dk kvs)∧kvs.length<100000 ∧
   aQ (fun _=>True) (fun x st2 k=>bF tg x (nt.map (fun _=>none)++caps.map fun i=>(ρ[i]?).join) st2 fun ρ' st3=>dX ifs ρ' st3 fun c st4 =>
    if c=true then wpE elt ρ' st4 fun v st5=>k (some v) st5 else k none st4) (aZ wk kvs) [] (st1.set n (.fz kvs)) fun vs st2=>st2[n]?=some (.fz kvs)∧Q (.ref st2.length) (st2.set n (.dk kvs)++[.lst vs])
 | .compD kx vx tg wk e ifs nt caps,ρ,st,Q=>wpE e ρ st fun x st1=>∃n,x=.ref n∧∃kvs,st1[n]?=some (.dk kvs)∧kvs.length<1000 ∧
   aQ (fun _=>True) (fun x st2 k=>bF tg x (nt.map (fun _=>none)++caps.map fun i=>(ρ[i]?).join) st2 fun ρ' st3=>dX ifs ρ' st3 fun c st4 =>
    if c=true then wpE kx ρ' st4 fun u st5=>wpE vx ρ' st5 fun v st6=>∃z,u=.str z∧k (some (.tup [u,v])) st6 else k none st4) (aZ wk kvs) [] (st1.set n (.fz kvs)) fun vs st2=>st2[n]?=some (.fz kvs)∧∀ps,vs=prL ps→Q (.ref st2.length) (st2.set n (.dk kvs)++[.dk (eY ps)])
 | .dct2 k v,ρ,st,Q=>wpE k ρ st fun x st1=>∃z,x=.str z∧wpE v ρ st1 fun y st2=>Q (.ref st2.length) (st2++[.dk [(.inr z,y)]])
 | .dcl _,_,_,_=>False
 | .eqd ne a b,ρ,st,Q=>wpE a ρ st fun x st1=>wpE b ρ st1 fun y st2=>oI st2 x y∧Q (.bl (!ne)) st2
noncomputable def cV:Es→Fr→AH→LK→Prop
 | .nil,_,st,Q=>Q [] st
 | .cons e es,ρ,st,Q=>wpE e ρ st fun x st1=>cV es ρ st1 fun xs st2=>Q (x::xs) st2
noncomputable def wpO:O→Fr→AH→(Option Int→AH→Prop)→Prop
 | .no,_,st,Q=>Q none st
 | .yes e,ρ,st,Q=>wpE e ρ st fun x st1=>∃i,x=.int i∧Q (some i) st1
noncomputable def wpT:E→Fr→AH→BK→Prop
 | .bop true es,ρ,st,Q=>dX es ρ st Q
 | .bop false es,ρ,st,Q=>qI es ρ st Q
 | .not a,ρ,st,Q=>wpT a ρ st fun c st1=>Q (!c) st1
 | .cmp op a b,ρ,st,Q=>wpE a ρ st fun x st1=>wpE b ρ st1 fun y st2=>dZ op x y st2 fun v st3=>∃c,v=.bl c∧Q c st3
 | .var i,ρ,st,Q=>∃v,ρ[i]?=some (some v)∧fw v st Q
 | .call f es,ρ,st,Q=>cV es ρ st fun vs st1=>Γ f vs st1 fun v st2=>fw v st2 Q
 | .blt b es,ρ,st,Q=>cV es ρ st fun vs st1=>d0 b vs st1 fun v st2=>fw v st2 Q
 | .inst a t,ρ,st,Q=>wpE a ρ st fun x st1=>∃n,cj st1 x=some n∧Q (fk t n) st1
 | .tmp a,ρ,st,Q=>wpE a ρ st (Tmp st fun v st1=>fw v st1 Q)
 | .ix a b,ρ,st,Q=>wpE a ρ st fun x st1=>wpE b ρ st1 fun y st2=>ixW x y st2 fun v st3=>fw v st3 Q
 | .pcall _ _,_,_,_=>False
 | .eqd ne a b,ρ,st,Q=>wpE a ρ st fun x st1=>wpE b ρ st1 fun y st2=>oI st2 x y∧Q (!ne) st2
 | _,_,_,_=>False
noncomputable def pQ:Es→Fr→AH→EK→Prop
 | .nil,_,_,_=>False
 | .cons e .nil,ρ,st,Q=>wpE e ρ st Q
 | .cons e es,ρ,st,Q=>wpE e ρ st fun x st1=>∃c,x=.bl c∧if c=true then pQ es ρ st1 Q else Q (.bl false) st1
noncomputable def pN:Es→Fr→AH→EK→Prop
 | .nil,_,_,_=>False
 | .cons e .nil,ρ,st,Q=>wpE e ρ st Q
 | .cons e es,ρ,st,Q=>wpE e ρ st fun x st1=>∃c,x=.bl c∧if c=true then Q (.bl true) st1 else pN es ρ st1 Q
noncomputable def dX:Es→Fr→AH→BK→Prop
 | .nil,_,st,Q=>Q true st
 | .cons e .nil,ρ,st,Q=>wpT e ρ st Q
 | .cons e es,ρ,st,Q=>wpT e ρ st fun c st1=>if c=true then dX es ρ st1 Q else Q false st1
noncomputable def qI:Es→Fr→AH→BK→Prop
 | .nil,_,st,Q=>Q false st
 | .cons e .nil,ρ,st,Q=>wpT e ρ st Q
 | .cons e es,ρ,st,Q=>wpT e ρ st fun c st1=>if c=true then Q true st1 else qI es ρ st1 Q
noncomputable def i8:It→Fr→AH→(List PV→(AH→Prop)→AH→Prop)→Prop
 | .seq e,ρ,st,Q=>wpE e ρ st fun x st1=>∃xs,bo st1 x=some xs∧Q xs (iI st1 x) st1
 | .range1 a,ρ,st,Q=>wpE a ρ st fun x st1=>∃j,x=.int j∧-(2 ^ 62)≤j∧j<2 ^ 62∧Q (dL 0 j.toNat) (fun _=>True) st1
 | .range2 _ _,_,_,_=>False
 | .zip a b,ρ,st,Q=>wpE a ρ st fun x st1=>wpE b ρ st1 fun y st2=>∃xs ys,bo st2 x=some xs∧bo st2 y=some ys∧Q (gi xs ys) (fun st'=>iI st2 x st'∧iI st2 y st') st2
 | .zip3 _ _ _,_,_,_=>False
 | .enum _,_,_,_=>False
 | .chars a,ρ,st,Q=>wpE a ρ st fun x st1=>∃z,x=.str z∧Q (gJ z) (fun _=>True) st1
 | .range3 _ _ _,_,_,_=>False
noncomputable def bF:Tg→PV→Fr→AH→(Fr→AH→Prop)→Prop
 | .name i,v,ρ,st,Q=>Q (ρ.set i (some v)) st
 | .tup ts,v,ρ,st,Q=>∃xs,v=.tup xs∧xs.length=ts.size∧gu ts xs ρ st Q
 | .ltup _,_,_,_,_=>False
 | .sub o i,v,ρ,st,Q=>wpE o ρ st fun x st1=>wpE i ρ st1 fun y st2=>pP x y v st2 fun st3=>Q ρ st3
noncomputable def gu:Tgs→List PV→Fr→AH→(Fr→AH→Prop)→Prop
 | .nil,vs,ρ,st,Q=>vs=[]∧Q ρ st
 | .cons t ts,vs,ρ,st,Q=>∃v r,vs=v::r∧bF t v ρ st fun ρ' st'=>gu ts r ρ' st' Q
end
end
mutual
inductive S where
 | set (t:Tg) (e:E)|par (i j:Nat) (a b:E)|aug (i:Nat) (op:Operator) (e:E)|expr (e:E)|ret (e:E)|retN
 | ifS (c:E) (a b:Ss)|whileS (c:E) (b:Ss)|forS (t:Tg) (it:It) (b:Ss)|pass|brk|cont|bad|set2 (i j:Nat) (e:E)|forK (t:Tg) (wk:DW) (e:E) (b:Ss)
inductive Ss where
 | nil|cons (s:S) (ss:Ss)
end
structure aL where
 nx:Fr→AH→Prop
 rt:EK
 bk:Fr→AH→Prop:=fun _ _=>False
 ct:Fr→AH→Prop:=fun _ _=>False
noncomputable def fzD (n:Nat) (kvs:List (Key × PV)) (D:aL):aL:={ nx:=fun ρ st=>st[n]?=some (.fz kvs)∧D.nx ρ (st.set n (.dk kvs)),rt:=fun v st=>st[n]?=some (.fz kvs)∧D.rt v (st.set n (.dk kvs)) }
noncomputable def lE (chk:AH→Prop) (body:PV→Fr→AH→aL→Prop) (D:aL):List PV→Fr→AH→Prop
 | [],ρ,st=>chk st∧D.nx ρ st
 | x::xs,ρ,st=>chk st∧body x ρ st { nx:=lE chk body D xs,ct:=lE chk body D xs,bk:=D.nx,rt:=D.rt }
noncomputable def eL (c:Fr→AH→BK→Prop) (body:Fr→AH→aL→Prop) (D:aL):Nat→Fr→AH→Prop
 | 0,_,_=>False
 | n+1,ρ,st=>c ρ st fun k st1=>if k=true then body ρ st1 { nx:=eL c body D n,ct:=eL c body D n,bk:=D.nx,rt:=D.rt } else D.nx ρ st1
section
variable (Γ:Nat→FSp)
mutual
noncomputable def wpS:S→Fr→AH→aL→Prop
 | .set t e,ρ,st,D=>wpE Γ e ρ st fun v st1=>bF Γ t v ρ st1 D.nx
 | .par i j a b,ρ,st,D=>wpE Γ a ρ st fun x st1=>wpE Γ b ρ st1 fun y st2=>D.nx ((ρ.set i (some x)).set j (some y)) st2
 | .aug _ _ _,_,_,_=>False
 | .expr e,ρ,st,D=>wpE Γ e ρ st fun _ st1=>D.nx ρ st1
 | .ret e,ρ,st,D=>wpE Γ e ρ st D.rt
 | .retN,_,st,D=>D.rt .non st
 | .ifS c a b,ρ,st,D=>wpT Γ c ρ st fun k st1=>if k=true then au a ρ st1 D else au b ρ st1 D
 | .whileS c b,ρ,st,D=>∃n,eL (wpT Γ c) (au b) D n ρ st
 | .forS t it b,ρ,st,D=>i8 Γ it ρ st fun xs chk st1=>lE chk (fun x ρ' st' D'=>bF Γ t x ρ' st' fun ρ2 st2=>au b ρ2 st2 D') D xs ρ st1
 | .pass,ρ,st,D=>D.nx ρ st
 | .brk,ρ,st,D=>D.bk ρ st
 | .cont,ρ,st,D=>D.ct ρ st
 | .bad,_,_,_=>False
 | .forK t wk e b,ρ,st,D=>wpE Γ e ρ st fun x st1=>∃n,x=.ref n∧∃kvs,st1[n]?=some (.dk kvs)∧lE (fun _=>True) (fun x ρ' st' D'=>bF Γ t x ρ' st' fun ρ2 st2=>au b ρ2 st2 D') (fzD n kvs D) (aZ wk kvs) ρ (st1.set n (.fz kvs))
 | .set2 i j e,ρ,st,D=>wpE Γ e ρ st fun v st1=>D.nx ((ρ.set i (some v)).set j (some v)) st1
noncomputable def au:Ss→Fr→AH→aL→Prop
 | .nil,ρ,st,D=>D.nx ρ st
 | .cons s ss,ρ,st,D=>wpS s ρ st { D with nx:=fun ρ' st'=>au ss ρ' st' D }
end
end
section
variable {Γ:Nat→FSp} {ρ:Fr} {st:AH} {Q:EK} {D:aL} {a b c:E} {es:Es}
theorem vh:au Γ .nil ρ st D=D.nx ρ st:=rfl
theorem uS {s:S}:au Γ (.cons s .nil) ρ st D=wpS Γ s ρ st D:=rfl
theorem tB {t:Tg}:wpS Γ (.set t a) ρ st D=wpE Γ a ρ st fun v st1=>bF Γ t v ρ st1 D.nx:=rfl
theorem Bc {i j:Nat}:wpS Γ (.par i j a b) ρ st D=wpE Γ a ρ st fun x st1=>wpE Γ b ρ st1 fun y st2=>D.nx ((ρ.set i (some x)).set j (some y)) st2:=rfl
theorem vO:wpS Γ (.expr a) ρ st D=wpE Γ a ρ st fun _ st1=>D.nx ρ st1:=rfl
theorem yk:wpS Γ (.ret a) ρ st D=wpE Γ a ρ st fun v st1=>D.rt v st1:=rfl
theorem uL:wpS Γ .retN ρ st D=D.rt .non st:=rfl
theorem EX {x y:Ss}:wpS Γ (.ifS c x y) ρ st D=wpT Γ c ρ st fun k st1=>if k=true then au Γ x ρ st1 D else au Γ y ρ st1 D:=rfl
theorem u7:wpS Γ .pass ρ st D=D.nx ρ st:=rfl
theorem uU {i j:Nat}:wpS Γ (.set2 i j a) ρ st D=wpE Γ a ρ st fun v st1=>D.nx ((ρ.set i (some v)).set j (some v)) st1:=rfl
theorem A6:wpS Γ .brk ρ st D=D.bk ρ st:=rfl
theorem uN:wpS Γ .cont ρ st D=D.ct ρ st:=rfl
theorem Bk {i:Nat}:wpE Γ (.var i) ρ st Q=∃v,ρ[i]?=some (some v)∧Q v st:=rfl
theorem zA {i:Int}:wpE Γ (.int i) ρ st Q=Q (.int i) st:=rfl
theorem Ez {i:Bool}:wpE Γ (.bl i) ρ st Q=Q (.bl i) st:=rfl
theorem AX:wpE Γ .non ρ st Q=Q .non st:=rfl
theorem Bu {i:Str}:wpE Γ (.str i) ρ st Q=Q (.str i) st:=rfl
theorem Dp {x:Str} {v:PV}:wpE Γ (.gv x v) ρ st Q=Q v st:=rfl
theorem yT:wpE Γ (.tup es) ρ st Q=cV Γ es ρ st fun vs st1=>vs.length≤100000∧Q (.tup vs) st1:=rfl
theorem yP:wpE Γ (.lst es) ρ st Q=cV Γ es ρ st fun vs st1=>vs.length≤100000∧Q (.ref st1.length) (st1++[.lst vs]):=rfl
theorem vC:wpE Γ .dct0 ρ st Q=Q (.ref st.length) (st++[.dk []]):=rfl
theorem AQ {op:Operator}:wpE Γ (.bin op a b) ρ st Q=wpE Γ a ρ st fun x st1=>wpE Γ b ρ st1 fun y st2=>iM op x y st2 Q:=rfl
theorem AM:wpE Γ (.neg a) ρ st Q=wpE Γ a ρ st fun x st1=>∃i,x=.int i∧Q (.int (-i)) st1:=rfl
theorem AL:wpE Γ (.not a) ρ st Q=wpE Γ a ρ st fun x st1=>∃c,x=.bl c∧Q (.bl (!c)) st1:=rfl
theorem zQ {op:CmpOp}:wpE Γ (.cmp op a b) ρ st Q=wpE Γ a ρ st fun x st1=>wpE Γ b ρ st1 fun y st2=>dZ op x y st2 Q:=rfl
theorem ya:wpE Γ (.bop true es) ρ st Q=pQ Γ es ρ st Q:=rfl
theorem DB:wpE Γ (.bop false es) ρ st Q=pN Γ es ρ st Q:=rfl
theorem yM:wpE Γ (.ite c a b) ρ st Q=wpT Γ c ρ st fun k st1=>if k=true then wpE Γ a ρ st1 Q else wpE Γ b ρ st1 Q:=rfl
theorem DM:wpE Γ (.ix a b) ρ st Q=wpE Γ a ρ st fun x st1=>wpE Γ b ρ st1 fun y st2=>ixW x y st2 Q:=rfl
theorem E4 {lo hi:O}:wpE Γ (.sl a lo hi) ρ st Q=wpE Γ a ρ st fun x st1=>wpO Γ lo ρ st1 fun l st2=>wpO Γ hi ρ st2 fun h st3=>slW x l h st3 Q:=rfl
theorem uY {f:Nat}:wpE Γ (.call f es) ρ st Q=cV Γ es ρ st fun vs st1=>Γ f vs st1 Q:=rfl
theorem AU {f:B}:wpE Γ (.blt f es) ρ st Q=cV Γ es ρ st fun vs st1=>d0 f vs st1 Q:=rfl
theorem tX {t:String}:wpE Γ (.inst a t) ρ st Q=wpE Γ a ρ st fun x st1=>∃n,cj st1 x=some n∧Q (.bl (fk t n)) st1:=rfl
theorem Aj {m:M}:wpE Γ (.met m a es) ρ st Q=wpE Γ a ρ st fun x st1=>(∃xs,br st1 x=some xs)∧cV Γ es ρ st1 fun vs st2=>um m x vs st2 Q:=rfl
theorem zB:wpE Γ (.dcp a) ρ st Q=wpE Γ a ρ st fun x st1=>∃n,x=.ref n∧∃kvs,st1[n]?=some (.dk kvs)∧Q (.ref st1.length) (st1++[.dk kvs]):=rfl
theorem zZ:wpE Γ (.clr a) ρ st Q=wpE Γ a ρ st fun x st1=>∃n,x=.ref n∧∃kvs,st1[n]?=some (.dk kvs)∧Q .non (st1.set n (.dk [])):=rfl
theorem BD {elt e:E} {tg:Tg} {wk:DW} {ifs:Es} {nt:List Str} {caps:List Nat}:wpE Γ (.compK elt tg wk e ifs nt caps) ρ st Q=wpE Γ e ρ st fun x st1=>∃n,x=.ref n∧∃kvs,st1[n]?=some (.dk kvs)∧kvs.length<100000 ∧
   aQ (fun _=>True) (fun x st2 k=>bF Γ tg x (nt.map (fun _=>none)++caps.map fun i=>(ρ[i]?).join) st2 fun ρ' st3=>dX Γ ifs ρ' st3 fun c st4 =>
    if c=true then wpE Γ elt ρ' st4 fun v st5=>k (some v) st5 else k none st4) (aZ wk kvs) [] (st1.set n (.fz kvs)) fun vs st2=>st2[n]?=some (.fz kvs)∧Q (.ref st2.length) (st2.set n (.dk kvs)++[.lst vs]):=rfl
theorem BW {kx vx e:E} {tg:Tg} {wk:DW} {ifs:Es} {nt:List Str} {caps:List Nat}:wpE Γ (.compD kx vx tg wk e ifs nt caps) ρ st Q=wpE Γ e ρ st fun x st1=>∃n,x=.ref n∧∃kvs,st1[n]?=some (.dk kvs)∧kvs.length<1000 ∧
   aQ (fun _=>True) (fun x st2 k=>bF Γ tg x (nt.map (fun _=>none)++caps.map fun i=>(ρ[i]?).join) st2 fun ρ' st3=>dX Γ ifs ρ' st3 fun c st4 =>
    if c=true then wpE Γ kx ρ' st4 fun u st5=>wpE Γ vx ρ' st5 fun v st6=>∃z,u=.str z∧k (some (.tup [u,v])) st6 else k none st4) (aZ wk kvs) [] (st1.set n (.fz kvs)) fun vs st2=>st2[n]?=some (.fz kvs)∧∀ps,vs=prL ps→Q (.ref st2.length) (st2.set n (.dk kvs)++[.dk (eY ps)]):=rfl
theorem ut:wpE Γ (.dct2 a b) ρ st Q=wpE Γ a ρ st fun x st1=>∃z,x=.str z∧wpE Γ b ρ st1 fun y st2=>Q (.ref st2.length) (st2++[.dk [(.inr z,y)]]):=rfl
theorem Bz {ne:Bool}:wpE Γ (.eqd ne a b) ρ st Q=wpE Γ a ρ st fun x st1=>wpE Γ b ρ st1 fun y st2=>oI st2 x y∧Q (.bl (!ne)) st2:=rfl
theorem AF:wpE Γ (.tmp a) ρ st Q=wpE Γ a ρ st fun v st1=>Tmp st Q v st1:=rfl
variable {LQ:LK} {BQ:BK} {e e2:E} {i:Nat} {v:PV} {FQ:Fr→AH→Prop} {IQ:List PV→(AH→Prop)→AH→Prop}
theorem uj:cV Γ .nil ρ st LQ=LQ [] st:=rfl
theorem q8:cV Γ (.cons e es) ρ st LQ=wpE Γ e ρ st fun x st1=>cV Γ es ρ st1 fun xs st2=>LQ (x::xs) st2:=rfl
theorem Eh {OQ:Option Int→AH→Prop}:wpO Γ .no ρ st OQ=OQ none st:=rfl
theorem AC {OQ:Option Int→AH→Prop}:wpO Γ (.yes e) ρ st OQ=wpE Γ e ρ st fun x st1=>∃i,x=.int i∧OQ (some i) st1:=rfl
theorem yu:wpT Γ (.bop true es) ρ st BQ=dX Γ es ρ st BQ:=rfl
theorem Ee:wpT Γ (.bop false es) ρ st BQ=qI Γ es ρ st BQ:=rfl
theorem A3:wpT Γ (.not a) ρ st BQ=wpT Γ a ρ st fun c st1=>BQ (!c) st1:=rfl
theorem zP {op:CmpOp}:wpT Γ (.cmp op a b) ρ st BQ=wpE Γ a ρ st fun x st1=>wpE Γ b ρ st1 fun y st2=>dZ op x y st2 fun v st3=>∃c,v=.bl c∧BQ c st3:=rfl
theorem Au:wpT Γ (.var i) ρ st BQ=∃v,ρ[i]?=some (some v)∧fw v st BQ:=rfl
theorem vc {f:Nat}:wpT Γ (.call f es) ρ st BQ=cV Γ es ρ st fun vs st1=>Γ f vs st1 fun v st2=>fw v st2 BQ:=rfl
theorem Ac {f:B}:wpT Γ (.blt f es) ρ st BQ=cV Γ es ρ st fun vs st1=>d0 f vs st1 fun v st2=>fw v st2 BQ:=rfl
theorem vi {t:String}:wpT Γ (.inst a t) ρ st BQ=wpE Γ a ρ st fun x st1=>∃n,cj st1 x=some n∧BQ (fk t n) st1:=rfl
theorem zR {ne:Bool}:wpT Γ (.eqd ne a b) ρ st BQ=wpE Γ a ρ st fun x st1=>wpE Γ b ρ st1 fun y st2=>oI st2 x y∧BQ (!ne) st2:=rfl
theorem zK:wpT Γ (.tmp a) ρ st BQ=wpE Γ a ρ st fun v st1=>Tmp st (fun v st1=>fw v st1 BQ) v st1:=rfl
theorem Ei:wpT Γ (.ix a b) ρ st BQ=wpE Γ a ρ st fun x st1=>wpE Γ b ρ st1 fun y st2=>ixW x y st2 fun v st3=>fw v st3 BQ:=rfl
theorem ul:pQ Γ (.cons e .nil) ρ st Q=wpE Γ e ρ st Q:=rfl
theorem pO:pQ Γ (.cons e (.cons e2 es)) ρ st Q=wpE Γ e ρ st fun x st1=>∃c,x=.bl c∧if c=true then pQ Γ (.cons e2 es) ρ st1 Q else Q (.bl false) st1:=rfl
theorem tK:pN Γ (.cons e .nil) ρ st Q=wpE Γ e ρ st Q:=rfl
theorem qh:pN Γ (.cons e (.cons e2 es)) ρ st Q=wpE Γ e ρ st fun x st1=>∃c,x=.bl c∧if c=true then Q (.bl true) st1 else pN Γ (.cons e2 es) ρ st1 Q:=rfl
theorem qx:dX Γ .nil ρ st BQ=BQ true st:=rfl
theorem vo:dX Γ (.cons e .nil) ρ st BQ=wpT Γ e ρ st BQ:=rfl
theorem qB:dX Γ (.cons e (.cons e2 es)) ρ st BQ=wpT Γ e ρ st fun c st1=>if c=true then dX Γ (.cons e2 es) ρ st1 BQ else BQ false st1:=rfl
theorem t6:qI Γ (.cons e .nil) ρ st BQ=wpT Γ e ρ st BQ:=rfl
theorem qw:qI Γ (.cons e (.cons e2 es)) ρ st BQ=wpT Γ e ρ st fun c st1=>if c=true then BQ true st1 else qI Γ (.cons e2 es) ρ st1 BQ:=rfl
theorem vI:i8 Γ (.seq e) ρ st IQ=wpE Γ e ρ st fun x st1=>∃xs,bo st1 x=some xs∧IQ xs (iI st1 x) st1:=rfl
theorem AI:i8 Γ (.range1 a) ρ st IQ=wpE Γ a ρ st fun x st1=>∃j,x=.int j∧-(2 ^ 62)≤j∧j<2 ^ 62∧IQ (dL 0 j.toNat) (fun _=>True) st1:=rfl
theorem t8:i8 Γ (.zip a b) ρ st IQ=wpE Γ a ρ st fun x st1=>wpE Γ b ρ st1 fun y st2=>∃xs ys,bo st2 x=some xs∧bo st2 y=some ys∧IQ (gi xs ys) (fun st'=>iI st2 x st'∧iI st2 y st') st2:=rfl
theorem nR:i8 Γ (.chars a) ρ st IQ=wpE Γ a ρ st fun x st1=>∃z,x=.str z∧IQ (gJ z) (fun _=>True) st1:=rfl
theorem e_:bF Γ (.name i) v ρ st FQ=FQ (ρ.set i (some v)) st:=rfl
theorem iS {ts:Tgs}:bF Γ (.tup ts) v ρ st FQ=∃xs,v=.tup xs∧xs.length=ts.size∧gu Γ ts xs ρ st FQ:=rfl
theorem iH:bF Γ (.sub a b) v ρ st FQ=wpE Γ a ρ st fun x st1=>wpE Γ b ρ st1 fun y st2=>pP x y v st2 fun st3=>FQ ρ st3:=rfl
theorem qK {vs:List PV}:gu Γ .nil vs ρ st FQ=(vs=[]∧FQ ρ st):=rfl
theorem nL {t:Tg} {ts:Tgs} {vs:List PV}:gu Γ (.cons t ts) vs ρ st FQ=∃v r,vs=v::r∧bF Γ t v ρ st fun ρ' st'=>gu Γ ts r ρ' st' FQ:=rfl
theorem uf:Tgs.size .nil=0:=id rfl
theorem qp {t:Tg} {ts:Tgs}:Tgs.size (.cons t ts)=ts.size+1:=id rfl
end
end FW
namespace FW
open PySem L2 HX
theorem sT {st:AH} {x y:PV} {k k':Bool→Prop} (h:∀b,k b→k' b) (q:eqW st x y k):eqW st x y k':=by
 unfold eqW at q ⊢
 split at q
 ·exact h _ q
 ·exact h _ q
 ·exact h _ q
 ·obtain ⟨d,e,h1,h2,h3,h4,q⟩:=q
  exact ⟨d,e,h1,h2,h3,h4,h _ q⟩
theorem pk {op:Operator} {x y:PV} {st:AH} {Q Q':EK} (h:∀v st,Q v st→Q' v st) (q:iM op x y st Q):iM op x y st Q':=by
 cases op with
 | Add =>
  cases x with
  | int i =>
   cases y with
   | int j=>exact h _ _ q
   | _=>exact False.elim q
  | ref n =>
   cases y with
   | ref k=>obtain ⟨xs,ys,h1,h2,h3,q⟩:=q;exact ⟨xs,ys,h1,h2,h3,h _ _ q⟩
   | _=>exact False.elim q
  | tup xs =>
   cases y with
   | tup ys=>exact ⟨q.1,h _ _ q.2⟩
   | _=>exact False.elim q
  | str a =>
   cases y with
   | str b=>exact ⟨q.1,h _ _ q.2⟩
   | _=>exact False.elim q
  | _=>exact False.elim q
 | Mult =>
  cases x with
  | int i =>
   cases y with
   | int j=>exact ⟨q.1,h _ _ q.2⟩
   | _=>exact False.elim q
  | ref n =>
   cases y with
   | int k=>obtain ⟨xs,h1,h2,h3,h4,q⟩:=q;exact ⟨xs,h1,h2,h3,h4,h _ _ q⟩
   | _=>exact False.elim q
  | _=>exact False.elim q
 | Sub=>obtain ⟨i,j,rfl,rfl,q⟩:=bR q;exact h _ _ q
 | FloorDiv=>obtain ⟨i,j,rfl,rfl,q⟩:=bR q;exact ⟨q.1,h _ _ q.2⟩
 | Mod=>obtain ⟨i,j,rfl,rfl,q⟩:=bR q;exact ⟨q.1,h _ _ q.2⟩
 | Pow=>obtain ⟨i,j,rfl,rfl,q⟩:=bR q;exact ⟨q.1,h _ _ q.2⟩
 | _=>exact False.elim q
theorem rL {a:Str} {n:Nat} {st:AH} {k k':Bool→Prop} (h:∀b,k b→k' b) (q:inR a n st k):inR a n st k':=by
 rcases q with ⟨ns,e,q⟩|⟨kvs,e,q⟩
 ·exact .inl ⟨ns,e,h _ q⟩
 ·exact .inr ⟨kvs,e,h _ q⟩
theorem gW {op:CmpOp} {x y:PV} {st:AH} {Q Q':EK} (h:∀v st,Q v st→Q' v st) (q:dZ op x y st Q):dZ op x y st Q':=by
 unfold dZ at q ⊢
 split at q
 ·exact sT (fun _=>h _ _) q
 ·exact sT (fun _=>h _ _) q
 ·split at q <;> first|exact h _ _ q|exact q
 ·split at q <;> first|exact h _ _ q|exact q
 ·split at q <;> first|exact h _ _ q|exact q
 ·split at q <;> first|exact h _ _ q|exact q
 ·split at q <;> first|exact h _ _ q|exact q
 ·split at q <;> first|exact h _ _ q|exact q
 ·split at q <;> first|exact h _ _ q|(obtain ⟨ns,e,q⟩:=q;exact ⟨ns,e,h _ _ q⟩)|exact rL (fun _=>h _ _) q|exact q
 ·split at q <;> first|(obtain ⟨ns,e,q⟩:=q;exact ⟨ns,e,h _ _ q⟩)|exact rL (fun _=>h _ _) q|exact q
theorem jw {x y:PV} {st:AH} {Q Q':EK} (h:∀v st,Q v st→Q' v st) (q:ixW x y st Q):ixW x y st Q':=by
 cases y with
 | int i =>
  rcases wB q with ⟨z,c,rfl,h1,h2,q⟩|⟨xs,v,h1,h2,q⟩
  ·exact ⟨h1,c,h2,h _ _ q⟩
  ·exact B6 h1 h2 (h _ _ q)
 | str z=>obtain ⟨n,kvs,v,rfl,h1,h2,q⟩:=vV q;exact ⟨kvs,v,h1,h2,h _ _ q⟩
 | _=>exact q
theorem tF {x:PV} {lo hi:Option Int} {st:AH} {Q Q':EK} (h:∀v st,Q v st→Q' v st) (q:slW x lo hi st Q):slW x lo hi st Q':=by
 cases x with
 | tup xs=>exact h _ _ q
 | str z=>exact ⟨q.1,h _ _ q.2⟩
 | _=>obtain ⟨xs,e,q⟩:=q;exact ⟨xs,e,h _ _ q⟩
theorem hJ {b:B} {vs:List PV} {st:AH} {Q Q':EK} (h:∀v st,Q v st→Q' v st) (q:d0 b vs st Q):d0 b vs st Q':=by
 cases b with
 | len =>
  obtain ⟨x,rfl,q⟩:=aP q
  rcases rH q with ⟨z,rfl,h1,q⟩|⟨xs,e,q⟩
  ·exact ⟨h1,h _ _ q⟩
  ·exact zO e (h _ _ q)
 | max2=>obtain ⟨x,y,rfl,q⟩:=fE q;obtain ⟨i,j,rfl,rfl,q⟩:=bR q;exact h _ _ q
 | min2=>obtain ⟨x,y,rfl,q⟩:=fE q;obtain ⟨i,j,rfl,rfl,q⟩:=bR q;exact h _ _ q
 | divmod=>obtain ⟨x,y,rfl,q⟩:=fE q;obtain ⟨i,j,rfl,rfl,q⟩:=bR q;exact ⟨q.1,h _ _ q.2⟩
 | int1 =>
  obtain ⟨x,rfl,q⟩:=aP q
  rcases oK q with ⟨b,rfl,q⟩|⟨z,n,rfl,h1,h2,q⟩
  ·exact h _ _ q
  ·exact ⟨h1,n,h2,h _ _ q⟩
 | str1=>exact False.elim q
 | tuple1=>obtain ⟨x,rfl,xs,h1,q⟩:=aP q;exact ⟨xs,h1,h _ _ q⟩
 | list1=>obtain ⟨x,rfl,xs,h1,q⟩:=aP q;exact ⟨xs,h1,h _ _ q⟩
 | all1=>obtain ⟨x,rfl,xs,bs,h1,h2,q⟩:=aP q;exact ⟨xs,bs,h1,h2,h _ _ q⟩
 | any1=>exact False.elim q
 | abs1=>exact False.elim q
 | sortS=>obtain ⟨x,rfl,xs,h1,h2,q⟩:=aP q;exact ⟨xs,h1,h2,fun z p s=>h _ _ (q z p s)⟩
 | sortD=>obtain ⟨x,rfl,n,e,kvs,h1,ss,h2,h3,q⟩:=aP q;exact ⟨n,e,kvs,h1,ss,h2,h3,fun z p s=>h _ _ (q z p s)⟩
 | max1=>exact False.elim q
 | sorted1=>exact False.elim q
 | repr1=>exact False.elim q
theorem gX {m:M} {x:PV} {vs:List PV} {st:AH} {Q Q':EK} (h:∀v st,Q v st→Q' v st) (q:um m x vs st Q):um m x vs st Q':=by
 cases m with
 | append=>obtain ⟨n,rfl,q⟩:=wx q;obtain ⟨v,rfl,xs,h1,h2,q⟩:=aP q;exact ⟨xs,h1,h2,h _ _ q⟩
 | pop0=>exact False.elim q
 | extend=>exact False.elim q
 | insert=>exact False.elim q
 | count=>exact False.elim q
theorem bK {x:PV} {st:AH} {Q Q':BK} (h:∀v st,Q v st→Q' v st) (q:fw x st Q):fw x st Q':=by
 unfold fw at q ⊢
 split at q <;> first
  | exact h _ _ q
  | exact q.elim
  | (obtain ⟨xs,h1,q⟩:=q;exact ⟨xs,h1,h _ _ q⟩)
theorem pi {o i v:PV} {st:AH} {k k':AH→Prop} (h:∀st,k st→k' st) (q:pP o i v st k):pP o i v st k':=by
 unfold pP at q ⊢
 split at q
 ·obtain ⟨xs,h1,j,h2,q⟩:=q
  exact ⟨xs,h1,j,h2,h _ q⟩
 ·obtain ⟨xs,h1,h2,q⟩:=q
  exact ⟨xs,h1,h2,h _ q⟩
 ·exact q
theorem sS {st0:AH} {Q Q':EK} (h:∀v st,Q v st→Q' v st) {v:PV} {st:AH} (q:Tmp st0 Q v st):Tmp st0 Q' v st:=by
 obtain ⟨st1,g,h1,h2,h3,h4,q⟩:=q
 exact ⟨st1,g,h1,h2,h3,h4,h _ _ q⟩
theorem b_ {chk:AH→Prop} {body body':PV→AH→(Option PV→AH→Prop)→Prop} (hb:∀x st k k',(∀o st,k o st→k' o st)→body x st k→body' x st k') :
  ∀ {xs acc:List PV} {st:AH} {Q Q':LK},(∀v st,Q v st→Q' v st)→aQ chk body xs acc st Q→aQ chk body' xs acc st Q'
 | [],acc,st,Q,Q',h,q=>⟨q.1,h _ _ q.2⟩
 | x::xs,acc,st,Q,Q',h,q=>⟨q.1,hb _ _ _ _ (fun o st' z=>b_ hb h z) q.2⟩
section
variable {Γ:Nat→FSp}
noncomputable def bb (Γ:Nat→FSp):Prop:=∀f vs st Q Q',(∀v st,Q v st→Q' v st)→Γ f vs st Q→Γ f vs st Q'
mutual
theorem aa (G:bb Γ):∀(e:E) {ρ:Fr} {st:AH} {Q Q':EK},(∀v st,Q v st→Q' v st)→wpE Γ e ρ st Q→wpE Γ e ρ st Q'
 | .var i,ρ,st,Q,Q',h,q=>by
  skip
  obtain ⟨v,h1,q⟩:=q
  exact ⟨v,h1,h _ _ q⟩
 | .int i,ρ,st,Q,Q',h,q=>by exact h _ _ q
 | .bl i,ρ,st,Q,Q',h,q=>by exact h _ _ q
 | .non,ρ,st,Q,Q',h,q=>by exact h _ _ q
 | .str i,ρ,st,Q,Q',h,q=>by exact h _ _ q
 | .gv _ i,ρ,st,Q,Q',h,q=>by exact h _ _ q
 | .tup es,ρ,st,Q,Q',h,q=>by exact aC G es (fun vs st1 z=>⟨z.1,h _ _ z.2⟩) q
 | .lst es,ρ,st,Q,Q',h,q=>by exact aC G es (fun vs st1 z=>⟨z.1,h _ _ z.2⟩) q
 | .dct0,ρ,st,Q,Q',h,q=>by exact h _ _ q
 | .bad,ρ,st,Q,Q',h,q=>False.elim q
 | .jrev _,ρ,st,Q,Q',h,q=>False.elim q
 | .dcp a,ρ,st,Q,Q',h,q=>by
  refine aa G a (fun x st1 z=>?_) q
  obtain ⟨n,e,kvs,h1,z⟩:=z
  exact ⟨n,e,kvs,h1,h _ _ z⟩
 | .clr a,ρ,st,Q,Q',h,q=>by
  refine aa G a (fun x st1 z=>?_) q
  obtain ⟨n,e,kvs,h1,z⟩:=z
  exact ⟨n,e,kvs,h1,h _ _ z⟩
 | .sset _,ρ,st,Q,Q',h,q=>False.elim q
 | .part _ _,ρ,st,Q,Q',h,q=>False.elim q
 | .pcall _ _,ρ,st,Q,Q',h,q=>False.elim q
 | .hm _ _ _,ρ,st,Q,Q',h,q=>False.elim q
 | .dct1 _ _,ρ,st,Q,Q',h,q=>False.elim q
 | .bin op a b,ρ,st,Q,Q',h,q=>by exact aa G a (fun x st1 z=>aa G b (fun y st2 z=>pk h z) z) q
 | .neg a,ρ,st,Q,Q',h,q=>by
  skip
  refine aa G a (fun x st1 z=>?_) q
  obtain ⟨i,e,z⟩:=z
  exact ⟨i,e,h _ _ z⟩
 | .not a,ρ,st,Q,Q',h,q=>by
  skip
  refine aa G a (fun x st1 z=>?_) q
  obtain ⟨i,e,z⟩:=z
  exact ⟨i,e,h _ _ z⟩
 | .cmp op a b,ρ,st,Q,Q',h,q=>by exact aa G a (fun x st1 z=>aa G b (fun y st2 z=>gW h z) z) q
 | .bop true es,ρ,st,Q,Q',h,q=>by exact kY G es h q
 | .bop false es,ρ,st,Q,Q',h,q=>by exact j0 G es h q
 | .ite c a b,ρ,st,Q,Q',h,q=>by
  skip
  refine aJ G c (fun k st1 z=>?_) q
  cases k with
  | true=>rw [if_pos rfl] at z ⊢;exact aa G a h z
  | false=>rw [if_neg Bool.false_ne_true] at z ⊢;exact aa G b h z
 | .ix a b,ρ,st,Q,Q',h,q=>by exact aa G a (fun x st1 z=>aa G b (fun y st2 z=>jw h z) z) q
 | .sl a lo hi,ρ,st,Q,Q',h,q=>by exact aa G a (fun x st1 z=>jx G lo (fun l st2 z=>jx G hi (fun u st3 z=>tF h z) z) z) q
 | .call f es,ρ,st,Q,Q',h,q=>by exact aC G es (fun vs st1 z=>G _ _ _ _ _ h z) q
 | .blt b es,ρ,st,Q,Q',h,q=>by exact aC G es (fun vs st1 z=>hJ h z) q
 | .inst a t,ρ,st,Q,Q',h,q=>by
  skip
  refine aa G a (fun x st1 z=>?_) q
  obtain ⟨i,e,z⟩:=z
  exact ⟨i,e,h _ _ z⟩
 | .met m o es,ρ,st,Q,Q',h,q=>by exact aa G o (fun x st1 z=>⟨z.1,aC G es (fun vs st2 z=>gX h z) z.2⟩) q
 | .comp elt tg it ifs nt caps,ρ,st,Q,Q',h,q=>by
  skip
  exact fJ G it (fun xs chk st1 z=>⟨z.1,b_ (fun x st k k' hk w=>aw G tg (fun ρ' st3 w=>aI G ifs (fun c st4 w=>by
   cases c with
   | true=>rw [if_pos rfl] at w ⊢;exact aa G elt (fun v st5 w=>hk _ _ w) w
   | false=>rw [if_neg Bool.false_ne_true] at w ⊢;exact hk _ _ w) w) w) (fun vs st2 w=>h _ _ w) z.2⟩) q
 | .tmp a,ρ,st,Q,Q',h,q=>by exact aa G a (fun v st1 z=>sS h z) q
 | .compK elt tg wk e ifs nt caps,ρ,st,Q,Q',h,q=>by
  skip
  refine aa G e (fun x st1 z=>?_) q
  obtain ⟨n,ex,kvs,e1,e2,z⟩:=z
  exact ⟨n,ex,kvs,e1,e2,b_ (fun x st k k' hk w=>aw G tg (fun ρ' st3 w=>aI G ifs (fun c st4 w=>by
   cases c with
   | true=>rw [if_pos rfl] at w ⊢;exact aa G elt (fun v st5 w=>hk _ _ w) w
   | false=>rw [if_neg Bool.false_ne_true] at w ⊢;exact hk _ _ w) w) w) (fun vs st2 w=>⟨w.1,h _ _ w.2⟩) z⟩
 | .compD kx vx tg wk e ifs nt caps,ρ,st,Q,Q',h,q=>by
  skip
  refine aa G e (fun x st1 z=>?_) q
  obtain ⟨n,ex,kvs,e1,e2,z⟩:=z
  exact ⟨n,ex,kvs,e1,e2,b_ (fun x st k k' hk w=>aw G tg (fun ρ' st3 w=>aI G ifs (fun c st4 w=>by
   cases c with
   | true=>rw [if_pos rfl] at w ⊢;exact aa G kx (fun u st5 w=>aa G vx (fun v st6 w=>let ⟨z,e3,w⟩:=w;⟨z,e3,hk _ _ w⟩) w) w
   | false=>rw [if_neg Bool.false_ne_true] at w ⊢;exact hk _ _ w) w) w) (fun vs st2 w=>⟨w.1,fun ps e3=>h _ _ (w.2 ps e3)⟩) z⟩
 | .dct2 k v,ρ,st,Q,Q',h,q=>by exact aa G k (fun x st1 z=>let ⟨u,e,z⟩:=z;⟨u,e,aa G v (fun y st2 z=>h _ _ z) z⟩) q
 | .dcl _,ρ,st,Q,Q',h,q=>False.elim q
 | .eqd ne a b,ρ,st,Q,Q',h,q=>by exact aa G a (fun x st1 z=>aa G b (fun y st2 z=>⟨z.1,h _ _ z.2⟩) z) q
theorem aC (G:bb Γ):∀(e:Es) {ρ:Fr} {st:AH} {Q Q':LK},(∀v st,Q v st→Q' v st)→cV Γ e ρ st Q→cV Γ e ρ st Q'
 | .nil,ρ,st,Q,Q',h,q=>by exact h _ _ q
 | .cons e es,ρ,st,Q,Q',h,q=>by exact aa G e (fun x st1 z=>aC G es (fun xs st2 z=>h _ _ z) z) q
theorem jx (G:bb Γ):∀(e:O) {ρ:Fr} {st:AH} {Q Q':Option Int→AH→Prop},(∀v st,Q v st→Q' v st)→wpO Γ e ρ st Q→wpO Γ e ρ st Q'
 | .no,ρ,st,Q,Q',h,q=>by exact h _ _ q
 | .yes e,ρ,st,Q,Q',h,q=>by
  skip
  refine aa G e (fun x st1 z=>?_) q
  obtain ⟨i,e,z⟩:=z
  exact ⟨i,e,h _ _ z⟩
theorem aJ (G:bb Γ):∀(e:E) {ρ:Fr} {st:AH} {Q Q':BK},(∀v st,Q v st→Q' v st)→wpT Γ e ρ st Q→wpT Γ e ρ st Q'
 | .bop true es,ρ,st,Q,Q',h,q=>by exact aI G es h q
 | .bop false es,ρ,st,Q,Q',h,q=>by exact kh G es h q
 | .not a,ρ,st,Q,Q',h,q=>by exact aJ G a (fun c st1 z=>h _ _ z) q
 | .cmp op a b,ρ,st,Q,Q',h,q=>by
  skip
  exact aa G a (fun x st1 z=>aa G b (fun y st2 z=>gW (fun v st3 w=>by obtain ⟨c,e,w⟩:=w;exact ⟨c,e,h _ _ w⟩) z) z) q
 | .var i,ρ,st,Q,Q',h,q=>by
  skip
  obtain ⟨v,h1,q⟩:=q
  exact ⟨v,h1,bK h q⟩
 | .call f es,ρ,st,Q,Q',h,q=>by exact aC G es (fun vs st1 z=>G _ _ _ _ _ (fun v st2 z=>bK h z) z) q
 | .blt b es,ρ,st,Q,Q',h,q=>by exact aC G es (fun vs st1 z=>hJ (fun v st2 z=>bK h z) z) q
 | .inst a t,ρ,st,Q,Q',h,q=>by
  skip
  refine aa G a (fun x st1 z=>?_) q
  obtain ⟨i,e,z⟩:=z
  exact ⟨i,e,h _ _ z⟩
 | .tmp a,ρ,st,Q,Q',h,q=>by exact aa G a (fun v st1 z=>sS (fun v st2 z=>bK h z) z) q
 | .ix a b,ρ,st,Q,Q',h,q=>by exact aa G a (fun x st1 z=>aa G b (fun y st2 z=>jw (fun v st3 z=>bK h z) z) z) q
 | .pcall _ _,ρ,st,Q,Q',h,q=>False.elim q
 | .eqd ne a b,ρ,st,Q,Q',h,q=>by exact aa G a (fun x st1 z=>aa G b (fun y st2 z=>⟨z.1,h _ _ z.2⟩) z) q
 | .compK _ _ _ _ _ _ _,ρ,st,Q,Q',h,q=>False.elim q
 | .compD _ _ _ _ _ _ _ _,ρ,st,Q,Q',h,q=>False.elim q
 | .dcl _,ρ,st,Q,Q',h,q=>False.elim q
 | .dct2 _ _,ρ,st,Q,Q',h,q=>False.elim q
 | .hm _ _ _,ρ,st,Q,Q',h,q=>False.elim q
 | .int _,ρ,st,Q,Q',h,q=>False.elim q
 | .bl _,ρ,st,Q,Q',h,q=>False.elim q
 | .non,ρ,st,Q,Q',h,q=>False.elim q
 | .str _,ρ,st,Q,Q',h,q=>False.elim q
 | .gv _ _,ρ,st,Q,Q',h,q=>False.elim q
 | .tup _,ρ,st,Q,Q',h,q=>False.elim q
 | .lst _,ρ,st,Q,Q',h,q=>False.elim q
 | .dct0,ρ,st,Q,Q',h,q=>False.elim q
 | .bad,ρ,st,Q,Q',h,q=>False.elim q
 | .jrev _,ρ,st,Q,Q',h,q=>False.elim q
 | .dcp _,ρ,st,Q,Q',h,q=>False.elim q
 | .clr _,ρ,st,Q,Q',h,q=>False.elim q
 | .sset _,ρ,st,Q,Q',h,q=>False.elim q
 | .part _ _,ρ,st,Q,Q',h,q=>False.elim q
 | .dct1 _ _,ρ,st,Q,Q',h,q=>False.elim q
 | .bin _ _ _,ρ,st,Q,Q',h,q=>False.elim q
 | .neg _,ρ,st,Q,Q',h,q=>False.elim q
 | .ite _ _ _,ρ,st,Q,Q',h,q=>False.elim q
 | .sl _ _ _,ρ,st,Q,Q',h,q=>False.elim q
 | .met _ _ _,ρ,st,Q,Q',h,q=>False.elim q
 | .comp _ _ _ _ _ _,ρ,st,Q,Q',h,q=>False.elim q
theorem kY (G:bb Γ):∀(e:Es) {ρ:Fr} {st:AH} {Q Q':EK},(∀v st,Q v st→Q' v st)→pQ Γ e ρ st Q→pQ Γ e ρ st Q'
 | .nil,ρ,st,Q,Q',h,q=>False.elim q
 | .cons e .nil,ρ,st,Q,Q',h,q=>by exact aa G e h q
 | .cons e (.cons e2 es),ρ,st,Q,Q',h,q=>by
  skip
  refine aa G e (fun x st1 z=>?_) q
  obtain ⟨c,e,z⟩:=z
  refine ⟨c,e,?_⟩
  cases c with
  | true=>rw [if_pos rfl] at z ⊢;exact kY G (.cons e2 es) h z
  | false=>rw [if_neg Bool.false_ne_true] at z ⊢;exact h _ _ z
theorem j0 (G:bb Γ):∀(e:Es) {ρ:Fr} {st:AH} {Q Q':EK},(∀v st,Q v st→Q' v st)→pN Γ e ρ st Q→pN Γ e ρ st Q'
 | .nil,ρ,st,Q,Q',h,q=>False.elim q
 | .cons e .nil,ρ,st,Q,Q',h,q=>by exact aa G e h q
 | .cons e (.cons e2 es),ρ,st,Q,Q',h,q=>by
  skip
  refine aa G e (fun x st1 z=>?_) q
  obtain ⟨c,e,z⟩:=z
  refine ⟨c,e,?_⟩
  cases c with
  | true=>rw [if_pos rfl] at z ⊢;exact h _ _ z
  | false=>rw [if_neg Bool.false_ne_true] at z ⊢;exact j0 G (.cons e2 es) h z
theorem aI (G:bb Γ):∀(e:Es) {ρ:Fr} {st:AH} {Q Q':BK},(∀v st,Q v st→Q' v st)→dX Γ e ρ st Q→dX Γ e ρ st Q'
 | .nil,ρ,st,Q,Q',h,q=>by exact h _ _ q
 | .cons e .nil,ρ,st,Q,Q',h,q=>by exact aJ G e h q
 | .cons e (.cons e2 es),ρ,st,Q,Q',h,q=>by
  skip
  refine aJ G e (fun c st1 z=>?_) q
  cases c with
  | true=>rw [if_pos rfl] at z ⊢;exact aI G (.cons e2 es) h z
  | false=>rw [if_neg Bool.false_ne_true] at z ⊢;exact h _ _ z
theorem kh (G:bb Γ):∀(e:Es) {ρ:Fr} {st:AH} {Q Q':BK},(∀v st,Q v st→Q' v st)→qI Γ e ρ st Q→qI Γ e ρ st Q'
 | .nil,ρ,st,Q,Q',h,q=>by exact h _ _ q
 | .cons e .nil,ρ,st,Q,Q',h,q=>by exact aJ G e h q
 | .cons e (.cons e2 es),ρ,st,Q,Q',h,q=>by
  skip
  refine aJ G e (fun c st1 z=>?_) q
  cases c with
  | true=>rw [if_pos rfl] at z ⊢;exact h _ _ z
  | false=>rw [if_neg Bool.false_ne_true] at z ⊢;exact kh G (.cons e2 es) h z
theorem fJ (G:bb Γ):∀(e:It) {ρ:Fr} {st:AH} {Q Q':List PV→(AH→Prop)→AH→Prop},(∀v c st,Q v c st→Q' v c st)→i8 Γ e ρ st Q→i8 Γ e ρ st Q'
 | .seq a,ρ,st,Q,Q',h,q=>by
  skip
  refine aa G a (fun x st1 z=>?_) q
  obtain ⟨c,e,z⟩:=z
  exact ⟨c,e,h _ _ _ z⟩
 | .range1 a,ρ,st,Q,Q',h,q=>by
  skip
  refine aa G a (fun x st1 z=>?_) q
  obtain ⟨c,e,h1,h2,z⟩:=z
  exact ⟨c,e,h1,h2,h _ _ _ z⟩
 | .range2 _ _,ρ,st,Q,Q',h,q=>False.elim q
 | .zip a b,ρ,st,Q,Q',h,q=>by
  skip
  refine aa G a (fun x st1 z=>aa G b (fun y st2 z=>?_) z) q
  obtain ⟨i,j,e,e2,z⟩:=z
  exact ⟨i,j,e,e2,h _ _ _ z⟩
 | .enum _,ρ,st,Q,Q',h,q=>False.elim q
 | .chars a,ρ,st,Q,Q',h,q=>by
  refine aa G a (fun x st1 z=>?_) q
  obtain ⟨c,e,z⟩:=z
  exact ⟨c,e,h _ _ _ z⟩
 | .zip3 _ _ _,ρ,st,Q,Q',h,q=>False.elim q
 | .range3 _ _ _,ρ,st,Q,Q',h,q=>False.elim q
theorem aw (G:bb Γ):∀(t:Tg) {v:PV} {ρ:Fr} {st:AH} {Q Q':Fr→AH→Prop},(∀ρ st,Q ρ st→Q' ρ st)→bF Γ t v ρ st Q→bF Γ t v ρ st Q'
 | .name i,v,ρ,st,Q,Q',h,q=>by exact h _ _ q
 | .tup ts,v,ρ,st,Q,Q',h,q=>by
  skip
  obtain ⟨xs,e,hl,q⟩:=q
  exact ⟨xs,e,hl,ga G ts h q⟩
 | .ltup ts,v,ρ,st,Q,Q',h,q=>False.elim q
 | .sub o i,v,ρ,st,Q,Q',h,q=>by exact aa G o (fun x st1 z=>aa G i (fun y st2 z=>pi (fun st3 z=>h _ _ z) z) z) q
theorem ga (G:bb Γ):∀(t:Tgs) {v:List PV} {ρ:Fr} {st:AH} {Q Q':Fr→AH→Prop},(∀ρ st,Q ρ st→Q' ρ st)→gu Γ t v ρ st Q→gu Γ t v ρ st Q'
 | .nil,v,ρ,st,Q,Q',h,q=>by exact ⟨q.1,h _ _ q.2⟩
 | .cons t ts,v,ρ,st,Q,Q',h,q=>by
  skip
  obtain ⟨x,r,e,q⟩:=q
  exact ⟨x,r,e,aw G t (fun ρ' st' z=>ga G ts h z) q⟩
end
structure ji (D D':aL):Prop where
 nx:∀ρ st,D.nx ρ st→D'.nx ρ st
 rt:∀v st,D.rt v st→D'.rt v st
 bk:∀ρ st,D.bk ρ st→D'.bk ρ st
 ct:∀ρ st,D.ct ρ st→D'.ct ρ st
theorem g_ {chk:AH→Prop} {body body':PV→Fr→AH→aL→Prop} {D D':aL} (hD:ji D D') (hb:∀x ρ st D D',ji D D'→body x ρ st D→body' x ρ st D') :
  ∀ {xs:List PV} {ρ:Fr} {st:AH},lE chk body D xs ρ st→lE chk body' D' xs ρ st
 | [],ρ,st,q=>⟨q.1,hD.nx _ _ q.2⟩
 | x::xs,ρ,st,q=>by
  refine ⟨q.1,hb _ _ _ _ _ ?_ q.2⟩
  exact ⟨fun _ _ z=>g_ hD hb z,hD.rt,hD.nx,fun _ _ z=>g_ hD hb z⟩
theorem gw {c:Fr→AH→BK→Prop} {body:Fr→AH→aL→Prop} {D D':aL} (hD:ji D D') (hc:∀ρ st Q Q',(∀b st,Q b st→Q' b st)→c ρ st Q→c ρ st Q')
  (hb:∀ρ st D D',ji D D'→body ρ st D→body ρ st D'):∀ {n:Nat} {ρ:Fr} {st:AH},eL c body D n ρ st→eL c body D' n ρ st
 | 0,ρ,st,q=>q
 | n+1,ρ,st,q=>hc _ _ _ _ (fun b st1 z=>by
  cases b with
  | true =>
   rw [if_pos rfl] at z ⊢
   refine hb _ _ _ _ ?_ z
   exact ⟨fun _ _ z=>gw hD hc hb z,hD.rt,hD.nx,fun _ _ z=>gw hD hc hb z⟩
  | false=>rw [if_neg Bool.false_ne_true] at z ⊢;exact hD.nx _ _ z) q
mutual
theorem jc (G:bb Γ):∀(s:S) {ρ:Fr} {st:AH} {D D':aL},ji D D'→wpS Γ s ρ st D→wpS Γ s ρ st D'
 | .set t e,ρ,st,D,D',h,q=>by exact aa G e (fun v st1 z=>aw G t h.nx z) q
 | .par i j a b,ρ,st,D,D',h,q=>by exact aa G a (fun v st1 z=>aa G b (fun w st2 z=>h.nx _ _ z) z) q
 | .aug i op e,ρ,st,D,D',h,q=>False.elim q
 | .expr e,ρ,st,D,D',h,q=>by exact aa G e (fun v st1 z=>h.nx _ _ z) q
 | .ret e,ρ,st,D,D',h,q=>by exact aa G e h.rt q
 | .retN,ρ,st,D,D',h,q=>by exact h.rt _ _ q
 | .ifS c a b,ρ,st,D,D',h,q=>by
  skip
  refine aJ G c (fun k st1 z=>?_) q
  cases k with
  | true=>rw [if_pos rfl] at z ⊢;exact aH G a h z
  | false=>rw [if_neg Bool.false_ne_true] at z ⊢;exact aH G b h z
 | .whileS c b,ρ,st,D,D',h,q=>by
  skip
  obtain ⟨n,q⟩:=q
  refine ⟨n,gw h (c:=wpT Γ c) (body:=au Γ b) ?_ ?_ q⟩
  ·exact fun _ _ _ _ hk z=>aJ G c hk z
  ·exact fun _ _ _ _ hk z=>aH G b hk z
 | .forS t it b,ρ,st,D,D',h,q=>by
  skip
  exact fJ G it (fun xs chk st1 z=>g_ h (fun x ρ st D D' hd w=>aw G t (fun ρ2 st2 w=>aH G b hd w) w) z) q
 | .forK t wk e b,ρ,st,D,D',h,q=>by
  skip
  refine aa G e (fun x st1 z=>?_) q
  obtain ⟨n,ex,kvs,e1,z⟩:=z
  exact ⟨n,ex,kvs,e1,g_ (D:=fzD n kvs D) (D':=fzD n kvs D') ⟨fun _ _ z=>⟨z.1,h.nx _ _ z.2⟩,fun _ _ z=>⟨z.1,h.rt _ _ z.2⟩,fun _ _ z=>False.elim z,fun _ _ z=>False.elim z⟩ (fun x ρ st D D' hd w=>aw G t (fun ρ2 st2 w=>aH G b hd w) w) z⟩
 | .pass,ρ,st,D,D',h,q=>by exact h.nx _ _ q
 | .bad,ρ,st,D,D',h,q=>False.elim q
 | .set2 i j e,ρ,st,D,D',h,q=>by exact aa G e (fun v st1 z=>h.nx _ _ z) q
 | .brk,ρ,st,D,D',h,q=>by exact h.bk _ _ q
 | .cont,ρ,st,D,D',h,q=>by exact h.ct _ _ q
theorem aH (G:bb Γ):∀(s:Ss) {ρ:Fr} {st:AH} {D D':aL},ji D D'→au Γ s ρ st D→au Γ s ρ st D'
 | .nil,ρ,st,D,D',h,q=>by exact h.nx _ _ q
 | .cons s ss,ρ,st,D,D',h,q=>by
  skip
  refine jc G s ?_ q
  exact ⟨fun _ _ z=>aH G ss h z,h.rt,h.bk,h.ct⟩
end
end
end FW
namespace FW
open L2 HX
noncomputable def RdF (K:W.Frag) (H:Hp) (a:Addr) (ys:List V):Prop :=
 (∃o,H a=some (.frz o (.lst ys)))∨∃(o:Obj) (its:Array Value) (n:Nat),K.lookup a=some o∧o.cls=.type "list"∧o.dict=none∧o.data=.seq its n∧its.size≤sizeLine∧Vals ys its.toList
theorem RdF.sq {K:W.Frag} {H:Hp} {a:Addr} {ys:List V} (h:RdF K H a ys):SqL K H a ys:=by
 rcases h with h|h
 ·exact .inl (.inr h)
 ·exact .inr h
mutual
noncomputable def R (K:W.Frag) (m:List Addr) (H:Hp):PV→V→Prop
 | .non,v=>v=.non
 | .bl b,v=>v=.bl b
 | .int i,v=>v=.int i
 | .str x,v=>v=.str x
 | .ref n,v=>∃a,m[n]?=some a∧v=.ref a
 | .tup xs,v=>∃a ys,v=.ref a∧SqT K H a ys∧Rs K m H xs ys
 | .rdl xs,v=>∃a ys,v=.ref a∧RdF K H a ys∧Rs K m H xs ys
 | .fn a,v=>v=.ref a
noncomputable def Rs (K:W.Frag) (m:List Addr) (H:Hp):List PV→List V→Prop
 | [],ys=>ys=[]
 | x::xs,ys=>∃y r,ys=y::r∧R K m H x y∧Rs K m H xs r
end
section
variable {K:W.Frag} {m m':List Addr} {H H':Hp} {v:V} {vs:List V}
theorem R_non:R K m H .non v↔v=.non:=by rw [R]
theorem R_bl {b:Bool}:R K m H (.bl b) v↔v=.bl b:=by rw [R]
theorem R_int {b:Int}:R K m H (.int b) v↔v=.int b:=by rw [R]
theorem R_str {b:Str}:R K m H (.str b) v↔v=.str b:=by rw [R]
theorem R_ref {n:Nat}:R K m H (.ref n) v↔∃a,m[n]?=some a∧v=.ref a:=by rw [R]
theorem R_tup {xs:List PV}:R K m H (.tup xs) v↔∃a ys,v=.ref a∧SqT K H a ys∧Rs K m H xs ys:=by rw [R]
theorem ff {xs:List PV}:R K m H (.rdl xs) v↔∃a ys,v=.ref a∧RdF K H a ys∧Rs K m H xs ys:=by rw [R]
theorem xH {a:Nat}:R K m H (.fn a) v↔v=.ref a:=by rw [R]
theorem Rs_nil:Rs K m H [] vs↔vs=[]:=by rw [Rs]
theorem Rs_cons {x:PV} {xs:List PV}:Rs K m H (x::xs) vs↔∃y r,vs=y::r∧R K m H x y∧Rs K m H xs r:=by rw [Rs]
theorem Rs_cons' {x:PV} {xs:List PV}:Rs K m H (x::xs) (v::vs)↔R K m H x v∧Rs K m H xs vs:=by
 rw [Rs_cons]
 constructor
 ·rintro ⟨_,_,e,h1,h2⟩;cases e;exact ⟨h1,h2⟩
 ·rintro ⟨h1,h2⟩;exact ⟨_,_,rfl,h1,h2⟩
theorem Rs.len:∀ {xs:List PV} {ys:List V},Rs K m H xs ys→xs.length=ys.length
 | [],ys,h=>by rw [Rs_nil] at h;subst h;rfl
 | x::xs,ys,h=>by
  rw [Rs_cons] at h
  obtain ⟨y,r,rfl,_,h⟩:=h
  simp [Rs.len h]
theorem Rs.get:∀ {xs:List PV} {ys:List V} {i:Nat} {x:PV},Rs K m H xs ys→xs[i]?=some x→∃y,ys[i]?=some y∧R K m H x y
 | [],ys,i,x,h,e=>by simp at e
 | x::xs,ys,i,z,h,e=>by
  rw [Rs_cons] at h
  obtain ⟨y,r,rfl,h1,h⟩:=h
  cases i with
  | zero=>simp at e;subst e;exact ⟨y,rfl,h1⟩
  | succ i =>
   obtain ⟨w,e1,e2⟩:=Rs.get h (by simpa using e)
   exact ⟨w,by simpa using e1,e2⟩
theorem Rs.app:∀ {xs zs:List PV} {ys ws:List V},Rs K m H xs ys→Rs K m H zs ws→Rs K m H (xs++zs) (ys++ws)
 | [],zs,ys,ws,h,h'=>by rw [Rs_nil] at h;subst h;exact h'
 | x::xs,zs,ys,ws,h,h'=>by
  rw [Rs_cons] at h
  obtain ⟨y,r,rfl,h1,h⟩:=h
  rw [List.cons_append,Rs_cons]
  exact ⟨y,r++ws,rfl,h1,h.app h'⟩
theorem Rs.drop:∀ {xs:List PV} {ys:List V} (n:Nat),Rs K m H xs ys→Rs K m H (xs.drop n) (ys.drop n)
 | xs,ys,0,h=>by simpa using h
 | [],ys,n+1,h=>by rw [Rs_nil] at h;subst h;simp [Rs_nil]
 | x::xs,ys,n+1,h=>by
  rw [Rs_cons] at h
  obtain ⟨y,r,rfl,h1,h⟩:=h
  simpa using Rs.drop n h
theorem Rs.take:∀ {xs:List PV} {ys:List V} (n:Nat),Rs K m H xs ys→Rs K m H (xs.take n) (ys.take n)
 | xs,ys,0,h=>by simp [Rs_nil]
 | [],ys,n+1,h=>by rw [Rs_nil] at h;subst h;simp [Rs_nil]
 | x::xs,ys,n+1,h=>by
  rw [Rs_cons] at h
  obtain ⟨y,r,rfl,h1,h⟩:=h
  rw [List.take_succ_cons,List.take_succ_cons,Rs_cons']
  exact ⟨h1,Rs.take n h⟩
theorem Rs.set {x:PV} {y:V} (hx:R K m H x y):∀ {xs:List PV} {ys:List V} (n:Nat),Rs K m H xs ys→Rs K m H (xs.set n x) (ys.set n y)
 | [],ys,n,h=>by rw [Rs_nil] at h;subst h;simp [Rs_nil]
 | z::xs,ys,0,h=>by
  rw [Rs_cons] at h
  obtain ⟨w,r,rfl,h1,h⟩:=h
  rw [List.set_cons_zero,List.set_cons_zero,Rs_cons']
  exact ⟨hx,h⟩
 | z::xs,ys,n+1,h=>by
  rw [Rs_cons] at h
  obtain ⟨w,r,rfl,h1,h⟩:=h
  rw [List.set_cons_succ,List.set_cons_succ,Rs_cons']
  exact ⟨h1,Rs.set hx n h⟩
theorem Rs.cut {xs:List PV} {ys:List V} (h:Rs K m H xs ys) (lo hi:Option Int):Rs K m H (i4 xs lo hi) (nU ys lo hi):=by
 unfold i4 nU
 rw [h.len]
 exact (h.drop _).take _
theorem Rs.atI {xs:List PV} {ys:List V} {i:Int} {x:PV} (h:Rs K m H xs ys) (e:atI xs i=some x):∃y,L2.atI ys i=some y∧R K m H x y:=by
 unfold L2.atI at e ⊢
 rw [h.len] at e
 cases q:ixN ys.length i with
 | none=>rw [q] at e;cases e
 | some j =>
  rw [q] at e
  obtain ⟨y,e1,e2⟩:=h.get (show xs[j]?=some x from e)
  exact ⟨y,e1,e2⟩
theorem Rs.rep {xs:List PV} {ys:List V} (h:Rs K m H xs ys):∀n:Nat,Rs K m H (List.replicate n xs).flatten (List.replicate n ys).flatten
 | 0=>by simp [Rs_nil]
 | n+1=>by
  rw [List.replicate_succ,List.replicate_succ,List.flatten_cons,List.flatten_cons]
  exact h.app (Rs.rep h n)
theorem Rs.one {x:PV} {y:V} (h:R K m H x y):Rs K m H [x] [y]:=by rw [Rs_cons',Rs_nil];exact ⟨h,rfl⟩
end
noncomputable def ba:List Str:=["coming","latest","through"]
noncomputable def TB (K:W.Frag) (H:Hp):Prop:=∀x∈ba,∀c T,W.tabIn K x=some (c,T)→(∀y∈ba,∀d,W.tabIn K y=some (d,T)→y=x)∧∃ps,H T=some (.tbl ps)∧TriplesOk ps.toList ∧
 ∀pos cv,codeAmong pos ps.toList=some cv→∃c' oc,cv=.ref c'∧H c'=some (.frz oc (.own 0))∧yq oc (x++".<locals>."++"<lambda>")
theorem TB.keep {K:W.Frag} {H H':Hp} (t:TB K H) (h1:∀a ps,H a=some (.tbl ps)→H' a=some (.tbl ps)) (h2:∀a o,H a=some (.frz o (.own 0))→H' a=some (.frz o (.own 0))):TB K H':=fun x hx c T e=>by
 obtain ⟨e0,ps,e1,e2,e3⟩:=t x hx c T e
 refine ⟨e0,ps,h1 _ _ e1,e2,fun pos cv q=>?_⟩
 obtain ⟨c',oc,g1,g2,g3⟩:=e3 pos cv q
 exact ⟨c',oc,g1,h2 _ _ g2,g3⟩
structure Ext (K:W.Frag) (m:List Addr) (H:Hp) (m':List Addr) (H':Hp):Prop where
 pre:m <+: m'
 new:∀a∈m',a∈m∨H a=none
 fr:∀a o,a ∉ m→H a=some o→(∀ps,o≠.tbl ps)→H' a=some o
 tup:∀a ys,SqT K H a ys→SqT K H' a ys
 rdf:∀a ys,RdF K H a ys→RdF K H' a ys
 tbs:∀a ps,a ∉ m→H a=some (.tbl ps)→∃ps',H' a=some (.tbl ps')
 tb:TB K H→TB K H'
 frz:∀a o u,H a=some (.frz o u)→H' a=some (.frz o u)
theorem Ext.refl (K:W.Frag) (m:List Addr) (H:Hp):Ext K m H m H:=⟨List.prefix_refl _,fun _ h=>.inl h,fun _ _ _ h _=>h,fun _ _ h=>h,fun _ _ h=>h,fun _ ps _ h=>⟨ps,h⟩,fun h=>h,fun _ _ _ h=>h⟩
theorem Ext.ne {K:W.Frag} {m m':List Addr} {H H':Hp} (x:Ext K m H m' H') {a:Addr} {o:HO} (hm:a ∉ m) (e:H a=some o):H' a≠none:=fun z=>by
 by_cases h:∃ps,o=.tbl ps
 ·obtain ⟨ps,rfl⟩:=h
  obtain ⟨q,e2⟩:=x.tbs a ps hm e
  rw [e2] at z;cases z
 ·rw [x.fr a o hm e fun ps q=>h ⟨ps,q⟩] at z;cases z
theorem Ext.trans {K:W.Frag} {m m1 m2:List Addr} {H H1 H2:Hp} (a:Ext K m H m1 H1) (b:Ext K m1 H1 m2 H2):Ext K m H m2 H2:=by
 have nin:∀c o,c ∉ m→H c=some o→c ∉ m1:=fun c o h e z=>by
  rcases a.new c z with q|q
  ·exact h q
  ·rw [e] at q;cases q
 refine ⟨a.pre.trans b.pre,fun c hc=>?_,fun c o h e n=>b.fr c o (nin c o h e) (a.fr c o h e n) n,fun c ys h=>b.tup c ys (a.tup c ys h),fun c ys h=>b.rdf c ys (a.rdf c ys h),fun c ps h e=>let ⟨p1,e1⟩:=a.tbs c ps h e;b.tbs c p1 (nin c _ h e) e1,fun h=>b.tb (a.tb h),fun c o u h=>b.frz c o u (a.frz c o u h)⟩
 rcases b.new c hc with q|q
 ·exact a.new c q
 ·by_cases hm:c∈m
  ·exact .inl hm
  ·cases e:H c with
   | none=>exact .inr rfl
   | some o=>exact absurd q (a.ne hm e)
theorem eD {m m':List Addr} (h:m <+: m') {n:Nat} {a:Addr} (e:m[n]?=some a):m'[n]?=some a:=by
 obtain ⟨t,rfl⟩:=h
 rw [List.getElem?_append_left (List.getElem?_eq_some_iff.mp e).1]
 exact e
mutual
theorem R.mono {K:W.Frag} {m m':List Addr} {H H':Hp} (x:Ext K m H m' H'):∀ {p:PV} {v:V},R K m H p v→R K m' H' p v
 | .non,v,h=>by rw [R_non] at h ⊢;exact h
 | .bl b,v,h=>by rw [R_bl] at h ⊢;exact h
 | .int b,v,h=>by rw [R_int] at h ⊢;exact h
 | .str b,v,h=>by rw [R_str] at h ⊢;exact h
 | .ref n,v,h=>by rw [R_ref] at h ⊢;obtain ⟨a,e,q⟩:=h;exact ⟨a,eD x.pre e,q⟩
 | .tup xs,v,h=>by rw [R_tup] at h ⊢;obtain ⟨a,ys,e,q,r⟩:=h;exact ⟨a,ys,e,x.tup _ _ q,Rs.mono x r⟩
 | .rdl xs,v,h=>by rw [ff] at h ⊢;obtain ⟨a,ys,e,q,r⟩:=h;exact ⟨a,ys,e,x.rdf _ _ q,Rs.mono x r⟩
 | .fn b,v,h=>by rw [xH] at h ⊢;exact h
theorem Rs.mono {K:W.Frag} {m m':List Addr} {H H':Hp} (x:Ext K m H m' H'):∀ {ps:List PV} {vs:List V},Rs K m H ps vs→Rs K m' H' ps vs
 | [],vs,h=>by rw [Rs_nil] at h ⊢;exact h
 | p::ps,vs,h=>by
  rw [Rs_cons] at h ⊢
  obtain ⟨y,r,e,h1,h2⟩:=h
  exact ⟨y,r,e,R.mono x h1,Rs.mono x h2⟩
end
mutual
theorem R.cut {K:W.Frag} {m:List Addr} {H:Hp} {k:Nat}:∀ {p:PV} {v:V},R K m H p v→p.bec k=true→R K (m.take k) H p v
 | .non,v,h,_=>by rw [R_non] at h ⊢;exact h
 | .bl b,v,h,_=>by rw [R_bl] at h ⊢;exact h
 | .int b,v,h,_=>by rw [R_int] at h ⊢;exact h
 | .str b,v,h,_=>by rw [R_str] at h ⊢;exact h
 | .ref n,v,h,z=>by
  rw [R_ref] at h ⊢
  obtain ⟨a,e,q⟩:=h
  rw [PV.bec] at z
  exact ⟨a,by rw [List.getElem?_take_of_lt (of_decide_eq_true z)];exact e,q⟩
 | .tup xs,v,h,z=>by
  rw [R_tup] at h ⊢
  obtain ⟨a,ys,e,q,r⟩:=h
  rw [PV.bec] at z
  exact ⟨a,ys,e,q,Rs.cutm r z⟩
 | .rdl xs,v,h,z=>by
  rw [ff] at h ⊢
  obtain ⟨a,ys,e,q,r⟩:=h
  rw [PV.bec] at z
  exact ⟨a,ys,e,q,Rs.cutm r z⟩
 | .fn b,v,h,_=>by rw [xH] at h ⊢;exact h
theorem Rs.cutm {K:W.Frag} {m:List Addr} {H:Hp} {k:Nat}:∀ {ps:List PV} {vs:List V},Rs K m H ps vs→PV.becs k ps=true→Rs K (m.take k) H ps vs
 | [],vs,h,_=>by rw [Rs_nil] at h ⊢;exact h
 | p::ps,vs,h,z=>by
  rw [Rs_cons] at h ⊢
  obtain ⟨y,r,e,h1,h2⟩:=h
  rw [PV.becs,Bool.and_eq_true] at z
  exact ⟨y,r,e,R.cut h1 z.1,Rs.cutm h2 z.2⟩
end
mutual
theorem R.bel {K:W.Frag} {m:List Addr} {H:Hp}:∀ {p:PV} {v:V},R K m H p v→p.bec m.length=true
 | .non,v,h=>by rw [PV.bec]
 | .bl b,v,h=>by rw [PV.bec]
 | .int b,v,h=>by rw [PV.bec]
 | .str b,v,h=>by rw [PV.bec]
 | .ref n,v,h=>by
  rw [R_ref] at h
  obtain ⟨a,e,q⟩:=h
  rw [PV.bec]
  exact decide_eq_true (List.getElem?_eq_some_iff.mp e).1
 | .tup xs,v,h=>by
  rw [R_tup] at h
  obtain ⟨a,ys,e,q,r⟩:=h
  rw [PV.bec]
  exact Rs.bel r
 | .rdl xs,v,h=>by
  rw [ff] at h
  obtain ⟨a,ys,e,q,r⟩:=h
  rw [PV.bec]
  exact Rs.bel r
 | .fn b,v,h=>by rw [PV.bec]
theorem Rs.bel {K:W.Frag} {m:List Addr} {H:Hp}:∀ {ps:List PV} {vs:List V},Rs K m H ps vs→PV.becs m.length ps=true
 | [],vs,h=>by rw [PV.becs]
 | p::ps,vs,h=>by
  rw [Rs_cons] at h
  obtain ⟨y,r,e,h1,h2⟩:=h
  rw [PV.becs,Bool.and_eq_true]
  exact ⟨R.bel h1,Rs.bel h2⟩
end
noncomputable def CellR (K:W.Frag) (m:List Addr) (H:Hp):Cell→Addr→Prop
 | .lst xs,a=>∃ys,H a=some (.lst ys)∧Rs K m H xs ys
 | .dk kvs,a=>∃ys,H a=some (.dK ys)∧ys.map (·.1)=kvs.map (·.1)∧Rs K m H (kvs.map (·.2)) (ys.map (·.2))
 | .fz kvs,a=>∃o ys,H a=some (.frz o (.dK ys))∧ys.map (·.1)=kvs.map (·.1)∧Rs K m H (kvs.map (·.2)) (ys.map (·.2))
theorem CellR.mono {K:W.Frag} {m m':List Addr} {H H':Hp} (x:Ext K m H m' H') {c:Cell} {a:Addr} (h:CellR K m H c a) (e:H' a=H a):CellR K m' H' c a:=by
 cases c with
 | lst xs=>obtain ⟨ys,h1,h2⟩:=h;exact ⟨ys,e.trans h1,h2.mono x⟩
 | dk kvs=>obtain ⟨ys,h1,h2,h3⟩:=h;exact ⟨ys,e.trans h1,h2,h3.mono x⟩
 | fz kvs=>obtain ⟨o,ys,h1,h2,h3⟩:=h;exact ⟨o,ys,e.trans h1,h2,h3.mono x⟩
theorem CellR.ex {K:W.Frag} {m:List Addr} {H:Hp} {c:Cell} {a:Addr} (h:CellR K m H c a):∃o,H a=some o∧(∀ys,o≠.tup ys)∧∀u p,o=.frz u p→∃ys,p=.dK ys:=by
 cases c with
 | lst xs=>obtain ⟨ys,h1,h2⟩:=h;exact ⟨_,h1,⟨fun _ z=>(by cases z),fun _ _ z=>(by cases z)⟩⟩
 | dk kvs=>obtain ⟨ys,h1,h2,h3⟩:=h;exact ⟨_,h1,⟨fun _ z=>(by cases z),fun _ _ z=>(by cases z)⟩⟩
 | fz kvs=>obtain ⟨o,ys,h1,h2,h3⟩:=h;exact ⟨_,h1,⟨fun _ z=>(by cases z),fun _ _ z=>(by cases z;exact ⟨ys,rfl⟩)⟩⟩
theorem CellR.cut {K:W.Frag} {m:List Addr} {H:Hp} {c:Cell} {a:Addr} {k:Nat} (h:CellR K m H c a) (z:c.bec k=true):CellR K (m.take k) H c a:=by
 cases c with
 | lst xs=>obtain ⟨ys,h1,h2⟩:=h;exact ⟨ys,h1,h2.cutm z⟩
 | dk kvs=>obtain ⟨ys,h1,h2,h3⟩:=h;exact ⟨ys,h1,h2,h3.cutm z⟩
 | fz kvs=>obtain ⟨o,ys,h1,h2,h3⟩:=h;exact ⟨o,ys,h1,h2,h3.cutm z⟩
theorem CellR.bel {K:W.Frag} {m:List Addr} {H:Hp} {c:Cell} {a:Addr} (h:CellR K m H c a):c.bec m.length=true:=by
 cases c with
 | lst xs=>obtain ⟨ys,h1,h2⟩:=h;exact h2.bel
 | dk kvs=>obtain ⟨ys,h1,h2,h3⟩:=h;exact h3.bel
 | fz kvs=>obtain ⟨o,ys,h1,h2,h3⟩:=h;exact h3.bel
structure RH (K:W.Frag) (m:List Addr) (H:Hp) (st:AH):Prop where
 len:m.length=st.length
 nd:m.Nodup
 at_:∀(n:Nat) (c:Cell) (a:Addr),st[n]?=some c→m[n]?=some a→CellR K m H c a
 tb:TB K H
section
variable {K:W.Frag} {m m':List Addr} {H H':Hp} {st:AH}
theorem RH.get {n:Nat} {c:Cell} (h:RH K m H st) (e:st[n]?=some c):∃a,m[n]?=some a∧CellR K m H c a:=by
 have:n<m.length:=by rw [h.len];exact (List.getElem?_eq_some_iff.mp e).1
 exact ⟨m[n],by simp [this],h.at_ n c _ e (by simp [this])⟩
theorem RH.mem {a:Addr} (h:RH K m H st) (e:a∈m):∃o,H a=some o∧(∀ys,o≠.tup ys)∧∀u p,o=.frz u p→∃ys,p=.dK ys:=by
 obtain ⟨n,hn,rfl⟩:=List.mem_iff_getElem.mp e
 have:n<st.length:=by rw [←h.len];exact hn
 exact (h.at_ n st[n] _ (by simp [this]) (by simp [hn])).ex
theorem RH.mem_tbl {a:Addr} (h:RH K m H st) (e:a∈m) {ps:Array Value}:H a≠some (.tbl ps):=fun z=>by
 obtain ⟨n,hn,rfl⟩:=List.mem_iff_getElem.mp e
 have:n<st.length:=by rw [←h.len];exact hn
 have c:=h.at_ n st[n] m[n] (by simp [this]) (by simp [hn])
 cases q:st[n] with
 | lst xs=>rw [q] at c;obtain ⟨ys,h1,_⟩:=c;rw [h1] at z;cases z
 | dk xs=>rw [q] at c;obtain ⟨ys,h1,_⟩:=c;rw [h1] at z;cases z
 | fz xs=>rw [q] at c;obtain ⟨o,ys,h1,_⟩:=c;rw [h1] at z;cases z
theorem RH.lst {n:Nat} {xs:List PV} {v:V} (h:RH K m H st) (e:st[n]?=some (.lst xs)) (r:R K m H (.ref n) v):∃a ys,v=.ref a∧m[n]?=some a∧H a=some (.lst ys)∧Rs K m H xs ys:=by
 rw [R_ref] at r
 obtain ⟨a,e1,rfl⟩:=r
 obtain ⟨ys,h1,h2⟩:=h.at_ n _ a e e1
 exact ⟨a,ys,rfl,e1,h1,h2⟩
theorem RH.fresh {p:Addr} (h:RH K m H st) (e:H p=none):p ∉ m:=fun z=>by
 obtain ⟨o,q,_⟩:=h.mem z
 rw [e] at q;cases q
theorem Ext.newT {p:Addr} {o:HO} (h:RH K m H st) (e:H p=none):Ext K m H m (upd H p o):=by
 refine ⟨List.prefix_refl _,fun _ z=>.inl z,fun a u _ q _=>?_,fun a ys q=>?_,fun a ys q=>?_,fun a ps _ q=>⟨ps,by rw [ac (aq q e)];exact q⟩,fun t=>t.keep (fun a ps q=>by rw [ac (aq q e)];exact q) fun a o q=>by rw [ac (aq q e)];exact q,fun a o u q=>by rw [ac (aq q e)];exact q⟩
 ·rw [ac (aq q e)];exact q
 ·rcases q with (q|⟨u,q⟩)|q
  ·exact .inl (.inl (by rw [ac (aq q e)];exact q))
  ·exact .inl (.inr ⟨u,by rw [ac (aq q e)];exact q⟩)
  ·exact .inr q
 ·rcases q with ⟨u,q⟩|q
  ·exact .inl ⟨u,by rw [ac (aq q e)];exact q⟩
  ·exact .inr q
theorem RH.keep (h:RH K m H st) (x:Ext K m H m H') (e:∀a∈m,H' a=H a):RH K m H' st :=
 ⟨h.len,h.nd,fun n c a h1 h2=>(h.at_ n c a h1 h2).mono x (e a (List.mem_of_getElem? h2)),x.tb h.tb⟩
theorem RH.newT {p:Addr} {o:HO} (h:RH K m H st) (e:H p=none):RH K m (upd H p o) st :=
 h.keep (Ext.newT h e) fun a ha=>ac fun z=>h.fresh e (z ▸ ha)
theorem Ext.new1 {p:Addr} {o:HO} (h:RH K m H st) (e:H p=none):Ext K m H (m++[p]) (upd H p o):=by
 have q:=Ext.newT (o:=o) h e
 refine ⟨List.prefix_append _ _,fun a z=>?_,q.fr,q.tup,q.rdf,q.tbs,q.tb,q.frz⟩
 rcases List.mem_append.mp z with z|z
 ·exact .inl z
 ·rw [List.mem_singleton] at z
  subst z
  exact .inr e
theorem RH.new1 {p:Addr} {o:HO} {c:Cell} (h:RH K m H st) (e:H p=none) (hc:CellR K (m++[p]) (upd H p o) c p):RH K (m++[p]) (upd H p o) (st++[c]):=by
 have x:=Ext.new1 (o:=o) h e
 refine ⟨by simp [h.len],List.nodup_append.mpr ⟨h.nd,List.nodup_cons.mpr ⟨by simp,List.nodup_nil⟩,fun a ha b hb z=>?_⟩,fun n c' a h1 h2=>?_,x.tb h.tb⟩
 ·rw [List.mem_singleton] at hb
  subst hb
  exact h.fresh e (z ▸ ha)
 ·by_cases hn:n<st.length
  ·rw [List.getElem?_append_left hn] at h1
   rw [List.getElem?_append_left (by rw [h.len];exact hn)] at h2
   exact (h.at_ n c' a h1 h2).mono x (ac fun z=>h.fresh e (z ▸ List.mem_of_getElem? h2))
  ·rw [List.getElem?_append_right (by omega)] at h1
   rw [List.getElem?_append_right (by rw [h.len];omega)] at h2
   have hl:=h.len
   by_cases hz:n-st.length=0
   ·rw [hz] at h1
    rw [show n-m.length=0 by omega] at h2
    simp at h1 h2
    subst h1 h2
    exact hc
   ·rw [List.getElem?_eq_none (by simp;omega)] at h1
    cases h1
theorem RH.newL {p:Addr} {xs:List PV} {ys:List V} (h:RH K m H st) (e:H p=none) (r:Rs K m H xs ys):RH K (m++[p]) (upd H p (.lst ys)) (st++[.lst xs]) :=
 h.new1 e ⟨ys,ao,r.mono (Ext.new1 h e)⟩
theorem R.last {p:Addr} {n:Nat} (h:m.length=n):R K (m++[p]) H (.ref n) (.ref p):=by
 rw [R_ref]
 exact ⟨p,by rw [←h];simp,rfl⟩
theorem nfL {H:Hp} {a:Addr} {ys:List V} (g:H a=some (.lst ys)):∀w v,H a≠some (.frz w v):=fun _ _ z=>by rw [g] at z;cases z
theorem nfD {H:Hp} {a:Addr} {ys:List (Key × V)} (g:H a=some (.dK ys)):∀w v,H a≠some (.frz w v):=fun _ _ z=>by rw [g] at z;cases z
theorem Ext.set {n:Nat} {a:Addr} {ys:List V} {o:HO} (h:RH K m H st) (e:m[n]?=some a) (hz:∀w v,H a≠some (.frz w v)):Ext K m H m (upd H a o):=by
 have hm:=List.mem_of_getElem? e
 obtain ⟨u,hu,h1,h2⟩:=h.mem hm
 refine ⟨List.prefix_refl _,fun _ z=>.inl z,fun b w hb q _=>?_,fun b zs q=>?_,fun b zs q=>?_,fun b ps hb q=>⟨ps,by rw [ac (show b≠a from fun z=>hb (by rw [z];exact hm))];exact q⟩,fun t=>t.keep (fun b ps q=>by rw [ac (fun z=>by subst z;exact h.mem_tbl hm q)];exact q) fun b w q=>by rw [ac (fun z=>by subst z;exact hz _ _ q)];exact q,fun b w v q=>by rw [ac (fun z=>by subst z;exact hz _ _ q)];exact q⟩
 ·have hne:b≠a:=fun z=>hb (by rw [z];exact hm)
  rw [ac hne];exact q
 ·rcases q with (q|⟨w,q⟩)|q
  ·exact .inl (.inl (by rw [ac (fun z=>by subst z;rw [hu] at q;cases q;exact h1 _ rfl)];exact q))
  ·exact .inl (.inr ⟨w,by rw [ac (fun z=>by subst z;exact hz _ _ q)];exact q⟩)
  ·exact .inr q
 ·rcases q with ⟨w,q⟩|q
  ·exact .inl ⟨w,by rw [ac (fun z=>by subst z;exact hz _ _ q)];exact q⟩
  ·exact .inr q
theorem kG {m:List Addr} (h:m.Nodup) {i j:Nat} {a:Addr} (e:m[i]?=some a) (e':m[j]?=some a):i=j:=by
 obtain ⟨h1,h2⟩:=List.getElem?_eq_some_iff.mp e
 obtain ⟨h3,h4⟩:=List.getElem?_eq_some_iff.mp e'
 exact (List.getElem_inj h).mp (h2.trans h4.symm)
theorem RH.setL {n:Nat} {a:Addr} {xs:List PV} {ys:List V} (h:RH K m H st) (e:m[n]?=some a) (hz:∀w v,H a≠some (.frz w v)) (r:Rs K m H xs ys):RH K m (upd H a (.lst ys)) (st.set n (.lst xs)):=by
 have x:Ext K m H m (upd H a (.lst ys)):=Ext.set (ys:=ys) h e hz
 refine ⟨by simp [h.len],h.nd,fun k c b h1 h2=>?_,x.tb h.tb⟩
 by_cases hk:k=n
 ·subst hk
  rw [e] at h2
  cases h2
  have hl:k<st.length:=by rw [←h.len];exact (List.getElem?_eq_some_iff.mp e).1
  rw [List.getElem?_set_self hl] at h1
  cases h1
  exact ⟨ys,ao,r.mono x⟩
 ·rw [List.getElem?_set_ne (fun z=>hk z.symm)] at h1
  exact (h.at_ k c b h1 h2).mono x (ac fun z=>hk (kG h.nd h2 (z ▸ e)))
end
structure RF (K:W.Frag) (m:List Addr) (H:Hp) (ρ:Fr) (σ:L2.St):Prop where
 len:ρ.length=σ.length
 at_:∀(i:Nat) v,ρ[i]?=some (some v)→∃x,σ[i]?=some (some x)∧R K m H v x
theorem RF.mono {K:W.Frag} {m m':List Addr} {H H':Hp} {ρ:Fr} {σ:L2.St} (h:RF K m H ρ σ) (x:Ext K m H m' H'):RF K m' H' ρ σ :=
 ⟨h.len,fun i v e=>let ⟨y,e1,r⟩:=h.at_ i v e;⟨y,e1,r.mono x⟩⟩
theorem RF.set {K:W.Frag} {m:List Addr} {H:Hp} {ρ:Fr} {σ:L2.St} (h:RF K m H ρ σ) (i:Nat) {v:PV} {x:V} (r:R K m H v x):RF K m H (ρ.set i (some v)) (σ.set i (some x)):=by
 refine ⟨by simp [h.len],fun j w e=>?_⟩
 by_cases hj:i=j
 ·subst hj
  have hl:i<ρ.length:=by have:=(List.getElem?_eq_some_iff.mp e).1;simpa using this
  rw [List.getElem?_set_self hl] at e
  cases e
  exact ⟨x,by rw [List.getElem?_set_self (h.len ▸ hl)],r⟩
 ·rw [List.getElem?_set_ne hj] at e
  rw [List.getElem?_set_ne hj]
  exact h.at_ j w e
noncomputable def post (K:W.Frag) (m:List Addr) (H:Hp) (Q:VK):EK:=fun v st'=>∀m' H' x,Ext K m H m' H'→RH K m' H' st'→R K m' H' v x→Q x H'
noncomputable def postB (K:W.Frag) (m:List Addr) (H:Hp) (Q:Bool→Hp→Prop):BK:=fun v st'=>∀m' H',Ext K m H m' H'→RH K m' H' st'→Q v H'
noncomputable def FR (K:W.Frag) (m:List Addr) (H:Hp) (Q:List V→Hp→Prop):LK:=fun vs st'=>∀m' H' xs,Ext K m H m' H'→RH K m' H' st'→Rs K m' H' vs xs→Q xs H'
noncomputable def TEx (K:W.Frag) (w:Fr→AH→EK→Prop):TE:=fun σ H Q=>∃m ρ st,RF K m H ρ σ∧RH K m H st∧w ρ st (post K m H Q)
noncomputable def TTx (K:W.Frag) (w:Fr→AH→BK→Prop):TT:=fun σ H Q=>∃m ρ st,RF K m H ρ σ∧RH K m H st∧w ρ st (postB K m H Q)
noncomputable def TAx (K:W.Frag) (w:Fr→AH→LK→Prop):TA:=fun σ H Q=>∃m ρ st,RF K m H ρ σ∧RH K m H st∧w ρ st (FR K m H Q)
theorem post.ext {K:W.Frag} {m m1:List Addr} {H H1:Hp} {Q:VK} (x:Ext K m H m1 H1) {v:PV} {st:AH} (q:post K m H Q v st):post K m1 H1 Q v st:=fun m' H' y e r s=>q m' H' y (x.trans e) r s
theorem postB.ext {K:W.Frag} {m m1:List Addr} {H H1:Hp} {Q:Bool→Hp→Prop} (x:Ext K m H m1 H1) {v:Bool} {st:AH} (q:postB K m H Q v st):postB K m1 H1 Q v st:=fun m' H' e r=>q m' H' (x.trans e) r
noncomputable def Cc (K:W.Frag) (w:PV→PV→AH→EK→Prop):R2:=fun x' y' H Q=>∃m st x y,RH K m H st∧R K m H x x'∧R K m H y y'∧w x y st (post K m H Q)
noncomputable def Fz (K:W.Frag) (w:List PV→AH→EK→Prop):List V→Hp→VK→Prop:=fun xs' H Q=>∃m st xs,RH K m H st∧Rs K m H xs xs'∧w xs st (post K m H Q)
end FW
namespace FW
open L2 HX
theorem fY {n:Nat} (h:n≤100000):n≤sizeLine:=by rw [sizeLine_eq];omega
theorem fZ {n:Nat} (h:n<100000):n<sizeLine:=by rw [sizeLine_eq];omega
section
variable {X:Cx}
theorem post.here {K:W.Frag} {m:List Addr} {H:Hp} {Q:VK} {v:PV} {st:AH} {x:V} (q:post K m H Q v st) (h:RH K m H st) (r:R K m H v x):Q x H:=q m H x (Ext.refl _ _ _) h r
theorem post.newT {K:W.Frag} {m:List Addr} {H:Hp} {Q:VK} {xs:List PV} {ys:List V} {st:AH} {p:Addr} (q:post K m H Q (.tup xs) st) (h:RH K m H st) (r:Rs K m H xs ys) (e:H p=none):Q (.ref p) (upd H p (.tup ys)) :=
 q m _ _ (Ext.newT h e) (h.newT e) (R_tup.mpr ⟨p,ys,rfl,SqT.of ao,r.mono (Ext.newT h e)⟩)
theorem post.newL {K:W.Frag} {m:List Addr} {H:Hp} {Q:VK} {xs:List PV} {ys:List V} {st:AH} {p:Addr} (q:post K m H Q (.ref st.length) (st++[.lst xs])) (h:RH K m H st) (r:Rs K m H xs ys) (e:H p=none):Q (.ref p) (upd H p (.lst ys)) :=
 q _ _ _ (Ext.new1 h e) (h.newL e r) (R.last h.len)
theorem post.setL {K:W.Frag} {m:List Addr} {H:Hp} {Q:VK} {v:PV} {y:V} {xs:List PV} {ys:List V} {st:AH} {n:Nat} {a:Addr} (q:post K m H Q v (st.set n (.lst xs))) (h:RH K m H st) (e:m[n]?=some a) (hz:∀w v,H a≠some (.frz w v)) (r:Rs K m H xs ys) (rv:R K m H v y) :
  Q y (upd H a (.lst ys)):=q _ _ _ (Ext.set (ys:=ys) h e hz) (h.setL e hz r) (rv.mono (Ext.set (ys:=ys) h e hz))
theorem eF {K:W.Frag} {m:List Addr} {H:Hp} {st:AH} {v:PV} {x:V} {xs:List PV} (h:RH K m H st) (r:R K m H v x) (e:br st v=some xs):∃a ys,x=.ref a∧SqL K H a ys∧Rs K m H xs ys:=by
 cases v with
 | rdl zs =>
  cases e
  rw [ff] at r
  obtain ⟨a,ys,rfl,h1,h2⟩:=r
  exact ⟨a,ys,rfl,h1.sq,h2⟩
 | ref n =>
  unfold br at e
  simp only at e
  split at e
  ·cases e
   rename_i q
   obtain ⟨a,ys,rfl,_,h1,h2⟩:=h.lst q r
   exact ⟨a,ys,rfl,SqL.of h1,h2⟩
  ·cases e
 | _=>cases e
theorem gm {K:W.Frag} {m:List Addr} {H:Hp} {st:AH} {v:PV} {x:V} {xs:List PV} (h:RH K m H st) (r:R K m H v x) (e:bo st v=some xs):∃a ys,x=.ref a∧(SqL K H a ys∨SqT K H a ys)∧Rs K m H xs ys:=by
 cases v with
 | tup zs =>
  cases e
  rw [R_tup] at r
  obtain ⟨a,ys,rfl,h1,h2⟩:=r
  exact ⟨a,ys,rfl,.inr h1,h2⟩
 | rdl zs =>
  obtain ⟨a,ys,h1,h2,h3⟩:=eF h r e
  exact ⟨a,ys,h1,.inl h2,h3⟩
 | ref n =>
  obtain ⟨a,ys,h1,h2,h3⟩:=eF h r e
  exact ⟨a,ys,h1,.inl h2,h3⟩
 | _=>cases e
theorem Gx {P:Program} {w:World} {A:Around} {E:Value→Shared→Prop} {s:Shared} {t b:Addr} {ws:List Value} {Q:Value→Shared→Prop} (ht:IsTup s.heap t ([]:List Value).toArray) (hb:IsTup s.heap b ws.toArray) (h:Q (.ref b) s) :
  wpAny (model P w) A (binaryOp .Add (.ref t) (.ref b)) Q E s:=by
 obtain ⟨⟨cls,dd,data,sl⟩,ho,hc,n,hd⟩:=id ht
 obtain ⟨⟨cls2,dd2,data2,sl2⟩,ho2,hc2,n2,hd2⟩:=id hb
 simp only at hc hd hc2 hd2
 subst hc hd hc2 hd2
 exact concat_meets ⟨_,ho,rfl⟩ ⟨_,ho2,rfl⟩ noFill_tuple_add seq_tuple_add PySem.F.slot_tuple_add PySem.F.entry_tuple_add (PySem.F.args_tuple_add_2 _ _)
  (tuple_addW0 t b ([]:List Value).toArray ws.toArray n n2 dd dd2 sl sl2 rfl) ⟨ho,ho2,h⟩
theorem EL (op:Operator):OpR X (binaryOp op) (Cc X.K (iM op)):=by
 intro pins s σ H x' y' v u Q I rx ry h
 obtain ⟨m,st,x,y,rh,hx,hy,w⟩:=h
 cases op with
 | Add =>
  cases x with
  | int i =>
   cases y with
   | int j =>
    have w:post X.K m H Q (.int (i+j)) st:=w
    rw [R_int] at hx hy;subst hx hy
    exact Dn pins s σ H _ _ v u Q I rx ry ⟨_,_,rfl,rfl,w.here rh (R_int.mpr rfl)⟩
   | _=>exact False.elim w
  | ref n =>
   cases y with
   | ref k =>
    obtain ⟨xs,ys,h1,h2,h3,w⟩:=w
    obtain ⟨a,xs',rfl,e1,g1,r1⟩:=rh.lst h1 hx
    obtain ⟨b,ys',rfl,e2,g2,r2⟩:=rh.lst h2 hy
    exact D6 pins s σ H _ _ v u Q I rx ry ⟨a,b,xs',ys',rfl,rfl,g1,g2,by rw [←r1.len,←r2.len];exact fY h3,fun p hp=>w.newL rh (r1.app r2) hp⟩
   | _=>exact False.elim w
  | tup xs =>
   cases y with
   | tup ys =>
    obtain ⟨h2,w⟩:=w
    rw [R_tup] at hx hy
    obtain ⟨a,xs',rfl,g1,r1⟩:=hx
    obtain ⟨b,ys',rfl,g2,r2⟩:=hy
    by_cases h1:xs'=[]
    ·subst h1
     cases rx
     cases ry
     obtain ⟨its1,rv1,p1,_⟩:=I.tuple g1
     obtain ⟨its2,rv2,p2,_⟩:=I.tuple g2
     cases rv1
     have e:=r1.len
     rw [List.length_eq_zero_iff.mp e,List.nil_append] at w
     exact Gx p1 p2 ⟨.ref b,H,I,rfl,w.here rh (R_tup.mpr ⟨b,ys',rfl,g2,r2⟩)⟩
    refine BI pins s σ H _ _ v u Q I rx ry ⟨a,b,xs',ys',rfl,rfl,g1,g2,fun z=>?_,by rw [←r1.len,←r2.len];exact fY h2,fun z=>?_,fun z p hp=>w.newT rh (r1.app r2) hp⟩
    ·exact h1 z
    ·subst z
     have e:=r2.len
     rw [List.length_eq_zero_iff.mp e,List.append_nil] at w
     exact w.here rh (R_tup.mpr ⟨a,xs',rfl,g1,r1⟩)
   | _=>exact False.elim w
  | str a =>
   cases y with
   | str b =>
    obtain ⟨h2,w⟩:=w
    rw [R_str] at hx hy;subst hx hy
    exact vG pins s σ H _ _ v u Q I rx ry ⟨_,_,rfl,rfl,fY h2,w.here rh (R_str.mpr rfl)⟩
   | _=>exact False.elim w
  | _=>exact False.elim w
 | Mult =>
  cases x with
  | int i =>
   cases y with
   | int j =>
    have w:CMB i j∧post X.K m H Q (.int (i*j)) st:=w
    rw [R_int] at hx hy;subst hx hy
    exact B4 pins s σ H _ _ v u Q I rx ry ⟨_,_,rfl,rfl,w.1,w.2.here rh (R_int.mpr rfl)⟩
   | _=>exact False.elim w
  | ref n =>
   cases y with
   | int k =>
    obtain ⟨xs,h1,h2,h3,h4,w⟩:=w
    rw [R_int] at hy;subst hy
    obtain ⟨a,xs',rfl,e1,g1,r1⟩:=rh.lst h1 hx
    exact DC pins s σ H _ _ v u Q I rx ry ⟨a,_,xs',rfl,rfl,g1,h2,h3,by rw [←r1.len];exact fY h4,fun p hp=>w.newL rh (r1.rep _) hp⟩
   | _=>exact False.elim w
  | _=>exact False.elim w
 | Sub =>
  obtain ⟨i,j,rfl,rfl,w⟩:=bR w
  rw [R_int] at hx hy;subst hx hy
  exact Ep pins s σ H _ _ v u Q I rx ry ⟨_,_,rfl,rfl,w.here rh (R_int.mpr rfl)⟩
 | FloorDiv =>
  obtain ⟨i,j,rfl,rfl,w⟩:=bR w
  rw [R_int] at hx hy;subst hx hy
  exact yL pins s σ H _ _ v u Q I rx ry ⟨_,_,rfl,rfl,w.1,w.2.here rh (R_int.mpr rfl)⟩
 | Mod =>
  obtain ⟨i,j,rfl,rfl,w⟩:=bR w
  rw [R_int] at hx hy;subst hx hy
  exact DO pins s σ H _ _ v u Q I rx ry ⟨_,_,rfl,rfl,w.1,w.2.here rh (R_int.mpr rfl)⟩
 | Pow =>
  obtain ⟨i,j,rfl,rfl,w⟩:=bR w
  rw [R_int] at hx hy;subst hx hy
  exact Ex pins s σ H _ _ v u Q I rx ry ⟨_,_,rfl,rfl,w.1,w.2.here rh (R_int.mpr rfl)⟩
 | _=>exact False.elim w
mutual
theorem R.den {K:W.Frag} {m:List Addr} {H:Hp}:∀ {p:PV} {v:V} {d:PyData},R K m H p v→p.toD=some d→(∃xs,d=.list xs)∨Den K H d v
 | .non,v,d,h,e=>by rw [PV.toD] at e;cases e;rw [R_non] at h;exact .inr (den_non.mpr h)
 | .bl b,v,d,h,e=>by rw [PV.toD] at e;cases e;rw [R_bl] at h;exact .inr (den_bl.mpr h)
 | .int b,v,d,h,e=>by rw [PV.toD] at e;cases e;rw [R_int] at h;exact .inr (den_int.mpr h)
 | .str b,v,d,h,e=>by rw [PV.toD] at e;cases e;rw [R_str] at h;exact .inr (den_str.mpr h)
 | .ref n,v,d,h,e=>by rw [PV.toD] at e;cases e
 | .fn n,v,d,h,e=>by rw [PV.toD] at e;cases e
 | .tup xs,v,d,h,e=>by
  rw [PV.toD] at e
  cases q:PV.toDs xs with
  | none=>rw [q] at e;cases e
  | some ds =>
   rw [q] at e
   cases e
   rw [R_tup] at h
   obtain ⟨a,ys,rfl,h1,h2⟩:=h
   exact .inr (den_tup.mpr ⟨a,ys,rfl,h1,Rs.den h2 q⟩)
 | .rdl xs,v,d,h,e=>by
  rw [PV.toD] at e
  cases q:PV.toDs xs with
  | none=>rw [q] at e;cases e
  | some ds=>rw [q] at e;cases e;exact .inl ⟨_,rfl⟩
theorem Rs.den {K:W.Frag} {m:List Addr} {H:Hp}:∀ {ps:List PV} {vs:List V} {ds:List PyData},Rs K m H ps vs→PV.toDs ps=some ds→Dens K H ds vs
 | [],vs,ds,h,e=>by rw [PV.toDs] at e;cases e;rw [Rs_nil] at h;exact dens_nil.mpr h
 | p::ps,vs,ds,h,e=>by
  rw [Rs_cons] at h
  obtain ⟨y,r,rfl,h1,h2⟩:=h
  rw [PV.toDs] at e
  cases q:p.toD with
  | none=>rw [q] at e;cases e
  | some d =>
   cases q2:PV.toDs ps with
   | none=>rw [q,q2] at e;cases e
   | some ds' =>
    rw [q,q2] at e
    cases e
    refine dens_cons'.mpr ⟨?_,Rs.den h2 q2⟩
    cases p with
    | rdl xs =>
     rw [PV.toD] at q
     cases q3:PV.toDs xs with
     | none=>rw [q3] at q;cases q
     | some es =>
      rw [q3] at q
      cases q
      rw [ff] at h1
      obtain ⟨a,ys,rfl,g1,g2⟩:=h1
      exact den_lst.mpr ⟨a,ys,rfl,g1.sq,Rs.den g2 q3⟩
    | _ =>
     rcases R.den h1 q with ⟨xs,rfl⟩|z
     ·first
       | (rw [PV.toD] at q;cases q;done)
       | (rw [PV.toD] at q;simp only [Option.map_eq_some_iff,reduceCtorEq,and_false,exists_false] at q)
     ·exact z
end
theorem fN {K:W.Frag} {m:List Addr} {H:Hp} {st:AH} {p:PV} {v:V} {d:PyData} (rh:RH K m H st) (h:R K m H p v) (e:vk st p=some d):Den K H d v:=by
 cases p with
 | ref n =>
  unfold vk at e
  simp only at e
  split at e
  ·rename_i xs q
   cases q2:PV.toDs xs with
   | none=>rw [q2] at e;cases e
   | some ds =>
    rw [q2] at e
    cases e
    obtain ⟨a,ys,rfl,_,h1,h2⟩:=rh.lst q h
    exact den_lst.mpr ⟨a,ys,rfl,SqL.of h1,h2.den q2⟩
  ·cases e
 | rdl xs =>
  have e':(PV.rdl xs).toD=some d:=e
  rw [PV.toD] at e'
  cases q2:PV.toDs xs with
  | none=>rw [q2] at e';cases e'
  | some ds =>
   rw [q2] at e'
   cases e'
   rw [ff] at h
   obtain ⟨a,ys,rfl,g1,g2⟩:=h
   exact den_lst.mpr ⟨a,ys,rfl,g1.sq,g2.den q2⟩
 | tup xs =>
  have e':(PV.tup xs).toD=some d:=e
  rcases R.den h e' with ⟨zs,rfl⟩|z
  ·rw [PV.toD] at e'
   simp at e'
  ·exact z
 | fn b=>have e':(PV.fn b).toD=some d:=e;rw [PV.toD] at e';cases e'
 | non=>have e':(PV.non).toD=some d:=e;rw [PV.toD] at e';cases e';exact den_non.mpr (R_non.mp h)
 | bl b=>have e':(PV.bl b).toD=some d:=e;rw [PV.toD] at e';cases e';exact den_bl.mpr (R_bl.mp h)
 | int b=>have e':(PV.int b).toD=some d:=e;rw [PV.toD] at e';cases e';exact den_int.mpr (R_int.mp h)
 | str b=>have e':(PV.str b).toD=some d:=e;rw [PV.toD] at e';cases e';exact den_str.mpr (R_str.mp h)
theorem R.nonB {K:W.Frag} {m:List Addr} {H:Hp} {p:PV} {v:V} (h:R K m H p v):decide (v=.non)=gC p:=by
 cases p with
 | non=>rw [R_non] at h;subst h;rfl
 | bl b=>rw [R_bl] at h;subst h;rfl
 | int b=>rw [R_int] at h;subst h;rfl
 | str b=>rw [R_str] at h;subst h;rfl
 | ref n=>rw [R_ref] at h;obtain ⟨a,_,rfl⟩:=h;rfl
 | tup n=>rw [R_tup] at h;obtain ⟨a,_,rfl,_⟩:=h;rfl
 | rdl n=>rw [ff] at h;obtain ⟨a,_,rfl,_⟩:=h;rfl
 | fn n=>rw [xH] at h;subst h;rfl
theorem R.blB {K:W.Frag} {m:List Addr} {H:Hp} {p:PV} {v:V} {k:Bool} (h:R K m H p v):decide (v=.bl k)=iY k p:=by
 cases p with
 | non=>rw [R_non] at h;subst h;rfl
 | bl b=>rw [R_bl] at h;subst h;cases b <;> cases k <;> rfl
 | int b=>rw [R_int] at h;subst h;rfl
 | str b=>rw [R_str] at h;subst h;rfl
 | ref n=>rw [R_ref] at h;obtain ⟨a,_,rfl⟩:=h;rfl
 | tup n=>rw [R_tup] at h;obtain ⟨a,_,rfl,_⟩:=h;rfl
 | rdl n=>rw [ff] at h;obtain ⟨a,_,rfl,_⟩:=h;rfl
 | fn n=>rw [xH] at h;subst h;rfl
theorem F5 {i j:Int}:decide (V.int i=V.int j)=decide (i=j):=by simp
theorem FI {i j:Bool}:decide (V.bl i=V.bl j)=decide (i=j):=by simp
theorem F8 {i j:Str}:decide (V.str i=V.str j)=decide (i=j):=by simp
theorem pL {K:W.Frag} {m:List Addr} {H:Hp}:∀ {ns:List Int} {ys:List V},Rs K m H (ns.map PV.int) ys→ys=ns.map V.int
 | [],ys,h=>by rw [List.map_nil,Rs_nil] at h;exact h
 | n::ns,ys,h=>by
  cases ys with
  | nil=>have:=h.len;simp at this
  | cons y ys =>
   rw [List.map_cons,Rs_cons',R_int] at h
   rw [h.1,pL h.2]
   rfl
theorem jM:∀ {ns:List Int},(ns.map V.int).all iq=true
 | []=>rfl
 | n::ns=>by rw [List.map_cons,List.all_cons,jM];rfl
theorem pK {i:Int}:∀ {ns:List Int},inV (.int i) (ns.map V.int)=ns.any fun j=>j == i
 | []=>rfl
 | n::ns=>by
  have:=pK (i:=i) (ns:=ns)
  unfold inV at this ⊢
  rw [List.map_cons,List.any_cons,List.any_cons,this]
  rfl
theorem jt {K:W.Frag} {m:List Addr} {H:Hp}:∀ {ns:List Str} {ys:List V},Rs K m H (ns.map PV.str) ys→ys=ns.map V.str
 | [],ys,h=>by rw [List.map_nil,Rs_nil] at h;exact h
 | n::ns,ys,h=>by
  cases ys with
  | nil=>have:=h.len;simp at this
  | cons y ys =>
   rw [List.map_cons,Rs_cons',R_str] at h
   rw [h.1,jt h.2]
   rfl
theorem fG:∀ {ns:List Str},(ns.map V.str).all iq=true
 | []=>rfl
 | n::ns=>by rw [List.map_cons,List.all_cons,fG];rfl
theorem jj {i:Str}:∀ {ns:List Str},inV (.str i) (ns.map V.str)=ns.any fun j=>j == i
 | []=>rfl
 | n::ns=>by
  have:=jj (i:=i) (ns:=ns)
  unfold inV at this ⊢
  rw [List.map_cons,List.any_cons,List.any_cons,this]
  rfl
section
variable {K:W.Frag} {m:List Addr} {H:Hp}
theorem qA {k:Key}:∀ {kvs:List (Key × PV)} {ys:List (Key × V)},ys.map (·.1)=kvs.map (·.1)→Rs K m H (kvs.map (·.2)) (ys.map (·.2)) →
  (∀v,fI kvs k=some v→∃v',ib ys k=some v'∧R K m H v v')∧(fI kvs k=none→ib ys k=none)
 | [],ys,e,_=>by
  cases ys with
  | nil=>exact ⟨fun v z=>(by cases z),fun _=>rfl⟩
  | cons y ys=>cases e
 | p::kvs,ys,e,r=>by
  cases ys with
  | nil=>cases e
  | cons y ys =>
   rw [List.map_cons,List.map_cons,List.cons.injEq] at e
   rw [List.map_cons,List.map_cons,Rs_cons'] at r
   obtain ⟨a1,a2⟩:=qA (k:=k) e.2 r.2
   by_cases q:p.1=k
   ·have e1:fI (p::kvs) k=some p.2:=by simp [fI,List.find?_cons,q]
    have e2:ib (y::ys) k=some y.2:=jd (by rw [e.1];exact q)
    rw [e1,e2]
    exact ⟨fun v z=>⟨_,rfl,by cases z;exact r.1⟩,fun z=>by cases z⟩
   ·have e1:fI (p::kvs) k=fI kvs k:=by simp [fI,List.find?_cons,q]
    have e2:ib (y::ys) k=ib ys k:=jf (by rw [e.1];exact q)
    rw [e1,e2]
    exact ⟨a1,a2⟩
theorem we {k:Key} {kvs:List (Key × PV)} {ys:List (Key × V)} (e:ys.map (·.1)=kvs.map (·.1)) (r:Rs K m H (kvs.map (·.2)) (ys.map (·.2))):(ib ys k).isSome=(fI kvs k).isSome:=by
 obtain ⟨a1,a2⟩:=qA (k:=k) e r
 cases q:fI kvs k with
 | none=>rw [a2 q];rfl
 | some v=>obtain ⟨v',e',_⟩:=a1 v q;rw [e'];rfl
theorem y_ {k:Key}:∀ {kvs:List (Key × PV)} {ys:List (Key × V)},ys.map (·.1)=kvs.map (·.1)→(kvs.any fun kv=>decide (kv.1=k))=ys.any fun kv=>decide (kv.1=k)
 | [],ys,e=>by cases ys with|nil=>rfl|cons y ys=>cases e
 | p::kvs,ys,e=>by
  cases ys with
  | nil=>cases e
  | cons y ys =>
   rw [List.map_cons,List.map_cons,List.cons.injEq] at e
   rw [List.any_cons,List.any_cons,y_ e.2,e.1]
theorem AB {k:Key} {v:PV} {v':V} (rv:R K m H v v'):∀ {kvs:List (Key × PV)} {ys:List (Key × V)},ys.map (·.1)=kvs.map (·.1)→Rs K m H (kvs.map (·.2)) (ys.map (·.2)) →
  (ys.map fun kv=>if kv.1=k then (kv.1,v') else kv).map (·.1)=(kvs.map fun kv=>if kv.1=k then (kv.1,v) else kv).map (·.1)∧Rs K m H ((kvs.map fun kv=>if kv.1=k then (kv.1,v) else kv).map (·.2)) ((ys.map fun kv=>if kv.1=k then (kv.1,v') else kv).map (·.2))
 | [],ys,e,_=>by cases ys with|nil=>exact ⟨rfl,by rw [List.map_nil,List.map_nil,List.map_nil,List.map_nil,Rs_nil]⟩|cons y ys=>cases e
 | p::kvs,ys,e,r=>by
  cases ys with
  | nil=>cases e
  | cons y ys =>
   rw [List.map_cons,List.map_cons,List.cons.injEq] at e
   rw [List.map_cons,List.map_cons,Rs_cons'] at r
   obtain ⟨a1,a2⟩:=AB (k:=k) rv e.2 r.2
   simp only [List.map_cons]
   rw [Rs_cons',a1]
   by_cases q:p.1=k
   ·rw [if_pos q,if_pos (by rw [e.1];exact q)]
    exact ⟨by rw [e.1],rv,a2⟩
   ·rw [if_neg q,if_neg (by rw [e.1];exact q)]
    exact ⟨by rw [e.1],r.1,a2⟩
theorem Ab {k:Key} {v:PV} {v':V} (rv:R K m H v v') {kvs:List (Key × PV)} {ys:List (Key × V)} (e:ys.map (·.1)=kvs.map (·.1)) (r:Rs K m H (kvs.map (·.2)) (ys.map (·.2))) :
  (gj ys k v').map (·.1)=(gb kvs k v).map (·.1)∧Rs K m H ((gb kvs k v).map (·.2)) ((gj ys k v').map (·.2)):=by
 unfold gj gb
 rw [←y_ (k:=k) e]
 by_cases q:(kvs.any fun kv=>decide (kv.1=k))=true
 ·rw [if_pos q,if_pos q]
  exact AB rv e r
 ·rw [if_neg q,if_neg q]
  simp only [List.map_append,List.map_cons,List.map_nil]
  exact ⟨by rw [e],r.app (.one rv)⟩
end
theorem RH.dkat {K:W.Frag} {m:List Addr} {H:Hp} {st:AH} {n:Nat} {kvs:List (Key × PV)} {v:V} (h:RH K m H st) (e:st[n]?=some (.dk kvs)) (r:R K m H (.ref n) v):∃a ys,v=.ref a∧m[n]?=some a∧H a=some (.dK ys)∧ys.map (·.1)=kvs.map (·.1)∧Rs K m H (kvs.map (·.2)) (ys.map (·.2)):=by
 rw [R_ref] at r
 obtain ⟨a,e1,rfl⟩:=r
 obtain ⟨ys,h1,h2⟩:=h.at_ n _ a e e1
 exact ⟨a,ys,rfl,e1,h1,h2⟩
theorem RH.setD {K:W.Frag} {m:List Addr} {H:Hp} {st:AH} {n:Nat} {a:Addr} {kvs:List (Key × PV)} {ys:List (Key × V)} (h:RH K m H st) (e:m[n]?=some a) (hz:∀w v,H a≠some (.frz w v)) (r1:ys.map (·.1)=kvs.map (·.1)) (r2:Rs K m H (kvs.map (·.2)) (ys.map (·.2))):RH K m (upd H a (.dK ys)) (st.set n (.dk kvs)):=by
 have x:Ext K m H m (upd H a (.dK ys)):=Ext.set (ys:=[]) h e hz
 refine ⟨by simp [h.len],h.nd,fun k c b h1 h2=>?_,x.tb h.tb⟩
 by_cases hk:k=n
 ·subst hk
  have hl:k<st.length:=by rw [←h.len];exact (List.getElem?_eq_some_iff.mp e).1
  rw [List.getElem?_set_self hl] at h1
  rw [e] at h2
  cases h1
  cases h2
  exact ⟨ys,ao,r1,r2.mono x⟩
 ·rw [List.getElem?_set_ne (Ne.symm hk)] at h1
  have ne:b≠a:=fun z=>hk ((List.getElem?_inj (List.getElem?_eq_some_iff.mp h2).1 h.nd).mp (by rw [h2,e,z]))
  exact (h.at_ k c b h1 h2).mono x (ac ne)
theorem RH.dkrd {K:W.Frag} {m:List Addr} {H:Hp} {st:AH} {n:Nat} {kvs:List (Key × PV)} {v:V} (h:RH K m H st) (e:st[n]?=some (.dk kvs)∨st[n]?=some (.fz kvs)) (r:R K m H (.ref n) v):∃a ys,v=.ref a∧m[n]?=some a∧Rd H a (.dK ys)∧ys.map (·.1)=kvs.map (·.1)∧Rs K m H (kvs.map (·.2)) (ys.map (·.2)):=by
 rw [R_ref] at r
 obtain ⟨a,e1,rfl⟩:=r
 rcases e with e|e
 ·obtain ⟨ys,h1,h2⟩:=h.at_ n _ a e e1
  exact ⟨a,ys,rfl,e1,.inl h1,h2⟩
 ·obtain ⟨o,ys,h1,h2⟩:=h.at_ n _ a e e1
  exact ⟨a,ys,rfl,e1,.inr ⟨o,h1⟩,h2⟩
theorem AO (hu:X.A.units+64<cLine) (op:CmpOp):OpR X (compareOp op) (Cc X.K (dZ op)):=by
 intro pins s σ H x' y' v u Q I rx ry h
 obtain ⟨m,st,x,y,rh,hx,hy,w⟩:=h
 unfold dZ at w
 cases op with
 | Eq =>
  simp only at w
  unfold eqW at w
  split at w
  ·rw [R_int] at hx hy;subst hx hy
   exact zU pins s σ H _ _ v u Q I rx ry ⟨rfl,by rw [F5];exact w.here rh (R_bl.mpr rfl)⟩
  ·rw [R_bl] at hx hy;subst hx hy
   exact zU pins s σ H _ _ v u Q I rx ry ⟨rfl,by rw [FI];exact w.here rh (R_bl.mpr rfl)⟩
  ·rw [R_str] at hx hy;subst hx hy
   exact zU pins s σ H _ _ v u Q I rx ry ⟨rfl,by rw [F8];exact w.here rh (R_bl.mpr rfl)⟩
  ·obtain ⟨d,e,h1,h2,h3,h4,w⟩:=w
   exact E5 hu pins s σ H _ _ v u Q I rx ry ⟨d,e,fN rh hx h1,fN rh hy h2,h3,h4,w.here rh (R_bl.mpr rfl)⟩
 | NotEq =>
  simp only at w
  unfold eqW at w
  split at w
  ·rw [R_int] at hx hy;subst hx hy
   exact AR pins s σ H _ _ v u Q I rx ry ⟨rfl,by rw [F5];exact w.here rh (R_bl.mpr rfl)⟩
  ·rw [R_bl] at hx hy;subst hx hy
   exact AR pins s σ H _ _ v u Q I rx ry ⟨rfl,by rw [FI];exact w.here rh (R_bl.mpr rfl)⟩
  ·rw [R_str] at hx hy;subst hx hy
   exact AR pins s σ H _ _ v u Q I rx ry ⟨rfl,by rw [F8];exact w.here rh (R_bl.mpr rfl)⟩
  ·obtain ⟨d,e,h1,h2,h3,h4,w⟩:=w
   exact Ds hu pins s σ H _ _ v u Q I rx ry ⟨d,e,fN rh hx h1,fN rh hy h2,h3,h4,w.here rh (R_bl.mpr rfl)⟩
 | Is =>
  simp only at w
  split at w
  ·rw [R_non] at hy;subst hy
   exact Ej pins s σ H _ _ v u Q I rx ry ⟨rfl,by rw [hx.nonB];exact w.here rh (R_bl.mpr rfl)⟩
  ·rw [R_bl] at hy;subst hy
   exact EW pins s σ H _ _ v u Q I rx ry ⟨_,rfl,by rw [hx.blB];exact w.here rh (R_bl.mpr rfl)⟩
  ·exact w.elim
 | IsNot =>
  simp only at w
  split at w
  ·rw [R_non] at hy;subst hy
   exact B5 pins s σ H _ _ v u Q I rx ry ⟨rfl,by rw [hx.nonB];exact w.here rh (R_bl.mpr rfl)⟩
  ·rw [R_bl] at hy;subst hy
   exact wK pins s σ H _ _ v u Q I rx ry ⟨_,rfl,by rw [hx.blB];exact w.here rh (R_bl.mpr rfl)⟩
  ·exact w.elim
 | Lt =>
  simp only at w
  split at w
  ·rw [R_int] at hx hy;subst hx hy
   exact Fk pins s σ H _ _ v u Q I rx ry ⟨_,_,rfl,rfl,w.here rh (R_bl.mpr rfl)⟩
  ·exact w.elim
 | LtE =>
  simp only at w
  split at w
  ·rw [R_int] at hx hy;subst hx hy
   exact Gd pins s σ H _ _ v u Q I rx ry ⟨_,_,rfl,rfl,w.here rh (R_bl.mpr rfl)⟩
  ·exact w.elim
 | Gt =>
  simp only at w
  split at w
  ·rw [R_int] at hx hy;subst hx hy
   exact F9 pins s σ H _ _ v u Q I rx ry ⟨_,_,rfl,rfl,w.here rh (R_bl.mpr rfl)⟩
  ·exact w.elim
 | GtE =>
  simp only at w
  split at w
  ·rw [R_int] at hx hy;subst hx hy
   exact Gb pins s σ H _ _ v u Q I rx ry ⟨_,_,rfl,rfl,w.here rh (R_bl.mpr rfl)⟩
  ·exact w.elim
 | In =>
  simp only at w
  split at w
  ·rw [R_str] at hx hy;subst hx hy
   exact xP pins s σ H _ _ v u Q I rx ry ⟨_,_,rfl,rfl,w.here rh (R_bl.mpr rfl)⟩
  ·rw [R_int] at hx;subst hx
   obtain ⟨ns,rfl,w⟩:=w
   obtain ⟨a,ys,rfl,g,r⟩:=R_tup.mp hy
   obtain rfl:=pL r
   refine ku pins s σ H _ _ v u Q I rx ry ⟨a,_,rfl,.inr g,rfl,jM,?_⟩
   rw [if_neg Bool.false_ne_true,pK]
   exact w.here rh (R_bl.mpr rfl)
  ·rw [R_str] at hx;subst hx
   obtain ⟨ns,rfl,w⟩:=w
   obtain ⟨a,ys,rfl,g,r⟩:=R_tup.mp hy
   obtain rfl:=jt r
   refine ku pins s σ H _ _ v u Q I rx ry ⟨a,_,rfl,.inr g,rfl,fG,?_⟩
   rw [if_neg Bool.false_ne_true,jj]
   exact w.here rh (R_bl.mpr rfl)
  ·rw [R_str] at hx;subst hx
   rcases w with ⟨ns,e,w⟩|⟨kvs,e,w⟩
   ·obtain ⟨a,ys,rfl,_,g,r⟩:=rh.lst e hy
    obtain rfl:=jt r
    refine ku pins s σ H _ _ v u Q I rx ry ⟨a,_,rfl,.inl (SqL.of g),rfl,fG,?_⟩
    rw [if_neg Bool.false_ne_true,jj]
    exact w.here rh (R_bl.mpr rfl)
   ·obtain ⟨a,ys,rfl,_,g,r1,r2⟩:=rh.dkrd e hy
    cases ry
    refine Gw (Nat.lt_of_le_of_lt (by omega) hu) I (.inl ⟨_,.inr _,g,rfl,rfl⟩) rx fun s' I'=>⟨.bl _,H,I',rfl,?_⟩
    rw [we r1 r2]
    exact w.here rh (R_bl.mpr rfl)
  ·exact w.elim
 | NotIn =>
  simp only at w
  split at w
  ·rw [R_int] at hx;subst hx
   obtain ⟨ns,rfl,w⟩:=w
   obtain ⟨a,ys,rfl,g,r⟩:=R_tup.mp hy
   obtain rfl:=pL r
   refine fQ pins s σ H _ _ v u Q I rx ry ⟨a,_,rfl,.inr g,rfl,jM,?_⟩
   rw [if_pos rfl,pK]
   exact w.here rh (R_bl.mpr rfl)
  ·rw [R_str] at hx;subst hx
   obtain ⟨ns,rfl,w⟩:=w
   obtain ⟨a,ys,rfl,g,r⟩:=R_tup.mp hy
   obtain rfl:=jt r
   refine fQ pins s σ H _ _ v u Q I rx ry ⟨a,_,rfl,.inr g,rfl,fG,?_⟩
   rw [if_pos rfl,jj]
   exact w.here rh (R_bl.mpr rfl)
  ·rw [R_str] at hx;subst hx
   rcases w with ⟨ns,e,w⟩|⟨kvs,e,w⟩
   ·obtain ⟨a,ys,rfl,_,g,r⟩:=rh.lst e hy
    obtain rfl:=jt r
    refine fQ pins s σ H _ _ v u Q I rx ry ⟨a,_,rfl,.inl (SqL.of g),rfl,fG,?_⟩
    rw [if_pos rfl,jj]
    exact w.here rh (R_bl.mpr rfl)
   ·obtain ⟨a,ys,rfl,_,g,r1,r2⟩:=rh.dkrd e hy
    cases ry
    refine BH (Nat.lt_of_le_of_lt (by omega) hu) I (.inl ⟨_,.inr _,g,rfl,rfl⟩) rx fun s' I'=>⟨.bl _,H,I',rfl,?_⟩
    rw [we r1 r2]
    exact w.here rh (R_bl.mpr rfl)
  ·exact w.elim
theorem FY {prog:Program} {w:World} {A:Around} {E:Value→Shared→Prop} {s:Shared} {value slice:Expr} {o i:Value} {T id:String} {Q:Value→Shared→Prop}
  (hl:typeLookup (.type T) "__getitem__"=pure (some (.builtin id))) (hs:subscripted slice false o i=operate [o,i] (getItem o i)) (hT:s.TypeIs o T) (h:wpAny (model prog w) A (getItem o i) Q E s) :
  wpAny (model prog w) A (subscriptTail value slice o i) Q E s:=by
 unfold subscriptTail
 refine wpAny_bind ?_
 rw [getitemInPython_of_ne hT.not_modules]
 refine wpAny_bind (wpAny_specialOf hT hl ?_)
 have fin:wpAny (model prog w) A (subscripted slice false o i) (fun r s₃=>wpAny (model prog w) A (letTemporaryGo value o r >>= fun _=>pure r) Q E s₃) E s:=by
  rw [hs]
  exact wpAny_operating (wpAny_mono h (fun r s₃ h₃=>wpAny_bind (wpAny_letTemporaryGo (wpAny_pure h₃))) fun _ _ x=>x)
 first
  | exact wpAny_pure (wpAny_bind fin)
  | exact wpAny_bind (wpAny_pure (wpAny_bind fin))
  | exact wpAny_bind fin
theorem Db (hu:X.A.units+64<cLine):IxR X (Cc X.K ixW):=by
 intro value slice pins s σ H x' y' v u Q I rx ry h hs
 obtain ⟨m,st,x,y,rh,hx,hy,w⟩:=h
 cases y with
 | int i =>
  rw [R_int] at hy;subst hy
  rcases wB w with ⟨z,c,rfl,h1,h2,w⟩|⟨xs,z,h1,h2,w⟩
  ·rw [R_str] at hx;subst hx
   exact DE value slice pins s σ H _ _ v u Q I rx ry ⟨_,_,c,rfl,rfl,fY h1,h2,w.here rh (R_str.mpr rfl)⟩ hs
  obtain ⟨a,ys,rfl,g,r⟩:=gm rh hx h1
  obtain ⟨y,e,ry'⟩:=r.atI h2
  rcases g with g|g
  ·exact CK value slice pins s σ H _ _ v u Q I rx ry ⟨a,ys,_,y,rfl,rfl,g,e,w.here rh ry'⟩ hs
  ·exact Dt value slice pins s σ H _ _ v u Q I rx ry ⟨a,ys,_,y,rfl,rfl,g,e,w.here rh ry'⟩ hs
 | str z =>
  rw [R_str] at hy;subst hy
  obtain ⟨n,kvs,p,rfl,e,h2,w⟩:=vV w
  obtain ⟨a,ys,rfl,_,g,r1,r2⟩:=rh.dkrd e hx
  obtain ⟨p',e',rp⟩:=(qA r1 r2).1 _ h2
  have dg:CJ H a (.str z) (some p'):=by rw [←e'];exact .inl ⟨_,.inr z,g,rfl,rfl⟩
  cases rx
  obtain ⟨z1,hd,vs,rel,dd⟩:=na I.hok g
  exact FY PySem.F.slot_dict_getitem.lookup hs dd.typeIs (wV (Nat.lt_of_le_of_lt (by omega) hu) I dg ry fun w' s3 I3 rw'=>⟨p',H,I3,rw',w.here rh rp⟩)
 | _=>exact w.elim
theorem h_ {prog:Program} {w:World} {A:Around} {E:Value→Shared→Prop} {s:Shared} {t sl:Addr} {items:Array Value} {vl vu:Value} {lo hi:Option Int} {Q:Value→Shared→Prop} (ht:IsTup s.heap t items) (hs:s.heap.IsSliceOf sl vl vu .none) (pl:IsPart vl lo) (pu:IsPart vu hi)
  (hw:HT.sIx items.size 0 lo=0∧HT.sIx items.size items.size hi=items.size) (h:Q (.ref t) s):wpAny (model prog w) A (getItem (.ref t) (.ref sl)) Q E s:=by
 obtain ⟨os,hos,hcs,hds⟩:=id hs
 have hTs:s.TypeIs (.ref sl) "slice":=⟨os,hos,hcs⟩
 unfold getItem
 try with_reducible refine wpAny_holding ?_
 first|refine wpAny_bind (wpAny_pure ?_)|skip
 refine wpAny_bind (wpAny_sequenceKey ht.typeIs (by decide) ?_)
 refine wpAny_bind (wpAny_callSpecial?_slot (name:=Str.ofString "__getitem__") ht.typeIs PyProof.Rows.slot_tuple_getitem
  (wpAny_call_entry PyProof.Rows.slot_tuple_getitem ht.typeIs entry_tuple_getitem ?_ (args_tuple_getitem _ _)))
 show wpAny _ _ (Builtin.Tuple.tupleItemsOf (.ref t) >>= _) _ _ s
 refine wpAny_bind (tupleItemsOf_ ht ?_)
 refine wpAny_bind (wpAny_typeOf hTs ?_)
 rw [if_pos (by decide)]
 refine wpAny_bind (HT.sliceApplied_gen hs pl pu ?_)
 have hyes:((((HT.sIx items.size 0 lo:Nat):Int) == 0 && (1:Int) == 1 && (HT.sIx items.size items.size hi-HT.sIx items.size 0 lo) == items.size)=true):=by
  rw [hw.1,hw.2]
  simp
 show wpAny _ _ (if (((HT.sIx items.size 0 lo:Nat):Int) == 0 && (1:Int) == 1 && (HT.sIx items.size items.size hi-HT.sIx items.size 0 lo) == items.size)=true then _ else _) _ _ s
 rw [if_pos hyes]
 unfold Builtin.Tuple.tupleIsExact
 refine wpAny_bind (wpAny_bind (wpAny_typeOf ht.typeIs (wpAny_pure ?_)))
 rw [if_pos (by simp)]
 exact wpAny_bind (wpAny_rule (wpAny_pure ⟨_,rfl,wpAny_pure h⟩))
noncomputable def Gi (K:W.Frag):V→Option Int→Option Int→Hp→VK→Prop:=fun x' lo hi H Q=>∃m st x,RH K m H st∧R K m H x x'∧slW x lo hi st (post K m H Q)
theorem vm {ys:List V} {lo hi:Option Int} (h:HT.sIx ys.length 0 lo=0∧HT.sIx ys.length ys.length hi=ys.length):nU ys lo hi=ys:=by
 unfold nU
 rw [h.1,h.2,List.drop_zero,Nat.sub_zero,List.take_length]
theorem wf {v:Value} {p:Option Int} (h:IsPart v p):∃q:Option (Int × Tok),v=partValue q∧q.map (·.1)=p:=by
 cases h with
 | none=>exact ⟨none,rfl,rfl⟩
 | int i t=>exact ⟨some (i,t),rfl,rfl⟩
theorem BR {z:Str} {t:Tok} {l u:Option (Int × Tok)} {lo hi:Option Int} {Q:Value→Shared→Prop} {s:Shared} (e:(l.map (·.1),u.map (·.1))=(lo,hi)) (h1:z.length≤100000) (h:∀tk t',Q (.str (jQ z lo hi) t') { s with toks:=tk }):(sliceMade z t l u none).post Q s:=by
 cases e
 unfold sliceMade
 have h:∀tk t',Q (.str (if ((slicePicked z l u none).length == z.length)=true then z else ⟨((slicePicked z l u none).filterMap (z.cps[·]?)).toArray⟩) t') { s with toks:=tk }:=h
 cases q:((slicePicked z l u none).length == z.length) with
 | true =>
  rw [q] at h
  exact h s.toks t
 | false =>
  rw [q] at h
  refine ⟨?_,h _ _⟩
  show ((slicePicked z l u none).filterMap (z.cps[·]?)).toArray.size≤sizeLine
  rw [List.size_toArray]
  refine Nat.le_trans (List.length_filterMap_le _ _) (Nat.le_trans ?_ (fY h1))
  refine sliceRange_length_le _ _ _ _ (fun _=>?_) fun z=>absurd (show (1:Int) > 0 by decide) z
  cases l <;> cases u <;> constructor <;> simp only [Option.map,Option.getD,show (1:Int) > 0 by decide,if_true] <;> first|omega|(split <;> omega)
theorem FP:SlR X (Gi X.K):=by
 intro pins s σ H x' v vl vu lo hi sl Q I rx hs pl pu h
 obtain ⟨m,st,x,rh,hx,w⟩:=h
 unfold slW at w
 split at w
 ·rename_i z
  rw [R_str] at hx
  subst hx
  obtain ⟨t,rfl⟩:=rx
  obtain ⟨h1,w⟩:=w
  obtain ⟨l,el,pl'⟩:=wf pl
  obtain ⟨u,eu,pu'⟩:=wf pu
  subst el eu
  refine ⟨"str",_,PyProof.Rows.slot_str_getitem.lookup,typeIs_str _ _ _,?_⟩
  refine wpAny_getItem_str_slice (l:=l) (u:=u) (st:=none) hs rfl (BR ?_ h1 fun tk t'=>⟨.str (jQ z lo hi),H,I.tok tk,⟨t',rfl⟩,w.here rh (R_str.mpr rfl)⟩)
  rw [pl',pu']
 ·rw [R_tup] at hx
  obtain ⟨a,ys,rfl,g,r⟩:=hx
  by_cases hw:HT.sIx ys.length 0 lo=0∧HT.sIx ys.length ys.length hi=ys.length
  ·cases rx
   obtain ⟨its,r',ht,hz⟩:=I.tuple g
   have hlen:its.toArray.size=ys.length:=by rw [List.size_toArray];exact r'.length.symm
   refine ⟨"tuple",_,PyProof.Rows.slot_tuple_getitem.lookup,ht.typeIs,h_ ht hs pl pu (by rw [hlen];exact hw) ?_⟩
   refine ⟨.ref a,H,I,rfl,w.here rh (R_tup.mpr ⟨a,ys,rfl,g,?_⟩)⟩
   have:=r.cut lo hi
   rw [vm hw] at this
   exact this
  ·exact EC pins s σ H _ v vl vu lo hi sl Q I rx hs pl pu ⟨a,ys,rfl,g,hw,fun p hp=>w.newT rh (r.cut lo hi) hp⟩
 ·obtain ⟨xs,h1,w⟩:=w
  obtain ⟨a,ys,rfl,g,r⟩:=eF rh hx h1
  exact BL pins s σ H _ v vl vu lo hi sl Q I rx hs pl pu ⟨a,ys,rfl,g,fun p hp=>w.newL rh (r.cut lo hi) hp⟩
theorem Rs.one' {K:W.Frag} {m:List Addr} {H:Hp} {x:PV} {ys:List V} (h:Rs K m H [x] ys):∃y,ys=[y]∧R K m H x y:=by
 rw [Rs_cons] at h
 obtain ⟨y,r,rfl,h1,h2⟩:=h
 rw [Rs_nil] at h2
 subst h2
 exact ⟨y,rfl,h1⟩
theorem Rs.two' {K:W.Frag} {m:List Addr} {H:Hp} {x z:PV} {ys:List V} (h:Rs K m H [x,z] ys):∃y u,ys=[y,u]∧R K m H x y∧R K m H z u:=by
 rw [Rs_cons] at h
 obtain ⟨y,r,rfl,h1,h2⟩:=h
 obtain ⟨u,rfl,h3⟩:=h2.one'
 exact ⟨y,u,rfl,h1,h3⟩
theorem oV {K:W.Frag} {m:List Addr} {H:Hp}:∀ {xs:List PV} {bs:List Bool} {ys:List V} {us:List Value},lu xs=some bs→Rs K m H xs ys→Vals ys us→LSm.BoolsAre us bs
 | [],bs,ys,us,e,h,r=>by
  rw [Rs_nil] at h;subst h
  cases r
  cases e
  exact .nil
 | x::xs,bs,ys,us,e,h,r=>by
  rw [Rs_cons] at h
  obtain ⟨y,q,rfl,h1,h2⟩:=h
  cases x with
  | bl b =>
   cases r with
   | cons r1 r2 =>
    rw [R_bl] at h1
    subst h1
    cases r1
    unfold lu at e
    cases z:lu xs with
    | none=>rw [z] at e;cases e
    | some bs' =>
     rw [z] at e
     cases e
     exact .cons b (oV z h2 r2)
  | _=>cases e
theorem xu {l:Addr} {vs:List Value} {bs:List Bool} {P:Program} {w:World} {A:Around} {E:Value→Shared→Prop} {s:Shared} {Q:Value→Shared→Prop} (hh:A.handled=none) (hl:s.heap.IsList l vs.toArray) (hb:LSm.BoolsAre vs bs)
  (h:∀h' tk,(∀b x,s.heap.get? b=some x→h'.get? b=some x)→Q (.bool (bs.all id)) { s with heap:=h',toks:=tk }):wpAny (model P w) A (call (.builtin "all") [.ref l]) Q E s:=by
 have hlt:l<s.heap.objs.size:=by obtain ⟨_,e,_⟩:=hl;exact Heap.lt_size e
 refine call_all_walk (wpAny_pyIter_list hl ?_)
 refine ⟨s.heap.objs.size,[s.heap.objs.size,l],[s.heap.objs.size],vs.toArray.size,_,_,fun i=>(bs[i]?).getD true,rfl,Walks.list (A:=A.in1) hh _ l (Nat.ne_of_lt hlt) vs.toArray,
  ⟨⟨_,Heap.get?_push_size _ rfl,rfl,rfl⟩,hl.push _⟩,fun i v s' Q' E' hP hQ=>?_,fun h' tk hk=>?_⟩
 ·obtain ⟨b,e,rfl⟩:=hb.get i v (by simpa using hP)
  simp only [e,Option.getD_some] at hQ
  exact wpAny_truthy_bool hQ
 ·have e:((List.range vs.toArray.size).all fun i=>(bs[i]?).getD true)=bs.all id:=by
   rw [List.size_toArray,hb.length];exact LSm.range_all bs
  rw [e]
  exact h h' tk (LSm.kept_iter hk)
noncomputable def Gq:B→Value
 | .len=>.builtin "len"
 | .max2=>.builtin "max"
 | .min2=>.builtin "min"
 | .divmod=>.builtin "divmod"
 | .int1=>.type "int"
 | .str1=>.type "str"
 | .tuple1=>.type "tuple"
 | .list1=>.type "list"
 | .all1=>.builtin "all"
 | .any1=>.builtin "any"
 | .abs1=>.builtin "abs"
 | .sorted1=>.builtin "sorted"
 | .repr1=>.builtin "repr"
 | .sortS=>.builtin "sorted"
 | .max1=>.builtin "max"
 | .sortD=>.builtin "sorted"
theorem tq {K:W.Frag} {m:List Addr} {H:Hp}:∀ {ns:List Str} {ys:List V} {us:List Value},Rs K m H (ns.map PV.str) ys→Vals ys us→StrsAre us ns
 | [],ys,us,h,r=>by
  rw [List.map_nil,Rs_nil] at h;subst h
  cases r;exact .nil
 | n::ns,ys,us,h,r=>by
  rw [List.map_cons] at h
  obtain ⟨y,ys',rfl,h1,h2⟩:=Rs_cons.mp h
  rw [R_str] at h1;subst h1
  cases r with
  | cons r1 r2 =>
   obtain ⟨t,rfl⟩:=r1
   exact .cons n t (tq h2 r2)
theorem gT:∀ {us:List Value} {ns:List Str},StrsAre us ns→Vals (ns.map V.str) us
 | _,_,.nil=>.nil
 | _,_,.cons n t r=>.cons ⟨t,rfl⟩ (gT r)
theorem ud {K:W.Frag} {m:List Addr} {H:Hp}:∀ {ns:List Str},Rs K m H (ns.map PV.str) (ns.map V.str)
 | []=>by rw [List.map_nil,List.map_nil,Rs_nil]
 | n::ns=>by rw [List.map_cons,List.map_cons,Rs_cons',R_str];exact ⟨rfl,ud⟩
theorem qf {pins:List (Addr × Obj)} {s:Shared} {σ:L2.St} {H:Hp} {p:Addr} {its:List Value} {ns:List Str} {Q:VK} (I:L2.Inv X pins σ H s) (hl:s.heap.IsList p its.toArray) (hi:StrsAre its ns) (hn:ns.length<64)
  (q:∀ns':List Str,ns'.Perm ns→sortedS ns'=true→∀l,H l=none→Q (.ref l) (upd H l (.lst (ns'.map V.str)))):wpAny (model X.prog X.w) X.A (call (.builtin "sorted") [.ref p]) (EP X pins σ Q) X.xe s:=by
 have hlen:its.length=ns.length:=by
  have:=(gT hi).length
  simpa using this.symm
 refine sorted_strs hl hi (by omega) fun out ns' h1 h2 h3=>?_
 obtain ⟨e,he⟩:=sortedAll_at s.heap its out
 refine ⟨.ref (s.heap.objs.size+1),_,I.laid (t':=s.toks) (fun b o=>sortedAll_old) (Nat.le_succ _) (show ObjOk X.prog X.w _ _ _ (.lst (ns'.map V.str)) from ⟨?_,out.toList,e,gT h1,he⟩),rfl,q ns' h2 h3 _ (I.hok.fresh (Nat.le_succ _))⟩
 rw [List.length_map,h2.length_eq]
 exact Nat.le_of_lt (fZ (by omega))
theorem pY {prog:Program} {w:World} {A:Around} {E:Value→Shared→Prop} {s:Shared} {T:String} {r d:Addr} {n:Nat} {P:Nat→Value→Prop} {OK:Heap→Prop} {R:List Value→Shared→Prop} (K:W.KdlSrc prog w T r d n P OK) (hh:A.handled=none) (hok:OK s.heap) (hn:n≤sizeLine)
  (h:∀(h':Heap) (tk:Nat) (acc:Array Value),(∀b o,s.heap.get? b=some o→h'.get? b=some o)→s.heap.objs.size≤h'.objs.size→ItemsOf P acc n→R acc.toList { s with heap:=h',toks:=tk }):wpAny (model prog w) A (collect (.ref r)) R E s:=by
 obtain ⟨l1,l2⟩:=K.there _ hok
 unfold collect
 refine wpAny_bind (wpAny_runValue (codeAny_builtin entry_proto_collect' ?_))
 rw [Around.under_plainId PySem.F.plain_proto_collect _]
 show wpAny _ A.in1 (newList [] >>= fun l=>again (.builtin "list.__iadd__" ⟨[l,.ref r],[]⟩)) _ _ s
 refine wpAny_bind (wpAny_newObj_type (wpAny_pure ⟨plainId_quiet PySem.F.plain_list_iadd _,codeAny_builtin entry_list_iadd' ?_⟩))
 rw [Around.under_plainId PySem.F.plain_list_iadd _]
 have new:(s.heap.push { cls:=.type "list",data:=.seq ([]:List Value).toArray }).get? s.heap.objs.size=some { cls:=.type "list",data:=.seq #[] }:=Heap.get?_push_size _ rfl
 show wpAny _ A.in1 (Builtin.List.listExtendWith (.ref s.heap.objs.size) (.ref r) (.ref s.heap.objs.size)) _ _ _
 have main:=W.kdl_extend (A:=A) (s:={ s with heap:=s.heap.push { cls:=.type "list",data:=.seq ([]:List Value).toArray } })
  (R:=fun (q:Result) (s':Shared)=>∃(h':Heap) (tk:Nat) (zs:Array Value) (c:Nat),q=.ok (.ret (.ref s.heap.objs.size))∧s'={ s with heap:=h',toks:=tk }∧(∀b o,s.heap.get? b=some o→h'.get? b=some o)∧h'.get? s.heap.objs.size=some { cls:=.type "list",dict:=none,data:=.seq zs c,slots:=#[] }∧ItemsOf P zs n)
  K hh (K.keep _ _ hok fun b _ o e=>Heap.get?_push_of_some _ e) s.heap.objs.size (Nat.ne_of_gt l1) (Nat.ne_of_gt l2) (.ref s.heap.objs.size) 0 new
  (fun h' tk zs c hk hS hz=>⟨h',tk,zs,c,rfl,rfl,fun b o e=>hk b o (Nat.ne_of_lt (Heap.lt_size e)) (Heap.get?_push_of_some _ e),hS,hz⟩) hn
 refine wpAny_mono main (fun fin s' x=>?_) fun e s' x=>?_
 ·cases fin with
  | done f =>
   obtain ⟨h',tk,zs,c,e,rfl,hk,hS,hz⟩:=x
   cases e
   show wpAny _ A (load s.heap.objs.size >>= _) _ _ _
   exact wpAny_bind (wpAny_load hS (wpAny_pure (h h' tk zs hk (Nat.le_of_lt (Heap.lt_size hS)) hz)))
  | again c₁ =>
   refine ⟨x.1,codeAny_mono x.2 fun q s₂ y=>?_⟩
   obtain ⟨h',tk,zs,c,rfl,rfl,hk,hS,hz⟩:=y
   show wpAny _ A (load s.heap.objs.size >>= _) _ _ _
   exact wpAny_bind (wpAny_load hS (wpAny_pure (h h' tk zs hk (Nat.le_of_lt (Heap.lt_size hS)) hz)))
 ·obtain ⟨_,_,_,_,e',_⟩:=x
  cases e'
theorem mU {P:Program} {w:World}:∀ {ss:List Str} {vs:List Value},vs.length=ss.length→(∀(j:Nat) v,vs[j]?=some v→∃x,ss[j]?=some x∧∃t,v=.str x t)→StrsAre vs ss
 | [],vs,hl,h=>by
  cases vs with
  | nil=>exact .nil
  | cons _ _=>simp at hl
 | s::ss,vs,hl,h=>by
  cases vs with
  | nil=>simp at hl
  | cons v vs =>
   obtain ⟨x,e,t,rfl⟩:=h 0 v rfl
   simp at e
   subst e
   exact .cons _ t (mU (P:=P) (w:=w) (by simpa using hl) fun j u hu=>by simpa using h (j+1) u (by simpa using hu))
theorem qG {pins:List (Addr × Obj)} {s:Shared} {σ:L2.St} {H:Hp} {a:Addr} {ys:List (Key × V)} {ss:List Str} {Q:VK} (hcalm:X.calm=true) (I:L2.Inv X pins σ H s) (g:Rd H a (.dK ys)) (hk:ys.map (·.1)=ss.map Sum.inr) (hn:ss.length<64)
  (q:∀ss':List Str,ss'.Perm ss→sortedS ss'=true→∀l,H l=none→Q (.ref l) (upd H l (.lst (ss'.map V.str)))):wpAny (model X.prog X.w) X.A (call (.builtin "sorted") [.ref a]) (EP X pins σ Q) X.xe s:=by
 obtain ⟨z,lo,vs,rel,dd⟩:=na I.hok g
 obtain ⟨ep,hat⟩:=dd.dictAt
 have hv:vs.length=ss.length:=by rw [←rel.length];simpa using congrArg List.length hk
 have kk:vs.map (·.1)=ss.map Sum.inr:=by rw [←rel.keys];exact hk
 refine Calls.call_function_entry kind_sorted plain_sorted entry_sorted (args_sorted1 _) ?_
 unfold Builtin.«sorted»
 refine wpAny_bind (m:=checkCount "sorted" 1 1 _) (wpAny_pure ?_)
 refine wpAny_bind (pY (A:=X.A.in1) (W.kdl_dict (knd:=aD X.prog X.w) (kvs:=vs) (ep:=ep) lo) (I.ok.hd hcalm) hat (Nat.le_of_lt (fZ (by omega))) fun h1 tk acc k1 z1 hacc=>?_)
 have hl:acc.toList.length=ss.length:=by rw [Array.length_toList,hacc.1,hv]
 have hS:StrsAre acc.toList ss:=mU (P:=X.prog) (w:=X.w) hl fun j v e=>by
  obtain ⟨k,x,hx,hkk⟩:=hacc.2 j v (by rw [←Array.getElem?_toList];exact e)
  have e2:(vs.map (·.1))[j]?=some k:=by rw [List.getElem?_map,hx];rfl
  rw [kk,List.getElem?_map] at e2
  obtain ⟨x',h3,rfl⟩:=Option.map_eq_some_iff.mp e2
  obtain ⟨t,rfl⟩:=Value.isStrOf_shape (show Value.isStrOf x' v=true from hkk)
  exact ⟨x',h3,t,rfl⟩
 refine wpAny_bind (wpAny_newList ?_ (by rw [hl];exact Nat.le_of_lt (fZ (by omega))))
 have hoL:(h1.push (seqObj "list" acc.toList.toArray 0)).get? h1.objs.size=some (seqObj "list" acc.toList.toArray 0):=Heap.get?_push_size _ rfl
 refine wpAny_bind (wpAny_holding (wpAny_call_entry slot_list_sort ⟨_,hoL,rfl⟩ entry_list_sort (list_sort_treeK strKind_oneLt hoL hS.keysOf (fun v₁ v₂ rest e=>keyKind_strs (by rw [←e];exact hS)) (by rw [hl];exact hn) fun st' hp hs=>⟨_,rfl,?_⟩) (args_list_sort _)))
 obtain ⟨ss',a1,a2,a3⟩:=sorted_out_str hS hp hs
 refine wpAny_pure ⟨_,rfl,?_⟩
 obtain ⟨e,he⟩:=sortedHeap_at (out:=(arrOf st').map (·.2)) hoL
 refine ⟨.ref h1.objs.size,_,I.laid (t':=tk) (fun b o eb=>?_) z1 (show ObjOk X.prog X.w _ _ _ (.lst (ss'.map V.str)) from ⟨?_,_,e,gT a1,he⟩),rfl,q ss' a2 a3 _ (I.hok.fresh z1)⟩
 ·have lb:b<h1.objs.size:=Nat.lt_of_lt_of_le (Heap.lt_size eb) z1
  rw [sortedHeap_old (Nat.ne_of_lt lb) (by rw [size_push'];exact Nat.lt_succ_of_lt lb)]
  exact Heap.get?_push_of_some _ (k1 b o eb)
 ·rw [List.length_map,a2.length_eq]
  exact Nat.le_of_lt (fZ (by omega))
theorem qN:eA X (.type "int") (fun xs H Q=>∃z n,xs=[.str z]∧z.length≤640∧PySem.intText? z=some n∧Q (.int n) H):=by
 intro pins s σ H xs us Q I r h
 obtain ⟨z,n,rfl,h1,h2,q⟩:=h
 obtain ⟨u,rfl,t,rfl⟩:=gK r
 exact W.KIN.call_text h2 h1 ⟨.int n,H,I.tok _,⟨_,rfl⟩,q⟩
theorem Dj (hc:X.calm=true) (hgd:X.A.guards=some []) (hun:X.A.units+64<cLine) (b:B):eA X (Gq b) (Fz X.K (d0 b)):=by
 intro pins s σ H xs' us Q I r h
 obtain ⟨m,st,xs,rh,hx,w⟩:=h
 cases b with
 | len =>
  obtain ⟨x0,rfl,w⟩:=aP w
  obtain ⟨y,rfl,hy⟩:=hx.one'
  rcases rH w with ⟨z,rfl,h1,w⟩|⟨ys,h1,w⟩
  ·rw [R_str] at hy;subst hy
   exact q_ pins s σ H _ us Q I r ⟨_,rfl,fY h1,w.here rh (R_int.mpr rfl)⟩
  obtain ⟨a,zs,rfl,g,rz⟩:=gm rh hy h1
  refine qz pins s σ H _ us Q I r ⟨a,zs,rfl,g,?_⟩
  have:=w.here rh (x:=V.int ys.length) (R_int.mpr rfl)
  rw [rz.len] at this
  exact this
 | max2 =>
  obtain ⟨x0,y0,rfl,w⟩:=fE w
  obtain ⟨i,j,rfl,rfl,w⟩:=bR w
  obtain ⟨y,u,rfl,hy,hu⟩:=hx.two'
  rw [R_int] at hy hu;subst hy hu
  exact xJ hc pins s σ H _ us Q I r ⟨_,_,rfl,w.here rh (R_int.mpr rfl)⟩
 | min2 =>
  obtain ⟨x0,y0,rfl,w⟩:=fE w
  obtain ⟨i,j,rfl,rfl,w⟩:=bR w
  obtain ⟨y,u,rfl,hy,hu⟩:=hx.two'
  rw [R_int] at hy hu;subst hy hu
  exact wW hc pins s σ H _ us Q I r ⟨_,_,rfl,w.here rh (R_int.mpr rfl)⟩
 | divmod =>
  obtain ⟨x0,y0,rfl,w⟩:=fE w
  obtain ⟨i,j,rfl,rfl,w⟩:=bR w
  obtain ⟨y,u,rfl,hy,hu⟩:=hx.two'
  rw [R_int] at hy hu;subst hy hu
  refine p6 pins s σ H _ us Q I r ⟨_,_,rfl,w.1,fun p hp=>w.2.newT rh ?_ hp⟩
  rw [Rs_cons',Rs_cons',Rs_nil,R_int,R_int]
  exact ⟨rfl,rfl,rfl⟩
 | int1 =>
  obtain ⟨x0,rfl,w⟩:=aP w
  obtain ⟨y,rfl,hy⟩:=hx.one'
  rcases oK w with ⟨b0,rfl,w⟩|⟨z,n,rfl,h1,h2,w⟩
  case inr =>
   rw [R_str] at hy;subst hy
   exact qN pins s σ H _ us Q I r ⟨_,_,rfl,h1,h2,w.here rh (R_int.mpr rfl)⟩
  rw [R_bl] at hy;subst hy
  exact xh pins s σ H _ us Q I r (.inr ⟨_,rfl,w.here rh (R_int.mpr rfl)⟩)
 | str1=>exact False.elim w
 | tuple1 =>
  obtain ⟨x0,rfl,w⟩:=aP w
  obtain ⟨ys,h1,w⟩:=w
  obtain ⟨y,rfl,hy⟩:=hx.one'
  obtain ⟨a,zs,rfl,g,rz⟩:=gm rh hy h1
  refine oz pins s σ H _ us Q I r ⟨a,zs,rfl,?_⟩
  rcases g with g|g
  ·exact .inl ⟨g,fun p hp=>w.newT rh rz hp⟩
  ·exact .inr ⟨g,w.here rh (R_tup.mpr ⟨a,zs,rfl,g,rz⟩)⟩
 | list1 =>
  obtain ⟨x0,rfl,w⟩:=aP w
  obtain ⟨ys,h1,w⟩:=w
  obtain ⟨y,rfl,hy⟩:=hx.one'
  obtain ⟨a,zs,rfl,g,rz⟩:=gm rh hy h1
  exact p8 pins s σ H _ us Q I r ⟨a,zs,rfl,g,fun p hp=>w.newL rh rz hp⟩
 | all1 =>
  obtain ⟨x0,rfl,w⟩:=aP w
  obtain ⟨ys,bs,h1,h2,w⟩:=w
  obtain ⟨y,rfl,hy⟩:=hx.one'
  obtain ⟨a,zs,rfl,g,rz⟩:=eF rh hy h1
  obtain ⟨u,rfl,ru⟩:=gK r
  cases ru
  obtain ⟨its,ri,pl,_⟩:=I.list g
  exact xu (I.ok.hd hc) pl.isList (oV h2 rz ri) fun h' tk k=>⟨.bl _,H,I.kept k,rfl,w.here rh (R_bl.mpr rfl)⟩
 | any1=>exact False.elim w
 | abs1=>exact False.elim w
 | sorted1=>exact False.elim w
 | sortS =>
  obtain ⟨x0,rfl,w⟩:=aP w
  obtain ⟨ss,h1,h2,w⟩:=w
  obtain ⟨y,rfl,hy⟩:=hx.one'
  obtain ⟨a,zs,rfl,g,rz⟩:=eF rh hy h1
  obtain ⟨u,rfl,ru⟩:=gK r
  cases ru
  obtain ⟨its,ri,pl,_⟩:=I.list g
  exact qf I pl.isList (tq rz ri) h2 fun ss' p1 p2 l hl=>(w ss' p1 p2).newL rh ud hl
 | sortD =>
  obtain ⟨x0,rfl,n,rfl,kvs,h1,ss,h2,h3,w⟩:=aP w
  obtain ⟨y,rfl,hy⟩:=hx.one'
  obtain ⟨a,ys,rfl,_,g,r1,r2⟩:=rh.dkrd h1 hy
  obtain ⟨u,rfl,ru⟩:=gK r
  cases ru
  exact qG hc I g (r1.trans h2) h3 fun ss' p1 p2 l hl=>(w ss' p1 p2).newL rh ud hl
 | max1=>exact False.elim w
 | repr1=>exact False.elim w
theorem xF {st:AH} {x:PV} {n:String} (h:cj st x=some n):n∈["NoneType","bool","int","str","list","tuple","dict"]:=by
 cases x with
 | ref k =>
  unfold cj at h
  simp only at h
  split at h <;> cases h <;> decide
 | _=>cases h <;> decide
theorem B8 {pins:List (Addr × Obj)} {s:Shared} {σ:L2.St} {H:Hp} {A:Around} {E:Value→Shared→Prop} {K:W.Frag} {m:List Addr} {st:AH} {x:PV} {x':V} {u:Value} {n c:String} {Q:Value→Shared→Prop} (I:Inv X pins σ H s) (rh:RH X.K m H st) (hx:R X.K m H x x')
  (ru:RelV x' u) (hk:cj st x=some n) (hc:c∈["int","bool","str","tuple","list","dict"]) (h:∀tk,Q (.bool (fk c n)) { s with toks:=tk }) :
  wpAny (model X.prog X.w) A (call (.builtin "isinstance") [u,.type c]) Q E s:=by
 have e:=zg X.K c hc n (xF hk)
 cases x with
 | non=>cases hk;rw [R_non] at hx;subst hx;exact eJ I ru .non e h
 | bl b=>cases hk;rw [R_bl] at hx;subst hx;exact eJ I ru (.bl b) e h
 | fn b=>cases hk
 | int b=>cases hk;rw [R_int] at hx;subst hx;exact eJ I ru (.int b) e h
 | str b=>cases hk;rw [R_str] at hx;subst hx;exact eJ I ru (.str b) e h
 | tup xs =>
  cases hk
  rw [R_tup] at hx
  obtain ⟨a,ys,rfl,g,r⟩:=hx
  cases ru
  obtain ⟨its,_,⟨o,ho,hcl,_⟩,_⟩:=I.tuple g
  exact W.kia_one W.kitx_tuple I.kIn ⟨o,ho,hcl⟩ e (fun z=>nomatch z) h
 | rdl xs =>
  cases hk
  rw [ff] at hx
  obtain ⟨a,ys,rfl,g,r⟩:=hx
  cases ru
  obtain ⟨its,_,pl,_⟩:=I.list g.sq
  obtain ⟨o,ho,hcl,_⟩:=pl.isList
  exact W.kia_one W.kitx_list I.kIn ⟨o,ho,hcl⟩ e (fun z=>nomatch z) h
 | ref k =>
  unfold cj at hk
  simp only at hk
  split at hk
  ·cases hk
   rename_i q
   obtain ⟨a,ys,rfl,_,h1,h2⟩:=rh.lst q hx
   exact eJ I ru (.lst h1) e h
  ·cases hk
   rename_i kvs q
   rw [R_ref] at hx
   obtain ⟨a,e1,rfl⟩:=hx
   obtain ⟨ys,h1,_⟩:=rh.at_ k _ a q e1
   exact eJ I ru (.dK h1) e h
  ·cases hk
   rename_i kvs q
   rw [R_ref] at hx
   obtain ⟨a,e1,rfl⟩:=hx
   obtain ⟨o,ys,h1,_⟩:=rh.at_ k _ a q e1
   cases ru
   obtain ⟨ho,_,_,vs,_,o',_,_,ho',hcl,_⟩:=I.hok a _ h1
   exact W.kia_one W.kitx_dict I.kIn ⟨o',ho',hcl.1⟩ e (fun z=>nomatch z) h
  ·cases hk
noncomputable def wm:M→String
 | .append=>"list.append"
 | .pop0=>"list.pop"
 | .extend=>"list.extend"
 | .insert=>"list.insert"
 | .count=>"list.count"
noncomputable def F3 (K:W.Frag) (w:PV→List PV→AH→EK→Prop):V→List V→Hp→VK→Prop:=fun x' xs' H Q=>∃m st x xs,RH K m H st∧R K m H x x'∧Rs K m H xs xs'∧w x xs st (post K m H Q)
theorem ER (c:M):MtR X (wm c) (F3 X.K (um c)):=by
 intro pins s σ H x' vs' v us Q I rx rv h
 obtain ⟨m,st,x,vs,rh,hx,hv,w⟩:=h
 cases c with
 | append =>
  obtain ⟨n0,rfl,w⟩:=wx w
  obtain ⟨x0,rfl,w⟩:=aP w
  obtain ⟨xs,h1,h2,w⟩:=w
  obtain ⟨a,ys,rfl,e,g,r⟩:=rh.lst h1 hx
  obtain ⟨y,rfl,hy⟩:=hv.one'
  exact oZ pins s σ H _ _ v us Q I rx rv ⟨a,ys,y,rfl,rfl,g,by rw [←r.len];exact fZ h2,w.setL rh e (nfL g) (r.app (.one hy)) (R_non.mpr rfl)⟩
 | pop0=>exact False.elim w
 | count=>exact False.elim w
 | extend=>exact False.elim w
 | insert=>exact False.elim w
noncomputable def Gy (K:W.Frag):V→V→V→Hp→(Hp→Prop)→Prop:=fun o' i' v' H Q=>∃m st o i v,RH K m H st∧R K m H o o'∧R K m H i i'∧R K m H v v'∧pP o i v st fun st'=>∀H',Ext K m H m H'→RH K m H' st'→Q H'
theorem D8 (hu:X.A.units+64<cLine):ES X (Gy X.K):=by
 intro pins s σ H o' i' v' ov iv u Q I ro ri rv h
 obtain ⟨m,st,o,i,v,rh,ho,hi,hv,w⟩:=h
 unfold pP at w
 split at w
 ·obtain ⟨xs,h1,q,h2,w⟩:=w
  obtain ⟨a,ys,rfl,e,g,r⟩:=rh.lst h1 ho
  rw [R_int] at hi;subst hi
  exact yU pins s σ H _ _ _ ov iv u Q I ro ri rv ⟨a,ys,_,q,rfl,rfl,g,by rw [←r.len];exact h2,w _ (Ext.set (ys:=ys) rh e (nfL g)) (rh.setL e (nfL g) (r.set hv q))⟩
 ·obtain ⟨kvs,h1,h2,w⟩:=w
  obtain ⟨a,ys,rfl,e,g,r1,r2⟩:=rh.dkat h1 ho
  rw [R_str] at hi;subst hi
  cases ro
  obtain ⟨q1,q2⟩:=Ab (k:=.inr _) hv r1 r2
  refine wT (Nat.lt_of_le_of_lt (by omega) hu) I (DPut.k (k:=.inr _) g ?_) ri rv fun s' I'=>⟨_,I',w _ (Ext.set (ys:=[]) rh e (nfD g)) (rh.setD e (nfD g) q1 q2)⟩
  have:ys.length=kvs.length:=by have:=congrArg List.length r1;simpa using this
  rw [this]
  exact xA h2
 ·exact w.elim
noncomputable def GQ (K:W.Frag):V→Hp→(Bool→Hp→Prop)→Prop:=fun x' H Q=>∃m st x,RH K m H st∧R K m H x x'∧fw x st (postB K m H Q)
theorem sK:∀ {x':V} {H:Hp} {Q:Bool→Hp→Prop},GQ X.K x' H Q→∃k,EM X.K x' H k∧Q k H:=by
 intro x' H Q h
 obtain ⟨m,st,x,rh,hx,w⟩:=h
 unfold fw at w
 split at w
 ·rw [R_bl] at hx;subst hx;exact ⟨_,rfl,w m H (Ext.refl _ _ _) rh⟩
 ·rw [R_non] at hx;subst hx;exact ⟨_,rfl,w m H (Ext.refl _ _ _) rh⟩
 ·rw [R_int] at hx;subst hx;exact ⟨_,rfl,w m H (Ext.refl _ _ _) rh⟩
 ·exact w.elim
 ·obtain ⟨xs,h1,w⟩:=w
  obtain ⟨a,ys,rfl,g,r⟩:=gm rh hx h1
  have e:(!xs.isEmpty)=!ys.isEmpty:=by
   have:=r.len
   cases xs <;> cases ys <;> first|rfl|(simp at this)
  refine ⟨_,?_,w m H (Ext.refl _ _ _) rh⟩
  rw [e]
  rcases g with g|g
  ·exact .inl ⟨ys,g,rfl⟩
  ·exact .inr (.inl ⟨ys,g,rfl⟩)
end
end FW
namespace FW
open L2 HX
mutual
noncomputable def PV.same:PV→PV→Bool
 | .non,y=>match y with | .non=>true|_=>false
 | .bl a,y=>match y with | .bl b=>a == b|_=>false
 | .int a,y=>match y with | .int b=>a == b|_=>false
 | .str a,y=>match y with | .str b=>a == b|_=>false
 | .tup xs,y=>match y with | .tup ys=>PV.sames xs ys|_=>false
 | .ref a,y=>match y with | .ref b=>a == b|_=>false
 | .rdl xs,y=>match y with | .rdl ys=>PV.sames xs ys|_=>false
 | .fn a,y=>match y with | .fn b=>a == b|_=>false
noncomputable def PV.sames:List PV→List PV→Bool
 | [],y=>y.isEmpty
 | x::xs,y=>match y with|y::ys=>x.same y && PV.sames xs ys | []=>false
end
mutual
theorem PV.same_eq:∀ {x y:PV},x.same y=true→x=y
 | .non,y,h=>by cases y with|non=>rfl|_=>exact Bool.noConfusion (show false=true from h)
 | .bl a,y,h=>by cases y with|bl b=>rw [eq_of_beq (show (a == b)=true from h)] | _=>exact Bool.noConfusion (show false=true from h)
 | .int a,y,h=>by cases y with|int b=>rw [eq_of_beq (show (a == b)=true from h)] | _=>exact Bool.noConfusion (show false=true from h)
 | .str a,y,h=>by cases y with|str b=>rw [eq_of_beq (show (a == b)=true from h)] | _=>exact Bool.noConfusion (show false=true from h)
 | .ref a,y,h=>by cases y with|ref b=>rw [eq_of_beq (show (a == b)=true from h)] | _=>exact Bool.noConfusion (show false=true from h)
 | .tup xs,y,h=>by cases y with|tup ys=>rw [PV.sames_eq (show PV.sames xs ys=true from h)] | _=>exact Bool.noConfusion (show false=true from h)
 | .rdl xs,y,h=>by cases y with|rdl ys=>rw [PV.sames_eq (show PV.sames xs ys=true from h)] | _=>exact Bool.noConfusion (show false=true from h)
 | .fn a,y,h=>by cases y with|fn b=>rw [eq_of_beq (show (a == b)=true from h)] | _=>exact Bool.noConfusion (show false=true from h)
theorem PV.sames_eq:∀ {x y:List PV},PV.sames x y=true→x=y
 | [],y,h=>by cases y with|nil=>rfl|cons a b=>exact Bool.noConfusion (show false=true from h)
 | x::xs,y,h=>by
  cases y with
  | nil=>exact Bool.noConfusion (show false=true from h)
  | cons y ys =>
   have h:=(Bool.and_eq_true _ _).mp (show (x.same y && PV.sames xs ys)=true from h)
   rw [PV.same_eq h.1,PV.sames_eq h.2]
end
structure Cfg where
 N:List Str
 names:List (Str × NameKind)
 fns:List Str
 lim:Nat
 blts:List Str
 gl:List (Str × PV)
 pc:Bool:=false
 hm:Option Nat:=none
noncomputable def Cfg.vis (c:Cfg) (x:Str):Bool:=(c.names.lookup x == some .local || c.names.lookup x == some .cell || c.names.lookup x == some .free) && !(x == ("__debug__":Str)) && !(x == ("__classdict__":Str))
noncomputable def Cfg.loc (c:Cfg) (x:Str):Bool:=c.names.lookup x == some .local || c.names.lookup x == some .cell
noncomputable def Cfg.glb (c:Cfg) (x:Str):Bool:=c.names.lookup x == some .globalImplicit && !(x == ("__debug__":Str)) && !(x == ("__name__":Str))
noncomputable def Cfg.blt (c:Cfg) (x:Str):Bool:=c.glb x && c.blts.contains x
noncomputable def Cfg.fn (c:Cfg) (f:Nat) (x:Str):Bool:=c.fns[f]? == some x && decide (f<c.lim) && c.glb x
noncomputable def lZ:B→Str
 | .len=>"len"
 | .max2=>"max"
 | .min2=>"min"
 | .divmod=>"divmod"
 | .int1=>"int"
 | .str1=>"str"
 | .tuple1=>"tuple"
 | .list1=>"list"
 | .all1=>"all"
 | .any1=>"any"
 | .abs1=>"abs"
 | .sorted1=>"sorted"
 | .repr1=>"repr"
 | .sortS=>"sorted"
 | .max1=>"max"
 | .sortD=>"sorted"
noncomputable def qj:M→Str
 | .append=>"append"
 | .pop0=>"pop"
 | .extend=>"extend"
 | .insert=>"insert"
 | .count=>"count"
noncomputable def kinds:List String:=["int","bool","str","tuple","list","dict"]
noncomputable def mn:Expr→Bool
 | .ListComp ..=>false
 | .SetComp ..=>false
 | .DictComp ..=>false
 | _=>true
noncomputable def tJ:Expr→Bool
 | .Name ..=>true
 | .Call ..=>true
 | .Subscript ..=>true
 | _=>false
mutual
noncomputable def Tg.low (n:Nat):Tg→Bool
 | .name i=>decide (i<n)
 | .tup ts=>Tgs.low n ts
 | .ltup ts=>Tgs.low n ts
 | .sub _ _=>false
noncomputable def Tgs.low (n:Nat):Tgs→Bool
 | .nil=>true
 | .cons t ts=>Tg.low n t && Tgs.low n ts
end
noncomputable def fe:Expr→Bool
 | .Set ..=>false
 | _=>true
noncomputable def Cfg.inner (c:Cfg) (nt:List Str) (caps:List Nat) (sc:Scope):Cfg:={ c with N:=nt++caps.filterMap (c.N[·]?),names:=sc.names,pc:=false,hm:=none }
noncomputable def xi (k:Option NameKind):Bool:=k == some .cell || k == some .free
noncomputable def Cfg.block (c:Cfg) (nt:List Str) (caps:List Nat) (sc:Scope):Bool :=
 sc.kind == .function && sc.names.all (fun y=>!(y.2 == .cell)) && sc.names.all (fun y=>!(y.2 == .local) || sc.names.lookup y.1 == some .local) && sc.names.all (fun y=>!(y.2 == .free) || xi (c.names.lookup y.1))
  && caps.all (fun i=>decide (i<c.N.length)) && (caps.filterMap (c.N[·]?)).all (fun x=>sc.names.lookup x == some .free && xi (c.names.lookup x)) && decide (nt++caps.filterMap (c.N[·]?)).Nodup
noncomputable def zv:It→Expr→Bool
 | .zip _ _,.Tuple ..=>true
 | .zip _ _,_=>false
 | .zip3 _ _ _,.Tuple ..=>true
 | .zip3 _ _ _,_=>false
 | .enum _,.Tuple ..=>true
 | .enum _,_=>false
 | .seq _,_ | .range1 _,_ | .range2 _ _,_ | .chars _,_ | .range3 _ _ _,_=>true
noncomputable def gc:Expr→Bool
 | .Name ..=>true
 | .List ..=>true
 | .Subscript ..=>true
 | _=>false
noncomputable def ax (x:Expr) (f:Str→Pos→Bool):Bool:=match x with | .Name y p=>f y p|_=>false
theorem aj {x:Expr} {f:Str→Pos→Bool} (h:ax x f=true):∃y p,x=.Name y p∧f y p=true:=by
 cases x with|Name y p=>exact ⟨y,p,rfl,h⟩|_=>exact Bool.noConfusion h
noncomputable def wA (x:Expr) (f:Int→Bool):Bool:=match x with | .Constant (.int j) _ _=>f j|_=>false
theorem wY {x:Expr} {f:Int→Bool} (h:wA x f=true):∃j k p,x=.Constant (.int j) k p∧f j=true:=by
 cases x with
 | Constant v k p=>cases v with|int j=>exact ⟨j,k,p,rfl,h⟩|_=>exact Bool.noConfusion h
 | _=>exact Bool.noConfusion h
noncomputable def Gp (x:Expr) (f:Bool→Bool):Bool:=match x with | .Constant (.bool j) _ _=>f j|_=>false
theorem As {x:Expr} {f:Bool→Bool} (h:Gp x f=true):∃j k p,x=.Constant (.bool j) k p∧f j=true:=by
 cases x with
 | Constant v k p=>cases v with|bool j=>exact ⟨j,k,p,rfl,h⟩|_=>exact Bool.noConfusion h
 | _=>exact Bool.noConfusion h
noncomputable def sk (x:Expr) (f:Str→Bool):Bool:=match x with | .Constant (.str j) _ _=>f j|_=>false
theorem xE {x:Expr} {f:Str→Bool} (h:sk x f=true):∃j k p,x=.Constant (.str j) k p∧f j=true:=by
 cases x with
 | Constant v k p=>cases v with|str j=>exact ⟨j,k,p,rfl,h⟩|_=>exact Bool.noConfusion h
 | _=>exact Bool.noConfusion h
noncomputable def Da (x:Expr):Bool:=match x with | .Constant .none _ _=>true|_=>false
theorem wX {x:Expr} (h:Da x=true):∃k p,x=.Constant .none k p:=by
 cases x with
 | Constant v k p=>cases v with|none=>exact ⟨k,p,rfl⟩|_=>exact Bool.noConfusion h
 | _=>exact Bool.noConfusion h
noncomputable def fi (x:Expr) (f:List Expr→Bool):Bool:=match x with | .Tuple xs _ _=>f xs|_=>false
theorem bB {x:Expr} {f:List Expr→Bool} (h:fi x f=true):∃xs k p,x=.Tuple xs k p∧f xs=true:=by
 cases x with|Tuple xs k p=>exact ⟨xs,k,p,rfl,h⟩|_=>exact Bool.noConfusion h
noncomputable def zG (x:Expr) (f:List Expr→Bool):Bool:=match x with | .List xs _=>f xs|_=>false
theorem uo {x:Expr} {f:List Expr→Bool} (h:zG x f=true):∃xs p,x=.List xs p∧f xs=true:=by
 cases x with|List xs p=>exact ⟨xs,p,rfl,h⟩|_=>exact Bool.noConfusion h
noncomputable def on1 {α:Type} (xs:List α) (f:α→Bool):Bool:=match xs with | [a]=>f a|_=>false
theorem cL {α:Type} {xs:List α} {f:α→Bool} (h:on1 xs f=true):∃a,xs=[a]∧f a=true:=by
 cases xs with
 | nil=>exact Bool.noConfusion h
 | cons a t=>cases t with|nil=>exact ⟨a,rfl,h⟩|cons _ _=>exact Bool.noConfusion h
noncomputable def on2 {α:Type} (xs:List α) (f:α→α→Bool):Bool:=match xs with | [a,b]=>f a b|_=>false
theorem gZ {α:Type} {xs:List α} {f:α→α→Bool} (h:on2 xs f=true):∃a b,xs=[a,b]∧f a b=true:=by
 cases xs with
 | nil=>exact Bool.noConfusion h
 | cons a t=>cases t with
  | nil=>exact Bool.noConfusion h
  | cons b t=>cases t with|nil=>exact ⟨a,b,rfl,h⟩|cons _ _=>exact Bool.noConfusion h
noncomputable def on3 {α:Type} (xs:List α) (f:α→α→α→Bool):Bool:=match xs with | [a,b,c]=>f a b c|_=>false
noncomputable def nA {α:Type} (xs:List α) (f:α→List α→Bool):Bool:=match xs with|a::t=>f a t | []=>false
theorem aF {α:Type} {xs:List α} {f:α→List α→Bool} (h:nA xs f=true):∃a t,xs=a::t∧f a t=true:=by
 cases xs with
 | nil=>exact Bool.noConfusion h
 | cons a t=>exact ⟨a,t,rfl,h⟩
noncomputable def iD {α:Type} (x:Option α) (f:α→Bool):Bool:=match x with|some a=>f a|none=>false
theorem fX {α:Type} {x:Option α} {f:α→Bool} (h:iD x f=true):∃a,x=some a∧f a=true:=by
 cases x with
 | none=>exact Bool.noConfusion h
 | some a=>exact ⟨a,rfl,h⟩
noncomputable def qv (x:Expr) (f:List (Option Expr)→List Expr→Bool):Bool:=match x with | .Dict ks vs _=>f ks vs|_=>false
theorem mw {x:Expr} {f:List (Option Expr)→List Expr→Bool} (h:qv x f=true):∃ks vs p,x=.Dict ks vs p∧f ks vs=true:=by
 cases x with|Dict ks vs p=>exact ⟨ks,vs,p,rfl,h⟩|_=>exact Bool.noConfusion h
noncomputable def C4 (x:Expr) (f:Expr→Operator→Expr→Bool):Bool:=match x with | .BinOp l o r _=>f l o r|_=>false
theorem xB {x:Expr} {f:Expr→Operator→Expr→Bool} (h:C4 x f=true):∃l o r p,x=.BinOp l o r p∧f l o r=true:=by
 cases x with|BinOp l o r p=>exact ⟨l,o,r,p,rfl,h⟩|_=>exact Bool.noConfusion h
noncomputable def xX (x:Expr) (f:Expr→Bool):Bool:=match x with | .UnaryOp .USub y _=>f y|_=>false
theorem xD {x:Expr} {f:Expr→Bool} (h:xX x f=true):∃y p,x=.UnaryOp .USub y p∧f y=true:=by
 cases x with
 | UnaryOp o y p=>cases o with|USub=>exact ⟨y,p,rfl,h⟩|_=>exact Bool.noConfusion h
 | _=>exact Bool.noConfusion h
noncomputable def Aa (x:Expr) (f:Expr→Bool):Bool:=match x with | .UnaryOp .Not y _=>f y|_=>false
theorem oN {x:Expr} {f:Expr→Bool} (h:Aa x f=true):∃y p,x=.UnaryOp .Not y p∧f y=true:=by
 cases x with
 | UnaryOp o y p=>cases o with|Not=>exact ⟨y,p,rfl,h⟩|_=>exact Bool.noConfusion h
 | _=>exact Bool.noConfusion h
noncomputable def rV (x:Expr) (f:Expr→CmpOp→Expr→Bool):Bool:=match x with | .Compare l os rs _=>on1 os fun o=>on1 rs fun r=>f l o r|_=>false
theorem g9 {x:Expr} {f:Expr→CmpOp→Expr→Bool} (h:rV x f=true):∃l o r p,x=.Compare l [o] [r] p∧f l o r=true:=by
 cases x with
 | Compare l os rs p =>
  obtain ⟨o,rfl,h⟩:=cL h
  obtain ⟨r,rfl,h⟩:=cL h
  exact ⟨l,o,r,p,rfl,h⟩
 | _=>exact Bool.noConfusion h
noncomputable def zY (x:Expr) (f:PySem.BoolOp→List Expr→Bool):Bool:=match x with | .BoolOp o xs _=>f o xs|_=>false
theorem gS {x:Expr} {f:PySem.BoolOp→List Expr→Bool} (h:zY x f=true):∃o xs p,x=.BoolOp o xs p∧f o xs=true:=by
 cases x with|BoolOp o xs p=>exact ⟨o,xs,p,rfl,h⟩|_=>exact Bool.noConfusion h
noncomputable def CT (x:Expr) (f:Expr→Expr→Expr→Bool):Bool:=match x with | .IfExp y l r _=>f y l r|_=>false
theorem wH {x:Expr} {f:Expr→Expr→Expr→Bool} (h:CT x f=true):∃y l r p,x=.IfExp y l r p∧f y l r=true:=by
 cases x with|IfExp y l r p=>exact ⟨y,l,r,p,rfl,h⟩|_=>exact Bool.noConfusion h
noncomputable def pw (x:Expr) (f:Expr→Expr→Bool):Bool:=match x with | .Subscript l r _=>f l r|_=>false
theorem fO {x:Expr} {f:Expr→Expr→Bool} (h:pw x f=true):∃l r p,x=.Subscript l r p∧f l r=true:=by
 cases x with|Subscript l r p=>exact ⟨l,r,p,rfl,h⟩|_=>exact Bool.noConfusion h
noncomputable def wq (x:Expr) (f:Option Expr→Option Expr→Bool):Bool:=match x with | .Slice u v none _=>f u v|_=>false
theorem tE {x:Expr} {f:Option Expr→Option Expr→Bool} (h:wq x f=true):∃u v p,x=.Slice u v none p∧f u v=true:=by
 cases x with
 | Slice u v w p=>cases w with|none=>exact ⟨u,v,p,rfl,h⟩|some _=>exact Bool.noConfusion h
 | _=>exact Bool.noConfusion h
noncomputable def Dk (x:Expr) (f:Expr→Bool):Bool:=match x with | .Slice none none (some z) _=>f z|_=>false
noncomputable def aO (x:Expr) (f:Expr→List Expr→Pos→Bool):Bool:=match x with | .Call g xs [] p=>f g xs p|_=>false
theorem aN {x:Expr} {f:Expr→List Expr→Pos→Bool} (h:aO x f=true):∃g xs p,x=.Call g xs [] p∧f g xs p=true:=by
 cases x with
 | Call g xs ks p=>cases ks with|nil=>exact ⟨g,xs,p,rfl,h⟩|cons _ _=>exact Bool.noConfusion h
 | _=>exact Bool.noConfusion h
noncomputable def kQ (x:Expr) (f:Expr→Str→Pos→Bool):Bool:=match x with | .Attribute y n p=>f y n p|_=>false
theorem iX {x:Expr} {f:Expr→Str→Pos→Bool} (h:kQ x f=true):∃y n p,x=.Attribute y n p∧f y n p=true:=by
 cases x with|Attribute y n p=>exact ⟨y,n,p,rfl,h⟩|_=>exact Bool.noConfusion h
noncomputable def Bb (x:Expr) (f:Expr→List Comprehension→Scope→Pos→Bool):Bool:=match x with | .ListComp e gs sc p=>f e gs sc p|_=>false
theorem gy {x:Expr} {f:Expr→List Comprehension→Scope→Pos→Bool} (h:Bb x f=true):∃e gs sc p,x=.ListComp e gs sc p∧f e gs sc p=true:=by
 cases x with|ListComp e gs sc p=>exact ⟨e,gs,sc,p,rfl,h⟩|_=>exact Bool.noConfusion h
noncomputable def DK (x:Expr) (f:Expr→Expr→List Comprehension→Scope→Pos→Bool):Bool:=match x with | .DictComp k v gs sc p=>f k v gs sc p|_=>false
theorem nI {x:Expr} {f:Expr→Expr→List Comprehension→Scope→Pos→Bool} (h:DK x f=true):∃k v gs sc p,x=.DictComp k v gs sc p∧f k v gs sc p=true:=by
 cases x with|DictComp k v gs sc p=>exact ⟨k,v,gs,sc,p,rfl,h⟩|_=>exact Bool.noConfusion h
noncomputable def rM (wk:DW) (x:Expr) (f:Expr→Bool):Bool:=match wk with
 | .keys=>fe x && f x
 | .items=>aO x fun g xs cp=>kQ g fun y n ap=>n == ("items":Str) && ap.endLine == cp.line && xs.isEmpty && gc y && f y
theorem wM {x:Expr} {f:Expr→Bool} (h:rM .keys x f=true):fe x=true∧f x=true:=by
 unfold rM at h
 rw [Bool.and_eq_true] at h
 exact h
theorem ui {x:Expr} {f:Expr→Bool} (h:rM .items x f=true):∃y ap cp,x=.Call (.Attribute y "items" ap) [] [] cp∧(ap.endLine == cp.line)=true∧gc y=true∧f y=true:=by
 unfold rM at h
 replace h:=aN h
 obtain ⟨g,xs,cp,rfl,h⟩:=h
 replace h:=iX h
 obtain ⟨y,n,ap,rfl,h⟩:=h
 simp only [Bool.and_eq_true,beq_iff_eq] at h
 obtain ⟨⟨⟨⟨h1,h2⟩,h3⟩,h4⟩,h5⟩:=h
 subst h1
 cases xs with
 | nil=>exact ⟨y,ap,cp,rfl,by rw [h2];simp,h4,h5⟩
 | cons _ _=>cases h3
noncomputable def BA:DW→Expr→Bool
 | .items,.Tuple ..=>true
 | .items,_=>false
 | .keys,_=>true
theorem DR {α β:Type} {xs:List α} {ys:List β} (h:(xs.isEmpty && ys.isEmpty)=true):xs=[]∧ys=[]:=by
 cases xs with
 | nil=>cases ys with|nil=>exact ⟨rfl,rfl⟩|cons _ _=>exact Bool.noConfusion h
 | cons _ _=>exact Bool.noConfusion h
theorem xG {α:Type} {x:Option α} (h:x.isNone=true):x=none:=by
 cases x with|none=>rfl|some _=>exact Bool.noConfusion h
noncomputable def Gj (x:Expr) (f:Arguments→Expr→Scope→Bool):Bool:=match x with | .Lambda a b sc _=>f a b sc|_=>false
noncomputable def FJ (x:Arguments) (f:Str→Bool):Bool:=x.posonlyargs.isEmpty && x.vararg.isNone && x.kwonlyargs.isEmpty && x.kw_defaults.isEmpty && x.kwarg.isNone && x.defaults.isEmpty && on1 x.args fun a=>f a.arg
noncomputable def Cfg.lam (c:Cfg) (k:Nat) (y:Str) (caps:List Nat) (sc:Scope):Cfg:={ c with N:=y::caps.filterMap (c.N[·]?),names:=sc.names,lim:=k,pc:=false,hm:=none }
noncomputable def Cfg.lamOk (c:Cfg) (k:Nat) (y:Str) (caps:List Nat) (sc:Scope):Bool :=
 sc.kind == .function && !sc.isCoroutine && !sc.isGenerator && sc.names.all (fun y=>!(y.2 == .cell)) && sc.names.lookup y == some .local && sc.names.all (fun y=>!(y.2 == .local) || sc.names.lookup y.1 == some .local) && sc.names.all (fun y=>!(y.2 == .free) || xi (c.names.lookup y.1))
  && decide (k+1<c.lim) && caps.all (fun i=>decide (i<c.N.length)) && (caps.filterMap (c.N[·]?)).all (fun x=>sc.names.lookup x == some .free && xi (c.names.lookup x)) && decide (y::caps.filterMap (c.N[·]?)).Nodup
mutual
noncomputable def ar (c:Cfg):E→Expr→Bool
 | .var i,x=>ax x fun y _=>c.N[i]? == some y && c.vis y
 | .int i,x=>wA x fun j=>i == j
 | .bl i,x=>Gp x fun j=>i == j
 | .non,x=>Da x
 | .str i,x=>sk x fun j=>i == j
 | .gv y v,x=>ax x fun z _=>z == y && c.glb y && iD (c.gl.lookup y) fun w=>w.same v
 | .tup es,x=>fi x fun xs=>fg c es xs
 | .lst es,x=>zG x fun xs=>fg c es xs
 | .dct1 k i,x=>qv x fun ks vs=>on1 ks fun ok=>iD ok fun kx=>sk kx fun k'=>on1 vs fun vx=>wA vx fun i'=>k == k' && i == i'
 | .dct0,x=>qv x fun ks vs=>ks.isEmpty && vs.isEmpty
 | .bin op a b,x=>C4 x fun l o r=>o == op && ar c a l && ar c b r
 | .neg a,x=>xX x fun y=>ar c a y
 | .not a,x=>Aa x fun y=>ar c a y
 | .cmp op a b,x=>rV x fun l o r=>o == op && !behindInMarks o r && ar c a l && ar c b r
 | .bop k es,x=>zY x fun o xs=>(o == if k then .And else .Or) && fg c es xs && !xs.isEmpty
 | .ite t a b,x=>CT x fun y l r=>xM c t y && ar c a l && ar c b r
 | .ix a b,x=>pw x fun l r=>jp r && ar c a l && ar c b r
 | .sl a lo hi,x=>pw x fun l r=>wq r fun u v=>ar c a l && EG c lo u && EG c hi v
 | .call f es,x=>aO x fun g xs _=>ax g fun y _=>c.fn f y && xs.all ai && fg c es xs
 | .blt b es,x=>aO x fun g xs _=>ax g fun y _=>y == lZ b && c.blt y && xs.all ai && !xs.isEmpty && fg c es xs
 | .inst a t,x=>aO x fun g xs _=>ax g fun y _=>on2 xs fun l r=>ax r fun z _=>y == ("isinstance":Str) && c.blt y && ai l && z == (t:Str) && c.blt z && kinds.contains t && ar c a l
 | .met m o es,x=>aO x fun g xs cp=>kQ g fun y n ap=>n == qj m && ap.endLine == cp.line && xs.all ai && decide (xs.length≤2) && gc y && ar c o y && fg c es xs
 | .comp elt tg it ifs nt caps,x=>Bb x fun ex gs sc _=>on1 gs fun g=>g.is_async == 0 && zv it g.target && fe g.iter && tg.low nt.length && c.block nt caps sc && xV c it g.iter && iw (c.inner nt caps sc) tg g.target && lr (c.inner nt caps sc) ifs g.ifs && ar (c.inner nt caps sc) elt ex
 | .tmp a,x=>ar c a x
 | .compK elt tg wk e ifs nt caps,x=>Bb x fun ex gs sc _=>on1 gs fun g=>g.is_async == 0 && BA wk g.target && fe g.iter && tg.low nt.length && c.block nt caps sc && rM wk g.iter (fun y=>ar c e y) && iw (c.inner nt caps sc) tg g.target && lr (c.inner nt caps sc) ifs g.ifs && ar (c.inner nt caps sc) elt ex
 | .compD kx vx tg wk e ifs nt caps,x=>DK x fun ek ev gs sc _=>on1 gs fun g=>g.is_async == 0 && BA wk g.target && fe g.iter && tg.low nt.length && c.block nt caps sc && rM wk g.iter (fun y=>ar c e y) && iw (c.inner nt caps sc) tg g.target && lr (c.inner nt caps sc) ifs g.ifs && ar (c.inner nt caps sc) kx ek && ar (c.inner nt caps sc) vx ev
 | .dct2 k v,x=>qv x fun ks vs=>on1 ks fun ok=>iD ok fun kx=>on1 vs fun vx=>ar c k kx && ar c v vx
 | .dcl a,x=>aO x fun g xs _=>ax g fun y _=>on1 xs fun u=>y == ("dict":Str) && c.blt y && ai u && ar c a u
 | .eqd ne a b,x=>rV x fun l o r=>(o == if ne then .NotEq else .Eq) && !behindInMarks o r && ar c a l && ar c b r
 | .bad,_=>true
 | .dcp a,x=>aO x fun g xs _=>ax g fun y _=>on1 xs fun u=>y == ("dict":Str) && c.blt y && ai u && ar c a u
 | .clr a,x=>aO x fun g xs cp=>kQ g fun y n ap=>n == ("clear":Str) && ap.endLine == cp.line && xs.isEmpty && gc y && ar c a y
 | .sset a,x=>aO x fun g xs _=>ax g fun y _=>on1 xs fun l=>aO l fun g2 ys _=>ax g2 fun z _=>on1 ys fun u=>y == ("sorted":Str) && c.blt y && z == ("set":Str) && c.blt z && ai l && ai u && ar c a u
 | .jrev a,x=>aO x fun g xs cp=>kQ g fun y n ap=>sk y fun j=>on1 xs fun l=>pw l fun u r=>Dk r fun z=>xX z fun z1=>wA z1 fun i=>n == ("join":Str) && ap.endLine == cp.line && j == ("":Str) && i == 1 && ar c a u
 | .part a s,x=>aO x fun g xs cp=>kQ g fun y n ap=>on1 xs fun l=>sk l fun j=>n == ("partition":Str) && ap.endLine == cp.line && j == s && !(s.length == 0) && gc y && ar c a y
 | .pcall i e,x=>c.pc && aO x fun g xs _=>ax g fun y _=>on1 xs fun l=>c.N[i]? == some y && c.vis y && ai l && ar c e l
 | .hm e be caps,x=>iD c.hm fun k=>aO x fun g xs _=>ax g fun y _=>on2 xs fun l r=>Gj r fun as b sc=>FJ as fun z=>y == ("how_many":Str) && c.glb y && ai l && c.lamOk k z caps sc && ar c e l && ar (c.lam k z caps sc) be b
termination_by structural e=>e
noncomputable def fg (c:Cfg):Es→List Expr→Bool
 | .nil,xs=>xs.isEmpty
 | .cons e es,xs=>nA xs fun y ys=>ai y && ar c e y && fg c es ys
termination_by structural e=>e
noncomputable def EG (c:Cfg):O→Option Expr→Bool
 | .no,x=>x.isNone
 | .yes e,x=>iD x fun y=>ar c e y
termination_by structural e=>e
noncomputable def xM (c:Cfg):E→Expr→Bool
 | .not a,x=>Aa x fun y=>xM c a y
 | .bop k es,x=>zY x fun o xs=>(o == if k then .And else .Or) && !xs.isEmpty && lr c es xs
 | .cmp op a b,x=>rV x fun l o r=>o == op && !behindInMarks o r && ar c a l && ar c b r
 | .var i,x=>ax x fun y _=>c.N[i]? == some y && c.vis y
 | .call f es,x=>aO x fun g xs _=>ax g fun y _=>c.fn f y && xs.all ai && fg c es xs
 | .blt b es,x=>aO x fun g xs _=>ax g fun y _=>y == lZ b && c.blt y && xs.all ai && !xs.isEmpty && fg c es xs
 | .inst a t,x=>aO x fun g xs _=>ax g fun y _=>on2 xs fun l r=>ax r fun z _=>y == ("isinstance":Str) && c.blt y && ai l && z == (t:Str) && c.blt z && kinds.contains t && ar c a l
 | .tmp a,x=>tJ x && ar c a x
 | .ix a b,x=>pw x fun l r=>jp r && ar c a l && ar c b r
 | .pcall i e,x=>c.pc && aO x fun g xs _=>ax g fun y _=>on1 xs fun l=>c.N[i]? == some y && c.vis y && ai l && ar c e l
 | .eqd ne a b,x=>rV x fun l o r=>(o == if ne then .NotEq else .Eq) && !behindInMarks o r && ar c a l && ar c b r
 | .compK _ _ _ _ _ _ _,_ | .compD _ _ _ _ _ _ _ _,_ | .dcl _,_ | .dct2 _ _,_ | .hm _ _ _,_ | .bl _,_ | .int _,_ | .non,_ | .str _,_ | .gv _ _,_ | .tup _,_ | .lst _,_ | .dct0,_ | .dct1 _ _,_ | .bin _ _ _,_ | .neg _,_ | .ite _ _ _,_ | .sl _ _ _,_ | .met _ _ _,_ | .comp _ _ _ _ _ _,_ | .bad,_ | .jrev _,_ | .sset _,_ | .clr _,_ | .dcp _,_ | .part _ _,_=>true
termination_by structural e=>e
noncomputable def lr (c:Cfg):Es→List Expr→Bool
 | .nil,xs=>xs.isEmpty
 | .cons e es,xs=>nA xs fun y ys=>xM c e y && lr c es ys
termination_by structural e=>e
noncomputable def xV (c:Cfg):It→Expr→Bool
 | .seq e,x=>fe x && ar c e x
 | .range1 a,x=>aO x fun g xs _=>ax g fun y _=>on1 xs fun l=>y == ("range":Str) && c.blt y && ai l && ar c a l
 | .range2 a b,x=>aO x fun g xs _=>ax g fun y _=>on2 xs fun l r=>y == ("range":Str) && c.blt y && ai l && ai r && ar c a l && ar c b r
 | .zip a b,x=>aO x fun g xs _=>ax g fun y _=>on2 xs fun l r=>y == ("zip":Str) && c.blt y && ai l && ai r && ar c a l && ar c b r
 | .zip3 a b d,x=>aO x fun g xs _=>ax g fun y _=>on3 xs fun l r u=>y == ("zip":Str) && c.blt y && ai l && ai r && ai u && ar c a l && ar c b r && ar c d u
 | .enum a,x=>aO x fun g xs _=>ax g fun y _=>on1 xs fun l=>y == ("enumerate":Str) && c.blt y && ai l && ar c a l
 | .chars e,x=>fe x && ar c e x
 | .range3 a b d,x=>aO x fun g xs _=>ax g fun y _=>on3 xs fun l r u=>y == ("range":Str) && c.blt y && ai l && ai r && ai u && ar c a l && ar c b r && ar c d u
termination_by structural e=>e
noncomputable def iw (c:Cfg):Tg→Expr→Bool
 | .name i,x=>ax x fun y _=>c.N[i]? == some y && c.loc y
 | .tup ts,x=>fi x fun xs=>nQ c ts xs
 | .ltup ts,x=>fi x fun xs=>nQ c ts xs
 | .sub o i,x=>pw x fun l r=>jp r && ar c o l && ar c i r
termination_by structural e=>e
noncomputable def nQ (c:Cfg):Tgs→List Expr→Bool
 | .nil,xs=>xs.isEmpty
 | .cons t ts,xs=>nA xs fun y ys=>ai y && iw c t y && nQ c ts ys
termination_by structural e=>e
end
end FW
namespace FW
open L2 HX
noncomputable def av (K:W.Frag) (sp:FSp):Sp:=fun vs H Q _=>∃m st as,Rs K m H as vs∧RH K m H st∧sp as st (post K m H Q)
noncomputable def En (P:Program) (w:World) (K:W.Frag) (mg:Str→Option Value) (base:Heap) (k:Nat) (outer:List Env) (s:Shared) (H:Hp) (a:Addr) (L:FSp):Prop :=
 ∀(A':Around) (outer':List Env) (s':Shared) (H':Hp) (u:Value) (v:V) (Q':VK),Room k A'→xf P w K mg base A' outer' s' H'→Un (frs outer) [] H H' s.heap s'.heap→RelV v u→av K L [v] H' Q' E0 →
  W.FnAt a s'.heap∧codeAny (model P w) A' (.call (.ref a) ⟨[u],[]⟩) (CR CX0 outer' P w H' s' Q' E0) s'
noncomputable def Gf (L:FSp):Prop:=∀as st Q Q',(∀v st,Q v st→Q' v st)→L as st Q→L as st Q'
noncomputable def Hj (a:Nat) (L:FSp):FSp:=fun as st Q=>∃(xs:List PV) (g:PV→Bool),as=[.tup xs,.fn a]∧xs.length≤100000∧(∀y∈xs,∀Q':EK,Q' (.bl (g y)) st→L [y] st Q')∧Q (.int (bsr g xs)) st
structure GS (P:Program) (w:World) (K:W.Frag) (mg:Str→Option Value) (base:Heap) (k:Nat):Prop where
 ex:∃f fd,mg "how_many"=some (.ref f)∧W.keepIn K (.ref f)=true∧Binds K fd ["stair","holds"] [] ∧
  ∀(a:Addr) (L:FSp),Gf L→∀(A:Around) (outer:List Env) (s:Shared) (H:Hp) (args:Args) (us:List Value) (vs:List V) (Q:VK),Room (k+1) A→xf P w K mg base A outer s H→BindsTo s fd args ((["stair","holds"]:List Str).zip us)→Vals vs us →
   En P w K mg base k outer s H a L→av K (Hj a L) vs H Q E0→codeAny (model P w) A (.call (.ref f) args) (CR CX0 outer P w H s Q E0) s
structure HmX (X:Cx) (k:Nat):Prop where
 ok:GS X.prog X.w X.K X.mg X.base (k+1)
 cd:∃x c0 T,x∈ba∧W.tabIn X.K x=some (c0,T)∧X.env.code=.ref c0∧X.env.qual=x++".<locals>."∧W.CodeHd X.base c0 T
 bm:∃bm ob,X.mg "__builtins__"=some (.ref bm)∧bm≠builtinsNs∧X.base.get? bm=some ob∧ob.cls=.type "module"∧ob.dict=some builtinsNs∧ob.data=.plain
structure COk (X:Cx) (c:Cfg) (Γ:Nat→FSp):Prop where
 calm:X.calm=true
 pass:PassesOwn (model X.prog X.w) X.A X.env X.xe
 N:X.N=c.N
 nd:c.N.Nodup
 vis:∀x,c.names.lookup x=some .local∨c.names.lookup x=some .cell∨c.names.lookup x=some .free→Vis X.env.scope x
 loc:∀x,c.names.lookup x=some .local∨c.names.lookup x=some .cell→Loc X.env.scope x∧(X.fn x=true∨X.env.scope.names.lookup x=some .local)
 lcl:∀x,c.names.lookup x=some .local→X.env.scope.names.lookup x=some .local
 glb:∀x,c.names.lookup x=some .globalImplicit→Gl X x
 bk:X.env.blockKind=.function
 cel:∀x,c.names.lookup x=some .cell∨c.names.lookup x=some .free→X.env.kindOf x=some .cell∨X.env.kindOf x=some .free
 room:Room c.lim X.A
 fn:∀f x,f<c.lim→c.fns[f]?=some x→∃ps,Has X.prog X.w X.K X.mg X.base (f+1) x ps (av X.K (Γ f))
 blt:∀x∈c.blts,X.mg x=none
 gl:∀x v,c.gl.lookup x=some v→∃u y,X.mg x=some u∧RelV y u∧∀m H,R X.K m H v y
 mono:bb Γ
 lam:c.pc=true→∀ {pins:List (Addr × Obj)} {σ:L2.St} {H:Hp} {s:Shared} {b:Addr} {u:Value} {v:V} {Q:VK},L2.Inv X pins σ H s→RelV v u→av X.K (Γ 1000) [.ref b,v] H Q E0 →
  W.FnAt b s.heap∧wpAny (model X.prog X.w) X.A (call (.ref b) [u]) (EP X pins σ Q) X.xe s
 hmo:∀k,c.hm=some k→HmX X k
section
variable {X:Cx} {c:Cfg} {Γ:Nat→FSp}
theorem COk.visx (C:COk X c Γ) {x:Str} (h:c.vis x=true):Vis X.env.scope x∧(x == ("__debug__":Str))=false∧(x == ("__classdict__":Str))=false:=by
 unfold Cfg.vis at h
 simp only [Bool.and_eq_true,Bool.or_eq_true,beq_iff_eq,Bool.not_eq_true'] at h
 exact ⟨C.vis x (by rcases h.1.1 with (h|h)|h <;> simp [h]),h.1.2,h.2⟩
theorem COk.glbx (C:COk X c Γ) {x:Str} (h:c.glb x=true):Gl X x∧(x == ("__debug__":Str))=false∧x≠"__name__":=by
 unfold Cfg.glb at h
 simp only [Bool.and_eq_true,beq_iff_eq,Bool.not_eq_true'] at h
 exact ⟨C.glb x h.1.1,h.1.2,fun z=>by rw [z] at h;exact absurd h.2 (by decide)⟩
theorem COk.bltx (C:COk X c Γ) {x:Str} (h:c.blt x=true):Gl X x∧(x == ("__debug__":Str))=false∧x≠"__name__"∧X.mg x=none:=by
 unfold Cfg.blt at h
 rw [Bool.and_eq_true] at h
 obtain ⟨h1,h2,h3⟩:=C.glbx h.1
 exact ⟨h1,h2,h3,C.blt x (List.contains_iff_mem.mp h.2)⟩
theorem COk.fnx (C:COk X c Γ) {f:Nat} {x:Str} (h:c.fn f x=true):Gl X x∧(x == ("__debug__":Str))=false∧Room (f+1) X.A∧∃ps,Has X.prog X.w X.K X.mg X.base (f+1) x ps (av X.K (Γ f)):=by
 unfold Cfg.fn at h
 simp only [Bool.and_eq_true,beq_iff_eq,decide_eq_true_eq] at h
 obtain ⟨h1,h2,h3⟩:=C.glbx h.2
 exact ⟨h1,h2,C.room.mono h.1.2,C.fn f x h.1.2 h.1.1⟩
theorem Fo:∀b:B,bootBuiltins (lZ b)=some (Gq b):=by
 intro b
 cases b <;> decide +kernel
theorem uF:∀t∈kinds,bootBuiltins (t:Str)=some (.type t):=by decide +kernel
theorem sj:bootBuiltins ("isinstance":Str)=some (.builtin "isinstance"):=by decide +kernel
theorem u_ {x:Expr} (h:tJ x=true) (env:Env):∀whole,isTrue x env whole=(do let v ←whole;standAt x.pos;holding [v] (truthy v)):=by
 cases x <;> first|(intro _;rfl)|cases h
theorem vD {K:W.Frag} {m:List Addr} {H:Hp} {as:List PV} {vs:List V} (h:Rs K m H as vs):Rs K m H as (vs++[]):=by rw [List.append_nil];exact h
theorem tG (C:COk X c Γ) {f:Nat} {y:Str} {xs:List Expr} {p pos:Pos} {es:Es} (hf:c.fn f y=true) (hn:xs.all ai=true) (hc:fg c es xs=true) (ha:PA X xs (TAx X.K (cV Γ es))) :
  PE X (.Call (.Name y p) xs [] pos) (TEx X.K fun ρ st Q=>cV Γ es ρ st fun vs st1=>Γ f vs st1 Q):=by
 obtain ⟨h1,h2,hr,ps,F⟩:=C.fnx hf
 have key:∀ {σ:L2.St} {H:Hp} {Q:VK},TEx X.K (fun ρ st Q=>cV Γ es ρ st fun vs st1=>Γ f vs st1 Q) σ H Q→oU (av X.K (Γ f)) [] E0 (TAx X.K (cV Γ es)) σ H Q:=by
  rintro σ H Q ⟨m,ρ,st,rf,rh,w⟩
  exact ⟨m,ρ,st,rf,rh,aC C.mono es (fun vs st1 k m1 H1 xs1 e1 r1 r2=>⟨m1,st1,vs,vD r2,r1,C.mono _ _ _ _ _ (fun _ _ q=>q.ext e1) k⟩) w⟩
 intro pins s σ H Q I h
 cases xs with
 | nil =>
  refine BU F hr h1 h2 pins s σ H Q I ?_
  obtain ⟨m,ρ,st,rf,rh,w⟩:=h
  cases es with
  | nil=>exact ⟨m,st,[],Rs_nil.mpr rfl,rh,w⟩
  | cons e es=>exact Bool.noConfusion (show false=true from hc)
 | cons x xs =>
  rw [List.all_cons,Bool.and_eq_true] at hn
  exact BZ F hr ha h1 h2 hn.1 hn.2 pins s σ H Q I (key h)
theorem tm (C:COk X c Γ) {b:B} {y:Str} {xs:List Expr} {p pos:Pos} {es:Es} (hy:y=lZ b) (hb:c.blt y=true) (hn:xs.all ai=true) (hne:xs.isEmpty=false) (ha:PA X xs (TAx X.K (cV Γ es))) :
  PE X (.Call (.Name y p) xs [] pos) (TEx X.K fun ρ st Q=>cV Γ es ρ st fun vs st1=>d0 b vs st1 Q):=by
 obtain ⟨h1,h2,h3,h4⟩:=C.bltx hb
 have hv:=Fo b
 rw [←hy] at hv
 have key:∀ {σ:L2.St} {H:Hp} {Q:VK},TEx X.K (fun ρ st Q=>cV Γ es ρ st fun vs st1=>d0 b vs st1 Q) σ H Q→tCB (Fz X.K (d0 b)) (TAx X.K (cV Γ es)) σ H Q:=by
  rintro σ H Q ⟨m,ρ,st,rf,rh,w⟩
  exact ⟨m,ρ,st,rf,rh,aC C.mono es (fun vs st1 k m1 H1 xs1 e1 r1 r2=>⟨m1,st1,vs,r1,r2,hJ (fun _ _ q=>q.ext e1) k⟩) w⟩
 have hc:=Dj C.calm C.room.gd C.room.units b
 cases xs with
 | nil=>cases hne
 | cons x xs =>
  rw [List.all_cons,Bool.and_eq_true] at hn
  intro pins s σ H Q I h
  cases b <;> first
   | exact oT hc h1 h4 hv ha h3 h2 hn.1 hn.2 pins s σ H Q I (key h)
   | exact nS hc h1 h4 hv ha h3 h2 hn.1 hn.2 pins s σ H Q I (key h)
theorem wG (m:M):PlainAttrs "list"∧Slot "list" (qj m) (wm m)∧typeOf (.builtin (wm m))=pure (.type "method_descriptor"):=by
 cases m
 ·exact ⟨PySem.F.plainAttrs_list,PySem.F.slot_list_append,PySem.F.type_list_append⟩
 ·exact ⟨PySem.F.plainAttrs_list,PySem.F.slot_list_pop,PySem.F.type_list_pop⟩
 ·exact ⟨PySem.F.plainAttrs_list,PySem.F.slot_list_extend,PySem.F.type_list_extend⟩
 ·exact ⟨PySem.F.plainAttrs_list,PySem.F.slot_list_insert,PySem.F.type_list_insert⟩
 ·exact ⟨PySem.F.plainAttrs_list,PySem.F.slot_list_count,PySem.F.type_list_count⟩
theorem fL {y:Expr} (h:gc y=true) {n:Str} {env:Env} {w:Sem Value}:attributeBase y n env w=w:=by
 cases y <;> first|rfl|cases h
theorem yb (C:COk X c Γ) {m:M} {n:Str} {y:Expr} {ap cp:Pos} {xs:List Expr} {o:E} {es:Es} (hn:n=qj m) (hl:(ap.endLine == cp.line)=true) (hs:xs.all ai=true) (h2:xs.length≤2) (hy:gc y=true) (ho:PE X y (TEx X.K (wpE Γ o))) (ha:PA X xs (TAx X.K (cV Γ es))) (hc:fg c es xs=true) :
  PE X (.Call (.Attribute y n ap) xs [] cp) (TEx X.K (wpE Γ (.met m o es))):=by
 obtain ⟨pa,slot,ty⟩:=wG m
 rw [←hn] at slot
 have hm:MtR X (wm m) (F3 X.K (um m)):=ER m
 intro pins s σ H Q I h
 obtain ⟨mm,ρ,st,rf,rh,w⟩:=h
 skip
 have tyv:∀ {m1:List Addr} {H1:Hp} {st1:AH} {v:PV} {x:V},RH X.K m1 H1 st1→R X.K m1 H1 v x→(∃xs,br st1 v=some xs)→tyV X.K "list" x H1:=by
  rintro m1 H1 st1 v x r1 r2 ⟨xs,e⟩
  obtain ⟨a,ys,rfl,g,_⟩:=eF r1 r2 e
  exact .inl ⟨rfl,ys,g⟩
 match xs,hs,h2,ha,hc with
 | [],hs,h2,ha,hc =>
  refine uq pa slot ty hm ho (fL hy) hl pins s σ H Q I ?_
  refine ⟨mm,ρ,st,rf,rh,aa C.mono o (fun v st1 k m1 H1 x1 e1 r1 r2=>⟨tyv r1 r2 k.1,?_⟩) w⟩
  cases es with
  | nil =>
   have k2:=k.2
   skip
   exact ⟨m1,st1,v,[],r1,r2,Rs_nil.mpr rfl,gX (fun _ _ q=>q.ext e1) k2⟩
  | cons e es=>exact Bool.noConfusion (show false=true from hc)
 | [a],hs,h2,ha,hc =>
  simp only [List.all_cons,List.all_nil,Bool.and_true] at hs
  have st1:starEach [a] X.env=[(false,eval a X.env)]:=cM hs
  refine CN pa slot ty hm ho ha (fL hy) (by rw [st1];rfl) hl st1 rfl pins s σ H Q I ?_
  refine ⟨mm,ρ,st,rf,rh,aa C.mono o (fun v st1 k m1 H1 x1 e1 r1 r2=>⟨tyv r1 r2 k.1,?_⟩) w⟩
  exact ⟨m1,ρ,st1,rf.mono e1,r1,aC C.mono es (fun vs st2 k m2 H2 xs2 e2 r3 r4=>⟨m2,st2,v,vs,r3,r2.mono e2,r4,gX (fun _ _ q=>q.ext (e1.trans e2)) k⟩) k.2⟩
 | [a,b],hs,h2,ha,hc =>
  simp only [List.all_cons,List.all_nil,Bool.and_true,Bool.and_eq_true] at hs
  have stb:starEach [b] X.env=[(false,eval b X.env)]:=cM hs.2
  have st1:starEach [a,b] X.env=(false,eval a X.env)::starEach [b] X.env:=cM hs.1
  refine CN pa slot ty hm ho ha (fL hy) (by rw [st1,stb];rfl) hl st1 (by rw [stb];rfl) pins s σ H Q I ?_
  refine ⟨mm,ρ,st,rf,rh,aa C.mono o (fun v st1 k m1 H1 x1 e1 r1 r2=>⟨tyv r1 r2 k.1,?_⟩) w⟩
  exact ⟨m1,ρ,st1,rf.mono e1,r1,aC C.mono es (fun vs st2 k m2 H2 xs2 e2 r3 r4=>⟨m2,st2,v,vs,r3,r2.mono e2,r4,gX (fun _ _ q=>q.ext (e1.trans e2)) k⟩) k.2⟩
 | _::_::_::_,hs,h2,ha,hc=>simp at h2
mutual
theorem PV.bel_le {i j:Nat} (h:i≤j):∀ {v:PV},v.bel i=true→v.bel j=true
 | .non,_=>by rw [PV.bel]
 | .bl _,_=>by rw [PV.bel]
 | .int _,_=>by rw [PV.bel]
 | .str _,_=>by rw [PV.bel]
 | .ref n,z=>by rw [PV.bel] at z ⊢;have:=of_decide_eq_true z;exact decide_eq_true (by omega)
 | .tup xs,z=>by rw [PV.bel] at z ⊢;exact PV.bels_le h z
 | .rdl xs,z=>by rw [PV.bel] at z ⊢;exact PV.bels_le h z
 | .fn _,z=>by rw [PV.bel] at z;cases z
theorem PV.bels_le {i j:Nat} (h:i≤j):∀ {vs:List PV},PV.bels i vs=true→PV.bels j vs=true
 | [],_=>by rw [PV.bels]
 | v::vs,z=>by rw [PV.bels,Bool.and_eq_true] at z ⊢;exact ⟨PV.bel_le h z.1,PV.bels_le h z.2⟩
end
theorem wp (C:COk X c Γ) {a:E} {t:String} {l:Expr} {y z:Str} {p q pos:Pos} (h:(y == ("isinstance":Str) && c.blt y && ai l && z == (t:Str) && c.blt z && kinds.contains t)=true) (ha:PE X l (TEx X.K (wpE Γ a))) :
  PE X (.Call (.Name y p) [l,.Name z q] [] pos) (TEx X.K (wpE Γ (.inst a t))):=by
 simp only [Bool.and_eq_true,beq_iff_eq] at h
 obtain ⟨⟨⟨⟨⟨h1,h2⟩,h3⟩,h4⟩,h5⟩,h6⟩:=h
 subst h1 h4
 have ht:t∈kinds:=List.contains_iff_mem.mp h6
 obtain ⟨g1,g2,g3,g4⟩:=C.bltx h2
 obtain ⟨k1,k2,k3,k4⟩:=C.bltx h5
 rintro pins s σ H Q I ⟨m,ρ,st,rf,rh,w⟩
 skip
 have pt:PE X (.Name (t:Str) q) (tC (.ty t)):=Cj k1 k4 (uF t ht) rfl k3 k2
 have hA:PA X [l,.Name (t:Str) q] (nj (TEx X.K (wpE Γ a)) (nj (tC (.ty t)) wS)):=pac ha (pac pt jI) h3
 have hC:eA X (.builtin "isinstance") (fun xs H Q=>∃m st x y n,RH X.K m H st∧R X.K m H x y∧xs=[y,.ty t]∧cj st x=some n∧Q (.bl (fk t n)) H):=by
  rintro pins s σ H xs us Q I r ⟨m,st,x,y,n,r1,r2,rfl,e,q⟩
  obtain ⟨u,v,rfl,ru,rv⟩:=rN r
  cases (show v=Value.type t from rv)
  exact B8 (K:=X.K) I r1 r2 ru e ht fun tk=>⟨.bl _,H,I.tok tk,rfl,q⟩
 refine oT hC g1 g4 sj hA g3 g2 h3 rfl pins s σ H Q I ?_
 refine ⟨m,ρ,st,rf,rh,aa C.mono a (fun v st1 k m1 H1 x1 e1 r1 r2=>?_) w⟩
 obtain ⟨n,e,k⟩:=k
 exact ⟨m1,st1,v,x1,n,r1,r2,rfl,e,(k.ext e1).here r1 (R_bl.mpr rfl)⟩
theorem yw (C:COk X c Γ) {i:Nat} {y:Str} {p:Pos} (h:(c.N[i]? == some y && c.vis y)=true):PE X (.Name y p) (TEx X.K (wpE Γ (.var i))):=by
 simp only [Bool.and_eq_true,beq_iff_eq] at h
 obtain ⟨h1,h2,h3⟩:=C.visx h.2
 rintro pins s σ H Q I ⟨m,ρ,st,rf,rh,w⟩
 skip
 obtain ⟨v,e,w⟩:=w
 obtain ⟨y,e2,r⟩:=rf.at_ i v e
 exact DJ (by rw [C.N];exact h.1) h1 h2 h3 pins s σ H Q I ⟨y,e2,w.here rh r⟩
theorem p7 {K:W.Frag} {m m':List Addr} {H H':Hp} {st st':AH} {Q:EK} {v:PV} {x:V} (rh:RH K m H st) (e:Ext K m H m' H') (rh':RH K m' H' st') (r:R K m' H' v x) (q:Tmp st Q v st') :
  ∃st1,Q v st1∧Ext K m H m H'∧RH K m H' st1∧R K m H' v x:=by
 obtain ⟨st1,g,rfl,hl,hs,hb,q⟩:=q
 have hm:m'.take m.length=m:=by
  obtain ⟨t,ht⟩:=e.pre
  rw [←ht,List.take_left]
 have hlen:m.length=st.length:=rh.len
 refine ⟨st1,q,⟨List.prefix_refl _,fun _ z=>.inl z,e.fr,e.tup,e.rdf,e.tbs,e.tb,e.frz⟩,⟨by rw [hl,hlen],rh.nd,fun n c a h1 h2=>?_,e.tb rh.tb⟩,?_⟩
 ·have hn:n<st1.length:=(List.getElem?_eq_some_iff.mp h1).1
  have c1:CellR K m' H' c a:=rh'.at_ n c a (by rw [List.getElem?_append_left hn];exact h1) (eD e.pre h2)
  have hc:c.bec m.length=true:=by
   rcases hs n (by omega) with z|⟨c',z,zb⟩
   ·rw [h1] at z
    exact (rh.at_ n c a z.symm h2).bel
   ·rw [h1] at z
    cases z
    have zb':∀ {c:Cell},c.bel 0=true→c.bec m.length=true:=by
     have b0:∀(xs:List PV),PV.bels 0 xs=true→PV.becs m.length xs=true:=fun xs h=>PV.bels_becs (Nat.zero_le _) h
     intro c h
     cases c with
     | lst xs=>exact b0 _ h
     | dk kvs=>exact b0 _ h
     | fz kvs=>cases h
    exact zb' zb
  have:=c1.cut hc
  rw [hm] at this
  exact this
 ·have:=r.cut (k:=m.length) (by rw [hlen];exact PV.bel_bec (Nat.le_refl _) hb)
  rw [hm] at this
  exact this
noncomputable def postF (K:W.Frag) (m:List Addr) (H:Hp) (Q:L2.St→Hp→Prop):Fr→AH→Prop:=fun ρ' st'=>∀m' H' σ',Ext K m H m' H'→RH K m' H' st'→RF K m' H' ρ' σ'→Q σ' H'
theorem postF.ext {K:W.Frag} {m m1:List Addr} {H H1:Hp} {Q:L2.St→Hp→Prop} (x:Ext K m H m1 H1) {ρ:Fr} {st:AH} (q:postF K m H Q ρ st):postF K m1 H1 Q ρ st:=fun m' H' σ' e r s=>q m' H' σ' (x.trans e) r s
theorem postF.here {K:W.Frag} {m:List Addr} {H:Hp} {Q:L2.St→Hp→Prop} {ρ:Fr} {σ:L2.St} {st:AH} (q:postF K m H Q ρ st) (h:RH K m H st) (r:RF K m H ρ σ):Q σ H:=q m H σ (Ext.refl _ _ _) h r
noncomputable def TGx (K:W.Frag) (w:PV→Fr→AH→(Fr→AH→Prop)→Prop):TG:=fun v' σ H Q=>∃m ρ st v,RF K m H ρ σ∧RH K m H st∧R K m H v v'∧w v ρ st (postF K m H Q)
noncomputable def GT (K:W.Frag) (w:List PV→Fr→AH→(Fr→AH→Prop)→Prop):TGs:=fun v' σ H Q=>∃m ρ st v,RF K m H ρ σ∧RH K m H st∧Rs K m H v v'∧w v ρ st (postF K m H Q)
theorem COk.locx (C:COk X c Γ) {x:Str} (h:c.loc x=true):Loc X.env.scope x∧(X.fn x=true∨X.env.scope.names.lookup x=some .local):=by
 unfold Cfg.loc at h
 simp only [Bool.or_eq_true,beq_iff_eq] at h
 exact C.loc x h
theorem COk.ndX (C:COk X c Γ):X.N.Nodup:=by rw [C.N];exact C.nd
theorem ip {e:Expr} {es:List Expr} {env:Env} (h:ai e=true):assignEach (e::es) env=(false,assign e env)::assignEach es env:=by
 cases e <;> first|rfl|cases h
theorem nK {c:Cfg}:∀ {ts:Tgs} {xs:List Expr} {env:Env},nQ c ts xs=true→(assignEach xs env).length=ts.size∧(assignEach xs env).findIdx? (·.1)=none
 | .nil,xs,env,h=>by
  have h:xs.isEmpty=true:=h
  cases xs with
  | nil=>exact ⟨rfl,rfl⟩
  | cons _ _=>cases h
 | .cons t ts,xs,env,h=>by
  replace h:=aF h
  obtain ⟨y,ys,rfl,h⟩:=h
  ·simp only [Bool.and_eq_true] at h
   obtain ⟨⟨h1,h2⟩,h3⟩:=h
   obtain ⟨g1,g2⟩:=nK (env:=env) h3
   rw [ip h1]
   exact ⟨by simp [g1,Tgs.size],by simp [List.findIdx?_cons,g2]⟩
structure kU (K:W.Frag) (J:L2.It) (xs:List PV) (chk:AH→Prop) (m0:List Addr) (H0:Hp):Prop where
 stop:∀m H st,Ext K m0 H0 m H→RH K m H st→chk st→J.stop xs.length H
 item:∀(i:Nat) v m H st,Ext K m0 H0 m H→RH K m H st→chk st→xs[i]?=some v→J.go i H∧∀x H',J.yld i H x H'→Ext K m H m H'∧RH K m H' st∧R K m H' v x
noncomputable def TIx (K:W.Frag) (w:Fr→AH→(List PV→(AH→Prop)→AH→Prop)→Prop):TI:=fun σ H Rr=>∃m ρ st,RF K m H ρ σ∧RH K m H st ∧
 w ρ st fun xs chk st1=>∀m1 H1 J,Ext K m H m1 H1→RH K m1 H1 st1→kU K J xs chk m1 H1→Rr J H1
theorem jg {x:Expr} {env:Env} (h:fe x=true):∀v,foldedSetIterable x env v=pure v:=by
 cases x <;> first|(intro _;rfl)|cases h
theorem D4 {tg l:Expr} {tl:TE} (hl:PE X l tl):PI X tg l (fun σ H Rr=>tl σ H fun x H1=>∃a,x=.ref a∧((∃xs,SqL X.K H1 a xs)∧Rr (Itl X.K a) H1∨(∃xs,SqT X.K H1 a xs)∧Rr (Itt X.K a) H1)):=by
 intro pins s σ H Rr I h
 refine thn (hl pins s σ H _ I h) fun v s1 ⟨x,H1,I1,r1,q1⟩=>?_
 obtain ⟨a,e,q1⟩:=q1
 subst e
 cases r1
 rcases q1 with ⟨⟨xs,hq⟩,q⟩|⟨⟨xs,hq⟩,q⟩
 ·obtain ⟨its,rv,p,hz⟩:=I1.list hq
  refine wpAny_pyIter_list p.isList ?_
  refine ⟨s1.heap.objs.size,[s1.heap.objs.size],_,_,H1,rfl,I1.kept (t':=s1.toks) fun b o e=>Heap.get?_push_of_some _ e,xK a _,⟨_,Heap.get?_push_size _ rfl,rfl,rfl⟩,fun b hb=>?_,q⟩
  have e:b=s1.heap.objs.size:=by simpa using hb
  subst e
  exact I1.fpOk (Nat.le_refl _) (I1.hok.fresh (Nat.le_refl _))
 ·obtain ⟨its,rv,p,hz⟩:=I1.tuple hq
  refine wpAny_pyIter_tuple (show s1.heap.IsTuple a its.toArray from p) ?_
  refine ⟨s1.heap.objs.size,[s1.heap.objs.size],_,_,H1,rfl,I1.kept (t':=s1.toks) fun b o e=>Heap.get?_push_of_some _ e,ub a _,⟨_,Heap.get?_push_size _ rfl,rfl,rfl⟩,fun b hb=>?_,q⟩
  have e:b=s1.heap.objs.size:=by simpa using hb
  subst e
  exact I1.fpOk (Nat.le_refl _) (I1.hok.fresh (Nat.le_refl _))
theorem Rd.inj {H:Hp} {a:Addr} {u u':HO} (h:L2.Rd H a u) (h':L2.Rd H a u') (n:∀o p,u≠.frz o p) (n':∀o p,u'≠.frz o p):u=u':=by
 rcases h with h|⟨o,h⟩ <;> rcases h' with h' | ⟨o',h'⟩
 ·rw [h] at h';exact Option.some.inj h'
 ·rw [h] at h';exact absurd (Option.some.inj h') (n _ _)
 ·rw [h] at h';exact absurd (Option.some.inj h').symm (n' _ _)
 ·rw [h] at h';cases h';rfl
theorem xz {K:W.Frag} {m0:List Addr} {H0:Hp} {st0:AH} {n:Nat} {a:Addr} {xs:List PV} (rh:RH K m0 H0 st0) (e:st0[n]?=some (.lst xs)) (ea:m0[n]?=some a):kU K (Itl K a) xs (fun st'=>st'[n]?=st0[n]?) m0 H0:=by
 have get:∀m H st,Ext K m0 H0 m H→RH K m H st→st[n]?=st0[n]?→∃ys,H a=some (.lst ys)∧Rs K m H xs ys:=fun m H st x r q=>by
  rw [e] at q
  exact r.at_ n _ a q (eD x.pre ea)
 refine ⟨fun m H st x r q=>?_,fun i v m H st x r q ev=>?_⟩
 ·obtain ⟨ys,h1,h2⟩:=get m H st x r q
  exact ⟨ys,SqL.of h1,by rw [h2.len];exact Nat.le_refl _⟩
 ·obtain ⟨ys,h1,h2⟩:=get m H st x r q
  obtain ⟨y,e1,r1⟩:=h2.get ev
  refine ⟨⟨ys,y,SqL.of h1,e1⟩,fun z H' ⟨e2,e3⟩=>?_⟩
  subst e2
  have:=e3 ys (SqL.of h1)
  rw [e1] at this
  cases this
  exact ⟨Ext.refl _ _ _,r,r1⟩
theorem yK {K:W.Frag} {m0:List Addr} {H0:Hp} {a:Addr} {xs:List PV} {ys:List V} (h:RdF K H0 a ys) (r0:Rs K m0 H0 xs ys):kU K (Itl K a) xs (fun _=>True) m0 H0:=by
 refine ⟨fun m H st x r q=>⟨ys,(x.rdf _ _ h).sq,by rw [r0.len];exact Nat.le_refl _⟩,fun i v m H st x r q ev=>?_⟩
 obtain ⟨y,e1,r1⟩:=(r0.mono x).get ev
 refine ⟨⟨ys,y,(x.rdf _ _ h).sq,e1⟩,fun z H' ⟨e2,e3⟩=>?_⟩
 subst e2
 have:=e3 ys (x.rdf _ _ h).sq
 rw [e1] at this
 cases this
 exact ⟨Ext.refl _ _ _,r,r1⟩
theorem yN {K:W.Frag} {m0:List Addr} {H0:Hp} {a:Addr} {xs:List PV} {ys:List V} (h:SqT K H0 a ys) (r0:Rs K m0 H0 xs ys):kU K (Itt K a) xs (fun _=>True) m0 H0:=by
 refine ⟨fun m H st x r q=>⟨ys,x.tup _ _ h,by rw [r0.len];exact Nat.le_refl _⟩,fun i v m H st x r q ev=>?_⟩
 obtain ⟨y,e1,r1⟩:=(r0.mono x).get ev
 refine ⟨⟨ys,y,x.tup _ _ h,e1⟩,fun z H' ⟨e2,e3⟩=>?_⟩
 subst e2
 have:=e3 ys (x.tup _ _ h)
 rw [e1] at this
 cases this
 exact ⟨Ext.refl _ _ _,r,r1⟩
theorem vP {K:W.Frag} {m0:List Addr} {H0:Hp} {lo:Int} {n:Nat}:kU K (Itr lo n) (dL lo n) (fun _=>True) m0 H0:=by
 refine ⟨fun m H st x r q=>by show n≤_;simp [dL],fun i v m H st x r q ev=>?_⟩
 unfold dL at ev
 rw [List.getElem?_map] at ev
 have hi:i<n:=by
  by_cases hi:i<n
  ·exact hi
  ·rw [List.getElem?_eq_none (by simp;omega)] at ev;cases ev
 rw [List.getElem?_range hi] at ev
 cases ev
 refine ⟨hi,fun z H' ⟨e2,e3⟩=>?_⟩
 subst e2 e3
 exact ⟨Ext.refl _ _ _,r,R_int.mpr rfl⟩
end
end FW
namespace FW
open L2 HX
section
variable {X:Cx} {c:Cfg} {Γ:Nat→FSp}
noncomputable def Ho (prog:Program) (w:World) (a:Addr) (ns:List Int):HO:=.ext fun h=>SetZ prog w (!(byT w)) h a ns
theorem xI:MtR X "dict.clear" (fun x xs H Q=>∃a kvs,x=.ref a∧xs=[]∧H a=some (.dK kvs)∧Q .non (upd H a (.dK []))):=by
 rintro pins s σ H x xs v us Q I rx rv ⟨a,kvs,rfl,rfl,g,q⟩
 cases rx
 cases rv
 exact CI I g fun s' I'=>⟨.non,_,I',rfl,q⟩
theorem Ea (C:COk X c Γ) {n:Str} {y:Expr} {ap cp:Pos} {a:E} (hn:n="clear") (hl:(ap.endLine == cp.line)=true) (hy:gc y=true) (ho:PE X y (TEx X.K (wpE Γ a))):PE X (.Call (.Attribute y n ap) [] [] cp) (TEx X.K (wpE Γ (.clr a))):=by
 subst hn
 intro pins s σ H Q I h
 obtain ⟨mm,ρ,st,rf,rh,w⟩:=h
 refine uq PySem.F.plainAttrs_dict PySem.F.slot_dict_clear PySem.F.type_dict_clear xI ho (fL hy) hl pins s σ H Q I ?_
 refine ⟨mm,ρ,st,rf,rh,aa C.mono a (fun v st1 k m1 H1 x1 e1 r1 r2=>?_) w⟩
 obtain ⟨n,rfl,kvs,h1,k⟩:=k
 obtain ⟨b,ys,rfl,eb,g,r3,r4⟩:=r1.dkat h1 r2
 refine ⟨.inr (.inr (.inl ⟨rfl,.inl ⟨ys,g⟩⟩)),b,ys,rfl,rfl,g,k m1 _ .non (e1.trans (Ext.set (ys:=[]) r1 eb (nfD g))) (r1.setD eb (nfD g) (by rfl) (by rw [List.map_nil,List.map_nil,Rs_nil])) (R_non.mpr rfl)⟩
theorem vy:eA X (.type "dict") (fun xs H Q=>∃p kvs,xs=[V.ref p]∧H p=some (.dK kvs)∧∀a,H a=none→Q (.ref a) (upd H a (.dK kvs))):=by
 rintro pins s σ H xs us Q I r ⟨p,kvs,rfl,hp,q⟩
 obtain ⟨u,rfl,ru⟩:=gK r
 cases ru
 exact A1 I (.inl hp) fun a s' ha I'=>⟨.ref a,_,I',rfl,q a ha⟩
theorem EQ (C:COk X c Γ) {y:Str} {u:Expr} {p p2:Pos} {a:E} (h1:y="dict") (h2:c.blt y=true) (h6:ai u=true) (ha:PE X u (TEx X.K (wpE Γ a))):PE X (.Call (.Name y p2) [u] [] p) (TEx X.K (wpE Γ (.dcp a))):=by
 obtain ⟨a1,a2,a3,a4⟩:=C.bltx h2
 have v1:bootBuiltins y=some (.type "dict"):=by rw [h1];decide +kernel
 intro pins s σ H Q I h
 refine nS (pos:=p) (p:=p2) vy a1 a4 v1 (pac ha jI h6) a3 a2 h6 rfl pins s σ H Q I ?_
 obtain ⟨m,ρ,st,rf,rh,w⟩:=h
 refine ⟨m,ρ,st,rf,rh,aa C.mono a (fun v st1 k m1 H1 x1 e1 r1 r2=>?_) w⟩
 obtain ⟨n,rfl,kvs,h1,k⟩:=k
 obtain ⟨b,ys,rfl,eb,g,r3,r4⟩:=r1.dkat h1 r2
 refine ⟨b,ys,rfl,g,fun q hq=>?_⟩
 exact k _ _ _ (e1.trans (Ext.new1 r1 hq)) (r1.new1 hq ⟨ys,ao,r3,r4.mono (Ext.new1 r1 hq)⟩) (R.last r1.len)
end
end FW
namespace FW
open L2 HX
section
variable {X:Cx} {pins:List (Addr × Obj)} {σ:L2.St} {H:Hp} {s:Shared} {h':Heap}
theorem BJ {t':Nat} {wr:List Addr} (I:L2.Inv X pins σ H s) (k:∀b o,b ∉ wr→s.heap.get? b=some o→h'.get? b=some o) (hf:∀b∈wr,iE X pins H b):L2.Inv X pins σ H { s with heap:=h',toks:=t' }:=by
 have nit:∀b u,H b=some u→b ∉ wr:=fun b u e z=>by rw [(hf b z).1] at e;cases e
 refine I.step (g':=s.gens) (d':=s.drawn) (ch:=wr) (fun b hb=>⟨(hf b hb).2.2.2.1,(hf b hb).2.1,(hf b hb).2.2.2.2.1,(hf b hb).2.2.2.2.2⟩) (fun b o _ _ hc e _=>k b o hc e) (fun b o _ _ hc e _=>⟨o.slots,k b o hc e⟩) (fun _ _ _ _ n=>n)
  (fun b o hc e=>⟨o,k b o hc e⟩) (fun _ _ e=>e) (fun _ _ _ e=>e) (fun b ps e=>⟨#[],by rw [e];simp⟩) (fun m hm=>?_) (fun b u e=>?_) I.bare
 ·obtain ⟨o,es,ep,ho,r⟩:=hm
  exact ⟨o,es,ep,k _ o (fun z=>(hf _ z).2.1 rfl) ho,r⟩
 ·refine (I.hok b u e).stay (fun c v hc q=>k c v ?_ q) (fun _ q=>q) fun _ _ q=>q
  rcases hc with z|z
  ·rw [z];exact nit b u e
  ·exact nit c _ z
theorem v7 {t':Nat} {wr:List Addr} {T:Addr} {xs:List V} {its:List Value} (I:L2.Inv X pins σ H s) (k:∀b o,b ∉ wr→s.heap.get? b=some o→h'.get? b=some o) (hf:∀b∈wr,iE X pins H b)
  (hT:s.heap.objs.size≤T) (hx:Vals xs its) (hz:xs.length≤sizeLine) (ht:h'.IsTuple T its.toArray):L2.Inv X pins σ (upd H T (.tup xs)) { s with heap:=h',toks:=t' }:=by
 have nit:∀b u,H b=some u→b ∉ wr:=fun b u e z=>by rw [(hf b z).1] at e;cases e
 have hn:H T=none:=I.hok.fresh hT
 have up:∀b u,H b=some u→upd H T (.tup xs) b=some u:=fun b u e=>by rw [ac (aq e hn)];exact e
 refine I.step (g':=s.gens) (d':=s.drawn) (ch:=wr) (fun b hb=>⟨(hf b hb).2.2.2.1,(hf b hb).2.1,(hf b hb).2.2.2.2.1,(hf b hb).2.2.2.2.2⟩) (fun b o _ _ hc e _=>k b o hc e) (fun b o _ _ hc e _=>⟨o.slots,k b o hc e⟩)
  (fun b o _ e n=>by rw [ac (Nat.ne_of_lt (Nat.lt_of_lt_of_le (Heap.lt_size e) hT))];exact n)
  (fun b o hc e=>⟨o,k b o hc e⟩) (fun b _ e=>up b _ e) (fun b _ _ e=>up b _ e) (fun b ps e=>⟨#[],by rw [up b _ e];simp⟩) (fun m hm=>?_) (fun b u e=>?_) I.bare
 ·obtain ⟨o,es,ep,ho,r⟩:=hm
  exact ⟨o,es,ep,k _ o (fun z=>(hf _ z).2.1 rfl) ho,r⟩
 ·by_cases hb:b=T
  ·subst hb
   rw [ao] at e
   cases e
   exact ⟨hz,its,hx,ht⟩
  ·rw [ac hb] at e
   refine (I.hok b u e).stay (fun c v hc q=>k c v ?_ q) (fun c q=>up c _ q) fun c _ q=>up c _ q
   rcases hc with z|z
   ·rw [z];exact nit b u e
   ·exact nit c _ z
end
theorem sX:∀ {xs ys:List PV},(gi xs ys).length=min xs.length ys.length
 | [],ys=>by simp [gi]
 | x::xs,[]=>by simp [gi]
 | x::xs,y::ys=>by simp only [gi,List.length_cons,sX (xs:=xs) (ys:=ys)];omega
theorem sZ:∀ {xs ys:List PV} {i:Nat} {v:PV},(gi xs ys)[i]?=some v→∃x y,xs[i]?=some x∧ys[i]?=some y∧v=.tup [x,y]
 | [],ys,i,v,h=>by simp [gi] at h
 | x::xs,[],i,v,h=>by simp [gi] at h
 | x::xs,y::ys,0,v,h=>by simp [gi] at h;exact ⟨x,y,rfl,rfl,h.symm⟩
 | x::xs,y::ys,i+1,v,h=>by
  simp only [gi,List.getElem?_cons_succ] at h ⊢
  exact sZ h
end FW
namespace FW
open L2 HX
theorem BY {h:Heap} {it t:Addr} {i:Nat} {x:Value} {o:Obj} {k:Nat} (e:h.get? it=some o) (hc:o.cls=.type "tuple_iterator") (hd:o.data=.fields #[.ref t,.int (i:Int) 0]) :
  (h.update it (Obj.mapFields fun z=>z.setIfInBounds k x)).get? it=some (Obj.mapFields (fun z=>z.setIfInBounds k x) o):=by
 refine Heap.get?_update_self _ e ?_
 obtain ⟨c,d,da,sl⟩:=o
 simp only at hc hd
 subst hc hd
 rfl
theorem sY (it t:Addr) (i:Nat) (items:Array Value) (x:Value):Meets (Builtin.«tuple_iterator.__next__» { pos:=[.ref it] }) fun _ R s =>
  s.heap.IsTupleIter it t i∧s.heap.IsTuple t items∧items[i]?=some x∧∀h',h'.IsTupleIter it t (i+1)→Heap.SameBut it s.heap h'→R (.ok (.ret x)) { s with heap:=h' }:=by
 intro prog w A R s ⟨⟨o,e,hc,hd⟩,⟨o2,e2,hc2,n,hd2⟩,hx,h⟩
 refine wpAny_bind (wpAny_pure ?_)
 refine wpAny_bind (wpAny_field (i:=0) e hd rfl ?_)
 refine wpAny_bind (wpAny_field (i:=1) e hd rfl ?_)
 refine wpAny_bind (wpAny_seqItems e2 hd2 ?_)
 show wpAny _ _ (match items[((i:Nat):Int).toNat]? with|some x=>_|none=>_) _ _ _
 rw [Int.toNat_natCast,hx]
 refine wpAny_bind (wpAny_setField e hd (Nat.lt_succ_self 1) ?_)
 refine wpAny_pure ?_
 refine h _ ⟨_,BY e hc hd,?_,?_⟩ (Heap.SameBut.update _ _ _)
 ·obtain ⟨c,d,da,sl⟩:=o
  simp only at hc hd
  subst hc hd
  rfl
 ·obtain ⟨c,d,da,sl⟩:=o
  simp only at hc hd
  subst hc hd
  show Data.fields #[.ref t,rawInt ((i:Int)+1)]=Data.fields #[.ref t,.int ((i+1:Nat):Int) 0]
  rw [Int.natCast_add]
  rfl
theorem BS {α:Type} {M:Model} {A:Around} {E:Value→Shared→Prop} {s:Shared} {Q:α→Shared→Prop} (hh:A.handled=none) (h:∀h' e,(∀b o,s.heap.get? b=some o→h'.get? b=some o)→(∃o,h'.get? e=some o∧o.cls=.type "StopIteration")→E (.ref e) { s with heap:=h' }) :
  wpAny M A (Builtin.SmallTypes.stopIteration:Sem α) Q E s:=by
 refine wpAny_bind ?_
 refine wpAny_bind (wpAny_newTuple ?_)
 refine wpAny_bind (wpAny_pure ?_)
 refine wpAny_newObj_type (wpAny_raiseNew_none hh ?_)
 refine h _ _ (fun b o e=>Heap.get?_push_of_some _ (Heap.get?_push_of_some _ e)) ⟨_,Heap.get?_push_size _ rfl,rfl⟩
theorem t_ (it t:Addr) (i:Nat) (items:Array Value):Meets (Builtin.«tuple_iterator.__next__» { pos:=[.ref it] }) fun A R s =>
  A.handled=none∧s.heap.IsTupleIter it t i∧s.heap.IsTuple t items∧items[i]?=none∧∀h' e,Heap.ExtBut it s.heap h'→(∃o,h'.get? e=some o∧o.cls=.type "StopIteration")→R (.error (.ref e)) { s with heap:=h' }:=by
 intro prog w A R s ⟨hh,⟨o,e,hc,hd⟩,⟨o2,e2,hc2,n,hd2⟩,hx,h⟩
 refine wpAny_bind (wpAny_pure ?_)
 refine wpAny_bind (wpAny_field (i:=0) e hd rfl ?_)
 refine wpAny_bind (wpAny_field (i:=1) e hd rfl ?_)
 refine wpAny_bind (wpAny_seqItems e2 hd2 ?_)
 show wpAny _ _ (match items[((i:Nat):Int).toNat]? with|some x=>_|none=>_) _ _ _
 rw [Int.toNat_natCast,hx]
 refine wpAny_bind (wpAny_rule ?_)
 refine wpAny_bind (wpAny_setField e hd (Nat.zero_lt_succ 1) ?_)
 refine BS hh fun h' x k1 k2=>h h' x (fun b o' hb eb=>k1 b o' ?_) k2
 show (s.heap.update it _).get? b=some o'
 rw [Heap.get?_update_ne _ _ _ _ hb]
 exact eb
section
variable {prog:Program} {w:World} {A:Around} {E:Value→Shared→Prop} {s:Shared} {it t:Addr} {i:Nat} {items:Array Value}
theorem qq {x:Value} {Q:Value→Shared→Prop} (hi:s.heap.IsTupleIter it t i) (ht:s.heap.IsTuple t items) (hx:items[i]?=some x) (h:∀h',h'.IsTupleIter it t (i+1)→Heap.SameBut it s.heap h'→Q x { s with heap:=h' }) :
  wpAny (model prog w) A (Builtin.SmallTypes.nextOf (.ref it)) Q E s:=by
 refine wpAny_bind (wpAny_callSpecial?_slot hi.typeIs F.slot_tuple_iterator_next ?_)
 refine call_meets F.slot_tuple_iterator_next hi.typeIs F.entry_tuple_iterator_next (F.args_tuple_iterator_next_1 _) (sY it t i items x) ⟨hi,ht,hx,fun h' k1 k2=>wpAny_pure (h h' k1 k2)⟩
theorem sB {Q:Value→Shared→Prop} (hh:A.handled=none) (hi:s.heap.IsTupleIter it t i) (ht:s.heap.IsTuple t items) (hx:items[i]?=none) (h:∀h' e,Heap.ExtBut it s.heap h'→(∃o,h'.get? e=some o∧o.cls=.type "StopIteration")→E (.ref e) { s with heap:=h' }) :
  wpAny (model prog w) A (Builtin.SmallTypes.nextOf (.ref it)) Q E s:=by
 refine wpAny_bind (wpAny_callSpecial?_slot hi.typeIs F.slot_tuple_iterator_next ?_)
 exact call_meets F.slot_tuple_iterator_next hi.typeIs F.entry_tuple_iterator_next (F.args_tuple_iterator_next_1 _) (t_ it t i items) ⟨hh,hi,ht,hx,h⟩
end
theorem xW {h h':Heap} {it t:Addr} {i:Nat} (k:∀o,h.get? it=some o→h'.get? it=some o) (z:h.IsTupleIter it t i):h'.IsTupleIter it t i:=by
 obtain ⟨o,e,r⟩:=z
 exact ⟨o,k o e,r⟩
theorem yo {h h':Heap} {t:Addr} {items:Array Value} (k:∀o,h.get? t=some o→h'.get? t=some o) (z:h.IsTuple t items):h'.IsTuple t items:=by
 obtain ⟨o,e,r⟩:=z
 exact ⟨o,k o e,r⟩
section
variable {X:Cx}
end
end FW
namespace FW
open L2 HX
structure Zs where
 it:Addr
 c:Bool × Addr
 xs:Array Value
noncomputable abbrev Zs.a (q:Zs):Addr:=q.c.2
noncomputable def ItB (h:Heap) (it:Addr) (c:Bool × Addr) (i:Nat):Prop:=if c.1=true then h.IsListIter it c.2 i else h.IsTupleIter it c.2 i
noncomputable def SeqB (h:Heap) (c:Bool × Addr) (xs:Array Value):Prop:=if c.1=true then h.IsList c.2 xs else h.IsTuple c.2 xs
theorem ItB.keep {h h':Heap} {it:Addr} {c:Bool × Addr} {i:Nat} (z:ItB h it c i) (k:∀o,h.get? it=some o→h'.get? it=some o):ItB h' it c i:=by
 obtain ⟨b,a⟩:=c
 cases b with
 | true=>exact (show h.IsListIter it a i from z).at k
 | false=>exact xW k (show h.IsTupleIter it a i from z)
theorem ItB.obj {h:Heap} {it:Addr} {c:Bool × Addr} {i:Nat} (z:ItB h it c i):∃o vs,h.get? it=some o∧o.data=.fields vs:=by
 obtain ⟨b,a⟩:=c
 cases b with
 | true=>obtain ⟨o,e,_,d⟩:=(show h.IsListIter it a i from z);exact ⟨o,_,e,d⟩
 | false=>obtain ⟨o,e,_,d⟩:=(show h.IsTupleIter it a i from z);exact ⟨o,_,e,d⟩
theorem SeqB.keep {h h':Heap} {c:Bool × Addr} {xs:Array Value} (z:SeqB h c xs) (k:∀o,h.get? c.2=some o→h'.get? c.2=some o):SeqB h' c xs:=by
 obtain ⟨b,a⟩:=c
 cases b with
 | true=>exact (show h.IsList a xs from z).at k
 | false=>exact yo k (show h.IsTuple a xs from z)
noncomputable def SrcAt (h:Heap) (q:Zs) (i:Nat):Prop:=ItB h q.it q.c i∧SeqB h q.c q.xs
theorem SrcAt.keep {h h':Heap} {q:Zs} {i:Nat} (z:SrcAt h q i) (k1:∀o,h.get? q.it=some o→h'.get? q.it=some o) (k2:∀o,h.get? q.a=some o→h'.get? q.a=some o):SrcAt h' q i:=⟨z.1.keep k1,z.2.keep k2⟩
theorem SrcAt.obj {h:Heap} {q:Zs} {i:Nat} (z:SrcAt h q i):∃o vs,h.get? q.it=some o∧o.data=.fields vs:=z.1.obj
section
variable {prog:Program} {w:World} {A:Around} {E:Value→Shared→Prop} {s:Shared} {q:Zs} {i:Nat}
theorem sm {x:Value} {Q:Value→Shared→Prop} (hne:q.a≠q.it) (h:SrcAt s.heap q i) (hx:q.xs[i]?=some x) (hQ:∀h',SrcAt h' q (i+1)→Heap.SameBut q.it s.heap h'→Q x { s with heap:=h' }):wpAny (model prog w) A (Builtin.SmallTypes.nextOf (.ref q.it)) Q E s:=by
 obtain ⟨it,⟨b,a⟩,xs⟩:=q
 obtain ⟨z1,z2⟩:=h
 cases b with
 | true=>exact wpAny_nextOf_list_item (show s.heap.IsListIter it a i from z1) (show s.heap.IsList a xs from z2) hx fun h' k1 k2=>hQ h' ⟨k1,z2.keep fun o e=>by rw [k2.2 _ hne];exact e⟩ k2
 | false=>exact qq (show s.heap.IsTupleIter it a i from z1) (show s.heap.IsTuple a xs from z2) hx fun h' k1 k2=>hQ h' ⟨k1,z2.keep fun o e=>by rw [k2.2 _ hne];exact e⟩ k2
theorem CF {Q:Value→Shared→Prop} (hh:A.handled=none) (h:SrcAt s.heap q i) (hx:q.xs[i]?=none) (hE:∀h' e,Heap.ExtBut q.it s.heap h'→(∃o,h'.get? e=some o∧o.cls=.type "StopIteration")→E (.ref e) { s with heap:=h' }):wpAny (model prog w) A (Builtin.SmallTypes.nextOf (.ref q.it)) Q E s:=by
 obtain ⟨it,⟨b,a⟩,xs⟩:=q
 obtain ⟨z1,z2⟩:=h
 cases b with
 | true=>exact wpAny_nextOf_list_end hh (show s.heap.IsListIter it a i from z1) (show s.heap.IsList a xs from z2) hx hE
 | false=>exact sB hh (show s.heap.IsTupleIter it a i from z1) (show s.heap.IsTuple a xs from z2) hx hE
theorem B7 {c:Bool × Addr} {xs:Array Value} {Q:Value→Shared→Prop} (h:SeqB s.heap c xs) (hQ:∀o,ItB (s.heap.push o) s.heap.objs.size c 0→Q (.ref s.heap.objs.size) { s with heap:=s.heap.push o }):wpAny (model prog w) A (pyIter (.ref c.2)) Q E s:=by
 obtain ⟨b,a⟩:=c
 cases b with
 | true=>exact wpAny_pyIter_list (show s.heap.IsList a xs from h) (hQ _ ⟨_,Heap.get?_push_size _ rfl,rfl,rfl⟩)
 | false=>exact wpAny_pyIter_tuple (show s.heap.IsTuple a xs from h) (hQ _ ⟨_,Heap.get?_push_size _ rfl,rfl,rfl⟩)
end
noncomputable abbrev dy (xs:List Value):Obj:={ cls:=.type "tuple",data:=.seq xs.toArray }
structure ZA (z TI TO:Addr) (ss:List Zs):Prop where
 nd:(z::TI::TO::ss.map Zs.it).Nodup
 ap:∀q∈ss,q.a ∉ z::TI::TO::ss.map Zs.it
section
variable {prog:Program} {w:World} {A:Around} {E:Value→Shared→Prop} {z TI TO:Addr} {i:Nat}
noncomputable def Bj (prog:Program) (w:World) (A:Around) (z TI TO:Addr) (f:Value × Nat→Option Fin × Unit→Sem (ForInStep (Option Fin × Unit))):Prop :=
 ∀(it:Addr) (k:Nat) (s:Shared) (R:ForInStep (Option Fin × Unit)→Shared→Prop) (E:Value→Shared→Prop),
  wpAny (model prog w) A (Builtin.SmallTypes.nextOf (.ref it)) (fun x s1=>∃arr,s1.heap.get? TO=some (dy arr)∧arr.length≤sizeLine∧∀h',h'.get? TO=some (dy (arr.set k x))→Heap.SameBut TO s1.heap h'→R (.yield (none,())) { s1 with heap:=h' })
   (fun e s1=>IsZip s1.heap z TI TO .ellipsis∧∀h',IsZip h' z TI TO .none→Heap.SameBut z s1.heap h'→E e { s1 with heap:=h' }) s →
  wpAny (model prog w) A (f (.ref it,k) (none,())) R E s
theorem Cs {f:Value × Nat→Option Fin × Unit→Sem (ForInStep (Option Fin × Unit))} (hf:Bj prog w A z TI TO f):∀ {ss dn:List Zs} {dx xs arr:List Value} {s:Shared} {R:Option Fin × Unit→Shared→Prop},ZA z TI TO (dn++ss)→(dn++ss).length≤sizeLine →
  Paired (fun (q:Zs) (x:Value)=>q.xs[i]?=some x) ss xs→dx.length=dn.length→arr.length=ss.length→IsZip s.heap z TI TO .ellipsis→s.heap.get? TO=some (dy (dx++arr))→(∀q∈dn,SrcAt s.heap q (i+1))→(∀q∈ss,SrcAt s.heap q i) →
  (∀h',IsZip h' z TI TO .ellipsis→h'.get? TO=some (dy (dx++xs))→(∀q∈dn++ss,SrcAt h' q (i+1))→h'.objs.size=s.heap.objs.size→(∀c o,c ∉ TO::(dn++ss).map Zs.it→s.heap.get? c=some o→h'.get? c=some o)→R (none,()) { s with heap:=h' }) →
  wpAny (model prog w) A (forIn ((ss.map fun q=>Value.ref q.it).zipIdx dn.length) (none,()) f) R E s:=by
 intro ss
 induction ss with
 | nil =>
  intro dn dx xs arr s R ap hsz hp hl ha hz hTO h1 h2 hR
  cases hp
  have:arr=[]:=List.length_eq_zero_iff.mp ha
  subst this
  exact wpAny_pure (hR s.heap hz hTO (by simpa using h1) rfl fun c o _ e=>e)
 | cons q ss ih =>
  intro dn dx xs arr s R ap hsz hp hl ha hz hTO h1 h2 hR
  cases hp with
  | @cons _ x _ xs hx hp =>
  cases arr with
  | nil=>simp at ha
  | cons b arr =>
  rw [List.map_cons,List.zipIdx_cons,List.forIn_cons]
  have nd:=ap.nd
  have qm:q∈dn++q::ss:=by simp
  have im:q.it∈(dn++q::ss).map Zs.it:=List.mem_map.mpr ⟨q,qm,rfl⟩
  have zi:z≠q.it:=fun e=>by
   have:=(List.nodup_cons.mp nd).1
   exact this (by simp [e])
  have ti:TO≠q.it:=fun e=>by
   have:=(List.nodup_cons.mp (List.nodup_cons.mp (List.nodup_cons.mp nd).2).2).1
   exact this (by rw [e];exact im)
  have zt:z≠TO:=fun e=>by
   have:=(List.nodup_cons.mp nd).1
   exact this (by simp [e])
  have ni:=(List.nodup_cons.mp (List.nodup_cons.mp (List.nodup_cons.mp nd).2).2).2
  have oth:∀p,p∈dn∨p∈ss→p.it≠q.it:=fun p hp e=>by
   rw [List.map_append,List.map_cons] at ni
   rcases hp with hp|hp
   ·have:=(List.nodup_append.mp ni).2.2 p.it (List.mem_map.mpr ⟨p,hp,rfl⟩) q.it (by simp)
    exact this e
   ·have:=(List.nodup_cons.mp (List.nodup_append.mp ni).2.1).1
    exact this (by rw [←e];exact List.mem_map.mpr ⟨p,hp,rfl⟩)
  have apa:∀p∈dn++q::ss,p.a≠q.it∧p.a≠TO:=fun p hp=>⟨fun e=>ap.ap p hp (by rw [e];simp),fun e=>ap.ap p hp (by rw [e];simp)⟩
  have tot:∀p∈dn++q::ss,p.it≠TO:=fun p hp e=>by
   have:=(List.nodup_cons.mp (List.nodup_cons.mp (List.nodup_cons.mp nd).2).2).1
   exact this (by rw [←e];exact List.mem_map.mpr ⟨p,hp,rfl⟩)
  refine wpAny_bind (hf q.it dn.length s _ _ ?_)
  refine sm (apa q qm).1 (h2 q (by simp)) hx fun h' k1 k2=>⟨dx++b::arr,by show h'.get? TO=_;rw [k2.2 TO ti];exact hTO,by rw [List.length_append,hl,ha,←List.length_append];exact hsz,fun h'' k3 k4=>?_⟩
  have both:∀c o,c≠q.it→c≠TO→s.heap.get? c=some o→h''.get? c=some o:=fun c o c1 c2 e=>by
   rw [k4.2 c c2]
   show h'.get? c=some o
   rw [k2.2 c c1]
   exact e
  have e3:(dx++b::arr).set dn.length x=(dx++[x])++arr:=by
   rw [←hl,List.set_append_right _ _ (Nat.le_refl _),Nat.sub_self]
   simp
  rw [e3] at k3
  have ea:dn++q::ss=(dn++[q])++ss:=by simp
  have el:dn.length+1=(dn++[q]).length:=by simp
  show wpAny _ _ (forIn ((ss.map fun q=>Value.ref q.it).zipIdx (dn.length+1)) (none,()) f) R E _
  rw [el]
  refine ih (dn:=dn++[q]) (dx:=dx++[x]) (xs:=xs) (arr:=arr) (by rw [←ea];exact ap) (by rw [←ea];exact hsz) hp (by simp [hl]) (by simpa using ha) (both z _ zi zt hz) k3 (fun p hp=>?_) (fun p hp=>?_) fun h3 j1 j2 j3 j4 j5=>?_
  ·rcases List.mem_append.mp hp with hp|hp
   ·exact (h1 p hp).keep (fun o e=>both _ o (oth p (.inl hp)) (tot p (by simp [hp])) e) fun o e=>both _ o (apa p (by simp [hp])).1 (apa p (by simp [hp])).2 e
   ·rw [List.mem_singleton] at hp
    subst hp
    exact k1.keep (fun o e=>by rw [k4.2 _ (Ne.symm ti)];exact e) fun o e=>by rw [k4.2 _ (apa p qm).2];exact e
  ·exact (h2 p (by simp [hp])).keep (fun o e=>both _ o (oth p (.inr hp)) (tot p (by simp [hp])) e) fun o e=>both _ o (apa p (by simp [hp])).1 (apa p (by simp [hp])).2 e
  ·refine hR h3 j1 (by rw [j2];simp) (by rw [ea];exact j3) (by rw [j4,k4.1];exact k2.1) fun c o hc e=>?_
   rw [ea] at hc
   refine j5 c o hc (both c o (fun z=>hc ?_) (fun z=>hc ?_) e)
   ·rw [z];simp
   ·rw [z];simp
theorem Ap {f:Value × Nat→Option Fin × Unit→Sem (ForInStep (Option Fin × Unit))} (hf:Bj prog w A z TI TO f) (hh:A.handled=none):∀ {ss dn:List Zs} {dx arr:List Value} {s:Shared} {R:Option Fin × Unit→Shared→Prop},ZA z TI TO (dn++ss)→(dn++ss).length≤sizeLine →
  (∃q∈ss,q.xs[i]?=none)→dx.length=dn.length→arr.length=ss.length→IsZip s.heap z TI TO .ellipsis→s.heap.get? TO=some (dy (dx++arr))→(∀q∈ss,SrcAt s.heap q i) →
  (∀h' e,(∀c o,c ∉ z::TO::(dn++ss).map Zs.it→s.heap.get? c=some o→h'.get? c=some o)→(∃o,h'.get? e=some o∧o.cls=.type "StopIteration")→E (.ref e) { s with heap:=h' }) →
  wpAny (model prog w) A (forIn ((ss.map fun q=>Value.ref q.it).zipIdx dn.length) (none,()) f) R E s:=by
 intro ss
 induction ss with
 | nil =>
  intro dn dx arr s R ap hsz hq
  obtain ⟨q,hq,_⟩:=hq
  cases hq
 | cons q ss ih =>
  intro dn dx arr s R ap hsz hq hl ha hz hTO h2 hE
  cases arr with
  | nil=>simp at ha
  | cons b arr =>
  rw [List.map_cons,List.zipIdx_cons,List.forIn_cons]
  have nd:=ap.nd
  have qm:q∈dn++q::ss:=by simp
  have im:q.it∈(dn++q::ss).map Zs.it:=List.mem_map.mpr ⟨q,qm,rfl⟩
  have zi:z≠q.it:=fun e=>(List.nodup_cons.mp nd).1 (by simp [e])
  have ti:TO≠q.it:=fun e=>(List.nodup_cons.mp (List.nodup_cons.mp (List.nodup_cons.mp nd).2).2).1 (by rw [e];exact im)
  have zt:z≠TO:=fun e=>(List.nodup_cons.mp nd).1 (by simp [e])
  have ni:=(List.nodup_cons.mp (List.nodup_cons.mp (List.nodup_cons.mp nd).2).2).2
  have oth:∀p,p∈ss→p.it≠q.it:=fun p hp e=>by
   rw [List.map_append,List.map_cons] at ni
   exact (List.nodup_cons.mp (List.nodup_append.mp ni).2.1).1 (by rw [←e];exact List.mem_map.mpr ⟨p,hp,rfl⟩)
  have apa:∀p∈dn++q::ss,p.a≠q.it∧p.a≠TO:=fun p hp=>⟨fun e=>ap.ap p hp (by rw [e];simp),fun e=>ap.ap p hp (by rw [e];simp)⟩
  have tot:∀p∈dn++q::ss,p.it≠TO:=fun p hp e=>(List.nodup_cons.mp (List.nodup_cons.mp (List.nodup_cons.mp nd).2).2).1 (by rw [←e];exact List.mem_map.mpr ⟨p,hp,rfl⟩)
  refine wpAny_bind (hf q.it dn.length s _ _ ?_)
  cases hx:q.xs[i]? with
  | none =>
   refine CF hh (h2 q (by simp)) hx fun h' e k1 k2=>?_
   have hz2:IsZip h' z TI TO .ellipsis:=k1 _ _ zi hz
   obtain ⟨oe,he,hc⟩:=k2
   have ez:e≠z:=fun z=>by subst z;rw [hz2] at he;cases he;simp at hc
   refine ⟨hz2,fun h'' _ k4=>hE h'' e (fun c o hc e=>?_) ⟨oe,by rw [k4.2 e ez];exact he,hc⟩⟩
   rw [k4.2 c (fun z=>hc (by rw [z];simp))]
   exact k1 c o (fun z=>hc (by rw [z];simp)) e
  | some x =>
   refine sm (apa q qm).1 (h2 q (by simp)) hx fun h' k1 k2=>⟨dx++b::arr,by show h'.get? TO=_;rw [k2.2 TO ti];exact hTO,by rw [List.length_append,hl,ha,←List.length_append];exact hsz,fun h'' k3 k4=>?_⟩
   have both:∀c o,c≠q.it→c≠TO→s.heap.get? c=some o→h''.get? c=some o:=fun c o c1 c2 e=>by
    rw [k4.2 c c2]
    show h'.get? c=some o
    rw [k2.2 c c1]
    exact e
   have e3:(dx++b::arr).set dn.length x=(dx++[x])++arr:=by
    rw [←hl,List.set_append_right _ _ (Nat.le_refl _),Nat.sub_self]
    simp
   rw [e3] at k3
   have ea:dn++q::ss=(dn++[q])++ss:=by simp
   have el:dn.length+1=(dn++[q]).length:=by simp
   show wpAny _ _ (forIn ((ss.map fun q=>Value.ref q.it).zipIdx (dn.length+1)) (none,()) f) R E _
   rw [el]
   obtain ⟨p,hp,hn⟩:=hq
   have hp':p∈ss:=by
    rcases List.mem_cons.mp hp with rfl|h
    ·rw [hx] at hn;cases hn
    ·exact h
   refine ih (dn:=dn++[q]) (dx:=dx++[x]) (arr:=arr) (by rw [←ea];exact ap) (by rw [←ea];exact hsz) ⟨p,hp',hn⟩ (by simp [hl]) (by simpa using ha) (both z _ zi zt hz) k3 (fun p hp=>?_) fun h3 e j1 j2=>hE h3 e (fun c o hc e=>?_) j2
   ·exact (h2 p (by simp [hp])).keep (fun o e=>both _ o (oth p hp) (tot p (by simp [hp])) e) fun o e=>both _ o (apa p (by simp [hp])).1 (apa p (by simp [hp])).2 e
   ·rw [ea] at hc
    refine j1 c o hc (both c o (fun z=>hc ?_) (fun z=>hc ?_) e)
    ·rw [z];simp
    ·rw [z];simp
theorem DP {s:Shared} {xs:List Value} {k:Nat} {x:Value} {Q:Unit→Shared→Prop} (hT:s.heap.get? TO=some (dy xs)) (hs:xs.length≤sizeLine) (h:∀h',h'.get? TO=some (dy (xs.set k x))→Heap.SameBut TO s.heap h'→Q () { s with heap:=h' }) :
  wpAny (model prog w) A (updateSeq TO fun v=>v.setIfInBounds k x) Q E s:=by
 refine wpAny_updateSeq hT rfl (h _ ?_ (Heap.SameBut.update _ _ _)) (by simpa using hs) (by simp;omega)
 rw [Heap.get?_update_self _ hT rfl]
 simp [Obj.mapSeq]
theorem yi {s:Shared} {T:Addr} {Q:Unit→Shared→Prop} (hz:IsZip s.heap z TI TO .ellipsis) (h:∀h',IsZip h' z TI TO (rawInt T)→Heap.SameBut z s.heap h'→Q () { s with heap:=h' }):wpAny (model prog w) A (Builtin.SmallTypes.ownedTupleHandOut (.ref z) (.ref T)) Q E s:=by
 refine wpAny_bind (wpAny_setField_rec hz (Nat.zero_lt_succ _) fun h1 k1 k2=>?_)
 have k1:IsZip h1 z TI TO (rawInt T):=k1
 refine wpAny_setField_rec k1 (Nat.succ_lt_succ (Nat.zero_lt_succ _)) fun h2 k3 k4=>?_
 exact h h2 k3 ⟨k4.1.trans k2.1,fun c hc=>(k4.2 c hc).trans (k2.2 c hc)⟩
theorem rP {s:Shared} {ss:List Zs} {arr:List Value} {Q:Fin→Shared→Prop} (hz:IsZip s.heap z TI TO .none) (hTI:s.heap.get? TI=some (dy (ss.map fun q=>Value.ref q.it))) (hTO:s.heap.get? TO=some (dy arr)) (hne:ss≠[])
  (h:∀f h',Bj prog w A z TI TO f→IsZip h' z TI TO .ellipsis→Heap.SameBut z s.heap h'→wpAny (model prog w) A (forIn ((ss.map fun q=>Value.ref q.it).zipIdx 0) (none,()) f) (fun r s1=>r.1=none∧IsZip s1.heap z TI TO .ellipsis∧∃xs,s1.heap.get? TO=some (dy xs)∧xs.length≤sizeLine ∧
   ∀h2,IsZip h2 z TI TO (rawInt s1.heap.objs.size)→h2.get? s1.heap.objs.size=some (dy xs)→h2.objs.size=s1.heap.objs.size+1→(∀c o,c≠z→s1.heap.get? c=some o→h2.get? c=some o)→Q (.done (.ret (.ref s1.heap.objs.size))) { s1 with heap:=h2 }) E { s with heap:=h' }) :
  wpAny (model prog w) A (Builtin.«zip.__next__» ⟨[.ref z],[]⟩) Q E s:=by
 have hemp:(ss.map fun q=>Value.ref q.it).toArray.isEmpty=false:=by
  cases ss with
  | nil=>exact absurd rfl hne
  | cons a b=>rfl
 refine wpAny_bind (wpAny_pure ?_)
 refine wpAny_bind (wpAny_field (i:=2) hz rfl rfl ?_)
 refine wpAny_bind (wpAny_field (i:=3) hz rfl rfl ?_)
 refine wpAny_bind (wpAny_seqItems hTI rfl ?_)
 dsimp only
 rw [hemp]
 simp only [Bool.false_eq_true,if_false]
 refine wpAny_bind (wpAny_bind (wpAny_field (i:=0) hz rfl rfl (wpAny_pure ?_)))
 rw [if_pos rfl]
 refine wpAny_bind (wpAny_rule ?_)
 refine wpAny_bind (wpAny_field (i:=4) hz rfl rfl ?_)
 refine wpAny_bind (wpAny_setField_rec hz (Nat.zero_lt_succ _) fun h1 k1 k2=>?_)
 refine wpAny_bind (wpAny_mono (h _ h1 ?_ k1 k2) (fun r s1 hr=>?_) fun _ _ e=>e)
 ·intro it k s2 R E2 hw
  refine wpAny_bind (wpAny_onRaise ?_)
  refine wpAny_bind (m:=Builtin.SmallTypes.nextOf (.ref it)) (wpAny_mono hw (fun x s3 hx=>?_) fun e s3 he=>?_)
  ·obtain ⟨arr,e1,e0,e2⟩:=hx
   refine wpAny_pure ?_
   refine wpAny_bind (wpAny_seqItems e1 rfl ?_)
   refine wpAny_bind (DP e1 e0 fun h' q1 q2=>?_)
   exact wpAny_bind (wpAny_letGo (wpAny_pure (e2 h' q1 q2)))
  ·exact wpAny_setField_rec he.1 (Nat.zero_lt_succ _) fun h' q1 q2=>he.2 h' q1 q2
 ·obtain ⟨hn,z1,xs,t1,lx,q⟩:=hr
  rw [hn]
  refine wpAny_bind (wpAny_seqItems t1 rfl ?_)
  refine wpAny_bind (wpAny_newTuple ?_ lx)
  have z2:IsZip (s1.heap.push (dy xs)) z TI TO .ellipsis:=Heap.get?_push_of_some _ z1
  refine wpAny_bind (yi (s:={ s1 with heap:=s1.heap.push (dy xs) }) z2 fun h' q1 q2=>wpAny_pure ?_)
  have nz:s1.heap.objs.size≠z:=fun e=>absurd (Heap.lt_size z1) (by rw [←e];exact Nat.lt_irrefl _)
  refine q h' q1 (by rw [q2.2 _ nz];exact Heap.get?_push_size _ rfl) (q2.1.trans (Heap.size_push _ _)) fun c o hc e=>?_
  rw [q2.2 c hc]
  exact Heap.get?_push_of_some _ e
noncomputable def ZSt (z TI TO:Addr) (its:List Addr) (h:Heap):Prop:=IsZip h z TI TO .none∧h.get? TI=some (dy (its.map Value.ref))∧∃arr,arr.length=its.length∧h.get? TO=some (dy arr)
theorem yO {ss:List Zs}:(ss.map fun q=>Value.ref q.it)=(ss.map Zs.it).map Value.ref:=by rw [List.map_map];rfl
theorem zo {s:Shared} {ss:List Zs} {xs:List Value} {Q:Option Value→Shared→Prop} (ap:ZA z TI TO ss) (hne:ss≠[]) (hs:ss.length≤sizeLine) (hz:ZSt z TI TO (ss.map Zs.it) s.heap) (h1:∀q∈ss,SrcAt s.heap q i) (hp:Paired (fun (q:Zs) (x:Value)=>q.xs[i]?=some x) ss xs)
  (hQ:∀h' T,s.heap.objs.size≤T→IsZip h' z TI TO (rawInt T)→h'.get? TI=some (dy ((ss.map Zs.it).map Value.ref))→h'.get? TO=some (dy xs)→(∀q∈ss,SrcAt h' q (i+1))→h'.get? T=some (dy xs)→T ∉ z::TI::TO::ss.map Zs.it→(∀c o,c ∉ z::TI::TO::ss.map Zs.it→s.heap.get? c=some o→h'.get? c=some o)→Q (some (.ref T)) { s with heap:=h' }) :
  wpAny (model prog w) A (pyNext (.ref z)) Q E s:=by
 obtain ⟨z1,t1,arr,la,t2⟩:=hz
 have hT:s.TypeIs (.ref z) "zip":=⟨_,z1,rfl⟩
 have nd:=ap.nd
 have TIz:TI≠z:=fun e=>(List.nodup_cons.mp nd).1 (by simp [e])
 have TOz:TO≠z:=fun e=>(List.nodup_cons.mp nd).1 (by simp [e])
 have itz:∀q∈ss,q.it≠z:=fun q hq e=>(List.nodup_cons.mp nd).1 (by rw [←e];simp;exact .inr (.inr ⟨q,hq,rfl⟩))
 have az:∀q∈ss,q.a≠z:=fun q hq e=>ap.ap q hq (by rw [e];simp)
 have TIn:=(List.nodup_cons.mp (List.nodup_cons.mp nd).2).1
 refine wpAny_bind (wpAny_attempt (wpAny_callSpecial?_slot hT F.slot_zip_next (wpAny_call_entry F.slot_zip_next hT F.entry_zip_next ?_ (F.args_zip_next_1 _))))
 refine rP (arr:=arr) z1 (by rw [yO];exact t1) t2 hne fun f h1' hf k1 k2=>?_
 have src:∀q∈ss,SrcAt h1' q i:=fun q hq=>(h1 q hq).keep (fun o e=>by rw [k2.2 _ (itz q hq)];exact e) fun o e=>by rw [k2.2 _ (az q hq)];exact e
 have lp:=hp.length
 refine Cs (dn:=[]) (dx:=[]) (s:={ s with heap:=h1' }) hf ap hs hp rfl (by rw [la,List.length_map]) k1 (by rw [k2.2 _ TOz];exact t2) (fun q hq=>nomatch hq) src fun h2 j1 j2 j3 j4 j5=>?_
 refine ⟨rfl,j1,xs,j2,by rw [←lp];exact hs,fun h3 m1 m2 m3 m4=>⟨_,rfl,wpAny_pure ?_⟩⟩
 have big:∀c o,s.heap.get? c=some o→c≠h2.objs.size:=fun c o e z=>by
  have:=Heap.lt_size e
  rw [z,j4,k2.1] at this
  exact absurd this (Nat.lt_irrefl _)
 have all:∀c o,c ∉ z::TI::TO::ss.map Zs.it→s.heap.get? c=some o→h3.get? c=some o:=fun c o hc e=>by
  refine m4 c o (fun z=>hc (by rw [z];simp)) (j5 c o (fun z=>hc ?_) ?_)
  ·rcases List.mem_cons.mp z with z|z
   ·rw [z];simp
   ·exact List.mem_cons_of_mem _ (List.mem_cons_of_mem _ (List.mem_cons_of_mem _ z))
  ·show h1'.get? c=some o
   rw [k2.2 c (fun z=>hc (by rw [z];simp))]
   exact e
 refine hQ h3 _ (by rw [j4,k2.1];exact Nat.le_refl _) m1 ?_ (m4 _ _ TOz j2) (fun q hq=>(j3 q hq).keep (fun o e=>m4 _ o (itz q hq) e) fun o e=>m4 _ o (az q hq) e) m2 (fun hm=>?_) all
 ·refine m4 _ _ TIz (j5 _ _ (fun z=>TIn ?_) ?_)
  ·exact z
  ·show h1'.get? TI=_
   rw [k2.2 _ TIz]
   exact t1
 ·simp only [List.mem_cons] at hm
  rcases hm with e|e|e|e
  ·exact big z _ z1 e.symm
  ·exact big TI _ t1 e.symm
  ·exact big TO _ t2 e.symm
  ·obtain ⟨q,hq,e⟩:=List.mem_map.mp e
   obtain ⟨o,_,eo,_⟩:=(h1 q hq).obj
   exact big _ _ eo e
theorem x_ {s:Shared} {ss:List Zs} {Q:Option Value→Shared→Prop} (hh:A.handled=none) (ap:ZA z TI TO ss) (hs:ss.length≤sizeLine) (hz:ZSt z TI TO (ss.map Zs.it) s.heap) (h1:∀q∈ss,SrcAt s.heap q i) (hn:∃q∈ss,q.xs[i]?=none)
  (hQ:∀h',(∀c o,c ∉ z::TI::TO::ss.map Zs.it→s.heap.get? c=some o→h'.get? c=some o)→Q none { s with heap:=h' }):wpAny (model prog w) A (pyNext (.ref z)) Q E s:=by
 obtain ⟨z1,t1,arr,la,t2⟩:=hz
 have hT:s.TypeIs (.ref z) "zip":=⟨_,z1,rfl⟩
 have nd:=ap.nd
 have TOz:TO≠z:=fun e=>(List.nodup_cons.mp nd).1 (by simp [e])
 have itz:∀q∈ss,q.it≠z:=fun q hq e=>(List.nodup_cons.mp nd).1 (by rw [←e];simp;exact .inr (.inr ⟨q,hq,rfl⟩))
 have az:∀q∈ss,q.a≠z:=fun q hq e=>ap.ap q hq (by rw [e];simp)
 have hne:ss≠[]:=fun e=>by obtain ⟨q,hq,_⟩:=hn;rw [e] at hq;cases hq
 refine wpAny_bind (wpAny_attempt (wpAny_callSpecial?_slot hT F.slot_zip_next (wpAny_call_entry F.slot_zip_next hT F.entry_zip_next ?_ (F.args_zip_next_1 _))))
 refine rP (arr:=arr) z1 (by rw [yO];exact t1) t2 hne fun f h1' hf k1 k2=>?_
 have src:∀q∈ss,SrcAt h1' q i:=fun q hq=>(h1 q hq).keep (fun o e=>by rw [k2.2 _ (itz q hq)];exact e) fun o e=>by rw [k2.2 _ (az q hq)];exact e
 refine Ap (A:=A.in1) (dn:=[]) (dx:=[]) (s:={ s with heap:=h1' }) hf hh ap hs hn rfl (by rw [la,List.length_map]) k1 (by rw [k2.2 _ TOz];exact t2) src fun h2 e j1 j2=>?_
 refine wpAny_bind (wpAny_isInstance (T:="StopIteration") (b:=true) j2 isSubtype_stop (wpAny_pure (hQ h2 fun c o hc e=>?_)))
 refine j1 c o (fun z=>hc ?_) ?_
 ·rcases List.mem_cons.mp z with z|z
  ·rw [z];simp
  ·rcases List.mem_cons.mp z with z|z
   ·rw [z];simp
   ·exact List.mem_cons_of_mem _ (List.mem_cons_of_mem _ (List.mem_cons_of_mem _ z))
 ·show h1'.get? c=some o
  rw [k2.2 c (fun z=>hc (by rw [z];simp))]
  exact e
end
noncomputable def SqB (K:W.Frag) (H:Hp) (c:Bool × Addr) (xs:List V):Prop:=if c.1=true then SqL K H c.2 xs else SqT K H c.2 xs
noncomputable def Itn (K:W.Frag) (cs:List (Bool × Addr)):L2.It :=
 ⟨fun i H=>∃xss ys,Paired (SqB K H) cs xss∧Paired (fun (xs:List V) (y:V)=>xs[i]?=some y) xss ys,
  fun i H v H'=>∃T,v=.ref T∧H T=none∧∀xss ys,Paired (SqB K H) cs xss→Paired (fun (xs:List V) (y:V)=>xs[i]?=some y) xss ys→H'=upd H T (.tup ys),
  fun i H=>∃xss,Paired (SqB K H) cs xss∧∃xs∈xss,xs.length=i⟩
theorem q9 {α β:Type} {F:α→β→Prop}:∀ {l:List α} {r:List β} {a:α},Paired F l r→a∈l→∃b∈r,F a b
 | _,_,_,.nil,h=>nomatch h
 | _,_,_,.cons f t,h=>by
  rcases List.mem_cons.mp h with rfl|h
  ·exact ⟨_,by simp,f⟩
  ·obtain ⟨b,h1,h2⟩:=q9 t h
   exact ⟨b,by simp [h1],h2⟩
theorem uQ {X:Cx} {pins:List (Addr × Obj)} {σ:L2.St} {H:Hp} {s:Shared} {i:Nat} (I:L2.Inv X pins σ H s):∀ {its:List Addr} {cs:List (Bool × Addr)} {xss:List (List V)},Paired (fun it c=>ItB s.heap it c i) its cs→Paired (SqB X.K H) cs xss →
  ∃ss:List Zs,ss.map Zs.it=its∧ss.map Zs.c=cs∧(∀q∈ss,SrcAt s.heap q i)∧Paired (fun (q:Zs) (xs:List V)=>Vals xs q.xs.toList) ss xss
 | _,_,_,.nil,.nil=>⟨[],rfl,rfl,fun q hq=>(nomatch hq),.nil⟩
 | _,_,_,.cons (a:=it) (b:=c) h1 t1,.cons (b:=xs) h2 t2=>by
  obtain ⟨ss,e1,e2,e3,e4⟩:=uQ I t1 t2
  obtain ⟨b,a⟩:=c
  cases b with
  | true =>
   obtain ⟨its1,rv1,p1,hz1⟩:=I.list (show SqL X.K H a xs from h2)
   refine ⟨⟨it,(true,a),its1.toArray⟩::ss,by rw [List.map_cons,e1],by rw [List.map_cons,e2],fun q hq=>?_,.cons (by simpa using rv1) e4⟩
   rcases List.mem_cons.mp hq with rfl|hq
   ·exact ⟨h1,p1.isList⟩
   ·exact e3 q hq
  | false =>
   obtain ⟨its1,rv1,p1,hz1⟩:=I.tuple (show SqT X.K H a xs from h2)
   refine ⟨⟨it,(false,a),its1.toArray⟩::ss,by rw [List.map_cons,e1],by rw [List.map_cons,e2],fun q hq=>?_,.cons (by simpa using rv1) e4⟩
   rcases List.mem_cons.mp hq with rfl|hq
   ·exact ⟨h1,p1⟩
   ·exact e3 q hq
theorem sy {i:Nat}:∀ {ss:List Zs} {xss:List (List V)} {ys:List V},Paired (fun (q:Zs) (xs:List V)=>Vals xs q.xs.toList) ss xss→Paired (fun (xs:List V) (y:V)=>xs[i]?=some y) xss ys→∃us,Paired (fun (q:Zs) (x:Value)=>q.xs[i]?=some x) ss us∧Vals ys us
 | _,_,_,.nil,.nil=>⟨[],.nil,.nil⟩
 | _,_,_,.cons h1 t1,.cons h2 t2=>by
  obtain ⟨us,e1,e2⟩:=sy t1 t2
  obtain ⟨u,e3,e4⟩:=h1.get h2
  exact ⟨u::us,.cons (by simpa using e3) e1,.cons e4 e2⟩
theorem SqB.inj {X:Cx} {pins:List (Addr × Obj)} {σ:L2.St} {H:Hp} {s:Shared} (I:L2.Inv X pins σ H s):∀ {cs:List (Bool × Addr)} {xss yss:List (List V)},Paired (SqB X.K H) cs xss→Paired (SqB X.K H) cs yss→xss=yss
 | _,_,_,.nil,.nil=>rfl
 | _,_,_,.cons (a:=c) h1 t1,.cons h2 t2=>by
  rw [SqB.inj I t1 t2]
  obtain ⟨b,a⟩:=c
  cases b with
  | true=>rw [I.list_inj (show SqL X.K H a _ from h1) h2]
  | false=>rw [I.tuple_inj (show SqT X.K H a _ from h1) h2]
theorem Be {i:Nat}:∀ {xss:List (List V)} {ys zs:List V},Paired (fun (xs:List V) (y:V)=>xs[i]?=some y) xss ys→Paired (fun (xs:List V) (y:V)=>xs[i]?=some y) xss zs→ys=zs
 | _,_,_,.nil,.nil=>rfl
 | _,_,_,.cons h1 t1,.cons h2 t2=>by rw [Be t1 t2];rw [h1] at h2;cases h2;rfl
theorem wL {P:Program} {w:World} {K:W.Frag} {elts:List Expr} {kt:Nat} {pt:Pos} {z TI TO:Addr} {its:List Addr} {cs:List (Bool × Addr)} (nd:(z::TI::TO::its).Nodup) (ap:∀c∈cs,c.2 ∉ z::TI::TO::its) (hne:its≠[]) (hs:its.length≤100) :
  sR P w K (.Tuple elts kt pt) (Itn K cs) (z::TI::TO::its) z (fun i h=>ZSt z TI TO its h∧Paired (fun it c=>ItB h it c i) its cs) where
 mem:=by simp
 obj:=fun i h st c hc=>by
  obtain ⟨⟨h1,h2,arr,la,h3⟩,h4⟩:=st
  simp only [List.mem_cons] at hc
  rcases hc with rfl|rfl|rfl|hc
  ·exact ⟨_,h1,fun v z=>nomatch z⟩
  ·exact ⟨_,h2,fun v z=>nomatch z⟩
  ·exact ⟨_,h3,fun v z=>nomatch z⟩
  ·obtain ⟨d,_,e⟩:=q9 h4 hc
   obtain ⟨o,vs,e1,e2⟩:=e.obj
   exact ⟨o,e1,fun v z=>by rw [e2] at z;cases z⟩
 keep:=fun i h h' st k=>by
  obtain ⟨⟨h1,h2,arr,la,h3⟩,h4⟩:=st
  refine ⟨⟨k z (by simp) _ h1,k TI (by simp) _ h2,arr,la,k TO (by simp) _ h3⟩,?_⟩
  have:∀ {l:List Addr} {r:List (Bool × Addr)},(∀x∈l,x∈its)→Paired (fun it c=>ItB h it c i) l r→Paired (fun it c=>ItB h' it c i) l r:=by
   intro l r hl hp
   induction hp with
   | nil=>exact .nil
   | cons f t ih=>exact .cons (f.keep fun o e=>k _ (by simp [hl _ List.mem_cons_self]) o e) (ih fun x hx=>hl x (List.mem_cons_of_mem _ hx))
  exact this (fun x hx=>hx) h4
 item:=by
  intro X hP hw hK hc i pins s σ H E I hf st hg
  subst hP hw hK
  obtain ⟨xss,ys,g1,g2⟩:=hg
  obtain ⟨hz,h4⟩:=st
  obtain ⟨ss,e1,e2,e3,e4⟩:=uQ I h4 g1
  obtain ⟨us,f1,f2⟩:=sy e4 g2
  have za:ZA z TI TO ss:=⟨by rw [e1];exact nd,fun q hq=>by
   rw [e1]
   exact ap q.c (by rw [←e2];exact List.mem_map.mpr ⟨q,hq,rfl⟩)⟩
  have ssl:ss.length=its.length:=by rw [←e1,List.length_map]
  have line:(100:Nat)≤sizeLine:=by decide
  refine zo (i:=i) (ss:=ss) (xs:=us) za (fun e=>hne (by rw [←e1,e];rfl)) (by rw [ssl];exact Nat.le_trans hs line) (by rw [e1];exact hz) e3 f1 fun h' T lT z1 t1 t2 s1 tT nT kk=>?_
  rw [e1] at t1 nT kk
  refine ⟨_,rfl,wpAny_letOwnedTupleGo_zip (s:={ s with heap:=h' }) z1 fun h'' z2 sb=>?_⟩
  have nz:∀ {c:Addr},c∈TI::TO::its→c≠z:=fun hc e=>(List.nodup_cons.mp nd).1 (by rw [←e];exact hc)
  have Tz:T≠z:=fun e=>nT (by rw [e];simp)
  have yl:ys.length≤100:=by rw [←g2.length,←g1.length,←h4.length];exact hs
  have I2:L2.Inv X pins σ (upd H T (.tup ys)) { s with heap:=h'' }:=v7 (t':=s.toks) (its:=us) (wr:=z::TI::TO::its) I (fun b o hb e=>by
   rw [sb.2 b (fun q=>hb (by rw [q];simp))]
   exact kk b o hb e) (fun b hb=>hf b hb) lT f2 (Nat.le_trans yl line) ⟨_,by rw [sb.2 T Tz];exact tT,rfl,0,rfl⟩
  refine ⟨.ref T,_,I2,rfl,⟨T,rfl,I.hok.fresh lT,fun xss' ys' k1 k2=>?_⟩,⟨⟨z2,by rw [sb.2 TI (nz (by simp))];exact t1,us,?_,by rw [sb.2 TO (nz (by simp))];exact t2⟩,?_⟩,fun b hb=>?_⟩
  ·have:=SqB.inj I k1 g1
   subst this
   rw [Be k2 g2]
  ·rw [←f1.length];exact ssl
  ·have go:∀ {l:List Zs},(∀q∈l,SrcAt h' q (i+1))→(∀q∈l,q.it≠z)→Paired (fun it c=>ItB h'' it c (i+1)) (l.map Zs.it) (l.map Zs.c):=by
    intro l
    induction l with
    | nil=>intro _ _;exact .nil
    | cons q l ih =>
     intro k1 k2
     exact .cons ((k1 q List.mem_cons_self).1.keep fun o e=>by rw [sb.2 _ (k2 q List.mem_cons_self)];exact e) (ih (fun p hp=>k1 p (List.mem_cons_of_mem _ hp)) fun p hp=>k2 p (List.mem_cons_of_mem _ hp))
   have:=go s1 fun q hq=>nz (List.mem_cons_of_mem _ (List.mem_cons_of_mem _ (by rw [←e1];exact List.mem_map.mpr ⟨q,hq,rfl⟩)))
   rw [e1,e2] at this
   exact this
  ·have hlt:b<s.heap.objs.size:=by
    obtain ⟨h1,h2,arr,la,h3⟩:=hz
    simp only [List.mem_cons] at hb
    rcases hb with rfl|rfl|rfl|hb
    ·exact Heap.lt_size h1
    ·exact Heap.lt_size h2
    ·exact Heap.lt_size h3
    ·obtain ⟨d,_,e⟩:=q9 h4 hb
     obtain ⟨o,_,e,_⟩:=e.obj
     exact Heap.lt_size e
   rw [ac (Nat.ne_of_lt (Nat.lt_of_lt_of_le hlt lT))]
   exact (hf b hb).1
 done:=by
  intro X hP hw hK hc i pins s σ H E I hf st hg
  subst hP hw hK
  obtain ⟨xss,g1,xs,gx,gl⟩:=hg
  obtain ⟨hz,h4⟩:=st
  obtain ⟨ss,e1,e2,e3,e4⟩:=uQ I h4 g1
  have za:ZA z TI TO ss:=⟨by rw [e1];exact nd,fun q hq=>by
   rw [e1]
   exact ap q.c (by rw [←e2];exact List.mem_map.mpr ⟨q,hq,rfl⟩)⟩
  have ssl:ss.length=its.length:=by rw [←e1,List.length_map]
  have line:(100:Nat)≤sizeLine:=by decide
  have hn:∃q∈ss,q.xs[i]?=none:=by
   have:∀ {l:List Zs} {r:List (List V)},Paired (fun (q:Zs) (xs:List V)=>Vals xs q.xs.toList) l r→xs∈r→∃q∈l,q.xs[i]?=none:=by
    intro l r hp hx
    induction hp with
    | nil=>cases hx
    | @cons q ys l r f t ih =>
     rcases List.mem_cons.mp hx with rfl|hx
     ·refine ⟨q,List.mem_cons_self,?_⟩
      have:=f.length
      exact Array.getElem?_eq_none (by rw [←gl,this];simp)
     ·obtain ⟨p,h1,h2⟩:=ih hx
      exact ⟨p,List.mem_cons_of_mem _ h1,h2⟩
   exact this e4 gx
  refine x_ (i:=i) (ss:=ss) (I.ok.hd hc) za (by rw [ssl];exact Nat.le_trans hs line) (by rw [e1];exact hz) e3 hn fun h' kk=>?_
  rw [e1] at kk
  exact ⟨rfl,BJ (t':=s.toks) I kk fun b hb=>hf b hb⟩
 self:=fun _ _ _ _ _ st h=>wpAny_pyIter_zip st.1.1 h
section
variable {prog:Program} {w:World} {A:Around} {E:Value→Shared→Prop}
theorem FX {R:Array Value→Shared→Prop}:∀ {cs:List (Bool × Addr)} {acc:Array Value} {s:Shared},(∀c∈cs,∃xs,SeqB s.heap c xs) →
  (∀h',h'.objs.size=s.heap.objs.size+cs.length→(∀b o,s.heap.get? b=some o→h'.get? b=some o)→Paired (fun it c=>ItB h' it c 0) (List.range' s.heap.objs.size cs.length) cs→R (acc++((List.range' s.heap.objs.size cs.length).map Value.ref).toArray) { s with heap:=h' }) →
  wpAny (model prog w) A (forIn (cs.map fun c=>Value.ref c.2) acc fun x r=>do
   let v ←holding r.toList (pyIter x)
   pure (ForInStep.yield (r.push v))) R E s:=by
 intro cs
 induction cs with
 | nil =>
  intro acc s _ hR
  exact wpAny_pure (by simpa using hR s.heap rfl (fun _ _ e=>e) .nil)
 | cons c cs ih =>
  intro acc s hs hR
  rw [List.map_cons,List.forIn_cons]
  obtain ⟨xs,hx⟩:=hs c List.mem_cons_self
  refine wpAny_bind (wpAny_bind (wpAny_holding (B7 hx fun o ho=>wpAny_pure ?_)))
  refine ih (acc:=acc.push (.ref s.heap.objs.size)) (s:={ s with heap:=s.heap.push o }) (fun d hd=>?_) fun h' k1 k2 k3=>?_
  ·obtain ⟨ys,hy⟩:=hs d (List.mem_cons_of_mem _ hd)
   exact ⟨ys,hy.keep fun o e=>Heap.get?_push_of_some _ e⟩
  ·have sz:(s.heap.push o).objs.size=s.heap.objs.size+1:=Heap.size_push _ _
   have k1:h'.objs.size=(s.heap.push o).objs.size+cs.length:=k1
   have k3:Paired (fun it c=>ItB h' it c 0) (List.range' (s.heap.push o).objs.size cs.length) cs:=k3
   rw [sz] at k1 k3
   have:=hR h' (by rw [k1,List.length_cons];omega) (fun b u e=>k2 b u (Heap.get?_push_of_some _ e)) (by
    rw [List.length_cons,List.range'_succ]
    exact .cons (ho.keep fun u e=>k2 _ u e) k3)
   rw [List.length_cons,List.range'_succ] at this
   show R (acc.push (Value.ref s.heap.objs.size)++((List.range' (s.heap.push o).objs.size cs.length).map Value.ref).toArray) _
   rw [sz]
   simpa using this
theorem uh (cs:List (Bool × Addr)) (hl:cs.length≤100):Meets (Builtin.«zip.__new__» ⟨.type "zip"::cs.map (fun c=>Value.ref c.2),[]⟩) fun _ R s=>(∀c∈cs,∃xs,SeqB s.heap c xs) ∧
  ∀h',ZSt (s.heap.objs.size+cs.length+2) (s.heap.objs.size+cs.length) (s.heap.objs.size+cs.length+1) (List.range' s.heap.objs.size cs.length) h'→Paired (fun it c=>ItB h' it c 0) (List.range' s.heap.objs.size cs.length) cs→(∀b o,s.heap.get? b=some o→h'.get? b=some o)→R (.ok (.ret (.ref (s.heap.objs.size+cs.length+2)))) { s with heap:=h' }:=by
 intro prog w A R s ⟨h1,h⟩
 have line:(100:Nat)≤sizeLine:=by decide
 refine wpAny_bind ?_
 refine wpAny_bind (wpAny_pure ?_)
 rw [sub_zip]
 refine wpAny_bind (wpAny_pure ?_)
 refine wpAny_pure ?_
 refine wpAny_bind (m:=Builtin.SmallTypes.iterAll (cs.map fun c=>Value.ref c.2)) ?_
 refine wpAny_bind (FX h1 fun h' k1 k2 k3=>wpAny_pure ?_)
 have e0:(#[]++((List.range' s.heap.objs.size cs.length).map Value.ref).toArray:Array Value).toList=(List.range' s.heap.objs.size cs.length).map Value.ref:=by simp
 rw [e0]
 have ln:((List.range' s.heap.objs.size cs.length).map Value.ref).length=cs.length:=by simp
 refine wpAny_bind (wpAny_newTuple ?_ (by rw [ln];exact Nat.le_trans hl line))
 refine wpAny_bind (wpAny_newTuple ?_ (by rw [List.length_map,ln];exact Nat.le_trans hl line))
 refine wpAny_bind (wpAny_newObj_type (T:="zip") (data:=.fields #[.none,.bool false,.bool false,.ref h'.objs.size,.ref (h'.push (dy ((List.range' s.heap.objs.size cs.length).map Value.ref))).objs.size]) ?_)
 have s1:(h'.push (dy ((List.range' s.heap.objs.size cs.length).map Value.ref))).objs.size=s.heap.objs.size+cs.length+1:=(Heap.size_push _ _).trans (by rw [k1])
 have s2:((h'.push (dy ((List.range' s.heap.objs.size cs.length).map Value.ref))).push (dy (((List.range' s.heap.objs.size cs.length).map Value.ref).map fun _=>Value.none))).objs.size=s.heap.objs.size+cs.length+2:=(Heap.size_push _ _).trans (by rw [s1])
 refine wpAny_pure ?_
 show R (.ok (.ret (.ref ((h'.push (dy ((List.range' s.heap.objs.size cs.length).map Value.ref))).push (dy (((List.range' s.heap.objs.size cs.length).map Value.ref).map fun _=>Value.none))).objs.size))) _
 rw [s2]
 refine h _ ⟨?_,?_,((List.range' s.heap.objs.size cs.length).map Value.ref).map fun _=>Value.none,by simp,?_⟩ ?_ fun b o e=>Heap.get?_push_of_some _ (Heap.get?_push_of_some _ (Heap.get?_push_of_some _ (k2 b o e)))
 ·rw [←s2]
  have g:=Heap.get?_push_size ((h'.push (dy ((List.range' s.heap.objs.size cs.length).map Value.ref))).push (dy (((List.range' s.heap.objs.size cs.length).map Value.ref).map fun _=>Value.none))) (o:={ cls:=.type "zip",data:=.fields #[.none,.bool false,.bool false,.ref h'.objs.size,.ref (h'.push (dy ((List.range' s.heap.objs.size cs.length).map Value.ref))).objs.size] }) rfl
  rw [k1,s1] at g
  rw [k1,s1]
  exact g
 ·rw [←k1]
  exact Heap.get?_push_of_some _ (Heap.get?_push_of_some _ (Heap.get?_push_size _ rfl))
 ·rw [←s1]
  exact Heap.get?_push_of_some _ (Heap.get?_push_size _ rfl)
 ·have:∀ {l:List Addr} {r:List (Bool × Addr)},Paired (fun it c=>ItB h' it c 0) l r→∀ {g:Heap},(∀b o,h'.get? b=some o→g.get? b=some o)→Paired (fun it c=>ItB g it c 0) l r:=by
   intro l r hp g hg
   induction hp with
   | nil=>exact .nil
   | cons f t ih=>exact .cons (f.keep fun o e=>hg _ o e) ih
  exact this k3 fun b o e=>Heap.get?_push_of_some _ (Heap.get?_push_of_some _ (Heap.get?_push_of_some _ e))
end
section
variable {prog:Program} {w:World} {A:Around} {E:Value→Shared→Prop} {s:Shared}
noncomputable def Ft (cs:List (Bool × Addr)) (Q:Value→Shared→Prop) (s:Shared):Prop:=∀h',ZSt (s.heap.objs.size+cs.length+2) (s.heap.objs.size+cs.length) (s.heap.objs.size+cs.length+1) (List.range' s.heap.objs.size cs.length) h'→Paired (fun it c=>ItB h' it c 0) (List.range' s.heap.objs.size cs.length) cs→(∀b o,s.heap.get? b=some o→h'.get? b=some o) →
 Q (.ref (s.heap.objs.size+cs.length+2)) { s with heap:=h' }
theorem xg {c1 c2:Bool × Addr} {Q:Value→Shared→Prop} (h1:∀c∈[c1,c2],∃xs,SeqB s.heap c xs) (h:Ft [c1,c2] Q s):wpAny (model prog w) A (call (.type "zip") [.ref c1.2,.ref c2.2]) Q E s:=by
 refine callType_new F.called_zip rfl (F.typeCall_zip_2 _ _) (F.newCall_zip_2 _ _) (fun obj=>?_) F.entry_zip_new (uh [c1,c2] (Nat.le_of_ble_eq_true rfl)) ⟨h1,fun h' k1 k2 k3=>⟨⟨_,k1.1,rfl⟩,h h' k1 k2 k3⟩⟩
 exact F.args_object_init_3 _ _ _
end
section
variable {X:Cx} {pins:List (Addr × Obj)} {σ:L2.St} {H:Hp} {s:Shared}
theorem SqB.seq {c:Bool × Addr} {xs:List V} (I:L2.Inv X pins σ H s) (h:SqB X.K H c xs):∃ys,SeqB s.heap c ys:=by
 obtain ⟨b,a⟩:=c
 cases b with
 | true=>obtain ⟨its,_,p,_⟩:=I.list (show SqL X.K H a xs from h);exact ⟨_,p.isList⟩
 | false=>obtain ⟨its,_,p,_⟩:=I.tuple (show SqT X.K H a xs from h);exact ⟨_,p⟩
theorem SeqB.lt {h:Heap} {c:Bool × Addr} {ys:Array Value} (z:SeqB h c ys):c.2<h.objs.size:=by
 obtain ⟨b,a⟩:=c
 cases b with
 | true=>obtain ⟨_,e,_⟩:=(show h.IsList a ys from z);exact Heap.lt_size e
 | false=>obtain ⟨_,e,_⟩:=(show h.IsTuple a ys from z);exact Heap.lt_size e
theorem Cd {N n b:Nat} (h:b∈(N+n+2)::(N+n)::(N+n+1)::List.range' N n):N≤b:=by
 simp only [List.mem_cons,List.mem_range'_1] at h
 omega
theorem Dh (N n:Nat):((N+n+2)::(N+n)::(N+n+1)::List.range' N n).Nodup:=by
 refine List.nodup_cons.mpr ⟨fun h=>?_,List.nodup_cons.mpr ⟨fun h=>?_,List.nodup_cons.mpr ⟨fun h=>?_,List.nodup_range'⟩⟩⟩ <;> (simp only [List.mem_cons,List.mem_range'_1] at h;omega)
theorem B1 {elts:List Expr} {kt:Nat} {pt:Pos} {cs:List (Bool × Addr)} {R:L2.It→Hp→Prop} (I:L2.Inv X pins σ H s) (hs:∀c∈cs,∃xs,SqB X.K H c xs) (hn:cs≠[]) (hl:cs.length≤100) (q:R (Itn X.K cs) H) :
  Ft cs (fun v s1=>wpAny (model X.prog X.w) X.A (pyIter v) (PIE X pins σ (.Tuple elts kt pt) R) X.xe s1) s:=by
 intro h' k1 k2 kk
 refine wpAny_pyIter_zip k1.1 ?_
 have nd:=Dh s.heap.objs.size cs.length
 have big:∀b,b∈(s.heap.objs.size+cs.length+2)::(s.heap.objs.size+cs.length)::(s.heap.objs.size+cs.length+1)::List.range' s.heap.objs.size cs.length→s.heap.objs.size≤b:=fun b hb=>Cd hb
 refine ⟨_,_,_,_,H,rfl,I.kept (t':=s.toks) kk,wL nd (fun c hc hm=>?_) (fun e=>hn ?_) (by simpa using hl),⟨k1,k2⟩,fun b hb=>I.fpOk (big b hb) (I.hok.fresh (big b hb)),q⟩
 ·obtain ⟨xs,hx⟩:=hs c hc
  obtain ⟨ys,hy⟩:=hx.seq I
  exact absurd (Nat.lt_of_lt_of_le hy.lt (big _ hm)) (Nat.lt_irrefl _)
 ·have:=congrArg List.length e
  simp at this
  exact this
end
section
variable {X:Cx}
noncomputable def FL (K:W.Frag) (ta:TA):TI:=fun σ H R=>ta σ H fun vs H1=>∃c d,vs=[.ref c.2,.ref d.2]∧(∀e∈[c,d],∃xs,SqB K H1 e xs)∧R (Itn K [c,d]) H1
theorem Df {elts:List Expr} {kt:Nat} {pt:Pos} {a b:Expr} {ta:TA} {p pos:Pos} (hg:Gl X "zip") (hm:X.mg "zip"=none) (ha:PA X [a,b] ta) (hs:starEach [a,b] X.env=[(false,eval a X.env),(false,eval b X.env)]) (hs2:starEach [b] X.env=[(false,eval b X.env)]) :
  PI X (.Tuple elts kt pt) (.Call (.Name "zip" p) [a,b] [] pos) (FL X.K ta):=by
 intro pins s σ H R I h
 refine Call_ (mV I hg hm boot_zip (PyProof.Rows.callWith_type1 (thn (ha pos pins s σ H _ I h) fun us s1 ⟨vs,H1,I1,r1,q1⟩=>?_) (by rw [hs,hs2]) (by rw [hs2];rfl)))
 obtain ⟨c,d,e,hq,q⟩:=q1
 subst e
 obtain ⟨u,v,rfl,ru,rv⟩:=rN r1
 cases ru
 cases rv
 exact xg (fun f hf=>let ⟨xs,hx⟩:=hq f hf;hx.seq I1) (B1 I1 hq (by simp) (by simp) q)
end
noncomputable def LB (K:W.Frag) (c:Bool × Addr) (xs:List PV) (chk:AH→Prop) (m0:List Addr) (H0:Hp):Prop:=∀m H st,Ext K m0 H0 m H→RH K m H st→chk st→∃ys,SqB K H c ys∧Rs K m H xs ys
theorem C6 {K:W.Frag} {m:List Addr} {H:Hp} {st:AH} {v:PV} {x:V} {xs:List PV} (rh:RH K m H st) (r:R K m H v x) (e:bo st v=some xs):∃c:Bool × Addr,x=.ref c.2∧LB K c xs (iI st v) m H∧∃ys,SqB K H c ys:=by
 cases v with
 | tup ys =>
  cases e
  rw [R_tup] at r
  obtain ⟨a,zs,rfl,g,r3⟩:=r
  exact ⟨(false,a),rfl,fun m' H' st' x r q=>⟨zs,x.tup _ _ g,r3.mono x⟩,zs,g⟩
 | rdl ys =>
  cases e
  rw [ff] at r
  obtain ⟨a,zs,rfl,g,r3⟩:=r
  exact ⟨(true,a),rfl,fun m' H' st' x r q=>⟨zs,(x.rdf _ _ g).sq,r3.mono x⟩,zs,g.sq⟩
 | ref n =>
  unfold bo br at e
  simp only at e
  split at e
  ·cases e
   rename_i q
   obtain ⟨a,zs,rfl,ea,g,r3⟩:=rh.lst q r
   refine ⟨(true,a),rfl,fun m' H' st' x r' q'=>?_,zs,SqL.of g⟩
   have q':st'[n]?=st[n]?:=q'
   rw [q] at q'
   obtain ⟨ys,h1,h2⟩:=r'.at_ n _ a q' (eD x.pre ea)
   exact ⟨ys,SqL.of h1,h2⟩
  ·cases e
 | _=>cases e
theorem Aw {K:W.Frag} {m0:List Addr} {H0:Hp} {a b:Bool × Addr} {xs ys:List PV} {c1 c2:AH→Prop} (h1:LB K a xs c1 m0 H0) (h2:LB K b ys c2 m0 H0):kU K (Itn K [a,b]) (gi xs ys) (fun st=>c1 st∧c2 st) m0 H0:=by
 refine ⟨fun m H st x r q=>?_,fun i v m H st x r q ev=>?_⟩
 ·obtain ⟨as,g1,r1⟩:=h1 m H st x r q.1
  obtain ⟨bs,g2,r2⟩:=h2 m H st x r q.2
  refine ⟨[as,bs],.cons g1 (.cons g2 .nil),?_⟩
  rw [sX,r1.len,r2.len]
  rcases Nat.le_total as.length bs.length with h|h
  ·exact ⟨as,by simp,(Nat.min_eq_left h).symm⟩
  ·exact ⟨bs,by simp,(Nat.min_eq_right h).symm⟩
 ·obtain ⟨as,g1,r1⟩:=h1 m H st x r q.1
  obtain ⟨bs,g2,r2⟩:=h2 m H st x r q.2
  obtain ⟨u,v',e1,e2,rfl⟩:=sZ ev
  obtain ⟨y1,f1,q1⟩:=r1.get e1
  obtain ⟨y2,f2,q2⟩:=r2.get e2
  refine ⟨⟨[as,bs],[y1,y2],.cons g1 (.cons g2 .nil),.cons f1 (.cons f2 .nil)⟩,?_⟩
  rintro z H' ⟨T,rfl,hT,hh⟩
  have:=hh _ _ (.cons g1 (.cons g2 .nil)) (.cons f1 (.cons f2 .nil))
  subst this
  refine ⟨Ext.newT r hT,r.newT hT,R_tup.mpr ⟨T,[y1,y2],rfl,SqT.of ao,?_⟩⟩
  rw [Rs_cons',Rs_cons',Rs_nil]
  exact ⟨q1.mono (Ext.newT r hT),q2.mono (Ext.newT r hT),rfl⟩
end FW
namespace FW
open L2 HX
noncomputable def Itc (z:Str):L2.It:=⟨fun i _=>i<z.cps.size,fun i H x H'=>H'=H∧∃c,z.cps[i]?=some c∧x=.str ⟨#[c]⟩,fun i _=>i=z.cps.size⟩
theorem mf {P:Program} {w:World} {K:W.Frag} {tg:Expr} {it:Addr} {z:Str} {t:Tok} {nm:String} (hW:∀A:Around,A.handled=none→Walks P w A it [it] [it] z.cps.size (SignAt z) (fun i h=>h.IsStrIter it nm z t i))
  (hn:["enumerate","zip","dict_itemiterator","dict_reverseitemiterator","odict_iterator","itertools.zip_longest","itertools.pairwise"].contains nm=false) (hS:∀(A:Around) (i:Nat) (s:Shared) (Q:Value→Shared→Prop) (E:Value→Shared→Prop),s.heap.IsStrIter it nm z t i→Q (.ref it) s→wpAny (model P w) A (pyIter (.ref it)) Q E s):sR P w K tg (Itc z) [it] it (fun i h=>h.IsStrIter it nm z t i) where
 mem:=by simp
 obj:=fun i h st b hb=>by
  have e:b=it:=by simpa using hb
  subst e
  obtain ⟨o,e,c,d⟩:=st
  exact ⟨o,e,fun v z=>by rw [d] at z;cases z⟩
 keep:=fun i h h' st k=>by
  obtain ⟨o,e,r⟩:=st
  exact ⟨o,k it (by simp) o e,r⟩
 item:=by
  intro X hP hw hK hc i pins s σ H E I hf st hg
  subst hP hw hK
  obtain ⟨f0,f1,f2,f3,f4,f5⟩:=hf it (by simp)
  refine (hW X.A (I.ok.hd hc)).item i s _ _ hg st fun v h' tk hv st' kk=>?_
  obtain ⟨c,u,ec,rfl⟩:=hv
  have I1:L2.Inv X pins σ H { s with heap:=h',toks:=tk }:=I.turned (fun b o hb e=>kk b o (by simpa using hb) e) f0 f1 f3 f4 f5
  obtain ⟨o,e,cc,d⟩:=id st'
  exact ⟨_,rfl,sL (s:={ s with heap:=h',toks:=tk }) e cc d hn ⟨.str ⟨#[c]⟩,H,I1,⟨u,rfl⟩,⟨rfl,c,ec,rfl⟩,st',fun b hb=>(hf b hb).1⟩⟩
 done:=by
  intro X hP hw hK hc i pins s σ H E I hf st hg
  subst hP hw hK
  have hg:i=z.cps.size:=hg
  subst hg
  obtain ⟨f0,f1,f2,f3,f4,f5⟩:=hf it (by simp)
  exact (hW X.A (I.ok.hd hc)).done s _ _ st fun h' tk kk=>⟨rfl,I.turned (fun b o hb e=>kk b o (by simpa using hb) e) f0 f1 f3 f4 f5⟩
 self:=hS
theorem vB {K:W.Frag} {m0:List Addr} {H0:Hp} {z:Str}:kU K (Itc z) (gJ z) (fun _=>True) m0 H0:=by
 refine ⟨fun m H st x r q=>by show (gJ z).length=z.cps.size;simp [gJ],fun i v m H st x r q ev=>?_⟩
 unfold gJ at ev
 rw [List.getElem?_map] at ev
 cases e:z.cps.toList[i]? with
 | none=>rw [e] at ev;cases ev
 | some c =>
  rw [e] at ev
  cases ev
  have e':z.cps[i]?=some c:=by simpa using e
  refine ⟨(Array.getElem?_eq_some_iff.mp e').1,?_⟩
  rintro y H' ⟨rfl,c',e2,rfl⟩
  rw [e'] at e2
  cases e2
  exact ⟨Ext.refl _ _ _,r,R_str.mpr rfl⟩
section
variable {X:Cx} {tg:Expr}
noncomputable def Eu (te:TE):TI:=fun σ H R=>te σ H fun x H1=>∃z,x=.str z∧R (Itc z) H1
theorem yD {e:Expr} {te:TE} (he:PE X e te):PI X tg e (Eu te):=by
 intro pins s σ H R I h
 refine thn (he pins s σ H _ I h) fun v s1 ⟨x,H1,I1,r1,q1⟩=>?_
 obtain ⟨z,e,q⟩:=q1
 subst e
 obtain ⟨t,rfl⟩:=r1
 have fin:∀b,b∈[s1.heap.objs.size]→iE X pins H1 b:=fun b hb=>by
  have e:b=s1.heap.objs.size:=by simpa using hb
  subst e
  exact I1.fpOk (Nat.le_refl _) (I1.hok.fresh (Nat.le_refl _))
 cases ha:z.cps.all (·< 128)
 ·exact wpAny_pyIter_wide ha ⟨_,_,_,_,H1,rfl,I1.kept (t':=s1.toks) fun b o e=>Heap.get?_push_of_some _ e,mf (nm:="str_iterator") (fun A hA=>Walks.strWide hA _ z t) (by decide) (fun _ _ _ _ _ st h=>wpAny_pyIter_striter_wide st h),⟨_,Heap.get?_push_size _ rfl,rfl,rfl⟩,fin,q⟩
 ·exact wpAny_pyIter_ascii ha ⟨_,_,_,_,H1,rfl,I1.kept (t':=s1.toks) fun b o e=>Heap.get?_push_of_some _ e,mf (nm:="str_ascii_iterator") (fun A hA=>Walks.strAscii hA _ z t) (by decide) (fun _ _ _ _ _ st h=>wpAny_pyIter_striter_ascii st h),⟨_,Heap.get?_push_size _ rfl,rfl,rfl⟩,fin,q⟩
end
section
variable {X:Cx}
end
end FW
namespace FW
open L2 HX
noncomputable def ii (env:Env):List (Str × NameKind)→List (Str × Addr)→List (Str × Addr)
 | [],cs=>cs
 | (x,k)::r,cs=>ii env r (if k == .free then (x,(env.cells.lookup x).getD 0)::cs else cs)
theorem m_ {scope:Scope} {env:Env} (h:∀y∈scope.names,y.2=.free→∃c,env.cells.lookup y.1=some c):closureFor scope env=pure (ii env scope.names []):=by
 have key:∀(names:List (Str × NameKind)) (cs:List (Str × Addr)),(∀y∈names,y.2=.free→∃c,env.cells.lookup y.1=some c) →
   (forIn names cs fun (x:Str × NameKind) (r:List (Str × Addr))=>(match x with
    | (name,kind)=>if (kind == NameKind.free)=true then (do let a ←cellOf env name;pure (ForInStep.yield ((name,a)::r)):Sem _) else pure (ForInStep.yield r)))=(pure (ii env names cs):Sem _):=by
  intro names
  induction names with
  | nil=>intro cs _;rfl
  | cons y r ih =>
   intro cs hy
   obtain ⟨x,k⟩:=y
   rw [List.forIn_cons]
   by_cases hk:k=.free
   ·subst hk
    obtain ⟨c,e⟩:=hy _ List.mem_cons_self rfl
    have ec:cellOf env x=pure c:=by
     unfold cellOf
     rw [e]
    simp only [beq_self_eq_true,if_true,ec]
    show (forIn r ((x,c)::cs) _:Sem _)=_
    rw [ih _ fun y h=>hy y (List.mem_cons_of_mem _ h)]
    simp [ii,e]
   ·have hb:(k == NameKind.free)=false:=by simpa using hk
    simp only [hb,Bool.false_eq_true,if_false]
    show (forIn r cs _:Sem _)=_
    rw [ih _ fun y h=>hy y (List.mem_cons_of_mem _ h)]
    simp [ii,hb]
 unfold closureFor
 have:=key scope.names [] h
 exact congrArg (fun z=>z >>= fun r=>pure r) this
theorem gE {env:Env}:∀ {names:List (Str × NameKind)} {cs:List (Str × Addr)} {x:Str} {c:Addr},(∀y∈names,y.2=.free→∃c,env.cells.lookup y.1=some c)→(∀x c,cs.lookup x=some c→env.cells.lookup x=some c) →
  (ii env names cs).lookup x=some c→env.cells.lookup x=some c
 | [],cs,x,c,_,h,e=>h x c e
 | (y,k)::r,cs,x,c,hn,h,e=>by
  unfold ii at e
  refine gE (fun z hz=>hn z (List.mem_cons_of_mem _ hz)) ?_ e
  intro z d ez
  by_cases hk:k=.free
  ·subst hk
   obtain ⟨c',ec⟩:=hn _ List.mem_cons_self rfl
   simp only [beq_self_eq_true,if_true,List.lookup_cons] at ez
   by_cases q:z=y
   ·subst q
    simp [ec] at ez
    rw [ec,ez]
   ·have:(z == y)=false:=by simpa using q
    rw [this] at ez
    exact h z d ez
  ·have hb:(k == NameKind.free)=false:=by simpa using hk
   rw [hb] at ez
   exact h z d ez
theorem oJ {env:Env}:∀ {names:List (Str × NameKind)} {cs:List (Str × Addr)} {x:Str},(∃c,cs.lookup x=some c)→∃c,(ii env names cs).lookup x=some c
 | [],cs,x,h=>h
 | (y,k)::r,cs,x,h=>by
  unfold ii
  refine oJ ?_
  by_cases hk:k=.free
  ·subst hk
   simp only [beq_self_eq_true,if_true,List.lookup_cons]
   by_cases q:x=y
   ·subst q;simp
   ·have:(x == y)=false:=by simpa using q
    rw [this];exact h
  ·have hb:(k == NameKind.free)=false:=by simpa using hk
   rw [hb];exact h
theorem nk {env:Env}:∀ {names:List (Str × NameKind)} {cs:List (Str × Addr)} {x:Str},(x,NameKind.free)∈names→∃c,(ii env names cs).lookup x=some c
 | [],cs,x,h=>nomatch h
 | (y,k)::r,cs,x,h=>by
  unfold ii
  rcases List.mem_cons.mp h with e|h
  ·cases e
   exact oJ (by simp)
  ·exact nk h
noncomputable def PTs (X:Cx) (xs:List Expr) (t:TT):Prop :=
 ∀(pins:List (Addr × Obj)) (s:Shared) (σ:L2.St) (H:Hp) (Q:Bool→Hp→Prop),L2.Inv X pins σ H s→t σ H Q →
  wpAny (model X.prog X.w) X.A (forIn xs true fun c r=>if r=true then do let ok ←isTrue c X.env (eval c X.env);pure (ForInStep.yield ok) else pure (ForInStep.yield r)) (TP X pins σ Q) X.xe s
theorem k_ {env:Env}:∀xs:List Expr,(forIn xs false fun c r=>if r=true then do let ok ←isTrue c env (eval c env);pure (ForInStep.yield ok) else pure (ForInStep.yield r):Sem Bool)=pure false
 | []=>rfl
 | x::xs=>by
  rw [List.forIn_cons]
  simp only [Bool.false_eq_true,if_false]
  exact k_ xs
theorem wo {X:Cx}:PTs X [] (fun σ H Q=>Q true H):=fun pins s σ H Q I h=>wpAny_pure ⟨H,I,h⟩
theorem sD {X:Cx} {x:Expr} {xs:List Expr} {t u:TT} (h1:PT X x t) (h2:PTs X xs u):PTs X (x::xs) (Fp t u):=by
 intro pins s σ H Q I h
 rw [List.forIn_cons]
 simp only [if_true]
 refine wpAny_bind (wpAny_bind (thn (h1 pins s σ H _ I h) fun b s1 ⟨H1,I1,q1⟩=>?_))
 refine wpAny_pure ?_
 cases b with
 | true =>
  rw [if_pos rfl] at q1
  exact h2 pins s1 σ H1 Q I1 q1
 | false =>
  rw [if_neg Bool.false_ne_true] at q1
  show wpAny _ _ (forIn xs false _) _ _ _
  rw [k_]
  exact wpAny_pure ⟨H1,I1,q1⟩
theorem pZ {prog:Program} {w:World} {A:Around} {R:Result→Shared→Prop} {s:Shared} {elt target iter:Expr} {ifs:List Expr} {scope:Scope} {pos:Pos} {it acc:Value} {env:Env} (I:Nat→Shared→Prop)
  (turn:∀n s,I n s→wpAny (model prog w) A (pyNext it) (fun r s₁=>match r with
   | none=>R (.ok .next) s₁
   | some v=>wpAny (model prog w) A (letOwnedTupleGo target it v) (fun _ s0=>wpAny (model prog w) A (assign target env v) (fun _ s₂ =>
     wpAny (model prog w) A (forIn ifs true fun c r=>if r=true then do let ok ←isTrue c env (eval c env);pure (ForInStep.yield ok) else pure (ForInStep.yield r)) (fun ok s₃ =>
      if ok=true then wpAny (model prog w) A (eval elt env) (fun x s₄ =>
       wpAny (model prog w) A (call (.builtin "list.append") [acc,x]) (fun _ s₅=>∃m,m<n∧I m s₅) (fun _ _=>False) s₄) (fun _ _=>False) s₃
      else ∃m,m<n∧I m s₃) (fun _ _=>False) s₂) (fun _ _=>False) s0) (fun _ _=>False) s₁) (fun _ _=>False) s)
  (n:Nat) (h:I n s):codeAny (model prog w) A (.compLoop (.ListComp elt [⟨target,iter,ifs,0⟩] scope pos) 0 it acc env) R s:=by
 refine codeAny_loop rfl I (fun n s hI=>?_) n h
 show wpAny _ A ((compTurn (.ListComp elt [⟨target,iter,ifs,0⟩] scope pos) 0 it acc env).onRaise (fun x=>do noteFrame x env;theTreesLotGoes x)) _ _ s
 refine wpAny_noted ?_
 rw [compTurn_list]
 refine wpAny_bind (wpAny_standAt (wpAny_bind (wpAny_mono (turn n s hI) (fun r s₁ h₁=>?_) fun _ _ h'=>h'.elim)))
 cases r with
 | none=>exact wpAny_pure h₁
 | some v =>
  refine wpAny_bind (wpAny_mono h₁ (fun _ s0 h₁=>?_) fun _ _ h'=>h'.elim)
  refine wpAny_bind (wpAny_mono h₁ (fun _ s₂ h₂=>wpAny_bind (wpAny_mono h₂ (fun ok s₃ h₃=>?_) fun _ _ h'=>h'.elim)) fun _ _ h'=>h'.elim)
  cases ok with
  | false=>exact wpAny_pure ⟨rfl,h₃⟩
  | true =>
   exact wpAny_bind (wpAny_bind (wpAny_mono h₃ (fun x s₄ h₄=>wpAny_bind (wpAny_mono h₄ (fun _ s₅ h₅=>wpAny_pure (wpAny_pure ⟨rfl,h₅⟩)) fun _ _ h'=>h'.elim)) fun _ _ h'=>h'.elim))
noncomputable def cxC (X:Cx) (N:List Str) (s2:Shared) (H2:Hp) (fp:List Addr) (scope:Scope) (C:Addr):Cx :=
 { X with N:=N,s₀:=s2,H₀:=H2,env:=compEnvC scope (ii X.env scope.names []) C X.env,outer:=X.stack,stack:=X.stack,ex:=fp,fn:=fun _=>false,pn:=[],xe:=fun _ _=>False }
structure CScope (X:Cx) (scope:Scope):Prop where
 kind:scope.kind=.function
 nocell:∀y∈scope.names,y.2≠.cell
 nms:∀y∈scope.names,y.2=.local→scope.names.lookup y.1=some .local
 free:∀y∈scope.names,y.2=.free→X.env.kindOf y.1=some .cell∨X.env.kindOf y.1=some .free
theorem lw {scope:Scope} {env:Env} {x:Str} {k:NameKind} (h:(relabel scope env).names.lookup x=some k) (hk:k=.cell∨k=.free) (nc:∀y∈scope.names,y.2≠.cell):(x,NameKind.free)∈scope.names:=by
 have hm:=PySem.mem_of_lookup h
 unfold relabel at hm
 obtain ⟨⟨n,k0⟩,hy,e⟩:=List.mem_map.mp hm
 simp only at e
 split at e
 ·rename_i hc
  cases e
  simp only [Bool.and_eq_true,beq_iff_eq] at hc
  have:k0=.free:=hc.1.1
  subst this
  exact hy
 ·cases e
  rcases hk with rfl|rfl
  ·exact absurd rfl (nc _ hy)
  ·exact hy
theorem jF {env:Env}:∀ {names:List (Str × NameKind)} {x:Str},names.lookup x=some .globalImplicit →
  (names.map fun (n,k)=>if (k == NameKind.free && env.scope.kind == .function && env.kindOf n == some .cell) then (n,NameKind.cell) else (n,k)).lookup x=some .globalImplicit
 | [],_,h=>by simp at h
 | (n,k)::r,x,h=>by
  have ih:=@jF env r x
  show List.lookup x ((if (k == NameKind.free && env.scope.kind == .function && env.kindOf n == some .cell)=true then (n,NameKind.cell) else (n,k))::_)=_
  cases hx:x == n with
  | true =>
   simp only [List.lookup_cons,hx] at h
   cases h
   simp [List.lookup_cons,hx]
  | false =>
   simp only [List.lookup_cons,hx] at h
   by_cases hc:(k == NameKind.free && env.scope.kind == .function && env.kindOf n == some .cell)=true
   ·rw [if_pos hc];simp only [List.lookup_cons,hx];exact ih h
   ·rw [if_neg hc];simp only [List.lookup_cons,hx];exact ih h
theorem eB {env:Env}:∀ {names:List (Str × NameKind)} {x:Str},names.lookup x=some .free →
  (names.map fun (n,k)=>if (k == NameKind.free && env.scope.kind == .function && env.kindOf n == some .cell) then (n,NameKind.cell) else (n,k)).lookup x=some .cell ∨
  (names.map fun (n,k)=>if (k == NameKind.free && env.scope.kind == .function && env.kindOf n == some .cell) then (n,NameKind.cell) else (n,k)).lookup x=some .free
 | [],_,h=>by simp at h
 | (n,k)::r,x,h=>by
  have ih:=@eB env r x
  show List.lookup x ((if (k == NameKind.free && env.scope.kind == .function && env.kindOf n == some .cell)=true then (n,NameKind.cell) else (n,k))::_)=_∨List.lookup x ((if (k == NameKind.free && env.scope.kind == .function && env.kindOf n == some .cell)=true then (n,NameKind.cell) else (n,k))::_)=_
  cases hx:x == n with
  | true =>
   simp only [List.lookup_cons,hx] at h
   cases h
   by_cases hc:(NameKind.free == NameKind.free && env.scope.kind == .function && env.kindOf n == some .cell)=true
   ·rw [if_pos hc];simp [List.lookup_cons,hx]
   ·rw [if_neg hc];simp [List.lookup_cons,hx]
  | false =>
   simp only [List.lookup_cons,hx] at h
   by_cases hc:(k == NameKind.free && env.scope.kind == .function && env.kindOf n == some .cell)=true
   ·rw [if_pos hc];simp only [List.lookup_cons,hx];exact ih h
   ·rw [if_neg hc];simp only [List.lookup_cons,hx];exact ih h
section
variable {X:Cx} {pins:List (Addr × Obj)} {σ:L2.St} {H2:Hp} {s2:Shared} {fp:List Addr} {scope:Scope} {C:Addr} {N:List Str}
theorem CScope.cells (S:CScope X scope) (I:L2.Inv X pins σ H2 s2):∀y∈scope.names,y.2=.free→∃c,X.env.cells.lookup y.1=some c:=fun y hy hf=>I.ok.has y.1 (S.free y hy hf)
theorem Er (S:CScope X scope) (I:L2.Inv X pins σ H2 s2) (f2:∀b∈fp,iE X pins H2 b) (fl:∀b∈fp,b<s2.heap.objs.size) (hC:s2.heap.objs.size≤C):(cxC X N s2 H2 fp scope C).Ok where
 mod:=I.ok.mod
 kind:=S.kind
 glob:=I.ok.glob
 blt:=I.ok.blt
 above:=hC
 inj:=fun x y c h1 h2=>I.ok.inj x y c (gE (S.cells I) (fun _ _ z=>by simp at z) h1) (gE (S.cells I) (fun _ _ z=>by simp at z) h2)
 has:=fun x hx=>by
  refine nk (x:=x) ?_
  rcases hx with h|h
  ·exact lw h (.inl rfl) S.nocell
  ·exact lw h (.inr rfl) S.nocell
 cab:=fun x c h=>by cases h
 hd:=I.ok.hd
 frames:=I.ok.frames
 stk:=.inl rfl
 exf:=fun b hb=>⟨Nat.ne_of_lt (Nat.lt_of_lt_of_le (fl b hb) hC),fun x c h=>(f2 b hb).2.2.2.2.1 x c (gE (S.cells I) (fun _ _ z=>by simp at z) h)⟩
 bs:=I.bs
 bsz:=Nat.le_trans I.ok.bsz I.sz
 noex:=fun b o e hb=>by
  rcases (f2 b hb).2.2.2.1 with z|z
  ·exact I.ok.noex b o e z
  ·have:=Heap.lt_size e
   exact absurd (Nat.lt_of_lt_of_le (Nat.lt_of_lt_of_le this I.ok.bsz) z) (Nat.lt_irrefl _)
 exfs:=fun b hb hf=>by
  rcases List.mem_cons.mp (I.stkSub b hf) with z|z
  ·exact (f2 b hb).2.1 z
  ·exact (f2 b hb).2.2.1 z
 funs:=I.stack
 frf:=I.stkFree
theorem rR {H3:Hp} {h1:Heap} {tk:Nat} {nt:List Str} {cn:List Str} {caps:List Nat} (S:CScope X scope) (I:L2.Inv X pins σ H2 s2) (f2:∀b∈fp,iE X pins H2 b) (fl:∀b∈fp,b<s2.heap.objs.size) (hC:s2.heap.objs.size≤C)
  (un:Un (frs X.stack) fp H2 H3 s2.heap h1) (hok:HOk X.prog X.w H3 h1) (ns:h1.Ns C (fun _=>none)) (hn:H3 C=none) (keep:∀b o,s2.heap.get? b=some o→h1.get? b=some o) (free:∀b o,s2.heap.get? b=some o→H2 b=none→H3 b=none)
  (hcn:cn=caps.filterMap (X.N[·]?)) (hcl:∀i∈caps,i<X.N.length) (hcf:∀x∈cn,scope.names.lookup x=some .free) (hce:∀x∈cn,X.env.kindOf x=some .cell∨X.env.kindOf x=some .free) :
  L2.Inv (cxC X (nt++cn) s2 H2 fp scope C) [] (nt.map (fun _=>none)++caps.map fun i=>(σ[i]?).join) H3 { s2 with heap:=h1,toks:=tk }:=by
 have cel:∀x c,(ii X.env scope.names []).lookup x=some c→X.env.cells.lookup x=some c:=fun x c h=>gE (S.cells I) (fun _ _ z=>by simp at z) h
 have lenc:cn.length=caps.length:=by
  rw [hcn]
  clear hcf hce hcn
  induction caps with
  | nil=>rfl
  | cons i r ih =>
   have:X.N[i]?=some (X.N[i]'(hcl i List.mem_cons_self)):=List.getElem?_eq_getElem (hcl i List.mem_cons_self)
   rw [List.filterMap_cons,this]
   simp only [List.length_cons]
   rw [ih fun j hj=>hcl j (List.mem_cons_of_mem _ hj)]
 have getc:∀(j i:Nat),caps[j]?=some i→∃x,cn[j]?=some x∧X.N[i]?=some x:=by
  rw [hcn]
  clear hcf hce hcn lenc
  induction caps with
  | nil=>intro j i h;simp at h
  | cons k r ih =>
   intro j i h
   have hk:X.N[k]?=some (X.N[k]'(hcl k List.mem_cons_self)):=List.getElem?_eq_getElem (hcl k List.mem_cons_self)
   rw [List.filterMap_cons,hk]
   cases j with
   | zero=>simp at h;subst h;exact ⟨_,rfl,hk⟩
   | succ j=>exact ih (fun j hj=>hcl j (List.mem_cons_of_mem _ hj)) j i (by simpa using h)
 refine ⟨Er S I f2 fl hC,rfl,I.bare,un,⟨_,ns,fun i x v e1 e2 e3=>?_⟩,fun x c e=>?_,hn,fun x c e=>?_,fun p hp=>absurd (show p∈([]:List (Addr × Obj)) from hp) (by simp),hok,?_⟩
 ·by_cases hi:i<nt.length
  ·rw [List.getElem?_append_left (by simpa using hi),List.getElem?_map] at e2
   cases q:nt[i]? with
   | none=>rw [q] at e2;cases e2
   | some z=>rw [q] at e2;cases e2
  ·rw [List.getElem?_append_right (by simpa using hi),List.length_map,List.getElem?_map] at e2
   have e1':(nt++cn)[i]?=some x:=e1
   rw [List.getElem?_append_right (by omega)] at e1'
   cases q:caps[i-nt.length]? with
   | none=>rw [q] at e2;cases e2
   | some j =>
    rw [q] at e2
    have e2':(σ[j]?).join=some v:=Option.some.inj e2
    obtain ⟨y,g1,g2⟩:=getc _ _ q
    rw [e1'] at g1
    cases g1
    have e4:σ[j]?=some (some v):=by
     cases z:σ[j]? with
     | none=>rw [z] at e2';cases e2'
     | some w=>rw [z] at e2';rw [show w=some v from e2']
    obtain ⟨m,hm,hl⟩:=I.loc
    have kx:=hce x (List.mem_of_getElem? e1')
    obtain ⟨u,ru,lk⟩:=hl j x v g2 e4 (.inr (by rcases kx with k|k;exact .inl k;exact .inr k))
    refine ⟨u,ru,.inr ⟨eB (hcf x (List.mem_of_getElem? e1')),?_⟩⟩
    rcases lk with ⟨k,_⟩|⟨_,c,ec,hc⟩
    ·rcases kx with k' | k' <;> rw [k] at k' <;> cases k'
    ·obtain ⟨c',ec'⟩:=nk (env:=X.env) (names:=scope.names) (cs:=[]) (x:=x) (PySem.mem_of_lookup (hcf x (List.mem_of_getElem? e1')))
     have:=cel x c' ec'
     rw [ec] at this
     cases this
     obtain ⟨o,ho,hd⟩:=hc
     exact ⟨c,ec',o,keep _ _ ho,hd⟩
 ·obtain ⟨v,o,ho,hd⟩:=I.cell x c (cel x c e)
  exact ⟨v,o,keep _ _ ho,hd⟩
 ·obtain ⟨v,o,ho,hd⟩:=I.cell x c (cel x c e)
  exact free c o ho (I.freeC x c (cel x c e))
 ·show (nt.map (fun _=>(none:Option V))++caps.map fun i=>(σ[i]?).join).length=(nt++cn).length
  simp [lenc]
end
end FW
namespace FW
open L2 HX
section
variable {Γ:Nat→FSp}
mutual
theorem kZ {n:Nat} (G:bb Γ):∀(t:Tg) {v:PV} {ρ:Fr} {st:AH} {Q:Fr→AH→Prop},t.low n=true→bF Γ t v ρ st Q→bF Γ t v ρ st fun ρ' st'=>Q ρ' st'∧∀i,n≤i→ρ'[i]?=ρ[i]?
 | .name i,v,ρ,st,Q,h,q=>by
  skip
  rw [Tg.low] at h
  have:=of_decide_eq_true h
  exact ⟨q,fun j hj=>List.getElem?_set_ne (by omega)⟩
 | .tup ts,v,ρ,st,Q,h,q=>by
  skip
  rw [Tg.low] at h
  obtain ⟨xs,e,hl,q⟩:=q
  exact ⟨xs,e,hl,nE G ts h q⟩
 | .ltup ts,v,ρ,st,Q,h,q=>False.elim q
 | .sub _ _,v,ρ,st,Q,h,q=>by rw [Tg.low] at h;cases h
theorem nE {n:Nat} (G:bb Γ):∀(t:Tgs) {v:List PV} {ρ:Fr} {st:AH} {Q:Fr→AH→Prop},t.low n=true→gu Γ t v ρ st Q→gu Γ t v ρ st fun ρ' st'=>Q ρ' st'∧∀i,n≤i→ρ'[i]?=ρ[i]?
 | .nil,v,ρ,st,Q,h,q=>by exact ⟨q.1,q.2,fun _ _=>rfl⟩
 | .cons t ts,v,ρ,st,Q,h,q=>by
  skip
  rw [Tgs.low,Bool.and_eq_true] at h
  obtain ⟨x,r,e,q⟩:=q
  refine ⟨x,r,e,aw G t (fun ρ1 st1 k=>?_) (kZ G t h.1 q)⟩
  refine ga G ts (fun ρ2 st2 k2=>⟨k2.1,fun i hi=>(k2.2 i hi).trans (k.2 i hi)⟩) (nE G ts h.2 k.1)
end
end
mutual
theorem R.mono0 {K:W.Frag} {m:List Addr} {H H':Hp} (ht:∀a ys,SqT K H a ys→SqT K H' a ys) (hr:∀a ys,RdF K H a ys→RdF K H' a ys):∀ {p:PV} {v:V},R K m H p v→R K m H' p v
 | .non,v,h=>by rw [R_non] at h ⊢;exact h
 | .bl b,v,h=>by rw [R_bl] at h ⊢;exact h
 | .int b,v,h=>by rw [R_int] at h ⊢;exact h
 | .str b,v,h=>by rw [R_str] at h ⊢;exact h
 | .ref n,v,h=>by rw [R_ref] at h ⊢;exact h
 | .tup xs,v,h=>by rw [R_tup] at h ⊢;obtain ⟨a,ys,e,q,r⟩:=h;exact ⟨a,ys,e,ht _ _ q,Rs.mono0 ht hr r⟩
 | .rdl xs,v,h=>by rw [ff] at h ⊢;obtain ⟨a,ys,e,q,r⟩:=h;exact ⟨a,ys,e,hr _ _ q,Rs.mono0 ht hr r⟩
 | .fn a,v,h=>by rw [xH] at h ⊢;exact h
theorem Rs.mono0 {K:W.Frag} {m:List Addr} {H H':Hp} (ht:∀a ys,SqT K H a ys→SqT K H' a ys) (hr:∀a ys,RdF K H a ys→RdF K H' a ys):∀ {ps:List PV} {vs:List V},Rs K m H ps vs→Rs K m H' ps vs
 | [],vs,h=>by rw [Rs_nil] at h ⊢;exact h
 | p::ps,vs,h=>by
  rw [Rs_cons] at h ⊢
  obtain ⟨y,r,e,h1,h2⟩:=h
  exact ⟨y,r,e,R.mono0 ht hr h1,Rs.mono0 ht hr h2⟩
end
theorem hV {K:W.Frag} {H:Hp} {D:Addr} {ys zs:List V} (hD:H D=some (.lst ys)):∀a us,SqT K H a us→SqT K (upd H D (.lst zs)) a us:=fun a us q=>by
 rcases q with (q|⟨w,q⟩)|q
 ·exact .inl (.inl (by rw [ac (fun z=>by subst z;rw [hD] at q;cases q)];exact q))
 ·exact .inl (.inr ⟨w,by rw [ac (fun z=>by subst z;rw [hD] at q;cases q)];exact q⟩)
 ·exact .inr q
theorem gR {K:W.Frag} {H:Hp} {D:Addr} {ys zs:List V} (hD:H D=some (.lst ys)):∀a us,RdF K H a us→RdF K (upd H D (.lst zs)) a us:=fun a us q=>by
 rcases q with ⟨w,q⟩|q
 ·exact .inl ⟨w,by rw [ac (fun z=>by subst z;rw [hD] at q;cases q)];exact q⟩
 ·exact .inr q
theorem TB.away {K:W.Frag} {H:Hp} {D:Addr} {ys zs:List V} (t:TB K H) (hD:H D=some (.lst ys)):TB K (upd H D (.lst zs)) :=
 t.keep (fun a ps q=>by rw [ac (fun z=>by subst z;rw [hD] at q;cases q)];exact q) fun a o q=>by rw [ac (fun z=>by subst z;rw [hD] at q;cases q)];exact q
theorem Ext.away {K:W.Frag} {m m':List Addr} {H H':Hp} {D:Addr} {ys zs:List V} (x:Ext K m H m' H') (h0:H D=none) (hD:H' D=some (.lst ys)):Ext K m H m' (upd H' D (.lst zs)) :=
 ⟨x.pre,x.new,fun a o ha e n=>by rw [ac (aq e h0)];exact x.fr a o ha e n,fun a us q=>hV hD a us (x.tup a us q),fun a us q=>gR hD a us (x.rdf a us q),fun a ps ha e=>let ⟨p1,e1⟩:=x.tbs a ps ha e;⟨p1,by rw [ac (aq e h0)];exact e1⟩,fun t=>(x.tb t).away hD,fun a o u e=>by rw [ac (aq e h0)];exact x.frz a o u e⟩
theorem RH.away {K:W.Frag} {m:List Addr} {H:Hp} {st:AH} {D:Addr} {ys zs:List V} (h:RH K m H st) (hm:D ∉ m) (hD:H D=some (.lst ys)):RH K m (upd H D (.lst zs)) st:=by
 refine ⟨h.len,h.nd,fun n c a h1 h2=>?_,h.tb.away hD⟩
 have ha:a≠D:=fun z=>hm (z ▸ List.mem_of_getElem? h2)
 have hc:=h.at_ n c a h1 h2
 cases c with
 | lst xs=>obtain ⟨us,g1,g2⟩:=hc;exact ⟨us,by rw [ac ha];exact g1,g2.mono0 (hV hD) (gR hD)⟩
 | dk kvs=>obtain ⟨us,g1,g2,g3⟩:=hc;exact ⟨us,by rw [ac ha];exact g1,g2,g3.mono0 (hV hD) (gR hD)⟩
 | fz kvs=>obtain ⟨o,us,g1,g2,g3⟩:=hc;exact ⟨o,us,by rw [ac ha];exact g1,g2,g3.mono0 (hV hD) (gR hD)⟩
theorem RF.away {K:W.Frag} {m:List Addr} {H:Hp} {ρ:Fr} {σ:L2.St} {D:Addr} {ys zs:List V} (h:RF K m H ρ σ) (hD:H D=some (.lst ys)):RF K m (upd H D (.lst zs)) ρ σ :=
 ⟨h.len,fun i v e=>let ⟨y,e1,r⟩:=h.at_ i v e;⟨y,e1,r.mono0 (hV hD) (gR hD)⟩⟩
theorem RF.less {K:W.Frag} {m:List Addr} {H:Hp} {ρ ρ':Fr} {σ:L2.St} {n:Nat} (h:RF K m H ρ' σ) (hl:ρ.length=ρ'.length) (hn:∀i v,ρ[i]?=some (some v)→n≤i) (hp:∀i,n≤i→ρ'[i]?=ρ[i]?):RF K m H ρ σ :=
 ⟨hl.trans h.len,fun i v e=>h.at_ i v (by rw [hp i (hn i v e)];exact e)⟩
theorem jU {nt:List Str} {f:Nat→Option PV} {caps:List Nat}:∀(i:Nat) (v:PV),(nt.map (fun _=>(none:Option PV))++caps.map f)[i]?=some (some v)→nt.length≤i:=fun i v e=>by
 by_cases hi:i<nt.length
 ·rw [List.getElem?_append_left (by simpa using hi),List.getElem?_map] at e
  cases q:nt[i]? with
  | none=>rw [q] at e;cases e
  | some z=>rw [q] at e;cases e
 ·omega
theorem v8 {K:W.Frag} {m:List Addr} {H:Hp} {ρ:Fr} {σ:L2.St} {nt:List Str} {caps:List Nat} (h:RF K m H ρ σ) :
  RF K m H (nt.map (fun _=>none)++caps.map fun i=>(ρ[i]?).join) (nt.map (fun _=>none)++caps.map fun i=>(σ[i]?).join):=by
 refine ⟨by simp,fun i v e=>?_⟩
 have hi:=jU i v e
 rw [List.getElem?_append_right (by simpa using hi),List.length_map,List.getElem?_map] at e
 rw [List.getElem?_append_right (by simpa using hi),List.length_map,List.getElem?_map]
 cases q:caps[i-nt.length]? with
 | none=>rw [q] at e;cases e
 | some j =>
  rw [q] at e
  have e':(ρ[j]?).join=some v:=Option.some.inj e
  have e4:ρ[j]?=some (some v):=by
   cases z:ρ[j]? with
   | none=>rw [z] at e';cases e'
   | some w=>rw [z] at e';rw [show w=some v from e']
  obtain ⟨y,e5,r⟩:=h.at_ j v e4
  exact ⟨y,by show some ((σ[j]?).join)=_;rw [e5];rfl,r⟩
section
variable {X:Cx} {Γ:Nat→FSp} {pins:List (Addr × Obj)} {σ:L2.St} {H:Hp} {s:Shared}
noncomputable def dW (K:W.Frag) (m1:List Addr) (H1:Hp) (Fin:Addr→Hp→Prop):LK:=fun vs st2=>∀m2 H2 D ys,Ext K m1 H1 m2 H2→RH K m2 H2 st2→D ∉ m2→H1 D=none→H2 D=some (.lst ys)→Rs K m2 H2 vs ys→Fin D H2
noncomputable def ei (Γ:Nat→FSp) (elt:E) (tg:Tg) (ifs:Es) (ρ:Fr):PV→AH→(Option PV→AH→Prop)→Prop:=fun x st2 k=>bF Γ tg x ρ st2 fun ρ' st3=>dX Γ ifs ρ' st3 fun c st4=>if c=true then wpE Γ elt ρ' st4 fun v st5=>k (some v) st5 else k none st4
theorem jV (G:bb Γ) (hcalm:X.calm=true) {elt:E} {tg:Tg} {ifs:Es} {nt:List Str} {caps:List Nat} {cn:List Str} {eltx tgx iterx:Expr} {ifsx:List Expr} {scope:Scope} {pos p0:Pos} {use:Option (Value→Sem Unit)} {Qf:Value→Shared→Prop} {Fin:Addr→Hp→Prop} {wi:TI}
  (S:CScope X scope) (hcn:cn=caps.filterMap (X.N[·]?)) (hcl:∀i∈caps,i<X.N.length) (hcf:∀x∈cn,scope.names.lookup x=some .free) (hce:∀x∈cn,X.env.kindOf x=some .cell∨X.env.kindOf x=some .free)
  (hset:fe iterx=true) (hlow:tg.low nt.length=true) (hI:PI X tgx iterx wi)
  (hG:∀s2 H2 fp C,PG (cxC X (nt++cn) s2 H2 fp scope C) tgx (TGx X.K (bF Γ tg)))
  (hT:∀s2 H2 fp C,PTs (cxC X (nt++cn) s2 H2 fp scope C) ifsx (TTx X.K (dX Γ ifs)))
  (hE:∀s2 H2 fp C,PE (cxC X (nt++cn) s2 H2 fp scope C) eltx (TEx X.K (wpE Γ elt)))
  (I:L2.Inv X pins σ H s)
  (h:wi σ H fun J H1=>∃m ρ st1 xs chk,RF X.K m H1 ρ σ∧RH X.K m H1 st1∧kU X.K J xs chk m H1∧xs.length<100000∧aQ chk (ei Γ elt tg ifs (nt.map (fun _=>none)++caps.map fun i=>(ρ[i]?).join)) xs [] st1 (dW X.K m H1 Fin))
  (fin:∀C D H' s' m',L2.Inv X pins σ H' s'→s'.heap.Ns C m'→iE X pins H' C→Fin D H'→compPost (model X.prog X.w) X.A X.xe use Qf (.ref D) C (.ok .next) s') :
  wpAny (model X.prog X.w) X.A (comprehension (.ListComp eltx [⟨tgx,iterx,ifsx,0⟩] scope pos) scope X.env p0 (newList []) false (eval iterx X.env) use) Qf X.xe s:=by
 refine wpAny_comprehension_free (use:=use) rfl (jg hset) (m_ (S.cells I)) S.kind S.nms ?_
 refine thn (hI pins s σ H _ I h) fun v s1 h1=>thn h1 fun itv s2 h2=>?_
 obtain ⟨it,fp,tn,J,H2,e,I2,T,st2,f2,m,ρ,st1,xs,chk,rf,rh,W,hxs,w⟩:=h2
 subst e
 have fl:∀b∈fp,b<s2.heap.objs.size:=fun b hb=>by
  obtain ⟨o,e,_⟩:=T.obj 0 _ st2 b hb
  exact Heap.lt_size e
 refine wpAny_newObj_type (wpAny_newFunctionEnv S.nocell (by intro y hy;simp at hy) (fun h₁ hns₁ hsb₁=>?_) S.kind)
 dsimp only at hns₁ hsb₁ ⊢
 generalize hD:s2.heap.objs.size=D at *
 generalize hH3:s2.heap.push { cls:=.type "list",dict:=none,data:=.seq ([]:List Value).toArray }=P3 at hns₁ hsb₁ ⊢
 generalize hCC:P3.objs.size=C at *
 have hC1:C=D+1:=by rw [←hCC,←hH3,Heap.size_push,hD]
 have ltDC:D<C:=by rw [hC1];exact Nat.lt_succ_self D
 have neC:∀b,b<D→b≠C:=fun b hb=>Nat.ne_of_lt (Nat.lt_trans hb ltDC)
 have hDn:H2 D=none:=by rw [←hD];exact I2.hok.fresh (Nat.le_refl _)
 have hCn:H2 C=none:=I2.hok.fresh (by rw [hD];exact Nat.le_of_lt ltDC)
 have old3:∀b o,s2.heap.get? b=some o→P3.get? b=some o:=fun b o e=>hH3 ▸ Heap.get?_push_of_some _ e
 have old:∀b o,s2.heap.get? b=some o→h₁.get? b=some o:=fun b o e=>hsb₁.extBut b o (neC b (hD ▸ Heap.lt_size e)) (Heap.get?_push_of_some _ (old3 b o e))
 have newD:h₁.get? D=some { cls:=.type "list",data:=.seq #[] }:=hsb₁.extBut _ _ (Nat.ne_of_lt ltDC) (Heap.get?_push_of_some _ (by rw [←hH3,←hD];exact Heap.get?_push_size _ rfl))
 have un:Un (frs X.stack) fp H2 (upd H2 D (.lst [])) s2.heap h₁:=Un.laid old (by rw [hD];exact Nat.le_refl _) hDn
 have hok:HOk X.prog X.w (upd H2 D (.lst [])) h₁:=I2.hok.laid old (by rw [hD];exact Nat.le_refl _) ⟨Nat.zero_le _,[],0,.nil,newD⟩
 have I4:=rR (nt:=nt) (tk:=s2.toks+([]:List (Str × Value)).length) S I2 f2 (by rw [hD];exact fl) (C:=C) (by rw [hD];exact Nat.le_of_lt ltDC) un hok (by simpa using hns₁) (by rw [ac (Nat.ne_of_gt ltDC)];exact hCn) old
  (fun b o e n=>by rw [ac (Nat.ne_of_lt (hD ▸ Heap.lt_size e))];exact n) hcn hcl hcf hce
 generalize hρ0:(nt.map (fun _=>none)++caps.map fun i=>(ρ[i]?).join:Fr)=ρ0 at w
 have hρn:∀i v,ρ0[i]?=some (some v)→nt.length≤i:=by rw [←hρ0];exact jU
 have rf0:RF X.K m H2 ρ0 (nt.map (fun _=>none)++caps.map fun i=>(σ[i]?).join):=by rw [←hρ0];exact v8 rf
 generalize (nt.map (fun _=>none)++caps.map fun i=>(σ[i]?).join:L2.St)=σ0 at I4 rf0
 have loop:codeAny (model X.prog X.w) X.A (.compLoop (.ListComp eltx [⟨tgx,iterx,ifsx,0⟩] scope pos) 0 (.ref it) (.ref D) (compEnvC scope (ii X.env scope.names []) C X.env)) (compPost (model X.prog X.w) X.A X.xe use Qf (.ref D) C)
   { s2 with heap:=h₁,toks:=s2.toks+([]:List (Str × Value)).length }:=by
  refine pZ (fun n s'=>∃(i:Nat),∃σ' H' m' st' acc ys,n+i=xs.length∧L2.Inv (cxC X (nt++cn) s2 H2 fp scope C) [] σ' H' s'∧tn i s'.heap∧(∀b∈fp,H' b=none)∧Ext X.K m H2 m' H'∧RH X.K m' H' st'∧RF X.K m' H' ρ0 σ'∧D ∉ m'∧H' D=some (.lst ys)∧Rs X.K m' H' acc ys∧ys.length≤i ∧
   aQ chk (ei Γ elt tg ifs ρ0) (xs.drop i) acc st' (dW X.K m H2 Fin)) ?_ xs.length
   ⟨0,σ0,_,m,st1,[],[],rfl,I4,T.keep 0 _ _ st2 (fun b _ o e=>old b o e),fun b hb=>by rw [ac (Nat.ne_of_lt (fl b hb))];exact (f2 b hb).1,Ext.newT rh hDn,rh.newT hDn,rf0.mono (Ext.newT rh hDn),rh.fresh hDn,ao,Rs_nil.mpr rfl,Nat.le_refl _,by simpa using w⟩
  rintro n s' ⟨i,σ',H',m',st',acc,ys,hn,I',tni,fpn,x',rh',rf',Dm,hDl,rys,hly,k⟩
  have stat:∀ {H'':Hp},(∀b∈fp,H'' b=none)→∀b∈fp,iE (cxC X (nt++cn) s2 H2 fp scope C) [] H'' b:=fun hz b hb=>⟨hz b hb,(I'.ok.exf b hb).1,I'.ok.exfs b hb,.inl hb,(I'.ok.exf b hb).2,fun p hp=>absurd (show p∈([]:List (Addr × Obj)) from hp) (by simp)⟩
  cases q:xs.drop i with
  | nil =>
   rw [q] at k
   have hi:i=xs.length:=by
    have:=congrArg List.length q
    simp at this
    omega
   subst hi
   refine thn (T.done (cxC X (nt++cn) s2 H2 fp scope C) rfl rfl rfl hcalm _ [] s' σ' H' (fun _ _=>False) I' (stat fpn) tni (W.stop m' H' st' x' rh' k.1)) fun r s1 ⟨hr,I1⟩=>?_
   subst hr
   have IX:L2.Inv X pins σ H' s1:=I2.call' I1.os I1.base I1.hok I1.bare fun b hb=>⟨(f2 b hb).2.2.2.1,(f2 b hb).2.1,(f2 b hb).2.2.2.2.1,(f2 b hb).2.2.2.2.2⟩
   obtain ⟨mm,hns,_⟩:=I1.loc
   exact fin C D H' s1 mm IX hns (I2.fpOk (by rw [hD];exact Nat.le_of_lt ltDC) I1.free) (k.2 m' H' D ys x' rh' Dm hDn hDl rys)
  | cons v rest =>
   rw [q] at k
   have hi:i<xs.length:=by
    have:=congrArg List.length q
    simp at this
    omega
   have ev:xs[i]?=some v:=by
    have:=congrArg List.head? q
    rw [List.head?_drop] at this
    exact this
   have er:rest=xs.drop (i+1):=by
    have:=congrArg List.tail q
    rw [List.tail_drop] at this
    exact this.symm
   subst er
   obtain ⟨kc,k⟩:=k
   obtain ⟨go,yl⟩:=W.item i v m' H' st' x' rh' kc ev
   refine thn (T.item (cxC X (nt++cn) s2 H2 fp scope C) rfl rfl rfl hcalm i [] s' σ' H' (fun _ _=>False) I' (stat fpn) tni go) fun r s4 ⟨u,hr,h4⟩=>?_
   subst hr
   refine thn h4 fun _ s5 ⟨x,H5,I5,r5,y5,tn5,fr5⟩=>?_
   obtain ⟨x5,rh5,rv5⟩:=yl x H5 y5
   have I5':=I5.pinned (stat fr5) (T.obj _ _ tn5)
   have again:∀ {σ7:L2.St} {H7:Hp} {s7:Shared} {m7:List Addr} {st7:AH} {acc7:List PV} {ys7:List V},L2.Inv (cxC X (nt++cn) s2 H2 fp scope C) ([]++kn fp s5.heap) σ7 H7 s7→Ext X.K m H2 m7 H7→RH X.K m7 H7 st7→RF X.K m7 H7 ρ0 σ7→D ∉ m7→H7 D=some (.lst ys7) →
     Rs X.K m7 H7 acc7 ys7→ys7.length≤i+1→aQ chk (ei Γ elt tg ifs ρ0) (xs.drop (i+1)) acc7 st7 (dW X.K m H2 Fin) →
     ∃n',n'<n∧∃(i:Nat),∃σ' H' m' st' acc ys,n'+i=xs.length∧L2.Inv (cxC X (nt++cn) s2 H2 fp scope C) [] σ' H' s7∧tn i s7.heap∧(∀b∈fp,H' b=none)∧Ext X.K m H2 m' H'∧RH X.K m' H' st'∧RF X.K m' H' ρ0 σ'∧D ∉ m'∧H' D=some (.lst ys)∧Rs X.K m' H' acc ys∧ys.length≤i ∧
      aQ chk (ei Γ elt tg ifs ρ0) (xs.drop i) acc st' (dW X.K m H2 Fin):=fun {σ7 H7 s7 m7 st7 acc7 ys7} I7 g1 g2 g3 g4 g5 g6 g7 g8=>by
    refine ⟨n-1,by omega,i+1,σ7,H7,m7,st7,acc7,ys7,by omega,I7.unpinned,T.keep _ _ _ tn5 fun b hb o e=>(I7.pin (b,o) (List.mem_append_right _ (List.mem_append_right _ (dI hb e)))).1,fun b hb=>?_,g1,g2,g3,g4,g5,g6,g7,g8⟩
    obtain ⟨o,e,d⟩:=T.obj _ _ tn5 b hb
    exact (I7.pin (b,o) (List.mem_append_right _ (List.mem_append_right _ (dI hb e)))).2.1
   have k2:=kZ (n:=nt.length) G tg hlow k
   refine thn (hG s2 H2 fp C _ s5 σ' H5 x u (fun σ6 H6=>∃m6 ρ1 st6,Ext X.K m' H5 m6 H6∧RH X.K m6 H6 st6∧RF X.K m6 H6 ρ1 σ6∧(∀j,nt.length≤j→ρ1[j]?=ρ0[j]?) ∧
    dX Γ ifs ρ1 st6 fun c st4=>if c=true then wpE Γ elt ρ1 st4 fun vv st5=>aQ chk (ei Γ elt tg ifs ρ0) (xs.drop (i+1)) (acc++[vv]) st5 (dW X.K m H2 Fin) else aQ chk (ei Γ elt tg ifs ρ0) (xs.drop (i+1)) acc st4 (dW X.K m H2 Fin)) I5' r5
    ⟨m',ρ0,st',v,rf'.mono x5,rh5,rv5,aw G tg (fun ρ1 st6 z m6 H6 σ6 x6 rh6 rf6=>⟨m6,ρ1,st6,x6,rh6,rf6,z.2,aI G ifs (fun c st4 zz=>by
     cases c with
     | true=>rw [if_pos rfl] at zz ⊢;exact zz
     | false=>rw [if_neg Bool.false_ne_true] at zz ⊢;simpa using zz) z.1⟩) k2⟩) fun _ s6 ⟨σ6,H6,I6,m6,ρ1,st6,x6,rh6,rf6,pr,w6⟩=>?_
   have hlen:ρ0.length=ρ1.length:=by rw [rf6.len,I6.len,rf'.len,I'.len]
   refine thn (hT s2 H2 fp C _ s6 σ6 H6 (fun b H7=>∃m7 st7,Ext X.K m6 H6 m7 H7∧RH X.K m7 H7 st7∧if b=true then wpE Γ elt ρ1 st7 fun vv st5=>aQ chk (ei Γ elt tg ifs ρ0) (xs.drop (i+1)) (acc++[vv]) st5 (dW X.K m H2 Fin) else aQ chk (ei Γ elt tg ifs ρ0) (xs.drop (i+1)) acc st7 (dW X.K m H2 Fin)) I6
    ⟨m6,ρ1,st6,rf6,rh6,aI G ifs (fun b st7 z m7 H7 x7 rh7=>⟨m7,st7,x7,rh7,z⟩) w6⟩) fun b s7 ⟨H7,I7,m7,st7,x7,rh7,w7⟩=>?_
   have xx7:Ext X.K m' H' m7 H7:=(x5.trans x6).trans x7
   cases b with
   | false =>
    rw [if_neg Bool.false_ne_true] at w7 ⊢
    refine again I7 (x'.trans xx7) rh7 ((rf6.mono x7).less hlen hρn pr) (fun z=>?_) (xx7.fr D _ Dm hDl fun _ z=>nomatch z) (rys.mono xx7) (by omega) w7
    rcases xx7.new D z with z|z
    ·exact Dm z
    ·rw [hDl] at z;cases z
   | true =>
    rw [if_pos rfl] at w7 ⊢
    refine thn (hE s2 H2 fp C _ s7 σ6 H7 (fun y H8=>∃m8 st8 vv,Ext X.K m7 H7 m8 H8∧RH X.K m8 H8 st8∧R X.K m8 H8 vv y∧aQ chk (ei Γ elt tg ifs ρ0) (xs.drop (i+1)) (acc++[vv]) st8 (dW X.K m H2 Fin)) I7
     ⟨m7,ρ1,st7,rf6.mono x7,rh7,aa G elt (fun vv st8 z m8 H8 y x8 rh8 r8=>⟨m8,st8,vv,x8,rh8,r8,z⟩) w7⟩) fun uy s8 ⟨y,H8,I8,ry,m8,st8,vv,x8,rh8,r8,w8⟩=>?_
    have xx8:Ext X.K m' H' m8 H8:=xx7.trans x8
    have hD8:H8 D=some (.lst ys):=xx8.fr D _ Dm hDl fun _ z=>nomatch z
    have Dm8:D ∉ m8:=fun z=>by
     rcases xx8.new D z with z|z
     ·exact Dm z
     ·rw [hDl] at z;cases z
    refine thn (oZ (X:=cxC X (nt++cn) s2 H2 fp scope C) _ s8 σ6 H8 (.ref D) [y] (.ref D) [uy] (fun _ H9=>H9=upd H8 D (.lst (ys++[y]))) I8 rfl (.cons ry .nil) ⟨D,ys,y,rfl,rfl,hD8,fZ (by omega),rfl⟩) fun _ s9 ⟨_,H9,I9,_,e9⟩=>?_
    subst e9
    exact again I9 ((x'.trans xx8).away hDn hD8) (rh8.away Dm8 hD8) ((((rf6.mono x7).mono x8).less hlen hρn pr).away hD8) Dm8 ao (((rys.mono xx8).app (.one r8)).mono0 (hV hD8) (gR hD8)) (by simp;omega) w8
 exact codeAny_compStart_list loop (T.self X.A 0 _ _ _ (T.keep 0 _ _ st2 fun b _ o e=>old b o e) loop)
end
end FW
namespace FW
open L2 HX
mutual
theorem R.pre {K:W.Frag} {m m':List Addr} {H:Hp} (hp:m <+: m'):∀ {p:PV} {v:V},R K m H p v→R K m' H p v
 | .non,v,h=>by rw [R_non] at h ⊢;exact h
 | .bl b,v,h=>by rw [R_bl] at h ⊢;exact h
 | .int b,v,h=>by rw [R_int] at h ⊢;exact h
 | .str b,v,h=>by rw [R_str] at h ⊢;exact h
 | .fn b,v,h=>by rw [xH] at h ⊢;exact h
 | .ref n,v,h=>by rw [R_ref] at h ⊢;obtain ⟨a,e,q⟩:=h;exact ⟨a,eD hp e,q⟩
 | .tup xs,v,h=>by rw [R_tup] at h ⊢;obtain ⟨a,ys,e,q,r⟩:=h;exact ⟨a,ys,e,q,Rs.pre hp r⟩
 | .rdl xs,v,h=>by rw [ff] at h ⊢;obtain ⟨a,ys,e,q,r⟩:=h;exact ⟨a,ys,e,q,Rs.pre hp r⟩
theorem Rs.pre {K:W.Frag} {m m':List Addr} {H:Hp} (hp:m <+: m'):∀ {ps:List PV} {vs:List V},Rs K m H ps vs→Rs K m' H ps vs
 | [],vs,h=>by rw [Rs_nil] at h ⊢;exact h
 | p::ps,vs,h=>by
  rw [Rs_cons] at h ⊢
  obtain ⟨y,r,e,h1,h2⟩:=h
  exact ⟨y,r,e,R.pre hp h1,Rs.pre hp h2⟩
end
section
variable {Γ:Nat→FSp} {X:Cx} {c:Cfg}
theorem oC {pos pos':Pos} {c cv:Value} (l:List Value) (h:TriplesOk l) (e:codeAmong pos (l++[rawInt pos'.line,rawInt pos'.col,c])=some cv):codeAmong pos l=some cv∨cv=c:=by
 fun_induction TriplesOk l with
 | case1 =>
  simp only [List.nil_append,codeAmong,rawInt] at e
  split at e
  ·cases e;exact .inr rfl
  ·cases e
 | case2 a t b u x rest ih =>
  simp only [List.cons_append,codeAmong] at e ⊢
  split at e
  ·rename_i hc;rw [if_pos hc];exact .inl e
  ·rename_i hc;rw [if_neg hc];exact ih h e
 | case3 l h1 h2=>exact h.elim
theorem Ext.lam {K:W.Frag} {m:List Addr} {H:Hp} {T:Addr} {ps:Array Value} {pos:Pos} {c' c0:Addr} {oc:Obj} {x:Str} (hx:x∈ba) (ht:W.tabIn K x=some (c0,T)) (hT:H T=some (.tbl ps)) (hn:H c'=none) (ho:yq oc (x++".<locals>."++"<lambda>")):Ext K m H m (Br H T ps pos c' oc):=by
 have cT:c'≠T:=fun z=>by rw [z,hT] at hn;cases hn
 have same:∀b,b≠T→b≠c'→Br H T ps pos c' oc b=H b:=fun b h1 h2=>(ac h2).trans (ac h1)
 have nT:∀ {b:Addr} {o:HO},H b=some o→(∀qs,o≠.tbl qs)→b≠T:=fun {b o} e n z=>by rw [z,hT] at e;cases e;exact n _ rfl
 have nc:∀ {b:Addr} {o:HO},H b=some o→b≠c':=fun {b o} e z=>by rw [z,hn] at e;cases e
 have atT:Br H T ps pos c' oc T=some (.tbl (Fs ps pos c')):=(ac cT.symm).trans (if_pos rfl)
 have atc:Br H T ps pos c' oc c'=some (.frz oc (.own 0)):=if_pos rfl
 refine ⟨List.prefix_refl _,fun _ z=>.inl z,fun a o _ e n=>?_,fun a ys q=>?_,fun a ys q=>?_,fun a qs _ e=>?_,fun t y hy d T' hd=>?_,fun a o u e=>by rw [same a (nT e fun _ z=>nomatch z) (nc e)];exact e⟩
 ·rw [same a (nT e n) (nc e)];exact e
 ·rcases q with (q|⟨w,q⟩)|q
  ·exact .inl (.inl (by rw [same a (nT q fun _ z=>nomatch z) (nc q)];exact q))
  ·exact .inl (.inr ⟨w,by rw [same a (nT q fun _ z=>nomatch z) (nc q)];exact q⟩)
  ·exact .inr q
 ·rcases q with ⟨w,q⟩|q
  ·exact .inl ⟨w,by rw [same a (nT q fun _ z=>nomatch z) (nc q)];exact q⟩
  ·exact .inr q
 ·by_cases ha:a=T
  ·subst ha;exact ⟨_,atT⟩
  ·exact ⟨qs,by rw [same a ha (nc e)];exact e⟩
 ·obtain ⟨u,qs,e1,e2,e3⟩:=t y hy d T' hd
  have keepF:∀ {b:Addr} {o:Obj},H b=some (.frz o (.own 0))→Br H T ps pos c' oc b=some (.frz o (.own 0)):=fun {b o} e=>by rw [same b (nT e fun _ z=>nomatch z) (nc e)];exact e
  by_cases hz:T'=T
  ·subst hz
   obtain rfl:x=y:=u x hx c0 ht
   rw [hT] at e1
   cases e1
   refine ⟨u,_,atT,?_,fun p cv q=>?_⟩
   ·rw [Array.toList_append];exact TriplesOk_snoc _ _ _ _ e2
   ·rw [Array.toList_append] at q
    rcases oC _ e2 q with q|q
    ·obtain ⟨c2,o2,g1,g2,g3⟩:=e3 p cv q
     exact ⟨c2,o2,g1,keepF g2,g3⟩
    ·exact ⟨c',oc,q,atc,ho⟩
  ·refine ⟨u,qs,by rw [same T' hz (nc e1)];exact e1,e2,fun p cv q=>?_⟩
   obtain ⟨c2,o2,g1,g2,g3⟩:=e3 p cv q
   exact ⟨c2,o2,g1,keepF g2,g3⟩
theorem wd {k:Option NameKind} (h:xi k=true):k=some .cell∨k=some .free:=by
 unfold xi at h
 simpa using h
end
end FW
namespace FW
open L2 HX
theorem CQ {P:Program} {w:World} {k:Key} {u:Value} (h:(aD P w).is k u=true):L2.RelV (kV k) u:=by
 rcases aS h with ⟨i,t,rfl,rfl⟩|⟨x,t,rfl,rfl⟩
 ·exact ⟨t,rfl⟩
 ·exact ⟨t,rfl⟩
noncomputable def ObD (P:Program) (w:World) (a:Addr) (o:Obj) (ys:List (Key × V)) (vs:List (Key × Value)) (ep:Nat):Prop:=KV ys vs∧∀h:Heap,h.get? a=some o→h.DictAt (aD P w) a vs ep
noncomputable def ItF (wk:DW) (a:Addr) (o:Obj) (ys:List (Key × V)):L2.It :=
 ⟨fun i H=>i<ys.length∧H a=some (.frz o (.dK ys)),fun i H x H'=>∃p,ys[i]?=some p∧match wk with
  | .keys=>H'=H∧x=kV p.1
  | .items=>∃T,x=.ref T∧H T=none∧H'=upd H T (.tup [kV p.1,p.2]),fun i H=>i=ys.length∧H a=some (.frz o (.dK ys))⟩
theorem KV.at {ys:List (Key × V)} {vs:List (Key × Value)} (h:KV ys vs) {i:Nat} {p:Key × V} (e:ys[i]?=some p):∃q,vs[i]?=some q∧p.1=q.1∧L2.RelV p.2 q.2:=by
 unfold KV at h
 induction h generalizing i with
 | nil=>simp at e
 | cons f t ih =>
  cases i with
  | zero=>simp at e;subst e;exact ⟨_,rfl,f.1,f.2⟩
  | succ i=>obtain ⟨q,e1,e2⟩:=ih (by simpa using e);exact ⟨q,by simpa using e1,e2⟩
theorem xy {P:Program} {w:World} {K:W.Frag} {tg:Expr} {it a:Addr} {o:Obj} {ys:List (Key × V)} {vs:List (Key × Value)} {ep:Nat} (hO:ObD P w a o ys vs ep) :
  sR P w K tg (ItF .keys a o ys) [it] it (fun i h=>h.IsKeyIter it a i vs.length ep) where
 mem:=by simp
 obj:=fun i h st b hb=>by
  have e:b=it:=by simpa using hb
  subst e
  obtain ⟨u,e,c,d⟩:=st
  exact ⟨u,e,fun v z=>by rw [d] at z;cases z⟩
 keep:=fun i h h' st k=>by
  obtain ⟨u,e,r⟩:=st
  exact ⟨u,k it (by simp) u e,r⟩
 item:=by
  intro X hP hw hK hc i pins s σ H E I hf st hg
  subst hP hw hK
  obtain ⟨f0,f1,f2,f3,f4,f5⟩:=hf it (by simp)
  obtain ⟨hi,hF⟩:=hg
  have hd:=hO.2 _ (I.hok a _ hF).1
  obtain ⟨p,hp⟩:∃p,ys[i]?=some p:=⟨ys[i],by simp [hi]⟩
  obtain ⟨q,e1,e2,e3⟩:=KV.at hO.1 hp
  refine wpAny_pyNext_dict_item (k:=q.1) (v:=q.2) st hd e1 fun key h' hk st' sb=>?_
  have I1:L2.Inv X pins σ H { s with heap:=h' }:=I.turned (t':=s.toks) (fun b u hb e=>sb.extBut b u hb e) f0 f1 f3 f4 f5
  obtain ⟨u,e,cc,dd⟩:=id st'
  refine ⟨_,rfl,sL (s:={ s with heap:=h' }) e cc dd (by decide) ⟨kV p.1,H,I1,by rw [e2];exact CQ hk,⟨p,hp,rfl,rfl⟩,st',fun b hb=>(hf b hb).1⟩⟩
 done:=by
  intro X hP hw hK hc i pins s σ H E I hf st hg
  subst hP hw hK
  obtain ⟨f0,f1,f2,f3,f4,f5⟩:=hf it (by simp)
  obtain ⟨hi,hF⟩:=hg
  have hd:=hO.2 _ (I.hok a _ hF).1
  exact wpAny_pyNext_dict_end (I.ok.hd hc) st hd (List.getElem?_eq_none (by rw [hi,hO.1.length];exact Nat.le_refl _)) fun h' kk=>⟨rfl,I.turned (t':=s.toks) (fun b u hb e=>kk b u hb e) f0 f1 f3 f4 f5⟩
 self:=fun _ _ _ _ _ st h=>wpAny_pyIter_keyiter st h
theorem tL {P:Program} {w:World} {K:W.Frag} {elts:List Expr} {kt:Nat} {pt:Pos} {it a:Addr} {o:Obj} {ys:List (Key × V)} {vs:List (Key × Value)} {ep:Nat} (hO:ObD P w a o ys vs ep) :
  sR P w K (.Tuple elts kt pt) (ItF .items a o ys) [it] it (fun i h=>∃x y,IsItemIter h it a i vs.length ep x y) where
 mem:=by simp
 obj:=fun i h st b hb=>by
  have e:b=it:=by simpa using hb
  subst e
  obtain ⟨x,y,e⟩:=st
  exact ⟨_,e,fun v z=>nomatch z⟩
 keep:=fun i h h' st k=>by
  obtain ⟨x,y,e⟩:=st
  exact ⟨x,y,k it (by simp) _ e⟩
 item:=by
  intro X hP hw hK hc i pins s σ H E I hf st hg
  subst hP hw hK
  obtain ⟨hi,hF⟩:=hg
  have hd:=hO.2 _ (I.hok a _ hF).1
  obtain ⟨p,hp⟩:∃p,ys[i]?=some p:=⟨ys[i],by simp [hi]⟩
  obtain ⟨q,e1,e2,e3⟩:=KV.at hO.1 hp
  obtain ⟨x,y,st⟩:=st
  refine wpAny_pyNext_items_item (k:=q.1) (v:=q.2) st hd e1 fun key h' hk st' hT hz kk=>?_
  refine ⟨_,rfl,wpAny_letOwnedTupleGo_items (s:={ s with heap:=h' }) st' fun h'' st2 sb=>?_⟩
  have hlt:it<s.heap.objs.size:=Heap.lt_size st
  have Tn:s.heap.objs.size≠it:=Nat.ne_of_gt hlt
  have rk:L2.RelV (kV p.1) key:=by rw [e2];exact CQ hk
  have I2:L2.Inv X pins σ (upd H s.heap.objs.size (.tup [kV p.1,p.2])) { s with heap:=h'' }:=v7 (t':=s.toks) (its:=[key,q.2]) (wr:=[it]) I (fun b u hb e=>by
   have hb:b≠it:=by simpa using hb
   rw [sb.2 b hb]
   exact kk b u hb e) (fun b hb=>hf b hb) (Nat.le_refl _) (.cons rk (.cons e3 .nil)) (by show 2≤sizeLine;decide) ⟨_,by rw [sb.2 _ Tn];exact hT,rfl,0,rfl⟩
  refine ⟨.ref _,_,I2,rfl,⟨p,hp,_,rfl,I.hok.fresh (Nat.le_refl _),rfl⟩,⟨_,_,st2⟩,fun b hb=>?_⟩
  have e:b=it:=by simpa using hb
  subst e
  rw [ac (Nat.ne_of_lt hlt)]
  exact (hf b hb).1
 done:=by
  intro X hP hw hK hc i pins s σ H E I hf st hg
  subst hP hw hK
  obtain ⟨f0,f1,f2,f3,f4,f5⟩:=hf it (by simp)
  obtain ⟨hi,hF⟩:=hg
  have hd:=hO.2 _ (I.hok a _ hF).1
  obtain ⟨x,y,st⟩:=st
  exact wpAny_pyNext_items_end (I.ok.hd hc) st hd (List.getElem?_eq_none (by rw [hi,hO.1.length];exact Nat.le_refl _)) fun h' kk=>⟨rfl,I.turned (t':=s.toks) (fun b u hb e=>kk b u hb e) f0 f1 f3 f4 f5⟩
 self:=fun A i s Q E st h=>by
  obtain ⟨x,y,st⟩:=st
  exact W.kcp_self st h
theorem CP {K:W.Frag} {m:List Addr} {H:Hp} {k:Key}:R K m H (kP k) (kV k):=by
 cases k with
 | inl i=>exact R_int.mpr rfl
 | inr x=>exact R_str.mpr rfl
theorem mR {K:W.Frag} {m:List Addr} {H:Hp}:∀ {kvs:List (Key × PV)} {ys:List (Key × V)} {i:Nat} {p:Key × V},ys.map (·.1)=kvs.map (·.1)→Rs K m H (kvs.map (·.2)) (ys.map (·.2))→ys[i]?=some p→∃q,kvs[i]?=some q∧q.1=p.1∧R K m H q.2 p.2
 | [],ys,i,p,e,r,h=>by
  cases ys with
  | nil=>simp at h
  | cons _ _=>simp at e
 | q::kvs,ys,i,p,e,r,h=>by
  cases ys with
  | nil=>simp at h
  | cons y ys =>
   simp only [List.map_cons,List.cons.injEq] at e
   rw [List.map_cons,List.map_cons,Rs_cons'] at r
   cases i with
   | zero=>simp at h;subst h;exact ⟨q,rfl,e.1.symm,r.1⟩
   | succ i=>obtain ⟨z,h1,h2⟩:=mR e.2 r.2 (show ys[i]?=some p by simpa using h);exact ⟨z,by simpa using h1,h2⟩
theorem uM {K:W.Frag} {wk:DW} {m0:List Addr} {H0:Hp} {a:Addr} {o:Obj} {ys:List (Key × V)} {kvs:List (Key × PV)} (hF:H0 a=some (.frz o (.dK ys))) (r1:ys.map (·.1)=kvs.map (·.1)) (r2:Rs K m0 H0 (kvs.map (·.2)) (ys.map (·.2))) :
  kU K (ItF wk a o ys) (aZ wk kvs) (fun _=>True) m0 H0:=by
 have hl:ys.length=kvs.length:=by simpa using congrArg List.length r1
 have hw:(aZ wk kvs).length=ys.length:=by cases wk <;> simp [aZ,hl]
 refine ⟨fun m H st x r q=>⟨hw,x.frz _ _ _ hF⟩,fun i v m H st x r q ev=>?_⟩
 have hi:i<ys.length:=by rw [←hw];exact (List.getElem?_eq_some_iff.mp ev).1
 refine ⟨⟨hi,x.frz _ _ _ hF⟩,?_⟩
 rintro y H' ⟨p,hp,z⟩
 obtain ⟨u,hu,e1,e2⟩:=mR r1 r2 hp
 cases wk with
 | keys =>
  obtain ⟨rfl,rfl⟩:=z
  have:(aZ .keys kvs)[i]?=some (kP u.1):=by unfold aZ;rw [List.getElem?_map,hu];rfl
  rw [this] at ev
  cases ev
  exact ⟨Ext.refl _ _ _,r,by rw [e1];exact CP⟩
 | items =>
  obtain ⟨T,rfl,hT,rfl⟩:=z
  have:(aZ .items kvs)[i]?=some (.tup [kP u.1,u.2]):=by unfold aZ;rw [List.getElem?_map,hu];rfl
  rw [this] at ev
  cases ev
  have xT:=Ext.newT (o:=.tup [kV p.1,p.2]) r hT
  refine ⟨xT,r.newT hT,R_tup.mpr ⟨T,_,rfl,SqT.of ao,?_⟩⟩
  rw [Rs_cons',Rs_cons',Rs_nil]
  exact ⟨by rw [e1];exact CP,(e2.mono x).mono xT,rfl⟩
end FW
namespace FW
open L2 HX
section
variable {X:Cx} {pins:List (Addr × Obj)} {σ:L2.St} {H:Hp} {s:Shared} {a:Addr} {ys:List (Key × V)} {o:Obj}
theorem l_ (I:L2.Inv X pins σ H s) (e:H a=some (.dK ys)) (ho:s.heap.get? a=some o):L2.Inv X pins σ (upd H a (.frz o (.dK ys))) s:=by
 have nh:∀b u,H b=some u→(∀zs,u≠.dK zs)→upd H a (.frz o (.dK ys)) b=some u:=fun b u q n=>by
  rw [ac (fun z=>by subst z;rw [e] at q;cases q;exact n _ rfl)];exact q
 have no:∀b,H b=none→upd H a (.frz o (.dK ys)) b=none:=fun b q=>by rw [ac (fun z=>by subst z;rw [e] at q;cases q)];exact q
 refine ⟨I.ok,I.os,I.bare,⟨I.base.keep,I.base.slot,fun b u q n hx=>no b (I.base.free b u q n hx),I.base.there,fun b xs q=>nh b _ (I.base.tups b xs q) (fun _ z=>nomatch z),fun b u v q=>nh b _ (I.base.frzs b u v q) (fun _ z=>nomatch z),fun b ps q=>let ⟨m,z⟩:=I.base.tbls b ps q;⟨m,nh b _ z (fun _ z=>nomatch z)⟩⟩,I.loc,I.cell,no _ I.free,fun x c q=>no _ (I.freeC x c q),fun p hp=>let ⟨h1,h2,h3⟩:=I.pin p hp;⟨h1,no _ h2,h3⟩,fun b u q=>?_,I.len⟩
 have st:∀ {b:Addr} {u:HO},ObjOk X.prog X.w H s.heap b u→ObjOk X.prog X.w (upd H a (.frz o (.dK ys))) s.heap b u:=fun {b u} x=>x.stay (fun _ _ _ q=>q) (fun c q=>nh c _ q (fun _ z=>nomatch z)) fun c xs q=>nh c _ q fun _ z=>nomatch z
 by_cases hb:b=a
 ·subst hb
  rw [ao] at q
  cases q
  exact ⟨ho,st (I.hok b _ e)⟩
 ·rw [ac hb] at q
  exact st (I.hok b u q)
theorem gz (I:L2.Inv X pins σ H s) (e:H a=some (.frz o (.dK ys))) (hz:∀u q,X.H₀ a≠some (.frz u q)):L2.Inv X pins σ (upd H a (.dK ys)) s:=by
 have nh:∀b u,H b=some u→(∀w zs,u≠.frz w (.dK zs))→upd H a (.dK ys) b=some u:=fun b u q n=>by
  rw [ac (fun z=>by subst z;rw [e] at q;cases q;exact n _ _ rfl)];exact q
 have no:∀b,H b=none→upd H a (.dK ys) b=none:=fun b q=>by rw [ac (fun z=>by subst z;rw [e] at q;cases q)];exact q
 refine ⟨I.ok,I.os,I.bare,⟨I.base.keep,I.base.slot,fun b u q n hx=>no b (I.base.free b u q n hx),I.base.there,fun b xs q=>nh b _ (I.base.tups b xs q) (fun _ _ z=>nomatch z),fun b u v q=>by rw [ac (fun z=>by subst z;exact hz _ _ q)];exact I.base.frzs b u v q,fun b ps q=>let ⟨m,z⟩:=I.base.tbls b ps q;⟨m,nh b _ z (fun _ _ z=>nomatch z)⟩⟩,I.loc,I.cell,no _ I.free,fun x c q=>no _ (I.freeC x c q),fun p hp=>let ⟨h1,h2,h3⟩:=I.pin p hp;⟨h1,no _ h2,h3⟩,fun b u q=>?_,I.len⟩
 have st:∀ {b:Addr} {u:HO},ObjOk X.prog X.w H s.heap b u→ObjOk X.prog X.w (upd H a (.dK ys)) s.heap b u:=fun {b u} x=>x.stay (fun _ _ _ q=>q) (fun c q=>nh c _ q (fun _ _ z=>nomatch z)) fun c xs q=>nh c _ q fun _ _ z=>nomatch z
 by_cases hb:b=a
 ·subst hb
  rw [ao] at q
  cases q
  exact st (I.hok b _ e).2
 ·rw [ac hb] at q
  exact st (I.hok b u q)
theorem AW (I:L2.Inv X pins σ H s) (e:H a=some (.dK ys)):∀u q,X.H₀ a≠some (.frz u q):=fun u q z=>by
 have:=I.base.frzs a u q z
 rw [e] at this
 cases this
end
section
variable {K:W.Frag} {m m2:List Addr} {H H2:Hp} {st:AH} {n:Nat} {a:Addr} {o:Obj} {ys:List (Key × V)} {kvs:List (Key × PV)}
theorem RH.frz (h:RH K m H st) (e:m[n]?=some a) (g:H a=some (.dK ys)) (r1:ys.map (·.1)=kvs.map (·.1)) (r2:Rs K m H (kvs.map (·.2)) (ys.map (·.2))):RH K m (upd H a (.frz o (.dK ys))) (st.set n (.fz kvs)):=by
 have x:Ext K m H m (upd H a (.frz o (.dK ys))):=Ext.set (ys:=[]) h e (nfD g)
 refine ⟨by simp [h.len],h.nd,fun k c b h1 h2=>?_,x.tb h.tb⟩
 by_cases hk:k=n
 ·subst hk
  have hl:k<st.length:=by rw [←h.len];exact (List.getElem?_eq_some_iff.mp e).1
  rw [List.getElem?_set_self hl] at h1
  rw [e] at h2
  cases h1
  cases h2
  exact ⟨o,ys,ao,r1,r2.mono x⟩
 ·rw [List.getElem?_set_ne (Ne.symm hk)] at h1
  exact (h.at_ k c b h1 h2).mono x (ac fun z=>hk (kG h.nd h2 (z ▸ e)))
theorem df (hD:H a=some (.frz o (.dK ys))):∀b us,SqT K H b us→SqT K (upd H a (.dK ys)) b us:=fun b us q=>by
 rcases q with (q|⟨w,q⟩)|q
 ·exact .inl (.inl (by rw [ac (fun z=>by subst z;rw [hD] at q;cases q)];exact q))
 ·exact .inl (.inr ⟨w,by rw [ac (fun z=>by subst z;rw [hD] at q;cases q)];exact q⟩)
 ·exact .inr q
theorem cZ (hD:H a=some (.frz o (.dK ys))):∀b us,RdF K H b us→RdF K (upd H a (.dK ys)) b us:=fun b us q=>by
 rcases q with ⟨w,q⟩|q
 ·exact .inl ⟨w,by rw [ac (fun z=>by subst z;rw [hD] at q;cases q)];exact q⟩
 ·exact .inr q
theorem TB.thaw (t:TB K H) (hD:H a=some (.frz o (.dK ys))):TB K (upd H a (.dK ys)) :=
 t.keep (fun b ps q=>by rw [ac (fun z=>by subst z;rw [hD] at q;cases q)];exact q) fun b w q=>by rw [ac (fun z=>by subst z;rw [hD] at q;cases q)];exact q
theorem RH.thaw (h:RH K m H st) (e:m[n]?=some a) (hF:H a=some (.frz o (.dK ys))) (hs:st[n]?=some (.fz kvs)):RH K m (upd H a (.dK ys)) (st.set n (.dk kvs)):=by
 refine ⟨by simp [h.len],h.nd,fun k c b h1 h2=>?_,h.tb.thaw hF⟩
 by_cases hk:k=n
 ·subst hk
  have hl:k<st.length:=(List.getElem?_eq_some_iff.mp hs).1
  rw [List.getElem?_set_self hl] at h1
  rw [e] at h2
  cases h1
  cases h2
  obtain ⟨o',ys',g1,g2,g3⟩:=h.at_ k _ a hs e
  rw [hF] at g1
  cases g1
  exact ⟨ys,ao,g2,g3.mono0 (df hF) (cZ hF)⟩
 ·rw [List.getElem?_set_ne (Ne.symm hk)] at h1
  have ne:b≠a:=fun z=>hk (kG h.nd h2 (z ▸ e))
  have hc:=h.at_ k c b h1 h2
  cases c with
  | lst xs=>obtain ⟨us,g1,g2⟩:=hc;exact ⟨us,by rw [ac ne];exact g1,g2.mono0 (df hF) (cZ hF)⟩
  | dk kvs=>obtain ⟨us,g1,g2,g3⟩:=hc;exact ⟨us,by rw [ac ne];exact g1,g2,g3.mono0 (df hF) (cZ hF)⟩
  | fz kvs=>obtain ⟨w,us,g1,g2,g3⟩:=hc;exact ⟨w,us,by rw [ac ne];exact g1,g2,g3.mono0 (df hF) (cZ hF)⟩
theorem Ext.thaw (h:RH K m H st) (e:m[n]?=some a) (g:H a=some (.dK ys)) (x:Ext K m (upd H a (.frz o (.dK ys))) m2 H2):Ext K m H m2 (upd H2 a (.dK ys)):=by
 have hm:a∈m:=List.mem_of_getElem? e
 have y:Ext K m H m (upd H a (.frz o (.dK ys))):=Ext.set (ys:=[]) h e (nfD g)
 have hF:H2 a=some (.frz o (.dK ys)):=x.frz _ _ _ ao
 have z:=y.trans x
 refine ⟨z.pre,z.new,fun b u hb q n=>?_,fun b us q=>df hF b us (z.tup b us q),fun b us q=>cZ hF b us (z.rdf b us q),fun b ps hb q=>?_,fun t=>(z.tb t).thaw hF,fun b u v q=>?_⟩
 ·rw [ac (show b≠a from fun w=>hb (by rw [w];exact hm))];exact z.fr b u hb q n
 ·rw [ac (show b≠a from fun w=>hb (by rw [w];exact hm))];exact z.tbs b ps hb q
 ·rw [ac (fun w=>by subst w;exact nfD g _ _ q)];exact z.frz b u v q
end
section
variable {X:Cx} {c:Cfg} {Γ:Nat→FSp}
noncomputable def wiF (X:Cx) (Γ:Nat→FSp) (wk:DW) (e:E):TI:=fun σ H Rr=>∃m ρ st,RF X.K m H ρ σ∧RH X.K m H st∧wpE Γ e ρ st fun x st1=>∃n kvs,x=.ref n∧st1[n]?=some (.dk kvs) ∧
 ∀m1 H1 a o ys,Ext X.K m H m1 H1→RH X.K m1 H1 st1→m1[n]?=some a→H1 a=some (.dK ys)→ys.map (·.1)=kvs.map (·.1)→Rs X.K m1 H1 (kvs.map (·.2)) (ys.map (·.2))→(∀u q,X.H₀ a≠some (.frz u q))→Rr (ItF wk a o ys) (upd H1 a (.frz o (.dK ys)))
theorem B3 (C:COk X c Γ) {tg u:Expr} {e:E} (he:PE X u (TEx X.K (wpE Γ e))):PI X tg u (wiF X Γ .keys e):=by
 rintro pins s σ H Rr I ⟨m,ρ,st,rf,rh,w⟩
 refine thn (he pins s σ H (fun x H1=>∃a ys,x=.ref a∧H1 a=some (.dK ys)∧∀o,(∀u q,X.H₀ a≠some (.frz u q))→Rr (ItF .keys a o ys) (upd H1 a (.frz o (.dK ys)))) I ⟨m,ρ,st,rf,rh,aa C.mono e (fun v st1 k m1 H1 x1 e1 r1 r2=>?_) w⟩) fun v s1 ⟨x,H1,I1,r1,a,ys,ex,hd,q⟩=>?_
 ·obtain ⟨n,kvs,rfl,h1,k⟩:=k
  obtain ⟨b,ys,rfl,eb,g,r3,r4⟩:=r1.dkat h1 r2
  exact ⟨b,ys,rfl,g,fun o hz=>k m1 H1 b o ys e1 r1 eb g r3 r4 hz⟩
 ·subst ex
  cases r1
  obtain ⟨z,hm,vs,rel,o,es,ep,ho,rr⟩:=lm I1.hok hd
  have hO:ObD X.prog X.w a o ys vs ep:=⟨rel,fun h e=>⟨o,es,e,rr⟩⟩
  refine wpAny_pyIter_dict hm (hO.2 _ ho) ?_
  refine ⟨s1.heap.objs.size,[s1.heap.objs.size],_,_,_,rfl,(l_ I1 hd ho).kept (t':=s1.toks) fun b u e=>Heap.get?_push_of_some _ e,xy hO,⟨_,Heap.get?_push_size _ rfl,rfl,rfl⟩,fun b hb=>?_,q o (AW I1 hd)⟩
  have e:b=s1.heap.objs.size:=by simpa using hb
  subst e
  exact I1.fpOk (Nat.le_refl _) ((l_ I1 hd ho).hok.fresh (Nat.le_refl _))
noncomputable def vS (v a:Addr):HO:=.ext fun h=>h.IsItemsView v a
theorem xR:MtR X "dict.items" (fun x xs H Q=>∃a kvs,x=.ref a∧xs=[]∧H a=some (.dK kvs)∧∀v,H v=none→Q (.ref v) (upd H v (vS v a))):=by
 rintro pins s σ H x xs v us Q I rx rv ⟨a,kvs,rfl,rfl,g,q⟩
 cases rx
 cases rv
 obtain ⟨z,hm,vs,rel,dd⟩:=lm I.hok g
 refine call_meetsIn PySem.F.slot_dict_items dd.typeIs PySem.F.entry_dict_items (PySem.F.args_dict_items_1 _) (meets_dict_items (aD X.prog X.w) a hm) ⟨⟨vs,dd⟩,?_⟩
 refine ⟨.ref s.heap.objs.size,_,I.laid (t':=s.toks) (fun b u e=>Heap.get?_push_of_some _ e) (Nat.le_refl _) (show ObjOk X.prog X.w _ _ _ (vS s.heap.objs.size a) from ⟨⟨_,Heap.get?_push_size _ rfl,rfl,rfl⟩,⟨_,Heap.get?_push_size _ rfl⟩,fun h1 h2 z e=>let ⟨ob,h3,r⟩:=z;⟨ob,e _ h3,r⟩⟩),rfl,q _ (I.hok.fresh (Nat.le_refl _))⟩
theorem y6 (C:COk X c Γ) {elts:List Expr} {kt:Nat} {pt ap cp:Pos} {y:Expr} {e:E} (hl:(ap.endLine == cp.line)=true) (hy:gc y=true) (he:PE X y (TEx X.K (wpE Γ e))):PI X (.Tuple elts kt pt) (.Call (.Attribute y "items" ap) [] [] cp) (wiF X Γ .items e):=by
 rintro pins s σ H Rr I ⟨m,ρ,st,rf,rh,w⟩
 have hE:=uq (X:=X) (apos:=ap) (cpos:=cp) PySem.F.plainAttrs_dict PySem.F.slot_dict_items PySem.F.type_dict_items xR he (fL hy) hl
 refine thn (hE pins s σ H (fun x H1=>∃v a ys,x=.ref v∧H1 v=some (vS v a)∧H1 a=some (.dK ys)∧∀o,(∀u q,X.H₀ a≠some (.frz u q))→Rr (ItF .items a o ys) (upd H1 a (.frz o (.dK ys)))) I ⟨m,ρ,st,rf,rh,aa C.mono e (fun v st1 k m1 H1 x1 e1 r1 r2=>?_) w⟩) fun v s1 ⟨x,H1,I1,r1,vw,a,ys,ex,hv,hd,q⟩=>?_
 ·obtain ⟨n,kvs,rfl,h1,k⟩:=k
  obtain ⟨b,ys,rfl,eb,g,r3,r4⟩:=r1.dkat h1 r2
  refine ⟨.inr (.inr (.inl ⟨rfl,.inl ⟨ys,g⟩⟩)),b,ys,rfl,rfl,g,fun v hv=>⟨v,b,ys,rfl,ao,?_,fun o hz=>?_⟩⟩
  ·rw [ac (aq g hv)];exact g
  ·have xv:=Ext.newT (o:=vS v b) r1 hv
   exact k m1 _ b o ys (e1.trans xv) (r1.newT hv) eb (by rw [ac (aq g hv)];exact g) r3 (r4.mono xv) hz
 ·subst ex
  cases r1
  obtain ⟨z,hm,vs,rel,o,es,ep,ho,rr⟩:=lm I1.hok hd
  have hO:ObD X.prog X.w a o ys vs ep:=⟨rel,fun h e=>⟨o,es,e,rr⟩⟩
  have hw:s1.heap.IsItemsView vw a:=(I1.hok vw _ hv).1
  refine wpAny_pyIter_items hw (hO.2 _ ho) ?_
  refine ⟨s1.heap.objs.size,[s1.heap.objs.size],_,_,_,rfl,(l_ I1 hd ho).kept (t':=s1.toks) fun b u e=>Heap.get?_push_of_some _ e,tL hO,⟨_,_,Heap.get?_push_size _ rfl⟩,fun b hb=>?_,q o (AW I1 hd)⟩
  have e:b=s1.heap.objs.size:=by simpa using hb
  subst e
  exact I1.fpOk (Nat.le_refl _) ((l_ I1 hd ho).hok.fresh (Nat.le_refl _))
theorem BF (C:COk X c Γ) {wk:DW} {tg ix:Expr} {e:E} (h1:BA wk tg=true) (h2:rM wk ix (fun y=>ar c e y)=true) (he:∀y,ar c e y=true→PE X y (TEx X.K (wpE Γ e))):PI X tg ix (wiF X Γ wk e):=by
 cases wk with
 | keys=>exact B3 C (he _ (wM h2).2)
 | items =>
  obtain ⟨y,ap,cp,rfl,h3,h4,h5⟩:=ui h2
  cases tg with
  | Tuple elts kt pt=>exact y6 C h3 h4 (he _ h5)
  | _=>cases h1
end
end FW
namespace FW
open L2 HX
section
variable {X:Cx} {pins:List (Addr × Obj)} {σ:L2.St} {H:Hp} {s:Shared} {a:Addr} {A:Around} {E:Value→Shared→Prop}
theorem xO {ds:List (Key × V)} {k:Key} {v:V} {u r:Value} {Q:Unit→Shared→Prop} (I:L2.Inv X pins σ H s) (e:H a=some (.dK ds)) (ry:L2.RelV (kV k) u) (rv:L2.RelV v r) (l:ds.length<sizeLine) (h:∀s',L2.Inv X pins σ (upd H a (.dK (gj ds k v))) s'→Q () s') :
  wpAny (model X.prog X.w) A (dictSet a u r) Q E s:=by
 obtain ⟨z,hd,vs,rel,dd⟩:=lm I.hok e
 refine wpAny_dictSet_pairs (hsz:=by rw [←rel.length];exact z) (pq ry) dd fun h' dd' hs=>h _ ?_
 have he:∃q,h'.get? a=some q:=let ⟨q,_,_,hq,_⟩:=dd';⟨q,hq⟩
 have hl:(gj ds k v).length≤sizeLine:=by have:=gF ds k v;omega
 exact lW I (by rw [e];exact True.intro) hs he (pM hl hd (rel.put k rv) dd')
end
theorem pV {prog:Program} {w:World} {A:Around} {R:Result→Shared→Prop} {s:Shared} {kx vx target iter:Expr} {ifs:List Expr} {scope:Scope} {pos:Pos} {it:Value} {D:Addr} {env:Env} (I:Nat→Shared→Prop)
  (turn:∀n s,I n s→wpAny (model prog w) A (pyNext it) (fun r s₁=>match r with
   | none=>R (.ok .next) s₁
   | some v=>wpAny (model prog w) A (letOwnedTupleGo target it v) (fun _ s0=>wpAny (model prog w) A (assign target env v) (fun _ s₂ =>
     wpAny (model prog w) A (forIn ifs true fun c r=>if r=true then do let ok ←isTrue c env (eval c env);pure (ForInStep.yield ok) else pure (ForInStep.yield r)) (fun ok s₃ =>
      if ok=true then wpAny (model prog w) A (eval kx env) (fun x s₄=>wpAny (model prog w) A (eval vx env) (fun y s₅ =>
       wpAny (model prog w) A (dictSet D x y) (fun _ s₆=>∃m,m<n∧I m s₆) (fun _ _=>False) s₅) (fun _ _=>False) s₄) (fun _ _=>False) s₃
      else ∃m,m<n∧I m s₃) (fun _ _=>False) s₂) (fun _ _=>False) s0) (fun _ _=>False) s₁) (fun _ _=>False) s)
  (n:Nat) (h:I n s):codeAny (model prog w) A (.compLoop (.DictComp kx vx [⟨target,iter,ifs,0⟩] scope pos) 0 it (.ref D) env) R s:=by
 refine codeAny_loop rfl I (fun n s hI=>?_) n h
 show wpAny _ A ((compTurn (.DictComp kx vx [⟨target,iter,ifs,0⟩] scope pos) 0 it (.ref D) env).onRaise (fun x=>do noteFrame x env;theTreesLotGoes x)) _ _ s
 refine wpAny_noted ?_
 rw [compTurn_dict]
 refine wpAny_bind (wpAny_standAt (wpAny_bind (wpAny_mono (turn n s hI) (fun r s₁ h₁=>?_) fun _ _ h'=>h'.elim)))
 cases r with
 | none=>exact wpAny_pure h₁
 | some v =>
  refine wpAny_bind (wpAny_mono h₁ (fun _ s0 h₁=>?_) fun _ _ h'=>h'.elim)
  refine wpAny_bind (wpAny_mono h₁ (fun _ s₂ h₂=>wpAny_bind (wpAny_mono h₂ (fun ok s₃ h₃=>?_) fun _ _ h'=>h'.elim)) fun _ _ h'=>h'.elim)
  cases ok with
  | false=>exact wpAny_pure ⟨rfl,h₃⟩
  | true =>
   exact wpAny_bind (wpAny_bind (wpAny_mono h₃ (fun x s₄ h₄=>wpAny_bind (wpAny_holding (wpAny_mono h₄ (fun y s₅ h₅=>wpAny_bind (wpAny_standAt (wpAny_holding (wpAny_mono h₅ (fun _ s₆ h₆=>wpAny_pure ⟨rfl,h₆⟩) fun _ _ h'=>h'.elim)))) fun _ _ h'=>h'.elim))) fun _ _ h'=>h'.elim))
section
variable {K:W.Frag} {m m':List Addr} {H H':Hp} {st:AH} {D:Addr} {ys zs:List (Key × V)}
theorem eR (hD:H D=some (.dK ys)):∀a us,SqT K H a us→SqT K (upd H D (.dK zs)) a us:=fun a us q=>by
 rcases q with (q|⟨w,q⟩)|q
 ·exact .inl (.inl (by rw [ac (fun z=>by subst z;rw [hD] at q;cases q)];exact q))
 ·exact .inl (.inr ⟨w,by rw [ac (fun z=>by subst z;rw [hD] at q;cases q)];exact q⟩)
 ·exact .inr q
theorem eX (hD:H D=some (.dK ys)):∀a us,RdF K H a us→RdF K (upd H D (.dK zs)) a us:=fun a us q=>by
 rcases q with ⟨w,q⟩|q
 ·exact .inl ⟨w,by rw [ac (fun z=>by subst z;rw [hD] at q;cases q)];exact q⟩
 ·exact .inr q
theorem TB.awayD (t:TB K H) (hD:H D=some (.dK ys)):TB K (upd H D (.dK zs)) :=
 t.keep (fun a ps q=>by rw [ac (fun z=>by subst z;rw [hD] at q;cases q)];exact q) fun a o q=>by rw [ac (fun z=>by subst z;rw [hD] at q;cases q)];exact q
theorem Ext.awayD (x:Ext K m H m' H') (h0:H D=none) (hD:H' D=some (.dK ys)):Ext K m H m' (upd H' D (.dK zs)) :=
 ⟨x.pre,x.new,fun a o ha e n=>by rw [ac (aq e h0)];exact x.fr a o ha e n,fun a us q=>eR hD a us (x.tup a us q),fun a us q=>eX hD a us (x.rdf a us q),fun a ps ha e=>let ⟨p1,e1⟩:=x.tbs a ps ha e;⟨p1,by rw [ac (aq e h0)];exact e1⟩,fun t=>(x.tb t).awayD hD,fun a o u e=>by rw [ac (aq e h0)];exact x.frz a o u e⟩
theorem RH.awayD (h:RH K m H st) (hm:D ∉ m) (hD:H D=some (.dK ys)):RH K m (upd H D (.dK zs)) st:=by
 refine ⟨h.len,h.nd,fun n c a h1 h2=>?_,h.tb.awayD hD⟩
 have ha:a≠D:=fun z=>hm (z ▸ List.mem_of_getElem? h2)
 have hc:=h.at_ n c a h1 h2
 cases c with
 | lst xs=>obtain ⟨us,g1,g2⟩:=hc;exact ⟨us,by rw [ac ha];exact g1,g2.mono0 (eR hD) (eX hD)⟩
 | dk kvs=>obtain ⟨us,g1,g2,g3⟩:=hc;exact ⟨us,by rw [ac ha];exact g1,g2,g3.mono0 (eR hD) (eX hD)⟩
 | fz kvs=>obtain ⟨o,us,g1,g2,g3⟩:=hc;exact ⟨o,us,by rw [ac ha];exact g1,g2,g3.mono0 (eR hD) (eX hD)⟩
theorem RF.awayD {ρ:Fr} {σ:L2.St} (h:RF K m H ρ σ) (hD:H D=some (.dK ys)):RF K m (upd H D (.dK zs)) ρ σ :=
 ⟨h.len,fun i v e=>let ⟨y,e1,r⟩:=h.at_ i v e;⟨y,e1,r.mono0 (eR hD) (eX hD)⟩⟩
theorem rE {ps:List (Str × PV)} {z:Str} {v:PV}:prL ps++[.tup [.str z,v]]=prL (ps++[(z,v)]):=by simp [prL]
theorem wn:∀ {ps qs:List (Str × PV)},prL ps=prL qs→ps=qs
 | [],[],_=>rfl
 | [],_::_,h=>by simp [prL] at h
 | _::_,[],h=>by simp [prL] at h
 | p::ps,q::qs,h=>by
  obtain ⟨p1,p2⟩:=p
  obtain ⟨q1,q2⟩:=q
  simp only [prL,List.map_cons,List.cons.injEq,PV.tup.injEq,PV.str.injEq,and_true] at h
  rw [wn (ps:=ps) (qs:=qs) h.2,h.1.1,h.1.2]
theorem i3 {ps:List (Str × PV)} {z:Str} {v:PV}:eY (ps++[(z,v)])=gb (eY ps) (.inr z) v:=by simp [eY]
theorem A_ {kvs:List (Key × PV)} {k:Key} {v:PV}:(gb kvs k v).length≤kvs.length+1:=by
 unfold gb
 split
 ·rw [List.length_map];omega
 ·rw [List.length_append];simp
end
section
variable {X:Cx} {Γ:Nat→FSp} {pins:List (Addr × Obj)} {σ:L2.St} {H:Hp} {s:Shared}
noncomputable def DRel (K:W.Frag) (m:List Addr) (H:Hp) (ps:List (Str × PV)) (ds:List (Key × V)):Prop:=ds.map (·.1)=(eY ps).map (·.1)∧Rs K m H ((eY ps).map (·.2)) (ds.map (·.2))
theorem DRel.mono {K:W.Frag} {m m':List Addr} {H H':Hp} {ps:List (Str × PV)} {ds:List (Key × V)} (h:DRel K m H ps ds) (x:Ext K m H m' H'):DRel K m' H' ps ds:=⟨h.1,h.2.mono x⟩
noncomputable def dj (K:W.Frag) (m1:List Addr) (H1:Hp) (Fin:Addr→Hp→Prop):LK:=fun vs st2=>∀m2 H2 D ps ds,vs=prL ps→Ext K m1 H1 m2 H2→RH K m2 H2 st2→D ∉ m2→H1 D=none→H2 D=some (.dK ds)→DRel K m2 H2 ps ds→Fin D H2
noncomputable def eZ (Γ:Nat→FSp) (kx vx:E) (tg:Tg) (ifs:Es) (ρ:Fr):PV→AH→(Option PV→AH→Prop)→Prop:=fun x st2 k=>bF Γ tg x ρ st2 fun ρ' st3=>dX Γ ifs ρ' st3 fun c st4 =>
 if c=true then wpE Γ kx ρ' st4 fun u st5=>wpE Γ vx ρ' st5 fun v st6=>∃z,u=.str z∧k (some (.tup [u,v])) st6 else k none st4
theorem oP (G:bb Γ) (hcalm:X.calm=true) {kx vx:E} {tg:Tg} {ifs:Es} {nt:List Str} {caps:List Nat} {cn:List Str} {ekx evx tgx iterx:Expr} {ifsx:List Expr} {scope:Scope} {pos p0:Pos} {use:Option (Value→Sem Unit)} {Qf:Value→Shared→Prop} {Fin:Addr→Hp→Prop} {wi:TI}
  (S:CScope X scope) (hcn:cn=caps.filterMap (X.N[·]?)) (hcl:∀i∈caps,i<X.N.length) (hcf:∀x∈cn,scope.names.lookup x=some .free) (hce:∀x∈cn,X.env.kindOf x=some .cell∨X.env.kindOf x=some .free)
  (hset:fe iterx=true) (hlow:tg.low nt.length=true) (hI:PI X tgx iterx wi)
  (hG:∀s2 H2 fp C,PG (cxC X (nt++cn) s2 H2 fp scope C) tgx (TGx X.K (bF Γ tg)))
  (hT:∀s2 H2 fp C,PTs (cxC X (nt++cn) s2 H2 fp scope C) ifsx (TTx X.K (dX Γ ifs)))
  (hK:∀s2 H2 fp C,PE (cxC X (nt++cn) s2 H2 fp scope C) ekx (TEx X.K (wpE Γ kx)))
  (hE:∀s2 H2 fp C,PE (cxC X (nt++cn) s2 H2 fp scope C) evx (TEx X.K (wpE Γ vx)))
  (I:L2.Inv X pins σ H s)
  (h:wi σ H fun J H1=>∃m ρ st1 xs chk,RF X.K m H1 ρ σ∧RH X.K m H1 st1∧kU X.K J xs chk m H1∧xs.length<100000∧aQ chk (eZ Γ kx vx tg ifs (nt.map (fun _=>none)++caps.map fun i=>(ρ[i]?).join)) xs [] st1 (dj X.K m H1 Fin))
  (fin:∀C D H' s' m',L2.Inv X pins σ H' s'→s'.heap.Ns C m'→iE X pins H' C→Fin D H'→compPost (model X.prog X.w) X.A X.xe use Qf (.ref D) C (.ok .next) s') :
  wpAny (model X.prog X.w) X.A (comprehension (.DictComp ekx evx [⟨tgx,iterx,ifsx,0⟩] scope pos) scope X.env p0 newDict false (eval iterx X.env) use) Qf X.xe s:=by
 refine wpAny_comprehension_free (use:=use) rfl (jg hset) (m_ (S.cells I)) S.kind S.nms ?_
 refine thn (hI pins s σ H _ I h) fun v s1 h1=>thn h1 fun itv s2 h2=>?_
 obtain ⟨it,fp,tn,J,H2,e,I2,T,st2,f2,m,ρ,st1,xs,chk,rf,rh,W,hxs,w⟩:=h2
 subst e
 have fl:∀b∈fp,b<s2.heap.objs.size:=fun b hb=>by
  obtain ⟨o,e,_⟩:=T.obj 0 _ st2 b hb
  exact Heap.lt_size e
 refine wpAny_newObj_type (wpAny_newFunctionEnv S.nocell (by intro y hy;simp at hy) (fun h₁ hns₁ hsb₁=>?_) S.kind)
 dsimp only at hns₁ hsb₁ ⊢
 have hbig:sysModules<s2.heap.objs.size:=L2.Inv.big I2
 have hnew:(s2.heap.push { cls:=.type "dict",dict:=none,data:=.dict #[] }).DictOf (aD X.prog X.w) s2.heap.objs.size []:=Heap.DictOf.new s2.heap
 generalize hD:s2.heap.objs.size=D at *
 generalize hH3:s2.heap.push { cls:=.type "dict",dict:=none,data:=.dict #[] }=P3 at hns₁ hsb₁ hnew ⊢
 generalize hCC:P3.objs.size=C at *
 have hC1:C=D+1:=by rw [←hCC,←hH3,Heap.size_push,hD]
 have ltDC:D<C:=by rw [hC1];exact Nat.lt_succ_self D
 have neC:∀b,b<D→b≠C:=fun b hb=>Nat.ne_of_lt (Nat.lt_trans hb ltDC)
 have hDn:H2 D=none:=by rw [←hD];exact I2.hok.fresh (Nat.le_refl _)
 have hCn:H2 C=none:=I2.hok.fresh (by rw [hD];exact Nat.le_of_lt ltDC)
 have old3:∀b o,s2.heap.get? b=some o→P3.get? b=some o:=fun b o e=>hH3 ▸ Heap.get?_push_of_some _ e
 have old:∀b o,s2.heap.get? b=some o→h₁.get? b=some o:=fun b o e=>hsb₁.extBut b o (neC b (hD ▸ Heap.lt_size e)) (Heap.get?_push_of_some _ (old3 b o e))
 have newD:h₁.DictOf (aD X.prog X.w) D []:=hnew.at fun o e=>hsb₁.extBut _ _ (Nat.ne_of_lt ltDC) (Heap.get?_push_of_some _ e)
 have un:Un (frs X.stack) fp H2 (upd H2 D (.dK [])) s2.heap h₁:=Un.laid old (by rw [hD];exact Nat.le_refl _) hDn
 have hok:HOk X.prog X.w (upd H2 D (.dK [])) h₁:=I2.hok.laid old (by rw [hD];exact Nat.le_refl _) ⟨Nat.zero_le _,by
  have:D≠sysModules:=Nat.ne_of_gt hbig
  simpa using this,[],.nil,newD⟩
 have I4:=rR (nt:=nt) (tk:=s2.toks+([]:List (Str × Value)).length) S I2 f2 (by rw [hD];exact fl) (C:=C) (by rw [hD];exact Nat.le_of_lt ltDC) un hok (by simpa using hns₁) (by rw [ac (Nat.ne_of_gt ltDC)];exact hCn) old
  (fun b o e n=>by rw [ac (Nat.ne_of_lt (hD ▸ Heap.lt_size e))];exact n) hcn hcl hcf hce
 generalize hρ0:(nt.map (fun _=>none)++caps.map fun i=>(ρ[i]?).join:Fr)=ρ0 at w
 have hρn:∀i v,ρ0[i]?=some (some v)→nt.length≤i:=by rw [←hρ0];exact jU
 have rf0:RF X.K m H2 ρ0 (nt.map (fun _=>none)++caps.map fun i=>(σ[i]?).join):=by rw [←hρ0];exact v8 rf
 generalize (nt.map (fun _=>none)++caps.map fun i=>(σ[i]?).join:L2.St)=σ0 at I4 rf0
 have loop:codeAny (model X.prog X.w) X.A (.compLoop (.DictComp ekx evx [⟨tgx,iterx,ifsx,0⟩] scope pos) 0 (.ref it) (.ref D) (compEnvC scope (ii X.env scope.names []) C X.env)) (compPost (model X.prog X.w) X.A X.xe use Qf (.ref D) C)
   { s2 with heap:=h₁,toks:=s2.toks+([]:List (Str × Value)).length }:=by
  refine pV (fun n s'=>∃(i:Nat),∃σ' H' m' st' ps ds,n+i=xs.length∧L2.Inv (cxC X (nt++cn) s2 H2 fp scope C) [] σ' H' s'∧tn i s'.heap∧(∀b∈fp,H' b=none)∧Ext X.K m H2 m' H'∧RH X.K m' H' st'∧RF X.K m' H' ρ0 σ'∧D ∉ m'∧H' D=some (.dK ds)∧DRel X.K m' H' ps ds∧(eY ps).length≤i ∧
   aQ chk (eZ Γ kx vx tg ifs ρ0) (xs.drop i) (prL ps) st' (dj X.K m H2 Fin)) ?_ xs.length
   ⟨0,σ0,_,m,st1,[],[],rfl,I4,T.keep 0 _ _ st2 (fun b _ o e=>old b o e),fun b hb=>by rw [ac (Nat.ne_of_lt (fl b hb))];exact (f2 b hb).1,Ext.newT rh hDn,rh.newT hDn,rf0.mono (Ext.newT rh hDn),rh.fresh hDn,ao,⟨rfl,Rs_nil.mpr rfl⟩,Nat.le_refl _,by simpa [prL] using w⟩
  rintro n s' ⟨i,σ',H',m',st',ps,ds,hn,I',tni,fpn,x',rh',rf',Dm,hDl,rys,hly,k⟩
  have stat:∀ {H'':Hp},(∀b∈fp,H'' b=none)→∀b∈fp,iE (cxC X (nt++cn) s2 H2 fp scope C) [] H'' b:=fun hz b hb=>⟨hz b hb,(I'.ok.exf b hb).1,I'.ok.exfs b hb,.inl hb,(I'.ok.exf b hb).2,fun p hp=>absurd (show p∈([]:List (Addr × Obj)) from hp) (by simp)⟩
  cases q:xs.drop i with
  | nil =>
   rw [q] at k
   have hi:i=xs.length:=by
    have:=congrArg List.length q
    simp at this
    omega
   subst hi
   refine thn (T.done (cxC X (nt++cn) s2 H2 fp scope C) rfl rfl rfl hcalm _ [] s' σ' H' (fun _ _=>False) I' (stat fpn) tni (W.stop m' H' st' x' rh' k.1)) fun r s1 ⟨hr,I1⟩=>?_
   subst hr
   have IX:L2.Inv X pins σ H' s1:=I2.call' I1.os I1.base I1.hok I1.bare fun b hb=>⟨(f2 b hb).2.2.2.1,(f2 b hb).2.1,(f2 b hb).2.2.2.2.1,(f2 b hb).2.2.2.2.2⟩
   obtain ⟨mm,hns,_⟩:=I1.loc
   exact fin C D H' s1 mm IX hns (I2.fpOk (by rw [hD];exact Nat.le_of_lt ltDC) I1.free) (k.2 m' H' D ps ds rfl x' rh' Dm hDn hDl rys)
  | cons v rest =>
   rw [q] at k
   have hi:i<xs.length:=by
    have:=congrArg List.length q
    simp at this
    omega
   have ev:xs[i]?=some v:=by
    have:=congrArg List.head? q
    rw [List.head?_drop] at this
    exact this
   have er:rest=xs.drop (i+1):=by
    have:=congrArg List.tail q
    rw [List.tail_drop] at this
    exact this.symm
   subst er
   obtain ⟨kc,k⟩:=k
   obtain ⟨go,yl⟩:=W.item i v m' H' st' x' rh' kc ev
   refine thn (T.item (cxC X (nt++cn) s2 H2 fp scope C) rfl rfl rfl hcalm i [] s' σ' H' (fun _ _=>False) I' (stat fpn) tni go) fun r s4 ⟨u,hr,h4⟩=>?_
   subst hr
   refine thn h4 fun _ s5 ⟨x,H5,I5,r5,y5,tn5,fr5⟩=>?_
   obtain ⟨x5,rh5,rv5⟩:=yl x H5 y5
   have I5':=I5.pinned (stat fr5) (T.obj _ _ tn5)
   have again:∀ {σ7:L2.St} {H7:Hp} {s7:Shared} {m7:List Addr} {st7:AH} {ps7:List (Str × PV)} {ds7:List (Key × V)},L2.Inv (cxC X (nt++cn) s2 H2 fp scope C) ([]++kn fp s5.heap) σ7 H7 s7→Ext X.K m H2 m7 H7→RH X.K m7 H7 st7→RF X.K m7 H7 ρ0 σ7→D ∉ m7→H7 D=some (.dK ds7) →
     DRel X.K m7 H7 ps7 ds7→(eY ps7).length≤i+1→aQ chk (eZ Γ kx vx tg ifs ρ0) (xs.drop (i+1)) (prL ps7) st7 (dj X.K m H2 Fin) →
     ∃n',n'<n∧∃(i:Nat),∃σ' H' m' st' ps ds,n'+i=xs.length∧L2.Inv (cxC X (nt++cn) s2 H2 fp scope C) [] σ' H' s7∧tn i s7.heap∧(∀b∈fp,H' b=none)∧Ext X.K m H2 m' H'∧RH X.K m' H' st'∧RF X.K m' H' ρ0 σ'∧D ∉ m'∧H' D=some (.dK ds)∧DRel X.K m' H' ps ds∧(eY ps).length≤i ∧
      aQ chk (eZ Γ kx vx tg ifs ρ0) (xs.drop i) (prL ps) st' (dj X.K m H2 Fin):=fun {σ7 H7 s7 m7 st7 ps7 ds7} I7 g1 g2 g3 g4 g5 g6 g7 g8=>by
    refine ⟨n-1,by omega,i+1,σ7,H7,m7,st7,ps7,ds7,by omega,I7.unpinned,T.keep _ _ _ tn5 fun b hb o e=>(I7.pin (b,o) (List.mem_append_right _ (List.mem_append_right _ (dI hb e)))).1,fun b hb=>?_,g1,g2,g3,g4,g5,g6,g7,g8⟩
    obtain ⟨o,e,d⟩:=T.obj _ _ tn5 b hb
    exact (I7.pin (b,o) (List.mem_append_right _ (List.mem_append_right _ (dI hb e)))).2.1
   have k2:=kZ (n:=nt.length) G tg hlow k
   refine thn (hG s2 H2 fp C _ s5 σ' H5 x u (fun σ6 H6=>∃m6 ρ1 st6,Ext X.K m' H5 m6 H6∧RH X.K m6 H6 st6∧RF X.K m6 H6 ρ1 σ6∧(∀j,nt.length≤j→ρ1[j]?=ρ0[j]?) ∧
    dX Γ ifs ρ1 st6 fun c st4=>if c=true then wpE Γ kx ρ1 st4 fun uu st5=>wpE Γ vx ρ1 st5 fun vv st8=>∃z,uu=.str z∧aQ chk (eZ Γ kx vx tg ifs ρ0) (xs.drop (i+1)) (prL ps++[.tup [uu,vv]]) st8 (dj X.K m H2 Fin) else aQ chk (eZ Γ kx vx tg ifs ρ0) (xs.drop (i+1)) (prL ps) st4 (dj X.K m H2 Fin)) I5' r5
    ⟨m',ρ0,st',v,rf'.mono x5,rh5,rv5,aw G tg (fun ρ1 st6 z m6 H6 σ6 x6 rh6 rf6=>⟨m6,ρ1,st6,x6,rh6,rf6,z.2,aI G ifs (fun c st4 zz=>by
     cases c with
     | true=>rw [if_pos rfl] at zz ⊢;exact zz
     | false=>rw [if_neg Bool.false_ne_true] at zz ⊢;simpa using zz) z.1⟩) k2⟩) fun _ s6 ⟨σ6,H6,I6,m6,ρ1,st6,x6,rh6,rf6,pr,w6⟩=>?_
   have hlen:ρ0.length=ρ1.length:=by rw [rf6.len,I6.len,rf'.len,I'.len]
   refine thn (hT s2 H2 fp C _ s6 σ6 H6 (fun b H7=>∃m7 st7,Ext X.K m6 H6 m7 H7∧RH X.K m7 H7 st7∧if b=true then wpE Γ kx ρ1 st7 fun uu st5=>wpE Γ vx ρ1 st5 fun vv st8=>∃z,uu=.str z∧aQ chk (eZ Γ kx vx tg ifs ρ0) (xs.drop (i+1)) (prL ps++[.tup [uu,vv]]) st8 (dj X.K m H2 Fin) else aQ chk (eZ Γ kx vx tg ifs ρ0) (xs.drop (i+1)) (prL ps) st7 (dj X.K m H2 Fin)) I6
    ⟨m6,ρ1,st6,rf6,rh6,aI G ifs (fun b st7 z m7 H7 x7 rh7=>⟨m7,st7,x7,rh7,z⟩) w6⟩) fun b s7 ⟨H7,I7,m7,st7,x7,rh7,w7⟩=>?_
   have xx7:Ext X.K m' H' m7 H7:=(x5.trans x6).trans x7
   cases b with
   | false =>
    rw [if_neg Bool.false_ne_true] at w7 ⊢
    refine again I7 (x'.trans xx7) rh7 ((rf6.mono x7).less hlen hρn pr) (fun z=>?_) (xx7.fr D _ Dm hDl fun _ z=>nomatch z) (rys.mono xx7) (by omega) w7
    rcases xx7.new D z with z|z
    ·exact Dm z
    ·rw [hDl] at z;cases z
   | true =>
    rw [if_pos rfl] at w7 ⊢
    refine thn (hK s2 H2 fp C _ s7 σ6 H7 (fun y H8=>∃m8 st8 uu,Ext X.K m7 H7 m8 H8∧RH X.K m8 H8 st8∧R X.K m8 H8 uu y∧wpE Γ vx ρ1 st8 fun vv st9=>∃z,uu=.str z∧aQ chk (eZ Γ kx vx tg ifs ρ0) (xs.drop (i+1)) (prL ps++[.tup [uu,vv]]) st9 (dj X.K m H2 Fin)) I7
     ⟨m7,ρ1,st7,rf6.mono x7,rh7,aa G kx (fun uu st8 z m8 H8 y x8 rh8 r8=>⟨m8,st8,uu,x8,rh8,r8,z⟩) w7⟩) fun ux s8 ⟨kk,H8,I8,rk,m8,st8,uu,x8,rh8,r8,w8⟩=>?_
    refine thn (hE s2 H2 fp C _ s8 σ6 H8 (fun y H9=>∃m9 st9 vv z,Ext X.K m8 H8 m9 H9∧RH X.K m9 H9 st9∧R X.K m9 H9 vv y∧uu=.str z∧aQ chk (eZ Γ kx vx tg ifs ρ0) (xs.drop (i+1)) (prL ps++[.tup [uu,vv]]) st9 (dj X.K m H2 Fin)) I8
     ⟨m8,ρ1,st8,(rf6.mono x7).mono x8,rh8,aa G vx (fun vv st9 z m9 H9 y x9 rh9 r9=>let ⟨zz,e9,k9⟩:=z;⟨m9,st9,vv,zz,x9,rh9,r9,e9,k9⟩) w8⟩) fun uy s9 ⟨y,H9,I9,ry,m9,st9,vv,z,x9,rh9,r9,ez,w9⟩=>?_
    subst ez
    rw [R_str] at r8
    subst r8
    have xx9:Ext X.K m' H' m9 H9:=(xx7.trans x8).trans x9
    have hD9:H9 D=some (.dK ds):=xx9.fr D _ Dm hDl fun _ z=>nomatch z
    have Dm9:D ∉ m9:=fun z=>by
     rcases xx9.new D z with z|z
     ·exact Dm z
     ·rw [hDl] at z;cases z
    have dl:ds.length=(eY ps).length:=by simpa using congrArg List.length rys.1
    refine xO (X:=cxC X (nt++cn) s2 H2 fp scope C) (k:=.inr z) I9 hD9 rk ry (fZ (by omega)) fun s10 I10=>?_
    rw [rE] at w9
    have rr:=Ab (k:=.inr z) r9 (rys.mono xx9).1 (rys.mono xx9).2
    have dr:DRel X.K m9 (upd H9 D (.dK (gj ds (.inr z) y))) (ps++[(z,vv)]) (gj ds (.inr z) y):=⟨by rw [i3];exact rr.1,by rw [i3];exact rr.2.mono0 (eR hD9) (eX hD9)⟩
    refine again I10 ((x'.trans xx9).awayD hDn hD9) (rh9.awayD Dm9 hD9) (((((rf6.mono x7).mono x8).mono x9).less hlen hρn pr).awayD hD9) Dm9 ao dr ?_ w9
    have:=A_ (kvs:=eY ps) (k:=.inr z) (v:=vv)
    rw [i3]
    omega
 exact codeAny_compStart_dict loop (T.self X.A 0 _ _ _ (T.keep 0 _ _ st2 fun b _ o e=>old b o e) loop)
end
end FW
namespace FW
open L2 HX
section
variable {prog:Program} {w:World} {A:Around} {E:Value→Shared→Prop} {s:Shared}
variable {R:Result→Shared→Prop}
end
end FW
namespace FW
open L2 HX
section
variable {prog:Program} {w:World} {A:Around} {E:Value→Shared→Prop} {s:Shared}
end
section
variable {X:Cx} {c:Cfg} {Γ:Nat→FSp}
end
end FW
namespace FW
open L2 HX
noncomputable def EqW (prog:Program) (w:World) (A:Around) (s:Shared) (y x:Value):Prop:=∀(E:Value→Shared→Prop) (Q:Bool→Shared→Prop),Q true s→wpAny (model prog w) A (eqBool y x) Q E s
section
variable {prog:Program} {w:World}
theorem t9 (p q:Addr) (us vs:Array Value) (op op2:Obj) (c1:op.cls=.type "tuple") (c2:op2.cls=.type "tuple") (k1 k2:Nat) (d1:op.data=.seq us k1) (d2:op2.data=.seq vs k2) (hn:us.size=vs.size) :
  MeetsIn prog w (Builtin.«tuple.__ne__» ⟨[.ref p,.ref q],[]⟩) (fun A R s=>s.heap.get? p=some op∧s.heap.get? q=some op2∧(∀j (h1:j<us.size) (h2:j<vs.size),EqW prog w A.in1 s us[j] vs[j])∧R (.ok (.ret (.bool false))) s) :=
 .of_wp fun A R s h=>by
  obtain ⟨cl,dd,dt,sl⟩:=op
  obtain ⟨cl2,dd2,dt2,sl2⟩:=op2
  simp only at c1 c2 d1 d2
  subst c1 c2 d1 d2
  obtain ⟨hp,g,dr,tk,os⟩:=s;obtain ⟨hl,hb,he,hR⟩:=h
  have f2:=AutoSeq1.sub_tuple_tuple
  have hZ:(us.toList.zip vs.toList).length=us.size:=by simp [hn]
  wp_walk using AutoSeq1.wpAny_loadPart' hl,AutoSeq1.wpAny_loadPart' hb,wpAny_forIn_list _ (fun left b s'=>b.1=none∧s'=⟨hp,g,dr,tk,os⟩∧∃i,left=(us.toList.zip vs.toList).drop i) _
  case turn =>
   rintro ⟨y,x⟩ left b s' ⟨hb',rfl,i,hz⟩
   have hlt:i<(us.toList.zip vs.toList).length:=by
    rcases Nat.lt_or_ge i (us.toList.zip vs.toList).length with h' | h'
    ·exact h'
    ·rw [List.drop_of_length_le h'] at hz;cases hz
   have h1:i<us.size:=by omega
   have h2:i<vs.size:=by omega
   rw [List.drop_eq_getElem_cons hlt] at hz
   injection hz with hyx hleft
   have hy:y=us[i]:=by have:=congrArg Prod.fst hyx;simpa using this
   have hx:x=vs[i]:=by have:=congrArg Prod.snd hyx;simpa using this
   subst hy hx
   refine wpAny_bind (he i h1 h2 _ _ ?_)
   wp_walk
   exact ⟨rfl,rfl,i+1,hleft⟩
  case fin =>
   rintro ⟨b1,b2⟩ s' ⟨hb',rfl,i,hz⟩
   simp only at hb'
   subst hb'
   wp_walk
   exact ⟨_,rfl,by simpa [Builtin.Tuple.tupleCompareSizes,bne,hn] using hR⟩
  case h=>exact ⟨rfl,rfl,0,rfl⟩
theorem vz (p q:Addr) (us vs:Array Value) (op op2:Obj) (c1:op.cls=.type "tuple") (c2:op2.cls=.type "tuple") (k1 k2:Nat) (d1:op.data=.seq us k1) (d2:op2.data=.seq vs k2) (hn:us.size=vs.size) :
  MeetsIn prog w (Builtin.«tuple.__eq__» ⟨[.ref p,.ref q],[]⟩) (fun A R s=>s.heap.get? p=some op∧s.heap.get? q=some op2∧(∀j (h1:j<us.size) (h2:j<vs.size),EqW prog w A.in1 s us[j] vs[j])∧R (.ok (.ret (.bool true))) s) :=
 .of_wp fun A R s h=>by
  obtain ⟨cl,dd,dt,sl⟩:=op
  obtain ⟨cl2,dd2,dt2,sl2⟩:=op2
  simp only at c1 c2 d1 d2
  subst c1 c2 d1 d2
  obtain ⟨hp,g,dr,tk,os⟩:=s;obtain ⟨hl,hb,he,hR⟩:=h
  have f2:=AutoSeq1.sub_tuple_tuple
  have hZ:(us.toList.zip vs.toList).length=us.size:=by simp [hn]
  wp_walk using AutoSeq1.wpAny_loadPart' hl,AutoSeq1.wpAny_loadPart' hb,wpAny_forIn_list _ (fun left b s'=>b.1=none∧s'=⟨hp,g,dr,tk,os⟩∧∃i,left=(us.toList.zip vs.toList).drop i) _
  case turn =>
   rintro ⟨y,x⟩ left b s' ⟨hb',rfl,i,hz⟩
   have hlt:i<(us.toList.zip vs.toList).length:=by
    rcases Nat.lt_or_ge i (us.toList.zip vs.toList).length with h' | h'
    ·exact h'
    ·rw [List.drop_of_length_le h'] at hz;cases hz
   have h1:i<us.size:=by omega
   have h2:i<vs.size:=by omega
   rw [List.drop_eq_getElem_cons hlt] at hz
   injection hz with hyx hleft
   have hy:y=us[i]:=by have:=congrArg Prod.fst hyx;simpa using this
   have hx:x=vs[i]:=by have:=congrArg Prod.snd hyx;simpa using this
   subst hy hx
   refine wpAny_bind (he i h1 h2 _ _ ?_)
   wp_walk
   exact ⟨rfl,rfl,i+1,hleft⟩
  case fin =>
   rintro ⟨b1,b2⟩ s' ⟨hb',rfl,i,hz⟩
   simp only at hb'
   subst hb'
   wp_walk
   exact ⟨_,rfl,by simpa [Builtin.Tuple.tupleCompareSizes,bne,hn] using hR⟩
  case h=>exact ⟨rfl,rfl,0,rfl⟩
variable {A:Around} {E:Value→Shared→Prop} {s:Shared}
noncomputable def opB (ne:Bool):CmpOp:=if ne then .NotEq else .Eq
theorem xY {ne:Bool} {p q:Addr} {us vs:Array Value} {Q:Value→Shared→Prop} (hp:s.heap.IsTuple p us) (hq:s.heap.IsTuple q vs) (hn:us.size=vs.size) (hu:A.units<cLine) (he:∀j (h1:j<us.size) (h2:j<vs.size),EqW prog w A.in1 s us[j] vs[j]) (h:Q (.bool (!ne)) s) :
  wpAny (model prog w) A (compareOp (opB ne) (.ref p) (.ref q)) Q E s:=by
 obtain ⟨o1,ho,hc,n,hd⟩:=id hp
 obtain ⟨o2,ho2,hc2,n2,hd2⟩:=id hq
 cases ne with
 | true=>exact wpAny_richCompare_same_room (op:=.NotEq) ⟨_,ho,hc⟩ ⟨_,ho2,hc2⟩ F.slot_tuple_ne (call_meetsIn F.slot_tuple_ne ⟨_,ho,hc⟩ F.entry_tuple_ne (F.args_tuple_ne_2 _ _) (t9 p q us vs o1 o2 hc hc2 n n2 hd hd2 hn) ⟨ho,ho2,he,⟨(fun x=>nomatch x),h⟩⟩) hu
 | false=>exact wpAny_richCompare_same_room (op:=.Eq) ⟨_,ho,hc⟩ ⟨_,ho2,hc2⟩ F.slot_tuple_eq (call_meetsIn F.slot_tuple_eq ⟨_,ho,hc⟩ F.entry_tuple_eq (F.args_tuple_eq_2 _ _) (vz p q us vs o1 o2 hc hc2 n n2 hd hd2 hn) ⟨ho,ho2,he,⟨(fun x=>nomatch x),h⟩⟩) hu
end
section
variable {X:Cx} {pins:List (Addr × Obj)} {σ:L2.St} {H:Hp} {s:Shared} {m:List Addr} {st:AH}
theorem rW {v:PV} {d:PyData} (h:v.toD=some d):vk st v=some d:=by
 cases v with
 | ref n=>rw [PV.toD] at h;cases h
 | _=>exact h
theorem sw {A:Around} (hu:A.units+64<cLine) (I:L2.Inv X pins σ H s) (rh:RH X.K m H st) {x y:PV} {x' y':V} {u v:Value} (h:sx x y) (rx:R X.K m H x x') (ry:R X.K m H y y') (ru:L2.RelV x' u) (rv:L2.RelV y' v):SeqAt.EqAt A s u v true:=by
 obtain ⟨rfl,d,h1,h2⟩:=h
 obtain ⟨as,ra⟩:=Den.reads I d x' u (fN rh rx (rW h1)) ru
 obtain ⟨bs,rb⟩:=Den.reads I d y' v (fN rh ry (rW h1)) rv
 have:=SeqAt.eqAt_reads d d A s u v as bs ra rb (SeqAt.canLay_of_shaped h2) (SeqAt.canLay_of_shaped h2) (SeqAt.room_of_shaped h2 hu)
 rw [SeqAt.eqv_refl d (SeqAt.canLay_of_shaped h2)] at this
 exact this
theorem vW {A:Around} {kb:List (Key × Value)}:∀ {ka:List (Key × Value)},(∀p∈ka,∃y,valueAt kb p.1=some y∧SeqAt.EqAt A s p.2 y true)→W.KeqHits A s kb ka true
 | [],_=>.nil
 | (k,v)::r,h=>by
  obtain ⟨y,e1,e2⟩:=h (k,v) List.mem_cons_self
  exact .hit e1 e2 (vW fun p hp=>h p (List.mem_cons_of_mem _ hp))
theorem o3 {A:Around} {E:Value→Shared→Prop} (hu:A.units+80<cLine) (I:L2.Inv X pins σ H s) (rh:RH X.K m H st) {n k:Nat} {kvs lvs:List (Key × PV)} {x' y':V} {u v:Value} (h1:st[n]?=some (.dk kvs)) (h2:st[k]?=some (.dk lvs)) (hl:kvs.length=lvs.length) (hp:∀p∈kvs,∃u,fI lvs p.1=some u∧sx p.2 u)
  (rx:R X.K m H (.ref n) x') (ry:R X.K m H (.ref k) y') (ru:L2.RelV x' u) (rv:L2.RelV y' v):∃a b,u=.ref a∧v=.ref b∧∀(ne:Bool) (Q:Value→Shared→Prop),Q (.bool (!ne)) s→wpAny (model X.prog X.w) A (compareOp (opB ne) u v) Q E s:=by
 obtain ⟨a,ys,rfl,_,g1,r1,r2⟩:=rh.dkat h1 rx
 obtain ⟨b,zs,rfl,_,g2,r3,r4⟩:=rh.dkat h2 ry
 cases ru
 cases rv
 obtain ⟨z1,d1,vs,rel1,dd1⟩:=lm I.hok g1
 obtain ⟨z2,d2,ws,rel2,dd2⟩:=lm I.hok g2
 refine ⟨a,b,rfl,rfl,fun ne Q q=>?_⟩
 have e1:ys.length=kvs.length:=by simpa using congrArg List.length r1
 have e2:zs.length=lvs.length:=by simpa using congrArg List.length r3
 have l1:=rel1.length
 have l2:=rel2.length
 have lab:vs.length=ws.length:=by omega
 have hits:W.KeqHits A.in1 s ws vs true:=vW fun p hm=>by
  obtain ⟨i,hi⟩:=List.mem_iff_getElem?.mp hm
  have hy:i<ys.length:=by have:=(List.getElem?_eq_some_iff.mp hi).1;omega
  obtain ⟨w',w1,w2,w3⟩:=KV.at rel1 (show ys[i]?=some ys[i] by simp [hy])
  rw [hi] at w1
  cases w1
  obtain ⟨q',q1,q2,q3⟩:=mR r1 r2 (show ys[i]?=some ys[i] by simp [hy])
  obtain ⟨u,u1,u2⟩:=hp q' (List.mem_of_getElem? q1)
  obtain ⟨u',t1,t2⟩:=(qA r3 r4).1 _ u1
  rw [q2,w2] at t1
  obtain ⟨y,y1,y2⟩:=RelO.some_of (v:=u') (o:=valueAt ws p.1) (by rw [←t1];exact rel2.val p.1)
  exact ⟨y,y1,sw (A:=A.in1) (by show A.units+1+64<cLine;omega) I rh u2 q3 t2 w3 y2⟩
 have fin:(vs.length == ws.length && true)=true:=by simp [lab]
 cases ne with
 | true=>exact W.keq_ne (knd:=aD X.prog X.w) d1 d2 dd1 dd2 (by omega) (fun _=>hits) (by rw [fin];exact q)
 | false=>exact W.keq_eq (knd:=aD X.prog X.w) d1 d2 dd1 dd2 (by omega) (fun _=>hits) (by rw [fin];exact q)
theorem A5 {A:Around} (hu:A.units+80<cLine) (I:L2.Inv X pins σ H s) (rh:RH X.K m H st) {x y:PV} {x' y':V} {u v:Value} (h:yt st x y) (rx:R X.K m H x x') (ry:R X.K m H y y') (ru:L2.RelV x' u) (rv:L2.RelV y' v):EqW X.prog X.w A s u v:=by
 rcases h with h|⟨n,k,kvs,lvs,rfl,rfl,h1,h2,h3,h4⟩
 ·exact fun E Q q=>sw (by omega) I rh h rx ry ru rv X.prog X.w E Q q
 ·intro E Q q
  obtain ⟨a,b,rfl,rfl,hc⟩:=o3 (A:=A) (E:=E) hu I rh h1 h2 h3 h4 rx ry ru rv
  by_cases hab:a=b
  ·subst hab
   exact SeqAt.EqAt.same (A:=A) (s:=s) (.ref a) X.prog X.w E Q q
  ·unfold eqBool
   refine wpAny_holding ?_
   refine wpAny_ite_split (fun hx=>absurd (by have:=eq_of_beq hx;injection this) hab) (fun _=>?_)
   exact wpAny_bind (hc false _ (wpAny_truthy_bool q))
theorem o_ {A:Around} (hu:A.units+80<cLine) (I:L2.Inv X pins σ H s) (rh:RH X.K m H st):∀ {xs ys:List PV} {xs' ys':List V} {us vs:List Value},uc st xs ys→Rs X.K m H xs xs'→Rs X.K m H ys ys'→Vals xs' us→Vals ys' vs→us.length=vs.length∧∀j (h1:j<us.length) (h2:j<vs.length),EqW X.prog X.w A s us[j] vs[j]
 | [],[],xs',ys',us,vs,_,rx,ry,ru,rv=>by
  rw [Rs_nil] at rx ry
  subst rx ry
  cases ru
  cases rv
  exact ⟨rfl,fun j h1 _=>absurd h1 (Nat.not_lt_zero _)⟩
 | x::xs,y::ys,xs',ys',us,vs,h,rx,ry,ru,rv=>by
  rw [Rs_cons] at rx ry
  obtain ⟨a,r,rfl,rx1,rx⟩:=rx
  obtain ⟨b,q,rfl,ry1,ry⟩:=ry
  cases ru with
  | cons ru1 ru =>
   cases rv with
   | cons rv1 rv =>
    obtain ⟨i1,i2⟩:=o_ hu I rh h.2 rx ry ru rv
    refine ⟨by simp [i1],fun j h1 h2=>?_⟩
    cases j with
    | zero=>exact A5 hu I rh h.1 rx1 ry1 ru1 rv1
    | succ j=>exact i2 j (by simpa using h1) (by simpa using h2)
 | [],y::ys,_,_,_,_,h,_,_,_,_=>h.elim
 | x::xs,[],_,_,_,_,h,_,_,_,_=>h.elim
end
theorem Al {X:Cx} (hu:X.A.units+100<cLine) (ne:Bool):OpR X (compareOp (opB ne)) (Cc X.K fun x y st Q=>oI st x y∧Q (.bl (!ne)) st):=by
 intro pins s σ H x' y' v u Q I rx ry h
 obtain ⟨m,st,x,y,rh,hx,hy,hs,w⟩:=h
 have fin:EP X pins σ Q (.bool (!ne)) s:=⟨.bl (!ne),H,I,rfl,w.here rh (R_bl.mpr rfl)⟩
 rcases hs with ⟨xs,ys,rfl,rfl,hs⟩|⟨n,k,rfl,rfl,hs⟩
 ·rw [R_tup] at hx hy
  obtain ⟨a,xs',rfl,g1,r1⟩:=hx
  obtain ⟨b,ys',rfl,g2,r2⟩:=hy
  cases rx
  cases ry
  obtain ⟨us,ru,p1,_⟩:=I.tuple g1
  obtain ⟨vs,rv,p2,_⟩:=I.tuple g2
  obtain ⟨i1,i2⟩:=o_ (A:=X.A.in1) (by show X.A.units+1+80<cLine;omega) I rh hs r1 r2 ru rv
  exact xY (us:=us.toArray) (vs:=vs.toArray) p1 p2 (by simp [i1]) (by omega) (fun j h1 h2=>by simpa using i2 j (by simpa using h1) (by simpa using h2)) fin
 ·rcases hs with h|⟨n',k',kvs,lvs,e1,e2,h1,h2,h3,h4⟩
  ·obtain ⟨_,d,h1,_⟩:=h
   rw [PV.toD] at h1
   cases h1
  ·cases e1
   cases e2
   obtain ⟨a,b,rfl,rfl,hc⟩:=o3 (A:=X.A) (E:=X.xe) (by omega) I rh h1 h2 h3 h4 hx hy rx ry
   exact hc ne _ fin
end FW
namespace FW
open L2 HX
theorem Ext.addD {K:W.Frag} {m m2:List Addr} {H H2:Hp} {D:Addr} (x:Ext K m H m2 H2) (h0:H D=none):Ext K m H (m2++[D]) H2:=by
 refine ⟨x.pre.trans (List.prefix_append _ _),fun a ha=>?_,x.fr,x.tup,x.rdf,x.tbs,x.tb,x.frz⟩
 rcases List.mem_append.mp ha with z|z
 ·exact x.new a z
 ·rw [List.mem_singleton] at z
  subst z
  exact .inr h0
theorem RH.addDk {K:W.Frag} {m:List Addr} {H:Hp} {st:AH} {D:Addr} {kvs:List (Key × PV)} {ys:List (Key × V)} (h:RH K m H st) (Dm:D ∉ m) (hD:H D=some (.dK ys)) (r1:ys.map (·.1)=kvs.map (·.1)) (r2:Rs K m H (kvs.map (·.2)) (ys.map (·.2))):RH K (m++[D]) H (st++[.dk kvs]):=by
 have hp:m <+: m++[D]:=List.prefix_append _ _
 refine ⟨by simp [h.len],List.nodup_append.mpr ⟨h.nd,List.nodup_cons.mpr ⟨by simp,List.nodup_nil⟩,fun a ha b hb z=>?_⟩,fun n c' a h1 h2=>?_,h.tb⟩
 ·rw [List.mem_singleton] at hb
  subst hb
  exact Dm (z ▸ ha)
 ·by_cases hn:n<st.length
  ·rw [List.getElem?_append_left hn] at h1
   rw [List.getElem?_append_left (by rw [h.len];exact hn)] at h2
   have hc:=h.at_ n c' a h1 h2
   cases c' with
   | lst xs=>obtain ⟨us,g1,g2⟩:=hc;exact ⟨us,g1,g2.pre hp⟩
   | dk kvs=>obtain ⟨us,g1,g2,g3⟩:=hc;exact ⟨us,g1,g2,g3.pre hp⟩
   | fz kvs=>obtain ⟨o,us,g1,g2,g3⟩:=hc;exact ⟨o,us,g1,g2,g3.pre hp⟩
  ·rw [List.getElem?_append_right (by omega)] at h1
   rw [List.getElem?_append_right (by rw [h.len];omega)] at h2
   have hl:=h.len
   by_cases hz:n-st.length=0
   ·rw [hz] at h1
    rw [show n-m.length=0 by omega] at h2
    simp at h1 h2
    subst h1 h2
    exact ⟨ys,hD,r1,r2.pre hp⟩
   ·rw [List.getElem?_eq_none (by simp;omega)] at h1
    cases h1
section
variable {X:Cx} {c:Cfg} {Γ:Nat→FSp}
theorem Cz {ek ev:Expr} {tk tv:TE} {pos:Pos} (hk:PE X ek tk) (hv:PE X ev tv):PE X (.Dict [some ek] [ev] pos) (fun σ H Q=>∀p,H p=none→tk σ (upd H p (.dK [])) fun x H1=>∃z,x=.str z∧tv σ H1 fun y H2=>H2 p=some (.dK [])∧Q (.ref p) (upd H2 p (.dK [(.inr z,y)]))):=by
 intro pins s σ H Q I q
 have hn:=I.hok.fresh (Nat.le_refl s.heap.objs.size)
 have I1:=I.laid (a:=s.heap.objs.size) (o:=.dK []) (h':=s.heap.push { cls:=.type "dict",data:=.dict #[] }) (t':=s.toks) (fun _ _ q=>Heap.get?_push_of_some _ q) (Nat.le_refl _)
  ⟨Nat.zero_le _,beq_eq_false_iff_ne.mpr (Ne.symm (Nat.ne_of_lt (wC I))),[],.nil,Heap.DictOf.new _⟩
 refine wpAny_Dict_walk (knd:=aD X.prog X.w) rfl rfl (by simp) (by simp) ?_
 refine pairTrees_cons_walk (thn (hk pins _ σ _ _ I1 (q _ hn)) fun u s1 ⟨x,H1,I2,rx,z,ex,w⟩=>?_)
 subst ex
 refine thn (hv pins _ σ _ _ I2 w) fun u2 s2 ⟨y,H2,I3,ry,e,q2⟩=>?_
 refine pairTrees_nil_walk ?_
 obtain ⟨zz,hd,vs0,r0,dd⟩:=I3.hok _ _ e
 cases r0
 refine ⟨[(.inr z,u2)],⟨by obtain ⟨t,rfl⟩:=rx;exact lz _ _ z t,rfl,True.intro⟩,dd,fun h' dd' hs=>⟨.ref s.heap.objs.size,_,?_,rfl,q2⟩⟩
 have he:∃q,h'.get? s.heap.objs.size=some q:=let ⟨q,_,_,hq,_⟩:=dd';⟨q,hq⟩
 exact I3.write (x:=s.heap.objs.size) (e:=s.heap.objs.size) (o:=.dK [(.inr z,y)]) (h':=h') (t':=s2.toks+1) (by rw [e];exact True.intro) (.inl rfl) (fun b u hb hu=>(hs.2 b hb).trans hu) he
  ⟨by simp [sizeLine],hd,_,.cons ⟨rfl,ry⟩ .nil,dd'⟩
theorem BC (C:COk X c Γ) {ek ev:Expr} {pos:Pos} {k v:E} (hk:PE X ek (TEx X.K (wpE Γ k))) (hv:PE X ev (TEx X.K (wpE Γ v))):PE X (.Dict [some ek] [ev] pos) (TEx X.K (wpE Γ (.dct2 k v))):=by
 intro pins s σ H Q I h
 refine Cz hk hv pins s σ H Q I fun p hp=>?_
 obtain ⟨m,ρ,st,rf,rh,w⟩:=h
 have x0:=Ext.newT (o:=.dK []) rh hp
 refine ⟨m,ρ,st,rf.mono x0,rh.newT hp,aa C.mono k (fun x st1 z m1 H1 x1 e1 r1 r2=>?_) w⟩
 obtain ⟨zz,rfl,z⟩:=z
 rw [R_str] at r2
 subst r2
 refine ⟨zz,rfl,m1,ρ,st1,(rf.mono x0).mono e1,r1,aa C.mono v (fun y st2 z m2 H2 y2 e2 r3 r4=>?_) z⟩
 have pm:p ∉ m:=rh.fresh hp
 have ee:=e1.trans e2
 have hP:H2 p=some (.dK []):=ee.fr p _ pm ao fun _ z=>nomatch z
 have pm2:p ∉ m2:=fun q=>by
  rcases ee.new p q with q|q
  ·exact pm q
  ·rw [ao] at q;cases q
 refine ⟨hP,?_⟩
 have e3:Ext X.K m H m2 H2:=x0.trans ee
 have e4:Ext X.K m H m2 (upd H2 p (.dK [(.inr zz,y2)])):=e3.awayD hp hP
 have r5:=(r3.awayD (zs:=[(.inr zz,y2)]) pm2 hP).addDk (kvs:=[(.inr zz,y)]) pm2 ao rfl (by rw [List.map_cons,List.map_cons,Rs_cons',List.map_nil,List.map_nil,Rs_nil];exact ⟨r4.mono0 (eR hP) (eX hP),rfl⟩)
 exact z _ _ _ (e4.addD hp) r5 (R.last r3.len)
end
end FW
namespace FW
open L2 HX
section
variable {Γ:Nat→FSp}
theorem iN (G:bb Γ) {elt:E} {tg:Tg} {ifs:Es} {ρ:Fr} {x:PV} {st:AH} {k k':Option PV→AH→Prop} (hk:∀o st,k o st→k' o st) (q:ei Γ elt tg ifs ρ x st k):ei Γ elt tg ifs ρ x st k' :=
 aw G tg (fun ρ' st3 w=>aI G ifs (fun c st4 w=>by
  cases c with
  | true=>rw [if_pos rfl] at w ⊢;exact aa G elt (fun v st5 w=>hk _ _ w) w
  | false=>rw [if_neg Bool.false_ne_true] at w ⊢;exact hk _ _ w) w) q
theorem RH.addD {K:W.Frag} {m:List Addr} {H:Hp} {st:AH} {D:Addr} {vs:List PV} {ys:List V} (h:RH K m H st) (Dm:D ∉ m) (hD:H D=some (.lst ys)) (r:Rs K m H vs ys):RH K (m++[D]) H (st++[.lst vs]):=by
 have hp:m <+: m++[D]:=List.prefix_append _ _
 refine ⟨by simp [h.len],List.nodup_append.mpr ⟨h.nd,List.nodup_cons.mpr ⟨by simp,List.nodup_nil⟩,fun a ha b hb z=>?_⟩,fun n c' a h1 h2=>?_,h.tb⟩
 ·rw [List.mem_singleton] at hb
  subst hb
  exact Dm (z ▸ ha)
 ·by_cases hn:n<st.length
  ·rw [List.getElem?_append_left hn] at h1
   rw [List.getElem?_append_left (by rw [h.len];exact hn)] at h2
   have hc:=h.at_ n c' a h1 h2
   cases c' with
   | lst xs=>obtain ⟨us,g1,g2⟩:=hc;exact ⟨us,g1,g2.pre hp⟩
   | dk kvs=>obtain ⟨us,g1,g2,g3⟩:=hc;exact ⟨us,g1,g2,g3.pre hp⟩
   | fz kvs=>obtain ⟨o,us,g1,g2,g3⟩:=hc;exact ⟨o,us,g1,g2,g3.pre hp⟩
  ·rw [List.getElem?_append_right (by omega)] at h1
   rw [List.getElem?_append_right (by rw [h.len];omega)] at h2
   have hl:=h.len
   by_cases hz:n-st.length=0
   ·rw [hz] at h1
    rw [show n-m.length=0 by omega] at h2
    simp at h1 h2
    subst h1 h2
    exact ⟨ys,hD,r.pre hp⟩
   ·rw [List.getElem?_eq_none (by simp;omega)] at h1
    cases h1
noncomputable def yY (X:Cx) (P:Addr→Hp→Prop):Addr→Hp→Prop:=fun D H'=>∃a o ys,H' a=some (.frz o (.dK ys))∧(∀u q,X.H₀ a≠some (.frz u q))∧P D (upd H' a (.dK ys))
theorem pA {K:W.Frag} {m m1 m2:List Addr} {H H1:Hp} {a D:Addr} {ho:HO} (e1:Ext K m H m1 H1) (am:a∈m1) (pre:m1 <+: m2) (Dm:D ∉ m2) (h:upd H1 a ho D=none):D≠a∧H D=none:=by
 have ne:D≠a:=fun z=>Dm (z ▸ pre.subset am)
 rw [ac ne] at h
 refine ⟨ne,?_⟩
 cases q:H D with
 | none=>rfl
 | some o =>
  by_cases hm:D∈m
  ·exact absurd (pre.subset (e1.pre.subset hm)) Dm
  ·exact absurd h (e1.ne hm q)
theorem A4 {X:Cx} {c:Cfg} (C:COk X c Γ) {elt e:E} {tg:Tg} {wk:DW} {ifs:Es} {nt:List Str} {caps:List Nat} {m:List Addr} {ρ:Fr} {st:AH} {σ:L2.St} {H:Hp} {Q:EK} {P:Addr→Hp→Prop} (rf:RF X.K m H ρ σ) (rh:RH X.K m H st) (w:wpE Γ (.compK elt tg wk e ifs nt caps) ρ st Q)
  (hQ:∀n st2 m' H' D,Ext X.K m H m' H'→RH X.K m' H' st2→m'[n]?=some D→Q (.ref n) st2→P D H') :
  wiF X Γ wk e σ H fun J H1=>∃m ρ st1 xs chk,RF X.K m H1 ρ σ∧RH X.K m H1 st1∧kU X.K J xs chk m H1∧xs.length<100000∧aQ chk (ei Γ elt tg ifs (nt.map (fun _=>none)++caps.map fun i=>(ρ[i]?).join)) xs [] st1 (dW X.K m H1 (yY X P)):=by
 rw [BD] at w
 refine ⟨m,ρ,st,rf,rh,aa C.mono e (fun v st1 z=>?_) w⟩
 obtain ⟨n,rfl,kvs,h1,hl,z⟩:=z
 refine ⟨n,kvs,rfl,h1,fun m1 H1 a o ys e1 r1 ea g r3 r4 hz=>?_⟩
 have xs:Ext X.K m1 H1 m1 (upd H1 a (.frz o (.dK ys))):=Ext.set (ys:=[]) r1 ea (nfD g)
 refine ⟨m1,ρ,st1.set n (.fz kvs),aZ wk kvs,fun _=>True,(rf.mono e1).mono xs,r1.frz ea g r3 r4,uM ao r3 (r4.mono xs),by cases wk <;> simpa [aZ] using hl,?_⟩
 refine b_ (body:=ei Γ elt tg ifs (nt.map (fun _=>none)++caps.map fun i=>(ρ[i]?).join)) (fun _ _ _ _ hk q=>iN C.mono hk q) (fun vs st2 k m2 H2 D zs e2 r2 Dm hD0 hD ry=>?_) z
 obtain ⟨k1,k⟩:=k
 have hF:H2 a=some (.frz o (.dK ys)):=e2.frz _ _ _ ao
 obtain ⟨ne,hD1⟩:=pA e1 (List.mem_of_getElem? ea) e2.pre Dm hD0
 have r5:=r2.thaw (eD e2.pre ea) hF k1
 have r6:=r5.addD Dm (by rw [ac ne];exact hD) (ry.mono0 (df hF) (cZ hF))
 exact ⟨a,o,ys,hF,hz,hQ _ _ _ _ D ((e1.trans (Ext.thaw r1 ea g e2)).addD hD1) r6 (by rw [←r2.len];simp) k⟩
theorem t3 (G:bb Γ) {kx vx:E} {tg:Tg} {ifs:Es} {ρ:Fr} {x:PV} {st:AH} {k k':Option PV→AH→Prop} (hk:∀o st,k o st→k' o st) (q:eZ Γ kx vx tg ifs ρ x st k):eZ Γ kx vx tg ifs ρ x st k' :=
 aw G tg (fun ρ' st3 w=>aI G ifs (fun c st4 w=>by
  cases c with
  | true=>rw [if_pos rfl] at w ⊢;exact aa G kx (fun u st5 w=>aa G vx (fun v st6 w=>let ⟨z,e,w⟩:=w;⟨z,e,hk _ _ w⟩) w) w
  | false=>rw [if_neg Bool.false_ne_true] at w ⊢;exact hk _ _ w) w) q
theorem si {X:Cx} {c:Cfg} (C:COk X c Γ) {kx vx e:E} {tg:Tg} {wk:DW} {ifs:Es} {nt:List Str} {caps:List Nat} {m:List Addr} {ρ:Fr} {st:AH} {σ:L2.St} {H:Hp} {Q:EK} {P:Addr→Hp→Prop} (rf:RF X.K m H ρ σ) (rh:RH X.K m H st) (w:wpE Γ (.compD kx vx tg wk e ifs nt caps) ρ st Q)
  (hQ:∀n st2 m' H' D,Ext X.K m H m' H'→RH X.K m' H' st2→m'[n]?=some D→Q (.ref n) st2→P D H') :
  wiF X Γ wk e σ H fun J H1=>∃m ρ st1 xs chk,RF X.K m H1 ρ σ∧RH X.K m H1 st1∧kU X.K J xs chk m H1∧xs.length<100000∧aQ chk (eZ Γ kx vx tg ifs (nt.map (fun _=>none)++caps.map fun i=>(ρ[i]?).join)) xs [] st1 (dj X.K m H1 (yY X P)):=by
 rw [BW] at w
 refine ⟨m,ρ,st,rf,rh,aa C.mono e (fun v st1 z=>?_) w⟩
 obtain ⟨n,rfl,kvs,h1,hl,z⟩:=z
 refine ⟨n,kvs,rfl,h1,fun m1 H1 a o ys e1 r1 ea g r3 r4 hz=>?_⟩
 have xs:Ext X.K m1 H1 m1 (upd H1 a (.frz o (.dK ys))):=Ext.set (ys:=[]) r1 ea (nfD g)
 refine ⟨m1,ρ,st1.set n (.fz kvs),aZ wk kvs,fun _=>True,(rf.mono e1).mono xs,r1.frz ea g r3 r4,uM ao r3 (r4.mono xs),by rw [show (aZ wk kvs).length=kvs.length by cases wk <;> simp [aZ]];omega,?_⟩
 refine b_ (body:=eZ Γ kx vx tg ifs (nt.map (fun _=>none)++caps.map fun i=>(ρ[i]?).join)) (fun _ _ _ _ hk q=>t3 C.mono hk q) (fun vs st2 k m2 H2 D ps ds ev e2 r2 Dm hD0 hD ry=>?_) z
 obtain ⟨k1,k⟩:=k
 have hF:H2 a=some (.frz o (.dK ys)):=e2.frz _ _ _ ao
 obtain ⟨ne,hD1⟩:=pA e1 (List.mem_of_getElem? ea) e2.pre Dm hD0
 have r5:=r2.thaw (eD e2.pre ea) hF k1
 have r6:=r5.addDk Dm (by rw [ac ne];exact hD) ry.1 (ry.2.mono0 (df hF) (cZ hF))
 exact ⟨a,o,ys,hF,hz,hQ _ _ _ _ D ((e1.trans (Ext.thaw r1 ea g e2)).addD hD1) r6 (by rw [←r2.len];simp) (k ps ev)⟩
theorem fF {X:Cx} {c:Cfg} (C:COk X c Γ) {nt:List Str} {caps:List Nat} {sc:Scope} (h:c.block nt caps sc=true) :
  CScope X sc∧(∀i∈caps,i<X.N.length)∧(∀x∈caps.filterMap (X.N[·]?),sc.names.lookup x=some .free)∧(∀x∈caps.filterMap (X.N[·]?),X.env.kindOf x=some .cell∨X.env.kindOf x=some .free)∧(nt++caps.filterMap (X.N[·]?)).Nodup:=by
 unfold Cfg.block at h
 simp only [Bool.and_eq_true,List.all_eq_true,beq_iff_eq,decide_eq_true_eq,Bool.or_eq_true,Bool.not_eq_true',beq_eq_false_iff_ne] at h
 obtain ⟨⟨⟨⟨⟨⟨h1,h2⟩,h3⟩,h4⟩,h5⟩,h6⟩,h7⟩:=h
 rw [C.N]
 refine ⟨⟨h1,fun y hy=>h2 y hy,fun y hy e=>?_,fun y hy e=>?_⟩,h5,fun x hx=>(h6 x hx).1,fun x hx=>C.cel x (wd (h6 x hx).2),h7⟩
 ·rcases h3 y hy with z|z
  ·exact absurd e z
  ·exact z
 ·rcases h4 y hy with z|z
  ·exact absurd e z
  ·exact C.cel _ (wd z)
theorem mB {X:Cx} {c:Cfg} (C:COk X c Γ) {nt:List Str} {caps:List Nat} {sc:Scope} (h:c.block nt caps sc=true) {s2:Shared} {H2:Hp} {fp:List Addr} {A:Addr} :
  COk (cxC X (nt++caps.filterMap (X.N[·]?)) s2 H2 fp sc A) (c.inner nt caps sc) Γ:=by
 obtain ⟨S,k1,k2,k3,k4⟩:=fF C h
 have nocell:∀x,sc.names.lookup x≠some .cell:=fun x e=>S.nocell _ (PySem.mem_of_lookup e) rfl
 refine ⟨C.calm,PassesOwn.never,?_,?_,fun x hx=>?_,fun x hx=>?_,fun x hx=>lookup_relabel_local hx,fun x hx=>jF hx,?_,fun x hx=>?_,C.room,C.fn,C.blt,C.gl,C.mono,fun h=>Bool.noConfusion (show false=true from h),fun k h=>by cases h⟩
 ·show nt++caps.filterMap (X.N[·]?)=nt++caps.filterMap (c.N[·]?)
  rw [C.N]
 ·show (nt++caps.filterMap (c.N[·]?)).Nodup
  rw [←C.N]
  exact k4
 ·rcases hx with hx|hx|hx
  ·exact .inl (lookup_relabel_local hx)
  ·exact absurd hx (nocell x)
  ·rcases eB (env:=X.env) hx with z|z
   ·exact .inr (.inl z)
   ·exact .inr (.inr z)
 ·rcases hx with hx|hx
  ·exact ⟨.inl (lookup_relabel_local hx),.inr (lookup_relabel_local hx)⟩
  ·exact absurd hx (nocell x)
 ·show Env.blockKind (compEnvC sc (ii X.env sc.names []) A X.env)=_
  unfold Env.blockKind
  show (if sc.kind.isAnnotationScope=true then _ else sc.kind)=_
  rw [S.kind]
  rfl
 ·rcases hx with hx|hx
  ·exact absurd hx (nocell x)
  ·exact eB hx
mutual
theorem aE:∀(e:E) {X:Cx} {c:Cfg} (C:COk X c Γ) (x:Expr),ar c e x=true→PE X x (TEx X.K (wpE Γ e))
 | .var i,X,c,C,x,h=>by
  replace h:=aj h
  obtain ⟨y,p,rfl,h⟩:=h
  ·exact yw C h
 | .int i,X,c,C,x,h=>by
  replace h:=wY h
  obtain ⟨j,k,p,rfl,h⟩:=h
  ·rw [beq_iff_eq] at h;subst h
   rintro pins s σ H Q I ⟨m,ρ,st,rf,rh,w⟩
   skip
   exact Eg pins s σ H Q I (w.here rh (R_int.mpr rfl))
 | .bl i,X,c,C,x,h=>by
  replace h:=As h
  obtain ⟨j,k,p,rfl,h⟩:=h
  ·rw [beq_iff_eq] at h;subst h
   rintro pins s σ H Q I ⟨m,ρ,st,rf,rh,w⟩
   skip
   exact Fl pins s σ H Q I (w.here rh (R_bl.mpr rfl))
 | .non,X,c,C,x,h=>by
  replace h:=wX h
  obtain ⟨k,p,rfl⟩:=h
  ·rintro pins s σ H Q I ⟨m,ρ,st,rf,rh,w⟩
   skip
   exact D0 pins s σ H Q I (w.here rh (R_non.mpr rfl))
 | .str i,X,c,C,x,h=>by
  replace h:=xE h
  obtain ⟨j,k,p,rfl,h⟩:=h
  ·rw [beq_iff_eq] at h;subst h
   rintro pins s σ H Q I ⟨m,ρ,st,rf,rh,w⟩
   skip
   exact Dx pins s σ H Q I (w.here rh (R_str.mpr rfl))
 | .gv y v,X,c,C,x,h=>by
  replace h:=aj h
  obtain ⟨z,p,rfl,h⟩:=h
  ·simp only [Bool.and_eq_true,beq_iff_eq] at h
   obtain ⟨⟨h1,h2⟩,h3⟩:=h
   subst h1
   obtain ⟨g1,g2,_⟩:=C.glbx h2
   replace h3:=fX h3
   obtain ⟨w,hw,h3⟩:=h3
   ·have:=PV.same_eq h3
    subst this
    obtain ⟨u,z,e1,e2,e3⟩:=C.gl _ _ hw
    rintro pins s σ H Q I ⟨m,ρ,st,rf,rh,w⟩
    skip
    exact BP g1 e1 e2 g2 pins s σ H Q I (w.here rh (e3 m H))
 | .tup es,X,c,C,x,h=>by
  replace h:=bB h
  obtain ⟨xs,k,p,rfl,h⟩:=h
  ·rintro pins s σ H Q I ⟨m,ρ,st,rf,rh,w⟩
   skip
   refine D7 (lg es C _ h) pins s σ H Q I ⟨m,ρ,st,rf,rh,aC C.mono es (fun vs st1 k m1 H1 xs1 e1 r1 r2=>⟨by rw [←r2.len];exact fY k.1,fun p hp=>?_⟩) w⟩
   exact (k.2.ext e1).newT r1 r2 hp
 | .lst es,X,c,C,x,h=>by
  replace h:=uo h
  obtain ⟨xs,p,rfl,h⟩:=h
  ·rintro pins s σ H Q I ⟨m,ρ,st,rf,rh,w⟩
   skip
   refine Ef (lg es C _ h) pins s σ H Q I ⟨m,ρ,st,rf,rh,aC C.mono es (fun vs st1 k m1 H1 xs1 e1 r1 r2=>⟨by rw [←r2.len];exact fY k.1,fun p hp=>?_⟩) w⟩
   exact (k.2.ext e1).newL r1 r2 hp
 | .bad,X,c,C,x,h=>by rintro pins s σ H Q I ⟨m,ρ,st,rf,rh,w⟩;exact False.elim w
 | .dct0,X,c,C,x,h=>by
  replace h:=mw h
  obtain ⟨ks,vs,p,rfl,h⟩:=h
  replace h:=DR h
  obtain ⟨rfl,rfl⟩:=h
  ·rintro pins s σ H Q I ⟨m,ρ,st,rf,rh,w⟩
   skip
   refine Ae pins s σ H Q I fun p hp=>?_
   exact w _ _ _ (Ext.new1 rh hp) (rh.new1 hp ⟨[],ao,rfl,Rs_nil.mpr rfl⟩) (R.last rh.len)
 | .dct1 _ _,X,c,C,x,h=>by rintro pins s σ H Q I ⟨m,ρ,st,rf,rh,w⟩;exact False.elim w
 | .bin op a b,X,c,C,x,h=>by
  replace h:=xB h
  obtain ⟨l,o,r,p,rfl,h⟩:=h
  ·simp only [Bool.and_eq_true,beq_iff_eq] at h
   obtain ⟨⟨h1,h2⟩,h3⟩:=h
   subst h1
   rintro pins s σ H Q I ⟨m,ρ,st,rf,rh,w⟩
   skip
   exact F6 (EL _) (aE a C _ h2) (aE b C _ h3) pins s σ H Q I ⟨m,ρ,st,rf,rh,aa C.mono a (fun v st1 k m1 H1 x1 e1 r1 r2=>⟨m1,ρ,st1,rf.mono e1,r1,
    aa C.mono b (fun u st2 k2 m2 H2 y2 e2 r3 r4=>⟨m2,st2,v,u,r3,r2.mono e2,r4,pk (fun _ _ q=>q.ext (e1.trans e2)) k2⟩) k⟩) w⟩
 | .neg a,X,c,C,x,h=>by
  replace h:=xD h
  obtain ⟨y,p,rfl,h⟩:=h
  ·rintro pins s σ H Q I ⟨m,ρ,st,rf,rh,w⟩
   skip
   refine Gc Dw (aE a C _ h) pins s σ H Q I ⟨m,ρ,st,rf,rh,aa C.mono a (fun v st1 k m1 H1 x1 e1 r1 r2=>?_) w⟩
   obtain ⟨i,rfl,k⟩:=k
   rw [R_int] at r2
   subst r2
   exact ⟨i,rfl,(k.ext e1).here r1 (R_int.mpr rfl)⟩
 | .not a,X,c,C,x,h=>by
  replace h:=oN h
  obtain ⟨y,p,rfl,h⟩:=h
  ·rintro pins s σ H Q I ⟨m,ρ,st,rf,rh,w⟩
   skip
   refine Fj (aE a C _ h) pins s σ H Q I ⟨m,ρ,st,rf,rh,aa C.mono a (fun v st1 k m1 H1 x1 e1 r1 r2=>?_) w⟩
   obtain ⟨i,rfl,k⟩:=k
   rw [R_bl] at r2
   subst r2
   exact ⟨i,rfl,(k.ext e1).here r1 (R_bl.mpr rfl)⟩
 | .cmp op a b,X,c,C,x,h=>by
  replace h:=g9 h
  obtain ⟨l,o,r,p,rfl,h⟩:=h
  ·simp only [Bool.and_eq_true,beq_iff_eq,Bool.not_eq_true',beq_eq_false_iff_ne] at h
   obtain ⟨⟨⟨h1,n1⟩,h2⟩,h3⟩:=h
   subst h1
   rintro pins s σ H Q I ⟨m,ρ,st,rf,rh,w⟩
   skip
   exact wj (AO C.room.units _) (aE a C _ h2) (aE b C _ h3) n1 pins s σ H Q I ⟨m,ρ,st,rf,rh,aa C.mono a (fun v st1 k m1 H1 x1 e1 r1 r2=>⟨m1,ρ,st1,rf.mono e1,r1,
    aa C.mono b (fun u st2 k2 m2 H2 y2 e2 r3 r4=>⟨m2,st2,v,u,r3,r2.mono e2,r4,gW (fun _ _ q=>q.ext (e1.trans e2)) k2⟩) k⟩) w⟩
 | .bop true es,X,c,C,x,h=>by
  replace h:=gS h
  obtain ⟨o,xs,p,rfl,h⟩:=h
  ·simp only [Bool.and_eq_true,beq_iff_eq,Bool.not_eq_true'] at h
   obtain ⟨⟨h1,h2⟩,h3⟩:=h
   subst h1
   rintro pins s σ H Q I ⟨m,ρ,st,rf,rh,w⟩
   skip
   exact C_ es C _ _ h2 h3 pins s σ H Q I ⟨m,ρ,st,rf,rh,w⟩
 | .bop false es,X,c,C,x,h=>by
  replace h:=gS h
  obtain ⟨o,xs,p,rfl,h⟩:=h
  ·simp only [Bool.and_eq_true,beq_iff_eq,Bool.not_eq_true'] at h
   obtain ⟨⟨h1,h2⟩,h3⟩:=h
   subst h1
   rintro pins s σ H Q I ⟨m,ρ,st,rf,rh,w⟩
   skip
   exact CS es C _ _ h2 h3 pins s σ H Q I ⟨m,ρ,st,rf,rh,w⟩
 | .ite t a b,X,c,C,x,h=>by
  replace h:=wH h
  obtain ⟨y,l,r,p,rfl,h⟩:=h
  ·simp only [Bool.and_eq_true] at h
   obtain ⟨⟨h1,h2⟩,h3⟩:=h
   rintro pins s σ H Q I ⟨m,ρ,st,rf,rh,w⟩
   skip
   refine zS (oH t C _ h1) (aE a C _ h2) (aE b C _ h3) pins s σ H Q I ⟨m,ρ,st,rf,rh,aJ C.mono t (fun k st1 z m1 H1 e1 r1=>?_) w⟩
   cases k with
   | true=>rw [if_pos rfl] at z ⊢;exact ⟨m1,ρ,st1,rf.mono e1,r1,aa C.mono a (fun _ _ q=>q.ext e1) z⟩
   | false=>rw [if_neg Bool.false_ne_true] at z ⊢;exact ⟨m1,ρ,st1,rf.mono e1,r1,aa C.mono b (fun _ _ q=>q.ext e1) z⟩
 | .ix a b,X,c,C,x,h=>by
  replace h:=fO h
  obtain ⟨l,r,p,rfl,h⟩:=h
  ·simp only [Bool.and_eq_true] at h
   obtain ⟨⟨h1,h2⟩,h3⟩:=h
   rintro pins s σ H Q I ⟨m,ρ,st,rf,rh,w⟩
   skip
   exact Ai (Db C.room.units) (aE a C _ h2) (aE b C _ h3) h1 pins s σ H Q I ⟨m,ρ,st,rf,rh,aa C.mono a (fun v st1 k m1 H1 x1 e1 r1 r2=>⟨m1,ρ,st1,rf.mono e1,r1,
    aa C.mono b (fun u st2 k2 m2 H2 y2 e2 r3 r4=>⟨m2,st2,v,u,r3,r2.mono e2,r4,jw (fun _ _ q=>q.ext (e1.trans e2)) k2⟩) k⟩) w⟩
 | .sl a lo hi,X,c,C,x,h=>by
  replace h:=fO h
  obtain ⟨l,r,p,rfl,h⟩:=h
  replace h:=tE h
  obtain ⟨u,v,p2,rfl,h⟩:=h
  ·simp only [Bool.and_eq_true] at h
   obtain ⟨⟨h1,h2⟩,h3⟩:=h
   rintro pins s σ H Q I ⟨m,ρ,st,rf,rh,w⟩
   skip
   exact Bg FP (aE a C _ h1) (Gu lo C _ h2) (Gu hi C _ h3) pins s σ H Q I ⟨m,ρ,st,rf,rh,aa C.mono a (fun v st1 k m1 H1 x1 e1 r1 r2=>⟨m1,ρ,st1,rf.mono e1,r1,
    jx C.mono lo (fun l st2 k2 m2 H2 e2 r3=>⟨m2,ρ,st2,(rf.mono e1).mono e2,r3,jx C.mono hi (fun u st3 k3 m3 H3 e3 r4=>⟨m3,st3,v,r4,(r2.mono e2).mono e3,tF (fun _ _ q=>q.ext ((e1.trans e2).trans e3)) k3⟩) k2⟩) k⟩) w⟩
 | .call f es,X,c,C,x,h=>by
  replace h:=aN h
  obtain ⟨g,xs,p,rfl,h⟩:=h
  replace h:=aj h
  obtain ⟨y,p2,rfl,h⟩:=h
  ·simp only [Bool.and_eq_true] at h
   obtain ⟨⟨h1,h2⟩,h3⟩:=h
   rintro pins s σ H Q I ⟨m,ρ,st,rf,rh,w⟩
   skip
   exact tG C h1 h2 h3 (lg es C _ h3) pins s σ H Q I ⟨m,ρ,st,rf,rh,w⟩
 | .blt b es,X,c,C,x,h=>by
  replace h:=aN h
  obtain ⟨g,xs,p,rfl,h⟩:=h
  replace h:=aj h
  obtain ⟨y,p2,rfl,h⟩:=h
  ·simp only [Bool.and_eq_true,beq_iff_eq,Bool.not_eq_true'] at h
   obtain ⟨⟨⟨⟨h1,h2⟩,h3⟩,h4⟩,h5⟩:=h
   rintro pins s σ H Q I ⟨m,ρ,st,rf,rh,w⟩
   skip
   exact tm C h1 h2 h3 h4 (lg es C _ h5) pins s σ H Q I ⟨m,ρ,st,rf,rh,w⟩
 | .inst a t,X,c,C,x,h=>by
  replace h:=aN h
  obtain ⟨g,xs,p,rfl,h⟩:=h
  replace h:=aj h
  obtain ⟨y,p2,rfl,h⟩:=h
  replace h:=gZ h
  obtain ⟨l,r,rfl,h⟩:=h
  replace h:=aj h
  obtain ⟨z,p3,rfl,h⟩:=h
  ·rw [Bool.and_eq_true] at h
   exact wp C h.1 (aE a C _ h.2)
 | .met mm o es,X,c,C,x,h=>by
  replace h:=aN h
  obtain ⟨g,xs,p,rfl,h⟩:=h
  replace h:=iX h
  obtain ⟨y,n,p2,rfl,h⟩:=h
  ·simp only [Bool.and_eq_true,beq_iff_eq,decide_eq_true_eq] at h
   obtain ⟨⟨⟨⟨⟨⟨h1,h2⟩,h3⟩,h4⟩,h0⟩,h5⟩,h6⟩:=h
   exact yb C h1 (by rw [h2];simp) h3 h4 h0 (aE o C _ h5) (lg es C _ h6) h6
 | .comp elt tg it ifs nt caps,X,c,C,x,h=>by
  replace h:=gy h
  obtain ⟨ex,gs,sc,pos,rfl,h⟩:=h
  replace h:=cL h
  obtain ⟨g,rfl,h⟩:=h
  obtain ⟨tx,ix,fx,ia⟩:=g
  dsimp only at h
  ·simp only [Bool.and_eq_true,beq_iff_eq] at h
   obtain ⟨⟨⟨⟨⟨⟨⟨⟨h1,h0⟩,h2⟩,h3⟩,h4⟩,h5⟩,h6⟩,h7⟩,h8⟩:=h
   subst h1
   obtain ⟨S,k1,k2,k3,k4⟩:=fF C h4
   have hC:∀s2 H2 fp A,COk (cxC X (nt++caps.filterMap (X.N[·]?)) s2 H2 fp sc A) (c.inner nt caps sc) Γ:=fun s2 H2 fp A=>mB C h4
   rintro pins s σ H Q I ⟨m,ρ,st,rf,rh,w⟩
   skip
   rw [eval_ListComp]
   refine jV (elt:=elt) (tg:=tg) (ifs:=ifs) (nt:=nt) (caps:=caps) (use:=none) (Fin:=fun D H'=>Q (.ref D) H') (wi:=TIx X.K (i8 Γ it)) C.mono C.calm S rfl k1 k2 k3 h2 h3 (AG it C ix h0 h5) (fun s2 H2 fp A=>iu tg (hC s2 H2 fp A) _ h6) (fun s2 H2 fp A=>kj ifs (hC s2 H2 fp A) _ h7) (fun s2 H2 fp A=>aE elt (hC s2 H2 fp A) _ h8) I ?_ ?_
   ·refine ⟨m,ρ,st,rf,rh,fJ C.mono it (fun xs chk st1 z m1 H1 J e1 r1 W=>⟨m1,ρ,st1,xs,chk,rf.mono e1,r1,W,z.1,?_⟩) w⟩
    refine b_ (body:=ei Γ elt tg ifs (nt.map (fun _=>none)++caps.map fun i=>(ρ[i]?).join)) (fun _ _ _ _ hk q=>iN C.mono hk q) (fun vs st2 k m2 H2 D ys e2 r2 Dm hD0 hD ry=>?_) z.2
    have hD1:H D=none:=by
     cases q:H D with
     | none=>rfl
     | some o =>
      by_cases hm:D∈m
      ·exact absurd ((e1.trans e2).pre.subset hm) Dm
      ·exact absurd hD0 (e1.ne hm q)
    exact k _ _ _ ((e1.trans e2).addD hD1) (r2.addD Dm hD ry) (R.last r2.len)
   ·intro C' D H' s' m' I' ns fp F
    refine ⟨m',ns,fun h' hs'=>?_⟩
    exact ⟨.ref D,H',I'.turned (t':=s'.toks) (fun b o hb e=>hs'.extBut b o hb e) fp.1 fp.2.1 fp.2.2.2.1 fp.2.2.2.2.1 fp.2.2.2.2.2,rfl,F⟩
 | .compK elt tg wk e ifs nt caps,X,c,C,x,h=>by
  replace h:=gy h
  obtain ⟨ex,gs,sc,pos,rfl,h⟩:=h
  replace h:=cL h
  obtain ⟨g,rfl,h⟩:=h
  obtain ⟨tx,ix,fx,ia⟩:=g
  dsimp only at h
  simp only [Bool.and_eq_true,beq_iff_eq] at h
  obtain ⟨⟨⟨⟨⟨⟨⟨⟨h1,h0⟩,h2⟩,h3⟩,h4⟩,h5⟩,h6⟩,h7⟩,h8⟩:=h
  subst h1
  obtain ⟨S,k1,k2,k3,k4⟩:=fF C h4
  have hC:∀s2 H2 fp A,COk (cxC X (nt++caps.filterMap (X.N[·]?)) s2 H2 fp sc A) (c.inner nt caps sc) Γ:=fun s2 H2 fp A=>mB C h4
  rintro pins s σ H Q I ⟨m,ρ,st,rf,rh,w⟩
  rw [eval_ListComp]
  refine jV (elt:=elt) (tg:=tg) (ifs:=ifs) (nt:=nt) (caps:=caps) (use:=none) (Fin:=yY X fun D H'=>Q (.ref D) H') (wi:=wiF X Γ wk e) C.mono C.calm S rfl k1 k2 k3 h2 h3 (BF C h0 h5 fun y hy=>aE e C y hy) (fun s2 H2 fp A=>iu tg (hC s2 H2 fp A) _ h6) (fun s2 H2 fp A=>kj ifs (hC s2 H2 fp A) _ h7) (fun s2 H2 fp A=>aE elt (hC s2 H2 fp A) _ h8) I (A4 C rf rh w fun n st2 m' H' D e1 r1 r2 q=>q m' H' _ e1 r1 (R_ref.mpr ⟨D,r2,rfl⟩)) ?_
  rintro C' D H' s' m' I' ns fp ⟨a,o,ys,hF,hz,q⟩
  exact ⟨m',ns,fun h' hs'=>⟨.ref D,_,gz (I'.turned (t':=s'.toks) (fun b o hb e=>hs'.extBut b o hb e) fp.1 fp.2.1 fp.2.2.2.1 fp.2.2.2.2.1 fp.2.2.2.2.2) hF hz,rfl,q⟩⟩
 | .compD kx vx tg wk e ifs nt caps,X,c,C,x,h=>by
  replace h:=nI h
  obtain ⟨ek,ev,gs,sc,pos,rfl,h⟩:=h
  replace h:=cL h
  obtain ⟨g,rfl,h⟩:=h
  obtain ⟨tx,ix,fx,ia⟩:=g
  dsimp only at h
  simp only [Bool.and_eq_true,beq_iff_eq] at h
  obtain ⟨⟨⟨⟨⟨⟨⟨⟨⟨h1,h0⟩,h2⟩,h3⟩,h4⟩,h5⟩,h6⟩,h7⟩,h8⟩,h9⟩:=h
  subst h1
  obtain ⟨S,k1,k2,k3,k4⟩:=fF C h4
  have hC:∀s2 H2 fp A,COk (cxC X (nt++caps.filterMap (X.N[·]?)) s2 H2 fp sc A) (c.inner nt caps sc) Γ:=fun s2 H2 fp A=>mB C h4
  rintro pins s σ H Q I ⟨m,ρ,st,rf,rh,w⟩
  rw [arm_eval_DictComp]
  refine oP (kx:=kx) (vx:=vx) (tg:=tg) (ifs:=ifs) (nt:=nt) (caps:=caps) (use:=none) (Fin:=yY X fun D H'=>Q (.ref D) H') (wi:=wiF X Γ wk e) C.mono C.calm S rfl k1 k2 k3 h2 h3 (BF C h0 h5 fun y hy=>aE e C y hy) (fun s2 H2 fp A=>iu tg (hC s2 H2 fp A) _ h6) (fun s2 H2 fp A=>kj ifs (hC s2 H2 fp A) _ h7) (fun s2 H2 fp A=>aE kx (hC s2 H2 fp A) _ h8) (fun s2 H2 fp A=>aE vx (hC s2 H2 fp A) _ h9) I (si C rf rh w fun n st2 m' H' D e1 r1 r2 q=>q m' H' _ e1 r1 (R_ref.mpr ⟨D,r2,rfl⟩)) ?_
  rintro C' D H' s' m' I' ns fp ⟨a,o,ys,hF,hz,q⟩
  exact ⟨m',ns,fun h' hs'=>⟨.ref D,_,gz (I'.turned (t':=s'.toks) (fun b o hb e=>hs'.extBut b o hb e) fp.1 fp.2.1 fp.2.2.2.1 fp.2.2.2.2.1 fp.2.2.2.2.2) hF hz,rfl,q⟩⟩
 | .dct2 k v,X,c,C,x,h=>by
  replace h:=mw h
  obtain ⟨ks,vs,p,rfl,h⟩:=h
  replace h:=cL h
  obtain ⟨ok,rfl,h⟩:=h
  replace h:=fX h
  obtain ⟨kx,rfl,h⟩:=h
  replace h:=cL h
  obtain ⟨vx,rfl,h⟩:=h
  simp only [Bool.and_eq_true] at h
  exact BC C (aE k C _ h.1) (aE v C _ h.2)
 | .dcl _,X,c,C,x,h=>by rintro pins s σ H Q I ⟨m,ρ,st,rf,rh,w⟩;exact False.elim w
 | .eqd ne a b,X,c,C,x,h=>by
  replace h:=g9 h
  obtain ⟨l,o,r,p,rfl,h⟩:=h
  simp only [Bool.and_eq_true,beq_iff_eq,Bool.not_eq_true',beq_eq_false_iff_ne] at h
  obtain ⟨⟨⟨h1,n1⟩,h2⟩,h3⟩:=h
  subst h1
  rintro pins s σ H Q I ⟨m,ρ,st,rf,rh,w⟩
  exact wj (Al (by have:=C.room.un;omega) ne) (aE a C _ h2) (aE b C _ h3) n1 pins s σ H Q I ⟨m,ρ,st,rf,rh,aa C.mono a (fun v st1 k m1 H1 x1 e1 r1 r2=>⟨m1,ρ,st1,rf.mono e1,r1,
   aa C.mono b (fun u st2 k2 m2 H2 y2 e2 r3 r4=>⟨m2,st2,v,u,r3,r2.mono e2,r4,k2.1,k2.2.ext (e1.trans e2)⟩) k⟩) w⟩
 | .tmp a,X,c,C,x,h=>by
  have h:ar c a x=true:=h
  rintro pins s σ H Q I ⟨m,ρ,st,rf,rh,w⟩
  skip
  refine aE a C x h pins s σ H Q I ⟨m,ρ,st,rf,rh,aa C.mono a (fun v st1 k m1 H1 x1 e1 r1 r2=>?_) w⟩
  obtain ⟨st2,q,e2,r3,r4⟩:=p7 rh e1 r1 r2 k
  exact q m H1 x1 e2 r3 r4
 | .dcp a,X,c,C,x,h=>by
  replace h:=aN h
  obtain ⟨g,xs,p,rfl,h⟩:=h
  replace h:=aj h
  obtain ⟨y,p2,rfl,h⟩:=h
  replace h:=cL h
  obtain ⟨u,rfl,h⟩:=h
  simp only [Bool.and_eq_true,beq_iff_eq] at h
  obtain ⟨⟨⟨h1,h2⟩,h3⟩,h4⟩:=h
  exact EQ C h1 h2 h3 (aE a C _ h4)
 | .clr a,X,c,C,x,h=>by
  replace h:=aN h
  obtain ⟨g,xs,p,rfl,h⟩:=h
  replace h:=iX h
  obtain ⟨y,n,p2,rfl,h⟩:=h
  simp only [Bool.and_eq_true,beq_iff_eq,List.isEmpty_iff] at h
  obtain ⟨⟨⟨⟨h1,h2⟩,h3⟩,h4⟩,h5⟩:=h
  subst h3
  exact Ea C h1 (by rw [h2];exact beq_self_eq_true _) h4 (aE a C _ h5)
 | .sset _,X,c,C,x,h=>by rintro pins s σ H Q I ⟨m,ρ,st,rf,rh,w⟩;exact False.elim w
 | .jrev _,X,c,C,x,h=>by rintro pins s σ H Q I ⟨m,ρ,st,rf,rh,w⟩;exact False.elim w
 | .pcall _ _,X,c,C,x,h=>by rintro pins s σ H Q I ⟨m,ρ,st,rf,rh,w⟩;exact False.elim w
 | .hm _ _ _,X,c,C,x,h=>by rintro pins s σ H Q I ⟨m,ρ,st,rf,rh,w⟩;exact False.elim w
 | .part _ _,X,c,C,x,h=>by rintro pins s σ H Q I ⟨m,ρ,st,rf,rh,w⟩;exact False.elim w
theorem lg:∀(es:Es) {X:Cx} {c:Cfg} (C:COk X c Γ) (xs:List Expr),fg c es xs=true→PA X xs (TAx X.K (cV Γ es))
 | .nil,X,c,C,xs,h=>by
  have h:xs.isEmpty=true:=h
  cases xs with
  | nil =>
   rintro pos pins s σ H Q I ⟨m,ρ,st,rf,rh,w⟩
   skip
   exact jI pos pins s σ H Q I (w m H [] (Ext.refl _ _ _) rh (Rs_nil.mpr rfl))
  | cons x xs=>cases h
 | .cons e es,X,c,C,xs,h=>by
  replace h:=aF h
  obtain ⟨y,ys,rfl,h⟩:=h
  ·simp only [Bool.and_eq_true] at h
   obtain ⟨⟨h1,h2⟩,h3⟩:=h
   rintro pos pins s σ H Q I ⟨m,ρ,st,rf,rh,w⟩
   skip
   exact pac (aE e C _ h2) (lg es C _ h3) h1 pos pins s σ H Q I ⟨m,ρ,st,rf,rh,aa C.mono e (fun v st1 k m1 H1 x1 e1 r1 r2=>⟨m1,ρ,st1,rf.mono e1,r1,
    aC C.mono es (fun us st2 k2 m2 H2 ys e2 r3 r4=>k2 m2 H2 _ (e1.trans e2) r3 (Rs_cons'.mpr ⟨r2.mono e2,r4⟩)) k⟩) w⟩
theorem Gu:∀(o:O) {X:Cx} {c:Cfg} (C:COk X c Γ) (x:Option Expr),EG c o x=true→PO X x (fun σ H Q=>∃m ρ st,RF X.K m H ρ σ∧RH X.K m H st∧wpO Γ o ρ st fun v st'=>∀m' H',Ext X.K m H m' H'→RH X.K m' H' st'→Q v H')
 | .no,X,c,C,x,h=>by
  have h:x.isNone=true:=h
  cases x with
  | none =>
   rintro pins s σ H Q I ⟨m,ρ,st,rf,rh,w⟩
   skip
   exact BT pins s σ H Q I (w m H (Ext.refl _ _ _) rh)
  | some y=>cases h
 | .yes e,X,c,C,x,h=>by
  replace h:=fX h
  obtain ⟨y,rfl,h⟩:=h
  ·rintro pins s σ H Q I ⟨m,ρ,st,rf,rh,w⟩
   skip
   refine B_ (aE e C _ h) pins s σ H Q I ⟨m,ρ,st,rf,rh,aa C.mono e (fun v st1 k m1 H1 x1 e1 r1 r2=>?_) w⟩
   obtain ⟨i,rfl,k⟩:=k
   rw [R_int] at r2
   exact ⟨i,r2,k m1 H1 e1 r1⟩
theorem oH:∀(e:E) {X:Cx} {c:Cfg} (C:COk X c Γ) (x:Expr),xM c e x=true→PT X x (TTx X.K (wpT Γ e))
 | .not a,X,c,C,x,h=>by
  replace h:=oN h
  obtain ⟨y,p,rfl,h⟩:=h
  ·rintro pins s σ H Q I ⟨m,ρ,st,rf,rh,w⟩
   skip
   exact DA (oH a C _ h) pins s σ H Q I ⟨m,ρ,st,rf,rh,aJ C.mono a (fun k st1 z m1 H1 e1 r1=>z m1 H1 e1 r1) w⟩
 | .bop true es,X,c,C,x,h=>by
  replace h:=gS h
  obtain ⟨o,xs,p,rfl,h⟩:=h
  ·simp only [Bool.and_eq_true,beq_iff_eq,Bool.not_eq_true'] at h
   obtain ⟨⟨h1,h2⟩,h3⟩:=h
   subst h1
   rintro pins s σ H Q I ⟨m,ρ,st,rf,rh,w⟩
   skip
   exact (C7 es C _ _ h3 h2).pt pins s σ H Q I ⟨m,ρ,st,rf,rh,w⟩
 | .bop false es,X,c,C,x,h=>by
  replace h:=gS h
  obtain ⟨o,xs,p,rfl,h⟩:=h
  ·simp only [Bool.and_eq_true,beq_iff_eq,Bool.not_eq_true'] at h
   obtain ⟨⟨h1,h2⟩,h3⟩:=h
   subst h1
   rintro pins s σ H Q I ⟨m,ρ,st,rf,rh,w⟩
   skip
   exact (C0 es C _ _ h3 h2).pt pins s σ H Q I ⟨m,ρ,st,rf,rh,w⟩
 | .cmp op a b,X,c,C,x,h=>by
  replace h:=g9 h
  obtain ⟨l,o,r,p,rfl,h⟩:=h
  ·simp only [Bool.and_eq_true,beq_iff_eq,Bool.not_eq_true',beq_eq_false_iff_ne] at h
   obtain ⟨⟨⟨h1,n1⟩,h2⟩,h3⟩:=h
   subst h1
   rintro pins s σ H Q I ⟨m,ρ,st,rf,rh,w⟩
   skip
   refine wv (AO C.room.units _) (aE a C _ h2) (aE b C _ h3) n1 pins s σ H Q I ⟨m,ρ,st,rf,rh,aa C.mono a (fun v st1 k m1 H1 x1 e1 r1 r2=>⟨m1,ρ,st1,rf.mono e1,r1,
    aa C.mono b (fun u st2 k2 m2 H2 y2 e2 r3 r4=>⟨m2,st2,v,u,r3,r2.mono e2,r4,gW (fun _ _ q=>?_) k2⟩) k⟩) w⟩
   obtain ⟨k,rfl,q⟩:=q
   intro m' H' y e3 r5 r6
   rw [R_bl] at r6
   exact ⟨k,r6,q m' H' ((e1.trans e2).trans e3) r5⟩
 | .var i,X,c,C,x,h=>by
  replace h:=aj h
  obtain ⟨y,p,rfl,h⟩:=h
  ·rintro pins s σ H Q I ⟨m,ρ,st,rf,rh,w⟩
   skip
   refine fH (yw C h) (fun _=>rfl) pins s σ H Q I ⟨m,ρ,st,rf,rh,?_⟩
   skip
   obtain ⟨v,e,w⟩:=w
   exact ⟨v,e,fun m' H' y e1 r1 r2=>sK ⟨m',st,v,r1,r2,bK (fun _ _ q=>q.ext e1) w⟩⟩
 | .call f es,X,c,C,x,h=>by
  replace h:=aN h
  obtain ⟨g,xs,p,rfl,h⟩:=h
  replace h:=aj h
  obtain ⟨y,p2,rfl,h⟩:=h
  ·simp only [Bool.and_eq_true] at h
   obtain ⟨⟨h1,h2⟩,h3⟩:=h
   rintro pins s σ H Q I ⟨m,ρ,st,rf,rh,w⟩
   skip
   exact fH (tG C h1 h2 h3 (lg es C _ h3)) (fun _=>rfl) pins s σ H Q I ⟨m,ρ,st,rf,rh,aC C.mono es (fun vs st1 k=>C.mono _ _ _ _ _ (fun v st2 k2 m' H' y e1 r1 r2=>sK ⟨m',st2,v,r1,r2,bK (fun _ _ q=>q.ext e1) k2⟩) k) w⟩
 | .blt b es,X,c,C,x,h=>by
  replace h:=aN h
  obtain ⟨g,xs,p,rfl,h⟩:=h
  replace h:=aj h
  obtain ⟨y,p2,rfl,h⟩:=h
  ·simp only [Bool.and_eq_true,beq_iff_eq,Bool.not_eq_true'] at h
   obtain ⟨⟨⟨⟨h1,h2⟩,h3⟩,h4⟩,h5⟩:=h
   rintro pins s σ H Q I ⟨m,ρ,st,rf,rh,w⟩
   skip
   exact fH (tm C h1 h2 h3 h4 (lg es C _ h5)) (fun _=>rfl) pins s σ H Q I ⟨m,ρ,st,rf,rh,aC C.mono es (fun vs st1 k=>hJ (fun v st2 k2 m' H' y e1 r1 r2=>sK ⟨m',st2,v,r1,r2,bK (fun _ _ q=>q.ext e1) k2⟩) k) w⟩
 | .inst a t,X,c,C,x,h=>by
  replace h:=aN h
  obtain ⟨g,xs,p,rfl,h⟩:=h
  replace h:=aj h
  obtain ⟨y,p2,rfl,h⟩:=h
  replace h:=gZ h
  obtain ⟨l,r,rfl,h⟩:=h
  replace h:=aj h
  obtain ⟨z,p3,rfl,h⟩:=h
  ·rw [Bool.and_eq_true] at h
   rintro pins s σ H Q I ⟨m,ρ,st,rf,rh,w⟩
   skip
   refine fH (wp C h.1 (aE a C _ h.2)) (fun _=>rfl) pins s σ H Q I ⟨m,ρ,st,rf,rh,?_⟩
   skip
   refine aa C.mono a (fun v st1 k=>?_) w
   obtain ⟨n,e,k⟩:=k
   refine ⟨n,e,fun m' H' y e1 r1 r2=>?_⟩
   rw [R_bl] at r2
   subst r2
   exact ⟨_,rfl,k m' H' e1 r1⟩
 | .tmp a,X,c,C,x,h=>by
  have h:(tJ x && ar c a x)=true:=h
  rw [Bool.and_eq_true] at h
  rintro pins s σ H Q I ⟨m,ρ,st,rf,rh,w⟩
  skip
  have q:=aE a C x h.2
  refine fH q (u_ h.1 X.env) pins s σ H Q I ⟨m,ρ,st,rf,rh,aa C.mono a (fun v st1 k m1 H1 x1 e1 r1 r2=>?_) w⟩
  obtain ⟨st2,q,e2,r3,r4⟩:=p7 rh e1 r1 r2 k
  exact sK ⟨m,st2,v,r3,r4,bK (fun _ _ q=>q.ext e2) q⟩
 | .ix a b,X,c,C,x,h=>by
  replace h:=fO h
  obtain ⟨l,r,p,rfl,h⟩:=h
  ·simp only [Bool.and_eq_true] at h
   obtain ⟨⟨h1,h2⟩,h3⟩:=h
   rintro pins s σ H Q I ⟨m,ρ,st,rf,rh,w⟩
   skip
   refine fH (Ai (Db C.room.units) (aE a C _ h2) (aE b C _ h3) h1) (fun _=>rfl) pins s σ H Q I ⟨m,ρ,st,rf,rh,aa C.mono a (fun v st1 k m1 H1 x1 e1 r1 r2=>⟨m1,ρ,st1,rf.mono e1,r1,
    aa C.mono b (fun u st2 k2 m2 H2 y2 e2 r3 r4=>⟨m2,st2,v,u,r3,r2.mono e2,r4,jw (fun z st3 q m3 H3 y3 e3 r5 r6=>?_) k2⟩) k⟩) w⟩
   exact sK ⟨m3,st3,z,r5,r6,bK (fun _ _ q=>q.ext ((e1.trans e2).trans e3)) q⟩
 | .bl _,X,c,C,x,h=>by rintro pins s σ H Q I ⟨m,ρ,st,rf,rh,w⟩;exact False.elim w
 | .int _,X,c,C,x,h=>by rintro pins s σ H Q I ⟨m,ρ,st,rf,rh,w⟩;exact False.elim w
 | .non,X,c,C,x,h=>by rintro pins s σ H Q I ⟨m,ρ,st,rf,rh,w⟩;exact False.elim w
 | .str _,X,c,C,x,h=>by rintro pins s σ H Q I ⟨m,ρ,st,rf,rh,w⟩;exact False.elim w
 | .gv _ _,X,c,C,x,h=>by rintro pins s σ H Q I ⟨m,ρ,st,rf,rh,w⟩;exact False.elim w
 | .tup _,X,c,C,x,h=>by rintro pins s σ H Q I ⟨m,ρ,st,rf,rh,w⟩;exact False.elim w
 | .lst _,X,c,C,x,h=>by rintro pins s σ H Q I ⟨m,ρ,st,rf,rh,w⟩;exact False.elim w
 | .dct0,X,c,C,x,h=>by rintro pins s σ H Q I ⟨m,ρ,st,rf,rh,w⟩;exact False.elim w
 | .bad,X,c,C,x,h=>by rintro pins s σ H Q I ⟨m,ρ,st,rf,rh,w⟩;exact False.elim w
 | .dct1 _ _,X,c,C,x,h=>by rintro pins s σ H Q I ⟨m,ρ,st,rf,rh,w⟩;exact False.elim w
 | .bin _ _ _,X,c,C,x,h=>by rintro pins s σ H Q I ⟨m,ρ,st,rf,rh,w⟩;exact False.elim w
 | .neg _,X,c,C,x,h=>by rintro pins s σ H Q I ⟨m,ρ,st,rf,rh,w⟩;exact False.elim w
 | .ite _ _ _,X,c,C,x,h=>by rintro pins s σ H Q I ⟨m,ρ,st,rf,rh,w⟩;exact False.elim w
 | .sl _ _ _,X,c,C,x,h=>by rintro pins s σ H Q I ⟨m,ρ,st,rf,rh,w⟩;exact False.elim w
 | .met _ _ _,X,c,C,x,h=>by rintro pins s σ H Q I ⟨m,ρ,st,rf,rh,w⟩;exact False.elim w
 | .eqd ne a b,X,c,C,x,h=>by
  replace h:=g9 h
  obtain ⟨l,o,r,p,rfl,h⟩:=h
  simp only [Bool.and_eq_true,beq_iff_eq,Bool.not_eq_true',beq_eq_false_iff_ne] at h
  obtain ⟨⟨⟨h1,n1⟩,h2⟩,h3⟩:=h
  subst h1
  rintro pins s σ H Q I ⟨m,ρ,st,rf,rh,w⟩
  refine wv (Al (by have:=C.room.un;omega) ne) (aE a C _ h2) (aE b C _ h3) n1 pins s σ H Q I ⟨m,ρ,st,rf,rh,aa C.mono a (fun v st1 k m1 H1 x1 e1 r1 r2=>⟨m1,ρ,st1,rf.mono e1,r1,
   aa C.mono b (fun u st2 k2 m2 H2 y2 e2 r3 r4=>⟨m2,st2,v,u,r3,r2.mono e2,r4,k2.1,?_⟩) k⟩) w⟩
  intro m' H' y e3 r5 r6
  rw [R_bl] at r6
  exact ⟨!ne,r6,k2.2 m' H' ((e1.trans e2).trans e3) r5⟩
 | .compK _ _ _ _ _ _ _,X,c,C,x,h=>by rintro pins s σ H Q I ⟨m,ρ,st,rf,rh,w⟩;exact False.elim w
 | .compD _ _ _ _ _ _ _ _,X,c,C,x,h=>by rintro pins s σ H Q I ⟨m,ρ,st,rf,rh,w⟩;exact False.elim w
 | .dct2 _ _,X,c,C,x,h=>by rintro pins s σ H Q I ⟨m,ρ,st,rf,rh,w⟩;exact False.elim w
 | .dcl _,X,c,C,x,h=>by rintro pins s σ H Q I ⟨m,ρ,st,rf,rh,w⟩;exact False.elim w
 | .comp _ _ _ _ _ _,X,c,C,x,h=>by rintro pins s σ H Q I ⟨m,ρ,st,rf,rh,w⟩;exact False.elim w
 | .pcall _ _,X,c,C,x,h=>by rintro pins s σ H Q I ⟨m,ρ,st,rf,rh,w⟩;exact False.elim w
 | .hm _ _ _,X,c,C,x,h=>by rintro pins s σ H Q I ⟨m,ρ,st,rf,rh,w⟩;exact False.elim w
 | .jrev _,X,c,C,x,h=>by rintro pins s σ H Q I ⟨m,ρ,st,rf,rh,w⟩;exact False.elim w
 | .dcp _,X,c,C,x,h=>by rintro pins s σ H Q I ⟨m,ρ,st,rf,rh,w⟩;exact False.elim w
 | .clr _,X,c,C,x,h=>by rintro pins s σ H Q I ⟨m,ρ,st,rf,rh,w⟩;exact False.elim w
 | .sset _,X,c,C,x,h=>by rintro pins s σ H Q I ⟨m,ρ,st,rf,rh,w⟩;exact False.elim w
 | .part _ _,X,c,C,x,h=>by rintro pins s σ H Q I ⟨m,ρ,st,rf,rh,w⟩;exact False.elim w
theorem C_:∀(es:Es) {X:Cx} {c:Cfg} (C:COk X c Γ) (xs:List Expr) (pos:Pos),fg c es xs=true→xs.isEmpty=false→PE X (.BoolOp .And xs pos) (TEx X.K (pQ Γ es))
 | .nil,X,c,C,xs,pos,h,hn=>by
  have h:xs.isEmpty=true:=h
  rw [h] at hn
  cases hn
 | .cons e .nil,X,c,C,xs,pos,h,hn=>by
  replace h:=aF h
  obtain ⟨y,ys,rfl,h⟩:=h
  ·simp only [Bool.and_eq_true] at h
   obtain ⟨⟨h1,h2⟩,h3⟩:=h
   have h3:ys.isEmpty=true:=h3
   cases ys with
   | nil =>
    rintro pins s σ H Q I ⟨m,ρ,st,rf,rh,w⟩
    skip
    exact Bx (aE e C _ h2) pins s σ H Q I ⟨m,ρ,st,rf,rh,w⟩
   | cons _ _=>cases h3
 | .cons e (.cons e2 es),X,c,C,xs,pos,h,hn=>by
  replace h:=aF h
  obtain ⟨y,ys,rfl,h⟩:=h
  ·simp only [Bool.and_eq_true] at h
   obtain ⟨⟨h1,h2⟩,h3⟩:=h
   cases ys with
   | nil=>exact Bool.noConfusion (show false=true from h3)
   | cons y2 ys =>
    rintro pins s σ H Q I ⟨m,ρ,st,rf,rh,w⟩
    skip
    refine Dg (aE e C _ h2) (C_ (.cons e2 es) C (y2::ys) pos h3 rfl) pins s σ H Q I ⟨m,ρ,st,rf,rh,aa C.mono e (fun v st1 k m1 H1 x1 e1 r1 r2=>?_) w⟩
    obtain ⟨b,rfl,k⟩:=k
    rw [R_bl] at r2
    subst r2
    refine ⟨b,rfl,?_⟩
    cases b with
    | true=>rw [if_pos rfl] at k ⊢;exact ⟨m1,ρ,st1,rf.mono e1,r1,kY C.mono _ (fun _ _ q=>q.ext e1) k⟩
    | false=>rw [if_neg Bool.false_ne_true] at k ⊢;exact (k.ext e1).here r1 (R_bl.mpr rfl)
theorem CS:∀(es:Es) {X:Cx} {c:Cfg} (C:COk X c Γ) (xs:List Expr) (pos:Pos),fg c es xs=true→xs.isEmpty=false→PE X (.BoolOp .Or xs pos) (TEx X.K (pN Γ es))
 | .nil,X,c,C,xs,pos,h,hn=>by
  have h:xs.isEmpty=true:=h
  rw [h] at hn
  cases hn
 | .cons e .nil,X,c,C,xs,pos,h,hn=>by
  replace h:=aF h
  obtain ⟨y,ys,rfl,h⟩:=h
  ·simp only [Bool.and_eq_true] at h
   obtain ⟨⟨h1,h2⟩,h3⟩:=h
   have h3:ys.isEmpty=true:=h3
   cases ys with
   | nil =>
    rintro pins s σ H Q I ⟨m,ρ,st,rf,rh,w⟩
    skip
    exact Bx (aE e C _ h2) pins s σ H Q I ⟨m,ρ,st,rf,rh,w⟩
   | cons _ _=>cases h3
 | .cons e (.cons e2 es),X,c,C,xs,pos,h,hn=>by
  replace h:=aF h
  obtain ⟨y,ys,rfl,h⟩:=h
  ·simp only [Bool.and_eq_true] at h
   obtain ⟨⟨h1,h2⟩,h3⟩:=h
   cases ys with
   | nil=>exact Bool.noConfusion (show false=true from h3)
   | cons y2 ys =>
    rintro pins s σ H Q I ⟨m,ρ,st,rf,rh,w⟩
    skip
    refine FA (aE e C _ h2) (CS (.cons e2 es) C (y2::ys) pos h3 rfl) pins s σ H Q I ⟨m,ρ,st,rf,rh,aa C.mono e (fun v st1 k m1 H1 x1 e1 r1 r2=>?_) w⟩
    obtain ⟨b,rfl,k⟩:=k
    rw [R_bl] at r2
    subst r2
    refine ⟨b,rfl,?_⟩
    cases b with
    | true=>rw [if_pos rfl] at k ⊢;exact (k.ext e1).here r1 (R_bl.mpr rfl)
    | false=>rw [if_neg Bool.false_ne_true] at k ⊢;exact ⟨m1,ρ,st1,rf.mono e1,r1,j0 C.mono _ (fun _ _ q=>q.ext e1) k⟩
theorem C7:∀(es:Es) {X:Cx} {c:Cfg} (C:COk X c Γ) (xs:List Expr) (pos:Pos),lr c es xs=true→xs.isEmpty=false→PW X (.BoolOp .And xs pos) (TTx X.K (dX Γ es))
 | .nil,X,c,C,xs,pos,h,hn=>by
  have h:xs.isEmpty=true:=h
  rw [h] at hn
  cases hn
 | .cons e .nil,X,c,C,xs,pos,h,hn=>by
  replace h:=aF h
  obtain ⟨y,ys,rfl,h⟩:=h
  ·simp only [Bool.and_eq_true] at h
   obtain ⟨h2,h3⟩:=h
   have h3:ys.isEmpty=true:=h3
   cases ys with
   | nil =>
    rintro whole pins s σ H Q I ⟨m,ρ,st,rf,rh,w⟩
    skip
    exact BO (oH e C _ h2) whole pins s σ H Q I ⟨m,ρ,st,rf,rh,w⟩
   | cons _ _=>cases h3
 | .cons e (.cons e2 es),X,c,C,xs,pos,h,hn=>by
  replace h:=aF h
  obtain ⟨y,ys,rfl,h⟩:=h
  ·simp only [Bool.and_eq_true] at h
   obtain ⟨h2,h3⟩:=h
   cases ys with
   | nil=>exact Bool.noConfusion (show false=true from h3)
   | cons y2 ys =>
    rintro whole pins s σ H Q I ⟨m,ρ,st,rf,rh,w⟩
    skip
    refine E_ (oH e C _ h2) (C7 (.cons e2 es) C (y2::ys) pos h3 rfl) whole pins s σ H Q I ⟨m,ρ,st,rf,rh,aJ C.mono e (fun b st1 k m1 H1 e1 r1=>?_) w⟩
    cases b with
    | true=>rw [if_pos rfl] at k ⊢;exact ⟨m1,ρ,st1,rf.mono e1,r1,aI C.mono _ (fun _ _ q=>q.ext e1) k⟩
    | false=>rw [if_neg Bool.false_ne_true] at k ⊢;exact k m1 H1 e1 r1
theorem C0:∀(es:Es) {X:Cx} {c:Cfg} (C:COk X c Γ) (xs:List Expr) (pos:Pos),lr c es xs=true→xs.isEmpty=false→PW X (.BoolOp .Or xs pos) (TTx X.K (qI Γ es))
 | .nil,X,c,C,xs,pos,h,hn=>by
  have h:xs.isEmpty=true:=h
  rw [h] at hn
  cases hn
 | .cons e .nil,X,c,C,xs,pos,h,hn=>by
  replace h:=aF h
  obtain ⟨y,ys,rfl,h⟩:=h
  ·simp only [Bool.and_eq_true] at h
   obtain ⟨h2,h3⟩:=h
   have h3:ys.isEmpty=true:=h3
   cases ys with
   | nil =>
    rintro whole pins s σ H Q I ⟨m,ρ,st,rf,rh,w⟩
    skip
    exact Dq (oH e C _ h2) whole pins s σ H Q I ⟨m,ρ,st,rf,rh,w⟩
   | cons _ _=>cases h3
 | .cons e (.cons e2 es),X,c,C,xs,pos,h,hn=>by
  replace h:=aF h
  obtain ⟨y,ys,rfl,h⟩:=h
  ·simp only [Bool.and_eq_true] at h
   obtain ⟨h2,h3⟩:=h
   cases ys with
   | nil=>exact Bool.noConfusion (show false=true from h3)
   | cons y2 ys =>
    rintro whole pins s σ H Q I ⟨m,ρ,st,rf,rh,w⟩
    skip
    refine FB (oH e C _ h2) (C0 (.cons e2 es) C (y2::ys) pos h3 rfl) whole pins s σ H Q I ⟨m,ρ,st,rf,rh,aJ C.mono e (fun b st1 k m1 H1 e1 r1=>?_) w⟩
    cases b with
    | true=>rw [if_pos rfl] at k ⊢;exact k m1 H1 e1 r1
    | false=>rw [if_neg Bool.false_ne_true] at k ⊢;exact ⟨m1,ρ,st1,rf.mono e1,r1,kh C.mono _ (fun _ _ q=>q.ext e1) k⟩
theorem iu:∀(t:Tg) {X:Cx} {c:Cfg} (C:COk X c Γ) (x:Expr),iw c t x=true→PG X x (TGx X.K (bF Γ t))
 | .name i,X,c,C,x,h=>by
  replace h:=aj h
  obtain ⟨y,p,rfl,h⟩:=h
  ·simp only [Bool.and_eq_true,beq_iff_eq] at h
   obtain ⟨h1,h2⟩:=C.locx h.2
   rintro pins s σ H v u Q I r ⟨m,ρ,st,p,rf,rh,hr,w⟩
   skip
   exact Ct C.ndX (by rw [C.N];exact h.1) h1 h2 pins s σ H v u Q I r (w.here rh (rf.set i hr))
 | .tup ts,X,c,C,x,h=>by
  replace h:=bB h
  obtain ⟨xs,k,p,rfl,h⟩:=h
  ·rintro pins s σ H v u Q I r ⟨m,ρ,st,p,rf,rh,hr,w⟩
   skip
   obtain ⟨vs,rfl,hl,w⟩:=w
   rw [R_tup] at hr
   obtain ⟨a,ys,rfl,g,r2⟩:=hr
   obtain ⟨l1,l2⟩:=nK (env:=X.env) h
   refine Eb C.calm (Bl ts C _ h) l1 l2 pins s σ H _ u Q I r ⟨a,ys,rfl,g,?_,m,ρ,st,vs,rf,rh,r2,w⟩
   rw [←r2.len]
   exact hl
 | .ltup ts,X,c,C,x,h=>by rintro pins s σ H v u Q I r ⟨m,ρ,st,p,rf,rh,hr,w⟩;exact False.elim w
 | .sub o i,X,c,C,x,h=>by
  replace h:=fO h
  obtain ⟨l,rr,pos,rfl,h⟩:=h
  ·simp only [Bool.and_eq_true] at h
   obtain ⟨⟨h1,h2⟩,h3⟩:=h
   rintro pins s σ H v u Q I r ⟨m,ρ,st,p,rf,rh,hr,w⟩
   skip
   refine D3 (aE o C _ h2) (aE i C _ h3) (D8 C.room.units) (by cases rr <;> first|(intro _;rfl)|cases h1) pins s σ H v u Q I r ⟨m,ρ,st,rf,rh,aa C.mono o (fun a st1 k m1 H1 x1 e1 r1 r2=>⟨m1,ρ,st1,rf.mono e1,r1,
    aa C.mono i (fun b st2 k2 m2 H2 y2 e2 r3 r4=>⟨m2,st2,a,b,p,r3,r2.mono e2,r4,(hr.mono e1).mono e2,pi (fun st3 q H3 e3 r5=>?_) k2⟩) k⟩) w⟩
   exact q m2 H3 σ ((e1.trans e2).trans e3) r5 (((rf.mono e1).mono e2).mono e3)
theorem Bl:∀(ts:Tgs) {X:Cx} {c:Cfg} (C:COk X c Γ) (xs:List Expr),nQ c ts xs=true→PGs X xs (GT X.K (gu Γ ts))
 | .nil,X,c,C,xs,h=>by
  have h:xs.isEmpty=true:=h
  cases xs with
  | nil =>
   rintro pins s σ H v u Q I r ⟨m,ρ,st,p,rf,rh,hr,w⟩
   skip
   obtain ⟨rfl,w⟩:=w
   rw [Rs_nil] at hr
   exact Cl pins s σ H v u Q I r ⟨hr,w.here rh rf⟩
  | cons _ _=>cases h
 | .cons t ts,X,c,C,xs,h=>by
  replace h:=aF h
  obtain ⟨y,ys,rfl,h⟩:=h
  ·simp only [Bool.and_eq_true] at h
   obtain ⟨⟨h1,h2⟩,h3⟩:=h
   rintro pins s σ H v u Q I r ⟨m,ρ,st,p,rf,rh,hr,w⟩
   skip
   obtain ⟨x,q,rfl,w⟩:=w
   rw [Rs_cons] at hr
   obtain ⟨y,ys,rfl,g1,g2⟩:=hr
   refine Am (iu t C _ h2) (Bl ts C _ h3) (by rw [ip h1];rfl) pins s σ H _ u Q I r ⟨y,ys,rfl,m,ρ,st,x,rf,rh,g1,aw C.mono t (fun ρ1 st1 k m1 H1 σ1 e1 r1 r2=>?_) w⟩
   exact ⟨m1,ρ1,st1,q,r2,r1,g2.mono e1,ga C.mono ts (fun _ _ q=>q.ext e1) k⟩
theorem AG:∀(it:It) {X:Cx} {c:Cfg} (C:COk X c Γ) {tg:Expr} (x:Expr),zv it tg=true→xV c it x=true→PI X tg x (TIx X.K (i8 Γ it))
 | .seq e,X,c,C,tg,x,_,h=>by
  have h:(fe x && ar c e x)=true:=h
  rw [Bool.and_eq_true] at h
  rintro pins s σ H Rr I ⟨m,ρ,st,rf,rh,w⟩
  skip
  refine D4 (aE e C x h.2) pins s σ H Rr I ⟨m,ρ,st,rf,rh,aa C.mono e (fun v st1 k m1 H1 x1 e1 r1 r2=>?_) w⟩
  obtain ⟨xs,es,k⟩:=k
  cases v with
  | tup ys =>
   cases es
   rw [R_tup] at r2
   obtain ⟨a,zs,rfl,g,r3⟩:=r2
   exact ⟨a,rfl,.inr ⟨⟨zs,g⟩,k m1 H1 _ e1 r1 (yN g r3)⟩⟩
  | rdl ys =>
   cases es
   rw [ff] at r2
   obtain ⟨a,zs,rfl,g,r3⟩:=r2
   exact ⟨a,rfl,.inl ⟨⟨zs,g.sq⟩,k m1 H1 _ e1 r1 (yK g r3)⟩⟩
  | ref n =>
   unfold bo br at es
   simp only at es
   split at es
   ·cases es
    rename_i q
    obtain ⟨a,zs,rfl,ea,g,r3⟩:=r1.lst q r2
    exact ⟨a,rfl,.inl ⟨⟨zs,SqL.of g⟩,k m1 H1 _ e1 r1 (xz r1 q ea)⟩⟩
   ·cases es
  | _=>cases es
 | .range1 a,X,c,C,tg,x,_,h=>by
  replace h:=aN h
  obtain ⟨g,xs,p,rfl,h⟩:=h
  replace h:=aj h
  obtain ⟨y,p2,rfl,h⟩:=h
  replace h:=cL h
  obtain ⟨l,rfl,h⟩:=h
  ·simp only [Bool.and_eq_true,beq_iff_eq] at h
   obtain ⟨⟨⟨h1,h2⟩,h3⟩,h4⟩:=h
   subst h1
   obtain ⟨g1,g2,g3,g4⟩:=C.bltx h2
   rintro pins s σ H Rr I ⟨m,ρ,st,rf,rh,w⟩
   skip
   have hA:PA X [_] (nj (TEx X.K (wpE Γ a)) wS):=pac (aE a C _ h4) jI h3
   refine wF g1 g4 hA (cM h3) pins s σ H Rr I ⟨m,ρ,st,rf,rh,aa C.mono a (fun v st1 k m1 H1 x1 e1 r1 r2=>?_) w⟩
   obtain ⟨j,rfl,k1,k2,k⟩:=k
   rw [R_int] at r2
   subst r2
   exact ⟨j,rfl,k1,k2,k m1 H1 _ e1 r1 vP⟩
 | .range2 _ _,X,c,C,tg,x,_,h=>by rintro pins s σ H Rr I ⟨m,ρ,st,rf,rh,w⟩;exact False.elim w
 | .zip a b,X,c,C,tg,x,ht,h=>by
  replace h:=aN h
  obtain ⟨g,xs,p,rfl,h⟩:=h
  replace h:=aj h
  obtain ⟨y,p2,rfl,h⟩:=h
  replace h:=gZ h
  obtain ⟨l,r,rfl,h⟩:=h
  ·simp only [Bool.and_eq_true,beq_iff_eq] at h
   obtain ⟨⟨⟨⟨⟨h1,h2⟩,h3⟩,h3'⟩,h4⟩,h5⟩:=h
   subst h1
   obtain ⟨g1,g2,g3,g4⟩:=C.bltx h2
   cases tg with
   | Tuple elts kt pt =>
    rintro pins s σ H Rr I ⟨m,ρ,st,rf,rh,w⟩
    skip
    have hA:PA X [_,_] (nj (TEx X.K (wpE Γ a)) (nj (TEx X.K (wpE Γ b)) wS)):=pac (aE a C _ h4) (pac (aE b C _ h5) jI h3') h3
    refine Df g1 g4 hA (by rw [cM h3,cM h3'];rfl) (cM h3') pins s σ H Rr I ⟨m,ρ,st,rf,rh,aa C.mono a (fun v st1 k m1 H1 x1 e1 r1 r2=>⟨m1,ρ,st1,rf.mono e1,r1,
     aa C.mono b (fun u st2 k2 m2 H2 y2 e2 r3 r4=>?_) k⟩) w⟩
    obtain ⟨xs,ys,q1,q2,k⟩:=k2
    obtain ⟨a1,rfl,w1,s1⟩:=C6 r3 (r2.mono e2) q1
    obtain ⟨a2,rfl,w2,s2⟩:=C6 r3 r4 q2
    refine ⟨a1,a2,rfl,fun e he=>?_,k m2 H2 _ (e1.trans e2) r3 (Aw w1 w2)⟩
    simp only [List.mem_cons,List.not_mem_nil,or_false] at he
    rcases he with rfl|rfl
    ·exact s1
    ·exact s2
   | _=>cases ht
 | .zip3 _ _ _,X,c,C,tg,x,ht,h=>by rintro pins s σ H Rr I ⟨m,ρ,st,rf,rh,w⟩;exact False.elim w
 | .enum _,X,c,C,tg,x,ht,h=>by rintro pins s σ H Rr I ⟨m,ρ,st,rf,rh,w⟩;exact False.elim w
 | .chars e,X,c,C,tg,x,_,h=>by
  have h:(fe x && ar c e x)=true:=h
  rw [Bool.and_eq_true] at h
  rintro pins s σ H Rr I ⟨m,ρ,st,rf,rh,w⟩
  refine yD (aE e C x h.2) pins s σ H Rr I ⟨m,ρ,st,rf,rh,aa C.mono e (fun v st1 k m1 H1 x1 e1 r1 r2=>?_) w⟩
  obtain ⟨z,rfl,k⟩:=k
  rw [R_str] at r2
  exact ⟨z,r2,k m1 H1 _ e1 r1 vB⟩
 | .range3 _ _ _,X,c,C,tg,x,_,h=>by rintro pins s σ H Rr I ⟨m,ρ,st,rf,rh,w⟩;exact False.elim w
theorem kj:∀(es:Es) {X:Cx} {c:Cfg} (C:COk X c Γ) (xs:List Expr),lr c es xs=true→PTs X xs (TTx X.K (dX Γ es))
 | .nil,X,c,C,xs,h=>by
  have h:xs.isEmpty=true:=h
  cases xs with
  | nil =>
   rintro pins s σ H Q I ⟨m,ρ,st,rf,rh,w⟩
   skip
   exact wo pins s σ H Q I (w m H (Ext.refl _ _ _) rh)
  | cons _ _=>cases h
 | .cons e .nil,X,c,C,xs,h=>by
  replace h:=aF h
  obtain ⟨y,ys,rfl,h⟩:=h
  ·simp only [Bool.and_eq_true] at h
   obtain ⟨h2,h3⟩:=h
   have h3:ys.isEmpty=true:=h3
   cases ys with
   | nil =>
    rintro pins s σ H Q I ⟨m,ρ,st,rf,rh,w⟩
    skip
    refine sD (oH e C _ h2) wo pins s σ H Q I ⟨m,ρ,st,rf,rh,aJ C.mono e (fun b st1 k m1 H1 e1 r1=>?_) w⟩
    cases b with
    | true=>rw [if_pos rfl];exact k m1 H1 e1 r1
    | false=>rw [if_neg Bool.false_ne_true];exact k m1 H1 e1 r1
   | cons _ _=>cases h3
 | .cons e (.cons e2 es),X,c,C,xs,h=>by
  replace h:=aF h
  obtain ⟨y,ys,rfl,h⟩:=h
  ·simp only [Bool.and_eq_true] at h
   obtain ⟨h2,h3⟩:=h
   rintro pins s σ H Q I ⟨m,ρ,st,rf,rh,w⟩
   skip
   refine sD (oH e C _ h2) (kj (.cons e2 es) C _ h3) pins s σ H Q I ⟨m,ρ,st,rf,rh,aJ C.mono e (fun b st1 k m1 H1 e1 r1=>?_) w⟩
   cases b with
   | true=>rw [if_pos rfl] at k ⊢;exact ⟨m1,ρ,st1,rf.mono e1,r1,aI C.mono _ (fun _ _ q=>q.ext e1) k⟩
   | false=>rw [if_neg Bool.false_ne_true] at k ⊢;exact k m1 H1 e1 r1
end
end
end FW
namespace FW
open L2 HX
section
variable {X:Cx} {c:Cfg} {Γ:Nat→FSp} {tg:Expr}
noncomputable def AE (K:W.Frag) (m:List Addr) (H:Hp) (D:L2.Ends):aL:={ nx:=postF K m H D.nx,rt:=post K m H D.rt,bk:=postF K m H D.bk,ct:=postF K m H D.ct }
noncomputable def TSx (K:W.Frag) (w:Fr→AH→aL→Prop):TS:=fun D σ H=>∃m ρ st,RF K m H ρ σ∧RH K m H st∧w ρ st (AE K m H D)
theorem AE.ext {K:W.Frag} {m m1:List Addr} {H H1:Hp} {D:L2.Ends} (x:Ext K m H m1 H1):ji (AE K m H D) (AE K m1 H1 D) :=
 ⟨fun _ _ q=>q.ext x,fun _ _ q=>q.ext x,fun _ _ q=>q.ext x,fun _ _ q=>q.ext x⟩
theorem CL (G:bb Γ) {t:Tg} {it:It} {b:Ss} {D:L2.Ends} {σ:L2.St} {H:Hp} (h:TSx X.K (wpS Γ (.forS t it b)) D σ H):Dy (TIx X.K (i8 Γ it)) (TGx X.K (bF Γ t)) (TSx X.K (au Γ b)) D σ H:=by
 obtain ⟨m,ρ,st,rf,rh,w⟩:=h
 skip
 refine ⟨m,ρ,st,rf,rh,fJ G it (fun xs chk st1 k m1 H1 J e1 r1 W=>?_) w⟩
 refine ⟨fun i n σ' H'=>n+i=xs.length∧∃m' ρ' st',Ext X.K m1 H1 m' H'∧RH X.K m' H' st'∧RF X.K m' H' ρ' σ'∧lE chk (fun x ρ' st' D'=>bF Γ t x ρ' st' fun ρ2 st2=>au Γ b ρ2 st2 D') (AE X.K m H D) (xs.drop i) ρ' st',
  ⟨xs.length,rfl,m1,ρ,st1,Ext.refl _ _ _,r1,rf.mono e1,by simpa using k⟩,?_⟩
 rintro i n σ' H' ⟨hn,m',ρ',st',x',rh',rf',k'⟩
 cases q:xs.drop i with
 | nil =>
  rw [q] at k'
  have hi:i=xs.length:=by
   have:=congrArg List.length q
   simp at this
   omega
  subst hi
  exact .inl ⟨W.stop m' H' st' x' rh' k'.1,k'.2 m' H' σ' (e1.trans x') rh' rf'⟩
 | cons v rest =>
  rw [q] at k'
  have hi:i<xs.length:=by
   have:=congrArg List.length q
   simp at this
   omega
  have ev:xs[i]?=some v:=by
   have:=congrArg List.head? q
   rw [List.head?_drop] at this
   exact this
  have er:rest=xs.drop (i+1):=by
   have:=congrArg List.tail q
   rw [List.tail_drop] at this
   exact this.symm
  subst er
  obtain ⟨kc,k'⟩:=k'
  obtain ⟨go,yl⟩:=W.item i v m' H' st' x' rh' kc ev
  refine .inr ⟨go,fun σ'' H''=>(n-1+(i+1)=xs.length∧∃m' ρ' st',Ext X.K m1 H1 m' H''∧RH X.K m' H'' st'∧RF X.K m' H'' ρ' σ''∧lE chk (fun x ρ' st' D'=>bF Γ t x ρ' st' fun ρ2 st2=>au Γ b ρ2 st2 D') (AE X.K m H D) (xs.drop (i+1)) ρ' st'),fun σ'' H'' z=>⟨n-1,by omega,z⟩,fun y H2 hy=>?_⟩
  obtain ⟨x2,r2,rv⟩:=yl y H2 hy
  refine ⟨m',ρ',st',v,rf'.mono x2,r2,rv,aw G t (fun ρ3 st3 k3 m3 H3 σ3 x3 r3 f3=>?_) k'⟩
  refine ⟨m3,ρ3,st3,f3,r3,aH G b ?_ k3⟩
  have xx:Ext X.K m H m3 H3:=((e1.trans x').trans x2).trans x3
  refine ⟨fun ρ4 st4 k4 m4 H4 σ4 x4 r4 f4=>⟨by omega,m4,ρ4,st4,((x'.trans x2).trans x3).trans x4,r4,f4,k4⟩,fun v4 st4 k4=>k4.ext xx,fun ρ4 st4 k4=>k4.ext xx,fun ρ4 st4 k4 m4 H4 σ4 x4 r4 f4=>⟨by omega,m4,ρ4,st4,((x'.trans x2).trans x3).trans x4,r4,f4,k4⟩⟩
noncomputable def EF (X:Cx) (D:L2.Ends):L2.Ends:={ nx:=fun σ H=>∃a o ys,H a=some (.frz o (.dK ys))∧(∀u q,X.H₀ a≠some (.frz u q))∧D.nx σ (upd H a (.dK ys)),rt:=fun v H=>∃a o ys,H a=some (.frz o (.dK ys))∧(∀u q,X.H₀ a≠some (.frz u q))∧D.rt v (upd H a (.dK ys)),bk:=fun _ _=>False,ct:=fun _ _=>False }
theorem BX {pins:List (Addr × Obj)} {D:L2.Ends} {f:Flow} {s':Shared} (h:SP X pins (EF X D) f s'):SP X pins D f s':=by
 cases f with
 | next=>obtain ⟨σ',H',I,a,o,ys,hF,hz,q⟩:=h;exact ⟨σ',_,gz I hF hz,q⟩
 | ret u=>obtain ⟨v,σ',H',I,r,a,o,ys,hF,hz,q⟩:=h;exact ⟨v,σ',_,gz I hF hz,r,q⟩
 | brk=>obtain ⟨σ',H',I,q⟩:=h;exact False.elim q
 | cont=>obtain ⟨σ',H',I,q⟩:=h;exact False.elim q
theorem An (G:bb Γ) {t:Tg} {wk:DW} {e:E} {b:Ss} {D:L2.Ends} {σ:L2.St} {H:Hp} (h:TSx X.K (wpS Γ (.forK t wk e b)) D σ H):Dy (wiF X Γ wk e) (TGx X.K (bF Γ t)) (TSx X.K (au Γ b)) (EF X D) σ H:=by
 obtain ⟨m,ρ,st,rf,rh,w⟩:=h
 refine ⟨m,ρ,st,rf,rh,aa G e (fun v st1 z=>?_) w⟩
 obtain ⟨n,rfl,kvs,h1,k⟩:=z
 refine ⟨n,kvs,rfl,h1,fun m1 H1 a o ys e1 r1 ea g r3 r4 hz=>?_⟩
 have xs:Ext X.K m1 H1 m1 (upd H1 a (.frz o (.dK ys))):=Ext.set (ys:=[]) r1 ea (nfD g)
 have W:kU X.K (ItF wk a o ys) (aZ wk kvs) (fun _=>True) m1 (upd H1 a (.frz o (.dK ys))):=uM ao r3 (r4.mono xs)
 have rF:=r1.frz (o:=o) ea g r3 r4
 generalize hH2:upd H1 a (.frz o (.dK ys))=H2 at *
 have hF0:H2 a=some (.frz o (.dK ys)):=by rw [←hH2];exact ao
 have toD:∀ {m':List Addr} {H':Hp},Ext X.K m1 H2 m' H'→Ext X.K m H m' (upd H' a (.dK ys)):=fun {m' H'} x=>e1.trans (Ext.thaw (o:=o) r1 ea g (by rw [hH2];exact x))
 have endN:∀ {ρ':Fr} {st':AH} {m':List Addr} {H':Hp} {σ':L2.St},Ext X.K m1 H2 m' H'→RH X.K m' H' st'→RF X.K m' H' ρ' σ'→(fzD n kvs (AE X.K m H D)).nx ρ' st'→(EF X D).nx σ' H':=fun {ρ' st' m' H' σ'} x r f q=>by
  have hF:H' a=some (.frz o (.dK ys)):=x.frz _ _ _ hF0
  exact ⟨a,o,ys,hF,hz,q.2 m' _ σ' (toD x) (r.thaw (eD x.pre ea) hF q.1) ⟨f.len,fun i v e=>let ⟨y,e1,rr⟩:=f.at_ i v e;⟨y,e1,rr.mono0 (df hF) (cZ hF)⟩⟩⟩
 have endR:∀ {v:PV} {x:V} {st':AH} {m':List Addr} {H':Hp},Ext X.K m1 H2 m' H'→RH X.K m' H' st'→R X.K m' H' v x→(fzD n kvs (AE X.K m H D)).rt v st'→(EF X D).rt x H':=fun {v x st' m' H'} e r f q=>by
  have hF:H' a=some (.frz o (.dK ys)):=e.frz _ _ _ hF0
  exact ⟨a,o,ys,hF,hz,q.2 m' _ x (toD e) (r.thaw (eD e.pre ea) hF q.1) (f.mono0 (df hF) (cZ hF))⟩
 refine ⟨fun i n' σ' H'=>n'+i=(aZ wk kvs).length∧∃m' ρ' st',Ext X.K m1 H2 m' H'∧RH X.K m' H' st'∧RF X.K m' H' ρ' σ'∧lE (fun _=>True) (fun x ρ' st' D'=>bF Γ t x ρ' st' fun ρ2 st2=>au Γ b ρ2 st2 D') (fzD n kvs (AE X.K m H D)) ((aZ wk kvs).drop i) ρ' st',
  ⟨(aZ wk kvs).length,rfl,m1,ρ,st1.set n (.fz kvs),Ext.refl _ _ _,rF,(rf.mono e1).mono xs,by simpa using k⟩,?_⟩
 generalize aZ wk kvs=xl at *
 rintro i n' σ' H' ⟨hn,m',ρ',st',x',rh',rf',k'⟩
 cases q:xl.drop i with
 | nil =>
  rw [q] at k'
  have hi:i=xl.length:=by
   have:=congrArg List.length q
   simp at this
   omega
  subst hi
  exact .inl ⟨W.stop m' H' st' x' rh' trivial,endN x' rh' rf' k'.2⟩
 | cons v rest =>
  rw [q] at k'
  have hi:i<xl.length:=by
   have:=congrArg List.length q
   simp at this
   omega
  have ev:xl[i]?=some v:=by
   have:=congrArg List.head? q
   rw [List.head?_drop] at this
   exact this
  have er:rest=xl.drop (i+1):=by
   have:=congrArg List.tail q
   rw [List.tail_drop] at this
   exact this.symm
  subst er
  obtain ⟨kc,k'⟩:=k'
  obtain ⟨go,yl⟩:=W.item i v m' H' st' x' rh' trivial ev
  refine .inr ⟨go,fun σ'' H''=>(n'-1+(i+1)=xl.length∧∃m' ρ' st',Ext X.K m1 H2 m' H''∧RH X.K m' H'' st'∧RF X.K m' H'' ρ' σ''∧lE (fun _=>True) (fun x ρ' st' D'=>bF Γ t x ρ' st' fun ρ2 st2=>au Γ b ρ2 st2 D') (fzD n kvs (AE X.K m H D)) (xl.drop (i+1)) ρ' st'),fun σ'' H'' z=>⟨n'-1,by omega,z⟩,fun y H3 hy=>?_⟩
  obtain ⟨x2,r2,rv⟩:=yl y H3 hy
  refine ⟨m',ρ',st',v,rf'.mono x2,r2,rv,aw G t (fun ρ3 st3 k3 m3 H4 σ3 x3 r3 f3=>?_) k'⟩
  refine ⟨m3,ρ3,st3,f3,r3,aH G b ?_ k3⟩
  have xx:Ext X.K m1 H2 m3 H4:=(x'.trans x2).trans x3
  exact ⟨fun ρ4 st4 k4 m4 H4 σ4 x4 r4 f4=>⟨by omega,m4,ρ4,st4,xx.trans x4,r4,f4,k4⟩,fun v4 st4 k4 m4 H4 y4 x4 r4 f4=>endR (xx.trans x4) r4 f4 k4,fun ρ4 st4 k4 m4 H4 σ4 x4 r4 f4=>endN (xx.trans x4) r4 f4 k4,fun ρ4 st4 k4 m4 H4 σ4 x4 r4 f4=>⟨by omega,m4,ρ4,st4,xx.trans x4,r4,f4,k4⟩⟩
theorem w5 (G:bb Γ) {cd:E} {b:Ss} {D:L2.Ends} {σ:L2.St} {H:Hp} (h:TSx X.K (wpS Γ (.whileS cd b)) D σ H):yx (TTx X.K (wpT Γ cd)) (TSx X.K (au Γ b)) D σ H:=by
 obtain ⟨m,ρ,st,rf,rh,w⟩:=h
 skip
 obtain ⟨n0,w⟩:=w
 refine ⟨fun n σ' H'=>∃m' ρ' st',Ext X.K m H m' H'∧RH X.K m' H' st'∧RF X.K m' H' ρ' σ'∧eL (wpT Γ cd) (au Γ b) (AE X.K m H D) n ρ' st',⟨n0,m,ρ,st,Ext.refl _ _ _,rh,rf,w⟩,?_⟩
 rintro n σ' H' ⟨m',ρ',st',x',rh',rf',k'⟩
 cases n with
 | zero=>exact k'.elim
 | succ n =>
  refine ⟨m',ρ',st',rf',rh',aJ G cd (fun b st1 k m1 H1 x1 r1=>?_) k'⟩
  cases b with
  | false=>rw [if_neg Bool.false_ne_true] at k ⊢;exact k m1 H1 σ' (x'.trans x1) r1 (rf'.mono x1)
  | true =>
   rw [if_pos rfl] at k ⊢
   refine ⟨fun σ'' H''=>∃m' ρ' st',Ext X.K m H m' H''∧RH X.K m' H'' st'∧RF X.K m' H'' ρ' σ''∧eL (wpT Γ cd) (au Γ b) (AE X.K m H D) n ρ' st',fun σ'' H'' z=>⟨n,Nat.lt_succ_self _,z⟩,m1,ρ',st1,rf'.mono x1,r1,aH G _ ?_ k⟩
   have xx:=x'.trans x1
   exact ⟨fun ρ4 st4 k4 m4 H4 σ4 x4 r4 f4=>⟨m4,ρ4,st4,xx.trans x4,r4,f4,k4⟩,fun v4 st4 k4=>k4.ext xx,fun ρ4 st4 k4=>k4.ext xx,fun ρ4 st4 k4 m4 H4 σ4 x4 r4 f4=>⟨m4,ρ4,st4,xx.trans x4,r4,f4,k4⟩⟩
end
end FW
namespace FW
open L2 HX
noncomputable def mZ:Expr→Bool
 | .Name ..=>true
 | _=>false
noncomputable def ye:Expr→Expr→Bool
 | .Tuple ts _ _,.Tuple vs _ _=>(ts.any fun t=>!mZ t) || vs.all (foldedForSure 8)
 | .Tuple ..,_=>true
 | .Subscript ..,_=>true
 | _,_=>false
noncomputable def pW (y:Str) (sc:Scope):Bool:=sc.names.any fun x=>match x with|(n,k)=>n == y && (k == .local || k == .cell)
noncomputable def uE (x:Stmt) (f:List Expr→Expr→Bool):Bool:=match x with | .Assign ts v _=>f ts v|_=>false
theorem mz {x:Stmt} {f:List Expr→Expr→Bool} (h:uE x f=true):∃ts v p,x=.Assign ts v p∧f ts v=true:=by
 cases x with|Assign ts v p=>exact ⟨ts,v,p,rfl,h⟩|_=>exact Bool.noConfusion h
noncomputable def Av (x:Stmt) (f:Expr→Expr→Bool):Bool:=uE x fun ts v=>on1 ts fun t=>f t v
theorem oY {x:Stmt} {f:Expr→Expr→Bool} (h:Av x f=true):∃t v p,x=.Assign [t] v p∧f t v=true:=by
 replace h:=mz h
 obtain ⟨ts,v,p,rfl,h⟩:=h
 replace h:=cL h
 obtain ⟨t,rfl,h⟩:=h
 exact ⟨t,v,p,rfl,h⟩
noncomputable def FM (x:Stmt) (f:Expr→Operator→Expr→Bool):Bool:=match x with | .AugAssign t o v _=>f t o v|_=>false
noncomputable def F_ (x:Stmt) (f:Expr→Bool):Bool:=match x with | .Expr v _=>f v|_=>false
theorem xQ {x:Stmt} {f:Expr→Bool} (h:F_ x f=true):∃v p,x=.Expr v p∧f v=true:=by
 cases x with|Expr v p=>exact ⟨v,p,rfl,h⟩|_=>exact Bool.noConfusion h
noncomputable def yG (x:Stmt) (f:Option Expr→Bool):Bool:=match x with | .Return v _=>f v|_=>false
theorem oX {x:Stmt} {f:Option Expr→Bool} (h:yG x f=true):∃v p,x=.Return v p∧f v=true:=by
 cases x with|Return v p=>exact ⟨v,p,rfl,h⟩|_=>exact Bool.noConfusion h
noncomputable def Go (x:Stmt) (f:Expr→List Stmt→List Stmt→Bool):Bool:=match x with | .If v a b _=>f v a b|_=>false
theorem zW {x:Stmt} {f:Expr→List Stmt→List Stmt→Bool} (h:Go x f=true):∃v a b p,x=.If v a b p∧f v a b=true:=by
 cases x with|If v a b p=>exact ⟨v,a,b,p,rfl,h⟩|_=>exact Bool.noConfusion h
noncomputable def vX (x:Stmt) (f:Expr→List Stmt→Bool):Bool:=match x with | .While v a [] _=>f v a|_=>false
theorem su {x:Stmt} {f:Expr→List Stmt→Bool} (h:vX x f=true):∃v a p,x=.While v a [] p∧f v a=true:=by
 cases x with
 | While v a b p=>cases b with|nil=>exact ⟨v,a,p,rfl,h⟩|cons _ _=>exact Bool.noConfusion h
 | _=>exact Bool.noConfusion h
noncomputable def xU (x:Stmt) (f:Expr→Expr→List Stmt→Bool):Bool:=match x with | .For t v a [] _=>f t v a|_=>false
theorem pj {x:Stmt} {f:Expr→Expr→List Stmt→Bool} (h:xU x f=true):∃t v a p,x=.For t v a [] p∧f t v a=true:=by
 cases x with
 | For t v a b p=>cases b with|nil=>exact ⟨t,v,a,p,rfl,h⟩|cons _ _=>exact Bool.noConfusion h
 | _=>exact Bool.noConfusion h
noncomputable def zJ (x:Stmt):Bool:=match x with | .Pass _=>true|_=>false
theorem vA {x:Stmt} (h:zJ x=true):∃p,x=.Pass p:=by
 cases x with|Pass p=>exact ⟨p,rfl⟩|_=>exact Bool.noConfusion h
noncomputable def CV (x:Stmt):Bool:=match x with | .Break _=>true|_=>false
theorem wO {x:Stmt} (h:CV x=true):∃p,x=.Break p:=by
 cases x with|Break p=>exact ⟨p,rfl⟩|_=>exact Bool.noConfusion h
noncomputable def yJ (x:Stmt):Bool:=match x with | .Continue _=>true|_=>false
theorem vn {x:Stmt} (h:yJ x=true):∃p,x=.Continue p:=by
 cases x with|Continue p=>exact ⟨p,rfl⟩|_=>exact Bool.noConfusion h
noncomputable def EY:Tg→Bool
 | .name _=>true
 | _=>false
noncomputable def Gs:E→Bool
 | .comp ..=>true
 | _=>false
noncomputable def Fh (c:Cfg) (t:Tg) (e:E) (tg x:Expr):Bool :=
 EY t && Gs e && ax tg fun y py=>Bb x fun _ _ sc pos=>c.names.lookup y == some .cell || (c.names.lookup y == some .local && py.line == pos.line && !pW y sc)
noncomputable def Fn:E→Bool
 | .compD ..=>true
 | _=>false
noncomputable def zu (c:Cfg) (t:Tg) (e:E) (tg x:Expr):Bool :=
 EY t && Fn e && ax tg fun y py=>DK x fun _ _ _ sc pos=>c.names.lookup y == some .local && py.line == pos.line && !pW y sc
theorem Cv {e:E} (h:Fn e=true):∃kx vx tg wk d ifs nt caps,e=.compD kx vx tg wk d ifs nt caps:=by
 cases e with|compD kx vx tg wk d ifs nt caps=>exact ⟨kx,vx,tg,wk,d,ifs,nt,caps,rfl⟩|_=>exact Bool.noConfusion h
noncomputable def FE (c:Cfg) (t:Expr):Bool:=ax t fun y _=>c.names.lookup y == some .cell
noncomputable def Hg (c:Cfg) (tg x:Expr):Bool:=fi tg fun ts=>(Bb x fun _ _ _ _=>true) || fi x fun _=>ts.any (FE c)
mutual
noncomputable def Gk (c:Cfg):S→Stmt→Bool
 | .set t e,s=>Av s fun tg x=>(iw c t tg && ar c e x) && ((mn x && (mZ tg || ye tg x)) || (Fh c t e tg x || (Hg c tg x || zu c t e tg x)))
 | .par i j a b,s=>Av s fun tg vx=>fi tg fun ts=>on2 ts fun ta tb=>ax ta fun x px=>ax tb fun y py=>fi vx fun us=>on2 us fun u v=>c.N[i]? == some x && c.N[j]? == some y && !(i == j) && !(x == y) && c.names.lookup x == some .local && c.names.lookup y == some .local
    && px.line == py.line && ai u && ai v && !(foldedForSure 8 u && foldedForSure 8 v) && !(constantsAlone 8 u && constantsAlone 8 v) && ar c a u && ar c b v
 | .aug i op e,s=>FM s fun t o x=>ax t fun y _=>c.N[i]? == some y && c.loc y && o == op && ar c e x
 | .expr e,s=>F_ s fun x=>mn x && ar c e x
 | .ret e,s=>yG s fun o=>iD o fun x=>ar c e x
 | .retN,s=>yG s fun o=>o.isNone
 | .ifS t a b,s=>Go s fun x ys zs=>xM c t x && aB c a ys && aB c b zs
 | .whileS t b,s=>vX s fun x ys=>xM c t x && aB c b ys
 | .forS t it b,s=>xU s fun tg x ys=>zv it tg && fe x && iw c t tg && xV c it x && aB c b ys
 | .forK t wk e b,s=>xU s fun tg x ys=>BA wk tg && fe x && iw c t tg && rM wk x (fun y=>ar c e y) && aB c b ys
 | .pass,s=>zJ s
 | .brk,s=>CV s
 | .cont,s=>yJ s
 | .bad,_=>true
 | .set2 i j e,s=>uE s fun ts v=>on2 ts fun ta tb=>ax ta fun x _=>ax tb fun y _=>c.N[i]? == some x && c.N[j]? == some y && !(i == j) && c.loc x && c.loc y && mn v && ar c e v
termination_by structural s=>s
noncomputable def aB (c:Cfg):Ss→List Stmt→Bool
 | .nil,xs=>xs.isEmpty
 | .cons s ss,xs=>nA xs fun y ys=>Gk c s y && aB c ss ys
termination_by structural s=>s
end
theorem v5 {t:Tg} (h:EY t=true):∃i,t=.name i:=by
 cases t with|name i=>exact ⟨i,rfl⟩|_=>exact Bool.noConfusion h
theorem CM {e:E} (h:Gs e=true):∃elt tg it ifs nt caps,e=.comp elt tg it ifs nt caps:=by
 cases e with|comp elt tg it ifs nt caps=>exact ⟨elt,tg,it,ifs,nt,caps,rfl⟩|_=>exact Bool.noConfusion h
theorem gQ {x:Expr} {t:Option Expr} {l:Nat} {env:Env} (h:mn x=true):swapsWith x t l env=pure false:=by
 cases x <;> first|rfl|cases h
theorem gq {x t:Expr} {l:Nat} {env:Env} (h:mn x=true):swapsWithSole [t] x l env=pure false:=by
 unfold swapsWithSole
 exact gQ h
theorem lh:∀(ts:List Expr) (f:Expr→Option Str),(ts.any fun t=>!mZ t)=true→(∀t,mZ t=false→f t=none)→(ts.filterMap f).length<ts.length
 | [],f,h,_=>by cases h
 | t::ts,f,h,hf=>by
  rw [List.any_cons,Bool.or_eq_true] at h
  have hl:(ts.filterMap f).length≤ts.length:=List.length_filterMap_le _ _
  rcases h with h|h
  ·rw [List.filterMap_cons,hf t (by simpa using h)]
   simp only [List.length_cons]
   omega
  ·have:=lh ts f h hf
   rw [List.filterMap_cons]
   cases f t <;> simp only [List.length_cons] <;> omega
theorem ja:∀(ts:List Expr) (P:Expr→Bool) (f:Expr→Option Str),ts.any P=true→(∀t,P t=true→f t=none)→(ts.filterMap f).length<ts.length
 | [],P,f,h,_=>by cases h
 | t::ts,P,f,h,hf=>by
  rw [List.any_cons,Bool.or_eq_true] at h
  have hl:(ts.filterMap f).length≤ts.length:=List.length_filterMap_le _ _
  rcases h with h|h
  ·rw [List.filterMap_cons,hf t h]
   simp only [List.length_cons]
   omega
  ·have:=ja ts P f h hf
   rw [List.filterMap_cons]
   cases f t <;> simp only [List.length_cons] <;> omega
theorem yf {ts vs:List Expr} {k k2:Nat} {p p2:Pos} {env:Env} {P:Expr→Bool} (hs:ts.any P=true) (hP:∀t,P t=true→∃y q,t=.Name y q∧(env.kindOf y == some .local)=false):swappedStores [.Tuple ts k p] (.Tuple vs k2 p2) env=pure none:=by
 unfold swappedStores
 dsimp only
 split
 ·rfl
 ·split
  ·rfl
  ·have hlt:=ja ts P (fun x=>match x with
    | .Name id pos=>if (env.kindOf id == some .local && pos.line == (Option.map (fun x=>x.pos.line) ts.head?).getD 0)=true then some id else none
    | _=>none) hs (fun t ht=>by
     obtain ⟨y,q,rfl,hk⟩:=hP t ht
     show (if (env.kindOf y == some .local && _)=true then some y else none)=none
     rw [hk,Bool.false_and,if_neg Bool.false_ne_true])
   rw [if_pos]
   rw [Bool.or_eq_true]
   left
   rw [bne_iff_ne]
   exact Nat.ne_of_lt hlt
theorem jX {tg x:Expr} {env:Env} (h:ye tg x=true):swappedStores [tg] x env=pure none:=by
 cases tg with
 | Tuple ts k p =>
  cases x with
  | Tuple vs k2 p2 =>
   have hs:((ts.any fun t=>!mZ t) || vs.all (foldedForSure 8))=true:=h
   rw [Bool.or_eq_true] at hs
   unfold swappedStores
   dsimp only
   split
   ·rfl
   ·split
    ·rfl
    rcases hs with hs|hs
    rotate_left
    ·split
     ·rfl
     ·first|rfl|rw [if_pos hs]
    ·have hlt:=lh ts (fun x=>match x with
      | .Name id pos=>if (env.kindOf id == some .local && pos.line == (Option.map (fun x=>x.pos.line) ts.head?).getD 0)=true then some id else none
      | _=>none) hs (fun t ht=>by cases t <;> first|rfl|cases ht)
     rw [if_pos]
     rw [Bool.or_eq_true]
     left
     rw [bne_iff_ne]
     exact Nat.ne_of_lt hlt
  | _=>rfl
 | Subscript a b p=>cases x <;> rfl
 | _=>cases h
noncomputable def uP:Expr→Bool
 | .Starred ..=>true
 | _=>false
theorem o7 {u:Expr} (h:ai u=true):uP u=false:=by
 cases u <;> first|rfl|cases h
theorem tP {u v:Expr} (h1:ai u=true) (h2:ai v=true):([u,v].any fun | .Starred ..=>true|_=>false)=false:=by
 show (uP u || (uP v || false))=false
 rw [o7 h1,o7 h2]
 rfl
theorem y9 {env:Env} {x y:Str} {px py pt:Pos} {kt k2:Nat} {pt2:Pos} {u v:Expr} (hb:env.blockKind=.function) (hx:env.kindOf x=some .local) (hy:env.kindOf y=some .local) (hxy:x≠y) (hl:px.line=py.line)
  (h1:ai u=true) (h2:ai v=true) (h3:(foldedForSure 8 u && foldedForSure 8 v)=false) (h4:(constantsAlone 8 u && constantsAlone 8 v)=false) :
  swappedStores [.Tuple [.Name x px,.Name y py] kt pt] (.Tuple [u,v] k2 pt2) env=pure (some [x,y]):=by
 unfold swappedStores
 dsimp only
 have e0:(Option.map (fun x=>x.pos.line) [Expr.Name x px,Expr.Name y py].head?).getD 0=px.line:=rfl
 have e1:([u,v].any fun | .Starred ..=>true|_=>false)=false:=tP h1 h2
 have e2:[u,v].all (foldedForSure 8)=false:=by simpa using h3
 have e3:[u,v].all (constantsAlone 8)=false:=by simpa using h4
 have e4:[x,y].eraseDups.length=2:=by
  have:(y == x)=false:=by simpa using fun z=>hxy z.symm
  simp [List.eraseDups_cons,this]
 rw [if_neg (by simp [hb]),if_neg ?h1]
 case h1=>exact fun z=>Bool.false_ne_true (e1.symm.trans z)
 have e5:(List.filterMap (fun t=>match t with
   | .Name id pos=>if (env.kindOf id == some .local && pos.line == (Option.map (fun x=>x.pos.line) [Expr.Name x px,Expr.Name y py].head?).getD 0)=true then some id else none
   | _=>none) [Expr.Name x px,Expr.Name y py])=[x,y]:=by
  rw [e0]
  simp [List.filterMap_cons,hx,hy,hl]
 generalize hn:List.filterMap _ [Expr.Name x px,Expr.Name y py]=ns
 have hns:ns=[x,y]:=hn.symm.trans e5
 subst hns
 rw [if_neg,if_neg,if_neg]
 ·rw [e3];decide
 ·rw [e2];decide
 ·rw [e4]
  simp
section
variable {X:Cx} {c:Cfg} {Γ:Nat→FSp}
theorem zV {X:Cx} {c:Cfg} {Γ:Nat→FSp} (C:COk X c Γ) {t:Tg} {e:E} {tg x:Expr} {pos:Pos} (h2:iw c t tg=true) (h3:ar c e x=true) (h:Fh c t e tg x=true):PS X (.Assign [tg] x pos) (TSx X.K (wpS Γ (.set t e))):=by
 have hE:=aE e C _ h3
 unfold Fh at h
 rw [Bool.and_eq_true,Bool.and_eq_true] at h
 obtain ⟨⟨ht,he⟩,h⟩:=h
 replace h:=aj h
 obtain ⟨y,py,rfl,h⟩:=h
 replace h:=gy h
 obtain ⟨ex,gens,sc,cpos,rfl,h⟩:=h
 obtain ⟨i,rfl⟩:=v5 ht
 obtain ⟨elt,tg,it,ifs,nt,caps,rfl⟩:=CM he
 ·have h2:(c.N[i]? == some y && c.loc y)=true:=h2
  simp only [Bool.and_eq_true,beq_iff_eq] at h2
  obtain ⟨g1,g2⟩:=C.locx h2.2
  rintro pins s σ H D I ⟨m,ρ,st,rf,rh,w⟩
  simp only [Bool.or_eq_true,Bool.and_eq_true,beq_iff_eq,Bool.not_eq_true'] at h
  rcases h with h|⟨⟨hl,hp⟩,hn⟩
  ·have hk:=C.cel y (.inl h)
   have hs:swapsWith (.ListComp ex gens sc cpos) (some (.Name y py)) pos.line X.env=pure false:=by
    unfold swapsWith
    have:(X.env.kindOf y == some NameKind.local)=false:=by rcases hk with hk|hk <;> rw [hk] <;> rfl
    simp only [this,Bool.and_false,Bool.false_and]
   rw [tB] at w
   refine zI C.ndX (by rw [C.N];exact h2.1) g1 hE hs g2 pins s σ H D I ⟨m,ρ,st,rf,rh,aa C.mono _ (fun v st1 k m1 H1 x1 e1 r1 r2=>?_) w⟩
   try simp only [e_,iS,iH] at k
   exact k m1 H1 _ e1 r1 ((rf.mono e1).set i r2)
  ·have hll:=C.lcl _ hl
   have hs:swapsWith (.ListComp ex gens sc cpos) (some (.Name y py)) pos.line X.env=pure true:=by
    unfold swapsWith
    have q1:(X.env.kindOf y == some NameKind.local)=true:=by unfold Env.kindOf;rw [hll];rfl
    have q2:(X.env.blockKind == ScopeKind.function)=true:=by rw [C.bk];rfl
    have q3:(py.line == cpos.line)=true:=by rw [hp];simp
    unfold pW at hn
    show pure (_ && _ && _ && !_)=_
    rw [q1,q2]
    show pure (true && true && (py.line == cpos.line) && !_)=_
    rw [q3,hn]
    rfl
   replace h3:=gy h3
   obtain ⟨ex',gs',sc',pos',heq,h3⟩:=h3
   cases heq
   replace h3:=cL h3
   obtain ⟨g,rfl,h3⟩:=h3
   obtain ⟨tx,ix,fx,ia⟩:=g
   ·simp only [Bool.and_eq_true,beq_iff_eq] at h3
    obtain ⟨⟨⟨⟨⟨⟨⟨⟨h1,h0⟩,k2'⟩,h3⟩,h4⟩,h5⟩,h6⟩,h7⟩,h8⟩:=h3
    subst h1
    obtain ⟨S,k1,k2,k3,k4⟩:=fF C h4
    have hC:∀s2 H2 fp A,COk (cxC X (nt++caps.filterMap (X.N[·]?)) s2 H2 fp sc A) (c.inner nt caps sc) Γ:=fun s2 H2 fp A=>mB C h4
    skip
    rw [exec_Assign_Name_used _ _ _ _ hs]
    refine wpAny_bind (wpAny_standAt ?_)
    refine wpAny_bind ?_
    unfold evalThenUse
    refine wpAny_bind ?_
    refine jV (elt:=elt) (tg:=tg) (ifs:=ifs) (nt:=nt) (caps:=caps) (use:=some (assign (.Name y py) X.env)) (Fin:=fun A H'=>D.nx (σ.set i (some (.ref A))) H') (wi:=TIx X.K (i8 Γ it)) C.mono C.calm S rfl k1 k2 k3 k2' h3 (AG it C _ h0 h5) (fun s2 H2 fp A=>iu tg (hC s2 H2 fp A) _ h6) (fun s2 H2 fp A=>kj ifs (hC s2 H2 fp A) _ h7) (fun s2 H2 fp A=>aE elt (hC s2 H2 fp A) _ h8) I ?_ ?_
    ·refine ⟨m,ρ,st,rf,rh,fJ C.mono it (fun xs chk st1 z m1 H1 J e1 r1 W=>⟨m1,ρ,st1,xs,chk,rf.mono e1,r1,W,z.1,?_⟩) w⟩
     refine b_ (body:=ei Γ elt tg ifs (nt.map (fun _=>none)++caps.map fun i=>(ρ[i]?).join)) (fun _ _ _ _ hk q=>iN C.mono hk q) (fun vs st2 k m2 H2 A ys e2 r2 Dm hD0 hD ry=>?_) z.2
     have hD1:H A=none:=by
      cases q:H A with
      | none=>rfl
      | some o =>
       by_cases hm:A∈m
       ·exact absurd ((e1.trans e2).pre.subset hm) Dm
       ·exact absurd hD0 (e1.ne hm q)
     try simp only [e_,iS,iH] at k
     exact k _ _ _ ((e1.trans e2).addD hD1) (r2.addD Dm hD ry) ((rf.mono ((e1.trans e2).addD hD1)).set i (R.last r2.len))
    ·intro C' A H' s' m' I' ns fp F
     refine wpAny_assign_Name (kK I' C.ndX (by rw [C.N];exact h2.1) g1 (v:=.ref A) rfl (fun s2 I2 hh=>?_) g2)
     obtain ⟨a,hs2,ha⟩:=hh
     have hne:C'≠a:=by
      rcases ha with rfl|ha
      ·exact fp.2.1
      ·exact fun q=>fp.2.2.2.2.1 _ _ ha q.symm
     refine ⟨m',?_,fun h' hs'=>?_⟩
     ·obtain ⟨o,es,ep,q1,q2⟩:=ns
      exact ⟨o,es,ep,(hs2.2 C' hne).trans q1,q2⟩
     ·refine wpAny_pure (wpAny_pure ?_)
      exact ⟨_,H',I2.turned (t':=s2.toks) (fun b o hb e=>hs'.extBut b o hb e) fp.1 fp.2.1 fp.2.2.2.1 fp.2.2.2.2.1 fp.2.2.2.2.2,F⟩
theorem zT {X:Cx} {c:Cfg} {Γ:Nat→FSp} (C:COk X c Γ) {t:Tg} {e:E} {tg x:Expr} {pos:Pos} (h2:iw c t tg=true) (h3:ar c e x=true) (h:zu c t e tg x=true):PS X (.Assign [tg] x pos) (TSx X.K (wpS Γ (.set t e))):=by
 unfold zu at h
 rw [Bool.and_eq_true,Bool.and_eq_true] at h
 obtain ⟨⟨ht,he⟩,h⟩:=h
 replace h:=aj h
 obtain ⟨y,py,rfl,h⟩:=h
 replace h:=nI h
 obtain ⟨ek,ev,gens,sc,cpos,rfl,h⟩:=h
 obtain ⟨i,rfl⟩:=v5 ht
 obtain ⟨kx,vx,tg,wk,d,ifs,nt,caps,rfl⟩:=Cv he
 have h2:(c.N[i]? == some y && c.loc y)=true:=h2
 simp only [Bool.and_eq_true,beq_iff_eq] at h2
 obtain ⟨g1,g2⟩:=C.locx h2.2
 rintro pins s σ H D I ⟨m,ρ,st,rf,rh,w⟩
 simp only [Bool.and_eq_true,beq_iff_eq,Bool.not_eq_true'] at h
 obtain ⟨⟨hl,hp⟩,hn⟩:=h
 have hll:=C.lcl _ hl
 have hs:swapsWith (.DictComp ek ev gens sc cpos) (some (.Name y py)) pos.line X.env=pure true:=by
  unfold swapsWith
  have q1:(X.env.kindOf y == some NameKind.local)=true:=by unfold Env.kindOf;rw [hll];rfl
  have q2:(X.env.blockKind == ScopeKind.function)=true:=by rw [C.bk];rfl
  have q3:(py.line == cpos.line)=true:=by rw [hp];simp
  unfold pW at hn
  show pure (_ && _ && _ && !_)=_
  rw [q1,q2]
  show pure (true && true && (py.line == cpos.line) && !_)=_
  rw [q3,hn]
  rfl
 replace h3:=nI h3
 obtain ⟨ek',ev',gs',sc',pos',heq,h3⟩:=h3
 cases heq
 replace h3:=cL h3
 obtain ⟨g,rfl,h3⟩:=h3
 obtain ⟨tx,ix,fx,ia⟩:=g
 simp only [Bool.and_eq_true,beq_iff_eq] at h3
 obtain ⟨⟨⟨⟨⟨⟨⟨⟨⟨h1,h0⟩,k2'⟩,h3⟩,h4⟩,h5⟩,h6⟩,h7⟩,h8⟩,h9⟩:=h3
 subst h1
 obtain ⟨S,k1,k2,k3,k4⟩:=fF C h4
 have hC:∀s2 H2 fp A,COk (cxC X (nt++caps.filterMap (X.N[·]?)) s2 H2 fp sc A) (c.inner nt caps sc) Γ:=fun s2 H2 fp A=>mB C h4
 rw [tB] at w
 rw [exec_Assign_Name_used _ _ _ _ hs]
 refine wpAny_bind (wpAny_standAt ?_)
 refine wpAny_bind ?_
 unfold evalThenUse
 refine wpAny_bind ?_
 refine oP (kx:=kx) (vx:=vx) (tg:=tg) (ifs:=ifs) (nt:=nt) (caps:=caps) (use:=some (assign (.Name y py) X.env)) (Fin:=yY X fun A H'=>D.nx (σ.set i (some (.ref A))) H') (wi:=wiF X Γ wk d) C.mono C.calm S rfl k1 k2 k3 k2' h3 (BF C h0 h5 fun y hy=>aE d C y hy) (fun s2 H2 fp A=>iu tg (hC s2 H2 fp A) _ h6) (fun s2 H2 fp A=>kj ifs (hC s2 H2 fp A) _ h7) (fun s2 H2 fp A=>aE kx (hC s2 H2 fp A) _ h8) (fun s2 H2 fp A=>aE vx (hC s2 H2 fp A) _ h9) I (si C rf rh w fun n st2 m' H' A e1 r1 r2 q=>?_) ?_
 ·try simp only [e_,iS,iH] at q
  exact q _ _ _ e1 r1 ((rf.mono e1).set i (R_ref.mpr ⟨A,r2,rfl⟩))
 ·rintro C' A H' s' m' I' ns fp ⟨a,o,ys,hF,hz,F⟩
  refine wpAny_assign_Name (kK I' C.ndX (by rw [C.N];exact h2.1) g1 (v:=.ref A) rfl (fun s2 I2 hh=>?_) g2)
  obtain ⟨b,hs2,hb⟩:=hh
  have hne:C'≠b:=by
   rcases hb with rfl|hb
   ·exact fp.2.1
   ·exact fun q=>fp.2.2.2.2.1 _ _ hb q.symm
  refine ⟨m',?_,fun h' hs'=>?_⟩
  ·obtain ⟨o,es,ep,q1,q2⟩:=ns
   exact ⟨o,es,ep,(hs2.2 C' hne).trans q1,q2⟩
  ·refine wpAny_pure (wpAny_pure ?_)
   exact ⟨_,_,gz (I2.turned (t':=s2.toks) (fun b o hb e=>hs'.extBut b o hb e) fp.1 fp.2.1 fp.2.2.2.1 fp.2.2.2.2.1 fp.2.2.2.2.2) hF hz,F⟩
mutual
theorem Hh (C:COk X c Γ):∀(e:S) (x:Stmt),Gk c e x=true→PS X x (TSx X.K (wpS Γ e))
 | .set t e,x,h=>by
  replace h:=oY h
  obtain ⟨tg,x,pos,rfl,h⟩:=h
  ·simp only [Bool.and_eq_true,Bool.or_eq_true] at h
   obtain ⟨⟨h2,h3⟩,h14⟩:=h
   rcases h14 with ⟨h1,h4⟩|h14|h14|h14
   rotate_left
   ·exact zV C h2 h3 h14
   rotate_left
   ·exact zT C h2 h3 h14
   rotate_right
   ·have hE:=aE e C _ h3
    have hG:=iu t C _ h2
    rintro pins s σ H D I ⟨m,ρ,st,rf,rh,w⟩
    skip
    have rd:Cw (TEx X.K (wpE Γ e)) (TGx X.K (bF Γ t)) D σ H:=⟨m,ρ,st,rf,rh,aa C.mono e (fun v st1 k m1 H1 x1 e1 r1 r2=>⟨m1,ρ,st1,v,rf.mono e1,r1,r2,aw C.mono t (fun _ _ q=>q.ext e1) k⟩) w⟩
    obtain ⟨ts,k,p,rfl,h14⟩:=bB h14
    rcases Bool.or_eq_true_iff.mp h14 with h14|h14
    ·obtain ⟨a,b,d,f,rfl,_⟩:=gy h14
     exact mX hE hG rfl rfl rfl pins s σ H D I rd
    ·obtain ⟨us,k2,p2,rfl,h14⟩:=bB h14
     refine mX hE hG rfl (yf (P:=FE c) h14 fun t ht=>?_) rfl pins s σ H D I rd
     obtain ⟨y,q,rfl,hy⟩:=aj (show ax t _=true from ht)
     refine ⟨y,q,rfl,?_⟩
     rcases C.cel y (.inl (by simpa using hy)) with hk|hk <;> rw [hk] <;> rfl
   ·have hE:=aE e C _ h3
    have hG:=iu t C _ h2
    rintro pins s σ H D I ⟨m,ρ,st,rf,rh,w⟩
    skip
    have rd:Cw (TEx X.K (wpE Γ e)) (TGx X.K (bF Γ t)) D σ H:=⟨m,ρ,st,rf,rh,aa C.mono e (fun v st1 k m1 H1 x1 e1 r1 r2=>⟨m1,ρ,st1,v,rf.mono e1,r1,r2,aw C.mono t (fun _ _ q=>q.ext e1) k⟩) w⟩
    cases t with
    | name i =>
     obtain ⟨y,p,rfl,h2⟩:=aj h2
     have h2:=Bool.and_eq_true_iff.mp h2
     obtain ⟨g1,g2⟩:=C.locx h2.2
     refine zI C.ndX (by rw [C.N];exact beq_iff_eq.mp h2.1) g1 hE (gQ h1) g2 pins s σ H D I ⟨m,ρ,st,rf,rh,aa C.mono e (fun v st1 k m1 H1 x1 e1 r1 r2=>?_) w⟩
     try simp only [e_,iS,iH] at k
     exact k m1 H1 _ e1 r1 ((rf.mono e1).set i r2)
    | tup ts =>
     obtain ⟨xs,k,p,rfl,_⟩:=bB h2
     exact mX hE hG (gq h1) (jX (by rcases h4 with h4|h4;cases h4;exact h4)) rfl pins s σ H D I rd
    | ltup ts =>
     obtain ⟨xs,k,p,rfl,_⟩:=bB h2
     exact mX hE hG (gq h1) (jX (by rcases h4 with h4|h4;cases h4;exact h4)) rfl pins s σ H D I rd
    | sub o i =>
     obtain ⟨l,r,p,rfl,_⟩:=fO h2
     exact mX hE hG (gq h1) (jX (by rcases h4 with h4|h4;cases h4;exact h4)) rfl pins s σ H D I rd
 | .par i j a b,x,h=>by
  replace h:=oY h
  obtain ⟨tg,vx,pos,rfl,h⟩:=h
  replace h:=bB h
  obtain ⟨ts,k,p1,rfl,h⟩:=h
  replace h:=gZ h
  obtain ⟨ta,tb,rfl,h⟩:=h
  replace h:=aj h
  obtain ⟨x,px,rfl,h⟩:=h
  replace h:=aj h
  obtain ⟨y,py,rfl,h⟩:=h
  replace h:=bB h
  obtain ⟨us,k2,p2,rfl,h⟩:=h
  replace h:=gZ h
  obtain ⟨u,v,rfl,h⟩:=h
  ·simp only [Bool.and_eq_true,beq_iff_eq,Bool.not_eq_true',beq_eq_false_iff_ne] at h
   obtain ⟨⟨⟨⟨⟨⟨⟨⟨⟨⟨⟨⟨h1,h2⟩,h3⟩,h4⟩,h5⟩,h6⟩,h7⟩,h8⟩,h9⟩,h10⟩,h11⟩,h12⟩,h13⟩:=h
   have hx:=C.lcl _ h5
   have hy:=C.lcl _ h6
   rintro pins s σ H D I ⟨m,ρ,st,rf,rh,w⟩
   skip
   refine Ec C.calm C.ndX (by rw [C.N];exact h1) (by rw [C.N];exact h2) h3 hx hy (pac (aE a C _ h12) (pac (aE b C _ h13) jI h9) h8)
    (y9 C.bk hx hy h4 h7 h8 h9 h10 h11) rfl pins s σ H D I ⟨m,ρ,st,rf,rh,aa C.mono a (fun v st1 k m1 H1 x1 e1 r1 r2=>⟨m1,ρ,st1,rf.mono e1,r1,
    aa C.mono b (fun u st2 k2 m2 H2 y2 e2 r3 r4=>⟨x1,y2,rfl,?_⟩) k⟩) w⟩
   exact k2 m2 H2 _ (e1.trans e2) r3 ((((rf.mono e1).mono e2).set i (r2.mono e2)).set j r4)
 | .aug i op e,x,h=>by rintro pins s σ H D I ⟨m,ρ,st,rf,rh,w⟩;exact False.elim w
 | .expr e,x,h=>by
  replace h:=xQ h
  obtain ⟨x,p,rfl,h⟩:=h
  ·simp only [Bool.and_eq_true] at h
   rintro pins s σ H D I ⟨m,ρ,st,rf,rh,w⟩
   skip
   exact Cq (aE e C _ h.2) (gQ h.1) pins s σ H D I ⟨m,ρ,st,rf,rh,aa C.mono e (fun u st1 k m1 H1 x1 e1 r1 r2=>k m1 H1 σ e1 r1 (rf.mono e1)) w⟩
 | .ret e,x,h=>by
  replace h:=oX h
  obtain ⟨o,p,rfl,h⟩:=h
  replace h:=fX h
  obtain ⟨x,rfl,h⟩:=h
  ·rintro pins s σ H D I ⟨m,ρ,st,rf,rh,w⟩
   skip
   exact EZ (aE e C _ h) pins s σ H D I ⟨m,ρ,st,rf,rh,w⟩
 | .retN,x,h=>by
  replace h:=oX h
  obtain ⟨o,p,rfl,h⟩:=h
  replace h:=xG h
  obtain rfl:=h
  ·rintro pins s σ H D I ⟨m,ρ,st,rf,rh,w⟩
   skip
   exact BV pins s σ H D I (post.here w rh (R_non.mpr rfl))
 | .ifS t a b,x,h=>by
  replace h:=zW h
  obtain ⟨x,ys,zs,p,rfl,h⟩:=h
  ·simp only [Bool.and_eq_true] at h
   obtain ⟨⟨h1,h2⟩,h3⟩:=h
   rintro pins s σ H D I ⟨m,ρ,st,rf,rh,w⟩
   skip
   refine FK (oH t C _ h1) (lv C a _ h2) (lv C b _ h3) pins s σ H D I ⟨m,ρ,st,rf,rh,aJ C.mono t (fun k st1 z m1 H1 e1 r1=>?_) w⟩
   cases k with
   | true=>rw [if_pos rfl] at z ⊢;exact ⟨m1,ρ,st1,rf.mono e1,r1,aH C.mono a (AE.ext e1) z⟩
   | false=>rw [if_neg Bool.false_ne_true] at z ⊢;exact ⟨m1,ρ,st1,rf.mono e1,r1,aH C.mono b (AE.ext e1) z⟩
 | .whileS t b,x,h=>by
  replace h:=su h
  obtain ⟨x,ys,p,rfl,h⟩:=h
  ·simp only [Bool.and_eq_true] at h
   intro pins s σ H D I w
   exact Ao C.pass (oH t C _ h.1) (lv C b _ h.2) pins s σ H D I (w5 C.mono w)
 | .forS t it b,x,h=>by
  replace h:=pj h
  obtain ⟨tg,x,ys,p,rfl,h⟩:=h
  ·simp only [Bool.and_eq_true] at h
   obtain ⟨⟨⟨⟨h0,h1⟩,h2⟩,h3⟩,h4⟩:=h
   intro pins s σ H D I w
   exact AD C.pass C.calm (AG it C _ h0 h3) (iu t C _ h2) (lv C b _ h4) (jg h1) pins s σ H D I (CL C.mono w)
 | .forK t wk e b,x,h=>by
  replace h:=pj h
  obtain ⟨tg,x,ys,p,rfl,h⟩:=h
  simp only [Bool.and_eq_true] at h
  obtain ⟨⟨⟨⟨h0,h1⟩,h2⟩,h3⟩,h4⟩:=h
  intro pins s σ H D I w
  exact thn (AD C.pass C.calm (BF C h0 h3 fun y hy=>aE e C y hy) (iu t C _ h2) (lv C b _ h4) (jg h1) pins s σ H (EF X D) I (An C.mono w)) fun f s' hh=>BX hh
 | .bad,x,h=>by
  rintro pins s σ H D I ⟨m,ρ,st,rf,rh,w⟩
  exact False.elim w
 | .set2 i j e,x,h=>by
  replace h:=mz h
  obtain ⟨ts,v,pos,rfl,h⟩:=h
  replace h:=gZ h
  obtain ⟨ta,tb,rfl,h⟩:=h
  replace h:=aj h
  obtain ⟨x,px,rfl,h⟩:=h
  replace h:=aj h
  obtain ⟨y,py,rfl,h⟩:=h
  ·simp only [Bool.and_eq_true,beq_iff_eq,Bool.not_eq_true',beq_eq_false_iff_ne] at h
   obtain ⟨⟨⟨⟨⟨⟨h1,h2⟩,h3⟩,h4⟩,h5⟩,h6⟩,h7⟩:=h
   obtain ⟨a1,a2⟩:=C.locx h4
   obtain ⟨b1,b2⟩:=C.locx h5
   rintro pins s σ H D I ⟨m,ρ,st,rf,rh,w⟩
   skip
   refine wpAny_Assign_two (thn (aE e C _ h7 pins s σ H (fun y H1=>D.nx ((σ.set i (some y)).set j (some y)) H1) I ⟨m,ρ,st,rf,rh,aa C.mono e (fun v st1 k m1 H1 x1 e1 r1 r2=>k m1 H1 _ e1 r1 (((rf.mono e1).set i r2).set j r2)) w⟩) fun v s1 ⟨y,H1,I1,r1,q1⟩=>?_) rfl rfl
   refine PySem.wpAny_assign_Name ?_
   refine fP I1 C.ndX (by rw [C.N];exact h1) a1 r1 (fun s2 I2=>?_) a2
   refine PySem.wpAny_assign_Name ?_
   exact fP I2 C.ndX (by rw [C.N];exact h2) b1 r1 (fun s3 I3=>⟨_,H1,I3,q1⟩) b2
 | .pass,x,h=>by
  replace h:=vA h
  obtain ⟨p,rfl⟩:=h
  ·rintro pins s σ H D I ⟨m,ρ,st,rf,rh,w⟩
   skip
   exact B0 pins s σ H D I (postF.here w rh rf)
 | .brk,x,h=>by
  replace h:=wO h
  obtain ⟨p,rfl⟩:=h
  ·rintro pins s σ H D I ⟨m,ρ,st,rf,rh,w⟩
   skip
   exact AA pins s σ H D I (postF.here w rh rf)
 | .cont,x,h=>by
  replace h:=vn h
  obtain ⟨p,rfl⟩:=h
  ·rintro pins s σ H D I ⟨m,ρ,st,rf,rh,w⟩
   skip
   exact so pins s σ H D I (postF.here w rh rf)
theorem lv (C:COk X c Γ):∀(e:Ss) (x:List Stmt),aB c e x=true→PSs X x (TSx X.K (au Γ e))
 | .nil,x,h=>by
  have h:x.isEmpty=true:=h
  cases x with
  | nil =>
   rintro pins s σ H D I ⟨m,ρ,st,rf,rh,w⟩
   skip
   exact BB pins s σ H D I (postF.here w rh rf)
  | cons _ _=>cases h
 | .cons e es,x,h=>by
  replace h:=aF h
  obtain ⟨y,ys,rfl,h⟩:=h
  ·simp only [Bool.and_eq_true] at h
   rintro pins s σ H D I ⟨m,ρ,st,rf,rh,w⟩
   skip
   refine Ag (Hh C e _ h.1) (lv C es _ h.2) pins s σ H D I ⟨m,ρ,st,rf,rh,jc C.mono e ?_ w⟩
   exact ⟨fun ρ1 st1 k m1 H1 σ1 e1 r1 f1=>⟨m1,ρ1,st1,f1,r1,aH C.mono es (AE.ext e1) k⟩,fun _ _ q=>q,fun _ _ q=>q,fun _ _ q=>q⟩
end
structure GOk (P:Program) (w:World) (K:W.Frag) (mg:Str→Option Value) (base:Heap) (c:Cfg) (Γ:Nat→FSp):Prop where
 fn:∀f x,f<c.lim→c.fns[f]?=some x→∃ps,Has P w K mg base (f+1) x ps (av K (Γ f))
 blt:∀x∈c.blts,mg x=none
 gl:∀x v,c.gl.lookup x=some v→∃u y,mg x=some u∧RelV y u∧∀m H,R K m H v y
 mono:bb Γ
noncomputable def frame (n:Nat) (as:List PV):Fr:=as.map some++List.replicate (n-as.length) none
noncomputable def ae (st:AH) (Q:EK):aL:={ nx:=fun _ st'=>Ret st Q .non st',rt:=Ret st Q }
theorem jh {K:W.Frag} {m:List Addr} {H:Hp} {st st':AH} {Q:VK} {v:PV} (rh:RH K m H st) (q:Ret st (post K m H Q) v st'):post K m H Q v st':=by
 rcases q with q|q
 ·exact q
 ·intro m' H' x e r s
  obtain ⟨st1,q,e2,r3,r4⟩:=p7 rh e r s q
  exact q m H' x e2 r3 r4
theorem sH {K:W.Frag} {m:List Addr} {H:Hp} {N:List Str} {as:List PV} {vs:List V} (r:Rs K m H as vs):RF K m H (frame N.length as) (L2.start N vs):=by
 have hl:=r.len
 refine ⟨by simp [frame,L2.start,hl],fun i v e=>?_⟩
 unfold frame at e
 unfold L2.start
 by_cases hi:i<as.length
 ·rw [List.getElem?_append_left (by simpa using hi),List.getElem?_map] at e
  cases q:as[i]? with
  | none=>rw [q] at e;cases e
  | some a =>
   rw [q] at e
   cases e
   obtain ⟨y,e1,r1⟩:=r.get q
   exact ⟨y,by rw [List.getElem?_append_left (by simp;omega),List.getElem?_map,e1];rfl,r1⟩
 ·rw [List.getElem?_append_right (by simpa using hi),List.getElem?_replicate] at e
  split at e <;> cases e
theorem Bi {P:Program} {w:World} {K:W.Frag} {mg:Str→Option Value} {base:Heap} {x:Str} {st:Stmt} {N ps:List Str} (S:ah N ps (ab st)) {f:Addr} {cdv:Value} {A:Around} {outer:List Env} {s:Shared} {H:Hp} {E:XK}
  (hN:c.N=N) (hn:c.names=(ab st).names) (hr:Room c.lim (A.deeper (envOfC x (ab st) s.heap.objs.size f cdv))) (G:GOk P w K mg base c Γ)
  (lam:c.pc=true→∀ {pins:List (Addr × Obj)} {σ:L2.St} {H2:Hp} {s2:Shared} {b:Addr} {u:Value} {v:V} {Q:VK},L2.Inv (kE CX0 P w K mg base N x (ab st) f cdv A outer s H E).nox pins σ H2 s2→RelV v u→av K (Γ 1000) [.ref b,v] H2 Q E0 →
   W.FnAt b s2.heap∧wpAny (model P w) (kE CX0 P w K mg base N x (ab st) f cdv A outer s H E).nox.A (call (.ref b) [u]) (EP (kE CX0 P w K mg base N x (ab st) f cdv A outer s H E).nox pins σ Q) (kE CX0 P w K mg base N x (ab st) f cdv A outer s H E).nox.xe s2)
  (hmo:∀k,c.hm=some k→HmX (kE CX0 P w K mg base N x (ab st) f cdv A outer s H E).nox k) :
  COk (kE CX0 P w K mg base N x (ab st) f cdv A outer s H E).nox c Γ where
 calm:=rfl
 pass:=PassesOwn.never
 N:=hN.symm
 nd:=by rw [hN];exact S.nd
 vis:=fun y h=>by rw [hn] at h;exact h
 loc:=fun y h=>by rw [hn] at h;exact ⟨h,.inl rfl⟩
 lcl:=fun y h=>by rw [hn] at h;exact h
 glb:=fun y h=>by rw [hn] at h;exact h
 bk:=by
  show Env.blockKind (envOfC x (ab st) s.heap.objs.size f cdv)=_
  unfold Env.blockKind
  show (if (ab st).kind.isAnnotationScope=true then _ else (ab st).kind)=_
  rw [S.kind]
  rfl
 cel:=fun y h=>by rw [hn] at h;exact h
 room:=hr
 fn:=G.fn
 blt:=G.blt
 gl:=G.gl
 mono:=G.mono
 lam:=lam
 hmo:=hmo
theorem ay {P:Program} {w:World} {K:W.Frag} {mg:Str→Option Value} {base:Heap} {x:Str} {st:Stmt} {N ps:List Str} {sp:FSp} {code:Ss} (F:At K mg x st ps) (S:ah N ps (ab st)) (hN:c.N=N) (hn:c.names=(ab st).names)
  (hc:aB c code (af st)=true) (G:GOk P w K mg base c Γ) (len:∀as st Q,sp as st Q→as.length=ps.length)
  (h:∀as st Q,sp as st Q→au Γ code (frame N.length as) st (ae st Q)) (hpc:c.pc=false:=by rfl) (hhm:c.hm=none:=by rfl):Has P w K mg base (c.lim+1) x ps (av K sp):=by
 refine F.ok S (fun vs H Q E ⟨m,st,as,r1,r2,q⟩=>by rw [←r1.len];exact len as st _ q) fun f cdv A outer s H vs Q E hr ⟨m,st',as,r1,r2,q⟩=>?_
 have C:=Bi (E:=E) (H:=H) (outer:=outer) (Γ:=Γ) S hN hn hr G (fun z=>by rw [hpc] at z;cases z) fun k z=>by rw [hhm] at z;cases z
 refine ⟨_,lv C code _ hc,m,frame N.length as,st',sH r1,r2,aH G.mono code ?_ (h as st' _ q)⟩
 exact ⟨fun ρ st2 k m' H' σ' e r f=>jh r2 k m' H' .non e r (R_non.mpr rfl),fun v st2 k=>jh r2 k,fun _ _ k=>k.elim,fun _ _ k=>k.elim⟩
end
end FW
namespace FW
open L2 HX
section
variable {P:Program} {w:World} {K:W.Frag} {mg:Str→Option Value} {base:Heap} {c c':Cfg} {Γ:Nat→FSp}
theorem GOk.next (G:GOk P w K mg base c Γ) (h1:c'.fns=c.fns) (h2:c'.lim=c.lim+1) (h3:c'.blts=c.blts) (h4:c'.gl=c.gl) {x:Str} {ps:List Str} (hx:c.fns[c.lim]?=some x) (H:Has P w K mg base (c.lim+1) x ps (av K (Γ c.lim))):GOk P w K mg base c' Γ where
 fn:=fun f y hf e=>by
  rw [h1] at e
  rw [h2] at hf
  by_cases hl:f<c.lim
  ·exact G.fn f y hl e
  ·have:f=c.lim:=by omega
   subst this
   rw [hx] at e
   cases e
   exact ⟨ps,H⟩
 blt:=by rw [h3];exact G.blt
 gl:=by rw [h4];exact G.gl
 mono:=G.mono
theorem CD {x qual:Str} {st:Stmt} {f:Addr} {fd:FuncData} {N ps:List Str} {sp:FSp} {code:Ss} (F:Fun K x x st f fd) (S:ah N ps (ab st)) (hN:c.N=N) (hn:c.names=(ab st).names)
  (hc:aB c code (af st)=true) (G:GOk P w K mg base c Γ) (len:∀as st Q,sp as st Q→as.length=ps.length)
  (h:∀as st Q,sp as st Q→au Γ code (frame N.length as) st (ae st Q)) (hpc:c.pc=false:=by rfl) (hhm:c.hm=none:=by rfl):oa P w K mg base CX0 (c.lim+1) f fd ps (av K sp):=by
 refine F.ok S (fun vs H Q E ⟨m,st,as,r1,r2,q⟩=>by rw [←r1.len];exact len as st _ q) fun cdv A outer s H vs Q E hr ⟨m,st',as,r1,r2,q⟩=>?_
 have C:=Bi (E:=E) (H:=H) (outer:=outer) (Γ:=Γ) S hN hn hr G (fun z=>by rw [hpc] at z;cases z) fun k z=>by rw [hhm] at z;cases z
 refine ⟨_,lv C code _ hc,m,frame N.length as,st',sH r1,r2,aH G.mono code ?_ (h as st' _ q)⟩
 exact ⟨fun ρ st2 k m' H' σ' e r f=>jh r2 k m' H' .non e r (R_non.mpr rfl),fun v st2 k=>jh r2 k,fun _ _ k=>k.elim,fun _ _ k=>k.elim⟩
end
noncomputable def ir:FSp:=fun as st Q=>∃ns:List Int,as=[.rdl (ns.map PV.int)]∧ns.length≤63∧∀st',Q (.bl true) st'
theorem v_ {K:W.Frag} {m:List Addr} {H:Hp}:∀ {ns:List Int},Rs K m H (ns.map PV.int) (ns.map V.int)
 | []=>by rw [List.map_nil,List.map_nil,Rs_nil]
 | n::ns=>by rw [List.map_cons,List.map_cons,Rs_cons',R_int];exact ⟨rfl,v_⟩
structure DS (K:W.Frag) (h:Heap):Prop where
 at_:∀x∈ba,∀c T,W.tabIn K x=some (c,T)→W.CodeHd h c T∧h.get? T=some (W.tabObj #[])
structure Cf (K:W.Frag):Prop where
 at_:∀x∈ba,∀c T,W.tabIn K x=some (c,T)→K.lookup T=none∧∀y∈ba,∀d,W.tabIn K y=some (d,T)→y=x
structure l' (K:W.Frag) (mg:Str→Option Value) (base:Heap):Prop where
 hd:∀x∈ba,∀c T,W.tabIn K x=some (c,T)→W.CodeHd base c T
 bm:∃bm ob,mg "__builtins__"=some (.ref bm)∧bm≠builtinsNs∧base.get? bm=some ob∧ob.cls=.type "module"∧ob.dict=some builtinsNs∧ob.data=.plain
theorem yW {K:W.Frag} {H:Hp} {a:Addr} {ns:List Int} (hl:ns.length≤63) (hO:∀ys,H a≠some (.lst ys)) (hS:SqL K H a (ns.map V.int)) (tb:TB K H):av K ir [.ref a] H (fun v _=>v=.bl true) fun _ _ _=>False:=by
 have hF:RdF K H a (ns.map V.int):=by
  rcases hS with (h|h)|h
  ·exact absurd h (hO _)
  ·exact .inl h
  ·exact .inr h
 refine ⟨[],[],[.rdl (ns.map PV.int)],?_,⟨rfl,List.nodup_nil,fun n c a h=>by simp at h,tb⟩,ns,rfl,hl,fun st' m' H' x e r s=>R_bl.mp s⟩
 rw [Rs_cons',Rs_nil,ff]
 exact ⟨⟨a,_,rfl,hF,v_⟩,rfl⟩
noncomputable def oQ (K:W.Frag) (b:Addr):Prop:=∃x∈ba,∃c,W.tabIn K x=some (c,b)
open Classical in
noncomputable def e8 (K:W.Frag) (a:Addr) (scr:Option HO):Hp:=fun b=>if b=a then scr else if oQ K b then some (.tbl #[]) else none
theorem xb {P:Program} {w:World} {K:W.Frag} {mg mb:Str→Option Value} {k:Nat} {fa a:Addr} {fd:FuncData} {x:Str} {s₁:Shared} {vs:List Value} {ns:List Int}
  (KX:K.In s₁.heap) (hns:s₁.heap.Ns mainGlobals mg) (hb:s₁.heap.Ns builtinsNs mb) (hbb:∀x:Str,x≠"__name__"→mb x=bootBuiltins x) (hlim:s₁.heap.NoLimit) (hg:s₁.gens=#[])
  (LT:DS K s₁.heap) (LK:Cf K) (hbm:∃bm ob,mg "__builtins__"=some (.ref bm)∧bm≠builtinsNs∧s₁.heap.get? bm=some ob∧ob.cls=.type "module"∧ob.dict=some builtinsNs∧ob.data=.plain)
  (ha:s₁.heap.get? a=some { cls:=.type "list",data:=.seq vs.toArray }) (hi:IntsAre vs ns) (hl:ns.length≤63) (hr:Room k callerA)
  (F:∀base:Heap,K.In base→base.Ns mainGlobals mg→l' K mg base→oa P w K mg base CX0 k fa fd [x] (av K ir)) (hbind:∀(s:Shared) (u:Value),BindsTo s fd ⟨[u],[]⟩ [(x,u)]) :
  codeAny (model P w) callerA (.call (.ref fa) ⟨[.ref a],[]⟩) (fun r s'=>r=.ok (.ret (.bool true))∧OldK s₁.heap s'.heap∧s'.os=s₁.os∧AllBare s'.gens) s₁:=by
 have rv:=o6 hi
 have lenV:=hi.length
 have hl2:ns.length≤sizeLine:=Nat.le_trans hl (by decide)
 have tabAt:∀ {b:Addr},oQ K b→s₁.heap.get? b=some (W.tabObj #[]):=fun ⟨x,hx,c,e⟩=>(LT.at_ x hx c _ e).2
 have naT:¬oQ K a:=fun z=>by have e:=tabAt z;rw [ha] at e;cases e
 have core:∀scr:Option HO,(∀ys,scr≠some (.lst ys))→SqL K (e8 K a scr) a (ns.map V.int)→(∀u,scr=some u→(∃o xs,u=.frz o (.lst xs))∧ObjOk P w (e8 K a scr) s₁.heap a u)→(scr≠none→K.lookup a=none) →
   codeAny (model P w) callerA (.call (.ref fa) ⟨[.ref a],[]⟩) (fun r s'=>r=.ok (.ret (.bool true))∧OldK s₁.heap s'.heap∧s'.os=s₁.os∧AllBare s'.gens) s₁:=by
  intro scr hscr hS hso hK
  have atA:e8 K a scr a=scr:=if_pos rfl
  have atT:∀ {b:Addr},oQ K b→e8 K a scr b=some (.tbl #[]):=fun {b} z=>by
   have:b≠a:=fun q=>naT (q ▸ z)
   exact (if_neg this).trans (if_pos z)
  have cs:∀b,e8 K a scr b≠none→(b=a∧scr≠none)∨oQ K b:=fun b z=>by
   by_cases h1:b=a
   ·exact .inl ⟨h1,by rw [h1,atA] at z;exact z⟩
   ·by_cases h2:oQ K b
    ·exact .inr h2
    ·exact absurd ((if_neg h1).trans (if_neg h2)) z
  have hok:HOk P w (e8 K a scr) s₁.heap:=fun b u e=>by
   rcases cs b (by rw [e];simp) with ⟨rfl,z⟩|z
   ·rw [atA] at e
    exact (hso u e).2
   ·rw [atT z] at e
    cases e
    exact tabAt z
  have base_of:∀ {b:Addr} {o:Obj},s₁.heap.get? b=some o→e8 K a scr b=none→(oj s₁.heap (e8 K a scr)).get? b=some o:=fun e n=>yp e n
  have noD:∀ {b:Addr} {o:Obj},s₁.heap.get? b=some o→(∀its n,o.data≠.seq its n)→(∀qs,o.data≠.fields qs)→e8 K a scr b=none:=fun {b o} e n1 n2=>by
   cases q:e8 K a scr b with
   | none=>rfl
   | some u =>
    rcases cs b (by rw [q];simp) with ⟨rfl,_⟩|z
    ·rw [ha] at e;cases e;exact absurd rfl (n1 _ _)
    ·rw [tabAt z] at e;cases e;exact absurd rfl (n2 _)
  have nsK:∀ {b:Addr} {m:Str→Option Value},s₁.heap.Ns b m→(oj s₁.heap (e8 K a scr)).Ns b m:=fun {b m} ⟨o,es,ep,e,d,r⟩=>⟨o,es,ep,base_of e (noD e (fun _ _ z=>by rw [d] at z;cases z) fun _ z=>by rw [d] at z;cases z),d,r⟩
  have hKn:∀ {b:Addr} {o:Obj},K.lookup b=some o→e8 K a scr b=none:=fun {b o} e=>by
   cases q:e8 K a scr b with
   | none=>rfl
   | some u =>
    rcases cs b (by rw [q];simp) with ⟨rfl,z⟩|⟨x,hx,c,z⟩
    ·rw [hK z] at e;cases e
    ·rw [(LK.at_ x hx c _ z).1] at e;cases e
  have hKb:K.In (oj s₁.heap (e8 K a scr)):=fun b o e=>base_of (KX b o e) (hKn e)
  have hM:Mod K mg (oj s₁.heap (e8 K a scr)):=⟨hKb,nsK hns,⟨mb,nsK hb,hbb⟩,let ⟨mc,h1,h2⟩:=hlim;⟨mc,nsK h1,h2⟩⟩
  have e0:xf P w K mg (oj s₁.heap (e8 K a scr)) callerA [] s₁ (e8 K a scr):=⟨rfl,hM,fun b o e=>Ce e,Nat.le_of_eq (xj _ _),trivial,fun b hb=>absurd (show b∈([]:List Addr) from hb) (by simp),hok,.of_eq hg⟩
  have hB:l' K mg (oj s₁.heap (e8 K a scr)):=by
   refine ⟨fun x hx c T e=>?_,?_⟩
   ·obtain ⟨o,vs',file,tf,flags,tg,inF,text,tt,q,r⟩:=(LT.at_ x hx c T e).1
    have kc:∃oc,K.lookup c=some oc:=by
     have e':=e
     unfold W.tabIn at e'
     split at e'
     ·split at e'
      ·split at e'
       ·split at e'
        ·rename_i hh
         split at e'
         ·cases e';exact ⟨_,hh⟩
         ·cases e'
        ·cases e'
       ·cases e'
      ·cases e'
     ·cases e'
    obtain ⟨oc,kc⟩:=kc
    exact ⟨o,vs',file,tf,flags,tg,inF,text,tt,base_of q (hKn kc),r⟩
   ·obtain ⟨bm,ob,b1,b2,b3,b4,b5,b6⟩:=hbm
    exact ⟨bm,ob,b1,b2,base_of b3 (noD b3 (fun _ _ z=>by rw [b6] at z;cases z) fun _ z=>by rw [b6] at z;cases z),b4,b5,b6⟩
  have tb:TB K (e8 K a scr):=fun x hx c T e=>⟨(LK.at_ x hx c T e).2,#[],atT ⟨x,hx,c,e⟩,trivial,fun pos cv q=>by cases q⟩
  refine codeAny_mono ((F _ hKb (nsK hns) hB).run callerA [] s₁ (e8 K a scr) ⟨[.ref a],[]⟩ [.ref a] [.ref a] _ _ hr e0 (hbind s₁ (.ref a)) (.cons rfl .nil) (yW hl (by rw [atA];exact hscr) hS tb)) fun r s' h=>?_
  cases r with
  | error e=>exact False.elim h
  | ok fl =>
   cases fl with
   | next=>exact False.elim h
   | brk=>exact False.elim h
   | cont=>exact False.elim h
   | ret u =>
    obtain ⟨v,H',os,bare,un,hok',r',q⟩:=h
    have q':v=.bl true:=q
    subst q'
    obtain rfl:u=Value.bool true:=r'
    refine ⟨rfl,⟨fun b o e=>?_,fun b o e=>un.there b o e (by simp)⟩,os,bare⟩
    cases q:e8 K a scr b with
    | none=>exact .inl (un.keep b o e q (by intro z;exact absurd (show b∈([]:List Addr) from z) (by simp)) (by simp))
    | some u =>
     rcases cs b (by rw [q];simp) with ⟨rfl,z⟩|z
     ·rw [atA] at q
      obtain ⟨⟨ob,xs,rfl⟩,_⟩:=hso u q
      have z1:e8 K b scr b=some (.frz ob (.lst xs)):=by rw [atA];exact q
      have z2:=un.frzs b ob _ z1
      obtain ⟨e1,_⟩:=hok b _ z1
      obtain ⟨e2,_⟩:=hok' b _ z2
      rw [e] at e1;cases e1
      exact .inl e2
     ·obtain ⟨more,z2⟩:=un.tbls b _ (atT z)
      have e1:=tabAt z
      rw [e] at e1
      cases e1
      have e2:s'.heap.get? b=some { cls:=.none,data:=.fields (#[]++more) }:=hok' b _ z2
      obtain ⟨x,hx,c,et⟩:=z
      have ht0:=(LT.at_ x hx c b et)
      exact .inr (.inl ⟨(ht0.1.tab ht0.2).isCodeTable,rfl,#[],more,rfl,e2⟩)
 cases hk:K.lookup a with
 | some o =>
  have e:=KX a o hk
  rw [ha] at e
  cases e
  refine core none (fun _ z=>nomatch z) (.inr ⟨_,vs.toArray,_,hk,rfl,rfl,rfl,by rw [List.size_toArray,lenV];exact hl2,by simpa using rv⟩) (fun u z=>nomatch z) fun z=>absurd rfl z
 | none =>
  refine core (some (.frz { cls:=.type "list",data:=.seq vs.toArray } (.lst (ns.map V.int)))) (fun _ z=>nomatch z) (.inl (.inr ⟨{ cls:=.type "list",data:=.seq vs.toArray },if_pos rfl⟩)) (fun u z=>?_) fun _=>hk
  cases z
  exact ⟨⟨_,_,rfl⟩,ha,by rw [List.length_map];exact hl2,vs,_,rv,ha⟩
theorem walkF {l:W.OpenLaw} {q:Program} {loose:List Str} {XP:(Str→Option Value)→Heap→Prop} {YP:World→Heap→Prop} {d:DefRec} {K:Params→W.Frag} {k:Nat} {x:Str} (hn:l.most=some 63) (hdf:d.params.defaults=[]) (hr:Room k callerA)
  (hY:∀(w:World) (h:Heap),YP w h→(K w.params).In h)
  (F:∀(w:World) (mg:Str→Option Value) (fa:Addr) (h:Heap),(K w.params).In h→h.Ns mainGlobals mg→mg d.name=some (.ref fa) →
   ∃fd:FuncData,(∀(s:Shared) (u:Value),BindsTo s fd ⟨[u],[]⟩ [(x,u)])∧Cf (K w.params)∧(∀x∈ba,W.tabIn (K w.params) x=none∨∃d,(recsOf q).find? (fun e=>e.name == x)=some d)∧∀base:Heap,(K w.params).In base→base.Ns mainGlobals mg→l' (K w.params) mg base→oa l.prog w (K w.params) mg base CX0 k fa fd [x] (av (K w.params) ir)) :
  W.WalkO q loose XP YP l.row.toRowW d [] (fun f vs=>PySem.call f vs):=by
 refine Att.attach_call hn hdf fun w s₀ s₁ mg mb fa o pm cd doc a vs ns G Y ho hd hcd hmg hobj hints hlen hg=>?_
 have KX:=hY w _ Y
 obtain ⟨fd,hb,hK,hq,hF⟩:=F w mg fa _ KX G.T.g hmg
 refine xb KX G.T.g G.T.b G.T.builtins G.T.nolimit hg ⟨fun x hx c T e=>?_⟩ hK G.T.bmain hobj hints hlen hr hF hb
 rcases hq x hx with z|⟨d,r⟩
 ·rw [z] at e;cases e
 ·exact W.tab_of G.T KX r e
theorem Sub.refl (st:AH):Sub st st:=fun i _=>.inl rfl
theorem Sub.set {st st':AH} {n:Nat} {c:Cell} (h:Sub st st') (hc:c.bel 0=true):Sub st (st'.set n c):=fun i hi=>by
 by_cases e:n=i
 ·subst e
  by_cases hl:n<st'.length
  ·exact .inr ⟨c,List.getElem?_set_self hl,hc⟩
  ·rw [List.set_eq_of_length_le (by omega)]
   exact h n hi
 ·rw [List.getElem?_set_ne e]
  exact h i hi
theorem Tmp.same {st:AH} {Q:EK} {v:PV} (h:v.bel st.length=true) (q:Q v st):Tmp st Q v st:=⟨st,[],by simp,rfl,Sub.refl st,h,q⟩
theorem Tmp.app {st g:AH} {Q:EK} {v:PV} (h:v.bel st.length=true) (q:Q v st):Tmp st Q v (st++g):=⟨st,g,rfl,rfl,Sub.refl st,h,q⟩
theorem Ret.all {st st':AH} {Q:EK} {v:PV} (q:Q v st'):Ret st Q v st':=.inl q
theorem Ret.cut {st st':AH} {Q:EK} {v:PV} (q:Tmp st Q v st'):Ret st Q v st':=.inr q
theorem ar1 {P:List Value→Prop} (h:∀a,P [a]) (us:List Value) (hl:us.length=1):P us:=by
 match us,hl with
 | [a],_=>exact h a
theorem ar2 {P:List Value→Prop} (h:∀a b,P [a,b]) (us:List Value) (hl:us.length=2):P us:=by
 match us,hl with
 | [a,b],_=>exact h a b
theorem ar3 {P:List Value→Prop} (h:∀a b c,P [a,b,c]) (us:List Value) (hl:us.length=3):P us:=by
 match us,hl with
 | [a,b,c],_=>exact h a b c
theorem ar4 {P:List Value→Prop} (h:∀a b c d,P [a,b,c,d]) (us:List Value) (hl:us.length=4):P us:=by
 match us,hl with
 | [a,b,c,d],_=>exact h a b c d
end FW
namespace FW
open L2 HX
section
variable {P:Program} {w:World} {K:W.Frag} {mg:Str→Option Value} {base:Heap} {c:Cfg} {Γ:Nat→FSp}
theorem vg {x:Str} (z:W.nsIn K mainGlobals x=some none):W.tabIn K x=none:=by
 unfold W.tabIn
 rw [z]
theorem BG (h:∀x∈ba,W.tabIn K x=none∨∃c T,W.tabIn K x=some (c,T)∧K.lookup T=none∧∀y∈ba,y≠x→∀d,W.tabIn K y≠some (d,T)):Cf K:=⟨fun x hx c T e=>by
 rcases h x hx with z|⟨c',T',z,n,u⟩
 ·rw [z] at e;cases e
 ·rw [z] at e
  cases e
  exact ⟨n,fun y hy d ed=>Classical.byContradiction fun q=>u y hy q d ed⟩⟩
end
end FW
namespace FW
open L2 HX
section
variable {Γ:Nat→FSp} {ρ:Fr} {st:AH} {Q:EK} {D:aL} {a b c:E} {es:Es}
noncomputable def aft (Γ:Nat→FSp) (ss:Ss) (D:aL):aL:={ D with nx:=fun ρ' st'=>au Γ ss ρ' st' D }
noncomputable def LD (I:Fr→AH→Prop) (D:aL):aL:={ nx:=I,ct:=I,bk:=D.nx,rt:=D.rt }
noncomputable def EV (Γ:Nat→FSp) (t:Tg) (b:Ss) (chk:AH→Prop) (D:aL) (xs:List PV) (ρ:Fr) (st:AH):Prop:=lE chk (fun x ρ' st' D'=>bF Γ t x ρ' st' fun ρ2 st2=>au Γ b ρ2 st2 D') D xs ρ st
noncomputable def FF (Γ:Nat→FSp) (c:E) (b:Ss) (D:aL) (ρ:Fr) (st:AH):Prop:=∃n,eL (wpT Γ c) (au Γ b) D n ρ st
noncomputable def wc (Γ:Nat→FSp) (elt:E) (tg:Tg) (ifs:Es) (chk:AH→Prop) (ρ:Fr) (xs:List PV) (st:AH) (Q:LK):Prop :=
 aQ chk (fun x st2 k=>bF Γ tg x ρ st2 fun ρ' st3=>dX Γ ifs ρ' st3 fun c st4=>if c=true then wpE Γ elt ρ' st4 fun v st5=>k (some v) st5 else k none st4) xs [] st Q
theorem uk {ss:Ss}:(aft Γ ss D).nx ρ st=au Γ ss ρ st D:=rfl
theorem t5 {ss:Ss} {v:PV}:(aft Γ ss D).rt v st=D.rt v st:=rfl
theorem uI {ss:Ss}:(aft Γ ss D).bk ρ st=D.bk ρ st:=rfl
theorem uH {ss:Ss}:(aft Γ ss D).ct ρ st=D.ct ρ st:=rfl
theorem pJ {ss:Ss}:(aft Γ ss D).rt=D.rt:=rfl
theorem z_ {I:Fr→AH→Prop}:(LD I D).nx ρ st=I ρ st:=rfl
theorem yc {I:Fr→AH→Prop}:(LD I D).ct ρ st=I ρ st:=rfl
theorem yd {I:Fr→AH→Prop}:(LD I D).bk ρ st=D.nx ρ st:=rfl
theorem Aq {I:Fr→AH→Prop} {v:PV}:(LD I D).rt v st=D.rt v st:=rfl
theorem vK {I:Fr→AH→Prop}:(LD I D).rt=D.rt:=rfl
theorem Ax {st0:AH}:(ae st0 Q).nx ρ st=Ret st0 Q .non st:=rfl
theorem zN {st0:AH} {v:PV}:(ae st0 Q).rt v st=Ret st0 Q v st:=rfl
theorem t4 {st0:AH}:(ae st0 Q).rt=Ret st0 Q:=rfl
theorem qM {s s2:S} {ss:Ss}:au Γ (.cons s (.cons s2 ss)) ρ st D=wpS Γ s ρ st (aft Γ (.cons s2 ss) D):=rfl
theorem pS {x:Ss}:wpS Γ (.whileS c x) ρ st D=FF Γ c x D ρ st:=rfl
theorem yH {t:Tg} {it:It} {x:Ss}:wpS Γ (.forS t it x) ρ st D=i8 Γ it ρ st fun xs chk st1=>EV Γ t x chk D xs ρ st1:=rfl
theorem u5 {tg:Tg} {it:It} {ifs:Es} {nt:List Str} {caps:List Nat}:wpE Γ (.comp a tg it ifs nt caps) ρ st Q=i8 Γ it ρ st fun xs chk st1 =>
  xs.length<100000∧wc Γ a tg ifs chk (nt.map (fun _=>none)++caps.map fun i=>(ρ[i]?).join) xs st1 fun vs st2=>Q (.ref st2.length) (st2++[.lst vs]):=rfl
theorem qF {e:E} {tg:Tg} {wk:DW} {ifs:Es} {nt:List Str} {caps:List Nat}:wpE Γ (.compK a tg wk e ifs nt caps) ρ st Q=wpE Γ e ρ st fun x st1=>∃n,x=.ref n∧∃kvs,st1[n]?=some (.dk kvs)∧kvs.length<100000 ∧
  wc Γ a tg ifs (fun _=>True) (nt.map (fun _=>none)++caps.map fun i=>(ρ[i]?).join) (aZ wk kvs) (st1.set n (.fz kvs)) fun vs st2=>st2[n]?=some (.fz kvs)∧Q (.ref st2.length) (st2.set n (.dk kvs)++[.lst vs]):=rfl
noncomputable def C1 (Γ:Nat→FSp) (kx vx:E) (tg:Tg) (ifs:Es) (ρ:Fr) (xs:List PV) (st:AH) (Q:LK):Prop :=
 aQ (fun _=>True) (fun x st2 k=>bF Γ tg x ρ st2 fun ρ' st3=>dX Γ ifs ρ' st3 fun c st4=>if c=true then wpE Γ kx ρ' st4 fun u st5=>wpE Γ vx ρ' st5 fun v st6=>∃z,u=.str z∧k (some (.tup [u,v])) st6 else k none st4) xs [] st Q
theorem qR {e:E} {tg:Tg} {wk:DW} {ifs:Es} {nt:List Str} {caps:List Nat}:wpE Γ (.compD a b tg wk e ifs nt caps) ρ st Q=wpE Γ e ρ st fun x st1=>∃n,x=.ref n∧∃kvs,st1[n]?=some (.dk kvs)∧kvs.length<1000 ∧
  C1 Γ a b tg ifs (nt.map (fun _=>none)++caps.map fun i=>(ρ[i]?).join) (aZ wk kvs) (st1.set n (.fz kvs)) fun vs st2=>st2[n]?=some (.fz kvs)∧∀ps,vs=prL ps→Q (.ref st2.length) (st2.set n (.dk kvs)++[.dk (eY ps)]):=rfl
theorem uR {t:Tg} {wk:DW} {e:E} {x:Ss}:wpS Γ (.forK t wk e x) ρ st D=wpE Γ e ρ st fun v st1=>∃n,v=.ref n∧∃kvs,st1[n]?=some (.dk kvs)∧EV Γ t x (fun _=>True) (fzD n kvs D) (aZ wk kvs) ρ (st1.set n (.fz kvs)):=rfl
theorem uV {n:Nat} {kvs:List (Key × PV)}:(fzD n kvs D).nx ρ st=(st[n]?=some (.fz kvs)∧D.nx ρ (st.set n (.dk kvs))):=rfl
theorem cC (G:bb Γ) {t:Tg} {b:Ss} {chk:AH→Prop} {D:aL} (I:Nat→Fr→AH→Prop) {xs:List PV} {ρ:Fr} {st:AH} (h0:I 0 ρ st)
  (hs:∀i x ρ st,xs[i]?=some x→I i ρ st→chk st∧bF Γ t x ρ st (fun ρ2 st2=>au Γ b ρ2 st2 (LD (I (i+1)) D)))
  (hd:∀ρ st,I xs.length ρ st→chk st∧D.nx ρ st):EV Γ t b chk D xs ρ st:=by
 have key:∀(k i:Nat) (ρ:Fr) (st:AH),i+k=xs.length→I i ρ st→lE chk (fun x ρ' st' D'=>bF Γ t x ρ' st' fun ρ2 st2=>au Γ b ρ2 st2 D') D (xs.drop i) ρ st:=by
  intro k
  induction k with
  | zero =>
   intro i ρ st hi h
   have:i=xs.length:=by omega
   subst this
   rw [List.drop_length]
   exact hd ρ st h
  | succ k ih =>
   intro i ρ st hi h
   have hlt:i<xs.length:=by omega
   rw [List.drop_eq_getElem_cons hlt]
   obtain ⟨h1,h2⟩:=hs i xs[i] ρ st (by simp [hlt]) h
   refine ⟨h1,aw G t (fun ρ2 st2 k2=>aH G b ?_ k2) h2⟩
   exact ⟨fun ρ3 st3 z=>ih (i+1) ρ3 st3 (by omega) z,fun _ _ z=>z,fun _ _ z=>z,fun ρ3 st3 z=>ih (i+1) ρ3 st3 (by omega) z⟩
 have:=key xs.length 0 ρ st (by omega) h0
 rwa [List.drop_zero] at this
theorem gU {c:Fr→AH→BK→Prop} {body:Fr→AH→aL→Prop} {D:aL} (hc:∀ρ st Q Q',(∀b st,Q b st→Q' b st)→c ρ st Q→c ρ st Q') (hb:∀ρ st D D',ji D D'→body ρ st D→body ρ st D') :
  ∀ {n k:Nat} {ρ:Fr} {st:AH},n≤k→eL c body D n ρ st→eL c body D k ρ st
 | 0,k,ρ,st,_,h=>h.elim
 | n+1,0,ρ,st,hk,h=>absurd hk (by omega)
 | n+1,k+1,ρ,st,hk,h=>by
  refine hc _ _ _ _ (fun b st1 z=>?_) h
  cases b with
  | false=>exact z
  | true =>
   rw [if_pos rfl] at z ⊢
   refine hb _ _ _ _ ?_ z
   exact ⟨fun _ _ z=>gU hc hb (by omega) z,fun _ _ z=>z,fun _ _ z=>z,fun _ _ z=>gU hc hb (by omega) z⟩
theorem mi (G:bb Γ) {c:E} {b:Ss} {D:aL} (I:Nat→Fr→AH→Prop) {n:Nat} {ρ:Fr} {st:AH} (h0:I n ρ st)
  (hs:∀n ρ st,I n ρ st→wpT Γ c ρ st (fun k st1=>if k=true then au Γ b ρ st1 (LD (fun ρ' st'=>∃m,m<n∧I m ρ' st') D) else D.nx ρ st1)):FF Γ c b D ρ st:=by
 have hc:∀ρ st Q Q',(∀b st,Q b st→Q' b st)→wpT Γ c ρ st Q→wpT Γ c ρ st Q':=fun _ _ _ _ hk z=>aJ G c hk z
 have hb:∀ρ st D D',ji D D'→au Γ b ρ st D→au Γ b ρ st D':=fun _ _ _ _ hk z=>aH G b hk z
 have key:∀(k n:Nat),n<k→∀(ρ:Fr) (st:AH),I n ρ st→eL (wpT Γ c) (au Γ b) D (n+1) ρ st:=by
  intro k
  induction k with
  | zero=>intro n hn;exact absurd hn (by omega)
  | succ k ih =>
   intro n hn ρ st h
   refine hc _ _ _ _ (fun q st1 z=>?_) (hs n ρ st h)
   cases q with
   | false=>exact z
   | true =>
    rw [if_pos rfl] at z ⊢
    refine hb _ _ _ _ ?_ z
    exact ⟨fun ρ' st' ⟨m,hm,z⟩=>gU hc hb (by omega) (ih m (by omega) ρ' st' z),fun _ _ z=>z,fun _ _ z=>z,fun ρ' st' ⟨m,hm,z⟩=>gU hc hb (by omega) (ih m (by omega) ρ' st' z)⟩
 exact ⟨_,key (n+1) n (by omega) ρ st h0⟩
end
section
variable {Γ:Nat→FSp}
theorem jG (G:bb Γ) {elt:E} {tg:Tg} {ifs:Es} {chk:AH→Prop} {ρ:Fr} {xs:List PV} {st:AH} {Q:LK} (I:Nat→List PV→AH→Prop) (h0:I 0 [] st)
  (hs:∀i x acc st,xs[i]?=some x→I i acc st→chk st∧bF Γ tg x ρ st fun ρ' st3=>dX Γ ifs ρ' st3 fun c st4=>if c=true then wpE Γ elt ρ' st4 fun v st5=>I (i+1) (acc++[v]) st5 else I (i+1) acc st4)
  (hd:∀acc st,I xs.length acc st→chk st∧Q acc st):wc Γ elt tg ifs chk ρ xs st Q:=by
 have key:∀(k i:Nat) (acc:List PV) (st:AH),i+k=xs.length→I i acc st→aQ chk (ei Γ elt tg ifs ρ) (xs.drop i) acc st Q:=by
  intro k
  induction k with
  | zero =>
   intro i acc st hi h
   have:i=xs.length:=by omega
   subst this
   rw [List.drop_length]
   exact hd acc st h
  | succ k ih =>
   intro i acc st hi h
   have hlt:i<xs.length:=by omega
   rw [List.drop_eq_getElem_cons hlt]
   obtain ⟨h1,h2⟩:=hs i xs[i] acc st (by simp [hlt]) h
   refine ⟨h1,aw G tg (fun ρ2 st2 k2=>aI G ifs (fun c st4 k4=>?_) k2) h2⟩
   cases c with
   | true=>rw [if_pos rfl] at k4 ⊢;exact aa G elt (fun v st5 z=>ih (i+1) _ st5 (by omega) z) k4
   | false=>rw [if_neg Bool.false_ne_true] at k4 ⊢;simpa using ih (i+1) _ st4 (by omega) k4
 have:=key xs.length 0 [] st (by omega) h0
 rw [List.drop_zero] at this
 exact this
theorem A2 (G:bb Γ) {kx vx:E} {tg:Tg} {ifs:Es} {ρ:Fr} {xs:List PV} {st:AH} {Q:LK} (I:Nat→List PV→AH→Prop) (h0:I 0 [] st)
  (hs:∀i x acc st,xs[i]?=some x→I i acc st→bF Γ tg x ρ st fun ρ' st3=>dX Γ ifs ρ' st3 fun c st4=>if c=true then wpE Γ kx ρ' st4 fun u st5=>wpE Γ vx ρ' st5 fun v st6=>∃z,u=.str z∧I (i+1) (acc++[.tup [u,v]]) st6 else I (i+1) acc st4)
  (hd:∀acc st,I xs.length acc st→Q acc st):C1 Γ kx vx tg ifs ρ xs st Q:=by
 have key:∀(k i:Nat) (acc:List PV) (st:AH),i+k=xs.length→I i acc st→aQ (fun _=>True) (eZ Γ kx vx tg ifs ρ) (xs.drop i) acc st Q:=by
  intro k
  induction k with
  | zero =>
   intro i acc st hi h
   have:i=xs.length:=by omega
   subst this
   rw [List.drop_length]
   exact ⟨trivial,hd acc st h⟩
  | succ k ih =>
   intro i acc st hi h
   have hlt:i<xs.length:=by omega
   rw [List.drop_eq_getElem_cons hlt]
   refine ⟨trivial,aw G tg (fun ρ2 st2 k2=>aI G ifs (fun c st4 k4=>?_) k2) (hs i xs[i] acc st (by simp [hlt]) h)⟩
   cases c with
   | true=>rw [if_pos rfl] at k4 ⊢;exact aa G kx (fun u st5 z=>aa G vx (fun v st6 z=>let ⟨zz,e,z⟩:=z;⟨zz,e,ih (i+1) _ st6 (by omega) z⟩) z) k4
   | false=>rw [if_neg Bool.false_ne_true] at k4 ⊢;simpa using ih (i+1) _ st4 (by omega) k4
 have:=key xs.length 0 [] st (by omega) h0
 rw [List.drop_zero] at this
 exact this
theorem nu (G:bb Γ) {elt:E} {i:Nat} {chk:AH→Prop} {ρ:Fr} {xs:List PV} {st:AH} {Q:LK} (f:PV→PV) (hc:chk st) (hs:∀x∈xs,wpE Γ elt (ρ.set i (some x)) st fun v st'=>v=f x∧st'=st) (q:Q (xs.map f) st):wc Γ elt (.name i) .nil chk ρ xs st Q:=by
 refine jG G (fun j acc s=>s=st∧acc=(xs.take j).map f) ⟨rfl,by simp⟩ ?_ ?_
 ·rintro j x acc s hx ⟨rfl,rfl⟩
  refine ⟨hc,?_⟩
  simp only [e_,qx]
  rw [if_pos trivial]
  refine aa G elt (fun v st5 z=>?_) (hs x (List.mem_of_getElem? hx))
  obtain ⟨rfl,rfl⟩:=z
  refine ⟨rfl,?_⟩
  rw [List.take_add_one,hx]
  simp
 ·rintro acc s ⟨rfl,rfl⟩
  rw [List.take_length]
  exact ⟨hc,q⟩
theorem oS {f:PV→Bool}:∀ {xs:List PV},lu (xs.map fun x=>.bl (f x))=some (xs.map f)
 | []=>rfl
 | x::xs=>by simp only [List.map_cons,lu,oS (xs:=xs),Option.map_some]
end
section
variable {st:AH} {Q:EK} {i j:Int} {n k:Nat} {xs ys:List PV} {x y v:PV} {b b':Bool} {s s':Str} {kB:Bool→Prop} {BQ:BK}
theorem yC:iM .Add (.int i) (.int j) st Q=Q (.int (i+j)) st:=rfl
theorem Bt:iM .Sub (.int i) (.int j) st Q=Q (.int (i-j)) st:=rfl
theorem zw:iM .Mult (.int i) (.int j) st Q=(CMB i j∧Q (.int (i*j)) st):=rfl
theorem yr:iM .FloorDiv (.int i) (.int j) st Q=(CBig j∧Q (.int (i/j)) st):=rfl
theorem Bm:iM .Mod (.int i) (.int j) st Q=(0<j∧Q (.int (i % j)) st):=rfl
theorem yQ:iM .Pow (.int i) (.int j) st Q=(tD i j∧Q (.int (i ^ j.toNat)) st):=rfl
theorem tV:iM .Add (.ref n) (.ref k) st Q=∃xs ys,st[n]?=some (.lst xs)∧st[k]?=some (.lst ys)∧xs.length+ys.length≤100000∧Q (.ref st.length) (st++[.lst (xs++ys)]):=rfl
theorem vt:iM .Mult (.ref n) (.int i) st Q=∃xs,st[n]?=some (.lst xs)∧-(2 ^ 63)≤i∧i<2 ^ 63∧xs.length*i.toNat≤100000∧Q (.ref st.length) (st++[.lst (List.replicate i.toNat xs).flatten]):=rfl
theorem uK {a b:Str}:iM .Add (.str a) (.str b) st Q=(a.length+b.length≤100000∧Q (.str (a++b)) st):=rfl
theorem vN:iM .Add (.tup xs) (.tup ys) st Q=(xs.length+ys.length≤100000∧Q (.tup (xs++ys)) st):=rfl
theorem Dl:dZ .Eq x y st Q=eqW st x y fun k=>Q (.bl k) st:=rfl
theorem E1:dZ .NotEq x y st Q=eqW st x y fun k=>Q (.bl (!k)) st:=rfl
theorem Bo:dZ .Is x .non st Q=Q (.bl (gC x)) st:=rfl
theorem Bs:dZ .Is x (.bl b) st Q=Q (.bl (iY b x)) st:=rfl
theorem vf:dZ .IsNot x .non st Q=Q (.bl (!gC x)) st:=rfl
theorem ve:dZ .IsNot x (.bl b) st Q=Q (.bl (!iY b x)) st:=rfl
theorem E9:dZ .Lt (.int i) (.int j) st Q=Q (.bl (decide (i<j))) st:=rfl
theorem Ed:dZ .LtE (.int i) (.int j) st Q=Q (.bl (decide (i≤j))) st:=rfl
theorem DZ:dZ .Gt (.int i) (.int j) st Q=Q (.bl (decide (j<i))) st:=rfl
theorem Fd:dZ .GtE (.int i) (.int j) st Q=Q (.bl (decide (j≤i))) st:=rfl
theorem AJ:eqW st (.int i) (.int j) kB=kB (decide (i=j)):=rfl
theorem A8:eqW st (.bl b) (.bl b') kB=kB (decide (b=b')):=rfl
theorem y8:eqW st (.str s) (.str s') kB=kB (decide (s=s')):=rfl
theorem kH:gC .non=true:=rfl
theorem mr:gC (.bl b)=false:=rfl
theorem kL:gC (.int i)=false:=rfl
theorem kO:gC (.str s)=false:=rfl
theorem jO:gC (.tup xs)=false:=rfl
theorem kI:gC (.ref n)=false:=rfl
theorem rc:iY true (.bl true)=true:=rfl
theorem pU:iY true (.bl false)=false:=rfl
theorem qy:iY false (.bl true)=false:=rfl
theorem qY:iY false (.bl false)=true:=rfl
theorem mY:iY b (.int i)=false:=rfl
theorem nJ:iY b .non=false:=rfl
theorem nG:iY b (.tup xs)=false:=rfl
theorem ko:bo st (.tup xs)=some xs:=rfl
theorem kJ:bo st (.rdl xs)=some xs:=rfl
theorem iA:br st (.rdl xs)=some xs:=rfl
theorem aM (h:st[n]?=some (.lst xs)):br st (.ref n)=some xs:=by simp [br,h]
theorem ad (h:st[n]?=some (.lst xs)):bo st (.ref n)=some xs:=by simp [bo,br,h]
theorem j6:cj st .non=some "NoneType":=rfl
theorem nw:cj st (.bl b)=some "bool":=rfl
theorem kz:cj st (.int i)=some "int":=rfl
theorem kw:cj st (.str s)=some "str":=rfl
theorem kW:cj st (.tup xs)=some "tuple":=rfl
theorem j7:cj st (.rdl xs)=some "list":=rfl
theorem yX {z:Str}:ixW (.str z) (.int i) st Q=(z.length≤100000∧∃c,atI z.cps.toList i=some c∧Q (.str ⟨#[c]⟩) st):=rfl
theorem AT:ixW (.tup xs) (.int i) st Q=∃v,atI xs i=some v∧Q v st:=propext ⟨fun ⟨ys,e,q⟩=>by cases e;exact q,fun q=>⟨xs,rfl,q⟩⟩
theorem yg:ixW (.rdl xs) (.int i) st Q=∃v,atI xs i=some v∧Q v st:=propext ⟨fun ⟨ys,e,q⟩=>by cases e;exact q,fun q=>⟨xs,rfl,q⟩⟩
theorem yA:ixW (.ref n) (.int i) st Q=∃xs,bo st (.ref n)=some xs∧∃v,atI xs i=some v∧Q v st:=rfl
theorem oW:atI (x::xs) 0=some x:=f' (j:=0) rfl
theorem nD:atI (x::y::xs) 1=some y:=f' (j:=1) rfl
theorem Az:atI (x::y::v::xs) 2=some v:=f' (j:=2) rfl
theorem yI {u:PV}:atI (x::y::v::u::xs) 3=some u:=f' (j:=3) rfl
theorem Bv {lo hi:Option Int}:slW (.tup xs) lo hi st Q=Q (.tup (i4 xs lo hi)) st:=rfl
theorem yz {lo hi:Option Int}:slW (.rdl xs) lo hi st Q=Q (.ref st.length) (st++[.lst (i4 xs lo hi)]):=by simp [slW,br]
theorem Ak {lo hi:Option Int} {z:Str}:slW (.str z) lo hi st Q=(z.length≤100000∧Q (.str (jQ z lo hi)) st):=rfl
theorem Ba {lo hi:Option Int}:slW (.ref n) lo hi st Q=∃xs,br st (.ref n)=some xs∧Q (.ref st.length) (st++[.lst (i4 xs lo hi)]):=rfl
theorem vj {z:Str}:d0 .len [.str z] st Q=(z.length≤100000∧Q (.int z.length) st):=rfl
theorem uA {z:Str}:d0 .int1 [.str z] st Q=(z.length≤640∧∃n,PySem.intText? z=some n∧Q (.int n) st):=rfl
theorem EN {a b:Str}:dZ .In (.str a) (.str b) st Q=Q (.bl (!(Builtin.Str.occurrences b a 0 b.length 1).isEmpty)) st:=rfl
theorem zj:dZ .In (.int i) (.tup xs) st Q=∃ns:List Int,xs=ns.map PV.int∧Q (.bl (ns.any fun j=>j == i)) st:=rfl
theorem Bd:dZ .NotIn (.int i) (.tup xs) st Q=∃ns:List Int,xs=ns.map PV.int∧Q (.bl (!(ns.any fun j=>j == i))) st:=rfl
theorem zM {a:Str}:dZ .In (.str a) (.tup xs) st Q=∃ns:List Str,xs=ns.map PV.str∧Q (.bl (ns.any fun j=>j == a)) st:=rfl
theorem Bp {a:Str}:dZ .NotIn (.str a) (.tup xs) st Q=∃ns:List Str,xs=ns.map PV.str∧Q (.bl (!(ns.any fun j=>j == a))) st:=rfl
theorem A9 {a:Str}:dZ .In (.str a) (.ref n) st Q=inR a n st fun k=>Q (.bl k) st:=rfl
theorem Bn {a:Str}:dZ .NotIn (.str a) (.ref n) st Q=inR a n st fun k=>Q (.bl (!k)) st:=rfl
theorem Ar {z:Str}:ixW (.ref n) (.str z) st Q=∃kvs v,(st[n]?=some (.dk kvs)∨st[n]?=some (.fz kvs))∧fI kvs (.inr z)=some v∧Q v st:=rfl
theorem uC {kS:AH→Prop} {z:Str}:pP (.ref n) (.str z) v st kS=∃kvs,st[n]?=some (.dk kvs)∧kvs.length≤1000∧kS (st.set n (.dk (gb kvs (.inr z) v))):=rfl
theorem u4:d0 .len [.tup xs] st Q=Q (.int xs.length) st:=propext ⟨fun ⟨ys,e,q⟩=>by cases e;exact q,fun q=>⟨xs,rfl,q⟩⟩
theorem uT:d0 .len [.rdl xs] st Q=Q (.int xs.length) st:=propext ⟨fun ⟨ys,e,q⟩=>by cases e;exact q,fun q=>⟨xs,rfl,q⟩⟩
theorem tR:d0 .len [.ref n] st Q=∃xs,bo st (.ref n)=some xs∧Q (.int xs.length) st:=rfl
theorem zE:d0 .max2 [.int i,.int j] st Q=Q (.int (if i<j then j else i)) st:=rfl
theorem Ay:d0 .min2 [.int i,.int j] st Q=Q (.int (if j<i then j else i)) st:=rfl
theorem nC:d0 .divmod [.int i,.int j] st Q=(CBig j∧Q (.tup [.int (i/j),.int (i % j)]) st):=rfl
theorem u9:d0 .int1 [.bl b] st Q=Q (.int (b2z b)) st:=rfl
theorem vL:d0 .tuple1 [.tup xs] st Q=Q (.tup xs) st:=propext ⟨fun ⟨ys,e,q⟩=>by cases e;exact q,fun q=>⟨xs,rfl,q⟩⟩
theorem vJ:d0 .tuple1 [.ref n] st Q=∃xs,bo st (.ref n)=some xs∧Q (.tup xs) st:=rfl
theorem pF:d0 .list1 [.tup xs] st Q=Q (.ref st.length) (st++[.lst xs]):=propext ⟨fun ⟨ys,e,q⟩=>by cases e;exact q,fun q=>⟨xs,rfl,q⟩⟩
theorem qH:d0 .list1 [.ref n] st Q=∃xs,bo st (.ref n)=some xs∧Q (.ref st.length) (st++[.lst xs]):=rfl
theorem yh:d0 .all1 [x] st Q=∃xs bs,br st x=some xs∧lu xs=some bs∧Q (.bl (bs.all id)) st:=rfl
theorem pB:d0 .sortS [x] st Q=∃ss:List Str,br st x=some (ss.map PV.str)∧ss.length<64∧∀ss':List Str,ss'.Perm ss→PyProof.Rows.sortedS ss'=true→Q (.ref st.length) (st++[.lst (ss'.map PV.str)]):=rfl
theorem qP {n:Nat}:d0 .sortD [.ref n] st Q=∃kvs,(st[n]?=some (.dk kvs)∨st[n]?=some (.fz kvs))∧∃ss:List Str,kvs.map (·.1)=ss.map Sum.inr∧ss.length<64∧∀ss':List Str,ss'.Perm ss→PyProof.Rows.sortedS ss'=true→Q (.ref st.length) (st++[.lst (ss'.map PV.str)]):=propext ⟨fun ⟨_,e,q⟩=>by cases e;exact q,fun q=>⟨_,rfl,q⟩⟩
theorem AS:um .append (.ref n) [v] st Q=∃xs,st[n]?=some (.lst xs)∧xs.length<100000∧Q .non (st.set n (.lst (xs++[v]))):=rfl
theorem Ek:fw (.bl b) st BQ=BQ b st:=rfl
theorem DY:fw .non st BQ=BQ false st:=rfl
theorem E6:fw (.int i) st BQ=BQ (i != 0) st:=rfl
theorem Fa:fw (.tup xs) st BQ=BQ (!xs.isEmpty) st:=by simp [fw,bo]
theorem EU:fw (.ref n) st BQ=∃xs,bo st (.ref n)=some xs∧BQ (!xs.isEmpty) st:=rfl
theorem Bw {kS:AH→Prop}:pP (.ref n) (.int j) v st kS=∃xs,st[n]?=some (.lst xs)∧∃q,ixN xs.length j=some q∧kS (st.set n (.lst (xs.set q v))):=rfl
end
theorem tI:((0:Nat):Int)=0:=rfl
theorem uW:((1:Nat):Int)=1:=rfl
theorem tN:((2:Nat):Int)=2:=rfl
theorem uz:((3:Nat):Int)=3:=rfl
theorem vF:((4:Nat):Int)=4:=rfl
theorem tW:((5:Nat):Int)=5:=rfl
theorem tU:((6:Nat):Int)=6:=rfl
theorem fj {s g:AH} {k:Nat}:(s++g)[s.length+k]?=g[k]?:=by
 rw [List.getElem?_append_right (Nat.le_add_right _ _),Nat.add_sub_cancel_left]
theorem cJ {s g:AH}:(s++g)[s.length]?=g[0]?:=fj (k:=0)
theorem ak {st:AH} {c:Cell}:(st++[c])[st.length]?=some c:=by simp
theorem bt {st g:AH} {n:Nat} {c:Cell} (h:st[n]?=some c):(st++g)[n]?=some c:=by
 rw [List.getElem?_append_left (List.getElem?_eq_some_iff.mp h).1]
 exact h
theorem ag {st:AH} {n:Nat} {c:Cell} (h:st[n]?=some c):n<st.length:=(List.getElem?_eq_some_iff.mp h).1
end FW
namespace My
open PySem L2 HX FW
noncomputable def top (i:Nat):Stmt:=PySem.Challenge.pw_hourstairs_k85_whole_layers.main.body.getD i (.Pass ⟨0,0,0,0⟩)
theorem rS {st:AH} {v:PV} (h:v.bel st.length=true):∃n,cj st v=some n:=by
 cases v with
 | ref k =>
  rw [PV.bel] at h
  have hk:=of_decide_eq_true h
  have e:st[k]?=some st[k]:=List.getElem?_eq_getElem hk
  cases q:st[k] with
  | lst xs=>exact ⟨"list",by simp [cj,e,q]⟩
  | dk xs=>exact ⟨"dict",by simp [cj,e,q]⟩
  | fz xs=>exact ⟨"dict",by simp [cj,e,q]⟩
 | fn a=>rw [PV.bel] at h;cases h
 | _=>exact ⟨_,rfl⟩
noncomputable def qU:PV→Bool
 | .int _=>true
 | _=>false
theorem Af {st:AH} {v:PV} {n:String} (h:cj st v=some n):qU v=(fk "int" n && (!iY true v) && (!iY false v)):=by
 cases v with
 | ref k =>
  unfold cj at h
  simp only at h
  split at h <;> cases h <;> rfl
 | bl b=>cases h;cases b <;> rfl
 | fn a=>cases h
 | _=>cases h;rfl
theorem lX {n d:Nat} (h:0<d) (h2:d<2 ^ 8000):CBig (Nat.gcd n d:Nat):=by
 have h3:0<Nat.gcd n d:=Nat.gcd_pos_of_pos_right _ h
 have h4:Nat.gcd n d≤d:=Nat.gcd_le_right _ h
 refine ⟨by omega,?_⟩
 have h5:((Nat.gcd n d:Nat):Int).natAbs=Nat.gcd n d:=rfl
 rw [h5]
 have:Nat.gcd n d<2 ^ 8000:=Nat.lt_of_le_of_lt h4 h2
 have:=(Nat.log2_lt (by omega)).mpr this
 omega
noncomputable abbrev pc (q r:Int):Cell:=.lst [.int q,.int r]
theorem Fg {q r:Int} {k:Nat}:(pc q r).bel k=true:=by simp [pc,Cell.bel,PV.bels,PV.bel]
theorem Hf:tD 10 6:=⟨by decide,by decide,by decide⟩
theorem Fv:tD 10 18:=⟨by decide,by decide,by decide⟩
theorem v9 {j:Int} (h:0<j) (h2:j<2 ^ 200):CBig j:=CBig.of h (Int.lt_of_lt_of_le h2 (by
 have:((2:Int) ^ 200)=((2 ^ 200:Nat):Int):=by rw [Int.natCast_pow];rfl
 have e2:((2:Int) ^ 8999)=((2 ^ 8999:Nat):Int):=by rw [Int.natCast_pow];rfl
 rw [this,e2]
 exact Int.ofNat_le.mpr (Nat.pow_le_pow_right (by decide) (by decide))))
theorem sE {i j:Int} (h1:-(2 ^ 64)<i) (h2:i<2 ^ 64):CMB i j:=.inr (.inl ⟨h1,h2⟩)
theorem oM {i j:Int} (h1:-(2 ^ 64)<j) (h2:j<2 ^ 64):CMB i j:=.inr (.inr ⟨h1,h2⟩)
theorem Gh {ns:List Int} (h:ns.length≤63):i4 (ns.map PV.int) none (some 63)=ns.map PV.int:=by
 unfold i4
 have e:HT.sIx (ns.map PV.int).length (ns.map PV.int).length (some (63:Int))=(ns.map PV.int).length:=by
  have:=HT.sIx_nat (ns.map PV.int).length (ns.map PV.int).length 63
  rw [show ((63:Nat):Int)=(63:Int) from rfl] at this
  rw [this,List.length_map]
  omega
 rw [HT.sIx_none,e,List.drop_zero,Nat.sub_zero,List.take_length]
theorem yy {ns:List Int} {k:Nat} (h:k<ns.length):atI (ns.map PV.int) (k:Int)=some (.int (ns.getD k 0)):=by
 refine f' ?_
 rw [List.getElem?_map,List.getD_eq_getElem?_getD,List.getElem?_eq_getElem h]
 rfl
theorem CA {n d:Nat} (h:0<d):Nat.gcd (n/Nat.gcd n d) (d/Nat.gcd n d)=1:=Nat.gcd_div_gcd_div_gcd_of_pos_right h
theorem CB {n d:Nat} (h:0<d):0<d/Nat.gcd n d:=Nat.div_pos (Nat.gcd_le_right _ h) (Nat.gcd_pos_of_pos_right _ h)
theorem tZ (n d:Nat):n/Nat.gcd n d*d=n*(d/Nat.gcd n d):=by
 obtain ⟨a,ha⟩:=Nat.gcd_dvd_left n d
 obtain ⟨b,hb⟩:=Nat.gcd_dvd_right n d
 by_cases h:Nat.gcd n d=0
 ·rw [h,Nat.div_zero,Nat.div_zero,Nat.zero_mul,Nat.mul_zero]
 ·have e1:n/Nat.gcd n d=a:=by rw [Nat.div_eq_of_eq_mul_right (by omega) ha]
  have e2:d/Nat.gcd n d=b:=by rw [Nat.div_eq_of_eq_mul_right (by omega) hb]
  rw [e1,e2]
  generalize Nat.gcd n d=g at *
  subst ha hb
  rw [←Nat.mul_assoc,Nat.mul_comm a g]
theorem dO {n i:Nat} {v:PV} (h:(dL 0 ((n:Int).toNat))[i]?=some v):v=.int i∧i<n:=by
 unfold dL at h
 rw [List.getElem?_map] at h
 have hi:i<n:=by
  by_cases hi:i<n
  ·exact hi
  ·rw [List.getElem?_eq_none (by simp;omega)] at h;cases h
 rw [List.getElem?_range (by simpa using hi)] at h
 cases h
 exact ⟨by simp,hi⟩
theorem o9 {st:AH} {a b:Int}:vk st (.tup [.int a,.int b])=some (.tuple [.int a,.int b]):=by simp [vk,PV.toD,PV.toDs]
theorem ly (a b:Int):SeqAt.shaped (.tuple [.int a,.int b])=true:=by
 simp [SeqAt.shaped,PyData.canLay0,PyData.canLayAll0,PyData.depth,PyData.depthAll]
theorem ze (a b c d:Int):PyData.eqv (.tuple [.int a,.int b]) (.tuple [.int c,.int d])=(decide (a=c) && decide (b=d)):=by
 simp [PyData.eqv,PyData.eqvAll,Bool.beq_eq_decide_eq]
theorem AZ {st:AH} {a b c d:Int} {k:Bool→Prop} (h:k (decide (a=c) && decide (b=d))):eqW st (.tup [.int a,.int b]) (.tup [.int c,.int d]) k :=
 ⟨_,_,o9,o9,ly _ _,ly _ _,by rw [ze];exact h⟩
noncomputable def bU:FSp:=fun as st Q=>∃v,as=[v]∧v.bel st.length=true∧Q (.bl (qU v)) st
theorem ow {as st Q Q'} (h:∀v st,Q v st→Q' v st) (q:bU as st Q):bU as st Q':=by obtain ⟨v,e,b,q⟩:=q;exact ⟨v,e,b,h _ _ q⟩
theorem qe {as st Q} (q:bU as st Q):as.length=1:=by obtain ⟨v,rfl,_⟩:=q;rfl
noncomputable abbrev dz:=bU
theorem iZ {as st Q Q'} (h:∀v st,Q v st→Q' v st) (q:bU as st Q):bU as st Q':=ow h q
theorem jk {as st Q} (q:bU as st Q):as.length=1:=qe q
noncomputable def aK:FSp:=fun as st Q=>∃n d:Nat,as=[.int n,.int d]∧Q (.int (Nat.gcd n d:Nat)) st
theorem ie {as st Q Q'} (h:∀v st,Q v st→Q' v st) (q:aK as st Q):aK as st Q':=by obtain ⟨n,d,e,q⟩:=q;exact ⟨n,d,e,h _ _ q⟩
theorem iT {as st Q} (q:aK as st Q):as.length=2:=by obtain ⟨n,d,rfl,_⟩:=q;rfl
noncomputable abbrev low (n d:Nat):PV:=.tup [.int (n/Nat.gcd n d:Nat),.int (d/Nat.gcd n d:Nat)]
noncomputable def cQ:FSp:=fun as st Q=>∃n d:Nat,as=[.int n,.int d]∧0<d∧d<2 ^ 8000∧Q (low n d) st
theorem oq {as st Q Q'} (h:∀v st,Q v st→Q' v st) (q:cQ as st Q):cQ as st Q':=by obtain ⟨n,d,e,h1,h2,q⟩:=q;exact ⟨n,d,e,h1,h2,h _ _ q⟩
theorem qo {as st Q} (q:cQ as st Q):as.length=2:=by obtain ⟨n,d,rfl,_⟩:=q;rfl
noncomputable abbrev fr (p:Nat × Nat):PV:=.tup [.int p.1,.int p.2]
noncomputable def bc (n d:Nat):Nat × Nat:=(n/Nat.gcd n d,d/Nat.gcd n d)
theorem kD (n d:Nat):low n d=fr (bc n d):=rfl
theorem t7 (n d:Nat):(bc n d).1*d=n*(bc n d).2:=tZ n d
theorem cY {n d:Nat} (h:0<d):0<(bc n d).2:=CB h
theorem nB {n d:Nat} (h:0<d):Nat.gcd (bc n d).1 (bc n d).2=1:=CA h
theorem gG (n d:Nat):(bc n d).1≤n:=Nat.div_le_self _ _
theorem gk (n d:Nat):(bc n d).2≤d:=Nat.div_le_self _ _
theorem xc {n d:Nat} (h:Nat.gcd n d=1):bc n d=(n,d):=by simp [bc,h]
theorem Dd {a b c d:Nat} (h1:Nat.gcd a b=1) (h2:Nat.gcd c d=1) (hb:0<b) (hd:0<d) (h:a*d=c*b):a=c∧b=d:=by
 have hbd:b ∣ d:=by
  have:b ∣ a*d:=⟨c,by rw [h,Nat.mul_comm]⟩
  exact Nat.Coprime.dvd_of_dvd_mul_left (show Nat.Coprime b a by unfold Nat.Coprime;rw [Nat.gcd_comm];exact h1) this
 have hdb:d ∣ b:=by
  have:d ∣ c*b:=⟨a,by rw [←h,Nat.mul_comm]⟩
  exact Nat.Coprime.dvd_of_dvd_mul_left (show Nat.Coprime d c by unfold Nat.Coprime;rw [Nat.gcd_comm];exact h2) this
 have e:b=d:=Nat.dvd_antisymm hbd hdb
 subst e
 exact ⟨Nat.eq_of_mul_eq_mul_right hb h,rfl⟩
noncomputable def Cp (p q:Nat × Nat):Nat × Nat:=bc (p.1*q.2-q.1*p.2) (p.2*q.2)
noncomputable def FZ (p q:Nat × Nat):Nat × Nat:=bc (p.1*q.1) (p.2*q.2)
structure Cop (p:Nat × Nat):Prop where
 pos:0<p.2
 one:Nat.gcd p.1 p.2=1
theorem Cop.low {n d:Nat} (h:0<d):Cop (bc n d):=⟨cY h,nB h⟩
theorem Cop.self {p:Nat × Nat} (h:Cop p):bc p.1 p.2=p:=xc h.one
theorem Cop.ext {p q:Nat × Nat} (h1:Cop p) (h2:Cop q) (h:p.1*q.2=q.1*p.2):p=q:=by
 obtain ⟨e1,e2⟩:=Dd h1.one h2.one h1.pos h2.pos h
 exact Prod.ext e1 e2
structure Sz (k:Nat) (p:Nat × Nat):Prop where
 a:p.1<2 ^ k
 b:p.2<2 ^ k
 pos:0<p.2
theorem Sz.mono {j k:Nat} {p:Nat × Nat} (h:Sz j p) (hk:j≤k):Sz k p:=⟨Nat.lt_of_lt_of_le h.a (Nat.pow_le_pow_right (by decide) hk),Nat.lt_of_lt_of_le h.b (Nat.pow_le_pow_right (by decide) hk),h.pos⟩
theorem a_ {a b j k:Nat} (h1:a<2 ^ j) (h2:b<2 ^ k):a*b<2 ^ (j+k):=by
 rw [Nat.pow_add]
 by_cases hb:b=0
 ·subst hb
  simp only [Nat.mul_zero]
  exact Nat.mul_pos (by omega) (by omega)
 ·exact Nat.lt_of_lt_of_le (Nat.mul_lt_mul_of_pos_right h1 (by omega)) (Nat.mul_le_mul_left _ (Nat.le_of_lt h2))
noncomputable def Ha (p q:Nat × Nat):Prop:=p.1*q.2<q.1*p.2
noncomputable instance (p q:Nat × Nat):Decidable (Ha p q):=inferInstanceAs (Decidable (_<_))
mutual
noncomputable def bC:Nat→PV→Bool
 | _,.int _=>true
 | _,.non=>true
 | 0,.tup _=>false
 | n+1,.tup xs=>gP n xs
 | _,.bl _=>false
 | _,.str _=>false
 | _,.ref _=>false
 | _,.rdl _=>false
 | _,.fn _=>false
noncomputable def gP:Nat→List PV→Bool
 | _,[]=>true
 | n,x::xs=>bC n x && gP n xs
end
mutual
theorem mP:∀ {n:Nat} {v:PV},bC n v=true→∃d,v.toD=some d∧d.canLay0=true∧d.depth≤n+1
 | n,.int i,_=>⟨.int i,by simp [PV.toD],by simp [PyData.canLay0],by simp [PyData.depth]⟩
 | n,.non,_=>⟨.none,by simp [PV.toD],by simp [PyData.canLay0],by simp [PyData.depth]⟩
 | 0,.tup xs,h=>by simp [bC] at h
 | n+1,.tup xs,h=>by
  rw [bC] at h
  obtain ⟨ds,e,h1,h2⟩:=ci h
  exact ⟨.tuple ds,by simp [PV.toD,e],by simp [PyData.canLay0,h1],by simp [PyData.depth];omega⟩
 | n,.bl _,h=>by cases n <;> simp [bC] at h
 | n,.str _,h=>by cases n <;> simp [bC] at h
 | n,.ref _,h=>by cases n <;> simp [bC] at h
 | n,.rdl _,h=>by cases n <;> simp [bC] at h
 | n,.fn _,h=>by cases n <;> simp [bC] at h
theorem ci:∀ {n:Nat} {vs:List PV},gP n vs=true→∃ds,PV.toDs vs=some ds∧PyData.canLayAll0 ds=true∧PyData.depthAll ds≤n+1
 | n,[],_=>⟨[],by simp [PV.toDs],by simp [PyData.canLayAll0],by simp [PyData.depthAll]⟩
 | n,x::xs,h=>by
  rw [gP,Bool.and_eq_true] at h
  obtain ⟨d,e1,h1,h2⟩:=mP h.1
  obtain ⟨ds,e2,h3,h4⟩:=ci h.2
  exact ⟨d::ds,by simp [PV.toDs,e1,e2],by simp [PyData.canLayAll0,h1,h3],by simp [PyData.depthAll];omega⟩
end
mutual
theorem xt:∀ {n:Nat} {v w:PV} {d e:PyData},bC n v=true→bC n w=true→v.toD=some d→w.toD=some e→PyData.eqv d e=v.same w
 | n,.int i,w,d,e,_,hw,hd,he=>by
  simp [PV.toD] at hd
  subst hd
  cases w with
  | int j=>simp [PV.toD] at he;subst he;simp [PyData.eqv,PV.same,Bool.beq_eq_decide_eq]
  | non=>simp [PV.toD] at he;subst he;simp [PyData.eqv,PV.same]
  | tup ys =>
   cases n with
   | zero=>simp [bC] at hw
   | succ n =>
    rw [bC] at hw
    obtain ⟨ds,e1,h1,h2⟩:=ci hw
    simp [PV.toD,e1] at he
    subst he
    simp [PyData.eqv,PV.same]
  | _=>cases n <;> simp [bC] at hw
 | n,.non,w,d,e,_,hw,hd,he=>by
  simp [PV.toD] at hd
  subst hd
  cases w with
  | int j=>simp [PV.toD] at he;subst he;simp [PyData.eqv,PV.same]
  | non=>simp [PV.toD] at he;subst he;simp [PyData.eqv,PV.same]
  | tup ys =>
   cases n with
   | zero=>simp [bC] at hw
   | succ n =>
    rw [bC] at hw
    obtain ⟨ds,e1,h1,h2⟩:=ci hw
    simp [PV.toD,e1] at he
    subst he
    simp [PyData.eqv,PV.same]
  | _=>cases n <;> simp [bC] at hw
 | 0,.tup xs,w,d,e,hv,_,_,_=>by simp [bC] at hv
 | n+1,.tup xs,w,d,e,hv,hw,hd,he=>by
  rw [bC] at hv
  obtain ⟨ds,e1,h1,h2⟩:=ci hv
  simp [PV.toD,e1] at hd
  subst hd
  cases w with
  | int j=>simp [PV.toD] at he;subst he;simp [PyData.eqv,PV.same]
  | non=>simp [PV.toD] at he;subst he;simp [PyData.eqv,PV.same]
  | tup ys =>
   rw [bC] at hw
   obtain ⟨es,e2,h3,h4⟩:=ci hw
   simp [PV.toD,e2] at he
   subst he
   simp only [PyData.eqv,PV.same]
   exact mC hv hw e1 e2
  | _=>simp [bC] at hw
 | n,.bl _,_,_,_,h,_,_,_=>by cases n <;> simp [bC] at h
 | n,.str _,_,_,_,h,_,_,_=>by cases n <;> simp [bC] at h
 | n,.ref _,_,_,_,h,_,_,_=>by cases n <;> simp [bC] at h
 | n,.rdl _,_,_,_,h,_,_,_=>by cases n <;> simp [bC] at h
 | n,.fn _,_,_,_,h,_,_,_=>by cases n <;> simp [bC] at h
theorem mC:∀ {n:Nat} {vs ws:List PV} {ds es:List PyData},gP n vs=true→gP n ws=true→PV.toDs vs=some ds→PV.toDs ws=some es→PyData.eqvAll ds es=PV.sames vs ws
 | n,[],ws,ds,es,_,hw,hd,he=>by
  simp [PV.toDs] at hd
  subst hd
  cases ws with
  | nil=>simp [PV.toDs] at he;subst he;simp [PyData.eqvAll,PV.sames]
  | cons y ys =>
   obtain ⟨zs,e1,h1,h2⟩:=ci hw
   rw [e1] at he
   cases he
   cases es with
   | nil =>
    rw [PV.toDs] at e1
    split at e1 <;> simp at e1
   | cons=>simp [PyData.eqvAll,PV.sames]
 | n,x::xs,ws,ds,es,hv,hw,hd,he=>by
  rw [gP,Bool.and_eq_true] at hv
  obtain ⟨d1,a1,b1,c1⟩:=mP hv.1
  obtain ⟨ds1,a2,b2,c2⟩:=ci hv.2
  simp [PV.toDs,a1,a2] at hd
  subst hd
  cases ws with
  | nil=>simp [PV.toDs] at he;subst he;simp [PyData.eqvAll,PV.sames]
  | cons y ys =>
   rw [gP,Bool.and_eq_true] at hw
   obtain ⟨d3,a3,b3,c3⟩:=mP hw.1
   obtain ⟨ds4,a4,b4,c4⟩:=ci hw.2
   simp [PV.toDs,a3,a4] at he
   subst he
   rw [PyData.eqvAll,PV.sames,xt hv.1 hw.1 a1 a3,mC hv.2 hw.2 a2 a4]
end
mutual
theorem sU:∀(v:PV),v.same v=true
 | .non=>by simp [PV.same]
 | .bl _=>by simp [PV.same]
 | .int _=>by simp [PV.same]
 | .str _=>by simp [PV.same]
 | .ref _=>by simp [PV.same]
 | .fn _=>by simp [PV.same]
 | .tup xs=>by rw [PV.same];exact fR xs
 | .rdl xs=>by rw [PV.same];exact fR xs
theorem fR:∀(vs:List PV),PV.sames vs vs=true
 | []=>by simp [PV.sames]
 | x::xs=>by rw [PV.sames,sU x,fR xs];rfl
end
noncomputable def aR:FSp:=fun as st Q=>∃p q,as=[fr p,fr q]∧Sz 3000 p∧Sz 3000 q∧Q (.bl (decide (p.1*q.2<q.1*p.2))) st
theorem iy {as st Q Q'} (h:∀v st,Q v st→Q' v st) (q:aR as st Q):aR as st Q':=by obtain ⟨a,b,e,h1,h2,q⟩:=q;exact ⟨a,b,e,h1,h2,h _ _ q⟩
theorem jE {as st Q} (q:aR as st Q):as.length=2:=by obtain ⟨n,d,rfl,_⟩:=q;rfl
theorem dA {j k:Nat} (h:j≤k):(2:Nat) ^ j≤2 ^ k:=Nat.pow_le_pow_right (by decide) h
theorem dh {a b:Nat} (h1:a<2 ^ 3000) (h2:b<2 ^ 3000):CMB (a:Int) (b:Int):=.inl ⟨Nat.lt_of_lt_of_le h1 (dA (by decide)),Nat.lt_of_lt_of_le h2 (dA (by decide))⟩
theorem pX {st:AH} {p q:Nat × Nat} {k:Bool→Prop} (h:k (decide (p=q))):eqW st (fr p) (fr q) k:=by
 refine AZ ?_
 have:(decide ((p.1:Int)=q.1) && decide ((p.2:Int)=q.2))=decide (p=q):=by
  rw [Bool.eq_iff_iff]
  simp only [Bool.and_eq_true,decide_eq_true_eq]
  constructor
  ·rintro ⟨h1,h2⟩;exact Prod.ext (by omega) (by omega)
  ·rintro rfl;exact ⟨rfl,rfl⟩
 rw [this]
 exact h
noncomputable def PK (q r:Int):Prop:=0≤q∧0≤r∧r<8589934592
noncomputable def Pot (st:AH) (p:Nat):Prop:=∃q r,st[p]?=some (pc q r)∧PK q r
theorem Pot.lt {st:AH} {p:Nat} (h:Pot st p):p<st.length:=by obtain ⟨q,r,e,_⟩:=h;exact ag e
theorem Pot.app {st g:AH} {p:Nat} (h:Pot st p):Pot (st++g) p:=by obtain ⟨q,r,e,z⟩:=h;exact ⟨q,r,bt e,z⟩
structure Gr (st:AH) (p:Nat) (st':AH):Prop where
 len:st.length≤st'.length
 old:∀i,i<st.length→i≠p→st'[i]?=st[i]?
 pot:Pot st' p
 was:p<st.length
theorem Gr.refl {st:AH} {p:Nat} (h:Pot st p):Gr st p st:=⟨Nat.le_refl _,fun _ _ _=>rfl,h,h.lt⟩
theorem Gr.trans {st s1 s2:AH} {p:Nat} (a:Gr st p s1) (b:Gr s1 p s2):Gr st p s2:=⟨Nat.le_trans a.len b.len,fun i h1 h2=>(b.old i (Nat.lt_of_lt_of_le h1 a.len) h2).trans (a.old i h1 h2),b.pot,a.was⟩
theorem Gr.app {st s1 g:AH} {p:Nat} (a:Gr st p s1):Gr st p (s1++g) :=
 ⟨by rw [List.length_append];exact Nat.le_trans a.len (Nat.le_add_right _ _),fun i h1 h2=>by rw [List.getElem?_append_left (Nat.lt_of_lt_of_le h1 a.len)];exact a.old i h1 h2,a.pot.app,a.was⟩
theorem Gr.set {st s1:AH} {p:Nat} (a:Gr st p s1) {q r:Int} (z:PK q r):Gr st p (s1.set p (pc q r)) :=
 ⟨by rw [List.length_set];exact a.len,fun i h1 h2=>by rw [List.getElem?_set_ne (Ne.symm h2)];exact a.old i h1 h2,⟨q,r,List.getElem?_set_self a.pot.lt,z⟩,a.was⟩
theorem Gr.setN {st s1:AH} {p n:Nat} {c:Cell} (a:Gr st p s1) (h:st.length≤n):Gr st p (s1.set n c):=by
 have hn:n≠p:=fun e=>by have:=a.was;omega
 refine ⟨by rw [List.length_set];exact a.len,fun i h1 h2=>by rw [List.getElem?_set_ne (by omega)];exact a.old i h1 h2,?_,a.was⟩
 obtain ⟨q,r,e,z⟩:=a.pot
 exact ⟨q,r,by rw [List.getElem?_set_ne hn];exact e,z⟩
theorem Gr.get {st s1:AH} {p n:Nat} {c:Cell} (a:Gr st p s1) (h:st[n]?=some c) (hn:n≠p):s1[n]?=some c:=(a.old n (ag h) hn).trans h
theorem Gr.tmp {st s1:AH} {p:Nat} {v:PV} {Q:EK} (a:Gr st p s1) (hv:v.bel st.length=true) (k:∀s2,Gr st p s2→s2.length=st.length→Q v s2):Tmp st Q v s1:=by
 have hl:(s1.take st.length).length=st.length:=by rw [List.length_take];exact Nat.min_eq_left a.len
 have hg:∀i,i<st.length→(s1.take st.length)[i]?=s1[i]?:=fun i hi=>by rw [List.getElem?_take_of_lt hi]
 obtain ⟨q,r,e,z⟩:=a.pot
 refine ⟨s1.take st.length,s1.drop st.length,(List.take_append_drop _ _).symm,hl,fun i hi=>?_,hv,k _ ⟨by omega,fun i h1 h2=>(hg i h1).trans (a.old i h1 h2),⟨q,r,(hg p a.was).trans e,z⟩,a.was⟩ hl⟩
 by_cases hp:i=p
 ·subst hp
  exact .inr ⟨pc q r,(hg i a.was).trans e,Fg⟩
 ·exact .inl ((hg i hi).trans (a.old i hi hp))
theorem AK {L:List PV} {P:PV→Prop} (h:∀v∈L,P v) {y:Int} (y0:0≤y) (y1:y<L.length):∃v,atI L y=some v∧P v:=by
 obtain ⟨m,rfl⟩:∃m:Nat,y=m:=⟨y.toNat,by omega⟩
 have hm:m<L.length:=by omega
 exact ⟨L[m],f' (List.getElem?_eq_getElem hm),h _ (List.getElem_mem hm)⟩
theorem Gr.ne {st s1:AH} {p:Nat} (a:Gr st p s1):s1.length≠p:=fun e=>by have:=a.pot.lt;omega
theorem ma {xs:List PV} {v:PV}:atI (xs++[v]) (-1)=some v:=by
 have e:(-1+((xs.length:Int)+1)).toNat=xs.length:=by omega
 simp only [atI,ixN,List.length_append,List.length_singleton]
 simp
 rw [if_pos (by omega),e]
 simp
theorem DD {L:List PV}:i4 L (some 1) none=L.drop 1:=by
 unfold i4
 have:=HT.sIx_nat L.length 0 1
 rw [show ((1:Nat):Int)=(1:Int) from rfl] at this
 rw [HT.sIx_none,this]
 cases L with
 | nil=>rfl
 | cons x xs =>
  have:min 1 (x::xs).length=1:=by simp only [List.length_cons];omega
  rw [this]
  exact List.take_of_length_le (by simp)
noncomputable def val (p:Nat × Nat):Rat:=(p.1:Rat)/(p.2:Rat)
theorem bO {d:Nat} (h:0<d):(0:Rat)<(d:Rat):=by
 have:((0:Nat):Rat)<(d:Rat):=Rat.natCast_lt_natCast.mpr h
 simpa using this
theorem aG {n d:Nat} (h:0<d):val (bc n d)=(n:Rat)/(d:Rat):=by
 have c:=t7 n d
 have p:=cY (n:=n) h
 unfold val
 generalize bc n d=z at *
 have e:(z.1:Rat)*d=n*z.2:=by
  have:=congrArg (fun k:Nat=>(k:Rat)) c
  simpa using this
 have p1:=bO p
 have p2:=bO h
 grind
theorem DU {p:Nat × Nat} (hp:0<p.2):0≤val p:=by
 unfold val
 rw [←Rat.not_lt,Rat.div_lt_iff (bO hp),Rat.zero_mul,Rat.not_lt]
 exact Rat.natCast_nonneg
theorem f_ {p q:Nat × Nat} (hp:0<p.2) (hq:0<q.2):p.1*q.2<q.1*p.2↔val p<val q:=by
 have p1:=bO hp
 have p2:=bO hq
 have e:(p.1*q.2<q.1*p.2)↔((p.1:Rat)*q.2<q.1*p.2):=by
  rw [←Rat.natCast_lt_natCast]
  simp
 rw [e]
 unfold val
 rw [Rat.div_lt_iff p1]
 have e2:(q.1:Rat)/q.2*p.2=q.1*p.2/q.2:=by grind
 rw [e2,Rat.lt_div_iff p2]
theorem iB {p q:Nat × Nat} (hp:0<p.2) (hq:0<q.2):p.1*q.2≤q.1*p.2↔val p≤val q:=by
 rw [←Nat.not_lt,←Rat.not_lt,f_ hq hp]
theorem lY {p q:Nat × Nat} (hp:Cop p) (hq:Cop q) (h:val p=val q):p=q:=by
 refine hp.ext hq ?_
 have a:=(iB hp.pos hq.pos).mpr (by rw [h];exact Rat.le_refl)
 have b:=(iB hq.pos hp.pos).mpr (by rw [h];exact Rat.le_refl)
 omega
theorem nv:val (0,1)=0:=by unfold val;grind
structure Pc where
 e:Nat × Nat
 l:Nat × Nat
 h:Nat × Nat
noncomputable abbrev Pc.E (p:Pc):Rat:=val p.e
noncomputable abbrev Pc.L (p:Pc):Rat:=val p.l
noncomputable abbrev Pc.H (p:Pc):Rat:=val p.h
noncomputable abbrev Pc.mg (a p:Pc):Pc:=⟨p.e,a.l,p.h⟩
noncomputable def gB (b:Nat × Nat) (a p:Pc):Bool:=decide (p.l=a.h) && decide (FZ (Cp a.h a.l) (Cp p.e a.e)=FZ (Cp p.h p.l) (Cp a.e b))
structure Pc.Ok (p:Pc):Prop where
 e:Cop p.e
 l:Cop p.l
 h:Cop p.h
noncomputable def Ch (b:Rat):List Pc→Prop
 | []=>True
 | p::r=>p.Ok∧b<p.E∧p.L≤p.H∧Ch p.E r
noncomputable def Sl (b:Rat) (p:Pc) (s:Rat):Prop:=p.H-p.L=s*(p.E-b)
theorem Sl.ex {b:Rat} {p:Pc} (h:b<p.E):∃s,Sl b p s:=⟨(p.H-p.L)/(p.E-b),by unfold Sl;grind⟩
noncomputable def NG:Nat × Nat→List Pc→Prop
 | _,[]=>True
 | _,[_]=>True
 | b,a::p::r=>gB b a p=false∧NG a.e (p::r)
inductive zL:Nat × Nat→List Pc→List Pc→Prop
 | nil {b}:zL b [] []
 | keep {b p r' r}:zL p.e r' r→zL b (p::r') (p::r)
 | cut {b p m c s r' r}:Cop m→Cop c→val b<val m→val m<p.E→p.L≤val c→val c≤p.H→Sl (val b) p s→val c-p.L=s*(val m-val b)→p.H-val c=s*(p.E-val m)→zL p.e r' r→zL b (⟨m,p.l,c⟩::⟨p.e,c,p.h⟩::r') (p::r)
noncomputable def cm (b:Rat):List Pc→Rat→Option Rat
 | [],_=>none
 | p::r,t=>if t≤p.E then some (if b=p.E then p.L else p.L+(p.H-p.L)*((t-b)/(p.E-b))) else cm p.E r t
noncomputable def Rt (b hh:Rat):List Pc→Prop
 | []=>True
 | p::r=>p.Ok∧b<p.E∧hh≤p.L∧p.L≤p.H∧p.E≤p.H∧Rt p.E p.H r
theorem Rt.ch:∀ {r:List Pc} {b hh:Rat},Rt b hh r→Ch b r
 | [],_,_,_=>trivial
 | p::r,b,hh,⟨h1,h2,h3,h4,h5,h6⟩=>⟨h1,h2,h4,h6.ch⟩
noncomputable def RtF:List Pc→Prop
 | []=>True
 | p::r=>p.Ok∧p.L≤p.H∧p.E≤p.H∧(0=p.E→p.L=p.H)∧Rt p.E p.H r
theorem F7:Cop (0,1):=⟨by decide,by decide⟩
theorem xZ {as st Q Q'} (h:∀v st,Q v st→Q' v st) (q:ir as st Q):ir as st Q':=by obtain ⟨n,e,h1,q⟩:=q;exact ⟨n,e,h1,fun z=>h _ _ (q z)⟩
theorem Cn {as st Q} (q:ir as st Q):as.length=1:=by obtain ⟨n,rfl,_⟩:=q;rfl
structure Pc.Sz (k:Nat) (p:Pc):Prop where
 e:My.Sz k p.e
 l:My.Sz k p.l
 h:My.Sz k p.h
noncomputable def SzL (k:Nat) (L:List Pc):Prop:=∀p∈L,p.Sz k
theorem Pc.Sz.mono {j k:Nat} {p:Pc} (h:p.Sz j) (hk:j≤k):p.Sz k:=⟨h.e.mono hk,h.l.mono hk,h.h.mono hk⟩
theorem SzL.mono {j k:Nat} {L:List Pc} (h:SzL j L) (hk:j≤k):SzL k L:=fun p hp=>(h p hp).mono hk
noncomputable abbrev Un3:=Nat × Nat × Nat
noncomputable def RU (b hh:Nat):List Un3→Prop
 | []=>True
 | u::r=>b<u.1∧hh≤u.2.1∧u.2.1≤u.2.2∧u.1≤u.2.2∧RU u.1 u.2.2 r
noncomputable def RUF:List Un3→Prop
 | []=>True
 | u::r=>u.2.1≤u.2.2∧u.1≤u.2.2∧(u.1=0→u.2.1=u.2.2)∧RU u.1 u.2.2 r
noncomputable def BdU (N:Nat) (U:List Un3):Prop:=∀u∈U,u.1≤N∧u.2.1≤N∧u.2.2≤N
structure App (U:List Un3) (u:Un3):Prop where
 fst:U=[]→u.2.1≤u.2.2∧u.1≤u.2.2∧(u.1=0→u.2.1=u.2.2)
 nxt:∀v,U.getLast?=some v→v.1<u.1∧v.2.2≤u.2.1∧u.2.1≤u.2.2∧u.1≤u.2.2
noncomputable abbrev Et (d:Nat) (u:Un3):Pc:=⟨bc u.1 d,bc u.2.1 d,bc u.2.2 d⟩
noncomputable abbrev Mo (s:FSp):Prop:=∀ {as:List PV} {st:AH} {Q Q':EK},(∀v st,Q v st→Q' v st)→s as st Q→s as st Q'
noncomputable abbrev Ln (s:FSp) (n:Nat):Prop:=∀ {as:List PV} {st:AH} {Q:EK},s as st Q→as.length=n
local macro_rules | `(tactic| walk_at "MO")=>`(tactic| (intro as st Q Q' h q;repeat (first|exact h _ _ q|(obtain ⟨a,q⟩:=q;first|refine Exists.intro a ?_|refine And.intro a ?_)|(intro a;replace q:=q a))))
local macro_rules | `(tactic| walk_at "LN")=>`(tactic| (intro as st Q q;repeat (obtain ⟨a,q⟩:=q;try exact congrArg List.length a)))
noncomputable def tp:Option (Nat × Nat)→PV
 | none=>.non
 | some p=>fr p
noncomputable def stB (L:List Pc):Bool:=@decide (NG (0,1) L) (Classical.propDecidable _)
noncomputable def dv:FSp:=fun as st Q=>∃p q:Nat × Nat,as=[fr p,fr q]∧Sz 3000 p∧Sz 3000 q∧Q (.int ((p.1:Int)*q.2-q.1*p.2)) st
theorem mJ:Mo dv:=by walk_at "MO"
theorem oy:Ln dv 2:=by walk_at "LN"
noncomputable def bV:FSp:=fun as st Q=>∃(a b c d m:Nat) (nx ny fx fy x:Nat × Nat),as=[.tup [fr nx,fr ny],.tup [fr fx,fr fy],fr x]∧a+b+c+d+m+2≤2900∧(Sz a nx∧Sz b ny∧Sz c fx∧Sz d fy∧Sz m x)∧(val nx<val fx∧val nx≤val x∧val x≤val fx)∧∀r,Cop r→Sz (a+b+c+d+m+2) r→val r=val ny+(val fy-val ny)*((val x-val nx)/(val fx-val nx))→Q (fr r) st
theorem ky:Mo bV:=by walk_at "MO"
theorem lN:Ln bV 3:=by walk_at "LN"
structure Rr where
 F:Rat
 L:Rat
 C:Rat
 D:Rat
structure Rr.Ok (r:Rr):Prop where
 fl:r.F≤r.L
 fc:r.F≤r.C
 ld:r.L≤r.D
 eq:r.F=r.L→r.C=r.D
noncomputable def Rr.has (r:Rr) (t:Rat):Prop:=r.F≤t∧t≤r.L
noncomputable def Rr.to (r:Rr) (t:Rat):Rat:=if r.F=r.L then r.C else r.C+(r.D-r.C)*((t-r.F)/(r.L-r.F))
structure Rq where
 f:Nat × Nat
 l:Nat × Nat
 c:Nat × Nat
 d:Nat × Nat
noncomputable abbrev rqV (q:Rq):PV:=.tup [fr q.f,fr q.l,fr q.c,fr q.d]
noncomputable abbrev Rq.r (q:Rq):Rr:=⟨val q.f,val q.l,val q.c,val q.d⟩
structure jZ (j:Nat) (q:Rq):Prop where
 cf:Cop q.f
 cl:Cop q.l
 cc:Cop q.c
 cd:Cop q.d
 zf:Sz j q.f
 zl:Sz j q.l
 zc:Sz j q.c
 zd:Sz j q.d
 ok:q.r.Ok
noncomputable def IsOff (X:List Rr) (t:Rat):Option Rat→Prop
 | none=>∀r∈X,¬r.has t
 | some y=>(∃r∈X,r.has t∧r.to t=y)∧∀r∈X,r.has t→y≤r.to t
noncomputable def IsOut (X:List Rr) (t:Rat):Option (Rat × Rat)→Prop
 | none=>∀r∈X,r.L<t
 | some p=>t≤p.1∧(∃r∈X,r.has p.1∧r.to p.1=p.2)∧∀r∈X,∀v,t≤v→r.has v→p.2≤r.to v∧(r.to v=p.2→p.1≤v)
noncomputable abbrev Fr2:=(Nat × Nat) × (Nat × Nat)
noncomputable abbrev f2V (p:Fr2):PV:=.tup [fr p.1,fr p.2]
noncomputable def o2V:Option Fr2→PV
 | none=>.non
 | some p=>f2V p
noncomputable abbrev v2 (p:Fr2):Rat × Rat:=(val p.1,val p.2)
noncomputable def cH:FSp:=fun as st Q=>∃(k:Nat) (q:Rq) (t:Nat × Nat),as=[rqV q,fr t]∧k≤2900∧jZ k q∧Sz k t∧∀b:Bool,(b=true↔q.r.has (val t))→Q (.bl b) st
theorem lH:Mo cH:=by walk_at "MO"
theorem mG:Ln cH 2:=by walk_at "LN"
noncomputable def eU:FSp:=fun as st Q=>∃(j m:Nat) (q:Rq) (t:Nat × Nat),as=[rqV q,fr t]∧(1≤j∧m+4*j+2≤2900)∧jZ j q∧Sz m t∧q.r.has (val t)∧∀p,Cop p→Sz (m+4*j+2) p→val p=q.r.to (val t)→Q (fr p) st
theorem qu:Mo eU:=by walk_at "MO"
theorem rD:Ln eU 2:=by walk_at "LN"
noncomputable def gD:FSp:=fun as st Q=>∃(j m:Nat) (X:List Rq) (t:Nat × Nat),as=[.tup (X.map rqV),fr t]∧(1≤j∧m+4*j+2≤2900)∧(∀q∈X,jZ j q)∧Sz m t∧∀o:Option (Nat × Nat),(∀p,o=some p→Cop p∧Sz (m+4*j+2) p)→IsOff (X.map Rq.r) (val t) (o.map val)→Q (tp o) st
theorem va:Mo gD:=by walk_at "MO"
theorem xk:Ln gD 2:=by walk_at "LN"
noncomputable def gH:FSp:=fun as st Q=>∃(k:Nat) (q:Rq),as=[rqV q]∧k≤2900∧jZ k q∧∀b:Bool,(b=true↔q.r.D<q.r.C)→Q (.bl b) st
theorem vM:Mo gH:=by walk_at "MO"
theorem wN:Ln gH 1:=by walk_at "LN"
noncomputable def db:FSp:=fun as st Q=>∃(j m:Nat) (q:Rq) (t:Nat × Nat),as=[rqV q,fr t]∧(1≤j∧m+5*j+2≤2900)∧jZ j q∧Cop t∧Sz m t∧val t≤q.r.L∧∀p:Fr2,Cop p.1→Cop p.2→Sz (m+5*j+2) p.1→Sz (m+5*j+2) p.2→IsOut [q.r] (val t) (some (v2 p))→Q (f2V p) st
theorem mQ:Mo db:=by walk_at "MO"
theorem oo:Ln db 2:=by walk_at "LN"
noncomputable def dq:FSp:=fun as st Q=>∃(k:Nat) (p q:Fr2),as=[f2V p,f2V q]∧k≤2900∧(Cop p.1∧Cop p.2∧Cop q.1∧Cop q.2)∧(Sz k p.1∧Sz k p.2∧Sz k q.1∧Sz k q.2)∧∀b:Bool,(b=true↔(val p.2=val q.2∧val p.1<val q.1)∨val p.2<val q.2)→Q (.bl b) st
theorem mK:Mo dq:=by walk_at "MO"
theorem nX:Ln dq 2:=by walk_at "LN"
noncomputable def eT:FSp:=fun as st Q=>∃(j m:Nat) (X:List Rq) (w:Bool) (t:Nat × Nat),as=[.tup (X.map rqV),.bl w,fr t]∧(1≤j∧m+5*j+2≤2900)∧(∀q∈X,jZ j q)∧Cop t∧Sz m t∧∀o:Option Fr2,(∀p,o=some p→(Cop p.1∧Cop p.2)∧Sz (m+5*j+2) p.1∧Sz (m+5*j+2) p.2)→(w=true→IsOut (X.map Rq.r) (val t) (o.map v2))→(w=false→IsOff (X.map Rq.r) (val t) (o.map fun p=>val p.2)∧∀p,o=some p→p.1=t)→Q (o2V o) st
theorem qX:Mo eT:=by walk_at "MO"
theorem rQ:Ln eT 3:=by walk_at "LN"
structure Nm (z:Str):Prop where
 len:z.length≤8
 ok:z.cps.all (·< 1114112)=true
structure Gn (st:AH) (p t:Nat) (st':AH):Prop where
 len:st.length≤st'.length
 old:∀i,i<st.length→i≠p→i≠t→st'[i]?=st[i]?
 pot:Pot st' p
theorem Gn.of {st s1:AH} {p t:Nat} (a:Gr st p s1):Gn st p t s1:=⟨a.len,fun i h1 h2 _=>a.old i h1 h2,a.pot⟩
theorem Gn.trans {st s1 s2:AH} {p t:Nat} (a:Gn st p t s1) (b:Gn s1 p t s2):Gn st p t s2:=⟨Nat.le_trans a.len b.len,fun i h1 h2 h3=>(b.old i (Nat.lt_of_lt_of_le h1 a.len) h2 h3).trans (a.old i h1 h2 h3),b.pot⟩
theorem Gn.get {st s1:AH} {p t n:Nat} {c:Cell} (a:Gn st p t s1) (h:st[n]?=some c) (hn:n≠p) (ht:n≠t):s1[n]?=some c:=(a.old n (ag h) hn ht).trans h
theorem Gn.gr {st s1 s2:AH} {p t:Nat} (a:Gr st p s1) (ht:st.length≤t) (b:Gn s1 p t s2):Gr st p s2:=⟨Nat.le_trans a.len b.len,fun i h1 h2=>(b.old i (Nat.lt_of_lt_of_le h1 a.len) h2 (by omega)).trans (a.old i h1 h2),b.pot,a.was⟩
noncomputable abbrev kd (ps:List (Str × PV)):List (Key × PV):=ps.map fun p=>(Sum.inr p.1,p.2)
noncomputable abbrev sV (ns:List Str):List PV:=ns.map PV.str
noncomputable def dY:FSp:=fun as st Q=>∃(ns:List Int) (k:Nat),as=[.rdl (ns.map .int),.int k]∧ns.length≤63∧k<9∧∀p s,Pot s p→Q (.ref p) s
theorem ox:Mo dY:=by walk_at "MO"
theorem qJ:Ln dY 2:=by walk_at "LN"
noncomputable def cG:FSp:=fun as st Q=>∃(p:Nat) (many:Int),as=[.ref p,.int many]∧Pot st p∧0<many∧many<2 ^ 200∧∀x st',0≤x→x<many→Gr st p st'→Q (.int x) st'
theorem lG:Mo cG:=by walk_at "MO"
theorem mj:Ln cG 2:=by walk_at "LN"
noncomputable def d4:FSp:=fun as st Q=>∃n d:Nat,as=[.int n,.int d]∧0<d∧d<2 ^ 8000∧Q (low n d) st
theorem oG:Mo d4:=by walk_at "MO"
theorem qt:Ln d4 2:=by walk_at "LN"
noncomputable def dm:FSp:=fun as st Q=>∃(p t:Nat) (names:List Str),as=[.ref p,.ref t]∧Pot st p∧t≠p∧st[t]?=some (.lst (sV names))∧names.length<20∧(∀z∈names,Nm z)∧∀z st',Nm z→Gn st p t st'→st'[t]?=some (.lst (sV (names++[z])))→Q (.str z) st'
theorem mL:Mo dm:=by walk_at "MO"
theorem oD:Ln dm 2:=by walk_at "LN"
structure Rd where
 f:Nat
 l:Nat
 c:Nat
 d:Nat
noncomputable abbrev Rd.r (r:Rd):Rr:=⟨r.f,r.l,r.c,r.d⟩
noncomputable abbrev Rd.q (e:Nat) (r:Rd):Rq:=⟨bc r.f e,bc r.l e,bc r.c e,bc r.d e⟩
structure RideN (f l c d:Nat):Prop where
 fl:f≤l
 fc:f≤c
 ld:l≤d
 eq:f=l→c=d
 big:d<10 ^ 13
 bigc:c<10 ^ 13
 bigl:l<10 ^ 13
noncomputable abbrev Gm (r:Rd):Prop:=RideN r.f r.l r.c r.d
structure Ti where
 a:Str
 b:Str
 X:List Rq
noncomputable abbrev Ti.v (t:Ti):PV:=.tup [.str t.a,.str t.b,.tup (t.X.map rqV)]
noncomputable abbrev td (T:List (Str × Ti)):List (Str × PV):=T.map fun p=>(p.1,p.2.v)
structure NetT (T:List (Str × Ti)):Prop where
 nd:(T.map (·.1)).Nodup
 ln:T.length≤20
 nm:∀p∈T,Nm p.1∧Nm p.2.a∧Nm p.2.b
 rq:∀p∈T,∀q∈p.2.X,jZ 50 q
noncomputable def DkAt (st:AH) (d:Nat) (ps:List (Str × PV)):Prop:=st[d]?=some (.dk (kd ps))∨st[d]?=some (.fz (kd ps))
noncomputable def IsC (w:Bool) (X:List Rr) (t:Rat) (o:Option Rat):Prop:=(w=true→∃q,IsOut X t q∧o=q.map (·.2))∧(w=false→IsOff X t o)
theorem IsC.uniq {w:Bool} {X:List Rr} {t:Rat} {o o':Option Rat} (h:IsC w X t o) (h':IsC w X t o') (u1:∀q q',IsOut X t q→IsOut X t q'→q=q') (u2:∀q q',IsOff X t q→IsOff X t q'→q=q'):o=o':=by
 cases w with
 | true =>
  obtain ⟨q,h1,rfl⟩:=h.1 rfl
  obtain ⟨q',h2,rfl⟩:=h'.1 rfl
  rw [u1 q q' h1 h2]
 | false=>exact u2 o o' (h.2 rfl) (h'.2 rfl)
noncomputable abbrev wt (ws:List Str) (t:Ti):Bool:=ws.any fun j=>j == t.a
noncomputable abbrev Pm:=Str→Option Rat
noncomputable def qC (T:List (Str × Ti)) (ws:List Str) (f:Pm) (z:Str) (y:Rat):Prop:=f z=some y∨∃p∈T,p.2.b=z∧∃t,f p.2.a=some t∧IsC (wt ws p.2) (p.2.X.map Rq.r) t (some y)
noncomputable def Step (T:List (Str × Ti)) (ws:List Str) (f g:Pm):Prop:=∀z,(∀y,qC T ws f z y→∃y',g z=some y'∧y'≤y)∧∀y',g z=some y'→qC T ws f z y'
theorem Step.uniq {T:List (Str × Ti)} {ws:List Str} {f g g':Pm} (h:Step T ws f g) (h':Step T ws f g'):g=g':=by
 funext z
 obtain ⟨a1,a2⟩:=h z
 obtain ⟨b1,b2⟩:=h' z
 cases e:g z with
 | none =>
  cases e':g' z with
  | none=>rfl
  | some y=>obtain ⟨y',q,_⟩:=a1 y (b2 y e');rw [e] at q;cases q
 | some y =>
  obtain ⟨y',q,l1⟩:=b1 y (a2 y e)
  obtain ⟨y2,q2,l2⟩:=a1 y' (b2 y' q)
  rw [e] at q2
  cases q2
  rw [q]
  congr 1
  grind
noncomputable def Lay (T:List (Str × Ti)) (ws:List Str) (f0:Pm):Nat→Pm→Prop
 | 0,f=>f=f0
 | k+1,f=>∃g,Lay T ws f0 k g∧Step T ws g f
theorem Lay.uniq {T:List (Str × Ti)} {ws:List Str} {f0:Pm}:∀ {k:Nat} {f g:Pm},Lay T ws f0 k f→Lay T ws f0 k g→f=g
 | 0,_,_,h,h'=>h.trans h'.symm
 | k+1,_,_,⟨g,h1,h2⟩,⟨g',h3,h4⟩=>by
  cases Lay.uniq h1 h3
  exact h2.uniq h4
noncomputable abbrev Mom:=List (Str × Nat × Nat)
noncomputable def Mv (F:Mom):Pm:=fun z=>(F.find? fun p=>decide (p.1=z)).map fun p=>val p.2
noncomputable abbrev fd (F:Mom):List (Str × PV):=F.map fun p=>(p.1,fr p.2)
structure Fok (m:Nat) (F:Mom):Prop where
 nd:(F.map (·.1)).Nodup
 ok:∀p∈F,Nm p.1∧Cop p.2∧Sz m p.2
noncomputable abbrev Wom:=List (Str × (Nat × Nat) × List Str)
noncomputable abbrev Wom.mo (F:Wom):Mom:=F.map fun p=>(p.1,p.2.1)
noncomputable abbrev gd (F:Wom):List (Str × PV):=F.map fun p=>(p.1,.tup [fr p.2.1,.tup (sV p.2.2)])
noncomputable def f0 (s:Str) (t:Nat × Nat):Pm:=fun z=>if z=s then some (val t) else none
noncomputable def Keys (T:List (Str × Ti)) (s:Str) (F:Mom):Prop:=∀p∈F,p.1=s∨∃q∈T,q.2.b=p.1
noncomputable def Pre (st s:AH):Prop:=∃g,s=st++g
noncomputable abbrev eC (e:PV) (ws:List Str) (d:Nat):PV:=.tup [e,.tup (sV ws),.ref d]
noncomputable abbrev dR:=aR
theorem iR {as st Q Q'} (h:∀v st,Q v st→Q' v st) (q:aR as st Q):aR as st Q':=iy h q
theorem jb {as st Q} (q:aR as st Q):as.length=2:=jE q
noncomputable def bq:FSp:=fun as st Q=>∃(m:Nat) (e:PV) (ws:List Str) (d:Nat) (T:List (Str × Ti)) (p:Str × Ti) (t:Nat × Nat),as=[eC e ws d,.str p.1,fr t]∧DkAt st d (td T)∧NetT T∧p∈T∧Cop t∧Sz m t∧m≤2600∧∀o:Option Fr2,(∀q,o=some q→Cop q.2∧Sz (m+252) q.2)→IsC (wt ws p.2) (p.2.X.map Rq.r) (val t) (o.map fun q=>val q.2)→Q (o2V o) st
theorem ik:Mo bq:=by walk_at "MO"
theorem iF:Ln bq 3:=by walk_at "LN"
noncomputable abbrev cfV (x:Str × (Nat × Nat) × Str):PV:=.tup [.str x.1,fr x.2.1,.str x.2.2]
structure GY (T:List (Str × Ti)) (ws:List Str) (m:Nat) (pl:Str) (t:Rat) (L:List (Str × (Nat × Nat) × Str)):Prop where
 src:∀x∈L,Cop x.2.1∧Sz m x.2.1∧Nm x.1∧Nm x.2.2∧∃p∈T,p.2.a=pl∧p.2.b=x.1∧IsC (wt ws p.2) (p.2.X.map Rq.r) t (some (val x.2.1))
 all:∀p∈T,p.2.a=pl→∀y,IsC (wt ws p.2) (p.2.X.map Rq.r) t (some y)→∃x∈L,x.1=p.2.b∧val x.2.1=y
 ln:L.length≤30
noncomputable def bH:FSp:=fun as st Q=>∃(m:Nat) (e:PV) (ws:List Str) (d:Nat) (T:List (Str × Ti)) (pl:Str) (t:Nat × Nat),as=[eC e ws d,.str pl,fr t]∧DkAt st d (td T)∧NetT T∧Cop t∧Sz m t∧m≤2600∧∀n L s,Pre st s→s[n]?=some (.lst (L.map cfV))→GY T ws (m+252) pl (val t) L→Q (.ref n) s
theorem je:Mo bH:=by walk_at "MO"
theorem j_:Ln bH 3:=by walk_at "LN"
noncomputable def bG:FSp:=fun as st Q=>∃(m k:Nat) (e:PV) (ws:List Str) (d:Nat) (T:List (Str × Ti)) (sr:Str) (c:Nat) (F:Wom),as=[eC e ws d,.ref c]∧DkAt st d (td T)∧NetT T∧st[c]?=some (.dk (kd (gd F)))∧Fok m F.mo∧Keys T sr F.mo∧(∀p∈F,p.2.2.length≤k)∧k≤1000∧m≤2600∧∀n (G:Wom) s,Pre st s→st.length≤n→s[n]?=some (.dk (kd (gd G)))→Fok (m+252) G.mo→Keys T sr G.mo→(∀p∈G,p.2.2.length≤k+1)→Step T ws (Mv F.mo) (Mv G.mo)→Q (.ref n) s
theorem jC:Mo bG:=by walk_at "MO"
theorem kq:Ln bG 2:=by walk_at "LN"
structure LyOk (T:List (Str × Ti)) (ws:List Str) (sr:Str) (t:Nat × Nat) (b:Nat) (s:AH) (ns:List Nat):Prop where
 up:ns.Pairwise (·< ·)
 ge:∀n∈ns,b≤n
 at_:∀i n,ns[i]?=some n→∃F,s[n]?=some (.dk (kd (fd F)))∧Fok 2800 F∧Keys T sr F∧Lay T ws (f0 sr t) i (Mv F)
noncomputable abbrev rfs (ns:List Nat):List PV:=ns.map PV.ref
noncomputable def fM:FSp:=fun as st Q=>∃(e:PV) (ws:List Str) (d:Nat) (T:List (Str × Ti)) (sr:Str) (t:Nat × Nat) (most:Nat),as=[eC e ws d,.str sr,fr t,.int most]∧st[d]?=some (.dk (kd (td T)))∧NetT T∧Nm sr∧Cop t∧Sz 50 t∧most≤7∧∀ns s,Pre st s→ns.length=most+1→LyOk T ws sr t st.length s ns→Q (.tup (rfs ns)) s
theorem se:Mo fM:=by walk_at "MO"
theorem t0:Ln fM 4:=by walk_at "LN"
noncomputable def bY:FSp:=fun as st Q=>∃(e:PV) (ws:List Str) (d:Nat) (T:List (Str × Ti)) (sr:Str) (t:Nat × Nat) (most:Nat),as=[eC e ws d,.str sr,fr t,.int most]∧st[d]?=some (.dk (kd (td T)))∧NetT T∧(∀q∈T,q.2.X.length≤100)∧Nm sr∧Cop t∧Sz 50 t∧most≤7∧∀c ns s,Pre st s→st.length≤c→s[c]?=some (.lst (rfs ns))→ns.length=most+1→LyOk T ws sr t st.length s ns→Q (.ref c) s
theorem jT:Mo bY:=by walk_at "MO"
theorem lK:Ln bY 4:=by walk_at "LN"
noncomputable def eM:FSp:=fun as st Q=>∃(m:Nat) (q:Rq) (t:Nat × Nat),as=[rqV q,fr t]∧jZ 50 q∧Cop t∧Sz m t∧m≤2600∧q.r.has (val t)∧∀p,Cop p→Sz (m+252) p→val p=q.r.to (val t)→Q (fr p) st
theorem pG:Mo eM:=by walk_at "MO"
theorem rO:Ln eM 2:=by walk_at "LN"
noncomputable def Cm (w:Bool) (r:Rr) (t y:Rat):Prop:=(w=false∧r.has t∧y=r.to t)∨(w=true∧t≤r.L∧(y=r.to (if t<r.F then r.F else t)∨y=r.D))
noncomputable def bI:FSp:=fun as st Q=>∃(m:Nat) (q:Rq) (w:Bool) (t:Nat × Nat),as=[rqV q,.bl w,fr t]∧jZ 50 q∧Cop t∧Sz m t∧50≤m∧m≤2600∧∀n (L:List (Nat × Nat)) s,Pre st s→st.length≤n→s[n]?=some (.lst (L.map fr))→L.length≤2→(∀p∈L,Cop p∧Sz (m+252) p)→(∀y,(∃p∈L,val p=y)↔Cm w q.r (val t) y)→Q (.ref n) s
theorem jy:Mo bI:=by walk_at "MO"
theorem j9:Ln bI 3:=by walk_at "LN"
noncomputable def cK:FSp:=fun as st Q=>∃(n:Nat) (L:List (Nat × Nat)),as=[.ref n]∧st[n]?=some (.lst (L.map fr))∧(∀p∈L,Cop p∧Sz 2900 p)∧∀o:Option (Nat × Nat),(o=none→L=[])→(∀p,o=some p→p∈L∧∀q∈L,val p≤val q)→Q (tp o) st
theorem lQ:Mo cK:=by walk_at "MO"
theorem mW:Ln cK 1:=by walk_at "LN"
noncomputable def bX:FSp:=fun as st Q=>∃(m:Nat) (e:PV) (ws:List Str) (d:Nat) (T:List (Str × Ti)) (p:Str × Ti) (t:Nat × Nat),as=[eC e ws d,.str p.1,fr t]∧DkAt st d (td T)∧NetT T∧p∈T∧p.2.X.length≤100∧Cop t∧Sz m t∧50≤m∧m≤2600∧∀(o:Option (Nat × Nat)) s,Pre st s→(∀q,o=some q→Cop q∧Sz (m+252) q)→IsC (wt ws p.2) (p.2.X.map Rq.r) (val t) (o.map val)→Q (tp o) s
theorem jW:Mo bX:=by walk_at "MO"
theorem lL:Ln bX 3:=by walk_at "LN"
noncomputable def bT:FSp:=fun as st Q=>∃(p:Nat) (far bot:Int),as=[.ref p,.int far,.int bot]∧Pot st p∧0<far∧far≤10 ^ 10∧0<bot∧bot≤10 ^ 6∧∀t st',Cop t→Sz 50 t→Gr st p st'→Q (fr t) st'
theorem jR:Mo bT:=by walk_at "MO"
theorem lP:Ln bT 3:=by walk_at "LN"
noncomputable def bi:FSp:=fun as st Q=>∃t,as=[fr t]∧Cop t∧Sz 2900 t∧Q (.bl true) st
theorem ic:Mo bi:=by walk_at "MO"
theorem iO:Ln bi 1:=by walk_at "LN"
noncomputable def bj:FSp:=fun as st Q=>∃(T:List (Str × Ti)) (ws:List Str) (sr:Str) (t:Nat × Nat) (b c:Nat) (ns ms:List Nat),as=[.tup (rfs ns),.ref c]∧st[c]?=some (.lst (rfs ms))∧ns.length=ms.length∧NetT T∧LyOk T ws sr t b st ns∧LyOk T ws sr t b st ms∧ns.length≤10∧Q (.bl true) st
theorem io:Mo bj:=by walk_at "MO"
theorem i5:Ln bj 2:=by walk_at "LN"
noncomputable def RNb (B:Nat) (v:PV):Prop:=∃f l c d:Nat,v=.tup [.int f,.int l,.int c,.int d]∧RideN f l c d∧c≤B∧d≤B
noncomputable def bp:FSp:=fun as st Q=>∃(p:Nat) (far:Int),as=[.ref p,.int far]∧Pot st p∧0<far∧far≤10 ^ 8∧∀v st',RNb (10 ^ 11) v→Gr st p st'→Q v st'
theorem ij:Mo bp:=by walk_at "MO"
theorem iJ:Ln bp 2:=by walk_at "LN"
noncomputable def bh:FSp:=fun as st Q=>∃(p:Nat) (far many:Int),as=[.ref p,.int far,.int many]∧Pot st p∧0<far∧far≤10 ^ 8∧0≤many∧many≤3∧∀n L st',Gr st p st'→st.length≤n→st'[n]?=some (.lst L)→(∀v∈L,RNb (10 ^ 11) v)→L.length≤10→Q (.ref n) st'
theorem ig:Mo bh:=by walk_at "MO"
theorem iU:Ln bh 3:=by walk_at "LN"
noncomputable def cI:FSp:=fun as st Q=>∃(p:Nat) (w:Bool) (far:Int),as=[.ref p,.bl w,.int far]∧Pot st p∧0<far∧far≤10 ^ 8∧∀n L st',Gr st p st'→st.length≤n→st'[n]?=some (.lst L)→(∀v∈L,RNb (10 ^ 11) v)→L.length≤10→Q (.ref n) st'
theorem lA:Mo cI:=by walk_at "MO"
theorem mT:Ln cI 3:=by walk_at "LN"
noncomputable def d5:FSp:=fun as st Q=>∃p:Nat,as=[.ref p]∧Pot st p∧∀st' e ws d T pl names far bot,Gr st p st'→st.length≤d→st.length≤pl→st'[d]?=some (.dk (kd (td T)))→NetT T→(∀q∈T,q.2.X.length≤100)→st'[pl]?=some (.lst (sV names))→0<names.length→names.length≤9→(∀z∈names,Nm z)→0<far→far≤10 ^ 10→0<bot→bot≤10 ^ 6→Q (.tup [eC e ws d,.ref pl,.int far,.int bot]) st'
theorem on:Mo d5:=by walk_at "MO"
theorem qS:Ln d5 1:=by walk_at "LN"
noncomputable def Γ:Nat→FSp
 | 0=>aK
 | 1=>cQ
 | 2=>aR
 | 3=>dv
 | 4=>bV
 | 5=>cH
 | 6=>eU
 | 7=>gD
 | 8=>gH
 | 9=>db
 | 10=>dq
 | 11=>eT
 | 12=>bq
 | 13=>bH
 | 14=>bG
 | 15=>fM
 | 16=>dY
 | 17=>cG
 | 18=>d4
 | 19=>dR
 | 20=>dm
 | 21=>bp
 | 22=>bh
 | 23=>cI
 | 24=>d5
 | 25=>bT
 | 26=>eM
 | 27=>bI
 | 28=>cK
 | 29=>bX
 | 30=>bY
 | 31=>dz
 | 32=>bi
 | 33=>bj
 | 34=>ir
 | _=>fun _ _ _=>False
theorem Γ_0:Γ 0=aK:=id rfl
theorem Γ_1:Γ 1=cQ:=id rfl
theorem Γ_2:Γ 2=aR:=id rfl
theorem Γ_3:Γ 3=dv:=id rfl
theorem Γ_4:Γ 4=bV:=id rfl
theorem Γ_5:Γ 5=cH:=id rfl
theorem Γ_6:Γ 6=eU:=id rfl
theorem Γ_7:Γ 7=gD:=id rfl
theorem Γ_8:Γ 8=gH:=id rfl
theorem Γ_9:Γ 9=db:=id rfl
theorem Fc:Γ 10=dq:=id rfl
theorem DI:Γ 11=eT:=id rfl
theorem E7:Γ 12=bq:=id rfl
theorem D9:Γ 13=bH:=id rfl
theorem Dr:Γ 14=bG:=id rfl
theorem Dc:Γ 15=fM:=id rfl
theorem Di:Γ 16=dY:=id rfl
theorem D1:Γ 17=cG:=id rfl
theorem EH:Γ 18=d4:=id rfl
theorem D2:Γ 19=dR:=id rfl
theorem DH:Γ 20=dm:=id rfl
theorem DV:Γ 21=bp:=id rfl
theorem DN:Γ 22=bh:=id rfl
theorem Ev:Γ 23=cI:=id rfl
theorem DQ:Γ 24=d5:=id rfl
theorem Fi:Γ 25=bT:=id rfl
theorem De:Γ 26=eM:=id rfl
theorem DF:Γ 27=bI:=id rfl
theorem ET:Γ 28=cK:=id rfl
theorem El:Γ 29=bX:=id rfl
theorem Ey:Γ 30=bY:=id rfl
theorem Du:Γ 31=dz:=id rfl
theorem Fe:Γ 32=bi:=id rfl
theorem Fb:Γ 33=bj:=id rfl
theorem DT:Γ 34=ir:=id rfl
theorem Γm:bb Γ:=by
 intro f vs st Q Q' h q
 match f,q with
 | 0,q=>exact ie (st:=st) h q
 | 1,q=>exact oq (st:=st) h q
 | 2,q=>exact iy (st:=st) h q
 | 3,q=>exact mJ (st:=st) h q
 | 4,q=>exact ky (st:=st) h q
 | 5,q=>exact lH (st:=st) h q
 | 6,q=>exact qu (st:=st) h q
 | 7,q=>exact va (st:=st) h q
 | 8,q=>exact vM (st:=st) h q
 | 9,q=>exact mQ (st:=st) h q
 | 10,q=>exact mK (st:=st) h q
 | 11,q=>exact qX (st:=st) h q
 | 12,q=>exact ik (st:=st) h q
 | 13,q=>exact je (st:=st) h q
 | 14,q=>exact jC (st:=st) h q
 | 15,q=>exact se (st:=st) h q
 | 16,q=>exact ox (st:=st) h q
 | 17,q=>exact lG (st:=st) h q
 | 18,q=>exact oG (st:=st) h q
 | 19,q=>exact iR (st:=st) h q
 | 20,q=>exact mL (st:=st) h q
 | 21,q=>exact ij (st:=st) h q
 | 22,q=>exact ig (st:=st) h q
 | 23,q=>exact lA (st:=st) h q
 | 24,q=>exact on (st:=st) h q
 | 25,q=>exact jR (st:=st) h q
 | 26,q=>exact pG (st:=st) h q
 | 27,q=>exact jy (st:=st) h q
 | 28,q=>exact lQ (st:=st) h q
 | 29,q=>exact jW (st:=st) h q
 | 30,q=>exact jT (st:=st) h q
 | 31,q=>exact iZ (st:=st) h q
 | 32,q=>exact ic (st:=st) h q
 | 33,q=>exact io (st:=st) h q
 | 34,q=>exact xZ (st:=st) h q
 | _+35,q=>exact q.elim
noncomputable def bS:List Str:=((["common_divisor","fraction","is_below","crosswise","on_straight","has_moment","come_by","offer","falls","best_from","is_better","set_out","out_and_coming","comings_from","one_tie_more","layers","_law_pot","_law_digit","_law_low","_law_is_below","_law_name","_law_free_ride","_law_row_rides","_law_rides","_law_net","_law_moment","_law_on","_law_comings","_law_least","_law_coming"]:List Str)++(["_law_layers","_law_is_whole","_law_is_moment","_law_are_right","law"]:List Str))
noncomputable def bP:List Str:=["sorted","dict","tuple","range","int","len","divmod","max","isinstance","zip","all","min","list"]
noncomputable def glL:List (Str × PV):=[]
noncomputable abbrev aY:Stmt:=top 1
theorem jo:ah ["n","d"] ["n","d"] (ab aY):=⟨rfl,rfl,rfl,by decide +kernel,rfl,by decide +kernel,by decide +kernel⟩
noncomputable def dE:Cfg:={ N:=["n","d"],names:=(ab aY).names,fns:=bS,lim:=0,blts:=bP,gl:=glL }
noncomputable def cu:Ss:=(.cons (.whileS (.cmp .NotEq (.var 1) (.int 0)) (.cons (.par 0 1 (.var 1) (.bin .Mod (.var 0) (.var 1))) .nil)) (.cons (.ret (.var 0)) .nil))
theorem kC:aB dE cu (af aY)=true:=by decide +kernel
noncomputable abbrev dH:Stmt:=top 2
theorem sP:ah ["n","d","divisor"] ["n","d"] (ab dH):=⟨rfl,rfl,rfl,by decide +kernel,rfl,by decide +kernel,by decide +kernel⟩
noncomputable def iK:Cfg:={ N:=["n","d","divisor"],names:=(ab dH).names,fns:=bS,lim:=1,blts:=bP,gl:=glL }
noncomputable def fC:Ss:=(.cons (.set (.name 2) (.call 0 (.cons (.var 0) (.cons (.var 1) .nil)))) (.cons (.ret (.tup (.cons (.bin .FloorDiv (.var 0) (.var 2)) (.cons (.bin .FloorDiv (.var 1) (.var 2)) .nil)))) .nil))
theorem u8:aB iK fC (af dH)=true:=by decide +kernel
noncomputable abbrev dP:Stmt:=top 3
theorem s_:ah ["one","other"] ["one","other"] (ab dP):=⟨rfl,rfl,rfl,by decide +kernel,rfl,by decide +kernel,by decide +kernel⟩
noncomputable def iP:Cfg:={ N:=["one","other"],names:=(ab dP).names,fns:=bS,lim:=2,blts:=bP,gl:=glL }
noncomputable def fB:Ss:=(.cons (.ret (.cmp .Lt (.bin .Mult (.ix (.var 0) (.int 0)) (.ix (.var 1) (.int 1))) (.bin .Mult (.ix (.var 1) (.int 0)) (.ix (.var 0) (.int 1))))) .nil)
theorem uO:aB iP fB (af dP)=true:=by decide +kernel
noncomputable abbrev cR:Stmt:=top 5
theorem rB:ah ["one","other"] ["one","other"] (ab cR):=⟨rfl,rfl,rfl,by decide +kernel,rfl,by decide +kernel,by decide +kernel⟩
noncomputable def gN:Cfg:={ N:=["one","other"],names:=(ab cR).names,fns:=bS,lim:=3,blts:=bP,gl:=glL }
noncomputable def eW:Ss:=(.cons (.ret (.bin .Sub (.bin .Mult (.ix (.var 0) (.int 0)) (.ix (.var 1) (.int 1))) (.bin .Mult (.ix (.var 1) (.int 0)) (.ix (.var 0) (.int 1))))) .nil)
theorem tH:aB gN eW (af cR)=true:=by decide +kernel
noncomputable abbrev bM:Stmt:=top 6
theorem mI:ah ["near","far","x","near_x","near_y","far_x","far_y","done","left","above"] ["near","far","x"] (ab bM):=⟨rfl,rfl,rfl,by decide +kernel,rfl,by decide +kernel,by decide +kernel⟩
noncomputable def fD:Cfg:={ N:=["near","far","x","near_x","near_y","far_x","far_y","done","left","above"],names:=(ab bM).names,fns:=bS,lim:=4,blts:=bP,gl:=glL }
noncomputable def dM:Ss:=(.cons (.set (.tup (.cons (.tup (.cons (.name 3) (.cons (.name 4) .nil))) (.cons (.tup (.cons (.name 5) (.cons (.name 6) .nil))) .nil))) (.tup (.cons (.var 0) (.cons (.var 1) .nil)))) (.cons (.set (.name 7) (.bin .Mult (.call 3 (.cons (.var 2) (.cons (.var 3) .nil))) (.ix (.var 5) (.int 1)))) (.cons (.set (.name 8) (.bin .Mult (.call 3 (.cons (.var 5) (.cons (.var 2) .nil))) (.ix (.var 3) (.int 1)))) (.cons (.set (.name 9) (.bin .Add (.bin .Mult (.bin .Mult (.ix (.var 4) (.int 0)) (.ix (.var 6) (.int 1))) (.var 8)) (.bin .Mult (.bin .Mult (.ix (.var 6) (.int 0)) (.ix (.var 4) (.int 1))) (.var 7)))) (.cons (.ret (.call 1 (.cons (.var 9) (.cons (.bin .Mult (.bin .Mult (.ix (.var 4) (.int 1)) (.ix (.var 6) (.int 1))) (.bin .Add (.var 8) (.var 7))) .nil)))) .nil)))))
theorem ol:aB fD dM (af bM)=true:=by decide +kernel
noncomputable abbrev ce:Stmt:=top 8
theorem oE:ah ["ride","t"] ["ride","t"] (ab ce):=⟨rfl,rfl,rfl,by decide +kernel,rfl,by decide +kernel,by decide +kernel⟩
noncomputable def gf:Cfg:={ N:=["ride","t"],names:=(ab ce).names,fns:=bS,lim:=5,blts:=bP,gl:=glL }
noncomputable def d8:Ss:=(.cons (.ret (.bop true (.cons (.not (.call 2 (.cons (.var 1) (.cons (.ix (.var 0) (.int 0)) .nil)))) (.cons (.not (.call 2 (.cons (.ix (.var 0) (.int 1)) (.cons (.var 1) .nil)))) .nil)))) .nil)
theorem pR:aB gf d8 (af ce)=true:=by decide +kernel
noncomputable abbrev eI:Stmt:=top 9
theorem tO:ah ["ride","t","first","last","come","comes"] ["ride","t"] (ab eI):=⟨rfl,rfl,rfl,by decide +kernel,rfl,by decide +kernel,by decide +kernel⟩
noncomputable def kr:Cfg:={ N:=["ride","t","first","last","come","comes"],names:=(ab eI).names,fns:=bS,lim:=6,blts:=bP,gl:=glL }
noncomputable def fW:Ss:=(.cons (.set (.tup (.cons (.name 2) (.cons (.name 3) (.cons (.name 4) (.cons (.name 5) .nil))))) (.var 0)) (.cons (.ifS (.cmp .Eq (.var 2) (.var 3)) (.cons (.ret (.var 4)) .nil) .nil) (.cons (.ret (.call 4 (.cons (.tup (.cons (.var 2) (.cons (.var 4) .nil))) (.cons (.tup (.cons (.var 3) (.cons (.var 5) .nil))) (.cons (.var 1) .nil))))) .nil)))
theorem wR:aB kr fW (af eI)=true:=by decide +kernel
noncomputable abbrev hU:Stmt:=top 10
theorem zy:ah ["rides","t","least","ride","come"] ["rides","t"] (ab hU):=⟨rfl,rfl,rfl,by decide +kernel,rfl,by decide +kernel,by decide +kernel⟩
noncomputable def qc:Cfg:={ N:=["rides","t","least","ride","come"],names:=(ab hU).names,fns:=bS,lim:=7,blts:=bP,gl:=glL }
noncomputable def iG:Ss:=(.cons (.set (.name 2) .non) (.cons (.forS (.name 3) (.seq (.var 0)) (.cons (.ifS (.call 5 (.cons (.var 3) (.cons (.var 1) .nil))) (.cons (.set (.name 4) (.call 6 (.cons (.var 3) (.cons (.var 1) .nil)))) (.cons (.ifS (.bop false (.cons (.cmp .Is (.var 2) .non) (.cons (.call 2 (.cons (.var 4) (.cons (.var 2) .nil))) .nil))) (.cons (.set (.name 2) (.var 4)) .nil) .nil) .nil)) .nil) .nil)) (.cons (.ret (.var 2)) .nil)))
theorem Cg:aB qc iG (af hU)=true:=by decide +kernel
noncomputable abbrev gY:Stmt:=top 11
theorem yS:ah ["ride"] ["ride"] (ab gY):=⟨rfl,rfl,rfl,by decide +kernel,rfl,by decide +kernel,by decide +kernel⟩
noncomputable def qQ:Cfg:={ N:=["ride"],names:=(ab gY).names,fns:=bS,lim:=8,blts:=bP,gl:=glL }
noncomputable def iC:Ss:=(.cons (.ret (.call 2 (.cons (.ix (.var 0) (.int 3)) (.cons (.ix (.var 0) (.int 2)) .nil)))) .nil)
theorem Ck:aB qQ iC (af gY)=true:=by decide +kernel
noncomputable abbrev cP:Stmt:=top 12
theorem qO:ah ["ride","t","out"] ["ride","t"] (ab cP):=⟨rfl,rfl,rfl,by decide +kernel,rfl,by decide +kernel,by decide +kernel⟩
noncomputable def gI:Cfg:={ N:=["ride","t","out"],names:=(ab cP).names,fns:=bS,lim:=9,blts:=bP,gl:=glL }
noncomputable def e6:Ss:=(.cons (.ifS (.call 8 (.cons (.var 0) .nil)) (.cons (.ret (.tup (.cons (.ix (.var 0) (.int 1)) (.cons (.ix (.var 0) (.int 3)) .nil)))) .nil) .nil) (.cons (.set (.name 2) (.ite (.call 2 (.cons (.ix (.var 0) (.int 0)) (.cons (.var 1) .nil))) (.var 1) (.ix (.var 0) (.int 0)))) (.cons (.ret (.tup (.cons (.var 2) (.cons (.call 6 (.cons (.var 0) (.cons (.var 2) .nil))) .nil)))) .nil)))
theorem rC:aB gI e6 (af cP)=true:=by decide +kernel
noncomputable abbrev cU:Stmt:=top 13
theorem re:ah ["pair","best"] ["pair","best"] (ab cU):=⟨rfl,rfl,rfl,by decide +kernel,rfl,by decide +kernel,by decide +kernel⟩
noncomputable def gp:Cfg:={ N:=["pair","best"],names:=(ab cU).names,fns:=bS,lim:=10,blts:=bP,gl:=glL }
noncomputable def eN:Ss:=(.cons (.ifS (.cmp .Eq (.ix (.var 0) (.int 1)) (.ix (.var 1) (.int 1))) (.cons (.ret (.call 2 (.cons (.ix (.var 0) (.int 0)) (.cons (.ix (.var 1) (.int 0)) .nil)))) .nil) .nil) (.cons (.ret (.call 2 (.cons (.ix (.var 0) (.int 1)) (.cons (.ix (.var 1) (.int 1)) .nil)))) .nil))
theorem tu:aB gp eN (af cU)=true:=by decide +kernel
noncomputable abbrev eE:Stmt:=top 14
theorem tM:ah ["rides","wait","t","come","best","ride","pair"] ["rides","wait","t"] (ab eE):=⟨rfl,rfl,rfl,by decide +kernel,rfl,by decide +kernel,by decide +kernel⟩
noncomputable def j':Cfg:={ N:=["rides","wait","t","come","best","ride","pair"],names:=(ab eE).names,fns:=bS,lim:=11,blts:=bP,gl:=glL }
noncomputable def fS:Ss:=(.cons (.ifS (.not (.var 1)) (.cons (.set (.name 3) (.call 7 (.cons (.var 0) (.cons (.var 2) .nil)))) (.cons (.ret (.ite (.cmp .Is (.var 3) .non) .non (.tup (.cons (.var 2) (.cons (.var 3) .nil))))) .nil)) .nil) (.cons (.set (.name 4) .non) (.cons (.forS (.name 5) (.seq (.var 0)) (.cons (.ifS (.not (.call 2 (.cons (.ix (.var 5) (.int 1)) (.cons (.var 2) .nil)))) (.cons (.set (.name 6) (.call 9 (.cons (.var 5) (.cons (.var 2) .nil)))) (.cons (.ifS (.bop false (.cons (.cmp .Is (.var 4) .non) (.cons (.call 10 (.cons (.var 6) (.cons (.var 4) .nil))) .nil))) (.cons (.set (.name 4) (.var 6)) .nil) .nil) .nil)) .nil) .nil)) (.cons (.ret (.var 4)) .nil))))
theorem xw:aB j' fS (af eE)=true:=by decide +kernel
noncomputable abbrev aW:Stmt:=top 16
theorem jB:ah ["net","name","moment","end","waits","ties","a","b","rides"] ["net","name","moment"] (ab aW):=⟨rfl,rfl,rfl,by decide +kernel,rfl,by decide +kernel,by decide +kernel⟩
noncomputable def dG:Cfg:={ N:=["net","name","moment","end","waits","ties","a","b","rides"],names:=(ab aW).names,fns:=bS,lim:=12,blts:=bP,gl:=glL }
noncomputable def cw:Ss:=(.cons (.set (.tup (.cons (.name 3) (.cons (.name 4) (.cons (.name 5) .nil)))) (.var 0)) (.cons (.set (.tup (.cons (.name 6) (.cons (.name 7) (.cons (.name 8) .nil)))) (.ix (.var 5) (.var 1))) (.cons (.ret (.call 11 (.cons (.var 8) (.cons (.cmp .In (.var 6) (.var 4)) (.cons (.var 2) .nil))))) .nil)))
theorem kF:aB dG cw (af aW)=true:=by decide +kernel
noncomputable abbrev bw:Stmt:=top 17
theorem lO:ah ["net","place","moment","end","waits","ties","told","name","pair"] ["net","place","moment"] (ab bw):=⟨rfl,rfl,rfl,by decide +kernel,rfl,by decide +kernel,by decide +kernel⟩
noncomputable def eK:Cfg:={ N:=["net","place","moment","end","waits","ties","told","name","pair"],names:=(ab bw).names,fns:=bS,lim:=13,blts:=bP,gl:=glL }
noncomputable def di:Ss:=(.cons (.set (.tup (.cons (.name 3) (.cons (.name 4) (.cons (.name 5) .nil)))) (.var 0)) (.cons (.set (.name 6) (.lst .nil)) (.cons (.forS (.name 7) (.seq (.blt .sortD (.cons (.var 5) .nil))) (.cons (.ifS (.cmp .Eq (.ix (.ix (.var 5) (.var 7)) (.int 0)) (.var 1)) (.cons (.set (.name 8) (.call 12 (.cons (.var 0) (.cons (.var 7) (.cons (.var 2) .nil))))) (.cons (.ifS (.cmp .IsNot (.var 8) .non) (.cons (.expr (.met .append (.var 6) (.cons (.tup (.cons (.ix (.ix (.var 5) (.var 7)) (.int 1)) (.cons (.ix (.var 8) (.int 1)) (.cons (.var 7) .nil)))) .nil))) .nil) .nil) .nil)) .nil) .nil)) (.cons (.ret (.var 6)) .nil))))
theorem mD:aB eK di (af bw)=true:=by decide +kernel
noncomputable abbrev bu:Stmt:=top 19
theorem lS:ah ["net","found","more","place","moment","way","other","come","name"] ["net","found"] (ab bu):=⟨rfl,rfl,rfl,by decide +kernel,rfl,by decide +kernel,by decide +kernel⟩
noncomputable def eP:Cfg:={ N:=["net","found","more","place","moment","way","other","come","name"],names:=(ab bu).names,fns:=bS,lim:=14,blts:=bP,gl:=glL }
noncomputable def cX:Ss:=(.cons (.set (.name 2) (.dcp (.var 1))) (.cons (.forS (.name 3) (.seq (.blt .sortD (.cons (.var 1) .nil))) (.cons (.set (.tup (.cons (.name 4) (.cons (.name 5) .nil))) (.ix (.var 1) (.var 3))) (.cons (.forS (.tup (.cons (.name 6) (.cons (.name 7) (.cons (.name 8) .nil)))) (.seq (.call 13 (.cons (.var 0) (.cons (.var 3) (.cons (.var 4) .nil))))) (.cons (.ifS (.bop false (.cons (.cmp .NotIn (.var 6) (.var 2)) (.cons (.call 2 (.cons (.var 7) (.cons (.ix (.ix (.var 2) (.var 6)) (.int 0)) .nil))) .nil))) (.cons (.set (.sub (.var 2) (.var 6)) (.tup (.cons (.var 7) (.cons (.bin .Add (.var 5) (.tup (.cons (.var 8) .nil))) .nil)))) .nil) .nil) .nil)) .nil))) (.cons (.ret (.var 2)) .nil)))
theorem nq:aB eP cX (af bu)=true:=by decide +kernel
noncomputable abbrev fK:Stmt:=top 20
theorem xp:ah ["net","start","moment","most","found","told","number"] ["net","start","moment","most"] (ab fK):=⟨rfl,rfl,rfl,by decide +kernel,rfl,by decide +kernel,by decide +kernel⟩
noncomputable def nM:Cfg:={ N:=["net","start","moment","most","found","told","number"],names:=(ab fK).names,fns:=bS,lim:=15,blts:=bP,gl:=glL }
noncomputable def gM:Ss:=(.cons (.set (.name 4) (.dct2 (.var 1) (.tup (.cons (.var 2) (.cons (.tup .nil) .nil))))) (.cons (.set (.name 5) (.lst .nil)) (.cons (.forS (.name 6) (.range1 (.bin .Add (.var 3) (.int 1))) (.cons (.expr (.met .append (.var 5) (.cons (.compD (.var 0) (.ix (.var 1) (.int 0)) (.tup (.cons (.name 0) (.cons (.name 1) .nil))) .items (.var 4) .nil ["place","pair"] []) .nil))) (.cons (.set (.name 4) (.call 14 (.cons (.var 0) (.cons (.var 4) .nil)))) .nil))) (.cons (.ret (.blt .tuple1 (.cons (.var 5) .nil))) .nil))))
theorem By:aB nM gM (af fK)=true:=by decide +kernel
noncomputable abbrev dS:Stmt:=top 22
theorem sC:ah ["_law_script","_law_k","_law_state","_law_cell","_law_own"] ["_law_script","_law_k"] (ab dS):=⟨rfl,rfl,rfl,by decide +kernel,rfl,by decide +kernel,by decide +kernel⟩
noncomputable def iL:Cfg:={ N:=["_law_script","_law_k","_law_state","_law_cell","_law_own"],names:=(ab dS).names,fns:=bS,lim:=16,blts:=bP,gl:=glL }
noncomputable def fv:Ss:=(.cons (.set (.name 2) (.bin .Add (.int 3) (.bin .Mult (.int 1013) (.var 1)))) (.cons (.forS (.name 3) (.seq (.sl (.var 0) .no (.yes (.int 63)))) (.cons (.set (.name 2) (.bin .Mod (.bin .Add (.bin .Mult (.var 2) (.int 48271)) (.var 3)) (.int 2147483629))) .nil)) (.cons (.set (.name 4) (.ite (.cmp .Lt (.var 1) (.blt .len (.cons (.var 0) .nil))) (.ix (.var 0) (.var 1)) (.int 0))) (.cons (.ret (.lst (.cons (.bin .Mult (.var 4) (.blt .int1 (.cons (.cmp .GtE (.var 4) (.bin .Pow (.int 10) (.int 18))) .nil))) (.cons (.var 2) .nil)))) .nil))))
theorem uB:aB iL fv (af dS)=true:=by decide +kernel
noncomputable abbrev cg:Stmt:=top 23
theorem og:ah ["_law_pot_here","_law_many","_law_digit_here"] ["_law_pot_here","_law_many"] (ab cg):=⟨rfl,rfl,rfl,by decide +kernel,rfl,by decide +kernel,by decide +kernel⟩
noncomputable def fV:Cfg:={ N:=["_law_pot_here","_law_many","_law_digit_here"],names:=(ab cg).names,fns:=bS,lim:=17,blts:=bP,gl:=glL }
noncomputable def ef:Ss:=(.cons (.ifS (.cmp .Gt (.ix (.var 0) (.int 0)) (.int 0)) (.cons (.set (.tup (.cons (.sub (.var 0) (.int 0)) (.cons (.name 2) .nil))) (.blt .divmod (.cons (.ix (.var 0) (.int 0)) (.cons (.var 1) .nil)))) (.cons (.ret (.var 2)) .nil)) .nil) (.cons (.set (.sub (.var 0) (.int 1)) (.bin .Mod (.bin .Add (.bin .Mult (.ix (.var 0) (.int 1)) (.int 39373)) (.int 7001)) (.int 2147483629))) (.cons (.ret (.bin .Mod (.bin .FloorDiv (.bin .Mult (.ix (.var 0) (.int 1)) (.ix (.var 0) (.int 1))) (.int 11)) (.var 1))) .nil)))
theorem ql:aB fV ef (af cg)=true:=by decide +kernel
noncomputable abbrev dN:Stmt:=top 24
theorem sv:ah ["_law_top","_law_bottom","_law_one","_law_other"] ["_law_top","_law_bottom"] (ab dN):=⟨rfl,rfl,rfl,by decide +kernel,rfl,by decide +kernel,by decide +kernel⟩
noncomputable def iV:Cfg:={ N:=["_law_top","_law_bottom","_law_one","_law_other"],names:=(ab dN).names,fns:=bS,lim:=18,blts:=bP,gl:=glL }
noncomputable def fu:Ss:=(.cons (.par 2 3 (.var 0) (.var 1)) (.cons (.whileS (.cmp .Gt (.var 3) (.int 0)) (.cons (.par 2 3 (.var 3) (.bin .Mod (.var 2) (.var 3))) .nil)) (.cons (.ret (.tup (.cons (.bin .FloorDiv (.var 0) (.var 2)) (.cons (.bin .FloorDiv (.var 1) (.var 2)) .nil)))) .nil)))
theorem vb:aB iV fu (af dN)=true:=by decide +kernel
noncomputable abbrev bd:Stmt:=top 25
theorem kg:ah ["_law_one","_law_other"] ["_law_one","_law_other"] (ab bd):=⟨rfl,rfl,rfl,by decide +kernel,rfl,by decide +kernel,by decide +kernel⟩
noncomputable def d6:Cfg:={ N:=["_law_one","_law_other"],names:=(ab bd).names,fns:=bS,lim:=19,blts:=bP,gl:=glL }
noncomputable def cO:Ss:=(.cons (.ret (.cmp .Lt (.bin .Mult (.ix (.var 0) (.int 0)) (.ix (.var 1) (.int 1))) (.bin .Mult (.ix (.var 1) (.int 0)) (.ix (.var 0) (.int 1))))) .nil)
theorem lU:aB d6 cO (af bd)=true:=by decide +kernel
noncomputable abbrev cS:Stmt:=top 26
theorem qZ:ah ["_law_pot_here","_law_taken","_law_name_here","_law_k","_law_some"] ["_law_pot_here","_law_taken"] (ab cS):=⟨rfl,rfl,rfl,by decide +kernel,rfl,by decide +kernel,by decide +kernel⟩
noncomputable def gO:Cfg:={ N:=["_law_pot_here","_law_taken","_law_name_here","_law_k","_law_some"],names:=(ab cS).names,fns:=bS,lim:=20,blts:=bP,gl:=glL }
noncomputable def e7:Ss:=(.cons (.set (.name 2) (.str "")) (.cons (.forS (.name 3) (.range1 (.bin .Add (.int 1) (.call 17 (.cons (.var 0) (.cons (.tmp (.ix (.lst (.cons (.int 2) (.cons (.int 8) .nil))) (.call 17 (.cons (.var 0) (.cons (.int 2) .nil))))) .nil))))) (.cons (.set (.name 2) (.bin .Add (.var 2) (.ix (.str "abcdefghijklmnopqrstuvwxyz") (.call 17 (.cons (.var 0) (.cons (.int 26) .nil)))))) .nil)) (.cons (.ifS (.cmp .In (.var 2) (.var 1)) (.cons (.set (.name 4) (.comp (.bin .Add (.sl (.var 1) .no (.yes (.int 7))) (.var 0)) (.name 0) (.chars (.str "abcdefghijklmnopqrstuvwxyz")) .nil ["_law_letter"] [2])) (.cons (.set (.name 2) (.tmp (.ix (.comp (.var 0) (.name 0) (.seq (.var 4)) (.cons (.cmp .NotIn (.var 0) (.var 1)) .nil) ["_law_one"] [1]) (.int 0)))) .nil)) .nil) (.cons (.expr (.met .append (.var 1) (.cons (.var 2) .nil))) (.cons (.ret (.var 2)) .nil)))))
theorem rX:aB gO e7 (af cS)=true:=by decide +kernel
noncomputable abbrev aV:Stmt:=top 27
theorem jr:ah ["_law_pot_here","_law_far","_law_first","_law_long","_law_come"] ["_law_pot_here","_law_far"] (ab aV):=⟨rfl,rfl,rfl,by decide +kernel,rfl,by decide +kernel,by decide +kernel⟩
noncomputable def dF:Cfg:={ N:=["_law_pot_here","_law_far","_law_first","_law_long","_law_come"],names:=(ab aV).names,fns:=bS,lim:=21,blts:=bP,gl:=glL }
noncomputable def cB:Ss:=(.cons (.set (.name 2) (.call 17 (.cons (.var 0) (.cons (.var 1) .nil)))) (.cons (.set (.name 3) (.bin .Mult (.call 17 (.cons (.var 0) (.cons (.var 1) .nil))) (.blt .int1 (.cons (.cmp .Gt (.call 17 (.cons (.var 0) (.cons (.int 3) .nil))) (.int 0)) .nil)))) (.cons (.set (.name 4) (.bin .Add (.var 2) (.call 17 (.cons (.var 0) (.cons (.var 1) .nil))))) (.cons (.ifS (.cmp .Eq (.var 3) (.int 0)) (.cons (.ret (.tup (.cons (.var 2) (.cons (.var 2) (.cons (.var 4) (.cons (.var 4) .nil)))))) .nil) .nil) (.cons (.ret (.tup (.cons (.var 2) (.cons (.bin .Add (.var 2) (.var 3)) (.cons (.var 4) (.cons (.bin .Add (.bin .Add (.var 2) (.var 3)) (.call 17 (.cons (.var 0) (.cons (.var 1) .nil)))) .nil)))))) .nil)))))
theorem kN:aB dF cB (af aV)=true:=by decide +kernel
noncomputable abbrev aT:Stmt:=top 28
theorem i_:ah ["_law_pot_here","_law_far","_law_many","_law_begin","_law_ahead","_law_rides_here","_law_low_here","_law_end"] ["_law_pot_here","_law_far","_law_many"] (ab aT):=⟨rfl,rfl,rfl,by decide +kernel,rfl,by decide +kernel,by decide +kernel⟩
noncomputable def dw:Cfg:={ N:=["_law_pot_here","_law_far","_law_many","_law_begin","_law_ahead","_law_rides_here","_law_low_here","_law_end"],names:=(ab aT).names,fns:=bS,lim:=22,blts:=bP,gl:=glL }
noncomputable def cy:Ss:=(.cons (.set (.tup (.cons (.name 3) (.cons (.name 4) .nil))) (.tup (.cons (.int 0) (.cons (.int 0) .nil)))) (.cons (.set (.name 5) (.lst .nil)) (.cons (.ifS (.bop true (.cons (.cmp .Gt (.var 2) (.int 1)) (.cons (.cmp .Eq (.call 17 (.cons (.var 0) (.cons (.int 4) .nil))) (.int 0)) .nil))) (.cons (.set (.name 4) (.call 17 (.cons (.var 0) (.cons (.var 1) .nil)))) (.cons (.expr (.met .append (.var 5) (.cons (.tup (.cons (.int 0) (.cons (.int 0) (.cons (.var 4) (.cons (.var 4) .nil))))) .nil))) .nil)) .nil) (.cons (.whileS (.cmp .Lt (.blt .len (.cons (.var 5) .nil)) (.var 2)) (.cons (.set (.name 6) (.bin .Add (.blt .max2 (.cons (.var 4) (.cons (.var 3) .nil))) (.bin .Mult (.call 17 (.cons (.var 0) (.cons (.var 1) .nil))) (.blt .int1 (.cons (.cmp .Eq (.call 17 (.cons (.var 0) (.cons (.int 2) .nil))) (.int 1)) .nil))))) (.cons (.set (.name 7) (.bin .Add (.bin .Add (.var 3) (.int 1)) (.call 17 (.cons (.var 0) (.cons (.var 1) .nil))))) (.cons (.set (.name 4) (.bin .Add (.blt .max2 (.cons (.var 6) (.cons (.var 7) .nil))) (.bin .Mult (.call 17 (.cons (.var 0) (.cons (.var 1) .nil))) (.blt .int1 (.cons (.cmp .Gt (.call 17 (.cons (.var 0) (.cons (.int 3) .nil))) (.int 0)) .nil))))) (.cons (.expr (.met .append (.var 5) (.cons (.tup (.cons (.var 3) (.cons (.var 7) (.cons (.var 6) (.cons (.var 4) .nil))))) .nil))) (.cons (.set (.name 3) (.var 7)) .nil)))))) (.cons (.ret (.var 5)) .nil)))))
theorem kf:aB dw cy (af aT)=true:=by decide +kernel
noncomputable abbrev cb:Stmt:=top 29
theorem n9:ah ["_law_pot_here","_law_wait","_law_far","_law_many"] ["_law_pot_here","_law_wait","_law_far"] (ab cb):=⟨rfl,rfl,rfl,by decide +kernel,rfl,by decide +kernel,by decide +kernel⟩
noncomputable def fT:Cfg:={ N:=["_law_pot_here","_law_wait","_law_far","_law_many"],names:=(ab cb).names,fns:=bS,lim:=23,blts:=bP,gl:=glL }
noncomputable def d7:Ss:=(.cons (.set (.name 3) (.call 17 (.cons (.var 0) (.cons (.int 4) .nil)))) (.cons (.ifS (.not (.var 1)) (.cons (.ret (.call 22 (.cons (.var 0) (.cons (.var 2) (.cons (.var 3) .nil))))) .nil) .nil) (.cons (.ret (.comp (.call 21 (.cons (.var 1) (.cons (.var 2) .nil))) (.name 0) (.range1 (.var 3)) .nil ["_law_k"] [0,2])) .nil)))
theorem p9:aB fT d7 (af cb)=true:=by decide +kernel
noncomputable abbrev dJ:Stmt:=top 30
theorem rY:ah ["_law_pot_here","_law_far","_law_bottom","_law_chain","_law_taken","_law_many","_law_places","_law_waits","_law_named","_law_ties","_law_most","_law_k","_law_a","_law_b","_law_later","_law_units","_law_rides_here","_law_ride","_law_end"] ["_law_pot_here"] (ab dJ):=⟨rfl,rfl,rfl,by decide +kernel,rfl,by decide +kernel,by decide +kernel⟩
noncomputable def iW:Cfg:={ N:=["_law_pot_here","_law_far","_law_bottom","_law_chain","_law_taken","_law_many","_law_places","_law_waits","_law_named","_law_ties","_law_most","_law_k","_law_a","_law_b","_law_later","_law_units","_law_rides_here","_law_ride","_law_end"],names:=(ab dJ).names,fns:=bS,lim:=24,blts:=bP,gl:=glL }
noncomputable def fm:Ss:=(.cons (.set (.name 1) (.tmp (.ix (.lst (.cons (.int 4) (.cons (.int 12) (.cons (.bin .Pow (.int 10) (.int 4)) (.cons (.bin .Pow (.int 10) (.int 8)) .nil))))) (.call 17 (.cons (.var 0) (.cons (.int 4) .nil)))))) (.cons (.set (.name 2) (.tmp (.ix (.lst (.cons (.int 1) (.cons (.bin .Add (.int 1) (.call 17 (.cons (.var 0) (.cons (.int 12) .nil)))) (.cons (.bin .Add (.int 1) (.call 17 (.cons (.var 0) (.cons (.bin .Pow (.int 10) (.int 6)) .nil)))) .nil)))) (.call 17 (.cons (.var 0) (.cons (.int 3) .nil)))))) (.cons (.set (.name 3) (.tmp (.ix (.lst (.cons (.int 0) (.cons (.bin .Add (.int 4) (.call 17 (.cons (.var 0) (.cons (.int 4) .nil)))) .nil))) (.blt .int1 (.cons (.cmp .Eq (.call 17 (.cons (.var 0) (.cons (.int 8) .nil))) (.int 7)) .nil))))) (.cons (.set (.name 4) (.lst .nil)) (.cons (.set (.name 5) (.ite (.cmp .Gt (.var 3) (.int 0)) (.bin .Add (.var 3) (.int 1)) (.bin .Add (.int 2) (.call 17 (.cons (.var 0) (.cons (.int 3) .nil)))))) (.cons (.set (.name 6) (.comp (.call 20 (.cons (.var 1) (.cons (.var 2) .nil))) (.name 0) (.range1 (.var 5)) .nil ["_law_k"] [0,4])) (.cons (.set (.name 7) (.blt .tuple1 (.cons (.blt .sortS (.cons (.comp (.var 0) (.name 0) (.seq (.var 6)) (.cons (.bop false (.cons (.cmp .Gt (.var 2) (.int 0)) (.cons (.cmp .Eq (.call 17 (.cons (.var 1) (.cons (.int 2) .nil))) (.int 1)) .nil))) .nil) ["_law_place"] [0,3]) .nil)) .nil))) (.cons (.set (.name 8) (.lst .nil)) (.cons (.set (.name 9) .dct0) (.cons (.set (.name 10) (.int 0)) (.cons (.forS (.name 11) (.range1 (.bin .Add (.var 3) (.call 17 (.cons (.var 0) (.cons (.ite (.cmp .Gt (.var 3) (.int 0)) (.int 4) (.int 7)) .nil))))) (.cons (.set (.name 12) (.call 17 (.cons (.var 0) (.cons (.blt .len (.cons (.var 6) .nil)) .nil)))) (.cons (.set (.name 13) (.bin .Mod (.bin .Add (.bin .Add (.var 12) (.int 1)) (.call 17 (.cons (.var 0) (.cons (.bin .Sub (.blt .len (.cons (.var 6) .nil)) (.int 1)) .nil)))) (.blt .len (.cons (.var 6) .nil)))) (.cons (.set (.name 14) (.int 0)) (.cons (.set (.name 15) (.lst .nil)) (.cons (.ifS (.cmp .Lt (.var 11) (.var 3)) (.cons (.par 12 13 (.var 11) (.bin .Add (.var 11) (.int 1))) (.cons (.set (.name 14) (.bin .Mult (.bin .Mult (.int 3) (.var 1)) (.var 11))) (.cons (.expr (.met .append (.var 15) (.cons (.call 21 (.cons (.var 0) (.cons (.var 1) .nil))) .nil))) .nil))) .nil) (.cons (.set (.name 15) (.bin .Add (.var 15) (.call 23 (.cons (.var 0) (.cons (.cmp .In (.ix (.var 6) (.var 12)) (.var 7)) (.cons (.var 1) .nil)))))) (.cons (.set (.name 16) (.lst .nil)) (.cons (.forS (.name 17) (.seq (.var 15)) (.cons (.set (.name 10) (.blt .max2 (.cons (.var 10) (.cons (.bin .Add (.ix (.var 17) (.int 1)) (.var 14)) .nil)))) (.cons (.expr (.met .append (.var 16) (.cons (.tmp (.blt .tuple1 (.cons (.comp (.call 18 (.cons (.bin .Add (.var 0) (.var 2)) (.cons (.var 1) .nil))) (.name 0) (.seq (.var 17)) .nil ["_law_one"] [2,14]) .nil))) .nil))) .nil))) (.cons (.set (.sub (.var 9) (.call 20 (.cons (.var 0) (.cons (.var 8) .nil)))) (.tup (.cons (.ix (.var 6) (.var 12)) (.cons (.ix (.var 6) (.var 13)) (.cons (.blt .tuple1 (.cons (.var 16) .nil)) .nil))))) .nil)))))))))) (.cons (.set (.name 18) (.call 18 (.cons (.bin .Add (.var 10) (.call 17 (.cons (.var 0) (.cons (.var 1) .nil)))) (.cons (.var 2) .nil)))) (.cons (.ret (.tup (.cons (.tup (.cons (.var 18) (.cons (.var 7) (.cons (.var 9) .nil)))) (.cons (.var 6) (.cons (.bin .Mult (.var 1) (.ite (.cmp .Gt (.var 3) (.int 0)) (.int 8) (.int 1))) (.cons (.var 2) .nil)))))) .nil)))))))))))))
theorem ug:aB iW fm (af dJ)=true:=by decide +kernel
noncomputable abbrev bN:Stmt:=top 31
theorem mO:ah ["_law_pot_here","_law_far","_law_bottom","_law_top"] ["_law_pot_here","_law_far","_law_bottom"] (ab bN):=⟨rfl,rfl,rfl,by decide +kernel,rfl,by decide +kernel,by decide +kernel⟩
noncomputable def fA:Cfg:={ N:=["_law_pot_here","_law_far","_law_bottom","_law_top"],names:=(ab bN).names,fns:=bS,lim:=25,blts:=bP,gl:=glL }
noncomputable def dB:Ss:=(.cons (.set (.name 3) (.call 17 (.cons (.var 0) (.cons (.bin .Mult (.tmp (.ix (.lst (.cons (.int 2) (.cons (.int 4) (.cons (.int 12) .nil)))) (.call 17 (.cons (.var 0) (.cons (.int 3) .nil))))) (.var 1)) .nil)))) (.cons (.ret (.call 18 (.cons (.var 3) (.cons (.tmp (.ix (.lst (.cons (.var 2) (.cons (.bin .Add (.int 1) (.call 17 (.cons (.var 0) (.cons (.int 7) .nil)))) .nil))) (.call 17 (.cons (.var 0) (.cons (.int 2) .nil))))) .nil)))) .nil))
theorem nW:aB fA dB (af bN)=true:=by decide +kernel
noncomputable abbrev eG:Stmt:=top 32
theorem vq:ah ["_law_ride","_law_t","_law_first","_law_stop","_law_come","_law_comes","_law_whole","_law_before","_law_behind","_law_top"] ["_law_ride","_law_t"] (ab eG):=⟨rfl,rfl,rfl,by decide +kernel,rfl,by decide +kernel,by decide +kernel⟩
noncomputable def kX:Cfg:={ N:=["_law_ride","_law_t","_law_first","_law_stop","_law_come","_law_comes","_law_whole","_law_before","_law_behind","_law_top"],names:=(ab eG).names,fns:=bS,lim:=26,blts:=bP,gl:=glL }
noncomputable def gh:Ss:=(.cons (.set (.tup (.cons (.name 2) (.cons (.name 3) (.cons (.name 4) (.cons (.name 5) .nil))))) (.var 0)) (.cons (.ifS (.cmp .Eq (.var 2) (.var 3)) (.cons (.ret (.var 4)) .nil) .nil) (.cons (.set (.name 6) (.bin .Sub (.bin .Mult (.ix (.var 3) (.int 0)) (.ix (.var 2) (.int 1))) (.bin .Mult (.ix (.var 2) (.int 0)) (.ix (.var 3) (.int 1))))) (.cons (.set (.name 7) (.bin .Mult (.bin .Sub (.bin .Mult (.ix (.var 1) (.int 0)) (.ix (.var 2) (.int 1))) (.bin .Mult (.ix (.var 2) (.int 0)) (.ix (.var 1) (.int 1)))) (.ix (.var 3) (.int 1)))) (.cons (.set (.name 8) (.bin .Mult (.bin .Sub (.bin .Mult (.ix (.var 3) (.int 0)) (.ix (.var 1) (.int 1))) (.bin .Mult (.ix (.var 1) (.int 0)) (.ix (.var 3) (.int 1)))) (.ix (.var 2) (.int 1)))) (.cons (.set (.name 9) (.bin .Add (.bin .Mult (.bin .Mult (.ix (.var 4) (.int 0)) (.ix (.var 5) (.int 1))) (.var 8)) (.bin .Mult (.bin .Mult (.ix (.var 5) (.int 0)) (.ix (.var 4) (.int 1))) (.var 7)))) (.cons (.ret (.call 18 (.cons (.var 9) (.cons (.bin .Mult (.bin .Mult (.bin .Mult (.ix (.var 4) (.int 1)) (.ix (.var 5) (.int 1))) (.var 6)) (.ix (.var 1) (.int 1))) .nil)))) .nil)))))))
theorem xr:aB kX gh (af eG)=true:=by decide +kernel
noncomputable abbrev bx:Stmt:=top 33
theorem lR:ah ["_law_ride","_law_wait","_law_t","_law_begin"] ["_law_ride","_law_wait","_law_t"] (ab bx):=⟨rfl,rfl,rfl,by decide +kernel,rfl,by decide +kernel,by decide +kernel⟩
noncomputable def eQ:Cfg:={ N:=["_law_ride","_law_wait","_law_t","_law_begin"],names:=(ab bx).names,fns:=bS,lim:=27,blts:=bP,gl:=glL }
noncomputable def de:Ss:=(.cons (.ifS (.bop false (.cons (.call 19 (.cons (.ix (.var 0) (.int 1)) (.cons (.var 2) .nil))) (.cons (.bop true (.cons (.not (.var 1)) (.cons (.call 19 (.cons (.var 2) (.cons (.ix (.var 0) (.int 0)) .nil))) .nil))) .nil))) (.cons (.ret (.lst .nil)) .nil) .nil) (.cons (.ifS (.not (.var 1)) (.cons (.ret (.lst (.cons (.call 26 (.cons (.var 0) (.cons (.var 2) .nil))) .nil))) .nil) .nil) (.cons (.set (.name 3) (.ite (.call 19 (.cons (.var 2) (.cons (.ix (.var 0) (.int 0)) .nil))) (.ix (.var 0) (.int 0)) (.var 2))) (.cons (.ret (.lst (.cons (.call 26 (.cons (.var 0) (.cons (.var 3) .nil))) (.cons (.ix (.var 0) (.int 3)) .nil)))) .nil))))
theorem md:aB eQ de (af bx)=true:=by decide +kernel
noncomputable abbrev ca:Stmt:=top 34
theorem oA:ah ["_law_moments","_law_found","_law_moment_here"] ["_law_moments"] (ab ca):=⟨rfl,rfl,rfl,by decide +kernel,rfl,by decide +kernel,by decide +kernel⟩
noncomputable def fU:Cfg:={ N:=["_law_moments","_law_found","_law_moment_here"],names:=(ab ca).names,fns:=bS,lim:=28,blts:=bP,gl:=glL }
noncomputable def eh:Ss:=(.cons (.set (.name 1) .non) (.cons (.forS (.name 2) (.seq (.var 0)) (.cons (.ifS (.bop false (.cons (.cmp .Is (.var 1) .non) (.cons (.call 19 (.cons (.var 2) (.cons (.var 1) .nil))) .nil))) (.cons (.set (.name 1) (.var 2)) .nil) .nil) .nil)) (.cons (.ret (.var 1)) .nil)))
theorem rm:aB fU eh (af ca)=true:=by decide +kernel
noncomputable abbrev bL:Stmt:=top 35
theorem mF:ah ["_law_net_here","_law_name_here","_law_t","_law_a","_law_b","_law_rides_here","_law_found","_law_ride"] ["_law_net_here","_law_name_here","_law_t"] (ab bL):=⟨rfl,rfl,rfl,by decide +kernel,rfl,by decide +kernel,by decide +kernel⟩
noncomputable def fo:Cfg:={ N:=["_law_net_here","_law_name_here","_law_t","_law_a","_law_b","_law_rides_here","_law_found","_law_ride"],names:=(ab bL).names,fns:=bS,lim:=29,blts:=bP,gl:=glL }
noncomputable def dC:Ss:=(.cons (.set (.tup (.cons (.name 3) (.cons (.name 4) (.cons (.name 5) .nil)))) (.ix (.ix (.var 0) (.int 2)) (.var 1))) (.cons (.set (.name 6) (.lst .nil)) (.cons (.forS (.name 7) (.seq (.var 5)) (.cons (.set (.name 6) (.bin .Add (.var 6) (.call 27 (.cons (.var 7) (.cons (.cmp .In (.var 3) (.ix (.var 0) (.int 1))) (.cons (.var 2) .nil)))))) .nil)) (.cons (.ret (.call 28 (.cons (.var 6) .nil))) .nil))))
theorem oh:aB fo dC (af bL)=true:=by decide +kernel
noncomputable abbrev bJ:Stmt:=top 36
theorem mE:ah ["_law_net_here","_law_start","_law_moment_here","_law_most","_law_found","_law_k","_law_here","_law_name_here","_law_a","_law_b","_law_rides_here","_law_come"] ["_law_net_here","_law_start","_law_moment_here","_law_most"] (ab bJ):=⟨rfl,rfl,rfl,by decide +kernel,rfl,by decide +kernel,by decide +kernel⟩
noncomputable def fq:Cfg:={ N:=["_law_net_here","_law_start","_law_moment_here","_law_most","_law_found","_law_k","_law_here","_law_name_here","_law_a","_law_b","_law_rides_here","_law_come"],names:=(ab bJ).names,fns:=bS,lim:=30,blts:=bP,gl:=glL }
noncomputable def dD:Ss:=(.cons (.set (.name 4) (.lst (.cons (.dct2 (.var 1) (.var 2)) .nil))) (.cons (.forS (.name 5) (.range1 (.var 3)) (.cons (.set (.name 6) (.dcp (.ix (.var 4) (.neg (.int 1))))) (.cons (.forK (.name 7) .keys (.ix (.var 0) (.int 2)) (.cons (.set (.tup (.cons (.name 8) (.cons (.name 9) (.cons (.name 10) .nil)))) (.ix (.ix (.var 0) (.int 2)) (.var 7))) (.cons (.set (.name 11) (.ite (.cmp .In (.var 8) (.ix (.var 4) (.neg (.int 1)))) (.call 29 (.cons (.var 0) (.cons (.var 7) (.cons (.ix (.ix (.var 4) (.neg (.int 1))) (.var 8)) .nil)))) .non)) (.cons (.ifS (.bop true (.cons (.cmp .IsNot (.var 11) .non) (.cons (.bop false (.cons (.cmp .NotIn (.var 9) (.var 6)) (.cons (.call 19 (.cons (.var 11) (.cons (.ix (.var 6) (.var 9)) .nil))) .nil))) .nil))) (.cons (.set (.sub (.var 6) (.var 9)) (.var 11)) .nil) .nil) .nil)))) (.cons (.expr (.met .append (.var 4) (.cons (.var 6) .nil))) .nil)))) (.cons (.ret (.var 4)) .nil)))
theorem oi:aB fq dD (af bJ)=true:=by decide +kernel
noncomputable abbrev bf:Stmt:=top 37
theorem kM:ah ["_law_thing"] ["_law_thing"] (ab bf):=⟨rfl,rfl,rfl,by decide +kernel,rfl,by decide +kernel,by decide +kernel⟩
noncomputable def d9:Cfg:={ N:=["_law_thing"],names:=(ab bf).names,fns:=bS,lim:=31,blts:=bP,gl:=glL }
noncomputable def cN:Ss:=(.cons (.ret (.bop true (.cons (.inst (.var 0) "int") (.cons (.cmp .IsNot (.var 0) (.bl true)) (.cons (.cmp .IsNot (.var 0) (.bl false)) .nil))))) .nil)
theorem lD:aB d9 cN (af bf)=true:=by decide +kernel
noncomputable abbrev aX:Stmt:=top 38
theorem js:ah ["_law_thing"] ["_law_thing"] (ab aX):=⟨rfl,rfl,rfl,by decide +kernel,rfl,by decide +kernel,by decide +kernel⟩
noncomputable def dU:Cfg:={ N:=["_law_thing"],names:=(ab aX).names,fns:=bS,lim:=32,blts:=bP,gl:=glL }
noncomputable def cA:Ss:=(.cons (.ifS (.bop false (.cons (.not (.inst (.var 0) "tuple")) (.cons (.cmp .NotEq (.blt .len (.cons (.var 0) .nil)) (.int 2)) (.cons (.not (.call 31 (.cons (.ix (.var 0) (.int 0)) .nil))) (.cons (.not (.call 31 (.cons (.ix (.var 0) (.int 1)) .nil))) .nil))))) (.cons (.ret (.bl false)) .nil) .nil) (.cons (.ret (.bop true (.cons (.cmp .GtE (.ix (.var 0) (.int 0)) (.int 0)) (.cons (.cmp .GtE (.ix (.var 0) (.int 1)) (.int 1)) (.cons (.cmp .Eq (.call 18 (.cons (.ix (.var 0) (.int 0)) (.cons (.ix (.var 0) (.int 1)) .nil))) (.var 0)) .nil))))) .nil))
theorem jL:aB dU cA (af aX)=true:=by decide +kernel
noncomputable abbrev aU:Stmt:=top 39
theorem jv:ah ["_law_told","_law_due","_law_one","_law_other"] ["_law_told","_law_due"] (ab aU):=⟨rfl,rfl,rfl,by decide +kernel,rfl,by decide +kernel,by decide +kernel⟩
noncomputable def dQ:Cfg:={ N:=["_law_told","_law_due","_law_one","_law_other"],names:=(ab aU).names,fns:=bS,lim:=33,blts:=bP,gl:=glL }
noncomputable def cF:Ss:=(.cons (.ifS (.bop false (.cons (.not (.inst (.var 0) "tuple")) (.cons (.cmp .NotEq (.blt .len (.cons (.var 0) .nil)) (.blt .len (.cons (.var 1) .nil))) .nil))) (.cons (.ret (.bl false)) .nil) .nil) (.cons (.forS (.tup (.cons (.name 2) (.cons (.name 3) .nil))) (.zip (.var 0) (.var 1)) (.cons (.ifS (.bop false (.cons (.not (.inst (.var 2) "dict")) (.cons (.eqd true (.var 2) (.var 3)) (.cons (.not (.tmp (.blt .all1 (.cons (.compK (.call 32 (.cons (.ix (.var 1) (.var 0)) .nil)) (.name 0) .keys (.var 2) .nil ["_law_place"] [2]) .nil)))) .nil)))) (.cons (.ret (.bl false)) .nil) .nil) .nil)) (.cons (.ret (.bl true)) .nil)))
theorem kT:aB dQ cF (af aU)=true:=by decide +kernel
noncomputable abbrev lf:Stmt:=top 40
theorem DL:ah ["_law_script","_law_k","_law_pot_here","_law_net_here","_law_places","_law_far","_law_bottom","_law_start","_law_moment_here","_law_most","_law_due","_law_told"] ["_law_script"] (ab lf):=⟨rfl,rfl,rfl,by decide +kernel,rfl,by decide +kernel,by decide +kernel⟩
noncomputable def CU:Cfg:={ N:=["_law_script","_law_k","_law_pot_here","_law_net_here","_law_places","_law_far","_law_bottom","_law_start","_law_moment_here","_law_most","_law_due","_law_told"],names:=(ab lf).names,fns:=bS,lim:=34,blts:=bP,gl:=glL }
noncomputable def mH:Ss:=(.cons (.forS (.name 1) (.range1 (.blt .max2 (.cons (.int 1) (.cons (.blt .min2 (.cons (.blt .len (.cons (.var 0) .nil)) (.cons (.int 3) .nil))) .nil)))) (.cons (.set (.name 2) (.call 16 (.cons (.var 0) (.cons (.var 1) .nil)))) (.cons (.set (.tup (.cons (.name 3) (.cons (.name 4) (.cons (.name 5) (.cons (.name 6) .nil))))) (.call 24 (.cons (.var 2) .nil))) (.cons (.set (.name 7) (.ix (.var 4) (.call 17 (.cons (.var 2) (.cons (.blt .len (.cons (.var 4) .nil)) .nil))))) (.cons (.ifS (.cmp .Eq (.call 17 (.cons (.var 2) (.cons (.int 8) .nil))) (.int 0)) (.cons (.set (.name 7) (.call 20 (.cons (.var 2) (.cons (.blt .list1 (.cons (.var 4) .nil)) .nil)))) .nil) .nil) (.cons (.set (.name 8) (.call 25 (.cons (.var 2) (.cons (.var 5) (.cons (.var 6) .nil))))) (.cons (.set (.name 9) (.call 17 (.cons (.var 2) (.cons (.int 8) .nil)))) (.cons (.set (.name 10) (.call 30 (.cons (.var 3) (.cons (.var 7) (.cons (.var 8) (.cons (.var 9) .nil)))))) (.cons (.set (.name 11) (.call 15 (.cons (.var 3) (.cons (.var 7) (.cons (.var 8) (.cons (.var 9) .nil)))))) (.cons (.ifS (.not (.call 33 (.cons (.var 11) (.cons (.var 10) .nil)))) (.cons (.ret (.bl false)) .nil) .nil) (.cons (.expr (.clr (.ix (.var 11) (.neg (.int 1))))) (.cons (.ifS (.bop false (.cons (.not (.call 33 (.cons (.sl (.var 11) .no (.yes (.neg (.int 1)))) (.cons (.sl (.var 10) .no (.yes (.neg (.int 1)))) .nil)))) (.cons (.not (.call 33 (.cons (.call 15 (.cons (.var 3) (.cons (.var 7) (.cons (.var 8) (.cons (.var 9) .nil))))) (.cons (.var 10) .nil)))) .nil))) (.cons (.ret (.bl false)) .nil) .nil) .nil)))))))))))) (.cons (.ret (.bl true)) .nil))
theorem Fw:aB CU mH (af lf)=true:=by decide +kernel
local macro_rules | `(tactic| walk_at "WP")=>`(tactic| simp only [uk,t5,uI,uH,pJ,z_,yc,yd,Aq,vK,Ax,zN,t4,vh,uS,qM,tB,Bc,vO,yk,uL,EX,pS,yH,uR,uV,u7,uU,A6,uN,Bk,zA,Ez,AX,Bu,Dp,yT,yP,vC,AQ,AM,AL,zQ,ya,DB,yM,DM,E4,uY,AU,tX,Aj,u5,AF,qF,qR,ut,Bz,zR,zZ,zB,uj,q8,Eh,AC,yu,Ee,A3,zP,Au,vc,Ac,vi,zK,Ei,ul,pO,tK,qh,qx,vo,qB,t6,qw,vI,AI,t8,nR,e_,iS,iH,qK,nL,yC,Bt,zw,yr,Bm,yQ,tV,vt,vN,uK,vj,uA,yX,EN,zj,zM,Bp,A9,Bn,Ar,uC,Bd,Dl,E1,Bo,Bs,vf,ve,E9,Ed,DZ,Fd,AJ,A8,y8,kH,mr,kL,kO,jO,kI,rc,pU,qy,qY,mY,nJ,nG,ko,kJ,iA,j6,nw,kz,kw,kW,j7,AT,yg,yA,oW,nD,Az,yI,Bv,yz,Ba,Ak,u4,uT,tR,zE,Ay,nC,u9,vL,vJ,pF,qH,yh,pB,qP,AS,Ek,DY,E6,Fa,EU,Bw,frame,Γ_0,Γ_1,Γ_2,Γ_3,Γ_4,Γ_5,Γ_6,Γ_7,Γ_8,Γ_9,Fc,DI,E7,D9,Dr,Dc,Di,D1,EH,D2,DH,DV,DN,Ev,DQ,Fi,De,DF,ET,El,Ey,Du,Fe,Fb,DT,Nat.add_assoc,fj,cJ,List.append_assoc,List.length_append,List.length_set,List.map_cons,List.map_nil,List.length_cons,List.length_nil,List.replicate,List.cons_append,List.nil_append,List.append_nil,List.getElem?_cons_zero,List.getElem?_cons_succ,List.set_cons_zero,List.set_cons_succ,Option.some.injEq,Cell.lst.injEq,PV.int.injEq,PV.bl.injEq,PV.ref.injEq,PV.str.injEq,PV.tup.injEq,PV.rdl.injEq,List.cons.injEq,and_true,true_and,exists_eq_left,exists_eq_left',exists_eq_right,exists_and_left,exists_and_right,exists_const,Bool.not_true,Bool.not_false,Bool.not_not,Bool.not_eq_true',decide_eq_true_eq,decide_eq_false_iff_not,false_and,and_false,false_or,or_false,if_true,if_false,Bool.false_eq_true,reduceCtorEq,reduceIte,not_false_eq_true,Nat.add_zero,Nat.zero_add,Nat.reduceAdd,Nat.reduceSub,Nat.reduceLeDiff,Int.reduceToNat,Int.reducePow,Int.reduceLT,Int.reduceLE,Int.reduceNeg,Int.reduceAdd,Int.reduceSub,Int.reduceMul,uf,qp,exists_eq,exists_eq',exists_false,ne_eq,not_true_eq_false,and_assoc,Option.join_some,Option.join_none,decide_true,decide_false,tI,uW,tN,uz,vF,tW,tU,Int.reduceEq,Nat.reduceEqDiff,Bool.not_eq_false,Bool.not_eq_true,Bool.and_true,Bool.true_and,Bool.and_false,Bool.false_and,Bool.or_false,Bool.or_true])
local macro_rules | `(tactic| walk_at "WPO")=>`(tactic| simp only [uk,t5,uI,uH,pJ,z_,yc,yd,Aq,vK,Ax,zN,t4,vh,uS,qM,tB,Bc,vO,yk,uL,EX,pS,yH,uR,uV,u7,uU,A6,uN,Bk,zA,Ez,AX,Bu,Dp,yT,yP,vC,AQ,AM,AL,zQ,ya,DB,yM,DM,E4,uY,AU,tX,Aj,u5,AF,qF,qR,ut,Bz,zR,zZ,zB,uj,q8,Eh,AC,yu,Ee,A3,zP,Au,vc,Ac,vi,zK,Ei,ul,pO,tK,qh,qx,vo,qB,t6,qw,vI,AI,t8,nR,e_,iS,iH,qK,nL,yC,Bt,zw,yr,Bm,yQ,tV,vt,vN,uK,vj,uA,yX,EN,zj,zM,Bp,A9,Bn,Ar,uC,Bd,Dl,E1,Bo,Bs,vf,ve,E9,Ed,DZ,Fd,AJ,A8,y8,kH,mr,kL,kO,jO,kI,rc,pU,qy,qY,mY,nJ,nG,ko,kJ,iA,j6,nw,kz,kw,kW,j7,AT,yg,yA,oW,nD,Az,yI,Bv,yz,Ba,Ak,u4,uT,tR,zE,Ay,nC,u9,vL,vJ,pF,qH,yh,pB,qP,AS,Ek,DY,E6,Fa,EU,Bw,frame,Γ_0,Γ_1,Γ_2,Γ_3,Γ_4,Γ_5,Γ_6,Γ_7,Γ_8,Γ_9,Fc,DI,E7,D9,Dr,Dc,Di,D1,EH,D2,DH,DV,DN,Ev,DQ,Fi,De,DF,ET,El,Ey,Du,Fe,Fb,DT,Nat.add_assoc,fj,cJ,List.append_assoc,List.length_append,List.length_set,List.map_cons,List.map_nil,List.length_cons,List.length_nil,List.replicate,List.cons_append,List.nil_append,List.append_nil,List.getElem?_cons_zero,List.getElem?_cons_succ,List.set_cons_zero,List.set_cons_succ,Option.some.injEq,Cell.lst.injEq,PV.int.injEq,PV.bl.injEq,PV.ref.injEq,PV.str.injEq,PV.tup.injEq,PV.rdl.injEq,List.cons.injEq,and_true,true_and,exists_eq_left,exists_eq_left',exists_eq_right,exists_and_left,exists_and_right,exists_const,Bool.not_true,Bool.not_false,Bool.not_not,Bool.not_eq_true',decide_eq_true_eq,decide_eq_false_iff_not,false_and,and_false,false_or,or_false,if_true,if_false,Bool.false_eq_true,reduceCtorEq,reduceIte,not_false_eq_true,Nat.add_zero,Nat.zero_add,Nat.reduceAdd,Nat.reduceSub,Nat.reduceLeDiff,Int.reduceToNat,Int.reducePow,Int.reduceLT,Int.reduceLE,Int.reduceNeg,Int.reduceAdd,Int.reduceSub,Int.reduceMul,uf,qp,exists_eq,exists_eq',exists_false,ne_eq,not_true_eq_false,and_assoc,Option.join_some,Option.join_none,decide_true,decide_false,tI,uW,tN,uz,vF,tW,tU,Int.reduceEq,Nat.reduceEqDiff,Bool.not_eq_false,Bool.not_eq_true,Bool.and_true,Bool.true_and,Bool.and_false,Bool.false_and,Bool.or_false,Bool.or_true,tp])
theorem lJ {as st Q} (h:dz as st Q):au Γ cN (frame 1 as) st (ae st Q):=by
 obtain ⟨v,rfl,hb,k⟩:=h
 obtain ⟨n,hn⟩:=rS hb
 unfold cN
 walk_at "WP"
 rw [Af hn] at k
 refine ⟨n,hn,?_⟩
 cases e:fk "int" n with
 | false =>
  rw [e] at k
  exact .inl k
 | true =>
  rw [e] at k
  cases e1:iY true v with
  | false =>
   rw [e1] at k
   exact Hm (.inl k)
  | true =>
   rw [e1] at k
   exact .inl k
theorem ke {as st Q} (h:aK as st Q):au Γ cu (frame 2 as) st (ae st Q):=by
 obtain ⟨n,d,rfl,k⟩:=h
 unfold cu
 walk_at "WP"
 refine mi Γm (fun m ρ s=>∃a b:Nat,ρ=[some (.int a),some (.int b)]∧s=st∧Nat.gcd a b=Nat.gcd n d∧m=b) (n:=d) ⟨n,d,rfl,rfl,rfl,rfl⟩ ?_
 rintro m ρ s ⟨a,b,rfl,rfl,hg,rfl⟩
 walk_at "WP"
 by_cases hb:(m:Int)=0
 ·rw [if_neg (fun z=>z hb)]
  have:m=0:=by omega
  subst this
  rw [Nat.gcd_zero_right] at hg
  rw [hg]
  exact .inl k
 ·rw [if_pos hb]
  refine ⟨by omega,a % m,Nat.mod_lt _ (by omega),m,rfl,a % m,?_,?_,rfl⟩
  ·simp
  ·rw [←hg,Nat.gcd_comm a m,Nat.gcd_rec m a,Nat.gcd_comm]
theorem u6 {as st Q} (h:cQ as st Q):au Γ fC (frame 3 as) st (ae st Q):=by
 obtain ⟨n,d,rfl,h1,h2,k⟩:=h
 unfold fC
 walk_at "WP"
 refine ⟨n,d,rfl,?_⟩
 walk_at "WP"
 refine ⟨lX h1 h2,lX h1 h2,?_⟩
 rw [←Int.natCast_ediv,←Int.natCast_ediv]
 exact .inl k
theorem zD {X:List PV} {x:PV}:i4 (X++[x]) none (some (-1))=X:=by
 unfold i4
 have e:HT.sIx (X++[x]).length (X++[x]).length (some (-1))=X.length:=by
  show (if (-1:Int)<0 then ((-1:Int)+((X++[x]).length:Int)).toNat else min (-1:Int).toNat (X++[x]).length)=_
  rw [if_pos (by decide)]
  simp
  omega
 rw [HT.sIx_none,e]
 simp
theorem bA {p:Prop} {inst:Decidable p} {A B:Prop} (h1:p→A) (h2:¬p→B):@ite Prop p inst A B:=by
 by_cases h:p
 ·rw [if_pos h];exact h1 h
 ·rw [if_neg h];exact h2 h
theorem BdU.mono {N M:Nat} {U:List Un3} (h:BdU N U) (hm:N≤M):BdU M U:=fun u hu=>⟨Nat.le_trans (h u hu).1 hm,Nat.le_trans (h u hu).2.1 hm,Nat.le_trans (h u hu).2.2 hm⟩
theorem GU:tD 10 8:=⟨by decide,by decide,by decide⟩
theorem Rt.at_:∀ {r:List Pc} {b hh:Rat} {i:Nat} {p:Pc},Rt b hh r→r[i]?=some p→p.Ok∧p.L≤p.H∧p.E≤p.H∧b<p.E∧hh≤p.L
 | q::r,b,hh,0,p,⟨h1,h2,h3,h4,h5,h6⟩,e=>by cases e;exact ⟨h1,h4,h5,h2,h3⟩
 | q::r,b,hh,i+1,p,⟨h1,h2,h3,h4,h5,h6⟩,e=>by
  obtain ⟨k1,k2,k3,k4,k5⟩:=h6.at_ (i:=i) (by simpa using e)
  exact ⟨k1,k2,k3,by grind,by grind⟩
theorem Rt.two:∀ {r:List Pc} {b hh:Rat} {i:Nat} {q p:Pc},Rt b hh r→r[i]?=some q→r[i+1]?=some p→q.E<p.E∧q.H≤p.L
 | a::r,b,hh,0,q,p,⟨h1,h2,h3,h4,h5,h6⟩,e1,e2=>by
  cases e1
  have:=h6.at_ (i:=0) (by simpa using e2)
  exact ⟨this.2.2.2.1,this.2.2.2.2⟩
 | a::r,b,hh,i+1,q,p,⟨h1,h2,h3,h4,h5,h6⟩,e1,e2=>h6.two (i:=i) (by simpa using e1) (by simpa using e2)
theorem RtF.at_ {L:List Pc} {i:Nat} {p:Pc} (h:RtF L) (e:L[i]?=some p):p.Ok∧p.L≤p.H∧p.E≤p.H:=by
 cases L with
 | nil=>simp at e
 | cons a r =>
  cases i with
  | zero=>cases e;exact ⟨h.1,h.2.1,h.2.2.1⟩
  | succ i =>
   obtain ⟨k1,k2,k3,k4,k5⟩:=h.2.2.2.2.at_ (i:=i) (by simpa using e)
   exact ⟨k1,k2,k3⟩
theorem RtF.two {L:List Pc} {i:Nat} {q p:Pc} (h:RtF L) (e1:L[i]?=some q) (e2:L[i+1]?=some p):q.E<p.E∧q.H≤p.L:=by
 cases L with
 | nil=>simp at e1
 | cons a r =>
  cases i with
  | zero =>
   cases e1
   obtain ⟨k1,k2,k3,k4,k5⟩:=h.2.2.2.2.at_ (i:=0) (by simpa using e2)
   exact ⟨k4,k5⟩
  | succ i=>exact h.2.2.2.2.two (i:=i) (by simpa using e1) (by simpa using e2)
noncomputable def bg (L:List Pc):Nat→Nat × Nat
 | 0=>(0,1)
 | i+1=>((L[i]?).map Pc.e).getD (0,1)
noncomputable def hg (L:List Pc):Nat→Nat × Nat
 | 0=>(0,1)
 | i+1=>((L[i]?).map Pc.h).getD (0,1)
theorem mN {p q:Nat × Nat} {j:Nat} (hp:Sz j p) (hq:Sz j q) (h:val q≤val p):decide (p.1*q.2<q.1*p.2)=false:=decide_eq_false fun z=>by
 have:=(f_ hp.pos hq.pos).mp z
 grind
theorem jz {p q:Nat × Nat} {j:Nat} (hp:Sz j p) (hq:Sz j q) (h:val p<val q):decide (p.1*q.2<q.1*p.2)=true:=decide_eq_true ((f_ hp.pos hq.pos).mpr h)
theorem NG.at_:∀ {L:List Pc} {b:Nat × Nat} {i:Nat} {a p:Pc},NG b L→L[i]?=some a→L[i+1]?=some p→gB (if i=0 then b else bg L i) a p=false
 | [],_,_,_,_,_,e,_=>by simp at e
 | [_],_,i,_,_,_,_,e=>by simp at e
 | x::y::r,b,0,a,p,h,e1,e2=>by
  cases e1
  cases e2
  exact h.1
 | x::y::r,b,i+1,a,p,h,e1,e2=>by
  have:=h.2.at_ (i:=i) (by simpa using e1) (by simpa using e2)
  rw [if_neg (by omega)]
  cases i with
  | zero=>simpa [bg] using this
  | succ i=>rw [if_neg (by omega)] at this;simpa [bg] using this
theorem bgS {L:List Pc} {i:Nat} {q:Pc} (h:L[i]?=some q):bg L (i+1)=q.e:=by show ((L[i]?).map Pc.e).getD (0,1)=_;rw [h];rfl
theorem nb {L:List Pc} {i:Nat} {q:Pc} (hR:RtF L) (hq:L[i]?=some q):Cop (bg L i)∧val (bg L i)≤q.E∧(val (bg L i)=q.E→q.L=q.H)∧(i≠0→val (bg L i)<q.E):=by
 obtain ⟨qok,q1,q2⟩:=hR.at_ hq
 cases i with
 | zero =>
  refine ⟨F7,?_,?_,fun z=>absurd rfl z⟩
  ·show val (0,1)≤_;rw [nv];exact DU qok.e.pos
  ·show val (0,1)=_→_
   rw [nv]
   cases L with
   | nil=>simp at hq
   | cons a r=>cases hq;exact hR.2.2.2.1
 | succ i =>
  have il:=(List.getElem?_eq_some_iff.mp hq).1
  have ha:L[i]?=some L[i]:=List.getElem?_eq_getElem (by omega)
  obtain ⟨k1,k2⟩:=hR.two ha hq
  rw [bgS ha]
  exact ⟨(hR.at_ ha).1.e,Rat.le_of_lt k1,fun z=>absurd z (by grind),fun _=>k1⟩
theorem RU.rt {d:Nat} (h0:0<d):∀ {U:List Un3} {b hh:Nat},RU b hh U→Rt ((b:Rat)/d) ((hh:Rat)/d) (U.map (Et d))
 | [],_,_,_=>trivial
 | u::r,b,hh,⟨h1,h2,h3,h4,h5⟩=>by
  have dp:=bO h0
  have lt:∀ {x y:Nat},x<y→(x:Rat)/d<(y:Rat)/d:=fun h=>by
   rw [Rat.div_lt_iff dp]
   have e:∀y:Rat,y/d*d=y:=fun y=>by grind
   rw [e]
   exact Rat.natCast_lt_natCast.mpr h
  have le:∀ {x y:Nat},x≤y→(x:Rat)/d≤(y:Rat)/d:=fun {x y} h=>by
   by_cases e:x=y
   ·rw [e];exact Rat.le_refl
   ·exact Rat.le_of_lt (lt (by omega))
  have ih:=RU.rt h0 h5
  refine ⟨⟨.low h0,.low h0,.low h0⟩,?_,?_,?_,?_,?_⟩
  ·show _<val (bc u.1 d);rw [aG h0];exact lt h1
  ·show _≤val (bc u.2.1 d);rw [aG h0];exact le h2
  ·show val (bc u.2.1 d)≤val (bc u.2.2 d);rw [aG h0,aG h0];exact le h3
  ·show val (bc u.1 d)≤val (bc u.2.2 d);rw [aG h0,aG h0];exact le h4
  ·show Rt (val (bc u.1 d)) (val (bc u.2.2 d)) _
   rw [aG h0,aG h0]
   exact ih
theorem RUF.rt {d:Nat} (h0:0<d) {U:List Un3} (h:RUF U):RtF (U.map (Et d)):=by
 cases U with
 | nil=>trivial
 | cons u r =>
  obtain ⟨h1,h2,h3,h4⟩:=h
  have dp:=bO h0
  have le:∀ {x y:Nat},x≤y→(x:Rat)/d≤(y:Rat)/d:=fun {x y} h=>by
   rw [←Rat.not_lt,Rat.div_lt_iff dp]
   have e:∀y:Rat,y/d*d=y:=fun y=>by grind
   rw [e,Rat.not_lt]
   exact Rat.natCast_le_natCast.mpr h
  refine ⟨⟨.low h0,.low h0,.low h0⟩,?_,?_,?_,?_⟩
  ·show val (bc u.2.1 d)≤val (bc u.2.2 d);rw [aG h0,aG h0];exact le h1
  ·show val (bc u.1 d)≤val (bc u.2.2 d);rw [aG h0,aG h0];exact le h2
  ·show 0=val (bc u.1 d)→val (bc u.2.1 d)=val (bc u.2.2 d)
   rw [aG h0,aG h0,aG h0]
   intro z
   have:u.1=0:=by
    have e:(u.1:Rat)=0:=by grind
    exact Rat.natCast_eq_zero_iff.mp e
   rw [h3 this]
  ·show Rt (val (bc u.1 d)) (val (bc u.2.2 d)) _
   rw [aG h0,aG h0]
   exact h4.rt h0
theorem tY {n d:Nat} (h0:0<d) (h1:n<2 ^ 60) (h2:d<2 ^ 60):Sz 60 (bc n d):=⟨Nat.lt_of_le_of_lt (gG _ _) h1,Nat.lt_of_le_of_lt (gk _ _) h2,cY h0⟩
theorem BdU.sz {d:Nat} {U:List Un3} (h0:0<d) (h1:d<10 ^ 12) (h:BdU (10 ^ 11) U):SzL 60 (U.map (Et d)):=fun p hp=>by
 obtain ⟨u,hu,rfl⟩:=List.mem_map.mp hp
 obtain ⟨b1,b2,b3⟩:=h u hu
 exact ⟨tY h0 (by omega) (by omega),tY h0 (by omega) (by omega),tY h0 (by omega) (by omega)⟩
theorem sI {as st Q} (h:dv as st Q):au Γ eW (frame 2 as) st (ae st Q):=by
 obtain ⟨p,q,rfl,hp,hq,k⟩:=h
 unfold eW
 walk_at "WP"
 exact ⟨dh hp.a hq.b,dh hq.a hp.b,.inl k⟩
theorem uX {as st Q} (h:aR as st Q):au Γ fB (frame 2 as) st (ae st Q):=by
 obtain ⟨p,q,rfl,hp,hq,k⟩:=h
 unfold fB
 walk_at "WP"
 refine ⟨dh hp.a hq.b,dh hq.a hp.b,?_⟩
 rw [←Int.natCast_mul,←Int.natCast_mul]
 simp only [Int.ofNat_lt]
 exact .inl k
theorem bQ {p:Nat × Nat} (h:0<p.2):(p.1:Rat)=val p*(p.2:Rat):=by
 have:(p.2:Rat)≠0:=by simpa using Nat.pos_iff_ne_zero.mp h
 unfold val
 grind
theorem vU {N Y F G X c:Rat} (hc:c≠0) (h:N<F):(c*(Y*(F-X)+G*(X-N)))/(c*(F-N))=Y+(G-Y)*((X-N)/(F-N)):=by
 have:F-N≠0:=by grind
 grind
theorem oF {as st Q} (h:bV as st Q):au Γ dM (frame 10 as) st (ae st Q):=by
 obtain ⟨sa,sb,sc,sd,m,nx,ny,fx,fy,x,rfl,j2,⟨z1,z2,z3,z4,z5⟩,⟨v1,v2,v3⟩,k⟩:=h
 unfold dM
 walk_at "WP"
 have hD:nx.1*x.2≤x.1*nx.2:=(iB z1.pos z5.pos).mpr v2
 have hE:x.1*fx.2≤fx.1*x.2:=(iB z5.pos z3.pos).mpr v3
 have cD:(x.1:Int)*nx.2-nx.1*x.2=((x.1*nx.2-nx.1*x.2:Nat):Int):=by rw [Int.natCast_sub hD,Int.natCast_mul,Int.natCast_mul]
 have cE:(fx.1:Int)*x.2-x.1*fx.2=((fx.1*x.2-x.1*fx.2:Nat):Int):=by rw [Int.natCast_sub hE,Int.natCast_mul,Int.natCast_mul]
 refine ⟨_,_,rfl,z5.mono (by omega),z1.mono (by omega),?_⟩
 rw [cD]
 walk_at "WP"
 refine ⟨?_,_,_,rfl,z3.mono (by omega),z5.mono (by omega),?_⟩
 rotate_left
 rw [cE]
 walk_at "WP"
 simp only [←Int.natCast_mul,←Int.natCast_add]
 generalize hDd:x.1*nx.2-nx.1*x.2=D
 generalize hEe:fx.1*x.2-x.1*fx.2=E
 have p1:=bO z1.pos
 have p2:=bO z2.pos
 have p3:=bO z3.pos
 have p4:=bO z4.pos
 have p5:=bO z5.pos
 have qD:(D:Rat)=(val x-val nx)*(x.2*nx.2):=by
  have:=congrArg (fun k:Nat=>(k:Rat)) (Nat.sub_add_cancel hD)
  rw [hDd] at this
  simp only [Rat.natCast_add,Rat.natCast_mul] at this
  rw [bQ z1.pos,bQ z5.pos] at this
  grind
 have qE:(E:Rat)=(val fx-val x)*(fx.2*x.2):=by
  have:=congrArg (fun k:Nat=>(k:Rat)) (Nat.sub_add_cancel hE)
  rw [hEe] at this
  simp only [Rat.natCast_add,Rat.natCast_mul] at this
  rw [bQ z3.pos,bQ z5.pos] at this
  grind
 have bD:D<2 ^ (m+sa):=by rw [←hDd];exact Nat.lt_of_le_of_lt (Nat.sub_le _ _) (a_ z5.a z1.b)
 have bE:E<2 ^ (sc+m):=by rw [←hEe];exact Nat.lt_of_le_of_lt (Nat.sub_le _ _) (a_ z3.a z5.b)
 have b1:D*fx.2<2 ^ (m+sa+sc):=a_ bD z3.b
 have b2:E*nx.2<2 ^ (m+sa+sc):=by
  have:=a_ bE z1.b
  rwa [show sc+m+sa=m+sa+sc by omega] at this
 have a1:ny.1*fy.2<2 ^ (sb+sd):=a_ z2.a z4.b
 have a2:fy.1*ny.2<2 ^ (sb+sd):=by
  have:=a_ z4.a z2.b
  rwa [Nat.add_comm sd sb] at this
 have a3:ny.2*fy.2<2 ^ (sb+sd):=a_ z2.b z4.b
 have b3:E*nx.2+D*fx.2<2 ^ (m+sa+sc+1):=by
  have:(2:Nat) ^ (m+sa+sc+1)=2 ^ (m+sa+sc)+2 ^ (m+sa+sc):=by rw [Nat.pow_succ];omega
  omega
 have c1:=a_ a1 b2
 have c2:=a_ a2 b1
 have c3:=a_ a3 b3
 have c4:ny.1*fy.2*(E*nx.2)+fy.1*ny.2*(D*fx.2)<2 ^ (sa+sb+sc+sd+m+2):=by
  have h1:(2:Nat) ^ (sb+sd+(m+sa+sc))+2 ^ (sb+sd+(m+sa+sc))≤2 ^ (sa+sb+sc+sd+m+2):=by
   have e:2 ^ (sb+sd+(m+sa+sc)+1)≤2 ^ (sa+sb+sc+sd+m+2):=dA (by omega)
   rw [Nat.pow_succ] at e
   omega
  omega
 have up:∀ {a j:Nat},a<2 ^ j→j≤3000→a<2 ^ 3000:=fun h hj=>Nat.lt_of_lt_of_le h (dA hj)
 have dpos:0<E*nx.2+D*fx.2:=by
  refine Nat.pos_of_ne_zero fun z=>?_
  have e:((E*nx.2+D*fx.2:Nat):Rat)=0:=by rw [z];rfl
  simp only [Rat.natCast_add,Rat.natCast_mul] at e
  rw [qD,qE] at e
  have:(val fx-val nx)*((fx.2:Rat)*x.2*nx.2)=0:=by grind
  have w:0<(val fx-val nx)*((fx.2:Rat)*x.2*nx.2):=Rat.mul_pos (by grind) (Rat.mul_pos (Rat.mul_pos p3 p5) p1)
  grind
 have hpos:=Nat.mul_pos (Nat.mul_pos z2.pos z4.pos) dpos
 refine ⟨dh (up bE (by omega)) (up z1.b (by omega)),dh (up z2.a (by omega)) (up z4.b (by omega)),dh (up a1 (by omega)) (up b2 (by omega)),dh (up z4.a (by omega)) (up z2.b (by omega)),dh (up a2 (by omega)) (up b1 (by omega)),dh (up z2.b (by omega)) (up z4.b (by omega)),dh (up a3 (by omega)) (up b3 (by omega)),
  _,_,rfl,hpos,Nat.lt_of_lt_of_le c3 (dA (by omega)),.inl ?_⟩
 rw [kD]
 refine k _ ⟨cY hpos,nB hpos⟩ ⟨Nat.lt_of_le_of_lt (gG _ _) c4,Nat.lt_of_le_of_lt (gk _ _) (Nat.lt_of_lt_of_le c3 (dA (by omega))),cY hpos⟩ ?_
 rw [aG hpos]
 simp only [Rat.natCast_add,Rat.natCast_mul]
 rw [qD,qE,bQ z2.pos,bQ z4.pos]
 have hc:(ny.2:Rat)*fy.2*fx.2*x.2*nx.2≠0:=by
  have:=Rat.mul_pos (Rat.mul_pos (Rat.mul_pos (Rat.mul_pos p2 p4) p3) p5) p1
  grind
 rw [←vU (Y:=val ny) (G:=val fy) (X:=val x) hc v1]
 congr 1 <;> grind
 exact dh (Nat.lt_of_lt_of_le (Nat.lt_of_le_of_lt (Nat.sub_le _ _) (a_ z5.a z1.b)) (dA (by omega))) (Nat.lt_of_lt_of_le z3.b (dA (by omega)))
theorem Ch.cut {t:Rat}:∀ {L:List Pc} {b:Rat},Ch b L→∃k,k≤L.length∧(∀(i:Nat) p,L[i]?=some p→i<k→p.E<t)∧∀(i:Nat) p,L[i]?=some p→k≤i→t≤p.E
 | [],b,_=>⟨0,Nat.le_refl _,fun i p e=>by simp at e,fun i p e=>by simp at e⟩
 | p::r,b,⟨h1,h2,h3,h4⟩=>by
  by_cases q:t≤p.E
  ·refine ⟨0,Nat.zero_le _,fun i p _ h=>absurd h (Nat.not_lt_zero _),fun i p' e _=>?_⟩
   cases i with
   | zero=>cases e;exact q
   | succ i =>
    have:∀ {r:List Pc} {b:Rat} {i:Nat} {p':Pc},Ch b r→r[i]?=some p'→b<p'.E:=by
     intro r
     induction r with
     | nil=>intro b i p' _ e;simp at e
     | cons a r ih =>
      intro b i p' ⟨g1,g2,g3,g4⟩ e
      cases i with
      | zero=>cases e;exact g2
      | succ i=>have:=ih g4 (by simpa using e);grind
    have:=this h4 (by simpa using e)
    grind
  ·obtain ⟨k,k1,k2,k3⟩:=h4.cut (t:=t)
   refine ⟨k+1,by simp;omega,fun i p' e h=>?_,fun i p' e h=>?_⟩
   ·cases i with
    | zero=>cases e;grind
    | succ i=>exact k2 i p' (by simpa using e) (by omega)
   ·cases i with
    | zero=>omega
    | succ i=>exact k3 i p' (by simpa using e) (by omega)
theorem RtF.cut {L:List Pc} {t:Rat} (h:RtF L):∃k,k≤L.length∧(∀(i:Nat) p,L[i]?=some p→i<k→p.E<t)∧∀(i:Nat) p,L[i]?=some p→k≤i→t≤p.E:=by
 cases L with
 | nil=>exact ⟨0,Nat.le_refl _,fun i p e=>by simp at e,fun i p e=>by simp at e⟩
 | cons a r=>exact Ch.cut (b:=a.E-1) ⟨h.1,by grind,h.2.1,h.2.2.2.2.ch⟩
noncomputable def Hq (b:Rat) (X:List Pc):Rat:=(X.getLast?.map Pc.E).getD b
theorem NG.tail {b:Nat × Nat} {a:Pc} {r:List Pc} (h:NG b (a::r)):NG a.e r:=by
 cases r with
 | nil=>trivial
 | cons p r=>exact h.2
noncomputable def nxE (P:Fr→AH→Prop):aL:={ nx:=P,rt:=fun _ _=>False }
theorem E3 {P:Fr→AH→Prop} {ρ:Fr} {st:AH}:(nxE P).nx ρ st=P ρ st:=rfl
local macro_rules | `(tactic| walk_at "WPN")=>`(tactic| simp only [uk,t5,uI,uH,pJ,z_,yc,yd,Aq,vK,Ax,zN,t4,vh,uS,qM,tB,Bc,vO,yk,uL,EX,pS,yH,uR,uV,u7,uU,A6,uN,Bk,zA,Ez,AX,Bu,Dp,yT,yP,vC,AQ,AM,AL,zQ,ya,DB,yM,DM,E4,uY,AU,tX,Aj,u5,AF,qF,qR,ut,Bz,zR,zZ,zB,uj,q8,Eh,AC,yu,Ee,A3,zP,Au,vc,Ac,vi,zK,Ei,ul,pO,tK,qh,qx,vo,qB,t6,qw,vI,AI,t8,nR,e_,iS,iH,qK,nL,yC,Bt,zw,yr,Bm,yQ,tV,vt,vN,uK,vj,uA,yX,EN,zj,zM,Bp,A9,Bn,Ar,uC,Bd,Dl,E1,Bo,Bs,vf,ve,E9,Ed,DZ,Fd,AJ,A8,y8,kH,mr,kL,kO,jO,kI,rc,pU,qy,qY,mY,nJ,nG,ko,kJ,iA,j6,nw,kz,kw,kW,j7,AT,yg,yA,oW,nD,Az,yI,Bv,yz,Ba,Ak,u4,uT,tR,zE,Ay,nC,u9,vL,vJ,pF,qH,yh,pB,qP,AS,Ek,DY,E6,Fa,EU,Bw,frame,Γ_0,Γ_1,Γ_2,Γ_3,Γ_4,Γ_5,Γ_6,Γ_7,Γ_8,Γ_9,Fc,DI,E7,D9,Dr,Dc,Di,D1,EH,D2,DH,DV,DN,Ev,DQ,Fi,De,DF,ET,El,Ey,Du,Fe,Fb,DT,Nat.add_assoc,fj,cJ,List.append_assoc,List.length_append,List.length_set,List.map_cons,List.map_nil,List.length_cons,List.length_nil,List.replicate,List.cons_append,List.nil_append,List.append_nil,List.getElem?_cons_zero,List.getElem?_cons_succ,List.set_cons_zero,List.set_cons_succ,Option.some.injEq,Cell.lst.injEq,PV.int.injEq,PV.bl.injEq,PV.ref.injEq,PV.str.injEq,PV.tup.injEq,PV.rdl.injEq,List.cons.injEq,and_true,true_and,exists_eq_left,exists_eq_left',exists_eq_right,exists_and_left,exists_and_right,exists_const,Bool.not_true,Bool.not_false,Bool.not_not,Bool.not_eq_true',decide_eq_true_eq,decide_eq_false_iff_not,false_and,and_false,false_or,or_false,if_true,if_false,Bool.false_eq_true,reduceCtorEq,reduceIte,not_false_eq_true,Nat.add_zero,Nat.zero_add,Nat.reduceAdd,Nat.reduceSub,Nat.reduceLeDiff,Int.reduceToNat,Int.reducePow,Int.reduceLT,Int.reduceLE,Int.reduceNeg,Int.reduceAdd,Int.reduceSub,Int.reduceMul,uf,qp,exists_eq,exists_eq',exists_false,ne_eq,not_true_eq_false,and_assoc,Option.join_some,Option.join_none,decide_true,decide_false,tI,uW,tN,uz,vF,tW,tU,Int.reduceEq,Nat.reduceEqDiff,Bool.not_eq_false,Bool.not_eq_true,Bool.and_true,Bool.true_and,Bool.and_false,Bool.false_and,Bool.or_false,Bool.or_true,E3])
theorem bZ {s:S} {ss:Ss} {ρ:Fr} {st:AH} {D:aL} (P:Fr→AH→Prop) (h1:wpS Γ s ρ st (nxE P)) (h2:∀ρ' st',P ρ' st'→au Γ ss ρ' st' D):au Γ (.cons s ss) ρ st D:=by
 cases ss with
 | nil=>exact jc (D:=nxE P) Γm s ⟨fun ρ st z=>h2 ρ st z,fun _ _ z=>False.elim z,fun _ _ z=>False.elim z,fun _ _ z=>False.elim z⟩ h1
 | cons s2 ss=>exact jc (D:=nxE P) (D':=aft Γ (.cons s2 ss) D) Γm s ⟨fun ρ st z=>h2 ρ st z,fun _ _ z=>False.elim z,fun _ _ z=>False.elim z,fun _ _ z=>False.elim z⟩ h1
theorem uG {as st Q} (h:d4 as st Q):au Γ fu (frame 4 as) st (ae st Q):=by
 obtain ⟨n,d,rfl,h0,h1,k⟩:=h
 unfold fu
 walk_at "WP"
 refine mi Γm (fun j ρ s=>s=st∧∃a:Nat,ρ=[some (.int n),some (.int d),some (.int a),some (.int j)]∧Nat.gcd a j=Nat.gcd n d) (n:=d) ⟨rfl,n,rfl,rfl⟩ ?_
 rintro m ρ s ⟨rfl,a,rfl,hg⟩
 walk_at "WP"
 by_cases hb:(0:Int)<m
 ·rw [if_pos hb]
  exact ⟨hb,a % m,Nat.mod_lt _ (by omega),m,rfl,by simp,by rw [←hg,Nat.gcd_comm a m,Nat.gcd_rec m a,Nat.gcd_comm]⟩
 ·rw [if_neg hb]
  have:m=0:=by omega
  subst this
  rw [Nat.gcd_zero_right] at hg
  subst hg
  refine ⟨lX h0 h1,lX h0 h1,?_⟩
  rw [←Int.natCast_ediv,←Int.natCast_ediv]
  exact .inl k
theorem qk {as st Q} (h:cG as st Q):au Γ ef (frame 3 as) st (ae st Q):=by
 obtain ⟨p,many,rfl,⟨q,r,hp,hq,hr0,hr1⟩,hm,hm2,k⟩:=h
 have g0:Gr st p st:=.refl ⟨q,r,hp,hq,hr0,hr1⟩
 unfold ef
 walk_at "WP"
 refine ⟨_,ad hp,_,oW,?_⟩
 walk_at "WP"
 by_cases hz:0<q
 ·rw [if_pos hz]
  refine ⟨_,ad hp,_,oW,?_⟩
  walk_at "WP"
  refine ⟨v9 hm hm2,_,hp,0,rfl,?_⟩
  exact .inl (k _ _ (Int.emod_nonneg _ (by omega)) (Int.emod_lt_of_pos _ hm) (g0.set ⟨Int.ediv_nonneg (by omega) (by omega),hr0,hr1⟩))
 ·rw [if_neg hz]
  refine ⟨_,ad hp,_,nD,?_⟩
  walk_at "WP"
  refine ⟨oM (by decide) (by decide),_,hp,1,rfl,?_⟩
  have hs:∀z,(st.set p (pc q z))[p]?=some (pc q z):=fun z=>List.getElem?_set_self (ag hp)
  refine ⟨_,ad (hs _),_,nD,_,ad (hs _),_,nD,?_⟩
  walk_at "WP"
  refine ⟨sE (by omega) (by omega),v9 (by decide) (by decide),hm,?_⟩
  exact .inl (k _ _ (Int.emod_nonneg _ (by omega)) (Int.emod_lt_of_pos _ hm) (g0.set ⟨hq,by omega,by omega⟩))
theorem ue {as st Q} (h:dY as st Q):au Γ fv (frame 5 as) st (ae st Q):=by
 obtain ⟨ns,m,rfl,hl,hm,k⟩:=h
 unfold fv
 walk_at "WP"
 rw [Gh hl]
 refine ⟨sE (by decide) (by decide),_,ad ak,?_⟩
 refine cC Γm (fun i ρ s=>s=st++[.lst (ns.map PV.int)]∧∃(z:Int) (a:Option PV),ρ=[some (.rdl (ns.map PV.int)),some (.int m),some (.int z),a,none]∧0≤z∧z<8589934592) ⟨rfl,_,_,rfl,by omega,by omega⟩ ?_ ?_
 ·rintro i v ρ s hi ⟨rfl,z,a,rfl,hz,hz1⟩
  rw [List.getElem?_map] at hi
  obtain ⟨y,hy,rfl⟩:=Option.map_eq_some_iff.mp hi
  refine ⟨rfl,?_⟩
  walk_at "WP"
  exact ⟨oM (by decide) (by decide),by omega,by omega⟩
 ·rintro ρ s ⟨rfl,z,a,rfl,hz,hz1⟩
  refine ⟨rfl,?_⟩
  walk_at "WP"
  have fin:∀(y:Int) (b:Bool),(b=true→0≤y)→tD 10 18∧CMB y (b2z b)∧Ret st Q (PV.ref (List.length st+1)) (st++[Cell.lst (ns.map PV.int),Cell.lst [PV.int (y*b2z b),PV.int z]]):=fun y b hb=>by
   refine ⟨Fv,?_,.inl (k _ _ ⟨_,_,by rw [fj (k:=1)];rfl,?_,hz,hz1⟩)⟩
   ·unfold b2z;split <;> exact oM (by decide) (by decide)
   ·unfold b2z
    split
    ·rename_i q;have:=hb q;omega
    ·omega
  rw [List.length_map]
  by_cases hl:m<ns.length
  ·rw [if_pos (by omega)]
   refine ⟨_,yy hl,?_⟩
   walk_at "WP"
   exact fin _ _ fun q=>by have:=of_decide_eq_true q;omega
  ·rw [if_neg (by omega)]
   exact fin 0 false fun q=>by cases q
theorem bz (b:Bool):b2z b=0∨b2z b=1:=by cases b <;> simp [b2z]
theorem vE {x:Int} {b:Bool} (h:0≤x):0≤x*b2z b∧x*b2z b≤x:=by
 rcases bz b with e|e <;> rw [e] <;> omega
theorem ua {x:Int} {b:Bool}:CMB x (b2z b):=by
 rcases bz b with e|e <;> rw [e] <;> exact oM (by decide) (by decide)
theorem aM {st:AH} {n:Nat} {xs:List PV} (h:st[n]?=some (.lst xs)):br st (.ref n)=some xs:=by simp [br,h]
theorem Gr.push {st s:AH} {p:Nat} (g:Gr st p s) {L:List PV} {n:Nat} (hn:st.length≤n):Gr st p (s.set n (.lst L)):=g.setN hn
theorem IsOff.uniq {X:List Rr} {t:Rat} {o o':Option Rat} (h:IsOff X t o) (h':IsOff X t o'):o=o':=by
 cases o with
 | none =>
  cases o' with
  | none=>rfl
  | some y=>obtain ⟨⟨r,h1,h2,_⟩,_⟩:=h';exact absurd h2 (h r h1)
 | some x =>
  obtain ⟨⟨r,h1,h2,h3⟩,h4⟩:=h
  cases o' with
  | none=>exact absurd h2 (h' r h1)
  | some y =>
   obtain ⟨⟨r',g1,g2,g3⟩,g4⟩:=h'
   have a:=h4 r' g1 g2
   have b:=g4 r h1 h2
   congr 1
   grind
theorem IsOut.uniq {X:List Rr} {t:Rat} {o o':Option (Rat × Rat)} (h:IsOut X t o) (h':IsOut X t o'):o=o':=by
 cases o with
 | none =>
  cases o' with
  | none=>rfl
  | some y =>
   obtain ⟨g0,⟨r,h1,h2,_⟩,_⟩:=h'
   have a:=h r h1
   have b:=h2.2
   exfalso
   grind
 | some x =>
  obtain ⟨h0,⟨r,h1,h2,h3⟩,h4⟩:=h
  cases o' with
  | none =>
   have a:=h' r h1
   have b:=h2.2
   exfalso
   grind
  | some y =>
   obtain ⟨g0,⟨r',g1,g2,g3⟩,g4⟩:=h'
   have a:=h4 r' g1 y.1 g0 g2
   have b:=g4 r h1 x.1 h0 h2
   have e:x.2=y.2:=by grind
   have e1:x.1=y.1:=by
    have a2:=a.2 (by rw [g3,e])
    have b2:=b.2 (by rw [h3,e])
    grind
   obtain ⟨x1,x2⟩:=x
   obtain ⟨y1,y2⟩:=y
   have e:x2=y2:=e
   have e1:x1=y1:=e1
   rw [e,e1]
theorem IsOff.snoc {X:List Rr} {r:Rr} {t:Rat} {o:Option Rat} (h:IsOff X t o) (no:¬r.has t):IsOff (X++[r]) t o:=by
 cases o with
 | none =>
  intro q hq
  rcases List.mem_append.mp hq with hq|hq
  ·exact h q hq
  ·rw [List.mem_singleton] at hq;rw [hq];exact no
 | some y =>
  obtain ⟨⟨q,h1,h2⟩,h3⟩:=h
  refine ⟨⟨q,by simp [h1],h2⟩,fun q hq hh=>?_⟩
  rcases List.mem_append.mp hq with hq|hq
  ·exact h3 q hq hh
  ·rw [List.mem_singleton] at hq;rw [hq] at hh;exact absurd hh no
theorem IsOff.keep {X:List Rr} {r:Rr} {t y:Rat} (h:IsOff X t (some y)) (le:r.has t→y≤r.to t):IsOff (X++[r]) t (some y):=by
 obtain ⟨⟨q,h1,h2⟩,h3⟩:=h
 refine ⟨⟨q,by simp [h1],h2⟩,fun q hq hh=>?_⟩
 rcases List.mem_append.mp hq with hq|hq
 ·exact h3 q hq hh
 ·rw [List.mem_singleton] at hq;rw [hq] at hh ⊢;exact le hh
theorem IsOff.new {X:List Rr} {r:Rr} {t:Rat} {o:Option Rat} (h:IsOff X t o) (hh:r.has t) (le:∀y,o=some y→r.to t≤y):IsOff (X++[r]) t (some (r.to t)):=by
 refine ⟨⟨r,by simp,hh,rfl⟩,fun q hq hq2=>?_⟩
 rcases List.mem_append.mp hq with hq|hq
 ·cases o with
  | none=>exact absurd hq2 (h q hq)
  | some y =>
   have:=h.2 q hq hq2
   have:=le y rfl
   grind
 ·rw [List.mem_singleton] at hq;rw [hq];exact Rat.le_refl
theorem IsOut.skip {X:List Rr} {r:Rr} {t:Rat} {o:Option (Rat × Rat)} (h:IsOut X t o) (no:r.L<t):IsOut (X++[r]) t o:=by
 cases o with
 | none =>
  intro q hq
  rcases List.mem_append.mp hq with hq|hq
  ·exact h q hq
  ·rw [List.mem_singleton] at hq;rw [hq];exact no
 | some p =>
  obtain ⟨h0,⟨q,h1,h2⟩,h3⟩:=h
  refine ⟨h0,⟨q,by simp [h1],h2⟩,fun q hq v tv hv=>?_⟩
  rcases List.mem_append.mp hq with hq|hq
  ·exact h3 q hq v tv hv
  ·rw [List.mem_singleton] at hq;rw [hq] at hv
   have:=hv.2
   exfalso
   grind
theorem IsOut.more {X:List Rr} {r:Rr} {t:Rat} {o:Option (Rat × Rat)} {p:Rat × Rat} (h:IsOut X t o) (hp:IsOut [r] t (some p)) :
  (∀b,o=some b→¬((p.2=b.2∧p.1<b.1)∨p.2<b.2)→IsOut (X++[r]) t o)∧((o=none∨∃b,o=some b∧((p.2=b.2∧p.1<b.1)∨p.2<b.2))→IsOut (X++[r]) t (some p)):=by
 obtain ⟨p0,⟨r',p1,p2,p3⟩,p4⟩:=hp
 rw [List.mem_singleton] at p1
 subst p1
 refine ⟨fun b e nb=>?_,fun hb=>?_⟩
 ·subst e
  obtain ⟨h0,⟨q,h1,h2⟩,h3⟩:=h
  refine ⟨h0,⟨q,by simp [h1],h2⟩,fun q hq v tv hv=>?_⟩
  rcases List.mem_append.mp hq with hq|hq
  ·exact h3 q hq v tv hv
  ·rw [List.mem_singleton] at hq;rw [hq] at hv ⊢
   have:=p4 r' (by simp) v tv hv
   exact ⟨by grind,fun e=>by grind⟩
 ·refine ⟨p0,⟨r',by simp,p2,p3⟩,fun q hq v tv hv=>?_⟩
  rcases List.mem_append.mp hq with hq|hq
  ·rcases hb with rfl|⟨b,rfl,hb⟩
   ·have:=h q hq
    have:=hv.2
    exfalso
    grind
   ·have:=h.2.2 q hq v tv hv
    exact ⟨by grind,fun e=>by grind⟩
  ·rw [List.mem_singleton] at hq;rw [hq] at hv ⊢
   exact p4 r' (by simp) v tv hv
theorem Rr.line {r:Rr} (h:r.F<r.L):∃s,r.D=r.C+s*(r.L-r.F)∧∀t,r.to t=r.C+s*(t-r.F):=by
 have n:r.L-r.F≠0:=by grind
 refine ⟨(r.D-r.C)/(r.L-r.F),by grind,fun t=>?_⟩
 unfold Rr.to
 rw [if_neg (by grind)]
 grind
theorem Rr.to_L {r:Rr} (h:r.Ok):r.to r.L=r.D:=by
 unfold Rr.to
 by_cases e:r.F=r.L
 ·rw [if_pos e];exact h.eq e
 ·rw [if_neg e]
  have:r.L-r.F≠0:=by grind
  grind
theorem sA {r:Rr} {t:Rat} (ok:r.Ok) (h:t≤r.L) (f:r.D<r.C):IsOut [r] t (some (r.L,r.D)):=by
 have lt:r.F<r.L:=by
  have:=ok.fl
  have:=ok.eq
  grind
 obtain ⟨s,hs,hl⟩:=Rr.line lt
 have sn:s<0:=Classical.byContradiction fun z=>by
  have:=Rat.mul_nonneg (a:=s) (b:=r.L-r.F) (by grind) (by grind)
  grind
 refine ⟨h,⟨r,by simp,⟨ok.fl,Rat.le_refl⟩,Rr.to_L ok⟩,fun q hq v tv hv=>?_⟩
 rw [List.mem_singleton] at hq
 subst hq
 have:=hv.2
 have e:q.to v=q.D+(-s)*(q.L-v):=by rw [hl,hs];grind
 show q.D≤q.to v∧(q.to v=q.D→q.L≤v)
 have p:=Rat.mul_nonneg (a:=-s) (b:=q.L-v) (by grind) (by grind)
 refine ⟨by grind,fun e2=>Classical.byContradiction fun z=>?_⟩
 have:=Rat.mul_pos (a:=-s) (b:=q.L-v) (by grind) (by grind)
 grind
theorem jq {r:Rr} {t u:Rat} (ok:r.Ok) (h:t≤r.L) (f:r.C≤r.D) (hu:(r.F<t∧u=t)∨(t≤r.F∧u=r.F)):IsOut [r] t (some (u,r.to u)):=by
 have fl:=ok.fl
 refine ⟨by grind,⟨r,by simp,⟨by grind,by grind⟩,rfl⟩,fun q hq v tv hv=>?_⟩
 rw [List.mem_singleton] at hq
 subst hq
 show q.to u≤q.to v∧(q.to v=q.to u→u≤v)
 have hF:=hv.1
 have uv:u≤v:=by grind
 refine ⟨?_,fun _=>uv⟩
 by_cases e:q.F=q.L
 ·unfold Rr.to;rw [if_pos e,if_pos e];exact Rat.le_refl
 ·obtain ⟨s,hs,hl⟩:=Rr.line (r:=q) (by grind)
  have sn:0≤s:=Classical.byContradiction fun z=>by
   have:=Rat.mul_pos (a:=-s) (b:=q.L-q.F) (by grind) (by grind)
   grind
  rw [hl,hl]
  have:=Rat.mul_nonneg (a:=s) (b:=v-u) sn (by grind)
  grind
noncomputable abbrev Rr.sc (e:Rat) (r:Rr):Rr:=⟨r.F/e,r.L/e,r.C/e,r.D/e⟩
theorem eO {e x y:Rat} (he:0<e):x/e≤y/e↔x≤y:=by
 have a:x/e*e=x:=by grind
 have b:y/e*e=y:=by grind
 constructor
 ·intro h
  have:=Rat.mul_nonneg (a:=y/e-x/e) (b:=e) (by grind) (by grind)
  grind
 ·intro h
  refine Classical.byContradiction fun z=>?_
  have:=Rat.mul_pos (a:=x/e-y/e) (b:=e) (by grind) he
  grind
theorem Rr.sc_has {e t:Rat} {r:Rr} (he:0<e):(r.sc e).has (t/e)↔r.has t:=by
 unfold Rr.has
 rw [eO he,eO he]
theorem Rr.sc_to {e t:Rat} {r:Rr} (he:0<e):(r.sc e).to (t/e)=r.to t/e:=by
 unfold Rr.to
 by_cases h:r.F=r.L
 ·rw [if_pos h,if_pos (by show r.F/e=r.L/e;rw [h])]
 ·have h2:¬r.F/e=r.L/e:=fun z=>h (by
   have a:r.F/e*e=r.F:=by grind
   have b:r.L/e*e=r.L:=by grind
   rw [←a,←b,z])
  rw [if_neg h,if_neg h2]
  show r.C/e+(r.D/e-r.C/e)*((t/e-r.F/e)/(r.L/e-r.F/e))=_
  have n:r.L-r.F≠0:=by grind
  have q:(t/e-r.F/e)/(r.L/e-r.F/e)=(t-r.F)/(r.L-r.F):=by
   have n2:r.L/e-r.F/e≠0:=by grind
   have k1:r.L/e-r.F/e=(r.L-r.F)/e:=by grind
   have k2:t/e-r.F/e=(t-r.F)/e:=by grind
   rw [k1,k2]
   have n3:(r.L-r.F)/e≠0:=by rw [←k1];exact n2
   grind
  rw [q]
  generalize (t-r.F)/(r.L-r.F)=u
  grind
theorem IsOff.sc {X:List Rr} {t e:Rat} {o:Option Rat} (he:0<e) (h:IsOff X t o):IsOff (X.map (Rr.sc e)) (t/e) (o.map (·/ e)):=by
 cases o with
 | none =>
  intro r hr
  obtain ⟨q,hq,rfl⟩:=List.mem_map.mp hr
  rw [Rr.sc_has he]
  exact h q hq
 | some y =>
  obtain ⟨⟨q,h1,h2,h3⟩,h4⟩:=h
  refine ⟨⟨q.sc e,List.mem_map_of_mem h1,(Rr.sc_has he).mpr h2,by rw [Rr.sc_to he,h3]⟩,fun r hr hh=>?_⟩
  obtain ⟨q,hq,rfl⟩:=List.mem_map.mp hr
  rw [Rr.sc_to he]
  exact (eO he).mpr (h4 q hq ((Rr.sc_has he).mp hh))
theorem IsOut.sc {X:List Rr} {t e:Rat} {o:Option (Rat × Rat)} (he:0<e) (h:IsOut X t o):IsOut (X.map (Rr.sc e)) (t/e) (o.map fun p=>(p.1/e,p.2/e)):=by
 have lt:∀ {x y:Rat},x/e<y/e↔x<y:=fun {x y}=>by have:=eO (x:=y) (y:=x) he;grind
 cases o with
 | none =>
  intro r hr
  obtain ⟨q,hq,rfl⟩:=List.mem_map.mp hr
  exact lt.mpr (h q hq)
 | some p =>
  obtain ⟨h0,⟨q,h1,h2,h3⟩,h4⟩:=h
  refine ⟨(eO he).mpr h0,⟨q.sc e,List.mem_map_of_mem h1,(Rr.sc_has he).mpr h2,by show (q.sc e).to (p.1/e)=p.2/e;rw [Rr.sc_to he,h3]⟩,fun r hr v tv hv=>?_⟩
  obtain ⟨q,hq,rfl⟩:=List.mem_map.mp hr
  have ev:v=(v*e)/e:=by grind
  rw [ev] at tv hv ⊢
  rw [Rr.sc_to he]
  obtain ⟨a,b⟩:=h4 q hq (v*e) ((eO he).mp tv) ((Rr.sc_has he).mp hv)
  refine ⟨(eO he).mpr a,fun z=>(eO he).mpr (b ?_)⟩
  have z:q.to (v*e)/e=p.2/e:=z
  have k1:q.to (v*e)/e*e=q.to (v*e):=by grind
  have k2:p.2/e*e=p.2:=by grind
  rw [←k1,z,k2]
theorem pD {k:Nat} {p q:Nat × Nat} (hp:Sz k p) (hq:Sz k q):decide (p.1*q.2<q.1*p.2)=true↔val p<val q:=by
 rw [decide_eq_true_eq];exact f_ hp.pos hq.pos
theorem pT {as st Q} (h:cH as st Q):au Γ d8 (frame 2 as) st (ae st Q):=by
 obtain ⟨k,q,t,rfl,hk,ok,tz,kk⟩:=h
 unfold d8
 walk_at "WP"
 refine ⟨_,_,rfl,tz.mono (by omega),ok.zf.mono (by omega),_,rfl,?_⟩
 by_cases a:val t<val q.f
 ·rw [jz tz ok.zf a,if_neg (by decide)]
  exact .inl (kk false ⟨fun z=>(by cases z),fun z=>by have:=z.1;exfalso;have:val q.f≤val t:=z.1;grind⟩)
 ·rw [mN tz ok.zf (by grind),if_pos (by decide)]
  refine ⟨_,_,rfl,ok.zl.mono (by omega),tz.mono (by omega),_,rfl,?_⟩
  by_cases b:val q.l<val t
  ·rw [jz ok.zl tz b]
   exact .inl (kk false ⟨fun z=>(by cases z),fun z=>by have:val t≤val q.l:=z.2;exfalso;grind⟩)
  ·rw [mN ok.zl tz (by grind)]
   exact .inl (kk true ⟨fun _=>⟨by show val q.f≤_;grind,by show _≤val q.l;grind⟩,fun _=>rfl⟩)
theorem wJ {as st Q} (h:eU as st Q):au Γ fW (frame 6 as) st (ae st Q):=by
 obtain ⟨j,m,q,t,rfl,⟨j1,j2⟩,ok,tz,hh,k⟩:=h
 unfold fW
 walk_at "WP"
 refine pX ?_
 have hF:val q.f≤val t:=hh.1
 have hL:val t≤val q.l:=hh.2
 by_cases e:q.f=q.l
 ·rw [decide_eq_true e,if_pos rfl]
  refine .inl (k q.c ok.cc (ok.zc.mono (by omega)) ?_)
  unfold Rr.to
  rw [if_pos (show val q.f=val q.l by rw [e])]
 ·rw [decide_eq_false e,if_neg Bool.false_ne_true]
  have ne:val q.f≠val q.l:=fun z=>e (lY ok.cf ok.cl z)
  refine ⟨j,j,j,j,m,_,_,_,_,_,rfl,by omega,⟨ok.zf,ok.zc,ok.zl,ok.zd,tz⟩,⟨by grind,hF,hL⟩,fun r cr zr vr=>.inl (k r cr (zr.mono (by omega)) ?_)⟩
  unfold Rr.to
  rw [if_neg (show ¬val q.f=val q.l from ne),vr]
noncomputable def OfI (st:AH) (X:List Rq) (t:Nat × Nat) (z:Nat) (i:Nat) (ρ:Fr) (s:AH):Prop:=s=st∧∃(o:Option (Nat × Nat)) (a b:Option PV),(∀p,o=some p→Cop p∧Sz z p)∧IsOff ((X.take i).map Rq.r) (val t) (o.map val)∧ρ=[some (.tup (X.map rqV)),some (fr t),some (tp o),a,b]
theorem Cb {as st Q} (h:gD as st Q):au Γ iG (frame 5 as) st (ae st Q):=by
 obtain ⟨j,m,X,t,rfl,⟨j1,j2⟩,hX,tz,k⟩:=h
 unfold iG
 walk_at "WP"
 refine cC Γm (OfI st X t (m+4*j+2)) ⟨rfl,none,_,_,fun p hp=>(nomatch hp),fun r hr=>by simp at hr,rfl⟩ ?_ ?_
 ·rintro i v ρ s hi ⟨rfl,o,a,b,ho,hI,rfl⟩
  refine ⟨trivial,?_⟩
  rw [List.getElem?_map] at hi
  obtain ⟨q,hq,rfl⟩:=Option.map_eq_some_iff.mp hi
  have ok:=hX q (List.mem_of_getElem? hq)
  have et:(X.take (i+1)).map Rq.r=(X.take i).map Rq.r++[q.r]:=by rw [List.take_succ,hq,List.map_append];rfl
  have up:jZ (m+j) q:=⟨ok.cf,ok.cl,ok.cc,ok.cd,ok.zf.mono (by omega),ok.zl.mono (by omega),ok.zc.mono (by omega),ok.zd.mono (by omega),ok.ok⟩
  walk_at "WP"
  refine ⟨m+j,q,t,rfl,by omega,up,tz.mono (by omega),fun c hc=>?_⟩
  walk_at "WP"
  cases c with
  | false =>
   rw [if_neg Bool.false_ne_true]
   refine ⟨rfl,o,_,_,ho,?_,rfl⟩
   rw [et]
   exact hI.snoc fun z=>by have:=hc.mpr z;cases this
  | true =>
   rw [if_pos rfl]
   have hh:=hc.mp rfl
   refine ⟨j,m,q,t,rfl,⟨j1,j2⟩,ok,tz,hh,fun p cp zp vp=>?_⟩
   cases o with
   | none =>
    walk_at "WPO"
    refine ⟨rfl,some p,_,_,fun p' hp'=>by cases hp';exact ⟨cp,zp⟩,?_,rfl⟩
    rw [et]
    show IsOff _ _ (some (val p))
    rw [vp]
    exact hI.new hh fun y hy=>by cases hy
   | some x =>
    obtain ⟨cx,zx⟩:=ho x rfl
    walk_at "WPO"
    refine ⟨_,_,rfl,zp.mono (by omega),zx.mono (by omega),?_⟩
    by_cases lt:val p<val x
    ·rw [jz zp zx lt]
     walk_at "WP"
     refine ⟨rfl,some p,_,_,fun p' hp'=>by cases hp';exact ⟨cp,zp⟩,?_,rfl⟩
     rw [et]
     show IsOff _ _ (some (val p))
     rw [vp]
     exact hI.new hh fun y hy=>by cases hy;rw [←vp];exact Rat.le_of_lt lt
    ·rw [mN zp zx (by grind)]
     walk_at "WP"
     refine ⟨rfl,some x,_,_,ho,?_,rfl⟩
     rw [et]
     exact IsOff.keep hI fun _=>by rw [←vp];grind
 ·rintro ρ s ⟨rfl,o,a,b,ho,hI,rfl⟩
  refine ⟨trivial,?_⟩
  rw [List.length_map,List.take_length] at hI
  walk_at "WP"
  exact .inl (k o ho hI)
theorem CC {as st Q} (h:gH as st Q):au Γ iC (frame 1 as) st (ae st Q):=by
 obtain ⟨k,q,rfl,hk,ok,kk⟩:=h
 unfold iC
 walk_at "WP"
 exact ⟨_,_,rfl,ok.zd.mono (by omega),ok.zc.mono (by omega),.inl (kk _ (pD ok.zd ok.zc))⟩
theorem rZ {as st Q} (h:db as st Q):au Γ e6 (frame 3 as) st (ae st Q):=by
 obtain ⟨j,m,q,t,rfl,⟨j1,j2⟩,ok,ct,tz,tl,k⟩:=h
 unfold e6
 walk_at "WP"
 refine ⟨j,q,rfl,by omega,ok,fun b hb=>?_⟩
 walk_at "WP"
 cases b with
 | true =>
  rw [if_pos rfl]
  exact .inl (k (q.l,q.d) ok.cl ok.cd (ok.zl.mono (by omega)) (ok.zd.mono (by omega)) (sA ok.ok tl (hb.mp rfl)))
 | false =>
  rw [if_neg Bool.false_ne_true]
  have nf:¬q.r.D<q.r.C:=fun z=>by have:=hb.mpr z;cases this
  have rs:q.r.C≤q.r.D:=by grind
  have fl:val q.f≤val q.l:=ok.ok.fl
  refine ⟨_,_,rfl,ok.zf.mono (by omega),tz.mono (by omega),?_⟩
  have zf:Sz (m+j) q.f:=ok.zf.mono (by omega)
  have zt:Sz (m+j) t:=tz.mono (by omega)
  by_cases a:val q.f<val t
  ·rw [jz zf zt a]
   walk_at "WP"
   refine ⟨j,m+j,q,t,rfl,⟨j1,by omega⟩,ok,zt,⟨by show val q.f≤_;grind,tl⟩,fun p cp zp vp=>.inl (k (t,p) ct cp (zt.mono (by omega)) (zp.mono (by omega)) ?_)⟩
   show IsOut _ _ (some (val t,val p))
   rw [vp]
   exact jq ok.ok tl rs (.inl ⟨a,rfl⟩)
  ·rw [mN zf zt (by grind)]
   walk_at "WP"
   refine ⟨j,m+j,q,q.f,rfl,⟨j1,by omega⟩,ok,zf,⟨Rat.le_refl,fl⟩,fun p cp zp vp=>.inl (k (q.f,p) ok.cf cp (zf.mono (by omega)) (zp.mono (by omega)) ?_)⟩
   show IsOut _ _ (some (val q.f,val p))
   rw [vp]
   exact jq ok.ok tl rs (.inr ⟨by show val t≤val q.f;grind,rfl⟩)
theorem r_ {as st Q} (h:dq as st Q):au Γ eN (frame 2 as) st (ae st Q):=by
 obtain ⟨k,p,q,rfl,hk,⟨c1,c2,c3,c4⟩,⟨z1,z2,z3,z4⟩,kk⟩:=h
 unfold eN
 walk_at "WP"
 refine pX ?_
 by_cases e:p.2=q.2
 ·rw [decide_eq_true e,if_pos rfl]
  refine ⟨_,_,rfl,z1.mono (by omega),z3.mono (by omega),.inl (kk _ ?_)⟩
  rw [pD z1 z3,e]
  grind
 ·rw [decide_eq_false e,if_neg Bool.false_ne_true]
  refine ⟨_,_,rfl,z2.mono (by omega),z4.mono (by omega),.inl (kk _ ?_)⟩
  rw [pD z2 z4]
  have:val p.2≠val q.2:=fun z=>e (lY c2 c4 z)
  grind
noncomputable def SoI (st:AH) (X:List Rq) (t:Nat × Nat) (z:Nat) (i:Nat) (ρ:Fr) (s:AH):Prop:=s=st∧∃(o:Option Fr2) (a b c:Option PV),(∀p,o=some p→(Cop p.1∧Cop p.2)∧Sz z p.1∧Sz z p.2)∧IsOut ((X.take i).map Rq.r) (val t) (o.map v2)∧ρ=[some (.tup (X.map rqV)),some (.bl true),some (fr t),a,some (o2V o),b,c]
theorem xC {as st Q} (h:eT as st Q):au Γ fS (frame 7 as) st (ae st Q):=by
 obtain ⟨j,m,X,w,t,rfl,⟨j1,j2⟩,hX,ct,tz,k⟩:=h
 unfold fS
 walk_at "WP"
 cases w with
 | false =>
  refine ⟨j,m,X,t,rfl,⟨j1,by omega⟩,hX,tz,fun o ho hI=>?_⟩
  cases o with
  | none =>
   walk_at "WPO"
   exact .inl (k none (fun p hp=>(nomatch hp)) (fun z=>by cases z) fun _=>⟨hI,fun p hp=>(nomatch hp)⟩)
  | some x =>
   obtain ⟨cx,zx⟩:=ho x rfl
   walk_at "WPO"
   exact .inl (k (some (t,x)) (fun p hp=>by cases hp;exact ⟨⟨ct,cx⟩,tz.mono (by omega),zx.mono (by omega)⟩) (fun z=>by cases z) fun _=>⟨hI,fun p hp=>by cases hp;rfl⟩)
 | true =>
  refine cC Γm (SoI st X t (m+5*j+2)) ⟨rfl,none,_,_,_,fun p hp=>(nomatch hp),fun r hr=>by simp at hr,rfl⟩ ?_ ?_
  ·rintro i v ρ s hi ⟨rfl,o,a,b,c,ho,hI,rfl⟩
   refine ⟨trivial,?_⟩
   rw [List.getElem?_map] at hi
   obtain ⟨q,hq,rfl⟩:=Option.map_eq_some_iff.mp hi
   have ok:=hX q (List.mem_of_getElem? hq)
   have et:(X.take (i+1)).map Rq.r=(X.take i).map Rq.r++[q.r]:=by rw [List.take_succ,hq,List.map_append];rfl
   have zl:Sz (m+j) q.l:=ok.zl.mono (by omega)
   have zt:Sz (m+j) t:=tz.mono (by omega)
   walk_at "WP"
   refine ⟨_,_,rfl,ok.zl.mono (by omega),tz.mono (by omega),?_⟩
   by_cases lt:val q.l<val t
   ·rw [jz zl zt lt]
    walk_at "WP"
    refine ⟨rfl,o,_,_,_,ho,?_,rfl⟩
    rw [et]
    exact hI.skip lt
   ·rw [mN zl zt (by grind)]
    walk_at "WP"
    refine ⟨j,m,q,t,rfl,⟨j1,j2⟩,ok,ct,tz,by show val t≤val q.l;grind,fun p c1 c2 z1 z2 hp=>?_⟩
    obtain ⟨m1,m2⟩:=hI.more hp
    cases o with
    | none =>
     simp only [o2V]
     walk_at "WP"
     refine ⟨rfl,some p,_,_,_,fun p' hp'=>by cases hp';exact ⟨⟨c1,c2⟩,z1,z2⟩,?_,rfl⟩
     rw [et]
     exact m2 (.inl rfl)
    | some b =>
     obtain ⟨⟨d1,d2⟩,y1,y2⟩:=ho b rfl
     simp only [o2V]
     walk_at "WP"
     refine ⟨m+5*j+2,p,b,rfl,by omega,⟨c1,c2,d1,d2⟩,⟨z1,z2,y1,y2⟩,fun x hx=>?_⟩
     walk_at "WP"
     cases x with
     | true =>
      rw [if_pos rfl]
      refine ⟨rfl,some p,_,_,_,fun p' hp'=>by cases hp';exact ⟨⟨c1,c2⟩,z1,z2⟩,?_,rfl⟩
      rw [et]
      exact m2 (.inr ⟨v2 b,rfl,hx.mp rfl⟩)
     | false =>
      rw [if_neg Bool.false_ne_true]
      refine ⟨rfl,some b,_,_,_,ho,?_,rfl⟩
      rw [et]
      exact m1 (v2 b) rfl fun z=>by have:=hx.mpr z;cases this
  ·rintro ρ s ⟨rfl,o,a,b,c,ho,hI,rfl⟩
   refine ⟨trivial,?_⟩
   rw [List.length_map,List.take_length] at hI
   walk_at "WP"
   exact .inl (k o ho (fun _=>hI) fun z=>by cases z)
theorem Co {ps:List (Str × PV)} {i:Nat} {x:PV} (h:(aZ .items (kd ps))[i]?=some x):∃p,ps[i]?=some p∧x=.tup [.str p.1,p.2]:=by
 unfold aZ kd at h
 rw [List.getElem?_map,List.getElem?_map] at h
 cases q:ps[i]? with
 | none=>rw [q] at h;cases h
 | some p=>rw [q] at h;cases h;exact ⟨p,rfl,rfl⟩
theorem wy {ps:List (Str × PV)} {i:Nat} {x:PV} (h:(aZ .keys (kd ps))[i]?=some x):∃p,ps[i]?=some p∧x=.str p.1:=by
 unfold aZ kd at h
 rw [List.getElem?_map,List.getElem?_map] at h
 cases q:ps[i]? with
 | none=>rw [q] at h;cases h
 | some p=>rw [q] at h;cases h;exact ⟨p,rfl,rfl⟩
theorem sQ {wk:DW} {ps:List (Str × PV)}:(aZ wk (kd ps)).length=ps.length:=by cases wk <;> simp [aZ]
theorem c_:∀ {ps:List (Str × PV)} {p:Str × PV},(ps.map (·.1)).Nodup→p∈ps→fI (kd ps) (.inr p.1)=some p.2
 | [],p,_,h=>nomatch h
 | q::ps,p,hn,h=>by
  rw [List.map_cons,List.nodup_cons] at hn
  by_cases e:q.1=p.1
  ·rcases List.mem_cons.mp h with z|z
   ·subst z;simp [fI,kd]
   ·exact absurd (e ▸ List.mem_map.mpr ⟨p,z,rfl⟩) hn.1
  ·rcases List.mem_cons.mp h with z|z
   ·subst z;exact absurd rfl e
   ·have:=c_ hn.2 z
    unfold fI kd at this ⊢
    rw [List.map_cons,List.find?_cons]
    have ne:decide ((Sum.inr q.1:Key)=Sum.inr p.1)=false:=decide_eq_false fun z=>e (Sum.inr.inj z)
    simp only [ne]
    exact this
theorem vR {ps:List (Str × PV)} {z:Str} {v:PV} (h:z ∉ ps.map (·.1)):gb (kd ps) (.inr z) v=kd (ps++[(z,v)]):=by
 unfold gb
 have:((kd ps).any fun kv=>decide (kv.1=(.inr z:Key)))=false:=by
  rw [List.any_eq_false]
  intro x hx
  obtain ⟨p,hp,rfl⟩:=List.mem_map.mp hx
  simp only [decide_eq_true_eq]
  exact fun e=>h (List.mem_map.mpr ⟨p,hp,Sum.inr.inj e⟩)
 rw [this,if_neg Bool.false_ne_true]
 simp [kd]
theorem AN {ps:List (Str × PV)} {z:Str} {v:PV} (h:z∈ps.map (·.1)):gb (kd ps) (.inr z) v=kd (ps.map fun p=>if p.1=z then (p.1,v) else p):=by
 unfold gb
 have:((kd ps).any fun kv=>decide (kv.1=(.inr z:Key)))=true:=by
  rw [List.any_eq_true]
  obtain ⟨p,hp,rfl⟩:=List.mem_map.mp h
  exact ⟨_,List.mem_map.mpr ⟨p,hp,rfl⟩,by simp⟩
 rw [this,if_pos rfl]
 unfold kd
 rw [List.map_map,List.map_map]
 refine List.map_congr_left fun p _=>?_
 simp only [Function.comp,Sum.inr.injEq]
 by_cases e:p.1=z
 ·rw [if_pos e,if_pos e]
 ·rw [if_neg e,if_neg e]
theorem Bq:∀ {ps:List (Str × PV)},(ps.map (·.1)).Nodup→eY ps=kd ps:=by
 have key:∀(qs ps:List (Str × PV)),((ps++qs).map (·.1)).Nodup→qs.foldl (fun d p=>gb d (.inr p.1) p.2) (kd ps)=kd (ps++qs):=by
  intro qs
  induction qs with
  | nil=>intro ps _;simp
  | cons q qs ih =>
   intro ps h
   have hq:q.1 ∉ ps.map (·.1):=fun z=>by
    rw [List.map_append,List.nodup_append] at h
    exact h.2.2 _ z _ (by simp) rfl
   rw [List.foldl_cons,vR hq]
   have:=ih (ps++[q]) (by simpa using h)
   simpa using this
 intro ps h
 simpa [eY,kd] using key ps [] (by simpa using h)
theorem mM {st:AH} {n:Nat} {c d:Cell} (h:st[n]?=some c):(st.set n d).set n c=st:=by
 rw [List.set_set]
 obtain ⟨h1,h2⟩:=List.getElem?_eq_some_iff.mp h
 rw [←h2]
 exact List.set_getElem_self h1
noncomputable def abc:List Nat:=[97,98,99,100,101,102,103,104,105,106,107,108,109,110,111,112,113,114,115,116,117,118,119,120,121,122]
theorem A0:("abcdefghijklmnopqrstuvwxyz":Str).cps.toList=abc:=by decide +kernel
theorem B2:("abcdefghijklmnopqrstuvwxyz":Str).length=26:=by decide +kernel
theorem Nm.app {z:Str} {c:Nat} (h:Nm z) (hl:z.length≤7) (hc:c∈abc):Nm (z++(⟨#[c]⟩:Str)):=by
 have hc':c<1114112:=by
  have:∀c∈abc,c<1114112:=by decide
  exact this c hc
 refine ⟨?_,?_⟩
 ·rw [strLen_append]
  show z.length+1≤8
  omega
 ·show (z.cps++#[c]).all (·< 1114112)=true
  rw [Array.all_append,h.ok]
  simp [hc']
theorem Nm.nil:Nm "":=⟨by decide +kernel,by decide +kernel⟩
theorem Nm.cut {z:Str} (h:Nm z):Nm (jQ z none (some 7))∧(jQ z none (some 7)).length≤7:=by
 have li:(Builtin.Str.strSliceIndices none (some 7) 1 z.length).length≤7:=by
  unfold Builtin.Str.strSliceIndices sliceRange
  simp
  omega
 unfold jQ
 split
 ·rename_i e
  have e:=eq_of_beq e
  exact ⟨h,by omega⟩
 ·have l2:((Builtin.Str.strSliceIndices none (some 7) 1 z.length).filterMap (z.cps[·]?)).length≤7:=Nat.le_trans (List.length_filterMap_le _ _) li
  refine ⟨⟨?_,?_⟩,?_⟩
  ·show (List.toArray _).size≤8
   rw [List.size_toArray]
   omega
  ·show (List.toArray _).all (·< 1114112)=true
   rw [List.all_toArray,List.all_eq_true]
   intro c hc
   obtain ⟨i,_,hi⟩:=List.mem_filterMap.mp hc
   exact Array.all_eq_true_iff_forall_mem.mp h.ok c (Array.mem_of_getElem? hi)
  ·show (List.toArray _).size≤7
   rw [List.size_toArray]
   exact l2
theorem nO:∀ {xs ys:List Str},xs.Nodup→(∀x∈xs,x∈ys)→xs.length≤ys.length
 | [],ys,_,_=>Nat.zero_le _
 | x::xs,ys,hn,h=>by
  rw [List.nodup_cons] at hn
  have hx:=h x List.mem_cons_self
  have:=nO (xs:=xs) (ys:=ys.erase x) hn.2 fun y hy=>(List.mem_erase_of_ne (a:=y) (b:=x) (fun e=>hn.1 (by rw [←e];exact hy))).mpr (h y (List.mem_cons_of_mem _ hy))
  rw [List.length_erase_of_mem hx] at this
  have:0<ys.length:=List.length_pos_of_mem hx
  simp only [List.length_cons]
  omega
noncomputable def gL (z:Str):List Str:=abc.map fun c=>z++(⟨#[c]⟩:Str)
theorem AV {z:Str}:(gL z).Nodup:=by
 unfold gL
 refine List.pairwise_map.mpr ?_
 have:abc.Nodup:=by decide
 refine List.Pairwise.imp (fun {a b} ne e=>ne ?_) this
 have e2:(z.cps++#[a])=(z.cps++#[b]):=congrArg Str.cps e
 have e3:=congrArg Array.toList e2
 simpa using e3
theorem vd {z:Str} {names:List Str} (h:names.length<26):∃x r,(gL z).filter (fun x=>!(names.any fun j=>j == x))=x::r:=by
 cases q:(gL z).filter (fun x=>!(names.any fun j=>j == x)) with
 | cons x r=>exact ⟨x,r,rfl⟩
 | nil =>
  have all:∀x∈gL z,x∈names:=fun x hx=>by
   have:=List.filter_eq_nil_iff.mp q x hx
   simp only [Bool.not_eq_true,Bool.not_eq_false'] at this
   obtain ⟨j,hj,e⟩:=List.any_eq_true.mp this
   rw [←eq_of_beq e]
   exact hj
  have:=nO AV all
  have:(gL z).length=26:=by simp [gL,abc]
  omega
theorem xo:gJ ("abcdefghijklmnopqrstuvwxyz":Str)=abc.map fun c=>.str ⟨#[c]⟩:=by unfold gJ;rw [A0]
noncomputable def jm (names:List Str) (xs:List Str):List Str:=xs.filter fun x=>!(names.any fun j=>j == x)
theorem wQ {names xs:List Str} {i:Nat} {x:Str} (h:xs[i]?=some x) (e:(names.any fun j=>j == x)=false):jm names (xs.take (i+1))=jm names (xs.take i)++[x]:=by
 unfold jm;rw [List.take_add_one,h];simp only [Option.toList_some,List.filter_append];rw [List.filter_cons_of_pos (by rw [e];rfl),List.filter_nil]
theorem Bf {names xs:List Str} {i:Nat} {x:Str} (h:xs[i]?=some x) (e:(names.any fun j=>j == x)=true):jm names (xs.take (i+1))=jm names (xs.take i):=by
 unfold jm;rw [List.take_add_one,h];simp only [Option.toList_some,List.filter_append];rw [List.filter_cons_of_neg (by rw [e];decide),List.filter_nil,List.append_nil]
theorem sN {as st Q} (h:dm as st Q):au Γ e7 (frame 5 as) st (ae st Q):=by
 obtain ⟨p,t,names,rfl,hp,ht,hn,nl,hN,k⟩:=h
 have pl:=hp.lt
 unfold e7
 refine bZ (fun ρ s=>st=s∧ρ=[some (.ref p),some (.ref t),some (.str ""),none,none]) (by walk_at "WPN") ?_
 rintro _ _ ⟨rfl,rfl⟩
 refine bZ (fun ρ s=>∃z a,Gr st p s∧Nm z∧ρ=[some (.ref p),some (.ref t),some (.str z),a,none]) ?_ ?_
 ·walk_at "WPN"
  have g0:Gr st p (st++[Cell.lst [PV.int 2,PV.int 8]]):=(Gr.refl hp).app
  refine ⟨p,2,rfl,g0.pot,by decide,by decide,fun y s1 y0 y1 g1=>?_⟩
  have hl:s1[st.length]?=some (.lst [.int 2,.int 8]):=g1.get ak (by omega)
  obtain ⟨v,ev,m,rfl,m0,m1⟩:=AK (L:=[PV.int 2,PV.int 8]) (P:=fun v=>∃m:Int,v=.int m∧0<m∧m≤8) (fun v hv=>by
   simp only [List.mem_cons,List.not_mem_nil,or_false] at hv
   rcases hv with rfl|rfl
   ·exact ⟨2,rfl,by decide,by decide⟩
   ·exact ⟨8,rfl,by decide,by decide⟩) y0 y1
  walk_at "WPN"
  refine ⟨_,ad hl,_,ev,(g0.trans g1).tmp (by rw [PV.bel]) fun s2 g2 l2=>?_⟩
  refine ⟨p,m,rfl,g2.pot,m0,by omega,fun x s3 x0 x1 g3=>?_⟩
  walk_at "WPN"
  obtain ⟨N,hN⟩:∃N:Nat,1+x=N:=⟨(1+x).toNat,by omega⟩
  rw [hN]
  refine ⟨by omega,by omega,?_⟩
  refine cC Γm (fun i ρ s=>∃z a,Gr st p s∧Nm z∧z.length≤i∧ρ=[some (.ref p),some (.ref t),some (.str z),a,none]) ⟨"",_,g2.trans g3,.nil,by decide +kernel,rfl⟩ ?_ ?_
  ·rintro i v ρ s hi ⟨z,a,g,hz,zl,rfl⟩
   obtain ⟨rfl,hi⟩:=dO hi
   refine ⟨trivial,?_⟩
   walk_at "WPN"
   refine ⟨p,26,rfl,g.pot,by decide,by decide,fun y s4 y0 y1 g4=>?_⟩
   walk_at "WPN"
   obtain ⟨m,rfl⟩:∃m:Nat,y=m:=⟨y.toNat,by omega⟩
   have hm:m<abc.length:=by have:abc.length=26:=rfl;omega
   have c:=List.getElem_mem hm
   have zl7:z.length≤7:=by omega
   refine ⟨by rw [B2];decide,_,by rw [A0];exact f' (List.getElem?_eq_getElem hm),?_⟩
   exact ⟨by show z.length+1≤100000;omega,g.trans g4,_,hz.app zl7 c,by rw [strLen_append];show z.length+1≤i+1;omega,rfl⟩
  ·rintro ρ s ⟨z,a,g,hz,zl,rfl⟩
   exact ⟨trivial,g,z,hz,_,rfl⟩
 ·rintro _ s ⟨z,a,g,hz,rfl⟩
  have hn1:=g.get hn ht
  refine bZ (fun ρ s=>∃z a b,Gr st p s∧Nm z∧ρ=[some (.ref p),some (.ref t),some (.str z),a,b]) ?_ ?_
  ·walk_at "WPN"
   refine .inl ⟨names,hn1,bA (fun c=>?_) fun c=>⟨g,z,hz,rfl⟩⟩
   rw [xo]
   obtain ⟨cz,cl⟩:=hz.cut
   refine ⟨by simp [abc],nu Γm (fun x=>match x with | .str c=>.str (jQ z none (some 7)++c)|v=>v) trivial (fun x hx=>?_) ?_⟩
   ·obtain ⟨c,hc,rfl⟩:=List.mem_map.mp hx
    walk_at "WPN"
    refine ⟨by have:=hz.len;omega,?_⟩
    show (jQ z none (some 7)).length+1≤100000
    omega
   ·have e1:(abc.map fun c=>PV.str ⟨#[c]⟩).map (fun x=>match x with | .str c=>PV.str (jQ z none (some 7)++c)|v=>v)=sV (gL (jQ z none (some 7))):=by
     unfold gL sV
     rw [List.map_map,List.map_map]
     rfl
    rw [e1]
    generalize hC:gL (jQ z none (some 7))=C
    have cl26:C.length=26:=by rw [←hC];simp [gL,abc]
    refine ⟨_,ad ak,by simp [cl26],?_⟩
    refine jG Γm (fun i acc s'=>s'=s++[.lst (sV C)]∧acc=sV (jm names (C.take i))) ⟨rfl,by simp [jm]⟩ ?_ ?_
    ·rintro i x acc s' hi ⟨rfl,rfl⟩
     rw [List.getElem?_map] at hi
     obtain ⟨x,hx,rfl⟩:=Option.map_eq_some_iff.mp hi
     refine ⟨rfl,?_⟩
     walk_at "WPN"
     refine .inl ⟨names,bt hn1,bA (fun c=>?_) fun c=>?_⟩
     ·rw [wQ hx c];simp [sV]
     ·rw [Bf hx (eq_true_of_ne_false c)]
    ·rintro acc s' ⟨rfl,rfl⟩
     refine ⟨rfl,?_⟩
     rw [List.length_map,List.take_length]
     obtain ⟨x,r,hf⟩:=vd (z:=jQ z none (some 7)) (names:=names) (by omega)
     rw [hC] at hf
     have hf:jm names C=x::r:=hf
     rw [hf]
     have hx:Nm x:=by
      have:x∈C:=(List.filter_sublist (p:=fun x=>!(names.any fun j=>j == x))).subset (by rw [show C.filter _=x::r from hf];exact List.mem_cons_self)
      rw [←hC] at this
      obtain ⟨c,hc,rfl⟩:=List.mem_map.mp this
      exact cz.app cl hc
     refine ⟨_,ad ak,.str x,by simp [atI,ixN],?_⟩
     exact .app (by rw [PV.bel]) ⟨g.app,x,hx,rfl⟩
  ·rintro _ s ⟨z,a,b,g,hz,rfl⟩
   have hn1:=g.get hn ht
   walk_at "WP"
   refine ⟨⟨_,aM hn1⟩,_,hn1,by simp;omega,.inl (k z _ hz ⟨by rw [List.length_set];exact g.len,fun i h1 h2 h3=>by rw [List.getElem?_set_ne (Ne.symm h3)];exact g.old i h1 h2,?_⟩ ?_)⟩
   ·obtain ⟨q,r,e,w⟩:=g.pot
    exact ⟨q,r,by rw [List.getElem?_set_ne ht];exact e,w⟩
   ·rw [List.getElem?_set_self (ag hn1)]
    simp [sV]
theorem wz {names:List Str} (h:∀z∈names,Nm z) {y:Int} (y0:0≤y) (y1:y<names.length):∃z,atI (sV names) y=some (.str z)∧Nm z:=by
 obtain ⟨v,ev,z,rfl,hz⟩:=AK (L:=sV names) (P:=fun v=>∃z,v=.str z∧Nm z) (fun v hv=>by
  obtain ⟨z,hz,rfl⟩:=List.mem_map.mp hv
  exact ⟨z,rfl,h z hz⟩) y0 (by simpa [sV] using y1)
 exact ⟨z,ev,hz⟩
theorem wg {L:List Int} {B:Int} (h:∀i∈L,0<i∧i≤B) {y:Int} (y0:0≤y) (y1:y<L.length):∃i,atI (L.map PV.int) y=some (.int i)∧0<i∧i≤B:=by
 obtain ⟨v,ev,i,rfl,hi⟩:=AK (L:=L.map PV.int) (P:=fun v=>∃i,v=.int i∧0<i∧i≤B) (fun v hv=>by
  obtain ⟨z,hz,rfl⟩:=List.mem_map.mp hv
  exact ⟨z,rfl,h z hz⟩) y0 (by simpa using y1)
 exact ⟨i,ev,hi⟩
theorem rnb {a b c d:Int} (ha:0≤a) (hab:a≤b) (hac:a≤c) (hbd:b≤d) (he:a=b→c=d) (hc1:c≤10 ^ 11) (hd1:d≤10 ^ 11):RNb (10 ^ 11) (.tup [.int a,.int b,.int c,.int d]) :=
 ⟨a.toNat,b.toNat,c.toNat,d.toNat,by rw [Int.toNat_of_nonneg ha,Int.toNat_of_nonneg (Int.le_trans ha hab),Int.toNat_of_nonneg (Int.le_trans ha hac),Int.toNat_of_nonneg (Int.le_trans (Int.le_trans ha hab) hbd)],⟨by omega,by omega,by omega,fun e=>by have:=he (by omega);omega,by omega,by omega,by omega⟩,by omega,by omega⟩
theorem j8 {as st Q} (h:bp as st Q):au Γ cB (frame 5 as) st (ae st Q):=by
 obtain ⟨p,far,rfl,hp,f0,f1,k⟩:=h
 have fb:far<2 ^ 200:=by omega
 unfold cB
 walk_at "WP"
 refine ⟨p,far,rfl,hp,f0,fb,fun x s1 x0 x1 g1=>?_⟩
 walk_at "WP"
 refine ⟨p,far,rfl,g1.pot,f0,fb,fun y s2 y0 y1 g2=>?_⟩
 walk_at "WP"
 refine ⟨p,3,rfl,g2.pot,by decide,by decide,fun z s3 z0 z1 g3=>?_⟩
 walk_at "WP"
 refine ⟨ua,p,far,rfl,g3.pot,f0,fb,fun u s4 u0 u1 g4=>?_⟩
 walk_at "WP"
 have g:=((g1.trans g2).trans g3).trans g4
 obtain ⟨m0,m1⟩:=vE (b:=decide (0<z)) y0
 refine bA (fun e=>?_) fun e=>?_
 ·exact .inl (k _ _ (rnb x0 (by omega) (by omega) (by omega) (fun _=>rfl) (by omega) (by omega)) g)
 ·refine ⟨p,far,rfl,g4.pot,f0,fb,fun v s5 v0 v1 g5=>?_⟩
  walk_at "WP"
  exact .inl (k _ _ (rnb x0 (by omega) (by omega) (by omega) (fun q=>absurd q (by omega)) (by omega) (by omega)) (g.trans g5))
noncomputable def RrI (st:AH) (p:Nat) (far many:Int) (m:Nat) (ρ:Fr) (s:AH):Prop:=∃(L:List PV) (b a:Int) (lo en:Option PV),Gr st p s∧s[st.length]?=some (.lst L)∧(∀v∈L,RNb (10 ^ 11) v)∧m=(many-L.length).toNat∧L.length≤3∧0≤b∧b≤(L.length+1)*10 ^ 9∧0≤a∧a≤(L.length+1)*10 ^ 9 ∧
 ρ=[some (.ref p),some (.int far),some (.int many),some (.int b),some (.int a),some (.ref st.length),lo,en]
theorem jJ {as st Q} (h:bh as st Q):au Γ cy (frame 8 as) st (ae st Q):=by
 obtain ⟨p,far,many,rfl,hp,f0,f1,m0,m1,k⟩:=h
 have fb:far<2 ^ 200:=by omega
 have g0:Gr st p (st++[.lst []]):=(Gr.refl hp).app
 have i0:RrI st p far many (many-0).toNat [some (.ref p),some (.int far),some (.int many),some (.int 0),some (.int 0),some (.ref st.length),none,none] (st++[.lst []]):=⟨[],0,0,none,none,g0,ak,fun v hv=>(nomatch hv),by simp,by simp,by omega,by simp,by omega,by simp,rfl⟩
 unfold cy
 refine bZ (fun ρ s=>st=s∧ρ=[some (.ref p),some (.int far),some (.int many),some (.int 0),some (.int 0),none,none,none]) (by walk_at "WPN") ?_
 rintro _ _ ⟨rfl,rfl⟩
 refine bZ (fun ρ s=>s=st++[.lst []]∧ρ=[some (.ref p),some (.int far),some (.int many),some (.int 0),some (.int 0),some (.ref st.length),none,none]) (by walk_at "WPN") ?_
 rintro _ _ ⟨rfl,rfl⟩
 refine bZ (fun ρ s=>∃m,RrI st p far many m ρ s) ?_ ?_
 ·walk_at "WPN"
  refine bA (fun c=>?_) fun c=>?_
  ·refine ⟨p,4,rfl,g0.pot,by decide,by decide,fun x s1 x0 x1 g1=>?_⟩
   walk_at "WPN"
   have gg:=g0.trans g1
   have hL:s1[st.length]?=some (.lst []):=g1.get ak (by have:=hp.lt;omega)
   refine bA (fun c2=>?_) fun c2=>?_
   ·refine ⟨p,far,rfl,g1.pot,f0,fb,fun y s2 y0 y1 g2=>?_⟩
    walk_at "WPN"
    have hL2:s2[st.length]?=some (.lst []):=g2.get hL (by have:=hp.lt;omega)
    refine ⟨⟨_,aM hL2⟩,_,hL2,by simp,_,_,_,_,_,_,(gg.trans g2).push (Nat.le_refl _),List.getElem?_set_self (ag hL2),?_,rfl,?_,?_,?_,?_,?_,rfl⟩
    ·intro v hv
     simp only [List.nil_append,List.mem_singleton] at hv
     subst hv
     exact rnb (by omega) (by omega) (by omega) (by omega) (fun _=>rfl) (by omega) (by omega)
    all_goals (first|omega|(simp;done)|(simp;omega))
   ·exact ⟨_,[],0,0,none,none,gg,hL,fun v hv=>(nomatch hv),rfl,by simp,by omega,by simp,by omega,by simp,rfl⟩
  ·exact ⟨_,i0⟩
 ·rintro ρ s ⟨m,hI⟩
  refine bZ (fun ρ s=>∃m,RrI st p far many m ρ s) ?_ ?_
  ·walk_at "WPN"
   refine mi Γm (RrI st p far many) hI ?_
   rintro m ρ s ⟨L,b,a,lo,en,g,hL,hv,rfl,ll,b0,b1,a0,a1,rfl⟩
   walk_at "WPN"
   have ne:st.length≠p:=by have:=hp.lt;omega
   refine ⟨_,ad hL,bA (fun c=>?_) fun c=>?_⟩
   ·refine ⟨p,far,rfl,g.pot,f0,fb,fun x s1 x0 x1 g1=>?_⟩
    refine ⟨p,2,rfl,g1.pot,by decide,by decide,fun y s2 y0 y1 g2=>?_⟩
    walk_at "WPN"
    refine ⟨ua,p,far,rfl,g2.pot,f0,fb,fun z s3 z0 z1 g3=>?_⟩
    walk_at "WPN"
    refine ⟨p,far,rfl,g3.pot,f0,fb,fun u s4 u0 u1 g4=>?_⟩
    refine ⟨p,3,rfl,g4.pot,by decide,by decide,fun v s5 v0 v1 g5=>?_⟩
    walk_at "WPN"
    have g6:=(((g1.trans g2).trans g3).trans g4).trans g5
    have hL5:=g6.get hL ne
    obtain ⟨q0,q1⟩:=vE (b:=decide (y=1)) x0
    obtain ⟨w0,w1⟩:=vE (b:=decide (0<v)) u0
    generalize x*b2z (decide (y=1))=X at *
    generalize u*b2z (decide (0<v))=U at *
    have n1:(if a<b then b else a)≤((L.length:Int)+1)*10 ^ 9:=by split <;> omega
    have n2:0≤(if a<b then b else a):=by split <;> omega
    have n5:b≤(if a<b then b else a):=by split <;> omega
    generalize (if a<b then b else a)=A at *
    have n3:(if A+X<b+1+z then b+1+z else A+X)≤((L.length:Int)+1)*10 ^ 9+2*10 ^ 8:=by split <;> omega
    have n4:0≤(if A+X<b+1+z then b+1+z else A+X):=by split <;> omega
    have n6:b+1+z≤(if A+X<b+1+z then b+1+z else A+X):=by split <;> omega
    generalize (if A+X<b+1+z then b+1+z else A+X)=B at *
    refine ⟨ua,⟨_,aM hL5⟩,_,hL5,by omega,?_⟩
    have le:(L++[PV.tup [PV.int b,PV.int (b+1+z),PV.int (A+X),PV.int (B+U)]]).length=L.length+1:=by simp
    refine ⟨(many-((L.length+1:Nat):Int)).toNat,by omega,_,_,_,_,_,(g.trans g6).push (Nat.le_refl _),List.getElem?_set_self (ag hL5),?_,by rw [le],by rw [le];omega,?_,?_,?_,?_,rfl⟩
    ·intro v hm
     rcases List.mem_append.mp hm with hm|hm
     ·exact hv v hm
     ·rw [List.mem_singleton] at hm
      subst hm
      exact rnb (by omega) (by omega) (by omega) (by omega) (fun q=>absurd q (by omega)) (by omega) (by omega)
    all_goals (try rw [le])
    all_goals omega
   ·exact ⟨_,_,_,_,_,_,g,hL,hv,rfl,ll,b0,b1,a0,a1,rfl⟩
  ·rintro ρ s ⟨m,L,b,a,lo,en,g,hL,hv,rfl,ll,b0,b1,a0,a1,rfl⟩
   walk_at "WP"
   exact .inl (k _ _ _ g (Nat.le_refl _) hL hv (by omega))
theorem q5 {as st Q} (h:cI as st Q):au Γ d7 (frame 4 as) st (ae st Q):=by
 obtain ⟨p,w,far,rfl,hp,f0,f1,k⟩:=h
 unfold d7
 walk_at "WP"
 refine ⟨p,4,rfl,hp,by decide,by decide,fun x s1 x0 x1 g1=>?_⟩
 walk_at "WP"
 cases w with
 | false =>
  walk_at "WP"
  refine ⟨p,far,x,rfl,g1.pot,f0,f1,x0,by omega,fun n L s2 g2 hn hL hv hl=>?_⟩
  exact .inl (k n L s2 (g1.trans g2) (Nat.le_trans g1.len hn) hL hv hl)
 | true =>
  walk_at "WP"
  obtain ⟨N,rfl⟩:∃N:Nat,x=N:=⟨x.toNat,by omega⟩
  refine ⟨by omega,by omega,by simp [dL];omega,?_⟩
  refine jG Γm (fun i acc s=>Gr st p s∧(∀v∈acc,RNb (10 ^ 11) v)∧acc.length=i) ⟨g1,fun v hv=>(nomatch hv),rfl⟩ ?_ ?_
  ·rintro i v acc s hi ⟨g,hv,hl⟩
   refine ⟨trivial,?_⟩
   walk_at "WP"
   refine ⟨p,far,rfl,g.pot,f0,f1,fun u s2 hu g2=>⟨g.trans g2,fun y hy=>?_,by simp [hl]⟩⟩
   rcases List.mem_append.mp hy with hy|hy
   ·exact hv y hy
   ·rw [List.mem_singleton] at hy;subst hy;exact hu
  ·rintro acc s ⟨g,hv,hl⟩
   refine ⟨trivial,.inl (k _ _ _ g.app g.len ak hv ?_)⟩
   rw [hl]
   simp [dL]
   omega
theorem Pre.refl {st:AH}:Pre st st:=⟨[],by simp⟩
theorem Pre.app {st s g:AH} (h:Pre st s):Pre st (s++g):=by obtain ⟨a,rfl⟩:=h;exact ⟨a++g,by simp⟩
theorem Pre.trans {st s r:AH} (h:Pre st s) (h':Pre s r):Pre st r:=by obtain ⟨a,rfl⟩:=h;obtain ⟨b,rfl⟩:=h';exact ⟨a++b,by simp⟩
theorem Pre.set {st s:AH} {n:Nat} {c:Cell} (h:Pre st s) (hn:st.length≤n):Pre st (s.set n c):=by
 obtain ⟨a,rfl⟩:=h
 exact ⟨a.set (n-st.length) c,by rw [List.set_append_right _ _ hn]⟩
theorem Pre.get {st s:AH} {n:Nat} {c:Cell} (h:Pre st s) (e:st[n]?=some c):s[n]?=some c:=by obtain ⟨a,rfl⟩:=h;exact bt e
theorem Pre.len {st s:AH} (h:Pre st s):st.length≤s.length:=by obtain ⟨a,rfl⟩:=h;simp
theorem DkAt.pre {st s:AH} {d:Nat} {ps:List (Str × PV)} (h:DkAt st d ps) (p:Pre st s):DkAt s d ps:=h.imp p.get p.get
theorem EB {n d:Nat} (h0:0<d) (h1:n<2 ^ 50) (h2:d<2 ^ 50):Cop (bc n d)∧Sz 50 (bc n d):=⟨.low h0,⟨Nat.lt_of_le_of_lt (gG _ _) h1,Nat.lt_of_le_of_lt (gk _ _) h2,cY h0⟩⟩
theorem nY {as st Q} (h:bT as st Q):au Γ dB (frame 4 as) st (ae st Q):=by
 obtain ⟨p,far,bot,rfl,hp,f0,f1,b0,b1,k⟩:=h
 have pp:=hp.lt
 have g0:Gr st p (st++[Cell.lst [PV.int 2,PV.int 4,PV.int 12]]):=(Gr.refl hp).app
 unfold dB
 walk_at "WP"
 refine ⟨p,3,rfl,g0.pot,by decide,by decide,fun y s1 y0 y1 g1=>?_⟩
 obtain ⟨i,ev,i0,i1⟩:=wg (L:=[2,4,12]) (B:=12) (by decide) y0 y1
 walk_at "WP"
 refine ⟨_,ad (g1.get ak (by omega)),_,ev,(g0.trans g1).tmp (by rw [PV.bel]) fun s2 g2 l2=>?_⟩
 have m0:0<i*far:=Int.mul_pos i0 f0
 have m1:i*far≤12*far:=Int.mul_le_mul_of_nonneg_right i1 (by omega)
 refine ⟨sE (by omega) (by omega),p,i*far,rfl,g2.pot,m0,by omega,fun x s3 x0 x1 g3=>?_⟩
 refine ⟨p,7,rfl,g3.pot,by decide,by decide,fun z s4 z0 z1 g4=>?_⟩
 walk_at "WP"
 have g5:Gr s3 p (s4++[Cell.lst [PV.int bot,PV.int (1+z)]]):=g4.app
 refine ⟨p,2,rfl,g5.pot,by decide,by decide,fun u s5 u0 u1 g6=>?_⟩
 obtain ⟨b,eb,c0,c1⟩:=wg (L:=[bot,1+z]) (B:=1000000) (fun i hi=>by
  simp only [List.mem_cons,List.not_mem_nil,or_false] at hi
  rcases hi with rfl|rfl <;> omega) u0 u1
 walk_at "WP"
 refine ⟨_,ad (g6.get ak (by have:=g5.was;have:=g4.len;omega)),_,eb,(g5.trans g6).tmp (by rw [PV.bel]) fun s6 g7 l7=>?_⟩
 obtain ⟨A,rfl⟩:∃A:Nat,x=A:=⟨x.toNat,by omega⟩
 obtain ⟨B,rfl⟩:∃B:Nat,b=B:=⟨b.toNat,by omega⟩
 obtain ⟨k1,k2⟩:=EB (n:=A) (d:=B) (by omega) (by omega) (by omega)
 have be:B<2 ^ 8000:=Nat.lt_of_lt_of_le (show B<2 ^ 64 by omega) (Nat.pow_le_pow_right (by decide) (by decide))
 exact ⟨A,B,rfl,by omega,be,.inl (k _ _ k1 k2 ((g2.trans g3).trans g7))⟩
theorem kR {as st Q} (h:bi as st Q):au Γ cA (frame 1 as) st (ae st Q):=by
 obtain ⟨t,rfl,ct,zt,k⟩:=h
 unfold cA
 walk_at "WP"
 rw [if_neg (by decide)]
 refine ⟨_,rfl,by rw [PV.bel],?_⟩
 walk_at "WP"
 rw [if_neg (by simp [qU])]
 refine ⟨_,rfl,by rw [PV.bel],?_⟩
 walk_at "WP"
 rw [if_neg (by simp [qU]),if_pos (by omega),if_pos (by have:=ct.pos;omega)]
 have tb:t.2<2 ^ 8000:=Nat.lt_of_lt_of_le zt.b (Nat.pow_le_pow_right (by decide) (by decide))
 refine ⟨t.1,t.2,rfl,ct.pos,tb,?_⟩
 rw [kD,ct.self]
 refine pX ?_
 rw [decide_eq_true rfl]
 exact .inl k
noncomputable def LsI (st:AH) (n:Nat) (L:List (Nat × Nat)) (i:Nat) (ρ:Fr) (s:AH):Prop:=s=st∧∃(o:Option (Nat × Nat)) (a:Option PV),(o=none→i=0)∧(∀p,o=some p→p∈L.take i∧∀q∈L.take i,val p≤val q)∧ρ=[some (.ref n),some (tp o),a]
theorem rA {as st Q} (h:cK as st Q):au Γ eh (frame 3 as) st (ae st Q):=by
 obtain ⟨n,L,rfl,hn,hL,k⟩:=h
 unfold eh
 walk_at "WP"
 refine ⟨_,ad hn,cC Γm (LsI st n L) ⟨rfl,none,_,fun _=>rfl,fun p hp=>(nomatch hp),rfl⟩ ?_ ?_⟩
 ·rintro i v ρ s hi ⟨rfl,o,a,ho,hp,rfl⟩
  refine ⟨rfl,?_⟩
  rw [List.getElem?_map] at hi
  obtain ⟨q,hq,rfl⟩:=Option.map_eq_some_iff.mp hi
  have qL:=hL q (List.mem_of_getElem? hq)
  have et:L.take (i+1)=L.take i++[q]:=by rw [List.take_add_one,hq];rfl
  cases o with
  | none =>
   have i0:=ho rfl
   subst i0
   walk_at "WPO"
   refine ⟨rfl,some q,_,fun e=>(nomatch e),fun p hp=>?_,rfl⟩
   cases hp
   rw [et]
   simp [Rat.le_refl]
  | some x =>
   have xx:=hp x rfl
   have xL:=hL x (List.mem_of_mem_take xx.1)
   walk_at "WPO"
   refine ⟨q,x,rfl,qL.2.mono (by omega),xL.2.mono (by omega),?_⟩
   walk_at "WPO"
   have lt:=f_ (p:=q) (q:=x) qL.1.pos xL.1.pos
   refine bA (fun c=>?_) fun c=>?_
   ·refine ⟨rfl,some q,_,fun e=>(nomatch e),fun p hp=>?_,rfl⟩
    cases hp
    have:=lt.mp c
    rw [et]
    refine ⟨by simp,fun r hr=>?_⟩
    rcases List.mem_append.mp hr with hr|hr
    ·have:=xx.2 r hr;grind
    ·rw [List.mem_singleton] at hr;rw [hr];exact Rat.le_refl
   ·refine ⟨rfl,some x,_,fun e=>(nomatch e),fun p hp=>?_,rfl⟩
    cases hp
    have:val x≤val q:=Classical.byContradiction fun z=>c (lt.mpr (by grind))
    rw [et]
    refine ⟨by simp [xx.1],fun r hr=>?_⟩
    rcases List.mem_append.mp hr with hr|hr
    ·exact xx.2 r hr
    ·rw [List.mem_singleton] at hr;rw [hr];exact this
 ·rintro ρ s ⟨rfl,o,a,ho,hp,rfl⟩
  refine ⟨rfl,?_⟩
  rw [List.length_map] at ho hp
  rw [List.take_length] at hp
  walk_at "WP"
  exact .inl (k o (fun e=>List.length_eq_zero_iff.mp (ho e)) hp)
theorem kA {as st Q} (h:bq as st Q):au Γ cw (frame 9 as) st (ae st Q):=by
 obtain ⟨m,e,ws,d,T,p,t,rfl,hd,hT,hp,ct,zt,hm,k⟩:=h
 have hdv:=c_ (ps:=td T) (p:=(p.1,p.2.v)) (by rw [List.map_map];exact hT.nd) (List.mem_map.mpr ⟨p,hp,rfl⟩)
 unfold cw
 walk_at "WP"
 refine ⟨_,hd,_,hdv,?_⟩
 walk_at "WP"
 refine ⟨ws,rfl,50,m,p.2.X,_,t,rfl,⟨by omega,by omega⟩,hT.rq p hp,ct,zt,fun o ho h1 h2=>?_⟩
 exact .inl (k o (fun q hq=>⟨(ho q hq).1.2,(ho q hq).2.2⟩) ⟨fun e=>⟨o.map v2,h1 e,by cases o <;> rfl⟩,fun e=>(h2 e).1⟩)
noncomputable def d_ {α:Type} (F:List (Str × α)) (z:Str) (a:α):List (Str × α):=if z∈F.map (·.1) then F.map (fun p=>if p.1=z then (p.1,a) else p) else F++[(z,a)]
theorem jN {α:Type} {F:List (Str × α)} {z:Str} {a:α} {v:α→PV}:gb (kd (F.map fun p=>(p.1,v p.2))) (.inr z) (v a)=kd ((d_ F z a).map fun p=>(p.1,v p.2)):=by
 have e:(F.map fun p=>(p.1,v p.2)).map (·.1)=F.map (·.1):=by rw [List.map_map];rfl
 unfold d_
 by_cases h:z∈F.map (·.1)
 ·rw [if_pos h,AN (by rw [e];exact h),List.map_map,List.map_map]
  congr 1
  refine List.map_congr_left fun p _=>?_
  simp only [Function.comp]
  by_cases q:p.1=z
  ·rw [if_pos q,if_pos q]
  ·rw [if_neg q,if_neg q]
 ·rw [if_neg h,vR (by rw [e];exact h),List.map_append]
  rfl
theorem eS {α:Type} {F:List (Str × α)} {z:Str} {a:α} {p:Str × α} (h:p∈d_ F z a):p∈F∨p=(z,a):=by
 unfold d_ at h
 split at h
 ·obtain ⟨q,hq,rfl⟩:=List.mem_map.mp h
  split
  ·rename_i e;exact .inr (by rw [e])
  ·exact .inl hq
 ·rcases List.mem_append.mp h with h|h
  ·exact .inl h
  ·exact .inr (List.mem_singleton.mp h)
theorem qT {α:Type} {F:List (Str × α)} {z:Str} {a:α} (h:(F.map (·.1)).Nodup):((d_ F z a).map (·.1)).Nodup:=by
 unfold d_
 split
 ·rw [List.map_map]
  have:(F.map ((fun p=>p.1) ∘ fun p=>if p.1=z then (p.1,a) else p))=F.map (·.1):=List.map_congr_left fun p _=>by simp only [Function.comp];split <;> rfl
  rw [this]
  exact h
 ·rename_i hz
  rw [List.map_append,List.nodup_append]
  refine ⟨h,by simp,fun x hx y hy e=>?_⟩
  simp only [List.map_cons,List.map_nil,List.mem_singleton] at hy
  subst hy e
  exact hz hx
theorem yV {α β:Type} {F:List (Str × α)} {z:Str} {a:α} {g:α→β}:(d_ F z a).map (fun p=>(p.1,g p.2))=d_ (F.map fun p=>(p.1,g p.2)) z (g a):=by
 have e:(F.map fun p=>(p.1,g p.2)).map (·.1)=F.map (·.1):=by rw [List.map_map];rfl
 unfold d_
 by_cases h:z∈F.map (·.1)
 ·rw [if_pos h,if_pos (by rw [e];exact h),List.map_map,List.map_map]
  refine List.map_congr_left fun p _=>?_
  simp only [Function.comp]
  by_cases q:p.1=z
  ·rw [if_pos q,if_pos q]
  ·rw [if_neg q,if_neg q]
 ·rw [if_neg h,if_neg (by rw [e];exact h),List.map_append]
  rfl
theorem rg {F:Mom} {z:Str} (h:z ∉ F.map (·.1)):Mv F z=none:=by
 unfold Mv
 rw [Option.map_eq_none_iff,List.find?_eq_none]
 intro p hp e
 exact h (List.mem_map.mpr ⟨p,hp,of_decide_eq_true e⟩)
theorem eV:∀ {F:Mom} {p:Str × Nat × Nat},(F.map (·.1)).Nodup→p∈F→Mv F p.1=some (val p.2)
 | [],p,_,h=>nomatch h
 | q::F,p,hn,h=>by
  rw [List.map_cons,List.nodup_cons] at hn
  by_cases e:q.1=p.1
  ·rcases List.mem_cons.mp h with z|z
   ·subst z;simp [Mv]
   ·exact absurd (e ▸ List.mem_map.mpr ⟨p,z,rfl⟩) hn.1
  ·rcases List.mem_cons.mp h with z|z
   ·subst z;exact absurd rfl e
   ·have:=eV hn.2 z
    unfold Mv at this ⊢
    rw [List.find?_cons,decide_eq_false e]
    exact this
theorem jA {F:Mom} {z:Str} {y:Rat} (h:Mv F z=some y):∃p∈F,p.1=z∧val p.2=y:=by
 unfold Mv at h
 obtain ⟨p,hp,e⟩:=Option.map_eq_some_iff.mp h
 exact ⟨p,List.mem_of_find?_eq_some hp,of_decide_eq_true (p:=p.1=z) (List.find?_some (p:=fun p:Str × Nat × Nat=>decide (p.1=z)) hp),e⟩
theorem wD {F:Mom} {z:Str} {q:Nat × Nat} (h:(F.map (·.1)).Nodup):Mv (d_ F z q)=fun w=>if w=z then some (val q) else Mv F w:=by
 funext w
 have nd:=qT (z:=z) (a:=q) h
 by_cases e:w=z
 ·subst e
  rw [if_pos rfl]
  have:(w,q)∈d_ F w q:=by
   unfold d_
   split
   ·rename_i hz
    obtain ⟨p,hp,e⟩:=List.mem_map.mp hz
    exact List.mem_map.mpr ⟨p,hp,by rw [if_pos e,e]⟩
   ·simp
  exact eV nd this
 ·rw [if_neg e]
  cases c:Mv F w with
  | some y =>
   obtain ⟨p,hp,rfl,rfl⟩:=jA c
   have:p∈d_ F z q:=by
    unfold d_
    split
    ·exact List.mem_map.mpr ⟨p,hp,by rw [if_neg e]⟩
    ·exact List.mem_append.mpr (.inl hp)
   exact eV nd this
  | none =>
   cases c2:Mv (d_ F z q) w with
   | none=>rfl
   | some y =>
    obtain ⟨p,hp,rfl,rfl⟩:=jA c2
    rcases eS hp with hp|hp
    ·rw [eV h hp] at c;cases c
    ·rw [hp] at e;exact absurd rfl e
theorem Fok.put {m:Nat} {F:Mom} {z:Str} {q:Nat × Nat} (h:Fok m F) (hz:Nm z) (hc:Cop q) (hs:Sz m q):Fok m (d_ F z q):=⟨qT h.nd,fun p hp=>by
 rcases eS hp with hp|rfl
 ·exact h.ok p hp
 ·exact ⟨hz,hc,hs⟩⟩
theorem Fok.mono {m k:Nat} {F:Mom} (h:Fok m F) (hk:m≤k):Fok k F:=⟨h.nd,fun p hp=>⟨(h.ok p hp).1,(h.ok p hp).2.1,(h.ok p hp).2.2.mono hk⟩⟩
theorem Keys.put {T:List (Str × Ti)} {s:Str} {F:Mom} {z:Str} {q:Nat × Nat} (h:Keys T s F) (hz:∃r∈T,r.2.b=z):Keys T s (d_ F z q):=fun p hp=>by
 rcases eS hp with hp|rfl
 ·exact h p hp
 ·exact .inr hz
theorem Keys.len {T:List (Str × Ti)} {s:Str} {F:Mom} {m:Nat} (h:Keys T s F) (hF:Fok m F) (hT:NetT T):F.length≤21:=by
 have:=nO (xs:=F.map (·.1)) (ys:=s::T.map (·.2.b)) hF.nd fun x hx=>by
  obtain ⟨p,hp,rfl⟩:=List.mem_map.mp hx
  rcases h p hp with e|⟨q,hq,e⟩
  ·rw [e];exact List.mem_cons_self
  ·exact List.mem_cons_of_mem _ (List.mem_map.mpr ⟨q,hq,e⟩)
 have l:=hT.ln
 rw [List.length_map,List.length_cons,List.length_map] at this
 omega
structure Sf (P C:Str→Rat→Prop) (g:Pm):Prop where
 lo:∀z y,P z y→∃y',g z=some y'∧y'≤y
 ok:∀z y,g z=some y→C z y
theorem Sf.imp {P P' C:Str→Rat→Prop} {g:Pm} (h:Sf P C g) (hp:∀z y,P' z y→P z y):Sf P' C g:=⟨fun z y q=>h.lo z y (hp z y q),h.ok⟩
theorem Sf.put {P C:Str→Rat→Prop} {g:Pm} {z:Str} {y:Rat} (h:Sf P C g) (hy:C z y) (lt:∀y',g z=some y'→y≤y'):Sf (fun w u=>P w u∨w=z∧u=y) C (fun w=>if w=z then some y else g w):=⟨fun w u q=>by
  by_cases e:w=z
  ·subst e
   rw [if_pos rfl]
   rcases q with q|⟨-,rfl⟩
   ·obtain ⟨y',e1,e2⟩:=h.lo w u q
    exact ⟨y,rfl,Rat.le_trans (lt y' e1) e2⟩
   ·exact ⟨_,rfl,Rat.le_refl⟩
  ·rw [if_neg e]
   rcases q with q|⟨e',-⟩
   ·exact h.lo w u q
   ·exact absurd e' e,
 fun w u q=>by
  by_cases e:w=z
  ·subst e
   rw [if_pos rfl] at q
   cases q
   exact hy
  ·rw [if_neg e] at q
   exact h.ok w u q⟩
theorem Sf.keep {P C:Str→Rat→Prop} {g:Pm} {z:Str} {y y':Rat} (h:Sf P C g) (e:g z=some y') (le:y'≤y):Sf (fun w u=>P w u∨w=z∧u=y) C g:=⟨fun w u q=>by
  rcases q with q|⟨rfl,rfl⟩
  ·exact h.lo w u q
  ·exact ⟨y',e,le⟩,h.ok⟩
theorem Sf.step {T:List (Str × Ti)} {ws:List Str} {f g:Pm} (h:Sf (qC T ws f) (qC T ws f) g):Step T ws f g:=fun z=>⟨h.lo z,h.ok z⟩
theorem get_last2 {st:AH} {a b:Cell}:(st++[a,b])[st.length+1]?=some b:=by rw [fj (k:=1)];rfl
theorem w_ {as st Q} (h:eM as st Q):au Γ gh (frame 10 as) st (ae st Q):=by
 obtain ⟨m,q,t,rfl,ok,ct,zt,hm,hh,k⟩:=h
 have hF:val q.f≤val t:=hh.1
 have hL:val t≤val q.l:=hh.2
 have pf:=ok.cf.pos
 have pl:=ok.cl.pos
 have pc:=ok.cc.pos
 have pd:=ok.cd.pos
 have ptt:=ct.pos
 unfold gh
 walk_at "WP"
 refine pX ?_
 by_cases e:q.f=q.l
 ·rw [decide_eq_true e,if_pos rfl]
  refine .inl (k q.c ok.cc (ok.zc.mono (by omega)) ?_)
  unfold Rr.to
  rw [if_pos (show val q.f=val q.l by rw [e])]
 rw [decide_eq_false e,if_neg Bool.false_ne_true]
 have ne:val q.f≠val q.l:=fun z=>e (lY ok.cf ok.cl z)
 have lt:val q.f<val q.l:=by grind
 have hD:q.f.1*t.2≤t.1*q.f.2:=(iB pf ptt).mpr hF
 have hE:t.1*q.l.2≤q.l.1*t.2:=(iB ptt pl).mpr hL
 have hW:q.f.1*q.l.2≤q.l.1*q.f.2:=(iB pf pl).mpr (by grind)
 have cD:(t.1:Int)*q.f.2-q.f.1*t.2=((t.1*q.f.2-q.f.1*t.2:Nat):Int):=by rw [Int.natCast_sub hD,Int.natCast_mul,Int.natCast_mul]
 have cE:(q.l.1:Int)*t.2-t.1*q.l.2=((q.l.1*t.2-t.1*q.l.2:Nat):Int):=by rw [Int.natCast_sub hE,Int.natCast_mul,Int.natCast_mul]
 have cW:(q.l.1:Int)*q.f.2-q.f.1*q.l.2=((q.l.1*q.f.2-q.f.1*q.l.2:Nat):Int):=by rw [Int.natCast_sub hW,Int.natCast_mul,Int.natCast_mul]
 rw [cD,cE,cW]
 simp only [←Int.natCast_mul,←Int.natCast_add]
 generalize hDd:t.1*q.f.2-q.f.1*t.2=D
 generalize hEe:q.l.1*t.2-t.1*q.l.2=E
 generalize hWw:q.l.1*q.f.2-q.f.1*q.l.2=W
 have p1:=bO pf
 have p2:=bO pl
 have p3:=bO pc
 have p4:=bO pd
 have p5:=bO ptt
 have qD:(D:Rat)=(val t-val q.f)*(t.2*q.f.2):=by
  have:=congrArg (fun k:Nat=>(k:Rat)) (Nat.sub_add_cancel hD)
  rw [hDd] at this
  simp only [Rat.natCast_add,Rat.natCast_mul] at this
  rw [bQ pf,bQ ptt] at this
  grind
 have qE:(E:Rat)=(val q.l-val t)*(q.l.2*t.2):=by
  have:=congrArg (fun k:Nat=>(k:Rat)) (Nat.sub_add_cancel hE)
  rw [hEe] at this
  simp only [Rat.natCast_add,Rat.natCast_mul] at this
  rw [bQ pl,bQ ptt] at this
  grind
 have qW:(W:Rat)=(val q.l-val q.f)*(q.l.2*q.f.2):=by
  have:=congrArg (fun k:Nat=>(k:Rat)) (Nat.sub_add_cancel hW)
  rw [hWw] at this
  simp only [Rat.natCast_add,Rat.natCast_mul] at this
  rw [bQ pl,bQ pf] at this
  grind
 have bD:D<2 ^ (m+50):=by rw [←hDd];exact Nat.lt_of_le_of_lt (Nat.sub_le _ _) (a_ zt.a ok.zf.b)
 have bE:E<2 ^ (50+m):=by rw [←hEe];exact Nat.lt_of_le_of_lt (Nat.sub_le _ _) (a_ ok.zl.a zt.b)
 have bW:W<2 ^ (50+50):=by rw [←hWw];exact Nat.lt_of_le_of_lt (Nat.sub_le _ _) (a_ ok.zl.a ok.zf.b)
 have b1:D*q.l.2<2 ^ (m+50+50):=a_ bD ok.zl.b
 have b2:E*q.f.2<2 ^ (50+m+50):=a_ bE ok.zf.b
 have a1:q.c.1*q.d.2<2 ^ (50+50):=a_ ok.zc.a ok.zd.b
 have a2:q.d.1*q.c.2<2 ^ (50+50):=a_ ok.zd.a ok.zc.b
 have a3:q.c.2*q.d.2<2 ^ (50+50):=a_ ok.zc.b ok.zd.b
 have c1:=a_ a1 b2
 have c2:=a_ a2 b1
 have c3:=a_ a3 bW
 have c4:=a_ c3 zt.b
 have c5:q.c.1*q.d.2*(E*q.f.2)+q.d.1*q.c.2*(D*q.l.2)<2 ^ (m+252):=by
  have e1:2 ^ (50+50+(50+m+50))≤2 ^ (m+251):=dA (by omega)
  have e2:2 ^ (50+50+(m+50+50))≤2 ^ (m+251):=dA (by omega)
  have e3:(2:Nat) ^ (m+252)=2 ^ (m+251)+2 ^ (m+251):=by rw [Nat.pow_succ];omega
  omega
 have up:∀ {a j:Nat},a<2 ^ j→j≤3000→a<2 ^ 3000:=fun h hj=>Nat.lt_of_lt_of_le h (dA hj)
 have wpos:0<W:=by
  refine Nat.pos_of_ne_zero fun z=>?_
  have e:(W:Rat)=0:=by rw [z];rfl
  rw [qW] at e
  have w:0<(val q.l-val q.f)*((q.l.2:Rat)*q.f.2):=Rat.mul_pos (by grind) (Rat.mul_pos p2 p1)
  grind
 have hpos:0<q.c.2*q.d.2*W*t.2:=Nat.mul_pos (Nat.mul_pos (Nat.mul_pos pc pd) wpos) ptt
 refine ⟨dh (up ok.zl.a (by omega)) (up ok.zf.b (by omega)),dh (up ok.zf.a (by omega)) (up ok.zl.b (by omega)),dh (up zt.a (by omega)) (up ok.zf.b (by omega)),dh (up ok.zf.a (by omega)) (up zt.b (by omega)),
  dh (up bD (by omega)) (up ok.zl.b (by omega)),dh (up ok.zl.a (by omega)) (up zt.b (by omega)),dh (up zt.a (by omega)) (up ok.zl.b (by omega)),dh (up bE (by omega)) (up ok.zf.b (by omega)),
  dh (up ok.zc.a (by omega)) (up ok.zd.b (by omega)),dh (up a1 (by omega)) (up b2 (by omega)),dh (up ok.zd.a (by omega)) (up ok.zc.b (by omega)),dh (up a2 (by omega)) (up b1 (by omega)),dh (up ok.zc.b (by omega)) (up ok.zd.b (by omega)),dh (up a3 (by omega)) (up bW (by omega)),dh (up c3 (by omega)) (up zt.b (by omega)),
  _,_,rfl,hpos,Nat.lt_of_lt_of_le c4 (dA (by omega)),.inl ?_⟩
 rw [kD]
 refine k _ ⟨cY hpos,nB hpos⟩ ⟨Nat.lt_of_le_of_lt (gG _ _) c5,Nat.lt_of_le_of_lt (gk _ _) (Nat.lt_of_lt_of_le c4 (dA (by omega))),cY hpos⟩ ?_
 rw [aG hpos]
 unfold Rr.to
 rw [if_neg (show ¬val q.f=val q.l from ne)]
 simp only [Rat.natCast_add,Rat.natCast_mul]
 rw [qD,qE,qW,bQ pc,bQ pd]
 have hc:(q.c.2:Rat)*q.d.2*q.l.2*t.2*q.f.2≠0:=by
  have:=Rat.mul_pos (Rat.mul_pos (Rat.mul_pos (Rat.mul_pos p3 p4) p2) p5) p1
  grind
 rw [←vU (Y:=val q.c) (G:=val q.d) (X:=val t) hc lt]
 congr 1 <;> grind
theorem RideN.r {r:Rd} (h:Gm r):r.r.Ok:=by
 have c:∀ {a b:Nat},a≤b→(a:Rat)≤b:=fun h=>Rat.natCast_le_natCast.mpr h
 exact ⟨c h.fl,c h.fc,c h.ld,fun z=>by
  have z:(r.f:Rat)=r.l:=z
  have:=h.eq (Rat.natCast_inj.mp z)
  show (r.c:Rat)=r.d
  rw [this]⟩
theorem Rd.qr {r:Rd} {e:Nat} (he:0<e):(r.q e).r=r.r.sc e:=by
 show Rr.mk _ _ _ _=Rr.mk _ _ _ _
 rw [aG he,aG he,aG he,aG he]
theorem Rr.Ok.sc {r:Rr} {e:Rat} (he:0<e) (h:r.Ok):(r.sc e).Ok:=⟨(eO he).mpr h.fl,(eO he).mpr h.fc,(eO he).mpr h.ld,fun z=>by
 have z:r.F/e=r.L/e:=z
 have a:r.F/e*e=r.F:=by grind
 have b:r.L/e*e=r.L:=by grind
 show r.C/e=r.D/e
 rw [h.eq (by rw [←a,←b,z])]⟩
theorem RideN.q {r:Rd} {e:Nat} (h:Gm r) (he:0<e) (e1:e≤10 ^ 11):jZ 50 (r.q e):=by
 have s:∀n,n<10 ^ 13→Sz 50 (bc n e):=fun n hn=>⟨Nat.lt_of_le_of_lt (gG _ _) (by omega),Nat.lt_of_le_of_lt (gk _ _) (by omega),cY he⟩
 have f1:=h.fl
 have f2:=h.bigl
 exact ⟨.low he,.low he,.low he,.low he,s _ (by omega),s _ h.bigl,s _ h.bigc,s _ h.big,by rw [Rd.qr he];exact h.r.sc (bO he)⟩
theorem pE {T:List (Str × Ti)}:(td T).map (·.1)=T.map (·.1):=by rw [List.map_map];rfl
structure CfP (T:List (Str × Ti)) (ws:List Str) (m:Nat) (pl:Str) (t:Rat) (ss:List Str) (L:List (Str × (Nat × Nat) × Str)):Prop where
 src:∀x∈L,Cop x.2.1∧Sz m x.2.1∧Nm x.1∧Nm x.2.2∧∃p∈T,p.2.a=pl∧p.2.b=x.1∧IsC (wt ws p.2) (p.2.X.map Rq.r) t (some (val x.2.1))
 all:∀p∈T,p.1∈ss→p.2.a=pl→∀y,IsC (wt ws p.2) (p.2.X.map Rq.r) t (some y)→∃x∈L,x.1=p.2.b∧val x.2.1=y
 ln:L.length≤ss.length
noncomputable def CfI (st:AH) (T:List (Str × Ti)) (e:PV) (ws:List Str) (d:Nat) (m:Nat) (pl:Str) (t:Nat × Nat) (ss:List Str) (i:Nat) (ρ:Fr) (s:AH):Prop:=∃L a b,s=st++[.lst (L.map cfV),.lst (sV ss)]∧CfP T ws (m+252) pl (val t) (ss.take i) L ∧
 ρ=[some (eC e ws d),some (PV.str pl),some (fr t),some e,some (PV.tup (sV ws)),some (PV.ref d),some (PV.ref (List.length st)),a,b]
theorem CO {α:Type}:∀ {T:List (Str × α)} {r p:Str × α},(T.map (·.1)).Nodup→r∈T→p∈T→r.1=p.1→r=p
 | [],_,_,_,h,_,_=>nomatch h
 | q::T,r,p,hn,hr,hp,e=>by
  rw [List.map_cons,List.nodup_cons] at hn
  rcases List.mem_cons.mp hr with a|a
  ·rcases List.mem_cons.mp hp with b|b
   ·rw [a,b]
   ·exact absurd (List.mem_map.mpr ⟨p,b,by rw [←e,a]⟩) hn.1
  ·rcases List.mem_cons.mp hp with b|b
   ·exact absurd (List.mem_map.mpr ⟨r,a,by rw [e,b]⟩) hn.1
   ·exact CO hn.2 a b e
theorem jK {ps:List (Str × PV)} {z:Str} (h:z ∉ ps.map (·.1)):fI (kd ps) (.inr z)=none:=by
 unfold fI kd
 rw [Option.map_eq_none_iff,List.find?_eq_none]
 intro x hx e
 obtain ⟨p,hp,rfl⟩:=List.mem_map.mp hx
 exact h (List.mem_map.mpr ⟨p,hp,Sum.inr.inj (of_decide_eq_true e)⟩)
theorem nH {as st Q} (h:bH as st Q):au Γ di (frame 9 as) st (ae st Q):=by
 obtain ⟨m,e,ws,d,T,pl,t,rfl,hd,hT,ct,zt,hm,k⟩:=h
 have ln:=hT.ln
 unfold di
 walk_at "WP"
 refine ⟨_,hd.pre (Pre.refl.app),T.map (·.1),by simp,by simp;omega,fun ss hp _=>⟨_,ad get_last2,?_⟩⟩
 have sl:ss.length≤20:=by rw [hp.length_eq,List.length_map];exact ln
 refine cC Γm (CfI st T e ws d m pl t ss) ⟨[],_,_,rfl,⟨fun x hx=>(nomatch hx),fun p _ hp=>by simp at hp,Nat.zero_le _⟩,rfl⟩ ?_ ?_
 ·rintro i v ρ s hi ⟨L,a,b,rfl,hL,rfl⟩
  refine ⟨get_last2.trans get_last2.symm,?_⟩
  rw [List.getElem?_map] at hi
  obtain ⟨z,hz,rfl⟩:=Option.map_eq_some_iff.mp hi
  have zm:z∈T.map (·.1):=hp.subset (List.mem_of_getElem? hz)
  obtain ⟨p,hpT,rfl⟩:=List.mem_map.mp zm
  have et:ss.take (i+1)=ss.take i++[p.1]:=by rw [List.take_add_one,hz];rfl
  have il:=(List.getElem?_eq_some_iff.mp hz).1
  have hdv:=c_ (ps:=td T) (p:=(p.1,p.2.v)) (by rw [pE];exact hT.nd) (List.mem_map.mpr ⟨p,hpT,rfl⟩)
  have hd2:DkAt (st++[.lst (L.map cfV),.lst (sV ss)]) d (td T):=hd.pre Pre.refl.app
  walk_at "WP"
  refine ⟨_,hd2,_,hdv,?_⟩
  walk_at "WP"
  have only:∀r∈T,r.1∈ss.take (i+1)→r.1∈ss.take i∨r=p:=fun r hr hs=>by
   rw [et] at hs
   rcases List.mem_append.mp hs with hs|hs
   ·exact .inl hs
   ·exact .inr (CO hT.nd hr hpT (List.mem_singleton.mp hs))
  have tl:(ss.take (i+1)).length=(ss.take i).length+1:=by rw [et,List.length_append];rfl
  have hn0:(st++[Cell.lst (L.map cfV),Cell.lst (sV ss)])[st.length]?=some (.lst (L.map cfV)):=by rw [cJ];rfl
  have hl:=hL.ln
  have hi20:(ss.take i).length≤20:=Nat.le_trans (List.length_take_le _ _) (by omega)
  refine bA (fun c=>?_) fun c=>?_
  ·refine ⟨m,e,ws,d,T,p,t,rfl,hd2,hT,hpT,ct,zt,hm,fun o ho hC=>?_⟩
   cases o with
   | none =>
    rw [if_neg (by decide)]
    refine ⟨L,_,_,rfl,⟨hL.src,fun r hr hs ha y hy=>?_,by omega⟩,rfl⟩
    rcases only r hr hs with z|z
    ·exact hL.all r hr z ha y hy
    ·subst z
     have:=hC.uniq hy (fun _ _ a b=>a.uniq b) (fun _ _ a b=>a.uniq b)
     cases this
   | some q =>
    rw [if_pos (by rfl)]
    refine ⟨⟨_,aM hn0⟩,_,hd2,_,hdv,?_⟩
    show ixW (.tup [.str p.2.a,.str p.2.b,.tup (p.2.X.map rqV)]) (PV.int 1) _ fun x st1=>ixW (.tup [fr q.1,fr q.2]) (PV.int 1) st1 _
    walk_at "WP"
    refine ⟨by simp;omega,L++[(p.2.b,q.2,p.1)],_,_,?_,⟨fun x hx=>?_,fun r hr hs ha y hy=>?_,by rw [tl,List.length_append];exact Nat.succ_le_succ hl⟩,rfl⟩
    ·rw [List.set_append_right _ _ (Nat.le_refl _)]
     simp
    ·rcases List.mem_append.mp hx with hx|hx
     ·exact hL.src x hx
     ·rw [List.mem_singleton] at hx
      subst hx
      have pn:=hT.nm p hpT
      exact ⟨(ho q rfl).1,(ho q rfl).2,pn.2.2,pn.1,p,hpT,c,rfl,hC⟩
    ·rcases only r hr hs with z|z
     ·obtain ⟨x,hx,h1,h2⟩:=hL.all r hr z ha y hy
      exact ⟨x,by simp [hx],h1,h2⟩
     ·subst z
      have:=hC.uniq hy (fun _ _ a b=>a.uniq b) (fun _ _ a b=>a.uniq b)
      exact ⟨(r.2.b,q.2,r.1),by simp,rfl,Option.some.inj this⟩
  ·refine ⟨L,_,_,rfl,⟨hL.src,fun r hr hs ha y hy=>?_,by omega⟩,rfl⟩
   rcases only r hr hs with z|z
   ·exact hL.all r hr z ha y hy
   ·rw [z] at ha;exact absurd ha c
 ·rintro ρ s ⟨L,a,b,rfl,hL,rfl⟩
  refine ⟨get_last2.trans get_last2.symm,?_⟩
  walk_at "WP"
  rw [List.length_map,List.take_length] at hL
  refine .inl (k _ L _ (Pre.refl.app) (by rw [cJ];rfl) ⟨hL.src,fun p hpT e=>hL.all p hpT (hp.mem_iff.mpr (List.mem_map.mpr ⟨p,hpT,rfl⟩)) e,?_⟩)
  have:=hL.ln
  omega
theorem Em {r:Rr} {b v:Rat} (ok:r.Ok) (bv:b≤v) (vl:v≤r.L):r.to b≤r.to v∨r.D≤r.to v:=by
 by_cases e:r.F=r.L
 ·left;unfold Rr.to;rw [if_pos e,if_pos e];exact Rat.le_refl
 ·obtain ⟨s,hs,hl⟩:=Rr.line (r:=r) (by have:=ok.fl;grind)
  rw [hl,hl,hs]
  by_cases sn:0≤s
  ·left
   have:=Rat.mul_nonneg (a:=s) (b:=v-b) sn (by grind)
   grind
  ·right
   have:=Rat.mul_nonneg (a:=-s) (b:=r.L-v) (by grind) (by grind)
   grind
theorem Cy {r:Rr} {t:Rat} (ok:r.Ok) (h:t≤r.L):∃p,IsOut [r] t (some p):=by
 by_cases f:r.D<r.C
 ·exact ⟨_,sA ok h f⟩
 ·by_cases c:r.F<t
  ·exact ⟨_,jq ok h (by grind) (.inl ⟨c,rfl⟩)⟩
  ·exact ⟨_,jq ok h (by grind) (.inr ⟨by grind,rfl⟩)⟩
theorem zh {t:Rat}:∀(X Y:List Rr),(∀r∈X,r.Ok)→(∃q,IsOut Y t q)→∃q,IsOut (Y++X) t q
 | [],Y,_,h=>by rw [List.append_nil];exact h
 | r::X,Y,ok,⟨q,hq⟩=>by
  have:=zh X (Y++[r]) (fun s hs=>ok s (List.mem_cons_of_mem _ hs)) (by
   by_cases h:t≤r.L
   ·obtain ⟨p,hp⟩:=Cy (ok r List.mem_cons_self) h
    obtain ⟨m1,m2⟩:=hq.more hp
    cases q with
    | none=>exact ⟨_,m2 (.inl rfl)⟩
    | some b =>
     by_cases z:(p.2=b.2∧p.1<b.1)∨p.2<b.2
     ·exact ⟨_,m2 (.inr ⟨b,rfl,z⟩)⟩
     ·exact ⟨_,m1 b rfl z⟩
   ·exact ⟨q,hq.skip (by grind)⟩)
  rwa [List.append_assoc] at this
theorem DG {w:Bool} {X:List Rr} {t:Rat} {o:Option Rat} (ok:∀r∈X,r.Ok) (h0:o=none→∀r∈X,∀y,¬Cm w r t y) (h1:∀y,o=some y→(∃r∈X,Cm w r t y)∧∀r∈X,∀y',Cm w r t y'→y≤y'):IsC w X t o:=by
 refine ⟨fun e=>?_,fun e=>?_⟩
 ·subst e
  obtain ⟨q,hq⟩:=zh X [] ok ⟨none,fun r hr=>(nomatch hr)⟩
  rw [List.nil_append] at hq
  refine ⟨q,hq,?_⟩
  cases q with
  | none =>
   cases o with
   | none=>rfl
   | some y =>
    obtain ⟨⟨r,hr,c|c⟩,_⟩:=h1 y rfl
    ·cases c.1
    ·have:=hq r hr
     have:=c.2.1
     exfalso
     grind
  | some p =>
   obtain ⟨p0,⟨r,hr,ph,pe⟩,pm⟩:=hq
   have rl:t≤r.L:=Rat.le_trans p0 ph.2
   cases o with
   | none=>exact absurd (.inr ⟨rfl,rl,.inr rfl⟩) (h0 rfl r hr r.D)
   | some y =>
    obtain ⟨⟨s,hs,c⟩,ym⟩:=h1 y rfl
    show some y=some p.2
    congr 1
    have a:y≤p.2:=by
     rw [←pe]
     rcases Em (r:=r) (b:=if t<r.F then r.F else t) (v:=p.1) (ok r hr) (by have:=ph.1;split <;> grind) ph.2 with z|z
     ·exact Rat.le_trans (ym r hr _ (.inr ⟨rfl,rl,.inl rfl⟩)) z
     ·exact Rat.le_trans (ym r hr _ (.inr ⟨rfl,rl,.inr rfl⟩)) z
    have b:p.2≤y:=by
     rcases c with c|c
     ·cases c.1
     ·have sf:=(ok s hs).fl
      obtain ⟨-,sl,c⟩:=c
      rcases c with c|c
      ·rw [c];exact (pm s hs _ (by split <;> grind) ⟨by split <;> grind,by split <;> grind⟩).1
      ·rw [c,←Rr.to_L (ok s hs)];exact (pm s hs s.L sl ⟨sf,Rat.le_refl⟩).1
    grind
 ·subst e
  cases o with
  | none=>exact fun r hr hh=>h0 rfl r hr _ (.inl ⟨rfl,hh,rfl⟩)
  | some y =>
   obtain ⟨⟨r,hr,c|c⟩,m⟩:=h1 y rfl
   ·exact ⟨⟨r,hr,c.2.1,c.2.2.symm⟩,fun s hs hh=>m s hs _ (.inl ⟨rfl,hh,rfl⟩)⟩
   ·cases c.1
theorem me {as st Q} (h:bI as st Q):au Γ de (frame 4 as) st (ae st Q):=by
 obtain ⟨m,q,w,t,rfl,ok,ct,zt,hm0,hm,k⟩:=h
 have b1:=f_ (p:=q.l) (q:=t) ok.cl.pos ct.pos
 have b2:=f_ (p:=t) (q:=q.f) ct.pos ok.cf.pos
 have fl:val q.f≤val q.l:=ok.ok.fl
 have none_:(∀y,¬Cm w q.r (val t) y)→Ret st Q (PV.ref (List.length st)) (st++[Cell.lst []]):=fun no =>
  .inl (k _ [] _ Pre.refl.app (Nat.le_refl _) ak (by simp) (fun p hp=>(nomatch hp)) fun y=>⟨fun ⟨p,hp,_⟩=>(nomatch hp),fun z=>absurd z (no y)⟩)
 unfold de
 walk_at "WP"
 refine ⟨_,_,rfl,ok.zl.mono (by omega),zt.mono (by omega),?_⟩
 walk_at "WP"
 refine bA (fun c=>?_) fun c=>?_
 ·have:=b1.mp c
  refine none_ fun y hy=>?_
  rcases hy with hy|hy
  ·have:val t≤val q.l:=hy.2.1.2;grind
  ·have:val t≤val q.l:=hy.2.1;grind
 have tl:val t≤val q.l:=Classical.byContradiction fun z=>c (b1.mpr (by grind))
 cases w with
 | false =>
  walk_at "WP"
  refine ⟨_,_,rfl,zt.mono (by omega),ok.zf.mono (by omega),?_⟩
  walk_at "WP"
  refine bA (fun c2=>?_) fun c2=>?_
  ·have:=b2.mp c2
   refine none_ fun y hy=>?_
   rcases hy with hy|hy
   ·have:val q.f≤val t:=hy.2.1.1;grind
   ·cases hy.1
  ·have ft:val q.f≤val t:=Classical.byContradiction fun z=>c2 (b2.mpr (by grind))
   refine ⟨m,q,t,rfl,ok,ct,zt,hm,⟨ft,tl⟩,fun p cp zp vp=>.inl (k _ [p] _ Pre.refl.app (Nat.le_refl _) ak (by simp) (fun r hr=>?_) fun y=>?_)⟩
   ·rw [List.mem_singleton] at hr;subst hr;exact ⟨cp,zp⟩
   ·constructor
    ·rintro ⟨r,hr,e⟩
     rw [List.mem_singleton] at hr
     subst hr
     exact .inl ⟨rfl,⟨ft,tl⟩,by rw [←e,vp]⟩
    ·rintro (z|z)
     ·exact ⟨p,by simp,by rw [z.2.2,vp]⟩
     ·cases z.1
 | true =>
  walk_at "WP"
  refine ⟨_,_,rfl,zt.mono (by omega),ok.zf.mono (by omega),?_⟩
  walk_at "WP"
  have fin:∀p,Cop p→Sz (m+252) p→val p=q.r.to (if val t<val q.f then val q.f else val t)→Ret st Q (PV.ref (List.length st)) (st++[Cell.lst [fr p,fr q.d]]):=fun p cp zp vp=>by
   refine .inl (k _ [p,q.d] _ Pre.refl.app (Nat.le_refl _) ak (by simp) (fun r hr=>?_) fun y=>?_)
   ·simp only [List.mem_cons,List.not_mem_nil,or_false] at hr
    rcases hr with rfl|rfl
    ·exact ⟨cp,zp⟩
    ·exact ⟨ok.cd,ok.zd.mono (by omega)⟩
   ·constructor
    ·rintro ⟨r,hr,e⟩
     simp only [List.mem_cons,List.not_mem_nil,or_false] at hr
     rcases hr with rfl|rfl
     ·exact .inr ⟨rfl,tl,.inl (by rw [←e,vp])⟩
     ·exact .inr ⟨rfl,tl,.inr e.symm⟩
    ·rintro (z|z)
     ·cases z.1
     ·rcases z.2.2 with z|z
      ·exact ⟨p,by simp,by rw [z,vp]⟩
      ·exact ⟨q.d,by simp,z.symm⟩
  refine bA (fun c2=>?_) fun c2=>?_
  ·exact ⟨50,q,q.f,rfl,ok,ok.cf,ok.zf,by omega,⟨Rat.le_refl,fl⟩,fun p cp zp vp=>fin p cp (zp.mono (by omega)) (by rw [if_pos (b2.mp c2)];exact vp)⟩
  ·have ft:val q.f≤val t:=Classical.byContradiction fun z=>c2 (b2.mpr (by grind))
   exact ⟨m,q,t,rfl,ok,ct,zt,hm,⟨ft,tl⟩,fun p cp zp vp=>fin p cp zp (by rw [if_neg (by grind)];exact vp)⟩
noncomputable def LcI (st:AH) (p:Str × Ti) (e:PV) (ws:List Str) (d:Nat) (m:Nat) (t:Nat × Nat) (i:Nat) (ρ:Fr) (s:AH):Prop:=∃(L:List (Nat × Nat)) (n:Nat) (a:Option PV),Pre st s∧s[n]?=some (.lst (L.map fr))∧(∀p∈L,Cop p∧Sz (m+252) p)∧L.length≤2*i∧(∀y,(∃p∈L,val p=y)↔∃q∈p.2.X.take i,Cm (wt ws p.2) q.r (val t) y) ∧
 ρ=[some (eC e ws d),some (PV.str p.fst),some (fr t),some (PV.str p.snd.a),some (PV.str p.snd.b),some (PV.tup (List.map rqV p.snd.X)),some (PV.ref n),a]
theorem oB {as st Q} (h:bX as st Q):au Γ dC (frame 8 as) st (ae st Q):=by
 obtain ⟨m,e,ws,d,T,p,t,rfl,hd,hT,hpT,hX,ct,zt,hm0,hm,k⟩:=h
 have hdv:=c_ (ps:=td T) (p:=(p.1,p.2.v)) (by rw [pE];exact hT.nd) (List.mem_map.mpr ⟨p,hpT,rfl⟩)
 unfold dC
 walk_at "WP"
 refine ⟨_,hd,_,hdv,?_⟩
 walk_at "WP"
 refine cC Γm (LcI st p e ws d m t) ⟨[],_,_,Pre.refl.app,ak,fun p hp=>(nomatch hp),by simp,by simp,rfl⟩ ?_ ?_
 ·rintro i v ρ s hi ⟨L,n,a,pr,hn,hL,ll,hc,rfl⟩
  refine ⟨trivial,?_⟩
  rw [List.getElem?_map] at hi
  obtain ⟨q,hq,rfl⟩:=Option.map_eq_some_iff.mp hi
  have il:=(List.getElem?_eq_some_iff.mp hq).1
  have et:p.2.X.take (i+1)=p.2.X.take i++[q]:=by rw [List.take_add_one,hq];rfl
  walk_at "WP"
  refine ⟨ws,rfl,m,q,_,t,rfl,hT.rq p hpT q (List.mem_of_getElem? hq),ct,zt,hm0,hm,fun n2 L2 s2 pr2 hn2 hs2 l2 hz hc2=>?_⟩
  walk_at "WP"
  refine ⟨_,pr2.get hn,_,hs2,by simp;omega,L++L2,_,_,(pr.trans pr2).app,by rw [ak];simp,fun r hr=>?_,by simp;omega,fun y=>?_,rfl⟩
  ·rcases List.mem_append.mp hr with hr|hr
   ·exact hL r hr
   ·exact hz r hr
  ·rw [et]
   constructor
   ·rintro ⟨r,hr,e⟩
    rcases List.mem_append.mp hr with hr|hr
    ·obtain ⟨x,hx,c⟩:=(hc y).mp ⟨r,hr,e⟩
     exact ⟨x,by simp [hx],c⟩
    ·exact ⟨q,by simp,(hc2 y).mp ⟨r,hr,e⟩⟩
   ·rintro ⟨x,hx,c⟩
    rcases List.mem_append.mp hx with hx|hx
    ·obtain ⟨r,hr,e⟩:=(hc y).mpr ⟨x,hx,c⟩
     exact ⟨r,by simp [hr],e⟩
    ·rw [List.mem_singleton] at hx
     subst hx
     obtain ⟨r,hr,e⟩:=(hc2 y).mpr c
     exact ⟨r,by simp [hr],e⟩
 ·rintro ρ s ⟨L,n,a,pr,hn,hL,ll,hc,rfl⟩
  refine ⟨trivial,?_⟩
  rw [List.length_map,List.take_length] at hc
  walk_at "WP"
  refine ⟨n,L,rfl,hn,fun p hp=>⟨(hL p hp).1,(hL p hp).2.mono (by omega)⟩,fun o h0 h1=>.inl (k o s pr (fun q hq=>hL q (h1 q hq).1) ?_)⟩
  refine DG (fun r hr=>?_) (fun e r hr y c=>?_) fun y e=>?_
  ·obtain ⟨q,hq,rfl⟩:=List.mem_map.mp hr
   exact (hT.rq p hpT q hq).ok
  ·obtain ⟨q,hq,rfl⟩:=List.mem_map.mp hr
   have:=h0 (Option.map_eq_none_iff.mp e)
   obtain ⟨x,hx,_⟩:=(hc y).mpr ⟨q,hq,c⟩
   rw [this] at hx
   cases hx
  ·obtain ⟨x,rfl,rfl⟩:=Option.map_eq_some_iff.mp e
   obtain ⟨xL,xm⟩:=h1 x rfl
   obtain ⟨q,hq,c⟩:=(hc (val x)).mp ⟨x,xL,rfl⟩
   refine ⟨⟨q.r,List.mem_map.mpr ⟨q,hq,rfl⟩,c⟩,fun r hr y' c'=>?_⟩
   obtain ⟨q',hq',rfl⟩:=List.mem_map.mp hr
   obtain ⟨x',hx',rfl⟩:=(hc y').mpr ⟨q',hq',c'⟩
   exact xm x' hx'
theorem qa {F:Wom}:(gd F).map (·.1)=F.map (·.1):=by rw [List.map_map];rfl
theorem C9 {m:Nat} {F:Wom} (h:Fok m F.mo):(F.map (·.1)).Nodup:=by have:=h.nd;rw [List.map_map] at this;exact this
noncomputable def CZ (T:List (Str × Ti)) (ws:List Str) (f:Pm) (ss:List Str) (z:Str) (y:Rat):Prop:=f z=some y∨∃p∈T,p.2.b=z∧p.2.a∈ss∧∃t,f p.2.a=some t∧IsC (wt ws p.2) (p.2.X.map Rq.r) t (some y)
noncomputable def OtI (st:AH) (T:List (Str × Ti)) (e:PV) (ws:List Str) (d m k:Nat) (sr:Str) (c:Nat) (F:Wom) (ss:List Str) (i:Nat) (ρ:Fr) (s:AH):Prop:=∃(G:Wom) (a4 a5 a3 a6 a7 a8:Option PV),Pre st s∧s[st.length]?=some (.dk (kd (gd G)))∧s[st.length+1]?=some (.lst (sV ss))∧Fok (m+252) G.mo∧Keys T sr G.mo∧(∀p∈G,p.2.2.length≤k+1)∧Sf (CZ T ws (Mv F.mo) (ss.take i)) (qC T ws (Mv F.mo)) (Mv G.mo) ∧
 ρ=[some (eC e ws d),some (PV.ref c),some (PV.ref (List.length st)),a3,a4,a5,a6,a7,a8]
noncomputable def OuI (st:AH) (T:List (Str × Ti)) (e:PV) (ws:List Str) (d m k:Nat) (sr:Str) (c:Nat) (F:Wom) (ss:List Str) (i:Nat) (p:Str × (Nat × Nat) × List Str) (nl:Nat) (L:List (Str × (Nat × Nat) × Str)) (j:Nat) (ρ:Fr) (s:AH):Prop:=∃(G:Wom) (a6 a7 a8:Option PV),Pre st s∧s[st.length]?=some (.dk (kd (gd G)))∧s[st.length+1]?=some (.lst (sV ss))∧s[nl]?=some (.lst (L.map cfV))∧Fok (m+252) G.mo∧Keys T sr G.mo∧(∀p∈G,p.2.2.length≤k+1)∧Sf (fun z y=>CZ T ws (Mv F.mo) (ss.take i) z y∨∃x∈L.take j,x.1=z∧val x.2.1=y) (qC T ws (Mv F.mo)) (Mv G.mo) ∧
 ρ=[some (eC e ws d),some (PV.ref c),some (PV.ref (List.length st)),some (.str p.1),some (fr p.2.1),some (.tup (sV p.2.2)),a6,a7,a8]
theorem np {as st Q} (h:bG as st Q):au Γ cX (frame 9 as) st (ae st Q):=by
 obtain ⟨m,k,e,ws,d,T,sr,c,F,rfl,hd,hT,hc,hF,hK,hw,hk,hm,kk⟩:=h
 have kl:F.length≤21:=by have:=hK.len hF hT;rwa [List.length_map] at this
 unfold cX
 walk_at "WP"
 refine ⟨_,hc,_,.inl (bt hc),F.map (·.1),by simp,by simp;omega,fun ss hp _=>⟨_,ad get_last2,?_⟩⟩
 have sl:ss.length≤21:=by rw [hp.length_eq,List.length_map];exact kl
 refine cC Γm (OtI st T e ws d m k sr c F ss) ⟨F,_,_,_,_,_,_,Pre.refl.app,by rw [cJ];rfl,get_last2,hF.mono (by omega),hK,fun p hp=>by have:=hw p hp;omega,⟨fun z y=>?_,fun z y=>?_⟩,rfl⟩ ?_ ?_
 ·rintro (q|⟨p,hp,e,h,_⟩)
  ·exact ⟨y,q,Rat.le_refl⟩
  ·simp at h
 ·exact fun q=>.inl q
 ·rintro i v ρ s hi ⟨G,a4,a5,a3,a6,a7,a8,pr,hn,hs,hG,hKG,hwG,hS,rfl⟩
  refine ⟨hs.trans get_last2.symm,?_⟩
  rw [List.getElem?_map] at hi
  obtain ⟨z,hz,rfl⟩:=Option.map_eq_some_iff.mp hi
  obtain ⟨p,hpF,rfl⟩:=List.mem_map.mp (hp.subset (List.mem_of_getElem? hz))
  have et:ss.take (i+1)=ss.take i++[p.1]:=by rw [List.take_add_one,hz];rfl
  have hdv:=c_ (ps:=gd F) (p:=(p.1,.tup [fr p.2.1,.tup (sV p.2.2)])) (by rw [qa];exact C9 hF) (List.mem_map.mpr ⟨p,hpF,rfl⟩)
  have pok:=hF.ok (p.1,p.2.1) (List.mem_map.mpr ⟨p,hpF,rfl⟩)
  walk_at "WP"
  refine ⟨_,.inl (pr.get hc),_,hdv,?_⟩
  walk_at "WP"
  refine ⟨m,e,ws,d,T,p.1,p.2.1,rfl,hd.pre pr,hT,pok.2.1,pok.2.2,hm,fun nl L s2 pr2 hL2 cf=>?_⟩
  have la:st.length<s.length:=ag hn
  refine ⟨_,ad hL2,cC Γm (OuI st T e ws d m k sr c F ss i p nl L) ⟨G,_,_,_,pr.trans pr2,pr2.get hn,pr2.get hs,hL2,hG,hKG,hwG,hS.imp fun z y h=>h.elim id fun h=>(by simp at h),rfl⟩ ?_ ?_⟩
  ·rintro j v ρ s3 hj ⟨G,a6,a7,a8,pr,hn,hs,hL3,hG,hKG,hwG,hS,rfl⟩
   refine ⟨hL3.trans hL2.symm,?_⟩
   rw [List.getElem?_map] at hj
   obtain ⟨⟨o,cm,nm⟩,hx,rfl⟩:=Option.map_eq_some_iff.mp hj
   have ej:L.take (j+1)=L.take j++[(o,cm,nm)]:=by rw [List.take_add_one,hx];rfl
   obtain ⟨ccm,zcm,no,nnm,p',hpT',pa,pb,pC⟩:=cf.src _ (List.mem_of_getElem? hx)
   have gl:G.length≤21:=by have:=hKG.len hG hT;rwa [List.length_map] at this
   have pl:=hw p hpF
   have mo:Wom.mo (d_ G o (cm,p.2.2++[nm]))=d_ (Wom.mo G) o cm:=yV
   have cand:qC T ws (Mv F.mo) o (val cm):=.inr ⟨p',hpT',pb,val p.2.1,by rw [pa];exact eV (p:=(p.1,p.2.1)) hF.nd (List.mem_map.mpr ⟨p,hpF,rfl⟩),pC⟩
   have put:(∀y',Mv G.mo o=some y'→val cm≤y')→(sV p.2.2).length≤99999∧∃kvs,s3[List.length st]?=some (Cell.dk kvs)∧kvs.length≤1000∧OuI st T e ws d m k sr c F ss i p nl L (j+1)
     [some (eC e ws d),some (PV.ref c),some (PV.ref (List.length st)),some (PV.str p.fst),some (fr p.snd.fst),some (PV.tup (sV p.snd.snd)),some (PV.str o),some (fr cm),some (PV.str nm)]
     (List.set s3 (List.length st) (Cell.dk (gb kvs (Sum.inr o) (PV.tup [fr cm,PV.tup (sV p.snd.snd++[PV.str nm])])))):=fun lt=>by
    refine ⟨by simp;omega,_,hn,by simp;omega,d_ G o (cm,p.2.2++[nm]),_,_,_,pr.set (Nat.le_refl _),?_,?_,?_,?_,?_,?_,?_,rfl⟩
    ·rw [List.getElem?_set_self (ag hn),show sV p.2.2++[PV.str nm]=sV (p.2.2++[nm]) by simp]
     congr 2
     exact jN (F:=G) (a:=(cm,p.2.2++[nm])) (v:=fun x=>.tup [fr x.1,.tup (sV x.2)])
    ·rw [List.getElem?_set_ne (by omega)];exact hs
    ·rw [List.getElem?_set_ne (fun z=>by rw [←z,hn] at hL3;cases hL3)];exact hL3
    ·rw [mo];exact hG.put no ccm zcm
    ·rw [mo];exact hKG.put ⟨p',hpT',pb⟩
    ·intro q hq
     rcases eS hq with hq|rfl
     ·exact hwG q hq
     ·simp;omega
    ·rw [mo,wD hG.nd]
     refine (hS.put cand lt).imp fun z y h=>?_
     rcases h with h|⟨x,hx,e1,e2⟩
     ·exact .inl (.inl h)
     ·rw [ej] at hx
      rcases List.mem_append.mp hx with hx|hx
      ·exact .inl (.inr ⟨x,hx,e1,e2⟩)
      ·rw [List.mem_singleton] at hx
       subst hx
       exact .inr ⟨e1.symm,e2.symm⟩
   walk_at "WP"
   refine .inr ⟨_,.inl hn,?_⟩
   by_cases h:o∈G.map (·.1)
   ·obtain ⟨g,hg,rfl⟩:=List.mem_map.mp h
    have hdv:=c_ (ps:=gd G) (p:=(g.1,.tup [fr g.2.1,.tup (sV g.2.2)])) (by rw [qa];exact C9 hG) (List.mem_map.mpr ⟨g,hg,rfl⟩)
    have gok:=hG.ok (g.1,g.2.1) (List.mem_map.mpr ⟨g,hg,rfl⟩)
    have gv:Mv G.mo g.1=some (val g.2.1):=eV (p:=(g.1,g.2.1)) hG.nd (List.mem_map.mpr ⟨g,hg,rfl⟩)
    have lt:=f_ (p:=cm) (q:=g.2.1) ccm.pos gok.2.1.pos
    rw [hdv,if_neg (by simp)]
    refine ⟨_,.inl hn,_,hdv,?_⟩
    walk_at "WP"
    refine ⟨cm,g.2.1,rfl,zcm.mono (by omega),gok.2.2.mono (by omega),?_⟩
    walk_at "WP"
    refine bA (fun c1=>?_) fun c1=>?_
    ·have:=lt.mp c1
     exact put fun y' e=>by rw [gv] at e;cases e;grind
    ·have le:val g.2.1≤val cm:=Classical.byContradiction fun z=>c1 (lt.mpr (by grind))
     refine ⟨G,_,_,_,pr,hn,hs,hL3,hG,hKG,hwG,(hS.keep gv le).imp fun z y h=>?_,rfl⟩
     rcases h with h|⟨x,hx,e1,e2⟩
     ·exact .inl (.inl h)
     ·rw [ej] at hx
      rcases List.mem_append.mp hx with hx|hx
      ·exact .inl (.inr ⟨x,hx,e1,e2⟩)
      ·rw [List.mem_singleton] at hx
       subst hx
       exact .inr ⟨e1.symm,e2.symm⟩
   ·rw [jK (by rw [qa];exact h)]
    show ite (Option.isSome none=false) _ _
    rw [if_pos (show (none:Option PV).isSome=false from rfl)]
    exact put fun y' e=>by
     rw [rg (by rw [List.map_map];exact h)] at e
     cases e
  ·rintro ρ s3 ⟨G,a6,a7,a8,pr,hn,hs,hL3,hG,hKG,hwG,hS,rfl⟩
   refine ⟨hL3.trans hL2.symm,?_⟩
   walk_at "WP"
   rw [List.length_map,List.take_length] at hS
   refine ⟨G,_,_,_,_,_,_,pr,hn,hs,hG,hKG,hwG,hS.imp fun z y h=>?_,rfl⟩
   rcases h with h|⟨r,hr,e1,e2,t,e3,e4⟩
   ·exact .inl (.inl h)
   ·rw [et] at e2
    rcases List.mem_append.mp e2 with e2|e2
    ·exact .inl (.inr ⟨r,hr,e1,e2,t,e3,e4⟩)
    ·rw [List.mem_singleton] at e2
     have pv:Mv F.mo p.1=some (val p.2.1):=eV (p:=(p.1,p.2.1)) hF.nd (List.mem_map.mpr ⟨p,hpF,rfl⟩)
     rw [e2,pv] at e3
     cases e3
     obtain ⟨x,hx,x1,x2⟩:=cf.all r hr e2 y e4
     exact .inr ⟨x,hx,x1.trans e1,x2⟩
 ·rintro ρ s ⟨G,a4,a5,a3,a6,a7,a8,pr,hn,hs,hG,hKG,hwG,hS,rfl⟩
  refine ⟨hs.trans get_last2.symm,?_⟩
  walk_at "WP"
  rw [List.length_map,List.take_length] at hS
  refine .inl (kk _ G _ pr (Nat.le_refl _) hn hG hKG hwG (Sf.step (hS.imp fun z y h=>?_)))
  rcases h with h|⟨p,hpT,e,t,ht,hC⟩
  ·exact .inl h
  ·refine .inr ⟨p,hpT,e,?_,t,ht,hC⟩
   obtain ⟨x,hx,e1,_⟩:=jA ht
   obtain ⟨y,hy,rfl⟩:=List.mem_map.mp hx
   exact hp.mem_iff.mpr (List.mem_map.mpr ⟨y,hy,e1⟩)
theorem LyOk.pre {T:List (Str × Ti)} {ws:List Str} {sr:Str} {t:Nat × Nat} {b:Nat} {s s':AH} {ns:List Nat} (h:LyOk T ws sr t b s ns) (p:Pre s s'):LyOk T ws sr t b s' ns:=⟨h.up,h.ge,fun i n e=>by
 obtain ⟨F,h1,h2⟩:=h.at_ i n e
 exact ⟨F,p.get h1,h2⟩⟩
theorem LyOk.zero {T:List (Str × Ti)} {ws:List Str} {sr:Str} {t:Nat × Nat} {b:Nat} {s:AH} {ns:List Nat} (h:LyOk T ws sr t b s ns):LyOk T ws sr t 0 s ns:=⟨h.up,fun _ _=>Nat.zero_le _,h.at_⟩
theorem LyOk.setL {T:List (Str × Ti)} {ws:List Str} {sr:Str} {t:Nat × Nat} {b:Nat} {s:AH} {ns:List Nat} {n:Nat} {L:List PV} {c:Cell} (h:LyOk T ws sr t b s ns) (e:s[n]?=some (.lst L)):LyOk T ws sr t b (s.set n c) ns:=⟨h.up,h.ge,fun i x q=>by
 obtain ⟨F,h1,h2⟩:=h.at_ i x q
 exact ⟨F,by rw [List.getElem?_set_ne (fun z=>by rw [z,h1] at e;cases e)];exact h1,h2⟩⟩
theorem LyOk.lt {T:List (Str × Ti)} {ws:List Str} {sr:Str} {t:Nat × Nat} {b:Nat} {s:AH} {ns:List Nat} (h:LyOk T ws sr t b s ns) (n:Nat) (hn:n∈ns):n<s.length:=by
 obtain ⟨i,hi⟩:=List.getElem?_of_mem hn
 obtain ⟨F,h1,_⟩:=h.at_ i n hi
 exact ag h1
theorem LyOk.snoc {T:List (Str × Ti)} {ws:List Str} {sr:Str} {t:Nat × Nat} {b:Nat} {s:AH} {ns:List Nat} {n:Nat} {F:Mom} (h:LyOk T ws sr t b s ns) (hn:s[n]?=some (.dk (kd (fd F)))) (lt:∀x∈ns,x<n) (bn:b≤n) (hF:Fok 2800 F∧Keys T sr F∧Lay T ws (f0 sr t) ns.length (Mv F)):LyOk T ws sr t b s (ns++[n]):=by
 refine ⟨?_,fun x hx=>?_,fun i x q=>?_⟩
 ·rw [List.pairwise_append]
  exact ⟨h.up,by simp,fun x hx y hy=>by rw [List.mem_singleton] at hy;rw [hy];exact lt x hx⟩
 ·rcases List.mem_append.mp hx with hx|hx
  ·exact h.ge x hx
  ·rw [List.mem_singleton] at hx;omega
 ·by_cases c:i<ns.length
  ·rw [List.getElem?_append_left c] at q
   exact h.at_ i x q
  ·rw [List.getElem?_append_right (by omega)] at q
   have:i=ns.length:=by
    have:=(List.getElem?_eq_some_iff.mp q).1
    simp at this
    omega
   subst this
   rw [Nat.sub_self] at q
   cases q
   exact ⟨F,hn,hF⟩
noncomputable def LyI (st:AH) (T:List (Str × Ti)) (e:PV) (ws:List Str) (d:Nat) (sr:Str) (t:Nat × Nat) (most:Nat) (i:Nat) (ρ:Fr) (s:AH):Prop:=∃(F:Wom) (c:Nat) (ns:List Nat) (a:Option PV),Pre st s∧s[c]?=some (.dk (kd (gd F)))∧s[st.length+1]?=some (.lst (rfs ns))∧ns.length=i∧LyOk T ws sr t st.length s ns∧Fok (50+252*i) F.mo∧Keys T sr F.mo∧(∀p∈F,p.2.2.length≤i)∧Lay T ws (f0 sr t) i (Mv F.mo)∧st.length≤c∧(∀n∈ns,n≠c) ∧
 ρ=[some (eC e ws d),some (PV.str sr),some (fr t),some (PV.int ↑most),some (PV.ref c),some (PV.ref (List.length st+1)),a]
theorem yB {as st Q} (h:fM as st Q):au Γ gM (frame 7 as) st (ae st Q):=by
 obtain ⟨e,ws,d,T,sr,t,most,rfl,hd,hT,hsr,ct,zt,hm,k⟩:=h
 unfold gM
 walk_at "WP"
 refine ⟨by omega,by omega,?_⟩
 refine cC Γm (LyI st T e ws d sr t most) ⟨[(sr,t,[])],st.length,[],_,Pre.refl.app,by rw [cJ];rfl,get_last2,rfl,⟨.nil,fun n hn=>(nomatch hn),fun i n h=>(by simp at h)⟩,⟨by simp,fun p hp=>?_⟩,fun p hp=>?_,fun p hp=>?_,?_,Nat.le_refl _,fun n hn=>(nomatch hn),rfl⟩ ?_ ?_
 ·simp only [List.map_cons,List.map_nil,List.mem_singleton] at hp
  subst hp
  exact ⟨hsr,ct,zt⟩
 ·simp only [List.map_cons,List.map_nil,List.mem_singleton] at hp
  subst hp
  exact .inl rfl
 ·rw [List.mem_singleton] at hp
  subst hp
  simp
 ·show Mv _=f0 sr t
  funext z
  unfold Mv f0
  by_cases h:z=sr
  ·subst h;simp
  ·have:¬sr=z:=fun q=>h q.symm
   simp [h,this]
 ·rintro i v ρ s hi ⟨F,c,ns,a,pr,hc,hl,nl,hL,hF,hK,hw,hLy,lc,nc,rfl⟩
  have kl:F.length≤21:=by have:=hK.len hF hT;rwa [List.length_map] at this
  have e1:(most:Int)+1=((most+1:Nat):Int):=by omega
  rw [e1] at hi
  obtain ⟨rfl,hi⟩:=dO hi
  refine ⟨trivial,?_⟩
  walk_at "WP"
  refine ⟨⟨_,aM hl⟩,_,hc,by simp [kd];omega,?_⟩
  refine A2 Γm (fun j acc s'=>s'=s.set c (.fz (kd (gd F)))∧acc=prL (fd (Wom.mo (F.take j)))) ⟨rfl,rfl⟩ ?_ ?_
  ·rintro j x acc s' hj ⟨rfl,rfl⟩
   obtain ⟨⟨z,v⟩,hp,rfl⟩:=Co hj
   rw [List.getElem?_map] at hp
   obtain ⟨q,hq,e⟩:=Option.map_eq_some_iff.mp hp
   cases e
   have ej:fd (Wom.mo (F.take (j+1)))=fd (Wom.mo (F.take j))++[(q.1,fr q.2.1)]:=by rw [List.take_add_one,hq];simp
   walk_at "WP"
   rw [ej,←rE]
  ·rintro acc s' ⟨rfl,rfl⟩
   rw [sQ,List.length_map,List.take_length]
   have fnd:((fd (Wom.mo F)).map (·.1)).Nodup:=by rw [List.map_map];exact hF.nd
   have cl:c≠st.length+1:=fun z=>by rw [←z,hc] at hl;cases hl
   refine ⟨List.getElem?_set_self (ag hc),fun qs hq=>?_⟩
   rw [←wn hq,Bq fnd,mM hc,List.length_set]
   refine ⟨_,bt hl,by simp;omega,?_⟩
   have hl':=ag (bt (g:=[Cell.dk (kd (fd (Wom.mo F)))]) hl)
   have pr1:Pre st ((s++[Cell.dk (kd (fd (Wom.mo F)))]).set (st.length+1) (.lst (rfs ns++[.ref s.length]))):=pr.app.set (by omega)
   have hL1:LyOk T ws sr t st.length ((s++[Cell.dk (kd (fd (Wom.mo F)))]).set (st.length+1) (.lst (rfs ns++[.ref s.length]))) (ns++[s.length]):=(hL.pre Pre.refl.app |>.snoc ak (fun n hn=>hL.lt n hn) pr.len (nl ▸ ⟨hF.mono (by omega),hK,hLy⟩)).setL (bt hl)
   refine ⟨50+252*i,i,e,ws,d,T,sr,c,F,rfl,.inl (pr1.get hd),hT,by rw [List.getElem?_set_ne cl.symm];exact bt hc,hF,hK,hw,by omega,by omega,fun n G s2 pr2 hn hnG hG hK2 hw2 hS=>?_⟩
   refine ⟨G,n,ns++[s.length],_,pr1.trans pr2,hnG,?_,by simp [nl],hL1.pre pr2,hG.mono (by omega),hK2,hw2,⟨_,hLy,hS⟩,Nat.le_trans pr1.len hn,fun x hx=>?_,rfl⟩
   ·refine pr2.get ?_
    rw [List.getElem?_set_self hl']
    simp
   ·have:=hL1.lt x hx
    omega
 ·rintro ρ s ⟨F,c,ns,a,pr,hc,hl,nl,hL,hF,hK,hw,hLy,lc,nc,rfl⟩
  refine ⟨trivial,?_⟩
  walk_at "WP"
  refine ⟨_,ad hl,.inl (k ns s pr ?_ hL)⟩
  rw [nl]
  simp [dL]
theorem Pre.thaw {s s2:AH} {d:Nat} {c c0:Cell} (p:Pre (s.set d c) s2) (h:s[d]?=some c0):Pre s (s2.set d c0):=by
 obtain ⟨g,rfl⟩:=p
 have dl:=ag h
 rw [List.set_append_left _ _ (by simpa using dl),mM h]
 exact ⟨g,rfl⟩
noncomputable def zX (T U:List (Str × Ti)) (ws:List Str) (f:Pm) (z:Str) (y:Rat):Prop:=f z=some y∨∃p∈U,p.2.b=z∧∃t,f p.2.a=some t∧IsC (wt ws p.2) (p.2.X.map Rq.r) t (some y)
noncomputable def LlI (st:AH) (T:List (Str × Ti)) (e:PV) (ws:List Str) (d:Nat) (sr:Str) (t:Nat × Nat) (most:Nat) (i:Nat) (ρ:Fr) (s:AH):Prop:=∃(ns:List Nat) (n:Nat) (F:Mom) (b5 b6 b7 b8 b9 b10 b11:Option PV),Pre st s∧s[st.length+1]?=some (.lst (rfs (ns++[n])))∧ns.length=i∧LyOk T ws sr t st.length s (ns++[n])∧s[n]?=some (.dk (kd (fd F)))∧Fok (50+252*i) F∧Keys T sr F∧Lay T ws (f0 sr t) i (Mv F) ∧
 ρ=[some (eC e ws d),some (PV.str sr),some (fr t),some (PV.int ↑most),some (PV.ref (List.length st+1)),b5,b6,b7,b8,b9,b10,b11]
noncomputable def LmI (s:AH) (T:List (Str × Ti)) (e:PV) (ws:List Str) (d:Nat) (sr:Str) (t:Nat × Nat) (most:Nat) (i l:Nat) (F:Mom) (j:Nat) (ρ:Fr) (s2:AH):Prop:=∃(G:Mom) (b7 b8 b9 b10 b11:Option PV),Pre (s.set d (.fz (kd (td T)))) s2∧s2[s.length]?=some (.dk (kd (fd G)))∧Fok (50+252*(i+1)) G∧Keys T sr G∧Sf (zX T (T.take j) ws (Mv F)) (qC T ws (Mv F)) (Mv G) ∧
 ρ=[some (eC e ws d),some (PV.str sr),some (fr t),some (PV.int ↑most),some (PV.ref l),some (PV.int i),some (PV.ref s.length),b7,b8,b9,b10,b11]
theorem ou {as st Q} (h:bY as st Q):au Γ dD (frame 12 as) st (ae st Q):=by
 obtain ⟨e,ws,d,T,sr,t,most,rfl,hd,hT,hX,hsr,ct,zt,hm,k⟩:=h
 unfold dD
 walk_at "WP"
 have F0:Fok 50 [(sr,t)]:=⟨by simp,fun p hp=>by rw [List.mem_singleton] at hp;subst hp;exact ⟨hsr,ct,zt⟩⟩
 have K0:Keys T sr [(sr,t)]:=fun p hp=>by rw [List.mem_singleton] at hp;subst hp;exact .inl rfl
 have L0:Lay T ws (f0 sr t) 0 (Mv [(sr,t)]):=by
  show Mv _=f0 sr t
  funext z
  unfold Mv f0
  by_cases h:z=sr
  ·subst h;simp
  ·have:¬sr=z:=fun q=>h q.symm
   simp [h,this]
 have Y0:LyOk T ws sr t st.length (st++[Cell.dk [(Sum.inr sr,fr t)],Cell.lst [PV.ref (List.length st)]]) ([]++[st.length]):=LyOk.snoc (F:=[(sr,t)]) ⟨.nil,fun n hn=>(nomatch hn),fun i n h=>(by simp at h)⟩ (by rw [cJ];rfl) (fun x hx=>(nomatch hx)) (Nat.le_refl _) ⟨F0.mono (by omega),K0,L0⟩
 refine ⟨by omega,by omega,?_⟩
 refine cC Γm (LlI st T e ws d sr t most) ⟨[],st.length,[(sr,t)],_,_,_,_,_,_,_,Pre.refl.app,get_last2,rfl,Y0,by rw [cJ];rfl,F0,K0,L0,rfl⟩ ?_ ?_
 ·rintro i v ρ s hi ⟨ns,n,F,b5,b6,b7,b8,b9,b10,b11,pr,hl,nl,hL,hn,hF,hK,hLy,rfl⟩
  obtain ⟨rfl,hi⟩:=dO hi
  have nn:=ag hn
  refine ⟨trivial,?_⟩
  walk_at "WP"
  refine ⟨_,ad hl,.ref n,by show atI (List.map PV.ref (ns++[n])) (-1)=_;rw [List.map_append];exact ma,?_⟩
  walk_at "WP"
  refine ⟨_,hn,_,bt (pr.get hd),?_⟩
  have dl:d<st.length:=ag hd
  have sl:=pr.len
  have sd:(s++[Cell.dk (kd (fd F))]).set d (.fz (kd (td T)))=s.set d (.fz (kd (td T)))++[Cell.dk (kd (fd F))]:=List.set_append_left _ _ (by omega)
  rw [sd]
  refine cC Γm (LmI s T e ws d sr t most i (st.length+1) F) ⟨F,_,_,_,_,_,Pre.refl.app,by rw [show s.length=(s.set d (Cell.fz (kd (td T)))).length by simp];exact ak,hF.mono (by omega),hK,⟨fun z y=>?_,fun z y q=>.inl q⟩,rfl⟩ ?_ ?_
  ·rintro (q|⟨p,hp,_⟩)
   ·exact ⟨y,q,Rat.le_refl⟩
   ·simp at hp
  ·rintro j v ρ s2 hj ⟨G,c7,c8,c9,c10,c11,pr2,hn2,hG,hKG,hS,rfl⟩
   refine ⟨trivial,?_⟩
   obtain ⟨q,hq,rfl⟩:=wy hj
   rw [List.getElem?_map] at hq
   obtain ⟨p,hp,rfl⟩:=Option.map_eq_some_iff.mp hq
   have hpT:=List.mem_of_getElem? hp
   have et:T.take (j+1)=T.take j++[p]:=by rw [List.take_add_one,hp];rfl
   have hdv:=c_ (ps:=td T) (p:=(p.1,p.2.v)) (by rw [pE];exact hT.nd) (List.mem_map.mpr ⟨p,hpT,rfl⟩)
   have hd2:s2[d]?=some (.fz (kd (td T))):=pr2.get (List.getElem?_set_self (by omega))
   have hl2:s2[st.length+1]?=some (.lst (rfs (ns++[n]))):=pr2.get (by rw [List.getElem?_set_ne (by omega)];exact hl)
   have ndd:n≠d:=by have:=hL.ge n (by simp);omega
   have hnn:s2[n]?=some (.dk (kd (fd F))):=pr2.get (by rw [List.getElem?_set_ne ndd.symm];exact hn)
   walk_at "WP"
   refine ⟨_,.inr hd2,_,hdv,?_⟩
   walk_at "WP"
   have lastr:atI (rfs (ns++[n])) (-1)=some (.ref n):=by show atI (List.map PV.ref (ns++[n])) (-1)=_;rw [List.map_append];exact ma
   have stay:(∀tt,Mv F p.2.a=some tt→∀y,¬IsC (wt ws p.2) (p.2.X.map Rq.r) tt (some y))→∀s3 x,Pre s2 s3→LmI s T e ws d sr t most i (List.length st+1) F (j+1) [some (eC e ws d),some (PV.str sr),some (fr t),some (PV.int ↑most),some (PV.ref (List.length st+1)),some (PV.int ↑i),some (PV.ref (List.length s)),some (PV.str p.fst),some (PV.str p.snd.a),some (PV.str p.snd.b),some (PV.tup (List.map rqV p.snd.X)),x] s3:=fun no s3 x pr3=>by
    refine ⟨G,_,_,_,_,_,pr2.trans pr3,pr3.get hn2,hG,hKG,hS.imp fun z y h=>?_,rfl⟩
    rcases h with h|⟨r,hr,e1,tt,e2,e3⟩
    ·exact .inl h
    ·rw [et] at hr
     rcases List.mem_append.mp hr with hr|hr
     ·exact .inr ⟨r,hr,e1,tt,e2,e3⟩
     ·rw [List.mem_singleton] at hr
      subst hr
      exact absurd e3 (no tt e2 y)
   refine ⟨_,ad hl2,.ref n,lastr,?_⟩
   walk_at "WP"
   refine .inr ⟨_,.inl hnn,?_⟩
   by_cases h:p.2.a∈F.map (·.1)
   ·obtain ⟨x,hx,ex⟩:=List.mem_map.mp h
    have hdx:=c_ (ps:=fd F) (p:=(x.1,fr x.2)) (by rw [List.map_map];exact hF.nd) (List.mem_map.mpr ⟨x,hx,rfl⟩)
    have vx:Mv F p.2.a=some (val x.2):=by rw [←ex];exact eV hF.nd hx
    have xok:=hF.ok x hx
    rw [ex] at hdx
    rw [hdx,if_pos (show (some (p.2.a,fr x.2).2).isSome=true from rfl)]
    refine ⟨_,ad hl2,.ref n,lastr,?_⟩
    walk_at "WP"
    refine ⟨_,.inl hnn,_,hdx,?_⟩
    refine ⟨50+252*i,e,ws,d,T,p,x.2,rfl,.inr hd2,hT,hpT,hX p hpT,xok.2.1,xok.2.2,by omega,by omega,fun o s3 pr3 ho hC=>?_⟩
    cases o with
    | none =>
     rw [if_neg (by decide)]
     refine stay (fun tt e2 y e3=>?_) s3 _ pr3
     rw [vx] at e2
     cases e2
     have:=hC.uniq e3 (fun _ _ a b=>a.uniq b) (fun _ _ a b=>a.uniq b)
     cases this
    | some q =>
     rw [if_pos (by rfl)]
     obtain ⟨cq,zq⟩:=ho q rfl
     have hn3:=pr3.get hn2
     have gl:=hKG.len hG hT
     have pn:=hT.nm p hpT
     have up:∀z y,zX T (T.take (j+1)) ws (Mv F) z y→zX T (T.take j) ws (Mv F) z y∨z=p.2.b∧y=val q:=fun z y h=>by
      rcases h with h|⟨r,hr,e1,tt,e2,e3⟩
      ·exact .inl (.inl h)
      ·rw [et] at hr
       rcases List.mem_append.mp hr with hr|hr
       ·exact .inl (.inr ⟨r,hr,e1,tt,e2,e3⟩)
       ·rw [List.mem_singleton] at hr
        subst hr
        rw [vx] at e2
        cases e2
        have:=hC.uniq e3 (fun _ _ a b=>a.uniq b) (fun _ _ a b=>a.uniq b)
        exact .inr ⟨e1.symm,(Option.some.inj this).symm⟩
     have cand:qC T ws (Mv F) p.2.b (val q):=.inr ⟨p,hpT,rfl,val x.2,vx,hC⟩
     have put:(∀y',Mv G p.2.b=some y'→val q≤y')→∃kvs,s3[List.length s]?=some (Cell.dk kvs)∧kvs.length≤1000∧LmI s T e ws d sr t most i (List.length st+1) F (j+1)
       [some (eC e ws d),some (PV.str sr),some (fr t),some (PV.int ↑most),some (PV.ref (List.length st+1)),some (PV.int ↑i),some (PV.ref (List.length s)),some (PV.str p.fst),some (PV.str p.snd.a),some (PV.str p.snd.b),some (PV.tup (List.map rqV p.snd.X)),some (tp (some q))]
       (List.set s3 (List.length s) (Cell.dk (gb kvs (Sum.inr p.snd.b) (tp (some q))))):=fun lt=>by
      refine ⟨_,hn3,by simp;omega,d_ G p.2.b q,_,_,_,_,_,(pr2.trans pr3).set (by simp),?_,hG.put pn.2.2 cq zq,hKG.put ⟨p,hpT,rfl⟩,?_,rfl⟩
      ·rw [List.getElem?_set_self (ag hn3)]
       congr 2
       exact jN (F:=G) (a:=q) (v:=fr)
      ·rw [wD hG.nd]
       exact (hS.put cand lt).imp up
     refine .inr ⟨_,.inl hn3,?_⟩
     by_cases hb:p.2.b∈G.map (·.1)
     ·obtain ⟨g,hg,eg⟩:=List.mem_map.mp hb
      have hdg:=c_ (ps:=fd G) (p:=(g.1,fr g.2)) (by rw [List.map_map];exact hG.nd) (List.mem_map.mpr ⟨g,hg,rfl⟩)
      have gok:=hG.ok g hg
      have gv:Mv G p.2.b=some (val g.2):=by rw [←eg];exact eV hG.nd hg
      have lt:=f_ (p:=q) (q:=g.2) cq.pos gok.2.1.pos
      rw [eg] at hdg
      rw [hdg,if_neg (by simp)]
      refine ⟨_,.inl hn3,_,hdg,?_⟩
      refine ⟨q,g.2,rfl,zq.mono (by omega),gok.2.2.mono (by omega),?_⟩
      walk_at "WP"
      refine bA (fun c1=>?_) fun c1=>?_
      ·have:=lt.mp c1
       exact put fun y' e=>by rw [gv] at e;cases e;grind
      ·have le:val g.2≤val q:=Classical.byContradiction fun z=>c1 (lt.mpr (by grind))
       exact ⟨G,_,_,_,_,_,pr2.trans pr3,hn3,hG,hKG,(hS.keep gv le).imp up,rfl⟩
     ·rw [jK (by rw [List.map_map];exact hb)]
      show ite (Option.isSome none=false) _ _
      rw [if_pos (show (none:Option PV).isSome=false from rfl)]
      exact put fun y' e=>by rw [rg hb] at e;cases e
   ·rw [jK (by rw [List.map_map];exact h)]
    show ite (Option.isSome none=true) _ _
    rw [if_neg (by simp)]
    refine stay (fun tt e2 y e3=>?_) s2 _ Pre.refl
    rw [rg h] at e2
    cases e2
  ·rintro ρ s2 ⟨G,c7,c8,c9,c10,c11,pr2,hn2,hG,hKG,hS,rfl⟩
   refine ⟨trivial,?_⟩
   walk_at "WP"
   have prS:Pre s (s2.set d (.dk (kd (td T)))):=pr2.thaw (pr.get hd)
   have hlS:=prS.get hl
   have ls:=ag hl
   rw [sQ,List.length_map,List.take_length] at hS
   have hnS:(s2.set d (.dk (kd (td T))))[s.length]?=some (.dk (kd (fd G))):=by rw [List.getElem?_set_ne (by omega)];exact hn2
   have hLay:Lay T ws (f0 sr t) (i+1) (Mv G):=⟨_,hLy,Sf.step hS⟩
   have nl2:(ns++[n]).length=i+1:=by simp [nl]
   refine ⟨pr2.get (List.getElem?_set_self (by omega)),⟨_,aM hlS⟩,_,hlS,by simp;omega,ns++[n],s.length,G,_,_,_,_,_,_,_,(pr.trans prS).set (by omega),?_,nl2,((hL.pre prS).snoc hnS (fun x hx=>hL.lt x hx) sl ⟨hG.mono (by omega),hKG,by rw [nl2];exact hLay⟩).setL hlS,?_,hG,hKG,hLay,rfl⟩
   ·rw [List.getElem?_set_self (ag hlS)]
    simp
   ·rw [List.getElem?_set_ne (by omega)]
    exact hnS
 ·rintro ρ s ⟨ns,n,F,b5,b6,b7,b8,b9,b10,b11,pr,hl,nl,hL,hn,hF,hK,hLy,rfl⟩
  refine ⟨trivial,?_⟩
  walk_at "WP"
  refine .inl (k _ (ns++[n]) s pr (by omega) hl ?_ hL)
  rw [List.length_append,nl]
  simp [dL]
theorem BM {p:Nat × Nat}:sx (fr p) (fr p):=⟨rfl,.tuple [.int p.1,.int p.2],by simp [fr,PV.toD,PV.toDs],by simp [SeqAt.shaped,PyData.canLay0,PyData.canLayAll0,PyData.depth,PyData.depthAll]⟩
theorem vQ {F G:Mom} (hF:(F.map (·.1)).Nodup) (e:Mv F=Mv G):∀x∈F.map (·.1),x∈G.map (·.1):=fun x hx=>by
 obtain ⟨p,hp,rfl⟩:=List.mem_map.mp hx
 have:=eV hF hp
 rw [e] at this
 obtain ⟨q,hq,e1,_⟩:=jA this
 exact List.mem_map.mpr ⟨q,hq,e1⟩
theorem yR {st:AH} {a b m:Nat} {F G:Mom} (ha:st[a]?=some (.dk (kd (fd F)))) (hb:st[b]?=some (.dk (kd (fd G)))) (hF:Fok m F) (hG:Fok m G) (e:Mv F=Mv G):oI st (.ref a) (.ref b):=by
 have gnd:((fd G).map (·.1)).Nodup:=by rw [List.map_map];exact hG.nd
 refine .inr ⟨a,b,rfl,rfl,.inr ⟨a,b,_,_,rfl,rfl,ha,hb,?_,fun p hp=>?_⟩⟩
 ·have l1:=nO hF.nd (vQ hF.nd e)
  have l2:=nO hG.nd (vQ hG.nd e.symm)
  simp only [List.length_map] at l1 l2 ⊢
  omega
 ·obtain ⟨q,hq,rfl⟩:=List.mem_map.mp hp
  obtain ⟨r,hr,rfl⟩:=List.mem_map.mp hq
  have:=eV hF.nd hr
  rw [e] at this
  obtain ⟨g,hg,e1,e2⟩:=jA this
  have e3:=lY (hG.ok g hg).2.1 (hF.ok r hr).2.1 e2
  refine ⟨fr r.2,?_,BM⟩
  have:=c_ (p:=(g.1,fr g.2)) gnd (List.mem_map.mpr ⟨g,hg,rfl⟩)
  rw [e3,e1] at this
  exact this
theorem vT:∀ {ns ms:List Nat} {i:Nat} {v:PV},(gi (rfs ns) (rfs ms))[i]?=some v→∃n1 n2,ns[i]?=some n1∧ms[i]?=some n2∧v=.tup [.ref n1,.ref n2]
 | [],_,_,_,h=>by simp [gi] at h
 | _::_,[],_,_,h=>by simp [gi] at h
 | a::ns,b::ms,0,v,h=>by
  simp only [List.map_cons,gi,List.getElem?_cons_zero,Option.some.injEq] at h
  exact ⟨a,b,rfl,rfl,h.symm⟩
 | a::ns,b::ms,i+1,v,h=>by
  simp only [List.map_cons,gi,List.getElem?_cons_succ] at h
  obtain ⟨x,y,h1,h2,h3⟩:=vT h
  exact ⟨x,y,by simpa using h1,by simpa using h2,h3⟩
theorem ki {as st Q} (h:bj as st Q):au Γ cF (frame 4 as) st (ae st Q):=by
 obtain ⟨T,ws,sr,t,b,c,ns,ms,rfl,hc,hl,hT,h1,h2,h10,k⟩:=h
 unfold cF
 walk_at "WP"
 rw [if_neg (by decide)]
 refine ⟨_,ad hc,?_⟩
 rw [if_neg (by simp [hl])]
 refine ⟨_,ad hc,cC Γm (fun i ρ s=>s=st∧∃x y,ρ=[some (PV.tup (rfs ns)),some (PV.ref c),x,y]) ⟨rfl,_,_,rfl⟩ ?_ ?_⟩
 ·rintro i v ρ s hi ⟨rfl,x,y,rfl⟩
  refine ⟨⟨trivial,rfl⟩,?_⟩
  obtain ⟨n1,n2,q1,q2,rfl⟩:∃n1 n2,ns[i]?=some n1∧ms[i]?=some n2∧v=.tup [.ref n1,.ref n2]:=vT hi
  obtain ⟨F,f1,f2,f3,f4⟩:=h1.at_ i n1 q1
  obtain ⟨G,g1,g2,g3,g4⟩:=h2.at_ i n2 q2
  have fl:=f3.len f2 hT
  walk_at "WP"
  refine ⟨"dict",by simp [cj,f1],?_⟩
  rw [if_neg (by decide)]
  refine ⟨yR f1 g1 f2 g2 (f4.uniq g4),_,f1,by simp;omega,?_⟩
  have hfz:(s.set n1 (.fz (kd (fd F))))[n1]?=some (.fz (kd (fd F))):=List.getElem?_set_self (ag f1)
  have fnd:((fd F).map (·.1)).Nodup:=by rw [List.map_map];exact f2.nd
  refine nu Γm (fun _=>.bl true) trivial (fun v hv=>?_) ?_
  ·obtain ⟨j,hj⟩:=List.getElem?_of_mem hv
   obtain ⟨q,hq,rfl⟩:=wy hj
   obtain ⟨x,hx,rfl⟩:=List.mem_map.mp (List.mem_of_getElem? hq)
   have hdv:=c_ fnd (List.mem_of_getElem? hq)
   walk_at "WP"
   refine ⟨_,.inr hfz,_,hdv,?_⟩
   have xok:=f2.ok x hx
   exact ⟨x.2,rfl,xok.2.1,xok.2.2.mono (by omega),rfl,rfl⟩
  ·refine ⟨hfz,?_⟩
   rw [mM f1,List.length_set]
   refine ⟨_,aM ak,_,oS (f:=fun _=>true),.app rfl ?_⟩
   walk_at "WP"
   rw [if_neg (by simp)]
   trivial
 ·rintro ρ s ⟨rfl,x,y,rfl⟩
  refine ⟨⟨trivial,rfl⟩,?_⟩
  walk_at "WP"
  exact .inl k
open PySem L2 HX FW
theorem lC {as st Q} (h:dR as st Q):au Γ cO (frame 2 as) st (ae st Q):=by
 obtain ⟨p,q,rfl,hp,hq,k⟩:=h
 unfold cO
 walk_at "WP"
 refine ⟨dh hp.a hq.b,dh hq.a hp.b,?_⟩
 rw [←Int.natCast_mul,←Int.natCast_mul]
 simp only [Int.ofNat_lt]
 exact .inl k
structure NS (st:AH) (p:Nat) (s:AH) (pl nm d:Nat) (names nms:List Str) (T:List (Str × Ti)):Prop where
 g:Gr st p s
 l1:st.length≤pl
 l2:pl<nm
 l3:nm<d
 hp:s[pl]?=some (.lst (sV names))
 hn:s[nm]?=some (.lst (sV nms))
 hd:s[d]?=some (.dk (kd (td T)))
 P:NetT T
 X:∀q∈T,q.2.X.length≤100
 N:∀z∈names,Nm z
 N2:2≤names.length
 N4:names.length≤9
 M:∀z∈nms,Nm z
theorem NS.mono {st s s':AH} {p pl nm d:Nat} {names nms:List Str} {T:List (Str × Ti)} (h:NS st p s pl nm d names nms T) (g:Gr s p s'):NS st p s' pl nm d names nms T:=by
 have:=h.g.was
 have:=h.l1
 have:=h.l2
 have:=h.l3
 exact ⟨h.g.trans g,h.l1,h.l2,h.l3,g.get h.hp (by omega),g.get h.hn (by omega),g.get h.hd (by omega),h.P,h.X,h.N,h.N2,h.N4,h.M⟩
theorem NS.app {st s g:AH} {p pl nm d:Nat} {names nms:List Str} {T:List (Str × Ti)} (h:NS st p s pl nm d names nms T):NS st p (s++g) pl nm d names nms T:=h.mono (Gr.refl h.g.pot).app
theorem NS.setN {st s:AH} {p pl nm d n:Nat} {names nms:List Str} {T:List (Str × Ti)} {L:List PV} (h:NS st p s pl nm d names nms T) (hn:d<n):NS st p (s.set n (.lst L)) pl nm d names nms T:=by
 have:=h.g.was
 have:=h.l1
 have:=h.l2
 have:=h.l3
 exact ⟨h.g.setN (by omega),h.l1,h.l2,h.l3,by rw [List.getElem?_set_ne (by omega)];exact h.hp,by rw [List.getElem?_set_ne (by omega)];exact h.hn,by rw [List.getElem?_set_ne (by omega)];exact h.hd,h.P,h.X,h.N,h.N2,h.N4,h.M⟩
theorem NS.named {st s s':AH} {p pl nm d:Nat} {names nms:List Str} {T:List (Str × Ti)} {z:Str} (h:NS st p s pl nm d names nms T) (g:Gn s p nm s') (hz:Nm z) (e:s'[nm]?=some (.lst (sV (nms++[z])))):NS st p s' pl nm d names (nms++[z]) T:=by
 have:=h.g.was
 have:=h.l1
 have:=h.l2
 have:=h.l3
 refine ⟨Gn.gr h.g (by omega) g,h.l1,h.l2,h.l3,g.get h.hp (by omega) (by omega),e,g.get h.hd (by omega) (by omega),h.P,h.X,h.N,h.N2,h.N4,fun y hy=>?_⟩
 rcases List.mem_append.mp hy with hy|hy
 ·exact h.M y hy
 ·rw [List.mem_singleton] at hy;subst hy;exact hz
theorem NS.put {st s:AH} {p pl nm d:Nat} {names nms:List Str} {T U:List (Str × Ti)} (h:NS st p s pl nm d names nms T) (hq:NetT U) (hx:∀q∈U,q.2.X.length≤100):NS st p (s.set d (.dk (kd (td U)))) pl nm d names nms U:=by
 have:=h.g.was
 have:=h.l1
 have:=h.l2
 have:=h.l3
 exact ⟨h.g.setN (by omega),h.l1,h.l2,h.l3,by rw [List.getElem?_set_ne (by omega)];exact h.hp,by rw [List.getElem?_set_ne (by omega)];exact h.hn,List.getElem?_set_self (ag h.hd),hq,hx,h.N,h.N2,h.N4,h.M⟩
theorem sM {α:Type} {F:List (Str × α)} {z:Str} {a:α}:(d_ F z a).length≤F.length+1:=by
 unfold d_
 split
 ·rw [List.length_map];omega
 ·simp
theorem NetT.put {T:List (Str × Ti)} {z:Str} {t:Ti} (h:NetT T) (hl:T.length<20) (hz:Nm z) (ha:Nm t.a) (hb:Nm t.b) (hx:∀q∈t.X,jZ 50 q):NetT (d_ T z t):=⟨qT h.nd,by have:=sM (F:=T) (z:=z) (a:=t);omega,fun p hp=>by
  rcases eS hp with hp|rfl
  ·exact h.nm p hp
  ·exact ⟨hz,ha,hb⟩,fun p hp=>by
  rcases eS hp with hp|rfl
  ·exact h.rq p hp
  ·exact hx⟩
theorem GX:tD 10 4:=⟨by decide,by decide,by decide⟩
noncomputable abbrev nF (p:Nat) (far bot:Int) (ch t:Nat) (many:Int) (pl:Nat) (ws:List Str) (nm d:Nat) (most:Int) (k a b la u r x e:Option PV):Fr:=[some (.ref p),some (.int far),some (.int bot),some (.int ch),some (.ref t),some (.int many),some (.ref pl),some (.tup (sV ws)),some (.ref nm),some (.ref d),some (.int most),k,a,b,la,u,r,x,e]
noncomputable def NI (st:AH) (p:Nat) (far bot:Int) (ch t:Nat) (many:Int) (pl:Nat) (ws:List Str) (nm d:Nat) (names:List Str) (i:Nat) (ρ:Fr) (s:AH):Prop:=∃(nms:List Str) (T:List (Str × Ti)) (most:Nat) (k a b la u r x:Option PV),NS st p s pl nm d names nms T∧nms.length≤i∧T.length≤i∧most≤10 ^ 12∧ρ=nF p far bot ch t many pl ws nm d most k a b la u r x none
noncomputable def NJ (st:AH) (p:Nat) (far:Int) (B ch t:Nat) (many:Int) (pl:Nat) (ws:List Str) (nm d:Nat) (names nms:List Str) (T:List (Str × Ti)) (i x y LA un rn:Nat) (L:List PV) (j:Nat) (ρ:Fr) (s:AH):Prop:=∃(X:List Rq) (most:Nat) (v:Option PV),NS st p s pl nm d names nms T∧s[un]?=some (.lst L)∧s[rn]?=some (.lst (X.map rqV))∧X.length=j∧(∀q∈X,jZ 50 q)∧most≤10 ^ 12∧ρ=nF p far B ch t many pl ws nm d most (some (.int i)) (some (.int x)) (some (.int y)) (some (.int LA)) (some (.ref un)) (some (.ref rn)) v none
noncomputable abbrev iz:Ss:=(.cons (.set (.name 12) (.call 17 (.cons (.var 0) (.cons (.blt .len (.cons (.var 6) .nil)) .nil)))) (.cons (.set (.name 13) (.bin .Mod (.bin .Add (.bin .Add (.var 12) (.int 1)) (.call 17 (.cons (.var 0) (.cons (.bin .Sub (.blt .len (.cons (.var 6) .nil)) (.int 1)) .nil)))) (.blt .len (.cons (.var 6) .nil)))) (.cons (.set (.name 14) (.int 0)) (.cons (.set (.name 15) (.lst .nil)) (.cons (.ifS (.cmp .Lt (.var 11) (.var 3)) (.cons (.par 12 13 (.var 11) (.bin .Add (.var 11) (.int 1))) (.cons (.set (.name 14) (.bin .Mult (.bin .Mult (.int 3) (.var 1)) (.var 11))) (.cons (.expr (.met .append (.var 15) (.cons (.call 21 (.cons (.var 0) (.cons (.var 1) .nil))) .nil))) .nil))) .nil) (.cons (.set (.name 15) (.bin .Add (.var 15) (.call 23 (.cons (.var 0) (.cons (.cmp .In (.ix (.var 6) (.var 12)) (.var 7)) (.cons (.var 1) .nil)))))) (.cons (.set (.name 16) (.lst .nil)) (.cons (.forS (.name 17) (.seq (.var 15)) (.cons (.set (.name 10) (.blt .max2 (.cons (.var 10) (.cons (.bin .Add (.ix (.var 17) (.int 1)) (.var 14)) .nil)))) (.cons (.expr (.met .append (.var 16) (.cons (.tmp (.blt .tuple1 (.cons (.comp (.call 18 (.cons (.bin .Add (.var 0) (.var 2)) (.cons (.var 1) .nil))) (.name 0) (.seq (.var 17)) .nil ["_law_one"] [2,14]) .nil))) .nil))) .nil))) (.cons (.set (.sub (.var 9) (.call 20 (.cons (.var 0) (.cons (.var 8) .nil)))) (.tup (.cons (.ix (.var 6) (.var 12)) (.cons (.ix (.var 6) (.var 13)) (.cons (.blt .tuple1 (.cons (.var 16) .nil)) .nil))))) .nil)))))))))
theorem A7 {st:AH} {p:Nat} {far:Int} {B ch t:Nat} {many:Int} {pl:Nat} {ws:List Str} {nm d:Nat} {names:List Str} {i:Nat} {D:aL} {nms:List Str} {T:List (Str × Ti)} {most:Nat} {k a b la u r vv:Option PV} {s:AH} (f0:0<far) (f1:far≤10 ^ 8) (b0:0<B) (b1:B≤10 ^ 6) (hi:i<10) (hch:0<ch→ch≤7∧names.length=ch+1)
  (n:NS st p s pl nm d names nms T) (nl:nms.length≤i) (pl':T.length≤i) (m1:most≤10 ^ 12) :
  au Γ iz (nF p far B ch t many pl ws nm d most (some (.int i)) a b la u r vv none) s (LD (NI st p far B ch t many pl ws nm d names (i+1)) D):=by
 unfold iz
 have N2:=n.N2
 have N4:=n.N4
 refine bZ (fun ρ s=>∃x:Nat,x<names.length∧NS st p s pl nm d names nms T∧ρ=nF p far B ch t many pl ws nm d most (some (.int i)) (some (.int x)) b la u r vv none) ?_ ?_
 ·walk_at "WPN"
  exact ⟨_,ad n.hp,p,names.length,by simp [sV],n.g.pot,by omega,by omega,fun y s1 y0 y1 g1=>⟨y.toNat,by omega,n.mono g1,by rw [Int.toNat_of_nonneg y0]⟩⟩
 rintro _ s1 ⟨x,x1,n,rfl⟩
 refine bZ (fun ρ s=>∃y:Nat,y<names.length∧NS st p s pl nm d names nms T∧ρ=nF p far B ch t many pl ws nm d most (some (.int i)) (some (.int x)) (some (.int y)) la u r vv none) ?_ ?_
 ·walk_at "WPN"
  refine ⟨_,ad n.hp,p,(names.length:Int)-1,by simp [sV],n.g.pot,by omega,by omega,fun y s2 y0 y1 g1=>?_⟩
  walk_at "WPN"
  have n2:=n.mono g1
  have e:(sV names).length=names.length:=by simp [sV]
  have z0:0≤((x:Int)+1+y) % ((sV names).length:Int):=Int.emod_nonneg _ (by omega)
  have z1:((x:Int)+1+y) % ((sV names).length:Int)<names.length:=by rw [e];exact Int.emod_lt_of_pos _ (by omega)
  exact ⟨_,ad n2.hp,by omega,(((x:Int)+1+y) % ((sV names).length:Int)).toNat,by omega,n2,by rw [Int.toNat_of_nonneg z0]⟩
 rintro _ s2 ⟨y,y1,n,rfl⟩
 refine bZ (fun ρ s=>s2=s∧ρ=nF p far B ch t many pl ws nm d most (some (.int i)) (some (.int x)) (some (.int y)) (some (.int 0)) u r vv none) (by walk_at "WPN") ?_
 rintro _ _ ⟨rfl,rfl⟩
 refine bZ (fun ρ s=>s2++[.lst []]=s∧ρ=nF p far B ch t many pl ws nm d most (some (.int i)) (some (.int x)) (some (.int y)) (some (.int 0)) (some (.ref s2.length)) r vv none) (by walk_at "WPN") ?_
 rintro _ _ ⟨rfl,rfl⟩
 have dl:=ag n.hd
 have pp:=n.g.was
 have l1:=n.l1
 have l2:=n.l2
 have l3:=n.l3
 obtain ⟨P5,hP5⟩:∃P:Fr→AH→Prop,P=fun ρ s=>∃(x y LA:Nat) (L:List PV),x<names.length∧y<names.length∧LA≤10 ^ 10∧NS st p s pl nm d names nms T∧s[s2.length]?=some (.lst L)∧(∀v∈L,RNb (10 ^ 11) v)∧L.length≤1∧ρ=nF p far B ch t many pl ws nm d most (some (.int i)) (some (.int x)) (some (.int y)) (some (.int LA)) (some (.ref s2.length)) r vv none:=⟨_,rfl⟩
 refine bZ P5 ?_ ?_
 ·walk_at "WPN"
  refine bA (fun c=>?_) fun c=>?_
  ·have hc:=hch (by omega)
   have m0:0≤3*far*(i:Int):=Int.mul_nonneg (by omega) (by omega)
   have m2:3*far*(i:Int)≤3*far*10:=Int.mul_le_mul_of_nonneg_left (by omega) (by omega)
   refine ⟨sE (by decide) (by decide),sE (by omega) (by omega),⟨_,aM ak⟩,p,far,rfl,n.app.g.pot,f0,f1,fun v s3 hv g3=>?_⟩
   have hL:=g3.get (ak (st:=s2) (c:=Cell.lst [])) (by omega)
   refine ⟨_,hL,by simp,?_⟩
   rw [hP5]
   refine ⟨i,i+1,(3*far*(i:Int)).toNat,[v],by omega,by omega,by omega,(n.app.mono g3).setN dl,?_,fun w hw=>?_,by simp,?_⟩
   ·rw [List.getElem?_set_self (ag hL)];rfl
   ·rw [List.mem_singleton] at hw;subst hw;exact hv
   ·rw [Int.toNat_of_nonneg m0];rfl
  ·rw [hP5]
   exact ⟨x,y,0,[],x1,y1,by omega,n.app,ak,fun v hv=>(nomatch hv),by simp,rfl⟩
 intro ρ5 s3 h5
 rw [hP5] at h5
 obtain ⟨x,y,LA,L0,x1,y1,hLA,n,hu,hL0,l0,rfl⟩:=h5
 obtain ⟨P6,hP6⟩:∃P:Fr→AH→Prop,P=fun ρ s=>∃un L,NS st p s pl nm d names nms T∧s[un]?=some (.lst L)∧(∀v∈L,RNb (10 ^ 11) v)∧L.length≤11∧d<un∧ρ=nF p far B ch t many pl ws nm d most (some (.int i)) (some (.int x)) (some (.int y)) (some (.int LA)) (some (.ref un)) r vv none:=⟨_,rfl⟩
 refine bZ P6 ?_ ?_
 ·walk_at "WPN"
  obtain ⟨z,ez,hz⟩:=wz (y:=(x:Int)) n.N (by omega) (by omega)
  refine ⟨_,ad n.hp,_,ez,ws,rfl,p,_,far,rfl,n.g.pot,f0,f1,fun m L s' g' hm hL' hv hl=>?_⟩
  walk_at "WPN"
  have:=ag (n.mono g').hd
  refine ⟨_,g'.get hu (by omega),_,hL',by omega,?_⟩
  rw [hP6]
  refine ⟨s'.length,L0++L,(n.mono g').app,ak,fun v hv'=>?_,by simp;omega,by omega,rfl⟩
  rcases List.mem_append.mp hv' with q|q
  ·exact hL0 v q
  ·exact hv v q
 intro ρ6 s4 h6
 rw [hP6] at h6
 obtain ⟨un,L,n,hu,hL,ll,du,rfl⟩:=h6
 have dl4:=ag n.hd
 have ul4:=ag hu
 refine bZ (fun ρ s=>s4++[.lst []]=s∧ρ=nF p far B ch t many pl ws nm d most (some (.int i)) (some (.int x)) (some (.int y)) (some (.int LA)) (some (.ref un)) (some (.ref s4.length)) vv none) (by walk_at "WPN") ?_
 rintro _ _ ⟨rfl,rfl⟩
 have be:B<2 ^ 8000:=Nat.lt_of_lt_of_le (show B<2 ^ 64 by omega) (Nat.pow_le_pow_right (by decide) (by decide))
 refine bZ (NJ st p far B ch t many pl ws nm d names nms T i x y LA un s4.length L L.length) ?_ ?_
 ·walk_at "WPN"
  refine ⟨_,ad (bt hu),cC Γm (NJ st p far B ch t many pl ws nm d names nms T i x y LA un s4.length L) ⟨[],most,_,n.app,bt hu,ak,rfl,fun q hq=>(nomatch hq),m1,rfl⟩ ?_ ?_⟩
  ·rintro j v ρ s hj ⟨X,most,w,n,hu2,hr,xl,hX,m1,rfl⟩
   refine ⟨hu2.trans (bt hu).symm,?_⟩
   have jl:=(List.getElem?_eq_some_iff.mp hj).1
   obtain ⟨f,l,c,dd,rfl,hN,c1,d1⟩:=hL v (List.mem_of_getElem? hj)
   walk_at "WPN"
   have q1:=hN.fl
   have q2:=hN.fc
   have q3:=hN.ld
   have q4:=hN.eq
   have mx:(if (most:Int)<(l:Int)+LA then (l:Int)+LA else most)=((max most (l+LA):Nat):Int):=by split <;> omega
   rw [mx]
   refine ⟨⟨_,aM hr⟩,by decide,nu Γm (fun x=>match x with | .int z=>fr (bc (z.toNat+LA) B)|v=>v) trivial (fun y hy=>?_) ?_⟩
   ·simp only [List.mem_cons,List.not_mem_nil,or_false] at hy
    rcases hy with rfl|rfl|rfl|rfl
    ·walk_at "WP";exact ⟨f+LA,B,rfl,by omega,be,rfl,rfl⟩
    ·walk_at "WP";exact ⟨l+LA,B,rfl,by omega,be,rfl,rfl⟩
    ·walk_at "WP";exact ⟨c+LA,B,rfl,by omega,be,rfl,rfl⟩
    ·walk_at "WP";exact ⟨dd+LA,B,rfl,by omega,be,rfl,rfl⟩
   ·refine ⟨_,ad ak,.app ?_ ?_⟩
    ·simp [PV.bel,PV.bels,fr]
    ·refine ⟨_,hr,by simp;omega,X++[(Rd.mk (f+LA) (l+LA) (c+LA) (dd+LA)).q B],max most (l+LA),_,n.setN dl4,?_,?_,by simp [xl],fun q hq=>?_,by omega,rfl⟩
     ·rw [List.getElem?_set_ne (by omega)];exact hu2
     ·rw [List.getElem?_set_self (ag hr),List.map_append];rfl
     ·rcases List.mem_append.mp hq with hq|hq
      ·exact hX q hq
      ·rw [List.mem_singleton] at hq
       subst hq
       exact RideN.q (r:=⟨f+LA,l+LA,c+LA,dd+LA⟩) ⟨by show f+LA≤l+LA;omega,by show f+LA≤c+LA;omega,by show l+LA≤dd+LA;omega,fun z=>by have z:f+LA=l+LA:=z;have:=q4 (by omega);show c+LA=dd+LA;omega,by show dd+LA<_;omega,by show c+LA<_;omega,by show l+LA<_;omega⟩ b0 (by omega)
  ·rintro ρ s hI
   obtain ⟨X,most,w,n,hu2,hr,xl,hX,m1,rfl⟩:=hI
   exact ⟨hu2.trans (bt hu).symm,X,most,w,n,hu2,hr,xl,hX,m1,rfl⟩
 rintro _ s5 ⟨X,most,w,n,hu2,hr,xl,hX,m1,rfl⟩
 walk_at "WP"
 obtain ⟨z1,e1,hz1⟩:=wz (y:=(x:Int)) n.N (by omega) (by omega)
 obtain ⟨z2,e2,hz2⟩:=wz (y:=(y:Int)) n.N (by omega) (by omega)
 refine ⟨_,ad n.hp,_,e1,_,ad n.hp,_,e2,_,ad hr,p,nm,nms,rfl,n.g.pot,by omega,n.hn,by omega,n.M,fun z s6 hz gn hs=>?_⟩
 have n6:=n.named gn hz hs
 refine ⟨_,n6.hd,by simp [kd];omega,?_⟩
 have eq:gb (kd (td T)) (.inr z) (Ti.v ⟨z1,z2,X⟩)=kd (td (d_ T z ⟨z1,z2,X⟩)):=jN (F:=T) (v:=Ti.v)
 have al:=sM (F:=T) (z:=z) (a:=⟨z1,z2,X⟩)
 show NI st p far B ch t many pl ws nm d names (i+1) _ (s6.set d (.dk (gb (kd (td T)) (.inr z) (Ti.v ⟨z1,z2,X⟩))))
 rw [eq]
 refine ⟨nms++[z],_,most,_,_,_,_,_,_,_,n6.put (n6.P.put (by omega) hz hz1 hz2 hX) (fun q hq=>?_),by simp;omega,by omega,m1,rfl⟩
 rcases eS hq with hq|rfl
 ·exact n6.X q hq
 ·show X.length≤100
  omega
theorem tQ {as st Q} (h:d5 as st Q):au Γ fm (frame 19 as) st (ae st Q):=by
 obtain ⟨p,rfl,hp,k⟩:=h
 have pp:=hp.lt
 unfold fm
 refine bZ (fun ρ s=>∃far:Int,Gr st p s∧0<far∧far≤10 ^ 8∧ρ=[some (.ref p),some (.int far),none,none,none,none,none,none,none,none,none,none,none,none,none,none,none,none,none]) ?_ ?_
 ·walk_at "WPN"
  have g0:Gr st p (st++[Cell.lst [PV.int 4,PV.int 12,PV.int 10000,PV.int 100000000]]):=(Gr.refl hp).app
  refine ⟨GX,GU,p,4,rfl,g0.pot,by decide,by decide,fun y s y0 y1 g=>?_⟩
  obtain ⟨i,ev,i0,i1⟩:=wg (L:=[4,12,10000,100000000]) (B:=100000000) (by decide) y0 y1
  walk_at "WPN"
  exact ⟨_,ad (g.get ak (by omega)),_,ev,(g0.trans g).tmp (by rw [PV.bel]) fun s2 g2 l2=>⟨g2,i,i0,i1,rfl⟩⟩
 rintro _ s1 ⟨far,g1,f0,f1,rfl⟩
 refine bZ (fun ρ s=>∃bot:Int,Gr st p s∧0<bot∧bot≤10 ^ 6∧ρ=[some (.ref p),some (.int far),some (.int bot),none,none,none,none,none,none,none,none,none,none,none,none,none,none,none,none]) ?_ ?_
 ·walk_at "WPN"
  refine ⟨p,12,rfl,g1.pot,by decide,by decide,fun x s2 x0 x1 g2=>?_⟩
  walk_at "WPN"
  refine ⟨Hf,p,1000000,rfl,g2.pot,by decide,by decide,fun z s3 z0 z1 g3=>?_⟩
  walk_at "WPN"
  have g4:Gr s1 p (s3++[Cell.lst [PV.int 1,PV.int (1+x),PV.int (1+z)]]):=(g2.trans g3).app
  refine ⟨p,3,rfl,g4.pot,by decide,by decide,fun y s5 y0 y1 g5=>?_⟩
  obtain ⟨i,ev,i0,i1⟩:=wg (L:=[1,1+x,1+z]) (B:=1000000) (fun i hi=>by
   simp only [List.mem_cons,List.not_mem_nil,or_false] at hi
   rcases hi with rfl|rfl|rfl <;> omega) y0 y1
  walk_at "WPN"
  exact ⟨_,ad (g5.get ak (by have:=g4.was;have:=(g2.trans g3).len;omega)),_,ev,(g4.trans g5).tmp (by rw [PV.bel]) fun s2 g2 l2=>⟨g1.trans g2,i,i0,i1,rfl⟩⟩
 rintro _ s2 ⟨bot,g2,b0,b1,rfl⟩
 obtain ⟨P7,hP7⟩:∃P:Fr→AH→Prop,P=fun ρ s=>∃ch:Nat,Gr st p s∧(0<ch→4≤ch∧ch≤7)∧ρ=[some (.ref p),some (.int far),some (.int bot),some (.int ch),none,none,none,none,none,none,none,none,none,none,none,none,none,none,none]:=⟨_,rfl⟩
 refine bZ P7 ?_ ?_
 ·walk_at "WPN"
  refine ⟨p,4,rfl,g2.pot,by decide,by decide,fun x s3 x0 x1 g3=>?_⟩
  walk_at "WPN"
  have g4:Gr s2 p (s3++[Cell.lst [PV.int 0,PV.int (4+x)]]):=g3.app
  refine ⟨p,8,rfl,g4.pot,by decide,by decide,fun y s5 y0 y1 g5=>?_⟩
  walk_at "WPN"
  have hl:=g5.get (ak (st:=s3) (c:=Cell.lst [PV.int 0,PV.int (4+x)])) (by have:=g4.was;have:=g3.len;omega)
  refine ⟨_,ad hl,?_⟩
  rcases bz (decide (y=7)) with e|e
  ·rw [e]
   exact ⟨_,oW,(g4.trans g5).tmp (by rw [PV.bel]) fun s6 g6 l6=>by rw [hP7];exact ⟨0,g2.trans g6,fun z=>absurd z (by omega),rfl⟩⟩
  ·rw [e]
   exact ⟨_,nD,(g4.trans g5).tmp (by rw [PV.bel]) fun s6 g6 l6=>by rw [hP7];exact ⟨(4+x).toNat,g2.trans g6,fun _=>by omega,by rw [Int.toNat_of_nonneg (by omega)]⟩⟩
 intro ρ7 s3 h7
 rw [hP7] at h7
 obtain ⟨ch,g3,hch,rfl⟩:=h7
 have hc7:ch≤7:=by
  by_cases z:0<ch
  ·exact (hch z).2
  ·omega
 refine bZ (fun ρ s=>s3++[.lst []]=s∧ρ=[some (.ref p),some (.int far),some (.int bot),some (.int ch),some (.ref s3.length),none,none,none,none,none,none,none,none,none,none,none,none,none,none]) (by walk_at "WPN") ?_
 rintro _ _ ⟨rfl,rfl⟩
 have l3:=g3.len
 obtain ⟨P8,hP8⟩:∃P:Fr→AH→Prop,P=fun ρ s=>∃many:Nat,Gr (s3++[.lst []]) p s∧2≤many∧many≤9∧(0<ch→many=ch+1)∧ρ=[some (.ref p),some (.int far),some (.int bot),some (.int ch),some (.ref s3.length),some (.int many),none,none,none,none,none,none,none,none,none,none,none,none,none]:=⟨_,rfl⟩
 refine bZ P8 ?_ ?_
 ·walk_at "WPN"
  refine bA (fun c=>?_) fun c=>?_
  ·have:=hch (by omega)
   rw [hP8]
   exact ⟨ch+1,Gr.refl g3.pot.app,by omega,by omega,fun _=>rfl,rfl⟩
  ·refine ⟨p,3,rfl,g3.pot.app,by decide,by decide,fun y s4 y0 y1 g4=>?_⟩
   walk_at "WPN"
   rw [hP8]
   exact ⟨(2+y).toNat,g4,by omega,by omega,fun z=>absurd z (by omega),by rw [Int.toNat_of_nonneg (by omega)]⟩
 intro ρ8 s4 h8
 rw [hP8] at h8
 obtain ⟨many,g4,m2,m9,mch,rfl⟩:=h8
 have ht4:=g4.get (ak (st:=s3) (c:=Cell.lst [])) (by omega)
 have g5:=(g3.app (g:=[Cell.lst []])).trans g4
 refine bZ (fun ρ s=>∃pl names,Gr st p s∧st.length≤pl∧s[pl]?=some (.lst (sV names))∧(∀z∈names,Nm z)∧names.length=many∧ρ=[some (.ref p),some (.int far),some (.int bot),some (.int ch),some (.ref s3.length),some (.int many),some (.ref pl),none,none,none,none,none,none,none,none,none,none,none,none]) ?_ ?_
 ·walk_at "WPN"
  refine ⟨by omega,by omega,by simp [dL];omega,?_⟩
  refine jG Γm (fun i acc s=>∃names,acc=sV names∧names.length=i∧(∀z∈names,Nm z)∧Gr st p s∧s[s3.length]?=some (.lst (sV names))) ⟨[],rfl,rfl,fun z hz=>(nomatch hz),g5,ht4⟩ ?_ ?_
  ·rintro i v acc s hi ⟨names,rfl,nl,hN',g,ht⟩
   obtain ⟨rfl,hi⟩:=dO hi
   refine ⟨trivial,?_⟩
   walk_at "WPN"
   refine ⟨p,s3.length,names,rfl,g.pot,by omega,ht,by omega,hN',fun z s' hz gn hs=>⟨names++[z],by simp [sV],by simp [nl],fun y hy=>?_,Gn.gr g (by omega) gn,hs⟩⟩
   rcases List.mem_append.mp hy with hy|hy
   ·exact hN' y hy
   ·rw [List.mem_singleton] at hy;subst hy;exact hz
  ·rintro acc s ⟨names,rfl,nl,hN',g,ht⟩
   refine ⟨trivial,?_⟩
   have nl:names.length=many:=by simpa [dL] using nl
   exact ⟨g.app,s.length,by have:=g.len;omega,names,ak,hN',nl,rfl⟩
 rintro _ s5 ⟨pl,names,g6,l6,hpl,N,nN,rfl⟩
 refine bZ (fun ρ s=>∃ws,Gr s5 p s∧ρ=[some (.ref p),some (.int far),some (.int bot),some (.int ch),some (.ref s3.length),some (.int many),some (.ref pl),some (.tup (sV ws)),none,none,none,none,none,none,none,none,none,none,none]) ?_ ?_
 ·walk_at "WPN"
  refine ⟨_,ad hpl,by simp [sV];omega,?_⟩
  refine jG Γm (fun i acc s=>∃ws,acc=sV ws∧ws.length≤i∧Gr s5 p s) ⟨[],rfl,Nat.le_refl _,Gr.refl g6.pot⟩ ?_ ?_
  ·rintro i v acc s hi ⟨ws,rfl,wl,g⟩
   rw [List.getElem?_map] at hi
   obtain ⟨z,hz,rfl⟩:=Option.map_eq_some_iff.mp hi
   refine ⟨g.old pl (ag hpl) (by omega),?_⟩
   walk_at "WPN"
   refine bA (fun c=>?_) fun c=>?_
   ·exact ⟨ws++[z],by simp [sV],by simp;omega,g⟩
   ·refine ⟨p,2,rfl,g.pot,by decide,by decide,fun y s' y0 y1 g'=>?_⟩
    walk_at "WPN"
    exact bA (fun c=>⟨ws++[z],by simp [sV],by simp;omega,g.trans g'⟩) fun c=>⟨ws,rfl,by omega,g.trans g'⟩
  ·rintro acc s ⟨ws,rfl,wl,g⟩
   refine ⟨g.old pl (ag hpl) (by omega),?_⟩
   have wl:ws.length≤names.length:=by simpa [sV] using wl
   exact ⟨ws,aM ak,by omega,fun ss' hp' _=>⟨_,ad (by rw [fj (k:=1)];rfl),g.app,ss',rfl⟩⟩
 rintro _ s6 ⟨ws,g7,rfl⟩
 have hpl6:=g7.get hpl (by omega)
 refine bZ (fun ρ s=>s6++[.lst []]=s∧ρ=[some (.ref p),some (.int far),some (.int bot),some (.int ch),some (.ref s3.length),some (.int many),some (.ref pl),some (.tup (sV ws)),some (.ref s6.length),none,none,none,none,none,none,none,none,none,none]) (by walk_at "WPN") ?_
 rintro _ _ ⟨rfl,rfl⟩
 refine bZ (fun ρ s=>s6++[.lst [],.dk []]=s∧ρ=[some (.ref p),some (.int far),some (.int bot),some (.int ch),some (.ref s3.length),some (.int many),some (.ref pl),some (.tup (sV ws)),some (.ref s6.length),some (.ref (s6.length+1)),none,none,none,none,none,none,none,none,none]) (by walk_at "WPN") ?_
 rintro _ _ ⟨rfl,rfl⟩
 obtain ⟨B,rfl⟩:∃B:Nat,bot=B:=⟨bot.toNat,by omega⟩
 refine bZ (fun ρ s=>s6++[.lst [],.dk []]=s∧ρ=nF p far B ch s3.length many pl ws s6.length (s6.length+1) (0:Nat) none none none none none none none none) (by walk_at "WPN") ?_
 rintro _ _ ⟨rfl,rfl⟩
 have n0:NS st p (s6++[.lst [],.dk []]) pl s6.length (s6.length+1) names [] []:=⟨(g6.trans g7).app,l6,by have:=ag hpl6;omega,by omega,bt hpl6,by rw [cJ];rfl,by rw [fj (k:=1)];rfl,⟨List.Pairwise.nil,by simp,fun q hq=>(nomatch hq),fun q hq=>(nomatch hq)⟩,fun q hq=>(nomatch hq),N,by omega,by omega,fun z hz=>(nomatch hz)⟩
 refine bZ (fun ρ s=>∃i,NI st p far B ch s3.length many pl ws s6.length (s6.length+1) names i ρ s) ?_ ?_
 ·walk_at "WPN"
  refine bA (fun c=>⟨p,4,rfl,n0.g.pot,by decide,by decide,fun x s7 x0 x1 g7=>?_⟩) fun c=>⟨p,7,rfl,n0.g.pot,by decide,by decide,fun x s7 x0 x1 g7=>?_⟩
  all_goals
   have hx:(ch:Int)+x≤10:=by omega
   walk_at "WPN"
   obtain ⟨M,hM⟩:∃M:Nat,(ch:Int)+x=M:=⟨((ch:Int)+x).toNat,by omega⟩
   rw [hM]
   refine ⟨by omega,by omega,cC Γm (NI st p far B ch s3.length many pl ws s6.length (s6.length+1) names) ⟨[],[],0,_,_,_,_,_,_,_,n0.mono g7,Nat.le_refl _,Nat.le_refl _,by omega,rfl⟩ ?_ ?_⟩
   ·rintro i v ρ s hi ⟨nms,T,most,k',a,b,la,u,r,x',n,nl,tl,m1,rfl⟩
    obtain ⟨rfl,hi⟩:=dO hi
    exact ⟨trivial,A7 (k:=k') f0 f1 (by omega) (by omega) (by omega) (fun z=>⟨hc7,by rw [nN];exact mch z⟩) n nl tl m1⟩
   ·rintro ρ s hI
    exact ⟨trivial,_,hI⟩
 rintro _ s7 ⟨i,nms,T,most,k',a,b,la,u,r,x,n,nl,tl,m1,rfl⟩
 walk_at "WP"
 refine ⟨p,far,rfl,n.g.pot,f0,by omega,fun y s8 y0 y1 g8=>?_⟩
 walk_at "WP"
 obtain ⟨A,hA⟩:∃A:Nat,(most:Int)+y=A:=⟨((most:Int)+y).toNat,by omega⟩
 rw [hA]
 have n8:=n.mono g8
 have be:B<2 ^ 8000:=Nat.lt_of_lt_of_le (show B<2 ^ 64 by omega) (Nat.pow_le_pow_right (by decide) (by decide))
 have q2:=n8.l2
 have q3:=n8.l3
 refine ⟨A,B,rfl,by omega,be,bA (fun c=>⟨oM (by decide) (by decide),.inl ?_⟩) fun c=>⟨oM (by decide) (by decide),.inl ?_⟩⟩
 ·exact k _ _ ws _ T pl names (far*8) B n8.g (by have:=n8.l1;omega) n8.l1 n8.hd n8.P n8.X n8.hp (by omega) n8.N4 n8.N (by omega) (by omega) (by omega) (by omega)
 ·exact k _ _ ws _ T pl names (far*1) B n8.g (by have:=n8.l1;omega) n8.l1 n8.hd n8.P n8.X n8.hp (by omega) n8.N4 n8.N (by omega) (by omega) (by omega) (by omega)
noncomputable abbrev rT:Ss:=(.cons (.set (.name 2) (.call 16 (.cons (.var 0) (.cons (.var 1) .nil)))) (.cons (.set (.tup (.cons (.name 3) (.cons (.name 4) (.cons (.name 5) (.cons (.name 6) .nil))))) (.call 24 (.cons (.var 2) .nil))) (.cons (.set (.name 7) (.ix (.var 4) (.call 17 (.cons (.var 2) (.cons (.blt .len (.cons (.var 4) .nil)) .nil))))) (.cons (.ifS (.cmp .Eq (.call 17 (.cons (.var 2) (.cons (.int 8) .nil))) (.int 0)) (.cons (.set (.name 7) (.call 20 (.cons (.var 2) (.cons (.blt .list1 (.cons (.var 4) .nil)) .nil)))) .nil) .nil) (.cons (.set (.name 8) (.call 25 (.cons (.var 2) (.cons (.var 5) (.cons (.var 6) .nil))))) (.cons (.set (.name 9) (.call 17 (.cons (.var 2) (.cons (.int 8) .nil)))) (.cons (.set (.name 10) (.call 30 (.cons (.var 3) (.cons (.var 7) (.cons (.var 8) (.cons (.var 9) .nil)))))) (.cons (.set (.name 11) (.call 15 (.cons (.var 3) (.cons (.var 7) (.cons (.var 8) (.cons (.var 9) .nil)))))) (.cons (.ifS (.not (.call 33 (.cons (.var 11) (.cons (.var 10) .nil)))) (.cons (.ret (.bl false)) .nil) .nil) (.cons (.expr (.clr (.ix (.var 11) (.neg (.int 1))))) (.cons (.ifS (.bop false (.cons (.not (.call 33 (.cons (.sl (.var 11) .no (.yes (.neg (.int 1)))) (.cons (.sl (.var 10) .no (.yes (.neg (.int 1)))) .nil)))) (.cons (.not (.call 33 (.cons (.call 15 (.cons (.var 3) (.cons (.var 7) (.cons (.var 8) (.cons (.var 9) .nil))))) (.cons (.var 10) .nil)))) .nil))) (.cons (.ret (.bl false)) .nil) .nil) .nil)))))))))))
theorem LyOk.init {T:List (Str × Ti)} {ws:List Str} {sr:Str} {t:Nat × Nat} {b:Nat} {s:AH} {ns:List Nat} {n:Nat} (h:LyOk T ws sr t b s (ns++[n])):LyOk T ws sr t b s ns:=⟨(List.pairwise_append.mp h.up).1,fun x hx=>h.ge x (by simp [hx]),fun i x q=>h.at_ i x (by rw [List.getElem?_append_left (List.getElem?_eq_some_iff.mp q).1];exact q)⟩
theorem LyOk.setK {T:List (Str × Ti)} {ws:List Str} {sr:Str} {t:Nat × Nat} {b:Nat} {s:AH} {ns:List Nat} {k:Nat} {c:Cell} (h:LyOk T ws sr t b s ns) (hk:k ∉ ns):LyOk T ws sr t b (s.set k c) ns:=⟨h.up,h.ge,fun i x q=>by
 obtain ⟨F,h1,h2⟩:=h.at_ i x q
 exact ⟨F,by rw [List.getElem?_set_ne (show k≠x from fun z=>hk (by rw [z];exact List.mem_of_getElem? q))];exact h1,h2⟩⟩
theorem AY {ns:List Int} {i:Nat} {a b c d e f g' h j l:Option PV} {s:AH} {I:Fr→AH→Prop} {D:aL} (hl:ns.length≤63) (hi:i<9) (hI:∀x a b c d e f g h j l s,I [some (.rdl (ns.map PV.int)),x,a,b,c,d,e,f,g,h,j,l] s) :
  au Γ rT [some (.rdl (ns.map PV.int)),some (.int i),a,b,c,d,e,f,g',h,j,l] s (LD I D):=by
 unfold rT
 refine bZ (fun ρ s=>∃p,Pot s p∧ρ=[some (.rdl (ns.map PV.int)),some (.int i),some (.ref p),b,c,d,e,f,g',h,j,l]) ?_ ?_
 ·walk_at "WPN"
  exact ⟨ns,i,rfl,hl,hi,fun p s hp=>⟨p,hp,rfl⟩⟩
 rintro _ s1 ⟨p,hp,rfl⟩
 have pp:=hp.lt
 obtain ⟨P2,hP2⟩:∃P:Fr→AH→Prop,P=fun ρ s=>∃v ws dd T pl names far bot,Gr s1 p s∧s1.length≤dd∧s1.length≤pl∧s[dd]?=some (.dk (kd (td T)))∧NetT T∧(∀q∈T,q.2.X.length≤100)∧s[pl]?=some (.lst (sV names))∧0<names.length∧names.length≤9∧(∀z∈names,Nm z)∧0<far∧far≤10 ^ 10∧0<bot∧bot≤10 ^ 6∧ρ=[some (.rdl (ns.map PV.int)),some (.int i),some (.ref p),some (eC v ws dd),some (.ref pl),some (.int far),some (.int bot),f,g',h,j,l]:=⟨_,rfl⟩
 refine bZ P2 ?_ ?_
 ·walk_at "WPN"
  refine ⟨p,rfl,hp,fun s' v ws dd T pl names far bot g l1 l2 hd hP hX hpl n0 n4 hN q1 q2 q3 q4=>?_⟩
  walk_at "WPN"
  rw [hP2]
  exact ⟨v,ws,dd,T,pl,names,far,bot,g,l1,l2,hd,hP,hX,hpl,n0,n4,hN,q1,q2,q3,q4,rfl⟩
 intro ρ2 s2 h2
 rw [hP2] at h2
 obtain ⟨v,ws,dd,T,pl,names,far,bot,g,l1,l2,hd,hP,hX,hpl,n0,n4,hN,q1,q2,q3,q4,rfl⟩:=h2
 obtain ⟨P3,hP3⟩:∃P:Fr→AH→Prop,P=fun ρ s=>∃z,Nm z∧Gr s2 p s∧ρ=[some (.rdl (ns.map PV.int)),some (.int i),some (.ref p),some (eC v ws dd),some (.ref pl),some (.int far),some (.int bot),some (.str z),g',h,j,l]:=⟨_,rfl⟩
 refine bZ P3 ?_ ?_
 ·walk_at "WPN"
  refine ⟨_,ad hpl,p,names.length,by simp [sV],g.pot,by omega,by omega,fun y s3 y0 y1 g3=>?_⟩
  obtain ⟨z,ez,hz⟩:=wz hN y0 y1
  walk_at "WPN"
  refine ⟨_,ad (g3.get hpl (by omega)),_,ez,?_⟩
  rw [hP3]
  exact ⟨z,hz,g3,rfl⟩
 intro ρ3 s3 h3
 rw [hP3] at h3
 obtain ⟨z,hz,g3,rfl⟩:=h3
 refine bZ P3 ?_ ?_
 ·walk_at "WPN"
  refine ⟨p,8,rfl,g3.pot,by decide,by decide,fun y s4 y0 y1 g4=>?_⟩
  walk_at "WPN"
  have g5:=g3.trans g4
  refine bA (fun c=>?_) fun c=>by rw [hP3];exact ⟨z,hz,g5,rfl⟩
  refine ⟨_,ad (g5.get hpl (by omega)),p,s4.length,names,rfl,g5.pot.app,by have:=g5.pot.lt;omega,ak,by omega,hN,fun y s5 hy g6 _=>?_⟩
  rw [hP3]
  exact ⟨y,hy,Gn.gr g5.app g5.len g6,rfl⟩
 intro ρ4 s4 h4
 rw [hP3] at h4
 obtain ⟨z,hz,g4,rfl⟩:=h4
 obtain ⟨P5,hP5⟩:∃P:Fr→AH→Prop,P=fun ρ s=>∃t,Cop t∧Sz 50 t∧Gr s2 p s∧ρ=[some (.rdl (ns.map PV.int)),some (.int i),some (.ref p),some (eC v ws dd),some (.ref pl),some (.int far),some (.int bot),some (.str z),some (fr t),h,j,l]:=⟨_,rfl⟩
 refine bZ P5 ?_ ?_
 ·walk_at "WPN"
  refine ⟨p,far,bot,rfl,g4.pot,q1,q2,q3,q4,fun t s5 ct zt g5=>?_⟩
  walk_at "WPN"
  rw [hP5]
  exact ⟨t,ct,zt,g4.trans g5,rfl⟩
 intro ρ5 s5 h5
 rw [hP5] at h5
 obtain ⟨t,ct,zt,g5,rfl⟩:=h5
 obtain ⟨P6,hP6⟩:∃P:Fr→AH→Prop,P=fun ρ s=>∃most:Nat,most≤7∧Gr s2 p s∧ρ=[some (.rdl (ns.map PV.int)),some (.int i),some (.ref p),some (eC v ws dd),some (.ref pl),some (.int far),some (.int bot),some (.str z),some (fr t),some (.int most),j,l]:=⟨_,rfl⟩
 refine bZ P6 ?_ ?_
 ·walk_at "WPN"
  refine ⟨p,8,rfl,g5.pot,by decide,by decide,fun y s6 y0 y1 g6=>?_⟩
  walk_at "WPN"
  rw [hP6]
  exact ⟨y.toNat,by omega,g5.trans g6,by rw [Int.toNat_of_nonneg y0]⟩
 intro ρ6 s6 h6
 rw [hP6] at h6
 obtain ⟨most,hm,g6,rfl⟩:=h6
 have hd6:s6[dd]?=some (.dk (kd (td T))):=g6.get hd (by omega)
 obtain ⟨P7,hP7⟩:∃P:Fr→AH→Prop,P=fun ρ s=>∃c ms,Pre s6 s∧s[c]?=some (.lst (rfs ms))∧ms.length=most+1∧LyOk T ws z t 0 s ms∧ρ=[some (.rdl (ns.map PV.int)),some (.int i),some (.ref p),some (eC v ws dd),some (.ref pl),some (.int far),some (.int bot),some (.str z),some (fr t),some (.int most),some (.ref c),l]:=⟨_,rfl⟩
 refine bZ P7 ?_ ?_
 ·walk_at "WPN"
  refine ⟨v,ws,dd,T,z,t,most,rfl,hd6,hP,hX,hz,ct,zt,hm,fun c ms s7 pr _ hc ml hL=>?_⟩
  walk_at "WPN"
  rw [hP7]
  exact ⟨c,ms,pr,hc,ml,hL.zero,rfl⟩
 intro ρ7 s7 h7
 rw [hP7] at h7
 obtain ⟨c,ms,pr7,hc,ml,hLm,rfl⟩:=h7
 have hd7:=pr7.get hd6
 obtain ⟨P8,hP8⟩:∃P:Fr→AH→Prop,P=fun ρ s=>∃ks,Pre s7 s∧ks.length=most+1∧LyOk T ws z t s7.length s ks∧ρ=[some (.rdl (ns.map PV.int)),some (.int i),some (.ref p),some (eC v ws dd),some (.ref pl),some (.int far),some (.int bot),some (.str z),some (fr t),some (.int most),some (.ref c),some (.tup (rfs ks))]:=⟨_,rfl⟩
 refine bZ P8 ?_ ?_
 ·walk_at "WPN"
  refine ⟨v,ws,dd,T,z,t,most,rfl,hd7,hP,hz,ct,zt,hm,fun ks s8 pr kl hL=>?_⟩
  walk_at "WPN"
  rw [hP8]
  exact ⟨ks,pr,kl,hL,rfl⟩
 intro ρ8 s8 h8
 rw [hP8] at h8
 obtain ⟨ks,pr8,kl,hLk,rfl⟩:=h8
 have hc8:=pr8.get hc
 refine bZ (fun ρ s=>s8=s∧ρ=[some (.rdl (ns.map PV.int)),some (.int i),some (.ref p),some (eC v ws dd),some (.ref pl),some (.int far),some (.int bot),some (.str z),some (fr t),some (.int most),some (.ref c),some (.tup (rfs ks))]) ?_ ?_
 ·walk_at "WPN"
  refine ⟨T,ws,z,t,0,c,ks,ms,rfl,hc8,by omega,hP,hLk.zero,hLm.pre pr8,by omega,?_⟩
  walk_at "WPN"
 rintro _ _ ⟨rfl,rfl⟩
 obtain ⟨ks0,k,rfl⟩:∃ks0 k,ks=ks0++[k]:=by
  rcases List.eq_nil_or_concat ks with rfl|⟨a,b,rfl⟩
  ·simp at kl
  ·exact ⟨a,b,by rw [List.concat_eq_append]⟩
 obtain ⟨ms0,k2,rfl⟩:∃ks0 k,ms=ks0++[k]:=by
  rcases List.eq_nil_or_concat ms with rfl|⟨a,b,rfl⟩
  ·simp at ml
  ·exact ⟨a,b,by rw [List.concat_eq_append]⟩
 have l7:=pr8.len
 obtain ⟨F,hk8,-⟩:=hLk.at_ ks0.length k (by simp)
 have kge:s7.length≤k:=hLk.ge k (by simp)
 have kk:k ∉ ks0:=fun h=>by
  have:=(List.pairwise_append.mp hLk.up).2.2 k h k (by simp)
  omega
 have km:k ∉ ms0++[k2]:=fun h=>by
  have:=hLm.lt k h
  omega
 have ck:k≠c:=fun z=>by rw [z,hc8] at hk8;cases hk8
 have dk7:=ag hd7
 have hcS:(s8.set k (.dk []))[c]?=some (.lst (rfs (ms0++[k2]))):=by rw [List.getElem?_set_ne ck];exact hc8
 have kl':ks0.length=most:=by simpa using kl
 have ml':ms0.length=most:=by simpa using ml
 have DD:∀(xs:List Nat) (y:Nat),i4 (rfs (xs++[y])) none (some (-1))=rfs xs:=fun xs y=>by
  show i4 (List.map PV.ref (xs++[y])) _ _=_
  rw [List.map_append]
  exact zD
 walk_at "WP"
 refine ⟨.ref k,by show atI (List.map PV.ref (ks0++[k])) (-1)=_;rw [List.map_append];exact ma,k,rfl,⟨_,hk8⟩,_,aM hcS,?_⟩
 rw [DD,DD]
 have hS:LyOk T ws z t 0 (s8.set k (.dk [])++[Cell.lst (rfs ms0)]) (ms0++[k2]):=((hLm.pre pr8).setK km).pre Pre.refl.app
 refine ⟨T,ws,z,t,0,s8.length,ks0,ms0,rfl,?_,by omega,hP,((hLk.zero.init).setK kk).pre Pre.refl.app,hS.init,by omega,?_⟩
 ·rw [show s8.length=(s8.set k (Cell.dk [])).length by simp]
  exact ak
 walk_at "WP"
 refine ⟨v,ws,dd,T,z,t,most,rfl,bt (by rw [List.getElem?_set_ne (by omega)];exact pr8.get hd7),hP,hz,ct,zt,hm,fun ks' s9 pr9 kl9 hL9=>?_⟩
 refine ⟨T,ws,z,t,0,c,ks',ms0++[k2],rfl,pr9.get (bt hcS),by omega,hP,hL9.zero,hS.pre pr9,by omega,?_⟩
 walk_at "WP"
 exact hI _ _ _ _ _ _ _ _ _ _ _ _
theorem FD {as st Q} (h:ir as st Q):au Γ mH (frame 12 as) st (ae st Q):=by
 obtain ⟨ns,rfl,hl,k⟩:=h
 unfold mH
 walk_at "WP"
 rw [List.length_map]
 obtain ⟨N,hN,hN6⟩:∃N:Nat,(if 1<if 3<(ns.length:Int) then 3 else (ns.length:Int) then if 3<(ns.length:Int) then 3 else (ns.length:Int) else 1)=(N:Int)∧N≤3:=by
  refine ⟨(if 1<if 3<(ns.length:Int) then 3 else (ns.length:Int) then if 3<(ns.length:Int) then 3 else (ns.length:Int) else 1).toNat,?_,?_⟩ <;> (repeat' split) <;> omega
 rw [hN]
 refine ⟨by omega,by omega,?_⟩
 refine cC Γm (fun i ρ s=>∃x a b c d e f g h j l,ρ=[some (.rdl (ns.map PV.int)),x,a,b,c,d,e,f,g,h,j,l]) ⟨_,_,_,_,_,_,_,_,_,_,_,rfl⟩ ?_ ?_
 ·rintro i v ρ s hi ⟨x,a,b,c,d,e,f,g,h,j,l,rfl⟩
  obtain ⟨rfl,hi⟩:=dO hi
  exact ⟨trivial,AY hl (by omega) fun x a b c d e f g h j l s=>⟨x,a,b,c,d,e,f,g,h,j,l,rfl⟩⟩
 ·rintro ρ s ⟨x,a,b,c,d,e,f,g,h,j,l,rfl⟩
  refine ⟨trivial,?_⟩
  walk_at "WP"
  exact .inl (k _)
section
variable {P:Program} {w:World} {K:W.Frag} {mg:Str→Option Value} {base:Heap}
theorem jD (F:At K mg "common_divisor" aY ["n","d"]) (G:GOk P w K mg base dE Γ):Has P w K mg base 1 "common_divisor" ["n","d"] (av K (Γ 0)):=ay F jo rfl rfl kC G (fun as st Q=>iT (st:=st)) (fun as st Q=>ke)
theorem sF (F:At K mg "fraction" dH ["n","d"]) (G:GOk P w K mg base iK Γ):Has P w K mg base 2 "fraction" ["n","d"] (av K (Γ 1)):=ay F sP rfl rfl u8 G (fun as st Q=>qo (st:=st)) (fun as st Q=>u6)
theorem sh (F:At K mg "is_below" dP ["one","other"]) (G:GOk P w K mg base iP Γ):Has P w K mg base 3 "is_below" ["one","other"] (av K (Γ 2)):=ay F s_ rfl rfl uO G (fun as st Q=>jE (st:=st)) (fun as st Q=>uX)
theorem pI (F:At K mg "crosswise" cR ["one","other"]) (G:GOk P w K mg base gN Γ):Has P w K mg base 4 "crosswise" ["one","other"] (av K (Γ 3)):=ay F rB rfl rfl tH G (fun as st Q=>oy (st:=st)) (fun as st Q=>sI)
theorem m5 (F:At K mg "on_straight" bM ["near","far","x"]) (G:GOk P w K mg base fD Γ):Has P w K mg base 5 "on_straight" ["near","far","x"] (av K (Γ 4)):=ay F mI rfl rfl ol G (fun as st Q=>lN (st:=st)) (fun as st Q=>oF)
theorem om (F:At K mg "has_moment" ce ["ride","t"]) (G:GOk P w K mg base gf Γ):Has P w K mg base 6 "has_moment" ["ride","t"] (av K (Γ 5)):=ay F oE rfl rfl pR G (fun as st Q=>mG (st:=st)) (fun as st Q=>pT)
theorem uJ (F:At K mg "come_by" eI ["ride","t"]) (G:GOk P w K mg base kr Γ):Has P w K mg base 7 "come_by" ["ride","t"] (av K (Γ 6)):=ay F tO rfl rfl wR G (fun as st Q=>rD (st:=st)) (fun as st Q=>wJ)
theorem yE (F:At K mg "offer" hU ["rides","t"]) (G:GOk P w K mg base qc Γ):Has P w K mg base 8 "offer" ["rides","t"] (av K (Γ 7)):=ay F zy rfl rfl Cg G (fun as st Q=>xk (st:=st)) (fun as st Q=>Cb)
theorem Bh (F:At K mg "falls" gY ["ride"]) (G:GOk P w K mg base qQ Γ):Has P w K mg base 9 "falls" ["ride"] (av K (Γ 8)):=ay F yS rfl rfl Ck G (fun as st Q=>wN (st:=st)) (fun as st Q=>CC)
theorem qd (F:At K mg "best_from" cP ["ride","t"]) (G:GOk P w K mg base gI Γ):Has P w K mg base 10 "best_from" ["ride","t"] (av K (Γ 9)):=ay F qO rfl rfl rC G (fun as st Q=>oo (st:=st)) (fun as st Q=>rZ)
theorem qg (F:At K mg "is_better" cU ["pair","best"]) (G:GOk P w K mg base gp Γ):Has P w K mg base 11 "is_better" ["pair","best"] (av K (Γ 10)):=ay F re rfl rfl tu G (fun as st Q=>nX (st:=st)) (fun as st Q=>r_)
theorem vH (F:At K mg "set_out" eE ["rides","wait","t"]) (G:GOk P w K mg base j' Γ):Has P w K mg base 12 "set_out" ["rides","wait","t"] (av K (Γ 11)):=ay F tM rfl rfl xw G (fun as st Q=>rQ (st:=st)) (fun as st Q=>xC)
theorem i9 (F:At K mg "out_and_coming" aW ["net","name","moment"]) (G:GOk P w K mg base dG Γ):Has P w K mg base 13 "out_and_coming" ["net","name","moment"] (av K (Γ 12)):=ay F jB rfl rfl kF G (fun as st Q=>iF (st:=st)) (fun as st Q=>kA)
theorem lF (F:At K mg "comings_from" bw ["net","place","moment"]) (G:GOk P w K mg base eK Γ):Has P w K mg base 14 "comings_from" ["net","place","moment"] (av K (Γ 13)):=ay F lO rfl rfl mD G (fun as st Q=>j_ (st:=st)) (fun as st Q=>nH)
theorem lV (F:At K mg "one_tie_more" bu ["net","found"]) (G:GOk P w K mg base eP Γ):Has P w K mg base 15 "one_tie_more" ["net","found"] (av K (Γ 14)):=ay F lS rfl rfl nq G (fun as st Q=>kq (st:=st)) (fun as st Q=>np)
theorem xn (F:At K mg "layers" fK ["net","start","moment","most"]) (G:GOk P w K mg base nM Γ):Has P w K mg base 16 "layers" ["net","start","moment","most"] (av K (Γ 15)):=ay F xp rfl rfl By G (fun as st Q=>t0 (st:=st)) (fun as st Q=>yB)
theorem sG (F:At K mg "_law_pot" dS ["_law_script","_law_k"]) (G:GOk P w K mg base iL Γ):Has P w K mg base 17 "_law_pot" ["_law_script","_law_k"] (av K (Γ 16)):=ay F sC rfl rfl uB G (fun as st Q=>qJ (st:=st)) (fun as st Q=>ue)
theorem ot (F:At K mg "_law_digit" cg ["_law_pot_here","_law_many"]) (G:GOk P w K mg base fV Γ):Has P w K mg base 18 "_law_digit" ["_law_pot_here","_law_many"] (av K (Γ 17)):=ay F og rfl rfl ql G (fun as st Q=>mj (st:=st)) (fun as st Q=>qk)
theorem tj (F:At K mg "_law_low" dN ["_law_top","_law_bottom"]) (G:GOk P w K mg base iV Γ):Has P w K mg base 19 "_law_low" ["_law_top","_law_bottom"] (av K (Γ 18)):=ay F sv rfl rfl vb G (fun as st Q=>qt (st:=st)) (fun as st Q=>uG)
theorem jS (F:At K mg "_law_is_below" bd ["_law_one","_law_other"]) (G:GOk P w K mg base d6 Γ):Has P w K mg base 20 "_law_is_below" ["_law_one","_law_other"] (av K (Γ 19)):=ay F kg rfl rfl lU G (fun as st Q=>jb (st:=st)) (fun as st Q=>lC)
theorem qV (F:At K mg "_law_name" cS ["_law_pot_here","_law_taken"]) (G:GOk P w K mg base gO Γ):Has P w K mg base 21 "_law_name" ["_law_pot_here","_law_taken"] (av K (Γ 20)):=ay F qZ rfl rfl rX G (fun as st Q=>oD (st:=st)) (fun as st Q=>sN)
theorem jH (F:At K mg "_law_free_ride" aV ["_law_pot_here","_law_far"]) (G:GOk P w K mg base dF Γ):Has P w K mg base 22 "_law_free_ride" ["_law_pot_here","_law_far"] (av K (Γ 21)):=ay F jr rfl rfl kN G (fun as st Q=>iJ (st:=st)) (fun as st Q=>j8)
theorem jn (F:At K mg "_law_row_rides" aT ["_law_pot_here","_law_far","_law_many"]) (G:GOk P w K mg base dw Γ):Has P w K mg base 23 "_law_row_rides" ["_law_pot_here","_law_far","_law_many"] (av K (Γ 22)):=ay F i_ rfl rfl kf G (fun as st Q=>iU (st:=st)) (fun as st Q=>jJ)
theorem nV (F:At K mg "_law_rides" cb ["_law_pot_here","_law_wait","_law_far"]) (G:GOk P w K mg base fT Γ):Has P w K mg base 24 "_law_rides" ["_law_pot_here","_law_wait","_law_far"] (av K (Γ 23)):=ay F n9 rfl rfl p9 G (fun as st Q=>mT (st:=st)) (fun as st Q=>q5)
theorem sJ (F:At K mg "_law_net" dJ ["_law_pot_here"]) (G:GOk P w K mg base iW Γ):Has P w K mg base 25 "_law_net" ["_law_pot_here"] (av K (Γ 24)):=ay F rY rfl rfl ug G (fun as st Q=>qS (st:=st)) (fun as st Q=>tQ)
theorem my (F:At K mg "_law_moment" bN ["_law_pot_here","_law_far","_law_bottom"]) (G:GOk P w K mg base fA Γ):Has P w K mg base 26 "_law_moment" ["_law_pot_here","_law_far","_law_bottom"] (av K (Γ 25)):=ay F mO rfl rfl nW G (fun as st Q=>lP (st:=st)) (fun as st Q=>nY)
theorem ur (F:At K mg "_law_on" eG ["_law_ride","_law_t"]) (G:GOk P w K mg base kX Γ):Has P w K mg base 27 "_law_on" ["_law_ride","_law_t"] (av K (Γ 26)):=ay F vq rfl rfl xr G (fun as st Q=>rO (st:=st)) (fun as st Q=>w_)
theorem lB (F:At K mg "_law_comings" bx ["_law_ride","_law_wait","_law_t"]) (G:GOk P w K mg base eQ Γ):Has P w K mg base 28 "_law_comings" ["_law_ride","_law_wait","_law_t"] (av K (Γ 27)):=ay F lR rfl rfl md G (fun as st Q=>j9 (st:=st)) (fun as st Q=>me)
theorem nZ (F:At K mg "_law_least" ca ["_law_moments"]) (G:GOk P w K mg base fU Γ):Has P w K mg base 29 "_law_least" ["_law_moments"] (av K (Γ 28)):=ay F oA rfl rfl rm G (fun as st Q=>mW (st:=st)) (fun as st Q=>rA)
theorem mS (F:At K mg "_law_coming" bL ["_law_net_here","_law_name_here","_law_t"]) (G:GOk P w K mg base fo Γ):Has P w K mg base 30 "_law_coming" ["_law_net_here","_law_name_here","_law_t"] (av K (Γ 29)):=ay F mF rfl rfl oh G (fun as st Q=>lL (st:=st)) (fun as st Q=>oB)
theorem mv (F:At K mg "_law_layers" bJ ["_law_net_here","_law_start","_law_moment_here","_law_most"]) (G:GOk P w K mg base fq Γ):Has P w K mg base 31 "_law_layers" ["_law_net_here","_law_start","_law_moment_here","_law_most"] (av K (Γ 30)):=ay F mE rfl rfl oi G (fun as st Q=>lK (st:=st)) (fun as st Q=>ou)
theorem jY (F:At K mg "_law_is_whole" bf ["_law_thing"]) (G:GOk P w K mg base d9 Γ):Has P w K mg base 32 "_law_is_whole" ["_law_thing"] (av K (Γ 31)):=ay F kM rfl rfl lD G (fun as st Q=>jk (st:=st)) (fun as st Q=>lJ)
theorem ju (F:At K mg "_law_is_moment" aX ["_law_thing"]) (G:GOk P w K mg base dU Γ):Has P w K mg base 33 "_law_is_moment" ["_law_thing"] (av K (Γ 32)):=ay F js rfl rfl jL G (fun as st Q=>iO (st:=st)) (fun as st Q=>kR)
theorem i6 (F:At K mg "_law_are_right" aU ["_law_told","_law_due"]) (G:GOk P w K mg base dQ Γ):Has P w K mg base 34 "_law_are_right" ["_law_told","_law_due"] (av K (Γ 33)):=ay F jv rfl rfl kT G (fun as st Q=>i5 (st:=st)) (fun as st Q=>ki)
end
abbrev zl (K:W.Frag) (f:Addr) (oc:Value) (od:Option Addr) (n:Str) (s:Stmt) (kV dc pm:Value) (an:Option Addr) (cd ct:Value) (sl:Array (Option Value)):Prop:=K.lookup f=some ⟨oc,od,.func (W.fnOf n n (fh s) (af s) (ab s) .none kV dc pm an cd ct),sl⟩
abbrev za (K:W.Frag) (n:Str) (f:Addr):Prop:=W.nsIn K mainGlobals n=some (some (.ref f))
abbrev zc (K:W.Frag) (c:Value) (n:Str):Prop:=W.codeIn K c n=true
abbrev zk (K:W.Frag) (f:Addr):Prop:=W.keepIn K (.ref f)=true
abbrev zn (K:W.Frag) (n:Str):Prop:=W.nsIn K mainGlobals n=some none
theorem all_mk {l:W.OpenLaw} {q:Program} {w:World} {K:W.Frag} {h:Heap} {mg:Str→Option Value} {fa:Addr} (X:K.In h) (G:h.Ns mainGlobals mg) (hfa:mg "law"=some (.ref fa))
  {f0 f1 f2 f3 f4 f5 f6 f7 f8 f9 f10 f11 f12 f13 f14 f15 f16 f17 f18 f19 f20 f21 f22 f23 f24 f25 f26 f27 f28 f29 f30 f31 f32 f33 f34:Addr} {oc0 kV0 dc0 pm0 cd0 ct0 oc1 kV1 dc1 pm1 cd1 ct1 oc2 kV2 dc2 pm2 cd2 ct2 oc3 kV3 dc3 pm3 cd3 ct3 oc4 kV4 dc4 pm4 cd4 ct4 oc5 kV5 dc5 pm5 cd5 ct5 oc6 kV6 dc6 pm6 cd6 ct6 oc7 kV7 dc7 pm7 cd7 ct7 oc8 kV8 dc8 pm8 cd8 ct8 oc9 kV9 dc9 pm9 cd9 ct9 oc10 kV10 dc10 pm10 cd10 ct10 oc11 kV11 dc11 pm11 cd11 ct11 oc12 kV12 dc12 pm12 cd12 ct12 oc13 kV13 dc13 pm13 cd13 ct13 oc14 kV14 dc14 pm14 cd14 ct14 oc15 kV15 dc15 pm15 cd15 ct15 oc16 kV16 dc16 pm16 cd16 ct16 oc17 kV17 dc17 pm17 cd17 ct17 oc18 kV18 dc18 pm18 cd18 ct18 oc19 kV19 dc19 pm19 cd19 ct19 oc20 kV20 dc20 pm20 cd20 ct20 oc21 kV21 dc21 pm21 cd21 ct21 oc22 kV22 dc22 pm22 cd22 ct22 oc23 kV23 dc23 pm23 cd23 ct23 oc24 kV24 dc24 pm24 cd24 ct24 oc25 kV25 dc25 pm25 cd25 ct25 oc26 kV26 dc26 pm26 cd26 ct26 oc27 kV27 dc27 pm27 cd27 ct27 oc28 kV28 dc28 pm28 cd28 ct28 oc29 kV29 dc29 pm29 cd29 ct29 oc30 kV30 dc30 pm30 cd30 ct30 oc31 kV31 dc31 pm31 cd31 ct31 oc32 kV32 dc32 pm32 cd32 ct32 oc33 kV33 dc33 pm33 cd33 ct33 oc34 kV34 dc34 pm34 cd34 ct34:Value} {od0 an0 od1 an1 od2 an2 od3 an3 od4 an4 od5 an5 od6 an6 od7 an7 od8 an8 od9 an9 od10 an10 od11 an11 od12 an12 od13 an13 od14 an14 od15 an15 od16 an16 od17 an17 od18 an18 od19 an19 od20 an20 od21 an21 od22 an22 od23 an23 od24 an24 od25 an25 od26 an26 od27 an27 od28 an28 od29 an29 od30 an30 od31 an31 od32 an32 od33 an33 od34 an34:Option Addr} {sl0 sl1 sl2 sl3 sl4 sl5 sl6 sl7 sl8 sl9 sl10 sl11 sl12 sl13 sl14 sl15 sl16 sl17 sl18 sl19 sl20 sl21 sl22 sl23 sl24 sl25 sl26 sl27 sl28 sl29 sl30 sl31 sl32 sl33 sl34:Array (Option Value)}
  (a0:za K "common_divisor" f0) (l0:zl K f0 oc0 od0 "common_divisor" aY kV0 dc0 pm0 an0 cd0 ct0 sl0) (c0:zc K cd0 "common_divisor") (k0:zk K f0) (a1:za K "fraction" f1) (l1:zl K f1 oc1 od1 "fraction" dH kV1 dc1 pm1 an1 cd1 ct1 sl1) (c1:zc K cd1 "fraction") (k1:zk K f1) (a2:za K "is_below" f2) (l2:zl K f2 oc2 od2 "is_below" dP kV2 dc2 pm2 an2 cd2 ct2 sl2) (c2:zc K cd2 "is_below") (k2:zk K f2) (a3:za K "crosswise" f3) (l3:zl K f3 oc3 od3 "crosswise" cR kV3 dc3 pm3 an3 cd3 ct3 sl3) (c3:zc K cd3 "crosswise") (k3:zk K f3) (a4:za K "on_straight" f4) (l4:zl K f4 oc4 od4 "on_straight" bM kV4 dc4 pm4 an4 cd4 ct4 sl4) (c4:zc K cd4 "on_straight") (k4:zk K f4) (a5:za K "has_moment" f5) (l5:zl K f5 oc5 od5 "has_moment" ce kV5 dc5 pm5 an5 cd5 ct5 sl5) (c5:zc K cd5 "has_moment") (k5:zk K f5) (a6:za K "come_by" f6) (l6:zl K f6 oc6 od6 "come_by" eI kV6 dc6 pm6 an6 cd6 ct6 sl6) (c6:zc K cd6 "come_by") (k6:zk K f6) (a7:za K "offer" f7) (l7:zl K f7 oc7 od7 "offer" hU kV7 dc7 pm7 an7 cd7 ct7 sl7) (c7:zc K cd7 "offer") (k7:zk K f7) (a8:za K "falls" f8) (l8:zl K f8 oc8 od8 "falls" gY kV8 dc8 pm8 an8 cd8 ct8 sl8) (c8:zc K cd8 "falls") (k8:zk K f8) (a9:za K "best_from" f9) (l9:zl K f9 oc9 od9 "best_from" cP kV9 dc9 pm9 an9 cd9 ct9 sl9) (c9:zc K cd9 "best_from") (k9:zk K f9) (a10:za K "is_better" f10) (l10:zl K f10 oc10 od10 "is_better" cU kV10 dc10 pm10 an10 cd10 ct10 sl10) (c10:zc K cd10 "is_better") (k10:zk K f10) (a11:za K "set_out" f11) (l11:zl K f11 oc11 od11 "set_out" eE kV11 dc11 pm11 an11 cd11 ct11 sl11) (c11:zc K cd11 "set_out") (k11:zk K f11) (a12:za K "out_and_coming" f12) (l12:zl K f12 oc12 od12 "out_and_coming" aW kV12 dc12 pm12 an12 cd12 ct12 sl12) (c12:zc K cd12 "out_and_coming") (k12:zk K f12) (a13:za K "comings_from" f13) (l13:zl K f13 oc13 od13 "comings_from" bw kV13 dc13 pm13 an13 cd13 ct13 sl13) (c13:zc K cd13 "comings_from") (k13:zk K f13) (a14:za K "one_tie_more" f14) (l14:zl K f14 oc14 od14 "one_tie_more" bu kV14 dc14 pm14 an14 cd14 ct14 sl14) (c14:zc K cd14 "one_tie_more") (k14:zk K f14) (a15:za K "layers" f15) (l15:zl K f15 oc15 od15 "layers" fK kV15 dc15 pm15 an15 cd15 ct15 sl15) (c15:zc K cd15 "layers") (k15:zk K f15) (a16:za K "_law_pot" f16) (l16:zl K f16 oc16 od16 "_law_pot" dS kV16 dc16 pm16 an16 cd16 ct16 sl16) (c16:zc K cd16 "_law_pot") (k16:zk K f16) (a17:za K "_law_digit" f17) (l17:zl K f17 oc17 od17 "_law_digit" cg kV17 dc17 pm17 an17 cd17 ct17 sl17) (c17:zc K cd17 "_law_digit") (k17:zk K f17) (a18:za K "_law_low" f18) (l18:zl K f18 oc18 od18 "_law_low" dN kV18 dc18 pm18 an18 cd18 ct18 sl18) (c18:zc K cd18 "_law_low") (k18:zk K f18) (a19:za K "_law_is_below" f19) (l19:zl K f19 oc19 od19 "_law_is_below" bd kV19 dc19 pm19 an19 cd19 ct19 sl19) (c19:zc K cd19 "_law_is_below") (k19:zk K f19) (a20:za K "_law_name" f20) (l20:zl K f20 oc20 od20 "_law_name" cS kV20 dc20 pm20 an20 cd20 ct20 sl20) (c20:zc K cd20 "_law_name") (k20:zk K f20) (a21:za K "_law_free_ride" f21) (l21:zl K f21 oc21 od21 "_law_free_ride" aV kV21 dc21 pm21 an21 cd21 ct21 sl21) (c21:zc K cd21 "_law_free_ride") (k21:zk K f21) (a22:za K "_law_row_rides" f22) (l22:zl K f22 oc22 od22 "_law_row_rides" aT kV22 dc22 pm22 an22 cd22 ct22 sl22) (c22:zc K cd22 "_law_row_rides") (k22:zk K f22) (a23:za K "_law_rides" f23) (l23:zl K f23 oc23 od23 "_law_rides" cb kV23 dc23 pm23 an23 cd23 ct23 sl23) (c23:zc K cd23 "_law_rides") (k23:zk K f23) (a24:za K "_law_net" f24) (l24:zl K f24 oc24 od24 "_law_net" dJ kV24 dc24 pm24 an24 cd24 ct24 sl24) (c24:zc K cd24 "_law_net") (k24:zk K f24) (a25:za K "_law_moment" f25) (l25:zl K f25 oc25 od25 "_law_moment" bN kV25 dc25 pm25 an25 cd25 ct25 sl25) (c25:zc K cd25 "_law_moment") (k25:zk K f25) (a26:za K "_law_on" f26) (l26:zl K f26 oc26 od26 "_law_on" eG kV26 dc26 pm26 an26 cd26 ct26 sl26) (c26:zc K cd26 "_law_on") (k26:zk K f26) (a27:za K "_law_comings" f27) (l27:zl K f27 oc27 od27 "_law_comings" bx kV27 dc27 pm27 an27 cd27 ct27 sl27) (c27:zc K cd27 "_law_comings") (k27:zk K f27) (a28:za K "_law_least" f28) (l28:zl K f28 oc28 od28 "_law_least" ca kV28 dc28 pm28 an28 cd28 ct28 sl28) (c28:zc K cd28 "_law_least") (k28:zk K f28) (a29:za K "_law_coming" f29) (l29:zl K f29 oc29 od29 "_law_coming" bL kV29 dc29 pm29 an29 cd29 ct29 sl29) (c29:zc K cd29 "_law_coming") (k29:zk K f29) (a30:za K "_law_layers" f30) (l30:zl K f30 oc30 od30 "_law_layers" bJ kV30 dc30 pm30 an30 cd30 ct30 sl30) (c30:zc K cd30 "_law_layers") (k30:zk K f30) (a31:za K "_law_is_whole" f31) (l31:zl K f31 oc31 od31 "_law_is_whole" bf kV31 dc31 pm31 an31 cd31 ct31 sl31) (c31:zc K cd31 "_law_is_whole") (k31:zk K f31) (a32:za K "_law_is_moment" f32) (l32:zl K f32 oc32 od32 "_law_is_moment" aX kV32 dc32 pm32 an32 cd32 ct32 sl32) (c32:zc K cd32 "_law_is_moment") (k32:zk K f32) (a33:za K "_law_are_right" f33) (l33:zl K f33 oc33 od33 "_law_are_right" aU kV33 dc33 pm33 an33 cd33 ct33 sl33) (c33:zc K cd33 "_law_are_right") (k33:zk K f33) (a34:za K "law" f34) (l34:zl K f34 oc34 od34 "law" lf kV34 dc34 pm34 an34 cd34 ct34 sl34) (c34:zc K cd34 "law") (k34:zk K f34) (z0:zn K "sorted") (z1:zn K "dict") (z2:zn K "tuple") (z3:zn K "range") (z4:zn K "int") (z5:zn K "len") (z6:zn K "divmod") (z7:zn K "max") (z8:zn K "isinstance") (z9:zn K "zip") (z10:zn K "all") (z11:zn K "min") (z12:zn K "list") (tz0:zn K "coming") (tz1:zn K "latest") (tz2:zn K "through")
  : ∃fd:FuncData,(∀(s:Shared) (v:Value),BindsTo s fd ⟨[v],[]⟩ [("_law_script",v)])∧Cf K∧(∀x∈ba,W.tabIn K x=none∨∃d,(PyProof.Rows.recsOf q).find? (fun e=>e.name == x)=some d)∧∀base:Heap,K.In base→base.Ns mainGlobals mg→l' K mg base→oa l.prog w K mg base CX0 35 fa fd ["_law_script"] (av K ir):=by
 have e:=hfa.symm.trans (W.mg_of X G a34)
 cases e
 have hb:∀x∈bP,mg x=none:=by
  intro x hx
  simp only [bP,List.mem_cons,List.not_mem_nil,or_false] at hx
  rcases hx with rfl|rfl|rfl|rfl|rfl|rfl|rfl|rfl|rfl|rfl|rfl|rfl|rfl
  ·exact W.mg_none_of X G z0
  ·exact W.mg_none_of X G z1
  ·exact W.mg_none_of X G z2
  ·exact W.mg_none_of X G z3
  ·exact W.mg_none_of X G z4
  ·exact W.mg_none_of X G z5
  ·exact W.mg_none_of X G z6
  ·exact W.mg_none_of X G z7
  ·exact W.mg_none_of X G z8
  ·exact W.mg_none_of X G z9
  ·exact W.mg_none_of X G z10
  ·exact W.mg_none_of X G z11
  ·exact W.mg_none_of X G z12
 have hgl:∀x v,glL.lookup x=some v→∃u y,mg x=some u∧RelV y u∧∀m H,R K m H v y:=by
  intro x v hx
  cases hx
 have Fq0:At K mg "common_divisor" aY ["n","d"]:=At.mk' X G (fun _ _ _ _ _ _=>ar2 (fun _ _=>rfl)) a0 l0 c0 k0
 have Fq1:At K mg "fraction" dH ["n","d"]:=At.mk' X G (fun _ _ _ _ _ _=>ar2 (fun _ _=>rfl)) a1 l1 c1 k1
 have Fq2:At K mg "is_below" dP ["one","other"]:=At.mk' X G (fun _ _ _ _ _ _=>ar2 (fun _ _=>rfl)) a2 l2 c2 k2
 have Fq3:At K mg "crosswise" cR ["one","other"]:=At.mk' X G (fun _ _ _ _ _ _=>ar2 (fun _ _=>rfl)) a3 l3 c3 k3
 have Fq4:At K mg "on_straight" bM ["near","far","x"]:=At.mk' X G (fun _ _ _ _ _ _=>ar3 (fun _ _ _=>rfl)) a4 l4 c4 k4
 have Fq5:At K mg "has_moment" ce ["ride","t"]:=At.mk' X G (fun _ _ _ _ _ _=>ar2 (fun _ _=>rfl)) a5 l5 c5 k5
 have Fq6:At K mg "come_by" eI ["ride","t"]:=At.mk' X G (fun _ _ _ _ _ _=>ar2 (fun _ _=>rfl)) a6 l6 c6 k6
 have Fq7:At K mg "offer" hU ["rides","t"]:=At.mk' X G (fun _ _ _ _ _ _=>ar2 (fun _ _=>rfl)) a7 l7 c7 k7
 have Fq8:At K mg "falls" gY ["ride"]:=At.mk' X G (fun _ _ _ _ _ _=>ar1 (fun _=>rfl)) a8 l8 c8 k8
 have Fq9:At K mg "best_from" cP ["ride","t"]:=At.mk' X G (fun _ _ _ _ _ _=>ar2 (fun _ _=>rfl)) a9 l9 c9 k9
 have Fq10:At K mg "is_better" cU ["pair","best"]:=At.mk' X G (fun _ _ _ _ _ _=>ar2 (fun _ _=>rfl)) a10 l10 c10 k10
 have Fq11:At K mg "set_out" eE ["rides","wait","t"]:=At.mk' X G (fun _ _ _ _ _ _=>ar3 (fun _ _ _=>rfl)) a11 l11 c11 k11
 have Fq12:At K mg "out_and_coming" aW ["net","name","moment"]:=At.mk' X G (fun _ _ _ _ _ _=>ar3 (fun _ _ _=>rfl)) a12 l12 c12 k12
 have Fq13:At K mg "comings_from" bw ["net","place","moment"]:=At.mk' X G (fun _ _ _ _ _ _=>ar3 (fun _ _ _=>rfl)) a13 l13 c13 k13
 have Fq14:At K mg "one_tie_more" bu ["net","found"]:=At.mk' X G (fun _ _ _ _ _ _=>ar2 (fun _ _=>rfl)) a14 l14 c14 k14
 have Fq15:At K mg "layers" fK ["net","start","moment","most"]:=At.mk' X G (fun _ _ _ _ _ _=>ar4 (fun _ _ _ _=>rfl)) a15 l15 c15 k15
 have Fq16:At K mg "_law_pot" dS ["_law_script","_law_k"]:=At.mk' X G (fun _ _ _ _ _ _=>ar2 (fun _ _=>rfl)) a16 l16 c16 k16
 have Fq17:At K mg "_law_digit" cg ["_law_pot_here","_law_many"]:=At.mk' X G (fun _ _ _ _ _ _=>ar2 (fun _ _=>rfl)) a17 l17 c17 k17
 have Fq18:At K mg "_law_low" dN ["_law_top","_law_bottom"]:=At.mk' X G (fun _ _ _ _ _ _=>ar2 (fun _ _=>rfl)) a18 l18 c18 k18
 have Fq19:At K mg "_law_is_below" bd ["_law_one","_law_other"]:=At.mk' X G (fun _ _ _ _ _ _=>ar2 (fun _ _=>rfl)) a19 l19 c19 k19
 have Fq20:At K mg "_law_name" cS ["_law_pot_here","_law_taken"]:=At.mk' X G (fun _ _ _ _ _ _=>ar2 (fun _ _=>rfl)) a20 l20 c20 k20
 have Fq21:At K mg "_law_free_ride" aV ["_law_pot_here","_law_far"]:=At.mk' X G (fun _ _ _ _ _ _=>ar2 (fun _ _=>rfl)) a21 l21 c21 k21
 have Fq22:At K mg "_law_row_rides" aT ["_law_pot_here","_law_far","_law_many"]:=At.mk' X G (fun _ _ _ _ _ _=>ar3 (fun _ _ _=>rfl)) a22 l22 c22 k22
 have Fq23:At K mg "_law_rides" cb ["_law_pot_here","_law_wait","_law_far"]:=At.mk' X G (fun _ _ _ _ _ _=>ar3 (fun _ _ _=>rfl)) a23 l23 c23 k23
 have Fq24:At K mg "_law_net" dJ ["_law_pot_here"]:=At.mk' X G (fun _ _ _ _ _ _=>ar1 (fun _=>rfl)) a24 l24 c24 k24
 have Fq25:At K mg "_law_moment" bN ["_law_pot_here","_law_far","_law_bottom"]:=At.mk' X G (fun _ _ _ _ _ _=>ar3 (fun _ _ _=>rfl)) a25 l25 c25 k25
 have Fq26:At K mg "_law_on" eG ["_law_ride","_law_t"]:=At.mk' X G (fun _ _ _ _ _ _=>ar2 (fun _ _=>rfl)) a26 l26 c26 k26
 have Fq27:At K mg "_law_comings" bx ["_law_ride","_law_wait","_law_t"]:=At.mk' X G (fun _ _ _ _ _ _=>ar3 (fun _ _ _=>rfl)) a27 l27 c27 k27
 have Fq28:At K mg "_law_least" ca ["_law_moments"]:=At.mk' X G (fun _ _ _ _ _ _=>ar1 (fun _=>rfl)) a28 l28 c28 k28
 have Fq29:At K mg "_law_coming" bL ["_law_net_here","_law_name_here","_law_t"]:=At.mk' X G (fun _ _ _ _ _ _=>ar3 (fun _ _ _=>rfl)) a29 l29 c29 k29
 have Fq30:At K mg "_law_layers" bJ ["_law_net_here","_law_start","_law_moment_here","_law_most"]:=At.mk' X G (fun _ _ _ _ _ _=>ar4 (fun _ _ _ _=>rfl)) a30 l30 c30 k30
 have Fq31:At K mg "_law_is_whole" bf ["_law_thing"]:=At.mk' X G (fun _ _ _ _ _ _=>ar1 (fun _=>rfl)) a31 l31 c31 k31
 have Fq32:At K mg "_law_is_moment" aX ["_law_thing"]:=At.mk' X G (fun _ _ _ _ _ _=>ar1 (fun _=>rfl)) a32 l32 c32 k32
 have Fq33:At K mg "_law_are_right" aU ["_law_told","_law_due"]:=At.mk' X G (fun _ _ _ _ _ _=>ar2 (fun _ _=>rfl)) a33 l33 c33 k33
 have t_coming:=vg tz0
 have t_latest:=vg tz1
 have t_through:=vg tz2
 refine ⟨W.fnOf "law" "law" (fh lf) (af lf) (ab lf) .none kV34 dc34 pm34 an34 cd34 ct34,fun s v=>.of_eq rfl,?lk,?lq,fun base _ _ B=>?_⟩
 case lk =>
  refine BG fun x hx=>?_
  simp only [ba,List.mem_cons,List.not_mem_nil,or_false] at hx
  rcases hx with rfl|rfl|rfl
  ·exact .inl t_coming
  ·exact .inl t_latest
  ·exact .inl t_through
 case lq =>
  intro x hx
  simp only [ba,List.mem_cons,List.not_mem_nil,or_false] at hx
  rcases hx with rfl|rfl|rfl
  ·exact .inl t_coming
  ·exact .inl t_latest
  ·exact .inl t_through
 have G0:GOk l.prog w K mg base dE Γ:=⟨fun f x hf=>absurd hf (Nat.not_lt_zero _),hb,hgl,Γm⟩
 have G1:GOk l.prog w K mg base iK Γ:=G0.next rfl rfl rfl rfl rfl (jD Fq0 G0)
 have G2:GOk l.prog w K mg base iP Γ:=G1.next rfl rfl rfl rfl rfl (sF Fq1 G1)
 have G3:GOk l.prog w K mg base gN Γ:=G2.next rfl rfl rfl rfl rfl (sh Fq2 G2)
 have G4:GOk l.prog w K mg base fD Γ:=G3.next rfl rfl rfl rfl rfl (pI Fq3 G3)
 have G5:GOk l.prog w K mg base gf Γ:=G4.next rfl rfl rfl rfl rfl (m5 Fq4 G4)
 have G6:GOk l.prog w K mg base kr Γ:=G5.next rfl rfl rfl rfl rfl (om Fq5 G5)
 have G7:GOk l.prog w K mg base qc Γ:=G6.next rfl rfl rfl rfl rfl (uJ Fq6 G6)
 have G8:GOk l.prog w K mg base qQ Γ:=G7.next rfl rfl rfl rfl rfl (yE Fq7 G7)
 have G9:GOk l.prog w K mg base gI Γ:=G8.next rfl rfl rfl rfl rfl (Bh Fq8 G8)
 have G10:GOk l.prog w K mg base gp Γ:=G9.next rfl rfl rfl rfl rfl (qd Fq9 G9)
 have G11:GOk l.prog w K mg base j' Γ:=G10.next rfl rfl rfl rfl rfl (qg Fq10 G10)
 have G12:GOk l.prog w K mg base dG Γ:=G11.next rfl rfl rfl rfl rfl (vH Fq11 G11)
 have G13:GOk l.prog w K mg base eK Γ:=G12.next rfl rfl rfl rfl rfl (i9 Fq12 G12)
 have G14:GOk l.prog w K mg base eP Γ:=G13.next rfl rfl rfl rfl rfl (lF Fq13 G13)
 have G15:GOk l.prog w K mg base nM Γ:=G14.next rfl rfl rfl rfl rfl (lV Fq14 G14)
 have G16:GOk l.prog w K mg base iL Γ:=G15.next rfl rfl rfl rfl rfl (xn Fq15 G15)
 have G17:GOk l.prog w K mg base fV Γ:=G16.next rfl rfl rfl rfl rfl (sG Fq16 G16)
 have G18:GOk l.prog w K mg base iV Γ:=G17.next rfl rfl rfl rfl rfl (ot Fq17 G17)
 have G19:GOk l.prog w K mg base d6 Γ:=G18.next rfl rfl rfl rfl rfl (tj Fq18 G18)
 have G20:GOk l.prog w K mg base gO Γ:=G19.next rfl rfl rfl rfl rfl (jS Fq19 G19)
 have G21:GOk l.prog w K mg base dF Γ:=G20.next rfl rfl rfl rfl rfl (qV Fq20 G20)
 have G22:GOk l.prog w K mg base dw Γ:=G21.next rfl rfl rfl rfl rfl (jH Fq21 G21)
 have G23:GOk l.prog w K mg base fT Γ:=G22.next rfl rfl rfl rfl rfl (jn Fq22 G22)
 have G24:GOk l.prog w K mg base iW Γ:=G23.next rfl rfl rfl rfl rfl (nV Fq23 G23)
 have G25:GOk l.prog w K mg base fA Γ:=G24.next rfl rfl rfl rfl rfl (sJ Fq24 G24)
 have G26:GOk l.prog w K mg base kX Γ:=G25.next rfl rfl rfl rfl rfl (my Fq25 G25)
 have G27:GOk l.prog w K mg base eQ Γ:=G26.next rfl rfl rfl rfl rfl (ur Fq26 G26)
 have G28:GOk l.prog w K mg base fU Γ:=G27.next rfl rfl rfl rfl rfl (lB Fq27 G27)
 have G29:GOk l.prog w K mg base fo Γ:=G28.next rfl rfl rfl rfl rfl (nZ Fq28 G28)
 have G30:GOk l.prog w K mg base fq Γ:=G29.next rfl rfl rfl rfl rfl (mS Fq29 G29)
 have G31:GOk l.prog w K mg base d9 Γ:=G30.next rfl rfl rfl rfl rfl (mv Fq30 G30)
 have G32:GOk l.prog w K mg base dU Γ:=G31.next rfl rfl rfl rfl rfl (jY Fq31 G31)
 have G33:GOk l.prog w K mg base dQ Γ:=G32.next rfl rfl rfl rfl rfl (ju Fq32 G32)
 have G34:GOk l.prog w K mg base CU Γ:=G33.next rfl rfl rfl rfl rfl (i6 Fq33 G33)
 exact CD (qual:="law") (zF (st:=lf) l34 c34 k34) DL rfl rfl Fw G34 (fun as st Q=>Cn) (fun as st Q=>FD)
end My
namespace PySem.W.Fast
def tw10012819722765043032:=()
def tw10027866235205574323:=()
def tw10050620105260202382:=()
def tw10305879906024347734:=()
def tw10351676238357426176:=()
def tw10388062190799207385:=()
def tw10446855564985361286:=()
def tw10536267380832586029:=()
def tw10539967602560297698:=()
def tw10663995127105800908:=()
def tw10681936753330308453:=()
def tw10733828679169134941:=()
def tw10850111577409829565:=()
def tw10900062834083982291:=()
def tw10915739197929689936:=()
def tw10975766686204508090:=()
def tw1099555607558685997:=()
def tw11030040482292866350:=()
def tw11183253410573109002:=()
def tw11194628235380171635:=()
def tw11249314326569798215:=()
def tw11365384013293739267:=()
def tw11568153509322711509:=()
def tw11602593585811531144:=()
def tw11641604318222389761:=()
def tw11668115208930348409:=()
def tw11734263700214622946:=()
def tw11805554749282810814:=()
def tw11832770748027788003:=()
def tw1189875405438252599:=()
def tw11909937572273990641:=()
def tw11918066549043077030:=()
def tw12031160309757692508:=()
def tw12265391925909589688:=()
def tw12283726326216785201:=()
def tw12289522710263822456:=()
def tw12303500043767889900:=()
def tw12348864274152887902:=()
def tw12352506363139809958:=()
def tw12530919361073143908:=()
def tw12590640436408969989:=()
def tw12603696356985280433:=()
def tw12608353169493849341:=()
def tw12743210372708368965:=()
def tw12744571522339860825:=()
def tw12826607095481854160:=()
def tw1298491984430388108:=()
def tw13017292666691357770:=()
def tw13051712006606860737:=()
def tw13057580837285209494:=()
def tw13084383390858730419:=()
def tw13152779705201660204:=()
def tw13173567847888209387:=()
def tw13203020368116280957:=()
def tw13539078177654485942:=()
def tw13676835517262450841:=()
def tw1369704099537727673:=()
def tw1370532612091225000:=()
def tw13739896172283086061:=()
def tw13760091821655005740:=()
def tw13843196630090919549:=()
def tw13928703522217661717:=()
def tw13934121923247246924:=()
def tw13947370720177298251:=()
def tw14023086708596668048:=()
def tw1402451656441450761:=()
def tw14071435198482066312:=()
def tw14269491448499899633:=()
def tw14435903818386580620:=()
def tw14552586097175764972:=()
def tw14579929922818608722:=()
def tw14610652037890773710:=()
def tw14725905133872764748:=()
def tw15058193912288007054:=()
def tw15117969934944599672:=()
def tw15428094437436499655:=()
def tw15428920473016461127:=()
def tw15586270544756266911:=()
def tw15604144704318012685:=()
def tw15611214180445477401:=()
def tw15684187451630110508:=()
def tw15743098595464812402:=()
def tw15778852108382936208:=()
def tw15786891678898961637:=()
def tw1581140544954730586:=()
def tw15831161151980700042:=()
def tw15848466958961174992:=()
def tw1586629858308116783:=()
def tw15924030369573581576:=()
def tw15925864872245335024:=()
def tw15928819686449389065:=()
def tw15996903930309415685:=()
def tw16012475370237615411:=()
def tw16026036153912539747:=()
def tw16107788291084851486:=()
def tw16139612119728053124:=()
def tw16181270643975230508:=()
def tw16331415004971449437:=()
def tw1636524646215126099:=()
def tw16402613339270573866:=()
def tw1648710260017214341:=()
def tw16491365462760109927:=()
def tw16572946504746828791:=()
def tw16573419790776569764:=()
def tw16603314493438931938:=()
def tw166699332456981716:=()
def tw16674149819851340540:=()
def tw16688722297692017066:=()
def tw16723304141147085980:=()
def tw16785124149786975203:=()
def tw16808587117194528775:=()
def tw16810112752918964639:=()
def tw16820588110140950866:=()
def tw16853535608892319607:=()
def tw16952371399093860977:=()
def tw16961379693685750618:=()
def tw17103326852349031038:=()
def tw17216996547617986377:=()
def tw17225954850349796324:=()
def tw17266711958800843460:=()
def tw17283357652817080534:=()
def tw17316436672043373571:=()
def tw17469308354264109919:=()
def tw17480910559902960487:=()
def tw17549955638174104783:=()
def tw17587078439380591821:=()
def tw17695837870936386690:=()
def tw17712221106191733299:=()
def tw17779573360722685974:=()
def tw17785936404321766487:=()
def tw17788653294935838972:=()
def tw17836441873055332772:=()
def tw17853262944695234098:=()
def tw18047306705218374989:=()
def tw18095492203736860937:=()
def tw1813452282594988657:=()
def tw18202572097913680236:=()
def tw18220535684896082992:=()
def tw18238045758820889891:=()
def tw1824791524705650416:=()
def tw18293217656056740053:=()
def tw1941704671334890483:=()
def tw2016297256345677829:=()
def tw2558872473456850561:=()
def tw2567408641952788589:=()
def tw2571152316739256516:=()
def tw2659006501779882488:=()
def tw2673053091357048224:=()
def tw2714493673388960362:=()
def tw2825086633058989605:=()
def tw2843730635702872526:=()
def tw2889142549234711855:=()
def tw2916839579822287360:=()
def tw2976111654161964995:=()
def tw3192854132113009916:=()
def tw323057652195870393:=()
def tw3246354828242417011:=()
def tw3355524626132311908:=()
def tw3366942491286437568:=()
def tw3372626232348813340:=()
def tw3557328355146825885:=()
def tw3566091651059193543:=()
def tw3846753616001833850:=()
def tw3936105666760886318:=()
def tw3936368266781009831:=()
def tw3955579949009386096:=()
def tw3974749918105981541:=()
def tw3975000668104017504:=()
def tw3979272205140605202:=()
def tw4027833546280038677:=()
def tw409612693719934536:=()
def tw4096505364544762240:=()
def tw4212396351082929151:=()
def tw4281214589508374843:=()
def tw4288980061906770727:=()
def tw4306666084709108183:=()
def tw440587586546756947:=()
def tw4616065501934204123:=()
def tw4661186505246300455:=()
def tw4704088166173634303:=()
def tw4725239614384541146:=()
def tw4845201408204852604:=()
def tw4845990929567052788:=()
def tw4899106457823354757:=()
def tw4930498952219269956:=()
def tw4985610640161988270:=()
def tw5036061732279187307:=()
def tw5099729694221698276:=()
def tw5099943447477607229:=()
def tw5161584539833990068:=()
def tw5215377878717648658:=()
def tw5226646914104533206:=()
def tw5337738658908347099:=()
def tw5415754447998157934:=()
def tw5415868238723003182:=()
def tw5424519776962163880:=()
def tw5433322135552378009:=()
def tw5436320080902694590:=()
def tw5535904377429540582:=()
def tw5614247209775100863:=()
def tw5654970786255121119:=()
def tw5722751727542875346:=()
def tw5773310544943048030:=()
def tw5928288093782024436:=()
def tw5942018361671997794:=()
def tw6093025748936685302:=()
def tw6251424618703829733:=()
def tw6322221907285525774:=()
def tw6517674829419551219:=()
def tw6569163113312200037:=()
def tw6734783703588362072:=()
def tw7067798793933874688:=()
def tw7068013855162373051:=()
def tw7143861379719831160:=()
def tw7258296653863133166:=()
def tw7268817712933857922:=()
def tw7280858582750710230:=()
def tw7284160671138749898:=()
def tw7312305889552870226:=()
def tw7324223963371366745:=()
def tw7367312567304434862:=()
def tw7368893705491421304:=()
def tw7377444823579734743:=()
def tw7482604452726679431:=()
def tw7568782544810342607:=()
def tw7577872630895885929:=()
def tw767386880452216867:=()
def tw7709223757010346093:=()
def tw7756728513082349749:=()
def tw7875566990216091760:=()
def tw7977005438499971548:=()
def tw8049224206683733881:=()
def tw8061177063057066732:=()
def tw8131475686656940139:=()
def tw8416137051138891891:=()
def tw8454382166092643893:=()
def tw8521908785653902662:=()
def tw8591359570876149413:=()
def tw8607877747086012960:=()
def tw8714749257909490730:=()
def tw8733151367598811867:=()
def tw8844597387899291551:=()
def tw8920613858459611190:=()
def tw8949220006359907020:=()
def tw9000694304945867236:=()
def tw9028266240041192057:=()
def tw9050532793047959083:=()
def tw9074954616741248500:=()
def tw910336568264284794:=()
def tw9130493358448360823:=()
def tw915755120953543896:=()
def tw9248336684495004109:=()
def tw9350659481661945344:=()
def tw9352598130137782995:=()
def tw9357916519129765917:=()
def tw950464213509349347:=()
def tw9514465940562765733:=()
def tw9550541991043344544:=()
def tw9723025459642699800:=()
def tw9795001029459844261:=()
def tw9886823560906833814:=()
def tw9932764387616745134:=()
def tw9973940474440197724:=()
end PySem.W.Fast
open PySem PySem.W PyProof.Rows
set_option maxRecDepth 100000 in
set_option maxHeartbeats 0 in
theorem PySem.Challenge.cw_hourstairs_k85_whole_layers_holds : PySem.Challenge.rw_hourstairs_k85_whole_layers.Holds := by
 w_on;o_law;k_head;(case hw=>w_witness2)
 k_fill
 refine FW.walkF (l:=PySem.Challenge.rw_hourstairs_k85_whole_layers) (k:=35) (x:="_law_script") rfl rfl ⟨rfl,by decide,by decide,rfl⟩ (fun w h Y=>PySem.W.kIn_of Y) ?F
 case F =>
  intro w mg fa h KX G hmg
  refine' My.all_mk KX G hmg ?a0 ?l0 ?c0 ?k0 ?a1 ?l1 ?c1 ?k1 ?a2 ?l2 ?c2 ?k2 ?a3 ?l3 ?c3 ?k3 ?a4 ?l4 ?c4 ?k4 ?a5 ?l5 ?c5 ?k5 ?a6 ?l6 ?c6 ?k6 ?a7 ?l7 ?c7 ?k7 ?a8 ?l8 ?c8 ?k8 ?a9 ?l9 ?c9 ?k9 ?a10 ?l10 ?c10 ?k10 ?a11 ?l11 ?c11 ?k11 ?a12 ?l12 ?c12 ?k12 ?a13 ?l13 ?c13 ?k13 ?a14 ?l14 ?c14 ?k14 ?a15 ?l15 ?c15 ?k15 ?a16 ?l16 ?c16 ?k16 ?a17 ?l17 ?c17 ?k17 ?a18 ?l18 ?c18 ?k18 ?a19 ?l19 ?c19 ?k19 ?a20 ?l20 ?c20 ?k20 ?a21 ?l21 ?c21 ?k21 ?a22 ?l22 ?c22 ?k22 ?a23 ?l23 ?c23 ?k23 ?a24 ?l24 ?c24 ?k24 ?a25 ?l25 ?c25 ?k25 ?a26 ?l26 ?c26 ?k26 ?a27 ?l27 ?c27 ?k27 ?a28 ?l28 ?c28 ?k28 ?a29 ?l29 ?c29 ?k29 ?a30 ?l30 ?c30 ?k30 ?a31 ?l31 ?c31 ?k31 ?a32 ?l32 ?c32 ?k32 ?a33 ?l33 ?c33 ?k33 ?a34 ?l34 ?c34 ?k34 ?z0 ?z1 ?z2 ?z3 ?z4 ?z5 ?z6 ?z7 ?z8 ?z9 ?z10 ?z11 ?z12 ?tz0 ?tz1 ?tz2
  all_goals first|delta My.za|delta My.zl|delta My.zc|delta My.zk|delta My.zn|skip
  (case a0=>k_is)
  (case l0=>k_is)
  (case c0=>k_is)
  (case k0=>k_is)
  (case a1=>k_is)
  (case l1=>k_is)
  (case c1=>k_is)
  (case k1=>k_is)
  (case a2=>k_is)
  (case l2=>k_is)
  (case c2=>k_is)
  (case k2=>k_is)
  (case a3=>k_is)
  (case l3=>k_is)
  (case c3=>k_is)
  (case k3=>k_is)
  (case a4=>k_is)
  (case l4=>k_is)
  (case c4=>k_is)
  (case k4=>k_is)
  (case a5=>k_is)
  (case l5=>k_is)
  (case c5=>k_is)
  (case k5=>k_is)
  (case a6=>k_is)
  (case l6=>k_is)
  (case c6=>k_is)
  (case k6=>k_is)
  (case a7=>k_is)
  (case l7=>k_is)
  (case c7=>k_is)
  (case k7=>k_is)
  (case a8=>k_is)
  (case l8=>k_is)
  (case c8=>k_is)
  (case k8=>k_is)
  (case a9=>k_is)
  (case l9=>k_is)
  (case c9=>k_is)
  (case k9=>k_is)
  (case a10=>k_is)
  (case l10=>k_is)
  (case c10=>k_is)
  (case k10=>k_is)
  (case a11=>k_is)
  (case l11=>k_is)
  (case c11=>k_is)
  (case k11=>k_is)
  (case a12=>k_is)
  (case l12=>k_is)
  (case c12=>k_is)
  (case k12=>k_is)
  (case a13=>k_is)
  (case l13=>k_is)
  (case c13=>k_is)
  (case k13=>k_is)
  (case a14=>k_is)
  (case l14=>k_is)
  (case c14=>k_is)
  (case k14=>k_is)
  (case a15=>k_is)
  (case l15=>k_is)
  (case c15=>k_is)
  (case k15=>k_is)
  (case a16=>k_is)
  (case l16=>k_is)
  (case c16=>k_is)
  (case k16=>k_is)
  (case a17=>k_is)
  (case l17=>k_is)
  (case c17=>k_is)
  (case k17=>k_is)
  (case a18=>k_is)
  (case l18=>k_is)
  (case c18=>k_is)
  (case k18=>k_is)
  (case a19=>k_is)
  (case l19=>k_is)
  (case c19=>k_is)
  (case k19=>k_is)
  (case a20=>k_is)
  (case l20=>k_is)
  (case c20=>k_is)
  (case k20=>k_is)
  (case a21=>k_is)
  (case l21=>k_is)
  (case c21=>k_is)
  (case k21=>k_is)
  (case a22=>k_is)
  (case l22=>k_is)
  (case c22=>k_is)
  (case k22=>k_is)
  (case a23=>k_is)
  (case l23=>k_is)
  (case c23=>k_is)
  (case k23=>k_is)
  (case a24=>k_is)
  (case l24=>k_is)
  (case c24=>k_is)
  (case k24=>k_is)
  (case a25=>k_is)
  (case l25=>k_is)
  (case c25=>k_is)
  (case k25=>k_is)
  (case a26=>k_is)
  (case l26=>k_is)
  (case c26=>k_is)
  (case k26=>k_is)
  (case a27=>k_is)
  (case l27=>k_is)
  (case c27=>k_is)
  (case k27=>k_is)
  (case a28=>k_is)
  (case l28=>k_is)
  (case c28=>k_is)
  (case k28=>k_is)
  (case a29=>k_is)
  (case l29=>k_is)
  (case c29=>k_is)
  (case k29=>k_is)
  (case a30=>k_is)
  (case l30=>k_is)
  (case c30=>k_is)
  (case k30=>k_is)
  (case a31=>k_is)
  (case l31=>k_is)
  (case c31=>k_is)
  (case k31=>k_is)
  (case a32=>k_is)
  (case l32=>k_is)
  (case c32=>k_is)
  (case k32=>k_is)
  (case a33=>k_is)
  (case l33=>k_is)
  (case c33=>k_is)
  (case k33=>k_is)
  (case a34=>k_is)
  (case l34=>k_is)
  (case c34=>k_is)
  (case k34=>k_is)
  (case z0=>k_is)
  (case z1=>k_is)
  (case z2=>k_is)
  (case z3=>k_is)
  (case z4=>k_is)
  (case z5=>k_is)
  (case z6=>k_is)
  (case z7=>k_is)
  (case z8=>k_is)
  (case z9=>k_is)
  (case z10=>k_is)
  (case z11=>k_is)
  (case z12=>k_is)
  (case tz0=>k_is)
  (case tz1=>k_is)
  (case tz2=>k_is)
