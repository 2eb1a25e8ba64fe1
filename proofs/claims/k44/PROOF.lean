import PyProof.Rows.All
import Wide.All
import OpenK.AllK
import Wide.FinOn
import Lean
import PyProof.EqAt
import PyProof.EqKinds
import PyProof.TupleCall
import KE.LcSums
import PySem.Challenge.RW_hourstairs_k44_whole_then_over_lesser
set_option genSizeOfSpec false
set_option Elab.async false
set_option linter.all false
set_option maxRecDepth 100000
namespace L2
open PySem PySem.Spec PyProof.Rows
noncomputable abbrev Key:=Sum Int Str
noncomputable def DV:Key→Value→Bool
 | .inl k,v=>Value.isInt k v
 | .inr x,v=>Value.isStrOf x v
noncomputable def Iu (w:World):Key→Int
 | .inl k=>hashInt k
 | .inr x=>hashStr w x
theorem bG:∀ {k:Key} {v:Value},DV k v=true→(∃i t,k=Sum.inl i∧v=Value.int i t)∨(∃x t,k=Sum.inr x∧v=Value.str x t)
 | .inl i,v,h=>by
  obtain ⟨t,e⟩:=Value.isInt_shape (k:=i) (v:=v) h
  exact .inl ⟨i,t,rfl,e⟩
 | .inr x,v,h=>by
  obtain ⟨t,e⟩:=Value.isStrOf_shape (x:=x) (v:=v) h
  exact .inr ⟨x,t,rfl,e⟩
theorem FY (a b:Int):decide ((Sum.inl a:Key)=Sum.inl b)=(a == b):=by
 by_cases e:a=b
 ·subst e;simp
 ·have h:¬(Sum.inl a:Key)=Sum.inl b:=fun q=>e (Sum.inl.inj q)
  rw [decide_eq_false h]
  exact (beq_eq_false_iff_ne.mpr e).symm
theorem E7 (a b:Str):decide ((Sum.inr a:Key)=Sum.inr b)=decide (a=b):=by
 by_cases e:a=b
 ·subst e;simp
 ·have h:¬(Sum.inr a:Key)=Sum.inr b:=fun q=>e (Sum.inr.inj q)
  rw [decide_eq_false h,decide_eq_false e]
theorem FB (a:Int) (b:Str):decide ((Sum.inl a:Key)=Sum.inr b)=false:=decide_eq_false (fun q=>nomatch q)
theorem E8 (a:Str) (b:Int):decide ((Sum.inr a:Key)=Sum.inl b)=false:=decide_eq_false (fun q=>nomatch q)
noncomputable def qA (prog:Program) (w:World):PySem.KeyKind prog w Key where
 is:=DV
 hash:=Iu w
 inj:=fun v a b ha hb=>by
  rcases bG ha with ⟨i,t,rfl,rfl⟩|⟨x,t,rfl,rfl⟩
  ·rcases bG hb with ⟨j,u,rfl,e⟩|⟨y,u,rfl,e⟩
   ·injection e with e1 _;rw [e1]
   ·exact nomatch e
  ·rcases bG hb with ⟨j,u,rfl,e⟩|⟨y,u,rfl,e⟩
   ·exact nomatch e
   ·injection e with e1 _;rw [e1]
 byValue:=fun k v h=>by
  rcases bG h with ⟨i,t,rfl,rfl⟩|⟨x,t,rfl,rfl⟩ <;> rfl
 pyHash:=fun hv h=>by
  rcases bG hv with ⟨i,t,rfl,rfl⟩|⟨x,t,rfl,rfl⟩
  ·exact wpAny_pyHash_int h
  ·exact wpAny_pyHash_str h
 eqBool:=fun hu hv h=>by
  rcases bG hu with ⟨i,t,rfl,rfl⟩|⟨x,t,rfl,rfl⟩
  ·rcases bG hv with ⟨j,u,rfl,rfl⟩|⟨y,u,rfl,rfl⟩
   ·rw [FY] at h;exact wpAny_eqBool_int h
   ·rw [FB] at h;exact SeqAt.EqAt.int_str i t y u _ _ _ _ h
  ·rcases bG hv with ⟨j,u,rfl,rfl⟩|⟨y,u,rfl,rfl⟩
   ·rw [E8] at h;exact SeqAt.EqAt.str_int x t j u _ _ _ _ h
   ·rw [E7] at h;exact wpAny_eqBool_str h
 «strs»:=fun k x t v h=>by
  rcases bG h with ⟨i,u,rfl,e⟩|⟨y,u,rfl,e⟩
  ·exact nomatch e
  ·injection e with e1 _
   subst e1
   cases v <;> rfl
end L2
namespace L2
open PySem PySem.Spec PyProof.Rows
inductive V where
 | non|bl (b:Bool)|int (i:Int)|str (x:Str)|byt (b:Array UInt8)|flt (b:UInt64)|ref (a:Addr)|ty (n:String)
 deriving DecidableEq
noncomputable def RelV:V→Value→Prop
 | .non,u=>u=Value.none
 | .bl b,u=>u=Value.bool b
 | .int i,u=>∃t,u=Value.int i t
 | .str x,u=>∃t,u=Value.str x t
 | .byt b,u=>∃t,u=Value.bytes b t
 | .flt b,u=>∃t,u=Value.float b t
 | .ref a,u=>u=Value.ref a
 | .ty n,u=>u=Value.type n
noncomputable abbrev Vals:List V→List Value→Prop:=Paired RelV
theorem Vals.length {xs:List V} {us:List Value} (r:Vals xs us):xs.length=us.length:=Paired.length r
theorem Vals.get:∀ {xs:List V} {us:List Value} {i:Nat} {x:V},Vals xs us→xs[i]?=some x→∃u,us[i]?=some u∧RelV x u
 | _,_,_,_,.nil,e=>by simp at e
 | _,_,0,_,.cons r _,e=>by simp at e;subst e;exact ⟨_,rfl,r⟩
 | _,_,i+1,x,.cons _ t,e=>by
  obtain ⟨u,h1,h2⟩:=Vals.get (i:=i) (x:=x) t (by simpa using e)
  exact ⟨u,by simpa using h1,h2⟩
theorem Vals.set {x:V} {u:Value} (r:RelV x u):∀ {xs:List V} {us:List Value} (i:Nat),Vals xs us→Vals (xs.set i x) (us.set i u)
 | _,_,_,.nil=>.nil
 | _,_,0,.cons _ t=>.cons r t
 | _,_,i+1,.cons q t=>.cons q (Vals.set r i t)
theorem Vals.append:∀ {xs ys:List V} {us ws:List Value},Vals xs us→Vals ys ws→Vals (xs++ys) (us++ws)
 | _,_,_,_,.nil,s=>s
 | _,_,_,_,.cons r t,s=>.cons r (Vals.append t s)
theorem Vals.take:∀ {xs:List V} {us:List Value} (n:Nat),Vals xs us→Vals (xs.take n) (us.take n)
 | _,_,0,_=>.nil
 | _,_,_+1,.nil=>.nil
 | _,_,n+1,.cons r t=>.cons r (Vals.take n t)
theorem Vals.drop:∀ {xs:List V} {us:List Value} (n:Nat),Vals xs us→Vals (xs.drop n) (us.drop n)
 | _,_,0,r=>r
 | _,_,_+1,.nil=>.nil
 | _,_,n+1,.cons _ t=>Vals.drop n t
noncomputable def F_:Option V→Option Value→Prop
 | some v,some u=>RelV v u
 | none,none=>True
 | _,_=>False
noncomputable def KV {κ:Type}:List (κ × V)→List (κ × Value)→Prop:=Paired fun (p:κ × V) (q:κ × Value)=>p.1=q.1∧RelV p.2 q.2
noncomputable def kV:Key→V
 | .inl i=>.int i
 | .inr x=>.str x
inductive HO where
 | lst (xs:List V)
 | tup (xs:List V)
 | dK (kvs:List (Key × V))|dT (kvs:List (List Key × V))
 | set (S:Int→Bool) (n:Nat)
 | ins (C dx:Addr) (fs:List (Str × V))
 | own (x:Addr)
 | xd (fs:List (Str × V))
 | met (f x:Addr)
 | rng (lo hi:Int)
 | frz (o:Obj) (u:HO)
 | tbl (ps:Array Value)
 | ext (φ:Heap→Prop)
noncomputable abbrev Hp:=Addr→Option HO
noncomputable def upd (H:Hp) (a:Addr) (o:HO):Hp:=fun b=>if b=a then some o else H b
theorem cJ {H:Hp} {a:Addr} {o:HO}:upd H a o a=some o:=by unfold upd;rw [if_pos rfl]
theorem ak {H:Hp} {a b:Addr} {o:HO} (h:b≠a):upd H a o b=H b:=by unfold upd;rw [if_neg h]
theorem aH {H:Hp} {a b:Addr} {o:HO} (h:H a=some o) (h':H b=none):a≠b:=by
 intro e;subst e;rw [h] at h';cases h'
section
variable (P:Program) (w:World)
noncomputable def ObjOk (H:Hp) (h:Heap) (a:Addr):HO→Prop
 | .lst xs=>xs.length≤sizeLine∧∃(its:List Value) (n:Nat),Vals xs its∧h.get? a=some { cls:=.type "list",data:=.seq its.toArray n }
 | .tup xs=>xs.length≤sizeLine∧∃its:List Value,Vals xs its∧IsTup h a its.toArray
 | .dK kvs=>kvs.length≤sizeLine∧(a == sysModules)=false∧∃vs,KV kvs vs∧h.DictOf (qA P w) a vs
 | .dT kvs=>kvs.length≤sizeLine∧(a == sysModules)=false∧∃xs:List (List Key × Addr × Value),
   Paired (fun (p:List Key × V) (q:List Key × Addr × Value)=>p.1=q.1∧H q.2.1=some (.tup (p.1.map kV))∧RelV p.2 q.2.2) kvs xs ∧
   ∃o es ep,h.get? a=some o∧o.ExactDict∧o.data=.dict es ep∧es.toList=xs.map (entryOfKey (tupleKind (qA P w)))∧(xs.map (·.1)).Nodup
 | .set S n=>h.SetOf (intKind P w) a S n
 | .ins C dx fs=>H dx=some (.own a)∧fs.length≤1000∧dx≠a∧h.get? a=some (PySem.W.instObj C dx) ∧
   ∃mA,h.Ns1 dx mA∧(∀f,F_ (fs.lookup f) (mA f))∧PySem.Within mA (fs.map (·.1))
 | .own _=>∃o,h.get? a=some o
 | .xd fs=>∃mA,h.Ns1 a mA∧∀f,F_ (fs.lookup f) (mA f)
 | .rng lo hi=>∃t u v,h.get? a=some { cls:=.type "range",data:=.fields #[.int lo t,.int hi u,.int 1 v] }
 | .frz o u=>h.get? a=some o∧ObjOk H h a u
 | .tbl ps=>h.get? a=some { cls:=.none,data:=.fields ps }
 | .met f x=>h.get? a=some (PySem.W.methodObj (.ref f) (.ref x))
 | .ext φ=>φ h∧(∃o,h.get? a=some o)∧∀h1 h2:Heap,φ h1→(∀o,h1.get? a=some o→h2.get? a=some o)→φ h2
noncomputable def HOk (H:Hp) (h:Heap):Prop:=∀a o,H a=some o→ObjOk P w H h a o
end
section
variable {P:Program} {w:World} {H H':Hp} {h h':Heap} {a:Addr} {o:HO}
theorem ObjOk.lt (x:ObjOk P w H h a o):a<h.objs.size:=by
 cases o with
 | lst xs=>obtain ⟨_,_,_,_,e⟩:=x;exact Heap.lt_size e
 | tup xs=>obtain ⟨_,_,_,p⟩:=x;exact p.lt
 | dK kvs=>obtain ⟨_,_,_,_,o,_,_,e,_⟩:=x;exact Heap.lt_size e
 | dT kvs=>obtain ⟨_,_,_,_,o,_,_,e,_⟩:=x;exact Heap.lt_size e
 | set S n=>obtain ⟨o,_,_,_,e,_⟩:=x;exact Heap.lt_size e
 | ins C dx fs=>obtain ⟨_,_,_,e,_⟩:=x;exact Heap.lt_size e
 | own y=>obtain ⟨_,e⟩:=x;exact Heap.lt_size e
 | xd fs=>obtain ⟨_,⟨_,_,_,e,_⟩,_⟩:=x;exact Heap.lt_size e
 | rng lo hi=>obtain ⟨_,_,_,e⟩:=x;exact Heap.lt_size e
 | frz ob u=>obtain ⟨e,_⟩:=x;exact Heap.lt_size e
 | tbl ps=>exact Heap.lt_size (show h.get? a=some _ from x)
 | met f y=>exact Heap.lt_size (show h.get? a=some _ from x)
 | ext φ=>obtain ⟨_,⟨_,e⟩,_⟩:=x;exact Heap.lt_size e
theorem Paired.mapP {α β:Type} {F G:α→β→Prop}:∀ {l₁:List α} {l₂:List β},Paired F l₁ l₂→(∀a b,F a b→G a b)→Paired G l₁ l₂
 | _,_,.nil,_=>.nil
 | _,_,.cons r t,f=>.cons (f _ _ r) (Paired.mapP t f)
theorem ObjOk.stay (x:ObjOk P w H h a o) (k:∀b u,(b=a∨H b=some (.own a))→h.get? b=some u→h'.get? b=some u)
  (ho:∀b,H b=some (.own a)→H' b=some (.own a)) (ht:∀b xs,H b=some (.tup xs)→H' b=some (.tup xs)):ObjOk P w H' h' a o:=by
 induction o with
 | lst xs=>obtain ⟨z,its,n,r,e⟩:=x;exact ⟨z,its,n,r,k _ _ (.inl rfl) e⟩
 | tup xs=>obtain ⟨z,its,r,ob,e,c⟩:=x;exact ⟨z,its,r,ob,k _ _ (.inl rfl) e,c⟩
 | dK kvs=>obtain ⟨z,y,vs,r,ob,es,ep,e,c⟩:=x;exact ⟨z,y,vs,r,ob,es,ep,k _ _ (.inl rfl) e,c⟩
 | dT kvs =>
  obtain ⟨z,y,xs,r,ob,es,ep,e,c⟩:=x
  exact ⟨z,y,xs,Paired.mapP r fun p q z=>⟨z.1,ht _ _ z.2.1,z.2.2⟩,ob,es,ep,k _ _ (.inl rfl) e,c⟩
 | set S n=>obtain ⟨ob,es,ep,t,e,c⟩:=x;exact ⟨ob,es,ep,t,k _ _ (.inl rfl) e,c⟩
 | ins C dx fs =>
  obtain ⟨d,z,ne,e,mA,⟨od,es,ep,e2,c⟩,r⟩:=x
  exact ⟨ho _ d,z,ne,k _ _ (.inl rfl) e,mA,⟨od,es,ep,k _ _ (.inr d) e2,c⟩,r⟩
 | own y=>obtain ⟨ob,e⟩:=x;exact ⟨ob,k _ _ (.inl rfl) e⟩
 | xd fs=>obtain ⟨mA,⟨od,es,ep,e,c⟩,r⟩:=x;exact ⟨mA,⟨od,es,ep,k _ _ (.inl rfl) e,c⟩,r⟩
 | rng lo hi=>obtain ⟨t,u,v,e⟩:=x;exact ⟨t,u,v,k _ _ (.inl rfl) e⟩
 | frz ob u ih=>obtain ⟨e,q⟩:=x;exact ⟨k _ _ (.inl rfl) e,ih q⟩
 | tbl ps =>
  have e:h.get? a=some { cls:=.none,data:=.fields ps }:=x
  show h'.get? a=some { cls:=.none,data:=.fields ps }
  exact k a _ (.inl rfl) e
 | met f y =>
  have e:h.get? a=some (PySem.W.methodObj (.ref f) (.ref y)):=x
  show h'.get? a=some (PySem.W.methodObj (.ref f) (.ref y))
  exact k a _ (.inl rfl) e
 | ext φ=>obtain ⟨p,⟨o,e⟩,st⟩:=x;exact ⟨st _ _ p fun o q=>k _ _ (.inl rfl) q,⟨o,k _ _ (.inl rfl) e⟩,st⟩
theorem HOk.lt (x:HOk P w H h) (e:H a=some o):a<h.objs.size:=(x a o e).lt
theorem HOk.fresh (x:HOk P w H h) (e:h.objs.size≤a):H a=none:=by
 cases q:H a with
 | none=>rfl
 | some u=>exact absurd (Nat.lt_of_lt_of_le (x.lt q) e) (Nat.lt_irrefl _)
theorem HOk.kept (x:HOk P w H h) (k:∀b u,h.get? b=some u→h'.get? b=some u):HOk P w H h':=fun a o e =>
 (x a o e).stay (fun b u _ q=>k b u q) (fun _ q=>q) fun _ _ q=>q
theorem HOk.laid (x:HOk P w H h) (k:∀b u,h.get? b=some u→h'.get? b=some u) (hp:h.objs.size≤a) (new:ObjOk P w (upd H a o) h' a o):HOk P w (upd H a o) h':=fun b u e=>by
 have hn:=x.fresh hp
 by_cases hb:b=a
 ·subst hb;rw [cJ] at e;cases e;exact new
 ·rw [ak hb] at e
  exact (x b u e).stay (fun c v _ q=>k c v q) (fun c q=>by rw [ak (aH q hn)];exact q) fun c xs q=>by rw [ak (aH q hn)];exact q
end
noncomputable def Rd (H:Hp) (a:Addr) (u:HO):Prop:=H a=some u∨∃o,H a=some (.frz o u)
theorem Rd.ok {P:Program} {w:World} {H:Hp} {h:Heap} {a:Addr} {u:HO} (r:Rd H a u) (x:HOk P w H h):ObjOk P w H h a u:=by
 rcases r with r|⟨o,r⟩
 ·exact x a u r
 ·obtain ⟨_,q⟩:=x a _ r
  exact q
noncomputable def Mut:Option HO→Prop
 | some (.lst _)=>True
 | some (.dK _)=>True
 | some (.dT _)=>True
 | some (.set _ _)=>True
 | some (.ins _ _ _)=>True
 | some (.ext _)=>True
 | _=>False
section
variable {P:Program} {w:World} {H:Hp} {h h':Heap} {x e:Addr} {o':HO}
theorem HOk.write (ok:HOk P w H h) (mu:Mut (H x)) (he:e=x∨H e=some (.own x)) (k:∀b u,b≠e→h.get? b=some u→h'.get? b=some u) (heo:∃u,h'.get? e=some u)
  (new:ObjOk P w (upd H x o') h' x o'):HOk P w (upd H x o') h':=fun b u q=>by
 have nown:∀c y,H c=some (.own y)→c≠x:=fun c y r z=>by subst z;rw [r] at mu;exact mu
 have ntup:∀c xs,H c=some (.tup xs)→c≠x:=fun c xs r z=>by subst z;rw [r] at mu;exact mu
 by_cases hb:b=x
 ·subst hb;rw [cJ] at q;cases q;exact new
 ·rw [ak hb] at q
  by_cases hbe:b=e
  ·have q':H b=some (.own x):=by
    rcases he with z|z
    ·exact absurd (hbe.trans z) hb
    ·rw [hbe];exact z
   rw [q] at q';cases q'
   obtain ⟨v,hv⟩:=heo
   exact ⟨v,by rw [hbe];exact hv⟩
  ·refine (ok b u q).stay (fun c v hc r=>k c v ?_ r) (fun c r=>by rw [ak (nown c b r)];exact r) fun c xs r=>by rw [ak (ntup c xs r)];exact r
   rcases hc with rfl|hc
   ·exact hbe
   ·rintro rfl
    rcases he with z|z
    ·exact nown c b hc z
    ·rw [hc] at z;cases z;exact hb rfl
end
structure Un (fs ex:List Addr) (H H':Hp) (h h':Heap):Prop where
 keep:∀b o,h.get? b=some o→H b=none→b ∉ fs→b ∉ ex→h'.get? b=some o
 slot:∀b o,h.get? b=some o→H b=none→b∈fs→b ∉ ex→∃sl,h'.get? b=some { o with slots:=sl }
 free:∀b o,h.get? b=some o→H b=none→b ∉ ex→H' b=none
 there:∀b o,h.get? b=some o→b ∉ ex→∃o',h'.get? b=some o'
 tups:∀b xs,H b=some (.tup xs)→H' b=some (.tup xs)
 frzs:∀b o u,H b=some (.frz o u)→H' b=some (.frz o u)
 tbls:∀b ps,H b=some (.tbl ps)→∃more,H' b=some (.tbl (ps++more))
section
variable {fs fs' ex ex':List Addr} {H H1 H2:Hp} {h h1 h2 h':Heap} {a x e:Addr} {o:HO}
theorem Un.any (u:Un fs ex H H1 h h1) {b:Addr} {ob:Obj} (q:h.get? b=some ob) (n:H b=none) (hx:b ∉ ex):∃sl,h1.get? b=some { ob with slots:=sl }:=by
 by_cases hb:b∈fs
 ·exact u.slot b ob q n hb hx
 ·exact ⟨ob.slots,u.keep b ob q n hb hx⟩
theorem Un.kept (k:∀b u,h.get? b=some u→h'.get? b=some u):Un fs ex H H h h' :=
 ⟨fun b ob q _ _ _=>k b ob q,fun b ob q _ _ _=>⟨ob.slots,k b ob q⟩,fun _ _ _ n _=>n,fun b ob q _=>⟨ob,k b ob q⟩,fun _ _ q=>q,fun _ _ _ q=>q,fun _ ps q=>⟨#[],by rw [q];simp⟩⟩
theorem Un.refl:Un fs ex H H h h:=Un.kept fun _ _ q=>q
theorem Un.laid (k:∀b u,h.get? b=some u→h'.get? b=some u) (hp:h.objs.size≤a) (hn:H a=none):Un fs ex H (upd H a o) h h' where
 keep:=fun b u q _ _ _=>k b u q
 slot:=fun b u q _ _ _=>⟨u.slots,k b u q⟩
 free:=fun b u q n _=>by rw [ak (Nat.ne_of_lt (Nat.lt_of_lt_of_le (Heap.lt_size q) hp))];exact n
 there:=fun b u q _=>⟨u,k b u q⟩
 tups:=fun b xs q=>by rw [ak (aH q hn)];exact q
 frzs:=fun b u xs q=>by rw [ak (aH q hn)];exact q
 tbls:=fun b ps q=>⟨#[],by rw [ak (aH q hn),q];simp⟩
theorem Un.write (mu:Mut (H x)) (he:e=x∨H e=some (.own x)) (k:∀b u,b≠e→h.get? b=some u→h'.get? b=some u) (heo:∃u,h'.get? e=some u):Un fs ex H (upd H x o) h h':=by
 have hx:∀b,H b=none→b≠x:=fun b n z=>by subst z;rw [n] at mu;exact mu
 have hb:∀b,H b=none→b≠e:=fun b n z=>by
  subst z
  rcases he with r|r
  ·exact hx b n r
  ·rw [n] at r;cases r
 have hm:∀b u,H b=some u→¬Mut (some u)→b≠x:=fun b u q nm z=>by subst z;rw [q] at mu;exact nm mu
 refine ⟨fun b u q n _ _=>k b u (hb b n) q,fun b u q n _ _=>⟨u.slots,k b u (hb b n) q⟩,fun b u q n _=>by rw [ak (hx b n)];exact n,fun b u q _=>?_,
  fun b xs q=>by rw [ak (hm b _ q fun z=>z)];exact q,fun b u xs q=>by rw [ak (hm b _ q fun z=>z)];exact q,fun b ps q=>⟨#[],by rw [ak (hm b _ q fun z=>z),q];simp⟩⟩
 by_cases hbe:b=e
 ·subst hbe;exact heo
 ·exact ⟨u,k b u hbe q⟩
end
noncomputable def trk (h:Heap) (H:Hp):List Addr:=(List.range h.objs.size).filter fun a=>(H a).isSome
noncomputable def nD (h:Heap) (H:Hp):Heap:=PySem.W.hideAll h (trk h H)
theorem wK (h:Heap) (H:Hp):(nD h H).objs.size=h.objs.size:=PySem.W.hideAll_size _ _
theorem A5 {h:Heap} {H:Hp} {b:Addr} {o:Obj} (e:h.get? b=some o) (n:H b=none):(nD h H).get? b=some o :=
 PySem.W.hideAll_get _ e fun hm=>by
  have q:(H b).isSome=true:=(List.mem_filter.mp hm).2
  rw [n] at q;simp at q
theorem Dh {h:Heap} {H:Hp} {b:Addr} {o:Obj} (e:(nD h H).get? b=some o):h.get? b=some o∧H b=none:=by
 have e':h.get? b=some o:=PySem.W.of_hideAll (trk h H) e
 refine ⟨e',?_⟩
 cases q:H b with
 | none=>rfl
 | some x =>
  have hm:b∈trk h H:=List.mem_filter.mpr ⟨List.mem_range.mpr (Heap.lt_size e'),by simp [q]⟩
  have z:(nD h H).get? b=none:=PySem.W.hideAll_none (trk h H) hm
  rw [z] at e;cases e
end L2
namespace L2
open PySem PySem.Spec PyProof.Rows
structure Mod (K:PySem.W.Frag) (mg:Str→Option Value) (base:Heap):Prop where
 kin:K.In base
 glob:base.Ns mainGlobals mg
 blt:∃mb,base.Ns builtinsNs mb∧∀x:Str,x≠"__name__"→mb x=bootBuiltins x
 nolimit:base.NoLimit
structure Cx where
 prog:Program
 w:World
 K:PySem.W.Frag
 mg:Str→Option Value
 base:Heap
 A:Around
 N:List Str
 s₀:Shared
 H₀:Hp
 env:Env
 outer:List Env
 stack:List Env
 ex:List Addr
 fn:Str→Bool
 calm:Bool
 pn:List (Addr × Obj)
 xe:Value→Shared→Prop
noncomputable def frs (l:List Env):List Addr:=l.filterMap (·.frame)
noncomputable abbrev Cx.fs (X:Cx):List Addr:=frs X.outer
noncomputable def Vis (sc:Scope) (x:Str):Prop:=sc.names.lookup x=some .local∨sc.names.lookup x=some .cell∨sc.names.lookup x=some .free
noncomputable def Loc (sc:Scope) (x:Str):Prop:=sc.names.lookup x=some .local∨sc.names.lookup x=some .cell
noncomputable def H_ (env:Env) (h:Heap) (m:Str→Option Value) (x:Str) (u:Value):Prop :=
 (env.kindOf x=some .local∧m x=some u)∨((env.kindOf x=some .cell∨env.kindOf x=some .free)∧∃c,env.cells.lookup x=some c∧h.IsCell c (some u))
structure Cx.Ok (X:Cx):Prop where
 mod:Mod X.K X.mg X.base
 kind:X.env.scope.kind=.function
 glob:X.env.globals=mainGlobals
 blt:X.env.builtins=builtinsNs
 above:X.s₀.heap.objs.size≤X.env.locals
 inj:∀x y c,X.env.cells.lookup x=some c→X.env.cells.lookup y=some c→x=y
 has:∀x,(X.env.kindOf x=some .cell∨X.env.kindOf x=some .free)→∃c,X.env.cells.lookup x=some c
 cab:∀x c,X.fn x=true→X.env.cells.lookup x=some c→X.s₀.heap.objs.size≤c
 hd:X.calm=true→X.A.handled=none
 frames:X.A.frames=some X.stack
 stk:X.stack=X.outer∨(X.stack=X.env::X.outer∧X.env.frame=some X.env.locals)
 exf:∀b∈X.ex,b≠X.env.locals∧∀x c,X.env.cells.lookup x=some c→c≠b
 bs:∀b o,X.base.get? b=some o→X.s₀.heap.get? b=some o∧X.H₀ b=none
 bsz:X.base.objs.size≤X.s₀.heap.objs.size
 noex:∀b o,X.base.get? b=some o→b ∉ X.ex
 exfs:∀b∈X.ex,b ∉ X.fs
 funs:X.s₀.heap.FunFrames X.base X.outer
 frf:∀b∈X.fs,X.H₀ b=none
structure Inv (X:Cx) (pins:List (Addr × Obj)) (σ:List (Option V)) (H:Hp) (s:Shared):Prop where
 ok:X.Ok
 os:s.os=X.s₀.os
 bare:AllBare s.gens
 base:Un X.fs X.ex X.H₀ H X.s₀.heap s.heap
 loc:∃m,s.heap.Ns X.env.locals m∧∀(i:Nat) (x:Str) (v:V),X.N[i]?=some x→σ[i]?=some (some v)→Vis X.env.scope x→∃u,RelV v u∧H_ X.env s.heap m x u
 cell:∀x c,X.env.cells.lookup x=some c→∃v,s.heap.IsCell c v
 free:H X.env.locals=none
 freeC:∀x c,X.env.cells.lookup x=some c→H c=none
 pin:∀p∈X.pn++pins,s.heap.get? p.1=some p.2∧H p.1=none∧p.1≠X.env.locals∧p.1 ∉ X.fs∧∀v,p.2.data≠.cell v
 hok:HOk X.prog X.w H s.heap
 len:σ.length=X.N.length
section
variable {X:Cx} {pins:List (Addr × Obj)} {σ:List (Option V)} {H H':Hp} {s:Shared} {h':Heap}
theorem Cx.Ok.nofr (ok:X.Ok) {b:Addr} {o:Obj} (e:X.base.get? b=some o):b ∉ X.fs:=fun hb=>by
 have:=(ok.funs.mem hb).1
 rw [e] at this;cases this
theorem Inv.bs (I:Inv X pins σ H s):∀b o,X.base.get? b=some o→s.heap.get? b=some o∧H b=none:=fun b o e =>
 ⟨I.base.keep b o (I.ok.bs b o e).1 (I.ok.bs b o e).2 (I.ok.nofr e) (I.ok.noex b o e),I.base.free b o (I.ok.bs b o e).1 (I.ok.bs b o e).2 (I.ok.noex b o e)⟩
theorem Inv.bk (I:Inv X pins σ H s):∀b o,X.base.get? b=some o→s.heap.get? b=some o:=fun b o e=>(I.bs b o e).1
theorem Inv.mod (I:Inv X pins σ H s):Mod X.K X.mg X.base:=I.ok.mod
theorem Inv.kIn (I:Inv X pins σ H s):X.K.In s.heap:=I.ok.mod.kin.keeps I.bk
theorem Inv.lt (I:Inv X pins σ H s):X.env.locals<s.heap.objs.size:=let ⟨_,hn,_⟩:=I.loc;hn.lt
theorem Inv.sz (I:Inv X pins σ H s):X.s₀.heap.objs.size≤s.heap.objs.size:=Nat.le_trans I.ok.above (Nat.le_of_lt I.lt)
theorem Inv.nofs (I:Inv X pins σ H s) {a:Addr} (h:s.heap.objs.size≤a):a ∉ X.fs:=fun hb=>by
 obtain ⟨_,o,ho,_⟩:=I.ok.funs.mem hb
 exact absurd (Nat.lt_of_lt_of_le (Heap.lt_size ho) (Nat.le_trans I.sz h)) (Nat.lt_irrefl _)
theorem Inv.cne (I:Inv X pins σ H s):∀x c,X.env.cells.lookup x=some c→c≠X.env.locals:=fun x c e z=>by
 obtain ⟨v,o,ho,hd⟩:=I.cell x c e
 obtain ⟨m,⟨o',es,ep,ho',hd',_⟩,_⟩:=I.loc
 rw [z,ho'] at ho;cases ho;rw [hd'] at hd;cases hd
theorem Inv.funs (I:Inv X pins σ H s):s.heap.FunFrames X.base X.outer:=by
 have all:∀(l:List Env),(∀b∈frs l,b∈X.fs)→X.s₀.heap.FunFrames X.base l→s.heap.FunFrames X.base l:=by
  intro l
  induction l with
  | nil=>intro _ _;trivial
  | cons env r ih =>
   intro hs hl
   obtain ⟨hk,⟨L,o,hf,hn,ho,hd⟩,hr⟩:=hl
   have hL:L∈X.fs:=hs L (by unfold frs;rw [List.filterMap_cons,hf];exact List.mem_cons_self)
   obtain ⟨sl,e⟩:=I.base.slot L o ho (I.ok.frf L hL) hL fun z=>I.ok.exfs L z hL
   exact ⟨hk,⟨L,_,hf,hn,e,hd⟩,ih (fun b hb=>hs b (by unfold frs;rw [List.filterMap_cons,hf];exact List.mem_cons_of_mem _ hb)) hr⟩
 exact all X.outer (fun _ hb=>hb) I.ok.funs
theorem Inv.stack (I:Inv X pins σ H s):s.heap.FunFrames X.base X.stack:=by
 rcases I.ok.stk with e|⟨e,hf⟩
 ·rw [e];exact I.funs
 ·rw [e]
  obtain ⟨m,hn,_⟩:=I.loc
  refine .cons (by rw [I.ok.kind];decide) hf hn ?_ I.funs
  exact Heap.get?_none_of_le (Nat.le_trans I.ok.bsz I.ok.above)
theorem Inv.stkSub (I:Inv X pins σ H s):∀b∈frs X.stack,b∈X.env.locals::X.fs:=fun b hb=>by
 rcases I.ok.stk with e|⟨e,hf⟩
 ·rw [e] at hb;exact List.mem_cons_of_mem _ hb
 ·rw [e] at hb
  unfold frs at hb
  rw [List.filterMap_cons,hf] at hb
  exact hb
theorem Inv.stkFree (I:Inv X pins σ H s):∀b∈frs X.stack,H b=none:=fun b hb=>by
 rcases List.mem_cons.mp (I.stkSub b hb) with e|hb
 ·rw [e];exact I.free
 ·obtain ⟨_,o,ho,_⟩:=I.ok.funs.mem hb
  exact I.base.free b o ho (I.ok.frf b hb) fun z=>I.ok.exfs b z hb
theorem Inv.step {g':Array GenState} {t':Nat} {d':Drawn} {ch:List Addr} (I:Inv X pins σ H s)
  (hch:∀b∈ch,(b∈X.ex∨X.s₀.heap.objs.size≤b)∧b≠X.env.locals∧(∀x c,X.env.cells.lookup x=some c→c≠b)∧∀p∈X.pn++pins,p.1≠b)
  (keep:∀b o,b≠X.env.locals→b ∉ X.fs→b ∉ ch→s.heap.get? b=some o→H b=none→h'.get? b=some o)
  (slot:∀b o,b≠X.env.locals→b∈X.fs→b ∉ ch→s.heap.get? b=some o→H b=none→∃sl,h'.get? b=some { o with slots:=sl }) (free:∀b o,b ∉ ch→s.heap.get? b=some o→H b=none→H' b=none)
  (there:∀b o,b ∉ ch→s.heap.get? b=some o→∃o',h'.get? b=some o')
  (tups:∀b xs,H b=some (.tup xs)→H' b=some (.tup xs)) (frzs:∀b o u,H b=some (.frz o u)→H' b=some (.frz o u)) (tbls:∀b ps,H b=some (.tbl ps)→∃more,H' b=some (.tbl (ps++more)))
  (ns:∀m,s.heap.Ns X.env.locals m→h'.Ns X.env.locals m) (hok:HOk X.prog X.w H' h') (hg:AllBare g') :
  Inv X pins σ H' { s with heap:=h',gens:=g',drawn:=d',toks:=t' }:=by
 have neL:∀b o,X.s₀.heap.get? b=some o→b≠X.env.locals:=fun b o e=>Nat.ne_of_lt (Nat.lt_of_lt_of_le (Heap.lt_size e) I.ok.above)
 have neC:∀b o,X.s₀.heap.get? b=some o→b ∉ X.ex→b ∉ ch:=fun b o e hx hb=>by
  rcases (hch b hb).1 with z|z
  ·exact hx z
  ·exact absurd (Nat.lt_of_lt_of_le (Heap.lt_size e) z) (Nat.lt_irrefl _)
 have cellK:∀x c,X.env.cells.lookup x=some c→∀v,s.heap.IsCell c v→h'.IsCell c v:=fun x c e v ⟨o,ho,hd⟩=>by
  have nch:c ∉ ch:=fun z=>(hch c z).2.2.1 x c e rfl
  by_cases hc:c∈X.fs
  ·obtain ⟨sl,q⟩:=slot c o (I.cne x c e) hc nch ho (I.freeC x c e)
   exact ⟨_,q,hd⟩
  ·exact ⟨o,keep c o (I.cne x c e) hc nch ho (I.freeC x c e),hd⟩
 refine ⟨I.ok,I.os,hg,⟨fun b o e n hb hx=>?_,fun b o e n hb hx=>?_,fun b o e n hx=>?_,fun b o e hx=>?_,fun b xs e=>tups b xs (I.base.tups b xs e),fun b o xs e=>frzs b o xs (I.base.frzs b o xs e),fun b ps e=>?_⟩,?_,fun x c e=>?_,?_,fun x c e=>?_,fun p hp=>?_,hok,I.len⟩
 ·exact keep b o (neL b o e) hb (neC b o e hx) (I.base.keep b o e n hb hx) (I.base.free b o e n hx)
 ·obtain ⟨sl,e1⟩:=I.base.slot b o e n hb hx
  obtain ⟨sl',e2⟩:=slot b _ (neL b o e) hb (neC b o e hx) e1 (I.base.free b o e n hx)
  exact ⟨sl',e2⟩
 ·obtain ⟨o',e1⟩:=I.base.there b o e hx
  exact free b o' (neC b o e hx) e1 (I.base.free b o e n hx)
 ·obtain ⟨o',e1⟩:=I.base.there b o e hx
  exact there b o' (neC b o e hx) e1
 ·obtain ⟨m1,e1⟩:=I.base.tbls b ps e
  obtain ⟨m2,e2⟩:=tbls b _ e1
  exact ⟨m1++m2,by rw [e2,Array.append_assoc]⟩
 ·obtain ⟨m,hn,hl⟩:=I.loc
  refine ⟨m,ns m hn,fun i x v e1 e2 e3=>?_⟩
  obtain ⟨u,r,l⟩:=hl i x v e1 e2 e3
  refine ⟨u,r,?_⟩
  rcases l with l|⟨k,c,e,z⟩
  ·exact .inl l
  ·exact .inr ⟨k,c,e,cellK x c e _ z⟩
 ·obtain ⟨v,z⟩:=I.cell x c e
  exact ⟨v,cellK x c e v z⟩
 ·obtain ⟨m,⟨o,_,_,ho,_⟩,_⟩:=I.loc
  exact free _ o (fun z=>(hch _ z).2.1 rfl) ho I.free
 ·obtain ⟨v,o,ho,hd⟩:=I.cell x c e
  exact free c o (fun z=>(hch c z).2.2.1 x c e rfl) ho (I.freeC x c e)
 ·obtain ⟨e,n,ne,nf,d⟩:=I.pin p hp
  have nch:p.1 ∉ ch:=fun z=>(hch p.1 z).2.2.2 p hp rfl
  exact ⟨keep p.1 p.2 ne nf nch e n,free p.1 p.2 nch e n,ne,nf,d⟩
theorem Inv.un {t':Nat} (I:Inv X pins σ H s) (u:Un X.fs [] H H' s.heap h') (hok:HOk X.prog X.w H' h'):Inv X pins σ H' { s with heap:=h',toks:=t' }:=by
 obtain ⟨m,⟨o,es,ep,ho,r⟩,_⟩:=id I.loc
 obtain ⟨sl,hL⟩:=u.any ho I.free (by simp)
 exact I.step (g':=s.gens) (d':=s.drawn) (ch:=[]) (fun _ z=>nomatch z) (fun b o _ hb _ e n=>u.keep b o e n hb (by simp)) (fun b o _ hb _ e n=>u.slot b o e n hb (by simp)) (fun b o _ e n=>u.free b o e n (by simp)) (fun b o _ e=>u.there b o e (by simp)) u.tups u.frzs u.tbls (fun m' hm=>by
  obtain ⟨o',es',ep',ho',r'⟩:=hm
  rw [ho] at ho';cases ho'
  exact ⟨_,es',ep',hL,r'⟩) hok I.bare
theorem Inv.call {g':Array GenState} {t':Nat} {d':Drawn} {ch:List Addr} (I:Inv X pins σ H s) (u:Un (frs X.stack) ch H H' s.heap h') (hok:HOk X.prog X.w H' h') (hg:AllBare g')
  (hch:∀b∈ch,(b∈X.ex∨X.s₀.heap.objs.size≤b)∧b≠X.env.locals∧(∀x c,X.env.cells.lookup x=some c→c≠b)∧∀p∈X.pn++pins,p.1≠b) :
  Inv X pins σ H' { s with heap:=h',gens:=g',drawn:=d',toks:=t' }:=by
 obtain ⟨m,⟨o,es,ep,ho,r⟩,_⟩:=id I.loc
 obtain ⟨sl,hL⟩:=u.any ho I.free fun z=>(hch _ z).2.1 rfl
 exact I.step (ch:=ch) hch (fun b o hL hb hc e n=>u.keep b o e n (fun z=>(List.mem_cons.mp (I.stkSub b z)).elim hL hb) hc) (fun b o _ _ hc e n=>u.any e n hc) (fun b o hc e n=>u.free b o e n hc) (fun b o hc e=>u.there b o e hc) u.tups u.frzs u.tbls (fun m' hm=>by
  obtain ⟨o',es',ep',ho',r'⟩:=hm
  rw [ho] at ho';cases ho'
  exact ⟨_,es',ep',hL,r'⟩) hok hg
theorem Inv.turned {t':Nat} {it:Addr} (I:Inv X pins σ H s) (k:∀b o,b≠it→s.heap.get? b=some o→h'.get? b=some o) (hn:H it=none) (hL:it≠X.env.locals)
  (h1:it∈X.ex∨X.s₀.heap.objs.size≤it) (h2:∀x c,X.env.cells.lookup x=some c→c≠it) (h3:∀p∈X.pn++pins,p.1≠it):Inv X pins σ H { s with heap:=h',toks:=t' }:=by
 have nit:∀b u,H b=some u→b≠it:=fun b u e z=>by rw [z,hn] at e;cases e
 refine I.step (g':=s.gens) (d':=s.drawn) (ch:=[it]) (fun b hb=>?_) (fun b o _ _ hc e _=>k b o (fun z=>hc (by simp [z])) e) (fun b o _ _ hc e _=>⟨o.slots,k b o (fun z=>hc (by simp [z])) e⟩) (fun _ _ _ _ n=>n)
  (fun b o hc e=>⟨o,k b o (fun z=>hc (by simp [z])) e⟩) (fun _ _ e=>e) (fun _ _ _ e=>e) (fun b ps e=>⟨#[],by rw [e];simp⟩) (fun m hm=>?_) (fun b u e=>?_) I.bare
 ·have e:b=it:=by simpa using hb
  subst e
  exact ⟨h1,hL,h2,h3⟩
 ·obtain ⟨o,es,ep,ho,r⟩:=hm
  exact ⟨o,es,ep,k _ o (Ne.symm hL) ho,r⟩
 ·refine (I.hok b u e).stay (fun c v hc q=>k c v ?_ q) (fun _ q=>q) fun _ _ q=>q
  rcases hc with z|z
  ·rw [z];exact nit b u e
  ·exact nit c _ z
theorem Inv.tok (I:Inv X pins σ H s) (t:Nat):Inv X pins σ H { s with toks:=t }:=I.un (h':=s.heap) (t':=t) Un.refl I.hok
theorem Inv.kept {t':Nat} (I:Inv X pins σ H s) (k:∀b u,s.heap.get? b=some u→h'.get? b=some u):Inv X pins σ H { s with heap:=h',toks:=t' }:=I.un (Un.kept k) (I.hok.kept k)
theorem Inv.laid {a:Addr} {o:HO} {t':Nat} (I:Inv X pins σ H s) (k:∀b u,s.heap.get? b=some u→h'.get? b=some u) (hp:s.heap.objs.size≤a) (new:ObjOk X.prog X.w (upd H a o) h' a o) :
  Inv X pins σ (upd H a o) { s with heap:=h',toks:=t' }:=I.un (Un.laid k hp (I.hok.fresh hp)) (I.hok.laid k hp new)
theorem Inv.write {x e:Addr} {o:HO} {t':Nat} (I:Inv X pins σ H s) (mu:Mut (H x)) (he:e=x∨H e=some (.own x)) (k:∀b u,b≠e→s.heap.get? b=some u→h'.get? b=some u) (heo:∃u,h'.get? e=some u)
  (new:ObjOk X.prog X.w (upd H x o) h' x o):Inv X pins σ (upd H x o) { s with heap:=h',toks:=t' }:=I.un (Un.write mu he k heo) (I.hok.write mu he k heo new)
theorem Inv.pins_of {pins':List (Addr × Obj)} (I:Inv X pins σ H s) (h:∀p∈pins',s.heap.get? p.1=some p.2∧H p.1=none∧p.1≠X.env.locals∧p.1 ∉ X.fs∧∀v,p.2.data≠.cell v):Inv X pins' σ H s :=
 ⟨I.ok,I.os,I.bare,I.base,I.loc,I.cell,I.free,I.freeC,fun p hp=>(List.mem_append.mp hp).elim (fun z=>I.pin p (List.mem_append_left _ z)) (h p),I.hok,I.len⟩
theorem rV {N:List Str} (hN:N.Nodup) {i j:Nat} {x:Str} (a:N[i]?=some x) (b:N[j]?=some x):i=j:=by
 obtain ⟨h1,e1⟩:=List.getElem?_eq_some_iff.mp a
 obtain ⟨h2,e2⟩:=List.getElem?_eq_some_iff.mp b
 exact (List.getElem_inj hN).mp (e1.trans e2.symm)
theorem oP {M:Model} {A:Around} {E:Value→Shared→Prop} {i:Nat} {x:Str} {v:V} {u:Value} {Q:Unit→Shared→Prop} (I:Inv X pins σ H s) (hN:X.N.Nodup) (hi:X.N[i]?=some x) (hx:Loc X.env.scope x) (r:RelV v u)
  (h:∀s',Inv X pins (σ.set i (some v)) H s'→(∃a,Heap.SameBut a s.heap s'.heap∧(a=X.env.locals∨X.env.cells.lookup x=some a))→Q () s') (hf:X.fn x=true∨X.env.scope.names.lookup x=some .local:=by first|exact .inl rfl|exact .inr rfl|assumption):wpAny M A (storeName X.env x u) Q E s:=by
 obtain ⟨m,hn,hl⟩:=id I.loc
 have hcls:(X.env.scope.kind == .class || (X.env.scope.kind == .module && X.env.locals != X.env.globals))=false:=by rw [I.ok.kind];rfl
 have hiσ:i<σ.length:=by rw [I.len];exact (List.getElem?_eq_some_iff.mp hi).1
 have cne:=I.cne
 have tracked:∀ {a:Addr} {h':Heap},(∃o,s.heap.get? a=some o∧H a=none)→Heap.SameBut a s.heap h'→HOk X.prog X.w H h':=fun {a h'} ha hs b ob e=>by
  obtain ⟨_,_,hfree⟩:=ha
  refine (I.hok b ob e).stay (fun c w' hc q=>(hs.2 c ?_).trans q) (fun _ q=>q) fun _ _ q=>q
  rintro rfl
  rcases hc with rfl|hc
  ·rw [hfree] at e;cases e
  ·rw [hfree] at hc;cases hc
 rcases hx with hk|hk
 ·refine wpAny_storeName_local hk hn (fun h' hn' hs=>?_) hcls
  obtain ⟨oL,_,_,hoL,_⟩:=id hn
  refine h _ ⟨I.ok,I.os,I.bare,⟨fun b o e n hb hx=>?_,fun b o e n hb hx=>?_,I.base.free,fun b o e hx=>?_,I.base.tups,I.base.frzs,I.base.tbls⟩,⟨_,hn',fun j y v' e1 e2 e3=>?_⟩,fun y c e=>?_,I.free,I.freeC,fun p hp=>?_,tracked ⟨oL,hoL,I.free⟩ hs,by simpa using I.len⟩ ⟨_,hs,.inl rfl⟩
  ·exact (hs.2 b (Nat.ne_of_lt (Nat.lt_of_lt_of_le (Heap.lt_size e) I.ok.above))).trans (I.base.keep b o e n hb hx)
  ·obtain ⟨sl,e1⟩:=I.base.slot b o e n hb hx
   exact ⟨sl,(hs.2 b (Nat.ne_of_lt (Nat.lt_of_lt_of_le (Heap.lt_size e) I.ok.above))).trans e1⟩
  ·obtain ⟨o',e1⟩:=I.base.there b o e hx
   exact ⟨o',(hs.2 b (Nat.ne_of_lt (Nat.lt_of_lt_of_le (Heap.lt_size e) I.ok.above))).trans e1⟩
  ·by_cases hj:j=i
   ·subst hj
    rw [hi] at e1;cases e1
    rw [List.getElem?_set_self hiσ] at e2
    cases e2
    exact ⟨u,r,.inl ⟨hk,by simp⟩⟩
   ·rw [List.getElem?_set_ne (Ne.symm hj)] at e2
    obtain ⟨u',r',q⟩:=hl j y v' e1 e2 e3
    refine ⟨u',r',?_⟩
    rcases q with ⟨k,e⟩|⟨k,c,e,z⟩
    ·refine .inl ⟨k,?_⟩
     have:y≠x:=fun e=>hj (rV hN e1 (e ▸ hi))
     simp [this,e]
    ·exact .inr ⟨k,c,e,z.sameBut hs (cne y c e)⟩
  ·obtain ⟨w',z⟩:=I.cell y c e
   exact ⟨w',z.sameBut hs (cne y c e)⟩
  ·obtain ⟨e,n,ne,nf,d⟩:=I.pin p hp
   exact ⟨(hs.2 p.1 ne).trans e,n,ne,nf,d⟩
 ·have hfn:X.fn x=true:=by
   rcases hf with z|z
   ·exact z
   ·rw [z] at hk;cases hk
  obtain ⟨c,hc⟩:=I.ok.has x (.inl hk)
  obtain ⟨w',z⟩:=I.cell x c hc
  refine wpAny_storeName_cell I.ok.kind hk hc z (fun h' hc' hs=>?_)
  obtain ⟨oc,hoc,hocd⟩:=id z
  refine h { s with heap:=h' } ⟨I.ok,I.os,I.bare,⟨fun b o e n hb hx=>?_,fun b o e n hb hx=>?_,I.base.free,fun b o e hx=>?_,I.base.tups,I.base.frzs,I.base.tbls⟩,⟨m,hn.sameBut hs (Ne.symm (cne x c hc)),fun j y v' e1 e2 e3=>?_⟩,fun y c' e=>?_,I.free,I.freeC,fun p hp=>?_,tracked ⟨oc,hoc,I.freeC x c hc⟩ hs,by simpa using I.len⟩ ⟨c,hs,.inr hc⟩
  ·exact (hs.2 b (Nat.ne_of_lt (Nat.lt_of_lt_of_le (Heap.lt_size e) (I.ok.cab x c hfn hc)))).trans (I.base.keep b o e n hb hx)
  ·obtain ⟨sl,e1⟩:=I.base.slot b o e n hb hx
   exact ⟨sl,(hs.2 b (Nat.ne_of_lt (Nat.lt_of_lt_of_le (Heap.lt_size e) (I.ok.cab x c hfn hc)))).trans e1⟩
  ·obtain ⟨o',e1⟩:=I.base.there b o e hx
   exact ⟨o',(hs.2 b (Nat.ne_of_lt (Nat.lt_of_lt_of_le (Heap.lt_size e) (I.ok.cab x c hfn hc)))).trans e1⟩
  ·by_cases hj:j=i
   ·subst hj
    rw [hi] at e1;cases e1
    rw [List.getElem?_set_self hiσ] at e2
    cases e2
    exact ⟨u,r,.inr ⟨.inl hk,c,hc,hc'⟩⟩
   ·rw [List.getElem?_set_ne (Ne.symm hj)] at e2
    obtain ⟨u',r',q⟩:=hl j y v' e1 e2 e3
    refine ⟨u',r',?_⟩
    rcases q with q|⟨k,c',e,z'⟩
    ·exact .inl q
    ·refine .inr ⟨k,c',e,z'.sameBut hs ?_⟩
     rintro rfl
     exact hj (rV hN e1 (I.ok.inj _ _ _ e hc ▸ hi))
  ·by_cases hcc:c'=c
   ·subst hcc;exact ⟨_,hc'⟩
   ·obtain ⟨w2,z2⟩:=I.cell y c' e
    exact ⟨w2,z2.sameBut hs hcc⟩
  ·obtain ⟨e,n,ne,nf,d⟩:=I.pin p hp
   refine ⟨(hs.2 p.1 ?_).trans e,n,ne,nf,d⟩
   intro q
   rw [q,hoc] at e
   have q':oc=p.2:=Option.some.inj e
   exact d w' (by rw [←q'];exact hocd)
theorem eO {M:Model} {A:Around} {E:Value→Shared→Prop} {i:Nat} {x:Str} {v:V} {u:Value} {Q:Unit→Shared→Prop} (I:Inv X pins σ H s) (hN:X.N.Nodup) (hi:X.N[i]?=some x) (hx:Loc X.env.scope x) (r:RelV v u)
  (h:∀s',Inv X pins (σ.set i (some v)) H s'→Q () s') (hf:X.fn x=true∨X.env.scope.names.lookup x=some .local:=by first|exact .inl rfl|exact .inr rfl|assumption):wpAny M A (storeName X.env x u) Q E s :=
 oP I hN hi hx r (fun s' I' _=>h s' I') hf
theorem Inv.call' {s':Shared} {ch:List Addr} (I:Inv X pins σ H s) (ho:s'.os=s.os) (u:Un (frs X.stack) ch H H' s.heap s'.heap) (hok:HOk X.prog X.w H' s'.heap) (hg:AllBare s'.gens)
  (hch:∀b∈ch,(b∈X.ex∨X.s₀.heap.objs.size≤b)∧b≠X.env.locals∧(∀x c,X.env.cells.lookup x=some c→c≠b)∧∀p∈X.pn++pins,p.1≠b):Inv X pins σ H' s':=by
 obtain ⟨h',g',d',t',o'⟩:=s'
 have e:o'=s.os:=ho
 subst e
 exact I.call (g':=g') (t':=t') (d':=d') u hok hg hch
end
noncomputable abbrev XK:=Value→Option Addr→Hp→Prop
noncomputable abbrev St:=List (Option V)
noncomputable abbrev VK:=V→Hp→Prop
noncomputable abbrev TE:=St→Hp→VK→Prop
noncomputable abbrev TT:=St→Hp→(Bool→Hp→Prop)→Prop
noncomputable abbrev TA:=St→Hp→(List V→Hp→Prop)→Prop
structure Ends where
 nx:St→Hp→Prop
 rt:VK
 bk:St→Hp→Prop:=fun _ _=>False
 ct:St→Hp→Prop:=fun _ _=>False
noncomputable abbrev TS:=Ends→St→Hp→Prop
noncomputable def EP (X:Cx) (pins:List (Addr × Obj)) (σ:St) (Q:VK) (u:Value) (s':Shared):Prop:=∃v H',Inv X pins σ H' s'∧RelV v u∧Q v H'
noncomputable def TP (X:Cx) (pins:List (Addr × Obj)) (σ:St) (Q:Bool→Hp→Prop) (b:Bool) (s':Shared):Prop:=∃H',Inv X pins σ H' s'∧Q b H'
noncomputable def AP (X:Cx) (pins:List (Addr × Obj)) (σ:St) (Q:List V→Hp→Prop) (us:List Value) (s':Shared):Prop:=∃vs H',Inv X pins σ H' s'∧Vals vs us∧Q vs H'
noncomputable def SP (X:Cx) (pins:List (Addr × Obj)) (D:Ends) (f:Flow) (s':Shared):Prop :=
 match f with
 | .next=>∃σ' H',Inv X pins σ' H' s'∧D.nx σ' H'
 | .brk=>∃σ' H',Inv X pins σ' H' s'∧D.bk σ' H'
 | .cont=>∃σ' H',Inv X pins σ' H' s'∧D.ct σ' H'
 | .ret u=>∃v σ' H',Inv X pins σ' H' s'∧RelV v u∧D.rt v H'
noncomputable def PE (X:Cx) (e:Expr) (t:TE):Prop :=
 ∀(pins:List (Addr × Obj)) (s:Shared) (σ:St) (H:Hp) (Q:VK),Inv X pins σ H s→t σ H Q→wpAny (model X.prog X.w) X.A (eval e X.env) (EP X pins σ Q) X.xe s
noncomputable def PT (X:Cx) (e:Expr) (t:TT):Prop :=
 ∀(pins:List (Addr × Obj)) (s:Shared) (σ:St) (H:Hp) (Q:Bool→Hp→Prop),Inv X pins σ H s→t σ H Q→wpAny (model X.prog X.w) X.A (isTrue e X.env (eval e X.env)) (TP X pins σ Q) X.xe s
noncomputable def PW (X:Cx) (e:Expr) (t:TT):Prop :=
 ∀(whole:Sem Value) (pins:List (Addr × Obj)) (s:Shared) (σ:St) (H:Hp) (Q:Bool→Hp→Prop),Inv X pins σ H s→t σ H Q→wpAny (model X.prog X.w) X.A (isTrue e X.env whole) (TP X pins σ Q) X.xe s
theorem PW.pt {X:Cx} {e:Expr} {t:TT} (h:PW X e t):PT X e t:=h _
noncomputable def PA (X:Cx) (es:List Expr) (t:TA):Prop :=
 ∀(pos:Pos) (pins:List (Addr × Obj)) (s:Shared) (σ:St) (H:Hp) (Q:List V→Hp→Prop),Inv X pins σ H s→t σ H Q→wpAny (model X.prog X.w) X.A (spliced (backTo pos (starEach es X.env))) (AP X pins σ Q) X.xe s
noncomputable def PS (X:Cx) (st:Stmt) (t:TS):Prop :=
 ∀(pins:List (Addr × Obj)) (s:Shared) (σ:St) (H:Hp) (D:Ends),Inv X pins σ H s→t D σ H→wpAny (model X.prog X.w) X.A (exec st X.env) (SP X pins D) X.xe s
noncomputable def PSs (X:Cx) (st:List Stmt) (t:TS):Prop :=
 ∀(pins:List (Addr × Obj)) (s:Shared) (σ:St) (H:Hp) (D:Ends),Inv X pins σ H s→t D σ H→wpAny (model X.prog X.w) X.A (execs st X.env) (SP X pins D) X.xe s
theorem thn {α:Type} {t:Sem α} {Q Q':α→Shared→Prop} {M:Model} {A:Around} {E:Value→Shared→Prop} {s:Shared} (h:wpAny M A t Q E s) (hQ:∀a s,Q a s→Q' a s):wpAny M A t Q' E s:=wpAny_mono h hQ fun _ _ x=>x
end L2
namespace L2
open PySem PySem.Spec PyProof.Rows
section
variable {X:Cx}
noncomputable def Il (i:Nat):TE:=fun σ H Q=>∃v,σ[i]?=some (some v)∧Q v H
noncomputable def tC (v:V):TE:=fun _ H Q=>Q v H
theorem ye {i:Nat} {x:Str} {pos:Pos} (hN:X.N[i]?=some x) (hv:Vis X.env.scope x) (hd:(x == ("__debug__":Str))=false:=by decide) (hcd:(x == ("__classdict__":Str))=false:=by decide):PE X (.Name x pos) (Il i):=by
 intro pins s σ H Q I h
 obtain ⟨v,e,h⟩:=h
 obtain ⟨m,hn,hl⟩:=I.loc
 obtain ⟨u,r,l⟩:=hl i x v hN e hv
 have fin:EP X pins σ Q u s:=⟨v,H,I,r,h⟩
 rcases l with ⟨hk,hm⟩|⟨hk,c,hc,hcell⟩
 ·exact wpAny_Name (wpAny_loadName_local I.ok.kind hk hn hm fin) hd
 ·rcases hk with hk|hk
  ·exact wpAny_Name (wpAny_loadName_cell I.ok.kind hk hc hcell fin) hd
  ·exact wpAny_Name (wpAny_loadName_free I.ok.kind hk hc hcell fin hcd) hd
theorem Gu {i j pos}:PE X (.Constant (.int i) j pos) (tC (.int i)):=fun _ _ _ H _ I h=>wpAny_Constant_int ⟨.int i,H,I.tok _,⟨_,rfl⟩,h⟩
theorem GF {b j pos}:PE X (.Constant (.bool b) j pos) (tC (.bl b)):=fun _ _ _ H _ I h=>Constant_bool ⟨.bl b,H,I,rfl,h⟩
theorem Gz {j pos}:PE X (.Constant .none j pos) (tC .non):=fun _ _ _ H _ I h=>Constant_none ⟨.non,H,I,rfl,h⟩
theorem D4 {x j pos}:PE X (.Constant (.str x) j pos) (tC (.str x)):=fun _ _ _ H _ I h=>Calls.Constant_str ⟨.str x,H,I.tok _,⟨_,rfl⟩,h⟩
noncomputable def Gl (X:Cx) (x:Str):Prop:=X.env.kindOf x=some .globalImplicit
theorem lJ {E:Value→Shared→Prop} {pins:List (Addr × Obj)} {s:Shared} {σ:St} {H:Hp} {x:Str} {u:Value} {pos:Pos} {Q:Value→Shared→Prop} (I:Inv X pins σ H s) (hg:Gl X x) (hm:X.mg x=some u) (h:Q u s)
  (hd:(x == ("__debug__":Str))=false:=by decide):wpAny (model X.prog X.w) X.A (eval (.Name x pos) X.env) Q E s :=
 Calls.Name_function_global I.ok.kind hg (Calls.loadGlobal_global (by rw [I.ok.glob];exact I.mod.glob.keeps I.bk) hm h) hd
theorem ji {E:Value→Shared→Prop} {pins:List (Addr × Obj)} {s:Shared} {σ:St} {H:Hp} {x:Str} {u:Value} {pos:Pos} {Q:Value→Shared→Prop} (I:Inv X pins σ H s) (hg:Gl X x) (hm:X.mg x=none) (hv:bootBuiltins x=some u) (h:Q u s)
  (hn:x≠"__name__":=by decide) (hd:(x == ("__debug__":Str))=false:=by decide):wpAny (model X.prog X.w) X.A (eval (.Name x pos) X.env) Q E s:=by
 obtain ⟨mb,h1,h2⟩:=I.mod.blt
 exact Calls.Name_function_global I.ok.kind hg (Calls.loadGlobal_builtin (by rw [I.ok.glob];exact I.mod.glob.keeps I.bk) hm (by rw [I.ok.blt];exact h1.keeps I.bk) ((h2 x hn).trans hv) h) hd
theorem Cm {x:Str} {v:V} {u:Value} {pos:Pos} (hg:Gl X x) (hm:X.mg x=some u) (r:RelV v u) (hd:(x == ("__debug__":Str))=false:=by decide):PE X (.Name x pos) (tC v) :=
 fun _ _ _ H _ I h=>lJ I hg hm ⟨v,H,I,r,h⟩ hd
theorem Cv {x:Str} {v:V} {u:Value} {pos:Pos} (hg:Gl X x) (hm:X.mg x=none) (hv:bootBuiltins x=some u) (r:RelV v u) (hn:x≠"__name__":=by decide) (hd:(x == ("__debug__":Str))=false:=by decide):PE X (.Name x pos) (tC v) :=
 fun _ _ _ H _ I h=>ji I hg hm hv ⟨v,H,I,r,h⟩ hn hd
variable {a b:Expr} {ta tb:TE} {pos:Pos}
variable {tA tB':TT} {rest:List Expr}
noncomputable def GJ (t u:TT):TT:=fun σ H Q=>t σ H fun c H1=>if c=true then u σ H1 Q else Q false H1
noncomputable def tOr (t u:TT):TT:=fun σ H Q=>t σ H fun c H1=>if c=true then Q true H1 else u σ H1 Q
noncomputable def HW (t:TT):TT:=fun σ H Q=>t σ H fun c H1=>Q (!c) H1
theorem Ca (ha:PT X a tA):PW X (.BoolOp .And [a] pos) tA:=by
 intro wh pins s σ H Q I h
 refine isTrue_and (thn (ha pins s σ H Q I h) fun c s1 e=>?_)
 cases c with
 | true=>exact isTrue_and_nil e
 | false=>exact e
theorem F7 (ha:PT X a tA):PW X (.BoolOp .Or [a] pos) tA:=by
 intro wh pins s σ H Q I h
 refine isTrue_or (thn (ha pins s σ H Q I h) fun c s1 e=>?_)
 cases c with
 | false=>exact isTrue_or_nil e
 | true=>exact e
theorem FV (ha:PT X a tA) (hb:PW X (.BoolOp .And (b::rest) pos) tB'):PW X (.BoolOp .And (a::b::rest) pos) (GJ tA tB'):=by
 intro wh pins s σ H Q I h
 refine isTrue_and (thn (ha pins s σ H _ I h) fun c s1 ⟨H1,I1,q1⟩=>?_)
 cases c with
 | true=>exact hb wh pins s1 σ H1 Q I1 q1
 | false=>exact ⟨H1,I1,q1⟩
theorem Ho (ha:PT X a tA) (hb:PW X (.BoolOp .Or (b::rest) pos) tB'):PW X (.BoolOp .Or (a::b::rest) pos) (tOr tA tB'):=by
 intro wh pins s σ H Q I h
 refine isTrue_or (thn (ha pins s σ H _ I h) fun c s1 ⟨H1,I1,q1⟩=>?_)
 cases c with
 | true=>exact ⟨H1,I1,q1⟩
 | false=>exact hb wh pins s1 σ H1 Q I1 q1
theorem F8 (ha:PT X a tA):PT X (.UnaryOp .Not a pos) (HW tA):=by
 intro pins s σ H Q I h
 exact isTrue_not (ha pins s σ H (fun c H1=>Q (!c) H1) I h)
noncomputable def HI (ta tb:TE):TE:=fun σ H Q=>ta σ H fun x H1=>∃c,x=.bl c∧if c=true then tb σ H1 Q else Q (.bl false) H1
noncomputable def IB (ta tb:TE):TE:=fun σ H Q=>ta σ H fun x H1=>∃c,x=.bl c∧if c=true then Q (.bl true) H1 else tb σ H1 Q
noncomputable def Hb (ta:TE):TE:=fun σ H Q=>ta σ H fun x H1=>∃c,x=.bl c∧Q (.bl (!c)) H1
theorem AZ {op} {t:TE} (h:PE X a t):PE X (.BoolOp op [a] pos) t:=fun pins s σ H Q I hw=>BoolOp_one (h pins s σ H Q I hw)
theorem Et (ha:PE X a ta) (hb:PE X (.BoolOp .And (b::rest) pos) tb):PE X (.BoolOp .And (a::b::rest) pos) (HI ta tb):=by
 intro pins s σ H Q I h
 refine BoolOp_and (thn (ha pins s σ H _ I h) fun v s1 ⟨x,H1,I1,r1,q1⟩=>?_)
 obtain ⟨c,rfl,q1⟩:=q1
 cases r1
 refine wpAny_truthy_bool ?_
 cases c with
 | true=>exact hb pins s1 σ H1 Q I1 q1
 | false=>exact ⟨.bl false,H1,I1,rfl,q1⟩
theorem HE (ha:PE X a ta) (hb:PE X (.BoolOp .Or (b::rest) pos) tb):PE X (.BoolOp .Or (a::b::rest) pos) (IB ta tb):=by
 intro pins s σ H Q I h
 refine BoolOp_or (thn (ha pins s σ H _ I h) fun v s1 ⟨x,H1,I1,r1,q1⟩=>?_)
 obtain ⟨c,rfl,q1⟩:=q1
 cases r1
 refine wpAny_truthy_bool ?_
 cases c with
 | false=>exact hb pins s1 σ H1 Q I1 q1
 | true=>exact ⟨.bl true,H1,I1,rfl,q1⟩
theorem Fl (ha:PE X a ta):PE X (.UnaryOp .Not a pos) (Hb ta):=by
 intro pins s σ H Q I h
 refine UnaryOp_ (thn (ha pins s σ H _ I h) fun v s1 ⟨x,H1,I1,r1,q1⟩=>?_)
 obtain ⟨c,rfl,q1⟩:=q1
 cases r1
 exact not_of (wpAny_truthy_bool ⟨.bl (!c),H1,I1,rfl,q1⟩)
noncomputable def tIf (t:TT) (ta tb:TE):TE:=fun σ H Q=>t σ H fun c H1=>if c=true then ta σ H1 Q else tb σ H1 Q
theorem zO {c:Expr} (hc:PT X c tA) (ha:PE X a ta) (hb:PE X b tb):PE X (.IfExp c a b pos) (tIf tA ta tb):=by
 intro pins s σ H Q I h
 refine wpAny_IfExp (thn (hc pins s σ H _ I h) fun d s1 ⟨H1,I1,q1⟩=>?_)
 cases d with
 | true=>exact ha pins s1 σ H1 Q I1 q1
 | false=>exact hb pins s1 σ H1 Q I1 q1
end
end L2
namespace L2
open PySem PySem.Spec PyProof.Rows
noncomputable def SqL (K:PySem.W.Frag) (H:Hp) (a:Addr) (xs:List V):Prop :=
 Rd H a (.lst xs) ∨
  ∃(o:Obj) (its:Array Value) (n:Nat),K.lookup a=some o∧o.cls=.type "list"∧o.dict=none∧o.data=.seq its n∧its.size≤sizeLine∧Vals xs its.toList
noncomputable def SqT (K:PySem.W.Frag) (H:Hp) (a:Addr) (xs:List V):Prop :=
 Rd H a (.tup xs) ∨
  ∃(o:Obj) (its:Array Value) (n:Nat),K.lookup a=some o∧o.cls=.type "tuple"∧o.data=.seq its n∧its.size≤sizeLine∧Vals xs its.toList
noncomputable def Ih:Value→Option V
 | .none=>some .non
 | .bool b=>some (.bl b)
 | .int i _=>some (.int i)
 | .str x _=>some (.str x)
 | .bytes b _=>some (.byt b)
 | .float b _=>some (.flt b)
 | .ref a=>some (.ref a)
 | .type n=>some (.ty n)
 | _=>none
theorem RelV.abs {x:V} {u:Value} (r:RelV x u):Ih u=some x:=by
 cases x with
 | non=>cases r;rfl
 | bl _=>cases r;rfl
 | int _=>obtain ⟨t,rfl⟩:=r;rfl
 | str _=>obtain ⟨t,rfl⟩:=r;rfl
 | byt _=>obtain ⟨t,rfl⟩:=r;rfl
 | flt _=>obtain ⟨t,rfl⟩:=r;rfl
 | ref _=>cases r;rfl
 | ty _=>cases r;rfl
theorem RelV.inj {x y:V} {u:Value} (r:RelV x u) (q:RelV y u):x=y:=Option.some.inj (r.abs.symm.trans q.abs)
theorem Vals.inj:∀ {xs ys:List V} {us:List Value},Vals xs us→Vals ys us→xs=ys
 | _,_,_,.nil,.nil=>rfl
 | _,_,_,.cons r t,.cons r' t'=>by rw [r.inj r',Vals.inj t t']
section
variable {X:Cx} {pins:List (Addr × Obj)} {σ:St} {H:Hp} {s:Shared} {a:Addr} {xs ys:List V}
theorem SqL.of {K:PySem.W.Frag} (h:H a=some (.lst xs)):SqL K H a xs:=.inl (.inl h)
theorem SqT.of {K:PySem.W.Frag} (h:H a=some (.tup xs)):SqT K H a xs:=.inl (.inl h)
theorem Inv.list (I:Inv X pins σ H s) (h:SqL X.K H a xs):∃its:List Value,Vals xs its∧PlainL s.heap a its.toArray∧xs.length≤sizeLine:=by
 rcases h with h|⟨o,its,n,hk,hc,hd,hs,hz,r⟩
 ·obtain ⟨z,its,n,r,e⟩:=h.ok I.hok
  exact ⟨its,r,⟨_,n,e,rfl,rfl,rfl⟩,z⟩
 ·refine ⟨its.toList,r,⟨o,n,I.kIn a o hk,hc,hd,by simpa using hs⟩,?_⟩
  have e:=r.length
  simp only [Array.length_toList] at e
  omega
theorem Inv.tuple (I:Inv X pins σ H s) (h:SqT X.K H a xs):∃its:List Value,Vals xs its∧IsTup s.heap a its.toArray∧xs.length≤sizeLine:=by
 rcases h with h|⟨o,its,n,hk,hc,hs,hz,r⟩
 ·obtain ⟨z,its,r,p⟩:=h.ok I.hok
  exact ⟨its,r,p,z⟩
 ·refine ⟨its.toList,r,⟨o,I.kIn a o hk,hc,n,by simpa using hs⟩,?_⟩
  have e:=r.length
  simp only [Array.length_toList] at e
  omega
theorem Inv.list_inj (I:Inv X pins σ H s) (h:SqL X.K H a xs) (h':SqL X.K H a ys):xs=ys:=by
 obtain ⟨its,r,⟨o,n,e,_,_,d⟩,_⟩:=I.list h
 obtain ⟨its',r',⟨o',n',e',_,_,d'⟩,_⟩:=I.list h'
 rw [e] at e';cases e'
 rw [d] at d'
 injection d' with d1 _
 have:its=its':=by simpa using congrArg Array.toList d1
 subst this
 exact r.inj r'
theorem Inv.tuple_inj (I:Inv X pins σ H s) (h:SqT X.K H a xs) (h':SqT X.K H a ys):xs=ys:=by
 obtain ⟨its,r,⟨o,e,_,n,d⟩,_⟩:=I.tuple h
 obtain ⟨its',r',⟨o',e',_,n',d'⟩,_⟩:=I.tuple h'
 rw [e] at e';cases e'
 rw [d] at d'
 injection d' with d1 _
 have:its=its':=by simpa using congrArg Array.toList d1
 subst this
 exact r.inj r'
end
noncomputable abbrev Cx.wish (X:Cx) (E:Value→Shared→Prop):Cx:={ X with xe:=E }
noncomputable abbrev Cx.nox (X:Cx):Cx:=X.wish fun _ _=>False
theorem Cx.Ok.wish {X:Cx} (ok:X.Ok) (E:Value→Shared→Prop):(X.wish E).Ok :=
 ⟨ok.mod,ok.kind,ok.glob,ok.blt,ok.above,ok.inj,ok.has,ok.cab,ok.hd,ok.frames,ok.stk,ok.exf,ok.bs,ok.bsz,ok.noex,ok.exfs,ok.funs,ok.frf⟩
theorem Cx.Ok.unwish {X:Cx} {E:Value→Shared→Prop} (ok:(X.wish E).Ok):X.Ok :=
 ⟨ok.mod,ok.kind,ok.glob,ok.blt,ok.above,ok.inj,ok.has,ok.cab,ok.hd,ok.frames,ok.stk,ok.exf,ok.bs,ok.bsz,ok.noex,ok.exfs,ok.funs,ok.frf⟩
section
variable {X:Cx} {pins:List (Addr × Obj)} {σ:St} {H:Hp} {s:Shared} {E:Value→Shared→Prop}
theorem Inv.wish (I:Inv X pins σ H s) (E:Value→Shared→Prop):Inv (X.wish E) pins σ H s:=⟨I.ok.wish E,I.os,I.bare,I.base,I.loc,I.cell,I.free,I.freeC,I.pin,I.hok,I.len⟩
theorem Inv.unwish (I:Inv (X.wish E) pins σ H s):Inv X pins σ H s:=⟨I.ok.unwish,I.os,I.bare,I.base,I.loc,I.cell,I.free,I.freeC,I.pin,I.hok,I.len⟩
theorem SP.unwish {D:Ends} {f:Flow} {s':Shared} (h:SP (X.wish E) pins D f s'):SP X pins D f s':=by
 cases f with
 | next=>obtain ⟨σ',H',I,q⟩:=h;exact ⟨σ',H',I.unwish,q⟩
 | brk=>obtain ⟨σ',H',I,q⟩:=h;exact ⟨σ',H',I.unwish,q⟩
 | cont=>obtain ⟨σ',H',I,q⟩:=h;exact ⟨σ',H',I.unwish,q⟩
 | ret u=>obtain ⟨v,σ',H',I,r,q⟩:=h;exact ⟨v,σ',H',I.unwish,r,q⟩
theorem PE.nox {e:Expr} {t:TE} (h:PE X.nox e t):PE X e t:=fun pins s σ H Q I hw =>
 wpAny_mono (h pins s σ H Q (I.wish _) hw) (fun _ _ ⟨v,H',I',r,q⟩=>⟨v,H',I'.unwish,r,q⟩) fun _ _ z=>False.elim z
theorem PSs.nox {st:List Stmt} {t:TS} (h:PSs X.nox st t):PSs X st t:=fun pins s σ H D I hw =>
 wpAny_mono (h pins s σ H D (I.wish _) hw) (fun _ _ q=>q.unwish) fun _ _ z=>False.elim z
end
section
variable {X:Cx} {st:Stmt} {rest:List Stmt} {t u:TS} {e:Expr} {te:TE} {pos:Pos}
noncomputable def DK:TS:=fun D σ H=>D.nx σ H
noncomputable def Ic (t u:TS):TS:=fun D σ H=>t { D with nx:=u D } σ H
theorem CC:PSs X [] DK:=fun _ _ σ H _ I h=>wpAny_execs_nil ⟨σ,H,I,h⟩
theorem BB (h1:PS X st t) (h2:PSs X rest u):PSs X (st::rest) (Ic t u):=by
 intro pins s σ H D I h
 refine wpAny_execs_cons (thn (h1 pins s σ H { D with nx:=u D } I h) fun f s1 q=>?_)
 cases f with
 | next =>
  obtain ⟨σ',H',I',q⟩:=q
  exact h2 pins s1 σ' H' D I' q
 | ret v=>exact q
 | brk=>exact q
 | cont=>exact q
noncomputable def D6:TS:=fun D σ H=>D.bk σ H
noncomputable def Hi:TS:=fun D σ H=>D.ct σ H
theorem B9:PS X (.Pass pos) DK:=fun _ _ σ H _ I h=>wpAny_Pass ⟨σ,H,I,h⟩
theorem AQ:PS X (.Break pos) D6:=fun _ _ σ H _ I h=>wpAny_Break ⟨σ,H,I,h⟩
theorem rW:PS X (.Continue pos) Hi:=fun _ _ σ H _ I h=>wpAny_Continue ⟨σ,H,I,h⟩
theorem Inv.quiet {pins:List (Addr × Obj)} {σ:St} {H:Hp} {s:Shared} (I:Inv X pins σ H s):interactive X.env=false:=by simp [interactive,I.ok.kind]
noncomputable def GW (te:TE):TS:=fun D σ H=>te σ H fun _ H1=>D.nx σ H1
theorem CV (he:PE X e te) (hs:swapsWith e none pos.line X.env=pure false:=by rfl):PS X (.Expr e pos) (GW te):=by
 intro pins s σ H D I h
 exact wpAny_Expr_any (thn (he pins s σ H _ I h) fun v s1 ⟨x,H1,I1,r1,q1⟩=>⟨σ,H1,I1,q1⟩) I.quiet hs
noncomputable def Ii (te:TE):TS:=fun D σ H=>te σ H D.rt
theorem FO (he:PE X e te):PS X (.Return (some e) pos) (Ii te):=by
 intro pins s σ H D I h
 exact wpAny_Return_some (thn (he pins s σ H _ I h) fun v s1 ⟨x,H1,I1,r1,q1⟩=>⟨x,σ,H1,I1,r1,q1⟩)
noncomputable def HF:TS:=fun D _ H=>D.rt .non H
theorem Dz:PS X (.Return none pos) HF:=fun _ _ σ H _ I h=>wpAny_Return_none ⟨.non,σ,H,I,rfl,h⟩
noncomputable def Ib (c:TT) (t u:TS):TS:=fun D σ H=>c σ H fun b H1=>if b=true then t D σ H1 else u D σ H1
theorem HS {c:Expr} {a b:List Stmt} {tc:TT} (hc:PT X c tc) (ha:PSs X a t) (hb:PSs X b u):PS X (.If c a b pos) (Ib tc t u):=by
 intro pins s σ H D I h
 refine wpAny_If (thn (hc pins s σ H _ I h) fun d s1 ⟨H1,I1,q1⟩=>?_)
 cases d with
 | true=>exact ha pins s1 σ H1 D I1 q1
 | false=>exact hb pins s1 σ H1 D I1 q1
end
noncomputable abbrev TG:=V→St→Hp→(St→Hp→Prop)→Prop
noncomputable abbrev TGs:=List V→St→Hp→(St→Hp→Prop)→Prop
noncomputable def PG (X:Cx) (target:Expr) (t:TG):Prop :=
 ∀(pins:List (Addr × Obj)) (s:Shared) (σ:St) (H:Hp) (v:V) (u:Value) (Q:St→Hp→Prop),Inv X pins σ H s→RelV v u→t v σ H Q →
  wpAny (model X.prog X.w) X.A (assign target X.env u) (fun _ s'=>∃σ' H',Inv X pins σ' H' s'∧Q σ' H') X.xe s
noncomputable def PGs (X:Cx) (ts:List Expr) (t:TGs):Prop :=
 ∀(pins:List (Addr × Obj)) (s:Shared) (σ:St) (H:Hp) (vs:List V) (us:List Value) (Q:St→Hp→Prop),Inv X pins σ H s→Vals vs us→t vs σ H Q →
  wpAny (model X.prog X.w) X.A (assignInOrder ((assignEach ts X.env).map (·.2)) us) (fun _ s'=>∃σ' H',Inv X pins σ' H' s'∧Q σ' H') X.xe s
noncomputable abbrev Ey:=V→V→V→Hp→(Hp→Prop)→Prop
noncomputable def Gd (X:Cx) (t:Ey):Prop :=
 ∀(pins:List (Addr × Obj)) (s:Shared) (σ:St) (H:Hp) (o i v:V) (ov iv u:Value) (Q:Hp→Prop),Inv X pins σ H s→RelV o ov→RelV i iv→RelV v u→t o i v H Q →
  wpAny (model X.prog X.w) X.A (setItem ov iv u) (fun _ s'=>∃H',Inv X pins σ H' s'∧Q H') X.xe s
noncomputable abbrev TIp:=V→V→Hp→VK→Prop
noncomputable def PIp (X:Cx) (op:Operator) (t:TIp):Prop :=
 ∀(pins:List (Addr × Obj)) (s:Shared) (σ:St) (H:Hp) (x y:V) (v u:Value) (Q:VK),Inv X pins σ H s→RelV x v→RelV y u→t x y H Q →
  wpAny (model X.prog X.w) X.A (inplaceOp op v u) (EP X pins σ Q) X.xe s
section
variable {X:Cx} {pos:Pos}
noncomputable def D0 (i:Nat):TG:=fun v σ H Q=>Q (σ.set i (some v)) H
theorem Cb {i:Nat} {x:Str} (hN:X.N.Nodup) (hi:X.N[i]?=some x) (hx:Loc X.env.scope x) (hf:X.fn x=true∨X.env.scope.names.lookup x=some .local:=by first|exact .inl rfl|exact .inr rfl|assumption):PG X (.Name x pos) (D0 i):=by
 intro pins s σ H v u Q I r h
 exact wpAny_assign_Name (eO I hN hi hx r (fun s' I'=>⟨_,H,I',h⟩) hf)
noncomputable def IE:TGs:=fun vs σ H Q=>vs=[]∧Q σ H
noncomputable def HD (t:TG) (u:TGs):TGs:=fun vs σ H Q=>∃v r,vs=v::r∧t v σ H fun σ' H'=>u r σ' H' Q
theorem C0:PGs X [] IE:=by
 intro pins s σ H vs us Q I r h
 obtain ⟨e,h⟩:=h
 subst e
 cases r
 exact assignInOrder_nil ⟨σ,H,I,h⟩
theorem Bl {e:Expr} {es:List Expr} {t:TG} {u:TGs} (h1:PG X e t) (h2:PGs X es u)
  (hs:(assignEach (e::es) X.env).map (·.2)=assign e X.env::(assignEach es X.env).map (·.2):=by rfl):PGs X (e::es) (HD t u):=by
 intro pins s σ H vs us Q I r h
 obtain ⟨v,vr,e1,h⟩:=h
 subst e1
 cases r with
 | cons r rr =>
  rw [hs]
  refine assignInOrder_cons (thn (h1 pins s σ H _ _ _ I r h) fun _ s1 ⟨σ1,H1,I1,q1⟩=>?_)
  exact h2 pins s1 σ1 H1 _ _ Q I1 rr q1
noncomputable def Ip (K:PySem.W.Frag) (n:Nat) (t:TGs):TG:=fun v σ H Q=>∃a xs,v=.ref a∧SqT K H a xs∧xs.length=n∧t xs σ H Q
theorem FA {es:List Expr} {k:Nat} {t:TGs} {n:Nat} (hc:X.calm=true) (h:PGs X es t)
  (hn:(assignEach es X.env).length=n:=by rfl) (hst:(assignEach es X.env).findIdx? (·.1)=none:=by rfl):PG X (.Tuple es k pos) (Ip X.K n t):=by
 intro pins s σ H v u Q I r hw
 obtain ⟨a,xs,e1,hq,hl,hw⟩:=hw
 subst e1
 cases r
 obtain ⟨its,rv,ht,hz⟩:=I.tuple hq
 refine assign_Tuple_tuple (I.ok.hd hc) ht (by simp [hn,←hl,rv.length]) hst fun h' hx=>?_
 have I1:Inv X pins σ H { s with heap:=h' }:=I.kept (t':=s.toks) fun b o e=>hx b o (Nat.ne_of_lt (Heap.lt_size e)) e
 exact h pins _ σ H xs _ Q I1 (by simpa using rv) hw
noncomputable def Ij (to ti:TE) (t:Ey):TG:=fun v σ H Q=>to σ H fun o H1=>ti σ H1 fun i H2=>t o i v H2 fun H3=>Q σ H3
theorem F2 {o i:Expr} {to ti:TE} {t:Ey} (ho:PE X o to) (hi:PE X i ti) (hs:Gd X t)
  (ha:∀v,assign (.Subscript o i pos) X.env v=(do
   let ov ←holding [v] (eval o X.env)
   let iv ←holding [v,ov] (eval i X.env)
   standAt pos
   holding [v,ov,iv] (setItem ov iv v)
   release [v,ov,iv] []):=by intro _;rfl):PG X (.Subscript o i pos) (Ij to ti t):=by
 intro pins s σ H v u Q I r h
 rw [ha]
 refine wpAny_bind (wpAny_holding (thn (ho pins s σ H _ I h) fun ov s1 ⟨x,H1,I1,r1,q1⟩=>?_))
 refine wpAny_bind (wpAny_holding (thn (hi pins s1 σ H1 _ I1 q1) fun iv s2 ⟨y,H2,I2,r2,q2⟩=>?_))
 refine wpAny_bind (wpAny_standAt (wpAny_bind (wpAny_holding (thn (hs pins s2 σ H2 x y v ov iv u _ I2 r1 r2 r q2) fun _ s3 ⟨H3,I3,q3⟩=>?_))))
 exact wpAny_release ⟨σ,H3,I3,q3⟩
noncomputable def Dv (te:TE) (g:TG):TS:=fun D σ H=>te σ H fun x H1=>g x σ H1 D.nx
theorem lL {tg e:Expr} {te:TE} {g:TG} (he:PE X e te) (hg:PG X tg g) (hs:swapsWithSole [tg] e pos.line X.env=pure false:=by rfl) (hw:swappedStores [tg] e X.env=pure none:=by rfl)
  (h1:(assignEach [tg] X.env).map (·.2)=[assign tg X.env]:=by rfl):PS X (.Assign [tg] e pos) (Dv te g):=by
 intro pins s σ H D I h
 refine wpAny_Assign_stores (thn (he pins s σ H _ I h) fun v s1 ⟨x,H1,I1,r1,q1⟩=>?_) hs hw
 rw [h1]
 exact thn (hg pins s1 σ H1 x v _ I1 r1 q1) fun _ s2 q=>q
theorem yh {i:Nat} {x:Str} {e:Expr} {te:TE} {pos':Pos} (hN:X.N.Nodup) (hi:X.N[i]?=some x) (hx:Loc X.env.scope x) (he:PE X e te) (hs:swapsWith e (some (.Name x pos')) pos.line X.env=pure false:=by rfl) (hf:X.fn x=true∨X.env.scope.names.lookup x=some .local:=by first|exact .inl rfl|exact .inr rfl|assumption) :
  PS X (.Assign [.Name x pos'] e pos) (Dv te (D0 i)):=by
 intro pins s σ H D I h
 refine wpAny_Assign_Name (thn (he pins s σ H _ I h) fun v s1 ⟨y,H1,I1,r1,q1⟩=>?_) hs
 exact eO I1 hN hi hx r1 (fun s2 I2=>⟨_,H1,I2,q1⟩) hf
noncomputable def IH (i j:Nat) (ta:TA):TS:=fun D σ H=>ta σ H fun vs H1=>∃v w,vs=[v,w]∧D.nx ((σ.set i (some v)).set j (some w)) H1
theorem Gv {i j:Nat} {x y:Str} {a b:Expr} {ta:TA} {px py pt:Pos} {kt k2 pt2} (hc:X.calm=true) (hN:X.N.Nodup) (hi:X.N[i]?=some x) (hj:X.N[j]?=some y) (hij:i≠j)
  (hx:X.env.scope.names.lookup x=some .local) (hy:X.env.scope.names.lookup y=some .local) (ha:PA X [a,b] ta)
  (hw:swappedStores [.Tuple [.Name x px,.Name y py] kt pt] (.Tuple [a,b] k2 pt2) X.env=pure (some [x,y]))
  (hs:swapsWithSole [.Tuple [.Name x px,.Name y py] kt pt] (.Tuple [a,b] k2 pt2) pos.line X.env=pure false:=by rfl) :
  PS X (.Assign [.Tuple [.Name x px,.Name y py] kt pt] (.Tuple [a,b] k2 pt2) pos) (IH i j ta):=by
 intro pins s σ H D I h
 rw [exec_Assign_arm]
 refine wpAny_bind (wpAny_standAt ?_)
 rw [hs]
 refine wpAny_bind (wpAny_pure ?_)
 rw [if_neg (by decide)]
 refine wpAny_bind (Tuple_ (thn (ha _ pins s σ H _ I h) fun us s1 ⟨vs,H1,I1,r1,q1⟩=>?_))
 obtain ⟨v,w,e1,q1⟩:=q1
 subst e1
 obtain ⟨u1,u2,rfl,rv,rw'⟩:∃u1 u2,us=[u1,u2]∧RelV v u1∧RelV w u2:=by
  cases r1 with
  | cons p q =>
   cases q with
   | cons p' q' =>
    cases q'
    exact ⟨_,_,rfl,p,p'⟩
 refine wpAny_newObj_type ?_ (by show 2≤sizeLine;decide)
 have I2:Inv X pins σ H1 { s1 with heap:=s1.heap.push { cls:=.type "tuple",data:=.seq [u1,u2].toArray } }:=I1.kept (t':=s1.toks) fun b o e=>Heap.get?_push_of_some _ e
 rw [hw]
 refine wpAny_bind (wpAny_pure ?_)
 show wpAny (model X.prog X.w) X.A (do rule "assign.swapped-stores";let items ←unpackItems (.ref s1.heap.objs.size) 2 none;assignInOrder [fun v=>bindName X.env y v,fun v=>bindName X.env x v] items.reverse;pure Flow.next) _ _ _
 refine wpAny_bind (wpAny_rule (wpAny_bind (unpackItems_tuple (items:=#[u1,u2]) (I.ok.hd hc) (IsTup.new s1.heap _) fun h' hx'=>?_)))
 have I3:=I2.kept (h':=h') (t':=s1.toks) fun b o e=>hx' b o (Nat.ne_of_lt (Heap.lt_size e)) e
 show wpAny _ _ (assignInOrder [fun v=>bindName X.env y v,fun v=>bindName X.env x v] [u2,u1] >>= fun _=>pure Flow.next) _ _ _
 refine wpAny_bind (assignInOrder_cons (wpAny_bindName (eO I3 hN hj (.inl hy) rw' (fun s2 I4=>?_) (.inr hy))))
 refine assignInOrder_cons (wpAny_bindName (eO I4 hN hi (.inl hx) rv (fun s3 I5=>assignInOrder_nil (wpAny_pure ?_)) (.inr hx)))
 rw [List.set_comm _ _ (Ne.symm hij)] at I5
 exact ⟨_,H1,I5,q1⟩
noncomputable def Id (i:Nat) (te:TE) (ti:TIp):TS:=fun D σ H=>∃x,σ[i]?=some (some x)∧te σ H fun y H1=>ti x y H1 fun z H2=>D.nx (σ.set i (some z)) H2
theorem Fo {i:Nat} {x:Str} {e:Expr} {te:TE} {op:Operator} {ti:TIp} {pos':Pos} (hN:X.N.Nodup) (hi:X.N[i]?=some x) (hx:Loc X.env.scope x) (he:PE X e te) (ho:PIp X op ti) (hf:X.fn x=true∨X.env.scope.names.lookup x=some .local:=by first|exact .inl rfl|exact .inr rfl|assumption) :
  PS X (.AugAssign (.Name x pos') op e pos) (Id i te ti):=by
 intro pins s σ H D I h
 obtain ⟨v,e1,h⟩:=h
 obtain ⟨m,hn,hl⟩:=I.loc
 have vis:Vis X.env.scope x:=by rcases hx with k|k;exact .inl k;exact .inr (.inl k)
 obtain ⟨u,r,l⟩:=hl i x v hi e1 vis
 refine wpAny_AugAssign_Name ?_
 have go:wpAny (model X.prog X.w) X.A (eval e X.env) (fun w s₂=>wpAny (model X.prog X.w) X.A (inplaceOp op u w) (fun r s₃=>wpAny (model X.prog X.w) X.A (storeName X.env x r) (fun _=>SP X pins D .next) X.xe s₃) X.xe s₂) X.xe s:=by
  refine thn (he pins s σ H _ I h) fun w s1 ⟨y,H1,I1,r1,q1⟩=>?_
  refine thn (ho pins s1 σ H1 v y u w _ I1 r r1 q1) fun z s2 ⟨zv,H2,I2,r2,q2⟩=>?_
  exact eO I2 hN hi hx r2 (fun s3 I3=>⟨_,H2,I3,q2⟩) hf
 rcases l with ⟨hk,hm⟩|⟨hk,c,hc,hcell⟩
 ·exact wpAny_loadName_local I.ok.kind hk hn hm go
 ·rcases hk with hk|hk
  ·exact wpAny_loadName_cell I.ok.kind hk hc hcell go
  ·rcases hx with k|k
   ·have:X.env.scope.names.lookup x=some .free:=hk
    rw [k] at this;cases this
   ·have:X.env.scope.names.lookup x=some .free:=hk
    rw [k] at this;cases this
noncomputable def ipI (f:Int→Int→Int):TIp:=fun x y H Q=>∃i j,x=.int i∧y=.int j∧Q (.int (f i j)) H
theorem EH:PIp X .Add (ipI fun i j=>i+j):=by
 intro pins s σ H x y v u Q I r1 r2 h
 obtain ⟨i,j,e1,e2,q⟩:=h
 subst e1;subst e2
 obtain ⟨t,rfl⟩:=r1
 obtain ⟨t',rfl⟩:=r2
 exact iadd_int ⟨.int _,H,I.tok _,⟨_,rfl⟩,q⟩
theorem FU:PIp X .Sub (ipI fun i j=>i-j):=by
 intro pins s σ H x y v u Q I r1 r2 h
 obtain ⟨i,j,e1,e2,q⟩:=h
 subst e1;subst e2
 obtain ⟨t,rfl⟩:=r1
 obtain ⟨t',rfl⟩:=r2
 exact isub_int ⟨.int _,H,I.tok _,⟨_,rfl⟩,q⟩
end
section
variable {X:Cx} {pos:Pos}
noncomputable def By (c:TT) (tb:TS):TS:=fun D σ H=>∃W:Nat→St→Hp→Prop,(∃m,W m σ H)∧∀m σ H,W m σ H →
 c σ H fun b H1=>if b=true then ∃N:St→Hp→Prop,(∀σ' H',N σ' H'→∃m',m'<m∧W m' σ' H')∧tb { D with nx:=N,ct:=N,bk:=D.nx } σ H1 else D.nx σ H1
theorem y_ {c:Expr} {body:List Stmt} {tc:TT} {tb:TS} (hp:PassesOwn (model X.prog X.w) X.A X.env X.xe) (hc:PT X c tc) (hb:PSs X body tb):PS X (.While c body [] pos) (By tc tb):=by
 intro pins s σ H D I h
 obtain ⟨W,⟨m0,w0⟩,turn⟩:=h
 refine wpAny_While (codeAny_whileLoop (fun n s'=>∃σ' H',Inv X pins σ' H' s'∧W n σ' H') ?_ m0 ⟨σ,H,I,w0⟩)
 rintro n s1 ⟨σ1,H1,I1,w1⟩
 refine wpAny_passesOwn hp (thn (hc pins s1 σ1 H1 _ I1 (turn n σ1 H1 w1)) fun b s2 ⟨H2,I2,q2⟩=>?_)
 cases b with
 | true =>
  obtain ⟨N,hN,q2⟩:=q2
  rw [if_pos rfl]
  refine wpAny_passesOwn hp (thn (hb pins s2 σ1 H2 _ I2 q2) fun f s3 q3=>?_)
  cases f with
  | next =>
   obtain ⟨σ3,H3,I3,n3⟩:=q3
   obtain ⟨m',hm,w3⟩:=hN σ3 H3 n3
   exact ⟨m',hm,σ3,H3,I3,w3⟩
  | cont =>
   obtain ⟨σ3,H3,I3,n3⟩:=q3
   obtain ⟨m',hm,w3⟩:=hN σ3 H3 n3
   exact ⟨m',hm,σ3,H3,I3,w3⟩
  | brk=>exact q3
  | ret v=>exact q3
 | false =>
  rw [if_neg Bool.false_ne_true]
  exact wpAny_execs_nil ⟨σ1,H2,I2,q2⟩
end
structure It where
 go:Nat→Hp→Prop
 yld:Nat→Hp→V→Hp→Prop
 stop:Nat→Hp→Prop
noncomputable def lw (X:Cx) (pins:List (Addr × Obj)) (H:Hp) (b:Addr):Prop :=
 H b=none∧b≠X.env.locals∧b ∉ X.fs∧(b∈X.ex∨X.s₀.heap.objs.size≤b)∧(∀x c,X.env.cells.lookup x=some c→c≠b)∧∀p∈X.pn++pins,p.1≠b
theorem Inv.fpOk {X:Cx} {pins:List (Addr × Obj)} {σ:St} {H H':Hp} {s:Shared} {b:Addr} (I:Inv X pins σ H s) (hb:s.heap.objs.size≤b) (hn:H' b=none):lw X pins H' b:=by
 refine ⟨hn,Nat.ne_of_gt (Nat.lt_of_lt_of_le I.lt hb),I.nofs hb,.inr (Nat.le_trans I.sz hb),fun x c e z=>?_,fun p hp z=>?_⟩
 ·obtain ⟨v,q⟩:=I.cell x c e
  exact absurd (Nat.lt_of_lt_of_le q.lt (by rw [z];exact hb)) (Nat.lt_irrefl _)
 ·exact absurd (Nat.lt_of_lt_of_le (Heap.lt_size (I.pin p hp).1) (by rw [z];exact hb)) (Nat.lt_irrefl _)
structure wM (P:Program) (w:World) (K:PySem.W.Frag) (tg:Expr) (J:It) (fp:List Addr) (it:Addr) (tn:Nat→Heap→Prop):Prop where
 mem:it∈fp
 obj:∀i h,tn i h→∀b∈fp,∃o,h.get? b=some o∧∀v,o.data≠.cell v
 keep:∀i h h',tn i h→(∀b∈fp,∀o,h.get? b=some o→h'.get? b=some o)→tn i h'
 item:∀(X:Cx),X.prog=P→X.w=w→X.K=K→X.calm=true→∀(i:Nat) (pins:List (Addr × Obj)) (s:Shared) (σ:St) (H:Hp) (E:Value→Shared→Prop),Inv X pins σ H s→(∀b∈fp,lw X pins H b)→tn i s.heap→J.go i H →
  wpAny (model P w) X.A (pyNext (.ref it)) (fun r s1=>∃u,r=some u ∧
   wpAny (model P w) X.A (letOwnedTupleGo tg (.ref it) u) (fun _ s2=>∃x H',Inv X pins σ H' s2∧RelV x u∧J.yld i H x H'∧tn (i+1) s2.heap∧∀b∈fp,H' b=none) E s1) E s
 done:∀(X:Cx),X.prog=P→X.w=w→X.K=K→X.calm=true→∀(i:Nat) (pins:List (Addr × Obj)) (s:Shared) (σ:St) (H:Hp) (E:Value→Shared→Prop),Inv X pins σ H s→(∀b∈fp,lw X pins H b)→tn i s.heap→J.stop i H →
  wpAny (model P w) X.A (pyNext (.ref it)) (fun r s1=>r=none∧Inv X pins σ H s1) E s
 self:∀(A:Around) (i:Nat) (s:Shared) (Q:Value→Shared→Prop) (E:Value→Shared→Prop),tn i s.heap→Q (.ref it) s→wpAny (model P w) A (pyIter (.ref it)) Q E s
noncomputable abbrev TI:=St→Hp→(It→Hp→Prop)→Prop
noncomputable def PIE (X:Cx) (pins:List (Addr × Obj)) (σ:St) (tg:Expr) (R:It→Hp→Prop) (itv:Value) (s2:Shared):Prop :=
 ∃(it:Addr) (fp:List Addr) (tn:Nat→Heap→Prop) (J:It) (H':Hp),itv=.ref it∧Inv X pins σ H' s2∧wM X.prog X.w X.K tg J fp it tn∧tn 0 s2.heap∧(∀b∈fp,lw X pins H' b)∧R J H'
noncomputable def PI (X:Cx) (tg iter:Expr) (wi:TI):Prop :=
 ∀(pins:List (Addr × Obj)) (s:Shared) (σ:St) (H:Hp) (R:It→Hp→Prop),Inv X pins σ H s→wi σ H R →
  wpAny (model X.prog X.w) X.A (eval iter X.env) (fun v s1=>wpAny (model X.prog X.w) X.A (pyIter v) (PIE X pins σ tg R) X.xe s1) X.xe s
theorem yE {M:Model} {A:Around} {E:Value→Shared→Prop} {s:Shared} {tg:Expr} {it:Addr} {u:Value} {o:Obj} {n:String} {vs:Array Value} {Q:Unit→Shared→Prop} (ho:s.heap.get? it=some o) (hc:o.cls=.type n) (hd:o.data=.fields vs)
  (hn:["enumerate","zip","dict_itemiterator","dict_reverseitemiterator","odict_iterator","itertools.zip_longest","itertools.pairwise"].contains n=false) (hQ:Q () s):wpAny M A (letOwnedTupleGo tg (.ref it) u) Q E s:=by
 unfold letOwnedTupleGo
 cases tg <;> first
  | exact wpAny_pure hQ
  | (cases u <;> first
    | exact wpAny_pure hQ
    | (refine wpAny_bind (wpAny_load ho ?_)
       rw [hc,hd]
       show wpAny M A (if (["enumerate","zip","dict_itemiterator","dict_reverseitemiterator","odict_iterator","itertools.zip_longest","itertools.pairwise"].contains n && vs[0]? == some (rawInt _))=true then _ else _) Q E s
       rw [if_neg (by intro h;rw [hn,Bool.false_and] at h;cases h)]
       exact wpAny_pure hQ))
noncomputable def Itl (K:PySem.W.Frag) (a:Addr):It :=
 ⟨fun i H=>∃xs x,SqL K H a xs∧xs[i]?=some x,fun i H x H'=>H'=H∧∀xs,SqL K H a xs→xs[i]?=some x,fun i H=>∃xs,SqL K H a xs∧xs.length≤i⟩
noncomputable def Itt (K:PySem.W.Frag) (a:Addr):It :=
 ⟨fun i H=>∃xs x,SqT K H a xs∧xs[i]?=some x,fun i H x H'=>H'=H∧∀xs,SqT K H a xs→xs[i]?=some x,fun i H=>∃xs,SqT K H a xs∧xs.length≤i⟩
noncomputable def Itr (lo:Int) (n:Nat):It:=⟨fun i _=>i<n,fun i H x H'=>H'=H∧x=.int (lo+i),fun i _=>n≤i⟩
theorem xA {P:Program} {w:World} {K:PySem.W.Frag} {tg:Expr} (a it:Addr):wM P w K tg (Itl K a) [it] it (fun i h=>h.IsListIter it a i) where
 mem:=by simp
 obj:=fun i h st b hb=>by
  have e:b=it:=by simpa using hb
  subst e
  obtain ⟨o,e,c,d⟩:=st
  exact ⟨o,e,fun v z=>by rw [d] at z;cases z⟩
 keep:=fun i h h' st k=>st.at fun o e=>k it (by simp) o e
 item:=by
  intro X hP hw hK hc i pins s σ H E I hf st hg
  subst hP hw hK
  obtain ⟨xs,x,hq,hx⟩:=hg
  obtain ⟨its,rv,p,hz⟩:=I.list hq
  obtain ⟨u,hu,ru⟩:=rv.get hx
  obtain ⟨f0,f1,f2,f3,f4,f5⟩:=hf it (by simp)
  refine wpAny_pyNext_list_item st p.isList (x:=u) (by simpa using hu) fun h' st' sb=>?_
  have I1:Inv X pins σ H { s with heap:=h' }:=I.turned (t':=s.toks) (fun b o hb e=>(sb.2 b hb).trans e) f0 f1 f3 f4 f5
  obtain ⟨o,e,c,d⟩:=id st'
  exact ⟨u,rfl,yE (s:={ s with heap:=h' }) e c d (by decide) ⟨x,H,I1,ru,⟨rfl,fun ys hy=>by rw [I.list_inj hy hq];exact hx⟩,st',fun b hb=>(hf b hb).1⟩⟩
 done:=by
  intro X hP hw hK hc i pins s σ H E I hf st hg
  subst hP hw hK
  obtain ⟨xs,hq,hx⟩:=hg
  obtain ⟨its,rv,p,hz⟩:=I.list hq
  obtain ⟨f0,f1,f2,f3,f4,f5⟩:=hf it (by simp)
  have hl:=rv.length
  exact wpAny_pyNext_list_end (I.ok.hd hc) st p.isList (by simp;omega) fun h' eb=>⟨rfl,I.turned (t':=s.toks) (fun b o hb e=>eb b o hb e) f0 f1 f3 f4 f5⟩
 self:=fun _ _ _ _ _ st h=>wpAny_pyIter_listiter st h
theorem vq {P:Program} {w:World} {K:PySem.W.Frag} {tg:Expr} (a it:Addr):wM P w K tg (Itt K a) [it] it (fun i h=>h.IsTupleIter it a i) where
 mem:=by simp
 obj:=fun i h st b hb=>by
  have e:b=it:=by simpa using hb
  subst e
  obtain ⟨o,e,c,d⟩:=st
  exact ⟨o,e,fun v z=>by rw [d] at z;cases z⟩
 keep:=fun i h h' st k=>st.at fun o e=>k it (by simp) o e
 item:=by
  intro X hP hw hK hc i pins s σ H E I hf st hg
  subst hP hw hK
  obtain ⟨xs,x,hq,hx⟩:=hg
  obtain ⟨its,rv,p,hz⟩:=I.tuple hq
  obtain ⟨u,hu,ru⟩:=rv.get hx
  obtain ⟨f0,f1,f2,f3,f4,f5⟩:=hf it (by simp)
  refine wpAny_pyNext_tuple_item st (show s.heap.IsTuple a its.toArray from p) (x:=u) (by simpa using hu) fun h' st' sb=>?_
  have I1:Inv X pins σ H { s with heap:=h' }:=I.turned (t':=s.toks) (fun b o hb e=>(sb.2 b hb).trans e) f0 f1 f3 f4 f5
  obtain ⟨o,e,c,d⟩:=id st'
  exact ⟨u,rfl,yE (s:={ s with heap:=h' }) e c d (by decide) ⟨x,H,I1,ru,⟨rfl,fun ys hy=>by rw [I.tuple_inj hy hq];exact hx⟩,st',fun b hb=>(hf b hb).1⟩⟩
 done:=by
  intro X hP hw hK hc i pins s σ H E I hf st hg
  subst hP hw hK
  obtain ⟨xs,hq,hx⟩:=hg
  obtain ⟨its,rv,p,hz⟩:=I.tuple hq
  obtain ⟨f0,f1,f2,f3,f4,f5⟩:=hf it (by simp)
  have hl:=rv.length
  exact wpAny_pyNext_tuple_end (I.ok.hd hc) st (show s.heap.IsTuple a its.toArray from p) (by simp;omega) fun h' eb=>⟨rfl,I.turned (t':=s.toks) (fun b o hb e=>eb b o hb e) f0 f1 f3 f4 f5⟩
 self:=fun _ _ _ _ _ st h=>wpAny_pyIter_tupleiter st h
theorem ub {P:Program} {w:World} {K:PySem.W.Frag} {tg:Expr} (it:Addr) (lo:Int) (n:Nat):wM P w K tg (Itr lo n) [it] it (fun i h=>IsRangeIter h it (lo+(i:Nat)*1) ((n:Int)-(i:Nat)) 1) where
 mem:=by simp
 obj:=fun i h st b hb=>by
  have e:b=it:=by simpa using hb
  subst e
  exact ⟨_,st,fun v z=>by
   have z':Data.fields _=Data.cell v:=z
   cases z'⟩
 keep:=fun i h h' st k=>k it (by simp) _ st
 item:=by
  intro X hP hw hK hc i pins s σ H E I hf st hg
  subst hP hw hK
  obtain ⟨f0,f1,f2,f3,f4,f5⟩:=hf it (by simp)
  have W:=Walks.range (prog:=X.prog) (w:=X.w) (I.ok.hd hc) it lo 1 n
  refine W.item i s _ _ hg st fun v h' tk hv st' kk=>?_
  obtain ⟨t,rfl⟩:=hv
  have I1:Inv X pins σ H { s with heap:=h',toks:=tk }:=I.turned (fun b o hb e=>kk b o (by simpa using hb) e) f0 f1 f3 f4 f5
  refine ⟨_,rfl,yE (s:={ s with heap:=h',toks:=tk }) (n:="range_iterator") st' rfl rfl (by decide) ⟨.int (lo+i),H,I1,⟨t,?_⟩,⟨rfl,rfl⟩,st',fun b hb=>(hf b hb).1⟩⟩
  rw [Int.mul_one]
 done:=by
  intro X hP hw hK hc i pins s σ H E I hf st hg
  subst hP hw hK
  obtain ⟨f0,f1,f2,f3,f4,f5⟩:=hf it (by simp)
  exact wpAny_pyNext_range_end (I.ok.hd hc) st (by have:n≤i:=hg;omega) fun h' eb=>⟨rfl,I.turned (t':=s.toks) (fun b o hb e=>eb b o hb e) f0 f1 f3 f4 f5⟩
 self:=fun _ _ _ _ _ st h=>wpAny_pyIter_rangeiter st h
end L2
namespace L2
open PySem PySem.Spec PyProof.Rows
section
variable {X:Cx} {tg:Expr}
theorem su {pins:List (Addr × Obj)} {σ:St} {H:Hp} {s:Shared} {R:It→Hp→Prop} {E:Value→Shared→Prop} {lo hi:Int} {t u v:Tok} {tk:Nat} (I:Inv X pins σ H s) (h1:-(2 ^ 62)≤lo) (h2:lo<2 ^ 62) (h3:-(2 ^ 62)≤hi) (h4:hi<2 ^ 62)
  (q:R (Itr lo (hi-lo).toNat) H):wpAny (model X.prog X.w) X.A (pyIter (.ref s.heap.objs.size)) (PIE X pins σ tg R) E { s with heap:=s.heap.push { cls:=.type "range",data:=.fields #[.int lo t,.int hi u,.int 1 v] },toks:=tk }:=by
 refine wpAny_pyIter_range (IsRange.new ..) (small_one h1 h2 h3 h4) ?_
 have I1:Inv X pins σ H { s with heap:=s.heap.push { cls:=.type "range",data:=.fields #[.int lo t,.int hi u,.int 1 v] },toks:=tk }:=I.kept fun b o e=>Heap.get?_push_of_some _ e
 refine ⟨(s.heap.push { cls:=.type "range",data:=.fields #[.int lo t,.int hi u,.int 1 v] }).objs.size,[(s.heap.push { cls:=.type "range",data:=.fields #[.int lo t,.int hi u,.int 1 v] }).objs.size],_,_,H,rfl,
  I1.kept (t':=tk) fun b o e=>Heap.get?_push_of_some _ e,ub _ lo (hi-lo).toNat,?_,fun b hb=>?_,q⟩
 ·have e1:lo+((0:Nat):Int)*1=lo:=by simp
  have e2:(((hi-lo).toNat:Nat):Int)-((0:Nat):Int)=Builtin.Range.rangeSize lo hi 1:=by rw [rangeSize_one];split <;> omega
  show IsRangeIter _ _ (lo+((0:Nat):Int)*1) ((((hi-lo).toNat:Nat):Int)-((0:Nat):Int)) 1
  rw [e1,e2]
  exact Heap.get?_push_size _ rfl
 ·have e:b=(s.heap.push { cls:=.type "range",data:=.fields #[.int lo t,.int hi u,.int 1 v] }).objs.size:=by simpa using hb
  subst e
  exact I1.fpOk (Nat.le_refl _) (I1.hok.fresh (Nat.le_refl _))
noncomputable def Hc (ta:TA):TI:=fun σ H R=>ta σ H fun vs H1=>∃j:Int,vs=[.int j]∧-(2 ^ 62)≤j∧j<2 ^ 62∧R (Itr 0 j.toNat) H1
noncomputable def Hz (ta:TA):TI:=fun σ H R=>ta σ H fun vs H1=>∃i j:Int,vs=[.int i,.int j]∧(-(2 ^ 62)≤i∧i<2 ^ 62∧-(2 ^ 62)≤j∧j<2 ^ 62)∧R (Itr i (j-i).toNat) H1
theorem xV {a:Expr} {ta:TA} {p pos:Pos} (hg:Gl X "range") (hm:X.mg "range"=none) (ha:PA X [a] ta) (hs:starEach [a] X.env=[(false,eval a X.env)]:=by rfl):PI X tg (.Call (.Name "range" p) [a] [] pos) (Hc ta):=by
 intro pins s σ H R I h
 refine Call_ (ji I hg hm boot_range (PyProof.Rows.callWith_type1 (thn (ha pos pins s σ H _ I h) fun us s1 ⟨vs,H1,I1,r1,q1⟩=>?_) hs rfl))
 obtain ⟨j,e,q1,q2,q⟩:=q1
 subst e
 cases r1 with
 | cons r rr =>
  cases rr
  obtain ⟨t,rfl⟩:=r
  exact call_range_1 (su I1 (by omega) (by omega) q1 q2 (by simpa using q))
theorem xD {a b:Expr} {ta:TA} {p pos:Pos} (hg:Gl X "range") (hm:X.mg "range"=none) (ha:PA X [a,b] ta) (hs:starEach [a,b] X.env=[(false,eval a X.env),(false,eval b X.env)]:=by rfl) (hs2:starEach [b] X.env=[(false,eval b X.env)]:=by rfl) :
  PI X tg (.Call (.Name "range" p) [a,b] [] pos) (Hz ta):=by
 intro pins s σ H R I h
 refine Call_ (ji I hg hm boot_range (PyProof.Rows.callWith_type1 (thn (ha pos pins s σ H _ I h) fun us s1 ⟨vs,H1,I1,r1,q1⟩=>?_) (by rw [hs,hs2]) (by rw [hs2];rfl)))
 obtain ⟨i,j,e,⟨q1,q2,q3,q4⟩,q⟩:=q1
 subst e
 cases r1 with
 | cons r rr =>
  cases rr with
  | cons r' rr =>
   cases rr
   obtain ⟨t,rfl⟩:=r
   obtain ⟨t',rfl⟩:=r'
   exact call_range_2 (su I1 q1 q2 q3 q4 q)
noncomputable def HG (wi:TI) (g:TG) (tb:TS):TS:=fun D σ H=>wi σ H fun J H1=>∃W:Nat→Nat→St→Hp→Prop,(∃m,W 0 m σ H1)∧∀i m σ H,W i m σ H →
 (J.stop i H∧D.nx σ H)∨(J.go i H∧∃N:St→Hp→Prop,(∀σ' H',N σ' H'→∃m',m'<m∧W (i+1) m' σ' H')∧∀x H',J.yld i H x H'→g x σ H' fun σ2 H2=>tb { D with nx:=N,ct:=N,bk:=D.nx } σ2 H2)
noncomputable def ma (fp:List Addr) (h:Heap):List (Addr × Obj):=fp.filterMap fun b=>(h.get? b).map fun o=>(b,o)
theorem gc {fp:List Addr} {h:Heap} {b:Addr} {o:Obj} (hb:b∈fp) (e:h.get? b=some o):(b,o)∈ma fp h:=List.mem_filterMap.mpr ⟨b,hb,by rw [e];rfl⟩
theorem wF {fp:List Addr} {h:Heap} {p:Addr × Obj} (hp:p∈ma fp h):p.1∈fp∧h.get? p.1=some p.2:=by
 obtain ⟨b,hb,e⟩:=List.mem_filterMap.mp hp
 cases q:h.get? b with
 | none=>rw [q] at e;cases e
 | some o =>
  rw [q] at e
  have e':(b,o)=p:=Option.some.inj e
  subst e'
  exact ⟨hb,q⟩
theorem Inv.pinned {pins:List (Addr × Obj)} {σ:St} {H:Hp} {s:Shared} {fp:List Addr} (I:Inv X pins σ H s) (hf:∀b∈fp,lw X pins H b) (ho:∀b∈fp,∃o,s.heap.get? b=some o∧∀v,o.data≠.cell v):Inv X (pins++ma fp s.heap) σ H s :=
 I.pins_of fun p hp=>(List.mem_append.mp hp).elim (fun z=>I.pin p (List.mem_append_right _ z)) fun z=>by
  obtain ⟨hb,e⟩:=wF z
  obtain ⟨f0,f1,f2,_⟩:=hf p.1 hb
  obtain ⟨o,e',d⟩:=ho p.1 hb
  rw [e] at e';cases e'
  exact ⟨e,f0,f1,f2,d⟩
theorem Inv.unpinned {pins pl:List (Addr × Obj)} {σ:St} {H:Hp} {s:Shared} (I:Inv X (pins++pl) σ H s):Inv X pins σ H s:=I.pins_of fun p hp=>I.pin p (List.mem_append_right _ (List.mem_append_left _ hp))
theorem GC {iter:Expr} {body:List Stmt} {wi:TI} {g:TG} {tb:TS} {pos:Pos} (hp:PassesOwn (model X.prog X.w) X.A X.env X.xe) (hc:X.calm=true) (hi:PI X tg iter wi) (hg:PG X tg g) (hb:PSs X body tb)
  (hs:∀x,foldedSetIterable iter X.env x=pure x:=by intro _;rfl):PS X (.For tg iter body [] pos) (HG wi g tb):=by
 intro pins s σ H D I h
 refine wpAny_For (thn (hi pins s σ H _ I h) fun v s1 h1=>thn h1 fun itv s2 h2=>?_) hs
 obtain ⟨it,fp,tn,J,H2,e,I2,T,st2,f2,W,⟨m0,w0⟩,turn⟩:=h2
 subst e
 have stat:∀ {H':Hp},(∀b∈fp,H' b=none)→∀b∈fp,lw X pins H' b:=fun hn b hb=>⟨hn b hb,(f2 b hb).2⟩
 refine codeAny_forLoop_any (fun n s'=>∃i σ' H',Inv X pins σ' H' s'∧tn i s'.heap∧(∀b∈fp,H' b=none)∧W i n σ' H') ?_ m0 ⟨0,σ,H2,I2,st2,fun b hb=>(f2 b hb).1,w0⟩
 rintro n s3 ⟨i,σ3,H3,I3,st3,fr3,w3⟩
 rcases turn i n σ3 H3 w3 with ⟨stop,qn⟩|⟨go,N,hN,step⟩
 ·refine wpAny_passesOwn hp (thn (T.done X rfl rfl rfl hc i pins s3 σ3 H3 X.xe I3 (stat fr3) st3 stop) fun r s4 ⟨hr,I4⟩=>?_)
  subst hr
  exact wpAny_execs_nil ⟨σ3,H3,I4,qn⟩
 ·refine wpAny_passesOwn hp (thn (T.item X rfl rfl rfl hc i pins s3 σ3 H3 X.xe I3 (stat fr3) st3 go) fun r s4 ⟨u,hr,h4⟩=>?_)
  subst hr
  refine wpAny_passesOwn hp (thn h4 fun _ s5 ⟨x,H5,I5,r5,y5,st5,fr5⟩=>?_)
  have I5':=I5.pinned (stat fr5) (T.obj _ _ st5)
  refine wpAny_passesOwn hp (thn (hg _ s5 σ3 H5 x u _ I5' r5 (step x H5 y5)) fun _ s6 ⟨σ6,H6,I6,q6⟩=>?_)
  refine wpAny_passesOwn hp (thn (hb _ s6 σ6 H6 _ I6 q6) fun f s7 q7=>?_)
  have again:∀ {σ7:St} {H7:Hp},Inv X (pins++ma fp s5.heap) σ7 H7 s7→N σ7 H7→∃m,m<n∧∃i σ' H',Inv X pins σ' H' s7∧tn i s7.heap∧(∀b∈fp,H' b=none)∧W i m σ' H':=fun {σ7 H7} I7 n7=>by
   obtain ⟨m',hm,w7⟩:=hN σ7 H7 n7
   refine ⟨m',hm,i+1,σ7,H7,I7.unpinned,T.keep _ _ _ st5 fun b hb o e=>(I7.pin (b,o) (List.mem_append_right _ (List.mem_append_right _ (gc hb e)))).1,fun b hb=>?_,w7⟩
   obtain ⟨o,e,d⟩:=T.obj _ _ st5 b hb
   exact (I7.pin (b,o) (List.mem_append_right _ (List.mem_append_right _ (gc hb e)))).2.1
  cases f with
  | next=>obtain ⟨σ7,H7,I7,n7⟩:=q7;exact again I7 n7
  | cont=>obtain ⟨σ7,H7,I7,n7⟩:=q7;exact again I7 n7
  | brk=>obtain ⟨σ7,H7,I7,q7⟩:=q7;exact ⟨σ7,H7,I7.unpinned,q7⟩
  | ret v=>obtain ⟨x7,σ7,H7,I7,r7,q7⟩:=q7;exact ⟨x7,σ7,H7,I7.unpinned,r7,q7⟩
end
end L2
namespace L2
open PySem PySem.Spec PyProof.Rows
noncomputable abbrev R2:=V→V→Hp→VK→Prop
noncomputable def OpR (X:Cx) (f:Value→Value→Sem Value) (r:R2):Prop :=
 ∀(pins:List (Addr × Obj)) (s:Shared) (σ:St) (H:Hp) (x y:V) (v u:Value) (Q:VK),Inv X pins σ H s→RelV x v→RelV y u→r x y H Q →
  wpAny (model X.prog X.w) X.A (f v u) (EP X pins σ Q) X.xe s
noncomputable def UnR (X:Cx) (f:Value→Sem Value) (r:V→Hp→VK→Prop):Prop :=
 ∀(pins:List (Addr × Obj)) (s:Shared) (σ:St) (H:Hp) (x:V) (v:Value) (Q:VK),Inv X pins σ H s→RelV x v→r x H Q →
  wpAny (model X.prog X.w) X.A (f v) (EP X pins σ Q) X.xe s
noncomputable def gq (X:Cx) (f:Value) (r:List V→Hp→VK→Prop):Prop :=
 ∀(pins:List (Addr × Obj)) (s:Shared) (σ:St) (H:Hp) (xs:List V) (us:List Value) (Q:VK),Inv X pins σ H s→Vals xs us→r xs H Q →
  wpAny (model X.prog X.w) X.A (call f us) (EP X pins σ Q) X.xe s
noncomputable def Iz (X:Cx) (r:V→Hp→(Bool→Hp→Prop)→Prop):Prop :=
 ∀(pins:List (Addr × Obj)) (s:Shared) (σ:St) (H:Hp) (x:V) (v:Value) (Q:Bool→Hp→Prop),Inv X pins σ H s→RelV x v→r x H Q →
  wpAny (model X.prog X.w) X.A (truthy v) (TP X pins σ Q) X.xe s
noncomputable def tOp (r:R2) (ta tb:TE):TE:=fun σ H Q=>ta σ H fun x H1=>tb σ H1 fun y H2=>r x y H2 Q
noncomputable def tUn (r:V→Hp→VK→Prop) (ta:TE):TE:=fun σ H Q=>ta σ H fun x H1=>r x H1 Q
noncomputable def rI (C:Int→Int→Prop) (g:Int→Int→V):R2:=fun x y H Q=>∃i j,x=.int i∧y=.int j∧C i j∧Q (g i j) H
noncomputable def rI0 (g:Int→Int→V):R2:=fun x y H Q=>∃i j,x=.int i∧y=.int j∧Q (g i j) H
noncomputable def rU (g:Int→V):V→Hp→VK→Prop:=fun x H Q=>∃i,x=.int i∧Q (g i) H
section
variable {X:Cx} {a b c:Expr} {ta tb tc:TE} {pos:Pos}
theorem D3 (ha:PE X a ta) (hb:PE X b tb) {pins:List (Addr × Obj)} {s:Shared} {σ:St} {H:Hp} {R:V→V→Hp→Prop} (I:Inv X pins σ H s)
  (h:ta σ H fun x H1=>tb σ H1 fun y H2=>R x y H2) {Q:Value→Shared→Prop} {f:Value→Value→Sem Value}
  (hf:∀v u s2 x y H2,Inv X pins σ H2 s2→RelV x v→RelV y u→R x y H2→wpAny (model X.prog X.w) X.A (f v u) Q X.xe s2) :
  wpAny (model X.prog X.w) X.A (eval a X.env) (fun v s₁=>wpAny (model X.prog X.w) X.A (eval b X.env) (fun u s₂=>wpAny (model X.prog X.w) X.A (f v u) Q X.xe s₂) X.xe s₁) X.xe s:=by
 refine thn (ha pins s σ H _ I h) fun v s1 ⟨x,H1,I1,r1,q1⟩=>?_
 refine thn (hb pins s1 σ H1 _ I1 q1) fun u s2 ⟨y,H2,I2,r2,q2⟩=>?_
 exact hf v u s2 x y H2 I2 r1 r2 q2
theorem GY {op:Operator} {r:R2} (ho:OpR X (binaryOp op) r) (ha:PE X a ta) (hb:PE X b tb):PE X (.BinOp a op b pos) (tOp r ta tb):=by
 intro pins s σ H Q I h
 exact wpAny_BinOp (D3 ha hb I h fun v u s2 x y H2 I2 rx ry q=>ho pins s2 σ H2 x y v u Q I2 rx ry q)
theorem GT {op:UnaryOp} {r:V→Hp→VK→Prop} (ho:UnR X (unaryOp op) r) (ha:PE X a ta):PE X (.UnaryOp op a pos) (tUn r ta):=by
 intro pins s σ H Q I h
 exact UnaryOp_ (thn (ha pins s σ H _ I h) fun v s1 ⟨x,H1,I1,r1,q1⟩=>ho pins s1 σ H1 x v Q I1 r1 q1)
theorem opI {f:Value→Value→Sem Value} {C:Int→Int→Prop} {g:Int→Int→Int}
  (rule:∀(i j:Int) (t u:Tok) (s:Shared) (Q:Value→Shared→Prop) (E:Value→Shared→Prop),C i j→Q (.int (g i j) s.toks) { s with toks:=s.toks+1 }→wpAny (model X.prog X.w) X.A (f (.int i t) (.int j u)) Q E s) :
  OpR X f (rI C fun i j=>.int (g i j)):=by
 intro pins s σ H x y v u Q I rx ry h
 obtain ⟨i,j,rfl,rfl,hc,q⟩:=h
 obtain ⟨t,rfl⟩:=rx
 obtain ⟨t',rfl⟩:=ry
 exact rule i j t t' s _ _ hc ⟨.int (g i j),H,I.tok _,⟨_,rfl⟩,q⟩
theorem Hn {f:Value→Value→Sem Value} {g:Int→Int→Int}
  (rule:∀(i j:Int) (t u:Tok) (s:Shared) (Q:Value→Shared→Prop) (E:Value→Shared→Prop),Q (.int (g i j) s.toks) { s with toks:=s.toks+1 }→wpAny (model X.prog X.w) X.A (f (.int i t) (.int j u)) Q E s) :
  OpR X f (rI0 fun i j=>.int (g i j)):=by
 intro pins s σ H x y v u Q I rx ry h
 obtain ⟨i,j,rfl,rfl,q⟩:=h
 obtain ⟨t,rfl⟩:=rx
 obtain ⟨t',rfl⟩:=ry
 exact rule i j t t' s _ _ ⟨.int (g i j),H,I.tok _,⟨_,rfl⟩,q⟩
theorem C9 {f:Value→Value→Sem Value} {g:Int→Int→Bool}
  (rule:∀(i j:Int) (t u:Tok) (s:Shared) (Q:Value→Shared→Prop) (E:Value→Shared→Prop),Q (.bool (g i j)) s→wpAny (model X.prog X.w) X.A (f (.int i t) (.int j u)) Q E s) :
  OpR X f (rI0 fun i j=>.bl (g i j)):=by
 intro pins s σ H x y v u Q I rx ry h
 obtain ⟨i,j,rfl,rfl,q⟩:=h
 obtain ⟨t,rfl⟩:=rx
 obtain ⟨t',rfl⟩:=ry
 exact rule i j t t' s _ _ ⟨.bl (g i j),H,I,rfl,q⟩
noncomputable def vE (i j:Int):Prop:=0≤j∧j≤1000000∧i.natAbs<2 ^ 64
theorem E9:OpR X (binaryOp .Add) (rI0 fun i j=>.int (i+j)):=Hn fun _ _ _ _ _ _ _ q=>add_int q
theorem Fx:OpR X (binaryOp .Sub) (rI0 fun i j=>.int (i-j)):=Hn fun _ _ _ _ _ _ _ q=>sub_int q
theorem EW:OpR X (binaryOp .Mod) (rI (fun _ j=>0<j) fun i j=>.int (i % j)):=opI fun i j _ _ _ _ _ hc q=>by
 have h1:(0:Int)<j:=hc
 exact mod_int' (by omega) (by rw [Int.fmod_eq_emod_of_nonneg i (by omega)];exact q)
theorem FK:OpR X (binaryOp .Pow) (rI vE fun i j=>.int (i ^ j.toNat)):=opI fun _ _ _ _ _ _ _ hc q=>pow_int_small hc.1 hc.2.1 hc.2.2 q
theorem unI {f:Value→Sem Value} {g:Int→Int}
  (rule:∀(i:Int) (t:Tok) (s:Shared) (Q:Value→Shared→Prop) (E:Value→Shared→Prop),Q (.int (g i) s.toks) { s with toks:=s.toks+1 }→wpAny (model X.prog X.w) X.A (f (.int i t)) Q E s) :
  UnR X f (rU fun i=>.int (g i)):=by
 intro pins s σ H x v Q I rx h
 obtain ⟨i,rfl,q⟩:=h
 obtain ⟨t,rfl⟩:=rx
 exact rule i t s _ _ ⟨.int (g i),H,I.tok _,⟨_,rfl⟩,q⟩
theorem F1:UnR X (unaryOp .USub) (rU fun i=>.int (-i)):=unI fun _ _ _ _ _ q=>neg_int q
end
noncomputable def GR:V→V→Bool
 | .non,.non=>true | .non,.int _=>true | .int _,.non=>true | .non,.bl _=>true | .bl _,.non=>true | .non,.str _=>true | .str _,.non=>true
 | .int _,.int _=>true | .bl _,.bl _=>true | .str _,.str _=>true | .byt _,.byt _=>true
 | .int _,.str _=>true | .str _,.int _=>true | .bl _,.str _=>true | .str _,.bl _=>true
 | _,_=>false
noncomputable def rEq:R2:=fun x y H Q=>GR x y=true∧Q (.bl (decide (x=y))) H
noncomputable def rNe:R2:=fun x y H Q=>GR x y=true∧Q (.bl (!decide (x=y))) H
theorem vW {i j:Int}:decide (V.int i=V.int j)=(i == j):=by
 rw [Bool.eq_iff_iff]
 simp
theorem yx {i j:Bool}:decide (V.bl i=V.bl j)=(i == j):=by
 rw [Bool.eq_iff_iff]
 simp
theorem v9 {i j:Str}:decide (V.str i=V.str j)=(i == j):=by
 rw [Bool.eq_iff_iff]
 simp
theorem wD {i j:Array UInt8}:decide (V.byt i=V.byt j)=(i.toList == j.toList):=by
 rw [Bool.eq_iff_iff]
 cases i
 cases j
 simp
section
variable {X:Cx} {a b c:Expr} {ta tb tc:TE} {pos:Pos}
theorem aE {pins:List (Addr × Obj)} {σ:St} {H:Hp} {s:Shared} {Q:VK} {k k':Bool} (I:Inv X pins σ H s) (q:Q (.bl k) H) (e:k=k'):EP X pins σ Q (.bool k') s:=by
 subst e
 exact ⟨.bl k,H,I,rfl,q⟩
theorem As:OpR X (compareOp .Eq) rEq:=by
 intro pins s σ H x y v u Q I rx ry h
 obtain ⟨hs,q⟩:=h
 cases x with
 | non =>
  cases rx
  cases y with
  | non=>cases ry;exact PySem.EqNone.eq_none_none (aE I q (by simp))
  | bl j=>cases ry;exact PySem.EqNone.eq_none_bool (aE I q (by simp))
  | int j=>obtain ⟨t',rfl⟩:=ry;exact PySem.EqNone.eq_none_int (aE I q (by simp))
  | str j=>obtain ⟨t',rfl⟩:=ry;exact PySem.EqNone.eq_none_str (aE I q (by simp))
  | _=>exact absurd (show false=true from hs) Bool.false_ne_true
 | bl i =>
  cases rx
  cases y with
  | non=>cases ry;exact PySem.EqNone.eq_bool_none (aE I q (by simp))
  | bl j=>cases ry;exact eq_bool (aE I q yx)
  | str j=>obtain ⟨t',rfl⟩:=ry;exact PySem.EqMixed.eq_bool_str (aE I q (by simp))
  | _=>exact absurd (show false=true from hs) Bool.false_ne_true
 | int i =>
  obtain ⟨t,rfl⟩:=rx
  cases y with
  | non=>cases ry;exact PySem.EqNone.eq_int_none (aE I q (by simp))
  | int j=>obtain ⟨t',rfl⟩:=ry;exact eq_int (aE I q vW)
  | str j=>obtain ⟨t',rfl⟩:=ry;exact PySem.EqMixed.eq_int_str (aE I q (by simp))
  | _=>exact absurd (show false=true from hs) Bool.false_ne_true
 | str i =>
  obtain ⟨t,rfl⟩:=rx
  cases y with
  | non=>cases ry;exact PySem.EqNone.eq_str_none (aE I q (by simp))
  | bl j=>cases ry;exact PySem.EqMixed.eq_str_bool (aE I q (by simp))
  | int j=>obtain ⟨t',rfl⟩:=ry;exact PySem.EqMixed.eq_str_int (aE I q (by simp))
  | str j=>obtain ⟨t',rfl⟩:=ry;exact eq_str (aE I q v9)
  | _=>exact absurd (show false=true from hs) Bool.false_ne_true
 | byt i =>
  obtain ⟨t,rfl⟩:=rx
  cases y with
  | byt j=>obtain ⟨t',rfl⟩:=ry;exact PySem.W.eq_bytes (aE I q wD)
  | _=>exact absurd (show false=true from hs) Bool.false_ne_true
 | _=>cases y <;> exact absurd (show false=true from hs) Bool.false_ne_true
theorem Ah:OpR X (compareOp .NotEq) rNe:=by
 intro pins s σ H x y v u Q I rx ry h
 obtain ⟨hs,q⟩:=h
 cases x with
 | non =>
  cases rx
  cases y with
  | non=>cases ry;exact PySem.EqNone.ne_none_none (aE I q (by simp))
  | bl j=>cases ry;exact PySem.EqNone.ne_none_bool (aE I q (by simp))
  | int j=>obtain ⟨t',rfl⟩:=ry;exact PySem.EqNone.ne_none_int (aE I q (by simp))
  | str j=>obtain ⟨t',rfl⟩:=ry;exact PySem.EqNone.ne_none_str (aE I q (by simp))
  | _=>exact absurd (show false=true from hs) Bool.false_ne_true
 | bl i =>
  cases rx
  cases y with
  | non=>cases ry;exact PySem.EqNone.ne_bool_none (aE I q (by simp))
  | bl j=>cases ry;exact ne_bool (aE I q (congrArg not yx))
  | str j=>obtain ⟨t',rfl⟩:=ry;exact PySem.EqMixed.ne_bool_str (aE I q (by simp))
  | _=>exact absurd (show false=true from hs) Bool.false_ne_true
 | int i =>
  obtain ⟨t,rfl⟩:=rx
  cases y with
  | non=>cases ry;exact PySem.EqNone.ne_int_none (aE I q (by simp))
  | int j=>obtain ⟨t',rfl⟩:=ry;exact ne_int (aE I q (congrArg not vW))
  | str j=>obtain ⟨t',rfl⟩:=ry;exact PySem.EqMixed.ne_int_str (aE I q (by simp))
  | _=>exact absurd (show false=true from hs) Bool.false_ne_true
 | str i =>
  obtain ⟨t,rfl⟩:=rx
  cases y with
  | non=>cases ry;exact PySem.EqNone.ne_str_none (aE I q (by simp))
  | bl j=>cases ry;exact PySem.EqMixed.ne_str_bool (aE I q (by simp))
  | int j=>obtain ⟨t',rfl⟩:=ry;exact PySem.EqMixed.ne_str_int (aE I q (by simp))
  | str j=>obtain ⟨t',rfl⟩:=ry;exact ne_str (aE I q (congrArg not v9))
  | _=>exact absurd (show false=true from hs) Bool.false_ne_true
 | byt i =>
  obtain ⟨t,rfl⟩:=rx
  cases y with
  | byt j=>obtain ⟨t',rfl⟩:=ry;exact PySem.W.ne_bytes (aE I q (congrArg not wD))
  | _=>exact absurd (show false=true from hs) Bool.false_ne_true
 | _=>cases y <;> exact absurd (show false=true from hs) Bool.false_ne_true
theorem GZ:OpR X (compareOp .Lt) (rI0 fun i j=>.bl (decide (i<j))):=C9 fun _ _ _ _ _ _ _ q=>lt_int q
theorem GH:OpR X (compareOp .LtE) (rI0 fun i j=>.bl (decide (i≤j))):=C9 fun _ _ _ _ _ _ _ q=>le_int q
theorem HU:OpR X (compareOp .Gt) (rI0 fun i j=>.bl (decide (j<i))):=C9 fun _ _ _ _ _ _ _ q=>gt_int q
theorem HL:OpR X (compareOp .GtE) (rI0 fun i j=>.bl (decide (j≤i))):=C9 fun _ _ _ _ _ _ _ q=>ge_int q
theorem wW:OpR X (compareOp .In) (fun x y H Q=>∃i j,x=.str i∧y=.str j∧Q (.bl (!(Builtin.Str.occurrences j i 0 j.length 1).isEmpty)) H):=by
 intro pins s σ H x y v u Q I rx ry h
 obtain ⟨i,j,rfl,rfl,q⟩:=h
 obtain ⟨t,rfl⟩:=rx
 obtain ⟨t',rfl⟩:=ry
 exact in_str (aE I q rfl)
theorem Ef:OpR X (compareOp .Is) (fun x y H Q=>y=.non∧Q (.bl (decide (x=.non))) H):=by
 intro pins s σ H x y v u Q I rx ry h
 obtain ⟨rfl,q⟩:=h
 cases ry
 refine is_none_gen (aE I q ?_)
 cases x <;> first
  | (cases rx;rfl)
  | (obtain ⟨t,rfl⟩:=rx;rfl)
theorem CI:OpR X (compareOp .IsNot) (fun x y H Q=>y=.non∧Q (.bl (!decide (x=.non))) H):=by
 intro pins s σ H x y v u Q I rx ry h
 obtain ⟨rfl,q⟩:=h
 cases ry
 refine isnot_none_gen (aE I q ?_)
 cases x <;> first
  | (cases rx;rfl)
  | (obtain ⟨t,rfl⟩:=rx;rfl)
theorem Du {op:CmpOp} {r:R2} (ho:OpR X (compareOp op) r) (ha:PE X a ta) (hb:PE X b tb) (hm:behindInMarks op b=false):PE X (.Compare a [op] [b] pos) (tOp r ta tb):=by
 intro pins s σ H Q I h
 exact wpAny_Compare1 (D3 ha hb I h fun v u s2 x y H2 I2 rx ry q=>ho pins s2 σ H2 x y v u Q I2 rx ry q) hm
noncomputable def GE (t:TE):TT:=fun σ H Q=>t σ H fun x H'=>∃k,x=.bl k∧Q k H'
theorem Cg {op:CmpOp} {r:R2} (ho:OpR X (compareOp op) r) (ha:PE X a ta) (hb:PE X b tb) (hm:behindInMarks op b=false):PT X (.Compare a [op] [b] pos) (GE (tOp r ta tb)):=by
 intro pins s σ H Q I h
 refine wpAny_isTrue_Compare1 (thn (ha pins s σ H _ I h) fun v s1 ⟨x,H1,I1,r1,q1⟩=>thn (hb pins s1 σ H1 _ I1 q1) fun u s2 ⟨y,H2,I2,r2,q2⟩ =>
  thn (ho pins s2 σ H2 x y v u _ I2 r1 r2 q2) fun c s3 ⟨z,H3,I3,r3,k,e,q3⟩=>?_) hm
 subst e
 cases r3
 exact wpAny_truthy_bool ⟨H3,I3,q3⟩
noncomputable def ER (K:PySem.W.Frag) (x:V) (H:Hp) (k:Bool):Prop :=
 match x with
 | .non=>k=false
 | .bl b=>k=b
 | .int i=>k=(i != 0)
 | .str y=>y.length≤sizeLine∧k=((y.length:Int) != 0)
 | .byt y=>y.size≤sizeLine∧k=((y.size:Int) != 0)
 | .ref p=>(∃xs,SqL K H p xs∧k=!xs.isEmpty)∨(∃xs,SqT K H p xs∧k=!xs.isEmpty)∨∃kvs,H p=some (.dK kvs)∧k=!kvs.isEmpty
 | _=>False
theorem vA {κ:Type} {kvs:List (κ × V)} {vs:List (κ × Value)} (r:KV kvs vs):(!vs.isEmpty)=!kvs.isEmpty:=by
 cases r <;> rfl
theorem mV {xs:List V} {its:List Value} (r:Vals xs its):(!its.toArray.isEmpty)=!xs.isEmpty:=by
 cases r <;> simp
theorem ja:(sizeLine:Nat)<2 ^ 63:=by rw [sizeLine_eq];decide
theorem Eu:Iz X (fun x H Q=>∃k,ER X.K x H k∧Q k H):=by
 intro pins s σ H x v Q I rx h
 obtain ⟨k,e,q⟩:=h
 have hl:=ja
 have hs:sizeLine=16777216:=sizeLine_eq
 cases x with
 | non =>
  cases rx
  have e':k=false:=e
  subst e'
  exact truthy_none ⟨H,I,q⟩
 | bl b =>
  cases rx
  have e':k=b:=e
  subst e'
  exact wpAny_truthy_bool ⟨H,I,q⟩
 | int i =>
  obtain ⟨t,rfl⟩:=rx
  have e':k=(i != 0):=e
  subst e'
  exact PySem.P.truthy_int ⟨H,I,q⟩
 | str y =>
  obtain ⟨t,rfl⟩:=rx
  obtain ⟨hy,e'⟩:y.length≤sizeLine∧k=((y.length:Int) != 0):=e
  subst e'
  exact PySem.P.truthy_str (by omega) ⟨H,I.tok _,q⟩
 | byt y =>
  obtain ⟨t,rfl⟩:=rx
  obtain ⟨hy,e'⟩:y.size≤sizeLine∧k=((y.size:Int) != 0):=e
  subst e'
  exact PySem.W.truthy_bytes (by omega) ⟨H,I.tok _,q⟩
 | ref p =>
  cases rx
  have e':(∃xs,SqL X.K H p xs∧k=!xs.isEmpty)∨(∃xs,SqT X.K H p xs∧k=!xs.isEmpty)∨∃kvs,H p=some (.dK kvs)∧k=!kvs.isEmpty:=e
  rcases e' with ⟨xs,hx,e'⟩|⟨xs,hx,e'⟩|⟨kvs,hx,e'⟩
  ·subst e'
   obtain ⟨its,r,pl,hz⟩:=I.list hx
   have hlen:=r.length
   exact wpAny_truthy_list pl.isList (by simp only [List.size_toArray];omega) ⟨H,I.tok _,by rw [mV r];exact q⟩
  ·subst e'
   obtain ⟨its,r,pl,hz⟩:=I.tuple hx
   have hlen:=r.length
   exact truthy_tuple pl (by simp only [List.size_toArray];omega) ⟨H,I.tok _,by rw [mV r];exact q⟩
  ·subst e'
   obtain ⟨hz,hS,vs,r,m⟩:kvs.length≤sizeLine∧(p == sysModules)=false∧∃vs,KV kvs vs∧s.heap.DictOf (qA X.prog X.w) p vs:=I.hok p _ hx
   have hlen:kvs.length=vs.length:=Paired.length r
   exact wpAny_truthy_dict hS m (by omega) ⟨H,I.tok _,by rw [vA r];exact q⟩
 | _=>exact (show False from e).elim
theorem eQ (ha:PE X a ta) (he:∀whole,isTrue a X.env whole=(do let v ←whole;standAt a.pos;holding [v] (truthy v))) :
  PT X a (fun σ H Q=>ta σ H fun x H'=>∃k,ER X.K x H' k∧Q k H'):=by
 intro pins s σ H Q I h
 exact isTrue_plain (thn (ha pins s σ H _ I h) fun v s1 ⟨x,H1,I1,r1,q1⟩=>Eu pins s1 σ H1 x v Q I1 r1 q1) (he _)
theorem tF:OpR X (binaryOp .Add) (fun x y H Q=>∃i j,x=.str i∧y=.str j∧i.length+j.length≤sizeLine∧Q (.str (i++j)) H):=by
 intro pins s σ H x y v u Q I rx ry h
 obtain ⟨i,j,rfl,rfl,hz,q⟩:=h
 obtain ⟨t,rfl⟩:=rx
 obtain ⟨t',rfl⟩:=ry
 exact add_str (fun t' tk=>⟨.str (i++j),H,I.tok _,⟨_,rfl⟩,q⟩) hz
theorem vX {x:V} {us:List Value} (r:Vals [x] us):∃u,us=[u]∧RelV x u:=by
 cases r with
 | cons r1 r2=>cases r2;exact ⟨_,rfl,r1⟩
theorem wo {x y:V} {us:List Value} (r:Vals [x,y] us):∃u w',us=[u,w']∧RelV x u∧RelV y w':=by
 cases r with
 | cons r1 r2 =>
  cases r2 with
  | cons r3 r4=>cases r4;exact ⟨_,_,rfl,r1,r3⟩
theorem BC:gq X (.builtin "abs") (fun xs H Q=>∃i,xs=[.int i]∧Q (.int (if i<0 then -i else i)) H):=by
 intro pins s σ H xs us Q I r h
 obtain ⟨i,rfl,q⟩:=h
 obtain ⟨u,rfl,t,rfl⟩:=vX r
 exact call_abs_int fun u tk=>⟨.int (if i<0 then -i else i),H,I.tok _,⟨_,rfl⟩,q⟩
theorem xZ (hc:X.calm=true):gq X (.builtin "max") (fun xs H Q=>∃i j,xs=[.int i,.int j]∧Q (.int (if j > i then j else i)) H):=by
 intro pins s σ H xs us Q I r h
 obtain ⟨i,j,rfl,q⟩:=h
 obtain ⟨u,w',rfl,⟨t,rfl⟩,⟨t',rfl⟩⟩:=wo r
 refine max_two_ints (I.ok.hd hc) fun h' tk k=>⟨_,H,I.kept k,?_,q⟩
 by_cases hj:j > i
 ·rw [if_pos hj,if_pos hj];exact ⟨_,rfl⟩
 ·rw [if_neg hj,if_neg hj];exact ⟨_,rfl⟩
end
end L2
namespace L2
open PySem PySem.Spec PyProof.Rows
structure ObjM (h:Heap) (x dx C:Addr) (mA:Str→Option Value):Prop where
 obj:h.get? x=some (PySem.W.instObj C dx)
 ns:h.Ns1 dx mA
 ne:dx≠x
theorem xF {h:Heap} {dx:Addr} {mA:Str→Option Value} (n:h.Ns1 dx mA):∃od,h.get? dx=some od∧∀name,PySem.W.lookIn name od=some (mA name):=by
 obtain ⟨o,es,ep,ho,hd,hk,_,hm⟩:=n
 refine ⟨o,ho,fun name=>?_⟩
 have e:=hm name
 unfold nsFind findBy at e
 rw [←Array.find?_toList] at e
 unfold PySem.W.lookIn
 rw [hd]
 dsimp only
 split
 ·rename_i y q
  rw [q] at e
  exact congrArg some e
 ·rename_i q
  rw [q] at e
  have a:es.toList.any (·.refKey)=false:=by
   rw [List.any_eq_false]
   intro y hy
   obtain ⟨z,t,hkey⟩:=hk y (Array.mem_toList_iff.mp hy)
   simp [DictEntry.refKey,hkey]
  have a':¬es.toList.any (·.refKey)=true:=by rw [a];exact Bool.false_ne_true
  rw [if_neg a']
  exact congrArg some e
theorem ObjM.look {h:Heap} {x dx C:Addr} {mA:Str→Option Value} (I:ObjM h x dx C mA):∃od,PySem.W.InstAt h x (PySem.W.instObj C dx) C (some od)∧∀name,PySem.W.lookIn name od=some (mA name) :=
 let ⟨od,ho,hl⟩:=xF I.ns
 ⟨od,⟨I.obj,rfl,rfl,ho⟩,hl⟩
section
variable {prog:Program} {w:World} {A:Around} {E:Value→Shared→Prop} {s:Shared} {K:PySem.W.Frag} {x dx C f:Addr} {mA:Str→Option Value} {name:Str} {v:Value}
end
section
variable {P:Program} {w:World} {H H':Hp} {h h':Heap} {a C dx:Addr} {fs fs':List (Str × V)}
theorem Dj (hok:HOk P w H h) (e:H a=some (.ins C dx fs)):∃mA,ObjM h a dx C mA∧(∀f,F_ (fs.lookup f) (mA f))∧PySem.Within mA (fs.map (·.1))∧fs.length≤1000∧H dx=some (.own a):=by
 obtain ⟨d,z,ne,ob,mA,n,r,q⟩:=(show ObjOk P w H h a (.ins C dx fs) from hok a _ e)
 exact ⟨mA,⟨ob,n,ne⟩,r,q,z,d⟩
end
structure Cls (K:PySem.W.Frag) (C:Addr):Prop where
 pg:PySem.W.plainGet K C Str.empty=true
 hd:PySem.W.hasDictIn K C=true
 po:PySem.W.plainOver K C=true
 sa:PySem.W.findIn K (.ref C) "__setattr__"=some (some (.builtin "object.__setattr__"))
theorem Cls.get {K:PySem.W.Frag} {C:Addr} (c:Cls K C) (f:Str):PySem.W.plainGet K C f=true:=c.pg
structure Con (K:PySem.W.Frag) (C:Addr) (f:Str) (v:V) (u:Value):Prop where
 at_:PySem.W.findIn K (.ref C) f=some (some u)
 rel:RelV v u
 get:PySem.W.specialIn K u "__get__"=some none
 cp:PySem.W.copiedNames.contains f=false
structure IN (K:PySem.W.Frag) (C:Addr) (m:Str) (f:Addr):Prop where
 at_:PySem.W.findIn K (.ref C) m=some (some (.ref f))
 fn:PySem.W.isFn K (.ref f)=true
 kp:PySem.W.keepIn K (.ref f)=true
section
variable {X:Cx} {pins:List (Addr × Obj)} {σ:St} {H:Hp} {s:Shared} {a C dx:Addr} {fs:List (Str × V)} {f:Str} {v:V} {A:Around} {E:Value→Shared→Prop}
end
section
variable {X:Cx} {o e value:Expr} {f:Str} {pos pos' tpos:Pos} {ta tv:TE}
end
section
variable {X:Cx} {pins:List (Addr × Obj)} {σ:St} {H:Hp} {s:Shared} {A:Around} {E:Value→Shared→Prop} {Q:Value→Shared→Prop} {c:Value} {b:Bool}
inductive lf (K:PySem.W.Frag) (H:Hp):V→Value→Prop where
 | non:lf K H .non (.type "NoneType")
 | bl (x:Bool):lf K H (.bl x) (.type "bool")
 | int (i:Int):lf K H (.int i) (.type "int")
 | str (x:Str):lf K H (.str x) (.type "str")
 | flt (x:UInt64):lf K H (.flt x) (.type "float")
 | lst {a:Addr} {xs:List V} (e:H a=some (.lst xs)):lf K H (.ref a) (.type "list")
 | frz {a:Addr} {o:Obj} {xs:List V} (e:H a=some (.frz o (.lst xs))):lf K H (.ref a) (.type "list")
 | tup {a:Addr} {xs:List V} (e:H a=some (.tup xs)):lf K H (.ref a) (.type "tuple")
 | dK {a:Addr} {kvs:List (Key × V)} (e:H a=some (.dK kvs)):lf K H (.ref a) (.type "dict")
 | dT {a:Addr} {kvs:List (List Key × V)} (e:H a=some (.dT kvs)):lf K H (.ref a) (.type "dict")
 | ins {a C dx:Addr} {fs:List (Str × V)} (e:H a=some (.ins C dx fs)) (cl:Cls K C) (ha:PySem.W.findIn K (.ref C) "__class__"=some (some (.builtin "object.__class__")))
   (hn:PySem.W.specialIn K (.builtin "object.__class__") "__get__"=some (some (.builtin "getset_descriptor.__get__"))) (htk:PySem.W.takesIn K (.builtin "object.__class__")=some true)
   (hm:PySem.W.mroIn K C (.type "object")=some true):lf K H (.ref a) (.ref C)
theorem eh {x:V} {u t:Value} (I:Inv X pins σ H s) (rx:RelV x u) (ty:lf X.K H x t) (e:PySem.W.kitOne X.K t c=some b) (h:∀tk,Q (.bool b) { s with toks:=tk }) :
  wpAny (model X.prog X.w) A (call (.builtin "isinstance") [u,c]) Q E s:=by
 cases ty with
 | non=>cases (show u=Value.none from rx);exact PySem.W.kia_one PySem.W.kitx_none I.kIn True.intro e (fun z=>nomatch z) h
 | bl y=>cases (show u=Value.bool y from rx);exact PySem.W.kia_one PySem.W.kitx_bool I.kIn True.intro e (fun z=>nomatch z) h
 | int i=>obtain ⟨t,q⟩:=(show ∃t,u=Value.int i t from rx);cases q;exact PySem.W.kia_one PySem.W.kitx_int I.kIn True.intro e (fun z=>nomatch z) h
 | str y=>obtain ⟨t,q⟩:=(show ∃t,u=Value.str y t from rx);cases q;exact PySem.W.kia_one PySem.W.kitx_str I.kIn True.intro e (fun z=>nomatch z) h
 | flt y=>obtain ⟨t,q⟩:=(show ∃t,u=Value.float y t from rx);cases q;exact PySem.W.kia_one PySem.W.kitx_float I.kIn True.intro e (fun z=>nomatch z) h
 | @lst a xs ea =>
  cases (show u=Value.ref a from rx)
  obtain ⟨_,_,n,_,h1⟩:=(show ObjOk X.prog X.w H s.heap a (.lst xs) from I.hok a _ ea)
  exact PySem.W.kia_one PySem.W.kitx_list I.kIn ⟨_,h1,rfl⟩ e (fun z=>nomatch z) h
 | @frz a ob xs ea =>
  cases (show u=Value.ref a from rx)
  obtain ⟨_,_,_,n,_,h1⟩:=(show ObjOk X.prog X.w H s.heap a (.frz ob (.lst xs)) from I.hok a _ ea)
  exact PySem.W.kia_one PySem.W.kitx_list I.kIn ⟨_,h1,rfl⟩ e (fun z=>nomatch z) h
 | @tup a xs ea =>
  cases (show u=Value.ref a from rx)
  obtain ⟨_,_,_,p⟩:=(show ObjOk X.prog X.w H s.heap a (.tup xs) from I.hok a _ ea)
  obtain ⟨o,h1,h2,_⟩:=p
  exact PySem.W.kia_one PySem.W.kitx_tuple I.kIn ⟨o,h1,h2⟩ e (fun z=>nomatch z) h
 | @dK a kvs ea =>
  cases (show u=Value.ref a from rx)
  obtain ⟨_,_,vs,_,p⟩:=(show ObjOk X.prog X.w H s.heap a (.dK kvs) from I.hok a _ ea)
  obtain ⟨o,es,ep,h1,h2,_⟩:=p
  exact PySem.W.kia_one PySem.W.kitx_dict I.kIn ⟨o,h1,h2.1⟩ e (fun z=>nomatch z) h
 | @dT a kvs ea =>
  cases (show u=Value.ref a from rx)
  obtain ⟨_,_,xs,_,o,es,ep,h1,h2,_⟩:=(show ObjOk X.prog X.w H s.heap a (.dT kvs) from I.hok a _ ea)
  exact PySem.W.kia_one PySem.W.kitx_dict I.kIn ⟨o,h1,h2.1⟩ e (fun z=>nomatch z) h
 | @ins a C dx fs ea cl ha hn htk hm =>
  cases (show u=Value.ref a from rx)
  obtain ⟨mA,O,_⟩:=Dj I.hok ea
  obtain ⟨od,J,_⟩:=O.look
  exact PySem.W.kia_one (PySem.W.kitx_own (cl.get _) cl.hd ha hn htk hm) I.kIn J e (fun z=>nomatch z) h
end
end L2
namespace L2
open PySem PySem.Spec PyProof.Rows
structure Room (k:Nat) (A:Around):Prop where
 hd:A.handled=none
 dp:A.depth+3*k+5<recursionLimit
 un:A.units+16*k+200<cLine
 gd:A.guards=some []
theorem Room.mono {j k:Nat} {A:Around} (r:Room k A) (h:j≤k):Room j A:=⟨r.hd,by have:=r.dp;omega,by have:=r.un;omega,r.gd⟩
theorem Room.deeper {k:Nat} {A:Around} (r:Room (k+1) A) (env:Env):Room k (A.deeper env) :=
 ⟨r.hd,by have:=r.dp;show A.depth+1+3*k+5<_;omega,by have:=r.un;show A.units+3+16*k+200<_;omega,r.gd⟩
theorem Room.depth {k:Nat} {A:Around} (r:Room k A):A.depth<recursionLimit:=by have:=r.dp;omega
theorem Room.units {k:Nat} {A:Around} (r:Room k A):A.units+64<cLine:=by have:=r.un;omega
noncomputable def q_:TA:=fun _ H Q=>Q [] H
noncomputable def gG (ta:TE) (tr:TA):TA:=fun σ H Q=>ta σ H fun x H1=>tr σ H1 fun xs H2=>Q (x::xs) H2
section
variable {X:Cx} {e:Expr} {es:List Expr} {te:TE} {t:TA} {pos:Pos}
theorem jf:PA X [] q_:=fun _ _ _ _ H Q I h=>Calls.spliced_nil ⟨[],H,I,.nil,h⟩
theorem Dl (ha:PE X e te) (hr:PA X es t) (hs:starEach (e::es) X.env=(false,eval e X.env)::starEach es X.env:=by rfl):PA X (e::es) (gG te t):=by
 intro pos pins s σ H Q I h
 rw [hs]
 show wpAny _ _ (spliced ((false,eval e X.env)::backTo pos (starEach es X.env))) _ _ s
 refine Calls.spliced_cons (thn (ha pins s σ H _ I h) fun u s1 ⟨x,H1,I1,r1,q1⟩=>?_)
 exact thn (hr pos pins s1 σ H1 _ I1 q1) fun us s2 ⟨xs,H2,I2,r2,q2⟩=>⟨x::xs,H2,I2,.cons r1 r2,q2⟩
noncomputable def Iq (t:TA):TE:=fun σ H Q=>t σ H fun xs H1=>xs.length≤sizeLine∧∀p,H1 p=none→Q (.ref p) (upd H1 p (.tup xs))
noncomputable def IC (t:TA):TE:=fun σ H Q=>t σ H fun xs H1=>xs.length≤sizeLine∧∀p,H1 p=none→Q (.ref p) (upd H1 p (.lst xs))
theorem Gi {x1} (h:PA X es t):PE X (.Tuple es x1 pos) (Iq t):=by
 intro pins s σ H Q I hq
 refine wpAny_Tuple_spliced (thn (h pos pins s σ H _ I hq) fun us s1 ⟨xs,H1,I1,r,z,q⟩=>⟨by rw [←r.length];exact z,?_⟩)
 have hf:H1 s1.heap.objs.size=none:=I1.hok.fresh (Nat.le_refl _)
 refine ⟨.ref s1.heap.objs.size,upd H1 s1.heap.objs.size (.tup xs),I1.laid (t':=s1.toks) (fun b u e=>Heap.get?_push_of_some _ e) (Nat.le_refl _) ?_,rfl,q _ hf⟩
 exact ⟨z,us,r,⟨_,Heap.get?_push_size _ rfl,rfl,_,rfl⟩⟩
theorem Fs (h:PA X es t):PE X (.List es pos) (IC t):=by
 intro pins s σ H Q I hq
 refine wpAny_List_spliced (thn (h pos pins s σ H _ I hq) fun us s1 ⟨xs,H1,I1,r,z,q⟩=>⟨by rw [←r.length];exact z,?_⟩)
 have hf:H1 s1.heap.objs.size=none:=I1.hok.fresh (Nat.le_refl _)
 refine ⟨.ref s1.heap.objs.size,upd H1 s1.heap.objs.size (.lst xs),I1.laid (t':=s1.toks) (fun b u e=>Heap.get?_push_of_some _ e) (Nat.le_refl _) ?_,rfl,q _ hf⟩
 exact ⟨z,us,0,r,Heap.get?_push_size _ rfl⟩
end
noncomputable abbrev Sp:=List V→Hp→VK→XK→Prop
noncomputable abbrev CXT:=List Env→Hp→Shared→XK→Value→Shared→Prop
structure qc (P:Program) (w:World) (K:PySem.W.Frag) (mg:Str→Option Value) (base:Heap) (A:Around) (outer:List Env) (s:Shared) (H:Hp):Prop where
 frames:A.frames=some outer
 mod:Mod K mg base
 bs:∀b o,base.get? b=some o→s.heap.get? b=some o∧H b=none
 bsz:base.objs.size≤s.heap.objs.size
 funs:s.heap.FunFrames base outer
 frf:∀b∈frs outer,H b=none
 hok:HOk P w H s.heap
 bare:AllBare s.gens
noncomputable def CE (outer:List Env) (P:Program) (w:World) (H:Hp) (s:Shared) (Q:VK) (u:Value) (s':Shared):Prop :=
 ∃v H',s'.os=s.os∧AllBare s'.gens∧Un (frs outer) [] H H' s.heap s'.heap∧HOk P w H' s'.heap∧RelV v u∧Q v H'
noncomputable def CR (CX:CXT) (outer:List Env) (P:Program) (w:World) (H:Hp) (s:Shared) (Q:VK) (E:XK) (r:Result) (s':Shared):Prop :=
 match r with
 | .ok (.ret u)=>CE outer P w H s Q u s'
 | .ok _=>False
 | .error e=>CX outer H s E e s'
structure nG (P:Program) (w:World) (K:PySem.W.Frag) (mg:Str→Option Value) (base:Heap) (CX:CXT) (k:Nat) (f:Addr) (fd:FuncData) (ps:List Str) (sp:Sp):Prop where
 len:∀vs H Q E,sp vs H Q E→vs.length=ps.length
 run:∀(A:Around) (outer:List Env) (s:Shared) (H:Hp) (args:Args) (us:List Value) (vs:List V) (Q:VK) (E:XK),Room k A→qc P w K mg base A outer s H→BindsTo s fd args (ps.zip us)→Vals vs us→sp vs H Q E →
  codeAny (model P w) A (.call (.ref f) args) (CR CX outer P w H s Q E) s
section
variable {X:Cx} {pins:List (Addr × Obj)} {σ:St} {H:Hp} {s s':Shared}
theorem Inv.env0 (I:Inv X pins σ H s):qc X.prog X.w X.K X.mg X.base X.A X.stack s H :=
 ⟨I.ok.frames,I.ok.mod,I.bs,Nat.le_trans I.ok.bsz I.sz,I.stack,I.stkFree,I.hok,I.bare⟩
theorem Inv.after {Q:VK} {u:Value} (I:Inv X pins σ H s) (h:CE X.stack X.prog X.w H s Q u s'):EP X pins σ Q u s':=by
 obtain ⟨v,H',os,bare,un,hok,r,q⟩:=h
 obtain ⟨hh,g,d,t,os'⟩:=s'
 obtain rfl:os'=s.os:=os
 exact ⟨v,H',I.call (h':=hh) (g':=g) (d':=d) (t':=t) (ch:=[]) un hok bare (fun b z=>absurd z (by simp)),r,q⟩
end
noncomputable def oR (sp:Sp) (dvs:List V) (E:XK) (t:TA):TE:=fun σ H Q=>t σ H fun vs H1=>sp (vs++dvs) H1 Q E
noncomputable def Binds (K:PySem.W.Frag) (fd:FuncData) (ps:List Str) (ds:List Value):Prop :=
 ∀(s:Shared) (us:List Value),K.In s.heap→(us++ds).length=ps.length→BindsTo s fd ⟨us,[]⟩ (ps.zip (us++ds))
theorem Binds.all {K:PySem.W.Frag} {fd:FuncData} {ps:List Str} (h:∀us:List Value,us.length=ps.length→bindArgs fd ⟨us,[]⟩=pure (ps.zip us)):Binds K fd ps []:=fun s us _ hl=>by
 rw [List.append_nil] at hl ⊢
 exact .of_eq (h us hl)
noncomputable def pD (CX:CXT) (X:Cx) (E:XK):Prop:=∀(pins:List (Addr × Obj)) (σ:St) (H:Hp) (s:Shared) (e:Value) (s':Shared),Inv X pins σ H s→CX X.stack H s E e s'→X.xe e s'
section
variable {X:Cx} {CX:CXT} {k:Nat} {f C:Addr} {fd:FuncData} {ps:List Str} {sp:Sp} {dvs:List V} {ds:List Value} {E:XK} {x m:Str} {p pos apos:Pos} {e o:Expr} {es:List Expr} {ta:TE} {t:TA}
theorem Bn {pins:List (Addr × Obj)} {σ:St} {H:Hp} {s:Shared} {Q:VK} {us:List Value} {vs:List V} (F:nG X.prog X.w X.K X.mg X.base CX k f fd ps sp) (hr:Room k X.A) (hb:Binds X.K fd ps ds) (hd:Vals dvs ds) (hx:pD CX X E)
  (I:Inv X pins σ H s) (r:Vals vs us) (h:sp (vs++dvs) H Q E):wpAny (model X.prog X.w) X.A (call (.ref f) us) (EP X pins σ Q) X.xe s:=by
 have r2:Vals (vs++dvs) (us++ds):=r.append hd
 have hl:(us++ds).length=ps.length:=by rw [←r2.length];exact F.len _ _ _ _ h
 refine wpAny_call (codeAny_mono (F.run X.A X.stack s H ⟨us,[]⟩ (us++ds) (vs++dvs) Q E hr I.env0 (hb s us I.kIn hl) r2 h) fun r s' hq=>?_)
 cases r with
 | error e=>exact hx pins σ H s e s' I hq
 | ok fl =>
  cases fl with
  | ret u=>exact I.after hq
  | next=>exact False.elim hq
  | brk=>exact False.elim hq
  | cont=>exact False.elim hq
theorem C_ (F:nG X.prog X.w X.K X.mg X.base CX k f fd ps sp) (hr:Room k X.A) (hg:Gl X x) (hm:X.mg x=some (.ref f)) (hk:PySem.W.keepIn X.K (.ref f)=true) (hb:Binds X.K fd ps ds) (hd:Vals dvs ds) (hx:pD CX X E)
  (ha:PA X (e::es) t) (hdb:(x == ("__debug__":Str))=false:=by decide) (he:starEach (e::es) X.env=(false,eval e X.env)::starEach es X.env:=by rfl) (hpl:(backTo pos (starEach es X.env)).any (·.1)=false:=by rfl) :
  PE X (.Call (.Name x p) (e::es) [] pos) (oR sp dvs E t):=by
 intro pins s σ H Q I h
 refine wpAny_Call_Name_kw (lJ I hg hm ?_ hdb)
 refine PySem.W.callWith_K (h₀:=X.base) I.ok.mod.kin hk (thn (ha pos pins s σ H _ I h) fun us s1 ⟨vs,H1,I1,r,q⟩=>⟨I1.kIn,?_⟩) he hpl
 exact Bn F hr hb hd hx I1 r q
theorem AA (F:nG X.prog X.w X.K X.mg X.base CX k f fd ps sp) (hr:Room k X.A) (hg:Gl X x) (hm:X.mg x=some (.ref f)) (hk:PySem.W.keepIn X.K (.ref f)=true) (hb:Binds X.K fd ps ds) (hd:Vals dvs ds) (hx:pD CX X E)
  (hdb:(x == ("__debug__":Str))=false:=by decide):PE X (.Call (.Name x p) [] [] pos) (oR sp dvs E q_):=by
 intro pins s σ H Q I h
 refine wpAny_Call_Name_kw (lJ I hg hm ?_ hdb)
 exact PySem.W.callWith_K0 I.kIn hk (Bn (us:=[]) F hr hb hd hx I .nil h)
structure Mk (K:PySem.W.Frag) (C f:Addr):Prop where
 makes:PySem.W.makesIn K C=true
 init:PySem.W.findIn K (.ref C) "__init__"=some (some (.ref f))
 fn:PySem.W.isFn K (.ref f)=true
 kp:PySem.W.keepIn K (.ref C)=true
end
section
variable {X:Cx} {CX:CXT} {k:Nat} {f C:Addr} {fd:FuncData} {ps ks:List Str} {sp:Sp} {E:XK} {x m:Str} {p pos apos kpos:Pos} {e o:Expr} {es:List Expr} {kws:List Keyword} {te ta:TE} {t tk:TA} {nm:Option Str}
structure ID (K:PySem.W.Frag) (fd:FuncData) (ps ks:List Str) (g:List Value→List Value→List Value) (gV:List V→List V→List V):Prop where
 to:∀(s:Shared) (us ws:List Value),K.In s.heap→(g us ws).length=ps.length→BindsTo s fd ⟨us,ks.zip ws⟩ (ps.zip (g us ws))
 rel:∀ {vs:List V} {us:List Value} {zs:List V} {ws:List Value},Vals vs us→Vals zs ws→Vals (gV vs zs) (g us ws)
variable {g:List Value→List Value→List Value} {gV:List V→List V→List V}
end
structure ai (N P:List Str) (sc:Scope):Prop where
 kind:sc.kind=.function
 co:sc.isCoroutine=false
 gen:sc.isGenerator=false
 nd:N.Nodup
 pre:N.take P.length=P
 par:∀x∈P,sc.names.lookup x=some .local∨sc.names.lookup x=some .cell
 nofree:∀y∈sc.names,y.2≠.free
theorem oE {kindOf:Str→Option NameKind} {x:Str}:∀ {binds:List (Str × Value)} {m:Str→Option Value},(∀v,(x,v) ∉ binds)→bindL kindOf binds m x=m x
 | [],_,_=>rfl
 | (n,v)::r,m,h=>by
  unfold bindL
  rw [oE fun w hw=>h w (List.mem_cons_of_mem _ hw)]
  split
  ·have:x≠n:=by rintro rfl;exact h v List.mem_cons_self
   simp [this]
  ·rfl
theorem ox {kindOf:Str→Option NameKind} {x:Str}:∀ {binds:List (Str × Value)} {m:Str→Option Value},(∀v,(x,v) ∉ binds)→bindC kindOf binds m x=m x
 | [],_,_=>rfl
 | (n,v)::r,m,h=>by
  unfold bindC
  rw [ox fun w hw=>h w (List.mem_cons_of_mem _ hw)]
  split
  ·rfl
  ·have:x≠n:=by rintro rfl;exact h v List.mem_cons_self
   simp [this]
theorem oO {kindOf:Str→Option NameKind} {x:Str} {v:Value}:∀ {P:List Str} {vs:List Value} {i:Nat} {m:Str→Option Value},P.Nodup→P[i]?=some x→vs[i]?=some v→kindOf x=some .local →
  bindL kindOf (P.zip vs) m x=some v
 | [],_,_,_,_,h,_,_=>by simp at h
 | _::_,[],_,_,_,_,h,_=>by simp at h
 | p::P,w::vs,0,m,nd,h1,h2,hk=>by
  simp at h1 h2;subst h1;subst h2
  show bindL kindOf ((p,w)::P.zip vs) m p=_
  unfold bindL
  rw [oE fun v hv=>(List.nodup_cons.mp nd).1 (List.of_mem_zip hv).1,if_pos hk]
  simp
 | p::P,w::vs,i+1,m,nd,h1,h2,hk=>by
  show bindL kindOf ((p,w)::P.zip vs) m x=_
  unfold bindL
  exact oO (i:=i) (List.nodup_cons.mp nd).2 (by simpa using h1) (by simpa using h2) hk
theorem oJ {kindOf:Str→Option NameKind} {x:Str} {v:Value}:∀ {P:List Str} {vs:List Value} {i:Nat} {m:Str→Option Value},P.Nodup→P[i]?=some x→vs[i]?=some v→kindOf x≠some .local →
  bindC kindOf (P.zip vs) m x=some v
 | [],_,_,_,_,h,_,_=>by simp at h
 | _::_,[],_,_,_,_,h,_=>by simp at h
 | p::P,w::vs,0,m,nd,h1,h2,hk=>by
  simp at h1 h2;subst h1;subst h2
  show bindC kindOf ((p,w)::P.zip vs) m p=_
  unfold bindC
  rw [ox fun v hv=>(List.nodup_cons.mp nd).1 (List.of_mem_zip hv).1,if_neg hk]
  simp
 | p::P,w::vs,i+1,m,nd,h1,h2,hk=>by
  show bindC kindOf ((p,w)::P.zip vs) m x=_
  unfold bindC
  exact oJ (i:=i) (List.nodup_cons.mp nd).2 (by simpa using h1) (by simpa using h2) hk
noncomputable def start (N:List Str) (vs:List V):St:=vs.map some++List.replicate (N.length-vs.length) none
noncomputable def iI (CX:CXT) (P:Program) (w:World) (K:PySem.W.Frag) (mg:Str→Option Value) (base:Heap) (N:List Str) (qual:Str) (scope:Scope) (f:Addr) (cd:Value) (A:Around) (outer:List Env) (s:Shared) (H:Hp) (E:XK):Cx where
 prog:=P
 w:=w
 K:=K
 mg:=mg
 base:=base
 A:=A.deeper (envOfC qual scope s.heap.objs.size f cd)
 N:=N
 s₀:=s
 H₀:=H
 env:=envOfC qual scope s.heap.objs.size f cd
 outer:=outer
 stack:=envOfC qual scope s.heap.objs.size f cd::outer
 ex:=[]
 calm:=true
 fn:=fun _=>true
 pn:=[]
 xe:=fun e s'=>wpAny (model P w) (A.deeper (envOfC qual scope s.heap.objs.size f cd)) (leaving (envOfC qual scope s.heap.objs.size f cd) e) (fun _ s''=>CX outer H s E e s'') (fun e' s''=>CX outer H s E e' s'') s'
theorem rO {sc:Scope} {n:Nat} {x:Str} (h:sc.names.lookup x=some .cell):∃c,(cellsFrom n sc.names []).lookup x=some c:=by
 have q:=PySem.W.cellsFrom_some sc.names n [] (.inl h)
 exact Option.isSome_iff_exists.mp q
theorem oF {CX:CXT} {P:Program} {w:World} {K:PySem.W.Frag} {mg:Str→Option Value} {base:Heap} {N ps:List Str} {qual:Str} {scope:Scope} {f:Addr} {cd:Value} {A:Around} {outer:List Env} {s s1:Shared} {H:Hp} {E:XK} {us:List Value} {vs:List V}
  (S:ai N ps scope) (hd:A.handled=none) (e0:qc P w K mg base A outer s H) (hl:vs.length=ps.length) (r:Vals vs us)
  (x:InCallC s s.heap.objs.size (bindL (envOfC qual scope s.heap.objs.size f cd).kindOf (ps.zip us) fun _=>none) (cellsFrom (s.heap.objs.size+1) scope.names []) (bindC (envOfC qual scope s.heap.objs.size f cd).kindOf (ps.zip us) fun _=>none) s1) :
  Inv (iI CX P w K mg base N qual scope f cd A outer s H E) [] (start N vs) H s1:=by
 have hpl:ps.length≤N.length:=by have:=congrArg List.length S.pre;rw [List.length_take] at this;omega
 obtain ⟨h1,tk,rfl,hk⟩:=x.done
 have noA:∀b:Addr,b ∉ (iI CX P w K mg base N qual scope f cd A outer s H E).ex:=fun b z=>absurd (show b∈([]:List Addr) from z) (by simp)
 refine ⟨⟨e0.mod,S.kind,rfl,rfl,Nat.le_refl _,fun y z c h1 h2=>?_,fun y hy=>?_,fun y c _ h=>?_,fun _=>hd,Around.frames_deeper e0.frames,.inr ⟨rfl,rfl⟩,fun b z=>absurd z (noA b),e0.bs,e0.bsz,fun b _ _=>noA b,fun b z=>absurd z (noA b),e0.funs,e0.frf⟩,
  rfl,e0.bare,Un.kept hk,⟨_,x.toInCall.ns,fun i y v h1 h2 h3=>?_⟩,fun y c h=>⟨_,x.cell y c h⟩,e0.hok.fresh (Nat.le_refl _),fun y c h=>?_,fun p hp=>absurd (show p∈([]:List (Addr × Obj)) from hp) (by simp),e0.hok.kept hk,?_⟩
 ·exact name_of_addr x.apart (PySem.mem_of_lookup h1) (PySem.mem_of_lookup h2)
 ·have hy:scope.names.lookup y=some .cell∨scope.names.lookup y=some .free:=hy
  rcases hy with hy|hy
  ·exact rO hy
  ·exact absurd rfl (S.nofree _ (PySem.mem_of_lookup hy))
 ·exact Nat.le_of_lt (x.above y c (PySem.mem_of_lookup h))
 ·have hi:i<vs.length:=by
   unfold start at h2
   by_cases hi:i<vs.length
   ·exact hi
   ·rw [List.getElem?_append_right (by simpa using hi)] at h2
    rw [List.getElem?_replicate] at h2
    split at h2 <;> cases h2
  have ha:vs[i]?=some v:=by
   unfold start at h2
   rw [List.getElem?_append_left (by simpa using hi),List.getElem?_map] at h2
   cases e:vs[i]? with
   | none=>rw [e] at h2;cases h2
   | some a=>rw [e] at h2;cases h2;rfl
  obtain ⟨u,hu,rv⟩:=r.get ha
  have hp:ps[i]?=some y:=by
   rw [←S.pre,List.getElem?_take_of_lt (by omega)];exact h1
  have ndP:ps.Nodup:=by rw [←S.pre];exact S.nd.sublist (List.take_sublist _ _)
  refine ⟨u,rv,?_⟩
  rcases S.par y (List.mem_of_getElem? hp) with k|k
  ·exact .inl ⟨k,oO ndP hp hu k⟩
  ·obtain ⟨c,e⟩:=rO (n:=s.heap.objs.size+1) k
   refine .inr ⟨.inl k,c,e,?_⟩
   have q:=x.cell y c e
   rw [oJ ndP hp hu (by show scope.names.lookup y≠_;rw [k];decide)] at q
   exact q
 ·exact e0.hok.fresh (Nat.le_of_lt (x.above y c (PySem.mem_of_lookup h)))
 ·unfold start
  show _=N.length
  rw [List.length_append,List.length_map,List.length_replicate]
  omega
theorem DE {CX:CXT} {P:Program} {w:World} {K:PySem.W.Frag} {mg:Str→Option Value} {base:Heap} {k:Nat} {f:Addr} {name qual:Str} {params:Arguments} {body:List Stmt} {scope:Scope} {dV kV doc pm cdv ct oc:Value} {an od:Option Addr}
  {osl:Array (Option Value)} {N ps:List Str} {sp:Sp} (lk:K.lookup f=some ⟨oc,od,.func (PySem.W.fnOf name qual params body scope dV kV doc pm an cdv ct),osl⟩) (hcd:PySem.W.codeIn K cdv qual=true) (S:ai N ps scope)
  (len:∀vs H Q E,sp vs H Q E→vs.length=ps.length)
  (hbody:∀(A:Around) (outer:List Env) (s:Shared) (H:Hp) (vs:List V) (Q:VK) (E:XK),Room k (A.deeper (envOfC qual scope s.heap.objs.size f cdv))→sp vs H Q E →
   ∃t,PSs (iI CX P w K mg base N qual scope f cdv A outer s H E) body t∧t { nx:=fun _ H'=>Q .non H',rt:=Q } (start N vs) H) :
  nG P w K mg base CX (k+1) f (PySem.W.fnOf name qual params body scope dV kV doc pm an cdv ct) ps sp:=by
 refine ⟨len,fun A outer s H args us vs Q E hr e0 hb r hsp=>?_⟩
 have hl:=len _ _ _ _ hsp
 have KX:K.In s.heap:=e0.mod.kin.keeps fun b o e=>(e0.bs b o e).1
 have lim:s.heap.NoLimit:=e0.mod.nolimit.keeps fun b o e=>(e0.bs b o e).1
 have hkind:∀y∈ps.zip us,scope.names.lookup y.1=some .local∨(scope.names.lookup y.1=some .cell∧((cellsFrom (s.heap.objs.size+1) scope.names []).lookup y.1).isSome=true):=fun ⟨n,v⟩ hy=>by
  rcases S.par n (List.of_mem_zip hy).1 with q|q
  ·exact .inl q
  ·exact .inr ⟨q,PySem.W.cellsFrom_some _ _ _ (.inl q)⟩
 refine codeAny_call_function hr.depth (KX _ _ lk) rfl S.co S.gen rfl (PySem.W.codeRec_of KX hcd) (hb _ _ _ _ ?_)
 refine wpAny_newFunctionEnv_cells S.kind hkind fun env he s1 x=>?_
 subst he
 refine ⟨lim.keeps x.toInCall.keep,codeAny_func ?_⟩
 obtain ⟨t,ht,hq⟩:=hbody A outer s H vs Q E (hr.deeper _) hsp
 have I:Inv (iI CX P w K mg base N qual scope f cdv A outer s H E) [] (start N vs) H s1:=oF S hr.hd e0 hl r x
 refine wpAny_mono (ht [] s1 (start N vs) H _ I hq) (fun fl s' hs=>?_) fun e s' hs=>hs
 have fin:∀ {σ':St} {H':Hp} {v:V} {u:Value},Inv (iI CX P w K mg base N qual scope f cdv A outer s H E) [] σ' H' s'→RelV v u→Q v H'→CE outer P w H s Q u s' :=
  fun {σ' H' v u} J rv q=>⟨v,H',J.os,J.bare,J.base,J.hok,rv,q⟩
 cases fl with
 | ret u =>
  obtain ⟨v,σ',H',J,rv,q⟩:=hs
  exact fin J rv q
 | next =>
  obtain ⟨σ',H',J,q⟩:=hs
  exact fin (v:=V.non) (u:=Value.none) J rfl q
 | brk =>
  obtain ⟨_,_,_,q⟩:=hs
  exact False.elim q
 | cont =>
  obtain ⟨_,_,_,q⟩:=hs
  exact False.elim q
end L2
namespace L2
open PySem PySem.Spec PyProof.Rows
section
variable {X:Cx} {x:Str} {p pos:Pos} {e:Expr} {es:List Expr} {t:TA} {id T:String} {r:List V→Hp→VK→Prop}
noncomputable def tCB (r:List V→Hp→VK→Prop) (t:TA):TE:=fun σ H Q=>t σ H fun vs H1=>r vs H1 Q
theorem Bh (hc:gq X (.builtin id) r) (hg:Gl X x) (hm:X.mg x=none) (hv:bootBuiltins x=some (.builtin id)) (ha:PA X (e::es) t) (hn:x≠"__name__":=by decide) (hdb:(x == ("__debug__":Str))=false:=by decide)
  (he:starEach (e::es) X.env=(false,eval e X.env)::starEach es X.env:=by rfl) (hpl:(backTo pos (starEach es X.env)).any (·.1)=false:=by rfl):PE X (.Call (.Name x p) (e::es) [] pos) (tCB r t):=by
 intro pins s σ H Q I h
 refine wpAny_Call_Name_kw (ji I hg hm hv ?_ hn hdb)
 exact PyProof.Rows.callWith_builtin1 (thn (ha pos pins s σ H _ I h) fun us s1 ⟨vs,H1,I1,r1,q1⟩=>hc pins s1 σ H1 vs us Q I1 r1 q1) he hpl
theorem xC (hc:gq X (.type T) r) (hg:Gl X x) (hm:X.mg x=none) (hv:bootBuiltins x=some (.type T)) (ha:PA X (e::es) t) (hn:x≠"__name__":=by decide) (hdb:(x == ("__debug__":Str))=false:=by decide)
  (he:starEach (e::es) X.env=(false,eval e X.env)::starEach es X.env:=by rfl) (hpl:(backTo pos (starEach es X.env)).any (·.1)=false:=by rfl):PE X (.Call (.Name x p) (e::es) [] pos) (tCB r t):=by
 intro pins s σ H Q I h
 refine wpAny_Call_Name_kw (ji I hg hm hv ?_ hn hdb)
 exact PyProof.Rows.callWith_type1 (thn (ha pos pins s σ H _ I h) fun us s1 ⟨vs,H1,I1,r1,q1⟩=>hc pins s1 σ H1 vs us Q I1 r1 q1) he hpl
end
end L2
namespace HT
open PySem PyProof.Rows
section
open PySem.SeqAt
open PySem.AutoSeq1 (wpAny_loadPart')
open PySem.MeetsSeq PySem.MeetsSeq2 PySem.MeetsSeq3
end
section
variable {prog:Program} {w:World} {A:Around} {E:Value→Shared→Prop} {s:Shared}
theorem cat_tup {t b:Addr} {vs ws:List Value} {Q:Value→Shared→Prop} (ht:IsTup s.heap t vs.toArray) (hb:IsTup s.heap b ws.toArray) (hv:vs≠[])
  (h1:ws=[]→Q (.ref t) s) (h2:ws≠[]→Q (.ref s.heap.objs.size) { s with heap:=s.heap.push { cls:=.type "tuple",data:=.seq (vs++ws).toArray } })
  (hsz:vs.length+ws.length≤sizeLine):wpAny (model prog w) A (binaryOp .Add (.ref t) (.ref b)) Q E s:=by
 obtain ⟨⟨cls,dd,data,sl⟩,ho,hc,n,hd⟩:=id ht
 obtain ⟨⟨cls2,dd2,data2,sl2⟩,ho2,hc2,n2,hd2⟩:=id hb
 simp only at hc hd hc2 hd2
 subst hc hd hc2 hd2
 have e:vs.toArray++ws.toArray=(vs++ws).toArray:=by simp
 by_cases hw:ws=[]
 ·exact concat_meets ⟨_,ho,rfl⟩ ⟨_,ho2,rfl⟩ noFill_tuple_add seq_tuple_add PySem.F.slot_tuple_add PySem.F.entry_tuple_add (PySem.F.args_tuple_add_2 _ _)
   (tuple_addW1 t b vs.toArray ws.toArray n n2 dd dd2 sl sl2 (by simpa using hv) (by simp [hw])) ⟨ho,ho2,h1 hw⟩
 ·refine concat_meets ⟨_,ho,rfl⟩ ⟨_,ho2,rfl⟩ noFill_tuple_add seq_tuple_add PySem.F.slot_tuple_add PySem.F.entry_tuple_add (PySem.F.args_tuple_add_2 _ _)
   (tuple_addW2 t b vs.toArray ws.toArray n n2 dd dd2 sl sl2 (by simpa using hv) (by simpa using hw) (by rw [List.size_toArray,List.size_toArray];exact hsz)) ⟨ho,ho2,?_⟩
  rw [e]
  exact h2 hw
noncomputable def sIx (n d:Nat):Option Int→Nat
 | none=>d
 | some v=>if v<0 then (v+(n:Int)).toNat else min v.toNat n
theorem Fz (n d:Nat) (hd:d≤n) (o:Option Int):sIx n d o≤n:=by
 cases o with
 | none=>exact hd
 | some v =>
  show (if v<0 then (v+(n:Int)).toNat else min v.toNat n)≤n
  by_cases hv:v<0
  ·rw [if_pos hv];omega
  ·rw [if_neg hv];exact Nat.min_le_right _ _
theorem wm (v:Int) (n d:Nat):(if v<0 then max (v+(n:Int)) 0 else min v (n:Int))=((sIx n d (some v):Nat):Int):=by
 show (if v<0 then max (v+(n:Int)) 0 else min v (n:Int))=(((if v<0 then (v+(n:Int)).toNat else min v.toNat n):Nat):Int)
 by_cases hv:v<0
 ·simp only [if_pos hv];omega
 ·simp only [if_neg hv];omega
theorem tZ (lo hi:Option Int) (n:Nat):Builtin.Slice.sliceAdjust lo hi 1 (n:Int)=(((sIx n 0 lo:Nat):Int),((sIx n n hi:Nat):Int)):=by
 have h1:¬((1:Int)<0):=by omega
 unfold Builtin.Slice.sliceAdjust
 simp only [h1,if_false]
 refine Prod.ext ?_ ?_
 ·cases lo with
  | none=>rfl
  | some v=>exact wm v n 0
 ·cases hi with
  | none=>rfl
  | some v=>exact wm v n n
theorem u_ (i j:Nat):Builtin.Slice.slicePlaces (i:Int) (j:Int) 1=j-i:=by
 unfold Builtin.Slice.slicePlaces
 have h1:(1:Int) > 0:=by omega
 simp only [h1,if_true,Int.ediv_one]
 split <;> omega
theorem ms {v:Value} {o:Option Int} {Q:Option Int→Shared→Prop} (p:IsPart v o) (h:Q o s):wpAny (model prog w) A (Builtin.Slice.slicePartIndex v) Q E s:=by
 cases p with
 | none=>exact slicePart_none h
 | int i t=>exact slicePart_int h
theorem sliceApplied_gen {sl:Addr} {vl vu:Value} {lo hi:Option Int} {n:Nat} {Q:Int × Int × Nat→Shared→Prop} (hs:s.heap.IsSliceOf sl vl vu .none) (pl:IsPart vl lo) (pu:IsPart vu hi)
  (h:Q (((sIx n 0 lo:Nat):Int),1,sIx n n hi-sIx n 0 lo) s):wpAny (model prog w) A (Builtin.Slice.sliceApplied (.ref sl) (pure (n:Int))) Q E s:=by
 obtain ⟨os,hos,hcs,hds⟩:=id hs
 unfold Builtin.Slice.sliceApplied Builtin.Slice.sliceFields
 refine wpAny_bind (wpAny_bind (wpAny_field hos hds (x:=vl) rfl (wpAny_bind (wpAny_field hos hds (x:=vu) rfl (wpAny_bind (wpAny_field hos hds (x:=.none) rfl (wpAny_pure ?_)))))))
 refine wpAny_bind (slicePart_none ?_)
 show wpAny _ _ (if ((1:Int) == 0)=true then _ else _) _ _ s
 rw [if_neg (by decide)]
 refine wpAny_bind (ms pl (wpAny_bind (ms pu (wpAny_bind (wpAny_pure ?_)))))
 show wpAny _ _ (match Builtin.Slice.sliceAdjust lo hi 1 (n:Int) with|(lo,hi)=>pure (lo,(1:Int),Builtin.Slice.slicePlaces lo hi 1)) _ _ s
 rw [tZ lo hi n]
 show wpAny _ _ (pure (((sIx n 0 lo:Nat):Int),(1:Int),Builtin.Slice.slicePlaces ((sIx n 0 lo:Nat):Int) ((sIx n n hi:Nat):Int) 1)) _ _ s
 rw [u_]
 exact wpAny_pure h
theorem BG (xs:Array Value) (i k:Nat):((List.range k).filterMap fun (m:Nat)=>xs[((i:Int)+(m:Int)*1).toNat]?).toArray=((xs.toList.drop i).take k).toArray:=by
 have e:(fun (m:Nat)=>xs[((i:Int)+(m:Int)*1).toNat]?)=fun m=>xs[i+m]?:=by
  funext m
  have:((i:Int)+(m:Int)*1).toNat=i+m:=by omega
  rw [this]
 rw [e]
 have:=pick_run xs i k
 rw [List.filterMap_map] at this
 have e2:((fun x=>xs[x]?) ∘ fun x=>i+x)=fun m=>xs[i+m]?:=rfl
 rw [e2] at this
 rw [this]
theorem getItem_tuple_cut {t sl:Addr} {items:Array Value} {vl vu:Value} {lo hi:Option Int} {Q:Value→Shared→Prop} (ht:IsTup s.heap t items) (hs:s.heap.IsSliceOf sl vl vu .none) (pl:IsPart vl lo) (pu:IsPart vu hi)
  (hw:¬(sIx items.size 0 lo=0∧sIx items.size items.size hi=items.size))
  (h:Q (.ref s.heap.objs.size) { s with heap:=s.heap.push { cls:=.type "tuple",data:=.seq ((items.toList.drop (sIx items.size 0 lo)).take (sIx items.size items.size hi-sIx items.size 0 lo)).toArray } })
  (hsz:items.size≤sizeLine):wpAny (model prog w) A (getItem (.ref t) (.ref sl)) Q E s:=by
 have htake:sizeOk (.seq ((items.toList.drop (sIx items.size 0 lo)).take (sIx items.size items.size hi-sIx items.size 0 lo)).toArray):=by
  show ((items.toList.drop (sIx items.size 0 lo)).take (sIx items.size items.size hi-sIx items.size 0 lo)).toArray.size≤sizeLine
  rw [List.size_toArray,List.length_take,List.length_drop,Array.length_toList]
  omega
 have hj:sIx items.size items.size hi≤items.size:=Fz _ _ (Nat.le_refl _) hi
 obtain ⟨os,hos,hcs,hds⟩:=id hs
 have hTs:s.TypeIs (.ref sl) "slice":=⟨os,hos,hcs⟩
 unfold getItem
 try with_reducible refine wpAny_holding ?_
 first|refine wpAny_bind (wpAny_pure ?_)|skip
 refine wpAny_bind (wpAny_sequenceKey ht.typeIs (by decide) ?_)
 refine wpAny_bind (wpAny_callSpecial?_slot (name:=Str.ofString "__getitem__") ht.typeIs PyProof.Rows.slot_tuple_getitem
  (wpAny_call_entry PyProof.Rows.slot_tuple_getitem ht.typeIs entry_tuple_getitem ?_ (args_tuple_getitem _ _)))
 show wpAny _ _ (Builtin.Tuple.tupleItemsOf (.ref t) >>= _) _ _ s
 refine wpAny_bind (tupleItemsOf_ ht ?_)
 refine wpAny_bind (wpAny_typeOf hTs ?_)
 rw [if_pos (by decide)]
 refine wpAny_bind (sliceApplied_gen hs pl pu ?_)
 have hno:¬((((sIx items.size 0 lo:Nat):Int) == 0 && (1:Int) == 1 && (sIx items.size items.size hi-sIx items.size 0 lo) == items.size)=true):=by
  intro q
  rw [Bool.and_eq_true,Bool.and_eq_true] at q
  have q1:((sIx items.size 0 lo:Nat):Int)=0:=eq_of_beq q.1.1
  have q2:sIx items.size items.size hi-sIx items.size 0 lo=items.size:=eq_of_beq q.2
  exact hw ⟨by omega,by omega⟩
 show wpAny _ _ (if (((sIx items.size 0 lo:Nat):Int) == 0 && (1:Int) == 1 && (sIx items.size items.size hi-sIx items.size 0 lo) == items.size)=true then _ else _) _ _ s
 rw [if_neg hno,BG]
 first
  | exact wpAny_bind (m:=Builtin.Tuple.tupleExact _) (wpAny_newObj_type (wpAny_pure ⟨_,rfl,wpAny_pure h⟩) htake)
  | exact wpAny_bind (m:=Builtin.Tuple.tupleExact _) (wpAny_newObj_type (wpAny_bind (wpAny_pure (wpAny_pure ⟨_,rfl,wpAny_pure h⟩))) htake)
  | exact wpAny_bind (wpAny_bind (m:=Builtin.Tuple.tupleExact _) (wpAny_newObj_type (wpAny_pure (wpAny_pure ⟨_,rfl,wpAny_pure h⟩)) htake))
  | exact wpAny_bind (wpAny_bind (m:=Builtin.Tuple.tupleExact _) (wpAny_newObj_type (wpAny_pure ⟨_,rfl,wpAny_pure h⟩) htake))
end
end HT
namespace L2
open PySem PySem.Spec PyProof.Rows
noncomputable abbrev TO:=St→Hp→(Option Int→Hp→Prop)→Prop
noncomputable def PO (X:Cx) (e:Option Expr) (t:TO):Prop :=
 ∀(pins:List (Addr × Obj)) (s:Shared) (σ:St) (H:Hp) (Q:Option Int→Hp→Prop),Inv X pins σ H s→t σ H Q →
  wpAny (model X.prog X.w) X.A (evalPart e X.env) (fun u s'=>∃o H',Inv X pins σ H' s'∧IsPart u o∧Q o H') X.xe s
noncomputable def Cr:TO:=fun _ H Q=>Q none H
noncomputable def GK (t:TE):TO:=fun σ H Q=>t σ H fun x H1=>∃i,x=.int i∧Q (some i) H1
section
variable {X:Cx} {e:Expr} {te:TE} {lo hi:Option Expr} {tl th:TO} {pos p2:Pos}
theorem B_:PO X none Cr:=by
 intro pins s σ H Q I h
 rw [evalPart_none]
 exact wpAny_pure ⟨none,H,I,.none,h⟩
theorem Dp (h:PE X e te):PO X (some e) (GK te):=by
 intro pins s σ H Q I hw
 rw [evalPart_some]
 refine thn (h pins s σ H _ I hw) fun u s1 ⟨x,H1,I1,r1,q1⟩=>?_
 obtain ⟨i,rfl,q⟩:=q1
 obtain ⟨t,rfl⟩:=r1
 exact ⟨some i,H1,I1,.int i t,q⟩
noncomputable def SlR (X:Cx) (r:V→Option Int→Option Int→Hp→VK→Prop):Prop :=
 ∀(pins:List (Addr × Obj)) (s:Shared) (σ:St) (H:Hp) (x:V) (v vl vu:Value) (lo hi:Option Int) (sl:Addr) (Q:VK),Inv X pins σ H s→RelV x v→s.heap.IsSliceOf sl vl vu .none→IsPart vl lo→IsPart vu hi→r x lo hi H Q →
  ∃T id,typeLookup (.type T) "__getitem__"=pure (some (.builtin id))∧s.TypeIs v T∧wpAny (model X.prog X.w) X.A (getItem v (.ref sl)) (EP X pins σ Q) X.xe s
noncomputable def tSl (r:V→Option Int→Option Int→Hp→VK→Prop) (te:TE) (tl th:TO):TE:=fun σ H Q=>te σ H fun x H1=>tl σ H1 fun l H2=>th σ H2 fun u H3=>r x l u H3 Q
theorem zL {r:V→Option Int→Option Int→Hp→VK→Prop} (hr:SlR X r) (he:PE X e te) (hl:PO X lo tl) (hu:PO X hi th):PE X (.Subscript e (.Slice lo hi none p2) pos) (tSl r te tl th):=by
 intro pins s σ H Q I h
 refine Subscript_ (thn (he pins s σ H _ I h) fun v s1 ⟨x,H1,I1,r1,q1⟩=>?_)
 refine wpAny_Slice (thn (hl pins s1 σ H1 _ I1 q1) fun vl s2 ⟨l,H2,I2,pl,q2⟩=>thn (hu pins s2 σ H2 _ I2 q2) fun vu s3 ⟨u,H3,I3,pu,q3⟩=>?_)
 rw [evalPart_none]
 refine wpAny_pure ?_
 have I4:Inv X pins σ H3 { s3 with heap:=s3.heap.push { cls:=.type "slice",data:=.fields #[vl,vu,.none] } }:=I3.kept (t':=s3.toks) fun b ob q=>Heap.get?_push_of_some _ q
 obtain ⟨T,id,hT,ht,hg⟩:=hr pins { s3 with heap:=s3.heap.push { cls:=.type "slice",data:=.fields #[vl,vu,.none] } } σ H3 x v vl vu l u s3.heap.objs.size Q I4 r1 (Heap.IsSliceOf.new ..) pl pu q3
 show wpAny (model X.prog X.w) X.A (subscriptTail e (.Slice lo hi none p2) v (.ref s3.heap.objs.size)) (EP X pins σ Q) X.xe { s3 with heap:=s3.heap.push { cls:=.type "slice",data:=.fields #[vl,vu,.none] } }
 exact tail_any (ops:=[.ref s3.heap.objs.size,v]) ht hT hg (by with_unfolding_all rfl)
noncomputable def nH (xs:List V) (lo hi:Option Int):List V:=(xs.drop (HT.sIx xs.length 0 lo)).take (HT.sIx xs.length xs.length hi-HT.sIx xs.length 0 lo)
theorem kR (xs:List V) (lo hi:Option Int):(nH xs lo hi).length≤xs.length:=by
 unfold nH
 rw [List.length_take,List.length_drop]
 omega
noncomputable def Ik (K:PySem.W.Frag):V→Option Int→Option Int→Hp→VK→Prop:=fun x lo hi H Q=>∃a xs,x=.ref a∧SqT K H a xs ∧
 ¬(HT.sIx xs.length 0 lo=0∧HT.sIx xs.length xs.length hi=xs.length)∧∀p,H p=none→Q (.ref p) (upd H p (.tup (nH xs lo hi)))
theorem E5:SlR X (Ik X.K):=by
 intro pins s σ H x v vl vu lo hi sl Q I rx hs pl pu h
 obtain ⟨a,xs,rfl,hx,hw,q⟩:=h
 cases rx
 obtain ⟨its,r,ht,hz⟩:=I.tuple hx
 have hlen:its.toArray.size=xs.length:=by rw [List.size_toArray];exact r.length.symm
 refine ⟨"tuple",_,PyProof.Rows.slot_tuple_getitem.lookup,ht.typeIs,?_⟩
 refine HT.getItem_tuple_cut ht hs pl pu (by rw [hlen];exact hw) ?_ (by rw [hlen];exact hz)
 rw [hlen]
 refine ⟨.ref s.heap.objs.size,_,I.laid (t':=s.toks) (o:=.tup (nH xs lo hi)) (fun b ob q=>Heap.get?_push_of_some _ q) (Nat.le_refl _) ?_,rfl,q _ (I.hok.fresh (Nat.le_refl _))⟩
 exact ⟨Nat.le_trans (kR xs lo hi) hz,_,(r.drop (HT.sIx xs.length 0 lo)).take (HT.sIx xs.length xs.length hi-HT.sIx xs.length 0 lo),IsTup.new _ _⟩
noncomputable def Hk (K:PySem.W.Frag):R2:=fun x y H Q=>∃a b xs ys,x=.ref a∧y=.ref b∧SqT K H a xs∧SqT K H b ys∧xs≠[]∧xs.length+ys.length≤sizeLine ∧
 (ys=[]→Q (.ref a) H)∧(ys≠[]→∀p,H p=none→Q (.ref p) (upd H p (.tup (xs++ys))))
theorem Vals.nil_iff {xs:List V} {us:List Value} (r:Vals xs us):us=[]↔xs=[]:=by
 cases r with
 | nil=>simp
 | cons _ _=>simp
theorem Cl:OpR X (binaryOp .Add) (Hk X.K):=by
 intro pins s σ H x y v u Q I rx ry h
 obtain ⟨a,b,xs,ys,rfl,rfl,ha,hb,hx,hz,q1,q2⟩:=h
 cases rx
 cases ry
 obtain ⟨its,r1,p1,_⟩:=I.tuple ha
 obtain ⟨its2,r2,p2,_⟩:=I.tuple hb
 refine HT.cat_tup p1 p2 (fun z=>hx (r1.nil_iff.mp z)) (fun z=>⟨.ref a,H,I,rfl,q1 (r2.nil_iff.mp z)⟩) (fun z=>?_) (by rw [←r1.length,←r2.length];exact hz)
 refine ⟨.ref s.heap.objs.size,_,I.laid (t':=s.toks) (o:=.tup (xs++ys)) (fun b ob q=>Heap.get?_push_of_some _ q) (Nat.le_refl _) ?_,rfl,q2 (fun w=>z (r2.nil_iff.mpr w)) _ (I.hok.fresh (Nat.le_refl _))⟩
 exact ⟨by rw [List.length_append];exact hz,_,r1.append r2,IsTup.new _ _⟩
end
end L2
namespace L2
open PySem PySem.Spec PyProof.Rows
noncomputable def ixN (n:Nat) (i:Int):Option Nat:=if 0≤i then (if i<n then some i.toNat else none) else if -(n:Int)≤i then some (i+n).toNat else none
noncomputable def atI {α:Type} (xs:List α) (i:Int):Option α:=(ixN xs.length i).bind fun j=>xs[j]?
theorem wf {n:Nat} {i:Int} {j:Nat} (h:ixN n i=some j):seqIndex? i n=some j∧j<n∧-(n:Int)≤i∧i<n:=by
 unfold ixN at h
 by_cases h0:0≤i
 ·rw [if_pos h0] at h
  by_cases h1:i<n
  ·rw [if_pos h1] at h
   have e:i.toNat=j:=Option.some.inj h
   exact ⟨by rw [seqIndex_of h0 h1,e],by omega,by omega,h1⟩
  ·rw [if_neg h1] at h;cases h
 ·rw [if_neg h0] at h
  by_cases h1:-(n:Int)≤i
  ·rw [if_pos h1] at h
   have e:(i+n).toNat=j:=Option.some.inj h
   exact ⟨by rw [seqIndex_neg (by omega) h1,e],by omega,h1,by omega⟩
  ·rw [if_neg h1] at h;cases h
theorem pY {α:Type} {xs:List α} {i:Int} {v:α} (h:atI xs i=some v):∃j,seqIndex? i xs.length=some j∧xs[j]?=some v∧j<xs.length∧-(xs.length:Int)≤i∧i<xs.length:=by
 unfold atI at h
 cases e:ixN xs.length i with
 | none=>rw [e] at h;cases h
 | some j =>
  rw [e] at h
  obtain ⟨h1,h2,h3,h4⟩:=wf e
  exact ⟨j,h1,h,h2,h3,h4⟩
theorem bC {α:Type} {xs:List α} {j:Nat} {v:α} (h:xs[j]?=some v):atI xs (j:Int)=some v:=by
 have hj:j<xs.length:=(List.getElem?_eq_some_iff.mp h).1
 have e:ixN xs.length (j:Int)=some j:=by
  unfold ixN
  rw [if_pos (by omega),if_pos (by omega)];simp
 unfold atI;rw [e];exact h
noncomputable def vY (b:Expr):Prop:=∀o i,subscripted b false o i=operate [o,i] (getItem o i)
noncomputable def IxR (X:Cx) (r:R2):Prop :=
 ∀(value slice:Expr) (pins:List (Addr × Obj)) (s:Shared) (σ:St) (H:Hp) (x y:V) (v u:Value) (Q:VK),Inv X pins σ H s→RelV x v→RelV y u→r x y H Q →
  subscripted slice false v u=operate [v,u] (getItem v u)→wpAny (model X.prog X.w) X.A (subscriptTail value slice v u) (EP X pins σ Q) X.xe s
noncomputable def MtR (X:Cx) (id:String) (r:V→List V→Hp→VK→Prop):Prop :=
 ∀(pins:List (Addr × Obj)) (s:Shared) (σ:St) (H:Hp) (x:V) (xs:List V) (v:Value) (us:List Value) (Q:VK),Inv X pins σ H s→RelV x v→Vals xs us→r x xs H Q →
  wpAny (model X.prog X.w) X.A (call (.builtin id) (v::us)) (EP X pins σ Q) X.xe s
section
variable {X:Cx} {a b:Expr} {ta tb:TE} {pos:Pos}
theorem Hx {r:R2} (hr:IxR X r) (ha:PE X a ta) (hb:PE X b tb) (hs:vY b):PE X (.Subscript a b pos) (tOp r ta tb):=by
 intro pins s σ H Q I h
 exact Subscript_ (D3 ha hb I h fun v u s2 x y H2 I2 rx ry q=>hr a b pins s2 σ H2 x y v u Q I2 rx ry q (hs _ _))
noncomputable def Ix (K:PySem.W.Frag):R2:=fun x y H Q=>∃p xs i v,x=.ref p∧y=.int i∧SqL K H p xs∧atI xs i=some v∧Q v H
noncomputable def Ir (K:PySem.W.Frag):R2:=fun x y H Q=>∃p xs i v,x=.ref p∧y=.int i∧SqT K H p xs∧atI xs i=some v∧Q v H
noncomputable def IK:R2:=fun x y H Q=>∃z i c,x=.str z∧y=.int i∧z.length≤sizeLine∧atI z.cps.toList i=some c∧Q (.str ⟨#[c]⟩) H
theorem DB:IxR X (Ix X.K):=by
 intro value slice pins s σ H x y v u Q I rx ry h hs
 obtain ⟨p,xs,i,z,rfl,rfl,hq,he,q⟩:=h
 cases rx
 obtain ⟨t,rfl⟩:=ry
 obtain ⟨its,r,pl,hz⟩:=I.list hq
 obtain ⟨j,h1,h2,h3,h4,h5⟩:=pY he
 obtain ⟨w,ew,rw'⟩:=r.get h2
 have hl:=r.length
 have hn:=ja
 have fin:EP X pins σ Q w s:=⟨z,H,I,rw',q⟩
 by_cases h0:0≤i
 ·have hj:i.toNat=j:=by
   rw [seqIndex_of h0 h5] at h1
   exact Option.some.inj h1
  exact item_listR pl.isList h0 (by omega) (by rw [hj];simpa using ew) fin hs
 ·have hj:(i+(its.toArray.size:Int)).toNat=j:=by
   rw [seqIndex_neg (by omega) h4] at h1
   rw [List.size_toArray,←hl]
   exact Option.some.inj h1
  exact subscriptTail_builtinR (x:=w) pl.isList.typeIs slot_list_getitem.lookup
   (wpAny_getItem_list_neg (Q:=fun r s'=>r=w∧EP X pins σ Q r s') pl.isList (by omega) (by rw [List.size_toArray] <;> omega) (by omega) (by rw [hj];simpa using ew) ⟨rfl,fin⟩) hs
theorem FZ:IxR X (Ir X.K):=by
 intro value slice pins s σ H x y v u Q I rx ry h hs
 obtain ⟨p,xs,i,z,rfl,rfl,hq,he,q⟩:=h
 cases rx
 obtain ⟨t,rfl⟩:=ry
 obtain ⟨its,r,pl,hz⟩:=I.tuple hq
 obtain ⟨j,h1,h2,h3,h4,h5⟩:=pY he
 obtain ⟨w,ew,rw'⟩:=r.get h2
 have hl:=r.length
 have hn:=ja
 have fin:EP X pins σ Q w s:=⟨z,H,I,rw',q⟩
 exact subscriptTail_builtinR (x:=w) pl.typeIs slot_tuple_getitem.lookup
  (getItem_tuple (j:=j) (Q:=fun r s'=>r=w∧EP X pins σ Q r s') pl (by omega) (by omega) (by rw [List.size_toArray,←hl];exact h1) (by simpa using ew) ⟨rfl,fin⟩) hs
theorem EE:IxR X IK:=by
 intro value slice pins s σ H x y v u Q I rx ry h hs
 obtain ⟨z,i,c,rfl,rfl,hz,he,q⟩:=h
 obtain ⟨t,rfl⟩:=rx
 obtain ⟨t',rfl⟩:=ry
 obtain ⟨j,h1,h2,h3,h4,h5⟩:=pY he
 have hl:z.cps.toList.length=z.length:=by simp [Str.length]
 rw [hl] at h1 h4 h5
 have hn:=ja
 exact tail_any (typeIs_str s z t) slot_str_getitem.lookup (getItem_str (c:=c) (by
  have e1:decide (i < -(2 ^ 63:Int))=false:=decide_eq_false (by omega)
  have e2:decide (i ≥ 2 ^ 63)=false:=decide_eq_false (by omega)
  rw [e1,e2,Bool.or_false]) (by rw [h1];simpa using h2) ⟨.str ⟨#[c]⟩,H,I.tok _,⟨_,rfl⟩,q⟩) hs
theorem uQ (its:List Value) (n j:Nat) (u:Value):Obj.mapSeq (·.setIfInBounds j u) { cls:=.type "list",data:=.seq its.toArray n }={ cls:=.type "list",data:=.seq (its.set j u).toArray n }:=by
 simp [Obj.mapSeq]
theorem Inv.lst {pins:List (Addr × Obj)} {σ:St} {H:Hp} {s:Shared} {p:Addr} {xs:List V} (I:Inv X pins σ H s) (h:H p=some (.lst xs)) :
  ∃(its:List Value) (n:Nat),Vals xs its∧s.heap.get? p=some { cls:=.type "list",data:=.seq its.toArray n }∧xs.length≤sizeLine:=by
 obtain ⟨z,its,n,r,e⟩:=I.hok p _ h
 exact ⟨its,n,r,e,z⟩
theorem Inv.lstUpd {pins:List (Addr × Obj)} {σ:St} {H:Hp} {s:Shared} {p:Addr} {xs ys:List V} {its its':List Value} {n n':Nat} {f:Obj→Obj} (I:Inv X pins σ H s) (h:H p=some (.lst xs))
  (ho:s.heap.get? p=some { cls:=.type "list",data:=.seq its.toArray n }) (hf:f { cls:=.type "list",data:=.seq its.toArray n }={ cls:=.type "list",data:=.seq its'.toArray n' }) (r:Vals ys its') (hz:ys.length≤sizeLine) (t:Nat) :
  Inv X pins σ (upd H p (.lst ys)) { s with heap:=s.heap.update p f,toks:=t }:=by
 have e:(s.heap.update p f).get? p=some { cls:=.type "list",data:=.seq its'.toArray n' }:=by
  rw [Heap.get?_update_self f ho (by rw [hf] <;> rfl),hf]
 refine I.write (x:=p) (e:=p) (by rw [h];trivial) (.inl rfl) (fun b u hb q=>(Heap.get?_update_other _ _ (Ne.symm hb)).trans q) ⟨_,e⟩ ?_
 exact ⟨hz,its',n',r,e⟩
noncomputable def Hs:V→V→V→Hp→(Hp→Prop)→Prop:=fun o i v H Q=>∃p xs k j,o=.ref p∧i=.int k∧H p=some (.lst xs)∧ixN xs.length k=some j∧Q (upd H p (.lst (xs.set j v)))
theorem yg:Gd X Hs:=by
 intro pins s σ H o i v ov iv u Q I ro ri rv h
 obtain ⟨p,xs,k,j,rfl,rfl,hp,hj,q⟩:=h
 cases ro
 obtain ⟨t,rfl⟩:=ri
 obtain ⟨its,n,r,ho,hz⟩:=I.lst hp
 obtain ⟨h1,h2,h3,h4⟩:=wf hj
 have hl:=r.length
 have hn:=ja
 have I':Inv X pins σ (upd H p (.lst (xs.set j v))) { s with heap:=s.heap.update p (Obj.mapSeq (·.setIfInBounds j u)) } :=
  I.lstUpd hp ho (uQ its n j u) (r.set rv j) (by rw [List.length_set];exact hz) s.toks
 by_cases h0:0≤k
 ·have hk:k.toNat=j:=by
   rw [seqIndex_of h0 h4] at h1
   exact Option.some.inj h1
  exact PySem.W.ki_setAt ho h0 (by omega) (by rw [List.size_toArray,←hl];exact h4) (by rw [hk];exact ⟨_,I',q⟩)
 ·have hk:(k+(its.toArray.size:Int)).toNat=j:=by
   rw [seqIndex_neg (by omega) h3] at h1
   rw [List.size_toArray,←hl]
   exact Option.some.inj h1
  exact PySem.W.ki_setBack ho (by omega) (by rw [List.size_toArray,←hl];exact h3) (by omega) (by rw [hk];exact ⟨_,I',q⟩)
theorem qB (lo hi:Option Int) (n:Nat):(sliceBounds lo hi none n).1=((HT.sIx n 0 lo:Nat):Int)∧(sliceBounds lo hi none n).2.1=((HT.sIx n n hi:Nat):Int)∧(sliceBounds lo hi none n).2.2=1:=by
 refine ⟨?_,?_,rfl⟩
 ·cases lo with
  | none=>simp [sliceBounds,HT.sIx]
  | some i =>
   simp only [sliceBounds,HT.sIx,Option.getD_none,show (1:Int) > 0 by decide,if_true]
   by_cases h:i<0
   ·simp only [h,if_true] <;> omega
   ·simp only [h,if_false] <;> omega
 ·cases hi with
  | none=>simp [sliceBounds,HT.sIx]
  | some i =>
   simp only [sliceBounds,HT.sIx,Option.getD_none,show (1:Int) > 0 by decide,if_true]
   by_cases h:i<0
   ·simp only [h,if_true] <;> omega
   ·simp only [h,if_false] <;> omega
theorem nM (its:List Value) (lo hi:Option Int):slicePick its.toArray lo hi none=((its.drop (HT.sIx its.length 0 lo)).take (HT.sIx its.length its.length hi-HT.sIx its.length 0 lo)).toArray:=by
 obtain ⟨h1,h2,h3⟩:=qB lo hi its.toArray.size
 unfold slicePick
 rw [h1,h2,h3]
 simp only [sliceRange_one,pick_run,List.size_toArray] <;> rfl
noncomputable def Im (K:PySem.W.Frag):V→Option Int→Option Int→Hp→VK→Prop:=fun x lo hi H Q=>∃a xs,x=.ref a∧SqL K H a xs∧∀p,H p=none→Q (.ref p) (upd H p (.lst (nH xs lo hi)))
theorem B':SlR X (Im X.K):=by
 intro pins s σ H x v vl vu lo hi sl Q I rx hs pl pu h
 obtain ⟨a,xs,rfl,hx,q⟩:=h
 cases rx
 obtain ⟨its,r,ht,hz⟩:=I.list hx
 have hlen:=r.length
 refine ⟨"list",_,slot_list_getitem.lookup,ht.isList.typeIs,?_⟩
 refine wpAny_getItem_list_slice ht.isList hs pl pu .none (by simp) ?_ (by rw [List.size_toArray] <;> omega)
 rw [nM,←hlen]
 refine ⟨.ref s.heap.objs.size,_,I.laid (t':=s.toks) (o:=.lst (nH xs lo hi)) (fun b ob q=>Heap.get?_push_of_some _ q) (Nat.le_refl _) ?_,rfl,q _ (I.hok.fresh (Nat.le_refl _))⟩
 exact ⟨Nat.le_trans (kR xs lo hi) hz,_,0,(r.drop (HT.sIx xs.length 0 lo)).take (HT.sIx xs.length xs.length hi-HT.sIx xs.length 0 lo),Heap.get?_push_size _ rfl⟩
noncomputable def jN:V→Bool
 | .non=>true
 | .bl _=>true
 | .int _=>true
 | .str _=>true
 | _=>false
noncomputable def eqV:V→V→Bool
 | .non,.non=>true
 | .bl a,.bl b=>a == b
 | .bl a,.int b=>(if a then 1 else 0) == b
 | .int a,.bl b=>a == (if b then 1 else 0)
 | .int a,.int b=>a == b
 | .str a,.str b=>a == b
 | _,_=>false
theorem FG {A:Around} {s:Shared} {y x:V} {u v:Value} (ry:RelV y u) (rx:RelV x v) (fy:jN y=true) (fx:jN x=true):SeqAt.EqAt A s u v (eqV y x):=by
 cases y with
 | non =>
  cases ry
  cases x with
  | non=>cases rx;exact SeqAt.EqAt.same _
  | bl b=>cases rx;exact SeqAt.EqAt.none_bool b
  | int b=>obtain ⟨t,rfl⟩:=rx;exact SeqAt.EqAt.none_int b t
  | str b=>obtain ⟨t,rfl⟩:=rx;exact SeqAt.EqAt.none_str b t
  | _=>exact absurd (show false=true from fx) Bool.false_ne_true
 | bl a =>
  cases ry
  cases x with
  | non=>cases rx;exact SeqAt.EqAt.bool_none a
  | bl b=>cases rx;exact SeqAt.EqAt.bool_bool a b
  | int b=>obtain ⟨t,rfl⟩:=rx;exact SeqAt.EqAt.bool_int a b t
  | str b=>obtain ⟨t,rfl⟩:=rx;exact SeqAt.EqAt.bool_str a b t
  | _=>exact absurd (show false=true from fx) Bool.false_ne_true
 | int a =>
  obtain ⟨t',rfl⟩:=ry
  cases x with
  | non=>cases rx;exact SeqAt.EqAt.int_none a t'
  | bl b=>cases rx;exact SeqAt.EqAt.int_bool a t' b
  | int b=>obtain ⟨t,rfl⟩:=rx;exact SeqAt.EqAt.int_int a t' b t
  | str b=>obtain ⟨t,rfl⟩:=rx;exact SeqAt.EqAt.int_str a t' b t
  | _=>exact absurd (show false=true from fx) Bool.false_ne_true
 | str a =>
  obtain ⟨t',rfl⟩:=ry
  cases x with
  | non=>cases rx;exact SeqAt.EqAt.str_none a t'
  | bl b=>cases rx;exact SeqAt.EqAt.str_bool a t' b
  | int b=>obtain ⟨t,rfl⟩:=rx;exact SeqAt.EqAt.str_int a t' b t
  | str b=>obtain ⟨t,rfl⟩:=rx;exact SeqAt.EqAt.str_str a t' b t
  | _=>exact absurd (show false=true from fx) Bool.false_ne_true
 | _=>exact absurd (show false=true from fy) Bool.false_ne_true
noncomputable def eqU (x:V) (u:Value):Bool:=match u with
 | .none=>eqV .non x
 | .bool b=>eqV (.bl b) x
 | .int i _=>eqV (.int i) x
 | .str z _=>eqV (.str z) x
 | _=>false
theorem Bt {x y:V} {u:Value} (r:RelV y u) (f:jN y=true):eqU x u=eqV y x:=by
 cases y with
 | non=>cases r;rfl
 | bl b=>cases r;rfl
 | int i=>obtain ⟨t,rfl⟩:=r;rfl
 | str z=>obtain ⟨t,rfl⟩:=r;rfl
 | _=>exact absurd (show false=true from f) Bool.false_ne_true
theorem jE {x:V}:∀ {xs:List V} {us:List Value},Vals xs us→xs.all jN=true→us.any (eqU x)=xs.any fun y=>eqV y x
 | _,_,.nil,_=>rfl
 | y::xs,u::us,.cons r t,f=>by
  rw [List.all_cons,Bool.and_eq_true] at f
  rw [List.any_cons,List.any_cons,Bt r f.1,jE t f.2]
theorem gH {A:Around} {s:Shared} {x:V} {v:Value} (rx:RelV x v) (fx:jN x=true):∀ {xs:List V} {us:List Value},Vals xs us→xs.all jN=true→∀u∈us,SeqAt.EqAt A s u v (eqU x u)
 | _,_,.nil,_=>fun u hu=>by cases hu
 | y::xs,u::us,.cons r t,f=>fun u' hu=>by
  rw [List.all_cons,Bool.and_eq_true] at f
  rcases List.mem_cons.mp hu with rfl|hu
  ·rw [Bt r f.1];exact FG r rx f.1 fx
  ·exact gH rx fx t f.2 u' hu
noncomputable def inV (x:V) (xs:List V):Bool:=xs.any fun y=>eqV y x
noncomputable def rIn (K:PySem.W.Frag) (neg:Bool):R2:=fun x y H Q=>∃p xs,y=.ref p∧(SqL K H p xs∨SqT K H p xs)∧jN x=true∧xs.all jN=true∧Q (.bl (if neg then !inV x xs else inV x xs)) H
theorem xw:OpR X (compareOp .In) (rIn X.K false):=by
 intro pins s σ H x y v u Q I rx ry h
 obtain ⟨p,xs,rfl,hq,fx,fs,q⟩:=h
 cases ry
 rcases hq with hq|hq
 ·obtain ⟨its,r,pl,hz⟩:=I.list hq
  refine SeqAt.in_listAt (eqU x) pl.isList (fun w hw=>gH rx fx r fs w (by simpa using hw)) ⟨.bl _,H,I,rfl,?_⟩
  rw [show its.toArray.any (eqU x)=its.any (eqU x) by simp,jE r fs]
  exact q
 ·obtain ⟨its,r,pl,hz⟩:=I.tuple hq
  refine SeqAt.in_tupleAt (eqU x) pl (fun w hw=>gH rx fx r fs w (by simpa using hw)) ⟨.bl _,H,I,rfl,?_⟩
  rw [show its.toArray.any (eqU x)=its.any (eqU x) by simp,jE r fs]
  exact q
theorem pJ:OpR X (compareOp .NotIn) (rIn X.K true):=by
 intro pins s σ H x y v u Q I rx ry h
 obtain ⟨p,xs,rfl,hq,fx,fs,q⟩:=h
 cases ry
 rcases hq with hq|hq
 ·obtain ⟨its,r,pl,hz⟩:=I.list hq
  refine SeqAt.notIn_listAt (eqU x) pl.isList (fun w hw=>gH rx fx r fs w (by simpa using hw)) ⟨.bl _,H,I,rfl,?_⟩
  rw [show its.toArray.any (eqU x)=its.any (eqU x) by simp,jE r fs]
  exact q
 ·obtain ⟨its,r,pl,hz⟩:=I.tuple hq
  refine SeqAt.notIn_tupleAt (eqU x) pl (fun w hw=>gH rx fx r fs w (by simpa using hw)) ⟨.bl _,H,I,rfl,?_⟩
  rw [show its.toArray.any (eqU x)=its.any (eqU x) by simp,jE r fs]
  exact q
theorem qN:gq X (.builtin "len") (fun xs H Q=>∃p ys,xs=[.ref p]∧(SqL X.K H p ys∨SqT X.K H p ys)∧Q (.int ys.length) H):=by
 intro pins s σ H xs us Q I r h
 obtain ⟨p,ys,rfl,hq,q⟩:=h
 obtain ⟨u,rfl,rx⟩:=vX r
 cases rx
 have hn:=ja
 rcases hq with hq|hq
 ·obtain ⟨its,r',pl,hz⟩:=I.list hq
  have hlen:=r'.length
  exact Calls.call_len_list pl.isList (by simp only [List.size_toArray] <;> omega) ⟨.int ys.length,H,I.tok _,⟨s.toks+1,by rw [List.size_toArray,hlen]⟩,q⟩
 ·obtain ⟨its,r',pl,hz⟩:=I.tuple hq
  have hlen:=r'.length
  exact len_tuple pl (by simp only [List.size_toArray] <;> omega) ⟨.int ys.length,H,I.tok _,⟨s.toks+1,by rw [List.size_toArray,hlen]⟩,q⟩
theorem pS:gq X (.builtin "len") (fun xs H Q=>∃z,xs=[.str z]∧z.length≤sizeLine∧Q (.int z.length) H):=by
 intro pins s σ H xs us Q I r h
 obtain ⟨z,rfl,hz,q⟩:=h
 obtain ⟨u,rfl,t,rfl⟩:=vX r
 have hn:=ja
 exact len_str (by omega) ⟨.int z.length,H,I.tok _,⟨_,rfl⟩,q⟩
theorem nJ:gq X (.type "tuple") (fun xs H Q=>∃p ys,xs=[.ref p]∧((SqL X.K H p ys∧∀l,H l=none→Q (.ref l) (upd H l (.tup ys)))∨(SqT X.K H p ys∧Q (.ref p) H))):=by
 intro pins s σ H xs us Q I r h
 obtain ⟨p,ys,rfl,h⟩:=h
 obtain ⟨u,rfl,rx⟩:=vX r
 cases rx
 rcases h with ⟨hq,q⟩|⟨hq,q⟩
 ·obtain ⟨its,r',pl,hz⟩:=I.list hq
  have hlen:=r'.length
  refine call_tuple_list pl.isList (fun h' kp=>?_) (by simp only [List.size_toArray] <;> omega)
  have I1:Inv X pins σ H { s with heap:=h' }:=I.kept (t':=s.toks) kp
  have I2:Inv X pins σ (upd H h'.objs.size (.tup ys)) { s with heap:=h'.push { cls:=.type "tuple",data:=.seq its.toArray } } :=
   I1.laid (t':=s.toks) (fun b o e=>Heap.get?_push_of_some _ e) (Nat.le_refl _) (show ObjOk X.prog X.w _ _ _ (.tup ys) from ⟨hz,its,r',IsTup.new _ _⟩)
  exact ⟨.ref h'.objs.size,_,I2,rfl,q _ (I1.hok.fresh (Nat.le_refl _))⟩
 ·obtain ⟨its,r',pl,hz⟩:=I.tuple hq
  exact call_tuple_same pl ⟨.ref p,H,I,rfl,q⟩
noncomputable def tyV (K:PySem.W.Frag) (T:String) (x:V) (H:Hp):Prop:=match x with
 | .str _=>T="str"
 | .int _=>T="int"
 | .ref p=>(T="list"∧∃xs,SqL K H p xs)∨(T="tuple"∧∃o,K.lookup p=some o∧o.cls=.type "tuple"∧o.dict=none) ∨
   (T="dict"∧((∃kvs,H p=some (.dK kvs))∨∃kvs,H p=some (.dT kvs)))∨(T="set"∧∃S n,H p=some (.set S n))
 | _=>False
theorem AV {pins:List (Addr × Obj)} {σ:St} {H:Hp} {s:Shared} {T:String} {x:V} {v:Value} (I:Inv X pins σ H s) (r:RelV x v) (ty:tyV X.K T x H) :
  s.TypeIs v T∧∀a,v=.ref a→∃ob,s.heap.get? a=some ob∧ob.dict=none:=by
 cases x with
 | str z =>
  obtain ⟨t,rfl⟩:=r
  cases (show T="str" from ty)
  exact ⟨typeIs_str s z t,fun _ e=>nomatch e⟩
 | int i =>
  obtain ⟨t,rfl⟩:=r
  cases (show T="int" from ty)
  exact ⟨typeIs_int s i t,fun _ e=>nomatch e⟩
 | ref p =>
  cases r
  rcases ty with ⟨rfl,xs,hq⟩|⟨rfl,o,hk,hc,hd⟩|⟨rfl,hk⟩|⟨rfl,S,n,hk⟩
  ·obtain ⟨its,_,pl,_⟩:=I.list hq
   refine ⟨pl.isList.typeIs,fun a e=>?_⟩
   cases e
   obtain ⟨o,n,e,c,hd,_⟩:=pl
   exact ⟨o,e,hd⟩
  ·refine ⟨⟨o,I.kIn p o hk,hc⟩,fun a e=>?_⟩
   cases e
   exact ⟨o,I.kIn _ o hk,hd⟩
  ·have z:∃o,s.heap.get? p=some o∧o.ExactDict:=by
    rcases hk with ⟨kvs,hk⟩|⟨kvs,hk⟩
    ·obtain ⟨_,_,_,_,o,_,_,e,ex,_⟩:=I.hok p _ hk
     exact ⟨o,e,ex⟩
    ·obtain ⟨_,_,_,_,o,_,_,e,ex,_⟩:=I.hok p _ hk
     exact ⟨o,e,ex⟩
   obtain ⟨o,e,ex⟩:=z
   refine ⟨⟨o,e,ex.1⟩,fun a e2=>?_⟩
   cases e2
   exact ⟨o,e,ex.2.1⟩
  ·obtain ⟨o,_,_,_,e,ex,_⟩:=I.hok p _ hk
   refine ⟨⟨o,e,ex.1⟩,fun a e2=>?_⟩
   cases e2
   exact ⟨o,e,ex.2.1⟩
 | _=>exact False.elim ty
noncomputable def IM (K:PySem.W.Frag) (T:String) (r:V→List V→Hp→VK→Prop) (to:TE):TE:=fun σ H Q=>to σ H fun x H1=>tyV K T x H1∧r x [] H1 Q
noncomputable def tBM (K:PySem.W.Frag) (T:String) (r:V→List V→Hp→VK→Prop) (to:TE) (t:TA):TE:=fun σ H Q=>to σ H fun x H1=>tyV K T x H1∧t σ H1 fun xs H2=>r x xs H2 Q
variable {o e:Expr} {es:List Expr} {to:TE} {t:TA} {name:Str} {apos cpos:Pos} {T id:String} {r:V→List V→Hp→VK→Prop}
theorem EN (pa:PlainAttrs T) (slot:Slot T name id) (hty:typeOf (.builtin id)=pure (.type "method_descriptor")) (hm:MtR X id r) (ho:PE X o to)
  (hbase:attributeBase o name X.env (eval o X.env)=eval o X.env:=by rfl) (hline:(apos.endLine == cpos.line)=true:=by rfl):PE X (.Call (.Attribute o name apos) [] [] cpos) (IM X.K T r to):=by
 intro pins s σ H Q I h
 refine wpAny_Call_method0_late hbase hline (thn (ho pins s σ H _ I h) fun v s1 ⟨x,H1,I1,r1,ty,q1⟩=>?_)
 obtain ⟨h1,h2⟩:=AV I1 r1 ty
 exact ⟨T,id,pa,slot,hty,h1,h2,Calls.callWith_builtin rfl (PySem.evalArgs_none (hm pins s1 σ H1 x [] v [] Q I1 r1 .nil q1))⟩
theorem DH (pa:PlainAttrs T) (slot:Slot T name id) (hty:typeOf (.builtin id)=pure (.type "method_descriptor")) (hm:MtR X id r) (ho:PE X o to) (ha:PA X (e::es) t)
  (hbase:attributeBase o name X.env (eval o X.env)=eval o X.env:=by rfl)
  (hfew:((backTo cpos (starEach (e::es) X.env)).all (fun x=>!x.1) && (backToKw cpos (keywordEach [] X.env)).all (fun x=>x.1.isSome)
   && decide ((e::es).length+([]:List Keyword).length+(if ([]:List Keyword).isEmpty then 0 else 1)<30))=true:=by rfl)
  (hline:(apos.endLine == cpos.line)=true:=by rfl) (hs:starEach (e::es) X.env=(false,eval e X.env)::starEach es X.env:=by rfl) (hplain:(backTo cpos (starEach es X.env)).any (·.1)=false:=by rfl) :
  PE X (.Call (.Attribute o name apos) (e::es) [] cpos) (tBM X.K T r to t):=by
 intro pins s σ H Q I h
 refine wpAny_Call_method_late hbase hfew hline rfl (thn (ho pins s σ H _ I h) fun v s1 ⟨x,H1,I1,r1,ty,q1⟩=>?_)
 obtain ⟨h1,h2⟩:=AV I1 r1 ty
 refine ⟨T,id,pa,slot,hty,h1,h2,?_⟩
 have hA:=ha cpos pins s1 σ H1 _ I1 q1
 rw [hs] at hA ⊢
 refine Calls.callWith_builtin (by show (false || (backTo cpos (starEach es X.env)).any (·.1))=false;rw [hplain] <;> rfl) (Calls.evalArgs_plain ?_)
 exact thn hA fun us s2 ⟨vs,H2,I2,r2,q2⟩=>hm pins s2 σ H2 x vs v us Q I2 r1 r2 q2
end
end L2
namespace L2
open PySem PySem.Spec PyProof.Rows
noncomputable def MtM (X:Cx) (id:String) (r:V→List V→Hp→VK→Prop):Prop :=
 ∀(pins:List (Addr × Obj)) (s:Shared) (σ:St) (H:Hp) (x:V) (xs:List V) (v:Value) (us:List Value) (Q:VK),Inv X pins σ H s→RelV x v→Vals xs us→r x xs H Q →
  wpAny (model X.prog X.w) X.A (call (.builtin id) (v::us)) (EP X pins σ Q) X.xe s
theorem Vals.one:∀ {x:V} {us:List Value},Vals [x] us→∃u,us=[u]∧RelV x u
 | _,_,.cons r .nil=>⟨_,rfl,r⟩
theorem Vals.zero:∀ {us:List Value},Vals [] us→us=[]
 | _,.nil=>rfl
theorem Vals.dropLast {xs:List V} {us:List Value} (h:Vals xs us):Vals xs.dropLast us.dropLast:=by
 induction h with
 | nil=>exact .nil
 | cons r t ih =>
  cases t with
  | nil=>exact .nil
  | cons q t'=>exact .cons r ih
theorem Vals.rep {xs:List V} {us:List Value} (h:Vals xs us):∀k:Nat,Vals (List.replicate k xs).flatten (List.replicate k us).flatten
 | 0=>.nil
 | k+1=>by
  rw [List.replicate_succ,List.replicate_succ,List.flatten_cons,List.flatten_cons]
  exact Vals.append h (Vals.rep h k)
theorem vG {α:Type} (l:List α):l.eraseIdx (l.length-1)=l.dropLast:=by
 induction l with
 | nil=>rfl
 | cons a r ih =>
  cases r with
  | nil=>rfl
  | cons b r =>
   have e:(a::b::r).length-1=((b::r).length-1)+1:=by
    have h1:(a::b::r).length=r.length+2:=rfl
    have h2:(b::r).length=r.length+1:=rfl
    omega
   rw [e,List.eraseIdx_cons_succ,ih]
   all_goals rfl
theorem oZ (its:List Value):∀(k:Nat) (acc:List Value),
  List.foldl (fun x1 x2=>x1++x2) acc.toArray (List.replicate k its.toArray)=(acc++(List.replicate k its).flatten).toArray
 | 0,acc=>by simp
 | k+1,acc=>by
  have e:acc.toArray++its.toArray=(acc++its).toArray:=by simp
  have e2:(acc++its)++(List.replicate k its).flatten=acc++(List.replicate (k+1) its).flatten:=by
   rw [List.replicate_succ,List.flatten_cons,List.append_assoc]
  rw [←e2,←oZ its k (acc++its),←e,List.replicate_succ,List.foldl_cons]
section
variable {X:Cx} {pins:List (Addr × Obj)} {σ:St} {H:Hp} {s:Shared} {l b:Addr} {xs ys zs:List V}
theorem Inv.lset {its its':List Value} {n:Nat} {f:Array Value→Array Value} {t':Nat} (I:Inv X pins σ H s) (hH:H l=some (.lst xs))
  (e:s.heap.get? l=some { cls:=.type "list",data:=.seq its.toArray n }) (hf:f its.toArray=its'.toArray) (hv:Vals ys its') (hz:ys.length≤sizeLine) :
  Inv X pins σ (upd H l (.lst ys)) { s with heap:=s.heap.update l (Obj.mapSeq f),toks:=t' }:=by
 have q:=PySem.IsL.update e f
 rw [hf] at q
 refine I.write (x:=l) (e:=l) (by rw [hH];exact trivial) (.inl rfl) (fun b' u hb hu=>(Heap.get?_update_other s.heap (Obj.mapSeq f) (Ne.symm hb)).trans hu) ⟨_,q⟩ ?_
 exact ⟨hz,its',_,hv,q⟩
theorem Inv.lnew {its:List Value} {t':Nat} (I:Inv X pins σ H s) (hv:Vals ys its) (hz:ys.length≤sizeLine) :
  Inv X pins σ (upd H s.heap.objs.size (.lst ys)) { s with heap:=s.heap.push { cls:=.type "list",data:=.seq its.toArray },toks:=t' } :=
 I.laid (fun _ _ q=>Heap.get?_push_of_some _ q) (Nat.le_refl _) ⟨hz,its,0,hv,Heap.get?_push_size _ rfl⟩
theorem Inv.fresh (I:Inv X pins σ H s):H s.heap.objs.size=none:=I.hok.fresh (Nat.le_refl _)
theorem Inv.lstM (I:Inv X pins σ H s) (hH:H l=some (.lst xs)):xs.length≤sizeLine∧∃(its:List Value) (n:Nat),Vals xs its∧xs.length=its.length∧s.heap.get? l=some { cls:=.type "list",data:=.seq its.toArray n }:=by
 obtain ⟨z,its,n,r,e⟩:=I.hok l _ hH
 exact ⟨z,its,n,r,r.length,e⟩
theorem rG {n:Nat} (h:n≤sizeLine):Builtin.List.listTooLong n=false:=by
 unfold Builtin.List.listTooLong
 exact decide_eq_false (by omega)
end
section
variable {X:Cx}
noncomputable def Dw:V→List V→Hp→VK→Prop:=fun x vs H Q=>∃l xs y,x=.ref l∧vs=[y]∧H l=some (.lst xs)∧xs.length<sizeLine∧Q .non (upd H l (.lst (xs++[y])))
theorem oY:MtM X "list.append" Dw:=by
 intro pins s σ H x vs v us Q I rx rv h
 obtain ⟨l,xs,y,rfl,rfl,hH,hz,q⟩:=h
 cases rx
 obtain ⟨u,rfl,ru⟩:=rv.one
 obtain ⟨z,its,n,r,hl,e⟩:=I.lstM hH
 refine call_meets F.slot_list_append ⟨_,e,rfl⟩ F.entry_list_append (F.args_list_append_2 _ _) (PySem.list_append l its.toArray n u (by rw [List.size_toArray];omega)) ⟨e,?_⟩
 refine ⟨.non,_,I.lset (its':=its++[u]) hH e (by simp) (r.append (.cons ru .nil)) ?_,rfl,q⟩
 rw [List.length_append,List.length_singleton]
 omega
noncomputable def HV:V→List V→Hp→VK→Prop:=fun x vs H Q=>∃l xs y,x=.ref l∧vs=[]∧H l=some (.lst xs)∧xs[xs.length-1]?=some y∧Q y (upd H l (.lst xs.dropLast))
theorem Ea:MtM X "list.pop" HV:=by
 intro pins s σ H x vs v us Q I rx rv h
 obtain ⟨l,xs,y,rfl,rfl,hH,hy,q⟩:=h
 cases rx
 have hus:=rv.zero
 subst hus
 obtain ⟨z,its,n,r,hl,e⟩:=I.lstM hH
 obtain ⟨u,hu,ru⟩:=r.get hy
 have hy':its.toArray[its.toArray.size-1]?=some u:=by
  show its.toArray[its.length-1]?=some u
  rw [←Array.getElem?_toList,←hl]
  exact hu
 refine call_meets F.slot_list_pop ⟨_,e,rfl⟩ F.entry_list_pop (F.args_list_pop_1 _) (MeetsSeq.list_pop_last l its.toArray n u hy' (by rw [List.size_toArray];omega)) ⟨e,?_⟩
 refine ⟨y,_,I.lset (its':=its.dropLast) hH e ?_ r.dropLast ?_,ru,q⟩
 ·show its.toArray.eraseIdxIfInBounds (its.toArray.size-1)=its.dropLast.toArray
  rw [List.size_toArray,List.eraseIdxIfInBounds_toArray,vG]
 ·rw [List.length_dropLast]
  omega
noncomputable def HZ:R2:=fun x y H Q=>∃l b xs zs,x=.ref l∧y=.ref b∧H l=some (.lst xs)∧H b=some (.lst zs)∧xs.length+zs.length≤sizeLine∧∀p,H p=none→Q (.ref p) (upd H p (.lst (xs++zs)))
theorem Gw:OpR X (binaryOp .Add) HZ:=by
 intro pins s σ H x y v u Q I rx ry h
 obtain ⟨l,b,xs,zs,rfl,rfl,hH,hB,hz,q⟩:=h
 cases rx
 cases ry
 obtain ⟨z,its,n,r,hl,e⟩:=I.lstM hH
 obtain ⟨z2,its2,n2,r2,hl2,e2⟩:=I.lstM hB
 refine PySem.P.add_list e e2 ?_ (by rw [List.size_toArray,List.size_toArray];omega)
 have ea:its.toArray++its2.toArray=(its++its2).toArray:=by simp
 rw [ea]
 exact ⟨.ref _,_,I.lnew (t':=s.toks) (r.append r2) (by rw [List.length_append];omega),rfl,q _ I.fresh⟩
noncomputable def IG:R2:=fun x y H Q=>∃l k xs,x=.ref l∧y=.int k∧H l=some (.lst xs)∧-(2 ^ 63)≤k∧k<2 ^ 63∧xs.length*k.toNat≤sizeLine ∧
 ∀p,H p=none→Q (.ref p) (upd H p (.lst (List.replicate k.toNat xs).flatten))
theorem CU {α:Type} (xs:List α) (k:Nat):(List.replicate k xs).flatten.length=k*xs.length:=by
 induction k with
 | zero=>simp
 | succ k ih=>rw [List.replicate_succ,List.flatten_cons,List.length_append,ih,Nat.succ_mul,Nat.add_comm]
theorem Gj:OpR X (binaryOp .Mult) IG:=by
 intro pins s σ H x y v u Q I rx ry h
 obtain ⟨l,k,xs,rfl,rfl,hH,h1,h2,hz,q⟩:=h
 cases rx
 obtain ⟨t,rfl⟩:=ry
 obtain ⟨z,its,n,r,hl,e⟩:=I.lstM hH
 have hlen:its.toArray.size*k.toNat≤sizeLine:=by rw [List.size_toArray,←hl];exact hz
 have hcap:¬its.toArray.size*k.toNat > (2 ^ 63-1)/8:=by
  have:(sizeLine:Nat)≤(2 ^ 63-1)/8:=by decide
  omega
 have hfit:¬(!Builtin.List.listFitsIndex k)=true:=by
  rw [fitsIndex_both h1 h2]
  exact Bool.false_ne_true
 have hlong:¬Builtin.List.listTooLong (its.toArray.size*k.toNat)=true:=by
  rw [rG hlen]
  exact Bool.false_ne_true
 have hnew:List.foldl (fun x1 x2=>x1++x2) #[] (List.replicate (if its.toArray.isEmpty=true then 0 else k.toNat) its.toArray)=(List.replicate k.toNat its).flatten.toArray:=by
  have f0:∀m:Nat,List.foldl (fun x1 x2=>x1++x2) #[] (List.replicate m its.toArray)=(List.replicate m its).flatten.toArray:=fun m=>by
   have:=oZ its m []
   rw [List.nil_append] at this
   exact this
  rw [f0]
  cases its with
  | nil=>simp
  | cons a r'=>rw [if_neg (by simp)]
 refine wpAny_binaryOp_repeat_ref (T:="list") (U:="int") (by decide) ⟨_,e,rfl⟩ (fun s'=>typeIs_int s' k t) noFill_list_mul F.fills_int_mul F.slot_int_rmul repeat_list F.slot_int_index.lookup
  (call_meets F.slot_int_rmul (typeIs_int s k t) F.entry_int_rmul (F.args_int_rmul_2 _ _) (int___rmul___int_list k t l its.toArray n)
   ⟨e,rfl,⟨_,e,rfl⟩,call_meets F.slot_list_mul ⟨_,e,rfl⟩ F.entry_list_mul (F.args_list_mul_2 _ _) (AutoListH.list___mul___list_int_3 l its.toArray n k t hfit hcap hlong) ⟨e,?_⟩⟩)
 rw [hnew]
 exact ⟨.ref _,_,I.lnew (t':=s.toks) (r.rep k.toNat) (by rw [CU,Nat.mul_comm];exact hz),rfl,q _ I.fresh⟩
end
section
variable {prog:Program} {w:World} {A:Around} {E:Value→Shared→Prop} {s:Shared}
set_option maxRecDepth 100000 in
end
section
variable {X:Cx}
end
end L2
namespace Att
open PySem PySem.W PySem.Calls PyProof.Rows
theorem ly {P:Params} {h:Heap}:∀(ns:List Int) (vs:List Value),WellAll P h vs (ns.map WData.int)→IntsAre vs ns:=by
 intro ns
 induction ns with
 | nil =>
  intro vs w
  rw [List.map_nil] at w
  cases w
  exact .nil
 | cons n ns ih =>
  intro vs w
  rw [List.map_cons] at w
  cases w with
  | cons a b =>
   cases a
   exact .cons _ _ (ih _ b)
theorem wO {l:OpenLaw} {n:Nat} (hn:l.most=some n) {P:Params} {h:Heap} {args:List WData} {vals:List Value}
  (hpre:l.row.toRowW.claim.pre args=true) (hwl:WellAll P h vals args) :
  ∃a vs ns,vals=[Value.ref a]∧args=[WData.list (ns.map WData.int)]∧h.get? a=some { cls:=.type "list",data:=.seq vs.toArray }∧IntsAre vs ns∧ns.length≤n:=by
 have hsh:WShape.hasAll [] args [.list .int]=true:=(pre_splitW hpre).1
 have hc:l.pre.holds [] { args:=args }=true:=(pre_splitW hpre).2
 obtain ⟨d,r,rfl,h1,h2⟩:=hasAllW_cons hsh
 obtain rfl:=hasAllW_nil h2
 obtain ⟨xs,rfl,h3⟩:=hasW_list h1
 obtain ⟨ns,rfl⟩:=items_int h3
 have hlen:ns.length≤n:=by
  unfold OpenLaw.pre at hc
  have h4:(WTm.not (.lt (.lit (.int (n:Int))) (.len (.arg 0)))).holds [] { args:=[.list (ns.map .int)] }=true:=by
   have h4:=(holds_andW hc).1
   rw [hn] at h4
   exact h4
  have h5:=condW_of h4 (w_not (w_lt w_lit (w_len_list (w_arg rfl))))
  rw [List.length_map] at h5
  refine Nat.le_of_not_lt fun q=>?_
  have q':(n:Int)<((ns.length:Nat):Int):=by omega
  first
   | (rw [decide_eq_true q'] at h5;exact absurd h5 (by decide))
   | (simp at h5;omega)
 cases hwl with
 | cons w1 w2 =>
  cases w2
  cases w1 with
  | list ho hall=>exact ⟨_,_,ns,rfl,rfl,ho,ly ns _ hall,hlen⟩
theorem x9 (l:OpenLaw) (args:List WData):l.row.toRowW.claim.post args (.bool true) args=true :=
 postW_of (r:=l.row.toRowW) (X:=(true == true))
  (show WShape.has [] (.bool true) .bool=true by first|rfl|decide|simp [WShape.has,WShape.arms,WShape.armsAll])
  (show (WTm.eq .res (.lit (.bool true))).value [] { args:=args,res:=some (.bool true),after:=args }=some (.bool (true == true)) from w_eq_bool (w_res rfl) w_lit) rfl
theorem attach_call {l:OpenLaw} {n:Nat} {q:Program} {loose:List Str} {XP:(Str→Option Value)→Heap→Prop} {YP:World→Heap→Prop} {d:DefRec}
  (hn:l.most=some n) (hdf:d.params.defaults=[])
  (call:∀(w:World) (s₀ s₁:Shared) (mg mb:Str→Option Value) (fa:Addr) (o:Obj) (pm cd doc:Value) (a:Addr) (vs:List Value) (ns:List Int),
   Ground q loose [] XP w s₀ mg mb s₁.heap→YP w s₁.heap →
   s₁.heap.get? fa=some o→o.data=.func (docDef d.name d.params d.body d.scope pm cd doc)→s₁.heap.CodeRec cd d.name→mg d.name=some (.ref fa) →
   s₁.heap.get? a=some { cls:=.type "list",data:=.seq vs.toArray }→IntsAre vs ns→ns.length≤n→s₁.gens=#[] →
   codeAny (model l.prog w) callerA (.call (.ref fa) ⟨[.ref a],[]⟩) (fun r s'=>r=.ok (.ret (.bool true))∧OldK s₁.heap s'.heap∧s'.os=s₁.os∧AllBare s'.gens) s₁) :
  WalkO q loose XP YP l.row.toRowW d [] (fun f vs=>PySem.call f vs):=by
 intro w s₀ s₁ mg mb G Y fa o pm cd doc dV kV ho hd hcd hD hmg hg args vals as hpre hlay hrd hwl hlo
 obtain rfl:dV=.none:=Dflts.none hD hdf
 obtain rfl:kV=.none:=Dflts.noKw hD
 obtain ⟨a,vs,ns,rfl,rfl,hobj,hints,hlen⟩:=wO hn hpre hwl
 refine enter_call (codeAny_mono (call w s₀ s₁ mg mb fa o pm cd doc a vs ns G Y ho (fd_plain hd) hcd hmg hobj hints hlen hg) fun r s' hq=>?_)
 obtain ⟨rfl,h2,h3,h4⟩:=hq
 exact ⟨.inl ⟨.bool true,.bool true,[],rfl,fun _=>rfl,.bool true,x9 l _,fun _=>⟨List.Pairwise.nil,fun _ hm=>(nomatch hm)⟩⟩,h2,h3,h4⟩
section
variable {prog:Program} {w:World} {A:Around} {E:Value→Shared→Prop} {s:Shared} {K:Frag}
end
end Att
namespace L2
open PySem PySem.Spec PyProof.Rows
theorem oN:∀ {vs:List Value} {ns:List Int},IntsAre vs ns→Vals (ns.map V.int) vs
 | _,_,.nil=>.nil
 | _,_,.cons n t h=>.cons ⟨t,rfl⟩ (oN h)
end L2
namespace L2
open PySem PySem.Spec PyProof.Rows
end L2
namespace L2
open PySem PySem.Spec PyProof.Rows
noncomputable def aj (s:Stmt):Arguments:=match s with
 | .FunctionDef _ a _ _ _ _ _ _ _ _=>a
 | _=>{ posonlyargs:=[],args:=[],vararg:=none,kwonlyargs:=[],kw_defaults:=[],kwarg:=none,defaults:=[] }
noncomputable def ad (s:Stmt):List Stmt:=match s with
 | .FunctionDef _ _ b _ _ _ _ _ _ _=>b
 | _=>[]
noncomputable def aa (s:Stmt):Scope:=match s with
 | .FunctionDef _ _ _ _ _ _ sc _ _ _=>sc
 | _=>{ kind:=.function,names:=[],isGenerator:=false,isCoroutine:=false }
noncomputable abbrev CX0:CXT:=fun _ _ _ _ _ _=>False
noncomputable abbrev E0:XK:=fun _ _ _=>False
theorem DL {X:Cx}:pD CX0 X E0:=fun _ _ _ _ _ _ _ h=>h.elim
structure Fun (K:PySem.W.Frag) (x qual:Str) (st:Stmt) (f:Addr) (fd:FuncData):Prop where
 ex:∃(oc:Value) (od:Option Addr) (kV doc pm:Value) (an:Option Addr) (cdv ct:Value) (osl:Array (Option Value)),
  fd=PySem.W.fnOf x qual (aj st) (ad st) (aa st) .none kV doc pm an cdv ct∧K.lookup f=some ⟨oc,od,.func fd,osl⟩∧PySem.W.codeIn K cdv qual=true
 kp:PySem.W.keepIn K (.ref f)=true
section
variable {P:Program} {w:World} {K:PySem.W.Frag} {mg:Str→Option Value} {base:Heap}
theorem Fun.ok {x qual:Str} {st:Stmt} {f:Addr} {fd:FuncData} {N ps:List Str} {k:Nat} {sp:Sp} (F:Fun K x qual st f fd) (S:ai N ps (aa st)) (len:∀vs H Q E,sp vs H Q E→vs.length=ps.length)
  (hbody:∀(cdv:Value) (A:Around) (outer:List Env) (s:Shared) (H:Hp) (vs:List V) (Q:VK) (E:XK),Room k (A.deeper (envOfC qual (aa st) s.heap.objs.size f cdv))→sp vs H Q E →
   ∃t,PSs (iI CX0 P w K mg base N qual (aa st) f cdv A outer s H E).nox (ad st) t∧t { nx:=fun _ H'=>Q .non H',rt:=Q } (start N vs) H):nG P w K mg base CX0 (k+1) f fd ps sp:=by
 obtain ⟨oc,od,kV,doc,pm,an,cdv,ct,osl,rfl,lk,hcd⟩:=F.ex
 refine DE lk hcd S len fun A outer s H vs Q E hr hsp=>?_
 obtain ⟨t,h,q⟩:=hbody cdv A outer s H vs Q E hr hsp
 exact ⟨t,h.nox,q⟩
theorem Fun.binds {x qual:Str} {st:Stmt} {f:Addr} {fd:FuncData} {ps:List Str} (F:Fun K x qual st f fd)
  (h:∀(kV doc pm:Value) (an:Option Addr) (cdv ct:Value) (us:List Value),us.length=ps.length→bindArgs (PySem.W.fnOf x qual (aj st) (ad st) (aa st) .none kV doc pm an cdv ct) ⟨us,[]⟩=pure (ps.zip us)):Binds K fd ps []:=by
 obtain ⟨oc,od,kV,doc,pm,an,cdv,ct,osl,rfl,lk,hcd⟩:=F.ex
 exact .all (h kV doc pm an cdv ct)
theorem Am {x qual:Str} {st:Stmt} {f:Addr} {oc:Value} {od an:Option Addr} {osl:Array (Option Value)} {kV doc pm cdv ct:Value} (l:K.lookup f=some ⟨oc,od,.func (PySem.W.fnOf x qual (aj st) (ad st) (aa st) .none kV doc pm an cdv ct),osl⟩)
  (c:PySem.W.codeIn K cdv qual=true) (k:PySem.W.keepIn K (.ref f)=true):Fun K x qual st f (PySem.W.fnOf x qual (aj st) (ad st) (aa st) .none kV doc pm an cdv ct):=⟨⟨oc,od,kV,doc,pm,an,cdv,ct,osl,rfl,l,c⟩,k⟩
end
section
variable {X:Cx}
end
noncomputable def Same (H H':Hp):Prop:=∀b o,H b=some o→H' b=some o
theorem Same.seq {K:PySem.W.Frag} {H H':Hp} {a:Addr} {xs:List V} (e:Same H H') (h:SqL K H a xs):SqL K H' a xs:=by
 rcases h with (h|⟨o,h⟩)|h
 ·exact .inl (.inl (e _ _ h))
 ·exact .inl (.inr ⟨o,e _ _ h⟩)
 ·exact .inr h
end L2
set_option Elab.async false
set_option linter.all false
set_option maxRecDepth 100000
namespace HX
open PySem PySem.Spec PyProof.Rows L2
section
variable {X:Cx} {a b c:Expr} {ta tb tc:TE} {pos:Pos}
noncomputable def CBig (j:Int):Prop:=0<j∧j.natAbs.log2<9000
noncomputable def CMB (i j:Int):Prop:=i.natAbs<2 ^ 6000∧j.natAbs<2 ^ 6000∨(-(2 ^ 64)<i∧i<2 ^ 64)∨(-(2 ^ 64)<j∧j<2 ^ 64)
theorem v5 {i:Int} {n:Nat} (h:i.natAbs<2 ^ n):Builtin.Int.intBits i≤n:=by
 unfold Builtin.Int.intBits
 split
 ·exact Nat.zero_le _
 ·rename_i hz
  have h0:i.natAbs≠0:=by
   intro z
   apply hz
   have:i=0:=by omega
   simp [this]
  have:i.natAbs.log2<n:=(Nat.log2_lt h0).mpr h
  omega
theorem CMB.ok {i j:Int} (h:CMB i j):IntMulOk i j:=by
 rcases h with ⟨h1,h2⟩|⟨h1,h2⟩|⟨h1,h2⟩
 ·exact IntMulOk.of_le (v5 h1) (v5 h2) (by decide)
 ·exact .of_left (intBits_le_64 h1 h2)
 ·exact .of_right (intBits_le_64 h1 h2)
theorem CBig.of {j:Int} (h:0<j) (h2:j<2 ^ 8999):CBig j:=by
 refine ⟨h,?_⟩
 have h0:j.natAbs≠0:=by omega
 have:j.natAbs<2 ^ 8999:=by
  have e:((2:Int) ^ 8999)=((2 ^ 8999:Nat):Int):=by rw [Int.natCast_pow];rfl
  rw [e] at h2
  generalize (2:Nat) ^ 8999=z at h2 ⊢
  omega
 have:=(Nat.log2_lt h0).mpr this
 omega
theorem Dg:OpR X (binaryOp .Mult) (rI CMB fun i j=>.int (i*j)):=opI fun _ _ _ _ _ _ _ hc q=>mul_int q hc.ok
theorem yq:OpR X (binaryOp .FloorDiv) (rI (fun _ j=>CBig j) fun i j=>.int (i/j)):=opI fun i j _ _ _ _ _ hc q=>by
 refine floordiv_int (by have:=hc.1;omega) ?_ (.inl (PyProof.noPylong_of_log2 hc.2))
 rw [Int.fdiv_eq_ediv_of_nonneg _ (Int.le_of_lt hc.1)]
 exact q
theorem qt:gq X (.builtin "divmod") (fun xs H Q=>∃i j,xs=[.int i,.int j]∧CBig j∧∀p,H p=none→Q (.ref p) (upd H p (.tup [.int (i/j),.int (i % j)]))):=by
 intro pins s σ H xs us Q I r h
 obtain ⟨i,j,rfl,hc,q⟩:=h
 obtain ⟨u,v,rfl,⟨t,rfl⟩,⟨t',rfl⟩⟩:=wo r
 refine divmod_int (by have:=hc.1;omega) ?_ (.inl (PyProof.noPylong_of_log2 hc.2))
 rw [Int.fdiv_eq_ediv_of_nonneg _ (Int.le_of_lt hc.1),Int.fmod_eq_emod_of_nonneg _ (Int.le_of_lt hc.1)]
 have hf:H s.heap.objs.size=none:=I.hok.fresh (Nat.le_refl _)
 refine ⟨.ref s.heap.objs.size,upd H s.heap.objs.size (.tup [.int (i/j),.int (i % j)]),I.laid (t':=s.toks+1+1) (fun b u e=>Heap.get?_push_of_some _ e) (Nat.le_refl _) ?_,rfl,q _ hf⟩
 exact ⟨by show 2≤sizeLine;decide,[_,_],.cons ⟨_,rfl⟩ (.cons ⟨_,rfl⟩ .nil),⟨_,Heap.get?_push_size _ rfl,rfl,_,rfl⟩⟩
theorem sn {x:V} {v:Value} (r:RelV x v) (k:Bool):(v == Value.bool k)=decide (x=.bl k):=by
 cases x with
 | non=>cases r;rfl
 | bl b=>cases r;cases b <;> cases k <;> rfl
 | int _=>obtain ⟨t,rfl⟩:=r;rfl
 | str _=>obtain ⟨t,rfl⟩:=r;rfl
 | byt _=>obtain ⟨t,rfl⟩:=r;rfl
 | flt _=>obtain ⟨t,rfl⟩:=r;rfl
 | ref _=>cases r;rfl
 | ty _=>cases r;rfl
theorem mN {x:V} {v:Value} (r:RelV x v) (k:Bool):plainIs v (.bool k)=true:=by
 cases x with
 | non=>cases r;rfl
 | bl b=>cases r;rfl
 | int _=>obtain ⟨t,rfl⟩:=r;rfl
 | str _=>obtain ⟨t,rfl⟩:=r;rfl
 | byt _=>obtain ⟨t,rfl⟩:=r;rfl
 | flt _=>obtain ⟨t,rfl⟩:=r;rfl
 | ref _=>cases r;rfl
 | ty _=>cases r;rfl
noncomputable def IJ:R2:=fun x y H Q=>∃k,y=.bl k∧Q (.bl (decide (x=.bl k))) H
noncomputable def CA:R2:=fun x y H Q=>∃k,y=.bl k∧Q (.bl (!decide (x=.bl k))) H
theorem Fc:OpR X (compareOp .Is) IJ:=by
 intro pins s σ H x y v u Q I rx ry h
 obtain ⟨k,rfl,q⟩:=h
 cases ry
 exact wpAny_is_plain (mN rx k) ⟨.bl _,H,I,by rw [sn rx k];rfl,q⟩
theorem wL:OpR X (compareOp .IsNot) CA:=by
 intro pins s σ H x y v u Q I rx ry h
 obtain ⟨k,rfl,q⟩:=h
 cases ry
 exact wpAny_isNot_plain (mN rx k) ⟨.bl _,H,I,by rw [sn rx k];rfl,q⟩
noncomputable def gF (c n:String):Bool:=c == n || (n == "bool" && c == "int")
noncomputable def GD (n c:String):Option Bool:=if (Value.type n == Value.type c)=true then some true else if PySem.W.kitMeta c=true then (fastBuiltinMro n).map (·.contains (.type c)) else none
theorem Ci (K:PySem.W.Frag) (n c:String):PySem.W.kitOne K (.type n) (.type c)=GD n c:=rfl
theorem Ag:∀c∈["int","bool","str","tuple","list","dict"],∀n∈["NoneType","bool","int","str","list","tuple","dict"],GD n c=some (gF c n):=by decide +kernel
theorem A9 (K:PySem.W.Frag):∀c∈["int","bool","str","tuple","list","dict"],∀n∈["NoneType","bool","int","str","list","tuple","dict"],PySem.W.kitOne K (.type n) (.type c)=some (gF c n):=by
 intro c hc n hn
 rw [Ci]
 exact Ag c hc n hn
end
end HX
namespace HX
open PySem PySem.Spec PyProof.Rows L2
end HX
set_option Elab.async false
set_option linter.all false
set_option maxRecDepth 100000
namespace HX
open PySem PySem.Spec PyProof.Rows L2
noncomputable abbrev D:=PyData
mutual
noncomputable def Den (K:PySem.W.Frag) (H:Hp):D→V→Prop
 | .none,v=>v=.non
 | .bool b,v=>v=.bl b
 | .int i,v=>v=.int i
 | .str x,v=>v=.str x
 | .tuple ds,v=>∃a xs,v=.ref a∧SqT K H a xs∧Dens K H ds xs
 | .list ds,v=>∃a xs,v=.ref a∧SqL K H a xs∧Dens K H ds xs
 | .dict _,_=>False
noncomputable def Dens (K:PySem.W.Frag) (H:Hp):List D→List V→Prop
 | [],xs=>xs=[]
 | d::ds,xs=>∃x r,xs=x::r∧Den K H d x∧Dens K H ds r
end
section
variable {K:PySem.W.Frag} {H H':Hp} {v:V} {xs:List V}
theorem den_int {i:Int}:Den K H (.int i) v↔v=.int i:=by unfold Den;exact Iff.rfl
theorem den_bl {i:Bool}:Den K H (.bool i) v↔v=.bl i:=by unfold Den;exact Iff.rfl
theorem den_str {i:Str}:Den K H (.str i) v↔v=.str i:=by unfold Den;exact Iff.rfl
theorem den_non:Den K H .none v↔v=.non:=by unfold Den;exact Iff.rfl
theorem den_tup {ds:List D}:Den K H (.tuple ds) v↔∃a xs,v=.ref a∧SqT K H a xs∧Dens K H ds xs:=by rw [Den]
theorem den_lst {ds:List D}:Den K H (.list ds) v↔∃a xs,v=.ref a∧SqL K H a xs∧Dens K H ds xs:=by rw [Den]
theorem rB {ds:List (D × D)}:Den K H (.dict ds) v↔False:=by rw [Den]
theorem dens_nil:Dens K H [] xs↔xs=[]:=by unfold Dens;exact Iff.rfl
theorem jZ {d:D} {ds:List D}:Dens K H (d::ds) xs↔∃x r,xs=x::r∧Den K H d x∧Dens K H ds r:=by rw [Dens]
theorem dens_cons' {d:D} {ds:List D} {x:V}:Dens K H (d::ds) (x::xs)↔Den K H d x∧Dens K H ds xs:=by
 rw [jZ]
 constructor
 ·rintro ⟨_,_,e,h1,h2⟩
  cases e
  exact ⟨h1,h2⟩
 ·rintro ⟨h1,h2⟩
  exact ⟨_,_,rfl,h1,h2⟩
theorem AI {a:Addr} (e:Same H H') (h:SqT K H a xs):SqT K H' a xs:=by
 rcases h with (h|⟨o,h⟩)|h
 ·exact .inl (.inl (e _ _ h))
 ·exact .inl (.inr ⟨o,e _ _ h⟩)
 ·exact .inr h
end
mutual
theorem Den.mono {K:PySem.W.Frag} {H H':Hp} (e:Same H H'):∀ {d:D} {v:V},Den K H d v→Den K H' d v
 | .none,v,h=>by rw [den_non] at h ⊢;exact h
 | .bool b,v,h=>by rw [den_bl] at h ⊢;exact h
 | .int b,v,h=>by rw [den_int] at h ⊢;exact h
 | .str b,v,h=>by rw [den_str] at h ⊢;exact h
 | .dict b,v,h=>by rw [rB] at h;exact h.elim
 | .tuple ds,v,h=>by
  rw [den_tup] at h ⊢
  obtain ⟨a,xs,h1,h2,h3⟩:=h
  exact ⟨a,xs,h1,AI e h2,Dens.mono e h3⟩
 | .list ds,v,h=>by
  rw [den_lst] at h ⊢
  obtain ⟨a,xs,h1,h2,h3⟩:=h
  exact ⟨a,xs,h1,Same.seq e h2,Dens.mono e h3⟩
theorem Dens.mono {K:PySem.W.Frag} {H H':Hp} (e:Same H H'):∀ {ds:List D} {xs:List V},Dens K H ds xs→Dens K H' ds xs
 | [],xs,h=>by rw [dens_nil] at h ⊢;exact h
 | d::ds,xs,h=>by
  rw [jZ] at h ⊢
  obtain ⟨x,r,h1,h2,h3⟩:=h
  exact ⟨x,r,h1,Den.mono e h2,Dens.mono e h3⟩
end
section
variable {X:Cx} {pins:List (Addr × Obj)} {σ:L2.St} {H:Hp} {s:Shared}
mutual
theorem Den.reads (I:Inv X pins σ H s):∀(d:D) (v:V) (u:Value),Den X.K H d v→RelV v u→∃as,Reads s.heap u d as
 | .none,v,u,h,r=>by rw [den_non] at h;subst h;cases r;exact ⟨_,.none⟩
 | .bool b,v,u,h,r=>by rw [den_bl] at h;subst h;cases r;exact ⟨_,.bool b⟩
 | .int b,v,u,h,r=>by rw [den_int] at h;subst h;obtain ⟨t,rfl⟩:=r;exact ⟨_,.int b t⟩
 | .str b,v,u,h,r=>by rw [den_str] at h;subst h;obtain ⟨t,rfl⟩:=r;exact ⟨_,.str b t⟩
 | .dict b,v,u,h,r=>by rw [rB] at h;exact h.elim
 | .tuple ds,v,u,h,r=>by
  rw [den_tup] at h
  obtain ⟨a,xs,rfl,h2,h3⟩:=h
  cases r
  obtain ⟨its,rv,⟨o,ho,hc,n,hd⟩,_⟩:=I.tuple h2
  obtain ⟨as,hr⟩:=Dens.reads I ds xs its h3 rv
  exact ⟨as,.tuple ho hc hd (by simpa using hr)⟩
 | .list ds,v,u,h,r=>by
  rw [den_lst] at h
  obtain ⟨a,xs,rfl,h2,h3⟩:=h
  cases r
  obtain ⟨its,rv,p,_⟩:=I.list h2
  obtain ⟨o,ho,hc,n,hd⟩:=p.isList
  obtain ⟨as,hr⟩:=Dens.reads I ds xs its h3 rv
  exact ⟨_,.list ho hc hd (by simpa using hr)⟩
theorem Dens.reads (I:Inv X pins σ H s):∀(ds:List D) (xs:List V) (us:List Value),Dens X.K H ds xs→Vals xs us→∃as,ReadsAll s.heap us ds as
 | [],xs,us,h,r=>by rw [dens_nil] at h;subst h;cases r;exact ⟨_,.nil⟩
 | d::ds,xs,us,h,r=>by
  rw [jZ] at h
  obtain ⟨x,q,rfl,h2,h3⟩:=h
  cases r with
  | cons r1 r2 =>
   obtain ⟨as,h4⟩:=Den.reads I d x _ h2 r1
   obtain ⟨bs,h5⟩:=Dens.reads I ds q _ h3 r2
   exact ⟨_,.cons h4 h5⟩
end
end
section
variable {X:Cx}
noncomputable def Ia (K:PySem.W.Frag):R2:=fun x y H Q=>∃d e,Den K H d x∧Den K H e y∧SeqAt.shaped d=true∧SeqAt.shaped e=true∧Q (.bl (PyData.eqv d e)) H
noncomputable def IF (K:PySem.W.Frag):R2:=fun x y H Q=>∃d e,Den K H d x∧Den K H e y∧SeqAt.shaped d=true∧SeqAt.shaped e=true∧Q (.bl (!PyData.eqv d e)) H
theorem F' (hu:X.A.units+64<cLine):OpR X (compareOp .Eq) (Ia X.K):=by
 intro pins s σ H x y v u Q I rx ry h
 obtain ⟨d,e,h1,h2,h3,h4,q⟩:=h
 obtain ⟨as,ra⟩:=Den.reads I d x v h1 rx
 obtain ⟨bs,rb⟩:=Den.reads I e y u h2 ry
 exact eq_dataH ra rb h3 h4 hu ⟨.bl _,H,I,rfl,q⟩
theorem Ed (hu:X.A.units+64<cLine):OpR X (compareOp .NotEq) (IF X.K):=by
 intro pins s σ H x y v u Q I rx ry h
 obtain ⟨d,e,h1,h2,h3,h4,q⟩:=h
 obtain ⟨as,ra⟩:=Den.reads I d x v h1 rx
 obtain ⟨bs,rb⟩:=Den.reads I e y u h2 ry
 exact ne_dataH ra rb h3 h4 hu ⟨.bl _,H,I,rfl,q⟩
structure Has (P:Program) (w:World) (K:PySem.W.Frag) (mg:Str→Option Value) (base:Heap) (k:Nat) (x:Str) (ps:List Str) (sp:Sp):Prop where
 ex:∃(f:Addr) (fd:FuncData),nG P w K mg base CX0 k f fd ps sp∧mg x=some (.ref f)∧PySem.W.keepIn K (.ref f)=true∧Binds K fd ps []
structure At (K:PySem.W.Frag) (mg:Str→Option Value) (x:Str) (st:Stmt) (ps:List Str):Prop where
 ex:∃(f:Addr) (fd:FuncData),Fun K x x st f fd∧mg x=some (.ref f)∧Binds K fd ps []
theorem At.mk' {K:PySem.W.Frag} {mg:Str→Option Value} {h:Heap} {x:Str} {st:Stmt} {ps:List Str} {f:Addr} {oc:Value} {od an:Option Addr} {osl:Array (Option Value)} {kV doc pm cdv ct:Value} (X:K.In h) (G:h.Ns mainGlobals mg)
  (hb:∀(kV doc pm:Value) (an:Option Addr) (cdv ct:Value) (us:List Value),us.length=ps.length→bindArgs (PySem.W.fnOf x x (aj st) (ad st) (aa st) .none kV doc pm an cdv ct) ⟨us,[]⟩=pure (ps.zip us))
  (a:PySem.W.nsIn K mainGlobals x=some (some (.ref f))) (l:K.lookup f=some ⟨oc,od,.func (PySem.W.fnOf x x (aj st) (ad st) (aa st) .none kV doc pm an cdv ct),osl⟩)
  (c:PySem.W.codeIn K cdv x=true) (k:PySem.W.keepIn K (.ref f)=true):At K mg x st ps:=by
 have F:=Am (st:=st) l c k
 exact ⟨f,_,F,PySem.W.mg_of X G a,F.binds hb⟩
theorem At.ok {P:Program} {w:World} {K:PySem.W.Frag} {mg:Str→Option Value} {base:Heap} {x:Str} {st:Stmt} {N ps:List Str} {k:Nat} {sp:Sp} (F:At K mg x st ps) (S:ai N ps (aa st)) (len:∀vs H Q E,sp vs H Q E→vs.length=ps.length)
  (hbody:∀(f:Addr) (cdv:Value) (A:Around) (outer:List Env) (s:Shared) (H:Hp) (vs:List V) (Q:VK) (E:XK),Room k (A.deeper (envOfC x (aa st) s.heap.objs.size f cdv))→sp vs H Q E →
   ∃t,PSs (iI CX0 P w K mg base N x (aa st) f cdv A outer s H E).nox (ad st) t∧t { nx:=fun _ H'=>Q .non H',rt:=Q } (start N vs) H):Has P w K mg base (k+1) x ps sp:=by
 obtain ⟨f,fd,Ff,m,b⟩:=F.ex
 exact ⟨f,fd,Ff.ok S len (fun cdv A outer s H vs Q E hr h=>hbody f cdv A outer s H vs Q E hr h),m,Ff.kp,b⟩
theorem F0 {k:Nat} {x:Str} {ps:List Str} {sp:Sp} {p pos:Pos} {e:Expr} {es:List Expr} {t:TA} (F:Has X.prog X.w X.K X.mg X.base k x ps sp) (hr:Room k X.A) (ha:PA X (e::es) t)
  (hg:Gl X x:=by rfl) (hdb:(x == ("__debug__":Str))=false:=by decide) (he:starEach (e::es) X.env=(false,eval e X.env)::starEach es X.env:=by rfl) (hpl:(backTo pos (starEach es X.env)).any (·.1)=false:=by rfl) :
  PE X (.Call (.Name x p) (e::es) [] pos) (oR sp [] E0 t):=by
 obtain ⟨f,fd,F,m,kp,b⟩:=F.ex
 exact C_ F hr hg m kp b .nil DL ha hdb he hpl
theorem CM {k:Nat} {x:Str} {ps:List Str} {sp:Sp} {p pos:Pos} (F:Has X.prog X.w X.K X.mg X.base k x ps sp) (hr:Room k X.A)
  (hg:Gl X x:=by rfl) (hdb:(x == ("__debug__":Str))=false:=by decide) :
  PE X (.Call (.Name x p) [] [] pos) (oR sp [] E0 q_):=by
 obtain ⟨f,fd,F,m,kp,b⟩:=F.ex
 exact AA F hr hg m kp b .nil DL hdb
end
end HX
set_option Elab.async false
set_option linter.all false
set_option maxRecDepth 100000
namespace HX
open PySem PySem.Spec PyProof.Rows L2
noncomputable def ao:Expr→Bool
 | .Starred ..=>false
 | _=>true
theorem aS {e:Expr} {es:List Expr} {env:Env} (h:ao e=true):starEach (e::es) env=(false,eval e env)::starEach es env:=by
 cases e <;> first|rfl|cases h
theorem qS {env:Env}:∀ {es:List Expr},es.all ao=true→(starEach es env).any (·.1)=false
 | [],_=>rfl
 | e::es,h=>by
  rw [List.all_cons,Bool.and_eq_true] at h
  rw [aS h.1,List.any_cons,qS h.2]
  rfl
noncomputable def jn:Expr→Bool
 | .Slice ..=>false
 | _=>true
theorem Ha {b:Expr} (h:jn b=true):vY b:=fun o i=>by
 cases b <;> first|rfl|cases h
section
variable {X:Cx}
theorem pac {e:Expr} {es:List Expr} {te:TE} {t:TA} (ha:PE X e te) (hr:PA X es t) (h:ao e=true:=by rfl):PA X (e::es) (gG te t):=Dl ha hr (aS h)
theorem Ab {a b:Expr} {ta tb:TE} {pos:Pos} {r:R2} (hr:IxR X r) (ha:PE X a ta) (hb:PE X b tb) (hs:jn b=true:=by rfl):PE X (.Subscript a b pos) (tOp r ta tb):=Hx hr ha hb (Ha hs)
theorem mM {env:Env} {pos:Pos} {es:List Expr} (h:es.all ao=true):(backTo pos (starEach es env)).any (·.1)=false:=by
 have:=qS (env:=env) h
 unfold backTo
 rw [List.any_map]
 exact this
theorem CQ {k:Nat} {x:Str} {ps:List Str} {sp:Sp} {p pos:Pos} {e:Expr} {es:List Expr} {t:TA} (F:Has X.prog X.w X.K X.mg X.base k x ps sp) (hr:Room k X.A) (ha:PA X (e::es) t)
  (hg:Gl X x:=by rfl) (hdb:(x == ("__debug__":Str))=false:=by decide) (he:ao e=true:=by rfl) (hpl:es.all ao=true:=by rfl) :
  PE X (.Call (.Name x p) (e::es) [] pos) (oR sp [] E0 t):=F0 F hr ha hg hdb (aS he) (mM hpl)
theorem ow {id:String} {r:List V→Hp→VK→Prop} {x:Str} {p pos:Pos} {e:Expr} {es:List Expr} {t:TA} (hc:gq X (.builtin id) r) (hg:Gl X x) (hm:X.mg x=none) (hv:bootBuiltins x=some (.builtin id)) (ha:PA X (e::es) t) (hn:x≠"__name__":=by decide) (hdb:(x == ("__debug__":Str))=false:=by decide)
  (he:ao e=true:=by rfl) (hpl:es.all ao=true:=by rfl):PE X (.Call (.Name x p) (e::es) [] pos) (tCB r t):=Bh hc hg hm hv ha hn hdb (aS he) (mM hpl)
theorem u6 {T:String} {r:List V→Hp→VK→Prop} {x:Str} {p pos:Pos} {e:Expr} {es:List Expr} {t:TA} (hc:gq X (.type T) r) (hg:Gl X x) (hm:X.mg x=none) (hv:bootBuiltins x=some (.type T)) (ha:PA X (e::es) t) (hn:x≠"__name__":=by decide) (hdb:(x == ("__debug__":Str))=false:=by decide)
  (he:ao e=true:=by rfl) (hpl:es.all ao=true:=by rfl):PE X (.Call (.Name x p) (e::es) [] pos) (tCB r t):=xC hc hg hm hv ha hn hdb (aS he) (mM hpl)
end
end HX
set_option Elab.async false
set_option linter.all false
set_option maxRecDepth 100000
namespace L2
open PySem PySem.Spec PyProof.Rows
section
variable {X:Cx}
theorem C6:fillsInplaceSlot (.type "list") "add" (Operator.Add == .Add)=pure false:=by
 unfold fillsInplaceSlot
 show (typeLookup (.type "list") (dunderI "add") >>= fun fi=>pure (fi.isSome && !isSeqSlot fi))=pure false
 rw [F.slot_list_iadd.lookup]
 have e:isSeqSlot (some (.builtin "list.__iadd__"))=true:=by decide +kernel
 show (pure (true && !isSeqSlot (some (.builtin "list.__iadd__"))):Sem Bool)=pure false
 rw [e]
 rfl
theorem Dk:seqSlot? (.type "list") (dunderI "add")=pure (some (.builtin "list.__iadd__")):=PySem.seqSlot_of F.slot_list_iadd.lookup (by decide +kernel)
theorem xg {M:Model} {A:Around} {E:Value→Shared→Prop} {s:Shared} {a b:Value} {Q:Value→Shared→Prop} (ha:s.TypeIs a "list") (hb:s.TypeIs b "list")
  (hc:wpAny M A (call (.builtin "list.__iadd__") [a,b]) Q E s):wpAny M A (inplaceOp .Add a b) Q E s:=by
 unfold inplaceOp
 refine wpAny_holding ?_
 refine wpAny_bind (wpAny_typeOf ha (wpAny_bind (wpAny_of_eq C6 ?_)))
 show wpAny M A (if false=true then _ else _) Q E s
 rw [if_neg Bool.false_ne_true]
 refine wpAny_bind (wpAny_binaryOp1_none (nm:="add") ha hb noFill_list_add ?_)
 refine wpAny_bind (wpAny_of_eq Dk ?_)
 exact wpAny_bind (wpAny_rule hc)
theorem Ee:PIp X .Add (fun x y H Q=>∃l b xs zs,x=.ref l∧y=.ref b∧H l=some (.lst xs)∧H b=some (.lst zs)∧xs.length+zs.length≤sizeLine∧Q (.ref l) (upd H l (.lst (xs++zs)))):=by
 intro pins s σ H x y v u Q I rx ry h
 obtain ⟨l,b,xs,zs,rfl,rfl,hH,hB,hz,q⟩:=h
 cases rx
 cases ry
 obtain ⟨z,its,n,r,hl,e⟩:=I.lstM hH
 obtain ⟨z2,its2,n2,r2,hl2,e2⟩:=I.lstM hB
 have hsz:its.toArray.size+its2.toArray.size≤sizeLine:=by rw [List.size_toArray,List.size_toArray];omega
 have hlong:¬(!its.toArray.isEmpty && Builtin.List.listTooLong (its.toArray.size+its2.toArray.size))=true:=by
  rw [rG hsz,Bool.and_false]
  exact Bool.false_ne_true
 refine xg ⟨_,e,rfl⟩ ⟨_,e2,rfl⟩ ?_
 refine call_meets F.slot_list_iadd ⟨_,e,rfl⟩ F.entry_list_iadd (F.args_list_iadd_2 _ _)
  (AutoSeq1.list___iadd___list_list_0 l its.toArray n b its2.toArray n2 hlong (by rw [List.size_toArray];omega) (by omega)) ⟨e,e2,?_⟩
 refine ⟨.ref l,_,I.lset (its':=its++its2) hH e (by simp) (r.append r2) ?_,rfl,q⟩
 rw [List.length_append]
 omega
end
end L2
set_option Elab.async false
set_option linter.all false
set_option maxRecDepth 100000
set_option maxHeartbeats 1000000
namespace L2
open PySem PySem.Spec PyProof.Rows
structure Hu (h:Heap) (f:Addr) (qual:Str) (params:Arguments) (body:Expr) (scope:Scope) (cl:List (Str × Addr)):Prop where
 ex:∃pm c' ctv,h.get? f=some (PySem.W.kla_obj "<lambda>" qual params body scope cl pm c' ctv)∧h.CodeRec (.ref c') qual
structure nu (x:Str) (scope:Scope) (cl:List (Str × Addr)):Prop where
 kind:scope.kind=.function
 co:scope.isCoroutine=false
 gen:scope.isGenerator=false
 nocell:∀y∈scope.names,y.2≠.cell
 par:scope.names.lookup x=some .local
 free:∀y,scope.names.lookup y=some .free→∃c,cl.lookup y=some c
 inj:∀y z c,cl.lookup y=some c→cl.lookup z=some c→y=z
noncomputable def cxL (CX:CXT) (P:Program) (w:World) (K:PySem.W.Frag) (mg:Str→Option Value) (base:Heap) (N:List Str) (qual:Str) (scope:Scope) (f:Addr) (cd:Value) (cl:List (Str × Addr)) (A:Around) (outer:List Env) (s:Shared) (H:Hp) (E:XK):Cx where
 prog:=P
 w:=w
 K:=K
 mg:=mg
 base:=base
 A:=A.deeper (PySem.W.envX qual scope s.heap.objs.size f cd cl)
 N:=N
 s₀:=s
 H₀:=H
 env:=PySem.W.envX qual scope s.heap.objs.size f cd cl
 outer:=outer
 stack:=PySem.W.envX qual scope s.heap.objs.size f cd cl::outer
 ex:=[]
 calm:=true
 fn:=fun _=>false
 pn:=[]
 xe:=fun e s'=>wpAny (model P w) (A.deeper (PySem.W.envX qual scope s.heap.objs.size f cd cl)) (leaving (PySem.W.envX qual scope s.heap.objs.size f cd cl) e) (fun _ s''=>CX outer H s E e s'') (fun e' s''=>CX outer H s E e' s'') s'
theorem Dx {CX:CXT} {P:Program} {w:World} {K:PySem.W.Frag} {mg:Str→Option Value} {base:Heap} {N:List Str} {qual x:Str} {scope:Scope} {f:Addr} {cd:Value} {cl:List (Str × Addr)} {A:Around} {outer:List Env} {s:Shared} {H:Hp} {E:XK} {u:Value} {v:V} {σ:St} {h1:Heap} {tk:Nat}
  (S:nu x scope cl) (hd:A.handled=none) (e0:qc P w K mg base A outer s H) (rv:RelV v u)
  (hc:∀y c,cl.lookup y=some c→(∃z,s.heap.IsCell c z)∧H c=none)
  (hσ:∀(i:Nat) (y:Str) (z:V),N[i]?=some y→σ[i]?=some (some z)→(y=x∧z=v)∨(scope.names.lookup y=some .free∧∃c q,cl.lookup y=some c∧s.heap.IsCell c (some q)∧RelV z q)) (hl:σ.length=N.length)
  (hns:h1.Ns s.heap.objs.size (fun y=>[(x,u)].reverse.lookup y)) (hk:∀b o,s.heap.get? b=some o→h1.get? b=some o) :
  Inv (cxL CX P w K mg base N qual scope f cd cl A outer s H E) [] σ H { s with heap:=h1,toks:=tk }:=by
 have noA:∀b:Addr,b ∉ (cxL CX P w K mg base N qual scope f cd cl A outer s H E).ex:=fun b z=>absurd (show b∈([]:List Addr) from z) (by simp)
 have ck:∀c z,s.heap.IsCell c z→h1.IsCell c z:=fun c z ⟨o,e,d⟩=>⟨o,hk _ _ e,d⟩
 refine ⟨⟨e0.mod,S.kind,rfl,rfl,Nat.le_refl _,fun y z c h1 h2=>S.inj y z c h1 h2,fun y hy=>?_,fun y c h=>Bool.noConfusion (show false=true from h),fun _=>hd,Around.frames_deeper e0.frames,.inr ⟨rfl,rfl⟩,fun b z=>absurd z (noA b),e0.bs,e0.bsz,fun b _ _=>noA b,fun b z=>absurd z (noA b),e0.funs,e0.frf⟩,
  rfl,e0.bare,Un.kept hk,⟨_,hns,fun i y z h1 h2 h3=>?_⟩,fun y c h=>?_,e0.hok.fresh (Nat.le_refl _),fun y c h=>(hc y c h).2,fun p hp=>absurd (show p∈([]:List (Addr × Obj)) from hp) (by simp),e0.hok.kept hk,hl⟩
 ·have hy:scope.names.lookup y=some .cell∨scope.names.lookup y=some .free:=hy
  rcases hy with hy|hy
  ·exact absurd rfl (S.nocell _ (PySem.mem_of_lookup hy))
  ·exact S.free y hy
 ·rcases hσ i y z h1 h2 with ⟨rfl,rfl⟩|⟨hf,c,q,e1,e2,e3⟩
  ·exact ⟨u,rv,.inl ⟨S.par,by simp [List.lookup]⟩⟩
  ·exact ⟨q,e3,.inr ⟨.inr hf,c,e1,ck _ _ e2⟩⟩
 ·obtain ⟨⟨z,q⟩,_⟩:=hc y c h
  exact ⟨z,ck _ _ q⟩
theorem CO {P:Program} {w:World} {K:PySem.W.Frag} {mg:Str→Option Value} {base:Heap} {k:Nat} {N:List Str} {qual x:Str} {params:Arguments} {body:Expr} {scope:Scope} {f:Addr} {cl:List (Str × Addr)} {A:Around} {outer:List Env} {s:Shared} {H:Hp} {E:XK} {u:Value} {v:V} {σ:St} {Q:VK}
  (F:Hu s.heap f qual params body scope cl) (S:nu x scope cl) (hr:Room (k+1) A) (e0:qc P w K mg base A outer s H) (rv:RelV v u)
  (hb:∀pm c' ctv (u:Value),bindArgs (PySem.W.kla_fn "<lambda>" qual params body scope cl pm (.ref c') ctv) ⟨[u],[]⟩=pure [(x,u)])
  (hc:∀y c,cl.lookup y=some c→(∃z,s.heap.IsCell c z)∧H c=none)
  (hσ:∀(i:Nat) (y:Str) (z:V),N[i]?=some y→σ[i]?=some (some z)→(y=x∧z=v)∨(scope.names.lookup y=some .free∧∃c q,cl.lookup y=some c∧s.heap.IsCell c (some q)∧RelV z q)) (hl:σ.length=N.length)
  (hbody:∀c',Room k (A.deeper (PySem.W.envX qual scope s.heap.objs.size f (.ref c') cl))→∃t,PE (cxL CX0 P w K mg base N qual scope f (.ref c') cl A outer s H E).nox body t∧t σ H Q) :
  codeAny (model P w) A (.call (.ref f) ⟨[u],[]⟩) (CR CX0 outer P w H s Q E) s:=by
 obtain ⟨pm,c',ctv,ho,hcd⟩:=F.ex
 have lim:s.heap.NoLimit:=e0.mod.nolimit.keeps fun b o e=>(e0.bs b o e).1
 refine PySem.W.kla_callFunE hr.depth ho rfl S.co S.gen rfl hcd ?_
 rw [hb]
 refine wpAny_pure (wpAny_newFunctionEnv S.nocell (fun y hy=>?_) (fun h1 hns hsb=>?_) S.kind)
 ·rw [List.mem_singleton] at hy
  subst hy
  exact S.par
 have hk1:∀b o,s.heap.get? b=some o→h1.get? b=some o:=fun b o e=>hsb.extBut b o (Nat.ne_of_lt (Heap.lt_size e)) (Heap.get?_push_of_some _ e)
 refine ⟨lim.keeps hk1,?_⟩
 show codeAny _ _ (.expr body (PySem.W.envX qual scope s.heap.objs.size f (.ref c') cl)) _ _
 obtain ⟨t,ht,hq⟩:=hbody c' (hr.deeper _)
 have I:=Dx (CX:=CX0) (E:=E) (f:=f) (cd:=.ref c') (qual:=qual) (tk:=s.toks+1) S hr.hd e0 rv hc hσ hl hns hk1
 refine PySem.W.kla_codeExpr (wpAny_mono (ht.nox [] _ σ H Q I hq) (fun v' s' ⟨v,H',J,rv,q⟩=>?_) fun e s' hs=>hs)
 exact ⟨v,H',J.os,J.bare,J.base,J.hok,rv,q⟩
end L2
set_option Elab.async false
set_option linter.all false
set_option maxRecDepth 100000
set_option maxHeartbeats 1000000
namespace L2
open PySem PySem.Spec PyProof.Rows
noncomputable abbrev CH (ps:Array Value) (pos:Pos) (c':Addr):Array Value:=ps++#[rawInt pos.line,rawInt pos.col,.ref c']
noncomputable abbrev li (H:Hp) (T:Addr) (ps:Array Value) (pos:Pos) (c':Addr) (oc:Obj):Hp:=upd (upd H T (.tbl (CH ps pos c'))) c' (.frz oc (.own 0))
noncomputable def mP (oc:Obj) (q:Str):Prop:=∃vs t,oc.data=.fields vs∧vs[1]?=some (.str q t)
theorem zK {X:Cx} {pins:List (Addr × Obj)} {σ:St} {H:Hp} {s:Shared} {c T:Addr} {ps:Array Value} {params:Arguments} {body:Expr} {scope:Scope} {pos:Pos} {clos:List (Str × Addr)} {Q:Value→Shared→Prop}
  (I:Inv X pins σ H s) (hcd:X.env.code=.ref c) (C:PySem.W.CodeHd s.heap c T) (hT:H T=some (.tbl ps)) (ht:TriplesOk ps.toList)
  (hcodes:∀cv,codeAmong pos ps.toList=some cv→∃c' oc,cv=.ref c'∧H c'=some (.frz oc (.own 0))∧mP oc (X.env.qual++"<lambda>"))
  (hbm:s.heap.BuiltinsAt X.mg T) (hcl:closureFor scope X.env=pure clos) (hdef:defaultsOf params X.env=([],[]))
  (h:∀f H' s' pm c' ctv oc,Inv X pins σ H' s'→s'.heap.get? f=some (PySem.W.kla_obj "<lambda>" (X.env.qual++"<lambda>") params body scope clos pm c' ctv)→H' c'=some (.frz oc (.own 0))→mP oc (X.env.qual++"<lambda>")→H' f=none→s.heap.objs.size≤f →
   (H'=H∨(H c'=none∧c'≠T∧codeAmong pos ps.toList=none∧H'=li H T ps pos c' oc))→Q (.ref f) s') :
  wpAny (model X.prog X.w) X.A (eval (.Lambda params body scope pos) X.env) Q X.xe s:=by
 have hP:s.heap.get? T=some (PySem.W.tabObj ps):=I.hok T _ hT
 have hg:s.heap.Ns mainGlobals X.mg:=I.mod.glob.keeps I.bk
 refine PySem.W.kla_eval hdef ?_
 cases hf:codeAmong pos ps.toList with
 | some cv =>
  obtain ⟨c',oc,rfl,hoc,hob⟩:=hcodes cv hf
  refine PySem.W.kla_makeFunctionHit (mg:=X.mg) hcl I.ok.glob hg hcd C hP ht hf hbm fun ctv h' tk hk hsz=>?_
  have hk2:∀(ob:Obj) b o,s.heap.get? b=some o→(h'.push ob).get? b=some o:=fun ob b o e=>Heap.get?_push_of_some _ (hk b o e)
  exact h h'.objs.size H _ _ c' ctv oc (I.un (Un.kept (hk2 _)) (I.hok.kept (hk2 _))) (Heap.get?_push_size _ rfl) hoc hob (I.hok.fresh hsz) hsz (.inl rfl)
 | none =>
  have hgP:mainGlobals≠T:=fun z=>by
   have:=(I.bs _ _ (show X.base.get? mainGlobals=some _ from I.mod.glob.choose_spec.choose_spec.choose_spec.1)).2
   rw [z,hT] at this
   cases this
  refine PySem.W.kla_makeFunction (mg:=X.mg) hcl I.ok.glob hg hcd C hP ht hf hgP hbm fun c' ctv h' tk hx hge hlt hrec htb=>?_
  obtain ⟨c2,oc,vs,tq,e2,hoc,hdc,hq⟩:=hrec
  cases e2
  have hn:H c'=none:=I.hok.fresh hge
  have nT:∀b,H b=none→b≠T:=fun b n z=>by rw [z,hT] at n;cases n
  have cT:c'≠T:=nT c' hn
  have oT:∀b o,H b=some o→(∀qs,o≠.tbl qs)→b≠T:=fun b o e n z=>by rw [z,hT] at e;cases e;exact n _ rfl
  have oC:∀b o,H b=some o→b≠c':=fun b o e z=>by rw [z,hn] at e;cases e
  have hk2:∀(ob:Obj) b o,b≠T→s.heap.get? b=some o→(h'.push ob).get? b=some o:=fun ob b o hb e=>Heap.get?_push_of_some _ (hx b o hb e)
  have same:∀b,b≠T→b≠c'→li H T ps pos c' oc b=H b:=fun b h1 h2=>(ak h2).trans (ak h1)
  have hTb:∀ob:Obj,(h'.push ob).get? T=some (PySem.W.tabObj (CH ps pos c')):=fun ob=>Heap.get?_push_of_some _ htb
  have atT:li H T ps pos c' oc T=some (.tbl (CH ps pos c')):=(ak cT.symm).trans (if_pos rfl)
  have lt:∀b o,s.heap.get? b=some o→b≠c':=fun b o e=>Nat.ne_of_lt (Nat.lt_of_lt_of_le (Heap.lt_size e) hge)
  have un:∀ob:Obj,Un X.fs [] H (li H T ps pos c' oc) s.heap (h'.push ob):=fun ob =>
   ⟨fun b o e n _ _=>hk2 ob b o (nT b n) e,fun b o e n _ _=>⟨o.slots,hk2 ob b o (nT b n) e⟩,fun b o e n _=>by rw [same b (nT b n) (lt b o e)];exact n,
    fun b o e _=>by
     by_cases hb:b=T
     ·rw [hb];exact ⟨_,hTb ob⟩
     ·exact ⟨o,hk2 ob b o hb e⟩,
    fun b xs e=>by rw [same b (oT b _ e fun _ z=>nomatch z) (oC b _ e)];exact e,
    fun b o u e=>by rw [same b (oT b _ e fun _ z=>nomatch z) (oC b _ e)];exact e,
    fun b qs e=>by
     by_cases hb:b=T
     ·subst hb
      rw [hT] at e;cases e
      exact ⟨_,atT⟩
     ·exact ⟨#[],by rw [same b hb (oC b _ e),e];simp⟩⟩
  have recP:∀ob:Obj,(h'.push ob).get? c'=some oc:=fun ob=>Heap.get?_push_of_some _ hoc
  have hok:∀ob:Obj,HOk X.prog X.w (li H T ps pos c' oc) (h'.push ob):=fun ob a o e=>by
   by_cases ha:a=c'
   ·subst ha
    have e':some (HO.frz oc (.own 0))=some o:=by rw [←e];exact (if_pos rfl).symm
    cases e'
    exact ⟨recP ob,oc,recP ob⟩
   ·by_cases hb:a=T
    ·subst hb
     rw [atT] at e
     cases e
     exact hTb ob
    ·rw [same a hb ha] at e
     refine (I.hok a o e).stay (fun b u hq q=>hk2 ob b u ?_ q) (fun b q=>?_) fun b xs q=>?_
     ·rcases hq with rfl|hq
      ·exact hb
      ·exact oT b _ hq fun _ z=>nomatch z
     ·rw [same b (oT b _ q fun _ z=>nomatch z) (oC b _ q)];exact q
     ·rw [same b (oT b _ q fun _ z=>nomatch z) (oC b _ q)];exact q
  have hfr:li H T ps pos c' oc h'.objs.size=none:=by
   have hlT:T<h'.objs.size:=Heap.lt_size htb
   rw [same _ (Nat.ne_of_gt hlT) (Nat.ne_of_gt hlt)]
   exact I.hok.fresh (Nat.le_trans hge (Nat.le_of_lt hlt))
  exact h h'.objs.size (li H T ps pos c' oc) _ _ c' ctv oc (I.un (un _) (hok _)) (Heap.get?_push_size _ rfl) (if_pos rfl) ⟨vs,tq,hdc,hq⟩ hfr (Nat.le_trans hge (Nat.le_of_lt hlt)) (.inr ⟨hn,cT,hf,rfl⟩)
end L2
set_option Elab.async false
set_option linter.all false
set_option maxRecDepth 100000
namespace FW
open PySem L2 HX
inductive PV where
 | non|bl (b:Bool)|int (i:Int)|str (x:Str)|tup (xs:List PV)|ref (n:Nat)|rdl (xs:List PV)|fn (a:Nat)
 deriving Inhabited
inductive Cell where
 | lst (xs:List PV)
 | dk (kvs:List (Key × PV))
noncomputable abbrev AH:=List Cell
noncomputable abbrev Fr:=List (Option PV)
noncomputable abbrev EK:=PV→AH→Prop
noncomputable abbrev LK:=List PV→AH→Prop
noncomputable abbrev BK:=Bool→AH→Prop
noncomputable abbrev FSp:=List PV→AH→EK→Prop
mutual
noncomputable def PV.bel (k:Nat):PV→Bool
 | .ref n=>decide (n<k)
 | .tup xs=>PV.bels k xs
 | .rdl xs=>PV.bels k xs
 | .non=>true
 | .bl _=>true
 | .int _=>true
 | .str _=>true
 | .fn _=>false
noncomputable def PV.bels (k:Nat):List PV→Bool
 | []=>true
 | x::xs=>x.bel k && PV.bels k xs
end
mutual
noncomputable def PV.bec (k:Nat):PV→Bool
 | .ref n=>decide (n<k)
 | .tup xs=>PV.becs k xs
 | .rdl xs=>PV.becs k xs
 | .non=>true
 | .bl _=>true
 | .int _=>true
 | .str _=>true
 | .fn _=>true
noncomputable def PV.becs (k:Nat):List PV→Bool
 | []=>true
 | x::xs=>x.bec k && PV.becs k xs
end
mutual
theorem PV.bel_bec {i j:Nat} (h:i≤j):∀ {v:PV},v.bel i=true→v.bec j=true
 | .non,_=>by rw [PV.bec]
 | .bl _,_=>by rw [PV.bec]
 | .int _,_=>by rw [PV.bec]
 | .str _,_=>by rw [PV.bec]
 | .ref n,z=>by rw [PV.bel] at z;rw [PV.bec];have:=of_decide_eq_true z;exact decide_eq_true (by omega)
 | .tup xs,z=>by rw [PV.bel] at z;rw [PV.bec];exact PV.bels_becs h z
 | .rdl xs,z=>by rw [PV.bel] at z;rw [PV.bec];exact PV.bels_becs h z
 | .fn _,z=>by rw [PV.bel] at z;cases z
theorem PV.bels_becs {i j:Nat} (h:i≤j):∀ {vs:List PV},PV.bels i vs=true→PV.becs j vs=true
 | [],_=>by rw [PV.becs]
 | v::vs,z=>by rw [PV.bels,Bool.and_eq_true] at z;rw [PV.becs,Bool.and_eq_true];exact ⟨PV.bel_bec h z.1,PV.bels_becs h z.2⟩
end
noncomputable def Cell.bec (k:Nat):Cell→Bool
 | .lst xs=>PV.becs k xs
 | .dk kvs=>PV.becs k (kvs.map (·.2))
noncomputable def Cell.bel (k:Nat):Cell→Bool
 | .lst xs=>PV.bels k xs
 | .dk kvs=>PV.bels k (kvs.map (·.2))
mutual
noncomputable def PV.toD:PV→Option PyData
 | .non=>some .none
 | .bl b=>some (.bool b)
 | .int i=>some (.int i)
 | .str x=>some (.str x)
 | .tup xs=>(PV.toDs xs).map .tuple
 | .rdl xs=>(PV.toDs xs).map .list
 | .ref _=>none
 | .fn _=>none
noncomputable def PV.toDs:List PV→Option (List PyData)
 | []=>some []
 | x::xs=>match x.toD,PV.toDs xs with
  | some d,some ds=>some (d::ds)
  | _,_=>none
end
noncomputable def mK (st:AH):PV→Option PyData
 | .ref n=>match st[n]? with
  | some (.lst xs)=>(PV.toDs xs).map .list
  | _=>none
 | v=>v.toD
noncomputable def eqW (st:AH) (x y:PV) (k:Bool→Prop):Prop :=
 match x,y with
 | .int i,.int j=>k (decide (i=j))
 | .bl a,.bl b=>k (decide (a=b))
 | .str a,.str b=>k (decide (a=b))
 | x,y=>∃d e,mK st x=some d∧mK st y=some e∧SeqAt.shaped d=true∧SeqAt.shaped e=true∧k (PyData.eqv d e)
noncomputable def eK (st:AH):PV→Option String
 | .non=>some "NoneType"
 | .bl _=>some "bool"
 | .int _=>some "int"
 | .str _=>some "str"
 | .tup _=>some "tuple"
 | .rdl _=>some "list"
 | .ref n=>match st[n]? with
  | some (.lst _)=>some "list"
  | some (.dk _)=>some "dict"
  | none=>none
 | .fn _=>none
noncomputable def b8 (st:AH):PV→Option (List PV)
 | .rdl xs=>some xs
 | .ref n=>match st[n]? with
  | some (.lst xs)=>some xs
  | _=>none
 | _=>none
noncomputable def bJ (st:AH):PV→Option (List PV)
 | .tup xs=>some xs
 | v=>b8 st v
noncomputable def ic:PV→Bool
 | .non=>true
 | _=>false
noncomputable def ld (k:Bool):PV→Bool
 | .bl b=>b == k
 | _=>false
noncomputable def vm (xs:List PV) (lo hi:Option Int):List PV:=(xs.drop (HT.sIx xs.length 0 lo)).take (HT.sIx xs.length xs.length hi-HT.sIx xs.length 0 lo)
noncomputable def iiW (f:Int→Int→Prop) (x y:PV):Prop :=
 match x with
 | .int i=>match y with
  | .int j=>f i j
  | _=>False
 | _=>False
noncomputable def IL (x y:PV) (st:AH) (Q:EK):Prop :=
 match x with
 | .int i=>match y with
  | .int j=>Q (.int (i+j)) st
  | _=>False
 | .ref n=>match y with
  | .ref k=>∃xs ys,st[n]?=some (.lst xs)∧st[k]?=some (.lst ys)∧xs.length+ys.length≤100000∧Q (.ref st.length) (st++[.lst (xs++ys)])
  | _=>False
 | .tup xs=>match y with
  | .tup ys=>xs.length+ys.length≤100000∧Q (.tup (xs++ys)) st
  | _=>False
 | .str a=>match y with
  | .str b=>a.length+b.length≤100000∧Q (.str (a++b)) st
  | _=>False
 | _=>False
noncomputable def Iy (x y:PV) (st:AH) (Q:EK):Prop :=
 match x with
 | .int i=>match y with
  | .int j=>CMB i j∧Q (.int (i*j)) st
  | _=>False
 | .ref n=>match y with
  | .int k=>∃xs,st[n]?=some (.lst xs)∧-(2 ^ 63)≤k∧k<2 ^ 63∧xs.length*k.toNat≤100000∧Q (.ref st.length) (st++[.lst (List.replicate k.toNat xs).flatten])
  | _=>False
 | _=>False
noncomputable def iJ (op:Operator) (x y:PV) (st:AH) (Q:EK):Prop :=
 match op with
 | .Add=>IL x y st Q
 | .Sub=>iiW (fun i j=>Q (.int (i-j)) st) x y
 | .Mult=>Iy x y st Q
 | .FloorDiv=>iiW (fun i j=>CBig j∧Q (.int (i/j)) st) x y
 | .Mod=>iiW (fun i j=>0<j∧Q (.int (i % j)) st) x y
 | .Pow=>iiW (fun i j=>vE i j∧Q (.int (i ^ j.toNat)) st) x y
 | _=>False
noncomputable def eV (op:CmpOp) (x y:PV) (st:AH) (Q:EK):Prop :=
 match op with
 | .Eq=>eqW st x y fun k=>Q (.bl k) st
 | .NotEq=>eqW st x y fun k=>Q (.bl (!k)) st
 | .Is=>match y with
  | .non=>Q (.bl (ic x)) st
  | .bl k=>Q (.bl (ld k x)) st
  | _=>False
 | .IsNot=>match y with
  | .non=>Q (.bl (!ic x)) st
  | .bl k=>Q (.bl (!ld k x)) st
  | _=>False
 | .Lt=>match x,y with
  | .int i,.int j=>Q (.bl (decide (i<j))) st
  | _,_=>False
 | .LtE=>match x,y with
  | .int i,.int j=>Q (.bl (decide (i≤j))) st
  | _,_=>False
 | .Gt=>match x,y with
  | .int i,.int j=>Q (.bl (decide (j<i))) st
  | _,_=>False
 | .GtE=>match x,y with
  | .int i,.int j=>Q (.bl (decide (j≤i))) st
  | _,_=>False
 | .In=>match x,y with
  | .str a,.str b=>Q (.bl (!(Builtin.Str.occurrences b a 0 b.length 1).isEmpty)) st
  | .int i,.tup xs=>∃ns:List Int,xs=ns.map PV.int∧Q (.bl (ns.any fun j=>j == i)) st
  | _,_=>False
 | .NotIn=>match x,y with
  | .int i,.tup xs=>∃ns:List Int,xs=ns.map PV.int∧Q (.bl (!(ns.any fun j=>j == i))) st
  | _,_=>False
noncomputable def ixI (i:Int) (st:AH) (Q:EK) (x:PV):Prop :=
 match x with
 | .str z=>z.length≤100000∧∃c,atI z.cps.toList i=some c∧Q (.str ⟨#[c]⟩) st
 | x=>∃xs,bJ st x=some xs∧∃v,atI xs i=some v∧Q v st
theorem wx {i:Int} {st:AH} {Q:EK} {x:PV} (h:ixI i st Q x):(∃z c,x=.str z∧z.length≤100000∧atI z.cps.toList i=some c∧Q (.str ⟨#[c]⟩) st)∨∃xs v,bJ st x=some xs∧atI xs i=some v∧Q v st:=by
 cases x with
 | str z=>exact .inl ⟨z,h.2.choose,rfl,h.1,h.2.choose_spec⟩
 | _=>obtain ⟨xs,e,v,e2,q⟩:=h;exact .inr ⟨xs,v,e,e2,q⟩
theorem Cc {i:Int} {st:AH} {Q:EK} {x:PV} {xs:List PV} {v:PV} (e:bJ st x=some xs) (e2:atI xs i=some v) (h:Q v st):ixI i st Q x:=by
 cases x with|str z=>cases e|_=>exact ⟨xs,e,v,e2,h⟩
noncomputable def ixW (x y:PV) (st:AH) (Q:EK):Prop :=
 match y with
 | .int i=>ixI i st Q x
 | _=>False
noncomputable def CD (z:Str) (lo hi:Option Int):Str:=if ((Builtin.Str.strSliceIndices lo hi 1 z.length).length == z.length)=true then z else ⟨((Builtin.Str.strSliceIndices lo hi 1 z.length).filterMap (z.cps[·]?)).toArray⟩
noncomputable def slW (x:PV) (lo hi:Option Int) (st:AH) (Q:EK):Prop :=
 match x with
 | .str z=>z.length≤100000∧Q (.str (CD z lo hi)) st
 | .tup xs=>Q (.tup (vm xs lo hi)) st
 | x=>∃xs,b8 st x=some xs∧Q (.ref st.length) (st++[.lst (vm xs lo hi)])
noncomputable def E_ (st:AH) (Q:EK) (x:PV):Prop :=
 match x with
 | .str z=>z.length≤100000∧Q (.int z.length) st
 | x=>∃xs,bJ st x=some xs∧Q (.int xs.length) st
theorem rD {st:AH} {Q:EK} {x:PV} (h:E_ st Q x):(∃z,x=.str z∧z.length≤100000∧Q (.int z.length) st)∨∃xs,bJ st x=some xs∧Q (.int xs.length) st:=by
 cases x with|str z=>exact .inl ⟨z,rfl,h⟩|_=>exact .inr h
theorem zU {st:AH} {Q:EK} {x:PV} {xs:List PV} (e:bJ st x=some xs) (h:Q (.int xs.length) st):E_ st Q x:=by
 cases x with|str z=>cases e|_=>exact ⟨xs,e,h⟩
inductive B where
 | len|max2|min2|divmod|int1|str1|tuple1|list1|all1|any1|abs1|sorted1|repr1
 deriving DecidableEq
noncomputable def Hy:List PV→Option (List Bool)
 | []=>some []
 | .bl b::r=>(Hy r).map (b::·)
 | _::_=>none
noncomputable def yF (f:PV→Prop) (vs:List PV):Prop :=
 match vs with
 | [x]=>f x
 | _=>False
noncomputable def D7 (f:PV→PV→Prop) (vs:List PV):Prop :=
 match vs with
 | [x,y]=>f x y
 | _=>False
noncomputable def inW (f:Int→Prop) (x:PV):Prop :=
 match x with
 | .int b=>f b
 | _=>False
noncomputable def fU (b:B) (vs:List PV) (st:AH) (Q:EK):Prop :=
 match b with
 | .len=>yF (E_ st Q) vs
 | .max2=>D7 (iiW fun i j=>Q (.int (if i<j then j else i)) st) vs
 | .min2=>False
 | .divmod=>D7 (iiW fun i j=>CBig j∧Q (.tup [.int (i/j),.int (i % j)]) st) vs
 | .int1=>False
 | .str1=>False
 | .tuple1=>yF (fun x=>∃xs,bJ st x=some xs∧Q (.tup xs) st) vs
 | .list1=>False
 | .all1=>False
 | .any1=>False
 | .abs1=>yF (inW fun i=>Q (.int i.natAbs) st) vs
 | .sorted1=>False
 | .repr1=>False
inductive M where
 | append|pop0|extend|insert|count
 deriving DecidableEq
noncomputable def rfW (f:Nat→Prop) (x:PV):Prop :=
 match x with
 | .ref n=>f n
 | _=>False
noncomputable def DI (f:Prop) (vs:List PV):Prop :=
 match vs with
 | []=>f
 | _=>False
noncomputable def rN (m:M) (x:PV) (vs:List PV) (st:AH) (Q:EK):Prop :=
 match m with
 | .append=>rfW (fun n=>yF (fun v=>∃xs,st[n]?=some (.lst xs)∧xs.length<100000∧Q .non (st.set n (.lst (xs++[v])))) vs) x
 | .pop0=>rfW (fun n=>DI (∃xs v,st[n]?=some (.lst xs)∧xs[xs.length-1]?=some v∧Q v (st.set n (.lst xs.dropLast))) vs) x
 | .extend=>False
 | .insert=>False
 | .count=>False
theorem cW {f:Int→Int→Prop} {x y:PV} (h:iiW f x y):∃i j,x=.int i∧y=.int j∧f i j:=by
 cases x with
 | int i =>
  cases y with
  | int j=>exact ⟨i,j,rfl,rfl,h⟩
  | _=>exact False.elim h
 | _=>exact False.elim h
theorem dO {f:PV→Prop} {vs:List PV} (h:yF f vs):∃x,vs=[x]∧f x:=by
 cases vs with
 | nil=>exact False.elim h
 | cons x t =>
  cases t with
  | nil=>exact ⟨x,rfl,h⟩
  | cons _ _=>exact False.elim h
theorem jp {f:PV→PV→Prop} {vs:List PV} (h:D7 f vs):∃x y,vs=[x,y]∧f x y:=by
 cases vs with
 | nil=>exact False.elim h
 | cons x t =>
  cases t with
  | nil=>exact False.elim h
  | cons y t =>
   cases t with
   | nil=>exact ⟨x,y,rfl,h⟩
   | cons _ _=>exact False.elim h
theorem oU {f:Prop} {vs:List PV} (h:DI f vs):vs=[]∧f:=by
 cases vs with
 | nil=>exact ⟨rfl,h⟩
 | cons x t=>exact False.elim h
theorem wl {f:Int→Prop} {x:PV} (h:inW f x):∃b,x=.int b∧f b:=by
 cases x with
 | int b=>exact ⟨b,rfl,h⟩
 | _=>exact False.elim h
theorem lI {f:Nat→Prop} {x:PV} (h:rfW f x):∃b,x=.ref b∧f b:=by
 cases x with
 | ref b=>exact ⟨b,rfl,h⟩
 | _=>exact False.elim h
noncomputable def dY (x:PV) (st:AH) (Q:BK):Prop :=
 match x with
 | .bl b=>Q b st
 | .non=>Q false st
 | .int i=>Q (i != 0) st
 | .str _=>False
 | x=>∃xs,bJ st x=some xs∧Q (!xs.isEmpty) st
noncomputable def Sub (st st':AH):Prop:=∀i,i<st.length→st'[i]?=st[i]?∨∃c,st'[i]?=some c∧c.bel 0=true
noncomputable def Tmp (st:AH) (Q:EK):EK:=fun v st'=>∃st1 g,st'=st1++g∧st1.length=st.length∧Sub st st1∧v.bel st.length=true∧Q v st1
noncomputable def Ret (st:AH) (Q:EK):EK:=fun v st'=>Q v st'∨Tmp st Q v st'
mutual
inductive E where
 | var (i:Nat)|int (i:Int)|bl (b:Bool)|non|str (x:Str)|gv (x:Str) (v:PV)
 | tup (es:Es)|lst (es:Es)|dct0|dct1 (k:Str) (i:Int)
 | bin (op:Operator) (a b:E)|neg (a:E)|not (a:E)
 | cmp (op:CmpOp) (a b:E)
 | bop (isAnd:Bool) (es:Es)
 | ite (c a b:E)
 | ix (a b:E)|sl (a:E) (lo hi:O)
 | call (f:Nat) (es:Es)
 | blt (b:B) (es:Es)
 | inst (a:E) (t:String)
 | met (m:M) (o:E) (es:Es)
 | comp (elt:E) (tg:Tg) (it:It) (ifs:Es) (nt:List Str) (caps:List Nat)
 | tmp (a:E)
 | bad
 | jrev (a:E)|part (a:E) (y:Str)
 | pcall (i:Nat) (e:E)|hm (e be:E) (caps:List Nat)
inductive Es where
 | nil|cons (e:E) (es:Es)
inductive O where
 | no|yes (e:E)
inductive It where
 | seq (e:E)|range1 (a:E)|range2 (a b:E)|zip (a b:E)|enum (a:E)|chars (e:E)|range3 (a b c:E)|zip3 (a b c:E)
inductive Tg where
 | name (i:Nat)|tup (ts:Tgs)|ltup (ts:Tgs)|sub (o i:E)
inductive Tgs where
 | nil|cons (t:Tg) (ts:Tgs)
end
noncomputable def Tgs.size:Tgs→Nat
 | .nil=>0
 | .cons _ ts=>ts.size+1
noncomputable def qU (o i v:PV) (st:AH) (k:AH→Prop):Prop :=
 match o,i with
 | .ref n,.int j=>∃xs,st[n]?=some (.lst xs)∧∃q,ixN xs.length j=some q∧k (st.set n (.lst (xs.set q v)))
 | _,_=>False
noncomputable def eF (chk:AH→Prop) (body:PV→AH→(Option PV→AH→Prop)→Prop):List PV→List PV→AH→LK→Prop
 | [],acc,st,Q=>chk st∧Q acc st
 | x::xs,acc,st,Q=>chk st∧body x st fun o st'=>eF chk body xs (acc++o.toList) st' Q
noncomputable def d5 (st:AH):PV→AH→Prop
 | .ref n=>fun st'=>st'[n]?=st[n]?
 | _=>fun _=>True
noncomputable def dZ (lo:Int) (n:Nat):List PV:=(List.range n).map fun (i:Nat)=>PV.int (lo+(i:Int))
noncomputable def d6:List PV→List PV→List PV→List PV
 | x::xs,y::ys,z::zs=>.tup [x,y,z]::d6 xs ys zs
 | _,_,_=>[]
noncomputable def h_:Int→List PV→List PV
 | _,[]=>[]
 | i,x::xs=>.tup [.int i,x]::h_ (i+1) xs
noncomputable def og (g:PV→Bool) (xs:List PV):Nat→Nat→Nat→Nat
 | 0,lo,_=>lo
 | n+1,lo,hi=>if lo<hi then (if g (xs.getD ((lo+hi)/2) .non)=true then og g xs n ((lo+hi)/2+1) hi else og g xs n lo ((lo+hi)/2)) else lo
noncomputable def bsr (g:PV→Bool) (xs:List PV):Nat:=og g xs xs.length 0 xs.length
section
variable (Γ:Nat→FSp)
mutual
noncomputable def wpE:E→Fr→AH→EK→Prop
 | .var i,ρ,st,Q=>∃v,ρ[i]?=some (some v)∧Q v st
 | .int i,_,st,Q=>Q (.int i) st
 | .bl b,_,st,Q=>Q (.bl b) st
 | .non,_,st,Q=>Q .non st
 | .str x,_,st,Q=>Q (.str x) st
 | .gv _ v,_,st,Q=>Q v st
 | .tup es,ρ,st,Q=>dh es ρ st fun vs st1=>vs.length≤100000∧Q (.tup vs) st1
 | .lst es,ρ,st,Q=>dh es ρ st fun vs st1=>vs.length≤100000∧Q (.ref st1.length) (st1++[.lst vs])
 | .dct0,_,_,_=>False
 | .dct1 _ _,_,_,_=>False
 | .bin op a b,ρ,st,Q=>wpE a ρ st fun x st1=>wpE b ρ st1 fun y st2=>iJ op x y st2 Q
 | .neg a,ρ,st,Q=>wpE a ρ st fun x st1=>∃i,x=.int i∧Q (.int (-i)) st1
 | .not a,ρ,st,Q=>wpE a ρ st fun x st1=>∃c,x=.bl c∧Q (.bl (!c)) st1
 | .cmp op a b,ρ,st,Q=>wpE a ρ st fun x st1=>wpE b ρ st1 fun y st2=>eV op x y st2 Q
 | .bop true es,ρ,st,Q=>qx es ρ st Q
 | .bop false es,ρ,st,Q=>pX es ρ st Q
 | .ite c a b,ρ,st,Q=>wpT c ρ st fun k st1=>if k=true then wpE a ρ st1 Q else wpE b ρ st1 Q
 | .ix a b,ρ,st,Q=>wpE a ρ st fun x st1=>wpE b ρ st1 fun y st2=>ixW x y st2 Q
 | .sl a lo hi,ρ,st,Q=>wpE a ρ st fun x st1=>wpO lo ρ st1 fun l st2=>wpO hi ρ st2 fun h st3=>slW x l h st3 Q
 | .call f es,ρ,st,Q=>dh es ρ st fun vs st1=>Γ f vs st1 Q
 | .blt b es,ρ,st,Q=>dh es ρ st fun vs st1=>fU b vs st1 Q
 | .inst a t,ρ,st,Q=>wpE a ρ st fun x st1=>∃n,eK st1 x=some n∧Q (.bl (gF t n)) st1
 | .met m o es,ρ,st,Q=>wpE o ρ st fun x st1=>(∃xs,b8 st1 x=some xs)∧dh es ρ st1 fun vs st2=>rN m x vs st2 Q
 | .comp elt tg it ifs nt caps,ρ,st,Q=>iW it ρ st fun xs chk st1 =>
   xs.length<100000∧eF chk (fun x st2 k=>dw tg x (nt.map (fun _=>none)++caps.map fun i=>(ρ[i]?).join) st2 fun ρ' st3=>hZ ifs ρ' st3 fun c st4 =>
    if c=true then wpE elt ρ' st4 fun v st5=>k (some v) st5 else k none st4) xs [] st1 fun vs st2=>Q (.ref st2.length) (st2++[.lst vs])
 | .tmp a,ρ,st,Q=>wpE a ρ st (Tmp st Q)
 | .bad,_,_,_=>False
 | .jrev _,_,_,_=>False
 | .part _ _,_,_,_=>False
 | .pcall i e,ρ,st,Q=>∃a,ρ[i]?=some (some (.fn a))∧wpE e ρ st fun v st1=>Γ 1000 [.fn a,v] st1 Q
 | .hm e be caps,ρ,st,Q=>wpE e ρ st fun v st1=>∃xs,v=.tup xs∧xs.length≤100000∧(∀i∈caps,∃c,ρ[i]?=some (some c)∧c.bel 0=true) ∧
   ∃g:PV→Bool,(∀y∈xs,∀Q':EK,Q' (.bl (g y)) st1→wpE be (some y::caps.map fun i=>(ρ[i]?).join) st1 Q')∧Q (.int (bsr g xs)) st1
noncomputable def dh:Es→Fr→AH→LK→Prop
 | .nil,_,st,Q=>Q [] st
 | .cons e es,ρ,st,Q=>wpE e ρ st fun x st1=>dh es ρ st1 fun xs st2=>Q (x::xs) st2
noncomputable def wpO:O→Fr→AH→(Option Int→AH→Prop)→Prop
 | .no,_,st,Q=>Q none st
 | .yes e,ρ,st,Q=>wpE e ρ st fun x st1=>∃i,x=.int i∧Q (some i) st1
noncomputable def wpT:E→Fr→AH→BK→Prop
 | .bop true es,ρ,st,Q=>hZ es ρ st Q
 | .bop false es,ρ,st,Q=>o6 es ρ st Q
 | .not a,ρ,st,Q=>wpT a ρ st fun c st1=>Q (!c) st1
 | .cmp op a b,ρ,st,Q=>wpE a ρ st fun x st1=>wpE b ρ st1 fun y st2=>eV op x y st2 fun v st3=>∃c,v=.bl c∧Q c st3
 | .var i,ρ,st,Q=>∃v,ρ[i]?=some (some v)∧dY v st Q
 | .call f es,ρ,st,Q=>dh es ρ st fun vs st1=>Γ f vs st1 fun v st2=>dY v st2 Q
 | .blt b es,ρ,st,Q=>dh es ρ st fun vs st1=>fU b vs st1 fun v st2=>dY v st2 Q
 | .inst a t,ρ,st,Q=>wpE a ρ st fun x st1=>∃n,eK st1 x=some n∧Q (gF t n) st1
 | .tmp a,ρ,st,Q=>wpE a ρ st (Tmp st fun v st1=>dY v st1 Q)
 | .ix a b,ρ,st,Q=>wpE a ρ st fun x st1=>wpE b ρ st1 fun y st2=>ixW x y st2 fun v st3=>dY v st3 Q
 | .pcall i e,ρ,st,Q=>∃a,ρ[i]?=some (some (.fn a))∧wpE e ρ st fun v st1=>Γ 1000 [.fn a,v] st1 fun v st2=>dY v st2 Q
 | _,_,_,_=>False
noncomputable def qx:Es→Fr→AH→EK→Prop
 | .nil,_,_,_=>False
 | .cons e .nil,ρ,st,Q=>wpE e ρ st Q
 | .cons e es,ρ,st,Q=>wpE e ρ st fun x st1=>∃c,x=.bl c∧if c=true then qx es ρ st1 Q else Q (.bl false) st1
noncomputable def pX:Es→Fr→AH→EK→Prop
 | .nil,_,_,_=>False
 | .cons e .nil,ρ,st,Q=>wpE e ρ st Q
 | .cons e es,ρ,st,Q=>wpE e ρ st fun x st1=>∃c,x=.bl c∧if c=true then Q (.bl true) st1 else pX es ρ st1 Q
noncomputable def hZ:Es→Fr→AH→BK→Prop
 | .nil,_,st,Q=>Q true st
 | .cons e .nil,ρ,st,Q=>wpT e ρ st Q
 | .cons e es,ρ,st,Q=>wpT e ρ st fun c st1=>if c=true then hZ es ρ st1 Q else Q false st1
noncomputable def o6:Es→Fr→AH→BK→Prop
 | .nil,_,st,Q=>Q false st
 | .cons e .nil,ρ,st,Q=>wpT e ρ st Q
 | .cons e es,ρ,st,Q=>wpT e ρ st fun c st1=>if c=true then Q true st1 else o6 es ρ st1 Q
noncomputable def iW:It→Fr→AH→(List PV→(AH→Prop)→AH→Prop)→Prop
 | .seq e,ρ,st,Q=>wpE e ρ st fun x st1=>∃xs,bJ st1 x=some xs∧Q xs (d5 st1 x) st1
 | .range1 a,ρ,st,Q=>wpE a ρ st fun x st1=>∃j,x=.int j∧-(2 ^ 62)≤j∧j<2 ^ 62∧Q (dZ 0 j.toNat) (fun _=>True) st1
 | .range2 a b,ρ,st,Q=>wpE a ρ st fun x st1=>wpE b ρ st1 fun y st2=>∃i j,x=.int i∧y=.int j∧(-(2 ^ 62)≤i∧i<2 ^ 62∧-(2 ^ 62)≤j∧j<2 ^ 62)∧Q (dZ i (j-i).toNat) (fun _=>True) st2
 | .zip _ _,_,_,_=>False
 | .zip3 a b c,ρ,st,Q=>wpE a ρ st fun x st1=>wpE b ρ st1 fun y st2=>wpE c ρ st2 fun u st3=>∃xs ys zs,bJ st3 x=some xs∧bJ st3 y=some ys∧bJ st3 u=some zs∧Q (d6 xs ys zs) (fun st'=>d5 st3 x st'∧d5 st3 y st'∧d5 st3 u st') st3
 | .enum a,ρ,st,Q=>wpE a ρ st fun x st1=>∃xs,x=.tup xs∧Q (h_ 0 xs) (fun _=>True) st1
 | .chars _,_,_,_=>False
 | .range3 _ _ _,_,_,_=>False
noncomputable def dw:Tg→PV→Fr→AH→(Fr→AH→Prop)→Prop
 | .name i,v,ρ,st,Q=>Q (ρ.set i (some v)) st
 | .tup ts,v,ρ,st,Q=>∃xs,v=.tup xs∧xs.length=ts.size∧fG ts xs ρ st Q
 | .ltup ts,v,ρ,st,Q=>∃xs,b8 st v=some xs∧xs.length=ts.size∧fG ts xs ρ st Q
 | .sub o i,v,ρ,st,Q=>wpE o ρ st fun x st1=>wpE i ρ st1 fun y st2=>qU x y v st2 fun st3=>Q ρ st3
noncomputable def fG:Tgs→List PV→Fr→AH→(Fr→AH→Prop)→Prop
 | .nil,vs,ρ,st,Q=>vs=[]∧Q ρ st
 | .cons t ts,vs,ρ,st,Q=>∃v r,vs=v::r∧dw t v ρ st fun ρ' st'=>fG ts r ρ' st' Q
end
end
mutual
inductive S where
 | set (t:Tg) (e:E)|par (i j:Nat) (a b:E)|aug (i:Nat) (op:Operator) (e:E)|expr (e:E)|ret (e:E)|retN
 | ifS (c:E) (a b:Ss)|whileS (c:E) (b:Ss)|forS (t:Tg) (it:It) (b:Ss)|pass|brk|cont|bad|set2 (i j:Nat) (e:E)
inductive Ss where
 | nil|cons (s:S) (ss:Ss)
end
structure bn where
 nx:Fr→AH→Prop
 rt:EK
 bk:Fr→AH→Prop:=fun _ _=>False
 ct:Fr→AH→Prop:=fun _ _=>False
noncomputable def pK (chk:AH→Prop) (body:PV→Fr→AH→bn→Prop) (D:bn):List PV→Fr→AH→Prop
 | [],ρ,st=>chk st∧D.nx ρ st
 | x::xs,ρ,st=>chk st∧body x ρ st { nx:=pK chk body D xs,ct:=pK chk body D xs,bk:=D.nx,rt:=D.rt }
noncomputable def eI (c:Fr→AH→BK→Prop) (body:Fr→AH→bn→Prop) (D:bn):Nat→Fr→AH→Prop
 | 0,_,_=>False
 | n+1,ρ,st=>c ρ st fun k st1=>if k=true then body ρ st1 { nx:=eI c body D n,ct:=eI c body D n,bk:=D.nx,rt:=D.rt } else D.nx ρ st1
noncomputable def nC (op:Operator) (x y:PV) (st:AH) (Q:EK):Prop :=
 match op,x,y with
 | .Add,.int i,.int j=>Q (.int (i+j)) st
 | .Sub,.int i,.int j=>Q (.int (i-j)) st
 | .Add,.ref n,.ref k=>∃xs ys,st[n]?=some (.lst xs)∧st[k]?=some (.lst ys)∧xs.length+ys.length≤100000∧Q (.ref n) (st.set n (.lst (xs++ys)))
 | _,_,_=>False
section
variable (Γ:Nat→FSp)
mutual
noncomputable def wpS:S→Fr→AH→bn→Prop
 | .set t e,ρ,st,D=>wpE Γ e ρ st fun v st1=>dw Γ t v ρ st1 D.nx
 | .par i j a b,ρ,st,D=>wpE Γ a ρ st fun x st1=>wpE Γ b ρ st1 fun y st2=>D.nx ((ρ.set i (some x)).set j (some y)) st2
 | .aug i op e,ρ,st,D=>∃x,ρ[i]?=some (some x)∧wpE Γ e ρ st fun y st1=>nC op x y st1 fun z st2=>D.nx (ρ.set i (some z)) st2
 | .expr e,ρ,st,D=>wpE Γ e ρ st fun _ st1=>D.nx ρ st1
 | .ret e,ρ,st,D=>wpE Γ e ρ st D.rt
 | .retN,_,st,D=>D.rt .non st
 | .ifS c a b,ρ,st,D=>wpT Γ c ρ st fun k st1=>if k=true then ay a ρ st1 D else ay b ρ st1 D
 | .whileS c b,ρ,st,D=>∃n,eI (wpT Γ c) (ay b) D n ρ st
 | .forS t it b,ρ,st,D=>iW Γ it ρ st fun xs chk st1=>pK chk (fun x ρ' st' D'=>dw Γ t x ρ' st' fun ρ2 st2=>ay b ρ2 st2 D') D xs ρ st1
 | .pass,ρ,st,D=>D.nx ρ st
 | .brk,ρ,st,D=>D.bk ρ st
 | .cont,ρ,st,D=>D.ct ρ st
 | .bad,_,_,_=>False
 | .set2 i j e,ρ,st,D=>wpE Γ e ρ st fun v st1=>D.nx ((ρ.set i (some v)).set j (some v)) st1
noncomputable def ay:Ss→Fr→AH→bn→Prop
 | .nil,ρ,st,D=>D.nx ρ st
 | .cons s ss,ρ,st,D=>wpS s ρ st { D with nx:=fun ρ' st'=>ay ss ρ' st' D }
end
end
section
variable {Γ:Nat→FSp} {ρ:Fr} {st:AH} {Q:EK} {D:bn} {a b c:E} {es:Es}
theorem vL:ay Γ .nil ρ st D=D.nx ρ st:=rfl
theorem sS {s:S}:ay Γ (.cons s .nil) ρ st D=wpS Γ s ρ st D:=rfl
theorem wc {t:Tg}:wpS Γ (.set t a) ρ st D=wpE Γ a ρ st fun v st1=>dw Γ t v ρ st1 D.nx:=rfl
theorem y8 {i j:Nat}:wpS Γ (.par i j a b) ρ st D=wpE Γ a ρ st fun x st1=>wpE Γ b ρ st1 fun y st2=>D.nx ((ρ.set i (some x)).set j (some y)) st2:=rfl
theorem BR {i:Nat} {op:Operator}:wpS Γ (.aug i op a) ρ st D=∃x,ρ[i]?=some (some x)∧wpE Γ a ρ st fun y st1=>nC op x y st1 fun z st2=>D.nx (ρ.set i (some z)) st2:=rfl
theorem ud:wpS Γ (.expr a) ρ st D=wpE Γ a ρ st fun _ st1=>D.nx ρ st1:=rfl
theorem Ai:wpS Γ (.ret a) ρ st D=wpE Γ a ρ st fun v st1=>D.rt v st1:=rfl
theorem vf:wpS Γ .retN ρ st D=D.rt .non st:=rfl
theorem Cz {x y:Ss}:wpS Γ (.ifS c x y) ρ st D=wpT Γ c ρ st fun k st1=>if k=true then ay Γ x ρ st1 D else ay Γ y ρ st1 D:=rfl
theorem td:wpS Γ .pass ρ st D=D.nx ρ st:=rfl
theorem u8 {i j:Nat}:wpS Γ (.set2 i j a) ρ st D=wpE Γ a ρ st fun v st1=>D.nx ((ρ.set i (some v)).set j (some v)) st1:=rfl
theorem Bc:wpS Γ .brk ρ st D=D.bk ρ st:=rfl
theorem sZ:wpS Γ .cont ρ st D=D.ct ρ st:=rfl
theorem yk {i:Nat}:wpE Γ (.var i) ρ st Q=∃v,ρ[i]?=some (some v)∧Q v st:=rfl
theorem Aq {i:Int}:wpE Γ (.int i) ρ st Q=Q (.int i) st:=rfl
theorem Fi {i:Bool}:wpE Γ (.bl i) ρ st Q=Q (.bl i) st:=rfl
theorem BY:wpE Γ .non ρ st Q=Q .non st:=rfl
theorem yv {i:Str}:wpE Γ (.str i) ρ st Q=Q (.str i) st:=rfl
theorem Ep {x:Str} {v:PV}:wpE Γ (.gv x v) ρ st Q=Q v st:=rfl
theorem yI:wpE Γ (.tup es) ρ st Q=dh Γ es ρ st fun vs st1=>vs.length≤100000∧Q (.tup vs) st1:=rfl
theorem Be:wpE Γ (.lst es) ρ st Q=dh Γ es ρ st fun vs st1=>vs.length≤100000∧Q (.ref st1.length) (st1++[.lst vs]):=rfl
theorem AR {op:Operator}:wpE Γ (.bin op a b) ρ st Q=wpE Γ a ρ st fun x st1=>wpE Γ b ρ st1 fun y st2=>iJ op x y st2 Q:=rfl
theorem Bi:wpE Γ (.neg a) ρ st Q=wpE Γ a ρ st fun x st1=>∃i,x=.int i∧Q (.int (-i)) st1:=rfl
theorem Aj:wpE Γ (.not a) ρ st Q=wpE Γ a ρ st fun x st1=>∃c,x=.bl c∧Q (.bl (!c)) st1:=rfl
theorem AJ {op:CmpOp}:wpE Γ (.cmp op a b) ρ st Q=wpE Γ a ρ st fun x st1=>wpE Γ b ρ st1 fun y st2=>eV op x y st2 Q:=rfl
theorem zT:wpE Γ (.bop true es) ρ st Q=qx Γ es ρ st Q:=rfl
theorem Fp:wpE Γ (.bop false es) ρ st Q=pX Γ es ρ st Q:=rfl
theorem zG:wpE Γ (.ite c a b) ρ st Q=wpT Γ c ρ st fun k st1=>if k=true then wpE Γ a ρ st1 Q else wpE Γ b ρ st1 Q:=rfl
theorem Fw:wpE Γ (.ix a b) ρ st Q=wpE Γ a ρ st fun x st1=>wpE Γ b ρ st1 fun y st2=>ixW x y st2 Q:=rfl
theorem El {lo hi:O}:wpE Γ (.sl a lo hi) ρ st Q=wpE Γ a ρ st fun x st1=>wpO Γ lo ρ st1 fun l st2=>wpO Γ hi ρ st2 fun h st3=>slW x l h st3 Q:=rfl
theorem uc {f:Nat}:wpE Γ (.call f es) ρ st Q=dh Γ es ρ st fun vs st1=>Γ f vs st1 Q:=rfl
theorem yj {f:B}:wpE Γ (.blt f es) ρ st Q=dh Γ es ρ st fun vs st1=>fU f vs st1 Q:=rfl
theorem t9 {t:String}:wpE Γ (.inst a t) ρ st Q=wpE Γ a ρ st fun x st1=>∃n,eK st1 x=some n∧Q (.bl (gF t n)) st1:=rfl
theorem BS {m:M}:wpE Γ (.met m a es) ρ st Q=wpE Γ a ρ st fun x st1=>(∃xs,b8 st1 x=some xs)∧dh Γ es ρ st1 fun vs st2=>rN m x vs st2 Q:=rfl
theorem p_ {i:Nat}:wpE Γ (.pcall i a) ρ st Q=∃f,ρ[i]?=some (some (.fn f))∧wpE Γ a ρ st fun v st1=>Γ 1000 [.fn f,v] st1 Q:=rfl
theorem FJ {caps:List Nat}:wpE Γ (.hm a b caps) ρ st Q=wpE Γ a ρ st fun v st1=>∃xs,v=.tup xs∧xs.length≤100000∧(∀i∈caps,∃c,ρ[i]?=some (some c)∧c.bel 0=true) ∧
   ∃g:PV→Bool,(∀y∈xs,∀Q':EK,Q' (.bl (g y)) st1→wpE Γ b (some y::caps.map fun i=>(ρ[i]?).join) st1 Q')∧Q (.int (bsr g xs)) st1:=rfl
theorem A3:wpE Γ (.tmp a) ρ st Q=wpE Γ a ρ st fun v st1=>Tmp st Q v st1:=rfl
variable {LQ:LK} {BQ:BK} {e e2:E} {i:Nat} {v:PV} {FQ:Fr→AH→Prop} {IQ:List PV→(AH→Prop)→AH→Prop}
theorem uF:dh Γ .nil ρ st LQ=LQ [] st:=rfl
theorem pC:dh Γ (.cons e es) ρ st LQ=wpE Γ e ρ st fun x st1=>dh Γ es ρ st1 fun xs st2=>LQ (x::xs) st2:=rfl
theorem FE {OQ:Option Int→AH→Prop}:wpO Γ .no ρ st OQ=OQ none st:=rfl
theorem zd {OQ:Option Int→AH→Prop}:wpO Γ (.yes e) ρ st OQ=wpE Γ e ρ st fun x st1=>∃i,x=.int i∧OQ (some i) st1:=rfl
theorem zJ:wpT Γ (.bop true es) ρ st BQ=hZ Γ es ρ st BQ:=rfl
theorem Fm:wpT Γ (.bop false es) ρ st BQ=o6 Γ es ρ st BQ:=rfl
theorem z8:wpT Γ (.not a) ρ st BQ=wpT Γ a ρ st fun c st1=>BQ (!c) st1:=rfl
theorem Ba {op:CmpOp}:wpT Γ (.cmp op a b) ρ st BQ=wpE Γ a ρ st fun x st1=>wpE Γ b ρ st1 fun y st2=>eV op x y st2 fun v st3=>∃c,v=.bl c∧BQ c st3:=rfl
theorem zH:wpT Γ (.var i) ρ st BQ=∃v,ρ[i]?=some (some v)∧dY v st BQ:=rfl
theorem tI {f:Nat}:wpT Γ (.call f es) ρ st BQ=dh Γ es ρ st fun vs st1=>Γ f vs st1 fun v st2=>dY v st2 BQ:=rfl
theorem zV {f:B}:wpT Γ (.blt f es) ρ st BQ=dh Γ es ρ st fun vs st1=>fU f vs st1 fun v st2=>dY v st2 BQ:=rfl
theorem uI {t:String}:wpT Γ (.inst a t) ρ st BQ=wpE Γ a ρ st fun x st1=>∃n,eK st1 x=some n∧BQ (gF t n) st1:=rfl
theorem zZ:wpT Γ (.tmp a) ρ st BQ=wpE Γ a ρ st fun v st1=>Tmp st (fun v st1=>dY v st1 BQ) v st1:=rfl
theorem qH:wpT Γ (.pcall i a) ρ st BQ=∃f,ρ[i]?=some (some (.fn f))∧wpE Γ a ρ st fun v st1=>Γ 1000 [.fn f,v] st1 fun v st2=>dY v st2 BQ:=rfl
theorem Ej:wpT Γ (.ix a b) ρ st BQ=wpE Γ a ρ st fun x st1=>wpE Γ b ρ st1 fun y st2=>ixW x y st2 fun v st3=>dY v st3 BQ:=rfl
theorem uz:qx Γ (.cons e .nil) ρ st Q=wpE Γ e ρ st Q:=rfl
theorem p6:qx Γ (.cons e (.cons e2 es)) ρ st Q=wpE Γ e ρ st fun x st1=>∃c,x=.bl c∧if c=true then qx Γ (.cons e2 es) ρ st1 Q else Q (.bl false) st1:=rfl
theorem vo:pX Γ (.cons e .nil) ρ st Q=wpE Γ e ρ st Q:=rfl
theorem qd:pX Γ (.cons e (.cons e2 es)) ρ st Q=wpE Γ e ρ st fun x st1=>∃c,x=.bl c∧if c=true then Q (.bl true) st1 else pX Γ (.cons e2 es) ρ st1 Q:=rfl
theorem ph:hZ Γ .nil ρ st BQ=BQ true st:=rfl
theorem tB:hZ Γ (.cons e .nil) ρ st BQ=wpT Γ e ρ st BQ:=rfl
theorem pT:hZ Γ (.cons e (.cons e2 es)) ρ st BQ=wpT Γ e ρ st fun c st1=>if c=true then hZ Γ (.cons e2 es) ρ st1 BQ else BQ false st1:=rfl
theorem uX:o6 Γ (.cons e .nil) ρ st BQ=wpT Γ e ρ st BQ:=rfl
theorem qf:o6 Γ (.cons e (.cons e2 es)) ρ st BQ=wpT Γ e ρ st fun c st1=>if c=true then BQ true st1 else o6 Γ (.cons e2 es) ρ st1 BQ:=rfl
theorem tP:iW Γ (.seq e) ρ st IQ=wpE Γ e ρ st fun x st1=>∃xs,bJ st1 x=some xs∧IQ xs (d5 st1 x) st1:=rfl
theorem A4:iW Γ (.range1 a) ρ st IQ=wpE Γ a ρ st fun x st1=>∃j,x=.int j∧-(2 ^ 62)≤j∧j<2 ^ 62∧IQ (dZ 0 j.toNat) (fun _=>True) st1:=rfl
theorem Ac:iW Γ (.range2 a b) ρ st IQ=wpE Γ a ρ st fun x st1=>wpE Γ b ρ st1 fun y st2=>∃i j,x=.int i∧y=.int j∧(-(2 ^ 62)≤i∧i<2 ^ 62∧-(2 ^ 62)≤j∧j<2 ^ 62)∧IQ (dZ i (j-i).toNat) (fun _=>True) st2:=rfl
theorem pM:iW Γ (.zip3 a b c) ρ st IQ=wpE Γ a ρ st fun x st1=>wpE Γ b ρ st1 fun y st2=>wpE Γ c ρ st2 fun u st3=>∃xs ys zs,bJ st3 x=some xs∧bJ st3 y=some ys∧bJ st3 u=some zs∧IQ (d6 xs ys zs) (fun st'=>d5 st3 x st'∧d5 st3 y st'∧d5 st3 u st') st3:=rfl
theorem qi:iW Γ (.enum a) ρ st IQ=wpE Γ a ρ st fun x st1=>∃xs,x=.tup xs∧IQ (h_ 0 xs) (fun _=>True) st1:=rfl
theorem fY:dw Γ (.name i) v ρ st FQ=FQ (ρ.set i (some v)) st:=rfl
theorem jT {ts:Tgs}:dw Γ (.tup ts) v ρ st FQ=∃xs,v=.tup xs∧xs.length=ts.size∧fG Γ ts xs ρ st FQ:=rfl
theorem iz {ts:Tgs}:dw Γ (.ltup ts) v ρ st FQ=∃xs,b8 st v=some xs∧xs.length=ts.size∧fG Γ ts xs ρ st FQ:=rfl
theorem km:dw Γ (.sub a b) v ρ st FQ=wpE Γ a ρ st fun x st1=>wpE Γ b ρ st1 fun y st2=>qU x y v st2 fun st3=>FQ ρ st3:=rfl
theorem qC {vs:List PV}:fG Γ .nil vs ρ st FQ=(vs=[]∧FQ ρ st):=rfl
theorem mD {t:Tg} {ts:Tgs} {vs:List PV}:fG Γ (.cons t ts) vs ρ st FQ=∃v r,vs=v::r∧dw Γ t v ρ st fun ρ' st'=>fG Γ ts r ρ' st' FQ:=rfl
theorem tw:Tgs.size .nil=0:=id rfl
theorem qw {t:Tg} {ts:Tgs}:Tgs.size (.cons t ts)=ts.size+1:=id rfl
end
end FW
set_option Elab.async false
set_option linter.all false
set_option maxRecDepth 100000
namespace FW
open PySem L2 HX
theorem rl {st:AH} {x y:PV} {k k':Bool→Prop} (h:∀b,k b→k' b) (q:eqW st x y k):eqW st x y k':=by
 unfold eqW at q ⊢
 split at q
 ·exact h _ q
 ·exact h _ q
 ·exact h _ q
 ·obtain ⟨d,e,h1,h2,h3,h4,q⟩:=q
  exact ⟨d,e,h1,h2,h3,h4,h _ q⟩
theorem oA {op:Operator} {x y:PV} {st:AH} {Q Q':EK} (h:∀v st,Q v st→Q' v st) (q:iJ op x y st Q):iJ op x y st Q':=by
 cases op with
 | Add =>
  cases x with
  | int i =>
   cases y with
   | int j=>exact h _ _ q
   | _=>exact False.elim q
  | ref n =>
   cases y with
   | ref k=>obtain ⟨xs,ys,h1,h2,h3,q⟩:=q;exact ⟨xs,ys,h1,h2,h3,h _ _ q⟩
   | _=>exact False.elim q
  | tup xs =>
   cases y with
   | tup ys=>exact ⟨q.1,h _ _ q.2⟩
   | _=>exact False.elim q
  | str a =>
   cases y with
   | str b=>exact ⟨q.1,h _ _ q.2⟩
   | _=>exact False.elim q
  | _=>exact False.elim q
 | Mult =>
  cases x with
  | int i =>
   cases y with
   | int j=>exact ⟨q.1,h _ _ q.2⟩
   | _=>exact False.elim q
  | ref n =>
   cases y with
   | int k=>obtain ⟨xs,h1,h2,h3,h4,q⟩:=q;exact ⟨xs,h1,h2,h3,h4,h _ _ q⟩
   | _=>exact False.elim q
  | _=>exact False.elim q
 | Sub=>obtain ⟨i,j,rfl,rfl,q⟩:=cW q;exact h _ _ q
 | FloorDiv=>obtain ⟨i,j,rfl,rfl,q⟩:=cW q;exact ⟨q.1,h _ _ q.2⟩
 | Mod=>obtain ⟨i,j,rfl,rfl,q⟩:=cW q;exact ⟨q.1,h _ _ q.2⟩
 | Pow=>obtain ⟨i,j,rfl,rfl,q⟩:=cW q;exact ⟨q.1,h _ _ q.2⟩
 | _=>exact False.elim q
theorem iA {op:CmpOp} {x y:PV} {st:AH} {Q Q':EK} (h:∀v st,Q v st→Q' v st) (q:eV op x y st Q):eV op x y st Q':=by
 unfold eV at q ⊢
 split at q
 ·exact rl (fun _=>h _ _) q
 ·exact rl (fun _=>h _ _) q
 ·split at q <;> first|exact h _ _ q|exact q
 ·split at q <;> first|exact h _ _ q|exact q
 ·split at q <;> first|exact h _ _ q|exact q
 ·split at q <;> first|exact h _ _ q|exact q
 ·split at q <;> first|exact h _ _ q|exact q
 ·split at q <;> first|exact h _ _ q|exact q
 ·split at q <;> first|exact h _ _ q|(obtain ⟨ns,e,q⟩:=q;exact ⟨ns,e,h _ _ q⟩)|exact q
 ·split at q <;> first|(obtain ⟨ns,e,q⟩:=q;exact ⟨ns,e,h _ _ q⟩)|exact q
theorem jK {x y:PV} {st:AH} {Q Q':EK} (h:∀v st,Q v st→Q' v st) (q:ixW x y st Q):ixW x y st Q':=by
 cases y with
 | int i =>
  rcases wx q with ⟨z,c,rfl,h1,h2,q⟩|⟨xs,v,h1,h2,q⟩
  ·exact ⟨h1,c,h2,h _ _ q⟩
  ·exact Cc h1 h2 (h _ _ q)
 | _=>exact q
theorem rp {x:PV} {lo hi:Option Int} {st:AH} {Q Q':EK} (h:∀v st,Q v st→Q' v st) (q:slW x lo hi st Q):slW x lo hi st Q':=by
 cases x with
 | tup xs=>exact h _ _ q
 | str z=>exact ⟨q.1,h _ _ q.2⟩
 | _=>obtain ⟨xs,e,q⟩:=q;exact ⟨xs,e,h _ _ q⟩
theorem iE {b:B} {vs:List PV} {st:AH} {Q Q':EK} (h:∀v st,Q v st→Q' v st) (q:fU b vs st Q):fU b vs st Q':=by
 cases b with
 | len =>
  obtain ⟨x,rfl,q⟩:=dO q
  rcases rD q with ⟨z,rfl,h1,q⟩|⟨xs,e,q⟩
  ·exact ⟨h1,h _ _ q⟩
  ·exact zU e (h _ _ q)
 | max2=>obtain ⟨x,y,rfl,q⟩:=jp q;obtain ⟨i,j,rfl,rfl,q⟩:=cW q;exact h _ _ q
 | min2=>exact False.elim q
 | divmod=>obtain ⟨x,y,rfl,q⟩:=jp q;obtain ⟨i,j,rfl,rfl,q⟩:=cW q;exact ⟨q.1,h _ _ q.2⟩
 | int1=>exact False.elim q
 | str1=>exact False.elim q
 | tuple1=>obtain ⟨x,rfl,xs,h1,q⟩:=dO q;exact ⟨xs,h1,h _ _ q⟩
 | list1=>exact False.elim q
 | all1=>exact False.elim q
 | any1=>exact False.elim q
 | abs1=>obtain ⟨x,rfl,q⟩:=dO q;obtain ⟨i,rfl,q⟩:=wl q;exact h _ _ q
 | sorted1=>exact False.elim q
 | repr1=>exact False.elim q
theorem ir {m:M} {x:PV} {vs:List PV} {st:AH} {Q Q':EK} (h:∀v st,Q v st→Q' v st) (q:rN m x vs st Q):rN m x vs st Q':=by
 cases m with
 | append=>obtain ⟨n,rfl,q⟩:=lI q;obtain ⟨v,rfl,xs,h1,h2,q⟩:=dO q;exact ⟨xs,h1,h2,h _ _ q⟩
 | pop0=>obtain ⟨n,rfl,q⟩:=lI q;obtain ⟨rfl,xs,v,h1,h2,q⟩:=oU q;exact ⟨xs,v,h1,h2,h _ _ q⟩
 | extend=>exact False.elim q
 | insert=>exact False.elim q
 | count=>exact False.elim q
theorem bx {x:PV} {st:AH} {Q Q':BK} (h:∀v st,Q v st→Q' v st) (q:dY x st Q):dY x st Q':=by
 unfold dY at q ⊢
 split at q <;> first
  | exact h _ _ q
  | exact q.elim
  | (obtain ⟨xs,h1,q⟩:=q;exact ⟨xs,h1,h _ _ q⟩)
theorem oQ {o i v:PV} {st:AH} {k k':AH→Prop} (h:∀st,k st→k' st) (q:qU o i v st k):qU o i v st k':=by
 unfold qU at q ⊢
 split at q
 ·obtain ⟨xs,h1,j,h2,q⟩:=q
  exact ⟨xs,h1,j,h2,h _ q⟩
 ·exact q
theorem sN {st0:AH} {Q Q':EK} (h:∀v st,Q v st→Q' v st) {v:PV} {st:AH} (q:Tmp st0 Q v st):Tmp st0 Q' v st:=by
 obtain ⟨st1,g,h1,h2,h3,h4,q⟩:=q
 exact ⟨st1,g,h1,h2,h3,h4,h _ _ q⟩
theorem fS {chk:AH→Prop} {body body':PV→AH→(Option PV→AH→Prop)→Prop} (hb:∀x st k k',(∀o st,k o st→k' o st)→body x st k→body' x st k') :
  ∀ {xs acc:List PV} {st:AH} {Q Q':LK},(∀v st,Q v st→Q' v st)→eF chk body xs acc st Q→eF chk body' xs acc st Q'
 | [],acc,st,Q,Q',h,q=>⟨q.1,h _ _ q.2⟩
 | x::xs,acc,st,Q,Q',h,q=>⟨q.1,hb _ _ _ _ (fun o st' z=>fS hb h z) q.2⟩
section
variable {Γ:Nat→FSp}
noncomputable def bM (Γ:Nat→FSp):Prop:=∀f vs st Q Q',(∀v st,Q v st→Q' v st)→Γ f vs st Q→Γ f vs st Q'
mutual
theorem ac (G:bM Γ):∀(e:E) {ρ:Fr} {st:AH} {Q Q':EK},(∀v st,Q v st→Q' v st)→wpE Γ e ρ st Q→wpE Γ e ρ st Q'
 | .var i,ρ,st,Q,Q',h,q=>by
  skip
  obtain ⟨v,h1,q⟩:=q
  exact ⟨v,h1,h _ _ q⟩
 | .int i,ρ,st,Q,Q',h,q=>by exact h _ _ q
 | .bl i,ρ,st,Q,Q',h,q=>by exact h _ _ q
 | .non,ρ,st,Q,Q',h,q=>by exact h _ _ q
 | .str i,ρ,st,Q,Q',h,q=>by exact h _ _ q
 | .gv _ i,ρ,st,Q,Q',h,q=>by exact h _ _ q
 | .tup es,ρ,st,Q,Q',h,q=>by exact aM G es (fun vs st1 z=>⟨z.1,h _ _ z.2⟩) q
 | .lst es,ρ,st,Q,Q',h,q=>by exact aM G es (fun vs st1 z=>⟨z.1,h _ _ z.2⟩) q
 | .dct0,ρ,st,Q,Q',h,q=>False.elim q
 | .bad,ρ,st,Q,Q',h,q=>False.elim q
 | .jrev _,ρ,st,Q,Q',h,q=>False.elim q
 | .part _ _,ρ,st,Q,Q',h,q=>False.elim q
 | .pcall i e,ρ,st,Q,Q',h,q=>by
  obtain ⟨a,e1,q⟩:=q
  exact ⟨a,e1,ac G e (fun x st1 z=>G _ _ _ _ _ h z) q⟩
 | .hm e be caps,ρ,st,Q,Q',h,q=>by
  refine ac G e (fun x st1 z=>?_) q
  obtain ⟨xs,e,hl,hc,g,hg,z⟩:=z
  exact ⟨xs,e,hl,hc,g,hg,h _ _ z⟩
 | .dct1 _ _,ρ,st,Q,Q',h,q=>False.elim q
 | .bin op a b,ρ,st,Q,Q',h,q=>by exact ac G a (fun x st1 z=>ac G b (fun y st2 z=>oA h z) z) q
 | .neg a,ρ,st,Q,Q',h,q=>by
  skip
  refine ac G a (fun x st1 z=>?_) q
  obtain ⟨i,e,z⟩:=z
  exact ⟨i,e,h _ _ z⟩
 | .not a,ρ,st,Q,Q',h,q=>by
  skip
  refine ac G a (fun x st1 z=>?_) q
  obtain ⟨i,e,z⟩:=z
  exact ⟨i,e,h _ _ z⟩
 | .cmp op a b,ρ,st,Q,Q',h,q=>by exact ac G a (fun x st1 z=>ac G b (fun y st2 z=>iA h z) z) q
 | .bop true es,ρ,st,Q,Q',h,q=>by exact j0 G es h q
 | .bop false es,ρ,st,Q,Q',h,q=>by exact jS G es h q
 | .ite c a b,ρ,st,Q,Q',h,q=>by
  skip
  refine aQ G c (fun k st1 z=>?_) q
  cases k with
  | true=>rw [if_pos rfl] at z ⊢;exact ac G a h z
  | false=>rw [if_neg Bool.false_ne_true] at z ⊢;exact ac G b h z
 | .ix a b,ρ,st,Q,Q',h,q=>by exact ac G a (fun x st1 z=>ac G b (fun y st2 z=>jK h z) z) q
 | .sl a lo hi,ρ,st,Q,Q',h,q=>by exact ac G a (fun x st1 z=>jO G lo (fun l st2 z=>jO G hi (fun u st3 z=>rp h z) z) z) q
 | .call f es,ρ,st,Q,Q',h,q=>by exact aM G es (fun vs st1 z=>G _ _ _ _ _ h z) q
 | .blt b es,ρ,st,Q,Q',h,q=>by exact aM G es (fun vs st1 z=>iE h z) q
 | .inst a t,ρ,st,Q,Q',h,q=>by
  skip
  refine ac G a (fun x st1 z=>?_) q
  obtain ⟨i,e,z⟩:=z
  exact ⟨i,e,h _ _ z⟩
 | .met m o es,ρ,st,Q,Q',h,q=>by exact ac G o (fun x st1 z=>⟨z.1,aM G es (fun vs st2 z=>ir h z) z.2⟩) q
 | .comp elt tg it ifs nt caps,ρ,st,Q,Q',h,q=>by
  skip
  exact fJ G it (fun xs chk st1 z=>⟨z.1,fS (fun x st k k' hk w=>br G tg (fun ρ' st3 w=>cF G ifs (fun c st4 w=>by
   cases c with
   | true=>rw [if_pos rfl] at w ⊢;exact ac G elt (fun v st5 w=>hk _ _ w) w
   | false=>rw [if_neg Bool.false_ne_true] at w ⊢;exact hk _ _ w) w) w) (fun vs st2 w=>h _ _ w) z.2⟩) q
 | .tmp a,ρ,st,Q,Q',h,q=>by exact ac G a (fun v st1 z=>sN h z) q
theorem aM (G:bM Γ):∀(e:Es) {ρ:Fr} {st:AH} {Q Q':LK},(∀v st,Q v st→Q' v st)→dh Γ e ρ st Q→dh Γ e ρ st Q'
 | .nil,ρ,st,Q,Q',h,q=>by exact h _ _ q
 | .cons e es,ρ,st,Q,Q',h,q=>by exact ac G e (fun x st1 z=>aM G es (fun xs st2 z=>h _ _ z) z) q
theorem jO (G:bM Γ):∀(e:O) {ρ:Fr} {st:AH} {Q Q':Option Int→AH→Prop},(∀v st,Q v st→Q' v st)→wpO Γ e ρ st Q→wpO Γ e ρ st Q'
 | .no,ρ,st,Q,Q',h,q=>by exact h _ _ q
 | .yes e,ρ,st,Q,Q',h,q=>by
  skip
  refine ac G e (fun x st1 z=>?_) q
  obtain ⟨i,e,z⟩:=z
  exact ⟨i,e,h _ _ z⟩
theorem aQ (G:bM Γ):∀(e:E) {ρ:Fr} {st:AH} {Q Q':BK},(∀v st,Q v st→Q' v st)→wpT Γ e ρ st Q→wpT Γ e ρ st Q'
 | .bop true es,ρ,st,Q,Q',h,q=>by exact cF G es h q
 | .bop false es,ρ,st,Q,Q',h,q=>by exact kf G es h q
 | .not a,ρ,st,Q,Q',h,q=>by exact aQ G a (fun c st1 z=>h _ _ z) q
 | .cmp op a b,ρ,st,Q,Q',h,q=>by
  skip
  exact ac G a (fun x st1 z=>ac G b (fun y st2 z=>iA (fun v st3 w=>by obtain ⟨c,e,w⟩:=w;exact ⟨c,e,h _ _ w⟩) z) z) q
 | .var i,ρ,st,Q,Q',h,q=>by
  skip
  obtain ⟨v,h1,q⟩:=q
  exact ⟨v,h1,bx h q⟩
 | .call f es,ρ,st,Q,Q',h,q=>by exact aM G es (fun vs st1 z=>G _ _ _ _ _ (fun v st2 z=>bx h z) z) q
 | .blt b es,ρ,st,Q,Q',h,q=>by exact aM G es (fun vs st1 z=>iE (fun v st2 z=>bx h z) z) q
 | .inst a t,ρ,st,Q,Q',h,q=>by
  skip
  refine ac G a (fun x st1 z=>?_) q
  obtain ⟨i,e,z⟩:=z
  exact ⟨i,e,h _ _ z⟩
 | .tmp a,ρ,st,Q,Q',h,q=>by exact ac G a (fun v st1 z=>sN (fun v st2 z=>bx h z) z) q
 | .ix a b,ρ,st,Q,Q',h,q=>by exact ac G a (fun x st1 z=>ac G b (fun y st2 z=>jK (fun v st3 z=>bx h z) z) z) q
 | .pcall i e,ρ,st,Q,Q',h,q=>by
  obtain ⟨a,e1,q⟩:=q
  exact ⟨a,e1,ac G e (fun x st1 z=>G _ _ _ _ _ (fun v st2 z=>bx h z) z) q⟩
 | .hm _ _ _,ρ,st,Q,Q',h,q=>False.elim q
 | .int _,ρ,st,Q,Q',h,q=>False.elim q
 | .bl _,ρ,st,Q,Q',h,q=>False.elim q
 | .non,ρ,st,Q,Q',h,q=>False.elim q
 | .str _,ρ,st,Q,Q',h,q=>False.elim q
 | .gv _ _,ρ,st,Q,Q',h,q=>False.elim q
 | .tup _,ρ,st,Q,Q',h,q=>False.elim q
 | .lst _,ρ,st,Q,Q',h,q=>False.elim q
 | .dct0,ρ,st,Q,Q',h,q=>False.elim q
 | .bad,ρ,st,Q,Q',h,q=>False.elim q
 | .jrev _,ρ,st,Q,Q',h,q=>False.elim q
 | .part _ _,ρ,st,Q,Q',h,q=>False.elim q
 | .dct1 _ _,ρ,st,Q,Q',h,q=>False.elim q
 | .bin _ _ _,ρ,st,Q,Q',h,q=>False.elim q
 | .neg _,ρ,st,Q,Q',h,q=>False.elim q
 | .ite _ _ _,ρ,st,Q,Q',h,q=>False.elim q
 | .sl _ _ _,ρ,st,Q,Q',h,q=>False.elim q
 | .met _ _ _,ρ,st,Q,Q',h,q=>False.elim q
 | .comp _ _ _ _ _ _,ρ,st,Q,Q',h,q=>False.elim q
theorem j0 (G:bM Γ):∀(e:Es) {ρ:Fr} {st:AH} {Q Q':EK},(∀v st,Q v st→Q' v st)→qx Γ e ρ st Q→qx Γ e ρ st Q'
 | .nil,ρ,st,Q,Q',h,q=>False.elim q
 | .cons e .nil,ρ,st,Q,Q',h,q=>by exact ac G e h q
 | .cons e (.cons e2 es),ρ,st,Q,Q',h,q=>by
  skip
  refine ac G e (fun x st1 z=>?_) q
  obtain ⟨c,e,z⟩:=z
  refine ⟨c,e,?_⟩
  cases c with
  | true=>rw [if_pos rfl] at z ⊢;exact j0 G (.cons e2 es) h z
  | false=>rw [if_neg Bool.false_ne_true] at z ⊢;exact h _ _ z
theorem jS (G:bM Γ):∀(e:Es) {ρ:Fr} {st:AH} {Q Q':EK},(∀v st,Q v st→Q' v st)→pX Γ e ρ st Q→pX Γ e ρ st Q'
 | .nil,ρ,st,Q,Q',h,q=>False.elim q
 | .cons e .nil,ρ,st,Q,Q',h,q=>by exact ac G e h q
 | .cons e (.cons e2 es),ρ,st,Q,Q',h,q=>by
  skip
  refine ac G e (fun x st1 z=>?_) q
  obtain ⟨c,e,z⟩:=z
  refine ⟨c,e,?_⟩
  cases c with
  | true=>rw [if_pos rfl] at z ⊢;exact h _ _ z
  | false=>rw [if_neg Bool.false_ne_true] at z ⊢;exact jS G (.cons e2 es) h z
theorem cF (G:bM Γ):∀(e:Es) {ρ:Fr} {st:AH} {Q Q':BK},(∀v st,Q v st→Q' v st)→hZ Γ e ρ st Q→hZ Γ e ρ st Q'
 | .nil,ρ,st,Q,Q',h,q=>by exact h _ _ q
 | .cons e .nil,ρ,st,Q,Q',h,q=>by exact aQ G e h q
 | .cons e (.cons e2 es),ρ,st,Q,Q',h,q=>by
  skip
  refine aQ G e (fun c st1 z=>?_) q
  cases c with
  | true=>rw [if_pos rfl] at z ⊢;exact cF G (.cons e2 es) h z
  | false=>rw [if_neg Bool.false_ne_true] at z ⊢;exact h _ _ z
theorem kf (G:bM Γ):∀(e:Es) {ρ:Fr} {st:AH} {Q Q':BK},(∀v st,Q v st→Q' v st)→o6 Γ e ρ st Q→o6 Γ e ρ st Q'
 | .nil,ρ,st,Q,Q',h,q=>by exact h _ _ q
 | .cons e .nil,ρ,st,Q,Q',h,q=>by exact aQ G e h q
 | .cons e (.cons e2 es),ρ,st,Q,Q',h,q=>by
  skip
  refine aQ G e (fun c st1 z=>?_) q
  cases c with
  | true=>rw [if_pos rfl] at z ⊢;exact h _ _ z
  | false=>rw [if_neg Bool.false_ne_true] at z ⊢;exact kf G (.cons e2 es) h z
theorem fJ (G:bM Γ):∀(e:It) {ρ:Fr} {st:AH} {Q Q':List PV→(AH→Prop)→AH→Prop},(∀v c st,Q v c st→Q' v c st)→iW Γ e ρ st Q→iW Γ e ρ st Q'
 | .seq a,ρ,st,Q,Q',h,q=>by
  skip
  refine ac G a (fun x st1 z=>?_) q
  obtain ⟨c,e,z⟩:=z
  exact ⟨c,e,h _ _ _ z⟩
 | .range1 a,ρ,st,Q,Q',h,q=>by
  skip
  refine ac G a (fun x st1 z=>?_) q
  obtain ⟨c,e,h1,h2,z⟩:=z
  exact ⟨c,e,h1,h2,h _ _ _ z⟩
 | .range2 a b,ρ,st,Q,Q',h,q=>by
  skip
  refine ac G a (fun x st1 z=>ac G b (fun y st2 z=>?_) z) q
  obtain ⟨i,j,e,e2,h1,z⟩:=z
  exact ⟨i,j,e,e2,h1,h _ _ _ z⟩
 | .zip _ _,ρ,st,Q,Q',h,q=>False.elim q
 | .enum a,ρ,st,Q,Q',h,q=>by
  skip
  refine ac G a (fun x st1 z=>?_) q
  obtain ⟨c,e,z⟩:=z
  exact ⟨c,e,h _ _ _ z⟩
 | .chars _,ρ,st,Q,Q',h,q=>False.elim q
 | .zip3 a b c,ρ,st,Q,Q',h,q=>by
  refine ac G a (fun x st1 z=>ac G b (fun y st2 z=>ac G c (fun u st3 z=>?_) z) z) q
  obtain ⟨i,j,k,e,e2,e3,z⟩:=z
  exact ⟨i,j,k,e,e2,e3,h _ _ _ z⟩
 | .range3 _ _ _,ρ,st,Q,Q',h,q=>False.elim q
theorem br (G:bM Γ):∀(t:Tg) {v:PV} {ρ:Fr} {st:AH} {Q Q':Fr→AH→Prop},(∀ρ st,Q ρ st→Q' ρ st)→dw Γ t v ρ st Q→dw Γ t v ρ st Q'
 | .name i,v,ρ,st,Q,Q',h,q=>by exact h _ _ q
 | .tup ts,v,ρ,st,Q,Q',h,q=>by
  skip
  obtain ⟨xs,e,hl,q⟩:=q
  exact ⟨xs,e,hl,eG G ts h q⟩
 | .ltup ts,v,ρ,st,Q,Q',h,q=>by
  skip
  obtain ⟨xs,e,hl,q⟩:=q
  exact ⟨xs,e,hl,eG G ts h q⟩
 | .sub o i,v,ρ,st,Q,Q',h,q=>by exact ac G o (fun x st1 z=>ac G i (fun y st2 z=>oQ (fun st3 z=>h _ _ z) z) z) q
theorem eG (G:bM Γ):∀(t:Tgs) {v:List PV} {ρ:Fr} {st:AH} {Q Q':Fr→AH→Prop},(∀ρ st,Q ρ st→Q' ρ st)→fG Γ t v ρ st Q→fG Γ t v ρ st Q'
 | .nil,v,ρ,st,Q,Q',h,q=>by exact ⟨q.1,h _ _ q.2⟩
 | .cons t ts,v,ρ,st,Q,Q',h,q=>by
  skip
  obtain ⟨x,r,e,q⟩:=q
  exact ⟨x,r,e,br G t (fun ρ' st' z=>eG G ts h z) q⟩
end
structure jw (D D':bn):Prop where
 nx:∀ρ st,D.nx ρ st→D'.nx ρ st
 rt:∀v st,D.rt v st→D'.rt v st
 bk:∀ρ st,D.bk ρ st→D'.bk ρ st
 ct:∀ρ st,D.ct ρ st→D'.ct ρ st
theorem ku {chk:AH→Prop} {body body':PV→Fr→AH→bn→Prop} {D D':bn} (hD:jw D D') (hb:∀x ρ st D D',jw D D'→body x ρ st D→body' x ρ st D') :
  ∀ {xs:List PV} {ρ:Fr} {st:AH},pK chk body D xs ρ st→pK chk body' D' xs ρ st
 | [],ρ,st,q=>⟨q.1,hD.nx _ _ q.2⟩
 | x::xs,ρ,st,q=>by
  refine ⟨q.1,hb _ _ _ _ _ ?_ q.2⟩
  exact ⟨fun _ _ z=>ku hD hb z,hD.rt,hD.nx,fun _ _ z=>ku hD hb z⟩
theorem gQ {c:Fr→AH→BK→Prop} {body:Fr→AH→bn→Prop} {D D':bn} (hD:jw D D') (hc:∀ρ st Q Q',(∀b st,Q b st→Q' b st)→c ρ st Q→c ρ st Q')
  (hb:∀ρ st D D',jw D D'→body ρ st D→body ρ st D'):∀ {n:Nat} {ρ:Fr} {st:AH},eI c body D n ρ st→eI c body D' n ρ st
 | 0,ρ,st,q=>q
 | n+1,ρ,st,q=>hc _ _ _ _ (fun b st1 z=>by
  cases b with
  | true =>
   rw [if_pos rfl] at z ⊢
   refine hb _ _ _ _ ?_ z
   exact ⟨fun _ _ z=>gQ hD hc hb z,hD.rt,hD.nx,fun _ _ z=>gQ hD hc hb z⟩
  | false=>rw [if_neg Bool.false_ne_true] at z ⊢;exact hD.nx _ _ z) q
theorem oH {op:Operator} {x y:PV} {st:AH} {Q Q':EK} (h:∀v st,Q v st→Q' v st) (q:nC op x y st Q):nC op x y st Q':=by
 unfold nC at q ⊢
 split at q
 ·exact h _ _ q
 ·exact h _ _ q
 ·obtain ⟨xs,ys,h1,h2,h3,q⟩:=q
  exact ⟨xs,ys,h1,h2,h3,h _ _ q⟩
 ·exact q
mutual
theorem ju (G:bM Γ):∀(s:S) {ρ:Fr} {st:AH} {D D':bn},jw D D'→wpS Γ s ρ st D→wpS Γ s ρ st D'
 | .set t e,ρ,st,D,D',h,q=>by exact ac G e (fun v st1 z=>br G t h.nx z) q
 | .par i j a b,ρ,st,D,D',h,q=>by exact ac G a (fun v st1 z=>ac G b (fun w st2 z=>h.nx _ _ z) z) q
 | .aug i op e,ρ,st,D,D',h,q=>by
  skip
  obtain ⟨x,h1,q⟩:=q
  exact ⟨x,h1,ac G e (fun v st1 z=>oH (fun _ _ z=>h.nx _ _ z) z) q⟩
 | .expr e,ρ,st,D,D',h,q=>by exact ac G e (fun v st1 z=>h.nx _ _ z) q
 | .ret e,ρ,st,D,D',h,q=>by exact ac G e h.rt q
 | .retN,ρ,st,D,D',h,q=>by exact h.rt _ _ q
 | .ifS c a b,ρ,st,D,D',h,q=>by
  skip
  refine aQ G c (fun k st1 z=>?_) q
  cases k with
  | true=>rw [if_pos rfl] at z ⊢;exact aT G a h z
  | false=>rw [if_neg Bool.false_ne_true] at z ⊢;exact aT G b h z
 | .whileS c b,ρ,st,D,D',h,q=>by
  skip
  obtain ⟨n,q⟩:=q
  refine ⟨n,gQ h (c:=wpT Γ c) (body:=ay Γ b) ?_ ?_ q⟩
  ·exact fun _ _ _ _ hk z=>aQ G c hk z
  ·exact fun _ _ _ _ hk z=>aT G b hk z
 | .forS t it b,ρ,st,D,D',h,q=>by
  skip
  exact fJ G it (fun xs chk st1 z=>ku h (fun x ρ st D D' hd w=>br G t (fun ρ2 st2 w=>aT G b hd w) w) z) q
 | .pass,ρ,st,D,D',h,q=>by exact h.nx _ _ q
 | .bad,ρ,st,D,D',h,q=>False.elim q
 | .set2 i j e,ρ,st,D,D',h,q=>by exact ac G e (fun v st1 z=>h.nx _ _ z) q
 | .brk,ρ,st,D,D',h,q=>by exact h.bk _ _ q
 | .cont,ρ,st,D,D',h,q=>by exact h.ct _ _ q
theorem aT (G:bM Γ):∀(s:Ss) {ρ:Fr} {st:AH} {D D':bn},jw D D'→ay Γ s ρ st D→ay Γ s ρ st D'
 | .nil,ρ,st,D,D',h,q=>by exact h.nx _ _ q
 | .cons s ss,ρ,st,D,D',h,q=>by
  skip
  refine ju G s ?_ q
  exact ⟨fun _ _ z=>aT G ss h z,h.rt,h.bk,h.ct⟩
end
end
end FW
set_option Elab.async false
set_option linter.all false
set_option maxRecDepth 100000
namespace FW
open PySem PySem.Spec PyProof.Rows L2 HX
noncomputable def RdF (K:PySem.W.Frag) (H:Hp) (a:Addr) (ys:List V):Prop :=
 (∃o,H a=some (.frz o (.lst ys)))∨∃(o:Obj) (its:Array Value) (n:Nat),K.lookup a=some o∧o.cls=.type "list"∧o.dict=none∧o.data=.seq its n∧its.size≤sizeLine∧Vals ys its.toList
theorem RdF.sq {K:PySem.W.Frag} {H:Hp} {a:Addr} {ys:List V} (h:RdF K H a ys):SqL K H a ys:=by
 rcases h with h|h
 ·exact .inl (.inr h)
 ·exact .inr h
mutual
noncomputable def R (K:PySem.W.Frag) (m:List Addr) (H:Hp):PV→V→Prop
 | .non,v=>v=.non
 | .bl b,v=>v=.bl b
 | .int i,v=>v=.int i
 | .str x,v=>v=.str x
 | .ref n,v=>∃a,m[n]?=some a∧v=.ref a
 | .tup xs,v=>∃a ys,v=.ref a∧SqT K H a ys∧Rs K m H xs ys
 | .rdl xs,v=>∃a ys,v=.ref a∧RdF K H a ys∧Rs K m H xs ys
 | .fn a,v=>v=.ref a
noncomputable def Rs (K:PySem.W.Frag) (m:List Addr) (H:Hp):List PV→List V→Prop
 | [],ys=>ys=[]
 | x::xs,ys=>∃y r,ys=y::r∧R K m H x y∧Rs K m H xs r
end
section
variable {K:PySem.W.Frag} {m m':List Addr} {H H':Hp} {v:V} {vs:List V}
theorem R_non:R K m H .non v↔v=.non:=by rw [R]
theorem R_bl {b:Bool}:R K m H (.bl b) v↔v=.bl b:=by rw [R]
theorem R_int {b:Int}:R K m H (.int b) v↔v=.int b:=by rw [R]
theorem R_str {b:Str}:R K m H (.str b) v↔v=.str b:=by rw [R]
theorem iL {n:Nat}:R K m H (.ref n) v↔∃a,m[n]?=some a∧v=.ref a:=by rw [R]
theorem R_tup {xs:List PV}:R K m H (.tup xs) v↔∃a ys,v=.ref a∧SqT K H a ys∧Rs K m H xs ys:=by rw [R]
theorem fh {xs:List PV}:R K m H (.rdl xs) v↔∃a ys,v=.ref a∧RdF K H a ys∧Rs K m H xs ys:=by rw [R]
theorem R_fn {a:Nat}:R K m H (.fn a) v↔v=.ref a:=by rw [R]
theorem Rs_nil:Rs K m H [] vs↔vs=[]:=by rw [Rs]
theorem bv {x:PV} {xs:List PV}:Rs K m H (x::xs) vs↔∃y r,vs=y::r∧R K m H x y∧Rs K m H xs r:=by rw [Rs]
theorem Rs_cons' {x:PV} {xs:List PV}:Rs K m H (x::xs) (v::vs)↔R K m H x v∧Rs K m H xs vs:=by
 rw [bv]
 constructor
 ·rintro ⟨_,_,e,h1,h2⟩;cases e;exact ⟨h1,h2⟩
 ·rintro ⟨h1,h2⟩;exact ⟨_,_,rfl,h1,h2⟩
theorem Rs.len:∀ {xs:List PV} {ys:List V},Rs K m H xs ys→xs.length=ys.length
 | [],ys,h=>by rw [Rs_nil] at h;subst h;rfl
 | x::xs,ys,h=>by
  rw [bv] at h
  obtain ⟨y,r,rfl,_,h⟩:=h
  simp [Rs.len h]
theorem Rs.get:∀ {xs:List PV} {ys:List V} {i:Nat} {x:PV},Rs K m H xs ys→xs[i]?=some x→∃y,ys[i]?=some y∧R K m H x y
 | [],ys,i,x,h,e=>by simp at e
 | x::xs,ys,i,z,h,e=>by
  rw [bv] at h
  obtain ⟨y,r,rfl,h1,h⟩:=h
  cases i with
  | zero=>simp at e;subst e;exact ⟨y,rfl,h1⟩
  | succ i =>
   obtain ⟨w,e1,e2⟩:=Rs.get h (by simpa using e)
   exact ⟨w,by simpa using e1,e2⟩
theorem Rs.app:∀ {xs zs:List PV} {ys ws:List V},Rs K m H xs ys→Rs K m H zs ws→Rs K m H (xs++zs) (ys++ws)
 | [],zs,ys,ws,h,h'=>by rw [Rs_nil] at h;subst h;exact h'
 | x::xs,zs,ys,ws,h,h'=>by
  rw [bv] at h
  obtain ⟨y,r,rfl,h1,h⟩:=h
  rw [List.cons_append,bv]
  exact ⟨y,r++ws,rfl,h1,h.app h'⟩
theorem Rs.drop:∀ {xs:List PV} {ys:List V} (n:Nat),Rs K m H xs ys→Rs K m H (xs.drop n) (ys.drop n)
 | xs,ys,0,h=>by simpa using h
 | [],ys,n+1,h=>by rw [Rs_nil] at h;subst h;simp [Rs_nil]
 | x::xs,ys,n+1,h=>by
  rw [bv] at h
  obtain ⟨y,r,rfl,h1,h⟩:=h
  simpa using Rs.drop n h
theorem Rs.take:∀ {xs:List PV} {ys:List V} (n:Nat),Rs K m H xs ys→Rs K m H (xs.take n) (ys.take n)
 | xs,ys,0,h=>by simp [Rs_nil]
 | [],ys,n+1,h=>by rw [Rs_nil] at h;subst h;simp [Rs_nil]
 | x::xs,ys,n+1,h=>by
  rw [bv] at h
  obtain ⟨y,r,rfl,h1,h⟩:=h
  rw [List.take_succ_cons,List.take_succ_cons,Rs_cons']
  exact ⟨h1,Rs.take n h⟩
theorem Rs.set {x:PV} {y:V} (hx:R K m H x y):∀ {xs:List PV} {ys:List V} (n:Nat),Rs K m H xs ys→Rs K m H (xs.set n x) (ys.set n y)
 | [],ys,n,h=>by rw [Rs_nil] at h;subst h;simp [Rs_nil]
 | z::xs,ys,0,h=>by
  rw [bv] at h
  obtain ⟨w,r,rfl,h1,h⟩:=h
  rw [List.set_cons_zero,List.set_cons_zero,Rs_cons']
  exact ⟨hx,h⟩
 | z::xs,ys,n+1,h=>by
  rw [bv] at h
  obtain ⟨w,r,rfl,h1,h⟩:=h
  rw [List.set_cons_succ,List.set_cons_succ,Rs_cons']
  exact ⟨h1,Rs.set hx n h⟩
theorem Rs.cut {xs:List PV} {ys:List V} (h:Rs K m H xs ys) (lo hi:Option Int):Rs K m H (vm xs lo hi) (nH ys lo hi):=by
 unfold vm nH
 rw [h.len]
 exact (h.drop _).take _
theorem Rs.atI {xs:List PV} {ys:List V} {i:Int} {x:PV} (h:Rs K m H xs ys) (e:atI xs i=some x):∃y,L2.atI ys i=some y∧R K m H x y:=by
 unfold L2.atI at e ⊢
 rw [h.len] at e
 cases q:ixN ys.length i with
 | none=>rw [q] at e;cases e
 | some j =>
  rw [q] at e
  obtain ⟨y,e1,e2⟩:=h.get (show xs[j]?=some x from e)
  exact ⟨y,e1,e2⟩
theorem Rs.dropLast {xs:List PV} {ys:List V} (h:Rs K m H xs ys):Rs K m H xs.dropLast ys.dropLast:=by
 rw [List.dropLast_eq_take,List.dropLast_eq_take,h.len]
 exact h.take _
theorem Rs.rep {xs:List PV} {ys:List V} (h:Rs K m H xs ys):∀n:Nat,Rs K m H (List.replicate n xs).flatten (List.replicate n ys).flatten
 | 0=>by simp [Rs_nil]
 | n+1=>by
  rw [List.replicate_succ,List.replicate_succ,List.flatten_cons,List.flatten_cons]
  exact h.app (Rs.rep h n)
theorem Rs.one {x:PV} {y:V} (h:R K m H x y):Rs K m H [x] [y]:=by rw [Rs_cons',Rs_nil];exact ⟨h,rfl⟩
end
noncomputable def aV:List Str:=["coming","latest","through"]
noncomputable def TB (K:PySem.W.Frag) (H:Hp):Prop:=∀x∈aV,∀c T,PySem.W.tabIn K x=some (c,T)→(∀y∈aV,∀d,PySem.W.tabIn K y=some (d,T)→y=x)∧∃ps,H T=some (.tbl ps)∧TriplesOk ps.toList ∧
 ∀pos cv,codeAmong pos ps.toList=some cv→∃c' oc,cv=.ref c'∧H c'=some (.frz oc (.own 0))∧mP oc (x++".<locals>."++"<lambda>")
theorem TB.keep {K:PySem.W.Frag} {H H':Hp} (t:TB K H) (h1:∀a ps,H a=some (.tbl ps)→H' a=some (.tbl ps)) (h2:∀a o,H a=some (.frz o (.own 0))→H' a=some (.frz o (.own 0))):TB K H':=fun x hx c T e=>by
 obtain ⟨e0,ps,e1,e2,e3⟩:=t x hx c T e
 refine ⟨e0,ps,h1 _ _ e1,e2,fun pos cv q=>?_⟩
 obtain ⟨c',oc,g1,g2,g3⟩:=e3 pos cv q
 exact ⟨c',oc,g1,h2 _ _ g2,g3⟩
structure Ext (K:PySem.W.Frag) (m:List Addr) (H:Hp) (m':List Addr) (H':Hp):Prop where
 pre:m <+: m'
 new:∀a∈m',a∈m∨H a=none
 fr:∀a o,a ∉ m→H a=some o→(∀ps,o≠.tbl ps)→H' a=some o
 tup:∀a ys,SqT K H a ys→SqT K H' a ys
 rdf:∀a ys,RdF K H a ys→RdF K H' a ys
 tbs:∀a ps,a ∉ m→H a=some (.tbl ps)→∃ps',H' a=some (.tbl ps')
 tb:TB K H→TB K H'
theorem Ext.refl (K:PySem.W.Frag) (m:List Addr) (H:Hp):Ext K m H m H:=⟨List.prefix_refl _,fun _ h=>.inl h,fun _ _ _ h _=>h,fun _ _ h=>h,fun _ _ h=>h,fun _ ps _ h=>⟨ps,h⟩,fun h=>h⟩
theorem Ext.ne {K:PySem.W.Frag} {m m':List Addr} {H H':Hp} (x:Ext K m H m' H') {a:Addr} {o:HO} (hm:a ∉ m) (e:H a=some o):H' a≠none:=fun z=>by
 by_cases h:∃ps,o=.tbl ps
 ·obtain ⟨ps,rfl⟩:=h
  obtain ⟨q,e2⟩:=x.tbs a ps hm e
  rw [e2] at z;cases z
 ·rw [x.fr a o hm e fun ps q=>h ⟨ps,q⟩] at z;cases z
theorem Ext.trans {K:PySem.W.Frag} {m m1 m2:List Addr} {H H1 H2:Hp} (a:Ext K m H m1 H1) (b:Ext K m1 H1 m2 H2):Ext K m H m2 H2:=by
 have nin:∀c o,c ∉ m→H c=some o→c ∉ m1:=fun c o h e z=>by
  rcases a.new c z with q|q
  ·exact h q
  ·rw [e] at q;cases q
 refine ⟨a.pre.trans b.pre,fun c hc=>?_,fun c o h e n=>b.fr c o (nin c o h e) (a.fr c o h e n) n,fun c ys h=>b.tup c ys (a.tup c ys h),fun c ys h=>b.rdf c ys (a.rdf c ys h),fun c ps h e=>let ⟨p1,e1⟩:=a.tbs c ps h e;b.tbs c p1 (nin c _ h e) e1,fun h=>b.tb (a.tb h)⟩
 rcases b.new c hc with q|q
 ·exact a.new c q
 ·by_cases hm:c∈m
  ·exact .inl hm
  ·cases e:H c with
   | none=>exact .inr rfl
   | some o=>exact absurd q (a.ne hm e)
theorem jt {m m':List Addr} (h:m <+: m') {n:Nat} {a:Addr} (e:m[n]?=some a):m'[n]?=some a:=by
 obtain ⟨t,rfl⟩:=h
 rw [List.getElem?_append_left (List.getElem?_eq_some_iff.mp e).1]
 exact e
mutual
theorem R.mono {K:PySem.W.Frag} {m m':List Addr} {H H':Hp} (x:Ext K m H m' H'):∀ {p:PV} {v:V},R K m H p v→R K m' H' p v
 | .non,v,h=>by rw [R_non] at h ⊢;exact h
 | .bl b,v,h=>by rw [R_bl] at h ⊢;exact h
 | .int b,v,h=>by rw [R_int] at h ⊢;exact h
 | .str b,v,h=>by rw [R_str] at h ⊢;exact h
 | .ref n,v,h=>by rw [iL] at h ⊢;obtain ⟨a,e,q⟩:=h;exact ⟨a,jt x.pre e,q⟩
 | .tup xs,v,h=>by rw [R_tup] at h ⊢;obtain ⟨a,ys,e,q,r⟩:=h;exact ⟨a,ys,e,x.tup _ _ q,Rs.mono x r⟩
 | .rdl xs,v,h=>by rw [fh] at h ⊢;obtain ⟨a,ys,e,q,r⟩:=h;exact ⟨a,ys,e,x.rdf _ _ q,Rs.mono x r⟩
 | .fn b,v,h=>by rw [R_fn] at h ⊢;exact h
theorem Rs.mono {K:PySem.W.Frag} {m m':List Addr} {H H':Hp} (x:Ext K m H m' H'):∀ {ps:List PV} {vs:List V},Rs K m H ps vs→Rs K m' H' ps vs
 | [],vs,h=>by rw [Rs_nil] at h ⊢;exact h
 | p::ps,vs,h=>by
  rw [bv] at h ⊢
  obtain ⟨y,r,e,h1,h2⟩:=h
  exact ⟨y,r,e,R.mono x h1,Rs.mono x h2⟩
end
mutual
theorem R.cut {K:PySem.W.Frag} {m:List Addr} {H:Hp} {k:Nat}:∀ {p:PV} {v:V},R K m H p v→p.bec k=true→R K (m.take k) H p v
 | .non,v,h,_=>by rw [R_non] at h ⊢;exact h
 | .bl b,v,h,_=>by rw [R_bl] at h ⊢;exact h
 | .int b,v,h,_=>by rw [R_int] at h ⊢;exact h
 | .str b,v,h,_=>by rw [R_str] at h ⊢;exact h
 | .ref n,v,h,z=>by
  rw [iL] at h ⊢
  obtain ⟨a,e,q⟩:=h
  rw [PV.bec] at z
  exact ⟨a,by rw [List.getElem?_take_of_lt (of_decide_eq_true z)];exact e,q⟩
 | .tup xs,v,h,z=>by
  rw [R_tup] at h ⊢
  obtain ⟨a,ys,e,q,r⟩:=h
  rw [PV.bec] at z
  exact ⟨a,ys,e,q,Rs.cutm r z⟩
 | .rdl xs,v,h,z=>by
  rw [fh] at h ⊢
  obtain ⟨a,ys,e,q,r⟩:=h
  rw [PV.bec] at z
  exact ⟨a,ys,e,q,Rs.cutm r z⟩
 | .fn b,v,h,_=>by rw [R_fn] at h ⊢;exact h
theorem Rs.cutm {K:PySem.W.Frag} {m:List Addr} {H:Hp} {k:Nat}:∀ {ps:List PV} {vs:List V},Rs K m H ps vs→PV.becs k ps=true→Rs K (m.take k) H ps vs
 | [],vs,h,_=>by rw [Rs_nil] at h ⊢;exact h
 | p::ps,vs,h,z=>by
  rw [bv] at h ⊢
  obtain ⟨y,r,e,h1,h2⟩:=h
  rw [PV.becs,Bool.and_eq_true] at z
  exact ⟨y,r,e,R.cut h1 z.1,Rs.cutm h2 z.2⟩
end
mutual
theorem R.bel {K:PySem.W.Frag} {m:List Addr} {H:Hp}:∀ {p:PV} {v:V},R K m H p v→p.bec m.length=true
 | .non,v,h=>by rw [PV.bec]
 | .bl b,v,h=>by rw [PV.bec]
 | .int b,v,h=>by rw [PV.bec]
 | .str b,v,h=>by rw [PV.bec]
 | .ref n,v,h=>by
  rw [iL] at h
  obtain ⟨a,e,q⟩:=h
  rw [PV.bec]
  exact decide_eq_true (List.getElem?_eq_some_iff.mp e).1
 | .tup xs,v,h=>by
  rw [R_tup] at h
  obtain ⟨a,ys,e,q,r⟩:=h
  rw [PV.bec]
  exact Rs.bel r
 | .rdl xs,v,h=>by
  rw [fh] at h
  obtain ⟨a,ys,e,q,r⟩:=h
  rw [PV.bec]
  exact Rs.bel r
 | .fn b,v,h=>by rw [PV.bec]
theorem Rs.bel {K:PySem.W.Frag} {m:List Addr} {H:Hp}:∀ {ps:List PV} {vs:List V},Rs K m H ps vs→PV.becs m.length ps=true
 | [],vs,h=>by rw [PV.becs]
 | p::ps,vs,h=>by
  rw [bv] at h
  obtain ⟨y,r,e,h1,h2⟩:=h
  rw [PV.becs,Bool.and_eq_true]
  exact ⟨R.bel h1,Rs.bel h2⟩
end
noncomputable def CellR (K:PySem.W.Frag) (m:List Addr) (H:Hp):Cell→Addr→Prop
 | .lst xs,a=>∃ys,H a=some (.lst ys)∧Rs K m H xs ys
 | .dk kvs,a=>∃ys,H a=some (.dK ys)∧ys.map (·.1)=kvs.map (·.1)∧Rs K m H (kvs.map (·.2)) (ys.map (·.2))
theorem CellR.mono {K:PySem.W.Frag} {m m':List Addr} {H H':Hp} (x:Ext K m H m' H') {c:Cell} {a:Addr} (h:CellR K m H c a) (e:H' a=H a):CellR K m' H' c a:=by
 cases c with
 | lst xs=>obtain ⟨ys,h1,h2⟩:=h;exact ⟨ys,e.trans h1,h2.mono x⟩
 | dk kvs=>obtain ⟨ys,h1,h2,h3⟩:=h;exact ⟨ys,e.trans h1,h2,h3.mono x⟩
theorem CellR.ex {K:PySem.W.Frag} {m:List Addr} {H:Hp} {c:Cell} {a:Addr} (h:CellR K m H c a):∃o,H a=some o∧(∀ys,o≠.tup ys)∧∀u p,o≠.frz u p:=by
 cases c with
 | lst xs=>obtain ⟨ys,h1,h2⟩:=h;exact ⟨_,h1,⟨fun _ z=>(by cases z),fun _ _ z=>(by cases z)⟩⟩
 | dk kvs=>obtain ⟨ys,h1,h2,h3⟩:=h;exact ⟨_,h1,⟨fun _ z=>(by cases z),fun _ _ z=>(by cases z)⟩⟩
theorem CellR.cut {K:PySem.W.Frag} {m:List Addr} {H:Hp} {c:Cell} {a:Addr} {k:Nat} (h:CellR K m H c a) (z:c.bec k=true):CellR K (m.take k) H c a:=by
 cases c with
 | lst xs=>obtain ⟨ys,h1,h2⟩:=h;exact ⟨ys,h1,h2.cutm z⟩
 | dk kvs=>obtain ⟨ys,h1,h2,h3⟩:=h;exact ⟨ys,h1,h2,h3.cutm z⟩
theorem CellR.bel {K:PySem.W.Frag} {m:List Addr} {H:Hp} {c:Cell} {a:Addr} (h:CellR K m H c a):c.bec m.length=true:=by
 cases c with
 | lst xs=>obtain ⟨ys,h1,h2⟩:=h;exact h2.bel
 | dk kvs=>obtain ⟨ys,h1,h2,h3⟩:=h;exact h3.bel
structure RH (K:PySem.W.Frag) (m:List Addr) (H:Hp) (st:AH):Prop where
 len:m.length=st.length
 nd:m.Nodup
 at_:∀(n:Nat) (c:Cell) (a:Addr),st[n]?=some c→m[n]?=some a→CellR K m H c a
 tb:TB K H
section
variable {K:PySem.W.Frag} {m m':List Addr} {H H':Hp} {st:AH}
theorem RH.mem {a:Addr} (h:RH K m H st) (e:a∈m):∃o,H a=some o∧(∀ys,o≠.tup ys)∧∀u p,o≠.frz u p:=by
 obtain ⟨n,hn,rfl⟩:=List.mem_iff_getElem.mp e
 have:n<st.length:=by rw [←h.len];exact hn
 exact (h.at_ n st[n] _ (by simp [this]) (by simp [hn])).ex
theorem RH.mem_tbl {a:Addr} (h:RH K m H st) (e:a∈m) {ps:Array Value}:H a≠some (.tbl ps):=fun z=>by
 obtain ⟨n,hn,rfl⟩:=List.mem_iff_getElem.mp e
 have:n<st.length:=by rw [←h.len];exact hn
 have c:=h.at_ n st[n] m[n] (by simp [this]) (by simp [hn])
 cases q:st[n] with
 | lst xs=>rw [q] at c;obtain ⟨ys,h1,_⟩:=c;rw [h1] at z;cases z
 | dk xs=>rw [q] at c;obtain ⟨ys,h1,_⟩:=c;rw [h1] at z;cases z
theorem RH.lst {n:Nat} {xs:List PV} {v:V} (h:RH K m H st) (e:st[n]?=some (.lst xs)) (r:R K m H (.ref n) v):∃a ys,v=.ref a∧m[n]?=some a∧H a=some (.lst ys)∧Rs K m H xs ys:=by
 rw [iL] at r
 obtain ⟨a,e1,rfl⟩:=r
 obtain ⟨ys,h1,h2⟩:=h.at_ n _ a e e1
 exact ⟨a,ys,rfl,e1,h1,h2⟩
theorem RH.fresh {p:Addr} (h:RH K m H st) (e:H p=none):p ∉ m:=fun z=>by
 obtain ⟨o,q,_⟩:=h.mem z
 rw [e] at q;cases q
theorem Ext.newT {p:Addr} {o:HO} (h:RH K m H st) (e:H p=none):Ext K m H m (upd H p o):=by
 refine ⟨List.prefix_refl _,fun _ z=>.inl z,fun a u _ q _=>?_,fun a ys q=>?_,fun a ys q=>?_,fun a ps _ q=>⟨ps,by rw [ak (aH q e)];exact q⟩,fun t=>t.keep (fun a ps q=>by rw [ak (aH q e)];exact q) fun a o q=>by rw [ak (aH q e)];exact q⟩
 ·rw [ak (aH q e)];exact q
 ·rcases q with (q|⟨u,q⟩)|q
  ·exact .inl (.inl (by rw [ak (aH q e)];exact q))
  ·exact .inl (.inr ⟨u,by rw [ak (aH q e)];exact q⟩)
  ·exact .inr q
 ·rcases q with ⟨u,q⟩|q
  ·exact .inl ⟨u,by rw [ak (aH q e)];exact q⟩
  ·exact .inr q
theorem RH.keep (h:RH K m H st) (x:Ext K m H m H') (e:∀a∈m,H' a=H a):RH K m H' st :=
 ⟨h.len,h.nd,fun n c a h1 h2=>(h.at_ n c a h1 h2).mono x (e a (List.mem_of_getElem? h2)),x.tb h.tb⟩
theorem RH.newT {p:Addr} {o:HO} (h:RH K m H st) (e:H p=none):RH K m (upd H p o) st :=
 h.keep (Ext.newT h e) fun a ha=>ak fun z=>h.fresh e (z ▸ ha)
theorem Ext.new1 {p:Addr} {o:HO} (h:RH K m H st) (e:H p=none):Ext K m H (m++[p]) (upd H p o):=by
 have q:=Ext.newT (o:=o) h e
 refine ⟨List.prefix_append _ _,fun a z=>?_,q.fr,q.tup,q.rdf,q.tbs,q.tb⟩
 rcases List.mem_append.mp z with z|z
 ·exact .inl z
 ·rw [List.mem_singleton] at z
  subst z
  exact .inr e
theorem RH.new1 {p:Addr} {o:HO} {c:Cell} (h:RH K m H st) (e:H p=none) (hc:CellR K (m++[p]) (upd H p o) c p):RH K (m++[p]) (upd H p o) (st++[c]):=by
 have x:=Ext.new1 (o:=o) h e
 refine ⟨by simp [h.len],List.nodup_append.mpr ⟨h.nd,List.nodup_cons.mpr ⟨by simp,List.nodup_nil⟩,fun a ha b hb z=>?_⟩,fun n c' a h1 h2=>?_,x.tb h.tb⟩
 ·rw [List.mem_singleton] at hb
  subst hb
  exact h.fresh e (z ▸ ha)
 ·by_cases hn:n<st.length
  ·rw [List.getElem?_append_left hn] at h1
   rw [List.getElem?_append_left (by rw [h.len];exact hn)] at h2
   exact (h.at_ n c' a h1 h2).mono x (ak fun z=>h.fresh e (z ▸ List.mem_of_getElem? h2))
  ·rw [List.getElem?_append_right (by omega)] at h1
   rw [List.getElem?_append_right (by rw [h.len];omega)] at h2
   have hl:=h.len
   by_cases hz:n-st.length=0
   ·rw [hz] at h1
    rw [show n-m.length=0 by omega] at h2
    simp at h1 h2
    subst h1 h2
    exact hc
   ·rw [List.getElem?_eq_none (by simp;omega)] at h1
    cases h1
theorem RH.newL {p:Addr} {xs:List PV} {ys:List V} (h:RH K m H st) (e:H p=none) (r:Rs K m H xs ys):RH K (m++[p]) (upd H p (.lst ys)) (st++[.lst xs]) :=
 h.new1 e ⟨ys,cJ,r.mono (Ext.new1 h e)⟩
theorem R.last {p:Addr} {n:Nat} (h:m.length=n):R K (m++[p]) H (.ref n) (.ref p):=by
 rw [iL]
 exact ⟨p,by rw [←h];simp,rfl⟩
theorem Ext.set {n:Nat} {a:Addr} {ys:List V} {o:HO} (h:RH K m H st) (e:m[n]?=some a):Ext K m H m (upd H a o):=by
 have hm:=List.mem_of_getElem? e
 obtain ⟨u,hu,h1,h2⟩:=h.mem hm
 refine ⟨List.prefix_refl _,fun _ z=>.inl z,fun b w hb q _=>?_,fun b zs q=>?_,fun b zs q=>?_,fun b ps hb q=>⟨ps,by rw [ak (show b≠a from fun z=>hb (by rw [z];exact hm))];exact q⟩,fun t=>t.keep (fun b ps q=>by rw [ak (fun z=>by subst z;exact h.mem_tbl hm q)];exact q) fun b w q=>by rw [ak (fun z=>by subst z;rw [hu] at q;cases q;exact h2 _ _ rfl)];exact q⟩
 ·have hne:b≠a:=fun z=>hb (by rw [z];exact hm)
  rw [ak hne];exact q
 ·rcases q with (q|⟨w,q⟩)|q
  ·exact .inl (.inl (by rw [ak (fun z=>by subst z;rw [hu] at q;cases q;exact h1 _ rfl)];exact q))
  ·exact .inl (.inr ⟨w,by rw [ak (fun z=>by subst z;rw [hu] at q;cases q;exact h2 _ _ rfl)];exact q⟩)
  ·exact .inr q
 ·rcases q with ⟨w,q⟩|q
  ·exact .inl ⟨w,by rw [ak (fun z=>by subst z;rw [hu] at q;cases q;exact h2 _ _ rfl)];exact q⟩
  ·exact .inr q
theorem xN {m:List Addr} (h:m.Nodup) {i j:Nat} {a:Addr} (e:m[i]?=some a) (e':m[j]?=some a):i=j:=by
 obtain ⟨h1,h2⟩:=List.getElem?_eq_some_iff.mp e
 obtain ⟨h3,h4⟩:=List.getElem?_eq_some_iff.mp e'
 exact (List.getElem_inj h).mp (h2.trans h4.symm)
theorem RH.setL {n:Nat} {a:Addr} {xs:List PV} {ys:List V} (h:RH K m H st) (e:m[n]?=some a) (r:Rs K m H xs ys):RH K m (upd H a (.lst ys)) (st.set n (.lst xs)):=by
 have x:Ext K m H m (upd H a (.lst ys)):=Ext.set (ys:=ys) h e
 refine ⟨by simp [h.len],h.nd,fun k c b h1 h2=>?_,x.tb h.tb⟩
 by_cases hk:k=n
 ·subst hk
  rw [e] at h2
  cases h2
  have hl:k<st.length:=by rw [←h.len];exact (List.getElem?_eq_some_iff.mp e).1
  rw [List.getElem?_set_self hl] at h1
  cases h1
  exact ⟨ys,cJ,r.mono x⟩
 ·rw [List.getElem?_set_ne (fun z=>hk z.symm)] at h1
  exact (h.at_ k c b h1 h2).mono x (ak fun z=>hk (xN h.nd h2 (z ▸ e)))
end
structure RF (K:PySem.W.Frag) (m:List Addr) (H:Hp) (ρ:Fr) (σ:L2.St):Prop where
 len:ρ.length=σ.length
 at_:∀(i:Nat) v,ρ[i]?=some (some v)→∃x,σ[i]?=some (some x)∧R K m H v x
theorem RF.mono {K:PySem.W.Frag} {m m':List Addr} {H H':Hp} {ρ:Fr} {σ:L2.St} (h:RF K m H ρ σ) (x:Ext K m H m' H'):RF K m' H' ρ σ :=
 ⟨h.len,fun i v e=>let ⟨y,e1,r⟩:=h.at_ i v e;⟨y,e1,r.mono x⟩⟩
theorem RF.set {K:PySem.W.Frag} {m:List Addr} {H:Hp} {ρ:Fr} {σ:L2.St} (h:RF K m H ρ σ) (i:Nat) {v:PV} {x:V} (r:R K m H v x):RF K m H (ρ.set i (some v)) (σ.set i (some x)):=by
 refine ⟨by simp [h.len],fun j w e=>?_⟩
 by_cases hj:i=j
 ·subst hj
  have hl:i<ρ.length:=by have:=(List.getElem?_eq_some_iff.mp e).1;simpa using this
  rw [List.getElem?_set_self hl] at e
  cases e
  exact ⟨x,by rw [List.getElem?_set_self (h.len ▸ hl)],r⟩
 ·rw [List.getElem?_set_ne hj] at e
  rw [List.getElem?_set_ne hj]
  exact h.at_ j w e
noncomputable def post (K:PySem.W.Frag) (m:List Addr) (H:Hp) (Q:VK):EK:=fun v st'=>∀m' H' x,Ext K m H m' H'→RH K m' H' st'→R K m' H' v x→Q x H'
noncomputable def postB (K:PySem.W.Frag) (m:List Addr) (H:Hp) (Q:Bool→Hp→Prop):BK:=fun v st'=>∀m' H',Ext K m H m' H'→RH K m' H' st'→Q v H'
noncomputable def GS (K:PySem.W.Frag) (m:List Addr) (H:Hp) (Q:List V→Hp→Prop):LK:=fun vs st'=>∀m' H' xs,Ext K m H m' H'→RH K m' H' st'→Rs K m' H' vs xs→Q xs H'
noncomputable def TEx (K:PySem.W.Frag) (w:Fr→AH→EK→Prop):TE:=fun σ H Q=>∃m ρ st,RF K m H ρ σ∧RH K m H st∧w ρ st (post K m H Q)
noncomputable def TTx (K:PySem.W.Frag) (w:Fr→AH→BK→Prop):TT:=fun σ H Q=>∃m ρ st,RF K m H ρ σ∧RH K m H st∧w ρ st (postB K m H Q)
noncomputable def TAx (K:PySem.W.Frag) (w:Fr→AH→LK→Prop):TA:=fun σ H Q=>∃m ρ st,RF K m H ρ σ∧RH K m H st∧w ρ st (GS K m H Q)
theorem post.ext {K:PySem.W.Frag} {m m1:List Addr} {H H1:Hp} {Q:VK} (x:Ext K m H m1 H1) {v:PV} {st:AH} (q:post K m H Q v st):post K m1 H1 Q v st:=fun m' H' y e r s=>q m' H' y (x.trans e) r s
theorem postB.ext {K:PySem.W.Frag} {m m1:List Addr} {H H1:Hp} {Q:Bool→Hp→Prop} (x:Ext K m H m1 H1) {v:Bool} {st:AH} (q:postB K m H Q v st):postB K m1 H1 Q v st:=fun m' H' e r=>q m' H' (x.trans e) r
noncomputable def Dn (K:PySem.W.Frag) (w:PV→PV→AH→EK→Prop):R2:=fun x' y' H Q=>∃m st x y,RH K m H st∧R K m H x x'∧R K m H y y'∧w x y st (post K m H Q)
noncomputable def He (K:PySem.W.Frag) (w:List PV→AH→EK→Prop):List V→Hp→VK→Prop:=fun xs' H Q=>∃m st xs,RH K m H st∧Rs K m H xs xs'∧w xs st (post K m H Q)
end FW
set_option Elab.async false
set_option linter.all false
set_option maxRecDepth 100000
set_option maxHeartbeats 1000000
namespace FW
open PySem PySem.Spec PyProof.Rows L2 HX
theorem ft {n:Nat} (h:n≤100000):n≤sizeLine:=by rw [sizeLine_eq];omega
theorem vU {n:Nat} (h:n<100000):n<sizeLine:=by rw [sizeLine_eq];omega
section
variable {X:Cx}
theorem post.here {K:PySem.W.Frag} {m:List Addr} {H:Hp} {Q:VK} {v:PV} {st:AH} {x:V} (q:post K m H Q v st) (h:RH K m H st) (r:R K m H v x):Q x H:=q m H x (Ext.refl _ _ _) h r
theorem post.newT {K:PySem.W.Frag} {m:List Addr} {H:Hp} {Q:VK} {xs:List PV} {ys:List V} {st:AH} {p:Addr} (q:post K m H Q (.tup xs) st) (h:RH K m H st) (r:Rs K m H xs ys) (e:H p=none):Q (.ref p) (upd H p (.tup ys)) :=
 q m _ _ (Ext.newT h e) (h.newT e) (R_tup.mpr ⟨p,ys,rfl,SqT.of cJ,r.mono (Ext.newT h e)⟩)
theorem post.newL {K:PySem.W.Frag} {m:List Addr} {H:Hp} {Q:VK} {xs:List PV} {ys:List V} {st:AH} {p:Addr} (q:post K m H Q (.ref st.length) (st++[.lst xs])) (h:RH K m H st) (r:Rs K m H xs ys) (e:H p=none):Q (.ref p) (upd H p (.lst ys)) :=
 q _ _ _ (Ext.new1 h e) (h.newL e r) (R.last h.len)
theorem post.setL {K:PySem.W.Frag} {m:List Addr} {H:Hp} {Q:VK} {v:PV} {y:V} {xs:List PV} {ys:List V} {st:AH} {n:Nat} {a:Addr} (q:post K m H Q v (st.set n (.lst xs))) (h:RH K m H st) (e:m[n]?=some a) (r:Rs K m H xs ys) (rv:R K m H v y) :
  Q y (upd H a (.lst ys)):=q _ _ _ (Ext.set (ys:=ys) h e) (h.setL e r) (rv.mono (Ext.set (ys:=ys) h e))
theorem fH {K:PySem.W.Frag} {m:List Addr} {H:Hp} {st:AH} {v:PV} {x:V} {xs:List PV} (h:RH K m H st) (r:R K m H v x) (e:b8 st v=some xs):∃a ys,x=.ref a∧SqL K H a ys∧Rs K m H xs ys:=by
 cases v with
 | rdl zs =>
  cases e
  rw [fh] at r
  obtain ⟨a,ys,rfl,h1,h2⟩:=r
  exact ⟨a,ys,rfl,h1.sq,h2⟩
 | ref n =>
  unfold b8 at e
  simp only at e
  split at e
  ·cases e
   rename_i q
   obtain ⟨a,ys,rfl,_,h1,h2⟩:=h.lst q r
   exact ⟨a,ys,rfl,SqL.of h1,h2⟩
  ·cases e
 | _=>cases e
theorem jj {K:PySem.W.Frag} {m:List Addr} {H:Hp} {st:AH} {v:PV} {x:V} {xs:List PV} (h:RH K m H st) (r:R K m H v x) (e:bJ st v=some xs):∃a ys,x=.ref a∧(SqL K H a ys∨SqT K H a ys)∧Rs K m H xs ys:=by
 cases v with
 | tup zs =>
  cases e
  rw [R_tup] at r
  obtain ⟨a,ys,rfl,h1,h2⟩:=r
  exact ⟨a,ys,rfl,.inr h1,h2⟩
 | rdl zs =>
  obtain ⟨a,ys,h1,h2,h3⟩:=fH h r e
  exact ⟨a,ys,h1,.inl h2,h3⟩
 | ref n =>
  obtain ⟨a,ys,h1,h2,h3⟩:=fH h r e
  exact ⟨a,ys,h1,.inl h2,h3⟩
 | _=>cases e
theorem Ie {P:Program} {w:World} {A:Around} {E:Value→Shared→Prop} {s:Shared} {t b:Addr} {ws:List Value} {Q:Value→Shared→Prop} (ht:IsTup s.heap t ([]:List Value).toArray) (hb:IsTup s.heap b ws.toArray) (h:Q (.ref b) s) :
  wpAny (model P w) A (binaryOp .Add (.ref t) (.ref b)) Q E s:=by
 obtain ⟨⟨cls,dd,data,sl⟩,ho,hc,n,hd⟩:=id ht
 obtain ⟨⟨cls2,dd2,data2,sl2⟩,ho2,hc2,n2,hd2⟩:=id hb
 simp only at hc hd hc2 hd2
 subst hc hd hc2 hd2
 exact concat_meets ⟨_,ho,rfl⟩ ⟨_,ho2,rfl⟩ noFill_tuple_add seq_tuple_add PySem.F.slot_tuple_add PySem.F.entry_tuple_add (PySem.F.args_tuple_add_2 _ _)
  (tuple_addW0 t b ([]:List Value).toArray ws.toArray n n2 dd dd2 sl sl2 rfl) ⟨ho,ho2,h⟩
theorem EC (op:Operator):OpR X (binaryOp op) (Dn X.K (iJ op)):=by
 intro pins s σ H x' y' v u Q I rx ry h
 obtain ⟨m,st,x,y,rh,hx,hy,w⟩:=h
 cases op with
 | Add =>
  cases x with
  | int i =>
   cases y with
   | int j =>
    have w:post X.K m H Q (.int (i+j)) st:=w
    rw [R_int] at hx hy;subst hx hy
    exact E9 pins s σ H _ _ v u Q I rx ry ⟨_,_,rfl,rfl,w.here rh (R_int.mpr rfl)⟩
   | _=>exact False.elim w
  | ref n =>
   cases y with
   | ref k =>
    obtain ⟨xs,ys,h1,h2,h3,w⟩:=w
    obtain ⟨a,xs',rfl,e1,g1,r1⟩:=rh.lst h1 hx
    obtain ⟨b,ys',rfl,e2,g2,r2⟩:=rh.lst h2 hy
    exact Gw pins s σ H _ _ v u Q I rx ry ⟨a,b,xs',ys',rfl,rfl,g1,g2,by rw [←r1.len,←r2.len];exact ft h3,fun p hp=>w.newL rh (r1.app r2) hp⟩
   | _=>exact False.elim w
  | tup xs =>
   cases y with
   | tup ys =>
    obtain ⟨h2,w⟩:=w
    rw [R_tup] at hx hy
    obtain ⟨a,xs',rfl,g1,r1⟩:=hx
    obtain ⟨b,ys',rfl,g2,r2⟩:=hy
    by_cases h1:xs'=[]
    ·subst h1
     cases rx
     cases ry
     obtain ⟨its1,rv1,p1,_⟩:=I.tuple g1
     obtain ⟨its2,rv2,p2,_⟩:=I.tuple g2
     cases rv1
     have e:=r1.len
     rw [List.length_eq_zero_iff.mp e,List.nil_append] at w
     exact Ie p1 p2 ⟨.ref b,H,I,rfl,w.here rh (R_tup.mpr ⟨b,ys',rfl,g2,r2⟩)⟩
    refine Cl pins s σ H _ _ v u Q I rx ry ⟨a,b,xs',ys',rfl,rfl,g1,g2,fun z=>?_,by rw [←r1.len,←r2.len];exact ft h2,fun z=>?_,fun z p hp=>w.newT rh (r1.app r2) hp⟩
    ·exact h1 z
    ·subst z
     have e:=r2.len
     rw [List.length_eq_zero_iff.mp e,List.append_nil] at w
     exact w.here rh (R_tup.mpr ⟨a,xs',rfl,g1,r1⟩)
   | _=>exact False.elim w
  | str a =>
   cases y with
   | str b =>
    obtain ⟨h2,w⟩:=w
    rw [R_str] at hx hy;subst hx hy
    exact tF pins s σ H _ _ v u Q I rx ry ⟨_,_,rfl,rfl,ft h2,w.here rh (R_str.mpr rfl)⟩
   | _=>exact False.elim w
  | _=>exact False.elim w
 | Mult =>
  cases x with
  | int i =>
   cases y with
   | int j =>
    have w:CMB i j∧post X.K m H Q (.int (i*j)) st:=w
    rw [R_int] at hx hy;subst hx hy
    exact Dg pins s σ H _ _ v u Q I rx ry ⟨_,_,rfl,rfl,w.1,w.2.here rh (R_int.mpr rfl)⟩
   | _=>exact False.elim w
  | ref n =>
   cases y with
   | int k =>
    obtain ⟨xs,h1,h2,h3,h4,w⟩:=w
    rw [R_int] at hy;subst hy
    obtain ⟨a,xs',rfl,e1,g1,r1⟩:=rh.lst h1 hx
    exact Gj pins s σ H _ _ v u Q I rx ry ⟨a,_,xs',rfl,rfl,g1,h2,h3,by rw [←r1.len];exact ft h4,fun p hp=>w.newL rh (r1.rep _) hp⟩
   | _=>exact False.elim w
  | _=>exact False.elim w
 | Sub =>
  obtain ⟨i,j,rfl,rfl,w⟩:=cW w
  rw [R_int] at hx hy;subst hx hy
  exact Fx pins s σ H _ _ v u Q I rx ry ⟨_,_,rfl,rfl,w.here rh (R_int.mpr rfl)⟩
 | FloorDiv =>
  obtain ⟨i,j,rfl,rfl,w⟩:=cW w
  rw [R_int] at hx hy;subst hx hy
  exact yq pins s σ H _ _ v u Q I rx ry ⟨_,_,rfl,rfl,w.1,w.2.here rh (R_int.mpr rfl)⟩
 | Mod =>
  obtain ⟨i,j,rfl,rfl,w⟩:=cW w
  rw [R_int] at hx hy;subst hx hy
  exact EW pins s σ H _ _ v u Q I rx ry ⟨_,_,rfl,rfl,w.1,w.2.here rh (R_int.mpr rfl)⟩
 | Pow =>
  obtain ⟨i,j,rfl,rfl,w⟩:=cW w
  rw [R_int] at hx hy;subst hx hy
  exact FK pins s σ H _ _ v u Q I rx ry ⟨_,_,rfl,rfl,w.1,w.2.here rh (R_int.mpr rfl)⟩
 | _=>exact False.elim w
mutual
theorem R.den {K:PySem.W.Frag} {m:List Addr} {H:Hp}:∀ {p:PV} {v:V} {d:PyData},R K m H p v→p.toD=some d→(∃xs,d=.list xs)∨Den K H d v
 | .non,v,d,h,e=>by rw [PV.toD] at e;cases e;rw [R_non] at h;exact .inr (den_non.mpr h)
 | .bl b,v,d,h,e=>by rw [PV.toD] at e;cases e;rw [R_bl] at h;exact .inr (den_bl.mpr h)
 | .int b,v,d,h,e=>by rw [PV.toD] at e;cases e;rw [R_int] at h;exact .inr (den_int.mpr h)
 | .str b,v,d,h,e=>by rw [PV.toD] at e;cases e;rw [R_str] at h;exact .inr (den_str.mpr h)
 | .ref n,v,d,h,e=>by rw [PV.toD] at e;cases e
 | .fn n,v,d,h,e=>by rw [PV.toD] at e;cases e
 | .tup xs,v,d,h,e=>by
  rw [PV.toD] at e
  cases q:PV.toDs xs with
  | none=>rw [q] at e;cases e
  | some ds =>
   rw [q] at e
   cases e
   rw [R_tup] at h
   obtain ⟨a,ys,rfl,h1,h2⟩:=h
   exact .inr (den_tup.mpr ⟨a,ys,rfl,h1,Rs.den h2 q⟩)
 | .rdl xs,v,d,h,e=>by
  rw [PV.toD] at e
  cases q:PV.toDs xs with
  | none=>rw [q] at e;cases e
  | some ds=>rw [q] at e;cases e;exact .inl ⟨_,rfl⟩
theorem Rs.den {K:PySem.W.Frag} {m:List Addr} {H:Hp}:∀ {ps:List PV} {vs:List V} {ds:List PyData},Rs K m H ps vs→PV.toDs ps=some ds→Dens K H ds vs
 | [],vs,ds,h,e=>by rw [PV.toDs] at e;cases e;rw [Rs_nil] at h;exact dens_nil.mpr h
 | p::ps,vs,ds,h,e=>by
  rw [bv] at h
  obtain ⟨y,r,rfl,h1,h2⟩:=h
  rw [PV.toDs] at e
  cases q:p.toD with
  | none=>rw [q] at e;cases e
  | some d =>
   cases q2:PV.toDs ps with
   | none=>rw [q,q2] at e;cases e
   | some ds' =>
    rw [q,q2] at e
    cases e
    refine dens_cons'.mpr ⟨?_,Rs.den h2 q2⟩
    cases p with
    | rdl xs =>
     rw [PV.toD] at q
     cases q3:PV.toDs xs with
     | none=>rw [q3] at q;cases q
     | some es =>
      rw [q3] at q
      cases q
      rw [fh] at h1
      obtain ⟨a,ys,rfl,g1,g2⟩:=h1
      exact den_lst.mpr ⟨a,ys,rfl,g1.sq,Rs.den g2 q3⟩
    | _ =>
     rcases R.den h1 q with ⟨xs,rfl⟩|z
     ·first
       | (rw [PV.toD] at q;cases q;done)
       | (rw [PV.toD] at q;simp only [Option.map_eq_some_iff,reduceCtorEq,and_false,exists_false] at q)
     ·exact z
end
theorem jr {K:PySem.W.Frag} {m:List Addr} {H:Hp} {st:AH} {p:PV} {v:V} {d:PyData} (rh:RH K m H st) (h:R K m H p v) (e:mK st p=some d):Den K H d v:=by
 cases p with
 | ref n =>
  unfold mK at e
  simp only at e
  split at e
  ·rename_i xs q
   cases q2:PV.toDs xs with
   | none=>rw [q2] at e;cases e
   | some ds =>
    rw [q2] at e
    cases e
    obtain ⟨a,ys,rfl,_,h1,h2⟩:=rh.lst q h
    exact den_lst.mpr ⟨a,ys,rfl,SqL.of h1,h2.den q2⟩
  ·cases e
 | rdl xs =>
  have e':(PV.rdl xs).toD=some d:=e
  rw [PV.toD] at e'
  cases q2:PV.toDs xs with
  | none=>rw [q2] at e';cases e'
  | some ds =>
   rw [q2] at e'
   cases e'
   rw [fh] at h
   obtain ⟨a,ys,rfl,g1,g2⟩:=h
   exact den_lst.mpr ⟨a,ys,rfl,g1.sq,g2.den q2⟩
 | tup xs =>
  have e':(PV.tup xs).toD=some d:=e
  rcases R.den h e' with ⟨zs,rfl⟩|z
  ·rw [PV.toD] at e'
   simp at e'
  ·exact z
 | fn b=>have e':(PV.fn b).toD=some d:=e;rw [PV.toD] at e';cases e'
 | non=>have e':(PV.non).toD=some d:=e;rw [PV.toD] at e';cases e';exact den_non.mpr (R_non.mp h)
 | bl b=>have e':(PV.bl b).toD=some d:=e;rw [PV.toD] at e';cases e';exact den_bl.mpr (R_bl.mp h)
 | int b=>have e':(PV.int b).toD=some d:=e;rw [PV.toD] at e';cases e';exact den_int.mpr (R_int.mp h)
 | str b=>have e':(PV.str b).toD=some d:=e;rw [PV.toD] at e';cases e';exact den_str.mpr (R_str.mp h)
theorem R.nonB {K:PySem.W.Frag} {m:List Addr} {H:Hp} {p:PV} {v:V} (h:R K m H p v):decide (v=.non)=ic p:=by
 cases p with
 | non=>rw [R_non] at h;subst h;rfl
 | bl b=>rw [R_bl] at h;subst h;rfl
 | int b=>rw [R_int] at h;subst h;rfl
 | str b=>rw [R_str] at h;subst h;rfl
 | ref n=>rw [iL] at h;obtain ⟨a,_,rfl⟩:=h;rfl
 | tup n=>rw [R_tup] at h;obtain ⟨a,_,rfl,_⟩:=h;rfl
 | rdl n=>rw [fh] at h;obtain ⟨a,_,rfl,_⟩:=h;rfl
 | fn n=>rw [R_fn] at h;subst h;rfl
theorem R.blB {K:PySem.W.Frag} {m:List Addr} {H:Hp} {p:PV} {v:V} {k:Bool} (h:R K m H p v):decide (v=.bl k)=ld k p:=by
 cases p with
 | non=>rw [R_non] at h;subst h;rfl
 | bl b=>rw [R_bl] at h;subst h;cases b <;> cases k <;> rfl
 | int b=>rw [R_int] at h;subst h;rfl
 | str b=>rw [R_str] at h;subst h;rfl
 | ref n=>rw [iL] at h;obtain ⟨a,_,rfl⟩:=h;rfl
 | tup n=>rw [R_tup] at h;obtain ⟨a,_,rfl,_⟩:=h;rfl
 | rdl n=>rw [fh] at h;obtain ⟨a,_,rfl,_⟩:=h;rfl
 | fn n=>rw [R_fn] at h;subst h;rfl
theorem HN {i j:Int}:decide (V.int i=V.int j)=decide (i=j):=by simp
theorem GO {i j:Bool}:decide (V.bl i=V.bl j)=decide (i=j):=by simp
theorem GU {i j:Str}:decide (V.str i=V.str j)=decide (i=j):=by simp
theorem pi {K:PySem.W.Frag} {m:List Addr} {H:Hp}:∀ {ns:List Int} {ys:List V},Rs K m H (ns.map PV.int) ys→ys=ns.map V.int
 | [],ys,h=>by rw [List.map_nil,Rs_nil] at h;exact h
 | n::ns,ys,h=>by
  cases ys with
  | nil=>have:=h.len;simp at this
  | cons y ys =>
   rw [List.map_cons,Rs_cons',R_int] at h
   rw [h.1,pi h.2]
   rfl
theorem jY:∀ {ns:List Int},(ns.map V.int).all jN=true
 | []=>rfl
 | n::ns=>by rw [List.map_cons,List.all_cons,jY];rfl
theorem qK {i:Int}:∀ {ns:List Int},inV (.int i) (ns.map V.int)=ns.any fun j=>j == i
 | []=>rfl
 | n::ns=>by
  have:=qK (i:=i) (ns:=ns)
  unfold inV at this ⊢
  rw [List.map_cons,List.any_cons,List.any_cons,this]
  rfl
theorem Ap (hu:X.A.units+64<cLine) (op:CmpOp):OpR X (compareOp op) (Dn X.K (eV op)):=by
 intro pins s σ H x' y' v u Q I rx ry h
 obtain ⟨m,st,x,y,rh,hx,hy,w⟩:=h
 unfold eV at w
 cases op with
 | Eq =>
  simp only at w
  unfold eqW at w
  split at w
  ·rw [R_int] at hx hy;subst hx hy
   exact As pins s σ H _ _ v u Q I rx ry ⟨rfl,by rw [HN];exact w.here rh (R_bl.mpr rfl)⟩
  ·rw [R_bl] at hx hy;subst hx hy
   exact As pins s σ H _ _ v u Q I rx ry ⟨rfl,by rw [GO];exact w.here rh (R_bl.mpr rfl)⟩
  ·rw [R_str] at hx hy;subst hx hy
   exact As pins s σ H _ _ v u Q I rx ry ⟨rfl,by rw [GU];exact w.here rh (R_bl.mpr rfl)⟩
  ·obtain ⟨d,e,h1,h2,h3,h4,w⟩:=w
   exact F' hu pins s σ H _ _ v u Q I rx ry ⟨d,e,jr rh hx h1,jr rh hy h2,h3,h4,w.here rh (R_bl.mpr rfl)⟩
 | NotEq =>
  simp only at w
  unfold eqW at w
  split at w
  ·rw [R_int] at hx hy;subst hx hy
   exact Ah pins s σ H _ _ v u Q I rx ry ⟨rfl,by rw [HN];exact w.here rh (R_bl.mpr rfl)⟩
  ·rw [R_bl] at hx hy;subst hx hy
   exact Ah pins s σ H _ _ v u Q I rx ry ⟨rfl,by rw [GO];exact w.here rh (R_bl.mpr rfl)⟩
  ·rw [R_str] at hx hy;subst hx hy
   exact Ah pins s σ H _ _ v u Q I rx ry ⟨rfl,by rw [GU];exact w.here rh (R_bl.mpr rfl)⟩
  ·obtain ⟨d,e,h1,h2,h3,h4,w⟩:=w
   exact Ed hu pins s σ H _ _ v u Q I rx ry ⟨d,e,jr rh hx h1,jr rh hy h2,h3,h4,w.here rh (R_bl.mpr rfl)⟩
 | Is =>
  simp only at w
  split at w
  ·rw [R_non] at hy;subst hy
   exact Ef pins s σ H _ _ v u Q I rx ry ⟨rfl,by rw [hx.nonB];exact w.here rh (R_bl.mpr rfl)⟩
  ·rw [R_bl] at hy;subst hy
   exact Fc pins s σ H _ _ v u Q I rx ry ⟨_,rfl,by rw [hx.blB];exact w.here rh (R_bl.mpr rfl)⟩
  ·exact w.elim
 | IsNot =>
  simp only at w
  split at w
  ·rw [R_non] at hy;subst hy
   exact CI pins s σ H _ _ v u Q I rx ry ⟨rfl,by rw [hx.nonB];exact w.here rh (R_bl.mpr rfl)⟩
  ·rw [R_bl] at hy;subst hy
   exact wL pins s σ H _ _ v u Q I rx ry ⟨_,rfl,by rw [hx.blB];exact w.here rh (R_bl.mpr rfl)⟩
  ·exact w.elim
 | Lt =>
  simp only at w
  split at w
  ·rw [R_int] at hx hy;subst hx hy
   exact GZ pins s σ H _ _ v u Q I rx ry ⟨_,_,rfl,rfl,w.here rh (R_bl.mpr rfl)⟩
  ·exact w.elim
 | LtE =>
  simp only at w
  split at w
  ·rw [R_int] at hx hy;subst hx hy
   exact GH pins s σ H _ _ v u Q I rx ry ⟨_,_,rfl,rfl,w.here rh (R_bl.mpr rfl)⟩
  ·exact w.elim
 | Gt =>
  simp only at w
  split at w
  ·rw [R_int] at hx hy;subst hx hy
   exact HU pins s σ H _ _ v u Q I rx ry ⟨_,_,rfl,rfl,w.here rh (R_bl.mpr rfl)⟩
  ·exact w.elim
 | GtE =>
  simp only at w
  split at w
  ·rw [R_int] at hx hy;subst hx hy
   exact HL pins s σ H _ _ v u Q I rx ry ⟨_,_,rfl,rfl,w.here rh (R_bl.mpr rfl)⟩
  ·exact w.elim
 | In =>
  simp only at w
  split at w
  ·rw [R_str] at hx hy;subst hx hy
   exact wW pins s σ H _ _ v u Q I rx ry ⟨_,_,rfl,rfl,w.here rh (R_bl.mpr rfl)⟩
  ·rw [R_int] at hx;subst hx
   obtain ⟨ns,rfl,w⟩:=w
   obtain ⟨a,ys,rfl,g,r⟩:=R_tup.mp hy
   obtain rfl:=pi r
   refine xw pins s σ H _ _ v u Q I rx ry ⟨a,_,rfl,.inr g,rfl,jY,?_⟩
   rw [if_neg Bool.false_ne_true,qK]
   exact w.here rh (R_bl.mpr rfl)
  ·exact w.elim
 | NotIn =>
  simp only at w
  split at w
  ·rw [R_int] at hx;subst hx
   obtain ⟨ns,rfl,w⟩:=w
   obtain ⟨a,ys,rfl,g,r⟩:=R_tup.mp hy
   obtain rfl:=pi r
   refine pJ pins s σ H _ _ v u Q I rx ry ⟨a,_,rfl,.inr g,rfl,jY,?_⟩
   rw [if_pos rfl,qK]
   exact w.here rh (R_bl.mpr rfl)
  ·exact w.elim
theorem DR:IxR X (Dn X.K ixW):=by
 intro value slice pins s σ H x' y' v u Q I rx ry h hs
 obtain ⟨m,st,x,y,rh,hx,hy,w⟩:=h
 cases y with
 | int i =>
  rw [R_int] at hy;subst hy
  rcases wx w with ⟨z,c,rfl,h1,h2,w⟩|⟨xs,z,h1,h2,w⟩
  ·rw [R_str] at hx;subst hx
   exact EE value slice pins s σ H _ _ v u Q I rx ry ⟨_,_,c,rfl,rfl,ft h1,h2,w.here rh (R_str.mpr rfl)⟩ hs
  obtain ⟨a,ys,rfl,g,r⟩:=jj rh hx h1
  obtain ⟨y,e,ry'⟩:=r.atI h2
  rcases g with g|g
  ·exact DB value slice pins s σ H _ _ v u Q I rx ry ⟨a,ys,_,y,rfl,rfl,g,e,w.here rh ry'⟩ hs
  ·exact FZ value slice pins s σ H _ _ v u Q I rx ry ⟨a,ys,_,y,rfl,rfl,g,e,w.here rh ry'⟩ hs
 | _=>exact w.elim
theorem iK {prog:Program} {w:World} {A:Around} {E:Value→Shared→Prop} {s:Shared} {t sl:Addr} {items:Array Value} {vl vu:Value} {lo hi:Option Int} {Q:Value→Shared→Prop} (ht:IsTup s.heap t items) (hs:s.heap.IsSliceOf sl vl vu .none) (pl:IsPart vl lo) (pu:IsPart vu hi)
  (hw:HT.sIx items.size 0 lo=0∧HT.sIx items.size items.size hi=items.size) (h:Q (.ref t) s):wpAny (model prog w) A (getItem (.ref t) (.ref sl)) Q E s:=by
 obtain ⟨os,hos,hcs,hds⟩:=id hs
 have hTs:s.TypeIs (.ref sl) "slice":=⟨os,hos,hcs⟩
 unfold getItem
 try with_reducible refine wpAny_holding ?_
 first|refine wpAny_bind (wpAny_pure ?_)|skip
 refine wpAny_bind (wpAny_sequenceKey ht.typeIs (by decide) ?_)
 refine wpAny_bind (wpAny_callSpecial?_slot (name:=Str.ofString "__getitem__") ht.typeIs PyProof.Rows.slot_tuple_getitem
  (wpAny_call_entry PyProof.Rows.slot_tuple_getitem ht.typeIs entry_tuple_getitem ?_ (args_tuple_getitem _ _)))
 show wpAny _ _ (Builtin.Tuple.tupleItemsOf (.ref t) >>= _) _ _ s
 refine wpAny_bind (tupleItemsOf_ ht ?_)
 refine wpAny_bind (wpAny_typeOf hTs ?_)
 rw [if_pos (by decide)]
 refine wpAny_bind (HT.sliceApplied_gen hs pl pu ?_)
 have hyes:((((HT.sIx items.size 0 lo:Nat):Int) == 0 && (1:Int) == 1 && (HT.sIx items.size items.size hi-HT.sIx items.size 0 lo) == items.size)=true):=by
  rw [hw.1,hw.2]
  simp
 show wpAny _ _ (if (((HT.sIx items.size 0 lo:Nat):Int) == 0 && (1:Int) == 1 && (HT.sIx items.size items.size hi-HT.sIx items.size 0 lo) == items.size)=true then _ else _) _ _ s
 rw [if_pos hyes]
 unfold Builtin.Tuple.tupleIsExact
 refine wpAny_bind (wpAny_bind (wpAny_typeOf ht.typeIs (wpAny_pure ?_)))
 rw [if_pos (by simp)]
 exact wpAny_bind (wpAny_rule (wpAny_pure ⟨_,rfl,wpAny_pure h⟩))
noncomputable def Hg (K:PySem.W.Frag):V→Option Int→Option Int→Hp→VK→Prop:=fun x' lo hi H Q=>∃m st x,RH K m H st∧R K m H x x'∧slW x lo hi st (post K m H Q)
theorem t_ {ys:List V} {lo hi:Option Int} (h:HT.sIx ys.length 0 lo=0∧HT.sIx ys.length ys.length hi=ys.length):nH ys lo hi=ys:=by
 unfold nH
 rw [h.1,h.2,List.drop_zero,Nat.sub_zero,List.take_length]
theorem wb {v:Value} {p:Option Int} (h:IsPart v p):∃q:Option (Int × Tok),v=partValue q∧q.map (·.1)=p:=by
 cases h with
 | none=>exact ⟨none,rfl,rfl⟩
 | int i t=>exact ⟨some (i,t),rfl,rfl⟩
theorem B6 {z:Str} {t:Tok} {l u:Option (Int × Tok)} {lo hi:Option Int} {Q:Value→Shared→Prop} {s:Shared} (e:(l.map (·.1),u.map (·.1))=(lo,hi)) (h1:z.length≤100000) (h:∀tk t',Q (.str (CD z lo hi) t') { s with toks:=tk }):(sliceMade z t l u none).post Q s:=by
 cases e
 unfold sliceMade
 have h:∀tk t',Q (.str (if ((slicePicked z l u none).length == z.length)=true then z else ⟨((slicePicked z l u none).filterMap (z.cps[·]?)).toArray⟩) t') { s with toks:=tk }:=h
 cases q:((slicePicked z l u none).length == z.length) with
 | true =>
  rw [q] at h
  exact h s.toks t
 | false =>
  rw [q] at h
  refine ⟨?_,h _ _⟩
  show ((slicePicked z l u none).filterMap (z.cps[·]?)).toArray.size≤sizeLine
  rw [List.size_toArray]
  refine Nat.le_trans (List.length_filterMap_le _ _) (Nat.le_trans ?_ (ft h1))
  refine sliceRange_length_le _ _ _ _ (fun _=>?_) fun z=>absurd (show (1:Int) > 0 by decide) z
  cases l <;> cases u <;> constructor <;> simp only [Option.map,Option.getD,show (1:Int) > 0 by decide,if_true] <;> first|omega|(split <;> omega)
theorem Hl:SlR X (Hg X.K):=by
 intro pins s σ H x' v vl vu lo hi sl Q I rx hs pl pu h
 obtain ⟨m,st,x,rh,hx,w⟩:=h
 unfold slW at w
 split at w
 ·rename_i z
  rw [R_str] at hx
  subst hx
  obtain ⟨t,rfl⟩:=rx
  obtain ⟨h1,w⟩:=w
  obtain ⟨l,el,pl'⟩:=wb pl
  obtain ⟨u,eu,pu'⟩:=wb pu
  subst el eu
  refine ⟨"str",_,PyProof.Rows.slot_str_getitem.lookup,typeIs_str _ _ _,?_⟩
  refine wpAny_getItem_str_slice (l:=l) (u:=u) (st:=none) hs rfl (B6 ?_ h1 fun tk t'=>⟨.str (CD z lo hi),H,I.tok tk,⟨t',rfl⟩,w.here rh (R_str.mpr rfl)⟩)
  rw [pl',pu']
 ·rw [R_tup] at hx
  obtain ⟨a,ys,rfl,g,r⟩:=hx
  by_cases hw:HT.sIx ys.length 0 lo=0∧HT.sIx ys.length ys.length hi=ys.length
  ·cases rx
   obtain ⟨its,r',ht,hz⟩:=I.tuple g
   have hlen:its.toArray.size=ys.length:=by rw [List.size_toArray];exact r'.length.symm
   refine ⟨"tuple",_,PyProof.Rows.slot_tuple_getitem.lookup,ht.typeIs,iK ht hs pl pu (by rw [hlen];exact hw) ?_⟩
   refine ⟨.ref a,H,I,rfl,w.here rh (R_tup.mpr ⟨a,ys,rfl,g,?_⟩)⟩
   have:=r.cut lo hi
   rw [t_ hw] at this
   exact this
  ·exact E5 pins s σ H _ v vl vu lo hi sl Q I rx hs pl pu ⟨a,ys,rfl,g,hw,fun p hp=>w.newT rh (r.cut lo hi) hp⟩
 ·obtain ⟨xs,h1,w⟩:=w
  obtain ⟨a,ys,rfl,g,r⟩:=fH rh hx h1
  exact B' pins s σ H _ v vl vu lo hi sl Q I rx hs pl pu ⟨a,ys,rfl,g,fun p hp=>w.newL rh (r.cut lo hi) hp⟩
theorem Rs.one' {K:PySem.W.Frag} {m:List Addr} {H:Hp} {x:PV} {ys:List V} (h:Rs K m H [x] ys):∃y,ys=[y]∧R K m H x y:=by
 rw [bv] at h
 obtain ⟨y,r,rfl,h1,h2⟩:=h
 rw [Rs_nil] at h2
 subst h2
 exact ⟨y,rfl,h1⟩
theorem Rs.two' {K:PySem.W.Frag} {m:List Addr} {H:Hp} {x z:PV} {ys:List V} (h:Rs K m H [x,z] ys):∃y u,ys=[y,u]∧R K m H x y∧R K m H z u:=by
 rw [bv] at h
 obtain ⟨y,r,rfl,h1,h2⟩:=h
 obtain ⟨u,rfl,h3⟩:=h2.one'
 exact ⟨y,u,rfl,h1,h3⟩
noncomputable def GM:B→Value
 | .len=>.builtin "len"
 | .max2=>.builtin "max"
 | .min2=>.builtin "min"
 | .divmod=>.builtin "divmod"
 | .int1=>.type "int"
 | .str1=>.type "str"
 | .tuple1=>.type "tuple"
 | .list1=>.type "list"
 | .all1=>.builtin "all"
 | .any1=>.builtin "any"
 | .abs1=>.builtin "abs"
 | .sorted1=>.builtin "sorted"
 | .repr1=>.builtin "repr"
theorem F5 (hc:X.calm=true) (hgd:X.A.guards=some []) (hun:X.A.units+64<cLine) (b:B):gq X (GM b) (He X.K (fU b)):=by
 intro pins s σ H xs' us Q I r h
 obtain ⟨m,st,xs,rh,hx,w⟩:=h
 cases b with
 | len =>
  obtain ⟨x0,rfl,w⟩:=dO w
  obtain ⟨y,rfl,hy⟩:=hx.one'
  rcases rD w with ⟨z,rfl,h1,w⟩|⟨ys,h1,w⟩
  ·rw [R_str] at hy;subst hy
   exact pS pins s σ H _ us Q I r ⟨_,rfl,ft h1,w.here rh (R_int.mpr rfl)⟩
  obtain ⟨a,zs,rfl,g,rz⟩:=jj rh hy h1
  refine qN pins s σ H _ us Q I r ⟨a,zs,rfl,g,?_⟩
  have:=w.here rh (x:=V.int ys.length) (R_int.mpr rfl)
  rw [rz.len] at this
  exact this
 | max2 =>
  obtain ⟨x0,y0,rfl,w⟩:=jp w
  obtain ⟨i,j,rfl,rfl,w⟩:=cW w
  obtain ⟨y,u,rfl,hy,hu⟩:=hx.two'
  rw [R_int] at hy hu;subst hy hu
  exact xZ hc pins s σ H _ us Q I r ⟨_,_,rfl,w.here rh (R_int.mpr rfl)⟩
 | min2=>exact False.elim w
 | divmod =>
  obtain ⟨x0,y0,rfl,w⟩:=jp w
  obtain ⟨i,j,rfl,rfl,w⟩:=cW w
  obtain ⟨y,u,rfl,hy,hu⟩:=hx.two'
  rw [R_int] at hy hu;subst hy hu
  refine qt pins s σ H _ us Q I r ⟨_,_,rfl,w.1,fun p hp=>w.2.newT rh ?_ hp⟩
  rw [Rs_cons',Rs_cons',Rs_nil,R_int,R_int]
  exact ⟨rfl,rfl,rfl⟩
 | int1=>exact False.elim w
 | str1=>exact False.elim w
 | tuple1 =>
  obtain ⟨x0,rfl,w⟩:=dO w
  obtain ⟨ys,h1,w⟩:=w
  obtain ⟨y,rfl,hy⟩:=hx.one'
  obtain ⟨a,zs,rfl,g,rz⟩:=jj rh hy h1
  refine nJ pins s σ H _ us Q I r ⟨a,zs,rfl,?_⟩
  rcases g with g|g
  ·exact .inl ⟨g,fun p hp=>w.newT rh rz hp⟩
  ·exact .inr ⟨g,w.here rh (R_tup.mpr ⟨a,zs,rfl,g,rz⟩)⟩
 | list1=>exact False.elim w
 | all1=>exact False.elim w
 | any1=>exact False.elim w
 | abs1 =>
  obtain ⟨x0,rfl,w⟩:=dO w
  obtain ⟨i,rfl,w⟩:=wl w
  obtain ⟨y,rfl,hy⟩:=hx.one'
  rw [R_int] at hy;subst hy
  refine BC pins s σ H _ us Q I r ⟨_,rfl,?_⟩
  have:=w.here rh (R_int.mpr rfl)
  have e:(if i<0 then -i else i)=(i.natAbs:Int):=by split <;> omega
  rw [e]
  exact this
 | sorted1=>exact False.elim w
 | repr1=>exact False.elim w
theorem xR {st:AH} {x:PV} {n:String} (h:eK st x=some n):n∈["NoneType","bool","int","str","list","tuple","dict"]:=by
 cases x with
 | ref k =>
  unfold eK at h
  simp only at h
  split at h <;> cases h <;> decide
 | _=>cases h <;> decide
theorem Dt {pins:List (Addr × Obj)} {s:Shared} {σ:L2.St} {H:Hp} {A:Around} {E:Value→Shared→Prop} {K:PySem.W.Frag} {m:List Addr} {st:AH} {x:PV} {x':V} {u:Value} {n c:String} {Q:Value→Shared→Prop} (I:Inv X pins σ H s) (rh:RH X.K m H st) (hx:R X.K m H x x')
  (ru:RelV x' u) (hk:eK st x=some n) (hc:c∈["int","bool","str","tuple","list","dict"]) (h:∀tk,Q (.bool (gF c n)) { s with toks:=tk }) :
  wpAny (model X.prog X.w) A (call (.builtin "isinstance") [u,.type c]) Q E s:=by
 have e:=A9 X.K c hc n (xR hk)
 cases x with
 | non=>cases hk;rw [R_non] at hx;subst hx;exact eh I ru .non e h
 | bl b=>cases hk;rw [R_bl] at hx;subst hx;exact eh I ru (.bl b) e h
 | fn b=>cases hk
 | int b=>cases hk;rw [R_int] at hx;subst hx;exact eh I ru (.int b) e h
 | str b=>cases hk;rw [R_str] at hx;subst hx;exact eh I ru (.str b) e h
 | tup xs =>
  cases hk
  rw [R_tup] at hx
  obtain ⟨a,ys,rfl,g,r⟩:=hx
  cases ru
  obtain ⟨its,_,⟨o,ho,hcl,_⟩,_⟩:=I.tuple g
  exact PySem.W.kia_one PySem.W.kitx_tuple I.kIn ⟨o,ho,hcl⟩ e (fun z=>nomatch z) h
 | rdl xs =>
  cases hk
  rw [fh] at hx
  obtain ⟨a,ys,rfl,g,r⟩:=hx
  cases ru
  obtain ⟨its,_,pl,_⟩:=I.list g.sq
  obtain ⟨o,ho,hcl,_⟩:=pl.isList
  exact PySem.W.kia_one PySem.W.kitx_list I.kIn ⟨o,ho,hcl⟩ e (fun z=>nomatch z) h
 | ref k =>
  unfold eK at hk
  simp only at hk
  split at hk
  ·cases hk
   rename_i q
   obtain ⟨a,ys,rfl,_,h1,h2⟩:=rh.lst q hx
   exact eh I ru (.lst h1) e h
  ·cases hk
   rename_i kvs q
   rw [iL] at hx
   obtain ⟨a,e1,rfl⟩:=hx
   obtain ⟨ys,h1,_⟩:=rh.at_ k _ a q e1
   exact eh I ru (.dK h1) e h
  ·cases hk
noncomputable def wk:M→String
 | .append=>"list.append"
 | .pop0=>"list.pop"
 | .extend=>"list.extend"
 | .insert=>"list.insert"
 | .count=>"list.count"
noncomputable def HB (K:PySem.W.Frag) (w:PV→List PV→AH→EK→Prop):V→List V→Hp→VK→Prop:=fun x' xs' H Q=>∃m st x xs,RH K m H st∧R K m H x x'∧Rs K m H xs xs'∧w x xs st (post K m H Q)
theorem EQ (c:M):MtR X (wk c) (HB X.K (rN c)):=by
 intro pins s σ H x' vs' v us Q I rx rv h
 obtain ⟨m,st,x,vs,rh,hx,hv,w⟩:=h
 cases c with
 | append =>
  obtain ⟨n0,rfl,w⟩:=lI w
  obtain ⟨x0,rfl,w⟩:=dO w
  obtain ⟨xs,h1,h2,w⟩:=w
  obtain ⟨a,ys,rfl,e,g,r⟩:=rh.lst h1 hx
  obtain ⟨y,rfl,hy⟩:=hv.one'
  exact oY pins s σ H _ _ v us Q I rx rv ⟨a,ys,y,rfl,rfl,g,by rw [←r.len];exact vU h2,w.setL rh e (r.app (.one hy)) (R_non.mpr rfl)⟩
 | pop0 =>
  obtain ⟨n0,rfl,w⟩:=lI w
  obtain ⟨rfl,w⟩:=oU w
  obtain ⟨xs,z,h1,h2,w⟩:=w
  obtain ⟨a,ys,rfl,e,g,r⟩:=rh.lst h1 hx
  rw [Rs_nil] at hv;subst hv
  obtain ⟨y,e2,ry⟩:=r.get h2
  rw [r.len] at e2
  exact Ea pins s σ H _ _ v us Q I rx rv ⟨a,ys,y,rfl,rfl,g,e2,w.setL rh e r.dropLast ry⟩
 | count=>exact False.elim w
 | extend=>exact False.elim w
 | insert=>exact False.elim w
noncomputable def IA (K:PySem.W.Frag):V→V→V→Hp→(Hp→Prop)→Prop:=fun o' i' v' H Q=>∃m st o i v,RH K m H st∧R K m H o o'∧R K m H i i'∧R K m H v v'∧qU o i v st fun st'=>∀H',Ext K m H m H'→RH K m H' st'→Q H'
theorem Ex:Gd X (IA X.K):=by
 intro pins s σ H o' i' v' ov iv u Q I ro ri rv h
 obtain ⟨m,st,o,i,v,rh,ho,hi,hv,w⟩:=h
 unfold qU at w
 split at w
 ·obtain ⟨xs,h1,q,h2,w⟩:=w
  obtain ⟨a,ys,rfl,e,g,r⟩:=rh.lst h1 ho
  rw [R_int] at hi;subst hi
  exact yg pins s σ H _ _ _ ov iv u Q I ro ri rv ⟨a,ys,_,q,rfl,rfl,g,by rw [←r.len];exact h2,w _ (Ext.set (ys:=ys) rh e) (rh.setL e (r.set hv q))⟩
 ·exact w.elim
noncomputable def II (K:PySem.W.Frag):V→Hp→(Bool→Hp→Prop)→Prop:=fun x' H Q=>∃m st x,RH K m H st∧R K m H x x'∧dY x st (postB K m H Q)
theorem oS:∀ {x':V} {H:Hp} {Q:Bool→Hp→Prop},II X.K x' H Q→∃k,ER X.K x' H k∧Q k H:=by
 intro x' H Q h
 obtain ⟨m,st,x,rh,hx,w⟩:=h
 unfold dY at w
 split at w
 ·rw [R_bl] at hx;subst hx;exact ⟨_,rfl,w m H (Ext.refl _ _ _) rh⟩
 ·rw [R_non] at hx;subst hx;exact ⟨_,rfl,w m H (Ext.refl _ _ _) rh⟩
 ·rw [R_int] at hx;subst hx;exact ⟨_,rfl,w m H (Ext.refl _ _ _) rh⟩
 ·exact w.elim
 ·obtain ⟨xs,h1,w⟩:=w
  obtain ⟨a,ys,rfl,g,r⟩:=jj rh hx h1
  have e:(!xs.isEmpty)=!ys.isEmpty:=by
   have:=r.len
   cases xs <;> cases ys <;> first|rfl|(simp at this)
  refine ⟨_,?_,w m H (Ext.refl _ _ _) rh⟩
  rw [e]
  rcases g with g|g
  ·exact .inl ⟨ys,g,rfl⟩
  ·exact .inr (.inl ⟨ys,g,rfl⟩)
theorem Ft (op:Operator):PIp X op (Dn X.K (nC op)):=by
 intro pins s σ H x' y' v u Q I rx ry h
 obtain ⟨m,st,x,y,rh,hx,hy,w⟩:=h
 unfold nC at w
 split at w
 ·rw [R_int] at hx hy;subst hx hy
  exact EH pins s σ H _ _ v u Q I rx ry ⟨_,_,rfl,rfl,w.here rh (R_int.mpr rfl)⟩
 ·rw [R_int] at hx hy;subst hx hy
  exact FU pins s σ H _ _ v u Q I rx ry ⟨_,_,rfl,rfl,w.here rh (R_int.mpr rfl)⟩
 ·obtain ⟨xs,zs,h1,h2,h3,w⟩:=w
  obtain ⟨a,ys,rfl,e,g,r⟩:=rh.lst h1 hx
  obtain ⟨b,ys2,rfl,e2,g2,r2⟩:=rh.lst h2 hy
  exact Ee pins s σ H _ _ v u Q I rx ry ⟨a,b,ys,ys2,rfl,rfl,g,g2,by rw [←r.len,←r2.len];exact ft h3,w.setL rh e (r.app r2) hx⟩
 ·exact w.elim
end
end FW
set_option Elab.async false
set_option linter.all false
set_option maxRecDepth 100000
set_option maxHeartbeats 1000000
namespace FW
open PySem PySem.Spec PyProof.Rows L2 HX
mutual
noncomputable def PV.same:PV→PV→Bool
 | .non,y=>match y with | .non=>true|_=>false
 | .bl a,y=>match y with | .bl b=>a == b|_=>false
 | .int a,y=>match y with | .int b=>a == b|_=>false
 | .str a,y=>match y with | .str b=>a == b|_=>false
 | .tup xs,y=>match y with | .tup ys=>PV.sames xs ys|_=>false
 | .ref a,y=>match y with | .ref b=>a == b|_=>false
 | .rdl xs,y=>match y with | .rdl ys=>PV.sames xs ys|_=>false
 | .fn a,y=>match y with | .fn b=>a == b|_=>false
noncomputable def PV.sames:List PV→List PV→Bool
 | [],y=>y.isEmpty
 | x::xs,y=>match y with|y::ys=>x.same y && PV.sames xs ys | []=>false
end
mutual
theorem PV.same_eq:∀ {x y:PV},x.same y=true→x=y
 | .non,y,h=>by cases y with|non=>rfl|_=>exact Bool.noConfusion (show false=true from h)
 | .bl a,y,h=>by cases y with|bl b=>rw [eq_of_beq (show (a == b)=true from h)] | _=>exact Bool.noConfusion (show false=true from h)
 | .int a,y,h=>by cases y with|int b=>rw [eq_of_beq (show (a == b)=true from h)] | _=>exact Bool.noConfusion (show false=true from h)
 | .str a,y,h=>by cases y with|str b=>rw [eq_of_beq (show (a == b)=true from h)] | _=>exact Bool.noConfusion (show false=true from h)
 | .ref a,y,h=>by cases y with|ref b=>rw [eq_of_beq (show (a == b)=true from h)] | _=>exact Bool.noConfusion (show false=true from h)
 | .tup xs,y,h=>by cases y with|tup ys=>rw [PV.sames_eq (show PV.sames xs ys=true from h)] | _=>exact Bool.noConfusion (show false=true from h)
 | .rdl xs,y,h=>by cases y with|rdl ys=>rw [PV.sames_eq (show PV.sames xs ys=true from h)] | _=>exact Bool.noConfusion (show false=true from h)
 | .fn a,y,h=>by cases y with|fn b=>rw [eq_of_beq (show (a == b)=true from h)] | _=>exact Bool.noConfusion (show false=true from h)
theorem PV.sames_eq:∀ {x y:List PV},PV.sames x y=true→x=y
 | [],y,h=>by cases y with|nil=>rfl|cons a b=>exact Bool.noConfusion (show false=true from h)
 | x::xs,y,h=>by
  cases y with
  | nil=>exact Bool.noConfusion (show false=true from h)
  | cons y ys =>
   have h:=(Bool.and_eq_true _ _).mp (show (x.same y && PV.sames xs ys)=true from h)
   rw [PV.same_eq h.1,PV.sames_eq h.2]
end
structure Cfg where
 N:List Str
 names:List (Str × NameKind)
 fns:List Str
 lim:Nat
 blts:List Str
 gl:List (Str × PV)
 pc:Bool:=false
 hm:Option Nat:=none
noncomputable def Cfg.vis (c:Cfg) (x:Str):Bool:=(c.names.lookup x == some .local || c.names.lookup x == some .cell || c.names.lookup x == some .free) && !(x == ("__debug__":Str)) && !(x == ("__classdict__":Str))
noncomputable def Cfg.loc (c:Cfg) (x:Str):Bool:=c.names.lookup x == some .local || c.names.lookup x == some .cell
noncomputable def Cfg.glb (c:Cfg) (x:Str):Bool:=c.names.lookup x == some .globalImplicit && !(x == ("__debug__":Str)) && !(x == ("__name__":Str))
noncomputable def Cfg.blt (c:Cfg) (x:Str):Bool:=c.glb x && c.blts.contains x
noncomputable def Cfg.fn (c:Cfg) (f:Nat) (x:Str):Bool:=c.fns[f]? == some x && decide (f<c.lim) && c.glb x
noncomputable def lG:B→Str
 | .len=>"len"
 | .max2=>"max"
 | .min2=>"min"
 | .divmod=>"divmod"
 | .int1=>"int"
 | .str1=>"str"
 | .tuple1=>"tuple"
 | .list1=>"list"
 | .all1=>"all"
 | .any1=>"any"
 | .abs1=>"abs"
 | .sorted1=>"sorted"
 | .repr1=>"repr"
noncomputable def p9:M→Str
 | .append=>"append"
 | .pop0=>"pop"
 | .extend=>"extend"
 | .insert=>"insert"
 | .count=>"count"
noncomputable def kinds:List String:=["int","bool","str","tuple","list","dict"]
noncomputable def mW:Expr→Bool
 | .ListComp ..=>false
 | .SetComp ..=>false
 | .DictComp ..=>false
 | _=>true
noncomputable def vJ:Expr→Bool
 | .Name ..=>true
 | .Call ..=>true
 | .Subscript ..=>true
 | _=>false
mutual
noncomputable def Tg.low (n:Nat):Tg→Bool
 | .name i=>decide (i<n)
 | .tup ts=>Tgs.low n ts
 | .ltup ts=>Tgs.low n ts
 | .sub _ _=>false
noncomputable def Tgs.low (n:Nat):Tgs→Bool
 | .nil=>true
 | .cons t ts=>Tg.low n t && Tgs.low n ts
end
noncomputable def mQ:Expr→Bool
 | .Set ..=>false
 | _=>true
noncomputable def Cfg.inner (c:Cfg) (nt:List Str) (caps:List Nat) (sc:Scope):Cfg:={ c with N:=nt++caps.filterMap (c.N[·]?),names:=sc.names,pc:=false,hm:=none }
noncomputable def yb (k:Option NameKind):Bool:=k == some .cell || k == some .free
noncomputable def Cfg.block (c:Cfg) (nt:List Str) (caps:List Nat) (sc:Scope):Bool :=
 sc.kind == .function && sc.names.all (fun y=>!(y.2 == .cell)) && sc.names.all (fun y=>!(y.2 == .local) || sc.names.lookup y.1 == some .local) && sc.names.all (fun y=>!(y.2 == .free) || yb (c.names.lookup y.1))
  && caps.all (fun i=>decide (i<c.N.length)) && (caps.filterMap (c.N[·]?)).all (fun x=>sc.names.lookup x == some .free && yb (c.names.lookup x)) && decide (nt++caps.filterMap (c.N[·]?)).Nodup
noncomputable def A6:It→Expr→Bool
 | .zip _ _,.Tuple ..=>true
 | .zip _ _,_=>false
 | .zip3 _ _ _,.Tuple ..=>true
 | .zip3 _ _ _,_=>false
 | .enum _,.Tuple ..=>true
 | .enum _,_=>false
 | .seq _,_ | .range1 _,_ | .range2 _ _,_ | .chars _,_ | .range3 _ _ _,_=>true
noncomputable def qr:Expr→Bool
 | .Name ..=>true
 | .List ..=>true
 | .Subscript ..=>true
 | _=>false
noncomputable def aN (x:Expr) (f:Str→Pos→Bool):Bool:=match x with | .Name y p=>f y p|_=>false
theorem am {x:Expr} {f:Str→Pos→Bool} (h:aN x f=true):∃y p,x=.Name y p∧f y p=true:=by
 cases x with|Name y p=>exact ⟨y,p,rfl,h⟩|_=>exact Bool.noConfusion h
noncomputable def vZ (x:Expr) (f:Int→Bool):Bool:=match x with | .Constant (.int j) _ _=>f j|_=>false
theorem xP {x:Expr} {f:Int→Bool} (h:vZ x f=true):∃j k p,x=.Constant (.int j) k p∧f j=true:=by
 cases x with
 | Constant v k p=>cases v with|int j=>exact ⟨j,k,p,rfl,h⟩|_=>exact Bool.noConfusion h
 | _=>exact Bool.noConfusion h
noncomputable def G_ (x:Expr) (f:Bool→Bool):Bool:=match x with | .Constant (.bool j) _ _=>f j|_=>false
theorem ym {x:Expr} {f:Bool→Bool} (h:G_ x f=true):∃j k p,x=.Constant (.bool j) k p∧f j=true:=by
 cases x with
 | Constant v k p=>cases v with|bool j=>exact ⟨j,k,p,rfl,h⟩|_=>exact Bool.noConfusion h
 | _=>exact Bool.noConfusion h
noncomputable def sL (x:Expr) (f:Str→Bool):Bool:=match x with | .Constant (.str j) _ _=>f j|_=>false
theorem xc {x:Expr} {f:Str→Bool} (h:sL x f=true):∃j k p,x=.Constant (.str j) k p∧f j=true:=by
 cases x with
 | Constant v k p=>cases v with|str j=>exact ⟨j,k,p,rfl,h⟩|_=>exact Bool.noConfusion h
 | _=>exact Bool.noConfusion h
noncomputable def D2 (x:Expr):Bool:=match x with | .Constant .none _ _=>true|_=>false
theorem xH {x:Expr} (h:D2 x=true):∃k p,x=.Constant .none k p:=by
 cases x with
 | Constant v k p=>cases v with|none=>exact ⟨k,p,rfl⟩|_=>exact Bool.noConfusion h
 | _=>exact Bool.noConfusion h
noncomputable def eW (x:Expr) (f:List Expr→Bool):Bool:=match x with | .Tuple xs _ _=>f xs|_=>false
theorem bF {x:Expr} {f:List Expr→Bool} (h:eW x f=true):∃xs k p,x=.Tuple xs k p∧f xs=true:=by
 cases x with|Tuple xs k p=>exact ⟨xs,k,p,rfl,h⟩|_=>exact Bool.noConfusion h
noncomputable def BJ (x:Expr) (f:List Expr→Bool):Bool:=match x with | .List xs _=>f xs|_=>false
theorem t6 {x:Expr} {f:List Expr→Bool} (h:BJ x f=true):∃xs p,x=.List xs p∧f xs=true:=by
 cases x with|List xs p=>exact ⟨xs,p,rfl,h⟩|_=>exact Bool.noConfusion h
noncomputable def on1 {α:Type} (xs:List α) (f:α→Bool):Bool:=match xs with | [a]=>f a|_=>false
theorem dC {α:Type} {xs:List α} {f:α→Bool} (h:on1 xs f=true):∃a,xs=[a]∧f a=true:=by
 cases xs with
 | nil=>exact Bool.noConfusion h
 | cons a t=>cases t with|nil=>exact ⟨a,rfl,h⟩|cons _ _=>exact Bool.noConfusion h
noncomputable def on2 {α:Type} (xs:List α) (f:α→α→Bool):Bool:=match xs with | [a,b]=>f a b|_=>false
theorem gf {α:Type} {xs:List α} {f:α→α→Bool} (h:on2 xs f=true):∃a b,xs=[a,b]∧f a b=true:=by
 cases xs with
 | nil=>exact Bool.noConfusion h
 | cons a t=>cases t with
  | nil=>exact Bool.noConfusion h
  | cons b t=>cases t with|nil=>exact ⟨a,b,rfl,h⟩|cons _ _=>exact Bool.noConfusion h
noncomputable def on3 {α:Type} (xs:List α) (f:α→α→α→Bool):Bool:=match xs with | [a,b,c]=>f a b c|_=>false
theorem DC {α:Type} {xs:List α} {f:α→α→α→Bool} (h:on3 xs f=true):∃a b c,xs=[a,b,c]∧f a b c=true:=by
 cases xs with
 | nil=>exact Bool.noConfusion h
 | cons a t=>cases t with
  | nil=>exact Bool.noConfusion h
  | cons b t=>cases t with
   | nil=>exact Bool.noConfusion h
   | cons c t=>cases t with|nil=>exact ⟨a,b,c,rfl,h⟩|cons _ _=>exact Bool.noConfusion h
noncomputable def lQ {α:Type} (xs:List α) (f:α→List α→Bool):Bool:=match xs with|a::t=>f a t | []=>false
theorem aR {α:Type} {xs:List α} {f:α→List α→Bool} (h:lQ xs f=true):∃a t,xs=a::t∧f a t=true:=by
 cases xs with
 | nil=>exact Bool.noConfusion h
 | cons a t=>exact ⟨a,t,rfl,h⟩
noncomputable def kL {α:Type} (x:Option α) (f:α→Bool):Bool:=match x with|some a=>f a|none=>false
theorem gi {α:Type} {x:Option α} {f:α→Bool} (h:kL x f=true):∃a,x=some a∧f a=true:=by
 cases x with
 | none=>exact Bool.noConfusion h
 | some a=>exact ⟨a,rfl,h⟩
noncomputable def BP (x:Expr) (f:List (Option Expr)→List Expr→Bool):Bool:=match x with | .Dict ks vs _=>f ks vs|_=>false
noncomputable def DT (x:Expr) (f:Expr→Operator→Expr→Bool):Bool:=match x with | .BinOp l o r _=>f l o r|_=>false
theorem xb {x:Expr} {f:Expr→Operator→Expr→Bool} (h:DT x f=true):∃l o r p,x=.BinOp l o r p∧f l o r=true:=by
 cases x with|BinOp l o r p=>exact ⟨l,o,r,p,rfl,h⟩|_=>exact Bool.noConfusion h
noncomputable def yp (x:Expr) (f:Expr→Bool):Bool:=match x with | .UnaryOp .USub y _=>f y|_=>false
theorem xO {x:Expr} {f:Expr→Bool} (h:yp x f=true):∃y p,x=.UnaryOp .USub y p∧f y=true:=by
 cases x with
 | UnaryOp o y p=>cases o with|USub=>exact ⟨y,p,rfl,h⟩|_=>exact Bool.noConfusion h
 | _=>exact Bool.noConfusion h
noncomputable def A8 (x:Expr) (f:Expr→Bool):Bool:=match x with | .UnaryOp .Not y _=>f y|_=>false
theorem ol {x:Expr} {f:Expr→Bool} (h:A8 x f=true):∃y p,x=.UnaryOp .Not y p∧f y=true:=by
 cases x with
 | UnaryOp o y p=>cases o with|Not=>exact ⟨y,p,rfl,h⟩|_=>exact Bool.noConfusion h
 | _=>exact Bool.noConfusion h
noncomputable def zX (x:Expr) (f:Expr→CmpOp→Expr→Bool):Bool:=match x with | .Compare l os rs _=>on1 os fun o=>on1 rs fun r=>f l o r|_=>false
theorem oo {x:Expr} {f:Expr→CmpOp→Expr→Bool} (h:zX x f=true):∃l o r p,x=.Compare l [o] [r] p∧f l o r=true:=by
 cases x with
 | Compare l os rs p =>
  obtain ⟨o,rfl,h⟩:=dC h
  obtain ⟨r,rfl,h⟩:=dC h
  exact ⟨l,o,r,p,rfl,h⟩
 | _=>exact Bool.noConfusion h
noncomputable def A1 (x:Expr) (f:PySem.BoolOp→List Expr→Bool):Bool:=match x with | .BoolOp o xs _=>f o xs|_=>false
theorem ii {x:Expr} {f:PySem.BoolOp→List Expr→Bool} (h:A1 x f=true):∃o xs p,x=.BoolOp o xs p∧f o xs=true:=by
 cases x with|BoolOp o xs p=>exact ⟨o,xs,p,rfl,h⟩|_=>exact Bool.noConfusion h
noncomputable def DY (x:Expr) (f:Expr→Expr→Expr→Bool):Bool:=match x with | .IfExp y l r _=>f y l r|_=>false
theorem xn {x:Expr} {f:Expr→Expr→Expr→Bool} (h:DY x f=true):∃y l r p,x=.IfExp y l r p∧f y l r=true:=by
 cases x with|IfExp y l r p=>exact ⟨y,l,r,p,rfl,h⟩|_=>exact Bool.noConfusion h
noncomputable def oi (x:Expr) (f:Expr→Expr→Bool):Bool:=match x with | .Subscript l r _=>f l r|_=>false
theorem fQ {x:Expr} {f:Expr→Expr→Bool} (h:oi x f=true):∃l r p,x=.Subscript l r p∧f l r=true:=by
 cases x with|Subscript l r p=>exact ⟨l,r,p,rfl,h⟩|_=>exact Bool.noConfusion h
noncomputable def wq (x:Expr) (f:Option Expr→Option Expr→Bool):Bool:=match x with | .Slice u v none _=>f u v|_=>false
theorem sy {x:Expr} {f:Option Expr→Option Expr→Bool} (h:wq x f=true):∃u v p,x=.Slice u v none p∧f u v=true:=by
 cases x with
 | Slice u v w p=>cases w with|none=>exact ⟨u,v,p,rfl,h⟩|some _=>exact Bool.noConfusion h
 | _=>exact Bool.noConfusion h
noncomputable def FD (x:Expr) (f:Expr→Bool):Bool:=match x with | .Slice none none (some z) _=>f z|_=>false
noncomputable def bV (x:Expr) (f:Expr→List Expr→Pos→Bool):Bool:=match x with | .Call g xs [] p=>f g xs p|_=>false
theorem aP {x:Expr} {f:Expr→List Expr→Pos→Bool} (h:bV x f=true):∃g xs p,x=.Call g xs [] p∧f g xs p=true:=by
 cases x with
 | Call g xs ks p=>cases ks with|nil=>exact ⟨g,xs,p,rfl,h⟩|cons _ _=>exact Bool.noConfusion h
 | _=>exact Bool.noConfusion h
noncomputable def qM (x:Expr) (f:Expr→Str→Pos→Bool):Bool:=match x with | .Attribute y n p=>f y n p|_=>false
theorem vw {x:Expr} {f:Expr→Str→Pos→Bool} (h:qM x f=true):∃y n p,x=.Attribute y n p∧f y n p=true:=by
 cases x with|Attribute y n p=>exact ⟨y,n,p,rfl,h⟩|_=>exact Bool.noConfusion h
noncomputable def Df (x:Expr) (f:Expr→List Comprehension→Scope→Pos→Bool):Bool:=match x with | .ListComp e gs sc p=>f e gs sc p|_=>false
theorem jC {x:Expr} {f:Expr→List Comprehension→Scope→Pos→Bool} (h:Df x f=true):∃e gs sc p,x=.ListComp e gs sc p∧f e gs sc p=true:=by
 cases x with|ListComp e gs sc p=>exact ⟨e,gs,sc,p,rfl,h⟩|_=>exact Bool.noConfusion h
theorem xk {α:Type} {x:Option α} (h:x.isNone=true):x=none:=by
 cases x with|none=>rfl|some _=>exact Bool.noConfusion h
noncomputable def D1 (x:Expr) (f:Arguments→Expr→Scope→Bool):Bool:=match x with | .Lambda a b sc _=>f a b sc|_=>false
theorem xa {x:Expr} {f:Arguments→Expr→Scope→Bool} (h:D1 x f=true):∃a b sc p,x=.Lambda a b sc p∧f a b sc=true:=by
 cases x with|Lambda a b sc p=>exact ⟨a,b,sc,p,rfl,h⟩|_=>exact Bool.noConfusion h
noncomputable def AN (x:Arguments) (f:Str→Bool):Bool:=x.posonlyargs.isEmpty && x.vararg.isNone && x.kwonlyargs.isEmpty && x.kw_defaults.isEmpty && x.kwarg.isNone && x.defaults.isEmpty && on1 x.args fun a=>f a.arg
noncomputable def Cfg.lam (c:Cfg) (k:Nat) (y:Str) (caps:List Nat) (sc:Scope):Cfg:={ c with N:=y::caps.filterMap (c.N[·]?),names:=sc.names,lim:=k,pc:=false,hm:=none }
noncomputable def Cfg.lamOk (c:Cfg) (k:Nat) (y:Str) (caps:List Nat) (sc:Scope):Bool :=
 sc.kind == .function && !sc.isCoroutine && !sc.isGenerator && sc.names.all (fun y=>!(y.2 == .cell)) && sc.names.lookup y == some .local && sc.names.all (fun y=>!(y.2 == .local) || sc.names.lookup y.1 == some .local) && sc.names.all (fun y=>!(y.2 == .free) || yb (c.names.lookup y.1))
  && decide (k+1<c.lim) && caps.all (fun i=>decide (i<c.N.length)) && (caps.filterMap (c.N[·]?)).all (fun x=>sc.names.lookup x == some .free && yb (c.names.lookup x)) && decide (y::caps.filterMap (c.N[·]?)).Nodup
mutual
noncomputable def aU (c:Cfg):E→Expr→Bool
 | .var i,x=>aN x fun y _=>c.N[i]? == some y && c.vis y
 | .int i,x=>vZ x fun j=>i == j
 | .bl i,x=>G_ x fun j=>i == j
 | .non,x=>D2 x
 | .str i,x=>sL x fun j=>i == j
 | .gv y v,x=>aN x fun z _=>z == y && c.glb y && kL (c.gl.lookup y) fun w=>w.same v
 | .tup es,x=>eW x fun xs=>fe c es xs
 | .lst es,x=>BJ x fun xs=>fe c es xs
 | .dct1 k i,x=>BP x fun ks vs=>on1 ks fun ok=>kL ok fun kx=>sL kx fun k'=>on1 vs fun vx=>vZ vx fun i'=>k == k' && i == i'
 | .dct0,x=>BP x fun ks vs=>ks.isEmpty && vs.isEmpty
 | .bin op a b,x=>DT x fun l o r=>o == op && aU c a l && aU c b r
 | .neg a,x=>yp x fun y=>aU c a y
 | .not a,x=>A8 x fun y=>aU c a y
 | .cmp op a b,x=>zX x fun l o r=>o == op && !behindInMarks o r && aU c a l && aU c b r
 | .bop k es,x=>A1 x fun o xs=>(o == if k then .And else .Or) && fe c es xs && !xs.isEmpty
 | .ite t a b,x=>DY x fun y l r=>xu c t y && aU c a l && aU c b r
 | .ix a b,x=>oi x fun l r=>jn r && aU c a l && aU c b r
 | .sl a lo hi,x=>oi x fun l r=>wq r fun u v=>aU c a l && E' c lo u && E' c hi v
 | .call f es,x=>bV x fun g xs _=>aN g fun y _=>c.fn f y && xs.all ao && fe c es xs
 | .blt b es,x=>bV x fun g xs _=>aN g fun y _=>y == lG b && c.blt y && xs.all ao && !xs.isEmpty && fe c es xs
 | .inst a t,x=>bV x fun g xs _=>aN g fun y _=>on2 xs fun l r=>aN r fun z _=>y == ("isinstance":Str) && c.blt y && ao l && z == (t:Str) && c.blt z && kinds.contains t && aU c a l
 | .met m o es,x=>bV x fun g xs cp=>qM g fun y n ap=>n == p9 m && ap.endLine == cp.line && xs.all ao && decide (xs.length≤2) && qr y && aU c o y && fe c es xs
 | .comp elt tg it ifs nt caps,x=>Df x fun ex gs sc _=>on1 gs fun g=>g.is_async == 0 && A6 it g.target && mQ g.iter && tg.low nt.length && c.block nt caps sc && Aw c it g.iter && oX (c.inner nt caps sc) tg g.target && oj (c.inner nt caps sc) ifs g.ifs && aU (c.inner nt caps sc) elt ex
 | .tmp a,x=>aU c a x
 | .bad,_=>true
 | .jrev a,x=>bV x fun g xs cp=>qM g fun y n ap=>sL y fun j=>on1 xs fun l=>oi l fun u r=>FD r fun z=>yp z fun z1=>vZ z1 fun i=>n == ("join":Str) && ap.endLine == cp.line && j == ("":Str) && i == 1 && aU c a u
 | .part a s,x=>bV x fun g xs cp=>qM g fun y n ap=>on1 xs fun l=>sL l fun j=>n == ("partition":Str) && ap.endLine == cp.line && j == s && !(s.length == 0) && qr y && aU c a y
 | .pcall i e,x=>c.pc && bV x fun g xs _=>aN g fun y _=>on1 xs fun l=>c.N[i]? == some y && c.vis y && ao l && aU c e l
 | .hm e be caps,x=>kL c.hm fun k=>bV x fun g xs _=>aN g fun y _=>on2 xs fun l r=>D1 r fun as b sc=>AN as fun z=>y == ("how_many":Str) && c.glb y && ao l && c.lamOk k z caps sc && aU c e l && aU (c.lam k z caps sc) be b
termination_by structural e=>e
noncomputable def fe (c:Cfg):Es→List Expr→Bool
 | .nil,xs=>xs.isEmpty
 | .cons e es,xs=>lQ xs fun y ys=>ao y && aU c e y && fe c es ys
termination_by structural e=>e
noncomputable def E' (c:Cfg):O→Option Expr→Bool
 | .no,x=>x.isNone
 | .yes e,x=>kL x fun y=>aU c e y
termination_by structural e=>e
noncomputable def xu (c:Cfg):E→Expr→Bool
 | .not a,x=>A8 x fun y=>xu c a y
 | .bop k es,x=>A1 x fun o xs=>(o == if k then .And else .Or) && !xs.isEmpty && oj c es xs
 | .cmp op a b,x=>zX x fun l o r=>o == op && !behindInMarks o r && aU c a l && aU c b r
 | .var i,x=>aN x fun y _=>c.N[i]? == some y && c.vis y
 | .call f es,x=>bV x fun g xs _=>aN g fun y _=>c.fn f y && xs.all ao && fe c es xs
 | .blt b es,x=>bV x fun g xs _=>aN g fun y _=>y == lG b && c.blt y && xs.all ao && !xs.isEmpty && fe c es xs
 | .inst a t,x=>bV x fun g xs _=>aN g fun y _=>on2 xs fun l r=>aN r fun z _=>y == ("isinstance":Str) && c.blt y && ao l && z == (t:Str) && c.blt z && kinds.contains t && aU c a l
 | .tmp a,x=>vJ x && aU c a x
 | .ix a b,x=>oi x fun l r=>jn r && aU c a l && aU c b r
 | .pcall i e,x=>c.pc && bV x fun g xs _=>aN g fun y _=>on1 xs fun l=>c.N[i]? == some y && c.vis y && ao l && aU c e l
 | .hm _ _ _,_ | .bl _,_ | .int _,_ | .non,_ | .str _,_ | .gv _ _,_ | .tup _,_ | .lst _,_ | .dct0,_ | .dct1 _ _,_ | .bin _ _ _,_ | .neg _,_ | .ite _ _ _,_ | .sl _ _ _,_ | .met _ _ _,_ | .comp _ _ _ _ _ _,_ | .bad,_ | .jrev _,_ | .part _ _,_=>true
termination_by structural e=>e
noncomputable def oj (c:Cfg):Es→List Expr→Bool
 | .nil,xs=>xs.isEmpty
 | .cons e es,xs=>lQ xs fun y ys=>xu c e y && oj c es ys
termination_by structural e=>e
noncomputable def Aw (c:Cfg):It→Expr→Bool
 | .seq e,x=>mQ x && aU c e x
 | .range1 a,x=>bV x fun g xs _=>aN g fun y _=>on1 xs fun l=>y == ("range":Str) && c.blt y && ao l && aU c a l
 | .range2 a b,x=>bV x fun g xs _=>aN g fun y _=>on2 xs fun l r=>y == ("range":Str) && c.blt y && ao l && ao r && aU c a l && aU c b r
 | .zip a b,x=>bV x fun g xs _=>aN g fun y _=>on2 xs fun l r=>y == ("zip":Str) && c.blt y && ao l && ao r && aU c a l && aU c b r
 | .zip3 a b d,x=>bV x fun g xs _=>aN g fun y _=>on3 xs fun l r u=>y == ("zip":Str) && c.blt y && ao l && ao r && ao u && aU c a l && aU c b r && aU c d u
 | .enum a,x=>bV x fun g xs _=>aN g fun y _=>on1 xs fun l=>y == ("enumerate":Str) && c.blt y && ao l && aU c a l
 | .chars e,x=>mQ x && aU c e x
 | .range3 a b d,x=>bV x fun g xs _=>aN g fun y _=>on3 xs fun l r u=>y == ("range":Str) && c.blt y && ao l && ao r && ao u && aU c a l && aU c b r && aU c d u
termination_by structural e=>e
noncomputable def oX (c:Cfg):Tg→Expr→Bool
 | .name i,x=>aN x fun y _=>c.N[i]? == some y && c.loc y
 | .tup ts,x=>eW x fun xs=>mf c ts xs
 | .ltup ts,x=>eW x fun xs=>mf c ts xs
 | .sub o i,x=>oi x fun l r=>jn r && aU c o l && aU c i r
termination_by structural e=>e
noncomputable def mf (c:Cfg):Tgs→List Expr→Bool
 | .nil,xs=>xs.isEmpty
 | .cons t ts,xs=>lQ xs fun y ys=>ao y && oX c t y && mf c ts ys
termination_by structural e=>e
end
end FW
set_option Elab.async false
set_option linter.all false
set_option maxRecDepth 100000
set_option maxHeartbeats 1000000
namespace FW
open PySem PySem.Spec PyProof.Rows L2 HX
noncomputable def ax (K:PySem.W.Frag) (sp:FSp):Sp:=fun vs H Q _=>∃m st as,Rs K m H as vs∧RH K m H st∧sp as st (post K m H Q)
noncomputable def D_ (P:Program) (w:World) (K:PySem.W.Frag) (mg:Str→Option Value) (base:Heap) (k:Nat) (outer:List Env) (s:Shared) (H:Hp) (a:Addr) (L:FSp):Prop :=
 ∀(A':Around) (outer':List Env) (s':Shared) (H':Hp) (u:Value) (v:V) (Q':VK),Room k A'→qc P w K mg base A' outer' s' H'→Un (frs outer) [] H H' s.heap s'.heap→RelV v u→ax K L [v] H' Q' E0 →
  PySem.W.FnAt a s'.heap∧codeAny (model P w) A' (.call (.ref a) ⟨[u],[]⟩) (CR CX0 outer' P w H' s' Q' E0) s'
noncomputable def rL (L:FSp):Prop:=∀as st Q Q',(∀v st,Q v st→Q' v st)→L as st Q→L as st Q'
noncomputable def C5 (a:Nat) (L:FSp):FSp:=fun as st Q=>∃(xs:List PV) (g:PV→Bool),as=[.tup xs,.fn a]∧xs.length≤100000∧(∀y∈xs,∀Q':EK,Q' (.bl (g y)) st→L [y] st Q')∧Q (.int (bsr g xs)) st
structure xJ (P:Program) (w:World) (K:PySem.W.Frag) (mg:Str→Option Value) (base:Heap) (k:Nat):Prop where
 ex:∃f fd,mg "how_many"=some (.ref f)∧PySem.W.keepIn K (.ref f)=true∧Binds K fd ["stair","holds"] [] ∧
  ∀(a:Addr) (L:FSp),rL L→∀(A:Around) (outer:List Env) (s:Shared) (H:Hp) (args:Args) (us:List Value) (vs:List V) (Q:VK),Room (k+1) A→qc P w K mg base A outer s H→BindsTo s fd args ((["stair","holds"]:List Str).zip us)→Vals vs us →
   D_ P w K mg base k outer s H a L→ax K (C5 a L) vs H Q E0→codeAny (model P w) A (.call (.ref f) args) (CR CX0 outer P w H s Q E0) s
structure HmX (X:Cx) (k:Nat):Prop where
 ok:xJ X.prog X.w X.K X.mg X.base (k+1)
 cd:∃x c0 T,x∈aV∧PySem.W.tabIn X.K x=some (c0,T)∧X.env.code=.ref c0∧X.env.qual=x++".<locals>."∧PySem.W.CodeHd X.base c0 T
 bm:∃bm ob,X.mg "__builtins__"=some (.ref bm)∧bm≠builtinsNs∧X.base.get? bm=some ob∧ob.cls=.type "module"∧ob.dict=some builtinsNs∧ob.data=.plain
structure COk (X:Cx) (c:Cfg) (Γ:Nat→FSp):Prop where
 calm:X.calm=true
 pass:PassesOwn (model X.prog X.w) X.A X.env X.xe
 N:X.N=c.N
 nd:c.N.Nodup
 vis:∀x,c.names.lookup x=some .local∨c.names.lookup x=some .cell∨c.names.lookup x=some .free→Vis X.env.scope x
 loc:∀x,c.names.lookup x=some .local∨c.names.lookup x=some .cell→Loc X.env.scope x∧(X.fn x=true∨X.env.scope.names.lookup x=some .local)
 lcl:∀x,c.names.lookup x=some .local→X.env.scope.names.lookup x=some .local
 glb:∀x,c.names.lookup x=some .globalImplicit→Gl X x
 bk:X.env.blockKind=.function
 cel:∀x,c.names.lookup x=some .cell∨c.names.lookup x=some .free→X.env.kindOf x=some .cell∨X.env.kindOf x=some .free
 room:Room c.lim X.A
 fn:∀f x,f<c.lim→c.fns[f]?=some x→∃ps,Has X.prog X.w X.K X.mg X.base (f+1) x ps (ax X.K (Γ f))
 blt:∀x∈c.blts,X.mg x=none
 gl:∀x v,c.gl.lookup x=some v→∃u y,X.mg x=some u∧RelV y u∧∀m H,R X.K m H v y
 mono:bM Γ
 lam:c.pc=true→∀ {pins:List (Addr × Obj)} {σ:L2.St} {H:Hp} {s:Shared} {b:Addr} {u:Value} {v:V} {Q:VK},L2.Inv X pins σ H s→RelV v u→ax X.K (Γ 1000) [.ref b,v] H Q E0 →
  PySem.W.FnAt b s.heap∧wpAny (model X.prog X.w) X.A (call (.ref b) [u]) (EP X pins σ Q) X.xe s
 hmo:∀k,c.hm=some k→HmX X k
section
variable {X:Cx} {c:Cfg} {Γ:Nat→FSp}
theorem COk.visx (C:COk X c Γ) {x:Str} (h:c.vis x=true):Vis X.env.scope x∧(x == ("__debug__":Str))=false∧(x == ("__classdict__":Str))=false:=by
 unfold Cfg.vis at h
 simp only [Bool.and_eq_true,Bool.or_eq_true,beq_iff_eq,Bool.not_eq_true'] at h
 exact ⟨C.vis x (by rcases h.1.1 with (h|h)|h <;> simp [h]),h.1.2,h.2⟩
theorem COk.glbx (C:COk X c Γ) {x:Str} (h:c.glb x=true):Gl X x∧(x == ("__debug__":Str))=false∧x≠"__name__":=by
 unfold Cfg.glb at h
 simp only [Bool.and_eq_true,beq_iff_eq,Bool.not_eq_true'] at h
 exact ⟨C.glb x h.1.1,h.1.2,fun z=>by rw [z] at h;exact absurd h.2 (by decide)⟩
theorem COk.bltx (C:COk X c Γ) {x:Str} (h:c.blt x=true):Gl X x∧(x == ("__debug__":Str))=false∧x≠"__name__"∧X.mg x=none:=by
 unfold Cfg.blt at h
 rw [Bool.and_eq_true] at h
 obtain ⟨h1,h2,h3⟩:=C.glbx h.1
 exact ⟨h1,h2,h3,C.blt x (List.contains_iff_mem.mp h.2)⟩
theorem COk.fnx (C:COk X c Γ) {f:Nat} {x:Str} (h:c.fn f x=true):Gl X x∧(x == ("__debug__":Str))=false∧Room (f+1) X.A∧∃ps,Has X.prog X.w X.K X.mg X.base (f+1) x ps (ax X.K (Γ f)):=by
 unfold Cfg.fn at h
 simp only [Bool.and_eq_true,beq_iff_eq,decide_eq_true_eq] at h
 obtain ⟨h1,h2,h3⟩:=C.glbx h.2
 exact ⟨h1,h2,C.room.mono h.1.2,C.fn f x h.1.2 h.1.1⟩
theorem Hv:∀b:B,bootBuiltins (lG b)=some (GM b):=by
 intro b
 cases b <;> decide +kernel
theorem tY:∀t∈kinds,bootBuiltins (t:Str)=some (.type t):=by decide +kernel
theorem r_:bootBuiltins ("isinstance":Str)=some (.builtin "isinstance"):=by decide +kernel
theorem uv {x:Expr} (h:vJ x=true) (env:Env):∀whole,isTrue x env whole=(do let v ←whole;standAt x.pos;holding [v] (truthy v)):=by
 cases x <;> first|(intro _;rfl)|cases h
theorem tK {K:PySem.W.Frag} {m:List Addr} {H:Hp} {as:List PV} {vs:List V} (h:Rs K m H as vs):Rs K m H as (vs++[]):=by rw [List.append_nil];exact h
theorem sK (C:COk X c Γ) {f:Nat} {y:Str} {xs:List Expr} {p pos:Pos} {es:Es} (hf:c.fn f y=true) (hn:xs.all ao=true) (hc:fe c es xs=true) (ha:PA X xs (TAx X.K (dh Γ es))) :
  PE X (.Call (.Name y p) xs [] pos) (TEx X.K fun ρ st Q=>dh Γ es ρ st fun vs st1=>Γ f vs st1 Q):=by
 obtain ⟨h1,h2,hr,ps,F⟩:=C.fnx hf
 have key:∀ {σ:L2.St} {H:Hp} {Q:VK},TEx X.K (fun ρ st Q=>dh Γ es ρ st fun vs st1=>Γ f vs st1 Q) σ H Q→oR (ax X.K (Γ f)) [] E0 (TAx X.K (dh Γ es)) σ H Q:=by
  rintro σ H Q ⟨m,ρ,st,rf,rh,w⟩
  exact ⟨m,ρ,st,rf,rh,aM C.mono es (fun vs st1 k m1 H1 xs1 e1 r1 r2=>⟨m1,st1,vs,tK r2,r1,C.mono _ _ _ _ _ (fun _ _ q=>q.ext e1) k⟩) w⟩
 intro pins s σ H Q I h
 cases xs with
 | nil =>
  refine CM F hr h1 h2 pins s σ H Q I ?_
  obtain ⟨m,ρ,st,rf,rh,w⟩:=h
  cases es with
  | nil=>exact ⟨m,st,[],Rs_nil.mpr rfl,rh,w⟩
  | cons e es=>exact Bool.noConfusion (show false=true from hc)
 | cons x xs =>
  rw [List.all_cons,Bool.and_eq_true] at hn
  exact CQ F hr ha h1 h2 hn.1 hn.2 pins s σ H Q I (key h)
theorem rF (C:COk X c Γ) {b:B} {y:Str} {xs:List Expr} {p pos:Pos} {es:Es} (hy:y=lG b) (hb:c.blt y=true) (hn:xs.all ao=true) (hne:xs.isEmpty=false) (ha:PA X xs (TAx X.K (dh Γ es))) :
  PE X (.Call (.Name y p) xs [] pos) (TEx X.K fun ρ st Q=>dh Γ es ρ st fun vs st1=>fU b vs st1 Q):=by
 obtain ⟨h1,h2,h3,h4⟩:=C.bltx hb
 have hv:=Hv b
 rw [←hy] at hv
 have key:∀ {σ:L2.St} {H:Hp} {Q:VK},TEx X.K (fun ρ st Q=>dh Γ es ρ st fun vs st1=>fU b vs st1 Q) σ H Q→tCB (He X.K (fU b)) (TAx X.K (dh Γ es)) σ H Q:=by
  rintro σ H Q ⟨m,ρ,st,rf,rh,w⟩
  exact ⟨m,ρ,st,rf,rh,aM C.mono es (fun vs st1 k m1 H1 xs1 e1 r1 r2=>⟨m1,st1,vs,r1,r2,iE (fun _ _ q=>q.ext e1) k⟩) w⟩
 have hc:=F5 C.calm C.room.gd C.room.units b
 cases xs with
 | nil=>cases hne
 | cons x xs =>
  rw [List.all_cons,Bool.and_eq_true] at hn
  intro pins s σ H Q I h
  cases b <;> first
   | exact ow hc h1 h4 hv ha h3 h2 hn.1 hn.2 pins s σ H Q I (key h)
   | exact u6 hc h1 h4 hv ha h3 h2 hn.1 hn.2 pins s σ H Q I (key h)
theorem wZ (m:M):PlainAttrs "list"∧Slot "list" (p9 m) (wk m)∧typeOf (.builtin (wk m))=pure (.type "method_descriptor"):=by
 cases m
 ·exact ⟨PySem.F.plainAttrs_list,PySem.F.slot_list_append,PySem.F.type_list_append⟩
 ·exact ⟨PySem.F.plainAttrs_list,PySem.F.slot_list_pop,PySem.F.type_list_pop⟩
 ·exact ⟨PySem.F.plainAttrs_list,PySem.F.slot_list_extend,PySem.F.type_list_extend⟩
 ·exact ⟨PySem.F.plainAttrs_list,PySem.F.slot_list_insert,PySem.F.type_list_insert⟩
 ·exact ⟨PySem.F.plainAttrs_list,PySem.F.slot_list_count,PySem.F.type_list_count⟩
theorem kA {y:Expr} (h:qr y=true) {n:Str} {env:Env} {w:Sem Value}:attributeBase y n env w=w:=by
 cases y <;> first|rfl|cases h
theorem Al (C:COk X c Γ) {m:M} {n:Str} {y:Expr} {ap cp:Pos} {xs:List Expr} {o:E} {es:Es} (hn:n=p9 m) (hl:(ap.endLine == cp.line)=true) (hs:xs.all ao=true) (h2:xs.length≤2) (hy:qr y=true) (ho:PE X y (TEx X.K (wpE Γ o))) (ha:PA X xs (TAx X.K (dh Γ es))) (hc:fe c es xs=true) :
  PE X (.Call (.Attribute y n ap) xs [] cp) (TEx X.K (wpE Γ (.met m o es))):=by
 obtain ⟨pa,slot,ty⟩:=wZ m
 rw [←hn] at slot
 have hm:MtR X (wk m) (HB X.K (rN m)):=EQ m
 intro pins s σ H Q I h
 obtain ⟨mm,ρ,st,rf,rh,w⟩:=h
 skip
 have tyv:∀ {m1:List Addr} {H1:Hp} {st1:AH} {v:PV} {x:V},RH X.K m1 H1 st1→R X.K m1 H1 v x→(∃xs,b8 st1 v=some xs)→tyV X.K "list" x H1:=by
  rintro m1 H1 st1 v x r1 r2 ⟨xs,e⟩
  obtain ⟨a,ys,rfl,g,_⟩:=fH r1 r2 e
  exact .inl ⟨rfl,ys,g⟩
 match xs,hs,h2,ha,hc with
 | [],hs,h2,ha,hc =>
  refine EN pa slot ty hm ho (kA hy) hl pins s σ H Q I ?_
  refine ⟨mm,ρ,st,rf,rh,ac C.mono o (fun v st1 k m1 H1 x1 e1 r1 r2=>⟨tyv r1 r2 k.1,?_⟩) w⟩
  cases es with
  | nil =>
   have k2:=k.2
   skip
   exact ⟨m1,st1,v,[],r1,r2,Rs_nil.mpr rfl,ir (fun _ _ q=>q.ext e1) k2⟩
  | cons e es=>exact Bool.noConfusion (show false=true from hc)
 | [a],hs,h2,ha,hc =>
  simp only [List.all_cons,List.all_nil,Bool.and_true] at hs
  have st1:starEach [a] X.env=[(false,eval a X.env)]:=aS hs
  refine DH pa slot ty hm ho ha (kA hy) (by rw [st1];rfl) hl st1 rfl pins s σ H Q I ?_
  refine ⟨mm,ρ,st,rf,rh,ac C.mono o (fun v st1 k m1 H1 x1 e1 r1 r2=>⟨tyv r1 r2 k.1,?_⟩) w⟩
  exact ⟨m1,ρ,st1,rf.mono e1,r1,aM C.mono es (fun vs st2 k m2 H2 xs2 e2 r3 r4=>⟨m2,st2,v,vs,r3,r2.mono e2,r4,ir (fun _ _ q=>q.ext (e1.trans e2)) k⟩) k.2⟩
 | [a,b],hs,h2,ha,hc =>
  simp only [List.all_cons,List.all_nil,Bool.and_true,Bool.and_eq_true] at hs
  have stb:starEach [b] X.env=[(false,eval b X.env)]:=aS hs.2
  have st1:starEach [a,b] X.env=(false,eval a X.env)::starEach [b] X.env:=aS hs.1
  refine DH pa slot ty hm ho ha (kA hy) (by rw [st1,stb];rfl) hl st1 (by rw [stb];rfl) pins s σ H Q I ?_
  refine ⟨mm,ρ,st,rf,rh,ac C.mono o (fun v st1 k m1 H1 x1 e1 r1 r2=>⟨tyv r1 r2 k.1,?_⟩) w⟩
  exact ⟨m1,ρ,st1,rf.mono e1,r1,aM C.mono es (fun vs st2 k m2 H2 xs2 e2 r3 r4=>⟨m2,st2,v,vs,r3,r2.mono e2,r4,ir (fun _ _ q=>q.ext (e1.trans e2)) k⟩) k.2⟩
 | _::_::_::_,hs,h2,ha,hc=>simp at h2
mutual
theorem PV.bel_le {i j:Nat} (h:i≤j):∀ {v:PV},v.bel i=true→v.bel j=true
 | .non,_=>by rw [PV.bel]
 | .bl _,_=>by rw [PV.bel]
 | .int _,_=>by rw [PV.bel]
 | .str _,_=>by rw [PV.bel]
 | .ref n,z=>by rw [PV.bel] at z ⊢;have:=of_decide_eq_true z;exact decide_eq_true (by omega)
 | .tup xs,z=>by rw [PV.bel] at z ⊢;exact PV.bels_le h z
 | .rdl xs,z=>by rw [PV.bel] at z ⊢;exact PV.bels_le h z
 | .fn _,z=>by rw [PV.bel] at z;cases z
theorem PV.bels_le {i j:Nat} (h:i≤j):∀ {vs:List PV},PV.bels i vs=true→PV.bels j vs=true
 | [],_=>by rw [PV.bels]
 | v::vs,z=>by rw [PV.bels,Bool.and_eq_true] at z ⊢;exact ⟨PV.bel_le h z.1,PV.bels_le h z.2⟩
end
theorem wt (C:COk X c Γ) {a:E} {t:String} {l:Expr} {y z:Str} {p q pos:Pos} (h:(y == ("isinstance":Str) && c.blt y && ao l && z == (t:Str) && c.blt z && kinds.contains t)=true) (ha:PE X l (TEx X.K (wpE Γ a))) :
  PE X (.Call (.Name y p) [l,.Name z q] [] pos) (TEx X.K (wpE Γ (.inst a t))):=by
 simp only [Bool.and_eq_true,beq_iff_eq] at h
 obtain ⟨⟨⟨⟨⟨h1,h2⟩,h3⟩,h4⟩,h5⟩,h6⟩:=h
 subst h1 h4
 have ht:t∈kinds:=List.contains_iff_mem.mp h6
 obtain ⟨g1,g2,g3,g4⟩:=C.bltx h2
 obtain ⟨k1,k2,k3,k4⟩:=C.bltx h5
 rintro pins s σ H Q I ⟨m,ρ,st,rf,rh,w⟩
 skip
 have pt:PE X (.Name (t:Str) q) (tC (.ty t)):=Cv k1 k4 (tY t ht) rfl k3 k2
 have hA:PA X [l,.Name (t:Str) q] (gG (TEx X.K (wpE Γ a)) (gG (tC (.ty t)) q_)):=pac ha (pac pt jf) h3
 have hC:gq X (.builtin "isinstance") (fun xs H Q=>∃m st x y n,RH X.K m H st∧R X.K m H x y∧xs=[y,.ty t]∧eK st x=some n∧Q (.bl (gF t n)) H):=by
  rintro pins s σ H xs us Q I r ⟨m,st,x,y,n,r1,r2,rfl,e,q⟩
  obtain ⟨u,v,rfl,ru,rv⟩:=wo r
  cases (show v=Value.type t from rv)
  exact Dt (K:=X.K) I r1 r2 ru e ht fun tk=>⟨.bl _,H,I.tok tk,rfl,q⟩
 refine ow hC g1 g4 r_ hA g3 g2 h3 rfl pins s σ H Q I ?_
 refine ⟨m,ρ,st,rf,rh,ac C.mono a (fun v st1 k m1 H1 x1 e1 r1 r2=>?_) w⟩
 obtain ⟨n,e,k⟩:=k
 exact ⟨m1,st1,v,x1,n,r1,r2,rfl,e,(k.ext e1).here r1 (R_bl.mpr rfl)⟩
theorem BZ (C:COk X c Γ) {i:Nat} {y:Str} {p:Pos} (h:(c.N[i]? == some y && c.vis y)=true):PE X (.Name y p) (TEx X.K (wpE Γ (.var i))):=by
 simp only [Bool.and_eq_true,beq_iff_eq] at h
 obtain ⟨h1,h2,h3⟩:=C.visx h.2
 rintro pins s σ H Q I ⟨m,ρ,st,rf,rh,w⟩
 skip
 obtain ⟨v,e,w⟩:=w
 obtain ⟨y,e2,r⟩:=rf.at_ i v e
 exact ye (by rw [C.N];exact h.1) h1 h2 h3 pins s σ H Q I ⟨y,e2,w.here rh r⟩
theorem pG {K:PySem.W.Frag} {m m':List Addr} {H H':Hp} {st st':AH} {Q:EK} {v:PV} {x:V} (rh:RH K m H st) (e:Ext K m H m' H') (rh':RH K m' H' st') (r:R K m' H' v x) (q:Tmp st Q v st') :
  ∃st1,Q v st1∧Ext K m H m H'∧RH K m H' st1∧R K m H' v x:=by
 obtain ⟨st1,g,rfl,hl,hs,hb,q⟩:=q
 have hm:m'.take m.length=m:=by
  obtain ⟨t,ht⟩:=e.pre
  rw [←ht,List.take_left]
 have hlen:m.length=st.length:=rh.len
 refine ⟨st1,q,⟨List.prefix_refl _,fun _ z=>.inl z,e.fr,e.tup,e.rdf,e.tbs,e.tb⟩,⟨by rw [hl,hlen],rh.nd,fun n c a h1 h2=>?_,e.tb rh.tb⟩,?_⟩
 ·have hn:n<st1.length:=(List.getElem?_eq_some_iff.mp h1).1
  have c1:CellR K m' H' c a:=rh'.at_ n c a (by rw [List.getElem?_append_left hn];exact h1) (jt e.pre h2)
  have hc:c.bec m.length=true:=by
   rcases hs n (by omega) with z|⟨c',z,zb⟩
   ·rw [h1] at z
    exact (rh.at_ n c a z.symm h2).bel
   ·rw [h1] at z
    cases z
    have zb':∀ {c:Cell},c.bel 0=true→c.bec m.length=true:=by
     have b0:∀(xs:List PV),PV.bels 0 xs=true→PV.becs m.length xs=true:=fun xs h=>PV.bels_becs (Nat.zero_le _) h
     intro c h
     cases c with
     | lst xs=>exact b0 _ h
     | dk kvs=>exact b0 _ h
    exact zb' zb
  have:=c1.cut hc
  rw [hm] at this
  exact this
 ·have:=r.cut (k:=m.length) (by rw [hlen];exact PV.bel_bec (Nat.le_refl _) hb)
  rw [hm] at this
  exact this
noncomputable def postF (K:PySem.W.Frag) (m:List Addr) (H:Hp) (Q:L2.St→Hp→Prop):Fr→AH→Prop:=fun ρ' st'=>∀m' H' σ',Ext K m H m' H'→RH K m' H' st'→RF K m' H' ρ' σ'→Q σ' H'
theorem postF.ext {K:PySem.W.Frag} {m m1:List Addr} {H H1:Hp} {Q:L2.St→Hp→Prop} (x:Ext K m H m1 H1) {ρ:Fr} {st:AH} (q:postF K m H Q ρ st):postF K m1 H1 Q ρ st:=fun m' H' σ' e r s=>q m' H' σ' (x.trans e) r s
theorem postF.here {K:PySem.W.Frag} {m:List Addr} {H:Hp} {Q:L2.St→Hp→Prop} {ρ:Fr} {σ:L2.St} {st:AH} (q:postF K m H Q ρ st) (h:RH K m H st) (r:RF K m H ρ σ):Q σ H:=q m H σ (Ext.refl _ _ _) h r
noncomputable def TGx (K:PySem.W.Frag) (w:PV→Fr→AH→(Fr→AH→Prop)→Prop):TG:=fun v' σ H Q=>∃m ρ st v,RF K m H ρ σ∧RH K m H st∧R K m H v v'∧w v ρ st (postF K m H Q)
noncomputable def Io (K:PySem.W.Frag) (w:List PV→Fr→AH→(Fr→AH→Prop)→Prop):TGs:=fun v' σ H Q=>∃m ρ st v,RF K m H ρ σ∧RH K m H st∧Rs K m H v v'∧w v ρ st (postF K m H Q)
theorem COk.locx (C:COk X c Γ) {x:Str} (h:c.loc x=true):Loc X.env.scope x∧(X.fn x=true∨X.env.scope.names.lookup x=some .local):=by
 unfold Cfg.loc at h
 simp only [Bool.or_eq_true,beq_iff_eq] at h
 exact C.loc x h
theorem COk.ndX (C:COk X c Γ):X.N.Nodup:=by rw [C.N];exact C.nd
theorem iN {e:Expr} {es:List Expr} {env:Env} (h:ao e=true):assignEach (e::es) env=(false,assign e env)::assignEach es env:=by
 cases e <;> first|rfl|cases h
theorem jc {c:Cfg}:∀ {ts:Tgs} {xs:List Expr} {env:Env},mf c ts xs=true→(assignEach xs env).length=ts.size∧(assignEach xs env).findIdx? (·.1)=none
 | .nil,xs,env,h=>by
  have h:xs.isEmpty=true:=h
  cases xs with
  | nil=>exact ⟨rfl,rfl⟩
  | cons _ _=>cases h
 | .cons t ts,xs,env,h=>by
  replace h:=aR h
  obtain ⟨y,ys,rfl,h⟩:=h
  ·simp only [Bool.and_eq_true] at h
   obtain ⟨⟨h1,h2⟩,h3⟩:=h
   obtain ⟨g1,g2⟩:=jc (env:=env) h3
   rw [iN h1]
   exact ⟨by simp [g1,Tgs.size],by simp [List.findIdx?_cons,g2]⟩
structure rM (K:PySem.W.Frag) (J:L2.It) (xs:List PV) (chk:AH→Prop) (m0:List Addr) (H0:Hp):Prop where
 stop:∀m H st,Ext K m0 H0 m H→RH K m H st→chk st→J.stop xs.length H
 item:∀(i:Nat) v m H st,Ext K m0 H0 m H→RH K m H st→chk st→xs[i]?=some v→J.go i H∧∀x H',J.yld i H x H'→Ext K m H m H'∧RH K m H' st∧R K m H' v x
noncomputable def TIx (K:PySem.W.Frag) (w:Fr→AH→(List PV→(AH→Prop)→AH→Prop)→Prop):TI:=fun σ H Rr=>∃m ρ st,RF K m H ρ σ∧RH K m H st ∧
 w ρ st fun xs chk st1=>∀m1 H1 J,Ext K m H m1 H1→RH K m1 H1 st1→rM K J xs chk m1 H1→Rr J H1
theorem rj {x:Expr} {env:Env} (h:mQ x=true):∀v,foldedSetIterable x env v=pure v:=by
 cases x <;> first|(intro _;rfl)|cases h
theorem Gp {tg l:Expr} {tl:TE} (hl:PE X l tl):PI X tg l (fun σ H Rr=>tl σ H fun x H1=>∃a,x=.ref a∧((∃xs,SqL X.K H1 a xs)∧Rr (Itl X.K a) H1∨(∃xs,SqT X.K H1 a xs)∧Rr (Itt X.K a) H1)):=by
 intro pins s σ H Rr I h
 refine thn (hl pins s σ H _ I h) fun v s1 ⟨x,H1,I1,r1,q1⟩=>?_
 obtain ⟨a,e,q1⟩:=q1
 subst e
 cases r1
 rcases q1 with ⟨⟨xs,hq⟩,q⟩|⟨⟨xs,hq⟩,q⟩
 ·obtain ⟨its,rv,p,hz⟩:=I1.list hq
  refine wpAny_pyIter_list p.isList ?_
  refine ⟨s1.heap.objs.size,[s1.heap.objs.size],_,_,H1,rfl,I1.kept (t':=s1.toks) fun b o e=>Heap.get?_push_of_some _ e,xA a _,⟨_,Heap.get?_push_size _ rfl,rfl,rfl⟩,fun b hb=>?_,q⟩
  have e:b=s1.heap.objs.size:=by simpa using hb
  subst e
  exact I1.fpOk (Nat.le_refl _) (I1.hok.fresh (Nat.le_refl _))
 ·obtain ⟨its,rv,p,hz⟩:=I1.tuple hq
  refine wpAny_pyIter_tuple (show s1.heap.IsTuple a its.toArray from p) ?_
  refine ⟨s1.heap.objs.size,[s1.heap.objs.size],_,_,H1,rfl,I1.kept (t':=s1.toks) fun b o e=>Heap.get?_push_of_some _ e,vq a _,⟨_,Heap.get?_push_size _ rfl,rfl,rfl⟩,fun b hb=>?_,q⟩
  have e:b=s1.heap.objs.size:=by simpa using hb
  subst e
  exact I1.fpOk (Nat.le_refl _) (I1.hok.fresh (Nat.le_refl _))
theorem xE {K:PySem.W.Frag} {m0:List Addr} {H0:Hp} {st0:AH} {n:Nat} {a:Addr} {xs:List PV} (rh:RH K m0 H0 st0) (e:st0[n]?=some (.lst xs)) (ea:m0[n]?=some a):rM K (Itl K a) xs (fun st'=>st'[n]?=st0[n]?) m0 H0:=by
 have get:∀m H st,Ext K m0 H0 m H→RH K m H st→st[n]?=st0[n]?→∃ys,H a=some (.lst ys)∧Rs K m H xs ys:=fun m H st x r q=>by
  rw [e] at q
  exact r.at_ n _ a q (jt x.pre ea)
 refine ⟨fun m H st x r q=>?_,fun i v m H st x r q ev=>?_⟩
 ·obtain ⟨ys,h1,h2⟩:=get m H st x r q
  exact ⟨ys,SqL.of h1,by rw [h2.len];exact Nat.le_refl _⟩
 ·obtain ⟨ys,h1,h2⟩:=get m H st x r q
  obtain ⟨y,e1,r1⟩:=h2.get ev
  refine ⟨⟨ys,y,SqL.of h1,e1⟩,fun z H' ⟨e2,e3⟩=>?_⟩
  subst e2
  have:=e3 ys (SqL.of h1)
  rw [e1] at this
  cases this
  exact ⟨Ext.refl _ _ _,r,r1⟩
theorem AG {K:PySem.W.Frag} {m0:List Addr} {H0:Hp} {a:Addr} {xs:List PV} {ys:List V} (h:RdF K H0 a ys) (r0:Rs K m0 H0 xs ys):rM K (Itl K a) xs (fun _=>True) m0 H0:=by
 refine ⟨fun m H st x r q=>⟨ys,(x.rdf _ _ h).sq,by rw [r0.len];exact Nat.le_refl _⟩,fun i v m H st x r q ev=>?_⟩
 obtain ⟨y,e1,r1⟩:=(r0.mono x).get ev
 refine ⟨⟨ys,y,(x.rdf _ _ h).sq,e1⟩,fun z H' ⟨e2,e3⟩=>?_⟩
 subst e2
 have:=e3 ys (x.rdf _ _ h).sq
 rw [e1] at this
 cases this
 exact ⟨Ext.refl _ _ _,r,r1⟩
theorem AW {K:PySem.W.Frag} {m0:List Addr} {H0:Hp} {a:Addr} {xs:List PV} {ys:List V} (h:SqT K H0 a ys) (r0:Rs K m0 H0 xs ys):rM K (Itt K a) xs (fun _=>True) m0 H0:=by
 refine ⟨fun m H st x r q=>⟨ys,x.tup _ _ h,by rw [r0.len];exact Nat.le_refl _⟩,fun i v m H st x r q ev=>?_⟩
 obtain ⟨y,e1,r1⟩:=(r0.mono x).get ev
 refine ⟨⟨ys,y,x.tup _ _ h,e1⟩,fun z H' ⟨e2,e3⟩=>?_⟩
 subst e2
 have:=e3 ys (x.tup _ _ h)
 rw [e1] at this
 cases this
 exact ⟨Ext.refl _ _ _,r,r1⟩
theorem nw {K:PySem.W.Frag} {m0:List Addr} {H0:Hp} {lo:Int} {n:Nat}:rM K (Itr lo n) (dZ lo n) (fun _=>True) m0 H0:=by
 refine ⟨fun m H st x r q=>by show n≤_;simp [dZ],fun i v m H st x r q ev=>?_⟩
 unfold dZ at ev
 rw [List.getElem?_map] at ev
 have hi:i<n:=by
  by_cases hi:i<n
  ·exact hi
  ·rw [List.getElem?_eq_none (by simp;omega)] at ev;cases ev
 rw [List.getElem?_range hi] at ev
 cases ev
 refine ⟨hi,fun z H' ⟨e2,e3⟩=>?_⟩
 subst e2 e3
 exact ⟨Ext.refl _ _ _,r,R_int.mpr rfl⟩
end
end FW
set_option Elab.async false
set_option linter.all false
set_option maxRecDepth 100000
set_option maxHeartbeats 1000000
namespace FW
open PySem PySem.Spec PyProof.Rows L2 HX
section
variable {X:Cx} {pins:List (Addr × Obj)} {σ:L2.St} {H:Hp} {s:Shared} {h':Heap}
theorem v_ {t':Nat} {wr:List Addr} (I:L2.Inv X pins σ H s) (k:∀b o,b ∉ wr→s.heap.get? b=some o→h'.get? b=some o) (hf:∀b∈wr,lw X pins H b):L2.Inv X pins σ H { s with heap:=h',toks:=t' }:=by
 have nit:∀b u,H b=some u→b ∉ wr:=fun b u e z=>by rw [(hf b z).1] at e;cases e
 refine I.step (g':=s.gens) (d':=s.drawn) (ch:=wr) (fun b hb=>⟨(hf b hb).2.2.2.1,(hf b hb).2.1,(hf b hb).2.2.2.2.1,(hf b hb).2.2.2.2.2⟩) (fun b o _ _ hc e _=>k b o hc e) (fun b o _ _ hc e _=>⟨o.slots,k b o hc e⟩) (fun _ _ _ _ n=>n)
  (fun b o hc e=>⟨o,k b o hc e⟩) (fun _ _ e=>e) (fun _ _ _ e=>e) (fun b ps e=>⟨#[],by rw [e];simp⟩) (fun m hm=>?_) (fun b u e=>?_) I.bare
 ·obtain ⟨o,es,ep,ho,r⟩:=hm
  exact ⟨o,es,ep,k _ o (fun z=>(hf _ z).2.1 rfl) ho,r⟩
 ·refine (I.hok b u e).stay (fun c v hc q=>k c v ?_ q) (fun _ q=>q) fun _ _ q=>q
  rcases hc with z|z
  ·rw [z];exact nit b u e
  ·exact nit c _ z
theorem wu {t':Nat} {wr:List Addr} {T:Addr} {xs:List V} {its:List Value} (I:L2.Inv X pins σ H s) (k:∀b o,b ∉ wr→s.heap.get? b=some o→h'.get? b=some o) (hf:∀b∈wr,lw X pins H b)
  (hT:s.heap.objs.size≤T) (hx:Vals xs its) (hz:xs.length≤sizeLine) (ht:h'.IsTuple T its.toArray):L2.Inv X pins σ (upd H T (.tup xs)) { s with heap:=h',toks:=t' }:=by
 have nit:∀b u,H b=some u→b ∉ wr:=fun b u e z=>by rw [(hf b z).1] at e;cases e
 have hn:H T=none:=I.hok.fresh hT
 have up:∀b u,H b=some u→upd H T (.tup xs) b=some u:=fun b u e=>by rw [ak (aH e hn)];exact e
 refine I.step (g':=s.gens) (d':=s.drawn) (ch:=wr) (fun b hb=>⟨(hf b hb).2.2.2.1,(hf b hb).2.1,(hf b hb).2.2.2.2.1,(hf b hb).2.2.2.2.2⟩) (fun b o _ _ hc e _=>k b o hc e) (fun b o _ _ hc e _=>⟨o.slots,k b o hc e⟩)
  (fun b o _ e n=>by rw [ak (Nat.ne_of_lt (Nat.lt_of_lt_of_le (Heap.lt_size e) hT))];exact n)
  (fun b o hc e=>⟨o,k b o hc e⟩) (fun b _ e=>up b _ e) (fun b _ _ e=>up b _ e) (fun b ps e=>⟨#[],by rw [up b _ e];simp⟩) (fun m hm=>?_) (fun b u e=>?_) I.bare
 ·obtain ⟨o,es,ep,ho,r⟩:=hm
  exact ⟨o,es,ep,k _ o (fun z=>(hf _ z).2.1 rfl) ho,r⟩
 ·by_cases hb:b=T
  ·subst hb
   rw [cJ] at e
   cases e
   exact ⟨hz,its,hx,ht⟩
  ·rw [ak hb] at e
   refine (I.hok b u e).stay (fun c v hc q=>k c v ?_ q) (fun c q=>up c _ q) fun c _ q=>up c _ q
   rcases hc with z|z
   ·rw [z];exact nit b u e
   ·exact nit c _ z
end
theorem CK {X:Cx} {es:List Expr} {k:Nat} {t:TGs} {n:Nat} {pos:Pos} (hc:X.calm=true) (h:PGs X es t) (hn:(assignEach es X.env).length=n) (hst:(assignEach es X.env).findIdx? (·.1)=none) :
  PG X (.Tuple es k pos) (fun v σ H Q=>∃a xs,v=.ref a∧SqL X.K H a xs∧xs.length=n∧t xs σ H Q):=by
 intro pins s σ H v u Q I r hw
 obtain ⟨a,xs,e1,hq,hl,hw⟩:=hw
 subst e1
 cases r
 obtain ⟨its,rv,ht,hz⟩:=I.list hq
 rw [PyProof.Rows.assign_Tuple]
 refine wpAny_bind (wpAny_standAt ?_)
 unfold unpack
 rw [hst]
 have hsz:(assignEach es X.env).length=its.toArray.size:=by simp [hn,←hl,rv.length]
 rw [hsz]
 refine wpAny_bind (wpAny_holding (PySem.W.kun_itemsOf (I.ok.hd hc) ht.isList fun h' hx=>?_))
 have I1:L2.Inv X pins σ H { s with heap:=h' }:=I.kept (t':=s.toks) fun b o e=>hx b o (Nat.ne_of_lt (Heap.lt_size e)) e
 exact h pins _ σ H xs _ Q I1 (by simpa using rv) hw
end FW
set_option Elab.async false
set_option linter.all false
set_option maxRecDepth 100000
set_option maxHeartbeats 1000000
namespace FW
open PySem PySem.Spec PyProof.Rows L2 HX
theorem CG {h:Heap} {it t:Addr} {i:Nat} {x:Value} {o:Obj} {k:Nat} (e:h.get? it=some o) (hc:o.cls=.type "tuple_iterator") (hd:o.data=.fields #[.ref t,.int (i:Int) 0]) :
  (h.update it (Obj.mapFields fun z=>z.setIfInBounds k x)).get? it=some (Obj.mapFields (fun z=>z.setIfInBounds k x) o):=by
 refine Heap.get?_update_self _ e ?_
 obtain ⟨c,d,da,sl⟩:=o
 simp only at hc hd
 subst hc hd
 rfl
theorem sQ (it t:Addr) (i:Nat) (items:Array Value) (x:Value):Meets (Builtin.«tuple_iterator.__next__» { pos:=[.ref it] }) fun _ R s =>
  s.heap.IsTupleIter it t i∧s.heap.IsTuple t items∧items[i]?=some x∧∀h',h'.IsTupleIter it t (i+1)→Heap.SameBut it s.heap h'→R (.ok (.ret x)) { s with heap:=h' }:=by
 intro prog w A R s ⟨⟨o,e,hc,hd⟩,⟨o2,e2,hc2,n,hd2⟩,hx,h⟩
 refine wpAny_bind (wpAny_pure ?_)
 refine wpAny_bind (wpAny_field (i:=0) e hd rfl ?_)
 refine wpAny_bind (wpAny_field (i:=1) e hd rfl ?_)
 refine wpAny_bind (wpAny_seqItems e2 hd2 ?_)
 show wpAny _ _ (match items[((i:Nat):Int).toNat]? with|some x=>_|none=>_) _ _ _
 rw [Int.toNat_natCast,hx]
 refine wpAny_bind (wpAny_setField e hd (Nat.lt_succ_self 1) ?_)
 refine wpAny_pure ?_
 refine h _ ⟨_,CG e hc hd,?_,?_⟩ (Heap.SameBut.update _ _ _)
 ·obtain ⟨c,d,da,sl⟩:=o
  simp only at hc hd
  subst hc hd
  rfl
 ·obtain ⟨c,d,da,sl⟩:=o
  simp only at hc hd
  subst hc hd
  show Data.fields #[.ref t,rawInt ((i:Int)+1)]=Data.fields #[.ref t,.int ((i+1:Nat):Int) 0]
  rw [Int.natCast_add]
  rfl
theorem CY {α:Type} {M:Model} {A:Around} {E:Value→Shared→Prop} {s:Shared} {Q:α→Shared→Prop} (hh:A.handled=none) (h:∀h' e,(∀b o,s.heap.get? b=some o→h'.get? b=some o)→(∃o,h'.get? e=some o∧o.cls=.type "StopIteration")→E (.ref e) { s with heap:=h' }) :
  wpAny M A (Builtin.SmallTypes.stopIteration:Sem α) Q E s:=by
 refine wpAny_bind ?_
 refine wpAny_bind (wpAny_newTuple ?_)
 refine wpAny_bind (wpAny_pure ?_)
 refine wpAny_newObj_type (wpAny_raiseNew_none hh ?_)
 refine h _ _ (fun b o e=>Heap.get?_push_of_some _ (Heap.get?_push_of_some _ e)) ⟨_,Heap.get?_push_size _ rfl,rfl⟩
theorem uj (it t:Addr) (i:Nat) (items:Array Value):Meets (Builtin.«tuple_iterator.__next__» { pos:=[.ref it] }) fun A R s =>
  A.handled=none∧s.heap.IsTupleIter it t i∧s.heap.IsTuple t items∧items[i]?=none∧∀h' e,Heap.ExtBut it s.heap h'→(∃o,h'.get? e=some o∧o.cls=.type "StopIteration")→R (.error (.ref e)) { s with heap:=h' }:=by
 intro prog w A R s ⟨hh,⟨o,e,hc,hd⟩,⟨o2,e2,hc2,n,hd2⟩,hx,h⟩
 refine wpAny_bind (wpAny_pure ?_)
 refine wpAny_bind (wpAny_field (i:=0) e hd rfl ?_)
 refine wpAny_bind (wpAny_field (i:=1) e hd rfl ?_)
 refine wpAny_bind (wpAny_seqItems e2 hd2 ?_)
 show wpAny _ _ (match items[((i:Nat):Int).toNat]? with|some x=>_|none=>_) _ _ _
 rw [Int.toNat_natCast,hx]
 refine wpAny_bind (wpAny_rule ?_)
 refine wpAny_bind (wpAny_setField e hd (Nat.zero_lt_succ 1) ?_)
 refine CY hh fun h' x k1 k2=>h h' x (fun b o' hb eb=>k1 b o' ?_) k2
 show (s.heap.update it _).get? b=some o'
 rw [Heap.get?_update_ne _ _ _ _ hb]
 exact eb
section
variable {prog:Program} {w:World} {A:Around} {E:Value→Shared→Prop} {s:Shared} {it t:Addr} {i:Nat} {items:Array Value}
theorem jy {x:Value} {Q:Value→Shared→Prop} (hi:s.heap.IsTupleIter it t i) (ht:s.heap.IsTuple t items) (hx:items[i]?=some x) (h:∀h',h'.IsTupleIter it t (i+1)→Heap.SameBut it s.heap h'→Q x { s with heap:=h' }) :
  wpAny (model prog w) A (Builtin.SmallTypes.nextOf (.ref it)) Q E s:=by
 refine wpAny_bind (wpAny_callSpecial?_slot hi.typeIs F.slot_tuple_iterator_next ?_)
 refine call_meets F.slot_tuple_iterator_next hi.typeIs F.entry_tuple_iterator_next (F.args_tuple_iterator_next_1 _) (sQ it t i items x) ⟨hi,ht,hx,fun h' k1 k2=>wpAny_pure (h h' k1 k2)⟩
theorem kW {Q:Value→Shared→Prop} (hh:A.handled=none) (hi:s.heap.IsTupleIter it t i) (ht:s.heap.IsTuple t items) (hx:items[i]?=none) (h:∀h' e,Heap.ExtBut it s.heap h'→(∃o,h'.get? e=some o∧o.cls=.type "StopIteration")→E (.ref e) { s with heap:=h' }) :
  wpAny (model prog w) A (Builtin.SmallTypes.nextOf (.ref it)) Q E s:=by
 refine wpAny_bind (wpAny_callSpecial?_slot hi.typeIs F.slot_tuple_iterator_next ?_)
 exact call_meets F.slot_tuple_iterator_next hi.typeIs F.entry_tuple_iterator_next (F.args_tuple_iterator_next_1 _) (uj it t i items) ⟨hh,hi,ht,hx,h⟩
end
theorem mY {h h':Heap} {it t:Addr} {i:Nat} (k:∀o,h.get? it=some o→h'.get? it=some o) (z:h.IsTupleIter it t i):h'.IsTupleIter it t i:=by
 obtain ⟨o,e,r⟩:=z
 exact ⟨o,k o e,r⟩
theorem me {h h':Heap} {t:Addr} {items:Array Value} (k:∀o,h.get? t=some o→h'.get? t=some o) (z:h.IsTuple t items):h'.IsTuple t items:=by
 obtain ⟨o,e,r⟩:=z
 exact ⟨o,k o e,r⟩
theorem k_ {prog:Program} {w:World} {A:Around} (hh:A.handled=none) (it t:Addr) (hne:t≠it) (items:Array Value) :
  Draws prog w A it [it,t] items.size (fun i v=>items[i]?=some v) fun i h=>h.IsTupleIter it t i∧h.IsTuple t items where
 live:=fun i h z=>let ⟨o,e,_⟩:=z.1;⟨o,e⟩
 frame:=fun i h h' z k=>⟨mY (fun o e=>k it (by simp) o e) z.1,me (fun o e=>k t (by simp) o e) z.2⟩
 item:=fun i s Q E hi z h=>jy z.1 z.2 (Array.getElem?_eq_getElem hi) fun h' k1 k2=>h _ h' s.toks (Array.getElem?_eq_getElem hi) ⟨k1,me (fun o e=>by rw [k2.2 t hne];exact e) z.2⟩ k2
 done:=fun s Q E z h=>kW hh z.1 z.2 (Array.getElem?_eq_none (Nat.le_refl _)) h
theorem rm (t:Addr) (items:Array Value):Meets (Builtin.«enumerate.__new__» { pos:=[.type "enumerate",.ref t] }) fun _ R s =>
  s.heap.IsTuple t items∧∀h',IsEnum h' (s.heap.objs.size+1) s.heap.objs.size 0 .none→h'.IsTupleIter s.heap.objs.size t 0→(∀b o,s.heap.get? b=some o→h'.get? b=some o)→R (.ok (.ret (.ref (s.heap.objs.size+1)))) { s with heap:=h' }:=by
 intro prog w A R s ⟨ht,h⟩
 refine wpAny_bind ?_
 refine wpAny_bind (wpAny_pure ?_)
 rw [sub_enumerate]
 refine wpAny_bind (wpAny_pure ?_)
 refine wpAny_pure ?_
 refine wpAny_bind (wpAny_bind (wpAny_stack fun st _ _ _=>wpAny_pure ?_))
 have fin:wpAny (model prog w) A.in1 (do
   let i ←pyIter (.ref t)
   let r ←Builtin.SmallTypes.newRecord (.type "enumerate") (Builtin.SmallTypes.ownedTupleFields++[i,rawInt 0,.none,.none])
   ret r) (fun fin s'=>match fin with
   | Fin.done f=>R (Except.ok f) s'
   | Fin.again c'=>c'.quiet=true∧codeAny (model prog w) A c' R s') (fun e s'=>R (Except.error e) s') s:=by
  refine wpAny_bind (wpAny_pyIter_tuple ht ?_)
  refine wpAny_bind (wpAny_newObj_type (T:="enumerate") (data:=.fields #[.none,.bool false,.ref s.heap.objs.size,rawInt 0,.none,.none]) ?_)
  refine wpAny_pure ?_
  have hl:(s.heap.push { cls:=.type "tuple_iterator",data:=.fields #[.ref t,.int 0 0] }).objs.size=s.heap.objs.size+1:=Heap.size_push ..
  have:=h ((s.heap.push { cls:=.type "tuple_iterator",data:=.fields #[.ref t,.int 0 0] }).push { cls:=.type "enumerate",data:=.fields #[.none,.bool false,.ref s.heap.objs.size,rawInt 0,.none,.none] }) (by
   have e:=Heap.get?_push_size (s.heap.push { cls:=.type "tuple_iterator",data:=.fields #[.ref t,.int 0 0] }) (o:={ cls:=.type "enumerate",data:=.fields #[.none,.bool false,.ref s.heap.objs.size,rawInt 0,.none,.none] }) rfl
   rw [hl] at e
   exact e) ⟨_,Heap.get?_push_of_some _ (Heap.get?_push_size _ rfl),rfl,rfl⟩ (fun b o e=>Heap.get?_push_of_some _ (Heap.get?_push_of_some _ e))
  rw [←hl] at this
  exact this
 split
 ·rename_i c _ _ _ _ _
  generalize (c == Value.type "enumerate")=b
  cases b with
  | true=>exact wpAny_bind (m:=pure (Value.ref t,none)) (wpAny_pure fin)
  | false=>exact wpAny_bind (m:=pure (Value.ref t,none)) (wpAny_pure fin)
 ·exact wpAny_bind (m:=pure (Value.ref t,none)) (wpAny_pure fin)
theorem uL {prog:Program} {w:World} {A:Around} {E:Value→Shared→Prop} {s:Shared} {t:Addr} {items:Array Value} {Q:Value→Shared→Prop} (ht:s.heap.IsTuple t items)
  (h:∀h',IsEnum h' (s.heap.objs.size+1) s.heap.objs.size 0 .none→h'.IsTupleIter s.heap.objs.size t 0→(∀b o,s.heap.get? b=some o→h'.get? b=some o)→Q (.ref (s.heap.objs.size+1)) { s with heap:=h' }) :
  wpAny (model prog w) A (call (.type "enumerate") [.ref t]) Q E s:=by
 refine callType_new F.called_enumerate rfl (F.typeCall_enumerate_1 _) (F.newCall_enumerate_1 _) (fun obj=>?_) F.entry_enumerate_new (rm t items) ⟨ht,fun h' k1 k2 k3=>⟨⟨_,k1,rfl⟩,h h' k1 k2 k3⟩⟩
 exact F.args_object_init_2 _ _
noncomputable def Ite (K:PySem.W.Frag) (a:Addr):L2.It :=
 ⟨fun i H=>∃xs x,SqT K H a xs∧xs[i]?=some x,
  fun i H v H'=>∃T,v=.ref T∧H T=none∧∀xs x,SqT K H a xs→xs[i]?=some x→H'=upd H T (.tup [.int i,x]),
  fun i H=>∃xs,SqT K H a xs∧i=xs.length⟩
noncomputable def Ge (a e it:Addr) (i:Nat) (h:Heap):Prop:=(∃old,IsEnum h e it (i:Int) old)∧h.IsTupleIter it a i
theorem xi {P:Program} {w:World} {K:PySem.W.Frag} {elts:List Expr} {kt:Nat} {pt:Pos} {a e it:Addr} (h1:e≠it) (h2:a≠e) (h3:a≠it) :
  wM P w K (.Tuple elts kt pt) (Ite K a) [e,it] e (Ge a e it) where
 mem:=by simp
 obj:=fun i h st c hc=>by
  obtain ⟨⟨old,q1⟩,⟨o4,e4,c4,d4⟩⟩:=st
  simp only [List.mem_cons,List.not_mem_nil,or_false] at hc
  rcases hc with rfl|rfl
  ·exact ⟨_,q1,fun v z=>nomatch z⟩
  ·exact ⟨o4,e4,fun v z=>by rw [d4] at z;cases z⟩
 keep:=fun i h h' st k=>by
  obtain ⟨⟨old,q1⟩,q2⟩:=st
  exact ⟨⟨old,k e (by simp) _ q1⟩,mY (fun o z=>k it (by simp) o z) q2⟩
 item:=by
  intro X hP hw hK hc i pins s σ H E I hf st hg
  subst hP hw hK
  obtain ⟨xs,x,hq1,hx⟩:=hg
  obtain ⟨its1,rv1,p1,hz1⟩:=I.tuple hq1
  obtain ⟨u1,hu1,ru1⟩:=rv1.get hx
  have W:=WalksT.enumerateD (A:=X.A) (k_ (prog:=X.prog) (w:=X.w) (A:=X.A.in1) (I.ok.hd hc) it a h3 its1.toArray) e h1 (by simp [h1,Ne.symm h2]) (by simp)
  obtain ⟨q1,q2⟩:=st
  have l1:=(List.getElem?_eq_some_iff.mp hu1).1
  have tp:s.heap.IsTuple a its1.toArray:=p1
  refine W.item i s _ _ (by rw [List.size_toArray];exact l1) ⟨q1,q2,tp⟩ fun T vals h' tk hv hT isT mid kk=>?_
  obtain ⟨tt,v1,e1,rfl⟩:=hv
  have z1:v1=u1:=by
   (have:its1[i]?=some v1:=by simpa using e1);rw [hu1] at this;cases this;rfl
  subst z1
  refine ⟨_,rfl,W.go elts kt pt i T { s with heap:=h',toks:=tk } _ _ mid fun h'' st'' kk2=>?_⟩
  have ap:=W.apart i T h' mid
  obtain ⟨o,eo,c,d⟩:=isT
  have I2:L2.Inv X pins σ (upd H T (.tup [.int i,x])) { s with heap:=h'',toks:=tk }:=wu (its:=[.int i tt,v1]) I (fun b o hb z=>kk2 b o hb (kk b o hb z)) (fun b hb=>hf b (by simpa using hb)) hT (.cons ⟨tt,rfl⟩ (.cons ru1 .nil)) (by simp [sizeLine]) ⟨o,kk2 T o ap eo,c,d⟩
  refine ⟨.ref T,_,I2,rfl,⟨T,rfl,I.hok.fresh hT,fun xs' x' k1 k2=>?_⟩,⟨st''.1,st''.2.1⟩,fun b hb=>?_⟩
  ·rw [I.tuple_inj k1 hq1,hx] at k2
   cases k2;rfl
  ·have hlt:b<s.heap.objs.size:=by
    simp only [List.mem_cons,List.not_mem_nil,or_false] at hb
    obtain ⟨old,q1⟩:=q1
    obtain ⟨o5,e5,_⟩:=q2
    rcases hb with rfl|rfl
    ·exact Heap.lt_size q1
    ·exact Heap.lt_size e5
   rw [ak (Nat.ne_of_lt (Nat.lt_of_lt_of_le hlt hT))]
   exact (hf b hb).1
 done:=by
  intro X hP hw hK hc i pins s σ H E I hf st hg
  subst hP hw hK
  obtain ⟨xs,hq1,rfl⟩:=hg
  obtain ⟨its1,rv1,p1,hz1⟩:=I.tuple hq1
  have W:=WalksT.enumerateD (A:=X.A) (k_ (prog:=X.prog) (w:=X.w) (A:=X.A.in1) (I.ok.hd hc) it a h3 its1.toArray) e h1 (by simp [h1,Ne.symm h2]) (by simp)
  obtain ⟨q1,q2⟩:=st
  rw [rv1.length] at q1 q2
  exact W.done s _ _ ⟨by simpa using q1,by simpa using q2,p1⟩ fun h' tk kk=>⟨rfl,v_ I kk fun b hb=>hf b (by simpa using hb)⟩
 self:=fun _ _ _ _ _ st h=>by
  obtain ⟨⟨old,q1⟩,_⟩:=st
  exact wpAny_pyIter_enum q1 h
section
variable {X:Cx}
noncomputable def HC (K:PySem.W.Frag) (ta:TA):TI:=fun σ H R=>ta σ H fun vs H1=>∃a,vs=[.ref a]∧(∃xs,SqT K H1 a xs)∧R (Ite K a) H1
theorem C3 {elts:List Expr} {kt:Nat} {pt:Pos} {a:Expr} {ta:TA} {p pos:Pos} (hg:Gl X "enumerate") (hm:X.mg "enumerate"=none) (ha:PA X [a] ta) (hs:starEach [a] X.env=[(false,eval a X.env)]) :
  PI X (.Tuple elts kt pt) (.Call (.Name "enumerate" p) [a] [] pos) (HC X.K ta):=by
 intro pins s σ H R I h
 refine Call_ (ji I hg hm boot_enumerate (PyProof.Rows.callWith_type1 (thn (ha pos pins s σ H _ I h) fun us s1 ⟨vs,H1,I1,r1,q1⟩=>?_) (by rw [hs];rfl) rfl))
 obtain ⟨l1,e,⟨xs,hq1⟩,q⟩:=q1
 subst e
 cases r1 with
 | cons r rr =>
  cases rr
  cases r
  obtain ⟨its1,rv1,p1,hz1⟩:=I1.tuple hq1
  have tp:s1.heap.IsTuple l1 its1.toArray:=p1
  have lt1:l1<s1.heap.objs.size:=by obtain ⟨_,e,_⟩:=tp;exact Heap.lt_size e
  refine uL tp fun h' k1 k2 kk=>?_
  refine wpAny_pyIter_enum k1 ?_
  refine ⟨_,_,_,_,H1,rfl,I1.kept (t':=s1.toks) kk,xi (Nat.succ_ne_self _) (Nat.ne_of_lt (Nat.lt_succ_of_lt lt1)) (Nat.ne_of_lt lt1),⟨⟨_,k1⟩,k2⟩,fun b hb=>?_,q⟩
  have hb':s1.heap.objs.size≤b:=by
   simp only [List.mem_cons,List.not_mem_nil,or_false] at hb
   rcases hb with rfl|rfl <;> first|exact Nat.le_refl _|exact Nat.le_add_right _ _
  exact I1.fpOk hb' (I1.hok.fresh hb')
end
theorem ip:∀ {xs:List PV} {i:Int},(h_ i xs).length=xs.length
 | [],i=>by simp [h_]
 | x::xs,i=>by simp only [h_,List.length_cons,ip (xs:=xs)]
theorem iq:∀ {xs:List PV} {k:Int} {i:Nat} {v:PV},(h_ k xs)[i]?=some v→∃x,xs[i]?=some x∧v=.tup [.int (k+i),x]
 | [],k,i,v,h=>by simp [h_] at h
 | x::xs,k,0,v,h=>by simp [h_] at h;exact ⟨x,rfl,by rw [←h];simp⟩
 | x::xs,k,i+1,v,h=>by
  simp only [h_,List.getElem?_cons_succ] at h ⊢
  obtain ⟨y,e,rfl⟩:=iq h
  refine ⟨y,e,?_⟩
  rw [show k+1+(i:Int)=k+((i+1:Nat):Int) by omega]
theorem xQ {K:PySem.W.Frag} {m0:List Addr} {H0:Hp} {a:Addr} {xs:List PV} {ys:List V} (h:SqT K H0 a ys) (r0:Rs K m0 H0 xs ys):rM K (Ite K a) (h_ 0 xs) (fun _=>True) m0 H0:=by
 refine ⟨fun m H st x r q=>⟨ys,x.tup _ _ h,by rw [ip,r0.len]⟩,fun i v m H st x r q ev=>?_⟩
 obtain ⟨u,e1,rfl⟩:=iq ev
 obtain ⟨y1,f1,q1⟩:=r0.get e1
 refine ⟨⟨ys,y1,x.tup _ _ h,f1⟩,?_⟩
 rintro z H' ⟨T,rfl,hT,hh⟩
 have:=hh ys y1 (x.tup _ _ h) f1
 subst this
 refine ⟨Ext.newT r hT,r.newT hT,R_tup.mpr ⟨T,[.int i,y1],rfl,SqT.of cJ,?_⟩⟩
 rw [Rs_cons',Rs_cons',Rs_nil,R_int]
 exact ⟨by simp,(q1.mono x).mono (Ext.newT r hT),rfl⟩
end FW
set_option Elab.async false
set_option linter.all false
set_option maxRecDepth 100000
set_option maxHeartbeats 1000000
namespace FW
open PySem PySem.Spec PyProof.Rows L2 HX
structure Zs where
 it:Addr
 c:Bool × Addr
 xs:Array Value
noncomputable abbrev Zs.a (q:Zs):Addr:=q.c.2
noncomputable def ItB (h:Heap) (it:Addr) (c:Bool × Addr) (i:Nat):Prop:=if c.1=true then h.IsListIter it c.2 i else h.IsTupleIter it c.2 i
noncomputable def SeqB (h:Heap) (c:Bool × Addr) (xs:Array Value):Prop:=if c.1=true then h.IsList c.2 xs else h.IsTuple c.2 xs
theorem ItB.keep {h h':Heap} {it:Addr} {c:Bool × Addr} {i:Nat} (z:ItB h it c i) (k:∀o,h.get? it=some o→h'.get? it=some o):ItB h' it c i:=by
 obtain ⟨b,a⟩:=c
 cases b with
 | true=>exact (show h.IsListIter it a i from z).at k
 | false=>exact mY k (show h.IsTupleIter it a i from z)
theorem ItB.obj {h:Heap} {it:Addr} {c:Bool × Addr} {i:Nat} (z:ItB h it c i):∃o vs,h.get? it=some o∧o.data=.fields vs:=by
 obtain ⟨b,a⟩:=c
 cases b with
 | true=>obtain ⟨o,e,_,d⟩:=(show h.IsListIter it a i from z);exact ⟨o,_,e,d⟩
 | false=>obtain ⟨o,e,_,d⟩:=(show h.IsTupleIter it a i from z);exact ⟨o,_,e,d⟩
theorem SeqB.keep {h h':Heap} {c:Bool × Addr} {xs:Array Value} (z:SeqB h c xs) (k:∀o,h.get? c.2=some o→h'.get? c.2=some o):SeqB h' c xs:=by
 obtain ⟨b,a⟩:=c
 cases b with
 | true=>exact (show h.IsList a xs from z).at k
 | false=>exact me k (show h.IsTuple a xs from z)
noncomputable def SrcAt (h:Heap) (q:Zs) (i:Nat):Prop:=ItB h q.it q.c i∧SeqB h q.c q.xs
theorem SrcAt.keep {h h':Heap} {q:Zs} {i:Nat} (z:SrcAt h q i) (k1:∀o,h.get? q.it=some o→h'.get? q.it=some o) (k2:∀o,h.get? q.a=some o→h'.get? q.a=some o):SrcAt h' q i:=⟨z.1.keep k1,z.2.keep k2⟩
theorem SrcAt.obj {h:Heap} {q:Zs} {i:Nat} (z:SrcAt h q i):∃o vs,h.get? q.it=some o∧o.data=.fields vs:=z.1.obj
section
variable {prog:Program} {w:World} {A:Around} {E:Value→Shared→Prop} {s:Shared} {q:Zs} {i:Nat}
theorem rq {x:Value} {Q:Value→Shared→Prop} (hne:q.a≠q.it) (h:SrcAt s.heap q i) (hx:q.xs[i]?=some x) (hQ:∀h',SrcAt h' q (i+1)→Heap.SameBut q.it s.heap h'→Q x { s with heap:=h' }):wpAny (model prog w) A (Builtin.SmallTypes.nextOf (.ref q.it)) Q E s:=by
 obtain ⟨it,⟨b,a⟩,xs⟩:=q
 obtain ⟨z1,z2⟩:=h
 cases b with
 | true=>exact wpAny_nextOf_list_item (show s.heap.IsListIter it a i from z1) (show s.heap.IsList a xs from z2) hx fun h' k1 k2=>hQ h' ⟨k1,z2.keep fun o e=>by rw [k2.2 _ hne];exact e⟩ k2
 | false=>exact jy (show s.heap.IsTupleIter it a i from z1) (show s.heap.IsTuple a xs from z2) hx fun h' k1 k2=>hQ h' ⟨k1,z2.keep fun o e=>by rw [k2.2 _ hne];exact e⟩ k2
theorem Cj {Q:Value→Shared→Prop} (hh:A.handled=none) (h:SrcAt s.heap q i) (hx:q.xs[i]?=none) (hE:∀h' e,Heap.ExtBut q.it s.heap h'→(∃o,h'.get? e=some o∧o.cls=.type "StopIteration")→E (.ref e) { s with heap:=h' }):wpAny (model prog w) A (Builtin.SmallTypes.nextOf (.ref q.it)) Q E s:=by
 obtain ⟨it,⟨b,a⟩,xs⟩:=q
 obtain ⟨z1,z2⟩:=h
 cases b with
 | true=>exact wpAny_nextOf_list_end hh (show s.heap.IsListIter it a i from z1) (show s.heap.IsList a xs from z2) hx hE
 | false=>exact kW hh (show s.heap.IsTupleIter it a i from z1) (show s.heap.IsTuple a xs from z2) hx hE
theorem Cq {c:Bool × Addr} {xs:Array Value} {Q:Value→Shared→Prop} (h:SeqB s.heap c xs) (hQ:∀o,ItB (s.heap.push o) s.heap.objs.size c 0→Q (.ref s.heap.objs.size) { s with heap:=s.heap.push o }):wpAny (model prog w) A (pyIter (.ref c.2)) Q E s:=by
 obtain ⟨b,a⟩:=c
 cases b with
 | true=>exact wpAny_pyIter_list (show s.heap.IsList a xs from h) (hQ _ ⟨_,Heap.get?_push_size _ rfl,rfl,rfl⟩)
 | false=>exact wpAny_pyIter_tuple (show s.heap.IsTuple a xs from h) (hQ _ ⟨_,Heap.get?_push_size _ rfl,rfl,rfl⟩)
end
noncomputable abbrev dA (xs:List Value):Obj:={ cls:=.type "tuple",data:=.seq xs.toArray }
structure ZA (z TI TO:Addr) (ss:List Zs):Prop where
 nd:(z::TI::TO::ss.map Zs.it).Nodup
 ap:∀q∈ss,q.a ∉ z::TI::TO::ss.map Zs.it
section
variable {prog:Program} {w:World} {A:Around} {E:Value→Shared→Prop} {z TI TO:Addr} {i:Nat}
noncomputable def zQ (prog:Program) (w:World) (A:Around) (z TI TO:Addr) (f:Value × Nat→Option Fin × Unit→Sem (ForInStep (Option Fin × Unit))):Prop :=
 ∀(it:Addr) (k:Nat) (s:Shared) (R:ForInStep (Option Fin × Unit)→Shared→Prop) (E:Value→Shared→Prop),
  wpAny (model prog w) A (Builtin.SmallTypes.nextOf (.ref it)) (fun x s1=>∃arr,s1.heap.get? TO=some (dA arr)∧arr.length≤sizeLine∧∀h',h'.get? TO=some (dA (arr.set k x))→Heap.SameBut TO s1.heap h'→R (.yield (none,())) { s1 with heap:=h' })
   (fun e s1=>IsZip s1.heap z TI TO .ellipsis∧∀h',IsZip h' z TI TO .none→Heap.SameBut z s1.heap h'→E e { s1 with heap:=h' }) s →
  wpAny (model prog w) A (f (.ref it,k) (none,())) R E s
theorem Do {f:Value × Nat→Option Fin × Unit→Sem (ForInStep (Option Fin × Unit))} (hf:zQ prog w A z TI TO f):∀ {ss dn:List Zs} {dx xs arr:List Value} {s:Shared} {R:Option Fin × Unit→Shared→Prop},ZA z TI TO (dn++ss)→(dn++ss).length≤sizeLine →
  Paired (fun (q:Zs) (x:Value)=>q.xs[i]?=some x) ss xs→dx.length=dn.length→arr.length=ss.length→IsZip s.heap z TI TO .ellipsis→s.heap.get? TO=some (dA (dx++arr))→(∀q∈dn,SrcAt s.heap q (i+1))→(∀q∈ss,SrcAt s.heap q i) →
  (∀h',IsZip h' z TI TO .ellipsis→h'.get? TO=some (dA (dx++xs))→(∀q∈dn++ss,SrcAt h' q (i+1))→h'.objs.size=s.heap.objs.size→(∀c o,c ∉ TO::(dn++ss).map Zs.it→s.heap.get? c=some o→h'.get? c=some o)→R (none,()) { s with heap:=h' }) →
  wpAny (model prog w) A (forIn ((ss.map fun q=>Value.ref q.it).zipIdx dn.length) (none,()) f) R E s:=by
 intro ss
 induction ss with
 | nil =>
  intro dn dx xs arr s R ap hsz hp hl ha hz hTO h1 h2 hR
  cases hp
  have:arr=[]:=List.length_eq_zero_iff.mp ha
  subst this
  exact wpAny_pure (hR s.heap hz hTO (by simpa using h1) rfl fun c o _ e=>e)
 | cons q ss ih =>
  intro dn dx xs arr s R ap hsz hp hl ha hz hTO h1 h2 hR
  cases hp with
  | @cons _ x _ xs hx hp =>
  cases arr with
  | nil=>simp at ha
  | cons b arr =>
  rw [List.map_cons,List.zipIdx_cons,List.forIn_cons]
  have nd:=ap.nd
  have qm:q∈dn++q::ss:=by simp
  have im:q.it∈(dn++q::ss).map Zs.it:=List.mem_map.mpr ⟨q,qm,rfl⟩
  have zi:z≠q.it:=fun e=>by
   have:=(List.nodup_cons.mp nd).1
   exact this (by simp [e])
  have ti:TO≠q.it:=fun e=>by
   have:=(List.nodup_cons.mp (List.nodup_cons.mp (List.nodup_cons.mp nd).2).2).1
   exact this (by rw [e];exact im)
  have zt:z≠TO:=fun e=>by
   have:=(List.nodup_cons.mp nd).1
   exact this (by simp [e])
  have ni:=(List.nodup_cons.mp (List.nodup_cons.mp (List.nodup_cons.mp nd).2).2).2
  have oth:∀p,p∈dn∨p∈ss→p.it≠q.it:=fun p hp e=>by
   rw [List.map_append,List.map_cons] at ni
   rcases hp with hp|hp
   ·have:=(List.nodup_append.mp ni).2.2 p.it (List.mem_map.mpr ⟨p,hp,rfl⟩) q.it (by simp)
    exact this e
   ·have:=(List.nodup_cons.mp (List.nodup_append.mp ni).2.1).1
    exact this (by rw [←e];exact List.mem_map.mpr ⟨p,hp,rfl⟩)
  have apa:∀p∈dn++q::ss,p.a≠q.it∧p.a≠TO:=fun p hp=>⟨fun e=>ap.ap p hp (by rw [e];simp),fun e=>ap.ap p hp (by rw [e];simp)⟩
  have tot:∀p∈dn++q::ss,p.it≠TO:=fun p hp e=>by
   have:=(List.nodup_cons.mp (List.nodup_cons.mp (List.nodup_cons.mp nd).2).2).1
   exact this (by rw [←e];exact List.mem_map.mpr ⟨p,hp,rfl⟩)
  refine wpAny_bind (hf q.it dn.length s _ _ ?_)
  refine rq (apa q qm).1 (h2 q (by simp)) hx fun h' k1 k2=>⟨dx++b::arr,by show h'.get? TO=_;rw [k2.2 TO ti];exact hTO,by rw [List.length_append,hl,ha,←List.length_append];exact hsz,fun h'' k3 k4=>?_⟩
  have both:∀c o,c≠q.it→c≠TO→s.heap.get? c=some o→h''.get? c=some o:=fun c o c1 c2 e=>by
   rw [k4.2 c c2]
   show h'.get? c=some o
   rw [k2.2 c c1]
   exact e
  have e3:(dx++b::arr).set dn.length x=(dx++[x])++arr:=by
   rw [←hl,List.set_append_right _ _ (Nat.le_refl _),Nat.sub_self]
   simp
  rw [e3] at k3
  have ea:dn++q::ss=(dn++[q])++ss:=by simp
  have el:dn.length+1=(dn++[q]).length:=by simp
  show wpAny _ _ (forIn ((ss.map fun q=>Value.ref q.it).zipIdx (dn.length+1)) (none,()) f) R E _
  rw [el]
  refine ih (dn:=dn++[q]) (dx:=dx++[x]) (xs:=xs) (arr:=arr) (by rw [←ea];exact ap) (by rw [←ea];exact hsz) hp (by simp [hl]) (by simpa using ha) (both z _ zi zt hz) k3 (fun p hp=>?_) (fun p hp=>?_) fun h3 j1 j2 j3 j4 j5=>?_
  ·rcases List.mem_append.mp hp with hp|hp
   ·exact (h1 p hp).keep (fun o e=>both _ o (oth p (.inl hp)) (tot p (by simp [hp])) e) fun o e=>both _ o (apa p (by simp [hp])).1 (apa p (by simp [hp])).2 e
   ·rw [List.mem_singleton] at hp
    subst hp
    exact k1.keep (fun o e=>by rw [k4.2 _ (Ne.symm ti)];exact e) fun o e=>by rw [k4.2 _ (apa p qm).2];exact e
  ·exact (h2 p (by simp [hp])).keep (fun o e=>both _ o (oth p (.inr hp)) (tot p (by simp [hp])) e) fun o e=>both _ o (apa p (by simp [hp])).1 (apa p (by simp [hp])).2 e
  ·refine hR h3 j1 (by rw [j2];simp) (by rw [ea];exact j3) (by rw [j4,k4.1];exact k2.1) fun c o hc e=>?_
   rw [ea] at hc
   refine j5 c o hc (both c o (fun z=>hc ?_) (fun z=>hc ?_) e)
   ·rw [z];simp
   ·rw [z];simp
theorem Ad {f:Value × Nat→Option Fin × Unit→Sem (ForInStep (Option Fin × Unit))} (hf:zQ prog w A z TI TO f) (hh:A.handled=none):∀ {ss dn:List Zs} {dx arr:List Value} {s:Shared} {R:Option Fin × Unit→Shared→Prop},ZA z TI TO (dn++ss)→(dn++ss).length≤sizeLine →
  (∃q∈ss,q.xs[i]?=none)→dx.length=dn.length→arr.length=ss.length→IsZip s.heap z TI TO .ellipsis→s.heap.get? TO=some (dA (dx++arr))→(∀q∈ss,SrcAt s.heap q i) →
  (∀h' e,(∀c o,c ∉ z::TO::(dn++ss).map Zs.it→s.heap.get? c=some o→h'.get? c=some o)→(∃o,h'.get? e=some o∧o.cls=.type "StopIteration")→E (.ref e) { s with heap:=h' }) →
  wpAny (model prog w) A (forIn ((ss.map fun q=>Value.ref q.it).zipIdx dn.length) (none,()) f) R E s:=by
 intro ss
 induction ss with
 | nil =>
  intro dn dx arr s R ap hsz hq
  obtain ⟨q,hq,_⟩:=hq
  cases hq
 | cons q ss ih =>
  intro dn dx arr s R ap hsz hq hl ha hz hTO h2 hE
  cases arr with
  | nil=>simp at ha
  | cons b arr =>
  rw [List.map_cons,List.zipIdx_cons,List.forIn_cons]
  have nd:=ap.nd
  have qm:q∈dn++q::ss:=by simp
  have im:q.it∈(dn++q::ss).map Zs.it:=List.mem_map.mpr ⟨q,qm,rfl⟩
  have zi:z≠q.it:=fun e=>(List.nodup_cons.mp nd).1 (by simp [e])
  have ti:TO≠q.it:=fun e=>(List.nodup_cons.mp (List.nodup_cons.mp (List.nodup_cons.mp nd).2).2).1 (by rw [e];exact im)
  have zt:z≠TO:=fun e=>(List.nodup_cons.mp nd).1 (by simp [e])
  have ni:=(List.nodup_cons.mp (List.nodup_cons.mp (List.nodup_cons.mp nd).2).2).2
  have oth:∀p,p∈ss→p.it≠q.it:=fun p hp e=>by
   rw [List.map_append,List.map_cons] at ni
   exact (List.nodup_cons.mp (List.nodup_append.mp ni).2.1).1 (by rw [←e];exact List.mem_map.mpr ⟨p,hp,rfl⟩)
  have apa:∀p∈dn++q::ss,p.a≠q.it∧p.a≠TO:=fun p hp=>⟨fun e=>ap.ap p hp (by rw [e];simp),fun e=>ap.ap p hp (by rw [e];simp)⟩
  have tot:∀p∈dn++q::ss,p.it≠TO:=fun p hp e=>(List.nodup_cons.mp (List.nodup_cons.mp (List.nodup_cons.mp nd).2).2).1 (by rw [←e];exact List.mem_map.mpr ⟨p,hp,rfl⟩)
  refine wpAny_bind (hf q.it dn.length s _ _ ?_)
  cases hx:q.xs[i]? with
  | none =>
   refine Cj hh (h2 q (by simp)) hx fun h' e k1 k2=>?_
   have hz2:IsZip h' z TI TO .ellipsis:=k1 _ _ zi hz
   obtain ⟨oe,he,hc⟩:=k2
   have ez:e≠z:=fun z=>by subst z;rw [hz2] at he;cases he;simp at hc
   refine ⟨hz2,fun h'' _ k4=>hE h'' e (fun c o hc e=>?_) ⟨oe,by rw [k4.2 e ez];exact he,hc⟩⟩
   rw [k4.2 c (fun z=>hc (by rw [z];simp))]
   exact k1 c o (fun z=>hc (by rw [z];simp)) e
  | some x =>
   refine rq (apa q qm).1 (h2 q (by simp)) hx fun h' k1 k2=>⟨dx++b::arr,by show h'.get? TO=_;rw [k2.2 TO ti];exact hTO,by rw [List.length_append,hl,ha,←List.length_append];exact hsz,fun h'' k3 k4=>?_⟩
   have both:∀c o,c≠q.it→c≠TO→s.heap.get? c=some o→h''.get? c=some o:=fun c o c1 c2 e=>by
    rw [k4.2 c c2]
    show h'.get? c=some o
    rw [k2.2 c c1]
    exact e
   have e3:(dx++b::arr).set dn.length x=(dx++[x])++arr:=by
    rw [←hl,List.set_append_right _ _ (Nat.le_refl _),Nat.sub_self]
    simp
   rw [e3] at k3
   have ea:dn++q::ss=(dn++[q])++ss:=by simp
   have el:dn.length+1=(dn++[q]).length:=by simp
   show wpAny _ _ (forIn ((ss.map fun q=>Value.ref q.it).zipIdx (dn.length+1)) (none,()) f) R E _
   rw [el]
   obtain ⟨p,hp,hn⟩:=hq
   have hp':p∈ss:=by
    rcases List.mem_cons.mp hp with rfl|h
    ·rw [hx] at hn;cases hn
    ·exact h
   refine ih (dn:=dn++[q]) (dx:=dx++[x]) (arr:=arr) (by rw [←ea];exact ap) (by rw [←ea];exact hsz) ⟨p,hp',hn⟩ (by simp [hl]) (by simpa using ha) (both z _ zi zt hz) k3 (fun p hp=>?_) fun h3 e j1 j2=>hE h3 e (fun c o hc e=>?_) j2
   ·exact (h2 p (by simp [hp])).keep (fun o e=>both _ o (oth p hp) (tot p (by simp [hp])) e) fun o e=>both _ o (apa p (by simp [hp])).1 (apa p (by simp [hp])).2 e
   ·rw [ea] at hc
    refine j1 c o hc (both c o (fun z=>hc ?_) (fun z=>hc ?_) e)
    ·rw [z];simp
    ·rw [z];simp
theorem FP {s:Shared} {xs:List Value} {k:Nat} {x:Value} {Q:Unit→Shared→Prop} (hT:s.heap.get? TO=some (dA xs)) (hs:xs.length≤sizeLine) (h:∀h',h'.get? TO=some (dA (xs.set k x))→Heap.SameBut TO s.heap h'→Q () { s with heap:=h' }) :
  wpAny (model prog w) A (updateSeq TO fun v=>v.setIfInBounds k x) Q E s:=by
 refine wpAny_updateSeq hT rfl (h _ ?_ (Heap.SameBut.update _ _ _)) (by simpa using hs) (by simp;omega)
 rw [Heap.get?_update_self _ hT rfl]
 simp [Obj.mapSeq]
theorem AL {s:Shared} {T:Addr} {Q:Unit→Shared→Prop} (hz:IsZip s.heap z TI TO .ellipsis) (h:∀h',IsZip h' z TI TO (rawInt T)→Heap.SameBut z s.heap h'→Q () { s with heap:=h' }):wpAny (model prog w) A (Builtin.SmallTypes.ownedTupleHandOut (.ref z) (.ref T)) Q E s:=by
 refine wpAny_bind (wpAny_setField_rec hz (Nat.zero_lt_succ _) fun h1 k1 k2=>?_)
 have k1:IsZip h1 z TI TO (rawInt T):=k1
 refine wpAny_setField_rec k1 (Nat.succ_lt_succ (Nat.zero_lt_succ _)) fun h2 k3 k4=>?_
 exact h h2 k3 ⟨k4.1.trans k2.1,fun c hc=>(k4.2 c hc).trans (k2.2 c hc)⟩
theorem qZ {s:Shared} {ss:List Zs} {arr:List Value} {Q:Fin→Shared→Prop} (hz:IsZip s.heap z TI TO .none) (hTI:s.heap.get? TI=some (dA (ss.map fun q=>Value.ref q.it))) (hTO:s.heap.get? TO=some (dA arr)) (hne:ss≠[])
  (h:∀f h',zQ prog w A z TI TO f→IsZip h' z TI TO .ellipsis→Heap.SameBut z s.heap h'→wpAny (model prog w) A (forIn ((ss.map fun q=>Value.ref q.it).zipIdx 0) (none,()) f) (fun r s1=>r.1=none∧IsZip s1.heap z TI TO .ellipsis∧∃xs,s1.heap.get? TO=some (dA xs)∧xs.length≤sizeLine ∧
   ∀h2,IsZip h2 z TI TO (rawInt s1.heap.objs.size)→h2.get? s1.heap.objs.size=some (dA xs)→h2.objs.size=s1.heap.objs.size+1→(∀c o,c≠z→s1.heap.get? c=some o→h2.get? c=some o)→Q (.done (.ret (.ref s1.heap.objs.size))) { s1 with heap:=h2 }) E { s with heap:=h' }) :
  wpAny (model prog w) A (Builtin.«zip.__next__» ⟨[.ref z],[]⟩) Q E s:=by
 have hemp:(ss.map fun q=>Value.ref q.it).toArray.isEmpty=false:=by
  cases ss with
  | nil=>exact absurd rfl hne
  | cons a b=>rfl
 refine wpAny_bind (wpAny_pure ?_)
 refine wpAny_bind (wpAny_field (i:=2) hz rfl rfl ?_)
 refine wpAny_bind (wpAny_field (i:=3) hz rfl rfl ?_)
 refine wpAny_bind (wpAny_seqItems hTI rfl ?_)
 dsimp only
 rw [hemp]
 simp only [Bool.false_eq_true,if_false]
 refine wpAny_bind (wpAny_bind (wpAny_field (i:=0) hz rfl rfl (wpAny_pure ?_)))
 rw [if_pos rfl]
 refine wpAny_bind (wpAny_rule ?_)
 refine wpAny_bind (wpAny_field (i:=4) hz rfl rfl ?_)
 refine wpAny_bind (wpAny_setField_rec hz (Nat.zero_lt_succ _) fun h1 k1 k2=>?_)
 refine wpAny_bind (wpAny_mono (h _ h1 ?_ k1 k2) (fun r s1 hr=>?_) fun _ _ e=>e)
 ·intro it k s2 R E2 hw
  refine wpAny_bind (wpAny_onRaise ?_)
  refine wpAny_bind (m:=Builtin.SmallTypes.nextOf (.ref it)) (wpAny_mono hw (fun x s3 hx=>?_) fun e s3 he=>?_)
  ·obtain ⟨arr,e1,e0,e2⟩:=hx
   refine wpAny_pure ?_
   refine wpAny_bind (wpAny_seqItems e1 rfl ?_)
   refine wpAny_bind (FP e1 e0 fun h' q1 q2=>?_)
   exact wpAny_bind (wpAny_letGo (wpAny_pure (e2 h' q1 q2)))
  ·exact wpAny_setField_rec he.1 (Nat.zero_lt_succ _) fun h' q1 q2=>he.2 h' q1 q2
 ·obtain ⟨hn,z1,xs,t1,lx,q⟩:=hr
  rw [hn]
  refine wpAny_bind (wpAny_seqItems t1 rfl ?_)
  refine wpAny_bind (wpAny_newTuple ?_ lx)
  have z2:IsZip (s1.heap.push (dA xs)) z TI TO .ellipsis:=Heap.get?_push_of_some _ z1
  refine wpAny_bind (AL (s:={ s1 with heap:=s1.heap.push (dA xs) }) z2 fun h' q1 q2=>wpAny_pure ?_)
  have nz:s1.heap.objs.size≠z:=fun e=>absurd (Heap.lt_size z1) (by rw [←e];exact Nat.lt_irrefl _)
  refine q h' q1 (by rw [q2.2 _ nz];exact Heap.get?_push_size _ rfl) (q2.1.trans (Heap.size_push _ _)) fun c o hc e=>?_
  rw [q2.2 c hc]
  exact Heap.get?_push_of_some _ e
noncomputable def ZSt (z TI TO:Addr) (its:List Addr) (h:Heap):Prop:=IsZip h z TI TO .none∧h.get? TI=some (dA (its.map Value.ref))∧∃arr,arr.length=its.length∧h.get? TO=some (dA arr)
theorem zm {ss:List Zs}:(ss.map fun q=>Value.ref q.it)=(ss.map Zs.it).map Value.ref:=by rw [List.map_map];rfl
theorem Ar {s:Shared} {ss:List Zs} {xs:List Value} {Q:Option Value→Shared→Prop} (ap:ZA z TI TO ss) (hne:ss≠[]) (hs:ss.length≤sizeLine) (hz:ZSt z TI TO (ss.map Zs.it) s.heap) (h1:∀q∈ss,SrcAt s.heap q i) (hp:Paired (fun (q:Zs) (x:Value)=>q.xs[i]?=some x) ss xs)
  (hQ:∀h' T,s.heap.objs.size≤T→IsZip h' z TI TO (rawInt T)→h'.get? TI=some (dA ((ss.map Zs.it).map Value.ref))→h'.get? TO=some (dA xs)→(∀q∈ss,SrcAt h' q (i+1))→h'.get? T=some (dA xs)→T ∉ z::TI::TO::ss.map Zs.it→(∀c o,c ∉ z::TI::TO::ss.map Zs.it→s.heap.get? c=some o→h'.get? c=some o)→Q (some (.ref T)) { s with heap:=h' }) :
  wpAny (model prog w) A (pyNext (.ref z)) Q E s:=by
 obtain ⟨z1,t1,arr,la,t2⟩:=hz
 have hT:s.TypeIs (.ref z) "zip":=⟨_,z1,rfl⟩
 have nd:=ap.nd
 have TIz:TI≠z:=fun e=>(List.nodup_cons.mp nd).1 (by simp [e])
 have TOz:TO≠z:=fun e=>(List.nodup_cons.mp nd).1 (by simp [e])
 have itz:∀q∈ss,q.it≠z:=fun q hq e=>(List.nodup_cons.mp nd).1 (by rw [←e];simp;exact .inr (.inr ⟨q,hq,rfl⟩))
 have az:∀q∈ss,q.a≠z:=fun q hq e=>ap.ap q hq (by rw [e];simp)
 have TIn:=(List.nodup_cons.mp (List.nodup_cons.mp nd).2).1
 refine wpAny_bind (wpAny_attempt (wpAny_callSpecial?_slot hT F.slot_zip_next (wpAny_call_entry F.slot_zip_next hT F.entry_zip_next ?_ (F.args_zip_next_1 _))))
 refine qZ (arr:=arr) z1 (by rw [zm];exact t1) t2 hne fun f h1' hf k1 k2=>?_
 have src:∀q∈ss,SrcAt h1' q i:=fun q hq=>(h1 q hq).keep (fun o e=>by rw [k2.2 _ (itz q hq)];exact e) fun o e=>by rw [k2.2 _ (az q hq)];exact e
 have lp:=hp.length
 refine Do (dn:=[]) (dx:=[]) (s:={ s with heap:=h1' }) hf ap hs hp rfl (by rw [la,List.length_map]) k1 (by rw [k2.2 _ TOz];exact t2) (fun q hq=>nomatch hq) src fun h2 j1 j2 j3 j4 j5=>?_
 refine ⟨rfl,j1,xs,j2,by rw [←lp];exact hs,fun h3 m1 m2 m3 m4=>⟨_,rfl,wpAny_pure ?_⟩⟩
 have big:∀c o,s.heap.get? c=some o→c≠h2.objs.size:=fun c o e z=>by
  have:=Heap.lt_size e
  rw [z,j4,k2.1] at this
  exact absurd this (Nat.lt_irrefl _)
 have all:∀c o,c ∉ z::TI::TO::ss.map Zs.it→s.heap.get? c=some o→h3.get? c=some o:=fun c o hc e=>by
  refine m4 c o (fun z=>hc (by rw [z];simp)) (j5 c o (fun z=>hc ?_) ?_)
  ·rcases List.mem_cons.mp z with z|z
   ·rw [z];simp
   ·exact List.mem_cons_of_mem _ (List.mem_cons_of_mem _ (List.mem_cons_of_mem _ z))
  ·show h1'.get? c=some o
   rw [k2.2 c (fun z=>hc (by rw [z];simp))]
   exact e
 refine hQ h3 _ (by rw [j4,k2.1];exact Nat.le_refl _) m1 ?_ (m4 _ _ TOz j2) (fun q hq=>(j3 q hq).keep (fun o e=>m4 _ o (itz q hq) e) fun o e=>m4 _ o (az q hq) e) m2 (fun hm=>?_) all
 ·refine m4 _ _ TIz (j5 _ _ (fun z=>TIn ?_) ?_)
  ·exact z
  ·show h1'.get? TI=_
   rw [k2.2 _ TIz]
   exact t1
 ·simp only [List.mem_cons] at hm
  rcases hm with e|e|e|e
  ·exact big z _ z1 e.symm
  ·exact big TI _ t1 e.symm
  ·exact big TO _ t2 e.symm
  ·obtain ⟨q,hq,e⟩:=List.mem_map.mp e
   obtain ⟨o,_,eo,_⟩:=(h1 q hq).obj
   exact big _ _ eo e
theorem AY {s:Shared} {ss:List Zs} {Q:Option Value→Shared→Prop} (hh:A.handled=none) (ap:ZA z TI TO ss) (hs:ss.length≤sizeLine) (hz:ZSt z TI TO (ss.map Zs.it) s.heap) (h1:∀q∈ss,SrcAt s.heap q i) (hn:∃q∈ss,q.xs[i]?=none)
  (hQ:∀h',(∀c o,c ∉ z::TI::TO::ss.map Zs.it→s.heap.get? c=some o→h'.get? c=some o)→Q none { s with heap:=h' }):wpAny (model prog w) A (pyNext (.ref z)) Q E s:=by
 obtain ⟨z1,t1,arr,la,t2⟩:=hz
 have hT:s.TypeIs (.ref z) "zip":=⟨_,z1,rfl⟩
 have nd:=ap.nd
 have TOz:TO≠z:=fun e=>(List.nodup_cons.mp nd).1 (by simp [e])
 have itz:∀q∈ss,q.it≠z:=fun q hq e=>(List.nodup_cons.mp nd).1 (by rw [←e];simp;exact .inr (.inr ⟨q,hq,rfl⟩))
 have az:∀q∈ss,q.a≠z:=fun q hq e=>ap.ap q hq (by rw [e];simp)
 have hne:ss≠[]:=fun e=>by obtain ⟨q,hq,_⟩:=hn;rw [e] at hq;cases hq
 refine wpAny_bind (wpAny_attempt (wpAny_callSpecial?_slot hT F.slot_zip_next (wpAny_call_entry F.slot_zip_next hT F.entry_zip_next ?_ (F.args_zip_next_1 _))))
 refine qZ (arr:=arr) z1 (by rw [zm];exact t1) t2 hne fun f h1' hf k1 k2=>?_
 have src:∀q∈ss,SrcAt h1' q i:=fun q hq=>(h1 q hq).keep (fun o e=>by rw [k2.2 _ (itz q hq)];exact e) fun o e=>by rw [k2.2 _ (az q hq)];exact e
 refine Ad (A:=A.in1) (dn:=[]) (dx:=[]) (s:={ s with heap:=h1' }) hf hh ap hs hn rfl (by rw [la,List.length_map]) k1 (by rw [k2.2 _ TOz];exact t2) src fun h2 e j1 j2=>?_
 refine wpAny_bind (wpAny_isInstance (T:="StopIteration") (b:=true) j2 isSubtype_stop (wpAny_pure (hQ h2 fun c o hc e=>?_)))
 refine j1 c o (fun z=>hc ?_) ?_
 ·rcases List.mem_cons.mp z with z|z
  ·rw [z];simp
  ·rcases List.mem_cons.mp z with z|z
   ·rw [z];simp
   ·exact List.mem_cons_of_mem _ (List.mem_cons_of_mem _ (List.mem_cons_of_mem _ z))
 ·show h1'.get? c=some o
  rw [k2.2 c (fun z=>hc (by rw [z];simp))]
  exact e
end
noncomputable def SqB (K:PySem.W.Frag) (H:Hp) (c:Bool × Addr) (xs:List V):Prop:=if c.1=true then SqL K H c.2 xs else SqT K H c.2 xs
noncomputable def Itn (K:PySem.W.Frag) (cs:List (Bool × Addr)):L2.It :=
 ⟨fun i H=>∃xss ys,Paired (SqB K H) cs xss∧Paired (fun (xs:List V) (y:V)=>xs[i]?=some y) xss ys,
  fun i H v H'=>∃T,v=.ref T∧H T=none∧∀xss ys,Paired (SqB K H) cs xss→Paired (fun (xs:List V) (y:V)=>xs[i]?=some y) xss ys→H'=upd H T (.tup ys),
  fun i H=>∃xss,Paired (SqB K H) cs xss∧∃xs∈xss,xs.length=i⟩
theorem pB {α β:Type} {F:α→β→Prop}:∀ {l:List α} {r:List β} {a:α},Paired F l r→a∈l→∃b∈r,F a b
 | _,_,_,.nil,h=>nomatch h
 | _,_,_,.cons f t,h=>by
  rcases List.mem_cons.mp h with rfl|h
  ·exact ⟨_,by simp,f⟩
  ·obtain ⟨b,h1,h2⟩:=pB t h
   exact ⟨b,by simp [h1],h2⟩
theorem sV {X:Cx} {pins:List (Addr × Obj)} {σ:L2.St} {H:Hp} {s:Shared} {i:Nat} (I:L2.Inv X pins σ H s):∀ {its:List Addr} {cs:List (Bool × Addr)} {xss:List (List V)},Paired (fun it c=>ItB s.heap it c i) its cs→Paired (SqB X.K H) cs xss →
  ∃ss:List Zs,ss.map Zs.it=its∧ss.map Zs.c=cs∧(∀q∈ss,SrcAt s.heap q i)∧Paired (fun (q:Zs) (xs:List V)=>Vals xs q.xs.toList) ss xss
 | _,_,_,.nil,.nil=>⟨[],rfl,rfl,fun q hq=>(nomatch hq),.nil⟩
 | _,_,_,.cons (a:=it) (b:=c) h1 t1,.cons (b:=xs) h2 t2=>by
  obtain ⟨ss,e1,e2,e3,e4⟩:=sV I t1 t2
  obtain ⟨b,a⟩:=c
  cases b with
  | true =>
   obtain ⟨its1,rv1,p1,hz1⟩:=I.list (show SqL X.K H a xs from h2)
   refine ⟨⟨it,(true,a),its1.toArray⟩::ss,by rw [List.map_cons,e1],by rw [List.map_cons,e2],fun q hq=>?_,.cons (by simpa using rv1) e4⟩
   rcases List.mem_cons.mp hq with rfl|hq
   ·exact ⟨h1,p1.isList⟩
   ·exact e3 q hq
  | false =>
   obtain ⟨its1,rv1,p1,hz1⟩:=I.tuple (show SqT X.K H a xs from h2)
   refine ⟨⟨it,(false,a),its1.toArray⟩::ss,by rw [List.map_cons,e1],by rw [List.map_cons,e2],fun q hq=>?_,.cons (by simpa using rv1) e4⟩
   rcases List.mem_cons.mp hq with rfl|hq
   ·exact ⟨h1,p1⟩
   ·exact e3 q hq
theorem rP {i:Nat}:∀ {ss:List Zs} {xss:List (List V)} {ys:List V},Paired (fun (q:Zs) (xs:List V)=>Vals xs q.xs.toList) ss xss→Paired (fun (xs:List V) (y:V)=>xs[i]?=some y) xss ys→∃us,Paired (fun (q:Zs) (x:Value)=>q.xs[i]?=some x) ss us∧Vals ys us
 | _,_,_,.nil,.nil=>⟨[],.nil,.nil⟩
 | _,_,_,.cons h1 t1,.cons h2 t2=>by
  obtain ⟨us,e1,e2⟩:=rP t1 t2
  obtain ⟨u,e3,e4⟩:=h1.get h2
  exact ⟨u::us,.cons (by simpa using e3) e1,.cons e4 e2⟩
theorem SqB.inj {X:Cx} {pins:List (Addr × Obj)} {σ:L2.St} {H:Hp} {s:Shared} (I:L2.Inv X pins σ H s):∀ {cs:List (Bool × Addr)} {xss yss:List (List V)},Paired (SqB X.K H) cs xss→Paired (SqB X.K H) cs yss→xss=yss
 | _,_,_,.nil,.nil=>rfl
 | _,_,_,.cons (a:=c) h1 t1,.cons h2 t2=>by
  rw [SqB.inj I t1 t2]
  obtain ⟨b,a⟩:=c
  cases b with
  | true=>rw [I.list_inj (show SqL X.K H a _ from h1) h2]
  | false=>rw [I.tuple_inj (show SqT X.K H a _ from h1) h2]
theorem yY {i:Nat}:∀ {xss:List (List V)} {ys zs:List V},Paired (fun (xs:List V) (y:V)=>xs[i]?=some y) xss ys→Paired (fun (xs:List V) (y:V)=>xs[i]?=some y) xss zs→ys=zs
 | _,_,_,.nil,.nil=>rfl
 | _,_,_,.cons h1 t1,.cons h2 t2=>by rw [yY t1 t2];rw [h1] at h2;cases h2;rfl
theorem wH {P:Program} {w:World} {K:PySem.W.Frag} {elts:List Expr} {kt:Nat} {pt:Pos} {z TI TO:Addr} {its:List Addr} {cs:List (Bool × Addr)} (nd:(z::TI::TO::its).Nodup) (ap:∀c∈cs,c.2 ∉ z::TI::TO::its) (hne:its≠[]) (hs:its.length≤100) :
  wM P w K (.Tuple elts kt pt) (Itn K cs) (z::TI::TO::its) z (fun i h=>ZSt z TI TO its h∧Paired (fun it c=>ItB h it c i) its cs) where
 mem:=by simp
 obj:=fun i h st c hc=>by
  obtain ⟨⟨h1,h2,arr,la,h3⟩,h4⟩:=st
  simp only [List.mem_cons] at hc
  rcases hc with rfl|rfl|rfl|hc
  ·exact ⟨_,h1,fun v z=>nomatch z⟩
  ·exact ⟨_,h2,fun v z=>nomatch z⟩
  ·exact ⟨_,h3,fun v z=>nomatch z⟩
  ·obtain ⟨d,_,e⟩:=pB h4 hc
   obtain ⟨o,vs,e1,e2⟩:=e.obj
   exact ⟨o,e1,fun v z=>by rw [e2] at z;cases z⟩
 keep:=fun i h h' st k=>by
  obtain ⟨⟨h1,h2,arr,la,h3⟩,h4⟩:=st
  refine ⟨⟨k z (by simp) _ h1,k TI (by simp) _ h2,arr,la,k TO (by simp) _ h3⟩,?_⟩
  have:∀ {l:List Addr} {r:List (Bool × Addr)},(∀x∈l,x∈its)→Paired (fun it c=>ItB h it c i) l r→Paired (fun it c=>ItB h' it c i) l r:=by
   intro l r hl hp
   induction hp with
   | nil=>exact .nil
   | cons f t ih=>exact .cons (f.keep fun o e=>k _ (by simp [hl _ List.mem_cons_self]) o e) (ih fun x hx=>hl x (List.mem_cons_of_mem _ hx))
  exact this (fun x hx=>hx) h4
 item:=by
  intro X hP hw hK hc i pins s σ H E I hf st hg
  subst hP hw hK
  obtain ⟨xss,ys,g1,g2⟩:=hg
  obtain ⟨hz,h4⟩:=st
  obtain ⟨ss,e1,e2,e3,e4⟩:=sV I h4 g1
  obtain ⟨us,f1,f2⟩:=rP e4 g2
  have za:ZA z TI TO ss:=⟨by rw [e1];exact nd,fun q hq=>by
   rw [e1]
   exact ap q.c (by rw [←e2];exact List.mem_map.mpr ⟨q,hq,rfl⟩)⟩
  have ssl:ss.length=its.length:=by rw [←e1,List.length_map]
  have line:(100:Nat)≤sizeLine:=by decide
  refine Ar (i:=i) (ss:=ss) (xs:=us) za (fun e=>hne (by rw [←e1,e];rfl)) (by rw [ssl];exact Nat.le_trans hs line) (by rw [e1];exact hz) e3 f1 fun h' T lT z1 t1 t2 s1 tT nT kk=>?_
  rw [e1] at t1 nT kk
  refine ⟨_,rfl,wpAny_letOwnedTupleGo_zip (s:={ s with heap:=h' }) z1 fun h'' z2 sb=>?_⟩
  have nz:∀ {c:Addr},c∈TI::TO::its→c≠z:=fun hc e=>(List.nodup_cons.mp nd).1 (by rw [←e];exact hc)
  have Tz:T≠z:=fun e=>nT (by rw [e];simp)
  have yl:ys.length≤100:=by rw [←g2.length,←g1.length,←h4.length];exact hs
  have I2:L2.Inv X pins σ (upd H T (.tup ys)) { s with heap:=h'' }:=wu (t':=s.toks) (its:=us) (wr:=z::TI::TO::its) I (fun b o hb e=>by
   rw [sb.2 b (fun q=>hb (by rw [q];simp))]
   exact kk b o hb e) (fun b hb=>hf b hb) lT f2 (Nat.le_trans yl line) ⟨_,by rw [sb.2 T Tz];exact tT,rfl,0,rfl⟩
  refine ⟨.ref T,_,I2,rfl,⟨T,rfl,I.hok.fresh lT,fun xss' ys' k1 k2=>?_⟩,⟨⟨z2,by rw [sb.2 TI (nz (by simp))];exact t1,us,?_,by rw [sb.2 TO (nz (by simp))];exact t2⟩,?_⟩,fun b hb=>?_⟩
  ·have:=SqB.inj I k1 g1
   subst this
   rw [yY k2 g2]
  ·rw [←f1.length];exact ssl
  ·have go:∀ {l:List Zs},(∀q∈l,SrcAt h' q (i+1))→(∀q∈l,q.it≠z)→Paired (fun it c=>ItB h'' it c (i+1)) (l.map Zs.it) (l.map Zs.c):=by
    intro l
    induction l with
    | nil=>intro _ _;exact .nil
    | cons q l ih =>
     intro k1 k2
     exact .cons ((k1 q List.mem_cons_self).1.keep fun o e=>by rw [sb.2 _ (k2 q List.mem_cons_self)];exact e) (ih (fun p hp=>k1 p (List.mem_cons_of_mem _ hp)) fun p hp=>k2 p (List.mem_cons_of_mem _ hp))
   have:=go s1 fun q hq=>nz (List.mem_cons_of_mem _ (List.mem_cons_of_mem _ (by rw [←e1];exact List.mem_map.mpr ⟨q,hq,rfl⟩)))
   rw [e1,e2] at this
   exact this
  ·have hlt:b<s.heap.objs.size:=by
    obtain ⟨h1,h2,arr,la,h3⟩:=hz
    simp only [List.mem_cons] at hb
    rcases hb with rfl|rfl|rfl|hb
    ·exact Heap.lt_size h1
    ·exact Heap.lt_size h2
    ·exact Heap.lt_size h3
    ·obtain ⟨d,_,e⟩:=pB h4 hb
     obtain ⟨o,_,e,_⟩:=e.obj
     exact Heap.lt_size e
   rw [ak (Nat.ne_of_lt (Nat.lt_of_lt_of_le hlt lT))]
   exact (hf b hb).1
 done:=by
  intro X hP hw hK hc i pins s σ H E I hf st hg
  subst hP hw hK
  obtain ⟨xss,g1,xs,gx,gl⟩:=hg
  obtain ⟨hz,h4⟩:=st
  obtain ⟨ss,e1,e2,e3,e4⟩:=sV I h4 g1
  have za:ZA z TI TO ss:=⟨by rw [e1];exact nd,fun q hq=>by
   rw [e1]
   exact ap q.c (by rw [←e2];exact List.mem_map.mpr ⟨q,hq,rfl⟩)⟩
  have ssl:ss.length=its.length:=by rw [←e1,List.length_map]
  have line:(100:Nat)≤sizeLine:=by decide
  have hn:∃q∈ss,q.xs[i]?=none:=by
   have:∀ {l:List Zs} {r:List (List V)},Paired (fun (q:Zs) (xs:List V)=>Vals xs q.xs.toList) l r→xs∈r→∃q∈l,q.xs[i]?=none:=by
    intro l r hp hx
    induction hp with
    | nil=>cases hx
    | @cons q ys l r f t ih =>
     rcases List.mem_cons.mp hx with rfl|hx
     ·refine ⟨q,List.mem_cons_self,?_⟩
      have:=f.length
      exact Array.getElem?_eq_none (by rw [←gl,this];simp)
     ·obtain ⟨p,h1,h2⟩:=ih hx
      exact ⟨p,List.mem_cons_of_mem _ h1,h2⟩
   exact this e4 gx
  refine AY (i:=i) (ss:=ss) (I.ok.hd hc) za (by rw [ssl];exact Nat.le_trans hs line) (by rw [e1];exact hz) e3 hn fun h' kk=>?_
  rw [e1] at kk
  exact ⟨rfl,v_ (t':=s.toks) I kk fun b hb=>hf b hb⟩
 self:=fun _ _ _ _ _ st h=>wpAny_pyIter_zip st.1.1 h
section
variable {prog:Program} {w:World} {A:Around} {E:Value→Shared→Prop}
theorem GP {R:Array Value→Shared→Prop}:∀ {cs:List (Bool × Addr)} {acc:Array Value} {s:Shared},(∀c∈cs,∃xs,SeqB s.heap c xs) →
  (∀h',h'.objs.size=s.heap.objs.size+cs.length→(∀b o,s.heap.get? b=some o→h'.get? b=some o)→Paired (fun it c=>ItB h' it c 0) (List.range' s.heap.objs.size cs.length) cs→R (acc++((List.range' s.heap.objs.size cs.length).map Value.ref).toArray) { s with heap:=h' }) →
  wpAny (model prog w) A (forIn (cs.map fun c=>Value.ref c.2) acc fun x r=>do
   let v ←holding r.toList (pyIter x)
   pure (ForInStep.yield (r.push v))) R E s:=by
 intro cs
 induction cs with
 | nil =>
  intro acc s _ hR
  exact wpAny_pure (by simpa using hR s.heap rfl (fun _ _ e=>e) .nil)
 | cons c cs ih =>
  intro acc s hs hR
  rw [List.map_cons,List.forIn_cons]
  obtain ⟨xs,hx⟩:=hs c List.mem_cons_self
  refine wpAny_bind (wpAny_bind (wpAny_holding (Cq hx fun o ho=>wpAny_pure ?_)))
  refine ih (acc:=acc.push (.ref s.heap.objs.size)) (s:={ s with heap:=s.heap.push o }) (fun d hd=>?_) fun h' k1 k2 k3=>?_
  ·obtain ⟨ys,hy⟩:=hs d (List.mem_cons_of_mem _ hd)
   exact ⟨ys,hy.keep fun o e=>Heap.get?_push_of_some _ e⟩
  ·have sz:(s.heap.push o).objs.size=s.heap.objs.size+1:=Heap.size_push _ _
   have k1:h'.objs.size=(s.heap.push o).objs.size+cs.length:=k1
   have k3:Paired (fun it c=>ItB h' it c 0) (List.range' (s.heap.push o).objs.size cs.length) cs:=k3
   rw [sz] at k1 k3
   have:=hR h' (by rw [k1,List.length_cons];omega) (fun b u e=>k2 b u (Heap.get?_push_of_some _ e)) (by
    rw [List.length_cons,List.range'_succ]
    exact .cons (ho.keep fun u e=>k2 _ u e) k3)
   rw [List.length_cons,List.range'_succ] at this
   show R (acc.push (Value.ref s.heap.objs.size)++((List.range' (s.heap.push o).objs.size cs.length).map Value.ref).toArray) _
   rw [sz]
   simpa using this
theorem vp (cs:List (Bool × Addr)) (hl:cs.length≤100):Meets (Builtin.«zip.__new__» ⟨.type "zip"::cs.map (fun c=>Value.ref c.2),[]⟩) fun _ R s=>(∀c∈cs,∃xs,SeqB s.heap c xs) ∧
  ∀h',ZSt (s.heap.objs.size+cs.length+2) (s.heap.objs.size+cs.length) (s.heap.objs.size+cs.length+1) (List.range' s.heap.objs.size cs.length) h'→Paired (fun it c=>ItB h' it c 0) (List.range' s.heap.objs.size cs.length) cs→(∀b o,s.heap.get? b=some o→h'.get? b=some o)→R (.ok (.ret (.ref (s.heap.objs.size+cs.length+2)))) { s with heap:=h' }:=by
 intro prog w A R s ⟨h1,h⟩
 have line:(100:Nat)≤sizeLine:=by decide
 refine wpAny_bind ?_
 refine wpAny_bind (wpAny_pure ?_)
 rw [sub_zip]
 refine wpAny_bind (wpAny_pure ?_)
 refine wpAny_pure ?_
 refine wpAny_bind (m:=Builtin.SmallTypes.iterAll (cs.map fun c=>Value.ref c.2)) ?_
 refine wpAny_bind (GP h1 fun h' k1 k2 k3=>wpAny_pure ?_)
 have e0:(#[]++((List.range' s.heap.objs.size cs.length).map Value.ref).toArray:Array Value).toList=(List.range' s.heap.objs.size cs.length).map Value.ref:=by simp
 rw [e0]
 have ln:((List.range' s.heap.objs.size cs.length).map Value.ref).length=cs.length:=by simp
 refine wpAny_bind (wpAny_newTuple ?_ (by rw [ln];exact Nat.le_trans hl line))
 refine wpAny_bind (wpAny_newTuple ?_ (by rw [List.length_map,ln];exact Nat.le_trans hl line))
 refine wpAny_bind (wpAny_newObj_type (T:="zip") (data:=.fields #[.none,.bool false,.bool false,.ref h'.objs.size,.ref (h'.push (dA ((List.range' s.heap.objs.size cs.length).map Value.ref))).objs.size]) ?_)
 have s1:(h'.push (dA ((List.range' s.heap.objs.size cs.length).map Value.ref))).objs.size=s.heap.objs.size+cs.length+1:=(Heap.size_push _ _).trans (by rw [k1])
 have s2:((h'.push (dA ((List.range' s.heap.objs.size cs.length).map Value.ref))).push (dA (((List.range' s.heap.objs.size cs.length).map Value.ref).map fun _=>Value.none))).objs.size=s.heap.objs.size+cs.length+2:=(Heap.size_push _ _).trans (by rw [s1])
 refine wpAny_pure ?_
 show R (.ok (.ret (.ref ((h'.push (dA ((List.range' s.heap.objs.size cs.length).map Value.ref))).push (dA (((List.range' s.heap.objs.size cs.length).map Value.ref).map fun _=>Value.none))).objs.size))) _
 rw [s2]
 refine h _ ⟨?_,?_,((List.range' s.heap.objs.size cs.length).map Value.ref).map fun _=>Value.none,by simp,?_⟩ ?_ fun b o e=>Heap.get?_push_of_some _ (Heap.get?_push_of_some _ (Heap.get?_push_of_some _ (k2 b o e)))
 ·rw [←s2]
  have g:=Heap.get?_push_size ((h'.push (dA ((List.range' s.heap.objs.size cs.length).map Value.ref))).push (dA (((List.range' s.heap.objs.size cs.length).map Value.ref).map fun _=>Value.none))) (o:={ cls:=.type "zip",data:=.fields #[.none,.bool false,.bool false,.ref h'.objs.size,.ref (h'.push (dA ((List.range' s.heap.objs.size cs.length).map Value.ref))).objs.size] }) rfl
  rw [k1,s1] at g
  rw [k1,s1]
  exact g
 ·rw [←k1]
  exact Heap.get?_push_of_some _ (Heap.get?_push_of_some _ (Heap.get?_push_size _ rfl))
 ·rw [←s1]
  exact Heap.get?_push_of_some _ (Heap.get?_push_size _ rfl)
 ·have:∀ {l:List Addr} {r:List (Bool × Addr)},Paired (fun it c=>ItB h' it c 0) l r→∀ {g:Heap},(∀b o,h'.get? b=some o→g.get? b=some o)→Paired (fun it c=>ItB g it c 0) l r:=by
   intro l r hp g hg
   induction hp with
   | nil=>exact .nil
   | cons f t ih=>exact .cons (f.keep fun o e=>hg _ o e) ih
  exact this k3 fun b o e=>Heap.get?_push_of_some _ (Heap.get?_push_of_some _ (Heap.get?_push_of_some _ e))
end
section
variable {prog:Program} {w:World} {A:Around} {E:Value→Shared→Prop} {s:Shared}
noncomputable def Hh (cs:List (Bool × Addr)) (Q:Value→Shared→Prop) (s:Shared):Prop:=∀h',ZSt (s.heap.objs.size+cs.length+2) (s.heap.objs.size+cs.length) (s.heap.objs.size+cs.length+1) (List.range' s.heap.objs.size cs.length) h'→Paired (fun it c=>ItB h' it c 0) (List.range' s.heap.objs.size cs.length) cs→(∀b o,s.heap.get? b=some o→h'.get? b=some o) →
 Q (.ref (s.heap.objs.size+cs.length+2)) { s with heap:=h' }
theorem w_ (a b c:Value):checkTypeCall "zip" ⟨[a,b,c],[]⟩=pure ():=by kernel_rfl
theorem BW (a b c:Value):checkBuiltinCall "zip.__new__" ⟨[.type "zip",a,b,c],[]⟩=pure ():=by kernel_rfl
theorem xq (a b c d:Value):argsOk "object.__init__" ⟨[a,b,c,d],[]⟩:=by
 unfold argsOk
 rw [signature?_of (id:="object.__init__")
  (n:=['_','_','t','i','n','i','_','_'])
  (o:=['t','c','e','j','b','o'])
  (by kernel_rfl) F.owner_object]
 kernel_rfl
theorem ya {c1 c2 c3:Bool × Addr} {Q:Value→Shared→Prop} (h1:∀c∈[c1,c2,c3],∃xs,SeqB s.heap c xs) (h:Hh [c1,c2,c3] Q s):wpAny (model prog w) A (call (.type "zip") [.ref c1.2,.ref c2.2,.ref c3.2]) Q E s:=by
 refine callType_new F.called_zip rfl (w_ _ _ _) (BW _ _ _) (fun obj=>?_) F.entry_zip_new (vp [c1,c2,c3] (Nat.le_of_ble_eq_true rfl)) ⟨h1,fun h' k1 k2 k3=>⟨⟨_,k1.1,rfl⟩,h h' k1 k2 k3⟩⟩
 exact xq _ _ _ _
end
section
variable {X:Cx} {pins:List (Addr × Obj)} {σ:L2.St} {H:Hp} {s:Shared}
theorem SqB.seq {c:Bool × Addr} {xs:List V} (I:L2.Inv X pins σ H s) (h:SqB X.K H c xs):∃ys,SeqB s.heap c ys:=by
 obtain ⟨b,a⟩:=c
 cases b with
 | true=>obtain ⟨its,_,p,_⟩:=I.list (show SqL X.K H a xs from h);exact ⟨_,p.isList⟩
 | false=>obtain ⟨its,_,p,_⟩:=I.tuple (show SqT X.K H a xs from h);exact ⟨_,p⟩
theorem SeqB.lt {h:Heap} {c:Bool × Addr} {ys:Array Value} (z:SeqB h c ys):c.2<h.objs.size:=by
 obtain ⟨b,a⟩:=c
 cases b with
 | true=>obtain ⟨_,e,_⟩:=(show h.IsList a ys from z);exact Heap.lt_size e
 | false=>obtain ⟨_,e,_⟩:=(show h.IsTuple a ys from z);exact Heap.lt_size e
theorem Cs {N n b:Nat} (h:b∈(N+n+2)::(N+n)::(N+n+1)::List.range' N n):N≤b:=by
 simp only [List.mem_cons,List.mem_range'_1] at h
 omega
theorem EL (N n:Nat):((N+n+2)::(N+n)::(N+n+1)::List.range' N n).Nodup:=by
 refine List.nodup_cons.mpr ⟨fun h=>?_,List.nodup_cons.mpr ⟨fun h=>?_,List.nodup_cons.mpr ⟨fun h=>?_,List.nodup_range'⟩⟩⟩ <;> (simp only [List.mem_cons,List.mem_range'_1] at h;omega)
theorem B4 {elts:List Expr} {kt:Nat} {pt:Pos} {cs:List (Bool × Addr)} {R:L2.It→Hp→Prop} (I:L2.Inv X pins σ H s) (hs:∀c∈cs,∃xs,SqB X.K H c xs) (hn:cs≠[]) (hl:cs.length≤100) (q:R (Itn X.K cs) H) :
  Hh cs (fun v s1=>wpAny (model X.prog X.w) X.A (pyIter v) (PIE X pins σ (.Tuple elts kt pt) R) X.xe s1) s:=by
 intro h' k1 k2 kk
 refine wpAny_pyIter_zip k1.1 ?_
 have nd:=EL s.heap.objs.size cs.length
 have big:∀b,b∈(s.heap.objs.size+cs.length+2)::(s.heap.objs.size+cs.length)::(s.heap.objs.size+cs.length+1)::List.range' s.heap.objs.size cs.length→s.heap.objs.size≤b:=fun b hb=>Cs hb
 refine ⟨_,_,_,_,H,rfl,I.kept (t':=s.toks) kk,wH nd (fun c hc hm=>?_) (fun e=>hn ?_) (by simpa using hl),⟨k1,k2⟩,fun b hb=>I.fpOk (big b hb) (I.hok.fresh (big b hb)),q⟩
 ·obtain ⟨xs,hx⟩:=hs c hc
  obtain ⟨ys,hy⟩:=hx.seq I
  exact absurd (Nat.lt_of_lt_of_le hy.lt (big _ hm)) (Nat.lt_irrefl _)
 ·have:=congrArg List.length e
  simp at this
  exact this
end
section
variable {X:Cx}
noncomputable def Hf (K:PySem.W.Frag) (ta:TA):TI:=fun σ H R=>ta σ H fun vs H1=>∃c d f,vs=[.ref c.2,.ref d.2,.ref f.2]∧(∀e∈[c,d,f],∃xs,SqB K H1 e xs)∧R (Itn K [c,d,f]) H1
theorem CP {elts:List Expr} {kt:Nat} {pt:Pos} {a b c:Expr} {ta:TA} {p pos:Pos} (hg:Gl X "zip") (hm:X.mg "zip"=none) (ha:PA X [a,b,c] ta) (hs:starEach [a,b,c] X.env=[(false,eval a X.env),(false,eval b X.env),(false,eval c X.env)]) (hs2:starEach [b,c] X.env=[(false,eval b X.env),(false,eval c X.env)]) :
  PI X (.Tuple elts kt pt) (.Call (.Name "zip" p) [a,b,c] [] pos) (Hf X.K ta):=by
 intro pins s σ H R I h
 refine Call_ (ji I hg hm boot_zip (PyProof.Rows.callWith_type1 (thn (ha pos pins s σ H _ I h) fun us s1 ⟨vs,H1,I1,r1,q1⟩=>?_) (by rw [hs,hs2]) (by rw [hs2];rfl)))
 obtain ⟨c,d,f,e,hq,q⟩:=q1
 subst e
 cases r1 with
 | cons r rr =>
  obtain ⟨u,v,rfl,ru,rv⟩:=wo rr
  cases r
  cases ru
  cases rv
  exact ya (fun f hf=>let ⟨xs,hx⟩:=hq f hf;hx.seq I1) (B4 I1 hq (by simp) (by simp) q)
end
noncomputable def LB (K:PySem.W.Frag) (c:Bool × Addr) (xs:List PV) (chk:AH→Prop) (m0:List Addr) (H0:Hp):Prop:=∀m H st,Ext K m0 H0 m H→RH K m H st→chk st→∃ys,SqB K H c ys∧Rs K m H xs ys
theorem zC {K:PySem.W.Frag} {m:List Addr} {H:Hp} {st:AH} {v:PV} {x:V} {xs:List PV} (rh:RH K m H st) (r:R K m H v x) (e:bJ st v=some xs):∃c:Bool × Addr,x=.ref c.2∧LB K c xs (d5 st v) m H∧∃ys,SqB K H c ys:=by
 cases v with
 | tup ys =>
  cases e
  rw [R_tup] at r
  obtain ⟨a,zs,rfl,g,r3⟩:=r
  exact ⟨(false,a),rfl,fun m' H' st' x r q=>⟨zs,x.tup _ _ g,r3.mono x⟩,zs,g⟩
 | rdl ys =>
  cases e
  rw [fh] at r
  obtain ⟨a,zs,rfl,g,r3⟩:=r
  exact ⟨(true,a),rfl,fun m' H' st' x r q=>⟨zs,(x.rdf _ _ g).sq,r3.mono x⟩,zs,g.sq⟩
 | ref n =>
  unfold bJ b8 at e
  simp only at e
  split at e
  ·cases e
   rename_i q
   obtain ⟨a,zs,rfl,ea,g,r3⟩:=rh.lst q r
   refine ⟨(true,a),rfl,fun m' H' st' x r' q'=>?_,zs,SqL.of g⟩
   have q':st'[n]?=st[n]?:=q'
   rw [q] at q'
   obtain ⟨ys,h1,h2⟩:=r'.at_ n _ a q' (jt x.pre ea)
   exact ⟨ys,SqL.of h1,h2⟩
  ·cases e
 | _=>cases e
theorem j8:∀ {xs ys zs:List PV},(d6 xs ys zs).length=min xs.length (min ys.length zs.length)
 | [],ys,zs=>by simp [d6]
 | x::xs,[],zs=>by simp [d6]
 | x::xs,y::ys,[]=>by simp [d6]
 | x::xs,y::ys,z::zs=>by simp only [d6,List.length_cons,j8 (xs:=xs) (ys:=ys) (zs:=zs)];omega
theorem kM:∀ {xs ys zs:List PV} {i:Nat} {v:PV},(d6 xs ys zs)[i]?=some v→∃x y z,xs[i]?=some x∧ys[i]?=some y∧zs[i]?=some z∧v=.tup [x,y,z]
 | [],ys,zs,i,v,h=>by simp [d6] at h
 | x::xs,[],zs,i,v,h=>by simp [d6] at h
 | x::xs,y::ys,[],i,v,h=>by simp [d6] at h
 | x::xs,y::ys,z::zs,0,v,h=>by simp [d6] at h;exact ⟨x,y,z,rfl,rfl,rfl,h.symm⟩
 | x::xs,y::ys,z::zs,i+1,v,h=>by
  simp only [d6,List.getElem?_cons_succ] at h ⊢
  exact kM h
theorem xo {K:PySem.W.Frag} {m0:List Addr} {H0:Hp} {a b c:Bool × Addr} {xs ys zs:List PV} {c1 c2 c3:AH→Prop} (h1:LB K a xs c1 m0 H0) (h2:LB K b ys c2 m0 H0) (h3:LB K c zs c3 m0 H0):rM K (Itn K [a,b,c]) (d6 xs ys zs) (fun st=>c1 st∧c2 st∧c3 st) m0 H0:=by
 refine ⟨fun m H st x r q=>?_,fun i v m H st x r q ev=>?_⟩
 ·obtain ⟨as,g1,r1⟩:=h1 m H st x r q.1
  obtain ⟨bs,g2,r2⟩:=h2 m H st x r q.2.1
  obtain ⟨cs,g3,r3⟩:=h3 m H st x r q.2.2
  refine ⟨[as,bs,cs],.cons g1 (.cons g2 (.cons g3 .nil)),?_⟩
  rw [j8,r1.len,r2.len,r3.len]
  by_cases h:as.length≤bs.length∧as.length≤cs.length
  ·exact ⟨as,by simp,by omega⟩
  ·by_cases h':bs.length≤cs.length
   ·exact ⟨bs,by simp,by omega⟩
   ·exact ⟨cs,by simp,by omega⟩
 ·obtain ⟨as,g1,r1⟩:=h1 m H st x r q.1
  obtain ⟨bs,g2,r2⟩:=h2 m H st x r q.2.1
  obtain ⟨cs,g3,r3⟩:=h3 m H st x r q.2.2
  obtain ⟨u,v',w',e1,e2,e3,rfl⟩:=kM ev
  obtain ⟨y1,f1,q1⟩:=r1.get e1
  obtain ⟨y2,f2,q2⟩:=r2.get e2
  obtain ⟨y3,f3,q3⟩:=r3.get e3
  refine ⟨⟨[as,bs,cs],[y1,y2,y3],.cons g1 (.cons g2 (.cons g3 .nil)),.cons f1 (.cons f2 (.cons f3 .nil))⟩,?_⟩
  rintro z H' ⟨T,rfl,hT,hh⟩
  have:=hh _ _ (.cons g1 (.cons g2 (.cons g3 .nil))) (.cons f1 (.cons f2 (.cons f3 .nil)))
  subst this
  refine ⟨Ext.newT r hT,r.newT hT,R_tup.mpr ⟨T,[y1,y2,y3],rfl,SqT.of cJ,?_⟩⟩
  rw [Rs_cons',Rs_cons',Rs_cons',Rs_nil]
  exact ⟨q1.mono (Ext.newT r hT),q2.mono (Ext.newT r hT),q3.mono (Ext.newT r hT),rfl⟩
end FW
set_option Elab.async false
set_option linter.all false
set_option maxRecDepth 100000
set_option maxHeartbeats 1000000
namespace FW
open PySem PySem.Spec PyProof.Rows L2 HX
section
variable {X:Cx} {tg:Expr}
end
section
variable {X:Cx}
end
end FW
set_option Elab.async false
set_option linter.all false
set_option maxRecDepth 100000
set_option maxHeartbeats 1000000
namespace FW
open PySem PySem.Spec PyProof.Rows L2 HX
noncomputable def gu (env:Env):List (Str × NameKind)→List (Str × Addr)→List (Str × Addr)
 | [],cs=>cs
 | (x,k)::r,cs=>gu env r (if k == .free then (x,(env.cells.lookup x).getD 0)::cs else cs)
theorem mz {scope:Scope} {env:Env} (h:∀y∈scope.names,y.2=.free→∃c,env.cells.lookup y.1=some c):closureFor scope env=pure (gu env scope.names []):=by
 have key:∀(names:List (Str × NameKind)) (cs:List (Str × Addr)),(∀y∈names,y.2=.free→∃c,env.cells.lookup y.1=some c) →
   (forIn names cs fun (x:Str × NameKind) (r:List (Str × Addr))=>(match x with
    | (name,kind)=>if (kind == NameKind.free)=true then (do let a ←cellOf env name;pure (ForInStep.yield ((name,a)::r)):Sem _) else pure (ForInStep.yield r)))=(pure (gu env names cs):Sem _):=by
  intro names
  induction names with
  | nil=>intro cs _;rfl
  | cons y r ih =>
   intro cs hy
   obtain ⟨x,k⟩:=y
   rw [List.forIn_cons]
   by_cases hk:k=.free
   ·subst hk
    obtain ⟨c,e⟩:=hy _ List.mem_cons_self rfl
    have ec:cellOf env x=pure c:=by
     unfold cellOf
     rw [e]
    simp only [beq_self_eq_true,if_true,ec]
    show (forIn r ((x,c)::cs) _:Sem _)=_
    rw [ih _ fun y h=>hy y (List.mem_cons_of_mem _ h)]
    simp [gu,e]
   ·have hb:(k == NameKind.free)=false:=by simpa using hk
    simp only [hb,Bool.false_eq_true,if_false]
    show (forIn r cs _:Sem _)=_
    rw [ih _ fun y h=>hy y (List.mem_cons_of_mem _ h)]
    simp [gu,hb]
 unfold closureFor
 have:=key scope.names [] h
 exact congrArg (fun z=>z >>= fun r=>pure r) this
theorem fL {env:Env}:∀ {names:List (Str × NameKind)} {cs:List (Str × Addr)} {x:Str} {c:Addr},(∀y∈names,y.2=.free→∃c,env.cells.lookup y.1=some c)→(∀x c,cs.lookup x=some c→env.cells.lookup x=some c) →
  (gu env names cs).lookup x=some c→env.cells.lookup x=some c
 | [],cs,x,c,_,h,e=>h x c e
 | (y,k)::r,cs,x,c,hn,h,e=>by
  unfold gu at e
  refine fL (fun z hz=>hn z (List.mem_cons_of_mem _ hz)) ?_ e
  intro z d ez
  by_cases hk:k=.free
  ·subst hk
   obtain ⟨c',ec⟩:=hn _ List.mem_cons_self rfl
   simp only [beq_self_eq_true,if_true,List.lookup_cons] at ez
   by_cases q:z=y
   ·subst q
    simp [ec] at ez
    rw [ec,ez]
   ·have:(z == y)=false:=by simpa using q
    rw [this] at ez
    exact h z d ez
  ·have hb:(k == NameKind.free)=false:=by simpa using hk
   rw [hb] at ez
   exact h z d ez
theorem oK {env:Env}:∀ {names:List (Str × NameKind)} {cs:List (Str × Addr)} {x:Str},(∃c,cs.lookup x=some c)→∃c,(gu env names cs).lookup x=some c
 | [],cs,x,h=>h
 | (y,k)::r,cs,x,h=>by
  unfold gu
  refine oK ?_
  by_cases hk:k=.free
  ·subst hk
   simp only [beq_self_eq_true,if_true,List.lookup_cons]
   by_cases q:x=y
   ·subst q;simp
   ·have:(x == y)=false:=by simpa using q
    rw [this];exact h
  ·have hb:(k == NameKind.free)=false:=by simpa using hk
   rw [hb];exact h
theorem jI {env:Env}:∀ {names:List (Str × NameKind)} {cs:List (Str × Addr)} {x:Str},(x,NameKind.free)∈names→∃c,(gu env names cs).lookup x=some c
 | [],cs,x,h=>nomatch h
 | (y,k)::r,cs,x,h=>by
  unfold gu
  rcases List.mem_cons.mp h with e|h
  ·cases e
   exact oK (by simp)
  ·exact jI h
noncomputable def PTs (X:Cx) (xs:List Expr) (t:TT):Prop :=
 ∀(pins:List (Addr × Obj)) (s:Shared) (σ:L2.St) (H:Hp) (Q:Bool→Hp→Prop),L2.Inv X pins σ H s→t σ H Q →
  wpAny (model X.prog X.w) X.A (forIn xs true fun c r=>if r=true then do let ok ←isTrue c X.env (eval c X.env);pure (ForInStep.yield ok) else pure (ForInStep.yield r)) (TP X pins σ Q) X.xe s
theorem kY {env:Env}:∀xs:List Expr,(forIn xs false fun c r=>if r=true then do let ok ←isTrue c env (eval c env);pure (ForInStep.yield ok) else pure (ForInStep.yield r):Sem Bool)=pure false
 | []=>rfl
 | x::xs=>by
  rw [List.forIn_cons]
  simp only [Bool.false_eq_true,if_false]
  exact kY xs
theorem wg {X:Cx}:PTs X [] (fun σ H Q=>Q true H):=fun pins s σ H Q I h=>wpAny_pure ⟨H,I,h⟩
theorem qP {X:Cx} {x:Expr} {xs:List Expr} {t u:TT} (h1:PT X x t) (h2:PTs X xs u):PTs X (x::xs) (GJ t u):=by
 intro pins s σ H Q I h
 rw [List.forIn_cons]
 simp only [if_true]
 refine wpAny_bind (wpAny_bind (thn (h1 pins s σ H _ I h) fun b s1 ⟨H1,I1,q1⟩=>?_))
 refine wpAny_pure ?_
 cases b with
 | true =>
  rw [if_pos rfl] at q1
  exact h2 pins s1 σ H1 Q I1 q1
 | false =>
  rw [if_neg Bool.false_ne_true] at q1
  show wpAny _ _ (forIn xs false _) _ _ _
  rw [kY]
  exact wpAny_pure ⟨H1,I1,q1⟩
theorem qv {prog:Program} {w:World} {A:Around} {R:Result→Shared→Prop} {s:Shared} {elt target iter:Expr} {ifs:List Expr} {scope:Scope} {pos:Pos} {it acc:Value} {env:Env} (I:Nat→Shared→Prop)
  (turn:∀n s,I n s→wpAny (model prog w) A (pyNext it) (fun r s₁=>match r with
   | none=>R (.ok .next) s₁
   | some v=>wpAny (model prog w) A (letOwnedTupleGo target it v) (fun _ s0=>wpAny (model prog w) A (assign target env v) (fun _ s₂ =>
     wpAny (model prog w) A (forIn ifs true fun c r=>if r=true then do let ok ←isTrue c env (eval c env);pure (ForInStep.yield ok) else pure (ForInStep.yield r)) (fun ok s₃ =>
      if ok=true then wpAny (model prog w) A (eval elt env) (fun x s₄ =>
       wpAny (model prog w) A (call (.builtin "list.append") [acc,x]) (fun _ s₅=>∃m,m<n∧I m s₅) (fun _ _=>False) s₄) (fun _ _=>False) s₃
      else ∃m,m<n∧I m s₃) (fun _ _=>False) s₂) (fun _ _=>False) s0) (fun _ _=>False) s₁) (fun _ _=>False) s)
  (n:Nat) (h:I n s):codeAny (model prog w) A (.compLoop (.ListComp elt [⟨target,iter,ifs,0⟩] scope pos) 0 it acc env) R s:=by
 refine codeAny_loop rfl I (fun n s hI=>?_) n h
 show wpAny _ A ((compTurn (.ListComp elt [⟨target,iter,ifs,0⟩] scope pos) 0 it acc env).onRaise (fun x=>do noteFrame x env;theTreesLotGoes x)) _ _ s
 refine wpAny_noted ?_
 rw [compTurn_list]
 refine wpAny_bind (wpAny_standAt (wpAny_bind (wpAny_mono (turn n s hI) (fun r s₁ h₁=>?_) fun _ _ h'=>h'.elim)))
 cases r with
 | none=>exact wpAny_pure h₁
 | some v =>
  refine wpAny_bind (wpAny_mono h₁ (fun _ s0 h₁=>?_) fun _ _ h'=>h'.elim)
  refine wpAny_bind (wpAny_mono h₁ (fun _ s₂ h₂=>wpAny_bind (wpAny_mono h₂ (fun ok s₃ h₃=>?_) fun _ _ h'=>h'.elim)) fun _ _ h'=>h'.elim)
  cases ok with
  | false=>exact wpAny_pure ⟨rfl,h₃⟩
  | true =>
   exact wpAny_bind (wpAny_bind (wpAny_mono h₃ (fun x s₄ h₄=>wpAny_bind (wpAny_mono h₄ (fun _ s₅ h₅=>wpAny_pure (wpAny_pure ⟨rfl,h₅⟩)) fun _ _ h'=>h'.elim)) fun _ _ h'=>h'.elim))
noncomputable def cxC (X:Cx) (N:List Str) (s2:Shared) (H2:Hp) (fp:List Addr) (scope:Scope) (C:Addr):Cx :=
 { X with N:=N,s₀:=s2,H₀:=H2,env:=compEnvC scope (gu X.env scope.names []) C X.env,outer:=X.stack,stack:=X.stack,ex:=fp,fn:=fun _=>false,pn:=[],xe:=fun _ _=>False }
structure CScope (X:Cx) (scope:Scope):Prop where
 kind:scope.kind=.function
 nocell:∀y∈scope.names,y.2≠.cell
 nms:∀y∈scope.names,y.2=.local→scope.names.lookup y.1=some .local
 free:∀y∈scope.names,y.2=.free→X.env.kindOf y.1=some .cell∨X.env.kindOf y.1=some .free
theorem kX {scope:Scope} {env:Env} {x:Str} {k:NameKind} (h:(relabel scope env).names.lookup x=some k) (hk:k=.cell∨k=.free) (nc:∀y∈scope.names,y.2≠.cell):(x,NameKind.free)∈scope.names:=by
 have hm:=PySem.mem_of_lookup h
 unfold relabel at hm
 obtain ⟨⟨n,k0⟩,hy,e⟩:=List.mem_map.mp hm
 simp only at e
 split at e
 ·rename_i hc
  cases e
  simp only [Bool.and_eq_true,beq_iff_eq] at hc
  have:k0=.free:=hc.1.1
  subst this
  exact hy
 ·cases e
  rcases hk with rfl|rfl
  ·exact absurd rfl (nc _ hy)
  ·exact hy
theorem jF {env:Env}:∀ {names:List (Str × NameKind)} {x:Str},names.lookup x=some .globalImplicit →
  (names.map fun (n,k)=>if (k == NameKind.free && env.scope.kind == .function && env.kindOf n == some .cell) then (n,NameKind.cell) else (n,k)).lookup x=some .globalImplicit
 | [],_,h=>by simp at h
 | (n,k)::r,x,h=>by
  have ih:=@jF env r x
  show List.lookup x ((if (k == NameKind.free && env.scope.kind == .function && env.kindOf n == some .cell)=true then (n,NameKind.cell) else (n,k))::_)=_
  cases hx:x == n with
  | true =>
   simp only [List.lookup_cons,hx] at h
   cases h
   simp [List.lookup_cons,hx]
  | false =>
   simp only [List.lookup_cons,hx] at h
   by_cases hc:(k == NameKind.free && env.scope.kind == .function && env.kindOf n == some .cell)=true
   ·rw [if_pos hc];simp only [List.lookup_cons,hx];exact ih h
   ·rw [if_neg hc];simp only [List.lookup_cons,hx];exact ih h
theorem d9 {env:Env}:∀ {names:List (Str × NameKind)} {x:Str},names.lookup x=some .free →
  (names.map fun (n,k)=>if (k == NameKind.free && env.scope.kind == .function && env.kindOf n == some .cell) then (n,NameKind.cell) else (n,k)).lookup x=some .cell ∨
  (names.map fun (n,k)=>if (k == NameKind.free && env.scope.kind == .function && env.kindOf n == some .cell) then (n,NameKind.cell) else (n,k)).lookup x=some .free
 | [],_,h=>by simp at h
 | (n,k)::r,x,h=>by
  have ih:=@d9 env r x
  show List.lookup x ((if (k == NameKind.free && env.scope.kind == .function && env.kindOf n == some .cell)=true then (n,NameKind.cell) else (n,k))::_)=_∨List.lookup x ((if (k == NameKind.free && env.scope.kind == .function && env.kindOf n == some .cell)=true then (n,NameKind.cell) else (n,k))::_)=_
  cases hx:x == n with
  | true =>
   simp only [List.lookup_cons,hx] at h
   cases h
   by_cases hc:(NameKind.free == NameKind.free && env.scope.kind == .function && env.kindOf n == some .cell)=true
   ·rw [if_pos hc];simp [List.lookup_cons,hx]
   ·rw [if_neg hc];simp [List.lookup_cons,hx]
  | false =>
   simp only [List.lookup_cons,hx] at h
   by_cases hc:(k == NameKind.free && env.scope.kind == .function && env.kindOf n == some .cell)=true
   ·rw [if_pos hc];simp only [List.lookup_cons,hx];exact ih h
   ·rw [if_neg hc];simp only [List.lookup_cons,hx];exact ih h
section
variable {X:Cx} {pins:List (Addr × Obj)} {σ:L2.St} {H2:Hp} {s2:Shared} {fp:List Addr} {scope:Scope} {C:Addr} {N:List Str}
theorem CScope.cells (S:CScope X scope) (I:L2.Inv X pins σ H2 s2):∀y∈scope.names,y.2=.free→∃c,X.env.cells.lookup y.1=some c:=fun y hy hf=>I.ok.has y.1 (S.free y hy hf)
theorem Fu (S:CScope X scope) (I:L2.Inv X pins σ H2 s2) (f2:∀b∈fp,lw X pins H2 b) (fl:∀b∈fp,b<s2.heap.objs.size) (hC:s2.heap.objs.size≤C):(cxC X N s2 H2 fp scope C).Ok where
 mod:=I.ok.mod
 kind:=S.kind
 glob:=I.ok.glob
 blt:=I.ok.blt
 above:=hC
 inj:=fun x y c h1 h2=>I.ok.inj x y c (fL (S.cells I) (fun _ _ z=>by simp at z) h1) (fL (S.cells I) (fun _ _ z=>by simp at z) h2)
 has:=fun x hx=>by
  refine jI (x:=x) ?_
  rcases hx with h|h
  ·exact kX h (.inl rfl) S.nocell
  ·exact kX h (.inr rfl) S.nocell
 cab:=fun x c h=>by cases h
 hd:=I.ok.hd
 frames:=I.ok.frames
 stk:=.inl rfl
 exf:=fun b hb=>⟨Nat.ne_of_lt (Nat.lt_of_lt_of_le (fl b hb) hC),fun x c h=>(f2 b hb).2.2.2.2.1 x c (fL (S.cells I) (fun _ _ z=>by simp at z) h)⟩
 bs:=I.bs
 bsz:=Nat.le_trans I.ok.bsz I.sz
 noex:=fun b o e hb=>by
  rcases (f2 b hb).2.2.2.1 with z|z
  ·exact I.ok.noex b o e z
  ·have:=Heap.lt_size e
   exact absurd (Nat.lt_of_lt_of_le (Nat.lt_of_lt_of_le this I.ok.bsz) z) (Nat.lt_irrefl _)
 exfs:=fun b hb hf=>by
  rcases List.mem_cons.mp (I.stkSub b hf) with z|z
  ·exact (f2 b hb).2.1 z
  ·exact (f2 b hb).2.2.1 z
 funs:=I.stack
 frf:=I.stkFree
theorem zS {H3:Hp} {h1:Heap} {tk:Nat} {nt:List Str} {cn:List Str} {caps:List Nat} (S:CScope X scope) (I:L2.Inv X pins σ H2 s2) (f2:∀b∈fp,lw X pins H2 b) (fl:∀b∈fp,b<s2.heap.objs.size) (hC:s2.heap.objs.size≤C)
  (un:Un (frs X.stack) fp H2 H3 s2.heap h1) (hok:HOk X.prog X.w H3 h1) (ns:h1.Ns C (fun _=>none)) (hn:H3 C=none) (keep:∀b o,s2.heap.get? b=some o→h1.get? b=some o) (free:∀b o,s2.heap.get? b=some o→H2 b=none→H3 b=none)
  (hcn:cn=caps.filterMap (X.N[·]?)) (hcl:∀i∈caps,i<X.N.length) (hcf:∀x∈cn,scope.names.lookup x=some .free) (hce:∀x∈cn,X.env.kindOf x=some .cell∨X.env.kindOf x=some .free) :
  L2.Inv (cxC X (nt++cn) s2 H2 fp scope C) [] (nt.map (fun _=>none)++caps.map fun i=>(σ[i]?).join) H3 { s2 with heap:=h1,toks:=tk }:=by
 have cel:∀x c,(gu X.env scope.names []).lookup x=some c→X.env.cells.lookup x=some c:=fun x c h=>fL (S.cells I) (fun _ _ z=>by simp at z) h
 have lenc:cn.length=caps.length:=by
  rw [hcn]
  clear hcf hce hcn
  induction caps with
  | nil=>rfl
  | cons i r ih =>
   have:X.N[i]?=some (X.N[i]'(hcl i List.mem_cons_self)):=List.getElem?_eq_getElem (hcl i List.mem_cons_self)
   rw [List.filterMap_cons,this]
   simp only [List.length_cons]
   rw [ih fun j hj=>hcl j (List.mem_cons_of_mem _ hj)]
 have getc:∀(j i:Nat),caps[j]?=some i→∃x,cn[j]?=some x∧X.N[i]?=some x:=by
  rw [hcn]
  clear hcf hce hcn lenc
  induction caps with
  | nil=>intro j i h;simp at h
  | cons k r ih =>
   intro j i h
   have hk:X.N[k]?=some (X.N[k]'(hcl k List.mem_cons_self)):=List.getElem?_eq_getElem (hcl k List.mem_cons_self)
   rw [List.filterMap_cons,hk]
   cases j with
   | zero=>simp at h;subst h;exact ⟨_,rfl,hk⟩
   | succ j=>exact ih (fun j hj=>hcl j (List.mem_cons_of_mem _ hj)) j i (by simpa using h)
 refine ⟨Fu S I f2 fl hC,rfl,I.bare,un,⟨_,ns,fun i x v e1 e2 e3=>?_⟩,fun x c e=>?_,hn,fun x c e=>?_,fun p hp=>absurd (show p∈([]:List (Addr × Obj)) from hp) (by simp),hok,?_⟩
 ·by_cases hi:i<nt.length
  ·rw [List.getElem?_append_left (by simpa using hi),List.getElem?_map] at e2
   cases q:nt[i]? with
   | none=>rw [q] at e2;cases e2
   | some z=>rw [q] at e2;cases e2
  ·rw [List.getElem?_append_right (by simpa using hi),List.length_map,List.getElem?_map] at e2
   have e1':(nt++cn)[i]?=some x:=e1
   rw [List.getElem?_append_right (by omega)] at e1'
   cases q:caps[i-nt.length]? with
   | none=>rw [q] at e2;cases e2
   | some j =>
    rw [q] at e2
    have e2':(σ[j]?).join=some v:=Option.some.inj e2
    obtain ⟨y,g1,g2⟩:=getc _ _ q
    rw [e1'] at g1
    cases g1
    have e4:σ[j]?=some (some v):=by
     cases z:σ[j]? with
     | none=>rw [z] at e2';cases e2'
     | some w=>rw [z] at e2';rw [show w=some v from e2']
    obtain ⟨m,hm,hl⟩:=I.loc
    have kx:=hce x (List.mem_of_getElem? e1')
    obtain ⟨u,ru,lk⟩:=hl j x v g2 e4 (.inr (by rcases kx with k|k;exact .inl k;exact .inr k))
    refine ⟨u,ru,.inr ⟨d9 (hcf x (List.mem_of_getElem? e1')),?_⟩⟩
    rcases lk with ⟨k,_⟩|⟨_,c,ec,hc⟩
    ·rcases kx with k' | k' <;> rw [k] at k' <;> cases k'
    ·obtain ⟨c',ec'⟩:=jI (env:=X.env) (names:=scope.names) (cs:=[]) (x:=x) (PySem.mem_of_lookup (hcf x (List.mem_of_getElem? e1')))
     have:=cel x c' ec'
     rw [ec] at this
     cases this
     obtain ⟨o,ho,hd⟩:=hc
     exact ⟨c,ec',o,keep _ _ ho,hd⟩
 ·obtain ⟨v,o,ho,hd⟩:=I.cell x c (cel x c e)
  exact ⟨v,o,keep _ _ ho,hd⟩
 ·obtain ⟨v,o,ho,hd⟩:=I.cell x c (cel x c e)
  exact free c o ho (I.freeC x c (cel x c e))
 ·show (nt.map (fun _=>(none:Option V))++caps.map fun i=>(σ[i]?).join).length=(nt++cn).length
  simp [lenc]
end
end FW
set_option Elab.async false
set_option linter.all false
set_option maxRecDepth 100000
set_option maxHeartbeats 1000000
namespace FW
open PySem PySem.Spec PyProof.Rows L2 HX
section
variable {Γ:Nat→FSp}
mutual
theorem oB {n:Nat} (G:bM Γ):∀(t:Tg) {v:PV} {ρ:Fr} {st:AH} {Q:Fr→AH→Prop},t.low n=true→dw Γ t v ρ st Q→dw Γ t v ρ st fun ρ' st'=>Q ρ' st'∧∀i,n≤i→ρ'[i]?=ρ[i]?
 | .name i,v,ρ,st,Q,h,q=>by
  skip
  rw [Tg.low] at h
  have:=of_decide_eq_true h
  exact ⟨q,fun j hj=>List.getElem?_set_ne (by omega)⟩
 | .tup ts,v,ρ,st,Q,h,q=>by
  skip
  rw [Tg.low] at h
  obtain ⟨xs,e,hl,q⟩:=q
  exact ⟨xs,e,hl,iR G ts h q⟩
 | .ltup ts,v,ρ,st,Q,h,q=>by
  skip
  rw [Tg.low] at h
  obtain ⟨xs,e,hl,q⟩:=q
  exact ⟨xs,e,hl,iR G ts h q⟩
 | .sub _ _,v,ρ,st,Q,h,q=>by rw [Tg.low] at h;cases h
theorem iR {n:Nat} (G:bM Γ):∀(t:Tgs) {v:List PV} {ρ:Fr} {st:AH} {Q:Fr→AH→Prop},t.low n=true→fG Γ t v ρ st Q→fG Γ t v ρ st fun ρ' st'=>Q ρ' st'∧∀i,n≤i→ρ'[i]?=ρ[i]?
 | .nil,v,ρ,st,Q,h,q=>by exact ⟨q.1,q.2,fun _ _=>rfl⟩
 | .cons t ts,v,ρ,st,Q,h,q=>by
  skip
  rw [Tgs.low,Bool.and_eq_true] at h
  obtain ⟨x,r,e,q⟩:=q
  refine ⟨x,r,e,br G t (fun ρ1 st1 k=>?_) (oB G t h.1 q)⟩
  refine eG G ts (fun ρ2 st2 k2=>⟨k2.1,fun i hi=>(k2.2 i hi).trans (k.2 i hi)⟩) (iR G ts h.2 k.1)
end
end
mutual
theorem R.mono0 {K:PySem.W.Frag} {m:List Addr} {H H':Hp} (ht:∀a ys,SqT K H a ys→SqT K H' a ys) (hr:∀a ys,RdF K H a ys→RdF K H' a ys):∀ {p:PV} {v:V},R K m H p v→R K m H' p v
 | .non,v,h=>by rw [R_non] at h ⊢;exact h
 | .bl b,v,h=>by rw [R_bl] at h ⊢;exact h
 | .int b,v,h=>by rw [R_int] at h ⊢;exact h
 | .str b,v,h=>by rw [R_str] at h ⊢;exact h
 | .ref n,v,h=>by rw [iL] at h ⊢;exact h
 | .tup xs,v,h=>by rw [R_tup] at h ⊢;obtain ⟨a,ys,e,q,r⟩:=h;exact ⟨a,ys,e,ht _ _ q,Rs.mono0 ht hr r⟩
 | .rdl xs,v,h=>by rw [fh] at h ⊢;obtain ⟨a,ys,e,q,r⟩:=h;exact ⟨a,ys,e,hr _ _ q,Rs.mono0 ht hr r⟩
 | .fn a,v,h=>by rw [R_fn] at h ⊢;exact h
theorem Rs.mono0 {K:PySem.W.Frag} {m:List Addr} {H H':Hp} (ht:∀a ys,SqT K H a ys→SqT K H' a ys) (hr:∀a ys,RdF K H a ys→RdF K H' a ys):∀ {ps:List PV} {vs:List V},Rs K m H ps vs→Rs K m H' ps vs
 | [],vs,h=>by rw [Rs_nil] at h ⊢;exact h
 | p::ps,vs,h=>by
  rw [bv] at h ⊢
  obtain ⟨y,r,e,h1,h2⟩:=h
  exact ⟨y,r,e,R.mono0 ht hr h1,Rs.mono0 ht hr h2⟩
end
theorem jm {K:PySem.W.Frag} {H:Hp} {D:Addr} {ys zs:List V} (hD:H D=some (.lst ys)):∀a us,SqT K H a us→SqT K (upd H D (.lst zs)) a us:=fun a us q=>by
 rcases q with (q|⟨w,q⟩)|q
 ·exact .inl (.inl (by rw [ak (fun z=>by subst z;rw [hD] at q;cases q)];exact q))
 ·exact .inl (.inr ⟨w,by rw [ak (fun z=>by subst z;rw [hD] at q;cases q)];exact q⟩)
 ·exact .inr q
theorem jL {K:PySem.W.Frag} {H:Hp} {D:Addr} {ys zs:List V} (hD:H D=some (.lst ys)):∀a us,RdF K H a us→RdF K (upd H D (.lst zs)) a us:=fun a us q=>by
 rcases q with ⟨w,q⟩|q
 ·exact .inl ⟨w,by rw [ak (fun z=>by subst z;rw [hD] at q;cases q)];exact q⟩
 ·exact .inr q
theorem TB.away {K:PySem.W.Frag} {H:Hp} {D:Addr} {ys zs:List V} (t:TB K H) (hD:H D=some (.lst ys)):TB K (upd H D (.lst zs)) :=
 t.keep (fun a ps q=>by rw [ak (fun z=>by subst z;rw [hD] at q;cases q)];exact q) fun a o q=>by rw [ak (fun z=>by subst z;rw [hD] at q;cases q)];exact q
theorem Ext.away {K:PySem.W.Frag} {m m':List Addr} {H H':Hp} {D:Addr} {ys zs:List V} (x:Ext K m H m' H') (h0:H D=none) (hD:H' D=some (.lst ys)):Ext K m H m' (upd H' D (.lst zs)) :=
 ⟨x.pre,x.new,fun a o ha e n=>by rw [ak (aH e h0)];exact x.fr a o ha e n,fun a us q=>jm hD a us (x.tup a us q),fun a us q=>jL hD a us (x.rdf a us q),fun a ps ha e=>let ⟨p1,e1⟩:=x.tbs a ps ha e;⟨p1,by rw [ak (aH e h0)];exact e1⟩,fun t=>(x.tb t).away hD⟩
theorem RH.away {K:PySem.W.Frag} {m:List Addr} {H:Hp} {st:AH} {D:Addr} {ys zs:List V} (h:RH K m H st) (hm:D ∉ m) (hD:H D=some (.lst ys)):RH K m (upd H D (.lst zs)) st:=by
 refine ⟨h.len,h.nd,fun n c a h1 h2=>?_,h.tb.away hD⟩
 have ha:a≠D:=fun z=>hm (z ▸ List.mem_of_getElem? h2)
 have hc:=h.at_ n c a h1 h2
 cases c with
 | lst xs=>obtain ⟨us,g1,g2⟩:=hc;exact ⟨us,by rw [ak ha];exact g1,g2.mono0 (jm hD) (jL hD)⟩
 | dk kvs=>obtain ⟨us,g1,g2,g3⟩:=hc;exact ⟨us,by rw [ak ha];exact g1,g2,g3.mono0 (jm hD) (jL hD)⟩
theorem RF.away {K:PySem.W.Frag} {m:List Addr} {H:Hp} {ρ:Fr} {σ:L2.St} {D:Addr} {ys zs:List V} (h:RF K m H ρ σ) (hD:H D=some (.lst ys)):RF K m (upd H D (.lst zs)) ρ σ :=
 ⟨h.len,fun i v e=>let ⟨y,e1,r⟩:=h.at_ i v e;⟨y,e1,r.mono0 (jm hD) (jL hD)⟩⟩
theorem RF.less {K:PySem.W.Frag} {m:List Addr} {H:Hp} {ρ ρ':Fr} {σ:L2.St} {n:Nat} (h:RF K m H ρ' σ) (hl:ρ.length=ρ'.length) (hn:∀i v,ρ[i]?=some (some v)→n≤i) (hp:∀i,n≤i→ρ'[i]?=ρ[i]?):RF K m H ρ σ :=
 ⟨hl.trans h.len,fun i v e=>h.at_ i v (by rw [hp i (hn i v e)];exact e)⟩
theorem oD {nt:List Str} {f:Nat→Option PV} {caps:List Nat}:∀(i:Nat) (v:PV),(nt.map (fun _=>(none:Option PV))++caps.map f)[i]?=some (some v)→nt.length≤i:=fun i v e=>by
 by_cases hi:i<nt.length
 ·rw [List.getElem?_append_left (by simpa using hi),List.getElem?_map] at e
  cases q:nt[i]? with
  | none=>rw [q] at e;cases e
  | some z=>rw [q] at e;cases e
 ·omega
theorem CT {K:PySem.W.Frag} {m:List Addr} {H:Hp} {ρ:Fr} {σ:L2.St} {nt:List Str} {caps:List Nat} (h:RF K m H ρ σ) :
  RF K m H (nt.map (fun _=>none)++caps.map fun i=>(ρ[i]?).join) (nt.map (fun _=>none)++caps.map fun i=>(σ[i]?).join):=by
 refine ⟨by simp,fun i v e=>?_⟩
 have hi:=oD i v e
 rw [List.getElem?_append_right (by simpa using hi),List.length_map,List.getElem?_map] at e
 rw [List.getElem?_append_right (by simpa using hi),List.length_map,List.getElem?_map]
 cases q:caps[i-nt.length]? with
 | none=>rw [q] at e;cases e
 | some j =>
  rw [q] at e
  have e':(ρ[j]?).join=some v:=Option.some.inj e
  have e4:ρ[j]?=some (some v):=by
   cases z:ρ[j]? with
   | none=>rw [z] at e';cases e'
   | some w=>rw [z] at e';rw [show w=some v from e']
  obtain ⟨y,e5,r⟩:=h.at_ j v e4
  exact ⟨y,by show some ((σ[j]?).join)=_;rw [e5];rfl,r⟩
section
variable {X:Cx} {Γ:Nat→FSp} {pins:List (Addr × Obj)} {σ:L2.St} {H:Hp} {s:Shared}
noncomputable def d8 (K:PySem.W.Frag) (m1:List Addr) (H1:Hp) (Fin:Addr→Hp→Prop):LK:=fun vs st2=>∀m2 H2 D ys,Ext K m1 H1 m2 H2→RH K m2 H2 st2→D ∉ m2→H1 D=none→H2 D=some (.lst ys)→Rs K m2 H2 vs ys→Fin D H2
noncomputable def fc (Γ:Nat→FSp) (elt:E) (tg:Tg) (ifs:Es) (ρ:Fr):PV→AH→(Option PV→AH→Prop)→Prop:=fun x st2 k=>dw Γ tg x ρ st2 fun ρ' st3=>hZ Γ ifs ρ' st3 fun c st4=>if c=true then wpE Γ elt ρ' st4 fun v st5=>k (some v) st5 else k none st4
theorem o0 (G:bM Γ) (hcalm:X.calm=true) {elt:E} {tg:Tg} {ifs:Es} {nt:List Str} {caps:List Nat} {cn:List Str} {eltx tgx iterx:Expr} {ifsx:List Expr} {scope:Scope} {pos p0:Pos} {use:Option (Value→Sem Unit)} {Qf:Value→Shared→Prop} {Fin:Addr→Hp→Prop} {wi:TI}
  (S:CScope X scope) (hcn:cn=caps.filterMap (X.N[·]?)) (hcl:∀i∈caps,i<X.N.length) (hcf:∀x∈cn,scope.names.lookup x=some .free) (hce:∀x∈cn,X.env.kindOf x=some .cell∨X.env.kindOf x=some .free)
  (hset:mQ iterx=true) (hlow:tg.low nt.length=true) (hI:PI X tgx iterx wi)
  (hG:∀s2 H2 fp C,PG (cxC X (nt++cn) s2 H2 fp scope C) tgx (TGx X.K (dw Γ tg)))
  (hT:∀s2 H2 fp C,PTs (cxC X (nt++cn) s2 H2 fp scope C) ifsx (TTx X.K (hZ Γ ifs)))
  (hE:∀s2 H2 fp C,PE (cxC X (nt++cn) s2 H2 fp scope C) eltx (TEx X.K (wpE Γ elt)))
  (I:L2.Inv X pins σ H s)
  (h:wi σ H fun J H1=>∃m ρ st1 xs chk,RF X.K m H1 ρ σ∧RH X.K m H1 st1∧rM X.K J xs chk m H1∧xs.length<100000∧eF chk (fc Γ elt tg ifs (nt.map (fun _=>none)++caps.map fun i=>(ρ[i]?).join)) xs [] st1 (d8 X.K m H1 Fin))
  (fin:∀C D H' s' m',L2.Inv X pins σ H' s'→s'.heap.Ns C m'→lw X pins H' C→Fin D H'→compPost (model X.prog X.w) X.A X.xe use Qf (.ref D) C (.ok .next) s') :
  wpAny (model X.prog X.w) X.A (comprehension (.ListComp eltx [⟨tgx,iterx,ifsx,0⟩] scope pos) scope X.env p0 (newList []) false (eval iterx X.env) use) Qf X.xe s:=by
 refine wpAny_comprehension_free (use:=use) rfl (rj hset) (mz (S.cells I)) S.kind S.nms ?_
 refine thn (hI pins s σ H _ I h) fun v s1 h1=>thn h1 fun itv s2 h2=>?_
 obtain ⟨it,fp,tn,J,H2,e,I2,T,st2,f2,m,ρ,st1,xs,chk,rf,rh,W,hxs,w⟩:=h2
 subst e
 have fl:∀b∈fp,b<s2.heap.objs.size:=fun b hb=>by
  obtain ⟨o,e,_⟩:=T.obj 0 _ st2 b hb
  exact Heap.lt_size e
 refine wpAny_newObj_type (wpAny_newFunctionEnv S.nocell (by intro y hy;simp at hy) (fun h₁ hns₁ hsb₁=>?_) S.kind)
 dsimp only at hns₁ hsb₁ ⊢
 generalize hD:s2.heap.objs.size=D at *
 generalize hH3:s2.heap.push { cls:=.type "list",dict:=none,data:=.seq ([]:List Value).toArray }=P3 at hns₁ hsb₁ ⊢
 generalize hCC:P3.objs.size=C at *
 have hC1:C=D+1:=by rw [←hCC,←hH3,Heap.size_push,hD]
 have ltDC:D<C:=by rw [hC1];exact Nat.lt_succ_self D
 have neC:∀b,b<D→b≠C:=fun b hb=>Nat.ne_of_lt (Nat.lt_trans hb ltDC)
 have hDn:H2 D=none:=by rw [←hD];exact I2.hok.fresh (Nat.le_refl _)
 have hCn:H2 C=none:=I2.hok.fresh (by rw [hD];exact Nat.le_of_lt ltDC)
 have old3:∀b o,s2.heap.get? b=some o→P3.get? b=some o:=fun b o e=>hH3 ▸ Heap.get?_push_of_some _ e
 have old:∀b o,s2.heap.get? b=some o→h₁.get? b=some o:=fun b o e=>hsb₁.extBut b o (neC b (hD ▸ Heap.lt_size e)) (Heap.get?_push_of_some _ (old3 b o e))
 have newD:h₁.get? D=some { cls:=.type "list",data:=.seq #[] }:=hsb₁.extBut _ _ (Nat.ne_of_lt ltDC) (Heap.get?_push_of_some _ (by rw [←hH3,←hD];exact Heap.get?_push_size _ rfl))
 have un:Un (frs X.stack) fp H2 (upd H2 D (.lst [])) s2.heap h₁:=Un.laid old (by rw [hD];exact Nat.le_refl _) hDn
 have hok:HOk X.prog X.w (upd H2 D (.lst [])) h₁:=I2.hok.laid old (by rw [hD];exact Nat.le_refl _) ⟨Nat.zero_le _,[],0,.nil,newD⟩
 have I4:=zS (nt:=nt) (tk:=s2.toks+([]:List (Str × Value)).length) S I2 f2 (by rw [hD];exact fl) (C:=C) (by rw [hD];exact Nat.le_of_lt ltDC) un hok (by simpa using hns₁) (by rw [ak (Nat.ne_of_gt ltDC)];exact hCn) old
  (fun b o e n=>by rw [ak (Nat.ne_of_lt (hD ▸ Heap.lt_size e))];exact n) hcn hcl hcf hce
 generalize hρ0:(nt.map (fun _=>none)++caps.map fun i=>(ρ[i]?).join:Fr)=ρ0 at w
 have hρn:∀i v,ρ0[i]?=some (some v)→nt.length≤i:=by rw [←hρ0];exact oD
 have rf0:RF X.K m H2 ρ0 (nt.map (fun _=>none)++caps.map fun i=>(σ[i]?).join):=by rw [←hρ0];exact CT rf
 generalize (nt.map (fun _=>none)++caps.map fun i=>(σ[i]?).join:L2.St)=σ0 at I4 rf0
 have loop:codeAny (model X.prog X.w) X.A (.compLoop (.ListComp eltx [⟨tgx,iterx,ifsx,0⟩] scope pos) 0 (.ref it) (.ref D) (compEnvC scope (gu X.env scope.names []) C X.env)) (compPost (model X.prog X.w) X.A X.xe use Qf (.ref D) C)
   { s2 with heap:=h₁,toks:=s2.toks+([]:List (Str × Value)).length }:=by
  refine qv (fun n s'=>∃(i:Nat),∃σ' H' m' st' acc ys,n+i=xs.length∧L2.Inv (cxC X (nt++cn) s2 H2 fp scope C) [] σ' H' s'∧tn i s'.heap∧(∀b∈fp,H' b=none)∧Ext X.K m H2 m' H'∧RH X.K m' H' st'∧RF X.K m' H' ρ0 σ'∧D ∉ m'∧H' D=some (.lst ys)∧Rs X.K m' H' acc ys∧ys.length≤i ∧
   eF chk (fc Γ elt tg ifs ρ0) (xs.drop i) acc st' (d8 X.K m H2 Fin)) ?_ xs.length
   ⟨0,σ0,_,m,st1,[],[],rfl,I4,T.keep 0 _ _ st2 (fun b _ o e=>old b o e),fun b hb=>by rw [ak (Nat.ne_of_lt (fl b hb))];exact (f2 b hb).1,Ext.newT rh hDn,rh.newT hDn,rf0.mono (Ext.newT rh hDn),rh.fresh hDn,cJ,Rs_nil.mpr rfl,Nat.le_refl _,by simpa using w⟩
  rintro n s' ⟨i,σ',H',m',st',acc,ys,hn,I',tni,fpn,x',rh',rf',Dm,hDl,rys,hly,k⟩
  have stat:∀ {H'':Hp},(∀b∈fp,H'' b=none)→∀b∈fp,lw (cxC X (nt++cn) s2 H2 fp scope C) [] H'' b:=fun hz b hb=>⟨hz b hb,(I'.ok.exf b hb).1,I'.ok.exfs b hb,.inl hb,(I'.ok.exf b hb).2,fun p hp=>absurd (show p∈([]:List (Addr × Obj)) from hp) (by simp)⟩
  cases q:xs.drop i with
  | nil =>
   rw [q] at k
   have hi:i=xs.length:=by
    have:=congrArg List.length q
    simp at this
    omega
   subst hi
   refine thn (T.done (cxC X (nt++cn) s2 H2 fp scope C) rfl rfl rfl hcalm _ [] s' σ' H' (fun _ _=>False) I' (stat fpn) tni (W.stop m' H' st' x' rh' k.1)) fun r s1 ⟨hr,I1⟩=>?_
   subst hr
   have IX:L2.Inv X pins σ H' s1:=I2.call' I1.os I1.base I1.hok I1.bare fun b hb=>⟨(f2 b hb).2.2.2.1,(f2 b hb).2.1,(f2 b hb).2.2.2.2.1,(f2 b hb).2.2.2.2.2⟩
   obtain ⟨mm,hns,_⟩:=I1.loc
   exact fin C D H' s1 mm IX hns (I2.fpOk (by rw [hD];exact Nat.le_of_lt ltDC) I1.free) (k.2 m' H' D ys x' rh' Dm hDn hDl rys)
  | cons v rest =>
   rw [q] at k
   have hi:i<xs.length:=by
    have:=congrArg List.length q
    simp at this
    omega
   have ev:xs[i]?=some v:=by
    have:=congrArg List.head? q
    rw [List.head?_drop] at this
    exact this
   have er:rest=xs.drop (i+1):=by
    have:=congrArg List.tail q
    rw [List.tail_drop] at this
    exact this.symm
   subst er
   obtain ⟨kc,k⟩:=k
   obtain ⟨go,yl⟩:=W.item i v m' H' st' x' rh' kc ev
   refine thn (T.item (cxC X (nt++cn) s2 H2 fp scope C) rfl rfl rfl hcalm i [] s' σ' H' (fun _ _=>False) I' (stat fpn) tni go) fun r s4 ⟨u,hr,h4⟩=>?_
   subst hr
   refine thn h4 fun _ s5 ⟨x,H5,I5,r5,y5,tn5,fr5⟩=>?_
   obtain ⟨x5,rh5,rv5⟩:=yl x H5 y5
   have I5':=I5.pinned (stat fr5) (T.obj _ _ tn5)
   have again:∀ {σ7:L2.St} {H7:Hp} {s7:Shared} {m7:List Addr} {st7:AH} {acc7:List PV} {ys7:List V},L2.Inv (cxC X (nt++cn) s2 H2 fp scope C) ([]++ma fp s5.heap) σ7 H7 s7→Ext X.K m H2 m7 H7→RH X.K m7 H7 st7→RF X.K m7 H7 ρ0 σ7→D ∉ m7→H7 D=some (.lst ys7) →
     Rs X.K m7 H7 acc7 ys7→ys7.length≤i+1→eF chk (fc Γ elt tg ifs ρ0) (xs.drop (i+1)) acc7 st7 (d8 X.K m H2 Fin) →
     ∃n',n'<n∧∃(i:Nat),∃σ' H' m' st' acc ys,n'+i=xs.length∧L2.Inv (cxC X (nt++cn) s2 H2 fp scope C) [] σ' H' s7∧tn i s7.heap∧(∀b∈fp,H' b=none)∧Ext X.K m H2 m' H'∧RH X.K m' H' st'∧RF X.K m' H' ρ0 σ'∧D ∉ m'∧H' D=some (.lst ys)∧Rs X.K m' H' acc ys∧ys.length≤i ∧
      eF chk (fc Γ elt tg ifs ρ0) (xs.drop i) acc st' (d8 X.K m H2 Fin):=fun {σ7 H7 s7 m7 st7 acc7 ys7} I7 g1 g2 g3 g4 g5 g6 g7 g8=>by
    refine ⟨n-1,by omega,i+1,σ7,H7,m7,st7,acc7,ys7,by omega,I7.unpinned,T.keep _ _ _ tn5 fun b hb o e=>(I7.pin (b,o) (List.mem_append_right _ (List.mem_append_right _ (gc hb e)))).1,fun b hb=>?_,g1,g2,g3,g4,g5,g6,g7,g8⟩
    obtain ⟨o,e,d⟩:=T.obj _ _ tn5 b hb
    exact (I7.pin (b,o) (List.mem_append_right _ (List.mem_append_right _ (gc hb e)))).2.1
   have k2:=oB (n:=nt.length) G tg hlow k
   refine thn (hG s2 H2 fp C _ s5 σ' H5 x u (fun σ6 H6=>∃m6 ρ1 st6,Ext X.K m' H5 m6 H6∧RH X.K m6 H6 st6∧RF X.K m6 H6 ρ1 σ6∧(∀j,nt.length≤j→ρ1[j]?=ρ0[j]?) ∧
    hZ Γ ifs ρ1 st6 fun c st4=>if c=true then wpE Γ elt ρ1 st4 fun vv st5=>eF chk (fc Γ elt tg ifs ρ0) (xs.drop (i+1)) (acc++[vv]) st5 (d8 X.K m H2 Fin) else eF chk (fc Γ elt tg ifs ρ0) (xs.drop (i+1)) acc st4 (d8 X.K m H2 Fin)) I5' r5
    ⟨m',ρ0,st',v,rf'.mono x5,rh5,rv5,br G tg (fun ρ1 st6 z m6 H6 σ6 x6 rh6 rf6=>⟨m6,ρ1,st6,x6,rh6,rf6,z.2,cF G ifs (fun c st4 zz=>by
     cases c with
     | true=>rw [if_pos rfl] at zz ⊢;exact zz
     | false=>rw [if_neg Bool.false_ne_true] at zz ⊢;simpa using zz) z.1⟩) k2⟩) fun _ s6 ⟨σ6,H6,I6,m6,ρ1,st6,x6,rh6,rf6,pr,w6⟩=>?_
   have hlen:ρ0.length=ρ1.length:=by rw [rf6.len,I6.len,rf'.len,I'.len]
   refine thn (hT s2 H2 fp C _ s6 σ6 H6 (fun b H7=>∃m7 st7,Ext X.K m6 H6 m7 H7∧RH X.K m7 H7 st7∧if b=true then wpE Γ elt ρ1 st7 fun vv st5=>eF chk (fc Γ elt tg ifs ρ0) (xs.drop (i+1)) (acc++[vv]) st5 (d8 X.K m H2 Fin) else eF chk (fc Γ elt tg ifs ρ0) (xs.drop (i+1)) acc st7 (d8 X.K m H2 Fin)) I6
    ⟨m6,ρ1,st6,rf6,rh6,cF G ifs (fun b st7 z m7 H7 x7 rh7=>⟨m7,st7,x7,rh7,z⟩) w6⟩) fun b s7 ⟨H7,I7,m7,st7,x7,rh7,w7⟩=>?_
   have xx7:Ext X.K m' H' m7 H7:=(x5.trans x6).trans x7
   cases b with
   | false =>
    rw [if_neg Bool.false_ne_true] at w7 ⊢
    refine again I7 (x'.trans xx7) rh7 ((rf6.mono x7).less hlen hρn pr) (fun z=>?_) (xx7.fr D _ Dm hDl fun _ z=>nomatch z) (rys.mono xx7) (by omega) w7
    rcases xx7.new D z with z|z
    ·exact Dm z
    ·rw [hDl] at z;cases z
   | true =>
    rw [if_pos rfl] at w7 ⊢
    refine thn (hE s2 H2 fp C _ s7 σ6 H7 (fun y H8=>∃m8 st8 vv,Ext X.K m7 H7 m8 H8∧RH X.K m8 H8 st8∧R X.K m8 H8 vv y∧eF chk (fc Γ elt tg ifs ρ0) (xs.drop (i+1)) (acc++[vv]) st8 (d8 X.K m H2 Fin)) I7
     ⟨m7,ρ1,st7,rf6.mono x7,rh7,ac G elt (fun vv st8 z m8 H8 y x8 rh8 r8=>⟨m8,st8,vv,x8,rh8,r8,z⟩) w7⟩) fun uy s8 ⟨y,H8,I8,ry,m8,st8,vv,x8,rh8,r8,w8⟩=>?_
    have xx8:Ext X.K m' H' m8 H8:=xx7.trans x8
    have hD8:H8 D=some (.lst ys):=xx8.fr D _ Dm hDl fun _ z=>nomatch z
    have Dm8:D ∉ m8:=fun z=>by
     rcases xx8.new D z with z|z
     ·exact Dm z
     ·rw [hDl] at z;cases z
    refine thn (oY (X:=cxC X (nt++cn) s2 H2 fp scope C) _ s8 σ6 H8 (.ref D) [y] (.ref D) [uy] (fun _ H9=>H9=upd H8 D (.lst (ys++[y]))) I8 rfl (.cons ry .nil) ⟨D,ys,y,rfl,rfl,hD8,vU (by omega),rfl⟩) fun _ s9 ⟨_,H9,I9,_,e9⟩=>?_
    subst e9
    exact again I9 ((x'.trans xx8).away hDn hD8) (rh8.away Dm8 hD8) ((((rf6.mono x7).mono x8).less hlen hρn pr).away hD8) Dm8 cJ (((rys.mono xx8).app (.one r8)).mono0 (jm hD8) (jL hD8)) (by simp;omega) w8
 exact codeAny_compStart_list loop (T.self X.A 0 _ _ _ (T.keep 0 _ _ st2 fun b _ o e=>old b o e) loop)
end
end FW
set_option Elab.async false
set_option linter.all false
set_option maxRecDepth 100000
set_option maxHeartbeats 1000000
namespace FW
open PySem PySem.Spec PyProof.Rows L2 HX
mutual
theorem R.pre {K:PySem.W.Frag} {m m':List Addr} {H:Hp} (hp:m <+: m'):∀ {p:PV} {v:V},R K m H p v→R K m' H p v
 | .non,v,h=>by rw [R_non] at h ⊢;exact h
 | .bl b,v,h=>by rw [R_bl] at h ⊢;exact h
 | .int b,v,h=>by rw [R_int] at h ⊢;exact h
 | .str b,v,h=>by rw [R_str] at h ⊢;exact h
 | .fn b,v,h=>by rw [R_fn] at h ⊢;exact h
 | .ref n,v,h=>by rw [iL] at h ⊢;obtain ⟨a,e,q⟩:=h;exact ⟨a,jt hp e,q⟩
 | .tup xs,v,h=>by rw [R_tup] at h ⊢;obtain ⟨a,ys,e,q,r⟩:=h;exact ⟨a,ys,e,q,Rs.pre hp r⟩
 | .rdl xs,v,h=>by rw [fh] at h ⊢;obtain ⟨a,ys,e,q,r⟩:=h;exact ⟨a,ys,e,q,Rs.pre hp r⟩
theorem Rs.pre {K:PySem.W.Frag} {m m':List Addr} {H:Hp} (hp:m <+: m'):∀ {ps:List PV} {vs:List V},Rs K m H ps vs→Rs K m' H ps vs
 | [],vs,h=>by rw [Rs_nil] at h ⊢;exact h
 | p::ps,vs,h=>by
  rw [bv] at h ⊢
  obtain ⟨y,r,e,h1,h2⟩:=h
  exact ⟨y,r,e,R.pre hp h1,Rs.pre hp h2⟩
end
theorem xW {x:Arguments} {f:Str→Bool} (h:AN x f=true):∃a:Arg,x=⟨[],[a],none,[],[],none,[]⟩∧f a.arg=true:=by
 obtain ⟨p,as,va,ko,kd,kw,ds⟩:=x
 unfold AN at h
 simp only [Bool.and_eq_true,List.isEmpty_iff,Option.isNone_iff_eq_none] at h
 obtain ⟨⟨⟨⟨⟨⟨rfl,rfl⟩,rfl⟩,rfl⟩,rfl⟩,rfl⟩,h⟩:=h
 obtain ⟨a,rfl,h⟩:=dC h
 exact ⟨a,rfl,h⟩
theorem zR {qual:Str} {a:Arg} {body:Expr} {scope:Scope} {cl:List (Str × Addr)} (pm:Value) (c':Addr) (ctv:Value) (u:Value) :
  bindArgs (PySem.W.kla_fn "<lambda>" qual ⟨[],[a],none,[],[],none,[]⟩ body scope cl pm (.ref c') ctv) ⟨[u],[]⟩=pure [(a.arg,u)]:=by
 unfold bindArgs
 simp [seqItems?,List.lookup]
 rfl
section
variable {Γ:Nat→FSp} {X:Cx} {c:Cfg}
theorem rJ (C:COk X c Γ) (hpc:c.pc=true) {i:Nat} {y:Str} {l:Expr} {p pos:Pos} {e:E} (hN:c.N[i]?=some y) (hv:c.vis y=true) (hs:ao l=true) (he:PE X l (TEx X.K (wpE Γ e))) :
  PE X (.Call (.Name y p) [l] [] pos) (TEx X.K (wpE Γ (.pcall i e))):=by
 rintro pins s σ H Q I ⟨m,ρ,st,rf,rh,a,ea,w⟩
 obtain ⟨x,ex,rx⟩:=rf.at_ i _ ea
 rw [R_fn] at rx
 subst rx
 obtain ⟨v1,v2,v3⟩:=C.visx hv
 have hvar:=ye (X:=X) (i:=i) (x:=y) (pos:=p) (by rw [C.N];exact hN) v1 v2 v3 pins s σ H (fun v H'=>v=V.ref a∧H'=H) I ⟨_,ex,rfl,rfl⟩
 refine wpAny_Call_Name_kw (thn hvar ?_)
 rintro u s1 ⟨v,H1,I1,rv,rfl,rfl⟩
 obtain rfl:u=.ref a:=rv
 have st1:starEach [l] X.env=[(false,eval l X.env)]:=aS hs
 show wpAny _ _ (callWith pos (.ref a) [] (backTo pos (starEach [l] X.env)) []) _ _ _
 rw [st1]
 refine PySem.W.callWith_of (P:=PySem.W.FnAt a) rfl PySem.W.keeps_F (Calls.evalArgs_plain ?_)
 show wpAny _ _ (spliced ((false,eval l X.env)::backTo pos (starEach [] X.env))) _ _ _
 refine Calls.spliced_cons (thn (he pins s1 σ H1 (fun x H2=>ax X.K (Γ 1000) [.ref a,x] H2 Q E0) I1 ⟨m,ρ,st,rf,rh,ac C.mono e (fun v st1 k m1 H2 x1 e1 r1 r2=>?_) w⟩) fun u s2 ⟨x,H2,I2,r1,q⟩=>?_)
 ·exact ⟨m1,st1,[.fn a,v],by rw [Rs_cons',Rs_cons',Rs_nil];exact ⟨R_fn.mpr rfl,r2,rfl⟩,r1,C.mono _ _ _ _ _ (fun _ _ q=>q.ext e1) k⟩
 ·exact Calls.spliced_nil (C.lam hpc I2 r1 q)
theorem Co (C:COk X c Γ) {k:Nat} {z:Str} {caps:List Nat} {sc:Scope} (h:c.lamOk k z caps sc=true) {qual:Str} {f:Addr} {cd:Value} {cl:List (Str × Addr)} {A:Around} {outer:List Env} {s:Shared} {H:Hp} {E:XK}
  (hr:Room k (A.deeper (PySem.W.envX qual sc s.heap.objs.size f cd cl))) :
  COk (cxL CX0 X.prog X.w X.K X.mg X.base (z::caps.filterMap (c.N[·]?)) qual sc f cd cl A outer s H E).nox (c.lam k z caps sc) Γ:=by
 unfold Cfg.lamOk at h
 simp only [Bool.and_eq_true,beq_iff_eq,decide_eq_true_eq,List.all_eq_true,Bool.not_eq_true'] at h
 obtain ⟨⟨⟨⟨⟨⟨⟨⟨⟨⟨h1,h2⟩,h3⟩,h4⟩,h5⟩,h6⟩,h7⟩,h8⟩,h9⟩,h10⟩,h11⟩:=h
 have nocell:∀x,sc.names.lookup x≠some .cell:=fun x e=>by
  have:=h4 _ (PySem.mem_of_lookup e)
  simp at this
 refine ⟨rfl,PassesOwn.never,rfl,h11,fun x h=>h,fun x h=>⟨h,.inr ?_⟩,fun x h=>h,fun x h=>h,?_,fun x h=>h,hr,fun f x hf e=>C.fn f x (Nat.lt_trans (show f<k from hf) (by omega)) e,C.blt,C.gl,C.mono,fun h=>Bool.noConfusion (show false=true from h),fun k h=>by cases h⟩
 ·rcases h with h|h
  ·exact h
  ·exact absurd h (nocell x)
 ·show Env.blockKind (PySem.W.envX qual sc s.heap.objs.size f cd cl)=_
  unfold Env.blockKind
  show (if sc.kind.isAnnotationScope=true then _ else sc.kind)=_
  rw [h1]
  rfl
theorem nK {pos pos':Pos} {c cv:Value} (l:List Value) (h:TriplesOk l) (e:codeAmong pos (l++[rawInt pos'.line,rawInt pos'.col,c])=some cv):codeAmong pos l=some cv∨cv=c:=by
 fun_induction TriplesOk l with
 | case1 =>
  simp only [List.nil_append,codeAmong,rawInt] at e
  split at e
  ·cases e;exact .inr rfl
  ·cases e
 | case2 a t b u x rest ih =>
  simp only [List.cons_append,codeAmong] at e ⊢
  split at e
  ·rename_i hc;rw [if_pos hc];exact .inl e
  ·rename_i hc;rw [if_neg hc];exact ih h e
 | case3 l h1 h2=>exact h.elim
theorem Ext.lam {K:PySem.W.Frag} {m:List Addr} {H:Hp} {T:Addr} {ps:Array Value} {pos:Pos} {c' c0:Addr} {oc:Obj} {x:Str} (hx:x∈aV) (ht:PySem.W.tabIn K x=some (c0,T)) (hT:H T=some (.tbl ps)) (hn:H c'=none) (ho:mP oc (x++".<locals>."++"<lambda>")):Ext K m H m (li H T ps pos c' oc):=by
 have cT:c'≠T:=fun z=>by rw [z,hT] at hn;cases hn
 have same:∀b,b≠T→b≠c'→li H T ps pos c' oc b=H b:=fun b h1 h2=>(ak h2).trans (ak h1)
 have nT:∀ {b:Addr} {o:HO},H b=some o→(∀qs,o≠.tbl qs)→b≠T:=fun {b o} e n z=>by rw [z,hT] at e;cases e;exact n _ rfl
 have nc:∀ {b:Addr} {o:HO},H b=some o→b≠c':=fun {b o} e z=>by rw [z,hn] at e;cases e
 have atT:li H T ps pos c' oc T=some (.tbl (CH ps pos c')):=(ak cT.symm).trans (if_pos rfl)
 have atc:li H T ps pos c' oc c'=some (.frz oc (.own 0)):=if_pos rfl
 refine ⟨List.prefix_refl _,fun _ z=>.inl z,fun a o _ e n=>?_,fun a ys q=>?_,fun a ys q=>?_,fun a qs _ e=>?_,fun t y hy d T' hd=>?_⟩
 ·rw [same a (nT e n) (nc e)];exact e
 ·rcases q with (q|⟨w,q⟩)|q
  ·exact .inl (.inl (by rw [same a (nT q fun _ z=>nomatch z) (nc q)];exact q))
  ·exact .inl (.inr ⟨w,by rw [same a (nT q fun _ z=>nomatch z) (nc q)];exact q⟩)
  ·exact .inr q
 ·rcases q with ⟨w,q⟩|q
  ·exact .inl ⟨w,by rw [same a (nT q fun _ z=>nomatch z) (nc q)];exact q⟩
  ·exact .inr q
 ·by_cases ha:a=T
  ·subst ha;exact ⟨_,atT⟩
  ·exact ⟨qs,by rw [same a ha (nc e)];exact e⟩
 ·obtain ⟨u,qs,e1,e2,e3⟩:=t y hy d T' hd
  have keepF:∀ {b:Addr} {o:Obj},H b=some (.frz o (.own 0))→li H T ps pos c' oc b=some (.frz o (.own 0)):=fun {b o} e=>by rw [same b (nT e fun _ z=>nomatch z) (nc e)];exact e
  by_cases hz:T'=T
  ·subst hz
   obtain rfl:x=y:=u x hx c0 ht
   rw [hT] at e1
   cases e1
   refine ⟨u,_,atT,?_,fun p cv q=>?_⟩
   ·rw [Array.toList_append];exact TriplesOk_snoc _ _ _ _ e2
   ·rw [Array.toList_append] at q
    rcases nK _ e2 q with q|q
    ·obtain ⟨c2,o2,g1,g2,g3⟩:=e3 p cv q
     exact ⟨c2,o2,g1,keepF g2,g3⟩
    ·exact ⟨c',oc,q,atc,ho⟩
  ·refine ⟨u,qs,by rw [same T' hz (nc e1)];exact e1,e2,fun p cv q=>?_⟩
   obtain ⟨c2,o2,g1,g2,g3⟩:=e3 p cv q
   exact ⟨c2,o2,g1,keepF g2,g3⟩
theorem ED {K:PySem.W.Frag} {fs ex:List Addr} {H H':Hp} {h h':Heap} (u:Un fs ex H H' h h'):(∀a ys,SqT K H a ys→SqT K H' a ys)∧∀a ys,RdF K H a ys→RdF K H' a ys:=by
 refine ⟨fun a ys q=>?_,fun a ys q=>?_⟩
 ·rcases q with (q|⟨w,q⟩)|q
  ·exact .inl (.inl (u.tups _ _ q))
  ·exact .inl (.inr ⟨w,u.frzs _ _ _ q⟩)
  ·exact .inr q
 ·rcases q with ⟨w,q⟩|q
  ·exact .inl ⟨w,u.frzs _ _ _ q⟩
  ·exact .inr q
theorem jv {k:Option NameKind} (h:yb k=true):k=some .cell∨k=some .free:=by
 unfold yb at h
 simpa using h
theorem BU {N:List Str}:∀ {caps:List Nat},(∀i∈caps,i<N.length)→(caps.filterMap (N[·]?)).length=caps.length
 | [],_=>rfl
 | i::r,h=>by
  have hi:=h i List.mem_cons_self
  rw [List.filterMap_cons,List.getElem?_eq_getElem hi]
  simp only [List.length_cons,BU fun j hj=>h j (List.mem_cons_of_mem _ hj)]
theorem BE {N:List Str}:∀ {caps:List Nat} {j:Nat} {x:Str},(∀i∈caps,i<N.length)→(caps.filterMap (N[·]?))[j]?=some x→∃i,caps[j]?=some i∧N[i]?=some x
 | [],j,x,_,e=>by simp at e
 | i::r,j,x,h,e=>by
  have hi:=h i List.mem_cons_self
  rw [List.filterMap_cons,List.getElem?_eq_getElem hi] at e
  cases j with
  | zero=>simp only [List.getElem?_cons_zero] at e;cases e;exact ⟨i,rfl,List.getElem?_eq_getElem hi⟩
  | succ j=>simp only [List.getElem?_cons_succ] at e ⊢;exact BE (fun j hj=>h j (List.mem_cons_of_mem _ hj)) e
theorem HK (C:COk X c Γ) {k:Nat} (hk:c.hm=some k) {y:Str} {l b:Expr} {a:Arg} {sc:Scope} {p pl pos:Pos} {e be:E} {caps:List Nat} (hy:y="how_many") (hg:c.glb y=true) (hs:ao l=true) (hl:c.lamOk k a.arg caps sc=true)
  (he:PE X l (TEx X.K (wpE Γ e))) (hb:∀ {X':Cx},COk X' (c.lam k a.arg caps sc) Γ→PE X' b (TEx X'.K (wpE Γ be))) :
  PE X (.Call (.Name y p) [l,.Lambda ⟨[],[a],none,[],[],none,[]⟩ b sc pl] [] pos) (TEx X.K (wpE Γ (.hm e be caps))):=by
 rintro pins s σ H Q I ⟨m,ρ,st,rf,rh,w⟩
 subst hy
 have hx:=C.hmo k hk
 obtain ⟨f,fd,hmg,hkp,hbd,run⟩:=hx.ok.ex
 obtain ⟨x,c0,T,hxl,htab,hcode,hqual,hhd⟩:=hx.cd
 obtain ⟨bm,ob,b1,b2,b3,b4,b5,b6⟩:=hx.bm
 obtain ⟨g1,g2,g3⟩:=C.glbx hg
 have hlo:=hl
 unfold Cfg.lamOk at hlo
 simp only [Bool.and_eq_true,beq_iff_eq,decide_eq_true_eq,List.all_eq_true,Bool.not_eq_true',Bool.or_eq_true] at hlo
 obtain ⟨⟨⟨⟨⟨⟨⟨⟨⟨⟨h1,h2⟩,h3⟩,h4⟩,h5⟩,h6⟩,h7⟩,h8⟩,h9⟩,h10⟩,h11⟩:=hlo
 have hfree:∀y∈sc.names,y.2=.free→∃c,X.env.cells.lookup y.1=some c:=fun y hy hf=>I.ok.has _ (C.cel _ (jv ((h7 y hy).resolve_left fun z=>by rw [hf] at z;cases z)))
 have hcl:closureFor sc X.env=pure (gu X.env sc.names []):=mz hfree
 have clg:∀ {y c},(gu X.env sc.names []).lookup y=some c→X.env.cells.lookup y=some c:=fun {y c} q=>fL hfree (fun _ _ z=>by simp at z) q
 have S:nu a.arg sc (gu X.env sc.names []):=⟨h1,h2,h3,fun y hy z=>(by have:=h4 y hy;rw [z] at this;simp at this),h5,fun y hy=>jI (PySem.mem_of_lookup hy),fun y z c e1 e2=>I.ok.inj y z c (clg e1) (clg e2)⟩
 refine wpAny_Call_Name_kw (lJ I g1 hmg ?_ g2)
 refine PySem.W.callWith_K (h₀:=X.base) I.ok.mod.kin hkp ?_ (aS hs) (by rw [aS rfl];rfl)
 rw [aS hs]
 show wpAny _ _ (spliced ((false,eval l X.env)::backTo pos (starEach [.Lambda ⟨[],[a],none,[],[],none,[]⟩ b sc pl] X.env))) _ _ s
 refine Calls.spliced_cons (thn (he pins s σ H (fun x1 H1=>∃m1 v st1,Ext X.K m H m1 H1∧RH X.K m1 H1 st1∧R X.K m1 H1 v x1∧∃xs,v=.tup xs∧xs.length≤100000∧(∀i∈caps,∃c,ρ[i]?=some (some c)∧c.bel 0=true) ∧
   ∃g:PV→Bool,(∀y∈xs,∀Q':EK,Q' (.bl (g y)) st1→wpE Γ be (some y::caps.map fun i=>(ρ[i]?).join) st1 Q')∧post X.K m H Q (.int (bsr g xs)) st1) I ⟨m,ρ,st,rf,rh,ac C.mono e (fun v st1 kk m1 H1 x1 e1 r1 r2=>⟨m1,v,st1,e1,r1,r2,kk⟩) w⟩) ?_)
 rintro u s1 ⟨x1,H1,I1,ru,m1,v,st1,e1,r1,r2,xs,rfl,hlen,hcaps,g,hgg,hq⟩
 rw [aS (rfl:ao (.Lambda ⟨[],[a],none,[],[],none,[]⟩ b sc pl)=true)]
 show wpAny _ _ (spliced ((false,eval (.Lambda ⟨[],[a],none,[],[],none,[]⟩ b sc pl) X.env)::backTo pos (starEach [] X.env))) _ _ s1
 obtain ⟨uq,ps,hT,htr,hcodes⟩:=r1.tb x hxl c0 T htab
 have nb:∀ {z:Addr} {o:Obj},X.base.get? z=some o→z≠T:=fun {z o} ez q=>by
  have:=(I1.bs z o ez).2
  rw [q,hT] at this
  cases this
 have nmg:bm≠mainGlobals:=fun z=>by
  obtain ⟨o,es,ep,q,d,_⟩:=I.mod.glob
  rw [z,q] at b3
  cases b3
  rw [d] at b6
  cases b6
 have hbm:s1.heap.BuiltinsAt X.mg T:=⟨bm,ob,b1,b2,nmg,nb b3,I1.bk _ _ b3,b4,b5,b6⟩
 refine Calls.spliced_cons (zK I1 hcode (hhd.keeps I1.bk) hT htr (fun cv q=>?_) hbm hcl rfl (fun f' H2 s2 pm c' ctv oc I2 hobj hoc hob hf hge hH=>?_))
 ·obtain ⟨c',oc,q1,q2,q3⟩:=hcodes pl cv q
  exact ⟨c',oc,q1,q2,by rw [hqual];exact q3⟩
 have hob':mP oc (x++".<locals>."++"<lambda>"):=by rw [←hqual];exact hob
 have e2:Ext X.K m1 H1 m1 H2:=by
  rcases hH with z|⟨hn,_,_,z⟩
  ·rw [z];exact Ext.refl _ _ _
  ·rw [z];exact Ext.lam hxl htab hT hn hob'
 have r3:RH X.K m1 H2 st1:=r1.keep e2 fun z hz=>by
  rcases hH with q|⟨hn,_,_,q⟩
  ·rw [q]
  ·rw [q]
   exact (ak (show z≠c' from fun q=>r1.fresh hn (by rw [←q];exact hz))).trans (ak (show z≠T from fun q=>r1.mem_tbl (by rw [←q];exact hz) hT))
 have hL:rL fun as st Q=>∃y,as=[y]∧wpE Γ be (some y::caps.map fun i=>(ρ[i]?).join) st Q:=fun as st Q Q' h ⟨y,e,q⟩=>⟨y,e,ac C.mono be h q⟩
 have sp:ax X.K (C5 f' fun as st Q=>∃y,as=[y]∧wpE Γ be (some y::caps.map fun i=>(ρ[i]?).join) st Q) [x1,.ref f'] H2 Q E0 :=
  ⟨m1,st1,[.tup xs,.fn f'],by rw [Rs_cons',Rs_cons',Rs_nil];exact ⟨r2.mono e2,R_fn.mpr rfl,rfl⟩,r3,xs,g,rfl,hlen,fun y hy Q' q=>⟨y,rfl,hgg y hy Q' q⟩,(hq.ext e1).ext e2⟩
 refine Calls.spliced_nil ⟨I2.kIn,wpAny_call (codeAny_mono (run f' _ hL X.A X.stack s2 H2 ⟨[u,.ref f'],[]⟩ [u,.ref f'] [x1,.ref f'] Q (C.room.mono (by omega)) I2.env0 (hbd s2 [u,.ref f'] I2.kIn rfl) (.cons ru (.cons rfl .nil)) ?_ sp) fun r s' hq=>?_)⟩
 ·intro A' outer' s' H' u' v' Q' hr' e0' un rv' ⟨m',st',as,ra,rh',y,eas,wy⟩
  subst eas
  have hfr:f' ∉ frs X.stack:=fun z=>by
   have lt:f'<s1.heap.objs.size:=by
    rcases List.mem_cons.mp (I1.stkSub f' z) with q|q
    ·rw [q];exact I1.lt
    ·obtain ⟨_,o,ho,_⟩:=I1.ok.funs.mem q
     exact Nat.lt_of_lt_of_le (Heap.lt_size ho) I1.sz
   exact absurd hge (Nat.not_le.mpr lt)
  have hobj':=un.keep f' _ hobj hf hfr (by simp)
  have hoc':H' c'=some (.frz oc (.own 0)):=un.frzs _ _ _ hoc
  have hrec:s'.heap.CodeRec (.ref c') (X.env.qual++"<lambda>"):=by
   obtain ⟨vs,t,d1,d2⟩:=hob
   exact ⟨c',oc,vs,t,rfl,(e0'.hok _ _ hoc').1,d1,d2⟩
  have cellK:∀ {d:Addr} {z:Option Value},H2 d=none→s2.heap.IsCell d z→s'.heap.IsCell d z:=fun {d z} hn ⟨o,ho,hd⟩=>by
   obtain ⟨sl,q⟩:=un.any ho hn (by simp)
   exact ⟨_,q,hd⟩
  refine ⟨⟨_,_,_,_,hobj'⟩,?_⟩
  refine CO (k:=k) (N:=a.arg::caps.filterMap (c.N[·]?)) (σ:=some v'::caps.map fun i=>(σ[i]?).join) ⟨pm,c',ctv,hobj',hrec⟩ S hr' e0' rv' zR (fun y d q=>?_) (fun i y z q1 q2=>?_) ?_ (fun cd hroom=>⟨_,hb (Co C hl hroom),m',some y::caps.map (fun i=>(ρ[i]?).join),st',?_,rh',wy⟩)
  ·have q':=clg q
   obtain ⟨z,hz⟩:=I2.cell y d q'
   obtain ⟨o,ho,_⟩:=id hz
   exact ⟨⟨z,cellK (I2.freeC y d q') hz⟩,un.free d o ho (I2.freeC y d q') (by simp)⟩
  ·cases i with
   | zero =>
    simp only [List.getElem?_cons_zero] at q1 q2
    cases q1;cases q2
    exact .inl ⟨rfl,rfl⟩
   | succ i =>
    simp only [List.getElem?_cons_succ] at q1 q2
    obtain ⟨j,e3,e4⟩:=BE h9 q1
    rw [List.getElem?_map,e3] at q2
    have q2':(σ[j]?).join=some z:=by simpa using q2
    have q3:σ[j]?=some (some z):=by
     cases q:σ[j]? with
     | none=>rw [q] at q2';cases q2'
     | some o=>rw [q] at q2';exact congrArg some q2'
    have hy:=h10 y (List.mem_of_getElem? q1)
    obtain ⟨mm,hn,hlook⟩:=I2.loc
    have vis:Vis X.env.scope y:=by
     rcases jv hy.2 with q|q
     ·exact C.vis y (.inr (.inl q))
     ·exact C.vis y (.inr (.inr q))
    obtain ⟨uu,rr,lk⟩:=hlook j y z (by rw [C.N];exact e4) q3 vis
    refine .inr ⟨hy.1,?_⟩
    rcases lk with ⟨kd,_⟩|⟨_,d,e5,e6⟩
    ·rcases C.cel y (jv hy.2) with q|q <;> rw [kd] at q <;> cases q
    ·obtain ⟨d2,e7⟩:=S.free y hy.1
     have e8:=clg e7
     rw [e5] at e8
     cases e8
     exact ⟨d,uu,e7,cellK (I2.freeC y d e5) e6,rr⟩
  ·simp [BU h9]
  ·rw [Rs_cons',Rs_nil] at ra
   have ut:=ED (K:=X.K) un
   refine ⟨by simp,fun i z q=>?_⟩
   cases i with
   | zero =>
    simp only [List.getElem?_cons_zero] at q ⊢
    cases q
    exact ⟨v',rfl,ra.1⟩
   | succ i =>
    simp only [List.getElem?_cons_succ] at q ⊢
    rw [List.getElem?_map] at q
    cases e3:caps[i]? with
    | none=>rw [e3] at q;cases q
    | some j =>
     rw [e3] at q
     obtain ⟨cc,e4,e5⟩:=hcaps j (List.mem_of_getElem? e3)
     have q':(ρ[j]?).join=some z:=by simpa using q
     rw [e4] at q'
     obtain rfl:cc=z:=by simpa using q'
     obtain ⟨xv,e6,e7⟩:=rf.at_ j _ e4
     refine ⟨xv,by rw [List.getElem?_map,e3,Option.map_some,e6];rfl,?_⟩
     have r0:R X.K [] H cc xv:=by have:=R.cut e7 (PV.bel_bec (Nat.le_refl _) e5);rwa [List.take_zero] at this
     have r1:R X.K [] H1 cc xv:=R.mono0 e1.tup e1.rdf r0
     have r2:R X.K [] H2 cc xv:=R.mono0 e2.tup e2.rdf r1
     exact R.pre (List.nil_prefix) (R.mono0 ut.1 ut.2 r2)
 ·cases r with
  | error e=>exact False.elim hq
  | ok fl =>
   cases fl with
   | ret u=>exact I2.after hq
   | next=>exact False.elim hq
   | brk=>exact False.elim hq
   | cont=>exact False.elim hq
end
end FW
set_option Elab.async false
set_option linter.all false
set_option maxRecDepth 100000
set_option maxHeartbeats 1000000
namespace FW
open PySem PySem.Spec PyProof.Rows L2 HX
section
variable {Γ:Nat→FSp}
theorem nj (G:bM Γ) {elt:E} {tg:Tg} {ifs:Es} {ρ:Fr} {x:PV} {st:AH} {k k':Option PV→AH→Prop} (hk:∀o st,k o st→k' o st) (q:fc Γ elt tg ifs ρ x st k):fc Γ elt tg ifs ρ x st k' :=
 br G tg (fun ρ' st3 w=>cF G ifs (fun c st4 w=>by
  cases c with
  | true=>rw [if_pos rfl] at w ⊢;exact ac G elt (fun v st5 w=>hk _ _ w) w
  | false=>rw [if_neg Bool.false_ne_true] at w ⊢;exact hk _ _ w) w) q
theorem Ext.addD {K:PySem.W.Frag} {m m2:List Addr} {H H2:Hp} {D:Addr} (x:Ext K m H m2 H2) (h0:H D=none):Ext K m H (m2++[D]) H2:=by
 refine ⟨x.pre.trans (List.prefix_append _ _),fun a ha=>?_,x.fr,x.tup,x.rdf,x.tbs,x.tb⟩
 rcases List.mem_append.mp ha with z|z
 ·exact x.new a z
 ·rw [List.mem_singleton] at z
  subst z
  exact .inr h0
theorem RH.addD {K:PySem.W.Frag} {m:List Addr} {H:Hp} {st:AH} {D:Addr} {vs:List PV} {ys:List V} (h:RH K m H st) (Dm:D ∉ m) (hD:H D=some (.lst ys)) (r:Rs K m H vs ys):RH K (m++[D]) H (st++[.lst vs]):=by
 have hp:m <+: m++[D]:=List.prefix_append _ _
 refine ⟨by simp [h.len],List.nodup_append.mpr ⟨h.nd,List.nodup_cons.mpr ⟨by simp,List.nodup_nil⟩,fun a ha b hb z=>?_⟩,fun n c' a h1 h2=>?_,h.tb⟩
 ·rw [List.mem_singleton] at hb
  subst hb
  exact Dm (z ▸ ha)
 ·by_cases hn:n<st.length
  ·rw [List.getElem?_append_left hn] at h1
   rw [List.getElem?_append_left (by rw [h.len];exact hn)] at h2
   have hc:=h.at_ n c' a h1 h2
   cases c' with
   | lst xs=>obtain ⟨us,g1,g2⟩:=hc;exact ⟨us,g1,g2.pre hp⟩
   | dk kvs=>obtain ⟨us,g1,g2,g3⟩:=hc;exact ⟨us,g1,g2,g3.pre hp⟩
  ·rw [List.getElem?_append_right (by omega)] at h1
   rw [List.getElem?_append_right (by rw [h.len];omega)] at h2
   have hl:=h.len
   by_cases hz:n-st.length=0
   ·rw [hz] at h1
    rw [show n-m.length=0 by omega] at h2
    simp at h1 h2
    subst h1 h2
    exact ⟨ys,hD,r.pre hp⟩
   ·rw [List.getElem?_eq_none (by simp;omega)] at h1
    cases h1
theorem lW {X:Cx} {c:Cfg} (C:COk X c Γ) {nt:List Str} {caps:List Nat} {sc:Scope} (h:c.block nt caps sc=true) :
  CScope X sc∧(∀i∈caps,i<X.N.length)∧(∀x∈caps.filterMap (X.N[·]?),sc.names.lookup x=some .free)∧(∀x∈caps.filterMap (X.N[·]?),X.env.kindOf x=some .cell∨X.env.kindOf x=some .free)∧(nt++caps.filterMap (X.N[·]?)).Nodup:=by
 unfold Cfg.block at h
 simp only [Bool.and_eq_true,List.all_eq_true,beq_iff_eq,decide_eq_true_eq,Bool.or_eq_true,Bool.not_eq_true',beq_eq_false_iff_ne] at h
 obtain ⟨⟨⟨⟨⟨⟨h1,h2⟩,h3⟩,h4⟩,h5⟩,h6⟩,h7⟩:=h
 rw [C.N]
 refine ⟨⟨h1,fun y hy=>h2 y hy,fun y hy e=>?_,fun y hy e=>?_⟩,h5,fun x hx=>(h6 x hx).1,fun x hx=>C.cel x (jv (h6 x hx).2),h7⟩
 ·rcases h3 y hy with z|z
  ·exact absurd e z
  ·exact z
 ·rcases h4 y hy with z|z
  ·exact absurd e z
  ·exact C.cel _ (jv z)
theorem Bw {X:Cx} {c:Cfg} (C:COk X c Γ) {nt:List Str} {caps:List Nat} {sc:Scope} (h:c.block nt caps sc=true) {s2:Shared} {H2:Hp} {fp:List Addr} {A:Addr} :
  COk (cxC X (nt++caps.filterMap (X.N[·]?)) s2 H2 fp sc A) (c.inner nt caps sc) Γ:=by
 obtain ⟨S,k1,k2,k3,k4⟩:=lW C h
 have nocell:∀x,sc.names.lookup x≠some .cell:=fun x e=>S.nocell _ (PySem.mem_of_lookup e) rfl
 refine ⟨C.calm,PassesOwn.never,?_,?_,fun x hx=>?_,fun x hx=>?_,fun x hx=>lookup_relabel_local hx,fun x hx=>jF hx,?_,fun x hx=>?_,C.room,C.fn,C.blt,C.gl,C.mono,fun h=>Bool.noConfusion (show false=true from h),fun k h=>by cases h⟩
 ·show nt++caps.filterMap (X.N[·]?)=nt++caps.filterMap (c.N[·]?)
  rw [C.N]
 ·show (nt++caps.filterMap (c.N[·]?)).Nodup
  rw [←C.N]
  exact k4
 ·rcases hx with hx|hx|hx
  ·exact .inl (lookup_relabel_local hx)
  ·exact absurd hx (nocell x)
  ·rcases d9 (env:=X.env) hx with z|z
   ·exact .inr (.inl z)
   ·exact .inr (.inr z)
 ·rcases hx with hx|hx
  ·exact ⟨.inl (lookup_relabel_local hx),.inr (lookup_relabel_local hx)⟩
  ·exact absurd hx (nocell x)
 ·show Env.blockKind (compEnvC sc (gu X.env sc.names []) A X.env)=_
  unfold Env.blockKind
  show (if sc.kind.isAnnotationScope=true then _ else sc.kind)=_
  rw [S.kind]
  rfl
 ·rcases hx with hx|hx
  ·exact absurd hx (nocell x)
  ·exact d9 hx
mutual
theorem a_:∀(e:E) {X:Cx} {c:Cfg} (C:COk X c Γ) (x:Expr),aU c e x=true→PE X x (TEx X.K (wpE Γ e))
 | .var i,X,c,C,x,h=>by
  replace h:=am h
  obtain ⟨y,p,rfl,h⟩:=h
  ·exact BZ C h
 | .int i,X,c,C,x,h=>by
  replace h:=xP h
  obtain ⟨j,k,p,rfl,h⟩:=h
  ·rw [beq_iff_eq] at h;subst h
   rintro pins s σ H Q I ⟨m,ρ,st,rf,rh,w⟩
   skip
   exact Gu pins s σ H Q I (w.here rh (R_int.mpr rfl))
 | .bl i,X,c,C,x,h=>by
  replace h:=ym h
  obtain ⟨j,k,p,rfl,h⟩:=h
  ·rw [beq_iff_eq] at h;subst h
   rintro pins s σ H Q I ⟨m,ρ,st,rf,rh,w⟩
   skip
   exact GF pins s σ H Q I (w.here rh (R_bl.mpr rfl))
 | .non,X,c,C,x,h=>by
  replace h:=xH h
  obtain ⟨k,p,rfl⟩:=h
  ·rintro pins s σ H Q I ⟨m,ρ,st,rf,rh,w⟩
   skip
   exact Gz pins s σ H Q I (w.here rh (R_non.mpr rfl))
 | .str i,X,c,C,x,h=>by
  replace h:=xc h
  obtain ⟨j,k,p,rfl,h⟩:=h
  ·rw [beq_iff_eq] at h;subst h
   rintro pins s σ H Q I ⟨m,ρ,st,rf,rh,w⟩
   skip
   exact D4 pins s σ H Q I (w.here rh (R_str.mpr rfl))
 | .gv y v,X,c,C,x,h=>by
  replace h:=am h
  obtain ⟨z,p,rfl,h⟩:=h
  ·simp only [Bool.and_eq_true,beq_iff_eq] at h
   obtain ⟨⟨h1,h2⟩,h3⟩:=h
   subst h1
   obtain ⟨g1,g2,_⟩:=C.glbx h2
   replace h3:=gi h3
   obtain ⟨w,hw,h3⟩:=h3
   ·have:=PV.same_eq h3
    subst this
    obtain ⟨u,z,e1,e2,e3⟩:=C.gl _ _ hw
    rintro pins s σ H Q I ⟨m,ρ,st,rf,rh,w⟩
    skip
    exact Cm g1 e1 e2 g2 pins s σ H Q I (w.here rh (e3 m H))
 | .tup es,X,c,C,x,h=>by
  replace h:=bF h
  obtain ⟨xs,k,p,rfl,h⟩:=h
  ·rintro pins s σ H Q I ⟨m,ρ,st,rf,rh,w⟩
   skip
   refine Gi (kO es C _ h) pins s σ H Q I ⟨m,ρ,st,rf,rh,aM C.mono es (fun vs st1 k m1 H1 xs1 e1 r1 r2=>⟨by rw [←r2.len];exact ft k.1,fun p hp=>?_⟩) w⟩
   exact (k.2.ext e1).newT r1 r2 hp
 | .lst es,X,c,C,x,h=>by
  replace h:=t6 h
  obtain ⟨xs,p,rfl,h⟩:=h
  ·rintro pins s σ H Q I ⟨m,ρ,st,rf,rh,w⟩
   skip
   refine Fs (kO es C _ h) pins s σ H Q I ⟨m,ρ,st,rf,rh,aM C.mono es (fun vs st1 k m1 H1 xs1 e1 r1 r2=>⟨by rw [←r2.len];exact ft k.1,fun p hp=>?_⟩) w⟩
   exact (k.2.ext e1).newL r1 r2 hp
 | .bad,X,c,C,x,h=>by rintro pins s σ H Q I ⟨m,ρ,st,rf,rh,w⟩;exact False.elim w
 | .dct0,X,c,C,x,h=>by rintro pins s σ H Q I ⟨m,ρ,st,rf,rh,w⟩;exact False.elim w
 | .dct1 _ _,X,c,C,x,h=>by rintro pins s σ H Q I ⟨m,ρ,st,rf,rh,w⟩;exact False.elim w
 | .bin op a b,X,c,C,x,h=>by
  replace h:=xb h
  obtain ⟨l,o,r,p,rfl,h⟩:=h
  ·simp only [Bool.and_eq_true,beq_iff_eq] at h
   obtain ⟨⟨h1,h2⟩,h3⟩:=h
   subst h1
   rintro pins s σ H Q I ⟨m,ρ,st,rf,rh,w⟩
   skip
   exact GY (EC _) (a_ a C _ h2) (a_ b C _ h3) pins s σ H Q I ⟨m,ρ,st,rf,rh,ac C.mono a (fun v st1 k m1 H1 x1 e1 r1 r2=>⟨m1,ρ,st1,rf.mono e1,r1,
    ac C.mono b (fun u st2 k2 m2 H2 y2 e2 r3 r4=>⟨m2,st2,v,u,r3,r2.mono e2,r4,oA (fun _ _ q=>q.ext (e1.trans e2)) k2⟩) k⟩) w⟩
 | .neg a,X,c,C,x,h=>by
  replace h:=xO h
  obtain ⟨y,p,rfl,h⟩:=h
  ·rintro pins s σ H Q I ⟨m,ρ,st,rf,rh,w⟩
   skip
   refine GT F1 (a_ a C _ h) pins s σ H Q I ⟨m,ρ,st,rf,rh,ac C.mono a (fun v st1 k m1 H1 x1 e1 r1 r2=>?_) w⟩
   obtain ⟨i,rfl,k⟩:=k
   rw [R_int] at r2
   subst r2
   exact ⟨i,rfl,(k.ext e1).here r1 (R_int.mpr rfl)⟩
 | .not a,X,c,C,x,h=>by
  replace h:=ol h
  obtain ⟨y,p,rfl,h⟩:=h
  ·rintro pins s σ H Q I ⟨m,ρ,st,rf,rh,w⟩
   skip
   refine Fl (a_ a C _ h) pins s σ H Q I ⟨m,ρ,st,rf,rh,ac C.mono a (fun v st1 k m1 H1 x1 e1 r1 r2=>?_) w⟩
   obtain ⟨i,rfl,k⟩:=k
   rw [R_bl] at r2
   subst r2
   exact ⟨i,rfl,(k.ext e1).here r1 (R_bl.mpr rfl)⟩
 | .cmp op a b,X,c,C,x,h=>by
  replace h:=oo h
  obtain ⟨l,o,r,p,rfl,h⟩:=h
  ·simp only [Bool.and_eq_true,beq_iff_eq,Bool.not_eq_true',beq_eq_false_iff_ne] at h
   obtain ⟨⟨⟨h1,n1⟩,h2⟩,h3⟩:=h
   subst h1
   rintro pins s σ H Q I ⟨m,ρ,st,rf,rh,w⟩
   skip
   exact Du (Ap C.room.units _) (a_ a C _ h2) (a_ b C _ h3) n1 pins s σ H Q I ⟨m,ρ,st,rf,rh,ac C.mono a (fun v st1 k m1 H1 x1 e1 r1 r2=>⟨m1,ρ,st1,rf.mono e1,r1,
    ac C.mono b (fun u st2 k2 m2 H2 y2 e2 r3 r4=>⟨m2,st2,v,u,r3,r2.mono e2,r4,iA (fun _ _ q=>q.ext (e1.trans e2)) k2⟩) k⟩) w⟩
 | .bop true es,X,c,C,x,h=>by
  replace h:=ii h
  obtain ⟨o,xs,p,rfl,h⟩:=h
  ·simp only [Bool.and_eq_true,beq_iff_eq,Bool.not_eq_true'] at h
   obtain ⟨⟨h1,h2⟩,h3⟩:=h
   subst h1
   rintro pins s σ H Q I ⟨m,ρ,st,rf,rh,w⟩
   skip
   exact DU es C _ _ h2 h3 pins s σ H Q I ⟨m,ρ,st,rf,rh,w⟩
 | .bop false es,X,c,C,x,h=>by
  replace h:=ii h
  obtain ⟨o,xs,p,rfl,h⟩:=h
  ·simp only [Bool.and_eq_true,beq_iff_eq,Bool.not_eq_true'] at h
   obtain ⟨⟨h1,h2⟩,h3⟩:=h
   subst h1
   rintro pins s σ H Q I ⟨m,ρ,st,rf,rh,w⟩
   skip
   exact DZ es C _ _ h2 h3 pins s σ H Q I ⟨m,ρ,st,rf,rh,w⟩
 | .ite t a b,X,c,C,x,h=>by
  replace h:=xn h
  obtain ⟨y,l,r,p,rfl,h⟩:=h
  ·simp only [Bool.and_eq_true] at h
   obtain ⟨⟨h1,h2⟩,h3⟩:=h
   rintro pins s σ H Q I ⟨m,ρ,st,rf,rh,w⟩
   skip
   refine zO (nR t C _ h1) (a_ a C _ h2) (a_ b C _ h3) pins s σ H Q I ⟨m,ρ,st,rf,rh,aQ C.mono t (fun k st1 z m1 H1 e1 r1=>?_) w⟩
   cases k with
   | true=>rw [if_pos rfl] at z ⊢;exact ⟨m1,ρ,st1,rf.mono e1,r1,ac C.mono a (fun _ _ q=>q.ext e1) z⟩
   | false=>rw [if_neg Bool.false_ne_true] at z ⊢;exact ⟨m1,ρ,st1,rf.mono e1,r1,ac C.mono b (fun _ _ q=>q.ext e1) z⟩
 | .ix a b,X,c,C,x,h=>by
  replace h:=fQ h
  obtain ⟨l,r,p,rfl,h⟩:=h
  ·simp only [Bool.and_eq_true] at h
   obtain ⟨⟨h1,h2⟩,h3⟩:=h
   rintro pins s σ H Q I ⟨m,ρ,st,rf,rh,w⟩
   skip
   exact Ab DR (a_ a C _ h2) (a_ b C _ h3) h1 pins s σ H Q I ⟨m,ρ,st,rf,rh,ac C.mono a (fun v st1 k m1 H1 x1 e1 r1 r2=>⟨m1,ρ,st1,rf.mono e1,r1,
    ac C.mono b (fun u st2 k2 m2 H2 y2 e2 r3 r4=>⟨m2,st2,v,u,r3,r2.mono e2,r4,jK (fun _ _ q=>q.ext (e1.trans e2)) k2⟩) k⟩) w⟩
 | .sl a lo hi,X,c,C,x,h=>by
  replace h:=fQ h
  obtain ⟨l,r,p,rfl,h⟩:=h
  replace h:=sy h
  obtain ⟨u,v,p2,rfl,h⟩:=h
  ·simp only [Bool.and_eq_true] at h
   obtain ⟨⟨h1,h2⟩,h3⟩:=h
   rintro pins s σ H Q I ⟨m,ρ,st,rf,rh,w⟩
   skip
   exact zL Hl (a_ a C _ h1) (HP lo C _ h2) (HP hi C _ h3) pins s σ H Q I ⟨m,ρ,st,rf,rh,ac C.mono a (fun v st1 k m1 H1 x1 e1 r1 r2=>⟨m1,ρ,st1,rf.mono e1,r1,
    jO C.mono lo (fun l st2 k2 m2 H2 e2 r3=>⟨m2,ρ,st2,(rf.mono e1).mono e2,r3,jO C.mono hi (fun u st3 k3 m3 H3 e3 r4=>⟨m3,st3,v,r4,(r2.mono e2).mono e3,rp (fun _ _ q=>q.ext ((e1.trans e2).trans e3)) k3⟩) k2⟩) k⟩) w⟩
 | .call f es,X,c,C,x,h=>by
  replace h:=aP h
  obtain ⟨g,xs,p,rfl,h⟩:=h
  replace h:=am h
  obtain ⟨y,p2,rfl,h⟩:=h
  ·simp only [Bool.and_eq_true] at h
   obtain ⟨⟨h1,h2⟩,h3⟩:=h
   rintro pins s σ H Q I ⟨m,ρ,st,rf,rh,w⟩
   skip
   exact sK C h1 h2 h3 (kO es C _ h3) pins s σ H Q I ⟨m,ρ,st,rf,rh,w⟩
 | .blt b es,X,c,C,x,h=>by
  replace h:=aP h
  obtain ⟨g,xs,p,rfl,h⟩:=h
  replace h:=am h
  obtain ⟨y,p2,rfl,h⟩:=h
  ·simp only [Bool.and_eq_true,beq_iff_eq,Bool.not_eq_true'] at h
   obtain ⟨⟨⟨⟨h1,h2⟩,h3⟩,h4⟩,h5⟩:=h
   rintro pins s σ H Q I ⟨m,ρ,st,rf,rh,w⟩
   skip
   exact rF C h1 h2 h3 h4 (kO es C _ h5) pins s σ H Q I ⟨m,ρ,st,rf,rh,w⟩
 | .inst a t,X,c,C,x,h=>by
  replace h:=aP h
  obtain ⟨g,xs,p,rfl,h⟩:=h
  replace h:=am h
  obtain ⟨y,p2,rfl,h⟩:=h
  replace h:=gf h
  obtain ⟨l,r,rfl,h⟩:=h
  replace h:=am h
  obtain ⟨z,p3,rfl,h⟩:=h
  ·rw [Bool.and_eq_true] at h
   exact wt C h.1 (a_ a C _ h.2)
 | .met mm o es,X,c,C,x,h=>by
  replace h:=aP h
  obtain ⟨g,xs,p,rfl,h⟩:=h
  replace h:=vw h
  obtain ⟨y,n,p2,rfl,h⟩:=h
  ·simp only [Bool.and_eq_true,beq_iff_eq,decide_eq_true_eq] at h
   obtain ⟨⟨⟨⟨⟨⟨h1,h2⟩,h3⟩,h4⟩,h0⟩,h5⟩,h6⟩:=h
   exact Al C h1 (by rw [h2];simp) h3 h4 h0 (a_ o C _ h5) (kO es C _ h6) h6
 | .comp elt tg it ifs nt caps,X,c,C,x,h=>by
  replace h:=jC h
  obtain ⟨ex,gs,sc,pos,rfl,h⟩:=h
  replace h:=dC h
  obtain ⟨g,rfl,h⟩:=h
  obtain ⟨tx,ix,fx,ia⟩:=g
  dsimp only at h
  ·simp only [Bool.and_eq_true,beq_iff_eq] at h
   obtain ⟨⟨⟨⟨⟨⟨⟨⟨h1,h0⟩,h2⟩,h3⟩,h4⟩,h5⟩,h6⟩,h7⟩,h8⟩:=h
   subst h1
   obtain ⟨S,k1,k2,k3,k4⟩:=lW C h4
   have hC:∀s2 H2 fp A,COk (cxC X (nt++caps.filterMap (X.N[·]?)) s2 H2 fp sc A) (c.inner nt caps sc) Γ:=fun s2 H2 fp A=>Bw C h4
   rintro pins s σ H Q I ⟨m,ρ,st,rf,rh,w⟩
   skip
   rw [eval_ListComp]
   refine o0 (elt:=elt) (tg:=tg) (ifs:=ifs) (nt:=nt) (caps:=caps) (use:=none) (Fin:=fun D H'=>Q (.ref D) H') (wi:=TIx X.K (iW Γ it)) C.mono C.calm S rfl k1 k2 k3 h2 h3 (y9 it C ix h0 h5) (fun s2 H2 fp A=>oG tg (hC s2 H2 fp A) _ h6) (fun s2 H2 fp A=>ve ifs (hC s2 H2 fp A) _ h7) (fun s2 H2 fp A=>a_ elt (hC s2 H2 fp A) _ h8) I ?_ ?_
   ·refine ⟨m,ρ,st,rf,rh,fJ C.mono it (fun xs chk st1 z m1 H1 J e1 r1 W=>⟨m1,ρ,st1,xs,chk,rf.mono e1,r1,W,z.1,?_⟩) w⟩
    refine fS (body:=fc Γ elt tg ifs (nt.map (fun _=>none)++caps.map fun i=>(ρ[i]?).join)) (fun _ _ _ _ hk q=>nj C.mono hk q) (fun vs st2 k m2 H2 D ys e2 r2 Dm hD0 hD ry=>?_) z.2
    have hD1:H D=none:=by
     cases q:H D with
     | none=>rfl
     | some o =>
      by_cases hm:D∈m
      ·exact absurd ((e1.trans e2).pre.subset hm) Dm
      ·exact absurd hD0 (e1.ne hm q)
    exact k _ _ _ ((e1.trans e2).addD hD1) (r2.addD Dm hD ry) (R.last r2.len)
   ·intro C' D H' s' m' I' ns fp F
    refine ⟨m',ns,fun h' hs'=>?_⟩
    exact ⟨.ref D,H',I'.turned (t':=s'.toks) (fun b o hb e=>hs'.extBut b o hb e) fp.1 fp.2.1 fp.2.2.2.1 fp.2.2.2.2.1 fp.2.2.2.2.2,rfl,F⟩
 | .tmp a,X,c,C,x,h=>by
  have h:aU c a x=true:=h
  rintro pins s σ H Q I ⟨m,ρ,st,rf,rh,w⟩
  skip
  refine a_ a C x h pins s σ H Q I ⟨m,ρ,st,rf,rh,ac C.mono a (fun v st1 k m1 H1 x1 e1 r1 r2=>?_) w⟩
  obtain ⟨st2,q,e2,r3,r4⟩:=pG rh e1 r1 r2 k
  exact q m H1 x1 e2 r3 r4
 | .jrev _,X,c,C,x,h=>by rintro pins s σ H Q I ⟨m,ρ,st,rf,rh,w⟩;exact False.elim w
 | .pcall i e,X,c,C,x,h=>by
  have hh:=(Bool.and_eq_true _ _).mp h
  have hpc:=hh.1
  replace h:=hh.2
  replace h:=aP h
  obtain ⟨g,xs,p,rfl,h⟩:=h
  replace h:=am h
  obtain ⟨y,p2,rfl,h⟩:=h
  replace h:=dC h
  obtain ⟨l,rfl,h⟩:=h
  ·simp only [Bool.and_eq_true,beq_iff_eq] at h
   obtain ⟨⟨⟨h1,h2⟩,h3⟩,h4⟩:=h
   exact rJ C hpc h1 h2 h3 (a_ e C _ h4)
 | .hm e be caps,X,c,C,x,h=>by
  replace h:=gi h
  obtain ⟨k,hk,h⟩:=h
  replace h:=aP h
  obtain ⟨g,xs,p,rfl,h⟩:=h
  replace h:=am h
  obtain ⟨y,p2,rfl,h⟩:=h
  replace h:=gf h
  obtain ⟨l,r,rfl,h⟩:=h
  replace h:=xa h
  obtain ⟨as,b,sc,pl,rfl,h⟩:=h
  replace h:=xW h
  obtain ⟨a,rfl,h⟩:=h
  ·simp only [Bool.and_eq_true,beq_iff_eq] at h
   obtain ⟨⟨⟨⟨⟨h1,h2⟩,h3⟩,h4⟩,h5⟩,h6⟩:=h
   exact HK C hk h1 h2 h3 h4 (a_ e C _ h5) fun C'=>a_ be C' _ h6
 | .part _ _,X,c,C,x,h=>by rintro pins s σ H Q I ⟨m,ρ,st,rf,rh,w⟩;exact False.elim w
theorem kO:∀(es:Es) {X:Cx} {c:Cfg} (C:COk X c Γ) (xs:List Expr),fe c es xs=true→PA X xs (TAx X.K (dh Γ es))
 | .nil,X,c,C,xs,h=>by
  have h:xs.isEmpty=true:=h
  cases xs with
  | nil =>
   rintro pos pins s σ H Q I ⟨m,ρ,st,rf,rh,w⟩
   skip
   exact jf pos pins s σ H Q I (w m H [] (Ext.refl _ _ _) rh (Rs_nil.mpr rfl))
  | cons x xs=>cases h
 | .cons e es,X,c,C,xs,h=>by
  replace h:=aR h
  obtain ⟨y,ys,rfl,h⟩:=h
  ·simp only [Bool.and_eq_true] at h
   obtain ⟨⟨h1,h2⟩,h3⟩:=h
   rintro pos pins s σ H Q I ⟨m,ρ,st,rf,rh,w⟩
   skip
   exact pac (a_ e C _ h2) (kO es C _ h3) h1 pos pins s σ H Q I ⟨m,ρ,st,rf,rh,ac C.mono e (fun v st1 k m1 H1 x1 e1 r1 r2=>⟨m1,ρ,st1,rf.mono e1,r1,
    aM C.mono es (fun us st2 k2 m2 H2 ys e2 r3 r4=>k2 m2 H2 _ (e1.trans e2) r3 (Rs_cons'.mpr ⟨r2.mono e2,r4⟩)) k⟩) w⟩
theorem HP:∀(o:O) {X:Cx} {c:Cfg} (C:COk X c Γ) (x:Option Expr),E' c o x=true→PO X x (fun σ H Q=>∃m ρ st,RF X.K m H ρ σ∧RH X.K m H st∧wpO Γ o ρ st fun v st'=>∀m' H',Ext X.K m H m' H'→RH X.K m' H' st'→Q v H')
 | .no,X,c,C,x,h=>by
  have h:x.isNone=true:=h
  cases x with
  | none =>
   rintro pins s σ H Q I ⟨m,ρ,st,rf,rh,w⟩
   skip
   exact B_ pins s σ H Q I (w m H (Ext.refl _ _ _) rh)
  | some y=>cases h
 | .yes e,X,c,C,x,h=>by
  replace h:=gi h
  obtain ⟨y,rfl,h⟩:=h
  ·rintro pins s σ H Q I ⟨m,ρ,st,rf,rh,w⟩
   skip
   refine Dp (a_ e C _ h) pins s σ H Q I ⟨m,ρ,st,rf,rh,ac C.mono e (fun v st1 k m1 H1 x1 e1 r1 r2=>?_) w⟩
   obtain ⟨i,rfl,k⟩:=k
   rw [R_int] at r2
   exact ⟨i,r2,k m1 H1 e1 r1⟩
theorem nR:∀(e:E) {X:Cx} {c:Cfg} (C:COk X c Γ) (x:Expr),xu c e x=true→PT X x (TTx X.K (wpT Γ e))
 | .not a,X,c,C,x,h=>by
  replace h:=ol h
  obtain ⟨y,p,rfl,h⟩:=h
  ·rintro pins s σ H Q I ⟨m,ρ,st,rf,rh,w⟩
   skip
   exact F8 (nR a C _ h) pins s σ H Q I ⟨m,ρ,st,rf,rh,aQ C.mono a (fun k st1 z m1 H1 e1 r1=>z m1 H1 e1 r1) w⟩
 | .bop true es,X,c,C,x,h=>by
  replace h:=ii h
  obtain ⟨o,xs,p,rfl,h⟩:=h
  ·simp only [Bool.and_eq_true,beq_iff_eq,Bool.not_eq_true'] at h
   obtain ⟨⟨h1,h2⟩,h3⟩:=h
   subst h1
   rintro pins s σ H Q I ⟨m,ρ,st,rf,rh,w⟩
   skip
   exact (DN es C _ _ h3 h2).pt pins s σ H Q I ⟨m,ρ,st,rf,rh,w⟩
 | .bop false es,X,c,C,x,h=>by
  replace h:=ii h
  obtain ⟨o,xs,p,rfl,h⟩:=h
  ·simp only [Bool.and_eq_true,beq_iff_eq,Bool.not_eq_true'] at h
   obtain ⟨⟨h1,h2⟩,h3⟩:=h
   subst h1
   rintro pins s σ H Q I ⟨m,ρ,st,rf,rh,w⟩
   skip
   exact (DX es C _ _ h3 h2).pt pins s σ H Q I ⟨m,ρ,st,rf,rh,w⟩
 | .cmp op a b,X,c,C,x,h=>by
  replace h:=oo h
  obtain ⟨l,o,r,p,rfl,h⟩:=h
  ·simp only [Bool.and_eq_true,beq_iff_eq,Bool.not_eq_true',beq_eq_false_iff_ne] at h
   obtain ⟨⟨⟨h1,n1⟩,h2⟩,h3⟩:=h
   subst h1
   rintro pins s σ H Q I ⟨m,ρ,st,rf,rh,w⟩
   skip
   refine Cg (Ap C.room.units _) (a_ a C _ h2) (a_ b C _ h3) n1 pins s σ H Q I ⟨m,ρ,st,rf,rh,ac C.mono a (fun v st1 k m1 H1 x1 e1 r1 r2=>⟨m1,ρ,st1,rf.mono e1,r1,
    ac C.mono b (fun u st2 k2 m2 H2 y2 e2 r3 r4=>⟨m2,st2,v,u,r3,r2.mono e2,r4,iA (fun _ _ q=>?_) k2⟩) k⟩) w⟩
   obtain ⟨k,rfl,q⟩:=q
   intro m' H' y e3 r5 r6
   rw [R_bl] at r6
   exact ⟨k,r6,q m' H' ((e1.trans e2).trans e3) r5⟩
 | .var i,X,c,C,x,h=>by
  replace h:=am h
  obtain ⟨y,p,rfl,h⟩:=h
  ·rintro pins s σ H Q I ⟨m,ρ,st,rf,rh,w⟩
   skip
   refine eQ (BZ C h) (fun _=>rfl) pins s σ H Q I ⟨m,ρ,st,rf,rh,?_⟩
   skip
   obtain ⟨v,e,w⟩:=w
   exact ⟨v,e,fun m' H' y e1 r1 r2=>oS ⟨m',st,v,r1,r2,bx (fun _ _ q=>q.ext e1) w⟩⟩
 | .call f es,X,c,C,x,h=>by
  replace h:=aP h
  obtain ⟨g,xs,p,rfl,h⟩:=h
  replace h:=am h
  obtain ⟨y,p2,rfl,h⟩:=h
  ·simp only [Bool.and_eq_true] at h
   obtain ⟨⟨h1,h2⟩,h3⟩:=h
   rintro pins s σ H Q I ⟨m,ρ,st,rf,rh,w⟩
   skip
   exact eQ (sK C h1 h2 h3 (kO es C _ h3)) (fun _=>rfl) pins s σ H Q I ⟨m,ρ,st,rf,rh,aM C.mono es (fun vs st1 k=>C.mono _ _ _ _ _ (fun v st2 k2 m' H' y e1 r1 r2=>oS ⟨m',st2,v,r1,r2,bx (fun _ _ q=>q.ext e1) k2⟩) k) w⟩
 | .blt b es,X,c,C,x,h=>by
  replace h:=aP h
  obtain ⟨g,xs,p,rfl,h⟩:=h
  replace h:=am h
  obtain ⟨y,p2,rfl,h⟩:=h
  ·simp only [Bool.and_eq_true,beq_iff_eq,Bool.not_eq_true'] at h
   obtain ⟨⟨⟨⟨h1,h2⟩,h3⟩,h4⟩,h5⟩:=h
   rintro pins s σ H Q I ⟨m,ρ,st,rf,rh,w⟩
   skip
   exact eQ (rF C h1 h2 h3 h4 (kO es C _ h5)) (fun _=>rfl) pins s σ H Q I ⟨m,ρ,st,rf,rh,aM C.mono es (fun vs st1 k=>iE (fun v st2 k2 m' H' y e1 r1 r2=>oS ⟨m',st2,v,r1,r2,bx (fun _ _ q=>q.ext e1) k2⟩) k) w⟩
 | .inst a t,X,c,C,x,h=>by
  replace h:=aP h
  obtain ⟨g,xs,p,rfl,h⟩:=h
  replace h:=am h
  obtain ⟨y,p2,rfl,h⟩:=h
  replace h:=gf h
  obtain ⟨l,r,rfl,h⟩:=h
  replace h:=am h
  obtain ⟨z,p3,rfl,h⟩:=h
  ·rw [Bool.and_eq_true] at h
   rintro pins s σ H Q I ⟨m,ρ,st,rf,rh,w⟩
   skip
   refine eQ (wt C h.1 (a_ a C _ h.2)) (fun _=>rfl) pins s σ H Q I ⟨m,ρ,st,rf,rh,?_⟩
   skip
   refine ac C.mono a (fun v st1 k=>?_) w
   obtain ⟨n,e,k⟩:=k
   refine ⟨n,e,fun m' H' y e1 r1 r2=>?_⟩
   rw [R_bl] at r2
   subst r2
   exact ⟨_,rfl,k m' H' e1 r1⟩
 | .tmp a,X,c,C,x,h=>by
  have h:(vJ x && aU c a x)=true:=h
  rw [Bool.and_eq_true] at h
  rintro pins s σ H Q I ⟨m,ρ,st,rf,rh,w⟩
  skip
  have q:=a_ a C x h.2
  refine eQ q (uv h.1 X.env) pins s σ H Q I ⟨m,ρ,st,rf,rh,ac C.mono a (fun v st1 k m1 H1 x1 e1 r1 r2=>?_) w⟩
  obtain ⟨st2,q,e2,r3,r4⟩:=pG rh e1 r1 r2 k
  exact oS ⟨m,st2,v,r3,r4,bx (fun _ _ q=>q.ext e2) q⟩
 | .ix a b,X,c,C,x,h=>by
  replace h:=fQ h
  obtain ⟨l,r,p,rfl,h⟩:=h
  ·simp only [Bool.and_eq_true] at h
   obtain ⟨⟨h1,h2⟩,h3⟩:=h
   rintro pins s σ H Q I ⟨m,ρ,st,rf,rh,w⟩
   skip
   refine eQ (Ab DR (a_ a C _ h2) (a_ b C _ h3) h1) (fun _=>rfl) pins s σ H Q I ⟨m,ρ,st,rf,rh,ac C.mono a (fun v st1 k m1 H1 x1 e1 r1 r2=>⟨m1,ρ,st1,rf.mono e1,r1,
    ac C.mono b (fun u st2 k2 m2 H2 y2 e2 r3 r4=>⟨m2,st2,v,u,r3,r2.mono e2,r4,jK (fun z st3 q m3 H3 y3 e3 r5 r6=>?_) k2⟩) k⟩) w⟩
   exact oS ⟨m3,st3,z,r5,r6,bx (fun _ _ q=>q.ext ((e1.trans e2).trans e3)) q⟩
 | .bl _,X,c,C,x,h=>by rintro pins s σ H Q I ⟨m,ρ,st,rf,rh,w⟩;exact False.elim w
 | .int _,X,c,C,x,h=>by rintro pins s σ H Q I ⟨m,ρ,st,rf,rh,w⟩;exact False.elim w
 | .non,X,c,C,x,h=>by rintro pins s σ H Q I ⟨m,ρ,st,rf,rh,w⟩;exact False.elim w
 | .str _,X,c,C,x,h=>by rintro pins s σ H Q I ⟨m,ρ,st,rf,rh,w⟩;exact False.elim w
 | .gv _ _,X,c,C,x,h=>by rintro pins s σ H Q I ⟨m,ρ,st,rf,rh,w⟩;exact False.elim w
 | .tup _,X,c,C,x,h=>by rintro pins s σ H Q I ⟨m,ρ,st,rf,rh,w⟩;exact False.elim w
 | .lst _,X,c,C,x,h=>by rintro pins s σ H Q I ⟨m,ρ,st,rf,rh,w⟩;exact False.elim w
 | .dct0,X,c,C,x,h=>by rintro pins s σ H Q I ⟨m,ρ,st,rf,rh,w⟩;exact False.elim w
 | .bad,X,c,C,x,h=>by rintro pins s σ H Q I ⟨m,ρ,st,rf,rh,w⟩;exact False.elim w
 | .dct1 _ _,X,c,C,x,h=>by rintro pins s σ H Q I ⟨m,ρ,st,rf,rh,w⟩;exact False.elim w
 | .bin _ _ _,X,c,C,x,h=>by rintro pins s σ H Q I ⟨m,ρ,st,rf,rh,w⟩;exact False.elim w
 | .neg _,X,c,C,x,h=>by rintro pins s σ H Q I ⟨m,ρ,st,rf,rh,w⟩;exact False.elim w
 | .ite _ _ _,X,c,C,x,h=>by rintro pins s σ H Q I ⟨m,ρ,st,rf,rh,w⟩;exact False.elim w
 | .sl _ _ _,X,c,C,x,h=>by rintro pins s σ H Q I ⟨m,ρ,st,rf,rh,w⟩;exact False.elim w
 | .met _ _ _,X,c,C,x,h=>by rintro pins s σ H Q I ⟨m,ρ,st,rf,rh,w⟩;exact False.elim w
 | .comp _ _ _ _ _ _,X,c,C,x,h=>by rintro pins s σ H Q I ⟨m,ρ,st,rf,rh,w⟩;exact False.elim w
 | .pcall i e,X,c,C,x,h=>by
  have hh:=(Bool.and_eq_true _ _).mp h
  have hpc:=hh.1
  replace h:=hh.2
  replace h:=aP h
  obtain ⟨g,xs,p,rfl,h⟩:=h
  replace h:=am h
  obtain ⟨y,p2,rfl,h⟩:=h
  replace h:=dC h
  obtain ⟨l,rfl,h⟩:=h
  simp only [Bool.and_eq_true,beq_iff_eq] at h
  obtain ⟨⟨⟨h1,h2⟩,h3⟩,h4⟩:=h
  rintro pins s σ H Q I ⟨m,ρ,st,rf,rh,a,ea,w⟩
  exact eQ (rJ C hpc h1 h2 h3 (a_ e C _ h4)) (fun _=>rfl) pins s σ H Q I ⟨m,ρ,st,rf,rh,a,ea,ac C.mono e (fun v st1 k=>C.mono _ _ _ _ _ (fun v st2 k2 m' H' y e1 r1 r2=>oS ⟨m',st2,v,r1,r2,bx (fun _ _ q=>q.ext e1) k2⟩) k) w⟩
 | .hm _ _ _,X,c,C,x,h=>by rintro pins s σ H Q I ⟨m,ρ,st,rf,rh,w⟩;exact False.elim w
 | .jrev _,X,c,C,x,h=>by rintro pins s σ H Q I ⟨m,ρ,st,rf,rh,w⟩;exact False.elim w
 | .part _ _,X,c,C,x,h=>by rintro pins s σ H Q I ⟨m,ρ,st,rf,rh,w⟩;exact False.elim w
theorem DU:∀(es:Es) {X:Cx} {c:Cfg} (C:COk X c Γ) (xs:List Expr) (pos:Pos),fe c es xs=true→xs.isEmpty=false→PE X (.BoolOp .And xs pos) (TEx X.K (qx Γ es))
 | .nil,X,c,C,xs,pos,h,hn=>by
  have h:xs.isEmpty=true:=h
  rw [h] at hn
  cases hn
 | .cons e .nil,X,c,C,xs,pos,h,hn=>by
  replace h:=aR h
  obtain ⟨y,ys,rfl,h⟩:=h
  ·simp only [Bool.and_eq_true] at h
   obtain ⟨⟨h1,h2⟩,h3⟩:=h
   have h3:ys.isEmpty=true:=h3
   cases ys with
   | nil =>
    rintro pins s σ H Q I ⟨m,ρ,st,rf,rh,w⟩
    skip
    exact AZ (a_ e C _ h2) pins s σ H Q I ⟨m,ρ,st,rf,rh,w⟩
   | cons _ _=>cases h3
 | .cons e (.cons e2 es),X,c,C,xs,pos,h,hn=>by
  replace h:=aR h
  obtain ⟨y,ys,rfl,h⟩:=h
  ·simp only [Bool.and_eq_true] at h
   obtain ⟨⟨h1,h2⟩,h3⟩:=h
   cases ys with
   | nil=>exact Bool.noConfusion (show false=true from h3)
   | cons y2 ys =>
    rintro pins s σ H Q I ⟨m,ρ,st,rf,rh,w⟩
    skip
    refine Et (a_ e C _ h2) (DU (.cons e2 es) C (y2::ys) pos h3 rfl) pins s σ H Q I ⟨m,ρ,st,rf,rh,ac C.mono e (fun v st1 k m1 H1 x1 e1 r1 r2=>?_) w⟩
    obtain ⟨b,rfl,k⟩:=k
    rw [R_bl] at r2
    subst r2
    refine ⟨b,rfl,?_⟩
    cases b with
    | true=>rw [if_pos rfl] at k ⊢;exact ⟨m1,ρ,st1,rf.mono e1,r1,j0 C.mono _ (fun _ _ q=>q.ext e1) k⟩
    | false=>rw [if_neg Bool.false_ne_true] at k ⊢;exact (k.ext e1).here r1 (R_bl.mpr rfl)
theorem DZ:∀(es:Es) {X:Cx} {c:Cfg} (C:COk X c Γ) (xs:List Expr) (pos:Pos),fe c es xs=true→xs.isEmpty=false→PE X (.BoolOp .Or xs pos) (TEx X.K (pX Γ es))
 | .nil,X,c,C,xs,pos,h,hn=>by
  have h:xs.isEmpty=true:=h
  rw [h] at hn
  cases hn
 | .cons e .nil,X,c,C,xs,pos,h,hn=>by
  replace h:=aR h
  obtain ⟨y,ys,rfl,h⟩:=h
  ·simp only [Bool.and_eq_true] at h
   obtain ⟨⟨h1,h2⟩,h3⟩:=h
   have h3:ys.isEmpty=true:=h3
   cases ys with
   | nil =>
    rintro pins s σ H Q I ⟨m,ρ,st,rf,rh,w⟩
    skip
    exact AZ (a_ e C _ h2) pins s σ H Q I ⟨m,ρ,st,rf,rh,w⟩
   | cons _ _=>cases h3
 | .cons e (.cons e2 es),X,c,C,xs,pos,h,hn=>by
  replace h:=aR h
  obtain ⟨y,ys,rfl,h⟩:=h
  ·simp only [Bool.and_eq_true] at h
   obtain ⟨⟨h1,h2⟩,h3⟩:=h
   cases ys with
   | nil=>exact Bool.noConfusion (show false=true from h3)
   | cons y2 ys =>
    rintro pins s σ H Q I ⟨m,ρ,st,rf,rh,w⟩
    skip
    refine HE (a_ e C _ h2) (DZ (.cons e2 es) C (y2::ys) pos h3 rfl) pins s σ H Q I ⟨m,ρ,st,rf,rh,ac C.mono e (fun v st1 k m1 H1 x1 e1 r1 r2=>?_) w⟩
    obtain ⟨b,rfl,k⟩:=k
    rw [R_bl] at r2
    subst r2
    refine ⟨b,rfl,?_⟩
    cases b with
    | true=>rw [if_pos rfl] at k ⊢;exact (k.ext e1).here r1 (R_bl.mpr rfl)
    | false=>rw [if_neg Bool.false_ne_true] at k ⊢;exact ⟨m1,ρ,st1,rf.mono e1,r1,jS C.mono _ (fun _ _ q=>q.ext e1) k⟩
theorem DN:∀(es:Es) {X:Cx} {c:Cfg} (C:COk X c Γ) (xs:List Expr) (pos:Pos),oj c es xs=true→xs.isEmpty=false→PW X (.BoolOp .And xs pos) (TTx X.K (hZ Γ es))
 | .nil,X,c,C,xs,pos,h,hn=>by
  have h:xs.isEmpty=true:=h
  rw [h] at hn
  cases hn
 | .cons e .nil,X,c,C,xs,pos,h,hn=>by
  replace h:=aR h
  obtain ⟨y,ys,rfl,h⟩:=h
  ·simp only [Bool.and_eq_true] at h
   obtain ⟨h2,h3⟩:=h
   have h3:ys.isEmpty=true:=h3
   cases ys with
   | nil =>
    rintro whole pins s σ H Q I ⟨m,ρ,st,rf,rh,w⟩
    skip
    exact Ca (nR e C _ h2) whole pins s σ H Q I ⟨m,ρ,st,rf,rh,w⟩
   | cons _ _=>cases h3
 | .cons e (.cons e2 es),X,c,C,xs,pos,h,hn=>by
  replace h:=aR h
  obtain ⟨y,ys,rfl,h⟩:=h
  ·simp only [Bool.and_eq_true] at h
   obtain ⟨h2,h3⟩:=h
   cases ys with
   | nil=>exact Bool.noConfusion (show false=true from h3)
   | cons y2 ys =>
    rintro whole pins s σ H Q I ⟨m,ρ,st,rf,rh,w⟩
    skip
    refine FV (nR e C _ h2) (DN (.cons e2 es) C (y2::ys) pos h3 rfl) whole pins s σ H Q I ⟨m,ρ,st,rf,rh,aQ C.mono e (fun b st1 k m1 H1 e1 r1=>?_) w⟩
    cases b with
    | true=>rw [if_pos rfl] at k ⊢;exact ⟨m1,ρ,st1,rf.mono e1,r1,cF C.mono _ (fun _ _ q=>q.ext e1) k⟩
    | false=>rw [if_neg Bool.false_ne_true] at k ⊢;exact k m1 H1 e1 r1
theorem DX:∀(es:Es) {X:Cx} {c:Cfg} (C:COk X c Γ) (xs:List Expr) (pos:Pos),oj c es xs=true→xs.isEmpty=false→PW X (.BoolOp .Or xs pos) (TTx X.K (o6 Γ es))
 | .nil,X,c,C,xs,pos,h,hn=>by
  have h:xs.isEmpty=true:=h
  rw [h] at hn
  cases hn
 | .cons e .nil,X,c,C,xs,pos,h,hn=>by
  replace h:=aR h
  obtain ⟨y,ys,rfl,h⟩:=h
  ·simp only [Bool.and_eq_true] at h
   obtain ⟨h2,h3⟩:=h
   have h3:ys.isEmpty=true:=h3
   cases ys with
   | nil =>
    rintro whole pins s σ H Q I ⟨m,ρ,st,rf,rh,w⟩
    skip
    exact F7 (nR e C _ h2) whole pins s σ H Q I ⟨m,ρ,st,rf,rh,w⟩
   | cons _ _=>cases h3
 | .cons e (.cons e2 es),X,c,C,xs,pos,h,hn=>by
  replace h:=aR h
  obtain ⟨y,ys,rfl,h⟩:=h
  ·simp only [Bool.and_eq_true] at h
   obtain ⟨h2,h3⟩:=h
   cases ys with
   | nil=>exact Bool.noConfusion (show false=true from h3)
   | cons y2 ys =>
    rintro whole pins s σ H Q I ⟨m,ρ,st,rf,rh,w⟩
    skip
    refine Ho (nR e C _ h2) (DX (.cons e2 es) C (y2::ys) pos h3 rfl) whole pins s σ H Q I ⟨m,ρ,st,rf,rh,aQ C.mono e (fun b st1 k m1 H1 e1 r1=>?_) w⟩
    cases b with
    | true=>rw [if_pos rfl] at k ⊢;exact k m1 H1 e1 r1
    | false=>rw [if_neg Bool.false_ne_true] at k ⊢;exact ⟨m1,ρ,st1,rf.mono e1,r1,kf C.mono _ (fun _ _ q=>q.ext e1) k⟩
theorem oG:∀(t:Tg) {X:Cx} {c:Cfg} (C:COk X c Γ) (x:Expr),oX c t x=true→PG X x (TGx X.K (dw Γ t))
 | .name i,X,c,C,x,h=>by
  replace h:=am h
  obtain ⟨y,p,rfl,h⟩:=h
  ·simp only [Bool.and_eq_true,beq_iff_eq] at h
   obtain ⟨h1,h2⟩:=C.locx h.2
   rintro pins s σ H v u Q I r ⟨m,ρ,st,p,rf,rh,hr,w⟩
   skip
   exact Cb C.ndX (by rw [C.N];exact h.1) h1 h2 pins s σ H v u Q I r (w.here rh (rf.set i hr))
 | .tup ts,X,c,C,x,h=>by
  replace h:=bF h
  obtain ⟨xs,k,p,rfl,h⟩:=h
  ·rintro pins s σ H v u Q I r ⟨m,ρ,st,p,rf,rh,hr,w⟩
   skip
   obtain ⟨vs,rfl,hl,w⟩:=w
   rw [R_tup] at hr
   obtain ⟨a,ys,rfl,g,r2⟩:=hr
   obtain ⟨l1,l2⟩:=jc (env:=X.env) h
   refine FA C.calm (vD ts C _ h) l1 l2 pins s σ H _ u Q I r ⟨a,ys,rfl,g,?_,m,ρ,st,vs,rf,rh,r2,w⟩
   rw [←r2.len]
   exact hl
 | .ltup ts,X,c,C,x,h=>by
  replace h:=bF h
  obtain ⟨xs,k,p,rfl,h⟩:=h
  ·rintro pins s σ H v u Q I r ⟨m,ρ,st,p,rf,rh,hr,w⟩
   skip
   obtain ⟨vs,hvs,hl,w⟩:=w
   obtain ⟨a,ys,rfl,g,r2⟩:=fH rh hr hvs
   obtain ⟨l1,l2⟩:=jc (env:=X.env) h
   refine CK C.calm (vD ts C _ h) l1 l2 pins s σ H _ u Q I r ⟨a,ys,rfl,g,?_,m,ρ,st,vs,rf,rh,r2,w⟩
   rw [←r2.len]
   exact hl
 | .sub o i,X,c,C,x,h=>by
  replace h:=fQ h
  obtain ⟨l,rr,pos,rfl,h⟩:=h
  ·simp only [Bool.and_eq_true] at h
   obtain ⟨⟨h1,h2⟩,h3⟩:=h
   rintro pins s σ H v u Q I r ⟨m,ρ,st,p,rf,rh,hr,w⟩
   skip
   refine F2 (a_ o C _ h2) (a_ i C _ h3) Ex (by cases rr <;> first|(intro _;rfl)|cases h1) pins s σ H v u Q I r ⟨m,ρ,st,rf,rh,ac C.mono o (fun a st1 k m1 H1 x1 e1 r1 r2=>⟨m1,ρ,st1,rf.mono e1,r1,
    ac C.mono i (fun b st2 k2 m2 H2 y2 e2 r3 r4=>⟨m2,st2,a,b,p,r3,r2.mono e2,r4,(hr.mono e1).mono e2,oQ (fun st3 q H3 e3 r5=>?_) k2⟩) k⟩) w⟩
   exact q m2 H3 σ ((e1.trans e2).trans e3) r5 (((rf.mono e1).mono e2).mono e3)
theorem vD:∀(ts:Tgs) {X:Cx} {c:Cfg} (C:COk X c Γ) (xs:List Expr),mf c ts xs=true→PGs X xs (Io X.K (fG Γ ts))
 | .nil,X,c,C,xs,h=>by
  have h:xs.isEmpty=true:=h
  cases xs with
  | nil =>
   rintro pins s σ H v u Q I r ⟨m,ρ,st,p,rf,rh,hr,w⟩
   skip
   obtain ⟨rfl,w⟩:=w
   rw [Rs_nil] at hr
   exact C0 pins s σ H v u Q I r ⟨hr,w.here rh rf⟩
  | cons _ _=>cases h
 | .cons t ts,X,c,C,xs,h=>by
  replace h:=aR h
  obtain ⟨y,ys,rfl,h⟩:=h
  ·simp only [Bool.and_eq_true] at h
   obtain ⟨⟨h1,h2⟩,h3⟩:=h
   rintro pins s σ H v u Q I r ⟨m,ρ,st,p,rf,rh,hr,w⟩
   skip
   obtain ⟨x,q,rfl,w⟩:=w
   rw [bv] at hr
   obtain ⟨y,ys,rfl,g1,g2⟩:=hr
   refine Bl (oG t C _ h2) (vD ts C _ h3) (by rw [iN h1];rfl) pins s σ H _ u Q I r ⟨y,ys,rfl,m,ρ,st,x,rf,rh,g1,br C.mono t (fun ρ1 st1 k m1 H1 σ1 e1 r1 r2=>?_) w⟩
   exact ⟨m1,ρ1,st1,q,r2,r1,g2.mono e1,eG C.mono ts (fun _ _ q=>q.ext e1) k⟩
theorem y9:∀(it:It) {X:Cx} {c:Cfg} (C:COk X c Γ) {tg:Expr} (x:Expr),A6 it tg=true→Aw c it x=true→PI X tg x (TIx X.K (iW Γ it))
 | .seq e,X,c,C,tg,x,_,h=>by
  have h:(mQ x && aU c e x)=true:=h
  rw [Bool.and_eq_true] at h
  rintro pins s σ H Rr I ⟨m,ρ,st,rf,rh,w⟩
  skip
  refine Gp (a_ e C x h.2) pins s σ H Rr I ⟨m,ρ,st,rf,rh,ac C.mono e (fun v st1 k m1 H1 x1 e1 r1 r2=>?_) w⟩
  obtain ⟨xs,es,k⟩:=k
  cases v with
  | tup ys =>
   cases es
   rw [R_tup] at r2
   obtain ⟨a,zs,rfl,g,r3⟩:=r2
   exact ⟨a,rfl,.inr ⟨⟨zs,g⟩,k m1 H1 _ e1 r1 (AW g r3)⟩⟩
  | rdl ys =>
   cases es
   rw [fh] at r2
   obtain ⟨a,zs,rfl,g,r3⟩:=r2
   exact ⟨a,rfl,.inl ⟨⟨zs,g.sq⟩,k m1 H1 _ e1 r1 (AG g r3)⟩⟩
  | ref n =>
   unfold bJ b8 at es
   simp only at es
   split at es
   ·cases es
    rename_i q
    obtain ⟨a,zs,rfl,ea,g,r3⟩:=r1.lst q r2
    exact ⟨a,rfl,.inl ⟨⟨zs,SqL.of g⟩,k m1 H1 _ e1 r1 (xE r1 q ea)⟩⟩
   ·cases es
  | _=>cases es
 | .range1 a,X,c,C,tg,x,_,h=>by
  replace h:=aP h
  obtain ⟨g,xs,p,rfl,h⟩:=h
  replace h:=am h
  obtain ⟨y,p2,rfl,h⟩:=h
  replace h:=dC h
  obtain ⟨l,rfl,h⟩:=h
  ·simp only [Bool.and_eq_true,beq_iff_eq] at h
   obtain ⟨⟨⟨h1,h2⟩,h3⟩,h4⟩:=h
   subst h1
   obtain ⟨g1,g2,g3,g4⟩:=C.bltx h2
   rintro pins s σ H Rr I ⟨m,ρ,st,rf,rh,w⟩
   skip
   have hA:PA X [_] (gG (TEx X.K (wpE Γ a)) q_):=pac (a_ a C _ h4) jf h3
   refine xV g1 g4 hA (aS h3) pins s σ H Rr I ⟨m,ρ,st,rf,rh,ac C.mono a (fun v st1 k m1 H1 x1 e1 r1 r2=>?_) w⟩
   obtain ⟨j,rfl,k1,k2,k⟩:=k
   rw [R_int] at r2
   subst r2
   exact ⟨j,rfl,k1,k2,k m1 H1 _ e1 r1 nw⟩
 | .range2 a b,X,c,C,tg,x,_,h=>by
  replace h:=aP h
  obtain ⟨g,xs,p,rfl,h⟩:=h
  replace h:=am h
  obtain ⟨y,p2,rfl,h⟩:=h
  replace h:=gf h
  obtain ⟨l,r,rfl,h⟩:=h
  ·simp only [Bool.and_eq_true,beq_iff_eq] at h
   obtain ⟨⟨⟨⟨⟨h1,h2⟩,h3⟩,h3'⟩,h4⟩,h5⟩:=h
   subst h1
   obtain ⟨g1,g2,g3,g4⟩:=C.bltx h2
   rintro pins s σ H Rr I ⟨m,ρ,st,rf,rh,w⟩
   skip
   have hA:PA X [_,_] (gG (TEx X.K (wpE Γ a)) (gG (TEx X.K (wpE Γ b)) q_)):=pac (a_ a C _ h4) (pac (a_ b C _ h5) jf h3') h3
   refine xD g1 g4 hA (by rw [aS h3,aS h3'];rfl) (aS h3') pins s σ H Rr I ⟨m,ρ,st,rf,rh,ac C.mono a (fun v st1 k m1 H1 x1 e1 r1 r2=>⟨m1,ρ,st1,rf.mono e1,r1,
    ac C.mono b (fun u st2 k2 m2 H2 y2 e2 r3 r4=>?_) k⟩) w⟩
   obtain ⟨i,j,rfl,rfl,k1,k⟩:=k2
   rw [R_int] at r2 r4
   subst r2 r4
   exact ⟨i,j,rfl,k1,k m2 H2 _ (e1.trans e2) r3 nw⟩
 | .zip _ _,X,c,C,tg,x,ht,h=>by rintro pins s σ H Rr I ⟨m,ρ,st,rf,rh,w⟩;exact False.elim w
 | .zip3 a b d,X,c,C,tg,x,ht,h=>by
  replace h:=aP h
  obtain ⟨g,xs,p,rfl,h⟩:=h
  replace h:=am h
  obtain ⟨y,p2,rfl,h⟩:=h
  replace h:=DC h
  obtain ⟨l,r,u,rfl,h⟩:=h
  ·simp only [Bool.and_eq_true,beq_iff_eq] at h
   obtain ⟨⟨⟨⟨⟨⟨⟨h1,h2⟩,h3⟩,h3'⟩,h3''⟩,h4⟩,h5⟩,h6⟩:=h
   subst h1
   obtain ⟨g1,g2,g3,g4⟩:=C.bltx h2
   cases tg with
   | Tuple elts kt pt =>
    rintro pins s σ H Rr I ⟨m,ρ,st,rf,rh,w⟩
    have hA:PA X [_,_,_] (gG (TEx X.K (wpE Γ a)) (gG (TEx X.K (wpE Γ b)) (gG (TEx X.K (wpE Γ d)) q_))):=pac (a_ a C _ h4) (pac (a_ b C _ h5) (pac (a_ d C _ h6) jf h3'') h3') h3
    refine CP g1 g4 hA (by rw [aS h3,aS h3',aS h3''];rfl) (by rw [aS h3',aS h3''];rfl) pins s σ H Rr I ⟨m,ρ,st,rf,rh,ac C.mono a (fun v st1 k m1 H1 x1 e1 r1 r2=>⟨m1,ρ,st1,rf.mono e1,r1,
     ac C.mono b (fun u st2 k2 m2 H2 y2 e2 r3 r4=>⟨m2,ρ,st2,(rf.mono e1).mono e2,r3,ac C.mono d (fun w st3 k3 m3 H3 y3 e3 r5 r6=>?_) k2⟩) k⟩) w⟩
    obtain ⟨xs,ys,zs,q1,q2,q3,k⟩:=k3
    obtain ⟨a1,rfl,w1,s1⟩:=zC r5 ((r2.mono e2).mono e3) q1
    obtain ⟨a2,rfl,w2,s2⟩:=zC r5 (r4.mono e3) q2
    obtain ⟨a3,rfl,w3,s3⟩:=zC r5 r6 q3
    refine ⟨a1,a2,a3,rfl,fun e he=>?_,k m3 H3 _ ((e1.trans e2).trans e3) r5 (xo w1 w2 w3)⟩
    simp only [List.mem_cons,List.not_mem_nil,or_false] at he
    rcases he with rfl|rfl|rfl
    ·exact s1
    ·exact s2
    ·exact s3
   | _=>cases ht
 | .enum a,X,c,C,tg,x,ht,h=>by
  replace h:=aP h
  obtain ⟨g,xs,p,rfl,h⟩:=h
  replace h:=am h
  obtain ⟨y,p2,rfl,h⟩:=h
  replace h:=dC h
  obtain ⟨l,rfl,h⟩:=h
  ·simp only [Bool.and_eq_true,beq_iff_eq] at h
   obtain ⟨⟨⟨h1,h2⟩,h3⟩,h4⟩:=h
   subst h1
   obtain ⟨g1,g2,g3,g4⟩:=C.bltx h2
   cases tg with
   | Tuple elts kt pt =>
    rintro pins s σ H Rr I ⟨m,ρ,st,rf,rh,w⟩
    skip
    have hA:PA X [_] (gG (TEx X.K (wpE Γ a)) q_):=pac (a_ a C _ h4) jf h3
    refine C3 g1 g4 hA (aS h3) pins s σ H Rr I ⟨m,ρ,st,rf,rh,ac C.mono a (fun v st1 k m1 H1 x1 e1 r1 r2=>?_) w⟩
    obtain ⟨xs,rfl,k⟩:=k
    rw [R_tup] at r2
    obtain ⟨a1,zs,rfl,g,r3⟩:=r2
    exact ⟨a1,rfl,⟨zs,g⟩,k m1 H1 _ e1 r1 (xQ g r3)⟩
   | _=>cases ht
 | .chars _,X,c,C,tg,x,_,h=>by rintro pins s σ H Rr I ⟨m,ρ,st,rf,rh,w⟩;exact False.elim w
 | .range3 _ _ _,X,c,C,tg,x,_,h=>by rintro pins s σ H Rr I ⟨m,ρ,st,rf,rh,w⟩;exact False.elim w
theorem ve:∀(es:Es) {X:Cx} {c:Cfg} (C:COk X c Γ) (xs:List Expr),oj c es xs=true→PTs X xs (TTx X.K (hZ Γ es))
 | .nil,X,c,C,xs,h=>by
  have h:xs.isEmpty=true:=h
  cases xs with
  | nil =>
   rintro pins s σ H Q I ⟨m,ρ,st,rf,rh,w⟩
   skip
   exact wg pins s σ H Q I (w m H (Ext.refl _ _ _) rh)
  | cons _ _=>cases h
 | .cons e .nil,X,c,C,xs,h=>by
  replace h:=aR h
  obtain ⟨y,ys,rfl,h⟩:=h
  ·simp only [Bool.and_eq_true] at h
   obtain ⟨h2,h3⟩:=h
   have h3:ys.isEmpty=true:=h3
   cases ys with
   | nil =>
    rintro pins s σ H Q I ⟨m,ρ,st,rf,rh,w⟩
    skip
    refine qP (nR e C _ h2) wg pins s σ H Q I ⟨m,ρ,st,rf,rh,aQ C.mono e (fun b st1 k m1 H1 e1 r1=>?_) w⟩
    cases b with
    | true=>rw [if_pos rfl];exact k m1 H1 e1 r1
    | false=>rw [if_neg Bool.false_ne_true];exact k m1 H1 e1 r1
   | cons _ _=>cases h3
 | .cons e (.cons e2 es),X,c,C,xs,h=>by
  replace h:=aR h
  obtain ⟨y,ys,rfl,h⟩:=h
  ·simp only [Bool.and_eq_true] at h
   obtain ⟨h2,h3⟩:=h
   rintro pins s σ H Q I ⟨m,ρ,st,rf,rh,w⟩
   skip
   refine qP (nR e C _ h2) (ve (.cons e2 es) C _ h3) pins s σ H Q I ⟨m,ρ,st,rf,rh,aQ C.mono e (fun b st1 k m1 H1 e1 r1=>?_) w⟩
   cases b with
   | true=>rw [if_pos rfl] at k ⊢;exact ⟨m1,ρ,st1,rf.mono e1,r1,cF C.mono _ (fun _ _ q=>q.ext e1) k⟩
   | false=>rw [if_neg Bool.false_ne_true] at k ⊢;exact k m1 H1 e1 r1
end
end
end FW
set_option Elab.async false
set_option linter.all false
set_option maxRecDepth 100000
set_option maxHeartbeats 1000000
namespace FW
open PySem PySem.Spec PyProof.Rows L2 HX
section
variable {X:Cx} {c:Cfg} {Γ:Nat→FSp} {tg:Expr}
noncomputable def AE (K:PySem.W.Frag) (m:List Addr) (H:Hp) (D:L2.Ends):bn:={ nx:=postF K m H D.nx,rt:=post K m H D.rt,bk:=postF K m H D.bk,ct:=postF K m H D.ct }
noncomputable def TSx (K:PySem.W.Frag) (w:Fr→AH→bn→Prop):TS:=fun D σ H=>∃m ρ st,RF K m H ρ σ∧RH K m H st∧w ρ st (AE K m H D)
theorem AE.ext {K:PySem.W.Frag} {m m1:List Addr} {H H1:Hp} {D:L2.Ends} (x:Ext K m H m1 H1):jw (AE K m H D) (AE K m1 H1 D) :=
 ⟨fun _ _ q=>q.ext x,fun _ _ q=>q.ext x,fun _ _ q=>q.ext x,fun _ _ q=>q.ext x⟩
theorem Cp (G:bM Γ) {t:Tg} {it:It} {b:Ss} {D:L2.Ends} {σ:L2.St} {H:Hp} (h:TSx X.K (wpS Γ (.forS t it b)) D σ H):HG (TIx X.K (iW Γ it)) (TGx X.K (dw Γ t)) (TSx X.K (ay Γ b)) D σ H:=by
 obtain ⟨m,ρ,st,rf,rh,w⟩:=h
 skip
 refine ⟨m,ρ,st,rf,rh,fJ G it (fun xs chk st1 k m1 H1 J e1 r1 W=>?_) w⟩
 refine ⟨fun i n σ' H'=>n+i=xs.length∧∃m' ρ' st',Ext X.K m1 H1 m' H'∧RH X.K m' H' st'∧RF X.K m' H' ρ' σ'∧pK chk (fun x ρ' st' D'=>dw Γ t x ρ' st' fun ρ2 st2=>ay Γ b ρ2 st2 D') (AE X.K m H D) (xs.drop i) ρ' st',
  ⟨xs.length,rfl,m1,ρ,st1,Ext.refl _ _ _,r1,rf.mono e1,by simpa using k⟩,?_⟩
 rintro i n σ' H' ⟨hn,m',ρ',st',x',rh',rf',k'⟩
 cases q:xs.drop i with
 | nil =>
  rw [q] at k'
  have hi:i=xs.length:=by
   have:=congrArg List.length q
   simp at this
   omega
  subst hi
  exact .inl ⟨W.stop m' H' st' x' rh' k'.1,k'.2 m' H' σ' (e1.trans x') rh' rf'⟩
 | cons v rest =>
  rw [q] at k'
  have hi:i<xs.length:=by
   have:=congrArg List.length q
   simp at this
   omega
  have ev:xs[i]?=some v:=by
   have:=congrArg List.head? q
   rw [List.head?_drop] at this
   exact this
  have er:rest=xs.drop (i+1):=by
   have:=congrArg List.tail q
   rw [List.tail_drop] at this
   exact this.symm
  subst er
  obtain ⟨kc,k'⟩:=k'
  obtain ⟨go,yl⟩:=W.item i v m' H' st' x' rh' kc ev
  refine .inr ⟨go,fun σ'' H''=>(n-1+(i+1)=xs.length∧∃m' ρ' st',Ext X.K m1 H1 m' H''∧RH X.K m' H'' st'∧RF X.K m' H'' ρ' σ''∧pK chk (fun x ρ' st' D'=>dw Γ t x ρ' st' fun ρ2 st2=>ay Γ b ρ2 st2 D') (AE X.K m H D) (xs.drop (i+1)) ρ' st'),fun σ'' H'' z=>⟨n-1,by omega,z⟩,fun y H2 hy=>?_⟩
  obtain ⟨x2,r2,rv⟩:=yl y H2 hy
  refine ⟨m',ρ',st',v,rf'.mono x2,r2,rv,br G t (fun ρ3 st3 k3 m3 H3 σ3 x3 r3 f3=>?_) k'⟩
  refine ⟨m3,ρ3,st3,f3,r3,aT G b ?_ k3⟩
  have xx:Ext X.K m H m3 H3:=((e1.trans x').trans x2).trans x3
  refine ⟨fun ρ4 st4 k4 m4 H4 σ4 x4 r4 f4=>⟨by omega,m4,ρ4,st4,((x'.trans x2).trans x3).trans x4,r4,f4,k4⟩,fun v4 st4 k4=>k4.ext xx,fun ρ4 st4 k4=>k4.ext xx,fun ρ4 st4 k4 m4 H4 σ4 x4 r4 f4=>⟨by omega,m4,ρ4,st4,((x'.trans x2).trans x3).trans x4,r4,f4,k4⟩⟩
theorem xB (G:bM Γ) {cd:E} {b:Ss} {D:L2.Ends} {σ:L2.St} {H:Hp} (h:TSx X.K (wpS Γ (.whileS cd b)) D σ H):By (TTx X.K (wpT Γ cd)) (TSx X.K (ay Γ b)) D σ H:=by
 obtain ⟨m,ρ,st,rf,rh,w⟩:=h
 skip
 obtain ⟨n0,w⟩:=w
 refine ⟨fun n σ' H'=>∃m' ρ' st',Ext X.K m H m' H'∧RH X.K m' H' st'∧RF X.K m' H' ρ' σ'∧eI (wpT Γ cd) (ay Γ b) (AE X.K m H D) n ρ' st',⟨n0,m,ρ,st,Ext.refl _ _ _,rh,rf,w⟩,?_⟩
 rintro n σ' H' ⟨m',ρ',st',x',rh',rf',k'⟩
 cases n with
 | zero=>exact k'.elim
 | succ n =>
  refine ⟨m',ρ',st',rf',rh',aQ G cd (fun b st1 k m1 H1 x1 r1=>?_) k'⟩
  cases b with
  | false=>rw [if_neg Bool.false_ne_true] at k ⊢;exact k m1 H1 σ' (x'.trans x1) r1 (rf'.mono x1)
  | true =>
   rw [if_pos rfl] at k ⊢
   refine ⟨fun σ'' H''=>∃m' ρ' st',Ext X.K m H m' H''∧RH X.K m' H'' st'∧RF X.K m' H'' ρ' σ''∧eI (wpT Γ cd) (ay Γ b) (AE X.K m H D) n ρ' st',fun σ'' H'' z=>⟨n,Nat.lt_succ_self _,z⟩,m1,ρ',st1,rf'.mono x1,r1,aT G _ ?_ k⟩
   have xx:=x'.trans x1
   exact ⟨fun ρ4 st4 k4 m4 H4 σ4 x4 r4 f4=>⟨m4,ρ4,st4,xx.trans x4,r4,f4,k4⟩,fun v4 st4 k4=>k4.ext xx,fun ρ4 st4 k4=>k4.ext xx,fun ρ4 st4 k4 m4 H4 σ4 x4 r4 f4=>⟨m4,ρ4,st4,xx.trans x4,r4,f4,k4⟩⟩
end
end FW
set_option Elab.async false
set_option linter.all false
set_option maxRecDepth 100000
set_option maxHeartbeats 1000000
namespace FW
open PySem PySem.Spec PyProof.Rows L2 HX
noncomputable def ml:Expr→Bool
 | .Name ..=>true
 | _=>false
noncomputable def BI:Expr→Expr→Bool
 | .Tuple ts _ _,.Tuple _ _ _=>ts.any fun t=>!ml t
 | .Tuple ..,_=>true
 | .Subscript ..,_=>true
 | _,_=>false
noncomputable def yn (y:Str) (sc:Scope):Bool:=sc.names.any fun x=>match x with|(n,k)=>n == y && (k == .local || k == .cell)
noncomputable def tV (x:Stmt) (f:List Expr→Expr→Bool):Bool:=match x with | .Assign ts v _=>f ts v|_=>false
theorem l_ {x:Stmt} {f:List Expr→Expr→Bool} (h:tV x f=true):∃ts v p,x=.Assign ts v p∧f ts v=true:=by
 cases x with|Assign ts v p=>exact ⟨ts,v,p,rfl,h⟩|_=>exact Bool.noConfusion h
noncomputable def y6 (x:Stmt) (f:Expr→Expr→Bool):Bool:=tV x fun ts v=>on1 ts fun t=>f t v
theorem oV {x:Stmt} {f:Expr→Expr→Bool} (h:y6 x f=true):∃t v p,x=.Assign [t] v p∧f t v=true:=by
 replace h:=l_ h
 obtain ⟨ts,v,p,rfl,h⟩:=h
 replace h:=dC h
 obtain ⟨t,rfl,h⟩:=h
 exact ⟨t,v,p,rfl,h⟩
noncomputable def DJ (x:Stmt) (f:Expr→Operator→Expr→Bool):Bool:=match x with | .AugAssign t o v _=>f t o v|_=>false
theorem wV {x:Stmt} {f:Expr→Operator→Expr→Bool} (h:DJ x f=true):∃t o v p,x=.AugAssign t o v p∧f t o v=true:=by
 cases x with|AugAssign t o v p=>exact ⟨t,o,v,p,rfl,h⟩|_=>exact Bool.noConfusion h
noncomputable def HH (x:Stmt) (f:Expr→Bool):Bool:=match x with | .Expr v _=>f v|_=>false
theorem Bx {x:Stmt} {f:Expr→Bool} (h:HH x f=true):∃v p,x=.Expr v p∧f v=true:=by
 cases x with|Expr v p=>exact ⟨v,p,rfl,h⟩|_=>exact Bool.noConfusion h
noncomputable def Bb (x:Stmt) (f:Option Expr→Bool):Bool:=match x with | .Return v _=>f v|_=>false
theorem ot {x:Stmt} {f:Option Expr→Bool} (h:Bb x f=true):∃v p,x=.Return v p∧f v=true:=by
 cases x with|Return v p=>exact ⟨v,p,rfl,h⟩|_=>exact Bool.noConfusion h
noncomputable def HR (x:Stmt) (f:Expr→List Stmt→List Stmt→Bool):Bool:=match x with | .If v a b _=>f v a b|_=>false
theorem yN {x:Stmt} {f:Expr→List Stmt→List Stmt→Bool} (h:HR x f=true):∃v a b p,x=.If v a b p∧f v a b=true:=by
 cases x with|If v a b p=>exact ⟨v,a,b,p,rfl,h⟩|_=>exact Bool.noConfusion h
noncomputable def wj (x:Stmt) (f:Expr→List Stmt→Bool):Bool:=match x with | .While v a [] _=>f v a|_=>false
theorem sD {x:Stmt} {f:Expr→List Stmt→Bool} (h:wj x f=true):∃v a p,x=.While v a [] p∧f v a=true:=by
 cases x with
 | While v a b p=>cases b with|nil=>exact ⟨v,a,p,rfl,h⟩|cons _ _=>exact Bool.noConfusion h
 | _=>exact Bool.noConfusion h
noncomputable def DP (x:Stmt) (f:Expr→Expr→List Stmt→Bool):Bool:=match x with | .For t v a [] _=>f t v a|_=>false
theorem w5 {x:Stmt} {f:Expr→Expr→List Stmt→Bool} (h:DP x f=true):∃t v a p,x=.For t v a [] p∧f t v a=true:=by
 cases x with
 | For t v a b p=>cases b with|nil=>exact ⟨t,v,a,p,rfl,h⟩|cons _ _=>exact Bool.noConfusion h
 | _=>exact Bool.noConfusion h
noncomputable def Br (x:Stmt):Bool:=match x with | .Pass _=>true|_=>false
theorem tD {x:Stmt} (h:Br x=true):∃p,x=.Pass p:=by
 cases x with|Pass p=>exact ⟨p,rfl⟩|_=>exact Bool.noConfusion h
noncomputable def DF (x:Stmt):Bool:=match x with | .Break _=>true|_=>false
theorem wG {x:Stmt} (h:DF x=true):∃p,x=.Break p:=by
 cases x with|Break p=>exact ⟨p,rfl⟩|_=>exact Bool.noConfusion h
noncomputable def Bz (x:Stmt):Bool:=match x with | .Continue _=>true|_=>false
theorem uW {x:Stmt} (h:Bz x=true):∃p,x=.Continue p:=by
 cases x with|Continue p=>exact ⟨p,rfl⟩|_=>exact Bool.noConfusion h
noncomputable def Hr:Tg→Bool
 | .name _=>true
 | _=>false
noncomputable def HJ:E→Bool
 | .comp ..=>true
 | _=>false
noncomputable def EY (c:Cfg) (t:Tg) (e:E) (tg x:Expr):Bool :=
 Hr t && HJ e && aN tg fun y py=>Df x fun _ _ sc pos=>c.names.lookup y == some .cell || (c.names.lookup y == some .local && py.line == pos.line && !yn y sc)
noncomputable def Hw (c:Cfg) (t:Expr):Bool:=aN t fun y _=>c.names.lookup y == some .cell
noncomputable def Iw (c:Cfg) (tg x:Expr):Bool:=eW tg fun ts=>(Df x fun _ _ _ _=>true) || eW x fun _=>ts.any (Hw c)
mutual
noncomputable def Ht (c:Cfg):S→Stmt→Bool
 | .set t e,s=>y6 s fun tg x=>(oX c t tg && aU c e x) && ((mW x && (ml tg || BI tg x)) || (EY c t e tg x || Iw c tg x))
 | .par i j a b,s=>y6 s fun tg vx=>eW tg fun ts=>on2 ts fun ta tb=>aN ta fun x px=>aN tb fun y py=>eW vx fun us=>on2 us fun u v=>c.N[i]? == some x && c.N[j]? == some y && !(i == j) && !(x == y) && c.names.lookup x == some .local && c.names.lookup y == some .local
    && px.line == py.line && ao u && ao v && !(foldedForSure 8 u && foldedForSure 8 v) && !(constantsAlone 8 u && constantsAlone 8 v) && aU c a u && aU c b v
 | .aug i op e,s=>DJ s fun t o x=>aN t fun y _=>c.N[i]? == some y && c.loc y && o == op && aU c e x
 | .expr e,s=>HH s fun x=>mW x && aU c e x
 | .ret e,s=>Bb s fun o=>kL o fun x=>aU c e x
 | .retN,s=>Bb s fun o=>o.isNone
 | .ifS t a b,s=>HR s fun x ys zs=>xu c t x && aD c a ys && aD c b zs
 | .whileS t b,s=>wj s fun x ys=>xu c t x && aD c b ys
 | .forS t it b,s=>DP s fun tg x ys=>A6 it tg && mQ x && oX c t tg && Aw c it x && aD c b ys
 | .pass,s=>Br s
 | .brk,s=>DF s
 | .cont,s=>Bz s
 | .bad,_=>true
 | .set2 i j e,s=>tV s fun ts v=>on2 ts fun ta tb=>aN ta fun x _=>aN tb fun y _=>c.N[i]? == some x && c.N[j]? == some y && !(i == j) && c.loc x && c.loc y && mW v && aU c e v
termination_by structural s=>s
noncomputable def aD (c:Cfg):Ss→List Stmt→Bool
 | .nil,xs=>xs.isEmpty
 | .cons s ss,xs=>lQ xs fun y ys=>Ht c s y && aD c ss ys
termination_by structural s=>s
end
theorem De {t:Tg} (h:Hr t=true):∃i,t=.name i:=by
 cases t with|name i=>exact ⟨i,rfl⟩|_=>exact Bool.noConfusion h
theorem Cw {e:E} (h:HJ e=true):∃elt tg it ifs nt caps,e=.comp elt tg it ifs nt caps:=by
 cases e with|comp elt tg it ifs nt caps=>exact ⟨elt,tg,it,ifs,nt,caps,rfl⟩|_=>exact Bool.noConfusion h
theorem gN {x:Expr} {t:Option Expr} {l:Nat} {env:Env} (h:mW x=true):swapsWith x t l env=pure false:=by
 cases x <;> first|rfl|cases h
theorem gA {x t:Expr} {l:Nat} {env:Env} (h:mW x=true):swapsWithSole [t] x l env=pure false:=by
 unfold swapsWithSole
 exact gN h
theorem kU:∀(ts:List Expr) (f:Expr→Option Str),(ts.any fun t=>!ml t)=true→(∀t,ml t=false→f t=none)→(ts.filterMap f).length<ts.length
 | [],f,h,_=>by cases h
 | t::ts,f,h,hf=>by
  rw [List.any_cons,Bool.or_eq_true] at h
  have hl:(ts.filterMap f).length≤ts.length:=List.length_filterMap_le _ _
  rcases h with h|h
  ·rw [List.filterMap_cons,hf t (by simpa using h)]
   simp only [List.length_cons]
   omega
  ·have:=kU ts f h hf
   rw [List.filterMap_cons]
   cases f t <;> simp only [List.length_cons] <;> omega
theorem jD:∀(ts:List Expr) (P:Expr→Bool) (f:Expr→Option Str),ts.any P=true→(∀t,P t=true→f t=none)→(ts.filterMap f).length<ts.length
 | [],P,f,h,_=>by cases h
 | t::ts,P,f,h,hf=>by
  rw [List.any_cons,Bool.or_eq_true] at h
  have hl:(ts.filterMap f).length≤ts.length:=List.length_filterMap_le _ _
  rcases h with h|h
  ·rw [List.filterMap_cons,hf t h]
   simp only [List.length_cons]
   omega
  ·have:=jD ts P f h hf
   rw [List.filterMap_cons]
   cases f t <;> simp only [List.length_cons] <;> omega
theorem BO {ts vs:List Expr} {k k2:Nat} {p p2:Pos} {env:Env} {P:Expr→Bool} (hs:ts.any P=true) (hP:∀t,P t=true→∃y q,t=.Name y q∧(env.kindOf y == some .local)=false):swappedStores [.Tuple ts k p] (.Tuple vs k2 p2) env=pure none:=by
 unfold swappedStores
 dsimp only
 split
 ·rfl
 ·split
  ·rfl
  ·have hlt:=jD ts P (fun x=>match x with
    | .Name id pos=>if (env.kindOf id == some .local && pos.line == (Option.map (fun x=>x.pos.line) ts.head?).getD 0)=true then some id else none
    | _=>none) hs (fun t ht=>by
     obtain ⟨y,q,rfl,hk⟩:=hP t ht
     show (if (env.kindOf y == some .local && _)=true then some y else none)=none
     rw [hk,Bool.false_and,if_neg Bool.false_ne_true])
   rw [if_pos]
   rw [Bool.or_eq_true]
   left
   rw [bne_iff_ne]
   exact Nat.ne_of_lt hlt
theorem jX {tg x:Expr} {env:Env} (h:BI tg x=true):swappedStores [tg] x env=pure none:=by
 cases tg with
 | Tuple ts k p =>
  cases x with
  | Tuple vs k2 p2 =>
   have hs:(ts.any fun t=>!ml t)=true:=h
   unfold swappedStores
   dsimp only
   split
   ·rfl
   ·split
    ·rfl
    ·have hlt:=kU ts (fun x=>match x with
      | .Name id pos=>if (env.kindOf id == some .local && pos.line == (Option.map (fun x=>x.pos.line) ts.head?).getD 0)=true then some id else none
      | _=>none) hs (fun t ht=>by cases t <;> first|rfl|cases ht)
     rw [if_pos]
     rw [Bool.or_eq_true]
     left
     rw [bne_iff_ne]
     exact Nat.ne_of_lt hlt
  | _=>rfl
 | Subscript a b p=>cases x <;> rfl
 | _=>cases h
noncomputable def vM:Expr→Bool
 | .Starred ..=>true
 | _=>false
theorem om {u:Expr} (h:ao u=true):vM u=false:=by
 cases u <;> first|rfl|cases h
theorem tM {u v:Expr} (h1:ao u=true) (h2:ao v=true):([u,v].any fun | .Starred ..=>true|_=>false)=false:=by
 show (vM u || (vM v || false))=false
 rw [om h1,om h2]
 rfl
theorem yR {env:Env} {x y:Str} {px py pt:Pos} {kt k2:Nat} {pt2:Pos} {u v:Expr} (hb:env.blockKind=.function) (hx:env.kindOf x=some .local) (hy:env.kindOf y=some .local) (hxy:x≠y) (hl:px.line=py.line)
  (h1:ao u=true) (h2:ao v=true) (h3:(foldedForSure 8 u && foldedForSure 8 v)=false) (h4:(constantsAlone 8 u && constantsAlone 8 v)=false) :
  swappedStores [.Tuple [.Name x px,.Name y py] kt pt] (.Tuple [u,v] k2 pt2) env=pure (some [x,y]):=by
 unfold swappedStores
 dsimp only
 have e0:(Option.map (fun x=>x.pos.line) [Expr.Name x px,Expr.Name y py].head?).getD 0=px.line:=rfl
 have e1:([u,v].any fun | .Starred ..=>true|_=>false)=false:=tM h1 h2
 have e2:[u,v].all (foldedForSure 8)=false:=by simpa using h3
 have e3:[u,v].all (constantsAlone 8)=false:=by simpa using h4
 have e4:[x,y].eraseDups.length=2:=by
  have:(y == x)=false:=by simpa using fun z=>hxy z.symm
  simp [List.eraseDups_cons,this]
 rw [if_neg (by simp [hb]),if_neg ?h1]
 case h1=>exact fun z=>Bool.false_ne_true (e1.symm.trans z)
 have e5:(List.filterMap (fun t=>match t with
   | .Name id pos=>if (env.kindOf id == some .local && pos.line == (Option.map (fun x=>x.pos.line) [Expr.Name x px,Expr.Name y py].head?).getD 0)=true then some id else none
   | _=>none) [Expr.Name x px,Expr.Name y py])=[x,y]:=by
  rw [e0]
  simp [List.filterMap_cons,hx,hy,hl]
 generalize hn:List.filterMap _ [Expr.Name x px,Expr.Name y py]=ns
 have hns:ns=[x,y]:=hn.symm.trans e5
 subst hns
 rw [if_neg,if_neg,if_neg]
 ·rw [e3];decide
 ·rw [e2];decide
 ·rw [e4]
  simp
section
variable {X:Cx} {c:Cfg} {Γ:Nat→FSp}
theorem BM {X:Cx} {c:Cfg} {Γ:Nat→FSp} (C:COk X c Γ) {t:Tg} {e:E} {tg x:Expr} {pos:Pos} (h2:oX c t tg=true) (h3:aU c e x=true) (h:EY c t e tg x=true):PS X (.Assign [tg] x pos) (TSx X.K (wpS Γ (.set t e))):=by
 have hE:=a_ e C _ h3
 unfold EY at h
 rw [Bool.and_eq_true,Bool.and_eq_true] at h
 obtain ⟨⟨ht,he⟩,h⟩:=h
 replace h:=am h
 obtain ⟨y,py,rfl,h⟩:=h
 replace h:=jC h
 obtain ⟨ex,gens,sc,cpos,rfl,h⟩:=h
 obtain ⟨i,rfl⟩:=De ht
 obtain ⟨elt,tg,it,ifs,nt,caps,rfl⟩:=Cw he
 ·have h2:(c.N[i]? == some y && c.loc y)=true:=h2
  simp only [Bool.and_eq_true,beq_iff_eq] at h2
  obtain ⟨g1,g2⟩:=C.locx h2.2
  rintro pins s σ H D I ⟨m,ρ,st,rf,rh,w⟩
  simp only [Bool.or_eq_true,Bool.and_eq_true,beq_iff_eq,Bool.not_eq_true'] at h
  rcases h with h|⟨⟨hl,hp⟩,hn⟩
  ·have hk:=C.cel y (.inl h)
   have hs:swapsWith (.ListComp ex gens sc cpos) (some (.Name y py)) pos.line X.env=pure false:=by
    unfold swapsWith
    have:(X.env.kindOf y == some NameKind.local)=false:=by rcases hk with hk|hk <;> rw [hk] <;> rfl
    simp only [this,Bool.and_false,Bool.false_and]
   rw [wc] at w
   refine yh C.ndX (by rw [C.N];exact h2.1) g1 hE hs g2 pins s σ H D I ⟨m,ρ,st,rf,rh,ac C.mono _ (fun v st1 k m1 H1 x1 e1 r1 r2=>?_) w⟩
   try simp only [fY,jT,iz,km] at k
   exact k m1 H1 _ e1 r1 ((rf.mono e1).set i r2)
  ·have hll:=C.lcl _ hl
   have hs:swapsWith (.ListComp ex gens sc cpos) (some (.Name y py)) pos.line X.env=pure true:=by
    unfold swapsWith
    have q1:(X.env.kindOf y == some NameKind.local)=true:=by unfold Env.kindOf;rw [hll];rfl
    have q2:(X.env.blockKind == ScopeKind.function)=true:=by rw [C.bk];rfl
    have q3:(py.line == cpos.line)=true:=by rw [hp];simp
    unfold yn at hn
    show pure (_ && _ && _ && !_)=_
    rw [q1,q2]
    show pure (true && true && (py.line == cpos.line) && !_)=_
    rw [q3,hn]
    rfl
   replace h3:=jC h3
   obtain ⟨ex',gs',sc',pos',heq,h3⟩:=h3
   cases heq
   replace h3:=dC h3
   obtain ⟨g,rfl,h3⟩:=h3
   obtain ⟨tx,ix,fx,ia⟩:=g
   ·simp only [Bool.and_eq_true,beq_iff_eq] at h3
    obtain ⟨⟨⟨⟨⟨⟨⟨⟨h1,h0⟩,k2'⟩,h3⟩,h4⟩,h5⟩,h6⟩,h7⟩,h8⟩:=h3
    subst h1
    obtain ⟨S,k1,k2,k3,k4⟩:=lW C h4
    have hC:∀s2 H2 fp A,COk (cxC X (nt++caps.filterMap (X.N[·]?)) s2 H2 fp sc A) (c.inner nt caps sc) Γ:=fun s2 H2 fp A=>Bw C h4
    skip
    rw [exec_Assign_Name_used _ _ _ _ hs]
    refine wpAny_bind (wpAny_standAt ?_)
    refine wpAny_bind ?_
    unfold evalThenUse
    refine wpAny_bind ?_
    refine o0 (elt:=elt) (tg:=tg) (ifs:=ifs) (nt:=nt) (caps:=caps) (use:=some (assign (.Name y py) X.env)) (Fin:=fun A H'=>D.nx (σ.set i (some (.ref A))) H') (wi:=TIx X.K (iW Γ it)) C.mono C.calm S rfl k1 k2 k3 k2' h3 (y9 it C _ h0 h5) (fun s2 H2 fp A=>oG tg (hC s2 H2 fp A) _ h6) (fun s2 H2 fp A=>ve ifs (hC s2 H2 fp A) _ h7) (fun s2 H2 fp A=>a_ elt (hC s2 H2 fp A) _ h8) I ?_ ?_
    ·refine ⟨m,ρ,st,rf,rh,fJ C.mono it (fun xs chk st1 z m1 H1 J e1 r1 W=>⟨m1,ρ,st1,xs,chk,rf.mono e1,r1,W,z.1,?_⟩) w⟩
     refine fS (body:=fc Γ elt tg ifs (nt.map (fun _=>none)++caps.map fun i=>(ρ[i]?).join)) (fun _ _ _ _ hk q=>nj C.mono hk q) (fun vs st2 k m2 H2 A ys e2 r2 Dm hD0 hD ry=>?_) z.2
     have hD1:H A=none:=by
      cases q:H A with
      | none=>rfl
      | some o =>
       by_cases hm:A∈m
       ·exact absurd ((e1.trans e2).pre.subset hm) Dm
       ·exact absurd hD0 (e1.ne hm q)
     try simp only [fY,jT,iz,km] at k
     exact k _ _ _ ((e1.trans e2).addD hD1) (r2.addD Dm hD ry) ((rf.mono ((e1.trans e2).addD hD1)).set i (R.last r2.len))
    ·intro C' A H' s' m' I' ns fp F
     refine wpAny_assign_Name (oP I' C.ndX (by rw [C.N];exact h2.1) g1 (v:=.ref A) rfl (fun s2 I2 hh=>?_) g2)
     obtain ⟨a,hs2,ha⟩:=hh
     have hne:C'≠a:=by
      rcases ha with rfl|ha
      ·exact fp.2.1
      ·exact fun q=>fp.2.2.2.2.1 _ _ ha q.symm
     refine ⟨m',?_,fun h' hs'=>?_⟩
     ·obtain ⟨o,es,ep,q1,q2⟩:=ns
      exact ⟨o,es,ep,(hs2.2 C' hne).trans q1,q2⟩
     ·refine wpAny_pure (wpAny_pure ?_)
      exact ⟨_,H',I2.turned (t':=s2.toks) (fun b o hb e=>hs'.extBut b o hb e) fp.1 fp.2.1 fp.2.2.2.1 fp.2.2.2.2.1 fp.2.2.2.2.2,F⟩
mutual
theorem Iv (C:COk X c Γ):∀(e:S) (x:Stmt),Ht c e x=true→PS X x (TSx X.K (wpS Γ e))
 | .set t e,x,h=>by
  replace h:=oV h
  obtain ⟨tg,x,pos,rfl,h⟩:=h
  ·simp only [Bool.and_eq_true,Bool.or_eq_true] at h
   obtain ⟨⟨h2,h3⟩,h14⟩:=h
   rcases h14 with ⟨h1,h4⟩|h14|h14
   rotate_left
   ·exact BM C h2 h3 h14
   ·have hE:=a_ e C _ h3
    have hG:=oG t C _ h2
    rintro pins s σ H D I ⟨m,ρ,st,rf,rh,w⟩
    skip
    have rd:Dv (TEx X.K (wpE Γ e)) (TGx X.K (dw Γ t)) D σ H:=⟨m,ρ,st,rf,rh,ac C.mono e (fun v st1 k m1 H1 x1 e1 r1 r2=>⟨m1,ρ,st1,v,rf.mono e1,r1,r2,br C.mono t (fun _ _ q=>q.ext e1) k⟩) w⟩
    obtain ⟨ts,k,p,rfl,h14⟩:=bF h14
    rcases Bool.or_eq_true_iff.mp h14 with h14|h14
    ·obtain ⟨a,b,d,f,rfl,_⟩:=jC h14
     exact lL hE hG rfl rfl rfl pins s σ H D I rd
    ·obtain ⟨us,k2,p2,rfl,h14⟩:=bF h14
     refine lL hE hG rfl (BO (P:=Hw c) h14 fun t ht=>?_) rfl pins s σ H D I rd
     obtain ⟨y,q,rfl,hy⟩:=am (show aN t _=true from ht)
     refine ⟨y,q,rfl,?_⟩
     rcases C.cel y (.inl (by simpa using hy)) with hk|hk <;> rw [hk] <;> rfl
   ·have hE:=a_ e C _ h3
    have hG:=oG t C _ h2
    rintro pins s σ H D I ⟨m,ρ,st,rf,rh,w⟩
    skip
    have rd:Dv (TEx X.K (wpE Γ e)) (TGx X.K (dw Γ t)) D σ H:=⟨m,ρ,st,rf,rh,ac C.mono e (fun v st1 k m1 H1 x1 e1 r1 r2=>⟨m1,ρ,st1,v,rf.mono e1,r1,r2,br C.mono t (fun _ _ q=>q.ext e1) k⟩) w⟩
    cases t with
    | name i =>
     obtain ⟨y,p,rfl,h2⟩:=am h2
     have h2:=Bool.and_eq_true_iff.mp h2
     obtain ⟨g1,g2⟩:=C.locx h2.2
     refine yh C.ndX (by rw [C.N];exact beq_iff_eq.mp h2.1) g1 hE (gN h1) g2 pins s σ H D I ⟨m,ρ,st,rf,rh,ac C.mono e (fun v st1 k m1 H1 x1 e1 r1 r2=>?_) w⟩
     try simp only [fY,jT,iz,km] at k
     exact k m1 H1 _ e1 r1 ((rf.mono e1).set i r2)
    | tup ts =>
     obtain ⟨xs,k,p,rfl,_⟩:=bF h2
     exact lL hE hG (gA h1) (jX (by rcases h4 with h4|h4;cases h4;exact h4)) rfl pins s σ H D I rd
    | ltup ts =>
     obtain ⟨xs,k,p,rfl,_⟩:=bF h2
     exact lL hE hG (gA h1) (jX (by rcases h4 with h4|h4;cases h4;exact h4)) rfl pins s σ H D I rd
    | sub o i =>
     obtain ⟨l,r,p,rfl,_⟩:=fQ h2
     exact lL hE hG (gA h1) (jX (by rcases h4 with h4|h4;cases h4;exact h4)) rfl pins s σ H D I rd
 | .par i j a b,x,h=>by
  replace h:=oV h
  obtain ⟨tg,vx,pos,rfl,h⟩:=h
  replace h:=bF h
  obtain ⟨ts,k,p1,rfl,h⟩:=h
  replace h:=gf h
  obtain ⟨ta,tb,rfl,h⟩:=h
  replace h:=am h
  obtain ⟨x,px,rfl,h⟩:=h
  replace h:=am h
  obtain ⟨y,py,rfl,h⟩:=h
  replace h:=bF h
  obtain ⟨us,k2,p2,rfl,h⟩:=h
  replace h:=gf h
  obtain ⟨u,v,rfl,h⟩:=h
  ·simp only [Bool.and_eq_true,beq_iff_eq,Bool.not_eq_true',beq_eq_false_iff_ne] at h
   obtain ⟨⟨⟨⟨⟨⟨⟨⟨⟨⟨⟨⟨h1,h2⟩,h3⟩,h4⟩,h5⟩,h6⟩,h7⟩,h8⟩,h9⟩,h10⟩,h11⟩,h12⟩,h13⟩:=h
   have hx:=C.lcl _ h5
   have hy:=C.lcl _ h6
   rintro pins s σ H D I ⟨m,ρ,st,rf,rh,w⟩
   skip
   refine Gv C.calm C.ndX (by rw [C.N];exact h1) (by rw [C.N];exact h2) h3 hx hy (pac (a_ a C _ h12) (pac (a_ b C _ h13) jf h9) h8)
    (yR C.bk hx hy h4 h7 h8 h9 h10 h11) rfl pins s σ H D I ⟨m,ρ,st,rf,rh,ac C.mono a (fun v st1 k m1 H1 x1 e1 r1 r2=>⟨m1,ρ,st1,rf.mono e1,r1,
    ac C.mono b (fun u st2 k2 m2 H2 y2 e2 r3 r4=>⟨x1,y2,rfl,?_⟩) k⟩) w⟩
   exact k2 m2 H2 _ (e1.trans e2) r3 ((((rf.mono e1).mono e2).set i (r2.mono e2)).set j r4)
 | .aug i op e,x,h=>by
  replace h:=wV h
  obtain ⟨t,o,x,p,rfl,h⟩:=h
  replace h:=am h
  obtain ⟨y,py,rfl,h⟩:=h
  ·simp only [Bool.and_eq_true,beq_iff_eq] at h
   obtain ⟨⟨⟨h1,h2⟩,h3⟩,h4⟩:=h
   subst h3
   obtain ⟨g1,g2⟩:=C.locx h2
   rintro pins s σ H D I ⟨m,ρ,st,rf,rh,w⟩
   skip
   obtain ⟨v,ev,w⟩:=w
   obtain ⟨y,ey,ry⟩:=rf.at_ i v ev
   refine Fo C.ndX (by rw [C.N];exact h1) g1 (a_ e C _ h4) (Ft _) g2 pins s σ H D I ⟨y,ey,m,ρ,st,rf,rh,ac C.mono e (fun u st1 k m1 H1 x1 e1 r1 r2=>⟨m1,st1,v,u,r1,ry.mono e1,r2,oH (fun z st2 q m2 H2 z2 e2 r3 r4=>?_) k⟩) w⟩
   exact q m2 H2 _ (e1.trans e2) r3 (((rf.mono e1).mono e2).set i r4)
 | .expr e,x,h=>by
  replace h:=Bx h
  obtain ⟨x,p,rfl,h⟩:=h
  ·simp only [Bool.and_eq_true] at h
   rintro pins s σ H D I ⟨m,ρ,st,rf,rh,w⟩
   skip
   exact CV (a_ e C _ h.2) (gN h.1) pins s σ H D I ⟨m,ρ,st,rf,rh,ac C.mono e (fun u st1 k m1 H1 x1 e1 r1 r2=>k m1 H1 σ e1 r1 (rf.mono e1)) w⟩
 | .ret e,x,h=>by
  replace h:=ot h
  obtain ⟨o,p,rfl,h⟩:=h
  replace h:=gi h
  obtain ⟨x,rfl,h⟩:=h
  ·rintro pins s σ H D I ⟨m,ρ,st,rf,rh,w⟩
   skip
   exact FO (a_ e C _ h) pins s σ H D I ⟨m,ρ,st,rf,rh,w⟩
 | .retN,x,h=>by
  replace h:=ot h
  obtain ⟨o,p,rfl,h⟩:=h
  replace h:=xk h
  obtain rfl:=h
  ·rintro pins s σ H D I ⟨m,ρ,st,rf,rh,w⟩
   skip
   exact Dz pins s σ H D I (post.here w rh (R_non.mpr rfl))
 | .ifS t a b,x,h=>by
  replace h:=yN h
  obtain ⟨x,ys,zs,p,rfl,h⟩:=h
  ·simp only [Bool.and_eq_true] at h
   obtain ⟨⟨h1,h2⟩,h3⟩:=h
   rintro pins s σ H D I ⟨m,ρ,st,rf,rh,w⟩
   skip
   refine HS (nR t C _ h1) (jq C a _ h2) (jq C b _ h3) pins s σ H D I ⟨m,ρ,st,rf,rh,aQ C.mono t (fun k st1 z m1 H1 e1 r1=>?_) w⟩
   cases k with
   | true=>rw [if_pos rfl] at z ⊢;exact ⟨m1,ρ,st1,rf.mono e1,r1,aT C.mono a (AE.ext e1) z⟩
   | false=>rw [if_neg Bool.false_ne_true] at z ⊢;exact ⟨m1,ρ,st1,rf.mono e1,r1,aT C.mono b (AE.ext e1) z⟩
 | .whileS t b,x,h=>by
  replace h:=sD h
  obtain ⟨x,ys,p,rfl,h⟩:=h
  ·simp only [Bool.and_eq_true] at h
   intro pins s σ H D I w
   exact y_ C.pass (nR t C _ h.1) (jq C b _ h.2) pins s σ H D I (xB C.mono w)
 | .forS t it b,x,h=>by
  replace h:=w5 h
  obtain ⟨tg,x,ys,p,rfl,h⟩:=h
  ·simp only [Bool.and_eq_true] at h
   obtain ⟨⟨⟨⟨h0,h1⟩,h2⟩,h3⟩,h4⟩:=h
   intro pins s σ H D I w
   exact GC C.pass C.calm (y9 it C _ h0 h3) (oG t C _ h2) (jq C b _ h4) (rj h1) pins s σ H D I (Cp C.mono w)
 | .bad,x,h=>by
  rintro pins s σ H D I ⟨m,ρ,st,rf,rh,w⟩
  exact False.elim w
 | .set2 i j e,x,h=>by
  replace h:=l_ h
  obtain ⟨ts,v,pos,rfl,h⟩:=h
  replace h:=gf h
  obtain ⟨ta,tb,rfl,h⟩:=h
  replace h:=am h
  obtain ⟨x,px,rfl,h⟩:=h
  replace h:=am h
  obtain ⟨y,py,rfl,h⟩:=h
  ·simp only [Bool.and_eq_true,beq_iff_eq,Bool.not_eq_true',beq_eq_false_iff_ne] at h
   obtain ⟨⟨⟨⟨⟨⟨h1,h2⟩,h3⟩,h4⟩,h5⟩,h6⟩,h7⟩:=h
   obtain ⟨a1,a2⟩:=C.locx h4
   obtain ⟨b1,b2⟩:=C.locx h5
   rintro pins s σ H D I ⟨m,ρ,st,rf,rh,w⟩
   skip
   refine wpAny_Assign_two (thn (a_ e C _ h7 pins s σ H (fun y H1=>D.nx ((σ.set i (some y)).set j (some y)) H1) I ⟨m,ρ,st,rf,rh,ac C.mono e (fun v st1 k m1 H1 x1 e1 r1 r2=>k m1 H1 _ e1 r1 (((rf.mono e1).set i r2).set j r2)) w⟩) fun v s1 ⟨y,H1,I1,r1,q1⟩=>?_) rfl rfl
   refine PySem.wpAny_assign_Name ?_
   refine eO I1 C.ndX (by rw [C.N];exact h1) a1 r1 (fun s2 I2=>?_) a2
   refine PySem.wpAny_assign_Name ?_
   exact eO I2 C.ndX (by rw [C.N];exact h2) b1 r1 (fun s3 I3=>⟨_,H1,I3,q1⟩) b2
 | .pass,x,h=>by
  replace h:=tD h
  obtain ⟨p,rfl⟩:=h
  ·rintro pins s σ H D I ⟨m,ρ,st,rf,rh,w⟩
   skip
   exact B9 pins s σ H D I (postF.here w rh rf)
 | .brk,x,h=>by
  replace h:=wG h
  obtain ⟨p,rfl⟩:=h
  ·rintro pins s σ H D I ⟨m,ρ,st,rf,rh,w⟩
   skip
   exact AQ pins s σ H D I (postF.here w rh rf)
 | .cont,x,h=>by
  replace h:=uW h
  obtain ⟨p,rfl⟩:=h
  ·rintro pins s σ H D I ⟨m,ρ,st,rf,rh,w⟩
   skip
   exact rW pins s σ H D I (postF.here w rh rf)
theorem jq (C:COk X c Γ):∀(e:Ss) (x:List Stmt),aD c e x=true→PSs X x (TSx X.K (ay Γ e))
 | .nil,x,h=>by
  have h:x.isEmpty=true:=h
  cases x with
  | nil =>
   rintro pins s σ H D I ⟨m,ρ,st,rf,rh,w⟩
   skip
   exact CC pins s σ H D I (postF.here w rh rf)
  | cons _ _=>cases h
 | .cons e es,x,h=>by
  replace h:=aR h
  obtain ⟨y,ys,rfl,h⟩:=h
  ·simp only [Bool.and_eq_true] at h
   rintro pins s σ H D I ⟨m,ρ,st,rf,rh,w⟩
   skip
   refine BB (Iv C e _ h.1) (jq C es _ h.2) pins s σ H D I ⟨m,ρ,st,rf,rh,ju C.mono e ?_ w⟩
   exact ⟨fun ρ1 st1 k m1 H1 σ1 e1 r1 f1=>⟨m1,ρ1,st1,f1,r1,aT C.mono es (AE.ext e1) k⟩,fun _ _ q=>q,fun _ _ q=>q,fun _ _ q=>q⟩
end
structure GOk (P:Program) (w:World) (K:PySem.W.Frag) (mg:Str→Option Value) (base:Heap) (c:Cfg) (Γ:Nat→FSp):Prop where
 fn:∀f x,f<c.lim→c.fns[f]?=some x→∃ps,Has P w K mg base (f+1) x ps (ax K (Γ f))
 blt:∀x∈c.blts,mg x=none
 gl:∀x v,c.gl.lookup x=some v→∃u y,mg x=some u∧RelV y u∧∀m H,R K m H v y
 mono:bM Γ
noncomputable def frame (n:Nat) (as:List PV):Fr:=as.map some++List.replicate (n-as.length) none
noncomputable def ag (st:AH) (Q:EK):bn:={ nx:=fun _ st'=>Ret st Q .non st',rt:=Ret st Q }
theorem dH {K:PySem.W.Frag} {m:List Addr} {H:Hp} {st st':AH} {Q:VK} {v:PV} (rh:RH K m H st) (q:Ret st (post K m H Q) v st'):post K m H Q v st':=by
 rcases q with q|q
 ·exact q
 ·intro m' H' x e r s
  obtain ⟨st1,q,e2,r3,r4⟩:=pG rh e r s q
  exact q m H' x e2 r3 r4
theorem jk {K:PySem.W.Frag} {m:List Addr} {H:Hp} {N:List Str} {as:List PV} {vs:List V} (r:Rs K m H as vs):RF K m H (frame N.length as) (L2.start N vs):=by
 have hl:=r.len
 refine ⟨by simp [frame,L2.start,hl],fun i v e=>?_⟩
 unfold frame at e
 unfold L2.start
 by_cases hi:i<as.length
 ·rw [List.getElem?_append_left (by simpa using hi),List.getElem?_map] at e
  cases q:as[i]? with
  | none=>rw [q] at e;cases e
  | some a =>
   rw [q] at e
   cases e
   obtain ⟨y,e1,r1⟩:=r.get q
   exact ⟨y,by rw [List.getElem?_append_left (by simp;omega),List.getElem?_map,e1];rfl,r1⟩
 ·rw [List.getElem?_append_right (by simpa using hi),List.getElem?_replicate] at e
  split at e <;> cases e
theorem qy {P:Program} {w:World} {K:PySem.W.Frag} {mg:Str→Option Value} {base:Heap} {x:Str} {st:Stmt} {N ps:List Str} (S:ai N ps (aa st)) {f:Addr} {cdv:Value} {A:Around} {outer:List Env} {s:Shared} {H:Hp} {E:XK}
  (hN:c.N=N) (hn:c.names=(aa st).names) (hr:Room c.lim (A.deeper (envOfC x (aa st) s.heap.objs.size f cdv))) (G:GOk P w K mg base c Γ)
  (lam:c.pc=true→∀ {pins:List (Addr × Obj)} {σ:L2.St} {H2:Hp} {s2:Shared} {b:Addr} {u:Value} {v:V} {Q:VK},L2.Inv (iI CX0 P w K mg base N x (aa st) f cdv A outer s H E).nox pins σ H2 s2→RelV v u→ax K (Γ 1000) [.ref b,v] H2 Q E0 →
   PySem.W.FnAt b s2.heap∧wpAny (model P w) (iI CX0 P w K mg base N x (aa st) f cdv A outer s H E).nox.A (call (.ref b) [u]) (EP (iI CX0 P w K mg base N x (aa st) f cdv A outer s H E).nox pins σ Q) (iI CX0 P w K mg base N x (aa st) f cdv A outer s H E).nox.xe s2)
  (hmo:∀k,c.hm=some k→HmX (iI CX0 P w K mg base N x (aa st) f cdv A outer s H E).nox k) :
  COk (iI CX0 P w K mg base N x (aa st) f cdv A outer s H E).nox c Γ where
 calm:=rfl
 pass:=PassesOwn.never
 N:=hN.symm
 nd:=by rw [hN];exact S.nd
 vis:=fun y h=>by rw [hn] at h;exact h
 loc:=fun y h=>by rw [hn] at h;exact ⟨h,.inl rfl⟩
 lcl:=fun y h=>by rw [hn] at h;exact h
 glb:=fun y h=>by rw [hn] at h;exact h
 bk:=by
  show Env.blockKind (envOfC x (aa st) s.heap.objs.size f cdv)=_
  unfold Env.blockKind
  show (if (aa st).kind.isAnnotationScope=true then _ else (aa st).kind)=_
  rw [S.kind]
  rfl
 cel:=fun y h=>by rw [hn] at h;exact h
 room:=hr
 fn:=G.fn
 blt:=G.blt
 gl:=G.gl
 mono:=G.mono
 lam:=lam
 hmo:=hmo
theorem aK {P:Program} {w:World} {K:PySem.W.Frag} {mg:Str→Option Value} {base:Heap} {x:Str} {st:Stmt} {N ps:List Str} {sp:FSp} {code:Ss} (F:At K mg x st ps) (S:ai N ps (aa st)) (hN:c.N=N) (hn:c.names=(aa st).names)
  (hc:aD c code (ad st)=true) (G:GOk P w K mg base c Γ) (len:∀as st Q,sp as st Q→as.length=ps.length)
  (h:∀as st Q,sp as st Q→ay Γ code (frame N.length as) st (ag st Q)) (hpc:c.pc=false:=by rfl) (hhm:c.hm=none:=by rfl):Has P w K mg base (c.lim+1) x ps (ax K sp):=by
 refine F.ok S (fun vs H Q E ⟨m,st,as,r1,r2,q⟩=>by rw [←r1.len];exact len as st _ q) fun f cdv A outer s H vs Q E hr ⟨m,st',as,r1,r2,q⟩=>?_
 have C:=qy (E:=E) (H:=H) (outer:=outer) (Γ:=Γ) S hN hn hr G (fun z=>by rw [hpc] at z;cases z) fun k z=>by rw [hhm] at z;cases z
 refine ⟨_,jq C code _ hc,m,frame N.length as,st',jk r1,r2,aT G.mono code ?_ (h as st' _ q)⟩
 exact ⟨fun ρ st2 k m' H' σ' e r f=>dH r2 k m' H' .non e r (R_non.mpr rfl),fun v st2 k=>dH r2 k,fun _ _ k=>k.elim,fun _ _ k=>k.elim⟩
end
end FW
set_option Elab.async false
set_option linter.all false
set_option maxRecDepth 100000
set_option maxHeartbeats 1000000
namespace FW
open PySem PySem.Spec PyProof.Rows L2 HX
section
variable {P:Program} {w:World} {K:PySem.W.Frag} {mg:Str→Option Value} {base:Heap} {c c':Cfg} {Γ:Nat→FSp}
theorem GOk.next (G:GOk P w K mg base c Γ) (h1:c'.fns=c.fns) (h2:c'.lim=c.lim+1) (h3:c'.blts=c.blts) (h4:c'.gl=c.gl) {x:Str} {ps:List Str} (hx:c.fns[c.lim]?=some x) (H:Has P w K mg base (c.lim+1) x ps (ax K (Γ c.lim))):GOk P w K mg base c' Γ where
 fn:=fun f y hf e=>by
  rw [h1] at e
  rw [h2] at hf
  by_cases hl:f<c.lim
  ·exact G.fn f y hl e
  ·have:f=c.lim:=by omega
   subst this
   rw [hx] at e
   cases e
   exact ⟨ps,H⟩
 blt:=by rw [h3];exact G.blt
 gl:=by rw [h4];exact G.gl
 mono:=G.mono
theorem CZ {x qual:Str} {st:Stmt} {f:Addr} {fd:FuncData} {N ps:List Str} {sp:FSp} {code:Ss} (F:Fun K x x st f fd) (S:ai N ps (aa st)) (hN:c.N=N) (hn:c.names=(aa st).names)
  (hc:aD c code (ad st)=true) (G:GOk P w K mg base c Γ) (len:∀as st Q,sp as st Q→as.length=ps.length)
  (h:∀as st Q,sp as st Q→ay Γ code (frame N.length as) st (ag st Q)) (hpc:c.pc=false:=by rfl) (hhm:c.hm=none:=by rfl):nG P w K mg base CX0 (c.lim+1) f fd ps (ax K sp):=by
 refine F.ok S (fun vs H Q E ⟨m,st,as,r1,r2,q⟩=>by rw [←r1.len];exact len as st _ q) fun cdv A outer s H vs Q E hr ⟨m,st',as,r1,r2,q⟩=>?_
 have C:=qy (E:=E) (H:=H) (outer:=outer) (Γ:=Γ) S hN hn hr G (fun z=>by rw [hpc] at z;cases z) fun k z=>by rw [hhm] at z;cases z
 refine ⟨_,jq C code _ hc,m,frame N.length as,st',jk r1,r2,aT G.mono code ?_ (h as st' _ q)⟩
 exact ⟨fun ρ st2 k m' H' σ' e r f=>dH r2 k m' H' .non e r (R_non.mpr rfl),fun v st2 k=>dH r2 k,fun _ _ k=>k.elim,fun _ _ k=>k.elim⟩
end
noncomputable def iM:FSp:=fun as st Q=>∃ns:List Int,as=[.rdl (ns.map PV.int)]∧ns.length≤63∧∀st',Q (.bl true) st'
theorem wC {K:PySem.W.Frag} {m:List Addr} {H:Hp}:∀ {ns:List Int},Rs K m H (ns.map PV.int) (ns.map V.int)
 | []=>by rw [List.map_nil,List.map_nil,Rs_nil]
 | n::ns=>by rw [List.map_cons,List.map_cons,Rs_cons',R_int];exact ⟨rfl,wC⟩
structure EV (K:PySem.W.Frag) (h:Heap):Prop where
 at_:∀x∈aV,∀c T,PySem.W.tabIn K x=some (c,T)→PySem.W.CodeHd h c T∧h.get? T=some (PySem.W.tabObj #[])
structure Dy (K:PySem.W.Frag):Prop where
 at_:∀x∈aV,∀c T,PySem.W.tabIn K x=some (c,T)→K.lookup T=none∧∀y∈aV,∀d,PySem.W.tabIn K y=some (d,T)→y=x
structure fX (K:PySem.W.Frag) (mg:Str→Option Value) (base:Heap):Prop where
 hd:∀x∈aV,∀c T,PySem.W.tabIn K x=some (c,T)→PySem.W.CodeHd base c T
 bm:∃bm ob,mg "__builtins__"=some (.ref bm)∧bm≠builtinsNs∧base.get? bm=some ob∧ob.cls=.type "module"∧ob.dict=some builtinsNs∧ob.data=.plain
theorem BA {K:PySem.W.Frag} {H:Hp} {a:Addr} {ns:List Int} (hl:ns.length≤63) (hO:∀ys,H a≠some (.lst ys)) (hS:SqL K H a (ns.map V.int)) (tb:TB K H):ax K iM [.ref a] H (fun v _=>v=.bl true) fun _ _ _=>False:=by
 have hF:RdF K H a (ns.map V.int):=by
  rcases hS with (h|h)|h
  ·exact absurd h (hO _)
  ·exact .inl h
  ·exact .inr h
 refine ⟨[],[],[.rdl (ns.map PV.int)],?_,⟨rfl,List.nodup_nil,fun n c a h=>by simp at h,tb⟩,ns,rfl,hl,fun st' m' H' x e r s=>R_bl.mp s⟩
 rw [Rs_cons',Rs_nil,fh]
 exact ⟨⟨a,_,rfl,hF,wC⟩,rfl⟩
noncomputable def oz (K:PySem.W.Frag) (b:Addr):Prop:=∃x∈aV,∃c,PySem.W.tabIn K x=some (c,b)
open Classical in
noncomputable def eU (K:PySem.W.Frag) (a:Addr) (scr:Option HO):Hp:=fun b=>if b=a then scr else if oz K b then some (.tbl #[]) else none
theorem xf {P:Program} {w:World} {K:PySem.W.Frag} {mg mb:Str→Option Value} {k:Nat} {fa a:Addr} {fd:FuncData} {x:Str} {s₁:Shared} {vs:List Value} {ns:List Int}
  (KX:K.In s₁.heap) (hns:s₁.heap.Ns mainGlobals mg) (hb:s₁.heap.Ns builtinsNs mb) (hbb:∀x:Str,x≠"__name__"→mb x=bootBuiltins x) (hlim:s₁.heap.NoLimit) (hg:s₁.gens=#[])
  (LT:EV K s₁.heap) (LK:Dy K) (hbm:∃bm ob,mg "__builtins__"=some (.ref bm)∧bm≠builtinsNs∧s₁.heap.get? bm=some ob∧ob.cls=.type "module"∧ob.dict=some builtinsNs∧ob.data=.plain)
  (ha:s₁.heap.get? a=some { cls:=.type "list",data:=.seq vs.toArray }) (hi:IntsAre vs ns) (hl:ns.length≤63) (hr:Room k callerA)
  (F:∀base:Heap,K.In base→base.Ns mainGlobals mg→fX K mg base→nG P w K mg base CX0 k fa fd [x] (ax K iM)) (hbind:∀(s:Shared) (u:Value),BindsTo s fd ⟨[u],[]⟩ [(x,u)]) :
  codeAny (model P w) callerA (.call (.ref fa) ⟨[.ref a],[]⟩) (fun r s'=>r=.ok (.ret (.bool true))∧OldK s₁.heap s'.heap∧s'.os=s₁.os∧AllBare s'.gens) s₁:=by
 have rv:=oN hi
 have lenV:=hi.length
 have hl2:ns.length≤sizeLine:=Nat.le_trans hl (by decide)
 have tabAt:∀ {b:Addr},oz K b→s₁.heap.get? b=some (PySem.W.tabObj #[]):=fun ⟨x,hx,c,e⟩=>(LT.at_ x hx c _ e).2
 have naT:¬oz K a:=fun z=>by have e:=tabAt z;rw [ha] at e;cases e
 have core:∀scr:Option HO,(∀ys,scr≠some (.lst ys))→SqL K (eU K a scr) a (ns.map V.int)→(∀u,scr=some u→(∃o xs,u=.frz o (.lst xs))∧ObjOk P w (eU K a scr) s₁.heap a u)→(scr≠none→K.lookup a=none) →
   codeAny (model P w) callerA (.call (.ref fa) ⟨[.ref a],[]⟩) (fun r s'=>r=.ok (.ret (.bool true))∧OldK s₁.heap s'.heap∧s'.os=s₁.os∧AllBare s'.gens) s₁:=by
  intro scr hscr hS hso hK
  have atA:eU K a scr a=scr:=if_pos rfl
  have atT:∀ {b:Addr},oz K b→eU K a scr b=some (.tbl #[]):=fun {b} z=>by
   have:b≠a:=fun q=>naT (q ▸ z)
   exact (if_neg this).trans (if_pos z)
  have cs:∀b,eU K a scr b≠none→(b=a∧scr≠none)∨oz K b:=fun b z=>by
   by_cases h1:b=a
   ·exact .inl ⟨h1,by rw [h1,atA] at z;exact z⟩
   ·by_cases h2:oz K b
    ·exact .inr h2
    ·exact absurd ((if_neg h1).trans (if_neg h2)) z
  have hok:HOk P w (eU K a scr) s₁.heap:=fun b u e=>by
   rcases cs b (by rw [e];simp) with ⟨rfl,z⟩|z
   ·rw [atA] at e
    exact (hso u e).2
   ·rw [atT z] at e
    cases e
    exact tabAt z
  have base_of:∀ {b:Addr} {o:Obj},s₁.heap.get? b=some o→eU K a scr b=none→(nD s₁.heap (eU K a scr)).get? b=some o:=fun e n=>A5 e n
  have noD:∀ {b:Addr} {o:Obj},s₁.heap.get? b=some o→(∀its n,o.data≠.seq its n)→(∀qs,o.data≠.fields qs)→eU K a scr b=none:=fun {b o} e n1 n2=>by
   cases q:eU K a scr b with
   | none=>rfl
   | some u =>
    rcases cs b (by rw [q];simp) with ⟨rfl,_⟩|z
    ·rw [ha] at e;cases e;exact absurd rfl (n1 _ _)
    ·rw [tabAt z] at e;cases e;exact absurd rfl (n2 _)
  have nsK:∀ {b:Addr} {m:Str→Option Value},s₁.heap.Ns b m→(nD s₁.heap (eU K a scr)).Ns b m:=fun {b m} ⟨o,es,ep,e,d,r⟩=>⟨o,es,ep,base_of e (noD e (fun _ _ z=>by rw [d] at z;cases z) fun _ z=>by rw [d] at z;cases z),d,r⟩
  have hKn:∀ {b:Addr} {o:Obj},K.lookup b=some o→eU K a scr b=none:=fun {b o} e=>by
   cases q:eU K a scr b with
   | none=>rfl
   | some u =>
    rcases cs b (by rw [q];simp) with ⟨rfl,z⟩|⟨x,hx,c,z⟩
    ·rw [hK z] at e;cases e
    ·rw [(LK.at_ x hx c _ z).1] at e;cases e
  have hKb:K.In (nD s₁.heap (eU K a scr)):=fun b o e=>base_of (KX b o e) (hKn e)
  have hM:Mod K mg (nD s₁.heap (eU K a scr)):=⟨hKb,nsK hns,⟨mb,nsK hb,hbb⟩,let ⟨mc,h1,h2⟩:=hlim;⟨mc,nsK h1,h2⟩⟩
  have e0:qc P w K mg (nD s₁.heap (eU K a scr)) callerA [] s₁ (eU K a scr):=⟨rfl,hM,fun b o e=>Dh e,Nat.le_of_eq (wK _ _),trivial,fun b hb=>absurd (show b∈([]:List Addr) from hb) (by simp),hok,.of_eq hg⟩
  have hB:fX K mg (nD s₁.heap (eU K a scr)):=by
   refine ⟨fun x hx c T e=>?_,?_⟩
   ·obtain ⟨o,vs',file,tf,flags,tg,inF,text,tt,q,r⟩:=(LT.at_ x hx c T e).1
    have kc:∃oc,K.lookup c=some oc:=by
     have e':=e
     unfold PySem.W.tabIn at e'
     split at e'
     ·split at e'
      ·split at e'
       ·split at e'
        ·rename_i hh
         split at e'
         ·cases e';exact ⟨_,hh⟩
         ·cases e'
        ·cases e'
       ·cases e'
      ·cases e'
     ·cases e'
    obtain ⟨oc,kc⟩:=kc
    exact ⟨o,vs',file,tf,flags,tg,inF,text,tt,base_of q (hKn kc),r⟩
   ·obtain ⟨bm,ob,b1,b2,b3,b4,b5,b6⟩:=hbm
    exact ⟨bm,ob,b1,b2,base_of b3 (noD b3 (fun _ _ z=>by rw [b6] at z;cases z) fun _ z=>by rw [b6] at z;cases z),b4,b5,b6⟩
  have tb:TB K (eU K a scr):=fun x hx c T e=>⟨(LK.at_ x hx c T e).2,#[],atT ⟨x,hx,c,e⟩,trivial,fun pos cv q=>by cases q⟩
  refine codeAny_mono ((F _ hKb (nsK hns) hB).run callerA [] s₁ (eU K a scr) ⟨[.ref a],[]⟩ [.ref a] [.ref a] _ _ hr e0 (hbind s₁ (.ref a)) (.cons rfl .nil) (BA hl (by rw [atA];exact hscr) hS tb)) fun r s' h=>?_
  cases r with
  | error e=>exact False.elim h
  | ok fl =>
   cases fl with
   | next=>exact False.elim h
   | brk=>exact False.elim h
   | cont=>exact False.elim h
   | ret u =>
    obtain ⟨v,H',os,bare,un,hok',r',q⟩:=h
    have q':v=.bl true:=q
    subst q'
    obtain rfl:u=Value.bool true:=r'
    refine ⟨rfl,⟨fun b o e=>?_,fun b o e=>un.there b o e (by simp)⟩,os,bare⟩
    cases q:eU K a scr b with
    | none=>exact .inl (un.keep b o e q (by intro z;exact absurd (show b∈([]:List Addr) from z) (by simp)) (by simp))
    | some u =>
     rcases cs b (by rw [q];simp) with ⟨rfl,z⟩|z
     ·rw [atA] at q
      obtain ⟨⟨ob,xs,rfl⟩,_⟩:=hso u q
      have z1:eU K b scr b=some (.frz ob (.lst xs)):=by rw [atA];exact q
      have z2:=un.frzs b ob _ z1
      obtain ⟨e1,_⟩:=hok b _ z1
      obtain ⟨e2,_⟩:=hok' b _ z2
      rw [e] at e1;cases e1
      exact .inl e2
     ·obtain ⟨more,z2⟩:=un.tbls b _ (atT z)
      have e1:=tabAt z
      rw [e] at e1
      cases e1
      have e2:s'.heap.get? b=some { cls:=.none,data:=.fields (#[]++more) }:=hok' b _ z2
      obtain ⟨x,hx,c,et⟩:=z
      have ht0:=(LT.at_ x hx c b et)
      exact .inr (.inl ⟨(ht0.1.tab ht0.2).isCodeTable,rfl,#[],more,rfl,e2⟩)
 cases hk:K.lookup a with
 | some o =>
  have e:=KX a o hk
  rw [ha] at e
  cases e
  refine core none (fun _ z=>nomatch z) (.inr ⟨_,vs.toArray,_,hk,rfl,rfl,rfl,by rw [List.size_toArray,lenV];exact hl2,by simpa using rv⟩) (fun u z=>nomatch z) fun z=>absurd rfl z
 | none =>
  refine core (some (.frz { cls:=.type "list",data:=.seq vs.toArray } (.lst (ns.map V.int)))) (fun _ z=>nomatch z) (.inl (.inr ⟨{ cls:=.type "list",data:=.seq vs.toArray },if_pos rfl⟩)) (fun u z=>?_) fun _=>hk
  cases z
  exact ⟨⟨_,_,rfl⟩,ha,by rw [List.length_map];exact hl2,vs,_,rv,ha⟩
theorem walkF {l:PySem.W.OpenLaw} {q:Program} {loose:List Str} {XP:(Str→Option Value)→Heap→Prop} {YP:World→Heap→Prop} {d:DefRec} {K:Params→PySem.W.Frag} {k:Nat} {x:Str} (hn:l.most=some 63) (hdf:d.params.defaults=[]) (hr:Room k callerA)
  (hY:∀(w:World) (h:Heap),YP w h→(K w.params).In h)
  (F:∀(w:World) (mg:Str→Option Value) (fa:Addr) (h:Heap),(K w.params).In h→h.Ns mainGlobals mg→mg d.name=some (.ref fa) →
   ∃fd:FuncData,(∀(s:Shared) (u:Value),BindsTo s fd ⟨[u],[]⟩ [(x,u)])∧Dy (K w.params)∧(∀x∈aV,PySem.W.tabIn (K w.params) x=none∨∃d,(recsOf q).find? (fun e=>e.name == x)=some d)∧∀base:Heap,(K w.params).In base→base.Ns mainGlobals mg→fX (K w.params) mg base→nG l.prog w (K w.params) mg base CX0 k fa fd [x] (ax (K w.params) iM)) :
  PySem.W.WalkO q loose XP YP l.row.toRowW d [] (fun f vs=>PySem.call f vs):=by
 refine Att.attach_call hn hdf fun w s₀ s₁ mg mb fa o pm cd doc a vs ns G Y ho hd hcd hmg hobj hints hlen hg=>?_
 have KX:=hY w _ Y
 obtain ⟨fd,hb,hK,hq,hF⟩:=F w mg fa _ KX G.T.g hmg
 refine xf KX G.T.g G.T.b G.T.builtins G.T.nolimit hg ⟨fun x hx c T e=>?_⟩ hK G.T.bmain hobj hints hlen hr hF hb
 rcases hq x hx with z|⟨d,r⟩
 ·rw [z] at e;cases e
 ·exact PySem.W.tab_of G.T KX r e
theorem Sub.refl (st:AH):Sub st st:=fun i _=>.inl rfl
theorem Tmp.app {st g:AH} {Q:EK} {v:PV} (h:v.bel st.length=true) (q:Q v st):Tmp st Q v (st++g):=⟨st,g,rfl,rfl,Sub.refl st,h,q⟩
theorem ar1 {P:List Value→Prop} (h:∀a,P [a]) (us:List Value) (hl:us.length=1):P us:=by
 match us,hl with
 | [a],_=>exact h a
theorem ar2 {P:List Value→Prop} (h:∀a b,P [a,b]) (us:List Value) (hl:us.length=2):P us:=by
 match us,hl with
 | [a,b],_=>exact h a b
theorem ar3 {P:List Value→Prop} (h:∀a b c,P [a,b,c]) (us:List Value) (hl:us.length=3):P us:=by
 match us,hl with
 | [a,b,c],_=>exact h a b c
theorem ar4 {P:List Value→Prop} (h:∀a b c d,P [a,b,c,d]) (us:List Value) (hl:us.length=4):P us:=by
 match us,hl with
 | [a,b,c,d],_=>exact h a b c d
end FW
set_option Elab.async false
set_option linter.all false
set_option maxRecDepth 100000
set_option maxHeartbeats 1000000
namespace FW
open PySem PySem.Spec PyProof.Rows L2 HX
section
variable {P:Program} {w:World} {K:PySem.W.Frag} {mg:Str→Option Value} {base:Heap} {c:Cfg} {Γ:Nat→FSp}
theorem xX {x:Str} {st:Stmt} {ps:List Str} {k:Nat} (F:At K mg x st ps):Has P w K mg base k x ps (ax K fun _ _ _=>False):=by
 obtain ⟨f,fd,Ff,m,b⟩:=F.ex
 exact ⟨f,fd,⟨fun vs H Q E ⟨_,_,_,_,_,z⟩=>z.elim,fun A outer s H args us vs Q E _ _ _ _ ⟨_,_,_,_,_,z⟩=>z.elim⟩,m,Ff.kp,b⟩
theorem Gc {CX:CXT} {k:Nat} {f:Addr} {name qual:Str} {params:Arguments} {body:List Stmt} {scope:Scope} {dV kV doc pm cdv ct oc:Value} {an od:Option Addr}
  {osl:Array (Option Value)} {N ps:List Str} {A:Around} {outer:List Env} {s:Shared} {H:Hp} {args:Args} {us:List Value} {vs:List V} {Q:VK} {E:XK}
  (lk:K.lookup f=some ⟨oc,od,.func (PySem.W.fnOf name qual params body scope dV kV doc pm an cdv ct),osl⟩) (hcd:PySem.W.codeIn K cdv qual=true) (S:ai N ps scope)
  (hl:vs.length=ps.length) (hr:Room (k+1) A) (e0:qc P w K mg base A outer s H) (hb:BindsTo s (PySem.W.fnOf name qual params body scope dV kV doc pm an cdv ct) args (ps.zip us)) (r:Vals vs us)
  (hbody:Room k (A.deeper (envOfC qual scope s.heap.objs.size f cdv))→∃t,PSs (iI CX P w K mg base N qual scope f cdv A outer s H E) body t∧t { nx:=fun _ H'=>Q .non H',rt:=Q } (start N vs) H) :
  codeAny (model P w) A (.call (.ref f) args) (CR CX outer P w H s Q E) s:=by
 have KX:K.In s.heap:=e0.mod.kin.keeps fun b o e=>(e0.bs b o e).1
 have lim:s.heap.NoLimit:=e0.mod.nolimit.keeps fun b o e=>(e0.bs b o e).1
 have hkind:∀y∈ps.zip us,scope.names.lookup y.1=some .local∨(scope.names.lookup y.1=some .cell∧((cellsFrom (s.heap.objs.size+1) scope.names []).lookup y.1).isSome=true):=fun ⟨n,v⟩ hy=>by
  rcases S.par n (List.of_mem_zip hy).1 with q|q
  ·exact .inl q
  ·exact .inr ⟨q,PySem.W.cellsFrom_some _ _ _ (.inl q)⟩
 refine codeAny_call_function hr.depth (KX _ _ lk) rfl S.co S.gen rfl (PySem.W.codeRec_of KX hcd) (hb _ _ _ _ ?_)
 refine wpAny_newFunctionEnv_cells S.kind hkind fun env he s1 x=>?_
 subst he
 refine ⟨lim.keeps x.toInCall.keep,codeAny_func ?_⟩
 obtain ⟨t,ht,hq⟩:=hbody (hr.deeper _)
 have I:L2.Inv (iI CX P w K mg base N qual scope f cdv A outer s H E) [] (start N vs) H s1:=oF S hr.hd e0 hl r x
 refine wpAny_mono (ht [] s1 (start N vs) H _ I hq) (fun fl s' hs=>?_) fun e s' hs=>hs
 have fin:∀ {σ':L2.St} {H':Hp} {v:V} {u:Value},L2.Inv (iI CX P w K mg base N qual scope f cdv A outer s H E) [] σ' H' s'→RelV v u→Q v H'→CE outer P w H s Q u s' :=
  fun {σ' H' v u} J rv q=>⟨v,H',J.os,J.bare,J.base,J.hok,rv,q⟩
 cases fl with
 | ret u =>
  obtain ⟨v,σ',H',J,rv,q⟩:=hs
  exact fin J rv q
 | next =>
  obtain ⟨σ',H',J,q⟩:=hs
  exact fin (v:=V.non) (u:=Value.none) J rfl q
 | brk =>
  obtain ⟨_,_,_,q⟩:=hs
  exact False.elim q
 | cont =>
  obtain ⟨_,_,_,q⟩:=hs
  exact False.elim q
noncomputable def ΓL (Γ:Nat→FSp) (a:Nat) (L:FSp):Nat→FSp:=fun i=>if i=1000 then (fun as st Q=>∃y,as=[.fn a,y]∧L [y] st Q) else Γ i
theorem vV {a:Nat} {L:FSp} (G:bM Γ) (hL:rL L):bM (ΓL Γ a L):=fun f vs st Q Q' h q=>by
 unfold ΓL at q ⊢
 by_cases e:f=1000
 ·rw [if_pos e] at q ⊢
  obtain ⟨y,e,q⟩:=q
  exact ⟨y,e,hL _ _ _ _ h q⟩
 ·rw [if_neg e] at q ⊢
  exact G _ _ _ _ _ h q
theorem DW {a:Nat} {L:FSp}:ΓL Γ a L 1000=fun as st Q=>∃y,as=[.fn a,y]∧L [y] st Q:=if_pos rfl
theorem GI {st:Stmt} {N:List Str} {code:Ss} (F:At K mg "how_many" st ["stair","holds"]) (S:ai N ["stair","holds"] (aa st)) (hN:c.N=N) (hn:c.names=(aa st).names)
  (hc:aD c code (ad st)=true) (G:GOk P w K mg base c Γ) (hlim:c.lim≤1000) (hhm:c.hm=none)
  (h:∀a L,rL L→∀as st Q,C5 a L as st Q→ay (ΓL Γ a L) code (frame N.length as) st (ag st Q)):xJ P w K mg base c.lim:=by
 obtain ⟨f,fd,Ff,m,b⟩:=F.ex
 obtain ⟨oc,od,kV,doc,pm,an,cdv,ct,osl,rfl,lk,hcd⟩:=Ff.ex
 refine ⟨f,_,m,Ff.kp,b,fun a L hL A outer s H args us vs Q hr e0 hb r LH ⟨m0,st',as,r1,r2,q⟩=>?_⟩
 have hlen:vs.length=(["stair","holds"]:List Str).length:=by
  obtain ⟨xs,g,rfl,_⟩:=id q
  rw [←r1.len]
  rfl
 have GL:GOk P w K mg base c (ΓL Γ a L):=⟨fun f x hf e=>by
  have:ΓL Γ a L f=Γ f:=if_neg (by omega)
  rw [this]
  exact G.fn f x hf e,G.blt,G.gl,vV G.mono hL⟩
 refine Gc lk hcd S hlen hr e0 hb r fun hroom=>?_
 have C:=qy (x:="how_many") (f:=f) (cdv:=cdv) (A:=A) (s:=s) (E:=E0) (H:=H) (outer:=outer) (Γ:=ΓL Γ a L) S hN hn hroom GL (fun _ {pins σ H2 s2 b u v Q} I rv hs=>?_) fun k z=>by rw [hhm] at z;cases z
 ·have T:=jq C code _ hc
  exact ⟨_,PSs.nox T,m0,frame N.length as,st',jk r1,r2,aT GL.mono code (by
   exact ⟨fun ρ st2 k m' H' σ' e r f=>dH r2 k m' H' .non e r (R_non.mpr rfl),fun v st2 k=>dH r2 k,fun _ _ k=>k.elim,fun _ _ k=>k.elim⟩) (h a L hL as st' _ q)⟩
 ·obtain ⟨m1,st1,bs,q1,q2,q3⟩:=hs
  rw [DW] at q3
  obtain ⟨y,rfl,q3⟩:=q3
  rw [Rs_cons',Rs_cons',Rs_nil,R_fn] at q1
  obtain ⟨q4,q5,_⟩:=q1
  cases q4
  obtain ⟨z1,z2⟩:=LH _ _ s2 H2 u v Q hroom I.env0 I.base rv ⟨m1,st1,[y],by rw [Rs_cons',Rs_nil];exact ⟨q5,rfl⟩,q2,q3⟩
  refine ⟨z1,wpAny_call (codeAny_mono z2 fun r s' hq=>?_)⟩
  cases r with
  | error e=>exact False.elim hq
  | ok fl =>
   cases fl with
   | ret u=>exact I.after hq
   | next=>exact False.elim hq
   | brk=>exact False.elim hq
   | cont=>exact False.elim hq
theorem v6 {x:Str} {st:Stmt} {N ps:List Str} {sp:FSp} {code:Ss} {f c0 T:Addr} {oc:Value} {od an:Option Addr} {osl:Array (Option Value)} {kV doc pm cdv ct:Value}
  (a:PySem.W.nsIn K mainGlobals x=some (some (.ref f))) (l:K.lookup f=some ⟨oc,od,.func (PySem.W.fnOf x x (aj st) (ad st) (aa st) .none kV doc pm an cdv ct),osl⟩) (t:PySem.W.tabIn K x=some (c0,T)) (hx:x∈aV) (B:fX K mg base)
  (F:At K mg x st ps) (cc:PySem.W.codeIn K cdv x=true) (hmg:mg x=some (.ref f)) (S:ai N ps (aa st)) (hN:c.N=N) (hn:c.names=(aa st).names)
  (hc:aD c code (ad st)=true) (G:GOk P w K mg base c Γ) (hm:∀k,c.hm=some k→xJ P w K mg base (k+1)) (len:∀as st Q,sp as st Q→as.length=ps.length)
  (h:∀as st Q,sp as st Q→ay Γ code (frame N.length as) st (ag st Q)) (hpc:c.pc=false:=by rfl):Has P w K mg base (c.lim+1) x ps (ax K sp):=by
 have hcv:cdv=.ref c0:=by
  unfold PySem.W.tabIn at t
  rw [a] at t
  simp only [l] at t
  cases cdv with
  | ref c1 =>
   simp only at t
   split at t
   ·split at t
    ·cases t;rfl
    ·cases t
   ·cases t
  | _=>cases t
 subst hcv
 obtain ⟨f',fd,Ff,m,b⟩:=F.ex
 rw [hmg] at m
 cases m
 obtain ⟨oc',od',kV',doc',pm',an',cdv',ct',osl',rfl,lk',hcd'⟩:=Ff.ex
 have e:=lk'.symm.trans l
 refine ⟨f,_,DE lk' hcd' S (fun vs H Q E ⟨m,st,as,r1,r2,q⟩=>by rw [←r1.len];exact len as st _ q) fun A outer s H vs Q E hr ⟨m,st',as,r1,r2,q⟩=>?_,hmg,Ff.kp,b⟩
 have C:=qy (x:=x) (f:=f) (cdv:=cdv') (A:=A) (s:=s) (E:=E) (H:=H) (outer:=outer) (Γ:=Γ) S hN hn hr G (fun z=>by rw [hpc] at z;cases z) fun k z =>
  ⟨hm k z,⟨x,c0,T,hx,t,by
   show cdv'=.ref c0
   injection e with e;injection e with _ _ e3 _;injection e3 with e3;injection e3,rfl,B.hd x hx c0 T t⟩,B.bm⟩
 refine ⟨_,PSs.nox (jq C code _ hc),m,frame N.length as,st',jk r1,r2,aT G.mono code ?_ (h as st' _ q)⟩
 exact ⟨fun ρ st2 k m' H' σ' e r f=>dH r2 k m' H' .non e r (R_non.mpr rfl),fun v st2 k=>dH r2 k,fun _ _ k=>k.elim,fun _ _ k=>k.elim⟩
theorem BN {x:Str} {f c0 T:Addr} {oc:Value} {od an:Option Addr} {osl:Array (Option Value)} {as:Arguments} {b:List Stmt} {sc:Scope} {dV kV doc pm ct o1:Value} {o2:Option Addr} {o3:Array (Option Value)} {vs:Array Value}
  (a:PySem.W.nsIn K mainGlobals x=some (some (.ref f))) (l:K.lookup f=some ⟨oc,od,.func (PySem.W.fnOf x x as b sc dV kV doc pm an (.ref c0) ct),osl⟩) (tc:K.lookup c0=some ⟨o1,o2,.fields vs,o3⟩) (tv:vs[11]?=some (.ref T)) :
  PySem.W.tabIn K x=some (c0,T):=by
 unfold PySem.W.tabIn
 rw [a]
 simp only [l,tc,tv]
theorem Gh {x:Str} (z:PySem.W.nsIn K mainGlobals x=some none):PySem.W.tabIn K x=none:=by
 unfold PySem.W.tabIn
 rw [z]
theorem C7 (h:∀x∈aV,PySem.W.tabIn K x=none∨∃c T,PySem.W.tabIn K x=some (c,T)∧K.lookup T=none∧∀y∈aV,y≠x→∀d,PySem.W.tabIn K y≠some (d,T)):Dy K:=⟨fun x hx c T e=>by
 rcases h x hx with z|⟨c',T',z,n,u⟩
 ·rw [z] at e;cases e
 ·rw [z] at e
  cases e
  exact ⟨n,fun y hy d ed=>Classical.byContradiction fun q=>u y hy q d ed⟩⟩
theorem ke {g:PV→Bool} {xs:List PV} {k:Nat} (h1:∀i,i<k→g (xs.getD i .non)=true) (h2:∀i,k≤i→i<xs.length→g (xs.getD i .non)=false):∀ {n lo hi:Nat},lo≤k→k≤hi→hi≤xs.length→hi-lo≤n→og g xs n lo hi=k
 | 0,lo,hi,a,b,c,d=>by unfold og;omega
 | n+1,lo,hi,a,b,c,d=>by
  unfold og
  by_cases q:lo<hi
  ·rw [if_pos q]
   by_cases z:(lo+hi)/2<k
   ·rw [if_pos (h1 _ z)]
    exact ke h1 h2 (by omega) b c (by omega)
   ·rw [if_neg (by rw [h2 _ (by omega) (by omega)];exact Bool.false_ne_true)]
    exact ke h1 h2 a (by omega) (by omega) (by omega)
  ·rw [if_neg q];omega
theorem sw {g:PV→Bool} {xs:List PV} {k:Nat} (hk:k≤xs.length) (h1:∀i,i<k→g (xs.getD i .non)=true) (h2:∀i,k≤i→i<xs.length→g (xs.getD i .non)=false):bsr g xs=k :=
 ke h1 h2 (Nat.zero_le _) hk (Nat.le_refl _) (by omega)
end
end FW
set_option Elab.async false
set_option linter.all false
set_option maxRecDepth 100000
set_option maxHeartbeats 1000000
namespace FW
open PySem PySem.Spec PyProof.Rows L2 HX
section
variable {Γ:Nat→FSp} {ρ:Fr} {st:AH} {Q:EK} {D:bn} {a b c:E} {es:Es}
noncomputable def aft (Γ:Nat→FSp) (ss:Ss) (D:bn):bn:={ D with nx:=fun ρ' st'=>ay Γ ss ρ' st' D }
noncomputable def LD (I:Fr→AH→Prop) (D:bn):bn:={ nx:=I,ct:=I,bk:=D.nx,rt:=D.rt }
noncomputable def Ez (Γ:Nat→FSp) (t:Tg) (b:Ss) (chk:AH→Prop) (D:bn) (xs:List PV) (ρ:Fr) (st:AH):Prop:=pK chk (fun x ρ' st' D'=>dw Γ t x ρ' st' fun ρ2 st2=>ay Γ b ρ2 st2 D') D xs ρ st
noncomputable def GA (Γ:Nat→FSp) (c:E) (b:Ss) (D:bn) (ρ:Fr) (st:AH):Prop:=∃n,eI (wpT Γ c) (ay Γ b) D n ρ st
noncomputable def wE (Γ:Nat→FSp) (elt:E) (tg:Tg) (ifs:Es) (chk:AH→Prop) (ρ:Fr) (xs:List PV) (st:AH) (Q:LK):Prop :=
 eF chk (fun x st2 k=>dw Γ tg x ρ st2 fun ρ' st3=>hZ Γ ifs ρ' st3 fun c st4=>if c=true then wpE Γ elt ρ' st4 fun v st5=>k (some v) st5 else k none st4) xs [] st Q
theorem vF {ss:Ss}:(aft Γ ss D).nx ρ st=ay Γ ss ρ st D:=rfl
theorem s_ {ss:Ss} {v:PV}:(aft Γ ss D).rt v st=D.rt v st:=rfl
theorem uh {ss:Ss}:(aft Γ ss D).bk ρ st=D.bk ρ st:=rfl
theorem t3 {ss:Ss}:(aft Γ ss D).ct ρ st=D.ct ρ st:=rfl
theorem pF {ss:Ss}:(aft Γ ss D).rt=D.rt:=rfl
theorem zD {I:Fr→AH→Prop}:(LD I D).nx ρ st=I ρ st:=rfl
theorem Bg {I:Fr→AH→Prop}:(LD I D).ct ρ st=I ρ st:=rfl
theorem yL {I:Fr→AH→Prop}:(LD I D).bk ρ st=D.nx ρ st:=rfl
theorem A2 {I:Fr→AH→Prop} {v:PV}:(LD I D).rt v st=D.rt v st:=rfl
theorem uY {I:Fr→AH→Prop}:(LD I D).rt=D.rt:=rfl
theorem yC {st0:AH}:(ag st0 Q).nx ρ st=Ret st0 Q .non st:=rfl
theorem AD {st0:AH} {v:PV}:(ag st0 Q).rt v st=Ret st0 Q v st:=rfl
theorem tJ {st0:AH}:(ag st0 Q).rt=Ret st0 Q:=rfl
theorem lF {s s2:S} {ss:Ss}:ay Γ (.cons s (.cons s2 ss)) ρ st D=wpS Γ s ρ st (aft Γ (.cons s2 ss) D):=rfl
theorem pH {x:Ss}:wpS Γ (.whileS c x) ρ st D=GA Γ c x D ρ st:=rfl
theorem Bo {t:Tg} {it:It} {x:Ss}:wpS Γ (.forS t it x) ρ st D=iW Γ it ρ st fun xs chk st1=>Ez Γ t x chk D xs ρ st1:=rfl
theorem tG {tg:Tg} {it:It} {ifs:Es} {nt:List Str} {caps:List Nat}:wpE Γ (.comp a tg it ifs nt caps) ρ st Q=iW Γ it ρ st fun xs chk st1 =>
  xs.length<100000∧wE Γ a tg ifs chk (nt.map (fun _=>none)++caps.map fun i=>(ρ[i]?).join) xs st1 fun vs st2=>Q (.ref st2.length) (st2++[.lst vs]):=rfl
theorem kF (G:bM Γ) {t:Tg} {b:Ss} {chk:AH→Prop} {D:bn} (I:Nat→Fr→AH→Prop) {xs:List PV} {ρ:Fr} {st:AH} (h0:I 0 ρ st)
  (hs:∀i x ρ st,xs[i]?=some x→I i ρ st→chk st∧dw Γ t x ρ st (fun ρ2 st2=>ay Γ b ρ2 st2 (LD (I (i+1)) D)))
  (hd:∀ρ st,I xs.length ρ st→chk st∧D.nx ρ st):Ez Γ t b chk D xs ρ st:=by
 have key:∀(k i:Nat) (ρ:Fr) (st:AH),i+k=xs.length→I i ρ st→pK chk (fun x ρ' st' D'=>dw Γ t x ρ' st' fun ρ2 st2=>ay Γ b ρ2 st2 D') D (xs.drop i) ρ st:=by
  intro k
  induction k with
  | zero =>
   intro i ρ st hi h
   have:i=xs.length:=by omega
   subst this
   rw [List.drop_length]
   exact hd ρ st h
  | succ k ih =>
   intro i ρ st hi h
   have hlt:i<xs.length:=by omega
   rw [List.drop_eq_getElem_cons hlt]
   obtain ⟨h1,h2⟩:=hs i xs[i] ρ st (by simp [hlt]) h
   refine ⟨h1,br G t (fun ρ2 st2 k2=>aT G b ?_ k2) h2⟩
   exact ⟨fun ρ3 st3 z=>ih (i+1) ρ3 st3 (by omega) z,fun _ _ z=>z,fun _ _ z=>z,fun ρ3 st3 z=>ih (i+1) ρ3 st3 (by omega) z⟩
 have:=key xs.length 0 ρ st (by omega) h0
 rwa [List.drop_zero] at this
theorem iu {c:Fr→AH→BK→Prop} {body:Fr→AH→bn→Prop} {D:bn} (hc:∀ρ st Q Q',(∀b st,Q b st→Q' b st)→c ρ st Q→c ρ st Q') (hb:∀ρ st D D',jw D D'→body ρ st D→body ρ st D') :
  ∀ {n k:Nat} {ρ:Fr} {st:AH},n≤k→eI c body D n ρ st→eI c body D k ρ st
 | 0,k,ρ,st,_,h=>h.elim
 | n+1,0,ρ,st,hk,h=>absurd hk (by omega)
 | n+1,k+1,ρ,st,hk,h=>by
  refine hc _ _ _ _ (fun b st1 z=>?_) h
  cases b with
  | false=>exact z
  | true =>
   rw [if_pos rfl] at z ⊢
   refine hb _ _ _ _ ?_ z
   exact ⟨fun _ _ z=>iu hc hb (by omega) z,fun _ _ z=>z,fun _ _ z=>z,fun _ _ z=>iu hc hb (by omega) z⟩
theorem gL (G:bM Γ) {c:E} {b:Ss} {D:bn} (I:Nat→Fr→AH→Prop) {n:Nat} {ρ:Fr} {st:AH} (h0:I n ρ st)
  (hs:∀n ρ st,I n ρ st→wpT Γ c ρ st (fun k st1=>if k=true then ay Γ b ρ st1 (LD (fun ρ' st'=>∃m,m<n∧I m ρ' st') D) else D.nx ρ st1)):GA Γ c b D ρ st:=by
 have hc:∀ρ st Q Q',(∀b st,Q b st→Q' b st)→wpT Γ c ρ st Q→wpT Γ c ρ st Q':=fun _ _ _ _ hk z=>aQ G c hk z
 have hb:∀ρ st D D',jw D D'→ay Γ b ρ st D→ay Γ b ρ st D':=fun _ _ _ _ hk z=>aT G b hk z
 have key:∀(k n:Nat),n<k→∀(ρ:Fr) (st:AH),I n ρ st→eI (wpT Γ c) (ay Γ b) D (n+1) ρ st:=by
  intro k
  induction k with
  | zero=>intro n hn;exact absurd hn (by omega)
  | succ k ih =>
   intro n hn ρ st h
   refine hc _ _ _ _ (fun q st1 z=>?_) (hs n ρ st h)
   cases q with
   | false=>exact z
   | true =>
    rw [if_pos rfl] at z ⊢
    refine hb _ _ _ _ ?_ z
    exact ⟨fun ρ' st' ⟨m,hm,z⟩=>iu hc hb (by omega) (ih m (by omega) ρ' st' z),fun _ _ z=>z,fun _ _ z=>z,fun ρ' st' ⟨m,hm,z⟩=>iu hc hb (by omega) (ih m (by omega) ρ' st' z)⟩
 exact ⟨_,key (n+1) n (by omega) ρ st h0⟩
end
section
variable {Γ:Nat→FSp}
theorem jx (G:bM Γ) {elt:E} {tg:Tg} {ifs:Es} {chk:AH→Prop} {ρ:Fr} {xs:List PV} {st:AH} {Q:LK} (I:Nat→List PV→AH→Prop) (h0:I 0 [] st)
  (hs:∀i x acc st,xs[i]?=some x→I i acc st→chk st∧dw Γ tg x ρ st fun ρ' st3=>hZ Γ ifs ρ' st3 fun c st4=>if c=true then wpE Γ elt ρ' st4 fun v st5=>I (i+1) (acc++[v]) st5 else I (i+1) acc st4)
  (hd:∀acc st,I xs.length acc st→chk st∧Q acc st):wE Γ elt tg ifs chk ρ xs st Q:=by
 have key:∀(k i:Nat) (acc:List PV) (st:AH),i+k=xs.length→I i acc st→eF chk (fc Γ elt tg ifs ρ) (xs.drop i) acc st Q:=by
  intro k
  induction k with
  | zero =>
   intro i acc st hi h
   have:i=xs.length:=by omega
   subst this
   rw [List.drop_length]
   exact hd acc st h
  | succ k ih =>
   intro i acc st hi h
   have hlt:i<xs.length:=by omega
   rw [List.drop_eq_getElem_cons hlt]
   obtain ⟨h1,h2⟩:=hs i xs[i] acc st (by simp [hlt]) h
   refine ⟨h1,br G tg (fun ρ2 st2 k2=>cF G ifs (fun c st4 k4=>?_) k2) h2⟩
   cases c with
   | true=>rw [if_pos rfl] at k4 ⊢;exact ac G elt (fun v st5 z=>ih (i+1) _ st5 (by omega) z) k4
   | false=>rw [if_neg Bool.false_ne_true] at k4 ⊢;simpa using ih (i+1) _ st4 (by omega) k4
 have:=key xs.length 0 [] st (by omega) h0
 rw [List.drop_zero] at this
 exact this
theorem comp_map (G:bM Γ) {elt:E} {i:Nat} {chk:AH→Prop} {ρ:Fr} {xs:List PV} {st:AH} {Q:LK} (f:PV→PV) (hc:chk st) (hs:∀x∈xs,wpE Γ elt (ρ.set i (some x)) st fun v st'=>v=f x∧st'=st) (q:Q (xs.map f) st):wE Γ elt (.name i) .nil chk ρ xs st Q:=by
 refine jx G (fun j acc s=>s=st∧acc=(xs.take j).map f) ⟨rfl,by simp⟩ ?_ ?_
 ·rintro j x acc s hx ⟨rfl,rfl⟩
  refine ⟨hc,?_⟩
  simp only [fY,ph]
  rw [if_pos trivial]
  refine ac G elt (fun v st5 z=>?_) (hs x (List.mem_of_getElem? hx))
  obtain ⟨rfl,rfl⟩:=z
  refine ⟨rfl,?_⟩
  rw [List.take_add_one,hx]
  simp
 ·rintro acc s ⟨rfl,rfl⟩
  rw [List.take_length]
  exact ⟨hc,q⟩
end
section
variable {st:AH} {Q:EK} {i j:Int} {n k:Nat} {xs ys:List PV} {x y v:PV} {b b':Bool} {s s':Str} {kB:Bool→Prop} {BQ:BK}
theorem B0:iJ .Add (.int i) (.int j) st Q=Q (.int (i+j)) st:=rfl
theorem BL:iJ .Sub (.int i) (.int j) st Q=Q (.int (i-j)) st:=rfl
theorem Ak:iJ .Mult (.int i) (.int j) st Q=(CMB i j∧Q (.int (i*j)) st):=rfl
theorem Az:iJ .FloorDiv (.int i) (.int j) st Q=(CBig j∧Q (.int (i/j)) st):=rfl
theorem yP:iJ .Mod (.int i) (.int j) st Q=(0<j∧Q (.int (i % j)) st):=rfl
theorem zj:iJ .Pow (.int i) (.int j) st Q=(vE i j∧Q (.int (i ^ j.toNat)) st):=rfl
theorem uZ:iJ .Add (.ref n) (.ref k) st Q=∃xs ys,st[n]?=some (.lst xs)∧st[k]?=some (.lst ys)∧xs.length+ys.length≤100000∧Q (.ref st.length) (st++[.lst (xs++ys)]):=rfl
theorem uf:iJ .Mult (.ref n) (.int i) st Q=∃xs,st[n]?=some (.lst xs)∧-(2 ^ 63)≤i∧i<2 ^ 63∧xs.length*i.toNat≤100000∧Q (.ref st.length) (st++[.lst (List.replicate i.toNat xs).flatten]):=rfl
theorem u9 {a b:Str}:iJ .Add (.str a) (.str b) st Q=(a.length+b.length≤100000∧Q (.str (a++b)) st):=rfl
theorem vB:iJ .Add (.tup xs) (.tup ys) st Q=(xs.length+ys.length≤100000∧Q (.tup (xs++ys)) st):=rfl
theorem Ew:eV .Eq x y st Q=eqW st x y fun k=>Q (.bl k) st:=rfl
theorem Fb:eV .NotEq x y st Q=eqW st x y fun k=>Q (.bl (!k)) st:=rfl
theorem yT:eV .Is x .non st Q=Q (.bl (ic x)) st:=rfl
theorem AT:eV .Is x (.bl b) st Q=Q (.bl (ld b x)) st:=rfl
theorem tW:eV .IsNot x .non st Q=Q (.bl (!ic x)) st:=rfl
theorem uA:eV .IsNot x (.bl b) st Q=Q (.bl (!ld b x)) st:=rfl
theorem F4:eV .Lt (.int i) (.int j) st Q=Q (.bl (decide (i<j))) st:=rfl
theorem F6:eV .LtE (.int i) (.int j) st Q=Q (.bl (decide (i≤j))) st:=rfl
theorem Eb:eV .Gt (.int i) (.int j) st Q=Q (.bl (decide (j<i))) st:=rfl
theorem Gy:eV .GtE (.int i) (.int j) st Q=Q (.bl (decide (j≤i))) st:=rfl
theorem Bd:eqW st (.int i) (.int j) kB=kB (decide (i=j)):=rfl
theorem yO:eqW st (.bl b) (.bl b') kB=kB (decide (b=b')):=rfl
theorem yX:eqW st (.str s) (.str s') kB=kB (decide (s=s')):=rfl
theorem ki:ic .non=true:=rfl
theorem mC:ic (.bl b)=false:=rfl
theorem kC:ic (.int i)=false:=rfl
theorem ky:ic (.str s)=false:=rfl
theorem kg:ic (.tup xs)=false:=rfl
theorem jW:ic (.ref n)=false:=rfl
theorem o8:ld true (.bl true)=true:=rfl
theorem pQ:ld true (.bl false)=false:=rfl
theorem pZ:ld false (.bl true)=false:=rfl
theorem pN:ld false (.bl false)=true:=rfl
theorem mq:ld b (.int i)=false:=rfl
theorem m9:ld b .non=false:=rfl
theorem mR:ld b (.tup xs)=false:=rfl
theorem j9:bJ st (.tup xs)=some xs:=rfl
theorem kK:bJ st (.rdl xs)=some xs:=rfl
theorem iU:b8 st (.rdl xs)=some xs:=rfl
theorem bK (h:st[n]?=some (.lst xs)):b8 st (.ref n)=some xs:=by simp [b8,h]
theorem af (h:st[n]?=some (.lst xs)):bJ st (.ref n)=some xs:=by simp [bJ,b8,h]
theorem kI:eK st .non=some "NoneType":=rfl
theorem mJ:eK st (.bl b)=some "bool":=rfl
theorem jQ:eK st (.int i)=some "int":=rfl
theorem jU:eK st (.str s)=some "str":=rfl
theorem kv:eK st (.tup xs)=some "tuple":=rfl
theorem jV:eK st (.rdl xs)=some "list":=rfl
theorem Af {z:Str}:ixW (.str z) (.int i) st Q=(z.length≤100000∧∃c,atI z.cps.toList i=some c∧Q (.str ⟨#[c]⟩) st):=rfl
theorem yG:ixW (.tup xs) (.int i) st Q=∃v,atI xs i=some v∧Q v st:=propext ⟨fun ⟨ys,e,q⟩=>by cases e;exact q,fun q=>⟨xs,rfl,q⟩⟩
theorem zu:ixW (.rdl xs) (.int i) st Q=∃v,atI xs i=some v∧Q v st:=propext ⟨fun ⟨ys,e,q⟩=>by cases e;exact q,fun q=>⟨xs,rfl,q⟩⟩
theorem Aa:ixW (.ref n) (.int i) st Q=∃xs,bJ st (.ref n)=some xs∧∃v,atI xs i=some v∧Q v st:=rfl
theorem rH:atI (x::xs) 0=some x:=bC (j:=0) rfl
theorem ou:atI (x::y::xs) 1=some y:=bC (j:=1) rfl
theorem Ae:atI (x::y::v::xs) 2=some v:=bC (j:=2) rfl
theorem yB {u:PV}:atI (x::y::v::u::xs) 3=some u:=bC (j:=3) rfl
theorem zf {lo hi:Option Int}:slW (.tup xs) lo hi st Q=Q (.tup (vm xs lo hi)) st:=rfl
theorem Bp {lo hi:Option Int}:slW (.rdl xs) lo hi st Q=Q (.ref st.length) (st++[.lst (vm xs lo hi)]):=by simp [slW,b8]
theorem Av {lo hi:Option Int} {z:Str}:slW (.str z) lo hi st Q=(z.length≤100000∧Q (.str (CD z lo hi)) st):=rfl
theorem Ao {lo hi:Option Int}:slW (.ref n) lo hi st Q=∃xs,b8 st (.ref n)=some xs∧Q (.ref st.length) (st++[.lst (vm xs lo hi)]):=rfl
theorem tj {z:Str}:fU .len [.str z] st Q=(z.length≤100000∧Q (.int z.length) st):=rfl
theorem EO {a b:Str}:eV .In (.str a) (.str b) st Q=Q (.bl (!(Builtin.Str.occurrences b a 0 b.length 1).isEmpty)) st:=rfl
theorem yA:eV .In (.int i) (.tup xs) st Q=∃ns:List Int,xs=ns.map PV.int∧Q (.bl (ns.any fun j=>j == i)) st:=rfl
theorem A0:eV .NotIn (.int i) (.tup xs) st Q=∃ns:List Int,xs=ns.map PV.int∧Q (.bl (!(ns.any fun j=>j == i))) st:=rfl
theorem tO:fU .len [.tup xs] st Q=Q (.int xs.length) st:=propext ⟨fun ⟨ys,e,q⟩=>by cases e;exact q,fun q=>⟨xs,rfl,q⟩⟩
theorem tX:fU .len [.rdl xs] st Q=Q (.int xs.length) st:=propext ⟨fun ⟨ys,e,q⟩=>by cases e;exact q,fun q=>⟨xs,rfl,q⟩⟩
theorem t7:fU .len [.ref n] st Q=∃xs,bJ st (.ref n)=some xs∧Q (.int xs.length) st:=rfl
theorem z9:fU .max2 [.int i,.int j] st Q=Q (.int (if i<j then j else i)) st:=rfl
theorem na:fU .divmod [.int i,.int j] st Q=(CBig j∧Q (.tup [.int (i/j),.int (i % j)]) st):=rfl
theorem tH:fU .tuple1 [.tup xs] st Q=Q (.tup xs) st:=propext ⟨fun ⟨ys,e,q⟩=>by cases e;exact q,fun q=>⟨xs,rfl,q⟩⟩
theorem uB:fU .tuple1 [.ref n] st Q=∃xs,bJ st (.ref n)=some xs∧Q (.tup xs) st:=rfl
theorem yy:fU .abs1 [.int i] st Q=Q (.int i.natAbs) st:=rfl
theorem AC:rN .append (.ref n) [v] st Q=∃xs,st[n]?=some (.lst xs)∧xs.length<100000∧Q .non (st.set n (.lst (xs++[v]))):=rfl
theorem Bs:rN .pop0 (.ref n) [] st Q=∃xs v,st[n]?=some (.lst xs)∧xs[xs.length-1]?=some v∧Q v (st.set n (.lst xs.dropLast)):=rfl
theorem Er:dY (.bl b) st BQ=BQ b st:=rfl
theorem EX:dY .non st BQ=BQ false st:=rfl
theorem EZ:dY (.int i) st BQ=BQ (i != 0) st:=rfl
theorem Ek:dY (.tup xs) st BQ=BQ (!xs.isEmpty) st:=by simp [dY,bJ]
theorem Gq:dY (.ref n) st BQ=∃xs,bJ st (.ref n)=some xs∧BQ (!xs.isEmpty) st:=rfl
theorem AF {kS:AH→Prop}:qU (.ref n) (.int j) v st kS=∃xs,st[n]?=some (.lst xs)∧∃q,ixN xs.length j=some q∧kS (st.set n (.lst (xs.set q v))):=rfl
theorem t4:nC .Add (.int i) (.int j) st Q=Q (.int (i+j)) st:=rfl
theorem vI:nC .Add (.ref n) (.ref k) st Q=∃xs ys,st[n]?=some (.lst xs)∧st[k]?=some (.lst ys)∧xs.length+ys.length≤100000∧Q (.ref n) (st.set n (.lst (xs++ys))):=rfl
theorem uT:nC .Sub (.int i) (.int j) st Q=Q (.int (i-j)) st:=rfl
end
theorem vt:((0:Nat):Int)=0:=rfl
theorem vO:((1:Nat):Int)=1:=rfl
theorem um:((2:Nat):Int)=2:=rfl
theorem ur:((3:Nat):Int)=3:=rfl
theorem tQ:((4:Nat):Int)=4:=rfl
theorem tU:((5:Nat):Int)=5:=rfl
theorem vn:((6:Nat):Int)=6:=rfl
theorem eY {s g:AH} {k:Nat}:(s++g)[s.length+k]?=g[k]?:=by
 rw [List.getElem?_append_right (Nat.le_add_right _ _),Nat.add_sub_cancel_left]
theorem gT {s g:AH}:(s++g)[s.length]?=g[0]?:=eY (k:=0)
theorem aA {st:AH} {c:Cell}:(st++[c])[st.length]?=some c:=by simp
theorem au {st g:AH} {n:Nat} {c:Cell} (h:st[n]?=some c):(st++g)[n]?=some c:=by
 rw [List.getElem?_append_left (List.getElem?_eq_some_iff.mp h).1]
 exact h
theorem bp {st:AH} {n:Nat} {c:Cell} (h:st[n]?=some c):n<st.length:=(List.getElem?_eq_some_iff.mp h).1
end FW
set_option Elab.async false
set_option linter.all false
set_option maxRecDepth 100000
set_option maxHeartbeats 4000000
namespace My
open PySem L2 HX FW
noncomputable def top (i:Nat):Stmt:=PySem.Challenge.pw_hourstairs_k44_whole_then_over_lesser.main.body.getD i (.Pass ⟨0,0,0,0⟩)
theorem lK {n d:Nat} (h:0<d) (h2:d<2 ^ 8000):CBig (Nat.gcd n d:Nat):=by
 have h3:0<Nat.gcd n d:=Nat.gcd_pos_of_pos_right _ h
 have h4:Nat.gcd n d≤d:=Nat.gcd_le_right _ h
 refine ⟨by omega,?_⟩
 have h5:((Nat.gcd n d:Nat):Int).natAbs=Nat.gcd n d:=rfl
 rw [h5]
 have:Nat.gcd n d<2 ^ 8000:=Nat.lt_of_le_of_lt h4 h2
 have:=(Nat.log2_lt (by omega)).mpr this
 omega
noncomputable abbrev pc (q r:Int):Cell:=.lst [.int q,.int r]
theorem Gb {q r:Int} {k:Nat}:(pc q r).bel k=true:=by simp [pc,Cell.bel,PV.bels,PV.bel]
theorem GN:vE 10 18:=⟨by decide,by decide,by decide⟩
theorem vQ {j:Int} (h:0<j) (h2:j<2 ^ 200):CBig j:=CBig.of h (Int.lt_of_lt_of_le h2 (by
 have:((2:Int) ^ 200)=((2 ^ 200:Nat):Int):=by rw [Int.natCast_pow];rfl
 have e2:((2:Int) ^ 8999)=((2 ^ 8999:Nat):Int):=by rw [Int.natCast_pow];rfl
 rw [this,e2]
 exact Int.ofNat_le.mpr (Nat.pow_le_pow_right (by decide) (by decide))))
theorem wa {i j:Int} (h1:-(2 ^ 64)<i) (h2:i<2 ^ 64):CMB i j:=.inr (.inl ⟨h1,h2⟩)
theorem Hj {i j:Int} (h1:-(2 ^ 64)<j) (h2:j<2 ^ 64):CMB i j:=.inr (.inr ⟨h1,h2⟩)
theorem Bk {ns:List Int} {k:Nat} (h:k<ns.length):atI (ns.map PV.int) (k:Int)=some (.int (ns.getD k 0)):=by
 refine bC ?_
 rw [List.getElem?_map,List.getD_eq_getElem?_getD,List.getElem?_eq_getElem h]
 rfl
theorem Dd {n d:Nat} (h:0<d):Nat.gcd (n/Nat.gcd n d) (d/Nat.gcd n d)=1:=Nat.gcd_div_gcd_div_gcd_of_pos_right h
theorem Ck {n d:Nat} (h:0<d):0<d/Nat.gcd n d:=Nat.div_pos (Nat.gcd_le_right _ h) (Nat.gcd_pos_of_pos_right _ h)
theorem uG (n d:Nat):n/Nat.gcd n d*d=n*(d/Nat.gcd n d):=by
 obtain ⟨a,ha⟩:=Nat.gcd_dvd_left n d
 obtain ⟨b,hb⟩:=Nat.gcd_dvd_right n d
 by_cases h:Nat.gcd n d=0
 ·rw [h,Nat.div_zero,Nat.div_zero,Nat.zero_mul,Nat.mul_zero]
 ·have e1:n/Nat.gcd n d=a:=by rw [Nat.div_eq_of_eq_mul_right (by omega) ha]
  have e2:d/Nat.gcd n d=b:=by rw [Nat.div_eq_of_eq_mul_right (by omega) hb]
  rw [e1,e2]
  generalize Nat.gcd n d=g at *
  subst ha hb
  rw [←Nat.mul_assoc,Nat.mul_comm a g]
theorem uJ {n i:Nat} {v:PV} (h:(dZ 0 ((n:Int).toNat))[i]?=some v):v=.int i∧i<n:=by
 unfold dZ at h
 rw [List.getElem?_map] at h
 have hi:i<n:=by
  by_cases hi:i<n
  ·exact hi
  ·rw [List.getElem?_eq_none (by simp;omega)] at h;cases h
 rw [List.getElem?_range (by simpa using hi)] at h
 cases h
 exact ⟨by simp,hi⟩
theorem oW {st:AH} {a b:Int}:mK st (.tup [.int a,.int b])=some (.tuple [.int a,.int b]):=by simp [mK,PV.toD,PV.toDs]
theorem kP (a b:Int):SeqAt.shaped (.tuple [.int a,.int b])=true:=by
 simp [SeqAt.shaped,PyData.canLay0,PyData.canLayAll0,PyData.depth,PyData.depthAll]
theorem Bm (a b c d:Int):PyData.eqv (.tuple [.int a,.int b]) (.tuple [.int c,.int d])=(decide (a=c) && decide (b=d)):=by
 simp [PyData.eqv,PyData.eqvAll,Bool.beq_eq_decide_eq]
theorem Ax {st:AH} {a b c d:Int} {k:Bool→Prop} (h:k (decide (a=c) && decide (b=d))):eqW st (.tup [.int a,.int b]) (.tup [.int c,.int d]) k :=
 ⟨_,_,oW,oW,kP _ _,kP _ _,by rw [Bm];exact h⟩
noncomputable def aZ:FSp:=fun as st Q=>∃n d:Nat,as=[.int n,.int d]∧Q (.int (Nat.gcd n d:Nat)) st
theorem iF {as st Q Q'} (h:∀v st,Q v st→Q' v st) (q:aZ as st Q):aZ as st Q':=by obtain ⟨n,d,e,q⟩:=q;exact ⟨n,d,e,h _ _ q⟩
theorem i5 {as st Q} (q:aZ as st Q):as.length=2:=by obtain ⟨n,d,rfl,_⟩:=q;rfl
noncomputable abbrev low (n d:Nat):PV:=.tup [.int (n/Nat.gcd n d:Nat),.int (d/Nat.gcd n d:Nat)]
noncomputable def dc:FSp:=fun as st Q=>∃n d:Nat,as=[.int n,.int d]∧0<d∧d<2 ^ 8000∧Q (low n d) st
theorem nQ {as st Q Q'} (h:∀v st,Q v st→Q' v st) (q:dc as st Q):dc as st Q':=by obtain ⟨n,d,e,h1,h2,q⟩:=q;exact ⟨n,d,e,h1,h2,h _ _ q⟩
theorem pb {as st Q} (q:dc as st Q):as.length=2:=by obtain ⟨n,d,rfl,_⟩:=q;rfl
noncomputable abbrev fr (p:Nat × Nat):PV:=.tup [.int p.1,.int p.2]
noncomputable def aG (n d:Nat):Nat × Nat:=(n/Nat.gcd n d,d/Nat.gcd n d)
theorem xS (n d:Nat):low n d=fr (aG n d):=rfl
theorem tS (n d:Nat):(aG n d).1*d=n*(aG n d).2:=uG n d
theorem cP {n d:Nat} (h:0<d):0<(aG n d).2:=Ck h
theorem sF {n d:Nat} (h:0<d):Nat.gcd (aG n d).1 (aG n d).2=1:=Dd h
theorem gI (n d:Nat):(aG n d).1≤n:=Nat.div_le_self _ _
theorem gD (n d:Nat):(aG n d).2≤d:=Nat.div_le_self _ _
theorem Fv {a b c d:Nat} (h1:Nat.gcd a b=1) (h2:Nat.gcd c d=1) (hb:0<b) (hd:0<d) (h:a*d=c*b):a=c∧b=d:=by
 have hbd:b ∣ d:=by
  have:b ∣ a*d:=⟨c,by rw [h,Nat.mul_comm]⟩
  exact Nat.Coprime.dvd_of_dvd_mul_left (show Nat.Coprime b a by unfold Nat.Coprime;rw [Nat.gcd_comm];exact h1) this
 have hdb:d ∣ b:=by
  have:d ∣ c*b:=⟨a,by rw [←h,Nat.mul_comm]⟩
  exact Nat.Coprime.dvd_of_dvd_mul_left (show Nat.Coprime d c by unfold Nat.Coprime;rw [Nat.gcd_comm];exact h2) this
 have e:b=d:=Nat.dvd_antisymm hbd hdb
 subst e
 exact ⟨Nat.eq_of_mul_eq_mul_right hb h,rfl⟩
noncomputable def xT (p q:Nat × Nat):Nat × Nat:=aG (p.1*q.2+q.1*p.2) (p.2*q.2)
noncomputable def kj (p q:Nat × Nat):Nat × Nat:=aG (p.1*q.2-q.1*p.2) (p.2*q.2)
noncomputable def sG (p q:Nat × Nat):Nat × Nat:=aG (p.1*q.1) (p.2*q.2)
structure Cop (p:Nat × Nat):Prop where
 pos:0<p.2
 one:Nat.gcd p.1 p.2=1
theorem Cop.low {n d:Nat} (h:0<d):Cop (aG n d):=⟨cP h,sF h⟩
theorem Cop.ext {p q:Nat × Nat} (h1:Cop p) (h2:Cop q) (h:p.1*q.2=q.1*p.2):p=q:=by
 obtain ⟨e1,e2⟩:=Fv h1.one h2.one h1.pos h2.pos h
 exact Prod.ext e1 e2
theorem zY {p q:Nat × Nat} (hp:0<p.2) (hq:0<q.2):Cop (xT p q):=.low (Nat.mul_pos hp hq)
theorem cO {p q:Nat × Nat} (hp:0<p.2) (hq:0<q.2):Cop (kj p q):=.low (Nat.mul_pos hp hq)
theorem jM {p q:Nat × Nat} (hp:0<p.2) (hq:0<q.2):Cop (sG p q):=.low (Nat.mul_pos hp hq)
structure Sz (k:Nat) (p:Nat × Nat):Prop where
 a:p.1<2 ^ k
 b:p.2<2 ^ k
 pos:0<p.2
theorem Sz.mono {j k:Nat} {p:Nat × Nat} (h:Sz j p) (hk:j≤k):Sz k p:=⟨Nat.lt_of_lt_of_le h.a (Nat.pow_le_pow_right (by decide) hk),Nat.lt_of_lt_of_le h.b (Nat.pow_le_pow_right (by decide) hk),h.pos⟩
theorem bf {a b j k:Nat} (h1:a<2 ^ j) (h2:b<2 ^ k):a*b<2 ^ (j+k):=by
 rw [Nat.pow_add]
 by_cases hb:b=0
 ·subst hb
  simp only [Nat.mul_zero]
  exact Nat.mul_pos (by omega) (by omega)
 ·exact Nat.lt_of_lt_of_le (Nat.mul_lt_mul_of_pos_right h1 (by omega)) (Nat.mul_le_mul_left _ (Nat.le_of_lt h2))
theorem Dc {p q:Nat × Nat} {j k:Nat} (hp:Sz j p) (hq:Sz k q):Sz (j+k+1) (xT p q):=by
 have h1:=bf hp.a hq.b
 have h2:=bf hq.a hp.b
 rw [Nat.add_comm k j] at h2
 have h3:=bf hp.b hq.b
 have h4:(2:Nat) ^ (j+k+1)=2*2 ^ (j+k):=by rw [Nat.pow_succ,Nat.mul_comm]
 refine ⟨Nat.lt_of_le_of_lt (gI _ _) (by omega),Nat.lt_of_le_of_lt (gD _ _) (by omega),cP (Nat.mul_pos hp.pos hq.pos)⟩
theorem iy {p q:Nat × Nat} {j k:Nat} (hp:Sz j p) (hq:Sz k q):Sz (j+k) (kj p q):=by
 have h1:=bf hp.a hq.b
 have h3:=bf hp.b hq.b
 refine ⟨Nat.lt_of_le_of_lt (gI _ _) (by omega),Nat.lt_of_le_of_lt (gD _ _) (by omega),cP (Nat.mul_pos hp.pos hq.pos)⟩
noncomputable def HY (p q:Nat × Nat):Prop:=p.1*q.2<q.1*p.2
noncomputable instance (p q:Nat × Nat):Decidable (HY p q):=inferInstanceAs (Decidable (_<_))
mutual
noncomputable def aW:Nat→PV→Bool
 | _,.int _=>true
 | _,.non=>true
 | 0,.tup _=>false
 | n+1,.tup xs=>cw n xs
 | _,.bl _=>false
 | _,.str _=>false
 | _,.ref _=>false
 | _,.rdl _=>false
 | _,.fn _=>false
noncomputable def cw:Nat→List PV→Bool
 | _,[]=>true
 | n,x::xs=>aW n x && cw n xs
end
mutual
theorem gP:∀ {n:Nat} {v:PV},aW n v=true→∃d,v.toD=some d∧d.canLay0=true∧d.depth≤n+1
 | n,.int i,_=>⟨.int i,by simp [PV.toD],by simp [PyData.canLay0],by simp [PyData.depth]⟩
 | n,.non,_=>⟨.none,by simp [PV.toD],by simp [PyData.canLay0],by simp [PyData.depth]⟩
 | 0,.tup xs,h=>by simp [aW] at h
 | n+1,.tup xs,h=>by
  rw [aW] at h
  obtain ⟨ds,e,h1,h2⟩:=bZ h
  exact ⟨.tuple ds,by simp [PV.toD,e],by simp [PyData.canLay0,h1],by simp [PyData.depth];omega⟩
 | n,.bl _,h=>by cases n <;> simp [aW] at h
 | n,.str _,h=>by cases n <;> simp [aW] at h
 | n,.ref _,h=>by cases n <;> simp [aW] at h
 | n,.rdl _,h=>by cases n <;> simp [aW] at h
 | n,.fn _,h=>by cases n <;> simp [aW] at h
theorem bZ:∀ {n:Nat} {vs:List PV},cw n vs=true→∃ds,PV.toDs vs=some ds∧PyData.canLayAll0 ds=true∧PyData.depthAll ds≤n+1
 | n,[],_=>⟨[],by simp [PV.toDs],by simp [PyData.canLayAll0],by simp [PyData.depthAll]⟩
 | n,x::xs,h=>by
  rw [cw,Bool.and_eq_true] at h
  obtain ⟨d,e1,h1,h2⟩:=gP h.1
  obtain ⟨ds,e2,h3,h4⟩:=bZ h.2
  exact ⟨d::ds,by simp [PV.toDs,e1,e2],by simp [PyData.canLayAll0,h1,h3],by simp [PyData.depthAll];omega⟩
end
mutual
theorem oy:∀ {n:Nat} {v w:PV} {d e:PyData},aW n v=true→aW n w=true→v.toD=some d→w.toD=some e→PyData.eqv d e=v.same w
 | n,.int i,w,d,e,_,hw,hd,he=>by
  simp [PV.toD] at hd
  subst hd
  cases w with
  | int j=>simp [PV.toD] at he;subst he;simp [PyData.eqv,PV.same,Bool.beq_eq_decide_eq]
  | non=>simp [PV.toD] at he;subst he;simp [PyData.eqv,PV.same]
  | tup ys =>
   cases n with
   | zero=>simp [aW] at hw
   | succ n =>
    rw [aW] at hw
    obtain ⟨ds,e1,h1,h2⟩:=bZ hw
    simp [PV.toD,e1] at he
    subst he
    simp [PyData.eqv,PV.same]
  | _=>cases n <;> simp [aW] at hw
 | n,.non,w,d,e,_,hw,hd,he=>by
  simp [PV.toD] at hd
  subst hd
  cases w with
  | int j=>simp [PV.toD] at he;subst he;simp [PyData.eqv,PV.same]
  | non=>simp [PV.toD] at he;subst he;simp [PyData.eqv,PV.same]
  | tup ys =>
   cases n with
   | zero=>simp [aW] at hw
   | succ n =>
    rw [aW] at hw
    obtain ⟨ds,e1,h1,h2⟩:=bZ hw
    simp [PV.toD,e1] at he
    subst he
    simp [PyData.eqv,PV.same]
  | _=>cases n <;> simp [aW] at hw
 | 0,.tup xs,w,d,e,hv,_,_,_=>by simp [aW] at hv
 | n+1,.tup xs,w,d,e,hv,hw,hd,he=>by
  rw [aW] at hv
  obtain ⟨ds,e1,h1,h2⟩:=bZ hv
  simp [PV.toD,e1] at hd
  subst hd
  cases w with
  | int j=>simp [PV.toD] at he;subst he;simp [PyData.eqv,PV.same]
  | non=>simp [PV.toD] at he;subst he;simp [PyData.eqv,PV.same]
  | tup ys =>
   rw [aW] at hw
   obtain ⟨es,e2,h3,h4⟩:=bZ hw
   simp [PV.toD,e2] at he
   subst he
   simp only [PyData.eqv,PV.same]
   exact mF hv hw e1 e2
  | _=>simp [aW] at hw
 | n,.bl _,_,_,_,h,_,_,_=>by cases n <;> simp [aW] at h
 | n,.str _,_,_,_,h,_,_,_=>by cases n <;> simp [aW] at h
 | n,.ref _,_,_,_,h,_,_,_=>by cases n <;> simp [aW] at h
 | n,.rdl _,_,_,_,h,_,_,_=>by cases n <;> simp [aW] at h
 | n,.fn _,_,_,_,h,_,_,_=>by cases n <;> simp [aW] at h
theorem mF:∀ {n:Nat} {vs ws:List PV} {ds es:List PyData},cw n vs=true→cw n ws=true→PV.toDs vs=some ds→PV.toDs ws=some es→PyData.eqvAll ds es=PV.sames vs ws
 | n,[],ws,ds,es,_,hw,hd,he=>by
  simp [PV.toDs] at hd
  subst hd
  cases ws with
  | nil=>simp [PV.toDs] at he;subst he;simp [PyData.eqvAll,PV.sames]
  | cons y ys =>
   obtain ⟨zs,e1,h1,h2⟩:=bZ hw
   rw [e1] at he
   cases he
   cases es with
   | nil =>
    rw [PV.toDs] at e1
    split at e1 <;> simp at e1
   | cons=>simp [PyData.eqvAll,PV.sames]
 | n,x::xs,ws,ds,es,hv,hw,hd,he=>by
  rw [cw,Bool.and_eq_true] at hv
  obtain ⟨d1,a1,b1,c1⟩:=gP hv.1
  obtain ⟨ds1,a2,b2,c2⟩:=bZ hv.2
  simp [PV.toDs,a1,a2] at hd
  subst hd
  cases ws with
  | nil=>simp [PV.toDs] at he;subst he;simp [PyData.eqvAll,PV.sames]
  | cons y ys =>
   rw [cw,Bool.and_eq_true] at hw
   obtain ⟨d3,a3,b3,c3⟩:=gP hw.1
   obtain ⟨ds4,a4,b4,c4⟩:=bZ hw.2
   simp [PV.toDs,a3,a4] at he
   subst he
   rw [PyData.eqvAll,PV.sames,oy hv.1 hw.1 a1 a3,mF hv.2 hw.2 a2 a4]
end
theorem rA {st:AH} {v:PV} {d:PyData} (h:v.toD=some d):mK st v=some d:=by
 cases v with
 | ref n=>simp [PV.toD] at h
 | _=>exact h
theorem ij {st:AH} {n:Nat} {v w:PV} {k:Bool→Prop} (hn:n≤60) (hv:aW n v=true) (hw:aW n w=true) (h:k (v.same w)):eqW st v w k:=by
 obtain ⟨d,e1,h1,h2⟩:=gP hv
 obtain ⟨e,e2,h3,h4⟩:=gP hw
 have big:∃d e,mK st v=some d∧mK st w=some e∧SeqAt.shaped d=true∧SeqAt.shaped e=true∧k (PyData.eqv d e):=by
  refine ⟨d,e,rA e1,rA e2,?_,?_,?_⟩
  ·simp [SeqAt.shaped,h1];omega
  ·simp [SeqAt.shaped,h3];omega
  ·rw [oy hv hw e1 e2];exact h
 cases v with
 | int i =>
  cases w with
  | int j =>
   show k (decide (i=j))
   simp only [PV.same,Bool.beq_eq_decide_eq] at h
   exact h
  | _=>exact big
 | bl i=>cases n <;> simp [aW] at hv
 | str i=>cases n <;> simp [aW] at hv
 | _=>exact big
mutual
theorem eZ:∀(v:PV),v.same v=true
 | .non=>by simp [PV.same]
 | .bl _=>by simp [PV.same]
 | .int _=>by simp [PV.same]
 | .str _=>by simp [PV.same]
 | .ref _=>by simp [PV.same]
 | .fn _=>by simp [PV.same]
 | .tup xs=>by rw [PV.same];exact gm xs
 | .rdl xs=>by rw [PV.same];exact gm xs
theorem gm:∀(vs:List PV),PV.sames vs vs=true
 | []=>by simp [PV.sames]
 | x::xs=>by rw [PV.sames,eZ x,gm xs];rfl
end
theorem d_ {n:Nat}:∀ {vs:List PV},(∀v∈vs,aW n v=true)→cw n vs=true
 | [],_=>by rw [cw]
 | x::xs,h=>by rw [cw,h x (by simp),d_ fun v hv=>h v (by simp [hv])];rfl
theorem oM {n:Nat} {vs:List PV} (h:∀v∈vs,aW n v=true):aW (n+1) (.tup vs)=true:=by rw [aW];exact d_ h
noncomputable def io:FSp:=fun as st Q=>∃p q,as=[fr p,fr q]∧Sz 3000 p∧Sz 3000 q∧Q (fr (xT p q)) st
theorem wS {as st Q Q'} (h:∀v st,Q v st→Q' v st) (q:io as st Q):io as st Q':=by obtain ⟨a,b,e,h1,h2,q⟩:=q;exact ⟨a,b,e,h1,h2,h _ _ q⟩
theorem Au {as st Q} (q:io as st Q):as.length=2:=by obtain ⟨n,d,rfl,_⟩:=q;rfl
noncomputable def iC:FSp:=fun as st Q=>∃p q,as=[fr p,fr q]∧Sz 3000 p∧Sz 3000 q∧q.1*p.2≤p.1*q.2∧Q (fr (kj p q)) st
theorem xU {as st Q Q'} (h:∀v st,Q v st→Q' v st) (q:iC as st Q):iC as st Q':=by obtain ⟨a,b,e,h1,h2,h3,q⟩:=q;exact ⟨a,b,e,h1,h2,h3,h _ _ q⟩
theorem yW {as st Q} (q:iC as st Q):as.length=2:=by obtain ⟨n,d,rfl,_⟩:=q;rfl
noncomputable def fK:FSp:=fun as st Q=>∃p q,as=[fr p,fr q]∧Sz 3000 p∧Sz 3000 q∧Q (fr (sG p q)) st
theorem uo {as st Q Q'} (h:∀v st,Q v st→Q' v st) (q:fK as st Q):fK as st Q':=by obtain ⟨a,b,e,h1,h2,q⟩:=q;exact ⟨a,b,e,h1,h2,h _ _ q⟩
theorem xz {as st Q} (q:fK as st Q):as.length=2:=by obtain ⟨n,d,rfl,_⟩:=q;rfl
noncomputable def dg:FSp:=fun as st Q=>∃p q,as=[fr p,fr q]∧Sz 3000 p∧Sz 3000 q∧Q (.bl (decide (p.1*q.2<q.1*p.2))) st
theorem nU {as st Q Q'} (h:∀v st,Q v st→Q' v st) (q:dg as st Q):dg as st Q':=by obtain ⟨a,b,e,h1,h2,q⟩:=q;exact ⟨a,b,e,h1,h2,h _ _ q⟩
theorem pP {as st Q} (q:dg as st Q):as.length=2:=by obtain ⟨n,d,rfl,_⟩:=q;rfl
theorem fV {j k:Nat} (h:j≤k):(2:Nat) ^ j≤2 ^ k:=Nat.pow_le_pow_right (by decide) h
theorem fO {a b:Nat} (h1:a<2 ^ 3000) (h2:b<2 ^ 3000):CMB (a:Int) (b:Int):=.inl ⟨Nat.lt_of_lt_of_le h1 (fV (by decide)),Nat.lt_of_lt_of_le h2 (fV (by decide))⟩
theorem Fg {a b:Nat} (h1:a<2 ^ 3000) (h2:b<2 ^ 3000):a*b<2 ^ 8000:=Nat.lt_of_lt_of_le (bf h1 h2) (fV (by decide))
theorem i_ {st:AH} {p q:Nat × Nat} {k:Bool→Prop} (h:k (decide (p=q))):eqW st (fr p) (fr q) k:=by
 refine Ax ?_
 have:(decide ((p.1:Int)=q.1) && decide ((p.2:Int)=q.2))=decide (p=q):=by
  rw [Bool.eq_iff_iff]
  simp only [Bool.and_eq_true,decide_eq_true_eq]
  constructor
  ·rintro ⟨h1,h2⟩;exact Prod.ext (by omega) (by omega)
  ·rintro rfl;exact ⟨rfl,rfl⟩
 rw [this]
 exact h
noncomputable def PK (q r:Int):Prop:=0≤q∧0≤r∧r<8589934592
noncomputable def Pot (st:AH) (p:Nat):Prop:=∃q r,st[p]?=some (pc q r)∧PK q r
theorem Pot.lt {st:AH} {p:Nat} (h:Pot st p):p<st.length:=by obtain ⟨q,r,e,_⟩:=h;exact bp e
theorem Pot.app {st g:AH} {p:Nat} (h:Pot st p):Pot (st++g) p:=by obtain ⟨q,r,e,z⟩:=h;exact ⟨q,r,au e,z⟩
structure Gr (st:AH) (p:Nat) (st':AH):Prop where
 len:st.length≤st'.length
 old:∀i,i<st.length→i≠p→st'[i]?=st[i]?
 pot:Pot st' p
 was:p<st.length
theorem Gr.refl {st:AH} {p:Nat} (h:Pot st p):Gr st p st:=⟨Nat.le_refl _,fun _ _ _=>rfl,h,h.lt⟩
theorem Gr.trans {st s1 s2:AH} {p:Nat} (a:Gr st p s1) (b:Gr s1 p s2):Gr st p s2:=⟨Nat.le_trans a.len b.len,fun i h1 h2=>(b.old i (Nat.lt_of_lt_of_le h1 a.len) h2).trans (a.old i h1 h2),b.pot,a.was⟩
theorem Gr.app {st s1 g:AH} {p:Nat} (a:Gr st p s1):Gr st p (s1++g) :=
 ⟨by rw [List.length_append];exact Nat.le_trans a.len (Nat.le_add_right _ _),fun i h1 h2=>by rw [List.getElem?_append_left (Nat.lt_of_lt_of_le h1 a.len)];exact a.old i h1 h2,a.pot.app,a.was⟩
theorem Gr.set {st s1:AH} {p:Nat} (a:Gr st p s1) {q r:Int} (z:PK q r):Gr st p (s1.set p (pc q r)) :=
 ⟨by rw [List.length_set];exact a.len,fun i h1 h2=>by rw [List.getElem?_set_ne (Ne.symm h2)];exact a.old i h1 h2,⟨q,r,List.getElem?_set_self a.pot.lt,z⟩,a.was⟩
theorem Gr.setN {st s1:AH} {p n:Nat} {c:Cell} (a:Gr st p s1) (h:st.length≤n):Gr st p (s1.set n c):=by
 have hn:n≠p:=fun e=>by have:=a.was;omega
 refine ⟨by rw [List.length_set];exact a.len,fun i h1 h2=>by rw [List.getElem?_set_ne (by omega)];exact a.old i h1 h2,?_,a.was⟩
 obtain ⟨q,r,e,z⟩:=a.pot
 exact ⟨q,r,by rw [List.getElem?_set_ne hn];exact e,z⟩
theorem Gr.get {st s1:AH} {p n:Nat} {c:Cell} (a:Gr st p s1) (h:st[n]?=some c) (hn:n≠p):s1[n]?=some c:=(a.old n (bp h) hn).trans h
theorem Gr.tmp {st s1:AH} {p:Nat} {v:PV} {Q:EK} (a:Gr st p s1) (hv:v.bel st.length=true) (k:∀s2,Gr st p s2→s2.length=st.length→Q v s2):Tmp st Q v s1:=by
 have hl:(s1.take st.length).length=st.length:=by rw [List.length_take];exact Nat.min_eq_left a.len
 have hg:∀i,i<st.length→(s1.take st.length)[i]?=s1[i]?:=fun i hi=>by rw [List.getElem?_take_of_lt hi]
 obtain ⟨q,r,e,z⟩:=a.pot
 refine ⟨s1.take st.length,s1.drop st.length,(List.take_append_drop _ _).symm,hl,fun i hi=>?_,hv,k _ ⟨by omega,fun i h1 h2=>(hg i h1).trans (a.old i h1 h2),⟨q,r,(hg p a.was).trans e,z⟩,a.was⟩ hl⟩
 by_cases hp:i=p
 ·subst hp
  exact .inr ⟨pc q r,(hg i a.was).trans e,Gb⟩
 ·exact .inl ((hg i hi).trans (a.old i hi hp))
theorem Fd:vE 10 9:=⟨by decide,by decide,by decide⟩
theorem GX:vE 10 11:=⟨by decide,by decide,by decide⟩
theorem wp {L:List PV} {P:PV→Prop} (h:∀v∈L,P v) {y:Int} (y0:0≤y) (y1:y<L.length):∃v,atI L y=some v∧P v:=by
 obtain ⟨m,rfl⟩:∃m:Nat,y=m:=⟨y.toNat,by omega⟩
 have hm:m<L.length:=by omega
 exact ⟨L[m],bC (List.getElem?_eq_getElem hm),h _ (List.getElem_mem hm)⟩
theorem Gr.ne {st s1:AH} {p:Nat} (a:Gr st p s1):s1.length≠p:=fun e=>by have:=a.pot.lt;omega
theorem fC {xs:List PV} {v:PV}:atI (xs++[v]) (-1)=some v:=by
 have e:(-1+((xs.length:Int)+1)).toNat=xs.length:=by omega
 simp only [atI,ixN,List.length_append,List.length_singleton]
 simp
 rw [if_pos (by omega),e]
 simp
theorem Ig {st:AH} {n m:Nat} {xs ys:List PV} {Q:EK} (h1:st[n]?=some (.lst xs)) (h2:st[m]?=some (.lst ys)) (h3:xs.length+ys.length≤100000) (q:Q (.ref st.length) (st++[.lst (xs++ys)])):iJ .Add (.ref n) (.ref m) st Q:=⟨xs,ys,h1,h2,h3,q⟩
noncomputable def val (p:Nat × Nat):Rat:=(p.1:Rat)/(p.2:Rat)
theorem aF {d:Nat} (h:0<d):(0:Rat)<(d:Rat):=by
 have:((0:Nat):Rat)<(d:Rat):=Rat.natCast_lt_natCast.mpr h
 simpa using this
theorem aw {n d:Nat} (h:0<d):val (aG n d)=(n:Rat)/(d:Rat):=by
 have c:=tS n d
 have p:=cP (n:=n) h
 unfold val
 generalize aG n d=z at *
 have e:(z.1:Rat)*d=n*z.2:=by
  have:=congrArg (fun k:Nat=>(k:Rat)) c
  simpa using this
 have p1:=aF p
 have p2:=aF h
 grind
theorem aI {p:Nat × Nat} (hp:0<p.2):0≤val p:=by
 unfold val
 rw [←Rat.not_lt,Rat.div_lt_iff (aF hp),Rat.zero_mul,Rat.not_lt]
 exact Rat.natCast_nonneg
theorem lE {p q:Nat × Nat} (hp:0<p.2) (hq:0<q.2):val (sG p q)=val p*val q:=by
 unfold sG
 rw [aw (Nat.mul_pos hp hq)]
 unfold val
 have p1:=aF hp
 have p2:=aF hq
 simp only [Rat.natCast_mul]
 grind
theorem B5 {p q:Nat × Nat} (hp:0<p.2) (hq:0<q.2):val (xT p q)=val p+val q:=by
 unfold xT
 rw [aw (Nat.mul_pos hp hq)]
 unfold val
 have p1:=aF hp
 have p2:=aF hq
 simp only [Rat.natCast_mul,Rat.natCast_add]
 grind
theorem je {p q:Nat × Nat} (hp:0<p.2) (hq:0<q.2):p.1*q.2<q.1*p.2↔val p<val q:=by
 have p1:=aF hp
 have p2:=aF hq
 have e:(p.1*q.2<q.1*p.2)↔((p.1:Rat)*q.2<q.1*p.2):=by
  rw [←Rat.natCast_lt_natCast]
  simp
 rw [e]
 unfold val
 rw [Rat.div_lt_iff p1]
 have e2:(q.1:Rat)/q.2*p.2=q.1*p.2/q.2:=by grind
 rw [e2,Rat.lt_div_iff p2]
theorem j_ {p q:Nat × Nat} (hp:0<p.2) (hq:0<q.2):p.1*q.2≤q.1*p.2↔val p≤val q:=by
 rw [←Nat.not_lt,←Rat.not_lt,je hq hp]
theorem dE {p q:Nat × Nat} (hp:0<p.2) (hq:0<q.2) (h:val q≤val p):val (kj p q)=val p-val q:=by
 have h':=(j_ hq hp).mpr h
 unfold kj
 rw [aw (Nat.mul_pos hp hq)]
 unfold val
 have p1:=aF hp
 have p2:=aF hq
 obtain ⟨e,he⟩:∃e,p.1*q.2=q.1*p.2+e:=⟨p.1*q.2-q.1*p.2,by omega⟩
 have e2:p.1*q.2-q.1*p.2=e:=by omega
 rw [e2]
 have e3:(p.1:Rat)*q.2=q.1*p.2+e:=by
  have:=congrArg (fun k:Nat=>(k:Rat)) he
  simpa using this
 simp only [Rat.natCast_mul]
 grind
theorem bH {p q:Nat × Nat} (hp:Cop p) (hq:Cop q) (h:val p=val q):p=q:=by
 refine hp.ext hq ?_
 have a:=(j_ hp.pos hq.pos).mpr (by rw [h];exact Rat.le_refl)
 have b:=(j_ hq.pos hp.pos).mpr (by rw [h];exact Rat.le_refl)
 omega
theorem val_nought:val (0,1)=0:=by unfold val;grind
theorem B8 {n:Nat}:val (n,1)=n:=by unfold val;simp;grind
structure Pc where
 e:Nat × Nat
 l:Nat × Nat
 h:Nat × Nat
noncomputable abbrev Pc.E (p:Pc):Rat:=val p.e
noncomputable abbrev Pc.L (p:Pc):Rat:=val p.l
noncomputable abbrev Pc.H (p:Pc):Rat:=val p.h
noncomputable abbrev Pc.mg (a p:Pc):Pc:=⟨p.e,a.l,p.h⟩
noncomputable def gB (b:Nat × Nat) (a p:Pc):Bool:=decide (p.l=a.h) && decide (sG (kj a.h a.l) (kj p.e a.e)=sG (kj p.h p.l) (kj a.e b))
noncomputable def aJ (b:Nat × Nat) (a:Pc):List Pc→List Pc
 | []=>[a]
 | p::r=>if gB b a p=true then aJ b (a.mg p) r else a::aJ a.e p r
noncomputable def bc:List Pc→List Pc
 | []=>[]
 | p::r=>aJ (0,1) p r
structure Pc.Ok (p:Pc):Prop where
 e:Cop p.e
 l:Cop p.l
 h:Cop p.h
noncomputable def Ch (b:Rat):List Pc→Prop
 | []=>True
 | p::r=>p.Ok∧b<p.E∧p.L≤p.H∧Ch p.E r
noncomputable def Sl (b:Rat) (p:Pc) (s:Rat):Prop:=p.H-p.L=s*(p.E-b)
theorem Sl.ex {b:Rat} {p:Pc} (h:b<p.E):∃s,Sl b p s:=⟨(p.H-p.L)/(p.E-b),by unfold Sl;grind⟩
theorem i6 {b:Nat × Nat} {a p:Pc} {s:Rat} (hb:Cop b) (ha:a.Ok) (hp:p.Ok) (h1:val b≤a.E) (h2:a.E<p.E) (h3:a.L≤a.H) (h4:p.L≤p.H) (hs:Sl a.E p s):gB b a p=true↔p.l=a.h∧Sl (val b) a s:=by
 have q1:=dE ha.h.pos ha.l.pos h3
 have q2:=dE hp.e.pos ha.e.pos (Rat.le_of_lt h2)
 have q3:=dE hp.h.pos hp.l.pos h4
 have q4:=dE ha.e.pos hb.pos h1
 have c1:=cO ha.h.pos ha.l.pos
 have c2:=cO hp.e.pos ha.e.pos
 have c3:=cO hp.h.pos hp.l.pos
 have c4:=cO ha.e.pos hb.pos
 have e1:=lE c1.pos c2.pos
 have e2:=lE c3.pos c4.pos
 rw [q1,q2] at e1
 rw [q3,q4] at e2
 unfold gB
 rw [Bool.and_eq_true,decide_eq_true_eq,decide_eq_true_eq]
 unfold Sl at *
 constructor
 ·rintro ⟨g1,g2⟩
  refine ⟨g1,?_⟩
  have:=congrArg val g2
  rw [e1,e2] at this
  have w:p.E-a.E≠0:=by grind
  have:(a.H-a.L-s*(a.E-val b))*(p.E-a.E)=0:=by grind
  have:=Rat.mul_eq_zero.mp this
  grind
 ·rintro ⟨g1,g2⟩
  refine ⟨g1,bH (jM c1.pos c2.pos) (jM c3.pos c4.pos) ?_⟩
  rw [e1,e2]
  grind
theorem sj {a p:Pc} (ha:a.Ok) (hp:p.Ok):(a.mg p).Ok:=⟨hp.e,ha.l,hp.h⟩
noncomputable def NG:Nat × Nat→List Pc→Prop
 | _,[]=>True
 | _,[_]=>True
 | b,a::p::r=>gB b a p=false∧NG a.e (p::r)
theorem v8:∀ {b:Nat × Nat} {a:Pc} {r:List Pc},Cop b→a.Ok→val b<a.E→a.L≤a.H→Ch a.E r→∃e' h' r',aJ b a r=⟨e',a.l,h'⟩::r'∧Cop e'∧Cop h'∧a.E≤val e'∧a.L≤val h'∧∀s,Sl (val b) a s→val h'-a.L=s*(val e'-val b)
 | b,a,[],hb,ha,h1,h3,_=>⟨a.e,a.h,[],rfl,ha.e,ha.h,Rat.le_refl,h3,fun s hs=>hs⟩
 | b,a,p::r,hb,ha,h1,h3,⟨hp,h2,h4,hr⟩=>by
  rw [aJ]
  by_cases g:gB b a p=true
  ·rw [if_pos g]
   obtain ⟨s,hs⟩:=Sl.ex h2
   obtain ⟨g1,g2⟩:=(i6 hb ha hp (Rat.le_of_lt h1) h2 h3 h4 hs).mp g
   have ev:p.L=a.H:=by unfold Pc.L Pc.H;rw [g1]
   obtain ⟨e',h',r',k1,k2,k3,k4,k5,k6⟩:=v8 (a:=a.mg p) hb (sj ha hp) (by show val b<p.E;grind) (by show a.L≤p.H;grind) hr
   refine ⟨e',h',r',k1,k2,k3,?_,k5,fun t ht=>?_⟩
   ·show a.E≤val e'
    have:p.E≤val e':=k4
    grind
   ·refine k6 t ?_
    unfold Sl at *
    show p.H-a.L=t*(p.E-val b)
    have:(s-t)*(a.E-val b)=0:=by grind
    have:=Rat.mul_eq_zero.mp this
    grind
  ·rw [if_neg g]
   exact ⟨a.e,a.h,_,rfl,ha.e,ha.h,Rat.le_refl,h3,fun s hs=>hs⟩
theorem zk:∀ {b:Nat × Nat} {a:Pc} {r:List Pc},Cop b→a.Ok→val b≤a.E→a.L≤a.H→Ch a.E r→NG b (aJ b a r)
 | b,a,[],hb,ha,h1,h3,_=>trivial
 | b,a,p::r,hb,ha,h1,h3,⟨hp,h2,h4,hr⟩=>by
  rw [aJ]
  by_cases g:gB b a p=true
  ·rw [if_pos g]
   obtain ⟨s,hs⟩:=Sl.ex h2
   obtain ⟨g1,g2⟩:=(i6 hb ha hp h1 h2 h3 h4 hs).mp g
   have ev:p.L=a.H:=by unfold Pc.L Pc.H;rw [g1]
   exact zk hb (sj ha hp) (by show val b≤p.E;grind) (by show a.L≤p.H;grind) hr
  ·rw [if_neg g]
   have ng:=zk (b:=a.e) (a:=p) ha.e hp (Rat.le_of_lt h2) h4 hr
   obtain ⟨e',h',r',k1,k2,k3,k4,k5,k6⟩:=v8 (b:=a.e) (a:=p) ha.e hp h2 h4 hr
   rw [k1] at ng ⊢
   refine ⟨?_,ng⟩
   rw [Bool.eq_false_iff]
   intro z
   obtain ⟨s,hs⟩:=Sl.ex h2
   have hs':Sl a.E ⟨e',p.l,h'⟩ s:=k6 s hs
   obtain ⟨z1,z2⟩:=(i6 (p:=⟨e',p.l,h'⟩) hb ha ⟨k2,hp.l,k3⟩ h1 (show a.E<val e' by grind) h3 k5 hs').mp z
   exact g ((i6 hb ha hp h1 h2 h3 h4 hs).mpr ⟨z1,z2⟩)
inductive AK:Nat × Nat→List Pc→List Pc→Prop
 | nil {b}:AK b [] []
 | keep {b p r' r}:AK p.e r' r→AK b (p::r') (p::r)
 | cut {b p m c s r' r}:Cop m→Cop c→val b<val m→val m<p.E→p.L≤val c→val c≤p.H→Sl (val b) p s→val c-p.L=s*(val m-val b)→p.H-val c=s*(p.E-val m)→AK p.e r' r→AK b (⟨m,p.l,c⟩::⟨p.e,c,p.h⟩::r') (p::r)
noncomputable def cm (b:Rat):List Pc→Rat→Option Rat
 | [],_=>none
 | p::r,t=>if t≤p.E then some (if b=p.E then p.L else p.L+(p.H-p.L)*((t-b)/(p.E-b))) else cm p.E r t
theorem Hm {b:Rat} {a p:Pc} {r:List Pc} {t s:Rat} (h1:b≤a.E) (h2:a.E<p.E) (h0:b=a.E→a.L=a.H) (hl:p.L=a.H) (hs:Sl a.E p s) (ha:Sl b a s) (ht:b≤t):cm b (a.mg p::r) t=cm b (a::p::r) t:=by
 unfold Sl at *
 simp only [cm]
 have hb:b<p.E:=by grind
 by_cases t1:t≤p.E
 ·rw [if_pos t1,if_neg (show ¬b=p.E by grind)]
  by_cases t2:t≤a.E
  ·rw [if_pos t2]
   by_cases z:b=a.E
   ·rw [if_pos z]
    have:t=b:=by grind
    subst this
    congr 1
    grind
   ·rw [if_neg z]
    congr 1
    have:p.H-a.L=s*(p.E-b):=by grind
    have e1:(p.H-a.L)*((t-b)/(p.E-b))=s*(t-b):=by grind
    have e2:(a.H-a.L)*((t-b)/(a.E-b))=s*(t-b):=by grind
    rw [e1,e2]
  ·rw [if_neg t2,if_pos t1,if_neg (show ¬a.E=p.E by grind)]
   congr 1
   have:p.H-a.L=s*(p.E-b):=by grind
   have e1:(p.H-a.L)*((t-b)/(p.E-b))=s*(t-b):=by grind
   have e2:(p.H-p.L)*((t-a.E)/(p.E-a.E))=s*(t-a.E):=by grind
   rw [e1,e2]
   grind
 ·rw [if_neg t1,if_neg (show ¬t≤a.E by grind),if_neg t1]
theorem Bv:∀ {r:List Pc} {b:Nat × Nat} {a:Pc} {t:Rat},Cop b→a.Ok→val b≤a.E→(val b=a.E→a.L=a.H)→a.L≤a.H→Ch a.E r→val b≤t→cm (val b) (aJ b a r) t=cm (val b) (a::r) t
 | [],b,a,t,hb,ha,h1,h0,h3,_,ht=>rfl
 | p::r,b,a,t,hb,ha,h1,h0,h3,⟨hp,h2,h4,hr⟩,ht=>by
  rw [aJ]
  by_cases g:gB b a p=true
  ·rw [if_pos g]
   obtain ⟨s,hs⟩:=Sl.ex h2
   obtain ⟨g1,g2⟩:=(i6 hb ha hp h1 h2 h3 h4 hs).mp g
   have ev:p.L=a.H:=by unfold Pc.L Pc.H;rw [g1]
   rw [Bv hb (sj ha hp) (by show val b≤p.E;grind) (by show val b=p.E→a.L=p.H;grind) (by show a.L≤p.H;grind) hr ht]
   exact Hm h1 h2 h0 ev hs g2 ht
  ·rw [if_neg g]
   by_cases t1:t≤a.E
   ·simp only [cm,if_pos t1]
   ·have e1:∀X:List Pc,cm (val b) (a::X) t=cm a.E X t:=fun X=>by simp only [cm,if_neg t1]
    rw [e1,e1]
    exact Bv ha.e hp (Rat.le_of_lt h2) (fun z=>by grind) h4 hr (by grind)
noncomputable def Rt (b hh:Rat):List Pc→Prop
 | []=>True
 | p::r=>p.Ok∧b<p.E∧hh≤p.L∧p.L≤p.H∧p.E≤p.H∧Rt p.E p.H r
theorem Rt.ch:∀ {r:List Pc} {b hh:Rat},Rt b hh r→Ch b r
 | [],_,_,_=>trivial
 | p::r,b,hh,⟨h1,h2,h3,h4,h5,h6⟩=>⟨h1,h2,h4,h6.ch⟩
noncomputable def RtF:List Pc→Prop
 | []=>True
 | p::r=>p.Ok∧p.L≤p.H∧p.E≤p.H∧(0=p.E→p.L=p.H)∧Rt p.E p.H r
theorem AX:∀ {r:List Pc} {b:Nat × Nat} {a:Pc} {hh:Rat},Cop b→a.Ok→val b<a.E→hh≤a.L→a.L≤a.H→a.E≤a.H→Rt a.E a.H r→Rt (val b) hh (aJ b a r)
 | [],b,a,hh,hb,ha,h1,h2,h3,h4,_=>⟨ha,h1,h2,h3,h4,trivial⟩
 | p::r,b,a,hh,hb,ha,h1,h2,h3,h4,⟨hp,k1,k2,k3,k4,hr⟩=>by
  rw [aJ]
  by_cases g:gB b a p=true
  ·rw [if_pos g]
   exact AX hb (sj ha hp) (by show val b<p.E;grind) h2 (by show a.L≤p.H;grind) k4 hr
  ·rw [if_neg g]
   exact ⟨ha,h1,h2,h3,h4,AX ha.e hp k1 k2 k3 k4 hr⟩
theorem ib:Cop (0,1):=⟨by decide,by decide⟩
theorem yw:∀ {r:List Pc} {a:Pc},a.Ok→a.L≤a.H→a.E≤a.H→(0=a.E→a.L=a.H)→Rt a.E a.H r→RtF (aJ (0,1) a r)
 | [],a,ha,h1,h2,h3,_=>⟨ha,h1,h2,h3,trivial⟩
 | p::r,a,ha,h1,h2,h3,⟨hp,k1,k2,k3,k4,hr⟩=>by
  have e0:0≤a.E:=aI ha.e.pos
  rw [aJ]
  by_cases g:gB (0,1) a p=true
  ·rw [if_pos g]
   exact yw (sj ha hp) (by show a.L≤p.H;grind) k4 (by show 0=p.E→a.L=p.H;grind) hr
  ·rw [if_neg g]
   exact ⟨ha,h1,h2,h3,AX ha.e hp k1 k2 k3 k4 hr⟩
theorem gK {L:List Pc} (h:RtF L):RtF (bc L):=by
 cases L with
 | nil=>trivial
 | cons a r=>exact yw h.1 h.2.1 h.2.2.1 h.2.2.2.1 h.2.2.2.2
theorem jz {L:List Pc} (h:RtF L):NG (0,1) (bc L):=by
 cases L with
 | nil=>trivial
 | cons a r =>
  have e0:0≤a.E:=aI h.1.e.pos
  exact zk ib h.1 (by rw [val_nought];exact e0) h.2.1 h.2.2.2.2.ch
theorem fE {L:List Pc} {t:Rat} (h:RtF L) (ht:0≤t):cm 0 (bc L) t=cm 0 L t:=by
 cases L with
 | nil=>rfl
 | cons a r =>
  have e0:0≤a.E:=aI h.1.e.pos
  have:=Bv (t:=t) ib h.1 (by rw [val_nought];exact e0) (by rw [val_nought];exact h.2.2.2.1) h.2.1 h.2.2.2.2.ch (by rw [val_nought];exact ht)
  rw [val_nought] at this
  exact this
theorem yz {as st Q Q'} (h:∀v st,Q v st→Q' v st) (q:iM as st Q):iM as st Q':=by obtain ⟨n,e,h1,q⟩:=q;exact ⟨n,e,h1,fun z=>h _ _ (q z)⟩
theorem B7 {as st Q} (q:iM as st Q):as.length=1:=by obtain ⟨n,rfl,_⟩:=q;rfl
noncomputable abbrev pcV (p:Pc):PV:=.tup [fr p.e,fr p.l,fr p.h]
noncomputable abbrev bL (L:List Pc):PV:=.tup (L.map pcV)
structure Pc.Sz (k:Nat) (p:Pc):Prop where
 e:My.Sz k p.e
 l:My.Sz k p.l
 h:My.Sz k p.h
noncomputable def SzL (k:Nat) (L:List Pc):Prop:=∀p∈L,p.Sz k
theorem Pc.Sz.mono {j k:Nat} {p:Pc} (h:p.Sz j) (hk:j≤k):p.Sz k:=⟨h.e.mono hk,h.l.mono hk,h.h.mono hk⟩
theorem SzL.mono {j k:Nat} {L:List Pc} (h:SzL j L) (hk:j≤k):SzL k L:=fun p hp=>(h p hp).mono hk
noncomputable def LOk:List Pc→Prop
 | []=>True
 | p::r=>p.Ok∧p.L≤p.H∧Ch p.E r
theorem RtF.lok {L:List Pc} (h:RtF L):LOk L:=by
 cases L with
 | nil=>trivial
 | cons a r=>exact ⟨h.1,h.2.1,h.2.2.2.2.ch⟩
noncomputable abbrev Un3:=Nat × Nat × Nat
noncomputable abbrev uV (u:Un3):PV:=.tup [.int u.1,.int u.2.1,.int u.2.2]
noncomputable def RU (b hh:Nat):List Un3→Prop
 | []=>True
 | u::r=>b<u.1∧hh≤u.2.1∧u.2.1≤u.2.2∧u.1≤u.2.2∧RU u.1 u.2.2 r
noncomputable def RUF:List Un3→Prop
 | []=>True
 | u::r=>u.2.1≤u.2.2∧u.1≤u.2.2∧(u.1=0→u.2.1=u.2.2)∧RU u.1 u.2.2 r
noncomputable def BdU (N:Nat) (U:List Un3):Prop:=∀u∈U,u.1≤N∧u.2.1≤N∧u.2.2≤N
structure App (U:List Un3) (u:Un3):Prop where
 fst:U=[]→u.2.1≤u.2.2∧u.1≤u.2.2∧(u.1=0→u.2.1=u.2.2)
 nxt:∀v,U.getLast?=some v→v.1<u.1∧v.2.2≤u.2.1∧u.2.1≤u.2.2∧u.1≤u.2.2
noncomputable abbrev av (d:Nat) (u:Un3):Pc:=⟨aG u.1 d,aG u.2.1 d,aG u.2.2 d⟩
noncomputable abbrev Mo (s:FSp):Prop:=∀ {as:List PV} {st:AH} {Q Q':EK},(∀v st,Q v st→Q' v st)→s as st Q→s as st Q'
noncomputable abbrev Ln (s:FSp) (n:Nat):Prop:=∀ {as:List PV} {st:AH} {Q:EK},s as st Q→as.length=n
local macro_rules | `(tactic| walk_at "MO")=>`(tactic| (intro as st Q Q' h q;repeat (first|exact h _ _ q|(obtain ⟨a,q⟩:=q;first|refine Exists.intro a ?_|refine And.intro a ?_)|(intro a;replace q:=q a))))
local macro_rules | `(tactic| walk_at "LN")=>`(tactic| (intro as st Q q;repeat (obtain ⟨a,q⟩:=q;try exact congrArg List.length a)))
noncomputable def eD:FSp:=fun as st Q=>∃b a p,as=[fr b,pcV a,pcV p]∧Sz 1400 b∧a.Sz 1400∧p.Sz 1400∧val b≤a.E∧a.E<p.E∧a.L≤a.H∧p.L≤p.H∧Q (.bl (gB b a p)) st
theorem qL:Mo eD:=by walk_at "MO"
theorem qV:Ln eD 3:=by walk_at "LN"
noncomputable def jB:FSp:=fun as st Q=>∃L,as=[bL L]∧SzL 1400 L∧LOk L∧L.length<20000∧Q (bL (bc L)) st
theorem w4:Mo jB:=by walk_at "MO"
theorem yU:Ln jB 1:=by walk_at "LN"
noncomputable def GV:Option (Nat × Nat)→PV
 | none=>.non
 | some p=>fr p
noncomputable def bgx (L:List Pc):Nat→Nat × Nat
 | 0=>(0,1)
 | i+1=>((L[i]?).map Pc.e).getD (0,1)
noncomputable def stB (L:List Pc):Bool:=@decide (NG (0,1) L) (Classical.propDecidable _)
noncomputable def fF:FSp:=fun as st Q=>∃(j m:Nat) (L:List Pc) (t:Nat × Nat),as=[bL L,fr t]∧(1≤j∧m+4*j+2≤2900)∧RtF L∧SzL j L∧Cop t∧Sz m t∧L.length<10000∧∀o,(∀p,o=some p→Cop p∧Sz (m+4*j+2) p)→cm 0 L (val t)=o.map val→Q (GV o) st
theorem sk:Mo fF:=by walk_at "MO"
theorem ug:Ln fF 2:=by walk_at "LN"
noncomputable def dq:FSp:=fun as st Q=>∃p q:Nat × Nat,as=[fr p,fr q]∧Sz 3000 p∧Sz 3000 q∧Q (.int ((p.1:Int)*q.2-q.1*p.2)) st
theorem nv:Mo dq:=by walk_at "MO"
theorem nE:Ln dq 2:=by walk_at "LN"
noncomputable def bN:FSp:=fun as st Q=>∃(a b c d m:Nat) (nx ny fx fy x:Nat × Nat),as=[.tup [fr nx,fr ny],.tup [fr fx,fr fy],fr x]∧a+b+c+d+m+2≤2900∧(Sz a nx∧Sz b ny∧Sz c fx∧Sz d fy∧Sz m x)∧(val nx<val fx∧val nx≤val x∧val x≤val fx)∧∀r,Cop r→Sz (a+b+c+d+m+2) r→val r=val ny+(val fy-val ny)*((val x-val nx)/(val fx-val nx))→Q (fr r) st
theorem kD:Mo bN:=by walk_at "MO"
theorem lD:Ln bN 3:=by walk_at "LN"
noncomputable def kQ:FSp:=fun _ _ _=>False
noncomputable def bX:FSp:=fun as st Q=>∃(L:List Pc) (i:Nat),as=[bL L,.int i]∧i≤L.length∧Q (fr (bgx L i)) st
theorem jH:Mo bX:=by walk_at "MO"
theorem kq:Ln bX 2:=by walk_at "LN"
noncomputable def dy:FSp:=fun as st Q=>∃(j m:Nat) (L:List Pc) (i:Nat) (p:Pc) (t:Nat × Nat),as=[bL L,.int i,fr t]∧(1≤j∧m+4*j+2≤2900)∧RtF L∧SzL j L∧L[i]?=some p∧Cop t∧Sz m t∧val (bgx L i)≤val t∧val t≤p.E∧∀r,Cop r→Sz (m+4*j+2) r→val r=(if val (bgx L i)=p.E then p.L else p.L+(p.H-p.L)*((val t-val (bgx L i))/(p.E-val (bgx L i))))→Q (fr r) st
theorem qW:Mo dy:=by walk_at "MO"
theorem sU:Ln dy 3:=by walk_at "LN"
noncomputable def dm:FSp:=fun as st Q=>∃(p:Nat) (many:Int),as=[.ref p,.int many]∧Pot st p∧0<many∧many<2 ^ 200∧∀x st',0≤x→x<many→Gr st p st'→Q (.int x) st'
theorem mx:Mo dm:=by walk_at "MO"
theorem nL:Ln dm 2:=by walk_at "LN"
noncomputable def dJ:FSp:=fun as st Q=>∃(ns:List Int) (k:Nat),as=[.rdl (ns.map .int),.int k]∧k<9∧∀q r,PK q r→Q (.ref st.length) (st++[pc q r])
theorem nS:Mo dJ:=by walk_at "MO"
theorem qF:Ln dJ 2:=by walk_at "LN"
noncomputable def cu:FSp:=fun as st Q=>∃n d:Nat,as=[.int n,.int d]∧0<d∧d<2 ^ 8000∧Q (low n d) st
theorem kG:Mo cu:=by walk_at "MO"
theorem ll:Ln cu 2:=by walk_at "LN"
noncomputable abbrev iV (n:Nat):PV:=.int n
noncomputable def dS:FSp:=fun as st Q=>∃(p n:Nat) (hs:List Nat) (B:Nat),as=[.ref p,.ref n]∧Pot st p∧n≠p∧st[n]?=some (.lst (hs.map iV))∧(∀h∈hs,h≤B)∧hs.length≤200∧B≤10 ^ 12∧∀(U:List Un3) (n':Nat) (st':AH),Gr st p st'→st.length≤n'→st'[n']?=some (.lst (U.map uV))→RUF U→U.length≤20→BdU (B+4*10 ^ 10) U→Q (.ref n') st'
theorem nI:Mo dS:=by walk_at "MO"
theorem qb:Ln dS 2:=by walk_at "LN"
noncomputable def dl:FSp:=fun as st Q=>∃(n:Nat) (U:List Un3),as=[.ref n]∧st[n]?=some (.lst (U.map uV))∧RUF U∧U.length≤20∧BdU (2 ^ 37) U∧∀(n':Nat) (V:List Un3) (g:AH),(st++g)[n']?=some (.lst (V.map uV))→(∀d,0<d→V.map (av d)=bc (U.map (av d)))→V.length≤20→Q (.ref n') (st++g)
theorem nr:Mo dl:=by walk_at "MO"
theorem n8:Ln dl 1:=by walk_at "LN"
noncomputable def dt:FSp:=fun as st Q=>∃p:Nat,as=[.ref p]∧Pot st p∧∀(d:Nat) st',0<d→d≤10 ^ 11→Gr st p st'→Q (.int d) st'
theorem nh:Mo dt:=by walk_at "MO"
theorem nX:Ln dt 1:=by walk_at "LN"
noncomputable def cQ:FSp:=fun as st Q=>∃(n d:Nat) (U:List Un3),as=[.ref n,.int d]∧st[n]?=some (.lst (U.map uV))∧RUF U∧U.length≤20∧BdU (2 ^ 37) U∧0<d∧d≤10 ^ 11∧Q (bL (bc (U.map (av d)))) st
theorem lg:Mo cQ:=by walk_at "MO"
theorem mr:Ln cQ 2:=by walk_at "LN"
noncomputable def cI:FSp:=fun as st Q=>∃(n:Nat) (U:List Un3),as=[.ref n]∧st[n]?=some (.lst (U.map uV))∧U.length≤20∧∀(m:Nat) (hs:List Nat) (g:AH),(st++g)[m]?=some (.lst (hs.map iV))→st.length≤m→(∀B,BdU B U→∀h∈hs,h≤B)→hs.length≤60→Q (.ref m) (st++g)
theorem lm:Mo cI:=by walk_at "MO"
theorem np:Ln cI 1:=by walk_at "LN"
structure Stz (k n:Nat) (L:List Pc):Prop where
 rt:RtF L
 ng:NG (0,1) L
 sz:SzL k L
 ln:L.length≤n
noncomputable def cZ (A B:List Pc) (t:Rat):Option Rat:=(cm 0 A t).bind (cm 0 B)
noncomputable def eJ:FSp:=fun as st Q=>∃(j:Nat) (M:List Pc) (b:Nat × Nat) (p:Pc),as=[bL M,fr b,pcV p]∧(1≤j∧j≤270)∧RtF M∧SzL j M∧M.length≤9900∧Cop b∧Sz j b∧p.Ok∧p.Sz j∧val b<p.E∧p.L≤p.H∧∀(R:List Pc) (g:AH) (n:Nat),(st++g)[n]?=some (.lst (R.map pcV))→Ch (val b) R→(∀q∈R,q.E≤p.E)→SzL (5*j+2) R→R.length≤M.length+1→(∀t,val b<t→t≤p.E→cm (val b) R t=cm 0 M (p.L+(p.H-p.L)*((t-val b)/(p.E-val b))))→Q (.ref n) (st++g)
theorem p7:Mo eJ:=by walk_at "MO"
theorem rQ:Ln eJ 3:=by walk_at "LN"
noncomputable def jA:FSp:=fun as st Q=>∃(j:Nat) (A B:List Pc),as=[bL A,bL B]∧(1≤j∧j≤270)∧RtF A∧SzL j A∧RtF B∧SzL j B∧(A.length+1)*(B.length+1)≤9900∧∀R,RtF R→NG (0,1) R→SzL (5*j+2) R→R.length≤(A.length+1)*(B.length+1)→(∀t,0≤t→cm 0 R t=cZ A B t)→Q (bL R) st
theorem xG:Mo jA:=by walk_at "MO"
theorem AS:Ln jA 2:=by walk_at "LN"
structure Ends (k:Nat) (T:List (Nat × Nat)):Prop where
 sr:T.Pairwise fun a b=>val a<val b
 ok:∀t∈T,Cop t∧Sz k t
noncomputable def bgT (T:List (Nat × Nat)):Nat→Nat × Nat
 | 0=>(0,1)
 | i+1=>(T[i]?).getD (0,1)
noncomputable abbrev Two:=(Nat × Nat) × (Nat × Nat)
noncomputable def cV:Option Two→PV
 | none=>.non
 | some c=>.tup [fr c.1,fr c.2]
structure SegOk (S:List Pc) (a e:Rat) (c:Two):Prop where
 cl:Cop c.1
 ch:Cop c.2
 le:val c.1≤val c.2
 at_:cm 0 S e=some (val c.2)
 zero:a=e→c.1=c.2
 mid:∀t,a<t→t≤e→cm 0 S t=some (val c.1+(val c.2-val c.1)*((t-a)/(e-a)))
noncomputable def kZ (S:List Pc) (z:Nat) (a e:Rat):Option Two→Prop
 | none=>∀t,a<t∨t=e→cm 0 S t=none
 | some c=>SegOk S a e c∧Sz z c.1∧Sz z c.2
noncomputable def fA:FSp:=fun as st Q=>∃(k n m:Nat) (T1 T2:List (Nat × Nat)),as=[.ref n,.ref m]∧k≤1400∧st[n]?=some (.lst (T1.map fr))∧st[m]?=some (.lst (T2.map fr))∧Ends k T1∧Ends k T2∧T1.length+T2.length≤20000∧∀(T:List (Nat × Nat)) (g:AH) (r:Nat),(st++g)[r]?=some (.lst (T.map fr))→Ends k T→(∀t,t∈T↔t∈T1∨t∈T2)→T.length≤T1.length+T2.length→Q (.ref r) (st++g)
theorem q8:Mo fA:=by walk_at "MO"
theorem uD:Ln fA 2:=by walk_at "LN"
noncomputable def fN:FSp:=fun as st Q=>∃(j m:Nat) (S:List Pc) (n:Nat) (T:List (Nat × Nat)),as=[bL S,.ref n]∧(1≤j∧m+4*j+2≤2900)∧RtF S∧SzL j S∧st[n]?=some (.lst (T.map fr))∧Ends m T∧T[0]?=some (0,1)∧(∀p∈S,p.e∈T)∧S.length≤10000∧T.length≤20000∧∀(C:List (Option Two)) (g:AH) (r:Nat),(st++g)[r]?=some (.lst (C.map cV))→C.length=T.length→(∀(k:Nat) c,C[k]?=some c→kZ S (m+4*j+2) (val (bgT T k)) (val (bgT T (k+1))) c)→Q (.ref r) (st++g)
theorem sP:Mo fN:=by walk_at "MO"
theorem tR:Ln fN 2:=by walk_at "LN"
noncomputable abbrev ldV (l:List Nat):PV:=.tup (l.map iV)
noncomputable def ldr (x y:Rat):List Nat:=if x=y then [0,1] else if x<y then [0] else [1]
noncomputable def eC:FSp:=fun as st Q=>∃p q:Nat × Nat,as=[fr p,fr q]∧Cop p∧Cop q∧Sz 2900 p∧Sz 2900 q∧Q (ldV (ldr (val p) (val q))) st
theorem o_:Mo eC:=by walk_at "MO"
theorem rg:Ln eC 2:=by walk_at "LN"
noncomputable def fI:FSp:=fun as st Q=>∃l l':List Nat,as=[ldV l,ldV l']∧l.length≤2∧Q (ldV (l.filter fun w=>l'.contains w)) st
theorem rX:Mo fI:=by walk_at "MO"
theorem uN:Ln fI 2:=by walk_at "LN"
noncomputable def ig:FSp:=fun as st Q=>∃(k:Nat) (p q:Nat × Nat),as=[fr p,fr q]∧k≤1400∧Cop p∧Cop q∧Sz k p∧Sz k q∧∀r,Cop r→Sz (k+k) r→(val p<val q∧val r=val q-val p)∨(val q≤val p∧val r=val p-val q)→Q (fr r) st
theorem u7:Mo ig:=by walk_at "MO"
theorem xh:Ln ig 2:=by walk_at "LN"
noncomputable def Lin (d k:Nat) (f:Rat→Option Rat):Prop:=∀e y,0≤e→f e=some y→∃(P Q:Nat) (R:Int) (x:Rat),(0<Q∧Q<2 ^ k∧P<2 ^ k)∧x<e∧∀t z,0≤t→x<t→t≤e→f t=some z→(d:Rat)*Q*z=P*d*t+R
structure SegF (f:Rat→Option Rat) (a e:Rat) (c:Two):Prop where
 cl:Cop c.1
 ch:Cop c.2
 le:val c.1≤val c.2
 at_:f e=some (val c.2)
 zero:a=e→c.1=c.2
 mid:∀t,a<t→t≤e→f t=some (val c.1+(val c.2-val c.1)*((t-a)/(e-a)))
noncomputable def les (A B:List Pc) (t:Rat):Option Rat:=match cm 0 A t with
 | none=>cm 0 B t
 | some x=>match cm 0 B t with
  | none=>some x
  | some y=>some (if x≤y then x else y)
structure Stl (d k e v n:Nat) (L:List Pc):Prop where
 rt:RtF L
 ng:NG (0,1) L
 en:∀p∈L,Sz e p.e
 lin:Lin d k (cm 0 L)
 hi:∀t y,0≤t→cm 0 L t=some y→y≤2 ^ v
 ln:L.length≤n
structure AB (d D k e e' v n:Nat):Prop where
 d0:0<d
 dD:d<2 ^ D
 e1:1≤e
 ee:e≤e'
 de:D+2*k+v≤e'
 r1:6*(D+k+e+v)+2*e+4≤2900
 r2:2*(D+k+e+v)+2*e+e'+2≤2900
 r3:D+k+e'+v≤1400
 nn:n≤2000
noncomputable abbrev Pw:=Pc × List Nat
noncomputable abbrev q2V (q:Pw):PV:=.tup [fr q.1.e,fr q.1.l,fr q.1.h,ldV q.2]
noncomputable def HQ (A B:List Pc) (a:Rat) (e:Nat × Nat) (w:Nat) (R:List Pw):Prop :=
 (∃q v,R=[(q,v)]∧q.e=e∧SegF (les A B) a (val e) (q.l,q.h))∨∃q1 q2 v1 v2,R=[(q1,v1),(q2,v2)]∧q2.e=e∧a<q1.E∧q1.E<val e∧Cop q1.e∧Sz w q1.e∧SegF (les A B) a q1.E (q1.l,q1.h)∧SegF (les A B) q1.E (val e) (q2.l,q2.h)
noncomputable abbrev Crs (m y:Two):Prop:=(val m.1<val y.1∧val y.2<val m.2)∨(val y.1<val m.1∧val m.2<val y.2)
noncomputable abbrev crM (a e:Rat) (m y:Two):Rat:=a+(e-a)*((val m.1-val y.1)/(val m.1-val y.1+(val y.2-val m.2)))
noncomputable def eP:FSp:=fun as st Q=>∃(k z w:Nat) (a e:Nat × Nat) (m y:Two),as=[fr a,fr e,cV (some m),cV (some y)]∧(1≤k∧6*z+2*k+4≤2900∧2*z+2*k+w+2≤2900)∧(Cop a∧Cop e∧Sz k a∧Sz k e)∧(Cop m.1∧Cop m.2∧Cop y.1∧Cop y.2)∧(Sz z m.1∧Sz z m.2∧Sz z y.1∧Sz z y.2)∧val a<val e∧Crs m y∧(∀r,Cop r→val r=crM (val a) (val e) m y→Sz w r)∧∀(r co:Nat × Nat),Cop r→Sz w r→val r=crM (val a) (val e) m y→Cop co→val co=val m.1+(val m.2-val m.1)*((val r-val a)/(val e-val a))→Q (.ref st.length) (st++[.lst ([(⟨r,if val m.1<val y.1 then m.1 else y.1,co⟩,[if val m.1<val y.1 then 0 else 1]),(⟨e,co,if val m.1<val y.1 then y.2 else m.2⟩,[if val m.1<val y.1 then 1 else 0])].map q2V)])
theorem qJ:Mo eP:=by walk_at "MO"
theorem rk:Ln eP 4:=by walk_at "LN"
noncomputable def ba:FSp:=fun as st Q=>∃(k z w:Nat) (A B:List Pc) (a e:Nat × Nat) (mi yo:Option Two),as=[fr a,fr e,cV mi,cV yo]∧(1≤k∧6*z+2*k+4≤2900∧2*z+2*k+w+2≤2900)∧(Cop a∧Cop e∧Sz k a∧Sz k e)∧val a≤val e∧kZ A z (val a) (val e) mi∧kZ B z (val a) (val e) yo∧(mi=none→yo≠none)∧(∀m y,mi=some m→yo=some y→val a<val e→Crs m y→∀r,Cop r→val r=crM (val a) (val e) m y→Sz w r)∧∀(R:List Pw) (g:AH) (n:Nat),(st++g)[n]?=some (.lst (R.map q2V))→HQ A B (val a) e w R→R.length≤2→Q (.ref n) (st++g)
theorem gw:Mo ba:=by walk_at "MO"
theorem gJ:Ln ba 4:=by walk_at "LN"
noncomputable def dN:FSp:=fun as st Q=>∃(d D k e e' v n:Nat) (A B:List Pc),as=[bL A,bL B]∧AB d D k e e' v n∧Stl d k e v n A∧Stl d k e v n B∧∀(Z:List Pw) (g:AH) (r:Nat),(st++g)[r]?=some (.lst (Z.map q2V))→RtF (Z.map Prod.fst)→(∀t,0≤t→cm 0 (Z.map Prod.fst) t=les A B t)→(∀q∈Z,Sz e' q.1.e)→Z.length≤4*n+2→Q (.ref r) (st++g)
theorem nW:Mo dN:=by walk_at "MO"
theorem pU:Ln dN 2:=by walk_at "LN"
noncomputable def fB:FSp:=fun as st Q=>∃(d D k e e' v n:Nat) (A B:List Pc),as=[bL A,bL B]∧AB d D k e e' v n∧Stl d k e v n A∧Stl d k e v n B∧∀R,Stl d k e' v (4*n+2) R→(∀t,0≤t→cm 0 R t=les A B t)→Q (bL R) st
theorem rZ:Mo fB:=by walk_at "MO"
theorem uk:Ln fB 2:=by walk_at "LN"
noncomputable def cK:FSp:=fun as st Q=>∃(d:Nat) (A B C:List Pc),as=[bL A,bL B,bL C]∧0<d∧d<2 ^ 37∧(Stz 40 20 A∧Stz 40 20 B∧Stz 40 20 C)∧Stl d 38 40 37 20 A∧Stl d 38 40 37 20 B∧Stl d 38 40 37 20 C∧Q (.bl true) st
theorem lv:Mo cK:=by walk_at "MO"
theorem mG:Ln cK 3:=by walk_at "LN"
noncomputable abbrev aY:PV:=(.tup [(.int 0),(.int 1)])
noncomputable def Γ:Nat→FSp
 | 0=>aZ
 | 1=>dc
 | 2=>io
 | 3=>iC
 | 4=>fK
 | 5=>dg
 | 6=>dq
 | 7=>bN
 | 8=>eD
 | 9=>jB
 | 10=>kQ
 | 11=>bX
 | 12=>dy
 | 13=>fF
 | 14=>eJ
 | 15=>jA
 | 16=>fA
 | 17=>fN
 | 18=>eC
 | 19=>fI
 | 20=>ig
 | 21=>eP
 | 22=>ba
 | 23=>dN
 | 24=>fB
 | 25=>dJ
 | 26=>dm
 | 27=>cu
 | 28=>dS
 | 29=>dl
 | 30=>dt
 | 31=>cQ
 | 32=>cI
 | 33=>cK
 | 34=>iM
 | _=>fun _ _ _=>False
theorem Γ_0:Γ 0=aZ:=id rfl
theorem Γ_1:Γ 1=dc:=id rfl
theorem Γ_2:Γ 2=io:=id rfl
theorem Γ_3:Γ 3=iC:=id rfl
theorem Γ_4:Γ 4=fK:=id rfl
theorem Γ_5:Γ 5=dg:=id rfl
theorem Γ_6:Γ 6=dq:=id rfl
theorem Γ_7:Γ 7=bN:=id rfl
theorem Γ_8:Γ 8=eD:=id rfl
theorem Γ_9:Γ 9=jB:=id rfl
theorem EF:Γ 10=kQ:=id rfl
theorem FF:Γ 11=bX:=id rfl
theorem EJ:Γ 12=dy:=id rfl
theorem Eg:Γ 13=fF:=id rfl
theorem EM:Γ 14=eJ:=id rfl
theorem Ga:Γ 15=jA:=id rfl
theorem Gx:Γ 16=fA:=id rfl
theorem Go:Γ 17=fN:=id rfl
theorem Ev:Γ 18=eC:=id rfl
theorem FM:Γ 19=fI:=id rfl
theorem EI:Γ 20=ig:=id rfl
theorem Fk:Γ 21=eP:=id rfl
theorem F9:Γ 22=ba:=id rfl
theorem FI:Γ 23=dN:=id rfl
theorem Eh:Γ 24=fB:=id rfl
theorem Fe:Γ 25=dJ:=id rfl
theorem E4:Γ 26=dm:=id rfl
theorem ES:Γ 27=cu:=id rfl
theorem FL:Γ 28=dS:=id rfl
theorem Em:Γ 29=dl:=id rfl
theorem Gk:Γ 30=dt:=id rfl
theorem Fq:Γ 31=cQ:=id rfl
theorem EG:Γ 32=cI:=id rfl
theorem GB:Γ 33=cK:=id rfl
theorem FC:Γ 34=iM:=id rfl
theorem Γm:bM Γ:=by
 intro f vs st Q Q' h q
 match f,q with
 | 0,q=>exact iF (st:=st) h q
 | 1,q=>exact nQ (st:=st) h q
 | 2,q=>exact wS (st:=st) h q
 | 3,q=>exact xU (st:=st) h q
 | 4,q=>exact uo (st:=st) h q
 | 5,q=>exact nU (st:=st) h q
 | 6,q=>exact nv (st:=st) h q
 | 7,q=>exact kD (st:=st) h q
 | 8,q=>exact qL (st:=st) h q
 | 9,q=>exact w4 (st:=st) h q
 | 10,q=>exact (show False from q).elim
 | 11,q=>exact jH (st:=st) h q
 | 12,q=>exact qW (st:=st) h q
 | 13,q=>exact sk (st:=st) h q
 | 14,q=>exact p7 (st:=st) h q
 | 15,q=>exact xG (st:=st) h q
 | 16,q=>exact q8 (st:=st) h q
 | 17,q=>exact sP (st:=st) h q
 | 18,q=>exact o_ (st:=st) h q
 | 19,q=>exact rX (st:=st) h q
 | 20,q=>exact u7 (st:=st) h q
 | 21,q=>exact qJ (st:=st) h q
 | 22,q=>exact gw (st:=st) h q
 | 23,q=>exact nW (st:=st) h q
 | 24,q=>exact rZ (st:=st) h q
 | 25,q=>exact nS (st:=st) h q
 | 26,q=>exact mx (st:=st) h q
 | 27,q=>exact kG (st:=st) h q
 | 28,q=>exact nI (st:=st) h q
 | 29,q=>exact nr (st:=st) h q
 | 30,q=>exact nh (st:=st) h q
 | 31,q=>exact lg (st:=st) h q
 | 32,q=>exact lm (st:=st) h q
 | 33,q=>exact lv (st:=st) h q
 | 34,q=>exact yz (st:=st) h q
 | _+35,q=>exact q.elim
noncomputable def cf:List Str:=((["common_divisor","fraction","plus","less","times","is_below","crosswise","on_straight","goes_on","lean","how_many","beginning_of","height","coming","through","then","merged","cut_at","leaders","common","apart","crossed","compared_between","compared","lesser","_law_pot","_law_take","_law_moment","_law_row","_law_lean"]:List Str)++(["_law_part","_law_stair","_law_hints","_law_right","law"]:List Str))
noncomputable def b9:List Str:=["tuple","len","enumerate","zip","abs","max","divmod","range"]
noncomputable def glL:List (Str × PV):=[("NOUGHT",aY)]
noncomputable abbrev aL:Stmt:=top 1
theorem js:ai ["n","d"] ["n","d"] (aa aL):=⟨rfl,rfl,rfl,by decide +kernel,rfl,by decide +kernel,by decide +kernel⟩
noncomputable def dv:Cfg:={ N:=["n","d"],names:=(aa aL).names,fns:=cf,lim:=0,blts:=b9,gl:=glL }
noncomputable def cG:Ss:=(.cons (.whileS (.cmp .NotEq (.var 1) (.int 0)) (.cons (.par 0 1 (.var 1) (.bin .Mod (.var 0) (.var 1))) .nil)) (.cons (.ret (.var 0)) .nil))
theorem jR:aD dv cG (ad aL)=true:=by decide +kernel
noncomputable abbrev b_:Stmt:=top 2
theorem rn:ai ["n","d","divisor"] ["n","d"] (aa b_):=⟨rfl,rfl,rfl,by decide +kernel,rfl,by decide +kernel,by decide +kernel⟩
noncomputable def iT:Cfg:={ N:=["n","d","divisor"],names:=(aa b_).names,fns:=cf,lim:=1,blts:=b9,gl:=glL }
noncomputable def fz:Ss:=(.cons (.set (.name 2) (.call 0 (.cons (.var 0) (.cons (.var 1) .nil)))) (.cons (.ret (.tup (.cons (.bin .FloorDiv (.var 0) (.var 2)) (.cons (.bin .FloorDiv (.var 1) (.var 2)) .nil)))) .nil))
theorem sT:aD iT fz (ad b_)=true:=by decide +kernel
noncomputable abbrev gM:Stmt:=top 3
theorem CN:ai ["one","other"] ["one","other"] (aa gM):=⟨rfl,rfl,rfl,by decide +kernel,rfl,by decide +kernel,by decide +kernel⟩
noncomputable def vP:Cfg:={ N:=["one","other"],names:=(aa gM).names,fns:=cf,lim:=2,blts:=b9,gl:=glL }
noncomputable def jP:Ss:=(.cons (.ret (.call 1 (.cons (.bin .Add (.bin .Mult (.ix (.var 0) (.int 0)) (.ix (.var 1) (.int 1))) (.bin .Mult (.ix (.var 1) (.int 0)) (.ix (.var 0) (.int 1)))) (.cons (.bin .Mult (.ix (.var 0) (.int 1)) (.ix (.var 1) (.int 1))) .nil)))) .nil)
theorem Fh:aD vP jP (ad gM)=true:=by decide +kernel
noncomputable abbrev gC:Stmt:=top 4
theorem Da:ai ["one","other"] ["one","other"] (aa gC):=⟨rfl,rfl,rfl,by decide +kernel,rfl,by decide +kernel,by decide +kernel⟩
noncomputable def u5:Cfg:={ N:=["one","other"],names:=(aa gC).names,fns:=cf,lim:=3,blts:=b9,gl:=glL }
noncomputable def kN:Ss:=(.cons (.ret (.call 1 (.cons (.bin .Sub (.bin .Mult (.ix (.var 0) (.int 0)) (.ix (.var 1) (.int 1))) (.bin .Mult (.ix (.var 1) (.int 0)) (.ix (.var 0) (.int 1)))) (.cons (.bin .Mult (.ix (.var 0) (.int 1)) (.ix (.var 1) (.int 1))) .nil)))) .nil)
theorem Gm:aD u5 kN (ad gC)=true:=by decide +kernel
noncomputable abbrev ff:Stmt:=top 5
theorem zo:ai ["one","other"] ["one","other"] (aa ff):=⟨rfl,rfl,rfl,by decide +kernel,rfl,by decide +kernel,by decide +kernel⟩
noncomputable def pV:Cfg:={ N:=["one","other"],names:=(aa ff).names,fns:=cf,lim:=4,blts:=b9,gl:=glL }
noncomputable def iZ:Ss:=(.cons (.ret (.call 1 (.cons (.bin .Mult (.ix (.var 0) (.int 0)) (.ix (.var 1) (.int 0))) (.cons (.bin .Mult (.ix (.var 0) (.int 1)) (.ix (.var 1) (.int 1))) .nil)))) .nil)
theorem Ct:aD pV iZ (ad ff)=true:=by decide +kernel
noncomputable abbrev cj:Stmt:=top 6
theorem qY:ai ["one","other"] ["one","other"] (aa cj):=⟨rfl,rfl,rfl,by decide +kernel,rfl,by decide +kernel,by decide +kernel⟩
noncomputable def jb:Cfg:={ N:=["one","other"],names:=(aa cj).names,fns:=cf,lim:=5,blts:=b9,gl:=glL }
noncomputable def fw:Ss:=(.cons (.ret (.cmp .Lt (.bin .Mult (.ix (.var 0) (.int 0)) (.ix (.var 1) (.int 1))) (.bin .Mult (.ix (.var 1) (.int 0)) (.ix (.var 0) (.int 1))))) .nil)
theorem vj:aD jb fw (ad cj)=true:=by decide +kernel
noncomputable abbrev bP:Stmt:=top 8
theorem qj:ai ["one","other"] ["one","other"] (aa bP):=⟨rfl,rfl,rfl,by decide +kernel,rfl,by decide +kernel,by decide +kernel⟩
noncomputable def ie:Cfg:={ N:=["one","other"],names:=(aa bP).names,fns:=cf,lim:=6,blts:=b9,gl:=glL }
noncomputable def ej:Ss:=(.cons (.ret (.bin .Sub (.bin .Mult (.ix (.var 0) (.int 0)) (.ix (.var 1) (.int 1))) (.bin .Mult (.ix (.var 1) (.int 0)) (.ix (.var 0) (.int 1))))) .nil)
theorem r9:aD ie ej (ad bP)=true:=by decide +kernel
noncomputable abbrev bj:Stmt:=top 9
theorem mX:ai ["near","far","x","near_x","near_y","far_x","far_y","done","left","above"] ["near","far","x"] (aa bj):=⟨rfl,rfl,rfl,by decide +kernel,rfl,by decide +kernel,by decide +kernel⟩
noncomputable def fm:Cfg:={ N:=["near","far","x","near_x","near_y","far_x","far_y","done","left","above"],names:=(aa bj).names,fns:=cf,lim:=7,blts:=b9,gl:=glL }
noncomputable def dz:Ss:=(.cons (.set (.tup (.cons (.tup (.cons (.name 3) (.cons (.name 4) .nil))) (.cons (.tup (.cons (.name 5) (.cons (.name 6) .nil))) .nil))) (.tup (.cons (.var 0) (.cons (.var 1) .nil)))) (.cons (.set (.name 7) (.bin .Mult (.call 6 (.cons (.var 2) (.cons (.var 3) .nil))) (.ix (.var 5) (.int 1)))) (.cons (.set (.name 8) (.bin .Mult (.call 6 (.cons (.var 5) (.cons (.var 2) .nil))) (.ix (.var 3) (.int 1)))) (.cons (.set (.name 9) (.bin .Add (.bin .Mult (.bin .Mult (.ix (.var 4) (.int 0)) (.ix (.var 6) (.int 1))) (.var 8)) (.bin .Mult (.bin .Mult (.ix (.var 6) (.int 0)) (.ix (.var 4) (.int 1))) (.var 7)))) (.cons (.ret (.call 1 (.cons (.var 9) (.cons (.bin .Mult (.bin .Mult (.ix (.var 4) (.int 1)) (.ix (.var 6) (.int 1))) (.bin .Add (.var 8) (.var 7))) .nil)))) .nil)))))
theorem oh:aD fm dz (ad bj)=true:=by decide +kernel
noncomputable abbrev df:Stmt:=top 12
theorem sR:ai ["beginning","ahead","piece","rise","width","next_rise","next_width"] ["beginning","ahead","piece"] (aa df):=⟨rfl,rfl,rfl,by decide +kernel,rfl,by decide +kernel,by decide +kernel⟩
noncomputable def kE:Cfg:={ N:=["beginning","ahead","piece","rise","width","next_rise","next_width"],names:=(aa df).names,fns:=cf,lim:=8,blts:=b9,gl:=glL }
noncomputable def fZ:Ss:=(.cons (.ifS (.cmp .NotEq (.ix (.var 2) (.int 1)) (.ix (.var 1) (.int 2))) (.cons (.ret (.bl false)) .nil) .nil) (.cons (.par 3 4 (.call 3 (.cons (.ix (.var 1) (.int 2)) (.cons (.ix (.var 1) (.int 1)) .nil))) (.call 3 (.cons (.ix (.var 1) (.int 0)) (.cons (.var 0) .nil)))) (.cons (.par 5 6 (.call 3 (.cons (.ix (.var 2) (.int 2)) (.cons (.ix (.var 2) (.int 1)) .nil))) (.call 3 (.cons (.ix (.var 2) (.int 0)) (.cons (.ix (.var 1) (.int 0)) .nil)))) (.cons (.ret (.cmp .Eq (.call 4 (.cons (.var 3) (.cons (.var 6) .nil))) (.call 4 (.cons (.var 5) (.cons (.var 4) .nil))))) .nil))))
theorem xI:aD kE fZ (ad df)=true:=by decide +kernel
noncomputable abbrev g9:Stmt:=top 13
theorem DD:ai ["row","pieces","beginning","piece"] ["row"] (aa g9):=⟨rfl,rfl,rfl,by decide +kernel,rfl,by decide +kernel,by decide +kernel⟩
noncomputable def uC:Cfg:={ N:=["row","pieces","beginning","piece"],names:=(aa g9).names,fns:=cf,lim:=9,blts:=b9,gl:=glL }
noncomputable def kl:Ss:=(.cons (.set (.name 1) (.lst .nil)) (.cons (.set (.name 2) (.gv "NOUGHT" aY)) (.cons (.forS (.name 3) (.seq (.var 0)) (.cons (.ifS (.bop true (.cons (.cmp .NotEq (.var 1) (.lst .nil)) (.cons (.call 8 (.cons (.var 2) (.cons (.ix (.var 1) (.neg (.int 1))) (.cons (.var 3) .nil)))) .nil))) (.cons (.set (.sub (.var 1) (.neg (.int 1))) (.tup (.cons (.ix (.var 3) (.int 0)) (.cons (.ix (.ix (.var 1) (.neg (.int 1))) (.int 1)) (.cons (.ix (.var 3) (.int 2)) .nil))))) .nil) (.cons (.set (.name 2) (.ite (.cmp .Eq (.var 1) (.lst .nil)) (.gv "NOUGHT" aY) (.ix (.ix (.var 1) (.neg (.int 1))) (.int 0)))) (.cons (.expr (.met .append (.var 1) (.cons (.var 3) .nil))) .nil))) .nil)) (.cons (.ret (.blt .tuple1 (.cons (.var 1) .nil))) .nil))))
theorem Gf:aD uC kl (ad g9)=true:=by decide +kernel
noncomputable abbrev bW:Stmt:=top 14
theorem si:ai ["stair","holds","fewest","most","middle"] ["stair","holds"] (aa bW):=⟨rfl,rfl,rfl,by decide +kernel,rfl,by decide +kernel,by decide +kernel⟩
noncomputable def iS:Cfg:={ N:=["stair","holds","fewest","most","middle"],names:=(aa bW).names,fns:=cf,lim:=10,blts:=b9,gl:=glL,pc:=true }
noncomputable def fk:Ss:=(.cons (.par 2 3 (.int 0) (.blt .len (.cons (.var 0) .nil))) (.cons (.whileS (.cmp .Lt (.var 2) (.var 3)) (.cons (.set (.name 4) (.bin .FloorDiv (.bin .Add (.var 2) (.var 3)) (.int 2))) (.cons (.ifS (.pcall 1 (.ix (.var 0) (.var 4))) (.cons (.set (.name 2) (.bin .Add (.var 4) (.int 1))) .nil) (.cons (.set (.name 3) (.var 4)) .nil)) .nil))) (.cons (.ret (.var 2)) .nil)))
theorem vC:aD iS fk (ad bW)=true:=by decide +kernel
noncomputable abbrev aX:Stmt:=top 15
theorem lj:ai ["stair","at"] ["stair","at"] (aa aX):=⟨rfl,rfl,rfl,by decide +kernel,rfl,by decide +kernel,by decide +kernel⟩
noncomputable def em:Cfg:={ N:=["stair","at"],names:=(aa aX).names,fns:=cf,lim:=11,blts:=b9,gl:=glL }
noncomputable def dj:Ss:=(.cons (.ret (.ite (.cmp .Eq (.var 1) (.int 0)) (.gv "NOUGHT" aY) (.ix (.ix (.var 0) (.bin .Sub (.var 1) (.int 1))) (.int 0)))) .nil)
theorem lO:aD em dj (ad aX)=true:=by decide +kernel
noncomputable abbrev dQ:Stmt:=top 16
theorem wX:ai ["stair","at","t","end","low","high"] ["stair","at","t"] (aa dQ):=⟨rfl,rfl,rfl,by decide +kernel,rfl,by decide +kernel,by decide +kernel⟩
noncomputable def mv:Cfg:={ N:=["stair","at","t","end","low","high"],names:=(aa dQ).names,fns:=cf,lim:=12,blts:=b9,gl:=glL }
noncomputable def gX:Ss:=(.cons (.set (.tup (.cons (.name 3) (.cons (.name 4) (.cons (.name 5) .nil)))) (.ix (.var 0) (.var 1))) (.cons (.ifS (.cmp .Eq (.var 2) (.var 3)) (.cons (.ret (.var 5)) .nil) .nil) (.cons (.ret (.call 7 (.cons (.tup (.cons (.call 11 (.cons (.var 0) (.cons (.var 1) .nil))) (.cons (.var 4) .nil))) (.cons (.tup (.cons (.var 3) (.cons (.var 5) .nil))) (.cons (.var 2) .nil))))) .nil)))
theorem yr:aD mv gX (ad dQ)=true:=by decide +kernel
noncomputable abbrev ci:Stmt:=top 17
theorem wN:ai ["stair","t","at"] ["stair","t"] (aa ci):=⟨rfl,rfl,rfl,by decide +kernel,rfl,by decide +kernel,by decide +kernel⟩
noncomputable def mO:Cfg:={ N:=["stair","t","at"],names:=(aa ci).names,fns:=cf,lim:=13,blts:=b9,gl:=glL,hm:=some 9 }
noncomputable def gO:Ss:=(.cons (.set (.name 2) (.hm (.var 0) (.call 5 (.cons (.ix (.var 0) (.int 0)) (.cons (.var 1) .nil))) [1])) (.cons (.ret (.ite (.cmp .Eq (.var 2) (.blt .len (.cons (.var 0) .nil))) .non (.call 12 (.cons (.var 0) (.cons (.var 2) (.cons (.var 1) .nil)))))) .nil))
theorem A_:aD mO gO (ad ci)=true:=by decide +kernel
noncomputable abbrev bO:Stmt:=top 19
theorem vd:ai ["other","beginning","piece","end","low","high","come","pieces","ahead","at","there","moment"] ["other","beginning","piece"] (aa bO):=⟨rfl,rfl,rfl,by decide +kernel,rfl,by decide +kernel,by decide +kernel⟩
noncomputable def kh:Cfg:={ N:=["other","beginning","piece","end","low","high","come","pieces","ahead","at","there","moment"],names:=(aa bO).names,fns:=cf,lim:=14,blts:=b9,gl:=glL,hm:=some 9 }
noncomputable def fT:Ss:=(.cons (.set (.tup (.cons (.name 3) (.cons (.name 4) (.cons (.name 5) .nil)))) (.var 2)) (.cons (.ifS (.cmp .Eq (.var 4) (.var 5)) (.cons (.set (.name 6) (.call 13 (.cons (.var 0) (.cons (.var 5) .nil)))) (.cons (.ret (.ite (.cmp .Is (.var 6) .non) (.lst .nil) (.lst (.cons (.tup (.cons (.var 3) (.cons (.var 6) (.cons (.var 6) .nil)))) .nil)))) .nil)) .nil) (.cons (.set (.name 7) (.lst .nil)) (.cons (.set (.name 8) (.var 4)) (.cons (.set (.name 9) (.hm (.var 0) (.not (.call 5 (.cons (.var 1) (.cons (.ix (.var 0) (.int 0)) .nil)))) [4])) (.cons (.whileS (.bop true (.cons (.cmp .Lt (.var 9) (.blt .len (.cons (.var 0) .nil))) (.cons (.call 5 (.cons (.var 8) (.cons (.var 5) .nil))) .nil))) (.cons (.set (.name 10) (.ite (.call 5 (.cons (.ix (.ix (.var 0) (.var 9)) (.int 0)) (.cons (.var 5) .nil))) (.ix (.ix (.var 0) (.var 9)) (.int 0)) (.var 5))) (.cons (.set (.name 11) (.call 7 (.cons (.tup (.cons (.var 4) (.cons (.var 1) .nil))) (.cons (.tup (.cons (.var 5) (.cons (.var 3) .nil))) (.cons (.var 10) .nil))))) (.cons (.expr (.met .append (.var 7) (.cons (.tup (.cons (.var 11) (.cons (.call 12 (.cons (.var 0) (.cons (.var 9) (.cons (.var 8) .nil)))) (.cons (.call 12 (.cons (.var 0) (.cons (.var 9) (.cons (.var 10) .nil)))) .nil)))) .nil))) (.cons (.set (.name 8) (.var 10)) (.cons (.aug 9 .Add (.int 1)) .nil)))))) (.cons (.ret (.var 7)) .nil)))))))
theorem xl:aD kh fT (ad bO)=true:=by decide +kernel
noncomputable abbrev gS:Stmt:=top 20
theorem Cn:ai ["one","other","start","come","row","at","piece"] ["one","other"] (aa gS):=⟨rfl,rfl,rfl,by decide +kernel,rfl,by decide +kernel,by decide +kernel⟩
noncomputable def vk:Cfg:={ N:=["one","other","start","come","row","at","piece"],names:=(aa gS).names,fns:=cf,lim:=15,blts:=b9,gl:=glL }
noncomputable def kz:Ss:=(.cons (.set (.name 2) (.call 13 (.cons (.var 0) (.cons (.gv "NOUGHT" aY) .nil)))) (.cons (.set (.name 3) (.ite (.cmp .Is (.var 2) .non) .non (.call 13 (.cons (.var 1) (.cons (.var 2) .nil))))) (.cons (.ifS (.cmp .Is (.var 3) .non) (.cons (.ret (.tup .nil)) .nil) .nil) (.cons (.set (.name 4) (.lst (.cons (.tup (.cons (.gv "NOUGHT" aY) (.cons (.var 3) (.cons (.var 3) .nil)))) .nil))) (.cons (.forS (.tup (.cons (.name 5) (.cons (.name 6) .nil))) (.enum (.var 0)) (.cons (.ifS (.cmp .NotEq (.ix (.var 6) (.int 0)) (.gv "NOUGHT" aY)) (.cons (.aug 4 .Add (.call 14 (.cons (.var 1) (.cons (.call 11 (.cons (.var 0) (.cons (.var 5) .nil))) (.cons (.var 6) .nil))))) .nil) .nil) .nil)) (.cons (.ret (.call 9 (.cons (.blt .tuple1 (.cons (.var 4) .nil)) .nil))) .nil))))))
theorem FX:aD vk kz (ad gS)=true:=by decide +kernel
noncomputable abbrev dM:Stmt:=top 21
theorem wU:ai ["one","other","moments","mine","yours","moment"] ["one","other"] (aa dM):=⟨rfl,rfl,rfl,by decide +kernel,rfl,by decide +kernel,by decide +kernel⟩
noncomputable def mj:Cfg:={ N:=["one","other","moments","mine","yours","moment"],names:=(aa dM).names,fns:=cf,lim:=16,blts:=b9,gl:=glL }
noncomputable def gR:Ss:=(.cons (.set (.name 2) (.lst .nil)) (.cons (.set2 3 4 (.int 0)) (.cons (.whileS (.bop false (.cons (.cmp .Lt (.var 3) (.blt .len (.cons (.var 0) .nil))) (.cons (.cmp .Lt (.var 4) (.blt .len (.cons (.var 1) .nil))) .nil))) (.cons (.ifS (.bop false (.cons (.cmp .Eq (.var 4) (.blt .len (.cons (.var 1) .nil))) (.cons (.bop true (.cons (.cmp .Lt (.var 3) (.blt .len (.cons (.var 0) .nil))) (.cons (.call 5 (.cons (.ix (.var 0) (.var 3)) (.cons (.ix (.var 1) (.var 4)) .nil))) .nil))) .nil))) (.cons (.set (.name 5) (.ix (.var 0) (.var 3))) (.cons (.aug 3 .Add (.int 1)) .nil)) (.cons (.set (.name 5) (.ix (.var 1) (.var 4))) (.cons (.aug 4 .Add (.int 1)) .nil))) (.cons (.ifS (.bop false (.cons (.cmp .Eq (.var 2) (.lst .nil)) (.cons (.cmp .NotEq (.ix (.var 2) (.neg (.int 1))) (.var 5)) .nil))) (.cons (.expr (.met .append (.var 2) (.cons (.var 5) .nil))) .nil) .nil) .nil))) (.cons (.ret (.var 2)) .nil))))
theorem Ay:aD mj gR (ad dM)=true:=by decide +kernel
noncomputable abbrev dP:Stmt:=top 22
theorem xr:ai ["stair","ends","told","at","piece","low","high"] ["stair","ends"] (aa dP):=⟨rfl,rfl,rfl,by decide +kernel,rfl,by decide +kernel,by decide +kernel⟩
noncomputable def mS:Cfg:={ N:=["stair","ends","told","at","piece","low","high"],names:=(aa dP).names,fns:=cf,lim:=17,blts:=b9,gl:=glL }
noncomputable def gy:Ss:=(.cons (.set (.name 2) (.lst .nil)) (.cons (.forS (.tup (.cons (.name 3) (.cons (.name 4) .nil))) (.enum (.var 0)) (.cons (.set (.name 5) (.ix (.var 4) (.int 1))) (.cons (.whileS (.bop true (.cons (.cmp .Lt (.blt .len (.cons (.var 2) .nil)) (.blt .len (.cons (.var 1) .nil))) (.cons (.not (.call 5 (.cons (.ix (.var 4) (.int 0)) (.cons (.ix (.var 1) (.blt .len (.cons (.var 2) .nil))) .nil)))) .nil))) (.cons (.set (.name 6) (.call 12 (.cons (.var 0) (.cons (.var 3) (.cons (.ix (.var 1) (.blt .len (.cons (.var 2) .nil))) .nil))))) (.cons (.expr (.met .append (.var 2) (.cons (.tup (.cons (.var 5) (.cons (.var 6) .nil))) .nil))) (.cons (.set (.name 5) (.var 6)) .nil)))) .nil))) (.cons (.ret (.bin .Add (.var 2) (.bin .Mult (.lst (.cons .non .nil)) (.bin .Sub (.blt .len (.cons (.var 1) .nil)) (.blt .len (.cons (.var 2) .nil)))))) .nil)))
theorem zn:aD mS gy (ad dP)=true:=by decide +kernel
noncomputable abbrev c_:Stmt:=top 23
theorem uM:ai ["one","other"] ["one","other"] (aa c_):=⟨rfl,rfl,rfl,by decide +kernel,rfl,by decide +kernel,by decide +kernel⟩
noncomputable def kJ:Cfg:={ N:=["one","other"],names:=(aa c_).names,fns:=cf,lim:=18,blts:=b9,gl:=glL }
noncomputable def gk:Ss:=(.cons (.ifS (.cmp .Eq (.var 0) (.var 1)) (.cons (.ret (.tup (.cons (.int 0) (.cons (.int 1) .nil)))) .nil) .nil) (.cons (.ret (.ite (.call 5 (.cons (.var 0) (.cons (.var 1) .nil))) (.tup (.cons (.int 0) .nil)) (.tup (.cons (.int 1) .nil)))) .nil))
theorem wP:aD kJ gk (ad c_)=true:=by decide +kernel
noncomputable abbrev dG:Stmt:=top 24
theorem xy:ai ["some","others"] ["some","others"] (aa dG):=⟨rfl,rfl,rfl,by decide +kernel,rfl,by decide +kernel,by decide +kernel⟩
noncomputable def nq:Cfg:={ N:=["some","others"],names:=(aa dG).names,fns:=cf,lim:=19,blts:=b9,gl:=glL }
noncomputable def hJ:Ss:=(.cons (.ret (.tmp (.blt .tuple1 (.cons (.comp (.var 0) (.name 0) (.seq (.var 0)) (.cons (.cmp .In (.var 0) (.var 1)) .nil) ["who"] [1]) .nil)))) .nil)
theorem AO:aD nq hJ (ad dG)=true:=by decide +kernel
noncomputable abbrev e_:Stmt:=top 25
theorem An:ai ["one","other"] ["one","other"] (aa e_):=⟨rfl,rfl,rfl,by decide +kernel,rfl,by decide +kernel,by decide +kernel⟩
noncomputable def pA:Cfg:={ N:=["one","other"],names:=(aa e_).names,fns:=cf,lim:=20,blts:=b9,gl:=glL }
noncomputable def iX:Ss:=(.cons (.ret (.ite (.call 5 (.cons (.var 0) (.cons (.var 1) .nil))) (.call 3 (.cons (.var 1) (.cons (.var 0) .nil))) (.call 3 (.cons (.var 0) (.cons (.var 1) .nil))))) .nil)
theorem Dr:aD pA iX (ad e_)=true:=by decide +kernel
noncomputable abbrev db:Stmt:=top 26
theorem uU:ai ["beginning","end","mine","yours","gap","next_gap","moment","come"] ["beginning","end","mine","yours"] (aa db):=⟨rfl,rfl,rfl,by decide +kernel,rfl,by decide +kernel,by decide +kernel⟩
noncomputable def j7:Cfg:={ N:=["beginning","end","mine","yours","gap","next_gap","moment","come"],names:=(aa db).names,fns:=cf,lim:=21,blts:=b9,gl:=glL }
noncomputable def gg:Ss:=(.cons (.par 4 5 (.call 20 (.cons (.ix (.var 2) (.int 0)) (.cons (.ix (.var 3) (.int 0)) .nil))) (.call 20 (.cons (.ix (.var 2) (.int 1)) (.cons (.ix (.var 3) (.int 1)) .nil)))) (.cons (.set (.name 6) (.call 7 (.cons (.tup (.cons (.gv "NOUGHT" aY) (.cons (.var 0) .nil))) (.cons (.tup (.cons (.call 2 (.cons (.var 4) (.cons (.var 5) .nil))) (.cons (.var 1) .nil))) (.cons (.var 4) .nil))))) (.cons (.set (.name 7) (.call 7 (.cons (.tup (.cons (.var 0) (.cons (.ix (.var 2) (.int 0)) .nil))) (.cons (.tup (.cons (.var 1) (.cons (.ix (.var 2) (.int 1)) .nil))) (.cons (.var 6) .nil))))) (.cons (.ifS (.call 5 (.cons (.ix (.var 2) (.int 0)) (.cons (.ix (.var 3) (.int 0)) .nil))) (.cons (.ret (.lst (.cons (.tup (.cons (.var 6) (.cons (.ix (.var 2) (.int 0)) (.cons (.var 7) (.cons (.tup (.cons (.int 0) .nil)) .nil))))) (.cons (.tup (.cons (.var 1) (.cons (.var 7) (.cons (.ix (.var 3) (.int 1)) (.cons (.tup (.cons (.int 1) .nil)) .nil))))) .nil)))) .nil) .nil) (.cons (.ret (.lst (.cons (.tup (.cons (.var 6) (.cons (.ix (.var 3) (.int 0)) (.cons (.var 7) (.cons (.tup (.cons (.int 1) .nil)) .nil))))) (.cons (.tup (.cons (.var 1) (.cons (.var 7) (.cons (.ix (.var 2) (.int 1)) (.cons (.tup (.cons (.int 0) .nil)) .nil))))) .nil)))) .nil)))))
theorem xL:aD j7 gg (ad db)=true:=by decide +kernel
noncomputable abbrev aB:Stmt:=top 27
theorem iG:ai ["beginning","end","mine","yours","low","high","leading"] ["beginning","end","mine","yours"] (aa aB):=⟨rfl,rfl,rfl,by decide +kernel,rfl,by decide +kernel,by decide +kernel⟩
noncomputable def cY:Cfg:={ N:=["beginning","end","mine","yours","low","high","leading"],names:=(aa aB).names,fns:=cf,lim:=22,blts:=b9,gl:=glL }
noncomputable def b7:Ss:=(.cons (.ifS (.bop false (.cons (.cmp .Is (.var 2) .non) (.cons (.cmp .Is (.var 3) .non) .nil))) (.cons (.set (.tup (.cons (.name 4) (.cons (.name 5) .nil))) (.ite (.cmp .Is (.var 2) .non) (.var 3) (.var 2))) (.cons (.ret (.lst (.cons (.tup (.cons (.var 1) (.cons (.var 4) (.cons (.var 5) (.cons (.ite (.cmp .Is (.var 2) .non) (.tup (.cons (.int 1) .nil)) (.tup (.cons (.int 0) .nil))) .nil))))) .nil))) .nil)) .nil) (.cons (.set (.name 6) (.call 19 (.cons (.call 18 (.cons (.ix (.var 2) (.int 0)) (.cons (.ix (.var 3) (.int 0)) .nil))) (.cons (.call 18 (.cons (.ix (.var 2) (.int 1)) (.cons (.ix (.var 3) (.int 1)) .nil))) .nil)))) (.cons (.ifS (.cmp .Eq (.var 6) (.tup .nil)) (.cons (.ret (.call 21 (.cons (.var 0) (.cons (.var 1) (.cons (.var 2) (.cons (.var 3) .nil)))))) .nil) .nil) (.cons (.set (.tup (.cons (.name 4) (.cons (.name 5) .nil))) (.ite (.cmp .Eq (.ix (.var 6) (.int 0)) (.int 0)) (.var 2) (.var 3))) (.cons (.ret (.lst (.cons (.tup (.cons (.var 1) (.cons (.var 4) (.cons (.var 5) (.cons (.var 6) .nil))))) .nil))) .nil)))))
theorem i4:aD cY b7 (ad aB)=true:=by decide +kernel
noncomputable abbrev cC:Stmt:=top 28
theorem se:ai ["one","other","ends","told","beginning","end","mine","yours"] ["one","other"] (aa cC):=⟨rfl,rfl,rfl,by decide +kernel,rfl,by decide +kernel,by decide +kernel⟩
noncomputable def i8:Cfg:={ N:=["one","other","ends","told","beginning","end","mine","yours"],names:=(aa cC).names,fns:=cf,lim:=23,blts:=b9,gl:=glL }
noncomputable def fq:Ss:=(.cons (.ifS (.bop true (.cons (.cmp .Eq (.var 0) (.tup .nil)) (.cons (.cmp .Eq (.var 1) (.tup .nil)) .nil))) (.cons (.ret (.lst .nil)) .nil) .nil) (.cons (.set (.name 2) (.call 16 (.cons (.lst (.cons (.gv "NOUGHT" aY) .nil)) (.cons (.call 16 (.cons (.comp (.ix (.var 0) (.int 0)) (.name 0) (.seq (.var 0)) .nil ["piece"] []) (.cons (.comp (.ix (.var 0) (.int 0)) (.name 0) (.seq (.var 1)) .nil ["piece"] []) .nil))) .nil)))) (.cons (.set (.name 3) (.lst .nil)) (.cons (.set (.name 4) (.gv "NOUGHT" aY)) (.cons (.forS (.tup (.cons (.name 5) (.cons (.name 6) (.cons (.name 7) .nil)))) (.zip3 (.var 2) (.call 17 (.cons (.var 0) (.cons (.var 2) .nil))) (.call 17 (.cons (.var 1) (.cons (.var 2) .nil)))) (.cons (.aug 3 .Add (.call 22 (.cons (.var 4) (.cons (.var 5) (.cons (.var 6) (.cons (.var 7) .nil)))))) (.cons (.set (.name 4) (.var 5)) .nil))) (.cons (.ret (.var 3)) .nil))))))
theorem vH:aD i8 fq (ad cC)=true:=by decide +kernel
noncomputable abbrev dI:Stmt:=top 29
theorem wQ:ai ["one","other"] ["one","other"] (aa dI):=⟨rfl,rfl,rfl,by decide +kernel,rfl,by decide +kernel,by decide +kernel⟩
noncomputable def m5:Cfg:={ N:=["one","other"],names:=(aa dI).names,fns:=cf,lim:=24,blts:=b9,gl:=glL }
noncomputable def g_:Ss:=(.cons (.ret (.call 9 (.cons (.tmp (.blt .tuple1 (.cons (.comp (.tup (.cons (.var 0) (.cons (.var 1) (.cons (.var 2) .nil)))) (.tup (.cons (.name 0) (.cons (.name 1) (.cons (.name 2) (.cons (.name 3) .nil))))) (.seq (.call 23 (.cons (.var 0) (.cons (.var 1) .nil)))) .nil ["end","low","high","leading"] []) .nil))) .nil))) .nil)
theorem A7:aD m5 g_ (ad dI)=true:=by decide +kernel
noncomputable abbrev cA:Stmt:=top 31
theorem rY:ai ["_law_script","_law_k","_law_cell"] ["_law_script","_law_k"] (aa cA):=⟨rfl,rfl,rfl,by decide +kernel,rfl,by decide +kernel,by decide +kernel⟩
noncomputable def jh:Cfg:={ N:=["_law_script","_law_k","_law_cell"],names:=(aa cA).names,fns:=cf,lim:=25,blts:=b9,gl:=glL }
noncomputable def fv:Ss:=(.cons (.set (.name 2) (.ite (.cmp .Lt (.var 1) (.blt .len (.cons (.var 0) .nil))) (.ix (.var 0) (.var 1)) (.int 0))) (.cons (.ret (.lst (.cons (.blt .max2 (.cons (.int 0) (.cons (.bin .Sub (.blt .abs1 (.cons (.var 2) .nil)) (.bin .Pow (.int 10) (.int 18))) .nil))) (.cons (.bin .Add (.bin .Add (.bin .Mod (.blt .abs1 (.cons (.var 2) .nil)) (.int 2147483629)) (.bin .Mult (.int 97) (.var 1))) (.int 1)) .nil)))) .nil))
theorem vi:aD jh fv (ad cA)=true:=by decide +kernel
noncomputable abbrev bS:Stmt:=top 32
theorem o7:ai ["_law_pot_here","_law_many","_law_digit"] ["_law_pot_here","_law_many"] (aa bS):=⟨rfl,rfl,rfl,by decide +kernel,rfl,by decide +kernel,by decide +kernel⟩
noncomputable def gZ:Cfg:={ N:=["_law_pot_here","_law_many","_law_digit"],names:=(aa bS).names,fns:=cf,lim:=26,blts:=b9,gl:=glL }
noncomputable def eT:Ss:=(.cons (.ifS (.cmp .Gt (.ix (.var 0) (.int 0)) (.int 0)) (.cons (.set (.tup (.cons (.sub (.var 0) (.int 0)) (.cons (.name 2) .nil))) (.blt .divmod (.cons (.ix (.var 0) (.int 0)) (.cons (.var 1) .nil)))) (.cons (.ret (.var 2)) .nil)) .nil) (.cons (.set (.sub (.var 0) (.int 1)) (.bin .Mod (.bin .Add (.bin .Mult (.ix (.var 0) (.int 1)) (.int 48271)) (.int 12345)) (.int 2147483647))) (.cons (.ret (.bin .Mod (.bin .FloorDiv (.bin .Mod (.bin .Mult (.ix (.var 0) (.int 1)) (.ix (.var 0) (.int 1))) (.int 2147483629)) (.int 5)) (.var 1))) .nil)))
theorem sh:aD gZ eT (ad bS)=true:=by decide +kernel
noncomputable abbrev bi:Stmt:=top 33
theorem nk:ai ["_law_n","_law_d","_law_left","_law_right_here"] ["_law_n","_law_d"] (aa bi):=⟨rfl,rfl,rfl,by decide +kernel,rfl,by decide +kernel,by decide +kernel⟩
noncomputable def fo:Cfg:={ N:=["_law_n","_law_d","_law_left","_law_right_here"],names:=(aa bi).names,fns:=cf,lim:=27,blts:=b9,gl:=glL }
noncomputable def dB:Ss:=(.cons (.par 2 3 (.var 0) (.var 1)) (.cons (.whileS (.cmp .Gt (.var 3) (.int 0)) (.cons (.par 2 3 (.var 3) (.bin .Mod (.var 2) (.var 3))) .nil)) (.cons (.ret (.tup (.cons (.bin .FloorDiv (.var 0) (.var 2)) (.cons (.bin .FloorDiv (.var 1) (.var 2)) .nil)))) .nil)))
theorem nV:aD fo dB (ad bi)=true:=by decide +kernel
noncomputable abbrev cB:Stmt:=top 34
theorem rK:ai ["_law_pot_here","_law_hints_here","_law_found","_law_begin","_law_height","_law_many","_law_k","_law_end","_law_later","_law_low","_law_high"] ["_law_pot_here","_law_hints_here"] (aa cB):=⟨rfl,rfl,rfl,by decide +kernel,rfl,by decide +kernel,by decide +kernel⟩
noncomputable def iY:Cfg:={ N:=["_law_pot_here","_law_hints_here","_law_found","_law_begin","_law_height","_law_many","_law_k","_law_end","_law_later","_law_low","_law_high"],names:=(aa cB).names,fns:=cf,lim:=28,blts:=b9,gl:=glL }
noncomputable def fu:Ss:=(.cons (.set (.name 2) (.lst .nil)) (.cons (.set (.name 3) (.int 0)) (.cons (.set (.name 4) (.int 0)) (.cons (.set (.name 5) (.call 26 (.cons (.var 0) (.cons (.int 7) .nil)))) (.cons (.ifS (.cmp .Eq (.call 26 (.cons (.var 0) (.cons (.int 8) .nil))) (.int 0)) (.cons (.set (.name 5) (.bin .Add (.int 7) (.call 26 (.cons (.var 0) (.cons (.int 14) .nil))))) .nil) .nil) (.cons (.forS (.name 6) (.range1 (.var 5)) (.cons (.set (.name 7) (.bin .Add (.bin .Add (.var 3) (.int 1)) (.call 26 (.cons (.var 0) (.cons (.ix (.tup (.cons (.int 3) (.cons (.int 9) (.cons (.bin .Pow (.int 10) (.int 9)) .nil)))) (.call 26 (.cons (.var 0) (.cons (.int 3) .nil)))) .nil))))) (.cons (.ifS (.bop true (.cons (.cmp .Eq (.var 6) (.int 0)) (.cons (.cmp .Eq (.call 26 (.cons (.var 0) (.cons (.int 4) .nil))) (.int 0)) .nil))) (.cons (.set (.name 7) (.int 0)) .nil) .nil) (.cons (.set (.name 8) (.comp (.var 0) (.name 0) (.seq (.var 1)) (.cons (.cmp .Gt (.var 0) (.var 1)) .nil) ["_law_hint"] [3])) (.cons (.ifS (.bop true (.cons (.cmp .NotEq (.var 8) (.lst .nil)) (.cons (.cmp .Eq (.call 26 (.cons (.var 0) (.cons (.int 2) .nil))) (.int 0)) .nil))) (.cons (.set (.name 7) (.ix (.var 8) (.call 26 (.cons (.var 0) (.cons (.blt .len (.cons (.var 8) .nil)) .nil))))) .nil) .nil) (.cons (.set (.name 9) (.bin .Add (.blt .max2 (.cons (.var 4) (.cons (.var 3) .nil))) (.tmp (.ix (.lst (.cons (.int 0) (.cons (.call 26 (.cons (.var 0) (.cons (.int 4) .nil))) (.cons (.call 26 (.cons (.var 0) (.cons (.bin .Pow (.int 10) (.int 9)) .nil))) .nil)))) (.call 26 (.cons (.var 0) (.cons (.int 3) .nil))))))) (.cons (.set (.name 10) (.bin .Add (.blt .max2 (.cons (.var 9) (.cons (.var 7) .nil))) (.tmp (.ix (.lst (.cons (.int 0) (.cons (.call 26 (.cons (.var 0) (.cons (.int 4) .nil))) (.cons (.call 26 (.cons (.var 0) (.cons (.bin .Pow (.int 10) (.int 9)) .nil))) .nil)))) (.call 26 (.cons (.var 0) (.cons (.int 3) .nil))))))) (.cons (.ifS (.cmp .Eq (.var 7) (.int 0)) (.cons (.set (.name 10) (.var 9)) .nil) .nil) (.cons (.expr (.met .append (.var 2) (.cons (.tup (.cons (.var 7) (.cons (.var 9) (.cons (.var 10) .nil)))) .nil))) (.cons (.set (.tup (.cons (.name 3) (.cons (.name 4) .nil))) (.tup (.cons (.var 7) (.cons (.var 10) .nil)))) .nil)))))))))) (.cons (.ret (.var 2)) .nil)))))))
theorem uH:aD iY fu (ad cB)=true:=by decide +kernel
noncomputable abbrev bQ:Stmt:=top 35
theorem pf:ai ["_law_row_here","_law_found","_law_end","_law_low","_law_high","_law_begin","_law_ahead","_law_there","_law_bottom","_law_top","_law_rise"] ["_law_row_here"] (aa bQ):=⟨rfl,rfl,rfl,by decide +kernel,rfl,by decide +kernel,by decide +kernel⟩
noncomputable def gY:Cfg:={ N:=["_law_row_here","_law_found","_law_end","_law_low","_law_high","_law_begin","_law_ahead","_law_there","_law_bottom","_law_top","_law_rise"],names:=(aa bQ).names,fns:=cf,lim:=29,blts:=b9,gl:=glL }
noncomputable def ek:Ss:=(.cons (.set (.name 1) (.lst .nil)) (.cons (.forS (.tup (.cons (.name 2) (.cons (.name 3) (.cons (.name 4) .nil)))) (.seq (.var 0)) (.cons (.set (.name 5) (.ite (.cmp .NotEq (.var 1) (.lst .nil)) (.ix (.ix (.var 1) (.neg (.int 1))) (.int 0)) (.int 0))) (.cons (.ifS (.bop true (.cons (.cmp .NotEq (.var 1) (.lst .nil)) (.cons (.cmp .Eq (.ix (.ix (.var 1) (.neg (.int 1))) (.int 2)) (.var 3)) .nil))) (.cons (.set (.name 6) (.ite (.cmp .Gt (.blt .len (.cons (.var 1) .nil)) (.int 1)) (.ix (.ix (.var 1) (.neg (.int 2))) (.int 0)) (.int 0))) (.cons (.set (.tup (.cons (.name 7) (.cons (.name 8) (.cons (.name 9) .nil)))) (.ix (.var 1) (.neg (.int 1)))) (.cons (.set (.name 10) (.bin .Mult (.bin .Sub (.var 9) (.var 8)) (.bin .Sub (.var 2) (.var 5)))) (.cons (.ifS (.bop false (.cons (.cmp .Eq (.var 7) (.var 6)) (.cons (.cmp .Eq (.var 10) (.bin .Mult (.bin .Sub (.var 4) (.var 3)) (.bin .Sub (.var 7) (.var 6)))) .nil))) (.cons (.set (.name 3) (.var 8)) (.cons (.expr (.met .pop0 (.var 1) .nil)) .nil)) .nil) .nil)))) .nil) (.cons (.expr (.met .append (.var 1) (.cons (.tup (.cons (.var 2) (.cons (.var 3) (.cons (.var 4) .nil)))) .nil))) .nil)))) (.cons (.ret (.var 1)) .nil)))
theorem qQ:aD gY ek (ad bQ)=true:=by decide +kernel
noncomputable abbrev bT:Stmt:=top 36
theorem pR:ai ["_law_pot_here"] ["_law_pot_here"] (aa bT):=⟨rfl,rfl,rfl,by decide +kernel,rfl,by decide +kernel,by decide +kernel⟩
noncomputable def gW:Cfg:={ N:=["_law_pot_here"],names:=(aa bT).names,fns:=cf,lim:=30,blts:=b9,gl:=glL }
noncomputable def eN:Ss:=(.cons (.ret (.bin .Add (.int 1) (.call 26 (.cons (.var 0) (.cons (.ix (.tup (.cons (.int 1) (.cons (.int 2) (.cons (.int 12) (.cons (.bin .Pow (.int 10) (.int 11)) .nil))))) (.call 26 (.cons (.var 0) (.cons (.int 4) .nil)))) .nil))))) .nil)
theorem so:aD gW eN (ad bT)=true:=by decide +kernel
noncomputable abbrev bB:Stmt:=top 37
theorem nB:ai ["_law_row_here","_law_part_here"] ["_law_row_here","_law_part_here"] (aa bB):=⟨rfl,rfl,rfl,by decide +kernel,rfl,by decide +kernel,by decide +kernel⟩
noncomputable def fW:Cfg:={ N:=["_law_row_here","_law_part_here"],names:=(aa bB).names,fns:=cf,lim:=31,blts:=b9,gl:=glL }
noncomputable def dX:Ss:=(.cons (.ret (.tmp (.blt .tuple1 (.cons (.comp (.tmp (.blt .tuple1 (.cons (.comp (.call 27 (.cons (.var 0) (.cons (.var 1) .nil))) (.name 0) (.seq (.var 0)) .nil ["_law_number"] [1]) .nil))) (.name 0) (.seq (.call 29 (.cons (.var 0) .nil))) .nil ["_law_piece"] [1]) .nil)))) .nil)
theorem pO:aD fW dX (ad bB)=true:=by decide +kernel
noncomputable abbrev bA:Stmt:=top 38
theorem nF:ai ["_law_row_here"] ["_law_row_here"] (aa bA):=⟨rfl,rfl,rfl,by decide +kernel,rfl,by decide +kernel,by decide +kernel⟩
noncomputable def ga:Cfg:={ N:=["_law_row_here"],names:=(aa bA).names,fns:=cf,lim:=32,blts:=b9,gl:=glL }
noncomputable def dU:Ss:=(.cons (.ret (.bin .Add (.bin .Add (.comp (.var 0) (.tup (.cons (.name 0) (.cons (.name 1) (.cons (.name 2) .nil)))) (.seq (.var 0)) .nil ["_law_end","_law_low","_law_high"] []) (.comp (.var 1) (.tup (.cons (.name 0) (.cons (.name 1) (.cons (.name 2) .nil)))) (.seq (.var 0)) .nil ["_law_end","_law_low","_law_high"] [])) (.comp (.var 2) (.tup (.cons (.name 0) (.cons (.name 1) (.cons (.name 2) .nil)))) (.seq (.var 0)) .nil ["_law_end","_law_low","_law_high"] []))) .nil)
theorem pI:aD ga dU (ad bA)=true:=by decide +kernel
noncomputable abbrev bI:Stmt:=top 39
theorem nP:ai ["_law_one","_law_other","_law_third","_law_both"] ["_law_one","_law_other","_law_third"] (aa bI):=⟨rfl,rfl,rfl,by decide +kernel,rfl,by decide +kernel,by decide +kernel⟩
noncomputable def gh:Cfg:={ N:=["_law_one","_law_other","_law_third","_law_both"],names:=(aa bI).names,fns:=cf,lim:=33,blts:=b9,gl:=glL }
noncomputable def dW:Ss:=(.cons (.set (.name 3) (.call 24 (.cons (.var 0) (.cons (.var 1) .nil)))) (.cons (.ifS (.cmp .NotEq (.call 15 (.cons (.var 3) (.cons (.var 2) .nil))) (.call 24 (.cons (.call 15 (.cons (.var 0) (.cons (.var 2) .nil))) (.cons (.call 15 (.cons (.var 1) (.cons (.var 2) .nil))) .nil)))) (.cons (.ret (.bl false)) .nil) .nil) (.cons (.ifS (.cmp .NotEq (.call 15 (.cons (.var 2) (.cons (.var 3) .nil))) (.call 24 (.cons (.call 15 (.cons (.var 2) (.cons (.var 0) .nil))) (.cons (.call 15 (.cons (.var 2) (.cons (.var 1) .nil))) .nil)))) (.cons (.ret (.bl false)) .nil) .nil) (.cons (.ret (.cmp .Eq (.call 24 (.cons (.var 3) (.cons (.var 2) .nil))) (.call 24 (.cons (.var 0) (.cons (.call 24 (.cons (.var 1) (.cons (.var 2) .nil))) .nil))))) .nil))))
theorem qu:aD gh dW (ad bI)=true:=by decide +kernel
noncomputable abbrev iQ:Stmt:=top 40
theorem Eo:ai ["_law_script","_law_pot_here","_law_first","_law_second","_law_third","_law_part_here","_law_one","_law_other","_law_more"] ["_law_script"] (aa iQ):=⟨rfl,rfl,rfl,by decide +kernel,rfl,by decide +kernel,by decide +kernel⟩
noncomputable def DO:Cfg:={ N:=["_law_script","_law_pot_here","_law_first","_law_second","_law_third","_law_part_here","_law_one","_law_other","_law_more"],names:=(aa iQ).names,fns:=cf,lim:=34,blts:=b9,gl:=glL }
noncomputable def mn:Ss:=(.cons (.set (.name 1) (.call 25 (.cons (.var 0) (.cons (.int 0) .nil)))) (.cons (.set (.name 2) (.call 28 (.cons (.var 1) (.cons (.lst .nil) .nil)))) (.cons (.set (.name 3) (.call 28 (.cons (.var 1) (.cons (.call 32 (.cons (.var 2) .nil)) .nil)))) (.cons (.set (.name 4) (.call 28 (.cons (.call 25 (.cons (.var 0) (.cons (.int 1) .nil))) (.cons (.bin .Add (.call 32 (.cons (.var 2) .nil)) (.call 32 (.cons (.var 3) .nil))) .nil)))) (.cons (.set (.name 5) (.call 30 (.cons (.var 1) .nil))) (.cons (.set (.ltup (.cons (.name 6) (.cons (.name 7) (.cons (.name 8) .nil)))) (.comp (.call 31 (.cons (.var 0) (.cons (.var 1) .nil))) (.name 0) (.seq (.tup (.cons (.var 2) (.cons (.var 3) (.cons (.var 4) .nil))))) .nil ["_law_row_here"] [5])) (.cons (.ret (.bop true (.cons (.call 33 (.cons (.var 6) (.cons (.var 7) (.cons (.var 8) .nil)))) (.cons (.call 33 (.cons (.var 8) (.cons (.var 7) (.cons (.var 6) .nil)))) .nil)))) .nil)))))))
theorem Hd:aD DO mn (ad iQ)=true:=by decide +kernel
local macro_rules | `(tactic| walk_at "WP")=>`(tactic| simp only [p_,FJ,qH,vF,s_,uh,t3,pF,zD,Bg,yL,A2,uY,yC,AD,tJ,vL,sS,lF,wc,y8,BR,ud,Ai,vf,Cz,pH,Bo,td,u8,Bc,sZ,yk,Aq,Fi,BY,yv,Ep,yI,Be,AR,Bi,Aj,AJ,zT,Fp,zG,Fw,El,uc,yj,t9,BS,tG,A3,uF,pC,FE,zd,zJ,Fm,z8,Ba,zH,tI,zV,uI,zZ,Ej,uz,p6,vo,qd,ph,tB,pT,uX,qf,tP,A4,Ac,pM,qi,fY,jT,iz,km,qC,mD,B0,BL,Ak,Az,yP,zj,uZ,uf,vB,u9,tj,Af,EO,yA,A0,Ew,Fb,yT,AT,tW,uA,F4,F6,Eb,Gy,Bd,yO,yX,ki,mC,kC,ky,kg,jW,o8,pQ,pZ,pN,mq,m9,mR,j9,kK,iU,kI,mJ,jQ,jU,kv,jV,yG,zu,Aa,rH,ou,Ae,yB,zf,Bp,Ao,Av,tO,tX,t7,z9,na,tH,uB,yy,AC,Bs,Er,EX,EZ,Ek,Gq,AF,t4,vI,uT,frame,Γ_0,Γ_1,Γ_2,Γ_3,Γ_4,Γ_5,Γ_6,Γ_7,Γ_8,Γ_9,EF,FF,EJ,Eg,EM,Ga,Gx,Go,Ev,FM,EI,Fk,F9,FI,Eh,Fe,E4,ES,FL,Em,Gk,Fq,EG,GB,FC,Nat.add_assoc,eY,gT,List.append_assoc,List.length_append,List.length_set,List.map_cons,List.map_nil,List.length_cons,List.length_nil,List.replicate,List.cons_append,List.nil_append,List.append_nil,List.getElem?_cons_zero,List.getElem?_cons_succ,List.set_cons_zero,List.set_cons_succ,Option.some.injEq,Cell.lst.injEq,PV.int.injEq,PV.bl.injEq,PV.ref.injEq,PV.str.injEq,PV.tup.injEq,PV.rdl.injEq,List.cons.injEq,and_true,true_and,exists_eq_left,exists_eq_left',exists_eq_right,exists_and_left,exists_and_right,exists_const,Bool.not_true,Bool.not_false,Bool.not_not,Bool.not_eq_true',decide_eq_true_eq,decide_eq_false_iff_not,false_and,and_false,false_or,or_false,if_true,if_false,Bool.false_eq_true,reduceCtorEq,reduceIte,not_false_eq_true,Nat.add_zero,Nat.zero_add,Nat.reduceAdd,Nat.reduceSub,Nat.reduceLeDiff,Int.reduceToNat,Int.reducePow,Int.reduceLT,Int.reduceLE,Int.reduceNeg,Int.reduceAdd,Int.reduceSub,Int.reduceMul,tw,qw,exists_eq,exists_eq',exists_false,ne_eq,not_true_eq_false,and_assoc,Option.join_some,Option.join_none,decide_true,decide_false,vt,vO,um,ur,tQ,tU,vn,Int.reduceEq,Nat.reduceEqDiff,Bool.not_eq_false,Bool.not_eq_true,Bool.and_true,Bool.true_and,Bool.and_false,Bool.false_and,Bool.or_false,Bool.or_true])
local macro_rules | `(tactic| walk_at "WPO")=>`(tactic| simp only [p_,FJ,qH,vF,s_,uh,t3,pF,zD,Bg,yL,A2,uY,yC,AD,tJ,vL,sS,lF,wc,y8,BR,ud,Ai,vf,Cz,pH,Bo,td,u8,Bc,sZ,yk,Aq,Fi,BY,yv,Ep,yI,Be,AR,Bi,Aj,AJ,zT,Fp,zG,Fw,El,uc,yj,t9,BS,tG,A3,uF,pC,FE,zd,zJ,Fm,z8,Ba,zH,tI,zV,uI,zZ,Ej,uz,p6,vo,qd,ph,tB,pT,uX,qf,tP,A4,Ac,pM,qi,fY,jT,iz,km,qC,mD,B0,BL,Ak,Az,yP,zj,uZ,uf,vB,u9,tj,Af,EO,yA,A0,Ew,Fb,yT,AT,tW,uA,F4,F6,Eb,Gy,Bd,yO,yX,ki,mC,kC,ky,kg,jW,o8,pQ,pZ,pN,mq,m9,mR,j9,kK,iU,kI,mJ,jQ,jU,kv,jV,yG,zu,Aa,rH,ou,Ae,yB,zf,Bp,Ao,Av,tO,tX,t7,z9,na,tH,uB,yy,AC,Bs,Er,EX,EZ,Ek,Gq,AF,t4,vI,uT,frame,Γ_0,Γ_1,Γ_2,Γ_3,Γ_4,Γ_5,Γ_6,Γ_7,Γ_8,Γ_9,EF,FF,EJ,Eg,EM,Ga,Gx,Go,Ev,FM,EI,Fk,F9,FI,Eh,Fe,E4,ES,FL,Em,Gk,Fq,EG,GB,FC,Nat.add_assoc,eY,gT,List.append_assoc,List.length_append,List.length_set,List.map_cons,List.map_nil,List.length_cons,List.length_nil,List.replicate,List.cons_append,List.nil_append,List.append_nil,List.getElem?_cons_zero,List.getElem?_cons_succ,List.set_cons_zero,List.set_cons_succ,Option.some.injEq,Cell.lst.injEq,PV.int.injEq,PV.bl.injEq,PV.ref.injEq,PV.str.injEq,PV.tup.injEq,PV.rdl.injEq,List.cons.injEq,and_true,true_and,exists_eq_left,exists_eq_left',exists_eq_right,exists_and_left,exists_and_right,exists_const,Bool.not_true,Bool.not_false,Bool.not_not,Bool.not_eq_true',decide_eq_true_eq,decide_eq_false_iff_not,false_and,and_false,false_or,or_false,if_true,if_false,Bool.false_eq_true,reduceCtorEq,reduceIte,not_false_eq_true,Nat.add_zero,Nat.zero_add,Nat.reduceAdd,Nat.reduceSub,Nat.reduceLeDiff,Int.reduceToNat,Int.reducePow,Int.reduceLT,Int.reduceLE,Int.reduceNeg,Int.reduceAdd,Int.reduceSub,Int.reduceMul,tw,qw,exists_eq,exists_eq',exists_false,ne_eq,not_true_eq_false,and_assoc,Option.join_some,Option.join_none,decide_true,decide_false,vt,vO,um,ur,tQ,tU,vn,Int.reduceEq,Nat.reduceEqDiff,Bool.not_eq_false,Bool.not_eq_true,Bool.and_true,Bool.true_and,Bool.and_false,Bool.false_and,Bool.or_false,Bool.or_true,GV])
theorem kH {as st Q} (h:aZ as st Q):ay Γ cG (frame 2 as) st (ag st Q):=by
 obtain ⟨n,d,rfl,k⟩:=h
 unfold cG
 walk_at "WP"
 refine gL Γm (fun m ρ s=>∃a b:Nat,ρ=[some (.int a),some (.int b)]∧s=st∧Nat.gcd a b=Nat.gcd n d∧m=b) (n:=d) ⟨n,d,rfl,rfl,rfl,rfl⟩ ?_
 rintro m ρ s ⟨a,b,rfl,rfl,hg,rfl⟩
 walk_at "WP"
 by_cases hb:(m:Int)=0
 ·rw [if_neg (fun z=>z hb)]
  have:m=0:=by omega
  subst this
  rw [Nat.gcd_zero_right] at hg
  rw [hg]
  exact .inl k
 ·rw [if_pos hb]
  refine ⟨by omega,a % m,Nat.mod_lt _ (by omega),m,rfl,a % m,?_,?_,rfl⟩
  ·simp
  ·rw [←hg,Nat.gcd_comm a m,Nat.gcd_rec m a,Nat.gcd_comm]
theorem uE {as st Q} (h:dc as st Q):ay Γ fz (frame 3 as) st (ag st Q):=by
 obtain ⟨n,d,rfl,h1,h2,k⟩:=h
 unfold fz
 walk_at "WP"
 refine ⟨n,d,rfl,?_⟩
 walk_at "WP"
 refine ⟨lK h1 h2,lK h1 h2,?_⟩
 rw [←Int.natCast_ediv,←Int.natCast_ediv]
 exact .inl k
theorem D9 {as st Q} (h:io as st Q):ay Γ jP (frame 2 as) st (ag st Q):=by
 obtain ⟨p,q,rfl,hp,hq,k⟩:=h
 unfold jP
 walk_at "WP"
 refine ⟨fO hp.a hq.b,fO hq.a hp.b,fO hp.b hq.b,p.1*q.2+q.1*p.2,p.2*q.2,?_,Nat.mul_pos hp.pos hq.pos,Fg hp.b hq.b,.inl k⟩
 rw [Int.natCast_add,Int.natCast_mul,Int.natCast_mul,Int.natCast_mul]
theorem D8 {as st Q} (h:iC as st Q):ay Γ kN (frame 2 as) st (ag st Q):=by
 obtain ⟨p,q,rfl,hp,hq,hle,k⟩:=h
 unfold kN
 walk_at "WP"
 refine ⟨fO hp.a hq.b,fO hq.a hp.b,fO hp.b hq.b,p.1*q.2-q.1*p.2,p.2*q.2,?_,Nat.mul_pos hp.pos hq.pos,Fg hp.b hq.b,.inl k⟩
 rw [Int.natCast_sub hle,Int.natCast_mul,Int.natCast_mul,Int.natCast_mul]
theorem Db {as st Q} (h:fK as st Q):ay Γ iZ (frame 2 as) st (ag st Q):=by
 obtain ⟨p,q,rfl,hp,hq,k⟩:=h
 unfold iZ
 walk_at "WP"
 refine ⟨fO hp.a hq.a,fO hp.b hq.b,p.1*q.1,p.2*q.2,?_,Nat.mul_pos hp.pos hq.pos,Fg hp.b hq.b,.inl k⟩
 rw [Int.natCast_mul,Int.natCast_mul]
theorem fb {s:AH} {n m:Nat} {xs:List PV} {k:Bool→Prop} (h1:s[n]?=some (.lst xs)) (h2:s[m]?=some (.lst [])) (hd:cw 5 xs=true) (q:k xs.isEmpty):eqW s (.ref n) (.ref m) k:=by
 obtain ⟨ds,e,d1,d2⟩:=bZ hd
 refine ⟨.list ds,.list [],by simp [mK,h1,e],by simp [mK,h2,PV.toDs],by simp [SeqAt.shaped,PyData.canLay0,PyData.depth,d1];omega,by simp [SeqAt.shaped,PyData.canLay0,PyData.canLayAll0,PyData.depth,PyData.depthAll],?_⟩
 have:PyData.eqv (.list ds) (.list [])=xs.isEmpty:=by
  cases xs with
  | nil=>simp [PV.toDs] at e;subst e;simp [PyData.eqv,PyData.eqvAll]
  | cons y ys =>
   cases ds with
   | nil=>rw [PV.toDs] at e;split at e <;> simp at e
   | cons=>simp [PyData.eqv,PyData.eqvAll]
 rw [this]
 exact q
theorem sm {X:List Pc}:cw 5 (X.map pcV)=true:=d_ fun v hv=>by
 obtain ⟨p,_,rfl⟩:=List.mem_map.mp hv
 rfl
theorem aC {st g:AH} {c:Cell}:(st++c::g)[st.length]?=some c:=by simp
theorem dF {st g:AH} {c c':Cell}:(st++c::g).set st.length c'=st++c'::g:=by
 rw [List.set_append_right _ _ (Nat.le_refl _),Nat.sub_self]
 rfl
theorem sub_le {p q:Nat × Nat} (hp:Sz 3000 p) (hq:Sz 3000 q) (h:val q≤val p):q.1*p.2≤p.1*q.2:=(j_ hq.pos hp.pos).mpr h
theorem xK {as st Q} (h:eD as st Q):ay Γ fZ (frame 7 as) st (ag st Q):=by
 obtain ⟨b,a,p,rfl,hb,ha,hp,h1,h2,h3,h4,k⟩:=h
 unfold fZ
 walk_at "WP"
 refine i_ ?_
 by_cases q:p.l=a.h
 ·rw [decide_eq_true q]
  walk_at "WP"
  have c1:=ha.h.mono (k:=3000) (by decide)
  have c2:=ha.l.mono (k:=3000) (by decide)
  have c3:=ha.e.mono (k:=3000) (by decide)
  have c4:=hb.mono (k:=3000) (by decide)
  have c5:=hp.h.mono (k:=3000) (by decide)
  have c6:=hp.l.mono (k:=3000) (by decide)
  have c7:=hp.e.mono (k:=3000) (by decide)
  refine ⟨a.h,a.l,rfl,c1,c2,sub_le c1 c2 h3,a.e,b,rfl,c3,c4,sub_le c3 c4 h1,p.h,p.l,rfl,c5,c6,sub_le c5 c6 h4,p.e,a.e,rfl,c7,c3,sub_le c7 c3 (Rat.le_of_lt h2),?_⟩
  have d1:=(iy ha.h ha.l).mono (k:=3000) (by decide)
  have d2:=(iy ha.e hb).mono (k:=3000) (by decide)
  have d3:=(iy hp.h hp.l).mono (k:=3000) (by decide)
  have d4:=(iy hp.e ha.e).mono (k:=3000) (by decide)
  refine ⟨_,_,rfl,d1,d4,_,_,rfl,d3,d2,i_ (.inl ?_)⟩
  unfold gB at k
  rw [decide_eq_true q,Bool.true_and] at k
  exact k
 ·rw [decide_eq_false q]
  walk_at "WP"
  unfold gB at k
  rw [decide_eq_false q,Bool.false_and] at k
  exact .inl k
noncomputable def LnI (st:AH) (L:List Pc) (i:Nat) (ρ:Fr) (s:AH):Prop:=∃(X:List Pc) (b:Nat × Nat) (g:AH) (a:Option PV),s=st++.lst (X.map pcV)::g∧ρ=[some (bL L),some (.ref st.length),some (fr b),a]∧X.length≤i ∧
  ((X=[]∧b=(0,1)∧i=0)∨∃Y c,X=Y++[c]∧bc L=Y++aJ b c (L.drop i)∧Sz 1400 b∧c.Sz 1400∧val b≤c.E∧c.L≤c.H∧Ch c.E (L.drop i))
theorem jo {Y:List Pc} {c:Pc}:(Y++[c]).map pcV=Y.map pcV++[pcV c]:=by simp
theorem rc {Y:List Pc} {c:Pc}:((Y++[c]).map pcV).isEmpty=false:=by simp
theorem yK {n:Nat}:ixN (n+1) (-1)=some n:=by
 unfold ixN
 simp
 omega
theorem Gn {as st Q} (h:jB as st Q):ay Γ kl (frame 4 as) st (ag st Q):=by
 obtain ⟨L,rfl,hz,hL,hl,k⟩:=h
 unfold kl
 walk_at "WP"
 have s01:Sz 1400 (0,1):=⟨Nat.pow_pos (by decide),Nat.one_lt_two_pow (by decide),by decide⟩
 refine kF Γm (LnI st L) ⟨[],(0,1),[],none,rfl,rfl,Nat.le_refl _,.inl ⟨rfl,rfl,rfl⟩⟩ ?_ ?_
 ·rintro i v ρ s hi ⟨X,b,g,a,rfl,rfl,hXi,hX⟩
  refine ⟨trivial,?_⟩
  rw [List.getElem?_map] at hi
  obtain ⟨p,hp,rfl⟩:=Option.map_eq_some_iff.mp hi
  have il:=(List.getElem?_eq_some_iff.mp hp).1
  have hd:L.drop i=p::L.drop (i+1):=by rw [List.drop_eq_getElem_cons il,(List.getElem?_eq_some_iff.mp hp).2]
  have pz:=hz p (List.mem_of_getElem? hp)
  walk_at "WP"
  refine fb (xs:=X.map pcV) (by simp) (by simp) sm ?_
  rcases hX with ⟨rfl,rfl,rfl⟩|⟨Y,c,rfl,hF,zb,zc,o1,o2,hc⟩
  ·rw [if_neg (by simp)]
   refine fb (xs:=[]) (by simp) (by simp) (by rw [cw]) ?_
   rw [if_pos (show ([]:List PV).isEmpty=true from rfl)]
   refine ⟨⟨_,bK aC⟩,by simp,[p],(0,1),g++[.lst [],.lst []],some (pcV p),?_,rfl,by simp,.inr ⟨[],p,rfl,?_,s01,pz,?_⟩⟩
   ·rw [dF];rfl
   ·have:L=p::L.drop 1:=by simpa using hd
    rw [this]
    rfl
   ·have e:L=p::L.drop 1:=by simpa using hd
    rw [e] at hL
    exact ⟨by rw [val_nought];exact aI hL.1.e.pos,hL.2.1,hL.2.2⟩
  ·rw [if_pos rc]
   rw [hd] at hc hF
   obtain ⟨pok,c1,c2,c3⟩:=hc
   refine ⟨_,af aC,pcV c,by rw [jo];exact fC,b,c,p,rfl,zb,zc,pz,o1,c1,o2,c2,?_⟩
   rw [aJ] at hF
   have len:((Y++[c]).map pcV).length=Y.length+1:=by simp
   have lY:Y.length+1≤i:=by simpa using hXi
   cases gb:gB b c p with
   | true =>
    rw [if_pos gb] at hF
    walk_at "WP"
    refine ⟨_,af aC,pcV c,by rw [jo];exact fC,?_⟩
    walk_at "WP"
    refine ⟨Y.length,by rw [List.length_map,List.length_append];exact yK,Y++[c.mg p],b,g++[.lst []],some (pcV p),?_,rfl,by simp;omega,.inr ⟨Y,c.mg p,rfl,hF,zb,⟨pz.e,zc.l,pz.h⟩,?_,?_,c3⟩⟩
    ·rw [dF,jo]
     simp
    ·show val b≤p.E
     grind
    ·show c.L≤p.H
     have e:p.l=c.h:=by
      unfold gB at gb
      rw [Bool.and_eq_true,decide_eq_true_eq] at gb
      exact gb.1
     have:p.L=c.H:=by unfold Pc.L Pc.H;rw [e]
     grind
   | false =>
    rw [if_neg (by rw [gb];decide)] at hF
    walk_at "WP"
    refine fb (xs:=(Y++[c]).map pcV) (by simp) (by simp) sm ?_
    rw [rc,if_neg (by decide)]
    refine ⟨_,af aC,pcV c,by rw [jo];exact fC,?_⟩
    walk_at "WP"
    refine ⟨⟨_,bK aC⟩,by rw [len];omega,Y++[c]++[p],c.e,g++[.lst [],.lst []],some (pcV p),?_,rfl,by simp;omega,.inr ⟨Y++[c],p,rfl,?_,zc.e,pz,Rat.le_of_lt c1,c2,c3⟩⟩
    ·rw [dF]
     simp
    ·rw [hF]
     simp
 ·rintro ρ s ⟨X,b,g,a,rfl,rfl,hXi,hX⟩
  refine ⟨trivial,?_⟩
  walk_at "WP"
  have fin:bc L=X:=by
   rw [List.length_map] at hX
   rcases hX with ⟨rfl,_,h0⟩|⟨Y,c,rfl,hF,_⟩
   ·rw [List.length_eq_zero_iff.mp h0];rfl
   ·rw [hF,List.drop_length];rfl
  refine ⟨_,af aC,.inr (.app ?_ ?_)⟩
  ·refine PV.bel_le (Nat.zero_le _) ?_
   rw [PV.bel]
   clear hX fin hXi
   induction X with
   | nil=>rw [List.map_nil,PV.bels]
   | cons x xs ih=>rw [List.map_cons,PV.bels,ih];rfl
  ·rw [fin] at k
   exact k
theorem cU {α:Type} (U:List α):U=[]∨∃Y c,U=Y++[c]:=by
 rcases List.eq_nil_or_concat U with h|⟨Y,c,h⟩
 ·exact .inl h
 ·exact .inr ⟨Y,c,by rw [h,List.concat_eq_append]⟩
theorem wd {X:List Un3}:cw 5 (X.map uV)=true:=d_ fun v hv=>by
 obtain ⟨p,_,rfl⟩:=List.mem_map.mp hv
 rfl
theorem AM:∀ {U:List Un3} {b hh:Nat} {u:Un3},RU b hh U→(U=[]→b<u.1∧hh≤u.2.1∧u.2.1≤u.2.2∧u.1≤u.2.2)→(∀v,U.getLast?=some v→v.1<u.1∧v.2.2≤u.2.1∧u.2.1≤u.2.2∧u.1≤u.2.2)→RU b hh (U++[u])
 | [],b,hh,u,_,h1,_=>by
  obtain ⟨a1,a2,a3,a4⟩:=h1 rfl
  exact ⟨a1,a2,a3,a4,trivial⟩
 | v::U,b,hh,u,⟨k1,k2,k3,k4,k5⟩,_,h2=>by
  refine ⟨k1,k2,k3,k4,AM k5 (fun e=>?_) fun w hw=>h2 w ?_⟩
  ·subst e
   exact h2 v rfl
  ·cases U with
   | nil=>simp at hw
   | cons z Z=>rw [List.getLast?_cons_cons];exact hw
theorem Dq {U:List Un3} {u:Un3} (h:RUF U) (a:App U u):RUF (U++[u]):=by
 cases U with
 | nil =>
  obtain ⟨a1,a2,a3⟩:=a.fst rfl
  exact ⟨a1,a2,a3,trivial⟩
 | cons v U =>
  obtain ⟨k1,k2,k3,k4⟩:=h
  refine ⟨k1,k2,k3,AM k4 (fun e=>?_) fun w hw=>a.nxt w ?_⟩
  ·subst e
   exact a.nxt v rfl
  ·cases U with
   | nil=>simp at hw
   | cons z Z=>rw [List.getLast?_cons_cons];exact hw
theorem DS (a b:Nat):∃M:Nat,(if (a:Int)<b then (b:Int) else a)=M∧a≤M∧b≤M∧(M=a∨M=b):=by
 by_cases h:a<b
 ·exact ⟨b,by rw [if_pos (by omega)],by omega,by omega,.inr rfl⟩
 ·exact ⟨a,by rw [if_neg (by omega)],by omega,by omega,.inl rfl⟩
theorem di {p:Prop} {inst:Decidable p} {A B:Prop} (h1:p→A) (h2:¬p→B):@ite Prop p inst A B:=by
 by_cases h:p
 ·rw [if_pos h];exact h1 h
 ·rw [if_neg h];exact h2 h
theorem BdU.mono {N M:Nat} {U:List Un3} (h:BdU N U) (hm:N≤M):BdU M U:=fun u hu=>⟨Nat.le_trans (h u hu).1 hm,Nat.le_trans (h u hu).2.1 hm,Nat.le_trans (h u hu).2.2 hm⟩
theorem Rt.at_:∀ {r:List Pc} {b hh:Rat} {i:Nat} {p:Pc},Rt b hh r→r[i]?=some p→p.Ok∧p.L≤p.H∧p.E≤p.H∧b<p.E∧hh≤p.L
 | q::r,b,hh,0,p,⟨h1,h2,h3,h4,h5,h6⟩,e=>by cases e;exact ⟨h1,h4,h5,h2,h3⟩
 | q::r,b,hh,i+1,p,⟨h1,h2,h3,h4,h5,h6⟩,e=>by
  obtain ⟨k1,k2,k3,k4,k5⟩:=h6.at_ (i:=i) (by simpa using e)
  exact ⟨k1,k2,k3,by grind,by grind⟩
theorem Rt.two:∀ {r:List Pc} {b hh:Rat} {i:Nat} {q p:Pc},Rt b hh r→r[i]?=some q→r[i+1]?=some p→q.E<p.E∧q.H≤p.L
 | a::r,b,hh,0,q,p,⟨h1,h2,h3,h4,h5,h6⟩,e1,e2=>by
  cases e1
  have:=h6.at_ (i:=0) (by simpa using e2)
  exact ⟨this.2.2.2.1,this.2.2.2.2⟩
 | a::r,b,hh,i+1,q,p,⟨h1,h2,h3,h4,h5,h6⟩,e1,e2=>h6.two (i:=i) (by simpa using e1) (by simpa using e2)
theorem RtF.at_ {L:List Pc} {i:Nat} {p:Pc} (h:RtF L) (e:L[i]?=some p):p.Ok∧p.L≤p.H∧p.E≤p.H:=by
 cases L with
 | nil=>simp at e
 | cons a r =>
  cases i with
  | zero=>cases e;exact ⟨h.1,h.2.1,h.2.2.1⟩
  | succ i =>
   obtain ⟨k1,k2,k3,k4,k5⟩:=h.2.2.2.2.at_ (i:=i) (by simpa using e)
   exact ⟨k1,k2,k3⟩
theorem RtF.two {L:List Pc} {i:Nat} {q p:Pc} (h:RtF L) (e1:L[i]?=some q) (e2:L[i+1]?=some p):q.E<p.E∧q.H≤p.L:=by
 cases L with
 | nil=>simp at e1
 | cons a r =>
  cases i with
  | zero =>
   cases e1
   obtain ⟨k1,k2,k3,k4,k5⟩:=h.2.2.2.2.at_ (i:=0) (by simpa using e2)
   exact ⟨k4,k5⟩
  | succ i=>exact h.2.2.2.2.two (i:=i) (by simpa using e1) (by simpa using e2)
noncomputable def bg (L:List Pc):Nat→Nat × Nat
 | 0=>(0,1)
 | i+1=>((L[i]?).map Pc.e).getD (0,1)
noncomputable def hg (L:List Pc):Nat→Nat × Nat
 | 0=>(0,1)
 | i+1=>((L[i]?).map Pc.h).getD (0,1)
theorem jg {p q:Nat × Nat} {j:Nat} (hp:Sz j p) (hq:Sz j q) (h:val q≤val p):decide (p.1*q.2<q.1*p.2)=false:=decide_eq_false fun z=>by
 have:=(je hp.pos hq.pos).mp z
 grind
theorem gj {p q:Nat × Nat} {j:Nat} (hp:Sz j p) (hq:Sz j q) (h:val p<val q):decide (p.1*q.2<q.1*p.2)=true:=decide_eq_true ((je hp.pos hq.pos).mpr h)
theorem bgS {L:List Pc} {i:Nat} {q:Pc} (h:L[i]?=some q):bg L (i+1)=q.e:=by show ((L[i]?).map Pc.e).getD (0,1)=_;rw [h];rfl
theorem nb {L:List Pc} {i:Nat} {q:Pc} (hR:RtF L) (hq:L[i]?=some q):Cop (bg L i)∧val (bg L i)≤q.E∧(val (bg L i)=q.E→q.L=q.H)∧(i≠0→val (bg L i)<q.E):=by
 obtain ⟨qok,q1,q2⟩:=hR.at_ hq
 cases i with
 | zero =>
  refine ⟨ib,?_,?_,fun z=>absurd rfl z⟩
  ·show val (0,1)≤_;rw [val_nought];exact aI qok.e.pos
  ·show val (0,1)=_→_
   rw [val_nought]
   cases L with
   | nil=>simp at hq
   | cons a r=>cases hq;exact hR.2.2.2.1
 | succ i =>
  have il:=(List.getElem?_eq_some_iff.mp hq).1
  have ha:L[i]?=some L[i]:=List.getElem?_eq_getElem (by omega)
  obtain ⟨k1,k2⟩:=hR.two ha hq
  rw [bgS ha]
  exact ⟨(hR.at_ ha).1.e,Rat.le_of_lt k1,fun z=>absurd z (by grind),fun _=>k1⟩
theorem bgZ {L:List Pc} {i k:Nat} (hz:SzL k L) (h:i≤L.length) (h1:1≤k):Sz k (bg L i):=by
 cases i with
 | zero=>exact (⟨Nat.pow_pos (by decide),Nat.one_lt_two_pow (by omega),by decide⟩:Sz k (0,1))
 | succ i =>
  have ha:L[i]?=some L[i]:=List.getElem?_eq_getElem (by omega)
  rw [bgS ha]
  exact (hz _ (List.mem_of_getElem? ha)).e
theorem qg {X:List Pc} {n:Nat}:(bL X).bel n=true:=by
 refine PV.bel_le (Nat.zero_le _) ?_
 rw [PV.bel]
 induction X with
 | nil=>rw [List.map_nil,PV.bels]
 | cons x xs ih=>rw [List.map_cons,PV.bels,ih];rfl
theorem eX {X:List Pc}:aW 4 (bL X)=true:=oM fun v hv=>by
 obtain ⟨p,_,rfl⟩:=List.mem_map.mp hv
 rfl
theorem lN {M:List PV}:PV.same (.tup M) (.tup [])=M.isEmpty:=by cases M <;> simp [PV.same,PV.sames]
theorem RU.rt {d:Nat} (h0:0<d):∀ {U:List Un3} {b hh:Nat},RU b hh U→Rt ((b:Rat)/d) ((hh:Rat)/d) (U.map (av d))
 | [],_,_,_=>trivial
 | u::r,b,hh,⟨h1,h2,h3,h4,h5⟩=>by
  have dp:=aF h0
  have lt:∀ {x y:Nat},x<y→(x:Rat)/d<(y:Rat)/d:=fun h=>by
   rw [Rat.div_lt_iff dp]
   have e:∀y:Rat,y/d*d=y:=fun y=>by grind
   rw [e]
   exact Rat.natCast_lt_natCast.mpr h
  have le:∀ {x y:Nat},x≤y→(x:Rat)/d≤(y:Rat)/d:=fun {x y} h=>by
   by_cases e:x=y
   ·rw [e];exact Rat.le_refl
   ·exact Rat.le_of_lt (lt (by omega))
  have ih:=RU.rt h0 h5
  refine ⟨⟨.low h0,.low h0,.low h0⟩,?_,?_,?_,?_,?_⟩
  ·show _<val (aG u.1 d);rw [aw h0];exact lt h1
  ·show _≤val (aG u.2.1 d);rw [aw h0];exact le h2
  ·show val (aG u.2.1 d)≤val (aG u.2.2 d);rw [aw h0,aw h0];exact le h3
  ·show val (aG u.1 d)≤val (aG u.2.2 d);rw [aw h0,aw h0];exact le h4
  ·show Rt (val (aG u.1 d)) (val (aG u.2.2 d)) _
   rw [aw h0,aw h0]
   exact ih
theorem RUF.rt {d:Nat} (h0:0<d) {U:List Un3} (h:RUF U):RtF (U.map (av d)):=by
 cases U with
 | nil=>trivial
 | cons u r =>
  obtain ⟨h1,h2,h3,h4⟩:=h
  have dp:=aF h0
  have le:∀ {x y:Nat},x≤y→(x:Rat)/d≤(y:Rat)/d:=fun {x y} h=>by
   rw [←Rat.not_lt,Rat.div_lt_iff dp]
   have e:∀y:Rat,y/d*d=y:=fun y=>by grind
   rw [e,Rat.not_lt]
   exact Rat.natCast_le_natCast.mpr h
  refine ⟨⟨.low h0,.low h0,.low h0⟩,?_,?_,?_,?_⟩
  ·show val (aG u.2.1 d)≤val (aG u.2.2 d);rw [aw h0,aw h0];exact le h1
  ·show val (aG u.1 d)≤val (aG u.2.2 d);rw [aw h0,aw h0];exact le h2
  ·show 0=val (aG u.1 d)→val (aG u.2.1 d)=val (aG u.2.2 d)
   rw [aw h0,aw h0,aw h0]
   intro z
   have:u.1=0:=by
    have e:(u.1:Rat)=0:=by grind
    exact Rat.natCast_eq_zero_iff.mp e
   rw [h3 this]
  ·show Rt (val (aG u.1 d)) (val (aG u.2.2 d)) _
   rw [aw h0,aw h0]
   exact h4.rt h0
theorem uK {k:Nat}:∀ {r:List Pc} {b:Nat × Nat} {a:Pc},a.Sz k→SzL k r→SzL k (aJ b a r)
 | [],b,a,ha,_=>fun p hp=>by rw [aJ,List.mem_singleton] at hp;rw [hp];exact ha
 | q::r,b,a,ha,hr=>by
  have hq:=hr q (by simp)
  have hr':SzL k r:=fun p hp=>hr p (by simp [hp])
  rw [aJ]
  by_cases g:gB b a q=true
  ·rw [if_pos g]
   exact uK (a:=a.mg q) ⟨hq.e,ha.l,hq.h⟩ hr'
  ·rw [if_neg g]
   intro p hp
   rcases List.mem_cons.mp hp with rfl|hp
   ·exact ha
   ·exact uK hq hr' p hp
theorem rT {k:Nat} {L:List Pc} (h:SzL k L):SzL k (bc L):=by
 cases L with
 | nil=>exact h
 | cons a r=>exact uK (h a (by simp)) fun p hp=>h p (by simp [hp])
theorem t5:∀ {r:List Pc} {b:Nat × Nat} {a:Pc},(aJ b a r).length≤r.length+1
 | [],b,a=>Nat.le_refl _
 | q::r,b,a=>by
  rw [aJ]
  by_cases g:gB b a q=true
  ·rw [if_pos g]
   have:=t5 (r:=r) (b:=b) (a:=a.mg q)
   simp;omega
  ·rw [if_neg g]
   have:=t5 (r:=r) (b:=a.e) (a:=q)
   simp;omega
theorem iD {L:List Pc}:(bc L).length≤L.length:=by
 cases L with
 | nil=>exact Nat.le_refl _
 | cons a r=>exact t5
theorem vz {a:Nat} {L:FSp} (hL:rL L) {as st Q} (q:C5 a L as st Q):ay (ΓL Γ a L) fk (frame 5 as) st (ag st Q):=by
 obtain ⟨xs,g,rfl,hl,hg,q⟩:=q
 unfold fk
 walk_at "WP"
 refine gL (vV Γm hL) (fun m ρ s=>∃(lo hi:Nat) (c:Option PV),ρ=[some (.tup xs),some (.fn a),some (.int lo),some (.int hi),c]∧s=st∧hi≤xs.length∧m=hi-lo∧∃n,m≤n∧bsr g xs=og g xs n lo hi) (n:=xs.length-0) ⟨0,xs.length,none,rfl,rfl,Nat.le_refl _,rfl,xs.length,Nat.le_refl _,rfl⟩ ?_
 rintro m ρ s ⟨lo,hi,c,rfl,rfl,hh,rfl,n,hn,hb⟩
 walk_at "WP"
 by_cases h:lo<hi
 ·have h':(lo:Int)<hi:=by omega
  rw [if_pos (by simpa using h')]
  have e:((lo:Int)+hi)/2=((lo+hi)/2:Nat):=by omega
  rw [e]
  have hm:(lo+hi)/2<xs.length:=by omega
  have ha:atI xs (((lo+hi)/2:Nat):Int)=some xs[(lo+hi)/2]:=bC (List.getElem?_eq_getElem hm)
  cases n with
  | zero=>omega
  | succ n =>
   rw [og,if_pos h] at hb
   have hd:xs.getD ((lo+hi)/2) .non=xs[(lo+hi)/2]:=by simp [List.getD_eq_getElem?_getD,hm]
   rw [hd] at hb
   refine ⟨CBig.of (by decide) (by decide),a,rfl,_,ha,?_⟩
   rw [DW]
   refine ⟨_,rfl,hg _ (List.getElem_mem hm) _ ?_⟩
   cases hz:g xs[(lo+hi)/2] with
   | true =>
    rw [hz,if_pos rfl] at hb
    simp only [hz,dY,if_true]
    exact ⟨hi-((lo+hi)/2+1),by omega,(lo+hi)/2+1,by omega,hi,rfl,trivial,hh,rfl,n,by omega,hb⟩
   | false =>
    rw [hz,if_neg Bool.false_ne_true] at hb
    simp only [hz,dY,Bool.false_eq_true,if_false]
    exact ⟨(lo+hi)/2-lo,by omega,lo,rfl,(lo+hi)/2,rfl,trivial,by omega,rfl,n,by omega,hb⟩
 ·have h':¬(lo:Int)<hi:=by omega
  rw [if_neg (by simpa using h')]
  have:og g xs n lo hi=lo:=by
   cases n with
   | zero=>rfl
   | succ n=>rw [og,if_neg h]
  rw [this] at hb
  rw [hb] at q
  exact .inl q
theorem qG {L:List Pc} {t:Rat} (hR:RtF L):∀ {i:Nat},i≤L.length→(i=0∨val (bg L i)<t)→cm 0 L t=cm (val (bg L i)) (L.drop i) t
 | 0,_,_=>by
  show _=cm (val (0,1)) (L.drop 0) t
  rw [val_nought,List.drop_zero]
 | i+1,hi,h=>by
  have ha:L[i]?=some L[i]:=List.getElem?_eq_getElem (by omega)
  have h':val (bg L (i+1))<t:=h.resolve_left (by omega)
  rw [bgS ha] at h' ⊢
  obtain ⟨n1,n2,n3,n4⟩:=nb hR ha
  rw [qG hR (i:=i) (by omega) (by grind),List.drop_eq_getElem_cons (show i<L.length by omega)]
  rw [cm,if_neg (show ¬t≤(L[i]).E by grind)]
theorem eR {L:List Pc} {i:Nat}:bgx L i=bg L i:=by cases i <;> rfl
theorem qR {as st Q} (h:dq as st Q):ay Γ ej (frame 2 as) st (ag st Q):=by
 obtain ⟨p,q,rfl,hp,hq,k⟩:=h
 unfold ej
 walk_at "WP"
 exact ⟨fO hp.a hq.b,fO hq.a hp.b,.inl k⟩
theorem uR {as st Q} (h:dg as st Q):ay Γ fw (frame 2 as) st (ag st Q):=by
 obtain ⟨p,q,rfl,hp,hq,k⟩:=h
 unfold fw
 walk_at "WP"
 refine ⟨fO hp.a hq.b,fO hq.a hp.b,?_⟩
 rw [←Int.natCast_mul,←Int.natCast_mul]
 simp only [Int.ofNat_lt]
 exact .inl k
theorem ik {p:Nat × Nat} (h:0<p.2):(p.1:Rat)=val p*(p.2:Rat):=by
 have:(p.2:Rat)≠0:=by simpa using Nat.pos_iff_ne_zero.mp h
 unfold val
 grind
theorem Ds {N Y F G X c:Rat} (hc:c≠0) (h:N<F):(c*(Y*(F-X)+G*(X-N)))/(c*(F-N))=Y+(G-Y)*((X-N)/(F-N)):=by
 have:F-N≠0:=by grind
 grind
theorem mL {as st Q} (h:bX as st Q):ay Γ dj (frame 2 as) st (ag st Q):=by
 obtain ⟨L,i,rfl,hi,k⟩:=h
 unfold dj
 walk_at "WP"
 cases i with
 | zero=>rw [if_pos (by rfl)];exact .inl k
 | succ i =>
  rw [if_neg (by omega)]
  have ha:L[i]?=some L[i]:=List.getElem?_eq_getElem (by omega)
  have e:((i+1:Nat):Int)-1=(i:Int):=by omega
  rw [e]
  refine ⟨pcV L[i],bC (by rw [List.getElem?_map,ha];rfl),?_⟩
  walk_at "WP"
  rw [eR,bgS ha] at k
  exact .inl k
theorem nO {as st Q} (h:bN as st Q):ay Γ dz (frame 10 as) st (ag st Q):=by
 obtain ⟨sa,sb,sc,sd,m,nx,ny,fx,fy,x,rfl,j2,⟨z1,z2,z3,z4,z5⟩,⟨v1,v2,v3⟩,k⟩:=h
 unfold dz
 walk_at "WP"
 have hD:nx.1*x.2≤x.1*nx.2:=(j_ z1.pos z5.pos).mpr v2
 have hE:x.1*fx.2≤fx.1*x.2:=(j_ z5.pos z3.pos).mpr v3
 have cD:(x.1:Int)*nx.2-nx.1*x.2=((x.1*nx.2-nx.1*x.2:Nat):Int):=by rw [Int.natCast_sub hD,Int.natCast_mul,Int.natCast_mul]
 have cE:(fx.1:Int)*x.2-x.1*fx.2=((fx.1*x.2-x.1*fx.2:Nat):Int):=by rw [Int.natCast_sub hE,Int.natCast_mul,Int.natCast_mul]
 refine ⟨_,_,rfl,z5.mono (by omega),z1.mono (by omega),?_⟩
 rw [cD]
 walk_at "WP"
 refine ⟨?_,_,_,rfl,z3.mono (by omega),z5.mono (by omega),?_⟩
 rotate_left
 rw [cE]
 walk_at "WP"
 simp only [←Int.natCast_mul,←Int.natCast_add]
 generalize hDd:x.1*nx.2-nx.1*x.2=D
 generalize hEe:fx.1*x.2-x.1*fx.2=E
 have p1:=aF z1.pos
 have p2:=aF z2.pos
 have p3:=aF z3.pos
 have p4:=aF z4.pos
 have p5:=aF z5.pos
 have qD:(D:Rat)=(val x-val nx)*(x.2*nx.2):=by
  have:=congrArg (fun k:Nat=>(k:Rat)) (Nat.sub_add_cancel hD)
  rw [hDd] at this
  simp only [Rat.natCast_add,Rat.natCast_mul] at this
  rw [ik z1.pos,ik z5.pos] at this
  grind
 have qE:(E:Rat)=(val fx-val x)*(fx.2*x.2):=by
  have:=congrArg (fun k:Nat=>(k:Rat)) (Nat.sub_add_cancel hE)
  rw [hEe] at this
  simp only [Rat.natCast_add,Rat.natCast_mul] at this
  rw [ik z3.pos,ik z5.pos] at this
  grind
 have bD:D<2 ^ (m+sa):=by rw [←hDd];exact Nat.lt_of_le_of_lt (Nat.sub_le _ _) (bf z5.a z1.b)
 have bE:E<2 ^ (sc+m):=by rw [←hEe];exact Nat.lt_of_le_of_lt (Nat.sub_le _ _) (bf z3.a z5.b)
 have b1:D*fx.2<2 ^ (m+sa+sc):=bf bD z3.b
 have b2:E*nx.2<2 ^ (m+sa+sc):=by
  have:=bf bE z1.b
  rwa [show sc+m+sa=m+sa+sc by omega] at this
 have a1:ny.1*fy.2<2 ^ (sb+sd):=bf z2.a z4.b
 have a2:fy.1*ny.2<2 ^ (sb+sd):=by
  have:=bf z4.a z2.b
  rwa [Nat.add_comm sd sb] at this
 have a3:ny.2*fy.2<2 ^ (sb+sd):=bf z2.b z4.b
 have b3:E*nx.2+D*fx.2<2 ^ (m+sa+sc+1):=by
  have:(2:Nat) ^ (m+sa+sc+1)=2 ^ (m+sa+sc)+2 ^ (m+sa+sc):=by rw [Nat.pow_succ];omega
  omega
 have c1:=bf a1 b2
 have c2:=bf a2 b1
 have c3:=bf a3 b3
 have c4:ny.1*fy.2*(E*nx.2)+fy.1*ny.2*(D*fx.2)<2 ^ (sa+sb+sc+sd+m+2):=by
  have h1:(2:Nat) ^ (sb+sd+(m+sa+sc))+2 ^ (sb+sd+(m+sa+sc))≤2 ^ (sa+sb+sc+sd+m+2):=by
   have e:2 ^ (sb+sd+(m+sa+sc)+1)≤2 ^ (sa+sb+sc+sd+m+2):=fV (by omega)
   rw [Nat.pow_succ] at e
   omega
  omega
 have up:∀ {a j:Nat},a<2 ^ j→j≤3000→a<2 ^ 3000:=fun h hj=>Nat.lt_of_lt_of_le h (fV hj)
 have dpos:0<E*nx.2+D*fx.2:=by
  refine Nat.pos_of_ne_zero fun z=>?_
  have e:((E*nx.2+D*fx.2:Nat):Rat)=0:=by rw [z];rfl
  simp only [Rat.natCast_add,Rat.natCast_mul] at e
  rw [qD,qE] at e
  have:(val fx-val nx)*((fx.2:Rat)*x.2*nx.2)=0:=by grind
  have w:0<(val fx-val nx)*((fx.2:Rat)*x.2*nx.2):=Rat.mul_pos (by grind) (Rat.mul_pos (Rat.mul_pos p3 p5) p1)
  grind
 have hpos:=Nat.mul_pos (Nat.mul_pos z2.pos z4.pos) dpos
 refine ⟨fO (up bE (by omega)) (up z1.b (by omega)),fO (up z2.a (by omega)) (up z4.b (by omega)),fO (up a1 (by omega)) (up b2 (by omega)),fO (up z4.a (by omega)) (up z2.b (by omega)),fO (up a2 (by omega)) (up b1 (by omega)),fO (up z2.b (by omega)) (up z4.b (by omega)),fO (up a3 (by omega)) (up b3 (by omega)),
  _,_,rfl,hpos,Nat.lt_of_lt_of_le c3 (fV (by omega)),.inl ?_⟩
 rw [xS]
 refine k _ ⟨cP hpos,sF hpos⟩ ⟨Nat.lt_of_le_of_lt (gI _ _) c4,Nat.lt_of_le_of_lt (gD _ _) (Nat.lt_of_lt_of_le c3 (fV (by omega))),cP hpos⟩ ?_
 rw [aw hpos]
 simp only [Rat.natCast_add,Rat.natCast_mul]
 rw [qD,qE,ik z2.pos,ik z4.pos]
 have hc:(ny.2:Rat)*fy.2*fx.2*x.2*nx.2≠0:=by
  have:=Rat.mul_pos (Rat.mul_pos (Rat.mul_pos (Rat.mul_pos p2 p4) p3) p5) p1
  grind
 rw [←Ds (Y:=val ny) (G:=val fy) (X:=val x) hc v1]
 congr 1 <;> grind
 exact fO (Nat.lt_of_lt_of_le (Nat.lt_of_le_of_lt (Nat.sub_le _ _) (bf z5.a z1.b)) (fV (by omega))) (Nat.lt_of_lt_of_le z3.b (fV (by omega)))
theorem my {L:List Pc} {i:Nat} {p:Pc} {t:Rat} (hR:RtF L) (hp:L[i]?=some p) (hb:i=0∨val (bg L i)<t) (ht:t≤p.E):cm 0 L t=some (if val (bg L i)=p.E then p.L else p.L+(p.H-p.L)*((t-val (bg L i))/(p.E-val (bg L i)))):=by
 have il:=(List.getElem?_eq_some_iff.mp hp).1
 rw [qG hR (Nat.le_of_lt il) hb,List.drop_eq_getElem_cons il,(List.getElem?_eq_some_iff.mp hp).2,cm,if_pos ht]
theorem BX {as st Q} (h:dy as st Q):ay Γ gX (frame 6 as) st (ag st Q):=by
 obtain ⟨j,m,L,i,p,t,rfl,⟨j1,j2⟩,hR,hz,hp,ct,zt,bt,ht,k⟩:=h
 rw [eR] at bt k
 unfold gX
 walk_at "WP"
 have il:=(List.getElem?_eq_some_iff.mp hp).1
 have pz:=hz p (List.mem_of_getElem? hp)
 obtain ⟨pok,p1,p2⟩:=hR.at_ hp
 obtain ⟨n1,n2,n3,n4⟩:=nb hR hp
 have bz:Sz j (bg L i):=bgZ hz (by omega) j1
 refine ⟨pcV p,bC (by rw [List.getElem?_map,hp];rfl),?_⟩
 walk_at "WP"
 refine i_ ?_
 by_cases q:t=p.e
 ·rw [decide_eq_true q,if_pos rfl]
  refine .inl (k p.h pok.h (pz.h.mono (by omega)) ?_)
  rw [q]
  by_cases z:val (bg L i)=p.E
  ·rw [if_pos z];exact (n3 z).symm
  ·rw [if_neg z]
   have:val p.e-val (bg L i)≠0:=by grind
   grind
 ·rw [decide_eq_false q,if_neg Bool.false_ne_true]
  have lt:val t<p.E:=by
   have:val t≠p.E:=fun z=>q (bH ct pok.e z)
   grind
  refine ⟨L,i,rfl,by omega,?_⟩
  rw [eR]
  walk_at "WP"
  refine ⟨j,j,j,j,m,_,_,_,_,_,rfl,by omega,⟨bz,pz.l,pz.e,pz.h,zt⟩,⟨by grind,bt,ht⟩,fun r cr sr vr=>.inl (k r cr (sr.mono (by omega)) ?_)⟩
  rw [if_neg (by grind),vr]
noncomputable def gCo (t:Nat × Nat):PV→Bool
 | .tup (.tup [.int a,.int b]::_)=>decide (a.toNat*t.2<t.1*b.toNat)
 | _=>false
theorem Ch.cut {t:Rat}:∀ {L:List Pc} {b:Rat},Ch b L→∃k,k≤L.length∧(∀(i:Nat) p,L[i]?=some p→i<k→p.E<t)∧∀(i:Nat) p,L[i]?=some p→k≤i→t≤p.E
 | [],b,_=>⟨0,Nat.le_refl _,fun i p e=>by simp at e,fun i p e=>by simp at e⟩
 | p::r,b,⟨h1,h2,h3,h4⟩=>by
  by_cases q:t≤p.E
  ·refine ⟨0,Nat.zero_le _,fun i p _ h=>absurd h (Nat.not_lt_zero _),fun i p' e _=>?_⟩
   cases i with
   | zero=>cases e;exact q
   | succ i =>
    have:∀ {r:List Pc} {b:Rat} {i:Nat} {p':Pc},Ch b r→r[i]?=some p'→b<p'.E:=by
     intro r
     induction r with
     | nil=>intro b i p' _ e;simp at e
     | cons a r ih =>
      intro b i p' ⟨g1,g2,g3,g4⟩ e
      cases i with
      | zero=>cases e;exact g2
      | succ i=>have:=ih g4 (by simpa using e);grind
    have:=this h4 (by simpa using e)
    grind
  ·obtain ⟨k,k1,k2,k3⟩:=h4.cut (t:=t)
   refine ⟨k+1,by simp;omega,fun i p' e h=>?_,fun i p' e h=>?_⟩
   ·cases i with
    | zero=>cases e;grind
    | succ i=>exact k2 i p' (by simpa using e) (by omega)
   ·cases i with
    | zero=>omega
    | succ i=>exact k3 i p' (by simpa using e) (by omega)
theorem RtF.cut {L:List Pc} {t:Rat} (h:RtF L):∃k,k≤L.length∧(∀(i:Nat) p,L[i]?=some p→i<k→p.E<t)∧∀(i:Nat) p,L[i]?=some p→k≤i→t≤p.E:=by
 cases L with
 | nil=>exact ⟨0,Nat.le_refl _,fun i p e=>by simp at e,fun i p e=>by simp at e⟩
 | cons a r=>exact Ch.cut (b:=a.E-1) ⟨h.1,by grind,h.2.1,h.2.2.2.2.ch⟩
theorem yV {as st Q} (h:fF as st Q):ay Γ gO (frame 3 as) st (ag st Q):=by
 obtain ⟨j,m,L,t,rfl,⟨j1,j2⟩,hR,hz,ct,tz,hl,k⟩:=h
 unfold gO
 walk_at "WP"
 obtain ⟨n,n1,n2,n3⟩:=hR.cut (t:=val t)
 have hbg:n=0∨val (bg L n)<val t:=by
  cases n with
  | zero=>exact .inl rfl
  | succ n =>
   have ha:L[n]?=some L[n]:=List.getElem?_eq_getElem (by omega)
   rw [bgS ha]
   exact .inr (n2 n _ ha (by omega))
 have hg:∀(i:Nat) p,L[i]?=some p→gCo t ((L.map pcV).getD i .non)=decide (p.e.1*t.2<t.1*p.e.2):=fun i p e=>by
  rw [List.getD_eq_getElem?_getD,List.getElem?_map,e]
  rfl
 have hb:bsr (gCo t) (L.map pcV)=n:=by
  refine sw (by simpa using n1) (fun i hi=>?_) (fun i h1 h2=>?_)
  ·have ha:L[i]?=some L[i]:=List.getElem?_eq_getElem (by omega)
   rw [hg i _ ha]
   exact decide_eq_true ((je (hz _ (List.mem_of_getElem? ha)).e.pos ct.pos).mpr (n2 i _ ha hi))
  ·have h3:i<L.length:=by simpa using h2
   have ha:L[i]?=some L[i]:=List.getElem?_eq_getElem h3
   rw [hg i _ ha]
   refine decide_eq_false fun z=>?_
   have:=(je (hz _ (List.mem_of_getElem? ha)).e.pos ct.pos).mp z
   have:=n3 i _ ha h1
   grind
 refine ⟨by simp;omega,fun i hi=>?_,gCo t,fun y hy Q' q=>?_,?_⟩
 ·rw [List.mem_singleton] at hi
  subst hi
  exact ⟨fr t,rfl,by simp [PV.bel,PV.bels]⟩
 ·obtain ⟨p,hp,rfl⟩:=List.mem_map.mp hy
  walk_at "WP"
  exact ⟨_,_,rfl,(hz p hp).e.mono (by omega),tz.mono (by omega),q⟩
 ·rw [hb,List.length_map]
  by_cases e:n=L.length
  ·rw [if_pos (by rw [e])]
   refine .inl (k none (fun z hz=>nomatch hz) ?_)
   rw [qG hR (Nat.le_of_eq e) hbg,e,List.drop_length]
   rfl
  ·rw [if_neg (by omega)]
   have ha:L[n]?=some L[n]:=List.getElem?_eq_getElem (by omega)
   have bt:val (bg L n)≤val t:=by
    rcases hbg with rfl|hb
    ·show val (0,1)≤_;rw [val_nought];exact aI ct.pos
    ·exact Rat.le_of_lt hb
   refine ⟨j,m,L,n,_,t,rfl,⟨j1,j2⟩,hR,hz,ha,ct,tz,by rw [eR];exact bt,n3 n _ ha (Nat.le_refl _),fun r cr sr hc=>.inl (k (some r) (fun z hz=>by cases hz;exact ⟨cr,sr⟩) ?_)⟩
   rw [my hR ha hbg (n3 n _ ha (Nat.le_refl _)),Option.map_some,hc,eR]
theorem mI {a w:Rat} (hw:0<w) (h0:0≤a) (h1:a≤w):∃q,a/w=q∧q*w=a∧0≤q∧q≤1:=by
 have w0:w≠0:=by grind
 have e:a/w*w=a:=by grind
 refine ⟨a/w,rfl,e,?_,?_⟩
 ·refine Classical.byContradiction fun z=>?_
  have:=Rat.mul_pos (a:=-(a/w)) (b:=w) (by grind) hw
  grind
 ·refine Classical.byContradiction fun z=>?_
  have:=Rat.mul_pos (a:=a/w-1) (b:=w) (by grind) hw
  grind
theorem seg {b E L H t:Rat} (hb:b<E) (h0:b≤t) (h1:t≤E) (hL:L≤H):L≤L+(H-L)*((t-b)/(E-b))∧L+(H-L)*((t-b)/(E-b))≤H:=by
 obtain ⟨q,e,e1,e2,e3⟩:=mI (a:=t-b) (w:=E-b) (by grind) (by grind) (by grind)
 rw [e]
 have m1:=Rat.mul_nonneg (a:=H-L) (b:=q) (by grind) e2
 have m2:=Rat.mul_nonneg (a:=H-L) (b:=1-q) (by grind) (by grind)
 constructor <;> grind
theorem zI {b E L H t:Rat} (hb:b<E) (h0:b≤t) (h1:t≤E) (hL:b≤L) (hH:E≤H):t≤L+(H-L)*((t-b)/(E-b)):=by
 obtain ⟨q,e,e1,e2,e3⟩:=mI (a:=t-b) (w:=E-b) (by grind) (by grind) (by grind)
 rw [e]
 have m1:=Rat.mul_nonneg (a:=L-b) (b:=1-q) (by grind) (by grind)
 have m2:=Rat.mul_nonneg (a:=H-E) (b:=q) (by grind) e2
 grind
theorem lP {b E L H t u:Rat} (hb:b<E) (h0:b≤t) (htu:t≤u) (h1:u≤E) (hL:L≤H):L+(H-L)*((t-b)/(E-b))≤L+(H-L)*((u-b)/(E-b)):=by
 obtain ⟨q,e,e1,e2,e3⟩:=mI (a:=u-t) (w:=E-b) (by grind) (by grind) (by grind)
 have s:(u-b)/(E-b)=(t-b)/(E-b)+q:=by
  rw [←e]
  have:E-b≠0:=by grind
  grind
 rw [s]
 have m1:=Rat.mul_nonneg (a:=H-L) (b:=q) (by grind) e2
 grind
theorem wv:∀ {L:List Pc} {b hh t y:Rat},Rt b hh L→b≤hh→b<t→cm b L t=some y→hh≤y∧t≤y
 | [],_,_,_,_,_,_,_,e=>by cases e
 | p::r,b,hh,t,y,⟨h1,h2,h3,h4,h5,h6⟩,hb,ht,e=>by
  rw [cm] at e
  by_cases q:t≤p.E
  ·rw [if_pos q,if_neg (by grind)] at e
   cases e
   have s1:=seg h2 (Rat.le_of_lt ht) q h4
   have s2:=zI h2 (Rat.le_of_lt ht) q (show b≤p.L by grind) h5
   exact ⟨by grind,s2⟩
  ·rw [if_neg q] at e
   have:=wv h6 h5 (by grind) e
   exact ⟨by grind,this.2⟩
theorem DM:∀ {L:List Pc} {b hh t u y z:Rat},Rt b hh L→b≤hh→b<t→t≤u→cm b L t=some y→cm b L u=some z→y≤z
 | [],_,_,_,_,_,_,_,_,_,_,e,_=>by cases e
 | p::r,b,hh,t,u,y,z,⟨h1,h2,h3,h4,h5,h6⟩,hb,ht,tu,e,e'=>by
  rw [cm] at e e'
  by_cases q:t≤p.E
  ·rw [if_pos q,if_neg (by grind)] at e
   cases e
   by_cases q':u≤p.E
   ·rw [if_pos q',if_neg (by grind)] at e'
    cases e'
    exact lP h2 (Rat.le_of_lt ht) tu q' h4
   ·rw [if_neg q'] at e'
    have:=(wv h6 h5 (by grind) e').1
    have s1:=seg h2 (Rat.le_of_lt ht) q h4
    grind
  ·rw [if_neg q] at e
   rw [if_neg (by grind)] at e'
   exact DM h6 h5 (by grind) tu e e'
theorem eS {L:List Pc} {t y:Rat} (hR:RtF L) (h0:0≤t) (e:cm 0 L t=some y):t≤y:=by
 cases L with
 | nil=>cases e
 | cons p r =>
  obtain ⟨h1,h2,h3,h4,h5⟩:=hR
  rw [cm] at e
  have pE:=aI h1.e.pos
  have pL:=aI h1.l.pos
  by_cases q:t≤p.E
  ·rw [if_pos q] at e
   by_cases z:0=p.E
   ·rw [if_pos z] at e
    cases e
    have:=h4 z
    grind
   ·rw [if_neg z] at e
    cases e
    exact zI (by grind) h0 q pL h3
  ·rw [if_neg q] at e
   exact (wv h5 h3 (by grind) e).2
theorem i7 {L:List Pc} {t u y z:Rat} (hR:RtF L) (h0:0≤t) (tu:t≤u) (e:cm 0 L t=some y) (e':cm 0 L u=some z):y≤z:=by
 cases L with
 | nil=>cases e
 | cons p r =>
  obtain ⟨h1,h2,h3,h4,h5⟩:=hR
  rw [cm] at e e'
  have pE:=aI h1.e.pos
  by_cases q:t≤p.E
  ·rw [if_pos q] at e
   have yH:y≤p.H:=by
    by_cases z:0=p.E
    ·rw [if_pos z] at e;cases e;exact h2
    ·rw [if_neg z] at e;cases e;exact (seg (by grind) h0 q h2).2
   by_cases q':u≤p.E
   ·rw [if_pos q'] at e'
    by_cases z:0=p.E
    ·rw [if_pos z] at e e';cases e;cases e';exact Rat.le_refl
    ·rw [if_neg z] at e e';cases e;cases e';exact lP (by grind) h0 tu q' h2
   ·rw [if_neg q'] at e'
    have:=(wv h5 h3 (by grind) e').1
    grind
  ·rw [if_neg q] at e
   rw [if_neg (by grind)] at e'
   exact DM h5 h3 (by grind) tu e e'
theorem aO:∀ {L:List Pc} {b t:Rat},(∀p∈L,p.E<t)→cm b L t=none
 | [],b,t,_=>rfl
 | p::r,b,t,h=>by
  have:=h p (List.mem_cons_self ..)
  rw [cm,if_neg (by grind)]
  exact aO fun q hq=>h q (List.mem_cons_of_mem _ hq)
theorem fj {Y:List Pc}:∀ {X:List Pc} {b t y:Rat},cm b X t=some y→cm b (X++Y) t=some y
 | [],b,t,y,h=>by cases h
 | p::r,b,t,y,h=>by
  rw [List.cons_append,cm]
  rw [cm] at h
  by_cases q:t≤p.E
  ·rw [if_pos q] at h ⊢;exact h
  ·rw [if_neg q] at h ⊢;exact fj h
noncomputable def fM (b:Rat) (X:List Pc):Rat:=(X.getLast?.map Pc.E).getD b
theorem ei {b:Rat} {a:Pc} {Y:List Pc}:fM b (a::Y)=fM a.E Y:=by
 unfold fM
 cases Y with
 | nil=>rfl
 | cons c Y=>simp [List.getLast?_cons]
theorem dR {Y:List Pc}:∀ {X:List Pc} {b t:Rat},cm b X t=none→cm b (X++Y) t=cm (fM b X) Y t
 | [],b,t,h=>rfl
 | p::r,b,t,h=>by
  rw [List.cons_append,cm,ei]
  rw [cm] at h
  by_cases q:t≤p.E
  ·rw [if_pos q] at h;cases h
  ·rw [if_neg q] at h ⊢;exact dR h
theorem dr:∀ {L:List Pc} {b t u z:Rat},t≤u→cm b L u=some z→∃y,cm b L t=some y
 | [],b,t,u,z,_,h=>by cases h
 | p::r,b,t,u,z,tu,h=>by
  rw [cm] at h ⊢
  by_cases q:t≤p.E
  ·rw [if_pos q];exact ⟨_,rfl⟩
  ·rw [if_neg (by grind)] at h
   rw [if_neg q]
   exact dr tu h
theorem pcf {b E L H s t:Rat} (hb:b<E) (hs:H-L=s*(E-b)):L+(H-L)*((t-b)/(E-b))=L+s*(t-b):=by
 have:E-b≠0:=by grind
 rw [hs]
 grind
theorem gr {b s t:Rat} {p:Pc} {r:List Pc} (hb:b<p.E) (hs:Sl b p s) (ht:t≤p.E):cm b (p::r) t=some (p.L+s*(t-b)):=by
 rw [cm,if_pos ht,if_neg (by grind),pcf hb hs]
theorem du {b t:Rat} {p:Pc} {r:List Pc} (ht:p.E<t):cm b (p::r) t=cm p.E r t:=by
 rw [cm,if_neg (by grind)]
theorem qh {b e L L' s s':Rat} (hb:b<e) (h:∀t,b<t→t≤e→L+s*(t-b)=L'+s'*(t-b)):L=L'∧s=s':=by
 have e1:=h e hb (by grind)
 have e2:=h ((b+e)/2) (by grind) (by grind)
 have e3:L=L':=by grind
 refine ⟨e3,?_⟩
 have:(s-s')*(e-b)=0:=by grind
 have:=Rat.mul_eq_zero.mp this
 grind
theorem rR {b E L H hh:Rat} (hb:b<E) (hL:L≤H) (h:∀t,b<t→t≤E→hh≤L+(H-L)*((t-b)/(E-b))):hh≤L:=by
 refine Classical.byContradiction fun z=>?_
 obtain ⟨s,hs⟩:∃s,H-L=s*(E-b):=⟨(H-L)/(E-b),by grind⟩
 have g:∀t,b<t→t≤E→hh≤L+s*(t-b):=fun t a c=>by have:=h t a c;rw [pcf hb hs] at this;exact this
 have gE:=g E hb (by grind)
 obtain ⟨d,hd⟩:∃d,d=hh-L:=⟨_,rfl⟩
 have dp:0<d:=by grind
 have sp:0<s:=by
  refine Classical.byContradiction fun z'=>?_
  have:=Rat.mul_nonneg (a:=-s) (b:=E-b) (by grind) (by grind)
  grind
 have s2:2*s≠0:=by grind
 obtain ⟨q,hq⟩:∃q,q*(2*s)=d:=⟨d/(2*s),by grind⟩
 have qp:0<q:=by
  refine Classical.byContradiction fun z'=>?_
  have:=Rat.mul_nonneg (a:=-q) (b:=2*s) (by grind) (by grind)
  grind
 have qE:q≤E-b:=by
  refine Classical.byContradiction fun z'=>?_
  have:=Rat.mul_pos (a:=q-(E-b)) (b:=s) (by grind) sp
  have:=Rat.mul_pos qp sp
  grind
 have:=g (b+q) (by grind) (by grind)
 grind
theorem DG:∀ {L:List Pc} {b hh:Rat},Ch b L→(∀t y,b<t→cm b L t=some y→hh≤y∧t≤y)→(∀t u y z,b<t→t≤u→cm b L t=some y→cm b L u=some z→y≤z)→Rt b hh L
 | [],b,hh,_,_,_=>trivial
 | p::r,b,hh,⟨k1,k2,k3,k4⟩,h1,h2=>by
  have cmp:∀t,b<t→t≤p.E→cm b (p::r) t=some (p.L+(p.H-p.L)*((t-b)/(p.E-b))):=fun t a c=>by rw [cm,if_pos c,if_neg (by grind)]
  have eE:p.L+(p.H-p.L)*((p.E-b)/(p.E-b))=p.H:=by
   have:p.E-b≠0:=by grind
   grind
  have cE:=cmp p.E k2 Rat.le_refl
  rw [eE] at cE
  refine ⟨k1,k2,rR k2 k3 (fun t a c=>(h1 t _ a (cmp t a c)).1),k3,(h1 _ _ k2 cE).2,DG k4 (fun t y a c=>?_) (fun t u y z a c d e=>?_)⟩
  ·rw [←du (b:=b) a] at c
   exact ⟨h2 p.E t p.H y k2 (Rat.le_of_lt a) cE c,(h1 t y (by grind) c).2⟩
  ·rw [←du (b:=b) a] at d
   rw [←du (b:=b) (by grind)] at e
   exact h2 t u y z (by grind) c d e
theorem BT {L:List Pc} (h:LOk L) (h0:∀p r,L=p::r→0=p.E→p.L=p.H) (h1:∀t y,0≤t→cm 0 L t=some y→t≤y) (h2:∀t u y z,0≤t→t≤u→cm 0 L t=some y→cm 0 L u=some z→y≤z):RtF L:=by
 cases L with
 | nil=>trivial
 | cons p r =>
  obtain ⟨k1,k3,k4⟩:=h
  have p0:0≤p.E:=aI k1.e.pos
  have cE:cm 0 (p::r) p.E=some p.H:=by
   rw [cm,if_pos Rat.le_refl]
   by_cases e:0=p.E
   ·rw [if_pos e,h0 p r rfl e]
   ·rw [if_neg e]
    have:p.E-0≠0:=by grind
    congr 1
    grind
  refine ⟨k1,k3,h1 _ _ p0 cE,h0 p r rfl,DG k4 (fun t y a c=>?_) (fun t u y z a c d e=>?_)⟩
  ·rw [←du (b:=0) a] at c
   exact ⟨h2 p.E t p.H y p0 (Rat.le_of_lt a) cE c,h1 t y (by grind) c⟩
  ·rw [←du (b:=0) a] at d
   rw [←du (b:=0) (by grind)] at e
   exact h2 t u y z (by grind) c d e
theorem sO {b:Rat} {p:Pc} {r:List Pc}:∃y,cm b (p::r) p.E=some y:=⟨_,by rw [cm,if_pos Rat.le_refl]⟩
theorem BF {b:Nat × Nat} {a a':Pc} {r r':List Pc} (hb:Cop b) (c1:Ch (val b) (a::r)) (c2:Ch (val b) (a'::r')) (ng:NG b (a::r)) (h:∀t,val b<t→cm (val b) (a::r) t=cm (val b) (a'::r') t) (lt:a.E<a'.E):False:=by
 obtain ⟨k1,k2,k3,k4⟩:=c1
 obtain ⟨m1,m2,m3,m4⟩:=c2
 obtain ⟨s,hs⟩:=Sl.ex (p:=a) k2
 obtain ⟨s',hs'⟩:=Sl.ex (p:=a') m2
 obtain ⟨e1,e2⟩:=qh (L:=a.L) (L':=a'.L) (s:=s) (s':=s') k2 (fun t x y=>by
  have:=h t x
  rw [gr k2 hs y,gr m2 hs' (by grind)] at this
  exact Option.some.inj this)
 have hE:=h a'.E (by grind)
 rw [gr m2 hs' Rat.le_refl,du lt] at hE
 cases r with
 | nil=>cases hE
 | cons p r2 =>
  obtain ⟨n1,n2,n3,n4⟩:=k4
  obtain ⟨s2,hs2⟩:=Sl.ex (p:=p) n2
  have hH:a.H=a'.L+s'*(a.E-val b):=by unfold Sl at hs;grind
  obtain ⟨e,he1,he2,he3⟩:∃e,a.E<e∧e≤p.E∧e≤a'.E:=by
   by_cases q:p.E≤a'.E
   ·exact ⟨p.E,n2,Rat.le_refl,q⟩
   ·exact ⟨a'.E,lt,by grind,Rat.le_refl⟩
  obtain ⟨f1,f2⟩:=qh (L:=p.L) (L':=a.H) (s:=s2) (s':=s') he1 (fun t x y=>by
   have:=h t (by grind)
   rw [du x,gr n2 hs2 (by grind),gr m2 hs' (by grind)] at this
   have:=Option.some.inj this
   rw [this,hH]
   grind)
  have g:gB b a p=true:=(i6 hb k1 n1 (Rat.le_of_lt k2) n2 k3 n3 hs2).mpr ⟨bH n1.l k1.h f1,by rw [f2,←e2];exact hs⟩
  have:=ng.1
  rw [g] at this
  cases this
theorem NG.tail {b:Nat × Nat} {a:Pc} {r:List Pc} (h:NG b (a::r)):NG a.e r:=by
 cases r with
 | nil=>trivial
 | cons p r=>exact h.2
theorem Fy:∀ {A B:List Pc} {b:Nat × Nat},Cop b→Ch (val b) A→Ch (val b) B→NG b A→NG b B→(∀t,val b<t→cm (val b) A t=cm (val b) B t)→A=B
 | [],[],b,_,_,_,_,_,_=>rfl
 | [],p::r,b,hb,c1,⟨k1,k2,k3,k4⟩,_,_,h=>by
  have:=h p.E k2
  obtain ⟨y,e⟩:=sO (b:=val b) (p:=p) (r:=r)
  rw [e] at this
  cases this
 | p::r,[],b,hb,⟨k1,k2,k3,k4⟩,_,_,_,h=>by
  have:=h p.E k2
  obtain ⟨y,e⟩:=sO (b:=val b) (p:=p) (r:=r)
  rw [e] at this
  cases this
 | a::r,a'::r',b,hb,c1,c2,g1,g2,h=>by
  have x1:¬a.E<a'.E:=fun z=>BF hb c1 c2 g1 h z
  have x2:¬a'.E<a.E:=fun z=>BF hb c2 c1 g2 (fun t ht=>(h t ht).symm) z
  have eE:a.E=a'.E:=by grind
  obtain ⟨k1,k2,k3,k4⟩:=c1
  obtain ⟨m1,m2,m3,m4⟩:=c2
  obtain ⟨s,hs⟩:=Sl.ex (p:=a) k2
  obtain ⟨s',hs'⟩:=Sl.ex (p:=a') m2
  obtain ⟨e1,e2⟩:=qh (L:=a.L) (L':=a'.L) (s:=s) (s':=s') k2 (fun t x y=>by
   have:=h t x
   rw [gr k2 hs y,gr m2 hs' (by grind)] at this
   exact Option.some.inj this)
  have eH:a.H=a'.H:=by unfold Sl at hs hs';grind
  have ea:a=a':=by
   have i1:=bH k1.e m1.e eE
   have i2:=bH k1.l m1.l e1
   have i3:=bH k1.h m1.h eH
   cases a;cases a'
   simp only at i1 i2 i3
   rw [i1,i2,i3]
  subst ea
  rw [Fy (b:=a.e) k1.e k4 m4 g1.tail g2.tail fun t ht=>by
   have:=h t (by grind)
   rw [du ht,du ht] at this
   exact this]
theorem wn {a a':Pc} {r r':List Pc} (h1:RtF (a::r)) (h2:RtF (a'::r')) (ng:NG (0,1) (a::r)) (h:∀t,0≤t→cm 0 (a::r) t=cm 0 (a'::r') t) (z:a.E=0) (lt:0<a'.E):False:=by
 have l0:a.L=a.H:=h1.2.2.2.1 z.symm
 obtain ⟨s',hs'⟩:=Sl.ex (b:=0) (p:=a') lt
 have e0:=h 0 Rat.le_refl
 rw [cm,if_pos (by grind),if_pos z.symm,gr lt hs' (by grind)] at e0
 have e0:=Option.some.inj e0
 have hE:=h a'.E (by grind)
 rw [gr lt hs' Rat.le_refl,du (by grind)] at hE
 cases r with
 | nil=>cases hE
 | cons p r2 =>
  obtain ⟨n1,n2,n3,n4,n5,n6⟩:=h1.2.2.2.2
  obtain ⟨s2,hs2⟩:=Sl.ex (p:=p) n2
  obtain ⟨e,he1,he2,he3⟩:∃e,a.E<e∧e≤p.E∧e≤a'.E:=by
   by_cases q:p.E≤a'.E
   ·exact ⟨p.E,n2,Rat.le_refl,q⟩
   ·exact ⟨a'.E,by grind,by grind,Rat.le_refl⟩
  obtain ⟨f1,f2⟩:=qh (L:=p.L) (L':=a.H) (s:=s2) (s':=s') he1 (fun t x y=>by
   have:=h t (by grind)
   rw [du x,gr n2 hs2 (by grind),gr lt hs' (by grind)] at this
   have:=Option.some.inj this
   grind)
  have g:gB (0,1) a p=true:=(i6 ib h1.1 n1 (by rw [val_nought];grind) n2 h1.2.1 n4 hs2).mpr ⟨bH n1.l h1.1.h f1,by unfold Sl;rw [val_nought];grind⟩
  have:=ng.1
  rw [g] at this
  cases this
theorem y7 {A B:List Pc} (h1:RtF A) (h2:RtF B) (g1:NG (0,1) A) (g2:NG (0,1) B) (h:∀t,0≤t→cm 0 A t=cm 0 B t):A=B:=by
 cases A with
 | nil =>
  cases B with
  | nil=>rfl
  | cons p r =>
   have:=h p.E (aI h2.1.e.pos)
   obtain ⟨y,e⟩:=sO (b:=0) (p:=p) (r:=r)
   rw [e] at this
   cases this
 | cons a r =>
  cases B with
  | nil =>
   have:=h a.E (aI h1.1.e.pos)
   obtain ⟨y,e⟩:=sO (b:=0) (p:=a) (r:=r)
   rw [e] at this
   cases this
  | cons a' r' =>
   have p1:0≤a.E:=aI h1.1.e.pos
   have p2:0≤a'.E:=aI h2.1.e.pos
   by_cases z:a.E=0
   ·by_cases z':a'.E=0
    ·have e0:=h 0 Rat.le_refl
     rw [cm,if_pos (by grind),if_pos z.symm,cm,if_pos (by grind),if_pos z'.symm] at e0
     have e0:=Option.some.inj e0
     have l1:=h1.2.2.2.1 z.symm
     have l2:=h2.2.2.2.1 z'.symm
     have ea:a=a':=by
      have i1:=bH h1.1.e h2.1.e (z.trans z'.symm)
      have i2:=bH h1.1.l h2.1.l e0
      have i3:=bH h1.1.h h2.1.h (by grind)
      cases a;cases a'
      simp only at i1 i2 i3
      rw [i1,i2,i3]
     subst ea
     rw [Fy (b:=a.e) h1.1.e h1.2.2.2.2.ch h2.2.2.2.2.ch g1.tail g2.tail fun t ht=>by
      have:=h t (by grind)
      rw [du ht,du ht] at this
      exact this]
    ·exact (wn h1 h2 g1 h z (by grind)).elim
   ·by_cases z':a'.E=0
    ·exact (wn h2 h1 g2 (fun t ht=>(h t ht).symm) z' (by grind)).elim
    ·refine Fy (b:=(0,1)) ib ?_ ?_ g1 g2 fun t ht=>?_
     ·exact ⟨h1.1,by rw [val_nought];grind,h1.2.1,h1.2.2.2.2.ch⟩
     ·exact ⟨h2.1,by rw [val_nought];grind,h2.2.1,h2.2.2.2.2.ch⟩
     ·rw [val_nought] at ht ⊢
      exact h t (Rat.le_of_lt ht)
theorem nN {as st Q} (h:cu as st Q):ay Γ dB (frame 4 as) st (ag st Q):=by
 obtain ⟨n,d,rfl,h0,h1,k⟩:=h
 unfold dB
 walk_at "WP"
 refine gL Γm (fun j ρ s=>s=st∧∃a:Nat,ρ=[some (.int n),some (.int d),some (.int a),some (.int j)]∧Nat.gcd a j=Nat.gcd n d) (n:=d) ⟨rfl,n,rfl,rfl⟩ ?_
 rintro m ρ s ⟨rfl,a,rfl,hg⟩
 walk_at "WP"
 by_cases hb:(0:Int)<m
 ·rw [if_pos hb]
  exact ⟨hb,a % m,Nat.mod_lt _ (by omega),m,rfl,by simp,by rw [←hg,Nat.gcd_comm a m,Nat.gcd_rec m a,Nat.gcd_comm]⟩
 ·rw [if_neg hb]
  have:m=0:=by omega
  subst this
  rw [Nat.gcd_zero_right] at hg
  subst hg
  refine ⟨lK h0 h1,lK h0 h1,?_⟩
  rw [←Int.natCast_ediv,←Int.natCast_ediv]
  exact .inl k
theorem rC {as st Q} (h:dm as st Q):ay Γ eT (frame 3 as) st (ag st Q):=by
 obtain ⟨p,many,rfl,⟨q,r,hp,hq,hr0,hr1⟩,hm,hm2,k⟩:=h
 have g0:Gr st p st:=.refl ⟨q,r,hp,hq,hr0,hr1⟩
 unfold eT
 walk_at "WP"
 refine ⟨_,af hp,_,rH,?_⟩
 walk_at "WP"
 by_cases hz:0<q
 ·rw [if_pos hz]
  refine ⟨_,af hp,_,rH,?_⟩
  walk_at "WP"
  refine ⟨vQ hm hm2,_,hp,0,rfl,?_⟩
  exact .inl (k _ _ (Int.emod_nonneg _ (by omega)) (Int.emod_lt_of_pos _ hm) (g0.set ⟨Int.ediv_nonneg (by omega) (by omega),hr0,hr1⟩))
 ·rw [if_neg hz]
  refine ⟨_,af hp,_,ou,?_⟩
  walk_at "WP"
  refine ⟨Hj (by decide) (by decide),_,hp,1,rfl,?_⟩
  have hs:∀z,(st.set p (pc q z))[p]?=some (pc q z):=fun z=>List.getElem?_set_self (bp hp)
  refine ⟨_,af (hs _),_,ou,_,af (hs _),_,ou,?_⟩
  walk_at "WP"
  refine ⟨wa (by omega) (by omega),vQ (by decide) (by decide),hm,?_⟩
  exact .inl (k _ _ (Int.emod_nonneg _ (by omega)) (Int.emod_lt_of_pos _ hm) (g0.set ⟨hq,by omega,by omega⟩))
theorem tN {as st Q} (h:dJ as st Q):ay Γ fv (frame 3 as) st (ag st Q):=by
 obtain ⟨ns,m,rfl,hm,k⟩:=h
 unfold fv
 walk_at "WP"
 have fin:∀z:Int,vE 10 18∧CMB 97 (m:Int)∧Ret st Q (PV.ref (List.length st)) (st++[Cell.lst [PV.int (if 0<(z.natAbs:Int)-1000000000000000000 then (z.natAbs:Int)-1000000000000000000 else 0),PV.int ((z.natAbs:Int) % 2147483629+97*m+1)]]):=fun z =>
  ⟨GN,wa (by decide) (by decide),.inl (k _ _ ⟨by split <;> omega,by omega,by omega⟩)⟩
 rw [List.length_map]
 by_cases hl:m<ns.length
 ·rw [if_pos (by omega)]
  refine ⟨_,Bk hl,?_⟩
  walk_at "WP"
  exact fin _
 ·rw [if_neg (by omega)]
  exact fin 0
theorem sg {as st Q} (h:dt as st Q):ay Γ eN (frame 1 as) st (ag st Q):=by
 obtain ⟨p,rfl,hp,k⟩:=h
 unfold eN
 walk_at "WP"
 refine ⟨GX,p,4,rfl,hp,by decide,by decide,fun y s1 y0 y1 g1=>?_⟩
 obtain ⟨v,ev,far,rfl,f0,f1⟩:=wp (L:=[PV.int 1,PV.int 2,PV.int 12,PV.int 100000000000]) (P:=fun v=>∃d:Nat,v=.int d∧0<d∧d≤10 ^ 11) (fun v hv=>by
  simp only [List.mem_cons,List.not_mem_nil,or_false] at hv
  rcases hv with rfl|rfl|rfl|rfl
  ·exact ⟨1,rfl,by decide,by decide⟩
  ·exact ⟨2,rfl,by decide,by decide⟩
  ·exact ⟨12,rfl,by decide,by decide⟩
  ·exact ⟨_,rfl,by decide,by decide⟩) y0 y1
 walk_at "WP"
 refine ⟨_,ev,p,_,rfl,g1.pot,by omega,by omega,fun z s2 z0 z1 g2=>?_⟩
 walk_at "WP"
 obtain ⟨d,hd⟩:∃d:Nat,1+z=d:=⟨(1+z).toNat,by omega⟩
 rw [hd]
 exact .inl (k d _ (by omega) (by omega) (g1.trans g2))
theorem vg {U:List Un3} {elt:E} {chk:AH→Prop} {st:AH} {Q:LK} (f:Un3→Nat) (hc:chk st) (he:∀u:Un3,wpE Γ elt [some (.int u.1),some (.int u.2.1),some (.int u.2.2)] st fun v s=>v=iV (f u)∧s=st) (q:Q ((U.map f).map iV) st):wE Γ elt (Tg.tup (.cons (.name 0) (.cons (.name 1) (.cons (.name 2) .nil)))) .nil chk [none,none,none] (U.map uV) st Q:=by
 refine jx Γm (fun j acc s=>s=st∧acc=((U.take j).map f).map iV) ⟨rfl,by simp⟩ ?_ ?_
 ·rintro j x acc s hx ⟨rfl,rfl⟩
  refine ⟨hc,?_⟩
  rw [List.getElem?_map] at hx
  obtain ⟨u,hu,rfl⟩:=Option.map_eq_some_iff.mp hx
  walk_at "WP"
  refine ac Γm elt (fun v s z=>?_) (he u)
  obtain ⟨rfl,rfl⟩:=z
  refine ⟨rfl,?_⟩
  rw [List.take_add_one,hu]
  simp
 ·rintro acc s ⟨rfl,rfl⟩
  rw [List.length_map,List.take_length]
  exact ⟨hc,q⟩
theorem qo {as st Q} (h:cI as st Q):ay Γ dU (frame 1 as) st (ag st Q):=by
 obtain ⟨n,U,rfl,hn,hl,k⟩:=h
 unfold dU
 walk_at "WP"
 refine ⟨_,af hn,by simp;omega,vg (·.1) rfl (fun u=>by walk_at "WP") ?_⟩
 refine ⟨_,af (au hn),by simp;omega,vg (·.2.1) rfl (fun u=>by walk_at "WP") ?_⟩
 refine ⟨_,by rw [List.append_assoc,gT];rfl,by simp;omega,_,af (by rw [List.append_assoc];exact au hn),by simp;omega,vg (·.2.2) rfl (fun u=>by walk_at "WP") ?_⟩
 refine ⟨(U.map (·.1)).map iV++(U.map (·.2.1)).map iV,by rw [List.append_assoc,eY];rfl,by simp;omega,.inl ?_⟩
 rw [List.append_assoc,List.append_assoc]
 simp only [List.length_append,List.length_cons,List.length_nil,Nat.add_assoc,Nat.reduceAdd]
 refine k _ (U.map (·.1)++U.map (·.2.1)++U.map (·.2.2)) _ ?_ (Nat.le_add_right _ _) (fun B hB h hh=>?_) (by simp;omega)
 ·rw [eY];simp
 ·rcases List.mem_append.mp hh with hh|hh
  ·rcases List.mem_append.mp hh with hh|hh
   ·obtain ⟨u,hu,rfl⟩:=List.mem_map.mp hh;exact (hB u hu).1
   ·obtain ⟨u,hu,rfl⟩:=List.mem_map.mp hh;exact (hB u hu).2.1
  ·obtain ⟨u,hu,rfl⟩:=List.mem_map.mp hh;exact (hB u hu).2.2
theorem pj {as st Q} (h:cQ as st Q):ay Γ dX (frame 2 as) st (ag st Q):=by
 obtain ⟨n,d,U,rfl,hn,hU,hl,hB,d0,d1,k⟩:=h
 unfold dX
 walk_at "WP"
 have be:d<2 ^ 8000:=Nat.lt_of_le_of_lt d1 (Nat.lt_of_lt_of_le (by decide:(10:Nat) ^ 11<2 ^ 64) (Nat.pow_le_pow_right (by decide) (by decide)))
 refine ⟨n,U,rfl,hn,hU,hl,hB,fun n' V g hn' hV lV=>?_⟩
 refine ⟨_,af hn',by simp;omega,?_⟩
 refine FW.comp_map Γm (fun x=>match x with | .tup [.int a,.int b,.int c]=>pcV (av d (a.toNat,b.toNat,c.toNat))|v=>v) rfl (fun y hy=>?_) ?_
 ·obtain ⟨u,_,rfl⟩:=List.mem_map.mp hy
  walk_at "WP"
  refine ⟨by decide,?_⟩
  refine FW.comp_map Γm (fun x=>match x with | .int z=>fr (aG z.toNat d)|v=>v) trivial (fun x hx=>?_) ?_
  ·simp only [List.mem_cons,List.not_mem_nil,or_false] at hx
   rcases hx with rfl|rfl|rfl
   ·walk_at "WP";exact ⟨u.1,d,rfl,d0,be,rfl,rfl⟩
   ·walk_at "WP";exact ⟨u.2.1,d,rfl,d0,be,rfl,rfl⟩
   ·walk_at "WP";exact ⟨u.2.2,d,rfl,d0,be,rfl,rfl⟩
  ·refine ⟨_,af aA,.app ?_ ⟨rfl,rfl⟩⟩
   simp [PV.bel,PV.bels,fr]
 ·have e:(V.map uV).map (fun x=>match x with | .tup [.int a,.int b,.int c]=>pcV (av d (a.toNat,b.toNat,c.toNat))|v=>v)=(V.map (av d)).map pcV:=by
   rw [List.map_map,List.map_map]
   rfl
  rw [e,hV d d0]
  refine ⟨_,af aA,?_⟩
  rw [List.append_assoc]
  exact .app qg (.inl k)
theorem HM {n:Nat}:aG n 1=(n,1):=by simp [aG]
theorem GG {d:Nat} (h:0<d):aG 0 d=(0,1):=by simp [aG,Nat.div_self h]
theorem mZ {n m d:Nat} (h0:0<d) (h:aG n d=aG m d):n=m:=by
 have:=congrArg val h
 rw [aw h0,aw h0] at this
 have d1:=aF h0
 have:(n:Rat)=(m:Rat):=by grind
 exact_mod_cast this
noncomputable def gU (b:Nat) (w u:Un3):Bool:=decide (u.2.1=w.2.2) && decide (((w.2.2:Int)-w.2.1)*((u.1:Int)-w.1)=((u.2.2:Int)-u.2.1)*((w.1:Int)-b))
theorem Bq {b d:Nat} {w u:Un3} (h0:0<d) (h1:b≤w.1) (h2:w.1≤u.1) (h3:w.2.1≤w.2.2) (h4:u.2.1≤u.2.2):gB (aG b d) (av d w) (av d u)=gU b w u:=by
 have dp:=aF h0
 have le:∀ {x y:Nat},x≤y→val (aG x d)≤val (aG y d):=fun {x y} h=>by
  rw [aw h0,aw h0]
  have:(x:Rat)≤(y:Rat):=by exact_mod_cast h
  refine Classical.byContradiction fun z=>?_
  have:=Rat.mul_pos (a:=(x:Rat)/d-(y:Rat)/d) (b:=(d:Rat)) (by grind) dp
  have dn:(d:Rat)≠0:=by grind
  have z1:(x:Rat)/d*d=x:=by grind
  have z2:(y:Rat)/d*d=y:=by grind
  generalize (x:Rat)/d=x' at *
  generalize (y:Rat)/d=y' at *
  grind
 have ps:∀ {x:Nat},0<(aG x d).2:=cP h0
 unfold gB gU
 have e1:decide ((av d u).l=(av d w).h)=decide (u.2.1=w.2.2):=by
  refine decide_eq_decide.mpr ⟨fun z=>mZ h0 z,fun z=>?_⟩
  show aG u.2.1 d=aG w.2.2 d
  rw [z]
 rw [e1]
 congr 1
 refine decide_eq_decide.mpr ?_
 have c1:=cO (p:=aG w.2.2 d) (q:=aG w.2.1 d) ps ps
 have c2:=cO (p:=aG u.1 d) (q:=aG w.1 d) ps ps
 have c3:=cO (p:=aG u.2.2 d) (q:=aG u.2.1 d) ps ps
 have c4:=cO (p:=aG w.1 d) (q:=aG b d) ps ps
 have v1:=lE c1.pos c2.pos
 have v2:=lE c3.pos c4.pos
 rw [dE ps ps (le h3),dE ps ps (le h2)] at v1
 rw [dE ps ps (le h4),dE ps ps (le h1)] at v2
 simp only [aw h0] at v1 v2
 have key:val (sG (kj (aG w.2.2 d) (aG w.2.1 d)) (kj (aG u.1 d) (aG w.1 d)))=val (sG (kj (aG u.2.2 d) (aG u.2.1 d)) (kj (aG w.1 d) (aG b d)))↔((w.2.2:Int)-w.2.1)*((u.1:Int)-w.1)=((u.2.2:Int)-u.2.1)*((w.1:Int)-b):=by
  rw [v1,v2]
  have q:((w.2.2:Rat)-w.2.1)*((u.1:Rat)-w.1)=((u.2.2:Rat)-u.2.1)*((w.1:Rat)-b)↔((w.2.2:Int)-w.2.1)*((u.1:Int)-w.1)=((u.2.2:Int)-u.2.1)*((w.1:Int)-b):=by
   rw [←Rat.intCast_natCast w.2.2,←Rat.intCast_natCast w.2.1,←Rat.intCast_natCast u.1,←Rat.intCast_natCast w.1,←Rat.intCast_natCast u.2.2,←Rat.intCast_natCast u.2.1,←Rat.intCast_natCast b]
   simp only [←Rat.intCast_sub,←Rat.intCast_mul,Rat.intCast_inj]
  rw [←q]
  have dn:(d:Rat)≠0:=by grind
  constructor <;> intro z <;> grind
 rw [←key]
 exact ⟨fun z=>congrArg val z,fun z=>bH (jM c1.pos c2.pos) (jM c3.pos c4.pos) z⟩
noncomputable def mw (b:Nat × Nat) (Y:List Pc):Nat × Nat:=(Y.getLast?.map Pc.e).getD b
theorem uP {b:Nat × Nat} {a:Pc} {Y:List Pc}:mw b (a::Y)=mw a.e Y:=by
 unfold mw
 cases Y with
 | nil=>rfl
 | cons c Y=>simp [List.getLast?_cons]
theorem iB {p:Pc}:∀ {r:List Pc} {b:Nat × Nat} {a:Pc},∃Y c,aJ b a r=Y++[c]∧aJ b a (r++[p])=(if gB (mw b Y) c p=true then Y++[c.mg p] else Y++[c,p]) ∧
  (∀z,(a::r).getLast?=some z→c.e=z.e∧c.h=z.h)
 | [],b,a=>⟨[],a,rfl,by
   show aJ b a [p]=_
   rw [aJ]
   show (if gB b a p=true then aJ b (a.mg p) [] else a::aJ a.e p [])=if gB b a p=true then []++[a.mg p] else []++[a,p]
   rfl,fun z e=>by cases e;exact ⟨rfl,rfl⟩⟩
 | q::r,b,a=>by
  rw [aJ,List.cons_append,aJ]
  by_cases g:gB b a q=true
  ·rw [if_pos g,if_pos g]
   obtain ⟨Y,c,e1,e2,e3⟩:=iB (p:=p) (r:=r) (b:=b) (a:=a.mg q)
   refine ⟨Y,c,e1,e2,fun z e=>?_⟩
   cases r with
   | nil =>
    have:z=q:=by simpa using e.symm
    subst this
    exact e3 (a.mg z) rfl
   | cons x r=>exact e3 z (by simpa [List.getLast?_cons_cons] using e)
  ·rw [if_neg g,if_neg g]
   obtain ⟨Y,c,e1,e2,e3⟩:=iB (p:=p) (r:=r) (b:=a.e) (a:=q)
   refine ⟨a::Y,c,by rw [e1];rfl,?_,fun z e=>e3 z (by simpa [List.getLast?_cons_cons] using e)⟩
   rw [e2,uP]
   split <;> rfl
theorem Rt.take:∀ {L:List Pc} {b hh:Rat} (i:Nat),Rt b hh L→Rt b hh (L.take i)
 | [],_,_,i,_=>by rw [List.take_nil];trivial
 | _::_,_,_,0,_=>trivial
 | _::_,_,_,i+1,⟨h1,h2,h3,h4,h5,h6⟩=>⟨h1,h2,h3,h4,h5,h6.take i⟩
theorem RtF.take {L:List Pc} (i:Nat) (h:RtF L):RtF (L.take i):=by
 cases L with
 | nil=>rw [List.take_nil];trivial
 | cons a r =>
  cases i with
  | zero=>trivial
  | succ i=>exact ⟨h.1,h.2.1,h.2.2.1,h.2.2.2.1,h.2.2.2.2.take i⟩
theorem rS {d:Nat} (h0:0<d) {Y:List Un3}:mw (0,1) (Y.map (av d))=aG ((Y.getLast?.map (·.1)).getD 0) d:=by
 unfold mw
 rw [List.getLast?_map]
 cases Y.getLast? with
 | none=>exact (GG h0).symm
 | some w=>rfl
structure Fnd (U:List Un3) (i:Nat) (V:List Un3):Prop where
 eq:∀d,0<d→V.map (av d)=bc ((U.take i).map (av d))
 ln:V.length≤i
 bd:BdU (2 ^ 37) V
theorem GQ {n:Nat}:val (aG n 1)=(n:Rat):=by rw [HM,B8]
theorem Fnd.nil {U:List Un3} {i:Nat} {V:List Un3} (h:Fnd U i V) (hi:i<U.length) (e:V=[]):i=0:=by
 have:=h.eq 1 (by decide)
 rw [e] at this
 cases i with
 | zero=>rfl
 | succ i =>
  cases U with
  | nil=>simp at hi
  | cons u U =>
   rw [List.take_succ_cons,List.map_cons] at this
   obtain ⟨Y,c,e1,_⟩:=iB (p:=av 1 u) (r:=(U.take i).map (av 1)) (b:=(0,1)) (a:=av 1 u)
   rw [bc,e1] at this
   simp at this
theorem Fnd.step {U:List Un3} {i:Nat} {V:List Un3} {u:Un3} (h:Fnd U i V) (hu:U[i]?=some u) (hU:RUF U) (bd:BdU (2 ^ 37) [u]) :
  (V=[]∧Fnd U (i+1) [u])∨∃Y w,V=Y++[w]∧(Y.getLast?.map (·.1)).getD 0≤w.1∧((Y.getLast?.map (·.1)).getD 0=w.1→w.2.1=w.2.2)∧w.2.1≤w.2.2∧w.1<u.1∧w.2.2≤u.2.1∧u.2.1≤u.2.2 ∧
   Fnd U (i+1) (if gU ((Y.getLast?.map (·.1)).getD 0) w u=true then Y++[(u.1,w.2.1,u.2.2)] else Y++[w,u]):=by
 have il:=(List.getElem?_eq_some_iff.mp hu).1
 have ht:∀d,(U.take (i+1)).map (av d)=(U.take i).map (av d)++[av d u]:=fun d=>by rw [List.take_succ,hu];simp
 rcases cU V with rfl|⟨Y,w,rfl⟩
 ·have i0:=h.nil il rfl
  subst i0
  refine .inl ⟨rfl,⟨fun d hd=>?_,by simp,bd⟩⟩
  rw [ht d]
  rfl
 ·have hR:=hU.rt (d:=1) (by decide)
  have i0:0<i:=by
   have:=h.ln
   simp at this
   omega
  obtain ⟨a,r,ear⟩:∃a r,U.take i=a::r:=by
   cases e:U.take i with
   | nil =>
    rcases List.take_eq_nil_iff.mp e with z|z
    ·omega
    ·rw [z] at il;simp at il
   | cons a r=>exact ⟨a,r,rfl⟩
  have go:∀d,0<d→bc ((U.take (i+1)).map (av d))=(if gB (mw (0,1) (Y.map (av d))) (av d w) (av d u)=true then Y.map (av d)++[(av d w).mg (av d u)] else Y.map (av d)++[av d w,av d u])∧((av d w).e=(av d U[i-1]).e∧(av d w).h=(av d U[i-1]).h):=fun d hd=>by
   have e0:=h.eq d hd
   obtain ⟨Y',c,e1,e2,e3⟩:=iB (p:=av d u) (r:=r.map (av d)) (b:=(0,1)) (a:=av d a)
   rw [ear,List.map_cons,bc,e1,List.map_append] at e0
   obtain ⟨y1,y2⟩:=List.append_inj' e0 rfl
   have y2:av d w=c:=List.head_eq_of_cons_eq y2
   subst y1 y2
   rw [ht d,ear,List.map_cons,List.cons_append,bc,e2]
   refine ⟨rfl,e3 (av d U[i-1]) ?_⟩
   rw [←List.map_cons,←ear,List.getLast?_map,List.getLast?_take,if_neg (by omega),List.getElem?_eq_getElem (by omega)]
   rfl
  obtain ⟨g1,g2,g3⟩:=go 1 (by decide)
  have w1:w.1=(U[i-1]).1:=mZ (by decide) g2
  have w2:w.2.2=(U[i-1]).2.2:=mZ (by decide) g3
  have hz1:(U.map (av 1))[i-1]?=some (av 1 U[i-1]):=by rw [List.getElem?_map,List.getElem?_eq_getElem (by omega)];rfl
  have hz2:(U.map (av 1))[i-1+1]?=some (av 1 u):=by rw [Nat.sub_add_cancel i0,List.getElem?_map,hu];rfl
  obtain ⟨t1,t2⟩:=hR.two hz1 hz2
  obtain ⟨_,a1,a2⟩:=hR.at_ hz2
  have fR:RtF ((Y++[w]).map (av 1)):=by
   rw [h.eq 1 (by decide)]
   refine gK ?_
   rw [List.map_take]
   exact hR.take i
  have hw:((Y++[w]).map (av 1))[Y.length]?=some (av 1 w):=by simp
  obtain ⟨_,b1,b2⟩:=fR.at_ hw
  obtain ⟨_,n2,n3,_⟩:=nb fR hw
  have eb:val (bg ((Y++[w]).map (av 1)) Y.length)=(((Y.getLast?.map (·.1)).getD 0:Nat):Rat):=by
   rcases cU Y with rfl|⟨Z,x,rfl⟩
   ·exact val_nought
   ·have:((Z++[x]++[w]).map (av 1))[Z.length]?=some (av 1 x):=by simp
    rw [show (Z++[x]).length=Z.length+1 by simp,bgS this,List.getLast?_concat]
    exact GQ
  rw [eb] at n2 n3
  simp only [Pc.E,Pc.L,Pc.H,GQ,Rat.natCast_le_natCast,Rat.natCast_lt_natCast,Rat.natCast_inj] at t1 t2 a1 b1 n2 n3
  rw [←w1] at t1
  rw [←w2] at t2
  refine .inr ⟨Y,w,rfl,n2,n3,b1,t1,t2,a1,⟨fun d hd=>?_,?_,?_⟩⟩
  ·rw [(go d hd).1,rS hd,Bq hd n2 (Nat.le_of_lt t1) b1 a1]
   split <;> simp
  ·have:=h.ln
   simp at this
   split <;> simp <;> omega
  ·have bw:=h.bd w (by simp)
   have bu:=bd u (by simp)
   have bY:BdU (2 ^ 37) Y:=fun x hx=>h.bd x (by simp [hx])
   split
   ·intro x hx
    rcases List.mem_append.mp hx with hx|hx
    ·exact bY x hx
    ·rw [List.mem_singleton] at hx;subst hx;exact ⟨bu.1,bw.2.1,bu.2.2⟩
   ·intro x hx
    rcases List.mem_append.mp hx with hx|hx
    ·exact bY x hx
    ·simp only [List.mem_cons,List.not_mem_nil,or_false] at hx
     rcases hx with rfl|rfl
     ·exact bw
     ·exact bu
theorem FR {Z:List Un3} {x w:Un3}:atI ((Z++[x]++[w]).map uV) (-2)=some (uV x):=by
 simp only [atI,ixN,List.length_map,List.length_append,List.length_singleton]
 rw [if_neg (by omega),if_pos (by omega),show ((-2:Int)+((Z.length+1+1:Nat):Int)).toNat=Z.length by omega]
 simp
noncomputable def nxE (P:Fr→AH→Prop):bn:={ nx:=P,rt:=fun _ _=>False }
theorem Ec {P:Fr→AH→Prop} {ρ:Fr} {st:AH}:(nxE P).nx ρ st=P ρ st:=rfl
local macro_rules | `(tactic| walk_at "WPN")=>`(tactic| simp only [p_,FJ,qH,vF,s_,uh,t3,pF,zD,Bg,yL,A2,uY,yC,AD,tJ,vL,sS,lF,wc,y8,BR,ud,Ai,vf,Cz,pH,Bo,td,u8,Bc,sZ,yk,Aq,Fi,BY,yv,Ep,yI,Be,AR,Bi,Aj,AJ,zT,Fp,zG,Fw,El,uc,yj,t9,BS,tG,A3,uF,pC,FE,zd,zJ,Fm,z8,Ba,zH,tI,zV,uI,zZ,Ej,uz,p6,vo,qd,ph,tB,pT,uX,qf,tP,A4,Ac,pM,qi,fY,jT,iz,km,qC,mD,B0,BL,Ak,Az,yP,zj,uZ,uf,vB,u9,tj,Af,EO,yA,A0,Ew,Fb,yT,AT,tW,uA,F4,F6,Eb,Gy,Bd,yO,yX,ki,mC,kC,ky,kg,jW,o8,pQ,pZ,pN,mq,m9,mR,j9,kK,iU,kI,mJ,jQ,jU,kv,jV,yG,zu,Aa,rH,ou,Ae,yB,zf,Bp,Ao,Av,tO,tX,t7,z9,na,tH,uB,yy,AC,Bs,Er,EX,EZ,Ek,Gq,AF,t4,vI,uT,frame,Γ_0,Γ_1,Γ_2,Γ_3,Γ_4,Γ_5,Γ_6,Γ_7,Γ_8,Γ_9,EF,FF,EJ,Eg,EM,Ga,Gx,Go,Ev,FM,EI,Fk,F9,FI,Eh,Fe,E4,ES,FL,Em,Gk,Fq,EG,GB,FC,Nat.add_assoc,eY,gT,List.append_assoc,List.length_append,List.length_set,List.map_cons,List.map_nil,List.length_cons,List.length_nil,List.replicate,List.cons_append,List.nil_append,List.append_nil,List.getElem?_cons_zero,List.getElem?_cons_succ,List.set_cons_zero,List.set_cons_succ,Option.some.injEq,Cell.lst.injEq,PV.int.injEq,PV.bl.injEq,PV.ref.injEq,PV.str.injEq,PV.tup.injEq,PV.rdl.injEq,List.cons.injEq,and_true,true_and,exists_eq_left,exists_eq_left',exists_eq_right,exists_and_left,exists_and_right,exists_const,Bool.not_true,Bool.not_false,Bool.not_not,Bool.not_eq_true',decide_eq_true_eq,decide_eq_false_iff_not,false_and,and_false,false_or,or_false,if_true,if_false,Bool.false_eq_true,reduceCtorEq,reduceIte,not_false_eq_true,Nat.add_zero,Nat.zero_add,Nat.reduceAdd,Nat.reduceSub,Nat.reduceLeDiff,Int.reduceToNat,Int.reducePow,Int.reduceLT,Int.reduceLE,Int.reduceNeg,Int.reduceAdd,Int.reduceSub,Int.reduceMul,tw,qw,exists_eq,exists_eq',exists_false,ne_eq,not_true_eq_false,and_assoc,Option.join_some,Option.join_none,decide_true,decide_false,vt,vO,um,ur,tQ,tU,vn,Int.reduceEq,Nat.reduceEqDiff,Bool.not_eq_false,Bool.not_eq_true,Bool.and_true,Bool.true_and,Bool.and_false,Bool.false_and,Bool.or_false,Bool.or_true,Ec])
theorem ka {s:S} {ss:Ss} {ρ:Fr} {st:AH} {D:bn} (P:Fr→AH→Prop) (h1:wpS Γ s ρ st (nxE P)) (h2:∀ρ' st',P ρ' st'→ay Γ ss ρ' st' D):ay Γ (.cons s ss) ρ st D:=by
 cases ss with
 | nil=>exact ju (D:=nxE P) Γm s ⟨fun ρ st z=>h2 ρ st z,fun _ _ z=>False.elim z,fun _ _ z=>False.elim z,fun _ _ z=>False.elim z⟩ h1
 | cons s2 ss=>exact ju (D:=nxE P) (D':=aft Γ (.cons s2 ss) D) Γm s ⟨fun ρ st z=>h2 ρ st z,fun _ _ z=>False.elim z,fun _ _ z=>False.elim z,fun _ _ z=>False.elim z⟩ h1
theorem ifS {c:E} {x y:Ss} {ρ:Fr} {st:AH} {D:bn} (A B:AH→Prop) (h:wpT Γ c ρ st fun k st1=>if k=true then A st1 else B st1) (h1:∀st1,A st1→ay Γ x ρ st1 D) (h2:∀st1,B st1→ay Γ y ρ st1 D):wpS Γ (.ifS c x y) ρ st D:=by
 rw [Cz]
 refine aQ Γm c (fun k st1 z=>?_) h
 cases k with
 | true=>exact h1 _ z
 | false=>exact h2 _ z
noncomputable def LuI (st:AH) (n:Nat) (U:List Un3) (i:Nat) (ρ:Fr) (s:AH):Prop:=∃(V:List Un3) (g:AH) (a b c d e f x y z:Option PV),s=st++.lst (V.map uV)::g∧Fnd U i V∧ρ=[some (.ref n),some (.ref st.length),a,b,c,d,e,f,x,y,z]
noncomputable abbrev mh:Ss:=(.cons (.set (.name 5) (.ite (.cmp .NotEq (.var 1) (.lst .nil)) (.ix (.ix (.var 1) (.neg (.int 1))) (.int 0)) (.int 0))) (.cons (.ifS (.bop true (.cons (.cmp .NotEq (.var 1) (.lst .nil)) (.cons (.cmp .Eq (.ix (.ix (.var 1) (.neg (.int 1))) (.int 2)) (.var 3)) .nil))) (.cons (.set (.name 6) (.ite (.cmp .Gt (.blt .len (.cons (.var 1) .nil)) (.int 1)) (.ix (.ix (.var 1) (.neg (.int 2))) (.int 0)) (.int 0))) (.cons (.set (.tup (.cons (.name 7) (.cons (.name 8) (.cons (.name 9) .nil)))) (.ix (.var 1) (.neg (.int 1)))) (.cons (.set (.name 10) (.bin .Mult (.bin .Sub (.var 9) (.var 8)) (.bin .Sub (.var 2) (.var 5)))) (.cons (.ifS (.bop false (.cons (.cmp .Eq (.var 7) (.var 6)) (.cons (.cmp .Eq (.var 10) (.bin .Mult (.bin .Sub (.var 4) (.var 3)) (.bin .Sub (.var 7) (.var 6)))) .nil))) (.cons (.set (.name 3) (.var 8)) (.cons (.expr (.met .pop0 (.var 1) .nil)) .nil)) .nil) .nil)))) .nil) (.cons (.expr (.met .append (.var 1) (.cons (.tup (.cons (.var 2) (.cons (.var 3) (.cons (.var 4) .nil)))) .nil))) .nil)))
noncomputable abbrev m_:Ss:=(.cons (.ret (.var 1)) .nil)
theorem sH {as st Q} (h:dl as st Q):ay Γ ek (frame 11 as) st (ag st Q):=by
 obtain ⟨n,U,rfl,hn,hU,hl,hB,k⟩:=h
 have nl:n<st.length:=bp hn
 have turn:∀(i:Nat) (u:Un3) (V:List Un3) (g:AH) (d e f x y z:Option PV),U[i]?=some u→Fnd U i V→ay Γ mh [some (.ref n),some (.ref st.length),some (.int u.1),some (.int u.2.1),some (.int u.2.2),d,e,f,x,y,z] (st++.lst (V.map uV)::g) (LD (LuI st n U (i+1)) (aft Γ m_ (ag st Q))):=by
  intro i u V g d e f x y z hu hV
  have il:=(List.getElem?_eq_some_iff.mp hu).1
  have bu:BdU (2 ^ 37) [u]:=fun x hx=>by rw [List.mem_singleton] at hx;rw [hx];exact hB u (List.mem_of_getElem? hu)
  have lV:=hV.ln
  have bu1:=bu u (by simp)
  refine ka (fun ρ s=>∃(v:PV) (g:AH),s=st++.lst (V.map uV)::g∧(∀Y w,V=Y++[w]→v=.int w.1)∧ρ=[some (.ref n),some (.ref st.length),some (.int u.1),some (.int u.2.1),some (.int u.2.2),some v,e,f,x,y,z]) ?_ ?_
  ·walk_at "WPN"
   refine fb (xs:=V.map uV) (by simp) (by simp) wd ?_
   rcases cU V with rfl|⟨Y,w,rfl⟩
   ·rw [if_neg (by simp)]
    exact ⟨⟨_,rfl⟩,_,fun Y w e=>by simp at e,rfl⟩
   ·rw [if_pos (by simp)]
    refine ⟨_,af aC,uV w,by rw [List.map_append];exact fC,?_⟩
    walk_at "WP"
    exact ⟨⟨_,rfl⟩,_,fun Y' w' e=>by rw [show w=w' from List.head_eq_of_cons_eq (List.append_inj' e rfl).2],rfl⟩
  rintro ρ s ⟨v,g,rfl,hv,rfl⟩
  refine ka (fun ρ s=>∃(V':List Un3) (lo:Nat) (g:AH) (e f x y z:Option PV),s=st++.lst (V'.map uV)::g∧V'.length<60∧Fnd U (i+1) (V'++[(u.1,lo,u.2.2)])∧ρ=[some (.ref n),some (.ref st.length),some (.int u.1),some (.int lo),some (.int u.2.2),some v,e,f,x,y,z]) ?_ ?_
  ·rcases hV.step hu hU bu with ⟨rfl,hF⟩|⟨Y,w,rfl,h1,h2,h3,h4,h5,h6,hF⟩
   ·refine ifS (fun _=>False) (fun s=>∃g,s=st++.lst ([].map uV)::g) ?_ (fun _ z=>z.elim) ?_
    ·walk_at "WP"
     refine fb (xs:=[]) (by simp) (by simp) (by rw [cw]) ?_
     rw [if_neg (by simp)]
     exact ⟨_,rfl⟩
    ·rintro s ⟨g,rfl⟩
     exact ⟨[],u.2.1,g,_,_,_,_,_,rfl,by simp,hF,rfl⟩
   ·obtain rfl:=hv Y w rfl
    obtain ⟨X,hX⟩:∃X,(Y++[w]).map uV=X:=⟨_,rfl⟩
    have mapsnoc:∀ {Y:List Un3} {c:Un3},(Y++[c]).map uV=Y.map uV++[uV c]:=fun {Y c}=>by simp
    have bw:=hV.bd w (by simp)
    have x1:atI X (-1)=some (uV w):=by rw [←hX,mapsnoc];exact fC
    have x2:X[X.length-1]?=some (uV w):=by rw [←hX,mapsnoc];simp
    have x3:X.dropLast=Y.map uV:=by rw [←hX,mapsnoc,List.dropLast_concat]
    have x4:X.length=Y.length+1:=by rw [←hX];simp
    have lY:Y.length+1<60:=by simp at lV;omega
    obtain ⟨bb,hbb⟩:∃bb,(Y.getLast?.map (·.1)).getD 0=bb:=⟨_,rfl⟩
    rw [hbb] at h1 h2 hF
    have x5:(X.length=1∧bb=0)∨(1<X.length∧∃x',atI X (-2)=some (uV x')∧bb=x'.1):=by
     rcases cU Y with rfl|⟨Z,x',rfl⟩
     ·exact .inl ⟨by simpa using x4,hbb.symm⟩
     ·refine .inr ⟨by simp at x4;omega,x',by rw [←hX];exact FR,?_⟩
      rw [←hbb,List.getLast?_concat];rfl
    have keep:gU bb w u=false→Fnd U (i+1) (Y++[w]++[(u.1,u.2.1,u.2.2)]):=fun e=>by
     rw [e,if_neg Bool.false_ne_true] at hF
     rw [List.append_assoc]
     exact hF
    rw [hX]
    refine ifS (fun s=>w.2.2=u.2.1∧∃g,s=st++.lst X::g) (fun s=>w.2.2≠u.2.1∧∃g,s=st++.lst X::g) ?_ ?_ ?_
    ·walk_at "WP"
     refine fb (xs:=X) (by simp) (by simp) (by rw [←hX];exact wd) ?_
     rw [if_pos (by cases X with|nil=>simp at x4|cons _ _=>rfl)]
     refine ⟨_,af aC,uV w,x1,?_⟩
     walk_at "WP"
     refine di (fun c=>⟨by omega,_,rfl⟩) fun c=>⟨by omega,_,rfl⟩
    ·rintro s ⟨q,g,rfl⟩
     have eg:gU bb w u=decide (((w.2.2:Int)-w.2.1)*((u.1:Int)-w.1)=((u.2.2:Int)-u.2.1)*((w.1:Int)-bb)):=by
      unfold gU
      rw [decide_eq_true q.symm,Bool.true_and]
     refine ka (fun ρ s=>s=st++.lst X::g∧ρ=[some (.ref n),some (.ref st.length),some (.int u.1),some (.int u.2.1),some (.int u.2.2),some (.int w.1),some (.int bb),f,x,y,z]) ?_ ?_
     ·walk_at "WPN"
      refine ⟨_,af aC,?_⟩
      rcases x5 with ⟨x5,rfl⟩|⟨x5,x',x6,rfl⟩
      ·rw [if_neg (by omega)]
       rfl
      ·rw [if_pos (by omega)]
       refine ⟨_,af aC,uV x',x6,?_⟩
       walk_at "WP"
     rintro ρ s ⟨rfl,rfl⟩
     refine ka (fun ρ s=>s=st++.lst X::g∧ρ=[some (.ref n),some (.ref st.length),some (.int u.1),some (.int u.2.1),some (.int u.2.2),some (.int w.1),some (.int bb),some (.int w.1),some (.int w.2.1),some (.int w.2.2),z]) ?_ ?_
     ·walk_at "WPN"
      exact ⟨_,af aC,uV w,x1,_,rfl,rfl,_,_,rfl,_,_,rfl,_,_,rfl,rfl,rfl,rfl,rfl⟩
     rintro ρ s ⟨rfl,rfl⟩
     refine ka (fun ρ s=>s=st++.lst X::g∧ρ=[some (.ref n),some (.ref st.length),some (.int u.1),some (.int u.2.1),some (.int u.2.2),some (.int w.1),some (.int bb),some (.int w.1),some (.int w.2.1),some (.int w.2.2),some (.int (((w.2.2:Int)-w.2.1)*((u.1:Int)-w.1)))]) ?_ ?_
     ·walk_at "WPN"
      exact wa (by omega) (by omega)
     rintro ρ s ⟨rfl,rfl⟩
     refine ifS (fun s=>gU bb w u=true∧s=st++.lst X::g) (fun s=>gU bb w u=false∧s=st++.lst X::g) ?_ ?_ ?_
     ·walk_at "WP"
      refine di (fun c1=>?_) fun c1=>⟨wa (by omega) (by omega),di (fun c2=>?_) fun c2=>?_⟩
      ·rw [eg]
       refine decide_eq_true ?_
       rw [h2 (by omega),Int.sub_self,Int.zero_mul,show (w.1:Int)-(bb:Int)=0 by omega,Int.mul_zero]
      ·rw [eg];exact decide_eq_true c2
      ·rw [eg];exact decide_eq_false c2
     ·rintro s ⟨c,rfl⟩
      rw [c,if_pos rfl] at hF
      walk_at "WPN"
      rw [dF,x3]
      exact ⟨⟨_,bK aC⟩,⟨_,x2⟩,Y,⟨_,rfl⟩,by omega,_,hF,rfl⟩
     ·rintro s ⟨c,rfl⟩
      exact ⟨Y++[w],u.2.1,g,_,_,_,_,_,by rw [hX],by simp;omega,keep c,rfl⟩
    ·rintro s ⟨q,g,rfl⟩
     refine ⟨Y++[w],u.2.1,g,_,_,_,_,_,by rw [hX],by simp;omega,keep ?_,rfl⟩
     unfold gU
     rw [decide_eq_false (by omega),Bool.false_and]
  rintro ρ s ⟨V',lo,g,e,f,x,y,z,rfl,lV',hF,rfl⟩
  walk_at "WP"
  refine ⟨⟨_,bK aC⟩,by simp;omega,V'++[(u.1,lo,u.2.2)],g,_,_,_,_,_,_,_,_,_,?_,hF,rfl⟩
  rw [dF];simp
 unfold ek
 walk_at "WP"
 refine ⟨_,af (au hn),?_⟩
 refine kF Γm (LuI st n U) ⟨[],[],none,none,none,none,none,none,none,none,none,rfl,⟨fun d _=>rfl,Nat.le_refl _,fun u hu=>(nomatch hu)⟩,rfl⟩ ?_ ?_
 ·rintro i v ρ s hi ⟨V,g,a,b,c,d,e,f,x,y,z,rfl,hV,rfl⟩
  refine ⟨(au hn).trans (au hn).symm,?_⟩
  rw [List.getElem?_map] at hi
  obtain ⟨u,hu,rfl⟩:=Option.map_eq_some_iff.mp hi
  exact ⟨_,rfl,rfl,_,_,rfl,_,_,rfl,_,_,rfl,rfl,turn i u V g d e f x y z hu hV⟩
 ·rintro ρ s ⟨V,g,a,b,c,d,e,f,x,y,z,rfl,hV,rfl⟩
  refine ⟨(au hn).trans (au hn).symm,?_⟩
  walk_at "WP"
  rw [List.length_map] at hV
  refine .inl (k _ V _ aC (fun d hd=>?_) (by have:=hV.ln;omega))
  have:=hV.eq d hd
  rwa [List.take_length] at this
noncomputable abbrev n_:Tg:=(.name 6)
noncomputable abbrev iP:Ss:=(.cons (.set (.name 7) (.bin .Add (.bin .Add (.var 3) (.int 1)) (.call 26 (.cons (.var 0) (.cons (.ix (.tup (.cons (.int 3) (.cons (.int 9) (.cons (.bin .Pow (.int 10) (.int 9)) .nil)))) (.call 26 (.cons (.var 0) (.cons (.int 3) .nil)))) .nil))))) (.cons (.ifS (.bop true (.cons (.cmp .Eq (.var 6) (.int 0)) (.cons (.cmp .Eq (.call 26 (.cons (.var 0) (.cons (.int 4) .nil))) (.int 0)) .nil))) (.cons (.set (.name 7) (.int 0)) .nil) .nil) (.cons (.set (.name 8) (.comp (.var 0) (.name 0) (.seq (.var 1)) (.cons (.cmp .Gt (.var 0) (.var 1)) .nil) ["_law_hint"] [3])) (.cons (.ifS (.bop true (.cons (.cmp .NotEq (.var 8) (.lst .nil)) (.cons (.cmp .Eq (.call 26 (.cons (.var 0) (.cons (.int 2) .nil))) (.int 0)) .nil))) (.cons (.set (.name 7) (.ix (.var 8) (.call 26 (.cons (.var 0) (.cons (.blt .len (.cons (.var 8) .nil)) .nil))))) .nil) .nil) (.cons (.set (.name 9) (.bin .Add (.blt .max2 (.cons (.var 4) (.cons (.var 3) .nil))) (.tmp (.ix (.lst (.cons (.int 0) (.cons (.call 26 (.cons (.var 0) (.cons (.int 4) .nil))) (.cons (.call 26 (.cons (.var 0) (.cons (.bin .Pow (.int 10) (.int 9)) .nil))) .nil)))) (.call 26 (.cons (.var 0) (.cons (.int 3) .nil))))))) (.cons (.set (.name 10) (.bin .Add (.blt .max2 (.cons (.var 9) (.cons (.var 7) .nil))) (.tmp (.ix (.lst (.cons (.int 0) (.cons (.call 26 (.cons (.var 0) (.cons (.int 4) .nil))) (.cons (.call 26 (.cons (.var 0) (.cons (.bin .Pow (.int 10) (.int 9)) .nil))) .nil)))) (.call 26 (.cons (.var 0) (.cons (.int 3) .nil))))))) (.cons (.ifS (.cmp .Eq (.var 7) (.int 0)) (.cons (.set (.name 10) (.var 9)) .nil) .nil) (.cons (.expr (.met .append (.var 2) (.cons (.tup (.cons (.var 7) (.cons (.var 9) (.cons (.var 10) .nil)))) .nil))) (.cons (.set (.tup (.cons (.name 3) (.cons (.name 4) .nil))) (.tup (.cons (.var 7) (.cons (.var 10) .nil)))) .nil)))))))))
noncomputable abbrev iO:Ss:=(.cons (.ret (.var 2)) .nil)
noncomputable def RoI (st:AH) (p n:Nat) (W:Nat→Nat) (many:Nat) (m:Nat) (i:Nat) (ρ:Fr) (s:AH):Prop:=∃(U:List Un3) (b h:Nat) (x1 x2 x3 x4 x5:Option PV),Gr st p s∧s[m]?=some (.lst (U.map uV))∧RUF U∧U.length=i∧BdU (W i) U∧b≤W i∧h≤W i∧(∀v,U.getLast?=some v→b=v.1∧h=v.2.2)∧(U=[]→b=0∧h=0)∧ρ=[some (.ref p),some (.ref n),some (.ref m),some (.int b),some (.int h),some (.int many),x1,x2,x3,x4,x5]
theorem sx {x y:Int} {z:Int} (x0:0≤x) (x1:x<4) (y0:0≤y) (y1:y<1000000000) (z0:0≤z) (z1:z<([PV.int 0,PV.int x,PV.int y].length:Nat)):∃w:Nat,atI [PV.int 0,PV.int x,PV.int y] z=some (.int w)∧w≤10 ^ 9:=by
 obtain ⟨v,ev,w,rfl,w1⟩:=wp (L:=[PV.int 0,PV.int x,PV.int y]) (P:=fun v=>∃w:Nat,v=.int w∧w≤10 ^ 9) (fun v hv=>by
  simp only [List.mem_cons,List.not_mem_nil,or_false] at hv
  rcases hv with rfl|rfl|rfl
  ·exact ⟨0,rfl,by decide⟩
  ·exact ⟨x.toNat,by congr 1;omega,by omega⟩
  ·exact ⟨y.toNat,by congr 1;omega,by omega⟩) z0 z1
 exact ⟨w,ev,w1⟩
theorem vb {as st Q} (h:dS as st Q):ay Γ fu (frame 11 as) st (ag st Q):=by
 obtain ⟨p,n,hs,B,rfl,hp,hnp,hn,hB,lh,B1,k⟩:=h
 have pl:=hp.lt
 have mne:st.length≠p:=by omega
 obtain ⟨W,hW⟩:∃W:Nat→Nat,∀i,W i=B+2*10 ^ 9*i:=⟨_,fun _=>rfl⟩
 obtain ⟨c9,hc9⟩:∃c:Nat,c=10 ^ 9:=⟨_,rfl⟩
 have turn:∀(many i:Nat) (ρ:Fr) (s:AH),i<many→many≤20→RoI st p n W many st.length i ρ s→ay Γ iP (ρ.set 6 (some (.int i))) s (LD (RoI st p n W many st.length (i+1)) (aft Γ iO (ag st Q))):=by
  rintro many i ρ s hi hm ⟨U,b,hh,y1,y2,y3,y4,y5,G,hu,hU,lU,bU,bb,bh,last,emp,rfl⟩
  have w0:=hW i
  have w1:=hW (i+1)
  refine ka (fun ρ s=>∃e:Nat,b<e∧e≤b+c9∧Gr st p s∧s[st.length]?=some (.lst (U.map uV))∧ρ=[some (.ref p),some (.ref n),some (.ref st.length),some (.int b),some (.int hh),some (.int many),some (.int i),some (.int e),y3,y4,y5]) ?_ ?_
  ·walk_at "WPN"
   refine ⟨Fd,p,3,rfl,G.pot,by decide,by decide,fun z s1 z0 z1 g1=>?_⟩
   obtain ⟨v,ev,far,rfl,f0,f1⟩:=wp (L:=[PV.int 3,PV.int 9,PV.int 1000000000]) (P:=fun v=>∃d:Nat,v=.int d∧0<d∧d≤10 ^ 9) (fun v hv=>by
    simp only [List.mem_cons,List.not_mem_nil,or_false] at hv
    rcases hv with rfl|rfl|rfl
    ·exact ⟨3,rfl,by decide,by decide⟩
    ·exact ⟨9,rfl,by decide,by decide⟩
    ·exact ⟨_,rfl,by decide,by decide⟩) z0 z1
   walk_at "WP"
   refine ⟨_,ev,p,_,rfl,g1.pot,by omega,by omega,fun x s2 x0 x1 g2=>?_⟩
   walk_at "WP"
   exact ⟨b+1+x.toNat,by omega,by omega,(G.trans g1).trans g2,g2.get (g1.get hu mne) mne,by omega⟩
  rintro ρ s ⟨e,e1,e2,G,hu,rfl⟩
  refine ka (fun ρ s=>∃e:Nat,((e=0∧i=0)∨b<e∧e≤b+c9)∧Gr st p s∧s[st.length]?=some (.lst (U.map uV))∧ρ=[some (.ref p),some (.ref n),some (.ref st.length),some (.int b),some (.int hh),some (.int many),some (.int i),some (.int e),y3,y4,y5]) ?_ ?_
  ·walk_at "WPN"
   by_cases c:i=0
   ·rw [if_pos (by omega)]
    refine ⟨p,4,rfl,G.pot,by decide,by decide,fun z s1 z0 z1 g1=>?_⟩
    walk_at "WP"
    by_cases c2:z=0
    ·rw [if_pos c2]
     exact ⟨0,.inl ⟨rfl,c⟩,G.trans g1,g1.get hu mne,rfl⟩
    ·rw [if_neg c2]
     exact ⟨e,.inr ⟨e1,e2⟩,G.trans g1,g1.get hu mne,rfl⟩
   ·rw [if_neg (by omega)]
    exact ⟨e,.inr ⟨e1,e2⟩,G,hu,rfl⟩
  clear e1 e2 e
  rintro ρ s ⟨e,e1,G,hu,rfl⟩
  have hn':s[n]?=some (.lst (hs.map iV)):=G.get hn hnp
  refine ka (fun ρ s=>∃(l:Nat) (hs':List Nat),l≠p∧s[l]?=some (.lst (hs'.map iV))∧(∀h∈hs',b<h∧h≤B)∧hs'.length≤200∧Gr st p s∧s[st.length]?=some (.lst (U.map uV))∧ρ=[some (.ref p),some (.ref n),some (.ref st.length),some (.int b),some (.int hh),some (.int many),some (.int i),some (.int e),some (.ref l),y4,y5]) ?_ ?_
  ·walk_at "WPN"
   refine ⟨_,af hn',by simp;omega,?_⟩
   refine jx Γm (fun j acc s'=>s'=s∧∃hs':List Nat,acc=hs'.map iV∧(∀h∈hs',b<h∧h≤B)∧hs'.length≤j) ⟨rfl,[],rfl,fun h hh=>(nomatch hh),Nat.le_refl _⟩ ?_ ?_
   ·rintro j x acc s' hx ⟨rfl,hs',rfl,hq,lq⟩
    refine ⟨rfl,?_⟩
    rw [List.getElem?_map] at hx
    obtain ⟨y,hy,rfl⟩:=Option.map_eq_some_iff.mp hx
    walk_at "WP"
    refine di (fun c=>?_) fun c=>?_
    ·refine ⟨hs'++[y],by simp,fun h hh=>?_,by simp;omega⟩
     rcases List.mem_append.mp hh with hh|hh
     ·exact hq h hh
     ·rw [List.mem_singleton] at hh
      rw [hh]
      exact ⟨by omega,hB y (List.mem_of_getElem? hy)⟩
    ·exact ⟨hs',rfl,hq,by omega⟩
   ·rintro acc s' ⟨rfl,hs',rfl,hq,lq⟩
    refine ⟨rfl,?_⟩
    rw [List.length_map] at lq
    exact ⟨_,G.ne,hs',aA,hq,by omega,G.app,au hu,rfl⟩
  rintro ρ s ⟨l,hs',lne,hl,hq,lq,G,hu,rfl⟩
  refine ka (fun ρ s=>∃e:Nat,((e=0∧i=0)∨b<e∧e≤W i+c9)∧Gr st p s∧s[st.length]?=some (.lst (U.map uV))∧ρ=[some (.ref p),some (.ref n),some (.ref st.length),some (.int b),some (.int hh),some (.int many),some (.int i),some (.int e),some (.ref l),y4,y5]) ?_ ?_
  ·walk_at "WPN"
   have keep:∀s',Gr st p s'→s'[st.length]?=some (.lst (U.map uV))→∃e':Nat,((e'=0∧i=0)∨b<e'∧e'≤W i+c9)∧Gr st p s'∧s'[st.length]?=some (.lst (U.map uV))∧(e:Int)=e':=fun s' G' hu'=>⟨e,by omega,G',hu',rfl⟩
   refine fb (xs:=hs'.map iV) (au hl) aA (d_ fun v hv=>by obtain ⟨w,_,rfl⟩:=List.mem_map.mp hv;rfl) ?_
   cases hs' with
   | nil =>
    rw [if_neg (by simp)]
    exact keep _ G.app (au hu)
   | cons h0 hs' =>
    rw [if_pos (by simp)]
    refine ⟨p,2,rfl,G.pot.app,by decide,by decide,fun z s1 z0 z1 g1=>?_⟩
    have G1:=G.app.trans g1
    have hu1:=g1.get (au hu) mne
    have hl1:=g1.get (au hl) lne
    walk_at "WP"
    refine di (fun c=>?_) fun c=>keep _ G1 hu1
    refine ⟨_,af hl1,p,_,rfl,G1.pot,(by first|(simp;done)|(simp;omega)),by simp at lq ⊢;omega,fun y s2 y0 y1 g2=>?_⟩
    obtain ⟨v,ev,w,rfl,w1⟩:=wp (L:=(h0::hs').map iV) (P:=fun v=>∃d:Nat,v=.int d∧(b<d∧d≤B)) (fun v hv=>by
     obtain ⟨w,hw,rfl⟩:=List.mem_map.mp hv
     exact ⟨w,rfl,hq w hw⟩) y0 y1
    walk_at "WP"
    exact ⟨_,af (g2.get hl1 lne),_,ev,w,by omega,G1.trans g2,g2.get hu1 mne,rfl⟩
  clear e1 e
  rintro ρ s ⟨e,e1,G,hu,rfl⟩
  refine ka (fun ρ s=>∃lo:Nat,hh≤lo∧b≤lo∧lo≤W i+c9∧Gr st p s∧s[st.length]?=some (.lst (U.map uV))∧ρ=[some (.ref p),some (.ref n),some (.ref st.length),some (.int b),some (.int hh),some (.int many),some (.int i),some (.int e),some (.ref l),some (.int lo),y5]) ?_ ?_
  ·walk_at "WPN"
   refine ⟨p,4,rfl,G.pot,by decide,by decide,fun x s1 x0 x1 g1=>?_⟩
   walk_at "WP"
   refine ⟨Fd,p,_,rfl,g1.pot,by decide,by decide,fun y s2 y0 y1 g2=>?_⟩
   walk_at "WP"
   refine ⟨p,3,rfl,g2.pot.app,by decide,by decide,fun z s3 z0 z1 g3=>?_⟩
   obtain ⟨w,ew,w1⟩:=sx x0 x1 y0 y1 z0 z1
   walk_at "WP"
   refine ⟨_,af (g3.get aA g2.ne),_,ew,?_⟩
   refine ((g1.trans g2).app.trans g3).tmp rfl fun s4 g4 _=>?_
   obtain ⟨M,eM,M1,M2,M3⟩:=DS hh b
   walk_at "WP"
   rw [eM]
   exact ⟨M+w,by omega,by omega,by omega,G.trans g4,g4.get hu mne,by omega⟩
  rintro ρ s ⟨lo,l1,l2,l3,G,hu,rfl⟩
  refine ka (fun ρ s=>∃hi:Nat,lo≤hi∧e≤hi∧hi≤W i+2*c9∧Gr st p s∧s[st.length]?=some (.lst (U.map uV))∧ρ=[some (.ref p),some (.ref n),some (.ref st.length),some (.int b),some (.int hh),some (.int many),some (.int i),some (.int e),some (.ref l),some (.int lo),some (.int hi)]) ?_ ?_
  ·walk_at "WPN"
   refine ⟨p,4,rfl,G.pot,by decide,by decide,fun x s1 x0 x1 g1=>?_⟩
   walk_at "WP"
   refine ⟨Fd,p,_,rfl,g1.pot,by decide,by decide,fun y s2 y0 y1 g2=>?_⟩
   walk_at "WP"
   refine ⟨p,3,rfl,g2.pot.app,by decide,by decide,fun z s3 z0 z1 g3=>?_⟩
   obtain ⟨w,ew,w1⟩:=sx x0 x1 y0 y1 z0 z1
   walk_at "WP"
   refine ⟨_,af (g3.get aA g2.ne),_,ew,?_⟩
   refine ((g1.trans g2).app.trans g3).tmp rfl fun s4 g4 _=>?_
   obtain ⟨M,eM,M1,M2,M3⟩:=DS lo e
   walk_at "WP"
   rw [eM]
   exact ⟨M+w,by omega,by omega,by omega,G.trans g4,g4.get hu mne,by omega⟩
  rintro ρ s ⟨hi,h1,h2,h3,G,hu,rfl⟩
  refine ka (fun ρ s=>∃hi:Nat,lo≤hi∧e≤hi∧(e=0→lo=hi)∧hi≤W i+2*c9∧Gr st p s∧s[st.length]?=some (.lst (U.map uV))∧ρ=[some (.ref p),some (.ref n),some (.ref st.length),some (.int b),some (.int hh),some (.int many),some (.int i),some (.int e),some (.ref l),some (.int lo),some (.int hi)]) ?_ ?_
  ·walk_at "WPN"
   refine di (fun c=>?_) fun c=>?_
   ·exact ⟨lo,by omega,by omega,fun _=>rfl,by omega,G,hu,rfl⟩
   ·exact ⟨hi,h1,h2,fun z=>by omega,h3,G,hu,rfl⟩
  clear h1 h2 h3 hi
  rintro ρ s ⟨hi,h1,h2,h4,h3,G,hu,rfl⟩
  walk_at "WP"
  have app:App U (e,lo,hi):=⟨fun _=>⟨h1,h2,h4⟩,fun v hv=>by
   obtain ⟨z1,z2⟩:=last v hv
   have:U≠[]:=fun z=>by rw [z] at hv;cases hv
   have:i≠0:=fun z=>this (List.length_eq_zero_iff.mp (lU.trans z))
   exact ⟨by dsimp only;omega,by dsimp only;omega,h1,h2⟩⟩
  refine ⟨⟨_,bK hu⟩,_,hu,by simp;omega,U++[(e,lo,hi)],e,hi,_,_,_,_,_,G.setN (Nat.le_refl _),?_,Dq hU app,by simp;omega,fun w hw=>?_,by omega,by omega,fun v hv=>?_,fun z=>by simp at z,rfl⟩
  ·rw [List.getElem?_set_self (bp hu)];simp
  ·rcases List.mem_append.mp hw with hw|hw
   ·have:=bU w hw;omega
   ·rw [List.mem_singleton] at hw
    rw [hw]
    exact ⟨by dsimp only;omega,by dsimp only;omega,by dsimp only;omega⟩
  ·rw [List.getLast?_concat] at hv
   cases hv
   exact ⟨rfl,rfl⟩
 have loop:∀(many:Nat) (s:AH),many≤20→Gr st p s→s[st.length]?=some (.lst [])→Ez Γ n_ iP (fun _=>True) (aft Γ iO (ag st Q)) (dZ 0 (many:Int).toNat) [some (.ref p),some (.ref n),some (.ref st.length),some (.int 0),some (.int 0),some (.int many),none,none,none,none,none] s:=by
  intro many s hm G hs
  refine kF Γm (RoI st p n W many st.length) ⟨[],0,0,_,_,_,_,_,G,hs,trivial,rfl,fun u hu=>(nomatch hu),by omega,by omega,fun v hv=>(nomatch hv),fun _=>⟨rfl,rfl⟩,rfl⟩ ?_ ?_
  ·rintro i v ρ s hi I
   obtain ⟨rfl,hi'⟩:=uJ hi
   refine ⟨trivial,?_⟩
   exact turn many i ρ s hi' hm I
  ·rintro ρ s ⟨U,b,hh,y1,y2,y3,y4,y5,G,hu,hU,lU,bU,bb,bh,last,emp,rfl⟩
   refine ⟨trivial,?_⟩
   have hl':(dZ 0 (many:Int).toNat).length=many:=by simp [dZ]
   rw [hl'] at lU bU
   have w0:=hW many
   walk_at "WP"
   exact .inl (k U _ _ G (Nat.le_refl _) hu hU (by omega) fun u hu=>by have:=bU u hu;omega)
 unfold fu
 walk_at "WP"
 refine ⟨p,7,rfl,hp.app,by decide,by decide,fun y s1 y0 y1 g1=>?_⟩
 refine ⟨p,8,rfl,g1.pot,by decide,by decide,fun z s2 z0 z1 g2=>?_⟩
 have G2:=(Gr.refl hp).app.trans (g1.trans g2)
 have hs2:=g2.get (g1.get aA mne) mne
 walk_at "WP"
 refine di (fun c=>?_) fun c=>?_
 ·refine ⟨p,14,rfl,g2.pot,by decide,by decide,fun w s3 w0 w1 g3=>?_⟩
  walk_at "WP"
  obtain ⟨m,hm⟩:∃m:Nat,7+w=m:=⟨(7+w).toNat,by omega⟩
  rw [hm]
  exact ⟨by omega,by omega,loop m s3 (by omega) (G2.trans g3) (g3.get hs2 mne)⟩
 ·obtain ⟨m,hm⟩:∃m:Nat,y=m:=⟨y.toNat,by omega⟩
  subst hm
  exact ⟨by omega,by omega,loop m s2 (by omega) G2 hs2⟩
noncomputable def tau (b:Rat) (p:Pc) (y:Rat):Rat:=b+(p.E-b)*((y-p.L)/(p.H-p.L))
noncomputable def xat (b:Rat) (p:Pc) (t:Rat):Rat:=p.L+(p.H-p.L)*((t-b)/(p.E-b))
theorem Ch.cutE {y:Rat}:∀ {L:List Pc} {b:Rat},Ch b L→∃k,k≤L.length∧(∀(i:Nat) p,L[i]?=some p→i<k→p.E≤y)∧∀(i:Nat) p,L[i]?=some p→k≤i→y<p.E
 | [],b,_=>⟨0,Nat.le_refl _,fun i p e=>by simp at e,fun i p e=>by simp at e⟩
 | p::r,b,⟨h1,h2,h3,h4⟩=>by
  by_cases q:p.E≤y
  ·obtain ⟨k,k1,k2,k3⟩:=h4.cutE (y:=y)
   refine ⟨k+1,by simp;omega,fun i p' e h=>?_,fun i p' e h=>?_⟩
   ·cases i with
    | zero=>cases e;exact q
    | succ i=>exact k2 i p' (by simpa using e) (by omega)
   ·cases i with
    | zero=>omega
    | succ i=>exact k3 i p' (by simpa using e) (by omega)
  ·refine ⟨0,Nat.zero_le _,fun i p _ h=>absurd h (Nat.not_lt_zero _),fun i p' e _=>?_⟩
   cases i with
   | zero=>cases e;grind
   | succ i =>
    have:∀ {r:List Pc} {b:Rat} {i:Nat} {p':Pc},Ch b r→r[i]?=some p'→b<p'.E:=by
     intro r
     induction r with
     | nil=>intro b i p' _ e;simp at e
     | cons a r ih =>
      intro b i p' ⟨g1,g2,g3,g4⟩ e
      cases i with
      | zero=>cases e;exact g2
      | succ i=>have:=ih g4 (by simpa using e);grind
    have:=this h4 (by simpa using e)
    grind
theorem RtF.cutE {L:List Pc} {y:Rat} (h:RtF L):∃k,k≤L.length∧(∀(i:Nat) p,L[i]?=some p→i<k→p.E≤y)∧∀(i:Nat) p,L[i]?=some p→k≤i→y<p.E:=by
 cases L with
 | nil=>exact ⟨0,Nat.le_refl _,fun i p e=>by simp at e,fun i p e=>by simp at e⟩
 | cons a r=>exact Ch.cutE (b:=a.E-1) ⟨h.1,by grind,h.2.1,h.2.2.2.2.ch⟩
theorem Ch.snoc {c:Pc} (hc:c.Ok) (hl:c.L≤c.H):∀ {R:List Pc} {b:Rat},Ch b R→fM b R<c.E→Ch b (R++[c])
 | [],b,_,h=>⟨hc,h,hl,trivial⟩
 | p::r,b,⟨h1,h2,h3,h4⟩,h=>⟨h1,h2,h3,Ch.snoc hc hl h4 (by rw [ei] at h;exact h)⟩
structure ThI (M:List Pc) (b:Rat) (p:Pc) (n:Nat) (a:Rat) (R:List Pc):Prop where
 ch:Ch b R
 en:∀q∈R,q.E≤tau b p a
 ls:fM b R=tau b p a
 al:p.L≤a
 ah:a≤p.H
 bo:a=p.H∨val (bg M n)≤a
 nx:∀q,M[n]?=some q→a<p.H→a<q.E
 co:∀t,b<t→t≤tau b p a→cm b R t=cm 0 M (xat b p t)
theorem wB {b:Rat} {p:Pc} {t:Rat} (h1:b<p.E) (h2:p.L<p.H):t=b+(p.E-b)/(p.H-p.L)*(xat b p t-p.L):=by
 unfold xat
 have:p.E-b≠0:=by grind
 have:p.H-p.L≠0:=by grind
 grind
theorem j6 {b:Rat} {p:Pc} {y:Rat} (h2:p.L<p.H):tau b p y=b+(p.E-b)/(p.H-p.L)*(y-p.L):=by
 unfold tau
 have:p.H-p.L≠0:=by grind
 grind
theorem FT {b:Rat} {p:Pc} (h1:b<p.E) (h2:p.L<p.H):0<(p.E-b)/(p.H-p.L):=by
 refine Classical.byContradiction fun z=>?_
 have e:(p.E-b)/(p.H-p.L)*(p.H-p.L)=p.E-b:=by
  have:p.H-p.L≠0:=by grind
  grind
 have:=Rat.mul_nonneg (a:=-((p.E-b)/(p.H-p.L))) (b:=p.H-p.L) (by grind) (by grind)
 grind
theorem i9 {w x y:Rat} (hw:0<w):w*x<w*y↔x<y:=by
 constructor
 ·intro h
  refine Classical.byContradiction fun z=>?_
  have:=Rat.mul_nonneg (a:=w) (b:=x-y) (by grind) (by grind)
  grind
 ·intro h
  have:=Rat.mul_pos (a:=w) (b:=y-x) hw (by grind)
  grind
theorem ui {w x y:Rat} (hw:0<w):w*x≤w*y↔x≤y:=by
 have:=i9 (w:=w) (x:=y) (y:=x) hw
 grind
theorem ww {b:Rat} {p:Pc} (h1:b<p.E) (h2:p.L<p.H) (t y:Rat):(t<tau b p y↔xat b p t<y)∧(t≤tau b p y↔xat b p t≤y)∧(tau b p y<t↔y<xat b p t):=by
 have w:=FT h1 h2
 have e:=wB (t:=t) h1 h2
 rw [j6 h2]
 generalize (p.E-b)/(p.H-p.L)=w' at *
 generalize xat b p t=X at *
 subst e
 have a1:=i9 (w:=w') (x:=X-p.L) (y:=y-p.L) w
 have a2:=ui (w:=w') (x:=X-p.L) (y:=y-p.L) w
 have a3:=i9 (w:=w') (x:=y-p.L) (y:=X-p.L) w
 refine ⟨?_,?_,?_⟩ <;> grind
theorem tau_L {b:Rat} {p:Pc}:tau b p p.L=b:=by unfold tau;grind
theorem DQ {b:Rat} {p:Pc} (h2:p.L<p.H):tau b p p.H=p.E:=by
 unfold tau
 have:p.H-p.L≠0:=by grind
 grind
theorem zP {b:Rat} {p:Pc} {x y:Rat} (h1:b<p.E) (h2:p.L<p.H) (h:x<y):tau b p x<tau b p y:=by
 rw [j6 h2,j6 h2]
 have:=Rat.mul_pos (FT h1 h2) (show 0<y-x by grind)
 grind
theorem Ei {M:List Pc} {n:Nat} {q:Pc} (hM:RtF M) (hq:M[n]?=some q) {x:Rat} (hx:x≤q.E) (hb:n=0∨val (bg M n)<x):∃y,cm 0 M x=some y:=⟨_,my hM hq hb hx⟩
theorem ThI.step {M:List Pc} {b:Rat} {p:Pc} {n:Nat} {a θ:Rat} {R:List Pc} {q c:Pc} (h:ThI M b p n a R) (hM:RtF M) (hq:M[n]?=some q) (h1:b<p.E) (h2:p.L<p.H) (p0:0≤p.L) (ha:a<p.H)
  (hθ:(θ=q.E∧q.E<p.H)∨(θ=p.H∧p.H≤q.E)) (hc:c.Ok) (cE:c.E=tau b p θ) (cL:c.L=q.L+(q.H-q.L)*((a-val (bg M n))/(q.E-val (bg M n)))) (cH:c.H=q.L+(q.H-q.L)*((θ-val (bg M n))/(q.E-val (bg M n)))):ThI M b p (n+1) θ (R++[c]):=by
 have aq:=h.nx q hq ha
 have ab:val (bg M n)≤a:=h.bo.resolve_left (by grind)
 have aθ:a<θ:=by rcases hθ with ⟨rfl,_⟩|⟨rfl,_⟩ <;> grind
 have θq:θ≤q.E:=by rcases hθ with ⟨rfl,_⟩|⟨rfl,_⟩ <;> grind
 have θH:θ≤p.H:=by rcases hθ with ⟨rfl,_⟩|⟨rfl,_⟩ <;> grind
 obtain ⟨qok,q1,q2⟩:=hM.at_ hq
 have bq:val (bg M n)<q.E:=by grind
 obtain ⟨s,hs⟩:=Sl.ex (b:=val (bg M n)) (p:=q) bq
 have hs':q.H-q.L=s*(q.E-val (bg M n)):=hs
 rw [pcf bq hs'] at cL cH
 have s0:0≤s:=by
  refine Classical.byContradiction fun z=>?_
  have:=Rat.mul_pos (a:=-s) (b:=q.E-val (bg M n)) (by grind) (by grind)
  grind
 have lt:=zP h1 h2 aθ
 have cLH:c.L≤c.H:=by
  have:=Rat.mul_nonneg s0 (show 0≤θ-a by grind)
  rw [cL,cH]
  grind
 have new:∀x,a<x→x≤θ→cm 0 M x=some (q.L+s*(x-val (bg M n))):=fun x x1 x2=>by
  rw [my hM hq (by by_cases z:n=0;exact .inl z;exact .inr (by grind)) (by grind),if_neg (by grind),pcf bq hs']
 refine ⟨h.ch.snoc hc cLH (by rw [h.ls,cE];exact lt),fun r hr=>?_,?_,by have:=h.al;grind,θH,?_,fun q' hq' hlt=>?_,fun t bt tt=>?_⟩
 ·rcases List.mem_append.mp hr with hr|hr
  ·have:=h.en r hr;grind
  ·rw [List.mem_singleton] at hr
   rw [hr,cE]
   exact Rat.le_refl
 ·unfold fM
  rw [List.getLast?_concat]
  exact cE
 ·rcases hθ with ⟨rfl,_⟩|⟨rfl,_⟩
  ·right;rw [bgS hq];exact Rat.le_refl
  ·exact .inl rfl
 ·rcases hθ with ⟨rfl,_⟩|⟨rfl,_⟩
  ·exact (hM.two hq hq').1
  ·exact absurd hlt (by grind)
 ·by_cases z:t≤tau b p a
  ·have e:=h.co t bt z
   cases y:cm b R t with
   | some v=>rw [fj y,←y,e]
   | none =>
    rw [y] at e
    have x1:xat b p t≤a:=(ww h1 h2 t a).2.1.mp z
    obtain ⟨v,hv⟩:=Ei hM hq (x:=q.E) Rat.le_refl (by by_cases z:n=0;exact .inl z;exact .inr bq)
    obtain ⟨v',hv'⟩:=dr (t:=xat b p t) (by grind) hv
    rw [hv'] at e
    cases e
  ·have x1:a<xat b p t:=(ww h1 h2 t a).2.2.mp (by grind)
   have x2:xat b p t≤θ:=(ww h1 h2 t θ).2.1.mp tt
   rw [dR (aO fun r hr=>by have:=h.en r hr;grind),h.ls,new _ x1 x2]
   have cs:Sl (tau b p a) c (s*((θ-a)/(tau b p θ-tau b p a))):=by
    unfold Sl
    rw [cE,cL,cH]
    have:tau b p θ-tau b p a≠0:=by grind
    grind
   rw [gr (by rw [cE];exact lt) cs (by rw [cE];exact tt),cL]
   congr 1
   have e:=wB (t:=t) h1 h2
   have w:=FT h1 h2
   have d1:tau b p θ-tau b p a=(p.E-b)/(p.H-p.L)*(θ-a):=by rw [j6 h2,j6 h2];grind
   have d2:t-tau b p a=(p.E-b)/(p.H-p.L)*(xat b p t-a):=by rw [j6 h2];grind
   rw [d1,d2]
   generalize (p.E-b)/(p.H-p.L)=w' at *
   have n1:w'≠0:=by grind
   have n2:θ-a≠0:=by grind
   have n3:w'*(θ-a)≠0:=fun z=>by rcases Rat.mul_eq_zero.mp z with z|z <;> grind
   have:(θ-a)/(w'*(θ-a))*(w'*(xat b p t-a))=xat b p t-a:=by grind
   grind
theorem lH {M:List Pc} (hM:RtF M):∀q∈M,q.E≤val (bg M M.length):=by
 intro q hq
 rcases cU M with rfl|⟨Y,c,rfl⟩
 ·cases hq
 ·have hc:(Y++[c])[Y.length]?=some c:=by simp
  rw [show (Y++[c]).length=Y.length+1 by simp,bgS hc]
  obtain ⟨k,k1,k2,k3⟩:=hM.cutE (y:=c.E)
  obtain ⟨i,hi⟩:=List.getElem?_of_mem hq
  have il:=(List.getElem?_eq_some_iff.mp hi).1
  have:Y.length<k:=by
   refine Classical.byContradiction fun z=>?_
   have:=k3 Y.length c hc (by omega)
   grind
  exact k2 i q hi (by simp at il;omega)
theorem ThI.fin {M:List Pc} {b:Rat} {p:Pc} {n:Nat} {a:Rat} {R:List Pc} (h:ThI M b p n a R) (hM:RtF M) (h1:b<p.E) (h2:p.L<p.H) (hx:n=M.length∨p.H≤a):∀t,b<t→t≤p.E→cm b R t=cm 0 M (xat b p t):=by
 intro t bt tE
 by_cases z:t≤tau b p a
 ·exact h.co t bt z
 ·by_cases q:a=p.H
  ·rw [q,DQ h2] at z
   exact absurd tE z
  ·have hn:n=M.length:=hx.resolve_right (by have:=h.ah;grind)
   have ab:=h.bo.resolve_left q
   subst hn
   have x1:a<xat b p t:=(ww h1 h2 t a).2.2.mp (by grind)
   rw [aO fun r hr=>by have:=h.en r hr;grind,aO fun q hq=>by have:=lH hM q hq;grind]
theorem ThI.start {M:List Pc} {b:Rat} {p:Pc} {n:Nat} (hM:RtF M) (h1:b<p.E) (h2:p.L<p.H) (p0:0≤p.L) (hn:n≤M.length) (c1:∀(i:Nat) q,M[i]?=some q→i<n→q.E≤p.L) (c2:∀(i:Nat) q,M[i]?=some q→n≤i→p.L<q.E):ThI M b p n p.L []:=by
 refine ⟨trivial,fun q hq=>(nomatch hq),tau_L.symm,Rat.le_refl,by grind,.inr ?_,fun q hq _=>c2 n q hq (Nat.le_refl _),fun t bt tt=>?_⟩
 ·cases n with
  | zero=>show val (0,1)≤_;rw [val_nought];exact p0
  | succ n =>
   have ha:M[n]?=some M[n]:=List.getElem?_eq_getElem (by omega)
   rw [bgS ha]
   exact c1 n _ ha (Nat.lt_succ_self n)
 ·rw [tau_L] at tt
  exact absurd tt (by grind)
theorem ThI.top {M:List Pc} {b:Rat} {p:Pc} {n:Nat} {a:Rat} {R:List Pc} (h:ThI M b p n a R) (h1:b<p.E) (h2:p.L<p.H):∀q∈R,q.E≤p.E:=by
 intro q hq
 have e:=h.en q hq
 have t:=DQ (b:=b) h2
 have ah:=h.ah
 by_cases z:a=p.H
 ·rw [z,t] at e;exact e
 ·have:=zP h1 h2 (show a<p.H by grind)
  rw [t] at this
  exact Rat.le_trans e (Rat.le_of_lt this)
noncomputable def gTh (y:Nat × Nat):PV→Bool
 | .tup (.tup [.int a,.int b]::_)=>!decide (y.1*b.toNat<a.toNat*y.2)
 | _=>false
noncomputable def TwI (st:AH) (M:List Pc) (b:Nat × Nat) (p:Pc) (j:Nat) (m:Nat) (ρ:Fr) (s:AH):Prop:=∃(n:Nat) (R:List Pc) (a:Nat × Nat) (g:AH) (x y:Option PV),m=M.length-n∧n≤M.length∧s=st++.lst (R.map pcV)::g∧ThI M (val b) p n (val a) R∧Cop a∧Sz j a∧SzL (5*j+2) R∧R.length≤n∧ρ=[some (bL M),some (fr b),some (pcV p),some (fr p.e),some (fr p.l),some (fr p.h),none,some (.ref st.length),some (fr a),some (.int n),x,y]
theorem x_ {as st Q} (h:eJ as st Q):ay Γ fT (frame 12 as) st (ag st Q):=by
 obtain ⟨j,M,b,p,rfl,⟨j1,j2⟩,hM,hz,lM,cb,bz,pok,pz,bE,pLH,k⟩:=h
 have p0:0≤p.L:=aI pok.l.pos
 unfold fT
 walk_at "WP"
 refine i_ ?_
 by_cases q:p.l=p.h
 ·rw [decide_eq_true q,if_pos rfl]
  have eL:p.L=p.H:=congrArg val q
  have ex:∀t,p.L+(p.H-p.L)*((t-val b)/(p.E-val b))=p.H:=fun t=>by rw [eL];grind
  refine ⟨j,j,M,p.h,rfl,⟨j1,by omega⟩,hM,hz,pok.h,pz.h,by omega,fun o ho hc=>?_⟩
  cases o with
  | none =>
   walk_at "WPO"
   refine .inl (k [] _ _ aA trivial (fun q hq=>(nomatch hq)) (fun q hq=>(nomatch hq)) (by simp) fun t _ _=>?_)
   rw [ex,hc]
   rfl
  | some c =>
   obtain ⟨cc,cz⟩:=ho c rfl
   walk_at "WPO"
   refine .inl (k [⟨p.e,c,c⟩] _ _ aA ⟨⟨pok.e,cc,cc⟩,bE,Rat.le_refl,trivial⟩ (fun q hq=>?_) (fun q hq=>?_) (by simp) fun t t1 t2=>?_)
   ·rw [List.mem_singleton] at hq;rw [hq];exact Rat.le_refl
   ·rw [List.mem_singleton] at hq;rw [hq];exact ⟨pz.e.mono (by omega),cz.mono (by omega),cz.mono (by omega)⟩
   ·rw [ex,hc,cm,if_pos t2,if_neg (show ¬val b=p.E by grind)]
    show some (val c+(val c-val c)*_)=some (val c)
    congr 1
    grind
 ·rw [decide_eq_false q,if_neg Bool.false_ne_true]
  have lt:p.L<p.H:=by
   have:p.L≠p.H:=fun z=>q (bH pok.l pok.h z)
   grind
  obtain ⟨n0,n1,n2,n3⟩:=hM.cutE (y:=p.L)
  have hg:∀(i:Nat) r,M[i]?=some r→gTh p.l ((M.map pcV).getD i .non)=!decide (p.l.1*r.e.2<r.e.1*p.l.2):=fun i r e=>by
   rw [List.getD_eq_getElem?_getD,List.getElem?_map,e]
   rfl
  have hb:bsr (gTh p.l) (M.map pcV)=n0:=by
   refine sw (by simpa using n1) (fun i hi=>?_) (fun i h1 h2=>?_)
   ·have ha:M[i]?=some M[i]:=List.getElem?_eq_getElem (by omega)
    rw [hg i _ ha,decide_eq_false]
    ·rfl
    ·intro z
     have:=(je pok.l.pos (hz _ (List.mem_of_getElem? ha)).e.pos).mp z
     have:=n2 i _ ha hi
     grind
   ·have h3:i<M.length:=by simpa using h2
    have ha:M[i]?=some M[i]:=List.getElem?_eq_getElem h3
    rw [hg i _ ha,decide_eq_true]
    ·rfl
    ·exact (je pok.l.pos (hz _ (List.mem_of_getElem? ha)).e.pos).mpr (n3 i _ ha h1)
  refine ⟨by simp;omega,fun i hi=>?_,gTh p.l,fun x hx Q' q=>?_,?_⟩
  ·rw [List.mem_singleton] at hi
   subst hi
   exact ⟨fr p.l,rfl,by simp [PV.bel,PV.bels]⟩
  ·obtain ⟨r,hr,rfl⟩:=List.mem_map.mp hx
   walk_at "WP"
   exact ⟨_,_,rfl,pz.l.mono (by omega),(hz r hr).e.mono (by omega),_,rfl,q⟩
  ·rw [hb]
   refine gL Γm (TwI st M b p j) (n:=M.length-n0) ⟨n0,[],p.l,[],none,none,rfl,n1,rfl,.start hM bE lt p0 n1 n2 n3,pok.l,pz.l,fun q hq=>(nomatch hq),Nat.zero_le _,rfl⟩ ?_
   rintro m ρ s ⟨n,R,a,g,x,y,rfl,hn,rfl,T,ca,az,rz,lR,rfl⟩
   walk_at "WP"
   rw [List.length_map]
   have fin:n=M.length∨p.H≤val a→Ret st Q (PV.ref (List.length st)) (st++Cell.lst (R.map pcV)::g):=fun hx =>
    .inl (k R _ _ aC T.ch (T.top bE lt) rz (by omega) (T.fin hM bE lt hx))
   by_cases c1:n<M.length
   ·rw [if_pos (by omega)]
    refine ⟨_,_,rfl,az.mono (by omega),pz.h.mono (by omega),?_⟩
    by_cases c2:val a<p.H
    ·rw [gj az pz.h c2]
     obtain ⟨q,hq⟩:∃q,M[n]?=some q:=⟨_,List.getElem?_eq_getElem c1⟩
     have qz:=hz q (List.mem_of_getElem? hq)
     obtain ⟨qok,q1,q2⟩:=hM.at_ hq
     have ab:val (bg M n)≤val a:=T.bo.resolve_left (by grind)
     have aq:=T.nx q hq c2
     have al:=T.al
     have fin2:∀th:Nat × Nat,Cop th→Sz j th→(val th=q.E∧q.E<p.H)∨(val th=p.H∧p.H≤q.E)→bN [PV.tup [fr p.l,fr b],PV.tup [fr p.h,fr p.e],fr th] (st++Cell.lst (R.map pcV)::g) fun v_1 st1 =>
       (∃xs,b8 st1 (PV.ref (List.length st))=some xs) ∧
        dy [bL M,PV.int n,fr a] st1 fun x st1 =>
         dy [bL M,PV.int n,fr th] st1 fun x_1 st1 =>
          ∃xs,st1[List.length st]?=some (Cell.lst xs)∧xs.length<100000∧∃m,m<M.length-n ∧
           TwI st M b p j m [some (bL M),some (fr b),some (pcV p),some (fr p.e),some (fr p.l),some (fr p.h),none,some (PV.ref (List.length st)),some (fr th),some (PV.int ((n:Int)+1)),some (fr th),some v_1]
            (List.set st1 (List.length st) (Cell.lst (xs++[PV.tup [v_1,x,x_1]]))):=by
      intro th cth zth hth
      have ath:val a<val th:=by rcases hth with ⟨e,_⟩|⟨e,_⟩ <;> rw [e] <;> grind
      have thq:val th≤q.E:=by rcases hth with ⟨e,_⟩|⟨e,_⟩ <;> rw [e] <;> grind
      have thH:val th≤p.H:=by rcases hth with ⟨e,_⟩|⟨e,_⟩ <;> rw [e] <;> grind
      refine ⟨j,j,j,j,j,_,_,_,_,_,rfl,by omega,⟨pz.l,bz,pz.h,pz.e,zth⟩,⟨lt,by grind,thH⟩,fun mo cmo zmo' vmo=>have zmo:Sz (j+4*j+2) mo:=zmo'.mono (by omega);⟨⟨_,bK aC⟩,?_⟩⟩
      refine ⟨j,j,M,n,q,a,rfl,⟨j1,by omega⟩,hM,hz,hq,ca,az,by rw [eR];exact ab,Rat.le_of_lt aq,fun x cx zx vx=>?_⟩
      refine ⟨j,j,M,n,q,th,rfl,⟨j1,by omega⟩,hM,hz,hq,cth,zth,by rw [eR];grind,thq,fun y cy zy vy=>?_⟩
      rw [eR,if_neg (by grind)] at vx vy
      refine ⟨_,aC,by simp;omega,M.length-(n+1),by omega,n+1,R++[⟨mo,x,y⟩],th,g,_,_,rfl,by omega,?_,?_,cth,zth,?_,by simp;omega,rfl⟩
      ·rw [dF];simp
      ·refine T.step hM hq bE lt p0 c2 hth ⟨cmo,cx,cy⟩ ?_ vx vy
       show val mo=_
       rw [vmo]
       rfl
      ·intro r hr
       rcases List.mem_append.mp hr with hr|hr
       ·exact rz r hr
       ·rw [List.mem_singleton] at hr
        rw [hr]
        exact ⟨zmo.mono (by omega),zx.mono (by omega),zy.mono (by omega)⟩
     walk_at "WP"
     refine ⟨pcV q,bC (by rw [List.getElem?_map,hq];rfl),?_⟩
     walk_at "WP"
     refine ⟨_,_,rfl,qz.e.mono (by omega),pz.h.mono (by omega),?_⟩
     by_cases c3:q.E<p.H
     ·rw [gj qz.e pz.h c3]
      walk_at "WP"
      refine ⟨pcV q,bC (by rw [List.getElem?_map,hq];rfl),?_⟩
      walk_at "WP"
      exact fin2 q.e qok.e qz.e (.inl ⟨rfl,c3⟩)
     ·rw [jg qz.e pz.h (by grind)]
      walk_at "WP"
      exact fin2 p.h pok.h pz.h (.inr ⟨rfl,by grind⟩)
    ·rw [jg az pz.h (by grind)]
     walk_at "WP"
     exact fin (.inr (by grind))
   ·rw [if_neg (by omega)]
    exact fin (.inl (by omega))
theorem dL {A B:List Pc} {t y:Rat} (h:cZ A B t=some y):∃x,cm 0 A t=some x∧cm 0 B x=some y:=by
 unfold cZ at h
 cases e:cm 0 A t with
 | none=>rw [e] at h;cases h
 | some x=>rw [e] at h;exact ⟨x,rfl,h⟩
theorem f_ {A B:List Pc} {t x:Rat} (h:cm 0 A t=some x):cZ A B t=cm 0 B x:=by unfold cZ;rw [h];rfl
theorem fg {A B:List Pc} {t:Rat} (h:cm 0 A t=none):cZ A B t=none:=by unfold cZ;rw [h];rfl
theorem Cd {A B:List Pc} {t y:Rat} (hA:RtF A) (hB:RtF B) (h0:0≤t) (h:cZ A B t=some y):t≤y:=by
 obtain ⟨x,e1,e2⟩:=dL h
 have a:=eS hA h0 e1
 exact Rat.le_trans a (eS hB (Rat.le_trans h0 a) e2)
theorem Cy {A B:List Pc} {t u y z:Rat} (hA:RtF A) (hB:RtF B) (h0:0≤t) (tu:t≤u) (h:cZ A B t=some y) (h':cZ A B u=some z):y≤z:=by
 obtain ⟨x,e1,e2⟩:=dL h
 obtain ⟨x',e1',e2'⟩:=dL h'
 have a:=eS hA h0 e1
 exact i7 hB (Rat.le_trans h0 a) (i7 hA h0 tu e1 e1') e2 e2'
theorem mE {A B:List Pc} {t u z:Rat} (hA:RtF A) (h0:0≤t) (tu:t≤u) (h':cZ A B u=some z):∃y,cZ A B t=some y:=by
 obtain ⟨x',e1',e2'⟩:=dL h'
 obtain ⟨x,e1⟩:=dr tu e1'
 obtain ⟨y,e2⟩:=dr (i7 hA h0 tu e1 e1') e2'
 exact ⟨y,by rw [f_ e1];exact e2⟩
theorem Ch.le {b b':Rat} (h:b'≤b):∀ {R:List Pc},Ch b R→Ch b' R
 | [],_=>trivial
 | p::r,⟨h1,h2,h3,h4⟩=>⟨h1,by grind,h3,h4⟩
theorem Ch.app {b:Rat} {R:List Pc} (hR:Ch b R):∀ {X:List Pc} {b0:Rat},Ch b0 X→fM b0 X≤b→Ch b0 (X++R)
 | [],b0,_,h=>hR.le h
 | p::r,b0,⟨h1,h2,h3,h4⟩,h=>⟨h1,h2,h3,Ch.app hR h4 (by rw [ei] at h;exact h)⟩
theorem Ch.lst:∀ {X:List Pc} {b0:Rat},Ch b0 X→b0≤fM b0 X∧∀q∈X,q.E≤fM b0 X
 | [],b0,_=>⟨Rat.le_refl,fun q hq=>(nomatch hq)⟩
 | p::r,b0,⟨h1,h2,h3,h4⟩=>by
  obtain ⟨a1,a2⟩:=Ch.lst h4
  rw [ei]
  refine ⟨by grind,fun q hq=>?_⟩
  rcases List.mem_cons.mp hq with rfl|hq
  ·exact a1
  ·exact a2 q hq
theorem BV {b:Rat}:∀ {X:List Pc},X≠[]→∃q∈X,fM b X=q.E:=by
 intro X h
 rcases cU X with rfl|⟨Y,c,rfl⟩
 ·exact absurd rfl h
 ·exact ⟨c,by simp,by unfold fM;rw [List.getLast?_concat];rfl⟩
structure ThnI (A B:List Pc) (j i:Nat) (X:List Pc):Prop where
 hd:∃c X',Cop c∧X=⟨(0,1),c,c⟩::X'∧Ch 0 X'
 en:∀q∈X,q.E≤val (bg A i)
 co:∀t,0≤t→t≤val (bg A i)→cm 0 X t=cZ A B t
 sz:SzL (5*j+2) X
 ln:X.length≤1+i*(B.length+1)
theorem ThnI.step {A B:List Pc} {j i:Nat} {X R:List Pc} {p:Pc} (h:ThnI A B j i X) (hA:RtF A) (hp:A[i]?=some p) (lt:val (bg A i)<p.E) (hR:Ch (val (bg A i)) R) (hE:∀q∈R,q.E≤p.E) (rz:SzL (5*j+2) R) (lR:R.length≤B.length+1)
  (hc:∀t,val (bg A i)<t→t≤p.E→cm (val (bg A i)) R t=cm 0 B (p.L+(p.H-p.L)*((t-val (bg A i))/(p.E-val (bg A i))))):ThnI A B j (i+1) (X++R):=by
 obtain ⟨c,X',cc,rfl,hX⟩:=h.hd
 have b0:0≤val (bg A i):=aI (nb hA hp).1.pos
 have ls:fM 0 (⟨(0,1),c,c⟩::X')≤val (bg A i):=by
  obtain ⟨q,hq,e⟩:=BV (b:=0) (X:=⟨(0,1),c,c⟩::X') (by simp)
  rw [e]
  exact h.en q hq
 have v0:Pc.E ⟨(0,1),c,c⟩=0:=val_nought
 have F:∀t,val (bg A i)<t→t≤p.E→cZ A B t=cm (val (bg A i)) R t:=fun t t1 t2=>by
  rw [f_ (my hA hp (.inr t1) t2),if_neg (by grind),hc t t1 t2]
 have ne:R≠[]→∃u z,val (bg A i)<u∧cZ A B u=some z:=fun z=>by
  cases R with
  | nil=>exact absurd rfl z
  | cons r R =>
   obtain ⟨y,e⟩:=sO (b:=val (bg A i)) (p:=r) (r:=R)
   exact ⟨r.E,y,hR.2.1,by rw [F _ hR.2.1 (hE r (by simp)),e]⟩
 have hbg:bg A (i+1)=p.e:=bgS hp
 refine ⟨⟨c,X'++R,cc,rfl,Ch.app hR hX (by rw [ei,v0] at ls;exact ls)⟩,fun q hq=>?_,fun t t0 t1=>?_,fun q hq=>?_,?_⟩
 ·rw [hbg]
  rcases List.mem_append.mp hq with hq|hq
  ·have:=h.en q hq;grind
  ·exact hE q hq
 ·rw [hbg] at t1
  by_cases tb:t≤val (bg A i)
  ·have e:=h.co t t0 tb
   cases y:cm 0 (⟨(0,1),c,c⟩::X') t with
   | some v=>rw [fj y,←y,e]
   | none =>
    rw [dR y]
    have:R=[]:=Classical.byContradiction fun z=>by
     obtain ⟨u,z,u1,u2⟩:=ne z
     obtain ⟨v,hv⟩:=mE hA t0 (by grind) u2
     rw [y,hv] at e
     cases e
    subst this
    rw [←e,y]
    rfl
  ·have n1:cm 0 (⟨(0,1),c,c⟩::X') t=none:=aO fun q hq=>by have:=h.en q hq;grind
   rw [dR n1,F t (by grind) t1]
   by_cases z:R=[]
   ·subst z;rfl
   ·obtain ⟨u,w,u1,u2⟩:=ne z
    obtain ⟨v,hv⟩:=mE hA b0 (Rat.le_of_lt u1) u2
    have e:=h.co _ b0 Rat.le_refl
    rw [hv] at e
    have:fM 0 (⟨(0,1),c,c⟩::X')=val (bg A i):=by
     have l2:∀q∈(⟨(0,1),c,c⟩::X':List Pc),q.E≤fM 0 (⟨(0,1),c,c⟩::X'):=fun q hq=>by
      rw [ei,v0]
      obtain ⟨a1,a2⟩:=Ch.lst hX
      rcases List.mem_cons.mp hq with rfl|hq
      ·rw [v0];exact a1
      ·exact a2 q hq
     refine Classical.byContradiction fun z'=>?_
     have:=aO (L:=⟨(0,1),c,c⟩::X') (b:=0) (t:=val (bg A i)) fun q hq=>by have:=l2 q hq;grind
     rw [this] at e
     cases e
    rw [this]
 ·rcases List.mem_append.mp hq with hq|hq
  ·exact h.sz q hq
  ·exact rz q hq
 ·have:=h.ln
  rw [List.length_append,Nat.add_mul,Nat.one_mul]
  omega
theorem ThnI.all {A B:List Pc} {j:Nat} {X:List Pc} (h:ThnI A B j A.length X) (hA:RtF A):∀t,0≤t→cm 0 X t=cZ A B t:=by
 intro t t0
 by_cases z:t≤val (bg A A.length)
 ·exact h.co t t0 z
 ·rw [aO fun q hq=>by have:=h.en q hq;grind,fg (aO fun q hq=>by have:=lH hA q hq;grind)]
theorem ThnI.rt {A B:List Pc} {j:Nat} {X:List Pc} (h:ThnI A B j A.length X) (hA:RtF A) (hB:RtF B):RtF X:=by
 have a:=h.all hA
 obtain ⟨c,X',cc,rfl,hX⟩:=h.hd
 refine BT ⟨⟨ib,cc,cc⟩,Rat.le_refl,?_⟩ (fun p r e _=>by cases e;rfl) (fun t y t0 e=>?_) fun t u y z t0 tu e e'=>?_
 ·show Ch (val (0,1)) X'
  rw [val_nought];exact hX
 ·rw [a t t0] at e;exact Cd hA hB t0 e
 ·rw [a t t0] at e
  rw [a u (Rat.le_trans t0 tu)] at e'
  exact Cy hA hB t0 tu e e'
noncomputable def TnI (st:AH) (A B:List Pc) (j:Nat) (sv cv:PV) (i:Nat) (ρ:Fr) (s:AH):Prop:=∃(X:List Pc) (g:AH) (x y:Option PV),s=st++.lst (X.map pcV)::g∧ThnI A B j i X∧ρ=[some (bL A),some (bL B),some sv,some cv,some (.ref st.length),x,y]
theorem FH {as st Q} (h:jA as st Q):ay Γ kz (frame 7 as) st (ag st Q):=by
 obtain ⟨j,A,B,rfl,⟨j1,j2⟩,hA,az,hB,bz,hl,k⟩:=h
 have lA:A.length<10000:=by
  have:=Nat.le_mul_of_pos_right (A.length+1) (show 0<B.length+1 by omega)
  omega
 have lB:B.length<9900:=by
  have:=Nat.le_mul_of_pos_left (B.length+1) (show 0<A.length+1 by omega)
  omega
 have z01:Sz 1 (0,1):=⟨by decide,by decide,by decide⟩
 have non:cZ A B 0=none→∀t,0≤t→cm 0 [] t=cZ A B t:=fun h t t0=>by
  cases e:cZ A B t with
  | none=>rfl
  | some z =>
   obtain ⟨y,hy⟩:=mE hA Rat.le_refl t0 e
   rw [h] at hy
   cases hy
 unfold kz
 walk_at "WP"
 refine ⟨j,1,A,(0,1),rfl,⟨j1,by omega⟩,hA,az,ib,z01,lA,fun o ho hc=>?_⟩
 rw [val_nought] at hc
 cases o with
 | none =>
  walk_at "WPO"
  exact .inl (k [] trivial trivial (fun q hq=>(nomatch hq)) (Nat.zero_le _) (non (fg hc)))
 | some s0 =>
  obtain ⟨cs,_⟩:=ho s0 rfl
  have sz:Sz j s0:=by
   cases A with
   | nil=>cases hc
   | cons p r =>
    have e:cm 0 (p::r) 0=some p.L:=by
     rw [cm,if_pos (aI hA.1.e.pos)]
     by_cases z:0=p.E
     ·rw [if_pos z]
     ·rw [if_neg z];congr 1;grind
    rw [e] at hc
    have:=bH hA.1.l cs (Option.some.inj hc)
    rw [←this]
    exact (az p (by simp)).l
  walk_at "WPO"
  refine ⟨j,j,B,s0,rfl,⟨j1,by omega⟩,hB,bz,cs,sz,by omega,fun o2 ho2 hc2=>?_⟩
  have e0:cZ A B 0=o2.map val:=by rw [f_ hc];exact hc2
  cases o2 with
  | none =>
   walk_at "WPO"
   exact .inl (k [] trivial trivial (fun q hq=>(nomatch hq)) (Nat.zero_le _) (non e0))
  | some c =>
   obtain ⟨cc,cz⟩:=ho2 c rfl
   walk_at "WPO"
   have sz1:SzL (5*j+2) [⟨(0,1),c,c⟩]:=fun q hq=>by
    rw [List.mem_singleton] at hq
    rw [hq]
    exact ⟨z01.mono (by omega),cz.mono (by omega),cz.mono (by omega)⟩
   have I0:ThnI A B j 0 [⟨(0,1),c,c⟩]:=by
    refine ⟨⟨c,[],cc,rfl,trivial⟩,fun q hq=>?_,fun t t0 t1=>?_,sz1,by simp⟩
    ·rw [List.mem_singleton] at hq
     rw [hq]
     exact Rat.le_refl
    ·have t1:t≤val (0,1):=t1
     rw [val_nought] at t1
     have:t=0:=by grind
     subst this
     rw [e0,cm,if_pos (show (0:Rat)≤val (0,1) by rw [val_nought];exact Rat.le_refl),if_pos (show (0:Rat)=val (0,1) from val_nought.symm)]
     rfl
   refine kF Γm (TnI st A B j (fr s0) (fr c)) ⟨_,[],none,none,rfl,I0,rfl⟩ ?_ ?_
   ·rintro i v ρ s hi ⟨X,g,x,y,rfl,I,rfl⟩
    refine ⟨trivial,?_⟩
    obtain ⟨v,hv,rfl⟩:=iq hi
    rw [List.getElem?_map] at hv
    obtain ⟨p,hp,rfl⟩:=Option.map_eq_some_iff.mp hv
    have il:=(List.getElem?_eq_some_iff.mp hp).1
    have pz:=az p (List.mem_of_getElem? hp)
    obtain ⟨pok,p1,p2⟩:=hA.at_ hp
    obtain ⟨n1,n2,n3,n4⟩:=nb hA hp
    have bgz:Sz j (bg A i):=bgZ az (by omega) j1
    rw [Int.zero_add]
    walk_at "WP"
    refine i_ (q:=(0,1)) ?_
    by_cases q:p.e=(0,1)
    ·rw [decide_eq_true q]
     walk_at "WP"
     have i0:i=0:=Classical.byContradiction fun z=>by
      have:=n4 z
      have:p.E=0:=by show val p.e=0;rw [q];exact val_nought
      have:=aI n1.pos
      grind
     subst i0
     have eb:bg A (0+1)=bg A 0:=by rw [bgS hp,q];rfl
     refine ⟨X,g,_,_,rfl,⟨I.hd,by rw [eb];exact I.en,by rw [eb];exact I.co,I.sz,by have:=I.ln;omega⟩,rfl⟩
    ·rw [decide_eq_false q]
     walk_at "WP"
     have lt:val (bg A i)<p.E:=by
      by_cases z:i=0
      ·subst z
       have:p.E≠0:=fun z=>q (bH pok.e ib (by rw [val_nought];exact z))
       have e:val (bg A 0)=0:=val_nought
       have:=aI pok.e.pos
       rw [e]
       grind
      ·exact n4 z
     refine ⟨A,i,rfl,by omega,?_⟩
     rw [eR]
     walk_at "WP"
     refine ⟨j,B,bg A i,p,rfl,⟨j1,j2⟩,hB,bz,by omega,n1,bgz,pok,pz,lt,p1,fun R g' n hn hR hE rz lR hcR=>?_⟩
     have I2:=I.step hA hp lt hR hE rz lR hcR
     have lX:=I2.ln
     have lX2:1+(i+1)*(B.length+1)≤9901:=by
      have:=Nat.mul_le_mul_right (B.length+1) (show i+1≤A.length+1 by omega)
      omega
     walk_at "WP"
     rw [List.append_assoc,List.cons_append] at hn
     refine ⟨_,hn,by simp at lX ⊢;omega,X++R,g++g',_,_,?_,I2,rfl⟩
     rw [dF];simp
   ·rintro ρ s ⟨X,g,x,y,rfl,I,rfl⟩
    refine ⟨trivial,?_⟩
    rw [ip,List.length_map] at I
    have rt:=I.rt hA hB
    have lX:=I.ln
    have lX2:1+A.length*(B.length+1)≤(A.length+1)*(B.length+1):=by rw [Nat.add_mul];omega
    walk_at "WP"
    refine ⟨_,af aC,X,rfl,I.sz.mono (by omega),rt.lok,by omega,.inr (.app qg ?_)⟩
    refine k _ (gK rt) (jz rt) (rT I.sz) (Nat.le_trans iD (by omega)) fun t t0=>?_
    rw [fE rt t0]
    exact I.all hA t t0
theorem FS {Y:List Pc} {q:Pc} (h:RtF (Y++[q])):cm 0 (Y++[q]) q.E=some q.H:=by
 have hq:(Y++[q])[Y.length]?=some q:=by simp
 obtain ⟨n1,n2,n3,n4⟩:=nb h hq
 rw [my h hq (by by_cases z:Y.length=0;exact .inl z;exact .inr (n4 z)) Rat.le_refl]
 congr 1
 by_cases z:val (bg (Y++[q]) Y.length)=q.E
 ·rw [if_pos z];exact n3 z
 ·rw [if_neg z]
  have:q.E-val (bg (Y++[q]) Y.length)≠0:=by grind
  grind
theorem oq {Y:List Pc} {q:Pc} (h:RtF (Y++[q])) {t:Rat} (ht:q.E<t):cm 0 (Y++[q]) t=none:=by
 have hq:(Y++[q])[Y.length]?=some q:=by simp
 refine aO fun r hr=>?_
 have:=lH h r hr
 rw [show (Y++[q]).length=Y.length+1 by simp,bgS hq] at this
 grind
theorem Gr.pot2 {st st':AH} {p p2:Nat} (g:Gr st p2 st') (h:Pot st p) (ne:p≠p2):Pot st' p:=by
 obtain ⟨q,r,e,z⟩:=h
 exact ⟨q,r,g.get e ne,z⟩
theorem BdU.szK {d:Nat} {U:List Un3} (h0:0<d) (h1:d≤10 ^ 11) (h:BdU (2 ^ 37) U):SzL 40 (U.map (av d)):=fun p hp=>by
 obtain ⟨u,hu,rfl⟩:=List.mem_map.mp hp
 obtain ⟨a,b,c⟩:=h u hu
 have s:∀n,n≤2 ^ 37→Sz 40 (aG n d):=fun n hn=>⟨Nat.lt_of_le_of_lt (gI _ _) (by omega),Nat.lt_of_le_of_lt (gD _ _) (by omega),cP h0⟩
 exact ⟨s _ a,s _ b,s _ c⟩
theorem sW {d:Nat} {U:List Un3} (h0:0<d) (h1:d≤10 ^ 11) (hU:RUF U) (h:BdU (2 ^ 37) U) (hl:U.length≤20):Stz 40 20 (bc (U.map (av d))) :=
 ⟨gK (hU.rt h0),jz (hU.rt h0),rT (h.szK h0 h1),Nat.le_trans iD (by simpa using hl)⟩
set_option Elab.async false
set_option linter.all false
set_option maxRecDepth 100000
set_option maxHeartbeats 4000000
open PySem L2 HX FW
theorem CF {T:List (Nat × Nat)} {x:Nat × Nat} (h:T.Pairwise fun a b=>val a<val b) (hx:∀t,T.getLast?=some t→val t<val x):(T++[x]).Pairwise fun a b=>val a<val b:=by
 rw [List.pairwise_append]
 refine ⟨h,by simp,fun a ha b hb=>?_⟩
 rw [List.mem_singleton] at hb
 rw [hb]
 rcases cU T with rfl|⟨Y,c,rfl⟩
 ·cases ha
 ·have l:=hx c (by simp)
  rcases List.mem_append.mp ha with ha|ha
  ·have:=(List.pairwise_append.mp h).2.2 a ha c (by simp)
   grind
  ·rw [List.mem_singleton] at ha;rw [ha];exact l
structure MgI (T1 T2 Z:List (Nat × Nat)) (i j:Nat):Prop where
 sr:Z.Pairwise fun a b=>val a<val b
 mem:∀t,t∈Z↔t∈T1.take i∨t∈T2.take j
 l1:∀z∈Z,∀t∈T1.drop i,val z≤val t
 l2:∀z∈Z,∀t∈T2.drop j,val z≤val t
 ln:Z.length≤i+j
theorem pv {T:List (Nat × Nat)} (h:T.Pairwise fun a b=>val a<val b) {i:Nat} {x:Nat × Nat} (hx:T[i]?=some x):∀t∈T.drop i,val x≤val t:=by
 intro t ht
 have il:=(List.getElem?_eq_some_iff.mp hx).1
 rw [List.drop_eq_getElem_cons il,(List.getElem?_eq_some_iff.mp hx).2] at ht
 have hd:=List.Pairwise.sublist (List.drop_sublist i T) h
 rw [List.drop_eq_getElem_cons il,(List.getElem?_eq_some_iff.mp hx).2,List.pairwise_cons] at hd
 rcases List.mem_cons.mp ht with rfl|ht
 ·exact Rat.le_refl
 ·exact Rat.le_of_lt (hd.1 t ht)
theorem MgI.step {T1 T2 Z:List (Nat × Nat)} {i j:Nat} {x:Nat × Nat} (h:MgI T1 T2 Z i j) (s1:T1.Pairwise fun a b=>val a<val b) (c1:∀t∈T1,Cop t) (c2:∀t∈T2,Cop t) (hx:T1[i]?=some x) (h2:∀t∈T2.drop j,val x≤val t) :
  MgI T1 T2 (if Z.getLast?=some x then Z else Z++[x]) (i+1) j:=by
 have il:=(List.getElem?_eq_some_iff.mp hx).1
 have ed:T1.drop i=x::T1.drop (i+1):=by rw [List.drop_eq_getElem_cons il,(List.getElem?_eq_some_iff.mp hx).2]
 have et:T1.take (i+1)=T1.take i++[x]:=by rw [List.take_succ,hx];rfl
 have hd:=pv s1 hx
 have sub:∀t∈T1.drop (i+1),t∈T1.drop i:=fun t ht=>by rw [ed];exact List.mem_cons_of_mem _ ht
 have zx:∀z∈Z,val z≤val x:=fun z hz=>h.l1 z hz x (by rw [ed];simp)
 by_cases e:Z.getLast?=some x
 ·rw [if_pos e]
  have xm:=List.mem_of_getLast? e
  refine ⟨h.sr,fun t=>?_,fun z hz t ht=>h.l1 z hz t (sub t ht),h.l2,by have:=h.ln;omega⟩
  rw [h.mem,et,List.mem_append,List.mem_singleton]
  constructor
  ·rintro (a|a)
   ·exact .inl (.inl a)
   ·exact .inr a
  ·rintro ((a|a)|a)
   ·exact .inl a
   ·rw [a];exact (h.mem x).mp xm
   ·exact .inr a
 ·rw [if_neg e]
  refine ⟨CF h.sr fun t ht=>?_,fun t=>?_,fun z hz t ht=>?_,fun z hz t ht=>?_,by have:=h.ln;simp;omega⟩
  ·have tm:=List.mem_of_getLast? ht
   have le:=zx t tm
   have ne:val t≠val x:=fun q=>by
    have ct:Cop t:=by
     rcases (h.mem t).mp tm with a|a
     ·exact c1 t (List.mem_of_mem_take a)
     ·exact c2 t (List.mem_of_mem_take a)
    exact e (by rw [ht,bH ct (c1 x (List.mem_of_getElem? hx)) q])
   grind
  ·rw [List.mem_append,h.mem,et,List.mem_append,List.mem_singleton]
   constructor
   ·rintro ((a|a)|a)
    ·exact .inl (.inl a)
    ·exact .inr a
    ·exact .inl (.inr a)
   ·rintro ((a|a)|a)
    ·exact .inl (.inl a)
    ·exact .inr a
    ·exact .inl (.inr a)
  ·rcases List.mem_append.mp hz with hz|hz
   ·exact h.l1 z hz t (sub t ht)
   ·rw [List.mem_singleton] at hz;rw [hz];exact hd t (sub t ht)
  ·rcases List.mem_append.mp hz with hz|hz
   ·exact h.l2 z hz t ht
   ·rw [List.mem_singleton] at hz;rw [hz];exact h2 t ht
theorem MgI.swap {T1 T2 Z:List (Nat × Nat)} {i j:Nat} (h:MgI T1 T2 Z i j):MgI T2 T1 Z j i:=⟨h.sr,fun t=>(h.mem t).trans or_comm,h.l2,h.l1,by have:=h.ln;omega⟩
noncomputable def MgW (st:AH) (k n m:Nat) (T1 T2:List (Nat × Nat)) (q:Nat) (ρ:Fr) (s:AH):Prop:=∃(Z:List (Nat × Nat)) (i j:Nat) (g:AH) (x:Option PV),q=T1.length+T2.length-(i+j)∧i≤T1.length∧j≤T2.length∧s=st++.lst (Z.map fr)::g∧MgI T1 T2 Z i j∧ρ=[some (.ref n),some (.ref m),some (.ref st.length),some (.int i),some (.int j),x]
theorem yd {X:List (Nat × Nat)}:cw 5 (X.map fr)=true:=d_ fun v hv=>by
 obtain ⟨w,_,rfl⟩:=List.mem_map.mp hv
 rfl
noncomputable def fP (S:List Pc) (i:Nat) (p:Pc) (x:Rat):Rat:=if val (bg S i)=p.E then p.L else p.L+(p.H-p.L)*((x-val (bg S i))/(p.E-val (bg S i)))
theorem CB {S:List Pc} {i:Nat} {p:Pc} (h:val (bg S i)<p.E):∃s,∀x,fP S i p x=p.L+s*(x-val (bg S i)):=by
 obtain ⟨s,hs⟩:=Sl.ex (p:=p) h
 refine ⟨s,fun x=>?_⟩
 unfold fP
 rw [if_neg (by grind),pcf h hs]
theorem wA {S:List Pc} {i:Nat} {p:Pc} {a e:Rat} {c:Two} (hS:RtF S) (hp:S[i]?=some p) (ha:val (bg S i)≤a) (ae:a≤e) (he:e≤p.E) (h0:i=0∨val (bg S i)<e) (c1:Cop c.1) (c2:Cop c.2) (v1:val c.1=fP S i p a) (v2:val c.2=fP S i p e):SegOk S a e c:=by
 obtain ⟨pok,p1,p2⟩:=hS.at_ hp
 refine ⟨c1,c2,?_,by rw [my hS hp h0 he,v2];rfl,fun q=>bH c1 c2 (by rw [v1,v2,q]),fun t t1 t2=>?_⟩
 ·rw [v1,v2]
  by_cases z:val (bg S i)=p.E
  ·unfold fP;rw [if_pos z,if_pos z];exact Rat.le_refl
  ·unfold fP
   rw [if_neg z,if_neg z]
   exact lP (by grind) ha ae he p1
 ·have lt:val (bg S i)<p.E:=by grind
  obtain ⟨s,hs⟩:=CB lt
  have e1:cm 0 S t=some (fP S i p t):=by rw [my hS hp (.inr (by grind)) (by grind)];rfl
  rw [e1,v1,v2,hs,hs,hs]
  congr 1
  have:e-a≠0:=by grind
  grind
theorem Ends.lt {k:Nat} {T:List (Nat × Nat)} (h:Ends k T) {i j:Nat} {a b:Nat × Nat} (hi:T[i]?=some a) (hj:T[j]?=some b) (lt:i<j):val a<val b:=by
 obtain ⟨h1,e1⟩:=List.getElem?_eq_some_iff.mp hi
 obtain ⟨h2,e2⟩:=List.getElem?_eq_some_iff.mp hj
 have:=List.pairwise_iff_getElem.mp h.sr i j h1 h2 lt
 rw [e1,e2] at this
 exact this
theorem lu {T:List (Nat × Nat)} {i:Nat} {t:Nat × Nat} (h:T[i]?=some t):bgT T (i+1)=t:=by show (T[i]?).getD (0,1)=t;rw [h];rfl
structure CutI (S:List Pc) (T:List (Nat × Nat)) (z:Nat) (i:Nat) (C:List (Option Two)):Prop where
 cnt:∀(k:Nat) t,T[k]?=some t→(k<C.length↔i≠0∧val t≤val (bg S i))
 ok:∀(k:Nat) c,C[k]?=some c→kZ S z (val (bgT T k)) (val (bgT T (k+1))) c
 ln:C.length≤T.length
structure CutJ (S:List Pc) (T:List (Nat × Nat)) (z:Nat) (i:Nat) (p:Pc) (C:List (Option Two)) (lo:Nat × Nat):Prop where
 ge:val (bg S i)≤val (bgT T C.length)
 lov:val lo=fP S i p (val (bgT T C.length))
 nx:∀(k:Nat) t,T[k]?=some t→C.length≤k→i=0∨val (bg S i)<val t
 pr:∀(k:Nat) t,T[k]?=some t→k<C.length→val t≤p.E
 ok:∀(k:Nat) c,C[k]?=some c→kZ S z (val (bgT T k)) (val (bgT T (k+1))) c
 ln:C.length≤T.length
theorem CutI.start {S:List Pc} {T:List (Nat × Nat)} {z i j:Nat} {p:Pc} {C:List (Option Two)} (h:CutI S T z i C) (hS:RtF S) (hE:Ends j T) (hp:S[i]?=some p) (hin:∀p∈S,p.e∈T):CutJ S T z i p C p.l:=by
 obtain ⟨n1,n2,n3,n4⟩:=nb hS hp
 have eb:val (bgT T C.length)=val (bg S i):=by
  cases i with
  | zero =>
   have:C.length=0:=Classical.byContradiction fun q=>by
    have hl:0<T.length:=by have:=h.ln;omega
    have:=(h.cnt 0 T[0] (List.getElem?_eq_getElem hl)).mp (by omega)
    exact this.1 rfl
   rw [this]
   rfl
  | succ i =>
   have il:=(List.getElem?_eq_some_iff.mp hp).1
   have ha:S[i]?=some S[i]:=List.getElem?_eq_getElem (by omega)
   obtain ⟨k0,hk0⟩:=List.getElem?_of_mem (hin S[i] (List.getElem_mem _))
   rw [bgS ha]
   have k1:k0<C.length:=(h.cnt k0 _ hk0).mpr ⟨by omega,by rw [bgS ha];exact Rat.le_refl⟩
   have hl:C.length-1<T.length:=by have:=h.ln;omega
   have hk:=List.getElem?_eq_getElem hl
   have le:=((h.cnt (C.length-1) _ hk).mp (by omega)).2
   rw [bgS ha] at le
   have e:bgT T C.length=T[C.length-1]:=by
    have:=lu hk
    rwa [Nat.sub_add_cancel (by omega)] at this
   rw [e]
   by_cases q:k0=C.length-1
   ·subst q
    rw [hk] at hk0
    rw [Option.some.inj hk0]
   ·have:=hE.lt hk0 hk (by omega)
    grind
 refine ⟨by rw [eb];exact Rat.le_refl,?_,fun k t hk hC=>?_,fun k t hk hC=>?_,h.ok,h.ln⟩
 ·rw [eb]
  unfold fP
  by_cases q:val (bg S i)=p.E
  ·rw [if_pos q]
  ·rw [if_neg q]
   show val p.l=val p.l+_
   grind
 ·by_cases q:i=0
  ·exact .inl q
  ·right
   have:=(h.cnt k t hk)
   have:¬(i≠0∧val t≤val (bg S i)):=fun w=>by have:=this.mpr w;omega
   grind
 ·have:=((h.cnt k t hk).mp hC).2
  grind
theorem CutJ.step {S:List Pc} {T:List (Nat × Nat)} {z i j:Nat} {p:Pc} {C:List (Option Two)} {lo hi t:Nat × Nat} (h:CutJ S T z i p C lo) (hS:RtF S) (hE:Ends j T) (hp:S[i]?=some p) (ht:T[C.length]?=some t) (le:val t≤p.E) (t0:T[0]?=some (0,1)) (cl:Cop lo) (ch:Cop hi) (zl:Sz z lo) (zh:Sz z hi) (hv:val hi=fP S i p (val t)):CutJ S T z i p (C++[some (lo,hi)]) hi:=by
 have il:=(List.getElem?_eq_some_iff.mp ht).1
 have eb:bgT T (C.length+1)=t:=lu ht
 have le1:val (bgT T C.length)≤val t:=by
  cases e:C.length with
  | zero=>rw [e,t0] at ht;cases ht;exact Rat.le_refl
  | succ k =>
   rw [e] at ht
   have hk:T[k]?=some T[k]:=List.getElem?_eq_getElem (by omega)
   rw [lu hk]
   exact Rat.le_of_lt (hE.lt hk ht (by omega))
 have ln:(C++[some (lo,hi)]).length=C.length+1:=by simp
 have nx:=h.nx C.length t ht (Nat.le_refl _)
 refine ⟨?_,by rw [ln,eb];exact hv,fun k u hu hk=>h.nx k u hu (by omega),fun k u hu hk=>?_,fun k c hc=>?_,by omega⟩
 ·rw [ln,eb]
  have:=h.ge
  grind
 ·by_cases q:k<C.length
  ·exact h.pr k u hu q
  ·have:k=C.length:=by omega
   subst this
   rw [ht] at hu
   cases hu
   exact le
 ·by_cases q:k<C.length
  ·rw [List.getElem?_append_left q] at hc
   exact h.ok k c hc
  ·have hk:k=C.length:=by
    have:=(List.getElem?_eq_some_iff.mp hc).1
    omega
   subst hk
   have:c=some (lo,hi):=by simpa using hc.symm
   subst this
   rw [eb]
   exact ⟨wA hS hp h.ge le1 le nx cl ch h.lov hv,zl,zh⟩
theorem CutJ.done {S:List Pc} {T:List (Nat × Nat)} {z i j:Nat} {p:Pc} {C:List (Option Two)} {lo:Nat × Nat} (h:CutJ S T z i p C lo) (hE:Ends j T) (hp:S[i]?=some p) (hx:∀t,T[C.length]?=some t→p.E<val t):CutI S T z (i+1) C:=by
 refine ⟨fun k t hk=>?_,h.ok,h.ln⟩
 rw [bgS hp]
 constructor
 ·intro q
  exact ⟨by omega,h.pr k t hk q⟩
 ·rintro ⟨_,q⟩
  refine Classical.byContradiction fun w=>?_
  have il:=(List.getElem?_eq_some_iff.mp hk).1
  have hC:=List.getElem?_eq_getElem (show C.length<T.length by omega)
  have:=hx _ hC
  by_cases e:k=C.length
  ·subst e
   rw [hC] at hk
   cases hk
   grind
  ·have:=hE.lt hC hk (by omega)
   grind
theorem yZ {S:AH} {n:Nat} {c:Cell} (h:S[n]?=some c):S.set n c=S:=by
 refine List.ext_getElem? fun i=>?_
 by_cases e:n=i
 ·subst e
  rw [List.getElem?_set_self (bp h),h]
 ·rw [List.getElem?_set_ne e]
theorem t8:∀ {L:List Pc} {b:Rat} {p:Pc},p∈L→∃y,cm b L p.E=some y
 | a::r,b,p,h=>by
  rw [cm]
  by_cases q:p.E≤a.E
  ·rw [if_pos q];exact ⟨_,rfl⟩
  ·rw [if_neg q]
   rcases List.mem_cons.mp h with rfl|h
   ·exact absurd Rat.le_refl q
   ·exact t8 h
theorem Fa {T:List (Nat × Nat)} {k i:Nat} (h:Ends k T) (h1:1≤k) (hi:i≤T.length):Cop (bgT T i)∧Sz k (bgT T i):=by
 cases i with
 | zero =>
  show Cop (0,1)∧Sz k (0,1)
  exact ⟨ib,Nat.pow_pos (by decide),Nat.one_lt_two_pow (by omega),by decide⟩
 | succ i =>
  rw [lu (List.getElem?_eq_getElem (show i<T.length by omega))]
  exact h.ok _ (List.getElem_mem _)
theorem Fn {r:Nat × Nat} {M:Nat} {N:Int} (h:Cop r) (m0:0<M) (e:val r*M=N):r.2≤M:=by
 have p:=aF h.pos
 have e2:(r.1:Rat)*M=N*r.2:=by unfold val at e;grind
 have e3:(r.1:Int)*M=N*r.2:=by
  have:(((r.1:Int)*M:Int):Rat)=((N*r.2:Int):Rat):=by simpa [Rat.intCast_natCast] using e2
  exact Rat.intCast_inj.mp this
 have d:r.2 ∣ r.1*M:=by
  have:(r.2:Int) ∣ ((r.1*M:Nat):Int):=⟨N,by rw [Int.natCast_mul,e3,Int.mul_comm]⟩
  exact Int.natCast_dvd_natCast.mp this
 have c:Nat.Coprime r.2 r.1:=by have:=h.one;rw [Nat.gcd_comm] at this;exact this
 exact Nat.le_of_dvd m0 (c.dvd_of_dvd_mul_left d)
theorem z_ {r:Nat × Nat} {M m v:Nat} {N:Int} (h:Cop r) (m0:0<M) (hm:M<2 ^ m) (e:val r*M=N) (hv:val r≤2 ^ v):Sz (m+v) r:=by
 have l:=Fn h m0 e
 have p:=aF h.pos
 have q:(r.1:Rat)≤2 ^ v*r.2:=by
  have a:=Rat.mul_nonneg (a:=2 ^ v-val r) (b:=r.2) (by grind) (by grind)
  have b:val r*r.2=r.1:=by unfold val;grind
  grind
 have q2:r.1≤2 ^ v*r.2:=by
  have:((r.1:Nat):Rat)≤((2 ^ v*r.2:Nat):Rat):=by simpa using q
  exact Rat.natCast_le_natCast.mp this
 have hp:0<2 ^ v:=Nat.pow_pos (by decide)
 refine ⟨?_,Nat.lt_of_lt_of_le (Nat.lt_of_le_of_lt l hm) (Nat.pow_le_pow_right (by decide) (by omega)),h.pos⟩
 have:2 ^ v*r.2<2 ^ v*2 ^ m:=Nat.mul_lt_mul_of_pos_left (Nat.lt_of_le_of_lt l hm) hp
 rw [Nat.pow_add,Nat.mul_comm (2 ^ m)]
 omega
theorem vT {r τ:Nat × Nat} {d D P Q k e v:Nat} {R:Int} (hr:Cop r) (ht:Cop τ) (zt:Sz e τ) (d0:0<d) (dD:d<2 ^ D) (q0:0<Q) (qk:Q<2 ^ k) (h:(d:Rat)*Q*val r=P*d*val τ+R) (hv:val r≤2 ^ v):Sz (D+k+e+v) r:=by
 have p:=aF ht.pos
 refine z_ (M:=d*Q*τ.2) (N:=P*d*τ.1+R*τ.2) hr (Nat.mul_pos (Nat.mul_pos d0 q0) ht.pos) (bf (bf dD qk) zt.b) ?_ hv
 have e1:val τ*τ.2=τ.1:=by unfold val;grind
 simp only [Rat.natCast_mul,Rat.intCast_add,Rat.intCast_mul,Rat.intCast_natCast]
 grind
theorem qq {f:Rat→Option Rat} {a e:Rat} {c:Two} {d k:Nat} (h:SegF f a e c) (a0:0≤a) (ae:a≤e) (hl:Lin d k f):∃(P Q:Nat) (R:Int),(0<Q∧Q<2 ^ k∧P<2 ^ k)∧(d:Rat)*Q*val c.1=P*d*a+R∧(d:Rat)*Q*val c.2=P*d*e+R:=by
 obtain ⟨P,Q,R,x,b,xe,hx⟩:=hl e _ (by grind) h.at_
 have e2:=hx e _ (by grind) xe Rat.le_refl h.at_
 by_cases q:a=e
 ·exact ⟨P,Q,R,b,by rw [h.zero q,q];exact e2,e2⟩
 obtain ⟨x',x1,x2,x3⟩:∃x',a≤x'∧x≤x'∧x'<e:=by
  by_cases w:a≤x
  ·exact ⟨x,w,Rat.le_refl,xe⟩
  ·exact ⟨a,Rat.le_refl,by grind,by grind⟩
 have en:e-a≠0:=by grind
 obtain ⟨s,hs⟩:∃s,(val c.2-val c.1)/(e-a)=s:=⟨_,rfl⟩
 have hs2:val c.2=val c.1+s*(e-a):=by grind
 have m:=h.mid ((x'+e)/2) (by grind) (by grind)
 have e1:=hx _ _ (by grind) (by grind) (by grind) m
 have hm:val c.1+(val c.2-val c.1)*(((x'+e)/2-a)/(e-a))=val c.1+s*((x'+e)/2-a):=by grind
 rw [hm] at e1
 have k1:(d*Q*s-P*d)*(e-x')=0:=by grind
 have k2:(d:Rat)*Q*s=P*d:=by
  have n:e-x'≠0:=by grind
  rcases Rat.mul_eq_zero.mp k1 with z|z
  ·grind
  ·exact absurd z n
 exact ⟨P,Q,R,b,by grind,e2⟩
theorem zF {r:Nat × Nat} {d D P Q P' Q' k v:Nat} {R R':Int} {a e:Rat} {m y:Two} (hr:Cop r) (d0:0<d) (dD:d<2 ^ D) (b:0<Q∧Q<2 ^ k∧P<2 ^ k) (b':0<Q'∧Q'<2 ^ k∧P'<2 ^ k) (ae:a<e)
  (h1:(d:Rat)*Q*val m.1=P*d*a+R) (h2:(d:Rat)*Q*val m.2=P*d*e+R) (h3:(d:Rat)*Q'*val y.1=P'*d*a+R') (h4:(d:Rat)*Q'*val y.2=P'*d*e+R') (hc:Crs m y) (vr:val r=crM a e m y) (hv:val r≤2 ^ v):Sz (D+2*k+v) r:=by
 have pd:=aF d0
 have pq:=aF b.1
 have pq':=aF b'.1
 have en:e-a≠0:=by grind
 have n1:val m.1-val y.1+(val y.2-val m.2)≠0:=by rcases hc with hc|hc <;> grind
 have key:(d:Rat)*(P*Q'-P'*Q)*val r=R'*Q-R*Q':=by
  obtain ⟨u,hu⟩:∃u,(val m.1-val y.1)/(val m.1-val y.1+(val y.2-val m.2))=u:=⟨_,rfl⟩
  have hu2:u*(val m.1-val y.1+(val y.2-val m.2))=val m.1-val y.1:=by rw [←hu];grind
  have vr2:val r=a+(e-a)*u:=by rw [vr,←hu]
  have w:val m.1+(val m.2-val m.1)*u=val y.1+(val y.2-val y.1)*u:=by grind
  have w1:(d:Rat)*Q*(val m.1+(val m.2-val m.1)*u)=P*d*val r+R:=by grind
  have w2:(d:Rat)*Q'*(val y.1+(val y.2-val y.1)*u)=P'*d*val r+R':=by grind
  rw [w] at w1
  generalize val y.1+(val y.2-val y.1)*u=W at w1 w2
  grind
 have kn:(P:Int)*Q'-P'*Q≠0:=fun z=>by
  have z2:(P:Rat)*Q'-P'*Q=0:=by
   have:(((P:Int)*Q'-P'*Q:Int):Rat)=((0:Int):Rat):=by rw [z]
   simpa [Rat.intCast_natCast] using this
  have s1:(d:Rat)*Q*(val m.2-val m.1)=P*d*(e-a):=by grind
  have s2:(d:Rat)*Q'*(val y.2-val y.1)=P'*d*(e-a):=by grind
  have s3:(d:Rat)*Q*Q'*((val m.2-val m.1)-(val y.2-val y.1))=0:=by grind
  have ne:(d:Rat)*Q*Q'≠0:=by
   have:=Rat.mul_pos (Rat.mul_pos pd pq) pq'
   grind
  rcases Rat.mul_eq_zero.mp s3 with z|z
  ·exact ne z
  ·rcases hc with hc|hc <;> grind
 have l1:=bf b.2.2 b'.2.1
 have l2:=bf b'.2.2 b.2.1
 obtain ⟨K,hK⟩:∃K:Int,(P:Int)*Q'-P'*Q=K:=⟨_,rfl⟩
 rw [hK] at kn
 have kb:K.natAbs<2 ^ (k+k):=by
  have e1:((P*Q':Nat):Int)-((P'*Q:Nat):Int)=K:=by rw [←hK];simp
  omega
 have kr:(P:Rat)*Q'-P'*Q=K:=by
  have:(((P:Int)*Q'-P'*Q:Int):Rat)=(K:Rat):=by rw [hK]
  simpa [Rat.intCast_natCast] using this
 rw [kr] at key
 refine (z_ (M:=d*K.natAbs) (N:=if 0≤K then R'*Q-R*Q' else -(R'*Q-R*Q')) (m:=D+(k+k)) hr (Nat.mul_pos d0 (by omega)) (bf dD kb) ?_ hv).mono (by omega)
 by_cases q:0≤K
 ·rw [if_pos q]
  have:((K.natAbs:Nat):Rat)=(K:Rat):=by
   have:((K.natAbs:Nat):Int)=K:=by omega
   rw [←Rat.intCast_natCast,this]
  simp only [Rat.natCast_mul,this,Rat.intCast_sub,Rat.intCast_mul,Rat.intCast_natCast]
  grind
 ·rw [if_neg q]
  have:((K.natAbs:Nat):Rat)=-(K:Rat):=by
   have:((K.natAbs:Nat):Int)=-K:=by omega
   rw [←Rat.intCast_natCast,this,Rat.intCast_neg]
  simp only [Rat.natCast_mul,this,Rat.intCast_neg,Rat.intCast_sub,Rat.intCast_mul,Rat.intCast_natCast]
  grind
theorem SegOk.f {S:List Pc} {a e:Rat} {c:Two} (h:SegOk S a e c):SegF (cm 0 S) a e c:=⟨h.cl,h.ch,h.le,h.at_,h.zero,h.mid⟩
theorem yc {L:List Pc} {i:Nat} {p:Pc} (hR:RtF L) (hp:L[i]?=some p):SegOk L (val (bg L i)) p.E (p.l,p.h):=by
 obtain ⟨n1,n2,n3,n4⟩:=nb hR hp
 obtain ⟨ok,p1,p2⟩:=hR.at_ hp
 refine wA hR hp Rat.le_refl n2 Rat.le_refl ?_ ok.l ok.h ?_ ?_
 ·by_cases w:i=0
  ·exact .inl w
  ·exact .inr (n4 w)
 ·unfold fP
  by_cases q:val (bg L i)=p.E
  ·rw [if_pos q]
  ·rw [if_neg q];show p.L=_;grind
 ·unfold fP
  by_cases q:val (bg L i)=p.E
  ·rw [if_pos q];exact (n3 q).symm
  ·rw [if_neg q]
   show p.H=_
   have:p.E-val (bg L i)≠0:=by grind
   grind
theorem yD {f:Rat→Option Rat} {a e:Nat × Nat} {c:Two} {d D k m v:Nat} (h:SegF f (val a) (val e) c) (ca:Cop a) (ce:Cop e) (za:Sz m a) (ze:Sz m e) (ae:val a≤val e) (hl:Lin d k f) (d0:0<d) (dD:d<2 ^ D) (hv:val c.2≤2 ^ v):Sz (D+k+m+v) c.1∧Sz (D+k+m+v) c.2:=by
 obtain ⟨P,Q,R,b,h1,h2⟩:=qq h (aI ca.pos) ae hl
 have:=h.le
 exact ⟨vT h.cl ca za d0 dD b.1 b.2.1 h1 (by grind),vT h.ch ce ze d0 dD b.1 b.2.1 h2 hv⟩
theorem yf {L:List Pc} {d D k e v:Nat} (hR:RtF L) (hl:Lin d k (cm 0 L)) (hz:∀p∈L,Sz e p.e) (e1:1≤e) (hi:∀t y,0≤t→cm 0 L t=some y→y≤2 ^ v) (d0:0<d) (dD:d<2 ^ D):SzL (D+k+e+v) L:=fun p hp=>by
 obtain ⟨i,hi'⟩:=List.getElem?_of_mem hp
 have s:=yc hR hi'
 obtain ⟨n1,n2,n3,n4⟩:=nb hR hi'
 have ok:=(hR.at_ hi').1
 have bz:Sz e (bg L i):=by
  cases i with
  | zero=>exact ⟨Nat.pow_pos (by decide),Nat.one_lt_two_pow (by omega),Nat.one_pos⟩
  | succ i =>
   have il:=(List.getElem?_eq_some_iff.mp hi').1
   have h:=List.getElem?_eq_getElem (show i<L.length by omega)
   rw [bgS h]
   exact hz _ (List.getElem_mem _)
 obtain ⟨z1,z2⟩:=yD s.f n1 ok.e bz (hz p hp) n2 hl d0 dD (hi _ _ (aI ok.e.pos) s.at_)
 exact ⟨(hz p hp).mono (by omega),z1,z2⟩
theorem Stl.sz {d D k e v n:Nat} {L:List Pc} (h:Stl d k e v n L) (e1:1≤e) (d0:0<d) (dD:d<2 ^ D):SzL (D+k+e+v) L:=yf h.rt h.lin h.en e1 h.hi d0 dD
theorem Lin.congr {d k:Nat} {f g:Rat→Option Rat} (h:Lin d k f) (e:∀t,0≤t→g t=f t):Lin d k g:=fun x y x0 hx=>by
 obtain ⟨P,Q,R,u,b,ux,hu⟩:=h x y x0 (by rw [←e x x0];exact hx)
 exact ⟨P,Q,R,u,b,ux,fun t z t0 ut tx hz=>hu t z t0 ut tx (by rw [←e t t0];exact hz)⟩
theorem qO {A B:List Pc} {t x:Rat} (h:cm 0 A t=some x) (hb:∀y,cm 0 B t=some y→x≤y):les A B t=some x:=by
 unfold les
 rw [h]
 cases e:cm 0 B t with
 | none=>rfl
 | some y=>show some (if x≤y then x else y)=_;rw [if_pos (hb y e)]
theorem vS {A B:List Pc} {t y:Rat} (h:cm 0 B t=some y) (ha:∀x,cm 0 A t=some x→y≤x):les A B t=some y:=by
 unfold les
 rw [h]
 cases e:cm 0 A t with
 | none=>rfl
 | some x =>
  show some (if x≤y then x else y)=_
  have:=ha x e
  by_cases w:x≤y
  ·rw [if_pos w];congr 1;grind
  ·rw [if_neg w]
theorem d7 {A B:List Pc} {t z:Rat} (h:les A B t=some z):(cm 0 A t=some z∧∀y,cm 0 B t=some y→z≤y)∨(cm 0 B t=some z∧∀x,cm 0 A t=some x→z≤x):=by
 unfold les at h
 cases e:cm 0 A t with
 | none=>rw [e] at h;exact .inr ⟨h,fun x hx=>by cases hx⟩
 | some x =>
  rw [e] at h
  cases e2:cm 0 B t with
  | none=>rw [e2] at h;cases h;exact .inl ⟨rfl,fun y hy=>by cases hy⟩
  | some y =>
   rw [e2] at h
   have h:some (if x≤y then x else y)=some z:=h
   by_cases w:x≤y
   ·rw [if_pos w] at h;cases h;exact .inl ⟨rfl,fun y' hy=>by cases hy;exact w⟩
   ·rw [if_neg w] at h;cases h;exact .inr ⟨rfl,fun x' hx=>by cases hx;grind⟩
theorem les_no {A B:List Pc} {t:Rat}:les A B t=none↔cm 0 A t=none∧cm 0 B t=none:=by
 constructor
 ·intro h
  unfold les at h
  cases e:cm 0 A t with
  | none=>rw [e] at h;exact ⟨rfl,h⟩
  | some x =>
   rw [e] at h
   cases e2:cm 0 B t with
   | none=>rw [e2] at h;cases h
   | some y=>rw [e2] at h;cases h
 ·rintro ⟨h1,h2⟩
  unfold les;rw [h1,h2]
theorem jG {A B:List Pc} {t:Rat}:les A B t=les B A t:=by
 cases e:les B A t with
 | none=>exact les_no.mpr (les_no.mp e).symm
 | some z =>
  rcases d7 e with ⟨h1,h2⟩|⟨h1,h2⟩
  ·exact vS h1 h2
  ·exact qO h1 h2
theorem Di {A B:List Pc} {t u z:Rat} (tu:t≤u) (h:les A B u=some z):∃y,les A B t=some y:=by
 cases e:les A B t with
 | some y=>exact ⟨y,rfl⟩
 | none =>
  obtain ⟨e1,e2⟩:=les_no.mp e
  rcases d7 h with ⟨h1,_⟩|⟨h1,_⟩
  ·obtain ⟨y,hy⟩:=dr tu h1;rw [e1] at hy;cases hy
  ·obtain ⟨y,hy⟩:=dr tu h1;rw [e2] at hy;cases hy
theorem En {A B:List Pc} {t z:Rat} (hA:RtF A) (hB:RtF B) (t0:0≤t) (h:les A B t=some z):t≤z:=by
 rcases d7 h with ⟨h1,_⟩|⟨h1,_⟩
 ·exact eS hA t0 h1
 ·exact eS hB t0 h1
theorem E6 {A B:List Pc} {t u y z:Rat} (hA:RtF A) (hB:RtF B) (t0:0≤t) (tu:t≤u) (h:les A B t=some y) (h':les A B u=some z):y≤z:=by
 have key:∀ {A B:List Pc},RtF A→les A B t=some y→cm 0 A u=some z→y≤z:=fun {A B} hA h hu=>by
  obtain ⟨x,hx⟩:=dr tu hu
  have:=i7 hA t0 tu hx hu
  rcases d7 h with ⟨h1,_⟩|⟨_,h2⟩
  ·rw [h1] at hx;cases hx;exact this
  ·have:=h2 x hx;grind
 rcases d7 h' with ⟨h1,_⟩|⟨h1,_⟩
 ·exact key hA h h1
 ·exact key hB (by rw [jG];exact h) h1
theorem F3 {A B:List Pc} {v:Nat} (hA:∀t y,0≤t→cm 0 A t=some y→y≤2 ^ v) (hB:∀t y,0≤t→cm 0 B t=some y→y≤2 ^ v):∀t y,0≤t→les A B t=some y→y≤2 ^ v:=fun t y t0 h=>by
 rcases d7 h with ⟨h1,_⟩|⟨h1,_⟩
 ·exact hA t y t0 h1
 ·exact hB t y t0 h1
theorem C8 {A:List Pc} {e:Rat} (hA:RtF A) (h:cm 0 A e=none):∃l,l<e∧∀t,l<t→cm 0 A t=none:=by
 rcases cU A with rfl|⟨Y,q,rfl⟩
 ·exact ⟨e-1,by grind,fun t _=>rfl⟩
 ·obtain ⟨y,hy⟩:=t8 (b:=0) (L:=Y++[q]) (p:=q) (by simp)
  have lt:q.E<e:=Classical.byContradiction fun w=>by
   obtain ⟨z,hz⟩:=dr (t:=e) (by grind) hy
   rw [h] at hz;cases hz
  exact ⟨q.E,lt,fun t ht=>oq hA ht⟩
theorem qI {α β e:Rat} (h:0<α*e+β):∃x,x<e∧∀t,x<t→t≤e→0<α*t+β:=by
 by_cases w:α≤0
 ·exact ⟨e-1,by grind,fun t _ te=>by have:=Rat.mul_nonneg (a:=-α) (b:=e-t) (by grind) (by grind);grind⟩
 ·have a0:0<α:=by grind
  obtain ⟨g,hg⟩:∃g,(α*e+β)/α=g:=⟨_,rfl⟩
  have g1:g*α=α*e+β:=by rw [←hg];grind
  have g0:0<g:=Classical.byContradiction fun z=>by
   have:=Rat.mul_nonneg (a:=-g) (b:=α) (by grind) (by grind)
   grind
  refine ⟨e-g,by grind,fun t t1 te=>?_⟩
  have:=Rat.mul_pos (a:=t-(e-g)) (b:=α) (by grind) a0
  grind
theorem BH {α β e:Rat}:∃x,x<e∧((∀t,x<t→t≤e→0≤α*t+β)∨∀t,x<t→t≤e→α*t+β≤0):=by
 by_cases w:0<α*e+β
 ·obtain ⟨x,h1,h2⟩:=qI w
  exact ⟨x,h1,.inl fun t a b=>Rat.le_of_lt (h2 t a b)⟩
 ·by_cases w2:α*e+β<0
  ·obtain ⟨x,h1,h2⟩:=qI (α:=-α) (β:=-β) (e:=e) (by grind)
   exact ⟨x,h1,.inr fun t a b=>by have:=h2 t a b;grind⟩
  ·by_cases w3:α≤0
   ·exact ⟨e-1,by grind,.inl fun t _ te=>by have:=Rat.mul_nonneg (a:=-α) (b:=e-t) (by grind) (by grind);grind⟩
   ·exact ⟨e-1,by grind,.inr fun t _ te=>by have:=Rat.mul_nonneg (a:=α) (b:=e-t) (by grind) (by grind);grind⟩
theorem fD {d Q P:Nat} {R:Int} {z t:Rat} (d0:0<d) (q0:0<Q) (h:(d:Rat)*Q*z=P*d*t+R):z=(P:Rat)/Q*t+R/(d*Q):=by
 have:=aF d0
 have:=aF q0
 grind
theorem DA {A B:List Pc} {d k:Nat} (d0:0<d) (hA:RtF A) (hB:RtF B) (lA:Lin d k (cm 0 A)) (lB:Lin d k (cm 0 B)):Lin d k (les A B):=by
 have one:∀ {A B:List Pc},RtF A→RtF B→Lin d k (cm 0 B)→∀e y,0≤e→cm 0 A e=none→cm 0 B e=some y→∃(P Q:Nat) (R:Int) (x:Rat),(0<Q∧Q<2 ^ k∧P<2 ^ k)∧x<e∧∀t z,0≤t→x<t→t≤e→les A B t=some z→(d:Rat)*Q*z=P*d*t+R:=fun {A B} hA hB lB e y e0 h1 h2=>by
  obtain ⟨P,Q,R,x,b,xe,hx⟩:=lB e y e0 h2
  obtain ⟨l,le,hl⟩:=C8 hA h1
  by_cases w:x≤l
  ·refine ⟨P,Q,R,l,b,le,fun t z t0 lt te hz=>hx t z t0 (by grind) te ?_⟩
   rcases d7 hz with ⟨h,_⟩|⟨h,_⟩
   ·rw [hl t lt] at h;cases h
   ·exact h
  ·refine ⟨P,Q,R,x,b,xe,fun t z t0 lt te hz=>hx t z t0 lt te ?_⟩
   rcases d7 hz with ⟨h,_⟩|⟨h,_⟩
   ·rw [hl t (by grind)] at h;cases h
   ·exact h
 intro e y e0 he
 cases eA:cm 0 A e with
 | none =>
  cases eB:cm 0 B e with
  | none=>rw [les_no.mpr ⟨eA,eB⟩] at he;cases he
  | some y2=>exact one hA hB lB e y2 e0 eA eB
 | some y1 =>
  cases eB:cm 0 B e with
  | none =>
   obtain ⟨P,Q,R,x,b,xe,hx⟩:=one hB hA lA e y1 e0 eB eA
   exact ⟨P,Q,R,x,b,xe,fun t z t0 xt te hz=>hx t z t0 xt te (by rw [jG];exact hz)⟩
  | some y2 =>
   obtain ⟨P,Q,R,x,b,xe,hx⟩:=lA e y1 e0 eA
   obtain ⟨P',Q',R',x',b',xe',hx'⟩:=lB e y2 e0 eB
   obtain ⟨u,ue,hu⟩:=BH (α:=(P':Rat)/Q'-P/Q) (β:=R'/(d*Q')-R/(d*Q)) (e:=e)
   obtain ⟨m,m1,m2,m3,m4⟩:∃m,x≤m∧x'≤m∧u≤m∧m<e:=by
    by_cases w:x≤x'
    ·by_cases w2:x'≤u
     ·exact ⟨u,by grind,w2,Rat.le_refl,ue⟩
     ·exact ⟨x',w,Rat.le_refl,by grind,xe'⟩
    ·by_cases w2:x≤u
     ·exact ⟨u,w2,by grind,Rat.le_refl,ue⟩
     ·exact ⟨x,Rat.le_refl,by grind,by grind,xe⟩
   rcases hu with hu|hu
   ·refine ⟨P,Q,R,m,b,m4,fun t z t0 mt te hz=>?_⟩
    obtain ⟨z1,h1⟩:=dr te eA
    obtain ⟨z2,h2⟩:=dr te eB
    have l1:=hx t z1 t0 (by grind) te h1
    have v1:=fD d0 b.1 l1
    have v2:=fD d0 b'.1 (hx' t z2 t0 (by grind) te h2)
    have:=hu t (by grind) te
    have le:z1≤z2:=by grind
    rw [qO h1 fun y hy=>by rw [h2] at hy;cases hy;exact le] at hz
    cases hz
    exact l1
   ·refine ⟨P',Q',R',m,b',m4,fun t z t0 mt te hz=>?_⟩
    obtain ⟨z1,h1⟩:=dr te eA
    obtain ⟨z2,h2⟩:=dr te eB
    have l2:=hx' t z2 t0 (by grind) te h2
    have v1:=fD d0 b.1 (hx t z1 t0 (by grind) te h1)
    have v2:=fD d0 b'.1 l2
    have:=hu t (by grind) te
    have le:z2≤z1:=by grind
    rw [vS h2 fun y hy=>by rw [h1] at hy;cases hy;exact le] at hz
    cases hz
    exact l2
theorem HA {c:E} {b:Ss} {D:bn} (I:Nat→Fr→AH→Prop) {n:Nat} {ρ:Fr} {st:AH} (h0:I n ρ st)
  (hs:∀n ρ st,I n ρ st→∃A B:AH→Prop,(wpT Γ c ρ st fun k st1=>if k=true then A st1 else B st1)∧(∀st1,A st1→ay Γ b ρ st1 (LD (fun ρ' st'=>∃m,m<n∧I m ρ' st') D))∧∀st1,B st1→D.nx ρ st1):GA Γ c b D ρ st:=by
 refine gL Γm I h0 fun n ρ st i=>?_
 obtain ⟨A,B,h1,h2,h3⟩:=hs n ρ st i
 refine aQ Γm c (fun k st1 z=>?_) h1
 cases k with
 | true=>exact h2 _ z
 | false=>exact h3 _ z
theorem oI {T:List (Nat × Nat)} {j:Nat} (h:T.length≤j):T.drop j=[]:=List.drop_eq_nil_of_le h
theorem yM {as st Q} (h:fA as st Q):ay Γ gR (frame 6 as) st (ag st Q):=by
 obtain ⟨k,n,m,T1,T2,rfl,hk,h1,h2,e1,e2,hl,kk⟩:=h
 have g1:∀g:AH,(st++g)[n]?=some (.lst (T1.map fr)):=fun g=>au h1
 have g2:∀g:AH,(st++g)[m]?=some (.lst (T2.map fr)):=fun g=>au h2
 have len1:(T1.map fr).length=T1.length:=List.length_map ..
 have len2:(T2.map fr).length=T2.length:=List.length_map ..
 unfold gR
 walk_at "WP"
 refine HA (MgW st k n m T1 T2) (n:=T1.length+T2.length-(0+0)) ⟨[],0,0,[],none,rfl,Nat.zero_le _,Nat.zero_le _,rfl,⟨List.Pairwise.nil,by simp,by simp,by simp,Nat.zero_le _⟩,rfl⟩ ?_
 rintro q ρ s ⟨Z,i,j,g,x,rfl,hi,hj,rfl,I,rfl⟩
 refine ⟨fun s=>s=st++.lst (Z.map fr)::g∧(i<T1.length∨j<T2.length),fun s=>s=st++.lst (Z.map fr)::g∧i=T1.length∧j=T2.length,?_,?_,?_⟩
 ·walk_at "WP"
  refine ⟨_,af (g1 _),?_⟩
  rw [len1]
  refine di (fun c=>.inl (by omega)) fun c=>⟨_,af (g2 _),?_⟩
  rw [len2]
  exact di (fun c'=>.inr (by omega)) fun c'=>⟨by omega,by omega⟩
 ·rintro s ⟨rfl,hij⟩
  refine ka (fun ρ s=>s=st++.lst (Z.map fr)::g∧∃(x:Nat × Nat) (i' j':Nat),((i'=i+1∧j'=j∧T1[i]?=some x∧∀t∈T2.drop j,val x≤val t)∨(i'=i∧j'=j+1∧T2[j]?=some x∧∀t∈T1.drop i,val x≤val t))∧ρ=[some (.ref n),some (.ref m),some (.ref st.length),some (.int i'),some (.int j'),some (fr x)]) ?_ ?_
  ·refine ifS (fun s=>s=st++.lst (Z.map fr)::g∧∃x,T1[i]?=some x∧∀t∈T2.drop j,val x≤val t) (fun s=>s=st++.lst (Z.map fr)::g∧∃x,T2[j]?=some x∧∀t∈T1.drop i,val x≤val t) ?_ ?_ ?_
   ·walk_at "WP"
    refine ⟨_,af (g2 _),?_⟩
    rw [len2]
    refine di (fun c=>?_) fun c=>⟨_,af (g1 _),?_⟩
    ·have il:i<T1.length:=by omega
     exact ⟨_,List.getElem?_eq_getElem il,fun t ht=>by rw [oI (by omega)] at ht;cases ht⟩
    ·have jl:j<T2.length:=by omega
     have hy:=List.getElem?_eq_getElem jl
     rw [len1]
     refine di (fun c1=>?_) fun c1=>⟨_,hy,fun t ht=>by rw [oI (by omega)] at ht;cases ht⟩
     have il:i<T1.length:=by omega
     have hx:=List.getElem?_eq_getElem il
     obtain ⟨c1',z1⟩:=e1.ok _ (List.getElem_mem il)
     obtain ⟨c2',z2⟩:=e2.ok _ (List.getElem_mem jl)
     refine ⟨_,af (g1 _),fr T1[i],bC (by rw [List.getElem?_map,hx];rfl),_,af (g2 _),fr T2[j],bC (by rw [List.getElem?_map,hy];rfl),?_⟩
     refine ⟨_,_,rfl,z1.mono (by omega),z2.mono (by omega),?_⟩
     by_cases w:val T1[i]<val T2[j]
     ·rw [gj z1 z2 w]
      walk_at "WP"
      exact ⟨_,hx,fun t ht=>by have:=pv e2.sr hy t ht;grind⟩
     ·rw [jg z1 z2 (by grind)]
      walk_at "WP"
      exact ⟨_,hy,fun t ht=>by have:=pv e1.sr hx t ht;grind⟩
   ·rintro s ⟨rfl,x,hx,hl⟩
    walk_at "WPN"
    refine ⟨_,af (g1 _),fr x,bC (by rw [List.getElem?_map,hx];rfl),x,i+1,j,.inl ⟨rfl,rfl,hx,hl⟩,?_⟩
    exact ⟨by omega,rfl,rfl⟩
   ·rintro s ⟨rfl,x,hx,hl⟩
    walk_at "WPN"
    refine ⟨_,af (g2 _),fr x,bC (by rw [List.getElem?_map,hx];rfl),x,i,j+1,.inr ⟨rfl,rfl,hx,hl⟩,?_⟩
    exact ⟨rfl,by omega,rfl⟩
  rintro ρ s ⟨rfl,x,i',j',hp,rfl⟩
  obtain ⟨I2,hi',hj',dn⟩:MgI T1 T2 (if Z.getLast?=some x then Z else Z++[x]) i' j'∧i'≤T1.length∧j'≤T2.length∧i'+j'=i+j+1:=by
   rcases hp with ⟨rfl,rfl,hx,hl⟩|⟨rfl,rfl,hx,hl⟩
   ·have il:=(List.getElem?_eq_some_iff.mp hx).1
    exact ⟨I.step e1.sr (fun t ht=>(e1.ok t ht).1) (fun t ht=>(e2.ok t ht).1) hx hl,by omega,by omega,by omega⟩
   ·have il:=(List.getElem?_eq_some_iff.mp hx).1
    exact ⟨(I.swap.step e2.sr (fun t ht=>(e2.ok t ht).1) (fun t ht=>(e1.ok t ht).1) hx hl).swap,by omega,by omega,by omega⟩
  have lZ:=I.ln
  walk_at "WP"
  refine fb (xs:=Z.map fr) (by simp) (by simp) yd ?_
  rcases cU Z with rfl|⟨Y,c,rfl⟩
  ·rw [if_pos (by rfl)]
   rw [if_neg (by simp)] at I2
   refine ⟨⟨_,bK aC⟩,by simp,T1.length+T2.length-(i'+j'),by omega,_,i',j',g++[.lst []],_,rfl,hi',hj',?_,I2,rfl⟩
   rw [dF];simp
  ·rw [if_neg (by simp)]
   refine ⟨_,af aC,fr c,by rw [List.map_append];exact fC,i_ ?_⟩
   rw [List.getLast?_concat] at I2
   by_cases w:c=x
   ·rw [decide_eq_true w,if_neg (by decide)]
    rw [if_pos (by rw [w])] at I2
    exact ⟨T1.length+T2.length-(i'+j'),by omega,_,i',j',g++[.lst []],_,rfl,hi',hj',rfl,I2,rfl⟩
   ·rw [decide_eq_false w,if_pos rfl]
    rw [if_neg (fun z=>w (Option.some.inj z))] at I2
    refine ⟨⟨_,bK aC⟩,by simp at lZ ⊢;omega,T1.length+T2.length-(i'+j'),by omega,_,i',j',g++[.lst []],_,rfl,hi',hj',?_,I2,rfl⟩
    rw [dF];simp
 ·rintro s ⟨rfl,rfl,rfl⟩
  walk_at "WP"
  have mem:∀t,t∈Z↔t∈T1∨t∈T2:=fun t=>by have:=I.mem t;rwa [List.take_length,List.take_length] at this
  refine .inl (kk Z _ _ aC ⟨I.sr,fun t ht=>?_⟩ mem I.ln)
  rcases (mem t).mp ht with a|a
  ·exact e1.ok t a
  ·exact e2.ok t a
theorem CutI.none {S:List Pc} {T:List (Nat × Nat)} {z j:Nat} {C:List (Option Two)} (h:CutI S T z S.length C) (hS:RtF S) (hE:Ends j T) (t0:T[0]?=some (0,1)) (hin:∀p∈S,p.e∈T) {k:Nat} (hk:C.length≤k) (kT:k<T.length):kZ S z (val (bgT T k)) (val (bgT T (k+1))) none:=by
 intro t ht
 rcases cU S with rfl|⟨Y,q,rfl⟩
 ·rfl
 ·have hq:(Y++[q])[Y.length]?=some q:=by simp
  have eb:bg (Y++[q]) (Y++[q]).length=q.e:=by rw [show (Y++[q]).length=Y.length+1 by simp,bgS hq]
  obtain ⟨k0,hk0⟩:=List.getElem?_of_mem (hin q (by simp))
  have k1:k0<C.length:=(h.cnt k0 _ hk0).mpr ⟨by simp,by rw [eb];exact Rat.le_refl⟩
  have hT:=List.getElem?_eq_getElem kT
  have lt:q.E<val T[k]:=hE.lt hk0 hT (by omega)
  have le:q.E≤val (bgT T k):=by
   cases k with
   | zero=>omega
   | succ k =>
    have hk':=List.getElem?_eq_getElem (show k<T.length by omega)
    rw [lu hk']
    by_cases e:k0=k
    ·subst e
     rw [hk'] at hk0
     rw [Option.some.inj hk0]
     exact Rat.le_refl
    ·exact Rat.le_of_lt (hE.lt hk0 hk' (by omega))
  rw [lu hT] at ht
  refine aO fun r hr=>?_
  have:=lH hS r hr
  rw [eb] at this
  have:r.E≤q.E:=this
  rcases ht with ht|ht <;> grind
noncomputable def CaI (st:AH) (S:List Pc) (n:Nat) (T:List (Nat × Nat)) (z:Nat) (i:Nat) (ρ:Fr) (s:AH):Prop:=∃(C:List (Option Two)) (g:AH) (a b c d:Option PV),s=st++.lst (C.map cV)::g∧CutI S T z i C∧ρ=[some (bL S),some (.ref n),some (.ref st.length),a,b,c,d]
noncomputable def CaJ (st:AH) (S:List Pc) (n:Nat) (T:List (Nat × Nat)) (z i:Nat) (p:Pc) (q:Nat) (ρ:Fr) (s:AH):Prop:=∃(C:List (Option Two)) (g:AH) (lo:Nat × Nat) (x:Option PV),q=T.length-C.length∧s=st++.lst (C.map cV)::g∧CutJ S T z i p C lo∧Cop lo∧Sz z lo∧ρ=[some (bL S),some (.ref n),some (.ref st.length),some (.int i),some (pcV p),some (fr lo),x]
theorem yi {as st Q} (h:fN as st Q):ay Γ gy (frame 7 as) st (ag st Q):=by
 obtain ⟨j,m,S,n,T,rfl,⟨j1,j2⟩,hS,hz,hn,hE,t0,hin,lS,lT,k⟩:=h
 have gn:∀g:AH,(st++g)[n]?=some (.lst (T.map fr)):=fun g=>au hn
 have lenT:(T.map fr).length=T.length:=List.length_map ..
 unfold gy
 walk_at "WP"
 refine kF Γm (CaI st S n T (m+4*j+2)) ⟨[],[],none,none,none,none,rfl,⟨fun k t _=>⟨fun z=>absurd z (Nat.not_lt_zero _),fun z=>absurd rfl z.1⟩,fun k c hc=>by simp at hc,Nat.zero_le _⟩,rfl⟩ ?_ ?_
 ·rintro i v ρ s hi ⟨C,g,a,b,c,d,rfl,I,rfl⟩
  refine ⟨trivial,?_⟩
  obtain ⟨v,hv,rfl⟩:=iq hi
  rw [List.getElem?_map] at hv
  obtain ⟨p,hp,rfl⟩:=Option.map_eq_some_iff.mp hv
  have pz:=hz p (List.mem_of_getElem? hp)
  obtain ⟨pok,p1,p2⟩:=hS.at_ hp
  rw [Int.zero_add]
  walk_at "WP"
  refine HA (CaJ st S n T (m+4*j+2) i p) (n:=T.length-C.length) ⟨C,g,p.l,_,rfl,rfl,I.start hS hE hp hin,pok.l,pz.l.mono (by omega),rfl⟩ ?_
  rintro q ρ s ⟨C,g,lo,x,rfl,rfl,J,cl,zl,rfl⟩
  have lC:=J.ln
  have lenC:(C.map cV).length=C.length:=List.length_map ..
  refine ⟨fun s=>s=st++.lst (C.map cV)::g∧∃t,T[C.length]?=some t∧val t≤p.E,fun s=>s=st++.lst (C.map cV)::g∧∀t,T[C.length]?=some t→p.E<val t,?_,?_,?_⟩
  ·walk_at "WP"
   refine ⟨_,af aC,_,af (gn _),?_⟩
   rw [lenC,lenT]
   refine di (fun c=>?_) fun c=>fun t ht=>by have:=(List.getElem?_eq_some_iff.mp ht).1;omega
   have il:C.length<T.length:=by omega
   have ht:=List.getElem?_eq_getElem il
   obtain ⟨ct,tz⟩:=hE.ok _ (List.getElem_mem il)
   refine ⟨_,af aC,_,af (gn _),fr T[C.length],by rw [lenC];exact bC (by rw [List.getElem?_map,ht];rfl),?_⟩
   refine ⟨_,_,rfl,pz.e.mono (by omega),tz.mono (by omega),?_⟩
   have pz':Sz (m+4*j+2) p.e:=pz.e.mono (by omega)
   have tz':Sz (m+4*j+2) T[C.length]:=tz.mono (by omega)
   by_cases w:p.E<val T[C.length]
   ·rw [gj pz' tz' w]
    walk_at "WP"
    intro t ht'
    rw [ht] at ht'
    cases ht'
    exact w
   ·rw [jg pz' tz' (by grind)]
    walk_at "WP"
    exact ⟨_,ht,by grind⟩
  ·rintro s ⟨rfl,t,ht,le⟩
   obtain ⟨ct,tz⟩:=hE.ok t (List.mem_of_getElem? ht)
   have il:=(List.getElem?_eq_some_iff.mp ht).1
   have ge:val (bg S i)≤val t:=by
    rcases J.nx C.length t ht (Nat.le_refl _) with rfl|w
    ·show val (0,1)≤_;rw [val_nought];exact aI ct.pos
    ·exact Rat.le_of_lt w
   walk_at "WP"
   refine ⟨_,af aC,_,af (gn _),fr t,by rw [lenC];exact bC (by rw [List.getElem?_map,ht];rfl),?_⟩
   refine ⟨j,m,S,i,p,t,rfl,⟨j1,by omega⟩,hS,hz,hp,ct,tz,by rw [eR];exact ge,le,fun hi ch zh vh=>?_⟩
   rw [eR] at vh
   walk_at "WP"
   have J2:=J.step (z:=m+4*j+2) hS hE hp ht le t0 cl ch zl (zh.mono (by omega)) vh
   refine ⟨⟨_,bK aC⟩,by rw [lenC];omega,T.length-(C++[some (lo,hi)]).length,by simp;omega,C++[some (lo,hi)],g,hi,_,rfl,?_,J2,ch,zh.mono (by omega),rfl⟩
   rw [dF];simp;rfl
  ·rintro s ⟨rfl,hx⟩
   exact ⟨C,g,_,_,_,_,rfl,J.done hE hp hx,rfl⟩
 ·rintro ρ s ⟨C,g,a,b,c,d,rfl,I,rfl⟩
  refine ⟨trivial,?_⟩
  rw [ip,List.length_map] at I
  have lC:=I.ln
  have lenC:(C.map cV).length=C.length:=List.length_map ..
  walk_at "WP"
  refine ⟨_,af (gn _),_,af aC,?_⟩
  rw [lenC,lenT]
  have e0:((T.length:Int)-C.length).toNat=T.length-C.length:=by omega
  have ef:(List.replicate (T.length-C.length) [PV.non]).flatten=(List.replicate (T.length-C.length) (none:Option Two)).map cV:=by
   rw [List.map_replicate]
   induction (T.length-C.length) with
   | zero=>rfl
   | succ m ih=>rw [List.replicate_succ,List.flatten_cons,ih,List.replicate_succ];rfl
  rw [e0,ef]
  refine ⟨by omega,by omega,by omega,by simp;omega,.inl (k (C++List.replicate (T.length-C.length) none) _ _ ?_ (by simp;omega) fun i c hc=>?_)⟩
  ·rw [eY,List.map_append]
   show ((Cell.lst (C.map cV)::(g++_))[g.length+2+1]?)=_
   rw [List.getElem?_cons_succ,eY]
   rfl
  ·have il:=(List.getElem?_eq_some_iff.mp hc).1
   by_cases w:i<C.length
   ·rw [List.getElem?_append_left w] at hc
    exact I.ok i c hc
   ·rw [List.getElem?_append_right (by omega)] at hc
    have:c=none:=by
     rw [List.getElem?_replicate] at hc
     split at hc
     ·exact (Option.some.inj hc).symm
     ·cases hc
    subst this
    exact I.none hS hE t0 hin (by omega) (by simp at il;omega)
theorem wJ {as st Q} (h:eC as st Q):ay Γ gk (frame 2 as) st (ag st Q):=by
 obtain ⟨p,q,rfl,cp,cq,zp,zq,k⟩:=h
 unfold gk
 walk_at "WP"
 refine i_ ?_
 unfold ldr at k
 by_cases e:p=q
 ·rw [decide_eq_true e,if_pos rfl]
  rw [if_pos (by rw [e])] at k
  exact .inl k
 ·rw [decide_eq_false e,if_neg Bool.false_ne_true]
  rw [if_neg (fun z=>e (bH cp cq z))] at k
  refine ⟨_,_,rfl,zp.mono (by decide),zq.mono (by decide),?_⟩
  by_cases w:val p<val q
  ·rw [gj zp zq w]
   rw [if_pos w] at k
   walk_at "WP"
   exact .inl k
  ·rw [jg zp zq (by grind)]
   rw [if_neg w] at k
   walk_at "WP"
   exact .inl k
theorem Cu {as st Q} (h:ig as st Q):ay Γ iX (frame 2 as) st (ag st Q):=by
 obtain ⟨k,p,q,rfl,hk,cp,cq,zp,zq,kk⟩:=h
 have up:∀ {x:Nat × Nat},Sz k x→Sz 3000 x:=fun z=>z.mono (by omega)
 unfold iX
 walk_at "WP"
 refine ⟨_,_,rfl,up zp,up zq,?_⟩
 by_cases w:val p<val q
 ·rw [gj zp zq w]
  walk_at "WP"
  refine ⟨_,_,rfl,up zq,up zp,sub_le (up zq) (up zp) (Rat.le_of_lt w),.inl (kk _ (cO cq.pos cp.pos) (iy zq zp) (.inl ⟨w,dE cq.pos cp.pos (Rat.le_of_lt w)⟩))⟩
 ·have le:val q≤val p:=by grind
  rw [jg zp zq le]
  walk_at "WP"
  refine ⟨_,_,rfl,up zp,up zq,sub_le (up zp) (up zq) le,.inl (kk _ (cO cp.pos cq.pos) (iy zp zq) (.inr ⟨le,dE cp.pos cq.pos le⟩))⟩
theorem FN {l:List Nat} {n:Nat}:(ldV l).bel n=true:=by
 rw [PV.bel]
 induction l with
 | nil=>rw [List.map_nil,PV.bels]
 | cons x xs ih=>rw [List.map_cons,PV.bels,ih];rfl
theorem yt {as st Q} (h:fI as st Q):ay Γ hJ (frame 2 as) st (ag st Q):=by
 obtain ⟨l,l',rfl,hl,k⟩:=h
 unfold hJ
 walk_at "WP"
 refine ⟨by simp;omega,?_⟩
 refine jx Γm (fun j acc s=>s=st∧acc=((l.take j).filter fun w=>l'.contains w).map iV) ⟨rfl,by simp⟩ ?_ ?_
 ·rintro j x acc s hx ⟨rfl,rfl⟩
  refine ⟨trivial,?_⟩
  rw [List.getElem?_map] at hx
  obtain ⟨u,hu,rfl⟩:=Option.map_eq_some_iff.mp hx
  walk_at "WP"
  refine ⟨l'.map (fun n:Nat=>(n:Int)),by rw [List.map_map];rfl,?_⟩
  have e:((l'.map (fun n:Nat=>(n:Int))).any fun j=>j == (u:Int))=l'.contains u:=by
   rw [List.any_map,List.contains_eq_any_beq]
   congr 1
   funext x
   show ((x:Int) == (u:Int))=(u == x)
   by_cases w:u=x
   ·rw [w];simp
   ·have h1:((x:Int) == (u:Int))=false:=by simp;omega
    have h2:(u == x)=false:=by simpa using w
    rw [h1,h2]
  rw [e]
  have et:l.take (j+1)=l.take j++[u]:=by rw [List.take_succ,hu];rfl
  rw [et,List.filter_append,List.map_append]
  refine di (fun c=>?_) fun c=>?_
  ·rw [List.filter_cons_of_pos c];rfl
  ·rw [List.filter_cons_of_neg c];simp
 ·rintro acc s ⟨rfl,rfl⟩
  refine ⟨trivial,?_⟩
  rw [List.length_map,List.take_length]
  exact ⟨_,af aA,.app FN (.inl k)⟩
theorem CS {c:Two}:cV (some c)=.tup [fr c.1,fr c.2]:=rfl
theorem yS {A B:List Pc} {a e:Rat} {m y:Two} (hA:SegOk A a e m) (hB:SegOk B a e y) {t:Rat} (ht:a<t∨t=e) (te:t≤e):∃u:Rat,0≤u∧u≤1∧cm 0 A t=some (val m.1+(val m.2-val m.1)*u)∧cm 0 B t=some (val y.1+(val y.2-val y.1)*u)∧(a<e→u=(t-a)/(e-a)):=by
 by_cases q:a<t
 ·obtain ⟨u,u1,u2,u3,u4⟩:=mI (a:=t-a) (w:=e-a) (by grind) (by grind) (by grind)
  exact ⟨u,u3,u4,by rw [hA.mid t q te,u1],by rw [hB.mid t q te,u1],fun _=>u1.symm⟩
 ·have:t=e:=by rcases ht with h|h;exact absurd h q;exact h
  subst this
  refine ⟨1,by grind,by grind,by rw [hA.at_];congr 1;grind,by rw [hB.at_];congr 1;grind,fun h=>absurd h (by grind)⟩
theorem yJ {m0 m1 y0 y1 u:Rat} (h0:m0≤y0) (h1:m1≤y1) (u0:0≤u) (u1:u≤1):m0+(m1-m0)*u≤y0+(y1-y0)*u:=by
 have a:=Rat.mul_nonneg (a:=y0-m0) (b:=1-u) (by grind) (by grind)
 have b:=Rat.mul_nonneg (a:=y1-m1) (b:=u) (by grind) u0
 grind
theorem ldr_l {x y:Rat}:0∈ldr x y↔x≤y:=by
 unfold ldr
 by_cases e:x=y
 ·rw [if_pos e];simp;grind
 ·rw [if_neg e]
  by_cases w:x<y
  ·rw [if_pos w];simp;grind
  ·rw [if_neg w];simp;grind
theorem ldr_r {x y:Rat}:1∈ldr x y↔y≤x:=by
 unfold ldr
 by_cases e:x=y
 ·rw [if_pos e];simp;grind
 ·rw [if_neg e]
  by_cases w:x<y
  ·rw [if_pos w];simp;grind
  ·rw [if_neg w];simp;grind
theorem Fj {x y:Rat}:∀u∈ldr x y,u<2:=by
 unfold ldr
 intro u hu
 split at hu
 ·simp at hu;omega
 ·split at hu <;> simp at hu <;> omega
theorem Ce {x y:Rat}:(ldr x y).length≤2:=by
 unfold ldr
 split
 ·simp
 ·split <;> simp
theorem iw {m0 m1 y0 y1 a e r t:Rat} (ae:a<e) (h0:m0<y0) (h1:y1<m1) (hr:r=a+(e-a)*((m0-y0)/(m0-y0+(y1-m1)))):(a<r∧r<e)∧(t≤r→m0+(m1-m0)*((t-a)/(e-a))≤y0+(y1-y0)*((t-a)/(e-a)))∧(r≤t→y0+(y1-y0)*((t-a)/(e-a))≤m0+(m1-m0)*((t-a)/(e-a))):=by
 obtain ⟨q,hq⟩:∃q,(m0-y0)/(m0-y0+(y1-m1))=q:=⟨_,rfl⟩
 have dn:m0-y0+(y1-m1)≠0:=by grind
 have q1:q*(y0-m0+(m1-y1))=y0-m0:=by rw [←hq];grind
 have D:0<y0-m0+(m1-y1):=by grind
 have qp:0<q:=by
  refine Classical.byContradiction fun z=>?_
  have:=Rat.mul_nonneg (a:=-q) (b:=y0-m0+(m1-y1)) (by grind) (by grind)
  grind
 have ql:q<1:=by
  refine Classical.byContradiction fun z=>?_
  have:=Rat.mul_nonneg (a:=q-1) (b:=y0-m0+(m1-y1)) (by grind) (by grind)
  grind
 rw [hq] at hr
 have w:0<e-a:=by grind
 have r1:=Rat.mul_pos w qp
 have r2:=Rat.mul_pos w (show 0<1-q by grind)
 obtain ⟨u,hu⟩:∃u,(t-a)/(e-a)=u:=⟨_,rfl⟩
 have en:e-a≠0:=by grind
 have u1:u*(e-a)=t-a:=by rw [←hu];grind
 rw [hu]
 refine ⟨⟨by grind,by grind⟩,fun h=>?_,fun h=>?_⟩
 ·have le:u≤q:=by
   refine Classical.byContradiction fun z=>?_
   have:=Rat.mul_pos (a:=u-q) (b:=e-a) (by grind) w
   grind
  have:=Rat.mul_nonneg (a:=q-u) (b:=y0-m0+(m1-y1)) (by grind) (by grind)
  grind
 ·have le:q≤u:=by
   refine Classical.byContradiction fun z=>?_
   have:=Rat.mul_pos (a:=q-u) (b:=e-a) (by grind) w
   grind
  have:=Rat.mul_nonneg (a:=u-q) (b:=y0-m0+(m1-y1)) (by grind) (by grind)
  grind
theorem sJ {S:List Pc} {a e:Rat} {c:Two} (h:SegOk S a e c) {t:Rat} (ht:a<t∨t=e) (te:t≤e):∃x,cm 0 S t=some x:=by
 by_cases q:a<t
 ·exact ⟨_,h.mid t q te⟩
 ·have:t=e:=by rcases ht with h|h;exact absurd h q;exact h
  exact ⟨_,by rw [this];exact h.at_⟩
theorem E1 {l:List Nat}:aW 4 (ldV l)=true:=oM fun v hv=>by
 obtain ⟨w,_,rfl⟩:=List.mem_map.mp hv
 rfl
theorem Ch.pw:∀ {r:List Pc} {b:Rat},Ch b r→(r.map Pc.e).Pairwise (fun a b=>val a<val b)∧∀p∈r,b<p.E
 | [],b,_=>⟨List.Pairwise.nil,fun p hp=>(nomatch hp)⟩
 | p::r,b,⟨h1,h2,h3,h4⟩=>by
  obtain ⟨a1,a2⟩:=h4.pw
  refine ⟨?_,fun q hq=>?_⟩
  ·rw [List.map_cons,List.pairwise_cons]
   refine ⟨fun x hx=>?_,a1⟩
   obtain ⟨q,hq,rfl⟩:=List.mem_map.mp hx
   exact a2 q hq
  ·rcases List.mem_cons.mp hq with rfl|hq
   ·exact h2
   ·have:=a2 q hq;grind
theorem RtF.pw {L:List Pc} (h:RtF L):(L.map Pc.e).Pairwise (fun a b=>val a<val b):=by
 cases L with
 | nil=>exact List.Pairwise.nil
 | cons a r=>exact (Ch.pw (b:=a.E-1) (r:=a::r) ⟨h.1,by grind,h.2.1,h.2.2.2.2.ch⟩).1
theorem xp {as st Q} (h:eP as st Q):ay Γ gg (frame 8 as) st (ag st Q):=by
 obtain ⟨k,z,w,a,e,m,y,rfl,⟨k1,k2,k3⟩,⟨ca,ce,za,ze⟩,⟨c1,c2,c3,c4⟩,⟨z1,z2,z3,z4⟩,ae,hc,hw,kk⟩:=h
 unfold gg
 walk_at "WP"
 simp only [CS]
 walk_at "WP"
 refine ⟨z,m.1,y.1,rfl,by omega,c1,c3,z1,z3,fun g cg zg hg=>?_⟩
 refine ⟨z,m.2,y.2,rfl,by omega,c2,c4,z2,z4,fun g' cg' zg' hg'=>?_⟩
 have sz:=Dc zg zg'
 have sc:=zY (p:=g) (q:=g') cg.pos cg'.pos
 have sv:=B5 (p:=g) (q:=g') cg.pos cg'.pos
 have gp:0<val g:=by rcases hc with hc|hc <;> rcases hg with hg|hg <;> grind
 have gp':0<val g':=by rcases hc with hc|hc <;> rcases hg' with hg' | hg' <;> grind
 have z01:Sz 1 (0,1):=⟨by decide,by decide,by decide⟩
 refine ⟨g,g',rfl,zg.mono (by omega),zg'.mono (by omega),?_⟩
 refine ⟨1,k,4*z+1,k,2*z,(0,1),a,xT g g',e,g,rfl,by omega,⟨z01,za,sz.mono (by omega),ze,zg.mono (by omega)⟩,⟨by rw [val_nought,sv];grind,by rw [val_nought];grind,by rw [sv];grind⟩,fun r cr zr vr=>?_⟩
 rw [val_nought,sv] at vr
 obtain ⟨q,q1,q2,q3,q4⟩:=mI (a:=val g-0) (w:=val g+val g'-0) (by grind) (by grind) (by grind)
 rw [q1] at vr
 have a1:val a≤val r:=by
  have:=Rat.mul_nonneg (a:=val e-val a) (b:=q) (by grind) q3
  grind
 have a2:val r≤val e:=by
  have:=Rat.mul_nonneg (a:=val e-val a) (b:=1-q) (by grind) (by grind)
  grind
 have ev:val r=crM (val a) (val e) m y:=by
  rw [vr,←q1]
  unfold crM
  congr 2
  rcases hc with hc|hc
  ·have h1:val g=val y.1-val m.1:=by rcases hg with hg|hg <;> grind
   have h2:val g'=val m.2-val y.2:=by rcases hg' with hg' | hg' <;> grind
   have n1:val g+val g'-0≠0:=by grind
   have n2:val m.1-val y.1+(val y.2-val m.2)≠0:=by grind
   rw [h1,h2] at n1 ⊢
   grind
  ·have h1:val g=val m.1-val y.1:=by rcases hg with hg|hg <;> grind
   have h2:val g'=val y.2-val m.2:=by rcases hg' with hg' | hg' <;> grind
   rw [h1,h2]
   congr 1 <;> grind
 have zw:=hw r cr ev
 refine ⟨k,z,k,z,w,a,m.1,e,m.2,r,rfl,by omega,⟨za,z1,ze,z2,zw⟩,⟨ae,a1,a2⟩,fun co cco zco vco=>?_⟩
 refine ⟨_,_,rfl,z1.mono (by omega),z3.mono (by omega),?_⟩
 have:=kk r co cr zw ev cco vco
 by_cases u:val m.1<val y.1
 ·rw [gj z1 z3 u]
  walk_at "WP"
  simp only [if_pos u] at this
  exact .inl this
 ·rw [jg z1 z3 (by grind)]
  walk_at "WP"
  simp only [if_neg u] at this
  exact .inl this
theorem SegF.of {f g:Rat→Option Rat} {a e:Rat} {c:Two} (h:SegF f a e c) (ae:a≤e) (hg:∀t,(a<t∨t=e)→t≤e→g t=f t):SegF g a e c :=
 ⟨h.cl,h.ch,h.le,by rw [hg e (.inr rfl) Rat.le_refl];exact h.at_,h.zero,fun t t1 t2=>by rw [hg t (.inl t1) t2];exact h.mid t t1 t2⟩
theorem SegOk.lesL {A B:List Pc} {a e:Rat} {m:Two} (h:SegOk A a e m) (ae:a≤e) (hb:∀t x y,(a<t∨t=e)→t≤e→cm 0 A t=some x→cm 0 B t=some y→x≤y):SegF (les A B) a e m:=h.f.of ae fun t ht te=>by
 obtain ⟨x,hx⟩:=sJ h ht te
 rw [hx]
 exact qO hx fun y hy=>hb t x y ht te hx hy
theorem SegOk.lesR {A B:List Pc} {a e:Rat} {m:Two} (h:SegOk B a e m) (ae:a≤e) (hb:∀t x y,(a<t∨t=e)→t≤e→cm 0 A t=some x→cm 0 B t=some y→y≤x):SegF (les A B) a e m:=h.f.of ae fun t ht te=>by
 obtain ⟨x,hx⟩:=sJ h ht te
 rw [hx]
 exact vS hx fun y hy=>hb t y x ht te hy hx
theorem AU {A B:List Pc} {a e:Rat} {m y:Two} (hA:SegOk A a e m) (hB:SegOk B a e y) (h1:val m.1≤val y.1) (h2:val m.2≤val y.2):∀t x z,(a<t∨t=e)→t≤e→cm 0 A t=some x→cm 0 B t=some z→x≤z:=fun t x z ht te hx hz=>by
 obtain ⟨v,v0,v1,e1,e2,_⟩:=yS hA hB ht te
 rw [e1] at hx
 rw [e2] at hz
 cases hx
 cases hz
 exact yJ h1 h2 v0 v1
theorem wz {f:Rat→Option Rat} {a e:Rat} {m:Two} {r co:Nat × Nat} (h:SegF f a e m) (ar:a<val r) (re:val r<e) (cc:Cop co) (vc:val co=val m.1+(val m.2-val m.1)*((val r-a)/(e-a))):SegF f a (val r) (m.1,co)∧SegF f (val r) e (co,m.2):=by
 have en:e-a≠0:=by grind
 obtain ⟨s,hs⟩:∃s,(val m.2-val m.1)/(e-a)=s:=⟨_,rfl⟩
 have le:=h.le
 have hs2:val m.2=val m.1+s*(e-a):=by grind
 have s0:0≤s:=Classical.byContradiction fun z=>by
  have:=Rat.mul_pos (a:=-s) (b:=e-a) (by grind) (by grind)
  grind
 have vc2:val co=val m.1+s*(val r-a):=by grind
 have p1:=Rat.mul_nonneg (a:=s) (b:=val r-a) s0 (by grind)
 have p2:=Rat.mul_nonneg (a:=s) (b:=e-val r) s0 (by grind)
 have md:∀t,a<t→t≤e→f t=some (val m.1+s*(t-a)):=fun t t1 t2=>by
  rw [h.mid t t1 t2];congr 1;grind
 refine ⟨⟨h.cl,cc,by show val m.1≤val co;grind,by show f (val r)=some (val co);rw [md _ ar (by grind),vc2],fun z=>by grind,fun t t1 t2=>?_⟩,⟨cc,h.ch,by show val co≤val m.2;grind,h.at_,fun z=>by grind,fun t t1 t2=>?_⟩⟩
 ·rw [md t t1 (by grind)]
  show _=some (val m.1+(val co-val m.1)*_)
  congr 1
  have:val r-a≠0:=by grind
  grind
 ·rw [md t (by grind) t2]
  show _=some (val co+(val m.2-val co)*_)
  congr 1
  have:e-val r≠0:=by grind
  grind
theorem on {A B:List Pc} {a e:Rat} {m y:Two} {r co:Nat × Nat} (hA:SegOk A a e m) (hB:SegOk B a e y) (ae:a<e) (h0:val m.1<val y.1) (h1:val y.2<val m.2) (hr:val r=crM a e m y) (cc:Cop co) (vc:val co=val m.1+(val m.2-val m.1)*((val r-a)/(e-a))) :
  a<val r∧val r<e∧SegF (les A B) a (val r) (m.1,co)∧SegF (les A B) (val r) e (co,y.2):=by
 have c:=fun t=>iw (t:=t) ae h0 h1 hr
 obtain ⟨r1,r2⟩:=(c 0).1
 have same:val m.1+(val m.2-val m.1)*((val r-a)/(e-a))=val y.1+(val y.2-val y.1)*((val r-a)/(e-a)):=by
  have a1:=(c (val r)).2.1 Rat.le_refl
  have a2:=(c (val r)).2.2 Rat.le_refl
  grind
 have sA:=(wz hA.f r1 r2 cc vc).1
 have sB:=(wz hB.f r1 r2 cc (by rw [vc,same])).2
 refine ⟨r1,r2,sA.of (Rat.le_of_lt r1) fun t ht te=>?_,sB.of (Rat.le_of_lt r2) fun t ht te=>?_⟩
 ·have e1:=hA.mid t (by grind) (by grind)
  have e2:=hB.mid t (by grind) (by grind)
  rw [e1]
  exact qO e1 fun z hz=>by rw [e2] at hz;cases hz;exact (c t).2.1 te
 ·have e1:=hA.mid t (by grind) te
  have e2:=hB.mid t (by grind) te
  rw [e2]
  exact vS e2 fun z hz=>by rw [e1] at hz;cases hz;exact (c t).2.2 (by grind)
theorem SegF.comm {A B:List Pc} {a e:Rat} {c:Two} (h:SegF (les A B) a e c):SegF (les B A) a e c:=by
 have:les B A=les A B:=funext fun t=>jG
 rw [this];exact h
theorem jd {as st Q} (h:ba as st Q):ay Γ b7 (frame 7 as) st (ag st Q):=by
 obtain ⟨k,z,w,A,B,a,e,mi,yo,rfl,⟨k1,k2,k3⟩,⟨ca,ce,za,ze⟩,ae,hA,hB,nn,hw,kk⟩:=h
 have one:∀(c:Two) (v:List Nat),SegF (les A B) (val a) (val e) c→Q (.ref st.length) (st++[Cell.lst [.tup [fr e,fr c.1,fr c.2,ldV v]]]):=fun c v hs =>
  kk [(⟨e,c.1,c.2⟩,v)] _ _ aA (.inl ⟨_,_,rfl,rfl,hs⟩) (by simp)
 unfold b7
 walk_at "WP"
 cases mi with
 | none =>
  cases yo with
  | none=>exact absurd rfl (nn rfl)
  | some y =>
   obtain ⟨sB,_,_⟩:=hB
   simp only [cV]
   walk_at "WP"
   exact .inl (one y [1] (sB.lesR ae fun t x z ht te hx=>by rw [hA t ht] at hx;cases hx))
 | some m =>
  obtain ⟨sA,z1,z2⟩:=hA
  cases yo with
  | none =>
   simp only [cV]
   walk_at "WP"
   exact .inl (one m [0] (sA.lesL ae fun t x z ht te hx hz=>by rw [hB t ht] at hz;cases hz))
  | some y =>
   obtain ⟨sB,z3,z4⟩:=hB
   simp only [cV]
   walk_at "WP"
   refine ⟨m.1,y.1,rfl,sA.cl,sB.cl,z1.mono (by omega),z3.mono (by omega),?_⟩
   refine ⟨m.2,y.2,rfl,sA.ch,sB.ch,z2.mono (by omega),z4.mono (by omega),?_⟩
   refine ⟨_,_,rfl,Ce,?_⟩
   generalize hu:((ldr (val m.1) (val y.1)).filter fun u=>(ldr (val m.2) (val y.2)).contains u)=u
   have mem:∀x,x∈u↔x∈ldr (val m.1) (val y.1)∧x∈ldr (val m.2) (val y.2):=fun x=>by rw [←hu,List.mem_filter];simp
   refine ij (n:=4) (by decide) E1 rfl ?_
   rw [lN]
   cases u with
   | nil =>
    rw [if_pos (by rfl)]
    have n0:¬(val m.1≤val y.1∧val m.2≤val y.2):=fun h=>by have:=(mem 0).mpr ⟨ldr_l.mpr h.1,ldr_l.mpr h.2⟩;cases this
    have n1:¬(val y.1≤val m.1∧val y.2≤val m.2):=fun h=>by have:=(mem 1).mpr ⟨ldr_r.mpr h.1,ldr_r.mpr h.2⟩;cases this
    have hc:Crs m y:=by unfold Crs;grind
    have lt:val a<val e:=Classical.byContradiction fun q=>by
     have eq:val a=val e:=by grind
     have e1:=sA.zero eq
     have e2:=sB.zero eq
     unfold Crs at hc
     rw [e1,e2] at hc
     grind
    refine ⟨k,z,w,a,e,m,y,rfl,⟨k1,k2,k3⟩,⟨ca,ce,za,ze⟩,⟨sA.cl,sA.ch,sB.cl,sB.ch⟩,⟨z1,z2,z3,z4⟩,lt,hc,hw m y rfl rfl lt hc,fun r co cr zr vr cc vc=>.inl ?_⟩
    rcases hc with ⟨h0,h1⟩|⟨h0,h1⟩
    ·simp only [if_pos h0]
     obtain ⟨r1,r2,s1,s2⟩:=on sA sB lt h0 h1 vr cc vc
     exact kk _ _ _ aA (.inr ⟨_,_,_,_,rfl,rfl,r1,r2,cr,zr,s1,s2⟩) (by simp)
    ·have h0':¬val m.1<val y.1:=by grind
     simp only [if_neg h0']
     have vr':val r=crM (val a) (val e) y m:=by
      rw [vr]
      unfold crM
      have n1:val m.1-val y.1+(val y.2-val m.2)≠0:=by grind
      have n2:val y.1-val m.1+(val m.2-val y.2)≠0:=by grind
      congr 2
      grind
     have c:=(iw (t:=val r) lt h0 h1 vr').2
     have same:val co=val y.1+(val y.2-val y.1)*((val r-val a)/(val e-val a)):=by
      have a1:=c.1 Rat.le_refl
      have a2:=c.2 Rat.le_refl
      grind
     obtain ⟨r1,r2,s1,s2⟩:=on sB sA lt h0 h1 vr' cc same
     exact kk _ _ _ aA (.inr ⟨_,_,_,_,rfl,rfl,r1,r2,cr,zr,s1.comm,s2.comm⟩) (by simp)
   | cons u w' =>
    rw [if_neg (by simp)]
    obtain ⟨u1,u2⟩:=(mem u).mp (by simp)
    walk_at "WP"
    have ul:=Fj u u1
    refine di (fun q=>.inl (one m _ ?_)) fun q=>.inl (one y _ ?_)
    ·have:u=0:=by simpa using q
     subst this
     exact sA.lesL ae (AU sA sB (ldr_l.mp u1) (ldr_l.mp u2))
    ·have:u=1:=by
      have:u≠0:=fun z=>q (by rw [z];rfl)
      omega
     subst this
     exact sB.lesR ae fun t x z ht te hx hz=>AU sB sA (ldr_r.mp u1) (ldr_r.mp u2) t z x ht te hz hx
theorem vR {d k e v n:Nat} {L:List Pc} (h:Stl d k e v n L):Ends e (L.map Pc.e):=⟨h.rt.pw,fun t ht=>by
 obtain ⟨p,hp,rfl⟩:=List.mem_map.mp ht
 obtain ⟨i,hi⟩:=List.getElem?_of_mem hp
 exact ⟨(h.rt.at_ hi).1.e,h.en p hp⟩⟩
theorem zN {d D k m v n z:Nat} {S:List Pc} {a e:Nat × Nat} {c:Option Two} (h:Stl d k m v n S) (d0:0<d) (dD:d<2 ^ D) (ca:Cop a) (ce:Cop e) (za:Sz m a) (ze:Sz m e) (ae:val a≤val e) (hc:kZ S z (val a) (val e) c):kZ S (D+k+m+v) (val a) (val e) c:=by
 cases c with
 | none=>exact hc
 | some c =>
  obtain ⟨s,_,_⟩:=hc
  obtain ⟨z1,z2⟩:=yD s.f ca ce za ze ae h.lin d0 dD (h.hi _ _ (aI ce.pos) s.at_)
  exact ⟨s,z1,z2⟩
theorem xM {d D k m v n:Nat} {A B:List Pc} {a e r:Nat × Nat} {c c':Two} (hA:Stl d k m v n A) (hB:Stl d k m v n B) (d0:0<d) (dD:d<2 ^ D) (ca:Cop a) (ce:Cop e) (ae:val a<val e) (s:SegOk A (val a) (val e) c) (s':SegOk B (val a) (val e) c') (hc:Crs c c') (cr:Cop r) (vr:val r=crM (val a) (val e) c c'):Sz (D+2*k+v) r:=by
 obtain ⟨P,Q,R,b,h1,h2⟩:=qq s.f (aI ca.pos) (Rat.le_of_lt ae) hA.lin
 obtain ⟨P',Q',R',b',h3,h4⟩:=qq s'.f (aI ca.pos) (Rat.le_of_lt ae) hB.lin
 refine zF cr d0 dD b b' ae h1 h2 h3 h4 hc vr ?_
 have e1:=eS hA.rt (aI ce.pos) s.at_
 have e2:=hA.hi _ _ (aI ce.pos) s.at_
 have:val r<val e:=by
  rcases hc with ⟨h0,h1⟩|⟨h0,h1⟩
  ·exact (iw (t:=0) ae h0 h1 vr).1.2
  ·refine (iw (t:=0) (r:=val r) ae h0 h1 ?_).1.2
   rw [vr]
   unfold crM
   have n1:val c.1-val c'.1+(val c'.2-val c.2)≠0:=by grind
   have n2:val c'.1-val c.1+(val c.2-val c'.2)≠0:=by grind
   congr 2
   grind
 grind
structure ZL (A B:List Pc) (T:List (Nat × Nat)) (w i:Nat) (Z:List Pw):Prop where
 zr:i=0→Z=[]
 hd:i≠0→∃c X,Z.map Prod.fst=⟨(0,1),c,c⟩::X∧Cop c∧les A B 0=some (val c)∧Ch 0 X∧fM 0 X=val (bgT T i)∧∀t,0<t→t≤val (bgT T i)→cm 0 X t=les A B t
 sz:∀q∈Z,Sz w q.1.e
 ln:Z.length≤2*i
theorem ZL.put {A B X R:List Pc} {b e:Rat} (hX:Ch 0 X) (lX:fM 0 X=b) (cX:∀t,0<t→t≤b→cm 0 X t=les A B t) (hR:Ch b R) (lR:fM b R=e) (be:b<e) (he:∃y,les A B e=some y) (cR:∀t,b<t→t≤e→cm b R t=les A B t):Ch 0 (X++R)∧fM 0 (X++R)=e∧∀t,0<t→t≤e→cm 0 (X++R) t=les A B t:=by
 refine ⟨Ch.app hR hX (by rw [lX];exact Rat.le_refl),?_,fun t t0 te=>?_⟩
 ·rw [←lR,←lX]
  unfold fM
  rcases cU R with rfl|⟨Y,c,rfl⟩
  ·rw [List.append_nil];rfl
  ·rw [←List.append_assoc,List.getLast?_concat,List.getLast?_concat];rfl
 ·by_cases w:t≤b
  ·obtain ⟨y,hy⟩:=he
   obtain ⟨z,hz⟩:=Di te hy
   rw [hz]
   exact fj (by rw [cX t t0 w];exact hz)
  ·have n:cm 0 X t=none:=aO fun q hq=>by have:=(Ch.lst hX).2 q hq;rw [lX] at this;grind
   rw [dR n,lX]
   exact cR t (by grind) te
theorem uO {f:Rat→Option Rat} {b:Rat} {q:Pc} (h:SegF f b q.E (q.l,q.h)) (be:b<q.E) (ce:Cop q.e):q.Ok∧q.L≤q.H∧∀r t,b<t→t≤q.E→cm b (q::r) t=f t:=by
 refine ⟨⟨ce,h.cl,h.ch⟩,h.le,fun r t t1 t2=>?_⟩
 rw [h.mid t t1 t2,cm,if_pos t2,if_neg (by grind)]
theorem ZL.step {A B:List Pc} {T:List (Nat × Nat)} {w i j:Nat} {Z R:List Pw} {t:Nat × Nat} (h:ZL A B T w i Z) (hE:Ends j T) (t0:T[0]?=some (0,1)) (ht:T[i]?=some t) (hR:HQ A B (val (bgT T i)) t w R) (ct:Cop t) (zt:Sz w t) (lR:R.length≤2):ZL A B T w (i+1) (Z++R):=by
 have bt:bgT T (i+1)=t:=lu ht
 have sz:∀q∈Z++R,Sz w q.1.e:=fun q hq=>by
  rcases List.mem_append.mp hq with hq|hq
  ·exact h.sz q hq
  ·rcases hR with ⟨q0,v,rfl,qe,_⟩|⟨q1,q2,v1,v2,rfl,qe,_,_,_,z1,_⟩
   ·rw [List.mem_singleton] at hq;rw [hq];show Sz w q0.e;rw [qe];exact zt
   ·simp only [List.mem_cons,List.not_mem_nil,or_false] at hq
    rcases hq with rfl|rfl
    ·exact z1
    ·show Sz w q2.e;rw [qe];exact zt
 refine ⟨fun z=>absurd z (by omega),fun _=>?_,sz,by have:=h.ln;rw [List.length_append];omega⟩
 rw [bt]
 cases i with
 | zero =>
  rw [t0] at ht
  cases ht
  rw [h.zr rfl,List.nil_append]
  have v0:val (bgT T 0)=0:=val_nought
  rw [v0] at hR
  rcases hR with ⟨q,v,rfl,qe,s⟩|⟨q1,q2,v1,v2,rfl,qe,a1,a2,_⟩
  ·rw [val_nought] at s
   have e1:q.l=q.h:=s.zero rfl
   refine ⟨q.l,[],?_,s.cl,?_,trivial,by rw [val_nought];rfl,fun u u0 u1=>by rw [val_nought] at u1;grind⟩
   ·show [q]=_
    obtain ⟨e,l,hh⟩:=q
    cases qe
    cases e1
    rfl
   ·rw [e1];exact s.at_
  ·rw [val_nought] at a2;grind
 | succ i =>
  obtain ⟨c,X,hX,cc,l0,chX,lX,cX⟩:=h.hd (by omega)
  have lt:val (bgT T (i+1))<val t:=by
   have il:=(List.getElem?_eq_some_iff.mp ht).1
   have hi:=List.getElem?_eq_getElem (show i<T.length by omega)
   rw [lu hi]
   exact hE.lt hi ht (by omega)
  refine ⟨c,X++R.map Prod.fst,by rw [List.map_append,hX];rfl,cc,l0,?_⟩
  rcases hR with ⟨q,v,rfl,qe,s⟩|⟨q1,q2,v1,v2,rfl,qe,a1,a2,c1,z1,s1,s2⟩
  ·have qE:q.E=val t:=by show val q.e=_;rw [qe]
   have he:∃y,les A B (val t)=some y:=⟨_,s.at_⟩
   rw [←qE] at s lt he ⊢
   obtain ⟨ok,le,hc⟩:=uO s lt (by rw [qe];exact ct)
   exact ZL.put (R:=[q]) chX lX cX ⟨ok,lt,le,trivial⟩ rfl lt he (hc [])
  ·have qE:q2.E=val t:=by show val q2.e=_;rw [qe]
   have he:∃y,les A B (val t)=some y:=⟨_,s2.at_⟩
   rw [←qE] at s2 lt he a2 ⊢
   obtain ⟨ok1,le1,hc1⟩:=uO s1 a1 c1
   obtain ⟨ok2,le2,hc2⟩:=uO s2 a2 (by rw [qe];exact ct)
   refine ZL.put (R:=[q1,q2]) chX lX cX ⟨ok1,a1,le1,ok2,a2,le2,trivial⟩ rfl lt he fun u u1 u2=>?_
   by_cases w:u≤q1.E
   ·exact hc1 [q2] u u1 w
   ·rw [du (by grind)];exact hc2 [] u (by grind) u2
theorem ZL.all {A B:List Pc} {T:List (Nat × Nat)} {w j:Nat} {Z:List Pw} (h:ZL A B T w T.length Z) (hE:Ends j T) (t0:T[0]?=some (0,1)) (hA:RtF A) (hB:RtF B) (mem:∀t,t∈T↔t=(0,1)∨∃p∈A++B,p.e=t):RtF (Z.map Prod.fst)∧∀t,0≤t→cm 0 (Z.map Prod.fst) t=les A B t:=by
 have tl:T.length≠0:=fun w=>by rw [List.length_eq_zero_iff.mp w] at t0;cases t0
 obtain ⟨c,X,hX,cc,l0,chX,lX,cX⟩:=h.hd tl
 have hl:T.length-1<T.length:=by omega
 have hT:=List.getElem?_eq_getElem hl
 have el:bgT T T.length=T[T.length-1]:=by
  have:=lu hT
  rwa [Nat.sub_add_cancel (by omega)] at this
 have top:∀p∈A++B,p.E≤val (bgT T T.length):=fun p hp=>by
  obtain ⟨i,hi⟩:=List.getElem?_of_mem ((mem p.e).mpr (.inr ⟨p,hp,rfl⟩))
  have il:=(List.getElem?_eq_some_iff.mp hi).1
  rw [el]
  by_cases w:i=T.length-1
  ·subst w;rw [hT] at hi;rw [Option.some.inj hi];exact Rat.le_refl
  ·exact Rat.le_of_lt (hE.lt hi hT (by omega))
 have all:∀t,0≤t→cm 0 (Z.map Prod.fst) t=les A B t:=fun t tp=>by
  rw [hX]
  have v0:Pc.E ⟨(0,1),c,c⟩=0:=val_nought
  by_cases z:t=0
  ·subst z
   rw [cm,v0,if_pos Rat.le_refl,if_pos rfl,l0]
  ·rw [du (by rw [v0];grind),v0]
   by_cases w:t≤val (bgT T T.length)
   ·exact cX t (by grind) w
   ·rw [aO fun q hq=>by have:=(Ch.lst chX).2 q hq;rw [lX] at this;grind]
    exact (les_no.mpr ⟨aO fun q hq=>by have:=top q (by simp [hq]);grind,aO fun q hq=>by have:=top q (by simp [hq]);grind⟩).symm
 refine ⟨?_,all⟩
 have v0:Pc.E ⟨(0,1),c,c⟩=0:=val_nought
 refine BT (by rw [hX];exact ⟨⟨ib,cc,cc⟩,Rat.le_refl,by rw [v0];exact chX⟩) (fun p r e _=>by rw [hX] at e;cases e;rfl) (fun t y tp hy=>?_) fun t u y z tp tu hy hz=>?_
 ·rw [all t tp] at hy;exact En hA hB tp hy
 ·rw [all t tp] at hy;rw [all u (by grind)] at hz;exact E6 hA hB tp tu hy hz
noncomputable def CpI (S0:AH) (A B:List Pc) (T:List (Nat × Nat)) (w nT nZ:Nat) (i:Nat) (ρ:Fr) (s:AH):Prop:=∃(Z:List Pw) (g:AH) (a b c:Option PV),s=(S0.set nZ (.lst (Z.map q2V)))++g∧ZL A B T w i Z∧ρ=[some (bL A),some (bL B),some (.ref nT),some (.ref nZ),some (fr (bgT T i)),a,b,c]
theorem ua {as st Q} (h:dN as st Q):ay Γ fq (frame 8 as) st (ag st Q):=by
 obtain ⟨d,D,κ,e,e',v,n,A,B,rfl,ls,hA,hB,k⟩:=h
 obtain ⟨d0,dD,l1,l2,l3',l4,l5,l6,l7⟩:=ls
 have la:=hA.ln
 have lb:=hB.ln
 have EA:=vR hA
 have EB:=vR hB
 unfold fq
 rw [lF]
 show wpS Γ (.ifS _ _ _) [some (bL A),some (bL B),none,none,none,none,none,none] st _
 refine ifS (fun s=>s=st∧A=[]∧B=[]) (fun s=>s=st∧(A≠[]∨B≠[])) ?_ ?_ ?_
 ·walk_at "WP"
  refine ij (n:=4) (by decide) eX rfl ?_
  rw [lN]
  cases A with
  | nil =>
   rw [if_pos (by rfl)]
   refine ij (n:=4) (by decide) eX rfl ?_
   rw [lN]
   cases B with
   | nil=>rw [if_pos (by rfl)];simp
   | cons b B=>rw [if_neg (by simp)];simp
  | cons a A=>rw [if_neg (by simp)];simp
 ·rintro s ⟨rfl,rfl,rfl⟩
  walk_at "WP"
  exact .inl (k [] _ _ aA trivial (fun t _=>rfl) (fun q hq=>(nomatch hq)) (by simp))
 rintro s ⟨rfl,hne⟩
 show ay Γ (.cons _ _) _ _ _
 have ef:∀L:List Pc,(L.map pcV).map (fun x=>match x with | .tup [a,_,_]=>a|v=>v)=(L.map Pc.e).map fr:=fun L=>by rw [List.map_map,List.map_map];rfl
 have el:∀(L:List Pc) (x:PV),x∈L.map pcV→∃p,p∈L∧x=pcV p:=fun L x hx=>by obtain ⟨p,hp,rfl⟩:=List.mem_map.mp hx;exact ⟨p,hp,rfl⟩
 walk_at "WP"
 refine ⟨by simp;omega,FW.comp_map Γm (fun x=>match x with | .tup [a,_,_]=>a|v=>v) trivial (fun x hx=>by obtain ⟨p,hp,rfl⟩:=el A x hx;walk_at "WP") ?_⟩
 refine ⟨by simp;omega,FW.comp_map Γm (fun x=>match x with | .tup [a,_,_]=>a|v=>v) trivial (fun x hx=>by obtain ⟨p,hp,rfl⟩:=el B x hx;walk_at "WP") ?_⟩
 rw [ef,ef]
 refine ⟨e,_,_,_,_,rfl,by omega,au aA,aA,EA,EB,by simp;omega,fun U g1 r1 h1 EU mU lU=>?_⟩
 have z01:Sz e (0,1):=⟨Nat.pow_pos (by decide),Nat.one_lt_two_pow (by omega),by decide⟩
 have E0:Ends e [(0,1)]:=⟨List.pairwise_singleton ..,fun t ht=>by rw [List.mem_singleton] at ht;rw [ht];exact ⟨ib,z01⟩⟩
 refine ⟨e,_,r1,[(0,1)],U,rfl,by omega,?_,h1,E0,EU,by simp at lU ⊢;omega,fun T g2 nT h2 ET mT lT=>?_⟩
 ·simp only [List.append_assoc]
  rw [gT]
  rfl
 have mem:∀t,t∈T↔t=(0,1)∨∃p∈A++B,p.e=t:=fun t=>by
  rw [mT,mU,List.mem_singleton]
  simp only [List.mem_map,List.mem_append,or_and_right,exists_or]
 have lT2:T.length≤2*n+1:=by simp at lU lT;omega
 have zA:=hA.sz l1 d0 dD
 have zB:=hB.sz l1 d0 dD
 have t0:T[0]?=some (0,1):=by
  obtain ⟨i,hi⟩:=List.getElem?_of_mem ((mem (0,1)).mpr (.inl rfl))
  cases i with
  | zero=>exact hi
  | succ i =>
   have il:=(List.getElem?_eq_some_iff.mp hi).1
   have h0:=List.getElem?_eq_getElem (show 0<T.length by omega)
   have:=ET.lt h0 hi (by omega)
   rw [val_nought] at this
   have:=aI (ET.ok _ (List.getElem_mem (show 0<T.length by omega))).1.pos
   grind
 have tl:T≠[]:=fun e=>by rw [e] at t0;cases t0
 obtain ⟨G0,hG0⟩:∃G0,s++[Cell.lst [aY]]++[Cell.lst ((A.map Pc.e).map fr)]++[Cell.lst ((B.map Pc.e).map fr)]++g1++g2=s++G0:=⟨[Cell.lst [aY]]++([Cell.lst ((A.map Pc.e).map fr)]++([Cell.lst ((B.map Pc.e).map fr)]++(g1++g2))),by simp only [List.append_assoc]⟩
 rw [hG0] at h2 ⊢
 have mA:∀p∈A,p.e∈T:=fun p hp=>(mem p.e).mpr (.inr ⟨p,by simp [hp],rfl⟩)
 have mB:∀p∈B,p.e∈T:=fun p hp=>(mem p.e).mpr (.inr ⟨p,by simp [hp],rfl⟩)
 refine ⟨_,e,A,nT,T,rfl,by omega,hA.rt,zA,au h2,ET,t0,mA,by omega,by omega,fun C1 g3 r3 h3 l3 ok3=>?_⟩
 refine ⟨_,e,B,nT,T,rfl,by omega,hB.rt,zB,au (au h2),ET,t0,mB,by omega,by omega,fun C2 g4 r4 h4 l4 ok4=>?_⟩
 have hT':(s++G0++[Cell.lst []]++g3++g4)[nT]?=_:=au (au (au h2))
 have h3':(s++G0++[Cell.lst []]++g3++g4)[r3]?=_:=au h3
 have hZ':(s++G0++[Cell.lst []]++g3++g4)[(s++G0).length]?=some (.lst []):=au (au aA)
 have nTl:nT<(s++G0).length:=bp h2
 have sl:s.length≤(s++G0).length:=by simp
 obtain ⟨Gs,hGs⟩:∃Gs,s++G0++[Cell.lst []]++g3++g4=s++Gs:=⟨G0++([Cell.lst []]++(g3++g4)),by simp only [List.append_assoc]⟩
 rw [hGs] at hT' h3' hZ' h4 ⊢
 generalize (s++G0).length=nZ at hZ' nTl sl
 have r3n:r3≠nZ:=fun e=>by
  rw [e,hZ'] at h3'
  have:C1=[]:=by simpa using h3'
  rw [this] at l3
  exact tl (List.length_eq_zero_iff.mp l3.symm)
 have r4n:r4≠nZ:=fun e=>by
  rw [e,hZ'] at h4
  have:C2=[]:=by simpa using h4
  rw [this] at l4
  exact tl (List.length_eq_zero_iff.mp l4.symm)
 have zl:=bp hZ'
 have keep:∀(x:Nat) (X:Cell) (g:AH) (c:Cell),x≠nZ→(s++Gs)[x]?=some c→((s++Gs).set nZ X++g)[x]?=(s++Gs)[x]?:=fun x X g c hx hc=>by
  rw [List.getElem?_append_left (by rw [List.length_set];exact bp hc),List.getElem?_set_ne (Ne.symm hx)]
 refine ⟨_,af hT',_,af h3',_,af h4,?_⟩
 have chk:∀(X:Cell) (g:AH),d5 (s++Gs) (.ref nT) ((s++Gs).set nZ X++g)∧d5 (s++Gs) (.ref r3) ((s++Gs).set nZ X++g)∧d5 (s++Gs) (.ref r4) ((s++Gs).set nZ X++g):=fun X g=>⟨keep nT X g _ (by omega) hT',keep r3 X g _ r3n h3',keep r4 X g _ r4n h4⟩
 refine kF Γm (CpI (s++Gs) A B T e' nT nZ) ⟨[],[],none,none,none,by rw [List.append_nil];exact (yZ hZ').symm,⟨fun _=>rfl,fun h=>absurd rfl h,fun q hq=>(nomatch hq),Nat.le_refl _⟩,rfl⟩ ?_ ?_
 ·rintro i v ρ s' hi ⟨Z,g,a,b,c,rfl,I,rfl⟩
  refine ⟨chk _ _,?_⟩
  obtain ⟨x,y,z,hx,hy,hz,rfl⟩:=kM hi
  rw [List.getElem?_map] at hx hy hz
  obtain ⟨t,ht,rfl⟩:=Option.map_eq_some_iff.mp hx
  obtain ⟨c1,hc1,rfl⟩:=Option.map_eq_some_iff.mp hy
  obtain ⟨c2,hc2,rfl⟩:=Option.map_eq_some_iff.mp hz
  have il:=(List.getElem?_eq_some_iff.mp ht).1
  obtain ⟨ct,tz⟩:=ET.ok t (List.mem_of_getElem? ht)
  obtain ⟨cb,zb⟩:=Fa ET l1 (show i≤T.length by omega)
  have o1:=ok3 i c1 hc1
  have o2:=ok4 i c2 hc2
  rw [lu ht] at o1 o2
  have le:val (bgT T i)≤val t:=by
   cases i with
   | zero=>rw [t0] at ht;cases ht;exact Rat.le_refl
   | succ i =>
    have hi':=List.getElem?_eq_getElem (show i<T.length by omega)
    rw [lu hi']
    exact Rat.le_of_lt (ET.lt hi' ht (by omega))
  have nn:c1=none→c2≠none:=fun e1 e2=>by
   subst e1 e2
   have n1:cm 0 A (val t)=none:=o1 (val t) (.inr rfl)
   have n2:cm 0 B (val t)=none:=o2 (val t) (.inr rfl)
   have dom:∀(L:List Pc),RtF L→∀p∈L,val t≤p.E→cm 0 L (val t)=none→False:=fun L hL p hp hle hn=>by
    obtain ⟨y,hy⟩:=t8 (b:=0) hp
    obtain ⟨y',hy'⟩:=dr hle hy
    rw [hn] at hy';cases hy'
   rcases (mem t).mp (List.mem_of_getElem? ht) with rfl|⟨p,hp,rfl⟩
   ·rcases hne with w|w
    ·obtain ⟨p,hp⟩:=List.exists_mem_of_ne_nil _ w
     obtain ⟨i,hi⟩:=List.getElem?_of_mem hp
     exact dom A hA.rt p hp (by rw [val_nought];exact aI (hA.rt.at_ hi).1.e.pos) n1
    ·obtain ⟨p,hp⟩:=List.exists_mem_of_ne_nil _ w
     obtain ⟨i,hi⟩:=List.getElem?_of_mem hp
     exact dom B hB.rt p hp (by rw [val_nought];exact aI (hB.rt.at_ hi).1.e.pos) n2
   ·rcases List.mem_append.mp hp with hp|hp
    ·exact dom A hA.rt p hp Rat.le_refl n1
    ·exact dom B hB.rt p hp Rat.le_refl n2
  have gz:∀(X:Cell) (g:AH),((s++Gs).set nZ X++g)[nZ]?=some X:=fun X g=>by rw [List.getElem?_append_left (by rw [List.length_set];exact zl),List.getElem?_set_self zl]
  have lZ:=I.ln
  walk_at "WP"
  refine ⟨e,D+κ+e+v,e',A,B,bgT T i,t,c1,c2,rfl,by omega,⟨cb,ct,zb,tz⟩,le,zN hA d0 dD cb ct zb tz le o1,zN hB d0 dD cb ct zb tz le o2,nn,fun m y hmm hyy lt hc r cr vr=>?_,fun R g' n' hn' bR lR=>?_⟩
  ·subst hmm hyy
   exact (xM hA hB d0 dD cb ct lt o1.1 o2.1 hc cr vr).mono l3'
  walk_at "WP"
  rw [List.append_assoc] at hn'
  refine ⟨_,gz _ _,_,hn',by simp;omega,Z++R,g++g',_,_,_,?_,I.step ET t0 ht bR ct (tz.mono l2) lR,by rw [lu ht]⟩
  rw [List.set_append_left _ _ (by rw [List.length_set];exact zl),List.set_set,List.map_append]
 ·rintro ρ s' ⟨Z,g,a,b,c,rfl,I,rfl⟩
  refine ⟨chk _ _,?_⟩
  have lz:(d6 (T.map fr) (C1.map cV) (C2.map cV)).length=T.length:=by rw [j8];simp;omega
  rw [lz] at I
  have lZ:=I.ln
  walk_at "WP"
  have e:(s++Gs).set nZ (.lst (Z.map q2V))=s++Gs.set (nZ-s.length) (.lst (Z.map q2V)):=List.set_append_right _ _ sl
  rw [e,List.append_assoc]
  obtain ⟨a1,a2⟩:=I.all ET t0 hA.rt hB.rt mem
  refine .inl (k Z _ _ ?_ a1 a2 I.sz (by omega))
  rw [←List.append_assoc,←e,List.getElem?_append_left (by rw [List.length_set];exact zl),List.getElem?_set_self zl]
theorem zW {P:Nat × Nat→Prop}:∀ {r:List Pc} {b:Nat × Nat} {a:Pc},P a.e→(∀p∈r,P p.e)→∀p∈aJ b a r,P p.e
 | [],b,a,ha,_,p,hp=>by rw [aJ,List.mem_singleton] at hp;rw [hp];exact ha
 | q::r,b,a,ha,hr,p,hp=>by
  rw [aJ] at hp
  by_cases g:gB b a q=true
  ·rw [if_pos g] at hp
   exact zW (a:=a.mg q) (hr q (by simp)) (fun x hx=>hr x (by simp [hx])) p hp
  ·rw [if_neg g] at hp
   rcases List.mem_cons.mp hp with rfl|hp
   ·exact ha
   ·exact zW (hr q (by simp)) (fun x hx=>hr x (by simp [hx])) p hp
theorem q9 {P:Nat × Nat→Prop} {L:List Pc} (h:∀p∈L,P p.e):∀p∈bc L,P p.e:=by
 cases L with
 | nil=>exact fun p hp=>(nomatch hp)
 | cons a r=>exact zW (h a (by simp)) fun x hx=>h x (by simp [hx])
theorem Bu {as st Q} (h:fB as st Q):ay Γ g_ (frame 2 as) st (ag st Q):=by
 obtain ⟨d,D,κ,e,e',v,n,A,B,rfl,ls,hA,hB,k⟩:=h
 unfold g_
 walk_at "WP"
 refine ⟨d,D,κ,e,e',v,n,A,B,rfl,ls,hA,hB,fun Z g r hr hR hc hz lZ=>?_⟩
 obtain ⟨d0,dD,l1,l2,l3',l4,l5,l6,l7⟩:=ls
 have lin:Lin d κ (cm 0 (Z.map Prod.fst)):=(DA d0 hA.rt hB.rt hA.lin hB.lin).congr hc
 have hi:∀t y,0≤t→cm 0 (Z.map Prod.fst) t=some y→y≤2 ^ v:=fun t y t0 hy=>F3 hA.hi hB.hi t y t0 (by rw [←hc t t0];exact hy)
 have en:∀p∈Z.map Prod.fst,Sz e' p.e:=fun p hp=>by obtain ⟨q,hq,rfl⟩:=List.mem_map.mp hp;exact hz q hq
 have zz:=yf hR lin en (by omega) hi d0 dD
 refine ⟨_,af hr,by simp;omega,jx Γm (fun j acc s=>s=st++g∧acc=((Z.map Prod.fst).take j).map pcV) ⟨rfl,by simp⟩ ?_ ?_⟩
 ·rintro j x acc s hx ⟨rfl,rfl⟩
  refine ⟨rfl,?_⟩
  rw [List.getElem?_map] at hx
  obtain ⟨p,hp,rfl⟩:=Option.map_eq_some_iff.mp hx
  have et:(Z.map Prod.fst).take (j+1)=(Z.map Prod.fst).take j++[p.1]:=by rw [List.take_succ,List.getElem?_map,hp];rfl
  rw [et,List.map_append]
  walk_at "WP"
 rintro acc s ⟨rfl,rfl⟩
 refine ⟨rfl,?_⟩
 have ea:((Z.map Prod.fst).take (Z.map q2V).length).map pcV=(Z.map Prod.fst).map pcV:=by rw [List.take_of_length_le (by simp)]
 rw [ea]
 refine ⟨_,af aA,?_⟩
 rw [List.append_assoc]
 refine .app qg ⟨_,rfl,zz.mono (by omega),hR.lok,by simp;omega,.inl (k _ ⟨gK hR,jz hR,q9 en,lin.congr fun t t0=>fE hR t0,fun t y t0 hy=>hi t y t0 (by rw [←fE hR t0];exact hy),Nat.le_trans iD (by simp;omega)⟩ fun t t0=>by rw [fE hR t0,hc t t0])⟩
theorem yQ {d q l p b t:Rat} (hd:0<d) (hq:0<q):d*(l/d+p*(t-b/d)/q)*q=l*q+p*(d*t-b):=by
 have i1:d*(l/d)=l:=by grind
 have i2:d*(b/d)=b:=by grind
 have i3:p*(t-b/d)/q*q=p*(t-b/d):=by grind
 have:d*(l/d+p*(t-b/d)/q)*q=d*(l/d)*q+d*(p*(t-b/d)/q*q):=by grind
 rw [this,i1,i3]
 grind
theorem v7 {d m b:Nat} {u:Un3} {r:List Pc} (d0:0<d) (hb:b<u.1) (hl:u.2.1≤u.2.2) (h1:u.1≤2 ^ 37) (h2:u.2.2≤2 ^ 37):∃(P Q:Nat) (R:Int),(0<Q∧Q<2 ^ 38∧P<2 ^ 38)∧∀t z,t≤(u.1:Rat)/d→cm ((b:Rat)/d) (av d u::r) t=some z→((d*m:Nat):Rat)*Q*z=P*(d*m:Nat)*t+R:=by
 obtain ⟨q,hq⟩:∃q,u.1=b+q:=⟨u.1-b,by omega⟩
 obtain ⟨p,hp⟩:∃p,u.2.2=u.2.1+p:=⟨u.2.2-u.2.1,by omega⟩
 have q0:0<q:=by omega
 refine ⟨p,q,(m:Int)*(q*u.2.1)-m*(p*b),⟨q0,by omega,by omega⟩,fun t z ht hz=>?_⟩
 have pd:=aF d0
 have pq:=aF q0
 have eE:Pc.E (av d u)=(u.1:Rat)/d:=aw d0
 have eL:Pc.L (av d u)=(u.2.1:Rat)/d:=aw d0
 have eH:Pc.H (av d u)=(u.2.2:Rat)/d:=aw d0
 have c1:(u.1:Rat)=b+q:=by rw [hq,Rat.natCast_add]
 have c2:(u.2.2:Rat)=u.2.1+p:=by rw [hp,Rat.natCast_add]
 have w:(u.1:Rat)/d-b/d=q/d:=by rw [c1];grind
 have ne:¬(b:Rat)/d=u.1/d:=by
  intro e
  have:(q:Rat)/d=0:=by grind
  have:(q:Rat)=0:=by grind
  grind
 rw [cm,eE,if_pos ht,if_neg ne,eL,eH,w,c2] at hz
 have hz:=Option.some.inj hz
 have hz2:z=u.2.1/d+p*(t-b/d)/q:=by rw [←hz];grind
 simp only [Rat.natCast_mul,Rat.intCast_sub,Rat.intCast_mul,Rat.intCast_natCast]
 have k1:(d:Rat)*z*q=u.2.1*q+p*(d*t-b):=by rw [hz2];exact yQ pd pq
 have k2:(m:Rat)*(d*z*q)=m*(u.2.1*q+p*(d*t-b)):=by rw [k1]
 clear hz hz2 k1 w ne c1 c2 eE eL eH ht
 grind
theorem BD {d m:Nat} (d0:0<d):∀ {U:List Un3} {b hh:Nat},RU b hh U→BdU (2 ^ 37) U→∀e y,(b:Rat)/d<e→cm ((b:Rat)/d) (U.map (av d)) e=some y→∃(P Q:Nat) (R:Int) (x:Rat),(0<Q∧Q<2 ^ 38∧P<2 ^ 38)∧(b:Rat)/d≤x∧x<e∧∀t z,x<t→t≤e→cm ((b:Rat)/d) (U.map (av d)) t=some z→((d*m:Nat):Rat)*Q*z=P*(d*m:Nat)*t+R
 | [],b,hh,_,_,e,y,_,h=>by cases h
 | u::r,b,hh,⟨h1,h2,h3,h4,h5⟩,hB,e,y,be,h=>by
  obtain ⟨b1,b2,b3⟩:=hB u (by simp)
  have eE:Pc.E (av d u)=(u.1:Rat)/d:=aw d0
  by_cases w:e≤(u.1:Rat)/d
  ·obtain ⟨P,Q,R,bd,hl⟩:=v7 (m:=m) (r:=r.map (av d)) d0 h1 h3 b1 b3
   exact ⟨P,Q,R,_,bd,Rat.le_refl,be,fun t z _ te hz=>hl t z (by grind) hz⟩
  ·have nx:∀t,(u.1:Rat)/d<t→cm ((b:Rat)/d) ((u::r).map (av d)) t=cm ((u.1:Rat)/d) (r.map (av d)) t:=fun t ht=>by rw [List.map_cons,du (by rw [eE];exact ht),eE]
   rw [nx e (by grind)] at h
   obtain ⟨P,Q,R,x,bd,x1,x2,hx⟩:=BD d0 (m:=m) h5 (fun v hv=>hB v (by simp [hv])) e y (by grind) h
   have le:(b:Rat)/d≤u.1/d:=by
    have:(b:Rat)≤u.1:=Rat.natCast_le_natCast.mpr (by omega)
    have pd:=aF d0
    have k1:(b:Rat)/d*d=b:=by grind
    have k2:(u.1:Rat)/d*d=u.1:=by grind
    exact Classical.byContradiction fun z=>by
     have:=Rat.mul_pos (a:=(b:Rat)/d-u.1/d) (b:=d) (by grind) pd
     grind
   exact ⟨P,Q,R,x,bd,by grind,x2,fun t z xt te hz=>hx t z xt te (by rw [←nx t (by grind)];exact hz)⟩
theorem Cf {d m:Nat} {U:List Un3} (d0:0<d) (h:RUF U) (hB:BdU (2 ^ 37) U):Lin (d*m) 38 (cm 0 (U.map (av d))):=by
 cases U with
 | nil=>intro e y _ h;cases h
 | cons u r =>
  obtain ⟨h1,h2,h3,h4⟩:=h
  obtain ⟨b1,b2,b3⟩:=hB u (by simp)
  have eE:Pc.E (av d u)=(u.1:Rat)/d:=aw d0
  have eL:Pc.L (av d u)=(u.2.1:Rat)/d:=aw d0
  have pd:=aF d0
  have z0:((0:Nat):Rat)/d=0:=by grind
  intro e y e0 he
  by_cases w:e≤(u.1:Rat)/d
  ·by_cases z:u.1=0
   ·refine ⟨0,1,(m:Int)*u.2.1,-1,⟨by decide,by decide,by decide⟩,by grind,fun t x t0 _ te hx=>?_⟩
    have eE0:Pc.E (av d u)=0:=by rw [eE,z,z0]
    have:t=0:=by rw [z,z0] at w;grind
    subst this
    rw [List.map_cons,cm,eE0,if_pos Rat.le_refl,if_pos rfl,eL] at hx
    have hx:=Option.some.inj hx
    rw [←hx]
    simp only [Rat.natCast_mul,Rat.intCast_mul,Rat.intCast_natCast]
    grind
   ·obtain ⟨P,Q,R,bd,hl⟩:=v7 (m:=m) (b:=0) (r:=r.map (av d)) d0 (by omega) h1 b1 b3
    refine ⟨P,Q,R,-1,bd,by grind,fun t x t0 _ te hx=>hl t x (by grind) ?_⟩
    rw [z0];exact hx
  ·have nx:∀t,(u.1:Rat)/d<t→cm 0 ((u::r).map (av d)) t=cm ((u.1:Rat)/d) (r.map (av d)) t:=fun t ht=>by rw [List.map_cons,du (by rw [eE];exact ht),eE]
   rw [nx e (by grind)] at he
   obtain ⟨P,Q,R,x,bd,x1,x2,hx⟩:=BD d0 (m:=m) h4 (fun v hv=>hB v (by simp [hv])) e y (by grind) he
   exact ⟨P,Q,R,x,bd,x2,fun t z _ xt te hz=>hx t z xt te (by rw [←nx t (by grind)];exact hz)⟩
theorem E3 {d:Nat} {U:List Un3} (d0:0<d) (h:RUF U) (hB:BdU (2 ^ 37) U):∀t y,0≤t→cm 0 (U.map (av d)) t=some y→y≤2 ^ 37:=fun t y t0 hy=>by
 have hR:=h.rt (d:=d) d0
 rcases cU U with rfl|⟨Y,u,rfl⟩
 ·cases hy
 ·rw [List.map_append,List.map_singleton] at hR hy
  have le:t≤Pc.E (av d u):=Classical.byContradiction fun w=>by
   rw [oq hR (by grind)] at hy;cases hy
  have this1:=i7 hR t0 le hy (FS hR)
  have eH:Pc.H (av d u)=(u.2.2:Rat)/d:=aw d0
  obtain ⟨b1,b2,b3⟩:=hB u (by simp)
  have c:(u.2.2:Rat)≤((2 ^ 37:Nat):Rat):=Rat.natCast_le_natCast.mpr b3
  have c2:((2 ^ 37:Nat):Rat)=2 ^ 37:=by rw [Rat.natCast_pow];rfl
  generalize (2:Rat) ^ 37=V at c2 ⊢
  have pd:=aF d0
  have d1:(1:Rat)≤d:=by
   have:((1:Nat):Rat)≤(d:Rat):=Rat.natCast_le_natCast.mpr d0
   simpa using this
  have nn:(0:Rat)≤(u.2.2:Rat)/d:=by rw [←eH];exact aI (cP d0)
  have k2:(u.2.2:Rat)/d*d=u.2.2:=by grind
  have:=Rat.mul_nonneg (a:=(u.2.2:Rat)/d) (b:=d-1) nn (by grind)
  rw [eH] at this1
  rw [c2] at c
  grind
theorem vN {d m:Nat} {U:List Un3} (h0:0<d) (h1:d≤10 ^ 11) (hU:RUF U) (h:BdU (2 ^ 37) U) (hl:U.length≤20):Stl (d*m) 38 40 37 20 (bc (U.map (av d))):=by
 have hR:=hU.rt h0
 refine ⟨gK hR,jz hR,q9 fun p hp=>?_,(Cf h0 hU h).congr fun t t0=>fE hR t0,fun t y t0 hy=>E3 h0 hU h t y t0 (by rw [←fE hR t0];exact hy),Nat.le_trans iD (by simpa using hl)⟩
 obtain ⟨u,hu,rfl⟩:=List.mem_map.mp hp
 obtain ⟨a,b,c⟩:=h u hu
 exact ⟨Nat.lt_of_le_of_lt (gI _ _) (by omega),Nat.lt_of_le_of_lt (gD _ _) (by omega),cP h0⟩
theorem Stl.mono {d k e v n e' n':Nat} {L:List Pc} (h:Stl d k e v n L) (he:e≤e') (hn:n≤n'):Stl d k e' v n' L:=⟨h.rt,h.ng,fun p hp=>(h.en p hp).mono he,h.lin,h.hi,Nat.le_trans h.ln hn⟩
theorem Bj {A C:List Pc} {d k j:Nat} (d0:0<d) (hA:RtF A) (lA:Lin d k (cm 0 A)) (lC:Lin d j (cm 0 C)):Lin d (k+j) (cZ A C):=by
 intro e y e0 he
 obtain ⟨x,h1,h2⟩:=dL he
 have x0:0≤x:=Rat.le_trans e0 (eS hA e0 h1)
 obtain ⟨P,Q,R,u,b,ue,hu⟩:=lA e x e0 h1
 obtain ⟨P',Q',R',u',b',ue',hu'⟩:=lC x y x0 h2
 have v:=fD d0 b.1 (hu e x e0 ue Rat.le_refl h1)
 obtain ⟨w,we,hw⟩:=qI (α:=(P:Rat)/Q) (β:=R/(d*Q)-u') (e:=e) (by grind)
 have pos:0<Q*Q':=Nat.mul_pos b.1 b'.1
 obtain ⟨m,m1,m2,m3⟩:∃m,u≤m∧w≤m∧m<e:=by
  by_cases z:u≤w
  ·exact ⟨w,z,Rat.le_refl,we⟩
  ·exact ⟨u,Rat.le_refl,by grind,ue⟩
 refine ⟨P*P',Q*Q',P'*R+Q*R',m,⟨pos,bf b.2.1 b'.2.1,bf b.2.2 b'.2.2⟩,m3,fun t z t0 mt te hz=>?_⟩
 obtain ⟨a,a1,a2⟩:=dL hz
 have l1:=hu t a t0 (by grind) te a1
 have v1:=fD d0 b.1 l1
 have:=hw t (by grind) te
 have a0:=Rat.le_trans t0 (eS hA t0 a1)
 have l2:=hu' a z a0 (by grind) (i7 hA t0 te a1 h1) a2
 clear v v1 this hu hu' hw
 simp only [Rat.natCast_mul,Rat.intCast_add,Rat.intCast_mul,Rat.intCast_natCast]
 have k1:(Q:Rat)*(d*Q'*z)=Q*(P'*d*a+R'):=by rw [l2]
 have k2:(P':Rat)*(d*Q*a)=P'*(P*d*t+R):=by rw [l1]
 grind
theorem yu {d k j e v n:Nat} {A C R:List Pc} (d0:0<d) (hA:RtF A) (lA:Lin d k (cm 0 A)) (lC:Lin d j (cm 0 C)) (hi:∀t y,0≤t→cm 0 C t=some y→y≤2 ^ v) (r1:RtF R) (r2:NG (0,1) R) (r3:SzL e R) (r4:R.length≤n) (r5:∀t,0≤t→cm 0 R t=cZ A C t):Stl d (k+j) e v n R :=
 ⟨r1,r2,fun p hp=>(r3 p hp).e,(Bj d0 hA lA lC).congr r5,fun t y t0 hy=>by
  rw [r5 t t0] at hy
  obtain ⟨x,h1,h2⟩:=dL hy
  exact hi x y (Rat.le_trans t0 (eS hA t0 h1)) h2,r4⟩
theorem D5 {A B C M X Y:List Pc} {t:Rat} (hC:RtF C) (hA:RtF A) (hB:RtF B) (t0:0≤t) (hM:cm 0 M t=les A B t) (hX:cm 0 X t=cZ A C t) (hY:cm 0 Y t=cZ B C t):cZ M C t=les X Y t:=by
 have key:∀ {A B X Y:List Pc} {x:Rat},RtF A→RtF B→cm 0 A t=some x→(∀y,cm 0 B t=some y→x≤y)→cm 0 X t=cZ A C t→cm 0 Y t=cZ B C t→cm 0 C x=les X Y t:=fun {A B X Y x} hA hB h1 h2 hX hY=>by
  rw [f_ h1] at hX
  have up:∀v,cm 0 Y t=some v→∃u,cm 0 C x=some u∧u≤v:=fun v hv=>by
   rw [hY] at hv
   obtain ⟨y,e1,e2⟩:=dL hv
   obtain ⟨u,hu⟩:=dr (h2 y e1) e2
   exact ⟨u,hu,i7 hC (Rat.le_trans t0 (eS hA t0 h1)) (h2 y e1) hu e2⟩
  cases e:cm 0 C x with
  | none =>
   refine (les_no.mpr ⟨by rw [hX,e],?_⟩).symm
   cases ey:cm 0 Y t with
   | none=>rfl
   | some v=>obtain ⟨u,hu,_⟩:=up v ey;rw [e] at hu;cases hu
  | some u =>
   refine (qO (by rw [hX,e]) fun v hv=>?_).symm
   obtain ⟨u',hu,le⟩:=up v hv
   rw [e] at hu
   cases hu
   exact le
 cases e:les A B t with
 | none =>
  obtain ⟨e1,e2⟩:=les_no.mp e
  rw [e] at hM
  rw [fg hM]
  exact (les_no.mpr ⟨by rw [hX,fg e1],by rw [hY,fg e2]⟩).symm
 | some x =>
  rw [e] at hM
  rw [f_ hM]
  rcases d7 e with ⟨h1,h2⟩|⟨h1,h2⟩
  ·exact key hA hB h1 h2 hX hY
  ·rw [jG];exact key hB hA h1 h2 hY hX
theorem Gg {A B C M X Y:List Pc} {t:Rat} (hC:RtF C) (t0:0≤t) (hM:∀x,0≤x→cm 0 M x=les A B x) (hX:cm 0 X t=cZ C A t) (hY:cm 0 Y t=cZ C B t):cZ C M t=les X Y t:=by
 cases e:cm 0 C t with
 | none=>rw [fg e];exact (les_no.mpr ⟨by rw [hX,fg e],by rw [hY,fg e]⟩).symm
 | some x =>
  rw [f_ e] at hX hY
  rw [f_ e,hM x (Rat.le_trans t0 (eS hC t0 e))]
  unfold les
  rw [hX,hY]
theorem xY {A B C M N:List Pc} {t:Rat} (hM:cm 0 M t=les A B t) (hN:cm 0 N t=les B C t):les M C t=les A N t:=by
 unfold les at *
 rw [hM,hN]
 cases cm 0 A t with
 | none=>cases cm 0 B t <;> rfl
 | some x =>
  cases cm 0 B t with
  | none=>cases cm 0 C t <;> rfl
  | some y =>
   cases cm 0 C t with
   | none=>rfl
   | some z =>
    show some (if (if x≤y then x else y)≤z then (if x≤y then x else y) else z)=some (if x≤(if y≤z then y else z) then x else (if y≤z then y else z))
    congr 1
    by_cases h1:x≤y <;> by_cases h2:y≤z <;> by_cases h3:x≤z <;> simp only [h1,h2,h3,if_true,if_false] <;> grind
theorem p8 {as st Q} (h:cK as st Q):ay Γ dW (frame 4 as) st (ag st Q):=by
 obtain ⟨d,A,B,C,rfl,d0,d1,⟨sA,sB,sC⟩,hA,hB,hC,k⟩:=h
 have la:=sA.ln
 have lb:=sB.ln
 have lc:=sC.ln
 have L1:AB d 37 38 40 150 37 20:=⟨d0,d1,by decide,by decide,by decide,by decide,by decide,by decide,by decide⟩
 have L2:AB d 37 38 150 150 37 82:=⟨d0,d1,by decide,by decide,by decide,by decide,by decide,by decide,by decide⟩
 have L3:AB d 37 76 202 226 37 441:=⟨d0,d1,by decide,by decide,by decide,by decide,by decide,by decide,by decide⟩
 have c40:∀ {X Y:List Pc},Stz 40 20 X→Stz 40 20 Y→(X.length+1)*(Y.length+1)≤441:=fun hX hY=>Nat.le_trans (Nat.mul_le_mul (Nat.add_le_add_right hX.ln 1) (Nat.add_le_add_right hY.ln 1)) (by decide)
 unfold dW
 walk_at "WP"
 refine ⟨d,37,38,40,150,37,20,A,B,rfl,L1,hA,hB,fun M hM cM=>?_⟩
 have zM:SzL 262 M:=hM.sz (by decide) d0 d1
 have lM:=hM.ln
 have m1:(M.length+1)*(C.length+1)≤83*21:=Nat.mul_le_mul (by omega) (by omega)
 have m2:(C.length+1)*(M.length+1)≤21*83:=Nat.mul_le_mul (by omega) (by omega)
 have thn:∀ {X Y R:List Pc},Stz 40 20 X→Stz 40 20 Y→Stl d 38 40 37 20 X→Stl d 38 40 37 20 Y→RtF R→NG (0,1) R→SzL (5*40+2) R→R.length≤(X.length+1)*(Y.length+1)→(∀t,0≤t→cm 0 R t=cZ X Y t)→Stl d 76 202 37 441 R:=fun sX sY hX hY r1 r2 r3 r4 r5=>yu d0 sX.rt hX.lin hY.lin hY.hi r1 r2 r3 (Nat.le_trans r4 (c40 sX sY)) r5
 refine ⟨262,M,C,rfl,by decide,hM.rt,zM,sC.rt,sC.sz.mono (by decide),by omega,fun S s1 s2 s3 s4 s5=>?_⟩
 refine ⟨40,A,C,rfl,by decide,sA.rt,sA.sz,sC.rt,sC.sz,Nat.le_trans (c40 sA sC) (by decide),fun X x1 x2 x3 x4 x5=>?_⟩
 refine ⟨40,B,C,rfl,by decide,sB.rt,sB.sz,sC.rt,sC.sz,Nat.le_trans (c40 sB sC) (by decide),fun Y y1 y2 y3 y4 y5=>?_⟩
 refine ⟨d,37,76,202,226,37,441,X,Y,rfl,L3,thn sA sC hA hC x1 x2 x3 x4 x5,thn sB sC hB hC y1 y2 y3 y4 y5,fun V hV cV=>?_⟩
 have e:S=V:=y7 s1 hV.rt s2 hV.ng fun t t0=>by rw [s5 t t0,cV t t0];exact D5 sC.rt sA.rt sB.rt t0 (cM t t0) (x5 t t0) (y5 t t0)
 rw [e]
 refine ij (n:=4) (by decide) eX eX ?_
 rw [eZ,if_neg (by decide)]
 refine ⟨262,C,M,rfl,by decide,sC.rt,sC.sz.mono (by decide),hM.rt,zM,by omega,fun S s1 s2 s3 s4 s5=>?_⟩
 refine ⟨40,C,A,rfl,by decide,sC.rt,sC.sz,sA.rt,sA.sz,Nat.le_trans (c40 sC sA) (by decide),fun X x1 x2 x3 x4 x5=>?_⟩
 refine ⟨40,C,B,rfl,by decide,sC.rt,sC.sz,sB.rt,sB.sz,Nat.le_trans (c40 sC sB) (by decide),fun Y y1 y2 y3 y4 y5=>?_⟩
 refine ⟨d,37,76,202,226,37,441,X,Y,rfl,L3,thn sC sA hC hA x1 x2 x3 x4 x5,thn sC sB hC hB y1 y2 y3 y4 y5,fun V hV cV=>?_⟩
 have e:S=V:=y7 s1 hV.rt s2 hV.ng fun t t0=>by rw [s5 t t0,cV t t0];exact Gg sC.rt t0 cM (x5 t t0) (y5 t t0)
 rw [e]
 refine ij (n:=4) (by decide) eX eX ?_
 rw [eZ,if_neg (by decide)]
 refine ⟨d,37,38,150,150,37,82,M,C,rfl,L2,hM,hC.mono (by decide) (by decide),fun S hS cS=>?_⟩
 refine ⟨d,37,38,40,150,37,20,B,C,rfl,L1,hB,hC,fun N hN cN=>?_⟩
 refine ⟨d,37,38,150,150,37,82,A,N,rfl,L2,hA.mono (by decide) (by decide),hN,fun V hV cV=>?_⟩
 have e:S=V:=y7 hS.rt hV.rt hS.ng hV.ng fun t t0=>by rw [cS t t0,cV t t0];exact xY (cM t t0) (cN t t0)
 rw [e]
 refine ij (n:=4) (by decide) eX eX ?_
 rw [eZ]
 exact .inl k
theorem Hq {as st Q} (h:iM as st Q):ay Γ mn (frame 9 as) st (ag st Q):=by
 obtain ⟨ns,rfl,hl,k⟩:=h
 unfold mn
 walk_at "WP"
 refine ⟨ns,0,rfl,by decide,fun q r pk=>?_⟩
 have P0:Pot (st++[pc q r]) st.length:=⟨q,r,aA,pk⟩
 generalize st++[pc q r]=s0 at P0
 generalize hp:st.length=p at P0
 have pl:=P0.lt
 refine ⟨p,_,[],0,rfl,P0.app,by omega,aA,fun h hh=>(nomatch hh),by decide,by decide,fun U1 n1 s1 g1 m1 u1 R1 l1 b1=>?_⟩
 have G1:=(Gr.refl P0).app.trans g1
 refine ⟨n1,U1,rfl,u1,l1,fun m hs g hm hml hsb hsl=>?_⟩
 have n1p:n1≠p:=by rw [List.length_append] at m1;omega
 have mp:m≠p:=by have:=g1.pot.lt;omega
 refine ⟨p,m,hs,_,rfl,g1.pot.app,mp,hm,hsb _ b1,by omega,by decide,fun U2 n2 s2 g2 m2 u2 R2 l2 b2=>?_⟩
 have n2p:n2≠p:=by rw [List.length_append] at m2;have:=g1.pot.lt;omega
 have n12:n1<n2:=by have:=bp u1;rw [List.length_append] at m2;omega
 have u1a:=g2.get (au u1) n1p
 refine ⟨ns,1,rfl,by decide,fun q' r' pk'=>?_⟩
 have P2:Pot (s2++[pc q' r']) s2.length:=⟨q',r',aA,pk'⟩
 have u1b:(s2++[pc q' r'])[n1]?=_:=au u1a
 have u2b:(s2++[pc q' r'])[n2]?=_:=au u2
 have Pb:Pot (s2++[pc q' r']) p:=g2.pot.app
 have pp:p≠s2.length:=by have:=g2.pot.lt;omega
 have x1:=bp u1a
 have x2:=bp u2
 have x3:s2.length<(s2++[pc q' r']).length:=by simp
 generalize s2++[pc q' r']=s3 at P2 u1b u2b Pb x3
 generalize s2.length=p2 at P2 pp x1 x2 x3
 refine ⟨n1,U1,rfl,u1b,l1,fun m3 hs3 g3 hm3 hml3 hsb3 hsl3=>?_⟩
 refine ⟨n2,U2,rfl,au u2b,l2,fun m4 hs4 g4 hm4 hml4 hsb4 hsl4=>?_⟩
 refine Ig (au hm3) hm4 (by simp;omega) ?_
 rw [←List.map_append]
 have u1c:(s3++g3++g4++[Cell.lst ((hs3++hs4).map iV)])[n1]?=_:=au (au (au u1b))
 have u2c:(s3++g3++g4++[Cell.lst ((hs3++hs4).map iV)])[n2]?=_:=au (au (au u2b))
 have Pc1:Pot (s3++g3++g4++[Cell.lst ((hs3++hs4).map iV)]) p:=Pb.app.app.app
 have Pc2:Pot (s3++g3++g4++[Cell.lst ((hs3++hs4).map iV)]) p2:=P2.app.app.app
 have hg:(s3++g3++g4++[Cell.lst ((hs3++hs4).map iV)])[List.length (s3++g3++g4)]?=_:=aA
 have x4:p2<List.length (s3++g3++g4):=by rw [List.length_append,List.length_append];omega
 generalize s3++g3++g4++[Cell.lst ((hs3++hs4).map iV)]=s5 at u1c u2c Pc1 Pc2 hg
 generalize List.length (s3++g3++g4)=y at hg x4
 refine ⟨p2,y,hs3++hs4,8*10 ^ 10,rfl,Pc2,by omega,hg,fun h hh=>?_,by simp;omega,by decide,fun U3 n3 s6 g6 m6 u3 R3 l3 b3=>?_⟩
 ·rcases List.mem_append.mp hh with hh|hh
  ·have:=hsb3 _ b1 h hh;omega
  ·have:=hsb4 _ b2 h hh;omega
 have u1d:=g6.get u1c (by omega)
 have u2d:=g6.get u2c (by omega)
 have Pd:=g6.pot2 Pc1 pp
 have n23:n2<n3:=by have:=bp u2c;omega
 have n3p:n3≠p:=by have:=Pc1.lt;omega
 refine ⟨p,rfl,Pd,fun d s7 d0 d1 g7=>?_⟩
 have u1e:=g7.get u1d n1p
 have u2e:=g7.get u2d n2p
 have u3e:=g7.get u3 n3p
 have B1:BdU (2 ^ 37) U1:=b1.mono (by decide)
 have B2:BdU (2 ^ 37) U2:=b2.mono (by decide)
 have B3:BdU (2 ^ 37) U3:=b3.mono (by decide)
 have S1:=sW d0 d1 R1 B1 l1
 have S2:=sW d0 d1 R2 B2 l2
 have S3:=sW d0 d1 R3 B3 l3
 have T1:Stl d 38 40 37 20 (bc (U1.map (av d))):=by have:=vN (m:=1) d0 d1 R1 B1 l1;rwa [Nat.mul_one] at this
 have T2:Stl d 38 40 37 20 (bc (U2.map (av d))):=by have:=vN (m:=1) d0 d1 R2 B2 l2;rwa [Nat.mul_one] at this
 have T3:Stl d 38 40 37 20 (bc (U3.map (av d))):=by have:=vN (m:=1) d0 d1 R3 B3 l3;rwa [Nat.mul_one] at this
 refine ⟨by decide,?_⟩
 refine FW.comp_map Γm (fun x=>match x with | .ref n=>if n=n1 then bL (bc (U1.map (av d))) else if n=n2 then bL (bc (U2.map (av d))) else bL (bc (U3.map (av d)))|v=>v) trivial (fun x hx=>?_) ?_
 ·simp only [List.mem_cons,List.not_mem_nil,or_false] at hx
  rcases hx with rfl|rfl|rfl
  ·walk_at "WP"
   exact ⟨n1,d,U1,rfl,u1e,R1,l1,B1,d0,d1,rfl,rfl⟩
  ·walk_at "WP"
   exact ⟨n2,d,U2,rfl,u2e,R2,l2,B2,d0,d1,by rw [if_neg (by omega)],rfl⟩
  ·walk_at "WP"
   exact ⟨n3,d,U3,rfl,u3e,R3,l3,B3,d0,d1,by rw [if_neg (by omega),if_neg (by omega)],rfl⟩
 ·have e:[PV.ref n1,PV.ref n2,PV.ref n3].map (fun x=>match x with | .ref n=>if n=n1 then bL (bc (U1.map (av d))) else if n=n2 then bL (bc (U2.map (av d))) else bL (bc (U3.map (av d)))|v=>v)=[bL (bc (U1.map (av d))),bL (bc (U2.map (av d))),bL (bc (U3.map (av d)))]:=by
   simp only [List.map_cons,List.map_nil]
   rw [if_pos trivial,if_neg (by omega),if_pos trivial,if_neg (by omega),if_neg (by omega)]
  rw [e]
  generalize bc (U1.map (av d))=L1 at S1 T1
  generalize bc (U2.map (av d))=L2 at S2 T2
  generalize bc (U3.map (av d))=L3 at S3 T3
  refine ⟨_,bK aA,rfl,_,_,rfl,_,_,rfl,_,_,rfl,rfl,?_⟩
  refine ⟨d,L1,L2,L3,rfl,d0,Nat.lt_of_le_of_lt d1 (by decide),⟨S1,S2,S3⟩,T1,T2,T3,?_⟩
  walk_at "WP"
  exact ⟨d,L3,L2,L1,rfl,d0,Nat.lt_of_le_of_lt d1 (by decide),⟨S3,S2,S1⟩,T3,T2,T1,.inl (k _)⟩
section
variable {P:Program} {w:World} {K:PySem.W.Frag} {mg:Str→Option Value} {base:Heap}
theorem jJ (F:At K mg "common_divisor" aL ["n","d"]) (G:GOk P w K mg base dv Γ):Has P w K mg base 1 "common_divisor" ["n","d"] (ax K (Γ 0)):=aK F js rfl rfl jR G (fun as st Q=>i5 (st:=st)) (fun as st Q=>kH)
theorem qX (F:At K mg "fraction" b_ ["n","d"]) (G:GOk P w K mg base iT Γ):Has P w K mg base 2 "fraction" ["n","d"] (ax K (Γ 1)):=aK F rn rfl rfl sT G (fun as st Q=>pb (st:=st)) (fun as st Q=>uE)
theorem CJ (F:At K mg "plus" gM ["one","other"]) (G:GOk P w K mg base vP Γ):Has P w K mg base 3 "plus" ["one","other"] (ax K (Γ 2)):=aK F CN rfl rfl Fh G (fun as st Q=>Au (st:=st)) (fun as st Q=>D9)
theorem C4 (F:At K mg "less" gC ["one","other"]) (G:GOk P w K mg base u5 Γ):Has P w K mg base 4 "less" ["one","other"] (ax K (Γ 3)):=aK F Da rfl rfl Gm G (fun as st Q=>yW (st:=st)) (fun as st Q=>D8)
theorem zE (F:At K mg "times" ff ["one","other"]) (G:GOk P w K mg base pV Γ):Has P w K mg base 5 "times" ["one","other"] (ax K (Γ 4)):=aK F zo rfl rfl Ct G (fun as st Q=>xz (st:=st)) (fun as st Q=>Db)
theorem rE (F:At K mg "is_below" cj ["one","other"]) (G:GOk P w K mg base jb Γ):Has P w K mg base 6 "is_below" ["one","other"] (ax K (Γ 5)):=aK F qY rfl rfl vj G (fun as st Q=>pP (st:=st)) (fun as st Q=>uR)
theorem pW (F:At K mg "crosswise" bP ["one","other"]) (G:GOk P w K mg base ie Γ):Has P w K mg base 7 "crosswise" ["one","other"] (ax K (Γ 6)):=aK F qj rfl rfl r9 G (fun as st Q=>nE (st:=st)) (fun as st Q=>qR)
theorem nA (F:At K mg "on_straight" bj ["near","far","x"]) (G:GOk P w K mg base fm Γ):Has P w K mg base 8 "on_straight" ["near","far","x"] (ax K (Γ 7)):=aK F mX rfl rfl oh G (fun as st Q=>lD (st:=st)) (fun as st Q=>nO)
theorem vK (F:At K mg "goes_on" df ["beginning","ahead","piece"]) (G:GOk P w K mg base kE Γ):Has P w K mg base 9 "goes_on" ["beginning","ahead","piece"] (ax K (Γ 8)):=aK F sR rfl rfl xI G (fun as st Q=>qV (st:=st)) (fun as st Q=>xK)
theorem CW (F:At K mg "lean" g9 ["row"]) (G:GOk P w K mg base uC Γ):Has P w K mg base 10 "lean" ["row"] (ax K (Γ 9)):=aK F DD rfl rfl Gf G (fun as st Q=>yU (st:=st)) (fun as st Q=>Gn)
theorem sM (F:At K mg "how_many" bW ["stair","holds"]):Has P w K mg base 11 "how_many" ["stair","holds"] (ax K (Γ 10)):=xX F
theorem sf (F:At K mg "how_many" bW ["stair","holds"]) (G:GOk P w K mg base iS Γ):xJ P w K mg base 10:=GI F si rfl rfl vC G (by decide) rfl (fun a L hL as st Q=>vz hL)
theorem lr (F:At K mg "beginning_of" aX ["stair","at"]) (G:GOk P w K mg base em Γ):Has P w K mg base 12 "beginning_of" ["stair","at"] (ax K (Γ 11)):=aK F lj rfl rfl lO G (fun as st Q=>kq (st:=st)) (fun as st Q=>mL)
theorem wT (F:At K mg "height" dQ ["stair","at","t"]) (G:GOk P w K mg base mv Γ):Has P w K mg base 13 "height" ["stair","at","t"] (ax K (Γ 12)):=aK F wX rfl rfl yr G (fun as st Q=>sU (st:=st)) (fun as st Q=>BX)
theorem wY {f c0 T:Addr} {oc:Value} {od an:Option Addr} {osl:Array (Option Value)} {kV doc pm ct:Value} (a:PySem.W.nsIn K mainGlobals "coming"=some (some (.ref f))) (l:K.lookup f=some ⟨oc,od,.func (PySem.W.fnOf "coming" "coming" (aj ci) (ad ci) (aa ci) .none kV doc pm an (.ref c0) ct),osl⟩) (t:PySem.W.tabIn K "coming"=some (c0,T)) (B:fX K mg base) (F:At K mg "coming" ci ["stair","t"]) (cc:PySem.W.codeIn K (.ref c0) "coming"=true) (hmg:mg "coming"=some (.ref f)) (G:GOk P w K mg base mO Γ) (M:xJ P w K mg base 10):Has P w K mg base 14 "coming" ["stair","t"] (ax K (Γ 13)):=v6 a l t (by decide) B F cc hmg wN rfl rfl A_ G (fun k z=>by cases z;exact M) (fun as st Q=>ug (st:=st)) (fun as st Q=>yV)
theorem tL {f c0 T:Addr} {oc:Value} {od an:Option Addr} {osl:Array (Option Value)} {kV doc pm ct:Value} (a:PySem.W.nsIn K mainGlobals "through"=some (some (.ref f))) (l:K.lookup f=some ⟨oc,od,.func (PySem.W.fnOf "through" "through" (aj bO) (ad bO) (aa bO) .none kV doc pm an (.ref c0) ct),osl⟩) (t:PySem.W.tabIn K "through"=some (c0,T)) (B:fX K mg base) (F:At K mg "through" bO ["other","beginning","piece"]) (cc:PySem.W.codeIn K (.ref c0) "through"=true) (hmg:mg "through"=some (.ref f)) (G:GOk P w K mg base kh Γ) (M:xJ P w K mg base 10):Has P w K mg base 15 "through" ["other","beginning","piece"] (ax K (Γ 14)):=v6 a l t (by decide) B F cc hmg vd rfl rfl xl G (fun k z=>by cases z;exact M) (fun as st Q=>rQ (st:=st)) (fun as st Q=>x_)
theorem CL (F:At K mg "then" gS ["one","other"]) (G:GOk P w K mg base vk Γ):Has P w K mg base 16 "then" ["one","other"] (ax K (Γ 15)):=aK F Cn rfl rfl FX G (fun as st Q=>AS (st:=st)) (fun as st Q=>FH)
theorem wR (F:At K mg "merged" dM ["one","other"]) (G:GOk P w K mg base mj Γ):Has P w K mg base 17 "merged" ["one","other"] (ax K (Γ 16)):=aK F wU rfl rfl Ay G (fun as st Q=>uD (st:=st)) (fun as st Q=>yM)
theorem xj (F:At K mg "cut_at" dP ["stair","ends"]) (G:GOk P w K mg base mS Γ):Has P w K mg base 18 "cut_at" ["stair","ends"] (ax K (Γ 17)):=aK F xr rfl rfl zn G (fun as st Q=>tR (st:=st)) (fun as st Q=>yi)
theorem uS (F:At K mg "leaders" c_ ["one","other"]) (G:GOk P w K mg base kJ Γ):Has P w K mg base 19 "leaders" ["one","other"] (ax K (Γ 18)):=aK F uM rfl rfl wP G (fun as st Q=>rg (st:=st)) (fun as st Q=>wJ)
theorem w9 (F:At K mg "common" dG ["some","others"]) (G:GOk P w K mg base nq Γ):Has P w K mg base 20 "common" ["some","others"] (ax K (Γ 19)):=aK F xy rfl rfl AO G (fun as st Q=>uN (st:=st)) (fun as st Q=>yt)
theorem Bf (F:At K mg "apart" e_ ["one","other"]) (G:GOk P w K mg base pA Γ):Has P w K mg base 21 "apart" ["one","other"] (ax K (Γ 20)):=aK F An rfl rfl Dr G (fun as st Q=>xh (st:=st)) (fun as st Q=>Cu)
theorem uw (F:At K mg "crossed" db ["beginning","end","mine","yours"]) (G:GOk P w K mg base j7 Γ):Has P w K mg base 22 "crossed" ["beginning","end","mine","yours"] (ax K (Γ 21)):=aK F uU rfl rfl xL G (fun as st Q=>rk (st:=st)) (fun as st Q=>xp)
theorem iH (F:At K mg "compared_between" aB ["beginning","end","mine","yours"]) (G:GOk P w K mg base cY Γ):Has P w K mg base 23 "compared_between" ["beginning","end","mine","yours"] (ax K (Γ 22)):=aK F iG rfl rfl i4 G (fun as st Q=>gJ (st:=st)) (fun as st Q=>jd)
theorem qT (F:At K mg "compared" cC ["one","other"]) (G:GOk P w K mg base i8 Γ):Has P w K mg base 24 "compared" ["one","other"] (ax K (Γ 23)):=aK F se rfl rfl vH G (fun as st Q=>pU (st:=st)) (fun as st Q=>ua)
theorem wI (F:At K mg "lesser" dI ["one","other"]) (G:GOk P w K mg base m5 Γ):Has P w K mg base 25 "lesser" ["one","other"] (ax K (Γ 24)):=aK F wQ rfl rfl A7 G (fun as st Q=>uk (st:=st)) (fun as st Q=>Bu)
theorem sI (F:At K mg "_law_pot" cA ["_law_script","_law_k"]) (G:GOk P w K mg base jh Γ):Has P w K mg base 26 "_law_pot" ["_law_script","_law_k"] (ax K (Γ 25)):=aK F rY rfl rfl vi G (fun as st Q=>qF (st:=st)) (fun as st Q=>tN)
theorem o9 (F:At K mg "_law_take" bS ["_law_pot_here","_law_many"]) (G:GOk P w K mg base gZ Γ):Has P w K mg base 27 "_law_take" ["_law_pot_here","_law_many"] (ax K (Γ 26)):=aK F o7 rfl rfl sh G (fun as st Q=>nL (st:=st)) (fun as st Q=>rC)
theorem mH (F:At K mg "_law_moment" bi ["_law_n","_law_d"]) (G:GOk P w K mg base fo Γ):Has P w K mg base 28 "_law_moment" ["_law_n","_law_d"] (ax K (Γ 27)):=aK F nk rfl rfl nV G (fun as st Q=>ll (st:=st)) (fun as st Q=>nN)
theorem sE (F:At K mg "_law_row" cB ["_law_pot_here","_law_hints_here"]) (G:GOk P w K mg base iY Γ):Has P w K mg base 29 "_law_row" ["_law_pot_here","_law_hints_here"] (ax K (Γ 28)):=aK F rK rfl rfl uH G (fun as st Q=>qb (st:=st)) (fun as st Q=>vb)
theorem qa (F:At K mg "_law_lean" bQ ["_law_row_here"]) (G:GOk P w K mg base gY Γ):Has P w K mg base 30 "_law_lean" ["_law_row_here"] (ax K (Γ 29)):=aK F pf rfl rfl qQ G (fun as st Q=>n8 (st:=st)) (fun as st Q=>sH)
theorem pe (F:At K mg "_law_part" bT ["_law_pot_here"]) (G:GOk P w K mg base gW Γ):Has P w K mg base 31 "_law_part" ["_law_pot_here"] (ax K (Γ 30)):=aK F pR rfl rfl so G (fun as st Q=>nX (st:=st)) (fun as st Q=>sg)
theorem oa (F:At K mg "_law_stair" bB ["_law_row_here","_law_part_here"]) (G:GOk P w K mg base fW Γ):Has P w K mg base 32 "_law_stair" ["_law_row_here","_law_part_here"] (ax K (Γ 31)):=aK F nB rfl rfl pO G (fun as st Q=>mr (st:=st)) (fun as st Q=>pj)
theorem n9 (F:At K mg "_law_hints" bA ["_law_row_here"]) (G:GOk P w K mg base ga Γ):Has P w K mg base 33 "_law_hints" ["_law_row_here"] (ax K (Γ 32)):=aK F nF rfl rfl pI G (fun as st Q=>np (st:=st)) (fun as st Q=>qo)
theorem nY (F:At K mg "_law_right" bI ["_law_one","_law_other","_law_third"]) (G:GOk P w K mg base gh Γ):Has P w K mg base 34 "_law_right" ["_law_one","_law_other","_law_third"] (ax K (Γ 33)):=aK F nP rfl rfl qu G (fun as st Q=>mG (st:=st)) (fun as st Q=>p8)
end
theorem all_mk {l:PySem.W.OpenLaw} {q:Program} {w:World} {K:PySem.W.Frag} {h:Heap} {mg:Str→Option Value} {fa:Addr} (X:K.In h) (G:h.Ns mainGlobals mg) (hfa:mg "law"=some (.ref fa))
  {f0:Addr} {oc0 kV0 dc0 pm0 cd0 ct0:Value} {od0 an0:Option Addr} {sl0:Array (Option Value)}
  {f1:Addr} {oc1 kV1 dc1 pm1 cd1 ct1:Value} {od1 an1:Option Addr} {sl1:Array (Option Value)}
  {f2:Addr} {oc2 kV2 dc2 pm2 cd2 ct2:Value} {od2 an2:Option Addr} {sl2:Array (Option Value)}
  {f3:Addr} {oc3 kV3 dc3 pm3 cd3 ct3:Value} {od3 an3:Option Addr} {sl3:Array (Option Value)}
  {f4:Addr} {oc4 kV4 dc4 pm4 cd4 ct4:Value} {od4 an4:Option Addr} {sl4:Array (Option Value)}
  {f5:Addr} {oc5 kV5 dc5 pm5 cd5 ct5:Value} {od5 an5:Option Addr} {sl5:Array (Option Value)}
  {f6:Addr} {oc6 kV6 dc6 pm6 cd6 ct6:Value} {od6 an6:Option Addr} {sl6:Array (Option Value)}
  {f7:Addr} {oc7 kV7 dc7 pm7 cd7 ct7:Value} {od7 an7:Option Addr} {sl7:Array (Option Value)}
  {f8:Addr} {oc8 kV8 dc8 pm8 cd8 ct8:Value} {od8 an8:Option Addr} {sl8:Array (Option Value)}
  {f9:Addr} {oc9 kV9 dc9 pm9 cd9 ct9:Value} {od9 an9:Option Addr} {sl9:Array (Option Value)}
  {f10:Addr} {oc10 kV10 dc10 pm10 cd10 ct10:Value} {od10 an10:Option Addr} {sl10:Array (Option Value)}
  {f11:Addr} {oc11 kV11 dc11 pm11 cd11 ct11:Value} {od11 an11:Option Addr} {sl11:Array (Option Value)}
  {f12:Addr} {oc12 kV12 dc12 pm12 cd12 ct12:Value} {od12 an12:Option Addr} {sl12:Array (Option Value)}
  {f13:Addr} {oc13 kV13 dc13 pm13 ct13:Value} {od13 an13:Option Addr} {sl13:Array (Option Value)} {cc13 tT13:Addr} {tx13:Value} {ty13:Option Addr} {tw13:Array Value} {tu13:Array (Option Value)} {td13:PySem.DefRec}
  {f14:Addr} {oc14 kV14 dc14 pm14 ct14:Value} {od14 an14:Option Addr} {sl14:Array (Option Value)} {cc14 tT14:Addr} {tx14:Value} {ty14:Option Addr} {tw14:Array Value} {tu14:Array (Option Value)} {td14:PySem.DefRec}
  {f15:Addr} {oc15 kV15 dc15 pm15 cd15 ct15:Value} {od15 an15:Option Addr} {sl15:Array (Option Value)}
  {f16:Addr} {oc16 kV16 dc16 pm16 cd16 ct16:Value} {od16 an16:Option Addr} {sl16:Array (Option Value)}
  {f17:Addr} {oc17 kV17 dc17 pm17 cd17 ct17:Value} {od17 an17:Option Addr} {sl17:Array (Option Value)}
  {f18:Addr} {oc18 kV18 dc18 pm18 cd18 ct18:Value} {od18 an18:Option Addr} {sl18:Array (Option Value)}
  {f19:Addr} {oc19 kV19 dc19 pm19 cd19 ct19:Value} {od19 an19:Option Addr} {sl19:Array (Option Value)}
  {f20:Addr} {oc20 kV20 dc20 pm20 cd20 ct20:Value} {od20 an20:Option Addr} {sl20:Array (Option Value)}
  {f21:Addr} {oc21 kV21 dc21 pm21 cd21 ct21:Value} {od21 an21:Option Addr} {sl21:Array (Option Value)}
  {f22:Addr} {oc22 kV22 dc22 pm22 cd22 ct22:Value} {od22 an22:Option Addr} {sl22:Array (Option Value)}
  {f23:Addr} {oc23 kV23 dc23 pm23 cd23 ct23:Value} {od23 an23:Option Addr} {sl23:Array (Option Value)}
  {f24:Addr} {oc24 kV24 dc24 pm24 cd24 ct24:Value} {od24 an24:Option Addr} {sl24:Array (Option Value)}
  {f25:Addr} {oc25 kV25 dc25 pm25 cd25 ct25:Value} {od25 an25:Option Addr} {sl25:Array (Option Value)}
  {f26:Addr} {oc26 kV26 dc26 pm26 cd26 ct26:Value} {od26 an26:Option Addr} {sl26:Array (Option Value)}
  {f27:Addr} {oc27 kV27 dc27 pm27 cd27 ct27:Value} {od27 an27:Option Addr} {sl27:Array (Option Value)}
  {f28:Addr} {oc28 kV28 dc28 pm28 cd28 ct28:Value} {od28 an28:Option Addr} {sl28:Array (Option Value)}
  {f29:Addr} {oc29 kV29 dc29 pm29 cd29 ct29:Value} {od29 an29:Option Addr} {sl29:Array (Option Value)}
  {f30:Addr} {oc30 kV30 dc30 pm30 cd30 ct30:Value} {od30 an30:Option Addr} {sl30:Array (Option Value)}
  {f31:Addr} {oc31 kV31 dc31 pm31 cd31 ct31:Value} {od31 an31:Option Addr} {sl31:Array (Option Value)}
  {f32:Addr} {oc32 kV32 dc32 pm32 cd32 ct32:Value} {od32 an32:Option Addr} {sl32:Array (Option Value)}
  {f33:Addr} {oc33 kV33 dc33 pm33 cd33 ct33:Value} {od33 an33:Option Addr} {sl33:Array (Option Value)}
  {f34:Addr} {oc34 kV34 dc34 pm34 cd34 ct34:Value} {od34 an34:Option Addr} {sl34:Array (Option Value)}
  {ga0:Addr} {gd0:Option Addr} {gn0:Nat} {gs0:Array (Option Value)} {t0_0 t0_1:Tok}
  (a0:PySem.W.nsIn K mainGlobals "common_divisor"=some (some (.ref f0)))
  (l0:K.lookup f0=some ⟨oc0,od0,.func (PySem.W.fnOf "common_divisor" "common_divisor" (aj aL) (ad aL) (aa aL) .none kV0 dc0 pm0 an0 cd0 ct0),sl0⟩)
  (c0:PySem.W.codeIn K cd0 "common_divisor"=true) (k0:PySem.W.keepIn K (.ref f0)=true)
  (a1:PySem.W.nsIn K mainGlobals "fraction"=some (some (.ref f1)))
  (l1:K.lookup f1=some ⟨oc1,od1,.func (PySem.W.fnOf "fraction" "fraction" (aj b_) (ad b_) (aa b_) .none kV1 dc1 pm1 an1 cd1 ct1),sl1⟩)
  (c1:PySem.W.codeIn K cd1 "fraction"=true) (k1:PySem.W.keepIn K (.ref f1)=true)
  (a2:PySem.W.nsIn K mainGlobals "plus"=some (some (.ref f2)))
  (l2:K.lookup f2=some ⟨oc2,od2,.func (PySem.W.fnOf "plus" "plus" (aj gM) (ad gM) (aa gM) .none kV2 dc2 pm2 an2 cd2 ct2),sl2⟩)
  (c2:PySem.W.codeIn K cd2 "plus"=true) (k2:PySem.W.keepIn K (.ref f2)=true)
  (a3:PySem.W.nsIn K mainGlobals "less"=some (some (.ref f3)))
  (l3:K.lookup f3=some ⟨oc3,od3,.func (PySem.W.fnOf "less" "less" (aj gC) (ad gC) (aa gC) .none kV3 dc3 pm3 an3 cd3 ct3),sl3⟩)
  (c3:PySem.W.codeIn K cd3 "less"=true) (k3:PySem.W.keepIn K (.ref f3)=true)
  (a4:PySem.W.nsIn K mainGlobals "times"=some (some (.ref f4)))
  (l4:K.lookup f4=some ⟨oc4,od4,.func (PySem.W.fnOf "times" "times" (aj ff) (ad ff) (aa ff) .none kV4 dc4 pm4 an4 cd4 ct4),sl4⟩)
  (c4:PySem.W.codeIn K cd4 "times"=true) (k4:PySem.W.keepIn K (.ref f4)=true)
  (a5:PySem.W.nsIn K mainGlobals "is_below"=some (some (.ref f5)))
  (l5:K.lookup f5=some ⟨oc5,od5,.func (PySem.W.fnOf "is_below" "is_below" (aj cj) (ad cj) (aa cj) .none kV5 dc5 pm5 an5 cd5 ct5),sl5⟩)
  (c5:PySem.W.codeIn K cd5 "is_below"=true) (k5:PySem.W.keepIn K (.ref f5)=true)
  (a6:PySem.W.nsIn K mainGlobals "crosswise"=some (some (.ref f6)))
  (l6:K.lookup f6=some ⟨oc6,od6,.func (PySem.W.fnOf "crosswise" "crosswise" (aj bP) (ad bP) (aa bP) .none kV6 dc6 pm6 an6 cd6 ct6),sl6⟩)
  (c6:PySem.W.codeIn K cd6 "crosswise"=true) (k6:PySem.W.keepIn K (.ref f6)=true)
  (a7:PySem.W.nsIn K mainGlobals "on_straight"=some (some (.ref f7)))
  (l7:K.lookup f7=some ⟨oc7,od7,.func (PySem.W.fnOf "on_straight" "on_straight" (aj bj) (ad bj) (aa bj) .none kV7 dc7 pm7 an7 cd7 ct7),sl7⟩)
  (c7:PySem.W.codeIn K cd7 "on_straight"=true) (k7:PySem.W.keepIn K (.ref f7)=true)
  (a8:PySem.W.nsIn K mainGlobals "goes_on"=some (some (.ref f8)))
  (l8:K.lookup f8=some ⟨oc8,od8,.func (PySem.W.fnOf "goes_on" "goes_on" (aj df) (ad df) (aa df) .none kV8 dc8 pm8 an8 cd8 ct8),sl8⟩)
  (c8:PySem.W.codeIn K cd8 "goes_on"=true) (k8:PySem.W.keepIn K (.ref f8)=true)
  (a9:PySem.W.nsIn K mainGlobals "lean"=some (some (.ref f9)))
  (l9:K.lookup f9=some ⟨oc9,od9,.func (PySem.W.fnOf "lean" "lean" (aj g9) (ad g9) (aa g9) .none kV9 dc9 pm9 an9 cd9 ct9),sl9⟩)
  (c9:PySem.W.codeIn K cd9 "lean"=true) (k9:PySem.W.keepIn K (.ref f9)=true)
  (a10:PySem.W.nsIn K mainGlobals "how_many"=some (some (.ref f10)))
  (l10:K.lookup f10=some ⟨oc10,od10,.func (PySem.W.fnOf "how_many" "how_many" (aj bW) (ad bW) (aa bW) .none kV10 dc10 pm10 an10 cd10 ct10),sl10⟩)
  (c10:PySem.W.codeIn K cd10 "how_many"=true) (k10:PySem.W.keepIn K (.ref f10)=true)
  (a11:PySem.W.nsIn K mainGlobals "beginning_of"=some (some (.ref f11)))
  (l11:K.lookup f11=some ⟨oc11,od11,.func (PySem.W.fnOf "beginning_of" "beginning_of" (aj aX) (ad aX) (aa aX) .none kV11 dc11 pm11 an11 cd11 ct11),sl11⟩)
  (c11:PySem.W.codeIn K cd11 "beginning_of"=true) (k11:PySem.W.keepIn K (.ref f11)=true)
  (a12:PySem.W.nsIn K mainGlobals "height"=some (some (.ref f12)))
  (l12:K.lookup f12=some ⟨oc12,od12,.func (PySem.W.fnOf "height" "height" (aj dQ) (ad dQ) (aa dQ) .none kV12 dc12 pm12 an12 cd12 ct12),sl12⟩)
  (c12:PySem.W.codeIn K cd12 "height"=true) (k12:PySem.W.keepIn K (.ref f12)=true)
  (a13:PySem.W.nsIn K mainGlobals "coming"=some (some (.ref f13)))
  (l13:K.lookup f13=some ⟨oc13,od13,.func (PySem.W.fnOf "coming" "coming" (aj ci) (ad ci) (aa ci) .none kV13 dc13 pm13 an13 (.ref cc13) ct13),sl13⟩)
  (c13:PySem.W.codeIn K (.ref cc13) "coming"=true) (k13:PySem.W.keepIn K (.ref f13)=true)
  (tc13:K.lookup cc13=some ⟨tx13,ty13,.fields tw13,tu13⟩) (tv13:tw13[11]?=some (.ref tT13)) (tn13:K.lookup tT13=none) (tr13:(PyProof.Rows.recsOf q).find? (fun e=>e.name == ("coming":Str))=some td13)
  (a14:PySem.W.nsIn K mainGlobals "through"=some (some (.ref f14)))
  (l14:K.lookup f14=some ⟨oc14,od14,.func (PySem.W.fnOf "through" "through" (aj bO) (ad bO) (aa bO) .none kV14 dc14 pm14 an14 (.ref cc14) ct14),sl14⟩)
  (c14:PySem.W.codeIn K (.ref cc14) "through"=true) (k14:PySem.W.keepIn K (.ref f14)=true)
  (tc14:K.lookup cc14=some ⟨tx14,ty14,.fields tw14,tu14⟩) (tv14:tw14[11]?=some (.ref tT14)) (tn14:K.lookup tT14=none) (tr14:(PyProof.Rows.recsOf q).find? (fun e=>e.name == ("through":Str))=some td14)
  (a15:PySem.W.nsIn K mainGlobals "then"=some (some (.ref f15)))
  (l15:K.lookup f15=some ⟨oc15,od15,.func (PySem.W.fnOf "then" "then" (aj gS) (ad gS) (aa gS) .none kV15 dc15 pm15 an15 cd15 ct15),sl15⟩)
  (c15:PySem.W.codeIn K cd15 "then"=true) (k15:PySem.W.keepIn K (.ref f15)=true)
  (a16:PySem.W.nsIn K mainGlobals "merged"=some (some (.ref f16)))
  (l16:K.lookup f16=some ⟨oc16,od16,.func (PySem.W.fnOf "merged" "merged" (aj dM) (ad dM) (aa dM) .none kV16 dc16 pm16 an16 cd16 ct16),sl16⟩)
  (c16:PySem.W.codeIn K cd16 "merged"=true) (k16:PySem.W.keepIn K (.ref f16)=true)
  (a17:PySem.W.nsIn K mainGlobals "cut_at"=some (some (.ref f17)))
  (l17:K.lookup f17=some ⟨oc17,od17,.func (PySem.W.fnOf "cut_at" "cut_at" (aj dP) (ad dP) (aa dP) .none kV17 dc17 pm17 an17 cd17 ct17),sl17⟩)
  (c17:PySem.W.codeIn K cd17 "cut_at"=true) (k17:PySem.W.keepIn K (.ref f17)=true)
  (a18:PySem.W.nsIn K mainGlobals "leaders"=some (some (.ref f18)))
  (l18:K.lookup f18=some ⟨oc18,od18,.func (PySem.W.fnOf "leaders" "leaders" (aj c_) (ad c_) (aa c_) .none kV18 dc18 pm18 an18 cd18 ct18),sl18⟩)
  (c18:PySem.W.codeIn K cd18 "leaders"=true) (k18:PySem.W.keepIn K (.ref f18)=true)
  (a19:PySem.W.nsIn K mainGlobals "common"=some (some (.ref f19)))
  (l19:K.lookup f19=some ⟨oc19,od19,.func (PySem.W.fnOf "common" "common" (aj dG) (ad dG) (aa dG) .none kV19 dc19 pm19 an19 cd19 ct19),sl19⟩)
  (c19:PySem.W.codeIn K cd19 "common"=true) (k19:PySem.W.keepIn K (.ref f19)=true)
  (a20:PySem.W.nsIn K mainGlobals "apart"=some (some (.ref f20)))
  (l20:K.lookup f20=some ⟨oc20,od20,.func (PySem.W.fnOf "apart" "apart" (aj e_) (ad e_) (aa e_) .none kV20 dc20 pm20 an20 cd20 ct20),sl20⟩)
  (c20:PySem.W.codeIn K cd20 "apart"=true) (k20:PySem.W.keepIn K (.ref f20)=true)
  (a21:PySem.W.nsIn K mainGlobals "crossed"=some (some (.ref f21)))
  (l21:K.lookup f21=some ⟨oc21,od21,.func (PySem.W.fnOf "crossed" "crossed" (aj db) (ad db) (aa db) .none kV21 dc21 pm21 an21 cd21 ct21),sl21⟩)
  (c21:PySem.W.codeIn K cd21 "crossed"=true) (k21:PySem.W.keepIn K (.ref f21)=true)
  (a22:PySem.W.nsIn K mainGlobals "compared_between"=some (some (.ref f22)))
  (l22:K.lookup f22=some ⟨oc22,od22,.func (PySem.W.fnOf "compared_between" "compared_between" (aj aB) (ad aB) (aa aB) .none kV22 dc22 pm22 an22 cd22 ct22),sl22⟩)
  (c22:PySem.W.codeIn K cd22 "compared_between"=true) (k22:PySem.W.keepIn K (.ref f22)=true)
  (a23:PySem.W.nsIn K mainGlobals "compared"=some (some (.ref f23)))
  (l23:K.lookup f23=some ⟨oc23,od23,.func (PySem.W.fnOf "compared" "compared" (aj cC) (ad cC) (aa cC) .none kV23 dc23 pm23 an23 cd23 ct23),sl23⟩)
  (c23:PySem.W.codeIn K cd23 "compared"=true) (k23:PySem.W.keepIn K (.ref f23)=true)
  (a24:PySem.W.nsIn K mainGlobals "lesser"=some (some (.ref f24)))
  (l24:K.lookup f24=some ⟨oc24,od24,.func (PySem.W.fnOf "lesser" "lesser" (aj dI) (ad dI) (aa dI) .none kV24 dc24 pm24 an24 cd24 ct24),sl24⟩)
  (c24:PySem.W.codeIn K cd24 "lesser"=true) (k24:PySem.W.keepIn K (.ref f24)=true)
  (a25:PySem.W.nsIn K mainGlobals "_law_pot"=some (some (.ref f25)))
  (l25:K.lookup f25=some ⟨oc25,od25,.func (PySem.W.fnOf "_law_pot" "_law_pot" (aj cA) (ad cA) (aa cA) .none kV25 dc25 pm25 an25 cd25 ct25),sl25⟩)
  (c25:PySem.W.codeIn K cd25 "_law_pot"=true) (k25:PySem.W.keepIn K (.ref f25)=true)
  (a26:PySem.W.nsIn K mainGlobals "_law_take"=some (some (.ref f26)))
  (l26:K.lookup f26=some ⟨oc26,od26,.func (PySem.W.fnOf "_law_take" "_law_take" (aj bS) (ad bS) (aa bS) .none kV26 dc26 pm26 an26 cd26 ct26),sl26⟩)
  (c26:PySem.W.codeIn K cd26 "_law_take"=true) (k26:PySem.W.keepIn K (.ref f26)=true)
  (a27:PySem.W.nsIn K mainGlobals "_law_moment"=some (some (.ref f27)))
  (l27:K.lookup f27=some ⟨oc27,od27,.func (PySem.W.fnOf "_law_moment" "_law_moment" (aj bi) (ad bi) (aa bi) .none kV27 dc27 pm27 an27 cd27 ct27),sl27⟩)
  (c27:PySem.W.codeIn K cd27 "_law_moment"=true) (k27:PySem.W.keepIn K (.ref f27)=true)
  (a28:PySem.W.nsIn K mainGlobals "_law_row"=some (some (.ref f28)))
  (l28:K.lookup f28=some ⟨oc28,od28,.func (PySem.W.fnOf "_law_row" "_law_row" (aj cB) (ad cB) (aa cB) .none kV28 dc28 pm28 an28 cd28 ct28),sl28⟩)
  (c28:PySem.W.codeIn K cd28 "_law_row"=true) (k28:PySem.W.keepIn K (.ref f28)=true)
  (a29:PySem.W.nsIn K mainGlobals "_law_lean"=some (some (.ref f29)))
  (l29:K.lookup f29=some ⟨oc29,od29,.func (PySem.W.fnOf "_law_lean" "_law_lean" (aj bQ) (ad bQ) (aa bQ) .none kV29 dc29 pm29 an29 cd29 ct29),sl29⟩)
  (c29:PySem.W.codeIn K cd29 "_law_lean"=true) (k29:PySem.W.keepIn K (.ref f29)=true)
  (a30:PySem.W.nsIn K mainGlobals "_law_part"=some (some (.ref f30)))
  (l30:K.lookup f30=some ⟨oc30,od30,.func (PySem.W.fnOf "_law_part" "_law_part" (aj bT) (ad bT) (aa bT) .none kV30 dc30 pm30 an30 cd30 ct30),sl30⟩)
  (c30:PySem.W.codeIn K cd30 "_law_part"=true) (k30:PySem.W.keepIn K (.ref f30)=true)
  (a31:PySem.W.nsIn K mainGlobals "_law_stair"=some (some (.ref f31)))
  (l31:K.lookup f31=some ⟨oc31,od31,.func (PySem.W.fnOf "_law_stair" "_law_stair" (aj bB) (ad bB) (aa bB) .none kV31 dc31 pm31 an31 cd31 ct31),sl31⟩)
  (c31:PySem.W.codeIn K cd31 "_law_stair"=true) (k31:PySem.W.keepIn K (.ref f31)=true)
  (a32:PySem.W.nsIn K mainGlobals "_law_hints"=some (some (.ref f32)))
  (l32:K.lookup f32=some ⟨oc32,od32,.func (PySem.W.fnOf "_law_hints" "_law_hints" (aj bA) (ad bA) (aa bA) .none kV32 dc32 pm32 an32 cd32 ct32),sl32⟩)
  (c32:PySem.W.codeIn K cd32 "_law_hints"=true) (k32:PySem.W.keepIn K (.ref f32)=true)
  (a33:PySem.W.nsIn K mainGlobals "_law_right"=some (some (.ref f33)))
  (l33:K.lookup f33=some ⟨oc33,od33,.func (PySem.W.fnOf "_law_right" "_law_right" (aj bI) (ad bI) (aa bI) .none kV33 dc33 pm33 an33 cd33 ct33),sl33⟩)
  (c33:PySem.W.codeIn K cd33 "_law_right"=true) (k33:PySem.W.keepIn K (.ref f33)=true)
  (a34:PySem.W.nsIn K mainGlobals "law"=some (some (.ref f34)))
  (l34:K.lookup f34=some ⟨oc34,od34,.func (PySem.W.fnOf "law" "law" (aj iQ) (ad iQ) (aa iQ) .none kV34 dc34 pm34 an34 cd34 ct34),sl34⟩)
  (c34:PySem.W.codeIn K cd34 "law"=true) (k34:PySem.W.keepIn K (.ref f34)=true)
  (z0:PySem.W.nsIn K mainGlobals "tuple"=some none)
  (z1:PySem.W.nsIn K mainGlobals "len"=some none)
  (z2:PySem.W.nsIn K mainGlobals "enumerate"=some none)
  (z3:PySem.W.nsIn K mainGlobals "zip"=some none)
  (z4:PySem.W.nsIn K mainGlobals "abs"=some none)
  (z5:PySem.W.nsIn K mainGlobals "max"=some none)
  (z6:PySem.W.nsIn K mainGlobals "divmod"=some none)
  (z7:PySem.W.nsIn K mainGlobals "range"=some none)
  (tz1:PySem.W.nsIn K mainGlobals "latest"=some none)
  (tne_coming_through:tT13≠tT14)
  (tne_through_coming:tT14≠tT13)
  (ga0_:PySem.W.nsIn K mainGlobals "NOUGHT"=some (some (.ref ga0)))
  (gl0_:K.lookup ga0=some ⟨.type "tuple",gd0,.seq #[.int 0 t0_0,.int 1 t0_1] gn0,gs0⟩)
  : ∃fd:FuncData,(∀(s:Shared) (v:Value),BindsTo s fd ⟨[v],[]⟩ [("_law_script",v)])∧Dy K∧(∀x∈aV,PySem.W.tabIn K x=none∨∃d,(PyProof.Rows.recsOf q).find? (fun e=>e.name == x)=some d)∧∀base:Heap,K.In base→base.Ns mainGlobals mg→fX K mg base→nG l.prog w K mg base CX0 35 fa fd ["_law_script"] (ax K iM):=by
 have e:=hfa.symm.trans (PySem.W.mg_of X G a34)
 cases e
 have hb:∀x∈b9,mg x=none:=by
  intro x hx
  simp only [b9,List.mem_cons,List.not_mem_nil,or_false] at hx
  rcases hx with rfl|rfl|rfl|rfl|rfl|rfl|rfl|rfl
  ·exact PySem.W.mg_none_of X G z0
  ·exact PySem.W.mg_none_of X G z1
  ·exact PySem.W.mg_none_of X G z2
  ·exact PySem.W.mg_none_of X G z3
  ·exact PySem.W.mg_none_of X G z4
  ·exact PySem.W.mg_none_of X G z5
  ·exact PySem.W.mg_none_of X G z6
  ·exact PySem.W.mg_none_of X G z7
 have hgl:∀x v,glL.lookup x=some v→∃u y,mg x=some u∧RelV y u∧∀m H,R K m H v y:=by
  intro x v hx
  by_cases q0:x=("NOUGHT":Str)
  ·subst q0
   have e:v=aY:=by
    have:glL.lookup ("NOUGHT":Str)=some aY:=rfl
    rw [this] at hx;cases hx;rfl
   subst e
   exact ⟨_,.ref ga0,PySem.W.mg_of X G ga0_,rfl,fun m H=>R_tup.mpr ⟨ga0,[.int 0,.int 1],rfl,.inr ⟨_,_,_,gl0_,rfl,rfl,(show 2≤sizeLine by decide),(.cons ⟨t0_0,rfl⟩ (.cons ⟨t0_1,rfl⟩ .nil))⟩,by simp only [Rs_cons',Rs_nil,R_int,and_self]⟩⟩
  exact absurd hx (by simp only [glL,List.lookup_cons,List.lookup_nil];simp only [beq_eq_false_iff_ne.mpr q0];exact fun z=>nomatch z)
 have F_common_divisor:At K mg "common_divisor" aL ["n","d"]:=At.mk' X G (fun _ _ _ _ _ _ us hl=>ar2 (P:=fun us=>bindArgs _ { pos:=us }=pure (List.zip _ us)) (fun _ _=>rfl) us hl) a0 l0 c0 k0
 have F_fraction:At K mg "fraction" b_ ["n","d"]:=At.mk' X G (fun _ _ _ _ _ _ us hl=>ar2 (P:=fun us=>bindArgs _ { pos:=us }=pure (List.zip _ us)) (fun _ _=>rfl) us hl) a1 l1 c1 k1
 have F_plus:At K mg "plus" gM ["one","other"]:=At.mk' X G (fun _ _ _ _ _ _ us hl=>ar2 (P:=fun us=>bindArgs _ { pos:=us }=pure (List.zip _ us)) (fun _ _=>rfl) us hl) a2 l2 c2 k2
 have F_less:At K mg "less" gC ["one","other"]:=At.mk' X G (fun _ _ _ _ _ _ us hl=>ar2 (P:=fun us=>bindArgs _ { pos:=us }=pure (List.zip _ us)) (fun _ _=>rfl) us hl) a3 l3 c3 k3
 have F_times:At K mg "times" ff ["one","other"]:=At.mk' X G (fun _ _ _ _ _ _ us hl=>ar2 (P:=fun us=>bindArgs _ { pos:=us }=pure (List.zip _ us)) (fun _ _=>rfl) us hl) a4 l4 c4 k4
 have F_is_below:At K mg "is_below" cj ["one","other"]:=At.mk' X G (fun _ _ _ _ _ _ us hl=>ar2 (P:=fun us=>bindArgs _ { pos:=us }=pure (List.zip _ us)) (fun _ _=>rfl) us hl) a5 l5 c5 k5
 have F_crosswise:At K mg "crosswise" bP ["one","other"]:=At.mk' X G (fun _ _ _ _ _ _ us hl=>ar2 (P:=fun us=>bindArgs _ { pos:=us }=pure (List.zip _ us)) (fun _ _=>rfl) us hl) a6 l6 c6 k6
 have F_on_straight:At K mg "on_straight" bj ["near","far","x"]:=At.mk' X G (fun _ _ _ _ _ _ us hl=>ar3 (P:=fun us=>bindArgs _ { pos:=us }=pure (List.zip _ us)) (fun _ _ _=>rfl) us hl) a7 l7 c7 k7
 have F_goes_on:At K mg "goes_on" df ["beginning","ahead","piece"]:=At.mk' X G (fun _ _ _ _ _ _ us hl=>ar3 (P:=fun us=>bindArgs _ { pos:=us }=pure (List.zip _ us)) (fun _ _ _=>rfl) us hl) a8 l8 c8 k8
 have F_lean:At K mg "lean" g9 ["row"]:=At.mk' X G (fun _ _ _ _ _ _ us hl=>ar1 (P:=fun us=>bindArgs _ { pos:=us }=pure (List.zip _ us)) (fun _=>rfl) us hl) a9 l9 c9 k9
 have F_how_many:At K mg "how_many" bW ["stair","holds"]:=At.mk' X G (fun _ _ _ _ _ _ us hl=>ar2 (P:=fun us=>bindArgs _ { pos:=us }=pure (List.zip _ us)) (fun _ _=>rfl) us hl) a10 l10 c10 k10
 have F_beginning_of:At K mg "beginning_of" aX ["stair","at"]:=At.mk' X G (fun _ _ _ _ _ _ us hl=>ar2 (P:=fun us=>bindArgs _ { pos:=us }=pure (List.zip _ us)) (fun _ _=>rfl) us hl) a11 l11 c11 k11
 have F_height:At K mg "height" dQ ["stair","at","t"]:=At.mk' X G (fun _ _ _ _ _ _ us hl=>ar3 (P:=fun us=>bindArgs _ { pos:=us }=pure (List.zip _ us)) (fun _ _ _=>rfl) us hl) a12 l12 c12 k12
 have F_coming:At K mg "coming" ci ["stair","t"]:=At.mk' X G (fun _ _ _ _ _ _ us hl=>ar2 (P:=fun us=>bindArgs _ { pos:=us }=pure (List.zip _ us)) (fun _ _=>rfl) us hl) a13 l13 c13 k13
 have F_through:At K mg "through" bO ["other","beginning","piece"]:=At.mk' X G (fun _ _ _ _ _ _ us hl=>ar3 (P:=fun us=>bindArgs _ { pos:=us }=pure (List.zip _ us)) (fun _ _ _=>rfl) us hl) a14 l14 c14 k14
 have F_then:At K mg "then" gS ["one","other"]:=At.mk' X G (fun _ _ _ _ _ _ us hl=>ar2 (P:=fun us=>bindArgs _ { pos:=us }=pure (List.zip _ us)) (fun _ _=>rfl) us hl) a15 l15 c15 k15
 have F_merged:At K mg "merged" dM ["one","other"]:=At.mk' X G (fun _ _ _ _ _ _ us hl=>ar2 (P:=fun us=>bindArgs _ { pos:=us }=pure (List.zip _ us)) (fun _ _=>rfl) us hl) a16 l16 c16 k16
 have F_cut_at:At K mg "cut_at" dP ["stair","ends"]:=At.mk' X G (fun _ _ _ _ _ _ us hl=>ar2 (P:=fun us=>bindArgs _ { pos:=us }=pure (List.zip _ us)) (fun _ _=>rfl) us hl) a17 l17 c17 k17
 have F_leaders:At K mg "leaders" c_ ["one","other"]:=At.mk' X G (fun _ _ _ _ _ _ us hl=>ar2 (P:=fun us=>bindArgs _ { pos:=us }=pure (List.zip _ us)) (fun _ _=>rfl) us hl) a18 l18 c18 k18
 have F_common:At K mg "common" dG ["some","others"]:=At.mk' X G (fun _ _ _ _ _ _ us hl=>ar2 (P:=fun us=>bindArgs _ { pos:=us }=pure (List.zip _ us)) (fun _ _=>rfl) us hl) a19 l19 c19 k19
 have F_apart:At K mg "apart" e_ ["one","other"]:=At.mk' X G (fun _ _ _ _ _ _ us hl=>ar2 (P:=fun us=>bindArgs _ { pos:=us }=pure (List.zip _ us)) (fun _ _=>rfl) us hl) a20 l20 c20 k20
 have F_crossed:At K mg "crossed" db ["beginning","end","mine","yours"]:=At.mk' X G (fun _ _ _ _ _ _ us hl=>ar4 (P:=fun us=>bindArgs _ { pos:=us }=pure (List.zip _ us)) (fun _ _ _ _=>rfl) us hl) a21 l21 c21 k21
 have F_compared_between:At K mg "compared_between" aB ["beginning","end","mine","yours"]:=At.mk' X G (fun _ _ _ _ _ _ us hl=>ar4 (P:=fun us=>bindArgs _ { pos:=us }=pure (List.zip _ us)) (fun _ _ _ _=>rfl) us hl) a22 l22 c22 k22
 have F_compared:At K mg "compared" cC ["one","other"]:=At.mk' X G (fun _ _ _ _ _ _ us hl=>ar2 (P:=fun us=>bindArgs _ { pos:=us }=pure (List.zip _ us)) (fun _ _=>rfl) us hl) a23 l23 c23 k23
 have F_lesser:At K mg "lesser" dI ["one","other"]:=At.mk' X G (fun _ _ _ _ _ _ us hl=>ar2 (P:=fun us=>bindArgs _ { pos:=us }=pure (List.zip _ us)) (fun _ _=>rfl) us hl) a24 l24 c24 k24
 have F__law_pot:At K mg "_law_pot" cA ["_law_script","_law_k"]:=At.mk' X G (fun _ _ _ _ _ _ us hl=>ar2 (P:=fun us=>bindArgs _ { pos:=us }=pure (List.zip _ us)) (fun _ _=>rfl) us hl) a25 l25 c25 k25
 have F__law_take:At K mg "_law_take" bS ["_law_pot_here","_law_many"]:=At.mk' X G (fun _ _ _ _ _ _ us hl=>ar2 (P:=fun us=>bindArgs _ { pos:=us }=pure (List.zip _ us)) (fun _ _=>rfl) us hl) a26 l26 c26 k26
 have F__law_moment:At K mg "_law_moment" bi ["_law_n","_law_d"]:=At.mk' X G (fun _ _ _ _ _ _ us hl=>ar2 (P:=fun us=>bindArgs _ { pos:=us }=pure (List.zip _ us)) (fun _ _=>rfl) us hl) a27 l27 c27 k27
 have F__law_row:At K mg "_law_row" cB ["_law_pot_here","_law_hints_here"]:=At.mk' X G (fun _ _ _ _ _ _ us hl=>ar2 (P:=fun us=>bindArgs _ { pos:=us }=pure (List.zip _ us)) (fun _ _=>rfl) us hl) a28 l28 c28 k28
 have F__law_lean:At K mg "_law_lean" bQ ["_law_row_here"]:=At.mk' X G (fun _ _ _ _ _ _ us hl=>ar1 (P:=fun us=>bindArgs _ { pos:=us }=pure (List.zip _ us)) (fun _=>rfl) us hl) a29 l29 c29 k29
 have F__law_part:At K mg "_law_part" bT ["_law_pot_here"]:=At.mk' X G (fun _ _ _ _ _ _ us hl=>ar1 (P:=fun us=>bindArgs _ { pos:=us }=pure (List.zip _ us)) (fun _=>rfl) us hl) a30 l30 c30 k30
 have F__law_stair:At K mg "_law_stair" bB ["_law_row_here","_law_part_here"]:=At.mk' X G (fun _ _ _ _ _ _ us hl=>ar2 (P:=fun us=>bindArgs _ { pos:=us }=pure (List.zip _ us)) (fun _ _=>rfl) us hl) a31 l31 c31 k31
 have F__law_hints:At K mg "_law_hints" bA ["_law_row_here"]:=At.mk' X G (fun _ _ _ _ _ _ us hl=>ar1 (P:=fun us=>bindArgs _ { pos:=us }=pure (List.zip _ us)) (fun _=>rfl) us hl) a32 l32 c32 k32
 have F__law_right:At K mg "_law_right" bI ["_law_one","_law_other","_law_third"]:=At.mk' X G (fun _ _ _ _ _ _ us hl=>ar3 (P:=fun us=>bindArgs _ { pos:=us }=pure (List.zip _ us)) (fun _ _ _=>rfl) us hl) a33 l33 c33 k33
 have t_coming:=BN a13 l13 tc13 tv13
 have t_latest:=Gh tz1
 have t_through:=BN a14 l14 tc14 tv14
 refine ⟨PySem.W.fnOf "law" "law" (aj iQ) (ad iQ) (aa iQ) .none kV34 dc34 pm34 an34 cd34 ct34,fun s v=>.of_eq rfl,?lk,?lq,fun base _ _ B=>?_⟩
 case lk =>
  refine C7 fun x hx=>?_
  simp only [aV,List.mem_cons,List.not_mem_nil,or_false] at hx
  rcases hx with rfl|rfl|rfl
  ·refine .inr ⟨_,_,t_coming,tn13,fun y hy ne d e=>?_⟩
   simp only [aV,List.mem_cons,List.not_mem_nil,or_false] at hy
   rcases hy with rfl|rfl|rfl
   ·exact ne rfl
   ·rw [t_latest] at e;cases e
   ·rw [t_through] at e;exact absurd (congrArg (fun z=>z.map Prod.snd) e) (by intro z;injection z with z;exact tne_through_coming z)
  ·exact .inl t_latest
  ·refine .inr ⟨_,_,t_through,tn14,fun y hy ne d e=>?_⟩
   simp only [aV,List.mem_cons,List.not_mem_nil,or_false] at hy
   rcases hy with rfl|rfl|rfl
   ·rw [t_coming] at e;exact absurd (congrArg (fun z=>z.map Prod.snd) e) (by intro z;injection z with z;exact tne_coming_through z)
   ·rw [t_latest] at e;cases e
   ·exact ne rfl
 case lq =>
  intro x hx
  simp only [aV,List.mem_cons,List.not_mem_nil,or_false] at hx
  rcases hx with rfl|rfl|rfl
  ·exact .inr ⟨_,tr13⟩
  ·exact .inl t_latest
  ·exact .inr ⟨_,tr14⟩
 have G0:GOk l.prog w K mg base dv Γ:=⟨fun f x hf=>absurd hf (Nat.not_lt_zero _),hb,hgl,Γm⟩
 have G1:GOk l.prog w K mg base iT Γ:=G0.next rfl rfl rfl rfl rfl (jJ F_common_divisor G0)
 have G2:GOk l.prog w K mg base vP Γ:=G1.next rfl rfl rfl rfl rfl (qX F_fraction G1)
 have G3:GOk l.prog w K mg base u5 Γ:=G2.next rfl rfl rfl rfl rfl (CJ F_plus G2)
 have G4:GOk l.prog w K mg base pV Γ:=G3.next rfl rfl rfl rfl rfl (C4 F_less G3)
 have G5:GOk l.prog w K mg base jb Γ:=G4.next rfl rfl rfl rfl rfl (zE F_times G4)
 have G6:GOk l.prog w K mg base ie Γ:=G5.next rfl rfl rfl rfl rfl (rE F_is_below G5)
 have G7:GOk l.prog w K mg base fm Γ:=G6.next rfl rfl rfl rfl rfl (pW F_crosswise G6)
 have G8:GOk l.prog w K mg base kE Γ:=G7.next rfl rfl rfl rfl rfl (nA F_on_straight G7)
 have G9:GOk l.prog w K mg base uC Γ:=G8.next rfl rfl rfl rfl rfl (vK F_goes_on G8)
 have G10:GOk l.prog w K mg base iS Γ:=G9.next rfl rfl rfl rfl rfl (CW F_lean G9)
 have M:=sf F_how_many G10
 have G11:GOk l.prog w K mg base em Γ:=G10.next rfl rfl rfl rfl rfl (sM F_how_many)
 have G12:GOk l.prog w K mg base mv Γ:=G11.next rfl rfl rfl rfl rfl (lr F_beginning_of G11)
 have G13:GOk l.prog w K mg base mO Γ:=G12.next rfl rfl rfl rfl rfl (wT F_height G12)
 have G14:GOk l.prog w K mg base kh Γ:=G13.next rfl rfl rfl rfl rfl (wY a13 l13 t_coming B F_coming c13 (PySem.W.mg_of X G a13) G13 M)
 have G15:GOk l.prog w K mg base vk Γ:=G14.next rfl rfl rfl rfl rfl (tL a14 l14 t_through B F_through c14 (PySem.W.mg_of X G a14) G14 M)
 have G16:GOk l.prog w K mg base mj Γ:=G15.next rfl rfl rfl rfl rfl (CL F_then G15)
 have G17:GOk l.prog w K mg base mS Γ:=G16.next rfl rfl rfl rfl rfl (wR F_merged G16)
 have G18:GOk l.prog w K mg base kJ Γ:=G17.next rfl rfl rfl rfl rfl (xj F_cut_at G17)
 have G19:GOk l.prog w K mg base nq Γ:=G18.next rfl rfl rfl rfl rfl (uS F_leaders G18)
 have G20:GOk l.prog w K mg base pA Γ:=G19.next rfl rfl rfl rfl rfl (w9 F_common G19)
 have G21:GOk l.prog w K mg base j7 Γ:=G20.next rfl rfl rfl rfl rfl (Bf F_apart G20)
 have G22:GOk l.prog w K mg base cY Γ:=G21.next rfl rfl rfl rfl rfl (uw F_crossed G21)
 have G23:GOk l.prog w K mg base i8 Γ:=G22.next rfl rfl rfl rfl rfl (iH F_compared_between G22)
 have G24:GOk l.prog w K mg base m5 Γ:=G23.next rfl rfl rfl rfl rfl (qT F_compared G23)
 have G25:GOk l.prog w K mg base jh Γ:=G24.next rfl rfl rfl rfl rfl (wI F_lesser G24)
 have G26:GOk l.prog w K mg base gZ Γ:=G25.next rfl rfl rfl rfl rfl (sI F__law_pot G25)
 have G27:GOk l.prog w K mg base fo Γ:=G26.next rfl rfl rfl rfl rfl (o9 F__law_take G26)
 have G28:GOk l.prog w K mg base iY Γ:=G27.next rfl rfl rfl rfl rfl (mH F__law_moment G27)
 have G29:GOk l.prog w K mg base gY Γ:=G28.next rfl rfl rfl rfl rfl (sE F__law_row G28)
 have G30:GOk l.prog w K mg base gW Γ:=G29.next rfl rfl rfl rfl rfl (qa F__law_lean G29)
 have G31:GOk l.prog w K mg base fW Γ:=G30.next rfl rfl rfl rfl rfl (pe F__law_part G30)
 have G32:GOk l.prog w K mg base ga Γ:=G31.next rfl rfl rfl rfl rfl (oa F__law_stair G31)
 have G33:GOk l.prog w K mg base gh Γ:=G32.next rfl rfl rfl rfl rfl (n9 F__law_hints G32)
 have G34:GOk l.prog w K mg base DO Γ:=G33.next rfl rfl rfl rfl rfl (nY F__law_right G33)
 exact CZ (qual:="law") (Am (st:=iQ) l34 c34 k34) Eo rfl rfl Hd G34 (fun as st Q=>B7) (fun as st Q=>Hq)
end My
namespace PySem.W.Fast
def tw10041575976906782522:=()
def tw10106411731220382062:=()
def tw1016112090154457431:=()
def tw10163487435021608928:=()
def tw10165403497387268202:=()
def tw10288410686422488221:=()
def tw10302499576866705917:=()
def tw10350351387440704363:=()
def tw10403730441706300887:=()
def tw10450107131396468315:=()
def tw10513499303325381454:=()
def tw10572187869649954382:=()
def tw10583660863985998245:=()
def tw1060365531788407341:=()
def tw10613799360983094830:=()
def tw10659176303979151219:=()
def tw10664463230212442863:=()
def tw10729736887362971976:=()
def tw10764940685758213810:=()
def tw10776269078205103118:=()
def tw10905224712887848695:=()
def tw10918641822850371393:=()
def tw11200029968060118723:=()
def tw11214488427379457125:=()
def tw1136356118252953376:=()
def tw11404111377878943349:=()
def tw11452284610922101694:=()
def tw1147446900722610756:=()
def tw11519367804669614935:=()
def tw1167082911897962123:=()
def tw1174579134661293451:=()
def tw11747595084095084155:=()
def tw11854444805603161464:=()
def tw11873569190466216808:=()
def tw11885633584931264249:=()
def tw11959239542676046063:=()
def tw12072827349497024094:=()
def tw1215039762099998218:=()
def tw12169474647475376612:=()
def tw12172172668465159039:=()
def tw12192087191761380651:=()
def tw12283227975521793269:=()
def tw12460536409765549946:=()
def tw12466943293482937036:=()
def tw12475359768065656420:=()
def tw12493822586392159546:=()
def tw12500991319010955419:=()
def tw12525145697561287549:=()
def tw12665269555504111473:=()
def tw12782009243226093187:=()
def tw1290140722368675800:=()
def tw1292511266311956785:=()
def tw13005681504138342876:=()
def tw1305062275939985908:=()
def tw13118551893990673763:=()
def tw13252633073450769925:=()
def tw13265179857973063258:=()
def tw13311428084964281443:=()
def tw13418369033256613751:=()
def tw13517969296130328790:=()
def tw13521286045677610348:=()
def tw13577531042690124367:=()
def tw13678187623280370120:=()
def tw13697579730312139075:=()
def tw13698247081521925783:=()
def tw13716205760965635496:=()
def tw13744205198451593839:=()
def tw13750606359865581953:=()
def tw13807816146929344129:=()
def tw13836920418083509594:=()
def tw13901461669757504815:=()
def tw1401792338239870291:=()
def tw14032124382664989744:=()
def tw14173115905969701852:=()
def tw14416268901053084505:=()
def tw14555446703571646955:=()
def tw14718211052832460004:=()
def tw14731579503233081934:=()
def tw14746388801590798322:=()
def tw14754890886343021703:=()
def tw14856645537229997505:=()
def tw14897291369485350115:=()
def tw14904494755192586274:=()
def tw15048383806924185267:=()
def tw15082828602392636087:=()
def tw15221332955168250554:=()
def tw15315196228979035348:=()
def tw15476109616762092155:=()
def tw15502418847102484830:=()
def tw15715941498121617340:=()
def tw15747735146087234943:=()
def tw15808299422255966939:=()
def tw15878923292831562576:=()
def tw15881009752126262868:=()
def tw1591206693402713078:=()
def tw15977079014872027640:=()
def tw1598263415333629979:=()
def tw16009364509653020226:=()
def tw16036482062692566601:=()
def tw16043202692215891897:=()
def tw16062203993757448015:=()
def tw16208709883916117000:=()
def tw16217290051372114573:=()
def tw16442389040830976551:=()
def tw16490538260371102009:=()
def tw16648244317710776726:=()
def tw16733450765232822613:=()
def tw16801548321293259521:=()
def tw16859157086436106893:=()
def tw1686296437812762530:=()
def tw16894626063619680394:=()
def tw17043096118288495878:=()
def tw17065690519123885992:=()
def tw17071549558717171742:=()
def tw17074277732609012057:=()
def tw17080341468136372048:=()
def tw17130359460527836037:=()
def tw17216703993827519830:=()
def tw17323589157089714090:=()
def tw17385095318517048180:=()
def tw17610920449896157940:=()
def tw17625948094410722752:=()
def tw17630074960977441497:=()
def tw17638528710769777955:=()
def tw17667104200830025975:=()
def tw17741171680095916635:=()
def tw17749068086839290713:=()
def tw17823117033055930413:=()
def tw17835714230705291828:=()
def tw18122883221227293621:=()
def tw18282788466511903241:=()
def tw18289371132332443226:=()
def tw18355875648906843617:=()
def tw1836190662851234763:=()
def tw1861145812911684272:=()
def tw1876960256587451325:=()
def tw19249599444270596:=()
def tw1972582747938644215:=()
def tw1997159721676120540:=()
def tw2343254780116149714:=()
def tw2358058288293699743:=()
def tw2434716360604469027:=()
def tw2472334489893734570:=()
def tw2488138604439515503:=()
def tw2496034989326002562:=()
def tw2580281269804579342:=()
def tw2580961672801681588:=()
def tw2625386078895263622:=()
def tw2774167151761526776:=()
def tw277442116363308833:=()
def tw2833600669240251998:=()
def tw306783926533646441:=()
def tw3085093829417413966:=()
def tw3181009510500028415:=()
def tw3263225847560150489:=()
def tw330362572508450914:=()
def tw3368567761841176058:=()
def tw3467555685415090298:=()
def tw3593699254578189036:=()
def tw3596833092832390226:=()
def tw3674587729960024762:=()
def tw3774102815819359841:=()
def tw3785488245298189457:=()
def tw3814718054369065434:=()
def tw3850406943933297677:=()
def tw3871683006956841247:=()
def tw3900571119620462379:=()
def tw3954256574295903674:=()
def tw3961351079970947787:=()
def tw4004295410070544402:=()
def tw4100624502274783140:=()
def tw412265216219917170:=()
def tw4133439939761505416:=()
def tw4221458715768871893:=()
def tw4222241241181533164:=()
def tw4320863215547086041:=()
def tw4348769049033216228:=()
def tw4594669474319697721:=()
def tw4726053725800464321:=()
def tw4734042470999037500:=()
def tw4744296910721305695:=()
def tw4848755884127263092:=()
def tw493964769825853057:=()
def tw496830139218315529:=()
def tw5061556818041369113:=()
def tw5247898159073580194:=()
def tw5252056473174712691:=()
def tw5344960487417684175:=()
def tw5360664966383438084:=()
def tw5406604756983763817:=()
def tw5413659493776338306:=()
def tw5619605984692962178:=()
def tw5639876056254639554:=()
def tw5743417562360234778:=()
def tw5785572629840686548:=()
def tw5801840291925125408:=()
def tw5821346937467607437:=()
def tw588866753166475967:=()
def tw5928325675336828551:=()
def tw6001578203174586321:=()
def tw6106561523480959531:=()
def tw6194600007529697589:=()
def tw6416340015388997675:=()
def tw6527175659329954100:=()
def tw6534396564084887328:=()
def tw6620698674624577055:=()
def tw6627359874140280703:=()
def tw6807446451310362077:=()
def tw6818769206149942091:=()
def tw6901186985905286034:=()
def tw6918112557849339264:=()
def tw6944508924368572797:=()
def tw6958606303767295783:=()
def tw6965264695809842984:=()
def tw6985284344028663229:=()
def tw7023641686238815532:=()
def tw7113951695765523654:=()
def tw7138800045188732852:=()
def tw7166935627485134402:=()
def tw7171958809361974072:=()
def tw7251636369311866708:=()
def tw7254553410872348520:=()
def tw7337037584763059817:=()
def tw7493725543292115109:=()
def tw759785894156525977:=()
def tw7633887389469883498:=()
def tw7776107354101619193:=()
def tw7805898538457503867:=()
def tw7836416291249819636:=()
def tw7925176328252273018:=()
def tw7939308365860513368:=()
def tw8105669552552862260:=()
def tw8110949408067967304:=()
def tw8128738225011204203:=()
def tw8195111876072652037:=()
def tw8300937976231016430:=()
def tw8397386762939166642:=()
def tw8434549023699348562:=()
def tw8448050792275201390:=()
def tw864671060821121224:=()
def tw8752163227215586778:=()
def tw8795736887805230720:=()
def tw8842784243771779043:=()
def tw9027508539746547975:=()
def tw9158118051541339733:=()
def tw9220969636068174040:=()
def tw9348305687930574613:=()
def tw9406153545320249267:=()
def tw9420218456641879667:=()
def tw9441804386861598203:=()
def tw9523331192138545734:=()
def tw9569761199808690301:=()
def tw9652290014955594916:=()
def tw9668414057420029102:=()
def tw9739729514384673663:=()
def tw9831142811793136071:=()
end PySem.W.Fast
open PySem PySem.W PyProof.Rows
set_option maxRecDepth 100000 in
set_option maxHeartbeats 0 in
theorem PySem.Challenge.cw_hourstairs_k44_whole_then_over_lesser_holds : PySem.Challenge.rw_hourstairs_k44_whole_then_over_lesser.Holds := by
 w_on;o_law;k_head;(case hw=>w_witness2)
 k_fill
 refine FW.walkF (l:=PySem.Challenge.rw_hourstairs_k44_whole_then_over_lesser) (k:=35) (x:="_law_script") rfl rfl ⟨rfl,by decide,by decide,rfl⟩ (fun w h Y=>PySem.W.km_in_of Y) ?F
 case F =>
  intro w mg fa h KX G hmg
  refine' My.all_mk KX G hmg ?a0 ?l0 ?c0 ?k0 ?a1 ?l1 ?c1 ?k1 ?a2 ?l2 ?c2 ?k2 ?a3 ?l3 ?c3 ?k3 ?a4 ?l4 ?c4 ?k4 ?a5 ?l5 ?c5 ?k5 ?a6 ?l6 ?c6 ?k6 ?a7 ?l7 ?c7 ?k7 ?a8 ?l8 ?c8 ?k8 ?a9 ?l9 ?c9 ?k9 ?a10 ?l10 ?c10 ?k10 ?a11 ?l11 ?c11 ?k11 ?a12 ?l12 ?c12 ?k12 ?a13 ?l13 ?c13 ?k13 ?tc13 ?tv13 ?tn13 ?tr13 ?a14 ?l14 ?c14 ?k14 ?tc14 ?tv14 ?tn14 ?tr14 ?a15 ?l15 ?c15 ?k15 ?a16 ?l16 ?c16 ?k16 ?a17 ?l17 ?c17 ?k17 ?a18 ?l18 ?c18 ?k18 ?a19 ?l19 ?c19 ?k19 ?a20 ?l20 ?c20 ?k20 ?a21 ?l21 ?c21 ?k21 ?a22 ?l22 ?c22 ?k22 ?a23 ?l23 ?c23 ?k23 ?a24 ?l24 ?c24 ?k24 ?a25 ?l25 ?c25 ?k25 ?a26 ?l26 ?c26 ?k26 ?a27 ?l27 ?c27 ?k27 ?a28 ?l28 ?c28 ?k28 ?a29 ?l29 ?c29 ?k29 ?a30 ?l30 ?c30 ?k30 ?a31 ?l31 ?c31 ?k31 ?a32 ?l32 ?c32 ?k32 ?a33 ?l33 ?c33 ?k33 ?a34 ?l34 ?c34 ?k34 ?z0 ?z1 ?z2 ?z3 ?z4 ?z5 ?z6 ?z7 ?tz1 ?tne_coming_through ?tne_through_coming ?ga0_ ?gl0_
  (case a0=>k_is)
  (case l0=>k_is)
  (case c0=>k_is)
  (case k0=>k_is)
  (case a1=>k_is)
  (case l1=>k_is)
  (case c1=>k_is)
  (case k1=>k_is)
  (case a2=>k_is)
  (case l2=>k_is)
  (case c2=>k_is)
  (case k2=>k_is)
  (case a3=>k_is)
  (case l3=>k_is)
  (case c3=>k_is)
  (case k3=>k_is)
  (case a4=>k_is)
  (case l4=>k_is)
  (case c4=>k_is)
  (case k4=>k_is)
  (case a5=>k_is)
  (case l5=>k_is)
  (case c5=>k_is)
  (case k5=>k_is)
  (case a6=>k_is)
  (case l6=>k_is)
  (case c6=>k_is)
  (case k6=>k_is)
  (case a7=>k_is)
  (case l7=>k_is)
  (case c7=>k_is)
  (case k7=>k_is)
  (case a8=>k_is)
  (case l8=>k_is)
  (case c8=>k_is)
  (case k8=>k_is)
  (case a9=>k_is)
  (case l9=>k_is)
  (case c9=>k_is)
  (case k9=>k_is)
  (case a10=>k_is)
  (case l10=>k_is)
  (case c10=>k_is)
  (case k10=>k_is)
  (case a11=>k_is)
  (case l11=>k_is)
  (case c11=>k_is)
  (case k11=>k_is)
  (case a12=>k_is)
  (case l12=>k_is)
  (case c12=>k_is)
  (case k12=>k_is)
  (case a13=>k_is)
  (case l13=>k_is)
  (case c13=>k_is)
  (case k13=>k_is)
  (case tc13=>k_is)
  (case tv13=>rfl)
  (case tn13=>rfl)
  (case tr13=>rfl)
  (case a14=>k_is)
  (case l14=>k_is)
  (case c14=>k_is)
  (case k14=>k_is)
  (case tc14=>k_is)
  (case tv14=>rfl)
  (case tn14=>rfl)
  (case tr14=>rfl)
  (case a15=>k_is)
  (case l15=>k_is)
  (case c15=>k_is)
  (case k15=>k_is)
  (case a16=>k_is)
  (case l16=>k_is)
  (case c16=>k_is)
  (case k16=>k_is)
  (case a17=>k_is)
  (case l17=>k_is)
  (case c17=>k_is)
  (case k17=>k_is)
  (case a18=>k_is)
  (case l18=>k_is)
  (case c18=>k_is)
  (case k18=>k_is)
  (case a19=>k_is)
  (case l19=>k_is)
  (case c19=>k_is)
  (case k19=>k_is)
  (case a20=>k_is)
  (case l20=>k_is)
  (case c20=>k_is)
  (case k20=>k_is)
  (case a21=>k_is)
  (case l21=>k_is)
  (case c21=>k_is)
  (case k21=>k_is)
  (case a22=>k_is)
  (case l22=>k_is)
  (case c22=>k_is)
  (case k22=>k_is)
  (case a23=>k_is)
  (case l23=>k_is)
  (case c23=>k_is)
  (case k23=>k_is)
  (case a24=>k_is)
  (case l24=>k_is)
  (case c24=>k_is)
  (case k24=>k_is)
  (case a25=>k_is)
  (case l25=>k_is)
  (case c25=>k_is)
  (case k25=>k_is)
  (case a26=>k_is)
  (case l26=>k_is)
  (case c26=>k_is)
  (case k26=>k_is)
  (case a27=>k_is)
  (case l27=>k_is)
  (case c27=>k_is)
  (case k27=>k_is)
  (case a28=>k_is)
  (case l28=>k_is)
  (case c28=>k_is)
  (case k28=>k_is)
  (case a29=>k_is)
  (case l29=>k_is)
  (case c29=>k_is)
  (case k29=>k_is)
  (case a30=>k_is)
  (case l30=>k_is)
  (case c30=>k_is)
  (case k30=>k_is)
  (case a31=>k_is)
  (case l31=>k_is)
  (case c31=>k_is)
  (case k31=>k_is)
  (case a32=>k_is)
  (case l32=>k_is)
  (case c32=>k_is)
  (case k32=>k_is)
  (case a33=>k_is)
  (case l33=>k_is)
  (case c33=>k_is)
  (case k33=>k_is)
  (case a34=>k_is)
  (case l34=>k_is)
  (case c34=>k_is)
  (case k34=>k_is)
  (case z0=>k_is)
  (case z1=>k_is)
  (case z2=>k_is)
  (case z3=>k_is)
  (case z4=>k_is)
  (case z5=>k_is)
  (case z6=>k_is)
  (case z7=>k_is)
  (case tz1=>k_is)
  (case tne_coming_through=>decide)
  (case tne_through_coming=>decide)
  (case ga0_=>k_is)
  (case gl0_=>k_is)
