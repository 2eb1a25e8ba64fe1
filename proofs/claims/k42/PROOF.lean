import PyProof.Rows.All
import Wide.All
import OpenK.AllK
import Wide.FinOn
import Lean
import PyProof.EqAt
import PyProof.EqKinds
import PyProof.TupleCall
import KE.LcSums
import PySem.Challenge.RW_hourstairs_k42_whole_lesser_of_two
set_option genSizeOfSpec false
set_option Elab.async false
set_option linter.all false
set_option maxRecDepth 100000
namespace L2
open PySem PySem.Spec PyProof.Rows
noncomputable abbrev Key:=Sum Int Str
noncomputable def FK:Key→Value→Bool
 | .inl k,v=>Value.isInt k v
 | .inr x,v=>Value.isStrOf x v
noncomputable def Ju (w:World):Key→Int
 | .inl k=>hashInt k
 | .inr x=>hashStr w x
theorem bM:∀ {k:Key} {v:Value},FK k v=true→(∃i t,k=Sum.inl i∧v=Value.int i t)∨(∃x t,k=Sum.inr x∧v=Value.str x t)
 | .inl i,v,h=>by
  obtain ⟨t,e⟩:=Value.isInt_shape (k:=i) (v:=v) h
  exact .inl ⟨i,t,rfl,e⟩
 | .inr x,v,h=>by
  obtain ⟨t,e⟩:=Value.isStrOf_shape (x:=x) (v:=v) h
  exact .inr ⟨x,t,rfl,e⟩
theorem GW (a b:Int):decide ((Sum.inl a:Key)=Sum.inl b)=(a == b):=by
 by_cases e:a=b
 ·subst e;simp
 ·have h:¬(Sum.inl a:Key)=Sum.inl b:=fun q=>e (Sum.inl.inj q)
  rw [decide_eq_false h]
  exact (beq_eq_false_iff_ne.mpr e).symm
theorem HB (a b:Str):decide ((Sum.inr a:Key)=Sum.inr b)=decide (a=b):=by
 by_cases e:a=b
 ·subst e;simp
 ·have h:¬(Sum.inr a:Key)=Sum.inr b:=fun q=>e (Sum.inr.inj q)
  rw [decide_eq_false h,decide_eq_false e]
theorem GJ (a:Int) (b:Str):decide ((Sum.inl a:Key)=Sum.inr b)=false:=decide_eq_false (fun q=>nomatch q)
theorem Hr (a:Str) (b:Int):decide ((Sum.inr a:Key)=Sum.inl b)=false:=decide_eq_false (fun q=>nomatch q)
noncomputable def sS (prog:Program) (w:World):PySem.KeyKind prog w Key where
 is:=FK
 hash:=Ju w
 inj:=fun v a b ha hb=>by
  rcases bM ha with ⟨i,t,rfl,rfl⟩|⟨x,t,rfl,rfl⟩
  ·rcases bM hb with ⟨j,u,rfl,e⟩|⟨y,u,rfl,e⟩
   ·injection e with e1 _;rw [e1]
   ·exact nomatch e
  ·rcases bM hb with ⟨j,u,rfl,e⟩|⟨y,u,rfl,e⟩
   ·exact nomatch e
   ·injection e with e1 _;rw [e1]
 byValue:=fun k v h=>by
  rcases bM h with ⟨i,t,rfl,rfl⟩|⟨x,t,rfl,rfl⟩ <;> rfl
 pyHash:=fun hv h=>by
  rcases bM hv with ⟨i,t,rfl,rfl⟩|⟨x,t,rfl,rfl⟩
  ·exact wpAny_pyHash_int h
  ·exact wpAny_pyHash_str h
 eqBool:=fun hu hv h=>by
  rcases bM hu with ⟨i,t,rfl,rfl⟩|⟨x,t,rfl,rfl⟩
  ·rcases bM hv with ⟨j,u,rfl,rfl⟩|⟨y,u,rfl,rfl⟩
   ·rw [GW] at h;exact wpAny_eqBool_int h
   ·rw [GJ] at h;exact SeqAt.EqAt.int_str i t y u _ _ _ _ h
  ·rcases bM hv with ⟨j,u,rfl,rfl⟩|⟨y,u,rfl,rfl⟩
   ·rw [Hr] at h;exact SeqAt.EqAt.str_int x t j u _ _ _ _ h
   ·rw [HB] at h;exact wpAny_eqBool_str h
 «strs»:=fun k x t v h=>by
  rcases bM h with ⟨i,u,rfl,e⟩|⟨y,u,rfl,e⟩
  ·exact nomatch e
  ·injection e with e1 _
   subst e1
   cases v <;> rfl
end L2
namespace L2
open PySem PySem.Spec PyProof.Rows
inductive V where
 | non|bl (b:Bool)|int (i:Int)|str (x:Str)|byt (b:Array UInt8)|flt (b:UInt64)|ref (a:Addr)|ty (n:String)
 deriving DecidableEq
noncomputable def RelV:V→Value→Prop
 | .non,u=>u=Value.none
 | .bl b,u=>u=Value.bool b
 | .int i,u=>∃t,u=Value.int i t
 | .str x,u=>∃t,u=Value.str x t
 | .byt b,u=>∃t,u=Value.bytes b t
 | .flt b,u=>∃t,u=Value.float b t
 | .ref a,u=>u=Value.ref a
 | .ty n,u=>u=Value.type n
noncomputable abbrev Vals:List V→List Value→Prop:=Paired RelV
theorem Vals.length {xs:List V} {us:List Value} (r:Vals xs us):xs.length=us.length:=Paired.length r
theorem Vals.get:∀ {xs:List V} {us:List Value} {i:Nat} {x:V},Vals xs us→xs[i]?=some x→∃u,us[i]?=some u∧RelV x u
 | _,_,_,_,.nil,e=>by simp at e
 | _,_,0,_,.cons r _,e=>by simp at e;subst e;exact ⟨_,rfl,r⟩
 | _,_,i+1,x,.cons _ t,e=>by
  obtain ⟨u,h1,h2⟩:=Vals.get (i:=i) (x:=x) t (by simpa using e)
  exact ⟨u,by simpa using h1,h2⟩
theorem Vals.set {x:V} {u:Value} (r:RelV x u):∀ {xs:List V} {us:List Value} (i:Nat),Vals xs us→Vals (xs.set i x) (us.set i u)
 | _,_,_,.nil=>.nil
 | _,_,0,.cons _ t=>.cons r t
 | _,_,i+1,.cons q t=>.cons q (Vals.set r i t)
theorem Vals.append:∀ {xs ys:List V} {us ws:List Value},Vals xs us→Vals ys ws→Vals (xs++ys) (us++ws)
 | _,_,_,_,.nil,s=>s
 | _,_,_,_,.cons r t,s=>.cons r (Vals.append t s)
theorem Vals.take:∀ {xs:List V} {us:List Value} (n:Nat),Vals xs us→Vals (xs.take n) (us.take n)
 | _,_,0,_=>.nil
 | _,_,_+1,.nil=>.nil
 | _,_,n+1,.cons r t=>.cons r (Vals.take n t)
theorem Vals.drop:∀ {xs:List V} {us:List Value} (n:Nat),Vals xs us→Vals (xs.drop n) (us.drop n)
 | _,_,0,r=>r
 | _,_,_+1,.nil=>.nil
 | _,_,n+1,.cons _ t=>Vals.drop n t
noncomputable def GX:Option V→Option Value→Prop
 | some v,some u=>RelV v u
 | none,none=>True
 | _,_=>False
noncomputable def KV {κ:Type}:List (κ × V)→List (κ × Value)→Prop:=Paired fun (p:κ × V) (q:κ × Value)=>p.1=q.1∧RelV p.2 q.2
noncomputable def kV:Key→V
 | .inl i=>.int i
 | .inr x=>.str x
inductive HO where
 | lst (xs:List V)
 | tup (xs:List V)
 | dK (kvs:List (Key × V))|dT (kvs:List (List Key × V))
 | set (S:Int→Bool) (n:Nat)
 | ins (C dx:Addr) (fs:List (Str × V))
 | own (x:Addr)
 | xd (fs:List (Str × V))
 | met (f x:Addr)
 | rng (lo hi:Int)
 | frz (o:Obj) (u:HO)
 | tbl (ps:Array Value)
 | ext (φ:Heap→Prop)
noncomputable abbrev Hp:=Addr→Option HO
noncomputable def upd (H:Hp) (a:Addr) (o:HO):Hp:=fun b=>if b=a then some o else H b
theorem cQ {H:Hp} {a:Addr} {o:HO}:upd H a o a=some o:=by unfold upd;rw [if_pos rfl]
theorem am {H:Hp} {a b:Addr} {o:HO} (h:b≠a):upd H a o b=H b:=by unfold upd;rw [if_neg h]
theorem aI {H:Hp} {a b:Addr} {o:HO} (h:H a=some o) (h':H b=none):a≠b:=by
 intro e;subst e;rw [h] at h';cases h'
section
variable (P:Program) (w:World)
noncomputable def ObjOk (H:Hp) (h:Heap) (a:Addr):HO→Prop
 | .lst xs=>xs.length≤sizeLine∧∃(its:List Value) (n:Nat),Vals xs its∧h.get? a=some { cls:=.type "list",data:=.seq its.toArray n }
 | .tup xs=>xs.length≤sizeLine∧∃its:List Value,Vals xs its∧IsTup h a its.toArray
 | .dK kvs=>kvs.length≤sizeLine∧(a == sysModules)=false∧∃vs,KV kvs vs∧h.DictOf (sS P w) a vs
 | .dT kvs=>kvs.length≤sizeLine∧(a == sysModules)=false∧∃xs:List (List Key × Addr × Value),
   Paired (fun (p:List Key × V) (q:List Key × Addr × Value)=>p.1=q.1∧H q.2.1=some (.tup (p.1.map kV))∧RelV p.2 q.2.2) kvs xs ∧
   ∃o es ep,h.get? a=some o∧o.ExactDict∧o.data=.dict es ep∧es.toList=xs.map (entryOfKey (tupleKind (sS P w)))∧(xs.map (·.1)).Nodup
 | .set S n=>h.SetOf (intKind P w) a S n
 | .ins C dx fs=>H dx=some (.own a)∧fs.length≤1000∧dx≠a∧h.get? a=some (PySem.W.instObj C dx) ∧
   ∃mA,h.Ns1 dx mA∧(∀f,GX (fs.lookup f) (mA f))∧PySem.Within mA (fs.map (·.1))
 | .own _=>∃o,h.get? a=some o
 | .xd fs=>∃mA,h.Ns1 a mA∧∀f,GX (fs.lookup f) (mA f)
 | .rng lo hi=>∃t u v,h.get? a=some { cls:=.type "range",data:=.fields #[.int lo t,.int hi u,.int 1 v] }
 | .frz o u=>h.get? a=some o∧ObjOk H h a u
 | .tbl ps=>h.get? a=some { cls:=.none,data:=.fields ps }
 | .met f x=>h.get? a=some (PySem.W.methodObj (.ref f) (.ref x))
 | .ext φ=>φ h∧(∃o,h.get? a=some o)∧∀h1 h2:Heap,φ h1→(∀o,h1.get? a=some o→h2.get? a=some o)→φ h2
noncomputable def HOk (H:Hp) (h:Heap):Prop:=∀a o,H a=some o→ObjOk P w H h a o
end
section
variable {P:Program} {w:World} {H H':Hp} {h h':Heap} {a:Addr} {o:HO}
theorem ObjOk.lt (x:ObjOk P w H h a o):a<h.objs.size:=by
 cases o with
 | lst xs=>obtain ⟨_,_,_,_,e⟩:=x;exact Heap.lt_size e
 | tup xs=>obtain ⟨_,_,_,p⟩:=x;exact p.lt
 | dK kvs=>obtain ⟨_,_,_,_,o,_,_,e,_⟩:=x;exact Heap.lt_size e
 | dT kvs=>obtain ⟨_,_,_,_,o,_,_,e,_⟩:=x;exact Heap.lt_size e
 | set S n=>obtain ⟨o,_,_,_,e,_⟩:=x;exact Heap.lt_size e
 | ins C dx fs=>obtain ⟨_,_,_,e,_⟩:=x;exact Heap.lt_size e
 | own y=>obtain ⟨_,e⟩:=x;exact Heap.lt_size e
 | xd fs=>obtain ⟨_,⟨_,_,_,e,_⟩,_⟩:=x;exact Heap.lt_size e
 | rng lo hi=>obtain ⟨_,_,_,e⟩:=x;exact Heap.lt_size e
 | frz ob u=>obtain ⟨e,_⟩:=x;exact Heap.lt_size e
 | tbl ps=>exact Heap.lt_size (show h.get? a=some _ from x)
 | met f y=>exact Heap.lt_size (show h.get? a=some _ from x)
 | ext φ=>obtain ⟨_,⟨_,e⟩,_⟩:=x;exact Heap.lt_size e
theorem Paired.mapP {α β:Type} {F G:α→β→Prop}:∀ {l₁:List α} {l₂:List β},Paired F l₁ l₂→(∀a b,F a b→G a b)→Paired G l₁ l₂
 | _,_,.nil,_=>.nil
 | _,_,.cons r t,f=>.cons (f _ _ r) (Paired.mapP t f)
theorem ObjOk.stay (x:ObjOk P w H h a o) (k:∀b u,(b=a∨H b=some (.own a))→h.get? b=some u→h'.get? b=some u)
  (ho:∀b,H b=some (.own a)→H' b=some (.own a)) (ht:∀b xs,H b=some (.tup xs)→H' b=some (.tup xs)):ObjOk P w H' h' a o:=by
 induction o with
 | lst xs=>obtain ⟨z,its,n,r,e⟩:=x;exact ⟨z,its,n,r,k _ _ (.inl rfl) e⟩
 | tup xs=>obtain ⟨z,its,r,ob,e,c⟩:=x;exact ⟨z,its,r,ob,k _ _ (.inl rfl) e,c⟩
 | dK kvs=>obtain ⟨z,y,vs,r,ob,es,ep,e,c⟩:=x;exact ⟨z,y,vs,r,ob,es,ep,k _ _ (.inl rfl) e,c⟩
 | dT kvs =>
  obtain ⟨z,y,xs,r,ob,es,ep,e,c⟩:=x
  exact ⟨z,y,xs,Paired.mapP r fun p q z=>⟨z.1,ht _ _ z.2.1,z.2.2⟩,ob,es,ep,k _ _ (.inl rfl) e,c⟩
 | set S n=>obtain ⟨ob,es,ep,t,e,c⟩:=x;exact ⟨ob,es,ep,t,k _ _ (.inl rfl) e,c⟩
 | ins C dx fs =>
  obtain ⟨d,z,ne,e,mA,⟨od,es,ep,e2,c⟩,r⟩:=x
  exact ⟨ho _ d,z,ne,k _ _ (.inl rfl) e,mA,⟨od,es,ep,k _ _ (.inr d) e2,c⟩,r⟩
 | own y=>obtain ⟨ob,e⟩:=x;exact ⟨ob,k _ _ (.inl rfl) e⟩
 | xd fs=>obtain ⟨mA,⟨od,es,ep,e,c⟩,r⟩:=x;exact ⟨mA,⟨od,es,ep,k _ _ (.inl rfl) e,c⟩,r⟩
 | rng lo hi=>obtain ⟨t,u,v,e⟩:=x;exact ⟨t,u,v,k _ _ (.inl rfl) e⟩
 | frz ob u ih=>obtain ⟨e,q⟩:=x;exact ⟨k _ _ (.inl rfl) e,ih q⟩
 | tbl ps =>
  have e:h.get? a=some { cls:=.none,data:=.fields ps }:=x
  show h'.get? a=some { cls:=.none,data:=.fields ps }
  exact k a _ (.inl rfl) e
 | met f y =>
  have e:h.get? a=some (PySem.W.methodObj (.ref f) (.ref y)):=x
  show h'.get? a=some (PySem.W.methodObj (.ref f) (.ref y))
  exact k a _ (.inl rfl) e
 | ext φ=>obtain ⟨p,⟨o,e⟩,st⟩:=x;exact ⟨st _ _ p fun o q=>k _ _ (.inl rfl) q,⟨o,k _ _ (.inl rfl) e⟩,st⟩
theorem HOk.lt (x:HOk P w H h) (e:H a=some o):a<h.objs.size:=(x a o e).lt
theorem HOk.fresh (x:HOk P w H h) (e:h.objs.size≤a):H a=none:=by
 cases q:H a with
 | none=>rfl
 | some u=>exact absurd (Nat.lt_of_lt_of_le (x.lt q) e) (Nat.lt_irrefl _)
theorem HOk.kept (x:HOk P w H h) (k:∀b u,h.get? b=some u→h'.get? b=some u):HOk P w H h':=fun a o e =>
 (x a o e).stay (fun b u _ q=>k b u q) (fun _ q=>q) fun _ _ q=>q
theorem HOk.laid (x:HOk P w H h) (k:∀b u,h.get? b=some u→h'.get? b=some u) (hp:h.objs.size≤a) (new:ObjOk P w (upd H a o) h' a o):HOk P w (upd H a o) h':=fun b u e=>by
 have hn:=x.fresh hp
 by_cases hb:b=a
 ·subst hb;rw [cQ] at e;cases e;exact new
 ·rw [am hb] at e
  exact (x b u e).stay (fun c v _ q=>k c v q) (fun c q=>by rw [am (aI q hn)];exact q) fun c xs q=>by rw [am (aI q hn)];exact q
end
noncomputable def Rd (H:Hp) (a:Addr) (u:HO):Prop:=H a=some u∨∃o,H a=some (.frz o u)
theorem Rd.ok {P:Program} {w:World} {H:Hp} {h:Heap} {a:Addr} {u:HO} (r:Rd H a u) (x:HOk P w H h):ObjOk P w H h a u:=by
 rcases r with r|⟨o,r⟩
 ·exact x a u r
 ·obtain ⟨_,q⟩:=x a _ r
  exact q
noncomputable def Mut:Option HO→Prop
 | some (.lst _)=>True
 | some (.dK _)=>True
 | some (.dT _)=>True
 | some (.set _ _)=>True
 | some (.ins _ _ _)=>True
 | some (.ext _)=>True
 | _=>False
section
variable {P:Program} {w:World} {H:Hp} {h h':Heap} {x e:Addr} {o':HO}
theorem HOk.write (ok:HOk P w H h) (mu:Mut (H x)) (he:e=x∨H e=some (.own x)) (k:∀b u,b≠e→h.get? b=some u→h'.get? b=some u) (heo:∃u,h'.get? e=some u)
  (new:ObjOk P w (upd H x o') h' x o'):HOk P w (upd H x o') h':=fun b u q=>by
 have nown:∀c y,H c=some (.own y)→c≠x:=fun c y r z=>by subst z;rw [r] at mu;exact mu
 have ntup:∀c xs,H c=some (.tup xs)→c≠x:=fun c xs r z=>by subst z;rw [r] at mu;exact mu
 by_cases hb:b=x
 ·subst hb;rw [cQ] at q;cases q;exact new
 ·rw [am hb] at q
  by_cases hbe:b=e
  ·have q':H b=some (.own x):=by
    rcases he with z|z
    ·exact absurd (hbe.trans z) hb
    ·rw [hbe];exact z
   rw [q] at q';cases q'
   obtain ⟨v,hv⟩:=heo
   exact ⟨v,by rw [hbe];exact hv⟩
  ·refine (ok b u q).stay (fun c v hc r=>k c v ?_ r) (fun c r=>by rw [am (nown c b r)];exact r) fun c xs r=>by rw [am (ntup c xs r)];exact r
   rcases hc with rfl|hc
   ·exact hbe
   ·rintro rfl
    rcases he with z|z
    ·exact nown c b hc z
    ·rw [hc] at z;cases z;exact hb rfl
end
structure Un (fs ex:List Addr) (H H':Hp) (h h':Heap):Prop where
 keep:∀b o,h.get? b=some o→H b=none→b ∉ fs→b ∉ ex→h'.get? b=some o
 slot:∀b o,h.get? b=some o→H b=none→b∈fs→b ∉ ex→∃sl,h'.get? b=some { o with slots:=sl }
 free:∀b o,h.get? b=some o→H b=none→b ∉ ex→H' b=none
 there:∀b o,h.get? b=some o→b ∉ ex→∃o',h'.get? b=some o'
 tups:∀b xs,H b=some (.tup xs)→H' b=some (.tup xs)
 frzs:∀b o u,H b=some (.frz o u)→H' b=some (.frz o u)
 tbls:∀b ps,H b=some (.tbl ps)→∃more,H' b=some (.tbl (ps++more))
section
variable {fs fs' ex ex':List Addr} {H H1 H2:Hp} {h h1 h2 h':Heap} {a x e:Addr} {o:HO}
theorem Un.any (u:Un fs ex H H1 h h1) {b:Addr} {ob:Obj} (q:h.get? b=some ob) (n:H b=none) (hx:b ∉ ex):∃sl,h1.get? b=some { ob with slots:=sl }:=by
 by_cases hb:b∈fs
 ·exact u.slot b ob q n hb hx
 ·exact ⟨ob.slots,u.keep b ob q n hb hx⟩
theorem Un.kept (k:∀b u,h.get? b=some u→h'.get? b=some u):Un fs ex H H h h' :=
 ⟨fun b ob q _ _ _=>k b ob q,fun b ob q _ _ _=>⟨ob.slots,k b ob q⟩,fun _ _ _ n _=>n,fun b ob q _=>⟨ob,k b ob q⟩,fun _ _ q=>q,fun _ _ _ q=>q,fun _ ps q=>⟨#[],by rw [q];simp⟩⟩
theorem Un.refl:Un fs ex H H h h:=Un.kept fun _ _ q=>q
theorem Un.laid (k:∀b u,h.get? b=some u→h'.get? b=some u) (hp:h.objs.size≤a) (hn:H a=none):Un fs ex H (upd H a o) h h' where
 keep:=fun b u q _ _ _=>k b u q
 slot:=fun b u q _ _ _=>⟨u.slots,k b u q⟩
 free:=fun b u q n _=>by rw [am (Nat.ne_of_lt (Nat.lt_of_lt_of_le (Heap.lt_size q) hp))];exact n
 there:=fun b u q _=>⟨u,k b u q⟩
 tups:=fun b xs q=>by rw [am (aI q hn)];exact q
 frzs:=fun b u xs q=>by rw [am (aI q hn)];exact q
 tbls:=fun b ps q=>⟨#[],by rw [am (aI q hn),q];simp⟩
theorem Un.write (mu:Mut (H x)) (he:e=x∨H e=some (.own x)) (k:∀b u,b≠e→h.get? b=some u→h'.get? b=some u) (heo:∃u,h'.get? e=some u):Un fs ex H (upd H x o) h h':=by
 have hx:∀b,H b=none→b≠x:=fun b n z=>by subst z;rw [n] at mu;exact mu
 have hb:∀b,H b=none→b≠e:=fun b n z=>by
  subst z
  rcases he with r|r
  ·exact hx b n r
  ·rw [n] at r;cases r
 have hm:∀b u,H b=some u→¬Mut (some u)→b≠x:=fun b u q nm z=>by subst z;rw [q] at mu;exact nm mu
 refine ⟨fun b u q n _ _=>k b u (hb b n) q,fun b u q n _ _=>⟨u.slots,k b u (hb b n) q⟩,fun b u q n _=>by rw [am (hx b n)];exact n,fun b u q _=>?_,
  fun b xs q=>by rw [am (hm b _ q fun z=>z)];exact q,fun b u xs q=>by rw [am (hm b _ q fun z=>z)];exact q,fun b ps q=>⟨#[],by rw [am (hm b _ q fun z=>z),q];simp⟩⟩
 by_cases hbe:b=e
 ·subst hbe;exact heo
 ·exact ⟨u,k b u hbe q⟩
end
noncomputable def trk (h:Heap) (H:Hp):List Addr:=(List.range h.objs.size).filter fun a=>(H a).isSome
noncomputable def qA (h:Heap) (H:Hp):Heap:=PySem.W.hideAll h (trk h H)
theorem zY (h:Heap) (H:Hp):(qA h H).objs.size=h.objs.size:=PySem.W.hideAll_size _ _
theorem Cw {h:Heap} {H:Hp} {b:Addr} {o:Obj} (e:h.get? b=some o) (n:H b=none):(qA h H).get? b=some o :=
 PySem.W.hideAll_get _ e fun hm=>by
  have q:(H b).isSome=true:=(List.mem_filter.mp hm).2
  rw [n] at q;simp at q
theorem Fg {h:Heap} {H:Hp} {b:Addr} {o:Obj} (e:(qA h H).get? b=some o):h.get? b=some o∧H b=none:=by
 have e':h.get? b=some o:=PySem.W.of_hideAll (trk h H) e
 refine ⟨e',?_⟩
 cases q:H b with
 | none=>rfl
 | some x =>
  have hm:b∈trk h H:=List.mem_filter.mpr ⟨List.mem_range.mpr (Heap.lt_size e'),by simp [q]⟩
  have z:(qA h H).get? b=none:=PySem.W.hideAll_none (trk h H) hm
  rw [z] at e;cases e
end L2
namespace L2
open PySem PySem.Spec PyProof.Rows
structure Mod (K:PySem.W.Frag) (mg:Str→Option Value) (base:Heap):Prop where
 kin:K.In base
 glob:base.Ns mainGlobals mg
 blt:∃mb,base.Ns builtinsNs mb∧∀x:Str,x≠"__name__"→mb x=bootBuiltins x
 nolimit:base.NoLimit
structure Cx where
 prog:Program
 w:World
 K:PySem.W.Frag
 mg:Str→Option Value
 base:Heap
 A:Around
 N:List Str
 s₀:Shared
 H₀:Hp
 env:Env
 outer:List Env
 stack:List Env
 ex:List Addr
 fn:Str→Bool
 calm:Bool
 pn:List (Addr × Obj)
 xe:Value→Shared→Prop
noncomputable def frs (l:List Env):List Addr:=l.filterMap (·.frame)
noncomputable abbrev Cx.fs (X:Cx):List Addr:=frs X.outer
noncomputable def Vis (sc:Scope) (x:Str):Prop:=sc.names.lookup x=some .local∨sc.names.lookup x=some .cell∨sc.names.lookup x=some .free
noncomputable def Loc (sc:Scope) (x:Str):Prop:=sc.names.lookup x=some .local∨sc.names.lookup x=some .cell
noncomputable def JF (env:Env) (h:Heap) (m:Str→Option Value) (x:Str) (u:Value):Prop :=
 (env.kindOf x=some .local∧m x=some u)∨((env.kindOf x=some .cell∨env.kindOf x=some .free)∧∃c,env.cells.lookup x=some c∧h.IsCell c (some u))
structure Cx.Ok (X:Cx):Prop where
 mod:Mod X.K X.mg X.base
 kind:X.env.scope.kind=.function
 glob:X.env.globals=mainGlobals
 blt:X.env.builtins=builtinsNs
 above:X.s₀.heap.objs.size≤X.env.locals
 inj:∀x y c,X.env.cells.lookup x=some c→X.env.cells.lookup y=some c→x=y
 has:∀x,(X.env.kindOf x=some .cell∨X.env.kindOf x=some .free)→∃c,X.env.cells.lookup x=some c
 cab:∀x c,X.fn x=true→X.env.cells.lookup x=some c→X.s₀.heap.objs.size≤c
 hd:X.calm=true→X.A.handled=none
 frames:X.A.frames=some X.stack
 stk:X.stack=X.outer∨(X.stack=X.env::X.outer∧X.env.frame=some X.env.locals)
 exf:∀b∈X.ex,b≠X.env.locals∧∀x c,X.env.cells.lookup x=some c→c≠b
 bs:∀b o,X.base.get? b=some o→X.s₀.heap.get? b=some o∧X.H₀ b=none
 bsz:X.base.objs.size≤X.s₀.heap.objs.size
 noex:∀b o,X.base.get? b=some o→b ∉ X.ex
 exfs:∀b∈X.ex,b ∉ X.fs
 funs:X.s₀.heap.FunFrames X.base X.outer
 frf:∀b∈X.fs,X.H₀ b=none
structure Inv (X:Cx) (pins:List (Addr × Obj)) (σ:List (Option V)) (H:Hp) (s:Shared):Prop where
 ok:X.Ok
 os:s.os=X.s₀.os
 bare:AllBare s.gens
 base:Un X.fs X.ex X.H₀ H X.s₀.heap s.heap
 loc:∃m,s.heap.Ns X.env.locals m∧∀(i:Nat) (x:Str) (v:V),X.N[i]?=some x→σ[i]?=some (some v)→Vis X.env.scope x→∃u,RelV v u∧JF X.env s.heap m x u
 cell:∀x c,X.env.cells.lookup x=some c→∃v,s.heap.IsCell c v
 free:H X.env.locals=none
 freeC:∀x c,X.env.cells.lookup x=some c→H c=none
 pin:∀p∈X.pn++pins,s.heap.get? p.1=some p.2∧H p.1=none∧p.1≠X.env.locals∧p.1 ∉ X.fs∧∀v,p.2.data≠.cell v
 hok:HOk X.prog X.w H s.heap
 len:σ.length=X.N.length
section
variable {X:Cx} {pins:List (Addr × Obj)} {σ:List (Option V)} {H H':Hp} {s:Shared} {h':Heap}
theorem Cx.Ok.nofr (ok:X.Ok) {b:Addr} {o:Obj} (e:X.base.get? b=some o):b ∉ X.fs:=fun hb=>by
 have:=(ok.funs.mem hb).1
 rw [e] at this;cases this
theorem Inv.bs (I:Inv X pins σ H s):∀b o,X.base.get? b=some o→s.heap.get? b=some o∧H b=none:=fun b o e =>
 ⟨I.base.keep b o (I.ok.bs b o e).1 (I.ok.bs b o e).2 (I.ok.nofr e) (I.ok.noex b o e),I.base.free b o (I.ok.bs b o e).1 (I.ok.bs b o e).2 (I.ok.noex b o e)⟩
theorem Inv.bk (I:Inv X pins σ H s):∀b o,X.base.get? b=some o→s.heap.get? b=some o:=fun b o e=>(I.bs b o e).1
theorem Inv.mod (I:Inv X pins σ H s):Mod X.K X.mg X.base:=I.ok.mod
theorem Inv.kIn (I:Inv X pins σ H s):X.K.In s.heap:=I.ok.mod.kin.keeps I.bk
theorem Inv.lt (I:Inv X pins σ H s):X.env.locals<s.heap.objs.size:=let ⟨_,hn,_⟩:=I.loc;hn.lt
theorem Inv.sz (I:Inv X pins σ H s):X.s₀.heap.objs.size≤s.heap.objs.size:=Nat.le_trans I.ok.above (Nat.le_of_lt I.lt)
theorem Inv.nofs (I:Inv X pins σ H s) {a:Addr} (h:s.heap.objs.size≤a):a ∉ X.fs:=fun hb=>by
 obtain ⟨_,o,ho,_⟩:=I.ok.funs.mem hb
 exact absurd (Nat.lt_of_lt_of_le (Heap.lt_size ho) (Nat.le_trans I.sz h)) (Nat.lt_irrefl _)
theorem Inv.cne (I:Inv X pins σ H s):∀x c,X.env.cells.lookup x=some c→c≠X.env.locals:=fun x c e z=>by
 obtain ⟨v,o,ho,hd⟩:=I.cell x c e
 obtain ⟨m,⟨o',es,ep,ho',hd',_⟩,_⟩:=I.loc
 rw [z,ho'] at ho;cases ho;rw [hd'] at hd;cases hd
theorem Inv.funs (I:Inv X pins σ H s):s.heap.FunFrames X.base X.outer:=by
 have all:∀(l:List Env),(∀b∈frs l,b∈X.fs)→X.s₀.heap.FunFrames X.base l→s.heap.FunFrames X.base l:=by
  intro l
  induction l with
  | nil=>intro _ _;trivial
  | cons env r ih =>
   intro hs hl
   obtain ⟨hk,⟨L,o,hf,hn,ho,hd⟩,hr⟩:=hl
   have hL:L∈X.fs:=hs L (by unfold frs;rw [List.filterMap_cons,hf];exact List.mem_cons_self)
   obtain ⟨sl,e⟩:=I.base.slot L o ho (I.ok.frf L hL) hL fun z=>I.ok.exfs L z hL
   exact ⟨hk,⟨L,_,hf,hn,e,hd⟩,ih (fun b hb=>hs b (by unfold frs;rw [List.filterMap_cons,hf];exact List.mem_cons_of_mem _ hb)) hr⟩
 exact all X.outer (fun _ hb=>hb) I.ok.funs
theorem Inv.stack (I:Inv X pins σ H s):s.heap.FunFrames X.base X.stack:=by
 rcases I.ok.stk with e|⟨e,hf⟩
 ·rw [e];exact I.funs
 ·rw [e]
  obtain ⟨m,hn,_⟩:=I.loc
  refine .cons (by rw [I.ok.kind];decide) hf hn ?_ I.funs
  exact Heap.get?_none_of_le (Nat.le_trans I.ok.bsz I.ok.above)
theorem Inv.stkSub (I:Inv X pins σ H s):∀b∈frs X.stack,b∈X.env.locals::X.fs:=fun b hb=>by
 rcases I.ok.stk with e|⟨e,hf⟩
 ·rw [e] at hb;exact List.mem_cons_of_mem _ hb
 ·rw [e] at hb
  unfold frs at hb
  rw [List.filterMap_cons,hf] at hb
  exact hb
theorem Inv.stkFree (I:Inv X pins σ H s):∀b∈frs X.stack,H b=none:=fun b hb=>by
 rcases List.mem_cons.mp (I.stkSub b hb) with e|hb
 ·rw [e];exact I.free
 ·obtain ⟨_,o,ho,_⟩:=I.ok.funs.mem hb
  exact I.base.free b o ho (I.ok.frf b hb) fun z=>I.ok.exfs b z hb
theorem Inv.step {g':Array GenState} {t':Nat} {d':Drawn} {ch:List Addr} (I:Inv X pins σ H s)
  (hch:∀b∈ch,(b∈X.ex∨X.s₀.heap.objs.size≤b)∧b≠X.env.locals∧(∀x c,X.env.cells.lookup x=some c→c≠b)∧∀p∈X.pn++pins,p.1≠b)
  (keep:∀b o,b≠X.env.locals→b ∉ X.fs→b ∉ ch→s.heap.get? b=some o→H b=none→h'.get? b=some o)
  (slot:∀b o,b≠X.env.locals→b∈X.fs→b ∉ ch→s.heap.get? b=some o→H b=none→∃sl,h'.get? b=some { o with slots:=sl }) (free:∀b o,b ∉ ch→s.heap.get? b=some o→H b=none→H' b=none)
  (there:∀b o,b ∉ ch→s.heap.get? b=some o→∃o',h'.get? b=some o')
  (tups:∀b xs,H b=some (.tup xs)→H' b=some (.tup xs)) (frzs:∀b o u,H b=some (.frz o u)→H' b=some (.frz o u)) (tbls:∀b ps,H b=some (.tbl ps)→∃more,H' b=some (.tbl (ps++more)))
  (ns:∀m,s.heap.Ns X.env.locals m→h'.Ns X.env.locals m) (hok:HOk X.prog X.w H' h') (hg:AllBare g') :
  Inv X pins σ H' { s with heap:=h',gens:=g',drawn:=d',toks:=t' }:=by
 have neL:∀b o,X.s₀.heap.get? b=some o→b≠X.env.locals:=fun b o e=>Nat.ne_of_lt (Nat.lt_of_lt_of_le (Heap.lt_size e) I.ok.above)
 have neC:∀b o,X.s₀.heap.get? b=some o→b ∉ X.ex→b ∉ ch:=fun b o e hx hb=>by
  rcases (hch b hb).1 with z|z
  ·exact hx z
  ·exact absurd (Nat.lt_of_lt_of_le (Heap.lt_size e) z) (Nat.lt_irrefl _)
 have cellK:∀x c,X.env.cells.lookup x=some c→∀v,s.heap.IsCell c v→h'.IsCell c v:=fun x c e v ⟨o,ho,hd⟩=>by
  have nch:c ∉ ch:=fun z=>(hch c z).2.2.1 x c e rfl
  by_cases hc:c∈X.fs
  ·obtain ⟨sl,q⟩:=slot c o (I.cne x c e) hc nch ho (I.freeC x c e)
   exact ⟨_,q,hd⟩
  ·exact ⟨o,keep c o (I.cne x c e) hc nch ho (I.freeC x c e),hd⟩
 refine ⟨I.ok,I.os,hg,⟨fun b o e n hb hx=>?_,fun b o e n hb hx=>?_,fun b o e n hx=>?_,fun b o e hx=>?_,fun b xs e=>tups b xs (I.base.tups b xs e),fun b o xs e=>frzs b o xs (I.base.frzs b o xs e),fun b ps e=>?_⟩,?_,fun x c e=>?_,?_,fun x c e=>?_,fun p hp=>?_,hok,I.len⟩
 ·exact keep b o (neL b o e) hb (neC b o e hx) (I.base.keep b o e n hb hx) (I.base.free b o e n hx)
 ·obtain ⟨sl,e1⟩:=I.base.slot b o e n hb hx
  obtain ⟨sl',e2⟩:=slot b _ (neL b o e) hb (neC b o e hx) e1 (I.base.free b o e n hx)
  exact ⟨sl',e2⟩
 ·obtain ⟨o',e1⟩:=I.base.there b o e hx
  exact free b o' (neC b o e hx) e1 (I.base.free b o e n hx)
 ·obtain ⟨o',e1⟩:=I.base.there b o e hx
  exact there b o' (neC b o e hx) e1
 ·obtain ⟨m1,e1⟩:=I.base.tbls b ps e
  obtain ⟨m2,e2⟩:=tbls b _ e1
  exact ⟨m1++m2,by rw [e2,Array.append_assoc]⟩
 ·obtain ⟨m,hn,hl⟩:=I.loc
  refine ⟨m,ns m hn,fun i x v e1 e2 e3=>?_⟩
  obtain ⟨u,r,l⟩:=hl i x v e1 e2 e3
  refine ⟨u,r,?_⟩
  rcases l with l|⟨k,c,e,z⟩
  ·exact .inl l
  ·exact .inr ⟨k,c,e,cellK x c e _ z⟩
 ·obtain ⟨v,z⟩:=I.cell x c e
  exact ⟨v,cellK x c e v z⟩
 ·obtain ⟨m,⟨o,_,_,ho,_⟩,_⟩:=I.loc
  exact free _ o (fun z=>(hch _ z).2.1 rfl) ho I.free
 ·obtain ⟨v,o,ho,hd⟩:=I.cell x c e
  exact free c o (fun z=>(hch c z).2.2.1 x c e rfl) ho (I.freeC x c e)
 ·obtain ⟨e,n,ne,nf,d⟩:=I.pin p hp
  have nch:p.1 ∉ ch:=fun z=>(hch p.1 z).2.2.2 p hp rfl
  exact ⟨keep p.1 p.2 ne nf nch e n,free p.1 p.2 nch e n,ne,nf,d⟩
theorem Inv.un {t':Nat} (I:Inv X pins σ H s) (u:Un X.fs [] H H' s.heap h') (hok:HOk X.prog X.w H' h'):Inv X pins σ H' { s with heap:=h',toks:=t' }:=by
 obtain ⟨m,⟨o,es,ep,ho,r⟩,_⟩:=id I.loc
 obtain ⟨sl,hL⟩:=u.any ho I.free (by simp)
 exact I.step (g':=s.gens) (d':=s.drawn) (ch:=[]) (fun _ z=>nomatch z) (fun b o _ hb _ e n=>u.keep b o e n hb (by simp)) (fun b o _ hb _ e n=>u.slot b o e n hb (by simp)) (fun b o _ e n=>u.free b o e n (by simp)) (fun b o _ e=>u.there b o e (by simp)) u.tups u.frzs u.tbls (fun m' hm=>by
  obtain ⟨o',es',ep',ho',r'⟩:=hm
  rw [ho] at ho';cases ho'
  exact ⟨_,es',ep',hL,r'⟩) hok I.bare
theorem Inv.call {g':Array GenState} {t':Nat} {d':Drawn} {ch:List Addr} (I:Inv X pins σ H s) (u:Un (frs X.stack) ch H H' s.heap h') (hok:HOk X.prog X.w H' h') (hg:AllBare g')
  (hch:∀b∈ch,(b∈X.ex∨X.s₀.heap.objs.size≤b)∧b≠X.env.locals∧(∀x c,X.env.cells.lookup x=some c→c≠b)∧∀p∈X.pn++pins,p.1≠b) :
  Inv X pins σ H' { s with heap:=h',gens:=g',drawn:=d',toks:=t' }:=by
 obtain ⟨m,⟨o,es,ep,ho,r⟩,_⟩:=id I.loc
 obtain ⟨sl,hL⟩:=u.any ho I.free fun z=>(hch _ z).2.1 rfl
 exact I.step (ch:=ch) hch (fun b o hL hb hc e n=>u.keep b o e n (fun z=>(List.mem_cons.mp (I.stkSub b z)).elim hL hb) hc) (fun b o _ _ hc e n=>u.any e n hc) (fun b o hc e n=>u.free b o e n hc) (fun b o hc e=>u.there b o e hc) u.tups u.frzs u.tbls (fun m' hm=>by
  obtain ⟨o',es',ep',ho',r'⟩:=hm
  rw [ho] at ho';cases ho'
  exact ⟨_,es',ep',hL,r'⟩) hok hg
theorem Inv.turned {t':Nat} {it:Addr} (I:Inv X pins σ H s) (k:∀b o,b≠it→s.heap.get? b=some o→h'.get? b=some o) (hn:H it=none) (hL:it≠X.env.locals)
  (h1:it∈X.ex∨X.s₀.heap.objs.size≤it) (h2:∀x c,X.env.cells.lookup x=some c→c≠it) (h3:∀p∈X.pn++pins,p.1≠it):Inv X pins σ H { s with heap:=h',toks:=t' }:=by
 have nit:∀b u,H b=some u→b≠it:=fun b u e z=>by rw [z,hn] at e;cases e
 refine I.step (g':=s.gens) (d':=s.drawn) (ch:=[it]) (fun b hb=>?_) (fun b o _ _ hc e _=>k b o (fun z=>hc (by simp [z])) e) (fun b o _ _ hc e _=>⟨o.slots,k b o (fun z=>hc (by simp [z])) e⟩) (fun _ _ _ _ n=>n)
  (fun b o hc e=>⟨o,k b o (fun z=>hc (by simp [z])) e⟩) (fun _ _ e=>e) (fun _ _ _ e=>e) (fun b ps e=>⟨#[],by rw [e];simp⟩) (fun m hm=>?_) (fun b u e=>?_) I.bare
 ·have e:b=it:=by simpa using hb
  subst e
  exact ⟨h1,hL,h2,h3⟩
 ·obtain ⟨o,es,ep,ho,r⟩:=hm
  exact ⟨o,es,ep,k _ o (Ne.symm hL) ho,r⟩
 ·refine (I.hok b u e).stay (fun c v hc q=>k c v ?_ q) (fun _ q=>q) fun _ _ q=>q
  rcases hc with z|z
  ·rw [z];exact nit b u e
  ·exact nit c _ z
theorem Inv.tok (I:Inv X pins σ H s) (t:Nat):Inv X pins σ H { s with toks:=t }:=I.un (h':=s.heap) (t':=t) Un.refl I.hok
theorem Inv.kept {t':Nat} (I:Inv X pins σ H s) (k:∀b u,s.heap.get? b=some u→h'.get? b=some u):Inv X pins σ H { s with heap:=h',toks:=t' }:=I.un (Un.kept k) (I.hok.kept k)
theorem Inv.laid {a:Addr} {o:HO} {t':Nat} (I:Inv X pins σ H s) (k:∀b u,s.heap.get? b=some u→h'.get? b=some u) (hp:s.heap.objs.size≤a) (new:ObjOk X.prog X.w (upd H a o) h' a o) :
  Inv X pins σ (upd H a o) { s with heap:=h',toks:=t' }:=I.un (Un.laid k hp (I.hok.fresh hp)) (I.hok.laid k hp new)
theorem Inv.write {x e:Addr} {o:HO} {t':Nat} (I:Inv X pins σ H s) (mu:Mut (H x)) (he:e=x∨H e=some (.own x)) (k:∀b u,b≠e→s.heap.get? b=some u→h'.get? b=some u) (heo:∃u,h'.get? e=some u)
  (new:ObjOk X.prog X.w (upd H x o) h' x o):Inv X pins σ (upd H x o) { s with heap:=h',toks:=t' }:=I.un (Un.write mu he k heo) (I.hok.write mu he k heo new)
theorem Inv.pins_of {pins':List (Addr × Obj)} (I:Inv X pins σ H s) (h:∀p∈pins',s.heap.get? p.1=some p.2∧H p.1=none∧p.1≠X.env.locals∧p.1 ∉ X.fs∧∀v,p.2.data≠.cell v):Inv X pins' σ H s :=
 ⟨I.ok,I.os,I.bare,I.base,I.loc,I.cell,I.free,I.freeC,fun p hp=>(List.mem_append.mp hp).elim (fun z=>I.pin p (List.mem_append_left _ z)) (h p),I.hok,I.len⟩
theorem vY {N:List Str} (hN:N.Nodup) {i j:Nat} {x:Str} (a:N[i]?=some x) (b:N[j]?=some x):i=j:=by
 obtain ⟨h1,e1⟩:=List.getElem?_eq_some_iff.mp a
 obtain ⟨h2,e2⟩:=List.getElem?_eq_some_iff.mp b
 exact (List.getElem_inj hN).mp (e1.trans e2.symm)
theorem qO {M:Model} {A:Around} {E:Value→Shared→Prop} {i:Nat} {x:Str} {v:V} {u:Value} {Q:Unit→Shared→Prop} (I:Inv X pins σ H s) (hN:X.N.Nodup) (hi:X.N[i]?=some x) (hx:Loc X.env.scope x) (r:RelV v u)
  (h:∀s',Inv X pins (σ.set i (some v)) H s'→(∃a,Heap.SameBut a s.heap s'.heap∧(a=X.env.locals∨X.env.cells.lookup x=some a))→Q () s') (hf:X.fn x=true∨X.env.scope.names.lookup x=some .local:=by first|exact .inl rfl|exact .inr rfl|assumption):wpAny M A (storeName X.env x u) Q E s:=by
 obtain ⟨m,hn,hl⟩:=id I.loc
 have hcls:(X.env.scope.kind == .class || (X.env.scope.kind == .module && X.env.locals != X.env.globals))=false:=by rw [I.ok.kind];rfl
 have hiσ:i<σ.length:=by rw [I.len];exact (List.getElem?_eq_some_iff.mp hi).1
 have cne:=I.cne
 have tracked:∀ {a:Addr} {h':Heap},(∃o,s.heap.get? a=some o∧H a=none)→Heap.SameBut a s.heap h'→HOk X.prog X.w H h':=fun {a h'} ha hs b ob e=>by
  obtain ⟨_,_,hfree⟩:=ha
  refine (I.hok b ob e).stay (fun c w' hc q=>(hs.2 c ?_).trans q) (fun _ q=>q) fun _ _ q=>q
  rintro rfl
  rcases hc with rfl|hc
  ·rw [hfree] at e;cases e
  ·rw [hfree] at hc;cases hc
 rcases hx with hk|hk
 ·refine wpAny_storeName_local hk hn (fun h' hn' hs=>?_) hcls
  obtain ⟨oL,_,_,hoL,_⟩:=id hn
  refine h _ ⟨I.ok,I.os,I.bare,⟨fun b o e n hb hx=>?_,fun b o e n hb hx=>?_,I.base.free,fun b o e hx=>?_,I.base.tups,I.base.frzs,I.base.tbls⟩,⟨_,hn',fun j y v' e1 e2 e3=>?_⟩,fun y c e=>?_,I.free,I.freeC,fun p hp=>?_,tracked ⟨oL,hoL,I.free⟩ hs,by simpa using I.len⟩ ⟨_,hs,.inl rfl⟩
  ·exact (hs.2 b (Nat.ne_of_lt (Nat.lt_of_lt_of_le (Heap.lt_size e) I.ok.above))).trans (I.base.keep b o e n hb hx)
  ·obtain ⟨sl,e1⟩:=I.base.slot b o e n hb hx
   exact ⟨sl,(hs.2 b (Nat.ne_of_lt (Nat.lt_of_lt_of_le (Heap.lt_size e) I.ok.above))).trans e1⟩
  ·obtain ⟨o',e1⟩:=I.base.there b o e hx
   exact ⟨o',(hs.2 b (Nat.ne_of_lt (Nat.lt_of_lt_of_le (Heap.lt_size e) I.ok.above))).trans e1⟩
  ·by_cases hj:j=i
   ·subst hj
    rw [hi] at e1;cases e1
    rw [List.getElem?_set_self hiσ] at e2
    cases e2
    exact ⟨u,r,.inl ⟨hk,by simp⟩⟩
   ·rw [List.getElem?_set_ne (Ne.symm hj)] at e2
    obtain ⟨u',r',q⟩:=hl j y v' e1 e2 e3
    refine ⟨u',r',?_⟩
    rcases q with ⟨k,e⟩|⟨k,c,e,z⟩
    ·refine .inl ⟨k,?_⟩
     have:y≠x:=fun e=>hj (vY hN e1 (e ▸ hi))
     simp [this,e]
    ·exact .inr ⟨k,c,e,z.sameBut hs (cne y c e)⟩
  ·obtain ⟨w',z⟩:=I.cell y c e
   exact ⟨w',z.sameBut hs (cne y c e)⟩
  ·obtain ⟨e,n,ne,nf,d⟩:=I.pin p hp
   exact ⟨(hs.2 p.1 ne).trans e,n,ne,nf,d⟩
 ·have hfn:X.fn x=true:=by
   rcases hf with z|z
   ·exact z
   ·rw [z] at hk;cases hk
  obtain ⟨c,hc⟩:=I.ok.has x (.inl hk)
  obtain ⟨w',z⟩:=I.cell x c hc
  refine wpAny_storeName_cell I.ok.kind hk hc z (fun h' hc' hs=>?_)
  obtain ⟨oc,hoc,hocd⟩:=id z
  refine h { s with heap:=h' } ⟨I.ok,I.os,I.bare,⟨fun b o e n hb hx=>?_,fun b o e n hb hx=>?_,I.base.free,fun b o e hx=>?_,I.base.tups,I.base.frzs,I.base.tbls⟩,⟨m,hn.sameBut hs (Ne.symm (cne x c hc)),fun j y v' e1 e2 e3=>?_⟩,fun y c' e=>?_,I.free,I.freeC,fun p hp=>?_,tracked ⟨oc,hoc,I.freeC x c hc⟩ hs,by simpa using I.len⟩ ⟨c,hs,.inr hc⟩
  ·exact (hs.2 b (Nat.ne_of_lt (Nat.lt_of_lt_of_le (Heap.lt_size e) (I.ok.cab x c hfn hc)))).trans (I.base.keep b o e n hb hx)
  ·obtain ⟨sl,e1⟩:=I.base.slot b o e n hb hx
   exact ⟨sl,(hs.2 b (Nat.ne_of_lt (Nat.lt_of_lt_of_le (Heap.lt_size e) (I.ok.cab x c hfn hc)))).trans e1⟩
  ·obtain ⟨o',e1⟩:=I.base.there b o e hx
   exact ⟨o',(hs.2 b (Nat.ne_of_lt (Nat.lt_of_lt_of_le (Heap.lt_size e) (I.ok.cab x c hfn hc)))).trans e1⟩
  ·by_cases hj:j=i
   ·subst hj
    rw [hi] at e1;cases e1
    rw [List.getElem?_set_self hiσ] at e2
    cases e2
    exact ⟨u,r,.inr ⟨.inl hk,c,hc,hc'⟩⟩
   ·rw [List.getElem?_set_ne (Ne.symm hj)] at e2
    obtain ⟨u',r',q⟩:=hl j y v' e1 e2 e3
    refine ⟨u',r',?_⟩
    rcases q with q|⟨k,c',e,z'⟩
    ·exact .inl q
    ·refine .inr ⟨k,c',e,z'.sameBut hs ?_⟩
     rintro rfl
     exact hj (vY hN e1 (I.ok.inj _ _ _ e hc ▸ hi))
  ·by_cases hcc:c'=c
   ·subst hcc;exact ⟨_,hc'⟩
   ·obtain ⟨w2,z2⟩:=I.cell y c' e
    exact ⟨w2,z2.sameBut hs hcc⟩
  ·obtain ⟨e,n,ne,nf,d⟩:=I.pin p hp
   refine ⟨(hs.2 p.1 ?_).trans e,n,ne,nf,d⟩
   intro q
   rw [q,hoc] at e
   have q':oc=p.2:=Option.some.inj e
   exact d w' (by rw [←q'];exact hocd)
theorem fe {M:Model} {A:Around} {E:Value→Shared→Prop} {i:Nat} {x:Str} {v:V} {u:Value} {Q:Unit→Shared→Prop} (I:Inv X pins σ H s) (hN:X.N.Nodup) (hi:X.N[i]?=some x) (hx:Loc X.env.scope x) (r:RelV v u)
  (h:∀s',Inv X pins (σ.set i (some v)) H s'→Q () s') (hf:X.fn x=true∨X.env.scope.names.lookup x=some .local:=by first|exact .inl rfl|exact .inr rfl|assumption):wpAny M A (storeName X.env x u) Q E s :=
 qO I hN hi hx r (fun s' I' _=>h s' I') hf
theorem Inv.call' {s':Shared} {ch:List Addr} (I:Inv X pins σ H s) (ho:s'.os=s.os) (u:Un (frs X.stack) ch H H' s.heap s'.heap) (hok:HOk X.prog X.w H' s'.heap) (hg:AllBare s'.gens)
  (hch:∀b∈ch,(b∈X.ex∨X.s₀.heap.objs.size≤b)∧b≠X.env.locals∧(∀x c,X.env.cells.lookup x=some c→c≠b)∧∀p∈X.pn++pins,p.1≠b):Inv X pins σ H' s':=by
 obtain ⟨h',g',d',t',o'⟩:=s'
 have e:o'=s.os:=ho
 subst e
 exact I.call (g':=g') (t':=t') (d':=d') u hok hg hch
end
noncomputable abbrev XK:=Value→Option Addr→Hp→Prop
noncomputable abbrev St:=List (Option V)
noncomputable abbrev VK:=V→Hp→Prop
noncomputable abbrev TE:=St→Hp→VK→Prop
noncomputable abbrev TT:=St→Hp→(Bool→Hp→Prop)→Prop
noncomputable abbrev TA:=St→Hp→(List V→Hp→Prop)→Prop
structure Ends where
 nx:St→Hp→Prop
 rt:VK
 bk:St→Hp→Prop:=fun _ _=>False
 ct:St→Hp→Prop:=fun _ _=>False
noncomputable abbrev TS:=Ends→St→Hp→Prop
noncomputable def EP (X:Cx) (pins:List (Addr × Obj)) (σ:St) (Q:VK) (u:Value) (s':Shared):Prop:=∃v H',Inv X pins σ H' s'∧RelV v u∧Q v H'
noncomputable def TP (X:Cx) (pins:List (Addr × Obj)) (σ:St) (Q:Bool→Hp→Prop) (b:Bool) (s':Shared):Prop:=∃H',Inv X pins σ H' s'∧Q b H'
noncomputable def AP (X:Cx) (pins:List (Addr × Obj)) (σ:St) (Q:List V→Hp→Prop) (us:List Value) (s':Shared):Prop:=∃vs H',Inv X pins σ H' s'∧Vals vs us∧Q vs H'
noncomputable def SP (X:Cx) (pins:List (Addr × Obj)) (D:Ends) (f:Flow) (s':Shared):Prop :=
 match f with
 | .next=>∃σ' H',Inv X pins σ' H' s'∧D.nx σ' H'
 | .brk=>∃σ' H',Inv X pins σ' H' s'∧D.bk σ' H'
 | .cont=>∃σ' H',Inv X pins σ' H' s'∧D.ct σ' H'
 | .ret u=>∃v σ' H',Inv X pins σ' H' s'∧RelV v u∧D.rt v H'
noncomputable def PE (X:Cx) (e:Expr) (t:TE):Prop :=
 ∀(pins:List (Addr × Obj)) (s:Shared) (σ:St) (H:Hp) (Q:VK),Inv X pins σ H s→t σ H Q→wpAny (model X.prog X.w) X.A (eval e X.env) (EP X pins σ Q) X.xe s
noncomputable def PT (X:Cx) (e:Expr) (t:TT):Prop :=
 ∀(pins:List (Addr × Obj)) (s:Shared) (σ:St) (H:Hp) (Q:Bool→Hp→Prop),Inv X pins σ H s→t σ H Q→wpAny (model X.prog X.w) X.A (isTrue e X.env (eval e X.env)) (TP X pins σ Q) X.xe s
noncomputable def PW (X:Cx) (e:Expr) (t:TT):Prop :=
 ∀(whole:Sem Value) (pins:List (Addr × Obj)) (s:Shared) (σ:St) (H:Hp) (Q:Bool→Hp→Prop),Inv X pins σ H s→t σ H Q→wpAny (model X.prog X.w) X.A (isTrue e X.env whole) (TP X pins σ Q) X.xe s
theorem PW.pt {X:Cx} {e:Expr} {t:TT} (h:PW X e t):PT X e t:=h _
noncomputable def PA (X:Cx) (es:List Expr) (t:TA):Prop :=
 ∀(pos:Pos) (pins:List (Addr × Obj)) (s:Shared) (σ:St) (H:Hp) (Q:List V→Hp→Prop),Inv X pins σ H s→t σ H Q→wpAny (model X.prog X.w) X.A (spliced (backTo pos (starEach es X.env))) (AP X pins σ Q) X.xe s
noncomputable def PS (X:Cx) (st:Stmt) (t:TS):Prop :=
 ∀(pins:List (Addr × Obj)) (s:Shared) (σ:St) (H:Hp) (D:Ends),Inv X pins σ H s→t D σ H→wpAny (model X.prog X.w) X.A (exec st X.env) (SP X pins D) X.xe s
noncomputable def PSs (X:Cx) (st:List Stmt) (t:TS):Prop :=
 ∀(pins:List (Addr × Obj)) (s:Shared) (σ:St) (H:Hp) (D:Ends),Inv X pins σ H s→t D σ H→wpAny (model X.prog X.w) X.A (execs st X.env) (SP X pins D) X.xe s
theorem thn {α:Type} {t:Sem α} {Q Q':α→Shared→Prop} {M:Model} {A:Around} {E:Value→Shared→Prop} {s:Shared} (h:wpAny M A t Q E s) (hQ:∀a s,Q a s→Q' a s):wpAny M A t Q' E s:=wpAny_mono h hQ fun _ _ x=>x
end L2
namespace L2
open PySem PySem.Spec PyProof.Rows
section
variable {X:Cx}
noncomputable def Jp (i:Nat):TE:=fun σ H Q=>∃v,σ[i]?=some (some v)∧Q v H
noncomputable def tC (v:V):TE:=fun _ H Q=>Q v H
theorem Gp {i:Nat} {x:Str} {pos:Pos} (hN:X.N[i]?=some x) (hv:Vis X.env.scope x) (hd:(x == ("__debug__":Str))=false:=by decide) (hcd:(x == ("__classdict__":Str))=false:=by decide):PE X (.Name x pos) (Jp i):=by
 intro pins s σ H Q I h
 obtain ⟨v,e,h⟩:=h
 obtain ⟨m,hn,hl⟩:=I.loc
 obtain ⟨u,r,l⟩:=hl i x v hN e hv
 have fin:EP X pins σ Q u s:=⟨v,H,I,r,h⟩
 rcases l with ⟨hk,hm⟩|⟨hk,c,hc,hcell⟩
 ·exact wpAny_Name (wpAny_loadName_local I.ok.kind hk hn hm fin) hd
 ·rcases hk with hk|hk
  ·exact wpAny_Name (wpAny_loadName_cell I.ok.kind hk hc hcell fin) hd
  ·exact wpAny_Name (wpAny_loadName_free I.ok.kind hk hc hcell fin hcd) hd
theorem Gf {i j pos}:PE X (.Constant (.int i) j pos) (tC (.int i)):=fun _ _ _ H _ I h=>wpAny_Constant_int ⟨.int i,H,I.tok _,⟨_,rfl⟩,h⟩
theorem IY {b j pos}:PE X (.Constant (.bool b) j pos) (tC (.bl b)):=fun _ _ _ H _ I h=>Constant_bool ⟨.bl b,H,I,rfl,h⟩
theorem GG {j pos}:PE X (.Constant .none j pos) (tC .non):=fun _ _ _ H _ I h=>Constant_none ⟨.non,H,I,rfl,h⟩
theorem Gk {x j pos}:PE X (.Constant (.str x) j pos) (tC (.str x)):=fun _ _ _ H _ I h=>Calls.Constant_str ⟨.str x,H,I.tok _,⟨_,rfl⟩,h⟩
noncomputable def Gl (X:Cx) (x:Str):Prop:=X.env.kindOf x=some .globalImplicit
theorem sU {E:Value→Shared→Prop} {pins:List (Addr × Obj)} {s:Shared} {σ:St} {H:Hp} {x:Str} {u:Value} {pos:Pos} {Q:Value→Shared→Prop} (I:Inv X pins σ H s) (hg:Gl X x) (hm:X.mg x=some u) (h:Q u s)
  (hd:(x == ("__debug__":Str))=false:=by decide):wpAny (model X.prog X.w) X.A (eval (.Name x pos) X.env) Q E s :=
 Calls.Name_function_global I.ok.kind hg (Calls.loadGlobal_global (by rw [I.ok.glob];exact I.mod.glob.keeps I.bk) hm h) hd
theorem iO {E:Value→Shared→Prop} {pins:List (Addr × Obj)} {s:Shared} {σ:St} {H:Hp} {x:Str} {u:Value} {pos:Pos} {Q:Value→Shared→Prop} (I:Inv X pins σ H s) (hg:Gl X x) (hm:X.mg x=none) (hv:bootBuiltins x=some u) (h:Q u s)
  (hn:x≠"__name__":=by decide) (hd:(x == ("__debug__":Str))=false:=by decide):wpAny (model X.prog X.w) X.A (eval (.Name x pos) X.env) Q E s:=by
 obtain ⟨mb,h1,h2⟩:=I.mod.blt
 exact Calls.Name_function_global I.ok.kind hg (Calls.loadGlobal_builtin (by rw [I.ok.glob];exact I.mod.glob.keeps I.bk) hm (by rw [I.ok.blt];exact h1.keeps I.bk) ((h2 x hn).trans hv) h) hd
theorem ES {x:Str} {v:V} {u:Value} {pos:Pos} (hg:Gl X x) (hm:X.mg x=some u) (r:RelV v u) (hd:(x == ("__debug__":Str))=false:=by decide):PE X (.Name x pos) (tC v) :=
 fun _ _ _ H _ I h=>sU I hg hm ⟨v,H,I,r,h⟩ hd
theorem EH {x:Str} {v:V} {u:Value} {pos:Pos} (hg:Gl X x) (hm:X.mg x=none) (hv:bootBuiltins x=some u) (r:RelV v u) (hn:x≠"__name__":=by decide) (hd:(x == ("__debug__":Str))=false:=by decide):PE X (.Name x pos) (tC v) :=
 fun _ _ _ H _ I h=>iO I hg hm hv ⟨v,H,I,r,h⟩ hn hd
variable {a b:Expr} {ta tb:TE} {pos:Pos}
variable {tA tB':TT} {rest:List Expr}
noncomputable def HL (t u:TT):TT:=fun σ H Q=>t σ H fun c H1=>if c=true then u σ H1 Q else Q false H1
noncomputable def tOr (t u:TT):TT:=fun σ H Q=>t σ H fun c H1=>if c=true then Q true H1 else u σ H1 Q
noncomputable def Jt (t:TT):TT:=fun σ H Q=>t σ H fun c H1=>Q (!c) H1
theorem Fq (ha:PT X a tA):PW X (.BoolOp .And [a] pos) tA:=by
 intro wh pins s σ H Q I h
 refine isTrue_and (thn (ha pins s σ H Q I h) fun c s1 e=>?_)
 cases c with
 | true=>exact isTrue_and_nil e
 | false=>exact e
theorem GE (ha:PT X a tA):PW X (.BoolOp .Or [a] pos) tA:=by
 intro wh pins s σ H Q I h
 refine isTrue_or (thn (ha pins s σ H Q I h) fun c s1 e=>?_)
 cases c with
 | false=>exact isTrue_or_nil e
 | true=>exact e
theorem GL (ha:PT X a tA) (hb:PW X (.BoolOp .And (b::rest) pos) tB'):PW X (.BoolOp .And (a::b::rest) pos) (HL tA tB'):=by
 intro wh pins s σ H Q I h
 refine isTrue_and (thn (ha pins s σ H _ I h) fun c s1 ⟨H1,I1,q1⟩=>?_)
 cases c with
 | true=>exact hb wh pins s1 σ H1 Q I1 q1
 | false=>exact ⟨H1,I1,q1⟩
theorem IM (ha:PT X a tA) (hb:PW X (.BoolOp .Or (b::rest) pos) tB'):PW X (.BoolOp .Or (a::b::rest) pos) (tOr tA tB'):=by
 intro wh pins s σ H Q I h
 refine isTrue_or (thn (ha pins s σ H _ I h) fun c s1 ⟨H1,I1,q1⟩=>?_)
 cases c with
 | true=>exact ⟨H1,I1,q1⟩
 | false=>exact hb wh pins s1 σ H1 Q I1 q1
theorem Gq (ha:PT X a tA):PT X (.UnaryOp .Not a pos) (Jt tA):=by
 intro pins s σ H Q I h
 exact isTrue_not (ha pins s σ H (fun c H1=>Q (!c) H1) I h)
noncomputable def HJ (ta tb:TE):TE:=fun σ H Q=>ta σ H fun x H1=>∃c,x=.bl c∧if c=true then tb σ H1 Q else Q (.bl false) H1
noncomputable def Jy (ta tb:TE):TE:=fun σ H Q=>ta σ H fun x H1=>∃c,x=.bl c∧if c=true then Q (.bl true) H1 else tb σ H1 Q
noncomputable def Ig (ta:TE):TE:=fun σ H Q=>ta σ H fun x H1=>∃c,x=.bl c∧Q (.bl (!c)) H1
theorem BW {op} {t:TE} (h:PE X a t):PE X (.BoolOp op [a] pos) t:=fun pins s σ H Q I hw=>BoolOp_one (h pins s σ H Q I hw)
theorem Gn (ha:PE X a ta) (hb:PE X (.BoolOp .And (b::rest) pos) tb):PE X (.BoolOp .And (a::b::rest) pos) (HJ ta tb):=by
 intro pins s σ H Q I h
 refine BoolOp_and (thn (ha pins s σ H _ I h) fun v s1 ⟨x,H1,I1,r1,q1⟩=>?_)
 obtain ⟨c,rfl,q1⟩:=q1
 cases r1
 refine wpAny_truthy_bool ?_
 cases c with
 | true=>exact hb pins s1 σ H1 Q I1 q1
 | false=>exact ⟨.bl false,H1,I1,rfl,q1⟩
theorem HE (ha:PE X a ta) (hb:PE X (.BoolOp .Or (b::rest) pos) tb):PE X (.BoolOp .Or (a::b::rest) pos) (Jy ta tb):=by
 intro pins s σ H Q I h
 refine BoolOp_or (thn (ha pins s σ H _ I h) fun v s1 ⟨x,H1,I1,r1,q1⟩=>?_)
 obtain ⟨c,rfl,q1⟩:=q1
 cases r1
 refine wpAny_truthy_bool ?_
 cases c with
 | false=>exact hb pins s1 σ H1 Q I1 q1
 | true=>exact ⟨.bl true,H1,I1,rfl,q1⟩
theorem GI (ha:PE X a ta):PE X (.UnaryOp .Not a pos) (Ig ta):=by
 intro pins s σ H Q I h
 refine UnaryOp_ (thn (ha pins s σ H _ I h) fun v s1 ⟨x,H1,I1,r1,q1⟩=>?_)
 obtain ⟨c,rfl,q1⟩:=q1
 cases r1
 exact not_of (wpAny_truthy_bool ⟨.bl (!c),H1,I1,rfl,q1⟩)
noncomputable def tIf (t:TT) (ta tb:TE):TE:=fun σ H Q=>t σ H fun c H1=>if c=true then ta σ H1 Q else tb σ H1 Q
theorem BJ {c:Expr} (hc:PT X c tA) (ha:PE X a ta) (hb:PE X b tb):PE X (.IfExp c a b pos) (tIf tA ta tb):=by
 intro pins s σ H Q I h
 refine wpAny_IfExp (thn (hc pins s σ H _ I h) fun d s1 ⟨H1,I1,q1⟩=>?_)
 cases d with
 | true=>exact ha pins s1 σ H1 Q I1 q1
 | false=>exact hb pins s1 σ H1 Q I1 q1
end
end L2
namespace L2
open PySem PySem.Spec PyProof.Rows
noncomputable def SqL (K:PySem.W.Frag) (H:Hp) (a:Addr) (xs:List V):Prop :=
 Rd H a (.lst xs) ∨
  ∃(o:Obj) (its:Array Value) (n:Nat),K.lookup a=some o∧o.cls=.type "list"∧o.dict=none∧o.data=.seq its n∧its.size≤sizeLine∧Vals xs its.toList
noncomputable def SqT (K:PySem.W.Frag) (H:Hp) (a:Addr) (xs:List V):Prop :=
 Rd H a (.tup xs) ∨
  ∃(o:Obj) (its:Array Value) (n:Nat),K.lookup a=some o∧o.cls=.type "tuple"∧o.data=.seq its n∧its.size≤sizeLine∧Vals xs its.toList
noncomputable def Jh:Value→Option V
 | .none=>some .non
 | .bool b=>some (.bl b)
 | .int i _=>some (.int i)
 | .str x _=>some (.str x)
 | .bytes b _=>some (.byt b)
 | .float b _=>some (.flt b)
 | .ref a=>some (.ref a)
 | .type n=>some (.ty n)
 | _=>none
theorem RelV.abs {x:V} {u:Value} (r:RelV x u):Jh u=some x:=by
 cases x with
 | non=>cases r;rfl
 | bl _=>cases r;rfl
 | int _=>obtain ⟨t,rfl⟩:=r;rfl
 | str _=>obtain ⟨t,rfl⟩:=r;rfl
 | byt _=>obtain ⟨t,rfl⟩:=r;rfl
 | flt _=>obtain ⟨t,rfl⟩:=r;rfl
 | ref _=>cases r;rfl
 | ty _=>cases r;rfl
theorem RelV.inj {x y:V} {u:Value} (r:RelV x u) (q:RelV y u):x=y:=Option.some.inj (r.abs.symm.trans q.abs)
theorem Vals.inj:∀ {xs ys:List V} {us:List Value},Vals xs us→Vals ys us→xs=ys
 | _,_,_,.nil,.nil=>rfl
 | _,_,_,.cons r t,.cons r' t'=>by rw [r.inj r',Vals.inj t t']
section
variable {X:Cx} {pins:List (Addr × Obj)} {σ:St} {H:Hp} {s:Shared} {a:Addr} {xs ys:List V}
theorem SqL.of {K:PySem.W.Frag} (h:H a=some (.lst xs)):SqL K H a xs:=.inl (.inl h)
theorem SqT.of {K:PySem.W.Frag} (h:H a=some (.tup xs)):SqT K H a xs:=.inl (.inl h)
theorem Inv.list (I:Inv X pins σ H s) (h:SqL X.K H a xs):∃its:List Value,Vals xs its∧PlainL s.heap a its.toArray∧xs.length≤sizeLine:=by
 rcases h with h|⟨o,its,n,hk,hc,hd,hs,hz,r⟩
 ·obtain ⟨z,its,n,r,e⟩:=h.ok I.hok
  exact ⟨its,r,⟨_,n,e,rfl,rfl,rfl⟩,z⟩
 ·refine ⟨its.toList,r,⟨o,n,I.kIn a o hk,hc,hd,by simpa using hs⟩,?_⟩
  have e:=r.length
  simp only [Array.length_toList] at e
  omega
theorem Inv.tuple (I:Inv X pins σ H s) (h:SqT X.K H a xs):∃its:List Value,Vals xs its∧IsTup s.heap a its.toArray∧xs.length≤sizeLine:=by
 rcases h with h|⟨o,its,n,hk,hc,hs,hz,r⟩
 ·obtain ⟨z,its,r,p⟩:=h.ok I.hok
  exact ⟨its,r,p,z⟩
 ·refine ⟨its.toList,r,⟨o,I.kIn a o hk,hc,n,by simpa using hs⟩,?_⟩
  have e:=r.length
  simp only [Array.length_toList] at e
  omega
theorem Inv.list_inj (I:Inv X pins σ H s) (h:SqL X.K H a xs) (h':SqL X.K H a ys):xs=ys:=by
 obtain ⟨its,r,⟨o,n,e,_,_,d⟩,_⟩:=I.list h
 obtain ⟨its',r',⟨o',n',e',_,_,d'⟩,_⟩:=I.list h'
 rw [e] at e';cases e'
 rw [d] at d'
 injection d' with d1 _
 have:its=its':=by simpa using congrArg Array.toList d1
 subst this
 exact r.inj r'
theorem Inv.tuple_inj (I:Inv X pins σ H s) (h:SqT X.K H a xs) (h':SqT X.K H a ys):xs=ys:=by
 obtain ⟨its,r,⟨o,e,_,n,d⟩,_⟩:=I.tuple h
 obtain ⟨its',r',⟨o',e',_,n',d'⟩,_⟩:=I.tuple h'
 rw [e] at e';cases e'
 rw [d] at d'
 injection d' with d1 _
 have:its=its':=by simpa using congrArg Array.toList d1
 subst this
 exact r.inj r'
end
noncomputable abbrev Cx.wish (X:Cx) (E:Value→Shared→Prop):Cx:={ X with xe:=E }
noncomputable abbrev Cx.nox (X:Cx):Cx:=X.wish fun _ _=>False
theorem Cx.Ok.wish {X:Cx} (ok:X.Ok) (E:Value→Shared→Prop):(X.wish E).Ok :=
 ⟨ok.mod,ok.kind,ok.glob,ok.blt,ok.above,ok.inj,ok.has,ok.cab,ok.hd,ok.frames,ok.stk,ok.exf,ok.bs,ok.bsz,ok.noex,ok.exfs,ok.funs,ok.frf⟩
theorem Cx.Ok.unwish {X:Cx} {E:Value→Shared→Prop} (ok:(X.wish E).Ok):X.Ok :=
 ⟨ok.mod,ok.kind,ok.glob,ok.blt,ok.above,ok.inj,ok.has,ok.cab,ok.hd,ok.frames,ok.stk,ok.exf,ok.bs,ok.bsz,ok.noex,ok.exfs,ok.funs,ok.frf⟩
section
variable {X:Cx} {pins:List (Addr × Obj)} {σ:St} {H:Hp} {s:Shared} {E:Value→Shared→Prop}
theorem Inv.wish (I:Inv X pins σ H s) (E:Value→Shared→Prop):Inv (X.wish E) pins σ H s:=⟨I.ok.wish E,I.os,I.bare,I.base,I.loc,I.cell,I.free,I.freeC,I.pin,I.hok,I.len⟩
theorem Inv.unwish (I:Inv (X.wish E) pins σ H s):Inv X pins σ H s:=⟨I.ok.unwish,I.os,I.bare,I.base,I.loc,I.cell,I.free,I.freeC,I.pin,I.hok,I.len⟩
theorem SP.unwish {D:Ends} {f:Flow} {s':Shared} (h:SP (X.wish E) pins D f s'):SP X pins D f s':=by
 cases f with
 | next=>obtain ⟨σ',H',I,q⟩:=h;exact ⟨σ',H',I.unwish,q⟩
 | brk=>obtain ⟨σ',H',I,q⟩:=h;exact ⟨σ',H',I.unwish,q⟩
 | cont=>obtain ⟨σ',H',I,q⟩:=h;exact ⟨σ',H',I.unwish,q⟩
 | ret u=>obtain ⟨v,σ',H',I,r,q⟩:=h;exact ⟨v,σ',H',I.unwish,r,q⟩
theorem PSs.nox {st:List Stmt} {t:TS} (h:PSs X.nox st t):PSs X st t:=fun pins s σ H D I hw =>
 wpAny_mono (h pins s σ H D (I.wish _) hw) (fun _ _ q=>q.unwish) fun _ _ z=>False.elim z
end
section
variable {X:Cx} {st:Stmt} {rest:List Stmt} {t u:TS} {e:Expr} {te:TE} {pos:Pos}
noncomputable def Fy:TS:=fun D σ H=>D.nx σ H
noncomputable def JP (t u:TS):TS:=fun D σ H=>t { D with nx:=u D } σ H
theorem Fi:PSs X [] Fy:=fun _ _ σ H _ I h=>wpAny_execs_nil ⟨σ,H,I,h⟩
theorem Bk (h1:PS X st t) (h2:PSs X rest u):PSs X (st::rest) (JP t u):=by
 intro pins s σ H D I h
 refine wpAny_execs_cons (thn (h1 pins s σ H { D with nx:=u D } I h) fun f s1 q=>?_)
 cases f with
 | next =>
  obtain ⟨σ',H',I',q⟩:=q
  exact h2 pins s1 σ' H' D I' q
 | ret v=>exact q
 | brk=>exact q
 | cont=>exact q
noncomputable def F9:TS:=fun D σ H=>D.bk σ H
noncomputable def HY:TS:=fun D σ H=>D.ct σ H
theorem EJ:PS X (.Pass pos) Fy:=fun _ _ σ H _ I h=>wpAny_Pass ⟨σ,H,I,h⟩
theorem A1:PS X (.Break pos) F9:=fun _ _ σ H _ I h=>wpAny_Break ⟨σ,H,I,h⟩
theorem wC:PS X (.Continue pos) HY:=fun _ _ σ H _ I h=>wpAny_Continue ⟨σ,H,I,h⟩
theorem Inv.quiet {pins:List (Addr × Obj)} {σ:St} {H:Hp} {s:Shared} (I:Inv X pins σ H s):interactive X.env=false:=by simp [interactive,I.ok.kind]
noncomputable def IK (te:TE):TS:=fun D σ H=>te σ H fun _ H1=>D.nx σ H1
theorem Ex (he:PE X e te) (hs:swapsWith e none pos.line X.env=pure false:=by rfl):PS X (.Expr e pos) (IK te):=by
 intro pins s σ H D I h
 exact wpAny_Expr_any (thn (he pins s σ H _ I h) fun v s1 ⟨x,H1,I1,r1,q1⟩=>⟨σ,H1,I1,q1⟩) I.quiet hs
noncomputable def Jd (te:TE):TS:=fun D σ H=>te σ H D.rt
theorem Gm (he:PE X e te):PS X (.Return (some e) pos) (Jd te):=by
 intro pins s σ H D I h
 exact wpAny_Return_some (thn (he pins s σ H _ I h) fun v s1 ⟨x,H1,I1,r1,q1⟩=>⟨x,σ,H1,I1,r1,q1⟩)
noncomputable def IH:TS:=fun D _ H=>D.rt .non H
theorem Fl:PS X (.Return none pos) IH:=fun _ _ σ H _ I h=>wpAny_Return_none ⟨.non,σ,H,I,rfl,h⟩
noncomputable def JE (c:TT) (t u:TS):TS:=fun D σ H=>c σ H fun b H1=>if b=true then t D σ H1 else u D σ H1
theorem Ir {c:Expr} {a b:List Stmt} {tc:TT} (hc:PT X c tc) (ha:PSs X a t) (hb:PSs X b u):PS X (.If c a b pos) (JE tc t u):=by
 intro pins s σ H D I h
 refine wpAny_If (thn (hc pins s σ H _ I h) fun d s1 ⟨H1,I1,q1⟩=>?_)
 cases d with
 | true=>exact ha pins s1 σ H1 D I1 q1
 | false=>exact hb pins s1 σ H1 D I1 q1
end
noncomputable abbrev TG:=V→St→Hp→(St→Hp→Prop)→Prop
noncomputable abbrev TGs:=List V→St→Hp→(St→Hp→Prop)→Prop
noncomputable def PG (X:Cx) (target:Expr) (t:TG):Prop :=
 ∀(pins:List (Addr × Obj)) (s:Shared) (σ:St) (H:Hp) (v:V) (u:Value) (Q:St→Hp→Prop),Inv X pins σ H s→RelV v u→t v σ H Q →
  wpAny (model X.prog X.w) X.A (assign target X.env u) (fun _ s'=>∃σ' H',Inv X pins σ' H' s'∧Q σ' H') X.xe s
noncomputable def PGs (X:Cx) (ts:List Expr) (t:TGs):Prop :=
 ∀(pins:List (Addr × Obj)) (s:Shared) (σ:St) (H:Hp) (vs:List V) (us:List Value) (Q:St→Hp→Prop),Inv X pins σ H s→Vals vs us→t vs σ H Q →
  wpAny (model X.prog X.w) X.A (assignInOrder ((assignEach ts X.env).map (·.2)) us) (fun _ s'=>∃σ' H',Inv X pins σ' H' s'∧Q σ' H') X.xe s
noncomputable abbrev GR:=V→V→V→Hp→(Hp→Prop)→Prop
noncomputable def Hm (X:Cx) (t:GR):Prop :=
 ∀(pins:List (Addr × Obj)) (s:Shared) (σ:St) (H:Hp) (o i v:V) (ov iv u:Value) (Q:Hp→Prop),Inv X pins σ H s→RelV o ov→RelV i iv→RelV v u→t o i v H Q →
  wpAny (model X.prog X.w) X.A (setItem ov iv u) (fun _ s'=>∃H',Inv X pins σ H' s'∧Q H') X.xe s
noncomputable abbrev TIp:=V→V→Hp→VK→Prop
noncomputable def PIp (X:Cx) (op:Operator) (t:TIp):Prop :=
 ∀(pins:List (Addr × Obj)) (s:Shared) (σ:St) (H:Hp) (x y:V) (v u:Value) (Q:VK),Inv X pins σ H s→RelV x v→RelV y u→t x y H Q →
  wpAny (model X.prog X.w) X.A (inplaceOp op v u) (EP X pins σ Q) X.xe s
section
variable {X:Cx} {pos:Pos}
noncomputable def FE (i:Nat):TG:=fun v σ H Q=>Q (σ.set i (some v)) H
theorem D7 {i:Nat} {x:Str} (hN:X.N.Nodup) (hi:X.N[i]?=some x) (hx:Loc X.env.scope x) (hf:X.fn x=true∨X.env.scope.names.lookup x=some .local:=by first|exact .inl rfl|exact .inr rfl|assumption):PG X (.Name x pos) (FE i):=by
 intro pins s σ H v u Q I r h
 exact wpAny_assign_Name (fe I hN hi hx r (fun s' I'=>⟨_,H,I',h⟩) hf)
noncomputable def JD:TGs:=fun vs σ H Q=>vs=[]∧Q σ H
noncomputable def HS (t:TG) (u:TGs):TGs:=fun vs σ H Q=>∃v r,vs=v::r∧t v σ H fun σ' H'=>u r σ' H' Q
theorem EQ:PGs X [] JD:=by
 intro pins s σ H vs us Q I r h
 obtain ⟨e,h⟩:=h
 subst e
 cases r
 exact assignInOrder_nil ⟨σ,H,I,h⟩
theorem CL {e:Expr} {es:List Expr} {t:TG} {u:TGs} (h1:PG X e t) (h2:PGs X es u)
  (hs:(assignEach (e::es) X.env).map (·.2)=assign e X.env::(assignEach es X.env).map (·.2):=by rfl):PGs X (e::es) (HS t u):=by
 intro pins s σ H vs us Q I r h
 obtain ⟨v,vr,e1,h⟩:=h
 subst e1
 cases r with
 | cons r rr =>
  rw [hs]
  refine assignInOrder_cons (thn (h1 pins s σ H _ _ _ I r h) fun _ s1 ⟨σ1,H1,I1,q1⟩=>?_)
  exact h2 pins s1 σ1 H1 _ _ Q I1 rr q1
noncomputable def Jv (K:PySem.W.Frag) (n:Nat) (t:TGs):TG:=fun v σ H Q=>∃a xs,v=.ref a∧SqT K H a xs∧xs.length=n∧t xs σ H Q
theorem Hw {es:List Expr} {k:Nat} {t:TGs} {n:Nat} (hc:X.calm=true) (h:PGs X es t)
  (hn:(assignEach es X.env).length=n:=by rfl) (hst:(assignEach es X.env).findIdx? (·.1)=none:=by rfl):PG X (.Tuple es k pos) (Jv X.K n t):=by
 intro pins s σ H v u Q I r hw
 obtain ⟨a,xs,e1,hq,hl,hw⟩:=hw
 subst e1
 cases r
 obtain ⟨its,rv,ht,hz⟩:=I.tuple hq
 refine assign_Tuple_tuple (I.ok.hd hc) ht (by simp [hn,←hl,rv.length]) hst fun h' hx=>?_
 have I1:Inv X pins σ H { s with heap:=h' }:=I.kept (t':=s.toks) fun b o e=>hx b o (Nat.ne_of_lt (Heap.lt_size e)) e
 exact h pins _ σ H xs _ Q I1 (by simpa using rv) hw
noncomputable def JH (to ti:TE) (t:GR):TG:=fun v σ H Q=>to σ H fun o H1=>ti σ H1 fun i H2=>t o i v H2 fun H3=>Q σ H3
theorem Ho {o i:Expr} {to ti:TE} {t:GR} (ho:PE X o to) (hi:PE X i ti) (hs:Hm X t)
  (ha:∀v,assign (.Subscript o i pos) X.env v=(do
   let ov ←holding [v] (eval o X.env)
   let iv ←holding [v,ov] (eval i X.env)
   standAt pos
   holding [v,ov,iv] (setItem ov iv v)
   release [v,ov,iv] []):=by intro _;rfl):PG X (.Subscript o i pos) (JH to ti t):=by
 intro pins s σ H v u Q I r h
 rw [ha]
 refine wpAny_bind (wpAny_holding (thn (ho pins s σ H _ I h) fun ov s1 ⟨x,H1,I1,r1,q1⟩=>?_))
 refine wpAny_bind (wpAny_holding (thn (hi pins s1 σ H1 _ I1 q1) fun iv s2 ⟨y,H2,I2,r2,q2⟩=>?_))
 refine wpAny_bind (wpAny_standAt (wpAny_bind (wpAny_holding (thn (hs pins s2 σ H2 x y v ov iv u _ I2 r1 r2 r q2) fun _ s3 ⟨H3,I3,q3⟩=>?_))))
 exact wpAny_release ⟨σ,H3,I3,q3⟩
noncomputable def E8 (te:TE) (g:TG):TS:=fun D σ H=>te σ H fun x H1=>g x σ H1 D.nx
theorem nB {tg e:Expr} {te:TE} {g:TG} (he:PE X e te) (hg:PG X tg g) (hs:swapsWithSole [tg] e pos.line X.env=pure false:=by rfl) (hw:swappedStores [tg] e X.env=pure none:=by rfl)
  (h1:(assignEach [tg] X.env).map (·.2)=[assign tg X.env]:=by rfl):PS X (.Assign [tg] e pos) (E8 te g):=by
 intro pins s σ H D I h
 refine wpAny_Assign_stores (thn (he pins s σ H _ I h) fun v s1 ⟨x,H1,I1,r1,q1⟩=>?_) hs hw
 rw [h1]
 exact thn (hg pins s1 σ H1 x v _ I1 r1 q1) fun _ s2 q=>q
theorem Cc {i:Nat} {x:Str} {e:Expr} {te:TE} {pos':Pos} (hN:X.N.Nodup) (hi:X.N[i]?=some x) (hx:Loc X.env.scope x) (he:PE X e te) (hs:swapsWith e (some (.Name x pos')) pos.line X.env=pure false:=by rfl) (hf:X.fn x=true∨X.env.scope.names.lookup x=some .local:=by first|exact .inl rfl|exact .inr rfl|assumption) :
  PS X (.Assign [.Name x pos'] e pos) (E8 te (FE i)):=by
 intro pins s σ H D I h
 refine wpAny_Assign_Name (thn (he pins s σ H _ I h) fun v s1 ⟨y,H1,I1,r1,q1⟩=>?_) hs
 exact fe I1 hN hi hx r1 (fun s2 I2=>⟨_,H1,I2,q1⟩) hf
noncomputable def I_ (i j:Nat) (ta:TA):TS:=fun D σ H=>ta σ H fun vs H1=>∃v w,vs=[v,w]∧D.nx ((σ.set i (some v)).set j (some w)) H1
theorem GK {i j:Nat} {x y:Str} {a b:Expr} {ta:TA} {px py pt:Pos} {kt k2 pt2} (hc:X.calm=true) (hN:X.N.Nodup) (hi:X.N[i]?=some x) (hj:X.N[j]?=some y) (hij:i≠j)
  (hx:X.env.scope.names.lookup x=some .local) (hy:X.env.scope.names.lookup y=some .local) (ha:PA X [a,b] ta)
  (hw:swappedStores [.Tuple [.Name x px,.Name y py] kt pt] (.Tuple [a,b] k2 pt2) X.env=pure (some [x,y]))
  (hs:swapsWithSole [.Tuple [.Name x px,.Name y py] kt pt] (.Tuple [a,b] k2 pt2) pos.line X.env=pure false:=by rfl) :
  PS X (.Assign [.Tuple [.Name x px,.Name y py] kt pt] (.Tuple [a,b] k2 pt2) pos) (I_ i j ta):=by
 intro pins s σ H D I h
 rw [exec_Assign_arm]
 refine wpAny_bind (wpAny_standAt ?_)
 rw [hs]
 refine wpAny_bind (wpAny_pure ?_)
 rw [if_neg (by decide)]
 refine wpAny_bind (Tuple_ (thn (ha _ pins s σ H _ I h) fun us s1 ⟨vs,H1,I1,r1,q1⟩=>?_))
 obtain ⟨v,w,e1,q1⟩:=q1
 subst e1
 obtain ⟨u1,u2,rfl,rv,rw'⟩:∃u1 u2,us=[u1,u2]∧RelV v u1∧RelV w u2:=by
  cases r1 with
  | cons p q =>
   cases q with
   | cons p' q' =>
    cases q'
    exact ⟨_,_,rfl,p,p'⟩
 refine wpAny_newObj_type ?_ (by show 2≤sizeLine;decide)
 have I2:Inv X pins σ H1 { s1 with heap:=s1.heap.push { cls:=.type "tuple",data:=.seq [u1,u2].toArray } }:=I1.kept (t':=s1.toks) fun b o e=>Heap.get?_push_of_some _ e
 rw [hw]
 refine wpAny_bind (wpAny_pure ?_)
 show wpAny (model X.prog X.w) X.A (do rule "assign.swapped-stores";let items ←unpackItems (.ref s1.heap.objs.size) 2 none;assignInOrder [fun v=>bindName X.env y v,fun v=>bindName X.env x v] items.reverse;pure Flow.next) _ _ _
 refine wpAny_bind (wpAny_rule (wpAny_bind (unpackItems_tuple (items:=#[u1,u2]) (I.ok.hd hc) (IsTup.new s1.heap _) fun h' hx'=>?_)))
 have I3:=I2.kept (h':=h') (t':=s1.toks) fun b o e=>hx' b o (Nat.ne_of_lt (Heap.lt_size e)) e
 show wpAny _ _ (assignInOrder [fun v=>bindName X.env y v,fun v=>bindName X.env x v] [u2,u1] >>= fun _=>pure Flow.next) _ _ _
 refine wpAny_bind (assignInOrder_cons (wpAny_bindName (fe I3 hN hj (.inl hy) rw' (fun s2 I4=>?_) (.inr hy))))
 refine assignInOrder_cons (wpAny_bindName (fe I4 hN hi (.inl hx) rv (fun s3 I5=>assignInOrder_nil (wpAny_pure ?_)) (.inr hx)))
 rw [List.set_comm _ _ (Ne.symm hij)] at I5
 exact ⟨_,H1,I5,q1⟩
noncomputable def Jj (i:Nat) (te:TE) (ti:TIp):TS:=fun D σ H=>∃x,σ[i]?=some (some x)∧te σ H fun y H1=>ti x y H1 fun z H2=>D.nx (σ.set i (some z)) H2
theorem F3 {i:Nat} {x:Str} {e:Expr} {te:TE} {op:Operator} {ti:TIp} {pos':Pos} (hN:X.N.Nodup) (hi:X.N[i]?=some x) (hx:Loc X.env.scope x) (he:PE X e te) (ho:PIp X op ti) (hf:X.fn x=true∨X.env.scope.names.lookup x=some .local:=by first|exact .inl rfl|exact .inr rfl|assumption) :
  PS X (.AugAssign (.Name x pos') op e pos) (Jj i te ti):=by
 intro pins s σ H D I h
 obtain ⟨v,e1,h⟩:=h
 obtain ⟨m,hn,hl⟩:=I.loc
 have vis:Vis X.env.scope x:=by rcases hx with k|k;exact .inl k;exact .inr (.inl k)
 obtain ⟨u,r,l⟩:=hl i x v hi e1 vis
 refine wpAny_AugAssign_Name ?_
 have go:wpAny (model X.prog X.w) X.A (eval e X.env) (fun w s₂=>wpAny (model X.prog X.w) X.A (inplaceOp op u w) (fun r s₃=>wpAny (model X.prog X.w) X.A (storeName X.env x r) (fun _=>SP X pins D .next) X.xe s₃) X.xe s₂) X.xe s:=by
  refine thn (he pins s σ H _ I h) fun w s1 ⟨y,H1,I1,r1,q1⟩=>?_
  refine thn (ho pins s1 σ H1 v y u w _ I1 r r1 q1) fun z s2 ⟨zv,H2,I2,r2,q2⟩=>?_
  exact fe I2 hN hi hx r2 (fun s3 I3=>⟨_,H2,I3,q2⟩) hf
 rcases l with ⟨hk,hm⟩|⟨hk,c,hc,hcell⟩
 ·exact wpAny_loadName_local I.ok.kind hk hn hm go
 ·rcases hk with hk|hk
  ·exact wpAny_loadName_cell I.ok.kind hk hc hcell go
  ·rcases hx with k|k
   ·have:X.env.scope.names.lookup x=some .free:=hk
    rw [k] at this;cases this
   ·have:X.env.scope.names.lookup x=some .free:=hk
    rw [k] at this;cases this
noncomputable def ipI (f:Int→Int→Int):TIp:=fun x y H Q=>∃i j,x=.int i∧y=.int j∧Q (.int (f i j)) H
theorem Hf:PIp X .Add (ipI fun i j=>i+j):=by
 intro pins s σ H x y v u Q I r1 r2 h
 obtain ⟨i,j,e1,e2,q⟩:=h
 subst e1;subst e2
 obtain ⟨t,rfl⟩:=r1
 obtain ⟨t',rfl⟩:=r2
 exact iadd_int ⟨.int _,H,I.tok _,⟨_,rfl⟩,q⟩
theorem GB:PIp X .Sub (ipI fun i j=>i-j):=by
 intro pins s σ H x y v u Q I r1 r2 h
 obtain ⟨i,j,e1,e2,q⟩:=h
 subst e1;subst e2
 obtain ⟨t,rfl⟩:=r1
 obtain ⟨t',rfl⟩:=r2
 exact isub_int ⟨.int _,H,I.tok _,⟨_,rfl⟩,q⟩
end
section
variable {X:Cx} {pos:Pos}
noncomputable def DG (c:TT) (tb:TS):TS:=fun D σ H=>∃W:Nat→St→Hp→Prop,(∃m,W m σ H)∧∀m σ H,W m σ H →
 c σ H fun b H1=>if b=true then ∃N:St→Hp→Prop,(∀σ' H',N σ' H'→∃m',m'<m∧W m' σ' H')∧tb { D with nx:=N,ct:=N,bk:=D.nx } σ H1 else D.nx σ H1
theorem A0 {c:Expr} {body:List Stmt} {tc:TT} {tb:TS} (hp:PassesOwn (model X.prog X.w) X.A X.env X.xe) (hc:PT X c tc) (hb:PSs X body tb):PS X (.While c body [] pos) (DG tc tb):=by
 intro pins s σ H D I h
 obtain ⟨W,⟨m0,w0⟩,turn⟩:=h
 refine wpAny_While (codeAny_whileLoop (fun n s'=>∃σ' H',Inv X pins σ' H' s'∧W n σ' H') ?_ m0 ⟨σ,H,I,w0⟩)
 rintro n s1 ⟨σ1,H1,I1,w1⟩
 refine wpAny_passesOwn hp (thn (hc pins s1 σ1 H1 _ I1 (turn n σ1 H1 w1)) fun b s2 ⟨H2,I2,q2⟩=>?_)
 cases b with
 | true =>
  obtain ⟨N,hN,q2⟩:=q2
  rw [if_pos rfl]
  refine wpAny_passesOwn hp (thn (hb pins s2 σ1 H2 _ I2 q2) fun f s3 q3=>?_)
  cases f with
  | next =>
   obtain ⟨σ3,H3,I3,n3⟩:=q3
   obtain ⟨m',hm,w3⟩:=hN σ3 H3 n3
   exact ⟨m',hm,σ3,H3,I3,w3⟩
  | cont =>
   obtain ⟨σ3,H3,I3,n3⟩:=q3
   obtain ⟨m',hm,w3⟩:=hN σ3 H3 n3
   exact ⟨m',hm,σ3,H3,I3,w3⟩
  | brk=>exact q3
  | ret v=>exact q3
 | false =>
  rw [if_neg Bool.false_ne_true]
  exact wpAny_execs_nil ⟨σ1,H2,I2,q2⟩
end
structure It where
 go:Nat→Hp→Prop
 yld:Nat→Hp→V→Hp→Prop
 stop:Nat→Hp→Prop
noncomputable def m_ (X:Cx) (pins:List (Addr × Obj)) (H:Hp) (b:Addr):Prop :=
 H b=none∧b≠X.env.locals∧b ∉ X.fs∧(b∈X.ex∨X.s₀.heap.objs.size≤b)∧(∀x c,X.env.cells.lookup x=some c→c≠b)∧∀p∈X.pn++pins,p.1≠b
theorem Inv.fpOk {X:Cx} {pins:List (Addr × Obj)} {σ:St} {H H':Hp} {s:Shared} {b:Addr} (I:Inv X pins σ H s) (hb:s.heap.objs.size≤b) (hn:H' b=none):m_ X pins H' b:=by
 refine ⟨hn,Nat.ne_of_gt (Nat.lt_of_lt_of_le I.lt hb),I.nofs hb,.inr (Nat.le_trans I.sz hb),fun x c e z=>?_,fun p hp z=>?_⟩
 ·obtain ⟨v,q⟩:=I.cell x c e
  exact absurd (Nat.lt_of_lt_of_le q.lt (by rw [z];exact hb)) (Nat.lt_irrefl _)
 ·exact absurd (Nat.lt_of_lt_of_le (Heap.lt_size (I.pin p hp).1) (by rw [z];exact hb)) (Nat.lt_irrefl _)
structure AK (P:Program) (w:World) (K:PySem.W.Frag) (tg:Expr) (J:It) (fp:List Addr) (it:Addr) (tn:Nat→Heap→Prop):Prop where
 mem:it∈fp
 obj:∀i h,tn i h→∀b∈fp,∃o,h.get? b=some o∧∀v,o.data≠.cell v
 keep:∀i h h',tn i h→(∀b∈fp,∀o,h.get? b=some o→h'.get? b=some o)→tn i h'
 item:∀(X:Cx),X.prog=P→X.w=w→X.K=K→X.calm=true→∀(i:Nat) (pins:List (Addr × Obj)) (s:Shared) (σ:St) (H:Hp) (E:Value→Shared→Prop),Inv X pins σ H s→(∀b∈fp,m_ X pins H b)→tn i s.heap→J.go i H →
  wpAny (model P w) X.A (pyNext (.ref it)) (fun r s1=>∃u,r=some u ∧
   wpAny (model P w) X.A (letOwnedTupleGo tg (.ref it) u) (fun _ s2=>∃x H',Inv X pins σ H' s2∧RelV x u∧J.yld i H x H'∧tn (i+1) s2.heap∧∀b∈fp,H' b=none) E s1) E s
 done:∀(X:Cx),X.prog=P→X.w=w→X.K=K→X.calm=true→∀(i:Nat) (pins:List (Addr × Obj)) (s:Shared) (σ:St) (H:Hp) (E:Value→Shared→Prop),Inv X pins σ H s→(∀b∈fp,m_ X pins H b)→tn i s.heap→J.stop i H →
  wpAny (model P w) X.A (pyNext (.ref it)) (fun r s1=>r=none∧Inv X pins σ H s1) E s
 self:∀(A:Around) (i:Nat) (s:Shared) (Q:Value→Shared→Prop) (E:Value→Shared→Prop),tn i s.heap→Q (.ref it) s→wpAny (model P w) A (pyIter (.ref it)) Q E s
noncomputable abbrev TI:=St→Hp→(It→Hp→Prop)→Prop
noncomputable def PIE (X:Cx) (pins:List (Addr × Obj)) (σ:St) (tg:Expr) (R:It→Hp→Prop) (itv:Value) (s2:Shared):Prop :=
 ∃(it:Addr) (fp:List Addr) (tn:Nat→Heap→Prop) (J:It) (H':Hp),itv=.ref it∧Inv X pins σ H' s2∧AK X.prog X.w X.K tg J fp it tn∧tn 0 s2.heap∧(∀b∈fp,m_ X pins H' b)∧R J H'
noncomputable def PI (X:Cx) (tg iter:Expr) (wi:TI):Prop :=
 ∀(pins:List (Addr × Obj)) (s:Shared) (σ:St) (H:Hp) (R:It→Hp→Prop),Inv X pins σ H s→wi σ H R →
  wpAny (model X.prog X.w) X.A (eval iter X.env) (fun v s1=>wpAny (model X.prog X.w) X.A (pyIter v) (PIE X pins σ tg R) X.xe s1) X.xe s
theorem BN {M:Model} {A:Around} {E:Value→Shared→Prop} {s:Shared} {tg:Expr} {it:Addr} {u:Value} {o:Obj} {n:String} {vs:Array Value} {Q:Unit→Shared→Prop} (ho:s.heap.get? it=some o) (hc:o.cls=.type n) (hd:o.data=.fields vs)
  (hn:["enumerate","zip","dict_itemiterator","dict_reverseitemiterator","odict_iterator","itertools.zip_longest","itertools.pairwise"].contains n=false) (hQ:Q () s):wpAny M A (letOwnedTupleGo tg (.ref it) u) Q E s:=by
 unfold letOwnedTupleGo
 cases tg <;> first
  | exact wpAny_pure hQ
  | (cases u <;> first
    | exact wpAny_pure hQ
    | (refine wpAny_bind (wpAny_load ho ?_)
       rw [hc,hd]
       show wpAny M A (if (["enumerate","zip","dict_itemiterator","dict_reverseitemiterator","odict_iterator","itertools.zip_longest","itertools.pairwise"].contains n && vs[0]? == some (rawInt _))=true then _ else _) Q E s
       rw [if_neg (by intro h;rw [hn,Bool.false_and] at h;cases h)]
       exact wpAny_pure hQ))
noncomputable def Itl (K:PySem.W.Frag) (a:Addr):It :=
 ⟨fun i H=>∃xs x,SqL K H a xs∧xs[i]?=some x,fun i H x H'=>H'=H∧∀xs,SqL K H a xs→xs[i]?=some x,fun i H=>∃xs,SqL K H a xs∧xs.length≤i⟩
noncomputable def Itt (K:PySem.W.Frag) (a:Addr):It :=
 ⟨fun i H=>∃xs x,SqT K H a xs∧xs[i]?=some x,fun i H x H'=>H'=H∧∀xs,SqT K H a xs→xs[i]?=some x,fun i H=>∃xs,SqT K H a xs∧xs.length≤i⟩
noncomputable def Itr (lo:Int) (n:Nat):It:=⟨fun i _=>i<n,fun i H x H'=>H'=H∧x=.int (lo+i),fun i _=>n≤i⟩
theorem AN {P:Program} {w:World} {K:PySem.W.Frag} {tg:Expr} (a it:Addr):AK P w K tg (Itl K a) [it] it (fun i h=>h.IsListIter it a i) where
 mem:=by simp
 obj:=fun i h st b hb=>by
  have e:b=it:=by simpa using hb
  subst e
  obtain ⟨o,e,c,d⟩:=st
  exact ⟨o,e,fun v z=>by rw [d] at z;cases z⟩
 keep:=fun i h h' st k=>st.at fun o e=>k it (by simp) o e
 item:=by
  intro X hP hw hK hc i pins s σ H E I hf st hg
  subst hP hw hK
  obtain ⟨xs,x,hq,hx⟩:=hg
  obtain ⟨its,rv,p,hz⟩:=I.list hq
  obtain ⟨u,hu,ru⟩:=rv.get hx
  obtain ⟨f0,f1,f2,f3,f4,f5⟩:=hf it (by simp)
  refine wpAny_pyNext_list_item st p.isList (x:=u) (by simpa using hu) fun h' st' sb=>?_
  have I1:Inv X pins σ H { s with heap:=h' }:=I.turned (t':=s.toks) (fun b o hb e=>(sb.2 b hb).trans e) f0 f1 f3 f4 f5
  obtain ⟨o,e,c,d⟩:=id st'
  exact ⟨u,rfl,BN (s:={ s with heap:=h' }) e c d (by decide) ⟨x,H,I1,ru,⟨rfl,fun ys hy=>by rw [I.list_inj hy hq];exact hx⟩,st',fun b hb=>(hf b hb).1⟩⟩
 done:=by
  intro X hP hw hK hc i pins s σ H E I hf st hg
  subst hP hw hK
  obtain ⟨xs,hq,hx⟩:=hg
  obtain ⟨its,rv,p,hz⟩:=I.list hq
  obtain ⟨f0,f1,f2,f3,f4,f5⟩:=hf it (by simp)
  have hl:=rv.length
  exact wpAny_pyNext_list_end (I.ok.hd hc) st p.isList (by simp;omega) fun h' eb=>⟨rfl,I.turned (t':=s.toks) (fun b o hb e=>eb b o hb e) f0 f1 f3 f4 f5⟩
 self:=fun _ _ _ _ _ st h=>wpAny_pyIter_listiter st h
theorem wL {P:Program} {w:World} {K:PySem.W.Frag} {tg:Expr} (a it:Addr):AK P w K tg (Itt K a) [it] it (fun i h=>h.IsTupleIter it a i) where
 mem:=by simp
 obj:=fun i h st b hb=>by
  have e:b=it:=by simpa using hb
  subst e
  obtain ⟨o,e,c,d⟩:=st
  exact ⟨o,e,fun v z=>by rw [d] at z;cases z⟩
 keep:=fun i h h' st k=>st.at fun o e=>k it (by simp) o e
 item:=by
  intro X hP hw hK hc i pins s σ H E I hf st hg
  subst hP hw hK
  obtain ⟨xs,x,hq,hx⟩:=hg
  obtain ⟨its,rv,p,hz⟩:=I.tuple hq
  obtain ⟨u,hu,ru⟩:=rv.get hx
  obtain ⟨f0,f1,f2,f3,f4,f5⟩:=hf it (by simp)
  refine wpAny_pyNext_tuple_item st (show s.heap.IsTuple a its.toArray from p) (x:=u) (by simpa using hu) fun h' st' sb=>?_
  have I1:Inv X pins σ H { s with heap:=h' }:=I.turned (t':=s.toks) (fun b o hb e=>(sb.2 b hb).trans e) f0 f1 f3 f4 f5
  obtain ⟨o,e,c,d⟩:=id st'
  exact ⟨u,rfl,BN (s:={ s with heap:=h' }) e c d (by decide) ⟨x,H,I1,ru,⟨rfl,fun ys hy=>by rw [I.tuple_inj hy hq];exact hx⟩,st',fun b hb=>(hf b hb).1⟩⟩
 done:=by
  intro X hP hw hK hc i pins s σ H E I hf st hg
  subst hP hw hK
  obtain ⟨xs,hq,hx⟩:=hg
  obtain ⟨its,rv,p,hz⟩:=I.tuple hq
  obtain ⟨f0,f1,f2,f3,f4,f5⟩:=hf it (by simp)
  have hl:=rv.length
  exact wpAny_pyNext_tuple_end (I.ok.hd hc) st (show s.heap.IsTuple a its.toArray from p) (by simp;omega) fun h' eb=>⟨rfl,I.turned (t':=s.toks) (fun b o hb e=>eb b o hb e) f0 f1 f3 f4 f5⟩
 self:=fun _ _ _ _ _ st h=>wpAny_pyIter_tupleiter st h
theorem xR {P:Program} {w:World} {K:PySem.W.Frag} {tg:Expr} (it:Addr) (lo:Int) (n:Nat):AK P w K tg (Itr lo n) [it] it (fun i h=>IsRangeIter h it (lo+(i:Nat)*1) ((n:Int)-(i:Nat)) 1) where
 mem:=by simp
 obj:=fun i h st b hb=>by
  have e:b=it:=by simpa using hb
  subst e
  exact ⟨_,st,fun v z=>by
   have z':Data.fields _=Data.cell v:=z
   cases z'⟩
 keep:=fun i h h' st k=>k it (by simp) _ st
 item:=by
  intro X hP hw hK hc i pins s σ H E I hf st hg
  subst hP hw hK
  obtain ⟨f0,f1,f2,f3,f4,f5⟩:=hf it (by simp)
  have W:=Walks.range (prog:=X.prog) (w:=X.w) (I.ok.hd hc) it lo 1 n
  refine W.item i s _ _ hg st fun v h' tk hv st' kk=>?_
  obtain ⟨t,rfl⟩:=hv
  have I1:Inv X pins σ H { s with heap:=h',toks:=tk }:=I.turned (fun b o hb e=>kk b o (by simpa using hb) e) f0 f1 f3 f4 f5
  refine ⟨_,rfl,BN (s:={ s with heap:=h',toks:=tk }) (n:="range_iterator") st' rfl rfl (by decide) ⟨.int (lo+i),H,I1,⟨t,?_⟩,⟨rfl,rfl⟩,st',fun b hb=>(hf b hb).1⟩⟩
  rw [Int.mul_one]
 done:=by
  intro X hP hw hK hc i pins s σ H E I hf st hg
  subst hP hw hK
  obtain ⟨f0,f1,f2,f3,f4,f5⟩:=hf it (by simp)
  exact wpAny_pyNext_range_end (I.ok.hd hc) st (by have:n≤i:=hg;omega) fun h' eb=>⟨rfl,I.turned (t':=s.toks) (fun b o hb e=>eb b o hb e) f0 f1 f3 f4 f5⟩
 self:=fun _ _ _ _ _ st h=>wpAny_pyIter_rangeiter st h
end L2
namespace L2
open PySem PySem.Spec PyProof.Rows
section
variable {X:Cx} {tg:Expr}
theorem wt {pins:List (Addr × Obj)} {σ:St} {H:Hp} {s:Shared} {R:It→Hp→Prop} {E:Value→Shared→Prop} {lo hi:Int} {t u v:Tok} {tk:Nat} (I:Inv X pins σ H s) (h1:-(2 ^ 62)≤lo) (h2:lo<2 ^ 62) (h3:-(2 ^ 62)≤hi) (h4:hi<2 ^ 62)
  (q:R (Itr lo (hi-lo).toNat) H):wpAny (model X.prog X.w) X.A (pyIter (.ref s.heap.objs.size)) (PIE X pins σ tg R) E { s with heap:=s.heap.push { cls:=.type "range",data:=.fields #[.int lo t,.int hi u,.int 1 v] },toks:=tk }:=by
 refine wpAny_pyIter_range (IsRange.new ..) (small_one h1 h2 h3 h4) ?_
 have I1:Inv X pins σ H { s with heap:=s.heap.push { cls:=.type "range",data:=.fields #[.int lo t,.int hi u,.int 1 v] },toks:=tk }:=I.kept fun b o e=>Heap.get?_push_of_some _ e
 refine ⟨(s.heap.push { cls:=.type "range",data:=.fields #[.int lo t,.int hi u,.int 1 v] }).objs.size,[(s.heap.push { cls:=.type "range",data:=.fields #[.int lo t,.int hi u,.int 1 v] }).objs.size],_,_,H,rfl,
  I1.kept (t':=tk) fun b o e=>Heap.get?_push_of_some _ e,xR _ lo (hi-lo).toNat,?_,fun b hb=>?_,q⟩
 ·have e1:lo+((0:Nat):Int)*1=lo:=by simp
  have e2:(((hi-lo).toNat:Nat):Int)-((0:Nat):Int)=Builtin.Range.rangeSize lo hi 1:=by rw [rangeSize_one];split <;> omega
  show IsRangeIter _ _ (lo+((0:Nat):Int)*1) ((((hi-lo).toNat:Nat):Int)-((0:Nat):Int)) 1
  rw [e1,e2]
  exact Heap.get?_push_size _ rfl
 ·have e:b=(s.heap.push { cls:=.type "range",data:=.fields #[.int lo t,.int hi u,.int 1 v] }).objs.size:=by simpa using hb
  subst e
  exact I1.fpOk (Nat.le_refl _) (I1.hok.fresh (Nat.le_refl _))
noncomputable def Im (ta:TA):TI:=fun σ H R=>ta σ H fun vs H1=>∃j:Int,vs=[.int j]∧-(2 ^ 62)≤j∧j<2 ^ 62∧R (Itr 0 j.toNat) H1
noncomputable def IT (ta:TA):TI:=fun σ H R=>ta σ H fun vs H1=>∃i j:Int,vs=[.int i,.int j]∧(-(2 ^ 62)≤i∧i<2 ^ 62∧-(2 ^ 62)≤j∧j<2 ^ 62)∧R (Itr i (j-i).toNat) H1
theorem zG {a:Expr} {ta:TA} {p pos:Pos} (hg:Gl X "range") (hm:X.mg "range"=none) (ha:PA X [a] ta) (hs:starEach [a] X.env=[(false,eval a X.env)]:=by rfl):PI X tg (.Call (.Name "range" p) [a] [] pos) (Im ta):=by
 intro pins s σ H R I h
 refine Call_ (iO I hg hm boot_range (PyProof.Rows.callWith_type1 (thn (ha pos pins s σ H _ I h) fun us s1 ⟨vs,H1,I1,r1,q1⟩=>?_) hs rfl))
 obtain ⟨j,e,q1,q2,q⟩:=q1
 subst e
 cases r1 with
 | cons r rr =>
  cases rr
  obtain ⟨t,rfl⟩:=r
  exact call_range_1 (wt I1 (by omega) (by omega) q1 q2 (by simpa using q))
theorem Ac {a b:Expr} {ta:TA} {p pos:Pos} (hg:Gl X "range") (hm:X.mg "range"=none) (ha:PA X [a,b] ta) (hs:starEach [a,b] X.env=[(false,eval a X.env),(false,eval b X.env)]:=by rfl) (hs2:starEach [b] X.env=[(false,eval b X.env)]:=by rfl) :
  PI X tg (.Call (.Name "range" p) [a,b] [] pos) (IT ta):=by
 intro pins s σ H R I h
 refine Call_ (iO I hg hm boot_range (PyProof.Rows.callWith_type1 (thn (ha pos pins s σ H _ I h) fun us s1 ⟨vs,H1,I1,r1,q1⟩=>?_) (by rw [hs,hs2]) (by rw [hs2];rfl)))
 obtain ⟨i,j,e,⟨q1,q2,q3,q4⟩,q⟩:=q1
 subst e
 cases r1 with
 | cons r rr =>
  cases rr with
  | cons r' rr =>
   cases rr
   obtain ⟨t,rfl⟩:=r
   obtain ⟨t',rfl⟩:=r'
   exact call_range_2 (wt I1 q1 q2 q3 q4 q)
noncomputable def IL (wi:TI) (g:TG) (tb:TS):TS:=fun D σ H=>wi σ H fun J H1=>∃W:Nat→Nat→St→Hp→Prop,(∃m,W 0 m σ H1)∧∀i m σ H,W i m σ H →
 (J.stop i H∧D.nx σ H)∨(J.go i H∧∃N:St→Hp→Prop,(∀σ' H',N σ' H'→∃m',m'<m∧W (i+1) m' σ' H')∧∀x H',J.yld i H x H'→g x σ H' fun σ2 H2=>tb { D with nx:=N,ct:=N,bk:=D.nx } σ2 H2)
noncomputable def ol (fp:List Addr) (h:Heap):List (Addr × Obj):=fp.filterMap fun b=>(h.get? b).map fun o=>(b,o)
theorem gW {fp:List Addr} {h:Heap} {b:Addr} {o:Obj} (hb:b∈fp) (e:h.get? b=some o):(b,o)∈ol fp h:=List.mem_filterMap.mpr ⟨b,hb,by rw [e];rfl⟩
theorem zU {fp:List Addr} {h:Heap} {p:Addr × Obj} (hp:p∈ol fp h):p.1∈fp∧h.get? p.1=some p.2:=by
 obtain ⟨b,hb,e⟩:=List.mem_filterMap.mp hp
 cases q:h.get? b with
 | none=>rw [q] at e;cases e
 | some o =>
  rw [q] at e
  have e':(b,o)=p:=Option.some.inj e
  subst e'
  exact ⟨hb,q⟩
theorem Inv.pinned {pins:List (Addr × Obj)} {σ:St} {H:Hp} {s:Shared} {fp:List Addr} (I:Inv X pins σ H s) (hf:∀b∈fp,m_ X pins H b) (ho:∀b∈fp,∃o,s.heap.get? b=some o∧∀v,o.data≠.cell v):Inv X (pins++ol fp s.heap) σ H s :=
 I.pins_of fun p hp=>(List.mem_append.mp hp).elim (fun z=>I.pin p (List.mem_append_right _ z)) fun z=>by
  obtain ⟨hb,e⟩:=zU z
  obtain ⟨f0,f1,f2,_⟩:=hf p.1 hb
  obtain ⟨o,e',d⟩:=ho p.1 hb
  rw [e] at e';cases e'
  exact ⟨e,f0,f1,f2,d⟩
theorem Inv.unpinned {pins pl:List (Addr × Obj)} {σ:St} {H:Hp} {s:Shared} (I:Inv X (pins++pl) σ H s):Inv X pins σ H s:=I.pins_of fun p hp=>I.pin p (List.mem_append_right _ (List.mem_append_left _ hp))
theorem F1 {iter:Expr} {body:List Stmt} {wi:TI} {g:TG} {tb:TS} {pos:Pos} (hp:PassesOwn (model X.prog X.w) X.A X.env X.xe) (hc:X.calm=true) (hi:PI X tg iter wi) (hg:PG X tg g) (hb:PSs X body tb)
  (hs:∀x,foldedSetIterable iter X.env x=pure x:=by intro _;rfl):PS X (.For tg iter body [] pos) (IL wi g tb):=by
 intro pins s σ H D I h
 refine wpAny_For (thn (hi pins s σ H _ I h) fun v s1 h1=>thn h1 fun itv s2 h2=>?_) hs
 obtain ⟨it,fp,tn,J,H2,e,I2,T,st2,f2,W,⟨m0,w0⟩,turn⟩:=h2
 subst e
 have stat:∀ {H':Hp},(∀b∈fp,H' b=none)→∀b∈fp,m_ X pins H' b:=fun hn b hb=>⟨hn b hb,(f2 b hb).2⟩
 refine codeAny_forLoop_any (fun n s'=>∃i σ' H',Inv X pins σ' H' s'∧tn i s'.heap∧(∀b∈fp,H' b=none)∧W i n σ' H') ?_ m0 ⟨0,σ,H2,I2,st2,fun b hb=>(f2 b hb).1,w0⟩
 rintro n s3 ⟨i,σ3,H3,I3,st3,fr3,w3⟩
 rcases turn i n σ3 H3 w3 with ⟨stop,qn⟩|⟨go,N,hN,step⟩
 ·refine wpAny_passesOwn hp (thn (T.done X rfl rfl rfl hc i pins s3 σ3 H3 X.xe I3 (stat fr3) st3 stop) fun r s4 ⟨hr,I4⟩=>?_)
  subst hr
  exact wpAny_execs_nil ⟨σ3,H3,I4,qn⟩
 ·refine wpAny_passesOwn hp (thn (T.item X rfl rfl rfl hc i pins s3 σ3 H3 X.xe I3 (stat fr3) st3 go) fun r s4 ⟨u,hr,h4⟩=>?_)
  subst hr
  refine wpAny_passesOwn hp (thn h4 fun _ s5 ⟨x,H5,I5,r5,y5,st5,fr5⟩=>?_)
  have I5':=I5.pinned (stat fr5) (T.obj _ _ st5)
  refine wpAny_passesOwn hp (thn (hg _ s5 σ3 H5 x u _ I5' r5 (step x H5 y5)) fun _ s6 ⟨σ6,H6,I6,q6⟩=>?_)
  refine wpAny_passesOwn hp (thn (hb _ s6 σ6 H6 _ I6 q6) fun f s7 q7=>?_)
  have again:∀ {σ7:St} {H7:Hp},Inv X (pins++ol fp s5.heap) σ7 H7 s7→N σ7 H7→∃m,m<n∧∃i σ' H',Inv X pins σ' H' s7∧tn i s7.heap∧(∀b∈fp,H' b=none)∧W i m σ' H':=fun {σ7 H7} I7 n7=>by
   obtain ⟨m',hm,w7⟩:=hN σ7 H7 n7
   refine ⟨m',hm,i+1,σ7,H7,I7.unpinned,T.keep _ _ _ st5 fun b hb o e=>(I7.pin (b,o) (List.mem_append_right _ (List.mem_append_right _ (gW hb e)))).1,fun b hb=>?_,w7⟩
   obtain ⟨o,e,d⟩:=T.obj _ _ st5 b hb
   exact (I7.pin (b,o) (List.mem_append_right _ (List.mem_append_right _ (gW hb e)))).2.1
  cases f with
  | next=>obtain ⟨σ7,H7,I7,n7⟩:=q7;exact again I7 n7
  | cont=>obtain ⟨σ7,H7,I7,n7⟩:=q7;exact again I7 n7
  | brk=>obtain ⟨σ7,H7,I7,q7⟩:=q7;exact ⟨σ7,H7,I7.unpinned,q7⟩
  | ret v=>obtain ⟨x7,σ7,H7,I7,r7,q7⟩:=q7;exact ⟨x7,σ7,H7,I7.unpinned,r7,q7⟩
end
end L2
namespace L2
open PySem PySem.Spec PyProof.Rows
noncomputable abbrev R2:=V→V→Hp→VK→Prop
noncomputable def OpR (X:Cx) (f:Value→Value→Sem Value) (r:R2):Prop :=
 ∀(pins:List (Addr × Obj)) (s:Shared) (σ:St) (H:Hp) (x y:V) (v u:Value) (Q:VK),Inv X pins σ H s→RelV x v→RelV y u→r x y H Q →
  wpAny (model X.prog X.w) X.A (f v u) (EP X pins σ Q) X.xe s
noncomputable def UnR (X:Cx) (f:Value→Sem Value) (r:V→Hp→VK→Prop):Prop :=
 ∀(pins:List (Addr × Obj)) (s:Shared) (σ:St) (H:Hp) (x:V) (v:Value) (Q:VK),Inv X pins σ H s→RelV x v→r x H Q →
  wpAny (model X.prog X.w) X.A (f v) (EP X pins σ Q) X.xe s
noncomputable def gK (X:Cx) (f:Value) (r:List V→Hp→VK→Prop):Prop :=
 ∀(pins:List (Addr × Obj)) (s:Shared) (σ:St) (H:Hp) (xs:List V) (us:List Value) (Q:VK),Inv X pins σ H s→Vals xs us→r xs H Q →
  wpAny (model X.prog X.w) X.A (call f us) (EP X pins σ Q) X.xe s
noncomputable def JI (X:Cx) (r:V→Hp→(Bool→Hp→Prop)→Prop):Prop :=
 ∀(pins:List (Addr × Obj)) (s:Shared) (σ:St) (H:Hp) (x:V) (v:Value) (Q:Bool→Hp→Prop),Inv X pins σ H s→RelV x v→r x H Q →
  wpAny (model X.prog X.w) X.A (truthy v) (TP X pins σ Q) X.xe s
noncomputable def tOp (r:R2) (ta tb:TE):TE:=fun σ H Q=>ta σ H fun x H1=>tb σ H1 fun y H2=>r x y H2 Q
noncomputable def tUn (r:V→Hp→VK→Prop) (ta:TE):TE:=fun σ H Q=>ta σ H fun x H1=>r x H1 Q
noncomputable def rI (C:Int→Int→Prop) (g:Int→Int→V):R2:=fun x y H Q=>∃i j,x=.int i∧y=.int j∧C i j∧Q (g i j) H
noncomputable def rI0 (g:Int→Int→V):R2:=fun x y H Q=>∃i j,x=.int i∧y=.int j∧Q (g i j) H
noncomputable def rU (g:Int→V):V→Hp→VK→Prop:=fun x H Q=>∃i,x=.int i∧Q (g i) H
section
variable {X:Cx} {a b c:Expr} {ta tb tc:TE} {pos:Pos}
theorem Hn (ha:PE X a ta) (hb:PE X b tb) {pins:List (Addr × Obj)} {s:Shared} {σ:St} {H:Hp} {R:V→V→Hp→Prop} (I:Inv X pins σ H s)
  (h:ta σ H fun x H1=>tb σ H1 fun y H2=>R x y H2) {Q:Value→Shared→Prop} {f:Value→Value→Sem Value}
  (hf:∀v u s2 x y H2,Inv X pins σ H2 s2→RelV x v→RelV y u→R x y H2→wpAny (model X.prog X.w) X.A (f v u) Q X.xe s2) :
  wpAny (model X.prog X.w) X.A (eval a X.env) (fun v s₁=>wpAny (model X.prog X.w) X.A (eval b X.env) (fun u s₂=>wpAny (model X.prog X.w) X.A (f v u) Q X.xe s₂) X.xe s₁) X.xe s:=by
 refine thn (ha pins s σ H _ I h) fun v s1 ⟨x,H1,I1,r1,q1⟩=>?_
 refine thn (hb pins s1 σ H1 _ I1 q1) fun u s2 ⟨y,H2,I2,r2,q2⟩=>?_
 exact hf v u s2 x y H2 I2 r1 r2 q2
theorem HI {op:Operator} {r:R2} (ho:OpR X (binaryOp op) r) (ha:PE X a ta) (hb:PE X b tb):PE X (.BinOp a op b pos) (tOp r ta tb):=by
 intro pins s σ H Q I h
 exact wpAny_BinOp (Hn ha hb I h fun v u s2 x y H2 I2 rx ry q=>ho pins s2 σ H2 x y v u Q I2 rx ry q)
theorem I0 {op:UnaryOp} {r:V→Hp→VK→Prop} (ho:UnR X (unaryOp op) r) (ha:PE X a ta):PE X (.UnaryOp op a pos) (tUn r ta):=by
 intro pins s σ H Q I h
 exact UnaryOp_ (thn (ha pins s σ H _ I h) fun v s1 ⟨x,H1,I1,r1,q1⟩=>ho pins s1 σ H1 x v Q I1 r1 q1)
theorem opI {f:Value→Value→Sem Value} {C:Int→Int→Prop} {g:Int→Int→Int}
  (rule:∀(i j:Int) (t u:Tok) (s:Shared) (Q:Value→Shared→Prop) (E:Value→Shared→Prop),C i j→Q (.int (g i j) s.toks) { s with toks:=s.toks+1 }→wpAny (model X.prog X.w) X.A (f (.int i t) (.int j u)) Q E s) :
  OpR X f (rI C fun i j=>.int (g i j)):=by
 intro pins s σ H x y v u Q I rx ry h
 obtain ⟨i,j,rfl,rfl,hc,q⟩:=h
 obtain ⟨t,rfl⟩:=rx
 obtain ⟨t',rfl⟩:=ry
 exact rule i j t t' s _ _ hc ⟨.int (g i j),H,I.tok _,⟨_,rfl⟩,q⟩
theorem IZ {f:Value→Value→Sem Value} {g:Int→Int→Int}
  (rule:∀(i j:Int) (t u:Tok) (s:Shared) (Q:Value→Shared→Prop) (E:Value→Shared→Prop),Q (.int (g i j) s.toks) { s with toks:=s.toks+1 }→wpAny (model X.prog X.w) X.A (f (.int i t) (.int j u)) Q E s) :
  OpR X f (rI0 fun i j=>.int (g i j)):=by
 intro pins s σ H x y v u Q I rx ry h
 obtain ⟨i,j,rfl,rfl,q⟩:=h
 obtain ⟨t,rfl⟩:=rx
 obtain ⟨t',rfl⟩:=ry
 exact rule i j t t' s _ _ ⟨.int (g i j),H,I.tok _,⟨_,rfl⟩,q⟩
theorem Ea {f:Value→Value→Sem Value} {g:Int→Int→Bool}
  (rule:∀(i j:Int) (t u:Tok) (s:Shared) (Q:Value→Shared→Prop) (E:Value→Shared→Prop),Q (.bool (g i j)) s→wpAny (model X.prog X.w) X.A (f (.int i t) (.int j u)) Q E s) :
  OpR X f (rI0 fun i j=>.bl (g i j)):=by
 intro pins s σ H x y v u Q I rx ry h
 obtain ⟨i,j,rfl,rfl,q⟩:=h
 obtain ⟨t,rfl⟩:=rx
 obtain ⟨t',rfl⟩:=ry
 exact rule i j t t' s _ _ ⟨.bl (g i j),H,I,rfl,q⟩
noncomputable def xf (i j:Int):Prop:=0≤j∧j≤1000000∧i.natAbs<2 ^ 64
theorem F8:OpR X (binaryOp .Add) (rI0 fun i j=>.int (i+j)):=IZ fun _ _ _ _ _ _ _ q=>add_int q
theorem Gz:OpR X (binaryOp .Sub) (rI0 fun i j=>.int (i-j)):=IZ fun _ _ _ _ _ _ _ q=>sub_int q
theorem Ge:OpR X (binaryOp .Mod) (rI (fun _ j=>0<j) fun i j=>.int (i % j)):=opI fun i j _ _ _ _ _ hc q=>by
 have h1:(0:Int)<j:=hc
 exact mod_int' (by omega) (by rw [Int.fmod_eq_emod_of_nonneg i (by omega)];exact q)
theorem GM:OpR X (binaryOp .Pow) (rI xf fun i j=>.int (i ^ j.toNat)):=opI fun _ _ _ _ _ _ _ hc q=>pow_int_small hc.1 hc.2.1 hc.2.2 q
theorem unI {f:Value→Sem Value} {g:Int→Int}
  (rule:∀(i:Int) (t:Tok) (s:Shared) (Q:Value→Shared→Prop) (E:Value→Shared→Prop),Q (.int (g i) s.toks) { s with toks:=s.toks+1 }→wpAny (model X.prog X.w) X.A (f (.int i t)) Q E s) :
  UnR X f (rU fun i=>.int (g i)):=by
 intro pins s σ H x v Q I rx h
 obtain ⟨i,rfl,q⟩:=h
 obtain ⟨t,rfl⟩:=rx
 exact rule i t s _ _ ⟨.int (g i),H,I.tok _,⟨_,rfl⟩,q⟩
theorem Gh:UnR X (unaryOp .USub) (rU fun i=>.int (-i)):=unI fun _ _ _ _ _ q=>neg_int q
end
noncomputable def Ix:V→V→Bool
 | .non,.non=>true | .non,.int _=>true | .int _,.non=>true | .non,.bl _=>true | .bl _,.non=>true | .non,.str _=>true | .str _,.non=>true
 | .int _,.int _=>true | .bl _,.bl _=>true | .str _,.str _=>true | .byt _,.byt _=>true
 | .int _,.str _=>true | .str _,.int _=>true | .bl _,.str _=>true | .str _,.bl _=>true
 | _,_=>false
noncomputable def rEq:R2:=fun x y H Q=>Ix x y=true∧Q (.bl (decide (x=y))) H
noncomputable def rNe:R2:=fun x y H Q=>Ix x y=true∧Q (.bl (!decide (x=y))) H
theorem y9 {i j:Int}:decide (V.int i=V.int j)=(i == j):=by
 rw [Bool.eq_iff_iff]
 simp
theorem C_ {i j:Bool}:decide (V.bl i=V.bl j)=(i == j):=by
 rw [Bool.eq_iff_iff]
 simp
theorem yx {i j:Str}:decide (V.str i=V.str j)=(i == j):=by
 rw [Bool.eq_iff_iff]
 simp
theorem yI {i j:Array UInt8}:decide (V.byt i=V.byt j)=(i.toList == j.toList):=by
 rw [Bool.eq_iff_iff]
 cases i
 cases j
 simp
section
variable {X:Cx} {a b c:Expr} {ta tb tc:TE} {pos:Pos}
theorem aF {pins:List (Addr × Obj)} {σ:St} {H:Hp} {s:Shared} {Q:VK} {k k':Bool} (I:Inv X pins σ H s) (q:Q (.bl k) H) (e:k=k'):EP X pins σ Q (.bool k') s:=by
 subst e
 exact ⟨.bl k,H,I,rfl,q⟩
theorem CP:OpR X (compareOp .Eq) rEq:=by
 intro pins s σ H x y v u Q I rx ry h
 obtain ⟨hs,q⟩:=h
 cases x with
 | non =>
  cases rx
  cases y with
  | non=>cases ry;exact PySem.EqNone.eq_none_none (aF I q (by simp))
  | bl j=>cases ry;exact PySem.EqNone.eq_none_bool (aF I q (by simp))
  | int j=>obtain ⟨t',rfl⟩:=ry;exact PySem.EqNone.eq_none_int (aF I q (by simp))
  | str j=>obtain ⟨t',rfl⟩:=ry;exact PySem.EqNone.eq_none_str (aF I q (by simp))
  | _=>exact absurd (show false=true from hs) Bool.false_ne_true
 | bl i =>
  cases rx
  cases y with
  | non=>cases ry;exact PySem.EqNone.eq_bool_none (aF I q (by simp))
  | bl j=>cases ry;exact eq_bool (aF I q C_)
  | str j=>obtain ⟨t',rfl⟩:=ry;exact PySem.EqMixed.eq_bool_str (aF I q (by simp))
  | _=>exact absurd (show false=true from hs) Bool.false_ne_true
 | int i =>
  obtain ⟨t,rfl⟩:=rx
  cases y with
  | non=>cases ry;exact PySem.EqNone.eq_int_none (aF I q (by simp))
  | int j=>obtain ⟨t',rfl⟩:=ry;exact eq_int (aF I q y9)
  | str j=>obtain ⟨t',rfl⟩:=ry;exact PySem.EqMixed.eq_int_str (aF I q (by simp))
  | _=>exact absurd (show false=true from hs) Bool.false_ne_true
 | str i =>
  obtain ⟨t,rfl⟩:=rx
  cases y with
  | non=>cases ry;exact PySem.EqNone.eq_str_none (aF I q (by simp))
  | bl j=>cases ry;exact PySem.EqMixed.eq_str_bool (aF I q (by simp))
  | int j=>obtain ⟨t',rfl⟩:=ry;exact PySem.EqMixed.eq_str_int (aF I q (by simp))
  | str j=>obtain ⟨t',rfl⟩:=ry;exact eq_str (aF I q yx)
  | _=>exact absurd (show false=true from hs) Bool.false_ne_true
 | byt i =>
  obtain ⟨t,rfl⟩:=rx
  cases y with
  | byt j=>obtain ⟨t',rfl⟩:=ry;exact PySem.W.eq_bytes (aF I q yI)
  | _=>exact absurd (show false=true from hs) Bool.false_ne_true
 | _=>cases y <;> exact absurd (show false=true from hs) Bool.false_ne_true
theorem Bm:OpR X (compareOp .NotEq) rNe:=by
 intro pins s σ H x y v u Q I rx ry h
 obtain ⟨hs,q⟩:=h
 cases x with
 | non =>
  cases rx
  cases y with
  | non=>cases ry;exact PySem.EqNone.ne_none_none (aF I q (by simp))
  | bl j=>cases ry;exact PySem.EqNone.ne_none_bool (aF I q (by simp))
  | int j=>obtain ⟨t',rfl⟩:=ry;exact PySem.EqNone.ne_none_int (aF I q (by simp))
  | str j=>obtain ⟨t',rfl⟩:=ry;exact PySem.EqNone.ne_none_str (aF I q (by simp))
  | _=>exact absurd (show false=true from hs) Bool.false_ne_true
 | bl i =>
  cases rx
  cases y with
  | non=>cases ry;exact PySem.EqNone.ne_bool_none (aF I q (by simp))
  | bl j=>cases ry;exact ne_bool (aF I q (congrArg not C_))
  | str j=>obtain ⟨t',rfl⟩:=ry;exact PySem.EqMixed.ne_bool_str (aF I q (by simp))
  | _=>exact absurd (show false=true from hs) Bool.false_ne_true
 | int i =>
  obtain ⟨t,rfl⟩:=rx
  cases y with
  | non=>cases ry;exact PySem.EqNone.ne_int_none (aF I q (by simp))
  | int j=>obtain ⟨t',rfl⟩:=ry;exact ne_int (aF I q (congrArg not y9))
  | str j=>obtain ⟨t',rfl⟩:=ry;exact PySem.EqMixed.ne_int_str (aF I q (by simp))
  | _=>exact absurd (show false=true from hs) Bool.false_ne_true
 | str i =>
  obtain ⟨t,rfl⟩:=rx
  cases y with
  | non=>cases ry;exact PySem.EqNone.ne_str_none (aF I q (by simp))
  | bl j=>cases ry;exact PySem.EqMixed.ne_str_bool (aF I q (by simp))
  | int j=>obtain ⟨t',rfl⟩:=ry;exact PySem.EqMixed.ne_str_int (aF I q (by simp))
  | str j=>obtain ⟨t',rfl⟩:=ry;exact ne_str (aF I q (congrArg not yx))
  | _=>exact absurd (show false=true from hs) Bool.false_ne_true
 | byt i =>
  obtain ⟨t,rfl⟩:=rx
  cases y with
  | byt j=>obtain ⟨t',rfl⟩:=ry;exact PySem.W.ne_bytes (aF I q (congrArg not yI))
  | _=>exact absurd (show false=true from hs) Bool.false_ne_true
 | _=>cases y <;> exact absurd (show false=true from hs) Bool.false_ne_true
theorem HZ:OpR X (compareOp .Lt) (rI0 fun i j=>.bl (decide (i<j))):=Ea fun _ _ _ _ _ _ _ q=>lt_int q
theorem Ii:OpR X (compareOp .LtE) (rI0 fun i j=>.bl (decide (i≤j))):=Ea fun _ _ _ _ _ _ _ q=>le_int q
theorem IW:OpR X (compareOp .Gt) (rI0 fun i j=>.bl (decide (j<i))):=Ea fun _ _ _ _ _ _ _ q=>gt_int q
theorem Iu:OpR X (compareOp .GtE) (rI0 fun i j=>.bl (decide (j≤i))):=Ea fun _ _ _ _ _ _ _ q=>ge_int q
theorem Ak:OpR X (compareOp .In) (fun x y H Q=>∃i j,x=.str i∧y=.str j∧Q (.bl (!(Builtin.Str.occurrences j i 0 j.length 1).isEmpty)) H):=by
 intro pins s σ H x y v u Q I rx ry h
 obtain ⟨i,j,rfl,rfl,q⟩:=h
 obtain ⟨t,rfl⟩:=rx
 obtain ⟨t',rfl⟩:=ry
 exact in_str (aF I q rfl)
theorem GZ:OpR X (compareOp .Is) (fun x y H Q=>y=.non∧Q (.bl (decide (x=.non))) H):=by
 intro pins s σ H x y v u Q I rx ry h
 obtain ⟨rfl,q⟩:=h
 cases ry
 refine is_none_gen (aF I q ?_)
 cases x <;> first
  | (cases rx;rfl)
  | (obtain ⟨t,rfl⟩:=rx;rfl)
theorem Ef:OpR X (compareOp .IsNot) (fun x y H Q=>y=.non∧Q (.bl (!decide (x=.non))) H):=by
 intro pins s σ H x y v u Q I rx ry h
 obtain ⟨rfl,q⟩:=h
 cases ry
 refine isnot_none_gen (aF I q ?_)
 cases x <;> first
  | (cases rx;rfl)
  | (obtain ⟨t,rfl⟩:=rx;rfl)
theorem Eu {op:CmpOp} {r:R2} (ho:OpR X (compareOp op) r) (ha:PE X a ta) (hb:PE X b tb) (hm:behindInMarks op b=false):PE X (.Compare a [op] [b] pos) (tOp r ta tb):=by
 intro pins s σ H Q I h
 exact wpAny_Compare1 (Hn ha hb I h fun v u s2 x y H2 I2 rx ry q=>ho pins s2 σ H2 x y v u Q I2 rx ry q) hm
noncomputable def IV (t:TE):TT:=fun σ H Q=>t σ H fun x H'=>∃k,x=.bl k∧Q k H'
theorem EY {op:CmpOp} {r:R2} (ho:OpR X (compareOp op) r) (ha:PE X a ta) (hb:PE X b tb) (hm:behindInMarks op b=false):PT X (.Compare a [op] [b] pos) (IV (tOp r ta tb)):=by
 intro pins s σ H Q I h
 refine wpAny_isTrue_Compare1 (thn (ha pins s σ H _ I h) fun v s1 ⟨x,H1,I1,r1,q1⟩=>thn (hb pins s1 σ H1 _ I1 q1) fun u s2 ⟨y,H2,I2,r2,q2⟩ =>
  thn (ho pins s2 σ H2 x y v u _ I2 r1 r2 q2) fun c s3 ⟨z,H3,I3,r3,k,e,q3⟩=>?_) hm
 subst e
 cases r3
 exact wpAny_truthy_bool ⟨H3,I3,q3⟩
noncomputable def Gb (K:PySem.W.Frag) (x:V) (H:Hp) (k:Bool):Prop :=
 match x with
 | .non=>k=false
 | .bl b=>k=b
 | .int i=>k=(i != 0)
 | .str y=>y.length≤sizeLine∧k=((y.length:Int) != 0)
 | .byt y=>y.size≤sizeLine∧k=((y.size:Int) != 0)
 | .ref p=>(∃xs,SqL K H p xs∧k=!xs.isEmpty)∨(∃xs,SqT K H p xs∧k=!xs.isEmpty)∨∃kvs,H p=some (.dK kvs)∧k=!kvs.isEmpty
 | _=>False
theorem wP {κ:Type} {kvs:List (κ × V)} {vs:List (κ × Value)} (r:KV kvs vs):(!vs.isEmpty)=!kvs.isEmpty:=by
 cases r <;> rfl
theorem pQ {xs:List V} {its:List Value} (r:Vals xs its):(!its.toArray.isEmpty)=!xs.isEmpty:=by
 cases r <;> simp
theorem jG:(sizeLine:Nat)<2 ^ 63:=by rw [sizeLine_eq];decide
theorem GU:JI X (fun x H Q=>∃k,Gb X.K x H k∧Q k H):=by
 intro pins s σ H x v Q I rx h
 obtain ⟨k,e,q⟩:=h
 have hl:=jG
 have hs:sizeLine=16777216:=sizeLine_eq
 cases x with
 | non =>
  cases rx
  have e':k=false:=e
  subst e'
  exact truthy_none ⟨H,I,q⟩
 | bl b =>
  cases rx
  have e':k=b:=e
  subst e'
  exact wpAny_truthy_bool ⟨H,I,q⟩
 | int i =>
  obtain ⟨t,rfl⟩:=rx
  have e':k=(i != 0):=e
  subst e'
  exact PySem.P.truthy_int ⟨H,I,q⟩
 | str y =>
  obtain ⟨t,rfl⟩:=rx
  obtain ⟨hy,e'⟩:y.length≤sizeLine∧k=((y.length:Int) != 0):=e
  subst e'
  exact PySem.P.truthy_str (by omega) ⟨H,I.tok _,q⟩
 | byt y =>
  obtain ⟨t,rfl⟩:=rx
  obtain ⟨hy,e'⟩:y.size≤sizeLine∧k=((y.size:Int) != 0):=e
  subst e'
  exact PySem.W.truthy_bytes (by omega) ⟨H,I.tok _,q⟩
 | ref p =>
  cases rx
  have e':(∃xs,SqL X.K H p xs∧k=!xs.isEmpty)∨(∃xs,SqT X.K H p xs∧k=!xs.isEmpty)∨∃kvs,H p=some (.dK kvs)∧k=!kvs.isEmpty:=e
  rcases e' with ⟨xs,hx,e'⟩|⟨xs,hx,e'⟩|⟨kvs,hx,e'⟩
  ·subst e'
   obtain ⟨its,r,pl,hz⟩:=I.list hx
   have hlen:=r.length
   exact wpAny_truthy_list pl.isList (by simp only [List.size_toArray];omega) ⟨H,I.tok _,by rw [pQ r];exact q⟩
  ·subst e'
   obtain ⟨its,r,pl,hz⟩:=I.tuple hx
   have hlen:=r.length
   exact truthy_tuple pl (by simp only [List.size_toArray];omega) ⟨H,I.tok _,by rw [pQ r];exact q⟩
  ·subst e'
   obtain ⟨hz,hS,vs,r,m⟩:kvs.length≤sizeLine∧(p == sysModules)=false∧∃vs,KV kvs vs∧s.heap.DictOf (sS X.prog X.w) p vs:=I.hok p _ hx
   have hlen:kvs.length=vs.length:=Paired.length r
   exact wpAny_truthy_dict hS m (by omega) ⟨H,I.tok _,by rw [wP r];exact q⟩
 | _=>exact (show False from e).elim
theorem gr (ha:PE X a ta) (he:∀whole,isTrue a X.env whole=(do let v ←whole;standAt a.pos;holding [v] (truthy v))) :
  PT X a (fun σ H Q=>ta σ H fun x H'=>∃k,Gb X.K x H' k∧Q k H'):=by
 intro pins s σ H Q I h
 exact isTrue_plain (thn (ha pins s σ H _ I h) fun v s1 ⟨x,H1,I1,r1,q1⟩=>GU pins s1 σ H1 x v Q I1 r1 q1) (he _)
theorem yh:OpR X (binaryOp .Add) (fun x y H Q=>∃i j,x=.str i∧y=.str j∧i.length+j.length≤sizeLine∧Q (.str (i++j)) H):=by
 intro pins s σ H x y v u Q I rx ry h
 obtain ⟨i,j,rfl,rfl,hz,q⟩:=h
 obtain ⟨t,rfl⟩:=rx
 obtain ⟨t',rfl⟩:=ry
 exact add_str (fun t' tk=>⟨.str (i++j),H,I.tok _,⟨_,rfl⟩,q⟩) hz
theorem uo {x:V} {us:List Value} (r:Vals [x] us):∃u,us=[u]∧RelV x u:=by
 cases r with
 | cons r1 r2=>cases r2;exact ⟨_,rfl,r1⟩
theorem qV {x y:V} {us:List Value} (r:Vals [x,y] us):∃u w',us=[u,w']∧RelV x u∧RelV y w':=by
 cases r with
 | cons r1 r2 =>
  cases r2 with
  | cons r3 r4=>cases r4;exact ⟨_,_,rfl,r1,r3⟩
theorem CO:gK X (.builtin "abs") (fun xs H Q=>∃i,xs=[.int i]∧Q (.int (if i<0 then -i else i)) H):=by
 intro pins s σ H xs us Q I r h
 obtain ⟨i,rfl,q⟩:=h
 obtain ⟨u,rfl,t,rfl⟩:=uo r
 exact call_abs_int fun u tk=>⟨.int (if i<0 then -i else i),H,I.tok _,⟨_,rfl⟩,q⟩
theorem Aa (hc:X.calm=true):gK X (.builtin "max") (fun xs H Q=>∃i j,xs=[.int i,.int j]∧Q (.int (if j > i then j else i)) H):=by
 intro pins s σ H xs us Q I r h
 obtain ⟨i,j,rfl,q⟩:=h
 obtain ⟨u,w',rfl,⟨t,rfl⟩,⟨t',rfl⟩⟩:=qV r
 refine max_two_ints (I.ok.hd hc) fun h' tk k=>⟨_,H,I.kept k,?_,q⟩
 by_cases hj:j > i
 ·rw [if_pos hj,if_pos hj];exact ⟨_,rfl⟩
 ·rw [if_neg hj,if_neg hj];exact ⟨_,rfl⟩
theorem Ap (hc:X.calm=true):gK X (.builtin "min") (fun xs H Q=>∃i j,xs=[.int i,.int j]∧Q (.int (if j<i then j else i)) H):=by
 intro pins s σ H xs us Q I r h
 obtain ⟨i,j,rfl,q⟩:=h
 obtain ⟨u,w',rfl,⟨t,rfl⟩,⟨t',rfl⟩⟩:=qV r
 refine min_two_ints (I.ok.hd hc) fun h' tk k=>⟨_,H,I.kept k,?_,q⟩
 by_cases hj:j<i
 ·rw [if_pos hj,if_pos hj];exact ⟨_,rfl⟩
 ·rw [if_neg hj,if_neg hj];exact ⟨_,rfl⟩
end
end L2
namespace L2
open PySem PySem.Spec PyProof.Rows
structure ObjM (h:Heap) (x dx C:Addr) (mA:Str→Option Value):Prop where
 obj:h.get? x=some (PySem.W.instObj C dx)
 ns:h.Ns1 dx mA
 ne:dx≠x
theorem Av {h:Heap} {dx:Addr} {mA:Str→Option Value} (n:h.Ns1 dx mA):∃od,h.get? dx=some od∧∀name,PySem.W.lookIn name od=some (mA name):=by
 obtain ⟨o,es,ep,ho,hd,hk,_,hm⟩:=n
 refine ⟨o,ho,fun name=>?_⟩
 have e:=hm name
 unfold nsFind findBy at e
 rw [←Array.find?_toList] at e
 unfold PySem.W.lookIn
 rw [hd]
 dsimp only
 split
 ·rename_i y q
  rw [q] at e
  exact congrArg some e
 ·rename_i q
  rw [q] at e
  have a:es.toList.any (·.refKey)=false:=by
   rw [List.any_eq_false]
   intro y hy
   obtain ⟨z,t,hkey⟩:=hk y (Array.mem_toList_iff.mp hy)
   simp [DictEntry.refKey,hkey]
  have a':¬es.toList.any (·.refKey)=true:=by rw [a];exact Bool.false_ne_true
  rw [if_neg a']
  exact congrArg some e
theorem ObjM.look {h:Heap} {x dx C:Addr} {mA:Str→Option Value} (I:ObjM h x dx C mA):∃od,PySem.W.InstAt h x (PySem.W.instObj C dx) C (some od)∧∀name,PySem.W.lookIn name od=some (mA name) :=
 let ⟨od,ho,hl⟩:=Av I.ns
 ⟨od,⟨I.obj,rfl,rfl,ho⟩,hl⟩
section
variable {prog:Program} {w:World} {A:Around} {E:Value→Shared→Prop} {s:Shared} {K:PySem.W.Frag} {x dx C f:Addr} {mA:Str→Option Value} {name:Str} {v:Value}
end
section
variable {P:Program} {w:World} {H H':Hp} {h h':Heap} {a C dx:Addr} {fs fs':List (Str × V)}
theorem EG (hok:HOk P w H h) (e:H a=some (.ins C dx fs)):∃mA,ObjM h a dx C mA∧(∀f,GX (fs.lookup f) (mA f))∧PySem.Within mA (fs.map (·.1))∧fs.length≤1000∧H dx=some (.own a):=by
 obtain ⟨d,z,ne,ob,mA,n,r,q⟩:=(show ObjOk P w H h a (.ins C dx fs) from hok a _ e)
 exact ⟨mA,⟨ob,n,ne⟩,r,q,z,d⟩
end
structure Cls (K:PySem.W.Frag) (C:Addr):Prop where
 pg:PySem.W.plainGet K C Str.empty=true
 hd:PySem.W.hasDictIn K C=true
 po:PySem.W.plainOver K C=true
 sa:PySem.W.findIn K (.ref C) "__setattr__"=some (some (.builtin "object.__setattr__"))
theorem Cls.get {K:PySem.W.Frag} {C:Addr} (c:Cls K C) (f:Str):PySem.W.plainGet K C f=true:=c.pg
structure Con (K:PySem.W.Frag) (C:Addr) (f:Str) (v:V) (u:Value):Prop where
 at_:PySem.W.findIn K (.ref C) f=some (some u)
 rel:RelV v u
 get:PySem.W.specialIn K u "__get__"=some none
 cp:PySem.W.copiedNames.contains f=false
structure JS (K:PySem.W.Frag) (C:Addr) (m:Str) (f:Addr):Prop where
 at_:PySem.W.findIn K (.ref C) m=some (some (.ref f))
 fn:PySem.W.isFn K (.ref f)=true
 kp:PySem.W.keepIn K (.ref f)=true
section
variable {X:Cx} {pins:List (Addr × Obj)} {σ:St} {H:Hp} {s:Shared} {a C dx:Addr} {fs:List (Str × V)} {f:Str} {v:V} {A:Around} {E:Value→Shared→Prop}
end
section
variable {X:Cx} {o e value:Expr} {f:Str} {pos pos' tpos:Pos} {ta tv:TE}
end
section
variable {X:Cx} {pins:List (Addr × Obj)} {σ:St} {H:Hp} {s:Shared} {A:Around} {E:Value→Shared→Prop} {Q:Value→Shared→Prop} {c:Value} {b:Bool}
inductive mW (K:PySem.W.Frag) (H:Hp):V→Value→Prop where
 | non:mW K H .non (.type "NoneType")
 | bl (x:Bool):mW K H (.bl x) (.type "bool")
 | int (i:Int):mW K H (.int i) (.type "int")
 | str (x:Str):mW K H (.str x) (.type "str")
 | flt (x:UInt64):mW K H (.flt x) (.type "float")
 | lst {a:Addr} {xs:List V} (e:H a=some (.lst xs)):mW K H (.ref a) (.type "list")
 | frz {a:Addr} {o:Obj} {xs:List V} (e:H a=some (.frz o (.lst xs))):mW K H (.ref a) (.type "list")
 | tup {a:Addr} {xs:List V} (e:H a=some (.tup xs)):mW K H (.ref a) (.type "tuple")
 | dK {a:Addr} {kvs:List (Key × V)} (e:H a=some (.dK kvs)):mW K H (.ref a) (.type "dict")
 | dT {a:Addr} {kvs:List (List Key × V)} (e:H a=some (.dT kvs)):mW K H (.ref a) (.type "dict")
 | ins {a C dx:Addr} {fs:List (Str × V)} (e:H a=some (.ins C dx fs)) (cl:Cls K C) (ha:PySem.W.findIn K (.ref C) "__class__"=some (some (.builtin "object.__class__")))
   (hn:PySem.W.specialIn K (.builtin "object.__class__") "__get__"=some (some (.builtin "getset_descriptor.__get__"))) (htk:PySem.W.takesIn K (.builtin "object.__class__")=some true)
   (hm:PySem.W.mroIn K C (.type "object")=some true):mW K H (.ref a) (.ref C)
theorem eY {x:V} {u t:Value} (I:Inv X pins σ H s) (rx:RelV x u) (ty:mW X.K H x t) (e:PySem.W.kitOne X.K t c=some b) (h:∀tk,Q (.bool b) { s with toks:=tk }) :
  wpAny (model X.prog X.w) A (call (.builtin "isinstance") [u,c]) Q E s:=by
 cases ty with
 | non=>cases (show u=Value.none from rx);exact PySem.W.kia_one PySem.W.kitx_none I.kIn True.intro e (fun z=>nomatch z) h
 | bl y=>cases (show u=Value.bool y from rx);exact PySem.W.kia_one PySem.W.kitx_bool I.kIn True.intro e (fun z=>nomatch z) h
 | int i=>obtain ⟨t,q⟩:=(show ∃t,u=Value.int i t from rx);cases q;exact PySem.W.kia_one PySem.W.kitx_int I.kIn True.intro e (fun z=>nomatch z) h
 | str y=>obtain ⟨t,q⟩:=(show ∃t,u=Value.str y t from rx);cases q;exact PySem.W.kia_one PySem.W.kitx_str I.kIn True.intro e (fun z=>nomatch z) h
 | flt y=>obtain ⟨t,q⟩:=(show ∃t,u=Value.float y t from rx);cases q;exact PySem.W.kia_one PySem.W.kitx_float I.kIn True.intro e (fun z=>nomatch z) h
 | @lst a xs ea =>
  cases (show u=Value.ref a from rx)
  obtain ⟨_,_,n,_,h1⟩:=(show ObjOk X.prog X.w H s.heap a (.lst xs) from I.hok a _ ea)
  exact PySem.W.kia_one PySem.W.kitx_list I.kIn ⟨_,h1,rfl⟩ e (fun z=>nomatch z) h
 | @frz a ob xs ea =>
  cases (show u=Value.ref a from rx)
  obtain ⟨_,_,_,n,_,h1⟩:=(show ObjOk X.prog X.w H s.heap a (.frz ob (.lst xs)) from I.hok a _ ea)
  exact PySem.W.kia_one PySem.W.kitx_list I.kIn ⟨_,h1,rfl⟩ e (fun z=>nomatch z) h
 | @tup a xs ea =>
  cases (show u=Value.ref a from rx)
  obtain ⟨_,_,_,p⟩:=(show ObjOk X.prog X.w H s.heap a (.tup xs) from I.hok a _ ea)
  obtain ⟨o,h1,h2,_⟩:=p
  exact PySem.W.kia_one PySem.W.kitx_tuple I.kIn ⟨o,h1,h2⟩ e (fun z=>nomatch z) h
 | @dK a kvs ea =>
  cases (show u=Value.ref a from rx)
  obtain ⟨_,_,vs,_,p⟩:=(show ObjOk X.prog X.w H s.heap a (.dK kvs) from I.hok a _ ea)
  obtain ⟨o,es,ep,h1,h2,_⟩:=p
  exact PySem.W.kia_one PySem.W.kitx_dict I.kIn ⟨o,h1,h2.1⟩ e (fun z=>nomatch z) h
 | @dT a kvs ea =>
  cases (show u=Value.ref a from rx)
  obtain ⟨_,_,xs,_,o,es,ep,h1,h2,_⟩:=(show ObjOk X.prog X.w H s.heap a (.dT kvs) from I.hok a _ ea)
  exact PySem.W.kia_one PySem.W.kitx_dict I.kIn ⟨o,h1,h2.1⟩ e (fun z=>nomatch z) h
 | @ins a C dx fs ea cl ha hn htk hm =>
  cases (show u=Value.ref a from rx)
  obtain ⟨mA,O,_⟩:=EG I.hok ea
  obtain ⟨od,J,_⟩:=O.look
  exact PySem.W.kia_one (PySem.W.kitx_own (cl.get _) cl.hd ha hn htk hm) I.kIn J e (fun z=>nomatch z) h
end
end L2
namespace L2
open PySem PySem.Spec PyProof.Rows
structure Room (k:Nat) (A:Around):Prop where
 hd:A.handled=none
 dp:A.depth+3*k+5<recursionLimit
 un:A.units+16*k+200<cLine
 gd:A.guards=some []
theorem Room.mono {j k:Nat} {A:Around} (r:Room k A) (h:j≤k):Room j A:=⟨r.hd,by have:=r.dp;omega,by have:=r.un;omega,r.gd⟩
theorem Room.deeper {k:Nat} {A:Around} (r:Room (k+1) A) (env:Env):Room k (A.deeper env) :=
 ⟨r.hd,by have:=r.dp;show A.depth+1+3*k+5<_;omega,by have:=r.un;show A.units+3+16*k+200<_;omega,r.gd⟩
theorem Room.depth {k:Nat} {A:Around} (r:Room k A):A.depth<recursionLimit:=by have:=r.dp;omega
theorem Room.units {k:Nat} {A:Around} (r:Room k A):A.units+64<cLine:=by have:=r.un;omega
noncomputable def sN:TA:=fun _ H Q=>Q [] H
noncomputable def gj (ta:TE) (tr:TA):TA:=fun σ H Q=>ta σ H fun x H1=>tr σ H1 fun xs H2=>Q (x::xs) H2
section
variable {X:Cx} {e:Expr} {es:List Expr} {te:TE} {t:TA} {pos:Pos}
theorem iG:PA X [] sN:=fun _ _ _ _ H Q I h=>Calls.spliced_nil ⟨[],H,I,.nil,h⟩
theorem EO (ha:PE X e te) (hr:PA X es t) (hs:starEach (e::es) X.env=(false,eval e X.env)::starEach es X.env:=by rfl):PA X (e::es) (gj te t):=by
 intro pos pins s σ H Q I h
 rw [hs]
 show wpAny _ _ (spliced ((false,eval e X.env)::backTo pos (starEach es X.env))) _ _ s
 refine Calls.spliced_cons (thn (ha pins s σ H _ I h) fun u s1 ⟨x,H1,I1,r1,q1⟩=>?_)
 exact thn (hr pos pins s1 σ H1 _ I1 q1) fun us s2 ⟨xs,H2,I2,r2,q2⟩=>⟨x::xs,H2,I2,.cons r1 r2,q2⟩
noncomputable def Ja (t:TA):TE:=fun σ H Q=>t σ H fun xs H1=>xs.length≤sizeLine∧∀p,H1 p=none→Q (.ref p) (upd H1 p (.tup xs))
noncomputable def Jk (t:TA):TE:=fun σ H Q=>t σ H fun xs H1=>xs.length≤sizeLine∧∀p,H1 p=none→Q (.ref p) (upd H1 p (.lst xs))
theorem GQ {x1} (h:PA X es t):PE X (.Tuple es x1 pos) (Ja t):=by
 intro pins s σ H Q I hq
 refine wpAny_Tuple_spliced (thn (h pos pins s σ H _ I hq) fun us s1 ⟨xs,H1,I1,r,z,q⟩=>⟨by rw [←r.length];exact z,?_⟩)
 have hf:H1 s1.heap.objs.size=none:=I1.hok.fresh (Nat.le_refl _)
 refine ⟨.ref s1.heap.objs.size,upd H1 s1.heap.objs.size (.tup xs),I1.laid (t':=s1.toks) (fun b u e=>Heap.get?_push_of_some _ e) (Nat.le_refl _) ?_,rfl,q _ hf⟩
 exact ⟨z,us,r,⟨_,Heap.get?_push_size _ rfl,rfl,_,rfl⟩⟩
theorem Go (h:PA X es t):PE X (.List es pos) (Jk t):=by
 intro pins s σ H Q I hq
 refine wpAny_List_spliced (thn (h pos pins s σ H _ I hq) fun us s1 ⟨xs,H1,I1,r,z,q⟩=>⟨by rw [←r.length];exact z,?_⟩)
 have hf:H1 s1.heap.objs.size=none:=I1.hok.fresh (Nat.le_refl _)
 refine ⟨.ref s1.heap.objs.size,upd H1 s1.heap.objs.size (.lst xs),I1.laid (t':=s1.toks) (fun b u e=>Heap.get?_push_of_some _ e) (Nat.le_refl _) ?_,rfl,q _ hf⟩
 exact ⟨z,us,0,r,Heap.get?_push_size _ rfl⟩
end
noncomputable abbrev Sp:=List V→Hp→VK→XK→Prop
noncomputable abbrev CXT:=List Env→Hp→Shared→XK→Value→Shared→Prop
structure zn (P:Program) (w:World) (K:PySem.W.Frag) (mg:Str→Option Value) (base:Heap) (A:Around) (outer:List Env) (s:Shared) (H:Hp):Prop where
 frames:A.frames=some outer
 mod:Mod K mg base
 bs:∀b o,base.get? b=some o→s.heap.get? b=some o∧H b=none
 bsz:base.objs.size≤s.heap.objs.size
 funs:s.heap.FunFrames base outer
 frf:∀b∈frs outer,H b=none
 hok:HOk P w H s.heap
 bare:AllBare s.gens
noncomputable def CE (outer:List Env) (P:Program) (w:World) (H:Hp) (s:Shared) (Q:VK) (u:Value) (s':Shared):Prop :=
 ∃v H',s'.os=s.os∧AllBare s'.gens∧Un (frs outer) [] H H' s.heap s'.heap∧HOk P w H' s'.heap∧RelV v u∧Q v H'
noncomputable def CR (CX:CXT) (outer:List Env) (P:Program) (w:World) (H:Hp) (s:Shared) (Q:VK) (E:XK) (r:Result) (s':Shared):Prop :=
 match r with
 | .ok (.ret u)=>CE outer P w H s Q u s'
 | .ok _=>False
 | .error e=>CX outer H s E e s'
structure qu (P:Program) (w:World) (K:PySem.W.Frag) (mg:Str→Option Value) (base:Heap) (CX:CXT) (k:Nat) (f:Addr) (fd:FuncData) (ps:List Str) (sp:Sp):Prop where
 len:∀vs H Q E,sp vs H Q E→vs.length=ps.length
 run:∀(A:Around) (outer:List Env) (s:Shared) (H:Hp) (args:Args) (us:List Value) (vs:List V) (Q:VK) (E:XK),Room k A→zn P w K mg base A outer s H→BindsTo s fd args (ps.zip us)→Vals vs us→sp vs H Q E →
  codeAny (model P w) A (.call (.ref f) args) (CR CX outer P w H s Q E) s
section
variable {X:Cx} {pins:List (Addr × Obj)} {σ:St} {H:Hp} {s s':Shared}
theorem Inv.env0 (I:Inv X pins σ H s):zn X.prog X.w X.K X.mg X.base X.A X.stack s H :=
 ⟨I.ok.frames,I.ok.mod,I.bs,Nat.le_trans I.ok.bsz I.sz,I.stack,I.stkFree,I.hok,I.bare⟩
theorem Inv.after {Q:VK} {u:Value} (I:Inv X pins σ H s) (h:CE X.stack X.prog X.w H s Q u s'):EP X pins σ Q u s':=by
 obtain ⟨v,H',os,bare,un,hok,r,q⟩:=h
 obtain ⟨hh,g,d,t,os'⟩:=s'
 obtain rfl:os'=s.os:=os
 exact ⟨v,H',I.call (h':=hh) (g':=g) (d':=d) (t':=t) (ch:=[]) un hok bare (fun b z=>absurd z (by simp)),r,q⟩
end
noncomputable def q_ (sp:Sp) (dvs:List V) (E:XK) (t:TA):TE:=fun σ H Q=>t σ H fun vs H1=>sp (vs++dvs) H1 Q E
noncomputable def Binds (K:PySem.W.Frag) (fd:FuncData) (ps:List Str) (ds:List Value):Prop :=
 ∀(s:Shared) (us:List Value),K.In s.heap→(us++ds).length=ps.length→BindsTo s fd ⟨us,[]⟩ (ps.zip (us++ds))
theorem Binds.all {K:PySem.W.Frag} {fd:FuncData} {ps:List Str} (h:∀us:List Value,us.length=ps.length→bindArgs fd ⟨us,[]⟩=pure (ps.zip us)):Binds K fd ps []:=fun s us _ hl=>by
 rw [List.append_nil] at hl ⊢
 exact .of_eq (h us hl)
noncomputable def tq (CX:CXT) (X:Cx) (E:XK):Prop:=∀(pins:List (Addr × Obj)) (σ:St) (H:Hp) (s:Shared) (e:Value) (s':Shared),Inv X pins σ H s→CX X.stack H s E e s'→X.xe e s'
section
variable {X:Cx} {CX:CXT} {k:Nat} {f C:Addr} {fd:FuncData} {ps:List Str} {sp:Sp} {dvs:List V} {ds:List Value} {E:XK} {x m:Str} {p pos apos:Pos} {e o:Expr} {es:List Expr} {ta:TE} {t:TA}
theorem CU {pins:List (Addr × Obj)} {σ:St} {H:Hp} {s:Shared} {Q:VK} {us:List Value} {vs:List V} (F:qu X.prog X.w X.K X.mg X.base CX k f fd ps sp) (hr:Room k X.A) (hb:Binds X.K fd ps ds) (hd:Vals dvs ds) (hx:tq CX X E)
  (I:Inv X pins σ H s) (r:Vals vs us) (h:sp (vs++dvs) H Q E):wpAny (model X.prog X.w) X.A (call (.ref f) us) (EP X pins σ Q) X.xe s:=by
 have r2:Vals (vs++dvs) (us++ds):=r.append hd
 have hl:(us++ds).length=ps.length:=by rw [←r2.length];exact F.len _ _ _ _ h
 refine wpAny_call (codeAny_mono (F.run X.A X.stack s H ⟨us,[]⟩ (us++ds) (vs++dvs) Q E hr I.env0 (hb s us I.kIn hl) r2 h) fun r s' hq=>?_)
 cases r with
 | error e=>exact hx pins σ H s e s' I hq
 | ok fl =>
  cases fl with
  | ret u=>exact I.after hq
  | next=>exact False.elim hq
  | brk=>exact False.elim hq
  | cont=>exact False.elim hq
theorem DZ (F:qu X.prog X.w X.K X.mg X.base CX k f fd ps sp) (hr:Room k X.A) (hg:Gl X x) (hm:X.mg x=some (.ref f)) (hk:PySem.W.keepIn X.K (.ref f)=true) (hb:Binds X.K fd ps ds) (hd:Vals dvs ds) (hx:tq CX X E)
  (ha:PA X (e::es) t) (hdb:(x == ("__debug__":Str))=false:=by decide) (he:starEach (e::es) X.env=(false,eval e X.env)::starEach es X.env:=by rfl) (hpl:(backTo pos (starEach es X.env)).any (·.1)=false:=by rfl) :
  PE X (.Call (.Name x p) (e::es) [] pos) (q_ sp dvs E t):=by
 intro pins s σ H Q I h
 refine wpAny_Call_Name_kw (sU I hg hm ?_ hdb)
 refine PySem.W.callWith_K (h₀:=X.base) I.ok.mod.kin hk (thn (ha pos pins s σ H _ I h) fun us s1 ⟨vs,H1,I1,r,q⟩=>⟨I1.kIn,?_⟩) he hpl
 exact CU F hr hb hd hx I1 r q
theorem C6 (F:qu X.prog X.w X.K X.mg X.base CX k f fd ps sp) (hr:Room k X.A) (hg:Gl X x) (hm:X.mg x=some (.ref f)) (hk:PySem.W.keepIn X.K (.ref f)=true) (hb:Binds X.K fd ps ds) (hd:Vals dvs ds) (hx:tq CX X E)
  (hdb:(x == ("__debug__":Str))=false:=by decide):PE X (.Call (.Name x p) [] [] pos) (q_ sp dvs E sN):=by
 intro pins s σ H Q I h
 refine wpAny_Call_Name_kw (sU I hg hm ?_ hdb)
 exact PySem.W.callWith_K0 I.kIn hk (CU (us:=[]) F hr hb hd hx I .nil h)
structure Mk (K:PySem.W.Frag) (C f:Addr):Prop where
 makes:PySem.W.makesIn K C=true
 init:PySem.W.findIn K (.ref C) "__init__"=some (some (.ref f))
 fn:PySem.W.isFn K (.ref f)=true
 kp:PySem.W.keepIn K (.ref C)=true
end
section
variable {X:Cx} {CX:CXT} {k:Nat} {f C:Addr} {fd:FuncData} {ps ks:List Str} {sp:Sp} {E:XK} {x m:Str} {p pos apos kpos:Pos} {e o:Expr} {es:List Expr} {kws:List Keyword} {te ta:TE} {t tk:TA} {nm:Option Str}
structure JA (K:PySem.W.Frag) (fd:FuncData) (ps ks:List Str) (g:List Value→List Value→List Value) (gV:List V→List V→List V):Prop where
 to:∀(s:Shared) (us ws:List Value),K.In s.heap→(g us ws).length=ps.length→BindsTo s fd ⟨us,ks.zip ws⟩ (ps.zip (g us ws))
 rel:∀ {vs:List V} {us:List Value} {zs:List V} {ws:List Value},Vals vs us→Vals zs ws→Vals (gV vs zs) (g us ws)
variable {g:List Value→List Value→List Value} {gV:List V→List V→List V}
end
structure ai (N P:List Str) (sc:Scope):Prop where
 kind:sc.kind=.function
 co:sc.isCoroutine=false
 gen:sc.isGenerator=false
 nd:N.Nodup
 pre:N.take P.length=P
 par:∀x∈P,sc.names.lookup x=some .local∨sc.names.lookup x=some .cell
 nofree:∀y∈sc.names,y.2≠.free
theorem qU {kindOf:Str→Option NameKind} {x:Str}:∀ {binds:List (Str × Value)} {m:Str→Option Value},(∀v,(x,v) ∉ binds)→bindL kindOf binds m x=m x
 | [],_,_=>rfl
 | (n,v)::r,m,h=>by
  unfold bindL
  rw [qU fun w hw=>h w (List.mem_cons_of_mem _ hw)]
  split
  ·have:x≠n:=by rintro rfl;exact h v List.mem_cons_self
   simp [this]
  ·rfl
theorem rB {kindOf:Str→Option NameKind} {x:Str}:∀ {binds:List (Str × Value)} {m:Str→Option Value},(∀v,(x,v) ∉ binds)→bindC kindOf binds m x=m x
 | [],_,_=>rfl
 | (n,v)::r,m,h=>by
  unfold bindC
  rw [rB fun w hw=>h w (List.mem_cons_of_mem _ hw)]
  split
  ·rfl
  ·have:x≠n:=by rintro rfl;exact h v List.mem_cons_self
   simp [this]
theorem rN {kindOf:Str→Option NameKind} {x:Str} {v:Value}:∀ {P:List Str} {vs:List Value} {i:Nat} {m:Str→Option Value},P.Nodup→P[i]?=some x→vs[i]?=some v→kindOf x=some .local →
  bindL kindOf (P.zip vs) m x=some v
 | [],_,_,_,_,h,_,_=>by simp at h
 | _::_,[],_,_,_,_,h,_=>by simp at h
 | p::P,w::vs,0,m,nd,h1,h2,hk=>by
  simp at h1 h2;subst h1;subst h2
  show bindL kindOf ((p,w)::P.zip vs) m p=_
  unfold bindL
  rw [qU fun v hv=>(List.nodup_cons.mp nd).1 (List.of_mem_zip hv).1,if_pos hk]
  simp
 | p::P,w::vs,i+1,m,nd,h1,h2,hk=>by
  show bindL kindOf ((p,w)::P.zip vs) m x=_
  unfold bindL
  exact rN (i:=i) (List.nodup_cons.mp nd).2 (by simpa using h1) (by simpa using h2) hk
theorem rj {kindOf:Str→Option NameKind} {x:Str} {v:Value}:∀ {P:List Str} {vs:List Value} {i:Nat} {m:Str→Option Value},P.Nodup→P[i]?=some x→vs[i]?=some v→kindOf x≠some .local →
  bindC kindOf (P.zip vs) m x=some v
 | [],_,_,_,_,h,_,_=>by simp at h
 | _::_,[],_,_,_,_,h,_=>by simp at h
 | p::P,w::vs,0,m,nd,h1,h2,hk=>by
  simp at h1 h2;subst h1;subst h2
  show bindC kindOf ((p,w)::P.zip vs) m p=_
  unfold bindC
  rw [rB fun v hv=>(List.nodup_cons.mp nd).1 (List.of_mem_zip hv).1,if_neg hk]
  simp
 | p::P,w::vs,i+1,m,nd,h1,h2,hk=>by
  show bindC kindOf ((p,w)::P.zip vs) m x=_
  unfold bindC
  exact rj (i:=i) (List.nodup_cons.mp nd).2 (by simpa using h1) (by simpa using h2) hk
noncomputable def start (N:List Str) (vs:List V):St:=vs.map some++List.replicate (N.length-vs.length) none
noncomputable def lW (CX:CXT) (P:Program) (w:World) (K:PySem.W.Frag) (mg:Str→Option Value) (base:Heap) (N:List Str) (qual:Str) (scope:Scope) (f:Addr) (cd:Value) (A:Around) (outer:List Env) (s:Shared) (H:Hp) (E:XK):Cx where
 prog:=P
 w:=w
 K:=K
 mg:=mg
 base:=base
 A:=A.deeper (envOfC qual scope s.heap.objs.size f cd)
 N:=N
 s₀:=s
 H₀:=H
 env:=envOfC qual scope s.heap.objs.size f cd
 outer:=outer
 stack:=envOfC qual scope s.heap.objs.size f cd::outer
 ex:=[]
 calm:=true
 fn:=fun _=>true
 pn:=[]
 xe:=fun e s'=>wpAny (model P w) (A.deeper (envOfC qual scope s.heap.objs.size f cd)) (leaving (envOfC qual scope s.heap.objs.size f cd) e) (fun _ s''=>CX outer H s E e s'') (fun e' s''=>CX outer H s E e' s'') s'
theorem tZ {sc:Scope} {n:Nat} {x:Str} (h:sc.names.lookup x=some .cell):∃c,(cellsFrom n sc.names []).lookup x=some c:=by
 have q:=PySem.W.cellsFrom_some sc.names n [] (.inl h)
 exact Option.isSome_iff_exists.mp q
theorem AI {CX:CXT} {P:Program} {w:World} {K:PySem.W.Frag} {mg:Str→Option Value} {base:Heap} {N ps:List Str} {qual:Str} {scope:Scope} {f:Addr} {cd:Value} {A:Around} {outer:List Env} {s s1:Shared} {H:Hp} {E:XK} {us:List Value} {vs:List V}
  (S:ai N ps scope) (hd:A.handled=none) (e0:zn P w K mg base A outer s H) (hl:vs.length=ps.length) (r:Vals vs us)
  (x:InCallC s s.heap.objs.size (bindL (envOfC qual scope s.heap.objs.size f cd).kindOf (ps.zip us) fun _=>none) (cellsFrom (s.heap.objs.size+1) scope.names []) (bindC (envOfC qual scope s.heap.objs.size f cd).kindOf (ps.zip us) fun _=>none) s1) :
  Inv (lW CX P w K mg base N qual scope f cd A outer s H E) [] (start N vs) H s1:=by
 have hpl:ps.length≤N.length:=by have:=congrArg List.length S.pre;rw [List.length_take] at this;omega
 obtain ⟨h1,tk,rfl,hk⟩:=x.done
 have noA:∀b:Addr,b ∉ (lW CX P w K mg base N qual scope f cd A outer s H E).ex:=fun b z=>absurd (show b∈([]:List Addr) from z) (by simp)
 refine ⟨⟨e0.mod,S.kind,rfl,rfl,Nat.le_refl _,fun y z c h1 h2=>?_,fun y hy=>?_,fun y c _ h=>?_,fun _=>hd,Around.frames_deeper e0.frames,.inr ⟨rfl,rfl⟩,fun b z=>absurd z (noA b),e0.bs,e0.bsz,fun b _ _=>noA b,fun b z=>absurd z (noA b),e0.funs,e0.frf⟩,
  rfl,e0.bare,Un.kept hk,⟨_,x.toInCall.ns,fun i y v h1 h2 h3=>?_⟩,fun y c h=>⟨_,x.cell y c h⟩,e0.hok.fresh (Nat.le_refl _),fun y c h=>?_,fun p hp=>absurd (show p∈([]:List (Addr × Obj)) from hp) (by simp),e0.hok.kept hk,?_⟩
 ·exact name_of_addr x.apart (PySem.mem_of_lookup h1) (PySem.mem_of_lookup h2)
 ·have hy:scope.names.lookup y=some .cell∨scope.names.lookup y=some .free:=hy
  rcases hy with hy|hy
  ·exact tZ hy
  ·exact absurd rfl (S.nofree _ (PySem.mem_of_lookup hy))
 ·exact Nat.le_of_lt (x.above y c (PySem.mem_of_lookup h))
 ·have hi:i<vs.length:=by
   unfold start at h2
   by_cases hi:i<vs.length
   ·exact hi
   ·rw [List.getElem?_append_right (by simpa using hi)] at h2
    rw [List.getElem?_replicate] at h2
    split at h2 <;> cases h2
  have ha:vs[i]?=some v:=by
   unfold start at h2
   rw [List.getElem?_append_left (by simpa using hi),List.getElem?_map] at h2
   cases e:vs[i]? with
   | none=>rw [e] at h2;cases h2
   | some a=>rw [e] at h2;cases h2;rfl
  obtain ⟨u,hu,rv⟩:=r.get ha
  have hp:ps[i]?=some y:=by
   rw [←S.pre,List.getElem?_take_of_lt (by omega)];exact h1
  have ndP:ps.Nodup:=by rw [←S.pre];exact S.nd.sublist (List.take_sublist _ _)
  refine ⟨u,rv,?_⟩
  rcases S.par y (List.mem_of_getElem? hp) with k|k
  ·exact .inl ⟨k,rN ndP hp hu k⟩
  ·obtain ⟨c,e⟩:=tZ (n:=s.heap.objs.size+1) k
   refine .inr ⟨.inl k,c,e,?_⟩
   have q:=x.cell y c e
   rw [rj ndP hp hu (by show scope.names.lookup y≠_;rw [k];decide)] at q
   exact q
 ·exact e0.hok.fresh (Nat.le_of_lt (x.above y c (PySem.mem_of_lookup h)))
 ·unfold start
  show _=N.length
  rw [List.length_append,List.length_map,List.length_replicate]
  omega
theorem Iz {CX:CXT} {P:Program} {w:World} {K:PySem.W.Frag} {mg:Str→Option Value} {base:Heap} {k:Nat} {f:Addr} {name qual:Str} {params:Arguments} {body:List Stmt} {scope:Scope} {dV kV doc pm cdv ct oc:Value} {an od:Option Addr}
  {osl:Array (Option Value)} {N ps:List Str} {sp:Sp} (lk:K.lookup f=some ⟨oc,od,.func (PySem.W.fnOf name qual params body scope dV kV doc pm an cdv ct),osl⟩) (hcd:PySem.W.codeIn K cdv qual=true) (S:ai N ps scope)
  (len:∀vs H Q E,sp vs H Q E→vs.length=ps.length)
  (hbody:∀(A:Around) (outer:List Env) (s:Shared) (H:Hp) (vs:List V) (Q:VK) (E:XK),Room k (A.deeper (envOfC qual scope s.heap.objs.size f cdv))→sp vs H Q E →
   ∃t,PSs (lW CX P w K mg base N qual scope f cdv A outer s H E) body t∧t { nx:=fun _ H'=>Q .non H',rt:=Q } (start N vs) H) :
  qu P w K mg base CX (k+1) f (PySem.W.fnOf name qual params body scope dV kV doc pm an cdv ct) ps sp:=by
 refine ⟨len,fun A outer s H args us vs Q E hr e0 hb r hsp=>?_⟩
 have hl:=len _ _ _ _ hsp
 have KX:K.In s.heap:=e0.mod.kin.keeps fun b o e=>(e0.bs b o e).1
 have lim:s.heap.NoLimit:=e0.mod.nolimit.keeps fun b o e=>(e0.bs b o e).1
 have hkind:∀y∈ps.zip us,scope.names.lookup y.1=some .local∨(scope.names.lookup y.1=some .cell∧((cellsFrom (s.heap.objs.size+1) scope.names []).lookup y.1).isSome=true):=fun ⟨n,v⟩ hy=>by
  rcases S.par n (List.of_mem_zip hy).1 with q|q
  ·exact .inl q
  ·exact .inr ⟨q,PySem.W.cellsFrom_some _ _ _ (.inl q)⟩
 refine codeAny_call_function hr.depth (KX _ _ lk) rfl S.co S.gen rfl (PySem.W.codeRec_of KX hcd) (hb _ _ _ _ ?_)
 refine wpAny_newFunctionEnv_cells S.kind hkind fun env he s1 x=>?_
 subst he
 refine ⟨lim.keeps x.toInCall.keep,codeAny_func ?_⟩
 obtain ⟨t,ht,hq⟩:=hbody A outer s H vs Q E (hr.deeper _) hsp
 have I:Inv (lW CX P w K mg base N qual scope f cdv A outer s H E) [] (start N vs) H s1:=AI S hr.hd e0 hl r x
 refine wpAny_mono (ht [] s1 (start N vs) H _ I hq) (fun fl s' hs=>?_) fun e s' hs=>hs
 have fin:∀ {σ':St} {H':Hp} {v:V} {u:Value},Inv (lW CX P w K mg base N qual scope f cdv A outer s H E) [] σ' H' s'→RelV v u→Q v H'→CE outer P w H s Q u s' :=
  fun {σ' H' v u} J rv q=>⟨v,H',J.os,J.bare,J.base,J.hok,rv,q⟩
 cases fl with
 | ret u =>
  obtain ⟨v,σ',H',J,rv,q⟩:=hs
  exact fin J rv q
 | next =>
  obtain ⟨σ',H',J,q⟩:=hs
  exact fin (v:=V.non) (u:=Value.none) J rfl q
 | brk =>
  obtain ⟨_,_,_,q⟩:=hs
  exact False.elim q
 | cont =>
  obtain ⟨_,_,_,q⟩:=hs
  exact False.elim q
end L2
namespace L2
open PySem PySem.Spec PyProof.Rows
section
variable {X:Cx} {x:Str} {p pos:Pos} {e:Expr} {es:List Expr} {t:TA} {id T:String} {r:List V→Hp→VK→Prop}
noncomputable def tCB (r:List V→Hp→VK→Prop) (t:TA):TE:=fun σ H Q=>t σ H fun vs H1=>r vs H1 Q
theorem BV (hc:gK X (.builtin id) r) (hg:Gl X x) (hm:X.mg x=none) (hv:bootBuiltins x=some (.builtin id)) (ha:PA X (e::es) t) (hn:x≠"__name__":=by decide) (hdb:(x == ("__debug__":Str))=false:=by decide)
  (he:starEach (e::es) X.env=(false,eval e X.env)::starEach es X.env:=by rfl) (hpl:(backTo pos (starEach es X.env)).any (·.1)=false:=by rfl):PE X (.Call (.Name x p) (e::es) [] pos) (tCB r t):=by
 intro pins s σ H Q I h
 refine wpAny_Call_Name_kw (iO I hg hm hv ?_ hn hdb)
 exact PyProof.Rows.callWith_builtin1 (thn (ha pos pins s σ H _ I h) fun us s1 ⟨vs,H1,I1,r1,q1⟩=>hc pins s1 σ H1 vs us Q I1 r1 q1) he hpl
theorem zK (hc:gK X (.type T) r) (hg:Gl X x) (hm:X.mg x=none) (hv:bootBuiltins x=some (.type T)) (ha:PA X (e::es) t) (hn:x≠"__name__":=by decide) (hdb:(x == ("__debug__":Str))=false:=by decide)
  (he:starEach (e::es) X.env=(false,eval e X.env)::starEach es X.env:=by rfl) (hpl:(backTo pos (starEach es X.env)).any (·.1)=false:=by rfl):PE X (.Call (.Name x p) (e::es) [] pos) (tCB r t):=by
 intro pins s σ H Q I h
 refine wpAny_Call_Name_kw (iO I hg hm hv ?_ hn hdb)
 exact PyProof.Rows.callWith_type1 (thn (ha pos pins s σ H _ I h) fun us s1 ⟨vs,H1,I1,r1,q1⟩=>hc pins s1 σ H1 vs us Q I1 r1 q1) he hpl
end
end L2
namespace HT
open PySem PyProof.Rows
section
open PySem.SeqAt
open PySem.AutoSeq1 (wpAny_loadPart')
open PySem.MeetsSeq PySem.MeetsSeq2 PySem.MeetsSeq3
end
section
variable {prog:Program} {w:World} {A:Around} {E:Value→Shared→Prop} {s:Shared}
theorem cat_tup {t b:Addr} {vs ws:List Value} {Q:Value→Shared→Prop} (ht:IsTup s.heap t vs.toArray) (hb:IsTup s.heap b ws.toArray) (hv:vs≠[])
  (h1:ws=[]→Q (.ref t) s) (h2:ws≠[]→Q (.ref s.heap.objs.size) { s with heap:=s.heap.push { cls:=.type "tuple",data:=.seq (vs++ws).toArray } })
  (hsz:vs.length+ws.length≤sizeLine):wpAny (model prog w) A (binaryOp .Add (.ref t) (.ref b)) Q E s:=by
 obtain ⟨⟨cls,dd,data,sl⟩,ho,hc,n,hd⟩:=id ht
 obtain ⟨⟨cls2,dd2,data2,sl2⟩,ho2,hc2,n2,hd2⟩:=id hb
 simp only at hc hd hc2 hd2
 subst hc hd hc2 hd2
 have e:vs.toArray++ws.toArray=(vs++ws).toArray:=by simp
 by_cases hw:ws=[]
 ·exact concat_meets ⟨_,ho,rfl⟩ ⟨_,ho2,rfl⟩ noFill_tuple_add seq_tuple_add PySem.F.slot_tuple_add PySem.F.entry_tuple_add (PySem.F.args_tuple_add_2 _ _)
   (tuple_addW1 t b vs.toArray ws.toArray n n2 dd dd2 sl sl2 (by simpa using hv) (by simp [hw])) ⟨ho,ho2,h1 hw⟩
 ·refine concat_meets ⟨_,ho,rfl⟩ ⟨_,ho2,rfl⟩ noFill_tuple_add seq_tuple_add PySem.F.slot_tuple_add PySem.F.entry_tuple_add (PySem.F.args_tuple_add_2 _ _)
   (tuple_addW2 t b vs.toArray ws.toArray n n2 dd dd2 sl sl2 (by simpa using hv) (by simpa using hw) (by rw [List.size_toArray,List.size_toArray];exact hsz)) ⟨ho,ho2,?_⟩
  rw [e]
  exact h2 hw
noncomputable def sIx (n d:Nat):Option Int→Nat
 | none=>d
 | some v=>if v<0 then (v+(n:Int)).toNat else min v.toNat n
theorem sIx_none (n d:Nat):sIx n d none=d:=rfl
theorem sIx_nat (n d k:Nat):sIx n d (some (k:Int))=min k n:=by
 show (if (k:Int)<0 then ((k:Int)+(n:Int)).toNat else min (k:Int).toNat n)=min k n
 rw [if_neg (by omega),Int.toNat_natCast]
theorem Hv (n d:Nat) (hd:d≤n) (o:Option Int):sIx n d o≤n:=by
 cases o with
 | none=>exact hd
 | some v =>
  show (if v<0 then (v+(n:Int)).toNat else min v.toNat n)≤n
  by_cases hv:v<0
  ·rw [if_pos hv];omega
  ·rw [if_neg hv];exact Nat.min_le_right _ _
theorem yR (v:Int) (n d:Nat):(if v<0 then max (v+(n:Int)) 0 else min v (n:Int))=((sIx n d (some v):Nat):Int):=by
 show (if v<0 then max (v+(n:Int)) 0 else min v (n:Int))=(((if v<0 then (v+(n:Int)).toNat else min v.toNat n):Nat):Int)
 by_cases hv:v<0
 ·simp only [if_pos hv];omega
 ·simp only [if_neg hv];omega
theorem xT (lo hi:Option Int) (n:Nat):Builtin.Slice.sliceAdjust lo hi 1 (n:Int)=(((sIx n 0 lo:Nat):Int),((sIx n n hi:Nat):Int)):=by
 have h1:¬((1:Int)<0):=by omega
 unfold Builtin.Slice.sliceAdjust
 simp only [h1,if_false]
 refine Prod.ext ?_ ?_
 ·cases lo with
  | none=>rfl
  | some v=>exact yR v n 0
 ·cases hi with
  | none=>rfl
  | some v=>exact yR v n n
theorem wU (i j:Nat):Builtin.Slice.slicePlaces (i:Int) (j:Int) 1=j-i:=by
 unfold Builtin.Slice.slicePlaces
 have h1:(1:Int) > 0:=by omega
 simp only [h1,if_true,Int.ediv_one]
 split <;> omega
theorem nR {v:Value} {o:Option Int} {Q:Option Int→Shared→Prop} (p:IsPart v o) (h:Q o s):wpAny (model prog w) A (Builtin.Slice.slicePartIndex v) Q E s:=by
 cases p with
 | none=>exact slicePart_none h
 | int i t=>exact slicePart_int h
theorem sliceApplied_gen {sl:Addr} {vl vu:Value} {lo hi:Option Int} {n:Nat} {Q:Int × Int × Nat→Shared→Prop} (hs:s.heap.IsSliceOf sl vl vu .none) (pl:IsPart vl lo) (pu:IsPart vu hi)
  (h:Q (((sIx n 0 lo:Nat):Int),1,sIx n n hi-sIx n 0 lo) s):wpAny (model prog w) A (Builtin.Slice.sliceApplied (.ref sl) (pure (n:Int))) Q E s:=by
 obtain ⟨os,hos,hcs,hds⟩:=id hs
 unfold Builtin.Slice.sliceApplied Builtin.Slice.sliceFields
 refine wpAny_bind (wpAny_bind (wpAny_field hos hds (x:=vl) rfl (wpAny_bind (wpAny_field hos hds (x:=vu) rfl (wpAny_bind (wpAny_field hos hds (x:=.none) rfl (wpAny_pure ?_)))))))
 refine wpAny_bind (slicePart_none ?_)
 show wpAny _ _ (if ((1:Int) == 0)=true then _ else _) _ _ s
 rw [if_neg (by decide)]
 refine wpAny_bind (nR pl (wpAny_bind (nR pu (wpAny_bind (wpAny_pure ?_)))))
 show wpAny _ _ (match Builtin.Slice.sliceAdjust lo hi 1 (n:Int) with|(lo,hi)=>pure (lo,(1:Int),Builtin.Slice.slicePlaces lo hi 1)) _ _ s
 rw [xT lo hi n]
 show wpAny _ _ (pure (((sIx n 0 lo:Nat):Int),(1:Int),Builtin.Slice.slicePlaces ((sIx n 0 lo:Nat):Int) ((sIx n n hi:Nat):Int) 1)) _ _ s
 rw [wU]
 exact wpAny_pure h
theorem DJ (xs:Array Value) (i k:Nat):((List.range k).filterMap fun (m:Nat)=>xs[((i:Int)+(m:Int)*1).toNat]?).toArray=((xs.toList.drop i).take k).toArray:=by
 have e:(fun (m:Nat)=>xs[((i:Int)+(m:Int)*1).toNat]?)=fun m=>xs[i+m]?:=by
  funext m
  have:((i:Int)+(m:Int)*1).toNat=i+m:=by omega
  rw [this]
 rw [e]
 have:=pick_run xs i k
 rw [List.filterMap_map] at this
 have e2:((fun x=>xs[x]?) ∘ fun x=>i+x)=fun m=>xs[i+m]?:=rfl
 rw [e2] at this
 rw [this]
theorem getItem_tuple_cut {t sl:Addr} {items:Array Value} {vl vu:Value} {lo hi:Option Int} {Q:Value→Shared→Prop} (ht:IsTup s.heap t items) (hs:s.heap.IsSliceOf sl vl vu .none) (pl:IsPart vl lo) (pu:IsPart vu hi)
  (hw:¬(sIx items.size 0 lo=0∧sIx items.size items.size hi=items.size))
  (h:Q (.ref s.heap.objs.size) { s with heap:=s.heap.push { cls:=.type "tuple",data:=.seq ((items.toList.drop (sIx items.size 0 lo)).take (sIx items.size items.size hi-sIx items.size 0 lo)).toArray } })
  (hsz:items.size≤sizeLine):wpAny (model prog w) A (getItem (.ref t) (.ref sl)) Q E s:=by
 have htake:sizeOk (.seq ((items.toList.drop (sIx items.size 0 lo)).take (sIx items.size items.size hi-sIx items.size 0 lo)).toArray):=by
  show ((items.toList.drop (sIx items.size 0 lo)).take (sIx items.size items.size hi-sIx items.size 0 lo)).toArray.size≤sizeLine
  rw [List.size_toArray,List.length_take,List.length_drop,Array.length_toList]
  omega
 have hj:sIx items.size items.size hi≤items.size:=Hv _ _ (Nat.le_refl _) hi
 obtain ⟨os,hos,hcs,hds⟩:=id hs
 have hTs:s.TypeIs (.ref sl) "slice":=⟨os,hos,hcs⟩
 unfold getItem
 try with_reducible refine wpAny_holding ?_
 first|refine wpAny_bind (wpAny_pure ?_)|skip
 refine wpAny_bind (wpAny_sequenceKey ht.typeIs (by decide) ?_)
 refine wpAny_bind (wpAny_callSpecial?_slot (name:=Str.ofString "__getitem__") ht.typeIs PyProof.Rows.slot_tuple_getitem
  (wpAny_call_entry PyProof.Rows.slot_tuple_getitem ht.typeIs entry_tuple_getitem ?_ (args_tuple_getitem _ _)))
 show wpAny _ _ (Builtin.Tuple.tupleItemsOf (.ref t) >>= _) _ _ s
 refine wpAny_bind (tupleItemsOf_ ht ?_)
 refine wpAny_bind (wpAny_typeOf hTs ?_)
 rw [if_pos (by decide)]
 refine wpAny_bind (sliceApplied_gen hs pl pu ?_)
 have hno:¬((((sIx items.size 0 lo:Nat):Int) == 0 && (1:Int) == 1 && (sIx items.size items.size hi-sIx items.size 0 lo) == items.size)=true):=by
  intro q
  rw [Bool.and_eq_true,Bool.and_eq_true] at q
  have q1:((sIx items.size 0 lo:Nat):Int)=0:=eq_of_beq q.1.1
  have q2:sIx items.size items.size hi-sIx items.size 0 lo=items.size:=eq_of_beq q.2
  exact hw ⟨by omega,by omega⟩
 show wpAny _ _ (if (((sIx items.size 0 lo:Nat):Int) == 0 && (1:Int) == 1 && (sIx items.size items.size hi-sIx items.size 0 lo) == items.size)=true then _ else _) _ _ s
 rw [if_neg hno,DJ]
 first
  | exact wpAny_bind (m:=Builtin.Tuple.tupleExact _) (wpAny_newObj_type (wpAny_pure ⟨_,rfl,wpAny_pure h⟩) htake)
  | exact wpAny_bind (m:=Builtin.Tuple.tupleExact _) (wpAny_newObj_type (wpAny_bind (wpAny_pure (wpAny_pure ⟨_,rfl,wpAny_pure h⟩))) htake)
  | exact wpAny_bind (wpAny_bind (m:=Builtin.Tuple.tupleExact _) (wpAny_newObj_type (wpAny_pure (wpAny_pure ⟨_,rfl,wpAny_pure h⟩)) htake))
  | exact wpAny_bind (wpAny_bind (m:=Builtin.Tuple.tupleExact _) (wpAny_newObj_type (wpAny_pure ⟨_,rfl,wpAny_pure h⟩) htake))
end
end HT
namespace L2
open PySem PySem.Spec PyProof.Rows
noncomputable abbrev TO:=St→Hp→(Option Int→Hp→Prop)→Prop
noncomputable def PO (X:Cx) (e:Option Expr) (t:TO):Prop :=
 ∀(pins:List (Addr × Obj)) (s:Shared) (σ:St) (H:Hp) (Q:Option Int→Hp→Prop),Inv X pins σ H s→t σ H Q →
  wpAny (model X.prog X.w) X.A (evalPart e X.env) (fun u s'=>∃o H',Inv X pins σ H' s'∧IsPart u o∧Q o H') X.xe s
noncomputable def Fk:TO:=fun _ H Q=>Q none H
noncomputable def IO (t:TE):TO:=fun σ H Q=>t σ H fun x H1=>∃i,x=.int i∧Q (some i) H1
section
variable {X:Cx} {e:Expr} {te:TE} {lo hi:Option Expr} {tl th:TO} {pos p2:Pos}
theorem Fo:PO X none Fk:=by
 intro pins s σ H Q I h
 rw [evalPart_none]
 exact wpAny_pure ⟨none,H,I,.none,h⟩
theorem Ew (h:PE X e te):PO X (some e) (IO te):=by
 intro pins s σ H Q I hw
 rw [evalPart_some]
 refine thn (h pins s σ H _ I hw) fun u s1 ⟨x,H1,I1,r1,q1⟩=>?_
 obtain ⟨i,rfl,q⟩:=q1
 obtain ⟨t,rfl⟩:=r1
 exact ⟨some i,H1,I1,.int i t,q⟩
noncomputable def SlR (X:Cx) (r:V→Option Int→Option Int→Hp→VK→Prop):Prop :=
 ∀(pins:List (Addr × Obj)) (s:Shared) (σ:St) (H:Hp) (x:V) (v vl vu:Value) (lo hi:Option Int) (sl:Addr) (Q:VK),Inv X pins σ H s→RelV x v→s.heap.IsSliceOf sl vl vu .none→IsPart vl lo→IsPart vu hi→r x lo hi H Q →
  ∃T id,typeLookup (.type T) "__getitem__"=pure (some (.builtin id))∧s.TypeIs v T∧wpAny (model X.prog X.w) X.A (getItem v (.ref sl)) (EP X pins σ Q) X.xe s
noncomputable def tSl (r:V→Option Int→Option Int→Hp→VK→Prop) (te:TE) (tl th:TO):TE:=fun σ H Q=>te σ H fun x H1=>tl σ H1 fun l H2=>th σ H2 fun u H3=>r x l u H3 Q
theorem BD {r:V→Option Int→Option Int→Hp→VK→Prop} (hr:SlR X r) (he:PE X e te) (hl:PO X lo tl) (hu:PO X hi th):PE X (.Subscript e (.Slice lo hi none p2) pos) (tSl r te tl th):=by
 intro pins s σ H Q I h
 refine Subscript_ (thn (he pins s σ H _ I h) fun v s1 ⟨x,H1,I1,r1,q1⟩=>?_)
 refine wpAny_Slice (thn (hl pins s1 σ H1 _ I1 q1) fun vl s2 ⟨l,H2,I2,pl,q2⟩=>thn (hu pins s2 σ H2 _ I2 q2) fun vu s3 ⟨u,H3,I3,pu,q3⟩=>?_)
 rw [evalPart_none]
 refine wpAny_pure ?_
 have I4:Inv X pins σ H3 { s3 with heap:=s3.heap.push { cls:=.type "slice",data:=.fields #[vl,vu,.none] } }:=I3.kept (t':=s3.toks) fun b ob q=>Heap.get?_push_of_some _ q
 obtain ⟨T,id,hT,ht,hg⟩:=hr pins { s3 with heap:=s3.heap.push { cls:=.type "slice",data:=.fields #[vl,vu,.none] } } σ H3 x v vl vu l u s3.heap.objs.size Q I4 r1 (Heap.IsSliceOf.new ..) pl pu q3
 show wpAny (model X.prog X.w) X.A (subscriptTail e (.Slice lo hi none p2) v (.ref s3.heap.objs.size)) (EP X pins σ Q) X.xe { s3 with heap:=s3.heap.push { cls:=.type "slice",data:=.fields #[vl,vu,.none] } }
 exact tail_any (ops:=[.ref s3.heap.objs.size,v]) ht hT hg (by with_unfolding_all rfl)
noncomputable def qc (xs:List V) (lo hi:Option Int):List V:=(xs.drop (HT.sIx xs.length 0 lo)).take (HT.sIx xs.length xs.length hi-HT.sIx xs.length 0 lo)
theorem mE (xs:List V) (lo hi:Option Int):(qc xs lo hi).length≤xs.length:=by
 unfold qc
 rw [List.length_take,List.length_drop]
 omega
noncomputable def Jo (K:PySem.W.Frag):V→Option Int→Option Int→Hp→VK→Prop:=fun x lo hi H Q=>∃a xs,x=.ref a∧SqT K H a xs ∧
 ¬(HT.sIx xs.length 0 lo=0∧HT.sIx xs.length xs.length hi=xs.length)∧∀p,H p=none→Q (.ref p) (upd H p (.tup (qc xs lo hi)))
theorem Ga:SlR X (Jo X.K):=by
 intro pins s σ H x v vl vu lo hi sl Q I rx hs pl pu h
 obtain ⟨a,xs,rfl,hx,hw,q⟩:=h
 cases rx
 obtain ⟨its,r,ht,hz⟩:=I.tuple hx
 have hlen:its.toArray.size=xs.length:=by rw [List.size_toArray];exact r.length.symm
 refine ⟨"tuple",_,PyProof.Rows.slot_tuple_getitem.lookup,ht.typeIs,?_⟩
 refine HT.getItem_tuple_cut ht hs pl pu (by rw [hlen];exact hw) ?_ (by rw [hlen];exact hz)
 rw [hlen]
 refine ⟨.ref s.heap.objs.size,_,I.laid (t':=s.toks) (o:=.tup (qc xs lo hi)) (fun b ob q=>Heap.get?_push_of_some _ q) (Nat.le_refl _) ?_,rfl,q _ (I.hok.fresh (Nat.le_refl _))⟩
 exact ⟨Nat.le_trans (mE xs lo hi) hz,_,(r.drop (HT.sIx xs.length 0 lo)).take (HT.sIx xs.length xs.length hi-HT.sIx xs.length 0 lo),IsTup.new _ _⟩
noncomputable def Iw (K:PySem.W.Frag):R2:=fun x y H Q=>∃a b xs ys,x=.ref a∧y=.ref b∧SqT K H a xs∧SqT K H b ys∧xs≠[]∧xs.length+ys.length≤sizeLine ∧
 (ys=[]→Q (.ref a) H)∧(ys≠[]→∀p,H p=none→Q (.ref p) (upd H p (.tup (xs++ys))))
theorem Vals.nil_iff {xs:List V} {us:List Value} (r:Vals xs us):us=[]↔xs=[]:=by
 cases r with
 | nil=>simp
 | cons _ _=>simp
theorem D0:OpR X (binaryOp .Add) (Iw X.K):=by
 intro pins s σ H x y v u Q I rx ry h
 obtain ⟨a,b,xs,ys,rfl,rfl,ha,hb,hx,hz,q1,q2⟩:=h
 cases rx
 cases ry
 obtain ⟨its,r1,p1,_⟩:=I.tuple ha
 obtain ⟨its2,r2,p2,_⟩:=I.tuple hb
 refine HT.cat_tup p1 p2 (fun z=>hx (r1.nil_iff.mp z)) (fun z=>⟨.ref a,H,I,rfl,q1 (r2.nil_iff.mp z)⟩) (fun z=>?_) (by rw [←r1.length,←r2.length];exact hz)
 refine ⟨.ref s.heap.objs.size,_,I.laid (t':=s.toks) (o:=.tup (xs++ys)) (fun b ob q=>Heap.get?_push_of_some _ q) (Nat.le_refl _) ?_,rfl,q2 (fun w=>z (r2.nil_iff.mpr w)) _ (I.hok.fresh (Nat.le_refl _))⟩
 exact ⟨by rw [List.length_append];exact hz,_,r1.append r2,IsTup.new _ _⟩
end
end L2
namespace L2
open PySem PySem.Spec PyProof.Rows
noncomputable def ixN (n:Nat) (i:Int):Option Nat:=if 0≤i then (if i<n then some i.toNat else none) else if -(n:Int)≤i then some (i+n).toNat else none
noncomputable def atI {α:Type} (xs:List α) (i:Int):Option α:=(ixN xs.length i).bind fun j=>xs[j]?
theorem yv {n:Nat} {i:Int} {j:Nat} (h:ixN n i=some j):seqIndex? i n=some j∧j<n∧-(n:Int)≤i∧i<n:=by
 unfold ixN at h
 by_cases h0:0≤i
 ·rw [if_pos h0] at h
  by_cases h1:i<n
  ·rw [if_pos h1] at h
   have e:i.toNat=j:=Option.some.inj h
   exact ⟨by rw [seqIndex_of h0 h1,e],by omega,by omega,h1⟩
  ·rw [if_neg h1] at h;cases h
 ·rw [if_neg h0] at h
  by_cases h1:-(n:Int)≤i
  ·rw [if_pos h1] at h
   have e:(i+n).toNat=j:=Option.some.inj h
   exact ⟨by rw [seqIndex_neg (by omega) h1,e],by omega,h1,by omega⟩
  ·rw [if_neg h1] at h;cases h
theorem sy {α:Type} {xs:List α} {i:Int} {v:α} (h:atI xs i=some v):∃j,seqIndex? i xs.length=some j∧xs[j]?=some v∧j<xs.length∧-(xs.length:Int)≤i∧i<xs.length:=by
 unfold atI at h
 cases e:ixN xs.length i with
 | none=>rw [e] at h;cases h
 | some j =>
  rw [e] at h
  obtain ⟨h1,h2,h3,h4⟩:=yv e
  exact ⟨j,h1,h,h2,h3,h4⟩
theorem cA {α:Type} {xs:List α} {j:Nat} {v:α} (h:xs[j]?=some v):atI xs (j:Int)=some v:=by
 have hj:j<xs.length:=(List.getElem?_eq_some_iff.mp h).1
 have e:ixN xs.length (j:Int)=some j:=by
  unfold ixN
  rw [if_pos (by omega),if_pos (by omega)];simp
 unfold atI;rw [e];exact h
noncomputable def yq (b:Expr):Prop:=∀o i,subscripted b false o i=operate [o,i] (getItem o i)
noncomputable def IxR (X:Cx) (r:R2):Prop :=
 ∀(value slice:Expr) (pins:List (Addr × Obj)) (s:Shared) (σ:St) (H:Hp) (x y:V) (v u:Value) (Q:VK),Inv X pins σ H s→RelV x v→RelV y u→r x y H Q →
  subscripted slice false v u=operate [v,u] (getItem v u)→wpAny (model X.prog X.w) X.A (subscriptTail value slice v u) (EP X pins σ Q) X.xe s
noncomputable def MtR (X:Cx) (id:String) (r:V→List V→Hp→VK→Prop):Prop :=
 ∀(pins:List (Addr × Obj)) (s:Shared) (σ:St) (H:Hp) (x:V) (xs:List V) (v:Value) (us:List Value) (Q:VK),Inv X pins σ H s→RelV x v→Vals xs us→r x xs H Q →
  wpAny (model X.prog X.w) X.A (call (.builtin id) (v::us)) (EP X pins σ Q) X.xe s
section
variable {X:Cx} {a b:Expr} {ta tb:TE} {pos:Pos}
theorem HW {r:R2} (hr:IxR X r) (ha:PE X a ta) (hb:PE X b tb) (hs:yq b):PE X (.Subscript a b pos) (tOp r ta tb):=by
 intro pins s σ H Q I h
 exact Subscript_ (Hn ha hb I h fun v u s2 x y H2 I2 rx ry q=>hr a b pins s2 σ H2 x y v u Q I2 rx ry q (hs _ _))
noncomputable def JO (K:PySem.W.Frag):R2:=fun x y H Q=>∃p xs i v,x=.ref p∧y=.int i∧SqL K H p xs∧atI xs i=some v∧Q v H
noncomputable def JM (K:PySem.W.Frag):R2:=fun x y H Q=>∃p xs i v,x=.ref p∧y=.int i∧SqT K H p xs∧atI xs i=some v∧Q v H
noncomputable def JG:R2:=fun x y H Q=>∃z i c,x=.str z∧y=.int i∧z.length≤sizeLine∧atI z.cps.toList i=some c∧Q (.str ⟨#[c]⟩) H
theorem ED:IxR X (JO X.K):=by
 intro value slice pins s σ H x y v u Q I rx ry h hs
 obtain ⟨p,xs,i,z,rfl,rfl,hq,he,q⟩:=h
 cases rx
 obtain ⟨t,rfl⟩:=ry
 obtain ⟨its,r,pl,hz⟩:=I.list hq
 obtain ⟨j,h1,h2,h3,h4,h5⟩:=sy he
 obtain ⟨w,ew,rw'⟩:=r.get h2
 have hl:=r.length
 have hn:=jG
 have fin:EP X pins σ Q w s:=⟨z,H,I,rw',q⟩
 by_cases h0:0≤i
 ·have hj:i.toNat=j:=by
   rw [seqIndex_of h0 h5] at h1
   exact Option.some.inj h1
  exact item_listR pl.isList h0 (by omega) (by rw [hj];simpa using ew) fin hs
 ·have hj:(i+(its.toArray.size:Int)).toNat=j:=by
   rw [seqIndex_neg (by omega) h4] at h1
   rw [List.size_toArray,←hl]
   exact Option.some.inj h1
  exact subscriptTail_builtinR (x:=w) pl.isList.typeIs slot_list_getitem.lookup
   (wpAny_getItem_list_neg (Q:=fun r s'=>r=w∧EP X pins σ Q r s') pl.isList (by omega) (by rw [List.size_toArray] <;> omega) (by omega) (by rw [hj];simpa using ew) ⟨rfl,fin⟩) hs
theorem Gc:IxR X (JM X.K):=by
 intro value slice pins s σ H x y v u Q I rx ry h hs
 obtain ⟨p,xs,i,z,rfl,rfl,hq,he,q⟩:=h
 cases rx
 obtain ⟨t,rfl⟩:=ry
 obtain ⟨its,r,pl,hz⟩:=I.tuple hq
 obtain ⟨j,h1,h2,h3,h4,h5⟩:=sy he
 obtain ⟨w,ew,rw'⟩:=r.get h2
 have hl:=r.length
 have hn:=jG
 have fin:EP X pins σ Q w s:=⟨z,H,I,rw',q⟩
 exact subscriptTail_builtinR (x:=w) pl.typeIs slot_tuple_getitem.lookup
  (getItem_tuple (j:=j) (Q:=fun r s'=>r=w∧EP X pins σ Q r s') pl (by omega) (by omega) (by rw [List.size_toArray,←hl];exact h1) (by simpa using ew) ⟨rfl,fin⟩) hs
theorem FO:IxR X JG:=by
 intro value slice pins s σ H x y v u Q I rx ry h hs
 obtain ⟨z,i,c,rfl,rfl,hz,he,q⟩:=h
 obtain ⟨t,rfl⟩:=rx
 obtain ⟨t',rfl⟩:=ry
 obtain ⟨j,h1,h2,h3,h4,h5⟩:=sy he
 have hl:z.cps.toList.length=z.length:=by simp [Str.length]
 rw [hl] at h1 h4 h5
 have hn:=jG
 exact tail_any (typeIs_str s z t) slot_str_getitem.lookup (getItem_str (c:=c) (by
  have e1:decide (i < -(2 ^ 63:Int))=false:=decide_eq_false (by omega)
  have e2:decide (i ≥ 2 ^ 63)=false:=decide_eq_false (by omega)
  rw [e1,e2,Bool.or_false]) (by rw [h1];simpa using h2) ⟨.str ⟨#[c]⟩,H,I.tok _,⟨_,rfl⟩,q⟩) hs
theorem wS (its:List Value) (n j:Nat) (u:Value):Obj.mapSeq (·.setIfInBounds j u) { cls:=.type "list",data:=.seq its.toArray n }={ cls:=.type "list",data:=.seq (its.set j u).toArray n }:=by
 simp [Obj.mapSeq]
theorem Inv.lst {pins:List (Addr × Obj)} {σ:St} {H:Hp} {s:Shared} {p:Addr} {xs:List V} (I:Inv X pins σ H s) (h:H p=some (.lst xs)) :
  ∃(its:List Value) (n:Nat),Vals xs its∧s.heap.get? p=some { cls:=.type "list",data:=.seq its.toArray n }∧xs.length≤sizeLine:=by
 obtain ⟨z,its,n,r,e⟩:=I.hok p _ h
 exact ⟨its,n,r,e,z⟩
theorem Inv.lstUpd {pins:List (Addr × Obj)} {σ:St} {H:Hp} {s:Shared} {p:Addr} {xs ys:List V} {its its':List Value} {n n':Nat} {f:Obj→Obj} (I:Inv X pins σ H s) (h:H p=some (.lst xs))
  (ho:s.heap.get? p=some { cls:=.type "list",data:=.seq its.toArray n }) (hf:f { cls:=.type "list",data:=.seq its.toArray n }={ cls:=.type "list",data:=.seq its'.toArray n' }) (r:Vals ys its') (hz:ys.length≤sizeLine) (t:Nat) :
  Inv X pins σ (upd H p (.lst ys)) { s with heap:=s.heap.update p f,toks:=t }:=by
 have e:(s.heap.update p f).get? p=some { cls:=.type "list",data:=.seq its'.toArray n' }:=by
  rw [Heap.get?_update_self f ho (by rw [hf] <;> rfl),hf]
 refine I.write (x:=p) (e:=p) (by rw [h];trivial) (.inl rfl) (fun b u hb q=>(Heap.get?_update_other _ _ (Ne.symm hb)).trans q) ⟨_,e⟩ ?_
 exact ⟨hz,its',n',r,e⟩
noncomputable def HP:V→V→V→Hp→(Hp→Prop)→Prop:=fun o i v H Q=>∃p xs k j,o=.ref p∧i=.int k∧H p=some (.lst xs)∧ixN xs.length k=some j∧Q (upd H p (.lst (xs.set j v)))
theorem CM:Hm X HP:=by
 intro pins s σ H o i v ov iv u Q I ro ri rv h
 obtain ⟨p,xs,k,j,rfl,rfl,hp,hj,q⟩:=h
 cases ro
 obtain ⟨t,rfl⟩:=ri
 obtain ⟨its,n,r,ho,hz⟩:=I.lst hp
 obtain ⟨h1,h2,h3,h4⟩:=yv hj
 have hl:=r.length
 have hn:=jG
 have I':Inv X pins σ (upd H p (.lst (xs.set j v))) { s with heap:=s.heap.update p (Obj.mapSeq (·.setIfInBounds j u)) } :=
  I.lstUpd hp ho (wS its n j u) (r.set rv j) (by rw [List.length_set];exact hz) s.toks
 by_cases h0:0≤k
 ·have hk:k.toNat=j:=by
   rw [seqIndex_of h0 h4] at h1
   exact Option.some.inj h1
  exact PySem.W.ki_setAt ho h0 (by omega) (by rw [List.size_toArray,←hl];exact h4) (by rw [hk];exact ⟨_,I',q⟩)
 ·have hk:(k+(its.toArray.size:Int)).toNat=j:=by
   rw [seqIndex_neg (by omega) h3] at h1
   rw [List.size_toArray,←hl]
   exact Option.some.inj h1
  exact PySem.W.ki_setBack ho (by omega) (by rw [List.size_toArray,←hl];exact h3) (by omega) (by rw [hk];exact ⟨_,I',q⟩)
theorem sZ (lo hi:Option Int) (n:Nat):(sliceBounds lo hi none n).1=((HT.sIx n 0 lo:Nat):Int)∧(sliceBounds lo hi none n).2.1=((HT.sIx n n hi:Nat):Int)∧(sliceBounds lo hi none n).2.2=1:=by
 refine ⟨?_,?_,rfl⟩
 ·cases lo with
  | none=>simp [sliceBounds,HT.sIx]
  | some i =>
   simp only [sliceBounds,HT.sIx,Option.getD_none,show (1:Int) > 0 by decide,if_true]
   by_cases h:i<0
   ·simp only [h,if_true] <;> omega
   ·simp only [h,if_false] <;> omega
 ·cases hi with
  | none=>simp [sliceBounds,HT.sIx]
  | some i =>
   simp only [sliceBounds,HT.sIx,Option.getD_none,show (1:Int) > 0 by decide,if_true]
   by_cases h:i<0
   ·simp only [h,if_true] <;> omega
   ·simp only [h,if_false] <;> omega
theorem qt (its:List Value) (lo hi:Option Int):slicePick its.toArray lo hi none=((its.drop (HT.sIx its.length 0 lo)).take (HT.sIx its.length its.length hi-HT.sIx its.length 0 lo)).toArray:=by
 obtain ⟨h1,h2,h3⟩:=sZ lo hi its.toArray.size
 unfold slicePick
 rw [h1,h2,h3]
 simp only [sliceRange_one,pick_run,List.size_toArray] <;> rfl
noncomputable def JK (K:PySem.W.Frag):V→Option Int→Option Int→Hp→VK→Prop:=fun x lo hi H Q=>∃a xs,x=.ref a∧SqL K H a xs∧∀p,H p=none→Q (.ref p) (upd H p (.lst (qc xs lo hi)))
theorem Ey:SlR X (JK X.K):=by
 intro pins s σ H x v vl vu lo hi sl Q I rx hs pl pu h
 obtain ⟨a,xs,rfl,hx,q⟩:=h
 cases rx
 obtain ⟨its,r,ht,hz⟩:=I.list hx
 have hlen:=r.length
 refine ⟨"list",_,slot_list_getitem.lookup,ht.isList.typeIs,?_⟩
 refine wpAny_getItem_list_slice ht.isList hs pl pu .none (by simp) ?_ (by rw [List.size_toArray] <;> omega)
 rw [qt,←hlen]
 refine ⟨.ref s.heap.objs.size,_,I.laid (t':=s.toks) (o:=.lst (qc xs lo hi)) (fun b ob q=>Heap.get?_push_of_some _ q) (Nat.le_refl _) ?_,rfl,q _ (I.hok.fresh (Nat.le_refl _))⟩
 exact ⟨Nat.le_trans (mE xs lo hi) hz,_,0,(r.drop (HT.sIx xs.length 0 lo)).take (HT.sIx xs.length xs.length hi-HT.sIx xs.length 0 lo),Heap.get?_push_size _ rfl⟩
noncomputable def kd:V→Bool
 | .non=>true
 | .bl _=>true
 | .int _=>true
 | .str _=>true
 | _=>false
noncomputable def eqV:V→V→Bool
 | .non,.non=>true
 | .bl a,.bl b=>a == b
 | .bl a,.int b=>(if a then 1 else 0) == b
 | .int a,.bl b=>a == (if b then 1 else 0)
 | .int a,.int b=>a == b
 | .str a,.str b=>a == b
 | _,_=>false
theorem FY {A:Around} {s:Shared} {y x:V} {u v:Value} (ry:RelV y u) (rx:RelV x v) (fy:kd y=true) (fx:kd x=true):SeqAt.EqAt A s u v (eqV y x):=by
 cases y with
 | non =>
  cases ry
  cases x with
  | non=>cases rx;exact SeqAt.EqAt.same _
  | bl b=>cases rx;exact SeqAt.EqAt.none_bool b
  | int b=>obtain ⟨t,rfl⟩:=rx;exact SeqAt.EqAt.none_int b t
  | str b=>obtain ⟨t,rfl⟩:=rx;exact SeqAt.EqAt.none_str b t
  | _=>exact absurd (show false=true from fx) Bool.false_ne_true
 | bl a =>
  cases ry
  cases x with
  | non=>cases rx;exact SeqAt.EqAt.bool_none a
  | bl b=>cases rx;exact SeqAt.EqAt.bool_bool a b
  | int b=>obtain ⟨t,rfl⟩:=rx;exact SeqAt.EqAt.bool_int a b t
  | str b=>obtain ⟨t,rfl⟩:=rx;exact SeqAt.EqAt.bool_str a b t
  | _=>exact absurd (show false=true from fx) Bool.false_ne_true
 | int a =>
  obtain ⟨t',rfl⟩:=ry
  cases x with
  | non=>cases rx;exact SeqAt.EqAt.int_none a t'
  | bl b=>cases rx;exact SeqAt.EqAt.int_bool a t' b
  | int b=>obtain ⟨t,rfl⟩:=rx;exact SeqAt.EqAt.int_int a t' b t
  | str b=>obtain ⟨t,rfl⟩:=rx;exact SeqAt.EqAt.int_str a t' b t
  | _=>exact absurd (show false=true from fx) Bool.false_ne_true
 | str a =>
  obtain ⟨t',rfl⟩:=ry
  cases x with
  | non=>cases rx;exact SeqAt.EqAt.str_none a t'
  | bl b=>cases rx;exact SeqAt.EqAt.str_bool a t' b
  | int b=>obtain ⟨t,rfl⟩:=rx;exact SeqAt.EqAt.str_int a t' b t
  | str b=>obtain ⟨t,rfl⟩:=rx;exact SeqAt.EqAt.str_str a t' b t
  | _=>exact absurd (show false=true from fx) Bool.false_ne_true
 | _=>exact absurd (show false=true from fy) Bool.false_ne_true
noncomputable def eqU (x:V) (u:Value):Bool:=match u with
 | .none=>eqV .non x
 | .bool b=>eqV (.bl b) x
 | .int i _=>eqV (.int i) x
 | .str z _=>eqV (.str z) x
 | _=>false
theorem Bb {x y:V} {u:Value} (r:RelV y u) (f:kd y=true):eqU x u=eqV y x:=by
 cases y with
 | non=>cases r;rfl
 | bl b=>cases r;rfl
 | int i=>obtain ⟨t,rfl⟩:=r;rfl
 | str z=>obtain ⟨t,rfl⟩:=r;rfl
 | _=>exact absurd (show false=true from f) Bool.false_ne_true
theorem ky {x:V}:∀ {xs:List V} {us:List Value},Vals xs us→xs.all kd=true→us.any (eqU x)=xs.any fun y=>eqV y x
 | _,_,.nil,_=>rfl
 | y::xs,u::us,.cons r t,f=>by
  rw [List.all_cons,Bool.and_eq_true] at f
  rw [List.any_cons,List.any_cons,Bb r f.1,ky t f.2]
theorem iz {A:Around} {s:Shared} {x:V} {v:Value} (rx:RelV x v) (fx:kd x=true):∀ {xs:List V} {us:List Value},Vals xs us→xs.all kd=true→∀u∈us,SeqAt.EqAt A s u v (eqU x u)
 | _,_,.nil,_=>fun u hu=>by cases hu
 | y::xs,u::us,.cons r t,f=>fun u' hu=>by
  rw [List.all_cons,Bool.and_eq_true] at f
  rcases List.mem_cons.mp hu with rfl|hu
  ·rw [Bb r f.1];exact FY r rx f.1 fx
  ·exact iz rx fx t f.2 u' hu
noncomputable def inV (x:V) (xs:List V):Bool:=xs.any fun y=>eqV y x
noncomputable def rIn (K:PySem.W.Frag) (neg:Bool):R2:=fun x y H Q=>∃p xs,y=.ref p∧(SqL K H p xs∨SqT K H p xs)∧kd x=true∧xs.all kd=true∧Q (.bl (if neg then !inV x xs else inV x xs)) H
theorem Ax:OpR X (compareOp .In) (rIn X.K false):=by
 intro pins s σ H x y v u Q I rx ry h
 obtain ⟨p,xs,rfl,hq,fx,fs,q⟩:=h
 cases ry
 rcases hq with hq|hq
 ·obtain ⟨its,r,pl,hz⟩:=I.list hq
  refine SeqAt.in_listAt (eqU x) pl.isList (fun w hw=>iz rx fx r fs w (by simpa using hw)) ⟨.bl _,H,I,rfl,?_⟩
  rw [show its.toArray.any (eqU x)=its.any (eqU x) by simp,ky r fs]
  exact q
 ·obtain ⟨its,r,pl,hz⟩:=I.tuple hq
  refine SeqAt.in_tupleAt (eqU x) pl (fun w hw=>iz rx fx r fs w (by simpa using hw)) ⟨.bl _,H,I,rfl,?_⟩
  rw [show its.toArray.any (eqU x)=its.any (eqU x) by simp,ky r fs]
  exact q
theorem sY:OpR X (compareOp .NotIn) (rIn X.K true):=by
 intro pins s σ H x y v u Q I rx ry h
 obtain ⟨p,xs,rfl,hq,fx,fs,q⟩:=h
 cases ry
 rcases hq with hq|hq
 ·obtain ⟨its,r,pl,hz⟩:=I.list hq
  refine SeqAt.notIn_listAt (eqU x) pl.isList (fun w hw=>iz rx fx r fs w (by simpa using hw)) ⟨.bl _,H,I,rfl,?_⟩
  rw [show its.toArray.any (eqU x)=its.any (eqU x) by simp,ky r fs]
  exact q
 ·obtain ⟨its,r,pl,hz⟩:=I.tuple hq
  refine SeqAt.notIn_tupleAt (eqU x) pl (fun w hw=>iz rx fx r fs w (by simpa using hw)) ⟨.bl _,H,I,rfl,?_⟩
  rw [show its.toArray.any (eqU x)=its.any (eqU x) by simp,ky r fs]
  exact q
theorem rY:gK X (.builtin "len") (fun xs H Q=>∃p ys,xs=[.ref p]∧(SqL X.K H p ys∨SqT X.K H p ys)∧Q (.int ys.length) H):=by
 intro pins s σ H xs us Q I r h
 obtain ⟨p,ys,rfl,hq,q⟩:=h
 obtain ⟨u,rfl,rx⟩:=uo r
 cases rx
 have hn:=jG
 rcases hq with hq|hq
 ·obtain ⟨its,r',pl,hz⟩:=I.list hq
  have hlen:=r'.length
  exact Calls.call_len_list pl.isList (by simp only [List.size_toArray] <;> omega) ⟨.int ys.length,H,I.tok _,⟨s.toks+1,by rw [List.size_toArray,hlen]⟩,q⟩
 ·obtain ⟨its,r',pl,hz⟩:=I.tuple hq
  have hlen:=r'.length
  exact len_tuple pl (by simp only [List.size_toArray] <;> omega) ⟨.int ys.length,H,I.tok _,⟨s.toks+1,by rw [List.size_toArray,hlen]⟩,q⟩
theorem rP:gK X (.builtin "len") (fun xs H Q=>∃z,xs=[.str z]∧z.length≤sizeLine∧Q (.int z.length) H):=by
 intro pins s σ H xs us Q I r h
 obtain ⟨z,rfl,hz,q⟩:=h
 obtain ⟨u,rfl,t,rfl⟩:=uo r
 have hn:=jG
 exact len_str (by omega) ⟨.int z.length,H,I.tok _,⟨_,rfl⟩,q⟩
theorem p6:gK X (.type "tuple") (fun xs H Q=>∃p ys,xs=[.ref p]∧((SqL X.K H p ys∧∀l,H l=none→Q (.ref l) (upd H l (.tup ys)))∨(SqT X.K H p ys∧Q (.ref p) H))):=by
 intro pins s σ H xs us Q I r h
 obtain ⟨p,ys,rfl,h⟩:=h
 obtain ⟨u,rfl,rx⟩:=uo r
 cases rx
 rcases h with ⟨hq,q⟩|⟨hq,q⟩
 ·obtain ⟨its,r',pl,hz⟩:=I.list hq
  have hlen:=r'.length
  refine call_tuple_list pl.isList (fun h' kp=>?_) (by simp only [List.size_toArray] <;> omega)
  have I1:Inv X pins σ H { s with heap:=h' }:=I.kept (t':=s.toks) kp
  have I2:Inv X pins σ (upd H h'.objs.size (.tup ys)) { s with heap:=h'.push { cls:=.type "tuple",data:=.seq its.toArray } } :=
   I1.laid (t':=s.toks) (fun b o e=>Heap.get?_push_of_some _ e) (Nat.le_refl _) (show ObjOk X.prog X.w _ _ _ (.tup ys) from ⟨hz,its,r',IsTup.new _ _⟩)
  exact ⟨.ref h'.objs.size,_,I2,rfl,q _ (I1.hok.fresh (Nat.le_refl _))⟩
 ·obtain ⟨its,r',pl,hz⟩:=I.tuple hq
  exact call_tuple_same pl ⟨.ref p,H,I,rfl,q⟩
noncomputable def tyV (K:PySem.W.Frag) (T:String) (x:V) (H:Hp):Prop:=match x with
 | .str _=>T="str"
 | .int _=>T="int"
 | .ref p=>(T="list"∧∃xs,SqL K H p xs)∨(T="tuple"∧∃o,K.lookup p=some o∧o.cls=.type "tuple"∧o.dict=none) ∨
   (T="dict"∧((∃kvs,H p=some (.dK kvs))∨∃kvs,H p=some (.dT kvs)))∨(T="set"∧∃S n,H p=some (.set S n))
 | _=>False
theorem CY {pins:List (Addr × Obj)} {σ:St} {H:Hp} {s:Shared} {T:String} {x:V} {v:Value} (I:Inv X pins σ H s) (r:RelV x v) (ty:tyV X.K T x H) :
  s.TypeIs v T∧∀a,v=.ref a→∃ob,s.heap.get? a=some ob∧ob.dict=none:=by
 cases x with
 | str z =>
  obtain ⟨t,rfl⟩:=r
  cases (show T="str" from ty)
  exact ⟨typeIs_str s z t,fun _ e=>nomatch e⟩
 | int i =>
  obtain ⟨t,rfl⟩:=r
  cases (show T="int" from ty)
  exact ⟨typeIs_int s i t,fun _ e=>nomatch e⟩
 | ref p =>
  cases r
  rcases ty with ⟨rfl,xs,hq⟩|⟨rfl,o,hk,hc,hd⟩|⟨rfl,hk⟩|⟨rfl,S,n,hk⟩
  ·obtain ⟨its,_,pl,_⟩:=I.list hq
   refine ⟨pl.isList.typeIs,fun a e=>?_⟩
   cases e
   obtain ⟨o,n,e,c,hd,_⟩:=pl
   exact ⟨o,e,hd⟩
  ·refine ⟨⟨o,I.kIn p o hk,hc⟩,fun a e=>?_⟩
   cases e
   exact ⟨o,I.kIn _ o hk,hd⟩
  ·have z:∃o,s.heap.get? p=some o∧o.ExactDict:=by
    rcases hk with ⟨kvs,hk⟩|⟨kvs,hk⟩
    ·obtain ⟨_,_,_,_,o,_,_,e,ex,_⟩:=I.hok p _ hk
     exact ⟨o,e,ex⟩
    ·obtain ⟨_,_,_,_,o,_,_,e,ex,_⟩:=I.hok p _ hk
     exact ⟨o,e,ex⟩
   obtain ⟨o,e,ex⟩:=z
   refine ⟨⟨o,e,ex.1⟩,fun a e2=>?_⟩
   cases e2
   exact ⟨o,e,ex.2.1⟩
  ·obtain ⟨o,_,_,_,e,ex,_⟩:=I.hok p _ hk
   refine ⟨⟨o,e,ex.1⟩,fun a e2=>?_⟩
   cases e2
   exact ⟨o,e,ex.2.1⟩
 | _=>exact False.elim ty
noncomputable def Jf (K:PySem.W.Frag) (T:String) (r:V→List V→Hp→VK→Prop) (to:TE):TE:=fun σ H Q=>to σ H fun x H1=>tyV K T x H1∧r x [] H1 Q
noncomputable def tBM (K:PySem.W.Frag) (T:String) (r:V→List V→Hp→VK→Prop) (to:TE) (t:TA):TE:=fun σ H Q=>to σ H fun x H1=>tyV K T x H1∧t σ H1 fun xs H2=>r x xs H2 Q
variable {o e:Expr} {es:List Expr} {to:TE} {t:TA} {name:Str} {apos cpos:Pos} {T id:String} {r:V→List V→Hp→VK→Prop}
theorem Hi (pa:PlainAttrs T) (slot:Slot T name id) (hty:typeOf (.builtin id)=pure (.type "method_descriptor")) (hm:MtR X id r) (ho:PE X o to)
  (hbase:attributeBase o name X.env (eval o X.env)=eval o X.env:=by rfl) (hline:(apos.endLine == cpos.line)=true:=by rfl):PE X (.Call (.Attribute o name apos) [] [] cpos) (Jf X.K T r to):=by
 intro pins s σ H Q I h
 refine wpAny_Call_method0_late hbase hline (thn (ho pins s σ H _ I h) fun v s1 ⟨x,H1,I1,r1,ty,q1⟩=>?_)
 obtain ⟨h1,h2⟩:=CY I1 r1 ty
 exact ⟨T,id,pa,slot,hty,h1,h2,Calls.callWith_builtin rfl (PySem.evalArgs_none (hm pins s1 σ H1 x [] v [] Q I1 r1 .nil q1))⟩
theorem FC (pa:PlainAttrs T) (slot:Slot T name id) (hty:typeOf (.builtin id)=pure (.type "method_descriptor")) (hm:MtR X id r) (ho:PE X o to) (ha:PA X (e::es) t)
  (hbase:attributeBase o name X.env (eval o X.env)=eval o X.env:=by rfl)
  (hfew:((backTo cpos (starEach (e::es) X.env)).all (fun x=>!x.1) && (backToKw cpos (keywordEach [] X.env)).all (fun x=>x.1.isSome)
   && decide ((e::es).length+([]:List Keyword).length+(if ([]:List Keyword).isEmpty then 0 else 1)<30))=true:=by rfl)
  (hline:(apos.endLine == cpos.line)=true:=by rfl) (hs:starEach (e::es) X.env=(false,eval e X.env)::starEach es X.env:=by rfl) (hplain:(backTo cpos (starEach es X.env)).any (·.1)=false:=by rfl) :
  PE X (.Call (.Attribute o name apos) (e::es) [] cpos) (tBM X.K T r to t):=by
 intro pins s σ H Q I h
 refine wpAny_Call_method_late hbase hfew hline rfl (thn (ho pins s σ H _ I h) fun v s1 ⟨x,H1,I1,r1,ty,q1⟩=>?_)
 obtain ⟨h1,h2⟩:=CY I1 r1 ty
 refine ⟨T,id,pa,slot,hty,h1,h2,?_⟩
 have hA:=ha cpos pins s1 σ H1 _ I1 q1
 rw [hs] at hA ⊢
 refine Calls.callWith_builtin (by show (false || (backTo cpos (starEach es X.env)).any (·.1))=false;rw [hplain] <;> rfl) (Calls.evalArgs_plain ?_)
 exact thn hA fun us s2 ⟨vs,H2,I2,r2,q2⟩=>hm pins s2 σ H2 x vs v us Q I2 r1 r2 q2
end
end L2
namespace L2
open PySem PySem.Spec PyProof.Rows
noncomputable def MtM (X:Cx) (id:String) (r:V→List V→Hp→VK→Prop):Prop :=
 ∀(pins:List (Addr × Obj)) (s:Shared) (σ:St) (H:Hp) (x:V) (xs:List V) (v:Value) (us:List Value) (Q:VK),Inv X pins σ H s→RelV x v→Vals xs us→r x xs H Q →
  wpAny (model X.prog X.w) X.A (call (.builtin id) (v::us)) (EP X pins σ Q) X.xe s
theorem Vals.one:∀ {x:V} {us:List Value},Vals [x] us→∃u,us=[u]∧RelV x u
 | _,_,.cons r .nil=>⟨_,rfl,r⟩
theorem Vals.zero:∀ {us:List Value},Vals [] us→us=[]
 | _,.nil=>rfl
theorem Vals.dropLast {xs:List V} {us:List Value} (h:Vals xs us):Vals xs.dropLast us.dropLast:=by
 induction h with
 | nil=>exact .nil
 | cons r t ih =>
  cases t with
  | nil=>exact .nil
  | cons q t'=>exact .cons r ih
theorem Vals.rep {xs:List V} {us:List Value} (h:Vals xs us):∀k:Nat,Vals (List.replicate k xs).flatten (List.replicate k us).flatten
 | 0=>.nil
 | k+1=>by
  rw [List.replicate_succ,List.replicate_succ,List.flatten_cons,List.flatten_cons]
  exact Vals.append h (Vals.rep h k)
theorem w_ {α:Type} (l:List α):l.eraseIdx (l.length-1)=l.dropLast:=by
 induction l with
 | nil=>rfl
 | cons a r ih =>
  cases r with
  | nil=>rfl
  | cons b r =>
   have e:(a::b::r).length-1=((b::r).length-1)+1:=by
    have h1:(a::b::r).length=r.length+2:=rfl
    have h2:(b::r).length=r.length+1:=rfl
    omega
   rw [e,List.eraseIdx_cons_succ,ih]
   all_goals rfl
theorem rg (its:List Value):∀(k:Nat) (acc:List Value),
  List.foldl (fun x1 x2=>x1++x2) acc.toArray (List.replicate k its.toArray)=(acc++(List.replicate k its).flatten).toArray
 | 0,acc=>by simp
 | k+1,acc=>by
  have e:acc.toArray++its.toArray=(acc++its).toArray:=by simp
  have e2:(acc++its)++(List.replicate k its).flatten=acc++(List.replicate (k+1) its).flatten:=by
   rw [List.replicate_succ,List.flatten_cons,List.append_assoc]
  rw [←e2,←rg its k (acc++its),←e,List.replicate_succ,List.foldl_cons]
section
variable {X:Cx} {pins:List (Addr × Obj)} {σ:St} {H:Hp} {s:Shared} {l b:Addr} {xs ys zs:List V}
theorem Inv.lset {its its':List Value} {n:Nat} {f:Array Value→Array Value} {t':Nat} (I:Inv X pins σ H s) (hH:H l=some (.lst xs))
  (e:s.heap.get? l=some { cls:=.type "list",data:=.seq its.toArray n }) (hf:f its.toArray=its'.toArray) (hv:Vals ys its') (hz:ys.length≤sizeLine) :
  Inv X pins σ (upd H l (.lst ys)) { s with heap:=s.heap.update l (Obj.mapSeq f),toks:=t' }:=by
 have q:=PySem.IsL.update e f
 rw [hf] at q
 refine I.write (x:=l) (e:=l) (by rw [hH];exact trivial) (.inl rfl) (fun b' u hb hu=>(Heap.get?_update_other s.heap (Obj.mapSeq f) (Ne.symm hb)).trans hu) ⟨_,q⟩ ?_
 exact ⟨hz,its',_,hv,q⟩
theorem Inv.lnew {its:List Value} {t':Nat} (I:Inv X pins σ H s) (hv:Vals ys its) (hz:ys.length≤sizeLine) :
  Inv X pins σ (upd H s.heap.objs.size (.lst ys)) { s with heap:=s.heap.push { cls:=.type "list",data:=.seq its.toArray },toks:=t' } :=
 I.laid (fun _ _ q=>Heap.get?_push_of_some _ q) (Nat.le_refl _) ⟨hz,its,0,hv,Heap.get?_push_size _ rfl⟩
theorem Inv.fresh (I:Inv X pins σ H s):H s.heap.objs.size=none:=I.hok.fresh (Nat.le_refl _)
theorem Inv.lstM (I:Inv X pins σ H s) (hH:H l=some (.lst xs)):xs.length≤sizeLine∧∃(its:List Value) (n:Nat),Vals xs its∧xs.length=its.length∧s.heap.get? l=some { cls:=.type "list",data:=.seq its.toArray n }:=by
 obtain ⟨z,its,n,r,e⟩:=I.hok l _ hH
 exact ⟨z,its,n,r,r.length,e⟩
theorem oy {n:Nat} (h:n≤sizeLine):Builtin.List.listTooLong n=false:=by
 unfold Builtin.List.listTooLong
 exact decide_eq_false (by omega)
end
section
variable {X:Cx}
noncomputable def Fh:V→List V→Hp→VK→Prop:=fun x vs H Q=>∃l xs y,x=.ref l∧vs=[y]∧H l=some (.lst xs)∧xs.length<sizeLine∧Q .non (upd H l (.lst (xs++[y])))
theorem rc:MtM X "list.append" Fh:=by
 intro pins s σ H x vs v us Q I rx rv h
 obtain ⟨l,xs,y,rfl,rfl,hH,hz,q⟩:=h
 cases rx
 obtain ⟨u,rfl,ru⟩:=rv.one
 obtain ⟨z,its,n,r,hl,e⟩:=I.lstM hH
 refine call_meets F.slot_list_append ⟨_,e,rfl⟩ F.entry_list_append (F.args_list_append_2 _ _) (PySem.list_append l its.toArray n u (by rw [List.size_toArray];omega)) ⟨e,?_⟩
 refine ⟨.non,_,I.lset (its':=its++[u]) hH e (by simp) (r.append (.cons ru .nil)) ?_,rfl,q⟩
 rw [List.length_append,List.length_singleton]
 omega
noncomputable def E9:V→List V→Hp→VK→Prop:=fun x vs H Q=>∃l b xs zs,x=.ref l∧vs=[.ref b]∧H l=some (.lst xs)∧H b=some (.lst zs)∧xs.length+zs.length≤sizeLine∧Q .non (upd H l (.lst (xs++zs)))
theorem zI:MtM X "list.extend" E9:=by
 intro pins s σ H x vs v us Q I rx rv h
 obtain ⟨l,b,xs,zs,rfl,rfl,hH,hB,hz,q⟩:=h
 cases rx
 obtain ⟨u,rfl,ru⟩:=rv.one
 cases ru
 obtain ⟨z,its,n,r,hl,e⟩:=I.lstM hH
 obtain ⟨z2,its2,n2,r2,hl2,e2⟩:=I.lstM hB
 have hsz:its.toArray.size+its2.toArray.size≤sizeLine:=by rw [List.size_toArray,List.size_toArray];omega
 have hlong:¬(!its.toArray.isEmpty && Builtin.List.listTooLong (its.toArray.size+its2.toArray.size))=true:=by
  rw [oy hsz,Bool.and_false]
  exact Bool.false_ne_true
 refine call_meets F.slot_list_extend ⟨_,e,rfl⟩ F.entry_list_extend (F.args_list_extend_2 _ _)
  (AutoSeq1.list_extend_list_list_0 l its.toArray n b its2.toArray n2 hlong (by rw [List.size_toArray];omega) (by omega)) ⟨e,e2,?_⟩
 refine ⟨.non,_,I.lset (its':=its++its2) hH e (by simp) (r.append r2) ?_,rfl,q⟩
 rw [List.length_append]
 omega
noncomputable def JL:V→List V→Hp→VK→Prop:=fun x vs H Q=>∃l xs y,x=.ref l∧vs=[]∧H l=some (.lst xs)∧xs[xs.length-1]?=some y∧Q y (upd H l (.lst xs.dropLast))
theorem Hj:MtM X "list.pop" JL:=by
 intro pins s σ H x vs v us Q I rx rv h
 obtain ⟨l,xs,y,rfl,rfl,hH,hy,q⟩:=h
 cases rx
 have hus:=rv.zero
 subst hus
 obtain ⟨z,its,n,r,hl,e⟩:=I.lstM hH
 obtain ⟨u,hu,ru⟩:=r.get hy
 have hy':its.toArray[its.toArray.size-1]?=some u:=by
  show its.toArray[its.length-1]?=some u
  rw [←Array.getElem?_toList,←hl]
  exact hu
 refine call_meets F.slot_list_pop ⟨_,e,rfl⟩ F.entry_list_pop (F.args_list_pop_1 _) (MeetsSeq.list_pop_last l its.toArray n u hy' (by rw [List.size_toArray];omega)) ⟨e,?_⟩
 refine ⟨y,_,I.lset (its':=its.dropLast) hH e ?_ r.dropLast ?_,ru,q⟩
 ·show its.toArray.eraseIdxIfInBounds (its.toArray.size-1)=its.dropLast.toArray
  rw [List.size_toArray,List.eraseIdxIfInBounds_toArray,w_]
 ·rw [List.length_dropLast]
  omega
noncomputable def Js:R2:=fun x y H Q=>∃l b xs zs,x=.ref l∧y=.ref b∧H l=some (.lst xs)∧H b=some (.lst zs)∧xs.length+zs.length≤sizeLine∧∀p,H p=none→Q (.ref p) (upd H p (.lst (xs++zs)))
theorem GT:OpR X (binaryOp .Add) Js:=by
 intro pins s σ H x y v u Q I rx ry h
 obtain ⟨l,b,xs,zs,rfl,rfl,hH,hB,hz,q⟩:=h
 cases rx
 cases ry
 obtain ⟨z,its,n,r,hl,e⟩:=I.lstM hH
 obtain ⟨z2,its2,n2,r2,hl2,e2⟩:=I.lstM hB
 refine PySem.P.add_list e e2 ?_ (by rw [List.size_toArray,List.size_toArray];omega)
 have ea:its.toArray++its2.toArray=(its++its2).toArray:=by simp
 rw [ea]
 exact ⟨.ref _,_,I.lnew (t':=s.toks) (r.append r2) (by rw [List.length_append];omega),rfl,q _ I.fresh⟩
noncomputable def JB:R2:=fun x y H Q=>∃l k xs,x=.ref l∧y=.int k∧H l=some (.lst xs)∧-(2 ^ 63)≤k∧k<2 ^ 63∧xs.length*k.toNat≤sizeLine ∧
 ∀p,H p=none→Q (.ref p) (upd H p (.lst (List.replicate k.toNat xs).flatten))
theorem Em {α:Type} (xs:List α) (k:Nat):(List.replicate k xs).flatten.length=k*xs.length:=by
 induction k with
 | zero=>simp
 | succ k ih=>rw [List.replicate_succ,List.flatten_cons,List.length_append,ih,Nat.succ_mul,Nat.add_comm]
theorem FP:OpR X (binaryOp .Mult) JB:=by
 intro pins s σ H x y v u Q I rx ry h
 obtain ⟨l,k,xs,rfl,rfl,hH,h1,h2,hz,q⟩:=h
 cases rx
 obtain ⟨t,rfl⟩:=ry
 obtain ⟨z,its,n,r,hl,e⟩:=I.lstM hH
 have hlen:its.toArray.size*k.toNat≤sizeLine:=by rw [List.size_toArray,←hl];exact hz
 have hcap:¬its.toArray.size*k.toNat > (2 ^ 63-1)/8:=by
  have:(sizeLine:Nat)≤(2 ^ 63-1)/8:=by decide
  omega
 have hfit:¬(!Builtin.List.listFitsIndex k)=true:=by
  rw [fitsIndex_both h1 h2]
  exact Bool.false_ne_true
 have hlong:¬Builtin.List.listTooLong (its.toArray.size*k.toNat)=true:=by
  rw [oy hlen]
  exact Bool.false_ne_true
 have hnew:List.foldl (fun x1 x2=>x1++x2) #[] (List.replicate (if its.toArray.isEmpty=true then 0 else k.toNat) its.toArray)=(List.replicate k.toNat its).flatten.toArray:=by
  have f0:∀m:Nat,List.foldl (fun x1 x2=>x1++x2) #[] (List.replicate m its.toArray)=(List.replicate m its).flatten.toArray:=fun m=>by
   have:=rg its m []
   rw [List.nil_append] at this
   exact this
  rw [f0]
  cases its with
  | nil=>simp
  | cons a r'=>rw [if_neg (by simp)]
 refine wpAny_binaryOp_repeat_ref (T:="list") (U:="int") (by decide) ⟨_,e,rfl⟩ (fun s'=>typeIs_int s' k t) noFill_list_mul F.fills_int_mul F.slot_int_rmul repeat_list F.slot_int_index.lookup
  (call_meets F.slot_int_rmul (typeIs_int s k t) F.entry_int_rmul (F.args_int_rmul_2 _ _) (int___rmul___int_list k t l its.toArray n)
   ⟨e,rfl,⟨_,e,rfl⟩,call_meets F.slot_list_mul ⟨_,e,rfl⟩ F.entry_list_mul (F.args_list_mul_2 _ _) (AutoListH.list___mul___list_int_3 l its.toArray n k t hfit hcap hlong) ⟨e,?_⟩⟩)
 rw [hnew]
 exact ⟨.ref _,_,I.lnew (t':=s.toks) (r.rep k.toNat) (by rw [Em,Nat.mul_comm];exact hz),rfl,q _ I.fresh⟩
end
section
variable {prog:Program} {w:World} {A:Around} {E:Value→Shared→Prop} {s:Shared}
set_option maxRecDepth 100000 in
end
section
variable {X:Cx}
end
end L2
namespace Att
open PySem PySem.W PySem.Calls PyProof.Rows
theorem mQ {P:Params} {h:Heap}:∀(ns:List Int) (vs:List Value),WellAll P h vs (ns.map WData.int)→IntsAre vs ns:=by
 intro ns
 induction ns with
 | nil =>
  intro vs w
  rw [List.map_nil] at w
  cases w
  exact .nil
 | cons n ns ih =>
  intro vs w
  rw [List.map_cons] at w
  cases w with
  | cons a b =>
   cases a
   exact .cons _ _ (ih _ b)
theorem zj {l:OpenLaw} {n:Nat} (hn:l.most=some n) {P:Params} {h:Heap} {args:List WData} {vals:List Value}
  (hpre:l.row.toRowW.claim.pre args=true) (hwl:WellAll P h vals args) :
  ∃a vs ns,vals=[Value.ref a]∧args=[WData.list (ns.map WData.int)]∧h.get? a=some { cls:=.type "list",data:=.seq vs.toArray }∧IntsAre vs ns∧ns.length≤n:=by
 have hsh:WShape.hasAll [] args [.list .int]=true:=(pre_splitW hpre).1
 have hc:l.pre.holds [] { args:=args }=true:=(pre_splitW hpre).2
 obtain ⟨d,r,rfl,h1,h2⟩:=hasAllW_cons hsh
 obtain rfl:=hasAllW_nil h2
 obtain ⟨xs,rfl,h3⟩:=hasW_list h1
 obtain ⟨ns,rfl⟩:=items_int h3
 have hlen:ns.length≤n:=by
  unfold OpenLaw.pre at hc
  have h4:(WTm.not (.lt (.lit (.int (n:Int))) (.len (.arg 0)))).holds [] { args:=[.list (ns.map .int)] }=true:=by
   have h4:=(holds_andW hc).1
   rw [hn] at h4
   exact h4
  have h5:=condW_of h4 (w_not (w_lt w_lit (w_len_list (w_arg rfl))))
  rw [List.length_map] at h5
  refine Nat.le_of_not_lt fun q=>?_
  have q':(n:Int)<((ns.length:Nat):Int):=by omega
  first
   | (rw [decide_eq_true q'] at h5;exact absurd h5 (by decide))
   | (simp at h5;omega)
 cases hwl with
 | cons w1 w2 =>
  cases w2
  cases w1 with
  | list ho hall=>exact ⟨_,_,ns,rfl,rfl,ho,mQ ns _ hall,hlen⟩
theorem zd (l:OpenLaw) (args:List WData):l.row.toRowW.claim.post args (.bool true) args=true :=
 postW_of (r:=l.row.toRowW) (X:=(true == true))
  (show WShape.has [] (.bool true) .bool=true by first|rfl|decide|simp [WShape.has,WShape.arms,WShape.armsAll])
  (show (WTm.eq .res (.lit (.bool true))).value [] { args:=args,res:=some (.bool true),after:=args }=some (.bool (true == true)) from w_eq_bool (w_res rfl) w_lit) rfl
theorem attach_call {l:OpenLaw} {n:Nat} {q:Program} {loose:List Str} {XP:(Str→Option Value)→Heap→Prop} {YP:World→Heap→Prop} {d:DefRec}
  (hn:l.most=some n) (hdf:d.params.defaults=[])
  (call:∀(w:World) (s₀ s₁:Shared) (mg mb:Str→Option Value) (fa:Addr) (o:Obj) (pm cd doc:Value) (a:Addr) (vs:List Value) (ns:List Int),
   Ground q loose [] XP w s₀ mg mb s₁.heap→YP w s₁.heap →
   s₁.heap.get? fa=some o→o.data=.func (docDef d.name d.params d.body d.scope pm cd doc)→s₁.heap.CodeRec cd d.name→mg d.name=some (.ref fa) →
   s₁.heap.get? a=some { cls:=.type "list",data:=.seq vs.toArray }→IntsAre vs ns→ns.length≤n→s₁.gens=#[] →
   codeAny (model l.prog w) callerA (.call (.ref fa) ⟨[.ref a],[]⟩) (fun r s'=>r=.ok (.ret (.bool true))∧OldK s₁.heap s'.heap∧s'.os=s₁.os∧AllBare s'.gens) s₁) :
  WalkO q loose XP YP l.row.toRowW d [] (fun f vs=>PySem.call f vs):=by
 intro w s₀ s₁ mg mb G Y fa o pm cd doc dV kV ho hd hcd hD hmg hg args vals as hpre hlay hrd hwl hlo
 obtain rfl:dV=.none:=Dflts.none hD hdf
 obtain rfl:kV=.none:=Dflts.noKw hD
 obtain ⟨a,vs,ns,rfl,rfl,hobj,hints,hlen⟩:=zj hn hpre hwl
 refine enter_call (codeAny_mono (call w s₀ s₁ mg mb fa o pm cd doc a vs ns G Y ho (fd_plain hd) hcd hmg hobj hints hlen hg) fun r s' hq=>?_)
 obtain ⟨rfl,h2,h3,h4⟩:=hq
 exact ⟨.inl ⟨.bool true,.bool true,[],rfl,fun _=>rfl,.bool true,zd l _,fun _=>⟨List.Pairwise.nil,fun _ hm=>(nomatch hm)⟩⟩,h2,h3,h4⟩
section
variable {prog:Program} {w:World} {A:Around} {E:Value→Shared→Prop} {s:Shared} {K:Frag}
end
end Att
namespace L2
open PySem PySem.Spec PyProof.Rows
theorem qW:∀ {vs:List Value} {ns:List Int},IntsAre vs ns→Vals (ns.map V.int) vs
 | _,_,.nil=>.nil
 | _,_,.cons n t h=>.cons ⟨t,rfl⟩ (qW h)
end L2
namespace L2
open PySem PySem.Spec PyProof.Rows
end L2
namespace L2
open PySem PySem.Spec PyProof.Rows
noncomputable def aj (s:Stmt):Arguments:=match s with
 | .FunctionDef _ a _ _ _ _ _ _ _ _=>a
 | _=>{ posonlyargs:=[],args:=[],vararg:=none,kwonlyargs:=[],kw_defaults:=[],kwarg:=none,defaults:=[] }
noncomputable def ac (s:Stmt):List Stmt:=match s with
 | .FunctionDef _ _ b _ _ _ _ _ _ _=>b
 | _=>[]
noncomputable def aa (s:Stmt):Scope:=match s with
 | .FunctionDef _ _ _ _ _ _ sc _ _ _=>sc
 | _=>{ kind:=.function,names:=[],isGenerator:=false,isCoroutine:=false }
noncomputable abbrev CX0:CXT:=fun _ _ _ _ _ _=>False
noncomputable abbrev E0:XK:=fun _ _ _=>False
theorem FH {X:Cx}:tq CX0 X E0:=fun _ _ _ _ _ _ _ h=>h.elim
structure Fun (K:PySem.W.Frag) (x qual:Str) (st:Stmt) (f:Addr) (fd:FuncData):Prop where
 ex:∃(oc:Value) (od:Option Addr) (kV doc pm:Value) (an:Option Addr) (cdv ct:Value) (osl:Array (Option Value)),
  fd=PySem.W.fnOf x qual (aj st) (ac st) (aa st) .none kV doc pm an cdv ct∧K.lookup f=some ⟨oc,od,.func fd,osl⟩∧PySem.W.codeIn K cdv qual=true
 kp:PySem.W.keepIn K (.ref f)=true
section
variable {P:Program} {w:World} {K:PySem.W.Frag} {mg:Str→Option Value} {base:Heap}
theorem Fun.ok {x qual:Str} {st:Stmt} {f:Addr} {fd:FuncData} {N ps:List Str} {k:Nat} {sp:Sp} (F:Fun K x qual st f fd) (S:ai N ps (aa st)) (len:∀vs H Q E,sp vs H Q E→vs.length=ps.length)
  (hbody:∀(cdv:Value) (A:Around) (outer:List Env) (s:Shared) (H:Hp) (vs:List V) (Q:VK) (E:XK),Room k (A.deeper (envOfC qual (aa st) s.heap.objs.size f cdv))→sp vs H Q E →
   ∃t,PSs (lW CX0 P w K mg base N qual (aa st) f cdv A outer s H E).nox (ac st) t∧t { nx:=fun _ H'=>Q .non H',rt:=Q } (start N vs) H):qu P w K mg base CX0 (k+1) f fd ps sp:=by
 obtain ⟨oc,od,kV,doc,pm,an,cdv,ct,osl,rfl,lk,hcd⟩:=F.ex
 refine Iz lk hcd S len fun A outer s H vs Q E hr hsp=>?_
 obtain ⟨t,h,q⟩:=hbody cdv A outer s H vs Q E hr hsp
 exact ⟨t,h.nox,q⟩
theorem Fun.binds {x qual:Str} {st:Stmt} {f:Addr} {fd:FuncData} {ps:List Str} (F:Fun K x qual st f fd)
  (h:∀(kV doc pm:Value) (an:Option Addr) (cdv ct:Value) (us:List Value),us.length=ps.length→bindArgs (PySem.W.fnOf x qual (aj st) (ac st) (aa st) .none kV doc pm an cdv ct) ⟨us,[]⟩=pure (ps.zip us)):Binds K fd ps []:=by
 obtain ⟨oc,od,kV,doc,pm,an,cdv,ct,osl,rfl,lk,hcd⟩:=F.ex
 exact .all (h kV doc pm an cdv ct)
theorem CT {x qual:Str} {st:Stmt} {f:Addr} {oc:Value} {od an:Option Addr} {osl:Array (Option Value)} {kV doc pm cdv ct:Value} (l:K.lookup f=some ⟨oc,od,.func (PySem.W.fnOf x qual (aj st) (ac st) (aa st) .none kV doc pm an cdv ct),osl⟩)
  (c:PySem.W.codeIn K cdv qual=true) (k:PySem.W.keepIn K (.ref f)=true):Fun K x qual st f (PySem.W.fnOf x qual (aj st) (ac st) (aa st) .none kV doc pm an cdv ct):=⟨⟨oc,od,kV,doc,pm,an,cdv,ct,osl,rfl,l,c⟩,k⟩
end
section
variable {X:Cx}
end
theorem Jm {A B:Prop} (h:A):if true=true then A else B:=by
 rw [if_pos rfl]
 exact h
noncomputable def Same (H H':Hp):Prop:=∀b o,H b=some o→H' b=some o
theorem Same.seq {K:PySem.W.Frag} {H H':Hp} {a:Addr} {xs:List V} (e:Same H H') (h:SqL K H a xs):SqL K H' a xs:=by
 rcases h with (h|⟨o,h⟩)|h
 ·exact .inl (.inl (e _ _ h))
 ·exact .inl (.inr ⟨o,e _ _ h⟩)
 ·exact .inr h
end L2
set_option Elab.async false
set_option linter.all false
set_option maxRecDepth 100000
namespace HX
open PySem PySem.Spec PyProof.Rows L2
section
variable {X:Cx} {a b c:Expr} {ta tb tc:TE} {pos:Pos}
noncomputable def CBig (j:Int):Prop:=0<j∧j.natAbs.log2<9000
noncomputable def CMB (i j:Int):Prop:=i.natAbs<2 ^ 6000∧j.natAbs<2 ^ 6000∨(-(2 ^ 64)<i∧i<2 ^ 64)∨(-(2 ^ 64)<j∧j<2 ^ 64)
theorem yQ {i:Int} {n:Nat} (h:i.natAbs<2 ^ n):Builtin.Int.intBits i≤n:=by
 unfold Builtin.Int.intBits
 split
 ·exact Nat.zero_le _
 ·rename_i hz
  have h0:i.natAbs≠0:=by
   intro z
   apply hz
   have:i=0:=by omega
   simp [this]
  have:i.natAbs.log2<n:=(Nat.log2_lt h0).mpr h
  omega
theorem CMB.ok {i j:Int} (h:CMB i j):IntMulOk i j:=by
 rcases h with ⟨h1,h2⟩|⟨h1,h2⟩|⟨h1,h2⟩
 ·exact IntMulOk.of_le (yQ h1) (yQ h2) (by decide)
 ·exact .of_left (intBits_le_64 h1 h2)
 ·exact .of_right (intBits_le_64 h1 h2)
theorem CBig.of {j:Int} (h:0<j) (h2:j<2 ^ 8999):CBig j:=by
 refine ⟨h,?_⟩
 have h0:j.natAbs≠0:=by omega
 have:j.natAbs<2 ^ 8999:=by
  have e:((2:Int) ^ 8999)=((2 ^ 8999:Nat):Int):=by rw [Int.natCast_pow];rfl
  rw [e] at h2
  generalize (2:Nat) ^ 8999=z at h2 ⊢
  omega
 have:=(Nat.log2_lt h0).mpr this
 omega
theorem DW:OpR X (binaryOp .Mult) (rI CMB fun i j=>.int (i*j)):=opI fun _ _ _ _ _ _ _ hc q=>mul_int q hc.ok
theorem Cq:OpR X (binaryOp .FloorDiv) (rI (fun _ j=>CBig j) fun i j=>.int (i/j)):=opI fun i j _ _ _ _ _ hc q=>by
 refine floordiv_int (by have:=hc.1;omega) ?_ (.inl (PyProof.noPylong_of_log2 hc.2))
 rw [Int.fdiv_eq_ediv_of_nonneg _ (Int.le_of_lt hc.1)]
 exact q
theorem sC:gK X (.builtin "divmod") (fun xs H Q=>∃i j,xs=[.int i,.int j]∧CBig j∧∀p,H p=none→Q (.ref p) (upd H p (.tup [.int (i/j),.int (i % j)]))):=by
 intro pins s σ H xs us Q I r h
 obtain ⟨i,j,rfl,hc,q⟩:=h
 obtain ⟨u,v,rfl,⟨t,rfl⟩,⟨t',rfl⟩⟩:=qV r
 refine divmod_int (by have:=hc.1;omega) ?_ (.inl (PyProof.noPylong_of_log2 hc.2))
 rw [Int.fdiv_eq_ediv_of_nonneg _ (Int.le_of_lt hc.1),Int.fmod_eq_emod_of_nonneg _ (Int.le_of_lt hc.1)]
 have hf:H s.heap.objs.size=none:=I.hok.fresh (Nat.le_refl _)
 refine ⟨.ref s.heap.objs.size,upd H s.heap.objs.size (.tup [.int (i/j),.int (i % j)]),I.laid (t':=s.toks+1+1) (fun b u e=>Heap.get?_push_of_some _ e) (Nat.le_refl _) ?_,rfl,q _ hf⟩
 exact ⟨by show 2≤sizeLine;decide,[_,_],.cons ⟨_,rfl⟩ (.cons ⟨_,rfl⟩ .nil),⟨_,Heap.get?_push_size _ rfl,rfl,_,rfl⟩⟩
theorem vZ {x:V} {v:Value} (r:RelV x v) (k:Bool):(v == Value.bool k)=decide (x=.bl k):=by
 cases x with
 | non=>cases r;rfl
 | bl b=>cases r;cases b <;> cases k <;> rfl
 | int _=>obtain ⟨t,rfl⟩:=r;rfl
 | str _=>obtain ⟨t,rfl⟩:=r;rfl
 | byt _=>obtain ⟨t,rfl⟩:=r;rfl
 | flt _=>obtain ⟨t,rfl⟩:=r;rfl
 | ref _=>cases r;rfl
 | ty _=>cases r;rfl
theorem nI {x:V} {v:Value} (r:RelV x v) (k:Bool):plainIs v (.bool k)=true:=by
 cases x with
 | non=>cases r;rfl
 | bl b=>cases r;rfl
 | int _=>obtain ⟨t,rfl⟩:=r;rfl
 | str _=>obtain ⟨t,rfl⟩:=r;rfl
 | byt _=>obtain ⟨t,rfl⟩:=r;rfl
 | flt _=>obtain ⟨t,rfl⟩:=r;rfl
 | ref _=>cases r;rfl
 | ty _=>cases r;rfl
noncomputable def JN:R2:=fun x y H Q=>∃k,y=.bl k∧Q (.bl (decide (x=.bl k))) H
noncomputable def EL:R2:=fun x y H Q=>∃k,y=.bl k∧Q (.bl (!decide (x=.bl k))) H
theorem GC:OpR X (compareOp .Is) JN:=by
 intro pins s σ H x y v u Q I rx ry h
 obtain ⟨k,rfl,q⟩:=h
 cases ry
 exact wpAny_is_plain (nI rx k) ⟨.bl _,H,I,by rw [vZ rx k];rfl,q⟩
theorem AV:OpR X (compareOp .IsNot) EL:=by
 intro pins s σ H x y v u Q I rx ry h
 obtain ⟨k,rfl,q⟩:=h
 cases ry
 exact wpAny_isNot_plain (nI rx k) ⟨.bl _,H,I,by rw [vZ rx k];rfl,q⟩
noncomputable def dJ (c n:String):Bool:=c == n || (n == "bool" && c == "int")
noncomputable def HH (n c:String):Option Bool:=if (Value.type n == Value.type c)=true then some true else if PySem.W.kitMeta c=true then (fastBuiltinMro n).map (·.contains (.type c)) else none
theorem E5 (K:PySem.W.Frag) (n c:String):PySem.W.kitOne K (.type n) (.type c)=HH n c:=rfl
theorem BB:∀c∈["int","bool","str","tuple","list","dict"],∀n∈["NoneType","bool","int","str","list","tuple","dict"],HH n c=some (dJ c n):=by decide +kernel
theorem Cf (K:PySem.W.Frag):∀c∈["int","bool","str","tuple","list","dict"],∀n∈["NoneType","bool","int","str","list","tuple","dict"],PySem.W.kitOne K (.type n) (.type c)=some (dJ c n):=by
 intro c hc n hn
 rw [E5]
 exact BB c hc n hn
end
end HX
namespace HX
open PySem PySem.Spec PyProof.Rows L2
end HX
set_option Elab.async false
set_option linter.all false
set_option maxRecDepth 100000
namespace HX
open PySem PySem.Spec PyProof.Rows L2
noncomputable abbrev D:=PyData
mutual
noncomputable def Den (K:PySem.W.Frag) (H:Hp):D→V→Prop
 | .none,v=>v=.non
 | .bool b,v=>v=.bl b
 | .int i,v=>v=.int i
 | .str x,v=>v=.str x
 | .tuple ds,v=>∃a xs,v=.ref a∧SqT K H a xs∧Dens K H ds xs
 | .list ds,v=>∃a xs,v=.ref a∧SqL K H a xs∧Dens K H ds xs
 | .dict _,_=>False
noncomputable def Dens (K:PySem.W.Frag) (H:Hp):List D→List V→Prop
 | [],xs=>xs=[]
 | d::ds,xs=>∃x r,xs=x::r∧Den K H d x∧Dens K H ds r
end
section
variable {K:PySem.W.Frag} {H H':Hp} {v:V} {xs:List V}
theorem den_int {i:Int}:Den K H (.int i) v↔v=.int i:=by unfold Den;exact Iff.rfl
theorem den_bl {i:Bool}:Den K H (.bool i) v↔v=.bl i:=by unfold Den;exact Iff.rfl
theorem den_str {i:Str}:Den K H (.str i) v↔v=.str i:=by unfold Den;exact Iff.rfl
theorem den_non:Den K H .none v↔v=.non:=by unfold Den;exact Iff.rfl
theorem den_tup {ds:List D}:Den K H (.tuple ds) v↔∃a xs,v=.ref a∧SqT K H a xs∧Dens K H ds xs:=by rw [Den]
theorem den_lst {ds:List D}:Den K H (.list ds) v↔∃a xs,v=.ref a∧SqL K H a xs∧Dens K H ds xs:=by rw [Den]
theorem tP {ds:List (D × D)}:Den K H (.dict ds) v↔False:=by rw [Den]
theorem dens_nil:Dens K H [] xs↔xs=[]:=by unfold Dens;exact Iff.rfl
theorem ll {d:D} {ds:List D}:Dens K H (d::ds) xs↔∃x r,xs=x::r∧Den K H d x∧Dens K H ds r:=by rw [Dens]
theorem dens_cons' {d:D} {ds:List D} {x:V}:Dens K H (d::ds) (x::xs)↔Den K H d x∧Dens K H ds xs:=by
 rw [ll]
 constructor
 ·rintro ⟨_,_,e,h1,h2⟩
  cases e
  exact ⟨h1,h2⟩
 ·rintro ⟨h1,h2⟩
  exact ⟨_,_,rfl,h1,h2⟩
theorem C8 {a:Addr} (e:Same H H') (h:SqT K H a xs):SqT K H' a xs:=by
 rcases h with (h|⟨o,h⟩)|h
 ·exact .inl (.inl (e _ _ h))
 ·exact .inl (.inr ⟨o,e _ _ h⟩)
 ·exact .inr h
end
mutual
theorem Den.mono {K:PySem.W.Frag} {H H':Hp} (e:Same H H'):∀ {d:D} {v:V},Den K H d v→Den K H' d v
 | .none,v,h=>by rw [den_non] at h ⊢;exact h
 | .bool b,v,h=>by rw [den_bl] at h ⊢;exact h
 | .int b,v,h=>by rw [den_int] at h ⊢;exact h
 | .str b,v,h=>by rw [den_str] at h ⊢;exact h
 | .dict b,v,h=>by rw [tP] at h;exact h.elim
 | .tuple ds,v,h=>by
  rw [den_tup] at h ⊢
  obtain ⟨a,xs,h1,h2,h3⟩:=h
  exact ⟨a,xs,h1,C8 e h2,Dens.mono e h3⟩
 | .list ds,v,h=>by
  rw [den_lst] at h ⊢
  obtain ⟨a,xs,h1,h2,h3⟩:=h
  exact ⟨a,xs,h1,Same.seq e h2,Dens.mono e h3⟩
theorem Dens.mono {K:PySem.W.Frag} {H H':Hp} (e:Same H H'):∀ {ds:List D} {xs:List V},Dens K H ds xs→Dens K H' ds xs
 | [],xs,h=>by rw [dens_nil] at h ⊢;exact h
 | d::ds,xs,h=>by
  rw [ll] at h ⊢
  obtain ⟨x,r,h1,h2,h3⟩:=h
  exact ⟨x,r,h1,Den.mono e h2,Dens.mono e h3⟩
end
section
variable {X:Cx} {pins:List (Addr × Obj)} {σ:L2.St} {H:Hp} {s:Shared}
mutual
theorem Den.reads (I:Inv X pins σ H s):∀(d:D) (v:V) (u:Value),Den X.K H d v→RelV v u→∃as,Reads s.heap u d as
 | .none,v,u,h,r=>by rw [den_non] at h;subst h;cases r;exact ⟨_,.none⟩
 | .bool b,v,u,h,r=>by rw [den_bl] at h;subst h;cases r;exact ⟨_,.bool b⟩
 | .int b,v,u,h,r=>by rw [den_int] at h;subst h;obtain ⟨t,rfl⟩:=r;exact ⟨_,.int b t⟩
 | .str b,v,u,h,r=>by rw [den_str] at h;subst h;obtain ⟨t,rfl⟩:=r;exact ⟨_,.str b t⟩
 | .dict b,v,u,h,r=>by rw [tP] at h;exact h.elim
 | .tuple ds,v,u,h,r=>by
  rw [den_tup] at h
  obtain ⟨a,xs,rfl,h2,h3⟩:=h
  cases r
  obtain ⟨its,rv,⟨o,ho,hc,n,hd⟩,_⟩:=I.tuple h2
  obtain ⟨as,hr⟩:=Dens.reads I ds xs its h3 rv
  exact ⟨as,.tuple ho hc hd (by simpa using hr)⟩
 | .list ds,v,u,h,r=>by
  rw [den_lst] at h
  obtain ⟨a,xs,rfl,h2,h3⟩:=h
  cases r
  obtain ⟨its,rv,p,_⟩:=I.list h2
  obtain ⟨o,ho,hc,n,hd⟩:=p.isList
  obtain ⟨as,hr⟩:=Dens.reads I ds xs its h3 rv
  exact ⟨_,.list ho hc hd (by simpa using hr)⟩
theorem Dens.reads (I:Inv X pins σ H s):∀(ds:List D) (xs:List V) (us:List Value),Dens X.K H ds xs→Vals xs us→∃as,ReadsAll s.heap us ds as
 | [],xs,us,h,r=>by rw [dens_nil] at h;subst h;cases r;exact ⟨_,.nil⟩
 | d::ds,xs,us,h,r=>by
  rw [ll] at h
  obtain ⟨x,q,rfl,h2,h3⟩:=h
  cases r with
  | cons r1 r2 =>
   obtain ⟨as,h4⟩:=Den.reads I d x _ h2 r1
   obtain ⟨bs,h5⟩:=Dens.reads I ds q _ h3 r2
   exact ⟨_,.cons h4 h5⟩
end
end
section
variable {X:Cx}
noncomputable def Jr (K:PySem.W.Frag):R2:=fun x y H Q=>∃d e,Den K H d x∧Den K H e y∧SeqAt.shaped d=true∧SeqAt.shaped e=true∧Q (.bl (PyData.eqv d e)) H
noncomputable def Jn (K:PySem.W.Frag):R2:=fun x y H Q=>∃d e,Den K H d x∧Den K H e y∧SeqAt.shaped d=true∧SeqAt.shaped e=true∧Q (.bl (!PyData.eqv d e)) H
theorem Gu (hu:X.A.units+64<cLine):OpR X (compareOp .Eq) (Jr X.K):=by
 intro pins s σ H x y v u Q I rx ry h
 obtain ⟨d,e,h1,h2,h3,h4,q⟩:=h
 obtain ⟨as,ra⟩:=Den.reads I d x v h1 rx
 obtain ⟨bs,rb⟩:=Den.reads I e y u h2 ry
 exact eq_dataH ra rb h3 h4 hu ⟨.bl _,H,I,rfl,q⟩
theorem GP (hu:X.A.units+64<cLine):OpR X (compareOp .NotEq) (Jn X.K):=by
 intro pins s σ H x y v u Q I rx ry h
 obtain ⟨d,e,h1,h2,h3,h4,q⟩:=h
 obtain ⟨as,ra⟩:=Den.reads I d x v h1 rx
 obtain ⟨bs,rb⟩:=Den.reads I e y u h2 ry
 exact ne_dataH ra rb h3 h4 hu ⟨.bl _,H,I,rfl,q⟩
structure Has (P:Program) (w:World) (K:PySem.W.Frag) (mg:Str→Option Value) (base:Heap) (k:Nat) (x:Str) (ps:List Str) (sp:Sp):Prop where
 ex:∃(f:Addr) (fd:FuncData),qu P w K mg base CX0 k f fd ps sp∧mg x=some (.ref f)∧PySem.W.keepIn K (.ref f)=true∧Binds K fd ps []
structure At (K:PySem.W.Frag) (mg:Str→Option Value) (x:Str) (st:Stmt) (ps:List Str):Prop where
 ex:∃(f:Addr) (fd:FuncData),Fun K x x st f fd∧mg x=some (.ref f)∧Binds K fd ps []
theorem At.mk' {K:PySem.W.Frag} {mg:Str→Option Value} {h:Heap} {x:Str} {st:Stmt} {ps:List Str} {f:Addr} {oc:Value} {od an:Option Addr} {osl:Array (Option Value)} {kV doc pm cdv ct:Value} (X:K.In h) (G:h.Ns mainGlobals mg)
  (hb:∀(kV doc pm:Value) (an:Option Addr) (cdv ct:Value) (us:List Value),us.length=ps.length→bindArgs (PySem.W.fnOf x x (aj st) (ac st) (aa st) .none kV doc pm an cdv ct) ⟨us,[]⟩=pure (ps.zip us))
  (a:PySem.W.nsIn K mainGlobals x=some (some (.ref f))) (l:K.lookup f=some ⟨oc,od,.func (PySem.W.fnOf x x (aj st) (ac st) (aa st) .none kV doc pm an cdv ct),osl⟩)
  (c:PySem.W.codeIn K cdv x=true) (k:PySem.W.keepIn K (.ref f)=true):At K mg x st ps:=by
 have F:=CT (st:=st) l c k
 exact ⟨f,_,F,PySem.W.mg_of X G a,F.binds hb⟩
theorem At.ok {P:Program} {w:World} {K:PySem.W.Frag} {mg:Str→Option Value} {base:Heap} {x:Str} {st:Stmt} {N ps:List Str} {k:Nat} {sp:Sp} (F:At K mg x st ps) (S:ai N ps (aa st)) (len:∀vs H Q E,sp vs H Q E→vs.length=ps.length)
  (hbody:∀(f:Addr) (cdv:Value) (A:Around) (outer:List Env) (s:Shared) (H:Hp) (vs:List V) (Q:VK) (E:XK),Room k (A.deeper (envOfC x (aa st) s.heap.objs.size f cdv))→sp vs H Q E →
   ∃t,PSs (lW CX0 P w K mg base N x (aa st) f cdv A outer s H E).nox (ac st) t∧t { nx:=fun _ H'=>Q .non H',rt:=Q } (start N vs) H):Has P w K mg base (k+1) x ps sp:=by
 obtain ⟨f,fd,Ff,m,b⟩:=F.ex
 exact ⟨f,fd,Ff.ok S len (fun cdv A outer s H vs Q E hr h=>hbody f cdv A outer s H vs Q E hr h),m,Ff.kp,b⟩
theorem FT {k:Nat} {x:Str} {ps:List Str} {sp:Sp} {p pos:Pos} {e:Expr} {es:List Expr} {t:TA} (F:Has X.prog X.w X.K X.mg X.base k x ps sp) (hr:Room k X.A) (ha:PA X (e::es) t)
  (hg:Gl X x:=by rfl) (hdb:(x == ("__debug__":Str))=false:=by decide) (he:starEach (e::es) X.env=(false,eval e X.env)::starEach es X.env:=by rfl) (hpl:(backTo pos (starEach es X.env)).any (·.1)=false:=by rfl) :
  PE X (.Call (.Name x p) (e::es) [] pos) (q_ sp [] E0 t):=by
 obtain ⟨f,fd,F,m,kp,b⟩:=F.ex
 exact DZ F hr hg m kp b .nil FH ha hdb he hpl
theorem E4 {k:Nat} {x:Str} {ps:List Str} {sp:Sp} {p pos:Pos} (F:Has X.prog X.w X.K X.mg X.base k x ps sp) (hr:Room k X.A)
  (hg:Gl X x:=by rfl) (hdb:(x == ("__debug__":Str))=false:=by decide) :
  PE X (.Call (.Name x p) [] [] pos) (q_ sp [] E0 sN):=by
 obtain ⟨f,fd,F,m,kp,b⟩:=F.ex
 exact C6 F hr hg m kp b .nil FH hdb
end
end HX
set_option Elab.async false
set_option linter.all false
set_option maxRecDepth 100000
namespace HX
open PySem PySem.Spec PyProof.Rows L2
noncomputable def ao:Expr→Bool
 | .Starred ..=>false
 | _=>true
theorem aX {e:Expr} {es:List Expr} {env:Env} (h:ao e=true):starEach (e::es) env=(false,eval e env)::starEach es env:=by
 cases e <;> first|rfl|cases h
theorem va {env:Env}:∀ {es:List Expr},es.all ao=true→(starEach es env).any (·.1)=false
 | [],_=>rfl
 | e::es,h=>by
  rw [List.all_cons,Bool.and_eq_true] at h
  rw [aX h.1,List.any_cons,va h.2]
  rfl
noncomputable def kA:Expr→Bool
 | .Slice ..=>false
 | _=>true
theorem Iy {b:Expr} (h:kA b=true):yq b:=fun o i=>by
 cases b <;> first|rfl|cases h
section
variable {X:Cx}
theorem pac {e:Expr} {es:List Expr} {te:TE} {t:TA} (ha:PE X e te) (hr:PA X es t) (h:ao e=true:=by rfl):PA X (e::es) (gj te t):=EO ha hr (aX h)
theorem BR {a b:Expr} {ta tb:TE} {pos:Pos} {r:R2} (hr:IxR X r) (ha:PE X a ta) (hb:PE X b tb) (hs:kA b=true:=by rfl):PE X (.Subscript a b pos) (tOp r ta tb):=HW hr ha hb (Iy hs)
theorem ox {env:Env} {pos:Pos} {es:List Expr} (h:es.all ao=true):(backTo pos (starEach es env)).any (·.1)=false:=by
 have:=va (env:=env) h
 unfold backTo
 rw [List.any_map]
 exact this
theorem D9 {k:Nat} {x:Str} {ps:List Str} {sp:Sp} {p pos:Pos} {e:Expr} {es:List Expr} {t:TA} (F:Has X.prog X.w X.K X.mg X.base k x ps sp) (hr:Room k X.A) (ha:PA X (e::es) t)
  (hg:Gl X x:=by rfl) (hdb:(x == ("__debug__":Str))=false:=by decide) (he:ao e=true:=by rfl) (hpl:es.all ao=true:=by rfl) :
  PE X (.Call (.Name x p) (e::es) [] pos) (q_ sp [] E0 t):=FT F hr ha hg hdb (aX he) (ox hpl)
theorem qT {id:String} {r:List V→Hp→VK→Prop} {x:Str} {p pos:Pos} {e:Expr} {es:List Expr} {t:TA} (hc:gK X (.builtin id) r) (hg:Gl X x) (hm:X.mg x=none) (hv:bootBuiltins x=some (.builtin id)) (ha:PA X (e::es) t) (hn:x≠"__name__":=by decide) (hdb:(x == ("__debug__":Str))=false:=by decide)
  (he:ao e=true:=by rfl) (hpl:es.all ao=true:=by rfl):PE X (.Call (.Name x p) (e::es) [] pos) (tCB r t):=BV hc hg hm hv ha hn hdb (aX he) (ox hpl)
theorem ye {T:String} {r:List V→Hp→VK→Prop} {x:Str} {p pos:Pos} {e:Expr} {es:List Expr} {t:TA} (hc:gK X (.type T) r) (hg:Gl X x) (hm:X.mg x=none) (hv:bootBuiltins x=some (.type T)) (ha:PA X (e::es) t) (hn:x≠"__name__":=by decide) (hdb:(x == ("__debug__":Str))=false:=by decide)
  (he:ao e=true:=by rfl) (hpl:es.all ao=true:=by rfl):PE X (.Call (.Name x p) (e::es) [] pos) (tCB r t):=zK hc hg hm hv ha hn hdb (aX he) (ox hpl)
end
end HX
set_option Elab.async false
set_option linter.all false
set_option maxRecDepth 100000
namespace L2
open PySem PySem.Spec PyProof.Rows
section
variable {X:Cx}
theorem Fj:fillsInplaceSlot (.type "list") "add" (Operator.Add == .Add)=pure false:=by
 unfold fillsInplaceSlot
 show (typeLookup (.type "list") (dunderI "add") >>= fun fi=>pure (fi.isSome && !isSeqSlot fi))=pure false
 rw [F.slot_list_iadd.lookup]
 have e:isSeqSlot (some (.builtin "list.__iadd__"))=true:=by decide +kernel
 show (pure (true && !isSeqSlot (some (.builtin "list.__iadd__"))):Sem Bool)=pure false
 rw [e]
 rfl
theorem Ez:seqSlot? (.type "list") (dunderI "add")=pure (some (.builtin "list.__iadd__")):=PySem.seqSlot_of F.slot_list_iadd.lookup (by decide +kernel)
theorem Ad {M:Model} {A:Around} {E:Value→Shared→Prop} {s:Shared} {a b:Value} {Q:Value→Shared→Prop} (ha:s.TypeIs a "list") (hb:s.TypeIs b "list")
  (hc:wpAny M A (call (.builtin "list.__iadd__") [a,b]) Q E s):wpAny M A (inplaceOp .Add a b) Q E s:=by
 unfold inplaceOp
 refine wpAny_holding ?_
 refine wpAny_bind (wpAny_typeOf ha (wpAny_bind (wpAny_of_eq Fj ?_)))
 show wpAny M A (if false=true then _ else _) Q E s
 rw [if_neg Bool.false_ne_true]
 refine wpAny_bind (wpAny_binaryOp1_none (nm:="add") ha hb noFill_list_add ?_)
 refine wpAny_bind (wpAny_of_eq Ez ?_)
 exact wpAny_bind (wpAny_rule hc)
theorem Hb:PIp X .Add (fun x y H Q=>∃l b xs zs,x=.ref l∧y=.ref b∧H l=some (.lst xs)∧H b=some (.lst zs)∧xs.length+zs.length≤sizeLine∧Q (.ref l) (upd H l (.lst (xs++zs)))):=by
 intro pins s σ H x y v u Q I rx ry h
 obtain ⟨l,b,xs,zs,rfl,rfl,hH,hB,hz,q⟩:=h
 cases rx
 cases ry
 obtain ⟨z,its,n,r,hl,e⟩:=I.lstM hH
 obtain ⟨z2,its2,n2,r2,hl2,e2⟩:=I.lstM hB
 have hsz:its.toArray.size+its2.toArray.size≤sizeLine:=by rw [List.size_toArray,List.size_toArray];omega
 have hlong:¬(!its.toArray.isEmpty && Builtin.List.listTooLong (its.toArray.size+its2.toArray.size))=true:=by
  rw [oy hsz,Bool.and_false]
  exact Bool.false_ne_true
 refine Ad ⟨_,e,rfl⟩ ⟨_,e2,rfl⟩ ?_
 refine call_meets F.slot_list_iadd ⟨_,e,rfl⟩ F.entry_list_iadd (F.args_list_iadd_2 _ _)
  (AutoSeq1.list___iadd___list_list_0 l its.toArray n b its2.toArray n2 hlong (by rw [List.size_toArray];omega) (by omega)) ⟨e,e2,?_⟩
 refine ⟨.ref l,_,I.lset (its':=its++its2) hH e (by simp) (r.append r2) ?_,rfl,q⟩
 rw [List.length_append]
 omega
end
end L2
set_option Elab.async false
set_option linter.all false
set_option maxRecDepth 100000
set_option maxHeartbeats 1000000
namespace L2
open PySem PySem.Spec PyProof.Rows
structure JQ (h:Heap) (f:Addr) (qual:Str) (params:Arguments) (body:Expr) (scope:Scope) (cl:List (Str × Addr)):Prop where
 ex:∃pm c' ctv,h.get? f=some (PySem.W.kla_obj "<lambda>" qual params body scope cl pm c' ctv)∧h.CodeRec (.ref c') qual
structure HQ (x:Str) (scope:Scope) (cl:List (Str × Addr)):Prop where
 kind:scope.kind=.function
 co:scope.isCoroutine=false
 gen:scope.isGenerator=false
 nocell:∀y∈scope.names,y.2≠.cell
 par:scope.names.lookup x=some .local
 free:∀y,scope.names.lookup y=some .free→∃c,cl.lookup y=some c
 inj:∀y z c,cl.lookup y=some c→cl.lookup z=some c→y=z
end L2
set_option Elab.async false
set_option linter.all false
set_option maxRecDepth 100000
set_option maxHeartbeats 1000000
namespace L2
open PySem PySem.Spec PyProof.Rows
noncomputable def FX (oc:Obj) (q:Str):Prop:=∃vs t,oc.data=.fields vs∧vs[1]?=some (.str q t)
end L2
set_option Elab.async false
set_option linter.all false
set_option maxRecDepth 100000
namespace FW
open PySem L2 HX
inductive PV where
 | non|bl (b:Bool)|int (i:Int)|str (x:Str)|tup (xs:List PV)|ref (n:Nat)|rdl (xs:List PV)|fn (a:Nat)
 deriving Inhabited
inductive Cell where
 | lst (xs:List PV)
 | dk (kvs:List (Key × PV))
noncomputable abbrev AH:=List Cell
noncomputable abbrev Fr:=List (Option PV)
noncomputable abbrev EK:=PV→AH→Prop
noncomputable abbrev LK:=List PV→AH→Prop
noncomputable abbrev BK:=Bool→AH→Prop
noncomputable abbrev FSp:=List PV→AH→EK→Prop
mutual
noncomputable def PV.bel (k:Nat):PV→Bool
 | .ref n=>decide (n<k)
 | .tup xs=>PV.bels k xs
 | .rdl xs=>PV.bels k xs
 | .non=>true
 | .bl _=>true
 | .int _=>true
 | .str _=>true
 | .fn _=>false
noncomputable def PV.bels (k:Nat):List PV→Bool
 | []=>true
 | x::xs=>x.bel k && PV.bels k xs
end
mutual
noncomputable def PV.bec (k:Nat):PV→Bool
 | .ref n=>decide (n<k)
 | .tup xs=>PV.becs k xs
 | .rdl xs=>PV.becs k xs
 | .non=>true
 | .bl _=>true
 | .int _=>true
 | .str _=>true
 | .fn _=>true
noncomputable def PV.becs (k:Nat):List PV→Bool
 | []=>true
 | x::xs=>x.bec k && PV.becs k xs
end
mutual
theorem PV.bel_bec {i j:Nat} (h:i≤j):∀ {v:PV},v.bel i=true→v.bec j=true
 | .non,_=>by rw [PV.bec]
 | .bl _,_=>by rw [PV.bec]
 | .int _,_=>by rw [PV.bec]
 | .str _,_=>by rw [PV.bec]
 | .ref n,z=>by rw [PV.bel] at z;rw [PV.bec];have:=of_decide_eq_true z;exact decide_eq_true (by omega)
 | .tup xs,z=>by rw [PV.bel] at z;rw [PV.bec];exact PV.bels_becs h z
 | .rdl xs,z=>by rw [PV.bel] at z;rw [PV.bec];exact PV.bels_becs h z
 | .fn _,z=>by rw [PV.bel] at z;cases z
theorem PV.bels_becs {i j:Nat} (h:i≤j):∀ {vs:List PV},PV.bels i vs=true→PV.becs j vs=true
 | [],_=>by rw [PV.becs]
 | v::vs,z=>by rw [PV.bels,Bool.and_eq_true] at z;rw [PV.becs,Bool.and_eq_true];exact ⟨PV.bel_bec h z.1,PV.bels_becs h z.2⟩
end
noncomputable def Cell.bec (k:Nat):Cell→Bool
 | .lst xs=>PV.becs k xs
 | .dk kvs=>PV.becs k (kvs.map (·.2))
noncomputable def Cell.bel (k:Nat):Cell→Bool
 | .lst xs=>PV.bels k xs
 | .dk kvs=>PV.bels k (kvs.map (·.2))
mutual
noncomputable def PV.toD:PV→Option PyData
 | .non=>some .none
 | .bl b=>some (.bool b)
 | .int i=>some (.int i)
 | .str x=>some (.str x)
 | .tup xs=>(PV.toDs xs).map .tuple
 | .rdl xs=>(PV.toDs xs).map .list
 | .ref _=>none
 | .fn _=>none
noncomputable def PV.toDs:List PV→Option (List PyData)
 | []=>some []
 | x::xs=>match x.toD,PV.toDs xs with
  | some d,some ds=>some (d::ds)
  | _,_=>none
end
noncomputable def oY (st:AH):PV→Option PyData
 | .ref n=>match st[n]? with
  | some (.lst xs)=>(PV.toDs xs).map .list
  | _=>none
 | v=>v.toD
noncomputable def eqW (st:AH) (x y:PV) (k:Bool→Prop):Prop :=
 match x,y with
 | .int i,.int j=>k (decide (i=j))
 | .bl a,.bl b=>k (decide (a=b))
 | .str a,.str b=>k (decide (a=b))
 | x,y=>∃d e,oY st x=some d∧oY st y=some e∧SeqAt.shaped d=true∧SeqAt.shaped e=true∧k (PyData.eqv d e)
noncomputable def cZ (st:AH):PV→Option String
 | .non=>some "NoneType"
 | .bl _=>some "bool"
 | .int _=>some "int"
 | .str _=>some "str"
 | .tup _=>some "tuple"
 | .rdl _=>some "list"
 | .ref n=>match st[n]? with
  | some (.lst _)=>some "list"
  | some (.dk _)=>some "dict"
  | none=>none
 | .fn _=>none
noncomputable def bV (st:AH):PV→Option (List PV)
 | .rdl xs=>some xs
 | .ref n=>match st[n]? with
  | some (.lst xs)=>some xs
  | _=>none
 | _=>none
noncomputable def bi (st:AH):PV→Option (List PV)
 | .tup xs=>some xs
 | v=>bV st v
noncomputable def ij:PV→Bool
 | .non=>true
 | _=>false
noncomputable def mY (k:Bool):PV→Bool
 | .bl b=>b == k
 | _=>false
noncomputable def mM (xs:List PV) (lo hi:Option Int):List PV:=(xs.drop (HT.sIx xs.length 0 lo)).take (HT.sIx xs.length xs.length hi-HT.sIx xs.length 0 lo)
noncomputable def iiW (f:Int→Int→Prop) (x y:PV):Prop :=
 match x with
 | .int i=>match y with
  | .int j=>f i j
  | _=>False
 | _=>False
noncomputable def Jz (x y:PV) (st:AH) (Q:EK):Prop :=
 match x with
 | .int i=>match y with
  | .int j=>Q (.int (i+j)) st
  | _=>False
 | .ref n=>match y with
  | .ref k=>∃xs ys,st[n]?=some (.lst xs)∧st[k]?=some (.lst ys)∧xs.length+ys.length≤100000∧Q (.ref st.length) (st++[.lst (xs++ys)])
  | _=>False
 | .tup xs=>match y with
  | .tup ys=>xs.length+ys.length≤100000∧Q (.tup (xs++ys)) st
  | _=>False
 | .str a=>match y with
  | .str b=>a.length+b.length≤100000∧Q (.str (a++b)) st
  | _=>False
 | _=>False
noncomputable def Jc (x y:PV) (st:AH) (Q:EK):Prop :=
 match x with
 | .int i=>match y with
  | .int j=>CMB i j∧Q (.int (i*j)) st
  | _=>False
 | .ref n=>match y with
  | .int k=>∃xs,st[n]?=some (.lst xs)∧-(2 ^ 63)≤k∧k<2 ^ 63∧xs.length*k.toNat≤100000∧Q (.ref st.length) (st++[.lst (List.replicate k.toNat xs).flatten])
  | _=>False
 | _=>False
noncomputable def jj (op:Operator) (x y:PV) (st:AH) (Q:EK):Prop :=
 match op with
 | .Add=>Jz x y st Q
 | .Sub=>iiW (fun i j=>Q (.int (i-j)) st) x y
 | .Mult=>Jc x y st Q
 | .FloorDiv=>iiW (fun i j=>CBig j∧Q (.int (i/j)) st) x y
 | .Mod=>iiW (fun i j=>0<j∧Q (.int (i % j)) st) x y
 | .Pow=>iiW (fun i j=>xf i j∧Q (.int (i ^ j.toNat)) st) x y
 | _=>False
noncomputable def fu (op:CmpOp) (x y:PV) (st:AH) (Q:EK):Prop :=
 match op with
 | .Eq=>eqW st x y fun k=>Q (.bl k) st
 | .NotEq=>eqW st x y fun k=>Q (.bl (!k)) st
 | .Is=>match y with
  | .non=>Q (.bl (ij x)) st
  | .bl k=>Q (.bl (mY k x)) st
  | _=>False
 | .IsNot=>match y with
  | .non=>Q (.bl (!ij x)) st
  | .bl k=>Q (.bl (!mY k x)) st
  | _=>False
 | .Lt=>match x,y with
  | .int i,.int j=>Q (.bl (decide (i<j))) st
  | _,_=>False
 | .LtE=>match x,y with
  | .int i,.int j=>Q (.bl (decide (i≤j))) st
  | _,_=>False
 | .Gt=>match x,y with
  | .int i,.int j=>Q (.bl (decide (j<i))) st
  | _,_=>False
 | .GtE=>match x,y with
  | .int i,.int j=>Q (.bl (decide (j≤i))) st
  | _,_=>False
 | .In=>match x,y with
  | .str a,.str b=>Q (.bl (!(Builtin.Str.occurrences b a 0 b.length 1).isEmpty)) st
  | .int i,.tup xs=>∃ns:List Int,xs=ns.map PV.int∧Q (.bl (ns.any fun j=>j == i)) st
  | _,_=>False
 | .NotIn=>match x,y with
  | .int i,.tup xs=>∃ns:List Int,xs=ns.map PV.int∧Q (.bl (!(ns.any fun j=>j == i))) st
  | _,_=>False
noncomputable def ixI (i:Int) (st:AH) (Q:EK) (x:PV):Prop :=
 match x with
 | .str z=>z.length≤100000∧∃c,atI z.cps.toList i=some c∧Q (.str ⟨#[c]⟩) st
 | x=>∃xs,bi st x=some xs∧∃v,atI xs i=some v∧Q v st
theorem yF {i:Int} {st:AH} {Q:EK} {x:PV} (h:ixI i st Q x):(∃z c,x=.str z∧z.length≤100000∧atI z.cps.toList i=some c∧Q (.str ⟨#[c]⟩) st)∨∃xs v,bi st x=some xs∧atI xs i=some v∧Q v st:=by
 cases x with
 | str z=>exact .inl ⟨z,h.2.choose,rfl,h.1,h.2.choose_spec⟩
 | _=>obtain ⟨xs,e,v,e2,q⟩:=h;exact .inr ⟨xs,v,e,e2,q⟩
theorem D5 {i:Int} {st:AH} {Q:EK} {x:PV} {xs:List PV} {v:PV} (e:bi st x=some xs) (e2:atI xs i=some v) (h:Q v st):ixI i st Q x:=by
 cases x with|str z=>cases e|_=>exact ⟨xs,e,v,e2,h⟩
noncomputable def ixW (x y:PV) (st:AH) (Q:EK):Prop :=
 match y with
 | .int i=>ixI i st Q x
 | _=>False
noncomputable def D3 (z:Str) (lo hi:Option Int):Str:=if ((Builtin.Str.strSliceIndices lo hi 1 z.length).length == z.length)=true then z else ⟨((Builtin.Str.strSliceIndices lo hi 1 z.length).filterMap (z.cps[·]?)).toArray⟩
noncomputable def slW (x:PV) (lo hi:Option Int) (st:AH) (Q:EK):Prop :=
 match x with
 | .str z=>z.length≤100000∧Q (.str (D3 z lo hi)) st
 | .tup xs=>Q (.tup (mM xs lo hi)) st
 | x=>∃xs,bV st x=some xs∧Q (.ref st.length) (st++[.lst (mM xs lo hi)])
noncomputable def He (st:AH) (Q:EK) (x:PV):Prop :=
 match x with
 | .str z=>z.length≤100000∧Q (.int z.length) st
 | x=>∃xs,bi st x=some xs∧Q (.int xs.length) st
theorem wA {st:AH} {Q:EK} {x:PV} (h:He st Q x):(∃z,x=.str z∧z.length≤100000∧Q (.int z.length) st)∨∃xs,bi st x=some xs∧Q (.int xs.length) st:=by
 cases x with|str z=>exact .inl ⟨z,rfl,h⟩|_=>exact .inr h
theorem Bl {st:AH} {Q:EK} {x:PV} {xs:List PV} (e:bi st x=some xs) (h:Q (.int xs.length) st):He st Q x:=by
 cases x with|str z=>cases e|_=>exact ⟨xs,e,h⟩
inductive B where
 | len|max2|min2|divmod|int1|str1|tuple1|list1|all1|any1|abs1|sorted1|repr1
 deriving DecidableEq
noncomputable def iU:List PV→Option (List Bool)
 | []=>some []
 | .bl b::r=>(iU r).map (b::·)
 | _::_=>none
noncomputable def x9 (f:PV→Prop) (vs:List PV):Prop :=
 match vs with
 | [x]=>f x
 | _=>False
noncomputable def Er (f:PV→PV→Prop) (vs:List PV):Prop :=
 match vs with
 | [x,y]=>f x y
 | _=>False
noncomputable def inW (f:Int→Prop) (x:PV):Prop :=
 match x with
 | .int b=>f b
 | _=>False
noncomputable def fO (b:B) (vs:List PV) (st:AH) (Q:EK):Prop :=
 match b with
 | .len=>x9 (He st Q) vs
 | .max2=>Er (iiW fun i j=>Q (.int (if i<j then j else i)) st) vs
 | .min2=>Er (iiW fun i j=>Q (.int (if j<i then j else i)) st) vs
 | .divmod=>Er (iiW fun i j=>CBig j∧Q (.tup [.int (i/j),.int (i % j)]) st) vs
 | .int1=>False
 | .str1=>False
 | .tuple1=>x9 (fun x=>∃xs,bi st x=some xs∧Q (.tup xs) st) vs
 | .list1=>False
 | .all1=>x9 (fun x=>∃xs bs,bV st x=some xs∧iU xs=some bs∧Q (.bl (bs.all id)) st) vs
 | .any1=>False
 | .abs1=>x9 (inW fun i=>Q (.int i.natAbs) st) vs
 | .sorted1=>False
 | .repr1=>False
inductive M where
 | append|pop0|extend|insert|count
 deriving DecidableEq
noncomputable def rfW (f:Nat→Prop) (x:PV):Prop :=
 match x with
 | .ref n=>f n
 | _=>False
noncomputable def Fu (f:Prop) (vs:List PV):Prop :=
 match vs with
 | []=>f
 | _=>False
noncomputable def sL (m:M) (x:PV) (vs:List PV) (st:AH) (Q:EK):Prop :=
 match m with
 | .append=>rfW (fun n=>x9 (fun v=>∃xs,st[n]?=some (.lst xs)∧xs.length<100000∧Q .non (st.set n (.lst (xs++[v])))) vs) x
 | .pop0=>rfW (fun n=>Fu (∃xs v,st[n]?=some (.lst xs)∧xs[xs.length-1]?=some v∧Q v (st.set n (.lst xs.dropLast))) vs) x
 | .extend=>rfW (fun n=>x9 (rfW fun k=>∃xs ys,st[n]?=some (.lst xs)∧st[k]?=some (.lst ys)∧xs.length+ys.length≤100000∧Q .non (st.set n (.lst (xs++ys)))) vs) x
 | .insert=>False
 | .count=>False
theorem cz {f:Int→Int→Prop} {x y:PV} (h:iiW f x y):∃i j,x=.int i∧y=.int j∧f i j:=by
 cases x with
 | int i =>
  cases y with
  | int j=>exact ⟨i,j,rfl,rfl,h⟩
  | _=>exact False.elim h
 | _=>exact False.elim h
theorem ck {f:PV→Prop} {vs:List PV} (h:x9 f vs):∃x,vs=[x]∧f x:=by
 cases vs with
 | nil=>exact False.elim h
 | cons x t =>
  cases t with
  | nil=>exact ⟨x,rfl,h⟩
  | cons _ _=>exact False.elim h
theorem gh {f:PV→PV→Prop} {vs:List PV} (h:Er f vs):∃x y,vs=[x,y]∧f x y:=by
 cases vs with
 | nil=>exact False.elim h
 | cons x t =>
  cases t with
  | nil=>exact False.elim h
  | cons y t =>
   cases t with
   | nil=>exact ⟨x,y,rfl,h⟩
   | cons _ _=>exact False.elim h
theorem rC {f:Prop} {vs:List PV} (h:Fu f vs):vs=[]∧f:=by
 cases vs with
 | nil=>exact ⟨rfl,h⟩
 | cons x t=>exact False.elim h
theorem yY {f:Int→Prop} {x:PV} (h:inW f x):∃b,x=.int b∧f b:=by
 cases x with
 | int b=>exact ⟨b,rfl,h⟩
 | _=>exact False.elim h
theorem fz {f:Nat→Prop} {x:PV} (h:rfW f x):∃b,x=.ref b∧f b:=by
 cases x with
 | ref b=>exact ⟨b,rfl,h⟩
 | _=>exact False.elim h
noncomputable def fX (x:PV) (st:AH) (Q:BK):Prop :=
 match x with
 | .bl b=>Q b st
 | .non=>Q false st
 | .int i=>Q (i != 0) st
 | .str _=>False
 | x=>∃xs,bi st x=some xs∧Q (!xs.isEmpty) st
noncomputable def Sub (st st':AH):Prop:=∀i,i<st.length→st'[i]?=st[i]?∨∃c,st'[i]?=some c∧c.bel 0=true
noncomputable def Tmp (st:AH) (Q:EK):EK:=fun v st'=>∃st1 g,st'=st1++g∧st1.length=st.length∧Sub st st1∧v.bel st.length=true∧Q v st1
noncomputable def Ret (st:AH) (Q:EK):EK:=fun v st'=>Q v st'∨Tmp st Q v st'
mutual
inductive E where
 | var (i:Nat)|int (i:Int)|bl (b:Bool)|non|str (x:Str)|gv (x:Str) (v:PV)
 | tup (es:Es)|lst (es:Es)|dct0|dct1 (k:Str) (i:Int)
 | bin (op:Operator) (a b:E)|neg (a:E)|not (a:E)
 | cmp (op:CmpOp) (a b:E)
 | bop (isAnd:Bool) (es:Es)
 | ite (c a b:E)
 | ix (a b:E)|sl (a:E) (lo hi:O)
 | call (f:Nat) (es:Es)
 | blt (b:B) (es:Es)
 | inst (a:E) (t:String)
 | met (m:M) (o:E) (es:Es)
 | comp (elt:E) (tg:Tg) (it:It) (ifs:Es) (nt:List Str) (caps:List Nat)
 | tmp (a:E)
 | bad
 | jrev (a:E)|part (a:E) (y:Str)
 | pcall (i:Nat) (e:E)|hm (e be:E) (caps:List Nat)
inductive Es where
 | nil|cons (e:E) (es:Es)
inductive O where
 | no|yes (e:E)
inductive It where
 | seq (e:E)|range1 (a:E)|range2 (a b:E)|zip (a b:E)|enum (a:E)|chars (e:E)|range3 (a b c:E)|zip3 (a b c:E)
inductive Tg where
 | name (i:Nat)|tup (ts:Tgs)|ltup (ts:Tgs)|sub (o i:E)
inductive Tgs where
 | nil|cons (t:Tg) (ts:Tgs)
end
noncomputable def Tgs.size:Tgs→Nat
 | .nil=>0
 | .cons _ ts=>ts.size+1
noncomputable def uN (o i v:PV) (st:AH) (k:AH→Prop):Prop :=
 match o,i with
 | .ref n,.int j=>∃xs,st[n]?=some (.lst xs)∧∃q,ixN xs.length j=some q∧k (st.set n (.lst (xs.set q v)))
 | _,_=>False
noncomputable def e7 (chk:AH→Prop) (body:PV→AH→(Option PV→AH→Prop)→Prop):List PV→List PV→AH→LK→Prop
 | [],acc,st,Q=>chk st∧Q acc st
 | x::xs,acc,st,Q=>chk st∧body x st fun o st'=>e7 chk body xs (acc++o.toList) st' Q
noncomputable def cy (st:AH):PV→AH→Prop
 | .ref n=>fun st'=>st'[n]?=st[n]?
 | _=>fun _=>True
noncomputable def eP (lo:Int) (n:Nat):List PV:=(List.range n).map fun (i:Nat)=>PV.int (lo+(i:Int))
noncomputable def jn:List PV→List PV→List PV
 | x::xs,y::ys=>.tup [x,y]::jn xs ys
 | _,_=>[]
noncomputable def eQ:List PV→List PV→List PV→List PV
 | x::xs,y::ys,z::zs=>.tup [x,y,z]::eQ xs ys zs
 | _,_,_=>[]
noncomputable def iT:Int→List PV→List PV
 | _,[]=>[]
 | i,x::xs=>.tup [.int i,x]::iT (i+1) xs
noncomputable def FR (g:PV→Bool) (xs:List PV):Nat→Nat→Nat→Nat
 | 0,lo,_=>lo
 | n+1,lo,hi=>if lo<hi then (if g (xs.getD ((lo+hi)/2) .non)=true then FR g xs n ((lo+hi)/2+1) hi else FR g xs n lo ((lo+hi)/2)) else lo
noncomputable def bsr (g:PV→Bool) (xs:List PV):Nat:=FR g xs xs.length 0 xs.length
section
variable (Γ:Nat→FSp)
mutual
noncomputable def wpE:E→Fr→AH→EK→Prop
 | .var i,ρ,st,Q=>∃v,ρ[i]?=some (some v)∧Q v st
 | .int i,_,st,Q=>Q (.int i) st
 | .bl b,_,st,Q=>Q (.bl b) st
 | .non,_,st,Q=>Q .non st
 | .str x,_,st,Q=>Q (.str x) st
 | .gv _ v,_,st,Q=>Q v st
 | .tup es,ρ,st,Q=>dA es ρ st fun vs st1=>vs.length≤100000∧Q (.tup vs) st1
 | .lst es,ρ,st,Q=>dA es ρ st fun vs st1=>vs.length≤100000∧Q (.ref st1.length) (st1++[.lst vs])
 | .dct0,_,_,_=>False
 | .dct1 _ _,_,_,_=>False
 | .bin op a b,ρ,st,Q=>wpE a ρ st fun x st1=>wpE b ρ st1 fun y st2=>jj op x y st2 Q
 | .neg a,ρ,st,Q=>wpE a ρ st fun x st1=>∃i,x=.int i∧Q (.int (-i)) st1
 | .not a,ρ,st,Q=>wpE a ρ st fun x st1=>∃c,x=.bl c∧Q (.bl (!c)) st1
 | .cmp op a b,ρ,st,Q=>wpE a ρ st fun x st1=>wpE b ρ st1 fun y st2=>fu op x y st2 Q
 | .bop true es,ρ,st,Q=>s_ es ρ st Q
 | .bop false es,ρ,st,Q=>sm es ρ st Q
 | .ite c a b,ρ,st,Q=>wpT c ρ st fun k st1=>if k=true then wpE a ρ st1 Q else wpE b ρ st1 Q
 | .ix a b,ρ,st,Q=>wpE a ρ st fun x st1=>wpE b ρ st1 fun y st2=>ixW x y st2 Q
 | .sl a lo hi,ρ,st,Q=>wpE a ρ st fun x st1=>wpO lo ρ st1 fun l st2=>wpO hi ρ st2 fun h st3=>slW x l h st3 Q
 | .call f es,ρ,st,Q=>dA es ρ st fun vs st1=>Γ f vs st1 Q
 | .blt b es,ρ,st,Q=>dA es ρ st fun vs st1=>fO b vs st1 Q
 | .inst a t,ρ,st,Q=>wpE a ρ st fun x st1=>∃n,cZ st1 x=some n∧Q (.bl (dJ t n)) st1
 | .met m o es,ρ,st,Q=>wpE o ρ st fun x st1=>(∃xs,bV st1 x=some xs)∧dA es ρ st1 fun vs st2=>sL m x vs st2 Q
 | .comp elt tg it ifs nt caps,ρ,st,Q=>jk it ρ st fun xs chk st1 =>
   xs.length<100000∧e7 chk (fun x st2 k=>dP tg x (nt.map (fun _=>none)++caps.map fun i=>(ρ[i]?).join) st2 fun ρ' st3=>iJ ifs ρ' st3 fun c st4 =>
    if c=true then wpE elt ρ' st4 fun v st5=>k (some v) st5 else k none st4) xs [] st1 fun vs st2=>Q (.ref st2.length) (st2++[.lst vs])
 | .tmp a,ρ,st,Q=>wpE a ρ st (Tmp st Q)
 | .bad,_,_,_=>False
 | .jrev _,_,_,_=>False
 | .part _ _,_,_,_=>False
 | .pcall _ _,_,_,_=>False
 | .hm _ _ _,_,_,_=>False
noncomputable def dA:Es→Fr→AH→LK→Prop
 | .nil,_,st,Q=>Q [] st
 | .cons e es,ρ,st,Q=>wpE e ρ st fun x st1=>dA es ρ st1 fun xs st2=>Q (x::xs) st2
noncomputable def wpO:O→Fr→AH→(Option Int→AH→Prop)→Prop
 | .no,_,st,Q=>Q none st
 | .yes e,ρ,st,Q=>wpE e ρ st fun x st1=>∃i,x=.int i∧Q (some i) st1
noncomputable def wpT:E→Fr→AH→BK→Prop
 | .bop true es,ρ,st,Q=>iJ es ρ st Q
 | .bop false es,ρ,st,Q=>tJ es ρ st Q
 | .not a,ρ,st,Q=>wpT a ρ st fun c st1=>Q (!c) st1
 | .cmp op a b,ρ,st,Q=>wpE a ρ st fun x st1=>wpE b ρ st1 fun y st2=>fu op x y st2 fun v st3=>∃c,v=.bl c∧Q c st3
 | .var i,ρ,st,Q=>∃v,ρ[i]?=some (some v)∧fX v st Q
 | .call f es,ρ,st,Q=>dA es ρ st fun vs st1=>Γ f vs st1 fun v st2=>fX v st2 Q
 | .blt b es,ρ,st,Q=>dA es ρ st fun vs st1=>fO b vs st1 fun v st2=>fX v st2 Q
 | .inst a t,ρ,st,Q=>wpE a ρ st fun x st1=>∃n,cZ st1 x=some n∧Q (dJ t n) st1
 | .tmp a,ρ,st,Q=>wpE a ρ st (Tmp st fun v st1=>fX v st1 Q)
 | .ix a b,ρ,st,Q=>wpE a ρ st fun x st1=>wpE b ρ st1 fun y st2=>ixW x y st2 fun v st3=>fX v st3 Q
 | .pcall _ _,_,_,_=>False
 | _,_,_,_=>False
noncomputable def s_:Es→Fr→AH→EK→Prop
 | .nil,_,_,_=>False
 | .cons e .nil,ρ,st,Q=>wpE e ρ st Q
 | .cons e es,ρ,st,Q=>wpE e ρ st fun x st1=>∃c,x=.bl c∧if c=true then s_ es ρ st1 Q else Q (.bl false) st1
noncomputable def sm:Es→Fr→AH→EK→Prop
 | .nil,_,_,_=>False
 | .cons e .nil,ρ,st,Q=>wpE e ρ st Q
 | .cons e es,ρ,st,Q=>wpE e ρ st fun x st1=>∃c,x=.bl c∧if c=true then Q (.bl true) st1 else sm es ρ st1 Q
noncomputable def iJ:Es→Fr→AH→BK→Prop
 | .nil,_,st,Q=>Q true st
 | .cons e .nil,ρ,st,Q=>wpT e ρ st Q
 | .cons e es,ρ,st,Q=>wpT e ρ st fun c st1=>if c=true then iJ es ρ st1 Q else Q false st1
noncomputable def tJ:Es→Fr→AH→BK→Prop
 | .nil,_,st,Q=>Q false st
 | .cons e .nil,ρ,st,Q=>wpT e ρ st Q
 | .cons e es,ρ,st,Q=>wpT e ρ st fun c st1=>if c=true then Q true st1 else tJ es ρ st1 Q
noncomputable def jk:It→Fr→AH→(List PV→(AH→Prop)→AH→Prop)→Prop
 | .seq e,ρ,st,Q=>wpE e ρ st fun x st1=>∃xs,bi st1 x=some xs∧Q xs (cy st1 x) st1
 | .range1 a,ρ,st,Q=>wpE a ρ st fun x st1=>∃j,x=.int j∧-(2 ^ 62)≤j∧j<2 ^ 62∧Q (eP 0 j.toNat) (fun _=>True) st1
 | .range2 a b,ρ,st,Q=>wpE a ρ st fun x st1=>wpE b ρ st1 fun y st2=>∃i j,x=.int i∧y=.int j∧(-(2 ^ 62)≤i∧i<2 ^ 62∧-(2 ^ 62)≤j∧j<2 ^ 62)∧Q (eP i (j-i).toNat) (fun _=>True) st2
 | .zip a b,ρ,st,Q=>wpE a ρ st fun x st1=>wpE b ρ st1 fun y st2=>∃xs ys,bi st2 x=some xs∧bi st2 y=some ys∧Q (jn xs ys) (fun st'=>cy st2 x st'∧cy st2 y st') st2
 | .zip3 a b c,ρ,st,Q=>wpE a ρ st fun x st1=>wpE b ρ st1 fun y st2=>wpE c ρ st2 fun u st3=>∃xs ys zs,bi st3 x=some xs∧bi st3 y=some ys∧bi st3 u=some zs∧Q (eQ xs ys zs) (fun st'=>cy st3 x st'∧cy st3 y st'∧cy st3 u st') st3
 | .enum a,ρ,st,Q=>wpE a ρ st fun x st1=>∃xs,x=.tup xs∧Q (iT 0 xs) (fun _=>True) st1
 | .chars _,_,_,_=>False
 | .range3 _ _ _,_,_,_=>False
noncomputable def dP:Tg→PV→Fr→AH→(Fr→AH→Prop)→Prop
 | .name i,v,ρ,st,Q=>Q (ρ.set i (some v)) st
 | .tup ts,v,ρ,st,Q=>∃xs,v=.tup xs∧xs.length=ts.size∧gm ts xs ρ st Q
 | .ltup ts,v,ρ,st,Q=>∃xs,bV st v=some xs∧xs.length=ts.size∧gm ts xs ρ st Q
 | .sub o i,v,ρ,st,Q=>wpE o ρ st fun x st1=>wpE i ρ st1 fun y st2=>uN x y v st2 fun st3=>Q ρ st3
noncomputable def gm:Tgs→List PV→Fr→AH→(Fr→AH→Prop)→Prop
 | .nil,vs,ρ,st,Q=>vs=[]∧Q ρ st
 | .cons t ts,vs,ρ,st,Q=>∃v r,vs=v::r∧dP t v ρ st fun ρ' st'=>gm ts r ρ' st' Q
end
end
mutual
inductive S where
 | set (t:Tg) (e:E)|par (i j:Nat) (a b:E)|aug (i:Nat) (op:Operator) (e:E)|expr (e:E)|ret (e:E)|retN
 | ifS (c:E) (a b:Ss)|whileS (c:E) (b:Ss)|forS (t:Tg) (it:It) (b:Ss)|pass|brk|cont|bad|set2 (i j:Nat) (e:E)
inductive Ss where
 | nil|cons (s:S) (ss:Ss)
end
structure aV where
 nx:Fr→AH→Prop
 rt:EK
 bk:Fr→AH→Prop:=fun _ _=>False
 ct:Fr→AH→Prop:=fun _ _=>False
noncomputable def si (chk:AH→Prop) (body:PV→Fr→AH→aV→Prop) (D:aV):List PV→Fr→AH→Prop
 | [],ρ,st=>chk st∧D.nx ρ st
 | x::xs,ρ,st=>chk st∧body x ρ st { nx:=si chk body D xs,ct:=si chk body D xs,bk:=D.nx,rt:=D.rt }
noncomputable def fq (c:Fr→AH→BK→Prop) (body:Fr→AH→aV→Prop) (D:aV):Nat→Fr→AH→Prop
 | 0,_,_=>False
 | n+1,ρ,st=>c ρ st fun k st1=>if k=true then body ρ st1 { nx:=fq c body D n,ct:=fq c body D n,bk:=D.nx,rt:=D.rt } else D.nx ρ st1
noncomputable def qF (op:Operator) (x y:PV) (st:AH) (Q:EK):Prop :=
 match op,x,y with
 | .Add,.int i,.int j=>Q (.int (i+j)) st
 | .Sub,.int i,.int j=>Q (.int (i-j)) st
 | .Add,.ref n,.ref k=>∃xs ys,st[n]?=some (.lst xs)∧st[k]?=some (.lst ys)∧xs.length+ys.length≤100000∧Q (.ref n) (st.set n (.lst (xs++ys)))
 | _,_,_=>False
section
variable (Γ:Nat→FSp)
mutual
noncomputable def wpS:S→Fr→AH→aV→Prop
 | .set t e,ρ,st,D=>wpE Γ e ρ st fun v st1=>dP Γ t v ρ st1 D.nx
 | .par i j a b,ρ,st,D=>wpE Γ a ρ st fun x st1=>wpE Γ b ρ st1 fun y st2=>D.nx ((ρ.set i (some x)).set j (some y)) st2
 | .aug i op e,ρ,st,D=>∃x,ρ[i]?=some (some x)∧wpE Γ e ρ st fun y st1=>qF op x y st1 fun z st2=>D.nx (ρ.set i (some z)) st2
 | .expr e,ρ,st,D=>wpE Γ e ρ st fun _ st1=>D.nx ρ st1
 | .ret e,ρ,st,D=>wpE Γ e ρ st D.rt
 | .retN,_,st,D=>D.rt .non st
 | .ifS c a b,ρ,st,D=>wpT Γ c ρ st fun k st1=>if k=true then au a ρ st1 D else au b ρ st1 D
 | .whileS c b,ρ,st,D=>∃n,fq (wpT Γ c) (au b) D n ρ st
 | .forS t it b,ρ,st,D=>jk Γ it ρ st fun xs chk st1=>si chk (fun x ρ' st' D'=>dP Γ t x ρ' st' fun ρ2 st2=>au b ρ2 st2 D') D xs ρ st1
 | .pass,ρ,st,D=>D.nx ρ st
 | .brk,ρ,st,D=>D.bk ρ st
 | .cont,ρ,st,D=>D.ct ρ st
 | .bad,_,_,_=>False
 | .set2 i j e,ρ,st,D=>wpE Γ e ρ st fun v st1=>D.nx ((ρ.set i (some v)).set j (some v)) st1
noncomputable def au:Ss→Fr→AH→aV→Prop
 | .nil,ρ,st,D=>D.nx ρ st
 | .cons s ss,ρ,st,D=>wpS s ρ st { D with nx:=fun ρ' st'=>au ss ρ' st' D }
end
end
section
variable {Γ:Nat→FSp} {ρ:Fr} {st:AH} {Q:EK} {D:aV} {a b c:E} {es:Es}
theorem ow:au Γ .nil ρ st D=D.nx ρ st:=rfl
theorem nD {s:S}:au Γ (.cons s .nil) ρ st D=wpS Γ s ρ st D:=rfl
theorem rp {t:Tg}:wpS Γ (.set t a) ρ st D=wpE Γ a ρ st fun v st1=>dP Γ t v ρ st1 D.nx:=rfl
theorem u5 {i j:Nat}:wpS Γ (.par i j a b) ρ st D=wpE Γ a ρ st fun x st1=>wpE Γ b ρ st1 fun y st2=>D.nx ((ρ.set i (some x)).set j (some y)) st2:=rfl
theorem wc {i:Nat} {op:Operator}:wpS Γ (.aug i op a) ρ st D=∃x,ρ[i]?=some (some x)∧wpE Γ a ρ st fun y st1=>qF op x y st1 fun z st2=>D.nx (ρ.set i (some z)) st2:=rfl
theorem o9:wpS Γ (.expr a) ρ st D=wpE Γ a ρ st fun _ st1=>D.nx ρ st1:=rfl
theorem t4:wpS Γ (.ret a) ρ st D=wpE Γ a ρ st fun v st1=>D.rt v st1:=rfl
theorem oa:wpS Γ .retN ρ st D=D.rt .non st:=rfl
theorem Ag {x y:Ss}:wpS Γ (.ifS c x y) ρ st D=wpT Γ c ρ st fun k st1=>if k=true then au Γ x ρ st1 D else au Γ y ρ st1 D:=rfl
theorem pN:wpS Γ .pass ρ st D=D.nx ρ st:=rfl
theorem pK {i j:Nat}:wpS Γ (.set2 i j a) ρ st D=wpE Γ a ρ st fun v st1=>D.nx ((ρ.set i (some v)).set j (some v)) st1:=rfl
theorem wl:wpS Γ .brk ρ st D=D.bk ρ st:=rfl
theorem oQ:wpS Γ .cont ρ st D=D.ct ρ st:=rfl
theorem uv {i:Nat}:wpE Γ (.var i) ρ st Q=∃v,ρ[i]?=some (some v)∧Q v st:=rfl
theorem wF {i:Int}:wpE Γ (.int i) ρ st Q=Q (.int i) st:=rfl
theorem CW {i:Bool}:wpE Γ (.bl i) ρ st Q=Q (.bl i) st:=rfl
theorem vX:wpE Γ .non ρ st Q=Q .non st:=rfl
theorem tN {i:Str}:wpE Γ (.str i) ρ st Q=Q (.str i) st:=rfl
theorem Dh {x:Str} {v:PV}:wpE Γ (.gv x v) ρ st Q=Q v st:=rfl
theorem uf:wpE Γ (.tup es) ρ st Q=dA Γ es ρ st fun vs st1=>vs.length≤100000∧Q (.tup vs) st1:=rfl
theorem uR:wpE Γ (.lst es) ρ st Q=dA Γ es ρ st fun vs st1=>vs.length≤100000∧Q (.ref st1.length) (st1++[.lst vs]):=rfl
theorem vA {op:Operator}:wpE Γ (.bin op a b) ρ st Q=wpE Γ a ρ st fun x st1=>wpE Γ b ρ st1 fun y st2=>jj op x y st2 Q:=rfl
theorem t8:wpE Γ (.neg a) ρ st Q=wpE Γ a ρ st fun x st1=>∃i,x=.int i∧Q (.int (-i)) st1:=rfl
theorem wp:wpE Γ (.not a) ρ st Q=wpE Γ a ρ st fun x st1=>∃c,x=.bl c∧Q (.bl (!c)) st1:=rfl
theorem vn {op:CmpOp}:wpE Γ (.cmp op a b) ρ st Q=wpE Γ a ρ st fun x st1=>wpE Γ b ρ st1 fun y st2=>fu op x y st2 Q:=rfl
theorem vT:wpE Γ (.bop true es) ρ st Q=s_ Γ es ρ st Q:=rfl
theorem Dp:wpE Γ (.bop false es) ρ st Q=sm Γ es ρ st Q:=rfl
theorem wE:wpE Γ (.ite c a b) ρ st Q=wpT Γ c ρ st fun k st1=>if k=true then wpE Γ a ρ st1 Q else wpE Γ b ρ st1 Q:=rfl
theorem Do:wpE Γ (.ix a b) ρ st Q=wpE Γ a ρ st fun x st1=>wpE Γ b ρ st1 fun y st2=>ixW x y st2 Q:=rfl
theorem Bq {lo hi:O}:wpE Γ (.sl a lo hi) ρ st Q=wpE Γ a ρ st fun x st1=>wpO Γ lo ρ st1 fun l st2=>wpO Γ hi ρ st2 fun h st3=>slW x l h st3 Q:=rfl
theorem oi {f:Nat}:wpE Γ (.call f es) ρ st Q=dA Γ es ρ st fun vs st1=>Γ f vs st1 Q:=rfl
theorem uL {f:B}:wpE Γ (.blt f es) ρ st Q=dA Γ es ρ st fun vs st1=>fO f vs st1 Q:=rfl
theorem nr {t:String}:wpE Γ (.inst a t) ρ st Q=wpE Γ a ρ st fun x st1=>∃n,cZ st1 x=some n∧Q (.bl (dJ t n)) st1:=rfl
theorem uS {m:M}:wpE Γ (.met m a es) ρ st Q=wpE Γ a ρ st fun x st1=>(∃xs,bV st1 x=some xs)∧dA Γ es ρ st1 fun vs st2=>sL m x vs st2 Q:=rfl
theorem vy:wpE Γ (.tmp a) ρ st Q=wpE Γ a ρ st fun v st1=>Tmp st Q v st1:=rfl
variable {LQ:LK} {BQ:BK} {e e2:E} {i:Nat} {v:PV} {FQ:Fr→AH→Prop} {IQ:List PV→(AH→Prop)→AH→Prop}
theorem pG:dA Γ .nil ρ st LQ=LQ [] st:=rfl
theorem jZ:dA Γ (.cons e es) ρ st LQ=wpE Γ e ρ st fun x st1=>dA Γ es ρ st1 fun xs st2=>LQ (x::xs) st2:=rfl
theorem Cy {OQ:Option Int→AH→Prop}:wpO Γ .no ρ st OQ=OQ none st:=rfl
theorem v5 {OQ:Option Int→AH→Prop}:wpO Γ (.yes e) ρ st OQ=wpE Γ e ρ st fun x st1=>∃i,x=.int i∧OQ (some i) st1:=rfl
theorem vO:wpT Γ (.bop true es) ρ st BQ=iJ Γ es ρ st BQ:=rfl
theorem By:wpT Γ (.bop false es) ρ st BQ=tJ Γ es ρ st BQ:=rfl
theorem t5:wpT Γ (.not a) ρ st BQ=wpT Γ a ρ st fun c st1=>BQ (!c) st1:=rfl
theorem uF {op:CmpOp}:wpT Γ (.cmp op a b) ρ st BQ=wpE Γ a ρ st fun x st1=>wpE Γ b ρ st1 fun y st2=>fu op x y st2 fun v st3=>∃c,v=.bl c∧BQ c st3:=rfl
theorem tM:wpT Γ (.var i) ρ st BQ=∃v,ρ[i]?=some (some v)∧fX v st BQ:=rfl
theorem ou {f:Nat}:wpT Γ (.call f es) ρ st BQ=dA Γ es ρ st fun vs st1=>Γ f vs st1 fun v st2=>fX v st2 BQ:=rfl
theorem vf {f:B}:wpT Γ (.blt f es) ρ st BQ=dA Γ es ρ st fun vs st1=>fO f vs st1 fun v st2=>fX v st2 BQ:=rfl
theorem oT {t:String}:wpT Γ (.inst a t) ρ st BQ=wpE Γ a ρ st fun x st1=>∃n,cZ st1 x=some n∧BQ (dJ t n) st1:=rfl
theorem uY:wpT Γ (.tmp a) ρ st BQ=wpE Γ a ρ st fun v st1=>Tmp st (fun v st1=>fX v st1 BQ) v st1:=rfl
theorem Bt:wpT Γ (.ix a b) ρ st BQ=wpE Γ a ρ st fun x st1=>wpE Γ b ρ st1 fun y st2=>ixW x y st2 fun v st3=>fX v st3 BQ:=rfl
theorem nq:s_ Γ (.cons e .nil) ρ st Q=wpE Γ e ρ st Q:=rfl
theorem kR:s_ Γ (.cons e (.cons e2 es)) ρ st Q=wpE Γ e ρ st fun x st1=>∃c,x=.bl c∧if c=true then s_ Γ (.cons e2 es) ρ st1 Q else Q (.bl false) st1:=rfl
theorem pA:sm Γ (.cons e .nil) ρ st Q=wpE Γ e ρ st Q:=rfl
theorem kl:sm Γ (.cons e (.cons e2 es)) ρ st Q=wpE Γ e ρ st fun x st1=>∃c,x=.bl c∧if c=true then Q (.bl true) st1 else sm Γ (.cons e2 es) ρ st1 Q:=rfl
theorem lw:iJ Γ .nil ρ st BQ=BQ true st:=rfl
theorem n8:iJ Γ (.cons e .nil) ρ st BQ=wpT Γ e ρ st BQ:=rfl
theorem j0:iJ Γ (.cons e (.cons e2 es)) ρ st BQ=wpT Γ e ρ st fun c st1=>if c=true then iJ Γ (.cons e2 es) ρ st1 BQ else BQ false st1:=rfl
theorem n_:tJ Γ (.cons e .nil) ρ st BQ=wpT Γ e ρ st BQ:=rfl
theorem ko:tJ Γ (.cons e (.cons e2 es)) ρ st BQ=wpT Γ e ρ st fun c st1=>if c=true then BQ true st1 else tJ Γ (.cons e2 es) ρ st1 BQ:=rfl
theorem om:jk Γ (.seq e) ρ st IQ=wpE Γ e ρ st fun x st1=>∃xs,bi st1 x=some xs∧IQ xs (cy st1 x) st1:=rfl
theorem vC:jk Γ (.range1 a) ρ st IQ=wpE Γ a ρ st fun x st1=>∃j,x=.int j∧-(2 ^ 62)≤j∧j<2 ^ 62∧IQ (eP 0 j.toNat) (fun _=>True) st1:=rfl
theorem ug:jk Γ (.range2 a b) ρ st IQ=wpE Γ a ρ st fun x st1=>wpE Γ b ρ st1 fun y st2=>∃i j,x=.int i∧y=.int j∧(-(2 ^ 62)≤i∧i<2 ^ 62∧-(2 ^ 62)≤j∧j<2 ^ 62)∧IQ (eP i (j-i).toNat) (fun _=>True) st2:=rfl
theorem o6:jk Γ (.zip a b) ρ st IQ=wpE Γ a ρ st fun x st1=>wpE Γ b ρ st1 fun y st2=>∃xs ys,bi st2 x=some xs∧bi st2 y=some ys∧IQ (jn xs ys) (fun st'=>cy st2 x st'∧cy st2 y st') st2:=rfl
theorem kF:jk Γ (.zip3 a b c) ρ st IQ=wpE Γ a ρ st fun x st1=>wpE Γ b ρ st1 fun y st2=>wpE Γ c ρ st2 fun u st3=>∃xs ys zs,bi st3 x=some xs∧bi st3 y=some ys∧bi st3 u=some zs∧IQ (eQ xs ys zs) (fun st'=>cy st3 x st'∧cy st3 y st'∧cy st3 u st') st3:=rfl
theorem jY:jk Γ (.enum a) ρ st IQ=wpE Γ a ρ st fun x st1=>∃xs,x=.tup xs∧IQ (iT 0 xs) (fun _=>True) st1:=rfl
theorem eR:dP Γ (.name i) v ρ st FQ=FQ (ρ.set i (some v)) st:=rfl
theorem iW {ts:Tgs}:dP Γ (.tup ts) v ρ st FQ=∃xs,v=.tup xs∧xs.length=ts.size∧gm Γ ts xs ρ st FQ:=rfl
theorem fA {ts:Tgs}:dP Γ (.ltup ts) v ρ st FQ=∃xs,bV st v=some xs∧xs.length=ts.size∧gm Γ ts xs ρ st FQ:=rfl
theorem ic:dP Γ (.sub a b) v ρ st FQ=wpE Γ a ρ st fun x st1=>wpE Γ b ρ st1 fun y st2=>uN x y v st2 fun st3=>FQ ρ st3:=rfl
theorem kZ {vs:List PV}:gm Γ .nil vs ρ st FQ=(vs=[]∧FQ ρ st):=rfl
theorem ii {t:Tg} {ts:Tgs} {vs:List PV}:gm Γ (.cons t ts) vs ρ st FQ=∃v r,vs=v::r∧dP Γ t v ρ st fun ρ' st'=>gm Γ ts r ρ' st' FQ:=rfl
theorem nP:Tgs.size .nil=0:=id rfl
theorem kD {t:Tg} {ts:Tgs}:Tgs.size (.cons t ts)=ts.size+1:=id rfl
end
end FW
set_option Elab.async false
set_option linter.all false
set_option maxRecDepth 100000
namespace FW
open PySem L2 HX
theorem vG {st:AH} {x y:PV} {k k':Bool→Prop} (h:∀b,k b→k' b) (q:eqW st x y k):eqW st x y k':=by
 unfold eqW at q ⊢
 split at q
 ·exact h _ q
 ·exact h _ q
 ·exact h _ q
 ·obtain ⟨d,e,h1,h2,h3,h4,q⟩:=q
  exact ⟨d,e,h1,h2,h3,h4,h _ q⟩
theorem qQ {op:Operator} {x y:PV} {st:AH} {Q Q':EK} (h:∀v st,Q v st→Q' v st) (q:jj op x y st Q):jj op x y st Q':=by
 cases op with
 | Add =>
  cases x with
  | int i =>
   cases y with
   | int j=>exact h _ _ q
   | _=>exact False.elim q
  | ref n =>
   cases y with
   | ref k=>obtain ⟨xs,ys,h1,h2,h3,q⟩:=q;exact ⟨xs,ys,h1,h2,h3,h _ _ q⟩
   | _=>exact False.elim q
  | tup xs =>
   cases y with
   | tup ys=>exact ⟨q.1,h _ _ q.2⟩
   | _=>exact False.elim q
  | str a =>
   cases y with
   | str b=>exact ⟨q.1,h _ _ q.2⟩
   | _=>exact False.elim q
  | _=>exact False.elim q
 | Mult =>
  cases x with
  | int i =>
   cases y with
   | int j=>exact ⟨q.1,h _ _ q.2⟩
   | _=>exact False.elim q
  | ref n =>
   cases y with
   | int k=>obtain ⟨xs,h1,h2,h3,h4,q⟩:=q;exact ⟨xs,h1,h2,h3,h4,h _ _ q⟩
   | _=>exact False.elim q
  | _=>exact False.elim q
 | Sub=>obtain ⟨i,j,rfl,rfl,q⟩:=cz q;exact h _ _ q
 | FloorDiv=>obtain ⟨i,j,rfl,rfl,q⟩:=cz q;exact ⟨q.1,h _ _ q.2⟩
 | Mod=>obtain ⟨i,j,rfl,rfl,q⟩:=cz q;exact ⟨q.1,h _ _ q.2⟩
 | Pow=>obtain ⟨i,j,rfl,rfl,q⟩:=cz q;exact ⟨q.1,h _ _ q.2⟩
 | _=>exact False.elim q
theorem i5 {op:CmpOp} {x y:PV} {st:AH} {Q Q':EK} (h:∀v st,Q v st→Q' v st) (q:fu op x y st Q):fu op x y st Q':=by
 unfold fu at q ⊢
 split at q
 ·exact vG (fun _=>h _ _) q
 ·exact vG (fun _=>h _ _) q
 ·split at q <;> first|exact h _ _ q|exact q
 ·split at q <;> first|exact h _ _ q|exact q
 ·split at q <;> first|exact h _ _ q|exact q
 ·split at q <;> first|exact h _ _ q|exact q
 ·split at q <;> first|exact h _ _ q|exact q
 ·split at q <;> first|exact h _ _ q|exact q
 ·split at q <;> first|exact h _ _ q|(obtain ⟨ns,e,q⟩:=q;exact ⟨ns,e,h _ _ q⟩)|exact q
 ·split at q <;> first|(obtain ⟨ns,e,q⟩:=q;exact ⟨ns,e,h _ _ q⟩)|exact q
theorem kh {x y:PV} {st:AH} {Q Q':EK} (h:∀v st,Q v st→Q' v st) (q:ixW x y st Q):ixW x y st Q':=by
 cases y with
 | int i =>
  rcases yF q with ⟨z,c,rfl,h1,h2,q⟩|⟨xs,v,h1,h2,q⟩
  ·exact ⟨h1,c,h2,h _ _ q⟩
  ·exact D5 h1 h2 (h _ _ q)
 | _=>exact q
theorem v6 {x:PV} {lo hi:Option Int} {st:AH} {Q Q':EK} (h:∀v st,Q v st→Q' v st) (q:slW x lo hi st Q):slW x lo hi st Q':=by
 cases x with
 | tup xs=>exact h _ _ q
 | str z=>exact ⟨q.1,h _ _ q.2⟩
 | _=>obtain ⟨xs,e,q⟩:=q;exact ⟨xs,e,h _ _ q⟩
theorem ja {b:B} {vs:List PV} {st:AH} {Q Q':EK} (h:∀v st,Q v st→Q' v st) (q:fO b vs st Q):fO b vs st Q':=by
 cases b with
 | len =>
  obtain ⟨x,rfl,q⟩:=ck q
  rcases wA q with ⟨z,rfl,h1,q⟩|⟨xs,e,q⟩
  ·exact ⟨h1,h _ _ q⟩
  ·exact Bl e (h _ _ q)
 | max2=>obtain ⟨x,y,rfl,q⟩:=gh q;obtain ⟨i,j,rfl,rfl,q⟩:=cz q;exact h _ _ q
 | min2=>obtain ⟨x,y,rfl,q⟩:=gh q;obtain ⟨i,j,rfl,rfl,q⟩:=cz q;exact h _ _ q
 | divmod=>obtain ⟨x,y,rfl,q⟩:=gh q;obtain ⟨i,j,rfl,rfl,q⟩:=cz q;exact ⟨q.1,h _ _ q.2⟩
 | int1=>exact False.elim q
 | str1=>exact False.elim q
 | tuple1=>obtain ⟨x,rfl,xs,h1,q⟩:=ck q;exact ⟨xs,h1,h _ _ q⟩
 | list1=>exact False.elim q
 | all1=>obtain ⟨x,rfl,xs,bs,h1,h2,q⟩:=ck q;exact ⟨xs,bs,h1,h2,h _ _ q⟩
 | any1=>exact False.elim q
 | abs1=>obtain ⟨x,rfl,q⟩:=ck q;obtain ⟨i,rfl,q⟩:=yY q;exact h _ _ q
 | sorted1=>exact False.elim q
 | repr1=>exact False.elim q
theorem i7 {m:M} {x:PV} {vs:List PV} {st:AH} {Q Q':EK} (h:∀v st,Q v st→Q' v st) (q:sL m x vs st Q):sL m x vs st Q':=by
 cases m with
 | append=>obtain ⟨n,rfl,q⟩:=fz q;obtain ⟨v,rfl,xs,h1,h2,q⟩:=ck q;exact ⟨xs,h1,h2,h _ _ q⟩
 | pop0=>obtain ⟨n,rfl,q⟩:=fz q;obtain ⟨rfl,xs,v,h1,h2,q⟩:=rC q;exact ⟨xs,v,h1,h2,h _ _ q⟩
 | extend=>obtain ⟨n,rfl,q⟩:=fz q;obtain ⟨v,rfl,q⟩:=ck q;obtain ⟨k,rfl,xs,ys,h1,h2,h3,q⟩:=fz q;exact ⟨xs,ys,h1,h2,h3,h _ _ q⟩
 | insert=>exact False.elim q
 | count=>exact False.elim q
theorem cu {x:PV} {st:AH} {Q Q':BK} (h:∀v st,Q v st→Q' v st) (q:fX x st Q):fX x st Q':=by
 unfold fX at q ⊢
 split at q <;> first
  | exact h _ _ q
  | exact q.elim
  | (obtain ⟨xs,h1,q⟩:=q;exact ⟨xs,h1,h _ _ q⟩)
theorem qR {o i v:PV} {st:AH} {k k':AH→Prop} (h:∀st,k st→k' st) (q:uN o i v st k):uN o i v st k':=by
 unfold uN at q ⊢
 split at q
 ·obtain ⟨xs,h1,j,h2,q⟩:=q
  exact ⟨xs,h1,j,h2,h _ q⟩
 ·exact q
theorem ud {st0:AH} {Q Q':EK} (h:∀v st,Q v st→Q' v st) {v:PV} {st:AH} (q:Tmp st0 Q v st):Tmp st0 Q' v st:=by
 obtain ⟨st1,g,h1,h2,h3,h4,q⟩:=q
 exact ⟨st1,g,h1,h2,h3,h4,h _ _ q⟩
theorem gZ {chk:AH→Prop} {body body':PV→AH→(Option PV→AH→Prop)→Prop} (hb:∀x st k k',(∀o st,k o st→k' o st)→body x st k→body' x st k') :
  ∀ {xs acc:List PV} {st:AH} {Q Q':LK},(∀v st,Q v st→Q' v st)→e7 chk body xs acc st Q→e7 chk body' xs acc st Q'
 | [],acc,st,Q,Q',h,q=>⟨q.1,h _ _ q.2⟩
 | x::xs,acc,st,Q,Q',h,q=>⟨q.1,hb _ _ _ _ (fun o st' z=>gZ hb h z) q.2⟩
section
variable {Γ:Nat→FSp}
noncomputable def b8 (Γ:Nat→FSp):Prop:=∀f vs st Q Q',(∀v st,Q v st→Q' v st)→Γ f vs st Q→Γ f vs st Q'
mutual
theorem ab (G:b8 Γ):∀(e:E) {ρ:Fr} {st:AH} {Q Q':EK},(∀v st,Q v st→Q' v st)→wpE Γ e ρ st Q→wpE Γ e ρ st Q'
 | .var i,ρ,st,Q,Q',h,q=>by
  skip
  obtain ⟨v,h1,q⟩:=q
  exact ⟨v,h1,h _ _ q⟩
 | .int i,ρ,st,Q,Q',h,q=>by exact h _ _ q
 | .bl i,ρ,st,Q,Q',h,q=>by exact h _ _ q
 | .non,ρ,st,Q,Q',h,q=>by exact h _ _ q
 | .str i,ρ,st,Q,Q',h,q=>by exact h _ _ q
 | .gv _ i,ρ,st,Q,Q',h,q=>by exact h _ _ q
 | .tup es,ρ,st,Q,Q',h,q=>by exact aM G es (fun vs st1 z=>⟨z.1,h _ _ z.2⟩) q
 | .lst es,ρ,st,Q,Q',h,q=>by exact aM G es (fun vs st1 z=>⟨z.1,h _ _ z.2⟩) q
 | .dct0,ρ,st,Q,Q',h,q=>False.elim q
 | .bad,ρ,st,Q,Q',h,q=>False.elim q
 | .jrev _,ρ,st,Q,Q',h,q=>False.elim q
 | .part _ _,ρ,st,Q,Q',h,q=>False.elim q
 | .pcall _ _,ρ,st,Q,Q',h,q=>False.elim q
 | .hm _ _ _,ρ,st,Q,Q',h,q=>False.elim q
 | .dct1 _ _,ρ,st,Q,Q',h,q=>False.elim q
 | .bin op a b,ρ,st,Q,Q',h,q=>by exact ab G a (fun x st1 z=>ab G b (fun y st2 z=>qQ h z) z) q
 | .neg a,ρ,st,Q,Q',h,q=>by
  skip
  refine ab G a (fun x st1 z=>?_) q
  obtain ⟨i,e,z⟩:=z
  exact ⟨i,e,h _ _ z⟩
 | .not a,ρ,st,Q,Q',h,q=>by
  skip
  refine ab G a (fun x st1 z=>?_) q
  obtain ⟨i,e,z⟩:=z
  exact ⟨i,e,h _ _ z⟩
 | .cmp op a b,ρ,st,Q,Q',h,q=>by exact ab G a (fun x st1 z=>ab G b (fun y st2 z=>i5 h z) z) q
 | .bop true es,ρ,st,Q,Q',h,q=>by exact lO G es h q
 | .bop false es,ρ,st,Q,Q',h,q=>by exact lg G es h q
 | .ite c a b,ρ,st,Q,Q',h,q=>by
  skip
  refine aQ G c (fun k st1 z=>?_) q
  cases k with
  | true=>rw [if_pos rfl] at z ⊢;exact ab G a h z
  | false=>rw [if_neg Bool.false_ne_true] at z ⊢;exact ab G b h z
 | .ix a b,ρ,st,Q,Q',h,q=>by exact ab G a (fun x st1 z=>ab G b (fun y st2 z=>kh h z) z) q
 | .sl a lo hi,ρ,st,Q,Q',h,q=>by exact ab G a (fun x st1 z=>kN G lo (fun l st2 z=>kN G hi (fun u st3 z=>v6 h z) z) z) q
 | .call f es,ρ,st,Q,Q',h,q=>by exact aM G es (fun vs st1 z=>G _ _ _ _ _ h z) q
 | .blt b es,ρ,st,Q,Q',h,q=>by exact aM G es (fun vs st1 z=>ja h z) q
 | .inst a t,ρ,st,Q,Q',h,q=>by
  skip
  refine ab G a (fun x st1 z=>?_) q
  obtain ⟨i,e,z⟩:=z
  exact ⟨i,e,h _ _ z⟩
 | .met m o es,ρ,st,Q,Q',h,q=>by exact ab G o (fun x st1 z=>⟨z.1,aM G es (fun vs st2 z=>i7 h z) z.2⟩) q
 | .comp elt tg it ifs nt caps,ρ,st,Q,Q',h,q=>by
  skip
  exact gu G it (fun xs chk st1 z=>⟨z.1,gZ (fun x st k k' hk w=>bv G tg (fun ρ' st3 w=>cY G ifs (fun c st4 w=>by
   cases c with
   | true=>rw [if_pos rfl] at w ⊢;exact ab G elt (fun v st5 w=>hk _ _ w) w
   | false=>rw [if_neg Bool.false_ne_true] at w ⊢;exact hk _ _ w) w) w) (fun vs st2 w=>h _ _ w) z.2⟩) q
 | .tmp a,ρ,st,Q,Q',h,q=>by exact ab G a (fun v st1 z=>ud h z) q
theorem aM (G:b8 Γ):∀(e:Es) {ρ:Fr} {st:AH} {Q Q':LK},(∀v st,Q v st→Q' v st)→dA Γ e ρ st Q→dA Γ e ρ st Q'
 | .nil,ρ,st,Q,Q',h,q=>by exact h _ _ q
 | .cons e es,ρ,st,Q,Q',h,q=>by exact ab G e (fun x st1 z=>aM G es (fun xs st2 z=>h _ _ z) z) q
theorem kN (G:b8 Γ):∀(e:O) {ρ:Fr} {st:AH} {Q Q':Option Int→AH→Prop},(∀v st,Q v st→Q' v st)→wpO Γ e ρ st Q→wpO Γ e ρ st Q'
 | .no,ρ,st,Q,Q',h,q=>by exact h _ _ q
 | .yes e,ρ,st,Q,Q',h,q=>by
  skip
  refine ab G e (fun x st1 z=>?_) q
  obtain ⟨i,e,z⟩:=z
  exact ⟨i,e,h _ _ z⟩
theorem aQ (G:b8 Γ):∀(e:E) {ρ:Fr} {st:AH} {Q Q':BK},(∀v st,Q v st→Q' v st)→wpT Γ e ρ st Q→wpT Γ e ρ st Q'
 | .bop true es,ρ,st,Q,Q',h,q=>by exact cY G es h q
 | .bop false es,ρ,st,Q,Q',h,q=>by exact lF G es h q
 | .not a,ρ,st,Q,Q',h,q=>by exact aQ G a (fun c st1 z=>h _ _ z) q
 | .cmp op a b,ρ,st,Q,Q',h,q=>by
  skip
  exact ab G a (fun x st1 z=>ab G b (fun y st2 z=>i5 (fun v st3 w=>by obtain ⟨c,e,w⟩:=w;exact ⟨c,e,h _ _ w⟩) z) z) q
 | .var i,ρ,st,Q,Q',h,q=>by
  skip
  obtain ⟨v,h1,q⟩:=q
  exact ⟨v,h1,cu h q⟩
 | .call f es,ρ,st,Q,Q',h,q=>by exact aM G es (fun vs st1 z=>G _ _ _ _ _ (fun v st2 z=>cu h z) z) q
 | .blt b es,ρ,st,Q,Q',h,q=>by exact aM G es (fun vs st1 z=>ja (fun v st2 z=>cu h z) z) q
 | .inst a t,ρ,st,Q,Q',h,q=>by
  skip
  refine ab G a (fun x st1 z=>?_) q
  obtain ⟨i,e,z⟩:=z
  exact ⟨i,e,h _ _ z⟩
 | .tmp a,ρ,st,Q,Q',h,q=>by exact ab G a (fun v st1 z=>ud (fun v st2 z=>cu h z) z) q
 | .ix a b,ρ,st,Q,Q',h,q=>by exact ab G a (fun x st1 z=>ab G b (fun y st2 z=>kh (fun v st3 z=>cu h z) z) z) q
 | .pcall _ _,ρ,st,Q,Q',h,q=>False.elim q
 | .hm _ _ _,ρ,st,Q,Q',h,q=>False.elim q
 | .int _,ρ,st,Q,Q',h,q=>False.elim q
 | .bl _,ρ,st,Q,Q',h,q=>False.elim q
 | .non,ρ,st,Q,Q',h,q=>False.elim q
 | .str _,ρ,st,Q,Q',h,q=>False.elim q
 | .gv _ _,ρ,st,Q,Q',h,q=>False.elim q
 | .tup _,ρ,st,Q,Q',h,q=>False.elim q
 | .lst _,ρ,st,Q,Q',h,q=>False.elim q
 | .dct0,ρ,st,Q,Q',h,q=>False.elim q
 | .bad,ρ,st,Q,Q',h,q=>False.elim q
 | .jrev _,ρ,st,Q,Q',h,q=>False.elim q
 | .part _ _,ρ,st,Q,Q',h,q=>False.elim q
 | .dct1 _ _,ρ,st,Q,Q',h,q=>False.elim q
 | .bin _ _ _,ρ,st,Q,Q',h,q=>False.elim q
 | .neg _,ρ,st,Q,Q',h,q=>False.elim q
 | .ite _ _ _,ρ,st,Q,Q',h,q=>False.elim q
 | .sl _ _ _,ρ,st,Q,Q',h,q=>False.elim q
 | .met _ _ _,ρ,st,Q,Q',h,q=>False.elim q
 | .comp _ _ _ _ _ _,ρ,st,Q,Q',h,q=>False.elim q
theorem lO (G:b8 Γ):∀(e:Es) {ρ:Fr} {st:AH} {Q Q':EK},(∀v st,Q v st→Q' v st)→s_ Γ e ρ st Q→s_ Γ e ρ st Q'
 | .nil,ρ,st,Q,Q',h,q=>False.elim q
 | .cons e .nil,ρ,st,Q,Q',h,q=>by exact ab G e h q
 | .cons e (.cons e2 es),ρ,st,Q,Q',h,q=>by
  skip
  refine ab G e (fun x st1 z=>?_) q
  obtain ⟨c,e,z⟩:=z
  refine ⟨c,e,?_⟩
  cases c with
  | true=>rw [if_pos rfl] at z ⊢;exact lO G (.cons e2 es) h z
  | false=>rw [if_neg Bool.false_ne_true] at z ⊢;exact h _ _ z
theorem lg (G:b8 Γ):∀(e:Es) {ρ:Fr} {st:AH} {Q Q':EK},(∀v st,Q v st→Q' v st)→sm Γ e ρ st Q→sm Γ e ρ st Q'
 | .nil,ρ,st,Q,Q',h,q=>False.elim q
 | .cons e .nil,ρ,st,Q,Q',h,q=>by exact ab G e h q
 | .cons e (.cons e2 es),ρ,st,Q,Q',h,q=>by
  skip
  refine ab G e (fun x st1 z=>?_) q
  obtain ⟨c,e,z⟩:=z
  refine ⟨c,e,?_⟩
  cases c with
  | true=>rw [if_pos rfl] at z ⊢;exact h _ _ z
  | false=>rw [if_neg Bool.false_ne_true] at z ⊢;exact lg G (.cons e2 es) h z
theorem cY (G:b8 Γ):∀(e:Es) {ρ:Fr} {st:AH} {Q Q':BK},(∀v st,Q v st→Q' v st)→iJ Γ e ρ st Q→iJ Γ e ρ st Q'
 | .nil,ρ,st,Q,Q',h,q=>by exact h _ _ q
 | .cons e .nil,ρ,st,Q,Q',h,q=>by exact aQ G e h q
 | .cons e (.cons e2 es),ρ,st,Q,Q',h,q=>by
  skip
  refine aQ G e (fun c st1 z=>?_) q
  cases c with
  | true=>rw [if_pos rfl] at z ⊢;exact cY G (.cons e2 es) h z
  | false=>rw [if_neg Bool.false_ne_true] at z ⊢;exact h _ _ z
theorem lF (G:b8 Γ):∀(e:Es) {ρ:Fr} {st:AH} {Q Q':BK},(∀v st,Q v st→Q' v st)→tJ Γ e ρ st Q→tJ Γ e ρ st Q'
 | .nil,ρ,st,Q,Q',h,q=>by exact h _ _ q
 | .cons e .nil,ρ,st,Q,Q',h,q=>by exact aQ G e h q
 | .cons e (.cons e2 es),ρ,st,Q,Q',h,q=>by
  skip
  refine aQ G e (fun c st1 z=>?_) q
  cases c with
  | true=>rw [if_pos rfl] at z ⊢;exact h _ _ z
  | false=>rw [if_neg Bool.false_ne_true] at z ⊢;exact lF G (.cons e2 es) h z
theorem gu (G:b8 Γ):∀(e:It) {ρ:Fr} {st:AH} {Q Q':List PV→(AH→Prop)→AH→Prop},(∀v c st,Q v c st→Q' v c st)→jk Γ e ρ st Q→jk Γ e ρ st Q'
 | .seq a,ρ,st,Q,Q',h,q=>by
  skip
  refine ab G a (fun x st1 z=>?_) q
  obtain ⟨c,e,z⟩:=z
  exact ⟨c,e,h _ _ _ z⟩
 | .range1 a,ρ,st,Q,Q',h,q=>by
  skip
  refine ab G a (fun x st1 z=>?_) q
  obtain ⟨c,e,h1,h2,z⟩:=z
  exact ⟨c,e,h1,h2,h _ _ _ z⟩
 | .range2 a b,ρ,st,Q,Q',h,q=>by
  skip
  refine ab G a (fun x st1 z=>ab G b (fun y st2 z=>?_) z) q
  obtain ⟨i,j,e,e2,h1,z⟩:=z
  exact ⟨i,j,e,e2,h1,h _ _ _ z⟩
 | .zip a b,ρ,st,Q,Q',h,q=>by
  skip
  refine ab G a (fun x st1 z=>ab G b (fun y st2 z=>?_) z) q
  obtain ⟨i,j,e,e2,z⟩:=z
  exact ⟨i,j,e,e2,h _ _ _ z⟩
 | .enum a,ρ,st,Q,Q',h,q=>by
  skip
  refine ab G a (fun x st1 z=>?_) q
  obtain ⟨c,e,z⟩:=z
  exact ⟨c,e,h _ _ _ z⟩
 | .chars _,ρ,st,Q,Q',h,q=>False.elim q
 | .zip3 a b c,ρ,st,Q,Q',h,q=>by
  refine ab G a (fun x st1 z=>ab G b (fun y st2 z=>ab G c (fun u st3 z=>?_) z) z) q
  obtain ⟨i,j,k,e,e2,e3,z⟩:=z
  exact ⟨i,j,k,e,e2,e3,h _ _ _ z⟩
 | .range3 _ _ _,ρ,st,Q,Q',h,q=>False.elim q
theorem bv (G:b8 Γ):∀(t:Tg) {v:PV} {ρ:Fr} {st:AH} {Q Q':Fr→AH→Prop},(∀ρ st,Q ρ st→Q' ρ st)→dP Γ t v ρ st Q→dP Γ t v ρ st Q'
 | .name i,v,ρ,st,Q,Q',h,q=>by exact h _ _ q
 | .tup ts,v,ρ,st,Q,Q',h,q=>by
  skip
  obtain ⟨xs,e,hl,q⟩:=q
  exact ⟨xs,e,hl,fo G ts h q⟩
 | .ltup ts,v,ρ,st,Q,Q',h,q=>by
  skip
  obtain ⟨xs,e,hl,q⟩:=q
  exact ⟨xs,e,hl,fo G ts h q⟩
 | .sub o i,v,ρ,st,Q,Q',h,q=>by exact ab G o (fun x st1 z=>ab G i (fun y st2 z=>qR (fun st3 z=>h _ _ z) z) z) q
theorem fo (G:b8 Γ):∀(t:Tgs) {v:List PV} {ρ:Fr} {st:AH} {Q Q':Fr→AH→Prop},(∀ρ st,Q ρ st→Q' ρ st)→gm Γ t v ρ st Q→gm Γ t v ρ st Q'
 | .nil,v,ρ,st,Q,Q',h,q=>by exact ⟨q.1,h _ _ q.2⟩
 | .cons t ts,v,ρ,st,Q,Q',h,q=>by
  skip
  obtain ⟨x,r,e,q⟩:=q
  exact ⟨x,r,e,bv G t (fun ρ' st' z=>fo G ts h z) q⟩
end
structure kX (D D':aV):Prop where
 nx:∀ρ st,D.nx ρ st→D'.nx ρ st
 rt:∀v st,D.rt v st→D'.rt v st
 bk:∀ρ st,D.bk ρ st→D'.bk ρ st
 ct:∀ρ st,D.ct ρ st→D'.ct ρ st
theorem lD {chk:AH→Prop} {body body':PV→Fr→AH→aV→Prop} {D D':aV} (hD:kX D D') (hb:∀x ρ st D D',kX D D'→body x ρ st D→body' x ρ st D') :
  ∀ {xs:List PV} {ρ:Fr} {st:AH},si chk body D xs ρ st→si chk body' D' xs ρ st
 | [],ρ,st,q=>⟨q.1,hD.nx _ _ q.2⟩
 | x::xs,ρ,st,q=>by
  refine ⟨q.1,hb _ _ _ _ _ ?_ q.2⟩
  exact ⟨fun _ _ z=>lD hD hb z,hD.rt,hD.nx,fun _ _ z=>lD hD hb z⟩
theorem iC {c:Fr→AH→BK→Prop} {body:Fr→AH→aV→Prop} {D D':aV} (hD:kX D D') (hc:∀ρ st Q Q',(∀b st,Q b st→Q' b st)→c ρ st Q→c ρ st Q')
  (hb:∀ρ st D D',kX D D'→body ρ st D→body ρ st D'):∀ {n:Nat} {ρ:Fr} {st:AH},fq c body D n ρ st→fq c body D' n ρ st
 | 0,ρ,st,q=>q
 | n+1,ρ,st,q=>hc _ _ _ _ (fun b st1 z=>by
  cases b with
  | true =>
   rw [if_pos rfl] at z ⊢
   refine hb _ _ _ _ ?_ z
   exact ⟨fun _ _ z=>iC hD hc hb z,hD.rt,hD.nx,fun _ _ z=>iC hD hc hb z⟩
  | false=>rw [if_neg Bool.false_ne_true] at z ⊢;exact hD.nx _ _ z) q
theorem rE {op:Operator} {x y:PV} {st:AH} {Q Q':EK} (h:∀v st,Q v st→Q' v st) (q:qF op x y st Q):qF op x y st Q':=by
 unfold qF at q ⊢
 split at q
 ·exact h _ _ q
 ·exact h _ _ q
 ·obtain ⟨xs,ys,h1,h2,h3,q⟩:=q
  exact ⟨xs,ys,h1,h2,h3,h _ _ q⟩
 ·exact q
mutual
theorem gf (G:b8 Γ):∀(s:S) {ρ:Fr} {st:AH} {D D':aV},kX D D'→wpS Γ s ρ st D→wpS Γ s ρ st D'
 | .set t e,ρ,st,D,D',h,q=>by exact ab G e (fun v st1 z=>bv G t h.nx z) q
 | .par i j a b,ρ,st,D,D',h,q=>by exact ab G a (fun v st1 z=>ab G b (fun w st2 z=>h.nx _ _ z) z) q
 | .aug i op e,ρ,st,D,D',h,q=>by
  skip
  obtain ⟨x,h1,q⟩:=q
  exact ⟨x,h1,ab G e (fun v st1 z=>rE (fun _ _ z=>h.nx _ _ z) z) q⟩
 | .expr e,ρ,st,D,D',h,q=>by exact ab G e (fun v st1 z=>h.nx _ _ z) q
 | .ret e,ρ,st,D,D',h,q=>by exact ab G e h.rt q
 | .retN,ρ,st,D,D',h,q=>by exact h.rt _ _ q
 | .ifS c a b,ρ,st,D,D',h,q=>by
  skip
  refine aQ G c (fun k st1 z=>?_) q
  cases k with
  | true=>rw [if_pos rfl] at z ⊢;exact a_ G a h z
  | false=>rw [if_neg Bool.false_ne_true] at z ⊢;exact a_ G b h z
 | .whileS c b,ρ,st,D,D',h,q=>by
  skip
  obtain ⟨n,q⟩:=q
  refine ⟨n,iC h (c:=wpT Γ c) (body:=au Γ b) ?_ ?_ q⟩
  ·exact fun _ _ _ _ hk z=>aQ G c hk z
  ·exact fun _ _ _ _ hk z=>a_ G b hk z
 | .forS t it b,ρ,st,D,D',h,q=>by
  skip
  exact gu G it (fun xs chk st1 z=>lD h (fun x ρ st D D' hd w=>bv G t (fun ρ2 st2 w=>a_ G b hd w) w) z) q
 | .pass,ρ,st,D,D',h,q=>by exact h.nx _ _ q
 | .bad,ρ,st,D,D',h,q=>False.elim q
 | .set2 i j e,ρ,st,D,D',h,q=>by exact ab G e (fun v st1 z=>h.nx _ _ z) q
 | .brk,ρ,st,D,D',h,q=>by exact h.bk _ _ q
 | .cont,ρ,st,D,D',h,q=>by exact h.ct _ _ q
theorem a_ (G:b8 Γ):∀(s:Ss) {ρ:Fr} {st:AH} {D D':aV},kX D D'→au Γ s ρ st D→au Γ s ρ st D'
 | .nil,ρ,st,D,D',h,q=>by exact h.nx _ _ q
 | .cons s ss,ρ,st,D,D',h,q=>by
  skip
  refine gf G s ?_ q
  exact ⟨fun _ _ z=>a_ G ss h z,h.rt,h.bk,h.ct⟩
end
end
end FW
set_option Elab.async false
set_option linter.all false
set_option maxRecDepth 100000
namespace FW
open PySem PySem.Spec PyProof.Rows L2 HX
noncomputable def RdF (K:PySem.W.Frag) (H:Hp) (a:Addr) (ys:List V):Prop :=
 (∃o,H a=some (.frz o (.lst ys)))∨∃(o:Obj) (its:Array Value) (n:Nat),K.lookup a=some o∧o.cls=.type "list"∧o.dict=none∧o.data=.seq its n∧its.size≤sizeLine∧Vals ys its.toList
theorem RdF.sq {K:PySem.W.Frag} {H:Hp} {a:Addr} {ys:List V} (h:RdF K H a ys):SqL K H a ys:=by
 rcases h with h|h
 ·exact .inl (.inr h)
 ·exact .inr h
mutual
noncomputable def R (K:PySem.W.Frag) (m:List Addr) (H:Hp):PV→V→Prop
 | .non,v=>v=.non
 | .bl b,v=>v=.bl b
 | .int i,v=>v=.int i
 | .str x,v=>v=.str x
 | .ref n,v=>∃a,m[n]?=some a∧v=.ref a
 | .tup xs,v=>∃a ys,v=.ref a∧SqT K H a ys∧Rs K m H xs ys
 | .rdl xs,v=>∃a ys,v=.ref a∧RdF K H a ys∧Rs K m H xs ys
 | .fn a,v=>v=.ref a
noncomputable def Rs (K:PySem.W.Frag) (m:List Addr) (H:Hp):List PV→List V→Prop
 | [],ys=>ys=[]
 | x::xs,ys=>∃y r,ys=y::r∧R K m H x y∧Rs K m H xs r
end
section
variable {K:PySem.W.Frag} {m m':List Addr} {H H':Hp} {v:V} {vs:List V}
theorem R_non:R K m H .non v↔v=.non:=by rw [R]
theorem R_bl {b:Bool}:R K m H (.bl b) v↔v=.bl b:=by rw [R]
theorem R_int {b:Int}:R K m H (.int b) v↔v=.int b:=by rw [R]
theorem R_str {b:Str}:R K m H (.str b) v↔v=.str b:=by rw [R]
theorem jt {n:Nat}:R K m H (.ref n) v↔∃a,m[n]?=some a∧v=.ref a:=by rw [R]
theorem R_tup {xs:List PV}:R K m H (.tup xs) v↔∃a ys,v=.ref a∧SqT K H a ys∧Rs K m H xs ys:=by rw [R]
theorem fC {xs:List PV}:R K m H (.rdl xs) v↔∃a ys,v=.ref a∧RdF K H a ys∧Rs K m H xs ys:=by rw [R]
theorem Am {a:Nat}:R K m H (.fn a) v↔v=.ref a:=by rw [R]
theorem Rs_nil:Rs K m H [] vs↔vs=[]:=by rw [Rs]
theorem bj {x:PV} {xs:List PV}:Rs K m H (x::xs) vs↔∃y r,vs=y::r∧R K m H x y∧Rs K m H xs r:=by rw [Rs]
theorem Rs_cons' {x:PV} {xs:List PV}:Rs K m H (x::xs) (v::vs)↔R K m H x v∧Rs K m H xs vs:=by
 rw [bj]
 constructor
 ·rintro ⟨_,_,e,h1,h2⟩;cases e;exact ⟨h1,h2⟩
 ·rintro ⟨h1,h2⟩;exact ⟨_,_,rfl,h1,h2⟩
theorem Rs.len:∀ {xs:List PV} {ys:List V},Rs K m H xs ys→xs.length=ys.length
 | [],ys,h=>by rw [Rs_nil] at h;subst h;rfl
 | x::xs,ys,h=>by
  rw [bj] at h
  obtain ⟨y,r,rfl,_,h⟩:=h
  simp [Rs.len h]
theorem Rs.get:∀ {xs:List PV} {ys:List V} {i:Nat} {x:PV},Rs K m H xs ys→xs[i]?=some x→∃y,ys[i]?=some y∧R K m H x y
 | [],ys,i,x,h,e=>by simp at e
 | x::xs,ys,i,z,h,e=>by
  rw [bj] at h
  obtain ⟨y,r,rfl,h1,h⟩:=h
  cases i with
  | zero=>simp at e;subst e;exact ⟨y,rfl,h1⟩
  | succ i =>
   obtain ⟨w,e1,e2⟩:=Rs.get h (by simpa using e)
   exact ⟨w,by simpa using e1,e2⟩
theorem Rs.app:∀ {xs zs:List PV} {ys ws:List V},Rs K m H xs ys→Rs K m H zs ws→Rs K m H (xs++zs) (ys++ws)
 | [],zs,ys,ws,h,h'=>by rw [Rs_nil] at h;subst h;exact h'
 | x::xs,zs,ys,ws,h,h'=>by
  rw [bj] at h
  obtain ⟨y,r,rfl,h1,h⟩:=h
  rw [List.cons_append,bj]
  exact ⟨y,r++ws,rfl,h1,h.app h'⟩
theorem Rs.drop:∀ {xs:List PV} {ys:List V} (n:Nat),Rs K m H xs ys→Rs K m H (xs.drop n) (ys.drop n)
 | xs,ys,0,h=>by simpa using h
 | [],ys,n+1,h=>by rw [Rs_nil] at h;subst h;simp [Rs_nil]
 | x::xs,ys,n+1,h=>by
  rw [bj] at h
  obtain ⟨y,r,rfl,h1,h⟩:=h
  simpa using Rs.drop n h
theorem Rs.take:∀ {xs:List PV} {ys:List V} (n:Nat),Rs K m H xs ys→Rs K m H (xs.take n) (ys.take n)
 | xs,ys,0,h=>by simp [Rs_nil]
 | [],ys,n+1,h=>by rw [Rs_nil] at h;subst h;simp [Rs_nil]
 | x::xs,ys,n+1,h=>by
  rw [bj] at h
  obtain ⟨y,r,rfl,h1,h⟩:=h
  rw [List.take_succ_cons,List.take_succ_cons,Rs_cons']
  exact ⟨h1,Rs.take n h⟩
theorem Rs.set {x:PV} {y:V} (hx:R K m H x y):∀ {xs:List PV} {ys:List V} (n:Nat),Rs K m H xs ys→Rs K m H (xs.set n x) (ys.set n y)
 | [],ys,n,h=>by rw [Rs_nil] at h;subst h;simp [Rs_nil]
 | z::xs,ys,0,h=>by
  rw [bj] at h
  obtain ⟨w,r,rfl,h1,h⟩:=h
  rw [List.set_cons_zero,List.set_cons_zero,Rs_cons']
  exact ⟨hx,h⟩
 | z::xs,ys,n+1,h=>by
  rw [bj] at h
  obtain ⟨w,r,rfl,h1,h⟩:=h
  rw [List.set_cons_succ,List.set_cons_succ,Rs_cons']
  exact ⟨h1,Rs.set hx n h⟩
theorem Rs.cut {xs:List PV} {ys:List V} (h:Rs K m H xs ys) (lo hi:Option Int):Rs K m H (mM xs lo hi) (qc ys lo hi):=by
 unfold mM qc
 rw [h.len]
 exact (h.drop _).take _
theorem Rs.atI {xs:List PV} {ys:List V} {i:Int} {x:PV} (h:Rs K m H xs ys) (e:atI xs i=some x):∃y,L2.atI ys i=some y∧R K m H x y:=by
 unfold L2.atI at e ⊢
 rw [h.len] at e
 cases q:ixN ys.length i with
 | none=>rw [q] at e;cases e
 | some j =>
  rw [q] at e
  obtain ⟨y,e1,e2⟩:=h.get (show xs[j]?=some x from e)
  exact ⟨y,e1,e2⟩
theorem Rs.dropLast {xs:List PV} {ys:List V} (h:Rs K m H xs ys):Rs K m H xs.dropLast ys.dropLast:=by
 rw [List.dropLast_eq_take,List.dropLast_eq_take,h.len]
 exact h.take _
theorem Rs.rep {xs:List PV} {ys:List V} (h:Rs K m H xs ys):∀n:Nat,Rs K m H (List.replicate n xs).flatten (List.replicate n ys).flatten
 | 0=>by simp [Rs_nil]
 | n+1=>by
  rw [List.replicate_succ,List.replicate_succ,List.flatten_cons,List.flatten_cons]
  exact h.app (Rs.rep h n)
theorem Rs.one {x:PV} {y:V} (h:R K m H x y):Rs K m H [x] [y]:=by rw [Rs_cons',Rs_nil];exact ⟨h,rfl⟩
end
noncomputable def bG:List Str:=["coming","latest","through"]
noncomputable def TB (K:PySem.W.Frag) (H:Hp):Prop:=∀x∈bG,∀c T,PySem.W.tabIn K x=some (c,T)→(∀y∈bG,∀d,PySem.W.tabIn K y=some (d,T)→y=x)∧∃ps,H T=some (.tbl ps)∧TriplesOk ps.toList ∧
 ∀pos cv,codeAmong pos ps.toList=some cv→∃c' oc,cv=.ref c'∧H c'=some (.frz oc (.own 0))∧FX oc (x++".<locals>."++"<lambda>")
theorem TB.keep {K:PySem.W.Frag} {H H':Hp} (t:TB K H) (h1:∀a ps,H a=some (.tbl ps)→H' a=some (.tbl ps)) (h2:∀a o,H a=some (.frz o (.own 0))→H' a=some (.frz o (.own 0))):TB K H':=fun x hx c T e=>by
 obtain ⟨e0,ps,e1,e2,e3⟩:=t x hx c T e
 refine ⟨e0,ps,h1 _ _ e1,e2,fun pos cv q=>?_⟩
 obtain ⟨c',oc,g1,g2,g3⟩:=e3 pos cv q
 exact ⟨c',oc,g1,h2 _ _ g2,g3⟩
structure Ext (K:PySem.W.Frag) (m:List Addr) (H:Hp) (m':List Addr) (H':Hp):Prop where
 pre:m <+: m'
 new:∀a∈m',a∈m∨H a=none
 fr:∀a o,a ∉ m→H a=some o→(∀ps,o≠.tbl ps)→H' a=some o
 tup:∀a ys,SqT K H a ys→SqT K H' a ys
 rdf:∀a ys,RdF K H a ys→RdF K H' a ys
 tbs:∀a ps,a ∉ m→H a=some (.tbl ps)→∃ps',H' a=some (.tbl ps')
 tb:TB K H→TB K H'
theorem Ext.refl (K:PySem.W.Frag) (m:List Addr) (H:Hp):Ext K m H m H:=⟨List.prefix_refl _,fun _ h=>.inl h,fun _ _ _ h _=>h,fun _ _ h=>h,fun _ _ h=>h,fun _ ps _ h=>⟨ps,h⟩,fun h=>h⟩
theorem Ext.ne {K:PySem.W.Frag} {m m':List Addr} {H H':Hp} (x:Ext K m H m' H') {a:Addr} {o:HO} (hm:a ∉ m) (e:H a=some o):H' a≠none:=fun z=>by
 by_cases h:∃ps,o=.tbl ps
 ·obtain ⟨ps,rfl⟩:=h
  obtain ⟨q,e2⟩:=x.tbs a ps hm e
  rw [e2] at z;cases z
 ·rw [x.fr a o hm e fun ps q=>h ⟨ps,q⟩] at z;cases z
theorem Ext.trans {K:PySem.W.Frag} {m m1 m2:List Addr} {H H1 H2:Hp} (a:Ext K m H m1 H1) (b:Ext K m1 H1 m2 H2):Ext K m H m2 H2:=by
 have nin:∀c o,c ∉ m→H c=some o→c ∉ m1:=fun c o h e z=>by
  rcases a.new c z with q|q
  ·exact h q
  ·rw [e] at q;cases q
 refine ⟨a.pre.trans b.pre,fun c hc=>?_,fun c o h e n=>b.fr c o (nin c o h e) (a.fr c o h e n) n,fun c ys h=>b.tup c ys (a.tup c ys h),fun c ys h=>b.rdf c ys (a.rdf c ys h),fun c ps h e=>let ⟨p1,e1⟩:=a.tbs c ps h e;b.tbs c p1 (nin c _ h e) e1,fun h=>b.tb (a.tb h)⟩
 rcases b.new c hc with q|q
 ·exact a.new c q
 ·by_cases hm:c∈m
  ·exact .inl hm
  ·cases e:H c with
   | none=>exact .inr rfl
   | some o=>exact absurd q (a.ne hm e)
theorem km {m m':List Addr} (h:m <+: m') {n:Nat} {a:Addr} (e:m[n]?=some a):m'[n]?=some a:=by
 obtain ⟨t,rfl⟩:=h
 rw [List.getElem?_append_left (List.getElem?_eq_some_iff.mp e).1]
 exact e
mutual
theorem R.mono {K:PySem.W.Frag} {m m':List Addr} {H H':Hp} (x:Ext K m H m' H'):∀ {p:PV} {v:V},R K m H p v→R K m' H' p v
 | .non,v,h=>by rw [R_non] at h ⊢;exact h
 | .bl b,v,h=>by rw [R_bl] at h ⊢;exact h
 | .int b,v,h=>by rw [R_int] at h ⊢;exact h
 | .str b,v,h=>by rw [R_str] at h ⊢;exact h
 | .ref n,v,h=>by rw [jt] at h ⊢;obtain ⟨a,e,q⟩:=h;exact ⟨a,km x.pre e,q⟩
 | .tup xs,v,h=>by rw [R_tup] at h ⊢;obtain ⟨a,ys,e,q,r⟩:=h;exact ⟨a,ys,e,x.tup _ _ q,Rs.mono x r⟩
 | .rdl xs,v,h=>by rw [fC] at h ⊢;obtain ⟨a,ys,e,q,r⟩:=h;exact ⟨a,ys,e,x.rdf _ _ q,Rs.mono x r⟩
 | .fn b,v,h=>by rw [Am] at h ⊢;exact h
theorem Rs.mono {K:PySem.W.Frag} {m m':List Addr} {H H':Hp} (x:Ext K m H m' H'):∀ {ps:List PV} {vs:List V},Rs K m H ps vs→Rs K m' H' ps vs
 | [],vs,h=>by rw [Rs_nil] at h ⊢;exact h
 | p::ps,vs,h=>by
  rw [bj] at h ⊢
  obtain ⟨y,r,e,h1,h2⟩:=h
  exact ⟨y,r,e,R.mono x h1,Rs.mono x h2⟩
end
mutual
theorem R.cut {K:PySem.W.Frag} {m:List Addr} {H:Hp} {k:Nat}:∀ {p:PV} {v:V},R K m H p v→p.bec k=true→R K (m.take k) H p v
 | .non,v,h,_=>by rw [R_non] at h ⊢;exact h
 | .bl b,v,h,_=>by rw [R_bl] at h ⊢;exact h
 | .int b,v,h,_=>by rw [R_int] at h ⊢;exact h
 | .str b,v,h,_=>by rw [R_str] at h ⊢;exact h
 | .ref n,v,h,z=>by
  rw [jt] at h ⊢
  obtain ⟨a,e,q⟩:=h
  rw [PV.bec] at z
  exact ⟨a,by rw [List.getElem?_take_of_lt (of_decide_eq_true z)];exact e,q⟩
 | .tup xs,v,h,z=>by
  rw [R_tup] at h ⊢
  obtain ⟨a,ys,e,q,r⟩:=h
  rw [PV.bec] at z
  exact ⟨a,ys,e,q,Rs.cutm r z⟩
 | .rdl xs,v,h,z=>by
  rw [fC] at h ⊢
  obtain ⟨a,ys,e,q,r⟩:=h
  rw [PV.bec] at z
  exact ⟨a,ys,e,q,Rs.cutm r z⟩
 | .fn b,v,h,_=>by rw [Am] at h ⊢;exact h
theorem Rs.cutm {K:PySem.W.Frag} {m:List Addr} {H:Hp} {k:Nat}:∀ {ps:List PV} {vs:List V},Rs K m H ps vs→PV.becs k ps=true→Rs K (m.take k) H ps vs
 | [],vs,h,_=>by rw [Rs_nil] at h ⊢;exact h
 | p::ps,vs,h,z=>by
  rw [bj] at h ⊢
  obtain ⟨y,r,e,h1,h2⟩:=h
  rw [PV.becs,Bool.and_eq_true] at z
  exact ⟨y,r,e,R.cut h1 z.1,Rs.cutm h2 z.2⟩
end
mutual
theorem R.bel {K:PySem.W.Frag} {m:List Addr} {H:Hp}:∀ {p:PV} {v:V},R K m H p v→p.bec m.length=true
 | .non,v,h=>by rw [PV.bec]
 | .bl b,v,h=>by rw [PV.bec]
 | .int b,v,h=>by rw [PV.bec]
 | .str b,v,h=>by rw [PV.bec]
 | .ref n,v,h=>by
  rw [jt] at h
  obtain ⟨a,e,q⟩:=h
  rw [PV.bec]
  exact decide_eq_true (List.getElem?_eq_some_iff.mp e).1
 | .tup xs,v,h=>by
  rw [R_tup] at h
  obtain ⟨a,ys,e,q,r⟩:=h
  rw [PV.bec]
  exact Rs.bel r
 | .rdl xs,v,h=>by
  rw [fC] at h
  obtain ⟨a,ys,e,q,r⟩:=h
  rw [PV.bec]
  exact Rs.bel r
 | .fn b,v,h=>by rw [PV.bec]
theorem Rs.bel {K:PySem.W.Frag} {m:List Addr} {H:Hp}:∀ {ps:List PV} {vs:List V},Rs K m H ps vs→PV.becs m.length ps=true
 | [],vs,h=>by rw [PV.becs]
 | p::ps,vs,h=>by
  rw [bj] at h
  obtain ⟨y,r,e,h1,h2⟩:=h
  rw [PV.becs,Bool.and_eq_true]
  exact ⟨R.bel h1,Rs.bel h2⟩
end
noncomputable def CellR (K:PySem.W.Frag) (m:List Addr) (H:Hp):Cell→Addr→Prop
 | .lst xs,a=>∃ys,H a=some (.lst ys)∧Rs K m H xs ys
 | .dk kvs,a=>∃ys,H a=some (.dK ys)∧ys.map (·.1)=kvs.map (·.1)∧Rs K m H (kvs.map (·.2)) (ys.map (·.2))
theorem CellR.mono {K:PySem.W.Frag} {m m':List Addr} {H H':Hp} (x:Ext K m H m' H') {c:Cell} {a:Addr} (h:CellR K m H c a) (e:H' a=H a):CellR K m' H' c a:=by
 cases c with
 | lst xs=>obtain ⟨ys,h1,h2⟩:=h;exact ⟨ys,e.trans h1,h2.mono x⟩
 | dk kvs=>obtain ⟨ys,h1,h2,h3⟩:=h;exact ⟨ys,e.trans h1,h2,h3.mono x⟩
theorem CellR.ex {K:PySem.W.Frag} {m:List Addr} {H:Hp} {c:Cell} {a:Addr} (h:CellR K m H c a):∃o,H a=some o∧(∀ys,o≠.tup ys)∧∀u p,o≠.frz u p:=by
 cases c with
 | lst xs=>obtain ⟨ys,h1,h2⟩:=h;exact ⟨_,h1,⟨fun _ z=>(by cases z),fun _ _ z=>(by cases z)⟩⟩
 | dk kvs=>obtain ⟨ys,h1,h2,h3⟩:=h;exact ⟨_,h1,⟨fun _ z=>(by cases z),fun _ _ z=>(by cases z)⟩⟩
theorem CellR.cut {K:PySem.W.Frag} {m:List Addr} {H:Hp} {c:Cell} {a:Addr} {k:Nat} (h:CellR K m H c a) (z:c.bec k=true):CellR K (m.take k) H c a:=by
 cases c with
 | lst xs=>obtain ⟨ys,h1,h2⟩:=h;exact ⟨ys,h1,h2.cutm z⟩
 | dk kvs=>obtain ⟨ys,h1,h2,h3⟩:=h;exact ⟨ys,h1,h2,h3.cutm z⟩
theorem CellR.bel {K:PySem.W.Frag} {m:List Addr} {H:Hp} {c:Cell} {a:Addr} (h:CellR K m H c a):c.bec m.length=true:=by
 cases c with
 | lst xs=>obtain ⟨ys,h1,h2⟩:=h;exact h2.bel
 | dk kvs=>obtain ⟨ys,h1,h2,h3⟩:=h;exact h3.bel
structure RH (K:PySem.W.Frag) (m:List Addr) (H:Hp) (st:AH):Prop where
 len:m.length=st.length
 nd:m.Nodup
 at_:∀(n:Nat) (c:Cell) (a:Addr),st[n]?=some c→m[n]?=some a→CellR K m H c a
 tb:TB K H
section
variable {K:PySem.W.Frag} {m m':List Addr} {H H':Hp} {st:AH}
theorem RH.mem {a:Addr} (h:RH K m H st) (e:a∈m):∃o,H a=some o∧(∀ys,o≠.tup ys)∧∀u p,o≠.frz u p:=by
 obtain ⟨n,hn,rfl⟩:=List.mem_iff_getElem.mp e
 have:n<st.length:=by rw [←h.len];exact hn
 exact (h.at_ n st[n] _ (by simp [this]) (by simp [hn])).ex
theorem RH.mem_tbl {a:Addr} (h:RH K m H st) (e:a∈m) {ps:Array Value}:H a≠some (.tbl ps):=fun z=>by
 obtain ⟨n,hn,rfl⟩:=List.mem_iff_getElem.mp e
 have:n<st.length:=by rw [←h.len];exact hn
 have c:=h.at_ n st[n] m[n] (by simp [this]) (by simp [hn])
 cases q:st[n] with
 | lst xs=>rw [q] at c;obtain ⟨ys,h1,_⟩:=c;rw [h1] at z;cases z
 | dk xs=>rw [q] at c;obtain ⟨ys,h1,_⟩:=c;rw [h1] at z;cases z
theorem RH.lst {n:Nat} {xs:List PV} {v:V} (h:RH K m H st) (e:st[n]?=some (.lst xs)) (r:R K m H (.ref n) v):∃a ys,v=.ref a∧m[n]?=some a∧H a=some (.lst ys)∧Rs K m H xs ys:=by
 rw [jt] at r
 obtain ⟨a,e1,rfl⟩:=r
 obtain ⟨ys,h1,h2⟩:=h.at_ n _ a e e1
 exact ⟨a,ys,rfl,e1,h1,h2⟩
theorem RH.fresh {p:Addr} (h:RH K m H st) (e:H p=none):p ∉ m:=fun z=>by
 obtain ⟨o,q,_⟩:=h.mem z
 rw [e] at q;cases q
theorem Ext.newT {p:Addr} {o:HO} (h:RH K m H st) (e:H p=none):Ext K m H m (upd H p o):=by
 refine ⟨List.prefix_refl _,fun _ z=>.inl z,fun a u _ q _=>?_,fun a ys q=>?_,fun a ys q=>?_,fun a ps _ q=>⟨ps,by rw [am (aI q e)];exact q⟩,fun t=>t.keep (fun a ps q=>by rw [am (aI q e)];exact q) fun a o q=>by rw [am (aI q e)];exact q⟩
 ·rw [am (aI q e)];exact q
 ·rcases q with (q|⟨u,q⟩)|q
  ·exact .inl (.inl (by rw [am (aI q e)];exact q))
  ·exact .inl (.inr ⟨u,by rw [am (aI q e)];exact q⟩)
  ·exact .inr q
 ·rcases q with ⟨u,q⟩|q
  ·exact .inl ⟨u,by rw [am (aI q e)];exact q⟩
  ·exact .inr q
theorem RH.keep (h:RH K m H st) (x:Ext K m H m H') (e:∀a∈m,H' a=H a):RH K m H' st :=
 ⟨h.len,h.nd,fun n c a h1 h2=>(h.at_ n c a h1 h2).mono x (e a (List.mem_of_getElem? h2)),x.tb h.tb⟩
theorem RH.newT {p:Addr} {o:HO} (h:RH K m H st) (e:H p=none):RH K m (upd H p o) st :=
 h.keep (Ext.newT h e) fun a ha=>am fun z=>h.fresh e (z ▸ ha)
theorem Ext.new1 {p:Addr} {o:HO} (h:RH K m H st) (e:H p=none):Ext K m H (m++[p]) (upd H p o):=by
 have q:=Ext.newT (o:=o) h e
 refine ⟨List.prefix_append _ _,fun a z=>?_,q.fr,q.tup,q.rdf,q.tbs,q.tb⟩
 rcases List.mem_append.mp z with z|z
 ·exact .inl z
 ·rw [List.mem_singleton] at z
  subst z
  exact .inr e
theorem RH.new1 {p:Addr} {o:HO} {c:Cell} (h:RH K m H st) (e:H p=none) (hc:CellR K (m++[p]) (upd H p o) c p):RH K (m++[p]) (upd H p o) (st++[c]):=by
 have x:=Ext.new1 (o:=o) h e
 refine ⟨by simp [h.len],List.nodup_append.mpr ⟨h.nd,List.nodup_cons.mpr ⟨by simp,List.nodup_nil⟩,fun a ha b hb z=>?_⟩,fun n c' a h1 h2=>?_,x.tb h.tb⟩
 ·rw [List.mem_singleton] at hb
  subst hb
  exact h.fresh e (z ▸ ha)
 ·by_cases hn:n<st.length
  ·rw [List.getElem?_append_left hn] at h1
   rw [List.getElem?_append_left (by rw [h.len];exact hn)] at h2
   exact (h.at_ n c' a h1 h2).mono x (am fun z=>h.fresh e (z ▸ List.mem_of_getElem? h2))
  ·rw [List.getElem?_append_right (by omega)] at h1
   rw [List.getElem?_append_right (by rw [h.len];omega)] at h2
   have hl:=h.len
   by_cases hz:n-st.length=0
   ·rw [hz] at h1
    rw [show n-m.length=0 by omega] at h2
    simp at h1 h2
    subst h1 h2
    exact hc
   ·rw [List.getElem?_eq_none (by simp;omega)] at h1
    cases h1
theorem RH.newL {p:Addr} {xs:List PV} {ys:List V} (h:RH K m H st) (e:H p=none) (r:Rs K m H xs ys):RH K (m++[p]) (upd H p (.lst ys)) (st++[.lst xs]) :=
 h.new1 e ⟨ys,cQ,r.mono (Ext.new1 h e)⟩
theorem R.last {p:Addr} {n:Nat} (h:m.length=n):R K (m++[p]) H (.ref n) (.ref p):=by
 rw [jt]
 exact ⟨p,by rw [←h];simp,rfl⟩
theorem Ext.set {n:Nat} {a:Addr} {ys:List V} {o:HO} (h:RH K m H st) (e:m[n]?=some a):Ext K m H m (upd H a o):=by
 have hm:=List.mem_of_getElem? e
 obtain ⟨u,hu,h1,h2⟩:=h.mem hm
 refine ⟨List.prefix_refl _,fun _ z=>.inl z,fun b w hb q _=>?_,fun b zs q=>?_,fun b zs q=>?_,fun b ps hb q=>⟨ps,by rw [am (show b≠a from fun z=>hb (by rw [z];exact hm))];exact q⟩,fun t=>t.keep (fun b ps q=>by rw [am (fun z=>by subst z;exact h.mem_tbl hm q)];exact q) fun b w q=>by rw [am (fun z=>by subst z;rw [hu] at q;cases q;exact h2 _ _ rfl)];exact q⟩
 ·have hne:b≠a:=fun z=>hb (by rw [z];exact hm)
  rw [am hne];exact q
 ·rcases q with (q|⟨w,q⟩)|q
  ·exact .inl (.inl (by rw [am (fun z=>by subst z;rw [hu] at q;cases q;exact h1 _ rfl)];exact q))
  ·exact .inl (.inr ⟨w,by rw [am (fun z=>by subst z;rw [hu] at q;cases q;exact h2 _ _ rfl)];exact q⟩)
  ·exact .inr q
 ·rcases q with ⟨w,q⟩|q
  ·exact .inl ⟨w,by rw [am (fun z=>by subst z;rw [hu] at q;cases q;exact h2 _ _ rfl)];exact q⟩
  ·exact .inr q
theorem Az {m:List Addr} (h:m.Nodup) {i j:Nat} {a:Addr} (e:m[i]?=some a) (e':m[j]?=some a):i=j:=by
 obtain ⟨h1,h2⟩:=List.getElem?_eq_some_iff.mp e
 obtain ⟨h3,h4⟩:=List.getElem?_eq_some_iff.mp e'
 exact (List.getElem_inj h).mp (h2.trans h4.symm)
theorem RH.setL {n:Nat} {a:Addr} {xs:List PV} {ys:List V} (h:RH K m H st) (e:m[n]?=some a) (r:Rs K m H xs ys):RH K m (upd H a (.lst ys)) (st.set n (.lst xs)):=by
 have x:Ext K m H m (upd H a (.lst ys)):=Ext.set (ys:=ys) h e
 refine ⟨by simp [h.len],h.nd,fun k c b h1 h2=>?_,x.tb h.tb⟩
 by_cases hk:k=n
 ·subst hk
  rw [e] at h2
  cases h2
  have hl:k<st.length:=by rw [←h.len];exact (List.getElem?_eq_some_iff.mp e).1
  rw [List.getElem?_set_self hl] at h1
  cases h1
  exact ⟨ys,cQ,r.mono x⟩
 ·rw [List.getElem?_set_ne (fun z=>hk z.symm)] at h1
  exact (h.at_ k c b h1 h2).mono x (am fun z=>hk (Az h.nd h2 (z ▸ e)))
end
structure RF (K:PySem.W.Frag) (m:List Addr) (H:Hp) (ρ:Fr) (σ:L2.St):Prop where
 len:ρ.length=σ.length
 at_:∀(i:Nat) v,ρ[i]?=some (some v)→∃x,σ[i]?=some (some x)∧R K m H v x
theorem RF.mono {K:PySem.W.Frag} {m m':List Addr} {H H':Hp} {ρ:Fr} {σ:L2.St} (h:RF K m H ρ σ) (x:Ext K m H m' H'):RF K m' H' ρ σ :=
 ⟨h.len,fun i v e=>let ⟨y,e1,r⟩:=h.at_ i v e;⟨y,e1,r.mono x⟩⟩
theorem RF.set {K:PySem.W.Frag} {m:List Addr} {H:Hp} {ρ:Fr} {σ:L2.St} (h:RF K m H ρ σ) (i:Nat) {v:PV} {x:V} (r:R K m H v x):RF K m H (ρ.set i (some v)) (σ.set i (some x)):=by
 refine ⟨by simp [h.len],fun j w e=>?_⟩
 by_cases hj:i=j
 ·subst hj
  have hl:i<ρ.length:=by have:=(List.getElem?_eq_some_iff.mp e).1;simpa using this
  rw [List.getElem?_set_self hl] at e
  cases e
  exact ⟨x,by rw [List.getElem?_set_self (h.len ▸ hl)],r⟩
 ·rw [List.getElem?_set_ne hj] at e
  rw [List.getElem?_set_ne hj]
  exact h.at_ j w e
noncomputable def post (K:PySem.W.Frag) (m:List Addr) (H:Hp) (Q:VK):EK:=fun v st'=>∀m' H' x,Ext K m H m' H'→RH K m' H' st'→R K m' H' v x→Q x H'
noncomputable def postB (K:PySem.W.Frag) (m:List Addr) (H:Hp) (Q:Bool→Hp→Prop):BK:=fun v st'=>∀m' H',Ext K m H m' H'→RH K m' H' st'→Q v H'
noncomputable def HM (K:PySem.W.Frag) (m:List Addr) (H:Hp) (Q:List V→Hp→Prop):LK:=fun vs st'=>∀m' H' xs,Ext K m H m' H'→RH K m' H' st'→Rs K m' H' vs xs→Q xs H'
noncomputable def TEx (K:PySem.W.Frag) (w:Fr→AH→EK→Prop):TE:=fun σ H Q=>∃m ρ st,RF K m H ρ σ∧RH K m H st∧w ρ st (post K m H Q)
noncomputable def TTx (K:PySem.W.Frag) (w:Fr→AH→BK→Prop):TT:=fun σ H Q=>∃m ρ st,RF K m H ρ σ∧RH K m H st∧w ρ st (postB K m H Q)
noncomputable def TAx (K:PySem.W.Frag) (w:Fr→AH→LK→Prop):TA:=fun σ H Q=>∃m ρ st,RF K m H ρ σ∧RH K m H st∧w ρ st (HM K m H Q)
theorem post.ext {K:PySem.W.Frag} {m m1:List Addr} {H H1:Hp} {Q:VK} (x:Ext K m H m1 H1) {v:PV} {st:AH} (q:post K m H Q v st):post K m1 H1 Q v st:=fun m' H' y e r s=>q m' H' y (x.trans e) r s
theorem postB.ext {K:PySem.W.Frag} {m m1:List Addr} {H H1:Hp} {Q:Bool→Hp→Prop} (x:Ext K m H m1 H1) {v:Bool} {st:AH} (q:postB K m H Q v st):postB K m1 H1 Q v st:=fun m' H' e r=>q m' H' (x.trans e) r
noncomputable def ER (K:PySem.W.Frag) (w:PV→PV→AH→EK→Prop):R2:=fun x' y' H Q=>∃m st x y,RH K m H st∧R K m H x x'∧R K m H y y'∧w x y st (post K m H Q)
noncomputable def HU (K:PySem.W.Frag) (w:List PV→AH→EK→Prop):List V→Hp→VK→Prop:=fun xs' H Q=>∃m st xs,RH K m H st∧Rs K m H xs xs'∧w xs st (post K m H Q)
end FW
set_option Elab.async false
set_option linter.all false
set_option maxRecDepth 100000
set_option maxHeartbeats 1000000
namespace FW
open PySem PySem.Spec PyProof.Rows L2 HX
theorem e6 {n:Nat} (h:n≤100000):n≤sizeLine:=by rw [sizeLine_eq];omega
theorem yn {n:Nat} (h:n<100000):n<sizeLine:=by rw [sizeLine_eq];omega
section
variable {X:Cx}
theorem post.here {K:PySem.W.Frag} {m:List Addr} {H:Hp} {Q:VK} {v:PV} {st:AH} {x:V} (q:post K m H Q v st) (h:RH K m H st) (r:R K m H v x):Q x H:=q m H x (Ext.refl _ _ _) h r
theorem post.newT {K:PySem.W.Frag} {m:List Addr} {H:Hp} {Q:VK} {xs:List PV} {ys:List V} {st:AH} {p:Addr} (q:post K m H Q (.tup xs) st) (h:RH K m H st) (r:Rs K m H xs ys) (e:H p=none):Q (.ref p) (upd H p (.tup ys)) :=
 q m _ _ (Ext.newT h e) (h.newT e) (R_tup.mpr ⟨p,ys,rfl,SqT.of cQ,r.mono (Ext.newT h e)⟩)
theorem post.newL {K:PySem.W.Frag} {m:List Addr} {H:Hp} {Q:VK} {xs:List PV} {ys:List V} {st:AH} {p:Addr} (q:post K m H Q (.ref st.length) (st++[.lst xs])) (h:RH K m H st) (r:Rs K m H xs ys) (e:H p=none):Q (.ref p) (upd H p (.lst ys)) :=
 q _ _ _ (Ext.new1 h e) (h.newL e r) (R.last h.len)
theorem post.setL {K:PySem.W.Frag} {m:List Addr} {H:Hp} {Q:VK} {v:PV} {y:V} {xs:List PV} {ys:List V} {st:AH} {n:Nat} {a:Addr} (q:post K m H Q v (st.set n (.lst xs))) (h:RH K m H st) (e:m[n]?=some a) (r:Rs K m H xs ys) (rv:R K m H v y) :
  Q y (upd H a (.lst ys)):=q _ _ _ (Ext.set (ys:=ys) h e) (h.setL e r) (rv.mono (Ext.set (ys:=ys) h e))
theorem eX {K:PySem.W.Frag} {m:List Addr} {H:Hp} {st:AH} {v:PV} {x:V} {xs:List PV} (h:RH K m H st) (r:R K m H v x) (e:bV st v=some xs):∃a ys,x=.ref a∧SqL K H a ys∧Rs K m H xs ys:=by
 cases v with
 | rdl zs =>
  cases e
  rw [fC] at r
  obtain ⟨a,ys,rfl,h1,h2⟩:=r
  exact ⟨a,ys,rfl,h1.sq,h2⟩
 | ref n =>
  unfold bV at e
  simp only at e
  split at e
  ·cases e
   rename_i q
   obtain ⟨a,ys,rfl,_,h1,h2⟩:=h.lst q r
   exact ⟨a,ys,rfl,SqL.of h1,h2⟩
  ·cases e
 | _=>cases e
theorem kG {K:PySem.W.Frag} {m:List Addr} {H:Hp} {st:AH} {v:PV} {x:V} {xs:List PV} (h:RH K m H st) (r:R K m H v x) (e:bi st v=some xs):∃a ys,x=.ref a∧(SqL K H a ys∨SqT K H a ys)∧Rs K m H xs ys:=by
 cases v with
 | tup zs =>
  cases e
  rw [R_tup] at r
  obtain ⟨a,ys,rfl,h1,h2⟩:=r
  exact ⟨a,ys,rfl,.inr h1,h2⟩
 | rdl zs =>
  obtain ⟨a,ys,h1,h2,h3⟩:=eX h r e
  exact ⟨a,ys,h1,.inl h2,h3⟩
 | ref n =>
  obtain ⟨a,ys,h1,h2,h3⟩:=eX h r e
  exact ⟨a,ys,h1,.inl h2,h3⟩
 | _=>cases e
theorem Jx {P:Program} {w:World} {A:Around} {E:Value→Shared→Prop} {s:Shared} {t b:Addr} {ws:List Value} {Q:Value→Shared→Prop} (ht:IsTup s.heap t ([]:List Value).toArray) (hb:IsTup s.heap b ws.toArray) (h:Q (.ref b) s) :
  wpAny (model P w) A (binaryOp .Add (.ref t) (.ref b)) Q E s:=by
 obtain ⟨⟨cls,dd,data,sl⟩,ho,hc,n,hd⟩:=id ht
 obtain ⟨⟨cls2,dd2,data2,sl2⟩,ho2,hc2,n2,hd2⟩:=id hb
 simp only at hc hd hc2 hd2
 subst hc hd hc2 hd2
 exact concat_meets ⟨_,ho,rfl⟩ ⟨_,ho2,rfl⟩ noFill_tuple_add seq_tuple_add PySem.F.slot_tuple_add PySem.F.entry_tuple_add (PySem.F.args_tuple_add_2 _ _)
  (tuple_addW0 t b ([]:List Value).toArray ws.toArray n n2 dd dd2 sl sl2 rfl) ⟨ho,ho2,h⟩
theorem G_ (op:Operator):OpR X (binaryOp op) (ER X.K (jj op)):=by
 intro pins s σ H x' y' v u Q I rx ry h
 obtain ⟨m,st,x,y,rh,hx,hy,w⟩:=h
 cases op with
 | Add =>
  cases x with
  | int i =>
   cases y with
   | int j =>
    have w:post X.K m H Q (.int (i+j)) st:=w
    rw [R_int] at hx hy;subst hx hy
    exact F8 pins s σ H _ _ v u Q I rx ry ⟨_,_,rfl,rfl,w.here rh (R_int.mpr rfl)⟩
   | _=>exact False.elim w
  | ref n =>
   cases y with
   | ref k =>
    obtain ⟨xs,ys,h1,h2,h3,w⟩:=w
    obtain ⟨a,xs',rfl,e1,g1,r1⟩:=rh.lst h1 hx
    obtain ⟨b,ys',rfl,e2,g2,r2⟩:=rh.lst h2 hy
    exact GT pins s σ H _ _ v u Q I rx ry ⟨a,b,xs',ys',rfl,rfl,g1,g2,by rw [←r1.len,←r2.len];exact e6 h3,fun p hp=>w.newL rh (r1.app r2) hp⟩
   | _=>exact False.elim w
  | tup xs =>
   cases y with
   | tup ys =>
    obtain ⟨h2,w⟩:=w
    rw [R_tup] at hx hy
    obtain ⟨a,xs',rfl,g1,r1⟩:=hx
    obtain ⟨b,ys',rfl,g2,r2⟩:=hy
    by_cases h1:xs'=[]
    ·subst h1
     cases rx
     cases ry
     obtain ⟨its1,rv1,p1,_⟩:=I.tuple g1
     obtain ⟨its2,rv2,p2,_⟩:=I.tuple g2
     cases rv1
     have e:=r1.len
     rw [List.length_eq_zero_iff.mp e,List.nil_append] at w
     exact Jx p1 p2 ⟨.ref b,H,I,rfl,w.here rh (R_tup.mpr ⟨b,ys',rfl,g2,r2⟩)⟩
    refine D0 pins s σ H _ _ v u Q I rx ry ⟨a,b,xs',ys',rfl,rfl,g1,g2,fun z=>?_,by rw [←r1.len,←r2.len];exact e6 h2,fun z=>?_,fun z p hp=>w.newT rh (r1.app r2) hp⟩
    ·exact h1 z
    ·subst z
     have e:=r2.len
     rw [List.length_eq_zero_iff.mp e,List.append_nil] at w
     exact w.here rh (R_tup.mpr ⟨a,xs',rfl,g1,r1⟩)
   | _=>exact False.elim w
  | str a =>
   cases y with
   | str b =>
    obtain ⟨h2,w⟩:=w
    rw [R_str] at hx hy;subst hx hy
    exact yh pins s σ H _ _ v u Q I rx ry ⟨_,_,rfl,rfl,e6 h2,w.here rh (R_str.mpr rfl)⟩
   | _=>exact False.elim w
  | _=>exact False.elim w
 | Mult =>
  cases x with
  | int i =>
   cases y with
   | int j =>
    have w:CMB i j∧post X.K m H Q (.int (i*j)) st:=w
    rw [R_int] at hx hy;subst hx hy
    exact DW pins s σ H _ _ v u Q I rx ry ⟨_,_,rfl,rfl,w.1,w.2.here rh (R_int.mpr rfl)⟩
   | _=>exact False.elim w
  | ref n =>
   cases y with
   | int k =>
    obtain ⟨xs,h1,h2,h3,h4,w⟩:=w
    rw [R_int] at hy;subst hy
    obtain ⟨a,xs',rfl,e1,g1,r1⟩:=rh.lst h1 hx
    exact FP pins s σ H _ _ v u Q I rx ry ⟨a,_,xs',rfl,rfl,g1,h2,h3,by rw [←r1.len];exact e6 h4,fun p hp=>w.newL rh (r1.rep _) hp⟩
   | _=>exact False.elim w
  | _=>exact False.elim w
 | Sub =>
  obtain ⟨i,j,rfl,rfl,w⟩:=cz w
  rw [R_int] at hx hy;subst hx hy
  exact Gz pins s σ H _ _ v u Q I rx ry ⟨_,_,rfl,rfl,w.here rh (R_int.mpr rfl)⟩
 | FloorDiv =>
  obtain ⟨i,j,rfl,rfl,w⟩:=cz w
  rw [R_int] at hx hy;subst hx hy
  exact Cq pins s σ H _ _ v u Q I rx ry ⟨_,_,rfl,rfl,w.1,w.2.here rh (R_int.mpr rfl)⟩
 | Mod =>
  obtain ⟨i,j,rfl,rfl,w⟩:=cz w
  rw [R_int] at hx hy;subst hx hy
  exact Ge pins s σ H _ _ v u Q I rx ry ⟨_,_,rfl,rfl,w.1,w.2.here rh (R_int.mpr rfl)⟩
 | Pow =>
  obtain ⟨i,j,rfl,rfl,w⟩:=cz w
  rw [R_int] at hx hy;subst hx hy
  exact GM pins s σ H _ _ v u Q I rx ry ⟨_,_,rfl,rfl,w.1,w.2.here rh (R_int.mpr rfl)⟩
 | _=>exact False.elim w
mutual
theorem R.den {K:PySem.W.Frag} {m:List Addr} {H:Hp}:∀ {p:PV} {v:V} {d:PyData},R K m H p v→p.toD=some d→(∃xs,d=.list xs)∨Den K H d v
 | .non,v,d,h,e=>by rw [PV.toD] at e;cases e;rw [R_non] at h;exact .inr (den_non.mpr h)
 | .bl b,v,d,h,e=>by rw [PV.toD] at e;cases e;rw [R_bl] at h;exact .inr (den_bl.mpr h)
 | .int b,v,d,h,e=>by rw [PV.toD] at e;cases e;rw [R_int] at h;exact .inr (den_int.mpr h)
 | .str b,v,d,h,e=>by rw [PV.toD] at e;cases e;rw [R_str] at h;exact .inr (den_str.mpr h)
 | .ref n,v,d,h,e=>by rw [PV.toD] at e;cases e
 | .fn n,v,d,h,e=>by rw [PV.toD] at e;cases e
 | .tup xs,v,d,h,e=>by
  rw [PV.toD] at e
  cases q:PV.toDs xs with
  | none=>rw [q] at e;cases e
  | some ds =>
   rw [q] at e
   cases e
   rw [R_tup] at h
   obtain ⟨a,ys,rfl,h1,h2⟩:=h
   exact .inr (den_tup.mpr ⟨a,ys,rfl,h1,Rs.den h2 q⟩)
 | .rdl xs,v,d,h,e=>by
  rw [PV.toD] at e
  cases q:PV.toDs xs with
  | none=>rw [q] at e;cases e
  | some ds=>rw [q] at e;cases e;exact .inl ⟨_,rfl⟩
theorem Rs.den {K:PySem.W.Frag} {m:List Addr} {H:Hp}:∀ {ps:List PV} {vs:List V} {ds:List PyData},Rs K m H ps vs→PV.toDs ps=some ds→Dens K H ds vs
 | [],vs,ds,h,e=>by rw [PV.toDs] at e;cases e;rw [Rs_nil] at h;exact dens_nil.mpr h
 | p::ps,vs,ds,h,e=>by
  rw [bj] at h
  obtain ⟨y,r,rfl,h1,h2⟩:=h
  rw [PV.toDs] at e
  cases q:p.toD with
  | none=>rw [q] at e;cases e
  | some d =>
   cases q2:PV.toDs ps with
   | none=>rw [q,q2] at e;cases e
   | some ds' =>
    rw [q,q2] at e
    cases e
    refine dens_cons'.mpr ⟨?_,Rs.den h2 q2⟩
    cases p with
    | rdl xs =>
     rw [PV.toD] at q
     cases q3:PV.toDs xs with
     | none=>rw [q3] at q;cases q
     | some es =>
      rw [q3] at q
      cases q
      rw [fC] at h1
      obtain ⟨a,ys,rfl,g1,g2⟩:=h1
      exact den_lst.mpr ⟨a,ys,rfl,g1.sq,Rs.den g2 q3⟩
    | _ =>
     rcases R.den h1 q with ⟨xs,rfl⟩|z
     ·first
       | (rw [PV.toD] at q;cases q;done)
       | (rw [PV.toD] at q;simp only [Option.map_eq_some_iff,reduceCtorEq,and_false,exists_false] at q)
     ·exact z
end
theorem kP {K:PySem.W.Frag} {m:List Addr} {H:Hp} {st:AH} {p:PV} {v:V} {d:PyData} (rh:RH K m H st) (h:R K m H p v) (e:oY st p=some d):Den K H d v:=by
 cases p with
 | ref n =>
  unfold oY at e
  simp only at e
  split at e
  ·rename_i xs q
   cases q2:PV.toDs xs with
   | none=>rw [q2] at e;cases e
   | some ds =>
    rw [q2] at e
    cases e
    obtain ⟨a,ys,rfl,_,h1,h2⟩:=rh.lst q h
    exact den_lst.mpr ⟨a,ys,rfl,SqL.of h1,h2.den q2⟩
  ·cases e
 | rdl xs =>
  have e':(PV.rdl xs).toD=some d:=e
  rw [PV.toD] at e'
  cases q2:PV.toDs xs with
  | none=>rw [q2] at e';cases e'
  | some ds =>
   rw [q2] at e'
   cases e'
   rw [fC] at h
   obtain ⟨a,ys,rfl,g1,g2⟩:=h
   exact den_lst.mpr ⟨a,ys,rfl,g1.sq,g2.den q2⟩
 | tup xs =>
  have e':(PV.tup xs).toD=some d:=e
  rcases R.den h e' with ⟨zs,rfl⟩|z
  ·rw [PV.toD] at e'
   simp at e'
  ·exact z
 | fn b=>have e':(PV.fn b).toD=some d:=e;rw [PV.toD] at e';cases e'
 | non=>have e':(PV.non).toD=some d:=e;rw [PV.toD] at e';cases e';exact den_non.mpr (R_non.mp h)
 | bl b=>have e':(PV.bl b).toD=some d:=e;rw [PV.toD] at e';cases e';exact den_bl.mpr (R_bl.mp h)
 | int b=>have e':(PV.int b).toD=some d:=e;rw [PV.toD] at e';cases e';exact den_int.mpr (R_int.mp h)
 | str b=>have e':(PV.str b).toD=some d:=e;rw [PV.toD] at e';cases e';exact den_str.mpr (R_str.mp h)
theorem R.nonB {K:PySem.W.Frag} {m:List Addr} {H:Hp} {p:PV} {v:V} (h:R K m H p v):decide (v=.non)=ij p:=by
 cases p with
 | non=>rw [R_non] at h;subst h;rfl
 | bl b=>rw [R_bl] at h;subst h;rfl
 | int b=>rw [R_int] at h;subst h;rfl
 | str b=>rw [R_str] at h;subst h;rfl
 | ref n=>rw [jt] at h;obtain ⟨a,_,rfl⟩:=h;rfl
 | tup n=>rw [R_tup] at h;obtain ⟨a,_,rfl,_⟩:=h;rfl
 | rdl n=>rw [fC] at h;obtain ⟨a,_,rfl,_⟩:=h;rfl
 | fn n=>rw [Am] at h;subst h;rfl
theorem R.blB {K:PySem.W.Frag} {m:List Addr} {H:Hp} {p:PV} {v:V} {k:Bool} (h:R K m H p v):decide (v=.bl k)=mY k p:=by
 cases p with
 | non=>rw [R_non] at h;subst h;rfl
 | bl b=>rw [R_bl] at h;subst h;cases b <;> cases k <;> rfl
 | int b=>rw [R_int] at h;subst h;rfl
 | str b=>rw [R_str] at h;subst h;rfl
 | ref n=>rw [jt] at h;obtain ⟨a,_,rfl⟩:=h;rfl
 | tup n=>rw [R_tup] at h;obtain ⟨a,_,rfl,_⟩:=h;rfl
 | rdl n=>rw [fC] at h;obtain ⟨a,_,rfl,_⟩:=h;rfl
 | fn n=>rw [Am] at h;subst h;rfl
theorem IU {i j:Int}:decide (V.int i=V.int j)=decide (i=j):=by simp
theorem IG {i j:Bool}:decide (V.bl i=V.bl j)=decide (i=j):=by simp
theorem Ie {i j:Str}:decide (V.str i=V.str j)=decide (i=j):=by simp
theorem rX {K:PySem.W.Frag} {m:List Addr} {H:Hp}:∀ {ns:List Int} {ys:List V},Rs K m H (ns.map PV.int) ys→ys=ns.map V.int
 | [],ys,h=>by rw [List.map_nil,Rs_nil] at h;exact h
 | n::ns,ys,h=>by
  cases ys with
  | nil=>have:=h.len;simp at this
  | cons y ys =>
   rw [List.map_cons,Rs_cons',R_int] at h
   rw [h.1,rX h.2]
   rfl
theorem ml:∀ {ns:List Int},(ns.map V.int).all kd=true
 | []=>rfl
 | n::ns=>by rw [List.map_cons,List.all_cons,ml];rfl
theorem sO {i:Int}:∀ {ns:List Int},inV (.int i) (ns.map V.int)=ns.any fun j=>j == i
 | []=>rfl
 | n::ns=>by
  have:=sO (i:=i) (ns:=ns)
  unfold inV at this ⊢
  rw [List.map_cons,List.any_cons,List.any_cons,this]
  rfl
theorem B8 (hu:X.A.units+64<cLine) (op:CmpOp):OpR X (compareOp op) (ER X.K (fu op)):=by
 intro pins s σ H x' y' v u Q I rx ry h
 obtain ⟨m,st,x,y,rh,hx,hy,w⟩:=h
 unfold fu at w
 cases op with
 | Eq =>
  simp only at w
  unfold eqW at w
  split at w
  ·rw [R_int] at hx hy;subst hx hy
   exact CP pins s σ H _ _ v u Q I rx ry ⟨rfl,by rw [IU];exact w.here rh (R_bl.mpr rfl)⟩
  ·rw [R_bl] at hx hy;subst hx hy
   exact CP pins s σ H _ _ v u Q I rx ry ⟨rfl,by rw [IG];exact w.here rh (R_bl.mpr rfl)⟩
  ·rw [R_str] at hx hy;subst hx hy
   exact CP pins s σ H _ _ v u Q I rx ry ⟨rfl,by rw [Ie];exact w.here rh (R_bl.mpr rfl)⟩
  ·obtain ⟨d,e,h1,h2,h3,h4,w⟩:=w
   exact Gu hu pins s σ H _ _ v u Q I rx ry ⟨d,e,kP rh hx h1,kP rh hy h2,h3,h4,w.here rh (R_bl.mpr rfl)⟩
 | NotEq =>
  simp only at w
  unfold eqW at w
  split at w
  ·rw [R_int] at hx hy;subst hx hy
   exact Bm pins s σ H _ _ v u Q I rx ry ⟨rfl,by rw [IU];exact w.here rh (R_bl.mpr rfl)⟩
  ·rw [R_bl] at hx hy;subst hx hy
   exact Bm pins s σ H _ _ v u Q I rx ry ⟨rfl,by rw [IG];exact w.here rh (R_bl.mpr rfl)⟩
  ·rw [R_str] at hx hy;subst hx hy
   exact Bm pins s σ H _ _ v u Q I rx ry ⟨rfl,by rw [Ie];exact w.here rh (R_bl.mpr rfl)⟩
  ·obtain ⟨d,e,h1,h2,h3,h4,w⟩:=w
   exact GP hu pins s σ H _ _ v u Q I rx ry ⟨d,e,kP rh hx h1,kP rh hy h2,h3,h4,w.here rh (R_bl.mpr rfl)⟩
 | Is =>
  simp only at w
  split at w
  ·rw [R_non] at hy;subst hy
   exact GZ pins s σ H _ _ v u Q I rx ry ⟨rfl,by rw [hx.nonB];exact w.here rh (R_bl.mpr rfl)⟩
  ·rw [R_bl] at hy;subst hy
   exact GC pins s σ H _ _ v u Q I rx ry ⟨_,rfl,by rw [hx.blB];exact w.here rh (R_bl.mpr rfl)⟩
  ·exact w.elim
 | IsNot =>
  simp only at w
  split at w
  ·rw [R_non] at hy;subst hy
   exact Ef pins s σ H _ _ v u Q I rx ry ⟨rfl,by rw [hx.nonB];exact w.here rh (R_bl.mpr rfl)⟩
  ·rw [R_bl] at hy;subst hy
   exact AV pins s σ H _ _ v u Q I rx ry ⟨_,rfl,by rw [hx.blB];exact w.here rh (R_bl.mpr rfl)⟩
  ·exact w.elim
 | Lt =>
  simp only at w
  split at w
  ·rw [R_int] at hx hy;subst hx hy
   exact HZ pins s σ H _ _ v u Q I rx ry ⟨_,_,rfl,rfl,w.here rh (R_bl.mpr rfl)⟩
  ·exact w.elim
 | LtE =>
  simp only at w
  split at w
  ·rw [R_int] at hx hy;subst hx hy
   exact Ii pins s σ H _ _ v u Q I rx ry ⟨_,_,rfl,rfl,w.here rh (R_bl.mpr rfl)⟩
  ·exact w.elim
 | Gt =>
  simp only at w
  split at w
  ·rw [R_int] at hx hy;subst hx hy
   exact IW pins s σ H _ _ v u Q I rx ry ⟨_,_,rfl,rfl,w.here rh (R_bl.mpr rfl)⟩
  ·exact w.elim
 | GtE =>
  simp only at w
  split at w
  ·rw [R_int] at hx hy;subst hx hy
   exact Iu pins s σ H _ _ v u Q I rx ry ⟨_,_,rfl,rfl,w.here rh (R_bl.mpr rfl)⟩
  ·exact w.elim
 | In =>
  simp only at w
  split at w
  ·rw [R_str] at hx hy;subst hx hy
   exact Ak pins s σ H _ _ v u Q I rx ry ⟨_,_,rfl,rfl,w.here rh (R_bl.mpr rfl)⟩
  ·rw [R_int] at hx;subst hx
   obtain ⟨ns,rfl,w⟩:=w
   obtain ⟨a,ys,rfl,g,r⟩:=R_tup.mp hy
   obtain rfl:=rX r
   refine Ax pins s σ H _ _ v u Q I rx ry ⟨a,_,rfl,.inr g,rfl,ml,?_⟩
   rw [if_neg Bool.false_ne_true,sO]
   exact w.here rh (R_bl.mpr rfl)
  ·exact w.elim
 | NotIn =>
  simp only at w
  split at w
  ·rw [R_int] at hx;subst hx
   obtain ⟨ns,rfl,w⟩:=w
   obtain ⟨a,ys,rfl,g,r⟩:=R_tup.mp hy
   obtain rfl:=rX r
   refine sY pins s σ H _ _ v u Q I rx ry ⟨a,_,rfl,.inr g,rfl,ml,?_⟩
   rw [if_pos rfl,sO]
   exact w.here rh (R_bl.mpr rfl)
  ·exact w.elim
theorem FL:IxR X (ER X.K ixW):=by
 intro value slice pins s σ H x' y' v u Q I rx ry h hs
 obtain ⟨m,st,x,y,rh,hx,hy,w⟩:=h
 cases y with
 | int i =>
  rw [R_int] at hy;subst hy
  rcases yF w with ⟨z,c,rfl,h1,h2,w⟩|⟨xs,z,h1,h2,w⟩
  ·rw [R_str] at hx;subst hx
   exact FO value slice pins s σ H _ _ v u Q I rx ry ⟨_,_,c,rfl,rfl,e6 h1,h2,w.here rh (R_str.mpr rfl)⟩ hs
  obtain ⟨a,ys,rfl,g,r⟩:=kG rh hx h1
  obtain ⟨y,e,ry'⟩:=r.atI h2
  rcases g with g|g
  ·exact ED value slice pins s σ H _ _ v u Q I rx ry ⟨a,ys,_,y,rfl,rfl,g,e,w.here rh ry'⟩ hs
  ·exact Gc value slice pins s σ H _ _ v u Q I rx ry ⟨a,ys,_,y,rfl,rfl,g,e,w.here rh ry'⟩ hs
 | _=>exact w.elim
theorem jh {prog:Program} {w:World} {A:Around} {E:Value→Shared→Prop} {s:Shared} {t sl:Addr} {items:Array Value} {vl vu:Value} {lo hi:Option Int} {Q:Value→Shared→Prop} (ht:IsTup s.heap t items) (hs:s.heap.IsSliceOf sl vl vu .none) (pl:IsPart vl lo) (pu:IsPart vu hi)
  (hw:HT.sIx items.size 0 lo=0∧HT.sIx items.size items.size hi=items.size) (h:Q (.ref t) s):wpAny (model prog w) A (getItem (.ref t) (.ref sl)) Q E s:=by
 obtain ⟨os,hos,hcs,hds⟩:=id hs
 have hTs:s.TypeIs (.ref sl) "slice":=⟨os,hos,hcs⟩
 unfold getItem
 try with_reducible refine wpAny_holding ?_
 first|refine wpAny_bind (wpAny_pure ?_)|skip
 refine wpAny_bind (wpAny_sequenceKey ht.typeIs (by decide) ?_)
 refine wpAny_bind (wpAny_callSpecial?_slot (name:=Str.ofString "__getitem__") ht.typeIs PyProof.Rows.slot_tuple_getitem
  (wpAny_call_entry PyProof.Rows.slot_tuple_getitem ht.typeIs entry_tuple_getitem ?_ (args_tuple_getitem _ _)))
 show wpAny _ _ (Builtin.Tuple.tupleItemsOf (.ref t) >>= _) _ _ s
 refine wpAny_bind (tupleItemsOf_ ht ?_)
 refine wpAny_bind (wpAny_typeOf hTs ?_)
 rw [if_pos (by decide)]
 refine wpAny_bind (HT.sliceApplied_gen hs pl pu ?_)
 have hyes:((((HT.sIx items.size 0 lo:Nat):Int) == 0 && (1:Int) == 1 && (HT.sIx items.size items.size hi-HT.sIx items.size 0 lo) == items.size)=true):=by
  rw [hw.1,hw.2]
  simp
 show wpAny _ _ (if (((HT.sIx items.size 0 lo:Nat):Int) == 0 && (1:Int) == 1 && (HT.sIx items.size items.size hi-HT.sIx items.size 0 lo) == items.size)=true then _ else _) _ _ s
 rw [if_pos hyes]
 unfold Builtin.Tuple.tupleIsExact
 refine wpAny_bind (wpAny_bind (wpAny_typeOf ht.typeIs (wpAny_pure ?_)))
 rw [if_pos (by simp)]
 exact wpAny_bind (wpAny_rule (wpAny_pure ⟨_,rfl,wpAny_pure h⟩))
noncomputable def Ip (K:PySem.W.Frag):V→Option Int→Option Int→Hp→VK→Prop:=fun x' lo hi H Q=>∃m st x,RH K m H st∧R K m H x x'∧slW x lo hi st (post K m H Q)
theorem xq {ys:List V} {lo hi:Option Int} (h:HT.sIx ys.length 0 lo=0∧HT.sIx ys.length ys.length hi=ys.length):qc ys lo hi=ys:=by
 unfold qc
 rw [h.1,h.2,List.drop_zero,Nat.sub_zero,List.take_length]
theorem yr {v:Value} {p:Option Int} (h:IsPart v p):∃q:Option (Int × Tok),v=partValue q∧q.map (·.1)=p:=by
 cases h with
 | none=>exact ⟨none,rfl,rfl⟩
 | int i t=>exact ⟨some (i,t),rfl,rfl⟩
theorem EI {z:Str} {t:Tok} {l u:Option (Int × Tok)} {lo hi:Option Int} {Q:Value→Shared→Prop} {s:Shared} (e:(l.map (·.1),u.map (·.1))=(lo,hi)) (h1:z.length≤100000) (h:∀tk t',Q (.str (D3 z lo hi) t') { s with toks:=tk }):(sliceMade z t l u none).post Q s:=by
 cases e
 unfold sliceMade
 have h:∀tk t',Q (.str (if ((slicePicked z l u none).length == z.length)=true then z else ⟨((slicePicked z l u none).filterMap (z.cps[·]?)).toArray⟩) t') { s with toks:=tk }:=h
 cases q:((slicePicked z l u none).length == z.length) with
 | true =>
  rw [q] at h
  exact h s.toks t
 | false =>
  rw [q] at h
  refine ⟨?_,h _ _⟩
  show ((slicePicked z l u none).filterMap (z.cps[·]?)).toArray.size≤sizeLine
  rw [List.size_toArray]
  refine Nat.le_trans (List.length_filterMap_le _ _) (Nat.le_trans ?_ (e6 h1))
  refine sliceRange_length_le _ _ _ _ (fun _=>?_) fun z=>absurd (show (1:Int) > 0 by decide) z
  cases l <;> cases u <;> constructor <;> simp only [Option.map,Option.getD,show (1:Int) > 0 by decide,if_true] <;> first|omega|(split <;> omega)
theorem ID:SlR X (Ip X.K):=by
 intro pins s σ H x' v vl vu lo hi sl Q I rx hs pl pu h
 obtain ⟨m,st,x,rh,hx,w⟩:=h
 unfold slW at w
 split at w
 ·rename_i z
  rw [R_str] at hx
  subst hx
  obtain ⟨t,rfl⟩:=rx
  obtain ⟨h1,w⟩:=w
  obtain ⟨l,el,pl'⟩:=yr pl
  obtain ⟨u,eu,pu'⟩:=yr pu
  subst el eu
  refine ⟨"str",_,PyProof.Rows.slot_str_getitem.lookup,typeIs_str _ _ _,?_⟩
  refine wpAny_getItem_str_slice (l:=l) (u:=u) (st:=none) hs rfl (EI ?_ h1 fun tk t'=>⟨.str (D3 z lo hi),H,I.tok tk,⟨t',rfl⟩,w.here rh (R_str.mpr rfl)⟩)
  rw [pl',pu']
 ·rw [R_tup] at hx
  obtain ⟨a,ys,rfl,g,r⟩:=hx
  by_cases hw:HT.sIx ys.length 0 lo=0∧HT.sIx ys.length ys.length hi=ys.length
  ·cases rx
   obtain ⟨its,r',ht,hz⟩:=I.tuple g
   have hlen:its.toArray.size=ys.length:=by rw [List.size_toArray];exact r'.length.symm
   refine ⟨"tuple",_,PyProof.Rows.slot_tuple_getitem.lookup,ht.typeIs,jh ht hs pl pu (by rw [hlen];exact hw) ?_⟩
   refine ⟨.ref a,H,I,rfl,w.here rh (R_tup.mpr ⟨a,ys,rfl,g,?_⟩)⟩
   have:=r.cut lo hi
   rw [xq hw] at this
   exact this
  ·exact Ga pins s σ H _ v vl vu lo hi sl Q I rx hs pl pu ⟨a,ys,rfl,g,hw,fun p hp=>w.newT rh (r.cut lo hi) hp⟩
 ·obtain ⟨xs,h1,w⟩:=w
  obtain ⟨a,ys,rfl,g,r⟩:=eX rh hx h1
  exact Ey pins s σ H _ v vl vu lo hi sl Q I rx hs pl pu ⟨a,ys,rfl,g,fun p hp=>w.newL rh (r.cut lo hi) hp⟩
theorem Rs.one' {K:PySem.W.Frag} {m:List Addr} {H:Hp} {x:PV} {ys:List V} (h:Rs K m H [x] ys):∃y,ys=[y]∧R K m H x y:=by
 rw [bj] at h
 obtain ⟨y,r,rfl,h1,h2⟩:=h
 rw [Rs_nil] at h2
 subst h2
 exact ⟨y,rfl,h1⟩
theorem Rs.two' {K:PySem.W.Frag} {m:List Addr} {H:Hp} {x z:PV} {ys:List V} (h:Rs K m H [x,z] ys):∃y u,ys=[y,u]∧R K m H x y∧R K m H z u:=by
 rw [bj] at h
 obtain ⟨y,r,rfl,h1,h2⟩:=h
 obtain ⟨u,rfl,h3⟩:=h2.one'
 exact ⟨y,u,rfl,h1,h3⟩
theorem rO {K:PySem.W.Frag} {m:List Addr} {H:Hp}:∀ {xs:List PV} {bs:List Bool} {ys:List V} {us:List Value},iU xs=some bs→Rs K m H xs ys→Vals ys us→LSm.BoolsAre us bs
 | [],bs,ys,us,e,h,r=>by
  rw [Rs_nil] at h;subst h
  cases r
  cases e
  exact .nil
 | x::xs,bs,ys,us,e,h,r=>by
  rw [bj] at h
  obtain ⟨y,q,rfl,h1,h2⟩:=h
  cases x with
  | bl b =>
   cases r with
   | cons r1 r2 =>
    rw [R_bl] at h1
    subst h1
    cases r1
    unfold iU at e
    cases z:iU xs with
    | none=>rw [z] at e;cases e
    | some bs' =>
     rw [z] at e
     cases e
     exact .cons b (rO z h2 r2)
  | _=>cases e
theorem zN {l:Addr} {vs:List Value} {bs:List Bool} {P:Program} {w:World} {A:Around} {E:Value→Shared→Prop} {s:Shared} {Q:Value→Shared→Prop} (hh:A.handled=none) (hl:s.heap.IsList l vs.toArray) (hb:LSm.BoolsAre vs bs)
  (h:∀h' tk,(∀b x,s.heap.get? b=some x→h'.get? b=some x)→Q (.bool (bs.all id)) { s with heap:=h',toks:=tk }):wpAny (model P w) A (call (.builtin "all") [.ref l]) Q E s:=by
 have hlt:l<s.heap.objs.size:=by obtain ⟨_,e,_⟩:=hl;exact Heap.lt_size e
 refine call_all_walk (wpAny_pyIter_list hl ?_)
 refine ⟨s.heap.objs.size,[s.heap.objs.size,l],[s.heap.objs.size],vs.toArray.size,_,_,fun i=>(bs[i]?).getD true,rfl,Walks.list (A:=A.in1) hh _ l (Nat.ne_of_lt hlt) vs.toArray,
  ⟨⟨_,Heap.get?_push_size _ rfl,rfl,rfl⟩,hl.push _⟩,fun i v s' Q' E' hP hQ=>?_,fun h' tk hk=>?_⟩
 ·obtain ⟨b,e,rfl⟩:=hb.get i v (by simpa using hP)
  simp only [e,Option.getD_some] at hQ
  exact wpAny_truthy_bool hQ
 ·have e:((List.range vs.toArray.size).all fun i=>(bs[i]?).getD true)=bs.all id:=by
   rw [List.size_toArray,hb.length];exact LSm.range_all bs
  rw [e]
  exact h h' tk (LSm.kept_iter hk)
noncomputable def IA:B→Value
 | .len=>.builtin "len"
 | .max2=>.builtin "max"
 | .min2=>.builtin "min"
 | .divmod=>.builtin "divmod"
 | .int1=>.type "int"
 | .str1=>.type "str"
 | .tuple1=>.type "tuple"
 | .list1=>.type "list"
 | .all1=>.builtin "all"
 | .any1=>.builtin "any"
 | .abs1=>.builtin "abs"
 | .sorted1=>.builtin "sorted"
 | .repr1=>.builtin "repr"
theorem Hu (hc:X.calm=true) (hgd:X.A.guards=some []) (hun:X.A.units+64<cLine) (b:B):gK X (IA b) (HU X.K (fO b)):=by
 intro pins s σ H xs' us Q I r h
 obtain ⟨m,st,xs,rh,hx,w⟩:=h
 cases b with
 | len =>
  obtain ⟨x0,rfl,w⟩:=ck w
  obtain ⟨y,rfl,hy⟩:=hx.one'
  rcases wA w with ⟨z,rfl,h1,w⟩|⟨ys,h1,w⟩
  ·rw [R_str] at hy;subst hy
   exact rP pins s σ H _ us Q I r ⟨_,rfl,e6 h1,w.here rh (R_int.mpr rfl)⟩
  obtain ⟨a,zs,rfl,g,rz⟩:=kG rh hy h1
  refine rY pins s σ H _ us Q I r ⟨a,zs,rfl,g,?_⟩
  have:=w.here rh (x:=V.int ys.length) (R_int.mpr rfl)
  rw [rz.len] at this
  exact this
 | max2 =>
  obtain ⟨x0,y0,rfl,w⟩:=gh w
  obtain ⟨i,j,rfl,rfl,w⟩:=cz w
  obtain ⟨y,u,rfl,hy,hu⟩:=hx.two'
  rw [R_int] at hy hu;subst hy hu
  exact Aa hc pins s σ H _ us Q I r ⟨_,_,rfl,w.here rh (R_int.mpr rfl)⟩
 | min2 =>
  obtain ⟨x0,y0,rfl,w⟩:=gh w
  obtain ⟨i,j,rfl,rfl,w⟩:=cz w
  obtain ⟨y,u,rfl,hy,hu⟩:=hx.two'
  rw [R_int] at hy hu;subst hy hu
  exact Ap hc pins s σ H _ us Q I r ⟨_,_,rfl,w.here rh (R_int.mpr rfl)⟩
 | divmod =>
  obtain ⟨x0,y0,rfl,w⟩:=gh w
  obtain ⟨i,j,rfl,rfl,w⟩:=cz w
  obtain ⟨y,u,rfl,hy,hu⟩:=hx.two'
  rw [R_int] at hy hu;subst hy hu
  refine sC pins s σ H _ us Q I r ⟨_,_,rfl,w.1,fun p hp=>w.2.newT rh ?_ hp⟩
  rw [Rs_cons',Rs_cons',Rs_nil,R_int,R_int]
  exact ⟨rfl,rfl,rfl⟩
 | int1=>exact False.elim w
 | str1=>exact False.elim w
 | tuple1 =>
  obtain ⟨x0,rfl,w⟩:=ck w
  obtain ⟨ys,h1,w⟩:=w
  obtain ⟨y,rfl,hy⟩:=hx.one'
  obtain ⟨a,zs,rfl,g,rz⟩:=kG rh hy h1
  refine p6 pins s σ H _ us Q I r ⟨a,zs,rfl,?_⟩
  rcases g with g|g
  ·exact .inl ⟨g,fun p hp=>w.newT rh rz hp⟩
  ·exact .inr ⟨g,w.here rh (R_tup.mpr ⟨a,zs,rfl,g,rz⟩)⟩
 | list1=>exact False.elim w
 | all1 =>
  obtain ⟨x0,rfl,w⟩:=ck w
  obtain ⟨ys,bs,h1,h2,w⟩:=w
  obtain ⟨y,rfl,hy⟩:=hx.one'
  obtain ⟨a,zs,rfl,g,rz⟩:=eX rh hy h1
  obtain ⟨u,rfl,ru⟩:=uo r
  cases ru
  obtain ⟨its,ri,pl,_⟩:=I.list g
  exact zN (I.ok.hd hc) pl.isList (rO h2 rz ri) fun h' tk k=>⟨.bl _,H,I.kept k,rfl,w.here rh (R_bl.mpr rfl)⟩
 | any1=>exact False.elim w
 | abs1 =>
  obtain ⟨x0,rfl,w⟩:=ck w
  obtain ⟨i,rfl,w⟩:=yY w
  obtain ⟨y,rfl,hy⟩:=hx.one'
  rw [R_int] at hy;subst hy
  refine CO pins s σ H _ us Q I r ⟨_,rfl,?_⟩
  have:=w.here rh (R_int.mpr rfl)
  have e:(if i<0 then -i else i)=(i.natAbs:Int):=by split <;> omega
  rw [e]
  exact this
 | sorted1=>exact False.elim w
 | repr1=>exact False.elim w
theorem zD {st:AH} {x:PV} {n:String} (h:cZ st x=some n):n∈["NoneType","bool","int","str","list","tuple","dict"]:=by
 cases x with
 | ref k =>
  unfold cZ at h
  simp only at h
  split at h <;> cases h <;> decide
 | _=>cases h <;> decide
theorem Ei {pins:List (Addr × Obj)} {s:Shared} {σ:L2.St} {H:Hp} {A:Around} {E:Value→Shared→Prop} {K:PySem.W.Frag} {m:List Addr} {st:AH} {x:PV} {x':V} {u:Value} {n c:String} {Q:Value→Shared→Prop} (I:Inv X pins σ H s) (rh:RH X.K m H st) (hx:R X.K m H x x')
  (ru:RelV x' u) (hk:cZ st x=some n) (hc:c∈["int","bool","str","tuple","list","dict"]) (h:∀tk,Q (.bool (dJ c n)) { s with toks:=tk }) :
  wpAny (model X.prog X.w) A (call (.builtin "isinstance") [u,.type c]) Q E s:=by
 have e:=Cf X.K c hc n (zD hk)
 cases x with
 | non=>cases hk;rw [R_non] at hx;subst hx;exact eY I ru .non e h
 | bl b=>cases hk;rw [R_bl] at hx;subst hx;exact eY I ru (.bl b) e h
 | fn b=>cases hk
 | int b=>cases hk;rw [R_int] at hx;subst hx;exact eY I ru (.int b) e h
 | str b=>cases hk;rw [R_str] at hx;subst hx;exact eY I ru (.str b) e h
 | tup xs =>
  cases hk
  rw [R_tup] at hx
  obtain ⟨a,ys,rfl,g,r⟩:=hx
  cases ru
  obtain ⟨its,_,⟨o,ho,hcl,_⟩,_⟩:=I.tuple g
  exact PySem.W.kia_one PySem.W.kitx_tuple I.kIn ⟨o,ho,hcl⟩ e (fun z=>nomatch z) h
 | rdl xs =>
  cases hk
  rw [fC] at hx
  obtain ⟨a,ys,rfl,g,r⟩:=hx
  cases ru
  obtain ⟨its,_,pl,_⟩:=I.list g.sq
  obtain ⟨o,ho,hcl,_⟩:=pl.isList
  exact PySem.W.kia_one PySem.W.kitx_list I.kIn ⟨o,ho,hcl⟩ e (fun z=>nomatch z) h
 | ref k =>
  unfold cZ at hk
  simp only at hk
  split at hk
  ·cases hk
   rename_i q
   obtain ⟨a,ys,rfl,_,h1,h2⟩:=rh.lst q hx
   exact eY I ru (.lst h1) e h
  ·cases hk
   rename_i kvs q
   rw [jt] at hx
   obtain ⟨a,e1,rfl⟩:=hx
   obtain ⟨ys,h1,_⟩:=rh.at_ k _ a q e1
   exact eY I ru (.dK h1) e h
  ·cases hk
noncomputable def y6:M→String
 | .append=>"list.append"
 | .pop0=>"list.pop"
 | .extend=>"list.extend"
 | .insert=>"list.insert"
 | .count=>"list.count"
noncomputable def Ib (K:PySem.W.Frag) (w:PV→List PV→AH→EK→Prop):V→List V→Hp→VK→Prop:=fun x' xs' H Q=>∃m st x xs,RH K m H st∧R K m H x x'∧Rs K m H xs xs'∧w x xs st (post K m H Q)
theorem FV (c:M):MtR X (y6 c) (Ib X.K (sL c)):=by
 intro pins s σ H x' vs' v us Q I rx rv h
 obtain ⟨m,st,x,vs,rh,hx,hv,w⟩:=h
 cases c with
 | append =>
  obtain ⟨n0,rfl,w⟩:=fz w
  obtain ⟨x0,rfl,w⟩:=ck w
  obtain ⟨xs,h1,h2,w⟩:=w
  obtain ⟨a,ys,rfl,e,g,r⟩:=rh.lst h1 hx
  obtain ⟨y,rfl,hy⟩:=hv.one'
  exact rc pins s σ H _ _ v us Q I rx rv ⟨a,ys,y,rfl,rfl,g,by rw [←r.len];exact yn h2,w.setL rh e (r.app (.one hy)) (R_non.mpr rfl)⟩
 | pop0 =>
  obtain ⟨n0,rfl,w⟩:=fz w
  obtain ⟨rfl,w⟩:=rC w
  obtain ⟨xs,z,h1,h2,w⟩:=w
  obtain ⟨a,ys,rfl,e,g,r⟩:=rh.lst h1 hx
  rw [Rs_nil] at hv;subst hv
  obtain ⟨y,e2,ry⟩:=r.get h2
  rw [r.len] at e2
  exact Hj pins s σ H _ _ v us Q I rx rv ⟨a,ys,y,rfl,rfl,g,e2,w.setL rh e r.dropLast ry⟩
 | count=>exact False.elim w
 | extend =>
  obtain ⟨n0,rfl,w⟩:=fz w
  obtain ⟨x0,rfl,w⟩:=ck w
  obtain ⟨k0,rfl,w⟩:=fz w
  obtain ⟨xs,zs,h1,h2,h3,w⟩:=w
  obtain ⟨a,ys,rfl,e,g,r⟩:=rh.lst h1 hx
  obtain ⟨y,rfl,hy⟩:=hv.one'
  obtain ⟨b,ys2,rfl,e2,g2,r2⟩:=rh.lst h2 hy
  exact zI pins s σ H _ _ v us Q I rx rv ⟨a,b,ys,ys2,rfl,rfl,g,g2,by rw [←r.len,←r2.len];exact e6 h3,w.setL rh e (r.app r2) (R_non.mpr rfl)⟩
 | insert=>exact False.elim w
noncomputable def Jl (K:PySem.W.Frag):V→V→V→Hp→(Hp→Prop)→Prop:=fun o' i' v' H Q=>∃m st o i v,RH K m H st∧R K m H o o'∧R K m H i i'∧R K m H v v'∧uN o i v st fun st'=>∀H',Ext K m H m H'→RH K m H' st'→Q H'
theorem Hk:Hm X (Jl X.K):=by
 intro pins s σ H o' i' v' ov iv u Q I ro ri rv h
 obtain ⟨m,st,o,i,v,rh,ho,hi,hv,w⟩:=h
 unfold uN at w
 split at w
 ·obtain ⟨xs,h1,q,h2,w⟩:=w
  obtain ⟨a,ys,rfl,e,g,r⟩:=rh.lst h1 ho
  rw [R_int] at hi;subst hi
  exact CM pins s σ H _ _ _ ov iv u Q I ro ri rv ⟨a,ys,_,q,rfl,rfl,g,by rw [←r.len];exact h2,w _ (Ext.set (ys:=ys) rh e) (rh.setL e (r.set hv q))⟩
 ·exact w.elim
noncomputable def JC (K:PySem.W.Frag):V→Hp→(Bool→Hp→Prop)→Prop:=fun x' H Q=>∃m st x,RH K m H st∧R K m H x x'∧fX x st (postB K m H Q)
theorem ve:∀ {x':V} {H:Hp} {Q:Bool→Hp→Prop},JC X.K x' H Q→∃k,Gb X.K x' H k∧Q k H:=by
 intro x' H Q h
 obtain ⟨m,st,x,rh,hx,w⟩:=h
 unfold fX at w
 split at w
 ·rw [R_bl] at hx;subst hx;exact ⟨_,rfl,w m H (Ext.refl _ _ _) rh⟩
 ·rw [R_non] at hx;subst hx;exact ⟨_,rfl,w m H (Ext.refl _ _ _) rh⟩
 ·rw [R_int] at hx;subst hx;exact ⟨_,rfl,w m H (Ext.refl _ _ _) rh⟩
 ·exact w.elim
 ·obtain ⟨xs,h1,w⟩:=w
  obtain ⟨a,ys,rfl,g,r⟩:=kG rh hx h1
  have e:(!xs.isEmpty)=!ys.isEmpty:=by
   have:=r.len
   cases xs <;> cases ys <;> first|rfl|(simp at this)
  refine ⟨_,?_,w m H (Ext.refl _ _ _) rh⟩
  rw [e]
  rcases g with g|g
  ·exact .inl ⟨ys,g,rfl⟩
  ·exact .inr (.inl ⟨ys,g,rfl⟩)
theorem Gy (op:Operator):PIp X op (ER X.K (qF op)):=by
 intro pins s σ H x' y' v u Q I rx ry h
 obtain ⟨m,st,x,y,rh,hx,hy,w⟩:=h
 unfold qF at w
 split at w
 ·rw [R_int] at hx hy;subst hx hy
  exact Hf pins s σ H _ _ v u Q I rx ry ⟨_,_,rfl,rfl,w.here rh (R_int.mpr rfl)⟩
 ·rw [R_int] at hx hy;subst hx hy
  exact GB pins s σ H _ _ v u Q I rx ry ⟨_,_,rfl,rfl,w.here rh (R_int.mpr rfl)⟩
 ·obtain ⟨xs,zs,h1,h2,h3,w⟩:=w
  obtain ⟨a,ys,rfl,e,g,r⟩:=rh.lst h1 hx
  obtain ⟨b,ys2,rfl,e2,g2,r2⟩:=rh.lst h2 hy
  exact Hb pins s σ H _ _ v u Q I rx ry ⟨a,b,ys,ys2,rfl,rfl,g,g2,by rw [←r.len,←r2.len];exact e6 h3,w.setL rh e (r.app r2) hx⟩
 ·exact w.elim
end
end FW
set_option Elab.async false
set_option linter.all false
set_option maxRecDepth 100000
set_option maxHeartbeats 1000000
namespace FW
open PySem PySem.Spec PyProof.Rows L2 HX
mutual
noncomputable def PV.same:PV→PV→Bool
 | .non,y=>match y with | .non=>true|_=>false
 | .bl a,y=>match y with | .bl b=>a == b|_=>false
 | .int a,y=>match y with | .int b=>a == b|_=>false
 | .str a,y=>match y with | .str b=>a == b|_=>false
 | .tup xs,y=>match y with | .tup ys=>PV.sames xs ys|_=>false
 | .ref a,y=>match y with | .ref b=>a == b|_=>false
 | .rdl xs,y=>match y with | .rdl ys=>PV.sames xs ys|_=>false
 | .fn a,y=>match y with | .fn b=>a == b|_=>false
noncomputable def PV.sames:List PV→List PV→Bool
 | [],y=>y.isEmpty
 | x::xs,y=>match y with|y::ys=>x.same y && PV.sames xs ys | []=>false
end
mutual
theorem PV.same_eq:∀ {x y:PV},x.same y=true→x=y
 | .non,y,h=>by cases y with|non=>rfl|_=>exact Bool.noConfusion (show false=true from h)
 | .bl a,y,h=>by cases y with|bl b=>rw [eq_of_beq (show (a == b)=true from h)] | _=>exact Bool.noConfusion (show false=true from h)
 | .int a,y,h=>by cases y with|int b=>rw [eq_of_beq (show (a == b)=true from h)] | _=>exact Bool.noConfusion (show false=true from h)
 | .str a,y,h=>by cases y with|str b=>rw [eq_of_beq (show (a == b)=true from h)] | _=>exact Bool.noConfusion (show false=true from h)
 | .ref a,y,h=>by cases y with|ref b=>rw [eq_of_beq (show (a == b)=true from h)] | _=>exact Bool.noConfusion (show false=true from h)
 | .tup xs,y,h=>by cases y with|tup ys=>rw [PV.sames_eq (show PV.sames xs ys=true from h)] | _=>exact Bool.noConfusion (show false=true from h)
 | .rdl xs,y,h=>by cases y with|rdl ys=>rw [PV.sames_eq (show PV.sames xs ys=true from h)] | _=>exact Bool.noConfusion (show false=true from h)
 | .fn a,y,h=>by cases y with|fn b=>rw [eq_of_beq (show (a == b)=true from h)] | _=>exact Bool.noConfusion (show false=true from h)
theorem PV.sames_eq:∀ {x y:List PV},PV.sames x y=true→x=y
 | [],y,h=>by cases y with|nil=>rfl|cons a b=>exact Bool.noConfusion (show false=true from h)
 | x::xs,y,h=>by
  cases y with
  | nil=>exact Bool.noConfusion (show false=true from h)
  | cons y ys =>
   have h:=(Bool.and_eq_true _ _).mp (show (x.same y && PV.sames xs ys)=true from h)
   rw [PV.same_eq h.1,PV.sames_eq h.2]
end
structure Cfg where
 N:List Str
 names:List (Str × NameKind)
 fns:List Str
 lim:Nat
 blts:List Str
 gl:List (Str × PV)
 pc:Bool:=false
 hm:Option Nat:=none
noncomputable def Cfg.vis (c:Cfg) (x:Str):Bool:=(c.names.lookup x == some .local || c.names.lookup x == some .cell || c.names.lookup x == some .free) && !(x == ("__debug__":Str)) && !(x == ("__classdict__":Str))
noncomputable def Cfg.loc (c:Cfg) (x:Str):Bool:=c.names.lookup x == some .local || c.names.lookup x == some .cell
noncomputable def Cfg.glb (c:Cfg) (x:Str):Bool:=c.names.lookup x == some .globalImplicit && !(x == ("__debug__":Str)) && !(x == ("__name__":Str))
noncomputable def Cfg.blt (c:Cfg) (x:Str):Bool:=c.glb x && c.blts.contains x
noncomputable def Cfg.fn (c:Cfg) (f:Nat) (x:Str):Bool:=c.fns[f]? == some x && decide (f<c.lim) && c.glb x
noncomputable def nj:B→Str
 | .len=>"len"
 | .max2=>"max"
 | .min2=>"min"
 | .divmod=>"divmod"
 | .int1=>"int"
 | .str1=>"str"
 | .tuple1=>"tuple"
 | .list1=>"list"
 | .all1=>"all"
 | .any1=>"any"
 | .abs1=>"abs"
 | .sorted1=>"sorted"
 | .repr1=>"repr"
noncomputable def sQ:M→Str
 | .append=>"append"
 | .pop0=>"pop"
 | .extend=>"extend"
 | .insert=>"insert"
 | .count=>"count"
noncomputable def kinds:List String:=["int","bool","str","tuple","list","dict"]
noncomputable def pT:Expr→Bool
 | .ListComp ..=>false
 | .SetComp ..=>false
 | .DictComp ..=>false
 | _=>true
noncomputable def xh:Expr→Bool
 | .Name ..=>true
 | .Call ..=>true
 | .Subscript ..=>true
 | _=>false
mutual
noncomputable def Tg.low (n:Nat):Tg→Bool
 | .name i=>decide (i<n)
 | .tup ts=>Tgs.low n ts
 | .ltup ts=>Tgs.low n ts
 | .sub _ _=>false
noncomputable def Tgs.low (n:Nat):Tgs→Bool
 | .nil=>true
 | .cons t ts=>Tg.low n t && Tgs.low n ts
end
noncomputable def oJ:Expr→Bool
 | .Set ..=>false
 | _=>true
noncomputable def Cfg.inner (c:Cfg) (nt:List Str) (caps:List Nat) (sc:Scope):Cfg:={ c with N:=nt++caps.filterMap (c.N[·]?),names:=sc.names,pc:=false,hm:=none }
noncomputable def z_ (k:Option NameKind):Bool:=k == some .cell || k == some .free
noncomputable def Cfg.block (c:Cfg) (nt:List Str) (caps:List Nat) (sc:Scope):Bool :=
 sc.kind == .function && sc.names.all (fun y=>!(y.2 == .cell)) && sc.names.all (fun y=>!(y.2 == .local) || sc.names.lookup y.1 == some .local) && sc.names.all (fun y=>!(y.2 == .free) || z_ (c.names.lookup y.1))
  && caps.all (fun i=>decide (i<c.N.length)) && (caps.filterMap (c.N[·]?)).all (fun x=>sc.names.lookup x == some .free && z_ (c.names.lookup x)) && decide (nt++caps.filterMap (c.N[·]?)).Nodup
noncomputable def AY:It→Expr→Bool
 | .zip _ _,.Tuple ..=>true
 | .zip _ _,_=>false
 | .zip3 _ _ _,.Tuple ..=>true
 | .zip3 _ _ _,_=>false
 | .enum _,.Tuple ..=>true
 | .enum _,_=>false
 | .seq _,_ | .range1 _,_ | .range2 _ _,_ | .chars _,_ | .range3 _ _ _,_=>true
noncomputable def tD:Expr→Bool
 | .Name ..=>true
 | .List ..=>true
 | .Subscript ..=>true
 | _=>false
noncomputable def aO (x:Expr) (f:Str→Pos→Bool):Bool:=match x with | .Name y p=>f y p|_=>false
theorem ak {x:Expr} {f:Str→Pos→Bool} (h:aO x f=true):∃y p,x=.Name y p∧f y p=true:=by
 cases x with|Name y p=>exact ⟨y,p,rfl,h⟩|_=>exact Bool.noConfusion h
noncomputable def yp (x:Expr) (f:Int→Bool):Bool:=match x with | .Constant (.int j) _ _=>f j|_=>false
theorem zE {x:Expr} {f:Int→Bool} (h:yp x f=true):∃j k p,x=.Constant (.int j) k p∧f j=true:=by
 cases x with
 | Constant v k p=>cases v with|int j=>exact ⟨j,k,p,rfl,h⟩|_=>exact Bool.noConfusion h
 | _=>exact Bool.noConfusion h
noncomputable def Iq (x:Expr) (f:Bool→Bool):Bool:=match x with | .Constant (.bool j) _ _=>f j|_=>false
theorem Di {x:Expr} {f:Bool→Bool} (h:Iq x f=true):∃j k p,x=.Constant (.bool j) k p∧f j=true:=by
 cases x with
 | Constant v k p=>cases v with|bool j=>exact ⟨j,k,p,rfl,h⟩|_=>exact Bool.noConfusion h
 | _=>exact Bool.noConfusion h
noncomputable def ub (x:Expr) (f:Str→Bool):Bool:=match x with | .Constant (.str j) _ _=>f j|_=>false
theorem AM {x:Expr} {f:Str→Bool} (h:ub x f=true):∃j k p,x=.Constant (.str j) k p∧f j=true:=by
 cases x with
 | Constant v k p=>cases v with|str j=>exact ⟨j,k,p,rfl,h⟩|_=>exact Bool.noConfusion h
 | _=>exact Bool.noConfusion h
noncomputable def Ft (x:Expr):Bool:=match x with | .Constant .none _ _=>true|_=>false
theorem zZ {x:Expr} (h:Ft x=true):∃k p,x=.Constant .none k p:=by
 cases x with
 | Constant v k p=>cases v with|none=>exact ⟨k,p,rfl⟩|_=>exact Bool.noConfusion h
 | _=>exact Bool.noConfusion h
noncomputable def fw (x:Expr) (f:List Expr→Bool):Bool:=match x with | .Tuple xs _ _=>f xs|_=>false
theorem bH {x:Expr} {f:List Expr→Bool} (h:fw x f=true):∃xs k p,x=.Tuple xs k p∧f xs=true:=by
 cases x with|Tuple xs k p=>exact ⟨xs,k,p,rfl,h⟩|_=>exact Bool.noConfusion h
noncomputable def Bd (x:Expr) (f:List Expr→Bool):Bool:=match x with | .List xs _=>f xs|_=>false
theorem w4 {x:Expr} {f:List Expr→Bool} (h:Bd x f=true):∃xs p,x=.List xs p∧f xs=true:=by
 cases x with|List xs p=>exact ⟨xs,p,rfl,h⟩|_=>exact Bool.noConfusion h
noncomputable def on1 {α:Type} (xs:List α) (f:α→Bool):Bool:=match xs with | [a]=>f a|_=>false
theorem gY {α:Type} {xs:List α} {f:α→Bool} (h:on1 xs f=true):∃a,xs=[a]∧f a=true:=by
 cases xs with
 | nil=>exact Bool.noConfusion h
 | cons a t=>cases t with|nil=>exact ⟨a,rfl,h⟩|cons _ _=>exact Bool.noConfusion h
noncomputable def on2 {α:Type} (xs:List α) (f:α→α→Bool):Bool:=match xs with | [a,b]=>f a b|_=>false
theorem gT {α:Type} {xs:List α} {f:α→α→Bool} (h:on2 xs f=true):∃a b,xs=[a,b]∧f a b=true:=by
 cases xs with
 | nil=>exact Bool.noConfusion h
 | cons a t=>cases t with
  | nil=>exact Bool.noConfusion h
  | cons b t=>cases t with|nil=>exact ⟨a,b,rfl,h⟩|cons _ _=>exact Bool.noConfusion h
noncomputable def on3 {α:Type} (xs:List α) (f:α→α→α→Bool):Bool:=match xs with | [a,b,c]=>f a b c|_=>false
theorem Ev {α:Type} {xs:List α} {f:α→α→α→Bool} (h:on3 xs f=true):∃a b c,xs=[a,b,c]∧f a b c=true:=by
 cases xs with
 | nil=>exact Bool.noConfusion h
 | cons a t=>cases t with
  | nil=>exact Bool.noConfusion h
  | cons b t=>cases t with
   | nil=>exact Bool.noConfusion h
   | cons c t=>cases t with|nil=>exact ⟨a,b,c,rfl,h⟩|cons _ _=>exact Bool.noConfusion h
noncomputable def np {α:Type} (xs:List α) (f:α→List α→Bool):Bool:=match xs with|a::t=>f a t | []=>false
theorem aR {α:Type} {xs:List α} {f:α→List α→Bool} (h:np xs f=true):∃a t,xs=a::t∧f a t=true:=by
 cases xs with
 | nil=>exact Bool.noConfusion h
 | cons a t=>exact ⟨a,t,rfl,h⟩
noncomputable def ly {α:Type} (x:Option α) (f:α→Bool):Bool:=match x with|some a=>f a|none=>false
theorem jC {α:Type} {x:Option α} {f:α→Bool} (h:ly x f=true):∃a,x=some a∧f a=true:=by
 cases x with
 | none=>exact Bool.noConfusion h
 | some a=>exact ⟨a,rfl,h⟩
noncomputable def Cp (x:Expr) (f:List (Option Expr)→List Expr→Bool):Bool:=match x with | .Dict ks vs _=>f ks vs|_=>false
noncomputable def FI (x:Expr) (f:Expr→Operator→Expr→Bool):Bool:=match x with | .BinOp l o r _=>f l o r|_=>false
theorem zu {x:Expr} {f:Expr→Operator→Expr→Bool} (h:FI x f=true):∃l o r p,x=.BinOp l o r p∧f l o r=true:=by
 cases x with|BinOp l o r p=>exact ⟨l,o,r,p,rfl,h⟩|_=>exact Bool.noConfusion h
noncomputable def Ba (x:Expr) (f:Expr→Bool):Bool:=match x with | .UnaryOp .USub y _=>f y|_=>false
theorem zH {x:Expr} {f:Expr→Bool} (h:Ba x f=true):∃y p,x=.UnaryOp .USub y p∧f y=true:=by
 cases x with
 | UnaryOp o y p=>cases o with|USub=>exact ⟨y,p,rfl,h⟩|_=>exact Bool.noConfusion h
 | _=>exact Bool.noConfusion h
noncomputable def Du (x:Expr) (f:Expr→Bool):Bool:=match x with | .UnaryOp .Not y _=>f y|_=>false
theorem qX {x:Expr} {f:Expr→Bool} (h:Du x f=true):∃y p,x=.UnaryOp .Not y p∧f y=true:=by
 cases x with
 | UnaryOp o y p=>cases o with|Not=>exact ⟨y,p,rfl,h⟩|_=>exact Bool.noConfusion h
 | _=>exact Bool.noConfusion h
noncomputable def Bj (x:Expr) (f:Expr→CmpOp→Expr→Bool):Bool:=match x with | .Compare l os rs _=>on1 os fun o=>on1 rs fun r=>f l o r|_=>false
theorem rK {x:Expr} {f:Expr→CmpOp→Expr→Bool} (h:Bj x f=true):∃l o r p,x=.Compare l [o] [r] p∧f l o r=true:=by
 cases x with
 | Compare l os rs p =>
  obtain ⟨o,rfl,h⟩:=gY h
  obtain ⟨r,rfl,h⟩:=gY h
  exact ⟨l,o,r,p,rfl,h⟩
 | _=>exact Bool.noConfusion h
noncomputable def Db (x:Expr) (f:PySem.BoolOp→List Expr→Bool):Bool:=match x with | .BoolOp o xs _=>f o xs|_=>false
theorem jc {x:Expr} {f:PySem.BoolOp→List Expr→Bool} (h:Db x f=true):∃o xs p,x=.BoolOp o xs p∧f o xs=true:=by
 cases x with|BoolOp o xs p=>exact ⟨o,xs,p,rfl,h⟩|_=>exact Bool.noConfusion h
noncomputable def FG (x:Expr) (f:Expr→Expr→Expr→Bool):Bool:=match x with | .IfExp y l r _=>f y l r|_=>false
theorem zO {x:Expr} {f:Expr→Expr→Expr→Bool} (h:FG x f=true):∃y l r p,x=.IfExp y l r p∧f y l r=true:=by
 cases x with|IfExp y l r p=>exact ⟨y,l,r,p,rfl,h⟩|_=>exact Bool.noConfusion h
noncomputable def rm (x:Expr) (f:Expr→Expr→Bool):Bool:=match x with | .Subscript l r _=>f l r|_=>false
theorem f_ {x:Expr} {f:Expr→Expr→Bool} (h:rm x f=true):∃l r p,x=.Subscript l r p∧f l r=true:=by
 cases x with|Subscript l r p=>exact ⟨l,r,p,rfl,h⟩|_=>exact Bool.noConfusion h
noncomputable def yO (x:Expr) (f:Option Expr→Option Expr→Bool):Bool:=match x with | .Slice u v none _=>f u v|_=>false
theorem um {x:Expr} {f:Option Expr→Option Expr→Bool} (h:yO x f=true):∃u v p,x=.Slice u v none p∧f u v=true:=by
 cases x with
 | Slice u v w p=>cases w with|none=>exact ⟨u,v,p,rfl,h⟩|some _=>exact Bool.noConfusion h
 | _=>exact Bool.noConfusion h
noncomputable def GH (x:Expr) (f:Expr→Bool):Bool:=match x with | .Slice none none (some z) _=>f z|_=>false
noncomputable def cf (x:Expr) (f:Expr→List Expr→Pos→Bool):Bool:=match x with | .Call g xs [] p=>f g xs p|_=>false
theorem bc {x:Expr} {f:Expr→List Expr→Pos→Bool} (h:cf x f=true):∃g xs p,x=.Call g xs [] p∧f g xs p=true:=by
 cases x with
 | Call g xs ks p=>cases ks with|nil=>exact ⟨g,xs,p,rfl,h⟩|cons _ _=>exact Bool.noConfusion h
 | _=>exact Bool.noConfusion h
noncomputable def sV (x:Expr) (f:Expr→Str→Pos→Bool):Bool:=match x with | .Attribute y n p=>f y n p|_=>false
theorem xl {x:Expr} {f:Expr→Str→Pos→Bool} (h:sV x f=true):∃y n p,x=.Attribute y n p∧f y n p=true:=by
 cases x with|Attribute y n p=>exact ⟨y,n,p,rfl,h⟩|_=>exact Bool.noConfusion h
noncomputable def Eg (x:Expr) (f:Expr→List Comprehension→Scope→Pos→Bool):Bool:=match x with | .ListComp e gs sc p=>f e gs sc p|_=>false
theorem j8 {x:Expr} {f:Expr→List Comprehension→Scope→Pos→Bool} (h:Eg x f=true):∃e gs sc p,x=.ListComp e gs sc p∧f e gs sc p=true:=by
 cases x with|ListComp e gs sc p=>exact ⟨e,gs,sc,p,rfl,h⟩|_=>exact Bool.noConfusion h
theorem AR {α:Type} {x:Option α} (h:x.isNone=true):x=none:=by
 cases x with|none=>rfl|some _=>exact Bool.noConfusion h
noncomputable def IJ (x:Expr) (f:Arguments→Expr→Scope→Bool):Bool:=match x with | .Lambda a b sc _=>f a b sc|_=>false
noncomputable def IF (x:Arguments) (f:Str→Bool):Bool:=x.posonlyargs.isEmpty && x.vararg.isNone && x.kwonlyargs.isEmpty && x.kw_defaults.isEmpty && x.kwarg.isNone && x.defaults.isEmpty && on1 x.args fun a=>f a.arg
noncomputable def Cfg.lam (c:Cfg) (k:Nat) (y:Str) (caps:List Nat) (sc:Scope):Cfg:={ c with N:=y::caps.filterMap (c.N[·]?),names:=sc.names,lim:=k,pc:=false,hm:=none }
noncomputable def Cfg.lamOk (c:Cfg) (k:Nat) (y:Str) (caps:List Nat) (sc:Scope):Bool :=
 sc.kind == .function && !sc.isCoroutine && !sc.isGenerator && sc.names.all (fun y=>!(y.2 == .cell)) && sc.names.lookup y == some .local && sc.names.all (fun y=>!(y.2 == .local) || sc.names.lookup y.1 == some .local) && sc.names.all (fun y=>!(y.2 == .free) || z_ (c.names.lookup y.1))
  && decide (k+1<c.lim) && caps.all (fun i=>decide (i<c.N.length)) && (caps.filterMap (c.N[·]?)).all (fun x=>sc.names.lookup x == some .free && z_ (c.names.lookup x)) && decide (y::caps.filterMap (c.N[·]?)).Nodup
mutual
noncomputable def aS (c:Cfg):E→Expr→Bool
 | .var i,x=>aO x fun y _=>c.N[i]? == some y && c.vis y
 | .int i,x=>yp x fun j=>i == j
 | .bl i,x=>Iq x fun j=>i == j
 | .non,x=>Ft x
 | .str i,x=>ub x fun j=>i == j
 | .gv y v,x=>aO x fun z _=>z == y && c.glb y && ly (c.gl.lookup y) fun w=>w.same v
 | .tup es,x=>fw x fun xs=>fB c es xs
 | .lst es,x=>Bd x fun xs=>fB c es xs
 | .dct1 k i,x=>Cp x fun ks vs=>on1 ks fun ok=>ly ok fun kx=>ub kx fun k'=>on1 vs fun vx=>yp vx fun i'=>k == k' && i == i'
 | .dct0,x=>Cp x fun ks vs=>ks.isEmpty && vs.isEmpty
 | .bin op a b,x=>FI x fun l o r=>o == op && aS c a l && aS c b r
 | .neg a,x=>Ba x fun y=>aS c a y
 | .not a,x=>Du x fun y=>aS c a y
 | .cmp op a b,x=>Bj x fun l o r=>o == op && !behindInMarks o r && aS c a l && aS c b r
 | .bop k es,x=>Db x fun o xs=>(o == if k then .And else .Or) && fB c es xs && !xs.isEmpty
 | .ite t a b,x=>FG x fun y l r=>Ay c t y && aS c a l && aS c b r
 | .ix a b,x=>rm x fun l r=>kA r && aS c a l && aS c b r
 | .sl a lo hi,x=>rm x fun l r=>yO r fun u v=>aS c a l && F0 c lo u && F0 c hi v
 | .call f es,x=>cf x fun g xs _=>aO g fun y _=>c.fn f y && xs.all ao && fB c es xs
 | .blt b es,x=>cf x fun g xs _=>aO g fun y _=>y == nj b && c.blt y && xs.all ao && !xs.isEmpty && fB c es xs
 | .inst a t,x=>cf x fun g xs _=>aO g fun y _=>on2 xs fun l r=>aO r fun z _=>y == ("isinstance":Str) && c.blt y && ao l && z == (t:Str) && c.blt z && kinds.contains t && aS c a l
 | .met m o es,x=>cf x fun g xs cp=>sV g fun y n ap=>n == sQ m && ap.endLine == cp.line && xs.all ao && decide (xs.length≤2) && tD y && aS c o y && fB c es xs
 | .comp elt tg it ifs nt caps,x=>Eg x fun ex gs sc _=>on1 gs fun g=>g.is_async == 0 && AY it g.target && oJ g.iter && tg.low nt.length && c.block nt caps sc && Ci c it g.iter && rq (c.inner nt caps sc) tg g.target && rA (c.inner nt caps sc) ifs g.ifs && aS (c.inner nt caps sc) elt ex
 | .tmp a,x=>aS c a x
 | .bad,_=>true
 | .jrev a,x=>cf x fun g xs cp=>sV g fun y n ap=>ub y fun j=>on1 xs fun l=>rm l fun u r=>GH r fun z=>Ba z fun z1=>yp z1 fun i=>n == ("join":Str) && ap.endLine == cp.line && j == ("":Str) && i == 1 && aS c a u
 | .part a s,x=>cf x fun g xs cp=>sV g fun y n ap=>on1 xs fun l=>ub l fun j=>n == ("partition":Str) && ap.endLine == cp.line && j == s && !(s.length == 0) && tD y && aS c a y
 | .pcall i e,x=>c.pc && cf x fun g xs _=>aO g fun y _=>on1 xs fun l=>c.N[i]? == some y && c.vis y && ao l && aS c e l
 | .hm e be caps,x=>ly c.hm fun k=>cf x fun g xs _=>aO g fun y _=>on2 xs fun l r=>IJ r fun as b sc=>IF as fun z=>y == ("how_many":Str) && c.glb y && ao l && c.lamOk k z caps sc && aS c e l && aS (c.lam k z caps sc) be b
termination_by structural e=>e
noncomputable def fB (c:Cfg):Es→List Expr→Bool
 | .nil,xs=>xs.isEmpty
 | .cons e es,xs=>np xs fun y ys=>ao y && aS c e y && fB c es ys
termination_by structural e=>e
noncomputable def F0 (c:Cfg):O→Option Expr→Bool
 | .no,x=>x.isNone
 | .yes e,x=>ly x fun y=>aS c e y
termination_by structural e=>e
noncomputable def Ay (c:Cfg):E→Expr→Bool
 | .not a,x=>Du x fun y=>Ay c a y
 | .bop k es,x=>Db x fun o xs=>(o == if k then .And else .Or) && !xs.isEmpty && rA c es xs
 | .cmp op a b,x=>Bj x fun l o r=>o == op && !behindInMarks o r && aS c a l && aS c b r
 | .var i,x=>aO x fun y _=>c.N[i]? == some y && c.vis y
 | .call f es,x=>cf x fun g xs _=>aO g fun y _=>c.fn f y && xs.all ao && fB c es xs
 | .blt b es,x=>cf x fun g xs _=>aO g fun y _=>y == nj b && c.blt y && xs.all ao && !xs.isEmpty && fB c es xs
 | .inst a t,x=>cf x fun g xs _=>aO g fun y _=>on2 xs fun l r=>aO r fun z _=>y == ("isinstance":Str) && c.blt y && ao l && z == (t:Str) && c.blt z && kinds.contains t && aS c a l
 | .tmp a,x=>xh x && aS c a x
 | .ix a b,x=>rm x fun l r=>kA r && aS c a l && aS c b r
 | .pcall i e,x=>c.pc && cf x fun g xs _=>aO g fun y _=>on1 xs fun l=>c.N[i]? == some y && c.vis y && ao l && aS c e l
 | .hm _ _ _,_ | .bl _,_ | .int _,_ | .non,_ | .str _,_ | .gv _ _,_ | .tup _,_ | .lst _,_ | .dct0,_ | .dct1 _ _,_ | .bin _ _ _,_ | .neg _,_ | .ite _ _ _,_ | .sl _ _ _,_ | .met _ _ _,_ | .comp _ _ _ _ _ _,_ | .bad,_ | .jrev _,_ | .part _ _,_=>true
termination_by structural e=>e
noncomputable def rA (c:Cfg):Es→List Expr→Bool
 | .nil,xs=>xs.isEmpty
 | .cons e es,xs=>np xs fun y ys=>Ay c e y && rA c es ys
termination_by structural e=>e
noncomputable def Ci (c:Cfg):It→Expr→Bool
 | .seq e,x=>oJ x && aS c e x
 | .range1 a,x=>cf x fun g xs _=>aO g fun y _=>on1 xs fun l=>y == ("range":Str) && c.blt y && ao l && aS c a l
 | .range2 a b,x=>cf x fun g xs _=>aO g fun y _=>on2 xs fun l r=>y == ("range":Str) && c.blt y && ao l && ao r && aS c a l && aS c b r
 | .zip a b,x=>cf x fun g xs _=>aO g fun y _=>on2 xs fun l r=>y == ("zip":Str) && c.blt y && ao l && ao r && aS c a l && aS c b r
 | .zip3 a b d,x=>cf x fun g xs _=>aO g fun y _=>on3 xs fun l r u=>y == ("zip":Str) && c.blt y && ao l && ao r && ao u && aS c a l && aS c b r && aS c d u
 | .enum a,x=>cf x fun g xs _=>aO g fun y _=>on1 xs fun l=>y == ("enumerate":Str) && c.blt y && ao l && aS c a l
 | .chars e,x=>oJ x && aS c e x
 | .range3 a b d,x=>cf x fun g xs _=>aO g fun y _=>on3 xs fun l r u=>y == ("range":Str) && c.blt y && ao l && ao r && ao u && aS c a l && aS c b r && aS c d u
termination_by structural e=>e
noncomputable def rq (c:Cfg):Tg→Expr→Bool
 | .name i,x=>aO x fun y _=>c.N[i]? == some y && c.loc y
 | .tup ts,x=>fw x fun xs=>nQ c ts xs
 | .ltup ts,x=>fw x fun xs=>nQ c ts xs
 | .sub o i,x=>rm x fun l r=>kA r && aS c o l && aS c i r
termination_by structural e=>e
noncomputable def nQ (c:Cfg):Tgs→List Expr→Bool
 | .nil,xs=>xs.isEmpty
 | .cons t ts,xs=>np xs fun y ys=>ao y && rq c t y && nQ c ts ys
termination_by structural e=>e
end
end FW
set_option Elab.async false
set_option linter.all false
set_option maxRecDepth 100000
set_option maxHeartbeats 1000000
namespace FW
open PySem PySem.Spec PyProof.Rows L2 HX
noncomputable def aq (K:PySem.W.Frag) (sp:FSp):Sp:=fun vs H Q _=>∃m st as,Rs K m H as vs∧RH K m H st∧sp as st (post K m H Q)
noncomputable def FS (P:Program) (w:World) (K:PySem.W.Frag) (mg:Str→Option Value) (base:Heap) (k:Nat) (outer:List Env) (s:Shared) (H:Hp) (a:Addr) (L:FSp):Prop :=
 ∀(A':Around) (outer':List Env) (s':Shared) (H':Hp) (u:Value) (v:V) (Q':VK),Room k A'→zn P w K mg base A' outer' s' H'→Un (frs outer) [] H H' s.heap s'.heap→RelV v u→aq K L [v] H' Q' E0 →
  PySem.W.FnAt a s'.heap∧codeAny (model P w) A' (.call (.ref a) ⟨[u],[]⟩) (CR CX0 outer' P w H' s' Q' E0) s'
noncomputable def Il (L:FSp):Prop:=∀as st Q Q',(∀v st,Q v st→Q' v st)→L as st Q→L as st Q'
noncomputable def Jg (a:Nat) (L:FSp):FSp:=fun as st Q=>∃(xs:List PV) (g:PV→Bool),as=[.tup xs,.fn a]∧xs.length≤100000∧(∀y∈xs,∀Q':EK,Q' (.bl (g y)) st→L [y] st Q')∧Q (.int (bsr g xs)) st
structure Je (P:Program) (w:World) (K:PySem.W.Frag) (mg:Str→Option Value) (base:Heap) (k:Nat):Prop where
 ex:∃f fd,mg "how_many"=some (.ref f)∧PySem.W.keepIn K (.ref f)=true∧Binds K fd ["stair","holds"] [] ∧
  ∀(a:Addr) (L:FSp),Il L→∀(A:Around) (outer:List Env) (s:Shared) (H:Hp) (args:Args) (us:List Value) (vs:List V) (Q:VK),Room (k+1) A→zn P w K mg base A outer s H→BindsTo s fd args ((["stair","holds"]:List Str).zip us)→Vals vs us →
   FS P w K mg base k outer s H a L→aq K (Jg a L) vs H Q E0→codeAny (model P w) A (.call (.ref f) args) (CR CX0 outer P w H s Q E0) s
structure HmX (X:Cx) (k:Nat):Prop where
 ok:Je X.prog X.w X.K X.mg X.base (k+1)
 cd:∃x c0 T,x∈bG∧PySem.W.tabIn X.K x=some (c0,T)∧X.env.code=.ref c0∧X.env.qual=x++".<locals>."∧PySem.W.CodeHd X.base c0 T
 bm:∃bm ob,X.mg "__builtins__"=some (.ref bm)∧bm≠builtinsNs∧X.base.get? bm=some ob∧ob.cls=.type "module"∧ob.dict=some builtinsNs∧ob.data=.plain
structure COk (X:Cx) (c:Cfg) (Γ:Nat→FSp):Prop where
 calm:X.calm=true
 pass:PassesOwn (model X.prog X.w) X.A X.env X.xe
 N:X.N=c.N
 nd:c.N.Nodup
 vis:∀x,c.names.lookup x=some .local∨c.names.lookup x=some .cell∨c.names.lookup x=some .free→Vis X.env.scope x
 loc:∀x,c.names.lookup x=some .local∨c.names.lookup x=some .cell→Loc X.env.scope x∧(X.fn x=true∨X.env.scope.names.lookup x=some .local)
 lcl:∀x,c.names.lookup x=some .local→X.env.scope.names.lookup x=some .local
 glb:∀x,c.names.lookup x=some .globalImplicit→Gl X x
 bk:X.env.blockKind=.function
 cel:∀x,c.names.lookup x=some .cell∨c.names.lookup x=some .free→X.env.kindOf x=some .cell∨X.env.kindOf x=some .free
 room:Room c.lim X.A
 fn:∀f x,f<c.lim→c.fns[f]?=some x→∃ps,Has X.prog X.w X.K X.mg X.base (f+1) x ps (aq X.K (Γ f))
 blt:∀x∈c.blts,X.mg x=none
 gl:∀x v,c.gl.lookup x=some v→∃u y,X.mg x=some u∧RelV y u∧∀m H,R X.K m H v y
 mono:b8 Γ
 lam:c.pc=true→∀ {pins:List (Addr × Obj)} {σ:L2.St} {H:Hp} {s:Shared} {b:Addr} {u:Value} {v:V} {Q:VK},L2.Inv X pins σ H s→RelV v u→aq X.K (Γ 1000) [.ref b,v] H Q E0 →
  PySem.W.FnAt b s.heap∧wpAny (model X.prog X.w) X.A (call (.ref b) [u]) (EP X pins σ Q) X.xe s
 hmo:∀k,c.hm=some k→HmX X k
section
variable {X:Cx} {c:Cfg} {Γ:Nat→FSp}
theorem COk.visx (C:COk X c Γ) {x:Str} (h:c.vis x=true):Vis X.env.scope x∧(x == ("__debug__":Str))=false∧(x == ("__classdict__":Str))=false:=by
 unfold Cfg.vis at h
 simp only [Bool.and_eq_true,Bool.or_eq_true,beq_iff_eq,Bool.not_eq_true'] at h
 exact ⟨C.vis x (by rcases h.1.1 with (h|h)|h <;> simp [h]),h.1.2,h.2⟩
theorem COk.glbx (C:COk X c Γ) {x:Str} (h:c.glb x=true):Gl X x∧(x == ("__debug__":Str))=false∧x≠"__name__":=by
 unfold Cfg.glb at h
 simp only [Bool.and_eq_true,beq_iff_eq,Bool.not_eq_true'] at h
 exact ⟨C.glb x h.1.1,h.1.2,fun z=>by rw [z] at h;exact absurd h.2 (by decide)⟩
theorem COk.bltx (C:COk X c Γ) {x:Str} (h:c.blt x=true):Gl X x∧(x == ("__debug__":Str))=false∧x≠"__name__"∧X.mg x=none:=by
 unfold Cfg.blt at h
 rw [Bool.and_eq_true] at h
 obtain ⟨h1,h2,h3⟩:=C.glbx h.1
 exact ⟨h1,h2,h3,C.blt x (List.contains_iff_mem.mp h.2)⟩
theorem COk.fnx (C:COk X c Γ) {f:Nat} {x:Str} (h:c.fn f x=true):Gl X x∧(x == ("__debug__":Str))=false∧Room (f+1) X.A∧∃ps,Has X.prog X.w X.K X.mg X.base (f+1) x ps (aq X.K (Γ f)):=by
 unfold Cfg.fn at h
 simp only [Bool.and_eq_true,beq_iff_eq,decide_eq_true_eq] at h
 obtain ⟨h1,h2,h3⟩:=C.glbx h.2
 exact ⟨h1,h2,C.room.mono h.1.2,C.fn f x h.1.2 h.1.1⟩
theorem IN:∀b:B,bootBuiltins (nj b)=some (IA b):=by
 intro b
 cases b <;> decide +kernel
theorem xK:∀t∈kinds,bootBuiltins (t:Str)=some (.type t):=by decide +kernel
theorem wb:bootBuiltins ("isinstance":Str)=some (.builtin "isinstance"):=by decide +kernel
theorem yg {x:Expr} (h:xh x=true) (env:Env):∀whole,isTrue x env whole=(do let v ←whole;standAt x.pos;holding [v] (truthy v)):=by
 cases x <;> first|(intro _;rfl)|cases h
theorem xo {K:PySem.W.Frag} {m:List Addr} {H:Hp} {as:List PV} {vs:List V} (h:Rs K m H as vs):Rs K m H as (vs++[]):=by rw [List.append_nil];exact h
theorem vm (C:COk X c Γ) {f:Nat} {y:Str} {xs:List Expr} {p pos:Pos} {es:Es} (hf:c.fn f y=true) (hn:xs.all ao=true) (hc:fB c es xs=true) (ha:PA X xs (TAx X.K (dA Γ es))) :
  PE X (.Call (.Name y p) xs [] pos) (TEx X.K fun ρ st Q=>dA Γ es ρ st fun vs st1=>Γ f vs st1 Q):=by
 obtain ⟨h1,h2,hr,ps,F⟩:=C.fnx hf
 have key:∀ {σ:L2.St} {H:Hp} {Q:VK},TEx X.K (fun ρ st Q=>dA Γ es ρ st fun vs st1=>Γ f vs st1 Q) σ H Q→q_ (aq X.K (Γ f)) [] E0 (TAx X.K (dA Γ es)) σ H Q:=by
  rintro σ H Q ⟨m,ρ,st,rf,rh,w⟩
  exact ⟨m,ρ,st,rf,rh,aM C.mono es (fun vs st1 k m1 H1 xs1 e1 r1 r2=>⟨m1,st1,vs,xo r2,r1,C.mono _ _ _ _ _ (fun _ _ q=>q.ext e1) k⟩) w⟩
 intro pins s σ H Q I h
 cases xs with
 | nil =>
  refine E4 F hr h1 h2 pins s σ H Q I ?_
  obtain ⟨m,ρ,st,rf,rh,w⟩:=h
  cases es with
  | nil=>exact ⟨m,st,[],Rs_nil.mpr rfl,rh,w⟩
  | cons e es=>exact Bool.noConfusion (show false=true from hc)
 | cons x xs =>
  rw [List.all_cons,Bool.and_eq_true] at hn
  exact D9 F hr ha h1 h2 hn.1 hn.2 pins s σ H Q I (key h)
theorem tU (C:COk X c Γ) {b:B} {y:Str} {xs:List Expr} {p pos:Pos} {es:Es} (hy:y=nj b) (hb:c.blt y=true) (hn:xs.all ao=true) (hne:xs.isEmpty=false) (ha:PA X xs (TAx X.K (dA Γ es))) :
  PE X (.Call (.Name y p) xs [] pos) (TEx X.K fun ρ st Q=>dA Γ es ρ st fun vs st1=>fO b vs st1 Q):=by
 obtain ⟨h1,h2,h3,h4⟩:=C.bltx hb
 have hv:=IN b
 rw [←hy] at hv
 have key:∀ {σ:L2.St} {H:Hp} {Q:VK},TEx X.K (fun ρ st Q=>dA Γ es ρ st fun vs st1=>fO b vs st1 Q) σ H Q→tCB (HU X.K (fO b)) (TAx X.K (dA Γ es)) σ H Q:=by
  rintro σ H Q ⟨m,ρ,st,rf,rh,w⟩
  exact ⟨m,ρ,st,rf,rh,aM C.mono es (fun vs st1 k m1 H1 xs1 e1 r1 r2=>⟨m1,st1,vs,r1,r2,ja (fun _ _ q=>q.ext e1) k⟩) w⟩
 have hc:=Hu C.calm C.room.gd C.room.units b
 cases xs with
 | nil=>cases hne
 | cons x xs =>
  rw [List.all_cons,Bool.and_eq_true] at hn
  intro pins s σ H Q I h
  cases b <;> first
   | exact qT hc h1 h4 hv ha h3 h2 hn.1 hn.2 pins s σ H Q I (key h)
   | exact ye hc h1 h4 hv ha h3 h2 hn.1 hn.2 pins s σ H Q I (key h)
theorem Ae (m:M):PlainAttrs "list"∧Slot "list" (sQ m) (y6 m)∧typeOf (.builtin (y6 m))=pure (.type "method_descriptor"):=by
 cases m
 ·exact ⟨PySem.F.plainAttrs_list,PySem.F.slot_list_append,PySem.F.type_list_append⟩
 ·exact ⟨PySem.F.plainAttrs_list,PySem.F.slot_list_pop,PySem.F.type_list_pop⟩
 ·exact ⟨PySem.F.plainAttrs_list,PySem.F.slot_list_extend,PySem.F.type_list_extend⟩
 ·exact ⟨PySem.F.plainAttrs_list,PySem.F.slot_list_insert,PySem.F.type_list_insert⟩
 ·exact ⟨PySem.F.plainAttrs_list,PySem.F.slot_list_count,PySem.F.type_list_count⟩
theorem ld {y:Expr} (h:tD y=true) {n:Str} {env:Env} {w:Sem Value}:attributeBase y n env w=w:=by
 cases y <;> first|rfl|cases h
theorem Df (C:COk X c Γ) {m:M} {n:Str} {y:Expr} {ap cp:Pos} {xs:List Expr} {o:E} {es:Es} (hn:n=sQ m) (hl:(ap.endLine == cp.line)=true) (hs:xs.all ao=true) (h2:xs.length≤2) (hy:tD y=true) (ho:PE X y (TEx X.K (wpE Γ o))) (ha:PA X xs (TAx X.K (dA Γ es))) (hc:fB c es xs=true) :
  PE X (.Call (.Attribute y n ap) xs [] cp) (TEx X.K (wpE Γ (.met m o es))):=by
 obtain ⟨pa,slot,ty⟩:=Ae m
 rw [←hn] at slot
 have hm:MtR X (y6 m) (Ib X.K (sL m)):=FV m
 intro pins s σ H Q I h
 obtain ⟨mm,ρ,st,rf,rh,w⟩:=h
 skip
 have tyv:∀ {m1:List Addr} {H1:Hp} {st1:AH} {v:PV} {x:V},RH X.K m1 H1 st1→R X.K m1 H1 v x→(∃xs,bV st1 v=some xs)→tyV X.K "list" x H1:=by
  rintro m1 H1 st1 v x r1 r2 ⟨xs,e⟩
  obtain ⟨a,ys,rfl,g,_⟩:=eX r1 r2 e
  exact .inl ⟨rfl,ys,g⟩
 match xs,hs,h2,ha,hc with
 | [],hs,h2,ha,hc =>
  refine Hi pa slot ty hm ho (ld hy) hl pins s σ H Q I ?_
  refine ⟨mm,ρ,st,rf,rh,ab C.mono o (fun v st1 k m1 H1 x1 e1 r1 r2=>⟨tyv r1 r2 k.1,?_⟩) w⟩
  cases es with
  | nil =>
   have k2:=k.2
   skip
   exact ⟨m1,st1,v,[],r1,r2,Rs_nil.mpr rfl,i7 (fun _ _ q=>q.ext e1) k2⟩
  | cons e es=>exact Bool.noConfusion (show false=true from hc)
 | [a],hs,h2,ha,hc =>
  simp only [List.all_cons,List.all_nil,Bool.and_true] at hs
  have st1:starEach [a] X.env=[(false,eval a X.env)]:=aX hs
  refine FC pa slot ty hm ho ha (ld hy) (by rw [st1];rfl) hl st1 rfl pins s σ H Q I ?_
  refine ⟨mm,ρ,st,rf,rh,ab C.mono o (fun v st1 k m1 H1 x1 e1 r1 r2=>⟨tyv r1 r2 k.1,?_⟩) w⟩
  exact ⟨m1,ρ,st1,rf.mono e1,r1,aM C.mono es (fun vs st2 k m2 H2 xs2 e2 r3 r4=>⟨m2,st2,v,vs,r3,r2.mono e2,r4,i7 (fun _ _ q=>q.ext (e1.trans e2)) k⟩) k.2⟩
 | [a,b],hs,h2,ha,hc =>
  simp only [List.all_cons,List.all_nil,Bool.and_true,Bool.and_eq_true] at hs
  have stb:starEach [b] X.env=[(false,eval b X.env)]:=aX hs.2
  have st1:starEach [a,b] X.env=(false,eval a X.env)::starEach [b] X.env:=aX hs.1
  refine FC pa slot ty hm ho ha (ld hy) (by rw [st1,stb];rfl) hl st1 (by rw [stb];rfl) pins s σ H Q I ?_
  refine ⟨mm,ρ,st,rf,rh,ab C.mono o (fun v st1 k m1 H1 x1 e1 r1 r2=>⟨tyv r1 r2 k.1,?_⟩) w⟩
  exact ⟨m1,ρ,st1,rf.mono e1,r1,aM C.mono es (fun vs st2 k m2 H2 xs2 e2 r3 r4=>⟨m2,st2,v,vs,r3,r2.mono e2,r4,i7 (fun _ _ q=>q.ext (e1.trans e2)) k⟩) k.2⟩
 | _::_::_::_,hs,h2,ha,hc=>simp at h2
mutual
theorem PV.bel_le {i j:Nat} (h:i≤j):∀ {v:PV},v.bel i=true→v.bel j=true
 | .non,_=>by rw [PV.bel]
 | .bl _,_=>by rw [PV.bel]
 | .int _,_=>by rw [PV.bel]
 | .str _,_=>by rw [PV.bel]
 | .ref n,z=>by rw [PV.bel] at z ⊢;have:=of_decide_eq_true z;exact decide_eq_true (by omega)
 | .tup xs,z=>by rw [PV.bel] at z ⊢;exact PV.bels_le h z
 | .rdl xs,z=>by rw [PV.bel] at z ⊢;exact PV.bels_le h z
 | .fn _,z=>by rw [PV.bel] at z;cases z
theorem PV.bels_le {i j:Nat} (h:i≤j):∀ {vs:List PV},PV.bels i vs=true→PV.bels j vs=true
 | [],_=>by rw [PV.bels]
 | v::vs,z=>by rw [PV.bels,Bool.and_eq_true] at z ⊢;exact ⟨PV.bel_le h z.1,PV.bels_le h z.2⟩
end
theorem yL (C:COk X c Γ) {a:E} {t:String} {l:Expr} {y z:Str} {p q pos:Pos} (h:(y == ("isinstance":Str) && c.blt y && ao l && z == (t:Str) && c.blt z && kinds.contains t)=true) (ha:PE X l (TEx X.K (wpE Γ a))) :
  PE X (.Call (.Name y p) [l,.Name z q] [] pos) (TEx X.K (wpE Γ (.inst a t))):=by
 simp only [Bool.and_eq_true,beq_iff_eq] at h
 obtain ⟨⟨⟨⟨⟨h1,h2⟩,h3⟩,h4⟩,h5⟩,h6⟩:=h
 subst h1 h4
 have ht:t∈kinds:=List.contains_iff_mem.mp h6
 obtain ⟨g1,g2,g3,g4⟩:=C.bltx h2
 obtain ⟨k1,k2,k3,k4⟩:=C.bltx h5
 rintro pins s σ H Q I ⟨m,ρ,st,rf,rh,w⟩
 skip
 have pt:PE X (.Name (t:Str) q) (tC (.ty t)):=EH k1 k4 (xK t ht) rfl k3 k2
 have hA:PA X [l,.Name (t:Str) q] (gj (TEx X.K (wpE Γ a)) (gj (tC (.ty t)) sN)):=pac ha (pac pt iG) h3
 have hC:gK X (.builtin "isinstance") (fun xs H Q=>∃m st x y n,RH X.K m H st∧R X.K m H x y∧xs=[y,.ty t]∧cZ st x=some n∧Q (.bl (dJ t n)) H):=by
  rintro pins s σ H xs us Q I r ⟨m,st,x,y,n,r1,r2,rfl,e,q⟩
  obtain ⟨u,v,rfl,ru,rv⟩:=qV r
  cases (show v=Value.type t from rv)
  exact Ei (K:=X.K) I r1 r2 ru e ht fun tk=>⟨.bl _,H,I.tok tk,rfl,q⟩
 refine qT hC g1 g4 wb hA g3 g2 h3 rfl pins s σ H Q I ?_
 refine ⟨m,ρ,st,rf,rh,ab C.mono a (fun v st1 k m1 H1 x1 e1 r1 r2=>?_) w⟩
 obtain ⟨n,e,k⟩:=k
 exact ⟨m1,st1,v,x1,n,r1,r2,rfl,e,(k.ext e1).here r1 (R_bl.mpr rfl)⟩
theorem Dq (C:COk X c Γ) {i:Nat} {y:Str} {p:Pos} (h:(c.N[i]? == some y && c.vis y)=true):PE X (.Name y p) (TEx X.K (wpE Γ (.var i))):=by
 simp only [Bool.and_eq_true,beq_iff_eq] at h
 obtain ⟨h1,h2,h3⟩:=C.visx h.2
 rintro pins s σ H Q I ⟨m,ρ,st,rf,rh,w⟩
 skip
 obtain ⟨v,e,w⟩:=w
 obtain ⟨y,e2,r⟩:=rf.at_ i v e
 exact Gp (by rw [C.N];exact h.1) h1 h2 h3 pins s σ H Q I ⟨y,e2,w.here rh r⟩
theorem sG {K:PySem.W.Frag} {m m':List Addr} {H H':Hp} {st st':AH} {Q:EK} {v:PV} {x:V} (rh:RH K m H st) (e:Ext K m H m' H') (rh':RH K m' H' st') (r:R K m' H' v x) (q:Tmp st Q v st') :
  ∃st1,Q v st1∧Ext K m H m H'∧RH K m H' st1∧R K m H' v x:=by
 obtain ⟨st1,g,rfl,hl,hs,hb,q⟩:=q
 have hm:m'.take m.length=m:=by
  obtain ⟨t,ht⟩:=e.pre
  rw [←ht,List.take_left]
 have hlen:m.length=st.length:=rh.len
 refine ⟨st1,q,⟨List.prefix_refl _,fun _ z=>.inl z,e.fr,e.tup,e.rdf,e.tbs,e.tb⟩,⟨by rw [hl,hlen],rh.nd,fun n c a h1 h2=>?_,e.tb rh.tb⟩,?_⟩
 ·have hn:n<st1.length:=(List.getElem?_eq_some_iff.mp h1).1
  have c1:CellR K m' H' c a:=rh'.at_ n c a (by rw [List.getElem?_append_left hn];exact h1) (km e.pre h2)
  have hc:c.bec m.length=true:=by
   rcases hs n (by omega) with z|⟨c',z,zb⟩
   ·rw [h1] at z
    exact (rh.at_ n c a z.symm h2).bel
   ·rw [h1] at z
    cases z
    have zb':∀ {c:Cell},c.bel 0=true→c.bec m.length=true:=by
     have b0:∀(xs:List PV),PV.bels 0 xs=true→PV.becs m.length xs=true:=fun xs h=>PV.bels_becs (Nat.zero_le _) h
     intro c h
     cases c with
     | lst xs=>exact b0 _ h
     | dk kvs=>exact b0 _ h
    exact zb' zb
  have:=c1.cut hc
  rw [hm] at this
  exact this
 ·have:=r.cut (k:=m.length) (by rw [hlen];exact PV.bel_bec (Nat.le_refl _) hb)
  rw [hm] at this
  exact this
noncomputable def postF (K:PySem.W.Frag) (m:List Addr) (H:Hp) (Q:L2.St→Hp→Prop):Fr→AH→Prop:=fun ρ' st'=>∀m' H' σ',Ext K m H m' H'→RH K m' H' st'→RF K m' H' ρ' σ'→Q σ' H'
theorem postF.ext {K:PySem.W.Frag} {m m1:List Addr} {H H1:Hp} {Q:L2.St→Hp→Prop} (x:Ext K m H m1 H1) {ρ:Fr} {st:AH} (q:postF K m H Q ρ st):postF K m1 H1 Q ρ st:=fun m' H' σ' e r s=>q m' H' σ' (x.trans e) r s
theorem postF.here {K:PySem.W.Frag} {m:List Addr} {H:Hp} {Q:L2.St→Hp→Prop} {ρ:Fr} {σ:L2.St} {st:AH} (q:postF K m H Q ρ st) (h:RH K m H st) (r:RF K m H ρ σ):Q σ H:=q m H σ (Ext.refl _ _ _) h r
noncomputable def TGx (K:PySem.W.Frag) (w:PV→Fr→AH→(Fr→AH→Prop)→Prop):TG:=fun v' σ H Q=>∃m ρ st v,RF K m H ρ σ∧RH K m H st∧R K m H v v'∧w v ρ st (postF K m H Q)
noncomputable def JJ (K:PySem.W.Frag) (w:List PV→Fr→AH→(Fr→AH→Prop)→Prop):TGs:=fun v' σ H Q=>∃m ρ st v,RF K m H ρ σ∧RH K m H st∧Rs K m H v v'∧w v ρ st (postF K m H Q)
theorem COk.locx (C:COk X c Γ) {x:Str} (h:c.loc x=true):Loc X.env.scope x∧(X.fn x=true∨X.env.scope.names.lookup x=some .local):=by
 unfold Cfg.loc at h
 simp only [Bool.or_eq_true,beq_iff_eq] at h
 exact C.loc x h
theorem COk.ndX (C:COk X c Γ):X.N.Nodup:=by rw [C.N];exact C.nd
theorem jx {e:Expr} {es:List Expr} {env:Env} (h:ao e=true):assignEach (e::es) env=(false,assign e env)::assignEach es env:=by
 cases e <;> first|rfl|cases h
theorem jV {c:Cfg}:∀ {ts:Tgs} {xs:List Expr} {env:Env},nQ c ts xs=true→(assignEach xs env).length=ts.size∧(assignEach xs env).findIdx? (·.1)=none
 | .nil,xs,env,h=>by
  have h:xs.isEmpty=true:=h
  cases xs with
  | nil=>exact ⟨rfl,rfl⟩
  | cons _ _=>cases h
 | .cons t ts,xs,env,h=>by
  replace h:=aR h
  obtain ⟨y,ys,rfl,h⟩:=h
  ·simp only [Bool.and_eq_true] at h
   obtain ⟨⟨h1,h2⟩,h3⟩:=h
   obtain ⟨g1,g2⟩:=jV (env:=env) h3
   rw [jx h1]
   exact ⟨by simp [g1,Tgs.size],by simp [List.findIdx?_cons,g2]⟩
structure so (K:PySem.W.Frag) (J:L2.It) (xs:List PV) (chk:AH→Prop) (m0:List Addr) (H0:Hp):Prop where
 stop:∀m H st,Ext K m0 H0 m H→RH K m H st→chk st→J.stop xs.length H
 item:∀(i:Nat) v m H st,Ext K m0 H0 m H→RH K m H st→chk st→xs[i]?=some v→J.go i H∧∀x H',J.yld i H x H'→Ext K m H m H'∧RH K m H' st∧R K m H' v x
noncomputable def TIx (K:PySem.W.Frag) (w:Fr→AH→(List PV→(AH→Prop)→AH→Prop)→Prop):TI:=fun σ H Rr=>∃m ρ st,RF K m H ρ σ∧RH K m H st ∧
 w ρ st fun xs chk st1=>∀m1 H1 J,Ext K m H m1 H1→RH K m1 H1 st1→so K J xs chk m1 H1→Rr J H1
theorem u_ {x:Expr} {env:Env} (h:oJ x=true):∀v,foldedSetIterable x env v=pure v:=by
 cases x <;> first|(intro _;rfl)|cases h
theorem Gd {tg l:Expr} {tl:TE} (hl:PE X l tl):PI X tg l (fun σ H Rr=>tl σ H fun x H1=>∃a,x=.ref a∧((∃xs,SqL X.K H1 a xs)∧Rr (Itl X.K a) H1∨(∃xs,SqT X.K H1 a xs)∧Rr (Itt X.K a) H1)):=by
 intro pins s σ H Rr I h
 refine thn (hl pins s σ H _ I h) fun v s1 ⟨x,H1,I1,r1,q1⟩=>?_
 obtain ⟨a,e,q1⟩:=q1
 subst e
 cases r1
 rcases q1 with ⟨⟨xs,hq⟩,q⟩|⟨⟨xs,hq⟩,q⟩
 ·obtain ⟨its,rv,p,hz⟩:=I1.list hq
  refine wpAny_pyIter_list p.isList ?_
  refine ⟨s1.heap.objs.size,[s1.heap.objs.size],_,_,H1,rfl,I1.kept (t':=s1.toks) fun b o e=>Heap.get?_push_of_some _ e,AN a _,⟨_,Heap.get?_push_size _ rfl,rfl,rfl⟩,fun b hb=>?_,q⟩
  have e:b=s1.heap.objs.size:=by simpa using hb
  subst e
  exact I1.fpOk (Nat.le_refl _) (I1.hok.fresh (Nat.le_refl _))
 ·obtain ⟨its,rv,p,hz⟩:=I1.tuple hq
  refine wpAny_pyIter_tuple (show s1.heap.IsTuple a its.toArray from p) ?_
  refine ⟨s1.heap.objs.size,[s1.heap.objs.size],_,_,H1,rfl,I1.kept (t':=s1.toks) fun b o e=>Heap.get?_push_of_some _ e,wL a _,⟨_,Heap.get?_push_size _ rfl,rfl,rfl⟩,fun b hb=>?_,q⟩
  have e:b=s1.heap.objs.size:=by simpa using hb
  subst e
  exact I1.fpOk (Nat.le_refl _) (I1.hok.fresh (Nat.le_refl _))
theorem As {K:PySem.W.Frag} {m0:List Addr} {H0:Hp} {st0:AH} {n:Nat} {a:Addr} {xs:List PV} (rh:RH K m0 H0 st0) (e:st0[n]?=some (.lst xs)) (ea:m0[n]?=some a):so K (Itl K a) xs (fun st'=>st'[n]?=st0[n]?) m0 H0:=by
 have get:∀m H st,Ext K m0 H0 m H→RH K m H st→st[n]?=st0[n]?→∃ys,H a=some (.lst ys)∧Rs K m H xs ys:=fun m H st x r q=>by
  rw [e] at q
  exact r.at_ n _ a q (km x.pre ea)
 refine ⟨fun m H st x r q=>?_,fun i v m H st x r q ev=>?_⟩
 ·obtain ⟨ys,h1,h2⟩:=get m H st x r q
  exact ⟨ys,SqL.of h1,by rw [h2.len];exact Nat.le_refl _⟩
 ·obtain ⟨ys,h1,h2⟩:=get m H st x r q
  obtain ⟨y,e1,r1⟩:=h2.get ev
  refine ⟨⟨ys,y,SqL.of h1,e1⟩,fun z H' ⟨e2,e3⟩=>?_⟩
  subst e2
  have:=e3 ys (SqL.of h1)
  rw [e1] at this
  cases this
  exact ⟨Ext.refl _ _ _,r,r1⟩
theorem CF {K:PySem.W.Frag} {m0:List Addr} {H0:Hp} {a:Addr} {xs:List PV} {ys:List V} (h:RdF K H0 a ys) (r0:Rs K m0 H0 xs ys):so K (Itl K a) xs (fun _=>True) m0 H0:=by
 refine ⟨fun m H st x r q=>⟨ys,(x.rdf _ _ h).sq,by rw [r0.len];exact Nat.le_refl _⟩,fun i v m H st x r q ev=>?_⟩
 obtain ⟨y,e1,r1⟩:=(r0.mono x).get ev
 refine ⟨⟨ys,y,(x.rdf _ _ h).sq,e1⟩,fun z H' ⟨e2,e3⟩=>?_⟩
 subst e2
 have:=e3 ys (x.rdf _ _ h).sq
 rw [e1] at this
 cases this
 exact ⟨Ext.refl _ _ _,r,r1⟩
theorem Bz {K:PySem.W.Frag} {m0:List Addr} {H0:Hp} {a:Addr} {xs:List PV} {ys:List V} (h:SqT K H0 a ys) (r0:Rs K m0 H0 xs ys):so K (Itt K a) xs (fun _=>True) m0 H0:=by
 refine ⟨fun m H st x r q=>⟨ys,x.tup _ _ h,by rw [r0.len];exact Nat.le_refl _⟩,fun i v m H st x r q ev=>?_⟩
 obtain ⟨y,e1,r1⟩:=(r0.mono x).get ev
 refine ⟨⟨ys,y,x.tup _ _ h,e1⟩,fun z H' ⟨e2,e3⟩=>?_⟩
 subst e2
 have:=e3 ys (x.tup _ _ h)
 rw [e1] at this
 cases this
 exact ⟨Ext.refl _ _ _,r,r1⟩
theorem oE {K:PySem.W.Frag} {m0:List Addr} {H0:Hp} {lo:Int} {n:Nat}:so K (Itr lo n) (eP lo n) (fun _=>True) m0 H0:=by
 refine ⟨fun m H st x r q=>by show n≤_;simp [eP],fun i v m H st x r q ev=>?_⟩
 unfold eP at ev
 rw [List.getElem?_map] at ev
 have hi:i<n:=by
  by_cases hi:i<n
  ·exact hi
  ·rw [List.getElem?_eq_none (by simp;omega)] at ev;cases ev
 rw [List.getElem?_range hi] at ev
 cases ev
 refine ⟨hi,fun z H' ⟨e2,e3⟩=>?_⟩
 subst e2 e3
 exact ⟨Ext.refl _ _ _,r,R_int.mpr rfl⟩
end
end FW
set_option Elab.async false
set_option linter.all false
set_option maxRecDepth 100000
set_option maxHeartbeats 1000000
namespace FW
open PySem PySem.Spec PyProof.Rows L2 HX
section
variable {X:Cx} {pins:List (Addr × Obj)} {σ:L2.St} {H:Hp} {s:Shared} {h':Heap}
theorem yZ {t':Nat} {wr:List Addr} (I:L2.Inv X pins σ H s) (k:∀b o,b ∉ wr→s.heap.get? b=some o→h'.get? b=some o) (hf:∀b∈wr,m_ X pins H b):L2.Inv X pins σ H { s with heap:=h',toks:=t' }:=by
 have nit:∀b u,H b=some u→b ∉ wr:=fun b u e z=>by rw [(hf b z).1] at e;cases e
 refine I.step (g':=s.gens) (d':=s.drawn) (ch:=wr) (fun b hb=>⟨(hf b hb).2.2.2.1,(hf b hb).2.1,(hf b hb).2.2.2.2.1,(hf b hb).2.2.2.2.2⟩) (fun b o _ _ hc e _=>k b o hc e) (fun b o _ _ hc e _=>⟨o.slots,k b o hc e⟩) (fun _ _ _ _ n=>n)
  (fun b o hc e=>⟨o,k b o hc e⟩) (fun _ _ e=>e) (fun _ _ _ e=>e) (fun b ps e=>⟨#[],by rw [e];simp⟩) (fun m hm=>?_) (fun b u e=>?_) I.bare
 ·obtain ⟨o,es,ep,ho,r⟩:=hm
  exact ⟨o,es,ep,k _ o (fun z=>(hf _ z).2.1 rfl) ho,r⟩
 ·refine (I.hok b u e).stay (fun c v hc q=>k c v ?_ q) (fun _ q=>q) fun _ _ q=>q
  rcases hc with z|z
  ·rw [z];exact nit b u e
  ·exact nit c _ z
theorem yw {t':Nat} {wr:List Addr} {T:Addr} {xs:List V} {its:List Value} (I:L2.Inv X pins σ H s) (k:∀b o,b ∉ wr→s.heap.get? b=some o→h'.get? b=some o) (hf:∀b∈wr,m_ X pins H b)
  (hT:s.heap.objs.size≤T) (hx:Vals xs its) (hz:xs.length≤sizeLine) (ht:h'.IsTuple T its.toArray):L2.Inv X pins σ (upd H T (.tup xs)) { s with heap:=h',toks:=t' }:=by
 have nit:∀b u,H b=some u→b ∉ wr:=fun b u e z=>by rw [(hf b z).1] at e;cases e
 have hn:H T=none:=I.hok.fresh hT
 have up:∀b u,H b=some u→upd H T (.tup xs) b=some u:=fun b u e=>by rw [am (aI e hn)];exact e
 refine I.step (g':=s.gens) (d':=s.drawn) (ch:=wr) (fun b hb=>⟨(hf b hb).2.2.2.1,(hf b hb).2.1,(hf b hb).2.2.2.2.1,(hf b hb).2.2.2.2.2⟩) (fun b o _ _ hc e _=>k b o hc e) (fun b o _ _ hc e _=>⟨o.slots,k b o hc e⟩)
  (fun b o _ e n=>by rw [am (Nat.ne_of_lt (Nat.lt_of_lt_of_le (Heap.lt_size e) hT))];exact n)
  (fun b o hc e=>⟨o,k b o hc e⟩) (fun b _ e=>up b _ e) (fun b _ _ e=>up b _ e) (fun b ps e=>⟨#[],by rw [up b _ e];simp⟩) (fun m hm=>?_) (fun b u e=>?_) I.bare
 ·obtain ⟨o,es,ep,ho,r⟩:=hm
  exact ⟨o,es,ep,k _ o (fun z=>(hf _ z).2.1 rfl) ho,r⟩
 ·by_cases hb:b=T
  ·subst hb
   rw [cQ] at e
   cases e
   exact ⟨hz,its,hx,ht⟩
  ·rw [am hb] at e
   refine (I.hok b u e).stay (fun c v hc q=>k c v ?_ q) (fun c q=>up c _ q) fun c _ q=>up c _ q
   rcases hc with z|z
   ·rw [z];exact nit b u e
   ·exact nit c _ z
end
theorem pJ:∀ {xs ys:List PV},(jn xs ys).length=min xs.length ys.length
 | [],ys=>by simp [jn]
 | x::xs,[]=>by simp [jn]
 | x::xs,y::ys=>by simp only [jn,List.length_cons,pJ (xs:=xs) (ys:=ys)];omega
theorem o8:∀ {xs ys:List PV} {i:Nat} {v:PV},(jn xs ys)[i]?=some v→∃x y,xs[i]?=some x∧ys[i]?=some y∧v=.tup [x,y]
 | [],ys,i,v,h=>by simp [jn] at h
 | x::xs,[],i,v,h=>by simp [jn] at h
 | x::xs,y::ys,0,v,h=>by simp [jn] at h;exact ⟨x,y,rfl,rfl,h.symm⟩
 | x::xs,y::ys,i+1,v,h=>by
  simp only [jn,List.getElem?_cons_succ] at h ⊢
  exact o8 h
theorem El {X:Cx} {es:List Expr} {k:Nat} {t:TGs} {n:Nat} {pos:Pos} (hc:X.calm=true) (h:PGs X es t) (hn:(assignEach es X.env).length=n) (hst:(assignEach es X.env).findIdx? (·.1)=none) :
  PG X (.Tuple es k pos) (fun v σ H Q=>∃a xs,v=.ref a∧SqL X.K H a xs∧xs.length=n∧t xs σ H Q):=by
 intro pins s σ H v u Q I r hw
 obtain ⟨a,xs,e1,hq,hl,hw⟩:=hw
 subst e1
 cases r
 obtain ⟨its,rv,ht,hz⟩:=I.list hq
 rw [PyProof.Rows.assign_Tuple]
 refine wpAny_bind (wpAny_standAt ?_)
 unfold unpack
 rw [hst]
 have hsz:(assignEach es X.env).length=its.toArray.size:=by simp [hn,←hl,rv.length]
 rw [hsz]
 refine wpAny_bind (wpAny_holding (PySem.W.kun_itemsOf (I.ok.hd hc) ht.isList fun h' hx=>?_))
 have I1:L2.Inv X pins σ H { s with heap:=h' }:=I.kept (t':=s.toks) fun b o e=>hx b o (Nat.ne_of_lt (Heap.lt_size e)) e
 exact h pins _ σ H xs _ Q I1 (by simpa using rv) hw
end FW
set_option Elab.async false
set_option linter.all false
set_option maxRecDepth 100000
set_option maxHeartbeats 1000000
namespace FW
open PySem PySem.Spec PyProof.Rows L2 HX
theorem D1 {h:Heap} {it t:Addr} {i:Nat} {x:Value} {o:Obj} {k:Nat} (e:h.get? it=some o) (hc:o.cls=.type "tuple_iterator") (hd:o.data=.fields #[.ref t,.int (i:Int) 0]) :
  (h.update it (Obj.mapFields fun z=>z.setIfInBounds k x)).get? it=some (Obj.mapFields (fun z=>z.setIfInBounds k x) o):=by
 refine Heap.get?_update_self _ e ?_
 obtain ⟨c,d,da,sl⟩:=o
 simp only at hc hd
 subst hc hd
 rfl
theorem wv (it t:Addr) (i:Nat) (items:Array Value) (x:Value):Meets (Builtin.«tuple_iterator.__next__» { pos:=[.ref it] }) fun _ R s =>
  s.heap.IsTupleIter it t i∧s.heap.IsTuple t items∧items[i]?=some x∧∀h',h'.IsTupleIter it t (i+1)→Heap.SameBut it s.heap h'→R (.ok (.ret x)) { s with heap:=h' }:=by
 intro prog w A R s ⟨⟨o,e,hc,hd⟩,⟨o2,e2,hc2,n,hd2⟩,hx,h⟩
 refine wpAny_bind (wpAny_pure ?_)
 refine wpAny_bind (wpAny_field (i:=0) e hd rfl ?_)
 refine wpAny_bind (wpAny_field (i:=1) e hd rfl ?_)
 refine wpAny_bind (wpAny_seqItems e2 hd2 ?_)
 show wpAny _ _ (match items[((i:Nat):Int).toNat]? with|some x=>_|none=>_) _ _ _
 rw [Int.toNat_natCast,hx]
 refine wpAny_bind (wpAny_setField e hd (Nat.lt_succ_self 1) ?_)
 refine wpAny_pure ?_
 refine h _ ⟨_,D1 e hc hd,?_,?_⟩ (Heap.SameBut.update _ _ _)
 ·obtain ⟨c,d,da,sl⟩:=o
  simp only at hc hd
  subst hc hd
  rfl
 ·obtain ⟨c,d,da,sl⟩:=o
  simp only at hc hd
  subst hc hd
  show Data.fields #[.ref t,rawInt ((i:Int)+1)]=Data.fields #[.ref t,.int ((i+1:Nat):Int) 0]
  rw [Int.natCast_add]
  rfl
theorem Eo {α:Type} {M:Model} {A:Around} {E:Value→Shared→Prop} {s:Shared} {Q:α→Shared→Prop} (hh:A.handled=none) (h:∀h' e,(∀b o,s.heap.get? b=some o→h'.get? b=some o)→(∃o,h'.get? e=some o∧o.cls=.type "StopIteration")→E (.ref e) { s with heap:=h' }) :
  wpAny M A (Builtin.SmallTypes.stopIteration:Sem α) Q E s:=by
 refine wpAny_bind ?_
 refine wpAny_bind (wpAny_newTuple ?_)
 refine wpAny_bind (wpAny_pure ?_)
 refine wpAny_newObj_type (wpAny_raiseNew_none hh ?_)
 refine h _ _ (fun b o e=>Heap.get?_push_of_some _ (Heap.get?_push_of_some _ e)) ⟨_,Heap.get?_push_size _ rfl,rfl⟩
theorem xG (it t:Addr) (i:Nat) (items:Array Value):Meets (Builtin.«tuple_iterator.__next__» { pos:=[.ref it] }) fun A R s =>
  A.handled=none∧s.heap.IsTupleIter it t i∧s.heap.IsTuple t items∧items[i]?=none∧∀h' e,Heap.ExtBut it s.heap h'→(∃o,h'.get? e=some o∧o.cls=.type "StopIteration")→R (.error (.ref e)) { s with heap:=h' }:=by
 intro prog w A R s ⟨hh,⟨o,e,hc,hd⟩,⟨o2,e2,hc2,n,hd2⟩,hx,h⟩
 refine wpAny_bind (wpAny_pure ?_)
 refine wpAny_bind (wpAny_field (i:=0) e hd rfl ?_)
 refine wpAny_bind (wpAny_field (i:=1) e hd rfl ?_)
 refine wpAny_bind (wpAny_seqItems e2 hd2 ?_)
 show wpAny _ _ (match items[((i:Nat):Int).toNat]? with|some x=>_|none=>_) _ _ _
 rw [Int.toNat_natCast,hx]
 refine wpAny_bind (wpAny_rule ?_)
 refine wpAny_bind (wpAny_setField e hd (Nat.zero_lt_succ 1) ?_)
 refine Eo hh fun h' x k1 k2=>h h' x (fun b o' hb eb=>k1 b o' ?_) k2
 show (s.heap.update it _).get? b=some o'
 rw [Heap.get?_update_ne _ _ _ _ hb]
 exact eb
section
variable {prog:Program} {w:World} {A:Around} {E:Value→Shared→Prop} {s:Shared} {it t:Addr} {i:Nat} {items:Array Value}
theorem ke {x:Value} {Q:Value→Shared→Prop} (hi:s.heap.IsTupleIter it t i) (ht:s.heap.IsTuple t items) (hx:items[i]?=some x) (h:∀h',h'.IsTupleIter it t (i+1)→Heap.SameBut it s.heap h'→Q x { s with heap:=h' }) :
  wpAny (model prog w) A (Builtin.SmallTypes.nextOf (.ref it)) Q E s:=by
 refine wpAny_bind (wpAny_callSpecial?_slot hi.typeIs F.slot_tuple_iterator_next ?_)
 refine call_meets F.slot_tuple_iterator_next hi.typeIs F.entry_tuple_iterator_next (F.args_tuple_iterator_next_1 _) (wv it t i items x) ⟨hi,ht,hx,fun h' k1 k2=>wpAny_pure (h h' k1 k2)⟩
theorem mF {Q:Value→Shared→Prop} (hh:A.handled=none) (hi:s.heap.IsTupleIter it t i) (ht:s.heap.IsTuple t items) (hx:items[i]?=none) (h:∀h' e,Heap.ExtBut it s.heap h'→(∃o,h'.get? e=some o∧o.cls=.type "StopIteration")→E (.ref e) { s with heap:=h' }) :
  wpAny (model prog w) A (Builtin.SmallTypes.nextOf (.ref it)) Q E s:=by
 refine wpAny_bind (wpAny_callSpecial?_slot hi.typeIs F.slot_tuple_iterator_next ?_)
 exact call_meets F.slot_tuple_iterator_next hi.typeIs F.entry_tuple_iterator_next (F.args_tuple_iterator_next_1 _) (xG it t i items) ⟨hh,hi,ht,hx,h⟩
end
theorem pU {h h':Heap} {it t:Addr} {i:Nat} (k:∀o,h.get? it=some o→h'.get? it=some o) (z:h.IsTupleIter it t i):h'.IsTupleIter it t i:=by
 obtain ⟨o,e,r⟩:=z
 exact ⟨o,k o e,r⟩
theorem nG {h h':Heap} {t:Addr} {items:Array Value} (k:∀o,h.get? t=some o→h'.get? t=some o) (z:h.IsTuple t items):h'.IsTuple t items:=by
 obtain ⟨o,e,r⟩:=z
 exact ⟨o,k o e,r⟩
theorem mv {prog:Program} {w:World} {A:Around} (hh:A.handled=none) (it t:Addr) (hne:t≠it) (items:Array Value) :
  Draws prog w A it [it,t] items.size (fun i v=>items[i]?=some v) fun i h=>h.IsTupleIter it t i∧h.IsTuple t items where
 live:=fun i h z=>let ⟨o,e,_⟩:=z.1;⟨o,e⟩
 frame:=fun i h h' z k=>⟨pU (fun o e=>k it (by simp) o e) z.1,nG (fun o e=>k t (by simp) o e) z.2⟩
 item:=fun i s Q E hi z h=>ke z.1 z.2 (Array.getElem?_eq_getElem hi) fun h' k1 k2=>h _ h' s.toks (Array.getElem?_eq_getElem hi) ⟨k1,nG (fun o e=>by rw [k2.2 t hne];exact e) z.2⟩ k2
 done:=fun s Q E z h=>mF hh z.1 z.2 (Array.getElem?_eq_none (Nat.le_refl _)) h
theorem wj (t:Addr) (items:Array Value):Meets (Builtin.«enumerate.__new__» { pos:=[.type "enumerate",.ref t] }) fun _ R s =>
  s.heap.IsTuple t items∧∀h',IsEnum h' (s.heap.objs.size+1) s.heap.objs.size 0 .none→h'.IsTupleIter s.heap.objs.size t 0→(∀b o,s.heap.get? b=some o→h'.get? b=some o)→R (.ok (.ret (.ref (s.heap.objs.size+1)))) { s with heap:=h' }:=by
 intro prog w A R s ⟨ht,h⟩
 refine wpAny_bind ?_
 refine wpAny_bind (wpAny_pure ?_)
 rw [sub_enumerate]
 refine wpAny_bind (wpAny_pure ?_)
 refine wpAny_pure ?_
 refine wpAny_bind (wpAny_bind (wpAny_stack fun st _ _ _=>wpAny_pure ?_))
 have fin:wpAny (model prog w) A.in1 (do
   let i ←pyIter (.ref t)
   let r ←Builtin.SmallTypes.newRecord (.type "enumerate") (Builtin.SmallTypes.ownedTupleFields++[i,rawInt 0,.none,.none])
   ret r) (fun fin s'=>match fin with
   | Fin.done f=>R (Except.ok f) s'
   | Fin.again c'=>c'.quiet=true∧codeAny (model prog w) A c' R s') (fun e s'=>R (Except.error e) s') s:=by
  refine wpAny_bind (wpAny_pyIter_tuple ht ?_)
  refine wpAny_bind (wpAny_newObj_type (T:="enumerate") (data:=.fields #[.none,.bool false,.ref s.heap.objs.size,rawInt 0,.none,.none]) ?_)
  refine wpAny_pure ?_
  have hl:(s.heap.push { cls:=.type "tuple_iterator",data:=.fields #[.ref t,.int 0 0] }).objs.size=s.heap.objs.size+1:=Heap.size_push ..
  have:=h ((s.heap.push { cls:=.type "tuple_iterator",data:=.fields #[.ref t,.int 0 0] }).push { cls:=.type "enumerate",data:=.fields #[.none,.bool false,.ref s.heap.objs.size,rawInt 0,.none,.none] }) (by
   have e:=Heap.get?_push_size (s.heap.push { cls:=.type "tuple_iterator",data:=.fields #[.ref t,.int 0 0] }) (o:={ cls:=.type "enumerate",data:=.fields #[.none,.bool false,.ref s.heap.objs.size,rawInt 0,.none,.none] }) rfl
   rw [hl] at e
   exact e) ⟨_,Heap.get?_push_of_some _ (Heap.get?_push_size _ rfl),rfl,rfl⟩ (fun b o e=>Heap.get?_push_of_some _ (Heap.get?_push_of_some _ e))
  rw [←hl] at this
  exact this
 split
 ·rename_i c _ _ _ _ _
  generalize (c == Value.type "enumerate")=b
  cases b with
  | true=>exact wpAny_bind (m:=pure (Value.ref t,none)) (wpAny_pure fin)
  | false=>exact wpAny_bind (m:=pure (Value.ref t,none)) (wpAny_pure fin)
 ·exact wpAny_bind (m:=pure (Value.ref t,none)) (wpAny_pure fin)
theorem xU {prog:Program} {w:World} {A:Around} {E:Value→Shared→Prop} {s:Shared} {t:Addr} {items:Array Value} {Q:Value→Shared→Prop} (ht:s.heap.IsTuple t items)
  (h:∀h',IsEnum h' (s.heap.objs.size+1) s.heap.objs.size 0 .none→h'.IsTupleIter s.heap.objs.size t 0→(∀b o,s.heap.get? b=some o→h'.get? b=some o)→Q (.ref (s.heap.objs.size+1)) { s with heap:=h' }) :
  wpAny (model prog w) A (call (.type "enumerate") [.ref t]) Q E s:=by
 refine callType_new F.called_enumerate rfl (F.typeCall_enumerate_1 _) (F.newCall_enumerate_1 _) (fun obj=>?_) F.entry_enumerate_new (wj t items) ⟨ht,fun h' k1 k2 k3=>⟨⟨_,k1,rfl⟩,h h' k1 k2 k3⟩⟩
 exact F.args_object_init_2 _ _
noncomputable def Ite (K:PySem.W.Frag) (a:Addr):L2.It :=
 ⟨fun i H=>∃xs x,SqT K H a xs∧xs[i]?=some x,
  fun i H v H'=>∃T,v=.ref T∧H T=none∧∀xs x,SqT K H a xs→xs[i]?=some x→H'=upd H T (.tup [.int i,x]),
  fun i H=>∃xs,SqT K H a xs∧i=xs.length⟩
noncomputable def Hl (a e it:Addr) (i:Nat) (h:Heap):Prop:=(∃old,IsEnum h e it (i:Int) old)∧h.IsTupleIter it a i
theorem AA {P:Program} {w:World} {K:PySem.W.Frag} {elts:List Expr} {kt:Nat} {pt:Pos} {a e it:Addr} (h1:e≠it) (h2:a≠e) (h3:a≠it) :
  AK P w K (.Tuple elts kt pt) (Ite K a) [e,it] e (Hl a e it) where
 mem:=by simp
 obj:=fun i h st c hc=>by
  obtain ⟨⟨old,q1⟩,⟨o4,e4,c4,d4⟩⟩:=st
  simp only [List.mem_cons,List.not_mem_nil,or_false] at hc
  rcases hc with rfl|rfl
  ·exact ⟨_,q1,fun v z=>nomatch z⟩
  ·exact ⟨o4,e4,fun v z=>by rw [d4] at z;cases z⟩
 keep:=fun i h h' st k=>by
  obtain ⟨⟨old,q1⟩,q2⟩:=st
  exact ⟨⟨old,k e (by simp) _ q1⟩,pU (fun o z=>k it (by simp) o z) q2⟩
 item:=by
  intro X hP hw hK hc i pins s σ H E I hf st hg
  subst hP hw hK
  obtain ⟨xs,x,hq1,hx⟩:=hg
  obtain ⟨its1,rv1,p1,hz1⟩:=I.tuple hq1
  obtain ⟨u1,hu1,ru1⟩:=rv1.get hx
  have W:=WalksT.enumerateD (A:=X.A) (mv (prog:=X.prog) (w:=X.w) (A:=X.A.in1) (I.ok.hd hc) it a h3 its1.toArray) e h1 (by simp [h1,Ne.symm h2]) (by simp)
  obtain ⟨q1,q2⟩:=st
  have l1:=(List.getElem?_eq_some_iff.mp hu1).1
  have tp:s.heap.IsTuple a its1.toArray:=p1
  refine W.item i s _ _ (by rw [List.size_toArray];exact l1) ⟨q1,q2,tp⟩ fun T vals h' tk hv hT isT mid kk=>?_
  obtain ⟨tt,v1,e1,rfl⟩:=hv
  have z1:v1=u1:=by
   (have:its1[i]?=some v1:=by simpa using e1);rw [hu1] at this;cases this;rfl
  subst z1
  refine ⟨_,rfl,W.go elts kt pt i T { s with heap:=h',toks:=tk } _ _ mid fun h'' st'' kk2=>?_⟩
  have ap:=W.apart i T h' mid
  obtain ⟨o,eo,c,d⟩:=isT
  have I2:L2.Inv X pins σ (upd H T (.tup [.int i,x])) { s with heap:=h'',toks:=tk }:=yw (its:=[.int i tt,v1]) I (fun b o hb z=>kk2 b o hb (kk b o hb z)) (fun b hb=>hf b (by simpa using hb)) hT (.cons ⟨tt,rfl⟩ (.cons ru1 .nil)) (by simp [sizeLine]) ⟨o,kk2 T o ap eo,c,d⟩
  refine ⟨.ref T,_,I2,rfl,⟨T,rfl,I.hok.fresh hT,fun xs' x' k1 k2=>?_⟩,⟨st''.1,st''.2.1⟩,fun b hb=>?_⟩
  ·rw [I.tuple_inj k1 hq1,hx] at k2
   cases k2;rfl
  ·have hlt:b<s.heap.objs.size:=by
    simp only [List.mem_cons,List.not_mem_nil,or_false] at hb
    obtain ⟨old,q1⟩:=q1
    obtain ⟨o5,e5,_⟩:=q2
    rcases hb with rfl|rfl
    ·exact Heap.lt_size q1
    ·exact Heap.lt_size e5
   rw [am (Nat.ne_of_lt (Nat.lt_of_lt_of_le hlt hT))]
   exact (hf b hb).1
 done:=by
  intro X hP hw hK hc i pins s σ H E I hf st hg
  subst hP hw hK
  obtain ⟨xs,hq1,rfl⟩:=hg
  obtain ⟨its1,rv1,p1,hz1⟩:=I.tuple hq1
  have W:=WalksT.enumerateD (A:=X.A) (mv (prog:=X.prog) (w:=X.w) (A:=X.A.in1) (I.ok.hd hc) it a h3 its1.toArray) e h1 (by simp [h1,Ne.symm h2]) (by simp)
  obtain ⟨q1,q2⟩:=st
  rw [rv1.length] at q1 q2
  exact W.done s _ _ ⟨by simpa using q1,by simpa using q2,p1⟩ fun h' tk kk=>⟨rfl,yZ I kk fun b hb=>hf b (by simpa using hb)⟩
 self:=fun _ _ _ _ _ st h=>by
  obtain ⟨⟨old,q1⟩,_⟩:=st
  exact wpAny_pyIter_enum q1 h
section
variable {X:Cx}
noncomputable def IP (K:PySem.W.Frag) (ta:TA):TI:=fun σ H R=>ta σ H fun vs H1=>∃a,vs=[.ref a]∧(∃xs,SqT K H1 a xs)∧R (Ite K a) H1
theorem E3 {elts:List Expr} {kt:Nat} {pt:Pos} {a:Expr} {ta:TA} {p pos:Pos} (hg:Gl X "enumerate") (hm:X.mg "enumerate"=none) (ha:PA X [a] ta) (hs:starEach [a] X.env=[(false,eval a X.env)]) :
  PI X (.Tuple elts kt pt) (.Call (.Name "enumerate" p) [a] [] pos) (IP X.K ta):=by
 intro pins s σ H R I h
 refine Call_ (iO I hg hm boot_enumerate (PyProof.Rows.callWith_type1 (thn (ha pos pins s σ H _ I h) fun us s1 ⟨vs,H1,I1,r1,q1⟩=>?_) (by rw [hs];rfl) rfl))
 obtain ⟨l1,e,⟨xs,hq1⟩,q⟩:=q1
 subst e
 cases r1 with
 | cons r rr =>
  cases rr
  cases r
  obtain ⟨its1,rv1,p1,hz1⟩:=I1.tuple hq1
  have tp:s1.heap.IsTuple l1 its1.toArray:=p1
  have lt1:l1<s1.heap.objs.size:=by obtain ⟨_,e,_⟩:=tp;exact Heap.lt_size e
  refine xU tp fun h' k1 k2 kk=>?_
  refine wpAny_pyIter_enum k1 ?_
  refine ⟨_,_,_,_,H1,rfl,I1.kept (t':=s1.toks) kk,AA (Nat.succ_ne_self _) (Nat.ne_of_lt (Nat.lt_succ_of_lt lt1)) (Nat.ne_of_lt lt1),⟨⟨_,k1⟩,k2⟩,fun b hb=>?_,q⟩
  have hb':s1.heap.objs.size≤b:=by
   simp only [List.mem_cons,List.not_mem_nil,or_false] at hb
   rcases hb with rfl|rfl <;> first|exact Nat.le_refl _|exact Nat.le_add_right _ _
  exact I1.fpOk hb' (I1.hok.fresh hb')
end
theorem lr:∀ {xs:List PV} {i:Int},(iT i xs).length=xs.length
 | [],i=>by simp [iT]
 | x::xs,i=>by simp only [iT,List.length_cons,lr (xs:=xs)]
theorem lK:∀ {xs:List PV} {k:Int} {i:Nat} {v:PV},(iT k xs)[i]?=some v→∃x,xs[i]?=some x∧v=.tup [.int (k+i),x]
 | [],k,i,v,h=>by simp [iT] at h
 | x::xs,k,0,v,h=>by simp [iT] at h;exact ⟨x,rfl,by rw [←h];simp⟩
 | x::xs,k,i+1,v,h=>by
  simp only [iT,List.getElem?_cons_succ] at h ⊢
  obtain ⟨y,e,rfl⟩:=lK h
  refine ⟨y,e,?_⟩
  rw [show k+1+(i:Int)=k+((i+1:Nat):Int) by omega]
theorem AL {K:PySem.W.Frag} {m0:List Addr} {H0:Hp} {a:Addr} {xs:List PV} {ys:List V} (h:SqT K H0 a ys) (r0:Rs K m0 H0 xs ys):so K (Ite K a) (iT 0 xs) (fun _=>True) m0 H0:=by
 refine ⟨fun m H st x r q=>⟨ys,x.tup _ _ h,by rw [lr,r0.len]⟩,fun i v m H st x r q ev=>?_⟩
 obtain ⟨u,e1,rfl⟩:=lK ev
 obtain ⟨y1,f1,q1⟩:=r0.get e1
 refine ⟨⟨ys,y1,x.tup _ _ h,f1⟩,?_⟩
 rintro z H' ⟨T,rfl,hT,hh⟩
 have:=hh ys y1 (x.tup _ _ h) f1
 subst this
 refine ⟨Ext.newT r hT,r.newT hT,R_tup.mpr ⟨T,[.int i,y1],rfl,SqT.of cQ,?_⟩⟩
 rw [Rs_cons',Rs_cons',Rs_nil,R_int]
 exact ⟨by simp,(q1.mono x).mono (Ext.newT r hT),rfl⟩
end FW
set_option Elab.async false
set_option linter.all false
set_option maxRecDepth 100000
set_option maxHeartbeats 1000000
namespace FW
open PySem PySem.Spec PyProof.Rows L2 HX
structure Zs where
 it:Addr
 c:Bool × Addr
 xs:Array Value
noncomputable abbrev Zs.a (q:Zs):Addr:=q.c.2
noncomputable def ItB (h:Heap) (it:Addr) (c:Bool × Addr) (i:Nat):Prop:=if c.1=true then h.IsListIter it c.2 i else h.IsTupleIter it c.2 i
noncomputable def SeqB (h:Heap) (c:Bool × Addr) (xs:Array Value):Prop:=if c.1=true then h.IsList c.2 xs else h.IsTuple c.2 xs
theorem ItB.keep {h h':Heap} {it:Addr} {c:Bool × Addr} {i:Nat} (z:ItB h it c i) (k:∀o,h.get? it=some o→h'.get? it=some o):ItB h' it c i:=by
 obtain ⟨b,a⟩:=c
 cases b with
 | true=>exact (show h.IsListIter it a i from z).at k
 | false=>exact pU k (show h.IsTupleIter it a i from z)
theorem ItB.obj {h:Heap} {it:Addr} {c:Bool × Addr} {i:Nat} (z:ItB h it c i):∃o vs,h.get? it=some o∧o.data=.fields vs:=by
 obtain ⟨b,a⟩:=c
 cases b with
 | true=>obtain ⟨o,e,_,d⟩:=(show h.IsListIter it a i from z);exact ⟨o,_,e,d⟩
 | false=>obtain ⟨o,e,_,d⟩:=(show h.IsTupleIter it a i from z);exact ⟨o,_,e,d⟩
theorem SeqB.keep {h h':Heap} {c:Bool × Addr} {xs:Array Value} (z:SeqB h c xs) (k:∀o,h.get? c.2=some o→h'.get? c.2=some o):SeqB h' c xs:=by
 obtain ⟨b,a⟩:=c
 cases b with
 | true=>exact (show h.IsList a xs from z).at k
 | false=>exact nG k (show h.IsTuple a xs from z)
noncomputable def SrcAt (h:Heap) (q:Zs) (i:Nat):Prop:=ItB h q.it q.c i∧SeqB h q.c q.xs
theorem SrcAt.keep {h h':Heap} {q:Zs} {i:Nat} (z:SrcAt h q i) (k1:∀o,h.get? q.it=some o→h'.get? q.it=some o) (k2:∀o,h.get? q.a=some o→h'.get? q.a=some o):SrcAt h' q i:=⟨z.1.keep k1,z.2.keep k2⟩
theorem SrcAt.obj {h:Heap} {q:Zs} {i:Nat} (z:SrcAt h q i):∃o vs,h.get? q.it=some o∧o.data=.fields vs:=z.1.obj
section
variable {prog:Program} {w:World} {A:Around} {E:Value→Shared→Prop} {s:Shared} {q:Zs} {i:Nat}
theorem vi {x:Value} {Q:Value→Shared→Prop} (hne:q.a≠q.it) (h:SrcAt s.heap q i) (hx:q.xs[i]?=some x) (hQ:∀h',SrcAt h' q (i+1)→Heap.SameBut q.it s.heap h'→Q x { s with heap:=h' }):wpAny (model prog w) A (Builtin.SmallTypes.nextOf (.ref q.it)) Q E s:=by
 obtain ⟨it,⟨b,a⟩,xs⟩:=q
 obtain ⟨z1,z2⟩:=h
 cases b with
 | true=>exact wpAny_nextOf_list_item (show s.heap.IsListIter it a i from z1) (show s.heap.IsList a xs from z2) hx fun h' k1 k2=>hQ h' ⟨k1,z2.keep fun o e=>by rw [k2.2 _ hne];exact e⟩ k2
 | false=>exact ke (show s.heap.IsTupleIter it a i from z1) (show s.heap.IsTuple a xs from z2) hx fun h' k1 k2=>hQ h' ⟨k1,z2.keep fun o e=>by rw [k2.2 _ hne];exact e⟩ k2
theorem EW {Q:Value→Shared→Prop} (hh:A.handled=none) (h:SrcAt s.heap q i) (hx:q.xs[i]?=none) (hE:∀h' e,Heap.ExtBut q.it s.heap h'→(∃o,h'.get? e=some o∧o.cls=.type "StopIteration")→E (.ref e) { s with heap:=h' }):wpAny (model prog w) A (Builtin.SmallTypes.nextOf (.ref q.it)) Q E s:=by
 obtain ⟨it,⟨b,a⟩,xs⟩:=q
 obtain ⟨z1,z2⟩:=h
 cases b with
 | true=>exact wpAny_nextOf_list_end hh (show s.heap.IsListIter it a i from z1) (show s.heap.IsList a xs from z2) hx hE
 | false=>exact mF hh (show s.heap.IsTupleIter it a i from z1) (show s.heap.IsTuple a xs from z2) hx hE
theorem Fe {c:Bool × Addr} {xs:Array Value} {Q:Value→Shared→Prop} (h:SeqB s.heap c xs) (hQ:∀o,ItB (s.heap.push o) s.heap.objs.size c 0→Q (.ref s.heap.objs.size) { s with heap:=s.heap.push o }):wpAny (model prog w) A (pyIter (.ref c.2)) Q E s:=by
 obtain ⟨b,a⟩:=c
 cases b with
 | true=>exact wpAny_pyIter_list (show s.heap.IsList a xs from h) (hQ _ ⟨_,Heap.get?_push_size _ rfl,rfl,rfl⟩)
 | false=>exact wpAny_pyIter_tuple (show s.heap.IsTuple a xs from h) (hQ _ ⟨_,Heap.get?_push_size _ rfl,rfl,rfl⟩)
end
noncomputable abbrev dR (xs:List Value):Obj:={ cls:=.type "tuple",data:=.seq xs.toArray }
structure ZA (z TI TO:Addr) (ss:List Zs):Prop where
 nd:(z::TI::TO::ss.map Zs.it).Nodup
 ap:∀q∈ss,q.a ∉ z::TI::TO::ss.map Zs.it
section
variable {prog:Program} {w:World} {A:Around} {E:Value→Shared→Prop} {z TI TO:Addr} {i:Nat}
noncomputable def Cg (prog:Program) (w:World) (A:Around) (z TI TO:Addr) (f:Value × Nat→Option Fin × Unit→Sem (ForInStep (Option Fin × Unit))):Prop :=
 ∀(it:Addr) (k:Nat) (s:Shared) (R:ForInStep (Option Fin × Unit)→Shared→Prop) (E:Value→Shared→Prop),
  wpAny (model prog w) A (Builtin.SmallTypes.nextOf (.ref it)) (fun x s1=>∃arr,s1.heap.get? TO=some (dR arr)∧arr.length≤sizeLine∧∀h',h'.get? TO=some (dR (arr.set k x))→Heap.SameBut TO s1.heap h'→R (.yield (none,())) { s1 with heap:=h' })
   (fun e s1=>IsZip s1.heap z TI TO .ellipsis∧∀h',IsZip h' z TI TO .none→Heap.SameBut z s1.heap h'→E e { s1 with heap:=h' }) s →
  wpAny (model prog w) A (f (.ref it,k) (none,())) R E s
theorem Ek {f:Value × Nat→Option Fin × Unit→Sem (ForInStep (Option Fin × Unit))} (hf:Cg prog w A z TI TO f):∀ {ss dn:List Zs} {dx xs arr:List Value} {s:Shared} {R:Option Fin × Unit→Shared→Prop},ZA z TI TO (dn++ss)→(dn++ss).length≤sizeLine →
  Paired (fun (q:Zs) (x:Value)=>q.xs[i]?=some x) ss xs→dx.length=dn.length→arr.length=ss.length→IsZip s.heap z TI TO .ellipsis→s.heap.get? TO=some (dR (dx++arr))→(∀q∈dn,SrcAt s.heap q (i+1))→(∀q∈ss,SrcAt s.heap q i) →
  (∀h',IsZip h' z TI TO .ellipsis→h'.get? TO=some (dR (dx++xs))→(∀q∈dn++ss,SrcAt h' q (i+1))→h'.objs.size=s.heap.objs.size→(∀c o,c ∉ TO::(dn++ss).map Zs.it→s.heap.get? c=some o→h'.get? c=some o)→R (none,()) { s with heap:=h' }) →
  wpAny (model prog w) A (forIn ((ss.map fun q=>Value.ref q.it).zipIdx dn.length) (none,()) f) R E s:=by
 intro ss
 induction ss with
 | nil =>
  intro dn dx xs arr s R ap hsz hp hl ha hz hTO h1 h2 hR
  cases hp
  have:arr=[]:=List.length_eq_zero_iff.mp ha
  subst this
  exact wpAny_pure (hR s.heap hz hTO (by simpa using h1) rfl fun c o _ e=>e)
 | cons q ss ih =>
  intro dn dx xs arr s R ap hsz hp hl ha hz hTO h1 h2 hR
  cases hp with
  | @cons _ x _ xs hx hp =>
  cases arr with
  | nil=>simp at ha
  | cons b arr =>
  rw [List.map_cons,List.zipIdx_cons,List.forIn_cons]
  have nd:=ap.nd
  have qm:q∈dn++q::ss:=by simp
  have im:q.it∈(dn++q::ss).map Zs.it:=List.mem_map.mpr ⟨q,qm,rfl⟩
  have zi:z≠q.it:=fun e=>by
   have:=(List.nodup_cons.mp nd).1
   exact this (by simp [e])
  have ti:TO≠q.it:=fun e=>by
   have:=(List.nodup_cons.mp (List.nodup_cons.mp (List.nodup_cons.mp nd).2).2).1
   exact this (by rw [e];exact im)
  have zt:z≠TO:=fun e=>by
   have:=(List.nodup_cons.mp nd).1
   exact this (by simp [e])
  have ni:=(List.nodup_cons.mp (List.nodup_cons.mp (List.nodup_cons.mp nd).2).2).2
  have oth:∀p,p∈dn∨p∈ss→p.it≠q.it:=fun p hp e=>by
   rw [List.map_append,List.map_cons] at ni
   rcases hp with hp|hp
   ·have:=(List.nodup_append.mp ni).2.2 p.it (List.mem_map.mpr ⟨p,hp,rfl⟩) q.it (by simp)
    exact this e
   ·have:=(List.nodup_cons.mp (List.nodup_append.mp ni).2.1).1
    exact this (by rw [←e];exact List.mem_map.mpr ⟨p,hp,rfl⟩)
  have apa:∀p∈dn++q::ss,p.a≠q.it∧p.a≠TO:=fun p hp=>⟨fun e=>ap.ap p hp (by rw [e];simp),fun e=>ap.ap p hp (by rw [e];simp)⟩
  have tot:∀p∈dn++q::ss,p.it≠TO:=fun p hp e=>by
   have:=(List.nodup_cons.mp (List.nodup_cons.mp (List.nodup_cons.mp nd).2).2).1
   exact this (by rw [←e];exact List.mem_map.mpr ⟨p,hp,rfl⟩)
  refine wpAny_bind (hf q.it dn.length s _ _ ?_)
  refine vi (apa q qm).1 (h2 q (by simp)) hx fun h' k1 k2=>⟨dx++b::arr,by show h'.get? TO=_;rw [k2.2 TO ti];exact hTO,by rw [List.length_append,hl,ha,←List.length_append];exact hsz,fun h'' k3 k4=>?_⟩
  have both:∀c o,c≠q.it→c≠TO→s.heap.get? c=some o→h''.get? c=some o:=fun c o c1 c2 e=>by
   rw [k4.2 c c2]
   show h'.get? c=some o
   rw [k2.2 c c1]
   exact e
  have e3:(dx++b::arr).set dn.length x=(dx++[x])++arr:=by
   rw [←hl,List.set_append_right _ _ (Nat.le_refl _),Nat.sub_self]
   simp
  rw [e3] at k3
  have ea:dn++q::ss=(dn++[q])++ss:=by simp
  have el:dn.length+1=(dn++[q]).length:=by simp
  show wpAny _ _ (forIn ((ss.map fun q=>Value.ref q.it).zipIdx (dn.length+1)) (none,()) f) R E _
  rw [el]
  refine ih (dn:=dn++[q]) (dx:=dx++[x]) (xs:=xs) (arr:=arr) (by rw [←ea];exact ap) (by rw [←ea];exact hsz) hp (by simp [hl]) (by simpa using ha) (both z _ zi zt hz) k3 (fun p hp=>?_) (fun p hp=>?_) fun h3 j1 j2 j3 j4 j5=>?_
  ·rcases List.mem_append.mp hp with hp|hp
   ·exact (h1 p hp).keep (fun o e=>both _ o (oth p (.inl hp)) (tot p (by simp [hp])) e) fun o e=>both _ o (apa p (by simp [hp])).1 (apa p (by simp [hp])).2 e
   ·rw [List.mem_singleton] at hp
    subst hp
    exact k1.keep (fun o e=>by rw [k4.2 _ (Ne.symm ti)];exact e) fun o e=>by rw [k4.2 _ (apa p qm).2];exact e
  ·exact (h2 p (by simp [hp])).keep (fun o e=>both _ o (oth p (.inr hp)) (tot p (by simp [hp])) e) fun o e=>both _ o (apa p (by simp [hp])).1 (apa p (by simp [hp])).2 e
  ·refine hR h3 j1 (by rw [j2];simp) (by rw [ea];exact j3) (by rw [j4,k4.1];exact k2.1) fun c o hc e=>?_
   rw [ea] at hc
   refine j5 c o hc (both c o (fun z=>hc ?_) (fun z=>hc ?_) e)
   ·rw [z];simp
   ·rw [z];simp
theorem C5 {f:Value × Nat→Option Fin × Unit→Sem (ForInStep (Option Fin × Unit))} (hf:Cg prog w A z TI TO f) (hh:A.handled=none):∀ {ss dn:List Zs} {dx arr:List Value} {s:Shared} {R:Option Fin × Unit→Shared→Prop},ZA z TI TO (dn++ss)→(dn++ss).length≤sizeLine →
  (∃q∈ss,q.xs[i]?=none)→dx.length=dn.length→arr.length=ss.length→IsZip s.heap z TI TO .ellipsis→s.heap.get? TO=some (dR (dx++arr))→(∀q∈ss,SrcAt s.heap q i) →
  (∀h' e,(∀c o,c ∉ z::TO::(dn++ss).map Zs.it→s.heap.get? c=some o→h'.get? c=some o)→(∃o,h'.get? e=some o∧o.cls=.type "StopIteration")→E (.ref e) { s with heap:=h' }) →
  wpAny (model prog w) A (forIn ((ss.map fun q=>Value.ref q.it).zipIdx dn.length) (none,()) f) R E s:=by
 intro ss
 induction ss with
 | nil =>
  intro dn dx arr s R ap hsz hq
  obtain ⟨q,hq,_⟩:=hq
  cases hq
 | cons q ss ih =>
  intro dn dx arr s R ap hsz hq hl ha hz hTO h2 hE
  cases arr with
  | nil=>simp at ha
  | cons b arr =>
  rw [List.map_cons,List.zipIdx_cons,List.forIn_cons]
  have nd:=ap.nd
  have qm:q∈dn++q::ss:=by simp
  have im:q.it∈(dn++q::ss).map Zs.it:=List.mem_map.mpr ⟨q,qm,rfl⟩
  have zi:z≠q.it:=fun e=>(List.nodup_cons.mp nd).1 (by simp [e])
  have ti:TO≠q.it:=fun e=>(List.nodup_cons.mp (List.nodup_cons.mp (List.nodup_cons.mp nd).2).2).1 (by rw [e];exact im)
  have zt:z≠TO:=fun e=>(List.nodup_cons.mp nd).1 (by simp [e])
  have ni:=(List.nodup_cons.mp (List.nodup_cons.mp (List.nodup_cons.mp nd).2).2).2
  have oth:∀p,p∈ss→p.it≠q.it:=fun p hp e=>by
   rw [List.map_append,List.map_cons] at ni
   exact (List.nodup_cons.mp (List.nodup_append.mp ni).2.1).1 (by rw [←e];exact List.mem_map.mpr ⟨p,hp,rfl⟩)
  have apa:∀p∈dn++q::ss,p.a≠q.it∧p.a≠TO:=fun p hp=>⟨fun e=>ap.ap p hp (by rw [e];simp),fun e=>ap.ap p hp (by rw [e];simp)⟩
  have tot:∀p∈dn++q::ss,p.it≠TO:=fun p hp e=>(List.nodup_cons.mp (List.nodup_cons.mp (List.nodup_cons.mp nd).2).2).1 (by rw [←e];exact List.mem_map.mpr ⟨p,hp,rfl⟩)
  refine wpAny_bind (hf q.it dn.length s _ _ ?_)
  cases hx:q.xs[i]? with
  | none =>
   refine EW hh (h2 q (by simp)) hx fun h' e k1 k2=>?_
   have hz2:IsZip h' z TI TO .ellipsis:=k1 _ _ zi hz
   obtain ⟨oe,he,hc⟩:=k2
   have ez:e≠z:=fun z=>by subst z;rw [hz2] at he;cases he;simp at hc
   refine ⟨hz2,fun h'' _ k4=>hE h'' e (fun c o hc e=>?_) ⟨oe,by rw [k4.2 e ez];exact he,hc⟩⟩
   rw [k4.2 c (fun z=>hc (by rw [z];simp))]
   exact k1 c o (fun z=>hc (by rw [z];simp)) e
  | some x =>
   refine vi (apa q qm).1 (h2 q (by simp)) hx fun h' k1 k2=>⟨dx++b::arr,by show h'.get? TO=_;rw [k2.2 TO ti];exact hTO,by rw [List.length_append,hl,ha,←List.length_append];exact hsz,fun h'' k3 k4=>?_⟩
   have both:∀c o,c≠q.it→c≠TO→s.heap.get? c=some o→h''.get? c=some o:=fun c o c1 c2 e=>by
    rw [k4.2 c c2]
    show h'.get? c=some o
    rw [k2.2 c c1]
    exact e
   have e3:(dx++b::arr).set dn.length x=(dx++[x])++arr:=by
    rw [←hl,List.set_append_right _ _ (Nat.le_refl _),Nat.sub_self]
    simp
   rw [e3] at k3
   have ea:dn++q::ss=(dn++[q])++ss:=by simp
   have el:dn.length+1=(dn++[q]).length:=by simp
   show wpAny _ _ (forIn ((ss.map fun q=>Value.ref q.it).zipIdx (dn.length+1)) (none,()) f) R E _
   rw [el]
   obtain ⟨p,hp,hn⟩:=hq
   have hp':p∈ss:=by
    rcases List.mem_cons.mp hp with rfl|h
    ·rw [hx] at hn;cases hn
    ·exact h
   refine ih (dn:=dn++[q]) (dx:=dx++[x]) (arr:=arr) (by rw [←ea];exact ap) (by rw [←ea];exact hsz) ⟨p,hp',hn⟩ (by simp [hl]) (by simpa using ha) (both z _ zi zt hz) k3 (fun p hp=>?_) fun h3 e j1 j2=>hE h3 e (fun c o hc e=>?_) j2
   ·exact (h2 p (by simp [hp])).keep (fun o e=>both _ o (oth p hp) (tot p (by simp [hp])) e) fun o e=>both _ o (apa p (by simp [hp])).1 (apa p (by simp [hp])).2 e
   ·rw [ea] at hc
    refine j1 c o hc (both c o (fun z=>hc ?_) (fun z=>hc ?_) e)
    ·rw [z];simp
    ·rw [z];simp
theorem Hc {s:Shared} {xs:List Value} {k:Nat} {x:Value} {Q:Unit→Shared→Prop} (hT:s.heap.get? TO=some (dR xs)) (hs:xs.length≤sizeLine) (h:∀h',h'.get? TO=some (dR (xs.set k x))→Heap.SameBut TO s.heap h'→Q () { s with heap:=h' }) :
  wpAny (model prog w) A (updateSeq TO fun v=>v.setIfInBounds k x) Q E s:=by
 refine wpAny_updateSeq hT rfl (h _ ?_ (Heap.SameBut.update _ _ _)) (by simpa using hs) (by simp;omega)
 rw [Heap.get?_update_self _ hT rfl]
 simp [Obj.mapSeq]
theorem C9 {s:Shared} {T:Addr} {Q:Unit→Shared→Prop} (hz:IsZip s.heap z TI TO .ellipsis) (h:∀h',IsZip h' z TI TO (rawInt T)→Heap.SameBut z s.heap h'→Q () { s with heap:=h' }):wpAny (model prog w) A (Builtin.SmallTypes.ownedTupleHandOut (.ref z) (.ref T)) Q E s:=by
 refine wpAny_bind (wpAny_setField_rec hz (Nat.zero_lt_succ _) fun h1 k1 k2=>?_)
 have k1:IsZip h1 z TI TO (rawInt T):=k1
 refine wpAny_setField_rec k1 (Nat.succ_lt_succ (Nat.zero_lt_succ _)) fun h2 k3 k4=>?_
 exact h h2 k3 ⟨k4.1.trans k2.1,fun c hc=>(k4.2 c hc).trans (k2.2 c hc)⟩
theorem uD {s:Shared} {ss:List Zs} {arr:List Value} {Q:Fin→Shared→Prop} (hz:IsZip s.heap z TI TO .none) (hTI:s.heap.get? TI=some (dR (ss.map fun q=>Value.ref q.it))) (hTO:s.heap.get? TO=some (dR arr)) (hne:ss≠[])
  (h:∀f h',Cg prog w A z TI TO f→IsZip h' z TI TO .ellipsis→Heap.SameBut z s.heap h'→wpAny (model prog w) A (forIn ((ss.map fun q=>Value.ref q.it).zipIdx 0) (none,()) f) (fun r s1=>r.1=none∧IsZip s1.heap z TI TO .ellipsis∧∃xs,s1.heap.get? TO=some (dR xs)∧xs.length≤sizeLine ∧
   ∀h2,IsZip h2 z TI TO (rawInt s1.heap.objs.size)→h2.get? s1.heap.objs.size=some (dR xs)→h2.objs.size=s1.heap.objs.size+1→(∀c o,c≠z→s1.heap.get? c=some o→h2.get? c=some o)→Q (.done (.ret (.ref s1.heap.objs.size))) { s1 with heap:=h2 }) E { s with heap:=h' }) :
  wpAny (model prog w) A (Builtin.«zip.__next__» ⟨[.ref z],[]⟩) Q E s:=by
 have hemp:(ss.map fun q=>Value.ref q.it).toArray.isEmpty=false:=by
  cases ss with
  | nil=>exact absurd rfl hne
  | cons a b=>rfl
 refine wpAny_bind (wpAny_pure ?_)
 refine wpAny_bind (wpAny_field (i:=2) hz rfl rfl ?_)
 refine wpAny_bind (wpAny_field (i:=3) hz rfl rfl ?_)
 refine wpAny_bind (wpAny_seqItems hTI rfl ?_)
 dsimp only
 rw [hemp]
 simp only [Bool.false_eq_true,if_false]
 refine wpAny_bind (wpAny_bind (wpAny_field (i:=0) hz rfl rfl (wpAny_pure ?_)))
 rw [if_pos rfl]
 refine wpAny_bind (wpAny_rule ?_)
 refine wpAny_bind (wpAny_field (i:=4) hz rfl rfl ?_)
 refine wpAny_bind (wpAny_setField_rec hz (Nat.zero_lt_succ _) fun h1 k1 k2=>?_)
 refine wpAny_bind (wpAny_mono (h _ h1 ?_ k1 k2) (fun r s1 hr=>?_) fun _ _ e=>e)
 ·intro it k s2 R E2 hw
  refine wpAny_bind (wpAny_onRaise ?_)
  refine wpAny_bind (m:=Builtin.SmallTypes.nextOf (.ref it)) (wpAny_mono hw (fun x s3 hx=>?_) fun e s3 he=>?_)
  ·obtain ⟨arr,e1,e0,e2⟩:=hx
   refine wpAny_pure ?_
   refine wpAny_bind (wpAny_seqItems e1 rfl ?_)
   refine wpAny_bind (Hc e1 e0 fun h' q1 q2=>?_)
   exact wpAny_bind (wpAny_letGo (wpAny_pure (e2 h' q1 q2)))
  ·exact wpAny_setField_rec he.1 (Nat.zero_lt_succ _) fun h' q1 q2=>he.2 h' q1 q2
 ·obtain ⟨hn,z1,xs,t1,lx,q⟩:=hr
  rw [hn]
  refine wpAny_bind (wpAny_seqItems t1 rfl ?_)
  refine wpAny_bind (wpAny_newTuple ?_ lx)
  have z2:IsZip (s1.heap.push (dR xs)) z TI TO .ellipsis:=Heap.get?_push_of_some _ z1
  refine wpAny_bind (C9 (s:={ s1 with heap:=s1.heap.push (dR xs) }) z2 fun h' q1 q2=>wpAny_pure ?_)
  have nz:s1.heap.objs.size≠z:=fun e=>absurd (Heap.lt_size z1) (by rw [←e];exact Nat.lt_irrefl _)
  refine q h' q1 (by rw [q2.2 _ nz];exact Heap.get?_push_size _ rfl) (q2.1.trans (Heap.size_push _ _)) fun c o hc e=>?_
  rw [q2.2 c hc]
  exact Heap.get?_push_of_some _ e
noncomputable def ZSt (z TI TO:Addr) (its:List Addr) (h:Heap):Prop:=IsZip h z TI TO .none∧h.get? TI=some (dR (its.map Value.ref))∧∃arr,arr.length=its.length∧h.get? TO=some (dR arr)
theorem B' {ss:List Zs}:(ss.map fun q=>Value.ref q.it)=(ss.map Zs.it).map Value.ref:=by rw [List.map_map];rfl
theorem A7 {s:Shared} {ss:List Zs} {xs:List Value} {Q:Option Value→Shared→Prop} (ap:ZA z TI TO ss) (hne:ss≠[]) (hs:ss.length≤sizeLine) (hz:ZSt z TI TO (ss.map Zs.it) s.heap) (h1:∀q∈ss,SrcAt s.heap q i) (hp:Paired (fun (q:Zs) (x:Value)=>q.xs[i]?=some x) ss xs)
  (hQ:∀h' T,s.heap.objs.size≤T→IsZip h' z TI TO (rawInt T)→h'.get? TI=some (dR ((ss.map Zs.it).map Value.ref))→h'.get? TO=some (dR xs)→(∀q∈ss,SrcAt h' q (i+1))→h'.get? T=some (dR xs)→T ∉ z::TI::TO::ss.map Zs.it→(∀c o,c ∉ z::TI::TO::ss.map Zs.it→s.heap.get? c=some o→h'.get? c=some o)→Q (some (.ref T)) { s with heap:=h' }) :
  wpAny (model prog w) A (pyNext (.ref z)) Q E s:=by
 obtain ⟨z1,t1,arr,la,t2⟩:=hz
 have hT:s.TypeIs (.ref z) "zip":=⟨_,z1,rfl⟩
 have nd:=ap.nd
 have TIz:TI≠z:=fun e=>(List.nodup_cons.mp nd).1 (by simp [e])
 have TOz:TO≠z:=fun e=>(List.nodup_cons.mp nd).1 (by simp [e])
 have itz:∀q∈ss,q.it≠z:=fun q hq e=>(List.nodup_cons.mp nd).1 (by rw [←e];simp;exact .inr (.inr ⟨q,hq,rfl⟩))
 have az:∀q∈ss,q.a≠z:=fun q hq e=>ap.ap q hq (by rw [e];simp)
 have TIn:=(List.nodup_cons.mp (List.nodup_cons.mp nd).2).1
 refine wpAny_bind (wpAny_attempt (wpAny_callSpecial?_slot hT F.slot_zip_next (wpAny_call_entry F.slot_zip_next hT F.entry_zip_next ?_ (F.args_zip_next_1 _))))
 refine uD (arr:=arr) z1 (by rw [B'];exact t1) t2 hne fun f h1' hf k1 k2=>?_
 have src:∀q∈ss,SrcAt h1' q i:=fun q hq=>(h1 q hq).keep (fun o e=>by rw [k2.2 _ (itz q hq)];exact e) fun o e=>by rw [k2.2 _ (az q hq)];exact e
 have lp:=hp.length
 refine Ek (dn:=[]) (dx:=[]) (s:={ s with heap:=h1' }) hf ap hs hp rfl (by rw [la,List.length_map]) k1 (by rw [k2.2 _ TOz];exact t2) (fun q hq=>nomatch hq) src fun h2 j1 j2 j3 j4 j5=>?_
 refine ⟨rfl,j1,xs,j2,by rw [←lp];exact hs,fun h3 m1 m2 m3 m4=>⟨_,rfl,wpAny_pure ?_⟩⟩
 have big:∀c o,s.heap.get? c=some o→c≠h2.objs.size:=fun c o e z=>by
  have:=Heap.lt_size e
  rw [z,j4,k2.1] at this
  exact absurd this (Nat.lt_irrefl _)
 have all:∀c o,c ∉ z::TI::TO::ss.map Zs.it→s.heap.get? c=some o→h3.get? c=some o:=fun c o hc e=>by
  refine m4 c o (fun z=>hc (by rw [z];simp)) (j5 c o (fun z=>hc ?_) ?_)
  ·rcases List.mem_cons.mp z with z|z
   ·rw [z];simp
   ·exact List.mem_cons_of_mem _ (List.mem_cons_of_mem _ (List.mem_cons_of_mem _ z))
  ·show h1'.get? c=some o
   rw [k2.2 c (fun z=>hc (by rw [z];simp))]
   exact e
 refine hQ h3 _ (by rw [j4,k2.1];exact Nat.le_refl _) m1 ?_ (m4 _ _ TOz j2) (fun q hq=>(j3 q hq).keep (fun o e=>m4 _ o (itz q hq) e) fun o e=>m4 _ o (az q hq) e) m2 (fun hm=>?_) all
 ·refine m4 _ _ TIz (j5 _ _ (fun z=>TIn ?_) ?_)
  ·exact z
  ·show h1'.get? TI=_
   rw [k2.2 _ TIz]
   exact t1
 ·simp only [List.mem_cons] at hm
  rcases hm with e|e|e|e
  ·exact big z _ z1 e.symm
  ·exact big TI _ t1 e.symm
  ·exact big TO _ t2 e.symm
  ·obtain ⟨q,hq,e⟩:=List.mem_map.mp e
   obtain ⟨o,_,eo,_⟩:=(h1 q hq).obj
   exact big _ _ eo e
theorem BG {s:Shared} {ss:List Zs} {Q:Option Value→Shared→Prop} (hh:A.handled=none) (ap:ZA z TI TO ss) (hs:ss.length≤sizeLine) (hz:ZSt z TI TO (ss.map Zs.it) s.heap) (h1:∀q∈ss,SrcAt s.heap q i) (hn:∃q∈ss,q.xs[i]?=none)
  (hQ:∀h',(∀c o,c ∉ z::TI::TO::ss.map Zs.it→s.heap.get? c=some o→h'.get? c=some o)→Q none { s with heap:=h' }):wpAny (model prog w) A (pyNext (.ref z)) Q E s:=by
 obtain ⟨z1,t1,arr,la,t2⟩:=hz
 have hT:s.TypeIs (.ref z) "zip":=⟨_,z1,rfl⟩
 have nd:=ap.nd
 have TOz:TO≠z:=fun e=>(List.nodup_cons.mp nd).1 (by simp [e])
 have itz:∀q∈ss,q.it≠z:=fun q hq e=>(List.nodup_cons.mp nd).1 (by rw [←e];simp;exact .inr (.inr ⟨q,hq,rfl⟩))
 have az:∀q∈ss,q.a≠z:=fun q hq e=>ap.ap q hq (by rw [e];simp)
 have hne:ss≠[]:=fun e=>by obtain ⟨q,hq,_⟩:=hn;rw [e] at hq;cases hq
 refine wpAny_bind (wpAny_attempt (wpAny_callSpecial?_slot hT F.slot_zip_next (wpAny_call_entry F.slot_zip_next hT F.entry_zip_next ?_ (F.args_zip_next_1 _))))
 refine uD (arr:=arr) z1 (by rw [B'];exact t1) t2 hne fun f h1' hf k1 k2=>?_
 have src:∀q∈ss,SrcAt h1' q i:=fun q hq=>(h1 q hq).keep (fun o e=>by rw [k2.2 _ (itz q hq)];exact e) fun o e=>by rw [k2.2 _ (az q hq)];exact e
 refine C5 (A:=A.in1) (dn:=[]) (dx:=[]) (s:={ s with heap:=h1' }) hf hh ap hs hn rfl (by rw [la,List.length_map]) k1 (by rw [k2.2 _ TOz];exact t2) src fun h2 e j1 j2=>?_
 refine wpAny_bind (wpAny_isInstance (T:="StopIteration") (b:=true) j2 isSubtype_stop (wpAny_pure (hQ h2 fun c o hc e=>?_)))
 refine j1 c o (fun z=>hc ?_) ?_
 ·rcases List.mem_cons.mp z with z|z
  ·rw [z];simp
  ·rcases List.mem_cons.mp z with z|z
   ·rw [z];simp
   ·exact List.mem_cons_of_mem _ (List.mem_cons_of_mem _ (List.mem_cons_of_mem _ z))
 ·show h1'.get? c=some o
  rw [k2.2 c (fun z=>hc (by rw [z];simp))]
  exact e
end
noncomputable def SqB (K:PySem.W.Frag) (H:Hp) (c:Bool × Addr) (xs:List V):Prop:=if c.1=true then SqL K H c.2 xs else SqT K H c.2 xs
noncomputable def Itn (K:PySem.W.Frag) (cs:List (Bool × Addr)):L2.It :=
 ⟨fun i H=>∃xss ys,Paired (SqB K H) cs xss∧Paired (fun (xs:List V) (y:V)=>xs[i]?=some y) xss ys,
  fun i H v H'=>∃T,v=.ref T∧H T=none∧∀xss ys,Paired (SqB K H) cs xss→Paired (fun (xs:List V) (y:V)=>xs[i]?=some y) xss ys→H'=upd H T (.tup ys),
  fun i H=>∃xss,Paired (SqB K H) cs xss∧∃xs∈xss,xs.length=i⟩
theorem sX {α β:Type} {F:α→β→Prop}:∀ {l:List α} {r:List β} {a:α},Paired F l r→a∈l→∃b∈r,F a b
 | _,_,_,.nil,h=>nomatch h
 | _,_,_,.cons f t,h=>by
  rcases List.mem_cons.mp h with rfl|h
  ·exact ⟨_,by simp,f⟩
  ·obtain ⟨b,h1,h2⟩:=sX t h
   exact ⟨b,by simp [h1],h2⟩
theorem xr {X:Cx} {pins:List (Addr × Obj)} {σ:L2.St} {H:Hp} {s:Shared} {i:Nat} (I:L2.Inv X pins σ H s):∀ {its:List Addr} {cs:List (Bool × Addr)} {xss:List (List V)},Paired (fun it c=>ItB s.heap it c i) its cs→Paired (SqB X.K H) cs xss →
  ∃ss:List Zs,ss.map Zs.it=its∧ss.map Zs.c=cs∧(∀q∈ss,SrcAt s.heap q i)∧Paired (fun (q:Zs) (xs:List V)=>Vals xs q.xs.toList) ss xss
 | _,_,_,.nil,.nil=>⟨[],rfl,rfl,fun q hq=>(nomatch hq),.nil⟩
 | _,_,_,.cons (a:=it) (b:=c) h1 t1,.cons (b:=xs) h2 t2=>by
  obtain ⟨ss,e1,e2,e3,e4⟩:=xr I t1 t2
  obtain ⟨b,a⟩:=c
  cases b with
  | true =>
   obtain ⟨its1,rv1,p1,hz1⟩:=I.list (show SqL X.K H a xs from h2)
   refine ⟨⟨it,(true,a),its1.toArray⟩::ss,by rw [List.map_cons,e1],by rw [List.map_cons,e2],fun q hq=>?_,.cons (by simpa using rv1) e4⟩
   rcases List.mem_cons.mp hq with rfl|hq
   ·exact ⟨h1,p1.isList⟩
   ·exact e3 q hq
  | false =>
   obtain ⟨its1,rv1,p1,hz1⟩:=I.tuple (show SqT X.K H a xs from h2)
   refine ⟨⟨it,(false,a),its1.toArray⟩::ss,by rw [List.map_cons,e1],by rw [List.map_cons,e2],fun q hq=>?_,.cons (by simpa using rv1) e4⟩
   rcases List.mem_cons.mp hq with rfl|hq
   ·exact ⟨h1,p1⟩
   ·exact e3 q hq
theorem t_ {i:Nat}:∀ {ss:List Zs} {xss:List (List V)} {ys:List V},Paired (fun (q:Zs) (xs:List V)=>Vals xs q.xs.toList) ss xss→Paired (fun (xs:List V) (y:V)=>xs[i]?=some y) xss ys→∃us,Paired (fun (q:Zs) (x:Value)=>q.xs[i]?=some x) ss us∧Vals ys us
 | _,_,_,.nil,.nil=>⟨[],.nil,.nil⟩
 | _,_,_,.cons h1 t1,.cons h2 t2=>by
  obtain ⟨us,e1,e2⟩:=t_ t1 t2
  obtain ⟨u,e3,e4⟩:=h1.get h2
  exact ⟨u::us,.cons (by simpa using e3) e1,.cons e4 e2⟩
theorem SqB.inj {X:Cx} {pins:List (Addr × Obj)} {σ:L2.St} {H:Hp} {s:Shared} (I:L2.Inv X pins σ H s):∀ {cs:List (Bool × Addr)} {xss yss:List (List V)},Paired (SqB X.K H) cs xss→Paired (SqB X.K H) cs yss→xss=yss
 | _,_,_,.nil,.nil=>rfl
 | _,_,_,.cons (a:=c) h1 t1,.cons h2 t2=>by
  rw [SqB.inj I t1 t2]
  obtain ⟨b,a⟩:=c
  cases b with
  | true=>rw [I.list_inj (show SqL X.K H a _ from h1) h2]
  | false=>rw [I.tuple_inj (show SqT X.K H a _ from h1) h2]
theorem Da {i:Nat}:∀ {xss:List (List V)} {ys zs:List V},Paired (fun (xs:List V) (y:V)=>xs[i]?=some y) xss ys→Paired (fun (xs:List V) (y:V)=>xs[i]?=some y) xss zs→ys=zs
 | _,_,_,.nil,.nil=>rfl
 | _,_,_,.cons h1 t1,.cons h2 t2=>by rw [Da t1 t2];rw [h1] at h2;cases h2;rfl
theorem Au {P:Program} {w:World} {K:PySem.W.Frag} {elts:List Expr} {kt:Nat} {pt:Pos} {z TI TO:Addr} {its:List Addr} {cs:List (Bool × Addr)} (nd:(z::TI::TO::its).Nodup) (ap:∀c∈cs,c.2 ∉ z::TI::TO::its) (hne:its≠[]) (hs:its.length≤100) :
  AK P w K (.Tuple elts kt pt) (Itn K cs) (z::TI::TO::its) z (fun i h=>ZSt z TI TO its h∧Paired (fun it c=>ItB h it c i) its cs) where
 mem:=by simp
 obj:=fun i h st c hc=>by
  obtain ⟨⟨h1,h2,arr,la,h3⟩,h4⟩:=st
  simp only [List.mem_cons] at hc
  rcases hc with rfl|rfl|rfl|hc
  ·exact ⟨_,h1,fun v z=>nomatch z⟩
  ·exact ⟨_,h2,fun v z=>nomatch z⟩
  ·exact ⟨_,h3,fun v z=>nomatch z⟩
  ·obtain ⟨d,_,e⟩:=sX h4 hc
   obtain ⟨o,vs,e1,e2⟩:=e.obj
   exact ⟨o,e1,fun v z=>by rw [e2] at z;cases z⟩
 keep:=fun i h h' st k=>by
  obtain ⟨⟨h1,h2,arr,la,h3⟩,h4⟩:=st
  refine ⟨⟨k z (by simp) _ h1,k TI (by simp) _ h2,arr,la,k TO (by simp) _ h3⟩,?_⟩
  have:∀ {l:List Addr} {r:List (Bool × Addr)},(∀x∈l,x∈its)→Paired (fun it c=>ItB h it c i) l r→Paired (fun it c=>ItB h' it c i) l r:=by
   intro l r hl hp
   induction hp with
   | nil=>exact .nil
   | cons f t ih=>exact .cons (f.keep fun o e=>k _ (by simp [hl _ List.mem_cons_self]) o e) (ih fun x hx=>hl x (List.mem_cons_of_mem _ hx))
  exact this (fun x hx=>hx) h4
 item:=by
  intro X hP hw hK hc i pins s σ H E I hf st hg
  subst hP hw hK
  obtain ⟨xss,ys,g1,g2⟩:=hg
  obtain ⟨hz,h4⟩:=st
  obtain ⟨ss,e1,e2,e3,e4⟩:=xr I h4 g1
  obtain ⟨us,f1,f2⟩:=t_ e4 g2
  have za:ZA z TI TO ss:=⟨by rw [e1];exact nd,fun q hq=>by
   rw [e1]
   exact ap q.c (by rw [←e2];exact List.mem_map.mpr ⟨q,hq,rfl⟩)⟩
  have ssl:ss.length=its.length:=by rw [←e1,List.length_map]
  have line:(100:Nat)≤sizeLine:=by decide
  refine A7 (i:=i) (ss:=ss) (xs:=us) za (fun e=>hne (by rw [←e1,e];rfl)) (by rw [ssl];exact Nat.le_trans hs line) (by rw [e1];exact hz) e3 f1 fun h' T lT z1 t1 t2 s1 tT nT kk=>?_
  rw [e1] at t1 nT kk
  refine ⟨_,rfl,wpAny_letOwnedTupleGo_zip (s:={ s with heap:=h' }) z1 fun h'' z2 sb=>?_⟩
  have nz:∀ {c:Addr},c∈TI::TO::its→c≠z:=fun hc e=>(List.nodup_cons.mp nd).1 (by rw [←e];exact hc)
  have Tz:T≠z:=fun e=>nT (by rw [e];simp)
  have yl:ys.length≤100:=by rw [←g2.length,←g1.length,←h4.length];exact hs
  have I2:L2.Inv X pins σ (upd H T (.tup ys)) { s with heap:=h'' }:=yw (t':=s.toks) (its:=us) (wr:=z::TI::TO::its) I (fun b o hb e=>by
   rw [sb.2 b (fun q=>hb (by rw [q];simp))]
   exact kk b o hb e) (fun b hb=>hf b hb) lT f2 (Nat.le_trans yl line) ⟨_,by rw [sb.2 T Tz];exact tT,rfl,0,rfl⟩
  refine ⟨.ref T,_,I2,rfl,⟨T,rfl,I.hok.fresh lT,fun xss' ys' k1 k2=>?_⟩,⟨⟨z2,by rw [sb.2 TI (nz (by simp))];exact t1,us,?_,by rw [sb.2 TO (nz (by simp))];exact t2⟩,?_⟩,fun b hb=>?_⟩
  ·have:=SqB.inj I k1 g1
   subst this
   rw [Da k2 g2]
  ·rw [←f1.length];exact ssl
  ·have go:∀ {l:List Zs},(∀q∈l,SrcAt h' q (i+1))→(∀q∈l,q.it≠z)→Paired (fun it c=>ItB h'' it c (i+1)) (l.map Zs.it) (l.map Zs.c):=by
    intro l
    induction l with
    | nil=>intro _ _;exact .nil
    | cons q l ih =>
     intro k1 k2
     exact .cons ((k1 q List.mem_cons_self).1.keep fun o e=>by rw [sb.2 _ (k2 q List.mem_cons_self)];exact e) (ih (fun p hp=>k1 p (List.mem_cons_of_mem _ hp)) fun p hp=>k2 p (List.mem_cons_of_mem _ hp))
   have:=go s1 fun q hq=>nz (List.mem_cons_of_mem _ (List.mem_cons_of_mem _ (by rw [←e1];exact List.mem_map.mpr ⟨q,hq,rfl⟩)))
   rw [e1,e2] at this
   exact this
  ·have hlt:b<s.heap.objs.size:=by
    obtain ⟨h1,h2,arr,la,h3⟩:=hz
    simp only [List.mem_cons] at hb
    rcases hb with rfl|rfl|rfl|hb
    ·exact Heap.lt_size h1
    ·exact Heap.lt_size h2
    ·exact Heap.lt_size h3
    ·obtain ⟨d,_,e⟩:=sX h4 hb
     obtain ⟨o,_,e,_⟩:=e.obj
     exact Heap.lt_size e
   rw [am (Nat.ne_of_lt (Nat.lt_of_lt_of_le hlt lT))]
   exact (hf b hb).1
 done:=by
  intro X hP hw hK hc i pins s σ H E I hf st hg
  subst hP hw hK
  obtain ⟨xss,g1,xs,gx,gl⟩:=hg
  obtain ⟨hz,h4⟩:=st
  obtain ⟨ss,e1,e2,e3,e4⟩:=xr I h4 g1
  have za:ZA z TI TO ss:=⟨by rw [e1];exact nd,fun q hq=>by
   rw [e1]
   exact ap q.c (by rw [←e2];exact List.mem_map.mpr ⟨q,hq,rfl⟩)⟩
  have ssl:ss.length=its.length:=by rw [←e1,List.length_map]
  have line:(100:Nat)≤sizeLine:=by decide
  have hn:∃q∈ss,q.xs[i]?=none:=by
   have:∀ {l:List Zs} {r:List (List V)},Paired (fun (q:Zs) (xs:List V)=>Vals xs q.xs.toList) l r→xs∈r→∃q∈l,q.xs[i]?=none:=by
    intro l r hp hx
    induction hp with
    | nil=>cases hx
    | @cons q ys l r f t ih =>
     rcases List.mem_cons.mp hx with rfl|hx
     ·refine ⟨q,List.mem_cons_self,?_⟩
      have:=f.length
      exact Array.getElem?_eq_none (by rw [←gl,this];simp)
     ·obtain ⟨p,h1,h2⟩:=ih hx
      exact ⟨p,List.mem_cons_of_mem _ h1,h2⟩
   exact this e4 gx
  refine BG (i:=i) (ss:=ss) (I.ok.hd hc) za (by rw [ssl];exact Nat.le_trans hs line) (by rw [e1];exact hz) e3 hn fun h' kk=>?_
  rw [e1] at kk
  exact ⟨rfl,yZ (t':=s.toks) I kk fun b hb=>hf b hb⟩
 self:=fun _ _ _ _ _ st h=>wpAny_pyIter_zip st.1.1 h
section
variable {prog:Program} {w:World} {A:Around} {E:Value→Shared→Prop}
theorem II {R:Array Value→Shared→Prop}:∀ {cs:List (Bool × Addr)} {acc:Array Value} {s:Shared},(∀c∈cs,∃xs,SeqB s.heap c xs) →
  (∀h',h'.objs.size=s.heap.objs.size+cs.length→(∀b o,s.heap.get? b=some o→h'.get? b=some o)→Paired (fun it c=>ItB h' it c 0) (List.range' s.heap.objs.size cs.length) cs→R (acc++((List.range' s.heap.objs.size cs.length).map Value.ref).toArray) { s with heap:=h' }) →
  wpAny (model prog w) A (forIn (cs.map fun c=>Value.ref c.2) acc fun x r=>do
   let v ←holding r.toList (pyIter x)
   pure (ForInStep.yield (r.push v))) R E s:=by
 intro cs
 induction cs with
 | nil =>
  intro acc s _ hR
  exact wpAny_pure (by simpa using hR s.heap rfl (fun _ _ e=>e) .nil)
 | cons c cs ih =>
  intro acc s hs hR
  rw [List.map_cons,List.forIn_cons]
  obtain ⟨xs,hx⟩:=hs c List.mem_cons_self
  refine wpAny_bind (wpAny_bind (wpAny_holding (Fe hx fun o ho=>wpAny_pure ?_)))
  refine ih (acc:=acc.push (.ref s.heap.objs.size)) (s:={ s with heap:=s.heap.push o }) (fun d hd=>?_) fun h' k1 k2 k3=>?_
  ·obtain ⟨ys,hy⟩:=hs d (List.mem_cons_of_mem _ hd)
   exact ⟨ys,hy.keep fun o e=>Heap.get?_push_of_some _ e⟩
  ·have sz:(s.heap.push o).objs.size=s.heap.objs.size+1:=Heap.size_push _ _
   have k1:h'.objs.size=(s.heap.push o).objs.size+cs.length:=k1
   have k3:Paired (fun it c=>ItB h' it c 0) (List.range' (s.heap.push o).objs.size cs.length) cs:=k3
   rw [sz] at k1 k3
   have:=hR h' (by rw [k1,List.length_cons];omega) (fun b u e=>k2 b u (Heap.get?_push_of_some _ e)) (by
    rw [List.length_cons,List.range'_succ]
    exact .cons (ho.keep fun u e=>k2 _ u e) k3)
   rw [List.length_cons,List.range'_succ] at this
   show R (acc.push (Value.ref s.heap.objs.size)++((List.range' (s.heap.push o).objs.size cs.length).map Value.ref).toArray) _
   rw [sz]
   simpa using this
theorem pH (cs:List (Bool × Addr)) (hl:cs.length≤100):Meets (Builtin.«zip.__new__» ⟨.type "zip"::cs.map (fun c=>Value.ref c.2),[]⟩) fun _ R s=>(∀c∈cs,∃xs,SeqB s.heap c xs) ∧
  ∀h',ZSt (s.heap.objs.size+cs.length+2) (s.heap.objs.size+cs.length) (s.heap.objs.size+cs.length+1) (List.range' s.heap.objs.size cs.length) h'→Paired (fun it c=>ItB h' it c 0) (List.range' s.heap.objs.size cs.length) cs→(∀b o,s.heap.get? b=some o→h'.get? b=some o)→R (.ok (.ret (.ref (s.heap.objs.size+cs.length+2)))) { s with heap:=h' }:=by
 intro prog w A R s ⟨h1,h⟩
 have line:(100:Nat)≤sizeLine:=by decide
 refine wpAny_bind ?_
 refine wpAny_bind (wpAny_pure ?_)
 rw [sub_zip]
 refine wpAny_bind (wpAny_pure ?_)
 refine wpAny_pure ?_
 refine wpAny_bind (m:=Builtin.SmallTypes.iterAll (cs.map fun c=>Value.ref c.2)) ?_
 refine wpAny_bind (II h1 fun h' k1 k2 k3=>wpAny_pure ?_)
 have e0:(#[]++((List.range' s.heap.objs.size cs.length).map Value.ref).toArray:Array Value).toList=(List.range' s.heap.objs.size cs.length).map Value.ref:=by simp
 rw [e0]
 have ln:((List.range' s.heap.objs.size cs.length).map Value.ref).length=cs.length:=by simp
 refine wpAny_bind (wpAny_newTuple ?_ (by rw [ln];exact Nat.le_trans hl line))
 refine wpAny_bind (wpAny_newTuple ?_ (by rw [List.length_map,ln];exact Nat.le_trans hl line))
 refine wpAny_bind (wpAny_newObj_type (T:="zip") (data:=.fields #[.none,.bool false,.bool false,.ref h'.objs.size,.ref (h'.push (dR ((List.range' s.heap.objs.size cs.length).map Value.ref))).objs.size]) ?_)
 have s1:(h'.push (dR ((List.range' s.heap.objs.size cs.length).map Value.ref))).objs.size=s.heap.objs.size+cs.length+1:=(Heap.size_push _ _).trans (by rw [k1])
 have s2:((h'.push (dR ((List.range' s.heap.objs.size cs.length).map Value.ref))).push (dR (((List.range' s.heap.objs.size cs.length).map Value.ref).map fun _=>Value.none))).objs.size=s.heap.objs.size+cs.length+2:=(Heap.size_push _ _).trans (by rw [s1])
 refine wpAny_pure ?_
 show R (.ok (.ret (.ref ((h'.push (dR ((List.range' s.heap.objs.size cs.length).map Value.ref))).push (dR (((List.range' s.heap.objs.size cs.length).map Value.ref).map fun _=>Value.none))).objs.size))) _
 rw [s2]
 refine h _ ⟨?_,?_,((List.range' s.heap.objs.size cs.length).map Value.ref).map fun _=>Value.none,by simp,?_⟩ ?_ fun b o e=>Heap.get?_push_of_some _ (Heap.get?_push_of_some _ (Heap.get?_push_of_some _ (k2 b o e)))
 ·rw [←s2]
  have g:=Heap.get?_push_size ((h'.push (dR ((List.range' s.heap.objs.size cs.length).map Value.ref))).push (dR (((List.range' s.heap.objs.size cs.length).map Value.ref).map fun _=>Value.none))) (o:={ cls:=.type "zip",data:=.fields #[.none,.bool false,.bool false,.ref h'.objs.size,.ref (h'.push (dR ((List.range' s.heap.objs.size cs.length).map Value.ref))).objs.size] }) rfl
  rw [k1,s1] at g
  rw [k1,s1]
  exact g
 ·rw [←k1]
  exact Heap.get?_push_of_some _ (Heap.get?_push_of_some _ (Heap.get?_push_size _ rfl))
 ·rw [←s1]
  exact Heap.get?_push_of_some _ (Heap.get?_push_size _ rfl)
 ·have:∀ {l:List Addr} {r:List (Bool × Addr)},Paired (fun it c=>ItB h' it c 0) l r→∀ {g:Heap},(∀b o,h'.get? b=some o→g.get? b=some o)→Paired (fun it c=>ItB g it c 0) l r:=by
   intro l r hp g hg
   induction hp with
   | nil=>exact .nil
   | cons f t ih=>exact .cons (f.keep fun o e=>hg _ o e) ih
  exact this k3 fun b o e=>Heap.get?_push_of_some _ (Heap.get?_push_of_some _ (Heap.get?_push_of_some _ e))
end
section
variable {prog:Program} {w:World} {A:Around} {E:Value→Shared→Prop} {s:Shared}
noncomputable def GF (cs:List (Bool × Addr)) (Q:Value→Shared→Prop) (s:Shared):Prop:=∀h',ZSt (s.heap.objs.size+cs.length+2) (s.heap.objs.size+cs.length) (s.heap.objs.size+cs.length+1) (List.range' s.heap.objs.size cs.length) h'→Paired (fun it c=>ItB h' it c 0) (List.range' s.heap.objs.size cs.length) cs→(∀b o,s.heap.get? b=some o→h'.get? b=some o) →
 Q (.ref (s.heap.objs.size+cs.length+2)) { s with heap:=h' }
theorem zf {c1 c2:Bool × Addr} {Q:Value→Shared→Prop} (h1:∀c∈[c1,c2],∃xs,SeqB s.heap c xs) (h:GF [c1,c2] Q s):wpAny (model prog w) A (call (.type "zip") [.ref c1.2,.ref c2.2]) Q E s:=by
 refine callType_new F.called_zip rfl (F.typeCall_zip_2 _ _) (F.newCall_zip_2 _ _) (fun obj=>?_) F.entry_zip_new (pH [c1,c2] (Nat.le_of_ble_eq_true rfl)) ⟨h1,fun h' k1 k2 k3=>⟨⟨_,k1.1,rfl⟩,h h' k1 k2 k3⟩⟩
 exact F.args_object_init_3 _ _ _
theorem zy (a b c:Value):checkTypeCall "zip" ⟨[a,b,c],[]⟩=pure ():=by kernel_rfl
theorem Cn (a b c:Value):checkBuiltinCall "zip.__new__" ⟨[.type "zip",a,b,c],[]⟩=pure ():=by kernel_rfl
theorem AQ (a b c d:Value):argsOk "object.__init__" ⟨[a,b,c,d],[]⟩:=by
 unfold argsOk
 rw [signature?_of (id:="object.__init__")
  (n:=['_','_','t','i','n','i','_','_'])
  (o:=['t','c','e','j','b','o'])
  (by kernel_rfl) F.owner_object]
 kernel_rfl
theorem AD {c1 c2 c3:Bool × Addr} {Q:Value→Shared→Prop} (h1:∀c∈[c1,c2,c3],∃xs,SeqB s.heap c xs) (h:GF [c1,c2,c3] Q s):wpAny (model prog w) A (call (.type "zip") [.ref c1.2,.ref c2.2,.ref c3.2]) Q E s:=by
 refine callType_new F.called_zip rfl (zy _ _ _) (Cn _ _ _) (fun obj=>?_) F.entry_zip_new (pH [c1,c2,c3] (Nat.le_of_ble_eq_true rfl)) ⟨h1,fun h' k1 k2 k3=>⟨⟨_,k1.1,rfl⟩,h h' k1 k2 k3⟩⟩
 exact AQ _ _ _ _
end
section
variable {X:Cx} {pins:List (Addr × Obj)} {σ:L2.St} {H:Hp} {s:Shared}
theorem SqB.seq {c:Bool × Addr} {xs:List V} (I:L2.Inv X pins σ H s) (h:SqB X.K H c xs):∃ys,SeqB s.heap c ys:=by
 obtain ⟨b,a⟩:=c
 cases b with
 | true=>obtain ⟨its,_,p,_⟩:=I.list (show SqL X.K H a xs from h);exact ⟨_,p.isList⟩
 | false=>obtain ⟨its,_,p,_⟩:=I.tuple (show SqT X.K H a xs from h);exact ⟨_,p⟩
theorem SeqB.lt {h:Heap} {c:Bool × Addr} {ys:Array Value} (z:SeqB h c ys):c.2<h.objs.size:=by
 obtain ⟨b,a⟩:=c
 cases b with
 | true=>obtain ⟨_,e,_⟩:=(show h.IsList a ys from z);exact Heap.lt_size e
 | false=>obtain ⟨_,e,_⟩:=(show h.IsTuple a ys from z);exact Heap.lt_size e
theorem Et {N n b:Nat} (h:b∈(N+n+2)::(N+n)::(N+n+1)::List.range' N n):N≤b:=by
 simp only [List.mem_cons,List.mem_range'_1] at h
 omega
theorem F2 (N n:Nat):((N+n+2)::(N+n)::(N+n+1)::List.range' N n).Nodup:=by
 refine List.nodup_cons.mpr ⟨fun h=>?_,List.nodup_cons.mpr ⟨fun h=>?_,List.nodup_cons.mpr ⟨fun h=>?_,List.nodup_range'⟩⟩⟩ <;> (simp only [List.mem_cons,List.mem_range'_1] at h;omega)
theorem yA {elts:List Expr} {kt:Nat} {pt:Pos} {cs:List (Bool × Addr)} {R:L2.It→Hp→Prop} (I:L2.Inv X pins σ H s) (hs:∀c∈cs,∃xs,SqB X.K H c xs) (hn:cs≠[]) (hl:cs.length≤100) (q:R (Itn X.K cs) H) :
  GF cs (fun v s1=>wpAny (model X.prog X.w) X.A (pyIter v) (PIE X pins σ (.Tuple elts kt pt) R) X.xe s1) s:=by
 intro h' k1 k2 kk
 refine wpAny_pyIter_zip k1.1 ?_
 have nd:=F2 s.heap.objs.size cs.length
 have big:∀b,b∈(s.heap.objs.size+cs.length+2)::(s.heap.objs.size+cs.length)::(s.heap.objs.size+cs.length+1)::List.range' s.heap.objs.size cs.length→s.heap.objs.size≤b:=fun b hb=>Et hb
 refine ⟨_,_,_,_,H,rfl,I.kept (t':=s.toks) kk,Au nd (fun c hc hm=>?_) (fun e=>hn ?_) (by simpa using hl),⟨k1,k2⟩,fun b hb=>I.fpOk (big b hb) (I.hok.fresh (big b hb)),q⟩
 ·obtain ⟨xs,hx⟩:=hs c hc
  obtain ⟨ys,hy⟩:=hx.seq I
  exact absurd (Nat.lt_of_lt_of_le hy.lt (big _ hm)) (Nat.lt_irrefl _)
 ·have:=congrArg List.length e
  simp at this
  exact this
end
section
variable {X:Cx}
noncomputable def Id (K:PySem.W.Frag) (ta:TA):TI:=fun σ H R=>ta σ H fun vs H1=>∃c d,vs=[.ref c.2,.ref d.2]∧(∀e∈[c,d],∃xs,SqB K H1 e xs)∧R (Itn K [c,d]) H1
noncomputable def HG (K:PySem.W.Frag) (ta:TA):TI:=fun σ H R=>ta σ H fun vs H1=>∃c d f,vs=[.ref c.2,.ref d.2,.ref f.2]∧(∀e∈[c,d,f],∃xs,SqB K H1 e xs)∧R (Itn K [c,d,f]) H1
theorem Gi {elts:List Expr} {kt:Nat} {pt:Pos} {a b:Expr} {ta:TA} {p pos:Pos} (hg:Gl X "zip") (hm:X.mg "zip"=none) (ha:PA X [a,b] ta) (hs:starEach [a,b] X.env=[(false,eval a X.env),(false,eval b X.env)]) (hs2:starEach [b] X.env=[(false,eval b X.env)]) :
  PI X (.Tuple elts kt pt) (.Call (.Name "zip" p) [a,b] [] pos) (Id X.K ta):=by
 intro pins s σ H R I h
 refine Call_ (iO I hg hm boot_zip (PyProof.Rows.callWith_type1 (thn (ha pos pins s σ H _ I h) fun us s1 ⟨vs,H1,I1,r1,q1⟩=>?_) (by rw [hs,hs2]) (by rw [hs2];rfl)))
 obtain ⟨c,d,e,hq,q⟩:=q1
 subst e
 obtain ⟨u,v,rfl,ru,rv⟩:=qV r1
 cases ru
 cases rv
 exact zf (fun f hf=>let ⟨xs,hx⟩:=hq f hf;hx.seq I1) (yA I1 hq (by simp) (by simp) q)
theorem D_ {elts:List Expr} {kt:Nat} {pt:Pos} {a b c:Expr} {ta:TA} {p pos:Pos} (hg:Gl X "zip") (hm:X.mg "zip"=none) (ha:PA X [a,b,c] ta) (hs:starEach [a,b,c] X.env=[(false,eval a X.env),(false,eval b X.env),(false,eval c X.env)]) (hs2:starEach [b,c] X.env=[(false,eval b X.env),(false,eval c X.env)]) :
  PI X (.Tuple elts kt pt) (.Call (.Name "zip" p) [a,b,c] [] pos) (HG X.K ta):=by
 intro pins s σ H R I h
 refine Call_ (iO I hg hm boot_zip (PyProof.Rows.callWith_type1 (thn (ha pos pins s σ H _ I h) fun us s1 ⟨vs,H1,I1,r1,q1⟩=>?_) (by rw [hs,hs2]) (by rw [hs2];rfl)))
 obtain ⟨c,d,f,e,hq,q⟩:=q1
 subst e
 cases r1 with
 | cons r rr =>
  obtain ⟨u,v,rfl,ru,rv⟩:=qV rr
  cases r
  cases ru
  cases rv
  exact AD (fun f hf=>let ⟨xs,hx⟩:=hq f hf;hx.seq I1) (yA I1 hq (by simp) (by simp) q)
end
noncomputable def LB (K:PySem.W.Frag) (c:Bool × Addr) (xs:List PV) (chk:AH→Prop) (m0:List Addr) (H0:Hp):Prop:=∀m H st,Ext K m0 H0 m H→RH K m H st→chk st→∃ys,SqB K H c ys∧Rs K m H xs ys
theorem uP {K:PySem.W.Frag} {m:List Addr} {H:Hp} {st:AH} {v:PV} {x:V} {xs:List PV} (rh:RH K m H st) (r:R K m H v x) (e:bi st v=some xs):∃c:Bool × Addr,x=.ref c.2∧LB K c xs (cy st v) m H∧∃ys,SqB K H c ys:=by
 cases v with
 | tup ys =>
  cases e
  rw [R_tup] at r
  obtain ⟨a,zs,rfl,g,r3⟩:=r
  exact ⟨(false,a),rfl,fun m' H' st' x r q=>⟨zs,x.tup _ _ g,r3.mono x⟩,zs,g⟩
 | rdl ys =>
  cases e
  rw [fC] at r
  obtain ⟨a,zs,rfl,g,r3⟩:=r
  exact ⟨(true,a),rfl,fun m' H' st' x r q=>⟨zs,(x.rdf _ _ g).sq,r3.mono x⟩,zs,g.sq⟩
 | ref n =>
  unfold bi bV at e
  simp only at e
  split at e
  ·cases e
   rename_i q
   obtain ⟨a,zs,rfl,ea,g,r3⟩:=rh.lst q r
   refine ⟨(true,a),rfl,fun m' H' st' x r' q'=>?_,zs,SqL.of g⟩
   have q':st'[n]?=st[n]?:=q'
   rw [q] at q'
   obtain ⟨ys,h1,h2⟩:=r'.at_ n _ a q' (km x.pre ea)
   exact ⟨ys,SqL.of h1,h2⟩
  ·cases e
 | _=>cases e
theorem Be {K:PySem.W.Frag} {m0:List Addr} {H0:Hp} {a b:Bool × Addr} {xs ys:List PV} {c1 c2:AH→Prop} (h1:LB K a xs c1 m0 H0) (h2:LB K b ys c2 m0 H0):so K (Itn K [a,b]) (jn xs ys) (fun st=>c1 st∧c2 st) m0 H0:=by
 refine ⟨fun m H st x r q=>?_,fun i v m H st x r q ev=>?_⟩
 ·obtain ⟨as,g1,r1⟩:=h1 m H st x r q.1
  obtain ⟨bs,g2,r2⟩:=h2 m H st x r q.2
  refine ⟨[as,bs],.cons g1 (.cons g2 .nil),?_⟩
  rw [pJ,r1.len,r2.len]
  rcases Nat.le_total as.length bs.length with h|h
  ·exact ⟨as,by simp,(Nat.min_eq_left h).symm⟩
  ·exact ⟨bs,by simp,(Nat.min_eq_right h).symm⟩
 ·obtain ⟨as,g1,r1⟩:=h1 m H st x r q.1
  obtain ⟨bs,g2,r2⟩:=h2 m H st x r q.2
  obtain ⟨u,v',e1,e2,rfl⟩:=o8 ev
  obtain ⟨y1,f1,q1⟩:=r1.get e1
  obtain ⟨y2,f2,q2⟩:=r2.get e2
  refine ⟨⟨[as,bs],[y1,y2],.cons g1 (.cons g2 .nil),.cons f1 (.cons f2 .nil)⟩,?_⟩
  rintro z H' ⟨T,rfl,hT,hh⟩
  have:=hh _ _ (.cons g1 (.cons g2 .nil)) (.cons f1 (.cons f2 .nil))
  subst this
  refine ⟨Ext.newT r hT,r.newT hT,R_tup.mpr ⟨T,[y1,y2],rfl,SqT.of cQ,?_⟩⟩
  rw [Rs_cons',Rs_cons',Rs_nil]
  exact ⟨q1.mono (Ext.newT r hT),q2.mono (Ext.newT r hT),rfl⟩
theorem lm:∀ {xs ys zs:List PV},(eQ xs ys zs).length=min xs.length (min ys.length zs.length)
 | [],ys,zs=>by simp [eQ]
 | x::xs,[],zs=>by simp [eQ]
 | x::xs,y::ys,[]=>by simp [eQ]
 | x::xs,y::ys,z::zs=>by simp only [eQ,List.length_cons,lm (xs:=xs) (ys:=ys) (zs:=zs)];omega
theorem mn:∀ {xs ys zs:List PV} {i:Nat} {v:PV},(eQ xs ys zs)[i]?=some v→∃x y z,xs[i]?=some x∧ys[i]?=some y∧zs[i]?=some z∧v=.tup [x,y,z]
 | [],ys,zs,i,v,h=>by simp [eQ] at h
 | x::xs,[],zs,i,v,h=>by simp [eQ] at h
 | x::xs,y::ys,[],i,v,h=>by simp [eQ] at h
 | x::xs,y::ys,z::zs,0,v,h=>by simp [eQ] at h;exact ⟨x,y,z,rfl,rfl,rfl,h.symm⟩
 | x::xs,y::ys,z::zs,i+1,v,h=>by
  simp only [eQ,List.getElem?_cons_succ] at h ⊢
  exact mn h
theorem Ao {K:PySem.W.Frag} {m0:List Addr} {H0:Hp} {a b c:Bool × Addr} {xs ys zs:List PV} {c1 c2 c3:AH→Prop} (h1:LB K a xs c1 m0 H0) (h2:LB K b ys c2 m0 H0) (h3:LB K c zs c3 m0 H0):so K (Itn K [a,b,c]) (eQ xs ys zs) (fun st=>c1 st∧c2 st∧c3 st) m0 H0:=by
 refine ⟨fun m H st x r q=>?_,fun i v m H st x r q ev=>?_⟩
 ·obtain ⟨as,g1,r1⟩:=h1 m H st x r q.1
  obtain ⟨bs,g2,r2⟩:=h2 m H st x r q.2.1
  obtain ⟨cs,g3,r3⟩:=h3 m H st x r q.2.2
  refine ⟨[as,bs,cs],.cons g1 (.cons g2 (.cons g3 .nil)),?_⟩
  rw [lm,r1.len,r2.len,r3.len]
  by_cases h:as.length≤bs.length∧as.length≤cs.length
  ·exact ⟨as,by simp,by omega⟩
  ·by_cases h':bs.length≤cs.length
   ·exact ⟨bs,by simp,by omega⟩
   ·exact ⟨cs,by simp,by omega⟩
 ·obtain ⟨as,g1,r1⟩:=h1 m H st x r q.1
  obtain ⟨bs,g2,r2⟩:=h2 m H st x r q.2.1
  obtain ⟨cs,g3,r3⟩:=h3 m H st x r q.2.2
  obtain ⟨u,v',w',e1,e2,e3,rfl⟩:=mn ev
  obtain ⟨y1,f1,q1⟩:=r1.get e1
  obtain ⟨y2,f2,q2⟩:=r2.get e2
  obtain ⟨y3,f3,q3⟩:=r3.get e3
  refine ⟨⟨[as,bs,cs],[y1,y2,y3],.cons g1 (.cons g2 (.cons g3 .nil)),.cons f1 (.cons f2 (.cons f3 .nil))⟩,?_⟩
  rintro z H' ⟨T,rfl,hT,hh⟩
  have:=hh _ _ (.cons g1 (.cons g2 (.cons g3 .nil))) (.cons f1 (.cons f2 (.cons f3 .nil)))
  subst this
  refine ⟨Ext.newT r hT,r.newT hT,R_tup.mpr ⟨T,[y1,y2,y3],rfl,SqT.of cQ,?_⟩⟩
  rw [Rs_cons',Rs_cons',Rs_cons',Rs_nil]
  exact ⟨q1.mono (Ext.newT r hT),q2.mono (Ext.newT r hT),q3.mono (Ext.newT r hT),rfl⟩
end FW
set_option Elab.async false
set_option linter.all false
set_option maxRecDepth 100000
set_option maxHeartbeats 1000000
namespace FW
open PySem PySem.Spec PyProof.Rows L2 HX
section
variable {X:Cx} {tg:Expr}
end
section
variable {X:Cx}
end
end FW
set_option Elab.async false
set_option linter.all false
set_option maxRecDepth 100000
set_option maxHeartbeats 1000000
namespace FW
open PySem PySem.Spec PyProof.Rows L2 HX
noncomputable def jE (env:Env):List (Str × NameKind)→List (Str × Addr)→List (Str × Addr)
 | [],cs=>cs
 | (x,k)::r,cs=>jE env r (if k == .free then (x,(env.cells.lookup x).getD 0)::cs else cs)
theorem xM {scope:Scope} {env:Env} (h:∀y∈scope.names,y.2=.free→∃c,env.cells.lookup y.1=some c):closureFor scope env=pure (jE env scope.names []):=by
 have key:∀(names:List (Str × NameKind)) (cs:List (Str × Addr)),(∀y∈names,y.2=.free→∃c,env.cells.lookup y.1=some c) →
   (forIn names cs fun (x:Str × NameKind) (r:List (Str × Addr))=>(match x with
    | (name,kind)=>if (kind == NameKind.free)=true then (do let a ←cellOf env name;pure (ForInStep.yield ((name,a)::r)):Sem _) else pure (ForInStep.yield r)))=(pure (jE env names cs):Sem _):=by
  intro names
  induction names with
  | nil=>intro cs _;rfl
  | cons y r ih =>
   intro cs hy
   obtain ⟨x,k⟩:=y
   rw [List.forIn_cons]
   by_cases hk:k=.free
   ·subst hk
    obtain ⟨c,e⟩:=hy _ List.mem_cons_self rfl
    have ec:cellOf env x=pure c:=by
     unfold cellOf
     rw [e]
    simp only [beq_self_eq_true,if_true,ec]
    show (forIn r ((x,c)::cs) _:Sem _)=_
    rw [ih _ fun y h=>hy y (List.mem_cons_of_mem _ h)]
    simp [jE,e]
   ·have hb:(k == NameKind.free)=false:=by simpa using hk
    simp only [hb,Bool.false_eq_true,if_false]
    show (forIn r cs _:Sem _)=_
    rw [ih _ fun y h=>hy y (List.mem_cons_of_mem _ h)]
    simp [jE,hb]
 unfold closureFor
 have:=key scope.names [] h
 exact congrArg (fun z=>z >>= fun r=>pure r) this
theorem iR {env:Env}:∀ {names:List (Str × NameKind)} {cs:List (Str × Addr)} {x:Str} {c:Addr},(∀y∈names,y.2=.free→∃c,env.cells.lookup y.1=some c)→(∀x c,cs.lookup x=some c→env.cells.lookup x=some c) →
  (jE env names cs).lookup x=some c→env.cells.lookup x=some c
 | [],cs,x,c,_,h,e=>h x c e
 | (y,k)::r,cs,x,c,hn,h,e=>by
  unfold jE at e
  refine iR (fun z hz=>hn z (List.mem_cons_of_mem _ hz)) ?_ e
  intro z d ez
  by_cases hk:k=.free
  ·subst hk
   obtain ⟨c',ec⟩:=hn _ List.mem_cons_self rfl
   simp only [beq_self_eq_true,if_true,List.lookup_cons] at ez
   by_cases q:z=y
   ·subst q
    simp [ec] at ez
    rw [ec,ez]
   ·have:(z == y)=false:=by simpa using q
    rw [this] at ez
    exact h z d ez
  ·have hb:(k == NameKind.free)=false:=by simpa using hk
   rw [hb] at ez
   exact h z d ez
theorem qS {env:Env}:∀ {names:List (Str × NameKind)} {cs:List (Str × Addr)} {x:Str},(∃c,cs.lookup x=some c)→∃c,(jE env names cs).lookup x=some c
 | [],cs,x,h=>h
 | (y,k)::r,cs,x,h=>by
  unfold jE
  refine qS ?_
  by_cases hk:k=.free
  ·subst hk
   simp only [beq_self_eq_true,if_true,List.lookup_cons]
   by_cases q:x=y
   ·subst q;simp
   ·have:(x == y)=false:=by simpa using q
    rw [this];exact h
  ·have hb:(k == NameKind.free)=false:=by simpa using hk
   rw [hb];exact h
theorem nN {env:Env}:∀ {names:List (Str × NameKind)} {cs:List (Str × Addr)} {x:Str},(x,NameKind.free)∈names→∃c,(jE env names cs).lookup x=some c
 | [],cs,x,h=>nomatch h
 | (y,k)::r,cs,x,h=>by
  unfold jE
  rcases List.mem_cons.mp h with e|h
  ·cases e
   exact qS (by simp)
  ·exact nN h
noncomputable def PTs (X:Cx) (xs:List Expr) (t:TT):Prop :=
 ∀(pins:List (Addr × Obj)) (s:Shared) (σ:L2.St) (H:Hp) (Q:Bool→Hp→Prop),L2.Inv X pins σ H s→t σ H Q →
  wpAny (model X.prog X.w) X.A (forIn xs true fun c r=>if r=true then do let ok ←isTrue c X.env (eval c X.env);pure (ForInStep.yield ok) else pure (ForInStep.yield r)) (TP X pins σ Q) X.xe s
theorem mx {env:Env}:∀xs:List Expr,(forIn xs false fun c r=>if r=true then do let ok ←isTrue c env (eval c env);pure (ForInStep.yield ok) else pure (ForInStep.yield r):Sem Bool)=pure false
 | []=>rfl
 | x::xs=>by
  rw [List.forIn_cons]
  simp only [Bool.false_eq_true,if_false]
  exact mx xs
theorem yS {X:Cx}:PTs X [] (fun σ H Q=>Q true H):=fun pins s σ H Q I h=>wpAny_pure ⟨H,I,h⟩
theorem vV {X:Cx} {x:Expr} {xs:List Expr} {t u:TT} (h1:PT X x t) (h2:PTs X xs u):PTs X (x::xs) (HL t u):=by
 intro pins s σ H Q I h
 rw [List.forIn_cons]
 simp only [if_true]
 refine wpAny_bind (wpAny_bind (thn (h1 pins s σ H _ I h) fun b s1 ⟨H1,I1,q1⟩=>?_))
 refine wpAny_pure ?_
 cases b with
 | true =>
  rw [if_pos rfl] at q1
  exact h2 pins s1 σ H1 Q I1 q1
 | false =>
  rw [if_neg Bool.false_ne_true] at q1
  show wpAny _ _ (forIn xs false _) _ _ _
  rw [mx]
  exact wpAny_pure ⟨H1,I1,q1⟩
theorem sK {prog:Program} {w:World} {A:Around} {R:Result→Shared→Prop} {s:Shared} {elt target iter:Expr} {ifs:List Expr} {scope:Scope} {pos:Pos} {it acc:Value} {env:Env} (I:Nat→Shared→Prop)
  (turn:∀n s,I n s→wpAny (model prog w) A (pyNext it) (fun r s₁=>match r with
   | none=>R (.ok .next) s₁
   | some v=>wpAny (model prog w) A (letOwnedTupleGo target it v) (fun _ s0=>wpAny (model prog w) A (assign target env v) (fun _ s₂ =>
     wpAny (model prog w) A (forIn ifs true fun c r=>if r=true then do let ok ←isTrue c env (eval c env);pure (ForInStep.yield ok) else pure (ForInStep.yield r)) (fun ok s₃ =>
      if ok=true then wpAny (model prog w) A (eval elt env) (fun x s₄ =>
       wpAny (model prog w) A (call (.builtin "list.append") [acc,x]) (fun _ s₅=>∃m,m<n∧I m s₅) (fun _ _=>False) s₄) (fun _ _=>False) s₃
      else ∃m,m<n∧I m s₃) (fun _ _=>False) s₂) (fun _ _=>False) s0) (fun _ _=>False) s₁) (fun _ _=>False) s)
  (n:Nat) (h:I n s):codeAny (model prog w) A (.compLoop (.ListComp elt [⟨target,iter,ifs,0⟩] scope pos) 0 it acc env) R s:=by
 refine codeAny_loop rfl I (fun n s hI=>?_) n h
 show wpAny _ A ((compTurn (.ListComp elt [⟨target,iter,ifs,0⟩] scope pos) 0 it acc env).onRaise (fun x=>do noteFrame x env;theTreesLotGoes x)) _ _ s
 refine wpAny_noted ?_
 rw [compTurn_list]
 refine wpAny_bind (wpAny_standAt (wpAny_bind (wpAny_mono (turn n s hI) (fun r s₁ h₁=>?_) fun _ _ h'=>h'.elim)))
 cases r with
 | none=>exact wpAny_pure h₁
 | some v =>
  refine wpAny_bind (wpAny_mono h₁ (fun _ s0 h₁=>?_) fun _ _ h'=>h'.elim)
  refine wpAny_bind (wpAny_mono h₁ (fun _ s₂ h₂=>wpAny_bind (wpAny_mono h₂ (fun ok s₃ h₃=>?_) fun _ _ h'=>h'.elim)) fun _ _ h'=>h'.elim)
  cases ok with
  | false=>exact wpAny_pure ⟨rfl,h₃⟩
  | true =>
   exact wpAny_bind (wpAny_bind (wpAny_mono h₃ (fun x s₄ h₄=>wpAny_bind (wpAny_mono h₄ (fun _ s₅ h₅=>wpAny_pure (wpAny_pure ⟨rfl,h₅⟩)) fun _ _ h'=>h'.elim)) fun _ _ h'=>h'.elim))
noncomputable def cxC (X:Cx) (N:List Str) (s2:Shared) (H2:Hp) (fp:List Addr) (scope:Scope) (C:Addr):Cx :=
 { X with N:=N,s₀:=s2,H₀:=H2,env:=compEnvC scope (jE X.env scope.names []) C X.env,outer:=X.stack,stack:=X.stack,ex:=fp,fn:=fun _=>false,pn:=[],xe:=fun _ _=>False }
structure CScope (X:Cx) (scope:Scope):Prop where
 kind:scope.kind=.function
 nocell:∀y∈scope.names,y.2≠.cell
 nms:∀y∈scope.names,y.2=.local→scope.names.lookup y.1=some .local
 free:∀y∈scope.names,y.2=.free→X.env.kindOf y.1=some .cell∨X.env.kindOf y.1=some .free
theorem mD {scope:Scope} {env:Env} {x:Str} {k:NameKind} (h:(relabel scope env).names.lookup x=some k) (hk:k=.cell∨k=.free) (nc:∀y∈scope.names,y.2≠.cell):(x,NameKind.free)∈scope.names:=by
 have hm:=PySem.mem_of_lookup h
 unfold relabel at hm
 obtain ⟨⟨n,k0⟩,hy,e⟩:=List.mem_map.mp hm
 simp only at e
 split at e
 ·rename_i hc
  cases e
  simp only [Bool.and_eq_true,beq_iff_eq] at hc
  have:k0=.free:=hc.1.1
  subst this
  exact hy
 ·cases e
  rcases hk with rfl|rfl
  ·exact absurd rfl (nc _ hy)
  ·exact hy
theorem ki {env:Env}:∀ {names:List (Str × NameKind)} {x:Str},names.lookup x=some .globalImplicit →
  (names.map fun (n,k)=>if (k == NameKind.free && env.scope.kind == .function && env.kindOf n == some .cell) then (n,NameKind.cell) else (n,k)).lookup x=some .globalImplicit
 | [],_,h=>by simp at h
 | (n,k)::r,x,h=>by
  have ih:=@ki env r x
  show List.lookup x ((if (k == NameKind.free && env.scope.kind == .function && env.kindOf n == some .cell)=true then (n,NameKind.cell) else (n,k))::_)=_
  cases hx:x == n with
  | true =>
   simp only [List.lookup_cons,hx] at h
   cases h
   simp [List.lookup_cons,hx]
  | false =>
   simp only [List.lookup_cons,hx] at h
   by_cases hc:(k == NameKind.free && env.scope.kind == .function && env.kindOf n == some .cell)=true
   ·rw [if_pos hc];simp only [List.lookup_cons,hx];exact ih h
   ·rw [if_neg hc];simp only [List.lookup_cons,hx];exact ih h
theorem eV {env:Env}:∀ {names:List (Str × NameKind)} {x:Str},names.lookup x=some .free →
  (names.map fun (n,k)=>if (k == NameKind.free && env.scope.kind == .function && env.kindOf n == some .cell) then (n,NameKind.cell) else (n,k)).lookup x=some .cell ∨
  (names.map fun (n,k)=>if (k == NameKind.free && env.scope.kind == .function && env.kindOf n == some .cell) then (n,NameKind.cell) else (n,k)).lookup x=some .free
 | [],_,h=>by simp at h
 | (n,k)::r,x,h=>by
  have ih:=@eV env r x
  show List.lookup x ((if (k == NameKind.free && env.scope.kind == .function && env.kindOf n == some .cell)=true then (n,NameKind.cell) else (n,k))::_)=_∨List.lookup x ((if (k == NameKind.free && env.scope.kind == .function && env.kindOf n == some .cell)=true then (n,NameKind.cell) else (n,k))::_)=_
  cases hx:x == n with
  | true =>
   simp only [List.lookup_cons,hx] at h
   cases h
   by_cases hc:(NameKind.free == NameKind.free && env.scope.kind == .function && env.kindOf n == some .cell)=true
   ·rw [if_pos hc];simp [List.lookup_cons,hx]
   ·rw [if_neg hc];simp [List.lookup_cons,hx]
  | false =>
   simp only [List.lookup_cons,hx] at h
   by_cases hc:(k == NameKind.free && env.scope.kind == .function && env.kindOf n == some .cell)=true
   ·rw [if_pos hc];simp only [List.lookup_cons,hx];exact ih h
   ·rw [if_neg hc];simp only [List.lookup_cons,hx];exact ih h
section
variable {X:Cx} {pins:List (Addr × Obj)} {σ:L2.St} {H2:Hp} {s2:Shared} {fp:List Addr} {scope:Scope} {C:Addr} {N:List Str}
theorem CScope.cells (S:CScope X scope) (I:L2.Inv X pins σ H2 s2):∀y∈scope.names,y.2=.free→∃c,X.env.cells.lookup y.1=some c:=fun y hy hf=>I.ok.has y.1 (S.free y hy hf)
theorem F6 (S:CScope X scope) (I:L2.Inv X pins σ H2 s2) (f2:∀b∈fp,m_ X pins H2 b) (fl:∀b∈fp,b<s2.heap.objs.size) (hC:s2.heap.objs.size≤C):(cxC X N s2 H2 fp scope C).Ok where
 mod:=I.ok.mod
 kind:=S.kind
 glob:=I.ok.glob
 blt:=I.ok.blt
 above:=hC
 inj:=fun x y c h1 h2=>I.ok.inj x y c (iR (S.cells I) (fun _ _ z=>by simp at z) h1) (iR (S.cells I) (fun _ _ z=>by simp at z) h2)
 has:=fun x hx=>by
  refine nN (x:=x) ?_
  rcases hx with h|h
  ·exact mD h (.inl rfl) S.nocell
  ·exact mD h (.inr rfl) S.nocell
 cab:=fun x c h=>by cases h
 hd:=I.ok.hd
 frames:=I.ok.frames
 stk:=.inl rfl
 exf:=fun b hb=>⟨Nat.ne_of_lt (Nat.lt_of_lt_of_le (fl b hb) hC),fun x c h=>(f2 b hb).2.2.2.2.1 x c (iR (S.cells I) (fun _ _ z=>by simp at z) h)⟩
 bs:=I.bs
 bsz:=Nat.le_trans I.ok.bsz I.sz
 noex:=fun b o e hb=>by
  rcases (f2 b hb).2.2.2.1 with z|z
  ·exact I.ok.noex b o e z
  ·have:=Heap.lt_size e
   exact absurd (Nat.lt_of_lt_of_le (Nat.lt_of_lt_of_le this I.ok.bsz) z) (Nat.lt_irrefl _)
 exfs:=fun b hb hf=>by
  rcases List.mem_cons.mp (I.stkSub b hf) with z|z
  ·exact (f2 b hb).2.1 z
  ·exact (f2 b hb).2.2.1 z
 funs:=I.stack
 frf:=I.stkFree
theorem CD {H3:Hp} {h1:Heap} {tk:Nat} {nt:List Str} {cn:List Str} {caps:List Nat} (S:CScope X scope) (I:L2.Inv X pins σ H2 s2) (f2:∀b∈fp,m_ X pins H2 b) (fl:∀b∈fp,b<s2.heap.objs.size) (hC:s2.heap.objs.size≤C)
  (un:Un (frs X.stack) fp H2 H3 s2.heap h1) (hok:HOk X.prog X.w H3 h1) (ns:h1.Ns C (fun _=>none)) (hn:H3 C=none) (keep:∀b o,s2.heap.get? b=some o→h1.get? b=some o) (free:∀b o,s2.heap.get? b=some o→H2 b=none→H3 b=none)
  (hcn:cn=caps.filterMap (X.N[·]?)) (hcl:∀i∈caps,i<X.N.length) (hcf:∀x∈cn,scope.names.lookup x=some .free) (hce:∀x∈cn,X.env.kindOf x=some .cell∨X.env.kindOf x=some .free) :
  L2.Inv (cxC X (nt++cn) s2 H2 fp scope C) [] (nt.map (fun _=>none)++caps.map fun i=>(σ[i]?).join) H3 { s2 with heap:=h1,toks:=tk }:=by
 have cel:∀x c,(jE X.env scope.names []).lookup x=some c→X.env.cells.lookup x=some c:=fun x c h=>iR (S.cells I) (fun _ _ z=>by simp at z) h
 have lenc:cn.length=caps.length:=by
  rw [hcn]
  clear hcf hce hcn
  induction caps with
  | nil=>rfl
  | cons i r ih =>
   have:X.N[i]?=some (X.N[i]'(hcl i List.mem_cons_self)):=List.getElem?_eq_getElem (hcl i List.mem_cons_self)
   rw [List.filterMap_cons,this]
   simp only [List.length_cons]
   rw [ih fun j hj=>hcl j (List.mem_cons_of_mem _ hj)]
 have getc:∀(j i:Nat),caps[j]?=some i→∃x,cn[j]?=some x∧X.N[i]?=some x:=by
  rw [hcn]
  clear hcf hce hcn lenc
  induction caps with
  | nil=>intro j i h;simp at h
  | cons k r ih =>
   intro j i h
   have hk:X.N[k]?=some (X.N[k]'(hcl k List.mem_cons_self)):=List.getElem?_eq_getElem (hcl k List.mem_cons_self)
   rw [List.filterMap_cons,hk]
   cases j with
   | zero=>simp at h;subst h;exact ⟨_,rfl,hk⟩
   | succ j=>exact ih (fun j hj=>hcl j (List.mem_cons_of_mem _ hj)) j i (by simpa using h)
 refine ⟨F6 S I f2 fl hC,rfl,I.bare,un,⟨_,ns,fun i x v e1 e2 e3=>?_⟩,fun x c e=>?_,hn,fun x c e=>?_,fun p hp=>absurd (show p∈([]:List (Addr × Obj)) from hp) (by simp),hok,?_⟩
 ·by_cases hi:i<nt.length
  ·rw [List.getElem?_append_left (by simpa using hi),List.getElem?_map] at e2
   cases q:nt[i]? with
   | none=>rw [q] at e2;cases e2
   | some z=>rw [q] at e2;cases e2
  ·rw [List.getElem?_append_right (by simpa using hi),List.length_map,List.getElem?_map] at e2
   have e1':(nt++cn)[i]?=some x:=e1
   rw [List.getElem?_append_right (by omega)] at e1'
   cases q:caps[i-nt.length]? with
   | none=>rw [q] at e2;cases e2
   | some j =>
    rw [q] at e2
    have e2':(σ[j]?).join=some v:=Option.some.inj e2
    obtain ⟨y,g1,g2⟩:=getc _ _ q
    rw [e1'] at g1
    cases g1
    have e4:σ[j]?=some (some v):=by
     cases z:σ[j]? with
     | none=>rw [z] at e2';cases e2'
     | some w=>rw [z] at e2';rw [show w=some v from e2']
    obtain ⟨m,hm,hl⟩:=I.loc
    have kx:=hce x (List.mem_of_getElem? e1')
    obtain ⟨u,ru,lk⟩:=hl j x v g2 e4 (.inr (by rcases kx with k|k;exact .inl k;exact .inr k))
    refine ⟨u,ru,.inr ⟨eV (hcf x (List.mem_of_getElem? e1')),?_⟩⟩
    rcases lk with ⟨k,_⟩|⟨_,c,ec,hc⟩
    ·rcases kx with k' | k' <;> rw [k] at k' <;> cases k'
    ·obtain ⟨c',ec'⟩:=nN (env:=X.env) (names:=scope.names) (cs:=[]) (x:=x) (PySem.mem_of_lookup (hcf x (List.mem_of_getElem? e1')))
     have:=cel x c' ec'
     rw [ec] at this
     cases this
     obtain ⟨o,ho,hd⟩:=hc
     exact ⟨c,ec',o,keep _ _ ho,hd⟩
 ·obtain ⟨v,o,ho,hd⟩:=I.cell x c (cel x c e)
  exact ⟨v,o,keep _ _ ho,hd⟩
 ·obtain ⟨v,o,ho,hd⟩:=I.cell x c (cel x c e)
  exact free c o ho (I.freeC x c (cel x c e))
 ·show (nt.map (fun _=>(none:Option V))++caps.map fun i=>(σ[i]?).join).length=(nt++cn).length
  simp [lenc]
end
end FW
set_option Elab.async false
set_option linter.all false
set_option maxRecDepth 100000
set_option maxHeartbeats 1000000
namespace FW
open PySem PySem.Spec PyProof.Rows L2 HX
section
variable {Γ:Nat→FSp}
mutual
theorem qZ {n:Nat} (G:b8 Γ):∀(t:Tg) {v:PV} {ρ:Fr} {st:AH} {Q:Fr→AH→Prop},t.low n=true→dP Γ t v ρ st Q→dP Γ t v ρ st fun ρ' st'=>Q ρ' st'∧∀i,n≤i→ρ'[i]?=ρ[i]?
 | .name i,v,ρ,st,Q,h,q=>by
  skip
  rw [Tg.low] at h
  have:=of_decide_eq_true h
  exact ⟨q,fun j hj=>List.getElem?_set_ne (by omega)⟩
 | .tup ts,v,ρ,st,Q,h,q=>by
  skip
  rw [Tg.low] at h
  obtain ⟨xs,e,hl,q⟩:=q
  exact ⟨xs,e,hl,jP G ts h q⟩
 | .ltup ts,v,ρ,st,Q,h,q=>by
  skip
  rw [Tg.low] at h
  obtain ⟨xs,e,hl,q⟩:=q
  exact ⟨xs,e,hl,jP G ts h q⟩
 | .sub _ _,v,ρ,st,Q,h,q=>by rw [Tg.low] at h;cases h
theorem jP {n:Nat} (G:b8 Γ):∀(t:Tgs) {v:List PV} {ρ:Fr} {st:AH} {Q:Fr→AH→Prop},t.low n=true→gm Γ t v ρ st Q→gm Γ t v ρ st fun ρ' st'=>Q ρ' st'∧∀i,n≤i→ρ'[i]?=ρ[i]?
 | .nil,v,ρ,st,Q,h,q=>by exact ⟨q.1,q.2,fun _ _=>rfl⟩
 | .cons t ts,v,ρ,st,Q,h,q=>by
  skip
  rw [Tgs.low,Bool.and_eq_true] at h
  obtain ⟨x,r,e,q⟩:=q
  refine ⟨x,r,e,bv G t (fun ρ1 st1 k=>?_) (qZ G t h.1 q)⟩
  refine fo G ts (fun ρ2 st2 k2=>⟨k2.1,fun i hi=>(k2.2 i hi).trans (k.2 i hi)⟩) (jP G ts h.2 k.1)
end
end
mutual
theorem R.mono0 {K:PySem.W.Frag} {m:List Addr} {H H':Hp} (ht:∀a ys,SqT K H a ys→SqT K H' a ys) (hr:∀a ys,RdF K H a ys→RdF K H' a ys):∀ {p:PV} {v:V},R K m H p v→R K m H' p v
 | .non,v,h=>by rw [R_non] at h ⊢;exact h
 | .bl b,v,h=>by rw [R_bl] at h ⊢;exact h
 | .int b,v,h=>by rw [R_int] at h ⊢;exact h
 | .str b,v,h=>by rw [R_str] at h ⊢;exact h
 | .ref n,v,h=>by rw [jt] at h ⊢;exact h
 | .tup xs,v,h=>by rw [R_tup] at h ⊢;obtain ⟨a,ys,e,q,r⟩:=h;exact ⟨a,ys,e,ht _ _ q,Rs.mono0 ht hr r⟩
 | .rdl xs,v,h=>by rw [fC] at h ⊢;obtain ⟨a,ys,e,q,r⟩:=h;exact ⟨a,ys,e,hr _ _ q,Rs.mono0 ht hr r⟩
 | .fn a,v,h=>by rw [Am] at h ⊢;exact h
theorem Rs.mono0 {K:PySem.W.Frag} {m:List Addr} {H H':Hp} (ht:∀a ys,SqT K H a ys→SqT K H' a ys) (hr:∀a ys,RdF K H a ys→RdF K H' a ys):∀ {ps:List PV} {vs:List V},Rs K m H ps vs→Rs K m H' ps vs
 | [],vs,h=>by rw [Rs_nil] at h ⊢;exact h
 | p::ps,vs,h=>by
  rw [bj] at h ⊢
  obtain ⟨y,r,e,h1,h2⟩:=h
  exact ⟨y,r,e,R.mono0 ht hr h1,Rs.mono0 ht hr h2⟩
end
theorem kQ {K:PySem.W.Frag} {H:Hp} {D:Addr} {ys zs:List V} (hD:H D=some (.lst ys)):∀a us,SqT K H a us→SqT K (upd H D (.lst zs)) a us:=fun a us q=>by
 rcases q with (q|⟨w,q⟩)|q
 ·exact .inl (.inl (by rw [am (fun z=>by subst z;rw [hD] at q;cases q)];exact q))
 ·exact .inl (.inr ⟨w,by rw [am (fun z=>by subst z;rw [hD] at q;cases q)];exact q⟩)
 ·exact .inr q
theorem kU {K:PySem.W.Frag} {H:Hp} {D:Addr} {ys zs:List V} (hD:H D=some (.lst ys)):∀a us,RdF K H a us→RdF K (upd H D (.lst zs)) a us:=fun a us q=>by
 rcases q with ⟨w,q⟩|q
 ·exact .inl ⟨w,by rw [am (fun z=>by subst z;rw [hD] at q;cases q)];exact q⟩
 ·exact .inr q
theorem TB.away {K:PySem.W.Frag} {H:Hp} {D:Addr} {ys zs:List V} (t:TB K H) (hD:H D=some (.lst ys)):TB K (upd H D (.lst zs)) :=
 t.keep (fun a ps q=>by rw [am (fun z=>by subst z;rw [hD] at q;cases q)];exact q) fun a o q=>by rw [am (fun z=>by subst z;rw [hD] at q;cases q)];exact q
theorem Ext.away {K:PySem.W.Frag} {m m':List Addr} {H H':Hp} {D:Addr} {ys zs:List V} (x:Ext K m H m' H') (h0:H D=none) (hD:H' D=some (.lst ys)):Ext K m H m' (upd H' D (.lst zs)) :=
 ⟨x.pre,x.new,fun a o ha e n=>by rw [am (aI e h0)];exact x.fr a o ha e n,fun a us q=>kQ hD a us (x.tup a us q),fun a us q=>kU hD a us (x.rdf a us q),fun a ps ha e=>let ⟨p1,e1⟩:=x.tbs a ps ha e;⟨p1,by rw [am (aI e h0)];exact e1⟩,fun t=>(x.tb t).away hD⟩
theorem RH.away {K:PySem.W.Frag} {m:List Addr} {H:Hp} {st:AH} {D:Addr} {ys zs:List V} (h:RH K m H st) (hm:D ∉ m) (hD:H D=some (.lst ys)):RH K m (upd H D (.lst zs)) st:=by
 refine ⟨h.len,h.nd,fun n c a h1 h2=>?_,h.tb.away hD⟩
 have ha:a≠D:=fun z=>hm (z ▸ List.mem_of_getElem? h2)
 have hc:=h.at_ n c a h1 h2
 cases c with
 | lst xs=>obtain ⟨us,g1,g2⟩:=hc;exact ⟨us,by rw [am ha];exact g1,g2.mono0 (kQ hD) (kU hD)⟩
 | dk kvs=>obtain ⟨us,g1,g2,g3⟩:=hc;exact ⟨us,by rw [am ha];exact g1,g2,g3.mono0 (kQ hD) (kU hD)⟩
theorem RF.away {K:PySem.W.Frag} {m:List Addr} {H:Hp} {ρ:Fr} {σ:L2.St} {D:Addr} {ys zs:List V} (h:RF K m H ρ σ) (hD:H D=some (.lst ys)):RF K m (upd H D (.lst zs)) ρ σ :=
 ⟨h.len,fun i v e=>let ⟨y,e1,r⟩:=h.at_ i v e;⟨y,e1,r.mono0 (kQ hD) (kU hD)⟩⟩
theorem RF.less {K:PySem.W.Frag} {m:List Addr} {H:Hp} {ρ ρ':Fr} {σ:L2.St} {n:Nat} (h:RF K m H ρ' σ) (hl:ρ.length=ρ'.length) (hn:∀i v,ρ[i]?=some (some v)→n≤i) (hp:∀i,n≤i→ρ'[i]?=ρ[i]?):RF K m H ρ σ :=
 ⟨hl.trans h.len,fun i v e=>h.at_ i v (by rw [hp i (hn i v e)];exact e)⟩
theorem rL {nt:List Str} {f:Nat→Option PV} {caps:List Nat}:∀(i:Nat) (v:PV),(nt.map (fun _=>(none:Option PV))++caps.map f)[i]?=some (some v)→nt.length≤i:=fun i v e=>by
 by_cases hi:i<nt.length
 ·rw [List.getElem?_append_left (by simpa using hi),List.getElem?_map] at e
  cases q:nt[i]? with
  | none=>rw [q] at e;cases e
  | some z=>rw [q] at e;cases e
 ·omega
theorem En {K:PySem.W.Frag} {m:List Addr} {H:Hp} {ρ:Fr} {σ:L2.St} {nt:List Str} {caps:List Nat} (h:RF K m H ρ σ) :
  RF K m H (nt.map (fun _=>none)++caps.map fun i=>(ρ[i]?).join) (nt.map (fun _=>none)++caps.map fun i=>(σ[i]?).join):=by
 refine ⟨by simp,fun i v e=>?_⟩
 have hi:=rL i v e
 rw [List.getElem?_append_right (by simpa using hi),List.length_map,List.getElem?_map] at e
 rw [List.getElem?_append_right (by simpa using hi),List.length_map,List.getElem?_map]
 cases q:caps[i-nt.length]? with
 | none=>rw [q] at e;cases e
 | some j =>
  rw [q] at e
  have e':(ρ[j]?).join=some v:=Option.some.inj e
  have e4:ρ[j]?=some (some v):=by
   cases z:ρ[j]? with
   | none=>rw [z] at e';cases e'
   | some w=>rw [z] at e';rw [show w=some v from e']
  obtain ⟨y,e5,r⟩:=h.at_ j v e4
  exact ⟨y,by show some ((σ[j]?).join)=_;rw [e5];rfl,r⟩
section
variable {X:Cx} {Γ:Nat→FSp} {pins:List (Addr × Obj)} {σ:L2.St} {H:Hp} {s:Shared}
noncomputable def eT (K:PySem.W.Frag) (m1:List Addr) (H1:Hp) (Fin:Addr→Hp→Prop):LK:=fun vs st2=>∀m2 H2 D ys,Ext K m1 H1 m2 H2→RH K m2 H2 st2→D ∉ m2→H1 D=none→H2 D=some (.lst ys)→Rs K m2 H2 vs ys→Fin D H2
noncomputable def fF (Γ:Nat→FSp) (elt:E) (tg:Tg) (ifs:Es) (ρ:Fr):PV→AH→(Option PV→AH→Prop)→Prop:=fun x st2 k=>dP Γ tg x ρ st2 fun ρ' st3=>iJ Γ ifs ρ' st3 fun c st4=>if c=true then wpE Γ elt ρ' st4 fun v st5=>k (some v) st5 else k none st4
theorem rG (G:b8 Γ) (hcalm:X.calm=true) {elt:E} {tg:Tg} {ifs:Es} {nt:List Str} {caps:List Nat} {cn:List Str} {eltx tgx iterx:Expr} {ifsx:List Expr} {scope:Scope} {pos p0:Pos} {use:Option (Value→Sem Unit)} {Qf:Value→Shared→Prop} {Fin:Addr→Hp→Prop} {wi:TI}
  (S:CScope X scope) (hcn:cn=caps.filterMap (X.N[·]?)) (hcl:∀i∈caps,i<X.N.length) (hcf:∀x∈cn,scope.names.lookup x=some .free) (hce:∀x∈cn,X.env.kindOf x=some .cell∨X.env.kindOf x=some .free)
  (hset:oJ iterx=true) (hlow:tg.low nt.length=true) (hI:PI X tgx iterx wi)
  (hG:∀s2 H2 fp C,PG (cxC X (nt++cn) s2 H2 fp scope C) tgx (TGx X.K (dP Γ tg)))
  (hT:∀s2 H2 fp C,PTs (cxC X (nt++cn) s2 H2 fp scope C) ifsx (TTx X.K (iJ Γ ifs)))
  (hE:∀s2 H2 fp C,PE (cxC X (nt++cn) s2 H2 fp scope C) eltx (TEx X.K (wpE Γ elt)))
  (I:L2.Inv X pins σ H s)
  (h:wi σ H fun J H1=>∃m ρ st1 xs chk,RF X.K m H1 ρ σ∧RH X.K m H1 st1∧so X.K J xs chk m H1∧xs.length<100000∧e7 chk (fF Γ elt tg ifs (nt.map (fun _=>none)++caps.map fun i=>(ρ[i]?).join)) xs [] st1 (eT X.K m H1 Fin))
  (fin:∀C D H' s' m',L2.Inv X pins σ H' s'→s'.heap.Ns C m'→m_ X pins H' C→Fin D H'→compPost (model X.prog X.w) X.A X.xe use Qf (.ref D) C (.ok .next) s') :
  wpAny (model X.prog X.w) X.A (comprehension (.ListComp eltx [⟨tgx,iterx,ifsx,0⟩] scope pos) scope X.env p0 (newList []) false (eval iterx X.env) use) Qf X.xe s:=by
 refine wpAny_comprehension_free (use:=use) rfl (u_ hset) (xM (S.cells I)) S.kind S.nms ?_
 refine thn (hI pins s σ H _ I h) fun v s1 h1=>thn h1 fun itv s2 h2=>?_
 obtain ⟨it,fp,tn,J,H2,e,I2,T,st2,f2,m,ρ,st1,xs,chk,rf,rh,W,hxs,w⟩:=h2
 subst e
 have fl:∀b∈fp,b<s2.heap.objs.size:=fun b hb=>by
  obtain ⟨o,e,_⟩:=T.obj 0 _ st2 b hb
  exact Heap.lt_size e
 refine wpAny_newObj_type (wpAny_newFunctionEnv S.nocell (by intro y hy;simp at hy) (fun h₁ hns₁ hsb₁=>?_) S.kind)
 dsimp only at hns₁ hsb₁ ⊢
 generalize hD:s2.heap.objs.size=D at *
 generalize hH3:s2.heap.push { cls:=.type "list",dict:=none,data:=.seq ([]:List Value).toArray }=P3 at hns₁ hsb₁ ⊢
 generalize hCC:P3.objs.size=C at *
 have hC1:C=D+1:=by rw [←hCC,←hH3,Heap.size_push,hD]
 have ltDC:D<C:=by rw [hC1];exact Nat.lt_succ_self D
 have neC:∀b,b<D→b≠C:=fun b hb=>Nat.ne_of_lt (Nat.lt_trans hb ltDC)
 have hDn:H2 D=none:=by rw [←hD];exact I2.hok.fresh (Nat.le_refl _)
 have hCn:H2 C=none:=I2.hok.fresh (by rw [hD];exact Nat.le_of_lt ltDC)
 have old3:∀b o,s2.heap.get? b=some o→P3.get? b=some o:=fun b o e=>hH3 ▸ Heap.get?_push_of_some _ e
 have old:∀b o,s2.heap.get? b=some o→h₁.get? b=some o:=fun b o e=>hsb₁.extBut b o (neC b (hD ▸ Heap.lt_size e)) (Heap.get?_push_of_some _ (old3 b o e))
 have newD:h₁.get? D=some { cls:=.type "list",data:=.seq #[] }:=hsb₁.extBut _ _ (Nat.ne_of_lt ltDC) (Heap.get?_push_of_some _ (by rw [←hH3,←hD];exact Heap.get?_push_size _ rfl))
 have un:Un (frs X.stack) fp H2 (upd H2 D (.lst [])) s2.heap h₁:=Un.laid old (by rw [hD];exact Nat.le_refl _) hDn
 have hok:HOk X.prog X.w (upd H2 D (.lst [])) h₁:=I2.hok.laid old (by rw [hD];exact Nat.le_refl _) ⟨Nat.zero_le _,[],0,.nil,newD⟩
 have I4:=CD (nt:=nt) (tk:=s2.toks+([]:List (Str × Value)).length) S I2 f2 (by rw [hD];exact fl) (C:=C) (by rw [hD];exact Nat.le_of_lt ltDC) un hok (by simpa using hns₁) (by rw [am (Nat.ne_of_gt ltDC)];exact hCn) old
  (fun b o e n=>by rw [am (Nat.ne_of_lt (hD ▸ Heap.lt_size e))];exact n) hcn hcl hcf hce
 generalize hρ0:(nt.map (fun _=>none)++caps.map fun i=>(ρ[i]?).join:Fr)=ρ0 at w
 have hρn:∀i v,ρ0[i]?=some (some v)→nt.length≤i:=by rw [←hρ0];exact rL
 have rf0:RF X.K m H2 ρ0 (nt.map (fun _=>none)++caps.map fun i=>(σ[i]?).join):=by rw [←hρ0];exact En rf
 generalize (nt.map (fun _=>none)++caps.map fun i=>(σ[i]?).join:L2.St)=σ0 at I4 rf0
 have loop:codeAny (model X.prog X.w) X.A (.compLoop (.ListComp eltx [⟨tgx,iterx,ifsx,0⟩] scope pos) 0 (.ref it) (.ref D) (compEnvC scope (jE X.env scope.names []) C X.env)) (compPost (model X.prog X.w) X.A X.xe use Qf (.ref D) C)
   { s2 with heap:=h₁,toks:=s2.toks+([]:List (Str × Value)).length }:=by
  refine sK (fun n s'=>∃(i:Nat),∃σ' H' m' st' acc ys,n+i=xs.length∧L2.Inv (cxC X (nt++cn) s2 H2 fp scope C) [] σ' H' s'∧tn i s'.heap∧(∀b∈fp,H' b=none)∧Ext X.K m H2 m' H'∧RH X.K m' H' st'∧RF X.K m' H' ρ0 σ'∧D ∉ m'∧H' D=some (.lst ys)∧Rs X.K m' H' acc ys∧ys.length≤i ∧
   e7 chk (fF Γ elt tg ifs ρ0) (xs.drop i) acc st' (eT X.K m H2 Fin)) ?_ xs.length
   ⟨0,σ0,_,m,st1,[],[],rfl,I4,T.keep 0 _ _ st2 (fun b _ o e=>old b o e),fun b hb=>by rw [am (Nat.ne_of_lt (fl b hb))];exact (f2 b hb).1,Ext.newT rh hDn,rh.newT hDn,rf0.mono (Ext.newT rh hDn),rh.fresh hDn,cQ,Rs_nil.mpr rfl,Nat.le_refl _,by simpa using w⟩
  rintro n s' ⟨i,σ',H',m',st',acc,ys,hn,I',tni,fpn,x',rh',rf',Dm,hDl,rys,hly,k⟩
  have stat:∀ {H'':Hp},(∀b∈fp,H'' b=none)→∀b∈fp,m_ (cxC X (nt++cn) s2 H2 fp scope C) [] H'' b:=fun hz b hb=>⟨hz b hb,(I'.ok.exf b hb).1,I'.ok.exfs b hb,.inl hb,(I'.ok.exf b hb).2,fun p hp=>absurd (show p∈([]:List (Addr × Obj)) from hp) (by simp)⟩
  cases q:xs.drop i with
  | nil =>
   rw [q] at k
   have hi:i=xs.length:=by
    have:=congrArg List.length q
    simp at this
    omega
   subst hi
   refine thn (T.done (cxC X (nt++cn) s2 H2 fp scope C) rfl rfl rfl hcalm _ [] s' σ' H' (fun _ _=>False) I' (stat fpn) tni (W.stop m' H' st' x' rh' k.1)) fun r s1 ⟨hr,I1⟩=>?_
   subst hr
   have IX:L2.Inv X pins σ H' s1:=I2.call' I1.os I1.base I1.hok I1.bare fun b hb=>⟨(f2 b hb).2.2.2.1,(f2 b hb).2.1,(f2 b hb).2.2.2.2.1,(f2 b hb).2.2.2.2.2⟩
   obtain ⟨mm,hns,_⟩:=I1.loc
   exact fin C D H' s1 mm IX hns (I2.fpOk (by rw [hD];exact Nat.le_of_lt ltDC) I1.free) (k.2 m' H' D ys x' rh' Dm hDn hDl rys)
  | cons v rest =>
   rw [q] at k
   have hi:i<xs.length:=by
    have:=congrArg List.length q
    simp at this
    omega
   have ev:xs[i]?=some v:=by
    have:=congrArg List.head? q
    rw [List.head?_drop] at this
    exact this
   have er:rest=xs.drop (i+1):=by
    have:=congrArg List.tail q
    rw [List.tail_drop] at this
    exact this.symm
   subst er
   obtain ⟨kc,k⟩:=k
   obtain ⟨go,yl⟩:=W.item i v m' H' st' x' rh' kc ev
   refine thn (T.item (cxC X (nt++cn) s2 H2 fp scope C) rfl rfl rfl hcalm i [] s' σ' H' (fun _ _=>False) I' (stat fpn) tni go) fun r s4 ⟨u,hr,h4⟩=>?_
   subst hr
   refine thn h4 fun _ s5 ⟨x,H5,I5,r5,y5,tn5,fr5⟩=>?_
   obtain ⟨x5,rh5,rv5⟩:=yl x H5 y5
   have I5':=I5.pinned (stat fr5) (T.obj _ _ tn5)
   have again:∀ {σ7:L2.St} {H7:Hp} {s7:Shared} {m7:List Addr} {st7:AH} {acc7:List PV} {ys7:List V},L2.Inv (cxC X (nt++cn) s2 H2 fp scope C) ([]++ol fp s5.heap) σ7 H7 s7→Ext X.K m H2 m7 H7→RH X.K m7 H7 st7→RF X.K m7 H7 ρ0 σ7→D ∉ m7→H7 D=some (.lst ys7) →
     Rs X.K m7 H7 acc7 ys7→ys7.length≤i+1→e7 chk (fF Γ elt tg ifs ρ0) (xs.drop (i+1)) acc7 st7 (eT X.K m H2 Fin) →
     ∃n',n'<n∧∃(i:Nat),∃σ' H' m' st' acc ys,n'+i=xs.length∧L2.Inv (cxC X (nt++cn) s2 H2 fp scope C) [] σ' H' s7∧tn i s7.heap∧(∀b∈fp,H' b=none)∧Ext X.K m H2 m' H'∧RH X.K m' H' st'∧RF X.K m' H' ρ0 σ'∧D ∉ m'∧H' D=some (.lst ys)∧Rs X.K m' H' acc ys∧ys.length≤i ∧
      e7 chk (fF Γ elt tg ifs ρ0) (xs.drop i) acc st' (eT X.K m H2 Fin):=fun {σ7 H7 s7 m7 st7 acc7 ys7} I7 g1 g2 g3 g4 g5 g6 g7 g8=>by
    refine ⟨n-1,by omega,i+1,σ7,H7,m7,st7,acc7,ys7,by omega,I7.unpinned,T.keep _ _ _ tn5 fun b hb o e=>(I7.pin (b,o) (List.mem_append_right _ (List.mem_append_right _ (gW hb e)))).1,fun b hb=>?_,g1,g2,g3,g4,g5,g6,g7,g8⟩
    obtain ⟨o,e,d⟩:=T.obj _ _ tn5 b hb
    exact (I7.pin (b,o) (List.mem_append_right _ (List.mem_append_right _ (gW hb e)))).2.1
   have k2:=qZ (n:=nt.length) G tg hlow k
   refine thn (hG s2 H2 fp C _ s5 σ' H5 x u (fun σ6 H6=>∃m6 ρ1 st6,Ext X.K m' H5 m6 H6∧RH X.K m6 H6 st6∧RF X.K m6 H6 ρ1 σ6∧(∀j,nt.length≤j→ρ1[j]?=ρ0[j]?) ∧
    iJ Γ ifs ρ1 st6 fun c st4=>if c=true then wpE Γ elt ρ1 st4 fun vv st5=>e7 chk (fF Γ elt tg ifs ρ0) (xs.drop (i+1)) (acc++[vv]) st5 (eT X.K m H2 Fin) else e7 chk (fF Γ elt tg ifs ρ0) (xs.drop (i+1)) acc st4 (eT X.K m H2 Fin)) I5' r5
    ⟨m',ρ0,st',v,rf'.mono x5,rh5,rv5,bv G tg (fun ρ1 st6 z m6 H6 σ6 x6 rh6 rf6=>⟨m6,ρ1,st6,x6,rh6,rf6,z.2,cY G ifs (fun c st4 zz=>by
     cases c with
     | true=>rw [if_pos rfl] at zz ⊢;exact zz
     | false=>rw [if_neg Bool.false_ne_true] at zz ⊢;simpa using zz) z.1⟩) k2⟩) fun _ s6 ⟨σ6,H6,I6,m6,ρ1,st6,x6,rh6,rf6,pr,w6⟩=>?_
   have hlen:ρ0.length=ρ1.length:=by rw [rf6.len,I6.len,rf'.len,I'.len]
   refine thn (hT s2 H2 fp C _ s6 σ6 H6 (fun b H7=>∃m7 st7,Ext X.K m6 H6 m7 H7∧RH X.K m7 H7 st7∧if b=true then wpE Γ elt ρ1 st7 fun vv st5=>e7 chk (fF Γ elt tg ifs ρ0) (xs.drop (i+1)) (acc++[vv]) st5 (eT X.K m H2 Fin) else e7 chk (fF Γ elt tg ifs ρ0) (xs.drop (i+1)) acc st7 (eT X.K m H2 Fin)) I6
    ⟨m6,ρ1,st6,rf6,rh6,cY G ifs (fun b st7 z m7 H7 x7 rh7=>⟨m7,st7,x7,rh7,z⟩) w6⟩) fun b s7 ⟨H7,I7,m7,st7,x7,rh7,w7⟩=>?_
   have xx7:Ext X.K m' H' m7 H7:=(x5.trans x6).trans x7
   cases b with
   | false =>
    rw [if_neg Bool.false_ne_true] at w7 ⊢
    refine again I7 (x'.trans xx7) rh7 ((rf6.mono x7).less hlen hρn pr) (fun z=>?_) (xx7.fr D _ Dm hDl fun _ z=>nomatch z) (rys.mono xx7) (by omega) w7
    rcases xx7.new D z with z|z
    ·exact Dm z
    ·rw [hDl] at z;cases z
   | true =>
    rw [if_pos rfl] at w7 ⊢
    refine thn (hE s2 H2 fp C _ s7 σ6 H7 (fun y H8=>∃m8 st8 vv,Ext X.K m7 H7 m8 H8∧RH X.K m8 H8 st8∧R X.K m8 H8 vv y∧e7 chk (fF Γ elt tg ifs ρ0) (xs.drop (i+1)) (acc++[vv]) st8 (eT X.K m H2 Fin)) I7
     ⟨m7,ρ1,st7,rf6.mono x7,rh7,ab G elt (fun vv st8 z m8 H8 y x8 rh8 r8=>⟨m8,st8,vv,x8,rh8,r8,z⟩) w7⟩) fun uy s8 ⟨y,H8,I8,ry,m8,st8,vv,x8,rh8,r8,w8⟩=>?_
    have xx8:Ext X.K m' H' m8 H8:=xx7.trans x8
    have hD8:H8 D=some (.lst ys):=xx8.fr D _ Dm hDl fun _ z=>nomatch z
    have Dm8:D ∉ m8:=fun z=>by
     rcases xx8.new D z with z|z
     ·exact Dm z
     ·rw [hDl] at z;cases z
    refine thn (rc (X:=cxC X (nt++cn) s2 H2 fp scope C) _ s8 σ6 H8 (.ref D) [y] (.ref D) [uy] (fun _ H9=>H9=upd H8 D (.lst (ys++[y]))) I8 rfl (.cons ry .nil) ⟨D,ys,y,rfl,rfl,hD8,yn (by omega),rfl⟩) fun _ s9 ⟨_,H9,I9,_,e9⟩=>?_
    subst e9
    exact again I9 ((x'.trans xx8).away hDn hD8) (rh8.away Dm8 hD8) ((((rf6.mono x7).mono x8).less hlen hρn pr).away hD8) Dm8 cQ (((rys.mono xx8).app (.one r8)).mono0 (kQ hD8) (kU hD8)) (by simp;omega) w8
 exact codeAny_compStart_list loop (T.self X.A 0 _ _ _ (T.keep 0 _ _ st2 fun b _ o e=>old b o e) loop)
end
end FW
set_option Elab.async false
set_option linter.all false
set_option maxRecDepth 100000
set_option maxHeartbeats 1000000
namespace FW
open PySem PySem.Spec PyProof.Rows L2 HX
mutual
theorem R.pre {K:PySem.W.Frag} {m m':List Addr} {H:Hp} (hp:m <+: m'):∀ {p:PV} {v:V},R K m H p v→R K m' H p v
 | .non,v,h=>by rw [R_non] at h ⊢;exact h
 | .bl b,v,h=>by rw [R_bl] at h ⊢;exact h
 | .int b,v,h=>by rw [R_int] at h ⊢;exact h
 | .str b,v,h=>by rw [R_str] at h ⊢;exact h
 | .fn b,v,h=>by rw [Am] at h ⊢;exact h
 | .ref n,v,h=>by rw [jt] at h ⊢;obtain ⟨a,e,q⟩:=h;exact ⟨a,km hp e,q⟩
 | .tup xs,v,h=>by rw [R_tup] at h ⊢;obtain ⟨a,ys,e,q,r⟩:=h;exact ⟨a,ys,e,q,Rs.pre hp r⟩
 | .rdl xs,v,h=>by rw [fC] at h ⊢;obtain ⟨a,ys,e,q,r⟩:=h;exact ⟨a,ys,e,q,Rs.pre hp r⟩
theorem Rs.pre {K:PySem.W.Frag} {m m':List Addr} {H:Hp} (hp:m <+: m'):∀ {ps:List PV} {vs:List V},Rs K m H ps vs→Rs K m' H ps vs
 | [],vs,h=>by rw [Rs_nil] at h ⊢;exact h
 | p::ps,vs,h=>by
  rw [bj] at h ⊢
  obtain ⟨y,r,e,h1,h2⟩:=h
  exact ⟨y,r,e,R.pre hp h1,Rs.pre hp h2⟩
end
section
variable {Γ:Nat→FSp} {X:Cx} {c:Cfg}
theorem y8 {k:Option NameKind} (h:z_ k=true):k=some .cell∨k=some .free:=by
 unfold z_ at h
 simpa using h
end
end FW
set_option Elab.async false
set_option linter.all false
set_option maxRecDepth 100000
set_option maxHeartbeats 1000000
namespace FW
open PySem PySem.Spec PyProof.Rows L2 HX
section
variable {Γ:Nat→FSp}
theorem oS (G:b8 Γ) {elt:E} {tg:Tg} {ifs:Es} {ρ:Fr} {x:PV} {st:AH} {k k':Option PV→AH→Prop} (hk:∀o st,k o st→k' o st) (q:fF Γ elt tg ifs ρ x st k):fF Γ elt tg ifs ρ x st k' :=
 bv G tg (fun ρ' st3 w=>cY G ifs (fun c st4 w=>by
  cases c with
  | true=>rw [if_pos rfl] at w ⊢;exact ab G elt (fun v st5 w=>hk _ _ w) w
  | false=>rw [if_neg Bool.false_ne_true] at w ⊢;exact hk _ _ w) w) q
theorem Ext.addD {K:PySem.W.Frag} {m m2:List Addr} {H H2:Hp} {D:Addr} (x:Ext K m H m2 H2) (h0:H D=none):Ext K m H (m2++[D]) H2:=by
 refine ⟨x.pre.trans (List.prefix_append _ _),fun a ha=>?_,x.fr,x.tup,x.rdf,x.tbs,x.tb⟩
 rcases List.mem_append.mp ha with z|z
 ·exact x.new a z
 ·rw [List.mem_singleton] at z
  subst z
  exact .inr h0
theorem RH.addD {K:PySem.W.Frag} {m:List Addr} {H:Hp} {st:AH} {D:Addr} {vs:List PV} {ys:List V} (h:RH K m H st) (Dm:D ∉ m) (hD:H D=some (.lst ys)) (r:Rs K m H vs ys):RH K (m++[D]) H (st++[.lst vs]):=by
 have hp:m <+: m++[D]:=List.prefix_append _ _
 refine ⟨by simp [h.len],List.nodup_append.mpr ⟨h.nd,List.nodup_cons.mpr ⟨by simp,List.nodup_nil⟩,fun a ha b hb z=>?_⟩,fun n c' a h1 h2=>?_,h.tb⟩
 ·rw [List.mem_singleton] at hb
  subst hb
  exact Dm (z ▸ ha)
 ·by_cases hn:n<st.length
  ·rw [List.getElem?_append_left hn] at h1
   rw [List.getElem?_append_left (by rw [h.len];exact hn)] at h2
   have hc:=h.at_ n c' a h1 h2
   cases c' with
   | lst xs=>obtain ⟨us,g1,g2⟩:=hc;exact ⟨us,g1,g2.pre hp⟩
   | dk kvs=>obtain ⟨us,g1,g2,g3⟩:=hc;exact ⟨us,g1,g2,g3.pre hp⟩
  ·rw [List.getElem?_append_right (by omega)] at h1
   rw [List.getElem?_append_right (by rw [h.len];omega)] at h2
   have hl:=h.len
   by_cases hz:n-st.length=0
   ·rw [hz] at h1
    rw [show n-m.length=0 by omega] at h2
    simp at h1 h2
    subst h1 h2
    exact ⟨ys,hD,r.pre hp⟩
   ·rw [List.getElem?_eq_none (by simp;omega)] at h1
    cases h1
theorem pX {X:Cx} {c:Cfg} (C:COk X c Γ) {nt:List Str} {caps:List Nat} {sc:Scope} (h:c.block nt caps sc=true) :
  CScope X sc∧(∀i∈caps,i<X.N.length)∧(∀x∈caps.filterMap (X.N[·]?),sc.names.lookup x=some .free)∧(∀x∈caps.filterMap (X.N[·]?),X.env.kindOf x=some .cell∨X.env.kindOf x=some .free)∧(nt++caps.filterMap (X.N[·]?)).Nodup:=by
 unfold Cfg.block at h
 simp only [Bool.and_eq_true,List.all_eq_true,beq_iff_eq,decide_eq_true_eq,Bool.or_eq_true,Bool.not_eq_true',beq_eq_false_iff_ne] at h
 obtain ⟨⟨⟨⟨⟨⟨h1,h2⟩,h3⟩,h4⟩,h5⟩,h6⟩,h7⟩:=h
 rw [C.N]
 refine ⟨⟨h1,fun y hy=>h2 y hy,fun y hy e=>?_,fun y hy e=>?_⟩,h5,fun x hx=>(h6 x hx).1,fun x hx=>C.cel x (y8 (h6 x hx).2),h7⟩
 ·rcases h3 y hy with z|z
  ·exact absurd e z
  ·exact z
 ·rcases h4 y hy with z|z
  ·exact absurd e z
  ·exact C.cel _ (y8 z)
theorem BT {X:Cx} {c:Cfg} (C:COk X c Γ) {nt:List Str} {caps:List Nat} {sc:Scope} (h:c.block nt caps sc=true) {s2:Shared} {H2:Hp} {fp:List Addr} {A:Addr} :
  COk (cxC X (nt++caps.filterMap (X.N[·]?)) s2 H2 fp sc A) (c.inner nt caps sc) Γ:=by
 obtain ⟨S,k1,k2,k3,k4⟩:=pX C h
 have nocell:∀x,sc.names.lookup x≠some .cell:=fun x e=>S.nocell _ (PySem.mem_of_lookup e) rfl
 refine ⟨C.calm,PassesOwn.never,?_,?_,fun x hx=>?_,fun x hx=>?_,fun x hx=>lookup_relabel_local hx,fun x hx=>ki hx,?_,fun x hx=>?_,C.room,C.fn,C.blt,C.gl,C.mono,fun h=>Bool.noConfusion (show false=true from h),fun k h=>by cases h⟩
 ·show nt++caps.filterMap (X.N[·]?)=nt++caps.filterMap (c.N[·]?)
  rw [C.N]
 ·show (nt++caps.filterMap (c.N[·]?)).Nodup
  rw [←C.N]
  exact k4
 ·rcases hx with hx|hx|hx
  ·exact .inl (lookup_relabel_local hx)
  ·exact absurd hx (nocell x)
  ·rcases eV (env:=X.env) hx with z|z
   ·exact .inr (.inl z)
   ·exact .inr (.inr z)
 ·rcases hx with hx|hx
  ·exact ⟨.inl (lookup_relabel_local hx),.inr (lookup_relabel_local hx)⟩
  ·exact absurd hx (nocell x)
 ·show Env.blockKind (compEnvC sc (jE X.env sc.names []) A X.env)=_
  unfold Env.blockKind
  show (if sc.kind.isAnnotationScope=true then _ else sc.kind)=_
  rw [S.kind]
  rfl
 ·rcases hx with hx|hx
  ·exact absurd hx (nocell x)
  ·exact eV hx
mutual
theorem bn:∀(e:E) {X:Cx} {c:Cfg} (C:COk X c Γ) (x:Expr),aS c e x=true→PE X x (TEx X.K (wpE Γ e))
 | .var i,X,c,C,x,h=>by
  replace h:=ak h
  obtain ⟨y,p,rfl,h⟩:=h
  ·exact Dq C h
 | .int i,X,c,C,x,h=>by
  replace h:=zE h
  obtain ⟨j,k,p,rfl,h⟩:=h
  ·rw [beq_iff_eq] at h;subst h
   rintro pins s σ H Q I ⟨m,ρ,st,rf,rh,w⟩
   skip
   exact Gf pins s σ H Q I (w.here rh (R_int.mpr rfl))
 | .bl i,X,c,C,x,h=>by
  replace h:=Di h
  obtain ⟨j,k,p,rfl,h⟩:=h
  ·rw [beq_iff_eq] at h;subst h
   rintro pins s σ H Q I ⟨m,ρ,st,rf,rh,w⟩
   skip
   exact IY pins s σ H Q I (w.here rh (R_bl.mpr rfl))
 | .non,X,c,C,x,h=>by
  replace h:=zZ h
  obtain ⟨k,p,rfl⟩:=h
  ·rintro pins s σ H Q I ⟨m,ρ,st,rf,rh,w⟩
   skip
   exact GG pins s σ H Q I (w.here rh (R_non.mpr rfl))
 | .str i,X,c,C,x,h=>by
  replace h:=AM h
  obtain ⟨j,k,p,rfl,h⟩:=h
  ·rw [beq_iff_eq] at h;subst h
   rintro pins s σ H Q I ⟨m,ρ,st,rf,rh,w⟩
   skip
   exact Gk pins s σ H Q I (w.here rh (R_str.mpr rfl))
 | .gv y v,X,c,C,x,h=>by
  replace h:=ak h
  obtain ⟨z,p,rfl,h⟩:=h
  ·simp only [Bool.and_eq_true,beq_iff_eq] at h
   obtain ⟨⟨h1,h2⟩,h3⟩:=h
   subst h1
   obtain ⟨g1,g2,_⟩:=C.glbx h2
   replace h3:=jC h3
   obtain ⟨w,hw,h3⟩:=h3
   ·have:=PV.same_eq h3
    subst this
    obtain ⟨u,z,e1,e2,e3⟩:=C.gl _ _ hw
    rintro pins s σ H Q I ⟨m,ρ,st,rf,rh,w⟩
    skip
    exact ES g1 e1 e2 g2 pins s σ H Q I (w.here rh (e3 m H))
 | .tup es,X,c,C,x,h=>by
  replace h:=bH h
  obtain ⟨xs,k,p,rfl,h⟩:=h
  ·rintro pins s σ H Q I ⟨m,ρ,st,rf,rh,w⟩
   skip
   refine GQ (mw es C _ h) pins s σ H Q I ⟨m,ρ,st,rf,rh,aM C.mono es (fun vs st1 k m1 H1 xs1 e1 r1 r2=>⟨by rw [←r2.len];exact e6 k.1,fun p hp=>?_⟩) w⟩
   exact (k.2.ext e1).newT r1 r2 hp
 | .lst es,X,c,C,x,h=>by
  replace h:=w4 h
  obtain ⟨xs,p,rfl,h⟩:=h
  ·rintro pins s σ H Q I ⟨m,ρ,st,rf,rh,w⟩
   skip
   refine Go (mw es C _ h) pins s σ H Q I ⟨m,ρ,st,rf,rh,aM C.mono es (fun vs st1 k m1 H1 xs1 e1 r1 r2=>⟨by rw [←r2.len];exact e6 k.1,fun p hp=>?_⟩) w⟩
   exact (k.2.ext e1).newL r1 r2 hp
 | .bad,X,c,C,x,h=>by rintro pins s σ H Q I ⟨m,ρ,st,rf,rh,w⟩;exact False.elim w
 | .dct0,X,c,C,x,h=>by rintro pins s σ H Q I ⟨m,ρ,st,rf,rh,w⟩;exact False.elim w
 | .dct1 _ _,X,c,C,x,h=>by rintro pins s σ H Q I ⟨m,ρ,st,rf,rh,w⟩;exact False.elim w
 | .bin op a b,X,c,C,x,h=>by
  replace h:=zu h
  obtain ⟨l,o,r,p,rfl,h⟩:=h
  ·simp only [Bool.and_eq_true,beq_iff_eq] at h
   obtain ⟨⟨h1,h2⟩,h3⟩:=h
   subst h1
   rintro pins s σ H Q I ⟨m,ρ,st,rf,rh,w⟩
   skip
   exact HI (G_ _) (bn a C _ h2) (bn b C _ h3) pins s σ H Q I ⟨m,ρ,st,rf,rh,ab C.mono a (fun v st1 k m1 H1 x1 e1 r1 r2=>⟨m1,ρ,st1,rf.mono e1,r1,
    ab C.mono b (fun u st2 k2 m2 H2 y2 e2 r3 r4=>⟨m2,st2,v,u,r3,r2.mono e2,r4,qQ (fun _ _ q=>q.ext (e1.trans e2)) k2⟩) k⟩) w⟩
 | .neg a,X,c,C,x,h=>by
  replace h:=zH h
  obtain ⟨y,p,rfl,h⟩:=h
  ·rintro pins s σ H Q I ⟨m,ρ,st,rf,rh,w⟩
   skip
   refine I0 Gh (bn a C _ h) pins s σ H Q I ⟨m,ρ,st,rf,rh,ab C.mono a (fun v st1 k m1 H1 x1 e1 r1 r2=>?_) w⟩
   obtain ⟨i,rfl,k⟩:=k
   rw [R_int] at r2
   subst r2
   exact ⟨i,rfl,(k.ext e1).here r1 (R_int.mpr rfl)⟩
 | .not a,X,c,C,x,h=>by
  replace h:=qX h
  obtain ⟨y,p,rfl,h⟩:=h
  ·rintro pins s σ H Q I ⟨m,ρ,st,rf,rh,w⟩
   skip
   refine GI (bn a C _ h) pins s σ H Q I ⟨m,ρ,st,rf,rh,ab C.mono a (fun v st1 k m1 H1 x1 e1 r1 r2=>?_) w⟩
   obtain ⟨i,rfl,k⟩:=k
   rw [R_bl] at r2
   subst r2
   exact ⟨i,rfl,(k.ext e1).here r1 (R_bl.mpr rfl)⟩
 | .cmp op a b,X,c,C,x,h=>by
  replace h:=rK h
  obtain ⟨l,o,r,p,rfl,h⟩:=h
  ·simp only [Bool.and_eq_true,beq_iff_eq,Bool.not_eq_true',beq_eq_false_iff_ne] at h
   obtain ⟨⟨⟨h1,n1⟩,h2⟩,h3⟩:=h
   subst h1
   rintro pins s σ H Q I ⟨m,ρ,st,rf,rh,w⟩
   skip
   exact Eu (B8 C.room.units _) (bn a C _ h2) (bn b C _ h3) n1 pins s σ H Q I ⟨m,ρ,st,rf,rh,ab C.mono a (fun v st1 k m1 H1 x1 e1 r1 r2=>⟨m1,ρ,st1,rf.mono e1,r1,
    ab C.mono b (fun u st2 k2 m2 H2 y2 e2 r3 r4=>⟨m2,st2,v,u,r3,r2.mono e2,r4,i5 (fun _ _ q=>q.ext (e1.trans e2)) k2⟩) k⟩) w⟩
 | .bop true es,X,c,C,x,h=>by
  replace h:=jc h
  obtain ⟨o,xs,p,rfl,h⟩:=h
  ·simp only [Bool.and_eq_true,beq_iff_eq,Bool.not_eq_true'] at h
   obtain ⟨⟨h1,h2⟩,h3⟩:=h
   subst h1
   rintro pins s σ H Q I ⟨m,ρ,st,rf,rh,w⟩
   skip
   exact FB es C _ _ h2 h3 pins s σ H Q I ⟨m,ρ,st,rf,rh,w⟩
 | .bop false es,X,c,C,x,h=>by
  replace h:=jc h
  obtain ⟨o,xs,p,rfl,h⟩:=h
  ·simp only [Bool.and_eq_true,beq_iff_eq,Bool.not_eq_true'] at h
   obtain ⟨⟨h1,h2⟩,h3⟩:=h
   subst h1
   rintro pins s σ H Q I ⟨m,ρ,st,rf,rh,w⟩
   skip
   exact Fw es C _ _ h2 h3 pins s σ H Q I ⟨m,ρ,st,rf,rh,w⟩
 | .ite t a b,X,c,C,x,h=>by
  replace h:=zO h
  obtain ⟨y,l,r,p,rfl,h⟩:=h
  ·simp only [Bool.and_eq_true] at h
   obtain ⟨⟨h1,h2⟩,h3⟩:=h
   rintro pins s σ H Q I ⟨m,ρ,st,rf,rh,w⟩
   skip
   refine BJ (p9 t C _ h1) (bn a C _ h2) (bn b C _ h3) pins s σ H Q I ⟨m,ρ,st,rf,rh,aQ C.mono t (fun k st1 z m1 H1 e1 r1=>?_) w⟩
   cases k with
   | true=>rw [if_pos rfl] at z ⊢;exact ⟨m1,ρ,st1,rf.mono e1,r1,ab C.mono a (fun _ _ q=>q.ext e1) z⟩
   | false=>rw [if_neg Bool.false_ne_true] at z ⊢;exact ⟨m1,ρ,st1,rf.mono e1,r1,ab C.mono b (fun _ _ q=>q.ext e1) z⟩
 | .ix a b,X,c,C,x,h=>by
  replace h:=f_ h
  obtain ⟨l,r,p,rfl,h⟩:=h
  ·simp only [Bool.and_eq_true] at h
   obtain ⟨⟨h1,h2⟩,h3⟩:=h
   rintro pins s σ H Q I ⟨m,ρ,st,rf,rh,w⟩
   skip
   exact BR FL (bn a C _ h2) (bn b C _ h3) h1 pins s σ H Q I ⟨m,ρ,st,rf,rh,ab C.mono a (fun v st1 k m1 H1 x1 e1 r1 r2=>⟨m1,ρ,st1,rf.mono e1,r1,
    ab C.mono b (fun u st2 k2 m2 H2 y2 e2 r3 r4=>⟨m2,st2,v,u,r3,r2.mono e2,r4,kh (fun _ _ q=>q.ext (e1.trans e2)) k2⟩) k⟩) w⟩
 | .sl a lo hi,X,c,C,x,h=>by
  replace h:=f_ h
  obtain ⟨l,r,p,rfl,h⟩:=h
  replace h:=um h
  obtain ⟨u,v,p2,rfl,h⟩:=h
  ·simp only [Bool.and_eq_true] at h
   obtain ⟨⟨h1,h2⟩,h3⟩:=h
   rintro pins s σ H Q I ⟨m,ρ,st,rf,rh,w⟩
   skip
   exact BD ID (bn a C _ h1) (IR lo C _ h2) (IR hi C _ h3) pins s σ H Q I ⟨m,ρ,st,rf,rh,ab C.mono a (fun v st1 k m1 H1 x1 e1 r1 r2=>⟨m1,ρ,st1,rf.mono e1,r1,
    kN C.mono lo (fun l st2 k2 m2 H2 e2 r3=>⟨m2,ρ,st2,(rf.mono e1).mono e2,r3,kN C.mono hi (fun u st3 k3 m3 H3 e3 r4=>⟨m3,st3,v,r4,(r2.mono e2).mono e3,v6 (fun _ _ q=>q.ext ((e1.trans e2).trans e3)) k3⟩) k2⟩) k⟩) w⟩
 | .call f es,X,c,C,x,h=>by
  replace h:=bc h
  obtain ⟨g,xs,p,rfl,h⟩:=h
  replace h:=ak h
  obtain ⟨y,p2,rfl,h⟩:=h
  ·simp only [Bool.and_eq_true] at h
   obtain ⟨⟨h1,h2⟩,h3⟩:=h
   rintro pins s σ H Q I ⟨m,ρ,st,rf,rh,w⟩
   skip
   exact vm C h1 h2 h3 (mw es C _ h3) pins s σ H Q I ⟨m,ρ,st,rf,rh,w⟩
 | .blt b es,X,c,C,x,h=>by
  replace h:=bc h
  obtain ⟨g,xs,p,rfl,h⟩:=h
  replace h:=ak h
  obtain ⟨y,p2,rfl,h⟩:=h
  ·simp only [Bool.and_eq_true,beq_iff_eq,Bool.not_eq_true'] at h
   obtain ⟨⟨⟨⟨h1,h2⟩,h3⟩,h4⟩,h5⟩:=h
   rintro pins s σ H Q I ⟨m,ρ,st,rf,rh,w⟩
   skip
   exact tU C h1 h2 h3 h4 (mw es C _ h5) pins s σ H Q I ⟨m,ρ,st,rf,rh,w⟩
 | .inst a t,X,c,C,x,h=>by
  replace h:=bc h
  obtain ⟨g,xs,p,rfl,h⟩:=h
  replace h:=ak h
  obtain ⟨y,p2,rfl,h⟩:=h
  replace h:=gT h
  obtain ⟨l,r,rfl,h⟩:=h
  replace h:=ak h
  obtain ⟨z,p3,rfl,h⟩:=h
  ·rw [Bool.and_eq_true] at h
   exact yL C h.1 (bn a C _ h.2)
 | .met mm o es,X,c,C,x,h=>by
  replace h:=bc h
  obtain ⟨g,xs,p,rfl,h⟩:=h
  replace h:=xl h
  obtain ⟨y,n,p2,rfl,h⟩:=h
  ·simp only [Bool.and_eq_true,beq_iff_eq,decide_eq_true_eq] at h
   obtain ⟨⟨⟨⟨⟨⟨h1,h2⟩,h3⟩,h4⟩,h0⟩,h5⟩,h6⟩:=h
   exact Df C h1 (by rw [h2];simp) h3 h4 h0 (bn o C _ h5) (mw es C _ h6) h6
 | .comp elt tg it ifs nt caps,X,c,C,x,h=>by
  replace h:=j8 h
  obtain ⟨ex,gs,sc,pos,rfl,h⟩:=h
  replace h:=gY h
  obtain ⟨g,rfl,h⟩:=h
  obtain ⟨tx,ix,fx,ia⟩:=g
  dsimp only at h
  ·simp only [Bool.and_eq_true,beq_iff_eq] at h
   obtain ⟨⟨⟨⟨⟨⟨⟨⟨h1,h0⟩,h2⟩,h3⟩,h4⟩,h5⟩,h6⟩,h7⟩,h8⟩:=h
   subst h1
   obtain ⟨S,k1,k2,k3,k4⟩:=pX C h4
   have hC:∀s2 H2 fp A,COk (cxC X (nt++caps.filterMap (X.N[·]?)) s2 H2 fp sc A) (c.inner nt caps sc) Γ:=fun s2 H2 fp A=>BT C h4
   rintro pins s σ H Q I ⟨m,ρ,st,rf,rh,w⟩
   skip
   rw [eval_ListComp]
   refine rG (elt:=elt) (tg:=tg) (ifs:=ifs) (nt:=nt) (caps:=caps) (use:=none) (Fin:=fun D H'=>Q (.ref D) H') (wi:=TIx X.K (jk Γ it)) C.mono C.calm S rfl k1 k2 k3 h2 h3 (Dr it C ix h0 h5) (fun s2 H2 fp A=>rk tg (hC s2 H2 fp A) _ h6) (fun s2 H2 fp A=>xa ifs (hC s2 H2 fp A) _ h7) (fun s2 H2 fp A=>bn elt (hC s2 H2 fp A) _ h8) I ?_ ?_
   ·refine ⟨m,ρ,st,rf,rh,gu C.mono it (fun xs chk st1 z m1 H1 J e1 r1 W=>⟨m1,ρ,st1,xs,chk,rf.mono e1,r1,W,z.1,?_⟩) w⟩
    refine gZ (body:=fF Γ elt tg ifs (nt.map (fun _=>none)++caps.map fun i=>(ρ[i]?).join)) (fun _ _ _ _ hk q=>oS C.mono hk q) (fun vs st2 k m2 H2 D ys e2 r2 Dm hD0 hD ry=>?_) z.2
    have hD1:H D=none:=by
     cases q:H D with
     | none=>rfl
     | some o =>
      by_cases hm:D∈m
      ·exact absurd ((e1.trans e2).pre.subset hm) Dm
      ·exact absurd hD0 (e1.ne hm q)
    exact k _ _ _ ((e1.trans e2).addD hD1) (r2.addD Dm hD ry) (R.last r2.len)
   ·intro C' D H' s' m' I' ns fp F
    refine ⟨m',ns,fun h' hs'=>?_⟩
    exact ⟨.ref D,H',I'.turned (t':=s'.toks) (fun b o hb e=>hs'.extBut b o hb e) fp.1 fp.2.1 fp.2.2.2.1 fp.2.2.2.2.1 fp.2.2.2.2.2,rfl,F⟩
 | .tmp a,X,c,C,x,h=>by
  have h:aS c a x=true:=h
  rintro pins s σ H Q I ⟨m,ρ,st,rf,rh,w⟩
  skip
  refine bn a C x h pins s σ H Q I ⟨m,ρ,st,rf,rh,ab C.mono a (fun v st1 k m1 H1 x1 e1 r1 r2=>?_) w⟩
  obtain ⟨st2,q,e2,r3,r4⟩:=sG rh e1 r1 r2 k
  exact q m H1 x1 e2 r3 r4
 | .jrev _,X,c,C,x,h=>by rintro pins s σ H Q I ⟨m,ρ,st,rf,rh,w⟩;exact False.elim w
 | .pcall _ _,X,c,C,x,h=>by rintro pins s σ H Q I ⟨m,ρ,st,rf,rh,w⟩;exact False.elim w
 | .hm _ _ _,X,c,C,x,h=>by rintro pins s σ H Q I ⟨m,ρ,st,rf,rh,w⟩;exact False.elim w
 | .part _ _,X,c,C,x,h=>by rintro pins s σ H Q I ⟨m,ρ,st,rf,rh,w⟩;exact False.elim w
theorem mw:∀(es:Es) {X:Cx} {c:Cfg} (C:COk X c Γ) (xs:List Expr),fB c es xs=true→PA X xs (TAx X.K (dA Γ es))
 | .nil,X,c,C,xs,h=>by
  have h:xs.isEmpty=true:=h
  cases xs with
  | nil =>
   rintro pos pins s σ H Q I ⟨m,ρ,st,rf,rh,w⟩
   skip
   exact iG pos pins s σ H Q I (w m H [] (Ext.refl _ _ _) rh (Rs_nil.mpr rfl))
  | cons x xs=>cases h
 | .cons e es,X,c,C,xs,h=>by
  replace h:=aR h
  obtain ⟨y,ys,rfl,h⟩:=h
  ·simp only [Bool.and_eq_true] at h
   obtain ⟨⟨h1,h2⟩,h3⟩:=h
   rintro pos pins s σ H Q I ⟨m,ρ,st,rf,rh,w⟩
   skip
   exact pac (bn e C _ h2) (mw es C _ h3) h1 pos pins s σ H Q I ⟨m,ρ,st,rf,rh,ab C.mono e (fun v st1 k m1 H1 x1 e1 r1 r2=>⟨m1,ρ,st1,rf.mono e1,r1,
    aM C.mono es (fun us st2 k2 m2 H2 ys e2 r3 r4=>k2 m2 H2 _ (e1.trans e2) r3 (Rs_cons'.mpr ⟨r2.mono e2,r4⟩)) k⟩) w⟩
theorem IR:∀(o:O) {X:Cx} {c:Cfg} (C:COk X c Γ) (x:Option Expr),F0 c o x=true→PO X x (fun σ H Q=>∃m ρ st,RF X.K m H ρ σ∧RH X.K m H st∧wpO Γ o ρ st fun v st'=>∀m' H',Ext X.K m H m' H'→RH X.K m' H' st'→Q v H')
 | .no,X,c,C,x,h=>by
  have h:x.isNone=true:=h
  cases x with
  | none =>
   rintro pins s σ H Q I ⟨m,ρ,st,rf,rh,w⟩
   skip
   exact Fo pins s σ H Q I (w m H (Ext.refl _ _ _) rh)
  | some y=>cases h
 | .yes e,X,c,C,x,h=>by
  replace h:=jC h
  obtain ⟨y,rfl,h⟩:=h
  ·rintro pins s σ H Q I ⟨m,ρ,st,rf,rh,w⟩
   skip
   refine Ew (bn e C _ h) pins s σ H Q I ⟨m,ρ,st,rf,rh,ab C.mono e (fun v st1 k m1 H1 x1 e1 r1 r2=>?_) w⟩
   obtain ⟨i,rfl,k⟩:=k
   rw [R_int] at r2
   exact ⟨i,r2,k m1 H1 e1 r1⟩
theorem p9:∀(e:E) {X:Cx} {c:Cfg} (C:COk X c Γ) (x:Expr),Ay c e x=true→PT X x (TTx X.K (wpT Γ e))
 | .not a,X,c,C,x,h=>by
  replace h:=qX h
  obtain ⟨y,p,rfl,h⟩:=h
  ·rintro pins s σ H Q I ⟨m,ρ,st,rf,rh,w⟩
   skip
   exact Gq (p9 a C _ h) pins s σ H Q I ⟨m,ρ,st,rf,rh,aQ C.mono a (fun k st1 z m1 H1 e1 r1=>z m1 H1 e1 r1) w⟩
 | .bop true es,X,c,C,x,h=>by
  replace h:=jc h
  obtain ⟨o,xs,p,rfl,h⟩:=h
  ·simp only [Bool.and_eq_true,beq_iff_eq,Bool.not_eq_true'] at h
   obtain ⟨⟨h1,h2⟩,h3⟩:=h
   subst h1
   rintro pins s σ H Q I ⟨m,ρ,st,rf,rh,w⟩
   skip
   exact (FF es C _ _ h3 h2).pt pins s σ H Q I ⟨m,ρ,st,rf,rh,w⟩
 | .bop false es,X,c,C,x,h=>by
  replace h:=jc h
  obtain ⟨o,xs,p,rfl,h⟩:=h
  ·simp only [Bool.and_eq_true,beq_iff_eq,Bool.not_eq_true'] at h
   obtain ⟨⟨h1,h2⟩,h3⟩:=h
   subst h1
   rintro pins s σ H Q I ⟨m,ρ,st,rf,rh,w⟩
   skip
   exact (Fv es C _ _ h3 h2).pt pins s σ H Q I ⟨m,ρ,st,rf,rh,w⟩
 | .cmp op a b,X,c,C,x,h=>by
  replace h:=rK h
  obtain ⟨l,o,r,p,rfl,h⟩:=h
  ·simp only [Bool.and_eq_true,beq_iff_eq,Bool.not_eq_true',beq_eq_false_iff_ne] at h
   obtain ⟨⟨⟨h1,n1⟩,h2⟩,h3⟩:=h
   subst h1
   rintro pins s σ H Q I ⟨m,ρ,st,rf,rh,w⟩
   skip
   refine EY (B8 C.room.units _) (bn a C _ h2) (bn b C _ h3) n1 pins s σ H Q I ⟨m,ρ,st,rf,rh,ab C.mono a (fun v st1 k m1 H1 x1 e1 r1 r2=>⟨m1,ρ,st1,rf.mono e1,r1,
    ab C.mono b (fun u st2 k2 m2 H2 y2 e2 r3 r4=>⟨m2,st2,v,u,r3,r2.mono e2,r4,i5 (fun _ _ q=>?_) k2⟩) k⟩) w⟩
   obtain ⟨k,rfl,q⟩:=q
   intro m' H' y e3 r5 r6
   rw [R_bl] at r6
   exact ⟨k,r6,q m' H' ((e1.trans e2).trans e3) r5⟩
 | .var i,X,c,C,x,h=>by
  replace h:=ak h
  obtain ⟨y,p,rfl,h⟩:=h
  ·rintro pins s σ H Q I ⟨m,ρ,st,rf,rh,w⟩
   skip
   refine gr (Dq C h) (fun _=>rfl) pins s σ H Q I ⟨m,ρ,st,rf,rh,?_⟩
   skip
   obtain ⟨v,e,w⟩:=w
   exact ⟨v,e,fun m' H' y e1 r1 r2=>ve ⟨m',st,v,r1,r2,cu (fun _ _ q=>q.ext e1) w⟩⟩
 | .call f es,X,c,C,x,h=>by
  replace h:=bc h
  obtain ⟨g,xs,p,rfl,h⟩:=h
  replace h:=ak h
  obtain ⟨y,p2,rfl,h⟩:=h
  ·simp only [Bool.and_eq_true] at h
   obtain ⟨⟨h1,h2⟩,h3⟩:=h
   rintro pins s σ H Q I ⟨m,ρ,st,rf,rh,w⟩
   skip
   exact gr (vm C h1 h2 h3 (mw es C _ h3)) (fun _=>rfl) pins s σ H Q I ⟨m,ρ,st,rf,rh,aM C.mono es (fun vs st1 k=>C.mono _ _ _ _ _ (fun v st2 k2 m' H' y e1 r1 r2=>ve ⟨m',st2,v,r1,r2,cu (fun _ _ q=>q.ext e1) k2⟩) k) w⟩
 | .blt b es,X,c,C,x,h=>by
  replace h:=bc h
  obtain ⟨g,xs,p,rfl,h⟩:=h
  replace h:=ak h
  obtain ⟨y,p2,rfl,h⟩:=h
  ·simp only [Bool.and_eq_true,beq_iff_eq,Bool.not_eq_true'] at h
   obtain ⟨⟨⟨⟨h1,h2⟩,h3⟩,h4⟩,h5⟩:=h
   rintro pins s σ H Q I ⟨m,ρ,st,rf,rh,w⟩
   skip
   exact gr (tU C h1 h2 h3 h4 (mw es C _ h5)) (fun _=>rfl) pins s σ H Q I ⟨m,ρ,st,rf,rh,aM C.mono es (fun vs st1 k=>ja (fun v st2 k2 m' H' y e1 r1 r2=>ve ⟨m',st2,v,r1,r2,cu (fun _ _ q=>q.ext e1) k2⟩) k) w⟩
 | .inst a t,X,c,C,x,h=>by
  replace h:=bc h
  obtain ⟨g,xs,p,rfl,h⟩:=h
  replace h:=ak h
  obtain ⟨y,p2,rfl,h⟩:=h
  replace h:=gT h
  obtain ⟨l,r,rfl,h⟩:=h
  replace h:=ak h
  obtain ⟨z,p3,rfl,h⟩:=h
  ·rw [Bool.and_eq_true] at h
   rintro pins s σ H Q I ⟨m,ρ,st,rf,rh,w⟩
   skip
   refine gr (yL C h.1 (bn a C _ h.2)) (fun _=>rfl) pins s σ H Q I ⟨m,ρ,st,rf,rh,?_⟩
   skip
   refine ab C.mono a (fun v st1 k=>?_) w
   obtain ⟨n,e,k⟩:=k
   refine ⟨n,e,fun m' H' y e1 r1 r2=>?_⟩
   rw [R_bl] at r2
   subst r2
   exact ⟨_,rfl,k m' H' e1 r1⟩
 | .tmp a,X,c,C,x,h=>by
  have h:(xh x && aS c a x)=true:=h
  rw [Bool.and_eq_true] at h
  rintro pins s σ H Q I ⟨m,ρ,st,rf,rh,w⟩
  skip
  have q:=bn a C x h.2
  refine gr q (yg h.1 X.env) pins s σ H Q I ⟨m,ρ,st,rf,rh,ab C.mono a (fun v st1 k m1 H1 x1 e1 r1 r2=>?_) w⟩
  obtain ⟨st2,q,e2,r3,r4⟩:=sG rh e1 r1 r2 k
  exact ve ⟨m,st2,v,r3,r4,cu (fun _ _ q=>q.ext e2) q⟩
 | .ix a b,X,c,C,x,h=>by
  replace h:=f_ h
  obtain ⟨l,r,p,rfl,h⟩:=h
  ·simp only [Bool.and_eq_true] at h
   obtain ⟨⟨h1,h2⟩,h3⟩:=h
   rintro pins s σ H Q I ⟨m,ρ,st,rf,rh,w⟩
   skip
   refine gr (BR FL (bn a C _ h2) (bn b C _ h3) h1) (fun _=>rfl) pins s σ H Q I ⟨m,ρ,st,rf,rh,ab C.mono a (fun v st1 k m1 H1 x1 e1 r1 r2=>⟨m1,ρ,st1,rf.mono e1,r1,
    ab C.mono b (fun u st2 k2 m2 H2 y2 e2 r3 r4=>⟨m2,st2,v,u,r3,r2.mono e2,r4,kh (fun z st3 q m3 H3 y3 e3 r5 r6=>?_) k2⟩) k⟩) w⟩
   exact ve ⟨m3,st3,z,r5,r6,cu (fun _ _ q=>q.ext ((e1.trans e2).trans e3)) q⟩
 | .bl _,X,c,C,x,h=>by rintro pins s σ H Q I ⟨m,ρ,st,rf,rh,w⟩;exact False.elim w
 | .int _,X,c,C,x,h=>by rintro pins s σ H Q I ⟨m,ρ,st,rf,rh,w⟩;exact False.elim w
 | .non,X,c,C,x,h=>by rintro pins s σ H Q I ⟨m,ρ,st,rf,rh,w⟩;exact False.elim w
 | .str _,X,c,C,x,h=>by rintro pins s σ H Q I ⟨m,ρ,st,rf,rh,w⟩;exact False.elim w
 | .gv _ _,X,c,C,x,h=>by rintro pins s σ H Q I ⟨m,ρ,st,rf,rh,w⟩;exact False.elim w
 | .tup _,X,c,C,x,h=>by rintro pins s σ H Q I ⟨m,ρ,st,rf,rh,w⟩;exact False.elim w
 | .lst _,X,c,C,x,h=>by rintro pins s σ H Q I ⟨m,ρ,st,rf,rh,w⟩;exact False.elim w
 | .dct0,X,c,C,x,h=>by rintro pins s σ H Q I ⟨m,ρ,st,rf,rh,w⟩;exact False.elim w
 | .bad,X,c,C,x,h=>by rintro pins s σ H Q I ⟨m,ρ,st,rf,rh,w⟩;exact False.elim w
 | .dct1 _ _,X,c,C,x,h=>by rintro pins s σ H Q I ⟨m,ρ,st,rf,rh,w⟩;exact False.elim w
 | .bin _ _ _,X,c,C,x,h=>by rintro pins s σ H Q I ⟨m,ρ,st,rf,rh,w⟩;exact False.elim w
 | .neg _,X,c,C,x,h=>by rintro pins s σ H Q I ⟨m,ρ,st,rf,rh,w⟩;exact False.elim w
 | .ite _ _ _,X,c,C,x,h=>by rintro pins s σ H Q I ⟨m,ρ,st,rf,rh,w⟩;exact False.elim w
 | .sl _ _ _,X,c,C,x,h=>by rintro pins s σ H Q I ⟨m,ρ,st,rf,rh,w⟩;exact False.elim w
 | .met _ _ _,X,c,C,x,h=>by rintro pins s σ H Q I ⟨m,ρ,st,rf,rh,w⟩;exact False.elim w
 | .comp _ _ _ _ _ _,X,c,C,x,h=>by rintro pins s σ H Q I ⟨m,ρ,st,rf,rh,w⟩;exact False.elim w
 | .pcall _ _,X,c,C,x,h=>by rintro pins s σ H Q I ⟨m,ρ,st,rf,rh,w⟩;exact False.elim w
 | .hm _ _ _,X,c,C,x,h=>by rintro pins s σ H Q I ⟨m,ρ,st,rf,rh,w⟩;exact False.elim w
 | .jrev _,X,c,C,x,h=>by rintro pins s σ H Q I ⟨m,ρ,st,rf,rh,w⟩;exact False.elim w
 | .part _ _,X,c,C,x,h=>by rintro pins s σ H Q I ⟨m,ρ,st,rf,rh,w⟩;exact False.elim w
theorem FB:∀(es:Es) {X:Cx} {c:Cfg} (C:COk X c Γ) (xs:List Expr) (pos:Pos),fB c es xs=true→xs.isEmpty=false→PE X (.BoolOp .And xs pos) (TEx X.K (s_ Γ es))
 | .nil,X,c,C,xs,pos,h,hn=>by
  have h:xs.isEmpty=true:=h
  rw [h] at hn
  cases hn
 | .cons e .nil,X,c,C,xs,pos,h,hn=>by
  replace h:=aR h
  obtain ⟨y,ys,rfl,h⟩:=h
  ·simp only [Bool.and_eq_true] at h
   obtain ⟨⟨h1,h2⟩,h3⟩:=h
   have h3:ys.isEmpty=true:=h3
   cases ys with
   | nil =>
    rintro pins s σ H Q I ⟨m,ρ,st,rf,rh,w⟩
    skip
    exact BW (bn e C _ h2) pins s σ H Q I ⟨m,ρ,st,rf,rh,w⟩
   | cons _ _=>cases h3
 | .cons e (.cons e2 es),X,c,C,xs,pos,h,hn=>by
  replace h:=aR h
  obtain ⟨y,ys,rfl,h⟩:=h
  ·simp only [Bool.and_eq_true] at h
   obtain ⟨⟨h1,h2⟩,h3⟩:=h
   cases ys with
   | nil=>exact Bool.noConfusion (show false=true from h3)
   | cons y2 ys =>
    rintro pins s σ H Q I ⟨m,ρ,st,rf,rh,w⟩
    skip
    refine Gn (bn e C _ h2) (FB (.cons e2 es) C (y2::ys) pos h3 rfl) pins s σ H Q I ⟨m,ρ,st,rf,rh,ab C.mono e (fun v st1 k m1 H1 x1 e1 r1 r2=>?_) w⟩
    obtain ⟨b,rfl,k⟩:=k
    rw [R_bl] at r2
    subst r2
    refine ⟨b,rfl,?_⟩
    cases b with
    | true=>rw [if_pos rfl] at k ⊢;exact ⟨m1,ρ,st1,rf.mono e1,r1,lO C.mono _ (fun _ _ q=>q.ext e1) k⟩
    | false=>rw [if_neg Bool.false_ne_true] at k ⊢;exact (k.ext e1).here r1 (R_bl.mpr rfl)
theorem Fw:∀(es:Es) {X:Cx} {c:Cfg} (C:COk X c Γ) (xs:List Expr) (pos:Pos),fB c es xs=true→xs.isEmpty=false→PE X (.BoolOp .Or xs pos) (TEx X.K (sm Γ es))
 | .nil,X,c,C,xs,pos,h,hn=>by
  have h:xs.isEmpty=true:=h
  rw [h] at hn
  cases hn
 | .cons e .nil,X,c,C,xs,pos,h,hn=>by
  replace h:=aR h
  obtain ⟨y,ys,rfl,h⟩:=h
  ·simp only [Bool.and_eq_true] at h
   obtain ⟨⟨h1,h2⟩,h3⟩:=h
   have h3:ys.isEmpty=true:=h3
   cases ys with
   | nil =>
    rintro pins s σ H Q I ⟨m,ρ,st,rf,rh,w⟩
    skip
    exact BW (bn e C _ h2) pins s σ H Q I ⟨m,ρ,st,rf,rh,w⟩
   | cons _ _=>cases h3
 | .cons e (.cons e2 es),X,c,C,xs,pos,h,hn=>by
  replace h:=aR h
  obtain ⟨y,ys,rfl,h⟩:=h
  ·simp only [Bool.and_eq_true] at h
   obtain ⟨⟨h1,h2⟩,h3⟩:=h
   cases ys with
   | nil=>exact Bool.noConfusion (show false=true from h3)
   | cons y2 ys =>
    rintro pins s σ H Q I ⟨m,ρ,st,rf,rh,w⟩
    skip
    refine HE (bn e C _ h2) (Fw (.cons e2 es) C (y2::ys) pos h3 rfl) pins s σ H Q I ⟨m,ρ,st,rf,rh,ab C.mono e (fun v st1 k m1 H1 x1 e1 r1 r2=>?_) w⟩
    obtain ⟨b,rfl,k⟩:=k
    rw [R_bl] at r2
    subst r2
    refine ⟨b,rfl,?_⟩
    cases b with
    | true=>rw [if_pos rfl] at k ⊢;exact (k.ext e1).here r1 (R_bl.mpr rfl)
    | false=>rw [if_neg Bool.false_ne_true] at k ⊢;exact ⟨m1,ρ,st1,rf.mono e1,r1,lg C.mono _ (fun _ _ q=>q.ext e1) k⟩
theorem FF:∀(es:Es) {X:Cx} {c:Cfg} (C:COk X c Γ) (xs:List Expr) (pos:Pos),rA c es xs=true→xs.isEmpty=false→PW X (.BoolOp .And xs pos) (TTx X.K (iJ Γ es))
 | .nil,X,c,C,xs,pos,h,hn=>by
  have h:xs.isEmpty=true:=h
  rw [h] at hn
  cases hn
 | .cons e .nil,X,c,C,xs,pos,h,hn=>by
  replace h:=aR h
  obtain ⟨y,ys,rfl,h⟩:=h
  ·simp only [Bool.and_eq_true] at h
   obtain ⟨h2,h3⟩:=h
   have h3:ys.isEmpty=true:=h3
   cases ys with
   | nil =>
    rintro whole pins s σ H Q I ⟨m,ρ,st,rf,rh,w⟩
    skip
    exact Fq (p9 e C _ h2) whole pins s σ H Q I ⟨m,ρ,st,rf,rh,w⟩
   | cons _ _=>cases h3
 | .cons e (.cons e2 es),X,c,C,xs,pos,h,hn=>by
  replace h:=aR h
  obtain ⟨y,ys,rfl,h⟩:=h
  ·simp only [Bool.and_eq_true] at h
   obtain ⟨h2,h3⟩:=h
   cases ys with
   | nil=>exact Bool.noConfusion (show false=true from h3)
   | cons y2 ys =>
    rintro whole pins s σ H Q I ⟨m,ρ,st,rf,rh,w⟩
    skip
    refine GL (p9 e C _ h2) (FF (.cons e2 es) C (y2::ys) pos h3 rfl) whole pins s σ H Q I ⟨m,ρ,st,rf,rh,aQ C.mono e (fun b st1 k m1 H1 e1 r1=>?_) w⟩
    cases b with
    | true=>rw [if_pos rfl] at k ⊢;exact ⟨m1,ρ,st1,rf.mono e1,r1,cY C.mono _ (fun _ _ q=>q.ext e1) k⟩
    | false=>rw [if_neg Bool.false_ne_true] at k ⊢;exact k m1 H1 e1 r1
theorem Fv:∀(es:Es) {X:Cx} {c:Cfg} (C:COk X c Γ) (xs:List Expr) (pos:Pos),rA c es xs=true→xs.isEmpty=false→PW X (.BoolOp .Or xs pos) (TTx X.K (tJ Γ es))
 | .nil,X,c,C,xs,pos,h,hn=>by
  have h:xs.isEmpty=true:=h
  rw [h] at hn
  cases hn
 | .cons e .nil,X,c,C,xs,pos,h,hn=>by
  replace h:=aR h
  obtain ⟨y,ys,rfl,h⟩:=h
  ·simp only [Bool.and_eq_true] at h
   obtain ⟨h2,h3⟩:=h
   have h3:ys.isEmpty=true:=h3
   cases ys with
   | nil =>
    rintro whole pins s σ H Q I ⟨m,ρ,st,rf,rh,w⟩
    skip
    exact GE (p9 e C _ h2) whole pins s σ H Q I ⟨m,ρ,st,rf,rh,w⟩
   | cons _ _=>cases h3
 | .cons e (.cons e2 es),X,c,C,xs,pos,h,hn=>by
  replace h:=aR h
  obtain ⟨y,ys,rfl,h⟩:=h
  ·simp only [Bool.and_eq_true] at h
   obtain ⟨h2,h3⟩:=h
   cases ys with
   | nil=>exact Bool.noConfusion (show false=true from h3)
   | cons y2 ys =>
    rintro whole pins s σ H Q I ⟨m,ρ,st,rf,rh,w⟩
    skip
    refine IM (p9 e C _ h2) (Fv (.cons e2 es) C (y2::ys) pos h3 rfl) whole pins s σ H Q I ⟨m,ρ,st,rf,rh,aQ C.mono e (fun b st1 k m1 H1 e1 r1=>?_) w⟩
    cases b with
    | true=>rw [if_pos rfl] at k ⊢;exact k m1 H1 e1 r1
    | false=>rw [if_neg Bool.false_ne_true] at k ⊢;exact ⟨m1,ρ,st1,rf.mono e1,r1,lF C.mono _ (fun _ _ q=>q.ext e1) k⟩
theorem rk:∀(t:Tg) {X:Cx} {c:Cfg} (C:COk X c Γ) (x:Expr),rq c t x=true→PG X x (TGx X.K (dP Γ t))
 | .name i,X,c,C,x,h=>by
  replace h:=ak h
  obtain ⟨y,p,rfl,h⟩:=h
  ·simp only [Bool.and_eq_true,beq_iff_eq] at h
   obtain ⟨h1,h2⟩:=C.locx h.2
   rintro pins s σ H v u Q I r ⟨m,ρ,st,p,rf,rh,hr,w⟩
   skip
   exact D7 C.ndX (by rw [C.N];exact h.1) h1 h2 pins s σ H v u Q I r (w.here rh (rf.set i hr))
 | .tup ts,X,c,C,x,h=>by
  replace h:=bH h
  obtain ⟨xs,k,p,rfl,h⟩:=h
  ·rintro pins s σ H v u Q I r ⟨m,ρ,st,p,rf,rh,hr,w⟩
   skip
   obtain ⟨vs,rfl,hl,w⟩:=w
   rw [R_tup] at hr
   obtain ⟨a,ys,rfl,g,r2⟩:=hr
   obtain ⟨l1,l2⟩:=jV (env:=X.env) h
   refine Hw C.calm (xO ts C _ h) l1 l2 pins s σ H _ u Q I r ⟨a,ys,rfl,g,?_,m,ρ,st,vs,rf,rh,r2,w⟩
   rw [←r2.len]
   exact hl
 | .ltup ts,X,c,C,x,h=>by
  replace h:=bH h
  obtain ⟨xs,k,p,rfl,h⟩:=h
  ·rintro pins s σ H v u Q I r ⟨m,ρ,st,p,rf,rh,hr,w⟩
   skip
   obtain ⟨vs,hvs,hl,w⟩:=w
   obtain ⟨a,ys,rfl,g,r2⟩:=eX rh hr hvs
   obtain ⟨l1,l2⟩:=jV (env:=X.env) h
   refine El C.calm (xO ts C _ h) l1 l2 pins s σ H _ u Q I r ⟨a,ys,rfl,g,?_,m,ρ,st,vs,rf,rh,r2,w⟩
   rw [←r2.len]
   exact hl
 | .sub o i,X,c,C,x,h=>by
  replace h:=f_ h
  obtain ⟨l,rr,pos,rfl,h⟩:=h
  ·simp only [Bool.and_eq_true] at h
   obtain ⟨⟨h1,h2⟩,h3⟩:=h
   rintro pins s σ H v u Q I r ⟨m,ρ,st,p,rf,rh,hr,w⟩
   skip
   refine Ho (bn o C _ h2) (bn i C _ h3) Hk (by cases rr <;> first|(intro _;rfl)|cases h1) pins s σ H v u Q I r ⟨m,ρ,st,rf,rh,ab C.mono o (fun a st1 k m1 H1 x1 e1 r1 r2=>⟨m1,ρ,st1,rf.mono e1,r1,
    ab C.mono i (fun b st2 k2 m2 H2 y2 e2 r3 r4=>⟨m2,st2,a,b,p,r3,r2.mono e2,r4,(hr.mono e1).mono e2,qR (fun st3 q H3 e3 r5=>?_) k2⟩) k⟩) w⟩
   exact q m2 H3 σ ((e1.trans e2).trans e3) r5 (((rf.mono e1).mono e2).mono e3)
theorem xO:∀(ts:Tgs) {X:Cx} {c:Cfg} (C:COk X c Γ) (xs:List Expr),nQ c ts xs=true→PGs X xs (JJ X.K (gm Γ ts))
 | .nil,X,c,C,xs,h=>by
  have h:xs.isEmpty=true:=h
  cases xs with
  | nil =>
   rintro pins s σ H v u Q I r ⟨m,ρ,st,p,rf,rh,hr,w⟩
   skip
   obtain ⟨rfl,w⟩:=w
   rw [Rs_nil] at hr
   exact EQ pins s σ H v u Q I r ⟨hr,w.here rh rf⟩
  | cons _ _=>cases h
 | .cons t ts,X,c,C,xs,h=>by
  replace h:=aR h
  obtain ⟨y,ys,rfl,h⟩:=h
  ·simp only [Bool.and_eq_true] at h
   obtain ⟨⟨h1,h2⟩,h3⟩:=h
   rintro pins s σ H v u Q I r ⟨m,ρ,st,p,rf,rh,hr,w⟩
   skip
   obtain ⟨x,q,rfl,w⟩:=w
   rw [bj] at hr
   obtain ⟨y,ys,rfl,g1,g2⟩:=hr
   refine CL (rk t C _ h2) (xO ts C _ h3) (by rw [jx h1];rfl) pins s σ H _ u Q I r ⟨y,ys,rfl,m,ρ,st,x,rf,rh,g1,bv C.mono t (fun ρ1 st1 k m1 H1 σ1 e1 r1 r2=>?_) w⟩
   exact ⟨m1,ρ1,st1,q,r2,r1,g2.mono e1,fo C.mono ts (fun _ _ q=>q.ext e1) k⟩
theorem Dr:∀(it:It) {X:Cx} {c:Cfg} (C:COk X c Γ) {tg:Expr} (x:Expr),AY it tg=true→Ci c it x=true→PI X tg x (TIx X.K (jk Γ it))
 | .seq e,X,c,C,tg,x,_,h=>by
  have h:(oJ x && aS c e x)=true:=h
  rw [Bool.and_eq_true] at h
  rintro pins s σ H Rr I ⟨m,ρ,st,rf,rh,w⟩
  skip
  refine Gd (bn e C x h.2) pins s σ H Rr I ⟨m,ρ,st,rf,rh,ab C.mono e (fun v st1 k m1 H1 x1 e1 r1 r2=>?_) w⟩
  obtain ⟨xs,es,k⟩:=k
  cases v with
  | tup ys =>
   cases es
   rw [R_tup] at r2
   obtain ⟨a,zs,rfl,g,r3⟩:=r2
   exact ⟨a,rfl,.inr ⟨⟨zs,g⟩,k m1 H1 _ e1 r1 (Bz g r3)⟩⟩
  | rdl ys =>
   cases es
   rw [fC] at r2
   obtain ⟨a,zs,rfl,g,r3⟩:=r2
   exact ⟨a,rfl,.inl ⟨⟨zs,g.sq⟩,k m1 H1 _ e1 r1 (CF g r3)⟩⟩
  | ref n =>
   unfold bi bV at es
   simp only at es
   split at es
   ·cases es
    rename_i q
    obtain ⟨a,zs,rfl,ea,g,r3⟩:=r1.lst q r2
    exact ⟨a,rfl,.inl ⟨⟨zs,SqL.of g⟩,k m1 H1 _ e1 r1 (As r1 q ea)⟩⟩
   ·cases es
  | _=>cases es
 | .range1 a,X,c,C,tg,x,_,h=>by
  replace h:=bc h
  obtain ⟨g,xs,p,rfl,h⟩:=h
  replace h:=ak h
  obtain ⟨y,p2,rfl,h⟩:=h
  replace h:=gY h
  obtain ⟨l,rfl,h⟩:=h
  ·simp only [Bool.and_eq_true,beq_iff_eq] at h
   obtain ⟨⟨⟨h1,h2⟩,h3⟩,h4⟩:=h
   subst h1
   obtain ⟨g1,g2,g3,g4⟩:=C.bltx h2
   rintro pins s σ H Rr I ⟨m,ρ,st,rf,rh,w⟩
   skip
   have hA:PA X [_] (gj (TEx X.K (wpE Γ a)) sN):=pac (bn a C _ h4) iG h3
   refine zG g1 g4 hA (aX h3) pins s σ H Rr I ⟨m,ρ,st,rf,rh,ab C.mono a (fun v st1 k m1 H1 x1 e1 r1 r2=>?_) w⟩
   obtain ⟨j,rfl,k1,k2,k⟩:=k
   rw [R_int] at r2
   subst r2
   exact ⟨j,rfl,k1,k2,k m1 H1 _ e1 r1 oE⟩
 | .range2 a b,X,c,C,tg,x,_,h=>by
  replace h:=bc h
  obtain ⟨g,xs,p,rfl,h⟩:=h
  replace h:=ak h
  obtain ⟨y,p2,rfl,h⟩:=h
  replace h:=gT h
  obtain ⟨l,r,rfl,h⟩:=h
  ·simp only [Bool.and_eq_true,beq_iff_eq] at h
   obtain ⟨⟨⟨⟨⟨h1,h2⟩,h3⟩,h3'⟩,h4⟩,h5⟩:=h
   subst h1
   obtain ⟨g1,g2,g3,g4⟩:=C.bltx h2
   rintro pins s σ H Rr I ⟨m,ρ,st,rf,rh,w⟩
   skip
   have hA:PA X [_,_] (gj (TEx X.K (wpE Γ a)) (gj (TEx X.K (wpE Γ b)) sN)):=pac (bn a C _ h4) (pac (bn b C _ h5) iG h3') h3
   refine Ac g1 g4 hA (by rw [aX h3,aX h3'];rfl) (aX h3') pins s σ H Rr I ⟨m,ρ,st,rf,rh,ab C.mono a (fun v st1 k m1 H1 x1 e1 r1 r2=>⟨m1,ρ,st1,rf.mono e1,r1,
    ab C.mono b (fun u st2 k2 m2 H2 y2 e2 r3 r4=>?_) k⟩) w⟩
   obtain ⟨i,j,rfl,rfl,k1,k⟩:=k2
   rw [R_int] at r2 r4
   subst r2 r4
   exact ⟨i,j,rfl,k1,k m2 H2 _ (e1.trans e2) r3 oE⟩
 | .zip a b,X,c,C,tg,x,ht,h=>by
  replace h:=bc h
  obtain ⟨g,xs,p,rfl,h⟩:=h
  replace h:=ak h
  obtain ⟨y,p2,rfl,h⟩:=h
  replace h:=gT h
  obtain ⟨l,r,rfl,h⟩:=h
  ·simp only [Bool.and_eq_true,beq_iff_eq] at h
   obtain ⟨⟨⟨⟨⟨h1,h2⟩,h3⟩,h3'⟩,h4⟩,h5⟩:=h
   subst h1
   obtain ⟨g1,g2,g3,g4⟩:=C.bltx h2
   cases tg with
   | Tuple elts kt pt =>
    rintro pins s σ H Rr I ⟨m,ρ,st,rf,rh,w⟩
    skip
    have hA:PA X [_,_] (gj (TEx X.K (wpE Γ a)) (gj (TEx X.K (wpE Γ b)) sN)):=pac (bn a C _ h4) (pac (bn b C _ h5) iG h3') h3
    refine Gi g1 g4 hA (by rw [aX h3,aX h3'];rfl) (aX h3') pins s σ H Rr I ⟨m,ρ,st,rf,rh,ab C.mono a (fun v st1 k m1 H1 x1 e1 r1 r2=>⟨m1,ρ,st1,rf.mono e1,r1,
     ab C.mono b (fun u st2 k2 m2 H2 y2 e2 r3 r4=>?_) k⟩) w⟩
    obtain ⟨xs,ys,q1,q2,k⟩:=k2
    obtain ⟨a1,rfl,w1,s1⟩:=uP r3 (r2.mono e2) q1
    obtain ⟨a2,rfl,w2,s2⟩:=uP r3 r4 q2
    refine ⟨a1,a2,rfl,fun e he=>?_,k m2 H2 _ (e1.trans e2) r3 (Be w1 w2)⟩
    simp only [List.mem_cons,List.not_mem_nil,or_false] at he
    rcases he with rfl|rfl
    ·exact s1
    ·exact s2
   | _=>cases ht
 | .zip3 a b d,X,c,C,tg,x,ht,h=>by
  replace h:=bc h
  obtain ⟨g,xs,p,rfl,h⟩:=h
  replace h:=ak h
  obtain ⟨y,p2,rfl,h⟩:=h
  replace h:=Ev h
  obtain ⟨l,r,u,rfl,h⟩:=h
  ·simp only [Bool.and_eq_true,beq_iff_eq] at h
   obtain ⟨⟨⟨⟨⟨⟨⟨h1,h2⟩,h3⟩,h3'⟩,h3''⟩,h4⟩,h5⟩,h6⟩:=h
   subst h1
   obtain ⟨g1,g2,g3,g4⟩:=C.bltx h2
   cases tg with
   | Tuple elts kt pt =>
    rintro pins s σ H Rr I ⟨m,ρ,st,rf,rh,w⟩
    have hA:PA X [_,_,_] (gj (TEx X.K (wpE Γ a)) (gj (TEx X.K (wpE Γ b)) (gj (TEx X.K (wpE Γ d)) sN))):=pac (bn a C _ h4) (pac (bn b C _ h5) (pac (bn d C _ h6) iG h3'') h3') h3
    refine D_ g1 g4 hA (by rw [aX h3,aX h3',aX h3''];rfl) (by rw [aX h3',aX h3''];rfl) pins s σ H Rr I ⟨m,ρ,st,rf,rh,ab C.mono a (fun v st1 k m1 H1 x1 e1 r1 r2=>⟨m1,ρ,st1,rf.mono e1,r1,
     ab C.mono b (fun u st2 k2 m2 H2 y2 e2 r3 r4=>⟨m2,ρ,st2,(rf.mono e1).mono e2,r3,ab C.mono d (fun w st3 k3 m3 H3 y3 e3 r5 r6=>?_) k2⟩) k⟩) w⟩
    obtain ⟨xs,ys,zs,q1,q2,q3,k⟩:=k3
    obtain ⟨a1,rfl,w1,s1⟩:=uP r5 ((r2.mono e2).mono e3) q1
    obtain ⟨a2,rfl,w2,s2⟩:=uP r5 (r4.mono e3) q2
    obtain ⟨a3,rfl,w3,s3⟩:=uP r5 r6 q3
    refine ⟨a1,a2,a3,rfl,fun e he=>?_,k m3 H3 _ ((e1.trans e2).trans e3) r5 (Ao w1 w2 w3)⟩
    simp only [List.mem_cons,List.not_mem_nil,or_false] at he
    rcases he with rfl|rfl|rfl
    ·exact s1
    ·exact s2
    ·exact s3
   | _=>cases ht
 | .enum a,X,c,C,tg,x,ht,h=>by
  replace h:=bc h
  obtain ⟨g,xs,p,rfl,h⟩:=h
  replace h:=ak h
  obtain ⟨y,p2,rfl,h⟩:=h
  replace h:=gY h
  obtain ⟨l,rfl,h⟩:=h
  ·simp only [Bool.and_eq_true,beq_iff_eq] at h
   obtain ⟨⟨⟨h1,h2⟩,h3⟩,h4⟩:=h
   subst h1
   obtain ⟨g1,g2,g3,g4⟩:=C.bltx h2
   cases tg with
   | Tuple elts kt pt =>
    rintro pins s σ H Rr I ⟨m,ρ,st,rf,rh,w⟩
    skip
    have hA:PA X [_] (gj (TEx X.K (wpE Γ a)) sN):=pac (bn a C _ h4) iG h3
    refine E3 g1 g4 hA (aX h3) pins s σ H Rr I ⟨m,ρ,st,rf,rh,ab C.mono a (fun v st1 k m1 H1 x1 e1 r1 r2=>?_) w⟩
    obtain ⟨xs,rfl,k⟩:=k
    rw [R_tup] at r2
    obtain ⟨a1,zs,rfl,g,r3⟩:=r2
    exact ⟨a1,rfl,⟨zs,g⟩,k m1 H1 _ e1 r1 (AL g r3)⟩
   | _=>cases ht
 | .chars _,X,c,C,tg,x,_,h=>by rintro pins s σ H Rr I ⟨m,ρ,st,rf,rh,w⟩;exact False.elim w
 | .range3 _ _ _,X,c,C,tg,x,_,h=>by rintro pins s σ H Rr I ⟨m,ρ,st,rf,rh,w⟩;exact False.elim w
theorem xa:∀(es:Es) {X:Cx} {c:Cfg} (C:COk X c Γ) (xs:List Expr),rA c es xs=true→PTs X xs (TTx X.K (iJ Γ es))
 | .nil,X,c,C,xs,h=>by
  have h:xs.isEmpty=true:=h
  cases xs with
  | nil =>
   rintro pins s σ H Q I ⟨m,ρ,st,rf,rh,w⟩
   skip
   exact yS pins s σ H Q I (w m H (Ext.refl _ _ _) rh)
  | cons _ _=>cases h
 | .cons e .nil,X,c,C,xs,h=>by
  replace h:=aR h
  obtain ⟨y,ys,rfl,h⟩:=h
  ·simp only [Bool.and_eq_true] at h
   obtain ⟨h2,h3⟩:=h
   have h3:ys.isEmpty=true:=h3
   cases ys with
   | nil =>
    rintro pins s σ H Q I ⟨m,ρ,st,rf,rh,w⟩
    skip
    refine vV (p9 e C _ h2) yS pins s σ H Q I ⟨m,ρ,st,rf,rh,aQ C.mono e (fun b st1 k m1 H1 e1 r1=>?_) w⟩
    cases b with
    | true=>rw [if_pos rfl];exact k m1 H1 e1 r1
    | false=>rw [if_neg Bool.false_ne_true];exact k m1 H1 e1 r1
   | cons _ _=>cases h3
 | .cons e (.cons e2 es),X,c,C,xs,h=>by
  replace h:=aR h
  obtain ⟨y,ys,rfl,h⟩:=h
  ·simp only [Bool.and_eq_true] at h
   obtain ⟨h2,h3⟩:=h
   rintro pins s σ H Q I ⟨m,ρ,st,rf,rh,w⟩
   skip
   refine vV (p9 e C _ h2) (xa (.cons e2 es) C _ h3) pins s σ H Q I ⟨m,ρ,st,rf,rh,aQ C.mono e (fun b st1 k m1 H1 e1 r1=>?_) w⟩
   cases b with
   | true=>rw [if_pos rfl] at k ⊢;exact ⟨m1,ρ,st1,rf.mono e1,r1,cY C.mono _ (fun _ _ q=>q.ext e1) k⟩
   | false=>rw [if_neg Bool.false_ne_true] at k ⊢;exact k m1 H1 e1 r1
end
end
end FW
set_option Elab.async false
set_option linter.all false
set_option maxRecDepth 100000
set_option maxHeartbeats 1000000
namespace FW
open PySem PySem.Spec PyProof.Rows L2 HX
section
variable {X:Cx} {c:Cfg} {Γ:Nat→FSp} {tg:Expr}
noncomputable def AE (K:PySem.W.Frag) (m:List Addr) (H:Hp) (D:L2.Ends):aV:={ nx:=postF K m H D.nx,rt:=post K m H D.rt,bk:=postF K m H D.bk,ct:=postF K m H D.ct }
noncomputable def TSx (K:PySem.W.Frag) (w:Fr→AH→aV→Prop):TS:=fun D σ H=>∃m ρ st,RF K m H ρ σ∧RH K m H st∧w ρ st (AE K m H D)
theorem AE.ext {K:PySem.W.Frag} {m m1:List Addr} {H H1:Hp} {D:L2.Ends} (x:Ext K m H m1 H1):kX (AE K m H D) (AE K m1 H1 D) :=
 ⟨fun _ _ q=>q.ext x,fun _ _ q=>q.ext x,fun _ _ q=>q.ext x,fun _ _ q=>q.ext x⟩
theorem EC (G:b8 Γ) {t:Tg} {it:It} {b:Ss} {D:L2.Ends} {σ:L2.St} {H:Hp} (h:TSx X.K (wpS Γ (.forS t it b)) D σ H):IL (TIx X.K (jk Γ it)) (TGx X.K (dP Γ t)) (TSx X.K (au Γ b)) D σ H:=by
 obtain ⟨m,ρ,st,rf,rh,w⟩:=h
 skip
 refine ⟨m,ρ,st,rf,rh,gu G it (fun xs chk st1 k m1 H1 J e1 r1 W=>?_) w⟩
 refine ⟨fun i n σ' H'=>n+i=xs.length∧∃m' ρ' st',Ext X.K m1 H1 m' H'∧RH X.K m' H' st'∧RF X.K m' H' ρ' σ'∧si chk (fun x ρ' st' D'=>dP Γ t x ρ' st' fun ρ2 st2=>au Γ b ρ2 st2 D') (AE X.K m H D) (xs.drop i) ρ' st',
  ⟨xs.length,rfl,m1,ρ,st1,Ext.refl _ _ _,r1,rf.mono e1,by simpa using k⟩,?_⟩
 rintro i n σ' H' ⟨hn,m',ρ',st',x',rh',rf',k'⟩
 cases q:xs.drop i with
 | nil =>
  rw [q] at k'
  have hi:i=xs.length:=by
   have:=congrArg List.length q
   simp at this
   omega
  subst hi
  exact .inl ⟨W.stop m' H' st' x' rh' k'.1,k'.2 m' H' σ' (e1.trans x') rh' rf'⟩
 | cons v rest =>
  rw [q] at k'
  have hi:i<xs.length:=by
   have:=congrArg List.length q
   simp at this
   omega
  have ev:xs[i]?=some v:=by
   have:=congrArg List.head? q
   rw [List.head?_drop] at this
   exact this
  have er:rest=xs.drop (i+1):=by
   have:=congrArg List.tail q
   rw [List.tail_drop] at this
   exact this.symm
  subst er
  obtain ⟨kc,k'⟩:=k'
  obtain ⟨go,yl⟩:=W.item i v m' H' st' x' rh' kc ev
  refine .inr ⟨go,fun σ'' H''=>(n-1+(i+1)=xs.length∧∃m' ρ' st',Ext X.K m1 H1 m' H''∧RH X.K m' H'' st'∧RF X.K m' H'' ρ' σ''∧si chk (fun x ρ' st' D'=>dP Γ t x ρ' st' fun ρ2 st2=>au Γ b ρ2 st2 D') (AE X.K m H D) (xs.drop (i+1)) ρ' st'),fun σ'' H'' z=>⟨n-1,by omega,z⟩,fun y H2 hy=>?_⟩
  obtain ⟨x2,r2,rv⟩:=yl y H2 hy
  refine ⟨m',ρ',st',v,rf'.mono x2,r2,rv,bv G t (fun ρ3 st3 k3 m3 H3 σ3 x3 r3 f3=>?_) k'⟩
  refine ⟨m3,ρ3,st3,f3,r3,a_ G b ?_ k3⟩
  have xx:Ext X.K m H m3 H3:=((e1.trans x').trans x2).trans x3
  refine ⟨fun ρ4 st4 k4 m4 H4 σ4 x4 r4 f4=>⟨by omega,m4,ρ4,st4,((x'.trans x2).trans x3).trans x4,r4,f4,k4⟩,fun v4 st4 k4=>k4.ext xx,fun ρ4 st4 k4=>k4.ext xx,fun ρ4 st4 k4 m4 H4 σ4 x4 r4 f4=>⟨by omega,m4,ρ4,st4,((x'.trans x2).trans x3).trans x4,r4,f4,k4⟩⟩
theorem zJ (G:b8 Γ) {cd:E} {b:Ss} {D:L2.Ends} {σ:L2.St} {H:Hp} (h:TSx X.K (wpS Γ (.whileS cd b)) D σ H):DG (TTx X.K (wpT Γ cd)) (TSx X.K (au Γ b)) D σ H:=by
 obtain ⟨m,ρ,st,rf,rh,w⟩:=h
 skip
 obtain ⟨n0,w⟩:=w
 refine ⟨fun n σ' H'=>∃m' ρ' st',Ext X.K m H m' H'∧RH X.K m' H' st'∧RF X.K m' H' ρ' σ'∧fq (wpT Γ cd) (au Γ b) (AE X.K m H D) n ρ' st',⟨n0,m,ρ,st,Ext.refl _ _ _,rh,rf,w⟩,?_⟩
 rintro n σ' H' ⟨m',ρ',st',x',rh',rf',k'⟩
 cases n with
 | zero=>exact k'.elim
 | succ n =>
  refine ⟨m',ρ',st',rf',rh',aQ G cd (fun b st1 k m1 H1 x1 r1=>?_) k'⟩
  cases b with
  | false=>rw [if_neg Bool.false_ne_true] at k ⊢;exact k m1 H1 σ' (x'.trans x1) r1 (rf'.mono x1)
  | true =>
   rw [if_pos rfl] at k ⊢
   refine ⟨fun σ'' H''=>∃m' ρ' st',Ext X.K m H m' H''∧RH X.K m' H'' st'∧RF X.K m' H'' ρ' σ''∧fq (wpT Γ cd) (au Γ b) (AE X.K m H D) n ρ' st',fun σ'' H'' z=>⟨n,Nat.lt_succ_self _,z⟩,m1,ρ',st1,rf'.mono x1,r1,a_ G _ ?_ k⟩
   have xx:=x'.trans x1
   exact ⟨fun ρ4 st4 k4 m4 H4 σ4 x4 r4 f4=>⟨m4,ρ4,st4,xx.trans x4,r4,f4,k4⟩,fun v4 st4 k4=>k4.ext xx,fun ρ4 st4 k4=>k4.ext xx,fun ρ4 st4 k4 m4 H4 σ4 x4 r4 f4=>⟨m4,ρ4,st4,xx.trans x4,r4,f4,k4⟩⟩
end
end FW
set_option Elab.async false
set_option linter.all false
set_option maxRecDepth 100000
set_option maxHeartbeats 1000000
namespace FW
open PySem PySem.Spec PyProof.Rows L2 HX
noncomputable def pv:Expr→Bool
 | .Name ..=>true
 | _=>false
noncomputable def AW:Expr→Expr→Bool
 | .Tuple ts _ _,.Tuple _ _ _=>ts.any fun t=>!pv t
 | .Tuple ..,_=>true
 | .Subscript ..,_=>true
 | _,_=>false
noncomputable def Bo (y:Str) (sc:Scope):Bool:=sc.names.any fun x=>match x with|(n,k)=>n == y && (k == .local || k == .cell)
noncomputable def yc (x:Stmt) (f:List Expr→Expr→Bool):Bool:=match x with | .Assign ts v _=>f ts v|_=>false
theorem oD {x:Stmt} {f:List Expr→Expr→Bool} (h:yc x f=true):∃ts v p,x=.Assign ts v p∧f ts v=true:=by
 cases x with|Assign ts v p=>exact ⟨ts,v,p,rfl,h⟩|_=>exact Bool.noConfusion h
noncomputable def B4 (x:Stmt) (f:Expr→Expr→Bool):Bool:=yc x fun ts v=>on1 ts fun t=>f t v
theorem q9 {x:Stmt} {f:Expr→Expr→Bool} (h:B4 x f=true):∃t v p,x=.Assign [t] v p∧f t v=true:=by
 replace h:=oD h
 obtain ⟨ts,v,p,rfl,h⟩:=h
 replace h:=gY h
 obtain ⟨t,rfl,h⟩:=h
 exact ⟨t,v,p,rfl,h⟩
noncomputable def Fx (x:Stmt) (f:Expr→Operator→Expr→Bool):Bool:=match x with | .AugAssign t o v _=>f t o v|_=>false
theorem zC {x:Stmt} {f:Expr→Operator→Expr→Bool} (h:Fx x f=true):∃t o v p,x=.AugAssign t o v p∧f t o v=true:=by
 cases x with|AugAssign t o v p=>exact ⟨t,o,v,p,rfl,h⟩|_=>exact Bool.noConfusion h
noncomputable def Ic (x:Stmt) (f:Expr→Bool):Bool:=match x with | .Expr v _=>f v|_=>false
theorem A9 {x:Stmt} {f:Expr→Bool} (h:Ic x f=true):∃v p,x=.Expr v p∧f v=true:=by
 cases x with|Expr v p=>exact ⟨v,p,rfl,h⟩|_=>exact Bool.noConfusion h
noncomputable def Dj (x:Stmt) (f:Option Expr→Bool):Bool:=match x with | .Return v _=>f v|_=>false
theorem rl {x:Stmt} {f:Option Expr→Bool} (h:Dj x f=true):∃v p,x=.Return v p∧f v=true:=by
 cases x with|Return v p=>exact ⟨v,p,rfl,h⟩|_=>exact Bool.noConfusion h
noncomputable def HF (x:Stmt) (f:Expr→List Stmt→List Stmt→Bool):Bool:=match x with | .If v a b _=>f v a b|_=>false
theorem BC {x:Stmt} {f:Expr→List Stmt→List Stmt→Bool} (h:HF x f=true):∃v a b p,x=.If v a b p∧f v a b=true:=by
 cases x with|If v a b p=>exact ⟨v,a,b,p,rfl,h⟩|_=>exact Bool.noConfusion h
noncomputable def yU (x:Stmt) (f:Expr→List Stmt→Bool):Bool:=match x with | .While v a [] _=>f v a|_=>false
theorem v_ {x:Stmt} {f:Expr→List Stmt→Bool} (h:yU x f=true):∃v a p,x=.While v a [] p∧f v a=true:=by
 cases x with
 | While v a b p=>cases b with|nil=>exact ⟨v,a,p,rfl,h⟩|cons _ _=>exact Bool.noConfusion h
 | _=>exact Bool.noConfusion h
noncomputable def Fs (x:Stmt) (f:Expr→Expr→List Stmt→Bool):Bool:=match x with | .For t v a [] _=>f t v a|_=>false
theorem zm {x:Stmt} {f:Expr→Expr→List Stmt→Bool} (h:Fs x f=true):∃t v a p,x=.For t v a [] p∧f t v a=true:=by
 cases x with
 | For t v a b p=>cases b with|nil=>exact ⟨t,v,a,p,rfl,h⟩|cons _ _=>exact Bool.noConfusion h
 | _=>exact Bool.noConfusion h
noncomputable def CS (x:Stmt):Bool:=match x with | .Pass _=>true|_=>false
theorem xb {x:Stmt} (h:CS x=true):∃p,x=.Pass p:=by
 cases x with|Pass p=>exact ⟨p,rfl⟩|_=>exact Bool.noConfusion h
noncomputable def FJ (x:Stmt):Bool:=match x with | .Break _=>true|_=>false
theorem zV {x:Stmt} (h:FJ x=true):∃p,x=.Break p:=by
 cases x with|Break p=>exact ⟨p,rfl⟩|_=>exact Bool.noConfusion h
noncomputable def CG (x:Stmt):Bool:=match x with | .Continue _=>true|_=>false
theorem xP {x:Stmt} (h:CG x=true):∃p,x=.Continue p:=by
 cases x with|Continue p=>exact ⟨p,rfl⟩|_=>exact Bool.noConfusion h
noncomputable def Ia:Tg→Bool
 | .name _=>true
 | _=>false
noncomputable def HK:E→Bool
 | .comp ..=>true
 | _=>false
noncomputable def FU (c:Cfg) (t:Tg) (e:E) (tg x:Expr):Bool :=
 Ia t && HK e && aO tg fun y py=>Eg x fun _ _ sc pos=>c.names.lookup y == some .cell || (c.names.lookup y == some .local && py.line == pos.line && !Bo y sc)
noncomputable def IS (c:Cfg) (t:Expr):Bool:=aO t fun y _=>c.names.lookup y == some .cell
noncomputable def Jb (c:Cfg) (tg x:Expr):Bool:=fw tg fun ts=>(Eg x fun _ _ _ _=>true) || fw x fun _=>ts.any (IS c)
mutual
noncomputable def H_ (c:Cfg):S→Stmt→Bool
 | .set t e,s=>B4 s fun tg x=>(rq c t tg && aS c e x) && ((pT x && (pv tg || AW tg x)) || (FU c t e tg x || Jb c tg x))
 | .par i j a b,s=>B4 s fun tg vx=>fw tg fun ts=>on2 ts fun ta tb=>aO ta fun x px=>aO tb fun y py=>fw vx fun us=>on2 us fun u v=>c.N[i]? == some x && c.N[j]? == some y && !(i == j) && !(x == y) && c.names.lookup x == some .local && c.names.lookup y == some .local
    && px.line == py.line && ao u && ao v && !(foldedForSure 8 u && foldedForSure 8 v) && !(constantsAlone 8 u && constantsAlone 8 v) && aS c a u && aS c b v
 | .aug i op e,s=>Fx s fun t o x=>aO t fun y _=>c.N[i]? == some y && c.loc y && o == op && aS c e x
 | .expr e,s=>Ic s fun x=>pT x && aS c e x
 | .ret e,s=>Dj s fun o=>ly o fun x=>aS c e x
 | .retN,s=>Dj s fun o=>o.isNone
 | .ifS t a b,s=>HF s fun x ys zs=>Ay c t x && ay c a ys && ay c b zs
 | .whileS t b,s=>yU s fun x ys=>Ay c t x && ay c b ys
 | .forS t it b,s=>Fs s fun tg x ys=>AY it tg && oJ x && rq c t tg && Ci c it x && ay c b ys
 | .pass,s=>CS s
 | .brk,s=>FJ s
 | .cont,s=>CG s
 | .bad,_=>true
 | .set2 i j e,s=>yc s fun ts v=>on2 ts fun ta tb=>aO ta fun x _=>aO tb fun y _=>c.N[i]? == some x && c.N[j]? == some y && !(i == j) && c.loc x && c.loc y && pT v && aS c e v
termination_by structural s=>s
noncomputable def ay (c:Cfg):Ss→List Stmt→Bool
 | .nil,xs=>xs.isEmpty
 | .cons s ss,xs=>np xs fun y ys=>H_ c s y && ay c ss ys
termination_by structural s=>s
end
theorem Fc {t:Tg} (h:Ia t=true):∃i,t=.name i:=by
 cases t with|name i=>exact ⟨i,rfl⟩|_=>exact Bool.noConfusion h
theorem EN {e:E} (h:HK e=true):∃elt tg it ifs nt caps,e=.comp elt tg it ifs nt caps:=by
 cases e with|comp elt tg it ifs nt caps=>exact ⟨elt,tg,it,ifs,nt,caps,rfl⟩|_=>exact Bool.noConfusion h
theorem iy {x:Expr} {t:Option Expr} {l:Nat} {env:Env} (h:pT x=true):swapsWith x t l env=pure false:=by
 cases x <;> first|rfl|cases h
theorem iB {x t:Expr} {l:Nat} {env:Env} (h:pT x=true):swapsWithSole [t] x l env=pure false:=by
 unfold swapsWithSole
 exact iy h
theorem mr:∀(ts:List Expr) (f:Expr→Option Str),(ts.any fun t=>!pv t)=true→(∀t,pv t=false→f t=none)→(ts.filterMap f).length<ts.length
 | [],f,h,_=>by cases h
 | t::ts,f,h,hf=>by
  rw [List.any_cons,Bool.or_eq_true] at h
  have hl:(ts.filterMap f).length≤ts.length:=List.length_filterMap_le _ _
  rcases h with h|h
  ·rw [List.filterMap_cons,hf t (by simpa using h)]
   simp only [List.length_cons]
   omega
  ·have:=mr ts f h hf
   rw [List.filterMap_cons]
   cases f t <;> simp only [List.length_cons] <;> omega
theorem kK:∀(ts:List Expr) (P:Expr→Bool) (f:Expr→Option Str),ts.any P=true→(∀t,P t=true→f t=none)→(ts.filterMap f).length<ts.length
 | [],P,f,h,_=>by cases h
 | t::ts,P,f,h,hf=>by
  rw [List.any_cons,Bool.or_eq_true] at h
  have hl:(ts.filterMap f).length≤ts.length:=List.length_filterMap_le _ _
  rcases h with h|h
  ·rw [List.filterMap_cons,hf t h]
   simp only [List.length_cons]
   omega
  ·have:=kK ts P f h hf
   rw [List.filterMap_cons]
   cases f t <;> simp only [List.length_cons] <;> omega
theorem BZ {ts vs:List Expr} {k k2:Nat} {p p2:Pos} {env:Env} {P:Expr→Bool} (hs:ts.any P=true) (hP:∀t,P t=true→∃y q,t=.Name y q∧(env.kindOf y == some .local)=false):swappedStores [.Tuple ts k p] (.Tuple vs k2 p2) env=pure none:=by
 unfold swappedStores
 dsimp only
 split
 ·rfl
 ·split
  ·rfl
  ·have hlt:=kK ts P (fun x=>match x with
    | .Name id pos=>if (env.kindOf id == some .local && pos.line == (Option.map (fun x=>x.pos.line) ts.head?).getD 0)=true then some id else none
    | _=>none) hs (fun t ht=>by
     obtain ⟨y,q,rfl,hk⟩:=hP t ht
     show (if (env.kindOf y == some .local && _)=true then some y else none)=none
     rw [hk,Bool.false_and,if_neg Bool.false_ne_true])
   rw [if_pos]
   rw [Bool.or_eq_true]
   left
   rw [bne_iff_ne]
   exact Nat.ne_of_lt hlt
theorem lL {tg x:Expr} {env:Env} (h:AW tg x=true):swappedStores [tg] x env=pure none:=by
 cases tg with
 | Tuple ts k p =>
  cases x with
  | Tuple vs k2 p2 =>
   have hs:(ts.any fun t=>!pv t)=true:=h
   unfold swappedStores
   dsimp only
   split
   ·rfl
   ·split
    ·rfl
    ·have hlt:=mr ts (fun x=>match x with
      | .Name id pos=>if (env.kindOf id == some .local && pos.line == (Option.map (fun x=>x.pos.line) ts.head?).getD 0)=true then some id else none
      | _=>none) hs (fun t ht=>by cases t <;> first|rfl|cases ht)
     rw [if_pos]
     rw [Bool.or_eq_true]
     left
     rw [bne_iff_ne]
     exact Nat.ne_of_lt hlt
  | _=>rfl
 | Subscript a b p=>cases x <;> rfl
 | _=>cases h
noncomputable def xk:Expr→Bool
 | .Starred ..=>true
 | _=>false
theorem rM {u:Expr} (h:ao u=true):xk u=false:=by
 cases u <;> first|rfl|cases h
theorem xC {u v:Expr} (h1:ao u=true) (h2:ao v=true):([u,v].any fun | .Starred ..=>true|_=>false)=false:=by
 show (xk u || (xk v || false))=false
 rw [rM h1,rM h2]
 rfl
theorem Dl {env:Env} {x y:Str} {px py pt:Pos} {kt k2:Nat} {pt2:Pos} {u v:Expr} (hb:env.blockKind=.function) (hx:env.kindOf x=some .local) (hy:env.kindOf y=some .local) (hxy:x≠y) (hl:px.line=py.line)
  (h1:ao u=true) (h2:ao v=true) (h3:(foldedForSure 8 u && foldedForSure 8 v)=false) (h4:(constantsAlone 8 u && constantsAlone 8 v)=false) :
  swappedStores [.Tuple [.Name x px,.Name y py] kt pt] (.Tuple [u,v] k2 pt2) env=pure (some [x,y]):=by
 unfold swappedStores
 dsimp only
 have e0:(Option.map (fun x=>x.pos.line) [Expr.Name x px,Expr.Name y py].head?).getD 0=px.line:=rfl
 have e1:([u,v].any fun | .Starred ..=>true|_=>false)=false:=xC h1 h2
 have e2:[u,v].all (foldedForSure 8)=false:=by simpa using h3
 have e3:[u,v].all (constantsAlone 8)=false:=by simpa using h4
 have e4:[x,y].eraseDups.length=2:=by
  have:(y == x)=false:=by simpa using fun z=>hxy z.symm
  simp [List.eraseDups_cons,this]
 rw [if_neg (by simp [hb]),if_neg ?h1]
 case h1=>exact fun z=>Bool.false_ne_true (e1.symm.trans z)
 have e5:(List.filterMap (fun t=>match t with
   | .Name id pos=>if (env.kindOf id == some .local && pos.line == (Option.map (fun x=>x.pos.line) [Expr.Name x px,Expr.Name y py].head?).getD 0)=true then some id else none
   | _=>none) [Expr.Name x px,Expr.Name y py])=[x,y]:=by
  rw [e0]
  simp [List.filterMap_cons,hx,hy,hl]
 generalize hn:List.filterMap _ [Expr.Name x px,Expr.Name y py]=ns
 have hns:ns=[x,y]:=hn.symm.trans e5
 subst hns
 rw [if_neg,if_neg,if_neg]
 ·rw [e3];decide
 ·rw [e2];decide
 ·rw [e4]
  simp
section
variable {X:Cx} {c:Cfg} {Γ:Nat→FSp}
theorem Bh {X:Cx} {c:Cfg} {Γ:Nat→FSp} (C:COk X c Γ) {t:Tg} {e:E} {tg x:Expr} {pos:Pos} (h2:rq c t tg=true) (h3:aS c e x=true) (h:FU c t e tg x=true):PS X (.Assign [tg] x pos) (TSx X.K (wpS Γ (.set t e))):=by
 have hE:=bn e C _ h3
 unfold FU at h
 rw [Bool.and_eq_true,Bool.and_eq_true] at h
 obtain ⟨⟨ht,he⟩,h⟩:=h
 replace h:=ak h
 obtain ⟨y,py,rfl,h⟩:=h
 replace h:=j8 h
 obtain ⟨ex,gens,sc,cpos,rfl,h⟩:=h
 obtain ⟨i,rfl⟩:=Fc ht
 obtain ⟨elt,tg,it,ifs,nt,caps,rfl⟩:=EN he
 ·have h2:(c.N[i]? == some y && c.loc y)=true:=h2
  simp only [Bool.and_eq_true,beq_iff_eq] at h2
  obtain ⟨g1,g2⟩:=C.locx h2.2
  rintro pins s σ H D I ⟨m,ρ,st,rf,rh,w⟩
  simp only [Bool.or_eq_true,Bool.and_eq_true,beq_iff_eq,Bool.not_eq_true'] at h
  rcases h with h|⟨⟨hl,hp⟩,hn⟩
  ·have hk:=C.cel y (.inl h)
   have hs:swapsWith (.ListComp ex gens sc cpos) (some (.Name y py)) pos.line X.env=pure false:=by
    unfold swapsWith
    have:(X.env.kindOf y == some NameKind.local)=false:=by rcases hk with hk|hk <;> rw [hk] <;> rfl
    simp only [this,Bool.and_false,Bool.false_and]
   rw [rp] at w
   refine Cc C.ndX (by rw [C.N];exact h2.1) g1 hE hs g2 pins s σ H D I ⟨m,ρ,st,rf,rh,ab C.mono _ (fun v st1 k m1 H1 x1 e1 r1 r2=>?_) w⟩
   try simp only [eR,iW,fA,ic] at k
   exact k m1 H1 _ e1 r1 ((rf.mono e1).set i r2)
  ·have hll:=C.lcl _ hl
   have hs:swapsWith (.ListComp ex gens sc cpos) (some (.Name y py)) pos.line X.env=pure true:=by
    unfold swapsWith
    have q1:(X.env.kindOf y == some NameKind.local)=true:=by unfold Env.kindOf;rw [hll];rfl
    have q2:(X.env.blockKind == ScopeKind.function)=true:=by rw [C.bk];rfl
    have q3:(py.line == cpos.line)=true:=by rw [hp];simp
    unfold Bo at hn
    show pure (_ && _ && _ && !_)=_
    rw [q1,q2]
    show pure (true && true && (py.line == cpos.line) && !_)=_
    rw [q3,hn]
    rfl
   replace h3:=j8 h3
   obtain ⟨ex',gs',sc',pos',heq,h3⟩:=h3
   cases heq
   replace h3:=gY h3
   obtain ⟨g,rfl,h3⟩:=h3
   obtain ⟨tx,ix,fx,ia⟩:=g
   ·simp only [Bool.and_eq_true,beq_iff_eq] at h3
    obtain ⟨⟨⟨⟨⟨⟨⟨⟨h1,h0⟩,k2'⟩,h3⟩,h4⟩,h5⟩,h6⟩,h7⟩,h8⟩:=h3
    subst h1
    obtain ⟨S,k1,k2,k3,k4⟩:=pX C h4
    have hC:∀s2 H2 fp A,COk (cxC X (nt++caps.filterMap (X.N[·]?)) s2 H2 fp sc A) (c.inner nt caps sc) Γ:=fun s2 H2 fp A=>BT C h4
    skip
    rw [exec_Assign_Name_used _ _ _ _ hs]
    refine wpAny_bind (wpAny_standAt ?_)
    refine wpAny_bind ?_
    unfold evalThenUse
    refine wpAny_bind ?_
    refine rG (elt:=elt) (tg:=tg) (ifs:=ifs) (nt:=nt) (caps:=caps) (use:=some (assign (.Name y py) X.env)) (Fin:=fun A H'=>D.nx (σ.set i (some (.ref A))) H') (wi:=TIx X.K (jk Γ it)) C.mono C.calm S rfl k1 k2 k3 k2' h3 (Dr it C _ h0 h5) (fun s2 H2 fp A=>rk tg (hC s2 H2 fp A) _ h6) (fun s2 H2 fp A=>xa ifs (hC s2 H2 fp A) _ h7) (fun s2 H2 fp A=>bn elt (hC s2 H2 fp A) _ h8) I ?_ ?_
    ·refine ⟨m,ρ,st,rf,rh,gu C.mono it (fun xs chk st1 z m1 H1 J e1 r1 W=>⟨m1,ρ,st1,xs,chk,rf.mono e1,r1,W,z.1,?_⟩) w⟩
     refine gZ (body:=fF Γ elt tg ifs (nt.map (fun _=>none)++caps.map fun i=>(ρ[i]?).join)) (fun _ _ _ _ hk q=>oS C.mono hk q) (fun vs st2 k m2 H2 A ys e2 r2 Dm hD0 hD ry=>?_) z.2
     have hD1:H A=none:=by
      cases q:H A with
      | none=>rfl
      | some o =>
       by_cases hm:A∈m
       ·exact absurd ((e1.trans e2).pre.subset hm) Dm
       ·exact absurd hD0 (e1.ne hm q)
     try simp only [eR,iW,fA,ic] at k
     exact k _ _ _ ((e1.trans e2).addD hD1) (r2.addD Dm hD ry) ((rf.mono ((e1.trans e2).addD hD1)).set i (R.last r2.len))
    ·intro C' A H' s' m' I' ns fp F
     refine wpAny_assign_Name (qO I' C.ndX (by rw [C.N];exact h2.1) g1 (v:=.ref A) rfl (fun s2 I2 hh=>?_) g2)
     obtain ⟨a,hs2,ha⟩:=hh
     have hne:C'≠a:=by
      rcases ha with rfl|ha
      ·exact fp.2.1
      ·exact fun q=>fp.2.2.2.2.1 _ _ ha q.symm
     refine ⟨m',?_,fun h' hs'=>?_⟩
     ·obtain ⟨o,es,ep,q1,q2⟩:=ns
      exact ⟨o,es,ep,(hs2.2 C' hne).trans q1,q2⟩
     ·refine wpAny_pure (wpAny_pure ?_)
      exact ⟨_,H',I2.turned (t':=s2.toks) (fun b o hb e=>hs'.extBut b o hb e) fp.1 fp.2.1 fp.2.2.2.1 fp.2.2.2.2.1 fp.2.2.2.2.2,F⟩
mutual
theorem Jw (C:COk X c Γ):∀(e:S) (x:Stmt),H_ c e x=true→PS X x (TSx X.K (wpS Γ e))
 | .set t e,x,h=>by
  replace h:=q9 h
  obtain ⟨tg,x,pos,rfl,h⟩:=h
  ·simp only [Bool.and_eq_true,Bool.or_eq_true] at h
   obtain ⟨⟨h2,h3⟩,h14⟩:=h
   rcases h14 with ⟨h1,h4⟩|h14|h14
   rotate_left
   ·exact Bh C h2 h3 h14
   ·have hE:=bn e C _ h3
    have hG:=rk t C _ h2
    rintro pins s σ H D I ⟨m,ρ,st,rf,rh,w⟩
    skip
    have rd:E8 (TEx X.K (wpE Γ e)) (TGx X.K (dP Γ t)) D σ H:=⟨m,ρ,st,rf,rh,ab C.mono e (fun v st1 k m1 H1 x1 e1 r1 r2=>⟨m1,ρ,st1,v,rf.mono e1,r1,r2,bv C.mono t (fun _ _ q=>q.ext e1) k⟩) w⟩
    obtain ⟨ts,k,p,rfl,h14⟩:=bH h14
    rcases Bool.or_eq_true_iff.mp h14 with h14|h14
    ·obtain ⟨a,b,d,f,rfl,_⟩:=j8 h14
     exact nB hE hG rfl rfl rfl pins s σ H D I rd
    ·obtain ⟨us,k2,p2,rfl,h14⟩:=bH h14
     refine nB hE hG rfl (BZ (P:=IS c) h14 fun t ht=>?_) rfl pins s σ H D I rd
     obtain ⟨y,q,rfl,hy⟩:=ak (show aO t _=true from ht)
     refine ⟨y,q,rfl,?_⟩
     rcases C.cel y (.inl (by simpa using hy)) with hk|hk <;> rw [hk] <;> rfl
   ·have hE:=bn e C _ h3
    have hG:=rk t C _ h2
    rintro pins s σ H D I ⟨m,ρ,st,rf,rh,w⟩
    skip
    have rd:E8 (TEx X.K (wpE Γ e)) (TGx X.K (dP Γ t)) D σ H:=⟨m,ρ,st,rf,rh,ab C.mono e (fun v st1 k m1 H1 x1 e1 r1 r2=>⟨m1,ρ,st1,v,rf.mono e1,r1,r2,bv C.mono t (fun _ _ q=>q.ext e1) k⟩) w⟩
    cases t with
    | name i =>
     obtain ⟨y,p,rfl,h2⟩:=ak h2
     have h2:=Bool.and_eq_true_iff.mp h2
     obtain ⟨g1,g2⟩:=C.locx h2.2
     refine Cc C.ndX (by rw [C.N];exact beq_iff_eq.mp h2.1) g1 hE (iy h1) g2 pins s σ H D I ⟨m,ρ,st,rf,rh,ab C.mono e (fun v st1 k m1 H1 x1 e1 r1 r2=>?_) w⟩
     try simp only [eR,iW,fA,ic] at k
     exact k m1 H1 _ e1 r1 ((rf.mono e1).set i r2)
    | tup ts =>
     obtain ⟨xs,k,p,rfl,_⟩:=bH h2
     exact nB hE hG (iB h1) (lL (by rcases h4 with h4|h4;cases h4;exact h4)) rfl pins s σ H D I rd
    | ltup ts =>
     obtain ⟨xs,k,p,rfl,_⟩:=bH h2
     exact nB hE hG (iB h1) (lL (by rcases h4 with h4|h4;cases h4;exact h4)) rfl pins s σ H D I rd
    | sub o i =>
     obtain ⟨l,r,p,rfl,_⟩:=f_ h2
     exact nB hE hG (iB h1) (lL (by rcases h4 with h4|h4;cases h4;exact h4)) rfl pins s σ H D I rd
 | .par i j a b,x,h=>by
  replace h:=q9 h
  obtain ⟨tg,vx,pos,rfl,h⟩:=h
  replace h:=bH h
  obtain ⟨ts,k,p1,rfl,h⟩:=h
  replace h:=gT h
  obtain ⟨ta,tb,rfl,h⟩:=h
  replace h:=ak h
  obtain ⟨x,px,rfl,h⟩:=h
  replace h:=ak h
  obtain ⟨y,py,rfl,h⟩:=h
  replace h:=bH h
  obtain ⟨us,k2,p2,rfl,h⟩:=h
  replace h:=gT h
  obtain ⟨u,v,rfl,h⟩:=h
  ·simp only [Bool.and_eq_true,beq_iff_eq,Bool.not_eq_true',beq_eq_false_iff_ne] at h
   obtain ⟨⟨⟨⟨⟨⟨⟨⟨⟨⟨⟨⟨h1,h2⟩,h3⟩,h4⟩,h5⟩,h6⟩,h7⟩,h8⟩,h9⟩,h10⟩,h11⟩,h12⟩,h13⟩:=h
   have hx:=C.lcl _ h5
   have hy:=C.lcl _ h6
   rintro pins s σ H D I ⟨m,ρ,st,rf,rh,w⟩
   skip
   refine GK C.calm C.ndX (by rw [C.N];exact h1) (by rw [C.N];exact h2) h3 hx hy (pac (bn a C _ h12) (pac (bn b C _ h13) iG h9) h8)
    (Dl C.bk hx hy h4 h7 h8 h9 h10 h11) rfl pins s σ H D I ⟨m,ρ,st,rf,rh,ab C.mono a (fun v st1 k m1 H1 x1 e1 r1 r2=>⟨m1,ρ,st1,rf.mono e1,r1,
    ab C.mono b (fun u st2 k2 m2 H2 y2 e2 r3 r4=>⟨x1,y2,rfl,?_⟩) k⟩) w⟩
   exact k2 m2 H2 _ (e1.trans e2) r3 ((((rf.mono e1).mono e2).set i (r2.mono e2)).set j r4)
 | .aug i op e,x,h=>by
  replace h:=zC h
  obtain ⟨t,o,x,p,rfl,h⟩:=h
  replace h:=ak h
  obtain ⟨y,py,rfl,h⟩:=h
  ·simp only [Bool.and_eq_true,beq_iff_eq] at h
   obtain ⟨⟨⟨h1,h2⟩,h3⟩,h4⟩:=h
   subst h3
   obtain ⟨g1,g2⟩:=C.locx h2
   rintro pins s σ H D I ⟨m,ρ,st,rf,rh,w⟩
   skip
   obtain ⟨v,ev,w⟩:=w
   obtain ⟨y,ey,ry⟩:=rf.at_ i v ev
   refine F3 C.ndX (by rw [C.N];exact h1) g1 (bn e C _ h4) (Gy _) g2 pins s σ H D I ⟨y,ey,m,ρ,st,rf,rh,ab C.mono e (fun u st1 k m1 H1 x1 e1 r1 r2=>⟨m1,st1,v,u,r1,ry.mono e1,r2,rE (fun z st2 q m2 H2 z2 e2 r3 r4=>?_) k⟩) w⟩
   exact q m2 H2 _ (e1.trans e2) r3 (((rf.mono e1).mono e2).set i r4)
 | .expr e,x,h=>by
  replace h:=A9 h
  obtain ⟨x,p,rfl,h⟩:=h
  ·simp only [Bool.and_eq_true] at h
   rintro pins s σ H D I ⟨m,ρ,st,rf,rh,w⟩
   skip
   exact Ex (bn e C _ h.2) (iy h.1) pins s σ H D I ⟨m,ρ,st,rf,rh,ab C.mono e (fun u st1 k m1 H1 x1 e1 r1 r2=>k m1 H1 σ e1 r1 (rf.mono e1)) w⟩
 | .ret e,x,h=>by
  replace h:=rl h
  obtain ⟨o,p,rfl,h⟩:=h
  replace h:=jC h
  obtain ⟨x,rfl,h⟩:=h
  ·rintro pins s σ H D I ⟨m,ρ,st,rf,rh,w⟩
   skip
   exact Gm (bn e C _ h) pins s σ H D I ⟨m,ρ,st,rf,rh,w⟩
 | .retN,x,h=>by
  replace h:=rl h
  obtain ⟨o,p,rfl,h⟩:=h
  replace h:=AR h
  obtain rfl:=h
  ·rintro pins s σ H D I ⟨m,ρ,st,rf,rh,w⟩
   skip
   exact Fl pins s σ H D I (post.here w rh (R_non.mpr rfl))
 | .ifS t a b,x,h=>by
  replace h:=BC h
  obtain ⟨x,ys,zs,p,rfl,h⟩:=h
  ·simp only [Bool.and_eq_true] at h
   obtain ⟨⟨h1,h2⟩,h3⟩:=h
   rintro pins s σ H D I ⟨m,ρ,st,rf,rh,w⟩
   skip
   refine Ir (p9 t C _ h1) (ot C a _ h2) (ot C b _ h3) pins s σ H D I ⟨m,ρ,st,rf,rh,aQ C.mono t (fun k st1 z m1 H1 e1 r1=>?_) w⟩
   cases k with
   | true=>rw [if_pos rfl] at z ⊢;exact ⟨m1,ρ,st1,rf.mono e1,r1,a_ C.mono a (AE.ext e1) z⟩
   | false=>rw [if_neg Bool.false_ne_true] at z ⊢;exact ⟨m1,ρ,st1,rf.mono e1,r1,a_ C.mono b (AE.ext e1) z⟩
 | .whileS t b,x,h=>by
  replace h:=v_ h
  obtain ⟨x,ys,p,rfl,h⟩:=h
  ·simp only [Bool.and_eq_true] at h
   intro pins s σ H D I w
   exact A0 C.pass (p9 t C _ h.1) (ot C b _ h.2) pins s σ H D I (zJ C.mono w)
 | .forS t it b,x,h=>by
  replace h:=zm h
  obtain ⟨tg,x,ys,p,rfl,h⟩:=h
  ·simp only [Bool.and_eq_true] at h
   obtain ⟨⟨⟨⟨h0,h1⟩,h2⟩,h3⟩,h4⟩:=h
   intro pins s σ H D I w
   exact F1 C.pass C.calm (Dr it C _ h0 h3) (rk t C _ h2) (ot C b _ h4) (u_ h1) pins s σ H D I (EC C.mono w)
 | .bad,x,h=>by
  rintro pins s σ H D I ⟨m,ρ,st,rf,rh,w⟩
  exact False.elim w
 | .set2 i j e,x,h=>by
  replace h:=oD h
  obtain ⟨ts,v,pos,rfl,h⟩:=h
  replace h:=gT h
  obtain ⟨ta,tb,rfl,h⟩:=h
  replace h:=ak h
  obtain ⟨x,px,rfl,h⟩:=h
  replace h:=ak h
  obtain ⟨y,py,rfl,h⟩:=h
  ·simp only [Bool.and_eq_true,beq_iff_eq,Bool.not_eq_true',beq_eq_false_iff_ne] at h
   obtain ⟨⟨⟨⟨⟨⟨h1,h2⟩,h3⟩,h4⟩,h5⟩,h6⟩,h7⟩:=h
   obtain ⟨a1,a2⟩:=C.locx h4
   obtain ⟨b1,b2⟩:=C.locx h5
   rintro pins s σ H D I ⟨m,ρ,st,rf,rh,w⟩
   skip
   refine wpAny_Assign_two (thn (bn e C _ h7 pins s σ H (fun y H1=>D.nx ((σ.set i (some y)).set j (some y)) H1) I ⟨m,ρ,st,rf,rh,ab C.mono e (fun v st1 k m1 H1 x1 e1 r1 r2=>k m1 H1 _ e1 r1 (((rf.mono e1).set i r2).set j r2)) w⟩) fun v s1 ⟨y,H1,I1,r1,q1⟩=>?_) rfl rfl
   refine PySem.wpAny_assign_Name ?_
   refine fe I1 C.ndX (by rw [C.N];exact h1) a1 r1 (fun s2 I2=>?_) a2
   refine PySem.wpAny_assign_Name ?_
   exact fe I2 C.ndX (by rw [C.N];exact h2) b1 r1 (fun s3 I3=>⟨_,H1,I3,q1⟩) b2
 | .pass,x,h=>by
  replace h:=xb h
  obtain ⟨p,rfl⟩:=h
  ·rintro pins s σ H D I ⟨m,ρ,st,rf,rh,w⟩
   skip
   exact EJ pins s σ H D I (postF.here w rh rf)
 | .brk,x,h=>by
  replace h:=zV h
  obtain ⟨p,rfl⟩:=h
  ·rintro pins s σ H D I ⟨m,ρ,st,rf,rh,w⟩
   skip
   exact A1 pins s σ H D I (postF.here w rh rf)
 | .cont,x,h=>by
  replace h:=xP h
  obtain ⟨p,rfl⟩:=h
  ·rintro pins s σ H D I ⟨m,ρ,st,rf,rh,w⟩
   skip
   exact wC pins s σ H D I (postF.here w rh rf)
theorem ot (C:COk X c Γ):∀(e:Ss) (x:List Stmt),ay c e x=true→PSs X x (TSx X.K (au Γ e))
 | .nil,x,h=>by
  have h:x.isEmpty=true:=h
  cases x with
  | nil =>
   rintro pins s σ H D I ⟨m,ρ,st,rf,rh,w⟩
   skip
   exact Fi pins s σ H D I (postF.here w rh rf)
  | cons _ _=>cases h
 | .cons e es,x,h=>by
  replace h:=aR h
  obtain ⟨y,ys,rfl,h⟩:=h
  ·simp only [Bool.and_eq_true] at h
   rintro pins s σ H D I ⟨m,ρ,st,rf,rh,w⟩
   skip
   refine Bk (Jw C e _ h.1) (ot C es _ h.2) pins s σ H D I ⟨m,ρ,st,rf,rh,gf C.mono e ?_ w⟩
   exact ⟨fun ρ1 st1 k m1 H1 σ1 e1 r1 f1=>⟨m1,ρ1,st1,f1,r1,a_ C.mono es (AE.ext e1) k⟩,fun _ _ q=>q,fun _ _ q=>q,fun _ _ q=>q⟩
end
structure GOk (P:Program) (w:World) (K:PySem.W.Frag) (mg:Str→Option Value) (base:Heap) (c:Cfg) (Γ:Nat→FSp):Prop where
 fn:∀f x,f<c.lim→c.fns[f]?=some x→∃ps,Has P w K mg base (f+1) x ps (aq K (Γ f))
 blt:∀x∈c.blts,mg x=none
 gl:∀x v,c.gl.lookup x=some v→∃u y,mg x=some u∧RelV y u∧∀m H,R K m H v y
 mono:b8 Γ
noncomputable def frame (n:Nat) (as:List PV):Fr:=as.map some++List.replicate (n-as.length) none
noncomputable def af (st:AH) (Q:EK):aV:={ nx:=fun _ st'=>Ret st Q .non st',rt:=Ret st Q }
theorem ka {K:PySem.W.Frag} {m:List Addr} {H:Hp} {st st':AH} {Q:VK} {v:PV} (rh:RH K m H st) (q:Ret st (post K m H Q) v st'):post K m H Q v st':=by
 rcases q with q|q
 ·exact q
 ·intro m' H' x e r s
  obtain ⟨st1,q,e2,r3,r4⟩:=sG rh e r s q
  exact q m H' x e2 r3 r4
theorem tO {K:PySem.W.Frag} {m:List Addr} {H:Hp} {N:List Str} {as:List PV} {vs:List V} (r:Rs K m H as vs):RF K m H (frame N.length as) (L2.start N vs):=by
 have hl:=r.len
 refine ⟨by simp [frame,L2.start,hl],fun i v e=>?_⟩
 unfold frame at e
 unfold L2.start
 by_cases hi:i<as.length
 ·rw [List.getElem?_append_left (by simpa using hi),List.getElem?_map] at e
  cases q:as[i]? with
  | none=>rw [q] at e;cases e
  | some a =>
   rw [q] at e
   cases e
   obtain ⟨y,e1,r1⟩:=r.get q
   exact ⟨y,by rw [List.getElem?_append_left (by simp;omega),List.getElem?_map,e1];rfl,r1⟩
 ·rw [List.getElem?_append_right (by simpa using hi),List.getElem?_replicate] at e
  split at e <;> cases e
theorem B3 {P:Program} {w:World} {K:PySem.W.Frag} {mg:Str→Option Value} {base:Heap} {x:Str} {st:Stmt} {N ps:List Str} (S:ai N ps (aa st)) {f:Addr} {cdv:Value} {A:Around} {outer:List Env} {s:Shared} {H:Hp} {E:XK}
  (hN:c.N=N) (hn:c.names=(aa st).names) (hr:Room c.lim (A.deeper (envOfC x (aa st) s.heap.objs.size f cdv))) (G:GOk P w K mg base c Γ)
  (lam:c.pc=true→∀ {pins:List (Addr × Obj)} {σ:L2.St} {H2:Hp} {s2:Shared} {b:Addr} {u:Value} {v:V} {Q:VK},L2.Inv (lW CX0 P w K mg base N x (aa st) f cdv A outer s H E).nox pins σ H2 s2→RelV v u→aq K (Γ 1000) [.ref b,v] H2 Q E0 →
   PySem.W.FnAt b s2.heap∧wpAny (model P w) (lW CX0 P w K mg base N x (aa st) f cdv A outer s H E).nox.A (call (.ref b) [u]) (EP (lW CX0 P w K mg base N x (aa st) f cdv A outer s H E).nox pins σ Q) (lW CX0 P w K mg base N x (aa st) f cdv A outer s H E).nox.xe s2)
  (hmo:∀k,c.hm=some k→HmX (lW CX0 P w K mg base N x (aa st) f cdv A outer s H E).nox k) :
  COk (lW CX0 P w K mg base N x (aa st) f cdv A outer s H E).nox c Γ where
 calm:=rfl
 pass:=PassesOwn.never
 N:=hN.symm
 nd:=by rw [hN];exact S.nd
 vis:=fun y h=>by rw [hn] at h;exact h
 loc:=fun y h=>by rw [hn] at h;exact ⟨h,.inl rfl⟩
 lcl:=fun y h=>by rw [hn] at h;exact h
 glb:=fun y h=>by rw [hn] at h;exact h
 bk:=by
  show Env.blockKind (envOfC x (aa st) s.heap.objs.size f cdv)=_
  unfold Env.blockKind
  show (if (aa st).kind.isAnnotationScope=true then _ else (aa st).kind)=_
  rw [S.kind]
  rfl
 cel:=fun y h=>by rw [hn] at h;exact h
 room:=hr
 fn:=G.fn
 blt:=G.blt
 gl:=G.gl
 mono:=G.mono
 lam:=lam
 hmo:=hmo
theorem av {P:Program} {w:World} {K:PySem.W.Frag} {mg:Str→Option Value} {base:Heap} {x:Str} {st:Stmt} {N ps:List Str} {sp:FSp} {code:Ss} (F:At K mg x st ps) (S:ai N ps (aa st)) (hN:c.N=N) (hn:c.names=(aa st).names)
  (hc:ay c code (ac st)=true) (G:GOk P w K mg base c Γ) (len:∀as st Q,sp as st Q→as.length=ps.length)
  (h:∀as st Q,sp as st Q→au Γ code (frame N.length as) st (af st Q)) (hpc:c.pc=false:=by rfl) (hhm:c.hm=none:=by rfl):Has P w K mg base (c.lim+1) x ps (aq K sp):=by
 refine F.ok S (fun vs H Q E ⟨m,st,as,r1,r2,q⟩=>by rw [←r1.len];exact len as st _ q) fun f cdv A outer s H vs Q E hr ⟨m,st',as,r1,r2,q⟩=>?_
 have C:=B3 (E:=E) (H:=H) (outer:=outer) (Γ:=Γ) S hN hn hr G (fun z=>by rw [hpc] at z;cases z) fun k z=>by rw [hhm] at z;cases z
 refine ⟨_,ot C code _ hc,m,frame N.length as,st',tO r1,r2,a_ G.mono code ?_ (h as st' _ q)⟩
 exact ⟨fun ρ st2 k m' H' σ' e r f=>ka r2 k m' H' .non e r (R_non.mpr rfl),fun v st2 k=>ka r2 k,fun _ _ k=>k.elim,fun _ _ k=>k.elim⟩
end
end FW
set_option Elab.async false
set_option linter.all false
set_option maxRecDepth 100000
set_option maxHeartbeats 1000000
namespace FW
open PySem PySem.Spec PyProof.Rows L2 HX
section
variable {P:Program} {w:World} {K:PySem.W.Frag} {mg:Str→Option Value} {base:Heap} {c c':Cfg} {Γ:Nat→FSp}
theorem GOk.next (G:GOk P w K mg base c Γ) (h1:c'.fns=c.fns) (h2:c'.lim=c.lim+1) (h3:c'.blts=c.blts) (h4:c'.gl=c.gl) {x:Str} {ps:List Str} (hx:c.fns[c.lim]?=some x) (H:Has P w K mg base (c.lim+1) x ps (aq K (Γ c.lim))):GOk P w K mg base c' Γ where
 fn:=fun f y hf e=>by
  rw [h1] at e
  rw [h2] at hf
  by_cases hl:f<c.lim
  ·exact G.fn f y hl e
  ·have:f=c.lim:=by omega
   subst this
   rw [hx] at e
   cases e
   exact ⟨ps,H⟩
 blt:=by rw [h3];exact G.blt
 gl:=by rw [h4];exact G.gl
 mono:=G.mono
theorem Fp {x qual:Str} {st:Stmt} {f:Addr} {fd:FuncData} {N ps:List Str} {sp:FSp} {code:Ss} (F:Fun K x x st f fd) (S:ai N ps (aa st)) (hN:c.N=N) (hn:c.names=(aa st).names)
  (hc:ay c code (ac st)=true) (G:GOk P w K mg base c Γ) (len:∀as st Q,sp as st Q→as.length=ps.length)
  (h:∀as st Q,sp as st Q→au Γ code (frame N.length as) st (af st Q)) (hpc:c.pc=false:=by rfl) (hhm:c.hm=none:=by rfl):qu P w K mg base CX0 (c.lim+1) f fd ps (aq K sp):=by
 refine F.ok S (fun vs H Q E ⟨m,st,as,r1,r2,q⟩=>by rw [←r1.len];exact len as st _ q) fun cdv A outer s H vs Q E hr ⟨m,st',as,r1,r2,q⟩=>?_
 have C:=B3 (E:=E) (H:=H) (outer:=outer) (Γ:=Γ) S hN hn hr G (fun z=>by rw [hpc] at z;cases z) fun k z=>by rw [hhm] at z;cases z
 refine ⟨_,ot C code _ hc,m,frame N.length as,st',tO r1,r2,a_ G.mono code ?_ (h as st' _ q)⟩
 exact ⟨fun ρ st2 k m' H' σ' e r f=>ka r2 k m' H' .non e r (R_non.mpr rfl),fun v st2 k=>ka r2 k,fun _ _ k=>k.elim,fun _ _ k=>k.elim⟩
end
noncomputable def js:FSp:=fun as st Q=>∃ns:List Int,as=[.rdl (ns.map PV.int)]∧ns.length≤63∧∀st',Q (.bl true) st'
theorem yD {K:PySem.W.Frag} {m:List Addr} {H:Hp}:∀ {ns:List Int},Rs K m H (ns.map PV.int) (ns.map V.int)
 | []=>by rw [List.map_nil,List.map_nil,Rs_nil]
 | n::ns=>by rw [List.map_cons,List.map_cons,Rs_cons',R_int];exact ⟨rfl,yD⟩
structure F_ (K:PySem.W.Frag) (h:Heap):Prop where
 at_:∀x∈bG,∀c T,PySem.W.tabIn K x=some (c,T)→PySem.W.CodeHd h c T∧h.get? T=some (PySem.W.tabObj #[])
structure EV (K:PySem.W.Frag):Prop where
 at_:∀x∈bG,∀c T,PySem.W.tabIn K x=some (c,T)→K.lookup T=none∧∀y∈bG,∀d,PySem.W.tabIn K y=some (d,T)→y=x
structure nh (K:PySem.W.Frag) (mg:Str→Option Value) (base:Heap):Prop where
 hd:∀x∈bG,∀c T,PySem.W.tabIn K x=some (c,T)→PySem.W.CodeHd base c T
 bm:∃bm ob,mg "__builtins__"=some (.ref bm)∧bm≠builtinsNs∧base.get? bm=some ob∧ob.cls=.type "module"∧ob.dict=some builtinsNs∧ob.data=.plain
theorem A5 {K:PySem.W.Frag} {H:Hp} {a:Addr} {ns:List Int} (hl:ns.length≤63) (hO:∀ys,H a≠some (.lst ys)) (hS:SqL K H a (ns.map V.int)) (tb:TB K H):aq K js [.ref a] H (fun v _=>v=.bl true) fun _ _ _=>False:=by
 have hF:RdF K H a (ns.map V.int):=by
  rcases hS with (h|h)|h
  ·exact absurd h (hO _)
  ·exact .inl h
  ·exact .inr h
 refine ⟨[],[],[.rdl (ns.map PV.int)],?_,⟨rfl,List.nodup_nil,fun n c a h=>by simp at h,tb⟩,ns,rfl,hl,fun st' m' H' x e r s=>R_bl.mp s⟩
 rw [Rs_cons',Rs_nil,fC]
 exact ⟨⟨a,_,rfl,hF,yD⟩,rfl⟩
noncomputable def q5 (K:PySem.W.Frag) (b:Addr):Prop:=∃x∈bG,∃c,PySem.W.tabIn K x=some (c,b)
open Classical in
noncomputable def fv (K:PySem.W.Frag) (a:Addr) (scr:Option HO):Hp:=fun b=>if b=a then scr else if q5 K b then some (.tbl #[]) else none
theorem Aw {P:Program} {w:World} {K:PySem.W.Frag} {mg mb:Str→Option Value} {k:Nat} {fa a:Addr} {fd:FuncData} {x:Str} {s₁:Shared} {vs:List Value} {ns:List Int}
  (KX:K.In s₁.heap) (hns:s₁.heap.Ns mainGlobals mg) (hb:s₁.heap.Ns builtinsNs mb) (hbb:∀x:Str,x≠"__name__"→mb x=bootBuiltins x) (hlim:s₁.heap.NoLimit) (hg:s₁.gens=#[])
  (LT:F_ K s₁.heap) (LK:EV K) (hbm:∃bm ob,mg "__builtins__"=some (.ref bm)∧bm≠builtinsNs∧s₁.heap.get? bm=some ob∧ob.cls=.type "module"∧ob.dict=some builtinsNs∧ob.data=.plain)
  (ha:s₁.heap.get? a=some { cls:=.type "list",data:=.seq vs.toArray }) (hi:IntsAre vs ns) (hl:ns.length≤63) (hr:Room k callerA)
  (F:∀base:Heap,K.In base→base.Ns mainGlobals mg→nh K mg base→qu P w K mg base CX0 k fa fd [x] (aq K js)) (hbind:∀(s:Shared) (u:Value),BindsTo s fd ⟨[u],[]⟩ [(x,u)]) :
  codeAny (model P w) callerA (.call (.ref fa) ⟨[.ref a],[]⟩) (fun r s'=>r=.ok (.ret (.bool true))∧OldK s₁.heap s'.heap∧s'.os=s₁.os∧AllBare s'.gens) s₁:=by
 have rv:=qW hi
 have lenV:=hi.length
 have hl2:ns.length≤sizeLine:=Nat.le_trans hl (by decide)
 have tabAt:∀ {b:Addr},q5 K b→s₁.heap.get? b=some (PySem.W.tabObj #[]):=fun ⟨x,hx,c,e⟩=>(LT.at_ x hx c _ e).2
 have naT:¬q5 K a:=fun z=>by have e:=tabAt z;rw [ha] at e;cases e
 have core:∀scr:Option HO,(∀ys,scr≠some (.lst ys))→SqL K (fv K a scr) a (ns.map V.int)→(∀u,scr=some u→(∃o xs,u=.frz o (.lst xs))∧ObjOk P w (fv K a scr) s₁.heap a u)→(scr≠none→K.lookup a=none) →
   codeAny (model P w) callerA (.call (.ref fa) ⟨[.ref a],[]⟩) (fun r s'=>r=.ok (.ret (.bool true))∧OldK s₁.heap s'.heap∧s'.os=s₁.os∧AllBare s'.gens) s₁:=by
  intro scr hscr hS hso hK
  have atA:fv K a scr a=scr:=if_pos rfl
  have atT:∀ {b:Addr},q5 K b→fv K a scr b=some (.tbl #[]):=fun {b} z=>by
   have:b≠a:=fun q=>naT (q ▸ z)
   exact (if_neg this).trans (if_pos z)
  have cs:∀b,fv K a scr b≠none→(b=a∧scr≠none)∨q5 K b:=fun b z=>by
   by_cases h1:b=a
   ·exact .inl ⟨h1,by rw [h1,atA] at z;exact z⟩
   ·by_cases h2:q5 K b
    ·exact .inr h2
    ·exact absurd ((if_neg h1).trans (if_neg h2)) z
  have hok:HOk P w (fv K a scr) s₁.heap:=fun b u e=>by
   rcases cs b (by rw [e];simp) with ⟨rfl,z⟩|z
   ·rw [atA] at e
    exact (hso u e).2
   ·rw [atT z] at e
    cases e
    exact tabAt z
  have base_of:∀ {b:Addr} {o:Obj},s₁.heap.get? b=some o→fv K a scr b=none→(qA s₁.heap (fv K a scr)).get? b=some o:=fun e n=>Cw e n
  have noD:∀ {b:Addr} {o:Obj},s₁.heap.get? b=some o→(∀its n,o.data≠.seq its n)→(∀qs,o.data≠.fields qs)→fv K a scr b=none:=fun {b o} e n1 n2=>by
   cases q:fv K a scr b with
   | none=>rfl
   | some u =>
    rcases cs b (by rw [q];simp) with ⟨rfl,_⟩|z
    ·rw [ha] at e;cases e;exact absurd rfl (n1 _ _)
    ·rw [tabAt z] at e;cases e;exact absurd rfl (n2 _)
  have nsK:∀ {b:Addr} {m:Str→Option Value},s₁.heap.Ns b m→(qA s₁.heap (fv K a scr)).Ns b m:=fun {b m} ⟨o,es,ep,e,d,r⟩=>⟨o,es,ep,base_of e (noD e (fun _ _ z=>by rw [d] at z;cases z) fun _ z=>by rw [d] at z;cases z),d,r⟩
  have hKn:∀ {b:Addr} {o:Obj},K.lookup b=some o→fv K a scr b=none:=fun {b o} e=>by
   cases q:fv K a scr b with
   | none=>rfl
   | some u =>
    rcases cs b (by rw [q];simp) with ⟨rfl,z⟩|⟨x,hx,c,z⟩
    ·rw [hK z] at e;cases e
    ·rw [(LK.at_ x hx c _ z).1] at e;cases e
  have hKb:K.In (qA s₁.heap (fv K a scr)):=fun b o e=>base_of (KX b o e) (hKn e)
  have hM:Mod K mg (qA s₁.heap (fv K a scr)):=⟨hKb,nsK hns,⟨mb,nsK hb,hbb⟩,let ⟨mc,h1,h2⟩:=hlim;⟨mc,nsK h1,h2⟩⟩
  have e0:zn P w K mg (qA s₁.heap (fv K a scr)) callerA [] s₁ (fv K a scr):=⟨rfl,hM,fun b o e=>Fg e,Nat.le_of_eq (zY _ _),trivial,fun b hb=>absurd (show b∈([]:List Addr) from hb) (by simp),hok,.of_eq hg⟩
  have hB:nh K mg (qA s₁.heap (fv K a scr)):=by
   refine ⟨fun x hx c T e=>?_,?_⟩
   ·obtain ⟨o,vs',file,tf,flags,tg,inF,text,tt,q,r⟩:=(LT.at_ x hx c T e).1
    have kc:∃oc,K.lookup c=some oc:=by
     have e':=e
     unfold PySem.W.tabIn at e'
     split at e'
     ·split at e'
      ·split at e'
       ·split at e'
        ·rename_i hh
         split at e'
         ·cases e';exact ⟨_,hh⟩
         ·cases e'
        ·cases e'
       ·cases e'
      ·cases e'
     ·cases e'
    obtain ⟨oc,kc⟩:=kc
    exact ⟨o,vs',file,tf,flags,tg,inF,text,tt,base_of q (hKn kc),r⟩
   ·obtain ⟨bm,ob,b1,b2,b3,b4,b5,b6⟩:=hbm
    exact ⟨bm,ob,b1,b2,base_of b3 (noD b3 (fun _ _ z=>by rw [b6] at z;cases z) fun _ z=>by rw [b6] at z;cases z),b4,b5,b6⟩
  have tb:TB K (fv K a scr):=fun x hx c T e=>⟨(LK.at_ x hx c T e).2,#[],atT ⟨x,hx,c,e⟩,trivial,fun pos cv q=>by cases q⟩
  refine codeAny_mono ((F _ hKb (nsK hns) hB).run callerA [] s₁ (fv K a scr) ⟨[.ref a],[]⟩ [.ref a] [.ref a] _ _ hr e0 (hbind s₁ (.ref a)) (.cons rfl .nil) (A5 hl (by rw [atA];exact hscr) hS tb)) fun r s' h=>?_
  cases r with
  | error e=>exact False.elim h
  | ok fl =>
   cases fl with
   | next=>exact False.elim h
   | brk=>exact False.elim h
   | cont=>exact False.elim h
   | ret u =>
    obtain ⟨v,H',os,bare,un,hok',r',q⟩:=h
    have q':v=.bl true:=q
    subst q'
    obtain rfl:u=Value.bool true:=r'
    refine ⟨rfl,⟨fun b o e=>?_,fun b o e=>un.there b o e (by simp)⟩,os,bare⟩
    cases q:fv K a scr b with
    | none=>exact .inl (un.keep b o e q (by intro z;exact absurd (show b∈([]:List Addr) from z) (by simp)) (by simp))
    | some u =>
     rcases cs b (by rw [q];simp) with ⟨rfl,z⟩|z
     ·rw [atA] at q
      obtain ⟨⟨ob,xs,rfl⟩,_⟩:=hso u q
      have z1:fv K b scr b=some (.frz ob (.lst xs)):=by rw [atA];exact q
      have z2:=un.frzs b ob _ z1
      obtain ⟨e1,_⟩:=hok b _ z1
      obtain ⟨e2,_⟩:=hok' b _ z2
      rw [e] at e1;cases e1
      exact .inl e2
     ·obtain ⟨more,z2⟩:=un.tbls b _ (atT z)
      have e1:=tabAt z
      rw [e] at e1
      cases e1
      have e2:s'.heap.get? b=some { cls:=.none,data:=.fields (#[]++more) }:=hok' b _ z2
      obtain ⟨x,hx,c,et⟩:=z
      have ht0:=(LT.at_ x hx c b et)
      exact .inr (.inl ⟨(ht0.1.tab ht0.2).isCodeTable,rfl,#[],more,rfl,e2⟩)
 cases hk:K.lookup a with
 | some o =>
  have e:=KX a o hk
  rw [ha] at e
  cases e
  refine core none (fun _ z=>nomatch z) (.inr ⟨_,vs.toArray,_,hk,rfl,rfl,rfl,by rw [List.size_toArray,lenV];exact hl2,by simpa using rv⟩) (fun u z=>nomatch z) fun z=>absurd rfl z
 | none =>
  refine core (some (.frz { cls:=.type "list",data:=.seq vs.toArray } (.lst (ns.map V.int)))) (fun _ z=>nomatch z) (.inl (.inr ⟨{ cls:=.type "list",data:=.seq vs.toArray },if_pos rfl⟩)) (fun u z=>?_) fun _=>hk
  cases z
  exact ⟨⟨_,_,rfl⟩,ha,by rw [List.length_map];exact hl2,vs,_,rv,ha⟩
theorem walkF {l:PySem.W.OpenLaw} {q:Program} {loose:List Str} {XP:(Str→Option Value)→Heap→Prop} {YP:World→Heap→Prop} {d:DefRec} {K:Params→PySem.W.Frag} {k:Nat} {x:Str} (hn:l.most=some 63) (hdf:d.params.defaults=[]) (hr:Room k callerA)
  (hY:∀(w:World) (h:Heap),YP w h→(K w.params).In h)
  (F:∀(w:World) (mg:Str→Option Value) (fa:Addr) (h:Heap),(K w.params).In h→h.Ns mainGlobals mg→mg d.name=some (.ref fa) →
   ∃fd:FuncData,(∀(s:Shared) (u:Value),BindsTo s fd ⟨[u],[]⟩ [(x,u)])∧EV (K w.params)∧(∀x∈bG,PySem.W.tabIn (K w.params) x=none∨∃d,(recsOf q).find? (fun e=>e.name == x)=some d)∧∀base:Heap,(K w.params).In base→base.Ns mainGlobals mg→nh (K w.params) mg base→qu l.prog w (K w.params) mg base CX0 k fa fd [x] (aq (K w.params) js)) :
  PySem.W.WalkO q loose XP YP l.row.toRowW d [] (fun f vs=>PySem.call f vs):=by
 refine Att.attach_call hn hdf fun w s₀ s₁ mg mb fa o pm cd doc a vs ns G Y ho hd hcd hmg hobj hints hlen hg=>?_
 have KX:=hY w _ Y
 obtain ⟨fd,hb,hK,hq,hF⟩:=F w mg fa _ KX G.T.g hmg
 refine Aw KX G.T.g G.T.b G.T.builtins G.T.nolimit hg ⟨fun x hx c T e=>?_⟩ hK G.T.bmain hobj hints hlen hr hF hb
 rcases hq x hx with z|⟨d,r⟩
 ·rw [z] at e;cases e
 ·exact PySem.W.tab_of G.T KX r e
theorem Sub.refl (st:AH):Sub st st:=fun i _=>.inl rfl
theorem Tmp.app {st g:AH} {Q:EK} {v:PV} (h:v.bel st.length=true) (q:Q v st):Tmp st Q v (st++g):=⟨st,g,rfl,rfl,Sub.refl st,h,q⟩
theorem ar1 {P:List Value→Prop} (h:∀a,P [a]) (us:List Value) (hl:us.length=1):P us:=by
 match us,hl with
 | [a],_=>exact h a
theorem ar2 {P:List Value→Prop} (h:∀a b,P [a,b]) (us:List Value) (hl:us.length=2):P us:=by
 match us,hl with
 | [a,b],_=>exact h a b
theorem ar3 {P:List Value→Prop} (h:∀a b c,P [a,b,c]) (us:List Value) (hl:us.length=3):P us:=by
 match us,hl with
 | [a,b,c],_=>exact h a b c
theorem ar4 {P:List Value→Prop} (h:∀a b c d,P [a,b,c,d]) (us:List Value) (hl:us.length=4):P us:=by
 match us,hl with
 | [a,b,c,d],_=>exact h a b c d
end FW
set_option Elab.async false
set_option linter.all false
set_option maxRecDepth 100000
set_option maxHeartbeats 1000000
namespace FW
open PySem PySem.Spec PyProof.Rows L2 HX
section
variable {P:Program} {w:World} {K:PySem.W.Frag} {mg:Str→Option Value} {base:Heap} {c:Cfg} {Γ:Nat→FSp}
theorem wT {x:Str} (z:PySem.W.nsIn K mainGlobals x=some none):PySem.W.tabIn K x=none:=by
 unfold PySem.W.tabIn
 rw [z]
theorem Ep (h:∀x∈bG,PySem.W.tabIn K x=none∨∃c T,PySem.W.tabIn K x=some (c,T)∧K.lookup T=none∧∀y∈bG,y≠x→∀d,PySem.W.tabIn K y≠some (d,T)):EV K:=⟨fun x hx c T e=>by
 rcases h x hx with z|⟨c',T',z,n,u⟩
 ·rw [z] at e;cases e
 ·rw [z] at e
  cases e
  exact ⟨n,fun y hy d ed=>Classical.byContradiction fun q=>u y hy q d ed⟩⟩
end
end FW
set_option Elab.async false
set_option linter.all false
set_option maxRecDepth 100000
set_option maxHeartbeats 1000000
namespace FW
open PySem PySem.Spec PyProof.Rows L2 HX
section
variable {Γ:Nat→FSp} {ρ:Fr} {st:AH} {Q:EK} {D:aV} {a b c:E} {es:Es}
noncomputable def aft (Γ:Nat→FSp) (ss:Ss) (D:aV):aV:={ D with nx:=fun ρ' st'=>au Γ ss ρ' st' D }
noncomputable def LD (I:Fr→AH→Prop) (D:aV):aV:={ nx:=I,ct:=I,bk:=D.nx,rt:=D.rt }
noncomputable def GA (Γ:Nat→FSp) (t:Tg) (b:Ss) (chk:AH→Prop) (D:aV) (xs:List PV) (ρ:Fr) (st:AH):Prop:=si chk (fun x ρ' st' D'=>dP Γ t x ρ' st' fun ρ2 st2=>au Γ b ρ2 st2 D') D xs ρ st
noncomputable def Hg (Γ:Nat→FSp) (c:E) (b:Ss) (D:aV) (ρ:Fr) (st:AH):Prop:=∃n,fq (wpT Γ c) (au Γ b) D n ρ st
noncomputable def vE (Γ:Nat→FSp) (elt:E) (tg:Tg) (ifs:Es) (chk:AH→Prop) (ρ:Fr) (xs:List PV) (st:AH) (Q:LK):Prop :=
 e7 chk (fun x st2 k=>dP Γ tg x ρ st2 fun ρ' st3=>iJ Γ ifs ρ' st3 fun c st4=>if c=true then wpE Γ elt ρ' st4 fun v st5=>k (some v) st5 else k none st4) xs [] st Q
theorem on {ss:Ss}:(aft Γ ss D).nx ρ st=au Γ ss ρ st D:=rfl
theorem oz {ss:Ss} {v:PV}:(aft Γ ss D).rt v st=D.rt v st:=rfl
theorem o7 {ss:Ss}:(aft Γ ss D).bk ρ st=D.bk ρ st:=rfl
theorem nK {ss:Ss}:(aft Γ ss D).ct ρ st=D.ct ρ st:=rfl
theorem j9 {ss:Ss}:(aft Γ ss D).rt=D.rt:=rfl
theorem uM {I:Fr→AH→Prop}:(LD I D).nx ρ st=I ρ st:=rfl
theorem uI {I:Fr→AH→Prop}:(LD I D).ct ρ st=I ρ st:=rfl
theorem u8 {I:Fr→AH→Prop}:(LD I D).bk ρ st=D.nx ρ st:=rfl
theorem wx {I:Fr→AH→Prop} {v:PV}:(LD I D).rt v st=D.rt v st:=rfl
theorem nY {I:Fr→AH→Prop}:(LD I D).rt=D.rt:=rfl
theorem uc {st0:AH}:(af st0 Q).nx ρ st=Ret st0 Q .non st:=rfl
theorem wg {st0:AH} {v:PV}:(af st0 Q).rt v st=Ret st0 Q v st:=rfl
theorem oW {st0:AH}:(af st0 Q).rt=Ret st0 Q:=rfl
theorem jf {s s2:S} {ss:Ss}:au Γ (.cons s (.cons s2 ss)) ρ st D=wpS Γ s ρ st (aft Γ (.cons s2 ss) D):=rfl
theorem k_ {x:Ss}:wpS Γ (.whileS c x) ρ st D=Hg Γ c x D ρ st:=rfl
theorem wn {t:Tg} {it:It} {x:Ss}:wpS Γ (.forS t it x) ρ st D=jk Γ it ρ st fun xs chk st1=>GA Γ t x chk D xs ρ st1:=rfl
theorem oF {tg:Tg} {it:It} {ifs:Es} {nt:List Str} {caps:List Nat}:wpE Γ (.comp a tg it ifs nt caps) ρ st Q=jk Γ it ρ st fun xs chk st1 =>
  xs.length<100000∧vE Γ a tg ifs chk (nt.map (fun _=>none)++caps.map fun i=>(ρ[i]?).join) xs st1 fun vs st2=>Q (.ref st2.length) (st2++[.lst vs]):=rfl
theorem gR (G:b8 Γ) {t:Tg} {b:Ss} {chk:AH→Prop} {D:aV} (I:Nat→Fr→AH→Prop) {xs:List PV} {ρ:Fr} {st:AH} (h0:I 0 ρ st)
  (hs:∀i x ρ st,xs[i]?=some x→I i ρ st→chk st∧dP Γ t x ρ st (fun ρ2 st2=>au Γ b ρ2 st2 (LD (I (i+1)) D)))
  (hd:∀ρ st,I xs.length ρ st→chk st∧D.nx ρ st):GA Γ t b chk D xs ρ st:=by
 have key:∀(k i:Nat) (ρ:Fr) (st:AH),i+k=xs.length→I i ρ st→si chk (fun x ρ' st' D'=>dP Γ t x ρ' st' fun ρ2 st2=>au Γ b ρ2 st2 D') D (xs.drop i) ρ st:=by
  intro k
  induction k with
  | zero =>
   intro i ρ st hi h
   have:i=xs.length:=by omega
   subst this
   rw [List.drop_length]
   exact hd ρ st h
  | succ k ih =>
   intro i ρ st hi h
   have hlt:i<xs.length:=by omega
   rw [List.drop_eq_getElem_cons hlt]
   obtain ⟨h1,h2⟩:=hs i xs[i] ρ st (by simp [hlt]) h
   refine ⟨h1,bv G t (fun ρ2 st2 k2=>a_ G b ?_ k2) h2⟩
   exact ⟨fun ρ3 st3 z=>ih (i+1) ρ3 st3 (by omega) z,fun _ _ z=>z,fun _ _ z=>z,fun ρ3 st3 z=>ih (i+1) ρ3 st3 (by omega) z⟩
 have:=key xs.length 0 ρ st (by omega) h0
 rwa [List.drop_zero] at this
theorem je {c:Fr→AH→BK→Prop} {body:Fr→AH→aV→Prop} {D:aV} (hc:∀ρ st Q Q',(∀b st,Q b st→Q' b st)→c ρ st Q→c ρ st Q') (hb:∀ρ st D D',kX D D'→body ρ st D→body ρ st D') :
  ∀ {n k:Nat} {ρ:Fr} {st:AH},n≤k→fq c body D n ρ st→fq c body D k ρ st
 | 0,k,ρ,st,_,h=>h.elim
 | n+1,0,ρ,st,hk,h=>absurd hk (by omega)
 | n+1,k+1,ρ,st,hk,h=>by
  refine hc _ _ _ _ (fun b st1 z=>?_) h
  cases b with
  | false=>exact z
  | true =>
   rw [if_pos rfl] at z ⊢
   refine hb _ _ _ _ ?_ z
   exact ⟨fun _ _ z=>je hc hb (by omega) z,fun _ _ z=>z,fun _ _ z=>z,fun _ _ z=>je hc hb (by omega) z⟩
theorem oV (G:b8 Γ) {c:E} {b:Ss} {D:aV} (I:Nat→Fr→AH→Prop) {n:Nat} {ρ:Fr} {st:AH} (h0:I n ρ st)
  (hs:∀n ρ st,I n ρ st→wpT Γ c ρ st (fun k st1=>if k=true then au Γ b ρ st1 (LD (fun ρ' st'=>∃m,m<n∧I m ρ' st') D) else D.nx ρ st1)):Hg Γ c b D ρ st:=by
 have hc:∀ρ st Q Q',(∀b st,Q b st→Q' b st)→wpT Γ c ρ st Q→wpT Γ c ρ st Q':=fun _ _ _ _ hk z=>aQ G c hk z
 have hb:∀ρ st D D',kX D D'→au Γ b ρ st D→au Γ b ρ st D':=fun _ _ _ _ hk z=>a_ G b hk z
 have key:∀(k n:Nat),n<k→∀(ρ:Fr) (st:AH),I n ρ st→fq (wpT Γ c) (au Γ b) D (n+1) ρ st:=by
  intro k
  induction k with
  | zero=>intro n hn;exact absurd hn (by omega)
  | succ k ih =>
   intro n hn ρ st h
   refine hc _ _ _ _ (fun q st1 z=>?_) (hs n ρ st h)
   cases q with
   | false=>exact z
   | true =>
    rw [if_pos rfl] at z ⊢
    refine hb _ _ _ _ ?_ z
    exact ⟨fun ρ' st' ⟨m,hm,z⟩=>je hc hb (by omega) (ih m (by omega) ρ' st' z),fun _ _ z=>z,fun _ _ z=>z,fun ρ' st' ⟨m,hm,z⟩=>je hc hb (by omega) (ih m (by omega) ρ' st' z)⟩
 exact ⟨_,key (n+1) n (by omega) ρ st h0⟩
end
section
variable {Γ:Nat→FSp}
theorem jb (G:b8 Γ) {elt:E} {tg:Tg} {ifs:Es} {chk:AH→Prop} {ρ:Fr} {xs:List PV} {st:AH} {Q:LK} (I:Nat→List PV→AH→Prop) (h0:I 0 [] st)
  (hs:∀i x acc st,xs[i]?=some x→I i acc st→chk st∧dP Γ tg x ρ st fun ρ' st3=>iJ Γ ifs ρ' st3 fun c st4=>if c=true then wpE Γ elt ρ' st4 fun v st5=>I (i+1) (acc++[v]) st5 else I (i+1) acc st4)
  (hd:∀acc st,I xs.length acc st→chk st∧Q acc st):vE Γ elt tg ifs chk ρ xs st Q:=by
 have key:∀(k i:Nat) (acc:List PV) (st:AH),i+k=xs.length→I i acc st→e7 chk (fF Γ elt tg ifs ρ) (xs.drop i) acc st Q:=by
  intro k
  induction k with
  | zero =>
   intro i acc st hi h
   have:i=xs.length:=by omega
   subst this
   rw [List.drop_length]
   exact hd acc st h
  | succ k ih =>
   intro i acc st hi h
   have hlt:i<xs.length:=by omega
   rw [List.drop_eq_getElem_cons hlt]
   obtain ⟨h1,h2⟩:=hs i xs[i] acc st (by simp [hlt]) h
   refine ⟨h1,bv G tg (fun ρ2 st2 k2=>cY G ifs (fun c st4 k4=>?_) k2) h2⟩
   cases c with
   | true=>rw [if_pos rfl] at k4 ⊢;exact ab G elt (fun v st5 z=>ih (i+1) _ st5 (by omega) z) k4
   | false=>rw [if_neg Bool.false_ne_true] at k4 ⊢;simpa using ih (i+1) _ st4 (by omega) k4
 have:=key xs.length 0 [] st (by omega) h0
 rw [List.drop_zero] at this
 exact this
theorem comp_map (G:b8 Γ) {elt:E} {i:Nat} {chk:AH→Prop} {ρ:Fr} {xs:List PV} {st:AH} {Q:LK} (f:PV→PV) (hc:chk st) (hs:∀x∈xs,wpE Γ elt (ρ.set i (some x)) st fun v st'=>v=f x∧st'=st) (q:Q (xs.map f) st):vE Γ elt (.name i) .nil chk ρ xs st Q:=by
 refine jb G (fun j acc s=>s=st∧acc=(xs.take j).map f) ⟨rfl,by simp⟩ ?_ ?_
 ·rintro j x acc s hx ⟨rfl,rfl⟩
  refine ⟨hc,?_⟩
  simp only [eR,lw]
  rw [if_pos trivial]
  refine ab G elt (fun v st5 z=>?_) (hs x (List.mem_of_getElem? hx))
  obtain ⟨rfl,rfl⟩:=z
  refine ⟨rfl,?_⟩
  rw [List.take_add_one,hx]
  simp
 ·rintro acc s ⟨rfl,rfl⟩
  rw [List.take_length]
  exact ⟨hc,q⟩
theorem jg {f:PV→Bool}:∀ {xs:List PV},iU (xs.map fun x=>.bl (f x))=some (xs.map f)
 | []=>rfl
 | x::xs=>by simp only [List.map_cons,iU,jg (xs:=xs),Option.map_some]
end
section
variable {st:AH} {Q:EK} {i j:Int} {n k:Nat} {xs ys:List PV} {x y v:PV} {b b':Bool} {s s':Str} {kB:Bool→Prop} {BQ:BK}
theorem wo:jj .Add (.int i) (.int j) st Q=Q (.int (i+j)) st:=rfl
theorem uq:jj .Sub (.int i) (.int j) st Q=Q (.int (i-j)) st:=rfl
theorem wd:jj .Mult (.int i) (.int j) st Q=(CMB i j∧Q (.int (i*j)) st):=rfl
theorem tL:jj .FloorDiv (.int i) (.int j) st Q=(CBig j∧Q (.int (i/j)) st):=rfl
theorem vH:jj .Mod (.int i) (.int j) st Q=(0<j∧Q (.int (i % j)) st):=rfl
theorem vg:jj .Pow (.int i) (.int j) st Q=(xf i j∧Q (.int (i ^ j.toNat)) st):=rfl
theorem nJ:jj .Add (.ref n) (.ref k) st Q=∃xs ys,st[n]?=some (.lst xs)∧st[k]?=some (.lst ys)∧xs.length+ys.length≤100000∧Q (.ref st.length) (st++[.lst (xs++ys)]):=rfl
theorem oA:jj .Mult (.ref n) (.int i) st Q=∃xs,st[n]?=some (.lst xs)∧-(2 ^ 63)≤i∧i<2 ^ 63∧xs.length*i.toNat≤100000∧Q (.ref st.length) (st++[.lst (List.replicate i.toNat xs).flatten]):=rfl
theorem pI {a b:Str}:jj .Add (.str a) (.str b) st Q=(a.length+b.length≤100000∧Q (.str (a++b)) st):=rfl
theorem nM:jj .Add (.tup xs) (.tup ys) st Q=(xs.length+ys.length≤100000∧Q (.tup (xs++ys)) st):=rfl
theorem Ck:fu .Eq x y st Q=eqW st x y fun k=>Q (.bl k) st:=rfl
theorem Dn:fu .NotEq x y st Q=eqW st x y fun k=>Q (.bl (!k)) st:=rfl
theorem vP:fu .Is x .non st Q=Q (.bl (ij x)) st:=rfl
theorem vq:fu .Is x (.bl b) st Q=Q (.bl (mY b x)) st:=rfl
theorem nv:fu .IsNot x .non st Q=Q (.bl (!ij x)) st:=rfl
theorem pi:fu .IsNot x (.bl b) st Q=Q (.bl (!mY b x)) st:=rfl
theorem Bi:fu .Lt (.int i) (.int j) st Q=Q (.bl (decide (i<j))) st:=rfl
theorem BF:fu .LtE (.int i) (.int j) st Q=Q (.bl (decide (i≤j))) st:=rfl
theorem CA:fu .Gt (.int i) (.int j) st Q=Q (.bl (decide (j<i))) st:=rfl
theorem DO:fu .GtE (.int i) (.int j) st Q=Q (.bl (decide (j≤i))) st:=rfl
theorem uu:eqW st (.int i) (.int j) kB=kB (decide (i=j)):=rfl
theorem vN:eqW st (.bl b) (.bl b') kB=kB (decide (b=b')):=rfl
theorem vL:eqW st (.str s) (.str s') kB=kB (decide (s=s')):=rfl
theorem gk:ij .non=true:=rfl
theorem iS:ij (.bl b)=false:=rfl
theorem gL:ij (.int i)=false:=rfl
theorem gy:ij (.str s)=false:=rfl
theorem gg:ij (.tup xs)=false:=rfl
theorem gC:ij (.ref n)=false:=rfl
theorem kw:mY true (.bl true)=true:=rfl
theorem kg:mY true (.bl false)=false:=rfl
theorem kI:mY false (.bl true)=false:=rfl
theorem kC:mY false (.bl false)=true:=rfl
theorem iw:mY b (.int i)=false:=rfl
theorem iF:mY b .non=false:=rfl
theorem iZ:mY b (.tup xs)=false:=rfl
theorem fY:bi st (.tup xs)=some xs:=rfl
theorem gi:bi st (.rdl xs)=some xs:=rfl
theorem fj:bV st (.rdl xs)=some xs:=rfl
theorem aT (h:st[n]?=some (.lst xs)):bV st (.ref n)=some xs:=by simp [bV,h]
theorem ad (h:st[n]?=some (.lst xs)):bi st (.ref n)=some xs:=by simp [bi,bV,h]
theorem gH:cZ st .non=some "NoneType":=rfl
theorem iL:cZ st (.bl b)=some "bool":=rfl
theorem gI:cZ st (.int i)=some "int":=rfl
theorem gc:cZ st (.str s)=some "str":=rfl
theorem gF:cZ st (.tup xs)=some "tuple":=rfl
theorem gM:cZ st (.rdl xs)=some "list":=rfl
theorem vD {z:Str}:ixW (.str z) (.int i) st Q=(z.length≤100000∧∃c,atI z.cps.toList i=some c∧Q (.str ⟨#[c]⟩) st):=rfl
theorem uQ:ixW (.tup xs) (.int i) st Q=∃v,atI xs i=some v∧Q v st:=propext ⟨fun ⟨ys,e,q⟩=>by cases e;exact q,fun q=>⟨xs,rfl,q⟩⟩
theorem v8:ixW (.rdl xs) (.int i) st Q=∃v,atI xs i=some v∧Q v st:=propext ⟨fun ⟨ys,e,q⟩=>by cases e;exact q,fun q=>⟨xs,rfl,q⟩⟩
theorem tQ:ixW (.ref n) (.int i) st Q=∃xs,bi st (.ref n)=some xs∧∃v,atI xs i=some v∧Q v st:=rfl
theorem mI:atI (x::xs) 0=some x:=cA (j:=0) rfl
theorem my:atI (x::y::xs) 1=some y:=cA (j:=1) rfl
theorem tY:atI (x::y::v::xs) 2=some v:=cA (j:=2) rfl
theorem vI {u:PV}:atI (x::y::v::u::xs) 3=some u:=cA (j:=3) rfl
theorem t7 {lo hi:Option Int}:slW (.tup xs) lo hi st Q=Q (.tup (mM xs lo hi)) st:=rfl
theorem uE {lo hi:Option Int}:slW (.rdl xs) lo hi st Q=Q (.ref st.length) (st++[.lst (mM xs lo hi)]):=by simp [slW,bV]
theorem uZ {lo hi:Option Int} {z:Str}:slW (.str z) lo hi st Q=(z.length≤100000∧Q (.str (D3 z lo hi)) st):=rfl
theorem vF {lo hi:Option Int}:slW (.ref n) lo hi st Q=∃xs,bV st (.ref n)=some xs∧Q (.ref st.length) (st++[.lst (mM xs lo hi)]):=rfl
theorem n9 {z:Str}:fO .len [.str z] st Q=(z.length≤100000∧Q (.int z.length) st):=rfl
theorem Dc {a b:Str}:fu .In (.str a) (.str b) st Q=Q (.bl (!(Builtin.Str.occurrences b a 0 b.length 1).isEmpty)) st:=rfl
theorem tW:fu .In (.int i) (.tup xs) st Q=∃ns:List Int,xs=ns.map PV.int∧Q (.bl (ns.any fun j=>j == i)) st:=rfl
theorem wf:fu .NotIn (.int i) (.tup xs) st Q=∃ns:List Int,xs=ns.map PV.int∧Q (.bl (!(ns.any fun j=>j == i))) st:=rfl
theorem oH:fO .len [.tup xs] st Q=Q (.int xs.length) st:=propext ⟨fun ⟨ys,e,q⟩=>by cases e;exact q,fun q=>⟨xs,rfl,q⟩⟩
theorem pV:fO .len [.rdl xs] st Q=Q (.int xs.length) st:=propext ⟨fun ⟨ys,e,q⟩=>by cases e;exact q,fun q=>⟨xs,rfl,q⟩⟩
theorem nA:fO .len [.ref n] st Q=∃xs,bi st (.ref n)=some xs∧Q (.int xs.length) st:=rfl
theorem uO:fO .max2 [.int i,.int j] st Q=Q (.int (if i<j then j else i)) st:=rfl
theorem tX:fO .min2 [.int i,.int j] st Q=Q (.int (if j<i then j else i)) st:=rfl
theorem iY:fO .divmod [.int i,.int j] st Q=(CBig j∧Q (.tup [.int (i/j),.int (i % j)]) st):=rfl
theorem nw:fO .tuple1 [.tup xs] st Q=Q (.tup xs) st:=propext ⟨fun ⟨ys,e,q⟩=>by cases e;exact q,fun q=>⟨xs,rfl,q⟩⟩
theorem oj:fO .tuple1 [.ref n] st Q=∃xs,bi st (.ref n)=some xs∧Q (.tup xs) st:=rfl
theorem vJ:fO .all1 [x] st Q=∃xs bs,bV st x=some xs∧iU xs=some bs∧Q (.bl (bs.all id)) st:=rfl
theorem uX:fO .abs1 [.int i] st Q=Q (.int i.natAbs) st:=rfl
theorem vj:sL .append (.ref n) [v] st Q=∃xs,st[n]?=some (.lst xs)∧xs.length<100000∧Q .non (st.set n (.lst (xs++[v]))):=rfl
theorem ww:sL .pop0 (.ref n) [] st Q=∃xs v,st[n]?=some (.lst xs)∧xs[xs.length-1]?=some v∧Q v (st.set n (.lst xs.dropLast)):=rfl
theorem uj:sL .extend (.ref n) [.ref k] st Q=∃xs ys,st[n]?=some (.lst xs)∧st[k]?=some (.lst ys)∧xs.length+ys.length≤100000∧Q .non (st.set n (.lst (xs++ys))):=rfl
theorem DR:fX (.bl b) st BQ=BQ b st:=rfl
theorem A8:fX .non st BQ=BQ false st:=rfl
theorem DU:fX (.int i) st BQ=BQ (i != 0) st:=rfl
theorem Bx:fX (.tup xs) st BQ=BQ (!xs.isEmpty) st:=by simp [fX,bi]
theorem DA:fX (.ref n) st BQ=∃xs,bi st (.ref n)=some xs∧BQ (!xs.isEmpty) st:=rfl
theorem uT {kS:AH→Prop}:uN (.ref n) (.int j) v st kS=∃xs,st[n]?=some (.lst xs)∧∃q,ixN xs.length j=some q∧kS (st.set n (.lst (xs.set q v))):=rfl
theorem og:qF .Add (.int i) (.int j) st Q=Q (.int (i+j)) st:=rfl
theorem oo:qF .Add (.ref n) (.ref k) st Q=∃xs ys,st[n]?=some (.lst xs)∧st[k]?=some (.lst ys)∧xs.length+ys.length≤100000∧Q (.ref n) (st.set n (.lst (xs++ys))):=rfl
theorem oI:qF .Sub (.int i) (.int j) st Q=Q (.int (i-j)) st:=rfl
end
theorem oh:((0:Nat):Int)=0:=rfl
theorem nW:((1:Nat):Int)=1:=rfl
theorem pD:((2:Nat):Int)=2:=rfl
theorem nX:((3:Nat):Int)=3:=rfl
theorem o0:((4:Nat):Int)=4:=rfl
theorem nC:((5:Nat):Int)=5:=rfl
theorem oM:((6:Nat):Int)=6:=rfl
theorem dN {s g:AH} {k:Nat}:(s++g)[s.length+k]?=g[k]?:=by
 rw [List.getElem?_append_right (Nat.le_add_right _ _),Nat.add_sub_cancel_left]
theorem e_ {s g:AH}:(s++g)[s.length]?=g[0]?:=dN (k:=0)
theorem aA {st:AH} {c:Cell}:(st++[c])[st.length]?=some c:=by simp
theorem aC {st g:AH} {n:Nat} {c:Cell} (h:st[n]?=some c):(st++g)[n]?=some c:=by
 rw [List.getElem?_append_left (List.getElem?_eq_some_iff.mp h).1]
 exact h
theorem cW {st:AH} {n:Nat} {c:Cell} (h:st[n]?=some c):n<st.length:=(List.getElem?_eq_some_iff.mp h).1
end FW
set_option Elab.async false
set_option linter.all false
set_option maxRecDepth 100000
set_option maxHeartbeats 4000000
namespace My
open PySem L2 HX FW
noncomputable def top (i:Nat):Stmt:=PySem.Challenge.pw_hourstairs_k42_whole_lesser_of_two.main.body.getD i (.Pass ⟨0,0,0,0⟩)
theorem mz {st:AH} {v:PV} (h:v.bel st.length=true):∃n,cZ st v=some n:=by
 cases v with
 | ref k =>
  rw [PV.bel] at h
  have hk:=of_decide_eq_true h
  have e:st[k]?=some st[k]:=List.getElem?_eq_getElem hk
  cases q:st[k] with
  | lst xs=>exact ⟨"list",by simp [cZ,e,q]⟩
  | dk xs=>exact ⟨"dict",by simp [cZ,e,q]⟩
 | fn a=>rw [PV.bel] at h;cases h
 | _=>exact ⟨_,rfl⟩
noncomputable def li:PV→Bool
 | .int _=>true
 | _=>false
theorem xn {st:AH} {v:PV} {n:String} (h:cZ st v=some n):li v=(dJ "int" n && !dJ "bool" n):=by
 cases v with
 | ref k =>
  unfold cZ at h
  simp only at h
  split at h <;> cases h <;> rfl
 | fn a=>cases h
 | _=>cases h;rfl
noncomputable def rF:PV→Bool
 | .tup [.int n,.int d]=>decide (0≤n∧1≤d∧Nat.gcd n.natAbs d.natAbs=1)
 | _=>false
theorem yj {st:AH} {v:PV} {n:String} (h:cZ st v=some n):(dJ "tuple" n=true→∃xs,v=.tup xs)∧(dJ "tuple" n=false→rF v=false):=by
 cases v with
 | tup xs=>cases h;exact ⟨fun _=>⟨xs,rfl⟩,fun z=>absurd z (by decide)⟩
 | ref k =>
  unfold cZ at h
  simp only at h
  split at h <;> cases h <;> exact ⟨fun z=>absurd z (by decide),fun _=>rfl⟩
 | fn a=>cases h
 | _=>cases h;exact ⟨fun z=>absurd z (by decide),fun _=>rfl⟩
theorem vk {x y:PV}:rF (.tup [x,y])=(match x,y with | .int n,.int d=>decide (0≤n∧1≤d∧Nat.gcd n.natAbs d.natAbs=1)|_,_=>false):=by
 cases x <;> cases y <;> rfl
theorem BH {xs:List PV} (hl:xs.length≠2):rF (.tup xs)=false:=by
 match xs,hl with
 | [],_=>rfl
 | [x],_=>cases x <;> rfl
 | [_,_],hl=>exact absurd rfl hl
 | x::y::_::_,_=>cases x <;> cases y <;> rfl
theorem vQ {n d:Int} (h0:0≤n) (h1:1≤d):decide (((Nat.gcd n.toNat d.toNat:Nat):Int)=1)=decide (0≤n∧1≤d∧Nat.gcd n.natAbs d.natAbs=1):=by
 have e1:n.natAbs=n.toNat:=by omega
 have e2:d.natAbs=d.toNat:=by omega
 rw [e1,e2]
 simp [h0,h1]
 omega
theorem na {n d:Nat} (h:0<d) (h2:d<2 ^ 8000):CBig (Nat.gcd n d:Nat):=by
 have h3:0<Nat.gcd n d:=Nat.gcd_pos_of_pos_right _ h
 have h4:Nat.gcd n d≤d:=Nat.gcd_le_right _ h
 refine ⟨by omega,?_⟩
 have h5:((Nat.gcd n d:Nat):Int).natAbs=Nat.gcd n d:=rfl
 rw [h5]
 have:Nat.gcd n d<2 ^ 8000:=Nat.lt_of_le_of_lt h4 h2
 have:=(Nat.log2_lt (by omega)).mpr this
 omega
noncomputable abbrev pc (q r:Int):Cell:=.lst [.int q,.int r]
theorem Hq {q r:Int} {k:Nat}:(pc q r).bel k=true:=by simp [pc,Cell.bel,PV.bels,PV.bel]
theorem IB:xf 10 18:=⟨by decide,by decide,by decide⟩
theorem yT {j:Int} (h:0<j) (h2:j<2 ^ 200):CBig j:=CBig.of h (Int.lt_of_lt_of_le h2 (by
 have:((2:Int) ^ 200)=((2 ^ 200:Nat):Int):=by rw [Int.natCast_pow];rfl
 have e2:((2:Int) ^ 8999)=((2 ^ 8999:Nat):Int):=by rw [Int.natCast_pow];rfl
 rw [this,e2]
 exact Int.ofNat_le.mpr (Nat.pow_le_pow_right (by decide) (by decide))))
theorem uU {i j:Int} (h1:-(2 ^ 64)<i) (h2:i<2 ^ 64):CMB i j:=.inr (.inl ⟨h1,h2⟩)
theorem Io {i j:Int} (h1:-(2 ^ 64)<j) (h2:j<2 ^ 64):CMB i j:=.inr (.inr ⟨h1,h2⟩)
theorem A4 {ns:List Int} {k:Nat} (h:k<ns.length):atI (ns.map PV.int) (k:Int)=some (.int (ns.getD k 0)):=by
 refine cA ?_
 rw [List.getElem?_map,List.getD_eq_getElem?_getD,List.getElem?_eq_getElem h]
 rfl
theorem Eb {n d:Nat} (h:0<d):Nat.gcd (n/Nat.gcd n d) (d/Nat.gcd n d)=1:=Nat.gcd_div_gcd_div_gcd_of_pos_right h
theorem EE {n d:Nat} (h:0<d):0<d/Nat.gcd n d:=Nat.div_pos (Nat.gcd_le_right _ h) (Nat.gcd_pos_of_pos_right _ h)
theorem xH (n d:Nat):n/Nat.gcd n d*d=n*(d/Nat.gcd n d):=by
 obtain ⟨a,ha⟩:=Nat.gcd_dvd_left n d
 obtain ⟨b,hb⟩:=Nat.gcd_dvd_right n d
 by_cases h:Nat.gcd n d=0
 ·rw [h,Nat.div_zero,Nat.div_zero,Nat.zero_mul,Nat.mul_zero]
 ·have e1:n/Nat.gcd n d=a:=by rw [Nat.div_eq_of_eq_mul_right (by omega) ha]
  have e2:d/Nat.gcd n d=b:=by rw [Nat.div_eq_of_eq_mul_right (by omega) hb]
  rw [e1,e2]
  generalize Nat.gcd n d=g at *
  subst ha hb
  rw [←Nat.mul_assoc,Nat.mul_comm a g]
theorem nu {n i:Nat} {v:PV} (h:(eP 0 ((n:Int).toNat))[i]?=some v):v=.int i∧i<n:=by
 unfold eP at h
 rw [List.getElem?_map] at h
 have hi:i<n:=by
  by_cases hi:i<n
  ·exact hi
  ·rw [List.getElem?_eq_none (by simp;omega)] at h;cases h
 rw [List.getElem?_range (by simpa using hi)] at h
 cases h
 exact ⟨by simp,hi⟩
theorem q8 {st:AH} {a b:Int}:oY st (.tup [.int a,.int b])=some (.tuple [.int a,.int b]):=by simp [oY,PV.toD,PV.toDs]
theorem mJ (a b:Int):SeqAt.shaped (.tuple [.int a,.int b])=true:=by
 simp [SeqAt.shaped,PyData.canLay0,PyData.canLayAll0,PyData.depth,PyData.depthAll]
theorem Ca (a b c d:Int):PyData.eqv (.tuple [.int a,.int b]) (.tuple [.int c,.int d])=(decide (a=c) && decide (b=d)):=by
 simp [PyData.eqv,PyData.eqvAll,Bool.beq_eq_decide_eq]
theorem BM {st:AH} {a b c d:Int} {k:Bool→Prop} (h:k (decide (a=c) && decide (b=d))):eqW st (.tup [.int a,.int b]) (.tup [.int c,.int d]) k :=
 ⟨_,_,q8,q8,mJ _ _,mJ _ _,by rw [Ca];exact h⟩
noncomputable def dy:FSp:=fun as st Q=>∃v,as=[v]∧v.bel st.length=true∧Q (.bl (li v)) st
theorem qB {as st Q Q'} (h:∀v st,Q v st→Q' v st) (q:dy as st Q):dy as st Q':=by obtain ⟨v,e,b,q⟩:=q;exact ⟨v,e,b,h _ _ q⟩
theorem sh {as st Q} (q:dy as st Q):as.length=1:=by obtain ⟨v,rfl,_⟩:=q;rfl
noncomputable def ba:FSp:=fun as st Q=>∃n d:Nat,as=[.int n,.int d]∧Q (.int (Nat.gcd n d:Nat)) st
theorem ji {as st Q Q'} (h:∀v st,Q v st→Q' v st) (q:ba as st Q):ba as st Q':=by obtain ⟨n,d,e,q⟩:=q;exact ⟨n,d,e,h _ _ q⟩
theorem jF {as st Q} (q:ba as st Q):as.length=2:=by obtain ⟨n,d,rfl,_⟩:=q;rfl
noncomputable def bT:FSp:=fun as st Q=>∃v,as=[v]∧v.bel st.length=true∧Q (.bl (rF v)) st
theorem lj {as st Q Q'} (h:∀v st,Q v st→Q' v st) (q:bT as st Q):bT as st Q':=by obtain ⟨v,e,b,q⟩:=q;exact ⟨v,e,b,h _ _ q⟩
theorem m5 {as st Q} (q:bT as st Q):as.length=1:=by obtain ⟨v,rfl,_⟩:=q;rfl
noncomputable abbrev low (n d:Nat):PV:=.tup [.int (n/Nat.gcd n d:Nat),.int (d/Nat.gcd n d:Nat)]
noncomputable def dv:FSp:=fun as st Q=>∃n d:Nat,as=[.int n,.int d]∧0<d∧d<2 ^ 8000∧Q (low n d) st
theorem qy {as st Q Q'} (h:∀v st,Q v st→Q' v st) (q:dv as st Q):dv as st Q':=by obtain ⟨n,d,e,h1,h2,q⟩:=q;exact ⟨n,d,e,h1,h2,h _ _ q⟩
theorem td {as st Q} (q:dv as st Q):as.length=2:=by obtain ⟨n,d,rfl,_⟩:=q;rfl
noncomputable abbrev fr (p:Nat × Nat):PV:=.tup [.int p.1,.int p.2]
noncomputable def aH (n d:Nat):Nat × Nat:=(n/Nat.gcd n d,d/Nat.gcd n d)
theorem Aj (n d:Nat):low n d=fr (aH n d):=rfl
theorem xS (n d:Nat):(aH n d).1*d=n*(aH n d).2:=xH n d
theorem dI {n d:Nat} (h:0<d):0<(aH n d).2:=EE h
theorem vB {n d:Nat} (h:0<d):Nat.gcd (aH n d).1 (aH n d).2=1:=Eb h
theorem j6 (n d:Nat):(aH n d).1≤n:=Nat.div_le_self _ _
theorem kv (n d:Nat):(aH n d).2≤d:=Nat.div_le_self _ _
theorem HA {a b c d:Nat} (h1:Nat.gcd a b=1) (h2:Nat.gcd c d=1) (hb:0<b) (hd:0<d) (h:a*d=c*b):a=c∧b=d:=by
 have hbd:b ∣ d:=by
  have:b ∣ a*d:=⟨c,by rw [h,Nat.mul_comm]⟩
  exact Nat.Coprime.dvd_of_dvd_mul_left (show Nat.Coprime b a by unfold Nat.Coprime;rw [Nat.gcd_comm];exact h1) this
 have hdb:d ∣ b:=by
  have:d ∣ c*b:=⟨a,by rw [←h,Nat.mul_comm]⟩
  exact Nat.Coprime.dvd_of_dvd_mul_left (show Nat.Coprime d c by unfold Nat.Coprime;rw [Nat.gcd_comm];exact h2) this
 have e:b=d:=Nat.dvd_antisymm hbd hdb
 subst e
 exact ⟨Nat.eq_of_mul_eq_mul_right hb h,rfl⟩
noncomputable def zF (p q:Nat × Nat):Nat × Nat:=aH (p.1*q.2+q.1*p.2) (p.2*q.2)
noncomputable def mo (p q:Nat × Nat):Nat × Nat:=aH (p.1*q.2-q.1*p.2) (p.2*q.2)
noncomputable def uh (p q:Nat × Nat):Nat × Nat:=aH (p.1*q.1) (p.2*q.2)
structure Cop (p:Nat × Nat):Prop where
 pos:0<p.2
 one:Nat.gcd p.1 p.2=1
theorem Cop.low {n d:Nat} (h:0<d):Cop (aH n d):=⟨dI h,vB h⟩
theorem Cop.ext {p q:Nat × Nat} (h1:Cop p) (h2:Cop q) (h:p.1*q.2=q.1*p.2):p=q:=by
 obtain ⟨e1,e2⟩:=HA h1.one h2.one h1.pos h2.pos h
 exact Prod.ext e1 e2
theorem Cop.isFr {p:Nat × Nat} (h:Cop p):rF (fr p)=true:=by
 show rF (.tup [.int _,.int _])=true
 rw [vk]
 refine decide_eq_true ⟨Int.natCast_nonneg _,Int.ofNat_le.mpr h.pos,?_⟩
 rw [Int.natAbs_natCast,Int.natAbs_natCast]
 exact h.one
theorem DF {p q:Nat × Nat} (hp:0<p.2) (hq:0<q.2):Cop (zF p q):=.low (Nat.mul_pos hp hq)
theorem dg {p q:Nat × Nat} (hp:0<p.2) (hq:0<q.2):Cop (mo p q):=.low (Nat.mul_pos hp hq)
theorem kH {p q:Nat × Nat} (hp:0<p.2) (hq:0<q.2):Cop (uh p q):=.low (Nat.mul_pos hp hq)
structure Sz (k:Nat) (p:Nat × Nat):Prop where
 a:p.1<2 ^ k
 b:p.2<2 ^ k
 pos:0<p.2
theorem Sz.mono {j k:Nat} {p:Nat × Nat} (h:Sz j p) (hk:j≤k):Sz k p:=⟨Nat.lt_of_lt_of_le h.a (Nat.pow_le_pow_right (by decide) hk),Nat.lt_of_lt_of_le h.b (Nat.pow_le_pow_right (by decide) hk),h.pos⟩
theorem aB {a b j k:Nat} (h1:a<2 ^ j) (h2:b<2 ^ k):a*b<2 ^ (j+k):=by
 rw [Nat.pow_add]
 by_cases hb:b=0
 ·subst hb
  simp only [Nat.mul_zero]
  exact Nat.mul_pos (by omega) (by omega)
 ·exact Nat.lt_of_lt_of_le (Nat.mul_lt_mul_of_pos_right h1 (by omega)) (Nat.mul_le_mul_left _ (Nat.le_of_lt h2))
theorem D2 {p q:Nat × Nat} {j k:Nat} (hp:Sz j p) (hq:Sz k q):Sz (j+k+1) (zF p q):=by
 have h1:=aB hp.a hq.b
 have h2:=aB hq.a hp.b
 rw [Nat.add_comm k j] at h2
 have h3:=aB hp.b hq.b
 have h4:(2:Nat) ^ (j+k+1)=2*2 ^ (j+k):=by rw [Nat.pow_succ,Nat.mul_comm]
 refine ⟨Nat.lt_of_le_of_lt (j6 _ _) (by omega),Nat.lt_of_le_of_lt (kv _ _) (by omega),dI (Nat.mul_pos hp.pos hq.pos)⟩
theorem i8 {p q:Nat × Nat} {j k:Nat} (hp:Sz j p) (hq:Sz k q):Sz (j+k) (mo p q):=by
 have h1:=aB hp.a hq.b
 have h3:=aB hp.b hq.b
 refine ⟨Nat.lt_of_le_of_lt (j6 _ _) (by omega),Nat.lt_of_le_of_lt (kv _ _) (by omega),dI (Nat.mul_pos hp.pos hq.pos)⟩
noncomputable def Jq (p q:Nat × Nat):Prop:=p.1*q.2<q.1*p.2
noncomputable instance (p q:Nat × Nat):Decidable (Jq p q):=inferInstanceAs (Decidable (_<_))
mutual
noncomputable def aW:Nat→PV→Bool
 | _,.int _=>true
 | _,.non=>true
 | 0,.tup _=>false
 | n+1,.tup xs=>cO n xs
 | _,.bl _=>false
 | _,.str _=>false
 | _,.ref _=>false
 | _,.rdl _=>false
 | _,.fn _=>false
noncomputable def cO:Nat→List PV→Bool
 | _,[]=>true
 | n,x::xs=>aW n x && cO n xs
end
mutual
theorem iu:∀ {n:Nat} {v:PV},aW n v=true→∃d,v.toD=some d∧d.canLay0=true∧d.depth≤n+1
 | n,.int i,_=>⟨.int i,by simp [PV.toD],by simp [PyData.canLay0],by simp [PyData.depth]⟩
 | n,.non,_=>⟨.none,by simp [PV.toD],by simp [PyData.canLay0],by simp [PyData.depth]⟩
 | 0,.tup xs,h=>by simp [aW] at h
 | n+1,.tup xs,h=>by
  rw [aW] at h
  obtain ⟨ds,e,h1,h2⟩:=cw h
  exact ⟨.tuple ds,by simp [PV.toD,e],by simp [PyData.canLay0,h1],by simp [PyData.depth];omega⟩
 | n,.bl _,h=>by cases n <;> simp [aW] at h
 | n,.str _,h=>by cases n <;> simp [aW] at h
 | n,.ref _,h=>by cases n <;> simp [aW] at h
 | n,.rdl _,h=>by cases n <;> simp [aW] at h
 | n,.fn _,h=>by cases n <;> simp [aW] at h
theorem cw:∀ {n:Nat} {vs:List PV},cO n vs=true→∃ds,PV.toDs vs=some ds∧PyData.canLayAll0 ds=true∧PyData.depthAll ds≤n+1
 | n,[],_=>⟨[],by simp [PV.toDs],by simp [PyData.canLayAll0],by simp [PyData.depthAll]⟩
 | n,x::xs,h=>by
  rw [cO,Bool.and_eq_true] at h
  obtain ⟨d,e1,h1,h2⟩:=iu h.1
  obtain ⟨ds,e2,h3,h4⟩:=cw h.2
  exact ⟨d::ds,by simp [PV.toDs,e1,e2],by simp [PyData.canLayAll0,h1,h3],by simp [PyData.depthAll];omega⟩
end
mutual
theorem rD:∀ {n:Nat} {v w:PV} {d e:PyData},aW n v=true→aW n w=true→v.toD=some d→w.toD=some e→PyData.eqv d e=v.same w
 | n,.int i,w,d,e,_,hw,hd,he=>by
  simp [PV.toD] at hd
  subst hd
  cases w with
  | int j=>simp [PV.toD] at he;subst he;simp [PyData.eqv,PV.same,Bool.beq_eq_decide_eq]
  | non=>simp [PV.toD] at he;subst he;simp [PyData.eqv,PV.same]
  | tup ys =>
   cases n with
   | zero=>simp [aW] at hw
   | succ n =>
    rw [aW] at hw
    obtain ⟨ds,e1,h1,h2⟩:=cw hw
    simp [PV.toD,e1] at he
    subst he
    simp [PyData.eqv,PV.same]
  | _=>cases n <;> simp [aW] at hw
 | n,.non,w,d,e,_,hw,hd,he=>by
  simp [PV.toD] at hd
  subst hd
  cases w with
  | int j=>simp [PV.toD] at he;subst he;simp [PyData.eqv,PV.same]
  | non=>simp [PV.toD] at he;subst he;simp [PyData.eqv,PV.same]
  | tup ys =>
   cases n with
   | zero=>simp [aW] at hw
   | succ n =>
    rw [aW] at hw
    obtain ⟨ds,e1,h1,h2⟩:=cw hw
    simp [PV.toD,e1] at he
    subst he
    simp [PyData.eqv,PV.same]
  | _=>cases n <;> simp [aW] at hw
 | 0,.tup xs,w,d,e,hv,_,_,_=>by simp [aW] at hv
 | n+1,.tup xs,w,d,e,hv,hw,hd,he=>by
  rw [aW] at hv
  obtain ⟨ds,e1,h1,h2⟩:=cw hv
  simp [PV.toD,e1] at hd
  subst hd
  cases w with
  | int j=>simp [PV.toD] at he;subst he;simp [PyData.eqv,PV.same]
  | non=>simp [PV.toD] at he;subst he;simp [PyData.eqv,PV.same]
  | tup ys =>
   rw [aW] at hw
   obtain ⟨es,e2,h3,h4⟩:=cw hw
   simp [PV.toD,e2] at he
   subst he
   simp only [PyData.eqv,PV.same]
   exact pR hv hw e1 e2
  | _=>simp [aW] at hw
 | n,.bl _,_,_,_,h,_,_,_=>by cases n <;> simp [aW] at h
 | n,.str _,_,_,_,h,_,_,_=>by cases n <;> simp [aW] at h
 | n,.ref _,_,_,_,h,_,_,_=>by cases n <;> simp [aW] at h
 | n,.rdl _,_,_,_,h,_,_,_=>by cases n <;> simp [aW] at h
 | n,.fn _,_,_,_,h,_,_,_=>by cases n <;> simp [aW] at h
theorem pR:∀ {n:Nat} {vs ws:List PV} {ds es:List PyData},cO n vs=true→cO n ws=true→PV.toDs vs=some ds→PV.toDs ws=some es→PyData.eqvAll ds es=PV.sames vs ws
 | n,[],ws,ds,es,_,hw,hd,he=>by
  simp [PV.toDs] at hd
  subst hd
  cases ws with
  | nil=>simp [PV.toDs] at he;subst he;simp [PyData.eqvAll,PV.sames]
  | cons y ys =>
   obtain ⟨zs,e1,h1,h2⟩:=cw hw
   rw [e1] at he
   cases he
   cases es with
   | nil =>
    rw [PV.toDs] at e1
    split at e1 <;> simp at e1
   | cons=>simp [PyData.eqvAll,PV.sames]
 | n,x::xs,ws,ds,es,hv,hw,hd,he=>by
  rw [cO,Bool.and_eq_true] at hv
  obtain ⟨d1,a1,b1,c1⟩:=iu hv.1
  obtain ⟨ds1,a2,b2,c2⟩:=cw hv.2
  simp [PV.toDs,a1,a2] at hd
  subst hd
  cases ws with
  | nil=>simp [PV.toDs] at he;subst he;simp [PyData.eqvAll,PV.sames]
  | cons y ys =>
   rw [cO,Bool.and_eq_true] at hw
   obtain ⟨d3,a3,b3,c3⟩:=iu hw.1
   obtain ⟨ds4,a4,b4,c4⟩:=cw hw.2
   simp [PV.toDs,a3,a4] at he
   subst he
   rw [PyData.eqvAll,PV.sames,rD hv.1 hw.1 a1 a3,pR hv.2 hw.2 a2 a4]
end
theorem wz {st:AH} {v:PV} {d:PyData} (h:v.toD=some d):oY st v=some d:=by
 cases v with
 | ref n=>simp [PV.toD] at h
 | _=>exact h
theorem d6 {st:AH} {n:Nat} {v w:PV} {k:Bool→Prop} (hn:n≤60) (hv:aW n v=true) (hw:aW n w=true) (h:k (v.same w)):eqW st v w k:=by
 obtain ⟨d,e1,h1,h2⟩:=iu hv
 obtain ⟨e,e2,h3,h4⟩:=iu hw
 have big:∃d e,oY st v=some d∧oY st w=some e∧SeqAt.shaped d=true∧SeqAt.shaped e=true∧k (PyData.eqv d e):=by
  refine ⟨d,e,wz e1,wz e2,?_,?_,?_⟩
  ·simp [SeqAt.shaped,h1];omega
  ·simp [SeqAt.shaped,h3];omega
  ·rw [rD hv hw e1 e2];exact h
 cases v with
 | int i =>
  cases w with
  | int j =>
   show k (decide (i=j))
   simp only [PV.same,Bool.beq_eq_decide_eq] at h
   exact h
  | _=>exact big
 | bl i=>cases n <;> simp [aW] at hv
 | str i=>cases n <;> simp [aW] at hv
 | _=>exact big
mutual
theorem cC:∀(v:PV),v.same v=true
 | .non=>by simp [PV.same]
 | .bl _=>by simp [PV.same]
 | .int _=>by simp [PV.same]
 | .str _=>by simp [PV.same]
 | .ref _=>by simp [PV.same]
 | .fn _=>by simp [PV.same]
 | .tup xs=>by rw [PV.same];exact g_ xs
 | .rdl xs=>by rw [PV.same];exact g_ xs
theorem g_:∀(vs:List PV),PV.sames vs vs=true
 | []=>by simp [PV.sames]
 | x::xs=>by rw [PV.sames,cC x,g_ xs];rfl
end
theorem eW {n:Nat}:∀ {vs:List PV},(∀v∈vs,aW n v=true)→cO n vs=true
 | [],_=>by rw [cO]
 | x::xs,h=>by rw [cO,h x (by simp),eW fun v hv=>h v (by simp [hv])];rfl
theorem rJ {n:Nat} {vs:List PV} (h:∀v∈vs,aW n v=true):aW (n+1) (.tup vs)=true:=by rw [aW];exact eW h
noncomputable def i_:FSp:=fun as st Q=>∃p q,as=[fr p,fr q]∧Sz 3000 p∧Sz 3000 q∧Q (fr (zF p q)) st
theorem zk {as st Q Q'} (h:∀v st,Q v st→Q' v st) (q:i_ as st Q):i_ as st Q':=by obtain ⟨a,b,e,h1,h2,q⟩:=q;exact ⟨a,b,e,h1,h2,h _ _ q⟩
theorem CJ {as st Q} (q:i_ as st Q):as.length=2:=by obtain ⟨n,d,rfl,_⟩:=q;rfl
noncomputable def jd:FSp:=fun as st Q=>∃p q,as=[fr p,fr q]∧Sz 3000 p∧Sz 3000 q∧q.1*p.2≤p.1*q.2∧Q (fr (mo p q)) st
theorem AS {as st Q Q'} (h:∀v st,Q v st→Q' v st) (q:jd as st Q):jd as st Q':=by obtain ⟨a,b,e,h1,h2,h3,q⟩:=q;exact ⟨a,b,e,h1,h2,h3,h _ _ q⟩
theorem CI {as st Q} (q:jd as st Q):as.length=2:=by obtain ⟨n,d,rfl,_⟩:=q;rfl
noncomputable def f':FSp:=fun as st Q=>∃p q,as=[fr p,fr q]∧Sz 3000 p∧Sz 3000 q∧Q (fr (uh p q)) st
theorem xV {as st Q Q'} (h:∀v st,Q v st→Q' v st) (q:f' as st Q):f' as st Q':=by obtain ⟨a,b,e,h1,h2,q⟩:=q;exact ⟨a,b,e,h1,h2,h _ _ q⟩
theorem Al {as st Q} (q:f' as st Q):as.length=2:=by obtain ⟨n,d,rfl,_⟩:=q;rfl
noncomputable def dt:FSp:=fun as st Q=>∃p q,as=[fr p,fr q]∧Sz 3000 p∧Sz 3000 q∧Q (.bl (decide (p.1*q.2<q.1*p.2))) st
theorem qd {as st Q Q'} (h:∀v st,Q v st→Q' v st) (q:dt as st Q):dt as st Q':=by obtain ⟨a,b,e,h1,h2,q⟩:=q;exact ⟨a,b,e,h1,h2,h _ _ q⟩
theorem sg {as st Q} (q:dt as st Q):as.length=2:=by obtain ⟨n,d,rfl,_⟩:=q;rfl
theorem bP {j k:Nat} (h:j≤k):(2:Nat) ^ j≤2 ^ k:=Nat.pow_le_pow_right (by decide) h
theorem bB {a b:Nat} (h1:a<2 ^ 3000) (h2:b<2 ^ 3000):CMB (a:Int) (b:Int):=.inl ⟨Nat.lt_of_lt_of_le h1 (bP (by decide)),Nat.lt_of_lt_of_le h2 (bP (by decide))⟩
theorem GN {a b:Nat} (h1:a<2 ^ 3000) (h2:b<2 ^ 3000):a*b<2 ^ 8000:=Nat.lt_of_lt_of_le (aB h1 h2) (bP (by decide))
theorem xQ {p:Nat × Nat} {k:Nat}:(fr p).bel k=true:=by simp [fr,PV.bel,PV.bels]
theorem jS {st:AH} {p q:Nat × Nat} {k:Bool→Prop} (h:k (decide (p=q))):eqW st (fr p) (fr q) k:=by
 refine BM ?_
 have:(decide ((p.1:Int)=q.1) && decide ((p.2:Int)=q.2))=decide (p=q):=by
  rw [Bool.eq_iff_iff]
  simp only [Bool.and_eq_true,decide_eq_true_eq]
  constructor
  ·rintro ⟨h1,h2⟩;exact Prod.ext (by omega) (by omega)
  ·rintro rfl;exact ⟨rfl,rfl⟩
 rw [this]
 exact h
noncomputable def PK (q r:Int):Prop:=0≤q∧0≤r∧r<8589934592
noncomputable def Pot (st:AH) (p:Nat):Prop:=∃q r,st[p]?=some (pc q r)∧PK q r
theorem Pot.lt {st:AH} {p:Nat} (h:Pot st p):p<st.length:=by obtain ⟨q,r,e,_⟩:=h;exact cW e
theorem Pot.app {st g:AH} {p:Nat} (h:Pot st p):Pot (st++g) p:=by obtain ⟨q,r,e,z⟩:=h;exact ⟨q,r,aC e,z⟩
structure Gr (st:AH) (p:Nat) (st':AH):Prop where
 len:st.length≤st'.length
 old:∀i,i<st.length→i≠p→st'[i]?=st[i]?
 pot:Pot st' p
 was:p<st.length
theorem Gr.refl {st:AH} {p:Nat} (h:Pot st p):Gr st p st:=⟨Nat.le_refl _,fun _ _ _=>rfl,h,h.lt⟩
theorem Gr.trans {st s1 s2:AH} {p:Nat} (a:Gr st p s1) (b:Gr s1 p s2):Gr st p s2:=⟨Nat.le_trans a.len b.len,fun i h1 h2=>(b.old i (Nat.lt_of_lt_of_le h1 a.len) h2).trans (a.old i h1 h2),b.pot,a.was⟩
theorem Gr.app {st s1 g:AH} {p:Nat} (a:Gr st p s1):Gr st p (s1++g) :=
 ⟨by rw [List.length_append];exact Nat.le_trans a.len (Nat.le_add_right _ _),fun i h1 h2=>by rw [List.getElem?_append_left (Nat.lt_of_lt_of_le h1 a.len)];exact a.old i h1 h2,a.pot.app,a.was⟩
theorem Gr.set {st s1:AH} {p:Nat} (a:Gr st p s1) {q r:Int} (z:PK q r):Gr st p (s1.set p (pc q r)) :=
 ⟨by rw [List.length_set];exact a.len,fun i h1 h2=>by rw [List.getElem?_set_ne (Ne.symm h2)];exact a.old i h1 h2,⟨q,r,List.getElem?_set_self a.pot.lt,z⟩,a.was⟩
theorem Gr.setN {st s1:AH} {p n:Nat} {c:Cell} (a:Gr st p s1) (h:st.length≤n):Gr st p (s1.set n c):=by
 have hn:n≠p:=fun e=>by have:=a.was;omega
 refine ⟨by rw [List.length_set];exact a.len,fun i h1 h2=>by rw [List.getElem?_set_ne (by omega)];exact a.old i h1 h2,?_,a.was⟩
 obtain ⟨q,r,e,z⟩:=a.pot
 exact ⟨q,r,by rw [List.getElem?_set_ne hn];exact e,z⟩
theorem Gr.get {st s1:AH} {p n:Nat} {c:Cell} (a:Gr st p s1) (h:st[n]?=some c) (hn:n≠p):s1[n]?=some c:=(a.old n (cW h) hn).trans h
theorem Gr.tmp {st s1:AH} {p:Nat} {v:PV} {Q:EK} (a:Gr st p s1) (hv:v.bel st.length=true) (k:∀s2,Gr st p s2→s2.length=st.length→Q v s2):Tmp st Q v s1:=by
 have hl:(s1.take st.length).length=st.length:=by rw [List.length_take];exact Nat.min_eq_left a.len
 have hg:∀i,i<st.length→(s1.take st.length)[i]?=s1[i]?:=fun i hi=>by rw [List.getElem?_take_of_lt hi]
 obtain ⟨q,r,e,z⟩:=a.pot
 refine ⟨s1.take st.length,s1.drop st.length,(List.take_append_drop _ _).symm,hl,fun i hi=>?_,hv,k _ ⟨by omega,fun i h1 h2=>(hg i h1).trans (a.old i h1 h2),⟨q,r,(hg p a.was).trans e,z⟩,a.was⟩ hl⟩
 by_cases hp:i=p
 ·subst hp
  exact .inr ⟨pc q r,(hg i a.was).trans e,Hq⟩
 ·exact .inl ((hg i hi).trans (a.old i hi hp))
theorem Hz:xf 10 9:=⟨by decide,by decide,by decide⟩
theorem IC:xf 10 11:=⟨by decide,by decide,by decide⟩
theorem u9 {L:List PV} {P:PV→Prop} (h:∀v∈L,P v) {y:Int} (y0:0≤y) (y1:y<L.length):∃v,atI L y=some v∧P v:=by
 obtain ⟨m,rfl⟩:∃m:Nat,y=m:=⟨y.toNat,by omega⟩
 have hm:m<L.length:=by omega
 exact ⟨L[m],cA (List.getElem?_eq_getElem hm),h _ (List.getElem_mem hm)⟩
theorem Gr.ne {st s1:AH} {p:Nat} (a:Gr st p s1):s1.length≠p:=fun e=>by have:=a.pot.lt;omega
theorem fZ {xs:List PV} {v:PV}:atI (xs++[v]) (-1)=some v:=by
 have e:(-1+((xs.length:Int)+1)).toNat=xs.length:=by omega
 simp only [atI,ixN,List.length_append,List.length_singleton]
 simp
 rw [if_pos (by omega),e]
 simp
theorem Ji {L:List PV}:mM L (some 1) none=L.drop 1:=by
 unfold mM
 have:=HT.sIx_nat L.length 0 1
 rw [show ((1:Nat):Int)=(1:Int) from rfl] at this
 rw [HT.sIx_none,this]
 cases L with
 | nil=>rfl
 | cons x xs =>
  have:min 1 (x::xs).length=1:=by simp only [List.length_cons];omega
  rw [this]
  exact List.take_of_length_le (by simp)
theorem HN {st:AH} {n m:Nat} {xs ys:List PV} {Q:EK} (h1:st[n]?=some (.lst xs)) (h2:st[m]?=some (.lst ys)) (h3:xs.length+ys.length≤100000) (q:Q (.ref st.length) (st++[.lst (xs++ys)])):jj .Add (.ref n) (.ref m) st Q:=⟨xs,ys,h1,h2,h3,q⟩
noncomputable def val (p:Nat × Nat):Rat:=(p.1:Rat)/(p.2:Rat)
theorem ax {d:Nat} (h:0<d):(0:Rat)<(d:Rat):=by
 have:((0:Nat):Rat)<(d:Rat):=Rat.natCast_lt_natCast.mpr h
 simpa using this
theorem aw {n d:Nat} (h:0<d):val (aH n d)=(n:Rat)/(d:Rat):=by
 have c:=xS n d
 have p:=dI (n:=n) h
 unfold val
 generalize aH n d=z at *
 have e:(z.1:Rat)*d=n*z.2:=by
  have:=congrArg (fun k:Nat=>(k:Rat)) c
  simpa using this
 have p1:=ax p
 have p2:=ax h
 grind
theorem aU {p:Nat × Nat} (hp:0<p.2):0≤val p:=by
 unfold val
 rw [←Rat.not_lt,Rat.div_lt_iff (ax hp),Rat.zero_mul,Rat.not_lt]
 exact Rat.natCast_nonneg
theorem nk {p q:Nat × Nat} (hp:0<p.2) (hq:0<q.2):val (uh p q)=val p*val q:=by
 unfold uh
 rw [aw (Nat.mul_pos hp hq)]
 unfold val
 have p1:=ax hp
 have p2:=ax hq
 simp only [Rat.natCast_mul]
 grind
theorem Ec {p q:Nat × Nat} (hp:0<p.2) (hq:0<q.2):val (zF p q)=val p+val q:=by
 unfold zF
 rw [aw (Nat.mul_pos hp hq)]
 unfold val
 have p1:=ax hp
 have p2:=ax hq
 simp only [Rat.natCast_mul,Rat.natCast_add]
 grind
theorem nF {p q:Nat × Nat} (hp:0<p.2) (hq:0<q.2):p.1*q.2<q.1*p.2↔val p<val q:=by
 have p1:=ax hp
 have p2:=ax hq
 have e:(p.1*q.2<q.1*p.2)↔((p.1:Rat)*q.2<q.1*p.2):=by
  rw [←Rat.natCast_lt_natCast]
  simp
 rw [e]
 unfold val
 rw [Rat.div_lt_iff p1]
 have e2:(q.1:Rat)/q.2*p.2=q.1*p.2/q.2:=by grind
 rw [e2,Rat.lt_div_iff p2]
theorem eK {p q:Nat × Nat} (hp:0<p.2) (hq:0<q.2):p.1*q.2≤q.1*p.2↔val p≤val q:=by
 rw [←Nat.not_lt,←Rat.not_lt,nF hq hp]
theorem dZ {p q:Nat × Nat} (hp:0<p.2) (hq:0<q.2) (h:val q≤val p):val (mo p q)=val p-val q:=by
 have h':=(eK hq hp).mpr h
 unfold mo
 rw [aw (Nat.mul_pos hp hq)]
 unfold val
 have p1:=ax hp
 have p2:=ax hq
 obtain ⟨e,he⟩:∃e,p.1*q.2=q.1*p.2+e:=⟨p.1*q.2-q.1*p.2,by omega⟩
 have e2:p.1*q.2-q.1*p.2=e:=by omega
 rw [e2]
 have e3:(p.1:Rat)*q.2=q.1*p.2+e:=by
  have:=congrArg (fun k:Nat=>(k:Rat)) he
  simpa using this
 simp only [Rat.natCast_mul]
 grind
theorem b_ {p q:Nat × Nat} (hp:Cop p) (hq:Cop q) (h:val p=val q):p=q:=by
 refine hp.ext hq ?_
 have a:=(eK hp.pos hq.pos).mpr (by rw [h];exact Rat.le_refl)
 have b:=(eK hq.pos hp.pos).mpr (by rw [h];exact Rat.le_refl)
 omega
theorem ag:val (0,1)=0:=by unfold val;grind
theorem EM {n:Nat}:val (n,1)=n:=by unfold val;simp;grind
structure Pc where
 e:Nat × Nat
 l:Nat × Nat
 h:Nat × Nat
noncomputable abbrev Pc.E (p:Pc):Rat:=val p.e
noncomputable abbrev Pc.L (p:Pc):Rat:=val p.l
noncomputable abbrev Pc.H (p:Pc):Rat:=val p.h
noncomputable abbrev Pc.mg (a p:Pc):Pc:=⟨p.e,a.l,p.h⟩
noncomputable def gB (b:Nat × Nat) (a p:Pc):Bool:=decide (p.l=a.h) && decide (uh (mo a.h a.l) (mo p.e a.e)=uh (mo p.h p.l) (mo a.e b))
noncomputable def aP (b:Nat × Nat) (a:Pc):List Pc→List Pc
 | []=>[a]
 | p::r=>if gB b a p=true then aP b (a.mg p) r else a::aP a.e p r
noncomputable def d_:List Pc→List Pc
 | []=>[]
 | p::r=>aP (0,1) p r
structure Pc.Ok (p:Pc):Prop where
 e:Cop p.e
 l:Cop p.l
 h:Cop p.h
noncomputable def Ch (b:Rat):List Pc→Prop
 | []=>True
 | p::r=>p.Ok∧b<p.E∧p.L≤p.H∧Ch p.E r
noncomputable def Sl (b:Rat) (p:Pc) (s:Rat):Prop:=p.H-p.L=s*(p.E-b)
theorem Sl.ex {b:Rat} {p:Pc} (h:b<p.E):∃s,Sl b p s:=⟨(p.H-p.L)/(p.E-b),by unfold Sl;grind⟩
theorem jB {b:Nat × Nat} {a p:Pc} {s:Rat} (hb:Cop b) (ha:a.Ok) (hp:p.Ok) (h1:val b≤a.E) (h2:a.E<p.E) (h3:a.L≤a.H) (h4:p.L≤p.H) (hs:Sl a.E p s):gB b a p=true↔p.l=a.h∧Sl (val b) a s:=by
 have q1:=dZ ha.h.pos ha.l.pos h3
 have q2:=dZ hp.e.pos ha.e.pos (Rat.le_of_lt h2)
 have q3:=dZ hp.h.pos hp.l.pos h4
 have q4:=dZ ha.e.pos hb.pos h1
 have c1:=dg ha.h.pos ha.l.pos
 have c2:=dg hp.e.pos ha.e.pos
 have c3:=dg hp.h.pos hp.l.pos
 have c4:=dg ha.e.pos hb.pos
 have e1:=nk c1.pos c2.pos
 have e2:=nk c3.pos c4.pos
 rw [q1,q2] at e1
 rw [q3,q4] at e2
 unfold gB
 rw [Bool.and_eq_true,decide_eq_true_eq,decide_eq_true_eq]
 unfold Sl at *
 constructor
 ·rintro ⟨g1,g2⟩
  refine ⟨g1,?_⟩
  have:=congrArg val g2
  rw [e1,e2] at this
  have w:p.E-a.E≠0:=by grind
  have:(a.H-a.L-s*(a.E-val b))*(p.E-a.E)=0:=by grind
  have:=Rat.mul_eq_zero.mp this
  grind
 ·rintro ⟨g1,g2⟩
  refine ⟨g1,b_ (kH c1.pos c2.pos) (kH c3.pos c4.pos) ?_⟩
  rw [e1,e2]
  grind
theorem uG {a p:Pc} (ha:a.Ok) (hp:p.Ok):(a.mg p).Ok:=⟨hp.e,ha.l,hp.h⟩
noncomputable def NG:Nat × Nat→List Pc→Prop
 | _,[]=>True
 | _,[_]=>True
 | b,a::p::r=>gB b a p=false∧NG a.e (p::r)
theorem yC:∀ {b:Nat × Nat} {a:Pc} {r:List Pc},NG b (a::r)→aP b a r=a::r
 | b,a,[],h=>rfl
 | b,a,p::r,h=>by
  rw [aP,if_neg (by rw [h.1];decide),yC h.2]
theorem yu:∀ {b:Nat × Nat} {a:Pc} {r:List Pc},Cop b→a.Ok→val b<a.E→a.L≤a.H→Ch a.E r→∃e' h' r',aP b a r=⟨e',a.l,h'⟩::r'∧Cop e'∧Cop h'∧a.E≤val e'∧a.L≤val h'∧∀s,Sl (val b) a s→val h'-a.L=s*(val e'-val b)
 | b,a,[],hb,ha,h1,h3,_=>⟨a.e,a.h,[],rfl,ha.e,ha.h,Rat.le_refl,h3,fun s hs=>hs⟩
 | b,a,p::r,hb,ha,h1,h3,⟨hp,h2,h4,hr⟩=>by
  rw [aP]
  by_cases g:gB b a p=true
  ·rw [if_pos g]
   obtain ⟨s,hs⟩:=Sl.ex h2
   obtain ⟨g1,g2⟩:=(jB hb ha hp (Rat.le_of_lt h1) h2 h3 h4 hs).mp g
   have ev:p.L=a.H:=by unfold Pc.L Pc.H;rw [g1]
   obtain ⟨e',h',r',k1,k2,k3,k4,k5,k6⟩:=yu (a:=a.mg p) hb (uG ha hp) (by show val b<p.E;grind) (by show a.L≤p.H;grind) hr
   refine ⟨e',h',r',k1,k2,k3,?_,k5,fun t ht=>?_⟩
   ·show a.E≤val e'
    have:p.E≤val e':=k4
    grind
   ·refine k6 t ?_
    unfold Sl at *
    show p.H-a.L=t*(p.E-val b)
    have:(s-t)*(a.E-val b)=0:=by grind
    have:=Rat.mul_eq_zero.mp this
    grind
  ·rw [if_neg g]
   exact ⟨a.e,a.h,_,rfl,ha.e,ha.h,Rat.le_refl,h3,fun s hs=>hs⟩
theorem Dx:∀ {b:Nat × Nat} {a:Pc} {r:List Pc},Cop b→a.Ok→val b≤a.E→a.L≤a.H→Ch a.E r→NG b (aP b a r)
 | b,a,[],hb,ha,h1,h3,_=>trivial
 | b,a,p::r,hb,ha,h1,h3,⟨hp,h2,h4,hr⟩=>by
  rw [aP]
  by_cases g:gB b a p=true
  ·rw [if_pos g]
   obtain ⟨s,hs⟩:=Sl.ex h2
   obtain ⟨g1,g2⟩:=(jB hb ha hp h1 h2 h3 h4 hs).mp g
   have ev:p.L=a.H:=by unfold Pc.L Pc.H;rw [g1]
   exact Dx hb (uG ha hp) (by show val b≤p.E;grind) (by show a.L≤p.H;grind) hr
  ·rw [if_neg g]
   have ng:=Dx (b:=a.e) (a:=p) ha.e hp (Rat.le_of_lt h2) h4 hr
   obtain ⟨e',h',r',k1,k2,k3,k4,k5,k6⟩:=yu (b:=a.e) (a:=p) ha.e hp h2 h4 hr
   rw [k1] at ng ⊢
   refine ⟨?_,ng⟩
   rw [Bool.eq_false_iff]
   intro z
   obtain ⟨s,hs⟩:=Sl.ex h2
   have hs':Sl a.E ⟨e',p.l,h'⟩ s:=k6 s hs
   obtain ⟨z1,z2⟩:=(jB (p:=⟨e',p.l,h'⟩) hb ha ⟨k2,hp.l,k3⟩ h1 (show a.E<val e' by grind) h3 k5 hs').mp z
   exact g ((jB hb ha hp h1 h2 h3 h4 hs).mpr ⟨z1,z2⟩)
inductive Bw:Nat × Nat→List Pc→List Pc→Prop
 | nil {b}:Bw b [] []
 | keep {b p r' r}:Bw p.e r' r→Bw b (p::r') (p::r)
 | cut {b p m c s r' r}:Cop m→Cop c→val b<val m→val m<p.E→p.L≤val c→val c≤p.H→Sl (val b) p s→val c-p.L=s*(val m-val b)→p.H-val c=s*(p.E-val m)→Bw p.e r' r→Bw b (⟨m,p.l,c⟩::⟨p.e,c,p.h⟩::r') (p::r)
noncomputable def cm (b:Rat):List Pc→Rat→Option Rat
 | [],_=>none
 | p::r,t=>if t≤p.E then some (if b=p.E then p.L else p.L+(p.H-p.L)*((t-b)/(p.E-b))) else cm p.E r t
theorem HD {b:Rat} {a p:Pc} {r:List Pc} {t s:Rat} (h1:b≤a.E) (h2:a.E<p.E) (h0:b=a.E→a.L=a.H) (hl:p.L=a.H) (hs:Sl a.E p s) (ha:Sl b a s) (ht:b≤t):cm b (a.mg p::r) t=cm b (a::p::r) t:=by
 unfold Sl at *
 simp only [cm]
 have hb:b<p.E:=by grind
 by_cases t1:t≤p.E
 ·rw [if_pos t1,if_neg (show ¬b=p.E by grind)]
  by_cases t2:t≤a.E
  ·rw [if_pos t2]
   by_cases z:b=a.E
   ·rw [if_pos z]
    have:t=b:=by grind
    subst this
    congr 1
    grind
   ·rw [if_neg z]
    congr 1
    have:p.H-a.L=s*(p.E-b):=by grind
    have e1:(p.H-a.L)*((t-b)/(p.E-b))=s*(t-b):=by grind
    have e2:(a.H-a.L)*((t-b)/(a.E-b))=s*(t-b):=by grind
    rw [e1,e2]
  ·rw [if_neg t2,if_pos t1,if_neg (show ¬a.E=p.E by grind)]
   congr 1
   have:p.H-a.L=s*(p.E-b):=by grind
   have e1:(p.H-a.L)*((t-b)/(p.E-b))=s*(t-b):=by grind
   have e2:(p.H-p.L)*((t-a.E)/(p.E-a.E))=s*(t-a.E):=by grind
   rw [e1,e2]
   grind
 ·rw [if_neg t1,if_neg (show ¬t≤a.E by grind),if_neg t1]
theorem DN:∀ {r:List Pc} {b:Nat × Nat} {a:Pc} {t:Rat},Cop b→a.Ok→val b≤a.E→(val b=a.E→a.L=a.H)→a.L≤a.H→Ch a.E r→val b≤t→cm (val b) (aP b a r) t=cm (val b) (a::r) t
 | [],b,a,t,hb,ha,h1,h0,h3,_,ht=>rfl
 | p::r,b,a,t,hb,ha,h1,h0,h3,⟨hp,h2,h4,hr⟩,ht=>by
  rw [aP]
  by_cases g:gB b a p=true
  ·rw [if_pos g]
   obtain ⟨s,hs⟩:=Sl.ex h2
   obtain ⟨g1,g2⟩:=(jB hb ha hp h1 h2 h3 h4 hs).mp g
   have ev:p.L=a.H:=by unfold Pc.L Pc.H;rw [g1]
   rw [DN hb (uG ha hp) (by show val b≤p.E;grind) (by show val b=p.E→a.L=p.H;grind) (by show a.L≤p.H;grind) hr ht]
   exact HD h1 h2 h0 ev hs g2 ht
  ·rw [if_neg g]
   by_cases t1:t≤a.E
   ·simp only [cm,if_pos t1]
   ·have e1:∀X:List Pc,cm (val b) (a::X) t=cm a.E X t:=fun X=>by simp only [cm,if_neg t1]
    rw [e1,e1]
    exact DN ha.e hp (Rat.le_of_lt h2) (fun z=>by grind) h4 hr (by grind)
noncomputable def Rt (b hh:Rat):List Pc→Prop
 | []=>True
 | p::r=>p.Ok∧b<p.E∧hh≤p.L∧p.L≤p.H∧p.E≤p.H∧Rt p.E p.H r
theorem Rt.ch:∀ {r:List Pc} {b hh:Rat},Rt b hh r→Ch b r
 | [],_,_,_=>trivial
 | p::r,b,hh,⟨h1,h2,h3,h4,h5,h6⟩=>⟨h1,h2,h4,h6.ch⟩
noncomputable def RtF:List Pc→Prop
 | []=>True
 | p::r=>p.Ok∧p.L≤p.H∧p.E≤p.H∧(0=p.E→p.L=p.H)∧Rt p.E p.H r
theorem Cr:∀ {r:List Pc} {b:Nat × Nat} {a:Pc} {hh:Rat},Cop b→a.Ok→val b<a.E→hh≤a.L→a.L≤a.H→a.E≤a.H→Rt a.E a.H r→Rt (val b) hh (aP b a r)
 | [],b,a,hh,hb,ha,h1,h2,h3,h4,_=>⟨ha,h1,h2,h3,h4,trivial⟩
 | p::r,b,a,hh,hb,ha,h1,h2,h3,h4,⟨hp,k1,k2,k3,k4,hr⟩=>by
  rw [aP]
  by_cases g:gB b a p=true
  ·rw [if_pos g]
   exact Cr hb (uG ha hp) (by show val b<p.E;grind) h2 (by show a.L≤p.H;grind) k4 hr
  ·rw [if_neg g]
   exact ⟨ha,h1,h2,h3,h4,Cr ha.e hp k1 k2 k3 k4 hr⟩
theorem mH:Cop (0,1):=⟨by decide,by decide⟩
theorem CN:∀ {r:List Pc} {a:Pc},a.Ok→a.L≤a.H→a.E≤a.H→(0=a.E→a.L=a.H)→Rt a.E a.H r→RtF (aP (0,1) a r)
 | [],a,ha,h1,h2,h3,_=>⟨ha,h1,h2,h3,trivial⟩
 | p::r,a,ha,h1,h2,h3,⟨hp,k1,k2,k3,k4,hr⟩=>by
  have e0:0≤a.E:=aU ha.e.pos
  rw [aP]
  by_cases g:gB (0,1) a p=true
  ·rw [if_pos g]
   exact CN (uG ha hp) (by show a.L≤p.H;grind) k4 (by show 0=p.E→a.L=p.H;grind) hr
  ·rw [if_neg g]
   exact ⟨ha,h1,h2,h3,Cr ha.e hp k1 k2 k3 k4 hr⟩
theorem oK {L:List Pc} (h:RtF L):RtF (d_ L):=by
 cases L with
 | nil=>trivial
 | cons a r=>exact CN h.1 h.2.1 h.2.2.1 h.2.2.2.1 h.2.2.2.2
theorem u7 {L:List Pc} (h:RtF L):NG (0,1) (d_ L):=by
 cases L with
 | nil=>trivial
 | cons a r =>
  have e0:0≤a.E:=aU h.1.e.pos
  exact Dx mH h.1 (by rw [ag];exact e0) h.2.1 h.2.2.2.2.ch
theorem Cs {L:List Pc} (h:NG (0,1) L):d_ L=L:=by
 cases L with
 | nil=>rfl
 | cons a r=>exact yC h
theorem iD {L:List Pc} {t:Rat} (h:RtF L) (ht:0≤t):cm 0 (d_ L) t=cm 0 L t:=by
 cases L with
 | nil=>rfl
 | cons a r =>
  have e0:0≤a.E:=aU h.1.e.pos
  have:=DN (t:=t) mH h.1 (by rw [ag];exact e0) (by rw [ag];exact h.2.2.2.1) h.2.1 h.2.2.2.2.ch (by rw [ag];exact ht)
  rw [ag] at this
  exact this
theorem DC {as st Q Q'} (h:∀v st,Q v st→Q' v st) (q:js as st Q):js as st Q':=by obtain ⟨n,e,h1,q⟩:=q;exact ⟨n,e,h1,fun z=>h _ _ (q z)⟩
theorem EZ {as st Q} (q:js as st Q):as.length=1:=by obtain ⟨n,rfl,_⟩:=q;rfl
noncomputable abbrev pcV (p:Pc):PV:=.tup [fr p.e,fr p.l,fr p.h]
noncomputable abbrev bS (L:List Pc):PV:=.tup (L.map pcV)
structure Pc.Sz (k:Nat) (p:Pc):Prop where
 e:My.Sz k p.e
 l:My.Sz k p.l
 h:My.Sz k p.h
noncomputable def SzL (k:Nat) (L:List Pc):Prop:=∀p∈L,p.Sz k
theorem Pc.Sz.mono {j k:Nat} {p:Pc} (h:p.Sz j) (hk:j≤k):p.Sz k:=⟨h.e.mono hk,h.l.mono hk,h.h.mono hk⟩
theorem SzL.mono {j k:Nat} {L:List Pc} (h:SzL j L) (hk:j≤k):SzL k L:=fun p hp=>(h p hp).mono hk
noncomputable def LOk:List Pc→Prop
 | []=>True
 | p::r=>p.Ok∧p.L≤p.H∧Ch p.E r
theorem RtF.lok {L:List Pc} (h:RtF L):LOk L:=by
 cases L with
 | nil=>trivial
 | cons a r=>exact ⟨h.1,h.2.1,h.2.2.2.2.ch⟩
noncomputable abbrev Un3:=Nat × Nat × Nat
noncomputable abbrev uV (u:Un3):PV:=.tup [.int u.1,.int u.2.1,.int u.2.2]
noncomputable def RU (b hh:Nat):List Un3→Prop
 | []=>True
 | u::r=>b<u.1∧hh≤u.2.1∧u.2.1≤u.2.2∧u.1≤u.2.2∧RU u.1 u.2.2 r
noncomputable def RUF:List Un3→Prop
 | []=>True
 | u::r=>u.2.1≤u.2.2∧u.1≤u.2.2∧(u.1=0→u.2.1=u.2.2)∧RU u.1 u.2.2 r
noncomputable def BdU (N:Nat) (U:List Un3):Prop:=∀u∈U,u.1≤N∧u.2.1≤N∧u.2.2≤N
structure App (U:List Un3) (u:Un3):Prop where
 fst:U=[]→u.2.1≤u.2.2∧u.1≤u.2.2∧(u.1=0→u.2.1=u.2.2)
 nxt:∀v,U.getLast?=some v→v.1<u.1∧v.2.2≤u.2.1∧u.2.1≤u.2.2∧u.1≤u.2.2
noncomputable abbrev aD (d:Nat) (u:Un3):Pc:=⟨aH u.1 d,aH u.2.1 d,aH u.2.2 d⟩
noncomputable abbrev Mo (s:FSp):Prop:=∀ {as:List PV} {st:AH} {Q Q':EK},(∀v st,Q v st→Q' v st)→s as st Q→s as st Q'
noncomputable abbrev Ln (s:FSp) (n:Nat):Prop:=∀ {as:List PV} {st:AH} {Q:EK},s as st Q→as.length=n
local macro_rules | `(tactic| walk_at "MO")=>`(tactic| (intro as st Q Q' h q;repeat (first|exact h _ _ q|(obtain ⟨a,q⟩:=q;first|refine Exists.intro a ?_|refine And.intro a ?_)|(intro a;replace q:=q a))))
local macro_rules | `(tactic| walk_at "LN")=>`(tactic| (intro as st Q q;repeat (obtain ⟨a,q⟩:=q;try exact congrArg List.length a)))
noncomputable def fm:FSp:=fun as st Q=>∃b a p,as=[fr b,pcV a,pcV p]∧Sz 1400 b∧a.Sz 1400∧p.Sz 1400∧val b≤a.E∧a.E<p.E∧a.L≤a.H∧p.L≤p.H∧Q (.bl (gB b a p)) st
theorem sW:Mo fm:=by walk_at "MO"
theorem uJ:Ln fm 3:=by walk_at "LN"
noncomputable def jX:FSp:=fun as st Q=>∃L,as=[bS L]∧SzL 1400 L∧LOk L∧L.length<20000∧Q (bS (d_ L)) st
theorem zW:Mo jX:=by walk_at "MO"
theorem De:Ln jX 1:=by walk_at "LN"
noncomputable def C3:Option (Nat × Nat)→PV
 | none=>.non
 | some p=>fr p
noncomputable def bgx (L:List Pc):Nat→Nat × Nat
 | 0=>(0,1)
 | i+1=>((L[i]?).map Pc.e).getD (0,1)
noncomputable def stB (L:List Pc):Bool:=@decide (NG (0,1) L) (Classical.propDecidable _)
noncomputable def dF:FSp:=fun as st Q=>∃p q:Nat × Nat,as=[fr p,fr q]∧Sz 3000 p∧Sz 3000 q∧Q (.int ((p.1:Int)*q.2-q.1*p.2)) st
theorem oN:Mo dF:=by walk_at "MO"
theorem qC:Ln dF 2:=by walk_at "LN"
noncomputable def cI:FSp:=fun as st Q=>∃(a b c d m:Nat) (nx ny fx fy x:Nat × Nat),as=[.tup [fr nx,fr ny],.tup [fr fx,fr fy],fr x]∧a+b+c+d+m+2≤2900∧(Sz a nx∧Sz b ny∧Sz c fx∧Sz d fy∧Sz m x)∧(val nx<val fx∧val nx≤val x∧val x≤val fx)∧∀r,Cop r→Sz (a+b+c+d+m+2) r→val r=val ny+(val fy-val ny)*((val x-val nx)/(val fx-val nx))→Q (fr r) st
theorem lc:Mo cI:=by walk_at "MO"
theorem mN:Ln cI 3:=by walk_at "LN"
noncomputable def ci:FSp:=fun as st Q=>∃(L:List Pc) (i:Nat),as=[bS L,.int i]∧i≤L.length∧Q (fr (bgx L i)) st
theorem kW:Mo ci:=by walk_at "MO"
theorem lJ:Ln ci 2:=by walk_at "LN"
noncomputable def gJ:FSp:=fun as st Q=>∃(j m:Nat) (L:List Pc) (i:Nat) (p:Pc) (t:Nat × Nat),as=[bS L,.int i,fr t]∧(1≤j∧m+4*j+2≤2900)∧RtF L∧SzL j L∧L[i]?=some p∧Cop t∧Sz m t∧val (bgx L i)≤val t∧val t≤p.E∧∀r,Cop r→Sz (m+4*j+2) r→val r=(if val (bgx L i)=p.E then p.L else p.L+(p.H-p.L)*((val t-val (bgx L i))/(p.E-val (bgx L i))))→Q (fr r) st
theorem vM:Mo gJ:=by walk_at "MO"
theorem yb:Ln gJ 3:=by walk_at "LN"
noncomputable def dL:FSp:=fun as st Q=>∃(p:Nat) (many:Int),as=[.ref p,.int many]∧Pot st p∧0<many∧many<2 ^ 200∧∀x st',0≤x→x<many→Gr st p st'→Q (.int x) st'
theorem oq:Mo dL:=by walk_at "MO"
theorem qw:Ln dL 2:=by walk_at "LN"
noncomputable def eD:FSp:=fun as st Q=>∃(ns:List Int) (k:Nat),as=[.rdl (ns.map .int),.int k]∧k<9∧∀q r,PK q r→Q (.ref st.length) (st++[pc q r])
theorem qz:Mo eD:=by walk_at "MO"
theorem rZ:Ln eD 2:=by walk_at "LN"
noncomputable def cS:FSp:=fun as st Q=>∃n d:Nat,as=[.int n,.int d]∧0<d∧d<2 ^ 8000∧Q (low n d) st
theorem mh:Mo cS:=by walk_at "MO"
theorem mP:Ln cS 2:=by walk_at "LN"
noncomputable abbrev iV (n:Nat):PV:=.int n
noncomputable def eG:FSp:=fun as st Q=>∃(p n:Nat) (hs:List Nat) (B:Nat),as=[.ref p,.ref n]∧Pot st p∧n≠p∧st[n]?=some (.lst (hs.map iV))∧(∀h∈hs,h≤B)∧hs.length≤200∧B≤10 ^ 12∧∀(U:List Un3) (n':Nat) (st':AH),Gr st p st'→st.length≤n'→st'[n']?=some (.lst (U.map uV))→RUF U→U.length≤20→BdU (B+4*10 ^ 10) U→Q (.ref n') st'
theorem qv:Mo eG:=by walk_at "MO"
theorem sx:Ln eG 2:=by walk_at "LN"
noncomputable def dH:FSp:=fun as st Q=>∃(n:Nat) (U:List Un3),as=[.ref n]∧st[n]?=some (.lst (U.map uV))∧RUF U∧U.length≤20∧BdU (2 ^ 37) U∧∀(n':Nat) (V:List Un3) (g:AH),(st++g)[n']?=some (.lst (V.map uV))→(∀d,0<d→V.map (aD d)=d_ (U.map (aD d)))→V.length≤20→Q (.ref n') (st++g)
theorem oR:Mo dH:=by walk_at "MO"
theorem qx:Ln dH 1:=by walk_at "LN"
noncomputable def dE:FSp:=fun as st Q=>∃p:Nat,as=[.ref p]∧Pot st p∧∀(d:Nat) st',0<d→d≤10 ^ 11→Gr st p st'→Q (.int d) st'
theorem pf:Mo dE:=by walk_at "MO"
theorem qi:Ln dE 1:=by walk_at "LN"
noncomputable def dj:FSp:=fun as st Q=>∃(n d:Nat) (U:List Un3),as=[.ref n,.int d]∧st[n]?=some (.lst (U.map uV))∧RUF U∧U.length≤20∧BdU (2 ^ 37) U∧0<d∧d≤10 ^ 11∧Q (bS (d_ (U.map (aD d)))) st
theorem mR:Mo dj:=by walk_at "MO"
theorem pY:Ln dj 2:=by walk_at "LN"
noncomputable def dh:FSp:=fun as st Q=>∃(n:Nat) (U:List Un3),as=[.ref n]∧st[n]?=some (.lst (U.map uV))∧U.length≤20∧∀(m:Nat) (hs:List Nat) (g:AH),(st++g)[m]?=some (.lst (hs.map iV))→st.length≤m→(∀B,BdU B U→∀h∈hs,h≤B)→hs.length≤60→Q (.ref m) (st++g)
theorem m9:Mo dh:=by walk_at "MO"
theorem pS:Ln dh 1:=by walk_at "LN"
structure Stz (k n:Nat) (L:List Pc):Prop where
 rt:RtF L
 ng:NG (0,1) L
 sz:SzL k L
 ln:L.length≤n
noncomputable def JR (A B:List Pc) (t:Rat):Option Rat:=(cm 0 A t).bind (cm 0 B)
noncomputable def eh:FSp:=fun as st Q=>∃p:Pc,as=[pcV p]∧p.Ok∧Q (.bl true) st
theorem qI:Mo eh:=by walk_at "MO"
theorem tF:Ln eh 1:=by walk_at "LN"
noncomputable def bL:FSp:=fun as st Q=>∃p:Pc,as=[pcV p]∧p.Sz 1400∧p.L≤p.H∧p.E≤p.H∧Q (.bl true) st
theorem jo:Mo bL:=by walk_at "MO"
theorem jA:Ln bL 1:=by walk_at "LN"
noncomputable def bO:FSp:=fun as st Q=>∃p:Pc,as=[pcV p]∧p.Ok∧(0=p.E→p.L=p.H)∧Q (.bl true) st
theorem jq:Mo bO:=by walk_at "MO"
theorem jQ:Ln bO 1:=by walk_at "LN"
noncomputable def bA:FSp:=fun as st Q=>∃a p:Pc,as=[pcV a,pcV p]∧a.Sz 1400∧p.Sz 1400∧a.E<p.E∧a.H≤p.L∧Q (.bl true) st
theorem ib:Mo bA:=by walk_at "MO"
theorem jm:Ln bA 2:=by walk_at "LN"
noncomputable def gw:FSp:=fun as st Q=>∃L:List Pc,as=[bS L]∧RtF L∧SzL 1400 L∧L.length<10000∧Q (.bl true) st
theorem tS:Mo gw:=by walk_at "MO"
theorem w9:Ln gw 1:=by walk_at "LN"
noncomputable def d7:FSp:=fun as st Q=>∃L:List Pc,as=[bS L]∧RtF L∧NG (0,1) L∧SzL 1400 L∧L.length<10000∧Q (.bl true) st
theorem qK:Mo d7:=by walk_at "MO"
theorem sD:Ln d7 1:=by walk_at "LN"
noncomputable def fh:FSp:=fun as st Q=>∃(j m:Nat) (L:List Pc) (t:Nat × Nat),as=[bS L,fr t]∧(1≤j∧m+4*j+2≤2900)∧RtF L∧SzL j L∧Sz m t∧L.length<10000∧∀o,(∀p,o=some p→Sz (m+4*j+2) p)→cm 0 L (val t)=o.map val→Q (C3 o) st
theorem tB:Mo fh:=by walk_at "MO"
theorem uB:Ln fh 2:=by walk_at "LN"
noncomputable def di:FSp:=fun as st Q=>∃(o o':Option (Nat × Nat)),as=[C3 o,C3 o']∧(∀p,o=some p→Sz 2900 p)∧(∀p,o'=some p→Sz 2900 p)∧o.map val=o'.map val∧Q (.bl true) st
theorem mX:Mo di:=by walk_at "MO"
theorem nU:Ln di 2:=by walk_at "LN"
noncomputable def cj:FSp:=fun as st Q=>∃(j:Nat) (L:List Pc),as=[bS L]∧(1≤j∧j≤400)∧RtF L∧SzL j L∧L.length<10000∧∀(T:List (Nat × Nat)) (g:AH) (n:Nat),(st++g)[n]?=some (.lst (T.map fr))→(∀t∈T,Sz (2*j+3) t)→T.length≤2*L.length+2→Q (.ref n) (st++g)
theorem kM:Mo cj:=by walk_at "MO"
theorem lu:Ln cj 1:=by walk_at "LN"
structure Ends (k:Nat) (T:List (Nat × Nat)):Prop where
 sr:T.Pairwise fun a b=>val a<val b
 ok:∀t∈T,Cop t∧Sz k t
noncomputable def bgT (T:List (Nat × Nat)):Nat→Nat × Nat
 | 0=>(0,1)
 | i+1=>(T[i]?).getD (0,1)
noncomputable abbrev Two:=(Nat × Nat) × (Nat × Nat)
noncomputable def cV:Option Two→PV
 | none=>.non
 | some c=>.tup [fr c.1,fr c.2]
structure SegOk (S:List Pc) (a e:Rat) (c:Two):Prop where
 cl:Cop c.1
 ch:Cop c.2
 le:val c.1≤val c.2
 at_:cm 0 S e=some (val c.2)
 zero:a=e→c.1=c.2
 mid:∀t,a<t→t≤e→cm 0 S t=some (val c.1+(val c.2-val c.1)*((t-a)/(e-a)))
noncomputable def mG (S:List Pc) (z:Nat) (a e:Rat):Option Two→Prop
 | none=>∀t,a<t∨t=e→cm 0 S t=none
 | some c=>SegOk S a e c∧Sz z c.1∧Sz z c.2
noncomputable def gD:FSp:=fun as st Q=>∃(k n m:Nat) (T1 T2:List (Nat × Nat)),as=[.ref n,.ref m]∧k≤1400∧st[n]?=some (.lst (T1.map fr))∧st[m]?=some (.lst (T2.map fr))∧Ends k T1∧Ends k T2∧T1.length+T2.length≤20000∧∀(T:List (Nat × Nat)) (g:AH) (r:Nat),(st++g)[r]?=some (.lst (T.map fr))→Ends k T→(∀t,t∈T↔t∈T1∨t∈T2)→T.length≤T1.length+T2.length→Q (.ref r) (st++g)
theorem wJ:Mo gD:=by walk_at "MO"
theorem ya:Ln gD 2:=by walk_at "LN"
noncomputable def ga:FSp:=fun as st Q=>∃(j m:Nat) (S:List Pc) (n:Nat) (T:List (Nat × Nat)),as=[bS S,.ref n]∧(1≤j∧m+4*j+2≤2900)∧RtF S∧SzL j S∧st[n]?=some (.lst (T.map fr))∧Ends m T∧T[0]?=some (0,1)∧(∀p∈S,p.e∈T)∧S.length≤10000∧T.length≤20000∧∀(C:List (Option Two)) (g:AH) (r:Nat),(st++g)[r]?=some (.lst (C.map cV))→C.length=T.length→(∀(k:Nat) c,C[k]?=some c→mG S (m+4*j+2) (val (bgT T k)) (val (bgT T (k+1))) c)→Q (.ref r) (st++g)
theorem uz:Mo ga:=by walk_at "MO"
theorem wW:Ln ga 2:=by walk_at "LN"
noncomputable abbrev ldV (l:List Nat):PV:=.tup (l.map iV)
noncomputable def ldr (x y:Rat):List Nat:=if x=y then [0,1] else if x<y then [0] else [1]
noncomputable def eZ:FSp:=fun as st Q=>∃p q:Nat × Nat,as=[fr p,fr q]∧Cop p∧Cop q∧Sz 2900 p∧Sz 2900 q∧Q (ldV (ldr (val p) (val q))) st
theorem sP:Mo eZ:=by walk_at "MO"
theorem wK:Ln eZ 2:=by walk_at "LN"
noncomputable def gA:FSp:=fun as st Q=>∃l l':List Nat,as=[ldV l,ldV l']∧l.length≤2∧Q (ldV (l.filter fun w=>l'.contains w)) st
theorem wG:Mo gA:=by walk_at "MO"
theorem wO:Ln gA 2:=by walk_at "LN"
noncomputable def ie:FSp:=fun as st Q=>∃(k:Nat) (p q:Nat × Nat),as=[fr p,fr q]∧k≤1400∧Cop p∧Cop q∧Sz k p∧Sz k q∧∀r,Cop r→Sz (k+k) r→(val p<val q∧val r=val q-val p)∨(val q≤val p∧val r=val p-val q)→Q (fr r) st
theorem xX:Mo ie:=by walk_at "MO"
theorem zQ:Ln ie 2:=by walk_at "LN"
noncomputable def Lin (d k:Nat) (f:Rat→Option Rat):Prop:=∀e y,0≤e→f e=some y→∃(P Q:Nat) (R:Int) (x:Rat),(0<Q∧Q<2 ^ k∧P<2 ^ k)∧x<e∧∀t z,0≤t→x<t→t≤e→f t=some z→(d:Rat)*Q*z=P*d*t+R
structure SegF (f:Rat→Option Rat) (a e:Rat) (c:Two):Prop where
 cl:Cop c.1
 ch:Cop c.2
 le:val c.1≤val c.2
 at_:f e=some (val c.2)
 zero:a=e→c.1=c.2
 mid:∀t,a<t→t≤e→f t=some (val c.1+(val c.2-val c.1)*((t-a)/(e-a)))
noncomputable def les (A B:List Pc) (t:Rat):Option Rat:=match cm 0 A t with
 | none=>cm 0 B t
 | some x=>match cm 0 B t with
  | none=>some x
  | some y=>some (if x≤y then x else y)
structure Stl (d k e v n:Nat) (L:List Pc):Prop where
 rt:RtF L
 ng:NG (0,1) L
 en:∀p∈L,Sz e p.e
 lin:Lin d k (cm 0 L)
 hi:∀t y,0≤t→cm 0 L t=some y→y≤2 ^ v
 ln:L.length≤n
structure EF (d D k e e' v n:Nat):Prop where
 d0:0<d
 dD:d<2 ^ D
 e1:1≤e
 ee:e≤e'
 de:D+2*k+v≤e'
 r1:6*(D+k+e+v)+2*e+4≤2900
 r2:2*(D+k+e+v)+2*e+e'+2≤2900
 r3:D+k+e'+v≤1400
 nn:n≤2000
noncomputable abbrev Pw:=Pc × List Nat
noncomputable abbrev q2V (q:Pw):PV:=.tup [fr q.1.e,fr q.1.l,fr q.1.h,ldV q.2]
noncomputable def Iv (A B:List Pc) (a:Rat) (e:Nat × Nat) (w:Nat) (R:List Pw):Prop :=
 (∃q v,R=[(q,v)]∧q.e=e∧SegF (les A B) a (val e) (q.l,q.h))∨∃q1 q2 v1 v2,R=[(q1,v1),(q2,v2)]∧q2.e=e∧a<q1.E∧q1.E<val e∧Cop q1.e∧Sz w q1.e∧SegF (les A B) a q1.E (q1.l,q1.h)∧SegF (les A B) q1.E (val e) (q2.l,q2.h)
noncomputable abbrev Crs (m y:Two):Prop:=(val m.1<val y.1∧val y.2<val m.2)∨(val y.1<val m.1∧val m.2<val y.2)
noncomputable abbrev crM (a e:Rat) (m y:Two):Rat:=a+(e-a)*((val m.1-val y.1)/(val m.1-val y.1+(val y.2-val m.2)))
noncomputable def ft:FSp:=fun as st Q=>∃(k z w:Nat) (a e:Nat × Nat) (m y:Two),as=[fr a,fr e,cV (some m),cV (some y)]∧(1≤k∧6*z+2*k+4≤2900∧2*z+2*k+w+2≤2900)∧(Cop a∧Cop e∧Sz k a∧Sz k e)∧(Cop m.1∧Cop m.2∧Cop y.1∧Cop y.2)∧(Sz z m.1∧Sz z m.2∧Sz z y.1∧Sz z y.2)∧val a<val e∧Crs m y∧(∀r,Cop r→val r=crM (val a) (val e) m y→Sz w r)∧∀(r co:Nat × Nat),Cop r→Sz w r→val r=crM (val a) (val e) m y→Cop co→val co=val m.1+(val m.2-val m.1)*((val r-val a)/(val e-val a))→Q (.ref st.length) (st++[.lst ([(⟨r,if val m.1<val y.1 then m.1 else y.1,co⟩,[if val m.1<val y.1 then 0 else 1]),(⟨e,co,if val m.1<val y.1 then y.2 else m.2⟩,[if val m.1<val y.1 then 1 else 0])].map q2V)])
theorem sJ:Mo ft:=by walk_at "MO"
theorem vo:Ln ft 4:=by walk_at "LN"
noncomputable def bf:FSp:=fun as st Q=>∃(k z w:Nat) (A B:List Pc) (a e:Nat × Nat) (mi yo:Option Two),as=[fr a,fr e,cV mi,cV yo]∧(1≤k∧6*z+2*k+4≤2900∧2*z+2*k+w+2≤2900)∧(Cop a∧Cop e∧Sz k a∧Sz k e)∧val a≤val e∧mG A z (val a) (val e) mi∧mG B z (val a) (val e) yo∧(mi=none→yo≠none)∧(∀m y,mi=some m→yo=some y→val a<val e→Crs m y→∀r,Cop r→val r=crM (val a) (val e) m y→Sz w r)∧∀(R:List Pw) (g:AH) (n:Nat),(st++g)[n]?=some (.lst (R.map q2V))→Iv A B (val a) e w R→R.length≤2→Q (.ref n) (st++g)
theorem h_:Mo bf:=by walk_at "MO"
theorem ir:Ln bf 4:=by walk_at "LN"
noncomputable def eF:FSp:=fun as st Q=>∃(d D k e e' v n:Nat) (A B:List Pc),as=[bS A,bS B]∧EF d D k e e' v n∧Stl d k e v n A∧Stl d k e v n B∧∀(Z:List Pw) (g:AH) (r:Nat),(st++g)[r]?=some (.lst (Z.map q2V))→RtF (Z.map Prod.fst)→(∀t,0≤t→cm 0 (Z.map Prod.fst) t=les A B t)→(∀q∈Z,Sz e' q.1.e)→Z.length≤4*n+2→Q (.ref r) (st++g)
theorem qG:Mo eF:=by walk_at "MO"
theorem tG:Ln eF 2:=by walk_at "LN"
noncomputable def gN:FSp:=fun as st Q=>∃(d D k e e' v n:Nat) (A B:List Pc),as=[bS A,bS B]∧EF d D k e e' v n∧Stl d k e v n A∧Stl d k e v n B∧∀R,Stl d k e' v (4*n+2) R→(∀t,0≤t→cm 0 R t=les A B t)→Q (bS R) st
theorem v9:Mo gN:=by walk_at "MO"
theorem wX:Ln gN 2:=by walk_at "LN"
noncomputable def eC:FSp:=fun as st Q=>∃(j m:Nat) (A B:List Pc) (t:Nat × Nat),as=[bS A,bS B,fr t]∧(1≤j∧j≤200∧m≤1000)∧RtF A∧SzL j A∧A.length<10000∧RtF B∧SzL j B∧B.length<10000∧Sz m t∧∀o,(∀p,o=some p→Sz (m+4*j+2) p)→les A B (val t)=o.map val→Q (C3 o) st
theorem qM:Mo eC:=by walk_at "MO"
theorem sj:Ln eC 3:=by walk_at "LN"
noncomputable def df:FSp:=fun as st Q=>∃(d:Nat) (A B:List Pc),as=[bS A,bS B]∧0<d∧d<2 ^ 74∧Stl d 38 40 37 20 A∧Stl d 38 40 37 20 B∧Q (.bl true) st
theorem mZ:Mo df:=by walk_at "MO"
theorem pC:Ln df 2:=by walk_at "LN"
noncomputable abbrev bF:PV:=(.tup [(.int 0),(.int 1)])
noncomputable def Γ:Nat→FSp
 | 0=>dy
 | 1=>ba
 | 2=>bT
 | 3=>dv
 | 4=>i_
 | 5=>jd
 | 6=>f'
 | 7=>dt
 | 8=>dF
 | 9=>cI
 | 10=>eh
 | 11=>bL
 | 12=>bO
 | 13=>bA
 | 14=>gw
 | 15=>fm
 | 16=>jX
 | 17=>d7
 | 18=>ci
 | 19=>gJ
 | 20=>gD
 | 21=>ga
 | 22=>eZ
 | 23=>gA
 | 24=>ie
 | 25=>ft
 | 26=>bf
 | 27=>eF
 | 28=>gN
 | 29=>eD
 | 30=>dL
 | 31=>cS
 | 32=>eG
 | 33=>dH
 | 34=>dE
 | 35=>dj
 | 36=>dh
 | 37=>fh
 | 38=>di
 | 39=>cj
 | 40=>eC
 | 41=>df
 | 42=>js
 | _=>fun _ _ _=>False
theorem Γ_0:Γ 0=dy:=id rfl
theorem Γ_1:Γ 1=ba:=id rfl
theorem Γ_2:Γ 2=bT:=id rfl
theorem Γ_3:Γ 3=dv:=id rfl
theorem Γ_4:Γ 4=i_:=id rfl
theorem Γ_5:Γ 5=jd:=id rfl
theorem Γ_6:Γ 6=f':=id rfl
theorem Γ_7:Γ 7=dt:=id rfl
theorem Γ_8:Γ 8=dF:=id rfl
theorem Γ_9:Γ 9=cI:=id rfl
theorem Bu:Γ 10=eh:=id rfl
theorem CK:Γ 11=bL:=id rfl
theorem BE:Γ 12=bO:=id rfl
theorem Cb:Γ 13=bA:=id rfl
theorem C0:Γ 14=gw:=id rfl
theorem Cl:Γ 15=fm:=id rfl
theorem AZ:Γ 16=jX:=id rfl
theorem DS:Γ 17=d7:=id rfl
theorem CQ:Γ 18=ci:=id rfl
theorem BP:Γ 19=gJ:=id rfl
theorem CV:Γ 20=gD:=id rfl
theorem B_:Γ 21=ga:=id rfl
theorem Dk:Γ 22=eZ:=id rfl
theorem DE:Γ 23=gA:=id rfl
theorem DL:Γ 24=ie:=id rfl
theorem CZ:Γ 25=ft:=id rfl
theorem CH:Γ 26=bf:=id rfl
theorem B0:Γ 27=eF:=id rfl
theorem Dv:Γ 28=gN:=id rfl
theorem A2:Γ 29=eD:=id rfl
theorem BS:Γ 30=dL:=id rfl
theorem Cz:Γ 31=cS:=id rfl
theorem CB:Γ 32=eG:=id rfl
theorem Cj:Γ 33=dH:=id rfl
theorem Br:Γ 34=dE:=id rfl
theorem DM:Γ 35=dj:=id rfl
theorem BI:Γ 36=dh:=id rfl
theorem C4:Γ 37=fh:=id rfl
theorem Cd:Γ 38=di:=id rfl
theorem Ce:Γ 39=cj:=id rfl
theorem BX:Γ 40=eC:=id rfl
theorem Dy:Γ 41=df:=id rfl
theorem Cu:Γ 42=js:=id rfl
theorem Γm:b8 Γ:=by
 intro f vs st Q Q' h q
 match f,q with
 | 0,q=>exact qB (st:=st) h q
 | 1,q=>exact ji (st:=st) h q
 | 2,q=>exact lj (st:=st) h q
 | 3,q=>exact qy (st:=st) h q
 | 4,q=>exact zk (st:=st) h q
 | 5,q=>exact AS (st:=st) h q
 | 6,q=>exact xV (st:=st) h q
 | 7,q=>exact qd (st:=st) h q
 | 8,q=>exact oN (st:=st) h q
 | 9,q=>exact lc (st:=st) h q
 | 10,q=>exact qI (st:=st) h q
 | 11,q=>exact jo (st:=st) h q
 | 12,q=>exact jq (st:=st) h q
 | 13,q=>exact ib (st:=st) h q
 | 14,q=>exact tS (st:=st) h q
 | 15,q=>exact sW (st:=st) h q
 | 16,q=>exact zW (st:=st) h q
 | 17,q=>exact qK (st:=st) h q
 | 18,q=>exact kW (st:=st) h q
 | 19,q=>exact vM (st:=st) h q
 | 20,q=>exact wJ (st:=st) h q
 | 21,q=>exact uz (st:=st) h q
 | 22,q=>exact sP (st:=st) h q
 | 23,q=>exact wG (st:=st) h q
 | 24,q=>exact xX (st:=st) h q
 | 25,q=>exact sJ (st:=st) h q
 | 26,q=>exact h_ (st:=st) h q
 | 27,q=>exact qG (st:=st) h q
 | 28,q=>exact v9 (st:=st) h q
 | 29,q=>exact qz (st:=st) h q
 | 30,q=>exact oq (st:=st) h q
 | 31,q=>exact mh (st:=st) h q
 | 32,q=>exact qv (st:=st) h q
 | 33,q=>exact oR (st:=st) h q
 | 34,q=>exact pf (st:=st) h q
 | 35,q=>exact mR (st:=st) h q
 | 36,q=>exact m9 (st:=st) h q
 | 37,q=>exact tB (st:=st) h q
 | 38,q=>exact mX (st:=st) h q
 | 39,q=>exact kM (st:=st) h q
 | 40,q=>exact qM (st:=st) h q
 | 41,q=>exact mZ (st:=st) h q
 | 42,q=>exact DC (st:=st) h q
 | _+43,q=>exact q.elim
noncomputable def bQ:List Str:=((["is_whole","common_divisor","is_fraction","fraction","plus","less","times","is_below","crosswise","on_straight","is_piece","is_right_alone","is_right_first","is_right_behind","is_row","goes_on","lean","is_stair","beginning_of","height","merged","cut_at","leaders","common","apart","crossed","compared_between","compared","lesser","_law_pot"]:List Str)++(["_law_take","_law_moment","_law_row","_law_lean","_law_part","_law_stair","_law_hints","_law_on","_law_alike","_law_middles","_law_due","_law_right","law"]:List Str))
noncomputable def bC:List Str:=["isinstance","bool","int","len","tuple","all","zip","enumerate","abs","max","divmod","range","min"]
noncomputable def glL:List (Str × PV):=[("NOUGHT",bF)]
noncomputable abbrev cK:Stmt:=top 1
theorem uW:ai ["thing"] ["thing"] (aa cK):=⟨rfl,rfl,rfl,by decide +kernel,rfl,by decide +kernel,by decide +kernel⟩
noncomputable def jD:Cfg:={ N:=["thing"],names:=(aa cK).names,fns:=bQ,lim:=0,blts:=bC,gl:=glL }
noncomputable def fN:Ss:=(.cons (.ret (.bop true (.cons (.inst (.var 0) "int") (.cons (.not (.inst (.var 0) "bool")) .nil)))) .nil)
theorem xp:ay jD fN (ac cK)=true:=by decide +kernel
noncomputable abbrev aK:Stmt:=top 2
theorem j7:ai ["n","d"] ["n","d"] (aa aK):=⟨rfl,rfl,rfl,by decide +kernel,rfl,by decide +kernel,by decide +kernel⟩
noncomputable def dX:Cfg:={ N:=["n","d"],names:=(aa aK).names,fns:=bQ,lim:=1,blts:=bC,gl:=glL }
noncomputable def db:Ss:=(.cons (.whileS (.cmp .NotEq (.var 1) (.int 0)) (.cons (.par 0 1 (.var 1) (.bin .Mod (.var 0) (.var 1))) .nil)) (.cons (.ret (.var 0)) .nil))
theorem mq:ay dX db (ac aK)=true:=by decide +kernel
noncomputable abbrev bq:Stmt:=top 3
theorem oZ:ai ["thing","n","d"] ["thing"] (aa bq):=⟨rfl,rfl,rfl,by decide +kernel,rfl,by decide +kernel,by decide +kernel⟩
noncomputable def fH:Cfg:={ N:=["thing","n","d"],names:=(aa bq).names,fns:=bQ,lim:=2,blts:=bC,gl:=glL }
noncomputable def dW:Ss:=(.cons (.ifS (.bop false (.cons (.not (.inst (.var 0) "tuple")) (.cons (.cmp .NotEq (.blt .len (.cons (.var 0) .nil)) (.int 2)) .nil))) (.cons (.ret (.bl false)) .nil) .nil) (.cons (.set (.tup (.cons (.name 1) (.cons (.name 2) .nil))) (.var 0)) (.cons (.ifS (.bop false (.cons (.not (.call 0 (.cons (.var 1) .nil))) (.cons (.not (.call 0 (.cons (.var 2) .nil))) .nil))) (.cons (.ret (.bl false)) .nil) .nil) (.cons (.ret (.bop true (.cons (.cmp .GtE (.var 1) (.int 0)) (.cons (.cmp .GtE (.var 2) (.int 1)) (.cons (.cmp .Eq (.call 1 (.cons (.var 1) (.cons (.var 2) .nil))) (.int 1)) .nil))))) .nil))))
theorem qh:ay fH dW (ac bq)=true:=by decide +kernel
noncomputable abbrev cJ:Stmt:=top 4
theorem wk:ai ["n","d","divisor"] ["n","d"] (aa cJ):=⟨rfl,rfl,rfl,by decide +kernel,rfl,by decide +kernel,by decide +kernel⟩
noncomputable def jy:Cfg:={ N:=["n","d","divisor"],names:=(aa cJ).names,fns:=bQ,lim:=3,blts:=bC,gl:=glL }
noncomputable def fT:Ss:=(.cons (.set (.name 2) (.call 1 (.cons (.var 0) (.cons (.var 1) .nil)))) (.cons (.ret (.tup (.cons (.bin .FloorDiv (.var 0) (.var 2)) (.cons (.bin .FloorDiv (.var 1) (.var 2)) .nil)))) .nil))
theorem wM:ay jy fT (ac cJ)=true:=by decide +kernel
noncomputable abbrev ig:Stmt:=top 5
theorem DX:ai ["one","other"] ["one","other"] (aa ig):=⟨rfl,rfl,rfl,by decide +kernel,rfl,by decide +kernel,by decide +kernel⟩
noncomputable def wN:Cfg:={ N:=["one","other"],names:=(aa ig).names,fns:=bQ,lim:=4,blts:=bC,gl:=glL }
noncomputable def mf:Ss:=(.cons (.ret (.call 3 (.cons (.bin .Add (.bin .Mult (.ix (.var 0) (.int 0)) (.ix (.var 1) (.int 1))) (.bin .Mult (.ix (.var 1) (.int 0)) (.ix (.var 0) (.int 1)))) (.cons (.bin .Mult (.ix (.var 0) (.int 1)) (.ix (.var 1) (.int 1))) .nil)))) .nil)
theorem Gg:ay wN mf (ac ig)=true:=by decide +kernel
noncomputable abbrev iK:Stmt:=top 6
theorem E7:ai ["one","other"] ["one","other"] (aa iK):=⟨rfl,rfl,rfl,by decide +kernel,rfl,by decide +kernel,by decide +kernel⟩
noncomputable def xE:Cfg:={ N:=["one","other"],names:=(aa iK).names,fns:=bQ,lim:=5,blts:=bC,gl:=glL }
noncomputable def me:Ss:=(.cons (.ret (.call 3 (.cons (.bin .Sub (.bin .Mult (.ix (.var 0) (.int 0)) (.ix (.var 1) (.int 1))) (.bin .Mult (.ix (.var 1) (.int 0)) (.ix (.var 0) (.int 1)))) (.cons (.bin .Mult (.ix (.var 0) (.int 1)) (.ix (.var 1) (.int 1))) .nil)))) .nil)
theorem Hh:ay xE me (ac iK)=true:=by decide +kernel
noncomputable abbrev fD:Stmt:=top 7
theorem Dg:ai ["one","other"] ["one","other"] (aa fD):=⟨rfl,rfl,rfl,by decide +kernel,rfl,by decide +kernel,by decide +kernel⟩
noncomputable def rR:Cfg:={ N:=["one","other"],names:=(aa fD).names,fns:=bQ,lim:=6,blts:=bC,gl:=glL }
noncomputable def jU:Ss:=(.cons (.ret (.call 3 (.cons (.bin .Mult (.ix (.var 0) (.int 0)) (.ix (.var 1) (.int 0))) (.cons (.bin .Mult (.ix (.var 0) (.int 1)) (.ix (.var 1) (.int 1))) .nil)))) .nil)
theorem D6:ay rR jU (ac fD)=true:=by decide +kernel
noncomputable abbrev cH:Stmt:=top 8
theorem vS:ai ["one","other"] ["one","other"] (aa cH):=⟨rfl,rfl,rfl,by decide +kernel,rfl,by decide +kernel,by decide +kernel⟩
noncomputable def jK:Cfg:={ N:=["one","other"],names:=(aa cH).names,fns:=bQ,lim:=7,blts:=bC,gl:=glL }
noncomputable def fM:Ss:=(.cons (.ret (.cmp .Lt (.bin .Mult (.ix (.var 0) (.int 0)) (.ix (.var 1) (.int 1))) (.bin .Mult (.ix (.var 1) (.int 0)) (.ix (.var 0) (.int 1))))) .nil)
theorem xL:ay jK fM (ac cH)=true:=by decide +kernel
noncomputable abbrev bZ:Stmt:=top 10
theorem rV:ai ["one","other"] ["one","other"] (aa bZ):=⟨rfl,rfl,rfl,by decide +kernel,rfl,by decide +kernel,by decide +kernel⟩
noncomputable def iI:Cfg:={ N:=["one","other"],names:=(aa bZ).names,fns:=bQ,lim:=8,blts:=bC,gl:=glL }
noncomputable def fk:Ss:=(.cons (.ret (.bin .Sub (.bin .Mult (.ix (.var 0) (.int 0)) (.ix (.var 1) (.int 1))) (.bin .Mult (.ix (.var 1) (.int 0)) (.ix (.var 0) (.int 1))))) .nil)
theorem vp:ay iI fk (ac bZ)=true:=by decide +kernel
noncomputable abbrev bp:Stmt:=top 11
theorem oX:ai ["near","far","x","near_x","near_y","far_x","far_y","done","left","above"] ["near","far","x"] (aa bp):=⟨rfl,rfl,rfl,by decide +kernel,rfl,by decide +kernel,by decide +kernel⟩
noncomputable def fS:Cfg:={ N:=["near","far","x","near_x","near_y","far_x","far_y","done","left","above"],names:=(aa bp).names,fns:=bQ,lim:=9,blts:=bC,gl:=glL }
noncomputable def dU:Ss:=(.cons (.set (.tup (.cons (.tup (.cons (.name 3) (.cons (.name 4) .nil))) (.cons (.tup (.cons (.name 5) (.cons (.name 6) .nil))) .nil))) (.tup (.cons (.var 0) (.cons (.var 1) .nil)))) (.cons (.set (.name 7) (.bin .Mult (.call 8 (.cons (.var 2) (.cons (.var 3) .nil))) (.ix (.var 5) (.int 1)))) (.cons (.set (.name 8) (.bin .Mult (.call 8 (.cons (.var 5) (.cons (.var 2) .nil))) (.ix (.var 3) (.int 1)))) (.cons (.set (.name 9) (.bin .Add (.bin .Mult (.bin .Mult (.ix (.var 4) (.int 0)) (.ix (.var 6) (.int 1))) (.var 8)) (.bin .Mult (.bin .Mult (.ix (.var 6) (.int 0)) (.ix (.var 4) (.int 1))) (.var 7)))) (.cons (.ret (.call 3 (.cons (.var 9) (.cons (.bin .Mult (.bin .Mult (.ix (.var 4) (.int 1)) (.ix (.var 6) (.int 1))) (.bin .Add (.var 8) (.var 7))) .nil)))) .nil)))))
theorem p8:ay fS dU (ac bp)=true:=by decide +kernel
noncomputable abbrev cB:Stmt:=top 14
theorem tR:ai ["thing"] ["thing"] (aa cB):=⟨rfl,rfl,rfl,by decide +kernel,rfl,by decide +kernel,by decide +kernel⟩
noncomputable def jJ:Cfg:={ N:=["thing"],names:=(aa cB).names,fns:=bQ,lim:=10,blts:=bC,gl:=glL }
noncomputable def fW:Ss:=(.cons (.ret (.bop true (.cons (.inst (.var 0) "tuple") (.cons (.cmp .Eq (.blt .len (.cons (.var 0) .nil)) (.int 3)) (.cons (.tmp (.blt .all1 (.cons (.comp (.call 2 (.cons (.var 0) .nil)) (.name 0) (.seq (.var 0)) .nil ["part"] []) .nil))) .nil))))) .nil)
theorem wY:ay jJ fW (ac cB)=true:=by decide +kernel
noncomputable abbrev aJ:Stmt:=top 15
theorem kz:ai ["piece","end","low","high"] ["piece"] (aa aJ):=⟨rfl,rfl,rfl,by decide +kernel,rfl,by decide +kernel,by decide +kernel⟩
noncomputable def dS:Cfg:={ N:=["piece","end","low","high"],names:=(aa aJ).names,fns:=bQ,lim:=11,blts:=bC,gl:=glL }
noncomputable def c_:Ss:=(.cons (.set (.tup (.cons (.name 1) (.cons (.name 2) (.cons (.name 3) .nil)))) (.var 0)) (.cons (.ret (.bop true (.cons (.not (.call 7 (.cons (.var 3) (.cons (.var 2) .nil)))) (.cons (.not (.call 7 (.cons (.var 3) (.cons (.var 1) .nil)))) .nil)))) .nil))
theorem lP:ay dS c_ (ac aJ)=true:=by decide +kernel
noncomputable abbrev aL:Stmt:=top 16
theorem kE:ai ["piece","end","low","high"] ["piece"] (aa aL):=⟨rfl,rfl,rfl,by decide +kernel,rfl,by decide +kernel,by decide +kernel⟩
noncomputable def dY:Cfg:={ N:=["piece","end","low","high"],names:=(aa aL).names,fns:=bQ,lim:=12,blts:=bC,gl:=glL }
noncomputable def dc:Ss:=(.cons (.set (.tup (.cons (.name 1) (.cons (.name 2) (.cons (.name 3) .nil)))) (.var 0)) (.cons (.ret (.bop false (.cons (.cmp .NotEq (.var 1) (.gv "NOUGHT" bF)) (.cons (.cmp .Eq (.var 2) (.var 3)) .nil)))) .nil))
theorem lG:ay dY dc (ac aL)=true:=by decide +kernel
noncomputable abbrev aG:Stmt:=top 17
theorem jT:ai ["ahead","piece"] ["ahead","piece"] (aa aG):=⟨rfl,rfl,rfl,by decide +kernel,rfl,by decide +kernel,by decide +kernel⟩
noncomputable def dM:Cfg:={ N:=["ahead","piece"],names:=(aa aG).names,fns:=bQ,lim:=13,blts:=bC,gl:=glL }
noncomputable def cL:Ss:=(.cons (.ret (.bop true (.cons (.call 7 (.cons (.ix (.var 0) (.int 0)) (.cons (.ix (.var 1) (.int 0)) .nil))) (.cons (.not (.call 7 (.cons (.ix (.var 1) (.int 1)) (.cons (.ix (.var 0) (.int 2)) .nil)))) .nil)))) .nil)
theorem kY:ay dM cL (ac aG)=true:=by decide +kernel
noncomputable abbrev ei:Stmt:=top 18
theorem zX:ai ["thing"] ["thing"] (aa ei):=⟨rfl,rfl,rfl,by decide +kernel,rfl,by decide +kernel,by decide +kernel⟩
noncomputable def oU:Cfg:={ N:=["thing"],names:=(aa ei).names,fns:=bQ,lim:=14,blts:=bC,gl:=glL }
noncomputable def ik:Ss:=(.cons (.ifS (.bop false (.cons (.not (.inst (.var 0) "tuple")) (.cons (.not (.tmp (.blt .all1 (.cons (.comp (.call 10 (.cons (.var 0) .nil)) (.name 0) (.seq (.var 0)) .nil ["piece"] []) .nil)))) .nil))) (.cons (.ret (.bl false)) .nil) .nil) (.cons (.ifS (.not (.tmp (.blt .all1 (.cons (.comp (.call 11 (.cons (.var 0) .nil)) (.name 0) (.seq (.var 0)) .nil ["piece"] []) .nil)))) (.cons (.ret (.bl false)) .nil) .nil) (.cons (.ifS (.bop true (.cons (.cmp .NotEq (.var 0) (.tup .nil)) (.cons (.not (.call 12 (.cons (.ix (.var 0) (.int 0)) .nil))) .nil))) (.cons (.ret (.bl false)) .nil) .nil) (.cons (.ret (.tmp (.blt .all1 (.cons (.comp (.call 13 (.cons (.var 0) (.cons (.var 1) .nil))) (.tup (.cons (.name 0) (.cons (.name 1) .nil))) (.zip (.var 0) (.sl (.var 0) (.yes (.int 1)) .no)) .nil ["ahead","piece"] []) .nil)))) .nil))))
theorem Dt:ay oU ik (ac ei)=true:=by decide +kernel
noncomputable abbrev dr:Stmt:=top 19
theorem xB:ai ["beginning","ahead","piece","rise","width","next_rise","next_width"] ["beginning","ahead","piece"] (aa dr):=⟨rfl,rfl,rfl,by decide +kernel,rfl,by decide +kernel,by decide +kernel⟩
noncomputable def ma:Cfg:={ N:=["beginning","ahead","piece","rise","width","next_rise","next_width"],names:=(aa dr).names,fns:=bQ,lim:=15,blts:=bC,gl:=glL }
noncomputable def hZ:Ss:=(.cons (.ifS (.cmp .NotEq (.ix (.var 2) (.int 1)) (.ix (.var 1) (.int 2))) (.cons (.ret (.bl false)) .nil) .nil) (.cons (.par 3 4 (.call 5 (.cons (.ix (.var 1) (.int 2)) (.cons (.ix (.var 1) (.int 1)) .nil))) (.call 5 (.cons (.ix (.var 1) (.int 0)) (.cons (.var 0) .nil)))) (.cons (.par 5 6 (.call 5 (.cons (.ix (.var 2) (.int 2)) (.cons (.ix (.var 2) (.int 1)) .nil))) (.call 5 (.cons (.ix (.var 2) (.int 0)) (.cons (.ix (.var 1) (.int 0)) .nil)))) (.cons (.ret (.cmp .Eq (.call 6 (.cons (.var 3) (.cons (.var 6) .nil))) (.call 6 (.cons (.var 5) (.cons (.var 4) .nil))))) .nil))))
theorem AO:ay ma hZ (ac dr)=true:=by decide +kernel
noncomputable abbrev iq:Stmt:=top 20
theorem Ed:ai ["row","pieces","beginning","piece"] ["row"] (aa iq):=⟨rfl,rfl,rfl,by decide +kernel,rfl,by decide +kernel,by decide +kernel⟩
noncomputable def yf:Cfg:={ N:=["row","pieces","beginning","piece"],names:=(aa iq).names,fns:=bQ,lim:=16,blts:=bC,gl:=glL }
noncomputable def l_:Ss:=(.cons (.set (.name 1) (.lst .nil)) (.cons (.set (.name 2) (.gv "NOUGHT" bF)) (.cons (.forS (.name 3) (.seq (.var 0)) (.cons (.ifS (.bop true (.cons (.cmp .NotEq (.var 1) (.lst .nil)) (.cons (.call 15 (.cons (.var 2) (.cons (.ix (.var 1) (.neg (.int 1))) (.cons (.var 3) .nil)))) .nil))) (.cons (.set (.sub (.var 1) (.neg (.int 1))) (.tup (.cons (.ix (.var 3) (.int 0)) (.cons (.ix (.ix (.var 1) (.neg (.int 1))) (.int 1)) (.cons (.ix (.var 3) (.int 2)) .nil))))) .nil) (.cons (.set (.name 2) (.ite (.cmp .Eq (.var 1) (.lst .nil)) (.gv "NOUGHT" bF) (.ix (.ix (.var 1) (.neg (.int 1))) (.int 0)))) (.cons (.expr (.met .append (.var 1) (.cons (.var 3) .nil))) .nil))) .nil)) (.cons (.ret (.blt .tuple1 (.cons (.var 1) .nil))) .nil))))
theorem GY:ay yf l_ (ac iq)=true:=by decide +kernel
noncomputable abbrev cT:Stmt:=top 21
theorem ua:ai ["thing"] ["thing"] (aa cT):=⟨rfl,rfl,rfl,by decide +kernel,rfl,by decide +kernel,by decide +kernel⟩
noncomputable def jM:Cfg:={ N:=["thing"],names:=(aa cT).names,fns:=bQ,lim:=17,blts:=bC,gl:=glL }
noncomputable def fV:Ss:=(.cons (.ret (.bop true (.cons (.call 14 (.cons (.var 0) .nil)) (.cons (.cmp .Eq (.call 16 (.cons (.var 0) .nil)) (.var 0)) .nil)))) .nil)
theorem wV:ay jM fV (ac cT)=true:=by decide +kernel
noncomputable abbrev aY:Stmt:=top 22
theorem mK:ai ["stair","at"] ["stair","at"] (aa aY):=⟨rfl,rfl,rfl,by decide +kernel,rfl,by decide +kernel,by decide +kernel⟩
noncomputable def fb:Cfg:={ N:=["stair","at"],names:=(aa aY).names,fns:=bQ,lim:=18,blts:=bC,gl:=glL }
noncomputable def dC:Ss:=(.cons (.ret (.ite (.cmp .Eq (.var 1) (.int 0)) (.gv "NOUGHT" bF) (.ix (.ix (.var 0) (.bin .Sub (.var 1) (.int 1))) (.int 0)))) .nil)
theorem pB:ay fb dC (ac aY)=true:=by decide +kernel
noncomputable abbrev ek:Stmt:=top 23
theorem Ar:ai ["stair","at","t","end","low","high"] ["stair","at","t"] (aa ek):=⟨rfl,rfl,rfl,by decide +kernel,rfl,by decide +kernel,by decide +kernel⟩
noncomputable def oG:Cfg:={ N:=["stair","at","t","end","low","high"],names:=(aa ek).names,fns:=bQ,lim:=19,blts:=bC,gl:=glL }
noncomputable def iE:Ss:=(.cons (.set (.tup (.cons (.name 3) (.cons (.name 4) (.cons (.name 5) .nil)))) (.ix (.var 0) (.var 1))) (.cons (.ifS (.cmp .Eq (.var 2) (.var 3)) (.cons (.ret (.var 5)) .nil) .nil) (.cons (.ret (.call 9 (.cons (.tup (.cons (.call 18 (.cons (.var 0) (.cons (.var 1) .nil))) (.cons (.var 4) .nil))) (.cons (.tup (.cons (.var 3) (.cons (.var 5) .nil))) (.cons (.var 2) .nil))))) .nil)))
theorem BU:ay oG iE (ac ek)=true:=by decide +kernel
noncomputable abbrev d8:Stmt:=top 25
theorem An:ai ["one","other","moments","mine","yours","moment"] ["one","other"] (aa d8):=⟨rfl,rfl,rfl,by decide +kernel,rfl,by decide +kernel,by decide +kernel⟩
noncomputable def nE:Cfg:={ N:=["one","other","moments","mine","yours","moment"],names:=(aa d8).names,fns:=bQ,lim:=20,blts:=bC,gl:=glL }
noncomputable def iN:Ss:=(.cons (.set (.name 2) (.lst .nil)) (.cons (.set2 3 4 (.int 0)) (.cons (.whileS (.bop false (.cons (.cmp .Lt (.var 3) (.blt .len (.cons (.var 0) .nil))) (.cons (.cmp .Lt (.var 4) (.blt .len (.cons (.var 1) .nil))) .nil))) (.cons (.ifS (.bop false (.cons (.cmp .Eq (.var 4) (.blt .len (.cons (.var 1) .nil))) (.cons (.bop true (.cons (.cmp .Lt (.var 3) (.blt .len (.cons (.var 0) .nil))) (.cons (.call 7 (.cons (.ix (.var 0) (.var 3)) (.cons (.ix (.var 1) (.var 4)) .nil))) .nil))) .nil))) (.cons (.set (.name 5) (.ix (.var 0) (.var 3))) (.cons (.aug 3 .Add (.int 1)) .nil)) (.cons (.set (.name 5) (.ix (.var 1) (.var 4))) (.cons (.aug 4 .Add (.int 1)) .nil))) (.cons (.ifS (.bop false (.cons (.cmp .Eq (.var 2) (.lst .nil)) (.cons (.cmp .NotEq (.ix (.var 2) (.neg (.int 1))) (.var 5)) .nil))) (.cons (.expr (.met .append (.var 2) (.cons (.var 5) .nil))) .nil) .nil) .nil))) (.cons (.ret (.var 2)) .nil))))
theorem B6:ay nE iN (ac d8)=true:=by decide +kernel
noncomputable abbrev ej:Stmt:=top 26
theorem Af:ai ["stair","ends","told","at","piece","low","high"] ["stair","ends"] (aa ej):=⟨rfl,rfl,rfl,by decide +kernel,rfl,by decide +kernel,by decide +kernel⟩
noncomputable def oC:Cfg:={ N:=["stair","ends","told","at","piece","low","high"],names:=(aa ej).names,fns:=bQ,lim:=21,blts:=bC,gl:=glL }
noncomputable def iH:Ss:=(.cons (.set (.name 2) (.lst .nil)) (.cons (.forS (.tup (.cons (.name 3) (.cons (.name 4) .nil))) (.enum (.var 0)) (.cons (.set (.name 5) (.ix (.var 4) (.int 1))) (.cons (.whileS (.bop true (.cons (.cmp .Lt (.blt .len (.cons (.var 2) .nil)) (.blt .len (.cons (.var 1) .nil))) (.cons (.not (.call 7 (.cons (.ix (.var 4) (.int 0)) (.cons (.ix (.var 1) (.blt .len (.cons (.var 2) .nil))) .nil)))) .nil))) (.cons (.set (.name 6) (.call 19 (.cons (.var 0) (.cons (.var 3) (.cons (.ix (.var 1) (.blt .len (.cons (.var 2) .nil))) .nil))))) (.cons (.expr (.met .append (.var 2) (.cons (.tup (.cons (.var 5) (.cons (.var 6) .nil))) .nil))) (.cons (.set (.name 5) (.var 6)) .nil)))) .nil))) (.cons (.ret (.bin .Add (.var 2) (.bin .Mult (.lst (.cons .non .nil)) (.bin .Sub (.blt .len (.cons (.var 1) .nil)) (.blt .len (.cons (.var 2) .nil)))))) .nil)))
theorem Ct:ay oC iH (ac ej)=true:=by decide +kernel
noncomputable abbrev dz:Stmt:=top 27
theorem yk:ai ["one","other"] ["one","other"] (aa dz):=⟨rfl,rfl,rfl,by decide +kernel,rfl,by decide +kernel,by decide +kernel⟩
noncomputable def lf:Cfg:={ N:=["one","other"],names:=(aa dz).names,fns:=bQ,lim:=22,blts:=bC,gl:=glL }
noncomputable def g9:Ss:=(.cons (.ifS (.cmp .Eq (.var 0) (.var 1)) (.cons (.ret (.tup (.cons (.int 0) (.cons (.int 1) .nil)))) .nil) .nil) (.cons (.ret (.ite (.call 7 (.cons (.var 0) (.cons (.var 1) .nil))) (.tup (.cons (.int 0) .nil)) (.tup (.cons (.int 1) .nil)))) .nil))
theorem zT:ay lf g9 (ac dz)=true:=by decide +kernel
noncomputable abbrev em:Stmt:=top 28
theorem zL:ai ["some","others"] ["some","others"] (aa em):=⟨rfl,rfl,rfl,by decide +kernel,rfl,by decide +kernel,by decide +kernel⟩
noncomputable def oP:Cfg:={ N:=["some","others"],names:=(aa em).names,fns:=bQ,lim:=23,blts:=bC,gl:=glL }
noncomputable def iP:Ss:=(.cons (.ret (.tmp (.blt .tuple1 (.cons (.comp (.var 0) (.name 0) (.seq (.var 0)) (.cons (.cmp .In (.var 0) (.var 1)) .nil) ["who"] [1]) .nil)))) .nil)
theorem B9:ay oP iP (ac em)=true:=by decide +kernel
noncomputable abbrev fE:Stmt:=top 29
theorem CC:ai ["one","other"] ["one","other"] (aa fE):=⟨rfl,rfl,rfl,by decide +kernel,rfl,by decide +kernel,by decide +kernel⟩
noncomputable def se:Cfg:={ N:=["one","other"],names:=(aa fE).names,fns:=bQ,lim:=24,blts:=bC,gl:=glL }
noncomputable def jL:Ss:=(.cons (.ret (.ite (.call 7 (.cons (.var 0) (.cons (.var 1) .nil))) (.call 5 (.cons (.var 1) (.cons (.var 0) .nil))) (.call 5 (.cons (.var 0) (.cons (.var 1) .nil))))) .nil)
theorem Fm:ay se jL (ac fE)=true:=by decide +kernel
noncomputable abbrev du:Stmt:=top 30
theorem xy:ai ["beginning","end","mine","yours","gap","next_gap","moment","come"] ["beginning","end","mine","yours"] (aa du):=⟨rfl,rfl,rfl,by decide +kernel,rfl,by decide +kernel,by decide +kernel⟩
noncomputable def lH:Cfg:={ N:=["beginning","end","mine","yours","gap","next_gap","moment","come"],names:=(aa du).names,fns:=bQ,lim:=25,blts:=bC,gl:=glL }
noncomputable def gP:Ss:=(.cons (.par 4 5 (.call 24 (.cons (.ix (.var 2) (.int 0)) (.cons (.ix (.var 3) (.int 0)) .nil))) (.call 24 (.cons (.ix (.var 2) (.int 1)) (.cons (.ix (.var 3) (.int 1)) .nil)))) (.cons (.set (.name 6) (.call 9 (.cons (.tup (.cons (.gv "NOUGHT" bF) (.cons (.var 0) .nil))) (.cons (.tup (.cons (.call 4 (.cons (.var 4) (.cons (.var 5) .nil))) (.cons (.var 1) .nil))) (.cons (.var 4) .nil))))) (.cons (.set (.name 7) (.call 9 (.cons (.tup (.cons (.var 0) (.cons (.ix (.var 2) (.int 0)) .nil))) (.cons (.tup (.cons (.var 1) (.cons (.ix (.var 2) (.int 1)) .nil))) (.cons (.var 6) .nil))))) (.cons (.ifS (.call 7 (.cons (.ix (.var 2) (.int 0)) (.cons (.ix (.var 3) (.int 0)) .nil))) (.cons (.ret (.lst (.cons (.tup (.cons (.var 6) (.cons (.ix (.var 2) (.int 0)) (.cons (.var 7) (.cons (.tup (.cons (.int 0) .nil)) .nil))))) (.cons (.tup (.cons (.var 1) (.cons (.var 7) (.cons (.ix (.var 3) (.int 1)) (.cons (.tup (.cons (.int 1) .nil)) .nil))))) .nil)))) .nil) .nil) (.cons (.ret (.lst (.cons (.tup (.cons (.var 6) (.cons (.ix (.var 3) (.int 0)) (.cons (.var 7) (.cons (.tup (.cons (.int 1) .nil)) .nil))))) (.cons (.tup (.cons (.var 1) (.cons (.var 7) (.cons (.ix (.var 2) (.int 1)) (.cons (.tup (.cons (.int 0) .nil)) .nil))))) .nil)))) .nil)))))
theorem Aq:ay lH gP (ac du)=true:=by decide +kernel
noncomputable abbrev aE:Stmt:=top 31
theorem jp:ai ["beginning","end","mine","yours","low","high","leading"] ["beginning","end","mine","yours"] (aa aE):=⟨rfl,rfl,rfl,by decide +kernel,rfl,by decide +kernel,by decide +kernel⟩
noncomputable def dm:Cfg:={ N:=["beginning","end","mine","yours","low","high","leading"],names:=(aa aE).names,fns:=bQ,lim:=26,blts:=bC,gl:=glL }
noncomputable def cx:Ss:=(.cons (.ifS (.bop false (.cons (.cmp .Is (.var 2) .non) (.cons (.cmp .Is (.var 3) .non) .nil))) (.cons (.set (.tup (.cons (.name 4) (.cons (.name 5) .nil))) (.ite (.cmp .Is (.var 2) .non) (.var 3) (.var 2))) (.cons (.ret (.lst (.cons (.tup (.cons (.var 1) (.cons (.var 4) (.cons (.var 5) (.cons (.ite (.cmp .Is (.var 2) .non) (.tup (.cons (.int 1) .nil)) (.tup (.cons (.int 0) .nil))) .nil))))) .nil))) .nil)) .nil) (.cons (.set (.name 6) (.call 23 (.cons (.call 22 (.cons (.ix (.var 2) (.int 0)) (.cons (.ix (.var 3) (.int 0)) .nil))) (.cons (.call 22 (.cons (.ix (.var 2) (.int 1)) (.cons (.ix (.var 3) (.int 1)) .nil))) .nil)))) (.cons (.ifS (.cmp .Eq (.var 6) (.tup .nil)) (.cons (.ret (.call 25 (.cons (.var 0) (.cons (.var 1) (.cons (.var 2) (.cons (.var 3) .nil)))))) .nil) .nil) (.cons (.set (.tup (.cons (.name 4) (.cons (.name 5) .nil))) (.ite (.cmp .Eq (.ix (.var 6) (.int 0)) (.int 0)) (.var 2) (.var 3))) (.cons (.ret (.lst (.cons (.tup (.cons (.var 1) (.cons (.var 4) (.cons (.var 5) (.cons (.var 6) .nil))))) .nil))) .nil)))))
theorem jH:ay dm cx (ac aE)=true:=by decide +kernel
noncomputable abbrev cU:Stmt:=top 32
theorem wm:ai ["one","other","ends","told","beginning","end","mine","yours"] ["one","other"] (aa cU):=⟨rfl,rfl,rfl,by decide +kernel,rfl,by decide +kernel,by decide +kernel⟩
noncomputable def jz:Cfg:={ N:=["one","other","ends","told","beginning","end","mine","yours"],names:=(aa cU).names,fns:=bQ,lim:=27,blts:=bC,gl:=glL }
noncomputable def fJ:Ss:=(.cons (.ifS (.bop true (.cons (.cmp .Eq (.var 0) (.tup .nil)) (.cons (.cmp .Eq (.var 1) (.tup .nil)) .nil))) (.cons (.ret (.lst .nil)) .nil) .nil) (.cons (.set (.name 2) (.call 20 (.cons (.lst (.cons (.gv "NOUGHT" bF) .nil)) (.cons (.call 20 (.cons (.comp (.ix (.var 0) (.int 0)) (.name 0) (.seq (.var 0)) .nil ["piece"] []) (.cons (.comp (.ix (.var 0) (.int 0)) (.name 0) (.seq (.var 1)) .nil ["piece"] []) .nil))) .nil)))) (.cons (.set (.name 3) (.lst .nil)) (.cons (.set (.name 4) (.gv "NOUGHT" bF)) (.cons (.forS (.tup (.cons (.name 5) (.cons (.name 6) (.cons (.name 7) .nil)))) (.zip3 (.var 2) (.call 21 (.cons (.var 0) (.cons (.var 2) .nil))) (.call 21 (.cons (.var 1) (.cons (.var 2) .nil)))) (.cons (.aug 3 .Add (.call 26 (.cons (.var 4) (.cons (.var 5) (.cons (.var 6) (.cons (.var 7) .nil)))))) (.cons (.set (.name 4) (.var 5)) .nil))) (.cons (.ret (.var 3)) .nil))))))
theorem xj:ay jz fJ (ac cU)=true:=by decide +kernel
noncomputable abbrev d9:Stmt:=top 33
theorem AB:ai ["one","other"] ["one","other"] (aa d9):=⟨rfl,rfl,rfl,by decide +kernel,rfl,by decide +kernel,by decide +kernel⟩
noncomputable def pP:Cfg:={ N:=["one","other"],names:=(aa d9).names,fns:=bQ,lim:=28,blts:=bC,gl:=glL }
noncomputable def iX:Ss:=(.cons (.ret (.call 16 (.cons (.tmp (.blt .tuple1 (.cons (.comp (.tup (.cons (.var 0) (.cons (.var 1) (.cons (.var 2) .nil)))) (.tup (.cons (.name 0) (.cons (.name 1) (.cons (.name 2) (.cons (.name 3) .nil))))) (.seq (.call 27 (.cons (.var 0) (.cons (.var 1) .nil)))) .nil ["end","low","high","leading"] []) .nil))) .nil))) .nil)
theorem Ds:ay pP iX (ac d9)=true:=by decide +kernel
noncomputable abbrev cP:Stmt:=top 35
theorem vb:ai ["_law_script","_law_k","_law_cell"] ["_law_script","_law_k"] (aa cP):=⟨rfl,rfl,rfl,by decide +kernel,rfl,by decide +kernel,by decide +kernel⟩
noncomputable def jW:Cfg:={ N:=["_law_script","_law_k","_law_cell"],names:=(aa cP).names,fns:=bQ,lim:=29,blts:=bC,gl:=glL }
noncomputable def fL:Ss:=(.cons (.set (.name 2) (.ite (.cmp .Lt (.var 1) (.blt .len (.cons (.var 0) .nil))) (.ix (.var 0) (.var 1)) (.int 0))) (.cons (.ret (.lst (.cons (.blt .max2 (.cons (.int 0) (.cons (.bin .Sub (.blt .abs1 (.cons (.var 2) .nil)) (.bin .Pow (.int 10) (.int 18))) .nil))) (.cons (.bin .Add (.bin .Add (.bin .Mod (.blt .abs1 (.cons (.var 2) .nil)) (.int 2147483629)) (.bin .Mult (.int 97) (.var 1))) (.int 1)) .nil)))) .nil))
theorem x_:ay jW fL (ac cP)=true:=by decide +kernel
noncomputable abbrev bX:Stmt:=top 36
theorem sH:ai ["_law_pot_here","_law_many","_law_digit"] ["_law_pot_here","_law_many"] (aa bX):=⟨rfl,rfl,rfl,by decide +kernel,rfl,by decide +kernel,by decide +kernel⟩
noncomputable def io:Cfg:={ N:=["_law_pot_here","_law_many","_law_digit"],names:=(aa bX).names,fns:=bQ,lim:=30,blts:=bC,gl:=glL }
noncomputable def ff:Ss:=(.cons (.ifS (.cmp .Gt (.ix (.var 0) (.int 0)) (.int 0)) (.cons (.set (.tup (.cons (.sub (.var 0) (.int 0)) (.cons (.name 2) .nil))) (.blt .divmod (.cons (.ix (.var 0) (.int 0)) (.cons (.var 1) .nil)))) (.cons (.ret (.var 2)) .nil)) .nil) (.cons (.set (.sub (.var 0) (.int 1)) (.bin .Mod (.bin .Add (.bin .Mult (.ix (.var 0) (.int 1)) (.int 48271)) (.int 12345)) (.int 2147483647))) (.cons (.ret (.bin .Mod (.bin .FloorDiv (.bin .Mod (.bin .Mult (.ix (.var 0) (.int 1)) (.ix (.var 0) (.int 1))) (.int 2147483629)) (.int 5)) (.var 1))) .nil)))
theorem vK:ay io ff (ac bX)=true:=by decide +kernel
noncomputable abbrev br:Stmt:=top 37
theorem pM:ai ["_law_n","_law_d","_law_left","_law_right_here"] ["_law_n","_law_d"] (aa br):=⟨rfl,rfl,rfl,by decide +kernel,rfl,by decide +kernel,by decide +kernel⟩
noncomputable def fI:Cfg:={ N:=["_law_n","_law_d","_law_left","_law_right_here"],names:=(aa br).names,fns:=bQ,lim:=31,blts:=bC,gl:=glL }
noncomputable def dQ:Ss:=(.cons (.par 2 3 (.var 0) (.var 1)) (.cons (.whileS (.cmp .Gt (.var 3) (.int 0)) (.cons (.par 2 3 (.var 3) (.bin .Mod (.var 2) (.var 3))) .nil)) (.cons (.ret (.tup (.cons (.bin .FloorDiv (.var 0) (.var 2)) (.cons (.bin .FloorDiv (.var 1) (.var 2)) .nil)))) .nil)))
theorem qb:ay fI dQ (ac br)=true:=by decide +kernel
noncomputable abbrev cG:Stmt:=top 38
theorem wI:ai ["_law_pot_here","_law_hints_here","_law_found","_law_begin","_law_height","_law_many","_law_k","_law_end","_law_later","_law_low","_law_high"] ["_law_pot_here","_law_hints_here"] (aa cG):=⟨rfl,rfl,rfl,by decide +kernel,rfl,by decide +kernel,by decide +kernel⟩
noncomputable def jI:Cfg:={ N:=["_law_pot_here","_law_hints_here","_law_found","_law_begin","_law_height","_law_many","_law_k","_law_end","_law_later","_law_low","_law_high"],names:=(aa cG).names,fns:=bQ,lim:=32,blts:=bC,gl:=glL }
noncomputable def fK:Ss:=(.cons (.set (.name 2) (.lst .nil)) (.cons (.set (.name 3) (.int 0)) (.cons (.set (.name 4) (.int 0)) (.cons (.set (.name 5) (.call 30 (.cons (.var 0) (.cons (.int 7) .nil)))) (.cons (.ifS (.cmp .Eq (.call 30 (.cons (.var 0) (.cons (.int 8) .nil))) (.int 0)) (.cons (.set (.name 5) (.bin .Add (.int 7) (.call 30 (.cons (.var 0) (.cons (.int 14) .nil))))) .nil) .nil) (.cons (.forS (.name 6) (.range1 (.var 5)) (.cons (.set (.name 7) (.bin .Add (.bin .Add (.var 3) (.int 1)) (.call 30 (.cons (.var 0) (.cons (.ix (.tup (.cons (.int 3) (.cons (.int 9) (.cons (.bin .Pow (.int 10) (.int 9)) .nil)))) (.call 30 (.cons (.var 0) (.cons (.int 3) .nil)))) .nil))))) (.cons (.ifS (.bop true (.cons (.cmp .Eq (.var 6) (.int 0)) (.cons (.cmp .Eq (.call 30 (.cons (.var 0) (.cons (.int 4) .nil))) (.int 0)) .nil))) (.cons (.set (.name 7) (.int 0)) .nil) .nil) (.cons (.set (.name 8) (.comp (.var 0) (.name 0) (.seq (.var 1)) (.cons (.cmp .Gt (.var 0) (.var 1)) .nil) ["_law_hint"] [3])) (.cons (.ifS (.bop true (.cons (.cmp .NotEq (.var 8) (.lst .nil)) (.cons (.cmp .Eq (.call 30 (.cons (.var 0) (.cons (.int 2) .nil))) (.int 0)) .nil))) (.cons (.set (.name 7) (.ix (.var 8) (.call 30 (.cons (.var 0) (.cons (.blt .len (.cons (.var 8) .nil)) .nil))))) .nil) .nil) (.cons (.set (.name 9) (.bin .Add (.blt .max2 (.cons (.var 4) (.cons (.var 3) .nil))) (.tmp (.ix (.lst (.cons (.int 0) (.cons (.call 30 (.cons (.var 0) (.cons (.int 4) .nil))) (.cons (.call 30 (.cons (.var 0) (.cons (.bin .Pow (.int 10) (.int 9)) .nil))) .nil)))) (.call 30 (.cons (.var 0) (.cons (.int 3) .nil))))))) (.cons (.set (.name 10) (.bin .Add (.blt .max2 (.cons (.var 9) (.cons (.var 7) .nil))) (.tmp (.ix (.lst (.cons (.int 0) (.cons (.call 30 (.cons (.var 0) (.cons (.int 4) .nil))) (.cons (.call 30 (.cons (.var 0) (.cons (.bin .Pow (.int 10) (.int 9)) .nil))) .nil)))) (.call 30 (.cons (.var 0) (.cons (.int 3) .nil))))))) (.cons (.ifS (.cmp .Eq (.var 7) (.int 0)) (.cons (.set (.name 10) (.var 9)) .nil) .nil) (.cons (.expr (.met .append (.var 2) (.cons (.tup (.cons (.var 7) (.cons (.var 9) (.cons (.var 10) .nil)))) .nil))) (.cons (.set (.tup (.cons (.name 3) (.cons (.name 4) .nil))) (.tup (.cons (.var 7) (.cons (.var 10) .nil)))) .nil)))))))))) (.cons (.ret (.var 2)) .nil)))))))
theorem xA:ay jI fK (ac cG)=true:=by decide +kernel
noncomputable abbrev bW:Stmt:=top 39
theorem rW:ai ["_law_row_here","_law_found","_law_end","_law_low","_law_high","_law_begin","_law_ahead","_law_there","_law_bottom","_law_top","_law_rise"] ["_law_row_here"] (aa bW):=⟨rfl,rfl,rfl,by decide +kernel,rfl,by decide +kernel,by decide +kernel⟩
noncomputable def iA:Cfg:={ N:=["_law_row_here","_law_found","_law_end","_law_low","_law_high","_law_begin","_law_ahead","_law_there","_law_bottom","_law_top","_law_rise"],names:=(aa bW).names,fns:=bQ,lim:=33,blts:=bC,gl:=glL }
noncomputable def e8:Ss:=(.cons (.set (.name 1) (.lst .nil)) (.cons (.forS (.tup (.cons (.name 2) (.cons (.name 3) (.cons (.name 4) .nil)))) (.seq (.var 0)) (.cons (.set (.name 5) (.ite (.cmp .NotEq (.var 1) (.lst .nil)) (.ix (.ix (.var 1) (.neg (.int 1))) (.int 0)) (.int 0))) (.cons (.ifS (.bop true (.cons (.cmp .NotEq (.var 1) (.lst .nil)) (.cons (.cmp .Eq (.ix (.ix (.var 1) (.neg (.int 1))) (.int 2)) (.var 3)) .nil))) (.cons (.set (.name 6) (.ite (.cmp .Gt (.blt .len (.cons (.var 1) .nil)) (.int 1)) (.ix (.ix (.var 1) (.neg (.int 2))) (.int 0)) (.int 0))) (.cons (.set (.tup (.cons (.name 7) (.cons (.name 8) (.cons (.name 9) .nil)))) (.ix (.var 1) (.neg (.int 1)))) (.cons (.set (.name 10) (.bin .Mult (.bin .Sub (.var 9) (.var 8)) (.bin .Sub (.var 2) (.var 5)))) (.cons (.ifS (.bop false (.cons (.cmp .Eq (.var 7) (.var 6)) (.cons (.cmp .Eq (.var 10) (.bin .Mult (.bin .Sub (.var 4) (.var 3)) (.bin .Sub (.var 7) (.var 6)))) .nil))) (.cons (.set (.name 3) (.var 8)) (.cons (.expr (.met .pop0 (.var 1) .nil)) .nil)) .nil) .nil)))) .nil) (.cons (.expr (.met .append (.var 1) (.cons (.tup (.cons (.var 2) (.cons (.var 3) (.cons (.var 4) .nil)))) .nil))) .nil)))) (.cons (.ret (.var 1)) .nil)))
theorem u6:ay iA e8 (ac bW)=true:=by decide +kernel
noncomputable abbrev b7:Stmt:=top 40
theorem sM:ai ["_law_pot_here"] ["_law_pot_here"] (aa b7):=⟨rfl,rfl,rfl,by decide +kernel,rfl,by decide +kernel,by decide +kernel⟩
noncomputable def ip:Cfg:={ N:=["_law_pot_here"],names:=(aa b7).names,fns:=bQ,lim:=34,blts:=bC,gl:=glL }
noncomputable def fg:Ss:=(.cons (.ret (.bin .Add (.int 1) (.call 30 (.cons (.var 0) (.cons (.ix (.tup (.cons (.int 1) (.cons (.int 2) (.cons (.int 12) (.cons (.bin .Pow (.int 10) (.int 11)) .nil))))) (.call 30 (.cons (.var 0) (.cons (.int 4) .nil)))) .nil))))) .nil)
theorem wa:ay ip fg (ac b7)=true:=by decide +kernel
noncomputable abbrev bI:Stmt:=top 41
theorem qf:ai ["_law_row_here","_law_part_here"] ["_law_row_here","_law_part_here"] (aa bI):=⟨rfl,rfl,rfl,by decide +kernel,rfl,by decide +kernel,by decide +kernel⟩
noncomputable def gX:Cfg:={ N:=["_law_row_here","_law_part_here"],names:=(aa bI).names,fns:=bQ,lim:=35,blts:=bC,gl:=glL }
noncomputable def eJ:Ss:=(.cons (.ret (.tmp (.blt .tuple1 (.cons (.comp (.tmp (.blt .tuple1 (.cons (.comp (.call 31 (.cons (.var 0) (.cons (.var 1) .nil))) (.name 0) (.seq (.var 0)) .nil ["_law_number"] [1]) .nil))) (.name 0) (.seq (.call 33 (.cons (.var 0) .nil))) .nil ["_law_piece"] [1]) .nil)))) .nil)
theorem sF:ay gX eJ (ac bI)=true:=by decide +kernel
noncomputable abbrev bJ:Stmt:=top 42
theorem qj:ai ["_law_row_here"] ["_law_row_here"] (aa bJ):=⟨rfl,rfl,rfl,by decide +kernel,rfl,by decide +kernel,by decide +kernel⟩
noncomputable def gS:Cfg:={ N:=["_law_row_here"],names:=(aa bJ).names,fns:=bQ,lim:=36,blts:=bC,gl:=glL }
noncomputable def eO:Ss:=(.cons (.ret (.bin .Add (.bin .Add (.comp (.var 0) (.tup (.cons (.name 0) (.cons (.name 1) (.cons (.name 2) .nil)))) (.seq (.var 0)) .nil ["_law_end","_law_low","_law_high"] []) (.comp (.var 1) (.tup (.cons (.name 0) (.cons (.name 1) (.cons (.name 2) .nil)))) (.seq (.var 0)) .nil ["_law_end","_law_low","_law_high"] [])) (.comp (.var 2) (.tup (.cons (.name 0) (.cons (.name 1) (.cons (.name 2) .nil)))) (.seq (.var 0)) .nil ["_law_end","_law_low","_law_high"] []))) .nil)
theorem rS:ay gS eO (ac bJ)=true:=by decide +kernel
noncomputable abbrev dw:Stmt:=top 43
theorem xv:ai ["_law_stair_here","_law_t","_law_begin","_law_end","_law_low","_law_high","_law_wide","_law_left","_law_done","_law_number"] ["_law_stair_here","_law_t"] (aa dw):=⟨rfl,rfl,rfl,by decide +kernel,rfl,by decide +kernel,by decide +kernel⟩
noncomputable def mj:Cfg:={ N:=["_law_stair_here","_law_t","_law_begin","_law_end","_law_low","_law_high","_law_wide","_law_left","_law_done","_law_number"],names:=(aa dw).names,fns:=bQ,lim:=37,blts:=bC,gl:=glL }
noncomputable def hJ:Ss:=(.cons (.set (.name 2) (.tup (.cons (.int 0) (.cons (.int 1) .nil)))) (.cons (.forS (.tup (.cons (.name 3) (.cons (.name 4) (.cons (.name 5) .nil)))) (.seq (.var 0)) (.cons (.ifS (.cmp .LtE (.bin .Mult (.ix (.var 1) (.int 0)) (.ix (.var 3) (.int 1))) (.bin .Mult (.ix (.var 3) (.int 0)) (.ix (.var 1) (.int 1)))) (.cons (.set (.name 6) (.bin .Sub (.bin .Mult (.ix (.var 3) (.int 0)) (.ix (.var 2) (.int 1))) (.bin .Mult (.ix (.var 2) (.int 0)) (.ix (.var 3) (.int 1))))) (.cons (.ifS (.cmp .Eq (.var 6) (.int 0)) (.cons (.ret (.var 4)) .nil) .nil) (.cons (.set (.name 7) (.bin .Sub (.bin .Mult (.ix (.var 3) (.int 0)) (.ix (.var 1) (.int 1))) (.bin .Mult (.ix (.var 1) (.int 0)) (.ix (.var 3) (.int 1))))) (.cons (.set (.name 8) (.bin .Sub (.bin .Mult (.ix (.var 1) (.int 0)) (.ix (.var 2) (.int 1))) (.bin .Mult (.ix (.var 2) (.int 0)) (.ix (.var 1) (.int 1))))) (.cons (.set (.name 9) (.bin .Mult (.bin .Mult (.bin .Mult (.ix (.var 4) (.int 0)) (.ix (.var 5) (.int 1))) (.var 7)) (.ix (.var 2) (.int 1)))) (.cons (.set (.name 9) (.bin .Add (.var 9) (.bin .Mult (.bin .Mult (.bin .Mult (.ix (.var 5) (.int 0)) (.ix (.var 4) (.int 1))) (.var 8)) (.ix (.var 3) (.int 1))))) (.cons (.ret (.tup (.cons (.var 9) (.cons (.bin .Mult (.bin .Mult (.bin .Mult (.ix (.var 4) (.int 1)) (.ix (.var 5) (.int 1))) (.ix (.var 1) (.int 1))) (.var 6)) .nil)))) .nil))))))) .nil) (.cons (.set (.name 2) (.var 3)) .nil))) (.cons (.ret .non) .nil)))
theorem Ai:ay mj hJ (ac dw)=true:=by decide +kernel
noncomputable abbrev bK:Stmt:=top 44
theorem qJ:ai ["_law_one","_law_other"] ["_law_one","_law_other"] (aa bK):=⟨rfl,rfl,rfl,by decide +kernel,rfl,by decide +kernel,by decide +kernel⟩
noncomputable def gQ:Cfg:={ N:=["_law_one","_law_other"],names:=(aa bK).names,fns:=bQ,lim:=38,blts:=bC,gl:=glL }
noncomputable def eN:Ss:=(.cons (.ifS (.bop false (.cons (.cmp .Is (.var 0) .non) (.cons (.cmp .Is (.var 1) .non) .nil))) (.cons (.ret (.bop true (.cons (.cmp .Is (.var 0) .non) (.cons (.cmp .Is (.var 1) .non) .nil)))) .nil) .nil) (.cons (.ret (.cmp .Eq (.bin .Mult (.ix (.var 0) (.int 0)) (.ix (.var 1) (.int 1))) (.bin .Mult (.ix (.var 1) (.int 0)) (.ix (.var 0) (.int 1))))) .nil))
theorem sE:ay gQ eN (ac bK)=true:=by decide +kernel
noncomputable abbrev aZ:Stmt:=top 45
theorem mV:ai ["_law_stair_here","_law_found","_law_begin","_law_end","_law_low","_law_high"] ["_law_stair_here"] (aa aZ):=⟨rfl,rfl,rfl,by decide +kernel,rfl,by decide +kernel,by decide +kernel⟩
noncomputable def fc:Cfg:={ N:=["_law_stair_here","_law_found","_law_begin","_law_end","_law_low","_law_high"],names:=(aa aZ).names,fns:=bQ,lim:=39,blts:=bC,gl:=glL }
noncomputable def dG:Ss:=(.cons (.set (.name 1) (.lst (.cons (.tup (.cons (.int 0) (.cons (.int 1) .nil))) .nil))) (.cons (.set (.name 2) (.tup (.cons (.int 0) (.cons (.int 1) .nil)))) (.cons (.forS (.tup (.cons (.name 3) (.cons (.name 4) (.cons (.name 5) .nil)))) (.seq (.var 0)) (.cons (.expr (.met .extend (.var 1) (.cons (.lst (.cons (.tup (.cons (.bin .Add (.bin .Mult (.ix (.var 2) (.int 0)) (.ix (.var 3) (.int 1))) (.bin .Mult (.ix (.var 3) (.int 0)) (.ix (.var 2) (.int 1)))) (.cons (.bin .Mult (.bin .Mult (.int 2) (.ix (.var 2) (.int 1))) (.ix (.var 3) (.int 1))) .nil))) (.cons (.var 3) .nil))) .nil))) (.cons (.set (.name 2) (.var 3)) .nil))) (.cons (.ret (.bin .Add (.var 1) (.lst (.cons (.tup (.cons (.bin .Add (.ix (.var 2) (.int 0)) (.ix (.var 2) (.int 1))) (.cons (.ix (.var 2) (.int 1)) .nil))) .nil)))) .nil))))
theorem pO:ay fc dG (ac aZ)=true:=by decide +kernel
noncomputable abbrev cF:Stmt:=top 46
theorem uw:ai ["_law_one","_law_other","_law_t","_law_a","_law_b"] ["_law_one","_law_other","_law_t"] (aa cF):=⟨rfl,rfl,rfl,by decide +kernel,rfl,by decide +kernel,by decide +kernel⟩
noncomputable def jN:Cfg:={ N:=["_law_one","_law_other","_law_t","_law_a","_law_b"],names:=(aa cF).names,fns:=bQ,lim:=40,blts:=bC,gl:=glL }
noncomputable def fU:Ss:=(.cons (.par 3 4 (.call 37 (.cons (.var 0) (.cons (.var 2) .nil))) (.call 37 (.cons (.var 1) (.cons (.var 2) .nil)))) (.cons (.ifS (.bop false (.cons (.cmp .Is (.var 3) .non) (.cons (.bop true (.cons (.cmp .IsNot (.var 4) .non) (.cons (.cmp .Lt (.bin .Mult (.ix (.var 4) (.int 0)) (.ix (.var 3) (.int 1))) (.bin .Mult (.ix (.var 3) (.int 0)) (.ix (.var 4) (.int 1)))) .nil))) .nil))) (.cons (.ret (.var 4)) .nil) .nil) (.cons (.ret (.var 3)) .nil)))
theorem xJ:ay jN fU (ac cF)=true:=by decide +kernel
noncomputable abbrev bN:Stmt:=top 47
theorem p7:ai ["_law_one","_law_other","_law_made","_law_t"] ["_law_one","_law_other"] (aa bN):=⟨rfl,rfl,rfl,by decide +kernel,rfl,by decide +kernel,by decide +kernel⟩
noncomputable def gO:Cfg:={ N:=["_law_one","_law_other","_law_made","_law_t"],names:=(aa bN).names,fns:=bQ,lim:=41,blts:=bC,gl:=glL }
noncomputable def eI:Ss:=(.cons (.set (.name 2) (.call 28 (.cons (.var 0) (.cons (.var 1) .nil)))) (.cons (.ifS (.bop false (.cons (.not (.call 17 (.cons (.var 2) .nil))) (.cons (.cmp .NotEq (.call 28 (.cons (.var 1) (.cons (.var 0) .nil))) (.var 2)) (.cons (.cmp .NotEq (.call 28 (.cons (.var 0) (.cons (.var 0) .nil))) (.var 0)) (.cons (.cmp .NotEq (.call 28 (.cons (.tup .nil) (.cons (.var 0) .nil))) (.var 0)) .nil))))) (.cons (.ret (.bl false)) .nil) .nil) (.cons (.forS (.name 3) (.seq (.bin .Add (.bin .Add (.call 39 (.cons (.var 2) .nil)) (.call 39 (.cons (.var 0) .nil))) (.call 39 (.cons (.var 1) .nil)))) (.cons (.ifS (.not (.call 38 (.cons (.call 37 (.cons (.var 2) (.cons (.var 3) .nil))) (.cons (.call 40 (.cons (.var 0) (.cons (.var 1) (.cons (.var 3) .nil)))) .nil)))) (.cons (.ret (.bl false)) .nil) .nil) .nil)) (.cons (.ret (.bop true (.cons (.cmp .Eq (.call 28 (.cons (.var 2) (.cons (.var 0) .nil))) (.var 2)) (.cons (.cmp .Eq (.call 28 (.cons (.var 1) (.cons (.var 2) .nil))) (.var 2)) .nil)))) .nil))))
theorem tw:ay gO eI (ac bN)=true:=by decide +kernel
noncomputable abbrev jv:Stmt:=top 48
theorem F5:ai ["_law_script","_law_k","_law_pot_here","_law_first","_law_second","_law_part_here","_law_other"] ["_law_script"] (aa jv):=⟨rfl,rfl,rfl,by decide +kernel,rfl,by decide +kernel,by decide +kernel⟩
noncomputable def Fz:Cfg:={ N:=["_law_script","_law_k","_law_pot_here","_law_first","_law_second","_law_part_here","_law_other"],names:=(aa jv).names,fns:=bQ,lim:=42,blts:=bC,gl:=glL }
noncomputable def o3:Ss:=(.cons (.forS (.name 1) (.range1 (.blt .max2 (.cons (.int 1) (.cons (.blt .min2 (.cons (.blt .len (.cons (.var 0) .nil)) (.cons (.int 2) .nil))) .nil)))) (.cons (.set (.name 2) (.call 29 (.cons (.var 0) (.cons (.var 1) .nil)))) (.cons (.set (.name 3) (.call 32 (.cons (.var 2) (.cons (.lst .nil) .nil)))) (.cons (.set (.name 4) (.call 32 (.cons (.var 2) (.cons (.call 36 (.cons (.var 3) .nil)) .nil)))) (.cons (.set (.name 5) (.call 34 (.cons (.var 2) .nil))) (.cons (.set (.name 6) (.call 35 (.cons (.var 4) (.cons (.tmp (.ix (.lst (.cons (.var 5) (.cons (.var 5) (.cons (.call 34 (.cons (.var 2) .nil)) .nil)))) (.call 30 (.cons (.var 2) (.cons (.int 3) .nil))))) .nil)))) (.cons (.ifS (.not (.call 41 (.cons (.call 35 (.cons (.var 3) (.cons (.var 5) .nil))) (.cons (.var 6) .nil)))) (.cons (.ret (.bl false)) .nil) .nil) .nil))))))) (.cons (.ret (.bl true)) .nil))
theorem IE:ay Fz o3 (ac jv)=true:=by decide +kernel
local macro_rules | `(tactic| walk_at "WP")=>`(tactic| simp only [on,oz,o7,nK,j9,uM,uI,u8,wx,nY,uc,wg,oW,ow,nD,jf,rp,u5,wc,o9,t4,oa,Ag,k_,wn,pN,pK,wl,oQ,uv,wF,CW,vX,tN,Dh,uf,uR,vA,t8,wp,vn,vT,Dp,wE,Do,Bq,oi,uL,nr,uS,oF,vy,pG,jZ,Cy,v5,vO,By,t5,uF,tM,ou,vf,oT,uY,Bt,nq,kR,pA,kl,lw,n8,j0,n_,ko,om,vC,ug,o6,kF,jY,eR,iW,fA,ic,kZ,ii,wo,uq,wd,tL,vH,vg,nJ,oA,nM,pI,n9,vD,Dc,tW,wf,Ck,Dn,vP,vq,nv,pi,Bi,BF,CA,DO,uu,vN,vL,gk,iS,gL,gy,gg,gC,kw,kg,kI,kC,iw,iF,iZ,fY,gi,fj,gH,iL,gI,gc,gF,gM,uQ,v8,tQ,mI,my,tY,vI,t7,uE,vF,uZ,oH,pV,nA,uO,tX,iY,nw,oj,vJ,uX,vj,ww,uj,DR,A8,DU,Bx,DA,uT,og,oo,oI,frame,Γ_0,Γ_1,Γ_2,Γ_3,Γ_4,Γ_5,Γ_6,Γ_7,Γ_8,Γ_9,Bu,CK,BE,Cb,C0,Cl,AZ,DS,CQ,BP,CV,B_,Dk,DE,DL,CZ,CH,B0,Dv,A2,BS,Cz,CB,Cj,Br,DM,BI,C4,Cd,Ce,BX,Dy,Cu,Nat.add_assoc,dN,e_,List.append_assoc,List.length_append,List.length_set,List.map_cons,List.map_nil,List.length_cons,List.length_nil,List.replicate,List.cons_append,List.nil_append,List.append_nil,List.getElem?_cons_zero,List.getElem?_cons_succ,List.set_cons_zero,List.set_cons_succ,Option.some.injEq,Cell.lst.injEq,PV.int.injEq,PV.bl.injEq,PV.ref.injEq,PV.str.injEq,PV.tup.injEq,PV.rdl.injEq,List.cons.injEq,and_true,true_and,exists_eq_left,exists_eq_left',exists_eq_right,exists_and_left,exists_and_right,exists_const,Bool.not_true,Bool.not_false,Bool.not_not,Bool.not_eq_true',decide_eq_true_eq,decide_eq_false_iff_not,false_and,and_false,false_or,or_false,if_true,if_false,Bool.false_eq_true,reduceCtorEq,reduceIte,not_false_eq_true,Nat.add_zero,Nat.zero_add,Nat.reduceAdd,Nat.reduceSub,Nat.reduceLeDiff,Int.reduceToNat,Int.reducePow,Int.reduceLT,Int.reduceLE,Int.reduceNeg,Int.reduceAdd,Int.reduceSub,Int.reduceMul,nP,kD,exists_eq,exists_eq',exists_false,ne_eq,not_true_eq_false,and_assoc,Option.join_some,Option.join_none,decide_true,decide_false,oh,nW,pD,nX,o0,nC,oM,Int.reduceEq,Nat.reduceEqDiff,Bool.not_eq_false,Bool.not_eq_true,Bool.and_true,Bool.true_and,Bool.and_false,Bool.false_and,Bool.or_false,Bool.or_true])
local macro_rules | `(tactic| walk_at "WPO")=>`(tactic| simp only [on,oz,o7,nK,j9,uM,uI,u8,wx,nY,uc,wg,oW,ow,nD,jf,rp,u5,wc,o9,t4,oa,Ag,k_,wn,pN,pK,wl,oQ,uv,wF,CW,vX,tN,Dh,uf,uR,vA,t8,wp,vn,vT,Dp,wE,Do,Bq,oi,uL,nr,uS,oF,vy,pG,jZ,Cy,v5,vO,By,t5,uF,tM,ou,vf,oT,uY,Bt,nq,kR,pA,kl,lw,n8,j0,n_,ko,om,vC,ug,o6,kF,jY,eR,iW,fA,ic,kZ,ii,wo,uq,wd,tL,vH,vg,nJ,oA,nM,pI,n9,vD,Dc,tW,wf,Ck,Dn,vP,vq,nv,pi,Bi,BF,CA,DO,uu,vN,vL,gk,iS,gL,gy,gg,gC,kw,kg,kI,kC,iw,iF,iZ,fY,gi,fj,gH,iL,gI,gc,gF,gM,uQ,v8,tQ,mI,my,tY,vI,t7,uE,vF,uZ,oH,pV,nA,uO,tX,iY,nw,oj,vJ,uX,vj,ww,uj,DR,A8,DU,Bx,DA,uT,og,oo,oI,frame,Γ_0,Γ_1,Γ_2,Γ_3,Γ_4,Γ_5,Γ_6,Γ_7,Γ_8,Γ_9,Bu,CK,BE,Cb,C0,Cl,AZ,DS,CQ,BP,CV,B_,Dk,DE,DL,CZ,CH,B0,Dv,A2,BS,Cz,CB,Cj,Br,DM,BI,C4,Cd,Ce,BX,Dy,Cu,Nat.add_assoc,dN,e_,List.append_assoc,List.length_append,List.length_set,List.map_cons,List.map_nil,List.length_cons,List.length_nil,List.replicate,List.cons_append,List.nil_append,List.append_nil,List.getElem?_cons_zero,List.getElem?_cons_succ,List.set_cons_zero,List.set_cons_succ,Option.some.injEq,Cell.lst.injEq,PV.int.injEq,PV.bl.injEq,PV.ref.injEq,PV.str.injEq,PV.tup.injEq,PV.rdl.injEq,List.cons.injEq,and_true,true_and,exists_eq_left,exists_eq_left',exists_eq_right,exists_and_left,exists_and_right,exists_const,Bool.not_true,Bool.not_false,Bool.not_not,Bool.not_eq_true',decide_eq_true_eq,decide_eq_false_iff_not,false_and,and_false,false_or,or_false,if_true,if_false,Bool.false_eq_true,reduceCtorEq,reduceIte,not_false_eq_true,Nat.add_zero,Nat.zero_add,Nat.reduceAdd,Nat.reduceSub,Nat.reduceLeDiff,Int.reduceToNat,Int.reducePow,Int.reduceLT,Int.reduceLE,Int.reduceNeg,Int.reduceAdd,Int.reduceSub,Int.reduceMul,nP,kD,exists_eq,exists_eq',exists_false,ne_eq,not_true_eq_false,and_assoc,Option.join_some,Option.join_none,decide_true,decide_false,oh,nW,pD,nX,o0,nC,oM,Int.reduceEq,Nat.reduceEqDiff,Bool.not_eq_false,Bool.not_eq_true,Bool.and_true,Bool.true_and,Bool.and_false,Bool.false_and,Bool.or_false,Bool.or_true,C3])
theorem xi {as st Q} (h:dy as st Q):au Γ fN (frame 1 as) st (af st Q):=by
 obtain ⟨v,rfl,hb,k⟩:=h
 obtain ⟨n,hn⟩:=mz hb
 unfold fN
 walk_at "WP"
 rw [xn hn] at k
 refine ⟨n,hn,?_⟩
 cases e:dJ "int" n with
 | false =>
  rw [e] at k
  exact .inl k
 | true =>
  rw [e] at k
  exact Jm ⟨n,hn,.inl k⟩
theorem lN {as st Q} (h:ba as st Q):au Γ db (frame 2 as) st (af st Q):=by
 obtain ⟨n,d,rfl,k⟩:=h
 unfold db
 walk_at "WP"
 refine oV Γm (fun m ρ s=>∃a b:Nat,ρ=[some (.int a),some (.int b)]∧s=st∧Nat.gcd a b=Nat.gcd n d∧m=b) (n:=d) ⟨n,d,rfl,rfl,rfl,rfl⟩ ?_
 rintro m ρ s ⟨a,b,rfl,rfl,hg,rfl⟩
 walk_at "WP"
 by_cases hb:(m:Int)=0
 ·rw [if_neg (fun z=>z hb)]
  have:m=0:=by omega
  subst this
  rw [Nat.gcd_zero_right] at hg
  rw [hg]
  exact .inl k
 ·rw [if_pos hb]
  refine ⟨by omega,a % m,Nat.mod_lt _ (by omega),m,rfl,a % m,?_,?_,rfl⟩
  ·simp
  ·rw [←hg,Nat.gcd_comm a m,Nat.gcd_rec m a,Nat.gcd_comm]
theorem Ht {xs:List PV} (h:xs.length=2):∃x y,xs=[x,y]:=by
 match xs,h with
 | [x,y],_=>exact ⟨x,y,rfl⟩
theorem Dd {k:Nat} {x y:PV} (h:(PV.tup [x,y]).bel k=true):x.bel k=true∧y.bel k=true:=by
 rw [PV.bel,PV.bels,PV.bels,PV.bels,Bool.and_true,Bool.and_eq_true] at h
 exact h
theorem qa {as st Q} (h:bT as st Q):au Γ dW (frame 3 as) st (af st Q):=by
 obtain ⟨v,rfl,hb,k⟩:=h
 obtain ⟨n,hn⟩:=mz hb
 unfold dW
 walk_at "WP"
 refine ⟨n,hn,?_⟩
 obtain ⟨kt,kf⟩:=yj hn
 cases e:dJ "tuple" n with
 | false =>
  rw [kf e] at k
  exact .inl k
 | true =>
  obtain ⟨xs,rfl⟩:=kt e
  walk_at "WP"
  by_cases hl:xs.length=2
  ·obtain ⟨x,y,rfl⟩:=Ht hl
   obtain ⟨bx,by'⟩:=Dd hb
   rw [vk] at k
   walk_at "WP"
   refine ⟨x,rfl,bx,?_⟩
   cases x with
   | int i =>
    simp only [li];walk_at "WP"
    refine ⟨y,rfl,by',?_⟩
    cases y with
    | int j =>
     simp only [li];walk_at "WP"
     by_cases h0:0≤i
     ·rw [if_pos h0]
      by_cases h1:1≤j
      ·rw [if_pos h1]
       refine ⟨i.toNat,j.toNat,?_,?_⟩
       ·rw [Int.toNat_of_nonneg h0,Int.toNat_of_nonneg (by omega)]
       ·walk_at "WP"
        rw [vQ h0 h1]
        exact .inl k
      ·rw [if_neg h1]
       simp only [h1,false_and,and_false,decide_false] at k
       exact .inl k
     ·rw [if_neg h0]
      simp only [h0,false_and,decide_false] at k
      exact .inl k
    | _=>simp only [li];walk_at "WP";exact .inl k
   | _=>simp only [li];walk_at "WP";exact .inl k
  ·rw [BH hl] at k
   rw [if_pos (by omega)]
   exact .inl k
theorem xF {as st Q} (h:dv as st Q):au Γ fT (frame 3 as) st (af st Q):=by
 obtain ⟨n,d,rfl,h1,h2,k⟩:=h
 unfold fT
 walk_at "WP"
 refine ⟨n,d,rfl,?_⟩
 walk_at "WP"
 refine ⟨na h1 h2,na h1 h2,?_⟩
 rw [←Int.natCast_ediv,←Int.natCast_ediv]
 exact .inl k
theorem Ha {as st Q} (h:i_ as st Q):au Γ mf (frame 2 as) st (af st Q):=by
 obtain ⟨p,q,rfl,hp,hq,k⟩:=h
 unfold mf
 walk_at "WP"
 refine ⟨bB hp.a hq.b,bB hq.a hp.b,bB hp.b hq.b,p.1*q.2+q.1*p.2,p.2*q.2,?_,Nat.mul_pos hp.pos hq.pos,GN hp.b hq.b,.inl k⟩
 rw [Int.natCast_add,Int.natCast_mul,Int.natCast_mul,Int.natCast_mul]
theorem GV {as st Q} (h:jd as st Q):au Γ me (frame 2 as) st (af st Q):=by
 obtain ⟨p,q,rfl,hp,hq,hle,k⟩:=h
 unfold me
 walk_at "WP"
 refine ⟨bB hp.a hq.b,bB hq.a hp.b,bB hp.b hq.b,p.1*q.2-q.1*p.2,p.2*q.2,?_,Nat.mul_pos hp.pos hq.pos,GN hp.b hq.b,.inl k⟩
 rw [Int.natCast_sub hle,Int.natCast_mul,Int.natCast_mul,Int.natCast_mul]
theorem E6 {as st Q} (h:f' as st Q):au Γ jU (frame 2 as) st (af st Q):=by
 obtain ⟨p,q,rfl,hp,hq,k⟩:=h
 unfold jU
 walk_at "WP"
 refine ⟨bB hp.a hq.a,bB hp.b hq.b,p.1*q.1,p.2*q.2,?_,Nat.mul_pos hp.pos hq.pos,GN hp.b hq.b,.inl k⟩
 rw [Int.natCast_mul,Int.natCast_mul]
theorem fG {s:AH} {n m:Nat} {xs:List PV} {k:Bool→Prop} (h1:s[n]?=some (.lst xs)) (h2:s[m]?=some (.lst [])) (hd:cO 5 xs=true) (q:k xs.isEmpty):eqW s (.ref n) (.ref m) k:=by
 obtain ⟨ds,e,d1,d2⟩:=cw hd
 refine ⟨.list ds,.list [],by simp [oY,h1,e],by simp [oY,h2,PV.toDs],by simp [SeqAt.shaped,PyData.canLay0,PyData.depth,d1];omega,by simp [SeqAt.shaped,PyData.canLay0,PyData.canLayAll0,PyData.depth,PyData.depthAll],?_⟩
 have:PyData.eqv (.list ds) (.list [])=xs.isEmpty:=by
  cases xs with
  | nil=>simp [PV.toDs] at e;subst e;simp [PyData.eqv,PyData.eqvAll]
  | cons y ys =>
   cases ds with
   | nil=>rw [PV.toDs] at e;split at e <;> simp at e
   | cons=>simp [PyData.eqv,PyData.eqvAll]
 rw [this]
 exact q
theorem wH {X:List Pc}:cO 5 (X.map pcV)=true:=eW fun v hv=>by
 obtain ⟨p,_,rfl⟩:=List.mem_map.mp hv
 rfl
theorem aN {st g:AH} {c:Cell}:(st++c::g)[st.length]?=some c:=by simp
theorem eU {st g:AH} {c c':Cell}:(st++c::g).set st.length c'=st++c'::g:=by
 rw [List.set_append_right _ _ (Nat.le_refl _),Nat.sub_self]
 rfl
theorem sub_le {p q:Nat × Nat} (hp:Sz 3000 p) (hq:Sz 3000 q) (h:val q≤val p):q.1*p.2≤p.1*q.2:=(eK hq.pos hp.pos).mpr h
theorem zS {as st Q} (h:fm as st Q):au Γ hZ (frame 7 as) st (af st Q):=by
 obtain ⟨b,a,p,rfl,hb,ha,hp,h1,h2,h3,h4,k⟩:=h
 unfold hZ
 walk_at "WP"
 refine jS ?_
 by_cases q:p.l=a.h
 ·rw [decide_eq_true q]
  walk_at "WP"
  have c1:=ha.h.mono (k:=3000) (by decide)
  have c2:=ha.l.mono (k:=3000) (by decide)
  have c3:=ha.e.mono (k:=3000) (by decide)
  have c4:=hb.mono (k:=3000) (by decide)
  have c5:=hp.h.mono (k:=3000) (by decide)
  have c6:=hp.l.mono (k:=3000) (by decide)
  have c7:=hp.e.mono (k:=3000) (by decide)
  refine ⟨a.h,a.l,rfl,c1,c2,sub_le c1 c2 h3,a.e,b,rfl,c3,c4,sub_le c3 c4 h1,p.h,p.l,rfl,c5,c6,sub_le c5 c6 h4,p.e,a.e,rfl,c7,c3,sub_le c7 c3 (Rat.le_of_lt h2),?_⟩
  have d1:=(i8 ha.h ha.l).mono (k:=3000) (by decide)
  have d2:=(i8 ha.e hb).mono (k:=3000) (by decide)
  have d3:=(i8 hp.h hp.l).mono (k:=3000) (by decide)
  have d4:=(i8 hp.e ha.e).mono (k:=3000) (by decide)
  refine ⟨_,_,rfl,d1,d4,_,_,rfl,d3,d2,jS (.inl ?_)⟩
  unfold gB at k
  rw [decide_eq_true q,Bool.true_and] at k
  exact k
 ·rw [decide_eq_false q]
  walk_at "WP"
  unfold gB at k
  rw [decide_eq_false q,Bool.false_and] at k
  exact .inl k
noncomputable def LnI (st:AH) (L:List Pc) (i:Nat) (ρ:Fr) (s:AH):Prop:=∃(X:List Pc) (b:Nat × Nat) (g:AH) (a:Option PV),s=st++.lst (X.map pcV)::g∧ρ=[some (bS L),some (.ref st.length),some (fr b),a]∧X.length≤i ∧
  ((X=[]∧b=(0,1)∧i=0)∨∃Y c,X=Y++[c]∧d_ L=Y++aP b c (L.drop i)∧Sz 1400 b∧c.Sz 1400∧val b≤c.E∧c.L≤c.H∧Ch c.E (L.drop i))
theorem ku {Y:List Pc} {c:Pc}:(Y++[c]).map pcV=Y.map pcV++[pcV c]:=by simp
theorem t6 {Y:List Pc} {c:Pc}:((Y++[c]).map pcV).isEmpty=false:=by simp
theorem DV {n:Nat}:ixN (n+1) (-1)=some n:=by
 unfold ixN
 simp
 omega
theorem GS {as st Q} (h:jX as st Q):au Γ l_ (frame 4 as) st (af st Q):=by
 obtain ⟨L,rfl,hz,hL,hl,k⟩:=h
 unfold l_
 walk_at "WP"
 have s01:Sz 1400 (0,1):=⟨Nat.pow_pos (by decide),Nat.one_lt_two_pow (by decide),by decide⟩
 refine gR Γm (LnI st L) ⟨[],(0,1),[],none,rfl,rfl,Nat.le_refl _,.inl ⟨rfl,rfl,rfl⟩⟩ ?_ ?_
 ·rintro i v ρ s hi ⟨X,b,g,a,rfl,rfl,hXi,hX⟩
  refine ⟨trivial,?_⟩
  rw [List.getElem?_map] at hi
  obtain ⟨p,hp,rfl⟩:=Option.map_eq_some_iff.mp hi
  have il:=(List.getElem?_eq_some_iff.mp hp).1
  have hd:L.drop i=p::L.drop (i+1):=by rw [List.drop_eq_getElem_cons il,(List.getElem?_eq_some_iff.mp hp).2]
  have pz:=hz p (List.mem_of_getElem? hp)
  walk_at "WP"
  refine fG (xs:=X.map pcV) (by simp) (by simp) wH ?_
  rcases hX with ⟨rfl,rfl,rfl⟩|⟨Y,c,rfl,hF,zb,zc,o1,o2,hc⟩
  ·rw [if_neg (by simp)]
   refine fG (xs:=[]) (by simp) (by simp) (by rw [cO]) ?_
   rw [if_pos (show ([]:List PV).isEmpty=true from rfl)]
   refine ⟨⟨_,aT aN⟩,by simp,[p],(0,1),g++[.lst [],.lst []],some (pcV p),?_,rfl,by simp,.inr ⟨[],p,rfl,?_,s01,pz,?_⟩⟩
   ·rw [eU];rfl
   ·have:L=p::L.drop 1:=by simpa using hd
    rw [this]
    rfl
   ·have e:L=p::L.drop 1:=by simpa using hd
    rw [e] at hL
    exact ⟨by rw [ag];exact aU hL.1.e.pos,hL.2.1,hL.2.2⟩
  ·rw [if_pos t6]
   rw [hd] at hc hF
   obtain ⟨pok,c1,c2,c3⟩:=hc
   refine ⟨_,ad aN,pcV c,by rw [ku];exact fZ,b,c,p,rfl,zb,zc,pz,o1,c1,o2,c2,?_⟩
   rw [aP] at hF
   have len:((Y++[c]).map pcV).length=Y.length+1:=by simp
   have lY:Y.length+1≤i:=by simpa using hXi
   cases gb:gB b c p with
   | true =>
    rw [if_pos gb] at hF
    walk_at "WP"
    refine ⟨_,ad aN,pcV c,by rw [ku];exact fZ,?_⟩
    walk_at "WP"
    refine ⟨Y.length,by rw [List.length_map,List.length_append];exact DV,Y++[c.mg p],b,g++[.lst []],some (pcV p),?_,rfl,by simp;omega,.inr ⟨Y,c.mg p,rfl,hF,zb,⟨pz.e,zc.l,pz.h⟩,?_,?_,c3⟩⟩
    ·rw [eU,ku]
     simp
    ·show val b≤p.E
     grind
    ·show c.L≤p.H
     have e:p.l=c.h:=by
      unfold gB at gb
      rw [Bool.and_eq_true,decide_eq_true_eq] at gb
      exact gb.1
     have:p.L=c.H:=by unfold Pc.L Pc.H;rw [e]
     grind
   | false =>
    rw [if_neg (by rw [gb];decide)] at hF
    walk_at "WP"
    refine fG (xs:=(Y++[c]).map pcV) (by simp) (by simp) wH ?_
    rw [t6,if_neg (by decide)]
    refine ⟨_,ad aN,pcV c,by rw [ku];exact fZ,?_⟩
    walk_at "WP"
    refine ⟨⟨_,aT aN⟩,by rw [len];omega,Y++[c]++[p],c.e,g++[.lst [],.lst []],some (pcV p),?_,rfl,by simp;omega,.inr ⟨Y++[c],p,rfl,?_,zc.e,pz,Rat.le_of_lt c1,c2,c3⟩⟩
    ·rw [eU]
     simp
    ·rw [hF]
     simp
 ·rintro ρ s ⟨X,b,g,a,rfl,rfl,hXi,hX⟩
  refine ⟨trivial,?_⟩
  walk_at "WP"
  have fin:d_ L=X:=by
   rw [List.length_map] at hX
   rcases hX with ⟨rfl,_,h0⟩|⟨Y,c,rfl,hF,_⟩
   ·rw [List.length_eq_zero_iff.mp h0];rfl
   ·rw [hF,List.drop_length];rfl
  refine ⟨_,ad aN,.inr (.app ?_ ?_)⟩
  ·refine PV.bel_le (Nat.zero_le _) ?_
   rw [PV.bel]
   clear hX fin hXi
   induction X with
   | nil=>rw [List.map_nil,PV.bels]
   | cons x xs ih=>rw [List.map_cons,PV.bels,ih];rfl
  ·rw [fin] at k
   exact k
theorem dB {α:Type} (U:List α):U=[]∨∃Y c,U=Y++[c]:=by
 rcases List.eq_nil_or_concat U with h|⟨Y,c,h⟩
 ·exact .inl h
 ·exact .inr ⟨Y,c,by rw [h,List.concat_eq_append]⟩
theorem yX {X:List Un3}:cO 5 (X.map uV)=true:=eW fun v hv=>by
 obtain ⟨p,_,rfl⟩:=List.mem_map.mp hv
 rfl
theorem DI:∀ {U:List Un3} {b hh:Nat} {u:Un3},RU b hh U→(U=[]→b<u.1∧hh≤u.2.1∧u.2.1≤u.2.2∧u.1≤u.2.2)→(∀v,U.getLast?=some v→v.1<u.1∧v.2.2≤u.2.1∧u.2.1≤u.2.2∧u.1≤u.2.2)→RU b hh (U++[u])
 | [],b,hh,u,_,h1,_=>by
  obtain ⟨a1,a2,a3,a4⟩:=h1 rfl
  exact ⟨a1,a2,a3,a4,trivial⟩
 | v::U,b,hh,u,⟨k1,k2,k3,k4,k5⟩,_,h2=>by
  refine ⟨k1,k2,k3,k4,DI k5 (fun e=>?_) fun w hw=>h2 w ?_⟩
  ·subst e
   exact h2 v rfl
  ·cases U with
   | nil=>simp at hw
   | cons z Z=>rw [List.getLast?_cons_cons];exact hw
theorem Fa {U:List Un3} {u:Un3} (h:RUF U) (a:App U u):RUF (U++[u]):=by
 cases U with
 | nil =>
  obtain ⟨a1,a2,a3⟩:=a.fst rfl
  exact ⟨a1,a2,a3,trivial⟩
 | cons v U =>
  obtain ⟨k1,k2,k3,k4⟩:=h
  refine ⟨k1,k2,k3,DI k4 (fun e=>?_) fun w hw=>a.nxt w ?_⟩
  ·subst e
   exact a.nxt v rfl
  ·cases U with
   | nil=>simp at hw
   | cons z Z=>rw [List.getLast?_cons_cons];exact hw
theorem FA (a b:Nat):∃M:Nat,(if (a:Int)<b then (b:Int) else a)=M∧a≤M∧b≤M∧(M=a∨M=b):=by
 by_cases h:a<b
 ·exact ⟨b,by rw [if_pos (by omega)],by omega,by omega,.inr rfl⟩
 ·exact ⟨a,by rw [if_neg (by omega)],by omega,by omega,.inl rfl⟩
theorem dl {p:Prop} {inst:Decidable p} {A B:Prop} (h1:p→A) (h2:¬p→B):@ite Prop p inst A B:=by
 by_cases h:p
 ·rw [if_pos h];exact h1 h
 ·rw [if_neg h];exact h2 h
theorem BdU.mono {N M:Nat} {U:List Un3} (h:BdU N U) (hm:N≤M):BdU M U:=fun u hu=>⟨Nat.le_trans (h u hu).1 hm,Nat.le_trans (h u hu).2.1 hm,Nat.le_trans (h u hu).2.2 hm⟩
theorem Rt.at_:∀ {r:List Pc} {b hh:Rat} {i:Nat} {p:Pc},Rt b hh r→r[i]?=some p→p.Ok∧p.L≤p.H∧p.E≤p.H∧b<p.E∧hh≤p.L
 | q::r,b,hh,0,p,⟨h1,h2,h3,h4,h5,h6⟩,e=>by cases e;exact ⟨h1,h4,h5,h2,h3⟩
 | q::r,b,hh,i+1,p,⟨h1,h2,h3,h4,h5,h6⟩,e=>by
  obtain ⟨k1,k2,k3,k4,k5⟩:=h6.at_ (i:=i) (by simpa using e)
  exact ⟨k1,k2,k3,by grind,by grind⟩
theorem Rt.two:∀ {r:List Pc} {b hh:Rat} {i:Nat} {q p:Pc},Rt b hh r→r[i]?=some q→r[i+1]?=some p→q.E<p.E∧q.H≤p.L
 | a::r,b,hh,0,q,p,⟨h1,h2,h3,h4,h5,h6⟩,e1,e2=>by
  cases e1
  have:=h6.at_ (i:=0) (by simpa using e2)
  exact ⟨this.2.2.2.1,this.2.2.2.2⟩
 | a::r,b,hh,i+1,q,p,⟨h1,h2,h3,h4,h5,h6⟩,e1,e2=>h6.two (i:=i) (by simpa using e1) (by simpa using e2)
theorem RtF.at_ {L:List Pc} {i:Nat} {p:Pc} (h:RtF L) (e:L[i]?=some p):p.Ok∧p.L≤p.H∧p.E≤p.H:=by
 cases L with
 | nil=>simp at e
 | cons a r =>
  cases i with
  | zero=>cases e;exact ⟨h.1,h.2.1,h.2.2.1⟩
  | succ i =>
   obtain ⟨k1,k2,k3,k4,k5⟩:=h.2.2.2.2.at_ (i:=i) (by simpa using e)
   exact ⟨k1,k2,k3⟩
theorem RtF.two {L:List Pc} {i:Nat} {q p:Pc} (h:RtF L) (e1:L[i]?=some q) (e2:L[i+1]?=some p):q.E<p.E∧q.H≤p.L:=by
 cases L with
 | nil=>simp at e1
 | cons a r =>
  cases i with
  | zero =>
   cases e1
   obtain ⟨k1,k2,k3,k4,k5⟩:=h.2.2.2.2.at_ (i:=0) (by simpa using e2)
   exact ⟨k4,k5⟩
  | succ i=>exact h.2.2.2.2.two (i:=i) (by simpa using e1) (by simpa using e2)
noncomputable def bg (L:List Pc):Nat→Nat × Nat
 | 0=>(0,1)
 | i+1=>((L[i]?).map Pc.e).getD (0,1)
noncomputable def hg (L:List Pc):Nat→Nat × Nat
 | 0=>(0,1)
 | i+1=>((L[i]?).map Pc.h).getD (0,1)
theorem iQ {p q:Nat × Nat} {j:Nat} (hp:Sz j p) (hq:Sz j q) (h:val q≤val p):decide (p.1*q.2<q.1*p.2)=false:=decide_eq_false fun z=>by
 have:=(nF hp.pos hq.pos).mp z
 grind
theorem i9 {p q:Nat × Nat} {j:Nat} (hp:Sz j p) (hq:Sz j q) (h:val p<val q):decide (p.1*q.2<q.1*p.2)=true:=decide_eq_true ((nF hp.pos hq.pos).mpr h)
theorem v7 {α:Type} {L:List α}:(L.map fun _=>true).all id=true:=by simp
theorem bgS {L:List Pc} {i:Nat} {q:Pc} (h:L[i]?=some q):bg L (i+1)=q.e:=by show ((L[i]?).map Pc.e).getD (0,1)=_;rw [h];rfl
theorem nb {L:List Pc} {i:Nat} {q:Pc} (hR:RtF L) (hq:L[i]?=some q):Cop (bg L i)∧val (bg L i)≤q.E∧(val (bg L i)=q.E→q.L=q.H)∧(i≠0→val (bg L i)<q.E):=by
 obtain ⟨qok,q1,q2⟩:=hR.at_ hq
 cases i with
 | zero =>
  refine ⟨mH,?_,?_,fun z=>absurd rfl z⟩
  ·show val (0,1)≤_;rw [ag];exact aU qok.e.pos
  ·show val (0,1)=_→_
   rw [ag]
   cases L with
   | nil=>simp at hq
   | cons a r=>cases hq;exact hR.2.2.2.1
 | succ i =>
  have il:=(List.getElem?_eq_some_iff.mp hq).1
  have ha:L[i]?=some L[i]:=List.getElem?_eq_getElem (by omega)
  obtain ⟨k1,k2⟩:=hR.two ha hq
  rw [bgS ha]
  exact ⟨(hR.at_ ha).1.e,Rat.le_of_lt k1,fun z=>absurd z (by grind),fun _=>k1⟩
theorem bgZ {L:List Pc} {i k:Nat} (hz:SzL k L) (h:i≤L.length) (h1:1≤k):Sz k (bg L i):=by
 cases i with
 | zero=>exact (⟨Nat.pow_pos (by decide),Nat.one_lt_two_pow (by omega),by decide⟩:Sz k (0,1))
 | succ i =>
  have ha:L[i]?=some L[i]:=List.getElem?_eq_getElem (by omega)
  rw [bgS ha]
  exact (hz _ (List.mem_of_getElem? ha)).e
theorem yJ {X:List Pc} {n:Nat}:(bS X).bel n=true:=by
 refine PV.bel_le (Nat.zero_le _) ?_
 rw [PV.bel]
 induction X with
 | nil=>rw [List.map_nil,PV.bels]
 | cons x xs ih=>rw [List.map_cons,PV.bels,ih];rfl
theorem b9 {X:List Pc}:aW 4 (bS X)=true:=rJ fun v hv=>by
 obtain ⟨p,_,rfl⟩:=List.mem_map.mp hv
 rfl
theorem kO {M:List PV}:PV.same (.tup M) (.tup [])=M.isEmpty:=by cases M <;> simp [PV.same,PV.sames]
theorem RU.rt {d:Nat} (h0:0<d):∀ {U:List Un3} {b hh:Nat},RU b hh U→Rt ((b:Rat)/d) ((hh:Rat)/d) (U.map (aD d))
 | [],_,_,_=>trivial
 | u::r,b,hh,⟨h1,h2,h3,h4,h5⟩=>by
  have dp:=ax h0
  have lt:∀ {x y:Nat},x<y→(x:Rat)/d<(y:Rat)/d:=fun h=>by
   rw [Rat.div_lt_iff dp]
   have e:∀y:Rat,y/d*d=y:=fun y=>by grind
   rw [e]
   exact Rat.natCast_lt_natCast.mpr h
  have le:∀ {x y:Nat},x≤y→(x:Rat)/d≤(y:Rat)/d:=fun {x y} h=>by
   by_cases e:x=y
   ·rw [e];exact Rat.le_refl
   ·exact Rat.le_of_lt (lt (by omega))
  have ih:=RU.rt h0 h5
  refine ⟨⟨.low h0,.low h0,.low h0⟩,?_,?_,?_,?_,?_⟩
  ·show _<val (aH u.1 d);rw [aw h0];exact lt h1
  ·show _≤val (aH u.2.1 d);rw [aw h0];exact le h2
  ·show val (aH u.2.1 d)≤val (aH u.2.2 d);rw [aw h0,aw h0];exact le h3
  ·show val (aH u.1 d)≤val (aH u.2.2 d);rw [aw h0,aw h0];exact le h4
  ·show Rt (val (aH u.1 d)) (val (aH u.2.2 d)) _
   rw [aw h0,aw h0]
   exact ih
theorem RUF.rt {d:Nat} (h0:0<d) {U:List Un3} (h:RUF U):RtF (U.map (aD d)):=by
 cases U with
 | nil=>trivial
 | cons u r =>
  obtain ⟨h1,h2,h3,h4⟩:=h
  have dp:=ax h0
  have le:∀ {x y:Nat},x≤y→(x:Rat)/d≤(y:Rat)/d:=fun {x y} h=>by
   rw [←Rat.not_lt,Rat.div_lt_iff dp]
   have e:∀y:Rat,y/d*d=y:=fun y=>by grind
   rw [e,Rat.not_lt]
   exact Rat.natCast_le_natCast.mpr h
  refine ⟨⟨.low h0,.low h0,.low h0⟩,?_,?_,?_,?_⟩
  ·show val (aH u.2.1 d)≤val (aH u.2.2 d);rw [aw h0,aw h0];exact le h1
  ·show val (aH u.1 d)≤val (aH u.2.2 d);rw [aw h0,aw h0];exact le h2
  ·show 0=val (aH u.1 d)→val (aH u.2.1 d)=val (aH u.2.2 d)
   rw [aw h0,aw h0,aw h0]
   intro z
   have:u.1=0:=by
    have e:(u.1:Rat)=0:=by grind
    exact Rat.natCast_eq_zero_iff.mp e
   rw [h3 this]
  ·show Rt (val (aH u.1 d)) (val (aH u.2.2 d)) _
   rw [aw h0,aw h0]
   exact h4.rt h0
theorem xZ:∀ {r:List Pc} {b:Nat × Nat} {a:Pc},(aP b a r).length≤r.length+1
 | [],b,a=>Nat.le_refl _
 | q::r,b,a=>by
  rw [aP]
  by_cases g:gB b a q=true
  ·rw [if_pos g]
   have:=xZ (r:=r) (b:=b) (a:=a.mg q)
   simp;omega
  ·rw [if_neg g]
   have:=xZ (r:=r) (b:=a.e) (a:=q)
   simp;omega
theorem qY {L:List Pc}:(d_ L).length≤L.length:=by
 cases L with
 | nil=>exact Nat.le_refl _
 | cons a r=>exact xZ
theorem sn {L:List Pc} {t:Rat} (hR:RtF L):∀ {i:Nat},i≤L.length→(i=0∨val (bg L i)<t)→cm 0 L t=cm (val (bg L i)) (L.drop i) t
 | 0,_,_=>by
  show _=cm (val (0,1)) (L.drop 0) t
  rw [ag,List.drop_zero]
 | i+1,hi,h=>by
  have ha:L[i]?=some L[i]:=List.getElem?_eq_getElem (by omega)
  have h':val (bg L (i+1))<t:=h.resolve_left (by omega)
  rw [bgS ha] at h' ⊢
  obtain ⟨n1,n2,n3,n4⟩:=nb hR ha
  rw [sn hR (i:=i) (by omega) (by grind),List.drop_eq_getElem_cons (show i<L.length by omega)]
  rw [cm,if_neg (show ¬t≤(L[i]).E by grind)]
theorem pj {L:List Pc} {i:Nat}:bgx L i=bg L i:=by cases i <;> rfl
theorem wB {as st Q} (h:dF as st Q):au Γ fk (frame 2 as) st (af st Q):=by
 obtain ⟨p,q,rfl,hp,hq,k⟩:=h
 unfold fk
 walk_at "WP"
 exact ⟨bB hp.a hq.b,bB hq.a hp.b,.inl k⟩
theorem ym {as st Q} (h:dt as st Q):au Γ fM (frame 2 as) st (af st Q):=by
 obtain ⟨p,q,rfl,hp,hq,k⟩:=h
 unfold fM
 walk_at "WP"
 refine ⟨bB hp.a hq.b,bB hq.a hp.b,?_⟩
 rw [←Int.natCast_mul,←Int.natCast_mul]
 simp only [Int.ofNat_lt]
 exact .inl k
theorem d5 {p:Nat × Nat} (h:0<p.2):(p.1:Rat)=val p*(p.2:Rat):=by
 have:(p.2:Rat)≠0:=by simpa using Nat.pos_iff_ne_zero.mp h
 unfold val
 grind
theorem yG {N Y F G X c:Rat} (hc:c≠0) (h:N<F):(c*(Y*(F-X)+G*(X-N)))/(c*(F-N))=Y+(G-Y)*((X-N)/(F-N)):=by
 have:F-N≠0:=by grind
 grind
theorem pW {as st Q} (h:ci as st Q):au Γ dC (frame 2 as) st (af st Q):=by
 obtain ⟨L,i,rfl,hi,k⟩:=h
 unfold dC
 walk_at "WP"
 cases i with
 | zero=>rw [if_pos (by rfl)];exact .inl k
 | succ i =>
  rw [if_neg (by omega)]
  have ha:L[i]?=some L[i]:=List.getElem?_eq_getElem (by omega)
  have e:((i+1:Nat):Int)-1=(i:Int):=by omega
  rw [e]
  refine ⟨pcV L[i],cA (by rw [List.getElem?_map,ha];rfl),?_⟩
  walk_at "WP"
  rw [pj,bgS ha] at k
  exact .inl k
theorem p_ {as st Q} (h:cI as st Q):au Γ dU (frame 10 as) st (af st Q):=by
 obtain ⟨sa,sb,sc,sd,m,nx,ny,fx,fy,x,rfl,j2,⟨z1,z2,z3,z4,z5⟩,⟨v1,v2,v3⟩,k⟩:=h
 unfold dU
 walk_at "WP"
 have hD:nx.1*x.2≤x.1*nx.2:=(eK z1.pos z5.pos).mpr v2
 have hE:x.1*fx.2≤fx.1*x.2:=(eK z5.pos z3.pos).mpr v3
 have cD:(x.1:Int)*nx.2-nx.1*x.2=((x.1*nx.2-nx.1*x.2:Nat):Int):=by rw [Int.natCast_sub hD,Int.natCast_mul,Int.natCast_mul]
 have cE:(fx.1:Int)*x.2-x.1*fx.2=((fx.1*x.2-x.1*fx.2:Nat):Int):=by rw [Int.natCast_sub hE,Int.natCast_mul,Int.natCast_mul]
 refine ⟨_,_,rfl,z5.mono (by omega),z1.mono (by omega),?_⟩
 rw [cD]
 walk_at "WP"
 refine ⟨?_,_,_,rfl,z3.mono (by omega),z5.mono (by omega),?_⟩
 rotate_left
 rw [cE]
 walk_at "WP"
 simp only [←Int.natCast_mul,←Int.natCast_add]
 generalize hDd:x.1*nx.2-nx.1*x.2=D
 generalize hEe:fx.1*x.2-x.1*fx.2=E
 have p1:=ax z1.pos
 have p2:=ax z2.pos
 have p3:=ax z3.pos
 have p4:=ax z4.pos
 have p5:=ax z5.pos
 have qD:(D:Rat)=(val x-val nx)*(x.2*nx.2):=by
  have:=congrArg (fun k:Nat=>(k:Rat)) (Nat.sub_add_cancel hD)
  rw [hDd] at this
  simp only [Rat.natCast_add,Rat.natCast_mul] at this
  rw [d5 z1.pos,d5 z5.pos] at this
  grind
 have qE:(E:Rat)=(val fx-val x)*(fx.2*x.2):=by
  have:=congrArg (fun k:Nat=>(k:Rat)) (Nat.sub_add_cancel hE)
  rw [hEe] at this
  simp only [Rat.natCast_add,Rat.natCast_mul] at this
  rw [d5 z3.pos,d5 z5.pos] at this
  grind
 have bD:D<2 ^ (m+sa):=by rw [←hDd];exact Nat.lt_of_le_of_lt (Nat.sub_le _ _) (aB z5.a z1.b)
 have bE:E<2 ^ (sc+m):=by rw [←hEe];exact Nat.lt_of_le_of_lt (Nat.sub_le _ _) (aB z3.a z5.b)
 have b1:D*fx.2<2 ^ (m+sa+sc):=aB bD z3.b
 have b2:E*nx.2<2 ^ (m+sa+sc):=by
  have:=aB bE z1.b
  rwa [show sc+m+sa=m+sa+sc by omega] at this
 have a1:ny.1*fy.2<2 ^ (sb+sd):=aB z2.a z4.b
 have a2:fy.1*ny.2<2 ^ (sb+sd):=by
  have:=aB z4.a z2.b
  rwa [Nat.add_comm sd sb] at this
 have a3:ny.2*fy.2<2 ^ (sb+sd):=aB z2.b z4.b
 have b3:E*nx.2+D*fx.2<2 ^ (m+sa+sc+1):=by
  have:(2:Nat) ^ (m+sa+sc+1)=2 ^ (m+sa+sc)+2 ^ (m+sa+sc):=by rw [Nat.pow_succ];omega
  omega
 have c1:=aB a1 b2
 have c2:=aB a2 b1
 have c3:=aB a3 b3
 have c4:ny.1*fy.2*(E*nx.2)+fy.1*ny.2*(D*fx.2)<2 ^ (sa+sb+sc+sd+m+2):=by
  have h1:(2:Nat) ^ (sb+sd+(m+sa+sc))+2 ^ (sb+sd+(m+sa+sc))≤2 ^ (sa+sb+sc+sd+m+2):=by
   have e:2 ^ (sb+sd+(m+sa+sc)+1)≤2 ^ (sa+sb+sc+sd+m+2):=bP (by omega)
   rw [Nat.pow_succ] at e
   omega
  omega
 have up:∀ {a j:Nat},a<2 ^ j→j≤3000→a<2 ^ 3000:=fun h hj=>Nat.lt_of_lt_of_le h (bP hj)
 have dpos:0<E*nx.2+D*fx.2:=by
  refine Nat.pos_of_ne_zero fun z=>?_
  have e:((E*nx.2+D*fx.2:Nat):Rat)=0:=by rw [z];rfl
  simp only [Rat.natCast_add,Rat.natCast_mul] at e
  rw [qD,qE] at e
  have:(val fx-val nx)*((fx.2:Rat)*x.2*nx.2)=0:=by grind
  have w:0<(val fx-val nx)*((fx.2:Rat)*x.2*nx.2):=Rat.mul_pos (by grind) (Rat.mul_pos (Rat.mul_pos p3 p5) p1)
  grind
 have hpos:=Nat.mul_pos (Nat.mul_pos z2.pos z4.pos) dpos
 refine ⟨bB (up bE (by omega)) (up z1.b (by omega)),bB (up z2.a (by omega)) (up z4.b (by omega)),bB (up a1 (by omega)) (up b2 (by omega)),bB (up z4.a (by omega)) (up z2.b (by omega)),bB (up a2 (by omega)) (up b1 (by omega)),bB (up z2.b (by omega)) (up z4.b (by omega)),bB (up a3 (by omega)) (up b3 (by omega)),
  _,_,rfl,hpos,Nat.lt_of_lt_of_le c3 (bP (by omega)),.inl ?_⟩
 rw [Aj]
 refine k _ ⟨dI hpos,vB hpos⟩ ⟨Nat.lt_of_le_of_lt (j6 _ _) c4,Nat.lt_of_le_of_lt (kv _ _) (Nat.lt_of_lt_of_le c3 (bP (by omega))),dI hpos⟩ ?_
 rw [aw hpos]
 simp only [Rat.natCast_add,Rat.natCast_mul]
 rw [qD,qE,d5 z2.pos,d5 z4.pos]
 have hc:(ny.2:Rat)*fy.2*fx.2*x.2*nx.2≠0:=by
  have:=Rat.mul_pos (Rat.mul_pos (Rat.mul_pos (Rat.mul_pos p2 p4) p3) p5) p1
  grind
 rw [←yG (Y:=val ny) (G:=val fy) (X:=val x) hc v1]
 congr 1 <;> grind
 exact bB (Nat.lt_of_lt_of_le (Nat.lt_of_le_of_lt (Nat.sub_le _ _) (aB z5.a z1.b)) (bP (by omega))) (Nat.lt_of_lt_of_le z3.b (bP (by omega)))
theorem yt {L:List Pc} {i:Nat} {p:Pc} {t:Rat} (hR:RtF L) (hp:L[i]?=some p) (hb:i=0∨val (bg L i)<t) (ht:t≤p.E):cm 0 L t=some (if val (bg L i)=p.E then p.L else p.L+(p.H-p.L)*((t-val (bg L i))/(p.E-val (bg L i)))):=by
 have il:=(List.getElem?_eq_some_iff.mp hp).1
 rw [sn hR (Nat.le_of_lt il) hb,List.drop_eq_getElem_cons il,(List.getElem?_eq_some_iff.mp hp).2,cm,if_pos ht]
theorem Bf {as st Q} (h:gJ as st Q):au Γ iE (frame 6 as) st (af st Q):=by
 obtain ⟨j,m,L,i,p,t,rfl,⟨j1,j2⟩,hR,hz,hp,ct,zt,bt,ht,k⟩:=h
 rw [pj] at bt k
 unfold iE
 walk_at "WP"
 have il:=(List.getElem?_eq_some_iff.mp hp).1
 have pz:=hz p (List.mem_of_getElem? hp)
 obtain ⟨pok,p1,p2⟩:=hR.at_ hp
 obtain ⟨n1,n2,n3,n4⟩:=nb hR hp
 have bz:Sz j (bg L i):=bgZ hz (by omega) j1
 refine ⟨pcV p,cA (by rw [List.getElem?_map,hp];rfl),?_⟩
 walk_at "WP"
 refine jS ?_
 by_cases q:t=p.e
 ·rw [decide_eq_true q,if_pos rfl]
  refine .inl (k p.h pok.h (pz.h.mono (by omega)) ?_)
  rw [q]
  by_cases z:val (bg L i)=p.E
  ·rw [if_pos z];exact (n3 z).symm
  ·rw [if_neg z]
   have:val p.e-val (bg L i)≠0:=by grind
   grind
 ·rw [decide_eq_false q,if_neg Bool.false_ne_true]
  have lt:val t<p.E:=by
   have:val t≠p.E:=fun z=>q (b_ ct pok.e z)
   grind
  refine ⟨L,i,rfl,by omega,?_⟩
  rw [pj]
  walk_at "WP"
  refine ⟨j,j,j,j,m,_,_,_,_,_,rfl,by omega,⟨bz,pz.l,pz.e,pz.h,zt⟩,⟨by grind,bt,ht⟩,fun r cr sr vr=>.inl (k r cr (sr.mono (by omega)) ?_)⟩
  rw [if_neg (by grind),vr]
theorem nS {a w:Rat} (hw:0<w) (h0:0≤a) (h1:a≤w):∃q,a/w=q∧q*w=a∧0≤q∧q≤1:=by
 have w0:w≠0:=by grind
 have e:a/w*w=a:=by grind
 refine ⟨a/w,rfl,e,?_,?_⟩
 ·refine Classical.byContradiction fun z=>?_
  have:=Rat.mul_pos (a:=-(a/w)) (b:=w) (by grind) hw
  grind
 ·refine Classical.byContradiction fun z=>?_
  have:=Rat.mul_pos (a:=a/w-1) (b:=w) (by grind) hw
  grind
theorem seg {b E L H t:Rat} (hb:b<E) (h0:b≤t) (h1:t≤E) (hL:L≤H):L≤L+(H-L)*((t-b)/(E-b))∧L+(H-L)*((t-b)/(E-b))≤H:=by
 obtain ⟨q,e,e1,e2,e3⟩:=nS (a:=t-b) (w:=E-b) (by grind) (by grind) (by grind)
 rw [e]
 have m1:=Rat.mul_nonneg (a:=H-L) (b:=q) (by grind) e2
 have m2:=Rat.mul_nonneg (a:=H-L) (b:=1-q) (by grind) (by grind)
 constructor <;> grind
theorem Bp {b E L H t:Rat} (hb:b<E) (h0:b≤t) (h1:t≤E) (hL:b≤L) (hH:E≤H):t≤L+(H-L)*((t-b)/(E-b)):=by
 obtain ⟨q,e,e1,e2,e3⟩:=nS (a:=t-b) (w:=E-b) (by grind) (by grind) (by grind)
 rw [e]
 have m1:=Rat.mul_nonneg (a:=L-b) (b:=1-q) (by grind) (by grind)
 have m2:=Rat.mul_nonneg (a:=H-E) (b:=q) (by grind) e2
 grind
theorem pp {b E L H t u:Rat} (hb:b<E) (h0:b≤t) (htu:t≤u) (h1:u≤E) (hL:L≤H):L+(H-L)*((t-b)/(E-b))≤L+(H-L)*((u-b)/(E-b)):=by
 obtain ⟨q,e,e1,e2,e3⟩:=nS (a:=u-t) (w:=E-b) (by grind) (by grind) (by grind)
 have s:(u-b)/(E-b)=(t-b)/(E-b)+q:=by
  rw [←e]
  have:E-b≠0:=by grind
  grind
 rw [s]
 have m1:=Rat.mul_nonneg (a:=H-L) (b:=q) (by grind) e2
 grind
theorem yM:∀ {L:List Pc} {b hh t y:Rat},Rt b hh L→b≤hh→b<t→cm b L t=some y→hh≤y∧t≤y
 | [],_,_,_,_,_,_,_,e=>by cases e
 | p::r,b,hh,t,y,⟨h1,h2,h3,h4,h5,h6⟩,hb,ht,e=>by
  rw [cm] at e
  by_cases q:t≤p.E
  ·rw [if_pos q,if_neg (by grind)] at e
   cases e
   have s1:=seg h2 (Rat.le_of_lt ht) q h4
   have s2:=Bp h2 (Rat.le_of_lt ht) q (show b≤p.L by grind) h5
   exact ⟨by grind,s2⟩
  ·rw [if_neg q] at e
   have:=yM h6 h5 (by grind) e
   exact ⟨by grind,this.2⟩
theorem FM:∀ {L:List Pc} {b hh t u y z:Rat},Rt b hh L→b≤hh→b<t→t≤u→cm b L t=some y→cm b L u=some z→y≤z
 | [],_,_,_,_,_,_,_,_,_,_,e,_=>by cases e
 | p::r,b,hh,t,u,y,z,⟨h1,h2,h3,h4,h5,h6⟩,hb,ht,tu,e,e'=>by
  rw [cm] at e e'
  by_cases q:t≤p.E
  ·rw [if_pos q,if_neg (by grind)] at e
   cases e
   by_cases q':u≤p.E
   ·rw [if_pos q',if_neg (by grind)] at e'
    cases e'
    exact pp h2 (Rat.le_of_lt ht) tu q' h4
   ·rw [if_neg q'] at e'
    have:=(yM h6 h5 (by grind) e').1
    have s1:=seg h2 (Rat.le_of_lt ht) q h4
    grind
  ·rw [if_neg q] at e
   rw [if_neg (by grind)] at e'
   exact FM h6 h5 (by grind) tu e e'
theorem xD {L:List Pc} {t y:Rat} (hR:RtF L) (h0:0≤t) (e:cm 0 L t=some y):t≤y:=by
 cases L with
 | nil=>cases e
 | cons p r =>
  obtain ⟨h1,h2,h3,h4,h5⟩:=hR
  rw [cm] at e
  have pE:=aU h1.e.pos
  have pL:=aU h1.l.pos
  by_cases q:t≤p.E
  ·rw [if_pos q] at e
   by_cases z:0=p.E
   ·rw [if_pos z] at e
    cases e
    have:=h4 z
    grind
   ·rw [if_neg z] at e
    cases e
    exact Bp (by grind) h0 q pL h3
  ·rw [if_neg q] at e
   exact (yM h5 h3 (by grind) e).2
theorem Dz {L:List Pc} {t u y z:Rat} (hR:RtF L) (h0:0≤t) (tu:t≤u) (e:cm 0 L t=some y) (e':cm 0 L u=some z):y≤z:=by
 cases L with
 | nil=>cases e
 | cons p r =>
  obtain ⟨h1,h2,h3,h4,h5⟩:=hR
  rw [cm] at e e'
  have pE:=aU h1.e.pos
  by_cases q:t≤p.E
  ·rw [if_pos q] at e
   have yH:y≤p.H:=by
    by_cases z:0=p.E
    ·rw [if_pos z] at e;cases e;exact h2
    ·rw [if_neg z] at e;cases e;exact (seg (by grind) h0 q h2).2
   by_cases q':u≤p.E
   ·rw [if_pos q'] at e'
    by_cases z:0=p.E
    ·rw [if_pos z] at e e';cases e;cases e';exact Rat.le_refl
    ·rw [if_neg z] at e e';cases e;cases e';exact pp (by grind) h0 tu q' h2
   ·rw [if_neg q'] at e'
    have:=(yM h5 h3 (by grind) e').1
    grind
  ·rw [if_neg q] at e
   rw [if_neg (by grind)] at e'
   exact FM h5 h3 (by grind) tu e e'
theorem dq:∀ {L:List Pc} {b t:Rat},(∀p∈L,p.E<t)→cm b L t=none
 | [],b,t,_=>rfl
 | p::r,b,t,h=>by
  have:=h p (List.mem_cons_self ..)
  rw [cm,if_neg (by grind)]
  exact dq fun q hq=>h q (List.mem_cons_of_mem _ hq)
theorem ms {Y:List Pc}:∀ {X:List Pc} {b t y:Rat},cm b X t=some y→cm b (X++Y) t=some y
 | [],b,t,y,h=>by cases h
 | p::r,b,t,y,h=>by
  rw [List.cons_append,cm]
  rw [cm] at h
  by_cases q:t≤p.E
  ·rw [if_pos q] at h ⊢;exact h
  ·rw [if_neg q] at h ⊢;exact ms h
noncomputable def lQ (b:Rat) (X:List Pc):Rat:=(X.getLast?.map Pc.E).getD b
theorem lI {b:Rat} {a:Pc} {Y:List Pc}:lQ b (a::Y)=lQ a.E Y:=by
 unfold lQ
 cases Y with
 | nil=>rfl
 | cons c Y=>simp [List.getLast?_cons]
theorem mC {Y:List Pc}:∀ {X:List Pc} {b t:Rat},cm b X t=none→cm b (X++Y) t=cm (lQ b X) Y t
 | [],b,t,h=>rfl
 | p::r,b,t,h=>by
  rw [List.cons_append,cm,lI]
  rw [cm] at h
  by_cases q:t≤p.E
  ·rw [if_pos q] at h;cases h
  ·rw [if_neg q] at h ⊢;exact mC h
theorem fQ:∀ {L:List Pc} {b t u z:Rat},t≤u→cm b L u=some z→∃y,cm b L t=some y
 | [],b,t,u,z,_,h=>by cases h
 | p::r,b,t,u,z,tu,h=>by
  rw [cm] at h ⊢
  by_cases q:t≤p.E
  ·rw [if_pos q];exact ⟨_,rfl⟩
  ·rw [if_neg (by grind)] at h
   rw [if_neg q]
   exact fQ tu h
theorem pcf {b E L H s t:Rat} (hb:b<E) (hs:H-L=s*(E-b)):L+(H-L)*((t-b)/(E-b))=L+s*(t-b):=by
 have:E-b≠0:=by grind
 rw [hs]
 grind
theorem iM {b s t:Rat} {p:Pc} {r:List Pc} (hb:b<p.E) (hs:Sl b p s) (ht:t≤p.E):cm b (p::r) t=some (p.L+s*(t-b)):=by
 rw [cm,if_pos ht,if_neg (by grind),pcf hb hs]
theorem dO {b t:Rat} {p:Pc} {r:List Pc} (ht:p.E<t):cm b (p::r) t=cm p.E r t:=by
 rw [cm,if_neg (by grind)]
theorem tE {b e L L' s s':Rat} (hb:b<e) (h:∀t,b<t→t≤e→L+s*(t-b)=L'+s'*(t-b)):L=L'∧s=s':=by
 have e1:=h e hb (by grind)
 have e2:=h ((b+e)/2) (by grind) (by grind)
 have e3:L=L':=by grind
 refine ⟨e3,?_⟩
 have:(s-s')*(e-b)=0:=by grind
 have:=Rat.mul_eq_zero.mp this
 grind
theorem vR {b E L H hh:Rat} (hb:b<E) (hL:L≤H) (h:∀t,b<t→t≤E→hh≤L+(H-L)*((t-b)/(E-b))):hh≤L:=by
 refine Classical.byContradiction fun z=>?_
 obtain ⟨s,hs⟩:∃s,H-L=s*(E-b):=⟨(H-L)/(E-b),by grind⟩
 have g:∀t,b<t→t≤E→hh≤L+s*(t-b):=fun t a c=>by have:=h t a c;rw [pcf hb hs] at this;exact this
 have gE:=g E hb (by grind)
 obtain ⟨d,hd⟩:∃d,d=hh-L:=⟨_,rfl⟩
 have dp:0<d:=by grind
 have sp:0<s:=by
  refine Classical.byContradiction fun z'=>?_
  have:=Rat.mul_nonneg (a:=-s) (b:=E-b) (by grind) (by grind)
  grind
 have s2:2*s≠0:=by grind
 obtain ⟨q,hq⟩:∃q,q*(2*s)=d:=⟨d/(2*s),by grind⟩
 have qp:0<q:=by
  refine Classical.byContradiction fun z'=>?_
  have:=Rat.mul_nonneg (a:=-q) (b:=2*s) (by grind) (by grind)
  grind
 have qE:q≤E-b:=by
  refine Classical.byContradiction fun z'=>?_
  have:=Rat.mul_pos (a:=q-(E-b)) (b:=s) (by grind) sp
  have:=Rat.mul_pos qp sp
  grind
 have:=g (b+q) (by grind) (by grind)
 grind
theorem FD:∀ {L:List Pc} {b hh:Rat},Ch b L→(∀t y,b<t→cm b L t=some y→hh≤y∧t≤y)→(∀t u y z,b<t→t≤u→cm b L t=some y→cm b L u=some z→y≤z)→Rt b hh L
 | [],b,hh,_,_,_=>trivial
 | p::r,b,hh,⟨k1,k2,k3,k4⟩,h1,h2=>by
  have cmp:∀t,b<t→t≤p.E→cm b (p::r) t=some (p.L+(p.H-p.L)*((t-b)/(p.E-b))):=fun t a c=>by rw [cm,if_pos c,if_neg (by grind)]
  have eE:p.L+(p.H-p.L)*((p.E-b)/(p.E-b))=p.H:=by
   have:p.E-b≠0:=by grind
   grind
  have cE:=cmp p.E k2 Rat.le_refl
  rw [eE] at cE
  refine ⟨k1,k2,vR k2 k3 (fun t a c=>(h1 t _ a (cmp t a c)).1),k3,(h1 _ _ k2 cE).2,FD k4 (fun t y a c=>?_) (fun t u y z a c d e=>?_)⟩
  ·rw [←dO (b:=b) a] at c
   exact ⟨h2 p.E t p.H y k2 (Rat.le_of_lt a) cE c,(h1 t y (by grind) c).2⟩
  ·rw [←dO (b:=b) a] at d
   rw [←dO (b:=b) (by grind)] at e
   exact h2 t u y z (by grind) c d e
theorem Gx {L:List Pc} (h:LOk L) (h0:∀p r,L=p::r→0=p.E→p.L=p.H) (h1:∀t y,0≤t→cm 0 L t=some y→t≤y) (h2:∀t u y z,0≤t→t≤u→cm 0 L t=some y→cm 0 L u=some z→y≤z):RtF L:=by
 cases L with
 | nil=>trivial
 | cons p r =>
  obtain ⟨k1,k3,k4⟩:=h
  have p0:0≤p.E:=aU k1.e.pos
  have cE:cm 0 (p::r) p.E=some p.H:=by
   rw [cm,if_pos Rat.le_refl]
   by_cases e:0=p.E
   ·rw [if_pos e,h0 p r rfl e]
   ·rw [if_neg e]
    have:p.E-0≠0:=by grind
    congr 1
    grind
  refine ⟨k1,k3,h1 _ _ p0 cE,h0 p r rfl,FD k4 (fun t y a c=>?_) (fun t u y z a c d e=>?_)⟩
  ·rw [←dO (b:=0) a] at c
   exact ⟨h2 p.E t p.H y p0 (Rat.le_of_lt a) cE c,h1 t y (by grind) c⟩
  ·rw [←dO (b:=0) a] at d
   rw [←dO (b:=0) (by grind)] at e
   exact h2 t u y z (by grind) c d e
theorem y7 {b:Rat} {p:Pc} {r:List Pc}:∃y,cm b (p::r) p.E=some y:=⟨_,by rw [cm,if_pos Rat.le_refl]⟩
theorem Bn {b:Nat × Nat} {a a':Pc} {r r':List Pc} (hb:Cop b) (c1:Ch (val b) (a::r)) (c2:Ch (val b) (a'::r')) (ng:NG b (a::r)) (h:∀t,val b<t→cm (val b) (a::r) t=cm (val b) (a'::r') t) (lt:a.E<a'.E):False:=by
 obtain ⟨k1,k2,k3,k4⟩:=c1
 obtain ⟨m1,m2,m3,m4⟩:=c2
 obtain ⟨s,hs⟩:=Sl.ex (p:=a) k2
 obtain ⟨s',hs'⟩:=Sl.ex (p:=a') m2
 obtain ⟨e1,e2⟩:=tE (L:=a.L) (L':=a'.L) (s:=s) (s':=s') k2 (fun t x y=>by
  have:=h t x
  rw [iM k2 hs y,iM m2 hs' (by grind)] at this
  exact Option.some.inj this)
 have hE:=h a'.E (by grind)
 rw [iM m2 hs' Rat.le_refl,dO lt] at hE
 cases r with
 | nil=>cases hE
 | cons p r2 =>
  obtain ⟨n1,n2,n3,n4⟩:=k4
  obtain ⟨s2,hs2⟩:=Sl.ex (p:=p) n2
  have hH:a.H=a'.L+s'*(a.E-val b):=by unfold Sl at hs;grind
  obtain ⟨e,he1,he2,he3⟩:∃e,a.E<e∧e≤p.E∧e≤a'.E:=by
   by_cases q:p.E≤a'.E
   ·exact ⟨p.E,n2,Rat.le_refl,q⟩
   ·exact ⟨a'.E,lt,by grind,Rat.le_refl⟩
  obtain ⟨f1,f2⟩:=tE (L:=p.L) (L':=a.H) (s:=s2) (s':=s') he1 (fun t x y=>by
   have:=h t (by grind)
   rw [dO x,iM n2 hs2 (by grind),iM m2 hs' (by grind)] at this
   have:=Option.some.inj this
   rw [this,hH]
   grind)
  have g:gB b a p=true:=(jB hb k1 n1 (Rat.le_of_lt k2) n2 k3 n3 hs2).mpr ⟨b_ n1.l k1.h f1,by rw [f2,←e2];exact hs⟩
  have:=ng.1
  rw [g] at this
  cases this
theorem NG.tail {b:Nat × Nat} {a:Pc} {r:List Pc} (h:NG b (a::r)):NG a.e r:=by
 cases r with
 | nil=>trivial
 | cons p r=>exact h.2
theorem F':∀ {A B:List Pc} {b:Nat × Nat},Cop b→Ch (val b) A→Ch (val b) B→NG b A→NG b B→(∀t,val b<t→cm (val b) A t=cm (val b) B t)→A=B
 | [],[],b,_,_,_,_,_,_=>rfl
 | [],p::r,b,hb,c1,⟨k1,k2,k3,k4⟩,_,_,h=>by
  have:=h p.E k2
  obtain ⟨y,e⟩:=y7 (b:=val b) (p:=p) (r:=r)
  rw [e] at this
  cases this
 | p::r,[],b,hb,⟨k1,k2,k3,k4⟩,_,_,_,h=>by
  have:=h p.E k2
  obtain ⟨y,e⟩:=y7 (b:=val b) (p:=p) (r:=r)
  rw [e] at this
  cases this
 | a::r,a'::r',b,hb,c1,c2,g1,g2,h=>by
  have x1:¬a.E<a'.E:=fun z=>Bn hb c1 c2 g1 h z
  have x2:¬a'.E<a.E:=fun z=>Bn hb c2 c1 g2 (fun t ht=>(h t ht).symm) z
  have eE:a.E=a'.E:=by grind
  obtain ⟨k1,k2,k3,k4⟩:=c1
  obtain ⟨m1,m2,m3,m4⟩:=c2
  obtain ⟨s,hs⟩:=Sl.ex (p:=a) k2
  obtain ⟨s',hs'⟩:=Sl.ex (p:=a') m2
  obtain ⟨e1,e2⟩:=tE (L:=a.L) (L':=a'.L) (s:=s) (s':=s') k2 (fun t x y=>by
   have:=h t x
   rw [iM k2 hs y,iM m2 hs' (by grind)] at this
   exact Option.some.inj this)
  have eH:a.H=a'.H:=by unfold Sl at hs hs';grind
  have ea:a=a':=by
   have i1:=b_ k1.e m1.e eE
   have i2:=b_ k1.l m1.l e1
   have i3:=b_ k1.h m1.h eH
   cases a;cases a'
   simp only at i1 i2 i3
   rw [i1,i2,i3]
  subst ea
  rw [F' (b:=a.e) k1.e k4 m4 g1.tail g2.tail fun t ht=>by
   have:=h t (by grind)
   rw [dO ht,dO ht] at this
   exact this]
theorem yy {a a':Pc} {r r':List Pc} (h1:RtF (a::r)) (h2:RtF (a'::r')) (ng:NG (0,1) (a::r)) (h:∀t,0≤t→cm 0 (a::r) t=cm 0 (a'::r') t) (z:a.E=0) (lt:0<a'.E):False:=by
 have l0:a.L=a.H:=h1.2.2.2.1 z.symm
 obtain ⟨s',hs'⟩:=Sl.ex (b:=0) (p:=a') lt
 have e0:=h 0 Rat.le_refl
 rw [cm,if_pos (by grind),if_pos z.symm,iM lt hs' (by grind)] at e0
 have e0:=Option.some.inj e0
 have hE:=h a'.E (by grind)
 rw [iM lt hs' Rat.le_refl,dO (by grind)] at hE
 cases r with
 | nil=>cases hE
 | cons p r2 =>
  obtain ⟨n1,n2,n3,n4,n5,n6⟩:=h1.2.2.2.2
  obtain ⟨s2,hs2⟩:=Sl.ex (p:=p) n2
  obtain ⟨e,he1,he2,he3⟩:∃e,a.E<e∧e≤p.E∧e≤a'.E:=by
   by_cases q:p.E≤a'.E
   ·exact ⟨p.E,n2,Rat.le_refl,q⟩
   ·exact ⟨a'.E,by grind,by grind,Rat.le_refl⟩
  obtain ⟨f1,f2⟩:=tE (L:=p.L) (L':=a.H) (s:=s2) (s':=s') he1 (fun t x y=>by
   have:=h t (by grind)
   rw [dO x,iM n2 hs2 (by grind),iM lt hs' (by grind)] at this
   have:=Option.some.inj this
   grind)
  have g:gB (0,1) a p=true:=(jB mH h1.1 n1 (by rw [ag];grind) n2 h1.2.1 n4 hs2).mpr ⟨b_ n1.l h1.1.h f1,by unfold Sl;rw [ag];grind⟩
  have:=ng.1
  rw [g] at this
  cases this
theorem uK {A B:List Pc} (h1:RtF A) (h2:RtF B) (g1:NG (0,1) A) (g2:NG (0,1) B) (h:∀t,0≤t→cm 0 A t=cm 0 B t):A=B:=by
 cases A with
 | nil =>
  cases B with
  | nil=>rfl
  | cons p r =>
   have:=h p.E (aU h2.1.e.pos)
   obtain ⟨y,e⟩:=y7 (b:=0) (p:=p) (r:=r)
   rw [e] at this
   cases this
 | cons a r =>
  cases B with
  | nil =>
   have:=h a.E (aU h1.1.e.pos)
   obtain ⟨y,e⟩:=y7 (b:=0) (p:=a) (r:=r)
   rw [e] at this
   cases this
  | cons a' r' =>
   have p1:0≤a.E:=aU h1.1.e.pos
   have p2:0≤a'.E:=aU h2.1.e.pos
   by_cases z:a.E=0
   ·by_cases z':a'.E=0
    ·have e0:=h 0 Rat.le_refl
     rw [cm,if_pos (by grind),if_pos z.symm,cm,if_pos (by grind),if_pos z'.symm] at e0
     have e0:=Option.some.inj e0
     have l1:=h1.2.2.2.1 z.symm
     have l2:=h2.2.2.2.1 z'.symm
     have ea:a=a':=by
      have i1:=b_ h1.1.e h2.1.e (z.trans z'.symm)
      have i2:=b_ h1.1.l h2.1.l e0
      have i3:=b_ h1.1.h h2.1.h (by grind)
      cases a;cases a'
      simp only at i1 i2 i3
      rw [i1,i2,i3]
     subst ea
     rw [F' (b:=a.e) h1.1.e h1.2.2.2.2.ch h2.2.2.2.2.ch g1.tail g2.tail fun t ht=>by
      have:=h t (by grind)
      rw [dO ht,dO ht] at this
      exact this]
    ·exact (yy h1 h2 g1 h z (by grind)).elim
   ·by_cases z':a'.E=0
    ·exact (yy h2 h1 g2 (fun t ht=>(h t ht).symm) z' (by grind)).elim
    ·refine F' (b:=(0,1)) mH ?_ ?_ g1 g2 fun t ht=>?_
     ·exact ⟨h1.1,by rw [ag];grind,h1.2.1,h1.2.2.2.2.ch⟩
     ·exact ⟨h2.1,by rw [ag];grind,h2.2.1,h2.2.2.2.2.ch⟩
     ·rw [ag] at ht ⊢
      exact h t (Rat.le_of_lt ht)
theorem qq {as st Q} (h:cS as st Q):au Γ dQ (frame 4 as) st (af st Q):=by
 obtain ⟨n,d,rfl,h0,h1,k⟩:=h
 unfold dQ
 walk_at "WP"
 refine oV Γm (fun j ρ s=>s=st∧∃a:Nat,ρ=[some (.int n),some (.int d),some (.int a),some (.int j)]∧Nat.gcd a j=Nat.gcd n d) (n:=d) ⟨rfl,n,rfl,rfl⟩ ?_
 rintro m ρ s ⟨rfl,a,rfl,hg⟩
 walk_at "WP"
 by_cases hb:(0:Int)<m
 ·rw [if_pos hb]
  exact ⟨hb,a % m,Nat.mod_lt _ (by omega),m,rfl,by simp,by rw [←hg,Nat.gcd_comm a m,Nat.gcd_rec m a,Nat.gcd_comm]⟩
 ·rw [if_neg hb]
  have:m=0:=by omega
  subst this
  rw [Nat.gcd_zero_right] at hg
  subst hg
  refine ⟨na h0 h1,na h0 h1,?_⟩
  rw [←Int.natCast_ediv,←Int.natCast_ediv]
  exact .inl k
theorem wu {as st Q} (h:dL as st Q):au Γ ff (frame 3 as) st (af st Q):=by
 obtain ⟨p,many,rfl,⟨q,r,hp,hq,hr0,hr1⟩,hm,hm2,k⟩:=h
 have g0:Gr st p st:=.refl ⟨q,r,hp,hq,hr0,hr1⟩
 unfold ff
 walk_at "WP"
 refine ⟨_,ad hp,_,mI,?_⟩
 walk_at "WP"
 by_cases hz:0<q
 ·rw [if_pos hz]
  refine ⟨_,ad hp,_,mI,?_⟩
  walk_at "WP"
  refine ⟨yT hm hm2,_,hp,0,rfl,?_⟩
  exact .inl (k _ _ (Int.emod_nonneg _ (by omega)) (Int.emod_lt_of_pos _ hm) (g0.set ⟨Int.ediv_nonneg (by omega) (by omega),hr0,hr1⟩))
 ·rw [if_neg hz]
  refine ⟨_,ad hp,_,my,?_⟩
  walk_at "WP"
  refine ⟨Io (by decide) (by decide),_,hp,1,rfl,?_⟩
  have hs:∀z,(st.set p (pc q z))[p]?=some (pc q z):=fun z=>List.getElem?_set_self (cW hp)
  refine ⟨_,ad (hs _),_,my,_,ad (hs _),_,my,?_⟩
  walk_at "WP"
  refine ⟨uU (by omega) (by omega),yT (by decide) (by decide),hm,?_⟩
  exact .inl (k _ _ (Int.emod_nonneg _ (by omega)) (Int.emod_lt_of_pos _ hm) (g0.set ⟨hq,by omega,by omega⟩))
theorem yd {as st Q} (h:eD as st Q):au Γ fL (frame 3 as) st (af st Q):=by
 obtain ⟨ns,m,rfl,hm,k⟩:=h
 unfold fL
 walk_at "WP"
 have fin:∀z:Int,xf 10 18∧CMB 97 (m:Int)∧Ret st Q (PV.ref (List.length st)) (st++[Cell.lst [PV.int (if 0<(z.natAbs:Int)-1000000000000000000 then (z.natAbs:Int)-1000000000000000000 else 0),PV.int ((z.natAbs:Int) % 2147483629+97*m+1)]]):=fun z =>
  ⟨IB,uU (by decide) (by decide),.inl (k _ _ ⟨by split <;> omega,by omega,by omega⟩)⟩
 rw [List.length_map]
 by_cases hl:m<ns.length
 ·rw [if_pos (by omega)]
  refine ⟨_,A4 hl,?_⟩
  walk_at "WP"
  exact fin _
 ·rw [if_neg (by omega)]
  exact fin 0
theorem we {as st Q} (h:dE as st Q):au Γ fg (frame 1 as) st (af st Q):=by
 obtain ⟨p,rfl,hp,k⟩:=h
 unfold fg
 walk_at "WP"
 refine ⟨IC,p,4,rfl,hp,by decide,by decide,fun y s1 y0 y1 g1=>?_⟩
 obtain ⟨v,ev,far,rfl,f0,f1⟩:=u9 (L:=[PV.int 1,PV.int 2,PV.int 12,PV.int 100000000000]) (P:=fun v=>∃d:Nat,v=.int d∧0<d∧d≤10 ^ 11) (fun v hv=>by
  simp only [List.mem_cons,List.not_mem_nil,or_false] at hv
  rcases hv with rfl|rfl|rfl|rfl
  ·exact ⟨1,rfl,by decide,by decide⟩
  ·exact ⟨2,rfl,by decide,by decide⟩
  ·exact ⟨12,rfl,by decide,by decide⟩
  ·exact ⟨_,rfl,by decide,by decide⟩) y0 y1
 walk_at "WP"
 refine ⟨_,ev,p,_,rfl,g1.pot,by omega,by omega,fun z s2 z0 z1 g2=>?_⟩
 walk_at "WP"
 obtain ⟨d,hd⟩:∃d:Nat,1+z=d:=⟨(1+z).toNat,by omega⟩
 rw [hd]
 exact .inl (k d _ (by omega) (by omega) (g1.trans g2))
theorem xN {U:List Un3} {elt:E} {chk:AH→Prop} {st:AH} {Q:LK} (f:Un3→Nat) (hc:chk st) (he:∀u:Un3,wpE Γ elt [some (.int u.1),some (.int u.2.1),some (.int u.2.2)] st fun v s=>v=iV (f u)∧s=st) (q:Q ((U.map f).map iV) st):vE Γ elt (Tg.tup (.cons (.name 0) (.cons (.name 1) (.cons (.name 2) .nil)))) .nil chk [none,none,none] (U.map uV) st Q:=by
 refine jb Γm (fun j acc s=>s=st∧acc=((U.take j).map f).map iV) ⟨rfl,by simp⟩ ?_ ?_
 ·rintro j x acc s hx ⟨rfl,rfl⟩
  refine ⟨hc,?_⟩
  rw [List.getElem?_map] at hx
  obtain ⟨u,hu,rfl⟩:=Option.map_eq_some_iff.mp hx
  walk_at "WP"
  refine ab Γm elt (fun v s z=>?_) (he u)
  obtain ⟨rfl,rfl⟩:=z
  refine ⟨rfl,?_⟩
  rw [List.take_add_one,hu]
  simp
 ·rintro acc s ⟨rfl,rfl⟩
  rw [List.length_map,List.take_length]
  exact ⟨hc,q⟩
theorem tI {as st Q} (h:dh as st Q):au Γ eO (frame 1 as) st (af st Q):=by
 obtain ⟨n,U,rfl,hn,hl,k⟩:=h
 unfold eO
 walk_at "WP"
 refine ⟨_,ad hn,by simp;omega,xN (·.1) rfl (fun u=>by walk_at "WP") ?_⟩
 refine ⟨_,ad (aC hn),by simp;omega,xN (·.2.1) rfl (fun u=>by walk_at "WP") ?_⟩
 refine ⟨_,by rw [List.append_assoc,e_];rfl,by simp;omega,_,ad (by rw [List.append_assoc];exact aC hn),by simp;omega,xN (·.2.2) rfl (fun u=>by walk_at "WP") ?_⟩
 refine ⟨(U.map (·.1)).map iV++(U.map (·.2.1)).map iV,by rw [List.append_assoc,dN];rfl,by simp;omega,.inl ?_⟩
 rw [List.append_assoc,List.append_assoc]
 simp only [List.length_append,List.length_cons,List.length_nil,Nat.add_assoc,Nat.reduceAdd]
 refine k _ (U.map (·.1)++U.map (·.2.1)++U.map (·.2.2)) _ ?_ (Nat.le_add_right _ _) (fun B hB h hh=>?_) (by simp;omega)
 ·rw [dN];simp
 ·rcases List.mem_append.mp hh with hh|hh
  ·rcases List.mem_append.mp hh with hh|hh
   ·obtain ⟨u,hu,rfl⟩:=List.mem_map.mp hh;exact (hB u hu).1
   ·obtain ⟨u,hu,rfl⟩:=List.mem_map.mp hh;exact (hB u hu).2.1
  ·obtain ⟨u,hu,rfl⟩:=List.mem_map.mp hh;exact (hB u hu).2.2
theorem r_ {as st Q} (h:dj as st Q):au Γ eJ (frame 2 as) st (af st Q):=by
 obtain ⟨n,d,U,rfl,hn,hU,hl,hB,d0,d1,k⟩:=h
 unfold eJ
 walk_at "WP"
 have be:d<2 ^ 8000:=Nat.lt_of_le_of_lt d1 (Nat.lt_of_lt_of_le (by decide:(10:Nat) ^ 11<2 ^ 64) (Nat.pow_le_pow_right (by decide) (by decide)))
 refine ⟨n,U,rfl,hn,hU,hl,hB,fun n' V g hn' hV lV=>?_⟩
 refine ⟨_,ad hn',by simp;omega,?_⟩
 refine FW.comp_map Γm (fun x=>match x with | .tup [.int a,.int b,.int c]=>pcV (aD d (a.toNat,b.toNat,c.toNat))|v=>v) rfl (fun y hy=>?_) ?_
 ·obtain ⟨u,_,rfl⟩:=List.mem_map.mp hy
  walk_at "WP"
  refine ⟨by decide,?_⟩
  refine FW.comp_map Γm (fun x=>match x with | .int z=>fr (aH z.toNat d)|v=>v) trivial (fun x hx=>?_) ?_
  ·simp only [List.mem_cons,List.not_mem_nil,or_false] at hx
   rcases hx with rfl|rfl|rfl
   ·walk_at "WP";exact ⟨u.1,d,rfl,d0,be,rfl,rfl⟩
   ·walk_at "WP";exact ⟨u.2.1,d,rfl,d0,be,rfl,rfl⟩
   ·walk_at "WP";exact ⟨u.2.2,d,rfl,d0,be,rfl,rfl⟩
  ·refine ⟨_,ad aA,.app ?_ ⟨rfl,rfl⟩⟩
   simp [PV.bel,PV.bels,fr]
 ·have e:(V.map uV).map (fun x=>match x with | .tup [.int a,.int b,.int c]=>pcV (aD d (a.toNat,b.toNat,c.toNat))|v=>v)=(V.map (aD d)).map pcV:=by
   rw [List.map_map,List.map_map]
   rfl
  rw [e,hV d d0]
  refine ⟨_,ad aA,?_⟩
  rw [List.append_assoc]
  exact .app yJ (.inl k)
theorem Ih {n:Nat}:aH n 1=(n,1):=by simp [aH]
theorem HR {d:Nat} (h:0<d):aH 0 d=(0,1):=by simp [aH,Nat.div_self h]
theorem nH {n m d:Nat} (h0:0<d) (h:aH n d=aH m d):n=m:=by
 have:=congrArg val h
 rw [aw h0,aw h0] at this
 have d1:=ax h0
 have:(n:Rat)=(m:Rat):=by grind
 exact_mod_cast this
noncomputable def gU (b:Nat) (w u:Un3):Bool:=decide (u.2.1=w.2.2) && decide (((w.2.2:Int)-w.2.1)*((u.1:Int)-w.1)=((u.2.2:Int)-u.2.1)*((w.1:Int)-b))
theorem DH {b d:Nat} {w u:Un3} (h0:0<d) (h1:b≤w.1) (h2:w.1≤u.1) (h3:w.2.1≤w.2.2) (h4:u.2.1≤u.2.2):gB (aH b d) (aD d w) (aD d u)=gU b w u:=by
 have dp:=ax h0
 have le:∀ {x y:Nat},x≤y→val (aH x d)≤val (aH y d):=fun {x y} h=>by
  rw [aw h0,aw h0]
  have:(x:Rat)≤(y:Rat):=by exact_mod_cast h
  refine Classical.byContradiction fun z=>?_
  have:=Rat.mul_pos (a:=(x:Rat)/d-(y:Rat)/d) (b:=(d:Rat)) (by grind) dp
  have dn:(d:Rat)≠0:=by grind
  have z1:(x:Rat)/d*d=x:=by grind
  have z2:(y:Rat)/d*d=y:=by grind
  generalize (x:Rat)/d=x' at *
  generalize (y:Rat)/d=y' at *
  grind
 have ps:∀ {x:Nat},0<(aH x d).2:=dI h0
 unfold gB gU
 have e1:decide ((aD d u).l=(aD d w).h)=decide (u.2.1=w.2.2):=by
  refine decide_eq_decide.mpr ⟨fun z=>nH h0 z,fun z=>?_⟩
  show aH u.2.1 d=aH w.2.2 d
  rw [z]
 rw [e1]
 congr 1
 refine decide_eq_decide.mpr ?_
 have c1:=dg (p:=aH w.2.2 d) (q:=aH w.2.1 d) ps ps
 have c2:=dg (p:=aH u.1 d) (q:=aH w.1 d) ps ps
 have c3:=dg (p:=aH u.2.2 d) (q:=aH u.2.1 d) ps ps
 have c4:=dg (p:=aH w.1 d) (q:=aH b d) ps ps
 have v1:=nk c1.pos c2.pos
 have v2:=nk c3.pos c4.pos
 rw [dZ ps ps (le h3),dZ ps ps (le h2)] at v1
 rw [dZ ps ps (le h4),dZ ps ps (le h1)] at v2
 simp only [aw h0] at v1 v2
 have key:val (uh (mo (aH w.2.2 d) (aH w.2.1 d)) (mo (aH u.1 d) (aH w.1 d)))=val (uh (mo (aH u.2.2 d) (aH u.2.1 d)) (mo (aH w.1 d) (aH b d)))↔((w.2.2:Int)-w.2.1)*((u.1:Int)-w.1)=((u.2.2:Int)-u.2.1)*((w.1:Int)-b):=by
  rw [v1,v2]
  have q:((w.2.2:Rat)-w.2.1)*((u.1:Rat)-w.1)=((u.2.2:Rat)-u.2.1)*((w.1:Rat)-b)↔((w.2.2:Int)-w.2.1)*((u.1:Int)-w.1)=((u.2.2:Int)-u.2.1)*((w.1:Int)-b):=by
   rw [←Rat.intCast_natCast w.2.2,←Rat.intCast_natCast w.2.1,←Rat.intCast_natCast u.1,←Rat.intCast_natCast w.1,←Rat.intCast_natCast u.2.2,←Rat.intCast_natCast u.2.1,←Rat.intCast_natCast b]
   simp only [←Rat.intCast_sub,←Rat.intCast_mul,Rat.intCast_inj]
  rw [←q]
  have dn:(d:Rat)≠0:=by grind
  constructor <;> intro z <;> grind
 rw [←key]
 exact ⟨fun z=>congrArg val z,fun z=>b_ (kH c1.pos c2.pos) (kH c3.pos c4.pos) z⟩
noncomputable def nV (b:Nat × Nat) (Y:List Pc):Nat × Nat:=(Y.getLast?.map Pc.e).getD b
theorem w5 {b:Nat × Nat} {a:Pc} {Y:List Pc}:nV b (a::Y)=nV a.e Y:=by
 unfold nV
 cases Y with
 | nil=>rfl
 | cons c Y=>simp [List.getLast?_cons]
theorem i6 {p:Pc}:∀ {r:List Pc} {b:Nat × Nat} {a:Pc},∃Y c,aP b a r=Y++[c]∧aP b a (r++[p])=(if gB (nV b Y) c p=true then Y++[c.mg p] else Y++[c,p]) ∧
  (∀z,(a::r).getLast?=some z→c.e=z.e∧c.h=z.h)
 | [],b,a=>⟨[],a,rfl,by
   show aP b a [p]=_
   rw [aP]
   show (if gB b a p=true then aP b (a.mg p) [] else a::aP a.e p [])=if gB b a p=true then []++[a.mg p] else []++[a,p]
   rfl,fun z e=>by cases e;exact ⟨rfl,rfl⟩⟩
 | q::r,b,a=>by
  rw [aP,List.cons_append,aP]
  by_cases g:gB b a q=true
  ·rw [if_pos g,if_pos g]
   obtain ⟨Y,c,e1,e2,e3⟩:=i6 (p:=p) (r:=r) (b:=b) (a:=a.mg q)
   refine ⟨Y,c,e1,e2,fun z e=>?_⟩
   cases r with
   | nil =>
    have:z=q:=by simpa using e.symm
    subst this
    exact e3 (a.mg z) rfl
   | cons x r=>exact e3 z (by simpa [List.getLast?_cons_cons] using e)
  ·rw [if_neg g,if_neg g]
   obtain ⟨Y,c,e1,e2,e3⟩:=i6 (p:=p) (r:=r) (b:=a.e) (a:=q)
   refine ⟨a::Y,c,by rw [e1];rfl,?_,fun z e=>e3 z (by simpa [List.getLast?_cons_cons] using e)⟩
   rw [e2,w5]
   split <;> rfl
theorem Rt.take:∀ {L:List Pc} {b hh:Rat} (i:Nat),Rt b hh L→Rt b hh (L.take i)
 | [],_,_,i,_=>by rw [List.take_nil];trivial
 | _::_,_,_,0,_=>trivial
 | _::_,_,_,i+1,⟨h1,h2,h3,h4,h5,h6⟩=>⟨h1,h2,h3,h4,h5,h6.take i⟩
theorem RtF.take {L:List Pc} (i:Nat) (h:RtF L):RtF (L.take i):=by
 cases L with
 | nil=>rw [List.take_nil];trivial
 | cons a r =>
  cases i with
  | zero=>trivial
  | succ i=>exact ⟨h.1,h.2.1,h.2.2.1,h.2.2.2.1,h.2.2.2.2.take i⟩
theorem tV {d:Nat} (h0:0<d) {Y:List Un3}:nV (0,1) (Y.map (aD d))=aH ((Y.getLast?.map (·.1)).getD 0) d:=by
 unfold nV
 rw [List.getLast?_map]
 cases Y.getLast? with
 | none=>exact (HR h0).symm
 | some w=>rfl
structure Fnd (U:List Un3) (i:Nat) (V:List Un3):Prop where
 eq:∀d,0<d→V.map (aD d)=d_ ((U.take i).map (aD d))
 ln:V.length≤i
 bd:BdU (2 ^ 37) V
theorem Ij {n:Nat}:val (aH n 1)=(n:Rat):=by rw [Ih,EM]
theorem Fnd.nil {U:List Un3} {i:Nat} {V:List Un3} (h:Fnd U i V) (hi:i<U.length) (e:V=[]):i=0:=by
 have:=h.eq 1 (by decide)
 rw [e] at this
 cases i with
 | zero=>rfl
 | succ i =>
  cases U with
  | nil=>simp at hi
  | cons u U =>
   rw [List.take_succ_cons,List.map_cons] at this
   obtain ⟨Y,c,e1,_⟩:=i6 (p:=aD 1 u) (r:=(U.take i).map (aD 1)) (b:=(0,1)) (a:=aD 1 u)
   rw [d_,e1] at this
   simp at this
theorem Fnd.step {U:List Un3} {i:Nat} {V:List Un3} {u:Un3} (h:Fnd U i V) (hu:U[i]?=some u) (hU:RUF U) (bd:BdU (2 ^ 37) [u]) :
  (V=[]∧Fnd U (i+1) [u])∨∃Y w,V=Y++[w]∧(Y.getLast?.map (·.1)).getD 0≤w.1∧((Y.getLast?.map (·.1)).getD 0=w.1→w.2.1=w.2.2)∧w.2.1≤w.2.2∧w.1<u.1∧w.2.2≤u.2.1∧u.2.1≤u.2.2 ∧
   Fnd U (i+1) (if gU ((Y.getLast?.map (·.1)).getD 0) w u=true then Y++[(u.1,w.2.1,u.2.2)] else Y++[w,u]):=by
 have il:=(List.getElem?_eq_some_iff.mp hu).1
 have ht:∀d,(U.take (i+1)).map (aD d)=(U.take i).map (aD d)++[aD d u]:=fun d=>by rw [List.take_succ,hu];simp
 rcases dB V with rfl|⟨Y,w,rfl⟩
 ·have i0:=h.nil il rfl
  subst i0
  refine .inl ⟨rfl,⟨fun d hd=>?_,by simp,bd⟩⟩
  rw [ht d]
  rfl
 ·have hR:=hU.rt (d:=1) (by decide)
  have i0:0<i:=by
   have:=h.ln
   simp at this
   omega
  obtain ⟨a,r,ear⟩:∃a r,U.take i=a::r:=by
   cases e:U.take i with
   | nil =>
    rcases List.take_eq_nil_iff.mp e with z|z
    ·omega
    ·rw [z] at il;simp at il
   | cons a r=>exact ⟨a,r,rfl⟩
  have go:∀d,0<d→d_ ((U.take (i+1)).map (aD d))=(if gB (nV (0,1) (Y.map (aD d))) (aD d w) (aD d u)=true then Y.map (aD d)++[(aD d w).mg (aD d u)] else Y.map (aD d)++[aD d w,aD d u])∧((aD d w).e=(aD d U[i-1]).e∧(aD d w).h=(aD d U[i-1]).h):=fun d hd=>by
   have e0:=h.eq d hd
   obtain ⟨Y',c,e1,e2,e3⟩:=i6 (p:=aD d u) (r:=r.map (aD d)) (b:=(0,1)) (a:=aD d a)
   rw [ear,List.map_cons,d_,e1,List.map_append] at e0
   obtain ⟨y1,y2⟩:=List.append_inj' e0 rfl
   have y2:aD d w=c:=List.head_eq_of_cons_eq y2
   subst y1 y2
   rw [ht d,ear,List.map_cons,List.cons_append,d_,e2]
   refine ⟨rfl,e3 (aD d U[i-1]) ?_⟩
   rw [←List.map_cons,←ear,List.getLast?_map,List.getLast?_take,if_neg (by omega),List.getElem?_eq_getElem (by omega)]
   rfl
  obtain ⟨g1,g2,g3⟩:=go 1 (by decide)
  have w1:w.1=(U[i-1]).1:=nH (by decide) g2
  have w2:w.2.2=(U[i-1]).2.2:=nH (by decide) g3
  have hz1:(U.map (aD 1))[i-1]?=some (aD 1 U[i-1]):=by rw [List.getElem?_map,List.getElem?_eq_getElem (by omega)];rfl
  have hz2:(U.map (aD 1))[i-1+1]?=some (aD 1 u):=by rw [Nat.sub_add_cancel i0,List.getElem?_map,hu];rfl
  obtain ⟨t1,t2⟩:=hR.two hz1 hz2
  obtain ⟨_,a1,a2⟩:=hR.at_ hz2
  have fR:RtF ((Y++[w]).map (aD 1)):=by
   rw [h.eq 1 (by decide)]
   refine oK ?_
   rw [List.map_take]
   exact hR.take i
  have hw:((Y++[w]).map (aD 1))[Y.length]?=some (aD 1 w):=by simp
  obtain ⟨_,b1,b2⟩:=fR.at_ hw
  obtain ⟨_,n2,n3,_⟩:=nb fR hw
  have eb:val (bg ((Y++[w]).map (aD 1)) Y.length)=(((Y.getLast?.map (·.1)).getD 0:Nat):Rat):=by
   rcases dB Y with rfl|⟨Z,x,rfl⟩
   ·exact ag
   ·have:((Z++[x]++[w]).map (aD 1))[Z.length]?=some (aD 1 x):=by simp
    rw [show (Z++[x]).length=Z.length+1 by simp,bgS this,List.getLast?_concat]
    exact Ij
  rw [eb] at n2 n3
  simp only [Pc.E,Pc.L,Pc.H,Ij,Rat.natCast_le_natCast,Rat.natCast_lt_natCast,Rat.natCast_inj] at t1 t2 a1 b1 n2 n3
  rw [←w1] at t1
  rw [←w2] at t2
  refine .inr ⟨Y,w,rfl,n2,n3,b1,t1,t2,a1,⟨fun d hd=>?_,?_,?_⟩⟩
  ·rw [(go d hd).1,tV hd,DH hd n2 (Nat.le_of_lt t1) b1 a1]
   split <;> simp
  ·have:=h.ln
   simp at this
   split <;> simp <;> omega
  ·have bw:=h.bd w (by simp)
   have bu:=bd u (by simp)
   have bY:BdU (2 ^ 37) Y:=fun x hx=>h.bd x (by simp [hx])
   split
   ·intro x hx
    rcases List.mem_append.mp hx with hx|hx
    ·exact bY x hx
    ·rw [List.mem_singleton] at hx;subst hx;exact ⟨bu.1,bw.2.1,bu.2.2⟩
   ·intro x hx
    rcases List.mem_append.mp hx with hx|hx
    ·exact bY x hx
    ·simp only [List.mem_cons,List.not_mem_nil,or_false] at hx
     rcases hx with rfl|rfl
     ·exact bw
     ·exact bu
theorem Hx {Z:List Un3} {x w:Un3}:atI ((Z++[x]++[w]).map uV) (-2)=some (uV x):=by
 simp only [atI,ixN,List.length_map,List.length_append,List.length_singleton]
 rw [if_neg (by omega),if_pos (by omega),show ((-2:Int)+((Z.length+1+1:Nat):Int)).toNat=Z.length by omega]
 simp
noncomputable def nxE (P:Fr→AH→Prop):aV:={ nx:=P,rt:=fun _ _=>False }
theorem F7 {P:Fr→AH→Prop} {ρ:Fr} {st:AH}:(nxE P).nx ρ st=P ρ st:=rfl
local macro_rules | `(tactic| walk_at "WPN")=>`(tactic| simp only [on,oz,o7,nK,j9,uM,uI,u8,wx,nY,uc,wg,oW,ow,nD,jf,rp,u5,wc,o9,t4,oa,Ag,k_,wn,pN,pK,wl,oQ,uv,wF,CW,vX,tN,Dh,uf,uR,vA,t8,wp,vn,vT,Dp,wE,Do,Bq,oi,uL,nr,uS,oF,vy,pG,jZ,Cy,v5,vO,By,t5,uF,tM,ou,vf,oT,uY,Bt,nq,kR,pA,kl,lw,n8,j0,n_,ko,om,vC,ug,o6,kF,jY,eR,iW,fA,ic,kZ,ii,wo,uq,wd,tL,vH,vg,nJ,oA,nM,pI,n9,vD,Dc,tW,wf,Ck,Dn,vP,vq,nv,pi,Bi,BF,CA,DO,uu,vN,vL,gk,iS,gL,gy,gg,gC,kw,kg,kI,kC,iw,iF,iZ,fY,gi,fj,gH,iL,gI,gc,gF,gM,uQ,v8,tQ,mI,my,tY,vI,t7,uE,vF,uZ,oH,pV,nA,uO,tX,iY,nw,oj,vJ,uX,vj,ww,uj,DR,A8,DU,Bx,DA,uT,og,oo,oI,frame,Γ_0,Γ_1,Γ_2,Γ_3,Γ_4,Γ_5,Γ_6,Γ_7,Γ_8,Γ_9,Bu,CK,BE,Cb,C0,Cl,AZ,DS,CQ,BP,CV,B_,Dk,DE,DL,CZ,CH,B0,Dv,A2,BS,Cz,CB,Cj,Br,DM,BI,C4,Cd,Ce,BX,Dy,Cu,Nat.add_assoc,dN,e_,List.append_assoc,List.length_append,List.length_set,List.map_cons,List.map_nil,List.length_cons,List.length_nil,List.replicate,List.cons_append,List.nil_append,List.append_nil,List.getElem?_cons_zero,List.getElem?_cons_succ,List.set_cons_zero,List.set_cons_succ,Option.some.injEq,Cell.lst.injEq,PV.int.injEq,PV.bl.injEq,PV.ref.injEq,PV.str.injEq,PV.tup.injEq,PV.rdl.injEq,List.cons.injEq,and_true,true_and,exists_eq_left,exists_eq_left',exists_eq_right,exists_and_left,exists_and_right,exists_const,Bool.not_true,Bool.not_false,Bool.not_not,Bool.not_eq_true',decide_eq_true_eq,decide_eq_false_iff_not,false_and,and_false,false_or,or_false,if_true,if_false,Bool.false_eq_true,reduceCtorEq,reduceIte,not_false_eq_true,Nat.add_zero,Nat.zero_add,Nat.reduceAdd,Nat.reduceSub,Nat.reduceLeDiff,Int.reduceToNat,Int.reducePow,Int.reduceLT,Int.reduceLE,Int.reduceNeg,Int.reduceAdd,Int.reduceSub,Int.reduceMul,nP,kD,exists_eq,exists_eq',exists_false,ne_eq,not_true_eq_false,and_assoc,Option.join_some,Option.join_none,decide_true,decide_false,oh,nW,pD,nX,o0,nC,oM,Int.reduceEq,Nat.reduceEqDiff,Bool.not_eq_false,Bool.not_eq_true,Bool.and_true,Bool.true_and,Bool.and_false,Bool.false_and,Bool.or_false,Bool.or_true,F7])
theorem gG {s:S} {ss:Ss} {ρ:Fr} {st:AH} {D:aV} (P:Fr→AH→Prop) (h1:wpS Γ s ρ st (nxE P)) (h2:∀ρ' st',P ρ' st'→au Γ ss ρ' st' D):au Γ (.cons s ss) ρ st D:=by
 cases ss with
 | nil=>exact gf (D:=nxE P) Γm s ⟨fun ρ st z=>h2 ρ st z,fun _ _ z=>False.elim z,fun _ _ z=>False.elim z,fun _ _ z=>False.elim z⟩ h1
 | cons s2 ss=>exact gf (D:=nxE P) (D':=aft Γ (.cons s2 ss) D) Γm s ⟨fun ρ st z=>h2 ρ st z,fun _ _ z=>False.elim z,fun _ _ z=>False.elim z,fun _ _ z=>False.elim z⟩ h1
theorem ifS {c:E} {x y:Ss} {ρ:Fr} {st:AH} {D:aV} (A B:AH→Prop) (h:wpT Γ c ρ st fun k st1=>if k=true then A st1 else B st1) (h1:∀st1,A st1→au Γ x ρ st1 D) (h2:∀st1,B st1→au Γ y ρ st1 D):wpS Γ (.ifS c x y) ρ st D:=by
 rw [Ag]
 refine aQ Γm c (fun k st1 z=>?_) h
 cases k with
 | true=>exact h1 _ z
 | false=>exact h2 _ z
noncomputable def LuI (st:AH) (n:Nat) (U:List Un3) (i:Nat) (ρ:Fr) (s:AH):Prop:=∃(V:List Un3) (g:AH) (a b c d e f x y z:Option PV),s=st++.lst (V.map uV)::g∧Fnd U i V∧ρ=[some (.ref n),some (.ref st.length),a,b,c,d,e,f,x,y,z]
noncomputable abbrev oB:Ss:=(.cons (.set (.name 5) (.ite (.cmp .NotEq (.var 1) (.lst .nil)) (.ix (.ix (.var 1) (.neg (.int 1))) (.int 0)) (.int 0))) (.cons (.ifS (.bop true (.cons (.cmp .NotEq (.var 1) (.lst .nil)) (.cons (.cmp .Eq (.ix (.ix (.var 1) (.neg (.int 1))) (.int 2)) (.var 3)) .nil))) (.cons (.set (.name 6) (.ite (.cmp .Gt (.blt .len (.cons (.var 1) .nil)) (.int 1)) (.ix (.ix (.var 1) (.neg (.int 2))) (.int 0)) (.int 0))) (.cons (.set (.tup (.cons (.name 7) (.cons (.name 8) (.cons (.name 9) .nil)))) (.ix (.var 1) (.neg (.int 1)))) (.cons (.set (.name 10) (.bin .Mult (.bin .Sub (.var 9) (.var 8)) (.bin .Sub (.var 2) (.var 5)))) (.cons (.ifS (.bop false (.cons (.cmp .Eq (.var 7) (.var 6)) (.cons (.cmp .Eq (.var 10) (.bin .Mult (.bin .Sub (.var 4) (.var 3)) (.bin .Sub (.var 7) (.var 6)))) .nil))) (.cons (.set (.name 3) (.var 8)) (.cons (.expr (.met .pop0 (.var 1) .nil)) .nil)) .nil) .nil)))) .nil) (.cons (.expr (.met .append (.var 1) (.cons (.tup (.cons (.var 2) (.cons (.var 3) (.cons (.var 4) .nil)))) .nil))) .nil)))
noncomputable abbrev pZ:Ss:=(.cons (.ret (.var 1)) .nil)
theorem vW {as st Q} (h:dH as st Q):au Γ e8 (frame 11 as) st (af st Q):=by
 obtain ⟨n,U,rfl,hn,hU,hl,hB,k⟩:=h
 have nl:n<st.length:=cW hn
 have turn:∀(i:Nat) (u:Un3) (V:List Un3) (g:AH) (d e f x y z:Option PV),U[i]?=some u→Fnd U i V→au Γ oB [some (.ref n),some (.ref st.length),some (.int u.1),some (.int u.2.1),some (.int u.2.2),d,e,f,x,y,z] (st++.lst (V.map uV)::g) (LD (LuI st n U (i+1)) (aft Γ pZ (af st Q))):=by
  intro i u V g d e f x y z hu hV
  have il:=(List.getElem?_eq_some_iff.mp hu).1
  have bu:BdU (2 ^ 37) [u]:=fun x hx=>by rw [List.mem_singleton] at hx;rw [hx];exact hB u (List.mem_of_getElem? hu)
  have lV:=hV.ln
  have bu1:=bu u (by simp)
  refine gG (fun ρ s=>∃(v:PV) (g:AH),s=st++.lst (V.map uV)::g∧(∀Y w,V=Y++[w]→v=.int w.1)∧ρ=[some (.ref n),some (.ref st.length),some (.int u.1),some (.int u.2.1),some (.int u.2.2),some v,e,f,x,y,z]) ?_ ?_
  ·walk_at "WPN"
   refine fG (xs:=V.map uV) (by simp) (by simp) yX ?_
   rcases dB V with rfl|⟨Y,w,rfl⟩
   ·rw [if_neg (by simp)]
    exact ⟨⟨_,rfl⟩,_,fun Y w e=>by simp at e,rfl⟩
   ·rw [if_pos (by simp)]
    refine ⟨_,ad aN,uV w,by rw [List.map_append];exact fZ,?_⟩
    walk_at "WP"
    exact ⟨⟨_,rfl⟩,_,fun Y' w' e=>by rw [show w=w' from List.head_eq_of_cons_eq (List.append_inj' e rfl).2],rfl⟩
  rintro ρ s ⟨v,g,rfl,hv,rfl⟩
  refine gG (fun ρ s=>∃(V':List Un3) (lo:Nat) (g:AH) (e f x y z:Option PV),s=st++.lst (V'.map uV)::g∧V'.length<60∧Fnd U (i+1) (V'++[(u.1,lo,u.2.2)])∧ρ=[some (.ref n),some (.ref st.length),some (.int u.1),some (.int lo),some (.int u.2.2),some v,e,f,x,y,z]) ?_ ?_
  ·rcases hV.step hu hU bu with ⟨rfl,hF⟩|⟨Y,w,rfl,h1,h2,h3,h4,h5,h6,hF⟩
   ·refine ifS (fun _=>False) (fun s=>∃g,s=st++.lst ([].map uV)::g) ?_ (fun _ z=>z.elim) ?_
    ·walk_at "WP"
     refine fG (xs:=[]) (by simp) (by simp) (by rw [cO]) ?_
     rw [if_neg (by simp)]
     exact ⟨_,rfl⟩
    ·rintro s ⟨g,rfl⟩
     exact ⟨[],u.2.1,g,_,_,_,_,_,rfl,by simp,hF,rfl⟩
   ·obtain rfl:=hv Y w rfl
    obtain ⟨X,hX⟩:∃X,(Y++[w]).map uV=X:=⟨_,rfl⟩
    have mapsnoc:∀ {Y:List Un3} {c:Un3},(Y++[c]).map uV=Y.map uV++[uV c]:=fun {Y c}=>by simp
    have bw:=hV.bd w (by simp)
    have x1:atI X (-1)=some (uV w):=by rw [←hX,mapsnoc];exact fZ
    have x2:X[X.length-1]?=some (uV w):=by rw [←hX,mapsnoc];simp
    have x3:X.dropLast=Y.map uV:=by rw [←hX,mapsnoc,List.dropLast_concat]
    have x4:X.length=Y.length+1:=by rw [←hX];simp
    have lY:Y.length+1<60:=by simp at lV;omega
    obtain ⟨bb,hbb⟩:∃bb,(Y.getLast?.map (·.1)).getD 0=bb:=⟨_,rfl⟩
    rw [hbb] at h1 h2 hF
    have x5:(X.length=1∧bb=0)∨(1<X.length∧∃x',atI X (-2)=some (uV x')∧bb=x'.1):=by
     rcases dB Y with rfl|⟨Z,x',rfl⟩
     ·exact .inl ⟨by simpa using x4,hbb.symm⟩
     ·refine .inr ⟨by simp at x4;omega,x',by rw [←hX];exact Hx,?_⟩
      rw [←hbb,List.getLast?_concat];rfl
    have keep:gU bb w u=false→Fnd U (i+1) (Y++[w]++[(u.1,u.2.1,u.2.2)]):=fun e=>by
     rw [e,if_neg Bool.false_ne_true] at hF
     rw [List.append_assoc]
     exact hF
    rw [hX]
    refine ifS (fun s=>w.2.2=u.2.1∧∃g,s=st++.lst X::g) (fun s=>w.2.2≠u.2.1∧∃g,s=st++.lst X::g) ?_ ?_ ?_
    ·walk_at "WP"
     refine fG (xs:=X) (by simp) (by simp) (by rw [←hX];exact yX) ?_
     rw [if_pos (by cases X with|nil=>simp at x4|cons _ _=>rfl)]
     refine ⟨_,ad aN,uV w,x1,?_⟩
     walk_at "WP"
     refine dl (fun c=>⟨by omega,_,rfl⟩) fun c=>⟨by omega,_,rfl⟩
    ·rintro s ⟨q,g,rfl⟩
     have eg:gU bb w u=decide (((w.2.2:Int)-w.2.1)*((u.1:Int)-w.1)=((u.2.2:Int)-u.2.1)*((w.1:Int)-bb)):=by
      unfold gU
      rw [decide_eq_true q.symm,Bool.true_and]
     refine gG (fun ρ s=>s=st++.lst X::g∧ρ=[some (.ref n),some (.ref st.length),some (.int u.1),some (.int u.2.1),some (.int u.2.2),some (.int w.1),some (.int bb),f,x,y,z]) ?_ ?_
     ·walk_at "WPN"
      refine ⟨_,ad aN,?_⟩
      rcases x5 with ⟨x5,rfl⟩|⟨x5,x',x6,rfl⟩
      ·rw [if_neg (by omega)]
       rfl
      ·rw [if_pos (by omega)]
       refine ⟨_,ad aN,uV x',x6,?_⟩
       walk_at "WP"
     rintro ρ s ⟨rfl,rfl⟩
     refine gG (fun ρ s=>s=st++.lst X::g∧ρ=[some (.ref n),some (.ref st.length),some (.int u.1),some (.int u.2.1),some (.int u.2.2),some (.int w.1),some (.int bb),some (.int w.1),some (.int w.2.1),some (.int w.2.2),z]) ?_ ?_
     ·walk_at "WPN"
      exact ⟨_,ad aN,uV w,x1,_,rfl,rfl,_,_,rfl,_,_,rfl,_,_,rfl,rfl,rfl,rfl,rfl⟩
     rintro ρ s ⟨rfl,rfl⟩
     refine gG (fun ρ s=>s=st++.lst X::g∧ρ=[some (.ref n),some (.ref st.length),some (.int u.1),some (.int u.2.1),some (.int u.2.2),some (.int w.1),some (.int bb),some (.int w.1),some (.int w.2.1),some (.int w.2.2),some (.int (((w.2.2:Int)-w.2.1)*((u.1:Int)-w.1)))]) ?_ ?_
     ·walk_at "WPN"
      exact uU (by omega) (by omega)
     rintro ρ s ⟨rfl,rfl⟩
     refine ifS (fun s=>gU bb w u=true∧s=st++.lst X::g) (fun s=>gU bb w u=false∧s=st++.lst X::g) ?_ ?_ ?_
     ·walk_at "WP"
      refine dl (fun c1=>?_) fun c1=>⟨uU (by omega) (by omega),dl (fun c2=>?_) fun c2=>?_⟩
      ·rw [eg]
       refine decide_eq_true ?_
       rw [h2 (by omega),Int.sub_self,Int.zero_mul,show (w.1:Int)-(bb:Int)=0 by omega,Int.mul_zero]
      ·rw [eg];exact decide_eq_true c2
      ·rw [eg];exact decide_eq_false c2
     ·rintro s ⟨c,rfl⟩
      rw [c,if_pos rfl] at hF
      walk_at "WPN"
      rw [eU,x3]
      exact ⟨⟨_,aT aN⟩,⟨_,x2⟩,Y,⟨_,rfl⟩,by omega,_,hF,rfl⟩
     ·rintro s ⟨c,rfl⟩
      exact ⟨Y++[w],u.2.1,g,_,_,_,_,_,by rw [hX],by simp;omega,keep c,rfl⟩
    ·rintro s ⟨q,g,rfl⟩
     refine ⟨Y++[w],u.2.1,g,_,_,_,_,_,by rw [hX],by simp;omega,keep ?_,rfl⟩
     unfold gU
     rw [decide_eq_false (by omega),Bool.false_and]
  rintro ρ s ⟨V',lo,g,e,f,x,y,z,rfl,lV',hF,rfl⟩
  walk_at "WP"
  refine ⟨⟨_,aT aN⟩,by simp;omega,V'++[(u.1,lo,u.2.2)],g,_,_,_,_,_,_,_,_,_,?_,hF,rfl⟩
  rw [eU];simp
 unfold e8
 walk_at "WP"
 refine ⟨_,ad (aC hn),?_⟩
 refine gR Γm (LuI st n U) ⟨[],[],none,none,none,none,none,none,none,none,none,rfl,⟨fun d _=>rfl,Nat.le_refl _,fun u hu=>(nomatch hu)⟩,rfl⟩ ?_ ?_
 ·rintro i v ρ s hi ⟨V,g,a,b,c,d,e,f,x,y,z,rfl,hV,rfl⟩
  refine ⟨(aC hn).trans (aC hn).symm,?_⟩
  rw [List.getElem?_map] at hi
  obtain ⟨u,hu,rfl⟩:=Option.map_eq_some_iff.mp hi
  exact ⟨_,rfl,rfl,_,_,rfl,_,_,rfl,_,_,rfl,rfl,turn i u V g d e f x y z hu hV⟩
 ·rintro ρ s ⟨V,g,a,b,c,d,e,f,x,y,z,rfl,hV,rfl⟩
  refine ⟨(aC hn).trans (aC hn).symm,?_⟩
  walk_at "WP"
  rw [List.length_map] at hV
  refine .inl (k _ V _ aN (fun d hd=>?_) (by have:=hV.ln;omega))
  have:=hV.eq d hd
  rwa [List.take_length] at this
noncomputable abbrev qg:Tg:=(.name 6)
noncomputable abbrev ju:Ss:=(.cons (.set (.name 7) (.bin .Add (.bin .Add (.var 3) (.int 1)) (.call 30 (.cons (.var 0) (.cons (.ix (.tup (.cons (.int 3) (.cons (.int 9) (.cons (.bin .Pow (.int 10) (.int 9)) .nil)))) (.call 30 (.cons (.var 0) (.cons (.int 3) .nil)))) .nil))))) (.cons (.ifS (.bop true (.cons (.cmp .Eq (.var 6) (.int 0)) (.cons (.cmp .Eq (.call 30 (.cons (.var 0) (.cons (.int 4) .nil))) (.int 0)) .nil))) (.cons (.set (.name 7) (.int 0)) .nil) .nil) (.cons (.set (.name 8) (.comp (.var 0) (.name 0) (.seq (.var 1)) (.cons (.cmp .Gt (.var 0) (.var 1)) .nil) ["_law_hint"] [3])) (.cons (.ifS (.bop true (.cons (.cmp .NotEq (.var 8) (.lst .nil)) (.cons (.cmp .Eq (.call 30 (.cons (.var 0) (.cons (.int 2) .nil))) (.int 0)) .nil))) (.cons (.set (.name 7) (.ix (.var 8) (.call 30 (.cons (.var 0) (.cons (.blt .len (.cons (.var 8) .nil)) .nil))))) .nil) .nil) (.cons (.set (.name 9) (.bin .Add (.blt .max2 (.cons (.var 4) (.cons (.var 3) .nil))) (.tmp (.ix (.lst (.cons (.int 0) (.cons (.call 30 (.cons (.var 0) (.cons (.int 4) .nil))) (.cons (.call 30 (.cons (.var 0) (.cons (.bin .Pow (.int 10) (.int 9)) .nil))) .nil)))) (.call 30 (.cons (.var 0) (.cons (.int 3) .nil))))))) (.cons (.set (.name 10) (.bin .Add (.blt .max2 (.cons (.var 9) (.cons (.var 7) .nil))) (.tmp (.ix (.lst (.cons (.int 0) (.cons (.call 30 (.cons (.var 0) (.cons (.int 4) .nil))) (.cons (.call 30 (.cons (.var 0) (.cons (.bin .Pow (.int 10) (.int 9)) .nil))) .nil)))) (.call 30 (.cons (.var 0) (.cons (.int 3) .nil))))))) (.cons (.ifS (.cmp .Eq (.var 7) (.int 0)) (.cons (.set (.name 10) (.var 9)) .nil) .nil) (.cons (.expr (.met .append (.var 2) (.cons (.tup (.cons (.var 7) (.cons (.var 9) (.cons (.var 10) .nil)))) .nil))) (.cons (.set (.tup (.cons (.name 3) (.cons (.name 4) .nil))) (.tup (.cons (.var 7) (.cons (.var 10) .nil)))) .nil)))))))))
noncomputable abbrev jw:Ss:=(.cons (.ret (.var 2)) .nil)
noncomputable def RoI (st:AH) (p n:Nat) (W:Nat→Nat) (many:Nat) (m:Nat) (i:Nat) (ρ:Fr) (s:AH):Prop:=∃(U:List Un3) (b h:Nat) (x1 x2 x3 x4 x5:Option PV),Gr st p s∧s[m]?=some (.lst (U.map uV))∧RUF U∧U.length=i∧BdU (W i) U∧b≤W i∧h≤W i∧(∀v,U.getLast?=some v→b=v.1∧h=v.2.2)∧(U=[]→b=0∧h=0)∧ρ=[some (.ref p),some (.ref n),some (.ref m),some (.int b),some (.int h),some (.int many),x1,x2,x3,x4,x5]
theorem uk {x y:Int} {z:Int} (x0:0≤x) (x1:x<4) (y0:0≤y) (y1:y<1000000000) (z0:0≤z) (z1:z<([PV.int 0,PV.int x,PV.int y].length:Nat)):∃w:Nat,atI [PV.int 0,PV.int x,PV.int y] z=some (.int w)∧w≤10 ^ 9:=by
 obtain ⟨v,ev,w,rfl,w1⟩:=u9 (L:=[PV.int 0,PV.int x,PV.int y]) (P:=fun v=>∃w:Nat,v=.int w∧w≤10 ^ 9) (fun v hv=>by
  simp only [List.mem_cons,List.not_mem_nil,or_false] at hv
  rcases hv with rfl|rfl|rfl
  ·exact ⟨0,rfl,by decide⟩
  ·exact ⟨x.toNat,by congr 1;omega,by omega⟩
  ·exact ⟨y.toNat,by congr 1;omega,by omega⟩) z0 z1
 exact ⟨w,ev,w1⟩
theorem xW {as st Q} (h:eG as st Q):au Γ fK (frame 11 as) st (af st Q):=by
 obtain ⟨p,n,hs,B,rfl,hp,hnp,hn,hB,lh,B1,k⟩:=h
 have pl:=hp.lt
 have mne:st.length≠p:=by omega
 obtain ⟨W,hW⟩:∃W:Nat→Nat,∀i,W i=B+2*10 ^ 9*i:=⟨_,fun _=>rfl⟩
 obtain ⟨c9,hc9⟩:∃c:Nat,c=10 ^ 9:=⟨_,rfl⟩
 have turn:∀(many i:Nat) (ρ:Fr) (s:AH),i<many→many≤20→RoI st p n W many st.length i ρ s→au Γ ju (ρ.set 6 (some (.int i))) s (LD (RoI st p n W many st.length (i+1)) (aft Γ jw (af st Q))):=by
  rintro many i ρ s hi hm ⟨U,b,hh,y1,y2,y3,y4,y5,G,hu,hU,lU,bU,bb,bh,last,emp,rfl⟩
  have w0:=hW i
  have w1:=hW (i+1)
  refine gG (fun ρ s=>∃e:Nat,b<e∧e≤b+c9∧Gr st p s∧s[st.length]?=some (.lst (U.map uV))∧ρ=[some (.ref p),some (.ref n),some (.ref st.length),some (.int b),some (.int hh),some (.int many),some (.int i),some (.int e),y3,y4,y5]) ?_ ?_
  ·walk_at "WPN"
   refine ⟨Hz,p,3,rfl,G.pot,by decide,by decide,fun z s1 z0 z1 g1=>?_⟩
   obtain ⟨v,ev,far,rfl,f0,f1⟩:=u9 (L:=[PV.int 3,PV.int 9,PV.int 1000000000]) (P:=fun v=>∃d:Nat,v=.int d∧0<d∧d≤10 ^ 9) (fun v hv=>by
    simp only [List.mem_cons,List.not_mem_nil,or_false] at hv
    rcases hv with rfl|rfl|rfl
    ·exact ⟨3,rfl,by decide,by decide⟩
    ·exact ⟨9,rfl,by decide,by decide⟩
    ·exact ⟨_,rfl,by decide,by decide⟩) z0 z1
   walk_at "WP"
   refine ⟨_,ev,p,_,rfl,g1.pot,by omega,by omega,fun x s2 x0 x1 g2=>?_⟩
   walk_at "WP"
   exact ⟨b+1+x.toNat,by omega,by omega,(G.trans g1).trans g2,g2.get (g1.get hu mne) mne,by omega⟩
  rintro ρ s ⟨e,e1,e2,G,hu,rfl⟩
  refine gG (fun ρ s=>∃e:Nat,((e=0∧i=0)∨b<e∧e≤b+c9)∧Gr st p s∧s[st.length]?=some (.lst (U.map uV))∧ρ=[some (.ref p),some (.ref n),some (.ref st.length),some (.int b),some (.int hh),some (.int many),some (.int i),some (.int e),y3,y4,y5]) ?_ ?_
  ·walk_at "WPN"
   by_cases c:i=0
   ·rw [if_pos (by omega)]
    refine ⟨p,4,rfl,G.pot,by decide,by decide,fun z s1 z0 z1 g1=>?_⟩
    walk_at "WP"
    by_cases c2:z=0
    ·rw [if_pos c2]
     exact ⟨0,.inl ⟨rfl,c⟩,G.trans g1,g1.get hu mne,rfl⟩
    ·rw [if_neg c2]
     exact ⟨e,.inr ⟨e1,e2⟩,G.trans g1,g1.get hu mne,rfl⟩
   ·rw [if_neg (by omega)]
    exact ⟨e,.inr ⟨e1,e2⟩,G,hu,rfl⟩
  clear e1 e2 e
  rintro ρ s ⟨e,e1,G,hu,rfl⟩
  have hn':s[n]?=some (.lst (hs.map iV)):=G.get hn hnp
  refine gG (fun ρ s=>∃(l:Nat) (hs':List Nat),l≠p∧s[l]?=some (.lst (hs'.map iV))∧(∀h∈hs',b<h∧h≤B)∧hs'.length≤200∧Gr st p s∧s[st.length]?=some (.lst (U.map uV))∧ρ=[some (.ref p),some (.ref n),some (.ref st.length),some (.int b),some (.int hh),some (.int many),some (.int i),some (.int e),some (.ref l),y4,y5]) ?_ ?_
  ·walk_at "WPN"
   refine ⟨_,ad hn',by simp;omega,?_⟩
   refine jb Γm (fun j acc s'=>s'=s∧∃hs':List Nat,acc=hs'.map iV∧(∀h∈hs',b<h∧h≤B)∧hs'.length≤j) ⟨rfl,[],rfl,fun h hh=>(nomatch hh),Nat.le_refl _⟩ ?_ ?_
   ·rintro j x acc s' hx ⟨rfl,hs',rfl,hq,lq⟩
    refine ⟨rfl,?_⟩
    rw [List.getElem?_map] at hx
    obtain ⟨y,hy,rfl⟩:=Option.map_eq_some_iff.mp hx
    walk_at "WP"
    refine dl (fun c=>?_) fun c=>?_
    ·refine ⟨hs'++[y],by simp,fun h hh=>?_,by simp;omega⟩
     rcases List.mem_append.mp hh with hh|hh
     ·exact hq h hh
     ·rw [List.mem_singleton] at hh
      rw [hh]
      exact ⟨by omega,hB y (List.mem_of_getElem? hy)⟩
    ·exact ⟨hs',rfl,hq,by omega⟩
   ·rintro acc s' ⟨rfl,hs',rfl,hq,lq⟩
    refine ⟨rfl,?_⟩
    rw [List.length_map] at lq
    exact ⟨_,G.ne,hs',aA,hq,by omega,G.app,aC hu,rfl⟩
  rintro ρ s ⟨l,hs',lne,hl,hq,lq,G,hu,rfl⟩
  refine gG (fun ρ s=>∃e:Nat,((e=0∧i=0)∨b<e∧e≤W i+c9)∧Gr st p s∧s[st.length]?=some (.lst (U.map uV))∧ρ=[some (.ref p),some (.ref n),some (.ref st.length),some (.int b),some (.int hh),some (.int many),some (.int i),some (.int e),some (.ref l),y4,y5]) ?_ ?_
  ·walk_at "WPN"
   have keep:∀s',Gr st p s'→s'[st.length]?=some (.lst (U.map uV))→∃e':Nat,((e'=0∧i=0)∨b<e'∧e'≤W i+c9)∧Gr st p s'∧s'[st.length]?=some (.lst (U.map uV))∧(e:Int)=e':=fun s' G' hu'=>⟨e,by omega,G',hu',rfl⟩
   refine fG (xs:=hs'.map iV) (aC hl) aA (eW fun v hv=>by obtain ⟨w,_,rfl⟩:=List.mem_map.mp hv;rfl) ?_
   cases hs' with
   | nil =>
    rw [if_neg (by simp)]
    exact keep _ G.app (aC hu)
   | cons h0 hs' =>
    rw [if_pos (by simp)]
    refine ⟨p,2,rfl,G.pot.app,by decide,by decide,fun z s1 z0 z1 g1=>?_⟩
    have G1:=G.app.trans g1
    have hu1:=g1.get (aC hu) mne
    have hl1:=g1.get (aC hl) lne
    walk_at "WP"
    refine dl (fun c=>?_) fun c=>keep _ G1 hu1
    refine ⟨_,ad hl1,p,_,rfl,G1.pot,(by first|(simp;done)|(simp;omega)),by simp at lq ⊢;omega,fun y s2 y0 y1 g2=>?_⟩
    obtain ⟨v,ev,w,rfl,w1⟩:=u9 (L:=(h0::hs').map iV) (P:=fun v=>∃d:Nat,v=.int d∧(b<d∧d≤B)) (fun v hv=>by
     obtain ⟨w,hw,rfl⟩:=List.mem_map.mp hv
     exact ⟨w,rfl,hq w hw⟩) y0 y1
    walk_at "WP"
    exact ⟨_,ad (g2.get hl1 lne),_,ev,w,by omega,G1.trans g2,g2.get hu1 mne,rfl⟩
  clear e1 e
  rintro ρ s ⟨e,e1,G,hu,rfl⟩
  refine gG (fun ρ s=>∃lo:Nat,hh≤lo∧b≤lo∧lo≤W i+c9∧Gr st p s∧s[st.length]?=some (.lst (U.map uV))∧ρ=[some (.ref p),some (.ref n),some (.ref st.length),some (.int b),some (.int hh),some (.int many),some (.int i),some (.int e),some (.ref l),some (.int lo),y5]) ?_ ?_
  ·walk_at "WPN"
   refine ⟨p,4,rfl,G.pot,by decide,by decide,fun x s1 x0 x1 g1=>?_⟩
   walk_at "WP"
   refine ⟨Hz,p,_,rfl,g1.pot,by decide,by decide,fun y s2 y0 y1 g2=>?_⟩
   walk_at "WP"
   refine ⟨p,3,rfl,g2.pot.app,by decide,by decide,fun z s3 z0 z1 g3=>?_⟩
   obtain ⟨w,ew,w1⟩:=uk x0 x1 y0 y1 z0 z1
   walk_at "WP"
   refine ⟨_,ad (g3.get aA g2.ne),_,ew,?_⟩
   refine ((g1.trans g2).app.trans g3).tmp rfl fun s4 g4 _=>?_
   obtain ⟨M,eM,M1,M2,M3⟩:=FA hh b
   walk_at "WP"
   rw [eM]
   exact ⟨M+w,by omega,by omega,by omega,G.trans g4,g4.get hu mne,by omega⟩
  rintro ρ s ⟨lo,l1,l2,l3,G,hu,rfl⟩
  refine gG (fun ρ s=>∃hi:Nat,lo≤hi∧e≤hi∧hi≤W i+2*c9∧Gr st p s∧s[st.length]?=some (.lst (U.map uV))∧ρ=[some (.ref p),some (.ref n),some (.ref st.length),some (.int b),some (.int hh),some (.int many),some (.int i),some (.int e),some (.ref l),some (.int lo),some (.int hi)]) ?_ ?_
  ·walk_at "WPN"
   refine ⟨p,4,rfl,G.pot,by decide,by decide,fun x s1 x0 x1 g1=>?_⟩
   walk_at "WP"
   refine ⟨Hz,p,_,rfl,g1.pot,by decide,by decide,fun y s2 y0 y1 g2=>?_⟩
   walk_at "WP"
   refine ⟨p,3,rfl,g2.pot.app,by decide,by decide,fun z s3 z0 z1 g3=>?_⟩
   obtain ⟨w,ew,w1⟩:=uk x0 x1 y0 y1 z0 z1
   walk_at "WP"
   refine ⟨_,ad (g3.get aA g2.ne),_,ew,?_⟩
   refine ((g1.trans g2).app.trans g3).tmp rfl fun s4 g4 _=>?_
   obtain ⟨M,eM,M1,M2,M3⟩:=FA lo e
   walk_at "WP"
   rw [eM]
   exact ⟨M+w,by omega,by omega,by omega,G.trans g4,g4.get hu mne,by omega⟩
  rintro ρ s ⟨hi,h1,h2,h3,G,hu,rfl⟩
  refine gG (fun ρ s=>∃hi:Nat,lo≤hi∧e≤hi∧(e=0→lo=hi)∧hi≤W i+2*c9∧Gr st p s∧s[st.length]?=some (.lst (U.map uV))∧ρ=[some (.ref p),some (.ref n),some (.ref st.length),some (.int b),some (.int hh),some (.int many),some (.int i),some (.int e),some (.ref l),some (.int lo),some (.int hi)]) ?_ ?_
  ·walk_at "WPN"
   refine dl (fun c=>?_) fun c=>?_
   ·exact ⟨lo,by omega,by omega,fun _=>rfl,by omega,G,hu,rfl⟩
   ·exact ⟨hi,h1,h2,fun z=>by omega,h3,G,hu,rfl⟩
  clear h1 h2 h3 hi
  rintro ρ s ⟨hi,h1,h2,h4,h3,G,hu,rfl⟩
  walk_at "WP"
  have app:App U (e,lo,hi):=⟨fun _=>⟨h1,h2,h4⟩,fun v hv=>by
   obtain ⟨z1,z2⟩:=last v hv
   have:U≠[]:=fun z=>by rw [z] at hv;cases hv
   have:i≠0:=fun z=>this (List.length_eq_zero_iff.mp (lU.trans z))
   exact ⟨by dsimp only;omega,by dsimp only;omega,h1,h2⟩⟩
  refine ⟨⟨_,aT hu⟩,_,hu,by simp;omega,U++[(e,lo,hi)],e,hi,_,_,_,_,_,G.setN (Nat.le_refl _),?_,Fa hU app,by simp;omega,fun w hw=>?_,by omega,by omega,fun v hv=>?_,fun z=>by simp at z,rfl⟩
  ·rw [List.getElem?_set_self (cW hu)];simp
  ·rcases List.mem_append.mp hw with hw|hw
   ·have:=bU w hw;omega
   ·rw [List.mem_singleton] at hw
    rw [hw]
    exact ⟨by dsimp only;omega,by dsimp only;omega,by dsimp only;omega⟩
  ·rw [List.getLast?_concat] at hv
   cases hv
   exact ⟨rfl,rfl⟩
 have loop:∀(many:Nat) (s:AH),many≤20→Gr st p s→s[st.length]?=some (.lst [])→GA Γ qg ju (fun _=>True) (aft Γ jw (af st Q)) (eP 0 (many:Int).toNat) [some (.ref p),some (.ref n),some (.ref st.length),some (.int 0),some (.int 0),some (.int many),none,none,none,none,none] s:=by
  intro many s hm G hs
  refine gR Γm (RoI st p n W many st.length) ⟨[],0,0,_,_,_,_,_,G,hs,trivial,rfl,fun u hu=>(nomatch hu),by omega,by omega,fun v hv=>(nomatch hv),fun _=>⟨rfl,rfl⟩,rfl⟩ ?_ ?_
  ·rintro i v ρ s hi I
   obtain ⟨rfl,hi'⟩:=nu hi
   refine ⟨trivial,?_⟩
   exact turn many i ρ s hi' hm I
  ·rintro ρ s ⟨U,b,hh,y1,y2,y3,y4,y5,G,hu,hU,lU,bU,bb,bh,last,emp,rfl⟩
   refine ⟨trivial,?_⟩
   have hl':(eP 0 (many:Int).toNat).length=many:=by simp [eP]
   rw [hl'] at lU bU
   have w0:=hW many
   walk_at "WP"
   exact .inl (k U _ _ G (Nat.le_refl _) hu hU (by omega) fun u hu=>by have:=bU u hu;omega)
 unfold fK
 walk_at "WP"
 refine ⟨p,7,rfl,hp.app,by decide,by decide,fun y s1 y0 y1 g1=>?_⟩
 refine ⟨p,8,rfl,g1.pot,by decide,by decide,fun z s2 z0 z1 g2=>?_⟩
 have G2:=(Gr.refl hp).app.trans (g1.trans g2)
 have hs2:=g2.get (g1.get aA mne) mne
 walk_at "WP"
 refine dl (fun c=>?_) fun c=>?_
 ·refine ⟨p,14,rfl,g2.pot,by decide,by decide,fun w s3 w0 w1 g3=>?_⟩
  walk_at "WP"
  obtain ⟨m,hm⟩:∃m:Nat,7+w=m:=⟨(7+w).toNat,by omega⟩
  rw [hm]
  exact ⟨by omega,by omega,loop m s3 (by omega) (G2.trans g3) (g3.get hs2 mne)⟩
 ·obtain ⟨m,hm⟩:∃m:Nat,y=m:=⟨y.toNat,by omega⟩
  subst hm
  exact ⟨by omega,by omega,loop m s2 (by omega) G2 hs2⟩
noncomputable def tau (b:Rat) (p:Pc) (y:Rat):Rat:=b+(p.E-b)*((y-p.L)/(p.H-p.L))
noncomputable def xat (b:Rat) (p:Pc) (t:Rat):Rat:=p.L+(p.H-p.L)*((t-b)/(p.E-b))
theorem Ch.cutE {y:Rat}:∀ {L:List Pc} {b:Rat},Ch b L→∃k,k≤L.length∧(∀(i:Nat) p,L[i]?=some p→i<k→p.E≤y)∧∀(i:Nat) p,L[i]?=some p→k≤i→y<p.E
 | [],b,_=>⟨0,Nat.le_refl _,fun i p e=>by simp at e,fun i p e=>by simp at e⟩
 | p::r,b,⟨h1,h2,h3,h4⟩=>by
  by_cases q:p.E≤y
  ·obtain ⟨k,k1,k2,k3⟩:=h4.cutE (y:=y)
   refine ⟨k+1,by simp;omega,fun i p' e h=>?_,fun i p' e h=>?_⟩
   ·cases i with
    | zero=>cases e;exact q
    | succ i=>exact k2 i p' (by simpa using e) (by omega)
   ·cases i with
    | zero=>omega
    | succ i=>exact k3 i p' (by simpa using e) (by omega)
  ·refine ⟨0,Nat.zero_le _,fun i p _ h=>absurd h (Nat.not_lt_zero _),fun i p' e _=>?_⟩
   cases i with
   | zero=>cases e;grind
   | succ i =>
    have:∀ {r:List Pc} {b:Rat} {i:Nat} {p':Pc},Ch b r→r[i]?=some p'→b<p'.E:=by
     intro r
     induction r with
     | nil=>intro b i p' _ e;simp at e
     | cons a r ih =>
      intro b i p' ⟨g1,g2,g3,g4⟩ e
      cases i with
      | zero=>cases e;exact g2
      | succ i=>have:=ih g4 (by simpa using e);grind
    have:=this h4 (by simpa using e)
    grind
theorem RtF.cutE {L:List Pc} {y:Rat} (h:RtF L):∃k,k≤L.length∧(∀(i:Nat) p,L[i]?=some p→i<k→p.E≤y)∧∀(i:Nat) p,L[i]?=some p→k≤i→y<p.E:=by
 cases L with
 | nil=>exact ⟨0,Nat.le_refl _,fun i p e=>by simp at e,fun i p e=>by simp at e⟩
 | cons a r=>exact Ch.cutE (b:=a.E-1) ⟨h.1,by grind,h.2.1,h.2.2.2.2.ch⟩
structure ThI (M:List Pc) (b:Rat) (p:Pc) (n:Nat) (a:Rat) (R:List Pc):Prop where
 ch:Ch b R
 en:∀q∈R,q.E≤tau b p a
 ls:lQ b R=tau b p a
 al:p.L≤a
 ah:a≤p.H
 bo:a=p.H∨val (bg M n)≤a
 nx:∀q,M[n]?=some q→a<p.H→a<q.E
 co:∀t,b<t→t≤tau b p a→cm b R t=cm 0 M (xat b p t)
theorem yE {M:List Pc} (hM:RtF M):∀q∈M,q.E≤val (bg M M.length):=by
 intro q hq
 rcases dB M with rfl|⟨Y,c,rfl⟩
 ·cases hq
 ·have hc:(Y++[c])[Y.length]?=some c:=by simp
  rw [show (Y++[c]).length=Y.length+1 by simp,bgS hc]
  obtain ⟨k,k1,k2,k3⟩:=hM.cutE (y:=c.E)
  obtain ⟨i,hi⟩:=List.getElem?_of_mem hq
  have il:=(List.getElem?_eq_some_iff.mp hi).1
  have:Y.length<k:=by
   refine Classical.byContradiction fun z=>?_
   have:=k3 Y.length c hc (by omega)
   grind
  exact k2 i q hi (by simp at il;omega)
theorem Fn {T:List (Nat × Nat)} {x:Nat × Nat} (h:T.Pairwise fun a b=>val a<val b) (hx:∀t,T.getLast?=some t→val t<val x):(T++[x]).Pairwise fun a b=>val a<val b:=by
 rw [List.pairwise_append]
 refine ⟨h,by simp,fun a ha b hb=>?_⟩
 rw [List.mem_singleton] at hb
 rw [hb]
 rcases dB T with rfl|⟨Y,c,rfl⟩
 ·cases ha
 ·have l:=hx c (by simp)
  rcases List.mem_append.mp ha with ha|ha
  ·have:=(List.pairwise_append.mp h).2.2 a ha c (by simp)
   grind
  ·rw [List.mem_singleton] at ha;rw [ha];exact l
structure MgI (T1 T2 Z:List (Nat × Nat)) (i j:Nat):Prop where
 sr:Z.Pairwise fun a b=>val a<val b
 mem:∀t,t∈Z↔t∈T1.take i∨t∈T2.take j
 l1:∀z∈Z,∀t∈T1.drop i,val z≤val t
 l2:∀z∈Z,∀t∈T2.drop j,val z≤val t
 ln:Z.length≤i+j
theorem sT {T:List (Nat × Nat)} (h:T.Pairwise fun a b=>val a<val b) {i:Nat} {x:Nat × Nat} (hx:T[i]?=some x):∀t∈T.drop i,val x≤val t:=by
 intro t ht
 have il:=(List.getElem?_eq_some_iff.mp hx).1
 rw [List.drop_eq_getElem_cons il,(List.getElem?_eq_some_iff.mp hx).2] at ht
 have hd:=List.Pairwise.sublist (List.drop_sublist i T) h
 rw [List.drop_eq_getElem_cons il,(List.getElem?_eq_some_iff.mp hx).2,List.pairwise_cons] at hd
 rcases List.mem_cons.mp ht with rfl|ht
 ·exact Rat.le_refl
 ·exact Rat.le_of_lt (hd.1 t ht)
theorem MgI.step {T1 T2 Z:List (Nat × Nat)} {i j:Nat} {x:Nat × Nat} (h:MgI T1 T2 Z i j) (s1:T1.Pairwise fun a b=>val a<val b) (c1:∀t∈T1,Cop t) (c2:∀t∈T2,Cop t) (hx:T1[i]?=some x) (h2:∀t∈T2.drop j,val x≤val t) :
  MgI T1 T2 (if Z.getLast?=some x then Z else Z++[x]) (i+1) j:=by
 have il:=(List.getElem?_eq_some_iff.mp hx).1
 have ed:T1.drop i=x::T1.drop (i+1):=by rw [List.drop_eq_getElem_cons il,(List.getElem?_eq_some_iff.mp hx).2]
 have et:T1.take (i+1)=T1.take i++[x]:=by rw [List.take_succ,hx];rfl
 have hd:=sT s1 hx
 have sub:∀t∈T1.drop (i+1),t∈T1.drop i:=fun t ht=>by rw [ed];exact List.mem_cons_of_mem _ ht
 have zx:∀z∈Z,val z≤val x:=fun z hz=>h.l1 z hz x (by rw [ed];simp)
 by_cases e:Z.getLast?=some x
 ·rw [if_pos e]
  have xm:=List.mem_of_getLast? e
  refine ⟨h.sr,fun t=>?_,fun z hz t ht=>h.l1 z hz t (sub t ht),h.l2,by have:=h.ln;omega⟩
  rw [h.mem,et,List.mem_append,List.mem_singleton]
  constructor
  ·rintro (a|a)
   ·exact .inl (.inl a)
   ·exact .inr a
  ·rintro ((a|a)|a)
   ·exact .inl a
   ·rw [a];exact (h.mem x).mp xm
   ·exact .inr a
 ·rw [if_neg e]
  refine ⟨Fn h.sr fun t ht=>?_,fun t=>?_,fun z hz t ht=>?_,fun z hz t ht=>?_,by have:=h.ln;simp;omega⟩
  ·have tm:=List.mem_of_getLast? ht
   have le:=zx t tm
   have ne:val t≠val x:=fun q=>by
    have ct:Cop t:=by
     rcases (h.mem t).mp tm with a|a
     ·exact c1 t (List.mem_of_mem_take a)
     ·exact c2 t (List.mem_of_mem_take a)
    exact e (by rw [ht,b_ ct (c1 x (List.mem_of_getElem? hx)) q])
   grind
  ·rw [List.mem_append,h.mem,et,List.mem_append,List.mem_singleton]
   constructor
   ·rintro ((a|a)|a)
    ·exact .inl (.inl a)
    ·exact .inr a
    ·exact .inl (.inr a)
   ·rintro ((a|a)|a)
    ·exact .inl (.inl a)
    ·exact .inr a
    ·exact .inl (.inr a)
  ·rcases List.mem_append.mp hz with hz|hz
   ·exact h.l1 z hz t (sub t ht)
   ·rw [List.mem_singleton] at hz;rw [hz];exact hd t (sub t ht)
  ·rcases List.mem_append.mp hz with hz|hz
   ·exact h.l2 z hz t ht
   ·rw [List.mem_singleton] at hz;rw [hz];exact h2 t ht
theorem MgI.swap {T1 T2 Z:List (Nat × Nat)} {i j:Nat} (h:MgI T1 T2 Z i j):MgI T2 T1 Z j i:=⟨h.sr,fun t=>(h.mem t).trans or_comm,h.l2,h.l1,by have:=h.ln;omega⟩
noncomputable def MgW (st:AH) (k n m:Nat) (T1 T2:List (Nat × Nat)) (q:Nat) (ρ:Fr) (s:AH):Prop:=∃(Z:List (Nat × Nat)) (i j:Nat) (g:AH) (x:Option PV),q=T1.length+T2.length-(i+j)∧i≤T1.length∧j≤T2.length∧s=st++.lst (Z.map fr)::g∧MgI T1 T2 Z i j∧ρ=[some (.ref n),some (.ref m),some (.ref st.length),some (.int i),some (.int j),x]
theorem Co {X:List (Nat × Nat)}:cO 5 (X.map fr)=true:=eW fun v hv=>by
 obtain ⟨w,_,rfl⟩:=List.mem_map.mp hv
 rfl
noncomputable def fP (S:List Pc) (i:Nat) (p:Pc) (x:Rat):Rat:=if val (bg S i)=p.E then p.L else p.L+(p.H-p.L)*((x-val (bg S i))/(p.E-val (bg S i)))
theorem Fb {S:List Pc} {i:Nat} {p:Pc} (h:val (bg S i)<p.E):∃s,∀x,fP S i p x=p.L+s*(x-val (bg S i)):=by
 obtain ⟨s,hs⟩:=Sl.ex (p:=p) h
 refine ⟨s,fun x=>?_⟩
 unfold fP
 rw [if_neg (by grind),pcf h hs]
theorem yK {S:List Pc} {i:Nat} {p:Pc} {a e:Rat} {c:Two} (hS:RtF S) (hp:S[i]?=some p) (ha:val (bg S i)≤a) (ae:a≤e) (he:e≤p.E) (h0:i=0∨val (bg S i)<e) (c1:Cop c.1) (c2:Cop c.2) (v1:val c.1=fP S i p a) (v2:val c.2=fP S i p e):SegOk S a e c:=by
 obtain ⟨pok,p1,p2⟩:=hS.at_ hp
 refine ⟨c1,c2,?_,by rw [yt hS hp h0 he,v2];rfl,fun q=>b_ c1 c2 (by rw [v1,v2,q]),fun t t1 t2=>?_⟩
 ·rw [v1,v2]
  by_cases z:val (bg S i)=p.E
  ·unfold fP;rw [if_pos z,if_pos z];exact Rat.le_refl
  ·unfold fP
   rw [if_neg z,if_neg z]
   exact pp (by grind) ha ae he p1
 ·have lt:val (bg S i)<p.E:=by grind
  obtain ⟨s,hs⟩:=Fb lt
  have e1:cm 0 S t=some (fP S i p t):=by rw [yt hS hp (.inr (by grind)) (by grind)];rfl
  rw [e1,v1,v2,hs,hs,hs]
  congr 1
  have:e-a≠0:=by grind
  grind
theorem Ends.lt {k:Nat} {T:List (Nat × Nat)} (h:Ends k T) {i j:Nat} {a b:Nat × Nat} (hi:T[i]?=some a) (hj:T[j]?=some b) (lt:i<j):val a<val b:=by
 obtain ⟨h1,e1⟩:=List.getElem?_eq_some_iff.mp hi
 obtain ⟨h2,e2⟩:=List.getElem?_eq_some_iff.mp hj
 have:=List.pairwise_iff_getElem.mp h.sr i j h1 h2 lt
 rw [e1,e2] at this
 exact this
theorem mS {T:List (Nat × Nat)} {i:Nat} {t:Nat × Nat} (h:T[i]?=some t):bgT T (i+1)=t:=by show (T[i]?).getD (0,1)=t;rw [h];rfl
structure CutI (S:List Pc) (T:List (Nat × Nat)) (z:Nat) (i:Nat) (C:List (Option Two)):Prop where
 cnt:∀(k:Nat) t,T[k]?=some t→(k<C.length↔i≠0∧val t≤val (bg S i))
 ok:∀(k:Nat) c,C[k]?=some c→mG S z (val (bgT T k)) (val (bgT T (k+1))) c
 ln:C.length≤T.length
structure CutJ (S:List Pc) (T:List (Nat × Nat)) (z:Nat) (i:Nat) (p:Pc) (C:List (Option Two)) (lo:Nat × Nat):Prop where
 ge:val (bg S i)≤val (bgT T C.length)
 lov:val lo=fP S i p (val (bgT T C.length))
 nx:∀(k:Nat) t,T[k]?=some t→C.length≤k→i=0∨val (bg S i)<val t
 pr:∀(k:Nat) t,T[k]?=some t→k<C.length→val t≤p.E
 ok:∀(k:Nat) c,C[k]?=some c→mG S z (val (bgT T k)) (val (bgT T (k+1))) c
 ln:C.length≤T.length
theorem CutI.start {S:List Pc} {T:List (Nat × Nat)} {z i j:Nat} {p:Pc} {C:List (Option Two)} (h:CutI S T z i C) (hS:RtF S) (hE:Ends j T) (hp:S[i]?=some p) (hin:∀p∈S,p.e∈T):CutJ S T z i p C p.l:=by
 obtain ⟨n1,n2,n3,n4⟩:=nb hS hp
 have eb:val (bgT T C.length)=val (bg S i):=by
  cases i with
  | zero =>
   have:C.length=0:=Classical.byContradiction fun q=>by
    have hl:0<T.length:=by have:=h.ln;omega
    have:=(h.cnt 0 T[0] (List.getElem?_eq_getElem hl)).mp (by omega)
    exact this.1 rfl
   rw [this]
   rfl
  | succ i =>
   have il:=(List.getElem?_eq_some_iff.mp hp).1
   have ha:S[i]?=some S[i]:=List.getElem?_eq_getElem (by omega)
   obtain ⟨k0,hk0⟩:=List.getElem?_of_mem (hin S[i] (List.getElem_mem _))
   rw [bgS ha]
   have k1:k0<C.length:=(h.cnt k0 _ hk0).mpr ⟨by omega,by rw [bgS ha];exact Rat.le_refl⟩
   have hl:C.length-1<T.length:=by have:=h.ln;omega
   have hk:=List.getElem?_eq_getElem hl
   have le:=((h.cnt (C.length-1) _ hk).mp (by omega)).2
   rw [bgS ha] at le
   have e:bgT T C.length=T[C.length-1]:=by
    have:=mS hk
    rwa [Nat.sub_add_cancel (by omega)] at this
   rw [e]
   by_cases q:k0=C.length-1
   ·subst q
    rw [hk] at hk0
    rw [Option.some.inj hk0]
   ·have:=hE.lt hk0 hk (by omega)
    grind
 refine ⟨by rw [eb];exact Rat.le_refl,?_,fun k t hk hC=>?_,fun k t hk hC=>?_,h.ok,h.ln⟩
 ·rw [eb]
  unfold fP
  by_cases q:val (bg S i)=p.E
  ·rw [if_pos q]
  ·rw [if_neg q]
   show val p.l=val p.l+_
   grind
 ·by_cases q:i=0
  ·exact .inl q
  ·right
   have:=(h.cnt k t hk)
   have:¬(i≠0∧val t≤val (bg S i)):=fun w=>by have:=this.mpr w;omega
   grind
 ·have:=((h.cnt k t hk).mp hC).2
  grind
theorem CutJ.step {S:List Pc} {T:List (Nat × Nat)} {z i j:Nat} {p:Pc} {C:List (Option Two)} {lo hi t:Nat × Nat} (h:CutJ S T z i p C lo) (hS:RtF S) (hE:Ends j T) (hp:S[i]?=some p) (ht:T[C.length]?=some t) (le:val t≤p.E) (t0:T[0]?=some (0,1)) (cl:Cop lo) (ch:Cop hi) (zl:Sz z lo) (zh:Sz z hi) (hv:val hi=fP S i p (val t)):CutJ S T z i p (C++[some (lo,hi)]) hi:=by
 have il:=(List.getElem?_eq_some_iff.mp ht).1
 have eb:bgT T (C.length+1)=t:=mS ht
 have le1:val (bgT T C.length)≤val t:=by
  cases e:C.length with
  | zero=>rw [e,t0] at ht;cases ht;exact Rat.le_refl
  | succ k =>
   rw [e] at ht
   have hk:T[k]?=some T[k]:=List.getElem?_eq_getElem (by omega)
   rw [mS hk]
   exact Rat.le_of_lt (hE.lt hk ht (by omega))
 have ln:(C++[some (lo,hi)]).length=C.length+1:=by simp
 have nx:=h.nx C.length t ht (Nat.le_refl _)
 refine ⟨?_,by rw [ln,eb];exact hv,fun k u hu hk=>h.nx k u hu (by omega),fun k u hu hk=>?_,fun k c hc=>?_,by omega⟩
 ·rw [ln,eb]
  have:=h.ge
  grind
 ·by_cases q:k<C.length
  ·exact h.pr k u hu q
  ·have:k=C.length:=by omega
   subst this
   rw [ht] at hu
   cases hu
   exact le
 ·by_cases q:k<C.length
  ·rw [List.getElem?_append_left q] at hc
   exact h.ok k c hc
  ·have hk:k=C.length:=by
    have:=(List.getElem?_eq_some_iff.mp hc).1
    omega
   subst hk
   have:c=some (lo,hi):=by simpa using hc.symm
   subst this
   rw [eb]
   exact ⟨yK hS hp h.ge le1 le nx cl ch h.lov hv,zl,zh⟩
theorem CutJ.done {S:List Pc} {T:List (Nat × Nat)} {z i j:Nat} {p:Pc} {C:List (Option Two)} {lo:Nat × Nat} (h:CutJ S T z i p C lo) (hE:Ends j T) (hp:S[i]?=some p) (hx:∀t,T[C.length]?=some t→p.E<val t):CutI S T z (i+1) C:=by
 refine ⟨fun k t hk=>?_,h.ok,h.ln⟩
 rw [bgS hp]
 constructor
 ·intro q
  exact ⟨by omega,h.pr k t hk q⟩
 ·rintro ⟨_,q⟩
  refine Classical.byContradiction fun w=>?_
  have il:=(List.getElem?_eq_some_iff.mp hk).1
  have hC:=List.getElem?_eq_getElem (show C.length<T.length by omega)
  have:=hx _ hC
  by_cases e:k=C.length
  ·subst e
   rw [hC] at hk
   cases hk
   grind
  ·have:=hE.lt hC hk (by omega)
   grind
set_option Elab.async false
set_option linter.all false
set_option maxRecDepth 100000
set_option maxHeartbeats 4000000
open PySem L2 HX FW
theorem AX {S:AH} {n:Nat} {c:Cell} (h:S[n]?=some c):S.set n c=S:=by
 refine List.ext_getElem? fun i=>?_
 by_cases e:n=i
 ·subst e
  rw [List.getElem?_set_self (cW h),h]
 ·rw [List.getElem?_set_ne e]
theorem xw:∀ {L:List Pc} {b:Rat} {p:Pc},p∈L→∃y,cm b L p.E=some y
 | a::r,b,p,h=>by
  rw [cm]
  by_cases q:p.E≤a.E
  ·rw [if_pos q];exact ⟨_,rfl⟩
  ·rw [if_neg q]
   rcases List.mem_cons.mp h with rfl|h
   ·exact absurd Rat.le_refl q
   ·exact xw h
theorem FZ {T:List (Nat × Nat)} {k i:Nat} (h:Ends k T) (h1:1≤k) (hi:i≤T.length):Cop (bgT T i)∧Sz k (bgT T i):=by
 cases i with
 | zero =>
  show Cop (0,1)∧Sz k (0,1)
  exact ⟨mH,Nat.pow_pos (by decide),Nat.one_lt_two_pow (by omega),by decide⟩
 | succ i =>
  rw [mS (List.getElem?_eq_getElem (show i<T.length by omega))]
  exact h.ok _ (List.getElem_mem _)
theorem Ch.le {b b':Rat} (h:b'≤b):∀ {R:List Pc},Ch b R→Ch b' R
 | [],_=>trivial
 | p::r,⟨h1,h2,h3,h4⟩=>⟨h1,by grind,h3,h4⟩
theorem Ch.app {b:Rat} {R:List Pc} (hR:Ch b R):∀ {X:List Pc} {b0:Rat},Ch b0 X→lQ b0 X≤b→Ch b0 (X++R)
 | [],b0,_,h=>hR.le h
 | p::r,b0,⟨h1,h2,h3,h4⟩,h=>⟨h1,h2,h3,Ch.app hR h4 (by rw [lI] at h;exact h)⟩
theorem Ch.lst:∀ {X:List Pc} {b0:Rat},Ch b0 X→b0≤lQ b0 X∧∀q∈X,q.E≤lQ b0 X
 | [],b0,_=>⟨Rat.le_refl,fun q hq=>(nomatch hq)⟩
 | p::r,b0,⟨h1,h2,h3,h4⟩=>by
  obtain ⟨a1,a2⟩:=Ch.lst h4
  rw [lI]
  refine ⟨by grind,fun q hq=>?_⟩
  rcases List.mem_cons.mp hq with rfl|hq
  ·exact a1
  ·exact a2 q hq
theorem GD {Y:List Pc} {q:Pc} (h:RtF (Y++[q])):cm 0 (Y++[q]) q.E=some q.H:=by
 have hq:(Y++[q])[Y.length]?=some q:=by simp
 obtain ⟨n1,n2,n3,n4⟩:=nb h hq
 rw [yt h hq (by by_cases z:Y.length=0;exact .inl z;exact .inr (n4 z)) Rat.le_refl]
 congr 1
 by_cases z:val (bg (Y++[q]) Y.length)=q.E
 ·rw [if_pos z];exact n3 z
 ·rw [if_neg z]
  have:q.E-val (bg (Y++[q]) Y.length)≠0:=by grind
  grind
theorem qN {Y:List Pc} {q:Pc} (h:RtF (Y++[q])) {t:Rat} (ht:q.E<t):cm 0 (Y++[q]) t=none:=by
 have hq:(Y++[q])[Y.length]?=some q:=by simp
 refine dq fun r hr=>?_
 have:=yE h r hr
 rw [show (Y++[q]).length=Y.length+1 by simp,bgS hq] at this
 grind
theorem Hs {r:Nat × Nat} {M:Nat} {N:Int} (h:Cop r) (m0:0<M) (e:val r*M=N):r.2≤M:=by
 have p:=ax h.pos
 have e2:(r.1:Rat)*M=N*r.2:=by unfold val at e;grind
 have e3:(r.1:Int)*M=N*r.2:=by
  have:(((r.1:Int)*M:Int):Rat)=((N*r.2:Int):Rat):=by simpa [Rat.intCast_natCast] using e2
  exact Rat.intCast_inj.mp this
 have d:r.2 ∣ r.1*M:=by
  have:(r.2:Int) ∣ ((r.1*M:Nat):Int):=⟨N,by rw [Int.natCast_mul,e3,Int.mul_comm]⟩
  exact Int.natCast_dvd_natCast.mp this
 have c:Nat.Coprime r.2 r.1:=by have:=h.one;rw [Nat.gcd_comm] at this;exact this
 exact Nat.le_of_dvd m0 (c.dvd_of_dvd_mul_left d)
theorem Bc {r:Nat × Nat} {M m v:Nat} {N:Int} (h:Cop r) (m0:0<M) (hm:M<2 ^ m) (e:val r*M=N) (hv:val r≤2 ^ v):Sz (m+v) r:=by
 have l:=Hs h m0 e
 have p:=ax h.pos
 have q:(r.1:Rat)≤2 ^ v*r.2:=by
  have a:=Rat.mul_nonneg (a:=2 ^ v-val r) (b:=r.2) (by grind) (by grind)
  have b:val r*r.2=r.1:=by unfold val;grind
  grind
 have q2:r.1≤2 ^ v*r.2:=by
  have:((r.1:Nat):Rat)≤((2 ^ v*r.2:Nat):Rat):=by simpa using q
  exact Rat.natCast_le_natCast.mp this
 have hp:0<2 ^ v:=Nat.pow_pos (by decide)
 refine ⟨?_,Nat.lt_of_lt_of_le (Nat.lt_of_le_of_lt l hm) (Nat.pow_le_pow_right (by decide) (by omega)),h.pos⟩
 have:2 ^ v*r.2<2 ^ v*2 ^ m:=Nat.mul_lt_mul_of_pos_left (Nat.lt_of_le_of_lt l hm) hp
 rw [Nat.pow_add,Nat.mul_comm (2 ^ m)]
 omega
theorem yV {r τ:Nat × Nat} {d D P Q k e v:Nat} {R:Int} (hr:Cop r) (ht:Cop τ) (zt:Sz e τ) (d0:0<d) (dD:d<2 ^ D) (q0:0<Q) (qk:Q<2 ^ k) (h:(d:Rat)*Q*val r=P*d*val τ+R) (hv:val r≤2 ^ v):Sz (D+k+e+v) r:=by
 have p:=ax ht.pos
 refine Bc (M:=d*Q*τ.2) (N:=P*d*τ.1+R*τ.2) hr (Nat.mul_pos (Nat.mul_pos d0 q0) ht.pos) (aB (aB dD qk) zt.b) ?_ hv
 have e1:val τ*τ.2=τ.1:=by unfold val;grind
 simp only [Rat.natCast_mul,Rat.intCast_add,Rat.intCast_mul,Rat.intCast_natCast]
 grind
theorem sf {f:Rat→Option Rat} {a e:Rat} {c:Two} {d k:Nat} (h:SegF f a e c) (a0:0≤a) (ae:a≤e) (hl:Lin d k f):∃(P Q:Nat) (R:Int),(0<Q∧Q<2 ^ k∧P<2 ^ k)∧(d:Rat)*Q*val c.1=P*d*a+R∧(d:Rat)*Q*val c.2=P*d*e+R:=by
 obtain ⟨P,Q,R,x,b,xe,hx⟩:=hl e _ (by grind) h.at_
 have e2:=hx e _ (by grind) xe Rat.le_refl h.at_
 by_cases q:a=e
 ·exact ⟨P,Q,R,b,by rw [h.zero q,q];exact e2,e2⟩
 obtain ⟨x',x1,x2,x3⟩:∃x',a≤x'∧x≤x'∧x'<e:=by
  by_cases w:a≤x
  ·exact ⟨x,w,Rat.le_refl,xe⟩
  ·exact ⟨a,Rat.le_refl,by grind,by grind⟩
 have en:e-a≠0:=by grind
 obtain ⟨s,hs⟩:∃s,(val c.2-val c.1)/(e-a)=s:=⟨_,rfl⟩
 have hs2:val c.2=val c.1+s*(e-a):=by grind
 have m:=h.mid ((x'+e)/2) (by grind) (by grind)
 have e1:=hx _ _ (by grind) (by grind) (by grind) m
 have hm:val c.1+(val c.2-val c.1)*(((x'+e)/2-a)/(e-a))=val c.1+s*((x'+e)/2-a):=by grind
 rw [hm] at e1
 have k1:(d*Q*s-P*d)*(e-x')=0:=by grind
 have k2:(d:Rat)*Q*s=P*d:=by
  have n:e-x'≠0:=by grind
  rcases Rat.mul_eq_zero.mp k1 with z|z
  ·grind
  ·exact absurd z n
 exact ⟨P,Q,R,b,by grind,e2⟩
theorem A_ {r:Nat × Nat} {d D P Q P' Q' k v:Nat} {R R':Int} {a e:Rat} {m y:Two} (hr:Cop r) (d0:0<d) (dD:d<2 ^ D) (b:0<Q∧Q<2 ^ k∧P<2 ^ k) (b':0<Q'∧Q'<2 ^ k∧P'<2 ^ k) (ae:a<e)
  (h1:(d:Rat)*Q*val m.1=P*d*a+R) (h2:(d:Rat)*Q*val m.2=P*d*e+R) (h3:(d:Rat)*Q'*val y.1=P'*d*a+R') (h4:(d:Rat)*Q'*val y.2=P'*d*e+R') (hc:Crs m y) (vr:val r=crM a e m y) (hv:val r≤2 ^ v):Sz (D+2*k+v) r:=by
 have pd:=ax d0
 have pq:=ax b.1
 have pq':=ax b'.1
 have en:e-a≠0:=by grind
 have n1:val m.1-val y.1+(val y.2-val m.2)≠0:=by rcases hc with hc|hc <;> grind
 have key:(d:Rat)*(P*Q'-P'*Q)*val r=R'*Q-R*Q':=by
  obtain ⟨u,hu⟩:∃u,(val m.1-val y.1)/(val m.1-val y.1+(val y.2-val m.2))=u:=⟨_,rfl⟩
  have hu2:u*(val m.1-val y.1+(val y.2-val m.2))=val m.1-val y.1:=by rw [←hu];grind
  have vr2:val r=a+(e-a)*u:=by rw [vr,←hu]
  have w:val m.1+(val m.2-val m.1)*u=val y.1+(val y.2-val y.1)*u:=by grind
  have w1:(d:Rat)*Q*(val m.1+(val m.2-val m.1)*u)=P*d*val r+R:=by grind
  have w2:(d:Rat)*Q'*(val y.1+(val y.2-val y.1)*u)=P'*d*val r+R':=by grind
  rw [w] at w1
  generalize val y.1+(val y.2-val y.1)*u=W at w1 w2
  grind
 have kn:(P:Int)*Q'-P'*Q≠0:=fun z=>by
  have z2:(P:Rat)*Q'-P'*Q=0:=by
   have:(((P:Int)*Q'-P'*Q:Int):Rat)=((0:Int):Rat):=by rw [z]
   simpa [Rat.intCast_natCast] using this
  have s1:(d:Rat)*Q*(val m.2-val m.1)=P*d*(e-a):=by grind
  have s2:(d:Rat)*Q'*(val y.2-val y.1)=P'*d*(e-a):=by grind
  have s3:(d:Rat)*Q*Q'*((val m.2-val m.1)-(val y.2-val y.1))=0:=by grind
  have ne:(d:Rat)*Q*Q'≠0:=by
   have:=Rat.mul_pos (Rat.mul_pos pd pq) pq'
   grind
  rcases Rat.mul_eq_zero.mp s3 with z|z
  ·exact ne z
  ·rcases hc with hc|hc <;> grind
 have l1:=aB b.2.2 b'.2.1
 have l2:=aB b'.2.2 b.2.1
 obtain ⟨K,hK⟩:∃K:Int,(P:Int)*Q'-P'*Q=K:=⟨_,rfl⟩
 rw [hK] at kn
 have kb:K.natAbs<2 ^ (k+k):=by
  have e1:((P*Q':Nat):Int)-((P'*Q:Nat):Int)=K:=by rw [←hK];simp
  omega
 have kr:(P:Rat)*Q'-P'*Q=K:=by
  have:(((P:Int)*Q'-P'*Q:Int):Rat)=(K:Rat):=by rw [hK]
  simpa [Rat.intCast_natCast] using this
 rw [kr] at key
 refine (Bc (M:=d*K.natAbs) (N:=if 0≤K then R'*Q-R*Q' else -(R'*Q-R*Q')) (m:=D+(k+k)) hr (Nat.mul_pos d0 (by omega)) (aB dD kb) ?_ hv).mono (by omega)
 by_cases q:0≤K
 ·rw [if_pos q]
  have:((K.natAbs:Nat):Rat)=(K:Rat):=by
   have:((K.natAbs:Nat):Int)=K:=by omega
   rw [←Rat.intCast_natCast,this]
  simp only [Rat.natCast_mul,this,Rat.intCast_sub,Rat.intCast_mul,Rat.intCast_natCast]
  grind
 ·rw [if_neg q]
  have:((K.natAbs:Nat):Rat)=-(K:Rat):=by
   have:((K.natAbs:Nat):Int)=-K:=by omega
   rw [←Rat.intCast_natCast,this,Rat.intCast_neg]
  simp only [Rat.natCast_mul,this,Rat.intCast_neg,Rat.intCast_sub,Rat.intCast_mul,Rat.intCast_natCast]
  grind
theorem SegOk.f {S:List Pc} {a e:Rat} {c:Two} (h:SegOk S a e c):SegF (cm 0 S) a e c:=⟨h.cl,h.ch,h.le,h.at_,h.zero,h.mid⟩
theorem zo {L:List Pc} {i:Nat} {p:Pc} (hR:RtF L) (hp:L[i]?=some p):SegOk L (val (bg L i)) p.E (p.l,p.h):=by
 obtain ⟨n1,n2,n3,n4⟩:=nb hR hp
 obtain ⟨ok,p1,p2⟩:=hR.at_ hp
 refine yK hR hp Rat.le_refl n2 Rat.le_refl ?_ ok.l ok.h ?_ ?_
 ·by_cases w:i=0
  ·exact .inl w
  ·exact .inr (n4 w)
 ·unfold fP
  by_cases q:val (bg L i)=p.E
  ·rw [if_pos q]
  ·rw [if_neg q];show p.L=_;grind
 ·unfold fP
  by_cases q:val (bg L i)=p.E
  ·rw [if_pos q];exact (n3 q).symm
  ·rw [if_neg q]
   show p.H=_
   have:p.E-val (bg L i)≠0:=by grind
   grind
theorem A3 {f:Rat→Option Rat} {a e:Nat × Nat} {c:Two} {d D k m v:Nat} (h:SegF f (val a) (val e) c) (ca:Cop a) (ce:Cop e) (za:Sz m a) (ze:Sz m e) (ae:val a≤val e) (hl:Lin d k f) (d0:0<d) (dD:d<2 ^ D) (hv:val c.2≤2 ^ v):Sz (D+k+m+v) c.1∧Sz (D+k+m+v) c.2:=by
 obtain ⟨P,Q,R,b,h1,h2⟩:=sf h (aU ca.pos) ae hl
 have:=h.le
 exact ⟨yV h.cl ca za d0 dD b.1 b.2.1 h1 (by grind),yV h.ch ce ze d0 dD b.1 b.2.1 h2 hv⟩
theorem Cm {L:List Pc} {d D k e v:Nat} (hR:RtF L) (hl:Lin d k (cm 0 L)) (hz:∀p∈L,Sz e p.e) (e1:1≤e) (hi:∀t y,0≤t→cm 0 L t=some y→y≤2 ^ v) (d0:0<d) (dD:d<2 ^ D):SzL (D+k+e+v) L:=fun p hp=>by
 obtain ⟨i,hi'⟩:=List.getElem?_of_mem hp
 have s:=zo hR hi'
 obtain ⟨n1,n2,n3,n4⟩:=nb hR hi'
 have ok:=(hR.at_ hi').1
 have bz:Sz e (bg L i):=by
  cases i with
  | zero=>exact ⟨Nat.pow_pos (by decide),Nat.one_lt_two_pow (by omega),Nat.one_pos⟩
  | succ i =>
   have il:=(List.getElem?_eq_some_iff.mp hi').1
   have h:=List.getElem?_eq_getElem (show i<L.length by omega)
   rw [bgS h]
   exact hz _ (List.getElem_mem _)
 obtain ⟨z1,z2⟩:=A3 s.f n1 ok.e bz (hz p hp) n2 hl d0 dD (hi _ _ (aU ok.e.pos) s.at_)
 exact ⟨(hz p hp).mono (by omega),z1,z2⟩
theorem Stl.sz {d D k e v n:Nat} {L:List Pc} (h:Stl d k e v n L) (e1:1≤e) (d0:0<d) (dD:d<2 ^ D):SzL (D+k+e+v) L:=Cm h.rt h.lin h.en e1 h.hi d0 dD
theorem Lin.congr {d k:Nat} {f g:Rat→Option Rat} (h:Lin d k f) (e:∀t,0≤t→g t=f t):Lin d k g:=fun x y x0 hx=>by
 obtain ⟨P,Q,R,u,b,ux,hu⟩:=h x y x0 (by rw [←e x x0];exact hx)
 exact ⟨P,Q,R,u,b,ux,fun t z t0 ut tx hz=>hu t z t0 ut tx (by rw [←e t t0];exact hz)⟩
theorem nO {A B:List Pc} {t x:Rat} (h:cm 0 A t=some x) (hb:∀y,cm 0 B t=some y→x≤y):les A B t=some x:=by
 unfold les
 rw [h]
 cases e:cm 0 B t with
 | none=>rfl
 | some y=>show some (if x≤y then x else y)=_;rw [if_pos (hb y e)]
theorem ui {A B:List Pc} {t y:Rat} (h:cm 0 B t=some y) (ha:∀x,cm 0 A t=some x→y≤x):les A B t=some y:=by
 unfold les
 rw [h]
 cases e:cm 0 A t with
 | none=>rfl
 | some x =>
  show some (if x≤y then x else y)=_
  have:=ha x e
  by_cases w:x≤y
  ·rw [if_pos w];congr 1;grind
  ·rw [if_neg w]
theorem eS {A B:List Pc} {t z:Rat} (h:les A B t=some z):(cm 0 A t=some z∧∀y,cm 0 B t=some y→z≤y)∨(cm 0 B t=some z∧∀x,cm 0 A t=some x→z≤x):=by
 unfold les at h
 cases e:cm 0 A t with
 | none=>rw [e] at h;exact .inr ⟨h,fun x hx=>by cases hx⟩
 | some x =>
  rw [e] at h
  cases e2:cm 0 B t with
  | none=>rw [e2] at h;cases h;exact .inl ⟨rfl,fun y hy=>by cases hy⟩
  | some y =>
   rw [e2] at h
   have h:some (if x≤y then x else y)=some z:=h
   by_cases w:x≤y
   ·rw [if_pos w] at h;cases h;exact .inl ⟨rfl,fun y' hy=>by cases hy;exact w⟩
   ·rw [if_neg w] at h;cases h;exact .inr ⟨rfl,fun x' hx=>by cases hx;grind⟩
theorem les_no {A B:List Pc} {t:Rat}:les A B t=none↔cm 0 A t=none∧cm 0 B t=none:=by
 constructor
 ·intro h
  unfold les at h
  cases e:cm 0 A t with
  | none=>rw [e] at h;exact ⟨rfl,h⟩
  | some x =>
   rw [e] at h
   cases e2:cm 0 B t with
   | none=>rw [e2] at h;cases h
   | some y=>rw [e2] at h;cases h
 ·rintro ⟨h1,h2⟩
  unfold les;rw [h1,h2]
theorem gq {A B:List Pc} {t:Rat}:les A B t=les B A t:=by
 cases e:les B A t with
 | none=>exact les_no.mpr (les_no.mp e).symm
 | some z =>
  rcases eS e with ⟨h1,h2⟩|⟨h1,h2⟩
  ·exact ui h1 h2
  ·exact nO h1 h2
theorem D8 {A B:List Pc} {t u z:Rat} (tu:t≤u) (h:les A B u=some z):∃y,les A B t=some y:=by
 cases e:les A B t with
 | some y=>exact ⟨y,rfl⟩
 | none =>
  obtain ⟨e1,e2⟩:=les_no.mp e
  rcases eS h with ⟨h1,_⟩|⟨h1,_⟩
  ·obtain ⟨y,hy⟩:=fQ tu h1;rw [e1] at hy;cases hy
  ·obtain ⟨y,hy⟩:=fQ tu h1;rw [e2] at hy;cases hy
theorem F4 {A B:List Pc} {t z:Rat} (hA:RtF A) (hB:RtF B) (t0:0≤t) (h:les A B t=some z):t≤z:=by
 rcases eS h with ⟨h1,_⟩|⟨h1,_⟩
 ·exact xD hA t0 h1
 ·exact xD hB t0 h1
theorem Gw {A B:List Pc} {t u y z:Rat} (hA:RtF A) (hB:RtF B) (t0:0≤t) (tu:t≤u) (h:les A B t=some y) (h':les A B u=some z):y≤z:=by
 have key:∀ {A B:List Pc},RtF A→les A B t=some y→cm 0 A u=some z→y≤z:=fun {A B} hA h hu=>by
  obtain ⟨x,hx⟩:=fQ tu hu
  have:=Dz hA t0 tu hx hu
  rcases eS h with ⟨h1,_⟩|⟨_,h2⟩
  ·rw [h1] at hx;cases hx;exact this
  ·have:=h2 x hx;grind
 rcases eS h' with ⟨h1,_⟩|⟨h1,_⟩
 ·exact key hA h h1
 ·exact key hB (by rw [gq];exact h) h1
theorem Hy {A B:List Pc} {v:Nat} (hA:∀t y,0≤t→cm 0 A t=some y→y≤2 ^ v) (hB:∀t y,0≤t→cm 0 B t=some y→y≤2 ^ v):∀t y,0≤t→les A B t=some y→y≤2 ^ v:=fun t y t0 h=>by
 rcases eS h with ⟨h1,_⟩|⟨h1,_⟩
 ·exact hA t y t0 h1
 ·exact hB t y t0 h1
theorem E1 {A:List Pc} {e:Rat} (hA:RtF A) (h:cm 0 A e=none):∃l,l<e∧∀t,l<t→cm 0 A t=none:=by
 rcases dB A with rfl|⟨Y,q,rfl⟩
 ·exact ⟨e-1,by grind,fun t _=>rfl⟩
 ·obtain ⟨y,hy⟩:=xw (b:=0) (L:=Y++[q]) (p:=q) (by simp)
  have lt:q.E<e:=Classical.byContradiction fun w=>by
   obtain ⟨z,hz⟩:=fQ (t:=e) (by grind) hy
   rw [h] at hz;cases hz
  exact ⟨q.E,lt,fun t ht=>qN hA ht⟩
theorem y_ {α β e:Rat} (h:0<α*e+β):∃x,x<e∧∀t,x<t→t≤e→0<α*t+β:=by
 by_cases w:α≤0
 ·exact ⟨e-1,by grind,fun t _ te=>by have:=Rat.mul_nonneg (a:=-α) (b:=e-t) (by grind) (by grind);grind⟩
 ·have a0:0<α:=by grind
  obtain ⟨g,hg⟩:∃g,(α*e+β)/α=g:=⟨_,rfl⟩
  have g1:g*α=α*e+β:=by rw [←hg];grind
  have g0:0<g:=Classical.byContradiction fun z=>by
   have:=Rat.mul_nonneg (a:=-g) (b:=α) (by grind) (by grind)
   grind
  refine ⟨e-g,by grind,fun t t1 te=>?_⟩
  have:=Rat.mul_pos (a:=t-(e-g)) (b:=α) (by grind) a0
  grind
theorem BO {α β e:Rat}:∃x,x<e∧((∀t,x<t→t≤e→0≤α*t+β)∨∀t,x<t→t≤e→α*t+β≤0):=by
 by_cases w:0<α*e+β
 ·obtain ⟨x,h1,h2⟩:=y_ w
  exact ⟨x,h1,.inl fun t a b=>Rat.le_of_lt (h2 t a b)⟩
 ·by_cases w2:α*e+β<0
  ·obtain ⟨x,h1,h2⟩:=y_ (α:=-α) (β:=-β) (e:=e) (by grind)
   exact ⟨x,h1,.inr fun t a b=>by have:=h2 t a b;grind⟩
  ·by_cases w3:α≤0
   ·exact ⟨e-1,by grind,.inl fun t _ te=>by have:=Rat.mul_nonneg (a:=-α) (b:=e-t) (by grind) (by grind);grind⟩
   ·exact ⟨e-1,by grind,.inr fun t _ te=>by have:=Rat.mul_nonneg (a:=α) (b:=e-t) (by grind) (by grind);grind⟩
theorem kL {d Q P:Nat} {R:Int} {z t:Rat} (d0:0<d) (q0:0<Q) (h:(d:Rat)*Q*z=P*d*t+R):z=(P:Rat)/Q*t+R/(d*Q):=by
 have:=ax d0
 have:=ax q0
 grind
theorem E_ {A B:List Pc} {d k:Nat} (d0:0<d) (hA:RtF A) (hB:RtF B) (lA:Lin d k (cm 0 A)) (lB:Lin d k (cm 0 B)):Lin d k (les A B):=by
 have one:∀ {A B:List Pc},RtF A→RtF B→Lin d k (cm 0 B)→∀e y,0≤e→cm 0 A e=none→cm 0 B e=some y→∃(P Q:Nat) (R:Int) (x:Rat),(0<Q∧Q<2 ^ k∧P<2 ^ k)∧x<e∧∀t z,0≤t→x<t→t≤e→les A B t=some z→(d:Rat)*Q*z=P*d*t+R:=fun {A B} hA hB lB e y e0 h1 h2=>by
  obtain ⟨P,Q,R,x,b,xe,hx⟩:=lB e y e0 h2
  obtain ⟨l,le,hl⟩:=E1 hA h1
  by_cases w:x≤l
  ·refine ⟨P,Q,R,l,b,le,fun t z t0 lt te hz=>hx t z t0 (by grind) te ?_⟩
   rcases eS hz with ⟨h,_⟩|⟨h,_⟩
   ·rw [hl t lt] at h;cases h
   ·exact h
  ·refine ⟨P,Q,R,x,b,xe,fun t z t0 lt te hz=>hx t z t0 lt te ?_⟩
   rcases eS hz with ⟨h,_⟩|⟨h,_⟩
   ·rw [hl t (by grind)] at h;cases h
   ·exact h
 intro e y e0 he
 cases eA:cm 0 A e with
 | none =>
  cases eB:cm 0 B e with
  | none=>rw [les_no.mpr ⟨eA,eB⟩] at he;cases he
  | some y2=>exact one hA hB lB e y2 e0 eA eB
 | some y1 =>
  cases eB:cm 0 B e with
  | none =>
   obtain ⟨P,Q,R,x,b,xe,hx⟩:=one hB hA lA e y1 e0 eB eA
   exact ⟨P,Q,R,x,b,xe,fun t z t0 xt te hz=>hx t z t0 xt te (by rw [gq];exact hz)⟩
  | some y2 =>
   obtain ⟨P,Q,R,x,b,xe,hx⟩:=lA e y1 e0 eA
   obtain ⟨P',Q',R',x',b',xe',hx'⟩:=lB e y2 e0 eB
   obtain ⟨u,ue,hu⟩:=BO (α:=(P':Rat)/Q'-P/Q) (β:=R'/(d*Q')-R/(d*Q)) (e:=e)
   obtain ⟨m,m1,m2,m3,m4⟩:∃m,x≤m∧x'≤m∧u≤m∧m<e:=by
    by_cases w:x≤x'
    ·by_cases w2:x'≤u
     ·exact ⟨u,by grind,w2,Rat.le_refl,ue⟩
     ·exact ⟨x',w,Rat.le_refl,by grind,xe'⟩
    ·by_cases w2:x≤u
     ·exact ⟨u,w2,by grind,Rat.le_refl,ue⟩
     ·exact ⟨x,Rat.le_refl,by grind,by grind,xe⟩
   rcases hu with hu|hu
   ·refine ⟨P,Q,R,m,b,m4,fun t z t0 mt te hz=>?_⟩
    obtain ⟨z1,h1⟩:=fQ te eA
    obtain ⟨z2,h2⟩:=fQ te eB
    have l1:=hx t z1 t0 (by grind) te h1
    have v1:=kL d0 b.1 l1
    have v2:=kL d0 b'.1 (hx' t z2 t0 (by grind) te h2)
    have:=hu t (by grind) te
    have le:z1≤z2:=by grind
    rw [nO h1 fun y hy=>by rw [h2] at hy;cases hy;exact le] at hz
    cases hz
    exact l1
   ·refine ⟨P',Q',R',m,b',m4,fun t z t0 mt te hz=>?_⟩
    obtain ⟨z1,h1⟩:=fQ te eA
    obtain ⟨z2,h2⟩:=fQ te eB
    have l2:=hx' t z2 t0 (by grind) te h2
    have v1:=kL d0 b.1 (hx t z1 t0 (by grind) te h1)
    have v2:=kL d0 b'.1 l2
    have:=hu t (by grind) te
    have le:z2≤z1:=by grind
    rw [ui h2 fun y hy=>by rw [h1] at hy;cases hy;exact le] at hz
    cases hz
    exact l2
theorem HC {c:E} {b:Ss} {D:aV} (I:Nat→Fr→AH→Prop) {n:Nat} {ρ:Fr} {st:AH} (h0:I n ρ st)
  (hs:∀n ρ st,I n ρ st→∃A B:AH→Prop,(wpT Γ c ρ st fun k st1=>if k=true then A st1 else B st1)∧(∀st1,A st1→au Γ b ρ st1 (LD (fun ρ' st'=>∃m,m<n∧I m ρ' st') D))∧∀st1,B st1→D.nx ρ st1):Hg Γ c b D ρ st:=by
 refine oV Γm I h0 fun n ρ st i=>?_
 obtain ⟨A,B,h1,h2,h3⟩:=hs n ρ st i
 refine aQ Γm c (fun k st1 z=>?_) h1
 cases k with
 | true=>exact h2 _ z
 | false=>exact h3 _ z
theorem rn {T:List (Nat × Nat)} {j:Nat} (h:T.length≤j):T.drop j=[]:=List.drop_eq_nil_of_le h
theorem Dw {as st Q} (h:gD as st Q):au Γ iN (frame 6 as) st (af st Q):=by
 obtain ⟨k,n,m,T1,T2,rfl,hk,h1,h2,e1,e2,hl,kk⟩:=h
 have g1:∀g:AH,(st++g)[n]?=some (.lst (T1.map fr)):=fun g=>aC h1
 have g2:∀g:AH,(st++g)[m]?=some (.lst (T2.map fr)):=fun g=>aC h2
 have len1:(T1.map fr).length=T1.length:=List.length_map ..
 have len2:(T2.map fr).length=T2.length:=List.length_map ..
 unfold iN
 walk_at "WP"
 refine HC (MgW st k n m T1 T2) (n:=T1.length+T2.length-(0+0)) ⟨[],0,0,[],none,rfl,Nat.zero_le _,Nat.zero_le _,rfl,⟨List.Pairwise.nil,by simp,by simp,by simp,Nat.zero_le _⟩,rfl⟩ ?_
 rintro q ρ s ⟨Z,i,j,g,x,rfl,hi,hj,rfl,I,rfl⟩
 refine ⟨fun s=>s=st++.lst (Z.map fr)::g∧(i<T1.length∨j<T2.length),fun s=>s=st++.lst (Z.map fr)::g∧i=T1.length∧j=T2.length,?_,?_,?_⟩
 ·walk_at "WP"
  refine ⟨_,ad (g1 _),?_⟩
  rw [len1]
  refine dl (fun c=>.inl (by omega)) fun c=>⟨_,ad (g2 _),?_⟩
  rw [len2]
  exact dl (fun c'=>.inr (by omega)) fun c'=>⟨by omega,by omega⟩
 ·rintro s ⟨rfl,hij⟩
  refine gG (fun ρ s=>s=st++.lst (Z.map fr)::g∧∃(x:Nat × Nat) (i' j':Nat),((i'=i+1∧j'=j∧T1[i]?=some x∧∀t∈T2.drop j,val x≤val t)∨(i'=i∧j'=j+1∧T2[j]?=some x∧∀t∈T1.drop i,val x≤val t))∧ρ=[some (.ref n),some (.ref m),some (.ref st.length),some (.int i'),some (.int j'),some (fr x)]) ?_ ?_
  ·refine ifS (fun s=>s=st++.lst (Z.map fr)::g∧∃x,T1[i]?=some x∧∀t∈T2.drop j,val x≤val t) (fun s=>s=st++.lst (Z.map fr)::g∧∃x,T2[j]?=some x∧∀t∈T1.drop i,val x≤val t) ?_ ?_ ?_
   ·walk_at "WP"
    refine ⟨_,ad (g2 _),?_⟩
    rw [len2]
    refine dl (fun c=>?_) fun c=>⟨_,ad (g1 _),?_⟩
    ·have il:i<T1.length:=by omega
     exact ⟨_,List.getElem?_eq_getElem il,fun t ht=>by rw [rn (by omega)] at ht;cases ht⟩
    ·have jl:j<T2.length:=by omega
     have hy:=List.getElem?_eq_getElem jl
     rw [len1]
     refine dl (fun c1=>?_) fun c1=>⟨_,hy,fun t ht=>by rw [rn (by omega)] at ht;cases ht⟩
     have il:i<T1.length:=by omega
     have hx:=List.getElem?_eq_getElem il
     obtain ⟨c1',z1⟩:=e1.ok _ (List.getElem_mem il)
     obtain ⟨c2',z2⟩:=e2.ok _ (List.getElem_mem jl)
     refine ⟨_,ad (g1 _),fr T1[i],cA (by rw [List.getElem?_map,hx];rfl),_,ad (g2 _),fr T2[j],cA (by rw [List.getElem?_map,hy];rfl),?_⟩
     refine ⟨_,_,rfl,z1.mono (by omega),z2.mono (by omega),?_⟩
     by_cases w:val T1[i]<val T2[j]
     ·rw [i9 z1 z2 w]
      walk_at "WP"
      exact ⟨_,hx,fun t ht=>by have:=sT e2.sr hy t ht;grind⟩
     ·rw [iQ z1 z2 (by grind)]
      walk_at "WP"
      exact ⟨_,hy,fun t ht=>by have:=sT e1.sr hx t ht;grind⟩
   ·rintro s ⟨rfl,x,hx,hl⟩
    walk_at "WPN"
    refine ⟨_,ad (g1 _),fr x,cA (by rw [List.getElem?_map,hx];rfl),x,i+1,j,.inl ⟨rfl,rfl,hx,hl⟩,?_⟩
    exact ⟨by omega,rfl,rfl⟩
   ·rintro s ⟨rfl,x,hx,hl⟩
    walk_at "WPN"
    refine ⟨_,ad (g2 _),fr x,cA (by rw [List.getElem?_map,hx];rfl),x,i,j+1,.inr ⟨rfl,rfl,hx,hl⟩,?_⟩
    exact ⟨rfl,by omega,rfl⟩
  rintro ρ s ⟨rfl,x,i',j',hp,rfl⟩
  obtain ⟨I2,hi',hj',dn⟩:MgI T1 T2 (if Z.getLast?=some x then Z else Z++[x]) i' j'∧i'≤T1.length∧j'≤T2.length∧i'+j'=i+j+1:=by
   rcases hp with ⟨rfl,rfl,hx,hl⟩|⟨rfl,rfl,hx,hl⟩
   ·have il:=(List.getElem?_eq_some_iff.mp hx).1
    exact ⟨I.step e1.sr (fun t ht=>(e1.ok t ht).1) (fun t ht=>(e2.ok t ht).1) hx hl,by omega,by omega,by omega⟩
   ·have il:=(List.getElem?_eq_some_iff.mp hx).1
    exact ⟨(I.swap.step e2.sr (fun t ht=>(e2.ok t ht).1) (fun t ht=>(e1.ok t ht).1) hx hl).swap,by omega,by omega,by omega⟩
  have lZ:=I.ln
  walk_at "WP"
  refine fG (xs:=Z.map fr) (by simp) (by simp) Co ?_
  rcases dB Z with rfl|⟨Y,c,rfl⟩
  ·rw [if_pos (by rfl)]
   rw [if_neg (by simp)] at I2
   refine ⟨⟨_,aT aN⟩,by simp,T1.length+T2.length-(i'+j'),by omega,_,i',j',g++[.lst []],_,rfl,hi',hj',?_,I2,rfl⟩
   rw [eU];simp
  ·rw [if_neg (by simp)]
   refine ⟨_,ad aN,fr c,by rw [List.map_append];exact fZ,jS ?_⟩
   rw [List.getLast?_concat] at I2
   by_cases w:c=x
   ·rw [decide_eq_true w,if_neg (by decide)]
    rw [if_pos (by rw [w])] at I2
    exact ⟨T1.length+T2.length-(i'+j'),by omega,_,i',j',g++[.lst []],_,rfl,hi',hj',rfl,I2,rfl⟩
   ·rw [decide_eq_false w,if_pos rfl]
    rw [if_neg (fun z=>w (Option.some.inj z))] at I2
    refine ⟨⟨_,aT aN⟩,by simp at lZ ⊢;omega,T1.length+T2.length-(i'+j'),by omega,_,i',j',g++[.lst []],_,rfl,hi',hj',?_,I2,rfl⟩
    rw [eU];simp
 ·rintro s ⟨rfl,rfl,rfl⟩
  walk_at "WP"
  have mem:∀t,t∈Z↔t∈T1∨t∈T2:=fun t=>by have:=I.mem t;rwa [List.take_length,List.take_length] at this
  refine .inl (kk Z _ _ aN ⟨I.sr,fun t ht=>?_⟩ mem I.ln)
  rcases (mem t).mp ht with a|a
  ·exact e1.ok t a
  ·exact e2.ok t a
theorem CutI.none {S:List Pc} {T:List (Nat × Nat)} {z j:Nat} {C:List (Option Two)} (h:CutI S T z S.length C) (hS:RtF S) (hE:Ends j T) (t0:T[0]?=some (0,1)) (hin:∀p∈S,p.e∈T) {k:Nat} (hk:C.length≤k) (kT:k<T.length):mG S z (val (bgT T k)) (val (bgT T (k+1))) none:=by
 intro t ht
 rcases dB S with rfl|⟨Y,q,rfl⟩
 ·rfl
 ·have hq:(Y++[q])[Y.length]?=some q:=by simp
  have eb:bg (Y++[q]) (Y++[q]).length=q.e:=by rw [show (Y++[q]).length=Y.length+1 by simp,bgS hq]
  obtain ⟨k0,hk0⟩:=List.getElem?_of_mem (hin q (by simp))
  have k1:k0<C.length:=(h.cnt k0 _ hk0).mpr ⟨by simp,by rw [eb];exact Rat.le_refl⟩
  have hT:=List.getElem?_eq_getElem kT
  have lt:q.E<val T[k]:=hE.lt hk0 hT (by omega)
  have le:q.E≤val (bgT T k):=by
   cases k with
   | zero=>omega
   | succ k =>
    have hk':=List.getElem?_eq_getElem (show k<T.length by omega)
    rw [mS hk']
    by_cases e:k0=k
    ·subst e
     rw [hk'] at hk0
     rw [Option.some.inj hk0]
     exact Rat.le_refl
    ·exact Rat.le_of_lt (hE.lt hk0 hk' (by omega))
  rw [mS hT] at ht
  refine dq fun r hr=>?_
  have:=yE hS r hr
  rw [eb] at this
  have:r.E≤q.E:=this
  rcases ht with ht|ht <;> grind
noncomputable def CaI (st:AH) (S:List Pc) (n:Nat) (T:List (Nat × Nat)) (z:Nat) (i:Nat) (ρ:Fr) (s:AH):Prop:=∃(C:List (Option Two)) (g:AH) (a b c d:Option PV),s=st++.lst (C.map cV)::g∧CutI S T z i C∧ρ=[some (bS S),some (.ref n),some (.ref st.length),a,b,c,d]
noncomputable def CaJ (st:AH) (S:List Pc) (n:Nat) (T:List (Nat × Nat)) (z i:Nat) (p:Pc) (q:Nat) (ρ:Fr) (s:AH):Prop:=∃(C:List (Option Two)) (g:AH) (lo:Nat × Nat) (x:Option PV),q=T.length-C.length∧s=st++.lst (C.map cV)::g∧CutJ S T z i p C lo∧Cop lo∧Sz z lo∧ρ=[some (bS S),some (.ref n),some (.ref st.length),some (.int i),some (pcV p),some (fr lo),x]
theorem DK {as st Q} (h:ga as st Q):au Γ iH (frame 7 as) st (af st Q):=by
 obtain ⟨j,m,S,n,T,rfl,⟨j1,j2⟩,hS,hz,hn,hE,t0,hin,lS,lT,k⟩:=h
 have gn:∀g:AH,(st++g)[n]?=some (.lst (T.map fr)):=fun g=>aC hn
 have lenT:(T.map fr).length=T.length:=List.length_map ..
 unfold iH
 walk_at "WP"
 refine gR Γm (CaI st S n T (m+4*j+2)) ⟨[],[],none,none,none,none,rfl,⟨fun k t _=>⟨fun z=>absurd z (Nat.not_lt_zero _),fun z=>absurd rfl z.1⟩,fun k c hc=>by simp at hc,Nat.zero_le _⟩,rfl⟩ ?_ ?_
 ·rintro i v ρ s hi ⟨C,g,a,b,c,d,rfl,I,rfl⟩
  refine ⟨trivial,?_⟩
  obtain ⟨v,hv,rfl⟩:=lK hi
  rw [List.getElem?_map] at hv
  obtain ⟨p,hp,rfl⟩:=Option.map_eq_some_iff.mp hv
  have pz:=hz p (List.mem_of_getElem? hp)
  obtain ⟨pok,p1,p2⟩:=hS.at_ hp
  rw [Int.zero_add]
  walk_at "WP"
  refine HC (CaJ st S n T (m+4*j+2) i p) (n:=T.length-C.length) ⟨C,g,p.l,_,rfl,rfl,I.start hS hE hp hin,pok.l,pz.l.mono (by omega),rfl⟩ ?_
  rintro q ρ s ⟨C,g,lo,x,rfl,rfl,J,cl,zl,rfl⟩
  have lC:=J.ln
  have lenC:(C.map cV).length=C.length:=List.length_map ..
  refine ⟨fun s=>s=st++.lst (C.map cV)::g∧∃t,T[C.length]?=some t∧val t≤p.E,fun s=>s=st++.lst (C.map cV)::g∧∀t,T[C.length]?=some t→p.E<val t,?_,?_,?_⟩
  ·walk_at "WP"
   refine ⟨_,ad aN,_,ad (gn _),?_⟩
   rw [lenC,lenT]
   refine dl (fun c=>?_) fun c=>fun t ht=>by have:=(List.getElem?_eq_some_iff.mp ht).1;omega
   have il:C.length<T.length:=by omega
   have ht:=List.getElem?_eq_getElem il
   obtain ⟨ct,tz⟩:=hE.ok _ (List.getElem_mem il)
   refine ⟨_,ad aN,_,ad (gn _),fr T[C.length],by rw [lenC];exact cA (by rw [List.getElem?_map,ht];rfl),?_⟩
   refine ⟨_,_,rfl,pz.e.mono (by omega),tz.mono (by omega),?_⟩
   have pz':Sz (m+4*j+2) p.e:=pz.e.mono (by omega)
   have tz':Sz (m+4*j+2) T[C.length]:=tz.mono (by omega)
   by_cases w:p.E<val T[C.length]
   ·rw [i9 pz' tz' w]
    walk_at "WP"
    intro t ht'
    rw [ht] at ht'
    cases ht'
    exact w
   ·rw [iQ pz' tz' (by grind)]
    walk_at "WP"
    exact ⟨_,ht,by grind⟩
  ·rintro s ⟨rfl,t,ht,le⟩
   obtain ⟨ct,tz⟩:=hE.ok t (List.mem_of_getElem? ht)
   have il:=(List.getElem?_eq_some_iff.mp ht).1
   have ge:val (bg S i)≤val t:=by
    rcases J.nx C.length t ht (Nat.le_refl _) with rfl|w
    ·show val (0,1)≤_;rw [ag];exact aU ct.pos
    ·exact Rat.le_of_lt w
   walk_at "WP"
   refine ⟨_,ad aN,_,ad (gn _),fr t,by rw [lenC];exact cA (by rw [List.getElem?_map,ht];rfl),?_⟩
   refine ⟨j,m,S,i,p,t,rfl,⟨j1,by omega⟩,hS,hz,hp,ct,tz,by rw [pj];exact ge,le,fun hi ch zh vh=>?_⟩
   rw [pj] at vh
   walk_at "WP"
   have J2:=J.step (z:=m+4*j+2) hS hE hp ht le t0 cl ch zl (zh.mono (by omega)) vh
   refine ⟨⟨_,aT aN⟩,by rw [lenC];omega,T.length-(C++[some (lo,hi)]).length,by simp;omega,C++[some (lo,hi)],g,hi,_,rfl,?_,J2,ch,zh.mono (by omega),rfl⟩
   rw [eU];simp;rfl
  ·rintro s ⟨rfl,hx⟩
   exact ⟨C,g,_,_,_,_,rfl,J.done hE hp hx,rfl⟩
 ·rintro ρ s ⟨C,g,a,b,c,d,rfl,I,rfl⟩
  refine ⟨trivial,?_⟩
  rw [lr,List.length_map] at I
  have lC:=I.ln
  have lenC:(C.map cV).length=C.length:=List.length_map ..
  walk_at "WP"
  refine ⟨_,ad (gn _),_,ad aN,?_⟩
  rw [lenC,lenT]
  have e0:((T.length:Int)-C.length).toNat=T.length-C.length:=by omega
  have ef:(List.replicate (T.length-C.length) [PV.non]).flatten=(List.replicate (T.length-C.length) (none:Option Two)).map cV:=by
   rw [List.map_replicate]
   induction (T.length-C.length) with
   | zero=>rfl
   | succ m ih=>rw [List.replicate_succ,List.flatten_cons,ih,List.replicate_succ];rfl
  rw [e0,ef]
  refine ⟨by omega,by omega,by omega,by simp;omega,.inl (k (C++List.replicate (T.length-C.length) none) _ _ ?_ (by simp;omega) fun i c hc=>?_)⟩
  ·rw [dN,List.map_append]
   show ((Cell.lst (C.map cV)::(g++_))[g.length+2+1]?)=_
   rw [List.getElem?_cons_succ,dN]
   rfl
  ·have il:=(List.getElem?_eq_some_iff.mp hc).1
   by_cases w:i<C.length
   ·rw [List.getElem?_append_left w] at hc
    exact I.ok i c hc
   ·rw [List.getElem?_append_right (by omega)] at hc
    have:c=none:=by
     rw [List.getElem?_replicate] at hc
     split at hc
     ·exact (Option.some.inj hc).symm
     ·cases hc
    subst this
    exact I.none hS hE t0 hin (by omega) (by simp at il;omega)
theorem zP {as st Q} (h:eZ as st Q):au Γ g9 (frame 2 as) st (af st Q):=by
 obtain ⟨p,q,rfl,cp,cq,zp,zq,k⟩:=h
 unfold g9
 walk_at "WP"
 refine jS ?_
 unfold ldr at k
 by_cases e:p=q
 ·rw [decide_eq_true e,if_pos rfl]
  rw [if_pos (by rw [e])] at k
  exact .inl k
 ·rw [decide_eq_false e,if_neg Bool.false_ne_true]
  rw [if_neg (fun z=>e (b_ cp cq z))] at k
  refine ⟨_,_,rfl,zp.mono (by decide),zq.mono (by decide),?_⟩
  by_cases w:val p<val q
  ·rw [i9 zp zq w]
   rw [if_pos w] at k
   walk_at "WP"
   exact .inl k
  ·rw [iQ zp zq (by grind)]
   rw [if_neg w] at k
   walk_at "WP"
   exact .inl k
theorem DY {as st Q} (h:ie as st Q):au Γ jL (frame 2 as) st (af st Q):=by
 obtain ⟨k,p,q,rfl,hk,cp,cq,zp,zq,kk⟩:=h
 have up:∀ {x:Nat × Nat},Sz k x→Sz 3000 x:=fun z=>z.mono (by omega)
 unfold jL
 walk_at "WP"
 refine ⟨_,_,rfl,up zp,up zq,?_⟩
 by_cases w:val p<val q
 ·rw [i9 zp zq w]
  walk_at "WP"
  refine ⟨_,_,rfl,up zq,up zp,sub_le (up zq) (up zp) (Rat.le_of_lt w),.inl (kk _ (dg cq.pos cp.pos) (i8 zq zp) (.inl ⟨w,dZ cq.pos cp.pos (Rat.le_of_lt w)⟩))⟩
 ·have le:val q≤val p:=by grind
  rw [iQ zp zq le]
  walk_at "WP"
  refine ⟨_,_,rfl,up zp,up zq,sub_le (up zp) (up zq) le,.inl (kk _ (dg cp.pos cq.pos) (i8 zp zq) (.inr ⟨le,dZ cp.pos cq.pos le⟩))⟩
theorem Gj {l:List Nat} {n:Nat}:(ldV l).bel n=true:=by
 rw [PV.bel]
 induction l with
 | nil=>rw [List.map_nil,PV.bels]
 | cons x xs ih=>rw [List.map_cons,PV.bels,ih];rfl
theorem B7 {as st Q} (h:gA as st Q):au Γ iP (frame 2 as) st (af st Q):=by
 obtain ⟨l,l',rfl,hl,k⟩:=h
 unfold iP
 walk_at "WP"
 refine ⟨by simp;omega,?_⟩
 refine jb Γm (fun j acc s=>s=st∧acc=((l.take j).filter fun w=>l'.contains w).map iV) ⟨rfl,by simp⟩ ?_ ?_
 ·rintro j x acc s hx ⟨rfl,rfl⟩
  refine ⟨trivial,?_⟩
  rw [List.getElem?_map] at hx
  obtain ⟨u,hu,rfl⟩:=Option.map_eq_some_iff.mp hx
  walk_at "WP"
  refine ⟨l'.map (fun n:Nat=>(n:Int)),by rw [List.map_map];rfl,?_⟩
  have e:((l'.map (fun n:Nat=>(n:Int))).any fun j=>j == (u:Int))=l'.contains u:=by
   rw [List.any_map,List.contains_eq_any_beq]
   congr 1
   funext x
   show ((x:Int) == (u:Int))=(u == x)
   by_cases w:u=x
   ·rw [w];simp
   ·have h1:((x:Int) == (u:Int))=false:=by simp;omega
    have h2:(u == x)=false:=by simpa using w
    rw [h1,h2]
  rw [e]
  have et:l.take (j+1)=l.take j++[u]:=by rw [List.take_succ,hu];rfl
  rw [et,List.filter_append,List.map_append]
  refine dl (fun c=>?_) fun c=>?_
  ·rw [List.filter_cons_of_pos c];rfl
  ·rw [List.filter_cons_of_neg c];simp
 ·rintro acc s ⟨rfl,rfl⟩
  refine ⟨trivial,?_⟩
  rw [List.length_map,List.take_length]
  exact ⟨_,ad aA,.app Gj (.inl k)⟩
theorem Ee {c:Two}:cV (some c)=.tup [fr c.1,fr c.2]:=rfl
theorem DQ {A B:List Pc} {a e:Rat} {m y:Two} (hA:SegOk A a e m) (hB:SegOk B a e y) {t:Rat} (ht:a<t∨t=e) (te:t≤e):∃u:Rat,0≤u∧u≤1∧cm 0 A t=some (val m.1+(val m.2-val m.1)*u)∧cm 0 B t=some (val y.1+(val y.2-val y.1)*u)∧(a<e→u=(t-a)/(e-a)):=by
 by_cases q:a<t
 ·obtain ⟨u,u1,u2,u3,u4⟩:=nS (a:=t-a) (w:=e-a) (by grind) (by grind) (by grind)
  exact ⟨u,u3,u4,by rw [hA.mid t q te,u1],by rw [hB.mid t q te,u1],fun _=>u1.symm⟩
 ·have:t=e:=by rcases ht with h|h;exact absurd h q;exact h
  subst this
  refine ⟨1,by grind,by grind,by rw [hA.at_];congr 1;grind,by rw [hB.at_];congr 1;grind,fun h=>absurd h (by grind)⟩
theorem DB {m0 m1 y0 y1 u:Rat} (h0:m0≤y0) (h1:m1≤y1) (u0:0≤u) (u1:u≤1):m0+(m1-m0)*u≤y0+(y1-y0)*u:=by
 have a:=Rat.mul_nonneg (a:=y0-m0) (b:=1-u) (by grind) (by grind)
 have b:=Rat.mul_nonneg (a:=y1-m1) (b:=u) (by grind) u0
 grind
theorem ldr_l {x y:Rat}:0∈ldr x y↔x≤y:=by
 unfold ldr
 by_cases e:x=y
 ·rw [if_pos e];simp;grind
 ·rw [if_neg e]
  by_cases w:x<y
  ·rw [if_pos w];simp;grind
  ·rw [if_neg w];simp;grind
theorem ldr_r {x y:Rat}:1∈ldr x y↔y≤x:=by
 unfold ldr
 by_cases e:x=y
 ·rw [if_pos e];simp;grind
 ·rw [if_neg e]
  by_cases w:x<y
  ·rw [if_pos w];simp;grind
  ·rw [if_neg w];simp;grind
theorem Gv {x y:Rat}:∀u∈ldr x y,u<2:=by
 unfold ldr
 intro u hu
 split at hu
 ·simp at hu;omega
 ·split at hu <;> simp at hu <;> omega
theorem Ej {x y:Rat}:(ldr x y).length≤2:=by
 unfold ldr
 split
 ·simp
 ·split <;> simp
theorem i4 {m0 m1 y0 y1 a e r t:Rat} (ae:a<e) (h0:m0<y0) (h1:y1<m1) (hr:r=a+(e-a)*((m0-y0)/(m0-y0+(y1-m1)))):(a<r∧r<e)∧(t≤r→m0+(m1-m0)*((t-a)/(e-a))≤y0+(y1-y0)*((t-a)/(e-a)))∧(r≤t→y0+(y1-y0)*((t-a)/(e-a))≤m0+(m1-m0)*((t-a)/(e-a))):=by
 obtain ⟨q,hq⟩:∃q,(m0-y0)/(m0-y0+(y1-m1))=q:=⟨_,rfl⟩
 have dn:m0-y0+(y1-m1)≠0:=by grind
 have q1:q*(y0-m0+(m1-y1))=y0-m0:=by rw [←hq];grind
 have D:0<y0-m0+(m1-y1):=by grind
 have qp:0<q:=by
  refine Classical.byContradiction fun z=>?_
  have:=Rat.mul_nonneg (a:=-q) (b:=y0-m0+(m1-y1)) (by grind) (by grind)
  grind
 have ql:q<1:=by
  refine Classical.byContradiction fun z=>?_
  have:=Rat.mul_nonneg (a:=q-1) (b:=y0-m0+(m1-y1)) (by grind) (by grind)
  grind
 rw [hq] at hr
 have w:0<e-a:=by grind
 have r1:=Rat.mul_pos w qp
 have r2:=Rat.mul_pos w (show 0<1-q by grind)
 obtain ⟨u,hu⟩:∃u,(t-a)/(e-a)=u:=⟨_,rfl⟩
 have en:e-a≠0:=by grind
 have u1:u*(e-a)=t-a:=by rw [←hu];grind
 rw [hu]
 refine ⟨⟨by grind,by grind⟩,fun h=>?_,fun h=>?_⟩
 ·have le:u≤q:=by
   refine Classical.byContradiction fun z=>?_
   have:=Rat.mul_pos (a:=u-q) (b:=e-a) (by grind) w
   grind
  have:=Rat.mul_nonneg (a:=q-u) (b:=y0-m0+(m1-y1)) (by grind) (by grind)
  grind
 ·have le:q≤u:=by
   refine Classical.byContradiction fun z=>?_
   have:=Rat.mul_pos (a:=q-u) (b:=e-a) (by grind) w
   grind
  have:=Rat.mul_nonneg (a:=u-q) (b:=y0-m0+(m1-y1)) (by grind) (by grind)
  grind
theorem uH {S:List Pc} {a e:Rat} {c:Two} (h:SegOk S a e c) {t:Rat} (ht:a<t∨t=e) (te:t≤e):∃x,cm 0 S t=some x:=by
 by_cases q:a<t
 ·exact ⟨_,h.mid t q te⟩
 ·have:t=e:=by rcases ht with h|h;exact absurd h q;exact h
  exact ⟨_,by rw [this];exact h.at_⟩
theorem GO {l:List Nat}:aW 4 (ldV l)=true:=rJ fun v hv=>by
 obtain ⟨w,_,rfl⟩:=List.mem_map.mp hv
 rfl
theorem Ch.pw:∀ {r:List Pc} {b:Rat},Ch b r→(r.map Pc.e).Pairwise (fun a b=>val a<val b)∧∀p∈r,b<p.E
 | [],b,_=>⟨List.Pairwise.nil,fun p hp=>(nomatch hp)⟩
 | p::r,b,⟨h1,h2,h3,h4⟩=>by
  obtain ⟨a1,a2⟩:=h4.pw
  refine ⟨?_,fun q hq=>?_⟩
  ·rw [List.map_cons,List.pairwise_cons]
   refine ⟨fun x hx=>?_,a1⟩
   obtain ⟨q,hq,rfl⟩:=List.mem_map.mp hx
   exact a2 q hq
  ·rcases List.mem_cons.mp hq with rfl|hq
   ·exact h2
   ·have:=a2 q hq;grind
theorem RtF.pw {L:List Pc} (h:RtF L):(L.map Pc.e).Pairwise (fun a b=>val a<val b):=by
 cases L with
 | nil=>exact List.Pairwise.nil
 | cons a r=>exact (Ch.pw (b:=a.E-1) (r:=a::r) ⟨h.1,by grind,h.2.1,h.2.2.2.2.ch⟩).1
theorem Ab {as st Q} (h:ft as st Q):au Γ gP (frame 8 as) st (af st Q):=by
 obtain ⟨k,z,w,a,e,m,y,rfl,⟨k1,k2,k3⟩,⟨ca,ce,za,ze⟩,⟨c1,c2,c3,c4⟩,⟨z1,z2,z3,z4⟩,ae,hc,hw,kk⟩:=h
 unfold gP
 walk_at "WP"
 simp only [Ee]
 walk_at "WP"
 refine ⟨z,m.1,y.1,rfl,by omega,c1,c3,z1,z3,fun g cg zg hg=>?_⟩
 refine ⟨z,m.2,y.2,rfl,by omega,c2,c4,z2,z4,fun g' cg' zg' hg'=>?_⟩
 have sz:=D2 zg zg'
 have sc:=DF (p:=g) (q:=g') cg.pos cg'.pos
 have sv:=Ec (p:=g) (q:=g') cg.pos cg'.pos
 have gp:0<val g:=by rcases hc with hc|hc <;> rcases hg with hg|hg <;> grind
 have gp':0<val g':=by rcases hc with hc|hc <;> rcases hg' with hg' | hg' <;> grind
 have z01:Sz 1 (0,1):=⟨by decide,by decide,by decide⟩
 refine ⟨g,g',rfl,zg.mono (by omega),zg'.mono (by omega),?_⟩
 refine ⟨1,k,4*z+1,k,2*z,(0,1),a,zF g g',e,g,rfl,by omega,⟨z01,za,sz.mono (by omega),ze,zg.mono (by omega)⟩,⟨by rw [ag,sv];grind,by rw [ag];grind,by rw [sv];grind⟩,fun r cr zr vr=>?_⟩
 rw [ag,sv] at vr
 obtain ⟨q,q1,q2,q3,q4⟩:=nS (a:=val g-0) (w:=val g+val g'-0) (by grind) (by grind) (by grind)
 rw [q1] at vr
 have a1:val a≤val r:=by
  have:=Rat.mul_nonneg (a:=val e-val a) (b:=q) (by grind) q3
  grind
 have a2:val r≤val e:=by
  have:=Rat.mul_nonneg (a:=val e-val a) (b:=1-q) (by grind) (by grind)
  grind
 have ev:val r=crM (val a) (val e) m y:=by
  rw [vr,←q1]
  unfold crM
  congr 2
  rcases hc with hc|hc
  ·have h1:val g=val y.1-val m.1:=by rcases hg with hg|hg <;> grind
   have h2:val g'=val m.2-val y.2:=by rcases hg' with hg' | hg' <;> grind
   have n1:val g+val g'-0≠0:=by grind
   have n2:val m.1-val y.1+(val y.2-val m.2)≠0:=by grind
   rw [h1,h2] at n1 ⊢
   grind
  ·have h1:val g=val m.1-val y.1:=by rcases hg with hg|hg <;> grind
   have h2:val g'=val y.2-val m.2:=by rcases hg' with hg' | hg' <;> grind
   rw [h1,h2]
   congr 1 <;> grind
 have zw:=hw r cr ev
 refine ⟨k,z,k,z,w,a,m.1,e,m.2,r,rfl,by omega,⟨za,z1,ze,z2,zw⟩,⟨ae,a1,a2⟩,fun co cco zco vco=>?_⟩
 refine ⟨_,_,rfl,z1.mono (by omega),z3.mono (by omega),?_⟩
 have:=kk r co cr zw ev cco vco
 by_cases u:val m.1<val y.1
 ·rw [i9 z1 z3 u]
  walk_at "WP"
  simp only [if_pos u] at this
  exact .inl this
 ·rw [iQ z1 z3 (by grind)]
  walk_at "WP"
  simp only [if_neg u] at this
  exact .inl this
theorem SegF.of {f g:Rat→Option Rat} {a e:Rat} {c:Two} (h:SegF f a e c) (ae:a≤e) (hg:∀t,(a<t∨t=e)→t≤e→g t=f t):SegF g a e c :=
 ⟨h.cl,h.ch,h.le,by rw [hg e (.inr rfl) Rat.le_refl];exact h.at_,h.zero,fun t t1 t2=>by rw [hg t (.inl t1) t2];exact h.mid t t1 t2⟩
theorem SegOk.lesL {A B:List Pc} {a e:Rat} {m:Two} (h:SegOk A a e m) (ae:a≤e) (hb:∀t x y,(a<t∨t=e)→t≤e→cm 0 A t=some x→cm 0 B t=some y→x≤y):SegF (les A B) a e m:=h.f.of ae fun t ht te=>by
 obtain ⟨x,hx⟩:=uH h ht te
 rw [hx]
 exact nO hx fun y hy=>hb t x y ht te hx hy
theorem SegOk.lesR {A B:List Pc} {a e:Rat} {m:Two} (h:SegOk B a e m) (ae:a≤e) (hb:∀t x y,(a<t∨t=e)→t≤e→cm 0 A t=some x→cm 0 B t=some y→y≤x):SegF (les A B) a e m:=h.f.of ae fun t ht te=>by
 obtain ⟨x,hx⟩:=uH h ht te
 rw [hx]
 exact ui hx fun y hy=>hb t y x ht te hy hx
theorem BL {A B:List Pc} {a e:Rat} {m y:Two} (hA:SegOk A a e m) (hB:SegOk B a e y) (h1:val m.1≤val y.1) (h2:val m.2≤val y.2):∀t x z,(a<t∨t=e)→t≤e→cm 0 A t=some x→cm 0 B t=some z→x≤z:=fun t x z ht te hx hz=>by
 obtain ⟨v,v0,v1,e1,e2,_⟩:=DQ hA hB ht te
 rw [e1] at hx
 rw [e2] at hz
 cases hx
 cases hz
 exact DB h1 h2 v0 v1
theorem yW {f:Rat→Option Rat} {a e:Rat} {m:Two} {r co:Nat × Nat} (h:SegF f a e m) (ar:a<val r) (re:val r<e) (cc:Cop co) (vc:val co=val m.1+(val m.2-val m.1)*((val r-a)/(e-a))):SegF f a (val r) (m.1,co)∧SegF f (val r) e (co,m.2):=by
 have en:e-a≠0:=by grind
 obtain ⟨s,hs⟩:∃s,(val m.2-val m.1)/(e-a)=s:=⟨_,rfl⟩
 have le:=h.le
 have hs2:val m.2=val m.1+s*(e-a):=by grind
 have s0:0≤s:=Classical.byContradiction fun z=>by
  have:=Rat.mul_pos (a:=-s) (b:=e-a) (by grind) (by grind)
  grind
 have vc2:val co=val m.1+s*(val r-a):=by grind
 have p1:=Rat.mul_nonneg (a:=s) (b:=val r-a) s0 (by grind)
 have p2:=Rat.mul_nonneg (a:=s) (b:=e-val r) s0 (by grind)
 have md:∀t,a<t→t≤e→f t=some (val m.1+s*(t-a)):=fun t t1 t2=>by
  rw [h.mid t t1 t2];congr 1;grind
 refine ⟨⟨h.cl,cc,by show val m.1≤val co;grind,by show f (val r)=some (val co);rw [md _ ar (by grind),vc2],fun z=>by grind,fun t t1 t2=>?_⟩,⟨cc,h.ch,by show val co≤val m.2;grind,h.at_,fun z=>by grind,fun t t1 t2=>?_⟩⟩
 ·rw [md t t1 (by grind)]
  show _=some (val m.1+(val co-val m.1)*_)
  congr 1
  have:val r-a≠0:=by grind
  grind
 ·rw [md t (by grind) t2]
  show _=some (val co+(val m.2-val co)*_)
  congr 1
  have:e-val r≠0:=by grind
  grind
theorem rH {A B:List Pc} {a e:Rat} {m y:Two} {r co:Nat × Nat} (hA:SegOk A a e m) (hB:SegOk B a e y) (ae:a<e) (h0:val m.1<val y.1) (h1:val y.2<val m.2) (hr:val r=crM a e m y) (cc:Cop co) (vc:val co=val m.1+(val m.2-val m.1)*((val r-a)/(e-a))) :
  a<val r∧val r<e∧SegF (les A B) a (val r) (m.1,co)∧SegF (les A B) (val r) e (co,y.2):=by
 have c:=fun t=>i4 (t:=t) ae h0 h1 hr
 obtain ⟨r1,r2⟩:=(c 0).1
 have same:val m.1+(val m.2-val m.1)*((val r-a)/(e-a))=val y.1+(val y.2-val y.1)*((val r-a)/(e-a)):=by
  have a1:=(c (val r)).2.1 Rat.le_refl
  have a2:=(c (val r)).2.2 Rat.le_refl
  grind
 have sA:=(yW hA.f r1 r2 cc vc).1
 have sB:=(yW hB.f r1 r2 cc (by rw [vc,same])).2
 refine ⟨r1,r2,sA.of (Rat.le_of_lt r1) fun t ht te=>?_,sB.of (Rat.le_of_lt r2) fun t ht te=>?_⟩
 ·have e1:=hA.mid t (by grind) (by grind)
  have e2:=hB.mid t (by grind) (by grind)
  rw [e1]
  exact nO e1 fun z hz=>by rw [e2] at hz;cases hz;exact (c t).2.1 te
 ·have e1:=hA.mid t (by grind) te
  have e2:=hB.mid t (by grind) te
  rw [e2]
  exact ui e2 fun z hz=>by rw [e1] at hz;cases hz;exact (c t).2.2 (by grind)
theorem SegF.comm {A B:List Pc} {a e:Rat} {c:Two} (h:SegF (les A B) a e c):SegF (les B A) a e c:=by
 have:les B A=les A B:=funext fun t=>gq
 rw [this];exact h
theorem jR {as st Q} (h:bf as st Q):au Γ cx (frame 7 as) st (af st Q):=by
 obtain ⟨k,z,w,A,B,a,e,mi,yo,rfl,⟨k1,k2,k3⟩,⟨ca,ce,za,ze⟩,ae,hA,hB,nn,hw,kk⟩:=h
 have one:∀(c:Two) (v:List Nat),SegF (les A B) (val a) (val e) c→Q (.ref st.length) (st++[Cell.lst [.tup [fr e,fr c.1,fr c.2,ldV v]]]):=fun c v hs =>
  kk [(⟨e,c.1,c.2⟩,v)] _ _ aA (.inl ⟨_,_,rfl,rfl,hs⟩) (by simp)
 unfold cx
 walk_at "WP"
 cases mi with
 | none =>
  cases yo with
  | none=>exact absurd rfl (nn rfl)
  | some y =>
   obtain ⟨sB,_,_⟩:=hB
   simp only [cV]
   walk_at "WP"
   exact .inl (one y [1] (sB.lesR ae fun t x z ht te hx=>by rw [hA t ht] at hx;cases hx))
 | some m =>
  obtain ⟨sA,z1,z2⟩:=hA
  cases yo with
  | none =>
   simp only [cV]
   walk_at "WP"
   exact .inl (one m [0] (sA.lesL ae fun t x z ht te hx hz=>by rw [hB t ht] at hz;cases hz))
  | some y =>
   obtain ⟨sB,z3,z4⟩:=hB
   simp only [cV]
   walk_at "WP"
   refine ⟨m.1,y.1,rfl,sA.cl,sB.cl,z1.mono (by omega),z3.mono (by omega),?_⟩
   refine ⟨m.2,y.2,rfl,sA.ch,sB.ch,z2.mono (by omega),z4.mono (by omega),?_⟩
   refine ⟨_,_,rfl,Ej,?_⟩
   generalize hu:((ldr (val m.1) (val y.1)).filter fun u=>(ldr (val m.2) (val y.2)).contains u)=u
   have mem:∀x,x∈u↔x∈ldr (val m.1) (val y.1)∧x∈ldr (val m.2) (val y.2):=fun x=>by rw [←hu,List.mem_filter];simp
   refine d6 (n:=4) (by decide) GO rfl ?_
   rw [kO]
   cases u with
   | nil =>
    rw [if_pos (by rfl)]
    have n0:¬(val m.1≤val y.1∧val m.2≤val y.2):=fun h=>by have:=(mem 0).mpr ⟨ldr_l.mpr h.1,ldr_l.mpr h.2⟩;cases this
    have n1:¬(val y.1≤val m.1∧val y.2≤val m.2):=fun h=>by have:=(mem 1).mpr ⟨ldr_r.mpr h.1,ldr_r.mpr h.2⟩;cases this
    have hc:Crs m y:=by unfold Crs;grind
    have lt:val a<val e:=Classical.byContradiction fun q=>by
     have eq:val a=val e:=by grind
     have e1:=sA.zero eq
     have e2:=sB.zero eq
     unfold Crs at hc
     rw [e1,e2] at hc
     grind
    refine ⟨k,z,w,a,e,m,y,rfl,⟨k1,k2,k3⟩,⟨ca,ce,za,ze⟩,⟨sA.cl,sA.ch,sB.cl,sB.ch⟩,⟨z1,z2,z3,z4⟩,lt,hc,hw m y rfl rfl lt hc,fun r co cr zr vr cc vc=>.inl ?_⟩
    rcases hc with ⟨h0,h1⟩|⟨h0,h1⟩
    ·simp only [if_pos h0]
     obtain ⟨r1,r2,s1,s2⟩:=rH sA sB lt h0 h1 vr cc vc
     exact kk _ _ _ aA (.inr ⟨_,_,_,_,rfl,rfl,r1,r2,cr,zr,s1,s2⟩) (by simp)
    ·have h0':¬val m.1<val y.1:=by grind
     simp only [if_neg h0']
     have vr':val r=crM (val a) (val e) y m:=by
      rw [vr]
      unfold crM
      have n1:val m.1-val y.1+(val y.2-val m.2)≠0:=by grind
      have n2:val y.1-val m.1+(val m.2-val y.2)≠0:=by grind
      congr 2
      grind
     have c:=(i4 (t:=val r) lt h0 h1 vr').2
     have same:val co=val y.1+(val y.2-val y.1)*((val r-val a)/(val e-val a)):=by
      have a1:=c.1 Rat.le_refl
      have a2:=c.2 Rat.le_refl
      grind
     obtain ⟨r1,r2,s1,s2⟩:=rH sB sA lt h0 h1 vr' cc same
     exact kk _ _ _ aA (.inr ⟨_,_,_,_,rfl,rfl,r1,r2,cr,zr,s1.comm,s2.comm⟩) (by simp)
   | cons u w' =>
    rw [if_neg (by simp)]
    obtain ⟨u1,u2⟩:=(mem u).mp (by simp)
    walk_at "WP"
    have ul:=Gv u u1
    refine dl (fun q=>.inl (one m _ ?_)) fun q=>.inl (one y _ ?_)
    ·have:u=0:=by simpa using q
     subst this
     exact sA.lesL ae (BL sA sB (ldr_l.mp u1) (ldr_l.mp u2))
    ·have:u=1:=by
      have:u≠0:=fun z=>q (by rw [z];rfl)
      omega
     subst this
     exact sB.lesR ae fun t x z ht te hx hz=>BL sB sA (ldr_r.mp u1) (ldr_r.mp u2) t z x ht te hz hx
theorem yB {d k e v n:Nat} {L:List Pc} (h:Stl d k e v n L):Ends e (L.map Pc.e):=⟨h.rt.pw,fun t ht=>by
 obtain ⟨p,hp,rfl⟩:=List.mem_map.mp ht
 obtain ⟨i,hi⟩:=List.getElem?_of_mem hp
 exact ⟨(h.rt.at_ hi).1.e,h.en p hp⟩⟩
theorem DP {d D k m v n z:Nat} {S:List Pc} {a e:Nat × Nat} {c:Option Two} (h:Stl d k m v n S) (d0:0<d) (dD:d<2 ^ D) (ca:Cop a) (ce:Cop e) (za:Sz m a) (ze:Sz m e) (ae:val a≤val e) (hc:mG S z (val a) (val e) c):mG S (D+k+m+v) (val a) (val e) c:=by
 cases c with
 | none=>exact hc
 | some c =>
  obtain ⟨s,_,_⟩:=hc
  obtain ⟨z1,z2⟩:=A3 s.f ca ce za ze ae h.lin d0 dD (h.hi _ _ (aU ce.pos) s.at_)
  exact ⟨s,z1,z2⟩
theorem AJ {d D k m v n:Nat} {A B:List Pc} {a e r:Nat × Nat} {c c':Two} (hA:Stl d k m v n A) (hB:Stl d k m v n B) (d0:0<d) (dD:d<2 ^ D) (ca:Cop a) (ce:Cop e) (ae:val a<val e) (s:SegOk A (val a) (val e) c) (s':SegOk B (val a) (val e) c') (hc:Crs c c') (cr:Cop r) (vr:val r=crM (val a) (val e) c c'):Sz (D+2*k+v) r:=by
 obtain ⟨P,Q,R,b,h1,h2⟩:=sf s.f (aU ca.pos) (Rat.le_of_lt ae) hA.lin
 obtain ⟨P',Q',R',b',h3,h4⟩:=sf s'.f (aU ca.pos) (Rat.le_of_lt ae) hB.lin
 refine A_ cr d0 dD b b' ae h1 h2 h3 h4 hc vr ?_
 have e1:=xD hA.rt (aU ce.pos) s.at_
 have e2:=hA.hi _ _ (aU ce.pos) s.at_
 have:val r<val e:=by
  rcases hc with ⟨h0,h1⟩|⟨h0,h1⟩
  ·exact (i4 (t:=0) ae h0 h1 vr).1.2
  ·refine (i4 (t:=0) (r:=val r) ae h0 h1 ?_).1.2
   rw [vr]
   unfold crM
   have n1:val c.1-val c'.1+(val c'.2-val c.2)≠0:=by grind
   have n2:val c'.1-val c.1+(val c.2-val c'.2)≠0:=by grind
   congr 2
   grind
 grind
structure ZL (A B:List Pc) (T:List (Nat × Nat)) (w i:Nat) (Z:List Pw):Prop where
 zr:i=0→Z=[]
 hd:i≠0→∃c X,Z.map Prod.fst=⟨(0,1),c,c⟩::X∧Cop c∧les A B 0=some (val c)∧Ch 0 X∧lQ 0 X=val (bgT T i)∧∀t,0<t→t≤val (bgT T i)→cm 0 X t=les A B t
 sz:∀q∈Z,Sz w q.1.e
 ln:Z.length≤2*i
theorem ZL.put {A B X R:List Pc} {b e:Rat} (hX:Ch 0 X) (lX:lQ 0 X=b) (cX:∀t,0<t→t≤b→cm 0 X t=les A B t) (hR:Ch b R) (lR:lQ b R=e) (be:b<e) (he:∃y,les A B e=some y) (cR:∀t,b<t→t≤e→cm b R t=les A B t):Ch 0 (X++R)∧lQ 0 (X++R)=e∧∀t,0<t→t≤e→cm 0 (X++R) t=les A B t:=by
 refine ⟨Ch.app hR hX (by rw [lX];exact Rat.le_refl),?_,fun t t0 te=>?_⟩
 ·rw [←lR,←lX]
  unfold lQ
  rcases dB R with rfl|⟨Y,c,rfl⟩
  ·rw [List.append_nil];rfl
  ·rw [←List.append_assoc,List.getLast?_concat,List.getLast?_concat];rfl
 ·by_cases w:t≤b
  ·obtain ⟨y,hy⟩:=he
   obtain ⟨z,hz⟩:=D8 te hy
   rw [hz]
   exact ms (by rw [cX t t0 w];exact hz)
  ·have n:cm 0 X t=none:=dq fun q hq=>by have:=(Ch.lst hX).2 q hq;rw [lX] at this;grind
   rw [mC n,lX]
   exact cR t (by grind) te
theorem xg {f:Rat→Option Rat} {b:Rat} {q:Pc} (h:SegF f b q.E (q.l,q.h)) (be:b<q.E) (ce:Cop q.e):q.Ok∧q.L≤q.H∧∀r t,b<t→t≤q.E→cm b (q::r) t=f t:=by
 refine ⟨⟨ce,h.cl,h.ch⟩,h.le,fun r t t1 t2=>?_⟩
 rw [h.mid t t1 t2,cm,if_pos t2,if_neg (by grind)]
theorem ZL.step {A B:List Pc} {T:List (Nat × Nat)} {w i j:Nat} {Z R:List Pw} {t:Nat × Nat} (h:ZL A B T w i Z) (hE:Ends j T) (t0:T[0]?=some (0,1)) (ht:T[i]?=some t) (hR:Iv A B (val (bgT T i)) t w R) (ct:Cop t) (zt:Sz w t) (lR:R.length≤2):ZL A B T w (i+1) (Z++R):=by
 have bt:bgT T (i+1)=t:=mS ht
 have sz:∀q∈Z++R,Sz w q.1.e:=fun q hq=>by
  rcases List.mem_append.mp hq with hq|hq
  ·exact h.sz q hq
  ·rcases hR with ⟨q0,v,rfl,qe,_⟩|⟨q1,q2,v1,v2,rfl,qe,_,_,_,z1,_⟩
   ·rw [List.mem_singleton] at hq;rw [hq];show Sz w q0.e;rw [qe];exact zt
   ·simp only [List.mem_cons,List.not_mem_nil,or_false] at hq
    rcases hq with rfl|rfl
    ·exact z1
    ·show Sz w q2.e;rw [qe];exact zt
 refine ⟨fun z=>absurd z (by omega),fun _=>?_,sz,by have:=h.ln;rw [List.length_append];omega⟩
 rw [bt]
 cases i with
 | zero =>
  rw [t0] at ht
  cases ht
  rw [h.zr rfl,List.nil_append]
  have v0:val (bgT T 0)=0:=ag
  rw [v0] at hR
  rcases hR with ⟨q,v,rfl,qe,s⟩|⟨q1,q2,v1,v2,rfl,qe,a1,a2,_⟩
  ·rw [ag] at s
   have e1:q.l=q.h:=s.zero rfl
   refine ⟨q.l,[],?_,s.cl,?_,trivial,by rw [ag];rfl,fun u u0 u1=>by rw [ag] at u1;grind⟩
   ·show [q]=_
    obtain ⟨e,l,hh⟩:=q
    cases qe
    cases e1
    rfl
   ·rw [e1];exact s.at_
  ·rw [ag] at a2;grind
 | succ i =>
  obtain ⟨c,X,hX,cc,l0,chX,lX,cX⟩:=h.hd (by omega)
  have lt:val (bgT T (i+1))<val t:=by
   have il:=(List.getElem?_eq_some_iff.mp ht).1
   have hi:=List.getElem?_eq_getElem (show i<T.length by omega)
   rw [mS hi]
   exact hE.lt hi ht (by omega)
  refine ⟨c,X++R.map Prod.fst,by rw [List.map_append,hX];rfl,cc,l0,?_⟩
  rcases hR with ⟨q,v,rfl,qe,s⟩|⟨q1,q2,v1,v2,rfl,qe,a1,a2,c1,z1,s1,s2⟩
  ·have qE:q.E=val t:=by show val q.e=_;rw [qe]
   have he:∃y,les A B (val t)=some y:=⟨_,s.at_⟩
   rw [←qE] at s lt he ⊢
   obtain ⟨ok,le,hc⟩:=xg s lt (by rw [qe];exact ct)
   exact ZL.put (R:=[q]) chX lX cX ⟨ok,lt,le,trivial⟩ rfl lt he (hc [])
  ·have qE:q2.E=val t:=by show val q2.e=_;rw [qe]
   have he:∃y,les A B (val t)=some y:=⟨_,s2.at_⟩
   rw [←qE] at s2 lt he a2 ⊢
   obtain ⟨ok1,le1,hc1⟩:=xg s1 a1 c1
   obtain ⟨ok2,le2,hc2⟩:=xg s2 a2 (by rw [qe];exact ct)
   refine ZL.put (R:=[q1,q2]) chX lX cX ⟨ok1,a1,le1,ok2,a2,le2,trivial⟩ rfl lt he fun u u1 u2=>?_
   by_cases w:u≤q1.E
   ·exact hc1 [q2] u u1 w
   ·rw [dO (by grind)];exact hc2 [] u (by grind) u2
theorem ZL.all {A B:List Pc} {T:List (Nat × Nat)} {w j:Nat} {Z:List Pw} (h:ZL A B T w T.length Z) (hE:Ends j T) (t0:T[0]?=some (0,1)) (hA:RtF A) (hB:RtF B) (mem:∀t,t∈T↔t=(0,1)∨∃p∈A++B,p.e=t):RtF (Z.map Prod.fst)∧∀t,0≤t→cm 0 (Z.map Prod.fst) t=les A B t:=by
 have tl:T.length≠0:=fun w=>by rw [List.length_eq_zero_iff.mp w] at t0;cases t0
 obtain ⟨c,X,hX,cc,l0,chX,lX,cX⟩:=h.hd tl
 have hl:T.length-1<T.length:=by omega
 have hT:=List.getElem?_eq_getElem hl
 have el:bgT T T.length=T[T.length-1]:=by
  have:=mS hT
  rwa [Nat.sub_add_cancel (by omega)] at this
 have top:∀p∈A++B,p.E≤val (bgT T T.length):=fun p hp=>by
  obtain ⟨i,hi⟩:=List.getElem?_of_mem ((mem p.e).mpr (.inr ⟨p,hp,rfl⟩))
  have il:=(List.getElem?_eq_some_iff.mp hi).1
  rw [el]
  by_cases w:i=T.length-1
  ·subst w;rw [hT] at hi;rw [Option.some.inj hi];exact Rat.le_refl
  ·exact Rat.le_of_lt (hE.lt hi hT (by omega))
 have all:∀t,0≤t→cm 0 (Z.map Prod.fst) t=les A B t:=fun t tp=>by
  rw [hX]
  have v0:Pc.E ⟨(0,1),c,c⟩=0:=ag
  by_cases z:t=0
  ·subst z
   rw [cm,v0,if_pos Rat.le_refl,if_pos rfl,l0]
  ·rw [dO (by rw [v0];grind),v0]
   by_cases w:t≤val (bgT T T.length)
   ·exact cX t (by grind) w
   ·rw [dq fun q hq=>by have:=(Ch.lst chX).2 q hq;rw [lX] at this;grind]
    exact (les_no.mpr ⟨dq fun q hq=>by have:=top q (by simp [hq]);grind,dq fun q hq=>by have:=top q (by simp [hq]);grind⟩).symm
 refine ⟨?_,all⟩
 have v0:Pc.E ⟨(0,1),c,c⟩=0:=ag
 refine Gx (by rw [hX];exact ⟨⟨mH,cc,cc⟩,Rat.le_refl,by rw [v0];exact chX⟩) (fun p r e _=>by rw [hX] at e;cases e;rfl) (fun t y tp hy=>?_) fun t u y z tp tu hy hz=>?_
 ·rw [all t tp] at hy;exact F4 hA hB tp hy
 ·rw [all t tp] at hy;rw [all u (by grind)] at hz;exact Gw hA hB tp tu hy hz
noncomputable def CpI (S0:AH) (A B:List Pc) (T:List (Nat × Nat)) (w nT nZ:Nat) (i:Nat) (ρ:Fr) (s:AH):Prop:=∃(Z:List Pw) (g:AH) (a b c:Option PV),s=(S0.set nZ (.lst (Z.map q2V)))++g∧ZL A B T w i Z∧ρ=[some (bS A),some (bS B),some (.ref nT),some (.ref nZ),some (fr (bgT T i)),a,b,c]
theorem xu {as st Q} (h:eF as st Q):au Γ fJ (frame 8 as) st (af st Q):=by
 obtain ⟨d,D,κ,e,e',v,n,A,B,rfl,ls,hA,hB,k⟩:=h
 obtain ⟨d0,dD,l1,l2,l3',l4,l5,l6,l7⟩:=ls
 have la:=hA.ln
 have lb:=hB.ln
 have EA:=yB hA
 have EB:=yB hB
 unfold fJ
 rw [jf]
 show wpS Γ (.ifS _ _ _) [some (bS A),some (bS B),none,none,none,none,none,none] st _
 refine ifS (fun s=>s=st∧A=[]∧B=[]) (fun s=>s=st∧(A≠[]∨B≠[])) ?_ ?_ ?_
 ·walk_at "WP"
  refine d6 (n:=4) (by decide) b9 rfl ?_
  rw [kO]
  cases A with
  | nil =>
   rw [if_pos (by rfl)]
   refine d6 (n:=4) (by decide) b9 rfl ?_
   rw [kO]
   cases B with
   | nil=>rw [if_pos (by rfl)];simp
   | cons b B=>rw [if_neg (by simp)];simp
  | cons a A=>rw [if_neg (by simp)];simp
 ·rintro s ⟨rfl,rfl,rfl⟩
  walk_at "WP"
  exact .inl (k [] _ _ aA trivial (fun t _=>rfl) (fun q hq=>(nomatch hq)) (by simp))
 rintro s ⟨rfl,hne⟩
 show au Γ (.cons _ _) _ _ _
 have ef:∀L:List Pc,(L.map pcV).map (fun x=>match x with | .tup [a,_,_]=>a|v=>v)=(L.map Pc.e).map fr:=fun L=>by rw [List.map_map,List.map_map];rfl
 have el:∀(L:List Pc) (x:PV),x∈L.map pcV→∃p,p∈L∧x=pcV p:=fun L x hx=>by obtain ⟨p,hp,rfl⟩:=List.mem_map.mp hx;exact ⟨p,hp,rfl⟩
 walk_at "WP"
 refine ⟨by simp;omega,FW.comp_map Γm (fun x=>match x with | .tup [a,_,_]=>a|v=>v) trivial (fun x hx=>by obtain ⟨p,hp,rfl⟩:=el A x hx;walk_at "WP") ?_⟩
 refine ⟨by simp;omega,FW.comp_map Γm (fun x=>match x with | .tup [a,_,_]=>a|v=>v) trivial (fun x hx=>by obtain ⟨p,hp,rfl⟩:=el B x hx;walk_at "WP") ?_⟩
 rw [ef,ef]
 refine ⟨e,_,_,_,_,rfl,by omega,aC aA,aA,EA,EB,by simp;omega,fun U g1 r1 h1 EU mU lU=>?_⟩
 have z01:Sz e (0,1):=⟨Nat.pow_pos (by decide),Nat.one_lt_two_pow (by omega),by decide⟩
 have E0:Ends e [(0,1)]:=⟨List.pairwise_singleton ..,fun t ht=>by rw [List.mem_singleton] at ht;rw [ht];exact ⟨mH,z01⟩⟩
 refine ⟨e,_,r1,[(0,1)],U,rfl,by omega,?_,h1,E0,EU,by simp at lU ⊢;omega,fun T g2 nT h2 ET mT lT=>?_⟩
 ·simp only [List.append_assoc]
  rw [e_]
  rfl
 have mem:∀t,t∈T↔t=(0,1)∨∃p∈A++B,p.e=t:=fun t=>by
  rw [mT,mU,List.mem_singleton]
  simp only [List.mem_map,List.mem_append,or_and_right,exists_or]
 have lT2:T.length≤2*n+1:=by simp at lU lT;omega
 have zA:=hA.sz l1 d0 dD
 have zB:=hB.sz l1 d0 dD
 have t0:T[0]?=some (0,1):=by
  obtain ⟨i,hi⟩:=List.getElem?_of_mem ((mem (0,1)).mpr (.inl rfl))
  cases i with
  | zero=>exact hi
  | succ i =>
   have il:=(List.getElem?_eq_some_iff.mp hi).1
   have h0:=List.getElem?_eq_getElem (show 0<T.length by omega)
   have:=ET.lt h0 hi (by omega)
   rw [ag] at this
   have:=aU (ET.ok _ (List.getElem_mem (show 0<T.length by omega))).1.pos
   grind
 have tl:T≠[]:=fun e=>by rw [e] at t0;cases t0
 obtain ⟨G0,hG0⟩:∃G0,s++[Cell.lst [bF]]++[Cell.lst ((A.map Pc.e).map fr)]++[Cell.lst ((B.map Pc.e).map fr)]++g1++g2=s++G0:=⟨[Cell.lst [bF]]++([Cell.lst ((A.map Pc.e).map fr)]++([Cell.lst ((B.map Pc.e).map fr)]++(g1++g2))),by simp only [List.append_assoc]⟩
 rw [hG0] at h2 ⊢
 have mA:∀p∈A,p.e∈T:=fun p hp=>(mem p.e).mpr (.inr ⟨p,by simp [hp],rfl⟩)
 have mB:∀p∈B,p.e∈T:=fun p hp=>(mem p.e).mpr (.inr ⟨p,by simp [hp],rfl⟩)
 refine ⟨_,e,A,nT,T,rfl,by omega,hA.rt,zA,aC h2,ET,t0,mA,by omega,by omega,fun C1 g3 r3 h3 l3 ok3=>?_⟩
 refine ⟨_,e,B,nT,T,rfl,by omega,hB.rt,zB,aC (aC h2),ET,t0,mB,by omega,by omega,fun C2 g4 r4 h4 l4 ok4=>?_⟩
 have hT':(s++G0++[Cell.lst []]++g3++g4)[nT]?=_:=aC (aC (aC h2))
 have h3':(s++G0++[Cell.lst []]++g3++g4)[r3]?=_:=aC h3
 have hZ':(s++G0++[Cell.lst []]++g3++g4)[(s++G0).length]?=some (.lst []):=aC (aC aA)
 have nTl:nT<(s++G0).length:=cW h2
 have sl:s.length≤(s++G0).length:=by simp
 obtain ⟨Gs,hGs⟩:∃Gs,s++G0++[Cell.lst []]++g3++g4=s++Gs:=⟨G0++([Cell.lst []]++(g3++g4)),by simp only [List.append_assoc]⟩
 rw [hGs] at hT' h3' hZ' h4 ⊢
 generalize (s++G0).length=nZ at hZ' nTl sl
 have r3n:r3≠nZ:=fun e=>by
  rw [e,hZ'] at h3'
  have:C1=[]:=by simpa using h3'
  rw [this] at l3
  exact tl (List.length_eq_zero_iff.mp l3.symm)
 have r4n:r4≠nZ:=fun e=>by
  rw [e,hZ'] at h4
  have:C2=[]:=by simpa using h4
  rw [this] at l4
  exact tl (List.length_eq_zero_iff.mp l4.symm)
 have zl:=cW hZ'
 have keep:∀(x:Nat) (X:Cell) (g:AH) (c:Cell),x≠nZ→(s++Gs)[x]?=some c→((s++Gs).set nZ X++g)[x]?=(s++Gs)[x]?:=fun x X g c hx hc=>by
  rw [List.getElem?_append_left (by rw [List.length_set];exact cW hc),List.getElem?_set_ne (Ne.symm hx)]
 refine ⟨_,ad hT',_,ad h3',_,ad h4,?_⟩
 have chk:∀(X:Cell) (g:AH),cy (s++Gs) (.ref nT) ((s++Gs).set nZ X++g)∧cy (s++Gs) (.ref r3) ((s++Gs).set nZ X++g)∧cy (s++Gs) (.ref r4) ((s++Gs).set nZ X++g):=fun X g=>⟨keep nT X g _ (by omega) hT',keep r3 X g _ r3n h3',keep r4 X g _ r4n h4⟩
 refine gR Γm (CpI (s++Gs) A B T e' nT nZ) ⟨[],[],none,none,none,by rw [List.append_nil];exact (AX hZ').symm,⟨fun _=>rfl,fun h=>absurd rfl h,fun q hq=>(nomatch hq),Nat.le_refl _⟩,rfl⟩ ?_ ?_
 ·rintro i v ρ s' hi ⟨Z,g,a,b,c,rfl,I,rfl⟩
  refine ⟨chk _ _,?_⟩
  obtain ⟨x,y,z,hx,hy,hz,rfl⟩:=mn hi
  rw [List.getElem?_map] at hx hy hz
  obtain ⟨t,ht,rfl⟩:=Option.map_eq_some_iff.mp hx
  obtain ⟨c1,hc1,rfl⟩:=Option.map_eq_some_iff.mp hy
  obtain ⟨c2,hc2,rfl⟩:=Option.map_eq_some_iff.mp hz
  have il:=(List.getElem?_eq_some_iff.mp ht).1
  obtain ⟨ct,tz⟩:=ET.ok t (List.mem_of_getElem? ht)
  obtain ⟨cb,zb⟩:=FZ ET l1 (show i≤T.length by omega)
  have o1:=ok3 i c1 hc1
  have o2:=ok4 i c2 hc2
  rw [mS ht] at o1 o2
  have le:val (bgT T i)≤val t:=by
   cases i with
   | zero=>rw [t0] at ht;cases ht;exact Rat.le_refl
   | succ i =>
    have hi':=List.getElem?_eq_getElem (show i<T.length by omega)
    rw [mS hi']
    exact Rat.le_of_lt (ET.lt hi' ht (by omega))
  have nn:c1=none→c2≠none:=fun e1 e2=>by
   subst e1 e2
   have n1:cm 0 A (val t)=none:=o1 (val t) (.inr rfl)
   have n2:cm 0 B (val t)=none:=o2 (val t) (.inr rfl)
   have dom:∀(L:List Pc),RtF L→∀p∈L,val t≤p.E→cm 0 L (val t)=none→False:=fun L hL p hp hle hn=>by
    obtain ⟨y,hy⟩:=xw (b:=0) hp
    obtain ⟨y',hy'⟩:=fQ hle hy
    rw [hn] at hy';cases hy'
   rcases (mem t).mp (List.mem_of_getElem? ht) with rfl|⟨p,hp,rfl⟩
   ·rcases hne with w|w
    ·obtain ⟨p,hp⟩:=List.exists_mem_of_ne_nil _ w
     obtain ⟨i,hi⟩:=List.getElem?_of_mem hp
     exact dom A hA.rt p hp (by rw [ag];exact aU (hA.rt.at_ hi).1.e.pos) n1
    ·obtain ⟨p,hp⟩:=List.exists_mem_of_ne_nil _ w
     obtain ⟨i,hi⟩:=List.getElem?_of_mem hp
     exact dom B hB.rt p hp (by rw [ag];exact aU (hB.rt.at_ hi).1.e.pos) n2
   ·rcases List.mem_append.mp hp with hp|hp
    ·exact dom A hA.rt p hp Rat.le_refl n1
    ·exact dom B hB.rt p hp Rat.le_refl n2
  have gz:∀(X:Cell) (g:AH),((s++Gs).set nZ X++g)[nZ]?=some X:=fun X g=>by rw [List.getElem?_append_left (by rw [List.length_set];exact zl),List.getElem?_set_self zl]
  have lZ:=I.ln
  walk_at "WP"
  refine ⟨e,D+κ+e+v,e',A,B,bgT T i,t,c1,c2,rfl,by omega,⟨cb,ct,zb,tz⟩,le,DP hA d0 dD cb ct zb tz le o1,DP hB d0 dD cb ct zb tz le o2,nn,fun m y hmm hyy lt hc r cr vr=>?_,fun R g' n' hn' bR lR=>?_⟩
  ·subst hmm hyy
   exact (AJ hA hB d0 dD cb ct lt o1.1 o2.1 hc cr vr).mono l3'
  walk_at "WP"
  rw [List.append_assoc] at hn'
  refine ⟨_,gz _ _,_,hn',by simp;omega,Z++R,g++g',_,_,_,?_,I.step ET t0 ht bR ct (tz.mono l2) lR,by rw [mS ht]⟩
  rw [List.set_append_left _ _ (by rw [List.length_set];exact zl),List.set_set,List.map_append]
 ·rintro ρ s' ⟨Z,g,a,b,c,rfl,I,rfl⟩
  refine ⟨chk _ _,?_⟩
  have lz:(eQ (T.map fr) (C1.map cV) (C2.map cV)).length=T.length:=by rw [lm];simp;omega
  rw [lz] at I
  have lZ:=I.ln
  walk_at "WP"
  have e:(s++Gs).set nZ (.lst (Z.map q2V))=s++Gs.set (nZ-s.length) (.lst (Z.map q2V)):=List.set_append_right _ _ sl
  rw [e,List.append_assoc]
  obtain ⟨a1,a2⟩:=I.all ET t0 hA.rt hB.rt mem
  refine .inl (k Z _ _ ?_ a1 a2 I.sz (by omega))
  rw [←List.append_assoc,←e,List.getElem?_append_left (by rw [List.length_set];exact zl),List.getElem?_set_self zl]
theorem BA {P:Nat × Nat→Prop}:∀ {r:List Pc} {b:Nat × Nat} {a:Pc},P a.e→(∀p∈r,P p.e)→∀p∈aP b a r,P p.e
 | [],b,a,ha,_,p,hp=>by rw [aP,List.mem_singleton] at hp;rw [hp];exact ha
 | q::r,b,a,ha,hr,p,hp=>by
  rw [aP] at hp
  by_cases g:gB b a q=true
  ·rw [if_pos g] at hp
   exact BA (a:=a.mg q) (hr q (by simp)) (fun x hx=>hr x (by simp [hx])) p hp
  ·rw [if_neg g] at hp
   rcases List.mem_cons.mp hp with rfl|hp
   ·exact ha
   ·exact BA (hr q (by simp)) (fun x hx=>hr x (by simp [hx])) p hp
theorem wq {P:Nat × Nat→Prop} {L:List Pc} (h:∀p∈L,P p.e):∀p∈d_ L,P p.e:=by
 cases L with
 | nil=>exact fun p hp=>(nomatch hp)
 | cons a r=>exact BA (h a (by simp)) fun x hx=>h x (by simp [hx])
theorem Cv {as st Q} (h:gN as st Q):au Γ iX (frame 2 as) st (af st Q):=by
 obtain ⟨d,D,κ,e,e',v,n,A,B,rfl,ls,hA,hB,k⟩:=h
 unfold iX
 walk_at "WP"
 refine ⟨d,D,κ,e,e',v,n,A,B,rfl,ls,hA,hB,fun Z g r hr hR hc hz lZ=>?_⟩
 obtain ⟨d0,dD,l1,l2,l3',l4,l5,l6,l7⟩:=ls
 have lin:Lin d κ (cm 0 (Z.map Prod.fst)):=(E_ d0 hA.rt hB.rt hA.lin hB.lin).congr hc
 have hi:∀t y,0≤t→cm 0 (Z.map Prod.fst) t=some y→y≤2 ^ v:=fun t y t0 hy=>Hy hA.hi hB.hi t y t0 (by rw [←hc t t0];exact hy)
 have en:∀p∈Z.map Prod.fst,Sz e' p.e:=fun p hp=>by obtain ⟨q,hq,rfl⟩:=List.mem_map.mp hp;exact hz q hq
 have zz:=Cm hR lin en (by omega) hi d0 dD
 refine ⟨_,ad hr,by simp;omega,jb Γm (fun j acc s=>s=st++g∧acc=((Z.map Prod.fst).take j).map pcV) ⟨rfl,by simp⟩ ?_ ?_⟩
 ·rintro j x acc s hx ⟨rfl,rfl⟩
  refine ⟨rfl,?_⟩
  rw [List.getElem?_map] at hx
  obtain ⟨p,hp,rfl⟩:=Option.map_eq_some_iff.mp hx
  have et:(Z.map Prod.fst).take (j+1)=(Z.map Prod.fst).take j++[p.1]:=by rw [List.take_succ,List.getElem?_map,hp];rfl
  rw [et,List.map_append]
  walk_at "WP"
 rintro acc s ⟨rfl,rfl⟩
 refine ⟨rfl,?_⟩
 have ea:((Z.map Prod.fst).take (Z.map q2V).length).map pcV=(Z.map Prod.fst).map pcV:=by rw [List.take_of_length_le (by simp)]
 rw [ea]
 refine ⟨_,ad aA,?_⟩
 rw [List.append_assoc]
 refine .app yJ ⟨_,rfl,zz.mono (by omega),hR.lok,by simp;omega,.inl (k _ ⟨oK hR,u7 hR,wq en,lin.congr fun t t0=>iD hR t0,fun t y t0 hy=>hi t y t0 (by rw [←iD hR t0];exact hy),Nat.le_trans qY (by simp;omega)⟩ fun t t0=>by rw [iD hR t0,hc t t0])⟩
theorem DT {d q l p b t:Rat} (hd:0<d) (hq:0<q):d*(l/d+p*(t-b/d)/q)*q=l*q+p*(d*t-b):=by
 have i1:d*(l/d)=l:=by grind
 have i2:d*(b/d)=b:=by grind
 have i3:p*(t-b/d)/q*q=p*(t-b/d):=by grind
 have:d*(l/d+p*(t-b/d)/q)*q=d*(l/d)*q+d*(p*(t-b/d)/q*q):=by grind
 rw [this,i1,i3]
 grind
theorem yN {d m b:Nat} {u:Un3} {r:List Pc} (d0:0<d) (hb:b<u.1) (hl:u.2.1≤u.2.2) (h1:u.1≤2 ^ 37) (h2:u.2.2≤2 ^ 37):∃(P Q:Nat) (R:Int),(0<Q∧Q<2 ^ 38∧P<2 ^ 38)∧∀t z,t≤(u.1:Rat)/d→cm ((b:Rat)/d) (aD d u::r) t=some z→((d*m:Nat):Rat)*Q*z=P*(d*m:Nat)*t+R:=by
 obtain ⟨q,hq⟩:∃q,u.1=b+q:=⟨u.1-b,by omega⟩
 obtain ⟨p,hp⟩:∃p,u.2.2=u.2.1+p:=⟨u.2.2-u.2.1,by omega⟩
 have q0:0<q:=by omega
 refine ⟨p,q,(m:Int)*(q*u.2.1)-m*(p*b),⟨q0,by omega,by omega⟩,fun t z ht hz=>?_⟩
 have pd:=ax d0
 have pq:=ax q0
 have eE:Pc.E (aD d u)=(u.1:Rat)/d:=aw d0
 have eL:Pc.L (aD d u)=(u.2.1:Rat)/d:=aw d0
 have eH:Pc.H (aD d u)=(u.2.2:Rat)/d:=aw d0
 have c1:(u.1:Rat)=b+q:=by rw [hq,Rat.natCast_add]
 have c2:(u.2.2:Rat)=u.2.1+p:=by rw [hp,Rat.natCast_add]
 have w:(u.1:Rat)/d-b/d=q/d:=by rw [c1];grind
 have ne:¬(b:Rat)/d=u.1/d:=by
  intro e
  have:(q:Rat)/d=0:=by grind
  have:(q:Rat)=0:=by grind
  grind
 rw [cm,eE,if_pos ht,if_neg ne,eL,eH,w,c2] at hz
 have hz:=Option.some.inj hz
 have hz2:z=u.2.1/d+p*(t-b/d)/q:=by rw [←hz];grind
 simp only [Rat.natCast_mul,Rat.intCast_sub,Rat.intCast_mul,Rat.intCast_natCast]
 have k1:(d:Rat)*z*q=u.2.1*q+p*(d*t-b):=by rw [hz2];exact DT pd pq
 have k2:(m:Rat)*(d*z*q)=m*(u.2.1*q+p*(d*t-b)):=by rw [k1]
 clear hz hz2 k1 w ne c1 c2 eE eL eH ht
 grind
theorem Bs {d m:Nat} (d0:0<d):∀ {U:List Un3} {b hh:Nat},RU b hh U→BdU (2 ^ 37) U→∀e y,(b:Rat)/d<e→cm ((b:Rat)/d) (U.map (aD d)) e=some y→∃(P Q:Nat) (R:Int) (x:Rat),(0<Q∧Q<2 ^ 38∧P<2 ^ 38)∧(b:Rat)/d≤x∧x<e∧∀t z,x<t→t≤e→cm ((b:Rat)/d) (U.map (aD d)) t=some z→((d*m:Nat):Rat)*Q*z=P*(d*m:Nat)*t+R
 | [],b,hh,_,_,e,y,_,h=>by cases h
 | u::r,b,hh,⟨h1,h2,h3,h4,h5⟩,hB,e,y,be,h=>by
  obtain ⟨b1,b2,b3⟩:=hB u (by simp)
  have eE:Pc.E (aD d u)=(u.1:Rat)/d:=aw d0
  by_cases w:e≤(u.1:Rat)/d
  ·obtain ⟨P,Q,R,bd,hl⟩:=yN (m:=m) (r:=r.map (aD d)) d0 h1 h3 b1 b3
   exact ⟨P,Q,R,_,bd,Rat.le_refl,be,fun t z _ te hz=>hl t z (by grind) hz⟩
  ·have nx:∀t,(u.1:Rat)/d<t→cm ((b:Rat)/d) ((u::r).map (aD d)) t=cm ((u.1:Rat)/d) (r.map (aD d)) t:=fun t ht=>by rw [List.map_cons,dO (by rw [eE];exact ht),eE]
   rw [nx e (by grind)] at h
   obtain ⟨P,Q,R,x,bd,x1,x2,hx⟩:=Bs d0 (m:=m) h5 (fun v hv=>hB v (by simp [hv])) e y (by grind) h
   have le:(b:Rat)/d≤u.1/d:=by
    have:(b:Rat)≤u.1:=Rat.natCast_le_natCast.mpr (by omega)
    have pd:=ax d0
    have k1:(b:Rat)/d*d=b:=by grind
    have k2:(u.1:Rat)/d*d=u.1:=by grind
    exact Classical.byContradiction fun z=>by
     have:=Rat.mul_pos (a:=(b:Rat)/d-u.1/d) (b:=d) (by grind) pd
     grind
   exact ⟨P,Q,R,x,bd,by grind,x2,fun t z xt te hz=>hx t z xt te (by rw [←nx t (by grind)];exact hz)⟩
theorem Eh {d m:Nat} {U:List Un3} (d0:0<d) (h:RUF U) (hB:BdU (2 ^ 37) U):Lin (d*m) 38 (cm 0 (U.map (aD d))):=by
 cases U with
 | nil=>intro e y _ h;cases h
 | cons u r =>
  obtain ⟨h1,h2,h3,h4⟩:=h
  obtain ⟨b1,b2,b3⟩:=hB u (by simp)
  have eE:Pc.E (aD d u)=(u.1:Rat)/d:=aw d0
  have eL:Pc.L (aD d u)=(u.2.1:Rat)/d:=aw d0
  have pd:=ax d0
  have z0:((0:Nat):Rat)/d=0:=by grind
  intro e y e0 he
  by_cases w:e≤(u.1:Rat)/d
  ·by_cases z:u.1=0
   ·refine ⟨0,1,(m:Int)*u.2.1,-1,⟨by decide,by decide,by decide⟩,by grind,fun t x t0 _ te hx=>?_⟩
    have eE0:Pc.E (aD d u)=0:=by rw [eE,z,z0]
    have:t=0:=by rw [z,z0] at w;grind
    subst this
    rw [List.map_cons,cm,eE0,if_pos Rat.le_refl,if_pos rfl,eL] at hx
    have hx:=Option.some.inj hx
    rw [←hx]
    simp only [Rat.natCast_mul,Rat.intCast_mul,Rat.intCast_natCast]
    grind
   ·obtain ⟨P,Q,R,bd,hl⟩:=yN (m:=m) (b:=0) (r:=r.map (aD d)) d0 (by omega) h1 b1 b3
    refine ⟨P,Q,R,-1,bd,by grind,fun t x t0 _ te hx=>hl t x (by grind) ?_⟩
    rw [z0];exact hx
  ·have nx:∀t,(u.1:Rat)/d<t→cm 0 ((u::r).map (aD d)) t=cm ((u.1:Rat)/d) (r.map (aD d)) t:=fun t ht=>by rw [List.map_cons,dO (by rw [eE];exact ht),eE]
   rw [nx e (by grind)] at he
   obtain ⟨P,Q,R,x,bd,x1,x2,hx⟩:=Bs d0 (m:=m) h4 (fun v hv=>hB v (by simp [hv])) e y (by grind) he
   exact ⟨P,Q,R,x,bd,x2,fun t z _ xt te hz=>hx t z xt te (by rw [←nx t (by grind)];exact hz)⟩
theorem Hd {d:Nat} {U:List Un3} (d0:0<d) (h:RUF U) (hB:BdU (2 ^ 37) U):∀t y,0≤t→cm 0 (U.map (aD d)) t=some y→y≤2 ^ 37:=fun t y t0 hy=>by
 have hR:=h.rt (d:=d) d0
 rcases dB U with rfl|⟨Y,u,rfl⟩
 ·cases hy
 ·rw [List.map_append,List.map_singleton] at hR hy
  have le:t≤Pc.E (aD d u):=Classical.byContradiction fun w=>by
   rw [qN hR (by grind)] at hy;cases hy
  have this1:=Dz hR t0 le hy (GD hR)
  have eH:Pc.H (aD d u)=(u.2.2:Rat)/d:=aw d0
  obtain ⟨b1,b2,b3⟩:=hB u (by simp)
  have c:(u.2.2:Rat)≤((2 ^ 37:Nat):Rat):=Rat.natCast_le_natCast.mpr b3
  have c2:((2 ^ 37:Nat):Rat)=2 ^ 37:=by rw [Rat.natCast_pow];rfl
  generalize (2:Rat) ^ 37=V at c2 ⊢
  have pd:=ax d0
  have d1:(1:Rat)≤d:=by
   have:((1:Nat):Rat)≤(d:Rat):=Rat.natCast_le_natCast.mpr d0
   simpa using this
  have nn:(0:Rat)≤(u.2.2:Rat)/d:=by rw [←eH];exact aU (dI d0)
  have k2:(u.2.2:Rat)/d*d=u.2.2:=by grind
  have:=Rat.mul_nonneg (a:=(u.2.2:Rat)/d) (b:=d-1) nn (by grind)
  rw [eH] at this1
  rw [c2] at c
  grind
theorem A6 {d m:Nat} {U:List Un3} (h0:0<d) (h1:d≤10 ^ 11) (hU:RUF U) (h:BdU (2 ^ 37) U) (hl:U.length≤20):Stl (d*m) 38 40 37 20 (d_ (U.map (aD d))):=by
 have hR:=hU.rt h0
 refine ⟨oK hR,u7 hR,wq fun p hp=>?_,(Eh h0 hU h).congr fun t t0=>iD hR t0,fun t y t0 hy=>Hd h0 hU h t y t0 (by rw [←iD hR t0];exact hy),Nat.le_trans qY (by simpa using hl)⟩
 obtain ⟨u,hu,rfl⟩:=List.mem_map.mp hp
 obtain ⟨a,b,c⟩:=h u hu
 exact ⟨Nat.lt_of_le_of_lt (j6 _ _) (by omega),Nat.lt_of_le_of_lt (kv _ _) (by omega),dI h0⟩
theorem Bv {A:List Pc} {t:Rat}:les A A t=cm 0 A t:=by
 cases e:cm 0 A t with
 | none=>exact les_no.mpr ⟨e,e⟩
 | some x=>exact nO e fun y hy=>by rw [e] at hy;cases hy;exact Rat.le_refl
theorem Stl.mono {d k e v n e' n':Nat} {L:List Pc} (h:Stl d k e v n L) (he:e≤e') (hn:n≤n'):Stl d k e' v n' L:=⟨h.rt,h.ng,fun p hp=>(h.en p hp).mono he,h.lin,h.hi,Nat.le_trans h.ln hn⟩
theorem Stl.nil {d k e v n:Nat}:Stl d k e v n []:=⟨trivial,trivial,(fun p hp=>(nomatch hp)),(fun e y _ h=>(nomatch h)),(fun t y _ h=>(nomatch h)),Nat.zero_le _⟩
theorem wZ {as st Q} (h:eh as st Q):au Γ fW (frame 1 as) st (af st Q):=by
 obtain ⟨p,rfl,ok,k⟩:=h
 unfold fW
 walk_at "WP"
 rw [if_pos (by rfl)]
 refine ⟨by decide,?_⟩
 refine FW.comp_map Γm (fun _=>.bl true) trivial (fun x hx=>?_) ?_
 ·simp only [List.mem_cons,List.not_mem_nil,or_false] at hx
  walk_at "WP"
  rcases hx with rfl|rfl|rfl
  ·exact ⟨_,rfl,xQ,by rw [ok.e.isFr],rfl⟩
  ·exact ⟨_,rfl,xQ,by rw [ok.l.isFr],rfl⟩
  ·exact ⟨_,rfl,xQ,by rw [ok.h.isFr],rfl⟩
 ·exact ⟨_,aT aA,_,jg (f:=fun _=>true),.app rfl (.inl k)⟩
theorem lv {as st Q} (h:bL as st Q):au Γ c_ (frame 4 as) st (af st Q):=by
 obtain ⟨p,rfl,hz,h1,h2,k⟩:=h
 unfold c_
 walk_at "WP"
 refine ⟨p.h,p.l,rfl,hz.h.mono (by decide),hz.l.mono (by decide),_,rfl,?_⟩
 rw [iQ hz.h hz.l h1,if_pos rfl]
 refine ⟨p.h,p.e,rfl,hz.h.mono (by decide),hz.e.mono (by decide),_,rfl,?_⟩
 rw [iQ hz.h hz.e h2]
 exact .inl k
theorem lE {as st Q} (h:bO as st Q):au Γ dc (frame 4 as) st (af st Q):=by
 obtain ⟨p,rfl,ok,hz,k⟩:=h
 unfold dc
 walk_at "WP"
 refine jS (q:=(0,1)) ?_
 by_cases h1:p.e=(0,1)
 ·rw [if_neg (by rw [decide_eq_true h1];decide)]
  refine jS ?_
  have:p.l=p.h:=b_ ok.l ok.h (hz (by show 0=val p.e;rw [h1,ag]))
  rw [decide_eq_true this]
  exact .inl k
 ·rw [if_pos (decide_eq_false h1)]
  exact .inl k
theorem kq {as st Q} (h:bA as st Q):au Γ cL (frame 2 as) st (af st Q):=by
 obtain ⟨a,p,rfl,ha,hp,h1,h2,k⟩:=h
 unfold cL
 walk_at "WP"
 refine ⟨a.e,p.e,rfl,ha.e.mono (by decide),hp.e.mono (by decide),_,rfl,?_⟩
 rw [i9 ha.e hp.e h1,if_pos rfl]
 refine ⟨p.l,a.h,rfl,hp.l.mono (by decide),ha.h.mono (by decide),_,rfl,?_⟩
 rw [iQ hp.l ha.h h2]
 exact .inl k
theorem qP:∀ {n:Nat},iU (List.replicate n (PV.bl true))=some (List.replicate n true)
 | 0=>rfl
 | n+1=>by simp only [List.replicate_succ,iU,qP (n:=n),Option.map_some]
theorem vz {L:List Pc} {i:Nat} {v:PV} (h:(jn (L.map pcV) ((L.drop 1).map pcV))[i]?=some v):∃a p,L[i]?=some a∧L[i+1]?=some p∧v=.tup [pcV a,pcV p]:=by
 obtain ⟨x,y,e1,e2,rfl⟩:=o8 h
 rw [List.getElem?_map] at e1 e2
 obtain ⟨a,ha,rfl⟩:=Option.map_eq_some_iff.mp e1
 obtain ⟨p,hp,rfl⟩:=Option.map_eq_some_iff.mp e2
 rw [List.getElem?_drop] at hp
 exact ⟨a,p,ha,by rw [Nat.add_comm];exact hp,rfl⟩
theorem Bg {as st Q} (h:gw as st Q):au Γ ik (frame 1 as) st (af st Q):=by
 obtain ⟨L,rfl,hR,hz,hl,k⟩:=h
 unfold ik
 walk_at "WP"
 rw [if_neg (by decide)]
 refine ⟨by simp;omega,?_⟩
 refine FW.comp_map Γm (fun _=>.bl true) trivial (fun x hx=>?_) ?_
 ·obtain ⟨p,hp,rfl⟩:=List.mem_map.mp hx
  obtain ⟨i,hi⟩:=List.getElem?_of_mem hp
  walk_at "WP"
  exact ⟨p,rfl,(hR.at_ hi).1,rfl,rfl⟩
 refine ⟨_,aT aA,_,jg (f:=fun _=>true),.app rfl ?_⟩
 rw [v7]
 walk_at "WP"
 refine ⟨by simp;omega,?_⟩
 refine FW.comp_map Γm (fun _=>.bl true) trivial (fun x hx=>?_) ?_
 ·obtain ⟨p,hp,rfl⟩:=List.mem_map.mp hx
  obtain ⟨i,hi⟩:=List.getElem?_of_mem hp
  obtain ⟨a1,a2,a3⟩:=hR.at_ hi
  walk_at "WP"
  exact ⟨p,rfl,hz p hp,a2,a3,rfl,rfl⟩
 refine ⟨_,aT aA,_,jg (f:=fun _=>true),.app rfl ?_⟩
 rw [v7]
 walk_at "WP"
 refine d6 (n:=4) (by decide) b9 rfl ?_
 rw [kO]
 have fin:(jn (List.map pcV L) (mM (List.map pcV L) (some 1) none)).length<100000 ∧
   vE Γ (E.call 13 (Es.cons (E.var 0) (Es.cons (E.var 1) Es.nil))) (Tg.tup (Tgs.cons (Tg.name 0) (Tgs.cons (Tg.name 1) Tgs.nil))) Es.nil
    (fun st'=>cy st (bS L) st'∧cy st (PV.tup (mM (List.map pcV L) (some 1) none)) st') [none,none]
    (jn (List.map pcV L) (mM (List.map pcV L) (some 1) none)) st fun vs st2 =>
    ∃xs,bV (st2++[Cell.lst vs]) (PV.ref (List.length st2))=some xs ∧
      ∃x,iU xs=some x∧Tmp st (fun v st1=>Ret st Q v st1) (PV.bl (x.all id)) (st2++[Cell.lst vs]):=by
  rw [Ji,←List.map_drop]
  refine ⟨by rw [pJ];simp;omega,?_⟩
  refine jb Γm (fun j acc s=>s=st∧acc=List.replicate j (PV.bl true)) ⟨rfl,rfl⟩ ?_ ?_
  ·rintro i v acc s hi ⟨rfl,rfl⟩
   refine ⟨⟨trivial,trivial⟩,?_⟩
   obtain ⟨a,p,ha,hp,rfl⟩:=vz hi
   obtain ⟨t1,t2⟩:=hR.two ha hp
   walk_at "WP"
   exact ⟨a,p,rfl,hz a (List.mem_of_getElem? ha),hz p (List.mem_of_getElem? hp),t1,t2,rfl,by rw [←List.replicate_succ',List.replicate_succ]⟩
  ·rintro acc s ⟨rfl,rfl⟩
   refine ⟨⟨trivial,trivial⟩,_,aT aA,_,qP,.app rfl ?_⟩
   rw [show (List.replicate _ true).all id=true by simp]
   exact .inl k
 cases L with
 | nil=>rw [if_neg (by simp)];exact fin
 | cons p r =>
  rw [if_pos (by simp)]
  refine ⟨pcV p,mI,p,rfl,hR.1,hR.2.2.2.1,?_⟩
  walk_at "WP"
  exact fin
theorem wQ {as st Q} (h:d7 as st Q):au Γ fV (frame 1 as) st (af st Q):=by
 obtain ⟨L,rfl,hR,ng,hz,hl,k⟩:=h
 unfold fV
 walk_at "WP"
 refine ⟨L,rfl,hR,hz,hl,_,rfl,?_⟩
 rw [if_pos rfl]
 refine ⟨L,rfl,hz,hR.lok,by omega,?_⟩
 rw [Cs ng]
 refine d6 (n:=4) (by decide) b9 b9 ?_
 rw [cC]
 exact .inl k
noncomputable def rtE (D:aV):aV:=⟨fun _ _=>False,D.2,fun _ _=>False,fun _ _=>False⟩
theorem B5 {D:aV}:(rtE D).rt=D.rt:=rfl
theorem HV {s:S} {ss:Ss} {ρ:Fr} {st:AH} {D:aV} (h1:wpS Γ s ρ st (rtE D)):au Γ (.cons s ss) ρ st D:=by
 cases ss with
 | nil=>exact gf (D:=rtE D) Γm s ⟨fun _ _ z=>False.elim z,fun _ _ z=>z,fun _ _ z=>False.elim z,fun _ _ z=>False.elim z⟩ h1
 | cons s2 ss=>exact gf (D:=rtE D) (D':=aft Γ (.cons s2 ss) D) Γm s ⟨fun _ _ z=>False.elim z,fun _ _ z=>z,fun _ _ z=>False.elim z,fun _ _ z=>False.elim z⟩ h1
noncomputable def OnI (st:AH) (L:List Pc) (t:Nat × Nat) (i:Nat) (ρ:Fr) (s:AH):Prop:=s=st∧(i=0∨val (bg L i)<val t)∧∃a b c d e f g:Option PV,ρ=[some (bS L),some (fr t),some (fr (bg L i)),a,b,c,d,e,f,g]
theorem tH {a b c d:Nat} (h:c*d≤a*b):(a:Int)*b-c*d=((a*b-c*d:Nat):Int):=by rw [Int.natCast_sub h,Int.natCast_mul,Int.natCast_mul]
theorem r9 {x y:Nat × Nat} (hx:0<x.2) (hy:0<y.2) (h:y.1*x.2≤x.1*y.2):((x.1*y.2-y.1*x.2:Nat):Rat)=(val x-val y)*(x.2*y.2):=by
 have:=congrArg (fun k:Nat=>(k:Rat)) (Nat.sub_add_cancel h)
 simp only [Rat.natCast_add,Rat.natCast_mul] at this
 rw [d5 hx,d5 hy] at this
 grind
theorem FN {N Y F G X c:Rat} (hc:c≠0) (h:N<F):(c*(Y*(F-X)+G*(X-N)))/(c*(F-N))=Y+(G-Y)*((X-N)/(F-N)):=yG hc h
noncomputable abbrev sk:Ss:=(.cons (.ifS (.cmp .LtE (.bin .Mult (.ix (.var 1) (.int 0)) (.ix (.var 3) (.int 1))) (.bin .Mult (.ix (.var 3) (.int 0)) (.ix (.var 1) (.int 1)))) (.cons (.set (.name 6) (.bin .Sub (.bin .Mult (.ix (.var 3) (.int 0)) (.ix (.var 2) (.int 1))) (.bin .Mult (.ix (.var 2) (.int 0)) (.ix (.var 3) (.int 1))))) (.cons (.ifS (.cmp .Eq (.var 6) (.int 0)) (.cons (.ret (.var 4)) .nil) .nil) (.cons (.set (.name 7) (.bin .Sub (.bin .Mult (.ix (.var 3) (.int 0)) (.ix (.var 1) (.int 1))) (.bin .Mult (.ix (.var 1) (.int 0)) (.ix (.var 3) (.int 1))))) (.cons (.set (.name 8) (.bin .Sub (.bin .Mult (.ix (.var 1) (.int 0)) (.ix (.var 2) (.int 1))) (.bin .Mult (.ix (.var 2) (.int 0)) (.ix (.var 1) (.int 1))))) (.cons (.set (.name 9) (.bin .Mult (.bin .Mult (.bin .Mult (.ix (.var 4) (.int 0)) (.ix (.var 5) (.int 1))) (.var 7)) (.ix (.var 2) (.int 1)))) (.cons (.set (.name 9) (.bin .Add (.var 9) (.bin .Mult (.bin .Mult (.bin .Mult (.ix (.var 5) (.int 0)) (.ix (.var 4) (.int 1))) (.var 8)) (.ix (.var 3) (.int 1))))) (.cons (.ret (.tup (.cons (.var 9) (.cons (.bin .Mult (.bin .Mult (.bin .Mult (.ix (.var 4) (.int 1)) (.ix (.var 5) (.int 1))) (.ix (.var 1) (.int 1))) (.var 6)) .nil)))) .nil))))))) .nil) (.cons (.set (.name 2) (.var 3)) .nil))
noncomputable abbrev rQ:Ss:=(.cons (.ret .non) .nil)
theorem zR {as st Q} (h:fh as st Q):au Γ hJ (frame 10 as) st (af st Q):=by
 obtain ⟨j,m,L,t,rfl,⟨j1,j2⟩,hR,hz,tz,hl,k⟩:=h
 have turn:∀(i:Nat) (p:Pc) (d e f g:Option PV),L[i]?=some p→(i=0∨val (bg L i)<val t)→au Γ sk [some (bS L),some (fr t),some (fr (bg L i)),some (fr p.e),some (fr p.l),some (fr p.h),d,e,f,g] st (LD (OnI st L t (i+1)) (aft Γ rQ (af st Q))):=by
  intro i p d e f g hp hb
  have il:=(List.getElem?_eq_some_iff.mp hp).1
  have pz:=hz p (List.mem_of_getElem? hp)
  obtain ⟨pok,p1,p2⟩:=hR.at_ hp
  obtain ⟨n1,n2,n3,n4⟩:=nb hR hp
  have bz:Sz j (bg L i):=bgZ hz (by omega) j1
  have up:∀ {a i:Nat},a<2 ^ i→i≤3000→a<2 ^ 3000:=fun h hj=>Nat.lt_of_lt_of_le h (bP hj)
  have bt:val (bg L i)≤val t:=by
   rcases hb with rfl|hb
   ·show val (0,1)≤_;rw [ag];exact aU tz.pos
   ·exact Rat.le_of_lt hb
  by_cases q:val t≤p.E
  ·have le1:t.1*p.e.2≤p.e.1*t.2:=(eK tz.pos pz.e.pos).mpr q
   have le2:(bg L i).1*t.2≤t.1*(bg L i).2:=(eK bz.pos tz.pos).mpr bt
   have le3:(bg L i).1*p.e.2≤p.e.1*(bg L i).2:=(eK bz.pos pz.e.pos).mpr n2
   have hc:=yt hR hp hb q
   have vl:=r9 pz.e.pos tz.pos le1
   have vd:=r9 tz.pos bz.pos le2
   have vw:=r9 pz.e.pos bz.pos le3
   have sl:p.e.1*t.2-t.1*p.e.2<2 ^ (j+m):=Nat.lt_of_le_of_lt (Nat.sub_le _ _) (aB pz.e.a tz.b)
   have sd:t.1*(bg L i).2-(bg L i).1*t.2<2 ^ (m+j):=Nat.lt_of_le_of_lt (Nat.sub_le _ _) (aB tz.a bz.b)
   have sw:p.e.1*(bg L i).2-(bg L i).1*p.e.2<2 ^ (j+j):=Nat.lt_of_le_of_lt (Nat.sub_le _ _) (aB pz.e.a bz.b)
   obtain ⟨LL,hLL⟩:∃LL,p.e.1*t.2-t.1*p.e.2=LL:=⟨_,rfl⟩
   obtain ⟨DD,hDD⟩:∃DD,t.1*(bg L i).2-(bg L i).1*t.2=DD:=⟨_,rfl⟩
   obtain ⟨WW,hWW⟩:∃WW,p.e.1*(bg L i).2-(bg L i).1*p.e.2=WW:=⟨_,rfl⟩
   rw [hLL] at vl sl
   rw [hDD] at vd sd
   rw [hWW] at vw sw
   have pe:=ax pz.e.pos
   have pt:=ax tz.pos
   have pb:=ax bz.pos
   have pl:=ax pz.l.pos
   have ph:=ax pz.h.pos
   refine HV ?_
   refine ifS (fun s=>s=st) (fun _=>False) ?_ ?_ fun _ z=>z.elim
   ·walk_at "WP"
    refine ⟨bB (up tz.a (by omega)) (up pz.e.b (by omega)),bB (up pz.e.a (by omega)) (up tz.b (by omega)),?_⟩
    rw [if_pos (by rw [←Int.natCast_mul,←Int.natCast_mul];exact Int.ofNat_le.mpr le1)]
    trivial
   rintro s rfl
   refine gG (fun ρ s'=>s'=s∧ρ=[some (bS L),some (fr t),some (fr (bg L i)),some (fr p.e),some (fr p.l),some (fr p.h),some (.int WW),e,f,g]) ?_ ?_
   ·walk_at "WPN"
    refine ⟨bB (up pz.e.a (by omega)) (up bz.b (by omega)),bB (up bz.a (by omega)) (up pz.e.b (by omega)),?_⟩
    rw [tH le3,hWW]
   rintro ρ s' ⟨rfl,rfl⟩
   by_cases z:val (bg L i)=p.E
   ·have w0:WW=0:=by
     have:(WW:Rat)=0:=by rw [vw,z];grind
     exact_mod_cast this
    refine HV ?_
    refine ifS (fun s''=>s''=s') (fun _=>False) ?_ ?_ fun _ z=>z.elim
    ·walk_at "WP"
     rw [if_pos (by rw [w0];rfl)]
     trivial
    rintro s'' rfl
    (simp only [on,oz,o7,nK,j9,uM,uI,u8,wx,nY,uc,wg,oW,ow,nD,jf,rp,u5,wc,o9,t4,oa,Ag,k_,wn,pN,pK,wl,oQ,uv,wF,CW,vX,tN,Dh,uf,uR,vA,t8,wp,vn,vT,Dp,wE,Do,Bq,oi,uL,nr,uS,oF,vy,pG,jZ,Cy,v5,vO,By,t5,uF,tM,ou,vf,oT,uY,Bt,nq,kR,pA,kl,lw,n8,j0,n_,ko,om,vC,ug,o6,kF,jY,eR,iW,fA,ic,kZ,ii,wo,uq,wd,tL,vH,vg,nJ,oA,nM,pI,n9,vD,Dc,tW,wf,Ck,Dn,vP,vq,nv,pi,Bi,BF,CA,DO,uu,vN,vL,gk,iS,gL,gy,gg,gC,kw,kg,kI,kC,iw,iF,iZ,fY,gi,fj,gH,iL,gI,gc,gF,gM,uQ,v8,tQ,mI,my,tY,vI,t7,uE,vF,uZ,oH,pV,nA,uO,tX,iY,nw,oj,vJ,uX,vj,ww,uj,DR,A8,DU,Bx,DA,uT,og,oo,oI,frame,Γ_0,Γ_1,Γ_2,Γ_3,Γ_4,Γ_5,Γ_6,Γ_7,Γ_8,Γ_9,Bu,CK,BE,Cb,C0,Cl,AZ,DS,CQ,BP,CV,B_,Dk,DE,DL,CZ,CH,B0,Dv,A2,BS,Cz,CB,Cj,Br,DM,BI,C4,Cd,Ce,BX,Dy,Cu,Nat.add_assoc,dN,e_,List.append_assoc,List.length_append,List.length_set,List.map_cons,List.map_nil,List.length_cons,List.length_nil,List.replicate,List.cons_append,List.nil_append,List.append_nil,List.getElem?_cons_zero,List.getElem?_cons_succ,List.set_cons_zero,List.set_cons_succ,Option.some.injEq,Cell.lst.injEq,PV.int.injEq,PV.bl.injEq,PV.ref.injEq,PV.str.injEq,PV.tup.injEq,PV.rdl.injEq,List.cons.injEq,and_true,true_and,exists_eq_left,exists_eq_left',exists_eq_right,exists_and_left,exists_and_right,exists_const,Bool.not_true,Bool.not_false,Bool.not_not,Bool.not_eq_true',decide_eq_true_eq,decide_eq_false_iff_not,false_and,and_false,false_or,or_false,if_true,if_false,Bool.false_eq_true,reduceCtorEq,reduceIte,not_false_eq_true,Nat.add_zero,Nat.zero_add,Nat.reduceAdd,Nat.reduceSub,Nat.reduceLeDiff,Int.reduceToNat,Int.reducePow,Int.reduceLT,Int.reduceLE,Int.reduceNeg,Int.reduceAdd,Int.reduceSub,Int.reduceMul,nP,kD,exists_eq,exists_eq',exists_false,ne_eq,not_true_eq_false,and_assoc,Option.join_some,Option.join_none,decide_true,decide_false,oh,nW,pD,nX,o0,nC,oM,Int.reduceEq,Nat.reduceEqDiff,Bool.not_eq_false,Bool.not_eq_true,Bool.and_true,Bool.true_and,Bool.and_false,Bool.false_and,Bool.or_false,Bool.or_true,B5])
    refine .inl (k (some p.l) (fun y hy=>by cases hy;exact pz.l.mono (by omega)) ?_)
    rw [hc,if_pos z]
    rfl
   ·have lt:val (bg L i)<p.E:=by grind
    have w0:WW≠0:=fun y=>by
     have e:(WW:Rat)=0:=by rw [y];rfl
     rw [vw] at e
     have:=Rat.mul_pos (a:=p.E-val (bg L i)) (b:=(p.e.2:Rat)*(bg L i).2) (by grind) (Rat.mul_pos pe pb)
     grind
    refine gG (fun ρ s''=>s''=s'∧ρ=[some (bS L),some (fr t),some (fr (bg L i)),some (fr p.e),some (fr p.l),some (fr p.h),some (.int WW),e,f,g]) ?_ ?_
    ·refine ifS (fun _=>False) (fun s''=>s''=s') ?_ (fun _ z=>z.elim) ?_
     ·walk_at "WP"
      rw [if_neg (by omega)]
      trivial
     ·rintro s'' rfl
      exact ⟨rfl,rfl⟩
    rintro ρ s'' ⟨rfl,rfl⟩
    have a1:=aB pz.l.a pz.h.b
    have a2:=aB a1 sl
    have a3:=aB a2 bz.b
    have b1:=aB pz.h.a pz.l.b
    have b2:=aB b1 sd
    have b3:=aB b2 pz.e.b
    have c1:=aB pz.l.b pz.h.b
    have c2:=aB c1 tz.b
    have c3:=aB c2 sw
    refine gG (fun ρ s'=>s'=s''∧ρ=[some (bS L),some (fr t),some (fr (bg L i)),some (fr p.e),some (fr p.l),some (fr p.h),some (.int WW),some (.int LL),f,g]) ?_ ?_
    ·walk_at "WPN"
     refine ⟨bB (up pz.e.a (by omega)) (up tz.b (by omega)),bB (up tz.a (by omega)) (up pz.e.b (by omega)),?_⟩
     rw [tH le1,hLL]
    rintro ρ s' ⟨rfl,rfl⟩
    refine gG (fun ρ s''=>s''=s'∧ρ=[some (bS L),some (fr t),some (fr (bg L i)),some (fr p.e),some (fr p.l),some (fr p.h),some (.int WW),some (.int LL),some (.int DD),g]) ?_ ?_
    ·walk_at "WPN"
     refine ⟨bB (up tz.a (by omega)) (up bz.b (by omega)),bB (up bz.a (by omega)) (up tz.b (by omega)),?_⟩
     rw [tH le2,hDD]
    rintro ρ s'' ⟨rfl,rfl⟩
    refine gG (fun ρ s'=>s'=s''∧ρ=[some (bS L),some (fr t),some (fr (bg L i)),some (fr p.e),some (fr p.l),some (fr p.h),some (.int WW),some (.int LL),some (.int DD),some (.int (p.l.1*p.h.2*LL*(bg L i).2:Nat))]) ?_ ?_
    ·walk_at "WPN"
     simp only [←Int.natCast_mul]
     exact ⟨bB (up pz.l.a (by omega)) (up pz.h.b (by omega)),bB (up a1 (by omega)) (up sl (by omega)),bB (up a2 (by omega)) (up bz.b (by omega)),trivial⟩
    rintro ρ s' ⟨rfl,rfl⟩
    refine gG (fun ρ s''=>s''=s'∧ρ=[some (bS L),some (fr t),some (fr (bg L i)),some (fr p.e),some (fr p.l),some (fr p.h),some (.int WW),some (.int LL),some (.int DD),some (.int (p.l.1*p.h.2*LL*(bg L i).2+p.h.1*p.l.2*DD*p.e.2:Nat))]) ?_ ?_
    ·walk_at "WPN"
     simp only [←Int.natCast_mul,←Int.natCast_add]
     exact ⟨bB (up pz.h.a (by omega)) (up pz.l.b (by omega)),bB (up b1 (by omega)) (up sd (by omega)),bB (up b2 (by omega)) (up pz.e.b (by omega)),trivial⟩
    rintro ρ s'' ⟨rfl,rfl⟩
    (simp only [on,oz,o7,nK,j9,uM,uI,u8,wx,nY,uc,wg,oW,ow,nD,jf,rp,u5,wc,o9,t4,oa,Ag,k_,wn,pN,pK,wl,oQ,uv,wF,CW,vX,tN,Dh,uf,uR,vA,t8,wp,vn,vT,Dp,wE,Do,Bq,oi,uL,nr,uS,oF,vy,pG,jZ,Cy,v5,vO,By,t5,uF,tM,ou,vf,oT,uY,Bt,nq,kR,pA,kl,lw,n8,j0,n_,ko,om,vC,ug,o6,kF,jY,eR,iW,fA,ic,kZ,ii,wo,uq,wd,tL,vH,vg,nJ,oA,nM,pI,n9,vD,Dc,tW,wf,Ck,Dn,vP,vq,nv,pi,Bi,BF,CA,DO,uu,vN,vL,gk,iS,gL,gy,gg,gC,kw,kg,kI,kC,iw,iF,iZ,fY,gi,fj,gH,iL,gI,gc,gF,gM,uQ,v8,tQ,mI,my,tY,vI,t7,uE,vF,uZ,oH,pV,nA,uO,tX,iY,nw,oj,vJ,uX,vj,ww,uj,DR,A8,DU,Bx,DA,uT,og,oo,oI,frame,Γ_0,Γ_1,Γ_2,Γ_3,Γ_4,Γ_5,Γ_6,Γ_7,Γ_8,Γ_9,Bu,CK,BE,Cb,C0,Cl,AZ,DS,CQ,BP,CV,B_,Dk,DE,DL,CZ,CH,B0,Dv,A2,BS,Cz,CB,Cj,Br,DM,BI,C4,Cd,Ce,BX,Dy,Cu,Nat.add_assoc,dN,e_,List.append_assoc,List.length_append,List.length_set,List.map_cons,List.map_nil,List.length_cons,List.length_nil,List.replicate,List.cons_append,List.nil_append,List.append_nil,List.getElem?_cons_zero,List.getElem?_cons_succ,List.set_cons_zero,List.set_cons_succ,Option.some.injEq,Cell.lst.injEq,PV.int.injEq,PV.bl.injEq,PV.ref.injEq,PV.str.injEq,PV.tup.injEq,PV.rdl.injEq,List.cons.injEq,and_true,true_and,exists_eq_left,exists_eq_left',exists_eq_right,exists_and_left,exists_and_right,exists_const,Bool.not_true,Bool.not_false,Bool.not_not,Bool.not_eq_true',decide_eq_true_eq,decide_eq_false_iff_not,false_and,and_false,false_or,or_false,if_true,if_false,Bool.false_eq_true,reduceCtorEq,reduceIte,not_false_eq_true,Nat.add_zero,Nat.zero_add,Nat.reduceAdd,Nat.reduceSub,Nat.reduceLeDiff,Int.reduceToNat,Int.reducePow,Int.reduceLT,Int.reduceLE,Int.reduceNeg,Int.reduceAdd,Int.reduceSub,Int.reduceMul,nP,kD,exists_eq,exists_eq',exists_false,ne_eq,not_true_eq_false,and_assoc,Option.join_some,Option.join_none,decide_true,decide_false,oh,nW,pD,nX,o0,nC,oM,Int.reduceEq,Nat.reduceEqDiff,Bool.not_eq_false,Bool.not_eq_true,Bool.and_true,Bool.true_and,Bool.and_false,Bool.false_and,Bool.or_false,Bool.or_true,B5])
    simp only [←Int.natCast_mul]
    refine ⟨bB (up pz.l.b (by omega)) (up pz.h.b (by omega)),bB (up c1 (by omega)) (up tz.b (by omega)),bB (up c2 (by omega)) (up sw (by omega)),.inl ?_⟩
    have pos:=Nat.mul_pos (Nat.mul_pos (Nat.mul_pos pz.l.pos pz.h.pos) tz.pos) (Nat.pos_of_ne_zero w0)
    refine k (some (p.l.1*p.h.2*LL*(bg L i).2+p.h.1*p.l.2*DD*p.e.2,p.l.2*p.h.2*t.2*WW)) (fun y hy=>?_) ?_
    ·cases hy
     refine ⟨?_,Nat.lt_of_lt_of_le c3 (bP (by omega)),pos⟩
     have h1:(2:Nat) ^ (m+4*j+2)=2 ^ (m+4*j+1)+2 ^ (m+4*j+1):=by rw [Nat.pow_succ];omega
     have h2:=Nat.lt_of_lt_of_le a3 (bP (show j+j+(j+m)+j≤m+4*j+1 by omega))
     have h3:=Nat.lt_of_lt_of_le b3 (bP (show j+j+(m+j)+j≤m+4*j+1 by omega))
     show _<2 ^ (m+4*j+2)
     omega
    ·rw [hc,if_neg z]
     show some _=some (((p.l.1*p.h.2*LL*(bg L i).2+p.h.1*p.l.2*DD*p.e.2:Nat):Rat)/((p.l.2*p.h.2*t.2*WW:Nat):Rat))
     congr 1
     simp only [Rat.natCast_add,Rat.natCast_mul]
     rw [vl,vd,vw,d5 pz.l.pos,d5 pz.h.pos]
     have cn:(p.l.2:Rat)*p.h.2*p.e.2*t.2*(bg L i).2≠0:=by
      have:=Rat.mul_pos (Rat.mul_pos (Rat.mul_pos (Rat.mul_pos pl ph) pe) pt) pb
      grind
     rw [←FN (Y:=p.L) (G:=p.H) (X:=val t) cn lt]
     congr 1 <;> grind
  ·have le1:¬t.1*p.e.2≤p.e.1*t.2:=fun z=>q ((eK tz.pos pz.e.pos).mp z)
   refine gG (fun ρ s=>s=st∧ρ=[some (bS L),some (fr t),some (fr (bg L i)),some (fr p.e),some (fr p.l),some (fr p.h),d,e,f,g]) ?_ ?_
   ·refine ifS (fun _=>False) (fun s=>s=st) ?_ (fun _ z=>z.elim) ?_
    ·walk_at "WP"
     refine ⟨bB (up tz.a (by omega)) (up pz.e.b (by omega)),bB (up pz.e.a (by omega)) (up tz.b (by omega)),?_⟩
     rw [if_neg (by rw [←Int.natCast_mul,←Int.natCast_mul];exact fun z=>le1 (Int.ofNat_le.mp z))]
     trivial
    ·rintro s rfl
     exact ⟨rfl,rfl⟩
   rintro ρ s ⟨rfl,rfl⟩
   walk_at "WP"
   exact ⟨rfl,.inr (by rw [bgS hp];grind),_,_,_,_,_,_,_,by rw [bgS hp]⟩
 unfold hJ
 walk_at "WP"
 refine gR Γm (OnI st L t) ⟨rfl,.inl rfl,_,_,_,_,_,_,_,rfl⟩ ?_ ?_
 ·rintro i v ρ s hi ⟨rfl,hb,a,b,c,d,e,f,g,rfl⟩
  refine ⟨trivial,?_⟩
  rw [List.getElem?_map] at hi
  obtain ⟨p,hp,rfl⟩:=Option.map_eq_some_iff.mp hi
  exact ⟨_,rfl,rfl,_,_,rfl,_,_,rfl,_,_,rfl,rfl,turn i p d e f g hp hb⟩
 ·rintro ρ s ⟨rfl,hb,a,b,c,d,e,f,g,rfl⟩
  refine ⟨trivial,?_⟩
  walk_at "WP"
  refine .inl (k none (fun z hz=>nomatch hz) ?_)
  rw [List.length_map] at hb
  rw [sn hR (Nat.le_refl _) hb,List.drop_length]
  rfl
theorem rT {as st Q} (h:di as st Q):au Γ eN (frame 2 as) st (af st Q):=by
 obtain ⟨o,o',rfl,h1,h2,h3,k⟩:=h
 unfold eN
 walk_at "WP"
 cases o with
 | none =>
  cases o' with
  | none=>walk_at "WPO";exact .inl k
  | some y=>cases h3
 | some x =>
  cases o' with
  | none=>cases h3
  | some y =>
   have xz:=h1 x rfl
   have yz:=h2 y rfl
   have e:val x=val y:=Option.some.inj h3
   have up:∀ {a:Nat},a<2 ^ 2900→a<2 ^ 3000:=fun h=>Nat.lt_of_lt_of_le h (bP (by decide))
   have e2:x.1*y.2=y.1*x.2:=Nat.le_antisymm ((eK xz.pos yz.pos).mpr (by rw [e];exact Rat.le_refl)) ((eK yz.pos xz.pos).mpr (by rw [e];exact Rat.le_refl))
   walk_at "WPO"
   refine ⟨bB (up xz.a) (up yz.b),bB (up yz.a) (up xz.b),?_⟩
   rw [←Int.natCast_mul,←Int.natCast_mul,e2,decide_eq_true rfl]
   exact .inl k
noncomputable def MdI (st:AH) (L:List Pc) (j:Nat) (i:Nat) (ρ:Fr) (s:AH):Prop:=∃(T:List (Nat × Nat)) (g:AH) (a b c:Option PV),s=st++.lst (T.map fr)::g∧(∀t∈T,Sz (2*j+3) t)∧T.length≤1+2*i∧ρ=[some (bS L),some (.ref st.length),some (fr (bg L i)),a,b,c]
theorem oO {as st Q} (h:cj as st Q):au Γ dG (frame 6 as) st (af st Q):=by
 obtain ⟨j,L,rfl,⟨j1,j2⟩,hR,hz,hl,k⟩:=h
 have z01:Sz (2*j+3) (0,1):=⟨Nat.pow_pos (by decide),Nat.one_lt_two_pow (by omega),by decide⟩
 unfold dG
 walk_at "WP"
 refine gR Γm (MdI st L j) ⟨[(0,1)],[],none,none,none,rfl,fun t ht=>by rw [List.mem_singleton] at ht;rw [ht];exact z01,Nat.le_refl _,rfl⟩ ?_ ?_
 ·rintro i v ρ s hi ⟨T,g,a,b,c,rfl,hT,lT,rfl⟩
  refine ⟨trivial,?_⟩
  rw [List.getElem?_map] at hi
  obtain ⟨p,hp,rfl⟩:=Option.map_eq_some_iff.mp hi
  have il:=(List.getElem?_eq_some_iff.mp hp).1
  have pz:=hz p (List.mem_of_getElem? hp)
  have bz:Sz j (bg L i):=bgZ hz (by omega) j1
  have up:∀ {a i:Nat},a<2 ^ i→i≤3000→a<2 ^ 3000:=fun h hj=>Nat.lt_of_lt_of_le h (bP hj)
  have m1:=aB bz.a pz.e.b
  have m2:=aB pz.e.a bz.b
  have m3:=aB (show 2<2 ^ 2 by decide) bz.b
  have m4:=aB m3 pz.e.b
  have e:PV.tup [PV.int (((bg L i).1:Int)*p.e.2+p.e.1*(bg L i).2),PV.int (2*((bg L i).2:Int)*p.e.2)]=fr ((bg L i).1*p.e.2+p.e.1*(bg L i).2,2*(bg L i).2*p.e.2):=by
   show _=PV.tup [PV.int (((bg L i).1*p.e.2+p.e.1*(bg L i).2:Nat):Int),PV.int ((2*(bg L i).2*p.e.2:Nat):Int)]
   rw [Int.natCast_add,Int.natCast_mul,Int.natCast_mul,Int.natCast_mul,Int.natCast_mul]
   rfl
  have ez:Sz (2*j+3) ((bg L i).1*p.e.2+p.e.1*(bg L i).2,2*(bg L i).2*p.e.2):=by
   have h1:(2:Nat) ^ (2*j+3)=2 ^ (2*j+2)+2 ^ (2*j+2):=by rw [Nat.pow_succ];omega
   have h2:=Nat.lt_of_lt_of_le m1 (bP (show j+j≤2*j+2 by omega))
   have h3:=Nat.lt_of_lt_of_le m2 (bP (show j+j≤2*j+2 by omega))
   refine ⟨?_,Nat.lt_of_lt_of_le m4 (bP (by omega)),Nat.mul_pos (Nat.mul_pos (by decide) bz.pos) pz.e.pos⟩
   show _<2 ^ (2*j+3)
   omega
  walk_at "WP"
  refine ⟨⟨_,aT aN⟩,bB (up bz.a (by omega)) (up pz.e.b (by omega)),bB (up pz.e.a (by omega)) (up bz.b (by omega)),uU (by decide) (by decide),?_,by simp;omega,?_⟩
  ·rw [show (2:Int)*((bg L i).2:Int)=((2*(bg L i).2:Nat):Int) by rw [Int.natCast_mul];rfl]
   exact bB (up m3 (by omega)) (up pz.e.b (by omega))
  rw [e]
  refine ⟨T++[((bg L i).1*p.e.2+p.e.1*(bg L i).2,2*(bg L i).2*p.e.2),p.e],_,_,_,_,by rw [eU];simp;rfl,fun t ht=>?_,by simp;omega,by rw [bgS hp]⟩
  rcases List.mem_append.mp ht with ht|ht
  ·exact hT t ht
  ·simp only [List.mem_cons,List.not_mem_nil,or_false] at ht
   rcases ht with rfl|rfl
   ·exact ez
   ·exact pz.e.mono (by omega)
 ·rintro ρ s ⟨T,g,a,b,c,rfl,hT,lT,rfl⟩
  refine ⟨trivial,?_⟩
  rw [List.length_map] at lT ⊢
  have bz:Sz j (bg L L.length):=bgZ hz (Nat.le_refl _) j1
  walk_at "WP"
  rw [←Int.natCast_add]
  refine ⟨by simp;omega,.inl (k (T++[((bg L L.length).1+(bg L L.length).2,(bg L L.length).2)]) _ _ ?_ (fun t ht=>?_) (by simp;omega))⟩
  ·rw [dN];simp
  ·rcases List.mem_append.mp ht with ht|ht
   ·exact hT t ht
   ·rw [List.mem_singleton] at ht
    rw [ht]
    refine ⟨?_,Nat.lt_of_lt_of_le bz.b (bP (by omega)),bz.pos⟩
    have h1:(2:Nat) ^ (j+1)=2 ^ j+2 ^ j:=by rw [Nat.pow_succ];omega
    have h2:(2:Nat) ^ (j+1)≤2 ^ (2*j+3):=bP (by omega)
    have:=bz.a
    have:=bz.b
    show _<2 ^ (2*j+3)
    omega
theorem xc {as st Q} (h:eC as st Q):au Γ fU (frame 5 as) st (af st Q):=by
 obtain ⟨j,m,A,B,t,rfl,⟨j1,j2,m1⟩,hA,zA,la,hB,zB,lb,tz,k⟩:=h
 unfold fU
 walk_at "WP"
 refine ⟨j,m,A,t,rfl,⟨j1,by omega⟩,hA,zA,tz,la,fun o ho hc=>?_⟩
 refine ⟨j,m,B,t,rfl,⟨j1,by omega⟩,hB,zB,tz,lb,fun o2 ho2 hc2=>?_⟩
 cases o with
 | none =>
  walk_at "WPO"
  refine .inl (k o2 ho2 ?_)
  unfold les;rw [hc];exact hc2
 | some x =>
  have xz:=ho x rfl
  cases o2 with
  | none =>
   walk_at "WPO"
   refine .inl (k (some x) ho ?_)
   unfold les;rw [hc,hc2];rfl
  | some y =>
   have yz:=ho2 y rfl
   have up:∀ {a:Nat},a<2 ^ (m+4*j+2)→a<2 ^ 3000:=fun h=>Nat.lt_of_lt_of_le h (bP (by omega))
   have c1:cm 0 A (val t)=some (val x):=hc
   have c2:cm 0 B (val t)=some (val y):=hc2
   walk_at "WPO"
   refine ⟨bB (up yz.a) (up xz.b),bB (up xz.a) (up yz.b),?_⟩
   rw [←Int.natCast_mul,←Int.natCast_mul]
   refine dl (fun w=>?_) fun w=>?_
   ·have w:y.1*x.2<x.1*y.2:=Int.ofNat_lt.mp w
    have lt:=(nF yz.pos xz.pos).mp w
    refine .inl (k (some y) ho2 ?_)
    exact ui c2 fun z hz=>by rw [c1] at hz;cases hz;grind
   ·have w:¬y.1*x.2<x.1*y.2:=fun z=>w (Int.ofNat_lt.mpr z)
    have le:val x≤val y:=Classical.byContradiction fun z=>w ((nF yz.pos xz.pos).mpr (by grind))
    refine .inl (k (some x) ho ?_)
    exact nO c1 fun z hz=>by rw [c2] at hz;cases hz;exact le
theorem yP {M A B:List Pc} {t:Rat} (h:cm 0 M t=les A B t):les M A t=cm 0 M t:=by
 cases e:les A B t with
 | none =>
  rw [e] at h
  rw [h]
  exact les_no.mpr ⟨h,(les_no.mp e).1⟩
 | some z =>
  rw [e] at h
  rw [h]
  refine nO h fun y hy=>?_
  rcases eS e with ⟨h1,_⟩|⟨_,h2⟩
  ·rw [h1] at hy;cases hy;exact Rat.le_refl
  ·exact h2 y hy
theorem tj {as st Q} (h:df as st Q):au Γ eI (frame 4 as) st (af st Q):=by
 obtain ⟨d,A,B,rfl,d0,d1,hA,hB,k⟩:=h
 have la:=hA.ln
 have lb:=hB.ln
 have zA:SzL 189 A:=hA.sz (by decide) d0 d1
 have zB:SzL 189 B:=hB.sz (by decide) d0 d1
 have L1:EF d 74 38 40 187 37 20:=⟨d0,d1,by decide,by decide,by decide,by decide,by decide,by decide,by decide⟩
 have L2:EF d 74 38 187 187 37 82:=⟨d0,d1,by decide,by decide,by decide,by decide,by decide,by decide,by decide⟩
 unfold eI
 walk_at "WP"
 refine ⟨d,74,38,40,187,37,20,A,B,rfl,L1,hA,hB,fun M hM cM=>?_⟩
 have zM:SzL 336 M:=hM.sz (by decide) d0 d1
 have lM:=hM.ln
 refine ⟨M,rfl,hM.rt,hM.ng,zM.mono (by decide),by omega,?_⟩
 walk_at "WP"
 refine ⟨d,74,38,40,187,37,20,B,A,rfl,L1,hB,hA,fun M2 hM2 cM2=>?_⟩
 have e:M2=M:=uK hM2.rt hM.rt hM2.ng hM.ng fun t t0=>by rw [cM t t0,cM2 t t0,gq]
 rw [e]
 refine d6 (n:=4) (by decide) b9 b9 ?_
 rw [cC,if_neg (by decide)]
 refine ⟨d,74,38,40,187,37,20,A,A,rfl,L1,hA,hA,fun M2 hM2 cM2=>?_⟩
 have e:M2=A:=uK hM2.rt hA.rt hM2.ng hA.ng fun t t0=>by rw [cM2 t t0,Bv]
 rw [e]
 refine d6 (n:=4) (by decide) b9 b9 ?_
 rw [cC,if_neg (by decide)]
 refine ⟨d,74,38,40,187,37,20,[],A,rfl,L1,.nil,hA,fun M3 hM3 cM3=>?_⟩
 have e:M3=A:=uK hM3.rt hA.rt hM3.ng hA.ng fun t t0=>by rw [cM3 t t0];rfl
 rw [e]
 refine d6 (n:=4) (by decide) b9 b9 ?_
 rw [cC,if_neg (by decide)]
 refine ⟨336,M,rfl,by decide,hM.rt,zM,by omega,fun T1 g1 n1 h1 z1 l1=>?_⟩
 refine ⟨189,A,rfl,by decide,hA.rt,zA,by omega,fun T2 g2 n2 h2 z2 l2=>?_⟩
 refine HN (aC h1) h2 (by simp;omega) ?_
 refine ⟨189,B,rfl,by decide,hB.rt,zB,by omega,fun T3 g3 n3 h3 z3 l3=>?_⟩
 refine HN (aC aA) h3 (by simp;omega) ?_
 rw [←List.map_append,←List.map_append]
 have hg:(st++g1++g2++[Cell.lst ((T1++T2).map fr)]++g3++[Cell.lst ((T1++T2++T3).map fr)])[List.length (st++g1++g2++[Cell.lst ((T1++T2).map fr)]++g3)]?=_:=aA
 obtain ⟨G,hG⟩:∃G,st++g1++g2++[Cell.lst ((T1++T2).map fr)]++g3++[Cell.lst ((T1++T2++T3).map fr)]=st++G:=⟨g1++(g2++([Cell.lst ((T1++T2).map fr)]++(g3++[Cell.lst ((T1++T2++T3).map fr)]))),by simp only [List.append_assoc]⟩
 rw [hG] at hg ⊢
 generalize List.length (st++g1++g2++[Cell.lst ((T1++T2).map fr)]++g3)=nn at hg
 have hT:∀t∈T1++T2++T3,Sz 675 t:=fun t ht=>by
  rcases List.mem_append.mp ht with ht|ht
  ·rcases List.mem_append.mp ht with ht|ht
   ·exact z1 t ht
   ·exact (z2 t ht).mono (by decide)
  ·exact (z3 t ht).mono (by decide)
 generalize T1++T2++T3=T at hg hT
 refine ⟨_,ad hg,?_⟩
 refine gR Γm (fun _ ρ s=>s=st++G∧∃x,ρ=[some (bS A),some (bS B),some (bS M),x]) ⟨rfl,_,rfl⟩ ?_ ?_
 ·rintro i v ρ s hi ⟨rfl,x,rfl⟩
  refine ⟨rfl,?_⟩
  rw [List.getElem?_map] at hi
  obtain ⟨t,ht,rfl⟩:=Option.map_eq_some_iff.mp hi
  have tz:=hT t (List.mem_of_getElem? ht)
  walk_at "WP"
  refine ⟨336,675,M,t,rfl,by decide,hM.rt,zM,tz,by omega,fun o ho hc=>?_⟩
  refine ⟨189,675,A,B,t,rfl,by decide,hA.rt,zA,by omega,hB.rt,zB,by omega,tz,fun o2 ho2 hc2=>?_⟩
  refine ⟨o,o2,rfl,fun p hp=>(ho p hp).mono (by decide),fun p hp=>(ho2 p hp).mono (by decide),by rw [←hc,←hc2,cM _ (aU tz.pos)],?_⟩
  walk_at "WP"
 ·rintro ρ s ⟨rfl,x,rfl⟩
  refine ⟨rfl,?_⟩
  have hA':=hA.mono (e':=187) (n':=82) (by decide) (by decide)
  have hB':=hB.mono (e':=187) (n':=82) (by decide) (by decide)
  walk_at "WP"
  refine ⟨d,74,38,187,187,37,82,M,A,rfl,L2,hM,hA',fun N hN cN=>?_⟩
  have e:N=M:=uK hN.rt hM.rt hN.ng hM.ng fun t t0=>by rw [cN t t0];exact yP (cM t t0)
  rw [e]
  refine d6 (n:=4) (by decide) b9 b9 ?_
  rw [cC,if_pos rfl]
  refine ⟨d,74,38,187,187,37,82,B,M,rfl,L2,hB',hM,fun N2 hN2 cN2=>?_⟩
  have e:N2=M:=uK hN2.rt hM.rt hN2.ng hM.ng fun t t0=>by rw [cN2 t t0,gq];exact yP (by rw [cM t t0,gq])
  rw [e]
  refine d6 (n:=4) (by decide) b9 b9 ?_
  rw [cC]
  exact .inr (.app rfl k)
theorem Ik {as st Q} (h:js as st Q):au Γ o3 (frame 7 as) st (af st Q):=by
 obtain ⟨ns,rfl,hl,k⟩:=h
 unfold o3
 walk_at "WP"
 rw [List.length_map]
 obtain ⟨N,hN,hN6⟩:∃N:Nat,(if 1<if 2<(ns.length:Int) then 2 else (ns.length:Int) then if 2<(ns.length:Int) then 2 else (ns.length:Int) else 1)=(N:Int)∧N≤2:=by
  refine ⟨(if 1<if 2<(ns.length:Int) then 2 else (ns.length:Int) then if 2<(ns.length:Int) then 2 else (ns.length:Int) else 1).toNat,?_,?_⟩ <;> (repeat' split) <;> omega
 rw [hN]
 refine ⟨by omega,by omega,?_⟩
 refine gR Γm (fun i ρ s=>∃a b c d e f,ρ=[some (.rdl (ns.map PV.int)),a,b,c,d,e,f]) ⟨_,_,_,_,_,_,rfl⟩ ?_ ?_
 ·rintro i v ρ s hi ⟨a,b,c,d,e,f,rfl⟩
  obtain ⟨rfl,hi⟩:=nu hi
  refine ⟨trivial,?_⟩
  walk_at "WP"
  refine ⟨ns,i,rfl,by omega,fun q r pk=>?_⟩
  have P0:Pot (s++[pc q r]) s.length:=⟨q,r,aA,pk⟩
  generalize s++[pc q r]=s0 at P0
  generalize s.length=p at P0
  have pl:=P0.lt
  refine ⟨p,_,[],0,rfl,P0.app,by omega,aA,fun h hh=>(nomatch hh),by decide,by decide,fun U1 n1 s1 g1 m1 u1 R1 l1 b1=>?_⟩
  refine ⟨n1,U1,rfl,u1,l1,fun m hs g hm hml hsb hsl=>?_⟩
  have n1p:n1≠p:=by rw [List.length_append] at m1;omega
  have mp:m≠p:=by have:=g1.pot.lt;omega
  refine ⟨p,m,hs,_,rfl,g1.pot.app,mp,hm,hsb _ b1,by omega,by decide,fun U2 n2 s2 g2 m2 u2 R2 l2 b2=>?_⟩
  have n2p:n2≠p:=by rw [List.length_append] at m2;have:=g1.pot.lt;omega
  have u1a:=g2.get (aC u1) n1p
  refine ⟨p,rfl,g2.pot,fun d s3 d0 d1 g3=>?_⟩
  have u1b:=g3.get u1a n1p
  have u2b:=g3.get u2 n2p
  have B1:BdU (2 ^ 37) U1:=b1.mono (by decide)
  have B2:BdU (2 ^ 37) U2:=b2.mono (by decide)
  refine ⟨p,rfl,g3.pot,fun d' s4 e0 e1 g4=>?_⟩
  refine ⟨p,3,rfl,g4.pot.app,by decide,by decide,fun z s5 z0 z1 g5=>?_⟩
  obtain ⟨v,ev,w,rfl,w0,w1⟩:=u9 (L:=[PV.int d,PV.int d,PV.int d']) (P:=fun v=>∃w:Nat,v=.int w∧0<w∧w≤10 ^ 11) (fun v hv=>by
   simp only [List.mem_cons,List.not_mem_nil,or_false] at hv
   rcases hv with rfl|rfl|rfl
   ·exact ⟨d,rfl,d0,d1⟩
   ·exact ⟨d,rfl,d0,d1⟩
   ·exact ⟨d',rfl,e0,e1⟩) z0 z1
  walk_at "WP"
  refine ⟨_,ad (g5.get aA g4.ne),_,ev,?_⟩
  refine (g4.app.trans g5).tmp rfl fun s6 g6 _=>?_
  refine ⟨n2,w,U2,rfl,g6.get u2b n2p,R2,l2,B2,w0,w1,?_⟩
  refine ⟨n1,d,U1,rfl,g6.get u1b n1p,R1,l1,B1,d0,d1,?_⟩
  have S1:=A6 (m:=w) d0 d1 R1 B1 l1
  have S2:=A6 (m:=d) w0 w1 R2 B2 l2
  rw [Nat.mul_comm w d] at S2
  refine ⟨d*w,_,_,rfl,Nat.mul_pos d0 w0,Nat.lt_of_le_of_lt (Nat.mul_le_mul d1 w1) (by decide),S1,S2,?_⟩
  walk_at "WP"
 ·rintro ρ s ⟨a,b,c,d,e,f,rfl⟩
  refine ⟨trivial,?_⟩
  walk_at "WP"
  exact .inl (k _)
section
variable {P:Program} {w:World} {K:PySem.W.Frag} {mg:Str→Option Value} {base:Heap}
theorem vU (F:At K mg "is_whole" cK ["thing"]) (G:GOk P w K mg base jD Γ):Has P w K mg base 1 "is_whole" ["thing"] (aq K (Γ 0)):=av F uW rfl rfl xp G (fun as st Q=>sh (st:=st)) (fun as st Q=>xi)
theorem j_ (F:At K mg "common_divisor" aK ["n","d"]) (G:GOk P w K mg base dX Γ):Has P w K mg base 2 "common_divisor" ["n","d"] (aq K (Γ 1)):=av F j7 rfl rfl mq G (fun as st Q=>jF (st:=st)) (fun as st Q=>lN)
theorem nL (F:At K mg "is_fraction" bq ["thing"]) (G:GOk P w K mg base fH Γ):Has P w K mg base 3 "is_fraction" ["thing"] (aq K (Γ 2)):=av F oZ rfl rfl qh G (fun as st Q=>m5 (st:=st)) (fun as st Q=>qa)
theorem uC (F:At K mg "fraction" cJ ["n","d"]) (G:GOk P w K mg base jy Γ):Has P w K mg base 4 "fraction" ["n","d"] (aq K (Γ 3)):=av F wk rfl rfl wM G (fun as st Q=>td (st:=st)) (fun as st Q=>xF)
theorem Fd (F:At K mg "plus" ig ["one","other"]) (G:GOk P w K mg base wN Γ):Has P w K mg base 5 "plus" ["one","other"] (aq K (Γ 4)):=av F DX rfl rfl Gg G (fun as st Q=>CJ (st:=st)) (fun as st Q=>Ha)
theorem D4 (F:At K mg "less" iK ["one","other"]) (G:GOk P w K mg base xE Γ):Has P w K mg base 6 "less" ["one","other"] (aq K (Γ 5)):=av F E7 rfl rfl Hh G (fun as st Q=>CI (st:=st)) (fun as st Q=>GV)
theorem BY (F:At K mg "times" fD ["one","other"]) (G:GOk P w K mg base rR Γ):Has P w K mg base 7 "times" ["one","other"] (aq K (Γ 6)):=av F Dg rfl rfl D6 G (fun as st Q=>Al (st:=st)) (fun as st Q=>E6)
theorem t3 (F:At K mg "is_below" cH ["one","other"]) (G:GOk P w K mg base jK Γ):Has P w K mg base 8 "is_below" ["one","other"] (aq K (Γ 7)):=av F vS rfl rfl xL G (fun as st Q=>sg (st:=st)) (fun as st Q=>ym)
theorem sR (F:At K mg "crosswise" bZ ["one","other"]) (G:GOk P w K mg base iI Γ):Has P w K mg base 9 "crosswise" ["one","other"] (aq K (Γ 8)):=av F rV rfl rfl vp G (fun as st Q=>qC (st:=st)) (fun as st Q=>wB)
theorem pF (F:At K mg "on_straight" bp ["near","far","x"]) (G:GOk P w K mg base fS Γ):Has P w K mg base 10 "on_straight" ["near","far","x"] (aq K (Γ 9)):=av F oX rfl rfl p8 G (fun as st Q=>mN (st:=st)) (fun as st Q=>p_)
theorem ur (F:At K mg "is_piece" cB ["thing"]) (G:GOk P w K mg base jJ Γ):Has P w K mg base 11 "is_piece" ["thing"] (aq K (Γ 10)):=av F tR rfl rfl wY G (fun as st Q=>tF (st:=st)) (fun as st Q=>wZ)
theorem kj (F:At K mg "is_right_alone" aJ ["piece"]) (G:GOk P w K mg base dS Γ):Has P w K mg base 12 "is_right_alone" ["piece"] (aq K (Γ 11)):=av F kz rfl rfl lP G (fun as st Q=>jA (st:=st)) (fun as st Q=>lv)
theorem kJ (F:At K mg "is_right_first" aL ["piece"]) (G:GOk P w K mg base dY Γ):Has P w K mg base 13 "is_right_first" ["piece"] (aq K (Γ 12)):=av F kE rfl rfl lG G (fun as st Q=>jQ (st:=st)) (fun as st Q=>lE)
theorem jO (F:At K mg "is_right_behind" aG ["ahead","piece"]) (G:GOk P w K mg base dM Γ):Has P w K mg base 14 "is_right_behind" ["ahead","piece"] (aq K (Γ 13)):=av F jT rfl rfl kY G (fun as st Q=>jm (st:=st)) (fun as st Q=>kq)
theorem AG (F:At K mg "is_row" ei ["thing"]) (G:GOk P w K mg base oU Γ):Has P w K mg base 15 "is_row" ["thing"] (aq K (Γ 14)):=av F zX rfl rfl Dt G (fun as st Q=>w9 (st:=st)) (fun as st Q=>Bg)
theorem yi (F:At K mg "goes_on" dr ["beginning","ahead","piece"]) (G:GOk P w K mg base ma Γ):Has P w K mg base 16 "goes_on" ["beginning","ahead","piece"] (aq K (Γ 15)):=av F xB rfl rfl AO G (fun as st Q=>uJ (st:=st)) (fun as st Q=>zS)
theorem EX (F:At K mg "lean" iq ["row"]) (G:GOk P w K mg base yf Γ):Has P w K mg base 17 "lean" ["row"] (aq K (Γ 16)):=av F Ed rfl rfl GY G (fun as st Q=>De (st:=st)) (fun as st Q=>GS)
theorem vt (F:At K mg "is_stair" cT ["thing"]) (G:GOk P w K mg base jM Γ):Has P w K mg base 18 "is_stair" ["thing"] (aq K (Γ 17)):=av F ua rfl rfl wV G (fun as st Q=>sD (st:=st)) (fun as st Q=>wQ)
theorem mL (F:At K mg "beginning_of" aY ["stair","at"]) (G:GOk P w K mg base fb Γ):Has P w K mg base 19 "beginning_of" ["stair","at"] (aq K (Γ 18)):=av F mK rfl rfl pB G (fun as st Q=>lJ (st:=st)) (fun as st Q=>pW)
theorem AF (F:At K mg "height" ek ["stair","at","t"]) (G:GOk P w K mg base oG Γ):Has P w K mg base 20 "height" ["stair","at","t"] (aq K (Γ 19)):=av F Ar rfl rfl BU G (fun as st Q=>yb (st:=st)) (fun as st Q=>Bf)
theorem AC (F:At K mg "merged" d8 ["one","other"]) (G:GOk P w K mg base nE Γ):Has P w K mg base 21 "merged" ["one","other"] (aq K (Γ 20)):=av F An rfl rfl B6 G (fun as st Q=>ya (st:=st)) (fun as st Q=>Dw)
theorem AT (F:At K mg "cut_at" ej ["stair","ends"]) (G:GOk P w K mg base oC Γ):Has P w K mg base 22 "cut_at" ["stair","ends"] (aq K (Γ 21)):=av F Af rfl rfl Ct G (fun as st Q=>wW (st:=st)) (fun as st Q=>DK)
theorem xY (F:At K mg "leaders" dz ["one","other"]) (G:GOk P w K mg base lf Γ):Has P w K mg base 23 "leaders" ["one","other"] (aq K (Γ 22)):=av F yk rfl rfl zT G (fun as st Q=>wK (st:=st)) (fun as st Q=>zP)
theorem AU (F:At K mg "common" em ["some","others"]) (G:GOk P w K mg base oP Γ):Has P w K mg base 24 "common" ["some","others"] (aq K (Γ 23)):=av F zL rfl rfl B9 G (fun as st Q=>wO (st:=st)) (fun as st Q=>B7)
theorem C7 (F:At K mg "apart" fE ["one","other"]) (G:GOk P w K mg base se Γ):Has P w K mg base 25 "apart" ["one","other"] (aq K (Γ 24)):=av F CC rfl rfl Fm G (fun as st Q=>zQ (st:=st)) (fun as st Q=>DY)
theorem wR (F:At K mg "crossed" du ["beginning","end","mine","yours"]) (G:GOk P w K mg base lH Γ):Has P w K mg base 26 "crossed" ["beginning","end","mine","yours"] (aq K (Γ 25)):=av F xy rfl rfl Aq G (fun as st Q=>vo (st:=st)) (fun as st Q=>Ab)
theorem jr (F:At K mg "compared_between" aE ["beginning","end","mine","yours"]) (G:GOk P w K mg base dm Γ):Has P w K mg base 27 "compared_between" ["beginning","end","mine","yours"] (aq K (Γ 26)):=av F jp rfl rfl jH G (fun as st Q=>ir (st:=st)) (fun as st Q=>jR)
theorem uA (F:At K mg "compared" cU ["one","other"]) (G:GOk P w K mg base jz Γ):Has P w K mg base 28 "compared" ["one","other"] (aq K (Γ 27)):=av F wm rfl rfl xj G (fun as st Q=>tG (st:=st)) (fun as st Q=>xu)
theorem Ah (F:At K mg "lesser" d9 ["one","other"]) (G:GOk P w K mg base pP Γ):Has P w K mg base 29 "lesser" ["one","other"] (aq K (Γ 28)):=av F AB rfl rfl Ds G (fun as st Q=>wX (st:=st)) (fun as st Q=>Cv)
theorem wy (F:At K mg "_law_pot" cP ["_law_script","_law_k"]) (G:GOk P w K mg base jW Γ):Has P w K mg base 30 "_law_pot" ["_law_script","_law_k"] (aq K (Γ 29)):=av F vb rfl rfl x_ G (fun as st Q=>rZ (st:=st)) (fun as st Q=>yd)
theorem sI (F:At K mg "_law_take" bX ["_law_pot_here","_law_many"]) (G:GOk P w K mg base io Γ):Has P w K mg base 31 "_law_take" ["_law_pot_here","_law_many"] (aq K (Γ 30)):=av F sH rfl rfl vK G (fun as st Q=>qw (st:=st)) (fun as st Q=>wu)
theorem o_ (F:At K mg "_law_moment" br ["_law_n","_law_d"]) (G:GOk P w K mg base fI Γ):Has P w K mg base 32 "_law_moment" ["_law_n","_law_d"] (aq K (Γ 31)):=av F pM rfl rfl qb G (fun as st Q=>mP (st:=st)) (fun as st Q=>qq)
theorem t9 (F:At K mg "_law_row" cG ["_law_pot_here","_law_hints_here"]) (G:GOk P w K mg base jI Γ):Has P w K mg base 33 "_law_row" ["_law_pot_here","_law_hints_here"] (aq K (Γ 32)):=av F wI rfl rfl xA G (fun as st Q=>sx (st:=st)) (fun as st Q=>xW)
theorem tK (F:At K mg "_law_lean" bW ["_law_row_here"]) (G:GOk P w K mg base iA Γ):Has P w K mg base 34 "_law_lean" ["_law_row_here"] (aq K (Γ 33)):=av F rW rfl rfl u6 G (fun as st Q=>qx (st:=st)) (fun as st Q=>vW)
theorem su (F:At K mg "_law_part" b7 ["_law_pot_here"]) (G:GOk P w K mg base ip Γ):Has P w K mg base 35 "_law_part" ["_law_pot_here"] (aq K (Γ 34)):=av F sM rfl rfl wa G (fun as st Q=>qi (st:=st)) (fun as st Q=>we)
theorem qo (F:At K mg "_law_stair" bI ["_law_row_here","_law_part_here"]) (G:GOk P w K mg base gX Γ):Has P w K mg base 36 "_law_stair" ["_law_row_here","_law_part_here"] (aq K (Γ 35)):=av F qf rfl rfl sF G (fun as st Q=>pY (st:=st)) (fun as st Q=>r_)
theorem qL (F:At K mg "_law_hints" bJ ["_law_row_here"]) (G:GOk P w K mg base gS Γ):Has P w K mg base 37 "_law_hints" ["_law_row_here"] (aq K (Γ 36)):=av F qj rfl rfl rS G (fun as st Q=>pS (st:=st)) (fun as st Q=>tI)
theorem xI (F:At K mg "_law_on" dw ["_law_stair_here","_law_t"]) (G:GOk P w K mg base mj Γ):Has P w K mg base 38 "_law_on" ["_law_stair_here","_law_t"] (aq K (Γ 37)):=av F xv rfl rfl Ai G (fun as st Q=>uB (st:=st)) (fun as st Q=>zR)
theorem qH (F:At K mg "_law_alike" bK ["_law_one","_law_other"]) (G:GOk P w K mg base gQ Γ):Has P w K mg base 39 "_law_alike" ["_law_one","_law_other"] (aq K (Γ 38)):=av F qJ rfl rfl sE G (fun as st Q=>nU (st:=st)) (fun as st Q=>rT)
theorem mO (F:At K mg "_law_middles" aZ ["_law_stair_here"]) (G:GOk P w K mg base fc Γ):Has P w K mg base 40 "_law_middles" ["_law_stair_here"] (aq K (Γ 39)):=av F mV rfl rfl pO G (fun as st Q=>lu (st:=st)) (fun as st Q=>oO)
theorem wD (F:At K mg "_law_due" cF ["_law_one","_law_other","_law_t"]) (G:GOk P w K mg base jN Γ):Has P w K mg base 41 "_law_due" ["_law_one","_law_other","_law_t"] (aq K (Γ 40)):=av F uw rfl rfl xJ G (fun as st Q=>sj (st:=st)) (fun as st Q=>xc)
theorem qr (F:At K mg "_law_right" bN ["_law_one","_law_other"]) (G:GOk P w K mg base gO Γ):Has P w K mg base 42 "_law_right" ["_law_one","_law_other"] (aq K (Γ 41)):=av F p7 rfl rfl tw G (fun as st Q=>pC (st:=st)) (fun as st Q=>tj)
end
theorem all_mk {l:PySem.W.OpenLaw} {q:Program} {w:World} {K:PySem.W.Frag} {h:Heap} {mg:Str→Option Value} {fa:Addr} (X:K.In h) (G:h.Ns mainGlobals mg) (hfa:mg "law"=some (.ref fa))
  {f0:Addr} {oc0 kV0 dc0 pm0 cd0 ct0:Value} {od0 an0:Option Addr} {sl0:Array (Option Value)}
  {f1:Addr} {oc1 kV1 dc1 pm1 cd1 ct1:Value} {od1 an1:Option Addr} {sl1:Array (Option Value)}
  {f2:Addr} {oc2 kV2 dc2 pm2 cd2 ct2:Value} {od2 an2:Option Addr} {sl2:Array (Option Value)}
  {f3:Addr} {oc3 kV3 dc3 pm3 cd3 ct3:Value} {od3 an3:Option Addr} {sl3:Array (Option Value)}
  {f4:Addr} {oc4 kV4 dc4 pm4 cd4 ct4:Value} {od4 an4:Option Addr} {sl4:Array (Option Value)}
  {f5:Addr} {oc5 kV5 dc5 pm5 cd5 ct5:Value} {od5 an5:Option Addr} {sl5:Array (Option Value)}
  {f6:Addr} {oc6 kV6 dc6 pm6 cd6 ct6:Value} {od6 an6:Option Addr} {sl6:Array (Option Value)}
  {f7:Addr} {oc7 kV7 dc7 pm7 cd7 ct7:Value} {od7 an7:Option Addr} {sl7:Array (Option Value)}
  {f8:Addr} {oc8 kV8 dc8 pm8 cd8 ct8:Value} {od8 an8:Option Addr} {sl8:Array (Option Value)}
  {f9:Addr} {oc9 kV9 dc9 pm9 cd9 ct9:Value} {od9 an9:Option Addr} {sl9:Array (Option Value)}
  {f10:Addr} {oc10 kV10 dc10 pm10 cd10 ct10:Value} {od10 an10:Option Addr} {sl10:Array (Option Value)}
  {f11:Addr} {oc11 kV11 dc11 pm11 cd11 ct11:Value} {od11 an11:Option Addr} {sl11:Array (Option Value)}
  {f12:Addr} {oc12 kV12 dc12 pm12 cd12 ct12:Value} {od12 an12:Option Addr} {sl12:Array (Option Value)}
  {f13:Addr} {oc13 kV13 dc13 pm13 cd13 ct13:Value} {od13 an13:Option Addr} {sl13:Array (Option Value)}
  {f14:Addr} {oc14 kV14 dc14 pm14 cd14 ct14:Value} {od14 an14:Option Addr} {sl14:Array (Option Value)}
  {f15:Addr} {oc15 kV15 dc15 pm15 cd15 ct15:Value} {od15 an15:Option Addr} {sl15:Array (Option Value)}
  {f16:Addr} {oc16 kV16 dc16 pm16 cd16 ct16:Value} {od16 an16:Option Addr} {sl16:Array (Option Value)}
  {f17:Addr} {oc17 kV17 dc17 pm17 cd17 ct17:Value} {od17 an17:Option Addr} {sl17:Array (Option Value)}
  {f18:Addr} {oc18 kV18 dc18 pm18 cd18 ct18:Value} {od18 an18:Option Addr} {sl18:Array (Option Value)}
  {f19:Addr} {oc19 kV19 dc19 pm19 cd19 ct19:Value} {od19 an19:Option Addr} {sl19:Array (Option Value)}
  {f20:Addr} {oc20 kV20 dc20 pm20 cd20 ct20:Value} {od20 an20:Option Addr} {sl20:Array (Option Value)}
  {f21:Addr} {oc21 kV21 dc21 pm21 cd21 ct21:Value} {od21 an21:Option Addr} {sl21:Array (Option Value)}
  {f22:Addr} {oc22 kV22 dc22 pm22 cd22 ct22:Value} {od22 an22:Option Addr} {sl22:Array (Option Value)}
  {f23:Addr} {oc23 kV23 dc23 pm23 cd23 ct23:Value} {od23 an23:Option Addr} {sl23:Array (Option Value)}
  {f24:Addr} {oc24 kV24 dc24 pm24 cd24 ct24:Value} {od24 an24:Option Addr} {sl24:Array (Option Value)}
  {f25:Addr} {oc25 kV25 dc25 pm25 cd25 ct25:Value} {od25 an25:Option Addr} {sl25:Array (Option Value)}
  {f26:Addr} {oc26 kV26 dc26 pm26 cd26 ct26:Value} {od26 an26:Option Addr} {sl26:Array (Option Value)}
  {f27:Addr} {oc27 kV27 dc27 pm27 cd27 ct27:Value} {od27 an27:Option Addr} {sl27:Array (Option Value)}
  {f28:Addr} {oc28 kV28 dc28 pm28 cd28 ct28:Value} {od28 an28:Option Addr} {sl28:Array (Option Value)}
  {f29:Addr} {oc29 kV29 dc29 pm29 cd29 ct29:Value} {od29 an29:Option Addr} {sl29:Array (Option Value)}
  {f30:Addr} {oc30 kV30 dc30 pm30 cd30 ct30:Value} {od30 an30:Option Addr} {sl30:Array (Option Value)}
  {f31:Addr} {oc31 kV31 dc31 pm31 cd31 ct31:Value} {od31 an31:Option Addr} {sl31:Array (Option Value)}
  {f32:Addr} {oc32 kV32 dc32 pm32 cd32 ct32:Value} {od32 an32:Option Addr} {sl32:Array (Option Value)}
  {f33:Addr} {oc33 kV33 dc33 pm33 cd33 ct33:Value} {od33 an33:Option Addr} {sl33:Array (Option Value)}
  {f34:Addr} {oc34 kV34 dc34 pm34 cd34 ct34:Value} {od34 an34:Option Addr} {sl34:Array (Option Value)}
  {f35:Addr} {oc35 kV35 dc35 pm35 cd35 ct35:Value} {od35 an35:Option Addr} {sl35:Array (Option Value)}
  {f36:Addr} {oc36 kV36 dc36 pm36 cd36 ct36:Value} {od36 an36:Option Addr} {sl36:Array (Option Value)}
  {f37:Addr} {oc37 kV37 dc37 pm37 cd37 ct37:Value} {od37 an37:Option Addr} {sl37:Array (Option Value)}
  {f38:Addr} {oc38 kV38 dc38 pm38 cd38 ct38:Value} {od38 an38:Option Addr} {sl38:Array (Option Value)}
  {f39:Addr} {oc39 kV39 dc39 pm39 cd39 ct39:Value} {od39 an39:Option Addr} {sl39:Array (Option Value)}
  {f40:Addr} {oc40 kV40 dc40 pm40 cd40 ct40:Value} {od40 an40:Option Addr} {sl40:Array (Option Value)}
  {f41:Addr} {oc41 kV41 dc41 pm41 cd41 ct41:Value} {od41 an41:Option Addr} {sl41:Array (Option Value)}
  {f42:Addr} {oc42 kV42 dc42 pm42 cd42 ct42:Value} {od42 an42:Option Addr} {sl42:Array (Option Value)}
  {ga0:Addr} {gd0:Option Addr} {gn0:Nat} {gs0:Array (Option Value)} {t0_0 t0_1:Tok}
  (a0:PySem.W.nsIn K mainGlobals "is_whole"=some (some (.ref f0)))
  (l0:K.lookup f0=some ⟨oc0,od0,.func (PySem.W.fnOf "is_whole" "is_whole" (aj cK) (ac cK) (aa cK) .none kV0 dc0 pm0 an0 cd0 ct0),sl0⟩)
  (c0:PySem.W.codeIn K cd0 "is_whole"=true) (k0:PySem.W.keepIn K (.ref f0)=true)
  (a1:PySem.W.nsIn K mainGlobals "common_divisor"=some (some (.ref f1)))
  (l1:K.lookup f1=some ⟨oc1,od1,.func (PySem.W.fnOf "common_divisor" "common_divisor" (aj aK) (ac aK) (aa aK) .none kV1 dc1 pm1 an1 cd1 ct1),sl1⟩)
  (c1:PySem.W.codeIn K cd1 "common_divisor"=true) (k1:PySem.W.keepIn K (.ref f1)=true)
  (a2:PySem.W.nsIn K mainGlobals "is_fraction"=some (some (.ref f2)))
  (l2:K.lookup f2=some ⟨oc2,od2,.func (PySem.W.fnOf "is_fraction" "is_fraction" (aj bq) (ac bq) (aa bq) .none kV2 dc2 pm2 an2 cd2 ct2),sl2⟩)
  (c2:PySem.W.codeIn K cd2 "is_fraction"=true) (k2:PySem.W.keepIn K (.ref f2)=true)
  (a3:PySem.W.nsIn K mainGlobals "fraction"=some (some (.ref f3)))
  (l3:K.lookup f3=some ⟨oc3,od3,.func (PySem.W.fnOf "fraction" "fraction" (aj cJ) (ac cJ) (aa cJ) .none kV3 dc3 pm3 an3 cd3 ct3),sl3⟩)
  (c3:PySem.W.codeIn K cd3 "fraction"=true) (k3:PySem.W.keepIn K (.ref f3)=true)
  (a4:PySem.W.nsIn K mainGlobals "plus"=some (some (.ref f4)))
  (l4:K.lookup f4=some ⟨oc4,od4,.func (PySem.W.fnOf "plus" "plus" (aj ig) (ac ig) (aa ig) .none kV4 dc4 pm4 an4 cd4 ct4),sl4⟩)
  (c4:PySem.W.codeIn K cd4 "plus"=true) (k4:PySem.W.keepIn K (.ref f4)=true)
  (a5:PySem.W.nsIn K mainGlobals "less"=some (some (.ref f5)))
  (l5:K.lookup f5=some ⟨oc5,od5,.func (PySem.W.fnOf "less" "less" (aj iK) (ac iK) (aa iK) .none kV5 dc5 pm5 an5 cd5 ct5),sl5⟩)
  (c5:PySem.W.codeIn K cd5 "less"=true) (k5:PySem.W.keepIn K (.ref f5)=true)
  (a6:PySem.W.nsIn K mainGlobals "times"=some (some (.ref f6)))
  (l6:K.lookup f6=some ⟨oc6,od6,.func (PySem.W.fnOf "times" "times" (aj fD) (ac fD) (aa fD) .none kV6 dc6 pm6 an6 cd6 ct6),sl6⟩)
  (c6:PySem.W.codeIn K cd6 "times"=true) (k6:PySem.W.keepIn K (.ref f6)=true)
  (a7:PySem.W.nsIn K mainGlobals "is_below"=some (some (.ref f7)))
  (l7:K.lookup f7=some ⟨oc7,od7,.func (PySem.W.fnOf "is_below" "is_below" (aj cH) (ac cH) (aa cH) .none kV7 dc7 pm7 an7 cd7 ct7),sl7⟩)
  (c7:PySem.W.codeIn K cd7 "is_below"=true) (k7:PySem.W.keepIn K (.ref f7)=true)
  (a8:PySem.W.nsIn K mainGlobals "crosswise"=some (some (.ref f8)))
  (l8:K.lookup f8=some ⟨oc8,od8,.func (PySem.W.fnOf "crosswise" "crosswise" (aj bZ) (ac bZ) (aa bZ) .none kV8 dc8 pm8 an8 cd8 ct8),sl8⟩)
  (c8:PySem.W.codeIn K cd8 "crosswise"=true) (k8:PySem.W.keepIn K (.ref f8)=true)
  (a9:PySem.W.nsIn K mainGlobals "on_straight"=some (some (.ref f9)))
  (l9:K.lookup f9=some ⟨oc9,od9,.func (PySem.W.fnOf "on_straight" "on_straight" (aj bp) (ac bp) (aa bp) .none kV9 dc9 pm9 an9 cd9 ct9),sl9⟩)
  (c9:PySem.W.codeIn K cd9 "on_straight"=true) (k9:PySem.W.keepIn K (.ref f9)=true)
  (a10:PySem.W.nsIn K mainGlobals "is_piece"=some (some (.ref f10)))
  (l10:K.lookup f10=some ⟨oc10,od10,.func (PySem.W.fnOf "is_piece" "is_piece" (aj cB) (ac cB) (aa cB) .none kV10 dc10 pm10 an10 cd10 ct10),sl10⟩)
  (c10:PySem.W.codeIn K cd10 "is_piece"=true) (k10:PySem.W.keepIn K (.ref f10)=true)
  (a11:PySem.W.nsIn K mainGlobals "is_right_alone"=some (some (.ref f11)))
  (l11:K.lookup f11=some ⟨oc11,od11,.func (PySem.W.fnOf "is_right_alone" "is_right_alone" (aj aJ) (ac aJ) (aa aJ) .none kV11 dc11 pm11 an11 cd11 ct11),sl11⟩)
  (c11:PySem.W.codeIn K cd11 "is_right_alone"=true) (k11:PySem.W.keepIn K (.ref f11)=true)
  (a12:PySem.W.nsIn K mainGlobals "is_right_first"=some (some (.ref f12)))
  (l12:K.lookup f12=some ⟨oc12,od12,.func (PySem.W.fnOf "is_right_first" "is_right_first" (aj aL) (ac aL) (aa aL) .none kV12 dc12 pm12 an12 cd12 ct12),sl12⟩)
  (c12:PySem.W.codeIn K cd12 "is_right_first"=true) (k12:PySem.W.keepIn K (.ref f12)=true)
  (a13:PySem.W.nsIn K mainGlobals "is_right_behind"=some (some (.ref f13)))
  (l13:K.lookup f13=some ⟨oc13,od13,.func (PySem.W.fnOf "is_right_behind" "is_right_behind" (aj aG) (ac aG) (aa aG) .none kV13 dc13 pm13 an13 cd13 ct13),sl13⟩)
  (c13:PySem.W.codeIn K cd13 "is_right_behind"=true) (k13:PySem.W.keepIn K (.ref f13)=true)
  (a14:PySem.W.nsIn K mainGlobals "is_row"=some (some (.ref f14)))
  (l14:K.lookup f14=some ⟨oc14,od14,.func (PySem.W.fnOf "is_row" "is_row" (aj ei) (ac ei) (aa ei) .none kV14 dc14 pm14 an14 cd14 ct14),sl14⟩)
  (c14:PySem.W.codeIn K cd14 "is_row"=true) (k14:PySem.W.keepIn K (.ref f14)=true)
  (a15:PySem.W.nsIn K mainGlobals "goes_on"=some (some (.ref f15)))
  (l15:K.lookup f15=some ⟨oc15,od15,.func (PySem.W.fnOf "goes_on" "goes_on" (aj dr) (ac dr) (aa dr) .none kV15 dc15 pm15 an15 cd15 ct15),sl15⟩)
  (c15:PySem.W.codeIn K cd15 "goes_on"=true) (k15:PySem.W.keepIn K (.ref f15)=true)
  (a16:PySem.W.nsIn K mainGlobals "lean"=some (some (.ref f16)))
  (l16:K.lookup f16=some ⟨oc16,od16,.func (PySem.W.fnOf "lean" "lean" (aj iq) (ac iq) (aa iq) .none kV16 dc16 pm16 an16 cd16 ct16),sl16⟩)
  (c16:PySem.W.codeIn K cd16 "lean"=true) (k16:PySem.W.keepIn K (.ref f16)=true)
  (a17:PySem.W.nsIn K mainGlobals "is_stair"=some (some (.ref f17)))
  (l17:K.lookup f17=some ⟨oc17,od17,.func (PySem.W.fnOf "is_stair" "is_stair" (aj cT) (ac cT) (aa cT) .none kV17 dc17 pm17 an17 cd17 ct17),sl17⟩)
  (c17:PySem.W.codeIn K cd17 "is_stair"=true) (k17:PySem.W.keepIn K (.ref f17)=true)
  (a18:PySem.W.nsIn K mainGlobals "beginning_of"=some (some (.ref f18)))
  (l18:K.lookup f18=some ⟨oc18,od18,.func (PySem.W.fnOf "beginning_of" "beginning_of" (aj aY) (ac aY) (aa aY) .none kV18 dc18 pm18 an18 cd18 ct18),sl18⟩)
  (c18:PySem.W.codeIn K cd18 "beginning_of"=true) (k18:PySem.W.keepIn K (.ref f18)=true)
  (a19:PySem.W.nsIn K mainGlobals "height"=some (some (.ref f19)))
  (l19:K.lookup f19=some ⟨oc19,od19,.func (PySem.W.fnOf "height" "height" (aj ek) (ac ek) (aa ek) .none kV19 dc19 pm19 an19 cd19 ct19),sl19⟩)
  (c19:PySem.W.codeIn K cd19 "height"=true) (k19:PySem.W.keepIn K (.ref f19)=true)
  (a20:PySem.W.nsIn K mainGlobals "merged"=some (some (.ref f20)))
  (l20:K.lookup f20=some ⟨oc20,od20,.func (PySem.W.fnOf "merged" "merged" (aj d8) (ac d8) (aa d8) .none kV20 dc20 pm20 an20 cd20 ct20),sl20⟩)
  (c20:PySem.W.codeIn K cd20 "merged"=true) (k20:PySem.W.keepIn K (.ref f20)=true)
  (a21:PySem.W.nsIn K mainGlobals "cut_at"=some (some (.ref f21)))
  (l21:K.lookup f21=some ⟨oc21,od21,.func (PySem.W.fnOf "cut_at" "cut_at" (aj ej) (ac ej) (aa ej) .none kV21 dc21 pm21 an21 cd21 ct21),sl21⟩)
  (c21:PySem.W.codeIn K cd21 "cut_at"=true) (k21:PySem.W.keepIn K (.ref f21)=true)
  (a22:PySem.W.nsIn K mainGlobals "leaders"=some (some (.ref f22)))
  (l22:K.lookup f22=some ⟨oc22,od22,.func (PySem.W.fnOf "leaders" "leaders" (aj dz) (ac dz) (aa dz) .none kV22 dc22 pm22 an22 cd22 ct22),sl22⟩)
  (c22:PySem.W.codeIn K cd22 "leaders"=true) (k22:PySem.W.keepIn K (.ref f22)=true)
  (a23:PySem.W.nsIn K mainGlobals "common"=some (some (.ref f23)))
  (l23:K.lookup f23=some ⟨oc23,od23,.func (PySem.W.fnOf "common" "common" (aj em) (ac em) (aa em) .none kV23 dc23 pm23 an23 cd23 ct23),sl23⟩)
  (c23:PySem.W.codeIn K cd23 "common"=true) (k23:PySem.W.keepIn K (.ref f23)=true)
  (a24:PySem.W.nsIn K mainGlobals "apart"=some (some (.ref f24)))
  (l24:K.lookup f24=some ⟨oc24,od24,.func (PySem.W.fnOf "apart" "apart" (aj fE) (ac fE) (aa fE) .none kV24 dc24 pm24 an24 cd24 ct24),sl24⟩)
  (c24:PySem.W.codeIn K cd24 "apart"=true) (k24:PySem.W.keepIn K (.ref f24)=true)
  (a25:PySem.W.nsIn K mainGlobals "crossed"=some (some (.ref f25)))
  (l25:K.lookup f25=some ⟨oc25,od25,.func (PySem.W.fnOf "crossed" "crossed" (aj du) (ac du) (aa du) .none kV25 dc25 pm25 an25 cd25 ct25),sl25⟩)
  (c25:PySem.W.codeIn K cd25 "crossed"=true) (k25:PySem.W.keepIn K (.ref f25)=true)
  (a26:PySem.W.nsIn K mainGlobals "compared_between"=some (some (.ref f26)))
  (l26:K.lookup f26=some ⟨oc26,od26,.func (PySem.W.fnOf "compared_between" "compared_between" (aj aE) (ac aE) (aa aE) .none kV26 dc26 pm26 an26 cd26 ct26),sl26⟩)
  (c26:PySem.W.codeIn K cd26 "compared_between"=true) (k26:PySem.W.keepIn K (.ref f26)=true)
  (a27:PySem.W.nsIn K mainGlobals "compared"=some (some (.ref f27)))
  (l27:K.lookup f27=some ⟨oc27,od27,.func (PySem.W.fnOf "compared" "compared" (aj cU) (ac cU) (aa cU) .none kV27 dc27 pm27 an27 cd27 ct27),sl27⟩)
  (c27:PySem.W.codeIn K cd27 "compared"=true) (k27:PySem.W.keepIn K (.ref f27)=true)
  (a28:PySem.W.nsIn K mainGlobals "lesser"=some (some (.ref f28)))
  (l28:K.lookup f28=some ⟨oc28,od28,.func (PySem.W.fnOf "lesser" "lesser" (aj d9) (ac d9) (aa d9) .none kV28 dc28 pm28 an28 cd28 ct28),sl28⟩)
  (c28:PySem.W.codeIn K cd28 "lesser"=true) (k28:PySem.W.keepIn K (.ref f28)=true)
  (a29:PySem.W.nsIn K mainGlobals "_law_pot"=some (some (.ref f29)))
  (l29:K.lookup f29=some ⟨oc29,od29,.func (PySem.W.fnOf "_law_pot" "_law_pot" (aj cP) (ac cP) (aa cP) .none kV29 dc29 pm29 an29 cd29 ct29),sl29⟩)
  (c29:PySem.W.codeIn K cd29 "_law_pot"=true) (k29:PySem.W.keepIn K (.ref f29)=true)
  (a30:PySem.W.nsIn K mainGlobals "_law_take"=some (some (.ref f30)))
  (l30:K.lookup f30=some ⟨oc30,od30,.func (PySem.W.fnOf "_law_take" "_law_take" (aj bX) (ac bX) (aa bX) .none kV30 dc30 pm30 an30 cd30 ct30),sl30⟩)
  (c30:PySem.W.codeIn K cd30 "_law_take"=true) (k30:PySem.W.keepIn K (.ref f30)=true)
  (a31:PySem.W.nsIn K mainGlobals "_law_moment"=some (some (.ref f31)))
  (l31:K.lookup f31=some ⟨oc31,od31,.func (PySem.W.fnOf "_law_moment" "_law_moment" (aj br) (ac br) (aa br) .none kV31 dc31 pm31 an31 cd31 ct31),sl31⟩)
  (c31:PySem.W.codeIn K cd31 "_law_moment"=true) (k31:PySem.W.keepIn K (.ref f31)=true)
  (a32:PySem.W.nsIn K mainGlobals "_law_row"=some (some (.ref f32)))
  (l32:K.lookup f32=some ⟨oc32,od32,.func (PySem.W.fnOf "_law_row" "_law_row" (aj cG) (ac cG) (aa cG) .none kV32 dc32 pm32 an32 cd32 ct32),sl32⟩)
  (c32:PySem.W.codeIn K cd32 "_law_row"=true) (k32:PySem.W.keepIn K (.ref f32)=true)
  (a33:PySem.W.nsIn K mainGlobals "_law_lean"=some (some (.ref f33)))
  (l33:K.lookup f33=some ⟨oc33,od33,.func (PySem.W.fnOf "_law_lean" "_law_lean" (aj bW) (ac bW) (aa bW) .none kV33 dc33 pm33 an33 cd33 ct33),sl33⟩)
  (c33:PySem.W.codeIn K cd33 "_law_lean"=true) (k33:PySem.W.keepIn K (.ref f33)=true)
  (a34:PySem.W.nsIn K mainGlobals "_law_part"=some (some (.ref f34)))
  (l34:K.lookup f34=some ⟨oc34,od34,.func (PySem.W.fnOf "_law_part" "_law_part" (aj b7) (ac b7) (aa b7) .none kV34 dc34 pm34 an34 cd34 ct34),sl34⟩)
  (c34:PySem.W.codeIn K cd34 "_law_part"=true) (k34:PySem.W.keepIn K (.ref f34)=true)
  (a35:PySem.W.nsIn K mainGlobals "_law_stair"=some (some (.ref f35)))
  (l35:K.lookup f35=some ⟨oc35,od35,.func (PySem.W.fnOf "_law_stair" "_law_stair" (aj bI) (ac bI) (aa bI) .none kV35 dc35 pm35 an35 cd35 ct35),sl35⟩)
  (c35:PySem.W.codeIn K cd35 "_law_stair"=true) (k35:PySem.W.keepIn K (.ref f35)=true)
  (a36:PySem.W.nsIn K mainGlobals "_law_hints"=some (some (.ref f36)))
  (l36:K.lookup f36=some ⟨oc36,od36,.func (PySem.W.fnOf "_law_hints" "_law_hints" (aj bJ) (ac bJ) (aa bJ) .none kV36 dc36 pm36 an36 cd36 ct36),sl36⟩)
  (c36:PySem.W.codeIn K cd36 "_law_hints"=true) (k36:PySem.W.keepIn K (.ref f36)=true)
  (a37:PySem.W.nsIn K mainGlobals "_law_on"=some (some (.ref f37)))
  (l37:K.lookup f37=some ⟨oc37,od37,.func (PySem.W.fnOf "_law_on" "_law_on" (aj dw) (ac dw) (aa dw) .none kV37 dc37 pm37 an37 cd37 ct37),sl37⟩)
  (c37:PySem.W.codeIn K cd37 "_law_on"=true) (k37:PySem.W.keepIn K (.ref f37)=true)
  (a38:PySem.W.nsIn K mainGlobals "_law_alike"=some (some (.ref f38)))
  (l38:K.lookup f38=some ⟨oc38,od38,.func (PySem.W.fnOf "_law_alike" "_law_alike" (aj bK) (ac bK) (aa bK) .none kV38 dc38 pm38 an38 cd38 ct38),sl38⟩)
  (c38:PySem.W.codeIn K cd38 "_law_alike"=true) (k38:PySem.W.keepIn K (.ref f38)=true)
  (a39:PySem.W.nsIn K mainGlobals "_law_middles"=some (some (.ref f39)))
  (l39:K.lookup f39=some ⟨oc39,od39,.func (PySem.W.fnOf "_law_middles" "_law_middles" (aj aZ) (ac aZ) (aa aZ) .none kV39 dc39 pm39 an39 cd39 ct39),sl39⟩)
  (c39:PySem.W.codeIn K cd39 "_law_middles"=true) (k39:PySem.W.keepIn K (.ref f39)=true)
  (a40:PySem.W.nsIn K mainGlobals "_law_due"=some (some (.ref f40)))
  (l40:K.lookup f40=some ⟨oc40,od40,.func (PySem.W.fnOf "_law_due" "_law_due" (aj cF) (ac cF) (aa cF) .none kV40 dc40 pm40 an40 cd40 ct40),sl40⟩)
  (c40:PySem.W.codeIn K cd40 "_law_due"=true) (k40:PySem.W.keepIn K (.ref f40)=true)
  (a41:PySem.W.nsIn K mainGlobals "_law_right"=some (some (.ref f41)))
  (l41:K.lookup f41=some ⟨oc41,od41,.func (PySem.W.fnOf "_law_right" "_law_right" (aj bN) (ac bN) (aa bN) .none kV41 dc41 pm41 an41 cd41 ct41),sl41⟩)
  (c41:PySem.W.codeIn K cd41 "_law_right"=true) (k41:PySem.W.keepIn K (.ref f41)=true)
  (a42:PySem.W.nsIn K mainGlobals "law"=some (some (.ref f42)))
  (l42:K.lookup f42=some ⟨oc42,od42,.func (PySem.W.fnOf "law" "law" (aj jv) (ac jv) (aa jv) .none kV42 dc42 pm42 an42 cd42 ct42),sl42⟩)
  (c42:PySem.W.codeIn K cd42 "law"=true) (k42:PySem.W.keepIn K (.ref f42)=true)
  (z0:PySem.W.nsIn K mainGlobals "isinstance"=some none)
  (z1:PySem.W.nsIn K mainGlobals "bool"=some none)
  (z2:PySem.W.nsIn K mainGlobals "int"=some none)
  (z3:PySem.W.nsIn K mainGlobals "len"=some none)
  (z4:PySem.W.nsIn K mainGlobals "tuple"=some none)
  (z5:PySem.W.nsIn K mainGlobals "all"=some none)
  (z6:PySem.W.nsIn K mainGlobals "zip"=some none)
  (z7:PySem.W.nsIn K mainGlobals "enumerate"=some none)
  (z8:PySem.W.nsIn K mainGlobals "abs"=some none)
  (z9:PySem.W.nsIn K mainGlobals "max"=some none)
  (z10:PySem.W.nsIn K mainGlobals "divmod"=some none)
  (z11:PySem.W.nsIn K mainGlobals "range"=some none)
  (z12:PySem.W.nsIn K mainGlobals "min"=some none)
  (tz0:PySem.W.nsIn K mainGlobals "coming"=some none)
  (tz1:PySem.W.nsIn K mainGlobals "latest"=some none)
  (tz2:PySem.W.nsIn K mainGlobals "through"=some none)
  (ga0_:PySem.W.nsIn K mainGlobals "NOUGHT"=some (some (.ref ga0)))
  (gl0_:K.lookup ga0=some ⟨.type "tuple",gd0,.seq #[.int 0 t0_0,.int 1 t0_1] gn0,gs0⟩)
  : ∃fd:FuncData,(∀(s:Shared) (v:Value),BindsTo s fd ⟨[v],[]⟩ [("_law_script",v)])∧EV K∧(∀x∈bG,PySem.W.tabIn K x=none∨∃d,(PyProof.Rows.recsOf q).find? (fun e=>e.name == x)=some d)∧∀base:Heap,K.In base→base.Ns mainGlobals mg→nh K mg base→qu l.prog w K mg base CX0 43 fa fd ["_law_script"] (aq K js):=by
 have e:=hfa.symm.trans (PySem.W.mg_of X G a42)
 cases e
 have hb:∀x∈bC,mg x=none:=by
  intro x hx
  simp only [bC,List.mem_cons,List.not_mem_nil,or_false] at hx
  rcases hx with rfl|rfl|rfl|rfl|rfl|rfl|rfl|rfl|rfl|rfl|rfl|rfl|rfl
  ·exact PySem.W.mg_none_of X G z0
  ·exact PySem.W.mg_none_of X G z1
  ·exact PySem.W.mg_none_of X G z2
  ·exact PySem.W.mg_none_of X G z3
  ·exact PySem.W.mg_none_of X G z4
  ·exact PySem.W.mg_none_of X G z5
  ·exact PySem.W.mg_none_of X G z6
  ·exact PySem.W.mg_none_of X G z7
  ·exact PySem.W.mg_none_of X G z8
  ·exact PySem.W.mg_none_of X G z9
  ·exact PySem.W.mg_none_of X G z10
  ·exact PySem.W.mg_none_of X G z11
  ·exact PySem.W.mg_none_of X G z12
 have hgl:∀x v,glL.lookup x=some v→∃u y,mg x=some u∧RelV y u∧∀m H,R K m H v y:=by
  intro x v hx
  by_cases q0:x=("NOUGHT":Str)
  ·subst q0
   have e:v=bF:=by
    have:glL.lookup ("NOUGHT":Str)=some bF:=rfl
    rw [this] at hx;cases hx;rfl
   subst e
   exact ⟨_,.ref ga0,PySem.W.mg_of X G ga0_,rfl,fun m H=>R_tup.mpr ⟨ga0,[.int 0,.int 1],rfl,.inr ⟨_,_,_,gl0_,rfl,rfl,(show 2≤sizeLine by decide),(.cons ⟨t0_0,rfl⟩ (.cons ⟨t0_1,rfl⟩ .nil))⟩,by simp only [Rs_cons',Rs_nil,R_int,and_self]⟩⟩
  exact absurd hx (by simp only [glL,List.lookup_cons,List.lookup_nil];simp only [beq_eq_false_iff_ne.mpr q0];exact fun z=>nomatch z)
 have F_is_whole:At K mg "is_whole" cK ["thing"]:=At.mk' X G (fun _ _ _ _ _ _ us hl=>ar1 (P:=fun us=>bindArgs _ { pos:=us }=pure (List.zip _ us)) (fun _=>rfl) us hl) a0 l0 c0 k0
 have F_common_divisor:At K mg "common_divisor" aK ["n","d"]:=At.mk' X G (fun _ _ _ _ _ _ us hl=>ar2 (P:=fun us=>bindArgs _ { pos:=us }=pure (List.zip _ us)) (fun _ _=>rfl) us hl) a1 l1 c1 k1
 have F_is_fraction:At K mg "is_fraction" bq ["thing"]:=At.mk' X G (fun _ _ _ _ _ _ us hl=>ar1 (P:=fun us=>bindArgs _ { pos:=us }=pure (List.zip _ us)) (fun _=>rfl) us hl) a2 l2 c2 k2
 have F_fraction:At K mg "fraction" cJ ["n","d"]:=At.mk' X G (fun _ _ _ _ _ _ us hl=>ar2 (P:=fun us=>bindArgs _ { pos:=us }=pure (List.zip _ us)) (fun _ _=>rfl) us hl) a3 l3 c3 k3
 have F_plus:At K mg "plus" ig ["one","other"]:=At.mk' X G (fun _ _ _ _ _ _ us hl=>ar2 (P:=fun us=>bindArgs _ { pos:=us }=pure (List.zip _ us)) (fun _ _=>rfl) us hl) a4 l4 c4 k4
 have F_less:At K mg "less" iK ["one","other"]:=At.mk' X G (fun _ _ _ _ _ _ us hl=>ar2 (P:=fun us=>bindArgs _ { pos:=us }=pure (List.zip _ us)) (fun _ _=>rfl) us hl) a5 l5 c5 k5
 have F_times:At K mg "times" fD ["one","other"]:=At.mk' X G (fun _ _ _ _ _ _ us hl=>ar2 (P:=fun us=>bindArgs _ { pos:=us }=pure (List.zip _ us)) (fun _ _=>rfl) us hl) a6 l6 c6 k6
 have F_is_below:At K mg "is_below" cH ["one","other"]:=At.mk' X G (fun _ _ _ _ _ _ us hl=>ar2 (P:=fun us=>bindArgs _ { pos:=us }=pure (List.zip _ us)) (fun _ _=>rfl) us hl) a7 l7 c7 k7
 have F_crosswise:At K mg "crosswise" bZ ["one","other"]:=At.mk' X G (fun _ _ _ _ _ _ us hl=>ar2 (P:=fun us=>bindArgs _ { pos:=us }=pure (List.zip _ us)) (fun _ _=>rfl) us hl) a8 l8 c8 k8
 have F_on_straight:At K mg "on_straight" bp ["near","far","x"]:=At.mk' X G (fun _ _ _ _ _ _ us hl=>ar3 (P:=fun us=>bindArgs _ { pos:=us }=pure (List.zip _ us)) (fun _ _ _=>rfl) us hl) a9 l9 c9 k9
 have F_is_piece:At K mg "is_piece" cB ["thing"]:=At.mk' X G (fun _ _ _ _ _ _ us hl=>ar1 (P:=fun us=>bindArgs _ { pos:=us }=pure (List.zip _ us)) (fun _=>rfl) us hl) a10 l10 c10 k10
 have F_is_right_alone:At K mg "is_right_alone" aJ ["piece"]:=At.mk' X G (fun _ _ _ _ _ _ us hl=>ar1 (P:=fun us=>bindArgs _ { pos:=us }=pure (List.zip _ us)) (fun _=>rfl) us hl) a11 l11 c11 k11
 have F_is_right_first:At K mg "is_right_first" aL ["piece"]:=At.mk' X G (fun _ _ _ _ _ _ us hl=>ar1 (P:=fun us=>bindArgs _ { pos:=us }=pure (List.zip _ us)) (fun _=>rfl) us hl) a12 l12 c12 k12
 have F_is_right_behind:At K mg "is_right_behind" aG ["ahead","piece"]:=At.mk' X G (fun _ _ _ _ _ _ us hl=>ar2 (P:=fun us=>bindArgs _ { pos:=us }=pure (List.zip _ us)) (fun _ _=>rfl) us hl) a13 l13 c13 k13
 have F_is_row:At K mg "is_row" ei ["thing"]:=At.mk' X G (fun _ _ _ _ _ _ us hl=>ar1 (P:=fun us=>bindArgs _ { pos:=us }=pure (List.zip _ us)) (fun _=>rfl) us hl) a14 l14 c14 k14
 have F_goes_on:At K mg "goes_on" dr ["beginning","ahead","piece"]:=At.mk' X G (fun _ _ _ _ _ _ us hl=>ar3 (P:=fun us=>bindArgs _ { pos:=us }=pure (List.zip _ us)) (fun _ _ _=>rfl) us hl) a15 l15 c15 k15
 have F_lean:At K mg "lean" iq ["row"]:=At.mk' X G (fun _ _ _ _ _ _ us hl=>ar1 (P:=fun us=>bindArgs _ { pos:=us }=pure (List.zip _ us)) (fun _=>rfl) us hl) a16 l16 c16 k16
 have F_is_stair:At K mg "is_stair" cT ["thing"]:=At.mk' X G (fun _ _ _ _ _ _ us hl=>ar1 (P:=fun us=>bindArgs _ { pos:=us }=pure (List.zip _ us)) (fun _=>rfl) us hl) a17 l17 c17 k17
 have F_beginning_of:At K mg "beginning_of" aY ["stair","at"]:=At.mk' X G (fun _ _ _ _ _ _ us hl=>ar2 (P:=fun us=>bindArgs _ { pos:=us }=pure (List.zip _ us)) (fun _ _=>rfl) us hl) a18 l18 c18 k18
 have F_height:At K mg "height" ek ["stair","at","t"]:=At.mk' X G (fun _ _ _ _ _ _ us hl=>ar3 (P:=fun us=>bindArgs _ { pos:=us }=pure (List.zip _ us)) (fun _ _ _=>rfl) us hl) a19 l19 c19 k19
 have F_merged:At K mg "merged" d8 ["one","other"]:=At.mk' X G (fun _ _ _ _ _ _ us hl=>ar2 (P:=fun us=>bindArgs _ { pos:=us }=pure (List.zip _ us)) (fun _ _=>rfl) us hl) a20 l20 c20 k20
 have F_cut_at:At K mg "cut_at" ej ["stair","ends"]:=At.mk' X G (fun _ _ _ _ _ _ us hl=>ar2 (P:=fun us=>bindArgs _ { pos:=us }=pure (List.zip _ us)) (fun _ _=>rfl) us hl) a21 l21 c21 k21
 have F_leaders:At K mg "leaders" dz ["one","other"]:=At.mk' X G (fun _ _ _ _ _ _ us hl=>ar2 (P:=fun us=>bindArgs _ { pos:=us }=pure (List.zip _ us)) (fun _ _=>rfl) us hl) a22 l22 c22 k22
 have F_common:At K mg "common" em ["some","others"]:=At.mk' X G (fun _ _ _ _ _ _ us hl=>ar2 (P:=fun us=>bindArgs _ { pos:=us }=pure (List.zip _ us)) (fun _ _=>rfl) us hl) a23 l23 c23 k23
 have F_apart:At K mg "apart" fE ["one","other"]:=At.mk' X G (fun _ _ _ _ _ _ us hl=>ar2 (P:=fun us=>bindArgs _ { pos:=us }=pure (List.zip _ us)) (fun _ _=>rfl) us hl) a24 l24 c24 k24
 have F_crossed:At K mg "crossed" du ["beginning","end","mine","yours"]:=At.mk' X G (fun _ _ _ _ _ _ us hl=>ar4 (P:=fun us=>bindArgs _ { pos:=us }=pure (List.zip _ us)) (fun _ _ _ _=>rfl) us hl) a25 l25 c25 k25
 have F_compared_between:At K mg "compared_between" aE ["beginning","end","mine","yours"]:=At.mk' X G (fun _ _ _ _ _ _ us hl=>ar4 (P:=fun us=>bindArgs _ { pos:=us }=pure (List.zip _ us)) (fun _ _ _ _=>rfl) us hl) a26 l26 c26 k26
 have F_compared:At K mg "compared" cU ["one","other"]:=At.mk' X G (fun _ _ _ _ _ _ us hl=>ar2 (P:=fun us=>bindArgs _ { pos:=us }=pure (List.zip _ us)) (fun _ _=>rfl) us hl) a27 l27 c27 k27
 have F_lesser:At K mg "lesser" d9 ["one","other"]:=At.mk' X G (fun _ _ _ _ _ _ us hl=>ar2 (P:=fun us=>bindArgs _ { pos:=us }=pure (List.zip _ us)) (fun _ _=>rfl) us hl) a28 l28 c28 k28
 have F__law_pot:At K mg "_law_pot" cP ["_law_script","_law_k"]:=At.mk' X G (fun _ _ _ _ _ _ us hl=>ar2 (P:=fun us=>bindArgs _ { pos:=us }=pure (List.zip _ us)) (fun _ _=>rfl) us hl) a29 l29 c29 k29
 have F__law_take:At K mg "_law_take" bX ["_law_pot_here","_law_many"]:=At.mk' X G (fun _ _ _ _ _ _ us hl=>ar2 (P:=fun us=>bindArgs _ { pos:=us }=pure (List.zip _ us)) (fun _ _=>rfl) us hl) a30 l30 c30 k30
 have F__law_moment:At K mg "_law_moment" br ["_law_n","_law_d"]:=At.mk' X G (fun _ _ _ _ _ _ us hl=>ar2 (P:=fun us=>bindArgs _ { pos:=us }=pure (List.zip _ us)) (fun _ _=>rfl) us hl) a31 l31 c31 k31
 have F__law_row:At K mg "_law_row" cG ["_law_pot_here","_law_hints_here"]:=At.mk' X G (fun _ _ _ _ _ _ us hl=>ar2 (P:=fun us=>bindArgs _ { pos:=us }=pure (List.zip _ us)) (fun _ _=>rfl) us hl) a32 l32 c32 k32
 have F__law_lean:At K mg "_law_lean" bW ["_law_row_here"]:=At.mk' X G (fun _ _ _ _ _ _ us hl=>ar1 (P:=fun us=>bindArgs _ { pos:=us }=pure (List.zip _ us)) (fun _=>rfl) us hl) a33 l33 c33 k33
 have F__law_part:At K mg "_law_part" b7 ["_law_pot_here"]:=At.mk' X G (fun _ _ _ _ _ _ us hl=>ar1 (P:=fun us=>bindArgs _ { pos:=us }=pure (List.zip _ us)) (fun _=>rfl) us hl) a34 l34 c34 k34
 have F__law_stair:At K mg "_law_stair" bI ["_law_row_here","_law_part_here"]:=At.mk' X G (fun _ _ _ _ _ _ us hl=>ar2 (P:=fun us=>bindArgs _ { pos:=us }=pure (List.zip _ us)) (fun _ _=>rfl) us hl) a35 l35 c35 k35
 have F__law_hints:At K mg "_law_hints" bJ ["_law_row_here"]:=At.mk' X G (fun _ _ _ _ _ _ us hl=>ar1 (P:=fun us=>bindArgs _ { pos:=us }=pure (List.zip _ us)) (fun _=>rfl) us hl) a36 l36 c36 k36
 have F__law_on:At K mg "_law_on" dw ["_law_stair_here","_law_t"]:=At.mk' X G (fun _ _ _ _ _ _ us hl=>ar2 (P:=fun us=>bindArgs _ { pos:=us }=pure (List.zip _ us)) (fun _ _=>rfl) us hl) a37 l37 c37 k37
 have F__law_alike:At K mg "_law_alike" bK ["_law_one","_law_other"]:=At.mk' X G (fun _ _ _ _ _ _ us hl=>ar2 (P:=fun us=>bindArgs _ { pos:=us }=pure (List.zip _ us)) (fun _ _=>rfl) us hl) a38 l38 c38 k38
 have F__law_middles:At K mg "_law_middles" aZ ["_law_stair_here"]:=At.mk' X G (fun _ _ _ _ _ _ us hl=>ar1 (P:=fun us=>bindArgs _ { pos:=us }=pure (List.zip _ us)) (fun _=>rfl) us hl) a39 l39 c39 k39
 have F__law_due:At K mg "_law_due" cF ["_law_one","_law_other","_law_t"]:=At.mk' X G (fun _ _ _ _ _ _ us hl=>ar3 (P:=fun us=>bindArgs _ { pos:=us }=pure (List.zip _ us)) (fun _ _ _=>rfl) us hl) a40 l40 c40 k40
 have F__law_right:At K mg "_law_right" bN ["_law_one","_law_other"]:=At.mk' X G (fun _ _ _ _ _ _ us hl=>ar2 (P:=fun us=>bindArgs _ { pos:=us }=pure (List.zip _ us)) (fun _ _=>rfl) us hl) a41 l41 c41 k41
 have t_coming:=wT tz0
 have t_latest:=wT tz1
 have t_through:=wT tz2
 refine ⟨PySem.W.fnOf "law" "law" (aj jv) (ac jv) (aa jv) .none kV42 dc42 pm42 an42 cd42 ct42,fun s v=>.of_eq rfl,?lk,?lq,fun base _ _ B=>?_⟩
 case lk =>
  refine Ep fun x hx=>?_
  simp only [bG,List.mem_cons,List.not_mem_nil,or_false] at hx
  rcases hx with rfl|rfl|rfl
  ·exact .inl t_coming
  ·exact .inl t_latest
  ·exact .inl t_through
 case lq =>
  intro x hx
  simp only [bG,List.mem_cons,List.not_mem_nil,or_false] at hx
  rcases hx with rfl|rfl|rfl
  ·exact .inl t_coming
  ·exact .inl t_latest
  ·exact .inl t_through
 have G0:GOk l.prog w K mg base jD Γ:=⟨fun f x hf=>absurd hf (Nat.not_lt_zero _),hb,hgl,Γm⟩
 have G1:GOk l.prog w K mg base dX Γ:=G0.next rfl rfl rfl rfl rfl (vU F_is_whole G0)
 have G2:GOk l.prog w K mg base fH Γ:=G1.next rfl rfl rfl rfl rfl (j_ F_common_divisor G1)
 have G3:GOk l.prog w K mg base jy Γ:=G2.next rfl rfl rfl rfl rfl (nL F_is_fraction G2)
 have G4:GOk l.prog w K mg base wN Γ:=G3.next rfl rfl rfl rfl rfl (uC F_fraction G3)
 have G5:GOk l.prog w K mg base xE Γ:=G4.next rfl rfl rfl rfl rfl (Fd F_plus G4)
 have G6:GOk l.prog w K mg base rR Γ:=G5.next rfl rfl rfl rfl rfl (D4 F_less G5)
 have G7:GOk l.prog w K mg base jK Γ:=G6.next rfl rfl rfl rfl rfl (BY F_times G6)
 have G8:GOk l.prog w K mg base iI Γ:=G7.next rfl rfl rfl rfl rfl (t3 F_is_below G7)
 have G9:GOk l.prog w K mg base fS Γ:=G8.next rfl rfl rfl rfl rfl (sR F_crosswise G8)
 have G10:GOk l.prog w K mg base jJ Γ:=G9.next rfl rfl rfl rfl rfl (pF F_on_straight G9)
 have G11:GOk l.prog w K mg base dS Γ:=G10.next rfl rfl rfl rfl rfl (ur F_is_piece G10)
 have G12:GOk l.prog w K mg base dY Γ:=G11.next rfl rfl rfl rfl rfl (kj F_is_right_alone G11)
 have G13:GOk l.prog w K mg base dM Γ:=G12.next rfl rfl rfl rfl rfl (kJ F_is_right_first G12)
 have G14:GOk l.prog w K mg base oU Γ:=G13.next rfl rfl rfl rfl rfl (jO F_is_right_behind G13)
 have G15:GOk l.prog w K mg base ma Γ:=G14.next rfl rfl rfl rfl rfl (AG F_is_row G14)
 have G16:GOk l.prog w K mg base yf Γ:=G15.next rfl rfl rfl rfl rfl (yi F_goes_on G15)
 have G17:GOk l.prog w K mg base jM Γ:=G16.next rfl rfl rfl rfl rfl (EX F_lean G16)
 have G18:GOk l.prog w K mg base fb Γ:=G17.next rfl rfl rfl rfl rfl (vt F_is_stair G17)
 have G19:GOk l.prog w K mg base oG Γ:=G18.next rfl rfl rfl rfl rfl (mL F_beginning_of G18)
 have G20:GOk l.prog w K mg base nE Γ:=G19.next rfl rfl rfl rfl rfl (AF F_height G19)
 have G21:GOk l.prog w K mg base oC Γ:=G20.next rfl rfl rfl rfl rfl (AC F_merged G20)
 have G22:GOk l.prog w K mg base lf Γ:=G21.next rfl rfl rfl rfl rfl (AT F_cut_at G21)
 have G23:GOk l.prog w K mg base oP Γ:=G22.next rfl rfl rfl rfl rfl (xY F_leaders G22)
 have G24:GOk l.prog w K mg base se Γ:=G23.next rfl rfl rfl rfl rfl (AU F_common G23)
 have G25:GOk l.prog w K mg base lH Γ:=G24.next rfl rfl rfl rfl rfl (C7 F_apart G24)
 have G26:GOk l.prog w K mg base dm Γ:=G25.next rfl rfl rfl rfl rfl (wR F_crossed G25)
 have G27:GOk l.prog w K mg base jz Γ:=G26.next rfl rfl rfl rfl rfl (jr F_compared_between G26)
 have G28:GOk l.prog w K mg base pP Γ:=G27.next rfl rfl rfl rfl rfl (uA F_compared G27)
 have G29:GOk l.prog w K mg base jW Γ:=G28.next rfl rfl rfl rfl rfl (Ah F_lesser G28)
 have G30:GOk l.prog w K mg base io Γ:=G29.next rfl rfl rfl rfl rfl (wy F__law_pot G29)
 have G31:GOk l.prog w K mg base fI Γ:=G30.next rfl rfl rfl rfl rfl (sI F__law_take G30)
 have G32:GOk l.prog w K mg base jI Γ:=G31.next rfl rfl rfl rfl rfl (o_ F__law_moment G31)
 have G33:GOk l.prog w K mg base iA Γ:=G32.next rfl rfl rfl rfl rfl (t9 F__law_row G32)
 have G34:GOk l.prog w K mg base ip Γ:=G33.next rfl rfl rfl rfl rfl (tK F__law_lean G33)
 have G35:GOk l.prog w K mg base gX Γ:=G34.next rfl rfl rfl rfl rfl (su F__law_part G34)
 have G36:GOk l.prog w K mg base gS Γ:=G35.next rfl rfl rfl rfl rfl (qo F__law_stair G35)
 have G37:GOk l.prog w K mg base mj Γ:=G36.next rfl rfl rfl rfl rfl (qL F__law_hints G36)
 have G38:GOk l.prog w K mg base gQ Γ:=G37.next rfl rfl rfl rfl rfl (xI F__law_on G37)
 have G39:GOk l.prog w K mg base fc Γ:=G38.next rfl rfl rfl rfl rfl (qH F__law_alike G38)
 have G40:GOk l.prog w K mg base jN Γ:=G39.next rfl rfl rfl rfl rfl (mO F__law_middles G39)
 have G41:GOk l.prog w K mg base gO Γ:=G40.next rfl rfl rfl rfl rfl (wD F__law_due G40)
 have G42:GOk l.prog w K mg base Fz Γ:=G41.next rfl rfl rfl rfl rfl (qr F__law_right G41)
 exact Fp (qual:="law") (CT (st:=jv) l42 c42 k42) F5 rfl rfl IE G42 (fun as st Q=>EZ) (fun as st Q=>Ik)
end My
namespace PySem.W.Fast
def tw10059350936166456127:=()
def tw10128971369927749478:=()
def tw10211172441721939006:=()
def tw1022131077666941991:=()
def tw10224305917919803650:=()
def tw1038365395654296157:=()
def tw10403185348757229193:=()
def tw10541095597164392596:=()
def tw10624168536623215907:=()
def tw10631098808758770559:=()
def tw10665196365100364403:=()
def tw10710311397465258522:=()
def tw10715037528065766629:=()
def tw10783436890266306724:=()
def tw10811075394803405455:=()
def tw10821339964599202159:=()
def tw10852522949471870663:=()
def tw10891051880249480313:=()
def tw10954135357961355299:=()
def tw10977973083527084405:=()
def tw10987259207942483824:=()
def tw11000037479628147939:=()
def tw11111083154652248500:=()
def tw11145246922772554370:=()
def tw11145303426639974317:=()
def tw11171413690307249911:=()
def tw11182795457778815668:=()
def tw11258339775983404773:=()
def tw11299228298772489226:=()
def tw11381220798878055200:=()
def tw1146812681564528067:=()
def tw11497842975443784442:=()
def tw11508264052742596086:=()
def tw11554480521291529555:=()
def tw11625694684602523691:=()
def tw11637672827010668008:=()
def tw1166219883235035804:=()
def tw1172459205626891345:=()
def tw11767198430969462056:=()
def tw11769987968898606666:=()
def tw11923032458948827456:=()
def tw11937895134391325333:=()
def tw1197531950554588173:=()
def tw11986071036202144786:=()
def tw11988968395774706298:=()
def tw12002985629954125771:=()
def tw12006677596234746095:=()
def tw12135091488122882910:=()
def tw1220252947359391788:=()
def tw12209396236168623202:=()
def tw12233882571019746812:=()
def tw12263726617882763927:=()
def tw12439521789730145386:=()
def tw12462236404817797784:=()
def tw12479018023305518432:=()
def tw12558748139402689930:=()
def tw12639814294495023234:=()
def tw12756430853796419872:=()
def tw12757082162216347411:=()
def tw12829755037770538859:=()
def tw12852711574623544181:=()
def tw12882205608716391797:=()
def tw12895008313729910287:=()
def tw12921566595418739499:=()
def tw13024451037604344157:=()
def tw13031350271126003656:=()
def tw13044626794115015855:=()
def tw13144728581288346726:=()
def tw13160221776693523643:=()
def tw13173961859764633719:=()
def tw1318141644538693122:=()
def tw13246816793934891298:=()
def tw13248187053634835107:=()
def tw13315011905475307262:=()
def tw13330180704299177130:=()
def tw13482295012321571457:=()
def tw13488304131202498530:=()
def tw13513438864534210575:=()
def tw13547918551349306352:=()
def tw135655794228829591:=()
def tw13609934834414670725:=()
def tw13651792730314775054:=()
def tw13691710113374449152:=()
def tw13839572958959728022:=()
def tw1392658892235690128:=()
def tw1401572896293079735:=()
def tw14067258664223393089:=()
def tw14129172227528092594:=()
def tw14144434539109073891:=()
def tw14161162104890403226:=()
def tw1421942828036155586:=()
def tw14225909028479246688:=()
def tw14250648728104160846:=()
def tw14331435694410700005:=()
def tw14495569392901446867:=()
def tw14514508564559888049:=()
def tw14563150502297857079:=()
def tw14672282496708903786:=()
def tw14736770891768582928:=()
def tw14830531192063320060:=()
def tw14908080637360487936:=()
def tw14930100540401398548:=()
def tw14952654438654272715:=()
def tw14992301222744912394:=()
def tw15055398288304640548:=()
def tw1519770247917201050:=()
def tw15262796151466861557:=()
def tw15275094330321958548:=()
def tw15301795541575098006:=()
def tw15320433483911723097:=()
def tw15442552707736455275:=()
def tw15458756747286964423:=()
def tw15506858828925809797:=()
def tw15525208210314033991:=()
def tw15575596094597348153:=()
def tw15580853744143251627:=()
def tw15666684925104616043:=()
def tw1578536383813975142:=()
def tw15821068372560880728:=()
def tw1593541518618392417:=()
def tw15948381803132442556:=()
def tw15967190387727531936:=()
def tw15980850420652244598:=()
def tw16111824324989631977:=()
def tw16118326364664289737:=()
def tw16122200915016683851:=()
def tw16249169885558964043:=()
def tw16297748438519248759:=()
def tw16309366122437605623:=()
def tw16350967269150007372:=()
def tw16394227927859924264:=()
def tw16402996024594960499:=()
def tw16619265325275385382:=()
def tw16666244385158711221:=()
def tw16740297849887534237:=()
def tw1682705076925398845:=()
def tw16847707876002015062:=()
def tw16874916977843038225:=()
def tw16877511685394414051:=()
def tw16904124648864585274:=()
def tw1700708420473764455:=()
def tw17035449657385874557:=()
def tw17342662251560499473:=()
def tw17415090589718362140:=()
def tw17459779645963731824:=()
def tw17480945988086530198:=()
def tw17492309497123353586:=()
def tw17575108230201200781:=()
def tw17623083742453968251:=()
def tw17636016409373992450:=()
def tw17646959189042281213:=()
def tw17673464173980682686:=()
def tw17741906334221162424:=()
def tw17753934156825717463:=()
def tw17832592634366237794:=()
def tw17885441881638662773:=()
def tw17967078983915989686:=()
def tw1819175249220745162:=()
def tw18261315351904617025:=()
def tw1836240185223562684:=()
def tw1853192454017368348:=()
def tw1863558304339049776:=()
def tw1898216163878141605:=()
def tw2019281054972073971:=()
def tw2025727782427050325:=()
def tw2044910907673734528:=()
def tw2069056098803137398:=()
def tw2084481043032528938:=()
def tw2090645354973602145:=()
def tw216544500644053562:=()
def tw2223470127537306337:=()
def tw2230216329855380237:=()
def tw2231320027408745397:=()
def tw2249160074080398994:=()
def tw2318605527578770255:=()
def tw2465268482598296136:=()
def tw2543565385938209907:=()
def tw2544656704487602999:=()
def tw2548432489649235890:=()
def tw2631420701981776950:=()
def tw2633773417710355578:=()
def tw2713017192099555257:=()
def tw2739189205972503380:=()
def tw277870422573614966:=()
def tw2896870183016465531:=()
def tw2950602474907309971:=()
def tw3057072151049154055:=()
def tw3118727810213617786:=()
def tw3140961117654917035:=()
def tw3233434291988592206:=()
def tw3286986087771032599:=()
def tw3367638887241303779:=()
def tw341069957105579726:=()
def tw3437970485165638637:=()
def tw3506273227253233856:=()
def tw3627352448517088699:=()
def tw365339795776146473:=()
def tw36843134104452292:=()
def tw3711320086147123696:=()
def tw3791659244052339243:=()
def tw3832904547621048281:=()
def tw3840740922243063182:=()
def tw3870911231657840840:=()
def tw3871630159410027362:=()
def tw3924154922381216346:=()
def tw394581275344627579:=()
def tw4002444741197765036:=()
def tw4175659802986111257:=()
def tw4193850514979390341:=()
def tw4255400342854268684:=()
def tw4282141641208606716:=()
def tw4309105456288220022:=()
def tw4357159844735096615:=()
def tw4409734649957012624:=()
def tw4522697895991874020:=()
def tw4625927578462218044:=()
def tw469039259159986938:=()
def tw4728456737653526270:=()
def tw4795997448927036103:=()
def tw4915595594580248191:=()
def tw5006623486902511890:=()
def tw5014291397904148385:=()
def tw5017792990344540585:=()
def tw5027045162520262920:=()
def tw5057566919416570268:=()
def tw5080113968168426933:=()
def tw512665795866147884:=()
def tw5140958567065054753:=()
def tw5168569423842676281:=()
def tw5293535655305759468:=()
def tw5399926967988980537:=()
def tw5407920139243876028:=()
def tw5441360837413021351:=()
def tw5453623067300581773:=()
def tw5515503535917167120:=()
def tw5519494069534502685:=()
def tw5530712255864758966:=()
def tw5599815892538716914:=()
def tw5778434166488298629:=()
def tw5846042521612314265:=()
def tw5950897383786730466:=()
def tw6052131892765325694:=()
def tw6073817940106633784:=()
def tw6086225059992656659:=()
def tw6125410977503773708:=()
def tw6163296124471881512:=()
def tw6191084059817215636:=()
def tw6269658645007429875:=()
def tw6284294236947238335:=()
def tw6295566315613522207:=()
def tw635968225699557063:=()
def tw6369902455679618833:=()
def tw642982588074606017:=()
def tw6440704179234330792:=()
def tw6530257901264192835:=()
def tw6543439610624219489:=()
def tw6579763388739818241:=()
def tw6606248774683436332:=()
def tw6661344004451948675:=()
def tw6687228958107902914:=()
def tw6766615953608289797:=()
def tw6909129439212601596:=()
def tw6918053572829496596:=()
def tw692635442618576771:=()
def tw6933523264829828225:=()
def tw7005021878813518280:=()
def tw7026248563685013537:=()
def tw7084893035342400854:=()
def tw7126724752730919234:=()
def tw7197519059657275008:=()
def tw7245756974529422329:=()
def tw7261027529701942947:=()
def tw7295759336998281441:=()
def tw7320508409265203827:=()
def tw7391529698576814460:=()
def tw7416810234981814022:=()
def tw7462213011009022385:=()
def tw7479962678767674743:=()
def tw7521541500852820601:=()
def tw7566977115610031243:=()
def tw7727477339751296603:=()
def tw7742439735420850927:=()
def tw7807013769827411530:=()
def tw784547923573035879:=()
def tw7855621251444634210:=()
def tw790593648318315714:=()
def tw7922971089290538221:=()
def tw8096011577252765564:=()
def tw8273508134913365127:=()
def tw8284991512185041647:=()
def tw8311095281818173759:=()
def tw8331907455058888764:=()
def tw8360123864544164285:=()
def tw8393867739325888580:=()
def tw8499564496152405023:=()
def tw8561633505828623760:=()
def tw858860810008799387:=()
def tw8623287919743470561:=()
def tw8674846448156583988:=()
def tw8738753439258857203:=()
def tw8781708184604302065:=()
def tw8830552187736277275:=()
def tw886976324093523948:=()
def tw894295047504594114:=()
def tw8967872389643342240:=()
def tw8970212441163496643:=()
def tw9097588090630162203:=()
def tw92164607169771966:=()
def tw9334161048907764116:=()
def tw9399095015433080674:=()
def tw9824125106455462594:=()
def tw9926016267980947364:=()
def tw9936412037854787958:=()
def tw994905609687338648:=()
end PySem.W.Fast
open PySem PySem.W PyProof.Rows
set_option maxRecDepth 100000 in
set_option maxHeartbeats 0 in
theorem PySem.Challenge.cw_hourstairs_k42_whole_lesser_of_two_holds : PySem.Challenge.rw_hourstairs_k42_whole_lesser_of_two.Holds := by
 w_on;o_law;k_head;(case hw=>w_witness2)
 k_fill
 refine FW.walkF (l:=PySem.Challenge.rw_hourstairs_k42_whole_lesser_of_two) (k:=43) (x:="_law_script") rfl rfl ⟨rfl,by decide,by decide,rfl⟩ (fun w h Y=>PySem.W.kIn_of Y) ?F
 case F =>
  intro w mg fa h KX G hmg
  refine' My.all_mk KX G hmg ?a0 ?l0 ?c0 ?k0 ?a1 ?l1 ?c1 ?k1 ?a2 ?l2 ?c2 ?k2 ?a3 ?l3 ?c3 ?k3 ?a4 ?l4 ?c4 ?k4 ?a5 ?l5 ?c5 ?k5 ?a6 ?l6 ?c6 ?k6 ?a7 ?l7 ?c7 ?k7 ?a8 ?l8 ?c8 ?k8 ?a9 ?l9 ?c9 ?k9 ?a10 ?l10 ?c10 ?k10 ?a11 ?l11 ?c11 ?k11 ?a12 ?l12 ?c12 ?k12 ?a13 ?l13 ?c13 ?k13 ?a14 ?l14 ?c14 ?k14 ?a15 ?l15 ?c15 ?k15 ?a16 ?l16 ?c16 ?k16 ?a17 ?l17 ?c17 ?k17 ?a18 ?l18 ?c18 ?k18 ?a19 ?l19 ?c19 ?k19 ?a20 ?l20 ?c20 ?k20 ?a21 ?l21 ?c21 ?k21 ?a22 ?l22 ?c22 ?k22 ?a23 ?l23 ?c23 ?k23 ?a24 ?l24 ?c24 ?k24 ?a25 ?l25 ?c25 ?k25 ?a26 ?l26 ?c26 ?k26 ?a27 ?l27 ?c27 ?k27 ?a28 ?l28 ?c28 ?k28 ?a29 ?l29 ?c29 ?k29 ?a30 ?l30 ?c30 ?k30 ?a31 ?l31 ?c31 ?k31 ?a32 ?l32 ?c32 ?k32 ?a33 ?l33 ?c33 ?k33 ?a34 ?l34 ?c34 ?k34 ?a35 ?l35 ?c35 ?k35 ?a36 ?l36 ?c36 ?k36 ?a37 ?l37 ?c37 ?k37 ?a38 ?l38 ?c38 ?k38 ?a39 ?l39 ?c39 ?k39 ?a40 ?l40 ?c40 ?k40 ?a41 ?l41 ?c41 ?k41 ?a42 ?l42 ?c42 ?k42 ?z0 ?z1 ?z2 ?z3 ?z4 ?z5 ?z6 ?z7 ?z8 ?z9 ?z10 ?z11 ?z12 ?tz0 ?tz1 ?tz2 ?ga0_ ?gl0_
  (case a0=>k_is)
  (case l0=>k_is)
  (case c0=>k_is)
  (case k0=>k_is)
  (case a1=>k_is)
  (case l1=>k_is)
  (case c1=>k_is)
  (case k1=>k_is)
  (case a2=>k_is)
  (case l2=>k_is)
  (case c2=>k_is)
  (case k2=>k_is)
  (case a3=>k_is)
  (case l3=>k_is)
  (case c3=>k_is)
  (case k3=>k_is)
  (case a4=>k_is)
  (case l4=>k_is)
  (case c4=>k_is)
  (case k4=>k_is)
  (case a5=>k_is)
  (case l5=>k_is)
  (case c5=>k_is)
  (case k5=>k_is)
  (case a6=>k_is)
  (case l6=>k_is)
  (case c6=>k_is)
  (case k6=>k_is)
  (case a7=>k_is)
  (case l7=>k_is)
  (case c7=>k_is)
  (case k7=>k_is)
  (case a8=>k_is)
  (case l8=>k_is)
  (case c8=>k_is)
  (case k8=>k_is)
  (case a9=>k_is)
  (case l9=>k_is)
  (case c9=>k_is)
  (case k9=>k_is)
  (case a10=>k_is)
  (case l10=>k_is)
  (case c10=>k_is)
  (case k10=>k_is)
  (case a11=>k_is)
  (case l11=>k_is)
  (case c11=>k_is)
  (case k11=>k_is)
  (case a12=>k_is)
  (case l12=>k_is)
  (case c12=>k_is)
  (case k12=>k_is)
  (case a13=>k_is)
  (case l13=>k_is)
  (case c13=>k_is)
  (case k13=>k_is)
  (case a14=>k_is)
  (case l14=>k_is)
  (case c14=>k_is)
  (case k14=>k_is)
  (case a15=>k_is)
  (case l15=>k_is)
  (case c15=>k_is)
  (case k15=>k_is)
  (case a16=>k_is)
  (case l16=>k_is)
  (case c16=>k_is)
  (case k16=>k_is)
  (case a17=>k_is)
  (case l17=>k_is)
  (case c17=>k_is)
  (case k17=>k_is)
  (case a18=>k_is)
  (case l18=>k_is)
  (case c18=>k_is)
  (case k18=>k_is)
  (case a19=>k_is)
  (case l19=>k_is)
  (case c19=>k_is)
  (case k19=>k_is)
  (case a20=>k_is)
  (case l20=>k_is)
  (case c20=>k_is)
  (case k20=>k_is)
  (case a21=>k_is)
  (case l21=>k_is)
  (case c21=>k_is)
  (case k21=>k_is)
  (case a22=>k_is)
  (case l22=>k_is)
  (case c22=>k_is)
  (case k22=>k_is)
  (case a23=>k_is)
  (case l23=>k_is)
  (case c23=>k_is)
  (case k23=>k_is)
  (case a24=>k_is)
  (case l24=>k_is)
  (case c24=>k_is)
  (case k24=>k_is)
  (case a25=>k_is)
  (case l25=>k_is)
  (case c25=>k_is)
  (case k25=>k_is)
  (case a26=>k_is)
  (case l26=>k_is)
  (case c26=>k_is)
  (case k26=>k_is)
  (case a27=>k_is)
  (case l27=>k_is)
  (case c27=>k_is)
  (case k27=>k_is)
  (case a28=>k_is)
  (case l28=>k_is)
  (case c28=>k_is)
  (case k28=>k_is)
  (case a29=>k_is)
  (case l29=>k_is)
  (case c29=>k_is)
  (case k29=>k_is)
  (case a30=>k_is)
  (case l30=>k_is)
  (case c30=>k_is)
  (case k30=>k_is)
  (case a31=>k_is)
  (case l31=>k_is)
  (case c31=>k_is)
  (case k31=>k_is)
  (case a32=>k_is)
  (case l32=>k_is)
  (case c32=>k_is)
  (case k32=>k_is)
  (case a33=>k_is)
  (case l33=>k_is)
  (case c33=>k_is)
  (case k33=>k_is)
  (case a34=>k_is)
  (case l34=>k_is)
  (case c34=>k_is)
  (case k34=>k_is)
  (case a35=>k_is)
  (case l35=>k_is)
  (case c35=>k_is)
  (case k35=>k_is)
  (case a36=>k_is)
  (case l36=>k_is)
  (case c36=>k_is)
  (case k36=>k_is)
  (case a37=>k_is)
  (case l37=>k_is)
  (case c37=>k_is)
  (case k37=>k_is)
  (case a38=>k_is)
  (case l38=>k_is)
  (case c38=>k_is)
  (case k38=>k_is)
  (case a39=>k_is)
  (case l39=>k_is)
  (case c39=>k_is)
  (case k39=>k_is)
  (case a40=>k_is)
  (case l40=>k_is)
  (case c40=>k_is)
  (case k40=>k_is)
  (case a41=>k_is)
  (case l41=>k_is)
  (case c41=>k_is)
  (case k41=>k_is)
  (case a42=>k_is)
  (case l42=>k_is)
  (case c42=>k_is)
  (case k42=>k_is)
  (case z0=>k_is)
  (case z1=>k_is)
  (case z2=>k_is)
  (case z3=>k_is)
  (case z4=>k_is)
  (case z5=>k_is)
  (case z6=>k_is)
  (case z7=>k_is)
  (case z8=>k_is)
  (case z9=>k_is)
  (case z10=>k_is)
  (case z11=>k_is)
  (case z12=>k_is)
  (case tz0=>k_is)
  (case tz1=>k_is)
  (case tz2=>k_is)
  (case ga0_=>k_is)
  (case gl0_=>k_is)
