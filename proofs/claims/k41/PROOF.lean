import PyProof.Rows.All
import Wide.All
import OpenK.AllK
import Wide.FinOn
import Lean
import PyProof.EqAt
import PyProof.EqKinds
import PyProof.TupleCall
import KE.LcSums
import PySem.Challenge.RW_hourstairs_k41_whole_one_then_another
set_option genSizeOfSpec false
set_option Elab.async false
set_option linter.all false
set_option maxRecDepth 100000
namespace L2
open PySem PySem.Spec PyProof.Rows
noncomputable abbrev Key:=Sum Int Str
noncomputable def keyIs:Key→Value→Bool
 | .inl k,v=>Value.isInt k v
 | .inr x,v=>Value.isStrOf x v
noncomputable def keyH (w:World):Key→Int
 | .inl k=>hashInt k
 | .inr x=>hashStr w x
theorem keyIs_shape:∀ {k:Key} {v:Value},keyIs k v=true→(∃i t,k=Sum.inl i∧v=Value.int i t)∨(∃x t,k=Sum.inr x∧v=Value.str x t)
 | .inl i,v,h=>by
  obtain ⟨t,e⟩:=Value.isInt_shape (k:=i) (v:=v) h
  exact .inl ⟨i,t,rfl,e⟩
 | .inr x,v,h=>by
  obtain ⟨t,e⟩:=Value.isStrOf_shape (x:=x) (v:=v) h
  exact .inr ⟨x,t,rfl,e⟩
theorem key_ll (a b:Int):decide ((Sum.inl a:Key)=Sum.inl b)=(a == b):=by
 by_cases e:a=b
 ·subst e;simp
 ·have h:¬(Sum.inl a:Key)=Sum.inl b:=fun q=>e (Sum.inl.inj q)
  rw [decide_eq_false h]
  exact (beq_eq_false_iff_ne.mpr e).symm
theorem key_rr (a b:Str):decide ((Sum.inr a:Key)=Sum.inr b)=decide (a=b):=by
 by_cases e:a=b
 ·subst e;simp
 ·have h:¬(Sum.inr a:Key)=Sum.inr b:=fun q=>e (Sum.inr.inj q)
  rw [decide_eq_false h,decide_eq_false e]
theorem key_lr (a:Int) (b:Str):decide ((Sum.inl a:Key)=Sum.inr b)=false:=decide_eq_false (fun q=>nomatch q)
theorem key_rl (a:Str) (b:Int):decide ((Sum.inr a:Key)=Sum.inl b)=false:=decide_eq_false (fun q=>nomatch q)
noncomputable def mixKind (prog:Program) (w:World):PySem.KeyKind prog w Key where
 is:=keyIs
 hash:=keyH w
 inj:=fun v a b ha hb=>by
  rcases keyIs_shape ha with ⟨i,t,rfl,rfl⟩|⟨x,t,rfl,rfl⟩
  ·rcases keyIs_shape hb with ⟨j,u,rfl,e⟩|⟨y,u,rfl,e⟩
   ·injection e with e1 _;rw [e1]
   ·exact nomatch e
  ·rcases keyIs_shape hb with ⟨j,u,rfl,e⟩|⟨y,u,rfl,e⟩
   ·exact nomatch e
   ·injection e with e1 _;rw [e1]
 byValue:=fun k v h=>by
  rcases keyIs_shape h with ⟨i,t,rfl,rfl⟩|⟨x,t,rfl,rfl⟩ <;> rfl
 pyHash:=fun hv h=>by
  rcases keyIs_shape hv with ⟨i,t,rfl,rfl⟩|⟨x,t,rfl,rfl⟩
  ·exact wpAny_pyHash_int h
  ·exact wpAny_pyHash_str h
 eqBool:=fun hu hv h=>by
  rcases keyIs_shape hu with ⟨i,t,rfl,rfl⟩|⟨x,t,rfl,rfl⟩
  ·rcases keyIs_shape hv with ⟨j,u,rfl,rfl⟩|⟨y,u,rfl,rfl⟩
   ·rw [key_ll] at h;exact wpAny_eqBool_int h
   ·rw [key_lr] at h;exact SeqAt.EqAt.int_str i t y u _ _ _ _ h
  ·rcases keyIs_shape hv with ⟨j,u,rfl,rfl⟩|⟨y,u,rfl,rfl⟩
   ·rw [key_rl] at h;exact SeqAt.EqAt.str_int x t j u _ _ _ _ h
   ·rw [key_rr] at h;exact wpAny_eqBool_str h
 «strs»:=fun k x t v h=>by
  rcases keyIs_shape h with ⟨i,u,rfl,e⟩|⟨y,u,rfl,e⟩
  ·exact nomatch e
  ·injection e with e1 _
   subst e1
   cases v <;> rfl
end L2
namespace L2
open PySem PySem.Spec PyProof.Rows
inductive V where
 | non|bl (b:Bool)|int (i:Int)|str (x:Str)|byt (b:Array UInt8)|flt (b:UInt64)|ref (a:Addr)|ty (n:String)
 deriving DecidableEq
noncomputable def RelV:V→Value→Prop
 | .non,u=>u=Value.none
 | .bl b,u=>u=Value.bool b
 | .int i,u=>∃t,u=Value.int i t
 | .str x,u=>∃t,u=Value.str x t
 | .byt b,u=>∃t,u=Value.bytes b t
 | .flt b,u=>∃t,u=Value.float b t
 | .ref a,u=>u=Value.ref a
 | .ty n,u=>u=Value.type n
noncomputable abbrev Vals:List V→List Value→Prop:=Paired RelV
theorem Vals.length {xs:List V} {us:List Value} (r:Vals xs us):xs.length=us.length:=Paired.length r
theorem Vals.get:∀ {xs:List V} {us:List Value} {i:Nat} {x:V},Vals xs us→xs[i]?=some x→∃u,us[i]?=some u∧RelV x u
 | _,_,_,_,.nil,e=>by simp at e
 | _,_,0,_,.cons r _,e=>by simp at e;subst e;exact ⟨_,rfl,r⟩
 | _,_,i+1,x,.cons _ t,e=>by
  obtain ⟨u,h1,h2⟩:=Vals.get (i:=i) (x:=x) t (by simpa using e)
  exact ⟨u,by simpa using h1,h2⟩
theorem Vals.set {x:V} {u:Value} (r:RelV x u):∀ {xs:List V} {us:List Value} (i:Nat),Vals xs us→Vals (xs.set i x) (us.set i u)
 | _,_,_,.nil=>.nil
 | _,_,0,.cons _ t=>.cons r t
 | _,_,i+1,.cons q t=>.cons q (Vals.set r i t)
theorem Vals.append:∀ {xs ys:List V} {us ws:List Value},Vals xs us→Vals ys ws→Vals (xs++ys) (us++ws)
 | _,_,_,_,.nil,s=>s
 | _,_,_,_,.cons r t,s=>.cons r (Vals.append t s)
theorem Vals.take:∀ {xs:List V} {us:List Value} (n:Nat),Vals xs us→Vals (xs.take n) (us.take n)
 | _,_,0,_=>.nil
 | _,_,_+1,.nil=>.nil
 | _,_,n+1,.cons r t=>.cons r (Vals.take n t)
theorem Vals.drop:∀ {xs:List V} {us:List Value} (n:Nat),Vals xs us→Vals (xs.drop n) (us.drop n)
 | _,_,0,r=>r
 | _,_,_+1,.nil=>.nil
 | _,_,n+1,.cons _ t=>Vals.drop n t
noncomputable def RelO:Option V→Option Value→Prop
 | some v,some u=>RelV v u
 | none,none=>True
 | _,_=>False
noncomputable def KV {κ:Type}:List (κ × V)→List (κ × Value)→Prop:=Paired fun (p:κ × V) (q:κ × Value)=>p.1=q.1∧RelV p.2 q.2
noncomputable def kV:Key→V
 | .inl i=>.int i
 | .inr x=>.str x
inductive HO where
 | lst (xs:List V)
 | tup (xs:List V)
 | dK (kvs:List (Key × V))|dT (kvs:List (List Key × V))
 | set (S:Int→Bool) (n:Nat)
 | ins (C dx:Addr) (fs:List (Str × V))
 | own (x:Addr)
 | xd (fs:List (Str × V))
 | met (f x:Addr)
 | rng (lo hi:Int)
 | frz (o:Obj) (u:HO)
 | tbl (ps:Array Value)
 | ext (φ:Heap→Prop)
noncomputable abbrev Hp:=Addr→Option HO
noncomputable def upd (H:Hp) (a:Addr) (o:HO):Hp:=fun b=>if b=a then some o else H b
theorem upd_same {H:Hp} {a:Addr} {o:HO}:upd H a o a=some o:=by unfold upd;rw [if_pos rfl]
theorem upd_ne {H:Hp} {a b:Addr} {o:HO} (h:b≠a):upd H a o b=H b:=by unfold upd;rw [if_neg h]
theorem ne_of_none {H:Hp} {a b:Addr} {o:HO} (h:H a=some o) (h':H b=none):a≠b:=by
 intro e;subst e;rw [h] at h';cases h'
section
variable (P:Program) (w:World)
noncomputable def ObjOk (H:Hp) (h:Heap) (a:Addr):HO→Prop
 | .lst xs=>xs.length≤sizeLine∧∃(its:List Value) (n:Nat),Vals xs its∧h.get? a=some { cls:=.type "list",data:=.seq its.toArray n }
 | .tup xs=>xs.length≤sizeLine∧∃its:List Value,Vals xs its∧IsTup h a its.toArray
 | .dK kvs=>kvs.length≤sizeLine∧(a == sysModules)=false∧∃vs,KV kvs vs∧h.DictOf (mixKind P w) a vs
 | .dT kvs=>kvs.length≤sizeLine∧(a == sysModules)=false∧∃xs:List (List Key × Addr × Value),
   Paired (fun (p:List Key × V) (q:List Key × Addr × Value)=>p.1=q.1∧H q.2.1=some (.tup (p.1.map kV))∧RelV p.2 q.2.2) kvs xs ∧
   ∃o es ep,h.get? a=some o∧o.ExactDict∧o.data=.dict es ep∧es.toList=xs.map (entryOfKey (tupleKind (mixKind P w)))∧(xs.map (·.1)).Nodup
 | .set S n=>h.SetOf (intKind P w) a S n
 | .ins C dx fs=>H dx=some (.own a)∧fs.length≤1000∧dx≠a∧h.get? a=some (PySem.W.instObj C dx) ∧
   ∃mA,h.Ns1 dx mA∧(∀f,RelO (fs.lookup f) (mA f))∧PySem.Within mA (fs.map (·.1))
 | .own _=>∃o,h.get? a=some o
 | .xd fs=>∃mA,h.Ns1 a mA∧∀f,RelO (fs.lookup f) (mA f)
 | .rng lo hi=>∃t u v,h.get? a=some { cls:=.type "range",data:=.fields #[.int lo t,.int hi u,.int 1 v] }
 | .frz o u=>h.get? a=some o∧ObjOk H h a u
 | .tbl ps=>h.get? a=some { cls:=.none,data:=.fields ps }
 | .met f x=>h.get? a=some (PySem.W.methodObj (.ref f) (.ref x))
 | .ext φ=>φ h∧(∃o,h.get? a=some o)∧∀h1 h2:Heap,φ h1→(∀o,h1.get? a=some o→h2.get? a=some o)→φ h2
noncomputable def HOk (H:Hp) (h:Heap):Prop:=∀a o,H a=some o→ObjOk P w H h a o
end
section
variable {P:Program} {w:World} {H H':Hp} {h h':Heap} {a:Addr} {o:HO}
theorem ObjOk.lt (x:ObjOk P w H h a o):a<h.objs.size:=by
 cases o with
 | lst xs=>obtain ⟨_,_,_,_,e⟩:=x;exact Heap.lt_size e
 | tup xs=>obtain ⟨_,_,_,p⟩:=x;exact p.lt
 | dK kvs=>obtain ⟨_,_,_,_,o,_,_,e,_⟩:=x;exact Heap.lt_size e
 | dT kvs=>obtain ⟨_,_,_,_,o,_,_,e,_⟩:=x;exact Heap.lt_size e
 | set S n=>obtain ⟨o,_,_,_,e,_⟩:=x;exact Heap.lt_size e
 | ins C dx fs=>obtain ⟨_,_,_,e,_⟩:=x;exact Heap.lt_size e
 | own y=>obtain ⟨_,e⟩:=x;exact Heap.lt_size e
 | xd fs=>obtain ⟨_,⟨_,_,_,e,_⟩,_⟩:=x;exact Heap.lt_size e
 | rng lo hi=>obtain ⟨_,_,_,e⟩:=x;exact Heap.lt_size e
 | frz ob u=>obtain ⟨e,_⟩:=x;exact Heap.lt_size e
 | tbl ps=>exact Heap.lt_size (show h.get? a=some _ from x)
 | met f y=>exact Heap.lt_size (show h.get? a=some _ from x)
 | ext φ=>obtain ⟨_,⟨_,e⟩,_⟩:=x;exact Heap.lt_size e
theorem Paired.mapP {α β:Type} {F G:α→β→Prop}:∀ {l₁:List α} {l₂:List β},Paired F l₁ l₂→(∀a b,F a b→G a b)→Paired G l₁ l₂
 | _,_,.nil,_=>.nil
 | _,_,.cons r t,f=>.cons (f _ _ r) (Paired.mapP t f)
theorem ObjOk.stay (x:ObjOk P w H h a o) (k:∀b u,(b=a∨H b=some (.own a))→h.get? b=some u→h'.get? b=some u)
  (ho:∀b,H b=some (.own a)→H' b=some (.own a)) (ht:∀b xs,H b=some (.tup xs)→H' b=some (.tup xs)):ObjOk P w H' h' a o:=by
 induction o with
 | lst xs=>obtain ⟨z,its,n,r,e⟩:=x;exact ⟨z,its,n,r,k _ _ (.inl rfl) e⟩
 | tup xs=>obtain ⟨z,its,r,ob,e,c⟩:=x;exact ⟨z,its,r,ob,k _ _ (.inl rfl) e,c⟩
 | dK kvs=>obtain ⟨z,y,vs,r,ob,es,ep,e,c⟩:=x;exact ⟨z,y,vs,r,ob,es,ep,k _ _ (.inl rfl) e,c⟩
 | dT kvs =>
  obtain ⟨z,y,xs,r,ob,es,ep,e,c⟩:=x
  exact ⟨z,y,xs,Paired.mapP r fun p q z=>⟨z.1,ht _ _ z.2.1,z.2.2⟩,ob,es,ep,k _ _ (.inl rfl) e,c⟩
 | set S n=>obtain ⟨ob,es,ep,t,e,c⟩:=x;exact ⟨ob,es,ep,t,k _ _ (.inl rfl) e,c⟩
 | ins C dx fs =>
  obtain ⟨d,z,ne,e,mA,⟨od,es,ep,e2,c⟩,r⟩:=x
  exact ⟨ho _ d,z,ne,k _ _ (.inl rfl) e,mA,⟨od,es,ep,k _ _ (.inr d) e2,c⟩,r⟩
 | own y=>obtain ⟨ob,e⟩:=x;exact ⟨ob,k _ _ (.inl rfl) e⟩
 | xd fs=>obtain ⟨mA,⟨od,es,ep,e,c⟩,r⟩:=x;exact ⟨mA,⟨od,es,ep,k _ _ (.inl rfl) e,c⟩,r⟩
 | rng lo hi=>obtain ⟨t,u,v,e⟩:=x;exact ⟨t,u,v,k _ _ (.inl rfl) e⟩
 | frz ob u ih=>obtain ⟨e,q⟩:=x;exact ⟨k _ _ (.inl rfl) e,ih q⟩
 | tbl ps =>
  have e:h.get? a=some { cls:=.none,data:=.fields ps }:=x
  show h'.get? a=some { cls:=.none,data:=.fields ps }
  exact k a _ (.inl rfl) e
 | met f y =>
  have e:h.get? a=some (PySem.W.methodObj (.ref f) (.ref y)):=x
  show h'.get? a=some (PySem.W.methodObj (.ref f) (.ref y))
  exact k a _ (.inl rfl) e
 | ext φ=>obtain ⟨p,⟨o,e⟩,st⟩:=x;exact ⟨st _ _ p fun o q=>k _ _ (.inl rfl) q,⟨o,k _ _ (.inl rfl) e⟩,st⟩
theorem HOk.lt (x:HOk P w H h) (e:H a=some o):a<h.objs.size:=(x a o e).lt
theorem HOk.fresh (x:HOk P w H h) (e:h.objs.size≤a):H a=none:=by
 cases q:H a with
 | none=>rfl
 | some u=>exact absurd (Nat.lt_of_lt_of_le (x.lt q) e) (Nat.lt_irrefl _)
theorem HOk.kept (x:HOk P w H h) (k:∀b u,h.get? b=some u→h'.get? b=some u):HOk P w H h':=fun a o e =>
 (x a o e).stay (fun b u _ q=>k b u q) (fun _ q=>q) fun _ _ q=>q
theorem HOk.laid (x:HOk P w H h) (k:∀b u,h.get? b=some u→h'.get? b=some u) (hp:h.objs.size≤a) (new:ObjOk P w (upd H a o) h' a o):HOk P w (upd H a o) h':=fun b u e=>by
 have hn:=x.fresh hp
 by_cases hb:b=a
 ·subst hb;rw [upd_same] at e;cases e;exact new
 ·rw [upd_ne hb] at e
  exact (x b u e).stay (fun c v _ q=>k c v q) (fun c q=>by rw [upd_ne (ne_of_none q hn)];exact q) fun c xs q=>by rw [upd_ne (ne_of_none q hn)];exact q
end
noncomputable def Rd (H:Hp) (a:Addr) (u:HO):Prop:=H a=some u∨∃o,H a=some (.frz o u)
theorem Rd.ok {P:Program} {w:World} {H:Hp} {h:Heap} {a:Addr} {u:HO} (r:Rd H a u) (x:HOk P w H h):ObjOk P w H h a u:=by
 rcases r with r|⟨o,r⟩
 ·exact x a u r
 ·obtain ⟨_,q⟩:=x a _ r
  exact q
noncomputable def Mut:Option HO→Prop
 | some (.lst _)=>True
 | some (.dK _)=>True
 | some (.dT _)=>True
 | some (.set _ _)=>True
 | some (.ins _ _ _)=>True
 | some (.ext _)=>True
 | _=>False
section
variable {P:Program} {w:World} {H:Hp} {h h':Heap} {x e:Addr} {o':HO}
theorem HOk.write (ok:HOk P w H h) (mu:Mut (H x)) (he:e=x∨H e=some (.own x)) (k:∀b u,b≠e→h.get? b=some u→h'.get? b=some u) (heo:∃u,h'.get? e=some u)
  (new:ObjOk P w (upd H x o') h' x o'):HOk P w (upd H x o') h':=fun b u q=>by
 have nown:∀c y,H c=some (.own y)→c≠x:=fun c y r z=>by subst z;rw [r] at mu;exact mu
 have ntup:∀c xs,H c=some (.tup xs)→c≠x:=fun c xs r z=>by subst z;rw [r] at mu;exact mu
 by_cases hb:b=x
 ·subst hb;rw [upd_same] at q;cases q;exact new
 ·rw [upd_ne hb] at q
  by_cases hbe:b=e
  ·have q':H b=some (.own x):=by
    rcases he with z|z
    ·exact absurd (hbe.trans z) hb
    ·rw [hbe];exact z
   rw [q] at q';cases q'
   obtain ⟨v,hv⟩:=heo
   exact ⟨v,by rw [hbe];exact hv⟩
  ·refine (ok b u q).stay (fun c v hc r=>k c v ?_ r) (fun c r=>by rw [upd_ne (nown c b r)];exact r) fun c xs r=>by rw [upd_ne (ntup c xs r)];exact r
   rcases hc with rfl|hc
   ·exact hbe
   ·rintro rfl
    rcases he with z|z
    ·exact nown c b hc z
    ·rw [hc] at z;cases z;exact hb rfl
end
structure Un (fs ex:List Addr) (H H':Hp) (h h':Heap):Prop where
 keep:∀b o,h.get? b=some o→H b=none→b ∉ fs→b ∉ ex→h'.get? b=some o
 slot:∀b o,h.get? b=some o→H b=none→b∈fs→b ∉ ex→∃sl,h'.get? b=some { o with slots:=sl }
 free:∀b o,h.get? b=some o→H b=none→b ∉ ex→H' b=none
 there:∀b o,h.get? b=some o→b ∉ ex→∃o',h'.get? b=some o'
 tups:∀b xs,H b=some (.tup xs)→H' b=some (.tup xs)
 frzs:∀b o u,H b=some (.frz o u)→H' b=some (.frz o u)
 tbls:∀b ps,H b=some (.tbl ps)→∃more,H' b=some (.tbl (ps++more))
section
variable {fs fs' ex ex':List Addr} {H H1 H2:Hp} {h h1 h2 h':Heap} {a x e:Addr} {o:HO}
theorem Un.any (u:Un fs ex H H1 h h1) {b:Addr} {ob:Obj} (q:h.get? b=some ob) (n:H b=none) (hx:b ∉ ex):∃sl,h1.get? b=some { ob with slots:=sl }:=by
 by_cases hb:b∈fs
 ·exact u.slot b ob q n hb hx
 ·exact ⟨ob.slots,u.keep b ob q n hb hx⟩
theorem Un.kept (k:∀b u,h.get? b=some u→h'.get? b=some u):Un fs ex H H h h' :=
 ⟨fun b ob q _ _ _=>k b ob q,fun b ob q _ _ _=>⟨ob.slots,k b ob q⟩,fun _ _ _ n _=>n,fun b ob q _=>⟨ob,k b ob q⟩,fun _ _ q=>q,fun _ _ _ q=>q,fun _ ps q=>⟨#[],by rw [q];simp⟩⟩
theorem Un.refl:Un fs ex H H h h:=Un.kept fun _ _ q=>q
theorem Un.laid (k:∀b u,h.get? b=some u→h'.get? b=some u) (hp:h.objs.size≤a) (hn:H a=none):Un fs ex H (upd H a o) h h' where
 keep:=fun b u q _ _ _=>k b u q
 slot:=fun b u q _ _ _=>⟨u.slots,k b u q⟩
 free:=fun b u q n _=>by rw [upd_ne (Nat.ne_of_lt (Nat.lt_of_lt_of_le (Heap.lt_size q) hp))];exact n
 there:=fun b u q _=>⟨u,k b u q⟩
 tups:=fun b xs q=>by rw [upd_ne (ne_of_none q hn)];exact q
 frzs:=fun b u xs q=>by rw [upd_ne (ne_of_none q hn)];exact q
 tbls:=fun b ps q=>⟨#[],by rw [upd_ne (ne_of_none q hn),q];simp⟩
theorem Un.write (mu:Mut (H x)) (he:e=x∨H e=some (.own x)) (k:∀b u,b≠e→h.get? b=some u→h'.get? b=some u) (heo:∃u,h'.get? e=some u):Un fs ex H (upd H x o) h h':=by
 have hx:∀b,H b=none→b≠x:=fun b n z=>by subst z;rw [n] at mu;exact mu
 have hb:∀b,H b=none→b≠e:=fun b n z=>by
  subst z
  rcases he with r|r
  ·exact hx b n r
  ·rw [n] at r;cases r
 have hm:∀b u,H b=some u→¬Mut (some u)→b≠x:=fun b u q nm z=>by subst z;rw [q] at mu;exact nm mu
 refine ⟨fun b u q n _ _=>k b u (hb b n) q,fun b u q n _ _=>⟨u.slots,k b u (hb b n) q⟩,fun b u q n _=>by rw [upd_ne (hx b n)];exact n,fun b u q _=>?_,
  fun b xs q=>by rw [upd_ne (hm b _ q fun z=>z)];exact q,fun b u xs q=>by rw [upd_ne (hm b _ q fun z=>z)];exact q,fun b ps q=>⟨#[],by rw [upd_ne (hm b _ q fun z=>z),q];simp⟩⟩
 by_cases hbe:b=e
 ·subst hbe;exact heo
 ·exact ⟨u,k b u hbe q⟩
end
noncomputable def trk (h:Heap) (H:Hp):List Addr:=(List.range h.objs.size).filter fun a=>(H a).isSome
noncomputable def hidT (h:Heap) (H:Hp):Heap:=PySem.W.hideAll h (trk h H)
theorem hidT_size (h:Heap) (H:Hp):(hidT h H).objs.size=h.objs.size:=PySem.W.hideAll_size _ _
theorem hidT_get {h:Heap} {H:Hp} {b:Addr} {o:Obj} (e:h.get? b=some o) (n:H b=none):(hidT h H).get? b=some o :=
 PySem.W.hideAll_get _ e fun hm=>by
  have q:(H b).isSome=true:=(List.mem_filter.mp hm).2
  rw [n] at q;simp at q
theorem of_hidT {h:Heap} {H:Hp} {b:Addr} {o:Obj} (e:(hidT h H).get? b=some o):h.get? b=some o∧H b=none:=by
 have e':h.get? b=some o:=PySem.W.of_hideAll (trk h H) e
 refine ⟨e',?_⟩
 cases q:H b with
 | none=>rfl
 | some x =>
  have hm:b∈trk h H:=List.mem_filter.mpr ⟨List.mem_range.mpr (Heap.lt_size e'),by simp [q]⟩
  have z:(hidT h H).get? b=none:=PySem.W.hideAll_none (trk h H) hm
  rw [z] at e;cases e
end L2
namespace L2
open PySem PySem.Spec PyProof.Rows
structure Mod (K:PySem.W.Frag) (mg:Str→Option Value) (base:Heap):Prop where
 kin:K.In base
 glob:base.Ns mainGlobals mg
 blt:∃mb,base.Ns builtinsNs mb∧∀x:Str,x≠"__name__"→mb x=bootBuiltins x
 nolimit:base.NoLimit
structure Cx where
 prog:Program
 w:World
 K:PySem.W.Frag
 mg:Str→Option Value
 base:Heap
 A:Around
 N:List Str
 s₀:Shared
 H₀:Hp
 env:Env
 outer:List Env
 stack:List Env
 ex:List Addr
 fn:Str→Bool
 calm:Bool
 pn:List (Addr × Obj)
 xe:Value→Shared→Prop
noncomputable def frs (l:List Env):List Addr:=l.filterMap (·.frame)
noncomputable abbrev Cx.fs (X:Cx):List Addr:=frs X.outer
noncomputable def Vis (sc:Scope) (x:Str):Prop:=sc.names.lookup x=some .local∨sc.names.lookup x=some .cell∨sc.names.lookup x=some .free
noncomputable def Loc (sc:Scope) (x:Str):Prop:=sc.names.lookup x=some .local∨sc.names.lookup x=some .cell
noncomputable def Look (env:Env) (h:Heap) (m:Str→Option Value) (x:Str) (u:Value):Prop :=
 (env.kindOf x=some .local∧m x=some u)∨((env.kindOf x=some .cell∨env.kindOf x=some .free)∧∃c,env.cells.lookup x=some c∧h.IsCell c (some u))
structure Cx.Ok (X:Cx):Prop where
 mod:Mod X.K X.mg X.base
 kind:X.env.scope.kind=.function
 glob:X.env.globals=mainGlobals
 blt:X.env.builtins=builtinsNs
 above:X.s₀.heap.objs.size≤X.env.locals
 inj:∀x y c,X.env.cells.lookup x=some c→X.env.cells.lookup y=some c→x=y
 has:∀x,(X.env.kindOf x=some .cell∨X.env.kindOf x=some .free)→∃c,X.env.cells.lookup x=some c
 cab:∀x c,X.fn x=true→X.env.cells.lookup x=some c→X.s₀.heap.objs.size≤c
 hd:X.calm=true→X.A.handled=none
 frames:X.A.frames=some X.stack
 stk:X.stack=X.outer∨(X.stack=X.env::X.outer∧X.env.frame=some X.env.locals)
 exf:∀b∈X.ex,b≠X.env.locals∧∀x c,X.env.cells.lookup x=some c→c≠b
 bs:∀b o,X.base.get? b=some o→X.s₀.heap.get? b=some o∧X.H₀ b=none
 bsz:X.base.objs.size≤X.s₀.heap.objs.size
 noex:∀b o,X.base.get? b=some o→b ∉ X.ex
 exfs:∀b∈X.ex,b ∉ X.fs
 funs:X.s₀.heap.FunFrames X.base X.outer
 frf:∀b∈X.fs,X.H₀ b=none
structure Inv (X:Cx) (pins:List (Addr × Obj)) (σ:List (Option V)) (H:Hp) (s:Shared):Prop where
 ok:X.Ok
 os:s.os=X.s₀.os
 bare:AllBare s.gens
 base:Un X.fs X.ex X.H₀ H X.s₀.heap s.heap
 loc:∃m,s.heap.Ns X.env.locals m∧∀(i:Nat) (x:Str) (v:V),X.N[i]?=some x→σ[i]?=some (some v)→Vis X.env.scope x→∃u,RelV v u∧Look X.env s.heap m x u
 cell:∀x c,X.env.cells.lookup x=some c→∃v,s.heap.IsCell c v
 free:H X.env.locals=none
 freeC:∀x c,X.env.cells.lookup x=some c→H c=none
 pin:∀p∈X.pn++pins,s.heap.get? p.1=some p.2∧H p.1=none∧p.1≠X.env.locals∧p.1 ∉ X.fs∧∀v,p.2.data≠.cell v
 hok:HOk X.prog X.w H s.heap
 len:σ.length=X.N.length
section
variable {X:Cx} {pins:List (Addr × Obj)} {σ:List (Option V)} {H H':Hp} {s:Shared} {h':Heap}
theorem Cx.Ok.nofr (ok:X.Ok) {b:Addr} {o:Obj} (e:X.base.get? b=some o):b ∉ X.fs:=fun hb=>by
 have:=(ok.funs.mem hb).1
 rw [e] at this;cases this
theorem Inv.bs (I:Inv X pins σ H s):∀b o,X.base.get? b=some o→s.heap.get? b=some o∧H b=none:=fun b o e =>
 ⟨I.base.keep b o (I.ok.bs b o e).1 (I.ok.bs b o e).2 (I.ok.nofr e) (I.ok.noex b o e),I.base.free b o (I.ok.bs b o e).1 (I.ok.bs b o e).2 (I.ok.noex b o e)⟩
theorem Inv.bk (I:Inv X pins σ H s):∀b o,X.base.get? b=some o→s.heap.get? b=some o:=fun b o e=>(I.bs b o e).1
theorem Inv.mod (I:Inv X pins σ H s):Mod X.K X.mg X.base:=I.ok.mod
theorem Inv.kIn (I:Inv X pins σ H s):X.K.In s.heap:=I.ok.mod.kin.keeps I.bk
theorem Inv.lt (I:Inv X pins σ H s):X.env.locals<s.heap.objs.size:=let ⟨_,hn,_⟩:=I.loc;hn.lt
theorem Inv.sz (I:Inv X pins σ H s):X.s₀.heap.objs.size≤s.heap.objs.size:=Nat.le_trans I.ok.above (Nat.le_of_lt I.lt)
theorem Inv.nofs (I:Inv X pins σ H s) {a:Addr} (h:s.heap.objs.size≤a):a ∉ X.fs:=fun hb=>by
 obtain ⟨_,o,ho,_⟩:=I.ok.funs.mem hb
 exact absurd (Nat.lt_of_lt_of_le (Heap.lt_size ho) (Nat.le_trans I.sz h)) (Nat.lt_irrefl _)
theorem Inv.cne (I:Inv X pins σ H s):∀x c,X.env.cells.lookup x=some c→c≠X.env.locals:=fun x c e z=>by
 obtain ⟨v,o,ho,hd⟩:=I.cell x c e
 obtain ⟨m,⟨o',es,ep,ho',hd',_⟩,_⟩:=I.loc
 rw [z,ho'] at ho;cases ho;rw [hd'] at hd;cases hd
theorem Inv.funs (I:Inv X pins σ H s):s.heap.FunFrames X.base X.outer:=by
 have all:∀(l:List Env),(∀b∈frs l,b∈X.fs)→X.s₀.heap.FunFrames X.base l→s.heap.FunFrames X.base l:=by
  intro l
  induction l with
  | nil=>intro _ _;trivial
  | cons env r ih =>
   intro hs hl
   obtain ⟨hk,⟨L,o,hf,hn,ho,hd⟩,hr⟩:=hl
   have hL:L∈X.fs:=hs L (by unfold frs;rw [List.filterMap_cons,hf];exact List.mem_cons_self)
   obtain ⟨sl,e⟩:=I.base.slot L o ho (I.ok.frf L hL) hL fun z=>I.ok.exfs L z hL
   exact ⟨hk,⟨L,_,hf,hn,e,hd⟩,ih (fun b hb=>hs b (by unfold frs;rw [List.filterMap_cons,hf];exact List.mem_cons_of_mem _ hb)) hr⟩
 exact all X.outer (fun _ hb=>hb) I.ok.funs
theorem Inv.stack (I:Inv X pins σ H s):s.heap.FunFrames X.base X.stack:=by
 rcases I.ok.stk with e|⟨e,hf⟩
 ·rw [e];exact I.funs
 ·rw [e]
  obtain ⟨m,hn,_⟩:=I.loc
  refine .cons (by rw [I.ok.kind];decide) hf hn ?_ I.funs
  exact Heap.get?_none_of_le (Nat.le_trans I.ok.bsz I.ok.above)
theorem Inv.stkSub (I:Inv X pins σ H s):∀b∈frs X.stack,b∈X.env.locals::X.fs:=fun b hb=>by
 rcases I.ok.stk with e|⟨e,hf⟩
 ·rw [e] at hb;exact List.mem_cons_of_mem _ hb
 ·rw [e] at hb
  unfold frs at hb
  rw [List.filterMap_cons,hf] at hb
  exact hb
theorem Inv.stkFree (I:Inv X pins σ H s):∀b∈frs X.stack,H b=none:=fun b hb=>by
 rcases List.mem_cons.mp (I.stkSub b hb) with e|hb
 ·rw [e];exact I.free
 ·obtain ⟨_,o,ho,_⟩:=I.ok.funs.mem hb
  exact I.base.free b o ho (I.ok.frf b hb) fun z=>I.ok.exfs b z hb
theorem Inv.step {g':Array GenState} {t':Nat} {d':Drawn} {ch:List Addr} (I:Inv X pins σ H s)
  (hch:∀b∈ch,(b∈X.ex∨X.s₀.heap.objs.size≤b)∧b≠X.env.locals∧(∀x c,X.env.cells.lookup x=some c→c≠b)∧∀p∈X.pn++pins,p.1≠b)
  (keep:∀b o,b≠X.env.locals→b ∉ X.fs→b ∉ ch→s.heap.get? b=some o→H b=none→h'.get? b=some o)
  (slot:∀b o,b≠X.env.locals→b∈X.fs→b ∉ ch→s.heap.get? b=some o→H b=none→∃sl,h'.get? b=some { o with slots:=sl }) (free:∀b o,b ∉ ch→s.heap.get? b=some o→H b=none→H' b=none)
  (there:∀b o,b ∉ ch→s.heap.get? b=some o→∃o',h'.get? b=some o')
  (tups:∀b xs,H b=some (.tup xs)→H' b=some (.tup xs)) (frzs:∀b o u,H b=some (.frz o u)→H' b=some (.frz o u)) (tbls:∀b ps,H b=some (.tbl ps)→∃more,H' b=some (.tbl (ps++more)))
  (ns:∀m,s.heap.Ns X.env.locals m→h'.Ns X.env.locals m) (hok:HOk X.prog X.w H' h') (hg:AllBare g') :
  Inv X pins σ H' { s with heap:=h',gens:=g',drawn:=d',toks:=t' }:=by
 have neL:∀b o,X.s₀.heap.get? b=some o→b≠X.env.locals:=fun b o e=>Nat.ne_of_lt (Nat.lt_of_lt_of_le (Heap.lt_size e) I.ok.above)
 have neC:∀b o,X.s₀.heap.get? b=some o→b ∉ X.ex→b ∉ ch:=fun b o e hx hb=>by
  rcases (hch b hb).1 with z|z
  ·exact hx z
  ·exact absurd (Nat.lt_of_lt_of_le (Heap.lt_size e) z) (Nat.lt_irrefl _)
 have cellK:∀x c,X.env.cells.lookup x=some c→∀v,s.heap.IsCell c v→h'.IsCell c v:=fun x c e v ⟨o,ho,hd⟩=>by
  have nch:c ∉ ch:=fun z=>(hch c z).2.2.1 x c e rfl
  by_cases hc:c∈X.fs
  ·obtain ⟨sl,q⟩:=slot c o (I.cne x c e) hc nch ho (I.freeC x c e)
   exact ⟨_,q,hd⟩
  ·exact ⟨o,keep c o (I.cne x c e) hc nch ho (I.freeC x c e),hd⟩
 refine ⟨I.ok,I.os,hg,⟨fun b o e n hb hx=>?_,fun b o e n hb hx=>?_,fun b o e n hx=>?_,fun b o e hx=>?_,fun b xs e=>tups b xs (I.base.tups b xs e),fun b o xs e=>frzs b o xs (I.base.frzs b o xs e),fun b ps e=>?_⟩,?_,fun x c e=>?_,?_,fun x c e=>?_,fun p hp=>?_,hok,I.len⟩
 ·exact keep b o (neL b o e) hb (neC b o e hx) (I.base.keep b o e n hb hx) (I.base.free b o e n hx)
 ·obtain ⟨sl,e1⟩:=I.base.slot b o e n hb hx
  obtain ⟨sl',e2⟩:=slot b _ (neL b o e) hb (neC b o e hx) e1 (I.base.free b o e n hx)
  exact ⟨sl',e2⟩
 ·obtain ⟨o',e1⟩:=I.base.there b o e hx
  exact free b o' (neC b o e hx) e1 (I.base.free b o e n hx)
 ·obtain ⟨o',e1⟩:=I.base.there b o e hx
  exact there b o' (neC b o e hx) e1
 ·obtain ⟨m1,e1⟩:=I.base.tbls b ps e
  obtain ⟨m2,e2⟩:=tbls b _ e1
  exact ⟨m1++m2,by rw [e2,Array.append_assoc]⟩
 ·obtain ⟨m,hn,hl⟩:=I.loc
  refine ⟨m,ns m hn,fun i x v e1 e2 e3=>?_⟩
  obtain ⟨u,r,l⟩:=hl i x v e1 e2 e3
  refine ⟨u,r,?_⟩
  rcases l with l|⟨k,c,e,z⟩
  ·exact .inl l
  ·exact .inr ⟨k,c,e,cellK x c e _ z⟩
 ·obtain ⟨v,z⟩:=I.cell x c e
  exact ⟨v,cellK x c e v z⟩
 ·obtain ⟨m,⟨o,_,_,ho,_⟩,_⟩:=I.loc
  exact free _ o (fun z=>(hch _ z).2.1 rfl) ho I.free
 ·obtain ⟨v,o,ho,hd⟩:=I.cell x c e
  exact free c o (fun z=>(hch c z).2.2.1 x c e rfl) ho (I.freeC x c e)
 ·obtain ⟨e,n,ne,nf,d⟩:=I.pin p hp
  have nch:p.1 ∉ ch:=fun z=>(hch p.1 z).2.2.2 p hp rfl
  exact ⟨keep p.1 p.2 ne nf nch e n,free p.1 p.2 nch e n,ne,nf,d⟩
theorem Inv.un {t':Nat} (I:Inv X pins σ H s) (u:Un X.fs [] H H' s.heap h') (hok:HOk X.prog X.w H' h'):Inv X pins σ H' { s with heap:=h',toks:=t' }:=by
 obtain ⟨m,⟨o,es,ep,ho,r⟩,_⟩:=id I.loc
 obtain ⟨sl,hL⟩:=u.any ho I.free (by simp)
 exact I.step (g':=s.gens) (d':=s.drawn) (ch:=[]) (fun _ z=>nomatch z) (fun b o _ hb _ e n=>u.keep b o e n hb (by simp)) (fun b o _ hb _ e n=>u.slot b o e n hb (by simp)) (fun b o _ e n=>u.free b o e n (by simp)) (fun b o _ e=>u.there b o e (by simp)) u.tups u.frzs u.tbls (fun m' hm=>by
  obtain ⟨o',es',ep',ho',r'⟩:=hm
  rw [ho] at ho';cases ho'
  exact ⟨_,es',ep',hL,r'⟩) hok I.bare
theorem Inv.call {g':Array GenState} {t':Nat} {d':Drawn} {ch:List Addr} (I:Inv X pins σ H s) (u:Un (frs X.stack) ch H H' s.heap h') (hok:HOk X.prog X.w H' h') (hg:AllBare g')
  (hch:∀b∈ch,(b∈X.ex∨X.s₀.heap.objs.size≤b)∧b≠X.env.locals∧(∀x c,X.env.cells.lookup x=some c→c≠b)∧∀p∈X.pn++pins,p.1≠b) :
  Inv X pins σ H' { s with heap:=h',gens:=g',drawn:=d',toks:=t' }:=by
 obtain ⟨m,⟨o,es,ep,ho,r⟩,_⟩:=id I.loc
 obtain ⟨sl,hL⟩:=u.any ho I.free fun z=>(hch _ z).2.1 rfl
 exact I.step (ch:=ch) hch (fun b o hL hb hc e n=>u.keep b o e n (fun z=>(List.mem_cons.mp (I.stkSub b z)).elim hL hb) hc) (fun b o _ _ hc e n=>u.any e n hc) (fun b o hc e n=>u.free b o e n hc) (fun b o hc e=>u.there b o e hc) u.tups u.frzs u.tbls (fun m' hm=>by
  obtain ⟨o',es',ep',ho',r'⟩:=hm
  rw [ho] at ho';cases ho'
  exact ⟨_,es',ep',hL,r'⟩) hok hg
theorem Inv.turned {t':Nat} {it:Addr} (I:Inv X pins σ H s) (k:∀b o,b≠it→s.heap.get? b=some o→h'.get? b=some o) (hn:H it=none) (hL:it≠X.env.locals)
  (h1:it∈X.ex∨X.s₀.heap.objs.size≤it) (h2:∀x c,X.env.cells.lookup x=some c→c≠it) (h3:∀p∈X.pn++pins,p.1≠it):Inv X pins σ H { s with heap:=h',toks:=t' }:=by
 have nit:∀b u,H b=some u→b≠it:=fun b u e z=>by rw [z,hn] at e;cases e
 refine I.step (g':=s.gens) (d':=s.drawn) (ch:=[it]) (fun b hb=>?_) (fun b o _ _ hc e _=>k b o (fun z=>hc (by simp [z])) e) (fun b o _ _ hc e _=>⟨o.slots,k b o (fun z=>hc (by simp [z])) e⟩) (fun _ _ _ _ n=>n)
  (fun b o hc e=>⟨o,k b o (fun z=>hc (by simp [z])) e⟩) (fun _ _ e=>e) (fun _ _ _ e=>e) (fun b ps e=>⟨#[],by rw [e];simp⟩) (fun m hm=>?_) (fun b u e=>?_) I.bare
 ·have e:b=it:=by simpa using hb
  subst e
  exact ⟨h1,hL,h2,h3⟩
 ·obtain ⟨o,es,ep,ho,r⟩:=hm
  exact ⟨o,es,ep,k _ o (Ne.symm hL) ho,r⟩
 ·refine (I.hok b u e).stay (fun c v hc q=>k c v ?_ q) (fun _ q=>q) fun _ _ q=>q
  rcases hc with z|z
  ·rw [z];exact nit b u e
  ·exact nit c _ z
theorem Inv.tok (I:Inv X pins σ H s) (t:Nat):Inv X pins σ H { s with toks:=t }:=I.un (h':=s.heap) (t':=t) Un.refl I.hok
theorem Inv.kept {t':Nat} (I:Inv X pins σ H s) (k:∀b u,s.heap.get? b=some u→h'.get? b=some u):Inv X pins σ H { s with heap:=h',toks:=t' }:=I.un (Un.kept k) (I.hok.kept k)
theorem Inv.laid {a:Addr} {o:HO} {t':Nat} (I:Inv X pins σ H s) (k:∀b u,s.heap.get? b=some u→h'.get? b=some u) (hp:s.heap.objs.size≤a) (new:ObjOk X.prog X.w (upd H a o) h' a o) :
  Inv X pins σ (upd H a o) { s with heap:=h',toks:=t' }:=I.un (Un.laid k hp (I.hok.fresh hp)) (I.hok.laid k hp new)
theorem Inv.write {x e:Addr} {o:HO} {t':Nat} (I:Inv X pins σ H s) (mu:Mut (H x)) (he:e=x∨H e=some (.own x)) (k:∀b u,b≠e→s.heap.get? b=some u→h'.get? b=some u) (heo:∃u,h'.get? e=some u)
  (new:ObjOk X.prog X.w (upd H x o) h' x o):Inv X pins σ (upd H x o) { s with heap:=h',toks:=t' }:=I.un (Un.write mu he k heo) (I.hok.write mu he k heo new)
theorem Inv.pins_of {pins':List (Addr × Obj)} (I:Inv X pins σ H s) (h:∀p∈pins',s.heap.get? p.1=some p.2∧H p.1=none∧p.1≠X.env.locals∧p.1 ∉ X.fs∧∀v,p.2.data≠.cell v):Inv X pins' σ H s :=
 ⟨I.ok,I.os,I.bare,I.base,I.loc,I.cell,I.free,I.freeC,fun p hp=>(List.mem_append.mp hp).elim (fun z=>I.pin p (List.mem_append_left _ z)) (h p),I.hok,I.len⟩
theorem nodup_ix {N:List Str} (hN:N.Nodup) {i j:Nat} {x:Str} (a:N[i]?=some x) (b:N[j]?=some x):i=j:=by
 obtain ⟨h1,e1⟩:=List.getElem?_eq_some_iff.mp a
 obtain ⟨h2,e2⟩:=List.getElem?_eq_some_iff.mp b
 exact (List.getElem_inj hN).mp (e1.trans e2.symm)
theorem store_ok2 {M:Model} {A:Around} {E:Value→Shared→Prop} {i:Nat} {x:Str} {v:V} {u:Value} {Q:Unit→Shared→Prop} (I:Inv X pins σ H s) (hN:X.N.Nodup) (hi:X.N[i]?=some x) (hx:Loc X.env.scope x) (r:RelV v u)
  (h:∀s',Inv X pins (σ.set i (some v)) H s'→(∃a,Heap.SameBut a s.heap s'.heap∧(a=X.env.locals∨X.env.cells.lookup x=some a))→Q () s') (hf:X.fn x=true∨X.env.scope.names.lookup x=some .local:=by first|exact .inl rfl|exact .inr rfl|assumption):wpAny M A (storeName X.env x u) Q E s:=by
 obtain ⟨m,hn,hl⟩:=id I.loc
 have hcls:(X.env.scope.kind == .class || (X.env.scope.kind == .module && X.env.locals != X.env.globals))=false:=by rw [I.ok.kind];rfl
 have hiσ:i<σ.length:=by rw [I.len];exact (List.getElem?_eq_some_iff.mp hi).1
 have cne:=I.cne
 have tracked:∀ {a:Addr} {h':Heap},(∃o,s.heap.get? a=some o∧H a=none)→Heap.SameBut a s.heap h'→HOk X.prog X.w H h':=fun {a h'} ha hs b ob e=>by
  obtain ⟨_,_,hfree⟩:=ha
  refine (I.hok b ob e).stay (fun c w' hc q=>(hs.2 c ?_).trans q) (fun _ q=>q) fun _ _ q=>q
  rintro rfl
  rcases hc with rfl|hc
  ·rw [hfree] at e;cases e
  ·rw [hfree] at hc;cases hc
 rcases hx with hk|hk
 ·refine wpAny_storeName_local hk hn (fun h' hn' hs=>?_) hcls
  obtain ⟨oL,_,_,hoL,_⟩:=id hn
  refine h _ ⟨I.ok,I.os,I.bare,⟨fun b o e n hb hx=>?_,fun b o e n hb hx=>?_,I.base.free,fun b o e hx=>?_,I.base.tups,I.base.frzs,I.base.tbls⟩,⟨_,hn',fun j y v' e1 e2 e3=>?_⟩,fun y c e=>?_,I.free,I.freeC,fun p hp=>?_,tracked ⟨oL,hoL,I.free⟩ hs,by simpa using I.len⟩ ⟨_,hs,.inl rfl⟩
  ·exact (hs.2 b (Nat.ne_of_lt (Nat.lt_of_lt_of_le (Heap.lt_size e) I.ok.above))).trans (I.base.keep b o e n hb hx)
  ·obtain ⟨sl,e1⟩:=I.base.slot b o e n hb hx
   exact ⟨sl,(hs.2 b (Nat.ne_of_lt (Nat.lt_of_lt_of_le (Heap.lt_size e) I.ok.above))).trans e1⟩
  ·obtain ⟨o',e1⟩:=I.base.there b o e hx
   exact ⟨o',(hs.2 b (Nat.ne_of_lt (Nat.lt_of_lt_of_le (Heap.lt_size e) I.ok.above))).trans e1⟩
  ·by_cases hj:j=i
   ·subst hj
    rw [hi] at e1;cases e1
    rw [List.getElem?_set_self hiσ] at e2
    cases e2
    exact ⟨u,r,.inl ⟨hk,by simp⟩⟩
   ·rw [List.getElem?_set_ne (Ne.symm hj)] at e2
    obtain ⟨u',r',q⟩:=hl j y v' e1 e2 e3
    refine ⟨u',r',?_⟩
    rcases q with ⟨k,e⟩|⟨k,c,e,z⟩
    ·refine .inl ⟨k,?_⟩
     have:y≠x:=fun e=>hj (nodup_ix hN e1 (e ▸ hi))
     simp [this,e]
    ·exact .inr ⟨k,c,e,z.sameBut hs (cne y c e)⟩
  ·obtain ⟨w',z⟩:=I.cell y c e
   exact ⟨w',z.sameBut hs (cne y c e)⟩
  ·obtain ⟨e,n,ne,nf,d⟩:=I.pin p hp
   exact ⟨(hs.2 p.1 ne).trans e,n,ne,nf,d⟩
 ·have hfn:X.fn x=true:=by
   rcases hf with z|z
   ·exact z
   ·rw [z] at hk;cases hk
  obtain ⟨c,hc⟩:=I.ok.has x (.inl hk)
  obtain ⟨w',z⟩:=I.cell x c hc
  refine wpAny_storeName_cell I.ok.kind hk hc z (fun h' hc' hs=>?_)
  obtain ⟨oc,hoc,hocd⟩:=id z
  refine h { s with heap:=h' } ⟨I.ok,I.os,I.bare,⟨fun b o e n hb hx=>?_,fun b o e n hb hx=>?_,I.base.free,fun b o e hx=>?_,I.base.tups,I.base.frzs,I.base.tbls⟩,⟨m,hn.sameBut hs (Ne.symm (cne x c hc)),fun j y v' e1 e2 e3=>?_⟩,fun y c' e=>?_,I.free,I.freeC,fun p hp=>?_,tracked ⟨oc,hoc,I.freeC x c hc⟩ hs,by simpa using I.len⟩ ⟨c,hs,.inr hc⟩
  ·exact (hs.2 b (Nat.ne_of_lt (Nat.lt_of_lt_of_le (Heap.lt_size e) (I.ok.cab x c hfn hc)))).trans (I.base.keep b o e n hb hx)
  ·obtain ⟨sl,e1⟩:=I.base.slot b o e n hb hx
   exact ⟨sl,(hs.2 b (Nat.ne_of_lt (Nat.lt_of_lt_of_le (Heap.lt_size e) (I.ok.cab x c hfn hc)))).trans e1⟩
  ·obtain ⟨o',e1⟩:=I.base.there b o e hx
   exact ⟨o',(hs.2 b (Nat.ne_of_lt (Nat.lt_of_lt_of_le (Heap.lt_size e) (I.ok.cab x c hfn hc)))).trans e1⟩
  ·by_cases hj:j=i
   ·subst hj
    rw [hi] at e1;cases e1
    rw [List.getElem?_set_self hiσ] at e2
    cases e2
    exact ⟨u,r,.inr ⟨.inl hk,c,hc,hc'⟩⟩
   ·rw [List.getElem?_set_ne (Ne.symm hj)] at e2
    obtain ⟨u',r',q⟩:=hl j y v' e1 e2 e3
    refine ⟨u',r',?_⟩
    rcases q with q|⟨k,c',e,z'⟩
    ·exact .inl q
    ·refine .inr ⟨k,c',e,z'.sameBut hs ?_⟩
     rintro rfl
     exact hj (nodup_ix hN e1 (I.ok.inj _ _ _ e hc ▸ hi))
  ·by_cases hcc:c'=c
   ·subst hcc;exact ⟨_,hc'⟩
   ·obtain ⟨w2,z2⟩:=I.cell y c' e
    exact ⟨w2,z2.sameBut hs hcc⟩
  ·obtain ⟨e,n,ne,nf,d⟩:=I.pin p hp
   refine ⟨(hs.2 p.1 ?_).trans e,n,ne,nf,d⟩
   intro q
   rw [q,hoc] at e
   have q':oc=p.2:=Option.some.inj e
   exact d w' (by rw [←q'];exact hocd)
theorem store_ok {M:Model} {A:Around} {E:Value→Shared→Prop} {i:Nat} {x:Str} {v:V} {u:Value} {Q:Unit→Shared→Prop} (I:Inv X pins σ H s) (hN:X.N.Nodup) (hi:X.N[i]?=some x) (hx:Loc X.env.scope x) (r:RelV v u)
  (h:∀s',Inv X pins (σ.set i (some v)) H s'→Q () s') (hf:X.fn x=true∨X.env.scope.names.lookup x=some .local:=by first|exact .inl rfl|exact .inr rfl|assumption):wpAny M A (storeName X.env x u) Q E s :=
 store_ok2 I hN hi hx r (fun s' I' _=>h s' I') hf
theorem Inv.call' {s':Shared} {ch:List Addr} (I:Inv X pins σ H s) (ho:s'.os=s.os) (u:Un (frs X.stack) ch H H' s.heap s'.heap) (hok:HOk X.prog X.w H' s'.heap) (hg:AllBare s'.gens)
  (hch:∀b∈ch,(b∈X.ex∨X.s₀.heap.objs.size≤b)∧b≠X.env.locals∧(∀x c,X.env.cells.lookup x=some c→c≠b)∧∀p∈X.pn++pins,p.1≠b):Inv X pins σ H' s':=by
 obtain ⟨h',g',d',t',o'⟩:=s'
 have e:o'=s.os:=ho
 subst e
 exact I.call (g':=g') (t':=t') (d':=d') u hok hg hch
end
noncomputable abbrev XK:=Value→Option Addr→Hp→Prop
noncomputable abbrev St:=List (Option V)
noncomputable abbrev VK:=V→Hp→Prop
noncomputable abbrev TE:=St→Hp→VK→Prop
noncomputable abbrev TT:=St→Hp→(Bool→Hp→Prop)→Prop
noncomputable abbrev TA:=St→Hp→(List V→Hp→Prop)→Prop
structure Ends where
 nx:St→Hp→Prop
 rt:VK
 bk:St→Hp→Prop:=fun _ _=>False
 ct:St→Hp→Prop:=fun _ _=>False
noncomputable abbrev TS:=Ends→St→Hp→Prop
noncomputable def EP (X:Cx) (pins:List (Addr × Obj)) (σ:St) (Q:VK) (u:Value) (s':Shared):Prop:=∃v H',Inv X pins σ H' s'∧RelV v u∧Q v H'
noncomputable def TP (X:Cx) (pins:List (Addr × Obj)) (σ:St) (Q:Bool→Hp→Prop) (b:Bool) (s':Shared):Prop:=∃H',Inv X pins σ H' s'∧Q b H'
noncomputable def AP (X:Cx) (pins:List (Addr × Obj)) (σ:St) (Q:List V→Hp→Prop) (us:List Value) (s':Shared):Prop:=∃vs H',Inv X pins σ H' s'∧Vals vs us∧Q vs H'
noncomputable def SP (X:Cx) (pins:List (Addr × Obj)) (D:Ends) (f:Flow) (s':Shared):Prop :=
 match f with
 | .next=>∃σ' H',Inv X pins σ' H' s'∧D.nx σ' H'
 | .brk=>∃σ' H',Inv X pins σ' H' s'∧D.bk σ' H'
 | .cont=>∃σ' H',Inv X pins σ' H' s'∧D.ct σ' H'
 | .ret u=>∃v σ' H',Inv X pins σ' H' s'∧RelV v u∧D.rt v H'
noncomputable def PE (X:Cx) (e:Expr) (t:TE):Prop :=
 ∀(pins:List (Addr × Obj)) (s:Shared) (σ:St) (H:Hp) (Q:VK),Inv X pins σ H s→t σ H Q→wpAny (model X.prog X.w) X.A (eval e X.env) (EP X pins σ Q) X.xe s
noncomputable def PT (X:Cx) (e:Expr) (t:TT):Prop :=
 ∀(pins:List (Addr × Obj)) (s:Shared) (σ:St) (H:Hp) (Q:Bool→Hp→Prop),Inv X pins σ H s→t σ H Q→wpAny (model X.prog X.w) X.A (isTrue e X.env (eval e X.env)) (TP X pins σ Q) X.xe s
noncomputable def PW (X:Cx) (e:Expr) (t:TT):Prop :=
 ∀(whole:Sem Value) (pins:List (Addr × Obj)) (s:Shared) (σ:St) (H:Hp) (Q:Bool→Hp→Prop),Inv X pins σ H s→t σ H Q→wpAny (model X.prog X.w) X.A (isTrue e X.env whole) (TP X pins σ Q) X.xe s
theorem PW.pt {X:Cx} {e:Expr} {t:TT} (h:PW X e t):PT X e t:=h _
noncomputable def PA (X:Cx) (es:List Expr) (t:TA):Prop :=
 ∀(pos:Pos) (pins:List (Addr × Obj)) (s:Shared) (σ:St) (H:Hp) (Q:List V→Hp→Prop),Inv X pins σ H s→t σ H Q→wpAny (model X.prog X.w) X.A (spliced (backTo pos (starEach es X.env))) (AP X pins σ Q) X.xe s
noncomputable def PS (X:Cx) (st:Stmt) (t:TS):Prop :=
 ∀(pins:List (Addr × Obj)) (s:Shared) (σ:St) (H:Hp) (D:Ends),Inv X pins σ H s→t D σ H→wpAny (model X.prog X.w) X.A (exec st X.env) (SP X pins D) X.xe s
noncomputable def PSs (X:Cx) (st:List Stmt) (t:TS):Prop :=
 ∀(pins:List (Addr × Obj)) (s:Shared) (σ:St) (H:Hp) (D:Ends),Inv X pins σ H s→t D σ H→wpAny (model X.prog X.w) X.A (execs st X.env) (SP X pins D) X.xe s
theorem thn {α:Type} {t:Sem α} {Q Q':α→Shared→Prop} {M:Model} {A:Around} {E:Value→Shared→Prop} {s:Shared} (h:wpAny M A t Q E s) (hQ:∀a s,Q a s→Q' a s):wpAny M A t Q' E s:=wpAny_mono h hQ fun _ _ x=>x
end L2
namespace L2
open PySem PySem.Spec PyProof.Rows
section
variable {X:Cx}
noncomputable def tVar (i:Nat):TE:=fun σ H Q=>∃v,σ[i]?=some (some v)∧Q v H
noncomputable def tC (v:V):TE:=fun _ H Q=>Q v H
theorem pe_var {i:Nat} {x:Str} {pos:Pos} (hN:X.N[i]?=some x) (hv:Vis X.env.scope x) (hd:(x == ("__debug__":Str))=false:=by decide) (hcd:(x == ("__classdict__":Str))=false:=by decide):PE X (.Name x pos) (tVar i):=by
 intro pins s σ H Q I h
 obtain ⟨v,e,h⟩:=h
 obtain ⟨m,hn,hl⟩:=I.loc
 obtain ⟨u,r,l⟩:=hl i x v hN e hv
 have fin:EP X pins σ Q u s:=⟨v,H,I,r,h⟩
 rcases l with ⟨hk,hm⟩|⟨hk,c,hc,hcell⟩
 ·exact wpAny_Name (wpAny_loadName_local I.ok.kind hk hn hm fin) hd
 ·rcases hk with hk|hk
  ·exact wpAny_Name (wpAny_loadName_cell I.ok.kind hk hc hcell fin) hd
  ·exact wpAny_Name (wpAny_loadName_free I.ok.kind hk hc hcell fin hcd) hd
theorem pe_int {i j pos}:PE X (.Constant (.int i) j pos) (tC (.int i)):=fun _ _ _ H _ I h=>wpAny_Constant_int ⟨.int i,H,I.tok _,⟨_,rfl⟩,h⟩
theorem pe_bl {b j pos}:PE X (.Constant (.bool b) j pos) (tC (.bl b)):=fun _ _ _ H _ I h=>Constant_bool ⟨.bl b,H,I,rfl,h⟩
theorem pe_non {j pos}:PE X (.Constant .none j pos) (tC .non):=fun _ _ _ H _ I h=>Constant_none ⟨.non,H,I,rfl,h⟩
theorem pe_str {x j pos}:PE X (.Constant (.str x) j pos) (tC (.str x)):=fun _ _ _ H _ I h=>Calls.Constant_str ⟨.str x,H,I.tok _,⟨_,rfl⟩,h⟩
noncomputable def Gl (X:Cx) (x:Str):Prop:=X.env.kindOf x=some .globalImplicit
theorem ld_glob {E:Value→Shared→Prop} {pins:List (Addr × Obj)} {s:Shared} {σ:St} {H:Hp} {x:Str} {u:Value} {pos:Pos} {Q:Value→Shared→Prop} (I:Inv X pins σ H s) (hg:Gl X x) (hm:X.mg x=some u) (h:Q u s)
  (hd:(x == ("__debug__":Str))=false:=by decide):wpAny (model X.prog X.w) X.A (eval (.Name x pos) X.env) Q E s :=
 Calls.Name_function_global I.ok.kind hg (Calls.loadGlobal_global (by rw [I.ok.glob];exact I.mod.glob.keeps I.bk) hm h) hd
theorem ld_blt {E:Value→Shared→Prop} {pins:List (Addr × Obj)} {s:Shared} {σ:St} {H:Hp} {x:Str} {u:Value} {pos:Pos} {Q:Value→Shared→Prop} (I:Inv X pins σ H s) (hg:Gl X x) (hm:X.mg x=none) (hv:bootBuiltins x=some u) (h:Q u s)
  (hn:x≠"__name__":=by decide) (hd:(x == ("__debug__":Str))=false:=by decide):wpAny (model X.prog X.w) X.A (eval (.Name x pos) X.env) Q E s:=by
 obtain ⟨mb,h1,h2⟩:=I.mod.blt
 exact Calls.Name_function_global I.ok.kind hg (Calls.loadGlobal_builtin (by rw [I.ok.glob];exact I.mod.glob.keeps I.bk) hm (by rw [I.ok.blt];exact h1.keeps I.bk) ((h2 x hn).trans hv) h) hd
theorem pe_glob {x:Str} {v:V} {u:Value} {pos:Pos} (hg:Gl X x) (hm:X.mg x=some u) (r:RelV v u) (hd:(x == ("__debug__":Str))=false:=by decide):PE X (.Name x pos) (tC v) :=
 fun _ _ _ H _ I h=>ld_glob I hg hm ⟨v,H,I,r,h⟩ hd
theorem pe_bltn {x:Str} {v:V} {u:Value} {pos:Pos} (hg:Gl X x) (hm:X.mg x=none) (hv:bootBuiltins x=some u) (r:RelV v u) (hn:x≠"__name__":=by decide) (hd:(x == ("__debug__":Str))=false:=by decide):PE X (.Name x pos) (tC v) :=
 fun _ _ _ H _ I h=>ld_blt I hg hm hv ⟨v,H,I,r,h⟩ hn hd
variable {a b:Expr} {ta tb:TE} {pos:Pos}
variable {tA tB':TT} {rest:List Expr}
noncomputable def tAnd (t u:TT):TT:=fun σ H Q=>t σ H fun c H1=>if c=true then u σ H1 Q else Q false H1
noncomputable def tOr (t u:TT):TT:=fun σ H Q=>t σ H fun c H1=>if c=true then Q true H1 else u σ H1 Q
noncomputable def tNot (t:TT):TT:=fun σ H Q=>t σ H fun c H1=>Q (!c) H1
theorem pw_and1 (ha:PT X a tA):PW X (.BoolOp .And [a] pos) tA:=by
 intro wh pins s σ H Q I h
 refine isTrue_and (thn (ha pins s σ H Q I h) fun c s1 e=>?_)
 cases c with
 | true=>exact isTrue_and_nil e
 | false=>exact e
theorem pw_or1 (ha:PT X a tA):PW X (.BoolOp .Or [a] pos) tA:=by
 intro wh pins s σ H Q I h
 refine isTrue_or (thn (ha pins s σ H Q I h) fun c s1 e=>?_)
 cases c with
 | false=>exact isTrue_or_nil e
 | true=>exact e
theorem pw_and (ha:PT X a tA) (hb:PW X (.BoolOp .And (b::rest) pos) tB'):PW X (.BoolOp .And (a::b::rest) pos) (tAnd tA tB'):=by
 intro wh pins s σ H Q I h
 refine isTrue_and (thn (ha pins s σ H _ I h) fun c s1 ⟨H1,I1,q1⟩=>?_)
 cases c with
 | true=>exact hb wh pins s1 σ H1 Q I1 q1
 | false=>exact ⟨H1,I1,q1⟩
theorem pw_or (ha:PT X a tA) (hb:PW X (.BoolOp .Or (b::rest) pos) tB'):PW X (.BoolOp .Or (a::b::rest) pos) (tOr tA tB'):=by
 intro wh pins s σ H Q I h
 refine isTrue_or (thn (ha pins s σ H _ I h) fun c s1 ⟨H1,I1,q1⟩=>?_)
 cases c with
 | true=>exact ⟨H1,I1,q1⟩
 | false=>exact hb wh pins s1 σ H1 Q I1 q1
theorem pt_not (ha:PT X a tA):PT X (.UnaryOp .Not a pos) (tNot tA):=by
 intro pins s σ H Q I h
 exact isTrue_not (ha pins s σ H (fun c H1=>Q (!c) H1) I h)
noncomputable def tAndV (ta tb:TE):TE:=fun σ H Q=>ta σ H fun x H1=>∃c,x=.bl c∧if c=true then tb σ H1 Q else Q (.bl false) H1
noncomputable def tOrV (ta tb:TE):TE:=fun σ H Q=>ta σ H fun x H1=>∃c,x=.bl c∧if c=true then Q (.bl true) H1 else tb σ H1 Q
noncomputable def tNotV (ta:TE):TE:=fun σ H Q=>ta σ H fun x H1=>∃c,x=.bl c∧Q (.bl (!c)) H1
theorem pe_one {op} {t:TE} (h:PE X a t):PE X (.BoolOp op [a] pos) t:=fun pins s σ H Q I hw=>BoolOp_one (h pins s σ H Q I hw)
theorem pe_and (ha:PE X a ta) (hb:PE X (.BoolOp .And (b::rest) pos) tb):PE X (.BoolOp .And (a::b::rest) pos) (tAndV ta tb):=by
 intro pins s σ H Q I h
 refine BoolOp_and (thn (ha pins s σ H _ I h) fun v s1 ⟨x,H1,I1,r1,q1⟩=>?_)
 obtain ⟨c,rfl,q1⟩:=q1
 cases r1
 refine wpAny_truthy_bool ?_
 cases c with
 | true=>exact hb pins s1 σ H1 Q I1 q1
 | false=>exact ⟨.bl false,H1,I1,rfl,q1⟩
theorem pe_or (ha:PE X a ta) (hb:PE X (.BoolOp .Or (b::rest) pos) tb):PE X (.BoolOp .Or (a::b::rest) pos) (tOrV ta tb):=by
 intro pins s σ H Q I h
 refine BoolOp_or (thn (ha pins s σ H _ I h) fun v s1 ⟨x,H1,I1,r1,q1⟩=>?_)
 obtain ⟨c,rfl,q1⟩:=q1
 cases r1
 refine wpAny_truthy_bool ?_
 cases c with
 | false=>exact hb pins s1 σ H1 Q I1 q1
 | true=>exact ⟨.bl true,H1,I1,rfl,q1⟩
theorem pe_not (ha:PE X a ta):PE X (.UnaryOp .Not a pos) (tNotV ta):=by
 intro pins s σ H Q I h
 refine UnaryOp_ (thn (ha pins s σ H _ I h) fun v s1 ⟨x,H1,I1,r1,q1⟩=>?_)
 obtain ⟨c,rfl,q1⟩:=q1
 cases r1
 exact not_of (wpAny_truthy_bool ⟨.bl (!c),H1,I1,rfl,q1⟩)
noncomputable def tIf (t:TT) (ta tb:TE):TE:=fun σ H Q=>t σ H fun c H1=>if c=true then ta σ H1 Q else tb σ H1 Q
theorem pe_ifExp {c:Expr} (hc:PT X c tA) (ha:PE X a ta) (hb:PE X b tb):PE X (.IfExp c a b pos) (tIf tA ta tb):=by
 intro pins s σ H Q I h
 refine wpAny_IfExp (thn (hc pins s σ H _ I h) fun d s1 ⟨H1,I1,q1⟩=>?_)
 cases d with
 | true=>exact ha pins s1 σ H1 Q I1 q1
 | false=>exact hb pins s1 σ H1 Q I1 q1
end
end L2
namespace L2
open PySem PySem.Spec PyProof.Rows
noncomputable def SqL (K:PySem.W.Frag) (H:Hp) (a:Addr) (xs:List V):Prop :=
 Rd H a (.lst xs) ∨
  ∃(o:Obj) (its:Array Value) (n:Nat),K.lookup a=some o∧o.cls=.type "list"∧o.dict=none∧o.data=.seq its n∧its.size≤sizeLine∧Vals xs its.toList
noncomputable def SqT (K:PySem.W.Frag) (H:Hp) (a:Addr) (xs:List V):Prop :=
 Rd H a (.tup xs) ∨
  ∃(o:Obj) (its:Array Value) (n:Nat),K.lookup a=some o∧o.cls=.type "tuple"∧o.data=.seq its n∧its.size≤sizeLine∧Vals xs its.toList
noncomputable def absV:Value→Option V
 | .none=>some .non
 | .bool b=>some (.bl b)
 | .int i _=>some (.int i)
 | .str x _=>some (.str x)
 | .bytes b _=>some (.byt b)
 | .float b _=>some (.flt b)
 | .ref a=>some (.ref a)
 | .type n=>some (.ty n)
 | _=>none
theorem RelV.abs {x:V} {u:Value} (r:RelV x u):absV u=some x:=by
 cases x with
 | non=>cases r;rfl
 | bl _=>cases r;rfl
 | int _=>obtain ⟨t,rfl⟩:=r;rfl
 | str _=>obtain ⟨t,rfl⟩:=r;rfl
 | byt _=>obtain ⟨t,rfl⟩:=r;rfl
 | flt _=>obtain ⟨t,rfl⟩:=r;rfl
 | ref _=>cases r;rfl
 | ty _=>cases r;rfl
theorem RelV.inj {x y:V} {u:Value} (r:RelV x u) (q:RelV y u):x=y:=Option.some.inj (r.abs.symm.trans q.abs)
theorem Vals.inj:∀ {xs ys:List V} {us:List Value},Vals xs us→Vals ys us→xs=ys
 | _,_,_,.nil,.nil=>rfl
 | _,_,_,.cons r t,.cons r' t'=>by rw [r.inj r',Vals.inj t t']
section
variable {X:Cx} {pins:List (Addr × Obj)} {σ:St} {H:Hp} {s:Shared} {a:Addr} {xs ys:List V}
theorem SqL.of {K:PySem.W.Frag} (h:H a=some (.lst xs)):SqL K H a xs:=.inl (.inl h)
theorem SqT.of {K:PySem.W.Frag} (h:H a=some (.tup xs)):SqT K H a xs:=.inl (.inl h)
theorem Inv.list (I:Inv X pins σ H s) (h:SqL X.K H a xs):∃its:List Value,Vals xs its∧PlainL s.heap a its.toArray∧xs.length≤sizeLine:=by
 rcases h with h|⟨o,its,n,hk,hc,hd,hs,hz,r⟩
 ·obtain ⟨z,its,n,r,e⟩:=h.ok I.hok
  exact ⟨its,r,⟨_,n,e,rfl,rfl,rfl⟩,z⟩
 ·refine ⟨its.toList,r,⟨o,n,I.kIn a o hk,hc,hd,by simpa using hs⟩,?_⟩
  have e:=r.length
  simp only [Array.length_toList] at e
  omega
theorem Inv.tuple (I:Inv X pins σ H s) (h:SqT X.K H a xs):∃its:List Value,Vals xs its∧IsTup s.heap a its.toArray∧xs.length≤sizeLine:=by
 rcases h with h|⟨o,its,n,hk,hc,hs,hz,r⟩
 ·obtain ⟨z,its,r,p⟩:=h.ok I.hok
  exact ⟨its,r,p,z⟩
 ·refine ⟨its.toList,r,⟨o,I.kIn a o hk,hc,n,by simpa using hs⟩,?_⟩
  have e:=r.length
  simp only [Array.length_toList] at e
  omega
theorem Inv.list_inj (I:Inv X pins σ H s) (h:SqL X.K H a xs) (h':SqL X.K H a ys):xs=ys:=by
 obtain ⟨its,r,⟨o,n,e,_,_,d⟩,_⟩:=I.list h
 obtain ⟨its',r',⟨o',n',e',_,_,d'⟩,_⟩:=I.list h'
 rw [e] at e';cases e'
 rw [d] at d'
 injection d' with d1 _
 have:its=its':=by simpa using congrArg Array.toList d1
 subst this
 exact r.inj r'
theorem Inv.tuple_inj (I:Inv X pins σ H s) (h:SqT X.K H a xs) (h':SqT X.K H a ys):xs=ys:=by
 obtain ⟨its,r,⟨o,e,_,n,d⟩,_⟩:=I.tuple h
 obtain ⟨its',r',⟨o',e',_,n',d'⟩,_⟩:=I.tuple h'
 rw [e] at e';cases e'
 rw [d] at d'
 injection d' with d1 _
 have:its=its':=by simpa using congrArg Array.toList d1
 subst this
 exact r.inj r'
end
noncomputable abbrev Cx.wish (X:Cx) (E:Value→Shared→Prop):Cx:={ X with xe:=E }
noncomputable abbrev Cx.nox (X:Cx):Cx:=X.wish fun _ _=>False
theorem Cx.Ok.wish {X:Cx} (ok:X.Ok) (E:Value→Shared→Prop):(X.wish E).Ok :=
 ⟨ok.mod,ok.kind,ok.glob,ok.blt,ok.above,ok.inj,ok.has,ok.cab,ok.hd,ok.frames,ok.stk,ok.exf,ok.bs,ok.bsz,ok.noex,ok.exfs,ok.funs,ok.frf⟩
theorem Cx.Ok.unwish {X:Cx} {E:Value→Shared→Prop} (ok:(X.wish E).Ok):X.Ok :=
 ⟨ok.mod,ok.kind,ok.glob,ok.blt,ok.above,ok.inj,ok.has,ok.cab,ok.hd,ok.frames,ok.stk,ok.exf,ok.bs,ok.bsz,ok.noex,ok.exfs,ok.funs,ok.frf⟩
section
variable {X:Cx} {pins:List (Addr × Obj)} {σ:St} {H:Hp} {s:Shared} {E:Value→Shared→Prop}
theorem Inv.wish (I:Inv X pins σ H s) (E:Value→Shared→Prop):Inv (X.wish E) pins σ H s:=⟨I.ok.wish E,I.os,I.bare,I.base,I.loc,I.cell,I.free,I.freeC,I.pin,I.hok,I.len⟩
theorem Inv.unwish (I:Inv (X.wish E) pins σ H s):Inv X pins σ H s:=⟨I.ok.unwish,I.os,I.bare,I.base,I.loc,I.cell,I.free,I.freeC,I.pin,I.hok,I.len⟩
theorem SP.unwish {D:Ends} {f:Flow} {s':Shared} (h:SP (X.wish E) pins D f s'):SP X pins D f s':=by
 cases f with
 | next=>obtain ⟨σ',H',I,q⟩:=h;exact ⟨σ',H',I.unwish,q⟩
 | brk=>obtain ⟨σ',H',I,q⟩:=h;exact ⟨σ',H',I.unwish,q⟩
 | cont=>obtain ⟨σ',H',I,q⟩:=h;exact ⟨σ',H',I.unwish,q⟩
 | ret u=>obtain ⟨v,σ',H',I,r,q⟩:=h;exact ⟨v,σ',H',I.unwish,r,q⟩
theorem PE.nox {e:Expr} {t:TE} (h:PE X.nox e t):PE X e t:=fun pins s σ H Q I hw =>
 wpAny_mono (h pins s σ H Q (I.wish _) hw) (fun _ _ ⟨v,H',I',r,q⟩=>⟨v,H',I'.unwish,r,q⟩) fun _ _ z=>False.elim z
theorem PSs.nox {st:List Stmt} {t:TS} (h:PSs X.nox st t):PSs X st t:=fun pins s σ H D I hw =>
 wpAny_mono (h pins s σ H D (I.wish _) hw) (fun _ _ q=>q.unwish) fun _ _ z=>False.elim z
end
section
variable {X:Cx} {st:Stmt} {rest:List Stmt} {t u:TS} {e:Expr} {te:TE} {pos:Pos}
noncomputable def tNext:TS:=fun D σ H=>D.nx σ H
noncomputable def tSeq (t u:TS):TS:=fun D σ H=>t { D with nx:=u D } σ H
theorem pss_nil:PSs X [] tNext:=fun _ _ σ H _ I h=>wpAny_execs_nil ⟨σ,H,I,h⟩
theorem pss_cons (h1:PS X st t) (h2:PSs X rest u):PSs X (st::rest) (tSeq t u):=by
 intro pins s σ H D I h
 refine wpAny_execs_cons (thn (h1 pins s σ H { D with nx:=u D } I h) fun f s1 q=>?_)
 cases f with
 | next =>
  obtain ⟨σ',H',I',q⟩:=q
  exact h2 pins s1 σ' H' D I' q
 | ret v=>exact q
 | brk=>exact q
 | cont=>exact q
noncomputable def tBreak:TS:=fun D σ H=>D.bk σ H
noncomputable def tCont:TS:=fun D σ H=>D.ct σ H
theorem ps_pass:PS X (.Pass pos) tNext:=fun _ _ σ H _ I h=>wpAny_Pass ⟨σ,H,I,h⟩
theorem ps_break:PS X (.Break pos) tBreak:=fun _ _ σ H _ I h=>wpAny_Break ⟨σ,H,I,h⟩
theorem ps_continue:PS X (.Continue pos) tCont:=fun _ _ σ H _ I h=>wpAny_Continue ⟨σ,H,I,h⟩
theorem Inv.quiet {pins:List (Addr × Obj)} {σ:St} {H:Hp} {s:Shared} (I:Inv X pins σ H s):interactive X.env=false:=by simp [interactive,I.ok.kind]
noncomputable def tDrop (te:TE):TS:=fun D σ H=>te σ H fun _ H1=>D.nx σ H1
theorem ps_expr (he:PE X e te) (hs:swapsWith e none pos.line X.env=pure false:=by rfl):PS X (.Expr e pos) (tDrop te):=by
 intro pins s σ H D I h
 exact wpAny_Expr_any (thn (he pins s σ H _ I h) fun v s1 ⟨x,H1,I1,r1,q1⟩=>⟨σ,H1,I1,q1⟩) I.quiet hs
noncomputable def tRet (te:TE):TS:=fun D σ H=>te σ H D.rt
theorem ps_ret (he:PE X e te):PS X (.Return (some e) pos) (tRet te):=by
 intro pins s σ H D I h
 exact wpAny_Return_some (thn (he pins s σ H _ I h) fun v s1 ⟨x,H1,I1,r1,q1⟩=>⟨x,σ,H1,I1,r1,q1⟩)
noncomputable def tRetN:TS:=fun D _ H=>D.rt .non H
theorem ps_retN:PS X (.Return none pos) tRetN:=fun _ _ σ H _ I h=>wpAny_Return_none ⟨.non,σ,H,I,rfl,h⟩
noncomputable def tIfS (c:TT) (t u:TS):TS:=fun D σ H=>c σ H fun b H1=>if b=true then t D σ H1 else u D σ H1
theorem ps_if {c:Expr} {a b:List Stmt} {tc:TT} (hc:PT X c tc) (ha:PSs X a t) (hb:PSs X b u):PS X (.If c a b pos) (tIfS tc t u):=by
 intro pins s σ H D I h
 refine wpAny_If (thn (hc pins s σ H _ I h) fun d s1 ⟨H1,I1,q1⟩=>?_)
 cases d with
 | true=>exact ha pins s1 σ H1 D I1 q1
 | false=>exact hb pins s1 σ H1 D I1 q1
end
noncomputable abbrev TG:=V→St→Hp→(St→Hp→Prop)→Prop
noncomputable abbrev TGs:=List V→St→Hp→(St→Hp→Prop)→Prop
noncomputable def PG (X:Cx) (target:Expr) (t:TG):Prop :=
 ∀(pins:List (Addr × Obj)) (s:Shared) (σ:St) (H:Hp) (v:V) (u:Value) (Q:St→Hp→Prop),Inv X pins σ H s→RelV v u→t v σ H Q →
  wpAny (model X.prog X.w) X.A (assign target X.env u) (fun _ s'=>∃σ' H',Inv X pins σ' H' s'∧Q σ' H') X.xe s
noncomputable def PGs (X:Cx) (ts:List Expr) (t:TGs):Prop :=
 ∀(pins:List (Addr × Obj)) (s:Shared) (σ:St) (H:Hp) (vs:List V) (us:List Value) (Q:St→Hp→Prop),Inv X pins σ H s→Vals vs us→t vs σ H Q →
  wpAny (model X.prog X.w) X.A (assignInOrder ((assignEach ts X.env).map (·.2)) us) (fun _ s'=>∃σ' H',Inv X pins σ' H' s'∧Q σ' H') X.xe s
noncomputable abbrev TSet:=V→V→V→Hp→(Hp→Prop)→Prop
noncomputable def PSet (X:Cx) (t:TSet):Prop :=
 ∀(pins:List (Addr × Obj)) (s:Shared) (σ:St) (H:Hp) (o i v:V) (ov iv u:Value) (Q:Hp→Prop),Inv X pins σ H s→RelV o ov→RelV i iv→RelV v u→t o i v H Q →
  wpAny (model X.prog X.w) X.A (setItem ov iv u) (fun _ s'=>∃H',Inv X pins σ H' s'∧Q H') X.xe s
noncomputable abbrev TIp:=V→V→Hp→VK→Prop
noncomputable def PIp (X:Cx) (op:Operator) (t:TIp):Prop :=
 ∀(pins:List (Addr × Obj)) (s:Shared) (σ:St) (H:Hp) (x y:V) (v u:Value) (Q:VK),Inv X pins σ H s→RelV x v→RelV y u→t x y H Q →
  wpAny (model X.prog X.w) X.A (inplaceOp op v u) (EP X pins σ Q) X.xe s
section
variable {X:Cx} {pos:Pos}
noncomputable def gName (i:Nat):TG:=fun v σ H Q=>Q (σ.set i (some v)) H
theorem pg_name {i:Nat} {x:Str} (hN:X.N.Nodup) (hi:X.N[i]?=some x) (hx:Loc X.env.scope x) (hf:X.fn x=true∨X.env.scope.names.lookup x=some .local:=by first|exact .inl rfl|exact .inr rfl|assumption):PG X (.Name x pos) (gName i):=by
 intro pins s σ H v u Q I r h
 exact wpAny_assign_Name (store_ok I hN hi hx r (fun s' I'=>⟨_,H,I',h⟩) hf)
noncomputable def gNil:TGs:=fun vs σ H Q=>vs=[]∧Q σ H
noncomputable def gCons (t:TG) (u:TGs):TGs:=fun vs σ H Q=>∃v r,vs=v::r∧t v σ H fun σ' H'=>u r σ' H' Q
theorem pgs_nil:PGs X [] gNil:=by
 intro pins s σ H vs us Q I r h
 obtain ⟨e,h⟩:=h
 subst e
 cases r
 exact assignInOrder_nil ⟨σ,H,I,h⟩
theorem pgs_cons {e:Expr} {es:List Expr} {t:TG} {u:TGs} (h1:PG X e t) (h2:PGs X es u)
  (hs:(assignEach (e::es) X.env).map (·.2)=assign e X.env::(assignEach es X.env).map (·.2):=by rfl):PGs X (e::es) (gCons t u):=by
 intro pins s σ H vs us Q I r h
 obtain ⟨v,vr,e1,h⟩:=h
 subst e1
 cases r with
 | cons r rr =>
  rw [hs]
  refine assignInOrder_cons (thn (h1 pins s σ H _ _ _ I r h) fun _ s1 ⟨σ1,H1,I1,q1⟩=>?_)
  exact h2 pins s1 σ1 H1 _ _ Q I1 rr q1
noncomputable def gTup (K:PySem.W.Frag) (n:Nat) (t:TGs):TG:=fun v σ H Q=>∃a xs,v=.ref a∧SqT K H a xs∧xs.length=n∧t xs σ H Q
theorem pg_tup {es:List Expr} {k:Nat} {t:TGs} {n:Nat} (hc:X.calm=true) (h:PGs X es t)
  (hn:(assignEach es X.env).length=n:=by rfl) (hst:(assignEach es X.env).findIdx? (·.1)=none:=by rfl):PG X (.Tuple es k pos) (gTup X.K n t):=by
 intro pins s σ H v u Q I r hw
 obtain ⟨a,xs,e1,hq,hl,hw⟩:=hw
 subst e1
 cases r
 obtain ⟨its,rv,ht,hz⟩:=I.tuple hq
 refine assign_Tuple_tuple (I.ok.hd hc) ht (by simp [hn,←hl,rv.length]) hst fun h' hx=>?_
 have I1:Inv X pins σ H { s with heap:=h' }:=I.kept (t':=s.toks) fun b o e=>hx b o (Nat.ne_of_lt (Heap.lt_size e)) e
 exact h pins _ σ H xs _ Q I1 (by simpa using rv) hw
noncomputable def gSub (to ti:TE) (t:TSet):TG:=fun v σ H Q=>to σ H fun o H1=>ti σ H1 fun i H2=>t o i v H2 fun H3=>Q σ H3
theorem pg_sub {o i:Expr} {to ti:TE} {t:TSet} (ho:PE X o to) (hi:PE X i ti) (hs:PSet X t)
  (ha:∀v,assign (.Subscript o i pos) X.env v=(do
   let ov ←holding [v] (eval o X.env)
   let iv ←holding [v,ov] (eval i X.env)
   standAt pos
   holding [v,ov,iv] (setItem ov iv v)
   release [v,ov,iv] []):=by intro _;rfl):PG X (.Subscript o i pos) (gSub to ti t):=by
 intro pins s σ H v u Q I r h
 rw [ha]
 refine wpAny_bind (wpAny_holding (thn (ho pins s σ H _ I h) fun ov s1 ⟨x,H1,I1,r1,q1⟩=>?_))
 refine wpAny_bind (wpAny_holding (thn (hi pins s1 σ H1 _ I1 q1) fun iv s2 ⟨y,H2,I2,r2,q2⟩=>?_))
 refine wpAny_bind (wpAny_standAt (wpAny_bind (wpAny_holding (thn (hs pins s2 σ H2 x y v ov iv u _ I2 r1 r2 r q2) fun _ s3 ⟨H3,I3,q3⟩=>?_))))
 exact wpAny_release ⟨σ,H3,I3,q3⟩
noncomputable def tAsg (te:TE) (g:TG):TS:=fun D σ H=>te σ H fun x H1=>g x σ H1 D.nx
theorem ps_asg {tg e:Expr} {te:TE} {g:TG} (he:PE X e te) (hg:PG X tg g) (hs:swapsWithSole [tg] e pos.line X.env=pure false:=by rfl) (hw:swappedStores [tg] e X.env=pure none:=by rfl)
  (h1:(assignEach [tg] X.env).map (·.2)=[assign tg X.env]:=by rfl):PS X (.Assign [tg] e pos) (tAsg te g):=by
 intro pins s σ H D I h
 refine wpAny_Assign_stores (thn (he pins s σ H _ I h) fun v s1 ⟨x,H1,I1,r1,q1⟩=>?_) hs hw
 rw [h1]
 exact thn (hg pins s1 σ H1 x v _ I1 r1 q1) fun _ s2 q=>q
theorem ps_set {i:Nat} {x:Str} {e:Expr} {te:TE} {pos':Pos} (hN:X.N.Nodup) (hi:X.N[i]?=some x) (hx:Loc X.env.scope x) (he:PE X e te) (hs:swapsWith e (some (.Name x pos')) pos.line X.env=pure false:=by rfl) (hf:X.fn x=true∨X.env.scope.names.lookup x=some .local:=by first|exact .inl rfl|exact .inr rfl|assumption) :
  PS X (.Assign [.Name x pos'] e pos) (tAsg te (gName i)):=by
 intro pins s σ H D I h
 refine wpAny_Assign_Name (thn (he pins s σ H _ I h) fun v s1 ⟨y,H1,I1,r1,q1⟩=>?_) hs
 exact store_ok I1 hN hi hx r1 (fun s2 I2=>⟨_,H1,I2,q1⟩) hf
noncomputable def tPar (i j:Nat) (ta:TA):TS:=fun D σ H=>ta σ H fun vs H1=>∃v w,vs=[v,w]∧D.nx ((σ.set i (some v)).set j (some w)) H1
theorem ps_par {i j:Nat} {x y:Str} {a b:Expr} {ta:TA} {px py pt:Pos} {kt k2 pt2} (hc:X.calm=true) (hN:X.N.Nodup) (hi:X.N[i]?=some x) (hj:X.N[j]?=some y) (hij:i≠j)
  (hx:X.env.scope.names.lookup x=some .local) (hy:X.env.scope.names.lookup y=some .local) (ha:PA X [a,b] ta)
  (hw:swappedStores [.Tuple [.Name x px,.Name y py] kt pt] (.Tuple [a,b] k2 pt2) X.env=pure (some [x,y]))
  (hs:swapsWithSole [.Tuple [.Name x px,.Name y py] kt pt] (.Tuple [a,b] k2 pt2) pos.line X.env=pure false:=by rfl) :
  PS X (.Assign [.Tuple [.Name x px,.Name y py] kt pt] (.Tuple [a,b] k2 pt2) pos) (tPar i j ta):=by
 intro pins s σ H D I h
 rw [exec_Assign_arm]
 refine wpAny_bind (wpAny_standAt ?_)
 rw [hs]
 refine wpAny_bind (wpAny_pure ?_)
 rw [if_neg (by decide)]
 refine wpAny_bind (Tuple_ (thn (ha _ pins s σ H _ I h) fun us s1 ⟨vs,H1,I1,r1,q1⟩=>?_))
 obtain ⟨v,w,e1,q1⟩:=q1
 subst e1
 obtain ⟨u1,u2,rfl,rv,rw'⟩:∃u1 u2,us=[u1,u2]∧RelV v u1∧RelV w u2:=by
  cases r1 with
  | cons p q =>
   cases q with
   | cons p' q' =>
    cases q'
    exact ⟨_,_,rfl,p,p'⟩
 refine wpAny_newObj_type ?_ (by show 2≤sizeLine;decide)
 have I2:Inv X pins σ H1 { s1 with heap:=s1.heap.push { cls:=.type "tuple",data:=.seq [u1,u2].toArray } }:=I1.kept (t':=s1.toks) fun b o e=>Heap.get?_push_of_some _ e
 rw [hw]
 refine wpAny_bind (wpAny_pure ?_)
 show wpAny (model X.prog X.w) X.A (do rule "assign.swapped-stores";let items ←unpackItems (.ref s1.heap.objs.size) 2 none;assignInOrder [fun v=>bindName X.env y v,fun v=>bindName X.env x v] items.reverse;pure Flow.next) _ _ _
 refine wpAny_bind (wpAny_rule (wpAny_bind (unpackItems_tuple (items:=#[u1,u2]) (I.ok.hd hc) (IsTup.new s1.heap _) fun h' hx'=>?_)))
 have I3:=I2.kept (h':=h') (t':=s1.toks) fun b o e=>hx' b o (Nat.ne_of_lt (Heap.lt_size e)) e
 show wpAny _ _ (assignInOrder [fun v=>bindName X.env y v,fun v=>bindName X.env x v] [u2,u1] >>= fun _=>pure Flow.next) _ _ _
 refine wpAny_bind (assignInOrder_cons (wpAny_bindName (store_ok I3 hN hj (.inl hy) rw' (fun s2 I4=>?_) (.inr hy))))
 refine assignInOrder_cons (wpAny_bindName (store_ok I4 hN hi (.inl hx) rv (fun s3 I5=>assignInOrder_nil (wpAny_pure ?_)) (.inr hx)))
 rw [List.set_comm _ _ (Ne.symm hij)] at I5
 exact ⟨_,H1,I5,q1⟩
noncomputable def tAug (i:Nat) (te:TE) (ti:TIp):TS:=fun D σ H=>∃x,σ[i]?=some (some x)∧te σ H fun y H1=>ti x y H1 fun z H2=>D.nx (σ.set i (some z)) H2
theorem ps_aug {i:Nat} {x:Str} {e:Expr} {te:TE} {op:Operator} {ti:TIp} {pos':Pos} (hN:X.N.Nodup) (hi:X.N[i]?=some x) (hx:Loc X.env.scope x) (he:PE X e te) (ho:PIp X op ti) (hf:X.fn x=true∨X.env.scope.names.lookup x=some .local:=by first|exact .inl rfl|exact .inr rfl|assumption) :
  PS X (.AugAssign (.Name x pos') op e pos) (tAug i te ti):=by
 intro pins s σ H D I h
 obtain ⟨v,e1,h⟩:=h
 obtain ⟨m,hn,hl⟩:=I.loc
 have vis:Vis X.env.scope x:=by rcases hx with k|k;exact .inl k;exact .inr (.inl k)
 obtain ⟨u,r,l⟩:=hl i x v hi e1 vis
 refine wpAny_AugAssign_Name ?_
 have go:wpAny (model X.prog X.w) X.A (eval e X.env) (fun w s₂=>wpAny (model X.prog X.w) X.A (inplaceOp op u w) (fun r s₃=>wpAny (model X.prog X.w) X.A (storeName X.env x r) (fun _=>SP X pins D .next) X.xe s₃) X.xe s₂) X.xe s:=by
  refine thn (he pins s σ H _ I h) fun w s1 ⟨y,H1,I1,r1,q1⟩=>?_
  refine thn (ho pins s1 σ H1 v y u w _ I1 r r1 q1) fun z s2 ⟨zv,H2,I2,r2,q2⟩=>?_
  exact store_ok I2 hN hi hx r2 (fun s3 I3=>⟨_,H2,I3,q2⟩) hf
 rcases l with ⟨hk,hm⟩|⟨hk,c,hc,hcell⟩
 ·exact wpAny_loadName_local I.ok.kind hk hn hm go
 ·rcases hk with hk|hk
  ·exact wpAny_loadName_cell I.ok.kind hk hc hcell go
  ·rcases hx with k|k
   ·have:X.env.scope.names.lookup x=some .free:=hk
    rw [k] at this;cases this
   ·have:X.env.scope.names.lookup x=some .free:=hk
    rw [k] at this;cases this
noncomputable def ipI (f:Int→Int→Int):TIp:=fun x y H Q=>∃i j,x=.int i∧y=.int j∧Q (.int (f i j)) H
theorem ip_add:PIp X .Add (ipI fun i j=>i+j):=by
 intro pins s σ H x y v u Q I r1 r2 h
 obtain ⟨i,j,e1,e2,q⟩:=h
 subst e1;subst e2
 obtain ⟨t,rfl⟩:=r1
 obtain ⟨t',rfl⟩:=r2
 exact iadd_int ⟨.int _,H,I.tok _,⟨_,rfl⟩,q⟩
theorem ip_sub:PIp X .Sub (ipI fun i j=>i-j):=by
 intro pins s σ H x y v u Q I r1 r2 h
 obtain ⟨i,j,e1,e2,q⟩:=h
 subst e1;subst e2
 obtain ⟨t,rfl⟩:=r1
 obtain ⟨t',rfl⟩:=r2
 exact isub_int ⟨.int _,H,I.tok _,⟨_,rfl⟩,q⟩
end
section
variable {X:Cx} {pos:Pos}
noncomputable def tWhile (c:TT) (tb:TS):TS:=fun D σ H=>∃W:Nat→St→Hp→Prop,(∃m,W m σ H)∧∀m σ H,W m σ H →
 c σ H fun b H1=>if b=true then ∃N:St→Hp→Prop,(∀σ' H',N σ' H'→∃m',m'<m∧W m' σ' H')∧tb { D with nx:=N,ct:=N,bk:=D.nx } σ H1 else D.nx σ H1
theorem ps_while {c:Expr} {body:List Stmt} {tc:TT} {tb:TS} (hp:PassesOwn (model X.prog X.w) X.A X.env X.xe) (hc:PT X c tc) (hb:PSs X body tb):PS X (.While c body [] pos) (tWhile tc tb):=by
 intro pins s σ H D I h
 obtain ⟨W,⟨m0,w0⟩,turn⟩:=h
 refine wpAny_While (codeAny_whileLoop (fun n s'=>∃σ' H',Inv X pins σ' H' s'∧W n σ' H') ?_ m0 ⟨σ,H,I,w0⟩)
 rintro n s1 ⟨σ1,H1,I1,w1⟩
 refine wpAny_passesOwn hp (thn (hc pins s1 σ1 H1 _ I1 (turn n σ1 H1 w1)) fun b s2 ⟨H2,I2,q2⟩=>?_)
 cases b with
 | true =>
  obtain ⟨N,hN,q2⟩:=q2
  rw [if_pos rfl]
  refine wpAny_passesOwn hp (thn (hb pins s2 σ1 H2 _ I2 q2) fun f s3 q3=>?_)
  cases f with
  | next =>
   obtain ⟨σ3,H3,I3,n3⟩:=q3
   obtain ⟨m',hm,w3⟩:=hN σ3 H3 n3
   exact ⟨m',hm,σ3,H3,I3,w3⟩
  | cont =>
   obtain ⟨σ3,H3,I3,n3⟩:=q3
   obtain ⟨m',hm,w3⟩:=hN σ3 H3 n3
   exact ⟨m',hm,σ3,H3,I3,w3⟩
  | brk=>exact q3
  | ret v=>exact q3
 | false =>
  rw [if_neg Bool.false_ne_true]
  exact wpAny_execs_nil ⟨σ1,H2,I2,q2⟩
end
structure It where
 go:Nat→Hp→Prop
 yld:Nat→Hp→V→Hp→Prop
 stop:Nat→Hp→Prop
noncomputable def FpOk (X:Cx) (pins:List (Addr × Obj)) (H:Hp) (b:Addr):Prop :=
 H b=none∧b≠X.env.locals∧b ∉ X.fs∧(b∈X.ex∨X.s₀.heap.objs.size≤b)∧(∀x c,X.env.cells.lookup x=some c→c≠b)∧∀p∈X.pn++pins,p.1≠b
theorem Inv.fpOk {X:Cx} {pins:List (Addr × Obj)} {σ:St} {H H':Hp} {s:Shared} {b:Addr} (I:Inv X pins σ H s) (hb:s.heap.objs.size≤b) (hn:H' b=none):FpOk X pins H' b:=by
 refine ⟨hn,Nat.ne_of_gt (Nat.lt_of_lt_of_le I.lt hb),I.nofs hb,.inr (Nat.le_trans I.sz hb),fun x c e z=>?_,fun p hp z=>?_⟩
 ·obtain ⟨v,q⟩:=I.cell x c e
  exact absurd (Nat.lt_of_lt_of_le q.lt (by rw [z];exact hb)) (Nat.lt_irrefl _)
 ·exact absurd (Nat.lt_of_lt_of_le (Heap.lt_size (I.pin p hp).1) (by rw [z];exact hb)) (Nat.lt_irrefl _)
structure Turn (P:Program) (w:World) (K:PySem.W.Frag) (tg:Expr) (J:It) (fp:List Addr) (it:Addr) (tn:Nat→Heap→Prop):Prop where
 mem:it∈fp
 obj:∀i h,tn i h→∀b∈fp,∃o,h.get? b=some o∧∀v,o.data≠.cell v
 keep:∀i h h',tn i h→(∀b∈fp,∀o,h.get? b=some o→h'.get? b=some o)→tn i h'
 item:∀(X:Cx),X.prog=P→X.w=w→X.K=K→X.calm=true→∀(i:Nat) (pins:List (Addr × Obj)) (s:Shared) (σ:St) (H:Hp) (E:Value→Shared→Prop),Inv X pins σ H s→(∀b∈fp,FpOk X pins H b)→tn i s.heap→J.go i H →
  wpAny (model P w) X.A (pyNext (.ref it)) (fun r s1=>∃u,r=some u ∧
   wpAny (model P w) X.A (letOwnedTupleGo tg (.ref it) u) (fun _ s2=>∃x H',Inv X pins σ H' s2∧RelV x u∧J.yld i H x H'∧tn (i+1) s2.heap∧∀b∈fp,H' b=none) E s1) E s
 done:∀(X:Cx),X.prog=P→X.w=w→X.K=K→X.calm=true→∀(i:Nat) (pins:List (Addr × Obj)) (s:Shared) (σ:St) (H:Hp) (E:Value→Shared→Prop),Inv X pins σ H s→(∀b∈fp,FpOk X pins H b)→tn i s.heap→J.stop i H →
  wpAny (model P w) X.A (pyNext (.ref it)) (fun r s1=>r=none∧Inv X pins σ H s1) E s
 self:∀(A:Around) (i:Nat) (s:Shared) (Q:Value→Shared→Prop) (E:Value→Shared→Prop),tn i s.heap→Q (.ref it) s→wpAny (model P w) A (pyIter (.ref it)) Q E s
noncomputable abbrev TI:=St→Hp→(It→Hp→Prop)→Prop
noncomputable def PIE (X:Cx) (pins:List (Addr × Obj)) (σ:St) (tg:Expr) (R:It→Hp→Prop) (itv:Value) (s2:Shared):Prop :=
 ∃(it:Addr) (fp:List Addr) (tn:Nat→Heap→Prop) (J:It) (H':Hp),itv=.ref it∧Inv X pins σ H' s2∧Turn X.prog X.w X.K tg J fp it tn∧tn 0 s2.heap∧(∀b∈fp,FpOk X pins H' b)∧R J H'
noncomputable def PI (X:Cx) (tg iter:Expr) (wi:TI):Prop :=
 ∀(pins:List (Addr × Obj)) (s:Shared) (σ:St) (H:Hp) (R:It→Hp→Prop),Inv X pins σ H s→wi σ H R →
  wpAny (model X.prog X.w) X.A (eval iter X.env) (fun v s1=>wpAny (model X.prog X.w) X.A (pyIter v) (PIE X pins σ tg R) X.xe s1) X.xe s
theorem go_of {M:Model} {A:Around} {E:Value→Shared→Prop} {s:Shared} {tg:Expr} {it:Addr} {u:Value} {o:Obj} {n:String} {vs:Array Value} {Q:Unit→Shared→Prop} (ho:s.heap.get? it=some o) (hc:o.cls=.type n) (hd:o.data=.fields vs)
  (hn:["enumerate","zip","dict_itemiterator","dict_reverseitemiterator","odict_iterator","itertools.zip_longest","itertools.pairwise"].contains n=false) (hQ:Q () s):wpAny M A (letOwnedTupleGo tg (.ref it) u) Q E s:=by
 unfold letOwnedTupleGo
 cases tg <;> first
  | exact wpAny_pure hQ
  | (cases u <;> first
    | exact wpAny_pure hQ
    | (refine wpAny_bind (wpAny_load ho ?_)
       rw [hc,hd]
       show wpAny M A (if (["enumerate","zip","dict_itemiterator","dict_reverseitemiterator","odict_iterator","itertools.zip_longest","itertools.pairwise"].contains n && vs[0]? == some (rawInt _))=true then _ else _) Q E s
       rw [if_neg (by intro h;rw [hn,Bool.false_and] at h;cases h)]
       exact wpAny_pure hQ))
noncomputable def Itl (K:PySem.W.Frag) (a:Addr):It :=
 ⟨fun i H=>∃xs x,SqL K H a xs∧xs[i]?=some x,fun i H x H'=>H'=H∧∀xs,SqL K H a xs→xs[i]?=some x,fun i H=>∃xs,SqL K H a xs∧xs.length≤i⟩
noncomputable def Itt (K:PySem.W.Frag) (a:Addr):It :=
 ⟨fun i H=>∃xs x,SqT K H a xs∧xs[i]?=some x,fun i H x H'=>H'=H∧∀xs,SqT K H a xs→xs[i]?=some x,fun i H=>∃xs,SqT K H a xs∧xs.length≤i⟩
noncomputable def Itr (lo:Int) (n:Nat):It:=⟨fun i _=>i<n,fun i H x H'=>H'=H∧x=.int (lo+i),fun i _=>n≤i⟩
theorem turn_list {P:Program} {w:World} {K:PySem.W.Frag} {tg:Expr} (a it:Addr):Turn P w K tg (Itl K a) [it] it (fun i h=>h.IsListIter it a i) where
 mem:=by simp
 obj:=fun i h st b hb=>by
  have e:b=it:=by simpa using hb
  subst e
  obtain ⟨o,e,c,d⟩:=st
  exact ⟨o,e,fun v z=>by rw [d] at z;cases z⟩
 keep:=fun i h h' st k=>st.at fun o e=>k it (by simp) o e
 item:=by
  intro X hP hw hK hc i pins s σ H E I hf st hg
  subst hP hw hK
  obtain ⟨xs,x,hq,hx⟩:=hg
  obtain ⟨its,rv,p,hz⟩:=I.list hq
  obtain ⟨u,hu,ru⟩:=rv.get hx
  obtain ⟨f0,f1,f2,f3,f4,f5⟩:=hf it (by simp)
  refine wpAny_pyNext_list_item st p.isList (x:=u) (by simpa using hu) fun h' st' sb=>?_
  have I1:Inv X pins σ H { s with heap:=h' }:=I.turned (t':=s.toks) (fun b o hb e=>(sb.2 b hb).trans e) f0 f1 f3 f4 f5
  obtain ⟨o,e,c,d⟩:=id st'
  exact ⟨u,rfl,go_of (s:={ s with heap:=h' }) e c d (by decide) ⟨x,H,I1,ru,⟨rfl,fun ys hy=>by rw [I.list_inj hy hq];exact hx⟩,st',fun b hb=>(hf b hb).1⟩⟩
 done:=by
  intro X hP hw hK hc i pins s σ H E I hf st hg
  subst hP hw hK
  obtain ⟨xs,hq,hx⟩:=hg
  obtain ⟨its,rv,p,hz⟩:=I.list hq
  obtain ⟨f0,f1,f2,f3,f4,f5⟩:=hf it (by simp)
  have hl:=rv.length
  exact wpAny_pyNext_list_end (I.ok.hd hc) st p.isList (by simp;omega) fun h' eb=>⟨rfl,I.turned (t':=s.toks) (fun b o hb e=>eb b o hb e) f0 f1 f3 f4 f5⟩
 self:=fun _ _ _ _ _ st h=>wpAny_pyIter_listiter st h
theorem turn_tuple {P:Program} {w:World} {K:PySem.W.Frag} {tg:Expr} (a it:Addr):Turn P w K tg (Itt K a) [it] it (fun i h=>h.IsTupleIter it a i) where
 mem:=by simp
 obj:=fun i h st b hb=>by
  have e:b=it:=by simpa using hb
  subst e
  obtain ⟨o,e,c,d⟩:=st
  exact ⟨o,e,fun v z=>by rw [d] at z;cases z⟩
 keep:=fun i h h' st k=>st.at fun o e=>k it (by simp) o e
 item:=by
  intro X hP hw hK hc i pins s σ H E I hf st hg
  subst hP hw hK
  obtain ⟨xs,x,hq,hx⟩:=hg
  obtain ⟨its,rv,p,hz⟩:=I.tuple hq
  obtain ⟨u,hu,ru⟩:=rv.get hx
  obtain ⟨f0,f1,f2,f3,f4,f5⟩:=hf it (by simp)
  refine wpAny_pyNext_tuple_item st (show s.heap.IsTuple a its.toArray from p) (x:=u) (by simpa using hu) fun h' st' sb=>?_
  have I1:Inv X pins σ H { s with heap:=h' }:=I.turned (t':=s.toks) (fun b o hb e=>(sb.2 b hb).trans e) f0 f1 f3 f4 f5
  obtain ⟨o,e,c,d⟩:=id st'
  exact ⟨u,rfl,go_of (s:={ s with heap:=h' }) e c d (by decide) ⟨x,H,I1,ru,⟨rfl,fun ys hy=>by rw [I.tuple_inj hy hq];exact hx⟩,st',fun b hb=>(hf b hb).1⟩⟩
 done:=by
  intro X hP hw hK hc i pins s σ H E I hf st hg
  subst hP hw hK
  obtain ⟨xs,hq,hx⟩:=hg
  obtain ⟨its,rv,p,hz⟩:=I.tuple hq
  obtain ⟨f0,f1,f2,f3,f4,f5⟩:=hf it (by simp)
  have hl:=rv.length
  exact wpAny_pyNext_tuple_end (I.ok.hd hc) st (show s.heap.IsTuple a its.toArray from p) (by simp;omega) fun h' eb=>⟨rfl,I.turned (t':=s.toks) (fun b o hb e=>eb b o hb e) f0 f1 f3 f4 f5⟩
 self:=fun _ _ _ _ _ st h=>wpAny_pyIter_tupleiter st h
theorem turn_range {P:Program} {w:World} {K:PySem.W.Frag} {tg:Expr} (it:Addr) (lo:Int) (n:Nat):Turn P w K tg (Itr lo n) [it] it (fun i h=>IsRangeIter h it (lo+(i:Nat)*1) ((n:Int)-(i:Nat)) 1) where
 mem:=by simp
 obj:=fun i h st b hb=>by
  have e:b=it:=by simpa using hb
  subst e
  exact ⟨_,st,fun v z=>by
   have z':Data.fields _=Data.cell v:=z
   cases z'⟩
 keep:=fun i h h' st k=>k it (by simp) _ st
 item:=by
  intro X hP hw hK hc i pins s σ H E I hf st hg
  subst hP hw hK
  obtain ⟨f0,f1,f2,f3,f4,f5⟩:=hf it (by simp)
  have W:=Walks.range (prog:=X.prog) (w:=X.w) (I.ok.hd hc) it lo 1 n
  refine W.item i s _ _ hg st fun v h' tk hv st' kk=>?_
  obtain ⟨t,rfl⟩:=hv
  have I1:Inv X pins σ H { s with heap:=h',toks:=tk }:=I.turned (fun b o hb e=>kk b o (by simpa using hb) e) f0 f1 f3 f4 f5
  refine ⟨_,rfl,go_of (s:={ s with heap:=h',toks:=tk }) (n:="range_iterator") st' rfl rfl (by decide) ⟨.int (lo+i),H,I1,⟨t,?_⟩,⟨rfl,rfl⟩,st',fun b hb=>(hf b hb).1⟩⟩
  rw [Int.mul_one]
 done:=by
  intro X hP hw hK hc i pins s σ H E I hf st hg
  subst hP hw hK
  obtain ⟨f0,f1,f2,f3,f4,f5⟩:=hf it (by simp)
  exact wpAny_pyNext_range_end (I.ok.hd hc) st (by have:n≤i:=hg;omega) fun h' eb=>⟨rfl,I.turned (t':=s.toks) (fun b o hb e=>eb b o hb e) f0 f1 f3 f4 f5⟩
 self:=fun _ _ _ _ _ st h=>wpAny_pyIter_rangeiter st h
end L2
namespace L2
open PySem PySem.Spec PyProof.Rows
section
variable {X:Cx} {tg:Expr}
theorem range_it {pins:List (Addr × Obj)} {σ:St} {H:Hp} {s:Shared} {R:It→Hp→Prop} {E:Value→Shared→Prop} {lo hi:Int} {t u v:Tok} {tk:Nat} (I:Inv X pins σ H s) (h1:-(2 ^ 62)≤lo) (h2:lo<2 ^ 62) (h3:-(2 ^ 62)≤hi) (h4:hi<2 ^ 62)
  (q:R (Itr lo (hi-lo).toNat) H):wpAny (model X.prog X.w) X.A (pyIter (.ref s.heap.objs.size)) (PIE X pins σ tg R) E { s with heap:=s.heap.push { cls:=.type "range",data:=.fields #[.int lo t,.int hi u,.int 1 v] },toks:=tk }:=by
 refine wpAny_pyIter_range (IsRange.new ..) (small_one h1 h2 h3 h4) ?_
 have I1:Inv X pins σ H { s with heap:=s.heap.push { cls:=.type "range",data:=.fields #[.int lo t,.int hi u,.int 1 v] },toks:=tk }:=I.kept fun b o e=>Heap.get?_push_of_some _ e
 refine ⟨(s.heap.push { cls:=.type "range",data:=.fields #[.int lo t,.int hi u,.int 1 v] }).objs.size,[(s.heap.push { cls:=.type "range",data:=.fields #[.int lo t,.int hi u,.int 1 v] }).objs.size],_,_,H,rfl,
  I1.kept (t':=tk) fun b o e=>Heap.get?_push_of_some _ e,turn_range _ lo (hi-lo).toNat,?_,fun b hb=>?_,q⟩
 ·have e1:lo+((0:Nat):Int)*1=lo:=by simp
  have e2:(((hi-lo).toNat:Nat):Int)-((0:Nat):Int)=Builtin.Range.rangeSize lo hi 1:=by rw [rangeSize_one];split <;> omega
  show IsRangeIter _ _ (lo+((0:Nat):Int)*1) ((((hi-lo).toNat:Nat):Int)-((0:Nat):Int)) 1
  rw [e1,e2]
  exact Heap.get?_push_size _ rfl
 ·have e:b=(s.heap.push { cls:=.type "range",data:=.fields #[.int lo t,.int hi u,.int 1 v] }).objs.size:=by simpa using hb
  subst e
  exact I1.fpOk (Nat.le_refl _) (I1.hok.fresh (Nat.le_refl _))
noncomputable def iRng1 (ta:TA):TI:=fun σ H R=>ta σ H fun vs H1=>∃j:Int,vs=[.int j]∧-(2 ^ 62)≤j∧j<2 ^ 62∧R (Itr 0 j.toNat) H1
noncomputable def iRng2 (ta:TA):TI:=fun σ H R=>ta σ H fun vs H1=>∃i j:Int,vs=[.int i,.int j]∧(-(2 ^ 62)≤i∧i<2 ^ 62∧-(2 ^ 62)≤j∧j<2 ^ 62)∧R (Itr i (j-i).toNat) H1
theorem pi_range1 {a:Expr} {ta:TA} {p pos:Pos} (hg:Gl X "range") (hm:X.mg "range"=none) (ha:PA X [a] ta) (hs:starEach [a] X.env=[(false,eval a X.env)]:=by rfl):PI X tg (.Call (.Name "range" p) [a] [] pos) (iRng1 ta):=by
 intro pins s σ H R I h
 refine Call_ (ld_blt I hg hm boot_range (PyProof.Rows.callWith_type1 (thn (ha pos pins s σ H _ I h) fun us s1 ⟨vs,H1,I1,r1,q1⟩=>?_) hs rfl))
 obtain ⟨j,e,q1,q2,q⟩:=q1
 subst e
 cases r1 with
 | cons r rr =>
  cases rr
  obtain ⟨t,rfl⟩:=r
  exact call_range_1 (range_it I1 (by omega) (by omega) q1 q2 (by simpa using q))
theorem pi_range2 {a b:Expr} {ta:TA} {p pos:Pos} (hg:Gl X "range") (hm:X.mg "range"=none) (ha:PA X [a,b] ta) (hs:starEach [a,b] X.env=[(false,eval a X.env),(false,eval b X.env)]:=by rfl) (hs2:starEach [b] X.env=[(false,eval b X.env)]:=by rfl) :
  PI X tg (.Call (.Name "range" p) [a,b] [] pos) (iRng2 ta):=by
 intro pins s σ H R I h
 refine Call_ (ld_blt I hg hm boot_range (PyProof.Rows.callWith_type1 (thn (ha pos pins s σ H _ I h) fun us s1 ⟨vs,H1,I1,r1,q1⟩=>?_) (by rw [hs,hs2]) (by rw [hs2];rfl)))
 obtain ⟨i,j,e,⟨q1,q2,q3,q4⟩,q⟩:=q1
 subst e
 cases r1 with
 | cons r rr =>
  cases rr with
  | cons r' rr =>
   cases rr
   obtain ⟨t,rfl⟩:=r
   obtain ⟨t',rfl⟩:=r'
   exact call_range_2 (range_it I1 q1 q2 q3 q4 q)
noncomputable def tFor (wi:TI) (g:TG) (tb:TS):TS:=fun D σ H=>wi σ H fun J H1=>∃W:Nat→Nat→St→Hp→Prop,(∃m,W 0 m σ H1)∧∀i m σ H,W i m σ H →
 (J.stop i H∧D.nx σ H)∨(J.go i H∧∃N:St→Hp→Prop,(∀σ' H',N σ' H'→∃m',m'<m∧W (i+1) m' σ' H')∧∀x H',J.yld i H x H'→g x σ H' fun σ2 H2=>tb { D with nx:=N,ct:=N,bk:=D.nx } σ2 H2)
noncomputable def pinsAt (fp:List Addr) (h:Heap):List (Addr × Obj):=fp.filterMap fun b=>(h.get? b).map fun o=>(b,o)
theorem mem_pinsAt {fp:List Addr} {h:Heap} {b:Addr} {o:Obj} (hb:b∈fp) (e:h.get? b=some o):(b,o)∈pinsAt fp h:=List.mem_filterMap.mpr ⟨b,hb,by rw [e];rfl⟩
theorem of_pinsAt {fp:List Addr} {h:Heap} {p:Addr × Obj} (hp:p∈pinsAt fp h):p.1∈fp∧h.get? p.1=some p.2:=by
 obtain ⟨b,hb,e⟩:=List.mem_filterMap.mp hp
 cases q:h.get? b with
 | none=>rw [q] at e;cases e
 | some o =>
  rw [q] at e
  have e':(b,o)=p:=Option.some.inj e
  subst e'
  exact ⟨hb,q⟩
theorem Inv.pinned {pins:List (Addr × Obj)} {σ:St} {H:Hp} {s:Shared} {fp:List Addr} (I:Inv X pins σ H s) (hf:∀b∈fp,FpOk X pins H b) (ho:∀b∈fp,∃o,s.heap.get? b=some o∧∀v,o.data≠.cell v):Inv X (pins++pinsAt fp s.heap) σ H s :=
 I.pins_of fun p hp=>(List.mem_append.mp hp).elim (fun z=>I.pin p (List.mem_append_right _ z)) fun z=>by
  obtain ⟨hb,e⟩:=of_pinsAt z
  obtain ⟨f0,f1,f2,_⟩:=hf p.1 hb
  obtain ⟨o,e',d⟩:=ho p.1 hb
  rw [e] at e';cases e'
  exact ⟨e,f0,f1,f2,d⟩
theorem Inv.unpinned {pins pl:List (Addr × Obj)} {σ:St} {H:Hp} {s:Shared} (I:Inv X (pins++pl) σ H s):Inv X pins σ H s:=I.pins_of fun p hp=>I.pin p (List.mem_append_right _ (List.mem_append_left _ hp))
theorem ps_for {iter:Expr} {body:List Stmt} {wi:TI} {g:TG} {tb:TS} {pos:Pos} (hp:PassesOwn (model X.prog X.w) X.A X.env X.xe) (hc:X.calm=true) (hi:PI X tg iter wi) (hg:PG X tg g) (hb:PSs X body tb)
  (hs:∀x,foldedSetIterable iter X.env x=pure x:=by intro _;rfl):PS X (.For tg iter body [] pos) (tFor wi g tb):=by
 intro pins s σ H D I h
 refine wpAny_For (thn (hi pins s σ H _ I h) fun v s1 h1=>thn h1 fun itv s2 h2=>?_) hs
 obtain ⟨it,fp,tn,J,H2,e,I2,T,st2,f2,W,⟨m0,w0⟩,turn⟩:=h2
 subst e
 have stat:∀ {H':Hp},(∀b∈fp,H' b=none)→∀b∈fp,FpOk X pins H' b:=fun hn b hb=>⟨hn b hb,(f2 b hb).2⟩
 refine codeAny_forLoop_any (fun n s'=>∃i σ' H',Inv X pins σ' H' s'∧tn i s'.heap∧(∀b∈fp,H' b=none)∧W i n σ' H') ?_ m0 ⟨0,σ,H2,I2,st2,fun b hb=>(f2 b hb).1,w0⟩
 rintro n s3 ⟨i,σ3,H3,I3,st3,fr3,w3⟩
 rcases turn i n σ3 H3 w3 with ⟨stop,qn⟩|⟨go,N,hN,step⟩
 ·refine wpAny_passesOwn hp (thn (T.done X rfl rfl rfl hc i pins s3 σ3 H3 X.xe I3 (stat fr3) st3 stop) fun r s4 ⟨hr,I4⟩=>?_)
  subst hr
  exact wpAny_execs_nil ⟨σ3,H3,I4,qn⟩
 ·refine wpAny_passesOwn hp (thn (T.item X rfl rfl rfl hc i pins s3 σ3 H3 X.xe I3 (stat fr3) st3 go) fun r s4 ⟨u,hr,h4⟩=>?_)
  subst hr
  refine wpAny_passesOwn hp (thn h4 fun _ s5 ⟨x,H5,I5,r5,y5,st5,fr5⟩=>?_)
  have I5':=I5.pinned (stat fr5) (T.obj _ _ st5)
  refine wpAny_passesOwn hp (thn (hg _ s5 σ3 H5 x u _ I5' r5 (step x H5 y5)) fun _ s6 ⟨σ6,H6,I6,q6⟩=>?_)
  refine wpAny_passesOwn hp (thn (hb _ s6 σ6 H6 _ I6 q6) fun f s7 q7=>?_)
  have again:∀ {σ7:St} {H7:Hp},Inv X (pins++pinsAt fp s5.heap) σ7 H7 s7→N σ7 H7→∃m,m<n∧∃i σ' H',Inv X pins σ' H' s7∧tn i s7.heap∧(∀b∈fp,H' b=none)∧W i m σ' H':=fun {σ7 H7} I7 n7=>by
   obtain ⟨m',hm,w7⟩:=hN σ7 H7 n7
   refine ⟨m',hm,i+1,σ7,H7,I7.unpinned,T.keep _ _ _ st5 fun b hb o e=>(I7.pin (b,o) (List.mem_append_right _ (List.mem_append_right _ (mem_pinsAt hb e)))).1,fun b hb=>?_,w7⟩
   obtain ⟨o,e,d⟩:=T.obj _ _ st5 b hb
   exact (I7.pin (b,o) (List.mem_append_right _ (List.mem_append_right _ (mem_pinsAt hb e)))).2.1
  cases f with
  | next=>obtain ⟨σ7,H7,I7,n7⟩:=q7;exact again I7 n7
  | cont=>obtain ⟨σ7,H7,I7,n7⟩:=q7;exact again I7 n7
  | brk=>obtain ⟨σ7,H7,I7,q7⟩:=q7;exact ⟨σ7,H7,I7.unpinned,q7⟩
  | ret v=>obtain ⟨x7,σ7,H7,I7,r7,q7⟩:=q7;exact ⟨x7,σ7,H7,I7.unpinned,r7,q7⟩
end
end L2
namespace L2
open PySem PySem.Spec PyProof.Rows
noncomputable abbrev R2:=V→V→Hp→VK→Prop
noncomputable def OpR (X:Cx) (f:Value→Value→Sem Value) (r:R2):Prop :=
 ∀(pins:List (Addr × Obj)) (s:Shared) (σ:St) (H:Hp) (x y:V) (v u:Value) (Q:VK),Inv X pins σ H s→RelV x v→RelV y u→r x y H Q →
  wpAny (model X.prog X.w) X.A (f v u) (EP X pins σ Q) X.xe s
noncomputable def UnR (X:Cx) (f:Value→Sem Value) (r:V→Hp→VK→Prop):Prop :=
 ∀(pins:List (Addr × Obj)) (s:Shared) (σ:St) (H:Hp) (x:V) (v:Value) (Q:VK),Inv X pins σ H s→RelV x v→r x H Q →
  wpAny (model X.prog X.w) X.A (f v) (EP X pins σ Q) X.xe s
noncomputable def CallR (X:Cx) (f:Value) (r:List V→Hp→VK→Prop):Prop :=
 ∀(pins:List (Addr × Obj)) (s:Shared) (σ:St) (H:Hp) (xs:List V) (us:List Value) (Q:VK),Inv X pins σ H s→Vals xs us→r xs H Q →
  wpAny (model X.prog X.w) X.A (call f us) (EP X pins σ Q) X.xe s
noncomputable def TruR (X:Cx) (r:V→Hp→(Bool→Hp→Prop)→Prop):Prop :=
 ∀(pins:List (Addr × Obj)) (s:Shared) (σ:St) (H:Hp) (x:V) (v:Value) (Q:Bool→Hp→Prop),Inv X pins σ H s→RelV x v→r x H Q →
  wpAny (model X.prog X.w) X.A (truthy v) (TP X pins σ Q) X.xe s
noncomputable def tOp (r:R2) (ta tb:TE):TE:=fun σ H Q=>ta σ H fun x H1=>tb σ H1 fun y H2=>r x y H2 Q
noncomputable def tUn (r:V→Hp→VK→Prop) (ta:TE):TE:=fun σ H Q=>ta σ H fun x H1=>r x H1 Q
noncomputable def rI (C:Int→Int→Prop) (g:Int→Int→V):R2:=fun x y H Q=>∃i j,x=.int i∧y=.int j∧C i j∧Q (g i j) H
noncomputable def rI0 (g:Int→Int→V):R2:=fun x y H Q=>∃i j,x=.int i∧y=.int j∧Q (g i j) H
noncomputable def rU (g:Int→V):V→Hp→VK→Prop:=fun x H Q=>∃i,x=.int i∧Q (g i) H
section
variable {X:Cx} {a b c:Expr} {ta tb tc:TE} {pos:Pos}
theorem binT (ha:PE X a ta) (hb:PE X b tb) {pins:List (Addr × Obj)} {s:Shared} {σ:St} {H:Hp} {R:V→V→Hp→Prop} (I:Inv X pins σ H s)
  (h:ta σ H fun x H1=>tb σ H1 fun y H2=>R x y H2) {Q:Value→Shared→Prop} {f:Value→Value→Sem Value}
  (hf:∀v u s2 x y H2,Inv X pins σ H2 s2→RelV x v→RelV y u→R x y H2→wpAny (model X.prog X.w) X.A (f v u) Q X.xe s2) :
  wpAny (model X.prog X.w) X.A (eval a X.env) (fun v s₁=>wpAny (model X.prog X.w) X.A (eval b X.env) (fun u s₂=>wpAny (model X.prog X.w) X.A (f v u) Q X.xe s₂) X.xe s₁) X.xe s:=by
 refine thn (ha pins s σ H _ I h) fun v s1 ⟨x,H1,I1,r1,q1⟩=>?_
 refine thn (hb pins s1 σ H1 _ I1 q1) fun u s2 ⟨y,H2,I2,r2,q2⟩=>?_
 exact hf v u s2 x y H2 I2 r1 r2 q2
theorem pe_op {op:Operator} {r:R2} (ho:OpR X (binaryOp op) r) (ha:PE X a ta) (hb:PE X b tb):PE X (.BinOp a op b pos) (tOp r ta tb):=by
 intro pins s σ H Q I h
 exact wpAny_BinOp (binT ha hb I h fun v u s2 x y H2 I2 rx ry q=>ho pins s2 σ H2 x y v u Q I2 rx ry q)
theorem pe_un {op:UnaryOp} {r:V→Hp→VK→Prop} (ho:UnR X (unaryOp op) r) (ha:PE X a ta):PE X (.UnaryOp op a pos) (tUn r ta):=by
 intro pins s σ H Q I h
 exact UnaryOp_ (thn (ha pins s σ H _ I h) fun v s1 ⟨x,H1,I1,r1,q1⟩=>ho pins s1 σ H1 x v Q I1 r1 q1)
theorem opI {f:Value→Value→Sem Value} {C:Int→Int→Prop} {g:Int→Int→Int}
  (rule:∀(i j:Int) (t u:Tok) (s:Shared) (Q:Value→Shared→Prop) (E:Value→Shared→Prop),C i j→Q (.int (g i j) s.toks) { s with toks:=s.toks+1 }→wpAny (model X.prog X.w) X.A (f (.int i t) (.int j u)) Q E s) :
  OpR X f (rI C fun i j=>.int (g i j)):=by
 intro pins s σ H x y v u Q I rx ry h
 obtain ⟨i,j,rfl,rfl,hc,q⟩:=h
 obtain ⟨t,rfl⟩:=rx
 obtain ⟨t',rfl⟩:=ry
 exact rule i j t t' s _ _ hc ⟨.int (g i j),H,I.tok _,⟨_,rfl⟩,q⟩
theorem opI0 {f:Value→Value→Sem Value} {g:Int→Int→Int}
  (rule:∀(i j:Int) (t u:Tok) (s:Shared) (Q:Value→Shared→Prop) (E:Value→Shared→Prop),Q (.int (g i j) s.toks) { s with toks:=s.toks+1 }→wpAny (model X.prog X.w) X.A (f (.int i t) (.int j u)) Q E s) :
  OpR X f (rI0 fun i j=>.int (g i j)):=by
 intro pins s σ H x y v u Q I rx ry h
 obtain ⟨i,j,rfl,rfl,q⟩:=h
 obtain ⟨t,rfl⟩:=rx
 obtain ⟨t',rfl⟩:=ry
 exact rule i j t t' s _ _ ⟨.int (g i j),H,I.tok _,⟨_,rfl⟩,q⟩
theorem opB0 {f:Value→Value→Sem Value} {g:Int→Int→Bool}
  (rule:∀(i j:Int) (t u:Tok) (s:Shared) (Q:Value→Shared→Prop) (E:Value→Shared→Prop),Q (.bool (g i j)) s→wpAny (model X.prog X.w) X.A (f (.int i t) (.int j u)) Q E s) :
  OpR X f (rI0 fun i j=>.bl (g i j)):=by
 intro pins s σ H x y v u Q I rx ry h
 obtain ⟨i,j,rfl,rfl,q⟩:=h
 obtain ⟨t,rfl⟩:=rx
 obtain ⟨t',rfl⟩:=ry
 exact rule i j t t' s _ _ ⟨.bl (g i j),H,I,rfl,q⟩
noncomputable def CPow (i j:Int):Prop:=0≤j∧j≤1000000∧i.natAbs<2 ^ 64
theorem op_add:OpR X (binaryOp .Add) (rI0 fun i j=>.int (i+j)):=opI0 fun _ _ _ _ _ _ _ q=>add_int q
theorem op_sub:OpR X (binaryOp .Sub) (rI0 fun i j=>.int (i-j)):=opI0 fun _ _ _ _ _ _ _ q=>sub_int q
theorem op_mod:OpR X (binaryOp .Mod) (rI (fun _ j=>0<j) fun i j=>.int (i % j)):=opI fun i j _ _ _ _ _ hc q=>by
 have h1:(0:Int)<j:=hc
 exact mod_int' (by omega) (by rw [Int.fmod_eq_emod_of_nonneg i (by omega)];exact q)
theorem op_pow:OpR X (binaryOp .Pow) (rI CPow fun i j=>.int (i ^ j.toNat)):=opI fun _ _ _ _ _ _ _ hc q=>pow_int_small hc.1 hc.2.1 hc.2.2 q
theorem unI {f:Value→Sem Value} {g:Int→Int}
  (rule:∀(i:Int) (t:Tok) (s:Shared) (Q:Value→Shared→Prop) (E:Value→Shared→Prop),Q (.int (g i) s.toks) { s with toks:=s.toks+1 }→wpAny (model X.prog X.w) X.A (f (.int i t)) Q E s) :
  UnR X f (rU fun i=>.int (g i)):=by
 intro pins s σ H x v Q I rx h
 obtain ⟨i,rfl,q⟩:=h
 obtain ⟨t,rfl⟩:=rx
 exact rule i t s _ _ ⟨.int (g i),H,I.tok _,⟨_,rfl⟩,q⟩
theorem un_neg:UnR X (unaryOp .USub) (rU fun i=>.int (-i)):=unI fun _ _ _ _ _ q=>neg_int q
end
noncomputable def scal:V→V→Bool
 | .non,.non=>true | .non,.int _=>true | .int _,.non=>true | .non,.bl _=>true | .bl _,.non=>true | .non,.str _=>true | .str _,.non=>true
 | .int _,.int _=>true | .bl _,.bl _=>true | .str _,.str _=>true | .byt _,.byt _=>true
 | .int _,.str _=>true | .str _,.int _=>true | .bl _,.str _=>true | .str _,.bl _=>true
 | _,_=>false
noncomputable def rEq:R2:=fun x y H Q=>scal x y=true∧Q (.bl (decide (x=y))) H
noncomputable def rNe:R2:=fun x y H Q=>scal x y=true∧Q (.bl (!decide (x=y))) H
theorem dec_int {i j:Int}:decide (V.int i=V.int j)=(i == j):=by
 rw [Bool.eq_iff_iff]
 simp
theorem dec_bl {i j:Bool}:decide (V.bl i=V.bl j)=(i == j):=by
 rw [Bool.eq_iff_iff]
 simp
theorem dec_str {i j:Str}:decide (V.str i=V.str j)=(i == j):=by
 rw [Bool.eq_iff_iff]
 simp
theorem dec_byt {i j:Array UInt8}:decide (V.byt i=V.byt j)=(i.toList == j.toList):=by
 rw [Bool.eq_iff_iff]
 cases i
 cases j
 simp
section
variable {X:Cx} {a b c:Expr} {ta tb tc:TE} {pos:Pos}
theorem fin_bl {pins:List (Addr × Obj)} {σ:St} {H:Hp} {s:Shared} {Q:VK} {k k':Bool} (I:Inv X pins σ H s) (q:Q (.bl k) H) (e:k=k'):EP X pins σ Q (.bool k') s:=by
 subst e
 exact ⟨.bl k,H,I,rfl,q⟩
theorem op_eq:OpR X (compareOp .Eq) rEq:=by
 intro pins s σ H x y v u Q I rx ry h
 obtain ⟨hs,q⟩:=h
 cases x with
 | non =>
  cases rx
  cases y with
  | non=>cases ry;exact PySem.EqNone.eq_none_none (fin_bl I q (by simp))
  | bl j=>cases ry;exact PySem.EqNone.eq_none_bool (fin_bl I q (by simp))
  | int j=>obtain ⟨t',rfl⟩:=ry;exact PySem.EqNone.eq_none_int (fin_bl I q (by simp))
  | str j=>obtain ⟨t',rfl⟩:=ry;exact PySem.EqNone.eq_none_str (fin_bl I q (by simp))
  | _=>exact absurd (show false=true from hs) Bool.false_ne_true
 | bl i =>
  cases rx
  cases y with
  | non=>cases ry;exact PySem.EqNone.eq_bool_none (fin_bl I q (by simp))
  | bl j=>cases ry;exact eq_bool (fin_bl I q dec_bl)
  | str j=>obtain ⟨t',rfl⟩:=ry;exact PySem.EqMixed.eq_bool_str (fin_bl I q (by simp))
  | _=>exact absurd (show false=true from hs) Bool.false_ne_true
 | int i =>
  obtain ⟨t,rfl⟩:=rx
  cases y with
  | non=>cases ry;exact PySem.EqNone.eq_int_none (fin_bl I q (by simp))
  | int j=>obtain ⟨t',rfl⟩:=ry;exact eq_int (fin_bl I q dec_int)
  | str j=>obtain ⟨t',rfl⟩:=ry;exact PySem.EqMixed.eq_int_str (fin_bl I q (by simp))
  | _=>exact absurd (show false=true from hs) Bool.false_ne_true
 | str i =>
  obtain ⟨t,rfl⟩:=rx
  cases y with
  | non=>cases ry;exact PySem.EqNone.eq_str_none (fin_bl I q (by simp))
  | bl j=>cases ry;exact PySem.EqMixed.eq_str_bool (fin_bl I q (by simp))
  | int j=>obtain ⟨t',rfl⟩:=ry;exact PySem.EqMixed.eq_str_int (fin_bl I q (by simp))
  | str j=>obtain ⟨t',rfl⟩:=ry;exact eq_str (fin_bl I q dec_str)
  | _=>exact absurd (show false=true from hs) Bool.false_ne_true
 | byt i =>
  obtain ⟨t,rfl⟩:=rx
  cases y with
  | byt j=>obtain ⟨t',rfl⟩:=ry;exact PySem.W.eq_bytes (fin_bl I q dec_byt)
  | _=>exact absurd (show false=true from hs) Bool.false_ne_true
 | _=>cases y <;> exact absurd (show false=true from hs) Bool.false_ne_true
theorem op_ne:OpR X (compareOp .NotEq) rNe:=by
 intro pins s σ H x y v u Q I rx ry h
 obtain ⟨hs,q⟩:=h
 cases x with
 | non =>
  cases rx
  cases y with
  | non=>cases ry;exact PySem.EqNone.ne_none_none (fin_bl I q (by simp))
  | bl j=>cases ry;exact PySem.EqNone.ne_none_bool (fin_bl I q (by simp))
  | int j=>obtain ⟨t',rfl⟩:=ry;exact PySem.EqNone.ne_none_int (fin_bl I q (by simp))
  | str j=>obtain ⟨t',rfl⟩:=ry;exact PySem.EqNone.ne_none_str (fin_bl I q (by simp))
  | _=>exact absurd (show false=true from hs) Bool.false_ne_true
 | bl i =>
  cases rx
  cases y with
  | non=>cases ry;exact PySem.EqNone.ne_bool_none (fin_bl I q (by simp))
  | bl j=>cases ry;exact ne_bool (fin_bl I q (congrArg not dec_bl))
  | str j=>obtain ⟨t',rfl⟩:=ry;exact PySem.EqMixed.ne_bool_str (fin_bl I q (by simp))
  | _=>exact absurd (show false=true from hs) Bool.false_ne_true
 | int i =>
  obtain ⟨t,rfl⟩:=rx
  cases y with
  | non=>cases ry;exact PySem.EqNone.ne_int_none (fin_bl I q (by simp))
  | int j=>obtain ⟨t',rfl⟩:=ry;exact ne_int (fin_bl I q (congrArg not dec_int))
  | str j=>obtain ⟨t',rfl⟩:=ry;exact PySem.EqMixed.ne_int_str (fin_bl I q (by simp))
  | _=>exact absurd (show false=true from hs) Bool.false_ne_true
 | str i =>
  obtain ⟨t,rfl⟩:=rx
  cases y with
  | non=>cases ry;exact PySem.EqNone.ne_str_none (fin_bl I q (by simp))
  | bl j=>cases ry;exact PySem.EqMixed.ne_str_bool (fin_bl I q (by simp))
  | int j=>obtain ⟨t',rfl⟩:=ry;exact PySem.EqMixed.ne_str_int (fin_bl I q (by simp))
  | str j=>obtain ⟨t',rfl⟩:=ry;exact ne_str (fin_bl I q (congrArg not dec_str))
  | _=>exact absurd (show false=true from hs) Bool.false_ne_true
 | byt i =>
  obtain ⟨t,rfl⟩:=rx
  cases y with
  | byt j=>obtain ⟨t',rfl⟩:=ry;exact PySem.W.ne_bytes (fin_bl I q (congrArg not dec_byt))
  | _=>exact absurd (show false=true from hs) Bool.false_ne_true
 | _=>cases y <;> exact absurd (show false=true from hs) Bool.false_ne_true
theorem op_lt:OpR X (compareOp .Lt) (rI0 fun i j=>.bl (decide (i<j))):=opB0 fun _ _ _ _ _ _ _ q=>lt_int q
theorem op_le:OpR X (compareOp .LtE) (rI0 fun i j=>.bl (decide (i≤j))):=opB0 fun _ _ _ _ _ _ _ q=>le_int q
theorem op_gt:OpR X (compareOp .Gt) (rI0 fun i j=>.bl (decide (j<i))):=opB0 fun _ _ _ _ _ _ _ q=>gt_int q
theorem op_ge:OpR X (compareOp .GtE) (rI0 fun i j=>.bl (decide (j≤i))):=opB0 fun _ _ _ _ _ _ _ q=>ge_int q
theorem op_in_str:OpR X (compareOp .In) (fun x y H Q=>∃i j,x=.str i∧y=.str j∧Q (.bl (!(Builtin.Str.occurrences j i 0 j.length 1).isEmpty)) H):=by
 intro pins s σ H x y v u Q I rx ry h
 obtain ⟨i,j,rfl,rfl,q⟩:=h
 obtain ⟨t,rfl⟩:=rx
 obtain ⟨t',rfl⟩:=ry
 exact in_str (fin_bl I q rfl)
theorem op_isN:OpR X (compareOp .Is) (fun x y H Q=>y=.non∧Q (.bl (decide (x=.non))) H):=by
 intro pins s σ H x y v u Q I rx ry h
 obtain ⟨rfl,q⟩:=h
 cases ry
 refine is_none_gen (fin_bl I q ?_)
 cases x <;> first
  | (cases rx;rfl)
  | (obtain ⟨t,rfl⟩:=rx;rfl)
theorem op_notN:OpR X (compareOp .IsNot) (fun x y H Q=>y=.non∧Q (.bl (!decide (x=.non))) H):=by
 intro pins s σ H x y v u Q I rx ry h
 obtain ⟨rfl,q⟩:=h
 cases ry
 refine isnot_none_gen (fin_bl I q ?_)
 cases x <;> first
  | (cases rx;rfl)
  | (obtain ⟨t,rfl⟩:=rx;rfl)
theorem pe_cmpR {op:CmpOp} {r:R2} (ho:OpR X (compareOp op) r) (ha:PE X a ta) (hb:PE X b tb) (hm:behindInMarks op b=false):PE X (.Compare a [op] [b] pos) (tOp r ta tb):=by
 intro pins s σ H Q I h
 exact wpAny_Compare1 (binT ha hb I h fun v u s2 x y H2 I2 rx ry q=>ho pins s2 σ H2 x y v u Q I2 rx ry q) hm
noncomputable def tTest (t:TE):TT:=fun σ H Q=>t σ H fun x H'=>∃k,x=.bl k∧Q k H'
theorem pt_cmpR {op:CmpOp} {r:R2} (ho:OpR X (compareOp op) r) (ha:PE X a ta) (hb:PE X b tb) (hm:behindInMarks op b=false):PT X (.Compare a [op] [b] pos) (tTest (tOp r ta tb)):=by
 intro pins s σ H Q I h
 refine wpAny_isTrue_Compare1 (thn (ha pins s σ H _ I h) fun v s1 ⟨x,H1,I1,r1,q1⟩=>thn (hb pins s1 σ H1 _ I1 q1) fun u s2 ⟨y,H2,I2,r2,q2⟩ =>
  thn (ho pins s2 σ H2 x y v u _ I2 r1 r2 q2) fun c s3 ⟨z,H3,I3,r3,k,e,q3⟩=>?_) hm
 subst e
 cases r3
 exact wpAny_truthy_bool ⟨H3,I3,q3⟩
noncomputable def TruV (K:PySem.W.Frag) (x:V) (H:Hp) (k:Bool):Prop :=
 match x with
 | .non=>k=false
 | .bl b=>k=b
 | .int i=>k=(i != 0)
 | .str y=>y.length≤sizeLine∧k=((y.length:Int) != 0)
 | .byt y=>y.size≤sizeLine∧k=((y.size:Int) != 0)
 | .ref p=>(∃xs,SqL K H p xs∧k=!xs.isEmpty)∨(∃xs,SqT K H p xs∧k=!xs.isEmpty)∨∃kvs,H p=some (.dK kvs)∧k=!kvs.isEmpty
 | _=>False
theorem isEmpty_kv {κ:Type} {kvs:List (κ × V)} {vs:List (κ × Value)} (r:KV kvs vs):(!vs.isEmpty)=!kvs.isEmpty:=by
 cases r <;> rfl
theorem isEmpty_of {xs:List V} {its:List Value} (r:Vals xs its):(!its.toArray.isEmpty)=!xs.isEmpty:=by
 cases r <;> simp
theorem line63:(sizeLine:Nat)<2 ^ 63:=by rw [sizeLine_eq];decide
theorem tru_ok:TruR X (fun x H Q=>∃k,TruV X.K x H k∧Q k H):=by
 intro pins s σ H x v Q I rx h
 obtain ⟨k,e,q⟩:=h
 have hl:=line63
 have hs:sizeLine=16777216:=sizeLine_eq
 cases x with
 | non =>
  cases rx
  have e':k=false:=e
  subst e'
  exact truthy_none ⟨H,I,q⟩
 | bl b =>
  cases rx
  have e':k=b:=e
  subst e'
  exact wpAny_truthy_bool ⟨H,I,q⟩
 | int i =>
  obtain ⟨t,rfl⟩:=rx
  have e':k=(i != 0):=e
  subst e'
  exact PySem.P.truthy_int ⟨H,I,q⟩
 | str y =>
  obtain ⟨t,rfl⟩:=rx
  obtain ⟨hy,e'⟩:y.length≤sizeLine∧k=((y.length:Int) != 0):=e
  subst e'
  exact PySem.P.truthy_str (by omega) ⟨H,I.tok _,q⟩
 | byt y =>
  obtain ⟨t,rfl⟩:=rx
  obtain ⟨hy,e'⟩:y.size≤sizeLine∧k=((y.size:Int) != 0):=e
  subst e'
  exact PySem.W.truthy_bytes (by omega) ⟨H,I.tok _,q⟩
 | ref p =>
  cases rx
  have e':(∃xs,SqL X.K H p xs∧k=!xs.isEmpty)∨(∃xs,SqT X.K H p xs∧k=!xs.isEmpty)∨∃kvs,H p=some (.dK kvs)∧k=!kvs.isEmpty:=e
  rcases e' with ⟨xs,hx,e'⟩|⟨xs,hx,e'⟩|⟨kvs,hx,e'⟩
  ·subst e'
   obtain ⟨its,r,pl,hz⟩:=I.list hx
   have hlen:=r.length
   exact wpAny_truthy_list pl.isList (by simp only [List.size_toArray];omega) ⟨H,I.tok _,by rw [isEmpty_of r];exact q⟩
  ·subst e'
   obtain ⟨its,r,pl,hz⟩:=I.tuple hx
   have hlen:=r.length
   exact truthy_tuple pl (by simp only [List.size_toArray];omega) ⟨H,I.tok _,by rw [isEmpty_of r];exact q⟩
  ·subst e'
   obtain ⟨hz,hS,vs,r,m⟩:kvs.length≤sizeLine∧(p == sysModules)=false∧∃vs,KV kvs vs∧s.heap.DictOf (mixKind X.prog X.w) p vs:=I.hok p _ hx
   have hlen:kvs.length=vs.length:=Paired.length r
   exact wpAny_truthy_dict hS m (by omega) ⟨H,I.tok _,by rw [isEmpty_kv r];exact q⟩
 | _=>exact (show False from e).elim
theorem pt_truth (ha:PE X a ta) (he:∀whole,isTrue a X.env whole=(do let v ←whole;standAt a.pos;holding [v] (truthy v))) :
  PT X a (fun σ H Q=>ta σ H fun x H'=>∃k,TruV X.K x H' k∧Q k H'):=by
 intro pins s σ H Q I h
 exact isTrue_plain (thn (ha pins s σ H _ I h) fun v s1 ⟨x,H1,I1,r1,q1⟩=>tru_ok pins s1 σ H1 x v Q I1 r1 q1) (he _)
theorem op_add_str:OpR X (binaryOp .Add) (fun x y H Q=>∃i j,x=.str i∧y=.str j∧i.length+j.length≤sizeLine∧Q (.str (i++j)) H):=by
 intro pins s σ H x y v u Q I rx ry h
 obtain ⟨i,j,rfl,rfl,hz,q⟩:=h
 obtain ⟨t,rfl⟩:=rx
 obtain ⟨t',rfl⟩:=ry
 exact add_str (fun t' tk=>⟨.str (i++j),H,I.tok _,⟨_,rfl⟩,q⟩) hz
theorem vals1 {x:V} {us:List Value} (r:Vals [x] us):∃u,us=[u]∧RelV x u:=by
 cases r with
 | cons r1 r2=>cases r2;exact ⟨_,rfl,r1⟩
theorem vals2 {x y:V} {us:List Value} (r:Vals [x,y] us):∃u w',us=[u,w']∧RelV x u∧RelV y w':=by
 cases r with
 | cons r1 r2 =>
  cases r2 with
  | cons r3 r4=>cases r4;exact ⟨_,_,rfl,r1,r3⟩
theorem call_abs:CallR X (.builtin "abs") (fun xs H Q=>∃i,xs=[.int i]∧Q (.int (if i<0 then -i else i)) H):=by
 intro pins s σ H xs us Q I r h
 obtain ⟨i,rfl,q⟩:=h
 obtain ⟨u,rfl,t,rfl⟩:=vals1 r
 exact call_abs_int fun u tk=>⟨.int (if i<0 then -i else i),H,I.tok _,⟨_,rfl⟩,q⟩
theorem call_max2 (hc:X.calm=true):CallR X (.builtin "max") (fun xs H Q=>∃i j,xs=[.int i,.int j]∧Q (.int (if j > i then j else i)) H):=by
 intro pins s σ H xs us Q I r h
 obtain ⟨i,j,rfl,q⟩:=h
 obtain ⟨u,w',rfl,⟨t,rfl⟩,⟨t',rfl⟩⟩:=vals2 r
 refine max_two_ints (I.ok.hd hc) fun h' tk k=>⟨_,H,I.kept k,?_,q⟩
 by_cases hj:j > i
 ·rw [if_pos hj,if_pos hj];exact ⟨_,rfl⟩
 ·rw [if_neg hj,if_neg hj];exact ⟨_,rfl⟩
theorem call_min2 (hc:X.calm=true):CallR X (.builtin "min") (fun xs H Q=>∃i j,xs=[.int i,.int j]∧Q (.int (if j<i then j else i)) H):=by
 intro pins s σ H xs us Q I r h
 obtain ⟨i,j,rfl,q⟩:=h
 obtain ⟨u,w',rfl,⟨t,rfl⟩,⟨t',rfl⟩⟩:=vals2 r
 refine min_two_ints (I.ok.hd hc) fun h' tk k=>⟨_,H,I.kept k,?_,q⟩
 by_cases hj:j<i
 ·rw [if_pos hj,if_pos hj];exact ⟨_,rfl⟩
 ·rw [if_neg hj,if_neg hj];exact ⟨_,rfl⟩
theorem call_int1:CallR X (.type "int") (fun xs H Q=>(∃i,xs=[.int i]∧Q (.int i) H)∨∃k,xs=[.bl k]∧Q (.int (if k then 1 else 0)) H):=by
 intro pins s σ H xs us Q I r h
 rcases h with ⟨i,rfl,q⟩|⟨k,rfl,q⟩
 ·obtain ⟨u,rfl,t,rfl⟩:=vals1 r
  exact call_int_int ⟨.int i,H,I,⟨_,rfl⟩,q⟩
 ·obtain ⟨u,rfl,r1⟩:=vals1 r
  cases r1
  exact call_int_bool ⟨.int (if k then 1 else 0),H,I.tok _,⟨_,rfl⟩,q⟩
end
end L2
namespace L2
open PySem PySem.Spec PyProof.Rows
structure ObjM (h:Heap) (x dx C:Addr) (mA:Str→Option Value):Prop where
 obj:h.get? x=some (PySem.W.instObj C dx)
 ns:h.Ns1 dx mA
 ne:dx≠x
theorem lookIn_ns {h:Heap} {dx:Addr} {mA:Str→Option Value} (n:h.Ns1 dx mA):∃od,h.get? dx=some od∧∀name,PySem.W.lookIn name od=some (mA name):=by
 obtain ⟨o,es,ep,ho,hd,hk,_,hm⟩:=n
 refine ⟨o,ho,fun name=>?_⟩
 have e:=hm name
 unfold nsFind findBy at e
 rw [←Array.find?_toList] at e
 unfold PySem.W.lookIn
 rw [hd]
 dsimp only
 split
 ·rename_i y q
  rw [q] at e
  exact congrArg some e
 ·rename_i q
  rw [q] at e
  have a:es.toList.any (·.refKey)=false:=by
   rw [List.any_eq_false]
   intro y hy
   obtain ⟨z,t,hkey⟩:=hk y (Array.mem_toList_iff.mp hy)
   simp [DictEntry.refKey,hkey]
  have a':¬es.toList.any (·.refKey)=true:=by rw [a];exact Bool.false_ne_true
  rw [if_neg a']
  exact congrArg some e
theorem ObjM.look {h:Heap} {x dx C:Addr} {mA:Str→Option Value} (I:ObjM h x dx C mA):∃od,PySem.W.InstAt h x (PySem.W.instObj C dx) C (some od)∧∀name,PySem.W.lookIn name od=some (mA name) :=
 let ⟨od,ho,hl⟩:=lookIn_ns I.ns
 ⟨od,⟨I.obj,rfl,rfl,ho⟩,hl⟩
section
variable {prog:Program} {w:World} {A:Around} {E:Value→Shared→Prop} {s:Shared} {K:PySem.W.Frag} {x dx C f:Addr} {mA:Str→Option Value} {name:Str} {v:Value}
end
section
variable {P:Program} {w:World} {H H':Hp} {h h':Heap} {a C dx:Addr} {fs fs':List (Str × V)}
theorem ins_get (hok:HOk P w H h) (e:H a=some (.ins C dx fs)):∃mA,ObjM h a dx C mA∧(∀f,RelO (fs.lookup f) (mA f))∧PySem.Within mA (fs.map (·.1))∧fs.length≤1000∧H dx=some (.own a):=by
 obtain ⟨d,z,ne,ob,mA,n,r,q⟩:=(show ObjOk P w H h a (.ins C dx fs) from hok a _ e)
 exact ⟨mA,⟨ob,n,ne⟩,r,q,z,d⟩
end
structure Cls (K:PySem.W.Frag) (C:Addr):Prop where
 pg:PySem.W.plainGet K C Str.empty=true
 hd:PySem.W.hasDictIn K C=true
 po:PySem.W.plainOver K C=true
 sa:PySem.W.findIn K (.ref C) "__setattr__"=some (some (.builtin "object.__setattr__"))
theorem Cls.get {K:PySem.W.Frag} {C:Addr} (c:Cls K C) (f:Str):PySem.W.plainGet K C f=true:=c.pg
structure Con (K:PySem.W.Frag) (C:Addr) (f:Str) (v:V) (u:Value):Prop where
 at_:PySem.W.findIn K (.ref C) f=some (some u)
 rel:RelV v u
 get:PySem.W.specialIn K u "__get__"=some none
 cp:PySem.W.copiedNames.contains f=false
structure Meth (K:PySem.W.Frag) (C:Addr) (m:Str) (f:Addr):Prop where
 at_:PySem.W.findIn K (.ref C) m=some (some (.ref f))
 fn:PySem.W.isFn K (.ref f)=true
 kp:PySem.W.keepIn K (.ref f)=true
section
variable {X:Cx} {pins:List (Addr × Obj)} {σ:St} {H:Hp} {s:Shared} {a C dx:Addr} {fs:List (Str × V)} {f:Str} {v:V} {A:Around} {E:Value→Shared→Prop}
end
section
variable {X:Cx} {o e value:Expr} {f:Str} {pos pos' tpos:Pos} {ta tv:TE}
end
section
variable {X:Cx} {pins:List (Addr × Obj)} {σ:St} {H:Hp} {s:Shared} {A:Around} {E:Value→Shared→Prop} {Q:Value→Shared→Prop} {c:Value} {b:Bool}
inductive TyOf (K:PySem.W.Frag) (H:Hp):V→Value→Prop where
 | non:TyOf K H .non (.type "NoneType")
 | bl (x:Bool):TyOf K H (.bl x) (.type "bool")
 | int (i:Int):TyOf K H (.int i) (.type "int")
 | str (x:Str):TyOf K H (.str x) (.type "str")
 | flt (x:UInt64):TyOf K H (.flt x) (.type "float")
 | lst {a:Addr} {xs:List V} (e:H a=some (.lst xs)):TyOf K H (.ref a) (.type "list")
 | frz {a:Addr} {o:Obj} {xs:List V} (e:H a=some (.frz o (.lst xs))):TyOf K H (.ref a) (.type "list")
 | tup {a:Addr} {xs:List V} (e:H a=some (.tup xs)):TyOf K H (.ref a) (.type "tuple")
 | dK {a:Addr} {kvs:List (Key × V)} (e:H a=some (.dK kvs)):TyOf K H (.ref a) (.type "dict")
 | dT {a:Addr} {kvs:List (List Key × V)} (e:H a=some (.dT kvs)):TyOf K H (.ref a) (.type "dict")
 | ins {a C dx:Addr} {fs:List (Str × V)} (e:H a=some (.ins C dx fs)) (cl:Cls K C) (ha:PySem.W.findIn K (.ref C) "__class__"=some (some (.builtin "object.__class__")))
   (hn:PySem.W.specialIn K (.builtin "object.__class__") "__get__"=some (some (.builtin "getset_descriptor.__get__"))) (htk:PySem.W.takesIn K (.builtin "object.__class__")=some true)
   (hm:PySem.W.mroIn K C (.type "object")=some true):TyOf K H (.ref a) (.ref C)
theorem isinst_ok {x:V} {u t:Value} (I:Inv X pins σ H s) (rx:RelV x u) (ty:TyOf X.K H x t) (e:PySem.W.kitOne X.K t c=some b) (h:∀tk,Q (.bool b) { s with toks:=tk }) :
  wpAny (model X.prog X.w) A (call (.builtin "isinstance") [u,c]) Q E s:=by
 cases ty with
 | non=>cases (show u=Value.none from rx);exact PySem.W.kia_one PySem.W.kitx_none I.kIn True.intro e (fun z=>nomatch z) h
 | bl y=>cases (show u=Value.bool y from rx);exact PySem.W.kia_one PySem.W.kitx_bool I.kIn True.intro e (fun z=>nomatch z) h
 | int i=>obtain ⟨t,q⟩:=(show ∃t,u=Value.int i t from rx);cases q;exact PySem.W.kia_one PySem.W.kitx_int I.kIn True.intro e (fun z=>nomatch z) h
 | str y=>obtain ⟨t,q⟩:=(show ∃t,u=Value.str y t from rx);cases q;exact PySem.W.kia_one PySem.W.kitx_str I.kIn True.intro e (fun z=>nomatch z) h
 | flt y=>obtain ⟨t,q⟩:=(show ∃t,u=Value.float y t from rx);cases q;exact PySem.W.kia_one PySem.W.kitx_float I.kIn True.intro e (fun z=>nomatch z) h
 | @lst a xs ea =>
  cases (show u=Value.ref a from rx)
  obtain ⟨_,_,n,_,h1⟩:=(show ObjOk X.prog X.w H s.heap a (.lst xs) from I.hok a _ ea)
  exact PySem.W.kia_one PySem.W.kitx_list I.kIn ⟨_,h1,rfl⟩ e (fun z=>nomatch z) h
 | @frz a ob xs ea =>
  cases (show u=Value.ref a from rx)
  obtain ⟨_,_,_,n,_,h1⟩:=(show ObjOk X.prog X.w H s.heap a (.frz ob (.lst xs)) from I.hok a _ ea)
  exact PySem.W.kia_one PySem.W.kitx_list I.kIn ⟨_,h1,rfl⟩ e (fun z=>nomatch z) h
 | @tup a xs ea =>
  cases (show u=Value.ref a from rx)
  obtain ⟨_,_,_,p⟩:=(show ObjOk X.prog X.w H s.heap a (.tup xs) from I.hok a _ ea)
  obtain ⟨o,h1,h2,_⟩:=p
  exact PySem.W.kia_one PySem.W.kitx_tuple I.kIn ⟨o,h1,h2⟩ e (fun z=>nomatch z) h
 | @dK a kvs ea =>
  cases (show u=Value.ref a from rx)
  obtain ⟨_,_,vs,_,p⟩:=(show ObjOk X.prog X.w H s.heap a (.dK kvs) from I.hok a _ ea)
  obtain ⟨o,es,ep,h1,h2,_⟩:=p
  exact PySem.W.kia_one PySem.W.kitx_dict I.kIn ⟨o,h1,h2.1⟩ e (fun z=>nomatch z) h
 | @dT a kvs ea =>
  cases (show u=Value.ref a from rx)
  obtain ⟨_,_,xs,_,o,es,ep,h1,h2,_⟩:=(show ObjOk X.prog X.w H s.heap a (.dT kvs) from I.hok a _ ea)
  exact PySem.W.kia_one PySem.W.kitx_dict I.kIn ⟨o,h1,h2.1⟩ e (fun z=>nomatch z) h
 | @ins a C dx fs ea cl ha hn htk hm =>
  cases (show u=Value.ref a from rx)
  obtain ⟨mA,O,_⟩:=ins_get I.hok ea
  obtain ⟨od,J,_⟩:=O.look
  exact PySem.W.kia_one (PySem.W.kitx_own (cl.get _) cl.hd ha hn htk hm) I.kIn J e (fun z=>nomatch z) h
end
end L2
namespace L2
open PySem PySem.Spec PyProof.Rows
structure Room (k:Nat) (A:Around):Prop where
 hd:A.handled=none
 dp:A.depth+3*k+5<recursionLimit
 un:A.units+16*k+200<cLine
 gd:A.guards=some []
theorem Room.mono {j k:Nat} {A:Around} (r:Room k A) (h:j≤k):Room j A:=⟨r.hd,by have:=r.dp;omega,by have:=r.un;omega,r.gd⟩
theorem Room.deeper {k:Nat} {A:Around} (r:Room (k+1) A) (env:Env):Room k (A.deeper env) :=
 ⟨r.hd,by have:=r.dp;show A.depth+1+3*k+5<_;omega,by have:=r.un;show A.units+3+16*k+200<_;omega,r.gd⟩
theorem Room.depth {k:Nat} {A:Around} (r:Room k A):A.depth<recursionLimit:=by have:=r.dp;omega
theorem Room.units {k:Nat} {A:Around} (r:Room k A):A.units+64<cLine:=by have:=r.un;omega
noncomputable def tNil:TA:=fun _ H Q=>Q [] H
noncomputable def tCons (ta:TE) (tr:TA):TA:=fun σ H Q=>ta σ H fun x H1=>tr σ H1 fun xs H2=>Q (x::xs) H2
section
variable {X:Cx} {e:Expr} {es:List Expr} {te:TE} {t:TA} {pos:Pos}
theorem pa_nil:PA X [] tNil:=fun _ _ _ _ H Q I h=>Calls.spliced_nil ⟨[],H,I,.nil,h⟩
theorem pa_cons (ha:PE X e te) (hr:PA X es t) (hs:starEach (e::es) X.env=(false,eval e X.env)::starEach es X.env:=by rfl):PA X (e::es) (tCons te t):=by
 intro pos pins s σ H Q I h
 rw [hs]
 show wpAny _ _ (spliced ((false,eval e X.env)::backTo pos (starEach es X.env))) _ _ s
 refine Calls.spliced_cons (thn (ha pins s σ H _ I h) fun u s1 ⟨x,H1,I1,r1,q1⟩=>?_)
 exact thn (hr pos pins s1 σ H1 _ I1 q1) fun us s2 ⟨xs,H2,I2,r2,q2⟩=>⟨x::xs,H2,I2,.cons r1 r2,q2⟩
noncomputable def tTup (t:TA):TE:=fun σ H Q=>t σ H fun xs H1=>xs.length≤sizeLine∧∀p,H1 p=none→Q (.ref p) (upd H1 p (.tup xs))
noncomputable def tLst (t:TA):TE:=fun σ H Q=>t σ H fun xs H1=>xs.length≤sizeLine∧∀p,H1 p=none→Q (.ref p) (upd H1 p (.lst xs))
theorem pe_tup {x1} (h:PA X es t):PE X (.Tuple es x1 pos) (tTup t):=by
 intro pins s σ H Q I hq
 refine wpAny_Tuple_spliced (thn (h pos pins s σ H _ I hq) fun us s1 ⟨xs,H1,I1,r,z,q⟩=>⟨by rw [←r.length];exact z,?_⟩)
 have hf:H1 s1.heap.objs.size=none:=I1.hok.fresh (Nat.le_refl _)
 refine ⟨.ref s1.heap.objs.size,upd H1 s1.heap.objs.size (.tup xs),I1.laid (t':=s1.toks) (fun b u e=>Heap.get?_push_of_some _ e) (Nat.le_refl _) ?_,rfl,q _ hf⟩
 exact ⟨z,us,r,⟨_,Heap.get?_push_size _ rfl,rfl,_,rfl⟩⟩
theorem pe_lst (h:PA X es t):PE X (.List es pos) (tLst t):=by
 intro pins s σ H Q I hq
 refine wpAny_List_spliced (thn (h pos pins s σ H _ I hq) fun us s1 ⟨xs,H1,I1,r,z,q⟩=>⟨by rw [←r.length];exact z,?_⟩)
 have hf:H1 s1.heap.objs.size=none:=I1.hok.fresh (Nat.le_refl _)
 refine ⟨.ref s1.heap.objs.size,upd H1 s1.heap.objs.size (.lst xs),I1.laid (t':=s1.toks) (fun b u e=>Heap.get?_push_of_some _ e) (Nat.le_refl _) ?_,rfl,q _ hf⟩
 exact ⟨z,us,0,r,Heap.get?_push_size _ rfl⟩
end
noncomputable abbrev Sp:=List V→Hp→VK→XK→Prop
noncomputable abbrev CXT:=List Env→Hp→Shared→XK→Value→Shared→Prop
structure Env0 (P:Program) (w:World) (K:PySem.W.Frag) (mg:Str→Option Value) (base:Heap) (A:Around) (outer:List Env) (s:Shared) (H:Hp):Prop where
 frames:A.frames=some outer
 mod:Mod K mg base
 bs:∀b o,base.get? b=some o→s.heap.get? b=some o∧H b=none
 bsz:base.objs.size≤s.heap.objs.size
 funs:s.heap.FunFrames base outer
 frf:∀b∈frs outer,H b=none
 hok:HOk P w H s.heap
 bare:AllBare s.gens
noncomputable def CE (outer:List Env) (P:Program) (w:World) (H:Hp) (s:Shared) (Q:VK) (u:Value) (s':Shared):Prop :=
 ∃v H',s'.os=s.os∧AllBare s'.gens∧Un (frs outer) [] H H' s.heap s'.heap∧HOk P w H' s'.heap∧RelV v u∧Q v H'
noncomputable def CR (CX:CXT) (outer:List Env) (P:Program) (w:World) (H:Hp) (s:Shared) (Q:VK) (E:XK) (r:Result) (s':Shared):Prop :=
 match r with
 | .ok (.ret u)=>CE outer P w H s Q u s'
 | .ok _=>False
 | .error e=>CX outer H s E e s'
structure FnOk (P:Program) (w:World) (K:PySem.W.Frag) (mg:Str→Option Value) (base:Heap) (CX:CXT) (k:Nat) (f:Addr) (fd:FuncData) (ps:List Str) (sp:Sp):Prop where
 len:∀vs H Q E,sp vs H Q E→vs.length=ps.length
 run:∀(A:Around) (outer:List Env) (s:Shared) (H:Hp) (args:Args) (us:List Value) (vs:List V) (Q:VK) (E:XK),Room k A→Env0 P w K mg base A outer s H→BindsTo s fd args (ps.zip us)→Vals vs us→sp vs H Q E →
  codeAny (model P w) A (.call (.ref f) args) (CR CX outer P w H s Q E) s
section
variable {X:Cx} {pins:List (Addr × Obj)} {σ:St} {H:Hp} {s s':Shared}
theorem Inv.env0 (I:Inv X pins σ H s):Env0 X.prog X.w X.K X.mg X.base X.A X.stack s H :=
 ⟨I.ok.frames,I.ok.mod,I.bs,Nat.le_trans I.ok.bsz I.sz,I.stack,I.stkFree,I.hok,I.bare⟩
theorem Inv.after {Q:VK} {u:Value} (I:Inv X pins σ H s) (h:CE X.stack X.prog X.w H s Q u s'):EP X pins σ Q u s':=by
 obtain ⟨v,H',os,bare,un,hok,r,q⟩:=h
 obtain ⟨hh,g,d,t,os'⟩:=s'
 obtain rfl:os'=s.os:=os
 exact ⟨v,H',I.call (h':=hh) (g':=g) (d':=d) (t':=t) (ch:=[]) un hok bare (fun b z=>absurd z (by simp)),r,q⟩
end
noncomputable def tCall (sp:Sp) (dvs:List V) (E:XK) (t:TA):TE:=fun σ H Q=>t σ H fun vs H1=>sp (vs++dvs) H1 Q E
noncomputable def Binds (K:PySem.W.Frag) (fd:FuncData) (ps:List Str) (ds:List Value):Prop :=
 ∀(s:Shared) (us:List Value),K.In s.heap→(us++ds).length=ps.length→BindsTo s fd ⟨us,[]⟩ (ps.zip (us++ds))
theorem Binds.all {K:PySem.W.Frag} {fd:FuncData} {ps:List Str} (h:∀us:List Value,us.length=ps.length→bindArgs fd ⟨us,[]⟩=pure (ps.zip us)):Binds K fd ps []:=fun s us _ hl=>by
 rw [List.append_nil] at hl ⊢
 exact .of_eq (h us hl)
noncomputable def Passes (CX:CXT) (X:Cx) (E:XK):Prop:=∀(pins:List (Addr × Obj)) (σ:St) (H:Hp) (s:Shared) (e:Value) (s':Shared),Inv X pins σ H s→CX X.stack H s E e s'→X.xe e s'
section
variable {X:Cx} {CX:CXT} {k:Nat} {f C:Addr} {fd:FuncData} {ps:List Str} {sp:Sp} {dvs:List V} {ds:List Value} {E:XK} {x m:Str} {p pos apos:Pos} {e o:Expr} {es:List Expr} {ta:TE} {t:TA}
theorem run_fn {pins:List (Addr × Obj)} {σ:St} {H:Hp} {s:Shared} {Q:VK} {us:List Value} {vs:List V} (F:FnOk X.prog X.w X.K X.mg X.base CX k f fd ps sp) (hr:Room k X.A) (hb:Binds X.K fd ps ds) (hd:Vals dvs ds) (hx:Passes CX X E)
  (I:Inv X pins σ H s) (r:Vals vs us) (h:sp (vs++dvs) H Q E):wpAny (model X.prog X.w) X.A (call (.ref f) us) (EP X pins σ Q) X.xe s:=by
 have r2:Vals (vs++dvs) (us++ds):=r.append hd
 have hl:(us++ds).length=ps.length:=by rw [←r2.length];exact F.len _ _ _ _ h
 refine wpAny_call (codeAny_mono (F.run X.A X.stack s H ⟨us,[]⟩ (us++ds) (vs++dvs) Q E hr I.env0 (hb s us I.kIn hl) r2 h) fun r s' hq=>?_)
 cases r with
 | error e=>exact hx pins σ H s e s' I hq
 | ok fl =>
  cases fl with
  | ret u=>exact I.after hq
  | next=>exact False.elim hq
  | brk=>exact False.elim hq
  | cont=>exact False.elim hq
theorem pe_call (F:FnOk X.prog X.w X.K X.mg X.base CX k f fd ps sp) (hr:Room k X.A) (hg:Gl X x) (hm:X.mg x=some (.ref f)) (hk:PySem.W.keepIn X.K (.ref f)=true) (hb:Binds X.K fd ps ds) (hd:Vals dvs ds) (hx:Passes CX X E)
  (ha:PA X (e::es) t) (hdb:(x == ("__debug__":Str))=false:=by decide) (he:starEach (e::es) X.env=(false,eval e X.env)::starEach es X.env:=by rfl) (hpl:(backTo pos (starEach es X.env)).any (·.1)=false:=by rfl) :
  PE X (.Call (.Name x p) (e::es) [] pos) (tCall sp dvs E t):=by
 intro pins s σ H Q I h
 refine wpAny_Call_Name_kw (ld_glob I hg hm ?_ hdb)
 refine PySem.W.callWith_K (h₀:=X.base) I.ok.mod.kin hk (thn (ha pos pins s σ H _ I h) fun us s1 ⟨vs,H1,I1,r,q⟩=>⟨I1.kIn,?_⟩) he hpl
 exact run_fn F hr hb hd hx I1 r q
theorem pe_call0 (F:FnOk X.prog X.w X.K X.mg X.base CX k f fd ps sp) (hr:Room k X.A) (hg:Gl X x) (hm:X.mg x=some (.ref f)) (hk:PySem.W.keepIn X.K (.ref f)=true) (hb:Binds X.K fd ps ds) (hd:Vals dvs ds) (hx:Passes CX X E)
  (hdb:(x == ("__debug__":Str))=false:=by decide):PE X (.Call (.Name x p) [] [] pos) (tCall sp dvs E tNil):=by
 intro pins s σ H Q I h
 refine wpAny_Call_Name_kw (ld_glob I hg hm ?_ hdb)
 exact PySem.W.callWith_K0 I.kIn hk (run_fn (us:=[]) F hr hb hd hx I .nil h)
structure Mk (K:PySem.W.Frag) (C f:Addr):Prop where
 makes:PySem.W.makesIn K C=true
 init:PySem.W.findIn K (.ref C) "__init__"=some (some (.ref f))
 fn:PySem.W.isFn K (.ref f)=true
 kp:PySem.W.keepIn K (.ref C)=true
end
section
variable {X:Cx} {CX:CXT} {k:Nat} {f C:Addr} {fd:FuncData} {ps ks:List Str} {sp:Sp} {E:XK} {x m:Str} {p pos apos kpos:Pos} {e o:Expr} {es:List Expr} {kws:List Keyword} {te ta:TE} {t tk:TA} {nm:Option Str}
structure KBinds (K:PySem.W.Frag) (fd:FuncData) (ps ks:List Str) (g:List Value→List Value→List Value) (gV:List V→List V→List V):Prop where
 to:∀(s:Shared) (us ws:List Value),K.In s.heap→(g us ws).length=ps.length→BindsTo s fd ⟨us,ks.zip ws⟩ (ps.zip (g us ws))
 rel:∀ {vs:List V} {us:List Value} {zs:List V} {ws:List Value},Vals vs us→Vals zs ws→Vals (gV vs zs) (g us ws)
variable {g:List Value→List Value→List Value} {gV:List V→List V→List V}
end
structure FnScope (N P:List Str) (sc:Scope):Prop where
 kind:sc.kind=.function
 co:sc.isCoroutine=false
 gen:sc.isGenerator=false
 nd:N.Nodup
 pre:N.take P.length=P
 par:∀x∈P,sc.names.lookup x=some .local∨sc.names.lookup x=some .cell
 nofree:∀y∈sc.names,y.2≠.free
theorem bindL_out {kindOf:Str→Option NameKind} {x:Str}:∀ {binds:List (Str × Value)} {m:Str→Option Value},(∀v,(x,v) ∉ binds)→bindL kindOf binds m x=m x
 | [],_,_=>rfl
 | (n,v)::r,m,h=>by
  unfold bindL
  rw [bindL_out fun w hw=>h w (List.mem_cons_of_mem _ hw)]
  split
  ·have:x≠n:=by rintro rfl;exact h v List.mem_cons_self
   simp [this]
  ·rfl
theorem bindC_out {kindOf:Str→Option NameKind} {x:Str}:∀ {binds:List (Str × Value)} {m:Str→Option Value},(∀v,(x,v) ∉ binds)→bindC kindOf binds m x=m x
 | [],_,_=>rfl
 | (n,v)::r,m,h=>by
  unfold bindC
  rw [bindC_out fun w hw=>h w (List.mem_cons_of_mem _ hw)]
  split
  ·rfl
  ·have:x≠n:=by rintro rfl;exact h v List.mem_cons_self
   simp [this]
theorem bindL_get {kindOf:Str→Option NameKind} {x:Str} {v:Value}:∀ {P:List Str} {vs:List Value} {i:Nat} {m:Str→Option Value},P.Nodup→P[i]?=some x→vs[i]?=some v→kindOf x=some .local →
  bindL kindOf (P.zip vs) m x=some v
 | [],_,_,_,_,h,_,_=>by simp at h
 | _::_,[],_,_,_,_,h,_=>by simp at h
 | p::P,w::vs,0,m,nd,h1,h2,hk=>by
  simp at h1 h2;subst h1;subst h2
  show bindL kindOf ((p,w)::P.zip vs) m p=_
  unfold bindL
  rw [bindL_out fun v hv=>(List.nodup_cons.mp nd).1 (List.of_mem_zip hv).1,if_pos hk]
  simp
 | p::P,w::vs,i+1,m,nd,h1,h2,hk=>by
  show bindL kindOf ((p,w)::P.zip vs) m x=_
  unfold bindL
  exact bindL_get (i:=i) (List.nodup_cons.mp nd).2 (by simpa using h1) (by simpa using h2) hk
theorem bindC_get {kindOf:Str→Option NameKind} {x:Str} {v:Value}:∀ {P:List Str} {vs:List Value} {i:Nat} {m:Str→Option Value},P.Nodup→P[i]?=some x→vs[i]?=some v→kindOf x≠some .local →
  bindC kindOf (P.zip vs) m x=some v
 | [],_,_,_,_,h,_,_=>by simp at h
 | _::_,[],_,_,_,_,h,_=>by simp at h
 | p::P,w::vs,0,m,nd,h1,h2,hk=>by
  simp at h1 h2;subst h1;subst h2
  show bindC kindOf ((p,w)::P.zip vs) m p=_
  unfold bindC
  rw [bindC_out fun v hv=>(List.nodup_cons.mp nd).1 (List.of_mem_zip hv).1,if_neg hk]
  simp
 | p::P,w::vs,i+1,m,nd,h1,h2,hk=>by
  show bindC kindOf ((p,w)::P.zip vs) m x=_
  unfold bindC
  exact bindC_get (i:=i) (List.nodup_cons.mp nd).2 (by simpa using h1) (by simpa using h2) hk
noncomputable def start (N:List Str) (vs:List V):St:=vs.map some++List.replicate (N.length-vs.length) none
noncomputable def cxOf (CX:CXT) (P:Program) (w:World) (K:PySem.W.Frag) (mg:Str→Option Value) (base:Heap) (N:List Str) (qual:Str) (scope:Scope) (f:Addr) (cd:Value) (A:Around) (outer:List Env) (s:Shared) (H:Hp) (E:XK):Cx where
 prog:=P
 w:=w
 K:=K
 mg:=mg
 base:=base
 A:=A.deeper (envOfC qual scope s.heap.objs.size f cd)
 N:=N
 s₀:=s
 H₀:=H
 env:=envOfC qual scope s.heap.objs.size f cd
 outer:=outer
 stack:=envOfC qual scope s.heap.objs.size f cd::outer
 ex:=[]
 calm:=true
 fn:=fun _=>true
 pn:=[]
 xe:=fun e s'=>wpAny (model P w) (A.deeper (envOfC qual scope s.heap.objs.size f cd)) (leaving (envOfC qual scope s.heap.objs.size f cd) e) (fun _ s''=>CX outer H s E e s'') (fun e' s''=>CX outer H s E e' s'') s'
theorem cell_has {sc:Scope} {n:Nat} {x:Str} (h:sc.names.lookup x=some .cell):∃c,(cellsFrom n sc.names []).lookup x=some c:=by
 have q:=PySem.W.cellsFrom_some sc.names n [] (.inl h)
 exact Option.isSome_iff_exists.mp q
theorem inv_start {CX:CXT} {P:Program} {w:World} {K:PySem.W.Frag} {mg:Str→Option Value} {base:Heap} {N ps:List Str} {qual:Str} {scope:Scope} {f:Addr} {cd:Value} {A:Around} {outer:List Env} {s s1:Shared} {H:Hp} {E:XK} {us:List Value} {vs:List V}
  (S:FnScope N ps scope) (hd:A.handled=none) (e0:Env0 P w K mg base A outer s H) (hl:vs.length=ps.length) (r:Vals vs us)
  (x:InCallC s s.heap.objs.size (bindL (envOfC qual scope s.heap.objs.size f cd).kindOf (ps.zip us) fun _=>none) (cellsFrom (s.heap.objs.size+1) scope.names []) (bindC (envOfC qual scope s.heap.objs.size f cd).kindOf (ps.zip us) fun _=>none) s1) :
  Inv (cxOf CX P w K mg base N qual scope f cd A outer s H E) [] (start N vs) H s1:=by
 have hpl:ps.length≤N.length:=by have:=congrArg List.length S.pre;rw [List.length_take] at this;omega
 obtain ⟨h1,tk,rfl,hk⟩:=x.done
 have noA:∀b:Addr,b ∉ (cxOf CX P w K mg base N qual scope f cd A outer s H E).ex:=fun b z=>absurd (show b∈([]:List Addr) from z) (by simp)
 refine ⟨⟨e0.mod,S.kind,rfl,rfl,Nat.le_refl _,fun y z c h1 h2=>?_,fun y hy=>?_,fun y c _ h=>?_,fun _=>hd,Around.frames_deeper e0.frames,.inr ⟨rfl,rfl⟩,fun b z=>absurd z (noA b),e0.bs,e0.bsz,fun b _ _=>noA b,fun b z=>absurd z (noA b),e0.funs,e0.frf⟩,
  rfl,e0.bare,Un.kept hk,⟨_,x.toInCall.ns,fun i y v h1 h2 h3=>?_⟩,fun y c h=>⟨_,x.cell y c h⟩,e0.hok.fresh (Nat.le_refl _),fun y c h=>?_,fun p hp=>absurd (show p∈([]:List (Addr × Obj)) from hp) (by simp),e0.hok.kept hk,?_⟩
 ·exact name_of_addr x.apart (PySem.mem_of_lookup h1) (PySem.mem_of_lookup h2)
 ·have hy:scope.names.lookup y=some .cell∨scope.names.lookup y=some .free:=hy
  rcases hy with hy|hy
  ·exact cell_has hy
  ·exact absurd rfl (S.nofree _ (PySem.mem_of_lookup hy))
 ·exact Nat.le_of_lt (x.above y c (PySem.mem_of_lookup h))
 ·have hi:i<vs.length:=by
   unfold start at h2
   by_cases hi:i<vs.length
   ·exact hi
   ·rw [List.getElem?_append_right (by simpa using hi)] at h2
    rw [List.getElem?_replicate] at h2
    split at h2 <;> cases h2
  have ha:vs[i]?=some v:=by
   unfold start at h2
   rw [List.getElem?_append_left (by simpa using hi),List.getElem?_map] at h2
   cases e:vs[i]? with
   | none=>rw [e] at h2;cases h2
   | some a=>rw [e] at h2;cases h2;rfl
  obtain ⟨u,hu,rv⟩:=r.get ha
  have hp:ps[i]?=some y:=by
   rw [←S.pre,List.getElem?_take_of_lt (by omega)];exact h1
  have ndP:ps.Nodup:=by rw [←S.pre];exact S.nd.sublist (List.take_sublist _ _)
  refine ⟨u,rv,?_⟩
  rcases S.par y (List.mem_of_getElem? hp) with k|k
  ·exact .inl ⟨k,bindL_get ndP hp hu k⟩
  ·obtain ⟨c,e⟩:=cell_has (n:=s.heap.objs.size+1) k
   refine .inr ⟨.inl k,c,e,?_⟩
   have q:=x.cell y c e
   rw [bindC_get ndP hp hu (by show scope.names.lookup y≠_;rw [k];decide)] at q
   exact q
 ·exact e0.hok.fresh (Nat.le_of_lt (x.above y c (PySem.mem_of_lookup h)))
 ·unfold start
  show _=N.length
  rw [List.length_append,List.length_map,List.length_replicate]
  omega
theorem fn_of {CX:CXT} {P:Program} {w:World} {K:PySem.W.Frag} {mg:Str→Option Value} {base:Heap} {k:Nat} {f:Addr} {name qual:Str} {params:Arguments} {body:List Stmt} {scope:Scope} {dV kV doc pm cdv ct oc:Value} {an od:Option Addr}
  {osl:Array (Option Value)} {N ps:List Str} {sp:Sp} (lk:K.lookup f=some ⟨oc,od,.func (PySem.W.fnOf name qual params body scope dV kV doc pm an cdv ct),osl⟩) (hcd:PySem.W.codeIn K cdv qual=true) (S:FnScope N ps scope)
  (len:∀vs H Q E,sp vs H Q E→vs.length=ps.length)
  (hbody:∀(A:Around) (outer:List Env) (s:Shared) (H:Hp) (vs:List V) (Q:VK) (E:XK),Room k (A.deeper (envOfC qual scope s.heap.objs.size f cdv))→sp vs H Q E →
   ∃t,PSs (cxOf CX P w K mg base N qual scope f cdv A outer s H E) body t∧t { nx:=fun _ H'=>Q .non H',rt:=Q } (start N vs) H) :
  FnOk P w K mg base CX (k+1) f (PySem.W.fnOf name qual params body scope dV kV doc pm an cdv ct) ps sp:=by
 refine ⟨len,fun A outer s H args us vs Q E hr e0 hb r hsp=>?_⟩
 have hl:=len _ _ _ _ hsp
 have KX:K.In s.heap:=e0.mod.kin.keeps fun b o e=>(e0.bs b o e).1
 have lim:s.heap.NoLimit:=e0.mod.nolimit.keeps fun b o e=>(e0.bs b o e).1
 have hkind:∀y∈ps.zip us,scope.names.lookup y.1=some .local∨(scope.names.lookup y.1=some .cell∧((cellsFrom (s.heap.objs.size+1) scope.names []).lookup y.1).isSome=true):=fun ⟨n,v⟩ hy=>by
  rcases S.par n (List.of_mem_zip hy).1 with q|q
  ·exact .inl q
  ·exact .inr ⟨q,PySem.W.cellsFrom_some _ _ _ (.inl q)⟩
 refine codeAny_call_function hr.depth (KX _ _ lk) rfl S.co S.gen rfl (PySem.W.codeRec_of KX hcd) (hb _ _ _ _ ?_)
 refine wpAny_newFunctionEnv_cells S.kind hkind fun env he s1 x=>?_
 subst he
 refine ⟨lim.keeps x.toInCall.keep,codeAny_func ?_⟩
 obtain ⟨t,ht,hq⟩:=hbody A outer s H vs Q E (hr.deeper _) hsp
 have I:Inv (cxOf CX P w K mg base N qual scope f cdv A outer s H E) [] (start N vs) H s1:=inv_start S hr.hd e0 hl r x
 refine wpAny_mono (ht [] s1 (start N vs) H _ I hq) (fun fl s' hs=>?_) fun e s' hs=>hs
 have fin:∀ {σ':St} {H':Hp} {v:V} {u:Value},Inv (cxOf CX P w K mg base N qual scope f cdv A outer s H E) [] σ' H' s'→RelV v u→Q v H'→CE outer P w H s Q u s' :=
  fun {σ' H' v u} J rv q=>⟨v,H',J.os,J.bare,J.base,J.hok,rv,q⟩
 cases fl with
 | ret u =>
  obtain ⟨v,σ',H',J,rv,q⟩:=hs
  exact fin J rv q
 | next =>
  obtain ⟨σ',H',J,q⟩:=hs
  exact fin (v:=V.non) (u:=Value.none) J rfl q
 | brk =>
  obtain ⟨_,_,_,q⟩:=hs
  exact False.elim q
 | cont =>
  obtain ⟨_,_,_,q⟩:=hs
  exact False.elim q
end L2
namespace L2
open PySem PySem.Spec PyProof.Rows
section
variable {X:Cx} {x:Str} {p pos:Pos} {e:Expr} {es:List Expr} {t:TA} {id T:String} {r:List V→Hp→VK→Prop}
noncomputable def tCB (r:List V→Hp→VK→Prop) (t:TA):TE:=fun σ H Q=>t σ H fun vs H1=>r vs H1 Q
theorem pe_callB (hc:CallR X (.builtin id) r) (hg:Gl X x) (hm:X.mg x=none) (hv:bootBuiltins x=some (.builtin id)) (ha:PA X (e::es) t) (hn:x≠"__name__":=by decide) (hdb:(x == ("__debug__":Str))=false:=by decide)
  (he:starEach (e::es) X.env=(false,eval e X.env)::starEach es X.env:=by rfl) (hpl:(backTo pos (starEach es X.env)).any (·.1)=false:=by rfl):PE X (.Call (.Name x p) (e::es) [] pos) (tCB r t):=by
 intro pins s σ H Q I h
 refine wpAny_Call_Name_kw (ld_blt I hg hm hv ?_ hn hdb)
 exact PyProof.Rows.callWith_builtin1 (thn (ha pos pins s σ H _ I h) fun us s1 ⟨vs,H1,I1,r1,q1⟩=>hc pins s1 σ H1 vs us Q I1 r1 q1) he hpl
theorem pe_callTy (hc:CallR X (.type T) r) (hg:Gl X x) (hm:X.mg x=none) (hv:bootBuiltins x=some (.type T)) (ha:PA X (e::es) t) (hn:x≠"__name__":=by decide) (hdb:(x == ("__debug__":Str))=false:=by decide)
  (he:starEach (e::es) X.env=(false,eval e X.env)::starEach es X.env:=by rfl) (hpl:(backTo pos (starEach es X.env)).any (·.1)=false:=by rfl):PE X (.Call (.Name x p) (e::es) [] pos) (tCB r t):=by
 intro pins s σ H Q I h
 refine wpAny_Call_Name_kw (ld_blt I hg hm hv ?_ hn hdb)
 exact PyProof.Rows.callWith_type1 (thn (ha pos pins s σ H _ I h) fun us s1 ⟨vs,H1,I1,r1,q1⟩=>hc pins s1 σ H1 vs us Q I1 r1 q1) he hpl
end
end L2
namespace HT
open PySem PyProof.Rows
section
open PySem.SeqAt
open PySem.AutoSeq1 (wpAny_loadPart')
open PySem.MeetsSeq PySem.MeetsSeq2 PySem.MeetsSeq3
end
section
variable {prog:Program} {w:World} {A:Around} {E:Value→Shared→Prop} {s:Shared}
theorem cat_tup {t b:Addr} {vs ws:List Value} {Q:Value→Shared→Prop} (ht:IsTup s.heap t vs.toArray) (hb:IsTup s.heap b ws.toArray) (hv:vs≠[])
  (h1:ws=[]→Q (.ref t) s) (h2:ws≠[]→Q (.ref s.heap.objs.size) { s with heap:=s.heap.push { cls:=.type "tuple",data:=.seq (vs++ws).toArray } })
  (hsz:vs.length+ws.length≤sizeLine):wpAny (model prog w) A (binaryOp .Add (.ref t) (.ref b)) Q E s:=by
 obtain ⟨⟨cls,dd,data,sl⟩,ho,hc,n,hd⟩:=id ht
 obtain ⟨⟨cls2,dd2,data2,sl2⟩,ho2,hc2,n2,hd2⟩:=id hb
 simp only at hc hd hc2 hd2
 subst hc hd hc2 hd2
 have e:vs.toArray++ws.toArray=(vs++ws).toArray:=by simp
 by_cases hw:ws=[]
 ·exact concat_meets ⟨_,ho,rfl⟩ ⟨_,ho2,rfl⟩ noFill_tuple_add seq_tuple_add PySem.F.slot_tuple_add PySem.F.entry_tuple_add (PySem.F.args_tuple_add_2 _ _)
   (tuple_addW1 t b vs.toArray ws.toArray n n2 dd dd2 sl sl2 (by simpa using hv) (by simp [hw])) ⟨ho,ho2,h1 hw⟩
 ·refine concat_meets ⟨_,ho,rfl⟩ ⟨_,ho2,rfl⟩ noFill_tuple_add seq_tuple_add PySem.F.slot_tuple_add PySem.F.entry_tuple_add (PySem.F.args_tuple_add_2 _ _)
   (tuple_addW2 t b vs.toArray ws.toArray n n2 dd dd2 sl sl2 (by simpa using hv) (by simpa using hw) (by rw [List.size_toArray,List.size_toArray];exact hsz)) ⟨ho,ho2,?_⟩
  rw [e]
  exact h2 hw
noncomputable def sIx (n d:Nat):Option Int→Nat
 | none=>d
 | some v=>if v<0 then (v+(n:Int)).toNat else min v.toNat n
theorem sIx_none (n d:Nat):sIx n d none=d:=rfl
theorem sIx_nat (n d k:Nat):sIx n d (some (k:Int))=min k n:=by
 show (if (k:Int)<0 then ((k:Int)+(n:Int)).toNat else min (k:Int).toNat n)=min k n
 rw [if_neg (by omega),Int.toNat_natCast]
theorem sIx_le (n d:Nat) (hd:d≤n) (o:Option Int):sIx n d o≤n:=by
 cases o with
 | none=>exact hd
 | some v =>
  show (if v<0 then (v+(n:Int)).toNat else min v.toNat n)≤n
  by_cases hv:v<0
  ·rw [if_pos hv];omega
  ·rw [if_neg hv];exact Nat.min_le_right _ _
theorem clip_eq (v:Int) (n d:Nat):(if v<0 then max (v+(n:Int)) 0 else min v (n:Int))=((sIx n d (some v):Nat):Int):=by
 show (if v<0 then max (v+(n:Int)) 0 else min v (n:Int))=(((if v<0 then (v+(n:Int)).toNat else min v.toNat n):Nat):Int)
 by_cases hv:v<0
 ·simp only [if_pos hv];omega
 ·simp only [if_neg hv];omega
theorem adjust_gen (lo hi:Option Int) (n:Nat):Builtin.Slice.sliceAdjust lo hi 1 (n:Int)=(((sIx n 0 lo:Nat):Int),((sIx n n hi:Nat):Int)):=by
 have h1:¬((1:Int)<0):=by omega
 unfold Builtin.Slice.sliceAdjust
 simp only [h1,if_false]
 refine Prod.ext ?_ ?_
 ·cases lo with
  | none=>rfl
  | some v=>exact clip_eq v n 0
 ·cases hi with
  | none=>rfl
  | some v=>exact clip_eq v n n
theorem places_gen (i j:Nat):Builtin.Slice.slicePlaces (i:Int) (j:Int) 1=j-i:=by
 unfold Builtin.Slice.slicePlaces
 have h1:(1:Int) > 0:=by omega
 simp only [h1,if_true,Int.ediv_one]
 split <;> omega
theorem slicePart_ {v:Value} {o:Option Int} {Q:Option Int→Shared→Prop} (p:IsPart v o) (h:Q o s):wpAny (model prog w) A (Builtin.Slice.slicePartIndex v) Q E s:=by
 cases p with
 | none=>exact slicePart_none h
 | int i t=>exact slicePart_int h
theorem sliceApplied_gen {sl:Addr} {vl vu:Value} {lo hi:Option Int} {n:Nat} {Q:Int × Int × Nat→Shared→Prop} (hs:s.heap.IsSliceOf sl vl vu .none) (pl:IsPart vl lo) (pu:IsPart vu hi)
  (h:Q (((sIx n 0 lo:Nat):Int),1,sIx n n hi-sIx n 0 lo) s):wpAny (model prog w) A (Builtin.Slice.sliceApplied (.ref sl) (pure (n:Int))) Q E s:=by
 obtain ⟨os,hos,hcs,hds⟩:=id hs
 unfold Builtin.Slice.sliceApplied Builtin.Slice.sliceFields
 refine wpAny_bind (wpAny_bind (wpAny_field hos hds (x:=vl) rfl (wpAny_bind (wpAny_field hos hds (x:=vu) rfl (wpAny_bind (wpAny_field hos hds (x:=.none) rfl (wpAny_pure ?_)))))))
 refine wpAny_bind (slicePart_none ?_)
 show wpAny _ _ (if ((1:Int) == 0)=true then _ else _) _ _ s
 rw [if_neg (by decide)]
 refine wpAny_bind (slicePart_ pl (wpAny_bind (slicePart_ pu (wpAny_bind (wpAny_pure ?_)))))
 show wpAny _ _ (match Builtin.Slice.sliceAdjust lo hi 1 (n:Int) with|(lo,hi)=>pure (lo,(1:Int),Builtin.Slice.slicePlaces lo hi 1)) _ _ s
 rw [adjust_gen lo hi n]
 show wpAny _ _ (pure (((sIx n 0 lo:Nat):Int),(1:Int),Builtin.Slice.slicePlaces ((sIx n 0 lo:Nat):Int) ((sIx n n hi:Nat):Int) 1)) _ _ s
 rw [places_gen]
 exact wpAny_pure h
theorem pick_gen (xs:Array Value) (i k:Nat):((List.range k).filterMap fun (m:Nat)=>xs[((i:Int)+(m:Int)*1).toNat]?).toArray=((xs.toList.drop i).take k).toArray:=by
 have e:(fun (m:Nat)=>xs[((i:Int)+(m:Int)*1).toNat]?)=fun m=>xs[i+m]?:=by
  funext m
  have:((i:Int)+(m:Int)*1).toNat=i+m:=by omega
  rw [this]
 rw [e]
 have:=pick_run xs i k
 rw [List.filterMap_map] at this
 have e2:((fun x=>xs[x]?) ∘ fun x=>i+x)=fun m=>xs[i+m]?:=rfl
 rw [e2] at this
 rw [this]
theorem getItem_tuple_cut {t sl:Addr} {items:Array Value} {vl vu:Value} {lo hi:Option Int} {Q:Value→Shared→Prop} (ht:IsTup s.heap t items) (hs:s.heap.IsSliceOf sl vl vu .none) (pl:IsPart vl lo) (pu:IsPart vu hi)
  (hw:¬(sIx items.size 0 lo=0∧sIx items.size items.size hi=items.size))
  (h:Q (.ref s.heap.objs.size) { s with heap:=s.heap.push { cls:=.type "tuple",data:=.seq ((items.toList.drop (sIx items.size 0 lo)).take (sIx items.size items.size hi-sIx items.size 0 lo)).toArray } })
  (hsz:items.size≤sizeLine):wpAny (model prog w) A (getItem (.ref t) (.ref sl)) Q E s:=by
 have htake:sizeOk (.seq ((items.toList.drop (sIx items.size 0 lo)).take (sIx items.size items.size hi-sIx items.size 0 lo)).toArray):=by
  show ((items.toList.drop (sIx items.size 0 lo)).take (sIx items.size items.size hi-sIx items.size 0 lo)).toArray.size≤sizeLine
  rw [List.size_toArray,List.length_take,List.length_drop,Array.length_toList]
  omega
 have hj:sIx items.size items.size hi≤items.size:=sIx_le _ _ (Nat.le_refl _) hi
 obtain ⟨os,hos,hcs,hds⟩:=id hs
 have hTs:s.TypeIs (.ref sl) "slice":=⟨os,hos,hcs⟩
 unfold getItem
 try with_reducible refine wpAny_holding ?_
 first|refine wpAny_bind (wpAny_pure ?_)|skip
 refine wpAny_bind (wpAny_sequenceKey ht.typeIs (by decide) ?_)
 refine wpAny_bind (wpAny_callSpecial?_slot (name:=Str.ofString "__getitem__") ht.typeIs PyProof.Rows.slot_tuple_getitem
  (wpAny_call_entry PyProof.Rows.slot_tuple_getitem ht.typeIs entry_tuple_getitem ?_ (args_tuple_getitem _ _)))
 show wpAny _ _ (Builtin.Tuple.tupleItemsOf (.ref t) >>= _) _ _ s
 refine wpAny_bind (tupleItemsOf_ ht ?_)
 refine wpAny_bind (wpAny_typeOf hTs ?_)
 rw [if_pos (by decide)]
 refine wpAny_bind (sliceApplied_gen hs pl pu ?_)
 have hno:¬((((sIx items.size 0 lo:Nat):Int) == 0 && (1:Int) == 1 && (sIx items.size items.size hi-sIx items.size 0 lo) == items.size)=true):=by
  intro q
  rw [Bool.and_eq_true,Bool.and_eq_true] at q
  have q1:((sIx items.size 0 lo:Nat):Int)=0:=eq_of_beq q.1.1
  have q2:sIx items.size items.size hi-sIx items.size 0 lo=items.size:=eq_of_beq q.2
  exact hw ⟨by omega,by omega⟩
 show wpAny _ _ (if (((sIx items.size 0 lo:Nat):Int) == 0 && (1:Int) == 1 && (sIx items.size items.size hi-sIx items.size 0 lo) == items.size)=true then _ else _) _ _ s
 rw [if_neg hno,pick_gen]
 first
  | exact wpAny_bind (m:=Builtin.Tuple.tupleExact _) (wpAny_newObj_type (wpAny_pure ⟨_,rfl,wpAny_pure h⟩) htake)
  | exact wpAny_bind (m:=Builtin.Tuple.tupleExact _) (wpAny_newObj_type (wpAny_bind (wpAny_pure (wpAny_pure ⟨_,rfl,wpAny_pure h⟩))) htake)
  | exact wpAny_bind (wpAny_bind (m:=Builtin.Tuple.tupleExact _) (wpAny_newObj_type (wpAny_pure (wpAny_pure ⟨_,rfl,wpAny_pure h⟩)) htake))
  | exact wpAny_bind (wpAny_bind (m:=Builtin.Tuple.tupleExact _) (wpAny_newObj_type (wpAny_pure ⟨_,rfl,wpAny_pure h⟩) htake))
end
end HT
namespace L2
open PySem PySem.Spec PyProof.Rows
noncomputable abbrev TO:=St→Hp→(Option Int→Hp→Prop)→Prop
noncomputable def PO (X:Cx) (e:Option Expr) (t:TO):Prop :=
 ∀(pins:List (Addr × Obj)) (s:Shared) (σ:St) (H:Hp) (Q:Option Int→Hp→Prop),Inv X pins σ H s→t σ H Q →
  wpAny (model X.prog X.w) X.A (evalPart e X.env) (fun u s'=>∃o H',Inv X pins σ H' s'∧IsPart u o∧Q o H') X.xe s
noncomputable def tNoPart:TO:=fun _ H Q=>Q none H
noncomputable def tPart (t:TE):TO:=fun σ H Q=>t σ H fun x H1=>∃i,x=.int i∧Q (some i) H1
section
variable {X:Cx} {e:Expr} {te:TE} {lo hi:Option Expr} {tl th:TO} {pos p2:Pos}
theorem po_none:PO X none tNoPart:=by
 intro pins s σ H Q I h
 rw [evalPart_none]
 exact wpAny_pure ⟨none,H,I,.none,h⟩
theorem po_some (h:PE X e te):PO X (some e) (tPart te):=by
 intro pins s σ H Q I hw
 rw [evalPart_some]
 refine thn (h pins s σ H _ I hw) fun u s1 ⟨x,H1,I1,r1,q1⟩=>?_
 obtain ⟨i,rfl,q⟩:=q1
 obtain ⟨t,rfl⟩:=r1
 exact ⟨some i,H1,I1,.int i t,q⟩
noncomputable def SlR (X:Cx) (r:V→Option Int→Option Int→Hp→VK→Prop):Prop :=
 ∀(pins:List (Addr × Obj)) (s:Shared) (σ:St) (H:Hp) (x:V) (v vl vu:Value) (lo hi:Option Int) (sl:Addr) (Q:VK),Inv X pins σ H s→RelV x v→s.heap.IsSliceOf sl vl vu .none→IsPart vl lo→IsPart vu hi→r x lo hi H Q →
  ∃T id,typeLookup (.type T) "__getitem__"=pure (some (.builtin id))∧s.TypeIs v T∧wpAny (model X.prog X.w) X.A (getItem v (.ref sl)) (EP X pins σ Q) X.xe s
noncomputable def tSl (r:V→Option Int→Option Int→Hp→VK→Prop) (te:TE) (tl th:TO):TE:=fun σ H Q=>te σ H fun x H1=>tl σ H1 fun l H2=>th σ H2 fun u H3=>r x l u H3 Q
theorem pe_slice {r:V→Option Int→Option Int→Hp→VK→Prop} (hr:SlR X r) (he:PE X e te) (hl:PO X lo tl) (hu:PO X hi th):PE X (.Subscript e (.Slice lo hi none p2) pos) (tSl r te tl th):=by
 intro pins s σ H Q I h
 refine Subscript_ (thn (he pins s σ H _ I h) fun v s1 ⟨x,H1,I1,r1,q1⟩=>?_)
 refine wpAny_Slice (thn (hl pins s1 σ H1 _ I1 q1) fun vl s2 ⟨l,H2,I2,pl,q2⟩=>thn (hu pins s2 σ H2 _ I2 q2) fun vu s3 ⟨u,H3,I3,pu,q3⟩=>?_)
 rw [evalPart_none]
 refine wpAny_pure ?_
 have I4:Inv X pins σ H3 { s3 with heap:=s3.heap.push { cls:=.type "slice",data:=.fields #[vl,vu,.none] } }:=I3.kept (t':=s3.toks) fun b ob q=>Heap.get?_push_of_some _ q
 obtain ⟨T,id,hT,ht,hg⟩:=hr pins { s3 with heap:=s3.heap.push { cls:=.type "slice",data:=.fields #[vl,vu,.none] } } σ H3 x v vl vu l u s3.heap.objs.size Q I4 r1 (Heap.IsSliceOf.new ..) pl pu q3
 show wpAny (model X.prog X.w) X.A (subscriptTail e (.Slice lo hi none p2) v (.ref s3.heap.objs.size)) (EP X pins σ Q) X.xe { s3 with heap:=s3.heap.push { cls:=.type "slice",data:=.fields #[vl,vu,.none] } }
 exact tail_any (ops:=[.ref s3.heap.objs.size,v]) ht hT hg (by with_unfolding_all rfl)
noncomputable def cutV (xs:List V) (lo hi:Option Int):List V:=(xs.drop (HT.sIx xs.length 0 lo)).take (HT.sIx xs.length xs.length hi-HT.sIx xs.length 0 lo)
theorem cutV_length (xs:List V) (lo hi:Option Int):(cutV xs lo hi).length≤xs.length:=by
 unfold cutV
 rw [List.length_take,List.length_drop]
 omega
noncomputable def rSlT (K:PySem.W.Frag):V→Option Int→Option Int→Hp→VK→Prop:=fun x lo hi H Q=>∃a xs,x=.ref a∧SqT K H a xs ∧
 ¬(HT.sIx xs.length 0 lo=0∧HT.sIx xs.length xs.length hi=xs.length)∧∀p,H p=none→Q (.ref p) (upd H p (.tup (cutV xs lo hi)))
theorem sl_tup:SlR X (rSlT X.K):=by
 intro pins s σ H x v vl vu lo hi sl Q I rx hs pl pu h
 obtain ⟨a,xs,rfl,hx,hw,q⟩:=h
 cases rx
 obtain ⟨its,r,ht,hz⟩:=I.tuple hx
 have hlen:its.toArray.size=xs.length:=by rw [List.size_toArray];exact r.length.symm
 refine ⟨"tuple",_,PyProof.Rows.slot_tuple_getitem.lookup,ht.typeIs,?_⟩
 refine HT.getItem_tuple_cut ht hs pl pu (by rw [hlen];exact hw) ?_ (by rw [hlen];exact hz)
 rw [hlen]
 refine ⟨.ref s.heap.objs.size,_,I.laid (t':=s.toks) (o:=.tup (cutV xs lo hi)) (fun b ob q=>Heap.get?_push_of_some _ q) (Nat.le_refl _) ?_,rfl,q _ (I.hok.fresh (Nat.le_refl _))⟩
 exact ⟨Nat.le_trans (cutV_length xs lo hi) hz,_,(r.drop (HT.sIx xs.length 0 lo)).take (HT.sIx xs.length xs.length hi-HT.sIx xs.length 0 lo),IsTup.new _ _⟩
noncomputable def rCatT (K:PySem.W.Frag):R2:=fun x y H Q=>∃a b xs ys,x=.ref a∧y=.ref b∧SqT K H a xs∧SqT K H b ys∧xs≠[]∧xs.length+ys.length≤sizeLine ∧
 (ys=[]→Q (.ref a) H)∧(ys≠[]→∀p,H p=none→Q (.ref p) (upd H p (.tup (xs++ys))))
theorem Vals.nil_iff {xs:List V} {us:List Value} (r:Vals xs us):us=[]↔xs=[]:=by
 cases r with
 | nil=>simp
 | cons _ _=>simp
theorem op_catT:OpR X (binaryOp .Add) (rCatT X.K):=by
 intro pins s σ H x y v u Q I rx ry h
 obtain ⟨a,b,xs,ys,rfl,rfl,ha,hb,hx,hz,q1,q2⟩:=h
 cases rx
 cases ry
 obtain ⟨its,r1,p1,_⟩:=I.tuple ha
 obtain ⟨its2,r2,p2,_⟩:=I.tuple hb
 refine HT.cat_tup p1 p2 (fun z=>hx (r1.nil_iff.mp z)) (fun z=>⟨.ref a,H,I,rfl,q1 (r2.nil_iff.mp z)⟩) (fun z=>?_) (by rw [←r1.length,←r2.length];exact hz)
 refine ⟨.ref s.heap.objs.size,_,I.laid (t':=s.toks) (o:=.tup (xs++ys)) (fun b ob q=>Heap.get?_push_of_some _ q) (Nat.le_refl _) ?_,rfl,q2 (fun w=>z (r2.nil_iff.mpr w)) _ (I.hok.fresh (Nat.le_refl _))⟩
 exact ⟨by rw [List.length_append];exact hz,_,r1.append r2,IsTup.new _ _⟩
end
end L2
namespace L2
open PySem PySem.Spec PyProof.Rows
noncomputable def ixN (n:Nat) (i:Int):Option Nat:=if 0≤i then (if i<n then some i.toNat else none) else if -(n:Int)≤i then some (i+n).toNat else none
noncomputable def atI {α:Type} (xs:List α) (i:Int):Option α:=(ixN xs.length i).bind fun j=>xs[j]?
theorem ixN_seq {n:Nat} {i:Int} {j:Nat} (h:ixN n i=some j):seqIndex? i n=some j∧j<n∧-(n:Int)≤i∧i<n:=by
 unfold ixN at h
 by_cases h0:0≤i
 ·rw [if_pos h0] at h
  by_cases h1:i<n
  ·rw [if_pos h1] at h
   have e:i.toNat=j:=Option.some.inj h
   exact ⟨by rw [seqIndex_of h0 h1,e],by omega,by omega,h1⟩
  ·rw [if_neg h1] at h;cases h
 ·rw [if_neg h0] at h
  by_cases h1:-(n:Int)≤i
  ·rw [if_pos h1] at h
   have e:(i+n).toNat=j:=Option.some.inj h
   exact ⟨by rw [seqIndex_neg (by omega) h1,e],by omega,h1,by omega⟩
  ·rw [if_neg h1] at h;cases h
theorem atI_get {α:Type} {xs:List α} {i:Int} {v:α} (h:atI xs i=some v):∃j,seqIndex? i xs.length=some j∧xs[j]?=some v∧j<xs.length∧-(xs.length:Int)≤i∧i<xs.length:=by
 unfold atI at h
 cases e:ixN xs.length i with
 | none=>rw [e] at h;cases h
 | some j =>
  rw [e] at h
  obtain ⟨h1,h2,h3,h4⟩:=ixN_seq e
  exact ⟨j,h1,h,h2,h3,h4⟩
theorem atI_nat {α:Type} {xs:List α} {j:Nat} {v:α} (h:xs[j]?=some v):atI xs (j:Int)=some v:=by
 have hj:j<xs.length:=(List.getElem?_eq_some_iff.mp h).1
 have e:ixN xs.length (j:Int)=some j:=by
  unfold ixN
  rw [if_pos (by omega),if_pos (by omega)];simp
 unfold atI;rw [e];exact h
noncomputable def PlainIx (b:Expr):Prop:=∀o i,subscripted b false o i=operate [o,i] (getItem o i)
noncomputable def IxR (X:Cx) (r:R2):Prop :=
 ∀(value slice:Expr) (pins:List (Addr × Obj)) (s:Shared) (σ:St) (H:Hp) (x y:V) (v u:Value) (Q:VK),Inv X pins σ H s→RelV x v→RelV y u→r x y H Q →
  subscripted slice false v u=operate [v,u] (getItem v u)→wpAny (model X.prog X.w) X.A (subscriptTail value slice v u) (EP X pins σ Q) X.xe s
noncomputable def MtR (X:Cx) (id:String) (r:V→List V→Hp→VK→Prop):Prop :=
 ∀(pins:List (Addr × Obj)) (s:Shared) (σ:St) (H:Hp) (x:V) (xs:List V) (v:Value) (us:List Value) (Q:VK),Inv X pins σ H s→RelV x v→Vals xs us→r x xs H Q →
  wpAny (model X.prog X.w) X.A (call (.builtin id) (v::us)) (EP X pins σ Q) X.xe s
section
variable {X:Cx} {a b:Expr} {ta tb:TE} {pos:Pos}
theorem pe_ix {r:R2} (hr:IxR X r) (ha:PE X a ta) (hb:PE X b tb) (hs:PlainIx b):PE X (.Subscript a b pos) (tOp r ta tb):=by
 intro pins s σ H Q I h
 exact Subscript_ (binT ha hb I h fun v u s2 x y H2 I2 rx ry q=>hr a b pins s2 σ H2 x y v u Q I2 rx ry q (hs _ _))
noncomputable def rIxL (K:PySem.W.Frag):R2:=fun x y H Q=>∃p xs i v,x=.ref p∧y=.int i∧SqL K H p xs∧atI xs i=some v∧Q v H
noncomputable def rIxT (K:PySem.W.Frag):R2:=fun x y H Q=>∃p xs i v,x=.ref p∧y=.int i∧SqT K H p xs∧atI xs i=some v∧Q v H
noncomputable def rIxS:R2:=fun x y H Q=>∃z i c,x=.str z∧y=.int i∧z.length≤sizeLine∧atI z.cps.toList i=some c∧Q (.str ⟨#[c]⟩) H
theorem ix_list:IxR X (rIxL X.K):=by
 intro value slice pins s σ H x y v u Q I rx ry h hs
 obtain ⟨p,xs,i,z,rfl,rfl,hq,he,q⟩:=h
 cases rx
 obtain ⟨t,rfl⟩:=ry
 obtain ⟨its,r,pl,hz⟩:=I.list hq
 obtain ⟨j,h1,h2,h3,h4,h5⟩:=atI_get he
 obtain ⟨w,ew,rw'⟩:=r.get h2
 have hl:=r.length
 have hn:=line63
 have fin:EP X pins σ Q w s:=⟨z,H,I,rw',q⟩
 by_cases h0:0≤i
 ·have hj:i.toNat=j:=by
   rw [seqIndex_of h0 h5] at h1
   exact Option.some.inj h1
  exact item_listR pl.isList h0 (by omega) (by rw [hj];simpa using ew) fin hs
 ·have hj:(i+(its.toArray.size:Int)).toNat=j:=by
   rw [seqIndex_neg (by omega) h4] at h1
   rw [List.size_toArray,←hl]
   exact Option.some.inj h1
  exact subscriptTail_builtinR (x:=w) pl.isList.typeIs slot_list_getitem.lookup
   (wpAny_getItem_list_neg (Q:=fun r s'=>r=w∧EP X pins σ Q r s') pl.isList (by omega) (by rw [List.size_toArray] <;> omega) (by omega) (by rw [hj];simpa using ew) ⟨rfl,fin⟩) hs
theorem ix_tup:IxR X (rIxT X.K):=by
 intro value slice pins s σ H x y v u Q I rx ry h hs
 obtain ⟨p,xs,i,z,rfl,rfl,hq,he,q⟩:=h
 cases rx
 obtain ⟨t,rfl⟩:=ry
 obtain ⟨its,r,pl,hz⟩:=I.tuple hq
 obtain ⟨j,h1,h2,h3,h4,h5⟩:=atI_get he
 obtain ⟨w,ew,rw'⟩:=r.get h2
 have hl:=r.length
 have hn:=line63
 have fin:EP X pins σ Q w s:=⟨z,H,I,rw',q⟩
 exact subscriptTail_builtinR (x:=w) pl.typeIs slot_tuple_getitem.lookup
  (getItem_tuple (j:=j) (Q:=fun r s'=>r=w∧EP X pins σ Q r s') pl (by omega) (by omega) (by rw [List.size_toArray,←hl];exact h1) (by simpa using ew) ⟨rfl,fin⟩) hs
theorem ix_str:IxR X rIxS:=by
 intro value slice pins s σ H x y v u Q I rx ry h hs
 obtain ⟨z,i,c,rfl,rfl,hz,he,q⟩:=h
 obtain ⟨t,rfl⟩:=rx
 obtain ⟨t',rfl⟩:=ry
 obtain ⟨j,h1,h2,h3,h4,h5⟩:=atI_get he
 have hl:z.cps.toList.length=z.length:=by simp [Str.length]
 rw [hl] at h1 h4 h5
 have hn:=line63
 exact tail_any (typeIs_str s z t) slot_str_getitem.lookup (getItem_str (c:=c) (by
  have e1:decide (i < -(2 ^ 63:Int))=false:=decide_eq_false (by omega)
  have e2:decide (i ≥ 2 ^ 63)=false:=decide_eq_false (by omega)
  rw [e1,e2,Bool.or_false]) (by rw [h1];simpa using h2) ⟨.str ⟨#[c]⟩,H,I.tok _,⟨_,rfl⟩,q⟩) hs
theorem mapSeq_set (its:List Value) (n j:Nat) (u:Value):Obj.mapSeq (·.setIfInBounds j u) { cls:=.type "list",data:=.seq its.toArray n }={ cls:=.type "list",data:=.seq (its.set j u).toArray n }:=by
 simp [Obj.mapSeq]
theorem Inv.lst {pins:List (Addr × Obj)} {σ:St} {H:Hp} {s:Shared} {p:Addr} {xs:List V} (I:Inv X pins σ H s) (h:H p=some (.lst xs)) :
  ∃(its:List Value) (n:Nat),Vals xs its∧s.heap.get? p=some { cls:=.type "list",data:=.seq its.toArray n }∧xs.length≤sizeLine:=by
 obtain ⟨z,its,n,r,e⟩:=I.hok p _ h
 exact ⟨its,n,r,e,z⟩
theorem Inv.lstUpd {pins:List (Addr × Obj)} {σ:St} {H:Hp} {s:Shared} {p:Addr} {xs ys:List V} {its its':List Value} {n n':Nat} {f:Obj→Obj} (I:Inv X pins σ H s) (h:H p=some (.lst xs))
  (ho:s.heap.get? p=some { cls:=.type "list",data:=.seq its.toArray n }) (hf:f { cls:=.type "list",data:=.seq its.toArray n }={ cls:=.type "list",data:=.seq its'.toArray n' }) (r:Vals ys its') (hz:ys.length≤sizeLine) (t:Nat) :
  Inv X pins σ (upd H p (.lst ys)) { s with heap:=s.heap.update p f,toks:=t }:=by
 have e:(s.heap.update p f).get? p=some { cls:=.type "list",data:=.seq its'.toArray n' }:=by
  rw [Heap.get?_update_self f ho (by rw [hf] <;> rfl),hf]
 refine I.write (x:=p) (e:=p) (by rw [h];trivial) (.inl rfl) (fun b u hb q=>(Heap.get?_update_other _ _ (Ne.symm hb)).trans q) ⟨_,e⟩ ?_
 exact ⟨hz,its',n',r,e⟩
noncomputable def rSetL:V→V→V→Hp→(Hp→Prop)→Prop:=fun o i v H Q=>∃p xs k j,o=.ref p∧i=.int k∧H p=some (.lst xs)∧ixN xs.length k=some j∧Q (upd H p (.lst (xs.set j v)))
theorem set_list:PSet X rSetL:=by
 intro pins s σ H o i v ov iv u Q I ro ri rv h
 obtain ⟨p,xs,k,j,rfl,rfl,hp,hj,q⟩:=h
 cases ro
 obtain ⟨t,rfl⟩:=ri
 obtain ⟨its,n,r,ho,hz⟩:=I.lst hp
 obtain ⟨h1,h2,h3,h4⟩:=ixN_seq hj
 have hl:=r.length
 have hn:=line63
 have I':Inv X pins σ (upd H p (.lst (xs.set j v))) { s with heap:=s.heap.update p (Obj.mapSeq (·.setIfInBounds j u)) } :=
  I.lstUpd hp ho (mapSeq_set its n j u) (r.set rv j) (by rw [List.length_set];exact hz) s.toks
 by_cases h0:0≤k
 ·have hk:k.toNat=j:=by
   rw [seqIndex_of h0 h4] at h1
   exact Option.some.inj h1
  exact PySem.W.ki_setAt ho h0 (by omega) (by rw [List.size_toArray,←hl];exact h4) (by rw [hk];exact ⟨_,I',q⟩)
 ·have hk:(k+(its.toArray.size:Int)).toNat=j:=by
   rw [seqIndex_neg (by omega) h3] at h1
   rw [List.size_toArray,←hl]
   exact Option.some.inj h1
  exact PySem.W.ki_setBack ho (by omega) (by rw [List.size_toArray,←hl];exact h3) (by omega) (by rw [hk];exact ⟨_,I',q⟩)
theorem slice_bounds (lo hi:Option Int) (n:Nat):(sliceBounds lo hi none n).1=((HT.sIx n 0 lo:Nat):Int)∧(sliceBounds lo hi none n).2.1=((HT.sIx n n hi:Nat):Int)∧(sliceBounds lo hi none n).2.2=1:=by
 refine ⟨?_,?_,rfl⟩
 ·cases lo with
  | none=>simp [sliceBounds,HT.sIx]
  | some i =>
   simp only [sliceBounds,HT.sIx,Option.getD_none,show (1:Int) > 0 by decide,if_true]
   by_cases h:i<0
   ·simp only [h,if_true] <;> omega
   ·simp only [h,if_false] <;> omega
 ·cases hi with
  | none=>simp [sliceBounds,HT.sIx]
  | some i =>
   simp only [sliceBounds,HT.sIx,Option.getD_none,show (1:Int) > 0 by decide,if_true]
   by_cases h:i<0
   ·simp only [h,if_true] <;> omega
   ·simp only [h,if_false] <;> omega
theorem slicePick_cut (its:List Value) (lo hi:Option Int):slicePick its.toArray lo hi none=((its.drop (HT.sIx its.length 0 lo)).take (HT.sIx its.length its.length hi-HT.sIx its.length 0 lo)).toArray:=by
 obtain ⟨h1,h2,h3⟩:=slice_bounds lo hi its.toArray.size
 unfold slicePick
 rw [h1,h2,h3]
 simp only [sliceRange_one,pick_run,List.size_toArray] <;> rfl
noncomputable def rSlL (K:PySem.W.Frag):V→Option Int→Option Int→Hp→VK→Prop:=fun x lo hi H Q=>∃a xs,x=.ref a∧SqL K H a xs∧∀p,H p=none→Q (.ref p) (upd H p (.lst (cutV xs lo hi)))
theorem sl_list:SlR X (rSlL X.K):=by
 intro pins s σ H x v vl vu lo hi sl Q I rx hs pl pu h
 obtain ⟨a,xs,rfl,hx,q⟩:=h
 cases rx
 obtain ⟨its,r,ht,hz⟩:=I.list hx
 have hlen:=r.length
 refine ⟨"list",_,slot_list_getitem.lookup,ht.isList.typeIs,?_⟩
 refine wpAny_getItem_list_slice ht.isList hs pl pu .none (by simp) ?_ (by rw [List.size_toArray] <;> omega)
 rw [slicePick_cut,←hlen]
 refine ⟨.ref s.heap.objs.size,_,I.laid (t':=s.toks) (o:=.lst (cutV xs lo hi)) (fun b ob q=>Heap.get?_push_of_some _ q) (Nat.le_refl _) ?_,rfl,q _ (I.hok.fresh (Nat.le_refl _))⟩
 exact ⟨Nat.le_trans (cutV_length xs lo hi) hz,_,0,(r.drop (HT.sIx xs.length 0 lo)).take (HT.sIx xs.length xs.length hi-HT.sIx xs.length 0 lo),Heap.get?_push_size _ rfl⟩
theorem call_len_seq:CallR X (.builtin "len") (fun xs H Q=>∃p ys,xs=[.ref p]∧(SqL X.K H p ys∨SqT X.K H p ys)∧Q (.int ys.length) H):=by
 intro pins s σ H xs us Q I r h
 obtain ⟨p,ys,rfl,hq,q⟩:=h
 obtain ⟨u,rfl,rx⟩:=vals1 r
 cases rx
 have hn:=line63
 rcases hq with hq|hq
 ·obtain ⟨its,r',pl,hz⟩:=I.list hq
  have hlen:=r'.length
  exact Calls.call_len_list pl.isList (by simp only [List.size_toArray] <;> omega) ⟨.int ys.length,H,I.tok _,⟨s.toks+1,by rw [List.size_toArray,hlen]⟩,q⟩
 ·obtain ⟨its,r',pl,hz⟩:=I.tuple hq
  have hlen:=r'.length
  exact len_tuple pl (by simp only [List.size_toArray] <;> omega) ⟨.int ys.length,H,I.tok _,⟨s.toks+1,by rw [List.size_toArray,hlen]⟩,q⟩
theorem call_len_str:CallR X (.builtin "len") (fun xs H Q=>∃z,xs=[.str z]∧z.length≤sizeLine∧Q (.int z.length) H):=by
 intro pins s σ H xs us Q I r h
 obtain ⟨z,rfl,hz,q⟩:=h
 obtain ⟨u,rfl,t,rfl⟩:=vals1 r
 have hn:=line63
 exact len_str (by omega) ⟨.int z.length,H,I.tok _,⟨_,rfl⟩,q⟩
theorem call_list_of:CallR X (.type "list") (fun xs H Q=>∃p ys,xs=[.ref p]∧(SqL X.K H p ys∨SqT X.K H p ys)∧∀l,H l=none→Q (.ref l) (upd H l (.lst ys))):=by
 intro pins s σ H xs us Q I r h
 obtain ⟨p,ys,rfl,hq,q⟩:=h
 obtain ⟨u,rfl,rx⟩:=vals1 r
 cases rx
 have fin:∀(its:List Value),Vals ys its→ys.length≤sizeLine→∀(h':Heap) (c':Nat),(∀b o',s.heap.get? b=some o'→h'.get? b=some o') →
   h'.get? s.heap.objs.size=some { cls:=.type "list",dict:=none,data:=.seq its.toArray c',slots:=#[] }→EP X pins σ Q (.ref s.heap.objs.size) { s with heap:=h' }:=fun its r' hz h' c' kp e =>
  ⟨.ref s.heap.objs.size,_,I.laid (t':=s.toks) kp (Nat.le_refl _) (show ObjOk X.prog X.w _ h' _ (.lst ys) from ⟨hz,its,c',r',e⟩),rfl,q _ (I.hok.fresh (Nat.le_refl _))⟩
 rcases hq with hq|hq
 ·obtain ⟨its,r',pl,hz⟩:=I.list hq
  have hlen:=r'.length
  obtain ⟨o,ho,hc,n,hd⟩:=pl.isList
  exact call_list_seq p (.inl rfl) ho hc hd (fun h' c' kp e=>fin its r' hz h' c' kp e) (by simp only [List.size_toArray] <;> omega)
 ·obtain ⟨its,r',pl,hz⟩:=I.tuple hq
  have hlen:=r'.length
  obtain ⟨o,ho,hc,n,hd⟩:=pl
  exact call_list_seq p (.inr rfl) ho hc hd (fun h' c' kp e=>fin its r' hz h' c' kp e) (by simp only [List.size_toArray] <;> omega)
theorem call_tuple_of:CallR X (.type "tuple") (fun xs H Q=>∃p ys,xs=[.ref p]∧((SqL X.K H p ys∧∀l,H l=none→Q (.ref l) (upd H l (.tup ys)))∨(SqT X.K H p ys∧Q (.ref p) H))):=by
 intro pins s σ H xs us Q I r h
 obtain ⟨p,ys,rfl,h⟩:=h
 obtain ⟨u,rfl,rx⟩:=vals1 r
 cases rx
 rcases h with ⟨hq,q⟩|⟨hq,q⟩
 ·obtain ⟨its,r',pl,hz⟩:=I.list hq
  have hlen:=r'.length
  refine call_tuple_list pl.isList (fun h' kp=>?_) (by simp only [List.size_toArray] <;> omega)
  have I1:Inv X pins σ H { s with heap:=h' }:=I.kept (t':=s.toks) kp
  have I2:Inv X pins σ (upd H h'.objs.size (.tup ys)) { s with heap:=h'.push { cls:=.type "tuple",data:=.seq its.toArray } } :=
   I1.laid (t':=s.toks) (fun b o e=>Heap.get?_push_of_some _ e) (Nat.le_refl _) (show ObjOk X.prog X.w _ _ _ (.tup ys) from ⟨hz,its,r',IsTup.new _ _⟩)
  exact ⟨.ref h'.objs.size,_,I2,rfl,q _ (I1.hok.fresh (Nat.le_refl _))⟩
 ·obtain ⟨its,r',pl,hz⟩:=I.tuple hq
  exact call_tuple_same pl ⟨.ref p,H,I,rfl,q⟩
noncomputable def tyV (K:PySem.W.Frag) (T:String) (x:V) (H:Hp):Prop:=match x with
 | .str _=>T="str"
 | .int _=>T="int"
 | .ref p=>(T="list"∧∃xs,SqL K H p xs)∨(T="tuple"∧∃o,K.lookup p=some o∧o.cls=.type "tuple"∧o.dict=none) ∨
   (T="dict"∧((∃kvs,H p=some (.dK kvs))∨∃kvs,H p=some (.dT kvs)))∨(T="set"∧∃S n,H p=some (.set S n))
 | _=>False
theorem tyV_is {pins:List (Addr × Obj)} {σ:St} {H:Hp} {s:Shared} {T:String} {x:V} {v:Value} (I:Inv X pins σ H s) (r:RelV x v) (ty:tyV X.K T x H) :
  s.TypeIs v T∧∀a,v=.ref a→∃ob,s.heap.get? a=some ob∧ob.dict=none:=by
 cases x with
 | str z =>
  obtain ⟨t,rfl⟩:=r
  cases (show T="str" from ty)
  exact ⟨typeIs_str s z t,fun _ e=>nomatch e⟩
 | int i =>
  obtain ⟨t,rfl⟩:=r
  cases (show T="int" from ty)
  exact ⟨typeIs_int s i t,fun _ e=>nomatch e⟩
 | ref p =>
  cases r
  rcases ty with ⟨rfl,xs,hq⟩|⟨rfl,o,hk,hc,hd⟩|⟨rfl,hk⟩|⟨rfl,S,n,hk⟩
  ·obtain ⟨its,_,pl,_⟩:=I.list hq
   refine ⟨pl.isList.typeIs,fun a e=>?_⟩
   cases e
   obtain ⟨o,n,e,c,hd,_⟩:=pl
   exact ⟨o,e,hd⟩
  ·refine ⟨⟨o,I.kIn p o hk,hc⟩,fun a e=>?_⟩
   cases e
   exact ⟨o,I.kIn _ o hk,hd⟩
  ·have z:∃o,s.heap.get? p=some o∧o.ExactDict:=by
    rcases hk with ⟨kvs,hk⟩|⟨kvs,hk⟩
    ·obtain ⟨_,_,_,_,o,_,_,e,ex,_⟩:=I.hok p _ hk
     exact ⟨o,e,ex⟩
    ·obtain ⟨_,_,_,_,o,_,_,e,ex,_⟩:=I.hok p _ hk
     exact ⟨o,e,ex⟩
   obtain ⟨o,e,ex⟩:=z
   refine ⟨⟨o,e,ex.1⟩,fun a e2=>?_⟩
   cases e2
   exact ⟨o,e,ex.2.1⟩
  ·obtain ⟨o,_,_,_,e,ex,_⟩:=I.hok p _ hk
   refine ⟨⟨o,e,ex.1⟩,fun a e2=>?_⟩
   cases e2
   exact ⟨o,e,ex.2.1⟩
 | _=>exact False.elim ty
noncomputable def tBM0 (K:PySem.W.Frag) (T:String) (r:V→List V→Hp→VK→Prop) (to:TE):TE:=fun σ H Q=>to σ H fun x H1=>tyV K T x H1∧r x [] H1 Q
noncomputable def tBM (K:PySem.W.Frag) (T:String) (r:V→List V→Hp→VK→Prop) (to:TE) (t:TA):TE:=fun σ H Q=>to σ H fun x H1=>tyV K T x H1∧t σ H1 fun xs H2=>r x xs H2 Q
variable {o e:Expr} {es:List Expr} {to:TE} {t:TA} {name:Str} {apos cpos:Pos} {T id:String} {r:V→List V→Hp→VK→Prop}
theorem pe_bm0 (pa:PlainAttrs T) (slot:Slot T name id) (hty:typeOf (.builtin id)=pure (.type "method_descriptor")) (hm:MtR X id r) (ho:PE X o to)
  (hbase:attributeBase o name X.env (eval o X.env)=eval o X.env:=by rfl) (hline:(apos.endLine == cpos.line)=true:=by rfl):PE X (.Call (.Attribute o name apos) [] [] cpos) (tBM0 X.K T r to):=by
 intro pins s σ H Q I h
 refine wpAny_Call_method0_late hbase hline (thn (ho pins s σ H _ I h) fun v s1 ⟨x,H1,I1,r1,ty,q1⟩=>?_)
 obtain ⟨h1,h2⟩:=tyV_is I1 r1 ty
 exact ⟨T,id,pa,slot,hty,h1,h2,Calls.callWith_builtin rfl (PySem.evalArgs_none (hm pins s1 σ H1 x [] v [] Q I1 r1 .nil q1))⟩
theorem pe_bm (pa:PlainAttrs T) (slot:Slot T name id) (hty:typeOf (.builtin id)=pure (.type "method_descriptor")) (hm:MtR X id r) (ho:PE X o to) (ha:PA X (e::es) t)
  (hbase:attributeBase o name X.env (eval o X.env)=eval o X.env:=by rfl)
  (hfew:((backTo cpos (starEach (e::es) X.env)).all (fun x=>!x.1) && (backToKw cpos (keywordEach [] X.env)).all (fun x=>x.1.isSome)
   && decide ((e::es).length+([]:List Keyword).length+(if ([]:List Keyword).isEmpty then 0 else 1)<30))=true:=by rfl)
  (hline:(apos.endLine == cpos.line)=true:=by rfl) (hs:starEach (e::es) X.env=(false,eval e X.env)::starEach es X.env:=by rfl) (hplain:(backTo cpos (starEach es X.env)).any (·.1)=false:=by rfl) :
  PE X (.Call (.Attribute o name apos) (e::es) [] cpos) (tBM X.K T r to t):=by
 intro pins s σ H Q I h
 refine wpAny_Call_method_late hbase hfew hline rfl (thn (ho pins s σ H _ I h) fun v s1 ⟨x,H1,I1,r1,ty,q1⟩=>?_)
 obtain ⟨h1,h2⟩:=tyV_is I1 r1 ty
 refine ⟨T,id,pa,slot,hty,h1,h2,?_⟩
 have hA:=ha cpos pins s1 σ H1 _ I1 q1
 rw [hs] at hA ⊢
 refine Calls.callWith_builtin (by show (false || (backTo cpos (starEach es X.env)).any (·.1))=false;rw [hplain] <;> rfl) (Calls.evalArgs_plain ?_)
 exact thn hA fun us s2 ⟨vs,H2,I2,r2,q2⟩=>hm pins s2 σ H2 x vs v us Q I2 r1 r2 q2
end
end L2
namespace L2
open PySem PySem.Spec PyProof.Rows
noncomputable def MtM (X:Cx) (id:String) (r:V→List V→Hp→VK→Prop):Prop :=
 ∀(pins:List (Addr × Obj)) (s:Shared) (σ:St) (H:Hp) (x:V) (xs:List V) (v:Value) (us:List Value) (Q:VK),Inv X pins σ H s→RelV x v→Vals xs us→r x xs H Q →
  wpAny (model X.prog X.w) X.A (call (.builtin id) (v::us)) (EP X pins σ Q) X.xe s
theorem Vals.one:∀ {x:V} {us:List Value},Vals [x] us→∃u,us=[u]∧RelV x u
 | _,_,.cons r .nil=>⟨_,rfl,r⟩
theorem Vals.zero:∀ {us:List Value},Vals [] us→us=[]
 | _,.nil=>rfl
theorem Vals.dropLast {xs:List V} {us:List Value} (h:Vals xs us):Vals xs.dropLast us.dropLast:=by
 induction h with
 | nil=>exact .nil
 | cons r t ih =>
  cases t with
  | nil=>exact .nil
  | cons q t'=>exact .cons r ih
theorem Vals.rep {xs:List V} {us:List Value} (h:Vals xs us):∀k:Nat,Vals (List.replicate k xs).flatten (List.replicate k us).flatten
 | 0=>.nil
 | k+1=>by
  rw [List.replicate_succ,List.replicate_succ,List.flatten_cons,List.flatten_cons]
  exact Vals.append h (Vals.rep h k)
theorem erase_last {α:Type} (l:List α):l.eraseIdx (l.length-1)=l.dropLast:=by
 induction l with
 | nil=>rfl
 | cons a r ih =>
  cases r with
  | nil=>rfl
  | cons b r =>
   have e:(a::b::r).length-1=((b::r).length-1)+1:=by
    have h1:(a::b::r).length=r.length+2:=rfl
    have h2:(b::r).length=r.length+1:=rfl
    omega
   rw [e,List.eraseIdx_cons_succ,ih]
   all_goals rfl
theorem foldl_rep (its:List Value):∀(k:Nat) (acc:List Value),
  List.foldl (fun x1 x2=>x1++x2) acc.toArray (List.replicate k its.toArray)=(acc++(List.replicate k its).flatten).toArray
 | 0,acc=>by simp
 | k+1,acc=>by
  have e:acc.toArray++its.toArray=(acc++its).toArray:=by simp
  have e2:(acc++its)++(List.replicate k its).flatten=acc++(List.replicate (k+1) its).flatten:=by
   rw [List.replicate_succ,List.flatten_cons,List.append_assoc]
  rw [←e2,←foldl_rep its k (acc++its),←e,List.replicate_succ,List.foldl_cons]
section
variable {X:Cx} {pins:List (Addr × Obj)} {σ:St} {H:Hp} {s:Shared} {l b:Addr} {xs ys zs:List V}
theorem Inv.lset {its its':List Value} {n:Nat} {f:Array Value→Array Value} {t':Nat} (I:Inv X pins σ H s) (hH:H l=some (.lst xs))
  (e:s.heap.get? l=some { cls:=.type "list",data:=.seq its.toArray n }) (hf:f its.toArray=its'.toArray) (hv:Vals ys its') (hz:ys.length≤sizeLine) :
  Inv X pins σ (upd H l (.lst ys)) { s with heap:=s.heap.update l (Obj.mapSeq f),toks:=t' }:=by
 have q:=PySem.IsL.update e f
 rw [hf] at q
 refine I.write (x:=l) (e:=l) (by rw [hH];exact trivial) (.inl rfl) (fun b' u hb hu=>(Heap.get?_update_other s.heap (Obj.mapSeq f) (Ne.symm hb)).trans hu) ⟨_,q⟩ ?_
 exact ⟨hz,its',_,hv,q⟩
theorem Inv.lnew {its:List Value} {t':Nat} (I:Inv X pins σ H s) (hv:Vals ys its) (hz:ys.length≤sizeLine) :
  Inv X pins σ (upd H s.heap.objs.size (.lst ys)) { s with heap:=s.heap.push { cls:=.type "list",data:=.seq its.toArray },toks:=t' } :=
 I.laid (fun _ _ q=>Heap.get?_push_of_some _ q) (Nat.le_refl _) ⟨hz,its,0,hv,Heap.get?_push_size _ rfl⟩
theorem Inv.fresh (I:Inv X pins σ H s):H s.heap.objs.size=none:=I.hok.fresh (Nat.le_refl _)
theorem Inv.lstM (I:Inv X pins σ H s) (hH:H l=some (.lst xs)):xs.length≤sizeLine∧∃(its:List Value) (n:Nat),Vals xs its∧xs.length=its.length∧s.heap.get? l=some { cls:=.type "list",data:=.seq its.toArray n }:=by
 obtain ⟨z,its,n,r,e⟩:=I.hok l _ hH
 exact ⟨z,its,n,r,r.length,e⟩
theorem notLongL {n:Nat} (h:n≤sizeLine):Builtin.List.listTooLong n=false:=by
 unfold Builtin.List.listTooLong
 exact decide_eq_false (by omega)
end
section
variable {X:Cx}
noncomputable def rAppend:V→List V→Hp→VK→Prop:=fun x vs H Q=>∃l xs y,x=.ref l∧vs=[y]∧H l=some (.lst xs)∧xs.length<sizeLine∧Q .non (upd H l (.lst (xs++[y])))
theorem mt_append:MtM X "list.append" rAppend:=by
 intro pins s σ H x vs v us Q I rx rv h
 obtain ⟨l,xs,y,rfl,rfl,hH,hz,q⟩:=h
 cases rx
 obtain ⟨u,rfl,ru⟩:=rv.one
 obtain ⟨z,its,n,r,hl,e⟩:=I.lstM hH
 refine call_meets F.slot_list_append ⟨_,e,rfl⟩ F.entry_list_append (F.args_list_append_2 _ _) (PySem.list_append l its.toArray n u (by rw [List.size_toArray];omega)) ⟨e,?_⟩
 refine ⟨.non,_,I.lset (its':=its++[u]) hH e (by simp) (r.append (.cons ru .nil)) ?_,rfl,q⟩
 rw [List.length_append,List.length_singleton]
 omega
noncomputable def rExtend:V→List V→Hp→VK→Prop:=fun x vs H Q=>∃l b xs zs,x=.ref l∧vs=[.ref b]∧H l=some (.lst xs)∧H b=some (.lst zs)∧xs.length+zs.length≤sizeLine∧Q .non (upd H l (.lst (xs++zs)))
theorem mt_extend:MtM X "list.extend" rExtend:=by
 intro pins s σ H x vs v us Q I rx rv h
 obtain ⟨l,b,xs,zs,rfl,rfl,hH,hB,hz,q⟩:=h
 cases rx
 obtain ⟨u,rfl,ru⟩:=rv.one
 cases ru
 obtain ⟨z,its,n,r,hl,e⟩:=I.lstM hH
 obtain ⟨z2,its2,n2,r2,hl2,e2⟩:=I.lstM hB
 have hsz:its.toArray.size+its2.toArray.size≤sizeLine:=by rw [List.size_toArray,List.size_toArray];omega
 have hlong:¬(!its.toArray.isEmpty && Builtin.List.listTooLong (its.toArray.size+its2.toArray.size))=true:=by
  rw [notLongL hsz,Bool.and_false]
  exact Bool.false_ne_true
 refine call_meets F.slot_list_extend ⟨_,e,rfl⟩ F.entry_list_extend (F.args_list_extend_2 _ _)
  (AutoSeq1.list_extend_list_list_0 l its.toArray n b its2.toArray n2 hlong (by rw [List.size_toArray];omega) (by omega)) ⟨e,e2,?_⟩
 refine ⟨.non,_,I.lset (its':=its++its2) hH e (by simp) (r.append r2) ?_,rfl,q⟩
 rw [List.length_append]
 omega
noncomputable def rPop:V→List V→Hp→VK→Prop:=fun x vs H Q=>∃l xs y,x=.ref l∧vs=[]∧H l=some (.lst xs)∧xs[xs.length-1]?=some y∧Q y (upd H l (.lst xs.dropLast))
theorem mt_pop:MtM X "list.pop" rPop:=by
 intro pins s σ H x vs v us Q I rx rv h
 obtain ⟨l,xs,y,rfl,rfl,hH,hy,q⟩:=h
 cases rx
 have hus:=rv.zero
 subst hus
 obtain ⟨z,its,n,r,hl,e⟩:=I.lstM hH
 obtain ⟨u,hu,ru⟩:=r.get hy
 have hy':its.toArray[its.toArray.size-1]?=some u:=by
  show its.toArray[its.length-1]?=some u
  rw [←Array.getElem?_toList,←hl]
  exact hu
 refine call_meets F.slot_list_pop ⟨_,e,rfl⟩ F.entry_list_pop (F.args_list_pop_1 _) (MeetsSeq.list_pop_last l its.toArray n u hy' (by rw [List.size_toArray];omega)) ⟨e,?_⟩
 refine ⟨y,_,I.lset (its':=its.dropLast) hH e ?_ r.dropLast ?_,ru,q⟩
 ·show its.toArray.eraseIdxIfInBounds (its.toArray.size-1)=its.dropLast.toArray
  rw [List.size_toArray,List.eraseIdxIfInBounds_toArray,erase_last]
 ·rw [List.length_dropLast]
  omega
noncomputable def rCat:R2:=fun x y H Q=>∃l b xs zs,x=.ref l∧y=.ref b∧H l=some (.lst xs)∧H b=some (.lst zs)∧xs.length+zs.length≤sizeLine∧∀p,H p=none→Q (.ref p) (upd H p (.lst (xs++zs)))
theorem op_cat:OpR X (binaryOp .Add) rCat:=by
 intro pins s σ H x y v u Q I rx ry h
 obtain ⟨l,b,xs,zs,rfl,rfl,hH,hB,hz,q⟩:=h
 cases rx
 cases ry
 obtain ⟨z,its,n,r,hl,e⟩:=I.lstM hH
 obtain ⟨z2,its2,n2,r2,hl2,e2⟩:=I.lstM hB
 refine PySem.P.add_list e e2 ?_ (by rw [List.size_toArray,List.size_toArray];omega)
 have ea:its.toArray++its2.toArray=(its++its2).toArray:=by simp
 rw [ea]
 exact ⟨.ref _,_,I.lnew (t':=s.toks) (r.append r2) (by rw [List.length_append];omega),rfl,q _ I.fresh⟩
noncomputable def rRep:R2:=fun x y H Q=>∃l k xs,x=.ref l∧y=.int k∧H l=some (.lst xs)∧-(2 ^ 63)≤k∧k<2 ^ 63∧xs.length*k.toNat≤sizeLine ∧
 ∀p,H p=none→Q (.ref p) (upd H p (.lst (List.replicate k.toNat xs).flatten))
theorem len_rep {α:Type} (xs:List α) (k:Nat):(List.replicate k xs).flatten.length=k*xs.length:=by
 induction k with
 | zero=>simp
 | succ k ih=>rw [List.replicate_succ,List.flatten_cons,List.length_append,ih,Nat.succ_mul,Nat.add_comm]
theorem op_rep:OpR X (binaryOp .Mult) rRep:=by
 intro pins s σ H x y v u Q I rx ry h
 obtain ⟨l,k,xs,rfl,rfl,hH,h1,h2,hz,q⟩:=h
 cases rx
 obtain ⟨t,rfl⟩:=ry
 obtain ⟨z,its,n,r,hl,e⟩:=I.lstM hH
 have hlen:its.toArray.size*k.toNat≤sizeLine:=by rw [List.size_toArray,←hl];exact hz
 have hcap:¬its.toArray.size*k.toNat > (2 ^ 63-1)/8:=by
  have:(sizeLine:Nat)≤(2 ^ 63-1)/8:=by decide
  omega
 have hfit:¬(!Builtin.List.listFitsIndex k)=true:=by
  rw [fitsIndex_both h1 h2]
  exact Bool.false_ne_true
 have hlong:¬Builtin.List.listTooLong (its.toArray.size*k.toNat)=true:=by
  rw [notLongL hlen]
  exact Bool.false_ne_true
 have hnew:List.foldl (fun x1 x2=>x1++x2) #[] (List.replicate (if its.toArray.isEmpty=true then 0 else k.toNat) its.toArray)=(List.replicate k.toNat its).flatten.toArray:=by
  have f0:∀m:Nat,List.foldl (fun x1 x2=>x1++x2) #[] (List.replicate m its.toArray)=(List.replicate m its).flatten.toArray:=fun m=>by
   have:=foldl_rep its m []
   rw [List.nil_append] at this
   exact this
  rw [f0]
  cases its with
  | nil=>simp
  | cons a r'=>rw [if_neg (by simp)]
 refine wpAny_binaryOp_repeat_ref (T:="list") (U:="int") (by decide) ⟨_,e,rfl⟩ (fun s'=>typeIs_int s' k t) noFill_list_mul F.fills_int_mul F.slot_int_rmul repeat_list F.slot_int_index.lookup
  (call_meets F.slot_int_rmul (typeIs_int s k t) F.entry_int_rmul (F.args_int_rmul_2 _ _) (int___rmul___int_list k t l its.toArray n)
   ⟨e,rfl,⟨_,e,rfl⟩,call_meets F.slot_list_mul ⟨_,e,rfl⟩ F.entry_list_mul (F.args_list_mul_2 _ _) (AutoListH.list___mul___list_int_3 l its.toArray n k t hfit hcap hlong) ⟨e,?_⟩⟩)
 rw [hnew]
 exact ⟨.ref _,_,I.lnew (t':=s.toks) (r.rep k.toNat) (by rw [len_rep,Nat.mul_comm];exact hz),rfl,q _ I.fresh⟩
end
section
variable {prog:Program} {w:World} {A:Around} {E:Value→Shared→Prop} {s:Shared}
set_option maxRecDepth 100000 in
end
section
variable {X:Cx}
end
end L2
namespace Att
open PySem PySem.W PySem.Calls PyProof.Rows
theorem ints_of_wellAll {P:Params} {h:Heap}:∀(ns:List Int) (vs:List Value),WellAll P h vs (ns.map WData.int)→IntsAre vs ns:=by
 intro ns
 induction ns with
 | nil =>
  intro vs w
  rw [List.map_nil] at w
  cases w
  exact .nil
 | cons n ns ih =>
  intro vs w
  rw [List.map_cons] at w
  cases w with
  | cons a b =>
   cases a
   exact .cons _ _ (ih _ b)
theorem script_of {l:OpenLaw} {n:Nat} (hn:l.most=some n) {P:Params} {h:Heap} {args:List WData} {vals:List Value}
  (hpre:l.row.toRowW.claim.pre args=true) (hwl:WellAll P h vals args) :
  ∃a vs ns,vals=[Value.ref a]∧args=[WData.list (ns.map WData.int)]∧h.get? a=some { cls:=.type "list",data:=.seq vs.toArray }∧IntsAre vs ns∧ns.length≤n:=by
 have hsh:WShape.hasAll [] args [.list .int]=true:=(pre_splitW hpre).1
 have hc:l.pre.holds [] { args:=args }=true:=(pre_splitW hpre).2
 obtain ⟨d,r,rfl,h1,h2⟩:=hasAllW_cons hsh
 obtain rfl:=hasAllW_nil h2
 obtain ⟨xs,rfl,h3⟩:=hasW_list h1
 obtain ⟨ns,rfl⟩:=items_int h3
 have hlen:ns.length≤n:=by
  unfold OpenLaw.pre at hc
  have h4:(WTm.not (.lt (.lit (.int (n:Int))) (.len (.arg 0)))).holds [] { args:=[.list (ns.map .int)] }=true:=by
   have h4:=(holds_andW hc).1
   rw [hn] at h4
   exact h4
  have h5:=condW_of h4 (w_not (w_lt w_lit (w_len_list (w_arg rfl))))
  rw [List.length_map] at h5
  refine Nat.le_of_not_lt fun q=>?_
  have q':(n:Int)<((ns.length:Nat):Int):=by omega
  first
   | (rw [decide_eq_true q'] at h5;exact absurd h5 (by decide))
   | (simp at h5;omega)
 cases hwl with
 | cons w1 w2 =>
  cases w2
  cases w1 with
  | list ho hall=>exact ⟨_,_,ns,rfl,rfl,ho,ints_of_wellAll ns _ hall,hlen⟩
theorem post_true (l:OpenLaw) (args:List WData):l.row.toRowW.claim.post args (.bool true) args=true :=
 postW_of (r:=l.row.toRowW) (X:=(true == true))
  (show WShape.has [] (.bool true) .bool=true by first|rfl|decide|simp [WShape.has,WShape.arms,WShape.armsAll])
  (show (WTm.eq .res (.lit (.bool true))).value [] { args:=args,res:=some (.bool true),after:=args }=some (.bool (true == true)) from w_eq_bool (w_res rfl) w_lit) rfl
theorem attach_call {l:OpenLaw} {n:Nat} {q:Program} {loose:List Str} {XP:(Str→Option Value)→Heap→Prop} {YP:World→Heap→Prop} {d:DefRec}
  (hn:l.most=some n) (hdf:d.params.defaults=[])
  (call:∀(w:World) (s₀ s₁:Shared) (mg mb:Str→Option Value) (fa:Addr) (o:Obj) (pm cd doc:Value) (a:Addr) (vs:List Value) (ns:List Int),
   Ground q loose [] XP w s₀ mg mb s₁.heap→YP w s₁.heap →
   s₁.heap.get? fa=some o→o.data=.func (docDef d.name d.params d.body d.scope pm cd doc)→s₁.heap.CodeRec cd d.name→mg d.name=some (.ref fa) →
   s₁.heap.get? a=some { cls:=.type "list",data:=.seq vs.toArray }→IntsAre vs ns→ns.length≤n→s₁.gens=#[] →
   codeAny (model l.prog w) callerA (.call (.ref fa) ⟨[.ref a],[]⟩) (fun r s'=>r=.ok (.ret (.bool true))∧OldK s₁.heap s'.heap∧s'.os=s₁.os∧AllBare s'.gens) s₁) :
  WalkO q loose XP YP l.row.toRowW d [] (fun f vs=>PySem.call f vs):=by
 intro w s₀ s₁ mg mb G Y fa o pm cd doc dV kV ho hd hcd hD hmg hg args vals as hpre hlay hrd hwl hlo
 obtain rfl:dV=.none:=Dflts.none hD hdf
 obtain rfl:kV=.none:=Dflts.noKw hD
 obtain ⟨a,vs,ns,rfl,rfl,hobj,hints,hlen⟩:=script_of hn hpre hwl
 refine enter_call (codeAny_mono (call w s₀ s₁ mg mb fa o pm cd doc a vs ns G Y ho (fd_plain hd) hcd hmg hobj hints hlen hg) fun r s' hq=>?_)
 obtain ⟨rfl,h2,h3,h4⟩:=hq
 exact ⟨.inl ⟨.bool true,.bool true,[],rfl,fun _=>rfl,.bool true,post_true l _,fun _=>⟨List.Pairwise.nil,fun _ hm=>(nomatch hm)⟩⟩,h2,h3,h4⟩
section
variable {prog:Program} {w:World} {A:Around} {E:Value→Shared→Prop} {s:Shared} {K:Frag}
end
end Att
namespace L2
open PySem PySem.Spec PyProof.Rows
theorem vals_ints:∀ {vs:List Value} {ns:List Int},IntsAre vs ns→Vals (ns.map V.int) vs
 | _,_,.nil=>.nil
 | _,_,.cons n t h=>.cons ⟨t,rfl⟩ (vals_ints h)
end L2
namespace L2
open PySem PySem.Spec PyProof.Rows
end L2
namespace L2
open PySem PySem.Spec PyProof.Rows
noncomputable def defArgs (s:Stmt):Arguments:=match s with
 | .FunctionDef _ a _ _ _ _ _ _ _ _=>a
 | _=>{ posonlyargs:=[],args:=[],vararg:=none,kwonlyargs:=[],kw_defaults:=[],kwarg:=none,defaults:=[] }
noncomputable def defBody (s:Stmt):List Stmt:=match s with
 | .FunctionDef _ _ b _ _ _ _ _ _ _=>b
 | _=>[]
noncomputable def defScope (s:Stmt):Scope:=match s with
 | .FunctionDef _ _ _ _ _ _ sc _ _ _=>sc
 | _=>{ kind:=.function,names:=[],isGenerator:=false,isCoroutine:=false }
noncomputable abbrev CX0:CXT:=fun _ _ _ _ _ _=>False
noncomputable abbrev E0:XK:=fun _ _ _=>False
theorem pass0 {X:Cx}:Passes CX0 X E0:=fun _ _ _ _ _ _ _ h=>h.elim
structure Fun (K:PySem.W.Frag) (x qual:Str) (st:Stmt) (f:Addr) (fd:FuncData):Prop where
 ex:∃(oc:Value) (od:Option Addr) (kV doc pm:Value) (an:Option Addr) (cdv ct:Value) (osl:Array (Option Value)),
  fd=PySem.W.fnOf x qual (defArgs st) (defBody st) (defScope st) .none kV doc pm an cdv ct∧K.lookup f=some ⟨oc,od,.func fd,osl⟩∧PySem.W.codeIn K cdv qual=true
 kp:PySem.W.keepIn K (.ref f)=true
section
variable {P:Program} {w:World} {K:PySem.W.Frag} {mg:Str→Option Value} {base:Heap}
theorem Fun.ok {x qual:Str} {st:Stmt} {f:Addr} {fd:FuncData} {N ps:List Str} {k:Nat} {sp:Sp} (F:Fun K x qual st f fd) (S:FnScope N ps (defScope st)) (len:∀vs H Q E,sp vs H Q E→vs.length=ps.length)
  (hbody:∀(cdv:Value) (A:Around) (outer:List Env) (s:Shared) (H:Hp) (vs:List V) (Q:VK) (E:XK),Room k (A.deeper (envOfC qual (defScope st) s.heap.objs.size f cdv))→sp vs H Q E →
   ∃t,PSs (cxOf CX0 P w K mg base N qual (defScope st) f cdv A outer s H E).nox (defBody st) t∧t { nx:=fun _ H'=>Q .non H',rt:=Q } (start N vs) H):FnOk P w K mg base CX0 (k+1) f fd ps sp:=by
 obtain ⟨oc,od,kV,doc,pm,an,cdv,ct,osl,rfl,lk,hcd⟩:=F.ex
 refine fn_of lk hcd S len fun A outer s H vs Q E hr hsp=>?_
 obtain ⟨t,h,q⟩:=hbody cdv A outer s H vs Q E hr hsp
 exact ⟨t,h.nox,q⟩
theorem Fun.binds {x qual:Str} {st:Stmt} {f:Addr} {fd:FuncData} {ps:List Str} (F:Fun K x qual st f fd)
  (h:∀(kV doc pm:Value) (an:Option Addr) (cdv ct:Value) (us:List Value),us.length=ps.length→bindArgs (PySem.W.fnOf x qual (defArgs st) (defBody st) (defScope st) .none kV doc pm an cdv ct) ⟨us,[]⟩=pure (ps.zip us)):Binds K fd ps []:=by
 obtain ⟨oc,od,kV,doc,pm,an,cdv,ct,osl,rfl,lk,hcd⟩:=F.ex
 exact .all (h kV doc pm an cdv ct)
theorem fun_mk {x qual:Str} {st:Stmt} {f:Addr} {oc:Value} {od an:Option Addr} {osl:Array (Option Value)} {kV doc pm cdv ct:Value} (l:K.lookup f=some ⟨oc,od,.func (PySem.W.fnOf x qual (defArgs st) (defBody st) (defScope st) .none kV doc pm an cdv ct),osl⟩)
  (c:PySem.W.codeIn K cdv qual=true) (k:PySem.W.keepIn K (.ref f)=true):Fun K x qual st f (PySem.W.fnOf x qual (defArgs st) (defBody st) (defScope st) .none kV doc pm an cdv ct):=⟨⟨oc,od,kV,doc,pm,an,cdv,ct,osl,rfl,l,c⟩,k⟩
end
section
variable {X:Cx}
end
theorem iteT {A B:Prop} (h:A):if true=true then A else B:=by
 rw [if_pos rfl]
 exact h
noncomputable def Same (H H':Hp):Prop:=∀b o,H b=some o→H' b=some o
theorem Same.seq {K:PySem.W.Frag} {H H':Hp} {a:Addr} {xs:List V} (e:Same H H') (h:SqL K H a xs):SqL K H' a xs:=by
 rcases h with (h|⟨o,h⟩)|h
 ·exact .inl (.inl (e _ _ h))
 ·exact .inl (.inr ⟨o,e _ _ h⟩)
 ·exact .inr h
end L2
set_option Elab.async false
set_option linter.all false
set_option maxRecDepth 100000
namespace HX
open PySem PySem.Spec PyProof.Rows L2
section
variable {X:Cx} {a b c:Expr} {ta tb tc:TE} {pos:Pos}
noncomputable def CBig (j:Int):Prop:=0<j∧j.natAbs.log2<9000
noncomputable def CMB (i j:Int):Prop:=i.natAbs<2 ^ 6000∧j.natAbs<2 ^ 6000∨(-(2 ^ 64)<i∧i<2 ^ 64)∨(-(2 ^ 64)<j∧j<2 ^ 64)
theorem bits_of {i:Int} {n:Nat} (h:i.natAbs<2 ^ n):Builtin.Int.intBits i≤n:=by
 unfold Builtin.Int.intBits
 split
 ·exact Nat.zero_le _
 ·rename_i hz
  have h0:i.natAbs≠0:=by
   intro z
   apply hz
   have:i=0:=by omega
   simp [this]
  have:i.natAbs.log2<n:=(Nat.log2_lt h0).mpr h
  omega
theorem CMB.ok {i j:Int} (h:CMB i j):IntMulOk i j:=by
 rcases h with ⟨h1,h2⟩|⟨h1,h2⟩|⟨h1,h2⟩
 ·exact IntMulOk.of_le (bits_of h1) (bits_of h2) (by decide)
 ·exact .of_left (intBits_le_64 h1 h2)
 ·exact .of_right (intBits_le_64 h1 h2)
theorem CBig.of {j:Int} (h:0<j) (h2:j<2 ^ 8999):CBig j:=by
 refine ⟨h,?_⟩
 have h0:j.natAbs≠0:=by omega
 have:j.natAbs<2 ^ 8999:=by
  have e:((2:Int) ^ 8999)=((2 ^ 8999:Nat):Int):=by rw [Int.natCast_pow];rfl
  rw [e] at h2
  generalize (2:Nat) ^ 8999=z at h2 ⊢
  omega
 have:=(Nat.log2_lt h0).mpr this
 omega
theorem op_mulB:OpR X (binaryOp .Mult) (rI CMB fun i j=>.int (i*j)):=opI fun _ _ _ _ _ _ _ hc q=>mul_int q hc.ok
theorem op_fdivB:OpR X (binaryOp .FloorDiv) (rI (fun _ j=>CBig j) fun i j=>.int (i/j)):=opI fun i j _ _ _ _ _ hc q=>by
 refine floordiv_int (by have:=hc.1;omega) ?_ (.inl (PyProof.noPylong_of_log2 hc.2))
 rw [Int.fdiv_eq_ediv_of_nonneg _ (Int.le_of_lt hc.1)]
 exact q
theorem call_divmodB:CallR X (.builtin "divmod") (fun xs H Q=>∃i j,xs=[.int i,.int j]∧CBig j∧∀p,H p=none→Q (.ref p) (upd H p (.tup [.int (i/j),.int (i % j)]))):=by
 intro pins s σ H xs us Q I r h
 obtain ⟨i,j,rfl,hc,q⟩:=h
 obtain ⟨u,v,rfl,⟨t,rfl⟩,⟨t',rfl⟩⟩:=vals2 r
 refine divmod_int (by have:=hc.1;omega) ?_ (.inl (PyProof.noPylong_of_log2 hc.2))
 rw [Int.fdiv_eq_ediv_of_nonneg _ (Int.le_of_lt hc.1),Int.fmod_eq_emod_of_nonneg _ (Int.le_of_lt hc.1)]
 have hf:H s.heap.objs.size=none:=I.hok.fresh (Nat.le_refl _)
 refine ⟨.ref s.heap.objs.size,upd H s.heap.objs.size (.tup [.int (i/j),.int (i % j)]),I.laid (t':=s.toks+1+1) (fun b u e=>Heap.get?_push_of_some _ e) (Nat.le_refl _) ?_,rfl,q _ hf⟩
 exact ⟨by show 2≤sizeLine;decide,[_,_],.cons ⟨_,rfl⟩ (.cons ⟨_,rfl⟩ .nil),⟨_,Heap.get?_push_size _ rfl,rfl,_,rfl⟩⟩
theorem beq_bool {x:V} {v:Value} (r:RelV x v) (k:Bool):(v == Value.bool k)=decide (x=.bl k):=by
 cases x with
 | non=>cases r;rfl
 | bl b=>cases r;cases b <;> cases k <;> rfl
 | int _=>obtain ⟨t,rfl⟩:=r;rfl
 | str _=>obtain ⟨t,rfl⟩:=r;rfl
 | byt _=>obtain ⟨t,rfl⟩:=r;rfl
 | flt _=>obtain ⟨t,rfl⟩:=r;rfl
 | ref _=>cases r;rfl
 | ty _=>cases r;rfl
theorem plain_bool {x:V} {v:Value} (r:RelV x v) (k:Bool):plainIs v (.bool k)=true:=by
 cases x with
 | non=>cases r;rfl
 | bl b=>cases r;rfl
 | int _=>obtain ⟨t,rfl⟩:=r;rfl
 | str _=>obtain ⟨t,rfl⟩:=r;rfl
 | byt _=>obtain ⟨t,rfl⟩:=r;rfl
 | flt _=>obtain ⟨t,rfl⟩:=r;rfl
 | ref _=>cases r;rfl
 | ty _=>cases r;rfl
noncomputable def rIsB:R2:=fun x y H Q=>∃k,y=.bl k∧Q (.bl (decide (x=.bl k))) H
noncomputable def rIsNotB:R2:=fun x y H Q=>∃k,y=.bl k∧Q (.bl (!decide (x=.bl k))) H
theorem op_isB:OpR X (compareOp .Is) rIsB:=by
 intro pins s σ H x y v u Q I rx ry h
 obtain ⟨k,rfl,q⟩:=h
 cases ry
 exact wpAny_is_plain (plain_bool rx k) ⟨.bl _,H,I,by rw [beq_bool rx k];rfl,q⟩
theorem op_isNotB:OpR X (compareOp .IsNot) rIsNotB:=by
 intro pins s σ H x y v u Q I rx ry h
 obtain ⟨k,rfl,q⟩:=h
 cases ry
 exact wpAny_isNot_plain (plain_bool rx k) ⟨.bl _,H,I,by rw [beq_bool rx k];rfl,q⟩
noncomputable def isKind (c n:String):Bool:=c == n || (n == "bool" && c == "int")
noncomputable def kitF (n c:String):Option Bool:=if (Value.type n == Value.type c)=true then some true else if PySem.W.kitMeta c=true then (fastBuiltinMro n).map (·.contains (.type c)) else none
theorem kitF_eq (K:PySem.W.Frag) (n c:String):PySem.W.kitOne K (.type n) (.type c)=kitF n c:=rfl
theorem kitF_all:∀c∈["int","bool","str","tuple","list","dict"],∀n∈["NoneType","bool","int","str","list","tuple","dict"],kitF n c=some (isKind c n):=by decide +kernel
theorem kit_kind (K:PySem.W.Frag):∀c∈["int","bool","str","tuple","list","dict"],∀n∈["NoneType","bool","int","str","list","tuple","dict"],PySem.W.kitOne K (.type n) (.type c)=some (isKind c n):=by
 intro c hc n hn
 rw [kitF_eq]
 exact kitF_all c hc n hn
end
end HX
namespace HX
open PySem PySem.Spec PyProof.Rows L2
end HX
set_option Elab.async false
set_option linter.all false
set_option maxRecDepth 100000
namespace HX
open PySem PySem.Spec PyProof.Rows L2
noncomputable abbrev D:=PyData
mutual
noncomputable def Den (K:PySem.W.Frag) (H:Hp):D→V→Prop
 | .none,v=>v=.non
 | .bool b,v=>v=.bl b
 | .int i,v=>v=.int i
 | .str x,v=>v=.str x
 | .tuple ds,v=>∃a xs,v=.ref a∧SqT K H a xs∧Dens K H ds xs
 | .list ds,v=>∃a xs,v=.ref a∧SqL K H a xs∧Dens K H ds xs
 | .dict _,_=>False
noncomputable def Dens (K:PySem.W.Frag) (H:Hp):List D→List V→Prop
 | [],xs=>xs=[]
 | d::ds,xs=>∃x r,xs=x::r∧Den K H d x∧Dens K H ds r
end
section
variable {K:PySem.W.Frag} {H H':Hp} {v:V} {xs:List V}
theorem den_int {i:Int}:Den K H (.int i) v↔v=.int i:=by unfold Den;exact Iff.rfl
theorem den_bl {i:Bool}:Den K H (.bool i) v↔v=.bl i:=by unfold Den;exact Iff.rfl
theorem den_str {i:Str}:Den K H (.str i) v↔v=.str i:=by unfold Den;exact Iff.rfl
theorem den_non:Den K H .none v↔v=.non:=by unfold Den;exact Iff.rfl
theorem den_tup {ds:List D}:Den K H (.tuple ds) v↔∃a xs,v=.ref a∧SqT K H a xs∧Dens K H ds xs:=by rw [Den]
theorem den_lst {ds:List D}:Den K H (.list ds) v↔∃a xs,v=.ref a∧SqL K H a xs∧Dens K H ds xs:=by rw [Den]
theorem den_dict {ds:List (D × D)}:Den K H (.dict ds) v↔False:=by rw [Den]
theorem dens_nil:Dens K H [] xs↔xs=[]:=by unfold Dens;exact Iff.rfl
theorem dens_cons {d:D} {ds:List D}:Dens K H (d::ds) xs↔∃x r,xs=x::r∧Den K H d x∧Dens K H ds r:=by rw [Dens]
theorem dens_cons' {d:D} {ds:List D} {x:V}:Dens K H (d::ds) (x::xs)↔Den K H d x∧Dens K H ds xs:=by
 rw [dens_cons]
 constructor
 ·rintro ⟨_,_,e,h1,h2⟩
  cases e
  exact ⟨h1,h2⟩
 ·rintro ⟨h1,h2⟩
  exact ⟨_,_,rfl,h1,h2⟩
theorem same_sqt {a:Addr} (e:Same H H') (h:SqT K H a xs):SqT K H' a xs:=by
 rcases h with (h|⟨o,h⟩)|h
 ·exact .inl (.inl (e _ _ h))
 ·exact .inl (.inr ⟨o,e _ _ h⟩)
 ·exact .inr h
end
mutual
theorem Den.mono {K:PySem.W.Frag} {H H':Hp} (e:Same H H'):∀ {d:D} {v:V},Den K H d v→Den K H' d v
 | .none,v,h=>by rw [den_non] at h ⊢;exact h
 | .bool b,v,h=>by rw [den_bl] at h ⊢;exact h
 | .int b,v,h=>by rw [den_int] at h ⊢;exact h
 | .str b,v,h=>by rw [den_str] at h ⊢;exact h
 | .dict b,v,h=>by rw [den_dict] at h;exact h.elim
 | .tuple ds,v,h=>by
  rw [den_tup] at h ⊢
  obtain ⟨a,xs,h1,h2,h3⟩:=h
  exact ⟨a,xs,h1,same_sqt e h2,Dens.mono e h3⟩
 | .list ds,v,h=>by
  rw [den_lst] at h ⊢
  obtain ⟨a,xs,h1,h2,h3⟩:=h
  exact ⟨a,xs,h1,Same.seq e h2,Dens.mono e h3⟩
theorem Dens.mono {K:PySem.W.Frag} {H H':Hp} (e:Same H H'):∀ {ds:List D} {xs:List V},Dens K H ds xs→Dens K H' ds xs
 | [],xs,h=>by rw [dens_nil] at h ⊢;exact h
 | d::ds,xs,h=>by
  rw [dens_cons] at h ⊢
  obtain ⟨x,r,h1,h2,h3⟩:=h
  exact ⟨x,r,h1,Den.mono e h2,Dens.mono e h3⟩
end
section
variable {X:Cx} {pins:List (Addr × Obj)} {σ:L2.St} {H:Hp} {s:Shared}
mutual
theorem Den.reads (I:Inv X pins σ H s):∀(d:D) (v:V) (u:Value),Den X.K H d v→RelV v u→∃as,Reads s.heap u d as
 | .none,v,u,h,r=>by rw [den_non] at h;subst h;cases r;exact ⟨_,.none⟩
 | .bool b,v,u,h,r=>by rw [den_bl] at h;subst h;cases r;exact ⟨_,.bool b⟩
 | .int b,v,u,h,r=>by rw [den_int] at h;subst h;obtain ⟨t,rfl⟩:=r;exact ⟨_,.int b t⟩
 | .str b,v,u,h,r=>by rw [den_str] at h;subst h;obtain ⟨t,rfl⟩:=r;exact ⟨_,.str b t⟩
 | .dict b,v,u,h,r=>by rw [den_dict] at h;exact h.elim
 | .tuple ds,v,u,h,r=>by
  rw [den_tup] at h
  obtain ⟨a,xs,rfl,h2,h3⟩:=h
  cases r
  obtain ⟨its,rv,⟨o,ho,hc,n,hd⟩,_⟩:=I.tuple h2
  obtain ⟨as,hr⟩:=Dens.reads I ds xs its h3 rv
  exact ⟨as,.tuple ho hc hd (by simpa using hr)⟩
 | .list ds,v,u,h,r=>by
  rw [den_lst] at h
  obtain ⟨a,xs,rfl,h2,h3⟩:=h
  cases r
  obtain ⟨its,rv,p,_⟩:=I.list h2
  obtain ⟨o,ho,hc,n,hd⟩:=p.isList
  obtain ⟨as,hr⟩:=Dens.reads I ds xs its h3 rv
  exact ⟨_,.list ho hc hd (by simpa using hr)⟩
theorem Dens.reads (I:Inv X pins σ H s):∀(ds:List D) (xs:List V) (us:List Value),Dens X.K H ds xs→Vals xs us→∃as,ReadsAll s.heap us ds as
 | [],xs,us,h,r=>by rw [dens_nil] at h;subst h;cases r;exact ⟨_,.nil⟩
 | d::ds,xs,us,h,r=>by
  rw [dens_cons] at h
  obtain ⟨x,q,rfl,h2,h3⟩:=h
  cases r with
  | cons r1 r2 =>
   obtain ⟨as,h4⟩:=Den.reads I d x _ h2 r1
   obtain ⟨bs,h5⟩:=Dens.reads I ds q _ h3 r2
   exact ⟨_,.cons h4 h5⟩
end
end
section
variable {X:Cx}
noncomputable def rEqD (K:PySem.W.Frag):R2:=fun x y H Q=>∃d e,Den K H d x∧Den K H e y∧SeqAt.shaped d=true∧SeqAt.shaped e=true∧Q (.bl (PyData.eqv d e)) H
noncomputable def rNeD (K:PySem.W.Frag):R2:=fun x y H Q=>∃d e,Den K H d x∧Den K H e y∧SeqAt.shaped d=true∧SeqAt.shaped e=true∧Q (.bl (!PyData.eqv d e)) H
theorem op_eqD (hu:X.A.units+64<cLine):OpR X (compareOp .Eq) (rEqD X.K):=by
 intro pins s σ H x y v u Q I rx ry h
 obtain ⟨d,e,h1,h2,h3,h4,q⟩:=h
 obtain ⟨as,ra⟩:=Den.reads I d x v h1 rx
 obtain ⟨bs,rb⟩:=Den.reads I e y u h2 ry
 exact eq_dataH ra rb h3 h4 hu ⟨.bl _,H,I,rfl,q⟩
theorem op_neD (hu:X.A.units+64<cLine):OpR X (compareOp .NotEq) (rNeD X.K):=by
 intro pins s σ H x y v u Q I rx ry h
 obtain ⟨d,e,h1,h2,h3,h4,q⟩:=h
 obtain ⟨as,ra⟩:=Den.reads I d x v h1 rx
 obtain ⟨bs,rb⟩:=Den.reads I e y u h2 ry
 exact ne_dataH ra rb h3 h4 hu ⟨.bl _,H,I,rfl,q⟩
structure Has (P:Program) (w:World) (K:PySem.W.Frag) (mg:Str→Option Value) (base:Heap) (k:Nat) (x:Str) (ps:List Str) (sp:Sp):Prop where
 ex:∃(f:Addr) (fd:FuncData),FnOk P w K mg base CX0 k f fd ps sp∧mg x=some (.ref f)∧PySem.W.keepIn K (.ref f)=true∧Binds K fd ps []
structure At (K:PySem.W.Frag) (mg:Str→Option Value) (x:Str) (st:Stmt) (ps:List Str):Prop where
 ex:∃(f:Addr) (fd:FuncData),Fun K x x st f fd∧mg x=some (.ref f)∧Binds K fd ps []
theorem At.mk' {K:PySem.W.Frag} {mg:Str→Option Value} {h:Heap} {x:Str} {st:Stmt} {ps:List Str} {f:Addr} {oc:Value} {od an:Option Addr} {osl:Array (Option Value)} {kV doc pm cdv ct:Value} (X:K.In h) (G:h.Ns mainGlobals mg)
  (hb:∀(kV doc pm:Value) (an:Option Addr) (cdv ct:Value) (us:List Value),us.length=ps.length→bindArgs (PySem.W.fnOf x x (defArgs st) (defBody st) (defScope st) .none kV doc pm an cdv ct) ⟨us,[]⟩=pure (ps.zip us))
  (a:PySem.W.nsIn K mainGlobals x=some (some (.ref f))) (l:K.lookup f=some ⟨oc,od,.func (PySem.W.fnOf x x (defArgs st) (defBody st) (defScope st) .none kV doc pm an cdv ct),osl⟩)
  (c:PySem.W.codeIn K cdv x=true) (k:PySem.W.keepIn K (.ref f)=true):At K mg x st ps:=by
 have F:=fun_mk (st:=st) l c k
 exact ⟨f,_,F,PySem.W.mg_of X G a,F.binds hb⟩
theorem At.ok {P:Program} {w:World} {K:PySem.W.Frag} {mg:Str→Option Value} {base:Heap} {x:Str} {st:Stmt} {N ps:List Str} {k:Nat} {sp:Sp} (F:At K mg x st ps) (S:FnScope N ps (defScope st)) (len:∀vs H Q E,sp vs H Q E→vs.length=ps.length)
  (hbody:∀(f:Addr) (cdv:Value) (A:Around) (outer:List Env) (s:Shared) (H:Hp) (vs:List V) (Q:VK) (E:XK),Room k (A.deeper (envOfC x (defScope st) s.heap.objs.size f cdv))→sp vs H Q E →
   ∃t,PSs (cxOf CX0 P w K mg base N x (defScope st) f cdv A outer s H E).nox (defBody st) t∧t { nx:=fun _ H'=>Q .non H',rt:=Q } (start N vs) H):Has P w K mg base (k+1) x ps sp:=by
 obtain ⟨f,fd,Ff,m,b⟩:=F.ex
 exact ⟨f,fd,Ff.ok S len (fun cdv A outer s H vs Q E hr h=>hbody f cdv A outer s H vs Q E hr h),m,Ff.kp,b⟩
theorem pe_own {k:Nat} {x:Str} {ps:List Str} {sp:Sp} {p pos:Pos} {e:Expr} {es:List Expr} {t:TA} (F:Has X.prog X.w X.K X.mg X.base k x ps sp) (hr:Room k X.A) (ha:PA X (e::es) t)
  (hg:Gl X x:=by rfl) (hdb:(x == ("__debug__":Str))=false:=by decide) (he:starEach (e::es) X.env=(false,eval e X.env)::starEach es X.env:=by rfl) (hpl:(backTo pos (starEach es X.env)).any (·.1)=false:=by rfl) :
  PE X (.Call (.Name x p) (e::es) [] pos) (tCall sp [] E0 t):=by
 obtain ⟨f,fd,F,m,kp,b⟩:=F.ex
 exact pe_call F hr hg m kp b .nil pass0 ha hdb he hpl
theorem pe_own0 {k:Nat} {x:Str} {ps:List Str} {sp:Sp} {p pos:Pos} (F:Has X.prog X.w X.K X.mg X.base k x ps sp) (hr:Room k X.A)
  (hg:Gl X x:=by rfl) (hdb:(x == ("__debug__":Str))=false:=by decide) :
  PE X (.Call (.Name x p) [] [] pos) (tCall sp [] E0 tNil):=by
 obtain ⟨f,fd,F,m,kp,b⟩:=F.ex
 exact pe_call0 F hr hg m kp b .nil pass0 hdb
end
end HX
set_option Elab.async false
set_option linter.all false
set_option maxRecDepth 100000
namespace HX
open PySem PySem.Spec PyProof.Rows L2
noncomputable def noStar:Expr→Bool
 | .Starred ..=>false
 | _=>true
theorem star_no {e:Expr} {es:List Expr} {env:Env} (h:noStar e=true):starEach (e::es) env=(false,eval e env)::starEach es env:=by
 cases e <;> first|rfl|cases h
theorem star_any {env:Env}:∀ {es:List Expr},es.all noStar=true→(starEach es env).any (·.1)=false
 | [],_=>rfl
 | e::es,h=>by
  rw [List.all_cons,Bool.and_eq_true] at h
  rw [star_no h.1,List.any_cons,star_any h.2]
  rfl
noncomputable def noSlice:Expr→Bool
 | .Slice ..=>false
 | _=>true
theorem ix_no {b:Expr} (h:noSlice b=true):PlainIx b:=fun o i=>by
 cases b <;> first|rfl|cases h
section
variable {X:Cx}
theorem pac {e:Expr} {es:List Expr} {te:TE} {t:TA} (ha:PE X e te) (hr:PA X es t) (h:noStar e=true:=by rfl):PA X (e::es) (tCons te t):=pa_cons ha hr (star_no h)
theorem pe_ixq {a b:Expr} {ta tb:TE} {pos:Pos} {r:R2} (hr:IxR X r) (ha:PE X a ta) (hb:PE X b tb) (hs:noSlice b=true:=by rfl):PE X (.Subscript a b pos) (tOp r ta tb):=pe_ix hr ha hb (ix_no hs)
theorem back_any {env:Env} {pos:Pos} {es:List Expr} (h:es.all noStar=true):(backTo pos (starEach es env)).any (·.1)=false:=by
 have:=star_any (env:=env) h
 unfold backTo
 rw [List.any_map]
 exact this
theorem pe_ownq {k:Nat} {x:Str} {ps:List Str} {sp:Sp} {p pos:Pos} {e:Expr} {es:List Expr} {t:TA} (F:Has X.prog X.w X.K X.mg X.base k x ps sp) (hr:Room k X.A) (ha:PA X (e::es) t)
  (hg:Gl X x:=by rfl) (hdb:(x == ("__debug__":Str))=false:=by decide) (he:noStar e=true:=by rfl) (hpl:es.all noStar=true:=by rfl) :
  PE X (.Call (.Name x p) (e::es) [] pos) (tCall sp [] E0 t):=pe_own F hr ha hg hdb (star_no he) (back_any hpl)
theorem pe_callBq {id:String} {r:List V→Hp→VK→Prop} {x:Str} {p pos:Pos} {e:Expr} {es:List Expr} {t:TA} (hc:CallR X (.builtin id) r) (hg:Gl X x) (hm:X.mg x=none) (hv:bootBuiltins x=some (.builtin id)) (ha:PA X (e::es) t) (hn:x≠"__name__":=by decide) (hdb:(x == ("__debug__":Str))=false:=by decide)
  (he:noStar e=true:=by rfl) (hpl:es.all noStar=true:=by rfl):PE X (.Call (.Name x p) (e::es) [] pos) (tCB r t):=pe_callB hc hg hm hv ha hn hdb (star_no he) (back_any hpl)
theorem pe_callTyq {T:String} {r:List V→Hp→VK→Prop} {x:Str} {p pos:Pos} {e:Expr} {es:List Expr} {t:TA} (hc:CallR X (.type T) r) (hg:Gl X x) (hm:X.mg x=none) (hv:bootBuiltins x=some (.type T)) (ha:PA X (e::es) t) (hn:x≠"__name__":=by decide) (hdb:(x == ("__debug__":Str))=false:=by decide)
  (he:noStar e=true:=by rfl) (hpl:es.all noStar=true:=by rfl):PE X (.Call (.Name x p) (e::es) [] pos) (tCB r t):=pe_callTy hc hg hm hv ha hn hdb (star_no he) (back_any hpl)
end
end HX
set_option Elab.async false
set_option linter.all false
set_option maxRecDepth 100000
namespace L2
open PySem PySem.Spec PyProof.Rows
section
variable {X:Cx}
theorem fi_list:fillsInplaceSlot (.type "list") "add" (Operator.Add == .Add)=pure false:=by
 unfold fillsInplaceSlot
 show (typeLookup (.type "list") (dunderI "add") >>= fun fi=>pure (fi.isSome && !isSeqSlot fi))=pure false
 rw [F.slot_list_iadd.lookup]
 have e:isSeqSlot (some (.builtin "list.__iadd__"))=true:=by decide +kernel
 show (pure (true && !isSeqSlot (some (.builtin "list.__iadd__"))):Sem Bool)=pure false
 rw [e]
 rfl
theorem sq_list:seqSlot? (.type "list") (dunderI "add")=pure (some (.builtin "list.__iadd__")):=PySem.seqSlot_of F.slot_list_iadd.lookup (by decide +kernel)
theorem inpl_list {M:Model} {A:Around} {E:Value→Shared→Prop} {s:Shared} {a b:Value} {Q:Value→Shared→Prop} (ha:s.TypeIs a "list") (hb:s.TypeIs b "list")
  (hc:wpAny M A (call (.builtin "list.__iadd__") [a,b]) Q E s):wpAny M A (inplaceOp .Add a b) Q E s:=by
 unfold inplaceOp
 refine wpAny_holding ?_
 refine wpAny_bind (wpAny_typeOf ha (wpAny_bind (wpAny_of_eq fi_list ?_)))
 show wpAny M A (if false=true then _ else _) Q E s
 rw [if_neg Bool.false_ne_true]
 refine wpAny_bind (wpAny_binaryOp1_none (nm:="add") ha hb noFill_list_add ?_)
 refine wpAny_bind (wpAny_of_eq sq_list ?_)
 exact wpAny_bind (wpAny_rule hc)
theorem ip_cat:PIp X .Add (fun x y H Q=>∃l b xs zs,x=.ref l∧y=.ref b∧H l=some (.lst xs)∧H b=some (.lst zs)∧xs.length+zs.length≤sizeLine∧Q (.ref l) (upd H l (.lst (xs++zs)))):=by
 intro pins s σ H x y v u Q I rx ry h
 obtain ⟨l,b,xs,zs,rfl,rfl,hH,hB,hz,q⟩:=h
 cases rx
 cases ry
 obtain ⟨z,its,n,r,hl,e⟩:=I.lstM hH
 obtain ⟨z2,its2,n2,r2,hl2,e2⟩:=I.lstM hB
 have hsz:its.toArray.size+its2.toArray.size≤sizeLine:=by rw [List.size_toArray,List.size_toArray];omega
 have hlong:¬(!its.toArray.isEmpty && Builtin.List.listTooLong (its.toArray.size+its2.toArray.size))=true:=by
  rw [notLongL hsz,Bool.and_false]
  exact Bool.false_ne_true
 refine inpl_list ⟨_,e,rfl⟩ ⟨_,e2,rfl⟩ ?_
 refine call_meets F.slot_list_iadd ⟨_,e,rfl⟩ F.entry_list_iadd (F.args_list_iadd_2 _ _)
  (AutoSeq1.list___iadd___list_list_0 l its.toArray n b its2.toArray n2 hlong (by rw [List.size_toArray];omega) (by omega)) ⟨e,e2,?_⟩
 refine ⟨.ref l,_,I.lset (its':=its++its2) hH e (by simp) (r.append r2) ?_,rfl,q⟩
 rw [List.length_append]
 omega
end
end L2
set_option Elab.async false
set_option linter.all false
set_option maxRecDepth 100000
set_option maxHeartbeats 1000000
namespace L2
open PySem PySem.Spec PyProof.Rows
structure LamAt (h:Heap) (f:Addr) (qual:Str) (params:Arguments) (body:Expr) (scope:Scope) (cl:List (Str × Addr)):Prop where
 ex:∃pm c' ctv,h.get? f=some (PySem.W.kla_obj "<lambda>" qual params body scope cl pm c' ctv)∧h.CodeRec (.ref c') qual
structure LamScope (x:Str) (scope:Scope) (cl:List (Str × Addr)):Prop where
 kind:scope.kind=.function
 co:scope.isCoroutine=false
 gen:scope.isGenerator=false
 nocell:∀y∈scope.names,y.2≠.cell
 par:scope.names.lookup x=some .local
 free:∀y,scope.names.lookup y=some .free→∃c,cl.lookup y=some c
 inj:∀y z c,cl.lookup y=some c→cl.lookup z=some c→y=z
noncomputable def cxL (CX:CXT) (P:Program) (w:World) (K:PySem.W.Frag) (mg:Str→Option Value) (base:Heap) (N:List Str) (qual:Str) (scope:Scope) (f:Addr) (cd:Value) (cl:List (Str × Addr)) (A:Around) (outer:List Env) (s:Shared) (H:Hp) (E:XK):Cx where
 prog:=P
 w:=w
 K:=K
 mg:=mg
 base:=base
 A:=A.deeper (PySem.W.envX qual scope s.heap.objs.size f cd cl)
 N:=N
 s₀:=s
 H₀:=H
 env:=PySem.W.envX qual scope s.heap.objs.size f cd cl
 outer:=outer
 stack:=PySem.W.envX qual scope s.heap.objs.size f cd cl::outer
 ex:=[]
 calm:=true
 fn:=fun _=>false
 pn:=[]
 xe:=fun e s'=>wpAny (model P w) (A.deeper (PySem.W.envX qual scope s.heap.objs.size f cd cl)) (leaving (PySem.W.envX qual scope s.heap.objs.size f cd cl) e) (fun _ s''=>CX outer H s E e s'') (fun e' s''=>CX outer H s E e' s'') s'
theorem lam_inv {CX:CXT} {P:Program} {w:World} {K:PySem.W.Frag} {mg:Str→Option Value} {base:Heap} {N:List Str} {qual x:Str} {scope:Scope} {f:Addr} {cd:Value} {cl:List (Str × Addr)} {A:Around} {outer:List Env} {s:Shared} {H:Hp} {E:XK} {u:Value} {v:V} {σ:St} {h1:Heap} {tk:Nat}
  (S:LamScope x scope cl) (hd:A.handled=none) (e0:Env0 P w K mg base A outer s H) (rv:RelV v u)
  (hc:∀y c,cl.lookup y=some c→(∃z,s.heap.IsCell c z)∧H c=none)
  (hσ:∀(i:Nat) (y:Str) (z:V),N[i]?=some y→σ[i]?=some (some z)→(y=x∧z=v)∨(scope.names.lookup y=some .free∧∃c q,cl.lookup y=some c∧s.heap.IsCell c (some q)∧RelV z q)) (hl:σ.length=N.length)
  (hns:h1.Ns s.heap.objs.size (fun y=>[(x,u)].reverse.lookup y)) (hk:∀b o,s.heap.get? b=some o→h1.get? b=some o) :
  Inv (cxL CX P w K mg base N qual scope f cd cl A outer s H E) [] σ H { s with heap:=h1,toks:=tk }:=by
 have noA:∀b:Addr,b ∉ (cxL CX P w K mg base N qual scope f cd cl A outer s H E).ex:=fun b z=>absurd (show b∈([]:List Addr) from z) (by simp)
 have ck:∀c z,s.heap.IsCell c z→h1.IsCell c z:=fun c z ⟨o,e,d⟩=>⟨o,hk _ _ e,d⟩
 refine ⟨⟨e0.mod,S.kind,rfl,rfl,Nat.le_refl _,fun y z c h1 h2=>S.inj y z c h1 h2,fun y hy=>?_,fun y c h=>Bool.noConfusion (show false=true from h),fun _=>hd,Around.frames_deeper e0.frames,.inr ⟨rfl,rfl⟩,fun b z=>absurd z (noA b),e0.bs,e0.bsz,fun b _ _=>noA b,fun b z=>absurd z (noA b),e0.funs,e0.frf⟩,
  rfl,e0.bare,Un.kept hk,⟨_,hns,fun i y z h1 h2 h3=>?_⟩,fun y c h=>?_,e0.hok.fresh (Nat.le_refl _),fun y c h=>(hc y c h).2,fun p hp=>absurd (show p∈([]:List (Addr × Obj)) from hp) (by simp),e0.hok.kept hk,hl⟩
 ·have hy:scope.names.lookup y=some .cell∨scope.names.lookup y=some .free:=hy
  rcases hy with hy|hy
  ·exact absurd rfl (S.nocell _ (PySem.mem_of_lookup hy))
  ·exact S.free y hy
 ·rcases hσ i y z h1 h2 with ⟨rfl,rfl⟩|⟨hf,c,q,e1,e2,e3⟩
  ·exact ⟨u,rv,.inl ⟨S.par,by simp [List.lookup]⟩⟩
  ·exact ⟨q,e3,.inr ⟨.inr hf,c,e1,ck _ _ e2⟩⟩
 ·obtain ⟨⟨z,q⟩,_⟩:=hc y c h
  exact ⟨z,ck _ _ q⟩
theorem lam_run {P:Program} {w:World} {K:PySem.W.Frag} {mg:Str→Option Value} {base:Heap} {k:Nat} {N:List Str} {qual x:Str} {params:Arguments} {body:Expr} {scope:Scope} {f:Addr} {cl:List (Str × Addr)} {A:Around} {outer:List Env} {s:Shared} {H:Hp} {E:XK} {u:Value} {v:V} {σ:St} {Q:VK}
  (F:LamAt s.heap f qual params body scope cl) (S:LamScope x scope cl) (hr:Room (k+1) A) (e0:Env0 P w K mg base A outer s H) (rv:RelV v u)
  (hb:∀pm c' ctv (u:Value),bindArgs (PySem.W.kla_fn "<lambda>" qual params body scope cl pm (.ref c') ctv) ⟨[u],[]⟩=pure [(x,u)])
  (hc:∀y c,cl.lookup y=some c→(∃z,s.heap.IsCell c z)∧H c=none)
  (hσ:∀(i:Nat) (y:Str) (z:V),N[i]?=some y→σ[i]?=some (some z)→(y=x∧z=v)∨(scope.names.lookup y=some .free∧∃c q,cl.lookup y=some c∧s.heap.IsCell c (some q)∧RelV z q)) (hl:σ.length=N.length)
  (hbody:∀c',Room k (A.deeper (PySem.W.envX qual scope s.heap.objs.size f (.ref c') cl))→∃t,PE (cxL CX0 P w K mg base N qual scope f (.ref c') cl A outer s H E).nox body t∧t σ H Q) :
  codeAny (model P w) A (.call (.ref f) ⟨[u],[]⟩) (CR CX0 outer P w H s Q E) s:=by
 obtain ⟨pm,c',ctv,ho,hcd⟩:=F.ex
 have lim:s.heap.NoLimit:=e0.mod.nolimit.keeps fun b o e=>(e0.bs b o e).1
 refine PySem.W.kla_callFunE hr.depth ho rfl S.co S.gen rfl hcd ?_
 rw [hb]
 refine wpAny_pure (wpAny_newFunctionEnv S.nocell (fun y hy=>?_) (fun h1 hns hsb=>?_) S.kind)
 ·rw [List.mem_singleton] at hy
  subst hy
  exact S.par
 have hk1:∀b o,s.heap.get? b=some o→h1.get? b=some o:=fun b o e=>hsb.extBut b o (Nat.ne_of_lt (Heap.lt_size e)) (Heap.get?_push_of_some _ e)
 refine ⟨lim.keeps hk1,?_⟩
 show codeAny _ _ (.expr body (PySem.W.envX qual scope s.heap.objs.size f (.ref c') cl)) _ _
 obtain ⟨t,ht,hq⟩:=hbody c' (hr.deeper _)
 have I:=lam_inv (CX:=CX0) (E:=E) (f:=f) (cd:=.ref c') (qual:=qual) (tk:=s.toks+1) S hr.hd e0 rv hc hσ hl hns hk1
 refine PySem.W.kla_codeExpr (wpAny_mono (ht.nox [] _ σ H Q I hq) (fun v' s' ⟨v,H',J,rv,q⟩=>?_) fun e s' hs=>hs)
 exact ⟨v,H',J.os,J.bare,J.base,J.hok,rv,q⟩
end L2
set_option Elab.async false
set_option linter.all false
set_option maxRecDepth 100000
set_option maxHeartbeats 1000000
namespace L2
open PySem PySem.Spec PyProof.Rows
noncomputable abbrev tbl3 (ps:Array Value) (pos:Pos) (c':Addr):Array Value:=ps++#[rawInt pos.line,rawInt pos.col,.ref c']
noncomputable abbrev updL (H:Hp) (T:Addr) (ps:Array Value) (pos:Pos) (c':Addr) (oc:Obj):Hp:=upd (upd H T (.tbl (tbl3 ps pos c'))) c' (.frz oc (.own 0))
noncomputable def codeOb (oc:Obj) (q:Str):Prop:=∃vs t,oc.data=.fields vs∧vs[1]?=some (.str q t)
theorem lam_make {X:Cx} {pins:List (Addr × Obj)} {σ:St} {H:Hp} {s:Shared} {c T:Addr} {ps:Array Value} {params:Arguments} {body:Expr} {scope:Scope} {pos:Pos} {clos:List (Str × Addr)} {Q:Value→Shared→Prop}
  (I:Inv X pins σ H s) (hcd:X.env.code=.ref c) (C:PySem.W.CodeHd s.heap c T) (hT:H T=some (.tbl ps)) (ht:TriplesOk ps.toList)
  (hcodes:∀cv,codeAmong pos ps.toList=some cv→∃c' oc,cv=.ref c'∧H c'=some (.frz oc (.own 0))∧codeOb oc (X.env.qual++"<lambda>"))
  (hbm:s.heap.BuiltinsAt X.mg T) (hcl:closureFor scope X.env=pure clos) (hdef:defaultsOf params X.env=([],[]))
  (h:∀f H' s' pm c' ctv oc,Inv X pins σ H' s'→s'.heap.get? f=some (PySem.W.kla_obj "<lambda>" (X.env.qual++"<lambda>") params body scope clos pm c' ctv)→H' c'=some (.frz oc (.own 0))→codeOb oc (X.env.qual++"<lambda>")→H' f=none→s.heap.objs.size≤f →
   (H'=H∨(H c'=none∧c'≠T∧codeAmong pos ps.toList=none∧H'=updL H T ps pos c' oc))→Q (.ref f) s') :
  wpAny (model X.prog X.w) X.A (eval (.Lambda params body scope pos) X.env) Q X.xe s:=by
 have hP:s.heap.get? T=some (PySem.W.tabObj ps):=I.hok T _ hT
 have hg:s.heap.Ns mainGlobals X.mg:=I.mod.glob.keeps I.bk
 refine PySem.W.kla_eval hdef ?_
 cases hf:codeAmong pos ps.toList with
 | some cv =>
  obtain ⟨c',oc,rfl,hoc,hob⟩:=hcodes cv hf
  refine PySem.W.kla_makeFunctionHit (mg:=X.mg) hcl I.ok.glob hg hcd C hP ht hf hbm fun ctv h' tk hk hsz=>?_
  have hk2:∀(ob:Obj) b o,s.heap.get? b=some o→(h'.push ob).get? b=some o:=fun ob b o e=>Heap.get?_push_of_some _ (hk b o e)
  exact h h'.objs.size H _ _ c' ctv oc (I.un (Un.kept (hk2 _)) (I.hok.kept (hk2 _))) (Heap.get?_push_size _ rfl) hoc hob (I.hok.fresh hsz) hsz (.inl rfl)
 | none =>
  have hgP:mainGlobals≠T:=fun z=>by
   have:=(I.bs _ _ (show X.base.get? mainGlobals=some _ from I.mod.glob.choose_spec.choose_spec.choose_spec.1)).2
   rw [z,hT] at this
   cases this
  refine PySem.W.kla_makeFunction (mg:=X.mg) hcl I.ok.glob hg hcd C hP ht hf hgP hbm fun c' ctv h' tk hx hge hlt hrec htb=>?_
  obtain ⟨c2,oc,vs,tq,e2,hoc,hdc,hq⟩:=hrec
  cases e2
  have hn:H c'=none:=I.hok.fresh hge
  have nT:∀b,H b=none→b≠T:=fun b n z=>by rw [z,hT] at n;cases n
  have cT:c'≠T:=nT c' hn
  have oT:∀b o,H b=some o→(∀qs,o≠.tbl qs)→b≠T:=fun b o e n z=>by rw [z,hT] at e;cases e;exact n _ rfl
  have oC:∀b o,H b=some o→b≠c':=fun b o e z=>by rw [z,hn] at e;cases e
  have hk2:∀(ob:Obj) b o,b≠T→s.heap.get? b=some o→(h'.push ob).get? b=some o:=fun ob b o hb e=>Heap.get?_push_of_some _ (hx b o hb e)
  have same:∀b,b≠T→b≠c'→updL H T ps pos c' oc b=H b:=fun b h1 h2=>(upd_ne h2).trans (upd_ne h1)
  have hTb:∀ob:Obj,(h'.push ob).get? T=some (PySem.W.tabObj (tbl3 ps pos c')):=fun ob=>Heap.get?_push_of_some _ htb
  have atT:updL H T ps pos c' oc T=some (.tbl (tbl3 ps pos c')):=(upd_ne cT.symm).trans (if_pos rfl)
  have lt:∀b o,s.heap.get? b=some o→b≠c':=fun b o e=>Nat.ne_of_lt (Nat.lt_of_lt_of_le (Heap.lt_size e) hge)
  have un:∀ob:Obj,Un X.fs [] H (updL H T ps pos c' oc) s.heap (h'.push ob):=fun ob =>
   ⟨fun b o e n _ _=>hk2 ob b o (nT b n) e,fun b o e n _ _=>⟨o.slots,hk2 ob b o (nT b n) e⟩,fun b o e n _=>by rw [same b (nT b n) (lt b o e)];exact n,
    fun b o e _=>by
     by_cases hb:b=T
     ·rw [hb];exact ⟨_,hTb ob⟩
     ·exact ⟨o,hk2 ob b o hb e⟩,
    fun b xs e=>by rw [same b (oT b _ e fun _ z=>nomatch z) (oC b _ e)];exact e,
    fun b o u e=>by rw [same b (oT b _ e fun _ z=>nomatch z) (oC b _ e)];exact e,
    fun b qs e=>by
     by_cases hb:b=T
     ·subst hb
      rw [hT] at e;cases e
      exact ⟨_,atT⟩
     ·exact ⟨#[],by rw [same b hb (oC b _ e),e];simp⟩⟩
  have recP:∀ob:Obj,(h'.push ob).get? c'=some oc:=fun ob=>Heap.get?_push_of_some _ hoc
  have hok:∀ob:Obj,HOk X.prog X.w (updL H T ps pos c' oc) (h'.push ob):=fun ob a o e=>by
   by_cases ha:a=c'
   ·subst ha
    have e':some (HO.frz oc (.own 0))=some o:=by rw [←e];exact (if_pos rfl).symm
    cases e'
    exact ⟨recP ob,oc,recP ob⟩
   ·by_cases hb:a=T
    ·subst hb
     rw [atT] at e
     cases e
     exact hTb ob
    ·rw [same a hb ha] at e
     refine (I.hok a o e).stay (fun b u hq q=>hk2 ob b u ?_ q) (fun b q=>?_) fun b xs q=>?_
     ·rcases hq with rfl|hq
      ·exact hb
      ·exact oT b _ hq fun _ z=>nomatch z
     ·rw [same b (oT b _ q fun _ z=>nomatch z) (oC b _ q)];exact q
     ·rw [same b (oT b _ q fun _ z=>nomatch z) (oC b _ q)];exact q
  have hfr:updL H T ps pos c' oc h'.objs.size=none:=by
   have hlT:T<h'.objs.size:=Heap.lt_size htb
   rw [same _ (Nat.ne_of_gt hlT) (Nat.ne_of_gt hlt)]
   exact I.hok.fresh (Nat.le_trans hge (Nat.le_of_lt hlt))
  exact h h'.objs.size (updL H T ps pos c' oc) _ _ c' ctv oc (I.un (un _) (hok _)) (Heap.get?_push_size _ rfl) (if_pos rfl) ⟨vs,tq,hdc,hq⟩ hfr (Nat.le_trans hge (Nat.le_of_lt hlt)) (.inr ⟨hn,cT,hf,rfl⟩)
end L2
set_option Elab.async false
set_option linter.all false
set_option maxRecDepth 100000
namespace FW
open PySem L2 HX
inductive PV where
 | non|bl (b:Bool)|int (i:Int)|str (x:Str)|tup (xs:List PV)|ref (n:Nat)|rdl (xs:List PV)|fn (a:Nat)
 deriving Inhabited
inductive Cell where
 | lst (xs:List PV)
 | dk (kvs:List (Key × PV))
noncomputable abbrev AH:=List Cell
noncomputable abbrev Fr:=List (Option PV)
noncomputable abbrev EK:=PV→AH→Prop
noncomputable abbrev LK:=List PV→AH→Prop
noncomputable abbrev BK:=Bool→AH→Prop
noncomputable abbrev FSp:=List PV→AH→EK→Prop
mutual
noncomputable def PV.bel (k:Nat):PV→Bool
 | .ref n=>decide (n<k)
 | .tup xs=>PV.bels k xs
 | .rdl xs=>PV.bels k xs
 | .non=>true
 | .bl _=>true
 | .int _=>true
 | .str _=>true
 | .fn _=>false
noncomputable def PV.bels (k:Nat):List PV→Bool
 | []=>true
 | x::xs=>x.bel k && PV.bels k xs
end
mutual
noncomputable def PV.bec (k:Nat):PV→Bool
 | .ref n=>decide (n<k)
 | .tup xs=>PV.becs k xs
 | .rdl xs=>PV.becs k xs
 | .non=>true
 | .bl _=>true
 | .int _=>true
 | .str _=>true
 | .fn _=>true
noncomputable def PV.becs (k:Nat):List PV→Bool
 | []=>true
 | x::xs=>x.bec k && PV.becs k xs
end
mutual
theorem PV.bel_bec {i j:Nat} (h:i≤j):∀ {v:PV},v.bel i=true→v.bec j=true
 | .non,_=>by rw [PV.bec]
 | .bl _,_=>by rw [PV.bec]
 | .int _,_=>by rw [PV.bec]
 | .str _,_=>by rw [PV.bec]
 | .ref n,z=>by rw [PV.bel] at z;rw [PV.bec];have:=of_decide_eq_true z;exact decide_eq_true (by omega)
 | .tup xs,z=>by rw [PV.bel] at z;rw [PV.bec];exact PV.bels_becs h z
 | .rdl xs,z=>by rw [PV.bel] at z;rw [PV.bec];exact PV.bels_becs h z
 | .fn _,z=>by rw [PV.bel] at z;cases z
theorem PV.bels_becs {i j:Nat} (h:i≤j):∀ {vs:List PV},PV.bels i vs=true→PV.becs j vs=true
 | [],_=>by rw [PV.becs]
 | v::vs,z=>by rw [PV.bels,Bool.and_eq_true] at z;rw [PV.becs,Bool.and_eq_true];exact ⟨PV.bel_bec h z.1,PV.bels_becs h z.2⟩
end
noncomputable def Cell.bec (k:Nat):Cell→Bool
 | .lst xs=>PV.becs k xs
 | .dk kvs=>PV.becs k (kvs.map (·.2))
noncomputable def Cell.bel (k:Nat):Cell→Bool
 | .lst xs=>PV.bels k xs
 | .dk kvs=>PV.bels k (kvs.map (·.2))
mutual
noncomputable def PV.toD:PV→Option PyData
 | .non=>some .none
 | .bl b=>some (.bool b)
 | .int i=>some (.int i)
 | .str x=>some (.str x)
 | .tup xs=>(PV.toDs xs).map .tuple
 | .rdl xs=>(PV.toDs xs).map .list
 | .ref _=>none
 | .fn _=>none
noncomputable def PV.toDs:List PV→Option (List PyData)
 | []=>some []
 | x::xs=>match x.toD,PV.toDs xs with
  | some d,some ds=>some (d::ds)
  | _,_=>none
end
noncomputable def deep (st:AH):PV→Option PyData
 | .ref n=>match st[n]? with
  | some (.lst xs)=>(PV.toDs xs).map .list
  | _=>none
 | v=>v.toD
noncomputable def eqW (st:AH) (x y:PV) (k:Bool→Prop):Prop :=
 match x,y with
 | .int i,.int j=>k (decide (i=j))
 | .bl a,.bl b=>k (decide (a=b))
 | .str a,.str b=>k (decide (a=b))
 | x,y=>∃d e,deep st x=some d∧deep st y=some e∧SeqAt.shaped d=true∧SeqAt.shaped e=true∧k (PyData.eqv d e)
noncomputable def kindP (st:AH):PV→Option String
 | .non=>some "NoneType"
 | .bl _=>some "bool"
 | .int _=>some "int"
 | .str _=>some "str"
 | .tup _=>some "tuple"
 | .rdl _=>some "list"
 | .ref n=>match st[n]? with
  | some (.lst _)=>some "list"
  | some (.dk _)=>some "dict"
  | none=>none
 | .fn _=>none
noncomputable def listAt (st:AH):PV→Option (List PV)
 | .rdl xs=>some xs
 | .ref n=>match st[n]? with
  | some (.lst xs)=>some xs
  | _=>none
 | _=>none
noncomputable def seqAt (st:AH):PV→Option (List PV)
 | .tup xs=>some xs
 | v=>listAt st v
noncomputable def isNon:PV→Bool
 | .non=>true
 | _=>false
noncomputable def isBl (k:Bool):PV→Bool
 | .bl b=>b == k
 | _=>false
noncomputable def cutP (xs:List PV) (lo hi:Option Int):List PV:=(xs.drop (HT.sIx xs.length 0 lo)).take (HT.sIx xs.length xs.length hi-HT.sIx xs.length 0 lo)
noncomputable def b2z (b:Bool):Int:=if b then 1 else 0
noncomputable def iiW (f:Int→Int→Prop) (x y:PV):Prop :=
 match x with
 | .int i=>match y with
  | .int j=>f i j
  | _=>False
 | _=>False
noncomputable def addW (x y:PV) (st:AH) (Q:EK):Prop :=
 match x with
 | .int i=>match y with
  | .int j=>Q (.int (i+j)) st
  | _=>False
 | .ref n=>match y with
  | .ref k=>∃xs ys,st[n]?=some (.lst xs)∧st[k]?=some (.lst ys)∧xs.length+ys.length≤100000∧Q (.ref st.length) (st++[.lst (xs++ys)])
  | _=>False
 | .tup xs=>match y with
  | .tup ys=>xs.length+ys.length≤100000∧Q (.tup (xs++ys)) st
  | _=>False
 | .str a=>match y with
  | .str b=>a.length+b.length≤100000∧Q (.str (a++b)) st
  | _=>False
 | _=>False
noncomputable def mulW (x y:PV) (st:AH) (Q:EK):Prop :=
 match x with
 | .int i=>match y with
  | .int j=>CMB i j∧Q (.int (i*j)) st
  | _=>False
 | .ref n=>match y with
  | .int k=>∃xs,st[n]?=some (.lst xs)∧-(2 ^ 63)≤k∧k<2 ^ 63∧xs.length*k.toNat≤100000∧Q (.ref st.length) (st++[.lst (List.replicate k.toNat xs).flatten])
  | _=>False
 | _=>False
noncomputable def binW (op:Operator) (x y:PV) (st:AH) (Q:EK):Prop :=
 match op with
 | .Add=>addW x y st Q
 | .Sub=>iiW (fun i j=>Q (.int (i-j)) st) x y
 | .Mult=>mulW x y st Q
 | .FloorDiv=>iiW (fun i j=>CBig j∧Q (.int (i/j)) st) x y
 | .Mod=>iiW (fun i j=>0<j∧Q (.int (i % j)) st) x y
 | .Pow=>iiW (fun i j=>CPow i j∧Q (.int (i ^ j.toNat)) st) x y
 | _=>False
noncomputable def cmpW (op:CmpOp) (x y:PV) (st:AH) (Q:EK):Prop :=
 match op with
 | .Eq=>eqW st x y fun k=>Q (.bl k) st
 | .NotEq=>eqW st x y fun k=>Q (.bl (!k)) st
 | .Is=>match y with
  | .non=>Q (.bl (isNon x)) st
  | .bl k=>Q (.bl (isBl k x)) st
  | _=>False
 | .IsNot=>match y with
  | .non=>Q (.bl (!isNon x)) st
  | .bl k=>Q (.bl (!isBl k x)) st
  | _=>False
 | .Lt=>match x,y with
  | .int i,.int j=>Q (.bl (decide (i<j))) st
  | _,_=>False
 | .LtE=>match x,y with
  | .int i,.int j=>Q (.bl (decide (i≤j))) st
  | _,_=>False
 | .Gt=>match x,y with
  | .int i,.int j=>Q (.bl (decide (j<i))) st
  | _,_=>False
 | .GtE=>match x,y with
  | .int i,.int j=>Q (.bl (decide (j≤i))) st
  | _,_=>False
 | .In=>match x,y with
  | .str a,.str b=>Q (.bl (!(Builtin.Str.occurrences b a 0 b.length 1).isEmpty)) st
  | _,_=>False
 | _=>False
noncomputable def ixI (i:Int) (st:AH) (Q:EK) (x:PV):Prop :=
 match x with
 | .str z=>z.length≤100000∧∃c,atI z.cps.toList i=some c∧Q (.str ⟨#[c]⟩) st
 | x=>∃xs,seqAt st x=some xs∧∃v,atI xs i=some v∧Q v st
theorem ixI_inv {i:Int} {st:AH} {Q:EK} {x:PV} (h:ixI i st Q x):(∃z c,x=.str z∧z.length≤100000∧atI z.cps.toList i=some c∧Q (.str ⟨#[c]⟩) st)∨∃xs v,seqAt st x=some xs∧atI xs i=some v∧Q v st:=by
 cases x with
 | str z=>exact .inl ⟨z,h.2.choose,rfl,h.1,h.2.choose_spec⟩
 | _=>obtain ⟨xs,e,v,e2,q⟩:=h;exact .inr ⟨xs,v,e,e2,q⟩
theorem ixI_seq {i:Int} {st:AH} {Q:EK} {x:PV} {xs:List PV} {v:PV} (e:seqAt st x=some xs) (e2:atI xs i=some v) (h:Q v st):ixI i st Q x:=by
 cases x with|str z=>cases e|_=>exact ⟨xs,e,v,e2,h⟩
noncomputable def ixW (x y:PV) (st:AH) (Q:EK):Prop :=
 match y with
 | .int i=>ixI i st Q x
 | _=>False
noncomputable def cutS (z:Str) (lo hi:Option Int):Str:=if ((Builtin.Str.strSliceIndices lo hi 1 z.length).length == z.length)=true then z else ⟨((Builtin.Str.strSliceIndices lo hi 1 z.length).filterMap (z.cps[·]?)).toArray⟩
noncomputable def slW (x:PV) (lo hi:Option Int) (st:AH) (Q:EK):Prop :=
 match x with
 | .str z=>z.length≤100000∧Q (.str (cutS z lo hi)) st
 | .tup xs=>Q (.tup (cutP xs lo hi)) st
 | x=>∃xs,listAt st x=some xs∧Q (.ref st.length) (st++[.lst (cutP xs lo hi)])
noncomputable def lenW (st:AH) (Q:EK) (x:PV):Prop :=
 match x with
 | .str z=>z.length≤100000∧Q (.int z.length) st
 | x=>∃xs,seqAt st x=some xs∧Q (.int xs.length) st
theorem lenW_inv {st:AH} {Q:EK} {x:PV} (h:lenW st Q x):(∃z,x=.str z∧z.length≤100000∧Q (.int z.length) st)∨∃xs,seqAt st x=some xs∧Q (.int xs.length) st:=by
 cases x with|str z=>exact .inl ⟨z,rfl,h⟩|_=>exact .inr h
theorem lenW_seq {st:AH} {Q:EK} {x:PV} {xs:List PV} (e:seqAt st x=some xs) (h:Q (.int xs.length) st):lenW st Q x:=by
 cases x with|str z=>cases e|_=>exact ⟨xs,e,h⟩
noncomputable def int1W (st:AH) (Q:EK) (x:PV):Prop :=
 match x with
 | .bl b=>Q (.int (b2z b)) st
 | .str z=>z.length≤640∧∃n,PySem.intText? z=some n∧Q (.int n) st
 | _=>False
theorem int1W_inv {st:AH} {Q:EK} {x:PV} (h:int1W st Q x):(∃b,x=.bl b∧Q (.int (b2z b)) st)∨∃z n,x=.str z∧z.length≤640∧PySem.intText? z=some n∧Q (.int n) st:=by
 cases x with|bl b=>exact .inl ⟨b,rfl,h⟩|str z=>exact .inr ⟨z,h.2.choose,rfl,h.1,h.2.choose_spec⟩|_=>exact False.elim h
inductive B where
 | len|max2|min2|divmod|int1|str1|tuple1|list1|all1|any1|abs1|sorted1|repr1
 deriving DecidableEq
noncomputable def bools:List PV→Option (List Bool)
 | []=>some []
 | .bl b::r=>(bools r).map (b::·)
 | _::_=>none
noncomputable def oneW (f:PV→Prop) (vs:List PV):Prop :=
 match vs with
 | [x]=>f x
 | _=>False
noncomputable def twoW (f:PV→PV→Prop) (vs:List PV):Prop :=
 match vs with
 | [x,y]=>f x y
 | _=>False
noncomputable def inW (f:Int→Prop) (x:PV):Prop :=
 match x with
 | .int b=>f b
 | _=>False
noncomputable def bltW (b:B) (vs:List PV) (st:AH) (Q:EK):Prop :=
 match b with
 | .len=>oneW (lenW st Q) vs
 | .max2=>twoW (iiW fun i j=>Q (.int (if i<j then j else i)) st) vs
 | .min2=>twoW (iiW fun i j=>Q (.int (if j<i then j else i)) st) vs
 | .divmod=>twoW (iiW fun i j=>CBig j∧Q (.tup [.int (i/j),.int (i % j)]) st) vs
 | .int1=>oneW (int1W st Q) vs
 | .str1=>False
 | .tuple1=>oneW (fun x=>∃xs,seqAt st x=some xs∧Q (.tup xs) st) vs
 | .list1=>oneW (fun x=>∃xs,seqAt st x=some xs∧Q (.ref st.length) (st++[.lst xs])) vs
 | .all1=>oneW (fun x=>∃xs bs,listAt st x=some xs∧bools xs=some bs∧Q (.bl (bs.all id)) st) vs
 | .any1=>oneW (fun x=>∃xs bs,listAt st x=some xs∧bools xs=some bs∧Q (.bl (bs.any id)) st) vs
 | .abs1=>oneW (inW fun i=>Q (.int i.natAbs) st) vs
 | .sorted1=>False
 | .repr1=>False
inductive M where
 | append|pop0|extend|insert|count
 deriving DecidableEq
noncomputable def rfW (f:Nat→Prop) (x:PV):Prop :=
 match x with
 | .ref n=>f n
 | _=>False
noncomputable def zeroW (f:Prop) (vs:List PV):Prop :=
 match vs with
 | []=>f
 | _=>False
noncomputable def metW (m:M) (x:PV) (vs:List PV) (st:AH) (Q:EK):Prop :=
 match m with
 | .append=>rfW (fun n=>oneW (fun v=>∃xs,st[n]?=some (.lst xs)∧xs.length<100000∧Q .non (st.set n (.lst (xs++[v])))) vs) x
 | .pop0=>rfW (fun n=>zeroW (∃xs v,st[n]?=some (.lst xs)∧xs[xs.length-1]?=some v∧Q v (st.set n (.lst xs.dropLast))) vs) x
 | .extend=>rfW (fun n=>oneW (rfW fun k=>∃xs ys,st[n]?=some (.lst xs)∧st[k]?=some (.lst ys)∧xs.length+ys.length≤100000∧Q .non (st.set n (.lst (xs++ys)))) vs) x
 | .insert=>False
 | .count=>False
theorem iiW_inv {f:Int→Int→Prop} {x y:PV} (h:iiW f x y):∃i j,x=.int i∧y=.int j∧f i j:=by
 cases x with
 | int i =>
  cases y with
  | int j=>exact ⟨i,j,rfl,rfl,h⟩
  | _=>exact False.elim h
 | _=>exact False.elim h
theorem oneW_inv {f:PV→Prop} {vs:List PV} (h:oneW f vs):∃x,vs=[x]∧f x:=by
 cases vs with
 | nil=>exact False.elim h
 | cons x t =>
  cases t with
  | nil=>exact ⟨x,rfl,h⟩
  | cons _ _=>exact False.elim h
theorem twoW_inv {f:PV→PV→Prop} {vs:List PV} (h:twoW f vs):∃x y,vs=[x,y]∧f x y:=by
 cases vs with
 | nil=>exact False.elim h
 | cons x t =>
  cases t with
  | nil=>exact False.elim h
  | cons y t =>
   cases t with
   | nil=>exact ⟨x,y,rfl,h⟩
   | cons _ _=>exact False.elim h
theorem zeroW_inv {f:Prop} {vs:List PV} (h:zeroW f vs):vs=[]∧f:=by
 cases vs with
 | nil=>exact ⟨rfl,h⟩
 | cons x t=>exact False.elim h
theorem inW_inv {f:Int→Prop} {x:PV} (h:inW f x):∃b,x=.int b∧f b:=by
 cases x with
 | int b=>exact ⟨b,rfl,h⟩
 | _=>exact False.elim h
theorem rfW_inv {f:Nat→Prop} {x:PV} (h:rfW f x):∃b,x=.ref b∧f b:=by
 cases x with
 | ref b=>exact ⟨b,rfl,h⟩
 | _=>exact False.elim h
noncomputable def truW (x:PV) (st:AH) (Q:BK):Prop :=
 match x with
 | .bl b=>Q b st
 | .non=>Q false st
 | .int i=>Q (i != 0) st
 | .str _=>False
 | x=>∃xs,seqAt st x=some xs∧Q (!xs.isEmpty) st
noncomputable def Sub (st st':AH):Prop:=∀i,i<st.length→st'[i]?=st[i]?∨∃c,st'[i]?=some c∧c.bel 0=true
noncomputable def Tmp (st:AH) (Q:EK):EK:=fun v st'=>∃st1 g,st'=st1++g∧st1.length=st.length∧Sub st st1∧v.bel st.length=true∧Q v st1
noncomputable def Ret (st:AH) (Q:EK):EK:=fun v st'=>Q v st'∨Tmp st Q v st'
mutual
inductive E where
 | var (i:Nat)|int (i:Int)|bl (b:Bool)|non|str (x:Str)|gv (x:Str) (v:PV)
 | tup (es:Es)|lst (es:Es)|dct0|dct1 (k:Str) (i:Int)
 | bin (op:Operator) (a b:E)|neg (a:E)|not (a:E)
 | cmp (op:CmpOp) (a b:E)
 | bop (isAnd:Bool) (es:Es)
 | ite (c a b:E)
 | ix (a b:E)|sl (a:E) (lo hi:O)
 | call (f:Nat) (es:Es)
 | blt (b:B) (es:Es)
 | inst (a:E) (t:String)
 | met (m:M) (o:E) (es:Es)
 | comp (elt:E) (tg:Tg) (it:It) (ifs:Es) (nt:List Str) (caps:List Nat)
 | tmp (a:E)
 | bad
 | jrev (a:E)|part (a:E) (y:Str)
 | pcall (i:Nat) (e:E)|hm (e be:E) (caps:List Nat)
inductive Es where
 | nil|cons (e:E) (es:Es)
inductive O where
 | no|yes (e:E)
inductive It where
 | seq (e:E)|range1 (a:E)|range2 (a b:E)|zip (a b:E)|enum (a:E)|chars (e:E)|range3 (a b c:E)|zip3 (a b c:E)
inductive Tg where
 | name (i:Nat)|tup (ts:Tgs)|ltup (ts:Tgs)|sub (o i:E)
inductive Tgs where
 | nil|cons (t:Tg) (ts:Tgs)
end
noncomputable def Tgs.size:Tgs→Nat
 | .nil=>0
 | .cons _ ts=>ts.size+1
noncomputable def setW (o i v:PV) (st:AH) (k:AH→Prop):Prop :=
 match o,i with
 | .ref n,.int j=>∃xs,st[n]?=some (.lst xs)∧∃q,ixN xs.length j=some q∧k (st.set n (.lst (xs.set q v)))
 | _,_=>False
noncomputable def compW (chk:AH→Prop) (body:PV→AH→(Option PV→AH→Prop)→Prop):List PV→List PV→AH→LK→Prop
 | [],acc,st,Q=>chk st∧Q acc st
 | x::xs,acc,st,Q=>chk st∧body x st fun o st'=>compW chk body xs (acc++o.toList) st' Q
noncomputable def seqChk (st:AH):PV→AH→Prop
 | .ref n=>fun st'=>st'[n]?=st[n]?
 | _=>fun _=>True
noncomputable def rangeL (lo:Int) (n:Nat):List PV:=(List.range n).map fun (i:Nat)=>PV.int (lo+(i:Int))
noncomputable def zipL:List PV→List PV→List PV
 | x::xs,y::ys=>.tup [x,y]::zipL xs ys
 | _,_=>[]
noncomputable def enumL:Int→List PV→List PV
 | _,[]=>[]
 | i,x::xs=>.tup [.int i,x]::enumL (i+1) xs
noncomputable def bsGo (g:PV→Bool) (xs:List PV):Nat→Nat→Nat→Nat
 | 0,lo,_=>lo
 | n+1,lo,hi=>if lo<hi then (if g (xs.getD ((lo+hi)/2) .non)=true then bsGo g xs n ((lo+hi)/2+1) hi else bsGo g xs n lo ((lo+hi)/2)) else lo
noncomputable def bsr (g:PV→Bool) (xs:List PV):Nat:=bsGo g xs xs.length 0 xs.length
section
variable (Γ:Nat→FSp)
mutual
noncomputable def wpE:E→Fr→AH→EK→Prop
 | .var i,ρ,st,Q=>∃v,ρ[i]?=some (some v)∧Q v st
 | .int i,_,st,Q=>Q (.int i) st
 | .bl b,_,st,Q=>Q (.bl b) st
 | .non,_,st,Q=>Q .non st
 | .str x,_,st,Q=>Q (.str x) st
 | .gv _ v,_,st,Q=>Q v st
 | .tup es,ρ,st,Q=>wpEs es ρ st fun vs st1=>vs.length≤100000∧Q (.tup vs) st1
 | .lst es,ρ,st,Q=>wpEs es ρ st fun vs st1=>vs.length≤100000∧Q (.ref st1.length) (st1++[.lst vs])
 | .dct0,_,_,_=>False
 | .dct1 _ _,_,_,_=>False
 | .bin op a b,ρ,st,Q=>wpE a ρ st fun x st1=>wpE b ρ st1 fun y st2=>binW op x y st2 Q
 | .neg a,ρ,st,Q=>wpE a ρ st fun x st1=>∃i,x=.int i∧Q (.int (-i)) st1
 | .not a,ρ,st,Q=>wpE a ρ st fun x st1=>∃c,x=.bl c∧Q (.bl (!c)) st1
 | .cmp op a b,ρ,st,Q=>wpE a ρ st fun x st1=>wpE b ρ st1 fun y st2=>cmpW op x y st2 Q
 | .bop true es,ρ,st,Q=>wpAV es ρ st Q
 | .bop false es,ρ,st,Q=>wpOV es ρ st Q
 | .ite c a b,ρ,st,Q=>wpT c ρ st fun k st1=>if k=true then wpE a ρ st1 Q else wpE b ρ st1 Q
 | .ix a b,ρ,st,Q=>wpE a ρ st fun x st1=>wpE b ρ st1 fun y st2=>ixW x y st2 Q
 | .sl a lo hi,ρ,st,Q=>wpE a ρ st fun x st1=>wpO lo ρ st1 fun l st2=>wpO hi ρ st2 fun h st3=>slW x l h st3 Q
 | .call f es,ρ,st,Q=>wpEs es ρ st fun vs st1=>Γ f vs st1 Q
 | .blt b es,ρ,st,Q=>wpEs es ρ st fun vs st1=>bltW b vs st1 Q
 | .inst a t,ρ,st,Q=>wpE a ρ st fun x st1=>∃n,kindP st1 x=some n∧Q (.bl (isKind t n)) st1
 | .met m o es,ρ,st,Q=>wpE o ρ st fun x st1=>(∃xs,listAt st1 x=some xs)∧wpEs es ρ st1 fun vs st2=>metW m x vs st2 Q
 | .comp elt tg it ifs nt caps,ρ,st,Q=>wpIt it ρ st fun xs chk st1 =>
   xs.length<100000∧compW chk (fun x st2 k=>wpTg tg x (nt.map (fun _=>none)++caps.map fun i=>(ρ[i]?).join) st2 fun ρ' st3=>wpAT ifs ρ' st3 fun c st4 =>
    if c=true then wpE elt ρ' st4 fun v st5=>k (some v) st5 else k none st4) xs [] st1 fun vs st2=>Q (.ref st2.length) (st2++[.lst vs])
 | .tmp a,ρ,st,Q=>wpE a ρ st (Tmp st Q)
 | .bad,_,_,_=>False
 | .jrev _,_,_,_=>False
 | .part _ _,_,_,_=>False
 | .pcall i e,ρ,st,Q=>∃a,ρ[i]?=some (some (.fn a))∧wpE e ρ st fun v st1=>Γ 1000 [.fn a,v] st1 Q
 | .hm e be caps,ρ,st,Q=>wpE e ρ st fun v st1=>∃xs,v=.tup xs∧xs.length≤100000∧(∀i∈caps,∃c,ρ[i]?=some (some c)∧c.bel 0=true) ∧
   ∃g:PV→Bool,(∀y∈xs,∀Q':EK,Q' (.bl (g y)) st1→wpE be (some y::caps.map fun i=>(ρ[i]?).join) st1 Q')∧Q (.int (bsr g xs)) st1
noncomputable def wpEs:Es→Fr→AH→LK→Prop
 | .nil,_,st,Q=>Q [] st
 | .cons e es,ρ,st,Q=>wpE e ρ st fun x st1=>wpEs es ρ st1 fun xs st2=>Q (x::xs) st2
noncomputable def wpO:O→Fr→AH→(Option Int→AH→Prop)→Prop
 | .no,_,st,Q=>Q none st
 | .yes e,ρ,st,Q=>wpE e ρ st fun x st1=>∃i,x=.int i∧Q (some i) st1
noncomputable def wpT:E→Fr→AH→BK→Prop
 | .bop true es,ρ,st,Q=>wpAT es ρ st Q
 | .bop false es,ρ,st,Q=>wpOT es ρ st Q
 | .not a,ρ,st,Q=>wpT a ρ st fun c st1=>Q (!c) st1
 | .cmp op a b,ρ,st,Q=>wpE a ρ st fun x st1=>wpE b ρ st1 fun y st2=>cmpW op x y st2 fun v st3=>∃c,v=.bl c∧Q c st3
 | .var i,ρ,st,Q=>∃v,ρ[i]?=some (some v)∧truW v st Q
 | .call f es,ρ,st,Q=>wpEs es ρ st fun vs st1=>Γ f vs st1 fun v st2=>truW v st2 Q
 | .blt b es,ρ,st,Q=>wpEs es ρ st fun vs st1=>bltW b vs st1 fun v st2=>truW v st2 Q
 | .inst a t,ρ,st,Q=>wpE a ρ st fun x st1=>∃n,kindP st1 x=some n∧Q (isKind t n) st1
 | .tmp a,ρ,st,Q=>wpE a ρ st (Tmp st fun v st1=>truW v st1 Q)
 | .ix a b,ρ,st,Q=>wpE a ρ st fun x st1=>wpE b ρ st1 fun y st2=>ixW x y st2 fun v st3=>truW v st3 Q
 | .pcall i e,ρ,st,Q=>∃a,ρ[i]?=some (some (.fn a))∧wpE e ρ st fun v st1=>Γ 1000 [.fn a,v] st1 fun v st2=>truW v st2 Q
 | _,_,_,_=>False
noncomputable def wpAV:Es→Fr→AH→EK→Prop
 | .nil,_,_,_=>False
 | .cons e .nil,ρ,st,Q=>wpE e ρ st Q
 | .cons e es,ρ,st,Q=>wpE e ρ st fun x st1=>∃c,x=.bl c∧if c=true then wpAV es ρ st1 Q else Q (.bl false) st1
noncomputable def wpOV:Es→Fr→AH→EK→Prop
 | .nil,_,_,_=>False
 | .cons e .nil,ρ,st,Q=>wpE e ρ st Q
 | .cons e es,ρ,st,Q=>wpE e ρ st fun x st1=>∃c,x=.bl c∧if c=true then Q (.bl true) st1 else wpOV es ρ st1 Q
noncomputable def wpAT:Es→Fr→AH→BK→Prop
 | .nil,_,st,Q=>Q true st
 | .cons e .nil,ρ,st,Q=>wpT e ρ st Q
 | .cons e es,ρ,st,Q=>wpT e ρ st fun c st1=>if c=true then wpAT es ρ st1 Q else Q false st1
noncomputable def wpOT:Es→Fr→AH→BK→Prop
 | .nil,_,st,Q=>Q false st
 | .cons e .nil,ρ,st,Q=>wpT e ρ st Q
 | .cons e es,ρ,st,Q=>wpT e ρ st fun c st1=>if c=true then Q true st1 else wpOT es ρ st1 Q
noncomputable def wpIt:It→Fr→AH→(List PV→(AH→Prop)→AH→Prop)→Prop
 | .seq e,ρ,st,Q=>wpE e ρ st fun x st1=>∃xs,seqAt st1 x=some xs∧Q xs (seqChk st1 x) st1
 | .range1 a,ρ,st,Q=>wpE a ρ st fun x st1=>∃j,x=.int j∧-(2 ^ 62)≤j∧j<2 ^ 62∧Q (rangeL 0 j.toNat) (fun _=>True) st1
 | .range2 a b,ρ,st,Q=>wpE a ρ st fun x st1=>wpE b ρ st1 fun y st2=>∃i j,x=.int i∧y=.int j∧(-(2 ^ 62)≤i∧i<2 ^ 62∧-(2 ^ 62)≤j∧j<2 ^ 62)∧Q (rangeL i (j-i).toNat) (fun _=>True) st2
 | .zip a b,ρ,st,Q=>wpE a ρ st fun x st1=>wpE b ρ st1 fun y st2=>∃xs ys,seqAt st2 x=some xs∧seqAt st2 y=some ys∧Q (zipL xs ys) (fun st'=>seqChk st2 x st'∧seqChk st2 y st') st2
 | .zip3 _ _ _,_,_,_=>False
 | .enum a,ρ,st,Q=>wpE a ρ st fun x st1=>∃xs,x=.tup xs∧Q (enumL 0 xs) (fun _=>True) st1
 | .chars _,_,_,_=>False
 | .range3 _ _ _,_,_,_=>False
noncomputable def wpTg:Tg→PV→Fr→AH→(Fr→AH→Prop)→Prop
 | .name i,v,ρ,st,Q=>Q (ρ.set i (some v)) st
 | .tup ts,v,ρ,st,Q=>∃xs,v=.tup xs∧xs.length=ts.size∧wpTgs ts xs ρ st Q
 | .ltup ts,v,ρ,st,Q=>∃xs,listAt st v=some xs∧xs.length=ts.size∧wpTgs ts xs ρ st Q
 | .sub o i,v,ρ,st,Q=>wpE o ρ st fun x st1=>wpE i ρ st1 fun y st2=>setW x y v st2 fun st3=>Q ρ st3
noncomputable def wpTgs:Tgs→List PV→Fr→AH→(Fr→AH→Prop)→Prop
 | .nil,vs,ρ,st,Q=>vs=[]∧Q ρ st
 | .cons t ts,vs,ρ,st,Q=>∃v r,vs=v::r∧wpTg t v ρ st fun ρ' st'=>wpTgs ts r ρ' st' Q
end
end
mutual
inductive S where
 | set (t:Tg) (e:E)|par (i j:Nat) (a b:E)|aug (i:Nat) (op:Operator) (e:E)|expr (e:E)|ret (e:E)|retN
 | ifS (c:E) (a b:Ss)|whileS (c:E) (b:Ss)|forS (t:Tg) (it:It) (b:Ss)|pass|brk|cont|bad|set2 (i j:Nat) (e:E)
inductive Ss where
 | nil|cons (s:S) (ss:Ss)
end
structure AEnds where
 nx:Fr→AH→Prop
 rt:EK
 bk:Fr→AH→Prop:=fun _ _=>False
 ct:Fr→AH→Prop:=fun _ _=>False
noncomputable def forW (chk:AH→Prop) (body:PV→Fr→AH→AEnds→Prop) (D:AEnds):List PV→Fr→AH→Prop
 | [],ρ,st=>chk st∧D.nx ρ st
 | x::xs,ρ,st=>chk st∧body x ρ st { nx:=forW chk body D xs,ct:=forW chk body D xs,bk:=D.nx,rt:=D.rt }
noncomputable def whileW (c:Fr→AH→BK→Prop) (body:Fr→AH→AEnds→Prop) (D:AEnds):Nat→Fr→AH→Prop
 | 0,_,_=>False
 | n+1,ρ,st=>c ρ st fun k st1=>if k=true then body ρ st1 { nx:=whileW c body D n,ct:=whileW c body D n,bk:=D.nx,rt:=D.rt } else D.nx ρ st1
noncomputable def augW (op:Operator) (x y:PV) (st:AH) (Q:EK):Prop :=
 match op,x,y with
 | .Add,.int i,.int j=>Q (.int (i+j)) st
 | .Sub,.int i,.int j=>Q (.int (i-j)) st
 | .Add,.ref n,.ref k=>∃xs ys,st[n]?=some (.lst xs)∧st[k]?=some (.lst ys)∧xs.length+ys.length≤100000∧Q (.ref n) (st.set n (.lst (xs++ys)))
 | _,_,_=>False
section
variable (Γ:Nat→FSp)
mutual
noncomputable def wpS:S→Fr→AH→AEnds→Prop
 | .set t e,ρ,st,D=>wpE Γ e ρ st fun v st1=>wpTg Γ t v ρ st1 D.nx
 | .par i j a b,ρ,st,D=>wpE Γ a ρ st fun x st1=>wpE Γ b ρ st1 fun y st2=>D.nx ((ρ.set i (some x)).set j (some y)) st2
 | .aug i op e,ρ,st,D=>∃x,ρ[i]?=some (some x)∧wpE Γ e ρ st fun y st1=>augW op x y st1 fun z st2=>D.nx (ρ.set i (some z)) st2
 | .expr e,ρ,st,D=>wpE Γ e ρ st fun _ st1=>D.nx ρ st1
 | .ret e,ρ,st,D=>wpE Γ e ρ st D.rt
 | .retN,_,st,D=>D.rt .non st
 | .ifS c a b,ρ,st,D=>wpT Γ c ρ st fun k st1=>if k=true then wpSs a ρ st1 D else wpSs b ρ st1 D
 | .whileS c b,ρ,st,D=>∃n,whileW (wpT Γ c) (wpSs b) D n ρ st
 | .forS t it b,ρ,st,D=>wpIt Γ it ρ st fun xs chk st1=>forW chk (fun x ρ' st' D'=>wpTg Γ t x ρ' st' fun ρ2 st2=>wpSs b ρ2 st2 D') D xs ρ st1
 | .pass,ρ,st,D=>D.nx ρ st
 | .brk,ρ,st,D=>D.bk ρ st
 | .cont,ρ,st,D=>D.ct ρ st
 | .bad,_,_,_=>False
 | .set2 i j e,ρ,st,D=>wpE Γ e ρ st fun v st1=>D.nx ((ρ.set i (some v)).set j (some v)) st1
noncomputable def wpSs:Ss→Fr→AH→AEnds→Prop
 | .nil,ρ,st,D=>D.nx ρ st
 | .cons s ss,ρ,st,D=>wpS s ρ st { D with nx:=fun ρ' st'=>wpSs ss ρ' st' D }
end
end
section
variable {Γ:Nat→FSp} {ρ:Fr} {st:AH} {Q:EK} {D:AEnds} {a b c:E} {es:Es}
theorem Ss_nil:wpSs Γ .nil ρ st D=D.nx ρ st:=rfl
theorem Ss_one {s:S}:wpSs Γ (.cons s .nil) ρ st D=wpS Γ s ρ st D:=rfl
theorem S_set {t:Tg}:wpS Γ (.set t a) ρ st D=wpE Γ a ρ st fun v st1=>wpTg Γ t v ρ st1 D.nx:=rfl
theorem S_par {i j:Nat}:wpS Γ (.par i j a b) ρ st D=wpE Γ a ρ st fun x st1=>wpE Γ b ρ st1 fun y st2=>D.nx ((ρ.set i (some x)).set j (some y)) st2:=rfl
theorem S_aug {i:Nat} {op:Operator}:wpS Γ (.aug i op a) ρ st D=∃x,ρ[i]?=some (some x)∧wpE Γ a ρ st fun y st1=>augW op x y st1 fun z st2=>D.nx (ρ.set i (some z)) st2:=rfl
theorem S_expr:wpS Γ (.expr a) ρ st D=wpE Γ a ρ st fun _ st1=>D.nx ρ st1:=rfl
theorem S_ret:wpS Γ (.ret a) ρ st D=wpE Γ a ρ st fun v st1=>D.rt v st1:=rfl
theorem S_retN:wpS Γ .retN ρ st D=D.rt .non st:=rfl
theorem S_if {x y:Ss}:wpS Γ (.ifS c x y) ρ st D=wpT Γ c ρ st fun k st1=>if k=true then wpSs Γ x ρ st1 D else wpSs Γ y ρ st1 D:=rfl
theorem S_pass:wpS Γ .pass ρ st D=D.nx ρ st:=rfl
theorem S_set2 {i j:Nat}:wpS Γ (.set2 i j a) ρ st D=wpE Γ a ρ st fun v st1=>D.nx ((ρ.set i (some v)).set j (some v)) st1:=rfl
theorem S_brk:wpS Γ .brk ρ st D=D.bk ρ st:=rfl
theorem S_cont:wpS Γ .cont ρ st D=D.ct ρ st:=rfl
theorem E_var {i:Nat}:wpE Γ (.var i) ρ st Q=∃v,ρ[i]?=some (some v)∧Q v st:=rfl
theorem E_int {i:Int}:wpE Γ (.int i) ρ st Q=Q (.int i) st:=rfl
theorem E_bl {i:Bool}:wpE Γ (.bl i) ρ st Q=Q (.bl i) st:=rfl
theorem E_non:wpE Γ .non ρ st Q=Q .non st:=rfl
theorem E_str {i:Str}:wpE Γ (.str i) ρ st Q=Q (.str i) st:=rfl
theorem E_gv {x:Str} {v:PV}:wpE Γ (.gv x v) ρ st Q=Q v st:=rfl
theorem E_tup:wpE Γ (.tup es) ρ st Q=wpEs Γ es ρ st fun vs st1=>vs.length≤100000∧Q (.tup vs) st1:=rfl
theorem E_lst:wpE Γ (.lst es) ρ st Q=wpEs Γ es ρ st fun vs st1=>vs.length≤100000∧Q (.ref st1.length) (st1++[.lst vs]):=rfl
theorem E_bin {op:Operator}:wpE Γ (.bin op a b) ρ st Q=wpE Γ a ρ st fun x st1=>wpE Γ b ρ st1 fun y st2=>binW op x y st2 Q:=rfl
theorem E_neg:wpE Γ (.neg a) ρ st Q=wpE Γ a ρ st fun x st1=>∃i,x=.int i∧Q (.int (-i)) st1:=rfl
theorem E_not:wpE Γ (.not a) ρ st Q=wpE Γ a ρ st fun x st1=>∃c,x=.bl c∧Q (.bl (!c)) st1:=rfl
theorem E_cmp {op:CmpOp}:wpE Γ (.cmp op a b) ρ st Q=wpE Γ a ρ st fun x st1=>wpE Γ b ρ st1 fun y st2=>cmpW op x y st2 Q:=rfl
theorem E_and:wpE Γ (.bop true es) ρ st Q=wpAV Γ es ρ st Q:=rfl
theorem E_or:wpE Γ (.bop false es) ρ st Q=wpOV Γ es ρ st Q:=rfl
theorem E_ite:wpE Γ (.ite c a b) ρ st Q=wpT Γ c ρ st fun k st1=>if k=true then wpE Γ a ρ st1 Q else wpE Γ b ρ st1 Q:=rfl
theorem E_ix:wpE Γ (.ix a b) ρ st Q=wpE Γ a ρ st fun x st1=>wpE Γ b ρ st1 fun y st2=>ixW x y st2 Q:=rfl
theorem E_sl {lo hi:O}:wpE Γ (.sl a lo hi) ρ st Q=wpE Γ a ρ st fun x st1=>wpO Γ lo ρ st1 fun l st2=>wpO Γ hi ρ st2 fun h st3=>slW x l h st3 Q:=rfl
theorem E_call {f:Nat}:wpE Γ (.call f es) ρ st Q=wpEs Γ es ρ st fun vs st1=>Γ f vs st1 Q:=rfl
theorem E_blt {f:B}:wpE Γ (.blt f es) ρ st Q=wpEs Γ es ρ st fun vs st1=>bltW f vs st1 Q:=rfl
theorem E_inst {t:String}:wpE Γ (.inst a t) ρ st Q=wpE Γ a ρ st fun x st1=>∃n,kindP st1 x=some n∧Q (.bl (isKind t n)) st1:=rfl
theorem E_met {m:M}:wpE Γ (.met m a es) ρ st Q=wpE Γ a ρ st fun x st1=>(∃xs,listAt st1 x=some xs)∧wpEs Γ es ρ st1 fun vs st2=>metW m x vs st2 Q:=rfl
theorem E_pcall {i:Nat}:wpE Γ (.pcall i a) ρ st Q=∃f,ρ[i]?=some (some (.fn f))∧wpE Γ a ρ st fun v st1=>Γ 1000 [.fn f,v] st1 Q:=rfl
theorem E_hm {caps:List Nat}:wpE Γ (.hm a b caps) ρ st Q=wpE Γ a ρ st fun v st1=>∃xs,v=.tup xs∧xs.length≤100000∧(∀i∈caps,∃c,ρ[i]?=some (some c)∧c.bel 0=true) ∧
   ∃g:PV→Bool,(∀y∈xs,∀Q':EK,Q' (.bl (g y)) st1→wpE Γ b (some y::caps.map fun i=>(ρ[i]?).join) st1 Q')∧Q (.int (bsr g xs)) st1:=rfl
theorem E_tmp:wpE Γ (.tmp a) ρ st Q=wpE Γ a ρ st fun v st1=>Tmp st Q v st1:=rfl
variable {LQ:LK} {BQ:BK} {e e2:E} {i:Nat} {v:PV} {FQ:Fr→AH→Prop} {IQ:List PV→(AH→Prop)→AH→Prop}
theorem Es_nil:wpEs Γ .nil ρ st LQ=LQ [] st:=rfl
theorem Es_cons:wpEs Γ (.cons e es) ρ st LQ=wpE Γ e ρ st fun x st1=>wpEs Γ es ρ st1 fun xs st2=>LQ (x::xs) st2:=rfl
theorem O_no {OQ:Option Int→AH→Prop}:wpO Γ .no ρ st OQ=OQ none st:=rfl
theorem O_yes {OQ:Option Int→AH→Prop}:wpO Γ (.yes e) ρ st OQ=wpE Γ e ρ st fun x st1=>∃i,x=.int i∧OQ (some i) st1:=rfl
theorem T_and:wpT Γ (.bop true es) ρ st BQ=wpAT Γ es ρ st BQ:=rfl
theorem T_or:wpT Γ (.bop false es) ρ st BQ=wpOT Γ es ρ st BQ:=rfl
theorem T_not:wpT Γ (.not a) ρ st BQ=wpT Γ a ρ st fun c st1=>BQ (!c) st1:=rfl
theorem T_cmp {op:CmpOp}:wpT Γ (.cmp op a b) ρ st BQ=wpE Γ a ρ st fun x st1=>wpE Γ b ρ st1 fun y st2=>cmpW op x y st2 fun v st3=>∃c,v=.bl c∧BQ c st3:=rfl
theorem T_var:wpT Γ (.var i) ρ st BQ=∃v,ρ[i]?=some (some v)∧truW v st BQ:=rfl
theorem T_call {f:Nat}:wpT Γ (.call f es) ρ st BQ=wpEs Γ es ρ st fun vs st1=>Γ f vs st1 fun v st2=>truW v st2 BQ:=rfl
theorem T_blt {f:B}:wpT Γ (.blt f es) ρ st BQ=wpEs Γ es ρ st fun vs st1=>bltW f vs st1 fun v st2=>truW v st2 BQ:=rfl
theorem T_inst {t:String}:wpT Γ (.inst a t) ρ st BQ=wpE Γ a ρ st fun x st1=>∃n,kindP st1 x=some n∧BQ (isKind t n) st1:=rfl
theorem T_tmp:wpT Γ (.tmp a) ρ st BQ=wpE Γ a ρ st fun v st1=>Tmp st (fun v st1=>truW v st1 BQ) v st1:=rfl
theorem T_pcall:wpT Γ (.pcall i a) ρ st BQ=∃f,ρ[i]?=some (some (.fn f))∧wpE Γ a ρ st fun v st1=>Γ 1000 [.fn f,v] st1 fun v st2=>truW v st2 BQ:=rfl
theorem T_ix:wpT Γ (.ix a b) ρ st BQ=wpE Γ a ρ st fun x st1=>wpE Γ b ρ st1 fun y st2=>ixW x y st2 fun v st3=>truW v st3 BQ:=rfl
theorem AV_one:wpAV Γ (.cons e .nil) ρ st Q=wpE Γ e ρ st Q:=rfl
theorem AV_cons:wpAV Γ (.cons e (.cons e2 es)) ρ st Q=wpE Γ e ρ st fun x st1=>∃c,x=.bl c∧if c=true then wpAV Γ (.cons e2 es) ρ st1 Q else Q (.bl false) st1:=rfl
theorem OV_one:wpOV Γ (.cons e .nil) ρ st Q=wpE Γ e ρ st Q:=rfl
theorem OV_cons:wpOV Γ (.cons e (.cons e2 es)) ρ st Q=wpE Γ e ρ st fun x st1=>∃c,x=.bl c∧if c=true then Q (.bl true) st1 else wpOV Γ (.cons e2 es) ρ st1 Q:=rfl
theorem AT_nil:wpAT Γ .nil ρ st BQ=BQ true st:=rfl
theorem AT_one:wpAT Γ (.cons e .nil) ρ st BQ=wpT Γ e ρ st BQ:=rfl
theorem AT_cons:wpAT Γ (.cons e (.cons e2 es)) ρ st BQ=wpT Γ e ρ st fun c st1=>if c=true then wpAT Γ (.cons e2 es) ρ st1 BQ else BQ false st1:=rfl
theorem OT_one:wpOT Γ (.cons e .nil) ρ st BQ=wpT Γ e ρ st BQ:=rfl
theorem OT_cons:wpOT Γ (.cons e (.cons e2 es)) ρ st BQ=wpT Γ e ρ st fun c st1=>if c=true then BQ true st1 else wpOT Γ (.cons e2 es) ρ st1 BQ:=rfl
theorem It_seq:wpIt Γ (.seq e) ρ st IQ=wpE Γ e ρ st fun x st1=>∃xs,seqAt st1 x=some xs∧IQ xs (seqChk st1 x) st1:=rfl
theorem It_r1:wpIt Γ (.range1 a) ρ st IQ=wpE Γ a ρ st fun x st1=>∃j,x=.int j∧-(2 ^ 62)≤j∧j<2 ^ 62∧IQ (rangeL 0 j.toNat) (fun _=>True) st1:=rfl
theorem It_r2:wpIt Γ (.range2 a b) ρ st IQ=wpE Γ a ρ st fun x st1=>wpE Γ b ρ st1 fun y st2=>∃i j,x=.int i∧y=.int j∧(-(2 ^ 62)≤i∧i<2 ^ 62∧-(2 ^ 62)≤j∧j<2 ^ 62)∧IQ (rangeL i (j-i).toNat) (fun _=>True) st2:=rfl
theorem It_zip:wpIt Γ (.zip a b) ρ st IQ=wpE Γ a ρ st fun x st1=>wpE Γ b ρ st1 fun y st2=>∃xs ys,seqAt st2 x=some xs∧seqAt st2 y=some ys∧IQ (zipL xs ys) (fun st'=>seqChk st2 x st'∧seqChk st2 y st') st2:=rfl
theorem It_enum:wpIt Γ (.enum a) ρ st IQ=wpE Γ a ρ st fun x st1=>∃xs,x=.tup xs∧IQ (enumL 0 xs) (fun _=>True) st1:=rfl
theorem Tg_name:wpTg Γ (.name i) v ρ st FQ=FQ (ρ.set i (some v)) st:=rfl
theorem Tg_tup {ts:Tgs}:wpTg Γ (.tup ts) v ρ st FQ=∃xs,v=.tup xs∧xs.length=ts.size∧wpTgs Γ ts xs ρ st FQ:=rfl
theorem Tg_ltup {ts:Tgs}:wpTg Γ (.ltup ts) v ρ st FQ=∃xs,listAt st v=some xs∧xs.length=ts.size∧wpTgs Γ ts xs ρ st FQ:=rfl
theorem Tg_sub:wpTg Γ (.sub a b) v ρ st FQ=wpE Γ a ρ st fun x st1=>wpE Γ b ρ st1 fun y st2=>setW x y v st2 fun st3=>FQ ρ st3:=rfl
theorem Tgs_nil {vs:List PV}:wpTgs Γ .nil vs ρ st FQ=(vs=[]∧FQ ρ st):=rfl
theorem Tgs_cons {t:Tg} {ts:Tgs} {vs:List PV}:wpTgs Γ (.cons t ts) vs ρ st FQ=∃v r,vs=v::r∧wpTg Γ t v ρ st fun ρ' st'=>wpTgs Γ ts r ρ' st' FQ:=rfl
theorem Sz_nil:Tgs.size .nil=0:=id rfl
theorem Sz_cons {t:Tg} {ts:Tgs}:Tgs.size (.cons t ts)=ts.size+1:=id rfl
end
end FW
set_option Elab.async false
set_option linter.all false
set_option maxRecDepth 100000
namespace FW
open PySem L2 HX
theorem eqW_mono {st:AH} {x y:PV} {k k':Bool→Prop} (h:∀b,k b→k' b) (q:eqW st x y k):eqW st x y k':=by
 unfold eqW at q ⊢
 split at q
 ·exact h _ q
 ·exact h _ q
 ·exact h _ q
 ·obtain ⟨d,e,h1,h2,h3,h4,q⟩:=q
  exact ⟨d,e,h1,h2,h3,h4,h _ q⟩
theorem binW_mono {op:Operator} {x y:PV} {st:AH} {Q Q':EK} (h:∀v st,Q v st→Q' v st) (q:binW op x y st Q):binW op x y st Q':=by
 cases op with
 | Add =>
  cases x with
  | int i =>
   cases y with
   | int j=>exact h _ _ q
   | _=>exact False.elim q
  | ref n =>
   cases y with
   | ref k=>obtain ⟨xs,ys,h1,h2,h3,q⟩:=q;exact ⟨xs,ys,h1,h2,h3,h _ _ q⟩
   | _=>exact False.elim q
  | tup xs =>
   cases y with
   | tup ys=>exact ⟨q.1,h _ _ q.2⟩
   | _=>exact False.elim q
  | str a =>
   cases y with
   | str b=>exact ⟨q.1,h _ _ q.2⟩
   | _=>exact False.elim q
  | _=>exact False.elim q
 | Mult =>
  cases x with
  | int i =>
   cases y with
   | int j=>exact ⟨q.1,h _ _ q.2⟩
   | _=>exact False.elim q
  | ref n =>
   cases y with
   | int k=>obtain ⟨xs,h1,h2,h3,h4,q⟩:=q;exact ⟨xs,h1,h2,h3,h4,h _ _ q⟩
   | _=>exact False.elim q
  | _=>exact False.elim q
 | Sub=>obtain ⟨i,j,rfl,rfl,q⟩:=iiW_inv q;exact h _ _ q
 | FloorDiv=>obtain ⟨i,j,rfl,rfl,q⟩:=iiW_inv q;exact ⟨q.1,h _ _ q.2⟩
 | Mod=>obtain ⟨i,j,rfl,rfl,q⟩:=iiW_inv q;exact ⟨q.1,h _ _ q.2⟩
 | Pow=>obtain ⟨i,j,rfl,rfl,q⟩:=iiW_inv q;exact ⟨q.1,h _ _ q.2⟩
 | _=>exact False.elim q
theorem cmpW_mono {op:CmpOp} {x y:PV} {st:AH} {Q Q':EK} (h:∀v st,Q v st→Q' v st) (q:cmpW op x y st Q):cmpW op x y st Q':=by
 unfold cmpW at q ⊢
 split at q
 ·exact eqW_mono (fun _=>h _ _) q
 ·exact eqW_mono (fun _=>h _ _) q
 ·split at q <;> first|exact h _ _ q|exact q
 ·split at q <;> first|exact h _ _ q|exact q
 ·split at q <;> first|exact h _ _ q|exact q
 ·split at q <;> first|exact h _ _ q|exact q
 ·split at q <;> first|exact h _ _ q|exact q
 ·split at q <;> first|exact h _ _ q|exact q
 ·split at q <;> first|exact h _ _ q|exact q
 ·exact q
theorem ixW_mono {x y:PV} {st:AH} {Q Q':EK} (h:∀v st,Q v st→Q' v st) (q:ixW x y st Q):ixW x y st Q':=by
 cases y with
 | int i =>
  rcases ixI_inv q with ⟨z,c,rfl,h1,h2,q⟩|⟨xs,v,h1,h2,q⟩
  ·exact ⟨h1,c,h2,h _ _ q⟩
  ·exact ixI_seq h1 h2 (h _ _ q)
 | _=>exact q
theorem slW_mono {x:PV} {lo hi:Option Int} {st:AH} {Q Q':EK} (h:∀v st,Q v st→Q' v st) (q:slW x lo hi st Q):slW x lo hi st Q':=by
 cases x with
 | tup xs=>exact h _ _ q
 | str z=>exact ⟨q.1,h _ _ q.2⟩
 | _=>obtain ⟨xs,e,q⟩:=q;exact ⟨xs,e,h _ _ q⟩
theorem bltW_mono {b:B} {vs:List PV} {st:AH} {Q Q':EK} (h:∀v st,Q v st→Q' v st) (q:bltW b vs st Q):bltW b vs st Q':=by
 cases b with
 | len =>
  obtain ⟨x,rfl,q⟩:=oneW_inv q
  rcases lenW_inv q with ⟨z,rfl,h1,q⟩|⟨xs,e,q⟩
  ·exact ⟨h1,h _ _ q⟩
  ·exact lenW_seq e (h _ _ q)
 | max2=>obtain ⟨x,y,rfl,q⟩:=twoW_inv q;obtain ⟨i,j,rfl,rfl,q⟩:=iiW_inv q;exact h _ _ q
 | min2=>obtain ⟨x,y,rfl,q⟩:=twoW_inv q;obtain ⟨i,j,rfl,rfl,q⟩:=iiW_inv q;exact h _ _ q
 | divmod=>obtain ⟨x,y,rfl,q⟩:=twoW_inv q;obtain ⟨i,j,rfl,rfl,q⟩:=iiW_inv q;exact ⟨q.1,h _ _ q.2⟩
 | int1 =>
  obtain ⟨x,rfl,q⟩:=oneW_inv q
  rcases int1W_inv q with ⟨b,rfl,q⟩|⟨z,n,rfl,h1,h2,q⟩
  ·exact h _ _ q
  ·exact ⟨h1,n,h2,h _ _ q⟩
 | str1=>exact False.elim q
 | tuple1=>obtain ⟨x,rfl,xs,h1,q⟩:=oneW_inv q;exact ⟨xs,h1,h _ _ q⟩
 | list1=>obtain ⟨x,rfl,xs,h1,q⟩:=oneW_inv q;exact ⟨xs,h1,h _ _ q⟩
 | all1=>obtain ⟨x,rfl,xs,bs,h1,h2,q⟩:=oneW_inv q;exact ⟨xs,bs,h1,h2,h _ _ q⟩
 | any1=>obtain ⟨x,rfl,xs,bs,h1,h2,q⟩:=oneW_inv q;exact ⟨xs,bs,h1,h2,h _ _ q⟩
 | abs1=>obtain ⟨x,rfl,q⟩:=oneW_inv q;obtain ⟨i,rfl,q⟩:=inW_inv q;exact h _ _ q
 | sorted1=>exact False.elim q
 | repr1=>exact False.elim q
theorem metW_mono {m:M} {x:PV} {vs:List PV} {st:AH} {Q Q':EK} (h:∀v st,Q v st→Q' v st) (q:metW m x vs st Q):metW m x vs st Q':=by
 cases m with
 | append=>obtain ⟨n,rfl,q⟩:=rfW_inv q;obtain ⟨v,rfl,xs,h1,h2,q⟩:=oneW_inv q;exact ⟨xs,h1,h2,h _ _ q⟩
 | pop0=>obtain ⟨n,rfl,q⟩:=rfW_inv q;obtain ⟨rfl,xs,v,h1,h2,q⟩:=zeroW_inv q;exact ⟨xs,v,h1,h2,h _ _ q⟩
 | extend=>obtain ⟨n,rfl,q⟩:=rfW_inv q;obtain ⟨v,rfl,q⟩:=oneW_inv q;obtain ⟨k,rfl,xs,ys,h1,h2,h3,q⟩:=rfW_inv q;exact ⟨xs,ys,h1,h2,h3,h _ _ q⟩
 | insert=>exact False.elim q
 | count=>exact False.elim q
theorem truW_mono {x:PV} {st:AH} {Q Q':BK} (h:∀v st,Q v st→Q' v st) (q:truW x st Q):truW x st Q':=by
 unfold truW at q ⊢
 split at q <;> first
  | exact h _ _ q
  | exact q.elim
  | (obtain ⟨xs,h1,q⟩:=q;exact ⟨xs,h1,h _ _ q⟩)
theorem setW_mono {o i v:PV} {st:AH} {k k':AH→Prop} (h:∀st,k st→k' st) (q:setW o i v st k):setW o i v st k':=by
 unfold setW at q ⊢
 split at q
 ·obtain ⟨xs,h1,j,h2,q⟩:=q
  exact ⟨xs,h1,j,h2,h _ q⟩
 ·exact q
theorem Tmp_mono {st0:AH} {Q Q':EK} (h:∀v st,Q v st→Q' v st) {v:PV} {st:AH} (q:Tmp st0 Q v st):Tmp st0 Q' v st:=by
 obtain ⟨st1,g,h1,h2,h3,h4,q⟩:=q
 exact ⟨st1,g,h1,h2,h3,h4,h _ _ q⟩
theorem compW_mono {chk:AH→Prop} {body body':PV→AH→(Option PV→AH→Prop)→Prop} (hb:∀x st k k',(∀o st,k o st→k' o st)→body x st k→body' x st k') :
  ∀ {xs acc:List PV} {st:AH} {Q Q':LK},(∀v st,Q v st→Q' v st)→compW chk body xs acc st Q→compW chk body' xs acc st Q'
 | [],acc,st,Q,Q',h,q=>⟨q.1,h _ _ q.2⟩
 | x::xs,acc,st,Q,Q',h,q=>⟨q.1,hb _ _ _ _ (fun o st' z=>compW_mono hb h z) q.2⟩
section
variable {Γ:Nat→FSp}
noncomputable def GMono (Γ:Nat→FSp):Prop:=∀f vs st Q Q',(∀v st,Q v st→Q' v st)→Γ f vs st Q→Γ f vs st Q'
mutual
theorem wpE_mono (G:GMono Γ):∀(e:E) {ρ:Fr} {st:AH} {Q Q':EK},(∀v st,Q v st→Q' v st)→wpE Γ e ρ st Q→wpE Γ e ρ st Q'
 | .var i,ρ,st,Q,Q',h,q=>by
  skip
  obtain ⟨v,h1,q⟩:=q
  exact ⟨v,h1,h _ _ q⟩
 | .int i,ρ,st,Q,Q',h,q=>by exact h _ _ q
 | .bl i,ρ,st,Q,Q',h,q=>by exact h _ _ q
 | .non,ρ,st,Q,Q',h,q=>by exact h _ _ q
 | .str i,ρ,st,Q,Q',h,q=>by exact h _ _ q
 | .gv _ i,ρ,st,Q,Q',h,q=>by exact h _ _ q
 | .tup es,ρ,st,Q,Q',h,q=>by exact wpEs_mono G es (fun vs st1 z=>⟨z.1,h _ _ z.2⟩) q
 | .lst es,ρ,st,Q,Q',h,q=>by exact wpEs_mono G es (fun vs st1 z=>⟨z.1,h _ _ z.2⟩) q
 | .dct0,ρ,st,Q,Q',h,q=>False.elim q
 | .bad,ρ,st,Q,Q',h,q=>False.elim q
 | .jrev _,ρ,st,Q,Q',h,q=>False.elim q
 | .part _ _,ρ,st,Q,Q',h,q=>False.elim q
 | .pcall i e,ρ,st,Q,Q',h,q=>by
  obtain ⟨a,e1,q⟩:=q
  exact ⟨a,e1,wpE_mono G e (fun x st1 z=>G _ _ _ _ _ h z) q⟩
 | .hm e be caps,ρ,st,Q,Q',h,q=>by
  refine wpE_mono G e (fun x st1 z=>?_) q
  obtain ⟨xs,e,hl,hc,g,hg,z⟩:=z
  exact ⟨xs,e,hl,hc,g,hg,h _ _ z⟩
 | .dct1 _ _,ρ,st,Q,Q',h,q=>False.elim q
 | .bin op a b,ρ,st,Q,Q',h,q=>by exact wpE_mono G a (fun x st1 z=>wpE_mono G b (fun y st2 z=>binW_mono h z) z) q
 | .neg a,ρ,st,Q,Q',h,q=>by
  skip
  refine wpE_mono G a (fun x st1 z=>?_) q
  obtain ⟨i,e,z⟩:=z
  exact ⟨i,e,h _ _ z⟩
 | .not a,ρ,st,Q,Q',h,q=>by
  skip
  refine wpE_mono G a (fun x st1 z=>?_) q
  obtain ⟨i,e,z⟩:=z
  exact ⟨i,e,h _ _ z⟩
 | .cmp op a b,ρ,st,Q,Q',h,q=>by exact wpE_mono G a (fun x st1 z=>wpE_mono G b (fun y st2 z=>cmpW_mono h z) z) q
 | .bop true es,ρ,st,Q,Q',h,q=>by exact wpAV_mono G es h q
 | .bop false es,ρ,st,Q,Q',h,q=>by exact wpOV_mono G es h q
 | .ite c a b,ρ,st,Q,Q',h,q=>by
  skip
  refine wpT_mono G c (fun k st1 z=>?_) q
  cases k with
  | true=>rw [if_pos rfl] at z ⊢;exact wpE_mono G a h z
  | false=>rw [if_neg Bool.false_ne_true] at z ⊢;exact wpE_mono G b h z
 | .ix a b,ρ,st,Q,Q',h,q=>by exact wpE_mono G a (fun x st1 z=>wpE_mono G b (fun y st2 z=>ixW_mono h z) z) q
 | .sl a lo hi,ρ,st,Q,Q',h,q=>by exact wpE_mono G a (fun x st1 z=>wpO_mono G lo (fun l st2 z=>wpO_mono G hi (fun u st3 z=>slW_mono h z) z) z) q
 | .call f es,ρ,st,Q,Q',h,q=>by exact wpEs_mono G es (fun vs st1 z=>G _ _ _ _ _ h z) q
 | .blt b es,ρ,st,Q,Q',h,q=>by exact wpEs_mono G es (fun vs st1 z=>bltW_mono h z) q
 | .inst a t,ρ,st,Q,Q',h,q=>by
  skip
  refine wpE_mono G a (fun x st1 z=>?_) q
  obtain ⟨i,e,z⟩:=z
  exact ⟨i,e,h _ _ z⟩
 | .met m o es,ρ,st,Q,Q',h,q=>by exact wpE_mono G o (fun x st1 z=>⟨z.1,wpEs_mono G es (fun vs st2 z=>metW_mono h z) z.2⟩) q
 | .comp elt tg it ifs nt caps,ρ,st,Q,Q',h,q=>by
  skip
  exact wpIt_mono G it (fun xs chk st1 z=>⟨z.1,compW_mono (fun x st k k' hk w=>wpTg_mono G tg (fun ρ' st3 w=>wpAT_mono G ifs (fun c st4 w=>by
   cases c with
   | true=>rw [if_pos rfl] at w ⊢;exact wpE_mono G elt (fun v st5 w=>hk _ _ w) w
   | false=>rw [if_neg Bool.false_ne_true] at w ⊢;exact hk _ _ w) w) w) (fun vs st2 w=>h _ _ w) z.2⟩) q
 | .tmp a,ρ,st,Q,Q',h,q=>by exact wpE_mono G a (fun v st1 z=>Tmp_mono h z) q
theorem wpEs_mono (G:GMono Γ):∀(e:Es) {ρ:Fr} {st:AH} {Q Q':LK},(∀v st,Q v st→Q' v st)→wpEs Γ e ρ st Q→wpEs Γ e ρ st Q'
 | .nil,ρ,st,Q,Q',h,q=>by exact h _ _ q
 | .cons e es,ρ,st,Q,Q',h,q=>by exact wpE_mono G e (fun x st1 z=>wpEs_mono G es (fun xs st2 z=>h _ _ z) z) q
theorem wpO_mono (G:GMono Γ):∀(e:O) {ρ:Fr} {st:AH} {Q Q':Option Int→AH→Prop},(∀v st,Q v st→Q' v st)→wpO Γ e ρ st Q→wpO Γ e ρ st Q'
 | .no,ρ,st,Q,Q',h,q=>by exact h _ _ q
 | .yes e,ρ,st,Q,Q',h,q=>by
  skip
  refine wpE_mono G e (fun x st1 z=>?_) q
  obtain ⟨i,e,z⟩:=z
  exact ⟨i,e,h _ _ z⟩
theorem wpT_mono (G:GMono Γ):∀(e:E) {ρ:Fr} {st:AH} {Q Q':BK},(∀v st,Q v st→Q' v st)→wpT Γ e ρ st Q→wpT Γ e ρ st Q'
 | .bop true es,ρ,st,Q,Q',h,q=>by exact wpAT_mono G es h q
 | .bop false es,ρ,st,Q,Q',h,q=>by exact wpOT_mono G es h q
 | .not a,ρ,st,Q,Q',h,q=>by exact wpT_mono G a (fun c st1 z=>h _ _ z) q
 | .cmp op a b,ρ,st,Q,Q',h,q=>by
  skip
  exact wpE_mono G a (fun x st1 z=>wpE_mono G b (fun y st2 z=>cmpW_mono (fun v st3 w=>by obtain ⟨c,e,w⟩:=w;exact ⟨c,e,h _ _ w⟩) z) z) q
 | .var i,ρ,st,Q,Q',h,q=>by
  skip
  obtain ⟨v,h1,q⟩:=q
  exact ⟨v,h1,truW_mono h q⟩
 | .call f es,ρ,st,Q,Q',h,q=>by exact wpEs_mono G es (fun vs st1 z=>G _ _ _ _ _ (fun v st2 z=>truW_mono h z) z) q
 | .blt b es,ρ,st,Q,Q',h,q=>by exact wpEs_mono G es (fun vs st1 z=>bltW_mono (fun v st2 z=>truW_mono h z) z) q
 | .inst a t,ρ,st,Q,Q',h,q=>by
  skip
  refine wpE_mono G a (fun x st1 z=>?_) q
  obtain ⟨i,e,z⟩:=z
  exact ⟨i,e,h _ _ z⟩
 | .tmp a,ρ,st,Q,Q',h,q=>by exact wpE_mono G a (fun v st1 z=>Tmp_mono (fun v st2 z=>truW_mono h z) z) q
 | .ix a b,ρ,st,Q,Q',h,q=>by exact wpE_mono G a (fun x st1 z=>wpE_mono G b (fun y st2 z=>ixW_mono (fun v st3 z=>truW_mono h z) z) z) q
 | .pcall i e,ρ,st,Q,Q',h,q=>by
  obtain ⟨a,e1,q⟩:=q
  exact ⟨a,e1,wpE_mono G e (fun x st1 z=>G _ _ _ _ _ (fun v st2 z=>truW_mono h z) z) q⟩
 | .hm _ _ _,ρ,st,Q,Q',h,q=>False.elim q
 | .int _,ρ,st,Q,Q',h,q=>False.elim q
 | .bl _,ρ,st,Q,Q',h,q=>False.elim q
 | .non,ρ,st,Q,Q',h,q=>False.elim q
 | .str _,ρ,st,Q,Q',h,q=>False.elim q
 | .gv _ _,ρ,st,Q,Q',h,q=>False.elim q
 | .tup _,ρ,st,Q,Q',h,q=>False.elim q
 | .lst _,ρ,st,Q,Q',h,q=>False.elim q
 | .dct0,ρ,st,Q,Q',h,q=>False.elim q
 | .bad,ρ,st,Q,Q',h,q=>False.elim q
 | .jrev _,ρ,st,Q,Q',h,q=>False.elim q
 | .part _ _,ρ,st,Q,Q',h,q=>False.elim q
 | .dct1 _ _,ρ,st,Q,Q',h,q=>False.elim q
 | .bin _ _ _,ρ,st,Q,Q',h,q=>False.elim q
 | .neg _,ρ,st,Q,Q',h,q=>False.elim q
 | .ite _ _ _,ρ,st,Q,Q',h,q=>False.elim q
 | .sl _ _ _,ρ,st,Q,Q',h,q=>False.elim q
 | .met _ _ _,ρ,st,Q,Q',h,q=>False.elim q
 | .comp _ _ _ _ _ _,ρ,st,Q,Q',h,q=>False.elim q
theorem wpAV_mono (G:GMono Γ):∀(e:Es) {ρ:Fr} {st:AH} {Q Q':EK},(∀v st,Q v st→Q' v st)→wpAV Γ e ρ st Q→wpAV Γ e ρ st Q'
 | .nil,ρ,st,Q,Q',h,q=>False.elim q
 | .cons e .nil,ρ,st,Q,Q',h,q=>by exact wpE_mono G e h q
 | .cons e (.cons e2 es),ρ,st,Q,Q',h,q=>by
  skip
  refine wpE_mono G e (fun x st1 z=>?_) q
  obtain ⟨c,e,z⟩:=z
  refine ⟨c,e,?_⟩
  cases c with
  | true=>rw [if_pos rfl] at z ⊢;exact wpAV_mono G (.cons e2 es) h z
  | false=>rw [if_neg Bool.false_ne_true] at z ⊢;exact h _ _ z
theorem wpOV_mono (G:GMono Γ):∀(e:Es) {ρ:Fr} {st:AH} {Q Q':EK},(∀v st,Q v st→Q' v st)→wpOV Γ e ρ st Q→wpOV Γ e ρ st Q'
 | .nil,ρ,st,Q,Q',h,q=>False.elim q
 | .cons e .nil,ρ,st,Q,Q',h,q=>by exact wpE_mono G e h q
 | .cons e (.cons e2 es),ρ,st,Q,Q',h,q=>by
  skip
  refine wpE_mono G e (fun x st1 z=>?_) q
  obtain ⟨c,e,z⟩:=z
  refine ⟨c,e,?_⟩
  cases c with
  | true=>rw [if_pos rfl] at z ⊢;exact h _ _ z
  | false=>rw [if_neg Bool.false_ne_true] at z ⊢;exact wpOV_mono G (.cons e2 es) h z
theorem wpAT_mono (G:GMono Γ):∀(e:Es) {ρ:Fr} {st:AH} {Q Q':BK},(∀v st,Q v st→Q' v st)→wpAT Γ e ρ st Q→wpAT Γ e ρ st Q'
 | .nil,ρ,st,Q,Q',h,q=>by exact h _ _ q
 | .cons e .nil,ρ,st,Q,Q',h,q=>by exact wpT_mono G e h q
 | .cons e (.cons e2 es),ρ,st,Q,Q',h,q=>by
  skip
  refine wpT_mono G e (fun c st1 z=>?_) q
  cases c with
  | true=>rw [if_pos rfl] at z ⊢;exact wpAT_mono G (.cons e2 es) h z
  | false=>rw [if_neg Bool.false_ne_true] at z ⊢;exact h _ _ z
theorem wpOT_mono (G:GMono Γ):∀(e:Es) {ρ:Fr} {st:AH} {Q Q':BK},(∀v st,Q v st→Q' v st)→wpOT Γ e ρ st Q→wpOT Γ e ρ st Q'
 | .nil,ρ,st,Q,Q',h,q=>by exact h _ _ q
 | .cons e .nil,ρ,st,Q,Q',h,q=>by exact wpT_mono G e h q
 | .cons e (.cons e2 es),ρ,st,Q,Q',h,q=>by
  skip
  refine wpT_mono G e (fun c st1 z=>?_) q
  cases c with
  | true=>rw [if_pos rfl] at z ⊢;exact h _ _ z
  | false=>rw [if_neg Bool.false_ne_true] at z ⊢;exact wpOT_mono G (.cons e2 es) h z
theorem wpIt_mono (G:GMono Γ):∀(e:It) {ρ:Fr} {st:AH} {Q Q':List PV→(AH→Prop)→AH→Prop},(∀v c st,Q v c st→Q' v c st)→wpIt Γ e ρ st Q→wpIt Γ e ρ st Q'
 | .seq a,ρ,st,Q,Q',h,q=>by
  skip
  refine wpE_mono G a (fun x st1 z=>?_) q
  obtain ⟨c,e,z⟩:=z
  exact ⟨c,e,h _ _ _ z⟩
 | .range1 a,ρ,st,Q,Q',h,q=>by
  skip
  refine wpE_mono G a (fun x st1 z=>?_) q
  obtain ⟨c,e,h1,h2,z⟩:=z
  exact ⟨c,e,h1,h2,h _ _ _ z⟩
 | .range2 a b,ρ,st,Q,Q',h,q=>by
  skip
  refine wpE_mono G a (fun x st1 z=>wpE_mono G b (fun y st2 z=>?_) z) q
  obtain ⟨i,j,e,e2,h1,z⟩:=z
  exact ⟨i,j,e,e2,h1,h _ _ _ z⟩
 | .zip a b,ρ,st,Q,Q',h,q=>by
  skip
  refine wpE_mono G a (fun x st1 z=>wpE_mono G b (fun y st2 z=>?_) z) q
  obtain ⟨i,j,e,e2,z⟩:=z
  exact ⟨i,j,e,e2,h _ _ _ z⟩
 | .enum a,ρ,st,Q,Q',h,q=>by
  skip
  refine wpE_mono G a (fun x st1 z=>?_) q
  obtain ⟨c,e,z⟩:=z
  exact ⟨c,e,h _ _ _ z⟩
 | .chars _,ρ,st,Q,Q',h,q=>False.elim q
 | .zip3 _ _ _,ρ,st,Q,Q',h,q=>False.elim q
 | .range3 _ _ _,ρ,st,Q,Q',h,q=>False.elim q
theorem wpTg_mono (G:GMono Γ):∀(t:Tg) {v:PV} {ρ:Fr} {st:AH} {Q Q':Fr→AH→Prop},(∀ρ st,Q ρ st→Q' ρ st)→wpTg Γ t v ρ st Q→wpTg Γ t v ρ st Q'
 | .name i,v,ρ,st,Q,Q',h,q=>by exact h _ _ q
 | .tup ts,v,ρ,st,Q,Q',h,q=>by
  skip
  obtain ⟨xs,e,hl,q⟩:=q
  exact ⟨xs,e,hl,wpTgs_mono G ts h q⟩
 | .ltup ts,v,ρ,st,Q,Q',h,q=>by
  skip
  obtain ⟨xs,e,hl,q⟩:=q
  exact ⟨xs,e,hl,wpTgs_mono G ts h q⟩
 | .sub o i,v,ρ,st,Q,Q',h,q=>by exact wpE_mono G o (fun x st1 z=>wpE_mono G i (fun y st2 z=>setW_mono (fun st3 z=>h _ _ z) z) z) q
theorem wpTgs_mono (G:GMono Γ):∀(t:Tgs) {v:List PV} {ρ:Fr} {st:AH} {Q Q':Fr→AH→Prop},(∀ρ st,Q ρ st→Q' ρ st)→wpTgs Γ t v ρ st Q→wpTgs Γ t v ρ st Q'
 | .nil,v,ρ,st,Q,Q',h,q=>by exact ⟨q.1,h _ _ q.2⟩
 | .cons t ts,v,ρ,st,Q,Q',h,q=>by
  skip
  obtain ⟨x,r,e,q⟩:=q
  exact ⟨x,r,e,wpTg_mono G t (fun ρ' st' z=>wpTgs_mono G ts h z) q⟩
end
structure DMono (D D':AEnds):Prop where
 nx:∀ρ st,D.nx ρ st→D'.nx ρ st
 rt:∀v st,D.rt v st→D'.rt v st
 bk:∀ρ st,D.bk ρ st→D'.bk ρ st
 ct:∀ρ st,D.ct ρ st→D'.ct ρ st
theorem forW_mono {chk:AH→Prop} {body body':PV→Fr→AH→AEnds→Prop} {D D':AEnds} (hD:DMono D D') (hb:∀x ρ st D D',DMono D D'→body x ρ st D→body' x ρ st D') :
  ∀ {xs:List PV} {ρ:Fr} {st:AH},forW chk body D xs ρ st→forW chk body' D' xs ρ st
 | [],ρ,st,q=>⟨q.1,hD.nx _ _ q.2⟩
 | x::xs,ρ,st,q=>by
  refine ⟨q.1,hb _ _ _ _ _ ?_ q.2⟩
  exact ⟨fun _ _ z=>forW_mono hD hb z,hD.rt,hD.nx,fun _ _ z=>forW_mono hD hb z⟩
theorem whileW_mono {c:Fr→AH→BK→Prop} {body:Fr→AH→AEnds→Prop} {D D':AEnds} (hD:DMono D D') (hc:∀ρ st Q Q',(∀b st,Q b st→Q' b st)→c ρ st Q→c ρ st Q')
  (hb:∀ρ st D D',DMono D D'→body ρ st D→body ρ st D'):∀ {n:Nat} {ρ:Fr} {st:AH},whileW c body D n ρ st→whileW c body D' n ρ st
 | 0,ρ,st,q=>q
 | n+1,ρ,st,q=>hc _ _ _ _ (fun b st1 z=>by
  cases b with
  | true =>
   rw [if_pos rfl] at z ⊢
   refine hb _ _ _ _ ?_ z
   exact ⟨fun _ _ z=>whileW_mono hD hc hb z,hD.rt,hD.nx,fun _ _ z=>whileW_mono hD hc hb z⟩
  | false=>rw [if_neg Bool.false_ne_true] at z ⊢;exact hD.nx _ _ z) q
theorem augW_mono {op:Operator} {x y:PV} {st:AH} {Q Q':EK} (h:∀v st,Q v st→Q' v st) (q:augW op x y st Q):augW op x y st Q':=by
 unfold augW at q ⊢
 split at q
 ·exact h _ _ q
 ·exact h _ _ q
 ·obtain ⟨xs,ys,h1,h2,h3,q⟩:=q
  exact ⟨xs,ys,h1,h2,h3,h _ _ q⟩
 ·exact q
mutual
theorem wpS_mono (G:GMono Γ):∀(s:S) {ρ:Fr} {st:AH} {D D':AEnds},DMono D D'→wpS Γ s ρ st D→wpS Γ s ρ st D'
 | .set t e,ρ,st,D,D',h,q=>by exact wpE_mono G e (fun v st1 z=>wpTg_mono G t h.nx z) q
 | .par i j a b,ρ,st,D,D',h,q=>by exact wpE_mono G a (fun v st1 z=>wpE_mono G b (fun w st2 z=>h.nx _ _ z) z) q
 | .aug i op e,ρ,st,D,D',h,q=>by
  skip
  obtain ⟨x,h1,q⟩:=q
  exact ⟨x,h1,wpE_mono G e (fun v st1 z=>augW_mono (fun _ _ z=>h.nx _ _ z) z) q⟩
 | .expr e,ρ,st,D,D',h,q=>by exact wpE_mono G e (fun v st1 z=>h.nx _ _ z) q
 | .ret e,ρ,st,D,D',h,q=>by exact wpE_mono G e h.rt q
 | .retN,ρ,st,D,D',h,q=>by exact h.rt _ _ q
 | .ifS c a b,ρ,st,D,D',h,q=>by
  skip
  refine wpT_mono G c (fun k st1 z=>?_) q
  cases k with
  | true=>rw [if_pos rfl] at z ⊢;exact wpSs_mono G a h z
  | false=>rw [if_neg Bool.false_ne_true] at z ⊢;exact wpSs_mono G b h z
 | .whileS c b,ρ,st,D,D',h,q=>by
  skip
  obtain ⟨n,q⟩:=q
  refine ⟨n,whileW_mono h (c:=wpT Γ c) (body:=wpSs Γ b) ?_ ?_ q⟩
  ·exact fun _ _ _ _ hk z=>wpT_mono G c hk z
  ·exact fun _ _ _ _ hk z=>wpSs_mono G b hk z
 | .forS t it b,ρ,st,D,D',h,q=>by
  skip
  exact wpIt_mono G it (fun xs chk st1 z=>forW_mono h (fun x ρ st D D' hd w=>wpTg_mono G t (fun ρ2 st2 w=>wpSs_mono G b hd w) w) z) q
 | .pass,ρ,st,D,D',h,q=>by exact h.nx _ _ q
 | .bad,ρ,st,D,D',h,q=>False.elim q
 | .set2 i j e,ρ,st,D,D',h,q=>by exact wpE_mono G e (fun v st1 z=>h.nx _ _ z) q
 | .brk,ρ,st,D,D',h,q=>by exact h.bk _ _ q
 | .cont,ρ,st,D,D',h,q=>by exact h.ct _ _ q
theorem wpSs_mono (G:GMono Γ):∀(s:Ss) {ρ:Fr} {st:AH} {D D':AEnds},DMono D D'→wpSs Γ s ρ st D→wpSs Γ s ρ st D'
 | .nil,ρ,st,D,D',h,q=>by exact h.nx _ _ q
 | .cons s ss,ρ,st,D,D',h,q=>by
  skip
  refine wpS_mono G s ?_ q
  exact ⟨fun _ _ z=>wpSs_mono G ss h z,h.rt,h.bk,h.ct⟩
end
end
end FW
set_option Elab.async false
set_option linter.all false
set_option maxRecDepth 100000
namespace FW
open PySem PySem.Spec PyProof.Rows L2 HX
noncomputable def RdF (K:PySem.W.Frag) (H:Hp) (a:Addr) (ys:List V):Prop :=
 (∃o,H a=some (.frz o (.lst ys)))∨∃(o:Obj) (its:Array Value) (n:Nat),K.lookup a=some o∧o.cls=.type "list"∧o.dict=none∧o.data=.seq its n∧its.size≤sizeLine∧Vals ys its.toList
theorem RdF.sq {K:PySem.W.Frag} {H:Hp} {a:Addr} {ys:List V} (h:RdF K H a ys):SqL K H a ys:=by
 rcases h with h|h
 ·exact .inl (.inr h)
 ·exact .inr h
mutual
noncomputable def R (K:PySem.W.Frag) (m:List Addr) (H:Hp):PV→V→Prop
 | .non,v=>v=.non
 | .bl b,v=>v=.bl b
 | .int i,v=>v=.int i
 | .str x,v=>v=.str x
 | .ref n,v=>∃a,m[n]?=some a∧v=.ref a
 | .tup xs,v=>∃a ys,v=.ref a∧SqT K H a ys∧Rs K m H xs ys
 | .rdl xs,v=>∃a ys,v=.ref a∧RdF K H a ys∧Rs K m H xs ys
 | .fn a,v=>v=.ref a
noncomputable def Rs (K:PySem.W.Frag) (m:List Addr) (H:Hp):List PV→List V→Prop
 | [],ys=>ys=[]
 | x::xs,ys=>∃y r,ys=y::r∧R K m H x y∧Rs K m H xs r
end
section
variable {K:PySem.W.Frag} {m m':List Addr} {H H':Hp} {v:V} {vs:List V}
theorem R_non:R K m H .non v↔v=.non:=by rw [R]
theorem R_bl {b:Bool}:R K m H (.bl b) v↔v=.bl b:=by rw [R]
theorem R_int {b:Int}:R K m H (.int b) v↔v=.int b:=by rw [R]
theorem R_str {b:Str}:R K m H (.str b) v↔v=.str b:=by rw [R]
theorem R_ref {n:Nat}:R K m H (.ref n) v↔∃a,m[n]?=some a∧v=.ref a:=by rw [R]
theorem R_tup {xs:List PV}:R K m H (.tup xs) v↔∃a ys,v=.ref a∧SqT K H a ys∧Rs K m H xs ys:=by rw [R]
theorem R_rdl {xs:List PV}:R K m H (.rdl xs) v↔∃a ys,v=.ref a∧RdF K H a ys∧Rs K m H xs ys:=by rw [R]
theorem R_fn {a:Nat}:R K m H (.fn a) v↔v=.ref a:=by rw [R]
theorem Rs_nil:Rs K m H [] vs↔vs=[]:=by rw [Rs]
theorem Rs_cons {x:PV} {xs:List PV}:Rs K m H (x::xs) vs↔∃y r,vs=y::r∧R K m H x y∧Rs K m H xs r:=by rw [Rs]
theorem Rs_cons' {x:PV} {xs:List PV}:Rs K m H (x::xs) (v::vs)↔R K m H x v∧Rs K m H xs vs:=by
 rw [Rs_cons]
 constructor
 ·rintro ⟨_,_,e,h1,h2⟩;cases e;exact ⟨h1,h2⟩
 ·rintro ⟨h1,h2⟩;exact ⟨_,_,rfl,h1,h2⟩
theorem Rs.len:∀ {xs:List PV} {ys:List V},Rs K m H xs ys→xs.length=ys.length
 | [],ys,h=>by rw [Rs_nil] at h;subst h;rfl
 | x::xs,ys,h=>by
  rw [Rs_cons] at h
  obtain ⟨y,r,rfl,_,h⟩:=h
  simp [Rs.len h]
theorem Rs.get:∀ {xs:List PV} {ys:List V} {i:Nat} {x:PV},Rs K m H xs ys→xs[i]?=some x→∃y,ys[i]?=some y∧R K m H x y
 | [],ys,i,x,h,e=>by simp at e
 | x::xs,ys,i,z,h,e=>by
  rw [Rs_cons] at h
  obtain ⟨y,r,rfl,h1,h⟩:=h
  cases i with
  | zero=>simp at e;subst e;exact ⟨y,rfl,h1⟩
  | succ i =>
   obtain ⟨w,e1,e2⟩:=Rs.get h (by simpa using e)
   exact ⟨w,by simpa using e1,e2⟩
theorem Rs.app:∀ {xs zs:List PV} {ys ws:List V},Rs K m H xs ys→Rs K m H zs ws→Rs K m H (xs++zs) (ys++ws)
 | [],zs,ys,ws,h,h'=>by rw [Rs_nil] at h;subst h;exact h'
 | x::xs,zs,ys,ws,h,h'=>by
  rw [Rs_cons] at h
  obtain ⟨y,r,rfl,h1,h⟩:=h
  rw [List.cons_append,Rs_cons]
  exact ⟨y,r++ws,rfl,h1,h.app h'⟩
theorem Rs.drop:∀ {xs:List PV} {ys:List V} (n:Nat),Rs K m H xs ys→Rs K m H (xs.drop n) (ys.drop n)
 | xs,ys,0,h=>by simpa using h
 | [],ys,n+1,h=>by rw [Rs_nil] at h;subst h;simp [Rs_nil]
 | x::xs,ys,n+1,h=>by
  rw [Rs_cons] at h
  obtain ⟨y,r,rfl,h1,h⟩:=h
  simpa using Rs.drop n h
theorem Rs.take:∀ {xs:List PV} {ys:List V} (n:Nat),Rs K m H xs ys→Rs K m H (xs.take n) (ys.take n)
 | xs,ys,0,h=>by simp [Rs_nil]
 | [],ys,n+1,h=>by rw [Rs_nil] at h;subst h;simp [Rs_nil]
 | x::xs,ys,n+1,h=>by
  rw [Rs_cons] at h
  obtain ⟨y,r,rfl,h1,h⟩:=h
  rw [List.take_succ_cons,List.take_succ_cons,Rs_cons']
  exact ⟨h1,Rs.take n h⟩
theorem Rs.set {x:PV} {y:V} (hx:R K m H x y):∀ {xs:List PV} {ys:List V} (n:Nat),Rs K m H xs ys→Rs K m H (xs.set n x) (ys.set n y)
 | [],ys,n,h=>by rw [Rs_nil] at h;subst h;simp [Rs_nil]
 | z::xs,ys,0,h=>by
  rw [Rs_cons] at h
  obtain ⟨w,r,rfl,h1,h⟩:=h
  rw [List.set_cons_zero,List.set_cons_zero,Rs_cons']
  exact ⟨hx,h⟩
 | z::xs,ys,n+1,h=>by
  rw [Rs_cons] at h
  obtain ⟨w,r,rfl,h1,h⟩:=h
  rw [List.set_cons_succ,List.set_cons_succ,Rs_cons']
  exact ⟨h1,Rs.set hx n h⟩
theorem Rs.cut {xs:List PV} {ys:List V} (h:Rs K m H xs ys) (lo hi:Option Int):Rs K m H (cutP xs lo hi) (cutV ys lo hi):=by
 unfold cutP cutV
 rw [h.len]
 exact (h.drop _).take _
theorem Rs.atI {xs:List PV} {ys:List V} {i:Int} {x:PV} (h:Rs K m H xs ys) (e:atI xs i=some x):∃y,L2.atI ys i=some y∧R K m H x y:=by
 unfold L2.atI at e ⊢
 rw [h.len] at e
 cases q:ixN ys.length i with
 | none=>rw [q] at e;cases e
 | some j =>
  rw [q] at e
  obtain ⟨y,e1,e2⟩:=h.get (show xs[j]?=some x from e)
  exact ⟨y,e1,e2⟩
theorem Rs.dropLast {xs:List PV} {ys:List V} (h:Rs K m H xs ys):Rs K m H xs.dropLast ys.dropLast:=by
 rw [List.dropLast_eq_take,List.dropLast_eq_take,h.len]
 exact h.take _
theorem Rs.rep {xs:List PV} {ys:List V} (h:Rs K m H xs ys):∀n:Nat,Rs K m H (List.replicate n xs).flatten (List.replicate n ys).flatten
 | 0=>by simp [Rs_nil]
 | n+1=>by
  rw [List.replicate_succ,List.replicate_succ,List.flatten_cons,List.flatten_cons]
  exact h.app (Rs.rep h n)
theorem Rs.one {x:PV} {y:V} (h:R K m H x y):Rs K m H [x] [y]:=by rw [Rs_cons',Rs_nil];exact ⟨h,rfl⟩
end
noncomputable def lamNames:List Str:=["coming","latest","through"]
noncomputable def TB (K:PySem.W.Frag) (H:Hp):Prop:=∀x∈lamNames,∀c T,PySem.W.tabIn K x=some (c,T)→(∀y∈lamNames,∀d,PySem.W.tabIn K y=some (d,T)→y=x)∧∃ps,H T=some (.tbl ps)∧TriplesOk ps.toList ∧
 ∀pos cv,codeAmong pos ps.toList=some cv→∃c' oc,cv=.ref c'∧H c'=some (.frz oc (.own 0))∧codeOb oc (x++".<locals>."++"<lambda>")
theorem TB.keep {K:PySem.W.Frag} {H H':Hp} (t:TB K H) (h1:∀a ps,H a=some (.tbl ps)→H' a=some (.tbl ps)) (h2:∀a o,H a=some (.frz o (.own 0))→H' a=some (.frz o (.own 0))):TB K H':=fun x hx c T e=>by
 obtain ⟨e0,ps,e1,e2,e3⟩:=t x hx c T e
 refine ⟨e0,ps,h1 _ _ e1,e2,fun pos cv q=>?_⟩
 obtain ⟨c',oc,g1,g2,g3⟩:=e3 pos cv q
 exact ⟨c',oc,g1,h2 _ _ g2,g3⟩
structure Ext (K:PySem.W.Frag) (m:List Addr) (H:Hp) (m':List Addr) (H':Hp):Prop where
 pre:m <+: m'
 new:∀a∈m',a∈m∨H a=none
 fr:∀a o,a ∉ m→H a=some o→(∀ps,o≠.tbl ps)→H' a=some o
 tup:∀a ys,SqT K H a ys→SqT K H' a ys
 rdf:∀a ys,RdF K H a ys→RdF K H' a ys
 tbs:∀a ps,a ∉ m→H a=some (.tbl ps)→∃ps',H' a=some (.tbl ps')
 tb:TB K H→TB K H'
theorem Ext.refl (K:PySem.W.Frag) (m:List Addr) (H:Hp):Ext K m H m H:=⟨List.prefix_refl _,fun _ h=>.inl h,fun _ _ _ h _=>h,fun _ _ h=>h,fun _ _ h=>h,fun _ ps _ h=>⟨ps,h⟩,fun h=>h⟩
theorem Ext.ne {K:PySem.W.Frag} {m m':List Addr} {H H':Hp} (x:Ext K m H m' H') {a:Addr} {o:HO} (hm:a ∉ m) (e:H a=some o):H' a≠none:=fun z=>by
 by_cases h:∃ps,o=.tbl ps
 ·obtain ⟨ps,rfl⟩:=h
  obtain ⟨q,e2⟩:=x.tbs a ps hm e
  rw [e2] at z;cases z
 ·rw [x.fr a o hm e fun ps q=>h ⟨ps,q⟩] at z;cases z
theorem Ext.trans {K:PySem.W.Frag} {m m1 m2:List Addr} {H H1 H2:Hp} (a:Ext K m H m1 H1) (b:Ext K m1 H1 m2 H2):Ext K m H m2 H2:=by
 have nin:∀c o,c ∉ m→H c=some o→c ∉ m1:=fun c o h e z=>by
  rcases a.new c z with q|q
  ·exact h q
  ·rw [e] at q;cases q
 refine ⟨a.pre.trans b.pre,fun c hc=>?_,fun c o h e n=>b.fr c o (nin c o h e) (a.fr c o h e n) n,fun c ys h=>b.tup c ys (a.tup c ys h),fun c ys h=>b.rdf c ys (a.rdf c ys h),fun c ps h e=>let ⟨p1,e1⟩:=a.tbs c ps h e;b.tbs c p1 (nin c _ h e) e1,fun h=>b.tb (a.tb h)⟩
 rcases b.new c hc with q|q
 ·exact a.new c q
 ·by_cases hm:c∈m
  ·exact .inl hm
  ·cases e:H c with
   | none=>exact .inr rfl
   | some o=>exact absurd q (a.ne hm e)
theorem pre_get {m m':List Addr} (h:m <+: m') {n:Nat} {a:Addr} (e:m[n]?=some a):m'[n]?=some a:=by
 obtain ⟨t,rfl⟩:=h
 rw [List.getElem?_append_left (List.getElem?_eq_some_iff.mp e).1]
 exact e
mutual
theorem R.mono {K:PySem.W.Frag} {m m':List Addr} {H H':Hp} (x:Ext K m H m' H'):∀ {p:PV} {v:V},R K m H p v→R K m' H' p v
 | .non,v,h=>by rw [R_non] at h ⊢;exact h
 | .bl b,v,h=>by rw [R_bl] at h ⊢;exact h
 | .int b,v,h=>by rw [R_int] at h ⊢;exact h
 | .str b,v,h=>by rw [R_str] at h ⊢;exact h
 | .ref n,v,h=>by rw [R_ref] at h ⊢;obtain ⟨a,e,q⟩:=h;exact ⟨a,pre_get x.pre e,q⟩
 | .tup xs,v,h=>by rw [R_tup] at h ⊢;obtain ⟨a,ys,e,q,r⟩:=h;exact ⟨a,ys,e,x.tup _ _ q,Rs.mono x r⟩
 | .rdl xs,v,h=>by rw [R_rdl] at h ⊢;obtain ⟨a,ys,e,q,r⟩:=h;exact ⟨a,ys,e,x.rdf _ _ q,Rs.mono x r⟩
 | .fn b,v,h=>by rw [R_fn] at h ⊢;exact h
theorem Rs.mono {K:PySem.W.Frag} {m m':List Addr} {H H':Hp} (x:Ext K m H m' H'):∀ {ps:List PV} {vs:List V},Rs K m H ps vs→Rs K m' H' ps vs
 | [],vs,h=>by rw [Rs_nil] at h ⊢;exact h
 | p::ps,vs,h=>by
  rw [Rs_cons] at h ⊢
  obtain ⟨y,r,e,h1,h2⟩:=h
  exact ⟨y,r,e,R.mono x h1,Rs.mono x h2⟩
end
mutual
theorem R.cut {K:PySem.W.Frag} {m:List Addr} {H:Hp} {k:Nat}:∀ {p:PV} {v:V},R K m H p v→p.bec k=true→R K (m.take k) H p v
 | .non,v,h,_=>by rw [R_non] at h ⊢;exact h
 | .bl b,v,h,_=>by rw [R_bl] at h ⊢;exact h
 | .int b,v,h,_=>by rw [R_int] at h ⊢;exact h
 | .str b,v,h,_=>by rw [R_str] at h ⊢;exact h
 | .ref n,v,h,z=>by
  rw [R_ref] at h ⊢
  obtain ⟨a,e,q⟩:=h
  rw [PV.bec] at z
  exact ⟨a,by rw [List.getElem?_take_of_lt (of_decide_eq_true z)];exact e,q⟩
 | .tup xs,v,h,z=>by
  rw [R_tup] at h ⊢
  obtain ⟨a,ys,e,q,r⟩:=h
  rw [PV.bec] at z
  exact ⟨a,ys,e,q,Rs.cutm r z⟩
 | .rdl xs,v,h,z=>by
  rw [R_rdl] at h ⊢
  obtain ⟨a,ys,e,q,r⟩:=h
  rw [PV.bec] at z
  exact ⟨a,ys,e,q,Rs.cutm r z⟩
 | .fn b,v,h,_=>by rw [R_fn] at h ⊢;exact h
theorem Rs.cutm {K:PySem.W.Frag} {m:List Addr} {H:Hp} {k:Nat}:∀ {ps:List PV} {vs:List V},Rs K m H ps vs→PV.becs k ps=true→Rs K (m.take k) H ps vs
 | [],vs,h,_=>by rw [Rs_nil] at h ⊢;exact h
 | p::ps,vs,h,z=>by
  rw [Rs_cons] at h ⊢
  obtain ⟨y,r,e,h1,h2⟩:=h
  rw [PV.becs,Bool.and_eq_true] at z
  exact ⟨y,r,e,R.cut h1 z.1,Rs.cutm h2 z.2⟩
end
mutual
theorem R.bel {K:PySem.W.Frag} {m:List Addr} {H:Hp}:∀ {p:PV} {v:V},R K m H p v→p.bec m.length=true
 | .non,v,h=>by rw [PV.bec]
 | .bl b,v,h=>by rw [PV.bec]
 | .int b,v,h=>by rw [PV.bec]
 | .str b,v,h=>by rw [PV.bec]
 | .ref n,v,h=>by
  rw [R_ref] at h
  obtain ⟨a,e,q⟩:=h
  rw [PV.bec]
  exact decide_eq_true (List.getElem?_eq_some_iff.mp e).1
 | .tup xs,v,h=>by
  rw [R_tup] at h
  obtain ⟨a,ys,e,q,r⟩:=h
  rw [PV.bec]
  exact Rs.bel r
 | .rdl xs,v,h=>by
  rw [R_rdl] at h
  obtain ⟨a,ys,e,q,r⟩:=h
  rw [PV.bec]
  exact Rs.bel r
 | .fn b,v,h=>by rw [PV.bec]
theorem Rs.bel {K:PySem.W.Frag} {m:List Addr} {H:Hp}:∀ {ps:List PV} {vs:List V},Rs K m H ps vs→PV.becs m.length ps=true
 | [],vs,h=>by rw [PV.becs]
 | p::ps,vs,h=>by
  rw [Rs_cons] at h
  obtain ⟨y,r,e,h1,h2⟩:=h
  rw [PV.becs,Bool.and_eq_true]
  exact ⟨R.bel h1,Rs.bel h2⟩
end
noncomputable def CellR (K:PySem.W.Frag) (m:List Addr) (H:Hp):Cell→Addr→Prop
 | .lst xs,a=>∃ys,H a=some (.lst ys)∧Rs K m H xs ys
 | .dk kvs,a=>∃ys,H a=some (.dK ys)∧ys.map (·.1)=kvs.map (·.1)∧Rs K m H (kvs.map (·.2)) (ys.map (·.2))
theorem CellR.mono {K:PySem.W.Frag} {m m':List Addr} {H H':Hp} (x:Ext K m H m' H') {c:Cell} {a:Addr} (h:CellR K m H c a) (e:H' a=H a):CellR K m' H' c a:=by
 cases c with
 | lst xs=>obtain ⟨ys,h1,h2⟩:=h;exact ⟨ys,e.trans h1,h2.mono x⟩
 | dk kvs=>obtain ⟨ys,h1,h2,h3⟩:=h;exact ⟨ys,e.trans h1,h2,h3.mono x⟩
theorem CellR.ex {K:PySem.W.Frag} {m:List Addr} {H:Hp} {c:Cell} {a:Addr} (h:CellR K m H c a):∃o,H a=some o∧(∀ys,o≠.tup ys)∧∀u p,o≠.frz u p:=by
 cases c with
 | lst xs=>obtain ⟨ys,h1,h2⟩:=h;exact ⟨_,h1,⟨fun _ z=>(by cases z),fun _ _ z=>(by cases z)⟩⟩
 | dk kvs=>obtain ⟨ys,h1,h2,h3⟩:=h;exact ⟨_,h1,⟨fun _ z=>(by cases z),fun _ _ z=>(by cases z)⟩⟩
theorem CellR.cut {K:PySem.W.Frag} {m:List Addr} {H:Hp} {c:Cell} {a:Addr} {k:Nat} (h:CellR K m H c a) (z:c.bec k=true):CellR K (m.take k) H c a:=by
 cases c with
 | lst xs=>obtain ⟨ys,h1,h2⟩:=h;exact ⟨ys,h1,h2.cutm z⟩
 | dk kvs=>obtain ⟨ys,h1,h2,h3⟩:=h;exact ⟨ys,h1,h2,h3.cutm z⟩
theorem CellR.bel {K:PySem.W.Frag} {m:List Addr} {H:Hp} {c:Cell} {a:Addr} (h:CellR K m H c a):c.bec m.length=true:=by
 cases c with
 | lst xs=>obtain ⟨ys,h1,h2⟩:=h;exact h2.bel
 | dk kvs=>obtain ⟨ys,h1,h2,h3⟩:=h;exact h3.bel
structure RH (K:PySem.W.Frag) (m:List Addr) (H:Hp) (st:AH):Prop where
 len:m.length=st.length
 nd:m.Nodup
 at_:∀(n:Nat) (c:Cell) (a:Addr),st[n]?=some c→m[n]?=some a→CellR K m H c a
 tb:TB K H
section
variable {K:PySem.W.Frag} {m m':List Addr} {H H':Hp} {st:AH}
theorem RH.mem {a:Addr} (h:RH K m H st) (e:a∈m):∃o,H a=some o∧(∀ys,o≠.tup ys)∧∀u p,o≠.frz u p:=by
 obtain ⟨n,hn,rfl⟩:=List.mem_iff_getElem.mp e
 have:n<st.length:=by rw [←h.len];exact hn
 exact (h.at_ n st[n] _ (by simp [this]) (by simp [hn])).ex
theorem RH.mem_tbl {a:Addr} (h:RH K m H st) (e:a∈m) {ps:Array Value}:H a≠some (.tbl ps):=fun z=>by
 obtain ⟨n,hn,rfl⟩:=List.mem_iff_getElem.mp e
 have:n<st.length:=by rw [←h.len];exact hn
 have c:=h.at_ n st[n] m[n] (by simp [this]) (by simp [hn])
 cases q:st[n] with
 | lst xs=>rw [q] at c;obtain ⟨ys,h1,_⟩:=c;rw [h1] at z;cases z
 | dk xs=>rw [q] at c;obtain ⟨ys,h1,_⟩:=c;rw [h1] at z;cases z
theorem RH.lst {n:Nat} {xs:List PV} {v:V} (h:RH K m H st) (e:st[n]?=some (.lst xs)) (r:R K m H (.ref n) v):∃a ys,v=.ref a∧m[n]?=some a∧H a=some (.lst ys)∧Rs K m H xs ys:=by
 rw [R_ref] at r
 obtain ⟨a,e1,rfl⟩:=r
 obtain ⟨ys,h1,h2⟩:=h.at_ n _ a e e1
 exact ⟨a,ys,rfl,e1,h1,h2⟩
theorem RH.fresh {p:Addr} (h:RH K m H st) (e:H p=none):p ∉ m:=fun z=>by
 obtain ⟨o,q,_⟩:=h.mem z
 rw [e] at q;cases q
theorem Ext.newT {p:Addr} {o:HO} (h:RH K m H st) (e:H p=none):Ext K m H m (upd H p o):=by
 refine ⟨List.prefix_refl _,fun _ z=>.inl z,fun a u _ q _=>?_,fun a ys q=>?_,fun a ys q=>?_,fun a ps _ q=>⟨ps,by rw [upd_ne (ne_of_none q e)];exact q⟩,fun t=>t.keep (fun a ps q=>by rw [upd_ne (ne_of_none q e)];exact q) fun a o q=>by rw [upd_ne (ne_of_none q e)];exact q⟩
 ·rw [upd_ne (ne_of_none q e)];exact q
 ·rcases q with (q|⟨u,q⟩)|q
  ·exact .inl (.inl (by rw [upd_ne (ne_of_none q e)];exact q))
  ·exact .inl (.inr ⟨u,by rw [upd_ne (ne_of_none q e)];exact q⟩)
  ·exact .inr q
 ·rcases q with ⟨u,q⟩|q
  ·exact .inl ⟨u,by rw [upd_ne (ne_of_none q e)];exact q⟩
  ·exact .inr q
theorem RH.keep (h:RH K m H st) (x:Ext K m H m H') (e:∀a∈m,H' a=H a):RH K m H' st :=
 ⟨h.len,h.nd,fun n c a h1 h2=>(h.at_ n c a h1 h2).mono x (e a (List.mem_of_getElem? h2)),x.tb h.tb⟩
theorem RH.newT {p:Addr} {o:HO} (h:RH K m H st) (e:H p=none):RH K m (upd H p o) st :=
 h.keep (Ext.newT h e) fun a ha=>upd_ne fun z=>h.fresh e (z ▸ ha)
theorem Ext.new1 {p:Addr} {o:HO} (h:RH K m H st) (e:H p=none):Ext K m H (m++[p]) (upd H p o):=by
 have q:=Ext.newT (o:=o) h e
 refine ⟨List.prefix_append _ _,fun a z=>?_,q.fr,q.tup,q.rdf,q.tbs,q.tb⟩
 rcases List.mem_append.mp z with z|z
 ·exact .inl z
 ·rw [List.mem_singleton] at z
  subst z
  exact .inr e
theorem RH.new1 {p:Addr} {o:HO} {c:Cell} (h:RH K m H st) (e:H p=none) (hc:CellR K (m++[p]) (upd H p o) c p):RH K (m++[p]) (upd H p o) (st++[c]):=by
 have x:=Ext.new1 (o:=o) h e
 refine ⟨by simp [h.len],List.nodup_append.mpr ⟨h.nd,List.nodup_cons.mpr ⟨by simp,List.nodup_nil⟩,fun a ha b hb z=>?_⟩,fun n c' a h1 h2=>?_,x.tb h.tb⟩
 ·rw [List.mem_singleton] at hb
  subst hb
  exact h.fresh e (z ▸ ha)
 ·by_cases hn:n<st.length
  ·rw [List.getElem?_append_left hn] at h1
   rw [List.getElem?_append_left (by rw [h.len];exact hn)] at h2
   exact (h.at_ n c' a h1 h2).mono x (upd_ne fun z=>h.fresh e (z ▸ List.mem_of_getElem? h2))
  ·rw [List.getElem?_append_right (by omega)] at h1
   rw [List.getElem?_append_right (by rw [h.len];omega)] at h2
   have hl:=h.len
   by_cases hz:n-st.length=0
   ·rw [hz] at h1
    rw [show n-m.length=0 by omega] at h2
    simp at h1 h2
    subst h1 h2
    exact hc
   ·rw [List.getElem?_eq_none (by simp;omega)] at h1
    cases h1
theorem RH.newL {p:Addr} {xs:List PV} {ys:List V} (h:RH K m H st) (e:H p=none) (r:Rs K m H xs ys):RH K (m++[p]) (upd H p (.lst ys)) (st++[.lst xs]) :=
 h.new1 e ⟨ys,upd_same,r.mono (Ext.new1 h e)⟩
theorem R.last {p:Addr} {n:Nat} (h:m.length=n):R K (m++[p]) H (.ref n) (.ref p):=by
 rw [R_ref]
 exact ⟨p,by rw [←h];simp,rfl⟩
theorem Ext.set {n:Nat} {a:Addr} {ys:List V} {o:HO} (h:RH K m H st) (e:m[n]?=some a):Ext K m H m (upd H a o):=by
 have hm:=List.mem_of_getElem? e
 obtain ⟨u,hu,h1,h2⟩:=h.mem hm
 refine ⟨List.prefix_refl _,fun _ z=>.inl z,fun b w hb q _=>?_,fun b zs q=>?_,fun b zs q=>?_,fun b ps hb q=>⟨ps,by rw [upd_ne (show b≠a from fun z=>hb (by rw [z];exact hm))];exact q⟩,fun t=>t.keep (fun b ps q=>by rw [upd_ne (fun z=>by subst z;exact h.mem_tbl hm q)];exact q) fun b w q=>by rw [upd_ne (fun z=>by subst z;rw [hu] at q;cases q;exact h2 _ _ rfl)];exact q⟩
 ·have hne:b≠a:=fun z=>hb (by rw [z];exact hm)
  rw [upd_ne hne];exact q
 ·rcases q with (q|⟨w,q⟩)|q
  ·exact .inl (.inl (by rw [upd_ne (fun z=>by subst z;rw [hu] at q;cases q;exact h1 _ rfl)];exact q))
  ·exact .inl (.inr ⟨w,by rw [upd_ne (fun z=>by subst z;rw [hu] at q;cases q;exact h2 _ _ rfl)];exact q⟩)
  ·exact .inr q
 ·rcases q with ⟨w,q⟩|q
  ·exact .inl ⟨w,by rw [upd_ne (fun z=>by subst z;rw [hu] at q;cases q;exact h2 _ _ rfl)];exact q⟩
  ·exact .inr q
theorem nodup_get {m:List Addr} (h:m.Nodup) {i j:Nat} {a:Addr} (e:m[i]?=some a) (e':m[j]?=some a):i=j:=by
 obtain ⟨h1,h2⟩:=List.getElem?_eq_some_iff.mp e
 obtain ⟨h3,h4⟩:=List.getElem?_eq_some_iff.mp e'
 exact (List.getElem_inj h).mp (h2.trans h4.symm)
theorem RH.setL {n:Nat} {a:Addr} {xs:List PV} {ys:List V} (h:RH K m H st) (e:m[n]?=some a) (r:Rs K m H xs ys):RH K m (upd H a (.lst ys)) (st.set n (.lst xs)):=by
 have x:Ext K m H m (upd H a (.lst ys)):=Ext.set (ys:=ys) h e
 refine ⟨by simp [h.len],h.nd,fun k c b h1 h2=>?_,x.tb h.tb⟩
 by_cases hk:k=n
 ·subst hk
  rw [e] at h2
  cases h2
  have hl:k<st.length:=by rw [←h.len];exact (List.getElem?_eq_some_iff.mp e).1
  rw [List.getElem?_set_self hl] at h1
  cases h1
  exact ⟨ys,upd_same,r.mono x⟩
 ·rw [List.getElem?_set_ne (fun z=>hk z.symm)] at h1
  exact (h.at_ k c b h1 h2).mono x (upd_ne fun z=>hk (nodup_get h.nd h2 (z ▸ e)))
end
structure RF (K:PySem.W.Frag) (m:List Addr) (H:Hp) (ρ:Fr) (σ:L2.St):Prop where
 len:ρ.length=σ.length
 at_:∀(i:Nat) v,ρ[i]?=some (some v)→∃x,σ[i]?=some (some x)∧R K m H v x
theorem RF.mono {K:PySem.W.Frag} {m m':List Addr} {H H':Hp} {ρ:Fr} {σ:L2.St} (h:RF K m H ρ σ) (x:Ext K m H m' H'):RF K m' H' ρ σ :=
 ⟨h.len,fun i v e=>let ⟨y,e1,r⟩:=h.at_ i v e;⟨y,e1,r.mono x⟩⟩
theorem RF.set {K:PySem.W.Frag} {m:List Addr} {H:Hp} {ρ:Fr} {σ:L2.St} (h:RF K m H ρ σ) (i:Nat) {v:PV} {x:V} (r:R K m H v x):RF K m H (ρ.set i (some v)) (σ.set i (some x)):=by
 refine ⟨by simp [h.len],fun j w e=>?_⟩
 by_cases hj:i=j
 ·subst hj
  have hl:i<ρ.length:=by have:=(List.getElem?_eq_some_iff.mp e).1;simpa using this
  rw [List.getElem?_set_self hl] at e
  cases e
  exact ⟨x,by rw [List.getElem?_set_self (h.len ▸ hl)],r⟩
 ·rw [List.getElem?_set_ne hj] at e
  rw [List.getElem?_set_ne hj]
  exact h.at_ j w e
noncomputable def post (K:PySem.W.Frag) (m:List Addr) (H:Hp) (Q:VK):EK:=fun v st'=>∀m' H' x,Ext K m H m' H'→RH K m' H' st'→R K m' H' v x→Q x H'
noncomputable def postB (K:PySem.W.Frag) (m:List Addr) (H:Hp) (Q:Bool→Hp→Prop):BK:=fun v st'=>∀m' H',Ext K m H m' H'→RH K m' H' st'→Q v H'
noncomputable def postL (K:PySem.W.Frag) (m:List Addr) (H:Hp) (Q:List V→Hp→Prop):LK:=fun vs st'=>∀m' H' xs,Ext K m H m' H'→RH K m' H' st'→Rs K m' H' vs xs→Q xs H'
noncomputable def TEx (K:PySem.W.Frag) (w:Fr→AH→EK→Prop):TE:=fun σ H Q=>∃m ρ st,RF K m H ρ σ∧RH K m H st∧w ρ st (post K m H Q)
noncomputable def TTx (K:PySem.W.Frag) (w:Fr→AH→BK→Prop):TT:=fun σ H Q=>∃m ρ st,RF K m H ρ σ∧RH K m H st∧w ρ st (postB K m H Q)
noncomputable def TAx (K:PySem.W.Frag) (w:Fr→AH→LK→Prop):TA:=fun σ H Q=>∃m ρ st,RF K m H ρ σ∧RH K m H st∧w ρ st (postL K m H Q)
theorem post.ext {K:PySem.W.Frag} {m m1:List Addr} {H H1:Hp} {Q:VK} (x:Ext K m H m1 H1) {v:PV} {st:AH} (q:post K m H Q v st):post K m1 H1 Q v st:=fun m' H' y e r s=>q m' H' y (x.trans e) r s
theorem postB.ext {K:PySem.W.Frag} {m m1:List Addr} {H H1:Hp} {Q:Bool→Hp→Prop} (x:Ext K m H m1 H1) {v:Bool} {st:AH} (q:postB K m H Q v st):postB K m1 H1 Q v st:=fun m' H' e r=>q m' H' (x.trans e) r
noncomputable def rAbs (K:PySem.W.Frag) (w:PV→PV→AH→EK→Prop):R2:=fun x' y' H Q=>∃m st x y,RH K m H st∧R K m H x x'∧R K m H y y'∧w x y st (post K m H Q)
noncomputable def lAbs (K:PySem.W.Frag) (w:List PV→AH→EK→Prop):List V→Hp→VK→Prop:=fun xs' H Q=>∃m st xs,RH K m H st∧Rs K m H xs xs'∧w xs st (post K m H Q)
end FW
set_option Elab.async false
set_option linter.all false
set_option maxRecDepth 100000
set_option maxHeartbeats 1000000
namespace FW
open PySem PySem.Spec PyProof.Rows L2 HX
theorem small5 {n:Nat} (h:n≤100000):n≤sizeLine:=by rw [sizeLine_eq];omega
theorem small5' {n:Nat} (h:n<100000):n<sizeLine:=by rw [sizeLine_eq];omega
section
variable {X:Cx}
theorem post.here {K:PySem.W.Frag} {m:List Addr} {H:Hp} {Q:VK} {v:PV} {st:AH} {x:V} (q:post K m H Q v st) (h:RH K m H st) (r:R K m H v x):Q x H:=q m H x (Ext.refl _ _ _) h r
theorem post.newT {K:PySem.W.Frag} {m:List Addr} {H:Hp} {Q:VK} {xs:List PV} {ys:List V} {st:AH} {p:Addr} (q:post K m H Q (.tup xs) st) (h:RH K m H st) (r:Rs K m H xs ys) (e:H p=none):Q (.ref p) (upd H p (.tup ys)) :=
 q m _ _ (Ext.newT h e) (h.newT e) (R_tup.mpr ⟨p,ys,rfl,SqT.of upd_same,r.mono (Ext.newT h e)⟩)
theorem post.newL {K:PySem.W.Frag} {m:List Addr} {H:Hp} {Q:VK} {xs:List PV} {ys:List V} {st:AH} {p:Addr} (q:post K m H Q (.ref st.length) (st++[.lst xs])) (h:RH K m H st) (r:Rs K m H xs ys) (e:H p=none):Q (.ref p) (upd H p (.lst ys)) :=
 q _ _ _ (Ext.new1 h e) (h.newL e r) (R.last h.len)
theorem post.setL {K:PySem.W.Frag} {m:List Addr} {H:Hp} {Q:VK} {v:PV} {y:V} {xs:List PV} {ys:List V} {st:AH} {n:Nat} {a:Addr} (q:post K m H Q v (st.set n (.lst xs))) (h:RH K m H st) (e:m[n]?=some a) (r:Rs K m H xs ys) (rv:R K m H v y) :
  Q y (upd H a (.lst ys)):=q _ _ _ (Ext.set (ys:=ys) h e) (h.setL e r) (rv.mono (Ext.set (ys:=ys) h e))
theorem listAt_sq {K:PySem.W.Frag} {m:List Addr} {H:Hp} {st:AH} {v:PV} {x:V} {xs:List PV} (h:RH K m H st) (r:R K m H v x) (e:listAt st v=some xs):∃a ys,x=.ref a∧SqL K H a ys∧Rs K m H xs ys:=by
 cases v with
 | rdl zs =>
  cases e
  rw [R_rdl] at r
  obtain ⟨a,ys,rfl,h1,h2⟩:=r
  exact ⟨a,ys,rfl,h1.sq,h2⟩
 | ref n =>
  unfold listAt at e
  simp only at e
  split at e
  ·cases e
   rename_i q
   obtain ⟨a,ys,rfl,_,h1,h2⟩:=h.lst q r
   exact ⟨a,ys,rfl,SqL.of h1,h2⟩
  ·cases e
 | _=>cases e
theorem seqAt_sq {K:PySem.W.Frag} {m:List Addr} {H:Hp} {st:AH} {v:PV} {x:V} {xs:List PV} (h:RH K m H st) (r:R K m H v x) (e:seqAt st v=some xs):∃a ys,x=.ref a∧(SqL K H a ys∨SqT K H a ys)∧Rs K m H xs ys:=by
 cases v with
 | tup zs =>
  cases e
  rw [R_tup] at r
  obtain ⟨a,ys,rfl,h1,h2⟩:=r
  exact ⟨a,ys,rfl,.inr h1,h2⟩
 | rdl zs =>
  obtain ⟨a,ys,h1,h2,h3⟩:=listAt_sq h r e
  exact ⟨a,ys,h1,.inl h2,h3⟩
 | ref n =>
  obtain ⟨a,ys,h1,h2,h3⟩:=listAt_sq h r e
  exact ⟨a,ys,h1,.inl h2,h3⟩
 | _=>cases e
theorem cat0 {P:Program} {w:World} {A:Around} {E:Value→Shared→Prop} {s:Shared} {t b:Addr} {ws:List Value} {Q:Value→Shared→Prop} (ht:IsTup s.heap t ([]:List Value).toArray) (hb:IsTup s.heap b ws.toArray) (h:Q (.ref b) s) :
  wpAny (model P w) A (binaryOp .Add (.ref t) (.ref b)) Q E s:=by
 obtain ⟨⟨cls,dd,data,sl⟩,ho,hc,n,hd⟩:=id ht
 obtain ⟨⟨cls2,dd2,data2,sl2⟩,ho2,hc2,n2,hd2⟩:=id hb
 simp only at hc hd hc2 hd2
 subst hc hd hc2 hd2
 exact concat_meets ⟨_,ho,rfl⟩ ⟨_,ho2,rfl⟩ noFill_tuple_add seq_tuple_add PySem.F.slot_tuple_add PySem.F.entry_tuple_add (PySem.F.args_tuple_add_2 _ _)
  (tuple_addW0 t b ([]:List Value).toArray ws.toArray n n2 dd dd2 sl sl2 rfl) ⟨ho,ho2,h⟩
theorem bin_ok (op:Operator):OpR X (binaryOp op) (rAbs X.K (binW op)):=by
 intro pins s σ H x' y' v u Q I rx ry h
 obtain ⟨m,st,x,y,rh,hx,hy,w⟩:=h
 cases op with
 | Add =>
  cases x with
  | int i =>
   cases y with
   | int j =>
    have w:post X.K m H Q (.int (i+j)) st:=w
    rw [R_int] at hx hy;subst hx hy
    exact op_add pins s σ H _ _ v u Q I rx ry ⟨_,_,rfl,rfl,w.here rh (R_int.mpr rfl)⟩
   | _=>exact False.elim w
  | ref n =>
   cases y with
   | ref k =>
    obtain ⟨xs,ys,h1,h2,h3,w⟩:=w
    obtain ⟨a,xs',rfl,e1,g1,r1⟩:=rh.lst h1 hx
    obtain ⟨b,ys',rfl,e2,g2,r2⟩:=rh.lst h2 hy
    exact op_cat pins s σ H _ _ v u Q I rx ry ⟨a,b,xs',ys',rfl,rfl,g1,g2,by rw [←r1.len,←r2.len];exact small5 h3,fun p hp=>w.newL rh (r1.app r2) hp⟩
   | _=>exact False.elim w
  | tup xs =>
   cases y with
   | tup ys =>
    obtain ⟨h2,w⟩:=w
    rw [R_tup] at hx hy
    obtain ⟨a,xs',rfl,g1,r1⟩:=hx
    obtain ⟨b,ys',rfl,g2,r2⟩:=hy
    by_cases h1:xs'=[]
    ·subst h1
     cases rx
     cases ry
     obtain ⟨its1,rv1,p1,_⟩:=I.tuple g1
     obtain ⟨its2,rv2,p2,_⟩:=I.tuple g2
     cases rv1
     have e:=r1.len
     rw [List.length_eq_zero_iff.mp e,List.nil_append] at w
     exact cat0 p1 p2 ⟨.ref b,H,I,rfl,w.here rh (R_tup.mpr ⟨b,ys',rfl,g2,r2⟩)⟩
    refine op_catT pins s σ H _ _ v u Q I rx ry ⟨a,b,xs',ys',rfl,rfl,g1,g2,fun z=>?_,by rw [←r1.len,←r2.len];exact small5 h2,fun z=>?_,fun z p hp=>w.newT rh (r1.app r2) hp⟩
    ·exact h1 z
    ·subst z
     have e:=r2.len
     rw [List.length_eq_zero_iff.mp e,List.append_nil] at w
     exact w.here rh (R_tup.mpr ⟨a,xs',rfl,g1,r1⟩)
   | _=>exact False.elim w
  | str a =>
   cases y with
   | str b =>
    obtain ⟨h2,w⟩:=w
    rw [R_str] at hx hy;subst hx hy
    exact op_add_str pins s σ H _ _ v u Q I rx ry ⟨_,_,rfl,rfl,small5 h2,w.here rh (R_str.mpr rfl)⟩
   | _=>exact False.elim w
  | _=>exact False.elim w
 | Mult =>
  cases x with
  | int i =>
   cases y with
   | int j =>
    have w:CMB i j∧post X.K m H Q (.int (i*j)) st:=w
    rw [R_int] at hx hy;subst hx hy
    exact op_mulB pins s σ H _ _ v u Q I rx ry ⟨_,_,rfl,rfl,w.1,w.2.here rh (R_int.mpr rfl)⟩
   | _=>exact False.elim w
  | ref n =>
   cases y with
   | int k =>
    obtain ⟨xs,h1,h2,h3,h4,w⟩:=w
    rw [R_int] at hy;subst hy
    obtain ⟨a,xs',rfl,e1,g1,r1⟩:=rh.lst h1 hx
    exact op_rep pins s σ H _ _ v u Q I rx ry ⟨a,_,xs',rfl,rfl,g1,h2,h3,by rw [←r1.len];exact small5 h4,fun p hp=>w.newL rh (r1.rep _) hp⟩
   | _=>exact False.elim w
  | _=>exact False.elim w
 | Sub =>
  obtain ⟨i,j,rfl,rfl,w⟩:=iiW_inv w
  rw [R_int] at hx hy;subst hx hy
  exact op_sub pins s σ H _ _ v u Q I rx ry ⟨_,_,rfl,rfl,w.here rh (R_int.mpr rfl)⟩
 | FloorDiv =>
  obtain ⟨i,j,rfl,rfl,w⟩:=iiW_inv w
  rw [R_int] at hx hy;subst hx hy
  exact op_fdivB pins s σ H _ _ v u Q I rx ry ⟨_,_,rfl,rfl,w.1,w.2.here rh (R_int.mpr rfl)⟩
 | Mod =>
  obtain ⟨i,j,rfl,rfl,w⟩:=iiW_inv w
  rw [R_int] at hx hy;subst hx hy
  exact op_mod pins s σ H _ _ v u Q I rx ry ⟨_,_,rfl,rfl,w.1,w.2.here rh (R_int.mpr rfl)⟩
 | Pow =>
  obtain ⟨i,j,rfl,rfl,w⟩:=iiW_inv w
  rw [R_int] at hx hy;subst hx hy
  exact op_pow pins s σ H _ _ v u Q I rx ry ⟨_,_,rfl,rfl,w.1,w.2.here rh (R_int.mpr rfl)⟩
 | _=>exact False.elim w
mutual
theorem R.den {K:PySem.W.Frag} {m:List Addr} {H:Hp}:∀ {p:PV} {v:V} {d:PyData},R K m H p v→p.toD=some d→(∃xs,d=.list xs)∨Den K H d v
 | .non,v,d,h,e=>by rw [PV.toD] at e;cases e;rw [R_non] at h;exact .inr (den_non.mpr h)
 | .bl b,v,d,h,e=>by rw [PV.toD] at e;cases e;rw [R_bl] at h;exact .inr (den_bl.mpr h)
 | .int b,v,d,h,e=>by rw [PV.toD] at e;cases e;rw [R_int] at h;exact .inr (den_int.mpr h)
 | .str b,v,d,h,e=>by rw [PV.toD] at e;cases e;rw [R_str] at h;exact .inr (den_str.mpr h)
 | .ref n,v,d,h,e=>by rw [PV.toD] at e;cases e
 | .fn n,v,d,h,e=>by rw [PV.toD] at e;cases e
 | .tup xs,v,d,h,e=>by
  rw [PV.toD] at e
  cases q:PV.toDs xs with
  | none=>rw [q] at e;cases e
  | some ds =>
   rw [q] at e
   cases e
   rw [R_tup] at h
   obtain ⟨a,ys,rfl,h1,h2⟩:=h
   exact .inr (den_tup.mpr ⟨a,ys,rfl,h1,Rs.den h2 q⟩)
 | .rdl xs,v,d,h,e=>by
  rw [PV.toD] at e
  cases q:PV.toDs xs with
  | none=>rw [q] at e;cases e
  | some ds=>rw [q] at e;cases e;exact .inl ⟨_,rfl⟩
theorem Rs.den {K:PySem.W.Frag} {m:List Addr} {H:Hp}:∀ {ps:List PV} {vs:List V} {ds:List PyData},Rs K m H ps vs→PV.toDs ps=some ds→Dens K H ds vs
 | [],vs,ds,h,e=>by rw [PV.toDs] at e;cases e;rw [Rs_nil] at h;exact dens_nil.mpr h
 | p::ps,vs,ds,h,e=>by
  rw [Rs_cons] at h
  obtain ⟨y,r,rfl,h1,h2⟩:=h
  rw [PV.toDs] at e
  cases q:p.toD with
  | none=>rw [q] at e;cases e
  | some d =>
   cases q2:PV.toDs ps with
   | none=>rw [q,q2] at e;cases e
   | some ds' =>
    rw [q,q2] at e
    cases e
    refine dens_cons'.mpr ⟨?_,Rs.den h2 q2⟩
    cases p with
    | rdl xs =>
     rw [PV.toD] at q
     cases q3:PV.toDs xs with
     | none=>rw [q3] at q;cases q
     | some es =>
      rw [q3] at q
      cases q
      rw [R_rdl] at h1
      obtain ⟨a,ys,rfl,g1,g2⟩:=h1
      exact den_lst.mpr ⟨a,ys,rfl,g1.sq,Rs.den g2 q3⟩
    | _ =>
     rcases R.den h1 q with ⟨xs,rfl⟩|z
     ·first
       | (rw [PV.toD] at q;cases q;done)
       | (rw [PV.toD] at q;simp only [Option.map_eq_some_iff,reduceCtorEq,and_false,exists_false] at q)
     ·exact z
end
theorem deep_den {K:PySem.W.Frag} {m:List Addr} {H:Hp} {st:AH} {p:PV} {v:V} {d:PyData} (rh:RH K m H st) (h:R K m H p v) (e:deep st p=some d):Den K H d v:=by
 cases p with
 | ref n =>
  unfold deep at e
  simp only at e
  split at e
  ·rename_i xs q
   cases q2:PV.toDs xs with
   | none=>rw [q2] at e;cases e
   | some ds =>
    rw [q2] at e
    cases e
    obtain ⟨a,ys,rfl,_,h1,h2⟩:=rh.lst q h
    exact den_lst.mpr ⟨a,ys,rfl,SqL.of h1,h2.den q2⟩
  ·cases e
 | rdl xs =>
  have e':(PV.rdl xs).toD=some d:=e
  rw [PV.toD] at e'
  cases q2:PV.toDs xs with
  | none=>rw [q2] at e';cases e'
  | some ds =>
   rw [q2] at e'
   cases e'
   rw [R_rdl] at h
   obtain ⟨a,ys,rfl,g1,g2⟩:=h
   exact den_lst.mpr ⟨a,ys,rfl,g1.sq,g2.den q2⟩
 | tup xs =>
  have e':(PV.tup xs).toD=some d:=e
  rcases R.den h e' with ⟨zs,rfl⟩|z
  ·rw [PV.toD] at e'
   simp at e'
  ·exact z
 | fn b=>have e':(PV.fn b).toD=some d:=e;rw [PV.toD] at e';cases e'
 | non=>have e':(PV.non).toD=some d:=e;rw [PV.toD] at e';cases e';exact den_non.mpr (R_non.mp h)
 | bl b=>have e':(PV.bl b).toD=some d:=e;rw [PV.toD] at e';cases e';exact den_bl.mpr (R_bl.mp h)
 | int b=>have e':(PV.int b).toD=some d:=e;rw [PV.toD] at e';cases e';exact den_int.mpr (R_int.mp h)
 | str b=>have e':(PV.str b).toD=some d:=e;rw [PV.toD] at e';cases e';exact den_str.mpr (R_str.mp h)
theorem R.nonB {K:PySem.W.Frag} {m:List Addr} {H:Hp} {p:PV} {v:V} (h:R K m H p v):decide (v=.non)=isNon p:=by
 cases p with
 | non=>rw [R_non] at h;subst h;rfl
 | bl b=>rw [R_bl] at h;subst h;rfl
 | int b=>rw [R_int] at h;subst h;rfl
 | str b=>rw [R_str] at h;subst h;rfl
 | ref n=>rw [R_ref] at h;obtain ⟨a,_,rfl⟩:=h;rfl
 | tup n=>rw [R_tup] at h;obtain ⟨a,_,rfl,_⟩:=h;rfl
 | rdl n=>rw [R_rdl] at h;obtain ⟨a,_,rfl,_⟩:=h;rfl
 | fn n=>rw [R_fn] at h;subst h;rfl
theorem R.blB {K:PySem.W.Frag} {m:List Addr} {H:Hp} {p:PV} {v:V} {k:Bool} (h:R K m H p v):decide (v=.bl k)=isBl k p:=by
 cases p with
 | non=>rw [R_non] at h;subst h;rfl
 | bl b=>rw [R_bl] at h;subst h;cases b <;> cases k <;> rfl
 | int b=>rw [R_int] at h;subst h;rfl
 | str b=>rw [R_str] at h;subst h;rfl
 | ref n=>rw [R_ref] at h;obtain ⟨a,_,rfl⟩:=h;rfl
 | tup n=>rw [R_tup] at h;obtain ⟨a,_,rfl,_⟩:=h;rfl
 | rdl n=>rw [R_rdl] at h;obtain ⟨a,_,rfl,_⟩:=h;rfl
 | fn n=>rw [R_fn] at h;subst h;rfl
theorem decI {i j:Int}:decide (V.int i=V.int j)=decide (i=j):=by simp
theorem decB {i j:Bool}:decide (V.bl i=V.bl j)=decide (i=j):=by simp
theorem decS {i j:Str}:decide (V.str i=V.str j)=decide (i=j):=by simp
theorem cmp_ok (hu:X.A.units+64<cLine) (op:CmpOp):OpR X (compareOp op) (rAbs X.K (cmpW op)):=by
 intro pins s σ H x' y' v u Q I rx ry h
 obtain ⟨m,st,x,y,rh,hx,hy,w⟩:=h
 unfold cmpW at w
 cases op with
 | Eq =>
  simp only at w
  unfold eqW at w
  split at w
  ·rw [R_int] at hx hy;subst hx hy
   exact op_eq pins s σ H _ _ v u Q I rx ry ⟨rfl,by rw [decI];exact w.here rh (R_bl.mpr rfl)⟩
  ·rw [R_bl] at hx hy;subst hx hy
   exact op_eq pins s σ H _ _ v u Q I rx ry ⟨rfl,by rw [decB];exact w.here rh (R_bl.mpr rfl)⟩
  ·rw [R_str] at hx hy;subst hx hy
   exact op_eq pins s σ H _ _ v u Q I rx ry ⟨rfl,by rw [decS];exact w.here rh (R_bl.mpr rfl)⟩
  ·obtain ⟨d,e,h1,h2,h3,h4,w⟩:=w
   exact op_eqD hu pins s σ H _ _ v u Q I rx ry ⟨d,e,deep_den rh hx h1,deep_den rh hy h2,h3,h4,w.here rh (R_bl.mpr rfl)⟩
 | NotEq =>
  simp only at w
  unfold eqW at w
  split at w
  ·rw [R_int] at hx hy;subst hx hy
   exact op_ne pins s σ H _ _ v u Q I rx ry ⟨rfl,by rw [decI];exact w.here rh (R_bl.mpr rfl)⟩
  ·rw [R_bl] at hx hy;subst hx hy
   exact op_ne pins s σ H _ _ v u Q I rx ry ⟨rfl,by rw [decB];exact w.here rh (R_bl.mpr rfl)⟩
  ·rw [R_str] at hx hy;subst hx hy
   exact op_ne pins s σ H _ _ v u Q I rx ry ⟨rfl,by rw [decS];exact w.here rh (R_bl.mpr rfl)⟩
  ·obtain ⟨d,e,h1,h2,h3,h4,w⟩:=w
   exact op_neD hu pins s σ H _ _ v u Q I rx ry ⟨d,e,deep_den rh hx h1,deep_den rh hy h2,h3,h4,w.here rh (R_bl.mpr rfl)⟩
 | Is =>
  simp only at w
  split at w
  ·rw [R_non] at hy;subst hy
   exact op_isN pins s σ H _ _ v u Q I rx ry ⟨rfl,by rw [hx.nonB];exact w.here rh (R_bl.mpr rfl)⟩
  ·rw [R_bl] at hy;subst hy
   exact op_isB pins s σ H _ _ v u Q I rx ry ⟨_,rfl,by rw [hx.blB];exact w.here rh (R_bl.mpr rfl)⟩
  ·exact w.elim
 | IsNot =>
  simp only at w
  split at w
  ·rw [R_non] at hy;subst hy
   exact op_notN pins s σ H _ _ v u Q I rx ry ⟨rfl,by rw [hx.nonB];exact w.here rh (R_bl.mpr rfl)⟩
  ·rw [R_bl] at hy;subst hy
   exact op_isNotB pins s σ H _ _ v u Q I rx ry ⟨_,rfl,by rw [hx.blB];exact w.here rh (R_bl.mpr rfl)⟩
  ·exact w.elim
 | Lt =>
  simp only at w
  split at w
  ·rw [R_int] at hx hy;subst hx hy
   exact op_lt pins s σ H _ _ v u Q I rx ry ⟨_,_,rfl,rfl,w.here rh (R_bl.mpr rfl)⟩
  ·exact w.elim
 | LtE =>
  simp only at w
  split at w
  ·rw [R_int] at hx hy;subst hx hy
   exact op_le pins s σ H _ _ v u Q I rx ry ⟨_,_,rfl,rfl,w.here rh (R_bl.mpr rfl)⟩
  ·exact w.elim
 | Gt =>
  simp only at w
  split at w
  ·rw [R_int] at hx hy;subst hx hy
   exact op_gt pins s σ H _ _ v u Q I rx ry ⟨_,_,rfl,rfl,w.here rh (R_bl.mpr rfl)⟩
  ·exact w.elim
 | GtE =>
  simp only at w
  split at w
  ·rw [R_int] at hx hy;subst hx hy
   exact op_ge pins s σ H _ _ v u Q I rx ry ⟨_,_,rfl,rfl,w.here rh (R_bl.mpr rfl)⟩
  ·exact w.elim
 | In =>
  simp only at w
  split at w
  ·rw [R_str] at hx hy;subst hx hy
   exact op_in_str pins s σ H _ _ v u Q I rx ry ⟨_,_,rfl,rfl,w.here rh (R_bl.mpr rfl)⟩
  ·exact w.elim
 | NotIn=>exact w.elim
theorem ix_ok:IxR X (rAbs X.K ixW):=by
 intro value slice pins s σ H x' y' v u Q I rx ry h hs
 obtain ⟨m,st,x,y,rh,hx,hy,w⟩:=h
 cases y with
 | int i =>
  rw [R_int] at hy;subst hy
  rcases ixI_inv w with ⟨z,c,rfl,h1,h2,w⟩|⟨xs,z,h1,h2,w⟩
  ·rw [R_str] at hx;subst hx
   exact ix_str value slice pins s σ H _ _ v u Q I rx ry ⟨_,_,c,rfl,rfl,small5 h1,h2,w.here rh (R_str.mpr rfl)⟩ hs
  obtain ⟨a,ys,rfl,g,r⟩:=seqAt_sq rh hx h1
  obtain ⟨y,e,ry'⟩:=r.atI h2
  rcases g with g|g
  ·exact ix_list value slice pins s σ H _ _ v u Q I rx ry ⟨a,ys,_,y,rfl,rfl,g,e,w.here rh ry'⟩ hs
  ·exact ix_tup value slice pins s σ H _ _ v u Q I rx ry ⟨a,ys,_,y,rfl,rfl,g,e,w.here rh ry'⟩ hs
 | _=>exact w.elim
theorem getItem_tuple_whole {prog:Program} {w:World} {A:Around} {E:Value→Shared→Prop} {s:Shared} {t sl:Addr} {items:Array Value} {vl vu:Value} {lo hi:Option Int} {Q:Value→Shared→Prop} (ht:IsTup s.heap t items) (hs:s.heap.IsSliceOf sl vl vu .none) (pl:IsPart vl lo) (pu:IsPart vu hi)
  (hw:HT.sIx items.size 0 lo=0∧HT.sIx items.size items.size hi=items.size) (h:Q (.ref t) s):wpAny (model prog w) A (getItem (.ref t) (.ref sl)) Q E s:=by
 obtain ⟨os,hos,hcs,hds⟩:=id hs
 have hTs:s.TypeIs (.ref sl) "slice":=⟨os,hos,hcs⟩
 unfold getItem
 try with_reducible refine wpAny_holding ?_
 first|refine wpAny_bind (wpAny_pure ?_)|skip
 refine wpAny_bind (wpAny_sequenceKey ht.typeIs (by decide) ?_)
 refine wpAny_bind (wpAny_callSpecial?_slot (name:=Str.ofString "__getitem__") ht.typeIs PyProof.Rows.slot_tuple_getitem
  (wpAny_call_entry PyProof.Rows.slot_tuple_getitem ht.typeIs entry_tuple_getitem ?_ (args_tuple_getitem _ _)))
 show wpAny _ _ (Builtin.Tuple.tupleItemsOf (.ref t) >>= _) _ _ s
 refine wpAny_bind (tupleItemsOf_ ht ?_)
 refine wpAny_bind (wpAny_typeOf hTs ?_)
 rw [if_pos (by decide)]
 refine wpAny_bind (HT.sliceApplied_gen hs pl pu ?_)
 have hyes:((((HT.sIx items.size 0 lo:Nat):Int) == 0 && (1:Int) == 1 && (HT.sIx items.size items.size hi-HT.sIx items.size 0 lo) == items.size)=true):=by
  rw [hw.1,hw.2]
  simp
 show wpAny _ _ (if (((HT.sIx items.size 0 lo:Nat):Int) == 0 && (1:Int) == 1 && (HT.sIx items.size items.size hi-HT.sIx items.size 0 lo) == items.size)=true then _ else _) _ _ s
 rw [if_pos hyes]
 unfold Builtin.Tuple.tupleIsExact
 refine wpAny_bind (wpAny_bind (wpAny_typeOf ht.typeIs (wpAny_pure ?_)))
 rw [if_pos (by simp)]
 exact wpAny_bind (wpAny_rule (wpAny_pure ⟨_,rfl,wpAny_pure h⟩))
noncomputable def slAbs (K:PySem.W.Frag):V→Option Int→Option Int→Hp→VK→Prop:=fun x' lo hi H Q=>∃m st x,RH K m H st∧R K m H x x'∧slW x lo hi st (post K m H Q)
theorem cutV_whole {ys:List V} {lo hi:Option Int} (h:HT.sIx ys.length 0 lo=0∧HT.sIx ys.length ys.length hi=ys.length):cutV ys lo hi=ys:=by
 unfold cutV
 rw [h.1,h.2,List.drop_zero,Nat.sub_zero,List.take_length]
theorem part_of {v:Value} {p:Option Int} (h:IsPart v p):∃q:Option (Int × Tok),v=partValue q∧q.map (·.1)=p:=by
 cases h with
 | none=>exact ⟨none,rfl,rfl⟩
 | int i t=>exact ⟨some (i,t),rfl,rfl⟩
theorem str_cut {z:Str} {t:Tok} {l u:Option (Int × Tok)} {lo hi:Option Int} {Q:Value→Shared→Prop} {s:Shared} (e:(l.map (·.1),u.map (·.1))=(lo,hi)) (h1:z.length≤100000) (h:∀tk t',Q (.str (cutS z lo hi) t') { s with toks:=tk }):(sliceMade z t l u none).post Q s:=by
 cases e
 unfold sliceMade
 have h:∀tk t',Q (.str (if ((slicePicked z l u none).length == z.length)=true then z else ⟨((slicePicked z l u none).filterMap (z.cps[·]?)).toArray⟩) t') { s with toks:=tk }:=h
 cases q:((slicePicked z l u none).length == z.length) with
 | true =>
  rw [q] at h
  exact h s.toks t
 | false =>
  rw [q] at h
  refine ⟨?_,h _ _⟩
  show ((slicePicked z l u none).filterMap (z.cps[·]?)).toArray.size≤sizeLine
  rw [List.size_toArray]
  refine Nat.le_trans (List.length_filterMap_le _ _) (Nat.le_trans ?_ (small5 h1))
  refine sliceRange_length_le _ _ _ _ (fun _=>?_) fun z=>absurd (show (1:Int) > 0 by decide) z
  cases l <;> cases u <;> constructor <;> simp only [Option.map,Option.getD,show (1:Int) > 0 by decide,if_true] <;> first|omega|(split <;> omega)
theorem sl_ok:SlR X (slAbs X.K):=by
 intro pins s σ H x' v vl vu lo hi sl Q I rx hs pl pu h
 obtain ⟨m,st,x,rh,hx,w⟩:=h
 unfold slW at w
 split at w
 ·rename_i z
  rw [R_str] at hx
  subst hx
  obtain ⟨t,rfl⟩:=rx
  obtain ⟨h1,w⟩:=w
  obtain ⟨l,el,pl'⟩:=part_of pl
  obtain ⟨u,eu,pu'⟩:=part_of pu
  subst el eu
  refine ⟨"str",_,PyProof.Rows.slot_str_getitem.lookup,typeIs_str _ _ _,?_⟩
  refine wpAny_getItem_str_slice (l:=l) (u:=u) (st:=none) hs rfl (str_cut ?_ h1 fun tk t'=>⟨.str (cutS z lo hi),H,I.tok tk,⟨t',rfl⟩,w.here rh (R_str.mpr rfl)⟩)
  rw [pl',pu']
 ·rw [R_tup] at hx
  obtain ⟨a,ys,rfl,g,r⟩:=hx
  by_cases hw:HT.sIx ys.length 0 lo=0∧HT.sIx ys.length ys.length hi=ys.length
  ·cases rx
   obtain ⟨its,r',ht,hz⟩:=I.tuple g
   have hlen:its.toArray.size=ys.length:=by rw [List.size_toArray];exact r'.length.symm
   refine ⟨"tuple",_,PyProof.Rows.slot_tuple_getitem.lookup,ht.typeIs,getItem_tuple_whole ht hs pl pu (by rw [hlen];exact hw) ?_⟩
   refine ⟨.ref a,H,I,rfl,w.here rh (R_tup.mpr ⟨a,ys,rfl,g,?_⟩)⟩
   have:=r.cut lo hi
   rw [cutV_whole hw] at this
   exact this
  ·exact sl_tup pins s σ H _ v vl vu lo hi sl Q I rx hs pl pu ⟨a,ys,rfl,g,hw,fun p hp=>w.newT rh (r.cut lo hi) hp⟩
 ·obtain ⟨xs,h1,w⟩:=w
  obtain ⟨a,ys,rfl,g,r⟩:=listAt_sq rh hx h1
  exact sl_list pins s σ H _ v vl vu lo hi sl Q I rx hs pl pu ⟨a,ys,rfl,g,fun p hp=>w.newL rh (r.cut lo hi) hp⟩
theorem Rs.one' {K:PySem.W.Frag} {m:List Addr} {H:Hp} {x:PV} {ys:List V} (h:Rs K m H [x] ys):∃y,ys=[y]∧R K m H x y:=by
 rw [Rs_cons] at h
 obtain ⟨y,r,rfl,h1,h2⟩:=h
 rw [Rs_nil] at h2
 subst h2
 exact ⟨y,rfl,h1⟩
theorem Rs.two' {K:PySem.W.Frag} {m:List Addr} {H:Hp} {x z:PV} {ys:List V} (h:Rs K m H [x,z] ys):∃y u,ys=[y,u]∧R K m H x y∧R K m H z u:=by
 rw [Rs_cons] at h
 obtain ⟨y,r,rfl,h1,h2⟩:=h
 obtain ⟨u,rfl,h3⟩:=h2.one'
 exact ⟨y,u,rfl,h1,h3⟩
theorem bools_are {K:PySem.W.Frag} {m:List Addr} {H:Hp}:∀ {xs:List PV} {bs:List Bool} {ys:List V} {us:List Value},bools xs=some bs→Rs K m H xs ys→Vals ys us→LSm.BoolsAre us bs
 | [],bs,ys,us,e,h,r=>by
  rw [Rs_nil] at h;subst h
  cases r
  cases e
  exact .nil
 | x::xs,bs,ys,us,e,h,r=>by
  rw [Rs_cons] at h
  obtain ⟨y,q,rfl,h1,h2⟩:=h
  cases x with
  | bl b =>
   cases r with
   | cons r1 r2 =>
    rw [R_bl] at h1
    subst h1
    cases r1
    unfold bools at e
    cases z:bools xs with
    | none=>rw [z] at e;cases e
    | some bs' =>
     rw [z] at e
     cases e
     exact .cons b (bools_are z h2 r2)
  | _=>cases e
theorem call_allB {l:Addr} {vs:List Value} {bs:List Bool} {P:Program} {w:World} {A:Around} {E:Value→Shared→Prop} {s:Shared} {Q:Value→Shared→Prop} (hh:A.handled=none) (hl:s.heap.IsList l vs.toArray) (hb:LSm.BoolsAre vs bs)
  (h:∀h' tk,(∀b x,s.heap.get? b=some x→h'.get? b=some x)→Q (.bool (bs.all id)) { s with heap:=h',toks:=tk }):wpAny (model P w) A (call (.builtin "all") [.ref l]) Q E s:=by
 have hlt:l<s.heap.objs.size:=by obtain ⟨_,e,_⟩:=hl;exact Heap.lt_size e
 refine call_all_walk (wpAny_pyIter_list hl ?_)
 refine ⟨s.heap.objs.size,[s.heap.objs.size,l],[s.heap.objs.size],vs.toArray.size,_,_,fun i=>(bs[i]?).getD true,rfl,Walks.list (A:=A.in1) hh _ l (Nat.ne_of_lt hlt) vs.toArray,
  ⟨⟨_,Heap.get?_push_size _ rfl,rfl,rfl⟩,hl.push _⟩,fun i v s' Q' E' hP hQ=>?_,fun h' tk hk=>?_⟩
 ·obtain ⟨b,e,rfl⟩:=hb.get i v (by simpa using hP)
  simp only [e,Option.getD_some] at hQ
  exact wpAny_truthy_bool hQ
 ·have e:((List.range vs.toArray.size).all fun i=>(bs[i]?).getD true)=bs.all id:=by
   rw [List.size_toArray,hb.length];exact LSm.range_all bs
  rw [e]
  exact h h' tk (LSm.kept_iter hk)
theorem call_anyB {l:Addr} {vs:List Value} {bs:List Bool} {P:Program} {w:World} {A:Around} {E:Value→Shared→Prop} {s:Shared} {Q:Value→Shared→Prop} (hh:A.handled=none) (hl:s.heap.IsList l vs.toArray) (hb:LSm.BoolsAre vs bs)
  (h:∀h' tk,(∀b x,s.heap.get? b=some x→h'.get? b=some x)→Q (.bool (bs.any id)) { s with heap:=h',toks:=tk }):wpAny (model P w) A (call (.builtin "any") [.ref l]) Q E s:=by
 have hlt:l<s.heap.objs.size:=by obtain ⟨_,e,_⟩:=hl;exact Heap.lt_size e
 refine call_any_walk (wpAny_pyIter_list hl ?_)
 refine ⟨s.heap.objs.size,[s.heap.objs.size,l],[s.heap.objs.size],vs.toArray.size,_,_,fun i=>(bs[i]?).getD false,rfl,Walks.list (A:=A.in1) hh _ l (Nat.ne_of_lt hlt) vs.toArray,
  ⟨⟨_,Heap.get?_push_size _ rfl,rfl,rfl⟩,hl.push _⟩,fun i v s' Q' E' hP hQ=>?_,fun h' tk hk=>?_⟩
 ·obtain ⟨b,e,rfl⟩:=hb.get i v (by simpa using hP)
  simp only [e,Option.getD_some] at hQ
  exact wpAny_truthy_bool hQ
 ·have e:((List.range vs.toArray.size).any fun i=>(bs[i]?).getD false)=bs.any id:=by
   rw [List.size_toArray,hb.length];exact LSm.range_any bs
  rw [e]
  exact h h' tk (LSm.kept_iter hk)
noncomputable def bltV:B→Value
 | .len=>.builtin "len"
 | .max2=>.builtin "max"
 | .min2=>.builtin "min"
 | .divmod=>.builtin "divmod"
 | .int1=>.type "int"
 | .str1=>.type "str"
 | .tuple1=>.type "tuple"
 | .list1=>.type "list"
 | .all1=>.builtin "all"
 | .any1=>.builtin "any"
 | .abs1=>.builtin "abs"
 | .sorted1=>.builtin "sorted"
 | .repr1=>.builtin "repr"
theorem call_int_str:CallR X (.type "int") (fun xs H Q=>∃z n,xs=[.str z]∧z.length≤640∧PySem.intText? z=some n∧Q (.int n) H):=by
 intro pins s σ H xs us Q I r h
 obtain ⟨z,n,rfl,h1,h2,q⟩:=h
 obtain ⟨u,rfl,t,rfl⟩:=vals1 r
 exact PySem.W.KIN.call_text h2 h1 ⟨.int n,H,I.tok _,⟨_,rfl⟩,q⟩
theorem blt_ok (hc:X.calm=true) (hgd:X.A.guards=some []) (hun:X.A.units+64<cLine) (b:B):CallR X (bltV b) (lAbs X.K (bltW b)):=by
 intro pins s σ H xs' us Q I r h
 obtain ⟨m,st,xs,rh,hx,w⟩:=h
 cases b with
 | len =>
  obtain ⟨x0,rfl,w⟩:=oneW_inv w
  obtain ⟨y,rfl,hy⟩:=hx.one'
  rcases lenW_inv w with ⟨z,rfl,h1,w⟩|⟨ys,h1,w⟩
  ·rw [R_str] at hy;subst hy
   exact call_len_str pins s σ H _ us Q I r ⟨_,rfl,small5 h1,w.here rh (R_int.mpr rfl)⟩
  obtain ⟨a,zs,rfl,g,rz⟩:=seqAt_sq rh hy h1
  refine call_len_seq pins s σ H _ us Q I r ⟨a,zs,rfl,g,?_⟩
  have:=w.here rh (x:=V.int ys.length) (R_int.mpr rfl)
  rw [rz.len] at this
  exact this
 | max2 =>
  obtain ⟨x0,y0,rfl,w⟩:=twoW_inv w
  obtain ⟨i,j,rfl,rfl,w⟩:=iiW_inv w
  obtain ⟨y,u,rfl,hy,hu⟩:=hx.two'
  rw [R_int] at hy hu;subst hy hu
  exact call_max2 hc pins s σ H _ us Q I r ⟨_,_,rfl,w.here rh (R_int.mpr rfl)⟩
 | min2 =>
  obtain ⟨x0,y0,rfl,w⟩:=twoW_inv w
  obtain ⟨i,j,rfl,rfl,w⟩:=iiW_inv w
  obtain ⟨y,u,rfl,hy,hu⟩:=hx.two'
  rw [R_int] at hy hu;subst hy hu
  exact call_min2 hc pins s σ H _ us Q I r ⟨_,_,rfl,w.here rh (R_int.mpr rfl)⟩
 | divmod =>
  obtain ⟨x0,y0,rfl,w⟩:=twoW_inv w
  obtain ⟨i,j,rfl,rfl,w⟩:=iiW_inv w
  obtain ⟨y,u,rfl,hy,hu⟩:=hx.two'
  rw [R_int] at hy hu;subst hy hu
  refine call_divmodB pins s σ H _ us Q I r ⟨_,_,rfl,w.1,fun p hp=>w.2.newT rh ?_ hp⟩
  rw [Rs_cons',Rs_cons',Rs_nil,R_int,R_int]
  exact ⟨rfl,rfl,rfl⟩
 | int1 =>
  obtain ⟨x0,rfl,w⟩:=oneW_inv w
  obtain ⟨y,rfl,hy⟩:=hx.one'
  rcases int1W_inv w with ⟨b0,rfl,w⟩|⟨z,n,rfl,h1,h2,w⟩
  case inr =>
   rw [R_str] at hy;subst hy
   exact call_int_str pins s σ H _ us Q I r ⟨_,_,rfl,h1,h2,w.here rh (R_int.mpr rfl)⟩
  rw [R_bl] at hy;subst hy
  exact call_int1 pins s σ H _ us Q I r (.inr ⟨_,rfl,w.here rh (R_int.mpr rfl)⟩)
 | str1=>exact False.elim w
 | tuple1 =>
  obtain ⟨x0,rfl,w⟩:=oneW_inv w
  obtain ⟨ys,h1,w⟩:=w
  obtain ⟨y,rfl,hy⟩:=hx.one'
  obtain ⟨a,zs,rfl,g,rz⟩:=seqAt_sq rh hy h1
  refine call_tuple_of pins s σ H _ us Q I r ⟨a,zs,rfl,?_⟩
  rcases g with g|g
  ·exact .inl ⟨g,fun p hp=>w.newT rh rz hp⟩
  ·exact .inr ⟨g,w.here rh (R_tup.mpr ⟨a,zs,rfl,g,rz⟩)⟩
 | list1 =>
  obtain ⟨x0,rfl,w⟩:=oneW_inv w
  obtain ⟨ys,h1,w⟩:=w
  obtain ⟨y,rfl,hy⟩:=hx.one'
  obtain ⟨a,zs,rfl,g,rz⟩:=seqAt_sq rh hy h1
  exact call_list_of pins s σ H _ us Q I r ⟨a,zs,rfl,g,fun p hp=>w.newL rh rz hp⟩
 | all1 =>
  obtain ⟨x0,rfl,w⟩:=oneW_inv w
  obtain ⟨ys,bs,h1,h2,w⟩:=w
  obtain ⟨y,rfl,hy⟩:=hx.one'
  obtain ⟨a,zs,rfl,g,rz⟩:=listAt_sq rh hy h1
  obtain ⟨u,rfl,ru⟩:=vals1 r
  cases ru
  obtain ⟨its,ri,pl,_⟩:=I.list g
  exact call_allB (I.ok.hd hc) pl.isList (bools_are h2 rz ri) fun h' tk k=>⟨.bl _,H,I.kept k,rfl,w.here rh (R_bl.mpr rfl)⟩
 | any1 =>
  obtain ⟨x0,rfl,w⟩:=oneW_inv w
  obtain ⟨ys,bs,h1,h2,w⟩:=w
  obtain ⟨y,rfl,hy⟩:=hx.one'
  obtain ⟨a,zs,rfl,g,rz⟩:=listAt_sq rh hy h1
  obtain ⟨u,rfl,ru⟩:=vals1 r
  cases ru
  obtain ⟨its,ri,pl,_⟩:=I.list g
  exact call_anyB (I.ok.hd hc) pl.isList (bools_are h2 rz ri) fun h' tk k=>⟨.bl _,H,I.kept k,rfl,w.here rh (R_bl.mpr rfl)⟩
 | abs1 =>
  obtain ⟨x0,rfl,w⟩:=oneW_inv w
  obtain ⟨i,rfl,w⟩:=inW_inv w
  obtain ⟨y,rfl,hy⟩:=hx.one'
  rw [R_int] at hy;subst hy
  refine call_abs pins s σ H _ us Q I r ⟨_,rfl,?_⟩
  have:=w.here rh (R_int.mpr rfl)
  have e:(if i<0 then -i else i)=(i.natAbs:Int):=by split <;> omega
  rw [e]
  exact this
 | sorted1=>exact False.elim w
 | repr1=>exact False.elim w
theorem kind_mem' {st:AH} {x:PV} {n:String} (h:kindP st x=some n):n∈["NoneType","bool","int","str","list","tuple","dict"]:=by
 cases x with
 | ref k =>
  unfold kindP at h
  simp only at h
  split at h <;> cases h <;> decide
 | _=>cases h <;> decide
theorem inst_ok {pins:List (Addr × Obj)} {s:Shared} {σ:L2.St} {H:Hp} {A:Around} {E:Value→Shared→Prop} {K:PySem.W.Frag} {m:List Addr} {st:AH} {x:PV} {x':V} {u:Value} {n c:String} {Q:Value→Shared→Prop} (I:Inv X pins σ H s) (rh:RH X.K m H st) (hx:R X.K m H x x')
  (ru:RelV x' u) (hk:kindP st x=some n) (hc:c∈["int","bool","str","tuple","list","dict"]) (h:∀tk,Q (.bool (isKind c n)) { s with toks:=tk }) :
  wpAny (model X.prog X.w) A (call (.builtin "isinstance") [u,.type c]) Q E s:=by
 have e:=kit_kind X.K c hc n (kind_mem' hk)
 cases x with
 | non=>cases hk;rw [R_non] at hx;subst hx;exact isinst_ok I ru .non e h
 | bl b=>cases hk;rw [R_bl] at hx;subst hx;exact isinst_ok I ru (.bl b) e h
 | fn b=>cases hk
 | int b=>cases hk;rw [R_int] at hx;subst hx;exact isinst_ok I ru (.int b) e h
 | str b=>cases hk;rw [R_str] at hx;subst hx;exact isinst_ok I ru (.str b) e h
 | tup xs =>
  cases hk
  rw [R_tup] at hx
  obtain ⟨a,ys,rfl,g,r⟩:=hx
  cases ru
  obtain ⟨its,_,⟨o,ho,hcl,_⟩,_⟩:=I.tuple g
  exact PySem.W.kia_one PySem.W.kitx_tuple I.kIn ⟨o,ho,hcl⟩ e (fun z=>nomatch z) h
 | rdl xs =>
  cases hk
  rw [R_rdl] at hx
  obtain ⟨a,ys,rfl,g,r⟩:=hx
  cases ru
  obtain ⟨its,_,pl,_⟩:=I.list g.sq
  obtain ⟨o,ho,hcl,_⟩:=pl.isList
  exact PySem.W.kia_one PySem.W.kitx_list I.kIn ⟨o,ho,hcl⟩ e (fun z=>nomatch z) h
 | ref k =>
  unfold kindP at hk
  simp only at hk
  split at hk
  ·cases hk
   rename_i q
   obtain ⟨a,ys,rfl,_,h1,h2⟩:=rh.lst q hx
   exact isinst_ok I ru (.lst h1) e h
  ·cases hk
   rename_i kvs q
   rw [R_ref] at hx
   obtain ⟨a,e1,rfl⟩:=hx
   obtain ⟨ys,h1,_⟩:=rh.at_ k _ a q e1
   exact isinst_ok I ru (.dK h1) e h
  ·cases hk
noncomputable def metId:M→String
 | .append=>"list.append"
 | .pop0=>"list.pop"
 | .extend=>"list.extend"
 | .insert=>"list.insert"
 | .count=>"list.count"
noncomputable def mAbs (K:PySem.W.Frag) (w:PV→List PV→AH→EK→Prop):V→List V→Hp→VK→Prop:=fun x' xs' H Q=>∃m st x xs,RH K m H st∧R K m H x x'∧Rs K m H xs xs'∧w x xs st (post K m H Q)
theorem met_ok (c:M):MtR X (metId c) (mAbs X.K (metW c)):=by
 intro pins s σ H x' vs' v us Q I rx rv h
 obtain ⟨m,st,x,vs,rh,hx,hv,w⟩:=h
 cases c with
 | append =>
  obtain ⟨n0,rfl,w⟩:=rfW_inv w
  obtain ⟨x0,rfl,w⟩:=oneW_inv w
  obtain ⟨xs,h1,h2,w⟩:=w
  obtain ⟨a,ys,rfl,e,g,r⟩:=rh.lst h1 hx
  obtain ⟨y,rfl,hy⟩:=hv.one'
  exact mt_append pins s σ H _ _ v us Q I rx rv ⟨a,ys,y,rfl,rfl,g,by rw [←r.len];exact small5' h2,w.setL rh e (r.app (.one hy)) (R_non.mpr rfl)⟩
 | pop0 =>
  obtain ⟨n0,rfl,w⟩:=rfW_inv w
  obtain ⟨rfl,w⟩:=zeroW_inv w
  obtain ⟨xs,z,h1,h2,w⟩:=w
  obtain ⟨a,ys,rfl,e,g,r⟩:=rh.lst h1 hx
  rw [Rs_nil] at hv;subst hv
  obtain ⟨y,e2,ry⟩:=r.get h2
  rw [r.len] at e2
  exact mt_pop pins s σ H _ _ v us Q I rx rv ⟨a,ys,y,rfl,rfl,g,e2,w.setL rh e r.dropLast ry⟩
 | count=>exact False.elim w
 | extend =>
  obtain ⟨n0,rfl,w⟩:=rfW_inv w
  obtain ⟨x0,rfl,w⟩:=oneW_inv w
  obtain ⟨k0,rfl,w⟩:=rfW_inv w
  obtain ⟨xs,zs,h1,h2,h3,w⟩:=w
  obtain ⟨a,ys,rfl,e,g,r⟩:=rh.lst h1 hx
  obtain ⟨y,rfl,hy⟩:=hv.one'
  obtain ⟨b,ys2,rfl,e2,g2,r2⟩:=rh.lst h2 hy
  exact mt_extend pins s σ H _ _ v us Q I rx rv ⟨a,b,ys,ys2,rfl,rfl,g,g2,by rw [←r.len,←r2.len];exact small5 h3,w.setL rh e (r.app r2) (R_non.mpr rfl)⟩
 | insert=>exact False.elim w
noncomputable def sAbs (K:PySem.W.Frag):V→V→V→Hp→(Hp→Prop)→Prop:=fun o' i' v' H Q=>∃m st o i v,RH K m H st∧R K m H o o'∧R K m H i i'∧R K m H v v'∧setW o i v st fun st'=>∀H',Ext K m H m H'→RH K m H' st'→Q H'
theorem set_ok:PSet X (sAbs X.K):=by
 intro pins s σ H o' i' v' ov iv u Q I ro ri rv h
 obtain ⟨m,st,o,i,v,rh,ho,hi,hv,w⟩:=h
 unfold setW at w
 split at w
 ·obtain ⟨xs,h1,q,h2,w⟩:=w
  obtain ⟨a,ys,rfl,e,g,r⟩:=rh.lst h1 ho
  rw [R_int] at hi;subst hi
  exact set_list pins s σ H _ _ _ ov iv u Q I ro ri rv ⟨a,ys,_,q,rfl,rfl,g,by rw [←r.len];exact h2,w _ (Ext.set (ys:=ys) rh e) (rh.setL e (r.set hv q))⟩
 ·exact w.elim
noncomputable def tAbs (K:PySem.W.Frag):V→Hp→(Bool→Hp→Prop)→Prop:=fun x' H Q=>∃m st x,RH K m H st∧R K m H x x'∧truW x st (postB K m H Q)
theorem tru_k:∀ {x':V} {H:Hp} {Q:Bool→Hp→Prop},tAbs X.K x' H Q→∃k,TruV X.K x' H k∧Q k H:=by
 intro x' H Q h
 obtain ⟨m,st,x,rh,hx,w⟩:=h
 unfold truW at w
 split at w
 ·rw [R_bl] at hx;subst hx;exact ⟨_,rfl,w m H (Ext.refl _ _ _) rh⟩
 ·rw [R_non] at hx;subst hx;exact ⟨_,rfl,w m H (Ext.refl _ _ _) rh⟩
 ·rw [R_int] at hx;subst hx;exact ⟨_,rfl,w m H (Ext.refl _ _ _) rh⟩
 ·exact w.elim
 ·obtain ⟨xs,h1,w⟩:=w
  obtain ⟨a,ys,rfl,g,r⟩:=seqAt_sq rh hx h1
  have e:(!xs.isEmpty)=!ys.isEmpty:=by
   have:=r.len
   cases xs <;> cases ys <;> first|rfl|(simp at this)
  refine ⟨_,?_,w m H (Ext.refl _ _ _) rh⟩
  rw [e]
  rcases g with g|g
  ·exact .inl ⟨ys,g,rfl⟩
  ·exact .inr (.inl ⟨ys,g,rfl⟩)
theorem aug_ok (op:Operator):PIp X op (rAbs X.K (augW op)):=by
 intro pins s σ H x' y' v u Q I rx ry h
 obtain ⟨m,st,x,y,rh,hx,hy,w⟩:=h
 unfold augW at w
 split at w
 ·rw [R_int] at hx hy;subst hx hy
  exact ip_add pins s σ H _ _ v u Q I rx ry ⟨_,_,rfl,rfl,w.here rh (R_int.mpr rfl)⟩
 ·rw [R_int] at hx hy;subst hx hy
  exact ip_sub pins s σ H _ _ v u Q I rx ry ⟨_,_,rfl,rfl,w.here rh (R_int.mpr rfl)⟩
 ·obtain ⟨xs,zs,h1,h2,h3,w⟩:=w
  obtain ⟨a,ys,rfl,e,g,r⟩:=rh.lst h1 hx
  obtain ⟨b,ys2,rfl,e2,g2,r2⟩:=rh.lst h2 hy
  exact ip_cat pins s σ H _ _ v u Q I rx ry ⟨a,b,ys,ys2,rfl,rfl,g,g2,by rw [←r.len,←r2.len];exact small5 h3,w.setL rh e (r.app r2) hx⟩
 ·exact w.elim
end
end FW
set_option Elab.async false
set_option linter.all false
set_option maxRecDepth 100000
set_option maxHeartbeats 1000000
namespace FW
open PySem PySem.Spec PyProof.Rows L2 HX
mutual
noncomputable def PV.same:PV→PV→Bool
 | .non,y=>match y with | .non=>true|_=>false
 | .bl a,y=>match y with | .bl b=>a == b|_=>false
 | .int a,y=>match y with | .int b=>a == b|_=>false
 | .str a,y=>match y with | .str b=>a == b|_=>false
 | .tup xs,y=>match y with | .tup ys=>PV.sames xs ys|_=>false
 | .ref a,y=>match y with | .ref b=>a == b|_=>false
 | .rdl xs,y=>match y with | .rdl ys=>PV.sames xs ys|_=>false
 | .fn a,y=>match y with | .fn b=>a == b|_=>false
noncomputable def PV.sames:List PV→List PV→Bool
 | [],y=>y.isEmpty
 | x::xs,y=>match y with|y::ys=>x.same y && PV.sames xs ys | []=>false
end
mutual
theorem PV.same_eq:∀ {x y:PV},x.same y=true→x=y
 | .non,y,h=>by cases y with|non=>rfl|_=>exact Bool.noConfusion (show false=true from h)
 | .bl a,y,h=>by cases y with|bl b=>rw [eq_of_beq (show (a == b)=true from h)] | _=>exact Bool.noConfusion (show false=true from h)
 | .int a,y,h=>by cases y with|int b=>rw [eq_of_beq (show (a == b)=true from h)] | _=>exact Bool.noConfusion (show false=true from h)
 | .str a,y,h=>by cases y with|str b=>rw [eq_of_beq (show (a == b)=true from h)] | _=>exact Bool.noConfusion (show false=true from h)
 | .ref a,y,h=>by cases y with|ref b=>rw [eq_of_beq (show (a == b)=true from h)] | _=>exact Bool.noConfusion (show false=true from h)
 | .tup xs,y,h=>by cases y with|tup ys=>rw [PV.sames_eq (show PV.sames xs ys=true from h)] | _=>exact Bool.noConfusion (show false=true from h)
 | .rdl xs,y,h=>by cases y with|rdl ys=>rw [PV.sames_eq (show PV.sames xs ys=true from h)] | _=>exact Bool.noConfusion (show false=true from h)
 | .fn a,y,h=>by cases y with|fn b=>rw [eq_of_beq (show (a == b)=true from h)] | _=>exact Bool.noConfusion (show false=true from h)
theorem PV.sames_eq:∀ {x y:List PV},PV.sames x y=true→x=y
 | [],y,h=>by cases y with|nil=>rfl|cons a b=>exact Bool.noConfusion (show false=true from h)
 | x::xs,y,h=>by
  cases y with
  | nil=>exact Bool.noConfusion (show false=true from h)
  | cons y ys =>
   have h:=(Bool.and_eq_true _ _).mp (show (x.same y && PV.sames xs ys)=true from h)
   rw [PV.same_eq h.1,PV.sames_eq h.2]
end
structure Cfg where
 N:List Str
 names:List (Str × NameKind)
 fns:List Str
 lim:Nat
 blts:List Str
 gl:List (Str × PV)
 pc:Bool:=false
 hm:Option Nat:=none
noncomputable def Cfg.vis (c:Cfg) (x:Str):Bool:=(c.names.lookup x == some .local || c.names.lookup x == some .cell || c.names.lookup x == some .free) && !(x == ("__debug__":Str)) && !(x == ("__classdict__":Str))
noncomputable def Cfg.loc (c:Cfg) (x:Str):Bool:=c.names.lookup x == some .local || c.names.lookup x == some .cell
noncomputable def Cfg.glb (c:Cfg) (x:Str):Bool:=c.names.lookup x == some .globalImplicit && !(x == ("__debug__":Str)) && !(x == ("__name__":Str))
noncomputable def Cfg.blt (c:Cfg) (x:Str):Bool:=c.glb x && c.blts.contains x
noncomputable def Cfg.fn (c:Cfg) (f:Nat) (x:Str):Bool:=c.fns[f]? == some x && decide (f<c.lim) && c.glb x
noncomputable def bltName:B→Str
 | .len=>"len"
 | .max2=>"max"
 | .min2=>"min"
 | .divmod=>"divmod"
 | .int1=>"int"
 | .str1=>"str"
 | .tuple1=>"tuple"
 | .list1=>"list"
 | .all1=>"all"
 | .any1=>"any"
 | .abs1=>"abs"
 | .sorted1=>"sorted"
 | .repr1=>"repr"
noncomputable def metName:M→Str
 | .append=>"append"
 | .pop0=>"pop"
 | .extend=>"extend"
 | .insert=>"insert"
 | .count=>"count"
noncomputable def kinds:List String:=["int","bool","str","tuple","list","dict"]
noncomputable def noComp:Expr→Bool
 | .ListComp ..=>false
 | .SetComp ..=>false
 | .DictComp ..=>false
 | _=>true
noncomputable def plainT:Expr→Bool
 | .Name ..=>true
 | .Call ..=>true
 | .Subscript ..=>true
 | _=>false
mutual
noncomputable def Tg.low (n:Nat):Tg→Bool
 | .name i=>decide (i<n)
 | .tup ts=>Tgs.low n ts
 | .ltup ts=>Tgs.low n ts
 | .sub _ _=>false
noncomputable def Tgs.low (n:Nat):Tgs→Bool
 | .nil=>true
 | .cons t ts=>Tg.low n t && Tgs.low n ts
end
noncomputable def noSet:Expr→Bool
 | .Set ..=>false
 | _=>true
noncomputable def Cfg.inner (c:Cfg) (nt:List Str) (caps:List Nat) (sc:Scope):Cfg:={ c with N:=nt++caps.filterMap (c.N[·]?),names:=sc.names,pc:=false,hm:=none }
noncomputable def isCF (k:Option NameKind):Bool:=k == some .cell || k == some .free
noncomputable def Cfg.block (c:Cfg) (nt:List Str) (caps:List Nat) (sc:Scope):Bool :=
 sc.kind == .function && sc.names.all (fun y=>!(y.2 == .cell)) && sc.names.all (fun y=>!(y.2 == .local) || sc.names.lookup y.1 == some .local) && sc.names.all (fun y=>!(y.2 == .free) || isCF (c.names.lookup y.1))
  && caps.all (fun i=>decide (i<c.N.length)) && (caps.filterMap (c.N[·]?)).all (fun x=>sc.names.lookup x == some .free && isCF (c.names.lookup x)) && decide (nt++caps.filterMap (c.N[·]?)).Nodup
noncomputable def tgFor:It→Expr→Bool
 | .zip _ _,.Tuple ..=>true
 | .zip _ _,_=>false
 | .zip3 _ _ _,.Tuple ..=>true
 | .zip3 _ _ _,_=>false
 | .enum _,.Tuple ..=>true
 | .enum _,_=>false
 | .seq _,_ | .range1 _,_ | .range2 _ _,_ | .chars _,_ | .range3 _ _ _,_=>true
noncomputable def plainO:Expr→Bool
 | .Name ..=>true
 | .List ..=>true
 | .Subscript ..=>true
 | _=>false
noncomputable def onName (x:Expr) (f:Str→Pos→Bool):Bool:=match x with | .Name y p=>f y p|_=>false
theorem onName_inv {x:Expr} {f:Str→Pos→Bool} (h:onName x f=true):∃y p,x=.Name y p∧f y p=true:=by
 cases x with|Name y p=>exact ⟨y,p,rfl,h⟩|_=>exact Bool.noConfusion h
noncomputable def onInt (x:Expr) (f:Int→Bool):Bool:=match x with | .Constant (.int j) _ _=>f j|_=>false
theorem onInt_inv {x:Expr} {f:Int→Bool} (h:onInt x f=true):∃j k p,x=.Constant (.int j) k p∧f j=true:=by
 cases x with
 | Constant v k p=>cases v with|int j=>exact ⟨j,k,p,rfl,h⟩|_=>exact Bool.noConfusion h
 | _=>exact Bool.noConfusion h
noncomputable def onBl (x:Expr) (f:Bool→Bool):Bool:=match x with | .Constant (.bool j) _ _=>f j|_=>false
theorem onBl_inv {x:Expr} {f:Bool→Bool} (h:onBl x f=true):∃j k p,x=.Constant (.bool j) k p∧f j=true:=by
 cases x with
 | Constant v k p=>cases v with|bool j=>exact ⟨j,k,p,rfl,h⟩|_=>exact Bool.noConfusion h
 | _=>exact Bool.noConfusion h
noncomputable def onStr (x:Expr) (f:Str→Bool):Bool:=match x with | .Constant (.str j) _ _=>f j|_=>false
theorem onStr_inv {x:Expr} {f:Str→Bool} (h:onStr x f=true):∃j k p,x=.Constant (.str j) k p∧f j=true:=by
 cases x with
 | Constant v k p=>cases v with|str j=>exact ⟨j,k,p,rfl,h⟩|_=>exact Bool.noConfusion h
 | _=>exact Bool.noConfusion h
noncomputable def onNon (x:Expr):Bool:=match x with | .Constant .none _ _=>true|_=>false
theorem onNon_inv {x:Expr} (h:onNon x=true):∃k p,x=.Constant .none k p:=by
 cases x with
 | Constant v k p=>cases v with|none=>exact ⟨k,p,rfl⟩|_=>exact Bool.noConfusion h
 | _=>exact Bool.noConfusion h
noncomputable def onTuple (x:Expr) (f:List Expr→Bool):Bool:=match x with | .Tuple xs _ _=>f xs|_=>false
theorem onTuple_inv {x:Expr} {f:List Expr→Bool} (h:onTuple x f=true):∃xs k p,x=.Tuple xs k p∧f xs=true:=by
 cases x with|Tuple xs k p=>exact ⟨xs,k,p,rfl,h⟩|_=>exact Bool.noConfusion h
noncomputable def onList (x:Expr) (f:List Expr→Bool):Bool:=match x with | .List xs _=>f xs|_=>false
theorem onList_inv {x:Expr} {f:List Expr→Bool} (h:onList x f=true):∃xs p,x=.List xs p∧f xs=true:=by
 cases x with|List xs p=>exact ⟨xs,p,rfl,h⟩|_=>exact Bool.noConfusion h
noncomputable def on1 {α:Type} (xs:List α) (f:α→Bool):Bool:=match xs with | [a]=>f a|_=>false
theorem on1_inv {α:Type} {xs:List α} {f:α→Bool} (h:on1 xs f=true):∃a,xs=[a]∧f a=true:=by
 cases xs with
 | nil=>exact Bool.noConfusion h
 | cons a t=>cases t with|nil=>exact ⟨a,rfl,h⟩|cons _ _=>exact Bool.noConfusion h
noncomputable def on2 {α:Type} (xs:List α) (f:α→α→Bool):Bool:=match xs with | [a,b]=>f a b|_=>false
theorem on2_inv {α:Type} {xs:List α} {f:α→α→Bool} (h:on2 xs f=true):∃a b,xs=[a,b]∧f a b=true:=by
 cases xs with
 | nil=>exact Bool.noConfusion h
 | cons a t=>cases t with
  | nil=>exact Bool.noConfusion h
  | cons b t=>cases t with|nil=>exact ⟨a,b,rfl,h⟩|cons _ _=>exact Bool.noConfusion h
noncomputable def on3 {α:Type} (xs:List α) (f:α→α→α→Bool):Bool:=match xs with | [a,b,c]=>f a b c|_=>false
noncomputable def onCons {α:Type} (xs:List α) (f:α→List α→Bool):Bool:=match xs with|a::t=>f a t | []=>false
theorem onCons_inv {α:Type} {xs:List α} {f:α→List α→Bool} (h:onCons xs f=true):∃a t,xs=a::t∧f a t=true:=by
 cases xs with
 | nil=>exact Bool.noConfusion h
 | cons a t=>exact ⟨a,t,rfl,h⟩
noncomputable def onSome {α:Type} (x:Option α) (f:α→Bool):Bool:=match x with|some a=>f a|none=>false
theorem onSome_inv {α:Type} {x:Option α} {f:α→Bool} (h:onSome x f=true):∃a,x=some a∧f a=true:=by
 cases x with
 | none=>exact Bool.noConfusion h
 | some a=>exact ⟨a,rfl,h⟩
noncomputable def onDict (x:Expr) (f:List (Option Expr)→List Expr→Bool):Bool:=match x with | .Dict ks vs _=>f ks vs|_=>false
noncomputable def onBin (x:Expr) (f:Expr→Operator→Expr→Bool):Bool:=match x with | .BinOp l o r _=>f l o r|_=>false
theorem onBin_inv {x:Expr} {f:Expr→Operator→Expr→Bool} (h:onBin x f=true):∃l o r p,x=.BinOp l o r p∧f l o r=true:=by
 cases x with|BinOp l o r p=>exact ⟨l,o,r,p,rfl,h⟩|_=>exact Bool.noConfusion h
noncomputable def onNeg (x:Expr) (f:Expr→Bool):Bool:=match x with | .UnaryOp .USub y _=>f y|_=>false
theorem onNeg_inv {x:Expr} {f:Expr→Bool} (h:onNeg x f=true):∃y p,x=.UnaryOp .USub y p∧f y=true:=by
 cases x with
 | UnaryOp o y p=>cases o with|USub=>exact ⟨y,p,rfl,h⟩|_=>exact Bool.noConfusion h
 | _=>exact Bool.noConfusion h
noncomputable def onNot (x:Expr) (f:Expr→Bool):Bool:=match x with | .UnaryOp .Not y _=>f y|_=>false
theorem onNot_inv {x:Expr} {f:Expr→Bool} (h:onNot x f=true):∃y p,x=.UnaryOp .Not y p∧f y=true:=by
 cases x with
 | UnaryOp o y p=>cases o with|Not=>exact ⟨y,p,rfl,h⟩|_=>exact Bool.noConfusion h
 | _=>exact Bool.noConfusion h
noncomputable def onCmp (x:Expr) (f:Expr→CmpOp→Expr→Bool):Bool:=match x with | .Compare l os rs _=>on1 os fun o=>on1 rs fun r=>f l o r|_=>false
theorem onCmp_inv {x:Expr} {f:Expr→CmpOp→Expr→Bool} (h:onCmp x f=true):∃l o r p,x=.Compare l [o] [r] p∧f l o r=true:=by
 cases x with
 | Compare l os rs p =>
  obtain ⟨o,rfl,h⟩:=on1_inv h
  obtain ⟨r,rfl,h⟩:=on1_inv h
  exact ⟨l,o,r,p,rfl,h⟩
 | _=>exact Bool.noConfusion h
noncomputable def onBop (x:Expr) (f:PySem.BoolOp→List Expr→Bool):Bool:=match x with | .BoolOp o xs _=>f o xs|_=>false
theorem onBop_inv {x:Expr} {f:PySem.BoolOp→List Expr→Bool} (h:onBop x f=true):∃o xs p,x=.BoolOp o xs p∧f o xs=true:=by
 cases x with|BoolOp o xs p=>exact ⟨o,xs,p,rfl,h⟩|_=>exact Bool.noConfusion h
noncomputable def onIte (x:Expr) (f:Expr→Expr→Expr→Bool):Bool:=match x with | .IfExp y l r _=>f y l r|_=>false
theorem onIte_inv {x:Expr} {f:Expr→Expr→Expr→Bool} (h:onIte x f=true):∃y l r p,x=.IfExp y l r p∧f y l r=true:=by
 cases x with|IfExp y l r p=>exact ⟨y,l,r,p,rfl,h⟩|_=>exact Bool.noConfusion h
noncomputable def onSub (x:Expr) (f:Expr→Expr→Bool):Bool:=match x with | .Subscript l r _=>f l r|_=>false
theorem onSub_inv {x:Expr} {f:Expr→Expr→Bool} (h:onSub x f=true):∃l r p,x=.Subscript l r p∧f l r=true:=by
 cases x with|Subscript l r p=>exact ⟨l,r,p,rfl,h⟩|_=>exact Bool.noConfusion h
noncomputable def onSlice (x:Expr) (f:Option Expr→Option Expr→Bool):Bool:=match x with | .Slice u v none _=>f u v|_=>false
theorem onSlice_inv {x:Expr} {f:Option Expr→Option Expr→Bool} (h:onSlice x f=true):∃u v p,x=.Slice u v none p∧f u v=true:=by
 cases x with
 | Slice u v w p=>cases w with|none=>exact ⟨u,v,p,rfl,h⟩|some _=>exact Bool.noConfusion h
 | _=>exact Bool.noConfusion h
noncomputable def onStep (x:Expr) (f:Expr→Bool):Bool:=match x with | .Slice none none (some z) _=>f z|_=>false
noncomputable def onCall (x:Expr) (f:Expr→List Expr→Pos→Bool):Bool:=match x with | .Call g xs [] p=>f g xs p|_=>false
theorem onCall_inv {x:Expr} {f:Expr→List Expr→Pos→Bool} (h:onCall x f=true):∃g xs p,x=.Call g xs [] p∧f g xs p=true:=by
 cases x with
 | Call g xs ks p=>cases ks with|nil=>exact ⟨g,xs,p,rfl,h⟩|cons _ _=>exact Bool.noConfusion h
 | _=>exact Bool.noConfusion h
noncomputable def onAttr (x:Expr) (f:Expr→Str→Pos→Bool):Bool:=match x with | .Attribute y n p=>f y n p|_=>false
theorem onAttr_inv {x:Expr} {f:Expr→Str→Pos→Bool} (h:onAttr x f=true):∃y n p,x=.Attribute y n p∧f y n p=true:=by
 cases x with|Attribute y n p=>exact ⟨y,n,p,rfl,h⟩|_=>exact Bool.noConfusion h
noncomputable def onLC (x:Expr) (f:Expr→List Comprehension→Scope→Pos→Bool):Bool:=match x with | .ListComp e gs sc p=>f e gs sc p|_=>false
theorem onLC_inv {x:Expr} {f:Expr→List Comprehension→Scope→Pos→Bool} (h:onLC x f=true):∃e gs sc p,x=.ListComp e gs sc p∧f e gs sc p=true:=by
 cases x with|ListComp e gs sc p=>exact ⟨e,gs,sc,p,rfl,h⟩|_=>exact Bool.noConfusion h
theorem isNone_eq {α:Type} {x:Option α} (h:x.isNone=true):x=none:=by
 cases x with|none=>rfl|some _=>exact Bool.noConfusion h
noncomputable def onLam (x:Expr) (f:Arguments→Expr→Scope→Bool):Bool:=match x with | .Lambda a b sc _=>f a b sc|_=>false
theorem onLam_inv {x:Expr} {f:Arguments→Expr→Scope→Bool} (h:onLam x f=true):∃a b sc p,x=.Lambda a b sc p∧f a b sc=true:=by
 cases x with|Lambda a b sc p=>exact ⟨a,b,sc,p,rfl,h⟩|_=>exact Bool.noConfusion h
noncomputable def onArg (x:Arguments) (f:Str→Bool):Bool:=x.posonlyargs.isEmpty && x.vararg.isNone && x.kwonlyargs.isEmpty && x.kw_defaults.isEmpty && x.kwarg.isNone && x.defaults.isEmpty && on1 x.args fun a=>f a.arg
noncomputable def Cfg.lam (c:Cfg) (k:Nat) (y:Str) (caps:List Nat) (sc:Scope):Cfg:={ c with N:=y::caps.filterMap (c.N[·]?),names:=sc.names,lim:=k,pc:=false,hm:=none }
noncomputable def Cfg.lamOk (c:Cfg) (k:Nat) (y:Str) (caps:List Nat) (sc:Scope):Bool :=
 sc.kind == .function && !sc.isCoroutine && !sc.isGenerator && sc.names.all (fun y=>!(y.2 == .cell)) && sc.names.lookup y == some .local && sc.names.all (fun y=>!(y.2 == .local) || sc.names.lookup y.1 == some .local) && sc.names.all (fun y=>!(y.2 == .free) || isCF (c.names.lookup y.1))
  && decide (k+1<c.lim) && caps.all (fun i=>decide (i<c.N.length)) && (caps.filterMap (c.N[·]?)).all (fun x=>sc.names.lookup x == some .free && isCF (c.names.lookup x)) && decide (y::caps.filterMap (c.N[·]?)).Nodup
mutual
noncomputable def chkE (c:Cfg):E→Expr→Bool
 | .var i,x=>onName x fun y _=>c.N[i]? == some y && c.vis y
 | .int i,x=>onInt x fun j=>i == j
 | .bl i,x=>onBl x fun j=>i == j
 | .non,x=>onNon x
 | .str i,x=>onStr x fun j=>i == j
 | .gv y v,x=>onName x fun z _=>z == y && c.glb y && onSome (c.gl.lookup y) fun w=>w.same v
 | .tup es,x=>onTuple x fun xs=>chkEs c es xs
 | .lst es,x=>onList x fun xs=>chkEs c es xs
 | .dct1 k i,x=>onDict x fun ks vs=>on1 ks fun ok=>onSome ok fun kx=>onStr kx fun k'=>on1 vs fun vx=>onInt vx fun i'=>k == k' && i == i'
 | .dct0,x=>onDict x fun ks vs=>ks.isEmpty && vs.isEmpty
 | .bin op a b,x=>onBin x fun l o r=>o == op && chkE c a l && chkE c b r
 | .neg a,x=>onNeg x fun y=>chkE c a y
 | .not a,x=>onNot x fun y=>chkE c a y
 | .cmp op a b,x=>onCmp x fun l o r=>o == op && !behindInMarks o r && chkE c a l && chkE c b r
 | .bop k es,x=>onBop x fun o xs=>(o == if k then .And else .Or) && chkEs c es xs && !xs.isEmpty
 | .ite t a b,x=>onIte x fun y l r=>chkT c t y && chkE c a l && chkE c b r
 | .ix a b,x=>onSub x fun l r=>noSlice r && chkE c a l && chkE c b r
 | .sl a lo hi,x=>onSub x fun l r=>onSlice r fun u v=>chkE c a l && chkO c lo u && chkO c hi v
 | .call f es,x=>onCall x fun g xs _=>onName g fun y _=>c.fn f y && xs.all noStar && chkEs c es xs
 | .blt b es,x=>onCall x fun g xs _=>onName g fun y _=>y == bltName b && c.blt y && xs.all noStar && !xs.isEmpty && chkEs c es xs
 | .inst a t,x=>onCall x fun g xs _=>onName g fun y _=>on2 xs fun l r=>onName r fun z _=>y == ("isinstance":Str) && c.blt y && noStar l && z == (t:Str) && c.blt z && kinds.contains t && chkE c a l
 | .met m o es,x=>onCall x fun g xs cp=>onAttr g fun y n ap=>n == metName m && ap.endLine == cp.line && xs.all noStar && decide (xs.length≤2) && plainO y && chkE c o y && chkEs c es xs
 | .comp elt tg it ifs nt caps,x=>onLC x fun ex gs sc _=>on1 gs fun g=>g.is_async == 0 && tgFor it g.target && noSet g.iter && tg.low nt.length && c.block nt caps sc && chkIt c it g.iter && chkTg (c.inner nt caps sc) tg g.target && chkTs (c.inner nt caps sc) ifs g.ifs && chkE (c.inner nt caps sc) elt ex
 | .tmp a,x=>chkE c a x
 | .bad,_=>true
 | .jrev a,x=>onCall x fun g xs cp=>onAttr g fun y n ap=>onStr y fun j=>on1 xs fun l=>onSub l fun u r=>onStep r fun z=>onNeg z fun z1=>onInt z1 fun i=>n == ("join":Str) && ap.endLine == cp.line && j == ("":Str) && i == 1 && chkE c a u
 | .part a s,x=>onCall x fun g xs cp=>onAttr g fun y n ap=>on1 xs fun l=>onStr l fun j=>n == ("partition":Str) && ap.endLine == cp.line && j == s && !(s.length == 0) && plainO y && chkE c a y
 | .pcall i e,x=>c.pc && onCall x fun g xs _=>onName g fun y _=>on1 xs fun l=>c.N[i]? == some y && c.vis y && noStar l && chkE c e l
 | .hm e be caps,x=>onSome c.hm fun k=>onCall x fun g xs _=>onName g fun y _=>on2 xs fun l r=>onLam r fun as b sc=>onArg as fun z=>y == ("how_many":Str) && c.glb y && noStar l && c.lamOk k z caps sc && chkE c e l && chkE (c.lam k z caps sc) be b
termination_by structural e=>e
noncomputable def chkEs (c:Cfg):Es→List Expr→Bool
 | .nil,xs=>xs.isEmpty
 | .cons e es,xs=>onCons xs fun y ys=>noStar y && chkE c e y && chkEs c es ys
termination_by structural e=>e
noncomputable def chkO (c:Cfg):O→Option Expr→Bool
 | .no,x=>x.isNone
 | .yes e,x=>onSome x fun y=>chkE c e y
termination_by structural e=>e
noncomputable def chkT (c:Cfg):E→Expr→Bool
 | .not a,x=>onNot x fun y=>chkT c a y
 | .bop k es,x=>onBop x fun o xs=>(o == if k then .And else .Or) && !xs.isEmpty && chkTs c es xs
 | .cmp op a b,x=>onCmp x fun l o r=>o == op && !behindInMarks o r && chkE c a l && chkE c b r
 | .var i,x=>onName x fun y _=>c.N[i]? == some y && c.vis y
 | .call f es,x=>onCall x fun g xs _=>onName g fun y _=>c.fn f y && xs.all noStar && chkEs c es xs
 | .blt b es,x=>onCall x fun g xs _=>onName g fun y _=>y == bltName b && c.blt y && xs.all noStar && !xs.isEmpty && chkEs c es xs
 | .inst a t,x=>onCall x fun g xs _=>onName g fun y _=>on2 xs fun l r=>onName r fun z _=>y == ("isinstance":Str) && c.blt y && noStar l && z == (t:Str) && c.blt z && kinds.contains t && chkE c a l
 | .tmp a,x=>plainT x && chkE c a x
 | .ix a b,x=>onSub x fun l r=>noSlice r && chkE c a l && chkE c b r
 | .pcall i e,x=>c.pc && onCall x fun g xs _=>onName g fun y _=>on1 xs fun l=>c.N[i]? == some y && c.vis y && noStar l && chkE c e l
 | .hm _ _ _,_ | .bl _,_ | .int _,_ | .non,_ | .str _,_ | .gv _ _,_ | .tup _,_ | .lst _,_ | .dct0,_ | .dct1 _ _,_ | .bin _ _ _,_ | .neg _,_ | .ite _ _ _,_ | .sl _ _ _,_ | .met _ _ _,_ | .comp _ _ _ _ _ _,_ | .bad,_ | .jrev _,_ | .part _ _,_=>true
termination_by structural e=>e
noncomputable def chkTs (c:Cfg):Es→List Expr→Bool
 | .nil,xs=>xs.isEmpty
 | .cons e es,xs=>onCons xs fun y ys=>chkT c e y && chkTs c es ys
termination_by structural e=>e
noncomputable def chkIt (c:Cfg):It→Expr→Bool
 | .seq e,x=>noSet x && chkE c e x
 | .range1 a,x=>onCall x fun g xs _=>onName g fun y _=>on1 xs fun l=>y == ("range":Str) && c.blt y && noStar l && chkE c a l
 | .range2 a b,x=>onCall x fun g xs _=>onName g fun y _=>on2 xs fun l r=>y == ("range":Str) && c.blt y && noStar l && noStar r && chkE c a l && chkE c b r
 | .zip a b,x=>onCall x fun g xs _=>onName g fun y _=>on2 xs fun l r=>y == ("zip":Str) && c.blt y && noStar l && noStar r && chkE c a l && chkE c b r
 | .zip3 a b d,x=>onCall x fun g xs _=>onName g fun y _=>on3 xs fun l r u=>y == ("zip":Str) && c.blt y && noStar l && noStar r && noStar u && chkE c a l && chkE c b r && chkE c d u
 | .enum a,x=>onCall x fun g xs _=>onName g fun y _=>on1 xs fun l=>y == ("enumerate":Str) && c.blt y && noStar l && chkE c a l
 | .chars e,x=>noSet x && chkE c e x
 | .range3 a b d,x=>onCall x fun g xs _=>onName g fun y _=>on3 xs fun l r u=>y == ("range":Str) && c.blt y && noStar l && noStar r && noStar u && chkE c a l && chkE c b r && chkE c d u
termination_by structural e=>e
noncomputable def chkTg (c:Cfg):Tg→Expr→Bool
 | .name i,x=>onName x fun y _=>c.N[i]? == some y && c.loc y
 | .tup ts,x=>onTuple x fun xs=>chkTgs c ts xs
 | .ltup ts,x=>onTuple x fun xs=>chkTgs c ts xs
 | .sub o i,x=>onSub x fun l r=>noSlice r && chkE c o l && chkE c i r
termination_by structural e=>e
noncomputable def chkTgs (c:Cfg):Tgs→List Expr→Bool
 | .nil,xs=>xs.isEmpty
 | .cons t ts,xs=>onCons xs fun y ys=>noStar y && chkTg c t y && chkTgs c ts ys
termination_by structural e=>e
end
end FW
set_option Elab.async false
set_option linter.all false
set_option maxRecDepth 100000
set_option maxHeartbeats 1000000
namespace FW
open PySem PySem.Spec PyProof.Rows L2 HX
noncomputable def absSp (K:PySem.W.Frag) (sp:FSp):Sp:=fun vs H Q _=>∃m st as,Rs K m H as vs∧RH K m H st∧sp as st (post K m H Q)
noncomputable def LamHyp (P:Program) (w:World) (K:PySem.W.Frag) (mg:Str→Option Value) (base:Heap) (k:Nat) (outer:List Env) (s:Shared) (H:Hp) (a:Addr) (L:FSp):Prop :=
 ∀(A':Around) (outer':List Env) (s':Shared) (H':Hp) (u:Value) (v:V) (Q':VK),Room k A'→Env0 P w K mg base A' outer' s' H'→Un (frs outer) [] H H' s.heap s'.heap→RelV v u→absSp K L [v] H' Q' E0 →
  PySem.W.FnAt a s'.heap∧codeAny (model P w) A' (.call (.ref a) ⟨[u],[]⟩) (CR CX0 outer' P w H' s' Q' E0) s'
noncomputable def FMono (L:FSp):Prop:=∀as st Q Q',(∀v st,Q v st→Q' v st)→L as st Q→L as st Q'
noncomputable def spHm (a:Nat) (L:FSp):FSp:=fun as st Q=>∃(xs:List PV) (g:PV→Bool),as=[.tup xs,.fn a]∧xs.length≤100000∧(∀y∈xs,∀Q':EK,Q' (.bl (g y)) st→L [y] st Q')∧Q (.int (bsr g xs)) st
structure HmOk (P:Program) (w:World) (K:PySem.W.Frag) (mg:Str→Option Value) (base:Heap) (k:Nat):Prop where
 ex:∃f fd,mg "how_many"=some (.ref f)∧PySem.W.keepIn K (.ref f)=true∧Binds K fd ["stair","holds"] [] ∧
  ∀(a:Addr) (L:FSp),FMono L→∀(A:Around) (outer:List Env) (s:Shared) (H:Hp) (args:Args) (us:List Value) (vs:List V) (Q:VK),Room (k+1) A→Env0 P w K mg base A outer s H→BindsTo s fd args ((["stair","holds"]:List Str).zip us)→Vals vs us →
   LamHyp P w K mg base k outer s H a L→absSp K (spHm a L) vs H Q E0→codeAny (model P w) A (.call (.ref f) args) (CR CX0 outer P w H s Q E0) s
structure HmX (X:Cx) (k:Nat):Prop where
 ok:HmOk X.prog X.w X.K X.mg X.base (k+1)
 cd:∃x c0 T,x∈lamNames∧PySem.W.tabIn X.K x=some (c0,T)∧X.env.code=.ref c0∧X.env.qual=x++".<locals>."∧PySem.W.CodeHd X.base c0 T
 bm:∃bm ob,X.mg "__builtins__"=some (.ref bm)∧bm≠builtinsNs∧X.base.get? bm=some ob∧ob.cls=.type "module"∧ob.dict=some builtinsNs∧ob.data=.plain
structure COk (X:Cx) (c:Cfg) (Γ:Nat→FSp):Prop where
 calm:X.calm=true
 pass:PassesOwn (model X.prog X.w) X.A X.env X.xe
 N:X.N=c.N
 nd:c.N.Nodup
 vis:∀x,c.names.lookup x=some .local∨c.names.lookup x=some .cell∨c.names.lookup x=some .free→Vis X.env.scope x
 loc:∀x,c.names.lookup x=some .local∨c.names.lookup x=some .cell→Loc X.env.scope x∧(X.fn x=true∨X.env.scope.names.lookup x=some .local)
 lcl:∀x,c.names.lookup x=some .local→X.env.scope.names.lookup x=some .local
 glb:∀x,c.names.lookup x=some .globalImplicit→Gl X x
 bk:X.env.blockKind=.function
 cel:∀x,c.names.lookup x=some .cell∨c.names.lookup x=some .free→X.env.kindOf x=some .cell∨X.env.kindOf x=some .free
 room:Room c.lim X.A
 fn:∀f x,f<c.lim→c.fns[f]?=some x→∃ps,Has X.prog X.w X.K X.mg X.base (f+1) x ps (absSp X.K (Γ f))
 blt:∀x∈c.blts,X.mg x=none
 gl:∀x v,c.gl.lookup x=some v→∃u y,X.mg x=some u∧RelV y u∧∀m H,R X.K m H v y
 mono:GMono Γ
 lam:c.pc=true→∀ {pins:List (Addr × Obj)} {σ:L2.St} {H:Hp} {s:Shared} {b:Addr} {u:Value} {v:V} {Q:VK},L2.Inv X pins σ H s→RelV v u→absSp X.K (Γ 1000) [.ref b,v] H Q E0 →
  PySem.W.FnAt b s.heap∧wpAny (model X.prog X.w) X.A (call (.ref b) [u]) (EP X pins σ Q) X.xe s
 hmo:∀k,c.hm=some k→HmX X k
section
variable {X:Cx} {c:Cfg} {Γ:Nat→FSp}
theorem COk.visx (C:COk X c Γ) {x:Str} (h:c.vis x=true):Vis X.env.scope x∧(x == ("__debug__":Str))=false∧(x == ("__classdict__":Str))=false:=by
 unfold Cfg.vis at h
 simp only [Bool.and_eq_true,Bool.or_eq_true,beq_iff_eq,Bool.not_eq_true'] at h
 exact ⟨C.vis x (by rcases h.1.1 with (h|h)|h <;> simp [h]),h.1.2,h.2⟩
theorem COk.glbx (C:COk X c Γ) {x:Str} (h:c.glb x=true):Gl X x∧(x == ("__debug__":Str))=false∧x≠"__name__":=by
 unfold Cfg.glb at h
 simp only [Bool.and_eq_true,beq_iff_eq,Bool.not_eq_true'] at h
 exact ⟨C.glb x h.1.1,h.1.2,fun z=>by rw [z] at h;exact absurd h.2 (by decide)⟩
theorem COk.bltx (C:COk X c Γ) {x:Str} (h:c.blt x=true):Gl X x∧(x == ("__debug__":Str))=false∧x≠"__name__"∧X.mg x=none:=by
 unfold Cfg.blt at h
 rw [Bool.and_eq_true] at h
 obtain ⟨h1,h2,h3⟩:=C.glbx h.1
 exact ⟨h1,h2,h3,C.blt x (List.contains_iff_mem.mp h.2)⟩
theorem COk.fnx (C:COk X c Γ) {f:Nat} {x:Str} (h:c.fn f x=true):Gl X x∧(x == ("__debug__":Str))=false∧Room (f+1) X.A∧∃ps,Has X.prog X.w X.K X.mg X.base (f+1) x ps (absSp X.K (Γ f)):=by
 unfold Cfg.fn at h
 simp only [Bool.and_eq_true,beq_iff_eq,decide_eq_true_eq] at h
 obtain ⟨h1,h2,h3⟩:=C.glbx h.2
 exact ⟨h1,h2,C.room.mono h.1.2,C.fn f x h.1.2 h.1.1⟩
theorem boots:∀b:B,bootBuiltins (bltName b)=some (bltV b):=by
 intro b
 cases b <;> decide +kernel
theorem boot_kinds:∀t∈kinds,bootBuiltins (t:Str)=some (.type t):=by decide +kernel
theorem boot_isinst:bootBuiltins ("isinstance":Str)=some (.builtin "isinstance"):=by decide +kernel
theorem plain_true {x:Expr} (h:plainT x=true) (env:Env):∀whole,isTrue x env whole=(do let v ←whole;standAt x.pos;holding [v] (truthy v)):=by
 cases x <;> first|(intro _;rfl)|cases h
theorem Rs_app_nil {K:PySem.W.Frag} {m:List Addr} {H:Hp} {as:List PV} {vs:List V} (h:Rs K m H as vs):Rs K m H as (vs++[]):=by rw [List.append_nil];exact h
theorem call_any (C:COk X c Γ) {f:Nat} {y:Str} {xs:List Expr} {p pos:Pos} {es:Es} (hf:c.fn f y=true) (hn:xs.all noStar=true) (hc:chkEs c es xs=true) (ha:PA X xs (TAx X.K (wpEs Γ es))) :
  PE X (.Call (.Name y p) xs [] pos) (TEx X.K fun ρ st Q=>wpEs Γ es ρ st fun vs st1=>Γ f vs st1 Q):=by
 obtain ⟨h1,h2,hr,ps,F⟩:=C.fnx hf
 have key:∀ {σ:L2.St} {H:Hp} {Q:VK},TEx X.K (fun ρ st Q=>wpEs Γ es ρ st fun vs st1=>Γ f vs st1 Q) σ H Q→tCall (absSp X.K (Γ f)) [] E0 (TAx X.K (wpEs Γ es)) σ H Q:=by
  rintro σ H Q ⟨m,ρ,st,rf,rh,w⟩
  exact ⟨m,ρ,st,rf,rh,wpEs_mono C.mono es (fun vs st1 k m1 H1 xs1 e1 r1 r2=>⟨m1,st1,vs,Rs_app_nil r2,r1,C.mono _ _ _ _ _ (fun _ _ q=>q.ext e1) k⟩) w⟩
 intro pins s σ H Q I h
 cases xs with
 | nil =>
  refine pe_own0 F hr h1 h2 pins s σ H Q I ?_
  obtain ⟨m,ρ,st,rf,rh,w⟩:=h
  cases es with
  | nil=>exact ⟨m,st,[],Rs_nil.mpr rfl,rh,w⟩
  | cons e es=>exact Bool.noConfusion (show false=true from hc)
 | cons x xs =>
  rw [List.all_cons,Bool.and_eq_true] at hn
  exact pe_ownq F hr ha h1 h2 hn.1 hn.2 pins s σ H Q I (key h)
theorem call_blt (C:COk X c Γ) {b:B} {y:Str} {xs:List Expr} {p pos:Pos} {es:Es} (hy:y=bltName b) (hb:c.blt y=true) (hn:xs.all noStar=true) (hne:xs.isEmpty=false) (ha:PA X xs (TAx X.K (wpEs Γ es))) :
  PE X (.Call (.Name y p) xs [] pos) (TEx X.K fun ρ st Q=>wpEs Γ es ρ st fun vs st1=>bltW b vs st1 Q):=by
 obtain ⟨h1,h2,h3,h4⟩:=C.bltx hb
 have hv:=boots b
 rw [←hy] at hv
 have key:∀ {σ:L2.St} {H:Hp} {Q:VK},TEx X.K (fun ρ st Q=>wpEs Γ es ρ st fun vs st1=>bltW b vs st1 Q) σ H Q→tCB (lAbs X.K (bltW b)) (TAx X.K (wpEs Γ es)) σ H Q:=by
  rintro σ H Q ⟨m,ρ,st,rf,rh,w⟩
  exact ⟨m,ρ,st,rf,rh,wpEs_mono C.mono es (fun vs st1 k m1 H1 xs1 e1 r1 r2=>⟨m1,st1,vs,r1,r2,bltW_mono (fun _ _ q=>q.ext e1) k⟩) w⟩
 have hc:=blt_ok C.calm C.room.gd C.room.units b
 cases xs with
 | nil=>cases hne
 | cons x xs =>
  rw [List.all_cons,Bool.and_eq_true] at hn
  intro pins s σ H Q I h
  cases b <;> first
   | exact pe_callBq hc h1 h4 hv ha h3 h2 hn.1 hn.2 pins s σ H Q I (key h)
   | exact pe_callTyq hc h1 h4 hv ha h3 h2 hn.1 hn.2 pins s σ H Q I (key h)
theorem met_facts (m:M):PlainAttrs "list"∧Slot "list" (metName m) (metId m)∧typeOf (.builtin (metId m))=pure (.type "method_descriptor"):=by
 cases m
 ·exact ⟨PySem.F.plainAttrs_list,PySem.F.slot_list_append,PySem.F.type_list_append⟩
 ·exact ⟨PySem.F.plainAttrs_list,PySem.F.slot_list_pop,PySem.F.type_list_pop⟩
 ·exact ⟨PySem.F.plainAttrs_list,PySem.F.slot_list_extend,PySem.F.type_list_extend⟩
 ·exact ⟨PySem.F.plainAttrs_list,PySem.F.slot_list_insert,PySem.F.type_list_insert⟩
 ·exact ⟨PySem.F.plainAttrs_list,PySem.F.slot_list_count,PySem.F.type_list_count⟩
theorem attr_base {y:Expr} (h:plainO y=true) {n:Str} {env:Env} {w:Sem Value}:attributeBase y n env w=w:=by
 cases y <;> first|rfl|cases h
theorem call_met (C:COk X c Γ) {m:M} {n:Str} {y:Expr} {ap cp:Pos} {xs:List Expr} {o:E} {es:Es} (hn:n=metName m) (hl:(ap.endLine == cp.line)=true) (hs:xs.all noStar=true) (h2:xs.length≤2) (hy:plainO y=true) (ho:PE X y (TEx X.K (wpE Γ o))) (ha:PA X xs (TAx X.K (wpEs Γ es))) (hc:chkEs c es xs=true) :
  PE X (.Call (.Attribute y n ap) xs [] cp) (TEx X.K (wpE Γ (.met m o es))):=by
 obtain ⟨pa,slot,ty⟩:=met_facts m
 rw [←hn] at slot
 have hm:MtR X (metId m) (mAbs X.K (metW m)):=met_ok m
 intro pins s σ H Q I h
 obtain ⟨mm,ρ,st,rf,rh,w⟩:=h
 skip
 have tyv:∀ {m1:List Addr} {H1:Hp} {st1:AH} {v:PV} {x:V},RH X.K m1 H1 st1→R X.K m1 H1 v x→(∃xs,listAt st1 v=some xs)→tyV X.K "list" x H1:=by
  rintro m1 H1 st1 v x r1 r2 ⟨xs,e⟩
  obtain ⟨a,ys,rfl,g,_⟩:=listAt_sq r1 r2 e
  exact .inl ⟨rfl,ys,g⟩
 match xs,hs,h2,ha,hc with
 | [],hs,h2,ha,hc =>
  refine pe_bm0 pa slot ty hm ho (attr_base hy) hl pins s σ H Q I ?_
  refine ⟨mm,ρ,st,rf,rh,wpE_mono C.mono o (fun v st1 k m1 H1 x1 e1 r1 r2=>⟨tyv r1 r2 k.1,?_⟩) w⟩
  cases es with
  | nil =>
   have k2:=k.2
   skip
   exact ⟨m1,st1,v,[],r1,r2,Rs_nil.mpr rfl,metW_mono (fun _ _ q=>q.ext e1) k2⟩
  | cons e es=>exact Bool.noConfusion (show false=true from hc)
 | [a],hs,h2,ha,hc =>
  simp only [List.all_cons,List.all_nil,Bool.and_true] at hs
  have st1:starEach [a] X.env=[(false,eval a X.env)]:=star_no hs
  refine pe_bm pa slot ty hm ho ha (attr_base hy) (by rw [st1];rfl) hl st1 rfl pins s σ H Q I ?_
  refine ⟨mm,ρ,st,rf,rh,wpE_mono C.mono o (fun v st1 k m1 H1 x1 e1 r1 r2=>⟨tyv r1 r2 k.1,?_⟩) w⟩
  exact ⟨m1,ρ,st1,rf.mono e1,r1,wpEs_mono C.mono es (fun vs st2 k m2 H2 xs2 e2 r3 r4=>⟨m2,st2,v,vs,r3,r2.mono e2,r4,metW_mono (fun _ _ q=>q.ext (e1.trans e2)) k⟩) k.2⟩
 | [a,b],hs,h2,ha,hc =>
  simp only [List.all_cons,List.all_nil,Bool.and_true,Bool.and_eq_true] at hs
  have stb:starEach [b] X.env=[(false,eval b X.env)]:=star_no hs.2
  have st1:starEach [a,b] X.env=(false,eval a X.env)::starEach [b] X.env:=star_no hs.1
  refine pe_bm pa slot ty hm ho ha (attr_base hy) (by rw [st1,stb];rfl) hl st1 (by rw [stb];rfl) pins s σ H Q I ?_
  refine ⟨mm,ρ,st,rf,rh,wpE_mono C.mono o (fun v st1 k m1 H1 x1 e1 r1 r2=>⟨tyv r1 r2 k.1,?_⟩) w⟩
  exact ⟨m1,ρ,st1,rf.mono e1,r1,wpEs_mono C.mono es (fun vs st2 k m2 H2 xs2 e2 r3 r4=>⟨m2,st2,v,vs,r3,r2.mono e2,r4,metW_mono (fun _ _ q=>q.ext (e1.trans e2)) k⟩) k.2⟩
 | _::_::_::_,hs,h2,ha,hc=>simp at h2
mutual
theorem PV.bel_le {i j:Nat} (h:i≤j):∀ {v:PV},v.bel i=true→v.bel j=true
 | .non,_=>by rw [PV.bel]
 | .bl _,_=>by rw [PV.bel]
 | .int _,_=>by rw [PV.bel]
 | .str _,_=>by rw [PV.bel]
 | .ref n,z=>by rw [PV.bel] at z ⊢;have:=of_decide_eq_true z;exact decide_eq_true (by omega)
 | .tup xs,z=>by rw [PV.bel] at z ⊢;exact PV.bels_le h z
 | .rdl xs,z=>by rw [PV.bel] at z ⊢;exact PV.bels_le h z
 | .fn _,z=>by rw [PV.bel] at z;cases z
theorem PV.bels_le {i j:Nat} (h:i≤j):∀ {vs:List PV},PV.bels i vs=true→PV.bels j vs=true
 | [],_=>by rw [PV.bels]
 | v::vs,z=>by rw [PV.bels,Bool.and_eq_true] at z ⊢;exact ⟨PV.bel_le h z.1,PV.bels_le h z.2⟩
end
theorem inst_pe (C:COk X c Γ) {a:E} {t:String} {l:Expr} {y z:Str} {p q pos:Pos} (h:(y == ("isinstance":Str) && c.blt y && noStar l && z == (t:Str) && c.blt z && kinds.contains t)=true) (ha:PE X l (TEx X.K (wpE Γ a))) :
  PE X (.Call (.Name y p) [l,.Name z q] [] pos) (TEx X.K (wpE Γ (.inst a t))):=by
 simp only [Bool.and_eq_true,beq_iff_eq] at h
 obtain ⟨⟨⟨⟨⟨h1,h2⟩,h3⟩,h4⟩,h5⟩,h6⟩:=h
 subst h1 h4
 have ht:t∈kinds:=List.contains_iff_mem.mp h6
 obtain ⟨g1,g2,g3,g4⟩:=C.bltx h2
 obtain ⟨k1,k2,k3,k4⟩:=C.bltx h5
 rintro pins s σ H Q I ⟨m,ρ,st,rf,rh,w⟩
 skip
 have pt:PE X (.Name (t:Str) q) (tC (.ty t)):=pe_bltn k1 k4 (boot_kinds t ht) rfl k3 k2
 have hA:PA X [l,.Name (t:Str) q] (tCons (TEx X.K (wpE Γ a)) (tCons (tC (.ty t)) tNil)):=pac ha (pac pt pa_nil) h3
 have hC:CallR X (.builtin "isinstance") (fun xs H Q=>∃m st x y n,RH X.K m H st∧R X.K m H x y∧xs=[y,.ty t]∧kindP st x=some n∧Q (.bl (isKind t n)) H):=by
  rintro pins s σ H xs us Q I r ⟨m,st,x,y,n,r1,r2,rfl,e,q⟩
  obtain ⟨u,v,rfl,ru,rv⟩:=vals2 r
  cases (show v=Value.type t from rv)
  exact inst_ok (K:=X.K) I r1 r2 ru e ht fun tk=>⟨.bl _,H,I.tok tk,rfl,q⟩
 refine pe_callBq hC g1 g4 boot_isinst hA g3 g2 h3 rfl pins s σ H Q I ?_
 refine ⟨m,ρ,st,rf,rh,wpE_mono C.mono a (fun v st1 k m1 H1 x1 e1 r1 r2=>?_) w⟩
 obtain ⟨n,e,k⟩:=k
 exact ⟨m1,st1,v,x1,n,r1,r2,rfl,e,(k.ext e1).here r1 (R_bl.mpr rfl)⟩
theorem var_pe (C:COk X c Γ) {i:Nat} {y:Str} {p:Pos} (h:(c.N[i]? == some y && c.vis y)=true):PE X (.Name y p) (TEx X.K (wpE Γ (.var i))):=by
 simp only [Bool.and_eq_true,beq_iff_eq] at h
 obtain ⟨h1,h2,h3⟩:=C.visx h.2
 rintro pins s σ H Q I ⟨m,ρ,st,rf,rh,w⟩
 skip
 obtain ⟨v,e,w⟩:=w
 obtain ⟨y,e2,r⟩:=rf.at_ i v e
 exact pe_var (by rw [C.N];exact h.1) h1 h2 h3 pins s σ H Q I ⟨y,e2,w.here rh r⟩
theorem tmp_end {K:PySem.W.Frag} {m m':List Addr} {H H':Hp} {st st':AH} {Q:EK} {v:PV} {x:V} (rh:RH K m H st) (e:Ext K m H m' H') (rh':RH K m' H' st') (r:R K m' H' v x) (q:Tmp st Q v st') :
  ∃st1,Q v st1∧Ext K m H m H'∧RH K m H' st1∧R K m H' v x:=by
 obtain ⟨st1,g,rfl,hl,hs,hb,q⟩:=q
 have hm:m'.take m.length=m:=by
  obtain ⟨t,ht⟩:=e.pre
  rw [←ht,List.take_left]
 have hlen:m.length=st.length:=rh.len
 refine ⟨st1,q,⟨List.prefix_refl _,fun _ z=>.inl z,e.fr,e.tup,e.rdf,e.tbs,e.tb⟩,⟨by rw [hl,hlen],rh.nd,fun n c a h1 h2=>?_,e.tb rh.tb⟩,?_⟩
 ·have hn:n<st1.length:=(List.getElem?_eq_some_iff.mp h1).1
  have c1:CellR K m' H' c a:=rh'.at_ n c a (by rw [List.getElem?_append_left hn];exact h1) (pre_get e.pre h2)
  have hc:c.bec m.length=true:=by
   rcases hs n (by omega) with z|⟨c',z,zb⟩
   ·rw [h1] at z
    exact (rh.at_ n c a z.symm h2).bel
   ·rw [h1] at z
    cases z
    have zb':∀ {c:Cell},c.bel 0=true→c.bec m.length=true:=by
     have b0:∀(xs:List PV),PV.bels 0 xs=true→PV.becs m.length xs=true:=fun xs h=>PV.bels_becs (Nat.zero_le _) h
     intro c h
     cases c with
     | lst xs=>exact b0 _ h
     | dk kvs=>exact b0 _ h
    exact zb' zb
  have:=c1.cut hc
  rw [hm] at this
  exact this
 ·have:=r.cut (k:=m.length) (by rw [hlen];exact PV.bel_bec (Nat.le_refl _) hb)
  rw [hm] at this
  exact this
noncomputable def postF (K:PySem.W.Frag) (m:List Addr) (H:Hp) (Q:L2.St→Hp→Prop):Fr→AH→Prop:=fun ρ' st'=>∀m' H' σ',Ext K m H m' H'→RH K m' H' st'→RF K m' H' ρ' σ'→Q σ' H'
theorem postF.ext {K:PySem.W.Frag} {m m1:List Addr} {H H1:Hp} {Q:L2.St→Hp→Prop} (x:Ext K m H m1 H1) {ρ:Fr} {st:AH} (q:postF K m H Q ρ st):postF K m1 H1 Q ρ st:=fun m' H' σ' e r s=>q m' H' σ' (x.trans e) r s
theorem postF.here {K:PySem.W.Frag} {m:List Addr} {H:Hp} {Q:L2.St→Hp→Prop} {ρ:Fr} {σ:L2.St} {st:AH} (q:postF K m H Q ρ st) (h:RH K m H st) (r:RF K m H ρ σ):Q σ H:=q m H σ (Ext.refl _ _ _) h r
noncomputable def TGx (K:PySem.W.Frag) (w:PV→Fr→AH→(Fr→AH→Prop)→Prop):TG:=fun v' σ H Q=>∃m ρ st v,RF K m H ρ σ∧RH K m H st∧R K m H v v'∧w v ρ st (postF K m H Q)
noncomputable def TGsx (K:PySem.W.Frag) (w:List PV→Fr→AH→(Fr→AH→Prop)→Prop):TGs:=fun v' σ H Q=>∃m ρ st v,RF K m H ρ σ∧RH K m H st∧Rs K m H v v'∧w v ρ st (postF K m H Q)
theorem COk.locx (C:COk X c Γ) {x:Str} (h:c.loc x=true):Loc X.env.scope x∧(X.fn x=true∨X.env.scope.names.lookup x=some .local):=by
 unfold Cfg.loc at h
 simp only [Bool.or_eq_true,beq_iff_eq] at h
 exact C.loc x h
theorem COk.ndX (C:COk X c Γ):X.N.Nodup:=by rw [C.N];exact C.nd
theorem assignEach_no {e:Expr} {es:List Expr} {env:Env} (h:noStar e=true):assignEach (e::es) env=(false,assign e env)::assignEach es env:=by
 cases e <;> first|rfl|cases h
theorem chkTgs_len {c:Cfg}:∀ {ts:Tgs} {xs:List Expr} {env:Env},chkTgs c ts xs=true→(assignEach xs env).length=ts.size∧(assignEach xs env).findIdx? (·.1)=none
 | .nil,xs,env,h=>by
  have h:xs.isEmpty=true:=h
  cases xs with
  | nil=>exact ⟨rfl,rfl⟩
  | cons _ _=>cases h
 | .cons t ts,xs,env,h=>by
  replace h:=onCons_inv h
  obtain ⟨y,ys,rfl,h⟩:=h
  ·simp only [Bool.and_eq_true] at h
   obtain ⟨⟨h1,h2⟩,h3⟩:=h
   obtain ⟨g1,g2⟩:=chkTgs_len (env:=env) h3
   rw [assignEach_no h1]
   exact ⟨by simp [g1,Tgs.size],by simp [List.findIdx?_cons,g2]⟩
structure Walk (K:PySem.W.Frag) (J:L2.It) (xs:List PV) (chk:AH→Prop) (m0:List Addr) (H0:Hp):Prop where
 stop:∀m H st,Ext K m0 H0 m H→RH K m H st→chk st→J.stop xs.length H
 item:∀(i:Nat) v m H st,Ext K m0 H0 m H→RH K m H st→chk st→xs[i]?=some v→J.go i H∧∀x H',J.yld i H x H'→Ext K m H m H'∧RH K m H' st∧R K m H' v x
noncomputable def TIx (K:PySem.W.Frag) (w:Fr→AH→(List PV→(AH→Prop)→AH→Prop)→Prop):TI:=fun σ H Rr=>∃m ρ st,RF K m H ρ σ∧RH K m H st ∧
 w ρ st fun xs chk st1=>∀m1 H1 J,Ext K m H m1 H1→RH K m1 H1 st1→Walk K J xs chk m1 H1→Rr J H1
theorem noSet_ok {x:Expr} {env:Env} (h:noSet x=true):∀v,foldedSetIterable x env v=pure v:=by
 cases x <;> first|(intro _;rfl)|cases h
theorem pi_seq {tg l:Expr} {tl:TE} (hl:PE X l tl):PI X tg l (fun σ H Rr=>tl σ H fun x H1=>∃a,x=.ref a∧((∃xs,SqL X.K H1 a xs)∧Rr (Itl X.K a) H1∨(∃xs,SqT X.K H1 a xs)∧Rr (Itt X.K a) H1)):=by
 intro pins s σ H Rr I h
 refine thn (hl pins s σ H _ I h) fun v s1 ⟨x,H1,I1,r1,q1⟩=>?_
 obtain ⟨a,e,q1⟩:=q1
 subst e
 cases r1
 rcases q1 with ⟨⟨xs,hq⟩,q⟩|⟨⟨xs,hq⟩,q⟩
 ·obtain ⟨its,rv,p,hz⟩:=I1.list hq
  refine wpAny_pyIter_list p.isList ?_
  refine ⟨s1.heap.objs.size,[s1.heap.objs.size],_,_,H1,rfl,I1.kept (t':=s1.toks) fun b o e=>Heap.get?_push_of_some _ e,turn_list a _,⟨_,Heap.get?_push_size _ rfl,rfl,rfl⟩,fun b hb=>?_,q⟩
  have e:b=s1.heap.objs.size:=by simpa using hb
  subst e
  exact I1.fpOk (Nat.le_refl _) (I1.hok.fresh (Nat.le_refl _))
 ·obtain ⟨its,rv,p,hz⟩:=I1.tuple hq
  refine wpAny_pyIter_tuple (show s1.heap.IsTuple a its.toArray from p) ?_
  refine ⟨s1.heap.objs.size,[s1.heap.objs.size],_,_,H1,rfl,I1.kept (t':=s1.toks) fun b o e=>Heap.get?_push_of_some _ e,turn_tuple a _,⟨_,Heap.get?_push_size _ rfl,rfl,rfl⟩,fun b hb=>?_,q⟩
  have e:b=s1.heap.objs.size:=by simpa using hb
  subst e
  exact I1.fpOk (Nat.le_refl _) (I1.hok.fresh (Nat.le_refl _))
theorem walk_list {K:PySem.W.Frag} {m0:List Addr} {H0:Hp} {st0:AH} {n:Nat} {a:Addr} {xs:List PV} (rh:RH K m0 H0 st0) (e:st0[n]?=some (.lst xs)) (ea:m0[n]?=some a):Walk K (Itl K a) xs (fun st'=>st'[n]?=st0[n]?) m0 H0:=by
 have get:∀m H st,Ext K m0 H0 m H→RH K m H st→st[n]?=st0[n]?→∃ys,H a=some (.lst ys)∧Rs K m H xs ys:=fun m H st x r q=>by
  rw [e] at q
  exact r.at_ n _ a q (pre_get x.pre ea)
 refine ⟨fun m H st x r q=>?_,fun i v m H st x r q ev=>?_⟩
 ·obtain ⟨ys,h1,h2⟩:=get m H st x r q
  exact ⟨ys,SqL.of h1,by rw [h2.len];exact Nat.le_refl _⟩
 ·obtain ⟨ys,h1,h2⟩:=get m H st x r q
  obtain ⟨y,e1,r1⟩:=h2.get ev
  refine ⟨⟨ys,y,SqL.of h1,e1⟩,fun z H' ⟨e2,e3⟩=>?_⟩
  subst e2
  have:=e3 ys (SqL.of h1)
  rw [e1] at this
  cases this
  exact ⟨Ext.refl _ _ _,r,r1⟩
theorem walk_rdl {K:PySem.W.Frag} {m0:List Addr} {H0:Hp} {a:Addr} {xs:List PV} {ys:List V} (h:RdF K H0 a ys) (r0:Rs K m0 H0 xs ys):Walk K (Itl K a) xs (fun _=>True) m0 H0:=by
 refine ⟨fun m H st x r q=>⟨ys,(x.rdf _ _ h).sq,by rw [r0.len];exact Nat.le_refl _⟩,fun i v m H st x r q ev=>?_⟩
 obtain ⟨y,e1,r1⟩:=(r0.mono x).get ev
 refine ⟨⟨ys,y,(x.rdf _ _ h).sq,e1⟩,fun z H' ⟨e2,e3⟩=>?_⟩
 subst e2
 have:=e3 ys (x.rdf _ _ h).sq
 rw [e1] at this
 cases this
 exact ⟨Ext.refl _ _ _,r,r1⟩
theorem walk_tup {K:PySem.W.Frag} {m0:List Addr} {H0:Hp} {a:Addr} {xs:List PV} {ys:List V} (h:SqT K H0 a ys) (r0:Rs K m0 H0 xs ys):Walk K (Itt K a) xs (fun _=>True) m0 H0:=by
 refine ⟨fun m H st x r q=>⟨ys,x.tup _ _ h,by rw [r0.len];exact Nat.le_refl _⟩,fun i v m H st x r q ev=>?_⟩
 obtain ⟨y,e1,r1⟩:=(r0.mono x).get ev
 refine ⟨⟨ys,y,x.tup _ _ h,e1⟩,fun z H' ⟨e2,e3⟩=>?_⟩
 subst e2
 have:=e3 ys (x.tup _ _ h)
 rw [e1] at this
 cases this
 exact ⟨Ext.refl _ _ _,r,r1⟩
theorem walk_range {K:PySem.W.Frag} {m0:List Addr} {H0:Hp} {lo:Int} {n:Nat}:Walk K (Itr lo n) (rangeL lo n) (fun _=>True) m0 H0:=by
 refine ⟨fun m H st x r q=>by show n≤_;simp [rangeL],fun i v m H st x r q ev=>?_⟩
 unfold rangeL at ev
 rw [List.getElem?_map] at ev
 have hi:i<n:=by
  by_cases hi:i<n
  ·exact hi
  ·rw [List.getElem?_eq_none (by simp;omega)] at ev;cases ev
 rw [List.getElem?_range hi] at ev
 cases ev
 refine ⟨hi,fun z H' ⟨e2,e3⟩=>?_⟩
 subst e2 e3
 exact ⟨Ext.refl _ _ _,r,R_int.mpr rfl⟩
end
end FW
set_option Elab.async false
set_option linter.all false
set_option maxRecDepth 100000
set_option maxHeartbeats 1000000
namespace FW
open PySem PySem.Spec PyProof.Rows L2 HX
section
variable {X:Cx} {pins:List (Addr × Obj)} {σ:L2.St} {H:Hp} {s:Shared} {h':Heap}
theorem turnedL {t':Nat} {wr:List Addr} (I:L2.Inv X pins σ H s) (k:∀b o,b ∉ wr→s.heap.get? b=some o→h'.get? b=some o) (hf:∀b∈wr,FpOk X pins H b):L2.Inv X pins σ H { s with heap:=h',toks:=t' }:=by
 have nit:∀b u,H b=some u→b ∉ wr:=fun b u e z=>by rw [(hf b z).1] at e;cases e
 refine I.step (g':=s.gens) (d':=s.drawn) (ch:=wr) (fun b hb=>⟨(hf b hb).2.2.2.1,(hf b hb).2.1,(hf b hb).2.2.2.2.1,(hf b hb).2.2.2.2.2⟩) (fun b o _ _ hc e _=>k b o hc e) (fun b o _ _ hc e _=>⟨o.slots,k b o hc e⟩) (fun _ _ _ _ n=>n)
  (fun b o hc e=>⟨o,k b o hc e⟩) (fun _ _ e=>e) (fun _ _ _ e=>e) (fun b ps e=>⟨#[],by rw [e];simp⟩) (fun m hm=>?_) (fun b u e=>?_) I.bare
 ·obtain ⟨o,es,ep,ho,r⟩:=hm
  exact ⟨o,es,ep,k _ o (fun z=>(hf _ z).2.1 rfl) ho,r⟩
 ·refine (I.hok b u e).stay (fun c v hc q=>k c v ?_ q) (fun _ q=>q) fun _ _ q=>q
  rcases hc with z|z
  ·rw [z];exact nit b u e
  ·exact nit c _ z
theorem turnLay {t':Nat} {wr:List Addr} {T:Addr} {xs:List V} {its:List Value} (I:L2.Inv X pins σ H s) (k:∀b o,b ∉ wr→s.heap.get? b=some o→h'.get? b=some o) (hf:∀b∈wr,FpOk X pins H b)
  (hT:s.heap.objs.size≤T) (hx:Vals xs its) (hz:xs.length≤sizeLine) (ht:h'.IsTuple T its.toArray):L2.Inv X pins σ (upd H T (.tup xs)) { s with heap:=h',toks:=t' }:=by
 have nit:∀b u,H b=some u→b ∉ wr:=fun b u e z=>by rw [(hf b z).1] at e;cases e
 have hn:H T=none:=I.hok.fresh hT
 have up:∀b u,H b=some u→upd H T (.tup xs) b=some u:=fun b u e=>by rw [upd_ne (ne_of_none e hn)];exact e
 refine I.step (g':=s.gens) (d':=s.drawn) (ch:=wr) (fun b hb=>⟨(hf b hb).2.2.2.1,(hf b hb).2.1,(hf b hb).2.2.2.2.1,(hf b hb).2.2.2.2.2⟩) (fun b o _ _ hc e _=>k b o hc e) (fun b o _ _ hc e _=>⟨o.slots,k b o hc e⟩)
  (fun b o _ e n=>by rw [upd_ne (Nat.ne_of_lt (Nat.lt_of_lt_of_le (Heap.lt_size e) hT))];exact n)
  (fun b o hc e=>⟨o,k b o hc e⟩) (fun b _ e=>up b _ e) (fun b _ _ e=>up b _ e) (fun b ps e=>⟨#[],by rw [up b _ e];simp⟩) (fun m hm=>?_) (fun b u e=>?_) I.bare
 ·obtain ⟨o,es,ep,ho,r⟩:=hm
  exact ⟨o,es,ep,k _ o (fun z=>(hf _ z).2.1 rfl) ho,r⟩
 ·by_cases hb:b=T
  ·subst hb
   rw [upd_same] at e
   cases e
   exact ⟨hz,its,hx,ht⟩
  ·rw [upd_ne hb] at e
   refine (I.hok b u e).stay (fun c v hc q=>k c v ?_ q) (fun c q=>up c _ q) fun c _ q=>up c _ q
   rcases hc with z|z
   ·rw [z];exact nit b u e
   ·exact nit c _ z
end
theorem zipL_len:∀ {xs ys:List PV},(zipL xs ys).length=min xs.length ys.length
 | [],ys=>by simp [zipL]
 | x::xs,[]=>by simp [zipL]
 | x::xs,y::ys=>by simp only [zipL,List.length_cons,zipL_len (xs:=xs) (ys:=ys)];omega
theorem zipL_get:∀ {xs ys:List PV} {i:Nat} {v:PV},(zipL xs ys)[i]?=some v→∃x y,xs[i]?=some x∧ys[i]?=some y∧v=.tup [x,y]
 | [],ys,i,v,h=>by simp [zipL] at h
 | x::xs,[],i,v,h=>by simp [zipL] at h
 | x::xs,y::ys,0,v,h=>by simp [zipL] at h;exact ⟨x,y,rfl,rfl,h.symm⟩
 | x::xs,y::ys,i+1,v,h=>by
  simp only [zipL,List.getElem?_cons_succ] at h ⊢
  exact zipL_get h
theorem pg_ltup {X:Cx} {es:List Expr} {k:Nat} {t:TGs} {n:Nat} {pos:Pos} (hc:X.calm=true) (h:PGs X es t) (hn:(assignEach es X.env).length=n) (hst:(assignEach es X.env).findIdx? (·.1)=none) :
  PG X (.Tuple es k pos) (fun v σ H Q=>∃a xs,v=.ref a∧SqL X.K H a xs∧xs.length=n∧t xs σ H Q):=by
 intro pins s σ H v u Q I r hw
 obtain ⟨a,xs,e1,hq,hl,hw⟩:=hw
 subst e1
 cases r
 obtain ⟨its,rv,ht,hz⟩:=I.list hq
 rw [PyProof.Rows.assign_Tuple]
 refine wpAny_bind (wpAny_standAt ?_)
 unfold unpack
 rw [hst]
 have hsz:(assignEach es X.env).length=its.toArray.size:=by simp [hn,←hl,rv.length]
 rw [hsz]
 refine wpAny_bind (wpAny_holding (PySem.W.kun_itemsOf (I.ok.hd hc) ht.isList fun h' hx=>?_))
 have I1:L2.Inv X pins σ H { s with heap:=h' }:=I.kept (t':=s.toks) fun b o e=>hx b o (Nat.ne_of_lt (Heap.lt_size e)) e
 exact h pins _ σ H xs _ Q I1 (by simpa using rv) hw
end FW
set_option Elab.async false
set_option linter.all false
set_option maxRecDepth 100000
set_option maxHeartbeats 1000000
namespace FW
open PySem PySem.Spec PyProof.Rows L2 HX
theorem tit_upd {h:Heap} {it t:Addr} {i:Nat} {x:Value} {o:Obj} {k:Nat} (e:h.get? it=some o) (hc:o.cls=.type "tuple_iterator") (hd:o.data=.fields #[.ref t,.int (i:Int) 0]) :
  (h.update it (Obj.mapFields fun z=>z.setIfInBounds k x)).get? it=some (Obj.mapFields (fun z=>z.setIfInBounds k x) o):=by
 refine Heap.get?_update_self _ e ?_
 obtain ⟨c,d,da,sl⟩:=o
 simp only at hc hd
 subst hc hd
 rfl
theorem meets_tnext (it t:Addr) (i:Nat) (items:Array Value) (x:Value):Meets (Builtin.«tuple_iterator.__next__» { pos:=[.ref it] }) fun _ R s =>
  s.heap.IsTupleIter it t i∧s.heap.IsTuple t items∧items[i]?=some x∧∀h',h'.IsTupleIter it t (i+1)→Heap.SameBut it s.heap h'→R (.ok (.ret x)) { s with heap:=h' }:=by
 intro prog w A R s ⟨⟨o,e,hc,hd⟩,⟨o2,e2,hc2,n,hd2⟩,hx,h⟩
 refine wpAny_bind (wpAny_pure ?_)
 refine wpAny_bind (wpAny_field (i:=0) e hd rfl ?_)
 refine wpAny_bind (wpAny_field (i:=1) e hd rfl ?_)
 refine wpAny_bind (wpAny_seqItems e2 hd2 ?_)
 show wpAny _ _ (match items[((i:Nat):Int).toNat]? with|some x=>_|none=>_) _ _ _
 rw [Int.toNat_natCast,hx]
 refine wpAny_bind (wpAny_setField e hd (Nat.lt_succ_self 1) ?_)
 refine wpAny_pure ?_
 refine h _ ⟨_,tit_upd e hc hd,?_,?_⟩ (Heap.SameBut.update _ _ _)
 ·obtain ⟨c,d,da,sl⟩:=o
  simp only at hc hd
  subst hc hd
  rfl
 ·obtain ⟨c,d,da,sl⟩:=o
  simp only at hc hd
  subst hc hd
  show Data.fields #[.ref t,rawInt ((i:Int)+1)]=Data.fields #[.ref t,.int ((i+1:Nat):Int) 0]
  rw [Int.natCast_add]
  rfl
theorem wp_stop {α:Type} {M:Model} {A:Around} {E:Value→Shared→Prop} {s:Shared} {Q:α→Shared→Prop} (hh:A.handled=none) (h:∀h' e,(∀b o,s.heap.get? b=some o→h'.get? b=some o)→(∃o,h'.get? e=some o∧o.cls=.type "StopIteration")→E (.ref e) { s with heap:=h' }) :
  wpAny M A (Builtin.SmallTypes.stopIteration:Sem α) Q E s:=by
 refine wpAny_bind ?_
 refine wpAny_bind (wpAny_newTuple ?_)
 refine wpAny_bind (wpAny_pure ?_)
 refine wpAny_newObj_type (wpAny_raiseNew_none hh ?_)
 refine h _ _ (fun b o e=>Heap.get?_push_of_some _ (Heap.get?_push_of_some _ e)) ⟨_,Heap.get?_push_size _ rfl,rfl⟩
theorem meets_tend (it t:Addr) (i:Nat) (items:Array Value):Meets (Builtin.«tuple_iterator.__next__» { pos:=[.ref it] }) fun A R s =>
  A.handled=none∧s.heap.IsTupleIter it t i∧s.heap.IsTuple t items∧items[i]?=none∧∀h' e,Heap.ExtBut it s.heap h'→(∃o,h'.get? e=some o∧o.cls=.type "StopIteration")→R (.error (.ref e)) { s with heap:=h' }:=by
 intro prog w A R s ⟨hh,⟨o,e,hc,hd⟩,⟨o2,e2,hc2,n,hd2⟩,hx,h⟩
 refine wpAny_bind (wpAny_pure ?_)
 refine wpAny_bind (wpAny_field (i:=0) e hd rfl ?_)
 refine wpAny_bind (wpAny_field (i:=1) e hd rfl ?_)
 refine wpAny_bind (wpAny_seqItems e2 hd2 ?_)
 show wpAny _ _ (match items[((i:Nat):Int).toNat]? with|some x=>_|none=>_) _ _ _
 rw [Int.toNat_natCast,hx]
 refine wpAny_bind (wpAny_rule ?_)
 refine wpAny_bind (wpAny_setField e hd (Nat.zero_lt_succ 1) ?_)
 refine wp_stop hh fun h' x k1 k2=>h h' x (fun b o' hb eb=>k1 b o' ?_) k2
 show (s.heap.update it _).get? b=some o'
 rw [Heap.get?_update_ne _ _ _ _ hb]
 exact eb
section
variable {prog:Program} {w:World} {A:Around} {E:Value→Shared→Prop} {s:Shared} {it t:Addr} {i:Nat} {items:Array Value}
theorem nextOf_titem {x:Value} {Q:Value→Shared→Prop} (hi:s.heap.IsTupleIter it t i) (ht:s.heap.IsTuple t items) (hx:items[i]?=some x) (h:∀h',h'.IsTupleIter it t (i+1)→Heap.SameBut it s.heap h'→Q x { s with heap:=h' }) :
  wpAny (model prog w) A (Builtin.SmallTypes.nextOf (.ref it)) Q E s:=by
 refine wpAny_bind (wpAny_callSpecial?_slot hi.typeIs F.slot_tuple_iterator_next ?_)
 refine call_meets F.slot_tuple_iterator_next hi.typeIs F.entry_tuple_iterator_next (F.args_tuple_iterator_next_1 _) (meets_tnext it t i items x) ⟨hi,ht,hx,fun h' k1 k2=>wpAny_pure (h h' k1 k2)⟩
theorem nextOf_tend {Q:Value→Shared→Prop} (hh:A.handled=none) (hi:s.heap.IsTupleIter it t i) (ht:s.heap.IsTuple t items) (hx:items[i]?=none) (h:∀h' e,Heap.ExtBut it s.heap h'→(∃o,h'.get? e=some o∧o.cls=.type "StopIteration")→E (.ref e) { s with heap:=h' }) :
  wpAny (model prog w) A (Builtin.SmallTypes.nextOf (.ref it)) Q E s:=by
 refine wpAny_bind (wpAny_callSpecial?_slot hi.typeIs F.slot_tuple_iterator_next ?_)
 exact call_meets F.slot_tuple_iterator_next hi.typeIs F.entry_tuple_iterator_next (F.args_tuple_iterator_next_1 _) (meets_tend it t i items) ⟨hh,hi,ht,hx,h⟩
end
theorem tit_keep {h h':Heap} {it t:Addr} {i:Nat} (k:∀o,h.get? it=some o→h'.get? it=some o) (z:h.IsTupleIter it t i):h'.IsTupleIter it t i:=by
 obtain ⟨o,e,r⟩:=z
 exact ⟨o,k o e,r⟩
theorem tup_keep {h h':Heap} {t:Addr} {items:Array Value} (k:∀o,h.get? t=some o→h'.get? t=some o) (z:h.IsTuple t items):h'.IsTuple t items:=by
 obtain ⟨o,e,r⟩:=z
 exact ⟨o,k o e,r⟩
theorem draws_tuple {prog:Program} {w:World} {A:Around} (hh:A.handled=none) (it t:Addr) (hne:t≠it) (items:Array Value) :
  Draws prog w A it [it,t] items.size (fun i v=>items[i]?=some v) fun i h=>h.IsTupleIter it t i∧h.IsTuple t items where
 live:=fun i h z=>let ⟨o,e,_⟩:=z.1;⟨o,e⟩
 frame:=fun i h h' z k=>⟨tit_keep (fun o e=>k it (by simp) o e) z.1,tup_keep (fun o e=>k t (by simp) o e) z.2⟩
 item:=fun i s Q E hi z h=>nextOf_titem z.1 z.2 (Array.getElem?_eq_getElem hi) fun h' k1 k2=>h _ h' s.toks (Array.getElem?_eq_getElem hi) ⟨k1,tup_keep (fun o e=>by rw [k2.2 t hne];exact e) z.2⟩ k2
 done:=fun s Q E z h=>nextOf_tend hh z.1 z.2 (Array.getElem?_eq_none (Nat.le_refl _)) h
theorem meets_enumT (t:Addr) (items:Array Value):Meets (Builtin.«enumerate.__new__» { pos:=[.type "enumerate",.ref t] }) fun _ R s =>
  s.heap.IsTuple t items∧∀h',IsEnum h' (s.heap.objs.size+1) s.heap.objs.size 0 .none→h'.IsTupleIter s.heap.objs.size t 0→(∀b o,s.heap.get? b=some o→h'.get? b=some o)→R (.ok (.ret (.ref (s.heap.objs.size+1)))) { s with heap:=h' }:=by
 intro prog w A R s ⟨ht,h⟩
 refine wpAny_bind ?_
 refine wpAny_bind (wpAny_pure ?_)
 rw [sub_enumerate]
 refine wpAny_bind (wpAny_pure ?_)
 refine wpAny_pure ?_
 refine wpAny_bind (wpAny_bind (wpAny_stack fun st _ _ _=>wpAny_pure ?_))
 have fin:wpAny (model prog w) A.in1 (do
   let i ←pyIter (.ref t)
   let r ←Builtin.SmallTypes.newRecord (.type "enumerate") (Builtin.SmallTypes.ownedTupleFields++[i,rawInt 0,.none,.none])
   ret r) (fun fin s'=>match fin with
   | Fin.done f=>R (Except.ok f) s'
   | Fin.again c'=>c'.quiet=true∧codeAny (model prog w) A c' R s') (fun e s'=>R (Except.error e) s') s:=by
  refine wpAny_bind (wpAny_pyIter_tuple ht ?_)
  refine wpAny_bind (wpAny_newObj_type (T:="enumerate") (data:=.fields #[.none,.bool false,.ref s.heap.objs.size,rawInt 0,.none,.none]) ?_)
  refine wpAny_pure ?_
  have hl:(s.heap.push { cls:=.type "tuple_iterator",data:=.fields #[.ref t,.int 0 0] }).objs.size=s.heap.objs.size+1:=Heap.size_push ..
  have:=h ((s.heap.push { cls:=.type "tuple_iterator",data:=.fields #[.ref t,.int 0 0] }).push { cls:=.type "enumerate",data:=.fields #[.none,.bool false,.ref s.heap.objs.size,rawInt 0,.none,.none] }) (by
   have e:=Heap.get?_push_size (s.heap.push { cls:=.type "tuple_iterator",data:=.fields #[.ref t,.int 0 0] }) (o:={ cls:=.type "enumerate",data:=.fields #[.none,.bool false,.ref s.heap.objs.size,rawInt 0,.none,.none] }) rfl
   rw [hl] at e
   exact e) ⟨_,Heap.get?_push_of_some _ (Heap.get?_push_size _ rfl),rfl,rfl⟩ (fun b o e=>Heap.get?_push_of_some _ (Heap.get?_push_of_some _ e))
  rw [←hl] at this
  exact this
 split
 ·rename_i c _ _ _ _ _
  generalize (c == Value.type "enumerate")=b
  cases b with
  | true=>exact wpAny_bind (m:=pure (Value.ref t,none)) (wpAny_pure fin)
  | false=>exact wpAny_bind (m:=pure (Value.ref t,none)) (wpAny_pure fin)
 ·exact wpAny_bind (m:=pure (Value.ref t,none)) (wpAny_pure fin)
theorem call_enumT {prog:Program} {w:World} {A:Around} {E:Value→Shared→Prop} {s:Shared} {t:Addr} {items:Array Value} {Q:Value→Shared→Prop} (ht:s.heap.IsTuple t items)
  (h:∀h',IsEnum h' (s.heap.objs.size+1) s.heap.objs.size 0 .none→h'.IsTupleIter s.heap.objs.size t 0→(∀b o,s.heap.get? b=some o→h'.get? b=some o)→Q (.ref (s.heap.objs.size+1)) { s with heap:=h' }) :
  wpAny (model prog w) A (call (.type "enumerate") [.ref t]) Q E s:=by
 refine callType_new F.called_enumerate rfl (F.typeCall_enumerate_1 _) (F.newCall_enumerate_1 _) (fun obj=>?_) F.entry_enumerate_new (meets_enumT t items) ⟨ht,fun h' k1 k2 k3=>⟨⟨_,k1,rfl⟩,h h' k1 k2 k3⟩⟩
 exact F.args_object_init_2 _ _
noncomputable def Ite (K:PySem.W.Frag) (a:Addr):L2.It :=
 ⟨fun i H=>∃xs x,SqT K H a xs∧xs[i]?=some x,
  fun i H v H'=>∃T,v=.ref T∧H T=none∧∀xs x,SqT K H a xs→xs[i]?=some x→H'=upd H T (.tup [.int i,x]),
  fun i H=>∃xs,SqT K H a xs∧i=xs.length⟩
noncomputable def enumAt (a e it:Addr) (i:Nat) (h:Heap):Prop:=(∃old,IsEnum h e it (i:Int) old)∧h.IsTupleIter it a i
theorem turn_enum {P:Program} {w:World} {K:PySem.W.Frag} {elts:List Expr} {kt:Nat} {pt:Pos} {a e it:Addr} (h1:e≠it) (h2:a≠e) (h3:a≠it) :
  Turn P w K (.Tuple elts kt pt) (Ite K a) [e,it] e (enumAt a e it) where
 mem:=by simp
 obj:=fun i h st c hc=>by
  obtain ⟨⟨old,q1⟩,⟨o4,e4,c4,d4⟩⟩:=st
  simp only [List.mem_cons,List.not_mem_nil,or_false] at hc
  rcases hc with rfl|rfl
  ·exact ⟨_,q1,fun v z=>nomatch z⟩
  ·exact ⟨o4,e4,fun v z=>by rw [d4] at z;cases z⟩
 keep:=fun i h h' st k=>by
  obtain ⟨⟨old,q1⟩,q2⟩:=st
  exact ⟨⟨old,k e (by simp) _ q1⟩,tit_keep (fun o z=>k it (by simp) o z) q2⟩
 item:=by
  intro X hP hw hK hc i pins s σ H E I hf st hg
  subst hP hw hK
  obtain ⟨xs,x,hq1,hx⟩:=hg
  obtain ⟨its1,rv1,p1,hz1⟩:=I.tuple hq1
  obtain ⟨u1,hu1,ru1⟩:=rv1.get hx
  have W:=WalksT.enumerateD (A:=X.A) (draws_tuple (prog:=X.prog) (w:=X.w) (A:=X.A.in1) (I.ok.hd hc) it a h3 its1.toArray) e h1 (by simp [h1,Ne.symm h2]) (by simp)
  obtain ⟨q1,q2⟩:=st
  have l1:=(List.getElem?_eq_some_iff.mp hu1).1
  have tp:s.heap.IsTuple a its1.toArray:=p1
  refine W.item i s _ _ (by rw [List.size_toArray];exact l1) ⟨q1,q2,tp⟩ fun T vals h' tk hv hT isT mid kk=>?_
  obtain ⟨tt,v1,e1,rfl⟩:=hv
  have z1:v1=u1:=by
   (have:its1[i]?=some v1:=by simpa using e1);rw [hu1] at this;cases this;rfl
  subst z1
  refine ⟨_,rfl,W.go elts kt pt i T { s with heap:=h',toks:=tk } _ _ mid fun h'' st'' kk2=>?_⟩
  have ap:=W.apart i T h' mid
  obtain ⟨o,eo,c,d⟩:=isT
  have I2:L2.Inv X pins σ (upd H T (.tup [.int i,x])) { s with heap:=h'',toks:=tk }:=turnLay (its:=[.int i tt,v1]) I (fun b o hb z=>kk2 b o hb (kk b o hb z)) (fun b hb=>hf b (by simpa using hb)) hT (.cons ⟨tt,rfl⟩ (.cons ru1 .nil)) (by simp [sizeLine]) ⟨o,kk2 T o ap eo,c,d⟩
  refine ⟨.ref T,_,I2,rfl,⟨T,rfl,I.hok.fresh hT,fun xs' x' k1 k2=>?_⟩,⟨st''.1,st''.2.1⟩,fun b hb=>?_⟩
  ·rw [I.tuple_inj k1 hq1,hx] at k2
   cases k2;rfl
  ·have hlt:b<s.heap.objs.size:=by
    simp only [List.mem_cons,List.not_mem_nil,or_false] at hb
    obtain ⟨old,q1⟩:=q1
    obtain ⟨o5,e5,_⟩:=q2
    rcases hb with rfl|rfl
    ·exact Heap.lt_size q1
    ·exact Heap.lt_size e5
   rw [upd_ne (Nat.ne_of_lt (Nat.lt_of_lt_of_le hlt hT))]
   exact (hf b hb).1
 done:=by
  intro X hP hw hK hc i pins s σ H E I hf st hg
  subst hP hw hK
  obtain ⟨xs,hq1,rfl⟩:=hg
  obtain ⟨its1,rv1,p1,hz1⟩:=I.tuple hq1
  have W:=WalksT.enumerateD (A:=X.A) (draws_tuple (prog:=X.prog) (w:=X.w) (A:=X.A.in1) (I.ok.hd hc) it a h3 its1.toArray) e h1 (by simp [h1,Ne.symm h2]) (by simp)
  obtain ⟨q1,q2⟩:=st
  rw [rv1.length] at q1 q2
  exact W.done s _ _ ⟨by simpa using q1,by simpa using q2,p1⟩ fun h' tk kk=>⟨rfl,turnedL I kk fun b hb=>hf b (by simpa using hb)⟩
 self:=fun _ _ _ _ _ st h=>by
  obtain ⟨⟨old,q1⟩,_⟩:=st
  exact wpAny_pyIter_enum q1 h
section
variable {X:Cx}
noncomputable def iEnum (K:PySem.W.Frag) (ta:TA):TI:=fun σ H R=>ta σ H fun vs H1=>∃a,vs=[.ref a]∧(∃xs,SqT K H1 a xs)∧R (Ite K a) H1
theorem pi_enum {elts:List Expr} {kt:Nat} {pt:Pos} {a:Expr} {ta:TA} {p pos:Pos} (hg:Gl X "enumerate") (hm:X.mg "enumerate"=none) (ha:PA X [a] ta) (hs:starEach [a] X.env=[(false,eval a X.env)]) :
  PI X (.Tuple elts kt pt) (.Call (.Name "enumerate" p) [a] [] pos) (iEnum X.K ta):=by
 intro pins s σ H R I h
 refine Call_ (ld_blt I hg hm boot_enumerate (PyProof.Rows.callWith_type1 (thn (ha pos pins s σ H _ I h) fun us s1 ⟨vs,H1,I1,r1,q1⟩=>?_) (by rw [hs];rfl) rfl))
 obtain ⟨l1,e,⟨xs,hq1⟩,q⟩:=q1
 subst e
 cases r1 with
 | cons r rr =>
  cases rr
  cases r
  obtain ⟨its1,rv1,p1,hz1⟩:=I1.tuple hq1
  have tp:s1.heap.IsTuple l1 its1.toArray:=p1
  have lt1:l1<s1.heap.objs.size:=by obtain ⟨_,e,_⟩:=tp;exact Heap.lt_size e
  refine call_enumT tp fun h' k1 k2 kk=>?_
  refine wpAny_pyIter_enum k1 ?_
  refine ⟨_,_,_,_,H1,rfl,I1.kept (t':=s1.toks) kk,turn_enum (Nat.succ_ne_self _) (Nat.ne_of_lt (Nat.lt_succ_of_lt lt1)) (Nat.ne_of_lt lt1),⟨⟨_,k1⟩,k2⟩,fun b hb=>?_,q⟩
  have hb':s1.heap.objs.size≤b:=by
   simp only [List.mem_cons,List.not_mem_nil,or_false] at hb
   rcases hb with rfl|rfl <;> first|exact Nat.le_refl _|exact Nat.le_add_right _ _
  exact I1.fpOk hb' (I1.hok.fresh hb')
end
theorem enumL_len:∀ {xs:List PV} {i:Int},(enumL i xs).length=xs.length
 | [],i=>by simp [enumL]
 | x::xs,i=>by simp only [enumL,List.length_cons,enumL_len (xs:=xs)]
theorem enumL_get:∀ {xs:List PV} {k:Int} {i:Nat} {v:PV},(enumL k xs)[i]?=some v→∃x,xs[i]?=some x∧v=.tup [.int (k+i),x]
 | [],k,i,v,h=>by simp [enumL] at h
 | x::xs,k,0,v,h=>by simp [enumL] at h;exact ⟨x,rfl,by rw [←h];simp⟩
 | x::xs,k,i+1,v,h=>by
  simp only [enumL,List.getElem?_cons_succ] at h ⊢
  obtain ⟨y,e,rfl⟩:=enumL_get h
  refine ⟨y,e,?_⟩
  rw [show k+1+(i:Int)=k+((i+1:Nat):Int) by omega]
theorem walk_enum {K:PySem.W.Frag} {m0:List Addr} {H0:Hp} {a:Addr} {xs:List PV} {ys:List V} (h:SqT K H0 a ys) (r0:Rs K m0 H0 xs ys):Walk K (Ite K a) (enumL 0 xs) (fun _=>True) m0 H0:=by
 refine ⟨fun m H st x r q=>⟨ys,x.tup _ _ h,by rw [enumL_len,r0.len]⟩,fun i v m H st x r q ev=>?_⟩
 obtain ⟨u,e1,rfl⟩:=enumL_get ev
 obtain ⟨y1,f1,q1⟩:=r0.get e1
 refine ⟨⟨ys,y1,x.tup _ _ h,f1⟩,?_⟩
 rintro z H' ⟨T,rfl,hT,hh⟩
 have:=hh ys y1 (x.tup _ _ h) f1
 subst this
 refine ⟨Ext.newT r hT,r.newT hT,R_tup.mpr ⟨T,[.int i,y1],rfl,SqT.of upd_same,?_⟩⟩
 rw [Rs_cons',Rs_cons',Rs_nil,R_int]
 exact ⟨by simp,(q1.mono x).mono (Ext.newT r hT),rfl⟩
end FW
set_option Elab.async false
set_option linter.all false
set_option maxRecDepth 100000
set_option maxHeartbeats 1000000
namespace FW
open PySem PySem.Spec PyProof.Rows L2 HX
structure Zs where
 it:Addr
 c:Bool × Addr
 xs:Array Value
noncomputable abbrev Zs.a (q:Zs):Addr:=q.c.2
noncomputable def ItB (h:Heap) (it:Addr) (c:Bool × Addr) (i:Nat):Prop:=if c.1=true then h.IsListIter it c.2 i else h.IsTupleIter it c.2 i
noncomputable def SeqB (h:Heap) (c:Bool × Addr) (xs:Array Value):Prop:=if c.1=true then h.IsList c.2 xs else h.IsTuple c.2 xs
theorem ItB.keep {h h':Heap} {it:Addr} {c:Bool × Addr} {i:Nat} (z:ItB h it c i) (k:∀o,h.get? it=some o→h'.get? it=some o):ItB h' it c i:=by
 obtain ⟨b,a⟩:=c
 cases b with
 | true=>exact (show h.IsListIter it a i from z).at k
 | false=>exact tit_keep k (show h.IsTupleIter it a i from z)
theorem ItB.obj {h:Heap} {it:Addr} {c:Bool × Addr} {i:Nat} (z:ItB h it c i):∃o vs,h.get? it=some o∧o.data=.fields vs:=by
 obtain ⟨b,a⟩:=c
 cases b with
 | true=>obtain ⟨o,e,_,d⟩:=(show h.IsListIter it a i from z);exact ⟨o,_,e,d⟩
 | false=>obtain ⟨o,e,_,d⟩:=(show h.IsTupleIter it a i from z);exact ⟨o,_,e,d⟩
theorem SeqB.keep {h h':Heap} {c:Bool × Addr} {xs:Array Value} (z:SeqB h c xs) (k:∀o,h.get? c.2=some o→h'.get? c.2=some o):SeqB h' c xs:=by
 obtain ⟨b,a⟩:=c
 cases b with
 | true=>exact (show h.IsList a xs from z).at k
 | false=>exact tup_keep k (show h.IsTuple a xs from z)
noncomputable def SrcAt (h:Heap) (q:Zs) (i:Nat):Prop:=ItB h q.it q.c i∧SeqB h q.c q.xs
theorem SrcAt.keep {h h':Heap} {q:Zs} {i:Nat} (z:SrcAt h q i) (k1:∀o,h.get? q.it=some o→h'.get? q.it=some o) (k2:∀o,h.get? q.a=some o→h'.get? q.a=some o):SrcAt h' q i:=⟨z.1.keep k1,z.2.keep k2⟩
theorem SrcAt.obj {h:Heap} {q:Zs} {i:Nat} (z:SrcAt h q i):∃o vs,h.get? q.it=some o∧o.data=.fields vs:=z.1.obj
section
variable {prog:Program} {w:World} {A:Around} {E:Value→Shared→Prop} {s:Shared} {q:Zs} {i:Nat}
theorem src_item {x:Value} {Q:Value→Shared→Prop} (hne:q.a≠q.it) (h:SrcAt s.heap q i) (hx:q.xs[i]?=some x) (hQ:∀h',SrcAt h' q (i+1)→Heap.SameBut q.it s.heap h'→Q x { s with heap:=h' }):wpAny (model prog w) A (Builtin.SmallTypes.nextOf (.ref q.it)) Q E s:=by
 obtain ⟨it,⟨b,a⟩,xs⟩:=q
 obtain ⟨z1,z2⟩:=h
 cases b with
 | true=>exact wpAny_nextOf_list_item (show s.heap.IsListIter it a i from z1) (show s.heap.IsList a xs from z2) hx fun h' k1 k2=>hQ h' ⟨k1,z2.keep fun o e=>by rw [k2.2 _ hne];exact e⟩ k2
 | false=>exact nextOf_titem (show s.heap.IsTupleIter it a i from z1) (show s.heap.IsTuple a xs from z2) hx fun h' k1 k2=>hQ h' ⟨k1,z2.keep fun o e=>by rw [k2.2 _ hne];exact e⟩ k2
theorem src_end {Q:Value→Shared→Prop} (hh:A.handled=none) (h:SrcAt s.heap q i) (hx:q.xs[i]?=none) (hE:∀h' e,Heap.ExtBut q.it s.heap h'→(∃o,h'.get? e=some o∧o.cls=.type "StopIteration")→E (.ref e) { s with heap:=h' }):wpAny (model prog w) A (Builtin.SmallTypes.nextOf (.ref q.it)) Q E s:=by
 obtain ⟨it,⟨b,a⟩,xs⟩:=q
 obtain ⟨z1,z2⟩:=h
 cases b with
 | true=>exact wpAny_nextOf_list_end hh (show s.heap.IsListIter it a i from z1) (show s.heap.IsList a xs from z2) hx hE
 | false=>exact nextOf_tend hh (show s.heap.IsTupleIter it a i from z1) (show s.heap.IsTuple a xs from z2) hx hE
theorem src_new {c:Bool × Addr} {xs:Array Value} {Q:Value→Shared→Prop} (h:SeqB s.heap c xs) (hQ:∀o,ItB (s.heap.push o) s.heap.objs.size c 0→Q (.ref s.heap.objs.size) { s with heap:=s.heap.push o }):wpAny (model prog w) A (pyIter (.ref c.2)) Q E s:=by
 obtain ⟨b,a⟩:=c
 cases b with
 | true=>exact wpAny_pyIter_list (show s.heap.IsList a xs from h) (hQ _ ⟨_,Heap.get?_push_size _ rfl,rfl,rfl⟩)
 | false=>exact wpAny_pyIter_tuple (show s.heap.IsTuple a xs from h) (hQ _ ⟨_,Heap.get?_push_size _ rfl,rfl,rfl⟩)
end
noncomputable abbrev tupO (xs:List Value):Obj:={ cls:=.type "tuple",data:=.seq xs.toArray }
structure ZA (z TI TO:Addr) (ss:List Zs):Prop where
 nd:(z::TI::TO::ss.map Zs.it).Nodup
 ap:∀q∈ss,q.a ∉ z::TI::TO::ss.map Zs.it
section
variable {prog:Program} {w:World} {A:Around} {E:Value→Shared→Prop} {z TI TO:Addr} {i:Nat}
noncomputable def ZStep (prog:Program) (w:World) (A:Around) (z TI TO:Addr) (f:Value × Nat→Option Fin × Unit→Sem (ForInStep (Option Fin × Unit))):Prop :=
 ∀(it:Addr) (k:Nat) (s:Shared) (R:ForInStep (Option Fin × Unit)→Shared→Prop) (E:Value→Shared→Prop),
  wpAny (model prog w) A (Builtin.SmallTypes.nextOf (.ref it)) (fun x s1=>∃arr,s1.heap.get? TO=some (tupO arr)∧arr.length≤sizeLine∧∀h',h'.get? TO=some (tupO (arr.set k x))→Heap.SameBut TO s1.heap h'→R (.yield (none,())) { s1 with heap:=h' })
   (fun e s1=>IsZip s1.heap z TI TO .ellipsis∧∀h',IsZip h' z TI TO .none→Heap.SameBut z s1.heap h'→E e { s1 with heap:=h' }) s →
  wpAny (model prog w) A (f (.ref it,k) (none,())) R E s
theorem zip_all {f:Value × Nat→Option Fin × Unit→Sem (ForInStep (Option Fin × Unit))} (hf:ZStep prog w A z TI TO f):∀ {ss dn:List Zs} {dx xs arr:List Value} {s:Shared} {R:Option Fin × Unit→Shared→Prop},ZA z TI TO (dn++ss)→(dn++ss).length≤sizeLine →
  Paired (fun (q:Zs) (x:Value)=>q.xs[i]?=some x) ss xs→dx.length=dn.length→arr.length=ss.length→IsZip s.heap z TI TO .ellipsis→s.heap.get? TO=some (tupO (dx++arr))→(∀q∈dn,SrcAt s.heap q (i+1))→(∀q∈ss,SrcAt s.heap q i) →
  (∀h',IsZip h' z TI TO .ellipsis→h'.get? TO=some (tupO (dx++xs))→(∀q∈dn++ss,SrcAt h' q (i+1))→h'.objs.size=s.heap.objs.size→(∀c o,c ∉ TO::(dn++ss).map Zs.it→s.heap.get? c=some o→h'.get? c=some o)→R (none,()) { s with heap:=h' }) →
  wpAny (model prog w) A (forIn ((ss.map fun q=>Value.ref q.it).zipIdx dn.length) (none,()) f) R E s:=by
 intro ss
 induction ss with
 | nil =>
  intro dn dx xs arr s R ap hsz hp hl ha hz hTO h1 h2 hR
  cases hp
  have:arr=[]:=List.length_eq_zero_iff.mp ha
  subst this
  exact wpAny_pure (hR s.heap hz hTO (by simpa using h1) rfl fun c o _ e=>e)
 | cons q ss ih =>
  intro dn dx xs arr s R ap hsz hp hl ha hz hTO h1 h2 hR
  cases hp with
  | @cons _ x _ xs hx hp =>
  cases arr with
  | nil=>simp at ha
  | cons b arr =>
  rw [List.map_cons,List.zipIdx_cons,List.forIn_cons]
  have nd:=ap.nd
  have qm:q∈dn++q::ss:=by simp
  have im:q.it∈(dn++q::ss).map Zs.it:=List.mem_map.mpr ⟨q,qm,rfl⟩
  have zi:z≠q.it:=fun e=>by
   have:=(List.nodup_cons.mp nd).1
   exact this (by simp [e])
  have ti:TO≠q.it:=fun e=>by
   have:=(List.nodup_cons.mp (List.nodup_cons.mp (List.nodup_cons.mp nd).2).2).1
   exact this (by rw [e];exact im)
  have zt:z≠TO:=fun e=>by
   have:=(List.nodup_cons.mp nd).1
   exact this (by simp [e])
  have ni:=(List.nodup_cons.mp (List.nodup_cons.mp (List.nodup_cons.mp nd).2).2).2
  have oth:∀p,p∈dn∨p∈ss→p.it≠q.it:=fun p hp e=>by
   rw [List.map_append,List.map_cons] at ni
   rcases hp with hp|hp
   ·have:=(List.nodup_append.mp ni).2.2 p.it (List.mem_map.mpr ⟨p,hp,rfl⟩) q.it (by simp)
    exact this e
   ·have:=(List.nodup_cons.mp (List.nodup_append.mp ni).2.1).1
    exact this (by rw [←e];exact List.mem_map.mpr ⟨p,hp,rfl⟩)
  have apa:∀p∈dn++q::ss,p.a≠q.it∧p.a≠TO:=fun p hp=>⟨fun e=>ap.ap p hp (by rw [e];simp),fun e=>ap.ap p hp (by rw [e];simp)⟩
  have tot:∀p∈dn++q::ss,p.it≠TO:=fun p hp e=>by
   have:=(List.nodup_cons.mp (List.nodup_cons.mp (List.nodup_cons.mp nd).2).2).1
   exact this (by rw [←e];exact List.mem_map.mpr ⟨p,hp,rfl⟩)
  refine wpAny_bind (hf q.it dn.length s _ _ ?_)
  refine src_item (apa q qm).1 (h2 q (by simp)) hx fun h' k1 k2=>⟨dx++b::arr,by show h'.get? TO=_;rw [k2.2 TO ti];exact hTO,by rw [List.length_append,hl,ha,←List.length_append];exact hsz,fun h'' k3 k4=>?_⟩
  have both:∀c o,c≠q.it→c≠TO→s.heap.get? c=some o→h''.get? c=some o:=fun c o c1 c2 e=>by
   rw [k4.2 c c2]
   show h'.get? c=some o
   rw [k2.2 c c1]
   exact e
  have e3:(dx++b::arr).set dn.length x=(dx++[x])++arr:=by
   rw [←hl,List.set_append_right _ _ (Nat.le_refl _),Nat.sub_self]
   simp
  rw [e3] at k3
  have ea:dn++q::ss=(dn++[q])++ss:=by simp
  have el:dn.length+1=(dn++[q]).length:=by simp
  show wpAny _ _ (forIn ((ss.map fun q=>Value.ref q.it).zipIdx (dn.length+1)) (none,()) f) R E _
  rw [el]
  refine ih (dn:=dn++[q]) (dx:=dx++[x]) (xs:=xs) (arr:=arr) (by rw [←ea];exact ap) (by rw [←ea];exact hsz) hp (by simp [hl]) (by simpa using ha) (both z _ zi zt hz) k3 (fun p hp=>?_) (fun p hp=>?_) fun h3 j1 j2 j3 j4 j5=>?_
  ·rcases List.mem_append.mp hp with hp|hp
   ·exact (h1 p hp).keep (fun o e=>both _ o (oth p (.inl hp)) (tot p (by simp [hp])) e) fun o e=>both _ o (apa p (by simp [hp])).1 (apa p (by simp [hp])).2 e
   ·rw [List.mem_singleton] at hp
    subst hp
    exact k1.keep (fun o e=>by rw [k4.2 _ (Ne.symm ti)];exact e) fun o e=>by rw [k4.2 _ (apa p qm).2];exact e
  ·exact (h2 p (by simp [hp])).keep (fun o e=>both _ o (oth p (.inr hp)) (tot p (by simp [hp])) e) fun o e=>both _ o (apa p (by simp [hp])).1 (apa p (by simp [hp])).2 e
  ·refine hR h3 j1 (by rw [j2];simp) (by rw [ea];exact j3) (by rw [j4,k4.1];exact k2.1) fun c o hc e=>?_
   rw [ea] at hc
   refine j5 c o hc (both c o (fun z=>hc ?_) (fun z=>hc ?_) e)
   ·rw [z];simp
   ·rw [z];simp
theorem zip_ends {f:Value × Nat→Option Fin × Unit→Sem (ForInStep (Option Fin × Unit))} (hf:ZStep prog w A z TI TO f) (hh:A.handled=none):∀ {ss dn:List Zs} {dx arr:List Value} {s:Shared} {R:Option Fin × Unit→Shared→Prop},ZA z TI TO (dn++ss)→(dn++ss).length≤sizeLine →
  (∃q∈ss,q.xs[i]?=none)→dx.length=dn.length→arr.length=ss.length→IsZip s.heap z TI TO .ellipsis→s.heap.get? TO=some (tupO (dx++arr))→(∀q∈ss,SrcAt s.heap q i) →
  (∀h' e,(∀c o,c ∉ z::TO::(dn++ss).map Zs.it→s.heap.get? c=some o→h'.get? c=some o)→(∃o,h'.get? e=some o∧o.cls=.type "StopIteration")→E (.ref e) { s with heap:=h' }) →
  wpAny (model prog w) A (forIn ((ss.map fun q=>Value.ref q.it).zipIdx dn.length) (none,()) f) R E s:=by
 intro ss
 induction ss with
 | nil =>
  intro dn dx arr s R ap hsz hq
  obtain ⟨q,hq,_⟩:=hq
  cases hq
 | cons q ss ih =>
  intro dn dx arr s R ap hsz hq hl ha hz hTO h2 hE
  cases arr with
  | nil=>simp at ha
  | cons b arr =>
  rw [List.map_cons,List.zipIdx_cons,List.forIn_cons]
  have nd:=ap.nd
  have qm:q∈dn++q::ss:=by simp
  have im:q.it∈(dn++q::ss).map Zs.it:=List.mem_map.mpr ⟨q,qm,rfl⟩
  have zi:z≠q.it:=fun e=>(List.nodup_cons.mp nd).1 (by simp [e])
  have ti:TO≠q.it:=fun e=>(List.nodup_cons.mp (List.nodup_cons.mp (List.nodup_cons.mp nd).2).2).1 (by rw [e];exact im)
  have zt:z≠TO:=fun e=>(List.nodup_cons.mp nd).1 (by simp [e])
  have ni:=(List.nodup_cons.mp (List.nodup_cons.mp (List.nodup_cons.mp nd).2).2).2
  have oth:∀p,p∈ss→p.it≠q.it:=fun p hp e=>by
   rw [List.map_append,List.map_cons] at ni
   exact (List.nodup_cons.mp (List.nodup_append.mp ni).2.1).1 (by rw [←e];exact List.mem_map.mpr ⟨p,hp,rfl⟩)
  have apa:∀p∈dn++q::ss,p.a≠q.it∧p.a≠TO:=fun p hp=>⟨fun e=>ap.ap p hp (by rw [e];simp),fun e=>ap.ap p hp (by rw [e];simp)⟩
  have tot:∀p∈dn++q::ss,p.it≠TO:=fun p hp e=>(List.nodup_cons.mp (List.nodup_cons.mp (List.nodup_cons.mp nd).2).2).1 (by rw [←e];exact List.mem_map.mpr ⟨p,hp,rfl⟩)
  refine wpAny_bind (hf q.it dn.length s _ _ ?_)
  cases hx:q.xs[i]? with
  | none =>
   refine src_end hh (h2 q (by simp)) hx fun h' e k1 k2=>?_
   have hz2:IsZip h' z TI TO .ellipsis:=k1 _ _ zi hz
   obtain ⟨oe,he,hc⟩:=k2
   have ez:e≠z:=fun z=>by subst z;rw [hz2] at he;cases he;simp at hc
   refine ⟨hz2,fun h'' _ k4=>hE h'' e (fun c o hc e=>?_) ⟨oe,by rw [k4.2 e ez];exact he,hc⟩⟩
   rw [k4.2 c (fun z=>hc (by rw [z];simp))]
   exact k1 c o (fun z=>hc (by rw [z];simp)) e
  | some x =>
   refine src_item (apa q qm).1 (h2 q (by simp)) hx fun h' k1 k2=>⟨dx++b::arr,by show h'.get? TO=_;rw [k2.2 TO ti];exact hTO,by rw [List.length_append,hl,ha,←List.length_append];exact hsz,fun h'' k3 k4=>?_⟩
   have both:∀c o,c≠q.it→c≠TO→s.heap.get? c=some o→h''.get? c=some o:=fun c o c1 c2 e=>by
    rw [k4.2 c c2]
    show h'.get? c=some o
    rw [k2.2 c c1]
    exact e
   have e3:(dx++b::arr).set dn.length x=(dx++[x])++arr:=by
    rw [←hl,List.set_append_right _ _ (Nat.le_refl _),Nat.sub_self]
    simp
   rw [e3] at k3
   have ea:dn++q::ss=(dn++[q])++ss:=by simp
   have el:dn.length+1=(dn++[q]).length:=by simp
   show wpAny _ _ (forIn ((ss.map fun q=>Value.ref q.it).zipIdx (dn.length+1)) (none,()) f) R E _
   rw [el]
   obtain ⟨p,hp,hn⟩:=hq
   have hp':p∈ss:=by
    rcases List.mem_cons.mp hp with rfl|h
    ·rw [hx] at hn;cases hn
    ·exact h
   refine ih (dn:=dn++[q]) (dx:=dx++[x]) (arr:=arr) (by rw [←ea];exact ap) (by rw [←ea];exact hsz) ⟨p,hp',hn⟩ (by simp [hl]) (by simpa using ha) (both z _ zi zt hz) k3 (fun p hp=>?_) fun h3 e j1 j2=>hE h3 e (fun c o hc e=>?_) j2
   ·exact (h2 p (by simp [hp])).keep (fun o e=>both _ o (oth p hp) (tot p (by simp [hp])) e) fun o e=>both _ o (apa p (by simp [hp])).1 (apa p (by simp [hp])).2 e
   ·rw [ea] at hc
    refine j1 c o hc (both c o (fun z=>hc ?_) (fun z=>hc ?_) e)
    ·rw [z];simp
    ·rw [z];simp
theorem updTup {s:Shared} {xs:List Value} {k:Nat} {x:Value} {Q:Unit→Shared→Prop} (hT:s.heap.get? TO=some (tupO xs)) (hs:xs.length≤sizeLine) (h:∀h',h'.get? TO=some (tupO (xs.set k x))→Heap.SameBut TO s.heap h'→Q () { s with heap:=h' }) :
  wpAny (model prog w) A (updateSeq TO fun v=>v.setIfInBounds k x) Q E s:=by
 refine wpAny_updateSeq hT rfl (h _ ?_ (Heap.SameBut.update _ _ _)) (by simpa using hs) (by simp;omega)
 rw [Heap.get?_update_self _ hT rfl]
 simp [Obj.mapSeq]
theorem hand_out {s:Shared} {T:Addr} {Q:Unit→Shared→Prop} (hz:IsZip s.heap z TI TO .ellipsis) (h:∀h',IsZip h' z TI TO (rawInt T)→Heap.SameBut z s.heap h'→Q () { s with heap:=h' }):wpAny (model prog w) A (Builtin.SmallTypes.ownedTupleHandOut (.ref z) (.ref T)) Q E s:=by
 refine wpAny_bind (wpAny_setField_rec hz (Nat.zero_lt_succ _) fun h1 k1 k2=>?_)
 have k1:IsZip h1 z TI TO (rawInt T):=k1
 refine wpAny_setField_rec k1 (Nat.succ_lt_succ (Nat.zero_lt_succ _)) fun h2 k3 k4=>?_
 exact h h2 k3 ⟨k4.1.trans k2.1,fun c hc=>(k4.2 c hc).trans (k2.2 c hc)⟩
theorem zip_next {s:Shared} {ss:List Zs} {arr:List Value} {Q:Fin→Shared→Prop} (hz:IsZip s.heap z TI TO .none) (hTI:s.heap.get? TI=some (tupO (ss.map fun q=>Value.ref q.it))) (hTO:s.heap.get? TO=some (tupO arr)) (hne:ss≠[])
  (h:∀f h',ZStep prog w A z TI TO f→IsZip h' z TI TO .ellipsis→Heap.SameBut z s.heap h'→wpAny (model prog w) A (forIn ((ss.map fun q=>Value.ref q.it).zipIdx 0) (none,()) f) (fun r s1=>r.1=none∧IsZip s1.heap z TI TO .ellipsis∧∃xs,s1.heap.get? TO=some (tupO xs)∧xs.length≤sizeLine ∧
   ∀h2,IsZip h2 z TI TO (rawInt s1.heap.objs.size)→h2.get? s1.heap.objs.size=some (tupO xs)→h2.objs.size=s1.heap.objs.size+1→(∀c o,c≠z→s1.heap.get? c=some o→h2.get? c=some o)→Q (.done (.ret (.ref s1.heap.objs.size))) { s1 with heap:=h2 }) E { s with heap:=h' }) :
  wpAny (model prog w) A (Builtin.«zip.__next__» ⟨[.ref z],[]⟩) Q E s:=by
 have hemp:(ss.map fun q=>Value.ref q.it).toArray.isEmpty=false:=by
  cases ss with
  | nil=>exact absurd rfl hne
  | cons a b=>rfl
 refine wpAny_bind (wpAny_pure ?_)
 refine wpAny_bind (wpAny_field (i:=2) hz rfl rfl ?_)
 refine wpAny_bind (wpAny_field (i:=3) hz rfl rfl ?_)
 refine wpAny_bind (wpAny_seqItems hTI rfl ?_)
 dsimp only
 rw [hemp]
 simp only [Bool.false_eq_true,if_false]
 refine wpAny_bind (wpAny_bind (wpAny_field (i:=0) hz rfl rfl (wpAny_pure ?_)))
 rw [if_pos rfl]
 refine wpAny_bind (wpAny_rule ?_)
 refine wpAny_bind (wpAny_field (i:=4) hz rfl rfl ?_)
 refine wpAny_bind (wpAny_setField_rec hz (Nat.zero_lt_succ _) fun h1 k1 k2=>?_)
 refine wpAny_bind (wpAny_mono (h _ h1 ?_ k1 k2) (fun r s1 hr=>?_) fun _ _ e=>e)
 ·intro it k s2 R E2 hw
  refine wpAny_bind (wpAny_onRaise ?_)
  refine wpAny_bind (m:=Builtin.SmallTypes.nextOf (.ref it)) (wpAny_mono hw (fun x s3 hx=>?_) fun e s3 he=>?_)
  ·obtain ⟨arr,e1,e0,e2⟩:=hx
   refine wpAny_pure ?_
   refine wpAny_bind (wpAny_seqItems e1 rfl ?_)
   refine wpAny_bind (updTup e1 e0 fun h' q1 q2=>?_)
   exact wpAny_bind (wpAny_letGo (wpAny_pure (e2 h' q1 q2)))
  ·exact wpAny_setField_rec he.1 (Nat.zero_lt_succ _) fun h' q1 q2=>he.2 h' q1 q2
 ·obtain ⟨hn,z1,xs,t1,lx,q⟩:=hr
  rw [hn]
  refine wpAny_bind (wpAny_seqItems t1 rfl ?_)
  refine wpAny_bind (wpAny_newTuple ?_ lx)
  have z2:IsZip (s1.heap.push (tupO xs)) z TI TO .ellipsis:=Heap.get?_push_of_some _ z1
  refine wpAny_bind (hand_out (s:={ s1 with heap:=s1.heap.push (tupO xs) }) z2 fun h' q1 q2=>wpAny_pure ?_)
  have nz:s1.heap.objs.size≠z:=fun e=>absurd (Heap.lt_size z1) (by rw [←e];exact Nat.lt_irrefl _)
  refine q h' q1 (by rw [q2.2 _ nz];exact Heap.get?_push_size _ rfl) (q2.1.trans (Heap.size_push _ _)) fun c o hc e=>?_
  rw [q2.2 c hc]
  exact Heap.get?_push_of_some _ e
noncomputable def ZSt (z TI TO:Addr) (its:List Addr) (h:Heap):Prop:=IsZip h z TI TO .none∧h.get? TI=some (tupO (its.map Value.ref))∧∃arr,arr.length=its.length∧h.get? TO=some (tupO arr)
theorem map_it {ss:List Zs}:(ss.map fun q=>Value.ref q.it)=(ss.map Zs.it).map Value.ref:=by rw [List.map_map];rfl
theorem zip_item {s:Shared} {ss:List Zs} {xs:List Value} {Q:Option Value→Shared→Prop} (ap:ZA z TI TO ss) (hne:ss≠[]) (hs:ss.length≤sizeLine) (hz:ZSt z TI TO (ss.map Zs.it) s.heap) (h1:∀q∈ss,SrcAt s.heap q i) (hp:Paired (fun (q:Zs) (x:Value)=>q.xs[i]?=some x) ss xs)
  (hQ:∀h' T,s.heap.objs.size≤T→IsZip h' z TI TO (rawInt T)→h'.get? TI=some (tupO ((ss.map Zs.it).map Value.ref))→h'.get? TO=some (tupO xs)→(∀q∈ss,SrcAt h' q (i+1))→h'.get? T=some (tupO xs)→T ∉ z::TI::TO::ss.map Zs.it→(∀c o,c ∉ z::TI::TO::ss.map Zs.it→s.heap.get? c=some o→h'.get? c=some o)→Q (some (.ref T)) { s with heap:=h' }) :
  wpAny (model prog w) A (pyNext (.ref z)) Q E s:=by
 obtain ⟨z1,t1,arr,la,t2⟩:=hz
 have hT:s.TypeIs (.ref z) "zip":=⟨_,z1,rfl⟩
 have nd:=ap.nd
 have TIz:TI≠z:=fun e=>(List.nodup_cons.mp nd).1 (by simp [e])
 have TOz:TO≠z:=fun e=>(List.nodup_cons.mp nd).1 (by simp [e])
 have itz:∀q∈ss,q.it≠z:=fun q hq e=>(List.nodup_cons.mp nd).1 (by rw [←e];simp;exact .inr (.inr ⟨q,hq,rfl⟩))
 have az:∀q∈ss,q.a≠z:=fun q hq e=>ap.ap q hq (by rw [e];simp)
 have TIn:=(List.nodup_cons.mp (List.nodup_cons.mp nd).2).1
 refine wpAny_bind (wpAny_attempt (wpAny_callSpecial?_slot hT F.slot_zip_next (wpAny_call_entry F.slot_zip_next hT F.entry_zip_next ?_ (F.args_zip_next_1 _))))
 refine zip_next (arr:=arr) z1 (by rw [map_it];exact t1) t2 hne fun f h1' hf k1 k2=>?_
 have src:∀q∈ss,SrcAt h1' q i:=fun q hq=>(h1 q hq).keep (fun o e=>by rw [k2.2 _ (itz q hq)];exact e) fun o e=>by rw [k2.2 _ (az q hq)];exact e
 have lp:=hp.length
 refine zip_all (dn:=[]) (dx:=[]) (s:={ s with heap:=h1' }) hf ap hs hp rfl (by rw [la,List.length_map]) k1 (by rw [k2.2 _ TOz];exact t2) (fun q hq=>nomatch hq) src fun h2 j1 j2 j3 j4 j5=>?_
 refine ⟨rfl,j1,xs,j2,by rw [←lp];exact hs,fun h3 m1 m2 m3 m4=>⟨_,rfl,wpAny_pure ?_⟩⟩
 have big:∀c o,s.heap.get? c=some o→c≠h2.objs.size:=fun c o e z=>by
  have:=Heap.lt_size e
  rw [z,j4,k2.1] at this
  exact absurd this (Nat.lt_irrefl _)
 have all:∀c o,c ∉ z::TI::TO::ss.map Zs.it→s.heap.get? c=some o→h3.get? c=some o:=fun c o hc e=>by
  refine m4 c o (fun z=>hc (by rw [z];simp)) (j5 c o (fun z=>hc ?_) ?_)
  ·rcases List.mem_cons.mp z with z|z
   ·rw [z];simp
   ·exact List.mem_cons_of_mem _ (List.mem_cons_of_mem _ (List.mem_cons_of_mem _ z))
  ·show h1'.get? c=some o
   rw [k2.2 c (fun z=>hc (by rw [z];simp))]
   exact e
 refine hQ h3 _ (by rw [j4,k2.1];exact Nat.le_refl _) m1 ?_ (m4 _ _ TOz j2) (fun q hq=>(j3 q hq).keep (fun o e=>m4 _ o (itz q hq) e) fun o e=>m4 _ o (az q hq) e) m2 (fun hm=>?_) all
 ·refine m4 _ _ TIz (j5 _ _ (fun z=>TIn ?_) ?_)
  ·exact z
  ·show h1'.get? TI=_
   rw [k2.2 _ TIz]
   exact t1
 ·simp only [List.mem_cons] at hm
  rcases hm with e|e|e|e
  ·exact big z _ z1 e.symm
  ·exact big TI _ t1 e.symm
  ·exact big TO _ t2 e.symm
  ·obtain ⟨q,hq,e⟩:=List.mem_map.mp e
   obtain ⟨o,_,eo,_⟩:=(h1 q hq).obj
   exact big _ _ eo e
theorem zip_stop {s:Shared} {ss:List Zs} {Q:Option Value→Shared→Prop} (hh:A.handled=none) (ap:ZA z TI TO ss) (hs:ss.length≤sizeLine) (hz:ZSt z TI TO (ss.map Zs.it) s.heap) (h1:∀q∈ss,SrcAt s.heap q i) (hn:∃q∈ss,q.xs[i]?=none)
  (hQ:∀h',(∀c o,c ∉ z::TI::TO::ss.map Zs.it→s.heap.get? c=some o→h'.get? c=some o)→Q none { s with heap:=h' }):wpAny (model prog w) A (pyNext (.ref z)) Q E s:=by
 obtain ⟨z1,t1,arr,la,t2⟩:=hz
 have hT:s.TypeIs (.ref z) "zip":=⟨_,z1,rfl⟩
 have nd:=ap.nd
 have TOz:TO≠z:=fun e=>(List.nodup_cons.mp nd).1 (by simp [e])
 have itz:∀q∈ss,q.it≠z:=fun q hq e=>(List.nodup_cons.mp nd).1 (by rw [←e];simp;exact .inr (.inr ⟨q,hq,rfl⟩))
 have az:∀q∈ss,q.a≠z:=fun q hq e=>ap.ap q hq (by rw [e];simp)
 have hne:ss≠[]:=fun e=>by obtain ⟨q,hq,_⟩:=hn;rw [e] at hq;cases hq
 refine wpAny_bind (wpAny_attempt (wpAny_callSpecial?_slot hT F.slot_zip_next (wpAny_call_entry F.slot_zip_next hT F.entry_zip_next ?_ (F.args_zip_next_1 _))))
 refine zip_next (arr:=arr) z1 (by rw [map_it];exact t1) t2 hne fun f h1' hf k1 k2=>?_
 have src:∀q∈ss,SrcAt h1' q i:=fun q hq=>(h1 q hq).keep (fun o e=>by rw [k2.2 _ (itz q hq)];exact e) fun o e=>by rw [k2.2 _ (az q hq)];exact e
 refine zip_ends (A:=A.in1) (dn:=[]) (dx:=[]) (s:={ s with heap:=h1' }) hf hh ap hs hn rfl (by rw [la,List.length_map]) k1 (by rw [k2.2 _ TOz];exact t2) src fun h2 e j1 j2=>?_
 refine wpAny_bind (wpAny_isInstance (T:="StopIteration") (b:=true) j2 isSubtype_stop (wpAny_pure (hQ h2 fun c o hc e=>?_)))
 refine j1 c o (fun z=>hc ?_) ?_
 ·rcases List.mem_cons.mp z with z|z
  ·rw [z];simp
  ·rcases List.mem_cons.mp z with z|z
   ·rw [z];simp
   ·exact List.mem_cons_of_mem _ (List.mem_cons_of_mem _ (List.mem_cons_of_mem _ z))
 ·show h1'.get? c=some o
  rw [k2.2 c (fun z=>hc (by rw [z];simp))]
  exact e
end
noncomputable def SqB (K:PySem.W.Frag) (H:Hp) (c:Bool × Addr) (xs:List V):Prop:=if c.1=true then SqL K H c.2 xs else SqT K H c.2 xs
noncomputable def Itn (K:PySem.W.Frag) (cs:List (Bool × Addr)):L2.It :=
 ⟨fun i H=>∃xss ys,Paired (SqB K H) cs xss∧Paired (fun (xs:List V) (y:V)=>xs[i]?=some y) xss ys,
  fun i H v H'=>∃T,v=.ref T∧H T=none∧∀xss ys,Paired (SqB K H) cs xss→Paired (fun (xs:List V) (y:V)=>xs[i]?=some y) xss ys→H'=upd H T (.tup ys),
  fun i H=>∃xss,Paired (SqB K H) cs xss∧∃xs∈xss,xs.length=i⟩
theorem prd_mem {α β:Type} {F:α→β→Prop}:∀ {l:List α} {r:List β} {a:α},Paired F l r→a∈l→∃b∈r,F a b
 | _,_,_,.nil,h=>nomatch h
 | _,_,_,.cons f t,h=>by
  rcases List.mem_cons.mp h with rfl|h
  ·exact ⟨_,by simp,f⟩
  ·obtain ⟨b,h1,h2⟩:=prd_mem t h
   exact ⟨b,by simp [h1],h2⟩
theorem mk_src {X:Cx} {pins:List (Addr × Obj)} {σ:L2.St} {H:Hp} {s:Shared} {i:Nat} (I:L2.Inv X pins σ H s):∀ {its:List Addr} {cs:List (Bool × Addr)} {xss:List (List V)},Paired (fun it c=>ItB s.heap it c i) its cs→Paired (SqB X.K H) cs xss →
  ∃ss:List Zs,ss.map Zs.it=its∧ss.map Zs.c=cs∧(∀q∈ss,SrcAt s.heap q i)∧Paired (fun (q:Zs) (xs:List V)=>Vals xs q.xs.toList) ss xss
 | _,_,_,.nil,.nil=>⟨[],rfl,rfl,fun q hq=>(nomatch hq),.nil⟩
 | _,_,_,.cons (a:=it) (b:=c) h1 t1,.cons (b:=xs) h2 t2=>by
  obtain ⟨ss,e1,e2,e3,e4⟩:=mk_src I t1 t2
  obtain ⟨b,a⟩:=c
  cases b with
  | true =>
   obtain ⟨its1,rv1,p1,hz1⟩:=I.list (show SqL X.K H a xs from h2)
   refine ⟨⟨it,(true,a),its1.toArray⟩::ss,by rw [List.map_cons,e1],by rw [List.map_cons,e2],fun q hq=>?_,.cons (by simpa using rv1) e4⟩
   rcases List.mem_cons.mp hq with rfl|hq
   ·exact ⟨h1,p1.isList⟩
   ·exact e3 q hq
  | false =>
   obtain ⟨its1,rv1,p1,hz1⟩:=I.tuple (show SqT X.K H a xs from h2)
   refine ⟨⟨it,(false,a),its1.toArray⟩::ss,by rw [List.map_cons,e1],by rw [List.map_cons,e2],fun q hq=>?_,.cons (by simpa using rv1) e4⟩
   rcases List.mem_cons.mp hq with rfl|hq
   ·exact ⟨h1,p1⟩
   ·exact e3 q hq
theorem src_vals {i:Nat}:∀ {ss:List Zs} {xss:List (List V)} {ys:List V},Paired (fun (q:Zs) (xs:List V)=>Vals xs q.xs.toList) ss xss→Paired (fun (xs:List V) (y:V)=>xs[i]?=some y) xss ys→∃us,Paired (fun (q:Zs) (x:Value)=>q.xs[i]?=some x) ss us∧Vals ys us
 | _,_,_,.nil,.nil=>⟨[],.nil,.nil⟩
 | _,_,_,.cons h1 t1,.cons h2 t2=>by
  obtain ⟨us,e1,e2⟩:=src_vals t1 t2
  obtain ⟨u,e3,e4⟩:=h1.get h2
  exact ⟨u::us,.cons (by simpa using e3) e1,.cons e4 e2⟩
theorem SqB.inj {X:Cx} {pins:List (Addr × Obj)} {σ:L2.St} {H:Hp} {s:Shared} (I:L2.Inv X pins σ H s):∀ {cs:List (Bool × Addr)} {xss yss:List (List V)},Paired (SqB X.K H) cs xss→Paired (SqB X.K H) cs yss→xss=yss
 | _,_,_,.nil,.nil=>rfl
 | _,_,_,.cons (a:=c) h1 t1,.cons h2 t2=>by
  rw [SqB.inj I t1 t2]
  obtain ⟨b,a⟩:=c
  cases b with
  | true=>rw [I.list_inj (show SqL X.K H a _ from h1) h2]
  | false=>rw [I.tuple_inj (show SqT X.K H a _ from h1) h2]
theorem at_inj {i:Nat}:∀ {xss:List (List V)} {ys zs:List V},Paired (fun (xs:List V) (y:V)=>xs[i]?=some y) xss ys→Paired (fun (xs:List V) (y:V)=>xs[i]?=some y) xss zs→ys=zs
 | _,_,_,.nil,.nil=>rfl
 | _,_,_,.cons h1 t1,.cons h2 t2=>by rw [at_inj t1 t2];rw [h1] at h2;cases h2;rfl
theorem turn_zipN {P:Program} {w:World} {K:PySem.W.Frag} {elts:List Expr} {kt:Nat} {pt:Pos} {z TI TO:Addr} {its:List Addr} {cs:List (Bool × Addr)} (nd:(z::TI::TO::its).Nodup) (ap:∀c∈cs,c.2 ∉ z::TI::TO::its) (hne:its≠[]) (hs:its.length≤100) :
  Turn P w K (.Tuple elts kt pt) (Itn K cs) (z::TI::TO::its) z (fun i h=>ZSt z TI TO its h∧Paired (fun it c=>ItB h it c i) its cs) where
 mem:=by simp
 obj:=fun i h st c hc=>by
  obtain ⟨⟨h1,h2,arr,la,h3⟩,h4⟩:=st
  simp only [List.mem_cons] at hc
  rcases hc with rfl|rfl|rfl|hc
  ·exact ⟨_,h1,fun v z=>nomatch z⟩
  ·exact ⟨_,h2,fun v z=>nomatch z⟩
  ·exact ⟨_,h3,fun v z=>nomatch z⟩
  ·obtain ⟨d,_,e⟩:=prd_mem h4 hc
   obtain ⟨o,vs,e1,e2⟩:=e.obj
   exact ⟨o,e1,fun v z=>by rw [e2] at z;cases z⟩
 keep:=fun i h h' st k=>by
  obtain ⟨⟨h1,h2,arr,la,h3⟩,h4⟩:=st
  refine ⟨⟨k z (by simp) _ h1,k TI (by simp) _ h2,arr,la,k TO (by simp) _ h3⟩,?_⟩
  have:∀ {l:List Addr} {r:List (Bool × Addr)},(∀x∈l,x∈its)→Paired (fun it c=>ItB h it c i) l r→Paired (fun it c=>ItB h' it c i) l r:=by
   intro l r hl hp
   induction hp with
   | nil=>exact .nil
   | cons f t ih=>exact .cons (f.keep fun o e=>k _ (by simp [hl _ List.mem_cons_self]) o e) (ih fun x hx=>hl x (List.mem_cons_of_mem _ hx))
  exact this (fun x hx=>hx) h4
 item:=by
  intro X hP hw hK hc i pins s σ H E I hf st hg
  subst hP hw hK
  obtain ⟨xss,ys,g1,g2⟩:=hg
  obtain ⟨hz,h4⟩:=st
  obtain ⟨ss,e1,e2,e3,e4⟩:=mk_src I h4 g1
  obtain ⟨us,f1,f2⟩:=src_vals e4 g2
  have za:ZA z TI TO ss:=⟨by rw [e1];exact nd,fun q hq=>by
   rw [e1]
   exact ap q.c (by rw [←e2];exact List.mem_map.mpr ⟨q,hq,rfl⟩)⟩
  have ssl:ss.length=its.length:=by rw [←e1,List.length_map]
  have line:(100:Nat)≤sizeLine:=by decide
  refine zip_item (i:=i) (ss:=ss) (xs:=us) za (fun e=>hne (by rw [←e1,e];rfl)) (by rw [ssl];exact Nat.le_trans hs line) (by rw [e1];exact hz) e3 f1 fun h' T lT z1 t1 t2 s1 tT nT kk=>?_
  rw [e1] at t1 nT kk
  refine ⟨_,rfl,wpAny_letOwnedTupleGo_zip (s:={ s with heap:=h' }) z1 fun h'' z2 sb=>?_⟩
  have nz:∀ {c:Addr},c∈TI::TO::its→c≠z:=fun hc e=>(List.nodup_cons.mp nd).1 (by rw [←e];exact hc)
  have Tz:T≠z:=fun e=>nT (by rw [e];simp)
  have yl:ys.length≤100:=by rw [←g2.length,←g1.length,←h4.length];exact hs
  have I2:L2.Inv X pins σ (upd H T (.tup ys)) { s with heap:=h'' }:=turnLay (t':=s.toks) (its:=us) (wr:=z::TI::TO::its) I (fun b o hb e=>by
   rw [sb.2 b (fun q=>hb (by rw [q];simp))]
   exact kk b o hb e) (fun b hb=>hf b hb) lT f2 (Nat.le_trans yl line) ⟨_,by rw [sb.2 T Tz];exact tT,rfl,0,rfl⟩
  refine ⟨.ref T,_,I2,rfl,⟨T,rfl,I.hok.fresh lT,fun xss' ys' k1 k2=>?_⟩,⟨⟨z2,by rw [sb.2 TI (nz (by simp))];exact t1,us,?_,by rw [sb.2 TO (nz (by simp))];exact t2⟩,?_⟩,fun b hb=>?_⟩
  ·have:=SqB.inj I k1 g1
   subst this
   rw [at_inj k2 g2]
  ·rw [←f1.length];exact ssl
  ·have go:∀ {l:List Zs},(∀q∈l,SrcAt h' q (i+1))→(∀q∈l,q.it≠z)→Paired (fun it c=>ItB h'' it c (i+1)) (l.map Zs.it) (l.map Zs.c):=by
    intro l
    induction l with
    | nil=>intro _ _;exact .nil
    | cons q l ih =>
     intro k1 k2
     exact .cons ((k1 q List.mem_cons_self).1.keep fun o e=>by rw [sb.2 _ (k2 q List.mem_cons_self)];exact e) (ih (fun p hp=>k1 p (List.mem_cons_of_mem _ hp)) fun p hp=>k2 p (List.mem_cons_of_mem _ hp))
   have:=go s1 fun q hq=>nz (List.mem_cons_of_mem _ (List.mem_cons_of_mem _ (by rw [←e1];exact List.mem_map.mpr ⟨q,hq,rfl⟩)))
   rw [e1,e2] at this
   exact this
  ·have hlt:b<s.heap.objs.size:=by
    obtain ⟨h1,h2,arr,la,h3⟩:=hz
    simp only [List.mem_cons] at hb
    rcases hb with rfl|rfl|rfl|hb
    ·exact Heap.lt_size h1
    ·exact Heap.lt_size h2
    ·exact Heap.lt_size h3
    ·obtain ⟨d,_,e⟩:=prd_mem h4 hb
     obtain ⟨o,_,e,_⟩:=e.obj
     exact Heap.lt_size e
   rw [upd_ne (Nat.ne_of_lt (Nat.lt_of_lt_of_le hlt lT))]
   exact (hf b hb).1
 done:=by
  intro X hP hw hK hc i pins s σ H E I hf st hg
  subst hP hw hK
  obtain ⟨xss,g1,xs,gx,gl⟩:=hg
  obtain ⟨hz,h4⟩:=st
  obtain ⟨ss,e1,e2,e3,e4⟩:=mk_src I h4 g1
  have za:ZA z TI TO ss:=⟨by rw [e1];exact nd,fun q hq=>by
   rw [e1]
   exact ap q.c (by rw [←e2];exact List.mem_map.mpr ⟨q,hq,rfl⟩)⟩
  have ssl:ss.length=its.length:=by rw [←e1,List.length_map]
  have line:(100:Nat)≤sizeLine:=by decide
  have hn:∃q∈ss,q.xs[i]?=none:=by
   have:∀ {l:List Zs} {r:List (List V)},Paired (fun (q:Zs) (xs:List V)=>Vals xs q.xs.toList) l r→xs∈r→∃q∈l,q.xs[i]?=none:=by
    intro l r hp hx
    induction hp with
    | nil=>cases hx
    | @cons q ys l r f t ih =>
     rcases List.mem_cons.mp hx with rfl|hx
     ·refine ⟨q,List.mem_cons_self,?_⟩
      have:=f.length
      exact Array.getElem?_eq_none (by rw [←gl,this];simp)
     ·obtain ⟨p,h1,h2⟩:=ih hx
      exact ⟨p,List.mem_cons_of_mem _ h1,h2⟩
   exact this e4 gx
  refine zip_stop (i:=i) (ss:=ss) (I.ok.hd hc) za (by rw [ssl];exact Nat.le_trans hs line) (by rw [e1];exact hz) e3 hn fun h' kk=>?_
  rw [e1] at kk
  exact ⟨rfl,turnedL (t':=s.toks) I kk fun b hb=>hf b hb⟩
 self:=fun _ _ _ _ _ st h=>wpAny_pyIter_zip st.1.1 h
section
variable {prog:Program} {w:World} {A:Around} {E:Value→Shared→Prop}
theorem iters {R:Array Value→Shared→Prop}:∀ {cs:List (Bool × Addr)} {acc:Array Value} {s:Shared},(∀c∈cs,∃xs,SeqB s.heap c xs) →
  (∀h',h'.objs.size=s.heap.objs.size+cs.length→(∀b o,s.heap.get? b=some o→h'.get? b=some o)→Paired (fun it c=>ItB h' it c 0) (List.range' s.heap.objs.size cs.length) cs→R (acc++((List.range' s.heap.objs.size cs.length).map Value.ref).toArray) { s with heap:=h' }) →
  wpAny (model prog w) A (forIn (cs.map fun c=>Value.ref c.2) acc fun x r=>do
   let v ←holding r.toList (pyIter x)
   pure (ForInStep.yield (r.push v))) R E s:=by
 intro cs
 induction cs with
 | nil =>
  intro acc s _ hR
  exact wpAny_pure (by simpa using hR s.heap rfl (fun _ _ e=>e) .nil)
 | cons c cs ih =>
  intro acc s hs hR
  rw [List.map_cons,List.forIn_cons]
  obtain ⟨xs,hx⟩:=hs c List.mem_cons_self
  refine wpAny_bind (wpAny_bind (wpAny_holding (src_new hx fun o ho=>wpAny_pure ?_)))
  refine ih (acc:=acc.push (.ref s.heap.objs.size)) (s:={ s with heap:=s.heap.push o }) (fun d hd=>?_) fun h' k1 k2 k3=>?_
  ·obtain ⟨ys,hy⟩:=hs d (List.mem_cons_of_mem _ hd)
   exact ⟨ys,hy.keep fun o e=>Heap.get?_push_of_some _ e⟩
  ·have sz:(s.heap.push o).objs.size=s.heap.objs.size+1:=Heap.size_push _ _
   have k1:h'.objs.size=(s.heap.push o).objs.size+cs.length:=k1
   have k3:Paired (fun it c=>ItB h' it c 0) (List.range' (s.heap.push o).objs.size cs.length) cs:=k3
   rw [sz] at k1 k3
   have:=hR h' (by rw [k1,List.length_cons];omega) (fun b u e=>k2 b u (Heap.get?_push_of_some _ e)) (by
    rw [List.length_cons,List.range'_succ]
    exact .cons (ho.keep fun u e=>k2 _ u e) k3)
   rw [List.length_cons,List.range'_succ] at this
   show R (acc.push (Value.ref s.heap.objs.size)++((List.range' (s.heap.push o).objs.size cs.length).map Value.ref).toArray) _
   rw [sz]
   simpa using this
theorem meets_zipN (cs:List (Bool × Addr)) (hl:cs.length≤100):Meets (Builtin.«zip.__new__» ⟨.type "zip"::cs.map (fun c=>Value.ref c.2),[]⟩) fun _ R s=>(∀c∈cs,∃xs,SeqB s.heap c xs) ∧
  ∀h',ZSt (s.heap.objs.size+cs.length+2) (s.heap.objs.size+cs.length) (s.heap.objs.size+cs.length+1) (List.range' s.heap.objs.size cs.length) h'→Paired (fun it c=>ItB h' it c 0) (List.range' s.heap.objs.size cs.length) cs→(∀b o,s.heap.get? b=some o→h'.get? b=some o)→R (.ok (.ret (.ref (s.heap.objs.size+cs.length+2)))) { s with heap:=h' }:=by
 intro prog w A R s ⟨h1,h⟩
 have line:(100:Nat)≤sizeLine:=by decide
 refine wpAny_bind ?_
 refine wpAny_bind (wpAny_pure ?_)
 rw [sub_zip]
 refine wpAny_bind (wpAny_pure ?_)
 refine wpAny_pure ?_
 refine wpAny_bind (m:=Builtin.SmallTypes.iterAll (cs.map fun c=>Value.ref c.2)) ?_
 refine wpAny_bind (iters h1 fun h' k1 k2 k3=>wpAny_pure ?_)
 have e0:(#[]++((List.range' s.heap.objs.size cs.length).map Value.ref).toArray:Array Value).toList=(List.range' s.heap.objs.size cs.length).map Value.ref:=by simp
 rw [e0]
 have ln:((List.range' s.heap.objs.size cs.length).map Value.ref).length=cs.length:=by simp
 refine wpAny_bind (wpAny_newTuple ?_ (by rw [ln];exact Nat.le_trans hl line))
 refine wpAny_bind (wpAny_newTuple ?_ (by rw [List.length_map,ln];exact Nat.le_trans hl line))
 refine wpAny_bind (wpAny_newObj_type (T:="zip") (data:=.fields #[.none,.bool false,.bool false,.ref h'.objs.size,.ref (h'.push (tupO ((List.range' s.heap.objs.size cs.length).map Value.ref))).objs.size]) ?_)
 have s1:(h'.push (tupO ((List.range' s.heap.objs.size cs.length).map Value.ref))).objs.size=s.heap.objs.size+cs.length+1:=(Heap.size_push _ _).trans (by rw [k1])
 have s2:((h'.push (tupO ((List.range' s.heap.objs.size cs.length).map Value.ref))).push (tupO (((List.range' s.heap.objs.size cs.length).map Value.ref).map fun _=>Value.none))).objs.size=s.heap.objs.size+cs.length+2:=(Heap.size_push _ _).trans (by rw [s1])
 refine wpAny_pure ?_
 show R (.ok (.ret (.ref ((h'.push (tupO ((List.range' s.heap.objs.size cs.length).map Value.ref))).push (tupO (((List.range' s.heap.objs.size cs.length).map Value.ref).map fun _=>Value.none))).objs.size))) _
 rw [s2]
 refine h _ ⟨?_,?_,((List.range' s.heap.objs.size cs.length).map Value.ref).map fun _=>Value.none,by simp,?_⟩ ?_ fun b o e=>Heap.get?_push_of_some _ (Heap.get?_push_of_some _ (Heap.get?_push_of_some _ (k2 b o e)))
 ·rw [←s2]
  have g:=Heap.get?_push_size ((h'.push (tupO ((List.range' s.heap.objs.size cs.length).map Value.ref))).push (tupO (((List.range' s.heap.objs.size cs.length).map Value.ref).map fun _=>Value.none))) (o:={ cls:=.type "zip",data:=.fields #[.none,.bool false,.bool false,.ref h'.objs.size,.ref (h'.push (tupO ((List.range' s.heap.objs.size cs.length).map Value.ref))).objs.size] }) rfl
  rw [k1,s1] at g
  rw [k1,s1]
  exact g
 ·rw [←k1]
  exact Heap.get?_push_of_some _ (Heap.get?_push_of_some _ (Heap.get?_push_size _ rfl))
 ·rw [←s1]
  exact Heap.get?_push_of_some _ (Heap.get?_push_size _ rfl)
 ·have:∀ {l:List Addr} {r:List (Bool × Addr)},Paired (fun it c=>ItB h' it c 0) l r→∀ {g:Heap},(∀b o,h'.get? b=some o→g.get? b=some o)→Paired (fun it c=>ItB g it c 0) l r:=by
   intro l r hp g hg
   induction hp with
   | nil=>exact .nil
   | cons f t ih=>exact .cons (f.keep fun o e=>hg _ o e) ih
  exact this k3 fun b o e=>Heap.get?_push_of_some _ (Heap.get?_push_of_some _ (Heap.get?_push_of_some _ e))
end
section
variable {prog:Program} {w:World} {A:Around} {E:Value→Shared→Prop} {s:Shared}
noncomputable def ZNew (cs:List (Bool × Addr)) (Q:Value→Shared→Prop) (s:Shared):Prop:=∀h',ZSt (s.heap.objs.size+cs.length+2) (s.heap.objs.size+cs.length) (s.heap.objs.size+cs.length+1) (List.range' s.heap.objs.size cs.length) h'→Paired (fun it c=>ItB h' it c 0) (List.range' s.heap.objs.size cs.length) cs→(∀b o,s.heap.get? b=some o→h'.get? b=some o) →
 Q (.ref (s.heap.objs.size+cs.length+2)) { s with heap:=h' }
theorem call_zip2 {c1 c2:Bool × Addr} {Q:Value→Shared→Prop} (h1:∀c∈[c1,c2],∃xs,SeqB s.heap c xs) (h:ZNew [c1,c2] Q s):wpAny (model prog w) A (call (.type "zip") [.ref c1.2,.ref c2.2]) Q E s:=by
 refine callType_new F.called_zip rfl (F.typeCall_zip_2 _ _) (F.newCall_zip_2 _ _) (fun obj=>?_) F.entry_zip_new (meets_zipN [c1,c2] (Nat.le_of_ble_eq_true rfl)) ⟨h1,fun h' k1 k2 k3=>⟨⟨_,k1.1,rfl⟩,h h' k1 k2 k3⟩⟩
 exact F.args_object_init_3 _ _ _
end
section
variable {X:Cx} {pins:List (Addr × Obj)} {σ:L2.St} {H:Hp} {s:Shared}
theorem SqB.seq {c:Bool × Addr} {xs:List V} (I:L2.Inv X pins σ H s) (h:SqB X.K H c xs):∃ys,SeqB s.heap c ys:=by
 obtain ⟨b,a⟩:=c
 cases b with
 | true=>obtain ⟨its,_,p,_⟩:=I.list (show SqL X.K H a xs from h);exact ⟨_,p.isList⟩
 | false=>obtain ⟨its,_,p,_⟩:=I.tuple (show SqT X.K H a xs from h);exact ⟨_,p⟩
theorem SeqB.lt {h:Heap} {c:Bool × Addr} {ys:Array Value} (z:SeqB h c ys):c.2<h.objs.size:=by
 obtain ⟨b,a⟩:=c
 cases b with
 | true=>obtain ⟨_,e,_⟩:=(show h.IsList a ys from z);exact Heap.lt_size e
 | false=>obtain ⟨_,e,_⟩:=(show h.IsTuple a ys from z);exact Heap.lt_size e
theorem new_big {N n b:Nat} (h:b∈(N+n+2)::(N+n)::(N+n+1)::List.range' N n):N≤b:=by
 simp only [List.mem_cons,List.mem_range'_1] at h
 omega
theorem new_nd (N n:Nat):((N+n+2)::(N+n)::(N+n+1)::List.range' N n).Nodup:=by
 refine List.nodup_cons.mpr ⟨fun h=>?_,List.nodup_cons.mpr ⟨fun h=>?_,List.nodup_cons.mpr ⟨fun h=>?_,List.nodup_range'⟩⟩⟩ <;> (simp only [List.mem_cons,List.mem_range'_1] at h;omega)
theorem zip_pie {elts:List Expr} {kt:Nat} {pt:Pos} {cs:List (Bool × Addr)} {R:L2.It→Hp→Prop} (I:L2.Inv X pins σ H s) (hs:∀c∈cs,∃xs,SqB X.K H c xs) (hn:cs≠[]) (hl:cs.length≤100) (q:R (Itn X.K cs) H) :
  ZNew cs (fun v s1=>wpAny (model X.prog X.w) X.A (pyIter v) (PIE X pins σ (.Tuple elts kt pt) R) X.xe s1) s:=by
 intro h' k1 k2 kk
 refine wpAny_pyIter_zip k1.1 ?_
 have nd:=new_nd s.heap.objs.size cs.length
 have big:∀b,b∈(s.heap.objs.size+cs.length+2)::(s.heap.objs.size+cs.length)::(s.heap.objs.size+cs.length+1)::List.range' s.heap.objs.size cs.length→s.heap.objs.size≤b:=fun b hb=>new_big hb
 refine ⟨_,_,_,_,H,rfl,I.kept (t':=s.toks) kk,turn_zipN nd (fun c hc hm=>?_) (fun e=>hn ?_) (by simpa using hl),⟨k1,k2⟩,fun b hb=>I.fpOk (big b hb) (I.hok.fresh (big b hb)),q⟩
 ·obtain ⟨xs,hx⟩:=hs c hc
  obtain ⟨ys,hy⟩:=hx.seq I
  exact absurd (Nat.lt_of_lt_of_le hy.lt (big _ hm)) (Nat.lt_irrefl _)
 ·have:=congrArg List.length e
  simp at this
  exact this
end
section
variable {X:Cx}
noncomputable def iZip2 (K:PySem.W.Frag) (ta:TA):TI:=fun σ H R=>ta σ H fun vs H1=>∃c d,vs=[.ref c.2,.ref d.2]∧(∀e∈[c,d],∃xs,SqB K H1 e xs)∧R (Itn K [c,d]) H1
theorem pi_zip {elts:List Expr} {kt:Nat} {pt:Pos} {a b:Expr} {ta:TA} {p pos:Pos} (hg:Gl X "zip") (hm:X.mg "zip"=none) (ha:PA X [a,b] ta) (hs:starEach [a,b] X.env=[(false,eval a X.env),(false,eval b X.env)]) (hs2:starEach [b] X.env=[(false,eval b X.env)]) :
  PI X (.Tuple elts kt pt) (.Call (.Name "zip" p) [a,b] [] pos) (iZip2 X.K ta):=by
 intro pins s σ H R I h
 refine Call_ (ld_blt I hg hm boot_zip (PyProof.Rows.callWith_type1 (thn (ha pos pins s σ H _ I h) fun us s1 ⟨vs,H1,I1,r1,q1⟩=>?_) (by rw [hs,hs2]) (by rw [hs2];rfl)))
 obtain ⟨c,d,e,hq,q⟩:=q1
 subst e
 obtain ⟨u,v,rfl,ru,rv⟩:=vals2 r1
 cases ru
 cases rv
 exact call_zip2 (fun f hf=>let ⟨xs,hx⟩:=hq f hf;hx.seq I1) (zip_pie I1 hq (by simp) (by simp) q)
end
noncomputable def LB (K:PySem.W.Frag) (c:Bool × Addr) (xs:List PV) (chk:AH→Prop) (m0:List Addr) (H0:Hp):Prop:=∀m H st,Ext K m0 H0 m H→RH K m H st→chk st→∃ys,SqB K H c ys∧Rs K m H xs ys
theorem lb_of {K:PySem.W.Frag} {m:List Addr} {H:Hp} {st:AH} {v:PV} {x:V} {xs:List PV} (rh:RH K m H st) (r:R K m H v x) (e:seqAt st v=some xs):∃c:Bool × Addr,x=.ref c.2∧LB K c xs (seqChk st v) m H∧∃ys,SqB K H c ys:=by
 cases v with
 | tup ys =>
  cases e
  rw [R_tup] at r
  obtain ⟨a,zs,rfl,g,r3⟩:=r
  exact ⟨(false,a),rfl,fun m' H' st' x r q=>⟨zs,x.tup _ _ g,r3.mono x⟩,zs,g⟩
 | rdl ys =>
  cases e
  rw [R_rdl] at r
  obtain ⟨a,zs,rfl,g,r3⟩:=r
  exact ⟨(true,a),rfl,fun m' H' st' x r q=>⟨zs,(x.rdf _ _ g).sq,r3.mono x⟩,zs,g.sq⟩
 | ref n =>
  unfold seqAt listAt at e
  simp only at e
  split at e
  ·cases e
   rename_i q
   obtain ⟨a,zs,rfl,ea,g,r3⟩:=rh.lst q r
   refine ⟨(true,a),rfl,fun m' H' st' x r' q'=>?_,zs,SqL.of g⟩
   have q':st'[n]?=st[n]?:=q'
   rw [q] at q'
   obtain ⟨ys,h1,h2⟩:=r'.at_ n _ a q' (pre_get x.pre ea)
   exact ⟨ys,SqL.of h1,h2⟩
  ·cases e
 | _=>cases e
theorem walk_zip {K:PySem.W.Frag} {m0:List Addr} {H0:Hp} {a b:Bool × Addr} {xs ys:List PV} {c1 c2:AH→Prop} (h1:LB K a xs c1 m0 H0) (h2:LB K b ys c2 m0 H0):Walk K (Itn K [a,b]) (zipL xs ys) (fun st=>c1 st∧c2 st) m0 H0:=by
 refine ⟨fun m H st x r q=>?_,fun i v m H st x r q ev=>?_⟩
 ·obtain ⟨as,g1,r1⟩:=h1 m H st x r q.1
  obtain ⟨bs,g2,r2⟩:=h2 m H st x r q.2
  refine ⟨[as,bs],.cons g1 (.cons g2 .nil),?_⟩
  rw [zipL_len,r1.len,r2.len]
  rcases Nat.le_total as.length bs.length with h|h
  ·exact ⟨as,by simp,(Nat.min_eq_left h).symm⟩
  ·exact ⟨bs,by simp,(Nat.min_eq_right h).symm⟩
 ·obtain ⟨as,g1,r1⟩:=h1 m H st x r q.1
  obtain ⟨bs,g2,r2⟩:=h2 m H st x r q.2
  obtain ⟨u,v',e1,e2,rfl⟩:=zipL_get ev
  obtain ⟨y1,f1,q1⟩:=r1.get e1
  obtain ⟨y2,f2,q2⟩:=r2.get e2
  refine ⟨⟨[as,bs],[y1,y2],.cons g1 (.cons g2 .nil),.cons f1 (.cons f2 .nil)⟩,?_⟩
  rintro z H' ⟨T,rfl,hT,hh⟩
  have:=hh _ _ (.cons g1 (.cons g2 .nil)) (.cons f1 (.cons f2 .nil))
  subst this
  refine ⟨Ext.newT r hT,r.newT hT,R_tup.mpr ⟨T,[y1,y2],rfl,SqT.of upd_same,?_⟩⟩
  rw [Rs_cons',Rs_cons',Rs_nil]
  exact ⟨q1.mono (Ext.newT r hT),q2.mono (Ext.newT r hT),rfl⟩
end FW
set_option Elab.async false
set_option linter.all false
set_option maxRecDepth 100000
set_option maxHeartbeats 1000000
namespace FW
open PySem PySem.Spec PyProof.Rows L2 HX
section
variable {X:Cx} {tg:Expr}
end
section
variable {X:Cx}
end
end FW
set_option Elab.async false
set_option linter.all false
set_option maxRecDepth 100000
set_option maxHeartbeats 1000000
namespace FW
open PySem PySem.Spec PyProof.Rows L2 HX
noncomputable def clOf (env:Env):List (Str × NameKind)→List (Str × Addr)→List (Str × Addr)
 | [],cs=>cs
 | (x,k)::r,cs=>clOf env r (if k == .free then (x,(env.cells.lookup x).getD 0)::cs else cs)
theorem closure_ok {scope:Scope} {env:Env} (h:∀y∈scope.names,y.2=.free→∃c,env.cells.lookup y.1=some c):closureFor scope env=pure (clOf env scope.names []):=by
 have key:∀(names:List (Str × NameKind)) (cs:List (Str × Addr)),(∀y∈names,y.2=.free→∃c,env.cells.lookup y.1=some c) →
   (forIn names cs fun (x:Str × NameKind) (r:List (Str × Addr))=>(match x with
    | (name,kind)=>if (kind == NameKind.free)=true then (do let a ←cellOf env name;pure (ForInStep.yield ((name,a)::r)):Sem _) else pure (ForInStep.yield r)))=(pure (clOf env names cs):Sem _):=by
  intro names
  induction names with
  | nil=>intro cs _;rfl
  | cons y r ih =>
   intro cs hy
   obtain ⟨x,k⟩:=y
   rw [List.forIn_cons]
   by_cases hk:k=.free
   ·subst hk
    obtain ⟨c,e⟩:=hy _ List.mem_cons_self rfl
    have ec:cellOf env x=pure c:=by
     unfold cellOf
     rw [e]
    simp only [beq_self_eq_true,if_true,ec]
    show (forIn r ((x,c)::cs) _:Sem _)=_
    rw [ih _ fun y h=>hy y (List.mem_cons_of_mem _ h)]
    simp [clOf,e]
   ·have hb:(k == NameKind.free)=false:=by simpa using hk
    simp only [hb,Bool.false_eq_true,if_false]
    show (forIn r cs _:Sem _)=_
    rw [ih _ fun y h=>hy y (List.mem_cons_of_mem _ h)]
    simp [clOf,hb]
 unfold closureFor
 have:=key scope.names [] h
 exact congrArg (fun z=>z >>= fun r=>pure r) this
theorem clOf_get {env:Env}:∀ {names:List (Str × NameKind)} {cs:List (Str × Addr)} {x:Str} {c:Addr},(∀y∈names,y.2=.free→∃c,env.cells.lookup y.1=some c)→(∀x c,cs.lookup x=some c→env.cells.lookup x=some c) →
  (clOf env names cs).lookup x=some c→env.cells.lookup x=some c
 | [],cs,x,c,_,h,e=>h x c e
 | (y,k)::r,cs,x,c,hn,h,e=>by
  unfold clOf at e
  refine clOf_get (fun z hz=>hn z (List.mem_cons_of_mem _ hz)) ?_ e
  intro z d ez
  by_cases hk:k=.free
  ·subst hk
   obtain ⟨c',ec⟩:=hn _ List.mem_cons_self rfl
   simp only [beq_self_eq_true,if_true,List.lookup_cons] at ez
   by_cases q:z=y
   ·subst q
    simp [ec] at ez
    rw [ec,ez]
   ·have:(z == y)=false:=by simpa using q
    rw [this] at ez
    exact h z d ez
  ·have hb:(k == NameKind.free)=false:=by simpa using hk
   rw [hb] at ez
   exact h z d ez
theorem clOf_keep {env:Env}:∀ {names:List (Str × NameKind)} {cs:List (Str × Addr)} {x:Str},(∃c,cs.lookup x=some c)→∃c,(clOf env names cs).lookup x=some c
 | [],cs,x,h=>h
 | (y,k)::r,cs,x,h=>by
  unfold clOf
  refine clOf_keep ?_
  by_cases hk:k=.free
  ·subst hk
   simp only [beq_self_eq_true,if_true,List.lookup_cons]
   by_cases q:x=y
   ·subst q;simp
   ·have:(x == y)=false:=by simpa using q
    rw [this];exact h
  ·have hb:(k == NameKind.free)=false:=by simpa using hk
   rw [hb];exact h
theorem clOf_has {env:Env}:∀ {names:List (Str × NameKind)} {cs:List (Str × Addr)} {x:Str},(x,NameKind.free)∈names→∃c,(clOf env names cs).lookup x=some c
 | [],cs,x,h=>nomatch h
 | (y,k)::r,cs,x,h=>by
  unfold clOf
  rcases List.mem_cons.mp h with e|h
  ·cases e
   exact clOf_keep (by simp)
  ·exact clOf_has h
noncomputable def PTs (X:Cx) (xs:List Expr) (t:TT):Prop :=
 ∀(pins:List (Addr × Obj)) (s:Shared) (σ:L2.St) (H:Hp) (Q:Bool→Hp→Prop),L2.Inv X pins σ H s→t σ H Q →
  wpAny (model X.prog X.w) X.A (forIn xs true fun c r=>if r=true then do let ok ←isTrue c X.env (eval c X.env);pure (ForInStep.yield ok) else pure (ForInStep.yield r)) (TP X pins σ Q) X.xe s
theorem tests_false {env:Env}:∀xs:List Expr,(forIn xs false fun c r=>if r=true then do let ok ←isTrue c env (eval c env);pure (ForInStep.yield ok) else pure (ForInStep.yield r):Sem Bool)=pure false
 | []=>rfl
 | x::xs=>by
  rw [List.forIn_cons]
  simp only [Bool.false_eq_true,if_false]
  exact tests_false xs
theorem pts_nil {X:Cx}:PTs X [] (fun σ H Q=>Q true H):=fun pins s σ H Q I h=>wpAny_pure ⟨H,I,h⟩
theorem pts_cons {X:Cx} {x:Expr} {xs:List Expr} {t u:TT} (h1:PT X x t) (h2:PTs X xs u):PTs X (x::xs) (tAnd t u):=by
 intro pins s σ H Q I h
 rw [List.forIn_cons]
 simp only [if_true]
 refine wpAny_bind (wpAny_bind (thn (h1 pins s σ H _ I h) fun b s1 ⟨H1,I1,q1⟩=>?_))
 refine wpAny_pure ?_
 cases b with
 | true =>
  rw [if_pos rfl] at q1
  exact h2 pins s1 σ H1 Q I1 q1
 | false =>
  rw [if_neg Bool.false_ne_true] at q1
  show wpAny _ _ (forIn xs false _) _ _ _
  rw [tests_false]
  exact wpAny_pure ⟨H1,I1,q1⟩
theorem compLoop_any {prog:Program} {w:World} {A:Around} {R:Result→Shared→Prop} {s:Shared} {elt target iter:Expr} {ifs:List Expr} {scope:Scope} {pos:Pos} {it acc:Value} {env:Env} (I:Nat→Shared→Prop)
  (turn:∀n s,I n s→wpAny (model prog w) A (pyNext it) (fun r s₁=>match r with
   | none=>R (.ok .next) s₁
   | some v=>wpAny (model prog w) A (letOwnedTupleGo target it v) (fun _ s0=>wpAny (model prog w) A (assign target env v) (fun _ s₂ =>
     wpAny (model prog w) A (forIn ifs true fun c r=>if r=true then do let ok ←isTrue c env (eval c env);pure (ForInStep.yield ok) else pure (ForInStep.yield r)) (fun ok s₃ =>
      if ok=true then wpAny (model prog w) A (eval elt env) (fun x s₄ =>
       wpAny (model prog w) A (call (.builtin "list.append") [acc,x]) (fun _ s₅=>∃m,m<n∧I m s₅) (fun _ _=>False) s₄) (fun _ _=>False) s₃
      else ∃m,m<n∧I m s₃) (fun _ _=>False) s₂) (fun _ _=>False) s0) (fun _ _=>False) s₁) (fun _ _=>False) s)
  (n:Nat) (h:I n s):codeAny (model prog w) A (.compLoop (.ListComp elt [⟨target,iter,ifs,0⟩] scope pos) 0 it acc env) R s:=by
 refine codeAny_loop rfl I (fun n s hI=>?_) n h
 show wpAny _ A ((compTurn (.ListComp elt [⟨target,iter,ifs,0⟩] scope pos) 0 it acc env).onRaise (fun x=>do noteFrame x env;theTreesLotGoes x)) _ _ s
 refine wpAny_noted ?_
 rw [compTurn_list]
 refine wpAny_bind (wpAny_standAt (wpAny_bind (wpAny_mono (turn n s hI) (fun r s₁ h₁=>?_) fun _ _ h'=>h'.elim)))
 cases r with
 | none=>exact wpAny_pure h₁
 | some v =>
  refine wpAny_bind (wpAny_mono h₁ (fun _ s0 h₁=>?_) fun _ _ h'=>h'.elim)
  refine wpAny_bind (wpAny_mono h₁ (fun _ s₂ h₂=>wpAny_bind (wpAny_mono h₂ (fun ok s₃ h₃=>?_) fun _ _ h'=>h'.elim)) fun _ _ h'=>h'.elim)
  cases ok with
  | false=>exact wpAny_pure ⟨rfl,h₃⟩
  | true =>
   exact wpAny_bind (wpAny_bind (wpAny_mono h₃ (fun x s₄ h₄=>wpAny_bind (wpAny_mono h₄ (fun _ s₅ h₅=>wpAny_pure (wpAny_pure ⟨rfl,h₅⟩)) fun _ _ h'=>h'.elim)) fun _ _ h'=>h'.elim))
noncomputable def cxC (X:Cx) (N:List Str) (s2:Shared) (H2:Hp) (fp:List Addr) (scope:Scope) (C:Addr):Cx :=
 { X with N:=N,s₀:=s2,H₀:=H2,env:=compEnvC scope (clOf X.env scope.names []) C X.env,outer:=X.stack,stack:=X.stack,ex:=fp,fn:=fun _=>false,pn:=[],xe:=fun _ _=>False }
structure CScope (X:Cx) (scope:Scope):Prop where
 kind:scope.kind=.function
 nocell:∀y∈scope.names,y.2≠.cell
 nms:∀y∈scope.names,y.2=.local→scope.names.lookup y.1=some .local
 free:∀y∈scope.names,y.2=.free→X.env.kindOf y.1=some .cell∨X.env.kindOf y.1=some .free
theorem relabel_mem {scope:Scope} {env:Env} {x:Str} {k:NameKind} (h:(relabel scope env).names.lookup x=some k) (hk:k=.cell∨k=.free) (nc:∀y∈scope.names,y.2≠.cell):(x,NameKind.free)∈scope.names:=by
 have hm:=PySem.mem_of_lookup h
 unfold relabel at hm
 obtain ⟨⟨n,k0⟩,hy,e⟩:=List.mem_map.mp hm
 simp only at e
 split at e
 ·rename_i hc
  cases e
  simp only [Bool.and_eq_true,beq_iff_eq] at hc
  have:k0=.free:=hc.1.1
  subst this
  exact hy
 ·cases e
  rcases hk with rfl|rfl
  ·exact absurd rfl (nc _ hy)
  ·exact hy
theorem relabel_glob {env:Env}:∀ {names:List (Str × NameKind)} {x:Str},names.lookup x=some .globalImplicit →
  (names.map fun (n,k)=>if (k == NameKind.free && env.scope.kind == .function && env.kindOf n == some .cell) then (n,NameKind.cell) else (n,k)).lookup x=some .globalImplicit
 | [],_,h=>by simp at h
 | (n,k)::r,x,h=>by
  have ih:=@relabel_glob env r x
  show List.lookup x ((if (k == NameKind.free && env.scope.kind == .function && env.kindOf n == some .cell)=true then (n,NameKind.cell) else (n,k))::_)=_
  cases hx:x == n with
  | true =>
   simp only [List.lookup_cons,hx] at h
   cases h
   simp [List.lookup_cons,hx]
  | false =>
   simp only [List.lookup_cons,hx] at h
   by_cases hc:(k == NameKind.free && env.scope.kind == .function && env.kindOf n == some .cell)=true
   ·rw [if_pos hc];simp only [List.lookup_cons,hx];exact ih h
   ·rw [if_neg hc];simp only [List.lookup_cons,hx];exact ih h
theorem relabel_free {env:Env}:∀ {names:List (Str × NameKind)} {x:Str},names.lookup x=some .free →
  (names.map fun (n,k)=>if (k == NameKind.free && env.scope.kind == .function && env.kindOf n == some .cell) then (n,NameKind.cell) else (n,k)).lookup x=some .cell ∨
  (names.map fun (n,k)=>if (k == NameKind.free && env.scope.kind == .function && env.kindOf n == some .cell) then (n,NameKind.cell) else (n,k)).lookup x=some .free
 | [],_,h=>by simp at h
 | (n,k)::r,x,h=>by
  have ih:=@relabel_free env r x
  show List.lookup x ((if (k == NameKind.free && env.scope.kind == .function && env.kindOf n == some .cell)=true then (n,NameKind.cell) else (n,k))::_)=_∨List.lookup x ((if (k == NameKind.free && env.scope.kind == .function && env.kindOf n == some .cell)=true then (n,NameKind.cell) else (n,k))::_)=_
  cases hx:x == n with
  | true =>
   simp only [List.lookup_cons,hx] at h
   cases h
   by_cases hc:(NameKind.free == NameKind.free && env.scope.kind == .function && env.kindOf n == some .cell)=true
   ·rw [if_pos hc];simp [List.lookup_cons,hx]
   ·rw [if_neg hc];simp [List.lookup_cons,hx]
  | false =>
   simp only [List.lookup_cons,hx] at h
   by_cases hc:(k == NameKind.free && env.scope.kind == .function && env.kindOf n == some .cell)=true
   ·rw [if_pos hc];simp only [List.lookup_cons,hx];exact ih h
   ·rw [if_neg hc];simp only [List.lookup_cons,hx];exact ih h
section
variable {X:Cx} {pins:List (Addr × Obj)} {σ:L2.St} {H2:Hp} {s2:Shared} {fp:List Addr} {scope:Scope} {C:Addr} {N:List Str}
theorem CScope.cells (S:CScope X scope) (I:L2.Inv X pins σ H2 s2):∀y∈scope.names,y.2=.free→∃c,X.env.cells.lookup y.1=some c:=fun y hy hf=>I.ok.has y.1 (S.free y hy hf)
theorem cxC_ok (S:CScope X scope) (I:L2.Inv X pins σ H2 s2) (f2:∀b∈fp,FpOk X pins H2 b) (fl:∀b∈fp,b<s2.heap.objs.size) (hC:s2.heap.objs.size≤C):(cxC X N s2 H2 fp scope C).Ok where
 mod:=I.ok.mod
 kind:=S.kind
 glob:=I.ok.glob
 blt:=I.ok.blt
 above:=hC
 inj:=fun x y c h1 h2=>I.ok.inj x y c (clOf_get (S.cells I) (fun _ _ z=>by simp at z) h1) (clOf_get (S.cells I) (fun _ _ z=>by simp at z) h2)
 has:=fun x hx=>by
  refine clOf_has (x:=x) ?_
  rcases hx with h|h
  ·exact relabel_mem h (.inl rfl) S.nocell
  ·exact relabel_mem h (.inr rfl) S.nocell
 cab:=fun x c h=>by cases h
 hd:=I.ok.hd
 frames:=I.ok.frames
 stk:=.inl rfl
 exf:=fun b hb=>⟨Nat.ne_of_lt (Nat.lt_of_lt_of_le (fl b hb) hC),fun x c h=>(f2 b hb).2.2.2.2.1 x c (clOf_get (S.cells I) (fun _ _ z=>by simp at z) h)⟩
 bs:=I.bs
 bsz:=Nat.le_trans I.ok.bsz I.sz
 noex:=fun b o e hb=>by
  rcases (f2 b hb).2.2.2.1 with z|z
  ·exact I.ok.noex b o e z
  ·have:=Heap.lt_size e
   exact absurd (Nat.lt_of_lt_of_le (Nat.lt_of_lt_of_le this I.ok.bsz) z) (Nat.lt_irrefl _)
 exfs:=fun b hb hf=>by
  rcases List.mem_cons.mp (I.stkSub b hf) with z|z
  ·exact (f2 b hb).2.1 z
  ·exact (f2 b hb).2.2.1 z
 funs:=I.stack
 frf:=I.stkFree
theorem inv_comp {H3:Hp} {h1:Heap} {tk:Nat} {nt:List Str} {cn:List Str} {caps:List Nat} (S:CScope X scope) (I:L2.Inv X pins σ H2 s2) (f2:∀b∈fp,FpOk X pins H2 b) (fl:∀b∈fp,b<s2.heap.objs.size) (hC:s2.heap.objs.size≤C)
  (un:Un (frs X.stack) fp H2 H3 s2.heap h1) (hok:HOk X.prog X.w H3 h1) (ns:h1.Ns C (fun _=>none)) (hn:H3 C=none) (keep:∀b o,s2.heap.get? b=some o→h1.get? b=some o) (free:∀b o,s2.heap.get? b=some o→H2 b=none→H3 b=none)
  (hcn:cn=caps.filterMap (X.N[·]?)) (hcl:∀i∈caps,i<X.N.length) (hcf:∀x∈cn,scope.names.lookup x=some .free) (hce:∀x∈cn,X.env.kindOf x=some .cell∨X.env.kindOf x=some .free) :
  L2.Inv (cxC X (nt++cn) s2 H2 fp scope C) [] (nt.map (fun _=>none)++caps.map fun i=>(σ[i]?).join) H3 { s2 with heap:=h1,toks:=tk }:=by
 have cel:∀x c,(clOf X.env scope.names []).lookup x=some c→X.env.cells.lookup x=some c:=fun x c h=>clOf_get (S.cells I) (fun _ _ z=>by simp at z) h
 have lenc:cn.length=caps.length:=by
  rw [hcn]
  clear hcf hce hcn
  induction caps with
  | nil=>rfl
  | cons i r ih =>
   have:X.N[i]?=some (X.N[i]'(hcl i List.mem_cons_self)):=List.getElem?_eq_getElem (hcl i List.mem_cons_self)
   rw [List.filterMap_cons,this]
   simp only [List.length_cons]
   rw [ih fun j hj=>hcl j (List.mem_cons_of_mem _ hj)]
 have getc:∀(j i:Nat),caps[j]?=some i→∃x,cn[j]?=some x∧X.N[i]?=some x:=by
  rw [hcn]
  clear hcf hce hcn lenc
  induction caps with
  | nil=>intro j i h;simp at h
  | cons k r ih =>
   intro j i h
   have hk:X.N[k]?=some (X.N[k]'(hcl k List.mem_cons_self)):=List.getElem?_eq_getElem (hcl k List.mem_cons_self)
   rw [List.filterMap_cons,hk]
   cases j with
   | zero=>simp at h;subst h;exact ⟨_,rfl,hk⟩
   | succ j=>exact ih (fun j hj=>hcl j (List.mem_cons_of_mem _ hj)) j i (by simpa using h)
 refine ⟨cxC_ok S I f2 fl hC,rfl,I.bare,un,⟨_,ns,fun i x v e1 e2 e3=>?_⟩,fun x c e=>?_,hn,fun x c e=>?_,fun p hp=>absurd (show p∈([]:List (Addr × Obj)) from hp) (by simp),hok,?_⟩
 ·by_cases hi:i<nt.length
  ·rw [List.getElem?_append_left (by simpa using hi),List.getElem?_map] at e2
   cases q:nt[i]? with
   | none=>rw [q] at e2;cases e2
   | some z=>rw [q] at e2;cases e2
  ·rw [List.getElem?_append_right (by simpa using hi),List.length_map,List.getElem?_map] at e2
   have e1':(nt++cn)[i]?=some x:=e1
   rw [List.getElem?_append_right (by omega)] at e1'
   cases q:caps[i-nt.length]? with
   | none=>rw [q] at e2;cases e2
   | some j =>
    rw [q] at e2
    have e2':(σ[j]?).join=some v:=Option.some.inj e2
    obtain ⟨y,g1,g2⟩:=getc _ _ q
    rw [e1'] at g1
    cases g1
    have e4:σ[j]?=some (some v):=by
     cases z:σ[j]? with
     | none=>rw [z] at e2';cases e2'
     | some w=>rw [z] at e2';rw [show w=some v from e2']
    obtain ⟨m,hm,hl⟩:=I.loc
    have kx:=hce x (List.mem_of_getElem? e1')
    obtain ⟨u,ru,lk⟩:=hl j x v g2 e4 (.inr (by rcases kx with k|k;exact .inl k;exact .inr k))
    refine ⟨u,ru,.inr ⟨relabel_free (hcf x (List.mem_of_getElem? e1')),?_⟩⟩
    rcases lk with ⟨k,_⟩|⟨_,c,ec,hc⟩
    ·rcases kx with k' | k' <;> rw [k] at k' <;> cases k'
    ·obtain ⟨c',ec'⟩:=clOf_has (env:=X.env) (names:=scope.names) (cs:=[]) (x:=x) (PySem.mem_of_lookup (hcf x (List.mem_of_getElem? e1')))
     have:=cel x c' ec'
     rw [ec] at this
     cases this
     obtain ⟨o,ho,hd⟩:=hc
     exact ⟨c,ec',o,keep _ _ ho,hd⟩
 ·obtain ⟨v,o,ho,hd⟩:=I.cell x c (cel x c e)
  exact ⟨v,o,keep _ _ ho,hd⟩
 ·obtain ⟨v,o,ho,hd⟩:=I.cell x c (cel x c e)
  exact free c o ho (I.freeC x c (cel x c e))
 ·show (nt.map (fun _=>(none:Option V))++caps.map fun i=>(σ[i]?).join).length=(nt++cn).length
  simp [lenc]
end
end FW
set_option Elab.async false
set_option linter.all false
set_option maxRecDepth 100000
set_option maxHeartbeats 1000000
namespace FW
open PySem PySem.Spec PyProof.Rows L2 HX
section
variable {Γ:Nat→FSp}
mutual
theorem wpTg_pres {n:Nat} (G:GMono Γ):∀(t:Tg) {v:PV} {ρ:Fr} {st:AH} {Q:Fr→AH→Prop},t.low n=true→wpTg Γ t v ρ st Q→wpTg Γ t v ρ st fun ρ' st'=>Q ρ' st'∧∀i,n≤i→ρ'[i]?=ρ[i]?
 | .name i,v,ρ,st,Q,h,q=>by
  skip
  rw [Tg.low] at h
  have:=of_decide_eq_true h
  exact ⟨q,fun j hj=>List.getElem?_set_ne (by omega)⟩
 | .tup ts,v,ρ,st,Q,h,q=>by
  skip
  rw [Tg.low] at h
  obtain ⟨xs,e,hl,q⟩:=q
  exact ⟨xs,e,hl,wpTgs_pres G ts h q⟩
 | .ltup ts,v,ρ,st,Q,h,q=>by
  skip
  rw [Tg.low] at h
  obtain ⟨xs,e,hl,q⟩:=q
  exact ⟨xs,e,hl,wpTgs_pres G ts h q⟩
 | .sub _ _,v,ρ,st,Q,h,q=>by rw [Tg.low] at h;cases h
theorem wpTgs_pres {n:Nat} (G:GMono Γ):∀(t:Tgs) {v:List PV} {ρ:Fr} {st:AH} {Q:Fr→AH→Prop},t.low n=true→wpTgs Γ t v ρ st Q→wpTgs Γ t v ρ st fun ρ' st'=>Q ρ' st'∧∀i,n≤i→ρ'[i]?=ρ[i]?
 | .nil,v,ρ,st,Q,h,q=>by exact ⟨q.1,q.2,fun _ _=>rfl⟩
 | .cons t ts,v,ρ,st,Q,h,q=>by
  skip
  rw [Tgs.low,Bool.and_eq_true] at h
  obtain ⟨x,r,e,q⟩:=q
  refine ⟨x,r,e,wpTg_mono G t (fun ρ1 st1 k=>?_) (wpTg_pres G t h.1 q)⟩
  refine wpTgs_mono G ts (fun ρ2 st2 k2=>⟨k2.1,fun i hi=>(k2.2 i hi).trans (k.2 i hi)⟩) (wpTgs_pres G ts h.2 k.1)
end
end
mutual
theorem R.mono0 {K:PySem.W.Frag} {m:List Addr} {H H':Hp} (ht:∀a ys,SqT K H a ys→SqT K H' a ys) (hr:∀a ys,RdF K H a ys→RdF K H' a ys):∀ {p:PV} {v:V},R K m H p v→R K m H' p v
 | .non,v,h=>by rw [R_non] at h ⊢;exact h
 | .bl b,v,h=>by rw [R_bl] at h ⊢;exact h
 | .int b,v,h=>by rw [R_int] at h ⊢;exact h
 | .str b,v,h=>by rw [R_str] at h ⊢;exact h
 | .ref n,v,h=>by rw [R_ref] at h ⊢;exact h
 | .tup xs,v,h=>by rw [R_tup] at h ⊢;obtain ⟨a,ys,e,q,r⟩:=h;exact ⟨a,ys,e,ht _ _ q,Rs.mono0 ht hr r⟩
 | .rdl xs,v,h=>by rw [R_rdl] at h ⊢;obtain ⟨a,ys,e,q,r⟩:=h;exact ⟨a,ys,e,hr _ _ q,Rs.mono0 ht hr r⟩
 | .fn a,v,h=>by rw [R_fn] at h ⊢;exact h
theorem Rs.mono0 {K:PySem.W.Frag} {m:List Addr} {H H':Hp} (ht:∀a ys,SqT K H a ys→SqT K H' a ys) (hr:∀a ys,RdF K H a ys→RdF K H' a ys):∀ {ps:List PV} {vs:List V},Rs K m H ps vs→Rs K m H' ps vs
 | [],vs,h=>by rw [Rs_nil] at h ⊢;exact h
 | p::ps,vs,h=>by
  rw [Rs_cons] at h ⊢
  obtain ⟨y,r,e,h1,h2⟩:=h
  exact ⟨y,r,e,R.mono0 ht hr h1,Rs.mono0 ht hr h2⟩
end
theorem tup_upd {K:PySem.W.Frag} {H:Hp} {D:Addr} {ys zs:List V} (hD:H D=some (.lst ys)):∀a us,SqT K H a us→SqT K (upd H D (.lst zs)) a us:=fun a us q=>by
 rcases q with (q|⟨w,q⟩)|q
 ·exact .inl (.inl (by rw [upd_ne (fun z=>by subst z;rw [hD] at q;cases q)];exact q))
 ·exact .inl (.inr ⟨w,by rw [upd_ne (fun z=>by subst z;rw [hD] at q;cases q)];exact q⟩)
 ·exact .inr q
theorem rdf_upd {K:PySem.W.Frag} {H:Hp} {D:Addr} {ys zs:List V} (hD:H D=some (.lst ys)):∀a us,RdF K H a us→RdF K (upd H D (.lst zs)) a us:=fun a us q=>by
 rcases q with ⟨w,q⟩|q
 ·exact .inl ⟨w,by rw [upd_ne (fun z=>by subst z;rw [hD] at q;cases q)];exact q⟩
 ·exact .inr q
theorem TB.away {K:PySem.W.Frag} {H:Hp} {D:Addr} {ys zs:List V} (t:TB K H) (hD:H D=some (.lst ys)):TB K (upd H D (.lst zs)) :=
 t.keep (fun a ps q=>by rw [upd_ne (fun z=>by subst z;rw [hD] at q;cases q)];exact q) fun a o q=>by rw [upd_ne (fun z=>by subst z;rw [hD] at q;cases q)];exact q
theorem Ext.away {K:PySem.W.Frag} {m m':List Addr} {H H':Hp} {D:Addr} {ys zs:List V} (x:Ext K m H m' H') (h0:H D=none) (hD:H' D=some (.lst ys)):Ext K m H m' (upd H' D (.lst zs)) :=
 ⟨x.pre,x.new,fun a o ha e n=>by rw [upd_ne (ne_of_none e h0)];exact x.fr a o ha e n,fun a us q=>tup_upd hD a us (x.tup a us q),fun a us q=>rdf_upd hD a us (x.rdf a us q),fun a ps ha e=>let ⟨p1,e1⟩:=x.tbs a ps ha e;⟨p1,by rw [upd_ne (ne_of_none e h0)];exact e1⟩,fun t=>(x.tb t).away hD⟩
theorem RH.away {K:PySem.W.Frag} {m:List Addr} {H:Hp} {st:AH} {D:Addr} {ys zs:List V} (h:RH K m H st) (hm:D ∉ m) (hD:H D=some (.lst ys)):RH K m (upd H D (.lst zs)) st:=by
 refine ⟨h.len,h.nd,fun n c a h1 h2=>?_,h.tb.away hD⟩
 have ha:a≠D:=fun z=>hm (z ▸ List.mem_of_getElem? h2)
 have hc:=h.at_ n c a h1 h2
 cases c with
 | lst xs=>obtain ⟨us,g1,g2⟩:=hc;exact ⟨us,by rw [upd_ne ha];exact g1,g2.mono0 (tup_upd hD) (rdf_upd hD)⟩
 | dk kvs=>obtain ⟨us,g1,g2,g3⟩:=hc;exact ⟨us,by rw [upd_ne ha];exact g1,g2,g3.mono0 (tup_upd hD) (rdf_upd hD)⟩
theorem RF.away {K:PySem.W.Frag} {m:List Addr} {H:Hp} {ρ:Fr} {σ:L2.St} {D:Addr} {ys zs:List V} (h:RF K m H ρ σ) (hD:H D=some (.lst ys)):RF K m (upd H D (.lst zs)) ρ σ :=
 ⟨h.len,fun i v e=>let ⟨y,e1,r⟩:=h.at_ i v e;⟨y,e1,r.mono0 (tup_upd hD) (rdf_upd hD)⟩⟩
theorem RF.less {K:PySem.W.Frag} {m:List Addr} {H:Hp} {ρ ρ':Fr} {σ:L2.St} {n:Nat} (h:RF K m H ρ' σ) (hl:ρ.length=ρ'.length) (hn:∀i v,ρ[i]?=some (some v)→n≤i) (hp:∀i,n≤i→ρ'[i]?=ρ[i]?):RF K m H ρ σ :=
 ⟨hl.trans h.len,fun i v e=>h.at_ i v (by rw [hp i (hn i v e)];exact e)⟩
theorem caps_none {nt:List Str} {f:Nat→Option PV} {caps:List Nat}:∀(i:Nat) (v:PV),(nt.map (fun _=>(none:Option PV))++caps.map f)[i]?=some (some v)→nt.length≤i:=fun i v e=>by
 by_cases hi:i<nt.length
 ·rw [List.getElem?_append_left (by simpa using hi),List.getElem?_map] at e
  cases q:nt[i]? with
  | none=>rw [q] at e;cases e
  | some z=>rw [q] at e;cases e
 ·omega
theorem rf_caps {K:PySem.W.Frag} {m:List Addr} {H:Hp} {ρ:Fr} {σ:L2.St} {nt:List Str} {caps:List Nat} (h:RF K m H ρ σ) :
  RF K m H (nt.map (fun _=>none)++caps.map fun i=>(ρ[i]?).join) (nt.map (fun _=>none)++caps.map fun i=>(σ[i]?).join):=by
 refine ⟨by simp,fun i v e=>?_⟩
 have hi:=caps_none i v e
 rw [List.getElem?_append_right (by simpa using hi),List.length_map,List.getElem?_map] at e
 rw [List.getElem?_append_right (by simpa using hi),List.length_map,List.getElem?_map]
 cases q:caps[i-nt.length]? with
 | none=>rw [q] at e;cases e
 | some j =>
  rw [q] at e
  have e':(ρ[j]?).join=some v:=Option.some.inj e
  have e4:ρ[j]?=some (some v):=by
   cases z:ρ[j]? with
   | none=>rw [z] at e';cases e'
   | some w=>rw [z] at e';rw [show w=some v from e']
  obtain ⟨y,e5,r⟩:=h.at_ j v e4
  exact ⟨y,by show some ((σ[j]?).join)=_;rw [e5];rfl,r⟩
section
variable {X:Cx} {Γ:Nat→FSp} {pins:List (Addr × Obj)} {σ:L2.St} {H:Hp} {s:Shared}
noncomputable def CompEnd (K:PySem.W.Frag) (m1:List Addr) (H1:Hp) (Fin:Addr→Hp→Prop):LK:=fun vs st2=>∀m2 H2 D ys,Ext K m1 H1 m2 H2→RH K m2 H2 st2→D ∉ m2→H1 D=none→H2 D=some (.lst ys)→Rs K m2 H2 vs ys→Fin D H2
noncomputable def bodyC (Γ:Nat→FSp) (elt:E) (tg:Tg) (ifs:Es) (ρ:Fr):PV→AH→(Option PV→AH→Prop)→Prop:=fun x st2 k=>wpTg Γ tg x ρ st2 fun ρ' st3=>wpAT Γ ifs ρ' st3 fun c st4=>if c=true then wpE Γ elt ρ' st4 fun v st5=>k (some v) st5 else k none st4
theorem comp_core (G:GMono Γ) (hcalm:X.calm=true) {elt:E} {tg:Tg} {ifs:Es} {nt:List Str} {caps:List Nat} {cn:List Str} {eltx tgx iterx:Expr} {ifsx:List Expr} {scope:Scope} {pos p0:Pos} {use:Option (Value→Sem Unit)} {Qf:Value→Shared→Prop} {Fin:Addr→Hp→Prop} {wi:TI}
  (S:CScope X scope) (hcn:cn=caps.filterMap (X.N[·]?)) (hcl:∀i∈caps,i<X.N.length) (hcf:∀x∈cn,scope.names.lookup x=some .free) (hce:∀x∈cn,X.env.kindOf x=some .cell∨X.env.kindOf x=some .free)
  (hset:noSet iterx=true) (hlow:tg.low nt.length=true) (hI:PI X tgx iterx wi)
  (hG:∀s2 H2 fp C,PG (cxC X (nt++cn) s2 H2 fp scope C) tgx (TGx X.K (wpTg Γ tg)))
  (hT:∀s2 H2 fp C,PTs (cxC X (nt++cn) s2 H2 fp scope C) ifsx (TTx X.K (wpAT Γ ifs)))
  (hE:∀s2 H2 fp C,PE (cxC X (nt++cn) s2 H2 fp scope C) eltx (TEx X.K (wpE Γ elt)))
  (I:L2.Inv X pins σ H s)
  (h:wi σ H fun J H1=>∃m ρ st1 xs chk,RF X.K m H1 ρ σ∧RH X.K m H1 st1∧Walk X.K J xs chk m H1∧xs.length<100000∧compW chk (bodyC Γ elt tg ifs (nt.map (fun _=>none)++caps.map fun i=>(ρ[i]?).join)) xs [] st1 (CompEnd X.K m H1 Fin))
  (fin:∀C D H' s' m',L2.Inv X pins σ H' s'→s'.heap.Ns C m'→FpOk X pins H' C→Fin D H'→compPost (model X.prog X.w) X.A X.xe use Qf (.ref D) C (.ok .next) s') :
  wpAny (model X.prog X.w) X.A (comprehension (.ListComp eltx [⟨tgx,iterx,ifsx,0⟩] scope pos) scope X.env p0 (newList []) false (eval iterx X.env) use) Qf X.xe s:=by
 refine wpAny_comprehension_free (use:=use) rfl (noSet_ok hset) (closure_ok (S.cells I)) S.kind S.nms ?_
 refine thn (hI pins s σ H _ I h) fun v s1 h1=>thn h1 fun itv s2 h2=>?_
 obtain ⟨it,fp,tn,J,H2,e,I2,T,st2,f2,m,ρ,st1,xs,chk,rf,rh,W,hxs,w⟩:=h2
 subst e
 have fl:∀b∈fp,b<s2.heap.objs.size:=fun b hb=>by
  obtain ⟨o,e,_⟩:=T.obj 0 _ st2 b hb
  exact Heap.lt_size e
 refine wpAny_newObj_type (wpAny_newFunctionEnv S.nocell (by intro y hy;simp at hy) (fun h₁ hns₁ hsb₁=>?_) S.kind)
 dsimp only at hns₁ hsb₁ ⊢
 generalize hD:s2.heap.objs.size=D at *
 generalize hH3:s2.heap.push { cls:=.type "list",dict:=none,data:=.seq ([]:List Value).toArray }=P3 at hns₁ hsb₁ ⊢
 generalize hCC:P3.objs.size=C at *
 have hC1:C=D+1:=by rw [←hCC,←hH3,Heap.size_push,hD]
 have ltDC:D<C:=by rw [hC1];exact Nat.lt_succ_self D
 have neC:∀b,b<D→b≠C:=fun b hb=>Nat.ne_of_lt (Nat.lt_trans hb ltDC)
 have hDn:H2 D=none:=by rw [←hD];exact I2.hok.fresh (Nat.le_refl _)
 have hCn:H2 C=none:=I2.hok.fresh (by rw [hD];exact Nat.le_of_lt ltDC)
 have old3:∀b o,s2.heap.get? b=some o→P3.get? b=some o:=fun b o e=>hH3 ▸ Heap.get?_push_of_some _ e
 have old:∀b o,s2.heap.get? b=some o→h₁.get? b=some o:=fun b o e=>hsb₁.extBut b o (neC b (hD ▸ Heap.lt_size e)) (Heap.get?_push_of_some _ (old3 b o e))
 have newD:h₁.get? D=some { cls:=.type "list",data:=.seq #[] }:=hsb₁.extBut _ _ (Nat.ne_of_lt ltDC) (Heap.get?_push_of_some _ (by rw [←hH3,←hD];exact Heap.get?_push_size _ rfl))
 have un:Un (frs X.stack) fp H2 (upd H2 D (.lst [])) s2.heap h₁:=Un.laid old (by rw [hD];exact Nat.le_refl _) hDn
 have hok:HOk X.prog X.w (upd H2 D (.lst [])) h₁:=I2.hok.laid old (by rw [hD];exact Nat.le_refl _) ⟨Nat.zero_le _,[],0,.nil,newD⟩
 have I4:=inv_comp (nt:=nt) (tk:=s2.toks+([]:List (Str × Value)).length) S I2 f2 (by rw [hD];exact fl) (C:=C) (by rw [hD];exact Nat.le_of_lt ltDC) un hok (by simpa using hns₁) (by rw [upd_ne (Nat.ne_of_gt ltDC)];exact hCn) old
  (fun b o e n=>by rw [upd_ne (Nat.ne_of_lt (hD ▸ Heap.lt_size e))];exact n) hcn hcl hcf hce
 generalize hρ0:(nt.map (fun _=>none)++caps.map fun i=>(ρ[i]?).join:Fr)=ρ0 at w
 have hρn:∀i v,ρ0[i]?=some (some v)→nt.length≤i:=by rw [←hρ0];exact caps_none
 have rf0:RF X.K m H2 ρ0 (nt.map (fun _=>none)++caps.map fun i=>(σ[i]?).join):=by rw [←hρ0];exact rf_caps rf
 generalize (nt.map (fun _=>none)++caps.map fun i=>(σ[i]?).join:L2.St)=σ0 at I4 rf0
 have loop:codeAny (model X.prog X.w) X.A (.compLoop (.ListComp eltx [⟨tgx,iterx,ifsx,0⟩] scope pos) 0 (.ref it) (.ref D) (compEnvC scope (clOf X.env scope.names []) C X.env)) (compPost (model X.prog X.w) X.A X.xe use Qf (.ref D) C)
   { s2 with heap:=h₁,toks:=s2.toks+([]:List (Str × Value)).length }:=by
  refine compLoop_any (fun n s'=>∃(i:Nat),∃σ' H' m' st' acc ys,n+i=xs.length∧L2.Inv (cxC X (nt++cn) s2 H2 fp scope C) [] σ' H' s'∧tn i s'.heap∧(∀b∈fp,H' b=none)∧Ext X.K m H2 m' H'∧RH X.K m' H' st'∧RF X.K m' H' ρ0 σ'∧D ∉ m'∧H' D=some (.lst ys)∧Rs X.K m' H' acc ys∧ys.length≤i ∧
   compW chk (bodyC Γ elt tg ifs ρ0) (xs.drop i) acc st' (CompEnd X.K m H2 Fin)) ?_ xs.length
   ⟨0,σ0,_,m,st1,[],[],rfl,I4,T.keep 0 _ _ st2 (fun b _ o e=>old b o e),fun b hb=>by rw [upd_ne (Nat.ne_of_lt (fl b hb))];exact (f2 b hb).1,Ext.newT rh hDn,rh.newT hDn,rf0.mono (Ext.newT rh hDn),rh.fresh hDn,upd_same,Rs_nil.mpr rfl,Nat.le_refl _,by simpa using w⟩
  rintro n s' ⟨i,σ',H',m',st',acc,ys,hn,I',tni,fpn,x',rh',rf',Dm,hDl,rys,hly,k⟩
  have stat:∀ {H'':Hp},(∀b∈fp,H'' b=none)→∀b∈fp,FpOk (cxC X (nt++cn) s2 H2 fp scope C) [] H'' b:=fun hz b hb=>⟨hz b hb,(I'.ok.exf b hb).1,I'.ok.exfs b hb,.inl hb,(I'.ok.exf b hb).2,fun p hp=>absurd (show p∈([]:List (Addr × Obj)) from hp) (by simp)⟩
  cases q:xs.drop i with
  | nil =>
   rw [q] at k
   have hi:i=xs.length:=by
    have:=congrArg List.length q
    simp at this
    omega
   subst hi
   refine thn (T.done (cxC X (nt++cn) s2 H2 fp scope C) rfl rfl rfl hcalm _ [] s' σ' H' (fun _ _=>False) I' (stat fpn) tni (W.stop m' H' st' x' rh' k.1)) fun r s1 ⟨hr,I1⟩=>?_
   subst hr
   have IX:L2.Inv X pins σ H' s1:=I2.call' I1.os I1.base I1.hok I1.bare fun b hb=>⟨(f2 b hb).2.2.2.1,(f2 b hb).2.1,(f2 b hb).2.2.2.2.1,(f2 b hb).2.2.2.2.2⟩
   obtain ⟨mm,hns,_⟩:=I1.loc
   exact fin C D H' s1 mm IX hns (I2.fpOk (by rw [hD];exact Nat.le_of_lt ltDC) I1.free) (k.2 m' H' D ys x' rh' Dm hDn hDl rys)
  | cons v rest =>
   rw [q] at k
   have hi:i<xs.length:=by
    have:=congrArg List.length q
    simp at this
    omega
   have ev:xs[i]?=some v:=by
    have:=congrArg List.head? q
    rw [List.head?_drop] at this
    exact this
   have er:rest=xs.drop (i+1):=by
    have:=congrArg List.tail q
    rw [List.tail_drop] at this
    exact this.symm
   subst er
   obtain ⟨kc,k⟩:=k
   obtain ⟨go,yl⟩:=W.item i v m' H' st' x' rh' kc ev
   refine thn (T.item (cxC X (nt++cn) s2 H2 fp scope C) rfl rfl rfl hcalm i [] s' σ' H' (fun _ _=>False) I' (stat fpn) tni go) fun r s4 ⟨u,hr,h4⟩=>?_
   subst hr
   refine thn h4 fun _ s5 ⟨x,H5,I5,r5,y5,tn5,fr5⟩=>?_
   obtain ⟨x5,rh5,rv5⟩:=yl x H5 y5
   have I5':=I5.pinned (stat fr5) (T.obj _ _ tn5)
   have again:∀ {σ7:L2.St} {H7:Hp} {s7:Shared} {m7:List Addr} {st7:AH} {acc7:List PV} {ys7:List V},L2.Inv (cxC X (nt++cn) s2 H2 fp scope C) ([]++pinsAt fp s5.heap) σ7 H7 s7→Ext X.K m H2 m7 H7→RH X.K m7 H7 st7→RF X.K m7 H7 ρ0 σ7→D ∉ m7→H7 D=some (.lst ys7) →
     Rs X.K m7 H7 acc7 ys7→ys7.length≤i+1→compW chk (bodyC Γ elt tg ifs ρ0) (xs.drop (i+1)) acc7 st7 (CompEnd X.K m H2 Fin) →
     ∃n',n'<n∧∃(i:Nat),∃σ' H' m' st' acc ys,n'+i=xs.length∧L2.Inv (cxC X (nt++cn) s2 H2 fp scope C) [] σ' H' s7∧tn i s7.heap∧(∀b∈fp,H' b=none)∧Ext X.K m H2 m' H'∧RH X.K m' H' st'∧RF X.K m' H' ρ0 σ'∧D ∉ m'∧H' D=some (.lst ys)∧Rs X.K m' H' acc ys∧ys.length≤i ∧
      compW chk (bodyC Γ elt tg ifs ρ0) (xs.drop i) acc st' (CompEnd X.K m H2 Fin):=fun {σ7 H7 s7 m7 st7 acc7 ys7} I7 g1 g2 g3 g4 g5 g6 g7 g8=>by
    refine ⟨n-1,by omega,i+1,σ7,H7,m7,st7,acc7,ys7,by omega,I7.unpinned,T.keep _ _ _ tn5 fun b hb o e=>(I7.pin (b,o) (List.mem_append_right _ (List.mem_append_right _ (mem_pinsAt hb e)))).1,fun b hb=>?_,g1,g2,g3,g4,g5,g6,g7,g8⟩
    obtain ⟨o,e,d⟩:=T.obj _ _ tn5 b hb
    exact (I7.pin (b,o) (List.mem_append_right _ (List.mem_append_right _ (mem_pinsAt hb e)))).2.1
   have k2:=wpTg_pres (n:=nt.length) G tg hlow k
   refine thn (hG s2 H2 fp C _ s5 σ' H5 x u (fun σ6 H6=>∃m6 ρ1 st6,Ext X.K m' H5 m6 H6∧RH X.K m6 H6 st6∧RF X.K m6 H6 ρ1 σ6∧(∀j,nt.length≤j→ρ1[j]?=ρ0[j]?) ∧
    wpAT Γ ifs ρ1 st6 fun c st4=>if c=true then wpE Γ elt ρ1 st4 fun vv st5=>compW chk (bodyC Γ elt tg ifs ρ0) (xs.drop (i+1)) (acc++[vv]) st5 (CompEnd X.K m H2 Fin) else compW chk (bodyC Γ elt tg ifs ρ0) (xs.drop (i+1)) acc st4 (CompEnd X.K m H2 Fin)) I5' r5
    ⟨m',ρ0,st',v,rf'.mono x5,rh5,rv5,wpTg_mono G tg (fun ρ1 st6 z m6 H6 σ6 x6 rh6 rf6=>⟨m6,ρ1,st6,x6,rh6,rf6,z.2,wpAT_mono G ifs (fun c st4 zz=>by
     cases c with
     | true=>rw [if_pos rfl] at zz ⊢;exact zz
     | false=>rw [if_neg Bool.false_ne_true] at zz ⊢;simpa using zz) z.1⟩) k2⟩) fun _ s6 ⟨σ6,H6,I6,m6,ρ1,st6,x6,rh6,rf6,pr,w6⟩=>?_
   have hlen:ρ0.length=ρ1.length:=by rw [rf6.len,I6.len,rf'.len,I'.len]
   refine thn (hT s2 H2 fp C _ s6 σ6 H6 (fun b H7=>∃m7 st7,Ext X.K m6 H6 m7 H7∧RH X.K m7 H7 st7∧if b=true then wpE Γ elt ρ1 st7 fun vv st5=>compW chk (bodyC Γ elt tg ifs ρ0) (xs.drop (i+1)) (acc++[vv]) st5 (CompEnd X.K m H2 Fin) else compW chk (bodyC Γ elt tg ifs ρ0) (xs.drop (i+1)) acc st7 (CompEnd X.K m H2 Fin)) I6
    ⟨m6,ρ1,st6,rf6,rh6,wpAT_mono G ifs (fun b st7 z m7 H7 x7 rh7=>⟨m7,st7,x7,rh7,z⟩) w6⟩) fun b s7 ⟨H7,I7,m7,st7,x7,rh7,w7⟩=>?_
   have xx7:Ext X.K m' H' m7 H7:=(x5.trans x6).trans x7
   cases b with
   | false =>
    rw [if_neg Bool.false_ne_true] at w7 ⊢
    refine again I7 (x'.trans xx7) rh7 ((rf6.mono x7).less hlen hρn pr) (fun z=>?_) (xx7.fr D _ Dm hDl fun _ z=>nomatch z) (rys.mono xx7) (by omega) w7
    rcases xx7.new D z with z|z
    ·exact Dm z
    ·rw [hDl] at z;cases z
   | true =>
    rw [if_pos rfl] at w7 ⊢
    refine thn (hE s2 H2 fp C _ s7 σ6 H7 (fun y H8=>∃m8 st8 vv,Ext X.K m7 H7 m8 H8∧RH X.K m8 H8 st8∧R X.K m8 H8 vv y∧compW chk (bodyC Γ elt tg ifs ρ0) (xs.drop (i+1)) (acc++[vv]) st8 (CompEnd X.K m H2 Fin)) I7
     ⟨m7,ρ1,st7,rf6.mono x7,rh7,wpE_mono G elt (fun vv st8 z m8 H8 y x8 rh8 r8=>⟨m8,st8,vv,x8,rh8,r8,z⟩) w7⟩) fun uy s8 ⟨y,H8,I8,ry,m8,st8,vv,x8,rh8,r8,w8⟩=>?_
    have xx8:Ext X.K m' H' m8 H8:=xx7.trans x8
    have hD8:H8 D=some (.lst ys):=xx8.fr D _ Dm hDl fun _ z=>nomatch z
    have Dm8:D ∉ m8:=fun z=>by
     rcases xx8.new D z with z|z
     ·exact Dm z
     ·rw [hDl] at z;cases z
    refine thn (mt_append (X:=cxC X (nt++cn) s2 H2 fp scope C) _ s8 σ6 H8 (.ref D) [y] (.ref D) [uy] (fun _ H9=>H9=upd H8 D (.lst (ys++[y]))) I8 rfl (.cons ry .nil) ⟨D,ys,y,rfl,rfl,hD8,small5' (by omega),rfl⟩) fun _ s9 ⟨_,H9,I9,_,e9⟩=>?_
    subst e9
    exact again I9 ((x'.trans xx8).away hDn hD8) (rh8.away Dm8 hD8) ((((rf6.mono x7).mono x8).less hlen hρn pr).away hD8) Dm8 upd_same (((rys.mono xx8).app (.one r8)).mono0 (tup_upd hD8) (rdf_upd hD8)) (by simp;omega) w8
 exact codeAny_compStart_list loop (T.self X.A 0 _ _ _ (T.keep 0 _ _ st2 fun b _ o e=>old b o e) loop)
end
end FW
set_option Elab.async false
set_option linter.all false
set_option maxRecDepth 100000
set_option maxHeartbeats 1000000
namespace FW
open PySem PySem.Spec PyProof.Rows L2 HX
mutual
theorem R.pre {K:PySem.W.Frag} {m m':List Addr} {H:Hp} (hp:m <+: m'):∀ {p:PV} {v:V},R K m H p v→R K m' H p v
 | .non,v,h=>by rw [R_non] at h ⊢;exact h
 | .bl b,v,h=>by rw [R_bl] at h ⊢;exact h
 | .int b,v,h=>by rw [R_int] at h ⊢;exact h
 | .str b,v,h=>by rw [R_str] at h ⊢;exact h
 | .fn b,v,h=>by rw [R_fn] at h ⊢;exact h
 | .ref n,v,h=>by rw [R_ref] at h ⊢;obtain ⟨a,e,q⟩:=h;exact ⟨a,pre_get hp e,q⟩
 | .tup xs,v,h=>by rw [R_tup] at h ⊢;obtain ⟨a,ys,e,q,r⟩:=h;exact ⟨a,ys,e,q,Rs.pre hp r⟩
 | .rdl xs,v,h=>by rw [R_rdl] at h ⊢;obtain ⟨a,ys,e,q,r⟩:=h;exact ⟨a,ys,e,q,Rs.pre hp r⟩
theorem Rs.pre {K:PySem.W.Frag} {m m':List Addr} {H:Hp} (hp:m <+: m'):∀ {ps:List PV} {vs:List V},Rs K m H ps vs→Rs K m' H ps vs
 | [],vs,h=>by rw [Rs_nil] at h ⊢;exact h
 | p::ps,vs,h=>by
  rw [Rs_cons] at h ⊢
  obtain ⟨y,r,e,h1,h2⟩:=h
  exact ⟨y,r,e,R.pre hp h1,Rs.pre hp h2⟩
end
theorem onArg_inv {x:Arguments} {f:Str→Bool} (h:onArg x f=true):∃a:Arg,x=⟨[],[a],none,[],[],none,[]⟩∧f a.arg=true:=by
 obtain ⟨p,as,va,ko,kd,kw,ds⟩:=x
 unfold onArg at h
 simp only [Bool.and_eq_true,List.isEmpty_iff,Option.isNone_iff_eq_none] at h
 obtain ⟨⟨⟨⟨⟨⟨rfl,rfl⟩,rfl⟩,rfl⟩,rfl⟩,rfl⟩,h⟩:=h
 obtain ⟨a,rfl,h⟩:=on1_inv h
 exact ⟨a,rfl,h⟩
theorem lam_bind {qual:Str} {a:Arg} {body:Expr} {scope:Scope} {cl:List (Str × Addr)} (pm:Value) (c':Addr) (ctv:Value) (u:Value) :
  bindArgs (PySem.W.kla_fn "<lambda>" qual ⟨[],[a],none,[],[],none,[]⟩ body scope cl pm (.ref c') ctv) ⟨[u],[]⟩=pure [(a.arg,u)]:=by
 unfold bindArgs
 simp [seqItems?,List.lookup]
 rfl
section
variable {Γ:Nat→FSp} {X:Cx} {c:Cfg}
theorem pcall_pe (C:COk X c Γ) (hpc:c.pc=true) {i:Nat} {y:Str} {l:Expr} {p pos:Pos} {e:E} (hN:c.N[i]?=some y) (hv:c.vis y=true) (hs:noStar l=true) (he:PE X l (TEx X.K (wpE Γ e))) :
  PE X (.Call (.Name y p) [l] [] pos) (TEx X.K (wpE Γ (.pcall i e))):=by
 rintro pins s σ H Q I ⟨m,ρ,st,rf,rh,a,ea,w⟩
 obtain ⟨x,ex,rx⟩:=rf.at_ i _ ea
 rw [R_fn] at rx
 subst rx
 obtain ⟨v1,v2,v3⟩:=C.visx hv
 have hvar:=pe_var (X:=X) (i:=i) (x:=y) (pos:=p) (by rw [C.N];exact hN) v1 v2 v3 pins s σ H (fun v H'=>v=V.ref a∧H'=H) I ⟨_,ex,rfl,rfl⟩
 refine wpAny_Call_Name_kw (thn hvar ?_)
 rintro u s1 ⟨v,H1,I1,rv,rfl,rfl⟩
 obtain rfl:u=.ref a:=rv
 have st1:starEach [l] X.env=[(false,eval l X.env)]:=star_no hs
 show wpAny _ _ (callWith pos (.ref a) [] (backTo pos (starEach [l] X.env)) []) _ _ _
 rw [st1]
 refine PySem.W.callWith_of (P:=PySem.W.FnAt a) rfl PySem.W.keeps_F (Calls.evalArgs_plain ?_)
 show wpAny _ _ (spliced ((false,eval l X.env)::backTo pos (starEach [] X.env))) _ _ _
 refine Calls.spliced_cons (thn (he pins s1 σ H1 (fun x H2=>absSp X.K (Γ 1000) [.ref a,x] H2 Q E0) I1 ⟨m,ρ,st,rf,rh,wpE_mono C.mono e (fun v st1 k m1 H2 x1 e1 r1 r2=>?_) w⟩) fun u s2 ⟨x,H2,I2,r1,q⟩=>?_)
 ·exact ⟨m1,st1,[.fn a,v],by rw [Rs_cons',Rs_cons',Rs_nil];exact ⟨R_fn.mpr rfl,r2,rfl⟩,r1,C.mono _ _ _ _ _ (fun _ _ q=>q.ext e1) k⟩
 ·exact Calls.spliced_nil (C.lam hpc I2 r1 q)
theorem cok_lam (C:COk X c Γ) {k:Nat} {z:Str} {caps:List Nat} {sc:Scope} (h:c.lamOk k z caps sc=true) {qual:Str} {f:Addr} {cd:Value} {cl:List (Str × Addr)} {A:Around} {outer:List Env} {s:Shared} {H:Hp} {E:XK}
  (hr:Room k (A.deeper (PySem.W.envX qual sc s.heap.objs.size f cd cl))) :
  COk (cxL CX0 X.prog X.w X.K X.mg X.base (z::caps.filterMap (c.N[·]?)) qual sc f cd cl A outer s H E).nox (c.lam k z caps sc) Γ:=by
 unfold Cfg.lamOk at h
 simp only [Bool.and_eq_true,beq_iff_eq,decide_eq_true_eq,List.all_eq_true,Bool.not_eq_true'] at h
 obtain ⟨⟨⟨⟨⟨⟨⟨⟨⟨⟨h1,h2⟩,h3⟩,h4⟩,h5⟩,h6⟩,h7⟩,h8⟩,h9⟩,h10⟩,h11⟩:=h
 have nocell:∀x,sc.names.lookup x≠some .cell:=fun x e=>by
  have:=h4 _ (PySem.mem_of_lookup e)
  simp at this
 refine ⟨rfl,PassesOwn.never,rfl,h11,fun x h=>h,fun x h=>⟨h,.inr ?_⟩,fun x h=>h,fun x h=>h,?_,fun x h=>h,hr,fun f x hf e=>C.fn f x (Nat.lt_trans (show f<k from hf) (by omega)) e,C.blt,C.gl,C.mono,fun h=>Bool.noConfusion (show false=true from h),fun k h=>by cases h⟩
 ·rcases h with h|h
  ·exact h
  ·exact absurd h (nocell x)
 ·show Env.blockKind (PySem.W.envX qual sc s.heap.objs.size f cd cl)=_
  unfold Env.blockKind
  show (if sc.kind.isAnnotationScope=true then _ else sc.kind)=_
  rw [h1]
  rfl
theorem codeAmong_app {pos pos':Pos} {c cv:Value} (l:List Value) (h:TriplesOk l) (e:codeAmong pos (l++[rawInt pos'.line,rawInt pos'.col,c])=some cv):codeAmong pos l=some cv∨cv=c:=by
 fun_induction TriplesOk l with
 | case1 =>
  simp only [List.nil_append,codeAmong,rawInt] at e
  split at e
  ·cases e;exact .inr rfl
  ·cases e
 | case2 a t b u x rest ih =>
  simp only [List.cons_append,codeAmong] at e ⊢
  split at e
  ·rename_i hc;rw [if_pos hc];exact .inl e
  ·rename_i hc;rw [if_neg hc];exact ih h e
 | case3 l h1 h2=>exact h.elim
theorem Ext.lam {K:PySem.W.Frag} {m:List Addr} {H:Hp} {T:Addr} {ps:Array Value} {pos:Pos} {c' c0:Addr} {oc:Obj} {x:Str} (hx:x∈lamNames) (ht:PySem.W.tabIn K x=some (c0,T)) (hT:H T=some (.tbl ps)) (hn:H c'=none) (ho:codeOb oc (x++".<locals>."++"<lambda>")):Ext K m H m (updL H T ps pos c' oc):=by
 have cT:c'≠T:=fun z=>by rw [z,hT] at hn;cases hn
 have same:∀b,b≠T→b≠c'→updL H T ps pos c' oc b=H b:=fun b h1 h2=>(upd_ne h2).trans (upd_ne h1)
 have nT:∀ {b:Addr} {o:HO},H b=some o→(∀qs,o≠.tbl qs)→b≠T:=fun {b o} e n z=>by rw [z,hT] at e;cases e;exact n _ rfl
 have nc:∀ {b:Addr} {o:HO},H b=some o→b≠c':=fun {b o} e z=>by rw [z,hn] at e;cases e
 have atT:updL H T ps pos c' oc T=some (.tbl (tbl3 ps pos c')):=(upd_ne cT.symm).trans (if_pos rfl)
 have atc:updL H T ps pos c' oc c'=some (.frz oc (.own 0)):=if_pos rfl
 refine ⟨List.prefix_refl _,fun _ z=>.inl z,fun a o _ e n=>?_,fun a ys q=>?_,fun a ys q=>?_,fun a qs _ e=>?_,fun t y hy d T' hd=>?_⟩
 ·rw [same a (nT e n) (nc e)];exact e
 ·rcases q with (q|⟨w,q⟩)|q
  ·exact .inl (.inl (by rw [same a (nT q fun _ z=>nomatch z) (nc q)];exact q))
  ·exact .inl (.inr ⟨w,by rw [same a (nT q fun _ z=>nomatch z) (nc q)];exact q⟩)
  ·exact .inr q
 ·rcases q with ⟨w,q⟩|q
  ·exact .inl ⟨w,by rw [same a (nT q fun _ z=>nomatch z) (nc q)];exact q⟩
  ·exact .inr q
 ·by_cases ha:a=T
  ·subst ha;exact ⟨_,atT⟩
  ·exact ⟨qs,by rw [same a ha (nc e)];exact e⟩
 ·obtain ⟨u,qs,e1,e2,e3⟩:=t y hy d T' hd
  have keepF:∀ {b:Addr} {o:Obj},H b=some (.frz o (.own 0))→updL H T ps pos c' oc b=some (.frz o (.own 0)):=fun {b o} e=>by rw [same b (nT e fun _ z=>nomatch z) (nc e)];exact e
  by_cases hz:T'=T
  ·subst hz
   obtain rfl:x=y:=u x hx c0 ht
   rw [hT] at e1
   cases e1
   refine ⟨u,_,atT,?_,fun p cv q=>?_⟩
   ·rw [Array.toList_append];exact TriplesOk_snoc _ _ _ _ e2
   ·rw [Array.toList_append] at q
    rcases codeAmong_app _ e2 q with q|q
    ·obtain ⟨c2,o2,g1,g2,g3⟩:=e3 p cv q
     exact ⟨c2,o2,g1,keepF g2,g3⟩
    ·exact ⟨c',oc,q,atc,ho⟩
  ·refine ⟨u,qs,by rw [same T' hz (nc e1)];exact e1,e2,fun p cv q=>?_⟩
   obtain ⟨c2,o2,g1,g2,g3⟩:=e3 p cv q
   exact ⟨c2,o2,g1,keepF g2,g3⟩
theorem un_sqT {K:PySem.W.Frag} {fs ex:List Addr} {H H':Hp} {h h':Heap} (u:Un fs ex H H' h h'):(∀a ys,SqT K H a ys→SqT K H' a ys)∧∀a ys,RdF K H a ys→RdF K H' a ys:=by
 refine ⟨fun a ys q=>?_,fun a ys q=>?_⟩
 ·rcases q with (q|⟨w,q⟩)|q
  ·exact .inl (.inl (u.tups _ _ q))
  ·exact .inl (.inr ⟨w,u.frzs _ _ _ q⟩)
  ·exact .inr q
 ·rcases q with ⟨w,q⟩|q
  ·exact .inl ⟨w,u.frzs _ _ _ q⟩
  ·exact .inr q
theorem isCF_or {k:Option NameKind} (h:isCF k=true):k=some .cell∨k=some .free:=by
 unfold isCF at h
 simpa using h
theorem fm_len {N:List Str}:∀ {caps:List Nat},(∀i∈caps,i<N.length)→(caps.filterMap (N[·]?)).length=caps.length
 | [],_=>rfl
 | i::r,h=>by
  have hi:=h i List.mem_cons_self
  rw [List.filterMap_cons,List.getElem?_eq_getElem hi]
  simp only [List.length_cons,fm_len fun j hj=>h j (List.mem_cons_of_mem _ hj)]
theorem fm_get {N:List Str}:∀ {caps:List Nat} {j:Nat} {x:Str},(∀i∈caps,i<N.length)→(caps.filterMap (N[·]?))[j]?=some x→∃i,caps[j]?=some i∧N[i]?=some x
 | [],j,x,_,e=>by simp at e
 | i::r,j,x,h,e=>by
  have hi:=h i List.mem_cons_self
  rw [List.filterMap_cons,List.getElem?_eq_getElem hi] at e
  cases j with
  | zero=>simp only [List.getElem?_cons_zero] at e;cases e;exact ⟨i,rfl,List.getElem?_eq_getElem hi⟩
  | succ j=>simp only [List.getElem?_cons_succ] at e ⊢;exact fm_get (fun j hj=>h j (List.mem_cons_of_mem _ hj)) e
theorem hm_pe (C:COk X c Γ) {k:Nat} (hk:c.hm=some k) {y:Str} {l b:Expr} {a:Arg} {sc:Scope} {p pl pos:Pos} {e be:E} {caps:List Nat} (hy:y="how_many") (hg:c.glb y=true) (hs:noStar l=true) (hl:c.lamOk k a.arg caps sc=true)
  (he:PE X l (TEx X.K (wpE Γ e))) (hb:∀ {X':Cx},COk X' (c.lam k a.arg caps sc) Γ→PE X' b (TEx X'.K (wpE Γ be))) :
  PE X (.Call (.Name y p) [l,.Lambda ⟨[],[a],none,[],[],none,[]⟩ b sc pl] [] pos) (TEx X.K (wpE Γ (.hm e be caps))):=by
 rintro pins s σ H Q I ⟨m,ρ,st,rf,rh,w⟩
 subst hy
 have hx:=C.hmo k hk
 obtain ⟨f,fd,hmg,hkp,hbd,run⟩:=hx.ok.ex
 obtain ⟨x,c0,T,hxl,htab,hcode,hqual,hhd⟩:=hx.cd
 obtain ⟨bm,ob,b1,b2,b3,b4,b5,b6⟩:=hx.bm
 obtain ⟨g1,g2,g3⟩:=C.glbx hg
 have hlo:=hl
 unfold Cfg.lamOk at hlo
 simp only [Bool.and_eq_true,beq_iff_eq,decide_eq_true_eq,List.all_eq_true,Bool.not_eq_true',Bool.or_eq_true] at hlo
 obtain ⟨⟨⟨⟨⟨⟨⟨⟨⟨⟨h1,h2⟩,h3⟩,h4⟩,h5⟩,h6⟩,h7⟩,h8⟩,h9⟩,h10⟩,h11⟩:=hlo
 have hfree:∀y∈sc.names,y.2=.free→∃c,X.env.cells.lookup y.1=some c:=fun y hy hf=>I.ok.has _ (C.cel _ (isCF_or ((h7 y hy).resolve_left fun z=>by rw [hf] at z;cases z)))
 have hcl:closureFor sc X.env=pure (clOf X.env sc.names []):=closure_ok hfree
 have clg:∀ {y c},(clOf X.env sc.names []).lookup y=some c→X.env.cells.lookup y=some c:=fun {y c} q=>clOf_get hfree (fun _ _ z=>by simp at z) q
 have S:LamScope a.arg sc (clOf X.env sc.names []):=⟨h1,h2,h3,fun y hy z=>(by have:=h4 y hy;rw [z] at this;simp at this),h5,fun y hy=>clOf_has (PySem.mem_of_lookup hy),fun y z c e1 e2=>I.ok.inj y z c (clg e1) (clg e2)⟩
 refine wpAny_Call_Name_kw (ld_glob I g1 hmg ?_ g2)
 refine PySem.W.callWith_K (h₀:=X.base) I.ok.mod.kin hkp ?_ (star_no hs) (by rw [star_no rfl];rfl)
 rw [star_no hs]
 show wpAny _ _ (spliced ((false,eval l X.env)::backTo pos (starEach [.Lambda ⟨[],[a],none,[],[],none,[]⟩ b sc pl] X.env))) _ _ s
 refine Calls.spliced_cons (thn (he pins s σ H (fun x1 H1=>∃m1 v st1,Ext X.K m H m1 H1∧RH X.K m1 H1 st1∧R X.K m1 H1 v x1∧∃xs,v=.tup xs∧xs.length≤100000∧(∀i∈caps,∃c,ρ[i]?=some (some c)∧c.bel 0=true) ∧
   ∃g:PV→Bool,(∀y∈xs,∀Q':EK,Q' (.bl (g y)) st1→wpE Γ be (some y::caps.map fun i=>(ρ[i]?).join) st1 Q')∧post X.K m H Q (.int (bsr g xs)) st1) I ⟨m,ρ,st,rf,rh,wpE_mono C.mono e (fun v st1 kk m1 H1 x1 e1 r1 r2=>⟨m1,v,st1,e1,r1,r2,kk⟩) w⟩) ?_)
 rintro u s1 ⟨x1,H1,I1,ru,m1,v,st1,e1,r1,r2,xs,rfl,hlen,hcaps,g,hgg,hq⟩
 rw [star_no (rfl:noStar (.Lambda ⟨[],[a],none,[],[],none,[]⟩ b sc pl)=true)]
 show wpAny _ _ (spliced ((false,eval (.Lambda ⟨[],[a],none,[],[],none,[]⟩ b sc pl) X.env)::backTo pos (starEach [] X.env))) _ _ s1
 obtain ⟨uq,ps,hT,htr,hcodes⟩:=r1.tb x hxl c0 T htab
 have nb:∀ {z:Addr} {o:Obj},X.base.get? z=some o→z≠T:=fun {z o} ez q=>by
  have:=(I1.bs z o ez).2
  rw [q,hT] at this
  cases this
 have nmg:bm≠mainGlobals:=fun z=>by
  obtain ⟨o,es,ep,q,d,_⟩:=I.mod.glob
  rw [z,q] at b3
  cases b3
  rw [d] at b6
  cases b6
 have hbm:s1.heap.BuiltinsAt X.mg T:=⟨bm,ob,b1,b2,nmg,nb b3,I1.bk _ _ b3,b4,b5,b6⟩
 refine Calls.spliced_cons (lam_make I1 hcode (hhd.keeps I1.bk) hT htr (fun cv q=>?_) hbm hcl rfl (fun f' H2 s2 pm c' ctv oc I2 hobj hoc hob hf hge hH=>?_))
 ·obtain ⟨c',oc,q1,q2,q3⟩:=hcodes pl cv q
  exact ⟨c',oc,q1,q2,by rw [hqual];exact q3⟩
 have hob':codeOb oc (x++".<locals>."++"<lambda>"):=by rw [←hqual];exact hob
 have e2:Ext X.K m1 H1 m1 H2:=by
  rcases hH with z|⟨hn,_,_,z⟩
  ·rw [z];exact Ext.refl _ _ _
  ·rw [z];exact Ext.lam hxl htab hT hn hob'
 have r3:RH X.K m1 H2 st1:=r1.keep e2 fun z hz=>by
  rcases hH with q|⟨hn,_,_,q⟩
  ·rw [q]
  ·rw [q]
   exact (upd_ne (show z≠c' from fun q=>r1.fresh hn (by rw [←q];exact hz))).trans (upd_ne (show z≠T from fun q=>r1.mem_tbl (by rw [←q];exact hz) hT))
 have hL:FMono fun as st Q=>∃y,as=[y]∧wpE Γ be (some y::caps.map fun i=>(ρ[i]?).join) st Q:=fun as st Q Q' h ⟨y,e,q⟩=>⟨y,e,wpE_mono C.mono be h q⟩
 have sp:absSp X.K (spHm f' fun as st Q=>∃y,as=[y]∧wpE Γ be (some y::caps.map fun i=>(ρ[i]?).join) st Q) [x1,.ref f'] H2 Q E0 :=
  ⟨m1,st1,[.tup xs,.fn f'],by rw [Rs_cons',Rs_cons',Rs_nil];exact ⟨r2.mono e2,R_fn.mpr rfl,rfl⟩,r3,xs,g,rfl,hlen,fun y hy Q' q=>⟨y,rfl,hgg y hy Q' q⟩,(hq.ext e1).ext e2⟩
 refine Calls.spliced_nil ⟨I2.kIn,wpAny_call (codeAny_mono (run f' _ hL X.A X.stack s2 H2 ⟨[u,.ref f'],[]⟩ [u,.ref f'] [x1,.ref f'] Q (C.room.mono (by omega)) I2.env0 (hbd s2 [u,.ref f'] I2.kIn rfl) (.cons ru (.cons rfl .nil)) ?_ sp) fun r s' hq=>?_)⟩
 ·intro A' outer' s' H' u' v' Q' hr' e0' un rv' ⟨m',st',as,ra,rh',y,eas,wy⟩
  subst eas
  have hfr:f' ∉ frs X.stack:=fun z=>by
   have lt:f'<s1.heap.objs.size:=by
    rcases List.mem_cons.mp (I1.stkSub f' z) with q|q
    ·rw [q];exact I1.lt
    ·obtain ⟨_,o,ho,_⟩:=I1.ok.funs.mem q
     exact Nat.lt_of_lt_of_le (Heap.lt_size ho) I1.sz
   exact absurd hge (Nat.not_le.mpr lt)
  have hobj':=un.keep f' _ hobj hf hfr (by simp)
  have hoc':H' c'=some (.frz oc (.own 0)):=un.frzs _ _ _ hoc
  have hrec:s'.heap.CodeRec (.ref c') (X.env.qual++"<lambda>"):=by
   obtain ⟨vs,t,d1,d2⟩:=hob
   exact ⟨c',oc,vs,t,rfl,(e0'.hok _ _ hoc').1,d1,d2⟩
  have cellK:∀ {d:Addr} {z:Option Value},H2 d=none→s2.heap.IsCell d z→s'.heap.IsCell d z:=fun {d z} hn ⟨o,ho,hd⟩=>by
   obtain ⟨sl,q⟩:=un.any ho hn (by simp)
   exact ⟨_,q,hd⟩
  refine ⟨⟨_,_,_,_,hobj'⟩,?_⟩
  refine lam_run (k:=k) (N:=a.arg::caps.filterMap (c.N[·]?)) (σ:=some v'::caps.map fun i=>(σ[i]?).join) ⟨pm,c',ctv,hobj',hrec⟩ S hr' e0' rv' lam_bind (fun y d q=>?_) (fun i y z q1 q2=>?_) ?_ (fun cd hroom=>⟨_,hb (cok_lam C hl hroom),m',some y::caps.map (fun i=>(ρ[i]?).join),st',?_,rh',wy⟩)
  ·have q':=clg q
   obtain ⟨z,hz⟩:=I2.cell y d q'
   obtain ⟨o,ho,_⟩:=id hz
   exact ⟨⟨z,cellK (I2.freeC y d q') hz⟩,un.free d o ho (I2.freeC y d q') (by simp)⟩
  ·cases i with
   | zero =>
    simp only [List.getElem?_cons_zero] at q1 q2
    cases q1;cases q2
    exact .inl ⟨rfl,rfl⟩
   | succ i =>
    simp only [List.getElem?_cons_succ] at q1 q2
    obtain ⟨j,e3,e4⟩:=fm_get h9 q1
    rw [List.getElem?_map,e3] at q2
    have q2':(σ[j]?).join=some z:=by simpa using q2
    have q3:σ[j]?=some (some z):=by
     cases q:σ[j]? with
     | none=>rw [q] at q2';cases q2'
     | some o=>rw [q] at q2';exact congrArg some q2'
    have hy:=h10 y (List.mem_of_getElem? q1)
    obtain ⟨mm,hn,hlook⟩:=I2.loc
    have vis:Vis X.env.scope y:=by
     rcases isCF_or hy.2 with q|q
     ·exact C.vis y (.inr (.inl q))
     ·exact C.vis y (.inr (.inr q))
    obtain ⟨uu,rr,lk⟩:=hlook j y z (by rw [C.N];exact e4) q3 vis
    refine .inr ⟨hy.1,?_⟩
    rcases lk with ⟨kd,_⟩|⟨_,d,e5,e6⟩
    ·rcases C.cel y (isCF_or hy.2) with q|q <;> rw [kd] at q <;> cases q
    ·obtain ⟨d2,e7⟩:=S.free y hy.1
     have e8:=clg e7
     rw [e5] at e8
     cases e8
     exact ⟨d,uu,e7,cellK (I2.freeC y d e5) e6,rr⟩
  ·simp [fm_len h9]
  ·rw [Rs_cons',Rs_nil] at ra
   have ut:=un_sqT (K:=X.K) un
   refine ⟨by simp,fun i z q=>?_⟩
   cases i with
   | zero =>
    simp only [List.getElem?_cons_zero] at q ⊢
    cases q
    exact ⟨v',rfl,ra.1⟩
   | succ i =>
    simp only [List.getElem?_cons_succ] at q ⊢
    rw [List.getElem?_map] at q
    cases e3:caps[i]? with
    | none=>rw [e3] at q;cases q
    | some j =>
     rw [e3] at q
     obtain ⟨cc,e4,e5⟩:=hcaps j (List.mem_of_getElem? e3)
     have q':(ρ[j]?).join=some z:=by simpa using q
     rw [e4] at q'
     obtain rfl:cc=z:=by simpa using q'
     obtain ⟨xv,e6,e7⟩:=rf.at_ j _ e4
     refine ⟨xv,by rw [List.getElem?_map,e3,Option.map_some,e6];rfl,?_⟩
     have r0:R X.K [] H cc xv:=by have:=R.cut e7 (PV.bel_bec (Nat.le_refl _) e5);rwa [List.take_zero] at this
     have r1:R X.K [] H1 cc xv:=R.mono0 e1.tup e1.rdf r0
     have r2:R X.K [] H2 cc xv:=R.mono0 e2.tup e2.rdf r1
     exact R.pre (List.nil_prefix) (R.mono0 ut.1 ut.2 r2)
 ·cases r with
  | error e=>exact False.elim hq
  | ok fl =>
   cases fl with
   | ret u=>exact I2.after hq
   | next=>exact False.elim hq
   | brk=>exact False.elim hq
   | cont=>exact False.elim hq
end
end FW
set_option Elab.async false
set_option linter.all false
set_option maxRecDepth 100000
set_option maxHeartbeats 1000000
namespace FW
open PySem PySem.Spec PyProof.Rows L2 HX
section
variable {Γ:Nat→FSp}
theorem bodyC_mono (G:GMono Γ) {elt:E} {tg:Tg} {ifs:Es} {ρ:Fr} {x:PV} {st:AH} {k k':Option PV→AH→Prop} (hk:∀o st,k o st→k' o st) (q:bodyC Γ elt tg ifs ρ x st k):bodyC Γ elt tg ifs ρ x st k' :=
 wpTg_mono G tg (fun ρ' st3 w=>wpAT_mono G ifs (fun c st4 w=>by
  cases c with
  | true=>rw [if_pos rfl] at w ⊢;exact wpE_mono G elt (fun v st5 w=>hk _ _ w) w
  | false=>rw [if_neg Bool.false_ne_true] at w ⊢;exact hk _ _ w) w) q
theorem Ext.addD {K:PySem.W.Frag} {m m2:List Addr} {H H2:Hp} {D:Addr} (x:Ext K m H m2 H2) (h0:H D=none):Ext K m H (m2++[D]) H2:=by
 refine ⟨x.pre.trans (List.prefix_append _ _),fun a ha=>?_,x.fr,x.tup,x.rdf,x.tbs,x.tb⟩
 rcases List.mem_append.mp ha with z|z
 ·exact x.new a z
 ·rw [List.mem_singleton] at z
  subst z
  exact .inr h0
theorem RH.addD {K:PySem.W.Frag} {m:List Addr} {H:Hp} {st:AH} {D:Addr} {vs:List PV} {ys:List V} (h:RH K m H st) (Dm:D ∉ m) (hD:H D=some (.lst ys)) (r:Rs K m H vs ys):RH K (m++[D]) H (st++[.lst vs]):=by
 have hp:m <+: m++[D]:=List.prefix_append _ _
 refine ⟨by simp [h.len],List.nodup_append.mpr ⟨h.nd,List.nodup_cons.mpr ⟨by simp,List.nodup_nil⟩,fun a ha b hb z=>?_⟩,fun n c' a h1 h2=>?_,h.tb⟩
 ·rw [List.mem_singleton] at hb
  subst hb
  exact Dm (z ▸ ha)
 ·by_cases hn:n<st.length
  ·rw [List.getElem?_append_left hn] at h1
   rw [List.getElem?_append_left (by rw [h.len];exact hn)] at h2
   have hc:=h.at_ n c' a h1 h2
   cases c' with
   | lst xs=>obtain ⟨us,g1,g2⟩:=hc;exact ⟨us,g1,g2.pre hp⟩
   | dk kvs=>obtain ⟨us,g1,g2,g3⟩:=hc;exact ⟨us,g1,g2,g3.pre hp⟩
  ·rw [List.getElem?_append_right (by omega)] at h1
   rw [List.getElem?_append_right (by rw [h.len];omega)] at h2
   have hl:=h.len
   by_cases hz:n-st.length=0
   ·rw [hz] at h1
    rw [show n-m.length=0 by omega] at h2
    simp at h1 h2
    subst h1 h2
    exact ⟨ys,hD,r.pre hp⟩
   ·rw [List.getElem?_eq_none (by simp;omega)] at h1
    cases h1
theorem block_ok {X:Cx} {c:Cfg} (C:COk X c Γ) {nt:List Str} {caps:List Nat} {sc:Scope} (h:c.block nt caps sc=true) :
  CScope X sc∧(∀i∈caps,i<X.N.length)∧(∀x∈caps.filterMap (X.N[·]?),sc.names.lookup x=some .free)∧(∀x∈caps.filterMap (X.N[·]?),X.env.kindOf x=some .cell∨X.env.kindOf x=some .free)∧(nt++caps.filterMap (X.N[·]?)).Nodup:=by
 unfold Cfg.block at h
 simp only [Bool.and_eq_true,List.all_eq_true,beq_iff_eq,decide_eq_true_eq,Bool.or_eq_true,Bool.not_eq_true',beq_eq_false_iff_ne] at h
 obtain ⟨⟨⟨⟨⟨⟨h1,h2⟩,h3⟩,h4⟩,h5⟩,h6⟩,h7⟩:=h
 rw [C.N]
 refine ⟨⟨h1,fun y hy=>h2 y hy,fun y hy e=>?_,fun y hy e=>?_⟩,h5,fun x hx=>(h6 x hx).1,fun x hx=>C.cel x (isCF_or (h6 x hx).2),h7⟩
 ·rcases h3 y hy with z|z
  ·exact absurd e z
  ·exact z
 ·rcases h4 y hy with z|z
  ·exact absurd e z
  ·exact C.cel _ (isCF_or z)
theorem cok_in {X:Cx} {c:Cfg} (C:COk X c Γ) {nt:List Str} {caps:List Nat} {sc:Scope} (h:c.block nt caps sc=true) {s2:Shared} {H2:Hp} {fp:List Addr} {A:Addr} :
  COk (cxC X (nt++caps.filterMap (X.N[·]?)) s2 H2 fp sc A) (c.inner nt caps sc) Γ:=by
 obtain ⟨S,k1,k2,k3,k4⟩:=block_ok C h
 have nocell:∀x,sc.names.lookup x≠some .cell:=fun x e=>S.nocell _ (PySem.mem_of_lookup e) rfl
 refine ⟨C.calm,PassesOwn.never,?_,?_,fun x hx=>?_,fun x hx=>?_,fun x hx=>lookup_relabel_local hx,fun x hx=>relabel_glob hx,?_,fun x hx=>?_,C.room,C.fn,C.blt,C.gl,C.mono,fun h=>Bool.noConfusion (show false=true from h),fun k h=>by cases h⟩
 ·show nt++caps.filterMap (X.N[·]?)=nt++caps.filterMap (c.N[·]?)
  rw [C.N]
 ·show (nt++caps.filterMap (c.N[·]?)).Nodup
  rw [←C.N]
  exact k4
 ·rcases hx with hx|hx|hx
  ·exact .inl (lookup_relabel_local hx)
  ·exact absurd hx (nocell x)
  ·rcases relabel_free (env:=X.env) hx with z|z
   ·exact .inr (.inl z)
   ·exact .inr (.inr z)
 ·rcases hx with hx|hx
  ·exact ⟨.inl (lookup_relabel_local hx),.inr (lookup_relabel_local hx)⟩
  ·exact absurd hx (nocell x)
 ·show Env.blockKind (compEnvC sc (clOf X.env sc.names []) A X.env)=_
  unfold Env.blockKind
  show (if sc.kind.isAnnotationScope=true then _ else sc.kind)=_
  rw [S.kind]
  rfl
 ·rcases hx with hx|hx
  ·exact absurd hx (nocell x)
  ·exact relabel_free hx
mutual
theorem sndE:∀(e:E) {X:Cx} {c:Cfg} (C:COk X c Γ) (x:Expr),chkE c e x=true→PE X x (TEx X.K (wpE Γ e))
 | .var i,X,c,C,x,h=>by
  replace h:=onName_inv h
  obtain ⟨y,p,rfl,h⟩:=h
  ·exact var_pe C h
 | .int i,X,c,C,x,h=>by
  replace h:=onInt_inv h
  obtain ⟨j,k,p,rfl,h⟩:=h
  ·rw [beq_iff_eq] at h;subst h
   rintro pins s σ H Q I ⟨m,ρ,st,rf,rh,w⟩
   skip
   exact pe_int pins s σ H Q I (w.here rh (R_int.mpr rfl))
 | .bl i,X,c,C,x,h=>by
  replace h:=onBl_inv h
  obtain ⟨j,k,p,rfl,h⟩:=h
  ·rw [beq_iff_eq] at h;subst h
   rintro pins s σ H Q I ⟨m,ρ,st,rf,rh,w⟩
   skip
   exact pe_bl pins s σ H Q I (w.here rh (R_bl.mpr rfl))
 | .non,X,c,C,x,h=>by
  replace h:=onNon_inv h
  obtain ⟨k,p,rfl⟩:=h
  ·rintro pins s σ H Q I ⟨m,ρ,st,rf,rh,w⟩
   skip
   exact pe_non pins s σ H Q I (w.here rh (R_non.mpr rfl))
 | .str i,X,c,C,x,h=>by
  replace h:=onStr_inv h
  obtain ⟨j,k,p,rfl,h⟩:=h
  ·rw [beq_iff_eq] at h;subst h
   rintro pins s σ H Q I ⟨m,ρ,st,rf,rh,w⟩
   skip
   exact pe_str pins s σ H Q I (w.here rh (R_str.mpr rfl))
 | .gv y v,X,c,C,x,h=>by
  replace h:=onName_inv h
  obtain ⟨z,p,rfl,h⟩:=h
  ·simp only [Bool.and_eq_true,beq_iff_eq] at h
   obtain ⟨⟨h1,h2⟩,h3⟩:=h
   subst h1
   obtain ⟨g1,g2,_⟩:=C.glbx h2
   replace h3:=onSome_inv h3
   obtain ⟨w,hw,h3⟩:=h3
   ·have:=PV.same_eq h3
    subst this
    obtain ⟨u,z,e1,e2,e3⟩:=C.gl _ _ hw
    rintro pins s σ H Q I ⟨m,ρ,st,rf,rh,w⟩
    skip
    exact pe_glob g1 e1 e2 g2 pins s σ H Q I (w.here rh (e3 m H))
 | .tup es,X,c,C,x,h=>by
  replace h:=onTuple_inv h
  obtain ⟨xs,k,p,rfl,h⟩:=h
  ·rintro pins s σ H Q I ⟨m,ρ,st,rf,rh,w⟩
   skip
   refine pe_tup (sndEs es C _ h) pins s σ H Q I ⟨m,ρ,st,rf,rh,wpEs_mono C.mono es (fun vs st1 k m1 H1 xs1 e1 r1 r2=>⟨by rw [←r2.len];exact small5 k.1,fun p hp=>?_⟩) w⟩
   exact (k.2.ext e1).newT r1 r2 hp
 | .lst es,X,c,C,x,h=>by
  replace h:=onList_inv h
  obtain ⟨xs,p,rfl,h⟩:=h
  ·rintro pins s σ H Q I ⟨m,ρ,st,rf,rh,w⟩
   skip
   refine pe_lst (sndEs es C _ h) pins s σ H Q I ⟨m,ρ,st,rf,rh,wpEs_mono C.mono es (fun vs st1 k m1 H1 xs1 e1 r1 r2=>⟨by rw [←r2.len];exact small5 k.1,fun p hp=>?_⟩) w⟩
   exact (k.2.ext e1).newL r1 r2 hp
 | .bad,X,c,C,x,h=>by rintro pins s σ H Q I ⟨m,ρ,st,rf,rh,w⟩;exact False.elim w
 | .dct0,X,c,C,x,h=>by rintro pins s σ H Q I ⟨m,ρ,st,rf,rh,w⟩;exact False.elim w
 | .dct1 _ _,X,c,C,x,h=>by rintro pins s σ H Q I ⟨m,ρ,st,rf,rh,w⟩;exact False.elim w
 | .bin op a b,X,c,C,x,h=>by
  replace h:=onBin_inv h
  obtain ⟨l,o,r,p,rfl,h⟩:=h
  ·simp only [Bool.and_eq_true,beq_iff_eq] at h
   obtain ⟨⟨h1,h2⟩,h3⟩:=h
   subst h1
   rintro pins s σ H Q I ⟨m,ρ,st,rf,rh,w⟩
   skip
   exact pe_op (bin_ok _) (sndE a C _ h2) (sndE b C _ h3) pins s σ H Q I ⟨m,ρ,st,rf,rh,wpE_mono C.mono a (fun v st1 k m1 H1 x1 e1 r1 r2=>⟨m1,ρ,st1,rf.mono e1,r1,
    wpE_mono C.mono b (fun u st2 k2 m2 H2 y2 e2 r3 r4=>⟨m2,st2,v,u,r3,r2.mono e2,r4,binW_mono (fun _ _ q=>q.ext (e1.trans e2)) k2⟩) k⟩) w⟩
 | .neg a,X,c,C,x,h=>by
  replace h:=onNeg_inv h
  obtain ⟨y,p,rfl,h⟩:=h
  ·rintro pins s σ H Q I ⟨m,ρ,st,rf,rh,w⟩
   skip
   refine pe_un un_neg (sndE a C _ h) pins s σ H Q I ⟨m,ρ,st,rf,rh,wpE_mono C.mono a (fun v st1 k m1 H1 x1 e1 r1 r2=>?_) w⟩
   obtain ⟨i,rfl,k⟩:=k
   rw [R_int] at r2
   subst r2
   exact ⟨i,rfl,(k.ext e1).here r1 (R_int.mpr rfl)⟩
 | .not a,X,c,C,x,h=>by
  replace h:=onNot_inv h
  obtain ⟨y,p,rfl,h⟩:=h
  ·rintro pins s σ H Q I ⟨m,ρ,st,rf,rh,w⟩
   skip
   refine pe_not (sndE a C _ h) pins s σ H Q I ⟨m,ρ,st,rf,rh,wpE_mono C.mono a (fun v st1 k m1 H1 x1 e1 r1 r2=>?_) w⟩
   obtain ⟨i,rfl,k⟩:=k
   rw [R_bl] at r2
   subst r2
   exact ⟨i,rfl,(k.ext e1).here r1 (R_bl.mpr rfl)⟩
 | .cmp op a b,X,c,C,x,h=>by
  replace h:=onCmp_inv h
  obtain ⟨l,o,r,p,rfl,h⟩:=h
  ·simp only [Bool.and_eq_true,beq_iff_eq,Bool.not_eq_true',beq_eq_false_iff_ne] at h
   obtain ⟨⟨⟨h1,n1⟩,h2⟩,h3⟩:=h
   subst h1
   rintro pins s σ H Q I ⟨m,ρ,st,rf,rh,w⟩
   skip
   exact pe_cmpR (cmp_ok C.room.units _) (sndE a C _ h2) (sndE b C _ h3) n1 pins s σ H Q I ⟨m,ρ,st,rf,rh,wpE_mono C.mono a (fun v st1 k m1 H1 x1 e1 r1 r2=>⟨m1,ρ,st1,rf.mono e1,r1,
    wpE_mono C.mono b (fun u st2 k2 m2 H2 y2 e2 r3 r4=>⟨m2,st2,v,u,r3,r2.mono e2,r4,cmpW_mono (fun _ _ q=>q.ext (e1.trans e2)) k2⟩) k⟩) w⟩
 | .bop true es,X,c,C,x,h=>by
  replace h:=onBop_inv h
  obtain ⟨o,xs,p,rfl,h⟩:=h
  ·simp only [Bool.and_eq_true,beq_iff_eq,Bool.not_eq_true'] at h
   obtain ⟨⟨h1,h2⟩,h3⟩:=h
   subst h1
   rintro pins s σ H Q I ⟨m,ρ,st,rf,rh,w⟩
   skip
   exact sndAV es C _ _ h2 h3 pins s σ H Q I ⟨m,ρ,st,rf,rh,w⟩
 | .bop false es,X,c,C,x,h=>by
  replace h:=onBop_inv h
  obtain ⟨o,xs,p,rfl,h⟩:=h
  ·simp only [Bool.and_eq_true,beq_iff_eq,Bool.not_eq_true'] at h
   obtain ⟨⟨h1,h2⟩,h3⟩:=h
   subst h1
   rintro pins s σ H Q I ⟨m,ρ,st,rf,rh,w⟩
   skip
   exact sndOV es C _ _ h2 h3 pins s σ H Q I ⟨m,ρ,st,rf,rh,w⟩
 | .ite t a b,X,c,C,x,h=>by
  replace h:=onIte_inv h
  obtain ⟨y,l,r,p,rfl,h⟩:=h
  ·simp only [Bool.and_eq_true] at h
   obtain ⟨⟨h1,h2⟩,h3⟩:=h
   rintro pins s σ H Q I ⟨m,ρ,st,rf,rh,w⟩
   skip
   refine pe_ifExp (sndT t C _ h1) (sndE a C _ h2) (sndE b C _ h3) pins s σ H Q I ⟨m,ρ,st,rf,rh,wpT_mono C.mono t (fun k st1 z m1 H1 e1 r1=>?_) w⟩
   cases k with
   | true=>rw [if_pos rfl] at z ⊢;exact ⟨m1,ρ,st1,rf.mono e1,r1,wpE_mono C.mono a (fun _ _ q=>q.ext e1) z⟩
   | false=>rw [if_neg Bool.false_ne_true] at z ⊢;exact ⟨m1,ρ,st1,rf.mono e1,r1,wpE_mono C.mono b (fun _ _ q=>q.ext e1) z⟩
 | .ix a b,X,c,C,x,h=>by
  replace h:=onSub_inv h
  obtain ⟨l,r,p,rfl,h⟩:=h
  ·simp only [Bool.and_eq_true] at h
   obtain ⟨⟨h1,h2⟩,h3⟩:=h
   rintro pins s σ H Q I ⟨m,ρ,st,rf,rh,w⟩
   skip
   exact pe_ixq ix_ok (sndE a C _ h2) (sndE b C _ h3) h1 pins s σ H Q I ⟨m,ρ,st,rf,rh,wpE_mono C.mono a (fun v st1 k m1 H1 x1 e1 r1 r2=>⟨m1,ρ,st1,rf.mono e1,r1,
    wpE_mono C.mono b (fun u st2 k2 m2 H2 y2 e2 r3 r4=>⟨m2,st2,v,u,r3,r2.mono e2,r4,ixW_mono (fun _ _ q=>q.ext (e1.trans e2)) k2⟩) k⟩) w⟩
 | .sl a lo hi,X,c,C,x,h=>by
  replace h:=onSub_inv h
  obtain ⟨l,r,p,rfl,h⟩:=h
  replace h:=onSlice_inv h
  obtain ⟨u,v,p2,rfl,h⟩:=h
  ·simp only [Bool.and_eq_true] at h
   obtain ⟨⟨h1,h2⟩,h3⟩:=h
   rintro pins s σ H Q I ⟨m,ρ,st,rf,rh,w⟩
   skip
   exact pe_slice sl_ok (sndE a C _ h1) (sndO lo C _ h2) (sndO hi C _ h3) pins s σ H Q I ⟨m,ρ,st,rf,rh,wpE_mono C.mono a (fun v st1 k m1 H1 x1 e1 r1 r2=>⟨m1,ρ,st1,rf.mono e1,r1,
    wpO_mono C.mono lo (fun l st2 k2 m2 H2 e2 r3=>⟨m2,ρ,st2,(rf.mono e1).mono e2,r3,wpO_mono C.mono hi (fun u st3 k3 m3 H3 e3 r4=>⟨m3,st3,v,r4,(r2.mono e2).mono e3,slW_mono (fun _ _ q=>q.ext ((e1.trans e2).trans e3)) k3⟩) k2⟩) k⟩) w⟩
 | .call f es,X,c,C,x,h=>by
  replace h:=onCall_inv h
  obtain ⟨g,xs,p,rfl,h⟩:=h
  replace h:=onName_inv h
  obtain ⟨y,p2,rfl,h⟩:=h
  ·simp only [Bool.and_eq_true] at h
   obtain ⟨⟨h1,h2⟩,h3⟩:=h
   rintro pins s σ H Q I ⟨m,ρ,st,rf,rh,w⟩
   skip
   exact call_any C h1 h2 h3 (sndEs es C _ h3) pins s σ H Q I ⟨m,ρ,st,rf,rh,w⟩
 | .blt b es,X,c,C,x,h=>by
  replace h:=onCall_inv h
  obtain ⟨g,xs,p,rfl,h⟩:=h
  replace h:=onName_inv h
  obtain ⟨y,p2,rfl,h⟩:=h
  ·simp only [Bool.and_eq_true,beq_iff_eq,Bool.not_eq_true'] at h
   obtain ⟨⟨⟨⟨h1,h2⟩,h3⟩,h4⟩,h5⟩:=h
   rintro pins s σ H Q I ⟨m,ρ,st,rf,rh,w⟩
   skip
   exact call_blt C h1 h2 h3 h4 (sndEs es C _ h5) pins s σ H Q I ⟨m,ρ,st,rf,rh,w⟩
 | .inst a t,X,c,C,x,h=>by
  replace h:=onCall_inv h
  obtain ⟨g,xs,p,rfl,h⟩:=h
  replace h:=onName_inv h
  obtain ⟨y,p2,rfl,h⟩:=h
  replace h:=on2_inv h
  obtain ⟨l,r,rfl,h⟩:=h
  replace h:=onName_inv h
  obtain ⟨z,p3,rfl,h⟩:=h
  ·rw [Bool.and_eq_true] at h
   exact inst_pe C h.1 (sndE a C _ h.2)
 | .met mm o es,X,c,C,x,h=>by
  replace h:=onCall_inv h
  obtain ⟨g,xs,p,rfl,h⟩:=h
  replace h:=onAttr_inv h
  obtain ⟨y,n,p2,rfl,h⟩:=h
  ·simp only [Bool.and_eq_true,beq_iff_eq,decide_eq_true_eq] at h
   obtain ⟨⟨⟨⟨⟨⟨h1,h2⟩,h3⟩,h4⟩,h0⟩,h5⟩,h6⟩:=h
   exact call_met C h1 (by rw [h2];simp) h3 h4 h0 (sndE o C _ h5) (sndEs es C _ h6) h6
 | .comp elt tg it ifs nt caps,X,c,C,x,h=>by
  replace h:=onLC_inv h
  obtain ⟨ex,gs,sc,pos,rfl,h⟩:=h
  replace h:=on1_inv h
  obtain ⟨g,rfl,h⟩:=h
  obtain ⟨tx,ix,fx,ia⟩:=g
  dsimp only at h
  ·simp only [Bool.and_eq_true,beq_iff_eq] at h
   obtain ⟨⟨⟨⟨⟨⟨⟨⟨h1,h0⟩,h2⟩,h3⟩,h4⟩,h5⟩,h6⟩,h7⟩,h8⟩:=h
   subst h1
   obtain ⟨S,k1,k2,k3,k4⟩:=block_ok C h4
   have hC:∀s2 H2 fp A,COk (cxC X (nt++caps.filterMap (X.N[·]?)) s2 H2 fp sc A) (c.inner nt caps sc) Γ:=fun s2 H2 fp A=>cok_in C h4
   rintro pins s σ H Q I ⟨m,ρ,st,rf,rh,w⟩
   skip
   rw [eval_ListComp]
   refine comp_core (elt:=elt) (tg:=tg) (ifs:=ifs) (nt:=nt) (caps:=caps) (use:=none) (Fin:=fun D H'=>Q (.ref D) H') (wi:=TIx X.K (wpIt Γ it)) C.mono C.calm S rfl k1 k2 k3 h2 h3 (sndIt it C ix h0 h5) (fun s2 H2 fp A=>sndTg tg (hC s2 H2 fp A) _ h6) (fun s2 H2 fp A=>sndPTs ifs (hC s2 H2 fp A) _ h7) (fun s2 H2 fp A=>sndE elt (hC s2 H2 fp A) _ h8) I ?_ ?_
   ·refine ⟨m,ρ,st,rf,rh,wpIt_mono C.mono it (fun xs chk st1 z m1 H1 J e1 r1 W=>⟨m1,ρ,st1,xs,chk,rf.mono e1,r1,W,z.1,?_⟩) w⟩
    refine compW_mono (body:=bodyC Γ elt tg ifs (nt.map (fun _=>none)++caps.map fun i=>(ρ[i]?).join)) (fun _ _ _ _ hk q=>bodyC_mono C.mono hk q) (fun vs st2 k m2 H2 D ys e2 r2 Dm hD0 hD ry=>?_) z.2
    have hD1:H D=none:=by
     cases q:H D with
     | none=>rfl
     | some o =>
      by_cases hm:D∈m
      ·exact absurd ((e1.trans e2).pre.subset hm) Dm
      ·exact absurd hD0 (e1.ne hm q)
    exact k _ _ _ ((e1.trans e2).addD hD1) (r2.addD Dm hD ry) (R.last r2.len)
   ·intro C' D H' s' m' I' ns fp F
    refine ⟨m',ns,fun h' hs'=>?_⟩
    exact ⟨.ref D,H',I'.turned (t':=s'.toks) (fun b o hb e=>hs'.extBut b o hb e) fp.1 fp.2.1 fp.2.2.2.1 fp.2.2.2.2.1 fp.2.2.2.2.2,rfl,F⟩
 | .tmp a,X,c,C,x,h=>by
  have h:chkE c a x=true:=h
  rintro pins s σ H Q I ⟨m,ρ,st,rf,rh,w⟩
  skip
  refine sndE a C x h pins s σ H Q I ⟨m,ρ,st,rf,rh,wpE_mono C.mono a (fun v st1 k m1 H1 x1 e1 r1 r2=>?_) w⟩
  obtain ⟨st2,q,e2,r3,r4⟩:=tmp_end rh e1 r1 r2 k
  exact q m H1 x1 e2 r3 r4
 | .jrev _,X,c,C,x,h=>by rintro pins s σ H Q I ⟨m,ρ,st,rf,rh,w⟩;exact False.elim w
 | .pcall i e,X,c,C,x,h=>by
  have hh:=(Bool.and_eq_true _ _).mp h
  have hpc:=hh.1
  replace h:=hh.2
  replace h:=onCall_inv h
  obtain ⟨g,xs,p,rfl,h⟩:=h
  replace h:=onName_inv h
  obtain ⟨y,p2,rfl,h⟩:=h
  replace h:=on1_inv h
  obtain ⟨l,rfl,h⟩:=h
  ·simp only [Bool.and_eq_true,beq_iff_eq] at h
   obtain ⟨⟨⟨h1,h2⟩,h3⟩,h4⟩:=h
   exact pcall_pe C hpc h1 h2 h3 (sndE e C _ h4)
 | .hm e be caps,X,c,C,x,h=>by
  replace h:=onSome_inv h
  obtain ⟨k,hk,h⟩:=h
  replace h:=onCall_inv h
  obtain ⟨g,xs,p,rfl,h⟩:=h
  replace h:=onName_inv h
  obtain ⟨y,p2,rfl,h⟩:=h
  replace h:=on2_inv h
  obtain ⟨l,r,rfl,h⟩:=h
  replace h:=onLam_inv h
  obtain ⟨as,b,sc,pl,rfl,h⟩:=h
  replace h:=onArg_inv h
  obtain ⟨a,rfl,h⟩:=h
  ·simp only [Bool.and_eq_true,beq_iff_eq] at h
   obtain ⟨⟨⟨⟨⟨h1,h2⟩,h3⟩,h4⟩,h5⟩,h6⟩:=h
   exact hm_pe C hk h1 h2 h3 h4 (sndE e C _ h5) fun C'=>sndE be C' _ h6
 | .part _ _,X,c,C,x,h=>by rintro pins s σ H Q I ⟨m,ρ,st,rf,rh,w⟩;exact False.elim w
theorem sndEs:∀(es:Es) {X:Cx} {c:Cfg} (C:COk X c Γ) (xs:List Expr),chkEs c es xs=true→PA X xs (TAx X.K (wpEs Γ es))
 | .nil,X,c,C,xs,h=>by
  have h:xs.isEmpty=true:=h
  cases xs with
  | nil =>
   rintro pos pins s σ H Q I ⟨m,ρ,st,rf,rh,w⟩
   skip
   exact pa_nil pos pins s σ H Q I (w m H [] (Ext.refl _ _ _) rh (Rs_nil.mpr rfl))
  | cons x xs=>cases h
 | .cons e es,X,c,C,xs,h=>by
  replace h:=onCons_inv h
  obtain ⟨y,ys,rfl,h⟩:=h
  ·simp only [Bool.and_eq_true] at h
   obtain ⟨⟨h1,h2⟩,h3⟩:=h
   rintro pos pins s σ H Q I ⟨m,ρ,st,rf,rh,w⟩
   skip
   exact pac (sndE e C _ h2) (sndEs es C _ h3) h1 pos pins s σ H Q I ⟨m,ρ,st,rf,rh,wpE_mono C.mono e (fun v st1 k m1 H1 x1 e1 r1 r2=>⟨m1,ρ,st1,rf.mono e1,r1,
    wpEs_mono C.mono es (fun us st2 k2 m2 H2 ys e2 r3 r4=>k2 m2 H2 _ (e1.trans e2) r3 (Rs_cons'.mpr ⟨r2.mono e2,r4⟩)) k⟩) w⟩
theorem sndO:∀(o:O) {X:Cx} {c:Cfg} (C:COk X c Γ) (x:Option Expr),chkO c o x=true→PO X x (fun σ H Q=>∃m ρ st,RF X.K m H ρ σ∧RH X.K m H st∧wpO Γ o ρ st fun v st'=>∀m' H',Ext X.K m H m' H'→RH X.K m' H' st'→Q v H')
 | .no,X,c,C,x,h=>by
  have h:x.isNone=true:=h
  cases x with
  | none =>
   rintro pins s σ H Q I ⟨m,ρ,st,rf,rh,w⟩
   skip
   exact po_none pins s σ H Q I (w m H (Ext.refl _ _ _) rh)
  | some y=>cases h
 | .yes e,X,c,C,x,h=>by
  replace h:=onSome_inv h
  obtain ⟨y,rfl,h⟩:=h
  ·rintro pins s σ H Q I ⟨m,ρ,st,rf,rh,w⟩
   skip
   refine po_some (sndE e C _ h) pins s σ H Q I ⟨m,ρ,st,rf,rh,wpE_mono C.mono e (fun v st1 k m1 H1 x1 e1 r1 r2=>?_) w⟩
   obtain ⟨i,rfl,k⟩:=k
   rw [R_int] at r2
   exact ⟨i,r2,k m1 H1 e1 r1⟩
theorem sndT:∀(e:E) {X:Cx} {c:Cfg} (C:COk X c Γ) (x:Expr),chkT c e x=true→PT X x (TTx X.K (wpT Γ e))
 | .not a,X,c,C,x,h=>by
  replace h:=onNot_inv h
  obtain ⟨y,p,rfl,h⟩:=h
  ·rintro pins s σ H Q I ⟨m,ρ,st,rf,rh,w⟩
   skip
   exact pt_not (sndT a C _ h) pins s σ H Q I ⟨m,ρ,st,rf,rh,wpT_mono C.mono a (fun k st1 z m1 H1 e1 r1=>z m1 H1 e1 r1) w⟩
 | .bop true es,X,c,C,x,h=>by
  replace h:=onBop_inv h
  obtain ⟨o,xs,p,rfl,h⟩:=h
  ·simp only [Bool.and_eq_true,beq_iff_eq,Bool.not_eq_true'] at h
   obtain ⟨⟨h1,h2⟩,h3⟩:=h
   subst h1
   rintro pins s σ H Q I ⟨m,ρ,st,rf,rh,w⟩
   skip
   exact (sndAT es C _ _ h3 h2).pt pins s σ H Q I ⟨m,ρ,st,rf,rh,w⟩
 | .bop false es,X,c,C,x,h=>by
  replace h:=onBop_inv h
  obtain ⟨o,xs,p,rfl,h⟩:=h
  ·simp only [Bool.and_eq_true,beq_iff_eq,Bool.not_eq_true'] at h
   obtain ⟨⟨h1,h2⟩,h3⟩:=h
   subst h1
   rintro pins s σ H Q I ⟨m,ρ,st,rf,rh,w⟩
   skip
   exact (sndOT es C _ _ h3 h2).pt pins s σ H Q I ⟨m,ρ,st,rf,rh,w⟩
 | .cmp op a b,X,c,C,x,h=>by
  replace h:=onCmp_inv h
  obtain ⟨l,o,r,p,rfl,h⟩:=h
  ·simp only [Bool.and_eq_true,beq_iff_eq,Bool.not_eq_true',beq_eq_false_iff_ne] at h
   obtain ⟨⟨⟨h1,n1⟩,h2⟩,h3⟩:=h
   subst h1
   rintro pins s σ H Q I ⟨m,ρ,st,rf,rh,w⟩
   skip
   refine pt_cmpR (cmp_ok C.room.units _) (sndE a C _ h2) (sndE b C _ h3) n1 pins s σ H Q I ⟨m,ρ,st,rf,rh,wpE_mono C.mono a (fun v st1 k m1 H1 x1 e1 r1 r2=>⟨m1,ρ,st1,rf.mono e1,r1,
    wpE_mono C.mono b (fun u st2 k2 m2 H2 y2 e2 r3 r4=>⟨m2,st2,v,u,r3,r2.mono e2,r4,cmpW_mono (fun _ _ q=>?_) k2⟩) k⟩) w⟩
   obtain ⟨k,rfl,q⟩:=q
   intro m' H' y e3 r5 r6
   rw [R_bl] at r6
   exact ⟨k,r6,q m' H' ((e1.trans e2).trans e3) r5⟩
 | .var i,X,c,C,x,h=>by
  replace h:=onName_inv h
  obtain ⟨y,p,rfl,h⟩:=h
  ·rintro pins s σ H Q I ⟨m,ρ,st,rf,rh,w⟩
   skip
   refine pt_truth (var_pe C h) (fun _=>rfl) pins s σ H Q I ⟨m,ρ,st,rf,rh,?_⟩
   skip
   obtain ⟨v,e,w⟩:=w
   exact ⟨v,e,fun m' H' y e1 r1 r2=>tru_k ⟨m',st,v,r1,r2,truW_mono (fun _ _ q=>q.ext e1) w⟩⟩
 | .call f es,X,c,C,x,h=>by
  replace h:=onCall_inv h
  obtain ⟨g,xs,p,rfl,h⟩:=h
  replace h:=onName_inv h
  obtain ⟨y,p2,rfl,h⟩:=h
  ·simp only [Bool.and_eq_true] at h
   obtain ⟨⟨h1,h2⟩,h3⟩:=h
   rintro pins s σ H Q I ⟨m,ρ,st,rf,rh,w⟩
   skip
   exact pt_truth (call_any C h1 h2 h3 (sndEs es C _ h3)) (fun _=>rfl) pins s σ H Q I ⟨m,ρ,st,rf,rh,wpEs_mono C.mono es (fun vs st1 k=>C.mono _ _ _ _ _ (fun v st2 k2 m' H' y e1 r1 r2=>tru_k ⟨m',st2,v,r1,r2,truW_mono (fun _ _ q=>q.ext e1) k2⟩) k) w⟩
 | .blt b es,X,c,C,x,h=>by
  replace h:=onCall_inv h
  obtain ⟨g,xs,p,rfl,h⟩:=h
  replace h:=onName_inv h
  obtain ⟨y,p2,rfl,h⟩:=h
  ·simp only [Bool.and_eq_true,beq_iff_eq,Bool.not_eq_true'] at h
   obtain ⟨⟨⟨⟨h1,h2⟩,h3⟩,h4⟩,h5⟩:=h
   rintro pins s σ H Q I ⟨m,ρ,st,rf,rh,w⟩
   skip
   exact pt_truth (call_blt C h1 h2 h3 h4 (sndEs es C _ h5)) (fun _=>rfl) pins s σ H Q I ⟨m,ρ,st,rf,rh,wpEs_mono C.mono es (fun vs st1 k=>bltW_mono (fun v st2 k2 m' H' y e1 r1 r2=>tru_k ⟨m',st2,v,r1,r2,truW_mono (fun _ _ q=>q.ext e1) k2⟩) k) w⟩
 | .inst a t,X,c,C,x,h=>by
  replace h:=onCall_inv h
  obtain ⟨g,xs,p,rfl,h⟩:=h
  replace h:=onName_inv h
  obtain ⟨y,p2,rfl,h⟩:=h
  replace h:=on2_inv h
  obtain ⟨l,r,rfl,h⟩:=h
  replace h:=onName_inv h
  obtain ⟨z,p3,rfl,h⟩:=h
  ·rw [Bool.and_eq_true] at h
   rintro pins s σ H Q I ⟨m,ρ,st,rf,rh,w⟩
   skip
   refine pt_truth (inst_pe C h.1 (sndE a C _ h.2)) (fun _=>rfl) pins s σ H Q I ⟨m,ρ,st,rf,rh,?_⟩
   skip
   refine wpE_mono C.mono a (fun v st1 k=>?_) w
   obtain ⟨n,e,k⟩:=k
   refine ⟨n,e,fun m' H' y e1 r1 r2=>?_⟩
   rw [R_bl] at r2
   subst r2
   exact ⟨_,rfl,k m' H' e1 r1⟩
 | .tmp a,X,c,C,x,h=>by
  have h:(plainT x && chkE c a x)=true:=h
  rw [Bool.and_eq_true] at h
  rintro pins s σ H Q I ⟨m,ρ,st,rf,rh,w⟩
  skip
  have q:=sndE a C x h.2
  refine pt_truth q (plain_true h.1 X.env) pins s σ H Q I ⟨m,ρ,st,rf,rh,wpE_mono C.mono a (fun v st1 k m1 H1 x1 e1 r1 r2=>?_) w⟩
  obtain ⟨st2,q,e2,r3,r4⟩:=tmp_end rh e1 r1 r2 k
  exact tru_k ⟨m,st2,v,r3,r4,truW_mono (fun _ _ q=>q.ext e2) q⟩
 | .ix a b,X,c,C,x,h=>by
  replace h:=onSub_inv h
  obtain ⟨l,r,p,rfl,h⟩:=h
  ·simp only [Bool.and_eq_true] at h
   obtain ⟨⟨h1,h2⟩,h3⟩:=h
   rintro pins s σ H Q I ⟨m,ρ,st,rf,rh,w⟩
   skip
   refine pt_truth (pe_ixq ix_ok (sndE a C _ h2) (sndE b C _ h3) h1) (fun _=>rfl) pins s σ H Q I ⟨m,ρ,st,rf,rh,wpE_mono C.mono a (fun v st1 k m1 H1 x1 e1 r1 r2=>⟨m1,ρ,st1,rf.mono e1,r1,
    wpE_mono C.mono b (fun u st2 k2 m2 H2 y2 e2 r3 r4=>⟨m2,st2,v,u,r3,r2.mono e2,r4,ixW_mono (fun z st3 q m3 H3 y3 e3 r5 r6=>?_) k2⟩) k⟩) w⟩
   exact tru_k ⟨m3,st3,z,r5,r6,truW_mono (fun _ _ q=>q.ext ((e1.trans e2).trans e3)) q⟩
 | .bl _,X,c,C,x,h=>by rintro pins s σ H Q I ⟨m,ρ,st,rf,rh,w⟩;exact False.elim w
 | .int _,X,c,C,x,h=>by rintro pins s σ H Q I ⟨m,ρ,st,rf,rh,w⟩;exact False.elim w
 | .non,X,c,C,x,h=>by rintro pins s σ H Q I ⟨m,ρ,st,rf,rh,w⟩;exact False.elim w
 | .str _,X,c,C,x,h=>by rintro pins s σ H Q I ⟨m,ρ,st,rf,rh,w⟩;exact False.elim w
 | .gv _ _,X,c,C,x,h=>by rintro pins s σ H Q I ⟨m,ρ,st,rf,rh,w⟩;exact False.elim w
 | .tup _,X,c,C,x,h=>by rintro pins s σ H Q I ⟨m,ρ,st,rf,rh,w⟩;exact False.elim w
 | .lst _,X,c,C,x,h=>by rintro pins s σ H Q I ⟨m,ρ,st,rf,rh,w⟩;exact False.elim w
 | .dct0,X,c,C,x,h=>by rintro pins s σ H Q I ⟨m,ρ,st,rf,rh,w⟩;exact False.elim w
 | .bad,X,c,C,x,h=>by rintro pins s σ H Q I ⟨m,ρ,st,rf,rh,w⟩;exact False.elim w
 | .dct1 _ _,X,c,C,x,h=>by rintro pins s σ H Q I ⟨m,ρ,st,rf,rh,w⟩;exact False.elim w
 | .bin _ _ _,X,c,C,x,h=>by rintro pins s σ H Q I ⟨m,ρ,st,rf,rh,w⟩;exact False.elim w
 | .neg _,X,c,C,x,h=>by rintro pins s σ H Q I ⟨m,ρ,st,rf,rh,w⟩;exact False.elim w
 | .ite _ _ _,X,c,C,x,h=>by rintro pins s σ H Q I ⟨m,ρ,st,rf,rh,w⟩;exact False.elim w
 | .sl _ _ _,X,c,C,x,h=>by rintro pins s σ H Q I ⟨m,ρ,st,rf,rh,w⟩;exact False.elim w
 | .met _ _ _,X,c,C,x,h=>by rintro pins s σ H Q I ⟨m,ρ,st,rf,rh,w⟩;exact False.elim w
 | .comp _ _ _ _ _ _,X,c,C,x,h=>by rintro pins s σ H Q I ⟨m,ρ,st,rf,rh,w⟩;exact False.elim w
 | .pcall i e,X,c,C,x,h=>by
  have hh:=(Bool.and_eq_true _ _).mp h
  have hpc:=hh.1
  replace h:=hh.2
  replace h:=onCall_inv h
  obtain ⟨g,xs,p,rfl,h⟩:=h
  replace h:=onName_inv h
  obtain ⟨y,p2,rfl,h⟩:=h
  replace h:=on1_inv h
  obtain ⟨l,rfl,h⟩:=h
  simp only [Bool.and_eq_true,beq_iff_eq] at h
  obtain ⟨⟨⟨h1,h2⟩,h3⟩,h4⟩:=h
  rintro pins s σ H Q I ⟨m,ρ,st,rf,rh,a,ea,w⟩
  exact pt_truth (pcall_pe C hpc h1 h2 h3 (sndE e C _ h4)) (fun _=>rfl) pins s σ H Q I ⟨m,ρ,st,rf,rh,a,ea,wpE_mono C.mono e (fun v st1 k=>C.mono _ _ _ _ _ (fun v st2 k2 m' H' y e1 r1 r2=>tru_k ⟨m',st2,v,r1,r2,truW_mono (fun _ _ q=>q.ext e1) k2⟩) k) w⟩
 | .hm _ _ _,X,c,C,x,h=>by rintro pins s σ H Q I ⟨m,ρ,st,rf,rh,w⟩;exact False.elim w
 | .jrev _,X,c,C,x,h=>by rintro pins s σ H Q I ⟨m,ρ,st,rf,rh,w⟩;exact False.elim w
 | .part _ _,X,c,C,x,h=>by rintro pins s σ H Q I ⟨m,ρ,st,rf,rh,w⟩;exact False.elim w
theorem sndAV:∀(es:Es) {X:Cx} {c:Cfg} (C:COk X c Γ) (xs:List Expr) (pos:Pos),chkEs c es xs=true→xs.isEmpty=false→PE X (.BoolOp .And xs pos) (TEx X.K (wpAV Γ es))
 | .nil,X,c,C,xs,pos,h,hn=>by
  have h:xs.isEmpty=true:=h
  rw [h] at hn
  cases hn
 | .cons e .nil,X,c,C,xs,pos,h,hn=>by
  replace h:=onCons_inv h
  obtain ⟨y,ys,rfl,h⟩:=h
  ·simp only [Bool.and_eq_true] at h
   obtain ⟨⟨h1,h2⟩,h3⟩:=h
   have h3:ys.isEmpty=true:=h3
   cases ys with
   | nil =>
    rintro pins s σ H Q I ⟨m,ρ,st,rf,rh,w⟩
    skip
    exact pe_one (sndE e C _ h2) pins s σ H Q I ⟨m,ρ,st,rf,rh,w⟩
   | cons _ _=>cases h3
 | .cons e (.cons e2 es),X,c,C,xs,pos,h,hn=>by
  replace h:=onCons_inv h
  obtain ⟨y,ys,rfl,h⟩:=h
  ·simp only [Bool.and_eq_true] at h
   obtain ⟨⟨h1,h2⟩,h3⟩:=h
   cases ys with
   | nil=>exact Bool.noConfusion (show false=true from h3)
   | cons y2 ys =>
    rintro pins s σ H Q I ⟨m,ρ,st,rf,rh,w⟩
    skip
    refine pe_and (sndE e C _ h2) (sndAV (.cons e2 es) C (y2::ys) pos h3 rfl) pins s σ H Q I ⟨m,ρ,st,rf,rh,wpE_mono C.mono e (fun v st1 k m1 H1 x1 e1 r1 r2=>?_) w⟩
    obtain ⟨b,rfl,k⟩:=k
    rw [R_bl] at r2
    subst r2
    refine ⟨b,rfl,?_⟩
    cases b with
    | true=>rw [if_pos rfl] at k ⊢;exact ⟨m1,ρ,st1,rf.mono e1,r1,wpAV_mono C.mono _ (fun _ _ q=>q.ext e1) k⟩
    | false=>rw [if_neg Bool.false_ne_true] at k ⊢;exact (k.ext e1).here r1 (R_bl.mpr rfl)
theorem sndOV:∀(es:Es) {X:Cx} {c:Cfg} (C:COk X c Γ) (xs:List Expr) (pos:Pos),chkEs c es xs=true→xs.isEmpty=false→PE X (.BoolOp .Or xs pos) (TEx X.K (wpOV Γ es))
 | .nil,X,c,C,xs,pos,h,hn=>by
  have h:xs.isEmpty=true:=h
  rw [h] at hn
  cases hn
 | .cons e .nil,X,c,C,xs,pos,h,hn=>by
  replace h:=onCons_inv h
  obtain ⟨y,ys,rfl,h⟩:=h
  ·simp only [Bool.and_eq_true] at h
   obtain ⟨⟨h1,h2⟩,h3⟩:=h
   have h3:ys.isEmpty=true:=h3
   cases ys with
   | nil =>
    rintro pins s σ H Q I ⟨m,ρ,st,rf,rh,w⟩
    skip
    exact pe_one (sndE e C _ h2) pins s σ H Q I ⟨m,ρ,st,rf,rh,w⟩
   | cons _ _=>cases h3
 | .cons e (.cons e2 es),X,c,C,xs,pos,h,hn=>by
  replace h:=onCons_inv h
  obtain ⟨y,ys,rfl,h⟩:=h
  ·simp only [Bool.and_eq_true] at h
   obtain ⟨⟨h1,h2⟩,h3⟩:=h
   cases ys with
   | nil=>exact Bool.noConfusion (show false=true from h3)
   | cons y2 ys =>
    rintro pins s σ H Q I ⟨m,ρ,st,rf,rh,w⟩
    skip
    refine pe_or (sndE e C _ h2) (sndOV (.cons e2 es) C (y2::ys) pos h3 rfl) pins s σ H Q I ⟨m,ρ,st,rf,rh,wpE_mono C.mono e (fun v st1 k m1 H1 x1 e1 r1 r2=>?_) w⟩
    obtain ⟨b,rfl,k⟩:=k
    rw [R_bl] at r2
    subst r2
    refine ⟨b,rfl,?_⟩
    cases b with
    | true=>rw [if_pos rfl] at k ⊢;exact (k.ext e1).here r1 (R_bl.mpr rfl)
    | false=>rw [if_neg Bool.false_ne_true] at k ⊢;exact ⟨m1,ρ,st1,rf.mono e1,r1,wpOV_mono C.mono _ (fun _ _ q=>q.ext e1) k⟩
theorem sndAT:∀(es:Es) {X:Cx} {c:Cfg} (C:COk X c Γ) (xs:List Expr) (pos:Pos),chkTs c es xs=true→xs.isEmpty=false→PW X (.BoolOp .And xs pos) (TTx X.K (wpAT Γ es))
 | .nil,X,c,C,xs,pos,h,hn=>by
  have h:xs.isEmpty=true:=h
  rw [h] at hn
  cases hn
 | .cons e .nil,X,c,C,xs,pos,h,hn=>by
  replace h:=onCons_inv h
  obtain ⟨y,ys,rfl,h⟩:=h
  ·simp only [Bool.and_eq_true] at h
   obtain ⟨h2,h3⟩:=h
   have h3:ys.isEmpty=true:=h3
   cases ys with
   | nil =>
    rintro whole pins s σ H Q I ⟨m,ρ,st,rf,rh,w⟩
    skip
    exact pw_and1 (sndT e C _ h2) whole pins s σ H Q I ⟨m,ρ,st,rf,rh,w⟩
   | cons _ _=>cases h3
 | .cons e (.cons e2 es),X,c,C,xs,pos,h,hn=>by
  replace h:=onCons_inv h
  obtain ⟨y,ys,rfl,h⟩:=h
  ·simp only [Bool.and_eq_true] at h
   obtain ⟨h2,h3⟩:=h
   cases ys with
   | nil=>exact Bool.noConfusion (show false=true from h3)
   | cons y2 ys =>
    rintro whole pins s σ H Q I ⟨m,ρ,st,rf,rh,w⟩
    skip
    refine pw_and (sndT e C _ h2) (sndAT (.cons e2 es) C (y2::ys) pos h3 rfl) whole pins s σ H Q I ⟨m,ρ,st,rf,rh,wpT_mono C.mono e (fun b st1 k m1 H1 e1 r1=>?_) w⟩
    cases b with
    | true=>rw [if_pos rfl] at k ⊢;exact ⟨m1,ρ,st1,rf.mono e1,r1,wpAT_mono C.mono _ (fun _ _ q=>q.ext e1) k⟩
    | false=>rw [if_neg Bool.false_ne_true] at k ⊢;exact k m1 H1 e1 r1
theorem sndOT:∀(es:Es) {X:Cx} {c:Cfg} (C:COk X c Γ) (xs:List Expr) (pos:Pos),chkTs c es xs=true→xs.isEmpty=false→PW X (.BoolOp .Or xs pos) (TTx X.K (wpOT Γ es))
 | .nil,X,c,C,xs,pos,h,hn=>by
  have h:xs.isEmpty=true:=h
  rw [h] at hn
  cases hn
 | .cons e .nil,X,c,C,xs,pos,h,hn=>by
  replace h:=onCons_inv h
  obtain ⟨y,ys,rfl,h⟩:=h
  ·simp only [Bool.and_eq_true] at h
   obtain ⟨h2,h3⟩:=h
   have h3:ys.isEmpty=true:=h3
   cases ys with
   | nil =>
    rintro whole pins s σ H Q I ⟨m,ρ,st,rf,rh,w⟩
    skip
    exact pw_or1 (sndT e C _ h2) whole pins s σ H Q I ⟨m,ρ,st,rf,rh,w⟩
   | cons _ _=>cases h3
 | .cons e (.cons e2 es),X,c,C,xs,pos,h,hn=>by
  replace h:=onCons_inv h
  obtain ⟨y,ys,rfl,h⟩:=h
  ·simp only [Bool.and_eq_true] at h
   obtain ⟨h2,h3⟩:=h
   cases ys with
   | nil=>exact Bool.noConfusion (show false=true from h3)
   | cons y2 ys =>
    rintro whole pins s σ H Q I ⟨m,ρ,st,rf,rh,w⟩
    skip
    refine pw_or (sndT e C _ h2) (sndOT (.cons e2 es) C (y2::ys) pos h3 rfl) whole pins s σ H Q I ⟨m,ρ,st,rf,rh,wpT_mono C.mono e (fun b st1 k m1 H1 e1 r1=>?_) w⟩
    cases b with
    | true=>rw [if_pos rfl] at k ⊢;exact k m1 H1 e1 r1
    | false=>rw [if_neg Bool.false_ne_true] at k ⊢;exact ⟨m1,ρ,st1,rf.mono e1,r1,wpOT_mono C.mono _ (fun _ _ q=>q.ext e1) k⟩
theorem sndTg:∀(t:Tg) {X:Cx} {c:Cfg} (C:COk X c Γ) (x:Expr),chkTg c t x=true→PG X x (TGx X.K (wpTg Γ t))
 | .name i,X,c,C,x,h=>by
  replace h:=onName_inv h
  obtain ⟨y,p,rfl,h⟩:=h
  ·simp only [Bool.and_eq_true,beq_iff_eq] at h
   obtain ⟨h1,h2⟩:=C.locx h.2
   rintro pins s σ H v u Q I r ⟨m,ρ,st,p,rf,rh,hr,w⟩
   skip
   exact pg_name C.ndX (by rw [C.N];exact h.1) h1 h2 pins s σ H v u Q I r (w.here rh (rf.set i hr))
 | .tup ts,X,c,C,x,h=>by
  replace h:=onTuple_inv h
  obtain ⟨xs,k,p,rfl,h⟩:=h
  ·rintro pins s σ H v u Q I r ⟨m,ρ,st,p,rf,rh,hr,w⟩
   skip
   obtain ⟨vs,rfl,hl,w⟩:=w
   rw [R_tup] at hr
   obtain ⟨a,ys,rfl,g,r2⟩:=hr
   obtain ⟨l1,l2⟩:=chkTgs_len (env:=X.env) h
   refine pg_tup C.calm (sndTgs ts C _ h) l1 l2 pins s σ H _ u Q I r ⟨a,ys,rfl,g,?_,m,ρ,st,vs,rf,rh,r2,w⟩
   rw [←r2.len]
   exact hl
 | .ltup ts,X,c,C,x,h=>by
  replace h:=onTuple_inv h
  obtain ⟨xs,k,p,rfl,h⟩:=h
  ·rintro pins s σ H v u Q I r ⟨m,ρ,st,p,rf,rh,hr,w⟩
   skip
   obtain ⟨vs,hvs,hl,w⟩:=w
   obtain ⟨a,ys,rfl,g,r2⟩:=listAt_sq rh hr hvs
   obtain ⟨l1,l2⟩:=chkTgs_len (env:=X.env) h
   refine pg_ltup C.calm (sndTgs ts C _ h) l1 l2 pins s σ H _ u Q I r ⟨a,ys,rfl,g,?_,m,ρ,st,vs,rf,rh,r2,w⟩
   rw [←r2.len]
   exact hl
 | .sub o i,X,c,C,x,h=>by
  replace h:=onSub_inv h
  obtain ⟨l,rr,pos,rfl,h⟩:=h
  ·simp only [Bool.and_eq_true] at h
   obtain ⟨⟨h1,h2⟩,h3⟩:=h
   rintro pins s σ H v u Q I r ⟨m,ρ,st,p,rf,rh,hr,w⟩
   skip
   refine pg_sub (sndE o C _ h2) (sndE i C _ h3) set_ok (by cases rr <;> first|(intro _;rfl)|cases h1) pins s σ H v u Q I r ⟨m,ρ,st,rf,rh,wpE_mono C.mono o (fun a st1 k m1 H1 x1 e1 r1 r2=>⟨m1,ρ,st1,rf.mono e1,r1,
    wpE_mono C.mono i (fun b st2 k2 m2 H2 y2 e2 r3 r4=>⟨m2,st2,a,b,p,r3,r2.mono e2,r4,(hr.mono e1).mono e2,setW_mono (fun st3 q H3 e3 r5=>?_) k2⟩) k⟩) w⟩
   exact q m2 H3 σ ((e1.trans e2).trans e3) r5 (((rf.mono e1).mono e2).mono e3)
theorem sndTgs:∀(ts:Tgs) {X:Cx} {c:Cfg} (C:COk X c Γ) (xs:List Expr),chkTgs c ts xs=true→PGs X xs (TGsx X.K (wpTgs Γ ts))
 | .nil,X,c,C,xs,h=>by
  have h:xs.isEmpty=true:=h
  cases xs with
  | nil =>
   rintro pins s σ H v u Q I r ⟨m,ρ,st,p,rf,rh,hr,w⟩
   skip
   obtain ⟨rfl,w⟩:=w
   rw [Rs_nil] at hr
   exact pgs_nil pins s σ H v u Q I r ⟨hr,w.here rh rf⟩
  | cons _ _=>cases h
 | .cons t ts,X,c,C,xs,h=>by
  replace h:=onCons_inv h
  obtain ⟨y,ys,rfl,h⟩:=h
  ·simp only [Bool.and_eq_true] at h
   obtain ⟨⟨h1,h2⟩,h3⟩:=h
   rintro pins s σ H v u Q I r ⟨m,ρ,st,p,rf,rh,hr,w⟩
   skip
   obtain ⟨x,q,rfl,w⟩:=w
   rw [Rs_cons] at hr
   obtain ⟨y,ys,rfl,g1,g2⟩:=hr
   refine pgs_cons (sndTg t C _ h2) (sndTgs ts C _ h3) (by rw [assignEach_no h1];rfl) pins s σ H _ u Q I r ⟨y,ys,rfl,m,ρ,st,x,rf,rh,g1,wpTg_mono C.mono t (fun ρ1 st1 k m1 H1 σ1 e1 r1 r2=>?_) w⟩
   exact ⟨m1,ρ1,st1,q,r2,r1,g2.mono e1,wpTgs_mono C.mono ts (fun _ _ q=>q.ext e1) k⟩
theorem sndIt:∀(it:It) {X:Cx} {c:Cfg} (C:COk X c Γ) {tg:Expr} (x:Expr),tgFor it tg=true→chkIt c it x=true→PI X tg x (TIx X.K (wpIt Γ it))
 | .seq e,X,c,C,tg,x,_,h=>by
  have h:(noSet x && chkE c e x)=true:=h
  rw [Bool.and_eq_true] at h
  rintro pins s σ H Rr I ⟨m,ρ,st,rf,rh,w⟩
  skip
  refine pi_seq (sndE e C x h.2) pins s σ H Rr I ⟨m,ρ,st,rf,rh,wpE_mono C.mono e (fun v st1 k m1 H1 x1 e1 r1 r2=>?_) w⟩
  obtain ⟨xs,es,k⟩:=k
  cases v with
  | tup ys =>
   cases es
   rw [R_tup] at r2
   obtain ⟨a,zs,rfl,g,r3⟩:=r2
   exact ⟨a,rfl,.inr ⟨⟨zs,g⟩,k m1 H1 _ e1 r1 (walk_tup g r3)⟩⟩
  | rdl ys =>
   cases es
   rw [R_rdl] at r2
   obtain ⟨a,zs,rfl,g,r3⟩:=r2
   exact ⟨a,rfl,.inl ⟨⟨zs,g.sq⟩,k m1 H1 _ e1 r1 (walk_rdl g r3)⟩⟩
  | ref n =>
   unfold seqAt listAt at es
   simp only at es
   split at es
   ·cases es
    rename_i q
    obtain ⟨a,zs,rfl,ea,g,r3⟩:=r1.lst q r2
    exact ⟨a,rfl,.inl ⟨⟨zs,SqL.of g⟩,k m1 H1 _ e1 r1 (walk_list r1 q ea)⟩⟩
   ·cases es
  | _=>cases es
 | .range1 a,X,c,C,tg,x,_,h=>by
  replace h:=onCall_inv h
  obtain ⟨g,xs,p,rfl,h⟩:=h
  replace h:=onName_inv h
  obtain ⟨y,p2,rfl,h⟩:=h
  replace h:=on1_inv h
  obtain ⟨l,rfl,h⟩:=h
  ·simp only [Bool.and_eq_true,beq_iff_eq] at h
   obtain ⟨⟨⟨h1,h2⟩,h3⟩,h4⟩:=h
   subst h1
   obtain ⟨g1,g2,g3,g4⟩:=C.bltx h2
   rintro pins s σ H Rr I ⟨m,ρ,st,rf,rh,w⟩
   skip
   have hA:PA X [_] (tCons (TEx X.K (wpE Γ a)) tNil):=pac (sndE a C _ h4) pa_nil h3
   refine pi_range1 g1 g4 hA (star_no h3) pins s σ H Rr I ⟨m,ρ,st,rf,rh,wpE_mono C.mono a (fun v st1 k m1 H1 x1 e1 r1 r2=>?_) w⟩
   obtain ⟨j,rfl,k1,k2,k⟩:=k
   rw [R_int] at r2
   subst r2
   exact ⟨j,rfl,k1,k2,k m1 H1 _ e1 r1 walk_range⟩
 | .range2 a b,X,c,C,tg,x,_,h=>by
  replace h:=onCall_inv h
  obtain ⟨g,xs,p,rfl,h⟩:=h
  replace h:=onName_inv h
  obtain ⟨y,p2,rfl,h⟩:=h
  replace h:=on2_inv h
  obtain ⟨l,r,rfl,h⟩:=h
  ·simp only [Bool.and_eq_true,beq_iff_eq] at h
   obtain ⟨⟨⟨⟨⟨h1,h2⟩,h3⟩,h3'⟩,h4⟩,h5⟩:=h
   subst h1
   obtain ⟨g1,g2,g3,g4⟩:=C.bltx h2
   rintro pins s σ H Rr I ⟨m,ρ,st,rf,rh,w⟩
   skip
   have hA:PA X [_,_] (tCons (TEx X.K (wpE Γ a)) (tCons (TEx X.K (wpE Γ b)) tNil)):=pac (sndE a C _ h4) (pac (sndE b C _ h5) pa_nil h3') h3
   refine pi_range2 g1 g4 hA (by rw [star_no h3,star_no h3'];rfl) (star_no h3') pins s σ H Rr I ⟨m,ρ,st,rf,rh,wpE_mono C.mono a (fun v st1 k m1 H1 x1 e1 r1 r2=>⟨m1,ρ,st1,rf.mono e1,r1,
    wpE_mono C.mono b (fun u st2 k2 m2 H2 y2 e2 r3 r4=>?_) k⟩) w⟩
   obtain ⟨i,j,rfl,rfl,k1,k⟩:=k2
   rw [R_int] at r2 r4
   subst r2 r4
   exact ⟨i,j,rfl,k1,k m2 H2 _ (e1.trans e2) r3 walk_range⟩
 | .zip a b,X,c,C,tg,x,ht,h=>by
  replace h:=onCall_inv h
  obtain ⟨g,xs,p,rfl,h⟩:=h
  replace h:=onName_inv h
  obtain ⟨y,p2,rfl,h⟩:=h
  replace h:=on2_inv h
  obtain ⟨l,r,rfl,h⟩:=h
  ·simp only [Bool.and_eq_true,beq_iff_eq] at h
   obtain ⟨⟨⟨⟨⟨h1,h2⟩,h3⟩,h3'⟩,h4⟩,h5⟩:=h
   subst h1
   obtain ⟨g1,g2,g3,g4⟩:=C.bltx h2
   cases tg with
   | Tuple elts kt pt =>
    rintro pins s σ H Rr I ⟨m,ρ,st,rf,rh,w⟩
    skip
    have hA:PA X [_,_] (tCons (TEx X.K (wpE Γ a)) (tCons (TEx X.K (wpE Γ b)) tNil)):=pac (sndE a C _ h4) (pac (sndE b C _ h5) pa_nil h3') h3
    refine pi_zip g1 g4 hA (by rw [star_no h3,star_no h3'];rfl) (star_no h3') pins s σ H Rr I ⟨m,ρ,st,rf,rh,wpE_mono C.mono a (fun v st1 k m1 H1 x1 e1 r1 r2=>⟨m1,ρ,st1,rf.mono e1,r1,
     wpE_mono C.mono b (fun u st2 k2 m2 H2 y2 e2 r3 r4=>?_) k⟩) w⟩
    obtain ⟨xs,ys,q1,q2,k⟩:=k2
    obtain ⟨a1,rfl,w1,s1⟩:=lb_of r3 (r2.mono e2) q1
    obtain ⟨a2,rfl,w2,s2⟩:=lb_of r3 r4 q2
    refine ⟨a1,a2,rfl,fun e he=>?_,k m2 H2 _ (e1.trans e2) r3 (walk_zip w1 w2)⟩
    simp only [List.mem_cons,List.not_mem_nil,or_false] at he
    rcases he with rfl|rfl
    ·exact s1
    ·exact s2
   | _=>cases ht
 | .zip3 _ _ _,X,c,C,tg,x,ht,h=>by rintro pins s σ H Rr I ⟨m,ρ,st,rf,rh,w⟩;exact False.elim w
 | .enum a,X,c,C,tg,x,ht,h=>by
  replace h:=onCall_inv h
  obtain ⟨g,xs,p,rfl,h⟩:=h
  replace h:=onName_inv h
  obtain ⟨y,p2,rfl,h⟩:=h
  replace h:=on1_inv h
  obtain ⟨l,rfl,h⟩:=h
  ·simp only [Bool.and_eq_true,beq_iff_eq] at h
   obtain ⟨⟨⟨h1,h2⟩,h3⟩,h4⟩:=h
   subst h1
   obtain ⟨g1,g2,g3,g4⟩:=C.bltx h2
   cases tg with
   | Tuple elts kt pt =>
    rintro pins s σ H Rr I ⟨m,ρ,st,rf,rh,w⟩
    skip
    have hA:PA X [_] (tCons (TEx X.K (wpE Γ a)) tNil):=pac (sndE a C _ h4) pa_nil h3
    refine pi_enum g1 g4 hA (star_no h3) pins s σ H Rr I ⟨m,ρ,st,rf,rh,wpE_mono C.mono a (fun v st1 k m1 H1 x1 e1 r1 r2=>?_) w⟩
    obtain ⟨xs,rfl,k⟩:=k
    rw [R_tup] at r2
    obtain ⟨a1,zs,rfl,g,r3⟩:=r2
    exact ⟨a1,rfl,⟨zs,g⟩,k m1 H1 _ e1 r1 (walk_enum g r3)⟩
   | _=>cases ht
 | .chars _,X,c,C,tg,x,_,h=>by rintro pins s σ H Rr I ⟨m,ρ,st,rf,rh,w⟩;exact False.elim w
 | .range3 _ _ _,X,c,C,tg,x,_,h=>by rintro pins s σ H Rr I ⟨m,ρ,st,rf,rh,w⟩;exact False.elim w
theorem sndPTs:∀(es:Es) {X:Cx} {c:Cfg} (C:COk X c Γ) (xs:List Expr),chkTs c es xs=true→PTs X xs (TTx X.K (wpAT Γ es))
 | .nil,X,c,C,xs,h=>by
  have h:xs.isEmpty=true:=h
  cases xs with
  | nil =>
   rintro pins s σ H Q I ⟨m,ρ,st,rf,rh,w⟩
   skip
   exact pts_nil pins s σ H Q I (w m H (Ext.refl _ _ _) rh)
  | cons _ _=>cases h
 | .cons e .nil,X,c,C,xs,h=>by
  replace h:=onCons_inv h
  obtain ⟨y,ys,rfl,h⟩:=h
  ·simp only [Bool.and_eq_true] at h
   obtain ⟨h2,h3⟩:=h
   have h3:ys.isEmpty=true:=h3
   cases ys with
   | nil =>
    rintro pins s σ H Q I ⟨m,ρ,st,rf,rh,w⟩
    skip
    refine pts_cons (sndT e C _ h2) pts_nil pins s σ H Q I ⟨m,ρ,st,rf,rh,wpT_mono C.mono e (fun b st1 k m1 H1 e1 r1=>?_) w⟩
    cases b with
    | true=>rw [if_pos rfl];exact k m1 H1 e1 r1
    | false=>rw [if_neg Bool.false_ne_true];exact k m1 H1 e1 r1
   | cons _ _=>cases h3
 | .cons e (.cons e2 es),X,c,C,xs,h=>by
  replace h:=onCons_inv h
  obtain ⟨y,ys,rfl,h⟩:=h
  ·simp only [Bool.and_eq_true] at h
   obtain ⟨h2,h3⟩:=h
   rintro pins s σ H Q I ⟨m,ρ,st,rf,rh,w⟩
   skip
   refine pts_cons (sndT e C _ h2) (sndPTs (.cons e2 es) C _ h3) pins s σ H Q I ⟨m,ρ,st,rf,rh,wpT_mono C.mono e (fun b st1 k m1 H1 e1 r1=>?_) w⟩
   cases b with
   | true=>rw [if_pos rfl] at k ⊢;exact ⟨m1,ρ,st1,rf.mono e1,r1,wpAT_mono C.mono _ (fun _ _ q=>q.ext e1) k⟩
   | false=>rw [if_neg Bool.false_ne_true] at k ⊢;exact k m1 H1 e1 r1
end
end
end FW
set_option Elab.async false
set_option linter.all false
set_option maxRecDepth 100000
set_option maxHeartbeats 1000000
namespace FW
open PySem PySem.Spec PyProof.Rows L2 HX
section
variable {X:Cx} {c:Cfg} {Γ:Nat→FSp} {tg:Expr}
noncomputable def AE (K:PySem.W.Frag) (m:List Addr) (H:Hp) (D:L2.Ends):AEnds:={ nx:=postF K m H D.nx,rt:=post K m H D.rt,bk:=postF K m H D.bk,ct:=postF K m H D.ct }
noncomputable def TSx (K:PySem.W.Frag) (w:Fr→AH→AEnds→Prop):TS:=fun D σ H=>∃m ρ st,RF K m H ρ σ∧RH K m H st∧w ρ st (AE K m H D)
theorem AE.ext {K:PySem.W.Frag} {m m1:List Addr} {H H1:Hp} {D:L2.Ends} (x:Ext K m H m1 H1):DMono (AE K m H D) (AE K m1 H1 D) :=
 ⟨fun _ _ q=>q.ext x,fun _ _ q=>q.ext x,fun _ _ q=>q.ext x,fun _ _ q=>q.ext x⟩
theorem for_snd (G:GMono Γ) {t:Tg} {it:It} {b:Ss} {D:L2.Ends} {σ:L2.St} {H:Hp} (h:TSx X.K (wpS Γ (.forS t it b)) D σ H):tFor (TIx X.K (wpIt Γ it)) (TGx X.K (wpTg Γ t)) (TSx X.K (wpSs Γ b)) D σ H:=by
 obtain ⟨m,ρ,st,rf,rh,w⟩:=h
 skip
 refine ⟨m,ρ,st,rf,rh,wpIt_mono G it (fun xs chk st1 k m1 H1 J e1 r1 W=>?_) w⟩
 refine ⟨fun i n σ' H'=>n+i=xs.length∧∃m' ρ' st',Ext X.K m1 H1 m' H'∧RH X.K m' H' st'∧RF X.K m' H' ρ' σ'∧forW chk (fun x ρ' st' D'=>wpTg Γ t x ρ' st' fun ρ2 st2=>wpSs Γ b ρ2 st2 D') (AE X.K m H D) (xs.drop i) ρ' st',
  ⟨xs.length,rfl,m1,ρ,st1,Ext.refl _ _ _,r1,rf.mono e1,by simpa using k⟩,?_⟩
 rintro i n σ' H' ⟨hn,m',ρ',st',x',rh',rf',k'⟩
 cases q:xs.drop i with
 | nil =>
  rw [q] at k'
  have hi:i=xs.length:=by
   have:=congrArg List.length q
   simp at this
   omega
  subst hi
  exact .inl ⟨W.stop m' H' st' x' rh' k'.1,k'.2 m' H' σ' (e1.trans x') rh' rf'⟩
 | cons v rest =>
  rw [q] at k'
  have hi:i<xs.length:=by
   have:=congrArg List.length q
   simp at this
   omega
  have ev:xs[i]?=some v:=by
   have:=congrArg List.head? q
   rw [List.head?_drop] at this
   exact this
  have er:rest=xs.drop (i+1):=by
   have:=congrArg List.tail q
   rw [List.tail_drop] at this
   exact this.symm
  subst er
  obtain ⟨kc,k'⟩:=k'
  obtain ⟨go,yl⟩:=W.item i v m' H' st' x' rh' kc ev
  refine .inr ⟨go,fun σ'' H''=>(n-1+(i+1)=xs.length∧∃m' ρ' st',Ext X.K m1 H1 m' H''∧RH X.K m' H'' st'∧RF X.K m' H'' ρ' σ''∧forW chk (fun x ρ' st' D'=>wpTg Γ t x ρ' st' fun ρ2 st2=>wpSs Γ b ρ2 st2 D') (AE X.K m H D) (xs.drop (i+1)) ρ' st'),fun σ'' H'' z=>⟨n-1,by omega,z⟩,fun y H2 hy=>?_⟩
  obtain ⟨x2,r2,rv⟩:=yl y H2 hy
  refine ⟨m',ρ',st',v,rf'.mono x2,r2,rv,wpTg_mono G t (fun ρ3 st3 k3 m3 H3 σ3 x3 r3 f3=>?_) k'⟩
  refine ⟨m3,ρ3,st3,f3,r3,wpSs_mono G b ?_ k3⟩
  have xx:Ext X.K m H m3 H3:=((e1.trans x').trans x2).trans x3
  refine ⟨fun ρ4 st4 k4 m4 H4 σ4 x4 r4 f4=>⟨by omega,m4,ρ4,st4,((x'.trans x2).trans x3).trans x4,r4,f4,k4⟩,fun v4 st4 k4=>k4.ext xx,fun ρ4 st4 k4=>k4.ext xx,fun ρ4 st4 k4 m4 H4 σ4 x4 r4 f4=>⟨by omega,m4,ρ4,st4,((x'.trans x2).trans x3).trans x4,r4,f4,k4⟩⟩
theorem while_snd (G:GMono Γ) {cd:E} {b:Ss} {D:L2.Ends} {σ:L2.St} {H:Hp} (h:TSx X.K (wpS Γ (.whileS cd b)) D σ H):tWhile (TTx X.K (wpT Γ cd)) (TSx X.K (wpSs Γ b)) D σ H:=by
 obtain ⟨m,ρ,st,rf,rh,w⟩:=h
 skip
 obtain ⟨n0,w⟩:=w
 refine ⟨fun n σ' H'=>∃m' ρ' st',Ext X.K m H m' H'∧RH X.K m' H' st'∧RF X.K m' H' ρ' σ'∧whileW (wpT Γ cd) (wpSs Γ b) (AE X.K m H D) n ρ' st',⟨n0,m,ρ,st,Ext.refl _ _ _,rh,rf,w⟩,?_⟩
 rintro n σ' H' ⟨m',ρ',st',x',rh',rf',k'⟩
 cases n with
 | zero=>exact k'.elim
 | succ n =>
  refine ⟨m',ρ',st',rf',rh',wpT_mono G cd (fun b st1 k m1 H1 x1 r1=>?_) k'⟩
  cases b with
  | false=>rw [if_neg Bool.false_ne_true] at k ⊢;exact k m1 H1 σ' (x'.trans x1) r1 (rf'.mono x1)
  | true =>
   rw [if_pos rfl] at k ⊢
   refine ⟨fun σ'' H''=>∃m' ρ' st',Ext X.K m H m' H''∧RH X.K m' H'' st'∧RF X.K m' H'' ρ' σ''∧whileW (wpT Γ cd) (wpSs Γ b) (AE X.K m H D) n ρ' st',fun σ'' H'' z=>⟨n,Nat.lt_succ_self _,z⟩,m1,ρ',st1,rf'.mono x1,r1,wpSs_mono G _ ?_ k⟩
   have xx:=x'.trans x1
   exact ⟨fun ρ4 st4 k4 m4 H4 σ4 x4 r4 f4=>⟨m4,ρ4,st4,xx.trans x4,r4,f4,k4⟩,fun v4 st4 k4=>k4.ext xx,fun ρ4 st4 k4=>k4.ext xx,fun ρ4 st4 k4 m4 H4 σ4 x4 r4 f4=>⟨m4,ρ4,st4,xx.trans x4,r4,f4,k4⟩⟩
end
end FW
set_option Elab.async false
set_option linter.all false
set_option maxRecDepth 100000
set_option maxHeartbeats 1000000
namespace FW
open PySem PySem.Spec PyProof.Rows L2 HX
noncomputable def isName:Expr→Bool
 | .Name ..=>true
 | _=>false
noncomputable def noSwap:Expr→Expr→Bool
 | .Tuple ts _ _,.Tuple _ _ _=>ts.any fun t=>!isName t
 | .Tuple ..,_=>true
 | .Subscript ..,_=>true
 | _,_=>false
noncomputable def hasVar (y:Str) (sc:Scope):Bool:=sc.names.any fun x=>match x with|(n,k)=>n == y && (k == .local || k == .cell)
noncomputable def onAsgs (x:Stmt) (f:List Expr→Expr→Bool):Bool:=match x with | .Assign ts v _=>f ts v|_=>false
theorem onAsgs_inv {x:Stmt} {f:List Expr→Expr→Bool} (h:onAsgs x f=true):∃ts v p,x=.Assign ts v p∧f ts v=true:=by
 cases x with|Assign ts v p=>exact ⟨ts,v,p,rfl,h⟩|_=>exact Bool.noConfusion h
noncomputable def onAsg (x:Stmt) (f:Expr→Expr→Bool):Bool:=onAsgs x fun ts v=>on1 ts fun t=>f t v
theorem onAsg_inv {x:Stmt} {f:Expr→Expr→Bool} (h:onAsg x f=true):∃t v p,x=.Assign [t] v p∧f t v=true:=by
 replace h:=onAsgs_inv h
 obtain ⟨ts,v,p,rfl,h⟩:=h
 replace h:=on1_inv h
 obtain ⟨t,rfl,h⟩:=h
 exact ⟨t,v,p,rfl,h⟩
noncomputable def onAug (x:Stmt) (f:Expr→Operator→Expr→Bool):Bool:=match x with | .AugAssign t o v _=>f t o v|_=>false
theorem onAug_inv {x:Stmt} {f:Expr→Operator→Expr→Bool} (h:onAug x f=true):∃t o v p,x=.AugAssign t o v p∧f t o v=true:=by
 cases x with|AugAssign t o v p=>exact ⟨t,o,v,p,rfl,h⟩|_=>exact Bool.noConfusion h
noncomputable def onEx (x:Stmt) (f:Expr→Bool):Bool:=match x with | .Expr v _=>f v|_=>false
theorem onEx_inv {x:Stmt} {f:Expr→Bool} (h:onEx x f=true):∃v p,x=.Expr v p∧f v=true:=by
 cases x with|Expr v p=>exact ⟨v,p,rfl,h⟩|_=>exact Bool.noConfusion h
noncomputable def onRet (x:Stmt) (f:Option Expr→Bool):Bool:=match x with | .Return v _=>f v|_=>false
theorem onRet_inv {x:Stmt} {f:Option Expr→Bool} (h:onRet x f=true):∃v p,x=.Return v p∧f v=true:=by
 cases x with|Return v p=>exact ⟨v,p,rfl,h⟩|_=>exact Bool.noConfusion h
noncomputable def onIf (x:Stmt) (f:Expr→List Stmt→List Stmt→Bool):Bool:=match x with | .If v a b _=>f v a b|_=>false
theorem onIf_inv {x:Stmt} {f:Expr→List Stmt→List Stmt→Bool} (h:onIf x f=true):∃v a b p,x=.If v a b p∧f v a b=true:=by
 cases x with|If v a b p=>exact ⟨v,a,b,p,rfl,h⟩|_=>exact Bool.noConfusion h
noncomputable def onWhile (x:Stmt) (f:Expr→List Stmt→Bool):Bool:=match x with | .While v a [] _=>f v a|_=>false
theorem onWhile_inv {x:Stmt} {f:Expr→List Stmt→Bool} (h:onWhile x f=true):∃v a p,x=.While v a [] p∧f v a=true:=by
 cases x with
 | While v a b p=>cases b with|nil=>exact ⟨v,a,p,rfl,h⟩|cons _ _=>exact Bool.noConfusion h
 | _=>exact Bool.noConfusion h
noncomputable def onFor (x:Stmt) (f:Expr→Expr→List Stmt→Bool):Bool:=match x with | .For t v a [] _=>f t v a|_=>false
theorem onFor_inv {x:Stmt} {f:Expr→Expr→List Stmt→Bool} (h:onFor x f=true):∃t v a p,x=.For t v a [] p∧f t v a=true:=by
 cases x with
 | For t v a b p=>cases b with|nil=>exact ⟨t,v,a,p,rfl,h⟩|cons _ _=>exact Bool.noConfusion h
 | _=>exact Bool.noConfusion h
noncomputable def onPass (x:Stmt):Bool:=match x with | .Pass _=>true|_=>false
theorem onPass_inv {x:Stmt} (h:onPass x=true):∃p,x=.Pass p:=by
 cases x with|Pass p=>exact ⟨p,rfl⟩|_=>exact Bool.noConfusion h
noncomputable def onBrk (x:Stmt):Bool:=match x with | .Break _=>true|_=>false
theorem onBrk_inv {x:Stmt} (h:onBrk x=true):∃p,x=.Break p:=by
 cases x with|Break p=>exact ⟨p,rfl⟩|_=>exact Bool.noConfusion h
noncomputable def onCont (x:Stmt):Bool:=match x with | .Continue _=>true|_=>false
theorem onCont_inv {x:Stmt} (h:onCont x=true):∃p,x=.Continue p:=by
 cases x with|Continue p=>exact ⟨p,rfl⟩|_=>exact Bool.noConfusion h
noncomputable def isTn:Tg→Bool
 | .name _=>true
 | _=>false
noncomputable def isEc:E→Bool
 | .comp ..=>true
 | _=>false
noncomputable def setC (c:Cfg) (t:Tg) (e:E) (tg x:Expr):Bool :=
 isTn t && isEc e && onName tg fun y py=>onLC x fun _ _ sc pos=>c.names.lookup y == some .cell || (c.names.lookup y == some .local && py.line == pos.line && !hasVar y sc)
noncomputable def celN (c:Cfg) (t:Expr):Bool:=onName t fun y _=>c.names.lookup y == some .cell
noncomputable def setT (c:Cfg):Expr→Expr→Bool
 | .Tuple ..,.ListComp ..=>true
 | .Tuple ts _ _,.Tuple ..=>ts.any (celN c)
 | _,_=>false
mutual
noncomputable def chkS (c:Cfg):S→Stmt→Bool
 | .set t e,s=>onAsg s fun tg x=>(chkTg c t tg && chkE c e x) && ((noComp x && (isName tg || noSwap tg x)) || (setC c t e tg x || setT c tg x))
 | .par i j a b,s=>onAsg s fun tg vx=>onTuple tg fun ts=>on2 ts fun ta tb=>onName ta fun x px=>onName tb fun y py=>onTuple vx fun us=>on2 us fun u v=>c.N[i]? == some x && c.N[j]? == some y && !(i == j) && !(x == y) && c.names.lookup x == some .local && c.names.lookup y == some .local
    && px.line == py.line && noStar u && noStar v && !(foldedForSure 8 u && foldedForSure 8 v) && !(constantsAlone 8 u && constantsAlone 8 v) && chkE c a u && chkE c b v
 | .aug i op e,s=>onAug s fun t o x=>onName t fun y _=>c.N[i]? == some y && c.loc y && o == op && chkE c e x
 | .expr e,s=>onEx s fun x=>noComp x && chkE c e x
 | .ret e,s=>onRet s fun o=>onSome o fun x=>chkE c e x
 | .retN,s=>onRet s fun o=>o.isNone
 | .ifS t a b,s=>onIf s fun x ys zs=>chkT c t x && chkSs c a ys && chkSs c b zs
 | .whileS t b,s=>onWhile s fun x ys=>chkT c t x && chkSs c b ys
 | .forS t it b,s=>onFor s fun tg x ys=>tgFor it tg && noSet x && chkTg c t tg && chkIt c it x && chkSs c b ys
 | .pass,s=>onPass s
 | .brk,s=>onBrk s
 | .cont,s=>onCont s
 | .bad,_=>true
 | .set2 i j e,s=>onAsgs s fun ts v=>on2 ts fun ta tb=>onName ta fun x _=>onName tb fun y _=>c.N[i]? == some x && c.N[j]? == some y && !(i == j) && c.loc x && c.loc y && noComp v && chkE c e v
termination_by structural s=>s
noncomputable def chkSs (c:Cfg):Ss→List Stmt→Bool
 | .nil,xs=>xs.isEmpty
 | .cons s ss,xs=>onCons xs fun y ys=>chkS c s y && chkSs c ss ys
termination_by structural s=>s
end
theorem isTn_eq {t:Tg} (h:isTn t=true):∃i,t=.name i:=by
 cases t with|name i=>exact ⟨i,rfl⟩|_=>exact Bool.noConfusion h
theorem isEc_eq {e:E} (h:isEc e=true):∃elt tg it ifs nt caps,e=.comp elt tg it ifs nt caps:=by
 cases e with|comp elt tg it ifs nt caps=>exact ⟨elt,tg,it,ifs,nt,caps,rfl⟩|_=>exact Bool.noConfusion h
theorem noComp_swap {x:Expr} {t:Option Expr} {l:Nat} {env:Env} (h:noComp x=true):swapsWith x t l env=pure false:=by
 cases x <;> first|rfl|cases h
theorem noComp_sole {x t:Expr} {l:Nat} {env:Env} (h:noComp x=true):swapsWithSole [t] x l env=pure false:=by
 unfold swapsWithSole
 exact noComp_swap h
theorem names_short:∀(ts:List Expr) (f:Expr→Option Str),(ts.any fun t=>!isName t)=true→(∀t,isName t=false→f t=none)→(ts.filterMap f).length<ts.length
 | [],f,h,_=>by cases h
 | t::ts,f,h,hf=>by
  rw [List.any_cons,Bool.or_eq_true] at h
  have hl:(ts.filterMap f).length≤ts.length:=List.length_filterMap_le _ _
  rcases h with h|h
  ·rw [List.filterMap_cons,hf t (by simpa using h)]
   simp only [List.length_cons]
   omega
  ·have:=names_short ts f h hf
   rw [List.filterMap_cons]
   cases f t <;> simp only [List.length_cons] <;> omega
theorem names_shortP:∀(ts:List Expr) (P:Expr→Bool) (f:Expr→Option Str),ts.any P=true→(∀t,P t=true→f t=none)→(ts.filterMap f).length<ts.length
 | [],P,f,h,_=>by cases h
 | t::ts,P,f,h,hf=>by
  rw [List.any_cons,Bool.or_eq_true] at h
  have hl:(ts.filterMap f).length≤ts.length:=List.length_filterMap_le _ _
  rcases h with h|h
  ·rw [List.filterMap_cons,hf t h]
   simp only [List.length_cons]
   omega
  ·have:=names_shortP ts P f h hf
   rw [List.filterMap_cons]
   cases f t <;> simp only [List.length_cons] <;> omega
theorem cel_swap {ts vs:List Expr} {k k2:Nat} {p p2:Pos} {env:Env} {P:Expr→Bool} (hs:ts.any P=true) (hP:∀t,P t=true→∃y q,t=.Name y q∧(env.kindOf y == some .local)=false):swappedStores [.Tuple ts k p] (.Tuple vs k2 p2) env=pure none:=by
 unfold swappedStores
 dsimp only
 split
 ·rfl
 ·split
  ·rfl
  ·have hlt:=names_shortP ts P (fun x=>match x with
    | .Name id pos=>if (env.kindOf id == some .local && pos.line == (Option.map (fun x=>x.pos.line) ts.head?).getD 0)=true then some id else none
    | _=>none) hs (fun t ht=>by
     obtain ⟨y,q,rfl,hk⟩:=hP t ht
     show (if (env.kindOf y == some .local && _)=true then some y else none)=none
     rw [hk,Bool.false_and,if_neg Bool.false_ne_true])
   rw [if_pos]
   rw [Bool.or_eq_true]
   left
   rw [bne_iff_ne]
   exact Nat.ne_of_lt hlt
theorem noSwap_ok {tg x:Expr} {env:Env} (h:noSwap tg x=true):swappedStores [tg] x env=pure none:=by
 cases tg with
 | Tuple ts k p =>
  cases x with
  | Tuple vs k2 p2 =>
   have hs:(ts.any fun t=>!isName t)=true:=h
   unfold swappedStores
   dsimp only
   split
   ·rfl
   ·split
    ·rfl
    ·have hlt:=names_short ts (fun x=>match x with
      | .Name id pos=>if (env.kindOf id == some .local && pos.line == (Option.map (fun x=>x.pos.line) ts.head?).getD 0)=true then some id else none
      | _=>none) hs (fun t ht=>by cases t <;> first|rfl|cases ht)
     rw [if_pos]
     rw [Bool.or_eq_true]
     left
     rw [bne_iff_ne]
     exact Nat.ne_of_lt hlt
  | _=>rfl
 | Subscript a b p=>cases x <;> rfl
 | _=>cases h
noncomputable def isStar:Expr→Bool
 | .Starred ..=>true
 | _=>false
theorem isStar_no {u:Expr} (h:noStar u=true):isStar u=false:=by
 cases u <;> first|rfl|cases h
theorem noStar_any {u v:Expr} (h1:noStar u=true) (h2:noStar v=true):([u,v].any fun | .Starred ..=>true|_=>false)=false:=by
 show (isStar u || (isStar v || false))=false
 rw [isStar_no h1,isStar_no h2]
 rfl
theorem par_swap {env:Env} {x y:Str} {px py pt:Pos} {kt k2:Nat} {pt2:Pos} {u v:Expr} (hb:env.blockKind=.function) (hx:env.kindOf x=some .local) (hy:env.kindOf y=some .local) (hxy:x≠y) (hl:px.line=py.line)
  (h1:noStar u=true) (h2:noStar v=true) (h3:(foldedForSure 8 u && foldedForSure 8 v)=false) (h4:(constantsAlone 8 u && constantsAlone 8 v)=false) :
  swappedStores [.Tuple [.Name x px,.Name y py] kt pt] (.Tuple [u,v] k2 pt2) env=pure (some [x,y]):=by
 unfold swappedStores
 dsimp only
 have e0:(Option.map (fun x=>x.pos.line) [Expr.Name x px,Expr.Name y py].head?).getD 0=px.line:=rfl
 have e1:([u,v].any fun | .Starred ..=>true|_=>false)=false:=noStar_any h1 h2
 have e2:[u,v].all (foldedForSure 8)=false:=by simpa using h3
 have e3:[u,v].all (constantsAlone 8)=false:=by simpa using h4
 have e4:[x,y].eraseDups.length=2:=by
  have:(y == x)=false:=by simpa using fun z=>hxy z.symm
  simp [List.eraseDups_cons,this]
 rw [if_neg (by simp [hb]),if_neg ?h1]
 case h1=>exact fun z=>Bool.false_ne_true (e1.symm.trans z)
 have e5:(List.filterMap (fun t=>match t with
   | .Name id pos=>if (env.kindOf id == some .local && pos.line == (Option.map (fun x=>x.pos.line) [Expr.Name x px,Expr.Name y py].head?).getD 0)=true then some id else none
   | _=>none) [Expr.Name x px,Expr.Name y py])=[x,y]:=by
  rw [e0]
  simp [List.filterMap_cons,hx,hy,hl]
 generalize hn:List.filterMap _ [Expr.Name x px,Expr.Name y py]=ns
 have hns:ns=[x,y]:=hn.symm.trans e5
 subst hns
 rw [if_neg,if_neg,if_neg]
 ·rw [e3];decide
 ·rw [e2];decide
 ·rw [e4]
  simp
section
variable {X:Cx} {c:Cfg} {Γ:Nat→FSp}
theorem set_comp {X:Cx} {c:Cfg} {Γ:Nat→FSp} (C:COk X c Γ) {t:Tg} {e:E} {tg x:Expr} {pos:Pos} (h2:chkTg c t tg=true) (h3:chkE c e x=true) (h:setC c t e tg x=true):PS X (.Assign [tg] x pos) (TSx X.K (wpS Γ (.set t e))):=by
 have hE:=sndE e C _ h3
 unfold setC at h
 rw [Bool.and_eq_true,Bool.and_eq_true] at h
 obtain ⟨⟨ht,he⟩,h⟩:=h
 replace h:=onName_inv h
 obtain ⟨y,py,rfl,h⟩:=h
 replace h:=onLC_inv h
 obtain ⟨ex,gens,sc,cpos,rfl,h⟩:=h
 obtain ⟨i,rfl⟩:=isTn_eq ht
 obtain ⟨elt,tg,it,ifs,nt,caps,rfl⟩:=isEc_eq he
 ·have h2:(c.N[i]? == some y && c.loc y)=true:=h2
  simp only [Bool.and_eq_true,beq_iff_eq] at h2
  obtain ⟨g1,g2⟩:=C.locx h2.2
  rintro pins s σ H D I ⟨m,ρ,st,rf,rh,w⟩
  simp only [Bool.or_eq_true,Bool.and_eq_true,beq_iff_eq,Bool.not_eq_true'] at h
  rcases h with h|⟨⟨hl,hp⟩,hn⟩
  ·have hk:=C.cel y (.inl h)
   have hs:swapsWith (.ListComp ex gens sc cpos) (some (.Name y py)) pos.line X.env=pure false:=by
    unfold swapsWith
    have:(X.env.kindOf y == some NameKind.local)=false:=by rcases hk with hk|hk <;> rw [hk] <;> rfl
    simp only [this,Bool.and_false,Bool.false_and]
   rw [S_set] at w
   refine ps_set C.ndX (by rw [C.N];exact h2.1) g1 hE hs g2 pins s σ H D I ⟨m,ρ,st,rf,rh,wpE_mono C.mono _ (fun v st1 k m1 H1 x1 e1 r1 r2=>?_) w⟩
   try simp only [Tg_name,Tg_tup,Tg_ltup,Tg_sub] at k
   exact k m1 H1 _ e1 r1 ((rf.mono e1).set i r2)
  ·have hll:=C.lcl _ hl
   have hs:swapsWith (.ListComp ex gens sc cpos) (some (.Name y py)) pos.line X.env=pure true:=by
    unfold swapsWith
    have q1:(X.env.kindOf y == some NameKind.local)=true:=by unfold Env.kindOf;rw [hll];rfl
    have q2:(X.env.blockKind == ScopeKind.function)=true:=by rw [C.bk];rfl
    have q3:(py.line == cpos.line)=true:=by rw [hp];simp
    unfold hasVar at hn
    show pure (_ && _ && _ && !_)=_
    rw [q1,q2]
    show pure (true && true && (py.line == cpos.line) && !_)=_
    rw [q3,hn]
    rfl
   replace h3:=onLC_inv h3
   obtain ⟨ex',gs',sc',pos',heq,h3⟩:=h3
   cases heq
   replace h3:=on1_inv h3
   obtain ⟨g,rfl,h3⟩:=h3
   obtain ⟨tx,ix,fx,ia⟩:=g
   ·simp only [Bool.and_eq_true,beq_iff_eq] at h3
    obtain ⟨⟨⟨⟨⟨⟨⟨⟨h1,h0⟩,k2'⟩,h3⟩,h4⟩,h5⟩,h6⟩,h7⟩,h8⟩:=h3
    subst h1
    obtain ⟨S,k1,k2,k3,k4⟩:=block_ok C h4
    have hC:∀s2 H2 fp A,COk (cxC X (nt++caps.filterMap (X.N[·]?)) s2 H2 fp sc A) (c.inner nt caps sc) Γ:=fun s2 H2 fp A=>cok_in C h4
    skip
    rw [exec_Assign_Name_used _ _ _ _ hs]
    refine wpAny_bind (wpAny_standAt ?_)
    refine wpAny_bind ?_
    unfold evalThenUse
    refine wpAny_bind ?_
    refine comp_core (elt:=elt) (tg:=tg) (ifs:=ifs) (nt:=nt) (caps:=caps) (use:=some (assign (.Name y py) X.env)) (Fin:=fun A H'=>D.nx (σ.set i (some (.ref A))) H') (wi:=TIx X.K (wpIt Γ it)) C.mono C.calm S rfl k1 k2 k3 k2' h3 (sndIt it C _ h0 h5) (fun s2 H2 fp A=>sndTg tg (hC s2 H2 fp A) _ h6) (fun s2 H2 fp A=>sndPTs ifs (hC s2 H2 fp A) _ h7) (fun s2 H2 fp A=>sndE elt (hC s2 H2 fp A) _ h8) I ?_ ?_
    ·refine ⟨m,ρ,st,rf,rh,wpIt_mono C.mono it (fun xs chk st1 z m1 H1 J e1 r1 W=>⟨m1,ρ,st1,xs,chk,rf.mono e1,r1,W,z.1,?_⟩) w⟩
     refine compW_mono (body:=bodyC Γ elt tg ifs (nt.map (fun _=>none)++caps.map fun i=>(ρ[i]?).join)) (fun _ _ _ _ hk q=>bodyC_mono C.mono hk q) (fun vs st2 k m2 H2 A ys e2 r2 Dm hD0 hD ry=>?_) z.2
     have hD1:H A=none:=by
      cases q:H A with
      | none=>rfl
      | some o =>
       by_cases hm:A∈m
       ·exact absurd ((e1.trans e2).pre.subset hm) Dm
       ·exact absurd hD0 (e1.ne hm q)
     try simp only [Tg_name,Tg_tup,Tg_ltup,Tg_sub] at k
     exact k _ _ _ ((e1.trans e2).addD hD1) (r2.addD Dm hD ry) ((rf.mono ((e1.trans e2).addD hD1)).set i (R.last r2.len))
    ·intro C' A H' s' m' I' ns fp F
     refine wpAny_assign_Name (store_ok2 I' C.ndX (by rw [C.N];exact h2.1) g1 (v:=.ref A) rfl (fun s2 I2 hh=>?_) g2)
     obtain ⟨a,hs2,ha⟩:=hh
     have hne:C'≠a:=by
      rcases ha with rfl|ha
      ·exact fp.2.1
      ·exact fun q=>fp.2.2.2.2.1 _ _ ha q.symm
     refine ⟨m',?_,fun h' hs'=>?_⟩
     ·obtain ⟨o,es,ep,q1,q2⟩:=ns
      exact ⟨o,es,ep,(hs2.2 C' hne).trans q1,q2⟩
     ·refine wpAny_pure (wpAny_pure ?_)
      exact ⟨_,H',I2.turned (t':=s2.toks) (fun b o hb e=>hs'.extBut b o hb e) fp.1 fp.2.1 fp.2.2.2.1 fp.2.2.2.2.1 fp.2.2.2.2.2,F⟩
mutual
theorem sndS (C:COk X c Γ):∀(e:S) (x:Stmt),chkS c e x=true→PS X x (TSx X.K (wpS Γ e))
 | .set t e,x,h=>by
  replace h:=onAsg_inv h
  obtain ⟨tg,x,pos,rfl,h⟩:=h
  ·simp only [Bool.and_eq_true,Bool.or_eq_true] at h
   obtain ⟨⟨h2,h3⟩,h14⟩:=h
   rcases h14 with ⟨h1,h4⟩|h14|h14
   rotate_left
   ·exact set_comp C h2 h3 h14
   ·have hE:=sndE e C _ h3
    have hG:=sndTg t C _ h2
    rintro pins s σ H D I ⟨m,ρ,st,rf,rh,w⟩
    skip
    have rd:tAsg (TEx X.K (wpE Γ e)) (TGx X.K (wpTg Γ t)) D σ H:=⟨m,ρ,st,rf,rh,wpE_mono C.mono e (fun v st1 k m1 H1 x1 e1 r1 r2=>⟨m1,ρ,st1,v,rf.mono e1,r1,r2,wpTg_mono C.mono t (fun _ _ q=>q.ext e1) k⟩) w⟩
    cases tg with
    | Tuple ts k p =>
     cases x with
     | ListComp a b d f=>exact ps_asg hE hG rfl rfl rfl pins s σ H D I rd
     | Tuple us k2 p2 =>
      refine ps_asg hE hG rfl (cel_swap (P:=celN c) h14 fun t ht=>?_) rfl pins s σ H D I rd
      obtain ⟨y,q,rfl,hy⟩:=onName_inv (show onName t _=true from ht)
      refine ⟨y,q,rfl,?_⟩
      rcases C.cel y (.inl (by simpa using hy)) with hk|hk <;> rw [hk] <;> rfl
     | _=>cases h14
    | _=>cases x <;> cases h14
   ·have hE:=sndE e C _ h3
    have hG:=sndTg t C _ h2
    rintro pins s σ H D I ⟨m,ρ,st,rf,rh,w⟩
    skip
    have rd:tAsg (TEx X.K (wpE Γ e)) (TGx X.K (wpTg Γ t)) D σ H:=⟨m,ρ,st,rf,rh,wpE_mono C.mono e (fun v st1 k m1 H1 x1 e1 r1 r2=>⟨m1,ρ,st1,v,rf.mono e1,r1,r2,wpTg_mono C.mono t (fun _ _ q=>q.ext e1) k⟩) w⟩
    cases tg with
    | Name y p =>
     cases t with
     | name i =>
      have h2:(c.N[i]? == some y && c.loc y)=true:=h2
      simp only [Bool.and_eq_true,beq_iff_eq] at h2
      obtain ⟨g1,g2⟩:=C.locx h2.2
      refine ps_set C.ndX (by rw [C.N];exact h2.1) g1 hE (noComp_swap h1) g2 pins s σ H D I ⟨m,ρ,st,rf,rh,wpE_mono C.mono e (fun v st1 k m1 H1 x1 e1 r1 r2=>?_) w⟩
      try simp only [Tg_name,Tg_tup,Tg_ltup,Tg_sub] at k
      exact k m1 H1 _ e1 r1 ((rf.mono e1).set i r2)
     | tup ts=>exact Bool.noConfusion (show false=true from h2)
     | ltup ts=>exact Bool.noConfusion (show false=true from h2)
     | sub o i=>exact Bool.noConfusion (show false=true from h2)
    | Tuple ts k p=>exact ps_asg hE hG (noComp_sole h1) (noSwap_ok (by rcases h4 with h4|h4;cases h4;exact h4)) rfl pins s σ H D I rd
    | Subscript a b p=>exact ps_asg hE hG (noComp_sole h1) (noSwap_ok (by rcases h4 with h4|h4;cases h4;exact h4)) rfl pins s σ H D I rd
    | _=>rcases h4 with h4|h4 <;> cases h4
 | .par i j a b,x,h=>by
  replace h:=onAsg_inv h
  obtain ⟨tg,vx,pos,rfl,h⟩:=h
  replace h:=onTuple_inv h
  obtain ⟨ts,k,p1,rfl,h⟩:=h
  replace h:=on2_inv h
  obtain ⟨ta,tb,rfl,h⟩:=h
  replace h:=onName_inv h
  obtain ⟨x,px,rfl,h⟩:=h
  replace h:=onName_inv h
  obtain ⟨y,py,rfl,h⟩:=h
  replace h:=onTuple_inv h
  obtain ⟨us,k2,p2,rfl,h⟩:=h
  replace h:=on2_inv h
  obtain ⟨u,v,rfl,h⟩:=h
  ·simp only [Bool.and_eq_true,beq_iff_eq,Bool.not_eq_true',beq_eq_false_iff_ne] at h
   obtain ⟨⟨⟨⟨⟨⟨⟨⟨⟨⟨⟨⟨h1,h2⟩,h3⟩,h4⟩,h5⟩,h6⟩,h7⟩,h8⟩,h9⟩,h10⟩,h11⟩,h12⟩,h13⟩:=h
   have hx:=C.lcl _ h5
   have hy:=C.lcl _ h6
   rintro pins s σ H D I ⟨m,ρ,st,rf,rh,w⟩
   skip
   refine ps_par C.calm C.ndX (by rw [C.N];exact h1) (by rw [C.N];exact h2) h3 hx hy (pac (sndE a C _ h12) (pac (sndE b C _ h13) pa_nil h9) h8)
    (par_swap C.bk hx hy h4 h7 h8 h9 h10 h11) rfl pins s σ H D I ⟨m,ρ,st,rf,rh,wpE_mono C.mono a (fun v st1 k m1 H1 x1 e1 r1 r2=>⟨m1,ρ,st1,rf.mono e1,r1,
    wpE_mono C.mono b (fun u st2 k2 m2 H2 y2 e2 r3 r4=>⟨x1,y2,rfl,?_⟩) k⟩) w⟩
   exact k2 m2 H2 _ (e1.trans e2) r3 ((((rf.mono e1).mono e2).set i (r2.mono e2)).set j r4)
 | .aug i op e,x,h=>by
  replace h:=onAug_inv h
  obtain ⟨t,o,x,p,rfl,h⟩:=h
  replace h:=onName_inv h
  obtain ⟨y,py,rfl,h⟩:=h
  ·simp only [Bool.and_eq_true,beq_iff_eq] at h
   obtain ⟨⟨⟨h1,h2⟩,h3⟩,h4⟩:=h
   subst h3
   obtain ⟨g1,g2⟩:=C.locx h2
   rintro pins s σ H D I ⟨m,ρ,st,rf,rh,w⟩
   skip
   obtain ⟨v,ev,w⟩:=w
   obtain ⟨y,ey,ry⟩:=rf.at_ i v ev
   refine ps_aug C.ndX (by rw [C.N];exact h1) g1 (sndE e C _ h4) (aug_ok _) g2 pins s σ H D I ⟨y,ey,m,ρ,st,rf,rh,wpE_mono C.mono e (fun u st1 k m1 H1 x1 e1 r1 r2=>⟨m1,st1,v,u,r1,ry.mono e1,r2,augW_mono (fun z st2 q m2 H2 z2 e2 r3 r4=>?_) k⟩) w⟩
   exact q m2 H2 _ (e1.trans e2) r3 (((rf.mono e1).mono e2).set i r4)
 | .expr e,x,h=>by
  replace h:=onEx_inv h
  obtain ⟨x,p,rfl,h⟩:=h
  ·simp only [Bool.and_eq_true] at h
   rintro pins s σ H D I ⟨m,ρ,st,rf,rh,w⟩
   skip
   exact ps_expr (sndE e C _ h.2) (noComp_swap h.1) pins s σ H D I ⟨m,ρ,st,rf,rh,wpE_mono C.mono e (fun u st1 k m1 H1 x1 e1 r1 r2=>k m1 H1 σ e1 r1 (rf.mono e1)) w⟩
 | .ret e,x,h=>by
  replace h:=onRet_inv h
  obtain ⟨o,p,rfl,h⟩:=h
  replace h:=onSome_inv h
  obtain ⟨x,rfl,h⟩:=h
  ·rintro pins s σ H D I ⟨m,ρ,st,rf,rh,w⟩
   skip
   exact ps_ret (sndE e C _ h) pins s σ H D I ⟨m,ρ,st,rf,rh,w⟩
 | .retN,x,h=>by
  replace h:=onRet_inv h
  obtain ⟨o,p,rfl,h⟩:=h
  replace h:=isNone_eq h
  obtain rfl:=h
  ·rintro pins s σ H D I ⟨m,ρ,st,rf,rh,w⟩
   skip
   exact ps_retN pins s σ H D I (post.here w rh (R_non.mpr rfl))
 | .ifS t a b,x,h=>by
  replace h:=onIf_inv h
  obtain ⟨x,ys,zs,p,rfl,h⟩:=h
  ·simp only [Bool.and_eq_true] at h
   obtain ⟨⟨h1,h2⟩,h3⟩:=h
   rintro pins s σ H D I ⟨m,ρ,st,rf,rh,w⟩
   skip
   refine ps_if (sndT t C _ h1) (sndSs C a _ h2) (sndSs C b _ h3) pins s σ H D I ⟨m,ρ,st,rf,rh,wpT_mono C.mono t (fun k st1 z m1 H1 e1 r1=>?_) w⟩
   cases k with
   | true=>rw [if_pos rfl] at z ⊢;exact ⟨m1,ρ,st1,rf.mono e1,r1,wpSs_mono C.mono a (AE.ext e1) z⟩
   | false=>rw [if_neg Bool.false_ne_true] at z ⊢;exact ⟨m1,ρ,st1,rf.mono e1,r1,wpSs_mono C.mono b (AE.ext e1) z⟩
 | .whileS t b,x,h=>by
  replace h:=onWhile_inv h
  obtain ⟨x,ys,p,rfl,h⟩:=h
  ·simp only [Bool.and_eq_true] at h
   intro pins s σ H D I w
   exact ps_while C.pass (sndT t C _ h.1) (sndSs C b _ h.2) pins s σ H D I (while_snd C.mono w)
 | .forS t it b,x,h=>by
  replace h:=onFor_inv h
  obtain ⟨tg,x,ys,p,rfl,h⟩:=h
  ·simp only [Bool.and_eq_true] at h
   obtain ⟨⟨⟨⟨h0,h1⟩,h2⟩,h3⟩,h4⟩:=h
   intro pins s σ H D I w
   exact ps_for C.pass C.calm (sndIt it C _ h0 h3) (sndTg t C _ h2) (sndSs C b _ h4) (noSet_ok h1) pins s σ H D I (for_snd C.mono w)
 | .bad,x,h=>by
  rintro pins s σ H D I ⟨m,ρ,st,rf,rh,w⟩
  exact False.elim w
 | .set2 i j e,x,h=>by
  replace h:=onAsgs_inv h
  obtain ⟨ts,v,pos,rfl,h⟩:=h
  replace h:=on2_inv h
  obtain ⟨ta,tb,rfl,h⟩:=h
  replace h:=onName_inv h
  obtain ⟨x,px,rfl,h⟩:=h
  replace h:=onName_inv h
  obtain ⟨y,py,rfl,h⟩:=h
  ·simp only [Bool.and_eq_true,beq_iff_eq,Bool.not_eq_true',beq_eq_false_iff_ne] at h
   obtain ⟨⟨⟨⟨⟨⟨h1,h2⟩,h3⟩,h4⟩,h5⟩,h6⟩,h7⟩:=h
   obtain ⟨a1,a2⟩:=C.locx h4
   obtain ⟨b1,b2⟩:=C.locx h5
   rintro pins s σ H D I ⟨m,ρ,st,rf,rh,w⟩
   skip
   refine wpAny_Assign_two (thn (sndE e C _ h7 pins s σ H (fun y H1=>D.nx ((σ.set i (some y)).set j (some y)) H1) I ⟨m,ρ,st,rf,rh,wpE_mono C.mono e (fun v st1 k m1 H1 x1 e1 r1 r2=>k m1 H1 _ e1 r1 (((rf.mono e1).set i r2).set j r2)) w⟩) fun v s1 ⟨y,H1,I1,r1,q1⟩=>?_) rfl rfl
   refine PySem.wpAny_assign_Name ?_
   refine store_ok I1 C.ndX (by rw [C.N];exact h1) a1 r1 (fun s2 I2=>?_) a2
   refine PySem.wpAny_assign_Name ?_
   exact store_ok I2 C.ndX (by rw [C.N];exact h2) b1 r1 (fun s3 I3=>⟨_,H1,I3,q1⟩) b2
 | .pass,x,h=>by
  replace h:=onPass_inv h
  obtain ⟨p,rfl⟩:=h
  ·rintro pins s σ H D I ⟨m,ρ,st,rf,rh,w⟩
   skip
   exact ps_pass pins s σ H D I (postF.here w rh rf)
 | .brk,x,h=>by
  replace h:=onBrk_inv h
  obtain ⟨p,rfl⟩:=h
  ·rintro pins s σ H D I ⟨m,ρ,st,rf,rh,w⟩
   skip
   exact ps_break pins s σ H D I (postF.here w rh rf)
 | .cont,x,h=>by
  replace h:=onCont_inv h
  obtain ⟨p,rfl⟩:=h
  ·rintro pins s σ H D I ⟨m,ρ,st,rf,rh,w⟩
   skip
   exact ps_continue pins s σ H D I (postF.here w rh rf)
theorem sndSs (C:COk X c Γ):∀(e:Ss) (x:List Stmt),chkSs c e x=true→PSs X x (TSx X.K (wpSs Γ e))
 | .nil,x,h=>by
  have h:x.isEmpty=true:=h
  cases x with
  | nil =>
   rintro pins s σ H D I ⟨m,ρ,st,rf,rh,w⟩
   skip
   exact pss_nil pins s σ H D I (postF.here w rh rf)
  | cons _ _=>cases h
 | .cons e es,x,h=>by
  replace h:=onCons_inv h
  obtain ⟨y,ys,rfl,h⟩:=h
  ·simp only [Bool.and_eq_true] at h
   rintro pins s σ H D I ⟨m,ρ,st,rf,rh,w⟩
   skip
   refine pss_cons (sndS C e _ h.1) (sndSs C es _ h.2) pins s σ H D I ⟨m,ρ,st,rf,rh,wpS_mono C.mono e ?_ w⟩
   exact ⟨fun ρ1 st1 k m1 H1 σ1 e1 r1 f1=>⟨m1,ρ1,st1,f1,r1,wpSs_mono C.mono es (AE.ext e1) k⟩,fun _ _ q=>q,fun _ _ q=>q,fun _ _ q=>q⟩
end
structure GOk (P:Program) (w:World) (K:PySem.W.Frag) (mg:Str→Option Value) (base:Heap) (c:Cfg) (Γ:Nat→FSp):Prop where
 fn:∀f x,f<c.lim→c.fns[f]?=some x→∃ps,Has P w K mg base (f+1) x ps (absSp K (Γ f))
 blt:∀x∈c.blts,mg x=none
 gl:∀x v,c.gl.lookup x=some v→∃u y,mg x=some u∧RelV y u∧∀m H,R K m H v y
 mono:GMono Γ
noncomputable def frame (n:Nat) (as:List PV):Fr:=as.map some++List.replicate (n-as.length) none
noncomputable def bodyEnds (st:AH) (Q:EK):AEnds:={ nx:=fun _ st'=>Ret st Q .non st',rt:=Ret st Q }
theorem Ret_post {K:PySem.W.Frag} {m:List Addr} {H:Hp} {st st':AH} {Q:VK} {v:PV} (rh:RH K m H st) (q:Ret st (post K m H Q) v st'):post K m H Q v st':=by
 rcases q with q|q
 ·exact q
 ·intro m' H' x e r s
  obtain ⟨st1,q,e2,r3,r4⟩:=tmp_end rh e r s q
  exact q m H' x e2 r3 r4
theorem rf_start {K:PySem.W.Frag} {m:List Addr} {H:Hp} {N:List Str} {as:List PV} {vs:List V} (r:Rs K m H as vs):RF K m H (frame N.length as) (L2.start N vs):=by
 have hl:=r.len
 refine ⟨by simp [frame,L2.start,hl],fun i v e=>?_⟩
 unfold frame at e
 unfold L2.start
 by_cases hi:i<as.length
 ·rw [List.getElem?_append_left (by simpa using hi),List.getElem?_map] at e
  cases q:as[i]? with
  | none=>rw [q] at e;cases e
  | some a =>
   rw [q] at e
   cases e
   obtain ⟨y,e1,r1⟩:=r.get q
   exact ⟨y,by rw [List.getElem?_append_left (by simp;omega),List.getElem?_map,e1];rfl,r1⟩
 ·rw [List.getElem?_append_right (by simpa using hi),List.getElem?_replicate] at e
  split at e <;> cases e
theorem cok_of {P:Program} {w:World} {K:PySem.W.Frag} {mg:Str→Option Value} {base:Heap} {x:Str} {st:Stmt} {N ps:List Str} (S:FnScope N ps (defScope st)) {f:Addr} {cdv:Value} {A:Around} {outer:List Env} {s:Shared} {H:Hp} {E:XK}
  (hN:c.N=N) (hn:c.names=(defScope st).names) (hr:Room c.lim (A.deeper (envOfC x (defScope st) s.heap.objs.size f cdv))) (G:GOk P w K mg base c Γ)
  (lam:c.pc=true→∀ {pins:List (Addr × Obj)} {σ:L2.St} {H2:Hp} {s2:Shared} {b:Addr} {u:Value} {v:V} {Q:VK},L2.Inv (cxOf CX0 P w K mg base N x (defScope st) f cdv A outer s H E).nox pins σ H2 s2→RelV v u→absSp K (Γ 1000) [.ref b,v] H2 Q E0 →
   PySem.W.FnAt b s2.heap∧wpAny (model P w) (cxOf CX0 P w K mg base N x (defScope st) f cdv A outer s H E).nox.A (call (.ref b) [u]) (EP (cxOf CX0 P w K mg base N x (defScope st) f cdv A outer s H E).nox pins σ Q) (cxOf CX0 P w K mg base N x (defScope st) f cdv A outer s H E).nox.xe s2)
  (hmo:∀k,c.hm=some k→HmX (cxOf CX0 P w K mg base N x (defScope st) f cdv A outer s H E).nox k) :
  COk (cxOf CX0 P w K mg base N x (defScope st) f cdv A outer s H E).nox c Γ where
 calm:=rfl
 pass:=PassesOwn.never
 N:=hN.symm
 nd:=by rw [hN];exact S.nd
 vis:=fun y h=>by rw [hn] at h;exact h
 loc:=fun y h=>by rw [hn] at h;exact ⟨h,.inl rfl⟩
 lcl:=fun y h=>by rw [hn] at h;exact h
 glb:=fun y h=>by rw [hn] at h;exact h
 bk:=by
  show Env.blockKind (envOfC x (defScope st) s.heap.objs.size f cdv)=_
  unfold Env.blockKind
  show (if (defScope st).kind.isAnnotationScope=true then _ else (defScope st).kind)=_
  rw [S.kind]
  rfl
 cel:=fun y h=>by rw [hn] at h;exact h
 room:=hr
 fn:=G.fn
 blt:=G.blt
 gl:=G.gl
 mono:=G.mono
 lam:=lam
 hmo:=hmo
theorem def_ok {P:Program} {w:World} {K:PySem.W.Frag} {mg:Str→Option Value} {base:Heap} {x:Str} {st:Stmt} {N ps:List Str} {sp:FSp} {code:Ss} (F:At K mg x st ps) (S:FnScope N ps (defScope st)) (hN:c.N=N) (hn:c.names=(defScope st).names)
  (hc:chkSs c code (defBody st)=true) (G:GOk P w K mg base c Γ) (len:∀as st Q,sp as st Q→as.length=ps.length)
  (h:∀as st Q,sp as st Q→wpSs Γ code (frame N.length as) st (bodyEnds st Q)) (hpc:c.pc=false:=by rfl) (hhm:c.hm=none:=by rfl):Has P w K mg base (c.lim+1) x ps (absSp K sp):=by
 refine F.ok S (fun vs H Q E ⟨m,st,as,r1,r2,q⟩=>by rw [←r1.len];exact len as st _ q) fun f cdv A outer s H vs Q E hr ⟨m,st',as,r1,r2,q⟩=>?_
 have C:=cok_of (E:=E) (H:=H) (outer:=outer) (Γ:=Γ) S hN hn hr G (fun z=>by rw [hpc] at z;cases z) fun k z=>by rw [hhm] at z;cases z
 refine ⟨_,sndSs C code _ hc,m,frame N.length as,st',rf_start r1,r2,wpSs_mono G.mono code ?_ (h as st' _ q)⟩
 exact ⟨fun ρ st2 k m' H' σ' e r f=>Ret_post r2 k m' H' .non e r (R_non.mpr rfl),fun v st2 k=>Ret_post r2 k,fun _ _ k=>k.elim,fun _ _ k=>k.elim⟩
end
end FW
set_option Elab.async false
set_option linter.all false
set_option maxRecDepth 100000
set_option maxHeartbeats 1000000
namespace FW
open PySem PySem.Spec PyProof.Rows L2 HX
section
variable {P:Program} {w:World} {K:PySem.W.Frag} {mg:Str→Option Value} {base:Heap} {c c':Cfg} {Γ:Nat→FSp}
theorem GOk.next (G:GOk P w K mg base c Γ) (h1:c'.fns=c.fns) (h2:c'.lim=c.lim+1) (h3:c'.blts=c.blts) (h4:c'.gl=c.gl) {x:Str} {ps:List Str} (hx:c.fns[c.lim]?=some x) (H:Has P w K mg base (c.lim+1) x ps (absSp K (Γ c.lim))):GOk P w K mg base c' Γ where
 fn:=fun f y hf e=>by
  rw [h1] at e
  rw [h2] at hf
  by_cases hl:f<c.lim
  ·exact G.fn f y hl e
  ·have:f=c.lim:=by omega
   subst this
   rw [hx] at e
   cases e
   exact ⟨ps,H⟩
 blt:=by rw [h3];exact G.blt
 gl:=by rw [h4];exact G.gl
 mono:=G.mono
theorem def_okF {x qual:Str} {st:Stmt} {f:Addr} {fd:FuncData} {N ps:List Str} {sp:FSp} {code:Ss} (F:Fun K x x st f fd) (S:FnScope N ps (defScope st)) (hN:c.N=N) (hn:c.names=(defScope st).names)
  (hc:chkSs c code (defBody st)=true) (G:GOk P w K mg base c Γ) (len:∀as st Q,sp as st Q→as.length=ps.length)
  (h:∀as st Q,sp as st Q→wpSs Γ code (frame N.length as) st (bodyEnds st Q)) (hpc:c.pc=false:=by rfl) (hhm:c.hm=none:=by rfl):FnOk P w K mg base CX0 (c.lim+1) f fd ps (absSp K sp):=by
 refine F.ok S (fun vs H Q E ⟨m,st,as,r1,r2,q⟩=>by rw [←r1.len];exact len as st _ q) fun cdv A outer s H vs Q E hr ⟨m,st',as,r1,r2,q⟩=>?_
 have C:=cok_of (E:=E) (H:=H) (outer:=outer) (Γ:=Γ) S hN hn hr G (fun z=>by rw [hpc] at z;cases z) fun k z=>by rw [hhm] at z;cases z
 refine ⟨_,sndSs C code _ hc,m,frame N.length as,st',rf_start r1,r2,wpSs_mono G.mono code ?_ (h as st' _ q)⟩
 exact ⟨fun ρ st2 k m' H' σ' e r f=>Ret_post r2 k m' H' .non e r (R_non.mpr rfl),fun v st2 k=>Ret_post r2 k,fun _ _ k=>k.elim,fun _ _ k=>k.elim⟩
end
noncomputable def spLaw:FSp:=fun as st Q=>∃ns:List Int,as=[.rdl (ns.map PV.int)]∧ns.length≤63∧∀st',Q (.bl true) st'
theorem Rs_ints {K:PySem.W.Frag} {m:List Addr} {H:Hp}:∀ {ns:List Int},Rs K m H (ns.map PV.int) (ns.map V.int)
 | []=>by rw [List.map_nil,List.map_nil,Rs_nil]
 | n::ns=>by rw [List.map_cons,List.map_cons,Rs_cons',R_int];exact ⟨rfl,Rs_ints⟩
structure LamTop (K:PySem.W.Frag) (h:Heap):Prop where
 at_:∀x∈lamNames,∀c T,PySem.W.tabIn K x=some (c,T)→PySem.W.CodeHd h c T∧h.get? T=some (PySem.W.tabObj #[])
structure LamK (K:PySem.W.Frag):Prop where
 at_:∀x∈lamNames,∀c T,PySem.W.tabIn K x=some (c,T)→K.lookup T=none∧∀y∈lamNames,∀d,PySem.W.tabIn K y=some (d,T)→y=x
structure LamBase (K:PySem.W.Frag) (mg:Str→Option Value) (base:Heap):Prop where
 hd:∀x∈lamNames,∀c T,PySem.W.tabIn K x=some (c,T)→PySem.W.CodeHd base c T
 bm:∃bm ob,mg "__builtins__"=some (.ref bm)∧bm≠builtinsNs∧base.get? bm=some ob∧ob.cls=.type "module"∧ob.dict=some builtinsNs∧ob.data=.plain
theorem spLaw_of {K:PySem.W.Frag} {H:Hp} {a:Addr} {ns:List Int} (hl:ns.length≤63) (hO:∀ys,H a≠some (.lst ys)) (hS:SqL K H a (ns.map V.int)) (tb:TB K H):absSp K spLaw [.ref a] H (fun v _=>v=.bl true) fun _ _ _=>False:=by
 have hF:RdF K H a (ns.map V.int):=by
  rcases hS with (h|h)|h
  ·exact absurd h (hO _)
  ·exact .inl h
  ·exact .inr h
 refine ⟨[],[],[.rdl (ns.map PV.int)],?_,⟨rfl,List.nodup_nil,fun n c a h=>by simp at h,tb⟩,ns,rfl,hl,fun st' m' H' x e r s=>R_bl.mp s⟩
 rw [Rs_cons',Rs_nil,R_rdl]
 exact ⟨⟨a,_,rfl,hF,Rs_ints⟩,rfl⟩
noncomputable def IsTab (K:PySem.W.Frag) (b:Addr):Prop:=∃x∈lamNames,∃c,PySem.W.tabIn K x=some (c,b)
open Classical in
noncomputable def topH (K:PySem.W.Frag) (a:Addr) (scr:Option HO):Hp:=fun b=>if b=a then scr else if IsTab K b then some (.tbl #[]) else none
theorem law_callL {P:Program} {w:World} {K:PySem.W.Frag} {mg mb:Str→Option Value} {k:Nat} {fa a:Addr} {fd:FuncData} {x:Str} {s₁:Shared} {vs:List Value} {ns:List Int}
  (KX:K.In s₁.heap) (hns:s₁.heap.Ns mainGlobals mg) (hb:s₁.heap.Ns builtinsNs mb) (hbb:∀x:Str,x≠"__name__"→mb x=bootBuiltins x) (hlim:s₁.heap.NoLimit) (hg:s₁.gens=#[])
  (LT:LamTop K s₁.heap) (LK:LamK K) (hbm:∃bm ob,mg "__builtins__"=some (.ref bm)∧bm≠builtinsNs∧s₁.heap.get? bm=some ob∧ob.cls=.type "module"∧ob.dict=some builtinsNs∧ob.data=.plain)
  (ha:s₁.heap.get? a=some { cls:=.type "list",data:=.seq vs.toArray }) (hi:IntsAre vs ns) (hl:ns.length≤63) (hr:Room k callerA)
  (F:∀base:Heap,K.In base→base.Ns mainGlobals mg→LamBase K mg base→FnOk P w K mg base CX0 k fa fd [x] (absSp K spLaw)) (hbind:∀(s:Shared) (u:Value),BindsTo s fd ⟨[u],[]⟩ [(x,u)]) :
  codeAny (model P w) callerA (.call (.ref fa) ⟨[.ref a],[]⟩) (fun r s'=>r=.ok (.ret (.bool true))∧OldK s₁.heap s'.heap∧s'.os=s₁.os∧AllBare s'.gens) s₁:=by
 have rv:=vals_ints hi
 have lenV:=hi.length
 have hl2:ns.length≤sizeLine:=Nat.le_trans hl (by decide)
 have tabAt:∀ {b:Addr},IsTab K b→s₁.heap.get? b=some (PySem.W.tabObj #[]):=fun ⟨x,hx,c,e⟩=>(LT.at_ x hx c _ e).2
 have naT:¬IsTab K a:=fun z=>by have e:=tabAt z;rw [ha] at e;cases e
 have core:∀scr:Option HO,(∀ys,scr≠some (.lst ys))→SqL K (topH K a scr) a (ns.map V.int)→(∀u,scr=some u→(∃o xs,u=.frz o (.lst xs))∧ObjOk P w (topH K a scr) s₁.heap a u)→(scr≠none→K.lookup a=none) →
   codeAny (model P w) callerA (.call (.ref fa) ⟨[.ref a],[]⟩) (fun r s'=>r=.ok (.ret (.bool true))∧OldK s₁.heap s'.heap∧s'.os=s₁.os∧AllBare s'.gens) s₁:=by
  intro scr hscr hS hso hK
  have atA:topH K a scr a=scr:=if_pos rfl
  have atT:∀ {b:Addr},IsTab K b→topH K a scr b=some (.tbl #[]):=fun {b} z=>by
   have:b≠a:=fun q=>naT (q ▸ z)
   exact (if_neg this).trans (if_pos z)
  have cs:∀b,topH K a scr b≠none→(b=a∧scr≠none)∨IsTab K b:=fun b z=>by
   by_cases h1:b=a
   ·exact .inl ⟨h1,by rw [h1,atA] at z;exact z⟩
   ·by_cases h2:IsTab K b
    ·exact .inr h2
    ·exact absurd ((if_neg h1).trans (if_neg h2)) z
  have hok:HOk P w (topH K a scr) s₁.heap:=fun b u e=>by
   rcases cs b (by rw [e];simp) with ⟨rfl,z⟩|z
   ·rw [atA] at e
    exact (hso u e).2
   ·rw [atT z] at e
    cases e
    exact tabAt z
  have base_of:∀ {b:Addr} {o:Obj},s₁.heap.get? b=some o→topH K a scr b=none→(hidT s₁.heap (topH K a scr)).get? b=some o:=fun e n=>hidT_get e n
  have noD:∀ {b:Addr} {o:Obj},s₁.heap.get? b=some o→(∀its n,o.data≠.seq its n)→(∀qs,o.data≠.fields qs)→topH K a scr b=none:=fun {b o} e n1 n2=>by
   cases q:topH K a scr b with
   | none=>rfl
   | some u =>
    rcases cs b (by rw [q];simp) with ⟨rfl,_⟩|z
    ·rw [ha] at e;cases e;exact absurd rfl (n1 _ _)
    ·rw [tabAt z] at e;cases e;exact absurd rfl (n2 _)
  have nsK:∀ {b:Addr} {m:Str→Option Value},s₁.heap.Ns b m→(hidT s₁.heap (topH K a scr)).Ns b m:=fun {b m} ⟨o,es,ep,e,d,r⟩=>⟨o,es,ep,base_of e (noD e (fun _ _ z=>by rw [d] at z;cases z) fun _ z=>by rw [d] at z;cases z),d,r⟩
  have hKn:∀ {b:Addr} {o:Obj},K.lookup b=some o→topH K a scr b=none:=fun {b o} e=>by
   cases q:topH K a scr b with
   | none=>rfl
   | some u =>
    rcases cs b (by rw [q];simp) with ⟨rfl,z⟩|⟨x,hx,c,z⟩
    ·rw [hK z] at e;cases e
    ·rw [(LK.at_ x hx c _ z).1] at e;cases e
  have hKb:K.In (hidT s₁.heap (topH K a scr)):=fun b o e=>base_of (KX b o e) (hKn e)
  have hM:Mod K mg (hidT s₁.heap (topH K a scr)):=⟨hKb,nsK hns,⟨mb,nsK hb,hbb⟩,let ⟨mc,h1,h2⟩:=hlim;⟨mc,nsK h1,h2⟩⟩
  have e0:Env0 P w K mg (hidT s₁.heap (topH K a scr)) callerA [] s₁ (topH K a scr):=⟨rfl,hM,fun b o e=>of_hidT e,Nat.le_of_eq (hidT_size _ _),trivial,fun b hb=>absurd (show b∈([]:List Addr) from hb) (by simp),hok,.of_eq hg⟩
  have hB:LamBase K mg (hidT s₁.heap (topH K a scr)):=by
   refine ⟨fun x hx c T e=>?_,?_⟩
   ·obtain ⟨o,vs',file,tf,flags,tg,inF,text,tt,q,r⟩:=(LT.at_ x hx c T e).1
    have kc:∃oc,K.lookup c=some oc:=by
     have e':=e
     unfold PySem.W.tabIn at e'
     split at e'
     ·split at e'
      ·split at e'
       ·split at e'
        ·rename_i hh
         split at e'
         ·cases e';exact ⟨_,hh⟩
         ·cases e'
        ·cases e'
       ·cases e'
      ·cases e'
     ·cases e'
    obtain ⟨oc,kc⟩:=kc
    exact ⟨o,vs',file,tf,flags,tg,inF,text,tt,base_of q (hKn kc),r⟩
   ·obtain ⟨bm,ob,b1,b2,b3,b4,b5,b6⟩:=hbm
    exact ⟨bm,ob,b1,b2,base_of b3 (noD b3 (fun _ _ z=>by rw [b6] at z;cases z) fun _ z=>by rw [b6] at z;cases z),b4,b5,b6⟩
  have tb:TB K (topH K a scr):=fun x hx c T e=>⟨(LK.at_ x hx c T e).2,#[],atT ⟨x,hx,c,e⟩,trivial,fun pos cv q=>by cases q⟩
  refine codeAny_mono ((F _ hKb (nsK hns) hB).run callerA [] s₁ (topH K a scr) ⟨[.ref a],[]⟩ [.ref a] [.ref a] _ _ hr e0 (hbind s₁ (.ref a)) (.cons rfl .nil) (spLaw_of hl (by rw [atA];exact hscr) hS tb)) fun r s' h=>?_
  cases r with
  | error e=>exact False.elim h
  | ok fl =>
   cases fl with
   | next=>exact False.elim h
   | brk=>exact False.elim h
   | cont=>exact False.elim h
   | ret u =>
    obtain ⟨v,H',os,bare,un,hok',r',q⟩:=h
    have q':v=.bl true:=q
    subst q'
    obtain rfl:u=Value.bool true:=r'
    refine ⟨rfl,⟨fun b o e=>?_,fun b o e=>un.there b o e (by simp)⟩,os,bare⟩
    cases q:topH K a scr b with
    | none=>exact .inl (un.keep b o e q (by intro z;exact absurd (show b∈([]:List Addr) from z) (by simp)) (by simp))
    | some u =>
     rcases cs b (by rw [q];simp) with ⟨rfl,z⟩|z
     ·rw [atA] at q
      obtain ⟨⟨ob,xs,rfl⟩,_⟩:=hso u q
      have z1:topH K b scr b=some (.frz ob (.lst xs)):=by rw [atA];exact q
      have z2:=un.frzs b ob _ z1
      obtain ⟨e1,_⟩:=hok b _ z1
      obtain ⟨e2,_⟩:=hok' b _ z2
      rw [e] at e1;cases e1
      exact .inl e2
     ·obtain ⟨more,z2⟩:=un.tbls b _ (atT z)
      have e1:=tabAt z
      rw [e] at e1
      cases e1
      have e2:s'.heap.get? b=some { cls:=.none,data:=.fields (#[]++more) }:=hok' b _ z2
      obtain ⟨x,hx,c,et⟩:=z
      have ht0:=(LT.at_ x hx c b et)
      exact .inr (.inl ⟨(ht0.1.tab ht0.2).isCodeTable,rfl,#[],more,rfl,e2⟩)
 cases hk:K.lookup a with
 | some o =>
  have e:=KX a o hk
  rw [ha] at e
  cases e
  refine core none (fun _ z=>nomatch z) (.inr ⟨_,vs.toArray,_,hk,rfl,rfl,rfl,by rw [List.size_toArray,lenV];exact hl2,by simpa using rv⟩) (fun u z=>nomatch z) fun z=>absurd rfl z
 | none =>
  refine core (some (.frz { cls:=.type "list",data:=.seq vs.toArray } (.lst (ns.map V.int)))) (fun _ z=>nomatch z) (.inl (.inr ⟨{ cls:=.type "list",data:=.seq vs.toArray },if_pos rfl⟩)) (fun u z=>?_) fun _=>hk
  cases z
  exact ⟨⟨_,_,rfl⟩,ha,by rw [List.length_map];exact hl2,vs,_,rv,ha⟩
theorem walkF {l:PySem.W.OpenLaw} {q:Program} {loose:List Str} {XP:(Str→Option Value)→Heap→Prop} {YP:World→Heap→Prop} {d:DefRec} {K:Params→PySem.W.Frag} {k:Nat} {x:Str} (hn:l.most=some 63) (hdf:d.params.defaults=[]) (hr:Room k callerA)
  (hY:∀(w:World) (h:Heap),YP w h→(K w.params).In h)
  (F:∀(w:World) (mg:Str→Option Value) (fa:Addr) (h:Heap),(K w.params).In h→h.Ns mainGlobals mg→mg d.name=some (.ref fa) →
   ∃fd:FuncData,(∀(s:Shared) (u:Value),BindsTo s fd ⟨[u],[]⟩ [(x,u)])∧LamK (K w.params)∧(∀x∈lamNames,PySem.W.tabIn (K w.params) x=none∨∃d,(recsOf q).find? (fun e=>e.name == x)=some d)∧∀base:Heap,(K w.params).In base→base.Ns mainGlobals mg→LamBase (K w.params) mg base→FnOk l.prog w (K w.params) mg base CX0 k fa fd [x] (absSp (K w.params) spLaw)) :
  PySem.W.WalkO q loose XP YP l.row.toRowW d [] (fun f vs=>PySem.call f vs):=by
 refine Att.attach_call hn hdf fun w s₀ s₁ mg mb fa o pm cd doc a vs ns G Y ho hd hcd hmg hobj hints hlen hg=>?_
 have KX:=hY w _ Y
 obtain ⟨fd,hb,hK,hq,hF⟩:=F w mg fa _ KX G.T.g hmg
 refine law_callL KX G.T.g G.T.b G.T.builtins G.T.nolimit hg ⟨fun x hx c T e=>?_⟩ hK G.T.bmain hobj hints hlen hr hF hb
 rcases hq x hx with z|⟨d,r⟩
 ·rw [z] at e;cases e
 ·exact PySem.W.tab_of G.T KX r e
theorem Sub.refl (st:AH):Sub st st:=fun i _=>.inl rfl
theorem Tmp.app {st g:AH} {Q:EK} {v:PV} (h:v.bel st.length=true) (q:Q v st):Tmp st Q v (st++g):=⟨st,g,rfl,rfl,Sub.refl st,h,q⟩
theorem ar1 {P:List Value→Prop} (h:∀a,P [a]) (us:List Value) (hl:us.length=1):P us:=by
 match us,hl with
 | [a],_=>exact h a
theorem ar2 {P:List Value→Prop} (h:∀a b,P [a,b]) (us:List Value) (hl:us.length=2):P us:=by
 match us,hl with
 | [a,b],_=>exact h a b
theorem ar3 {P:List Value→Prop} (h:∀a b c,P [a,b,c]) (us:List Value) (hl:us.length=3):P us:=by
 match us,hl with
 | [a,b,c],_=>exact h a b c
end FW
set_option Elab.async false
set_option linter.all false
set_option maxRecDepth 100000
set_option maxHeartbeats 1000000
namespace FW
open PySem PySem.Spec PyProof.Rows L2 HX
section
variable {P:Program} {w:World} {K:PySem.W.Frag} {mg:Str→Option Value} {base:Heap} {c:Cfg} {Γ:Nat→FSp}
theorem has_false {x:Str} {st:Stmt} {ps:List Str} {k:Nat} (F:At K mg x st ps):Has P w K mg base k x ps (absSp K fun _ _ _=>False):=by
 obtain ⟨f,fd,Ff,m,b⟩:=F.ex
 exact ⟨f,fd,⟨fun vs H Q E ⟨_,_,_,_,_,z⟩=>z.elim,fun A outer s H args us vs Q E _ _ _ _ ⟨_,_,_,_,_,z⟩=>z.elim⟩,m,Ff.kp,b⟩
theorem fn_run {CX:CXT} {k:Nat} {f:Addr} {name qual:Str} {params:Arguments} {body:List Stmt} {scope:Scope} {dV kV doc pm cdv ct oc:Value} {an od:Option Addr}
  {osl:Array (Option Value)} {N ps:List Str} {A:Around} {outer:List Env} {s:Shared} {H:Hp} {args:Args} {us:List Value} {vs:List V} {Q:VK} {E:XK}
  (lk:K.lookup f=some ⟨oc,od,.func (PySem.W.fnOf name qual params body scope dV kV doc pm an cdv ct),osl⟩) (hcd:PySem.W.codeIn K cdv qual=true) (S:FnScope N ps scope)
  (hl:vs.length=ps.length) (hr:Room (k+1) A) (e0:Env0 P w K mg base A outer s H) (hb:BindsTo s (PySem.W.fnOf name qual params body scope dV kV doc pm an cdv ct) args (ps.zip us)) (r:Vals vs us)
  (hbody:Room k (A.deeper (envOfC qual scope s.heap.objs.size f cdv))→∃t,PSs (cxOf CX P w K mg base N qual scope f cdv A outer s H E) body t∧t { nx:=fun _ H'=>Q .non H',rt:=Q } (start N vs) H) :
  codeAny (model P w) A (.call (.ref f) args) (CR CX outer P w H s Q E) s:=by
 have KX:K.In s.heap:=e0.mod.kin.keeps fun b o e=>(e0.bs b o e).1
 have lim:s.heap.NoLimit:=e0.mod.nolimit.keeps fun b o e=>(e0.bs b o e).1
 have hkind:∀y∈ps.zip us,scope.names.lookup y.1=some .local∨(scope.names.lookup y.1=some .cell∧((cellsFrom (s.heap.objs.size+1) scope.names []).lookup y.1).isSome=true):=fun ⟨n,v⟩ hy=>by
  rcases S.par n (List.of_mem_zip hy).1 with q|q
  ·exact .inl q
  ·exact .inr ⟨q,PySem.W.cellsFrom_some _ _ _ (.inl q)⟩
 refine codeAny_call_function hr.depth (KX _ _ lk) rfl S.co S.gen rfl (PySem.W.codeRec_of KX hcd) (hb _ _ _ _ ?_)
 refine wpAny_newFunctionEnv_cells S.kind hkind fun env he s1 x=>?_
 subst he
 refine ⟨lim.keeps x.toInCall.keep,codeAny_func ?_⟩
 obtain ⟨t,ht,hq⟩:=hbody (hr.deeper _)
 have I:L2.Inv (cxOf CX P w K mg base N qual scope f cdv A outer s H E) [] (start N vs) H s1:=inv_start S hr.hd e0 hl r x
 refine wpAny_mono (ht [] s1 (start N vs) H _ I hq) (fun fl s' hs=>?_) fun e s' hs=>hs
 have fin:∀ {σ':L2.St} {H':Hp} {v:V} {u:Value},L2.Inv (cxOf CX P w K mg base N qual scope f cdv A outer s H E) [] σ' H' s'→RelV v u→Q v H'→CE outer P w H s Q u s' :=
  fun {σ' H' v u} J rv q=>⟨v,H',J.os,J.bare,J.base,J.hok,rv,q⟩
 cases fl with
 | ret u =>
  obtain ⟨v,σ',H',J,rv,q⟩:=hs
  exact fin J rv q
 | next =>
  obtain ⟨σ',H',J,q⟩:=hs
  exact fin (v:=V.non) (u:=Value.none) J rfl q
 | brk =>
  obtain ⟨_,_,_,q⟩:=hs
  exact False.elim q
 | cont =>
  obtain ⟨_,_,_,q⟩:=hs
  exact False.elim q
noncomputable def ΓL (Γ:Nat→FSp) (a:Nat) (L:FSp):Nat→FSp:=fun i=>if i=1000 then (fun as st Q=>∃y,as=[.fn a,y]∧L [y] st Q) else Γ i
theorem ΓL_mono {a:Nat} {L:FSp} (G:GMono Γ) (hL:FMono L):GMono (ΓL Γ a L):=fun f vs st Q Q' h q=>by
 unfold ΓL at q ⊢
 by_cases e:f=1000
 ·rw [if_pos e] at q ⊢
  obtain ⟨y,e,q⟩:=q
  exact ⟨y,e,hL _ _ _ _ h q⟩
 ·rw [if_neg e] at q ⊢
  exact G _ _ _ _ _ h q
theorem ΓL_at {a:Nat} {L:FSp}:ΓL Γ a L 1000=fun as st Q=>∃y,as=[.fn a,y]∧L [y] st Q:=if_pos rfl
theorem hm_ok {st:Stmt} {N:List Str} {code:Ss} (F:At K mg "how_many" st ["stair","holds"]) (S:FnScope N ["stair","holds"] (defScope st)) (hN:c.N=N) (hn:c.names=(defScope st).names)
  (hc:chkSs c code (defBody st)=true) (G:GOk P w K mg base c Γ) (hlim:c.lim≤1000) (hhm:c.hm=none)
  (h:∀a L,FMono L→∀as st Q,spHm a L as st Q→wpSs (ΓL Γ a L) code (frame N.length as) st (bodyEnds st Q)):HmOk P w K mg base c.lim:=by
 obtain ⟨f,fd,Ff,m,b⟩:=F.ex
 obtain ⟨oc,od,kV,doc,pm,an,cdv,ct,osl,rfl,lk,hcd⟩:=Ff.ex
 refine ⟨f,_,m,Ff.kp,b,fun a L hL A outer s H args us vs Q hr e0 hb r LH ⟨m0,st',as,r1,r2,q⟩=>?_⟩
 have hlen:vs.length=(["stair","holds"]:List Str).length:=by
  obtain ⟨xs,g,rfl,_⟩:=id q
  rw [←r1.len]
  rfl
 have GL:GOk P w K mg base c (ΓL Γ a L):=⟨fun f x hf e=>by
  have:ΓL Γ a L f=Γ f:=if_neg (by omega)
  rw [this]
  exact G.fn f x hf e,G.blt,G.gl,ΓL_mono G.mono hL⟩
 refine fn_run lk hcd S hlen hr e0 hb r fun hroom=>?_
 have C:=cok_of (x:="how_many") (f:=f) (cdv:=cdv) (A:=A) (s:=s) (E:=E0) (H:=H) (outer:=outer) (Γ:=ΓL Γ a L) S hN hn hroom GL (fun _ {pins σ H2 s2 b u v Q} I rv hs=>?_) fun k z=>by rw [hhm] at z;cases z
 ·have T:=sndSs C code _ hc
  exact ⟨_,PSs.nox T,m0,frame N.length as,st',rf_start r1,r2,wpSs_mono GL.mono code (by
   exact ⟨fun ρ st2 k m' H' σ' e r f=>Ret_post r2 k m' H' .non e r (R_non.mpr rfl),fun v st2 k=>Ret_post r2 k,fun _ _ k=>k.elim,fun _ _ k=>k.elim⟩) (h a L hL as st' _ q)⟩
 ·obtain ⟨m1,st1,bs,q1,q2,q3⟩:=hs
  rw [ΓL_at] at q3
  obtain ⟨y,rfl,q3⟩:=q3
  rw [Rs_cons',Rs_cons',Rs_nil,R_fn] at q1
  obtain ⟨q4,q5,_⟩:=q1
  cases q4
  obtain ⟨z1,z2⟩:=LH _ _ s2 H2 u v Q hroom I.env0 I.base rv ⟨m1,st1,[y],by rw [Rs_cons',Rs_nil];exact ⟨q5,rfl⟩,q2,q3⟩
  refine ⟨z1,wpAny_call (codeAny_mono z2 fun r s' hq=>?_)⟩
  cases r with
  | error e=>exact False.elim hq
  | ok fl =>
   cases fl with
   | ret u=>exact I.after hq
   | next=>exact False.elim hq
   | brk=>exact False.elim hq
   | cont=>exact False.elim hq
theorem def_okL {x:Str} {st:Stmt} {N ps:List Str} {sp:FSp} {code:Ss} {f c0 T:Addr} {oc:Value} {od an:Option Addr} {osl:Array (Option Value)} {kV doc pm cdv ct:Value}
  (a:PySem.W.nsIn K mainGlobals x=some (some (.ref f))) (l:K.lookup f=some ⟨oc,od,.func (PySem.W.fnOf x x (defArgs st) (defBody st) (defScope st) .none kV doc pm an cdv ct),osl⟩) (t:PySem.W.tabIn K x=some (c0,T)) (hx:x∈lamNames) (B:LamBase K mg base)
  (F:At K mg x st ps) (cc:PySem.W.codeIn K cdv x=true) (hmg:mg x=some (.ref f)) (S:FnScope N ps (defScope st)) (hN:c.N=N) (hn:c.names=(defScope st).names)
  (hc:chkSs c code (defBody st)=true) (G:GOk P w K mg base c Γ) (hm:∀k,c.hm=some k→HmOk P w K mg base (k+1)) (len:∀as st Q,sp as st Q→as.length=ps.length)
  (h:∀as st Q,sp as st Q→wpSs Γ code (frame N.length as) st (bodyEnds st Q)) (hpc:c.pc=false:=by rfl):Has P w K mg base (c.lim+1) x ps (absSp K sp):=by
 have hcv:cdv=.ref c0:=by
  unfold PySem.W.tabIn at t
  rw [a] at t
  simp only [l] at t
  cases cdv with
  | ref c1 =>
   simp only at t
   split at t
   ·split at t
    ·cases t;rfl
    ·cases t
   ·cases t
  | _=>cases t
 subst hcv
 obtain ⟨f',fd,Ff,m,b⟩:=F.ex
 rw [hmg] at m
 cases m
 obtain ⟨oc',od',kV',doc',pm',an',cdv',ct',osl',rfl,lk',hcd'⟩:=Ff.ex
 have e:=lk'.symm.trans l
 refine ⟨f,_,fn_of lk' hcd' S (fun vs H Q E ⟨m,st,as,r1,r2,q⟩=>by rw [←r1.len];exact len as st _ q) fun A outer s H vs Q E hr ⟨m,st',as,r1,r2,q⟩=>?_,hmg,Ff.kp,b⟩
 have C:=cok_of (x:=x) (f:=f) (cdv:=cdv') (A:=A) (s:=s) (E:=E) (H:=H) (outer:=outer) (Γ:=Γ) S hN hn hr G (fun z=>by rw [hpc] at z;cases z) fun k z =>
  ⟨hm k z,⟨x,c0,T,hx,t,by
   show cdv'=.ref c0
   injection e with e;injection e with _ _ e3 _;injection e3 with e3;injection e3,rfl,B.hd x hx c0 T t⟩,B.bm⟩
 refine ⟨_,PSs.nox (sndSs C code _ hc),m,frame N.length as,st',rf_start r1,r2,wpSs_mono G.mono code ?_ (h as st' _ q)⟩
 exact ⟨fun ρ st2 k m' H' σ' e r f=>Ret_post r2 k m' H' .non e r (R_non.mpr rfl),fun v st2 k=>Ret_post r2 k,fun _ _ k=>k.elim,fun _ _ k=>k.elim⟩
theorem tab_mk {x:Str} {f c0 T:Addr} {oc:Value} {od an:Option Addr} {osl:Array (Option Value)} {as:Arguments} {b:List Stmt} {sc:Scope} {dV kV doc pm ct o1:Value} {o2:Option Addr} {o3:Array (Option Value)} {vs:Array Value}
  (a:PySem.W.nsIn K mainGlobals x=some (some (.ref f))) (l:K.lookup f=some ⟨oc,od,.func (PySem.W.fnOf x x as b sc dV kV doc pm an (.ref c0) ct),osl⟩) (tc:K.lookup c0=some ⟨o1,o2,.fields vs,o3⟩) (tv:vs[11]?=some (.ref T)) :
  PySem.W.tabIn K x=some (c0,T):=by
 unfold PySem.W.tabIn
 rw [a]
 simp only [l,tc,tv]
theorem lamK_of (h:∀x∈lamNames,PySem.W.tabIn K x=none∨∃c T,PySem.W.tabIn K x=some (c,T)∧K.lookup T=none∧∀y∈lamNames,y≠x→∀d,PySem.W.tabIn K y≠some (d,T)):LamK K:=⟨fun x hx c T e=>by
 rcases h x hx with z|⟨c',T',z,n,u⟩
 ·rw [z] at e;cases e
 ·rw [z] at e
  cases e
  exact ⟨n,fun y hy d ed=>Classical.byContradiction fun q=>u y hy q d ed⟩⟩
theorem bsGo_spec {g:PV→Bool} {xs:List PV} {k:Nat} (h1:∀i,i<k→g (xs.getD i .non)=true) (h2:∀i,k≤i→i<xs.length→g (xs.getD i .non)=false):∀ {n lo hi:Nat},lo≤k→k≤hi→hi≤xs.length→hi-lo≤n→bsGo g xs n lo hi=k
 | 0,lo,hi,a,b,c,d=>by unfold bsGo;omega
 | n+1,lo,hi,a,b,c,d=>by
  unfold bsGo
  by_cases q:lo<hi
  ·rw [if_pos q]
   by_cases z:(lo+hi)/2<k
   ·rw [if_pos (h1 _ z)]
    exact bsGo_spec h1 h2 (by omega) b c (by omega)
   ·rw [if_neg (by rw [h2 _ (by omega) (by omega)];exact Bool.false_ne_true)]
    exact bsGo_spec h1 h2 a (by omega) (by omega) (by omega)
  ·rw [if_neg q];omega
theorem bsr_spec {g:PV→Bool} {xs:List PV} {k:Nat} (hk:k≤xs.length) (h1:∀i,i<k→g (xs.getD i .non)=true) (h2:∀i,k≤i→i<xs.length→g (xs.getD i .non)=false):bsr g xs=k :=
 bsGo_spec h1 h2 (Nat.zero_le _) hk (Nat.le_refl _) (by omega)
end
end FW
set_option Elab.async false
set_option linter.all false
set_option maxRecDepth 100000
set_option maxHeartbeats 1000000
namespace FW
open PySem PySem.Spec PyProof.Rows L2 HX
section
variable {Γ:Nat→FSp} {ρ:Fr} {st:AH} {Q:EK} {D:AEnds} {a b c:E} {es:Es}
noncomputable def aft (Γ:Nat→FSp) (ss:Ss) (D:AEnds):AEnds:={ D with nx:=fun ρ' st'=>wpSs Γ ss ρ' st' D }
noncomputable def LD (I:Fr→AH→Prop) (D:AEnds):AEnds:={ nx:=I,ct:=I,bk:=D.nx,rt:=D.rt }
noncomputable def FORW (Γ:Nat→FSp) (t:Tg) (b:Ss) (chk:AH→Prop) (D:AEnds) (xs:List PV) (ρ:Fr) (st:AH):Prop:=forW chk (fun x ρ' st' D'=>wpTg Γ t x ρ' st' fun ρ2 st2=>wpSs Γ b ρ2 st2 D') D xs ρ st
noncomputable def WHLW (Γ:Nat→FSp) (c:E) (b:Ss) (D:AEnds) (ρ:Fr) (st:AH):Prop:=∃n,whileW (wpT Γ c) (wpSs Γ b) D n ρ st
noncomputable def COMPW (Γ:Nat→FSp) (elt:E) (tg:Tg) (ifs:Es) (chk:AH→Prop) (ρ:Fr) (xs:List PV) (st:AH) (Q:LK):Prop :=
 compW chk (fun x st2 k=>wpTg Γ tg x ρ st2 fun ρ' st3=>wpAT Γ ifs ρ' st3 fun c st4=>if c=true then wpE Γ elt ρ' st4 fun v st5=>k (some v) st5 else k none st4) xs [] st Q
theorem aft_nx {ss:Ss}:(aft Γ ss D).nx ρ st=wpSs Γ ss ρ st D:=rfl
theorem aft_rt {ss:Ss} {v:PV}:(aft Γ ss D).rt v st=D.rt v st:=rfl
theorem aft_bk {ss:Ss}:(aft Γ ss D).bk ρ st=D.bk ρ st:=rfl
theorem aft_ct {ss:Ss}:(aft Γ ss D).ct ρ st=D.ct ρ st:=rfl
theorem aft_rt' {ss:Ss}:(aft Γ ss D).rt=D.rt:=rfl
theorem LD_nx {I:Fr→AH→Prop}:(LD I D).nx ρ st=I ρ st:=rfl
theorem LD_ct {I:Fr→AH→Prop}:(LD I D).ct ρ st=I ρ st:=rfl
theorem LD_bk {I:Fr→AH→Prop}:(LD I D).bk ρ st=D.nx ρ st:=rfl
theorem LD_rt {I:Fr→AH→Prop} {v:PV}:(LD I D).rt v st=D.rt v st:=rfl
theorem LD_rt' {I:Fr→AH→Prop}:(LD I D).rt=D.rt:=rfl
theorem bE_nx {st0:AH}:(bodyEnds st0 Q).nx ρ st=Ret st0 Q .non st:=rfl
theorem bE_rt {st0:AH} {v:PV}:(bodyEnds st0 Q).rt v st=Ret st0 Q v st:=rfl
theorem bE_rt' {st0:AH}:(bodyEnds st0 Q).rt=Ret st0 Q:=rfl
theorem Ss_cons {s s2:S} {ss:Ss}:wpSs Γ (.cons s (.cons s2 ss)) ρ st D=wpS Γ s ρ st (aft Γ (.cons s2 ss) D):=rfl
theorem S_while {x:Ss}:wpS Γ (.whileS c x) ρ st D=WHLW Γ c x D ρ st:=rfl
theorem S_for {t:Tg} {it:It} {x:Ss}:wpS Γ (.forS t it x) ρ st D=wpIt Γ it ρ st fun xs chk st1=>FORW Γ t x chk D xs ρ st1:=rfl
theorem E_comp {tg:Tg} {it:It} {ifs:Es} {nt:List Str} {caps:List Nat}:wpE Γ (.comp a tg it ifs nt caps) ρ st Q=wpIt Γ it ρ st fun xs chk st1 =>
  xs.length<100000∧COMPW Γ a tg ifs chk (nt.map (fun _=>none)++caps.map fun i=>(ρ[i]?).join) xs st1 fun vs st2=>Q (.ref st2.length) (st2++[.lst vs]):=rfl
theorem for_by (G:GMono Γ) {t:Tg} {b:Ss} {chk:AH→Prop} {D:AEnds} (I:Nat→Fr→AH→Prop) {xs:List PV} {ρ:Fr} {st:AH} (h0:I 0 ρ st)
  (hs:∀i x ρ st,xs[i]?=some x→I i ρ st→chk st∧wpTg Γ t x ρ st (fun ρ2 st2=>wpSs Γ b ρ2 st2 (LD (I (i+1)) D)))
  (hd:∀ρ st,I xs.length ρ st→chk st∧D.nx ρ st):FORW Γ t b chk D xs ρ st:=by
 have key:∀(k i:Nat) (ρ:Fr) (st:AH),i+k=xs.length→I i ρ st→forW chk (fun x ρ' st' D'=>wpTg Γ t x ρ' st' fun ρ2 st2=>wpSs Γ b ρ2 st2 D') D (xs.drop i) ρ st:=by
  intro k
  induction k with
  | zero =>
   intro i ρ st hi h
   have:i=xs.length:=by omega
   subst this
   rw [List.drop_length]
   exact hd ρ st h
  | succ k ih =>
   intro i ρ st hi h
   have hlt:i<xs.length:=by omega
   rw [List.drop_eq_getElem_cons hlt]
   obtain ⟨h1,h2⟩:=hs i xs[i] ρ st (by simp [hlt]) h
   refine ⟨h1,wpTg_mono G t (fun ρ2 st2 k2=>wpSs_mono G b ?_ k2) h2⟩
   exact ⟨fun ρ3 st3 z=>ih (i+1) ρ3 st3 (by omega) z,fun _ _ z=>z,fun _ _ z=>z,fun ρ3 st3 z=>ih (i+1) ρ3 st3 (by omega) z⟩
 have:=key xs.length 0 ρ st (by omega) h0
 rwa [List.drop_zero] at this
theorem whileW_le {c:Fr→AH→BK→Prop} {body:Fr→AH→AEnds→Prop} {D:AEnds} (hc:∀ρ st Q Q',(∀b st,Q b st→Q' b st)→c ρ st Q→c ρ st Q') (hb:∀ρ st D D',DMono D D'→body ρ st D→body ρ st D') :
  ∀ {n k:Nat} {ρ:Fr} {st:AH},n≤k→whileW c body D n ρ st→whileW c body D k ρ st
 | 0,k,ρ,st,_,h=>h.elim
 | n+1,0,ρ,st,hk,h=>absurd hk (by omega)
 | n+1,k+1,ρ,st,hk,h=>by
  refine hc _ _ _ _ (fun b st1 z=>?_) h
  cases b with
  | false=>exact z
  | true =>
   rw [if_pos rfl] at z ⊢
   refine hb _ _ _ _ ?_ z
   exact ⟨fun _ _ z=>whileW_le hc hb (by omega) z,fun _ _ z=>z,fun _ _ z=>z,fun _ _ z=>whileW_le hc hb (by omega) z⟩
theorem while_by (G:GMono Γ) {c:E} {b:Ss} {D:AEnds} (I:Nat→Fr→AH→Prop) {n:Nat} {ρ:Fr} {st:AH} (h0:I n ρ st)
  (hs:∀n ρ st,I n ρ st→wpT Γ c ρ st (fun k st1=>if k=true then wpSs Γ b ρ st1 (LD (fun ρ' st'=>∃m,m<n∧I m ρ' st') D) else D.nx ρ st1)):WHLW Γ c b D ρ st:=by
 have hc:∀ρ st Q Q',(∀b st,Q b st→Q' b st)→wpT Γ c ρ st Q→wpT Γ c ρ st Q':=fun _ _ _ _ hk z=>wpT_mono G c hk z
 have hb:∀ρ st D D',DMono D D'→wpSs Γ b ρ st D→wpSs Γ b ρ st D':=fun _ _ _ _ hk z=>wpSs_mono G b hk z
 have key:∀(k n:Nat),n<k→∀(ρ:Fr) (st:AH),I n ρ st→whileW (wpT Γ c) (wpSs Γ b) D (n+1) ρ st:=by
  intro k
  induction k with
  | zero=>intro n hn;exact absurd hn (by omega)
  | succ k ih =>
   intro n hn ρ st h
   refine hc _ _ _ _ (fun q st1 z=>?_) (hs n ρ st h)
   cases q with
   | false=>exact z
   | true =>
    rw [if_pos rfl] at z ⊢
    refine hb _ _ _ _ ?_ z
    exact ⟨fun ρ' st' ⟨m,hm,z⟩=>whileW_le hc hb (by omega) (ih m (by omega) ρ' st' z),fun _ _ z=>z,fun _ _ z=>z,fun ρ' st' ⟨m,hm,z⟩=>whileW_le hc hb (by omega) (ih m (by omega) ρ' st' z)⟩
 exact ⟨_,key (n+1) n (by omega) ρ st h0⟩
end
section
variable {Γ:Nat→FSp}
theorem comp_by (G:GMono Γ) {elt:E} {tg:Tg} {ifs:Es} {chk:AH→Prop} {ρ:Fr} {xs:List PV} {st:AH} {Q:LK} (I:Nat→List PV→AH→Prop) (h0:I 0 [] st)
  (hs:∀i x acc st,xs[i]?=some x→I i acc st→chk st∧wpTg Γ tg x ρ st fun ρ' st3=>wpAT Γ ifs ρ' st3 fun c st4=>if c=true then wpE Γ elt ρ' st4 fun v st5=>I (i+1) (acc++[v]) st5 else I (i+1) acc st4)
  (hd:∀acc st,I xs.length acc st→chk st∧Q acc st):COMPW Γ elt tg ifs chk ρ xs st Q:=by
 have key:∀(k i:Nat) (acc:List PV) (st:AH),i+k=xs.length→I i acc st→compW chk (bodyC Γ elt tg ifs ρ) (xs.drop i) acc st Q:=by
  intro k
  induction k with
  | zero =>
   intro i acc st hi h
   have:i=xs.length:=by omega
   subst this
   rw [List.drop_length]
   exact hd acc st h
  | succ k ih =>
   intro i acc st hi h
   have hlt:i<xs.length:=by omega
   rw [List.drop_eq_getElem_cons hlt]
   obtain ⟨h1,h2⟩:=hs i xs[i] acc st (by simp [hlt]) h
   refine ⟨h1,wpTg_mono G tg (fun ρ2 st2 k2=>wpAT_mono G ifs (fun c st4 k4=>?_) k2) h2⟩
   cases c with
   | true=>rw [if_pos rfl] at k4 ⊢;exact wpE_mono G elt (fun v st5 z=>ih (i+1) _ st5 (by omega) z) k4
   | false=>rw [if_neg Bool.false_ne_true] at k4 ⊢;simpa using ih (i+1) _ st4 (by omega) k4
 have:=key xs.length 0 [] st (by omega) h0
 rw [List.drop_zero] at this
 exact this
theorem comp_map (G:GMono Γ) {elt:E} {i:Nat} {chk:AH→Prop} {ρ:Fr} {xs:List PV} {st:AH} {Q:LK} (f:PV→PV) (hc:chk st) (hs:∀x∈xs,wpE Γ elt (ρ.set i (some x)) st fun v st'=>v=f x∧st'=st) (q:Q (xs.map f) st):COMPW Γ elt (.name i) .nil chk ρ xs st Q:=by
 refine comp_by G (fun j acc s=>s=st∧acc=(xs.take j).map f) ⟨rfl,by simp⟩ ?_ ?_
 ·rintro j x acc s hx ⟨rfl,rfl⟩
  refine ⟨hc,?_⟩
  simp only [Tg_name,AT_nil]
  rw [if_pos trivial]
  refine wpE_mono G elt (fun v st5 z=>?_) (hs x (List.mem_of_getElem? hx))
  obtain ⟨rfl,rfl⟩:=z
  refine ⟨rfl,?_⟩
  rw [List.take_add_one,hx]
  simp
 ·rintro acc s ⟨rfl,rfl⟩
  rw [List.take_length]
  exact ⟨hc,q⟩
theorem bools_map {f:PV→Bool}:∀ {xs:List PV},bools (xs.map fun x=>.bl (f x))=some (xs.map f)
 | []=>rfl
 | x::xs=>by simp only [List.map_cons,bools,bools_map (xs:=xs),Option.map_some]
end
section
variable {st:AH} {Q:EK} {i j:Int} {n k:Nat} {xs ys:List PV} {x y v:PV} {b b':Bool} {s s':Str} {kB:Bool→Prop} {BQ:BK}
theorem W_add:binW .Add (.int i) (.int j) st Q=Q (.int (i+j)) st:=rfl
theorem W_sub:binW .Sub (.int i) (.int j) st Q=Q (.int (i-j)) st:=rfl
theorem W_mul:binW .Mult (.int i) (.int j) st Q=(CMB i j∧Q (.int (i*j)) st):=rfl
theorem W_div:binW .FloorDiv (.int i) (.int j) st Q=(CBig j∧Q (.int (i/j)) st):=rfl
theorem W_mod:binW .Mod (.int i) (.int j) st Q=(0<j∧Q (.int (i % j)) st):=rfl
theorem W_pow:binW .Pow (.int i) (.int j) st Q=(CPow i j∧Q (.int (i ^ j.toNat)) st):=rfl
theorem W_addL:binW .Add (.ref n) (.ref k) st Q=∃xs ys,st[n]?=some (.lst xs)∧st[k]?=some (.lst ys)∧xs.length+ys.length≤100000∧Q (.ref st.length) (st++[.lst (xs++ys)]):=rfl
theorem W_mulL:binW .Mult (.ref n) (.int i) st Q=∃xs,st[n]?=some (.lst xs)∧-(2 ^ 63)≤i∧i<2 ^ 63∧xs.length*i.toNat≤100000∧Q (.ref st.length) (st++[.lst (List.replicate i.toNat xs).flatten]):=rfl
theorem W_addS {a b:Str}:binW .Add (.str a) (.str b) st Q=(a.length+b.length≤100000∧Q (.str (a++b)) st):=rfl
theorem W_addT:binW .Add (.tup xs) (.tup ys) st Q=(xs.length+ys.length≤100000∧Q (.tup (xs++ys)) st):=rfl
theorem W_eq:cmpW .Eq x y st Q=eqW st x y fun k=>Q (.bl k) st:=rfl
theorem W_ne:cmpW .NotEq x y st Q=eqW st x y fun k=>Q (.bl (!k)) st:=rfl
theorem W_isN:cmpW .Is x .non st Q=Q (.bl (isNon x)) st:=rfl
theorem W_isB:cmpW .Is x (.bl b) st Q=Q (.bl (isBl b x)) st:=rfl
theorem W_notN:cmpW .IsNot x .non st Q=Q (.bl (!isNon x)) st:=rfl
theorem W_notB:cmpW .IsNot x (.bl b) st Q=Q (.bl (!isBl b x)) st:=rfl
theorem W_lt:cmpW .Lt (.int i) (.int j) st Q=Q (.bl (decide (i<j))) st:=rfl
theorem W_le:cmpW .LtE (.int i) (.int j) st Q=Q (.bl (decide (i≤j))) st:=rfl
theorem W_gt:cmpW .Gt (.int i) (.int j) st Q=Q (.bl (decide (j<i))) st:=rfl
theorem W_ge:cmpW .GtE (.int i) (.int j) st Q=Q (.bl (decide (j≤i))) st:=rfl
theorem W_eqI:eqW st (.int i) (.int j) kB=kB (decide (i=j)):=rfl
theorem W_eqB:eqW st (.bl b) (.bl b') kB=kB (decide (b=b')):=rfl
theorem W_eqS:eqW st (.str s) (.str s') kB=kB (decide (s=s')):=rfl
theorem isNon_non:isNon .non=true:=rfl
theorem isNon_bl:isNon (.bl b)=false:=rfl
theorem isNon_int:isNon (.int i)=false:=rfl
theorem isNon_str:isNon (.str s)=false:=rfl
theorem isNon_tup:isNon (.tup xs)=false:=rfl
theorem isNon_ref:isNon (.ref n)=false:=rfl
theorem isBl_tt:isBl true (.bl true)=true:=rfl
theorem isBl_tf:isBl true (.bl false)=false:=rfl
theorem isBl_ft:isBl false (.bl true)=false:=rfl
theorem isBl_ff:isBl false (.bl false)=true:=rfl
theorem isBl_int:isBl b (.int i)=false:=rfl
theorem isBl_non:isBl b .non=false:=rfl
theorem isBl_tup:isBl b (.tup xs)=false:=rfl
theorem seqAt_tup:seqAt st (.tup xs)=some xs:=rfl
theorem seqAt_rdl:seqAt st (.rdl xs)=some xs:=rfl
theorem listAt_rdl:listAt st (.rdl xs)=some xs:=rfl
theorem listAt_ref (h:st[n]?=some (.lst xs)):listAt st (.ref n)=some xs:=by simp [listAt,h]
theorem seqAt_ref (h:st[n]?=some (.lst xs)):seqAt st (.ref n)=some xs:=by simp [seqAt,listAt,h]
theorem kindP_non:kindP st .non=some "NoneType":=rfl
theorem kindP_bl:kindP st (.bl b)=some "bool":=rfl
theorem kindP_int:kindP st (.int i)=some "int":=rfl
theorem kindP_str:kindP st (.str s)=some "str":=rfl
theorem kindP_tup:kindP st (.tup xs)=some "tuple":=rfl
theorem kindP_rdl:kindP st (.rdl xs)=some "list":=rfl
theorem W_ixS {z:Str}:ixW (.str z) (.int i) st Q=(z.length≤100000∧∃c,atI z.cps.toList i=some c∧Q (.str ⟨#[c]⟩) st):=rfl
theorem W_ixT:ixW (.tup xs) (.int i) st Q=∃v,atI xs i=some v∧Q v st:=propext ⟨fun ⟨ys,e,q⟩=>by cases e;exact q,fun q=>⟨xs,rfl,q⟩⟩
theorem W_ixR:ixW (.rdl xs) (.int i) st Q=∃v,atI xs i=some v∧Q v st:=propext ⟨fun ⟨ys,e,q⟩=>by cases e;exact q,fun q=>⟨xs,rfl,q⟩⟩
theorem W_ixL:ixW (.ref n) (.int i) st Q=∃xs,seqAt st (.ref n)=some xs∧∃v,atI xs i=some v∧Q v st:=rfl
theorem atI_0:atI (x::xs) 0=some x:=atI_nat (j:=0) rfl
theorem atI_1:atI (x::y::xs) 1=some y:=atI_nat (j:=1) rfl
theorem atI_2:atI (x::y::v::xs) 2=some v:=atI_nat (j:=2) rfl
theorem atI_3 {u:PV}:atI (x::y::v::u::xs) 3=some u:=atI_nat (j:=3) rfl
theorem W_slT {lo hi:Option Int}:slW (.tup xs) lo hi st Q=Q (.tup (cutP xs lo hi)) st:=rfl
theorem W_slR {lo hi:Option Int}:slW (.rdl xs) lo hi st Q=Q (.ref st.length) (st++[.lst (cutP xs lo hi)]):=by simp [slW,listAt]
theorem W_slS {lo hi:Option Int} {z:Str}:slW (.str z) lo hi st Q=(z.length≤100000∧Q (.str (cutS z lo hi)) st):=rfl
theorem W_slL {lo hi:Option Int}:slW (.ref n) lo hi st Q=∃xs,listAt st (.ref n)=some xs∧Q (.ref st.length) (st++[.lst (cutP xs lo hi)]):=rfl
theorem W_lenS {z:Str}:bltW .len [.str z] st Q=(z.length≤100000∧Q (.int z.length) st):=rfl
theorem W_intS {z:Str}:bltW .int1 [.str z] st Q=(z.length≤640∧∃n,PySem.intText? z=some n∧Q (.int n) st):=rfl
theorem W_in {a b:Str}:cmpW .In (.str a) (.str b) st Q=Q (.bl (!(Builtin.Str.occurrences b a 0 b.length 1).isEmpty)) st:=rfl
theorem W_lenT:bltW .len [.tup xs] st Q=Q (.int xs.length) st:=propext ⟨fun ⟨ys,e,q⟩=>by cases e;exact q,fun q=>⟨xs,rfl,q⟩⟩
theorem W_lenR:bltW .len [.rdl xs] st Q=Q (.int xs.length) st:=propext ⟨fun ⟨ys,e,q⟩=>by cases e;exact q,fun q=>⟨xs,rfl,q⟩⟩
theorem W_lenL:bltW .len [.ref n] st Q=∃xs,seqAt st (.ref n)=some xs∧Q (.int xs.length) st:=rfl
theorem W_max:bltW .max2 [.int i,.int j] st Q=Q (.int (if i<j then j else i)) st:=rfl
theorem W_min:bltW .min2 [.int i,.int j] st Q=Q (.int (if j<i then j else i)) st:=rfl
theorem W_divmod:bltW .divmod [.int i,.int j] st Q=(CBig j∧Q (.tup [.int (i/j),.int (i % j)]) st):=rfl
theorem W_int1:bltW .int1 [.bl b] st Q=Q (.int (b2z b)) st:=rfl
theorem W_tupT:bltW .tuple1 [.tup xs] st Q=Q (.tup xs) st:=propext ⟨fun ⟨ys,e,q⟩=>by cases e;exact q,fun q=>⟨xs,rfl,q⟩⟩
theorem W_tupL:bltW .tuple1 [.ref n] st Q=∃xs,seqAt st (.ref n)=some xs∧Q (.tup xs) st:=rfl
theorem W_listT:bltW .list1 [.tup xs] st Q=Q (.ref st.length) (st++[.lst xs]):=propext ⟨fun ⟨ys,e,q⟩=>by cases e;exact q,fun q=>⟨xs,rfl,q⟩⟩
theorem W_listL:bltW .list1 [.ref n] st Q=∃xs,seqAt st (.ref n)=some xs∧Q (.ref st.length) (st++[.lst xs]):=rfl
theorem W_all:bltW .all1 [x] st Q=∃xs bs,listAt st x=some xs∧bools xs=some bs∧Q (.bl (bs.all id)) st:=rfl
theorem W_any:bltW .any1 [x] st Q=∃xs bs,listAt st x=some xs∧bools xs=some bs∧Q (.bl (bs.any id)) st:=rfl
theorem W_abs:bltW .abs1 [.int i] st Q=Q (.int i.natAbs) st:=rfl
theorem W_app:metW .append (.ref n) [v] st Q=∃xs,st[n]?=some (.lst xs)∧xs.length<100000∧Q .non (st.set n (.lst (xs++[v]))):=rfl
theorem W_pop:metW .pop0 (.ref n) [] st Q=∃xs v,st[n]?=some (.lst xs)∧xs[xs.length-1]?=some v∧Q v (st.set n (.lst xs.dropLast)):=rfl
theorem W_ext:metW .extend (.ref n) [.ref k] st Q=∃xs ys,st[n]?=some (.lst xs)∧st[k]?=some (.lst ys)∧xs.length+ys.length≤100000∧Q .non (st.set n (.lst (xs++ys))):=rfl
theorem W_tB:truW (.bl b) st BQ=BQ b st:=rfl
theorem W_tN:truW .non st BQ=BQ false st:=rfl
theorem W_tI:truW (.int i) st BQ=BQ (i != 0) st:=rfl
theorem W_tT:truW (.tup xs) st BQ=BQ (!xs.isEmpty) st:=by simp [truW,seqAt]
theorem W_tL:truW (.ref n) st BQ=∃xs,seqAt st (.ref n)=some xs∧BQ (!xs.isEmpty) st:=rfl
theorem W_set {kS:AH→Prop}:setW (.ref n) (.int j) v st kS=∃xs,st[n]?=some (.lst xs)∧∃q,ixN xs.length j=some q∧kS (st.set n (.lst (xs.set q v))):=rfl
theorem W_augI:augW .Add (.int i) (.int j) st Q=Q (.int (i+j)) st:=rfl
theorem W_augL:augW .Add (.ref n) (.ref k) st Q=∃xs ys,st[n]?=some (.lst xs)∧st[k]?=some (.lst ys)∧xs.length+ys.length≤100000∧Q (.ref n) (st.set n (.lst (xs++ys))):=rfl
theorem W_augS:augW .Sub (.int i) (.int j) st Q=Q (.int (i-j)) st:=rfl
end
theorem castN0:((0:Nat):Int)=0:=rfl
theorem castN1:((1:Nat):Int)=1:=rfl
theorem castN2:((2:Nat):Int)=2:=rfl
theorem castN3:((3:Nat):Int)=3:=rfl
theorem castN4:((4:Nat):Int)=4:=rfl
theorem castN5:((5:Nat):Int)=5:=rfl
theorem castN6:((6:Nat):Int)=6:=rfl
theorem get_app {s g:AH} {k:Nat}:(s++g)[s.length+k]?=g[k]?:=by
 rw [List.getElem?_append_right (Nat.le_add_right _ _),Nat.add_sub_cancel_left]
theorem get_app0 {s g:AH}:(s++g)[s.length]?=g[0]?:=get_app (k:=0)
theorem get_last {st:AH} {c:Cell}:(st++[c])[st.length]?=some c:=by simp
theorem get_old {st g:AH} {n:Nat} {c:Cell} (h:st[n]?=some c):(st++g)[n]?=some c:=by
 rw [List.getElem?_append_left (List.getElem?_eq_some_iff.mp h).1]
 exact h
theorem lt_of_get {st:AH} {n:Nat} {c:Cell} (h:st[n]?=some c):n<st.length:=(List.getElem?_eq_some_iff.mp h).1
end FW
set_option Elab.async false
set_option linter.all false
set_option maxRecDepth 100000
set_option maxHeartbeats 4000000
namespace My
open PySem L2 HX FW
noncomputable def top (i:Nat):Stmt:=PySem.Challenge.pw_hourstairs_k41_whole_one_then_another.main.body.getD i (.Pass ⟨0,0,0,0⟩)
theorem kind_of_bel {st:AH} {v:PV} (h:v.bel st.length=true):∃n,kindP st v=some n:=by
 cases v with
 | ref k =>
  rw [PV.bel] at h
  have hk:=of_decide_eq_true h
  have e:st[k]?=some st[k]:=List.getElem?_eq_getElem hk
  cases q:st[k] with
  | lst xs=>exact ⟨"list",by simp [kindP,e,q]⟩
  | dk xs=>exact ⟨"dict",by simp [kindP,e,q]⟩
 | fn a=>rw [PV.bel] at h;cases h
 | _=>exact ⟨_,rfl⟩
noncomputable def wholeP:PV→Bool
 | .int _=>true
 | _=>false
theorem whole_kind {st:AH} {v:PV} {n:String} (h:kindP st v=some n):wholeP v=(isKind "int" n && !isKind "bool" n):=by
 cases v with
 | ref k =>
  unfold kindP at h
  simp only at h
  split at h <;> cases h <;> rfl
 | fn a=>cases h
 | _=>cases h;rfl
noncomputable def isFrP:PV→Bool
 | .tup [.int n,.int d]=>decide (0≤n∧1≤d∧Nat.gcd n.natAbs d.natAbs=1)
 | _=>false
theorem kind_tuple {st:AH} {v:PV} {n:String} (h:kindP st v=some n):(isKind "tuple" n=true→∃xs,v=.tup xs)∧(isKind "tuple" n=false→isFrP v=false):=by
 cases v with
 | tup xs=>cases h;exact ⟨fun _=>⟨xs,rfl⟩,fun z=>absurd z (by decide)⟩
 | ref k =>
  unfold kindP at h
  simp only at h
  split at h <;> cases h <;> exact ⟨fun z=>absurd z (by decide),fun _=>rfl⟩
 | fn a=>cases h
 | _=>cases h;exact ⟨fun z=>absurd z (by decide),fun _=>rfl⟩
theorem isFr_two {x y:PV}:isFrP (.tup [x,y])=(match x,y with | .int n,.int d=>decide (0≤n∧1≤d∧Nat.gcd n.natAbs d.natAbs=1)|_,_=>false):=by
 cases x <;> cases y <;> rfl
theorem isFr_len {xs:List PV} (hl:xs.length≠2):isFrP (.tup xs)=false:=by
 match xs,hl with
 | [],_=>rfl
 | [x],_=>cases x <;> rfl
 | [_,_],hl=>exact absurd rfl hl
 | x::y::_::_,_=>cases x <;> cases y <;> rfl
theorem gcd_one_int {n d:Int} (h0:0≤n) (h1:1≤d):decide (((Nat.gcd n.toNat d.toNat:Nat):Int)=1)=decide (0≤n∧1≤d∧Nat.gcd n.natAbs d.natAbs=1):=by
 have e1:n.natAbs=n.toNat:=by omega
 have e2:d.natAbs=d.toNat:=by omega
 rw [e1,e2]
 simp [h0,h1]
 omega
theorem gcd_big {n d:Nat} (h:0<d) (h2:d<2 ^ 8000):CBig (Nat.gcd n d:Nat):=by
 have h3:0<Nat.gcd n d:=Nat.gcd_pos_of_pos_right _ h
 have h4:Nat.gcd n d≤d:=Nat.gcd_le_right _ h
 refine ⟨by omega,?_⟩
 have h5:((Nat.gcd n d:Nat):Int).natAbs=Nat.gcd n d:=rfl
 rw [h5]
 have:Nat.gcd n d<2 ^ 8000:=Nat.lt_of_le_of_lt h4 h2
 have:=(Nat.log2_lt (by omega)).mpr this
 omega
noncomputable abbrev pc (q r:Int):Cell:=.lst [.int q,.int r]
theorem pc_bel {q r:Int} {k:Nat}:(pc q r).bel k=true:=by simp [pc,Cell.bel,PV.bels,PV.bel]
theorem pow18:CPow 10 18:=⟨by decide,by decide,by decide⟩
theorem cbig_of {j:Int} (h:0<j) (h2:j<2 ^ 200):CBig j:=CBig.of h (Int.lt_of_lt_of_le h2 (by
 have:((2:Int) ^ 200)=((2 ^ 200:Nat):Int):=by rw [Int.natCast_pow];rfl
 have e2:((2:Int) ^ 8999)=((2 ^ 8999:Nat):Int):=by rw [Int.natCast_pow];rfl
 rw [this,e2]
 exact Int.ofNat_le.mpr (Nat.pow_le_pow_right (by decide) (by decide))))
theorem cmb_l {i j:Int} (h1:-(2 ^ 64)<i) (h2:i<2 ^ 64):CMB i j:=.inr (.inl ⟨h1,h2⟩)
theorem cmb_r {i j:Int} (h1:-(2 ^ 64)<j) (h2:j<2 ^ 64):CMB i j:=.inr (.inr ⟨h1,h2⟩)
theorem atI_ints {ns:List Int} {k:Nat} (h:k<ns.length):atI (ns.map PV.int) (k:Int)=some (.int (ns.getD k 0)):=by
 refine atI_nat ?_
 rw [List.getElem?_map,List.getD_eq_getElem?_getD,List.getElem?_eq_getElem h]
 rfl
theorem gcd_low {n d:Nat} (h:0<d):Nat.gcd (n/Nat.gcd n d) (d/Nat.gcd n d)=1:=Nat.gcd_div_gcd_div_gcd_of_pos_right h
theorem low_pos {n d:Nat} (h:0<d):0<d/Nat.gcd n d:=Nat.div_pos (Nat.gcd_le_right _ h) (Nat.gcd_pos_of_pos_right _ h)
theorem frac_cross (n d:Nat):n/Nat.gcd n d*d=n*(d/Nat.gcd n d):=by
 obtain ⟨a,ha⟩:=Nat.gcd_dvd_left n d
 obtain ⟨b,hb⟩:=Nat.gcd_dvd_right n d
 by_cases h:Nat.gcd n d=0
 ·rw [h,Nat.div_zero,Nat.div_zero,Nat.zero_mul,Nat.mul_zero]
 ·have e1:n/Nat.gcd n d=a:=by rw [Nat.div_eq_of_eq_mul_right (by omega) ha]
  have e2:d/Nat.gcd n d=b:=by rw [Nat.div_eq_of_eq_mul_right (by omega) hb]
  rw [e1,e2]
  generalize Nat.gcd n d=g at *
  subst ha hb
  rw [←Nat.mul_assoc,Nat.mul_comm a g]
theorem range_item {n i:Nat} {v:PV} (h:(rangeL 0 ((n:Int).toNat))[i]?=some v):v=.int i∧i<n:=by
 unfold rangeL at h
 rw [List.getElem?_map] at h
 have hi:i<n:=by
  by_cases hi:i<n
  ·exact hi
  ·rw [List.getElem?_eq_none (by simp;omega)] at h;cases h
 rw [List.getElem?_range (by simpa using hi)] at h
 cases h
 exact ⟨by simp,hi⟩
theorem deep_pair {st:AH} {a b:Int}:deep st (.tup [.int a,.int b])=some (.tuple [.int a,.int b]):=by simp [deep,PV.toD,PV.toDs]
theorem shaped_pair (a b:Int):SeqAt.shaped (.tuple [.int a,.int b])=true:=by
 simp [SeqAt.shaped,PyData.canLay0,PyData.canLayAll0,PyData.depth,PyData.depthAll]
theorem eqv_pair (a b c d:Int):PyData.eqv (.tuple [.int a,.int b]) (.tuple [.int c,.int d])=(decide (a=c) && decide (b=d)):=by
 simp [PyData.eqv,PyData.eqvAll,Bool.beq_eq_decide_eq]
theorem eqW_pair {st:AH} {a b c d:Int} {k:Bool→Prop} (h:k (decide (a=c) && decide (b=d))):eqW st (.tup [.int a,.int b]) (.tup [.int c,.int d]) k :=
 ⟨_,_,deep_pair,deep_pair,shaped_pair _ _,shaped_pair _ _,by rw [eqv_pair];exact h⟩
noncomputable def sp_is_whole:FSp:=fun as st Q=>∃v,as=[v]∧v.bel st.length=true∧Q (.bl (wholeP v)) st
theorem mono_is_whole {as st Q Q'} (h:∀v st,Q v st→Q' v st) (q:sp_is_whole as st Q):sp_is_whole as st Q':=by obtain ⟨v,e,b,q⟩:=q;exact ⟨v,e,b,h _ _ q⟩
theorem len_is_whole {as st Q} (q:sp_is_whole as st Q):as.length=1:=by obtain ⟨v,rfl,_⟩:=q;rfl
noncomputable def sp_common_divisor:FSp:=fun as st Q=>∃n d:Nat,as=[.int n,.int d]∧Q (.int (Nat.gcd n d:Nat)) st
theorem mono_common_divisor {as st Q Q'} (h:∀v st,Q v st→Q' v st) (q:sp_common_divisor as st Q):sp_common_divisor as st Q':=by obtain ⟨n,d,e,q⟩:=q;exact ⟨n,d,e,h _ _ q⟩
theorem len_common_divisor {as st Q} (q:sp_common_divisor as st Q):as.length=2:=by obtain ⟨n,d,rfl,_⟩:=q;rfl
noncomputable def sp_is_fraction:FSp:=fun as st Q=>∃v,as=[v]∧v.bel st.length=true∧Q (.bl (isFrP v)) st
theorem mono_is_fraction {as st Q Q'} (h:∀v st,Q v st→Q' v st) (q:sp_is_fraction as st Q):sp_is_fraction as st Q':=by obtain ⟨v,e,b,q⟩:=q;exact ⟨v,e,b,h _ _ q⟩
theorem len_is_fraction {as st Q} (q:sp_is_fraction as st Q):as.length=1:=by obtain ⟨v,rfl,_⟩:=q;rfl
noncomputable abbrev low (n d:Nat):PV:=.tup [.int (n/Nat.gcd n d:Nat),.int (d/Nat.gcd n d:Nat)]
noncomputable def sp_fraction:FSp:=fun as st Q=>∃n d:Nat,as=[.int n,.int d]∧0<d∧d<2 ^ 8000∧Q (low n d) st
theorem mono_fraction {as st Q Q'} (h:∀v st,Q v st→Q' v st) (q:sp_fraction as st Q):sp_fraction as st Q':=by obtain ⟨n,d,e,h1,h2,q⟩:=q;exact ⟨n,d,e,h1,h2,h _ _ q⟩
theorem len_fraction {as st Q} (q:sp_fraction as st Q):as.length=2:=by obtain ⟨n,d,rfl,_⟩:=q;rfl
noncomputable abbrev fr (p:Nat × Nat):PV:=.tup [.int p.1,.int p.2]
noncomputable def lowp (n d:Nat):Nat × Nat:=(n/Nat.gcd n d,d/Nat.gcd n d)
theorem low_eq_fr (n d:Nat):low n d=fr (lowp n d):=rfl
theorem lowp_cross (n d:Nat):(lowp n d).1*d=n*(lowp n d).2:=frac_cross n d
theorem lowp_pos {n d:Nat} (h:0<d):0<(lowp n d).2:=low_pos h
theorem lowp_gcd {n d:Nat} (h:0<d):Nat.gcd (lowp n d).1 (lowp n d).2=1:=gcd_low h
theorem lowp_le1 (n d:Nat):(lowp n d).1≤n:=Nat.div_le_self _ _
theorem lowp_le2 (n d:Nat):(lowp n d).2≤d:=Nat.div_le_self _ _
theorem cop_eq {a b c d:Nat} (h1:Nat.gcd a b=1) (h2:Nat.gcd c d=1) (hb:0<b) (hd:0<d) (h:a*d=c*b):a=c∧b=d:=by
 have hbd:b ∣ d:=by
  have:b ∣ a*d:=⟨c,by rw [h,Nat.mul_comm]⟩
  exact Nat.Coprime.dvd_of_dvd_mul_left (show Nat.Coprime b a by unfold Nat.Coprime;rw [Nat.gcd_comm];exact h1) this
 have hdb:d ∣ b:=by
  have:d ∣ c*b:=⟨a,by rw [←h,Nat.mul_comm]⟩
  exact Nat.Coprime.dvd_of_dvd_mul_left (show Nat.Coprime d c by unfold Nat.Coprime;rw [Nat.gcd_comm];exact h2) this
 have e:b=d:=Nat.dvd_antisymm hbd hdb
 subst e
 exact ⟨Nat.eq_of_mul_eq_mul_right hb h,rfl⟩
noncomputable def subp (p q:Nat × Nat):Nat × Nat:=lowp (p.1*q.2-q.1*p.2) (p.2*q.2)
noncomputable def mulp (p q:Nat × Nat):Nat × Nat:=lowp (p.1*q.1) (p.2*q.2)
structure Cop (p:Nat × Nat):Prop where
 pos:0<p.2
 one:Nat.gcd p.1 p.2=1
theorem Cop.low {n d:Nat} (h:0<d):Cop (lowp n d):=⟨lowp_pos h,lowp_gcd h⟩
theorem Cop.ext {p q:Nat × Nat} (h1:Cop p) (h2:Cop q) (h:p.1*q.2=q.1*p.2):p=q:=by
 obtain ⟨e1,e2⟩:=cop_eq h1.one h2.one h1.pos h2.pos h
 exact Prod.ext e1 e2
theorem Cop.isFr {p:Nat × Nat} (h:Cop p):isFrP (fr p)=true:=by
 show isFrP (.tup [.int _,.int _])=true
 rw [isFr_two]
 refine decide_eq_true ⟨Int.natCast_nonneg _,Int.ofNat_le.mpr h.pos,?_⟩
 rw [Int.natAbs_natCast,Int.natAbs_natCast]
 exact h.one
theorem subp_cop {p q:Nat × Nat} (hp:0<p.2) (hq:0<q.2):Cop (subp p q):=.low (Nat.mul_pos hp hq)
theorem mulp_cop {p q:Nat × Nat} (hp:0<p.2) (hq:0<q.2):Cop (mulp p q):=.low (Nat.mul_pos hp hq)
structure Sz (k:Nat) (p:Nat × Nat):Prop where
 a:p.1<2 ^ k
 b:p.2<2 ^ k
 pos:0<p.2
theorem Sz.mono {j k:Nat} {p:Nat × Nat} (h:Sz j p) (hk:j≤k):Sz k p:=⟨Nat.lt_of_lt_of_le h.a (Nat.pow_le_pow_right (by decide) hk),Nat.lt_of_lt_of_le h.b (Nat.pow_le_pow_right (by decide) hk),h.pos⟩
theorem mul_lt {a b j k:Nat} (h1:a<2 ^ j) (h2:b<2 ^ k):a*b<2 ^ (j+k):=by
 rw [Nat.pow_add]
 by_cases hb:b=0
 ·subst hb
  simp only [Nat.mul_zero]
  exact Nat.mul_pos (by omega) (by omega)
 ·exact Nat.lt_of_lt_of_le (Nat.mul_lt_mul_of_pos_right h1 (by omega)) (Nat.mul_le_mul_left _ (Nat.le_of_lt h2))
theorem subp_sz {p q:Nat × Nat} {j k:Nat} (hp:Sz j p) (hq:Sz k q):Sz (j+k) (subp p q):=by
 have h1:=mul_lt hp.a hq.b
 have h3:=mul_lt hp.b hq.b
 refine ⟨Nat.lt_of_le_of_lt (lowp_le1 _ _) (by omega),Nat.lt_of_le_of_lt (lowp_le2 _ _) (by omega),lowp_pos (Nat.mul_pos hp.pos hq.pos)⟩
noncomputable def belp (p q:Nat × Nat):Prop:=p.1*q.2<q.1*p.2
noncomputable instance (p q:Nat × Nat):Decidable (belp p q):=inferInstanceAs (Decidable (_<_))
mutual
noncomputable def PVdat:Nat→PV→Bool
 | _,.int _=>true
 | _,.non=>true
 | 0,.tup _=>false
 | n+1,.tup xs=>PVdats n xs
 | _,.bl _=>false
 | _,.str _=>false
 | _,.ref _=>false
 | _,.rdl _=>false
 | _,.fn _=>false
noncomputable def PVdats:Nat→List PV→Bool
 | _,[]=>true
 | n,x::xs=>PVdat n x && PVdats n xs
end
mutual
theorem PVdat_to:∀ {n:Nat} {v:PV},PVdat n v=true→∃d,v.toD=some d∧d.canLay0=true∧d.depth≤n+1
 | n,.int i,_=>⟨.int i,by simp [PV.toD],by simp [PyData.canLay0],by simp [PyData.depth]⟩
 | n,.non,_=>⟨.none,by simp [PV.toD],by simp [PyData.canLay0],by simp [PyData.depth]⟩
 | 0,.tup xs,h=>by simp [PVdat] at h
 | n+1,.tup xs,h=>by
  rw [PVdat] at h
  obtain ⟨ds,e,h1,h2⟩:=PVdats_to h
  exact ⟨.tuple ds,by simp [PV.toD,e],by simp [PyData.canLay0,h1],by simp [PyData.depth];omega⟩
 | n,.bl _,h=>by cases n <;> simp [PVdat] at h
 | n,.str _,h=>by cases n <;> simp [PVdat] at h
 | n,.ref _,h=>by cases n <;> simp [PVdat] at h
 | n,.rdl _,h=>by cases n <;> simp [PVdat] at h
 | n,.fn _,h=>by cases n <;> simp [PVdat] at h
theorem PVdats_to:∀ {n:Nat} {vs:List PV},PVdats n vs=true→∃ds,PV.toDs vs=some ds∧PyData.canLayAll0 ds=true∧PyData.depthAll ds≤n+1
 | n,[],_=>⟨[],by simp [PV.toDs],by simp [PyData.canLayAll0],by simp [PyData.depthAll]⟩
 | n,x::xs,h=>by
  rw [PVdats,Bool.and_eq_true] at h
  obtain ⟨d,e1,h1,h2⟩:=PVdat_to h.1
  obtain ⟨ds,e2,h3,h4⟩:=PVdats_to h.2
  exact ⟨d::ds,by simp [PV.toDs,e1,e2],by simp [PyData.canLayAll0,h1,h3],by simp [PyData.depthAll];omega⟩
end
mutual
theorem PVdat_eqv:∀ {n:Nat} {v w:PV} {d e:PyData},PVdat n v=true→PVdat n w=true→v.toD=some d→w.toD=some e→PyData.eqv d e=v.same w
 | n,.int i,w,d,e,_,hw,hd,he=>by
  simp [PV.toD] at hd
  subst hd
  cases w with
  | int j=>simp [PV.toD] at he;subst he;simp [PyData.eqv,PV.same,Bool.beq_eq_decide_eq]
  | non=>simp [PV.toD] at he;subst he;simp [PyData.eqv,PV.same]
  | tup ys =>
   cases n with
   | zero=>simp [PVdat] at hw
   | succ n =>
    rw [PVdat] at hw
    obtain ⟨ds,e1,h1,h2⟩:=PVdats_to hw
    simp [PV.toD,e1] at he
    subst he
    simp [PyData.eqv,PV.same]
  | _=>cases n <;> simp [PVdat] at hw
 | n,.non,w,d,e,_,hw,hd,he=>by
  simp [PV.toD] at hd
  subst hd
  cases w with
  | int j=>simp [PV.toD] at he;subst he;simp [PyData.eqv,PV.same]
  | non=>simp [PV.toD] at he;subst he;simp [PyData.eqv,PV.same]
  | tup ys =>
   cases n with
   | zero=>simp [PVdat] at hw
   | succ n =>
    rw [PVdat] at hw
    obtain ⟨ds,e1,h1,h2⟩:=PVdats_to hw
    simp [PV.toD,e1] at he
    subst he
    simp [PyData.eqv,PV.same]
  | _=>cases n <;> simp [PVdat] at hw
 | 0,.tup xs,w,d,e,hv,_,_,_=>by simp [PVdat] at hv
 | n+1,.tup xs,w,d,e,hv,hw,hd,he=>by
  rw [PVdat] at hv
  obtain ⟨ds,e1,h1,h2⟩:=PVdats_to hv
  simp [PV.toD,e1] at hd
  subst hd
  cases w with
  | int j=>simp [PV.toD] at he;subst he;simp [PyData.eqv,PV.same]
  | non=>simp [PV.toD] at he;subst he;simp [PyData.eqv,PV.same]
  | tup ys =>
   rw [PVdat] at hw
   obtain ⟨es,e2,h3,h4⟩:=PVdats_to hw
   simp [PV.toD,e2] at he
   subst he
   simp only [PyData.eqv,PV.same]
   exact PVdats_eqv hv hw e1 e2
  | _=>simp [PVdat] at hw
 | n,.bl _,_,_,_,h,_,_,_=>by cases n <;> simp [PVdat] at h
 | n,.str _,_,_,_,h,_,_,_=>by cases n <;> simp [PVdat] at h
 | n,.ref _,_,_,_,h,_,_,_=>by cases n <;> simp [PVdat] at h
 | n,.rdl _,_,_,_,h,_,_,_=>by cases n <;> simp [PVdat] at h
 | n,.fn _,_,_,_,h,_,_,_=>by cases n <;> simp [PVdat] at h
theorem PVdats_eqv:∀ {n:Nat} {vs ws:List PV} {ds es:List PyData},PVdats n vs=true→PVdats n ws=true→PV.toDs vs=some ds→PV.toDs ws=some es→PyData.eqvAll ds es=PV.sames vs ws
 | n,[],ws,ds,es,_,hw,hd,he=>by
  simp [PV.toDs] at hd
  subst hd
  cases ws with
  | nil=>simp [PV.toDs] at he;subst he;simp [PyData.eqvAll,PV.sames]
  | cons y ys =>
   obtain ⟨zs,e1,h1,h2⟩:=PVdats_to hw
   rw [e1] at he
   cases he
   cases es with
   | nil =>
    rw [PV.toDs] at e1
    split at e1 <;> simp at e1
   | cons=>simp [PyData.eqvAll,PV.sames]
 | n,x::xs,ws,ds,es,hv,hw,hd,he=>by
  rw [PVdats,Bool.and_eq_true] at hv
  obtain ⟨d1,a1,b1,c1⟩:=PVdat_to hv.1
  obtain ⟨ds1,a2,b2,c2⟩:=PVdats_to hv.2
  simp [PV.toDs,a1,a2] at hd
  subst hd
  cases ws with
  | nil=>simp [PV.toDs] at he;subst he;simp [PyData.eqvAll,PV.sames]
  | cons y ys =>
   rw [PVdats,Bool.and_eq_true] at hw
   obtain ⟨d3,a3,b3,c3⟩:=PVdat_to hw.1
   obtain ⟨ds4,a4,b4,c4⟩:=PVdats_to hw.2
   simp [PV.toDs,a3,a4] at he
   subst he
   rw [PyData.eqvAll,PV.sames,PVdat_eqv hv.1 hw.1 a1 a3,PVdats_eqv hv.2 hw.2 a2 a4]
end
theorem deep_toD {st:AH} {v:PV} {d:PyData} (h:v.toD=some d):deep st v=some d:=by
 cases v with
 | ref n=>simp [PV.toD] at h
 | _=>exact h
theorem eqW_dat {st:AH} {n:Nat} {v w:PV} {k:Bool→Prop} (hn:n≤60) (hv:PVdat n v=true) (hw:PVdat n w=true) (h:k (v.same w)):eqW st v w k:=by
 obtain ⟨d,e1,h1,h2⟩:=PVdat_to hv
 obtain ⟨e,e2,h3,h4⟩:=PVdat_to hw
 have big:∃d e,deep st v=some d∧deep st w=some e∧SeqAt.shaped d=true∧SeqAt.shaped e=true∧k (PyData.eqv d e):=by
  refine ⟨d,e,deep_toD e1,deep_toD e2,?_,?_,?_⟩
  ·simp [SeqAt.shaped,h1];omega
  ·simp [SeqAt.shaped,h3];omega
  ·rw [PVdat_eqv hv hw e1 e2];exact h
 cases v with
 | int i =>
  cases w with
  | int j =>
   show k (decide (i=j))
   simp only [PV.same,Bool.beq_eq_decide_eq] at h
   exact h
  | _=>exact big
 | bl i=>cases n <;> simp [PVdat] at hv
 | str i=>cases n <;> simp [PVdat] at hv
 | _=>exact big
mutual
theorem PVsame_refl:∀(v:PV),v.same v=true
 | .non=>by simp [PV.same]
 | .bl _=>by simp [PV.same]
 | .int _=>by simp [PV.same]
 | .str _=>by simp [PV.same]
 | .ref _=>by simp [PV.same]
 | .fn _=>by simp [PV.same]
 | .tup xs=>by rw [PV.same];exact PVsames_refl xs
 | .rdl xs=>by rw [PV.same];exact PVsames_refl xs
theorem PVsames_refl:∀(vs:List PV),PV.sames vs vs=true
 | []=>by simp [PV.sames]
 | x::xs=>by rw [PV.sames,PVsame_refl x,PVsames_refl xs];rfl
end
theorem PVdats_of {n:Nat}:∀ {vs:List PV},(∀v∈vs,PVdat n v=true)→PVdats n vs=true
 | [],_=>by rw [PVdats]
 | x::xs,h=>by rw [PVdats,h x (by simp),PVdats_of fun v hv=>h v (by simp [hv])];rfl
theorem PVdat_tup {n:Nat} {vs:List PV} (h:∀v∈vs,PVdat n v=true):PVdat (n+1) (.tup vs)=true:=by rw [PVdat];exact PVdats_of h
noncomputable def sp_less:FSp:=fun as st Q=>∃p q,as=[fr p,fr q]∧Sz 3000 p∧Sz 3000 q∧q.1*p.2≤p.1*q.2∧Q (fr (subp p q)) st
theorem mono_less {as st Q Q'} (h:∀v st,Q v st→Q' v st) (q:sp_less as st Q):sp_less as st Q':=by obtain ⟨a,b,e,h1,h2,h3,q⟩:=q;exact ⟨a,b,e,h1,h2,h3,h _ _ q⟩
theorem len_less {as st Q} (q:sp_less as st Q):as.length=2:=by obtain ⟨n,d,rfl,_⟩:=q;rfl
noncomputable def sp_times:FSp:=fun as st Q=>∃p q,as=[fr p,fr q]∧Sz 3000 p∧Sz 3000 q∧Q (fr (mulp p q)) st
theorem mono_times {as st Q Q'} (h:∀v st,Q v st→Q' v st) (q:sp_times as st Q):sp_times as st Q':=by obtain ⟨a,b,e,h1,h2,q⟩:=q;exact ⟨a,b,e,h1,h2,h _ _ q⟩
theorem len_times {as st Q} (q:sp_times as st Q):as.length=2:=by obtain ⟨n,d,rfl,_⟩:=q;rfl
noncomputable def sp_is_below:FSp:=fun as st Q=>∃p q,as=[fr p,fr q]∧Sz 3000 p∧Sz 3000 q∧Q (.bl (decide (p.1*q.2<q.1*p.2))) st
theorem mono_is_below {as st Q Q'} (h:∀v st,Q v st→Q' v st) (q:sp_is_below as st Q):sp_is_below as st Q':=by obtain ⟨a,b,e,h1,h2,q⟩:=q;exact ⟨a,b,e,h1,h2,h _ _ q⟩
theorem len_is_below {as st Q} (q:sp_is_below as st Q):as.length=2:=by obtain ⟨n,d,rfl,_⟩:=q;rfl
theorem pow_le {j k:Nat} (h:j≤k):(2:Nat) ^ j≤2 ^ k:=Nat.pow_le_pow_right (by decide) h
theorem cmbN {a b:Nat} (h1:a<2 ^ 3000) (h2:b<2 ^ 3000):CMB (a:Int) (b:Int):=.inl ⟨Nat.lt_of_lt_of_le h1 (pow_le (by decide)),Nat.lt_of_lt_of_le h2 (pow_le (by decide))⟩
theorem big2 {a b:Nat} (h1:a<2 ^ 3000) (h2:b<2 ^ 3000):a*b<2 ^ 8000:=Nat.lt_of_lt_of_le (mul_lt h1 h2) (pow_le (by decide))
theorem fr_bel {p:Nat × Nat} {k:Nat}:(fr p).bel k=true:=by simp [fr,PV.bel,PV.bels]
theorem fr_eqW {st:AH} {p q:Nat × Nat} {k:Bool→Prop} (h:k (decide (p=q))):eqW st (fr p) (fr q) k:=by
 refine eqW_pair ?_
 have:(decide ((p.1:Int)=q.1) && decide ((p.2:Int)=q.2))=decide (p=q):=by
  rw [Bool.eq_iff_iff]
  simp only [Bool.and_eq_true,decide_eq_true_eq]
  constructor
  ·rintro ⟨h1,h2⟩;exact Prod.ext (by omega) (by omega)
  ·rintro rfl;exact ⟨rfl,rfl⟩
 rw [this]
 exact h
noncomputable def PK (q r:Int):Prop:=0≤q∧0≤r∧r<8589934592
noncomputable def Pot (st:AH) (p:Nat):Prop:=∃q r,st[p]?=some (pc q r)∧PK q r
theorem Pot.lt {st:AH} {p:Nat} (h:Pot st p):p<st.length:=by obtain ⟨q,r,e,_⟩:=h;exact lt_of_get e
theorem Pot.app {st g:AH} {p:Nat} (h:Pot st p):Pot (st++g) p:=by obtain ⟨q,r,e,z⟩:=h;exact ⟨q,r,get_old e,z⟩
structure Gr (st:AH) (p:Nat) (st':AH):Prop where
 len:st.length≤st'.length
 old:∀i,i<st.length→i≠p→st'[i]?=st[i]?
 pot:Pot st' p
 was:p<st.length
theorem Gr.refl {st:AH} {p:Nat} (h:Pot st p):Gr st p st:=⟨Nat.le_refl _,fun _ _ _=>rfl,h,h.lt⟩
theorem Gr.trans {st s1 s2:AH} {p:Nat} (a:Gr st p s1) (b:Gr s1 p s2):Gr st p s2:=⟨Nat.le_trans a.len b.len,fun i h1 h2=>(b.old i (Nat.lt_of_lt_of_le h1 a.len) h2).trans (a.old i h1 h2),b.pot,a.was⟩
theorem Gr.app {st s1 g:AH} {p:Nat} (a:Gr st p s1):Gr st p (s1++g) :=
 ⟨by rw [List.length_append];exact Nat.le_trans a.len (Nat.le_add_right _ _),fun i h1 h2=>by rw [List.getElem?_append_left (Nat.lt_of_lt_of_le h1 a.len)];exact a.old i h1 h2,a.pot.app,a.was⟩
theorem Gr.set {st s1:AH} {p:Nat} (a:Gr st p s1) {q r:Int} (z:PK q r):Gr st p (s1.set p (pc q r)) :=
 ⟨by rw [List.length_set];exact a.len,fun i h1 h2=>by rw [List.getElem?_set_ne (Ne.symm h2)];exact a.old i h1 h2,⟨q,r,List.getElem?_set_self a.pot.lt,z⟩,a.was⟩
theorem Gr.setN {st s1:AH} {p n:Nat} {c:Cell} (a:Gr st p s1) (h:st.length≤n):Gr st p (s1.set n c):=by
 have hn:n≠p:=fun e=>by have:=a.was;omega
 refine ⟨by rw [List.length_set];exact a.len,fun i h1 h2=>by rw [List.getElem?_set_ne (by omega)];exact a.old i h1 h2,?_,a.was⟩
 obtain ⟨q,r,e,z⟩:=a.pot
 exact ⟨q,r,by rw [List.getElem?_set_ne hn];exact e,z⟩
theorem Gr.get {st s1:AH} {p n:Nat} {c:Cell} (a:Gr st p s1) (h:st[n]?=some c) (hn:n≠p):s1[n]?=some c:=(a.old n (lt_of_get h) hn).trans h
theorem Gr.tmp {st s1:AH} {p:Nat} {v:PV} {Q:EK} (a:Gr st p s1) (hv:v.bel st.length=true) (k:∀s2,Gr st p s2→s2.length=st.length→Q v s2):Tmp st Q v s1:=by
 have hl:(s1.take st.length).length=st.length:=by rw [List.length_take];exact Nat.min_eq_left a.len
 have hg:∀i,i<st.length→(s1.take st.length)[i]?=s1[i]?:=fun i hi=>by rw [List.getElem?_take_of_lt hi]
 obtain ⟨q,r,e,z⟩:=a.pot
 refine ⟨s1.take st.length,s1.drop st.length,(List.take_append_drop _ _).symm,hl,fun i hi=>?_,hv,k _ ⟨by omega,fun i h1 h2=>(hg i h1).trans (a.old i h1 h2),⟨q,r,(hg p a.was).trans e,z⟩,a.was⟩ hl⟩
 by_cases hp:i=p
 ·subst hp
  exact .inr ⟨pc q r,(hg i a.was).trans e,pc_bel⟩
 ·exact .inl ((hg i hi).trans (a.old i hi hp))
theorem pow9:CPow 10 9:=⟨by decide,by decide,by decide⟩
theorem pow11:CPow 10 11:=⟨by decide,by decide,by decide⟩
theorem pickL {L:List PV} {P:PV→Prop} (h:∀v∈L,P v) {y:Int} (y0:0≤y) (y1:y<L.length):∃v,atI L y=some v∧P v:=by
 obtain ⟨m,rfl⟩:∃m:Nat,y=m:=⟨y.toNat,by omega⟩
 have hm:m<L.length:=by omega
 exact ⟨L[m],atI_nat (List.getElem?_eq_getElem hm),h _ (List.getElem_mem hm)⟩
theorem Gr.ne {st s1:AH} {p:Nat} (a:Gr st p s1):s1.length≠p:=fun e=>by have:=a.pot.lt;omega
theorem atI_last {xs:List PV} {v:PV}:atI (xs++[v]) (-1)=some v:=by
 have e:(-1+((xs.length:Int)+1)).toNat=xs.length:=by omega
 simp only [atI,ixN,List.length_append,List.length_singleton]
 simp
 rw [if_pos (by omega),e]
 simp
theorem cut1 {L:List PV}:cutP L (some 1) none=L.drop 1:=by
 unfold cutP
 have:=HT.sIx_nat L.length 0 1
 rw [show ((1:Nat):Int)=(1:Int) from rfl] at this
 rw [HT.sIx_none,this]
 cases L with
 | nil=>rfl
 | cons x xs =>
  have:min 1 (x::xs).length=1:=by simp only [List.length_cons];omega
  rw [this]
  exact List.take_of_length_le (by simp)
theorem addL {st:AH} {n m:Nat} {xs ys:List PV} {Q:EK} (h1:st[n]?=some (.lst xs)) (h2:st[m]?=some (.lst ys)) (h3:xs.length+ys.length≤100000) (q:Q (.ref st.length) (st++[.lst (xs++ys)])):binW .Add (.ref n) (.ref m) st Q:=⟨xs,ys,h1,h2,h3,q⟩
noncomputable def val (p:Nat × Nat):Rat:=(p.1:Rat)/(p.2:Rat)
theorem ratpos {d:Nat} (h:0<d):(0:Rat)<(d:Rat):=by
 have:((0:Nat):Rat)<(d:Rat):=Rat.natCast_lt_natCast.mpr h
 simpa using this
theorem val_low {n d:Nat} (h:0<d):val (lowp n d)=(n:Rat)/(d:Rat):=by
 have c:=lowp_cross n d
 have p:=lowp_pos (n:=n) h
 unfold val
 generalize lowp n d=z at *
 have e:(z.1:Rat)*d=n*z.2:=by
  have:=congrArg (fun k:Nat=>(k:Rat)) c
  simpa using this
 have p1:=ratpos p
 have p2:=ratpos h
 grind
theorem val_nn {p:Nat × Nat} (hp:0<p.2):0≤val p:=by
 unfold val
 rw [←Rat.not_lt,Rat.div_lt_iff (ratpos hp),Rat.zero_mul,Rat.not_lt]
 exact Rat.natCast_nonneg
theorem val_mul {p q:Nat × Nat} (hp:0<p.2) (hq:0<q.2):val (mulp p q)=val p*val q:=by
 unfold mulp
 rw [val_low (Nat.mul_pos hp hq)]
 unfold val
 have p1:=ratpos hp
 have p2:=ratpos hq
 simp only [Rat.natCast_mul]
 grind
theorem val_lt {p q:Nat × Nat} (hp:0<p.2) (hq:0<q.2):p.1*q.2<q.1*p.2↔val p<val q:=by
 have p1:=ratpos hp
 have p2:=ratpos hq
 have e:(p.1*q.2<q.1*p.2)↔((p.1:Rat)*q.2<q.1*p.2):=by
  rw [←Rat.natCast_lt_natCast]
  simp
 rw [e]
 unfold val
 rw [Rat.div_lt_iff p1]
 have e2:(q.1:Rat)/q.2*p.2=q.1*p.2/q.2:=by grind
 rw [e2,Rat.lt_div_iff p2]
theorem val_le {p q:Nat × Nat} (hp:0<p.2) (hq:0<q.2):p.1*q.2≤q.1*p.2↔val p≤val q:=by
 rw [←Nat.not_lt,←Rat.not_lt,val_lt hq hp]
theorem val_sub {p q:Nat × Nat} (hp:0<p.2) (hq:0<q.2) (h:val q≤val p):val (subp p q)=val p-val q:=by
 have h':=(val_le hq hp).mpr h
 unfold subp
 rw [val_low (Nat.mul_pos hp hq)]
 unfold val
 have p1:=ratpos hp
 have p2:=ratpos hq
 obtain ⟨e,he⟩:∃e,p.1*q.2=q.1*p.2+e:=⟨p.1*q.2-q.1*p.2,by omega⟩
 have e2:p.1*q.2-q.1*p.2=e:=by omega
 rw [e2]
 have e3:(p.1:Rat)*q.2=q.1*p.2+e:=by
  have:=congrArg (fun k:Nat=>(k:Rat)) he
  simpa using this
 simp only [Rat.natCast_mul]
 grind
theorem val_inj {p q:Nat × Nat} (hp:Cop p) (hq:Cop q) (h:val p=val q):p=q:=by
 refine hp.ext hq ?_
 have a:=(val_le hp.pos hq.pos).mpr (by rw [h];exact Rat.le_refl)
 have b:=(val_le hq.pos hp.pos).mpr (by rw [h];exact Rat.le_refl)
 omega
theorem val_nought:val (0,1)=0:=by unfold val;grind
theorem val_nat {n:Nat}:val (n,1)=n:=by unfold val;simp;grind
structure Pc where
 e:Nat × Nat
 l:Nat × Nat
 h:Nat × Nat
noncomputable abbrev Pc.E (p:Pc):Rat:=val p.e
noncomputable abbrev Pc.L (p:Pc):Rat:=val p.l
noncomputable abbrev Pc.H (p:Pc):Rat:=val p.h
noncomputable abbrev Pc.mg (a p:Pc):Pc:=⟨p.e,a.l,p.h⟩
noncomputable def gB (b:Nat × Nat) (a p:Pc):Bool:=decide (p.l=a.h) && decide (mulp (subp a.h a.l) (subp p.e a.e)=mulp (subp p.h p.l) (subp a.e b))
noncomputable def leanGo (b:Nat × Nat) (a:Pc):List Pc→List Pc
 | []=>[a]
 | p::r=>if gB b a p=true then leanGo b (a.mg p) r else a::leanGo a.e p r
noncomputable def leanF:List Pc→List Pc
 | []=>[]
 | p::r=>leanGo (0,1) p r
structure Pc.Ok (p:Pc):Prop where
 e:Cop p.e
 l:Cop p.l
 h:Cop p.h
noncomputable def Ch (b:Rat):List Pc→Prop
 | []=>True
 | p::r=>p.Ok∧b<p.E∧p.L≤p.H∧Ch p.E r
noncomputable def Sl (b:Rat) (p:Pc) (s:Rat):Prop:=p.H-p.L=s*(p.E-b)
theorem Sl.ex {b:Rat} {p:Pc} (h:b<p.E):∃s,Sl b p s:=⟨(p.H-p.L)/(p.E-b),by unfold Sl;grind⟩
theorem gB_iff {b:Nat × Nat} {a p:Pc} {s:Rat} (hb:Cop b) (ha:a.Ok) (hp:p.Ok) (h1:val b≤a.E) (h2:a.E<p.E) (h3:a.L≤a.H) (h4:p.L≤p.H) (hs:Sl a.E p s):gB b a p=true↔p.l=a.h∧Sl (val b) a s:=by
 have q1:=val_sub ha.h.pos ha.l.pos h3
 have q2:=val_sub hp.e.pos ha.e.pos (Rat.le_of_lt h2)
 have q3:=val_sub hp.h.pos hp.l.pos h4
 have q4:=val_sub ha.e.pos hb.pos h1
 have c1:=subp_cop ha.h.pos ha.l.pos
 have c2:=subp_cop hp.e.pos ha.e.pos
 have c3:=subp_cop hp.h.pos hp.l.pos
 have c4:=subp_cop ha.e.pos hb.pos
 have e1:=val_mul c1.pos c2.pos
 have e2:=val_mul c3.pos c4.pos
 rw [q1,q2] at e1
 rw [q3,q4] at e2
 unfold gB
 rw [Bool.and_eq_true,decide_eq_true_eq,decide_eq_true_eq]
 unfold Sl at *
 constructor
 ·rintro ⟨g1,g2⟩
  refine ⟨g1,?_⟩
  have:=congrArg val g2
  rw [e1,e2] at this
  have w:p.E-a.E≠0:=by grind
  have:(a.H-a.L-s*(a.E-val b))*(p.E-a.E)=0:=by grind
  have:=Rat.mul_eq_zero.mp this
  grind
 ·rintro ⟨g1,g2⟩
  refine ⟨g1,val_inj (mulp_cop c1.pos c2.pos) (mulp_cop c3.pos c4.pos) ?_⟩
  rw [e1,e2]
  grind
theorem mg_ok {a p:Pc} (ha:a.Ok) (hp:p.Ok):(a.mg p).Ok:=⟨hp.e,ha.l,hp.h⟩
noncomputable def NG:Nat × Nat→List Pc→Prop
 | _,[]=>True
 | _,[_]=>True
 | b,a::p::r=>gB b a p=false∧NG a.e (p::r)
theorem lean_ng:∀ {b:Nat × Nat} {a:Pc} {r:List Pc},NG b (a::r)→leanGo b a r=a::r
 | b,a,[],h=>rfl
 | b,a,p::r,h=>by
  rw [leanGo,if_neg (by rw [h.1];decide),lean_ng h.2]
theorem go_head:∀ {b:Nat × Nat} {a:Pc} {r:List Pc},Cop b→a.Ok→val b<a.E→a.L≤a.H→Ch a.E r→∃e' h' r',leanGo b a r=⟨e',a.l,h'⟩::r'∧Cop e'∧Cop h'∧a.E≤val e'∧a.L≤val h'∧∀s,Sl (val b) a s→val h'-a.L=s*(val e'-val b)
 | b,a,[],hb,ha,h1,h3,_=>⟨a.e,a.h,[],rfl,ha.e,ha.h,Rat.le_refl,h3,fun s hs=>hs⟩
 | b,a,p::r,hb,ha,h1,h3,⟨hp,h2,h4,hr⟩=>by
  rw [leanGo]
  by_cases g:gB b a p=true
  ·rw [if_pos g]
   obtain ⟨s,hs⟩:=Sl.ex h2
   obtain ⟨g1,g2⟩:=(gB_iff hb ha hp (Rat.le_of_lt h1) h2 h3 h4 hs).mp g
   have ev:p.L=a.H:=by unfold Pc.L Pc.H;rw [g1]
   obtain ⟨e',h',r',k1,k2,k3,k4,k5,k6⟩:=go_head (a:=a.mg p) hb (mg_ok ha hp) (by show val b<p.E;grind) (by show a.L≤p.H;grind) hr
   refine ⟨e',h',r',k1,k2,k3,?_,k5,fun t ht=>?_⟩
   ·show a.E≤val e'
    have:p.E≤val e':=k4
    grind
   ·refine k6 t ?_
    unfold Sl at *
    show p.H-a.L=t*(p.E-val b)
    have:(s-t)*(a.E-val b)=0:=by grind
    have:=Rat.mul_eq_zero.mp this
    grind
  ·rw [if_neg g]
   exact ⟨a.e,a.h,_,rfl,ha.e,ha.h,Rat.le_refl,h3,fun s hs=>hs⟩
theorem go_ng:∀ {b:Nat × Nat} {a:Pc} {r:List Pc},Cop b→a.Ok→val b≤a.E→a.L≤a.H→Ch a.E r→NG b (leanGo b a r)
 | b,a,[],hb,ha,h1,h3,_=>trivial
 | b,a,p::r,hb,ha,h1,h3,⟨hp,h2,h4,hr⟩=>by
  rw [leanGo]
  by_cases g:gB b a p=true
  ·rw [if_pos g]
   obtain ⟨s,hs⟩:=Sl.ex h2
   obtain ⟨g1,g2⟩:=(gB_iff hb ha hp h1 h2 h3 h4 hs).mp g
   have ev:p.L=a.H:=by unfold Pc.L Pc.H;rw [g1]
   exact go_ng hb (mg_ok ha hp) (by show val b≤p.E;grind) (by show a.L≤p.H;grind) hr
  ·rw [if_neg g]
   have ng:=go_ng (b:=a.e) (a:=p) ha.e hp (Rat.le_of_lt h2) h4 hr
   obtain ⟨e',h',r',k1,k2,k3,k4,k5,k6⟩:=go_head (b:=a.e) (a:=p) ha.e hp h2 h4 hr
   rw [k1] at ng ⊢
   refine ⟨?_,ng⟩
   rw [Bool.eq_false_iff]
   intro z
   obtain ⟨s,hs⟩:=Sl.ex h2
   have hs':Sl a.E ⟨e',p.l,h'⟩ s:=k6 s hs
   obtain ⟨z1,z2⟩:=(gB_iff (p:=⟨e',p.l,h'⟩) hb ha ⟨k2,hp.l,k3⟩ h1 (show a.E<val e' by grind) h3 k5 hs').mp z
   exact g ((gB_iff hb ha hp h1 h2 h3 h4 hs).mpr ⟨z1,z2⟩)
inductive Part:Nat × Nat→List Pc→List Pc→Prop
 | nil {b}:Part b [] []
 | keep {b p r' r}:Part p.e r' r→Part b (p::r') (p::r)
 | cut {b p m c s r' r}:Cop m→Cop c→val b<val m→val m<p.E→p.L≤val c→val c≤p.H→Sl (val b) p s→val c-p.L=s*(val m-val b)→p.H-val c=s*(p.E-val m)→Part p.e r' r→Part b (⟨m,p.l,c⟩::⟨p.e,c,p.h⟩::r') (p::r)
noncomputable def cm (b:Rat):List Pc→Rat→Option Rat
 | [],_=>none
 | p::r,t=>if t≤p.E then some (if b=p.E then p.L else p.L+(p.H-p.L)*((t-b)/(p.E-b))) else cm p.E r t
theorem cm_mg {b:Rat} {a p:Pc} {r:List Pc} {t s:Rat} (h1:b≤a.E) (h2:a.E<p.E) (h0:b=a.E→a.L=a.H) (hl:p.L=a.H) (hs:Sl a.E p s) (ha:Sl b a s) (ht:b≤t):cm b (a.mg p::r) t=cm b (a::p::r) t:=by
 unfold Sl at *
 simp only [cm]
 have hb:b<p.E:=by grind
 by_cases t1:t≤p.E
 ·rw [if_pos t1,if_neg (show ¬b=p.E by grind)]
  by_cases t2:t≤a.E
  ·rw [if_pos t2]
   by_cases z:b=a.E
   ·rw [if_pos z]
    have:t=b:=by grind
    subst this
    congr 1
    grind
   ·rw [if_neg z]
    congr 1
    have:p.H-a.L=s*(p.E-b):=by grind
    have e1:(p.H-a.L)*((t-b)/(p.E-b))=s*(t-b):=by grind
    have e2:(a.H-a.L)*((t-b)/(a.E-b))=s*(t-b):=by grind
    rw [e1,e2]
  ·rw [if_neg t2,if_pos t1,if_neg (show ¬a.E=p.E by grind)]
   congr 1
   have:p.H-a.L=s*(p.E-b):=by grind
   have e1:(p.H-a.L)*((t-b)/(p.E-b))=s*(t-b):=by grind
   have e2:(p.H-p.L)*((t-a.E)/(p.E-a.E))=s*(t-a.E):=by grind
   rw [e1,e2]
   grind
 ·rw [if_neg t1,if_neg (show ¬t≤a.E by grind),if_neg t1]
theorem cm_go:∀ {r:List Pc} {b:Nat × Nat} {a:Pc} {t:Rat},Cop b→a.Ok→val b≤a.E→(val b=a.E→a.L=a.H)→a.L≤a.H→Ch a.E r→val b≤t→cm (val b) (leanGo b a r) t=cm (val b) (a::r) t
 | [],b,a,t,hb,ha,h1,h0,h3,_,ht=>rfl
 | p::r,b,a,t,hb,ha,h1,h0,h3,⟨hp,h2,h4,hr⟩,ht=>by
  rw [leanGo]
  by_cases g:gB b a p=true
  ·rw [if_pos g]
   obtain ⟨s,hs⟩:=Sl.ex h2
   obtain ⟨g1,g2⟩:=(gB_iff hb ha hp h1 h2 h3 h4 hs).mp g
   have ev:p.L=a.H:=by unfold Pc.L Pc.H;rw [g1]
   rw [cm_go hb (mg_ok ha hp) (by show val b≤p.E;grind) (by show val b=p.E→a.L=p.H;grind) (by show a.L≤p.H;grind) hr ht]
   exact cm_mg h1 h2 h0 ev hs g2 ht
  ·rw [if_neg g]
   by_cases t1:t≤a.E
   ·simp only [cm,if_pos t1]
   ·have e1:∀X:List Pc,cm (val b) (a::X) t=cm a.E X t:=fun X=>by simp only [cm,if_neg t1]
    rw [e1,e1]
    exact cm_go ha.e hp (Rat.le_of_lt h2) (fun z=>by grind) h4 hr (by grind)
noncomputable def Rt (b hh:Rat):List Pc→Prop
 | []=>True
 | p::r=>p.Ok∧b<p.E∧hh≤p.L∧p.L≤p.H∧p.E≤p.H∧Rt p.E p.H r
theorem Rt.ch:∀ {r:List Pc} {b hh:Rat},Rt b hh r→Ch b r
 | [],_,_,_=>trivial
 | p::r,b,hh,⟨h1,h2,h3,h4,h5,h6⟩=>⟨h1,h2,h4,h6.ch⟩
noncomputable def RtF:List Pc→Prop
 | []=>True
 | p::r=>p.Ok∧p.L≤p.H∧p.E≤p.H∧(0=p.E→p.L=p.H)∧Rt p.E p.H r
theorem go_rt:∀ {r:List Pc} {b:Nat × Nat} {a:Pc} {hh:Rat},Cop b→a.Ok→val b<a.E→hh≤a.L→a.L≤a.H→a.E≤a.H→Rt a.E a.H r→Rt (val b) hh (leanGo b a r)
 | [],b,a,hh,hb,ha,h1,h2,h3,h4,_=>⟨ha,h1,h2,h3,h4,trivial⟩
 | p::r,b,a,hh,hb,ha,h1,h2,h3,h4,⟨hp,k1,k2,k3,k4,hr⟩=>by
  rw [leanGo]
  by_cases g:gB b a p=true
  ·rw [if_pos g]
   exact go_rt hb (mg_ok ha hp) (by show val b<p.E;grind) h2 (by show a.L≤p.H;grind) k4 hr
  ·rw [if_neg g]
   exact ⟨ha,h1,h2,h3,h4,go_rt ha.e hp k1 k2 k3 k4 hr⟩
theorem cop01:Cop (0,1):=⟨by decide,by decide⟩
theorem go_rtF:∀ {r:List Pc} {a:Pc},a.Ok→a.L≤a.H→a.E≤a.H→(0=a.E→a.L=a.H)→Rt a.E a.H r→RtF (leanGo (0,1) a r)
 | [],a,ha,h1,h2,h3,_=>⟨ha,h1,h2,h3,trivial⟩
 | p::r,a,ha,h1,h2,h3,⟨hp,k1,k2,k3,k4,hr⟩=>by
  have e0:0≤a.E:=val_nn ha.e.pos
  rw [leanGo]
  by_cases g:gB (0,1) a p=true
  ·rw [if_pos g]
   exact go_rtF (mg_ok ha hp) (by show a.L≤p.H;grind) k4 (by show 0=p.E→a.L=p.H;grind) hr
  ·rw [if_neg g]
   exact ⟨ha,h1,h2,h3,go_rt ha.e hp k1 k2 k3 k4 hr⟩
theorem leanF_rt {L:List Pc} (h:RtF L):RtF (leanF L):=by
 cases L with
 | nil=>trivial
 | cons a r=>exact go_rtF h.1 h.2.1 h.2.2.1 h.2.2.2.1 h.2.2.2.2
theorem leanF_ng {L:List Pc} (h:RtF L):NG (0,1) (leanF L):=by
 cases L with
 | nil=>trivial
 | cons a r =>
  have e0:0≤a.E:=val_nn h.1.e.pos
  exact go_ng cop01 h.1 (by rw [val_nought];exact e0) h.2.1 h.2.2.2.2.ch
theorem leanF_id {L:List Pc} (h:NG (0,1) L):leanF L=L:=by
 cases L with
 | nil=>rfl
 | cons a r=>exact lean_ng h
theorem leanF_cm {L:List Pc} {t:Rat} (h:RtF L) (ht:0≤t):cm 0 (leanF L) t=cm 0 L t:=by
 cases L with
 | nil=>rfl
 | cons a r =>
  have e0:0≤a.E:=val_nn h.1.e.pos
  have:=cm_go (t:=t) cop01 h.1 (by rw [val_nought];exact e0) (by rw [val_nought];exact h.2.2.2.1) h.2.1 h.2.2.2.2.ch (by rw [val_nought];exact ht)
  rw [val_nought] at this
  exact this
theorem mono_law {as st Q Q'} (h:∀v st,Q v st→Q' v st) (q:spLaw as st Q):spLaw as st Q':=by obtain ⟨n,e,h1,q⟩:=q;exact ⟨n,e,h1,fun z=>h _ _ (q z)⟩
theorem len_law {as st Q} (q:spLaw as st Q):as.length=1:=by obtain ⟨n,rfl,_⟩:=q;rfl
noncomputable abbrev pcV (p:Pc):PV:=.tup [fr p.e,fr p.l,fr p.h]
noncomputable abbrev rowV (L:List Pc):PV:=.tup (L.map pcV)
structure Pc.Sz (k:Nat) (p:Pc):Prop where
 e:My.Sz k p.e
 l:My.Sz k p.l
 h:My.Sz k p.h
noncomputable def SzL (k:Nat) (L:List Pc):Prop:=∀p∈L,p.Sz k
theorem Pc.Sz.mono {j k:Nat} {p:Pc} (h:p.Sz j) (hk:j≤k):p.Sz k:=⟨h.e.mono hk,h.l.mono hk,h.h.mono hk⟩
theorem SzL.mono {j k:Nat} {L:List Pc} (h:SzL j L) (hk:j≤k):SzL k L:=fun p hp=>(h p hp).mono hk
noncomputable def LOk:List Pc→Prop
 | []=>True
 | p::r=>p.Ok∧p.L≤p.H∧Ch p.E r
theorem RtF.lok {L:List Pc} (h:RtF L):LOk L:=by
 cases L with
 | nil=>trivial
 | cons a r=>exact ⟨h.1,h.2.1,h.2.2.2.2.ch⟩
noncomputable abbrev Un3:=Nat × Nat × Nat
noncomputable abbrev uV (u:Un3):PV:=.tup [.int u.1,.int u.2.1,.int u.2.2]
noncomputable def RU (b hh:Nat):List Un3→Prop
 | []=>True
 | u::r=>b<u.1∧hh≤u.2.1∧u.2.1≤u.2.2∧u.1≤u.2.2∧RU u.1 u.2.2 r
noncomputable def RUF:List Un3→Prop
 | []=>True
 | u::r=>u.2.1≤u.2.2∧u.1≤u.2.2∧(u.1=0→u.2.1=u.2.2)∧RU u.1 u.2.2 r
noncomputable def BdU (N:Nat) (U:List Un3):Prop:=∀u∈U,u.1≤N∧u.2.1≤N∧u.2.2≤N
structure App (U:List Un3) (u:Un3):Prop where
 fst:U=[]→u.2.1≤u.2.2∧u.1≤u.2.2∧(u.1=0→u.2.1=u.2.2)
 nxt:∀v,U.getLast?=some v→v.1<u.1∧v.2.2≤u.2.1∧u.2.1≤u.2.2∧u.1≤u.2.2
noncomputable abbrev pcOf (d:Nat) (u:Un3):Pc:=⟨lowp u.1 d,lowp u.2.1 d,lowp u.2.2 d⟩
noncomputable abbrev Mo (s:FSp):Prop:=∀ {as:List PV} {st:AH} {Q Q':EK},(∀v st,Q v st→Q' v st)→s as st Q→s as st Q'
noncomputable abbrev Ln (s:FSp) (n:Nat):Prop:=∀ {as:List PV} {st:AH} {Q:EK},s as st Q→as.length=n
local macro_rules | `(tactic| walk_at "MO")=>`(tactic| (intro as st Q Q' h q;repeat (first|exact h _ _ q|(obtain ⟨a,q⟩:=q;first|refine Exists.intro a ?_|refine And.intro a ?_)|(intro a;replace q:=q a))))
local macro_rules | `(tactic| walk_at "LN")=>`(tactic| (intro as st Q q;repeat (obtain ⟨a,q⟩:=q;try exact congrArg List.length a)))
noncomputable def sp_goes_on:FSp:=fun as st Q=>∃b a p,as=[fr b,pcV a,pcV p]∧Sz 1400 b∧a.Sz 1400∧p.Sz 1400∧val b≤a.E∧a.E<p.E∧a.L≤a.H∧p.L≤p.H∧Q (.bl (gB b a p)) st
theorem mono_goes_on:Mo sp_goes_on:=by walk_at "MO"
theorem len_goes_on:Ln sp_goes_on 3:=by walk_at "LN"
noncomputable def sp_lean:FSp:=fun as st Q=>∃L,as=[rowV L]∧SzL 1400 L∧LOk L∧L.length<20000∧Q (rowV (leanF L)) st
theorem mono_lean:Mo sp_lean:=by walk_at "MO"
theorem len_lean:Ln sp_lean 1:=by walk_at "LN"
noncomputable def optV:Option (Nat × Nat)→PV
 | none=>.non
 | some p=>fr p
noncomputable def bgx (L:List Pc):Nat→Nat × Nat
 | 0=>(0,1)
 | i+1=>((L[i]?).map Pc.e).getD (0,1)
noncomputable def stB (L:List Pc):Bool:=@decide (NG (0,1) L) (Classical.propDecidable _)
noncomputable def sp_coming:FSp:=fun as st Q=>∃(j m:Nat) (L:List Pc) (t:Nat × Nat),as=[rowV L,fr t]∧(1≤j∧m+4*j+2≤2900)∧RtF L∧SzL j L∧Cop t∧Sz m t∧L.length<10000∧∀o,(∀p,o=some p→Cop p∧Sz (m+4*j+2) p)→cm 0 L (val t)=o.map val→Q (optV o) st
theorem mono_coming:Mo sp_coming:=by walk_at "MO"
theorem len_coming:Ln sp_coming 2:=by walk_at "LN"
noncomputable def sp_crosswise:FSp:=fun as st Q=>∃p q:Nat × Nat,as=[fr p,fr q]∧Sz 3000 p∧Sz 3000 q∧Q (.int ((p.1:Int)*q.2-q.1*p.2)) st
theorem mono_crosswise:Mo sp_crosswise:=by walk_at "MO"
theorem len_crosswise:Ln sp_crosswise 2:=by walk_at "LN"
noncomputable def sp_on_straight:FSp:=fun as st Q=>∃(j m:Nat) (nx ny fx fy x:Nat × Nat),as=[.tup [fr nx,fr ny],.tup [fr fx,fr fy],fr x]∧(1≤j∧m+4*j+2≤2900)∧(Sz j nx∧Sz j ny∧Sz j fx∧Sz j fy∧Sz m x)∧(val nx<val fx∧val nx≤val x∧val x≤val fx)∧∀r,Cop r→Sz (m+4*j+2) r→val r=val ny+(val fy-val ny)*((val x-val nx)/(val fx-val nx))→Q (fr r) st
theorem mono_on_straight:Mo sp_on_straight:=by walk_at "MO"
theorem len_on_straight:Ln sp_on_straight 3:=by walk_at "LN"
noncomputable def sp_how_many:FSp:=fun _ _ _=>False
noncomputable def sp_beginning_of:FSp:=fun as st Q=>∃(L:List Pc) (i:Nat),as=[rowV L,.int i]∧i≤L.length∧Q (fr (bgx L i)) st
theorem mono_beginning_of:Mo sp_beginning_of:=by walk_at "MO"
theorem len_beginning_of:Ln sp_beginning_of 2:=by walk_at "LN"
noncomputable def sp_height:FSp:=fun as st Q=>∃(j m:Nat) (L:List Pc) (i:Nat) (p:Pc) (t:Nat × Nat),as=[rowV L,.int i,fr t]∧(1≤j∧m+4*j+2≤2900)∧RtF L∧SzL j L∧L[i]?=some p∧Cop t∧Sz m t∧val (bgx L i)≤val t∧val t≤p.E∧∀r,Cop r→Sz (m+4*j+2) r→val r=(if val (bgx L i)=p.E then p.L else p.L+(p.H-p.L)*((val t-val (bgx L i))/(p.E-val (bgx L i))))→Q (fr r) st
theorem mono_height:Mo sp_height:=by walk_at "MO"
theorem len_height:Ln sp_height 3:=by walk_at "LN"
noncomputable def sp_last:FSp:=fun as st Q=>∃L,as=[rowV L]∧Q (optV (L.getLast?.map Pc.e)) st
theorem mono_last:Mo sp_last:=by walk_at "MO"
theorem len_last:Ln sp_last 1:=by walk_at "LN"
noncomputable def sp__law_take:FSp:=fun as st Q=>∃(p:Nat) (many:Int),as=[.ref p,.int many]∧Pot st p∧0<many∧many<2 ^ 200∧∀x st',0≤x→x<many→Gr st p st'→Q (.int x) st'
theorem mono__law_take:Mo sp__law_take:=by walk_at "MO"
theorem len__law_take:Ln sp__law_take 2:=by walk_at "LN"
noncomputable def sp__law_pot:FSp:=fun as st Q=>∃(ns:List Int) (k:Nat),as=[.rdl (ns.map .int),.int k]∧k<9∧∀q r,PK q r→Q (.ref st.length) (st++[pc q r])
theorem mono__law_pot:Mo sp__law_pot:=by walk_at "MO"
theorem len__law_pot:Ln sp__law_pot 2:=by walk_at "LN"
noncomputable def sp__law_moment:FSp:=fun as st Q=>∃n d:Nat,as=[.int n,.int d]∧0<d∧d<2 ^ 8000∧Q (low n d) st
theorem mono__law_moment:Mo sp__law_moment:=by walk_at "MO"
theorem len__law_moment:Ln sp__law_moment 2:=by walk_at "LN"
noncomputable abbrev iV (n:Nat):PV:=.int n
noncomputable def sp__law_row:FSp:=fun as st Q=>∃(p n:Nat) (hs:List Nat) (B:Nat),as=[.ref p,.ref n]∧Pot st p∧n≠p∧st[n]?=some (.lst (hs.map iV))∧(∀h∈hs,h≤B)∧hs.length≤200∧B≤10 ^ 12∧∀(U:List Un3) (n':Nat) (st':AH),Gr st p st'→st.length≤n'→st'[n']?=some (.lst (U.map uV))→RUF U→U.length≤20→BdU (B+4*10 ^ 10) U→Q (.ref n') st'
theorem mono__law_row:Mo sp__law_row:=by walk_at "MO"
theorem len__law_row:Ln sp__law_row 2:=by walk_at "LN"
noncomputable def sp__law_lean:FSp:=fun as st Q=>∃(n:Nat) (U:List Un3),as=[.ref n]∧st[n]?=some (.lst (U.map uV))∧RUF U∧U.length≤20∧BdU (2 ^ 37) U∧∀(n':Nat) (V:List Un3) (g:AH),(st++g)[n']?=some (.lst (V.map uV))→(∀d,0<d→V.map (pcOf d)=leanF (U.map (pcOf d)))→V.length≤20→Q (.ref n') (st++g)
theorem mono__law_lean:Mo sp__law_lean:=by walk_at "MO"
theorem len__law_lean:Ln sp__law_lean 1:=by walk_at "LN"
noncomputable def sp__law_part:FSp:=fun as st Q=>∃p:Nat,as=[.ref p]∧Pot st p∧∀(d:Nat) st',0<d→d≤10 ^ 11→Gr st p st'→Q (.int d) st'
theorem mono__law_part:Mo sp__law_part:=by walk_at "MO"
theorem len__law_part:Ln sp__law_part 1:=by walk_at "LN"
noncomputable def sp__law_stair:FSp:=fun as st Q=>∃(n d:Nat) (U:List Un3),as=[.ref n,.int d]∧st[n]?=some (.lst (U.map uV))∧RUF U∧U.length≤20∧BdU (2 ^ 37) U∧0<d∧d≤10 ^ 11∧Q (rowV (leanF (U.map (pcOf d)))) st
theorem mono__law_stair:Mo sp__law_stair:=by walk_at "MO"
theorem len__law_stair:Ln sp__law_stair 2:=by walk_at "LN"
noncomputable def sp__law_hints:FSp:=fun as st Q=>∃(n:Nat) (U:List Un3),as=[.ref n]∧st[n]?=some (.lst (U.map uV))∧U.length≤20∧∀(m:Nat) (hs:List Nat) (g:AH),(st++g)[m]?=some (.lst (hs.map iV))→st.length≤m→(∀B,BdU B U→∀h∈hs,h≤B)→hs.length≤60→Q (.ref m) (st++g)
theorem mono__law_hints:Mo sp__law_hints:=by walk_at "MO"
theorem len__law_hints:Ln sp__law_hints 1:=by walk_at "LN"
structure Stz (k n:Nat) (L:List Pc):Prop where
 rt:RtF L
 ng:NG (0,1) L
 sz:SzL k L
 ln:L.length≤n
noncomputable def cmp2 (A B:List Pc) (t:Rat):Option Rat:=(cm 0 A t).bind (cm 0 B)
noncomputable def sp_through:FSp:=fun as st Q=>∃(j:Nat) (M:List Pc) (b:Nat × Nat) (p:Pc),as=[rowV M,fr b,pcV p]∧(1≤j∧j≤250)∧RtF M∧SzL j M∧M.length≤9900∧Cop b∧Sz j b∧p.Ok∧p.Sz j∧val b<p.E∧p.L≤p.H∧∀(R:List Pc) (g:AH) (n:Nat),(st++g)[n]?=some (.lst (R.map pcV))→Ch (val b) R→(∀q∈R,q.E≤p.E)→SzL (5*j+2) R→R.length≤M.length+1→(∀t,val b<t→t≤p.E→cm (val b) R t=cm 0 M (p.L+(p.H-p.L)*((t-val b)/(p.E-val b))))→Q (.ref n) (st++g)
theorem mono_through:Mo sp_through:=by walk_at "MO"
theorem len_through:Ln sp_through 3:=by walk_at "LN"
noncomputable def sp_then:FSp:=fun as st Q=>∃(j:Nat) (A B:List Pc),as=[rowV A,rowV B]∧(1≤j∧j≤250)∧RtF A∧SzL j A∧RtF B∧SzL j B∧(A.length+1)*(B.length+1)≤9900∧∀R,RtF R→NG (0,1) R→SzL (5*j+2) R→R.length≤(A.length+1)*(B.length+1)→(∀t,0≤t→cm 0 R t=cmp2 A B t)→Q (rowV R) st
theorem mono_then:Mo sp_then:=by walk_at "MO"
theorem len_then:Ln sp_then 2:=by walk_at "LN"
noncomputable def sp_is_piece:FSp:=fun as st Q=>∃p:Pc,as=[pcV p]∧p.Ok∧Q (.bl true) st
theorem mono_is_piece:Mo sp_is_piece:=by walk_at "MO"
theorem len_is_piece:Ln sp_is_piece 1:=by walk_at "LN"
noncomputable def sp_is_right_alone:FSp:=fun as st Q=>∃p:Pc,as=[pcV p]∧p.Sz 1400∧p.L≤p.H∧p.E≤p.H∧Q (.bl true) st
theorem mono_is_right_alone:Mo sp_is_right_alone:=by walk_at "MO"
theorem len_is_right_alone:Ln sp_is_right_alone 1:=by walk_at "LN"
noncomputable def sp_is_right_first:FSp:=fun as st Q=>∃p:Pc,as=[pcV p]∧p.Ok∧(0=p.E→p.L=p.H)∧Q (.bl true) st
theorem mono_is_right_first:Mo sp_is_right_first:=by walk_at "MO"
theorem len_is_right_first:Ln sp_is_right_first 1:=by walk_at "LN"
noncomputable def sp_is_right_behind:FSp:=fun as st Q=>∃a p:Pc,as=[pcV a,pcV p]∧a.Sz 1400∧p.Sz 1400∧a.E<p.E∧a.H≤p.L∧Q (.bl true) st
theorem mono_is_right_behind:Mo sp_is_right_behind:=by walk_at "MO"
theorem len_is_right_behind:Ln sp_is_right_behind 2:=by walk_at "LN"
noncomputable def sp_is_row:FSp:=fun as st Q=>∃L:List Pc,as=[rowV L]∧RtF L∧SzL 1400 L∧L.length<10000∧Q (.bl true) st
theorem mono_is_row:Mo sp_is_row:=by walk_at "MO"
theorem len_is_row:Ln sp_is_row 1:=by walk_at "LN"
noncomputable def sp_is_stair:FSp:=fun as st Q=>∃L:List Pc,as=[rowV L]∧RtF L∧NG (0,1) L∧SzL 1400 L∧L.length<10000∧Q (.bl true) st
theorem mono_is_stair:Mo sp_is_stair:=by walk_at "MO"
theorem len_is_stair:Ln sp_is_stair 1:=by walk_at "LN"
noncomputable def sp__law_on:FSp:=fun as st Q=>∃(j m:Nat) (L:List Pc) (t:Nat × Nat),as=[rowV L,fr t]∧(1≤j∧m+4*j+2≤2900)∧RtF L∧SzL j L∧Sz m t∧L.length<10000∧∀o,(∀p,o=some p→Sz (m+4*j+2) p)→cm 0 L (val t)=o.map val→Q (optV o) st
theorem mono__law_on:Mo sp__law_on:=by walk_at "MO"
theorem len__law_on:Ln sp__law_on 2:=by walk_at "LN"
noncomputable def sp__law_alike:FSp:=fun as st Q=>∃(o o':Option (Nat × Nat)),as=[optV o,optV o']∧(∀p,o=some p→Sz 2900 p)∧(∀p,o'=some p→Sz 2900 p)∧o.map val=o'.map val∧Q (.bl true) st
theorem mono__law_alike:Mo sp__law_alike:=by walk_at "MO"
theorem len__law_alike:Ln sp__law_alike 2:=by walk_at "LN"
noncomputable def sp__law_middles:FSp:=fun as st Q=>∃(j:Nat) (L:List Pc),as=[rowV L]∧(1≤j∧j≤300)∧RtF L∧SzL j L∧L.length<10000∧∀(T:List (Nat × Nat)) (g:AH) (n:Nat),(st++g)[n]?=some (.lst (T.map fr))→(∀t∈T,Sz (2*j+3) t)→T.length≤2*L.length+2→Q (.ref n) (st++g)
theorem mono__law_middles:Mo sp__law_middles:=by walk_at "MO"
theorem len__law_middles:Ln sp__law_middles 1:=by walk_at "LN"
noncomputable def lb (y:Rat):Rat→Option Rat→List Pc→Option Rat
 | _,acc,[]=>acc
 | b,acc,p::r=>lb y p.E (if p.H≤y then some p.E else if p.L≤y then some (b+(y-p.L)/(p.H-p.L)*(p.E-b)) else acc) r
noncomputable def sp_latest:FSp:=fun as st Q=>∃(j m:Nat) (L:List Pc) (y:Nat × Nat),as=[rowV L,fr y]∧(1≤j∧m+4*j+2≤2900)∧RtF L∧SzL j L∧Cop y∧Sz m y∧L.length<10000∧∀o,(∀p,o=some p→Cop p∧Sz (m+4*j+2) p)→lb (val y) 0 none L=o.map val→Q (optV o) st
theorem mono_latest:Mo sp_latest:=by walk_at "MO"
theorem len_latest:Ln sp_latest 2:=by walk_at "LN"
noncomputable def sp__law_due:FSp:=fun as st Q=>∃(m:Nat) (A B:List Pc) (t:Nat × Nat),as=[rowV A,rowV B,fr t]∧m≤2000∧Stz 40 20 A∧Stz 40 20 B∧Sz m t∧∀o,(∀p,o=some p→Sz (m+400) p)→cmp2 A B (val t)=o.map val→Q (optV o) st
theorem mono__law_due:Mo sp__law_due:=by walk_at "MO"
theorem len__law_due:Ln sp__law_due 3:=by walk_at "LN"
noncomputable def sp__law_right:FSp:=fun as st Q=>∃A B:List Pc,as=[rowV A,rowV B]∧Stz 40 20 A∧Stz 40 20 B∧Q (.bl true) st
theorem mono__law_right:Mo sp__law_right:=by walk_at "MO"
theorem len__law_right:Ln sp__law_right 2:=by walk_at "LN"
noncomputable abbrev gv_NOUGHT:PV:=(.tup [(.int 0),(.int 1)])
noncomputable def Γ:Nat→FSp
 | 0=>sp_is_whole
 | 1=>sp_common_divisor
 | 2=>sp_is_fraction
 | 3=>sp_fraction
 | 4=>sp_less
 | 5=>sp_times
 | 6=>sp_is_below
 | 7=>sp_crosswise
 | 8=>sp_on_straight
 | 9=>sp_is_piece
 | 10=>sp_is_right_alone
 | 11=>sp_is_right_first
 | 12=>sp_is_right_behind
 | 13=>sp_is_row
 | 14=>sp_goes_on
 | 15=>sp_lean
 | 16=>sp_is_stair
 | 17=>sp_how_many
 | 18=>sp_beginning_of
 | 19=>sp_height
 | 20=>sp_coming
 | 21=>sp_last
 | 22=>sp_latest
 | 23=>sp_through
 | 24=>sp_then
 | 25=>sp__law_pot
 | 26=>sp__law_take
 | 27=>sp__law_moment
 | 28=>sp__law_row
 | 29=>sp__law_lean
 | 30=>sp__law_part
 | 31=>sp__law_stair
 | 32=>sp__law_hints
 | 33=>sp__law_on
 | 34=>sp__law_alike
 | 35=>sp__law_middles
 | 36=>sp__law_due
 | 37=>sp__law_right
 | 38=>spLaw
 | _=>fun _ _ _=>False
theorem Γ_0:Γ 0=sp_is_whole:=id rfl
theorem Γ_1:Γ 1=sp_common_divisor:=id rfl
theorem Γ_2:Γ 2=sp_is_fraction:=id rfl
theorem Γ_3:Γ 3=sp_fraction:=id rfl
theorem Γ_4:Γ 4=sp_less:=id rfl
theorem Γ_5:Γ 5=sp_times:=id rfl
theorem Γ_6:Γ 6=sp_is_below:=id rfl
theorem Γ_7:Γ 7=sp_crosswise:=id rfl
theorem Γ_8:Γ 8=sp_on_straight:=id rfl
theorem Γ_9:Γ 9=sp_is_piece:=id rfl
theorem Γ_10:Γ 10=sp_is_right_alone:=id rfl
theorem Γ_11:Γ 11=sp_is_right_first:=id rfl
theorem Γ_12:Γ 12=sp_is_right_behind:=id rfl
theorem Γ_13:Γ 13=sp_is_row:=id rfl
theorem Γ_14:Γ 14=sp_goes_on:=id rfl
theorem Γ_15:Γ 15=sp_lean:=id rfl
theorem Γ_16:Γ 16=sp_is_stair:=id rfl
theorem Γ_17:Γ 17=sp_how_many:=id rfl
theorem Γ_18:Γ 18=sp_beginning_of:=id rfl
theorem Γ_19:Γ 19=sp_height:=id rfl
theorem Γ_20:Γ 20=sp_coming:=id rfl
theorem Γ_21:Γ 21=sp_last:=id rfl
theorem Γ_22:Γ 22=sp_latest:=id rfl
theorem Γ_23:Γ 23=sp_through:=id rfl
theorem Γ_24:Γ 24=sp_then:=id rfl
theorem Γ_25:Γ 25=sp__law_pot:=id rfl
theorem Γ_26:Γ 26=sp__law_take:=id rfl
theorem Γ_27:Γ 27=sp__law_moment:=id rfl
theorem Γ_28:Γ 28=sp__law_row:=id rfl
theorem Γ_29:Γ 29=sp__law_lean:=id rfl
theorem Γ_30:Γ 30=sp__law_part:=id rfl
theorem Γ_31:Γ 31=sp__law_stair:=id rfl
theorem Γ_32:Γ 32=sp__law_hints:=id rfl
theorem Γ_33:Γ 33=sp__law_on:=id rfl
theorem Γ_34:Γ 34=sp__law_alike:=id rfl
theorem Γ_35:Γ 35=sp__law_middles:=id rfl
theorem Γ_36:Γ 36=sp__law_due:=id rfl
theorem Γ_37:Γ 37=sp__law_right:=id rfl
theorem Γ_38:Γ 38=spLaw:=id rfl
theorem Γm:GMono Γ:=by
 intro f vs st Q Q' h q
 match f,q with
 | 0,q=>exact mono_is_whole (st:=st) h q
 | 1,q=>exact mono_common_divisor (st:=st) h q
 | 2,q=>exact mono_is_fraction (st:=st) h q
 | 3,q=>exact mono_fraction (st:=st) h q
 | 4,q=>exact mono_less (st:=st) h q
 | 5,q=>exact mono_times (st:=st) h q
 | 6,q=>exact mono_is_below (st:=st) h q
 | 7,q=>exact mono_crosswise (st:=st) h q
 | 8,q=>exact mono_on_straight (st:=st) h q
 | 9,q=>exact mono_is_piece (st:=st) h q
 | 10,q=>exact mono_is_right_alone (st:=st) h q
 | 11,q=>exact mono_is_right_first (st:=st) h q
 | 12,q=>exact mono_is_right_behind (st:=st) h q
 | 13,q=>exact mono_is_row (st:=st) h q
 | 14,q=>exact mono_goes_on (st:=st) h q
 | 15,q=>exact mono_lean (st:=st) h q
 | 16,q=>exact mono_is_stair (st:=st) h q
 | 17,q=>exact (show False from q).elim
 | 18,q=>exact mono_beginning_of (st:=st) h q
 | 19,q=>exact mono_height (st:=st) h q
 | 20,q=>exact mono_coming (st:=st) h q
 | 21,q=>exact mono_last (st:=st) h q
 | 22,q=>exact mono_latest (st:=st) h q
 | 23,q=>exact mono_through (st:=st) h q
 | 24,q=>exact mono_then (st:=st) h q
 | 25,q=>exact mono__law_pot (st:=st) h q
 | 26,q=>exact mono__law_take (st:=st) h q
 | 27,q=>exact mono__law_moment (st:=st) h q
 | 28,q=>exact mono__law_row (st:=st) h q
 | 29,q=>exact mono__law_lean (st:=st) h q
 | 30,q=>exact mono__law_part (st:=st) h q
 | 31,q=>exact mono__law_stair (st:=st) h q
 | 32,q=>exact mono__law_hints (st:=st) h q
 | 33,q=>exact mono__law_on (st:=st) h q
 | 34,q=>exact mono__law_alike (st:=st) h q
 | 35,q=>exact mono__law_middles (st:=st) h q
 | 36,q=>exact mono__law_due (st:=st) h q
 | 37,q=>exact mono__law_right (st:=st) h q
 | 38,q=>exact mono_law (st:=st) h q
 | _+39,q=>exact q.elim
noncomputable def fnsL:List Str:=((["is_whole","common_divisor","is_fraction","fraction","less","times","is_below","crosswise","on_straight","is_piece","is_right_alone","is_right_first","is_right_behind","is_row","goes_on","lean","is_stair","how_many","beginning_of","height","coming","last","latest","through","then","_law_pot","_law_take","_law_moment","_law_row","_law_lean"]:List Str)++(["_law_part","_law_stair","_law_hints","_law_on","_law_alike","_law_middles","_law_due","_law_right","law"]:List Str))
noncomputable def bltL:List Str:=["isinstance","bool","int","len","tuple","all","zip","enumerate","abs","max","divmod","range","min"]
noncomputable def glL:List (Str × PV):=[("NOUGHT",gv_NOUGHT)]
noncomputable abbrev s_is_whole:Stmt:=top 1
theorem sc_is_whole:FnScope ["thing"] ["thing"] (defScope s_is_whole):=⟨rfl,rfl,rfl,by decide +kernel,rfl,by decide +kernel,by decide +kernel⟩
noncomputable def c_is_whole:Cfg:={ N:=["thing"],names:=(defScope s_is_whole).names,fns:=fnsL,lim:=0,blts:=bltL,gl:=glL }
noncomputable def code_is_whole:Ss:=(.cons (.ret (.bop true (.cons (.inst (.var 0) "int") (.cons (.not (.inst (.var 0) "bool")) .nil)))) .nil)
theorem k_is_whole:chkSs c_is_whole code_is_whole (defBody s_is_whole)=true:=by decide +kernel
noncomputable abbrev s_common_divisor:Stmt:=top 2
theorem sc_common_divisor:FnScope ["n","d"] ["n","d"] (defScope s_common_divisor):=⟨rfl,rfl,rfl,by decide +kernel,rfl,by decide +kernel,by decide +kernel⟩
noncomputable def c_common_divisor:Cfg:={ N:=["n","d"],names:=(defScope s_common_divisor).names,fns:=fnsL,lim:=1,blts:=bltL,gl:=glL }
noncomputable def code_common_divisor:Ss:=(.cons (.whileS (.cmp .NotEq (.var 1) (.int 0)) (.cons (.par 0 1 (.var 1) (.bin .Mod (.var 0) (.var 1))) .nil)) (.cons (.ret (.var 0)) .nil))
theorem k_common_divisor:chkSs c_common_divisor code_common_divisor (defBody s_common_divisor)=true:=by decide +kernel
noncomputable abbrev s_is_fraction:Stmt:=top 3
theorem sc_is_fraction:FnScope ["thing","n","d"] ["thing"] (defScope s_is_fraction):=⟨rfl,rfl,rfl,by decide +kernel,rfl,by decide +kernel,by decide +kernel⟩
noncomputable def c_is_fraction:Cfg:={ N:=["thing","n","d"],names:=(defScope s_is_fraction).names,fns:=fnsL,lim:=2,blts:=bltL,gl:=glL }
noncomputable def code_is_fraction:Ss:=(.cons (.ifS (.bop false (.cons (.not (.inst (.var 0) "tuple")) (.cons (.cmp .NotEq (.blt .len (.cons (.var 0) .nil)) (.int 2)) .nil))) (.cons (.ret (.bl false)) .nil) .nil) (.cons (.set (.tup (.cons (.name 1) (.cons (.name 2) .nil))) (.var 0)) (.cons (.ifS (.bop false (.cons (.not (.call 0 (.cons (.var 1) .nil))) (.cons (.not (.call 0 (.cons (.var 2) .nil))) .nil))) (.cons (.ret (.bl false)) .nil) .nil) (.cons (.ret (.bop true (.cons (.cmp .GtE (.var 1) (.int 0)) (.cons (.cmp .GtE (.var 2) (.int 1)) (.cons (.cmp .Eq (.call 1 (.cons (.var 1) (.cons (.var 2) .nil))) (.int 1)) .nil))))) .nil))))
theorem k_is_fraction:chkSs c_is_fraction code_is_fraction (defBody s_is_fraction)=true:=by decide +kernel
noncomputable abbrev s_fraction:Stmt:=top 4
theorem sc_fraction:FnScope ["n","d","divisor"] ["n","d"] (defScope s_fraction):=⟨rfl,rfl,rfl,by decide +kernel,rfl,by decide +kernel,by decide +kernel⟩
noncomputable def c_fraction:Cfg:={ N:=["n","d","divisor"],names:=(defScope s_fraction).names,fns:=fnsL,lim:=3,blts:=bltL,gl:=glL }
noncomputable def code_fraction:Ss:=(.cons (.set (.name 2) (.call 1 (.cons (.var 0) (.cons (.var 1) .nil)))) (.cons (.ret (.tup (.cons (.bin .FloorDiv (.var 0) (.var 2)) (.cons (.bin .FloorDiv (.var 1) (.var 2)) .nil)))) .nil))
theorem k_fraction:chkSs c_fraction code_fraction (defBody s_fraction)=true:=by decide +kernel
noncomputable abbrev s_less:Stmt:=top 5
theorem sc_less:FnScope ["one","other"] ["one","other"] (defScope s_less):=⟨rfl,rfl,rfl,by decide +kernel,rfl,by decide +kernel,by decide +kernel⟩
noncomputable def c_less:Cfg:={ N:=["one","other"],names:=(defScope s_less).names,fns:=fnsL,lim:=4,blts:=bltL,gl:=glL }
noncomputable def code_less:Ss:=(.cons (.ret (.call 3 (.cons (.bin .Sub (.bin .Mult (.ix (.var 0) (.int 0)) (.ix (.var 1) (.int 1))) (.bin .Mult (.ix (.var 1) (.int 0)) (.ix (.var 0) (.int 1)))) (.cons (.bin .Mult (.ix (.var 0) (.int 1)) (.ix (.var 1) (.int 1))) .nil)))) .nil)
theorem k_less:chkSs c_less code_less (defBody s_less)=true:=by decide +kernel
noncomputable abbrev s_times:Stmt:=top 6
theorem sc_times:FnScope ["one","other"] ["one","other"] (defScope s_times):=⟨rfl,rfl,rfl,by decide +kernel,rfl,by decide +kernel,by decide +kernel⟩
noncomputable def c_times:Cfg:={ N:=["one","other"],names:=(defScope s_times).names,fns:=fnsL,lim:=5,blts:=bltL,gl:=glL }
noncomputable def code_times:Ss:=(.cons (.ret (.call 3 (.cons (.bin .Mult (.ix (.var 0) (.int 0)) (.ix (.var 1) (.int 0))) (.cons (.bin .Mult (.ix (.var 0) (.int 1)) (.ix (.var 1) (.int 1))) .nil)))) .nil)
theorem k_times:chkSs c_times code_times (defBody s_times)=true:=by decide +kernel
noncomputable abbrev s_is_below:Stmt:=top 7
theorem sc_is_below:FnScope ["one","other"] ["one","other"] (defScope s_is_below):=⟨rfl,rfl,rfl,by decide +kernel,rfl,by decide +kernel,by decide +kernel⟩
noncomputable def c_is_below:Cfg:={ N:=["one","other"],names:=(defScope s_is_below).names,fns:=fnsL,lim:=6,blts:=bltL,gl:=glL }
noncomputable def code_is_below:Ss:=(.cons (.ret (.cmp .Lt (.bin .Mult (.ix (.var 0) (.int 0)) (.ix (.var 1) (.int 1))) (.bin .Mult (.ix (.var 1) (.int 0)) (.ix (.var 0) (.int 1))))) .nil)
theorem k_is_below:chkSs c_is_below code_is_below (defBody s_is_below)=true:=by decide +kernel
noncomputable abbrev s_crosswise:Stmt:=top 9
theorem sc_crosswise:FnScope ["one","other"] ["one","other"] (defScope s_crosswise):=⟨rfl,rfl,rfl,by decide +kernel,rfl,by decide +kernel,by decide +kernel⟩
noncomputable def c_crosswise:Cfg:={ N:=["one","other"],names:=(defScope s_crosswise).names,fns:=fnsL,lim:=7,blts:=bltL,gl:=glL }
noncomputable def code_crosswise:Ss:=(.cons (.ret (.bin .Sub (.bin .Mult (.ix (.var 0) (.int 0)) (.ix (.var 1) (.int 1))) (.bin .Mult (.ix (.var 1) (.int 0)) (.ix (.var 0) (.int 1))))) .nil)
theorem k_crosswise:chkSs c_crosswise code_crosswise (defBody s_crosswise)=true:=by decide +kernel
noncomputable abbrev s_on_straight:Stmt:=top 10
theorem sc_on_straight:FnScope ["near","far","x","near_x","near_y","far_x","far_y","done","left","above"] ["near","far","x"] (defScope s_on_straight):=⟨rfl,rfl,rfl,by decide +kernel,rfl,by decide +kernel,by decide +kernel⟩
noncomputable def c_on_straight:Cfg:={ N:=["near","far","x","near_x","near_y","far_x","far_y","done","left","above"],names:=(defScope s_on_straight).names,fns:=fnsL,lim:=8,blts:=bltL,gl:=glL }
noncomputable def code_on_straight:Ss:=(.cons (.set (.tup (.cons (.tup (.cons (.name 3) (.cons (.name 4) .nil))) (.cons (.tup (.cons (.name 5) (.cons (.name 6) .nil))) .nil))) (.tup (.cons (.var 0) (.cons (.var 1) .nil)))) (.cons (.set (.name 7) (.bin .Mult (.call 7 (.cons (.var 2) (.cons (.var 3) .nil))) (.ix (.var 5) (.int 1)))) (.cons (.set (.name 8) (.bin .Mult (.call 7 (.cons (.var 5) (.cons (.var 2) .nil))) (.ix (.var 3) (.int 1)))) (.cons (.set (.name 9) (.bin .Add (.bin .Mult (.bin .Mult (.ix (.var 4) (.int 0)) (.ix (.var 6) (.int 1))) (.var 8)) (.bin .Mult (.bin .Mult (.ix (.var 6) (.int 0)) (.ix (.var 4) (.int 1))) (.var 7)))) (.cons (.ret (.call 3 (.cons (.var 9) (.cons (.bin .Mult (.bin .Mult (.ix (.var 4) (.int 1)) (.ix (.var 6) (.int 1))) (.bin .Add (.var 8) (.var 7))) .nil)))) .nil)))))
theorem k_on_straight:chkSs c_on_straight code_on_straight (defBody s_on_straight)=true:=by decide +kernel
noncomputable abbrev s_is_piece:Stmt:=top 13
theorem sc_is_piece:FnScope ["thing"] ["thing"] (defScope s_is_piece):=⟨rfl,rfl,rfl,by decide +kernel,rfl,by decide +kernel,by decide +kernel⟩
noncomputable def c_is_piece:Cfg:={ N:=["thing"],names:=(defScope s_is_piece).names,fns:=fnsL,lim:=9,blts:=bltL,gl:=glL }
noncomputable def code_is_piece:Ss:=(.cons (.ret (.bop true (.cons (.inst (.var 0) "tuple") (.cons (.cmp .Eq (.blt .len (.cons (.var 0) .nil)) (.int 3)) (.cons (.tmp (.blt .all1 (.cons (.comp (.call 2 (.cons (.var 0) .nil)) (.name 0) (.seq (.var 0)) .nil ["part"] []) .nil))) .nil))))) .nil)
theorem k_is_piece:chkSs c_is_piece code_is_piece (defBody s_is_piece)=true:=by decide +kernel
noncomputable abbrev s_is_right_alone:Stmt:=top 14
theorem sc_is_right_alone:FnScope ["piece","end","low","high"] ["piece"] (defScope s_is_right_alone):=⟨rfl,rfl,rfl,by decide +kernel,rfl,by decide +kernel,by decide +kernel⟩
noncomputable def c_is_right_alone:Cfg:={ N:=["piece","end","low","high"],names:=(defScope s_is_right_alone).names,fns:=fnsL,lim:=10,blts:=bltL,gl:=glL }
noncomputable def code_is_right_alone:Ss:=(.cons (.set (.tup (.cons (.name 1) (.cons (.name 2) (.cons (.name 3) .nil)))) (.var 0)) (.cons (.ret (.bop true (.cons (.not (.call 6 (.cons (.var 3) (.cons (.var 2) .nil)))) (.cons (.not (.call 6 (.cons (.var 3) (.cons (.var 1) .nil)))) .nil)))) .nil))
theorem k_is_right_alone:chkSs c_is_right_alone code_is_right_alone (defBody s_is_right_alone)=true:=by decide +kernel
noncomputable abbrev s_is_right_first:Stmt:=top 15
theorem sc_is_right_first:FnScope ["piece","end","low","high"] ["piece"] (defScope s_is_right_first):=⟨rfl,rfl,rfl,by decide +kernel,rfl,by decide +kernel,by decide +kernel⟩
noncomputable def c_is_right_first:Cfg:={ N:=["piece","end","low","high"],names:=(defScope s_is_right_first).names,fns:=fnsL,lim:=11,blts:=bltL,gl:=glL }
noncomputable def code_is_right_first:Ss:=(.cons (.set (.tup (.cons (.name 1) (.cons (.name 2) (.cons (.name 3) .nil)))) (.var 0)) (.cons (.ret (.bop false (.cons (.cmp .NotEq (.var 1) (.gv "NOUGHT" gv_NOUGHT)) (.cons (.cmp .Eq (.var 2) (.var 3)) .nil)))) .nil))
theorem k_is_right_first:chkSs c_is_right_first code_is_right_first (defBody s_is_right_first)=true:=by decide +kernel
noncomputable abbrev s_is_right_behind:Stmt:=top 16
theorem sc_is_right_behind:FnScope ["ahead","piece"] ["ahead","piece"] (defScope s_is_right_behind):=⟨rfl,rfl,rfl,by decide +kernel,rfl,by decide +kernel,by decide +kernel⟩
noncomputable def c_is_right_behind:Cfg:={ N:=["ahead","piece"],names:=(defScope s_is_right_behind).names,fns:=fnsL,lim:=12,blts:=bltL,gl:=glL }
noncomputable def code_is_right_behind:Ss:=(.cons (.ret (.bop true (.cons (.call 6 (.cons (.ix (.var 0) (.int 0)) (.cons (.ix (.var 1) (.int 0)) .nil))) (.cons (.not (.call 6 (.cons (.ix (.var 1) (.int 1)) (.cons (.ix (.var 0) (.int 2)) .nil)))) .nil)))) .nil)
theorem k_is_right_behind:chkSs c_is_right_behind code_is_right_behind (defBody s_is_right_behind)=true:=by decide +kernel
noncomputable abbrev s_is_row:Stmt:=top 17
theorem sc_is_row:FnScope ["thing"] ["thing"] (defScope s_is_row):=⟨rfl,rfl,rfl,by decide +kernel,rfl,by decide +kernel,by decide +kernel⟩
noncomputable def c_is_row:Cfg:={ N:=["thing"],names:=(defScope s_is_row).names,fns:=fnsL,lim:=13,blts:=bltL,gl:=glL }
noncomputable def code_is_row:Ss:=(.cons (.ifS (.bop false (.cons (.not (.inst (.var 0) "tuple")) (.cons (.not (.tmp (.blt .all1 (.cons (.comp (.call 9 (.cons (.var 0) .nil)) (.name 0) (.seq (.var 0)) .nil ["piece"] []) .nil)))) .nil))) (.cons (.ret (.bl false)) .nil) .nil) (.cons (.ifS (.not (.tmp (.blt .all1 (.cons (.comp (.call 10 (.cons (.var 0) .nil)) (.name 0) (.seq (.var 0)) .nil ["piece"] []) .nil)))) (.cons (.ret (.bl false)) .nil) .nil) (.cons (.ifS (.bop true (.cons (.cmp .NotEq (.var 0) (.tup .nil)) (.cons (.not (.call 11 (.cons (.ix (.var 0) (.int 0)) .nil))) .nil))) (.cons (.ret (.bl false)) .nil) .nil) (.cons (.ret (.tmp (.blt .all1 (.cons (.comp (.call 12 (.cons (.var 0) (.cons (.var 1) .nil))) (.tup (.cons (.name 0) (.cons (.name 1) .nil))) (.zip (.var 0) (.sl (.var 0) (.yes (.int 1)) .no)) .nil ["ahead","piece"] []) .nil)))) .nil))))
theorem k_is_row:chkSs c_is_row code_is_row (defBody s_is_row)=true:=by decide +kernel
noncomputable abbrev s_goes_on:Stmt:=top 18
theorem sc_goes_on:FnScope ["beginning","ahead","piece","rise","width","next_rise","next_width"] ["beginning","ahead","piece"] (defScope s_goes_on):=⟨rfl,rfl,rfl,by decide +kernel,rfl,by decide +kernel,by decide +kernel⟩
noncomputable def c_goes_on:Cfg:={ N:=["beginning","ahead","piece","rise","width","next_rise","next_width"],names:=(defScope s_goes_on).names,fns:=fnsL,lim:=14,blts:=bltL,gl:=glL }
noncomputable def code_goes_on:Ss:=(.cons (.ifS (.cmp .NotEq (.ix (.var 2) (.int 1)) (.ix (.var 1) (.int 2))) (.cons (.ret (.bl false)) .nil) .nil) (.cons (.par 3 4 (.call 4 (.cons (.ix (.var 1) (.int 2)) (.cons (.ix (.var 1) (.int 1)) .nil))) (.call 4 (.cons (.ix (.var 1) (.int 0)) (.cons (.var 0) .nil)))) (.cons (.par 5 6 (.call 4 (.cons (.ix (.var 2) (.int 2)) (.cons (.ix (.var 2) (.int 1)) .nil))) (.call 4 (.cons (.ix (.var 2) (.int 0)) (.cons (.ix (.var 1) (.int 0)) .nil)))) (.cons (.ret (.cmp .Eq (.call 5 (.cons (.var 3) (.cons (.var 6) .nil))) (.call 5 (.cons (.var 5) (.cons (.var 4) .nil))))) .nil))))
theorem k_goes_on:chkSs c_goes_on code_goes_on (defBody s_goes_on)=true:=by decide +kernel
noncomputable abbrev s_lean:Stmt:=top 19
theorem sc_lean:FnScope ["row","pieces","beginning","piece"] ["row"] (defScope s_lean):=⟨rfl,rfl,rfl,by decide +kernel,rfl,by decide +kernel,by decide +kernel⟩
noncomputable def c_lean:Cfg:={ N:=["row","pieces","beginning","piece"],names:=(defScope s_lean).names,fns:=fnsL,lim:=15,blts:=bltL,gl:=glL }
noncomputable def code_lean:Ss:=(.cons (.set (.name 1) (.lst .nil)) (.cons (.set (.name 2) (.gv "NOUGHT" gv_NOUGHT)) (.cons (.forS (.name 3) (.seq (.var 0)) (.cons (.ifS (.bop true (.cons (.cmp .NotEq (.var 1) (.lst .nil)) (.cons (.call 14 (.cons (.var 2) (.cons (.ix (.var 1) (.neg (.int 1))) (.cons (.var 3) .nil)))) .nil))) (.cons (.set (.sub (.var 1) (.neg (.int 1))) (.tup (.cons (.ix (.var 3) (.int 0)) (.cons (.ix (.ix (.var 1) (.neg (.int 1))) (.int 1)) (.cons (.ix (.var 3) (.int 2)) .nil))))) .nil) (.cons (.set (.name 2) (.ite (.cmp .Eq (.var 1) (.lst .nil)) (.gv "NOUGHT" gv_NOUGHT) (.ix (.ix (.var 1) (.neg (.int 1))) (.int 0)))) (.cons (.expr (.met .append (.var 1) (.cons (.var 3) .nil))) .nil))) .nil)) (.cons (.ret (.blt .tuple1 (.cons (.var 1) .nil))) .nil))))
theorem k_lean:chkSs c_lean code_lean (defBody s_lean)=true:=by decide +kernel
noncomputable abbrev s_is_stair:Stmt:=top 20
theorem sc_is_stair:FnScope ["thing"] ["thing"] (defScope s_is_stair):=⟨rfl,rfl,rfl,by decide +kernel,rfl,by decide +kernel,by decide +kernel⟩
noncomputable def c_is_stair:Cfg:={ N:=["thing"],names:=(defScope s_is_stair).names,fns:=fnsL,lim:=16,blts:=bltL,gl:=glL }
noncomputable def code_is_stair:Ss:=(.cons (.ret (.bop true (.cons (.call 13 (.cons (.var 0) .nil)) (.cons (.cmp .Eq (.call 15 (.cons (.var 0) .nil)) (.var 0)) .nil)))) .nil)
theorem k_is_stair:chkSs c_is_stair code_is_stair (defBody s_is_stair)=true:=by decide +kernel
noncomputable abbrev s_how_many:Stmt:=top 21
theorem sc_how_many:FnScope ["stair","holds","fewest","most","middle"] ["stair","holds"] (defScope s_how_many):=⟨rfl,rfl,rfl,by decide +kernel,rfl,by decide +kernel,by decide +kernel⟩
noncomputable def c_how_many:Cfg:={ N:=["stair","holds","fewest","most","middle"],names:=(defScope s_how_many).names,fns:=fnsL,lim:=17,blts:=bltL,gl:=glL,pc:=true }
noncomputable def code_how_many:Ss:=(.cons (.par 2 3 (.int 0) (.blt .len (.cons (.var 0) .nil))) (.cons (.whileS (.cmp .Lt (.var 2) (.var 3)) (.cons (.set (.name 4) (.bin .FloorDiv (.bin .Add (.var 2) (.var 3)) (.int 2))) (.cons (.ifS (.pcall 1 (.ix (.var 0) (.var 4))) (.cons (.set (.name 2) (.bin .Add (.var 4) (.int 1))) .nil) (.cons (.set (.name 3) (.var 4)) .nil)) .nil))) (.cons (.ret (.var 2)) .nil)))
theorem k_how_many:chkSs c_how_many code_how_many (defBody s_how_many)=true:=by decide +kernel
noncomputable abbrev s_beginning_of:Stmt:=top 22
theorem sc_beginning_of:FnScope ["stair","at"] ["stair","at"] (defScope s_beginning_of):=⟨rfl,rfl,rfl,by decide +kernel,rfl,by decide +kernel,by decide +kernel⟩
noncomputable def c_beginning_of:Cfg:={ N:=["stair","at"],names:=(defScope s_beginning_of).names,fns:=fnsL,lim:=18,blts:=bltL,gl:=glL }
noncomputable def code_beginning_of:Ss:=(.cons (.ret (.ite (.cmp .Eq (.var 1) (.int 0)) (.gv "NOUGHT" gv_NOUGHT) (.ix (.ix (.var 0) (.bin .Sub (.var 1) (.int 1))) (.int 0)))) .nil)
theorem k_beginning_of:chkSs c_beginning_of code_beginning_of (defBody s_beginning_of)=true:=by decide +kernel
noncomputable abbrev s_height:Stmt:=top 23
theorem sc_height:FnScope ["stair","at","t","end","low","high"] ["stair","at","t"] (defScope s_height):=⟨rfl,rfl,rfl,by decide +kernel,rfl,by decide +kernel,by decide +kernel⟩
noncomputable def c_height:Cfg:={ N:=["stair","at","t","end","low","high"],names:=(defScope s_height).names,fns:=fnsL,lim:=19,blts:=bltL,gl:=glL }
noncomputable def code_height:Ss:=(.cons (.set (.tup (.cons (.name 3) (.cons (.name 4) (.cons (.name 5) .nil)))) (.ix (.var 0) (.var 1))) (.cons (.ifS (.cmp .Eq (.var 2) (.var 3)) (.cons (.ret (.var 5)) .nil) .nil) (.cons (.ret (.call 8 (.cons (.tup (.cons (.call 18 (.cons (.var 0) (.cons (.var 1) .nil))) (.cons (.var 4) .nil))) (.cons (.tup (.cons (.var 3) (.cons (.var 5) .nil))) (.cons (.var 2) .nil))))) .nil)))
theorem k_height:chkSs c_height code_height (defBody s_height)=true:=by decide +kernel
noncomputable abbrev s_coming:Stmt:=top 24
theorem sc_coming:FnScope ["stair","t","at"] ["stair","t"] (defScope s_coming):=⟨rfl,rfl,rfl,by decide +kernel,rfl,by decide +kernel,by decide +kernel⟩
noncomputable def c_coming:Cfg:={ N:=["stair","t","at"],names:=(defScope s_coming).names,fns:=fnsL,lim:=20,blts:=bltL,gl:=glL,hm:=some 16 }
noncomputable def code_coming:Ss:=(.cons (.set (.name 2) (.hm (.var 0) (.call 6 (.cons (.ix (.var 0) (.int 0)) (.cons (.var 1) .nil))) [1])) (.cons (.ret (.ite (.cmp .Eq (.var 2) (.blt .len (.cons (.var 0) .nil))) .non (.call 19 (.cons (.var 0) (.cons (.var 2) (.cons (.var 1) .nil)))))) .nil))
theorem k_coming:chkSs c_coming code_coming (defBody s_coming)=true:=by decide +kernel
noncomputable abbrev s_last:Stmt:=top 25
theorem sc_last:FnScope ["stair"] ["stair"] (defScope s_last):=⟨rfl,rfl,rfl,by decide +kernel,rfl,by decide +kernel,by decide +kernel⟩
noncomputable def c_last:Cfg:={ N:=["stair"],names:=(defScope s_last).names,fns:=fnsL,lim:=21,blts:=bltL,gl:=glL }
noncomputable def code_last:Ss:=(.cons (.ret (.ite (.cmp .Eq (.var 0) (.tup .nil)) .non (.ix (.ix (.var 0) (.neg (.int 1))) (.int 0)))) .nil)
theorem k_last:chkSs c_last code_last (defBody s_last)=true:=by decide +kernel
noncomputable abbrev s_latest:Stmt:=top 26
theorem sc_latest:FnScope ["stair","y","at","end","low","high"] ["stair","y"] (defScope s_latest):=⟨rfl,rfl,rfl,by decide +kernel,rfl,by decide +kernel,by decide +kernel⟩
noncomputable def c_latest:Cfg:={ N:=["stair","y","at","end","low","high"],names:=(defScope s_latest).names,fns:=fnsL,lim:=22,blts:=bltL,gl:=glL,hm:=some 16 }
noncomputable def code_latest:Ss:=(.cons (.set (.name 2) (.bin .Sub (.hm (.var 0) (.not (.call 6 (.cons (.var 1) (.cons (.ix (.var 0) (.int 1)) .nil)))) [1]) (.int 1))) (.cons (.ifS (.cmp .Lt (.var 2) (.int 0)) (.cons (.ret .non) .nil) .nil) (.cons (.set (.tup (.cons (.name 3) (.cons (.name 4) (.cons (.name 5) .nil)))) (.ix (.var 0) (.var 2))) (.cons (.ifS (.not (.call 6 (.cons (.var 1) (.cons (.var 5) .nil)))) (.cons (.ret (.var 3)) .nil) .nil) (.cons (.ret (.call 8 (.cons (.tup (.cons (.var 4) (.cons (.call 18 (.cons (.var 0) (.cons (.var 2) .nil))) .nil))) (.cons (.tup (.cons (.var 5) (.cons (.var 3) .nil))) (.cons (.var 1) .nil))))) .nil)))))
theorem k_latest:chkSs c_latest code_latest (defBody s_latest)=true:=by decide +kernel
noncomputable abbrev s_through:Stmt:=top 28
theorem sc_through:FnScope ["other","beginning","piece","end","low","high","come","pieces","ahead","at","there","moment"] ["other","beginning","piece"] (defScope s_through):=⟨rfl,rfl,rfl,by decide +kernel,rfl,by decide +kernel,by decide +kernel⟩
noncomputable def c_through:Cfg:={ N:=["other","beginning","piece","end","low","high","come","pieces","ahead","at","there","moment"],names:=(defScope s_through).names,fns:=fnsL,lim:=23,blts:=bltL,gl:=glL,hm:=some 16 }
noncomputable def code_through:Ss:=(.cons (.set (.tup (.cons (.name 3) (.cons (.name 4) (.cons (.name 5) .nil)))) (.var 2)) (.cons (.ifS (.cmp .Eq (.var 4) (.var 5)) (.cons (.set (.name 6) (.call 20 (.cons (.var 0) (.cons (.var 5) .nil)))) (.cons (.ret (.ite (.cmp .Is (.var 6) .non) (.lst .nil) (.lst (.cons (.tup (.cons (.var 3) (.cons (.var 6) (.cons (.var 6) .nil)))) .nil)))) .nil)) .nil) (.cons (.set (.name 7) (.lst .nil)) (.cons (.set (.name 8) (.var 4)) (.cons (.set (.name 9) (.hm (.var 0) (.not (.call 6 (.cons (.var 1) (.cons (.ix (.var 0) (.int 0)) .nil)))) [4])) (.cons (.whileS (.bop true (.cons (.cmp .Lt (.var 9) (.blt .len (.cons (.var 0) .nil))) (.cons (.call 6 (.cons (.var 8) (.cons (.var 5) .nil))) .nil))) (.cons (.set (.name 10) (.ite (.call 6 (.cons (.ix (.ix (.var 0) (.var 9)) (.int 0)) (.cons (.var 5) .nil))) (.ix (.ix (.var 0) (.var 9)) (.int 0)) (.var 5))) (.cons (.set (.name 11) (.call 8 (.cons (.tup (.cons (.var 4) (.cons (.var 1) .nil))) (.cons (.tup (.cons (.var 5) (.cons (.var 3) .nil))) (.cons (.var 10) .nil))))) (.cons (.expr (.met .append (.var 7) (.cons (.tup (.cons (.var 11) (.cons (.call 19 (.cons (.var 0) (.cons (.var 9) (.cons (.var 8) .nil)))) (.cons (.call 19 (.cons (.var 0) (.cons (.var 9) (.cons (.var 10) .nil)))) .nil)))) .nil))) (.cons (.set (.name 8) (.var 10)) (.cons (.aug 9 .Add (.int 1)) .nil)))))) (.cons (.ret (.var 7)) .nil)))))))
theorem k_through:chkSs c_through code_through (defBody s_through)=true:=by decide +kernel
noncomputable abbrev s_then:Stmt:=top 29
theorem sc_then:FnScope ["one","other","start","come","row","at","piece"] ["one","other"] (defScope s_then):=⟨rfl,rfl,rfl,by decide +kernel,rfl,by decide +kernel,by decide +kernel⟩
noncomputable def c_then:Cfg:={ N:=["one","other","start","come","row","at","piece"],names:=(defScope s_then).names,fns:=fnsL,lim:=24,blts:=bltL,gl:=glL }
noncomputable def code_then:Ss:=(.cons (.set (.name 2) (.call 20 (.cons (.var 0) (.cons (.gv "NOUGHT" gv_NOUGHT) .nil)))) (.cons (.set (.name 3) (.ite (.cmp .Is (.var 2) .non) .non (.call 20 (.cons (.var 1) (.cons (.var 2) .nil))))) (.cons (.ifS (.cmp .Is (.var 3) .non) (.cons (.ret (.tup .nil)) .nil) .nil) (.cons (.set (.name 4) (.lst (.cons (.tup (.cons (.gv "NOUGHT" gv_NOUGHT) (.cons (.var 3) (.cons (.var 3) .nil)))) .nil))) (.cons (.forS (.tup (.cons (.name 5) (.cons (.name 6) .nil))) (.enum (.var 0)) (.cons (.ifS (.cmp .NotEq (.ix (.var 6) (.int 0)) (.gv "NOUGHT" gv_NOUGHT)) (.cons (.aug 4 .Add (.call 23 (.cons (.var 1) (.cons (.call 18 (.cons (.var 0) (.cons (.var 5) .nil))) (.cons (.var 6) .nil))))) .nil) .nil) .nil)) (.cons (.ret (.call 15 (.cons (.blt .tuple1 (.cons (.var 4) .nil)) .nil))) .nil))))))
theorem k_then:chkSs c_then code_then (defBody s_then)=true:=by decide +kernel
noncomputable abbrev s__law_pot:Stmt:=top 31
theorem sc__law_pot:FnScope ["_law_script","_law_k","_law_cell"] ["_law_script","_law_k"] (defScope s__law_pot):=⟨rfl,rfl,rfl,by decide +kernel,rfl,by decide +kernel,by decide +kernel⟩
noncomputable def c__law_pot:Cfg:={ N:=["_law_script","_law_k","_law_cell"],names:=(defScope s__law_pot).names,fns:=fnsL,lim:=25,blts:=bltL,gl:=glL }
noncomputable def code__law_pot:Ss:=(.cons (.set (.name 2) (.ite (.cmp .Lt (.var 1) (.blt .len (.cons (.var 0) .nil))) (.ix (.var 0) (.var 1)) (.int 0))) (.cons (.ret (.lst (.cons (.blt .max2 (.cons (.int 0) (.cons (.bin .Sub (.blt .abs1 (.cons (.var 2) .nil)) (.bin .Pow (.int 10) (.int 18))) .nil))) (.cons (.bin .Add (.bin .Add (.bin .Mod (.blt .abs1 (.cons (.var 2) .nil)) (.int 2147483629)) (.bin .Mult (.int 97) (.var 1))) (.int 1)) .nil)))) .nil))
theorem k__law_pot:chkSs c__law_pot code__law_pot (defBody s__law_pot)=true:=by decide +kernel
noncomputable abbrev s__law_take:Stmt:=top 32
theorem sc__law_take:FnScope ["_law_pot_here","_law_many","_law_digit"] ["_law_pot_here","_law_many"] (defScope s__law_take):=⟨rfl,rfl,rfl,by decide +kernel,rfl,by decide +kernel,by decide +kernel⟩
noncomputable def c__law_take:Cfg:={ N:=["_law_pot_here","_law_many","_law_digit"],names:=(defScope s__law_take).names,fns:=fnsL,lim:=26,blts:=bltL,gl:=glL }
noncomputable def code__law_take:Ss:=(.cons (.ifS (.cmp .Gt (.ix (.var 0) (.int 0)) (.int 0)) (.cons (.set (.tup (.cons (.sub (.var 0) (.int 0)) (.cons (.name 2) .nil))) (.blt .divmod (.cons (.ix (.var 0) (.int 0)) (.cons (.var 1) .nil)))) (.cons (.ret (.var 2)) .nil)) .nil) (.cons (.set (.sub (.var 0) (.int 1)) (.bin .Mod (.bin .Add (.bin .Mult (.ix (.var 0) (.int 1)) (.int 48271)) (.int 12345)) (.int 2147483647))) (.cons (.ret (.bin .Mod (.bin .FloorDiv (.bin .Mod (.bin .Mult (.ix (.var 0) (.int 1)) (.ix (.var 0) (.int 1))) (.int 2147483629)) (.int 5)) (.var 1))) .nil)))
theorem k__law_take:chkSs c__law_take code__law_take (defBody s__law_take)=true:=by decide +kernel
noncomputable abbrev s__law_moment:Stmt:=top 33
theorem sc__law_moment:FnScope ["_law_n","_law_d","_law_left","_law_right_here"] ["_law_n","_law_d"] (defScope s__law_moment):=⟨rfl,rfl,rfl,by decide +kernel,rfl,by decide +kernel,by decide +kernel⟩
noncomputable def c__law_moment:Cfg:={ N:=["_law_n","_law_d","_law_left","_law_right_here"],names:=(defScope s__law_moment).names,fns:=fnsL,lim:=27,blts:=bltL,gl:=glL }
noncomputable def code__law_moment:Ss:=(.cons (.par 2 3 (.var 0) (.var 1)) (.cons (.whileS (.cmp .Gt (.var 3) (.int 0)) (.cons (.par 2 3 (.var 3) (.bin .Mod (.var 2) (.var 3))) .nil)) (.cons (.ret (.tup (.cons (.bin .FloorDiv (.var 0) (.var 2)) (.cons (.bin .FloorDiv (.var 1) (.var 2)) .nil)))) .nil)))
theorem k__law_moment:chkSs c__law_moment code__law_moment (defBody s__law_moment)=true:=by decide +kernel
noncomputable abbrev s__law_row:Stmt:=top 34
theorem sc__law_row:FnScope ["_law_pot_here","_law_hints_here","_law_found","_law_begin","_law_height","_law_many","_law_k","_law_end","_law_later","_law_low","_law_high"] ["_law_pot_here","_law_hints_here"] (defScope s__law_row):=⟨rfl,rfl,rfl,by decide +kernel,rfl,by decide +kernel,by decide +kernel⟩
noncomputable def c__law_row:Cfg:={ N:=["_law_pot_here","_law_hints_here","_law_found","_law_begin","_law_height","_law_many","_law_k","_law_end","_law_later","_law_low","_law_high"],names:=(defScope s__law_row).names,fns:=fnsL,lim:=28,blts:=bltL,gl:=glL }
noncomputable def code__law_row:Ss:=(.cons (.set (.name 2) (.lst .nil)) (.cons (.set (.name 3) (.int 0)) (.cons (.set (.name 4) (.int 0)) (.cons (.set (.name 5) (.call 26 (.cons (.var 0) (.cons (.int 7) .nil)))) (.cons (.ifS (.cmp .Eq (.call 26 (.cons (.var 0) (.cons (.int 8) .nil))) (.int 0)) (.cons (.set (.name 5) (.bin .Add (.int 7) (.call 26 (.cons (.var 0) (.cons (.int 14) .nil))))) .nil) .nil) (.cons (.forS (.name 6) (.range1 (.var 5)) (.cons (.set (.name 7) (.bin .Add (.bin .Add (.var 3) (.int 1)) (.call 26 (.cons (.var 0) (.cons (.ix (.tup (.cons (.int 3) (.cons (.int 9) (.cons (.bin .Pow (.int 10) (.int 9)) .nil)))) (.call 26 (.cons (.var 0) (.cons (.int 3) .nil)))) .nil))))) (.cons (.ifS (.bop true (.cons (.cmp .Eq (.var 6) (.int 0)) (.cons (.cmp .Eq (.call 26 (.cons (.var 0) (.cons (.int 4) .nil))) (.int 0)) .nil))) (.cons (.set (.name 7) (.int 0)) .nil) .nil) (.cons (.set (.name 8) (.comp (.var 0) (.name 0) (.seq (.var 1)) (.cons (.cmp .Gt (.var 0) (.var 1)) .nil) ["_law_hint"] [3])) (.cons (.ifS (.bop true (.cons (.cmp .NotEq (.var 8) (.lst .nil)) (.cons (.cmp .Eq (.call 26 (.cons (.var 0) (.cons (.int 2) .nil))) (.int 0)) .nil))) (.cons (.set (.name 7) (.ix (.var 8) (.call 26 (.cons (.var 0) (.cons (.blt .len (.cons (.var 8) .nil)) .nil))))) .nil) .nil) (.cons (.set (.name 9) (.bin .Add (.blt .max2 (.cons (.var 4) (.cons (.var 3) .nil))) (.tmp (.ix (.lst (.cons (.int 0) (.cons (.call 26 (.cons (.var 0) (.cons (.int 4) .nil))) (.cons (.call 26 (.cons (.var 0) (.cons (.bin .Pow (.int 10) (.int 9)) .nil))) .nil)))) (.call 26 (.cons (.var 0) (.cons (.int 3) .nil))))))) (.cons (.set (.name 10) (.bin .Add (.blt .max2 (.cons (.var 9) (.cons (.var 7) .nil))) (.tmp (.ix (.lst (.cons (.int 0) (.cons (.call 26 (.cons (.var 0) (.cons (.int 4) .nil))) (.cons (.call 26 (.cons (.var 0) (.cons (.bin .Pow (.int 10) (.int 9)) .nil))) .nil)))) (.call 26 (.cons (.var 0) (.cons (.int 3) .nil))))))) (.cons (.ifS (.cmp .Eq (.var 7) (.int 0)) (.cons (.set (.name 10) (.var 9)) .nil) .nil) (.cons (.expr (.met .append (.var 2) (.cons (.tup (.cons (.var 7) (.cons (.var 9) (.cons (.var 10) .nil)))) .nil))) (.cons (.set (.tup (.cons (.name 3) (.cons (.name 4) .nil))) (.tup (.cons (.var 7) (.cons (.var 10) .nil)))) .nil)))))))))) (.cons (.ret (.var 2)) .nil)))))))
theorem k__law_row:chkSs c__law_row code__law_row (defBody s__law_row)=true:=by decide +kernel
noncomputable abbrev s__law_lean:Stmt:=top 35
theorem sc__law_lean:FnScope ["_law_row_here","_law_found","_law_end","_law_low","_law_high","_law_begin","_law_ahead","_law_there","_law_bottom","_law_top","_law_rise"] ["_law_row_here"] (defScope s__law_lean):=⟨rfl,rfl,rfl,by decide +kernel,rfl,by decide +kernel,by decide +kernel⟩
noncomputable def c__law_lean:Cfg:={ N:=["_law_row_here","_law_found","_law_end","_law_low","_law_high","_law_begin","_law_ahead","_law_there","_law_bottom","_law_top","_law_rise"],names:=(defScope s__law_lean).names,fns:=fnsL,lim:=29,blts:=bltL,gl:=glL }
noncomputable def code__law_lean:Ss:=(.cons (.set (.name 1) (.lst .nil)) (.cons (.forS (.tup (.cons (.name 2) (.cons (.name 3) (.cons (.name 4) .nil)))) (.seq (.var 0)) (.cons (.set (.name 5) (.ite (.cmp .NotEq (.var 1) (.lst .nil)) (.ix (.ix (.var 1) (.neg (.int 1))) (.int 0)) (.int 0))) (.cons (.ifS (.bop true (.cons (.cmp .NotEq (.var 1) (.lst .nil)) (.cons (.cmp .Eq (.ix (.ix (.var 1) (.neg (.int 1))) (.int 2)) (.var 3)) .nil))) (.cons (.set (.name 6) (.ite (.cmp .Gt (.blt .len (.cons (.var 1) .nil)) (.int 1)) (.ix (.ix (.var 1) (.neg (.int 2))) (.int 0)) (.int 0))) (.cons (.set (.tup (.cons (.name 7) (.cons (.name 8) (.cons (.name 9) .nil)))) (.ix (.var 1) (.neg (.int 1)))) (.cons (.set (.name 10) (.bin .Mult (.bin .Sub (.var 9) (.var 8)) (.bin .Sub (.var 2) (.var 5)))) (.cons (.ifS (.bop false (.cons (.cmp .Eq (.var 7) (.var 6)) (.cons (.cmp .Eq (.var 10) (.bin .Mult (.bin .Sub (.var 4) (.var 3)) (.bin .Sub (.var 7) (.var 6)))) .nil))) (.cons (.set (.name 3) (.var 8)) (.cons (.expr (.met .pop0 (.var 1) .nil)) .nil)) .nil) .nil)))) .nil) (.cons (.expr (.met .append (.var 1) (.cons (.tup (.cons (.var 2) (.cons (.var 3) (.cons (.var 4) .nil)))) .nil))) .nil)))) (.cons (.ret (.var 1)) .nil)))
theorem k__law_lean:chkSs c__law_lean code__law_lean (defBody s__law_lean)=true:=by decide +kernel
noncomputable abbrev s__law_part:Stmt:=top 36
theorem sc__law_part:FnScope ["_law_pot_here"] ["_law_pot_here"] (defScope s__law_part):=⟨rfl,rfl,rfl,by decide +kernel,rfl,by decide +kernel,by decide +kernel⟩
noncomputable def c__law_part:Cfg:={ N:=["_law_pot_here"],names:=(defScope s__law_part).names,fns:=fnsL,lim:=30,blts:=bltL,gl:=glL }
noncomputable def code__law_part:Ss:=(.cons (.ret (.bin .Add (.int 1) (.call 26 (.cons (.var 0) (.cons (.ix (.tup (.cons (.int 1) (.cons (.int 2) (.cons (.int 12) (.cons (.bin .Pow (.int 10) (.int 11)) .nil))))) (.call 26 (.cons (.var 0) (.cons (.int 4) .nil)))) .nil))))) .nil)
theorem k__law_part:chkSs c__law_part code__law_part (defBody s__law_part)=true:=by decide +kernel
noncomputable abbrev s__law_stair:Stmt:=top 37
theorem sc__law_stair:FnScope ["_law_row_here","_law_part_here"] ["_law_row_here","_law_part_here"] (defScope s__law_stair):=⟨rfl,rfl,rfl,by decide +kernel,rfl,by decide +kernel,by decide +kernel⟩
noncomputable def c__law_stair:Cfg:={ N:=["_law_row_here","_law_part_here"],names:=(defScope s__law_stair).names,fns:=fnsL,lim:=31,blts:=bltL,gl:=glL }
noncomputable def code__law_stair:Ss:=(.cons (.ret (.tmp (.blt .tuple1 (.cons (.comp (.tmp (.blt .tuple1 (.cons (.comp (.call 27 (.cons (.var 0) (.cons (.var 1) .nil))) (.name 0) (.seq (.var 0)) .nil ["_law_number"] [1]) .nil))) (.name 0) (.seq (.call 29 (.cons (.var 0) .nil))) .nil ["_law_piece"] [1]) .nil)))) .nil)
theorem k__law_stair:chkSs c__law_stair code__law_stair (defBody s__law_stair)=true:=by decide +kernel
noncomputable abbrev s__law_hints:Stmt:=top 38
theorem sc__law_hints:FnScope ["_law_row_here"] ["_law_row_here"] (defScope s__law_hints):=⟨rfl,rfl,rfl,by decide +kernel,rfl,by decide +kernel,by decide +kernel⟩
noncomputable def c__law_hints:Cfg:={ N:=["_law_row_here"],names:=(defScope s__law_hints).names,fns:=fnsL,lim:=32,blts:=bltL,gl:=glL }
noncomputable def code__law_hints:Ss:=(.cons (.ret (.bin .Add (.bin .Add (.comp (.var 0) (.tup (.cons (.name 0) (.cons (.name 1) (.cons (.name 2) .nil)))) (.seq (.var 0)) .nil ["_law_end","_law_low","_law_high"] []) (.comp (.var 1) (.tup (.cons (.name 0) (.cons (.name 1) (.cons (.name 2) .nil)))) (.seq (.var 0)) .nil ["_law_end","_law_low","_law_high"] [])) (.comp (.var 2) (.tup (.cons (.name 0) (.cons (.name 1) (.cons (.name 2) .nil)))) (.seq (.var 0)) .nil ["_law_end","_law_low","_law_high"] []))) .nil)
theorem k__law_hints:chkSs c__law_hints code__law_hints (defBody s__law_hints)=true:=by decide +kernel
noncomputable abbrev s__law_on:Stmt:=top 39
theorem sc__law_on:FnScope ["_law_stair_here","_law_t","_law_begin","_law_end","_law_low","_law_high","_law_wide","_law_left","_law_done","_law_number"] ["_law_stair_here","_law_t"] (defScope s__law_on):=⟨rfl,rfl,rfl,by decide +kernel,rfl,by decide +kernel,by decide +kernel⟩
noncomputable def c__law_on:Cfg:={ N:=["_law_stair_here","_law_t","_law_begin","_law_end","_law_low","_law_high","_law_wide","_law_left","_law_done","_law_number"],names:=(defScope s__law_on).names,fns:=fnsL,lim:=33,blts:=bltL,gl:=glL }
noncomputable def code__law_on:Ss:=(.cons (.set (.name 2) (.tup (.cons (.int 0) (.cons (.int 1) .nil)))) (.cons (.forS (.tup (.cons (.name 3) (.cons (.name 4) (.cons (.name 5) .nil)))) (.seq (.var 0)) (.cons (.ifS (.cmp .LtE (.bin .Mult (.ix (.var 1) (.int 0)) (.ix (.var 3) (.int 1))) (.bin .Mult (.ix (.var 3) (.int 0)) (.ix (.var 1) (.int 1)))) (.cons (.set (.name 6) (.bin .Sub (.bin .Mult (.ix (.var 3) (.int 0)) (.ix (.var 2) (.int 1))) (.bin .Mult (.ix (.var 2) (.int 0)) (.ix (.var 3) (.int 1))))) (.cons (.ifS (.cmp .Eq (.var 6) (.int 0)) (.cons (.ret (.var 4)) .nil) .nil) (.cons (.set (.name 7) (.bin .Sub (.bin .Mult (.ix (.var 3) (.int 0)) (.ix (.var 1) (.int 1))) (.bin .Mult (.ix (.var 1) (.int 0)) (.ix (.var 3) (.int 1))))) (.cons (.set (.name 8) (.bin .Sub (.bin .Mult (.ix (.var 1) (.int 0)) (.ix (.var 2) (.int 1))) (.bin .Mult (.ix (.var 2) (.int 0)) (.ix (.var 1) (.int 1))))) (.cons (.set (.name 9) (.bin .Mult (.bin .Mult (.bin .Mult (.ix (.var 4) (.int 0)) (.ix (.var 5) (.int 1))) (.var 7)) (.ix (.var 2) (.int 1)))) (.cons (.set (.name 9) (.bin .Add (.var 9) (.bin .Mult (.bin .Mult (.bin .Mult (.ix (.var 5) (.int 0)) (.ix (.var 4) (.int 1))) (.var 8)) (.ix (.var 3) (.int 1))))) (.cons (.ret (.tup (.cons (.var 9) (.cons (.bin .Mult (.bin .Mult (.bin .Mult (.ix (.var 4) (.int 1)) (.ix (.var 5) (.int 1))) (.ix (.var 1) (.int 1))) (.var 6)) .nil)))) .nil))))))) .nil) (.cons (.set (.name 2) (.var 3)) .nil))) (.cons (.ret .non) .nil)))
theorem k__law_on:chkSs c__law_on code__law_on (defBody s__law_on)=true:=by decide +kernel
noncomputable abbrev s__law_alike:Stmt:=top 40
theorem sc__law_alike:FnScope ["_law_one","_law_other"] ["_law_one","_law_other"] (defScope s__law_alike):=⟨rfl,rfl,rfl,by decide +kernel,rfl,by decide +kernel,by decide +kernel⟩
noncomputable def c__law_alike:Cfg:={ N:=["_law_one","_law_other"],names:=(defScope s__law_alike).names,fns:=fnsL,lim:=34,blts:=bltL,gl:=glL }
noncomputable def code__law_alike:Ss:=(.cons (.ifS (.bop false (.cons (.cmp .Is (.var 0) .non) (.cons (.cmp .Is (.var 1) .non) .nil))) (.cons (.ret (.bop true (.cons (.cmp .Is (.var 0) .non) (.cons (.cmp .Is (.var 1) .non) .nil)))) .nil) .nil) (.cons (.ret (.cmp .Eq (.bin .Mult (.ix (.var 0) (.int 0)) (.ix (.var 1) (.int 1))) (.bin .Mult (.ix (.var 1) (.int 0)) (.ix (.var 0) (.int 1))))) .nil))
theorem k__law_alike:chkSs c__law_alike code__law_alike (defBody s__law_alike)=true:=by decide +kernel
noncomputable abbrev s__law_middles:Stmt:=top 41
theorem sc__law_middles:FnScope ["_law_stair_here","_law_found","_law_begin","_law_end","_law_low","_law_high"] ["_law_stair_here"] (defScope s__law_middles):=⟨rfl,rfl,rfl,by decide +kernel,rfl,by decide +kernel,by decide +kernel⟩
noncomputable def c__law_middles:Cfg:={ N:=["_law_stair_here","_law_found","_law_begin","_law_end","_law_low","_law_high"],names:=(defScope s__law_middles).names,fns:=fnsL,lim:=35,blts:=bltL,gl:=glL }
noncomputable def code__law_middles:Ss:=(.cons (.set (.name 1) (.lst (.cons (.tup (.cons (.int 0) (.cons (.int 1) .nil))) .nil))) (.cons (.set (.name 2) (.tup (.cons (.int 0) (.cons (.int 1) .nil)))) (.cons (.forS (.tup (.cons (.name 3) (.cons (.name 4) (.cons (.name 5) .nil)))) (.seq (.var 0)) (.cons (.expr (.met .extend (.var 1) (.cons (.lst (.cons (.tup (.cons (.bin .Add (.bin .Mult (.ix (.var 2) (.int 0)) (.ix (.var 3) (.int 1))) (.bin .Mult (.ix (.var 3) (.int 0)) (.ix (.var 2) (.int 1)))) (.cons (.bin .Mult (.bin .Mult (.int 2) (.ix (.var 2) (.int 1))) (.ix (.var 3) (.int 1))) .nil))) (.cons (.var 3) .nil))) .nil))) (.cons (.set (.name 2) (.var 3)) .nil))) (.cons (.ret (.bin .Add (.var 1) (.lst (.cons (.tup (.cons (.bin .Add (.ix (.var 2) (.int 0)) (.ix (.var 2) (.int 1))) (.cons (.ix (.var 2) (.int 1)) .nil))) .nil)))) .nil))))
theorem k__law_middles:chkSs c__law_middles code__law_middles (defBody s__law_middles)=true:=by decide +kernel
noncomputable abbrev s__law_due:Stmt:=top 42
theorem sc__law_due:FnScope ["_law_one","_law_other","_law_t","_law_here"] ["_law_one","_law_other","_law_t"] (defScope s__law_due):=⟨rfl,rfl,rfl,by decide +kernel,rfl,by decide +kernel,by decide +kernel⟩
noncomputable def c__law_due:Cfg:={ N:=["_law_one","_law_other","_law_t","_law_here"],names:=(defScope s__law_due).names,fns:=fnsL,lim:=36,blts:=bltL,gl:=glL }
noncomputable def code__law_due:Ss:=(.cons (.set (.name 3) (.call 33 (.cons (.var 0) (.cons (.var 2) .nil)))) (.cons (.ifS (.cmp .Is (.var 3) .non) (.cons (.ret .non) .nil) .nil) (.cons (.ret (.call 33 (.cons (.var 1) (.cons (.var 3) .nil)))) .nil)))
theorem k__law_due:chkSs c__law_due code__law_due (defBody s__law_due)=true:=by decide +kernel
noncomputable abbrev s__law_right:Stmt:=top 43
theorem sc__law_right:FnScope ["_law_one","_law_other","_law_made","_law_t"] ["_law_one","_law_other"] (defScope s__law_right):=⟨rfl,rfl,rfl,by decide +kernel,rfl,by decide +kernel,by decide +kernel⟩
noncomputable def c__law_right:Cfg:={ N:=["_law_one","_law_other","_law_made","_law_t"],names:=(defScope s__law_right).names,fns:=fnsL,lim:=37,blts:=bltL,gl:=glL }
noncomputable def code__law_right:Ss:=(.cons (.set (.name 2) (.call 24 (.cons (.var 0) (.cons (.var 1) .nil)))) (.cons (.ifS (.bop false (.cons (.not (.call 16 (.cons (.var 2) .nil))) (.cons (.cmp .NotEq (.call 24 (.cons (.tup .nil) (.cons (.var 1) .nil))) (.tup .nil)) (.cons (.cmp .NotEq (.call 24 (.cons (.var 0) (.cons (.tup .nil) .nil))) (.tup .nil)) .nil)))) (.cons (.ret (.bl false)) .nil) .nil) (.cons (.forS (.name 3) (.seq (.bin .Add (.bin .Add (.call 35 (.cons (.var 2) .nil)) (.call 35 (.cons (.var 0) .nil))) (.call 35 (.cons (.var 1) .nil)))) (.cons (.ifS (.not (.call 34 (.cons (.call 33 (.cons (.var 2) (.cons (.var 3) .nil))) (.cons (.call 36 (.cons (.var 0) (.cons (.var 1) (.cons (.var 3) .nil)))) .nil)))) (.cons (.ret (.bl false)) .nil) .nil) .nil)) (.cons (.ifS (.cmp .Eq (.var 1) (.tup .nil)) (.cons (.ret (.cmp .Eq (.var 2) (.tup .nil))) .nil) .nil) (.cons (.ret (.cmp .Eq (.call 21 (.cons (.var 2) .nil)) (.call 22 (.cons (.var 0) (.cons (.call 21 (.cons (.var 1) .nil)) .nil))))) .nil)))))
theorem k__law_right:chkSs c__law_right code__law_right (defBody s__law_right)=true:=by decide +kernel
noncomputable abbrev s_law:Stmt:=top 44
theorem sc_law:FnScope ["_law_script","_law_k","_law_pot_here","_law_first","_law_second","_law_part_here","_law_one","_law_other"] ["_law_script"] (defScope s_law):=⟨rfl,rfl,rfl,by decide +kernel,rfl,by decide +kernel,by decide +kernel⟩
noncomputable def c_law:Cfg:={ N:=["_law_script","_law_k","_law_pot_here","_law_first","_law_second","_law_part_here","_law_one","_law_other"],names:=(defScope s_law).names,fns:=fnsL,lim:=38,blts:=bltL,gl:=glL }
noncomputable def code_law:Ss:=(.cons (.forS (.name 1) (.range1 (.blt .max2 (.cons (.int 1) (.cons (.blt .min2 (.cons (.blt .len (.cons (.var 0) .nil)) (.cons (.int 2) .nil))) .nil)))) (.cons (.set (.name 2) (.call 25 (.cons (.var 0) (.cons (.var 1) .nil)))) (.cons (.set (.name 3) (.call 28 (.cons (.var 2) (.cons (.lst .nil) .nil)))) (.cons (.set (.name 4) (.call 28 (.cons (.var 2) (.cons (.call 32 (.cons (.var 3) .nil)) .nil)))) (.cons (.set (.name 5) (.call 30 (.cons (.var 2) .nil))) (.cons (.set (.name 6) (.call 31 (.cons (.var 3) (.cons (.var 5) .nil)))) (.cons (.set (.name 7) (.call 31 (.cons (.var 4) (.cons (.tmp (.ix (.lst (.cons (.var 5) (.cons (.var 5) (.cons (.call 30 (.cons (.var 2) .nil)) .nil)))) (.call 26 (.cons (.var 2) (.cons (.int 3) .nil))))) .nil)))) (.cons (.ifS (.bop false (.cons (.not (.call 37 (.cons (.var 6) (.cons (.var 7) .nil)))) (.cons (.not (.call 37 (.cons (.var 7) (.cons (.var 6) .nil)))) (.cons (.not (.call 37 (.cons (.var 6) (.cons (.var 6) .nil)))) .nil)))) (.cons (.ret (.bl false)) .nil) .nil) .nil)))))))) (.cons (.ret (.bl true)) .nil))
theorem k_law:chkSs c_law code_law (defBody s_law)=true:=by decide +kernel
local macro_rules | `(tactic| walk_at "WP")=>`(tactic| simp only [E_pcall,E_hm,T_pcall,aft_nx,aft_rt,aft_bk,aft_ct,aft_rt',LD_nx,LD_ct,LD_bk,LD_rt,LD_rt',bE_nx,bE_rt,bE_rt',Ss_nil,Ss_one,Ss_cons,S_set,S_par,S_aug,S_expr,S_ret,S_retN,S_if,S_while,S_for,S_pass,S_set2,S_brk,S_cont,E_var,E_int,E_bl,E_non,E_str,E_gv,E_tup,E_lst,E_bin,E_neg,E_not,E_cmp,E_and,E_or,E_ite,E_ix,E_sl,E_call,E_blt,E_inst,E_met,E_comp,E_tmp,Es_nil,Es_cons,O_no,O_yes,T_and,T_or,T_not,T_cmp,T_var,T_call,T_blt,T_inst,T_tmp,T_ix,AV_one,AV_cons,OV_one,OV_cons,AT_nil,AT_one,AT_cons,OT_one,OT_cons,It_seq,It_r1,It_r2,It_zip,It_enum,Tg_name,Tg_tup,Tg_ltup,Tg_sub,Tgs_nil,Tgs_cons,W_add,W_sub,W_mul,W_div,W_mod,W_pow,W_addL,W_mulL,W_addT,W_addS,W_lenS,W_intS,W_ixS,W_in,W_eq,W_ne,W_isN,W_isB,W_notN,W_notB,W_lt,W_le,W_gt,W_ge,W_eqI,W_eqB,W_eqS,isNon_non,isNon_bl,isNon_int,isNon_str,isNon_tup,isNon_ref,isBl_tt,isBl_tf,isBl_ft,isBl_ff,isBl_int,isBl_non,isBl_tup,seqAt_tup,seqAt_rdl,listAt_rdl,kindP_non,kindP_bl,kindP_int,kindP_str,kindP_tup,kindP_rdl,W_ixT,W_ixR,W_ixL,atI_0,atI_1,atI_2,atI_3,W_slT,W_slR,W_slL,W_slS,W_lenT,W_lenR,W_lenL,W_max,W_min,W_divmod,W_int1,W_tupT,W_tupL,W_listT,W_listL,W_all,W_any,W_abs,W_app,W_pop,W_ext,W_tB,W_tN,W_tI,W_tT,W_tL,W_set,W_augI,W_augL,W_augS,frame,Γ_0,Γ_1,Γ_2,Γ_3,Γ_4,Γ_5,Γ_6,Γ_7,Γ_8,Γ_9,Γ_10,Γ_11,Γ_12,Γ_13,Γ_14,Γ_15,Γ_16,Γ_17,Γ_18,Γ_19,Γ_20,Γ_21,Γ_22,Γ_23,Γ_24,Γ_25,Γ_26,Γ_27,Γ_28,Γ_29,Γ_30,Γ_31,Γ_32,Γ_33,Γ_34,Γ_35,Γ_36,Γ_37,Γ_38,Nat.add_assoc,get_app,get_app0,List.append_assoc,List.length_append,List.length_set,List.map_cons,List.map_nil,List.length_cons,List.length_nil,List.replicate,List.cons_append,List.nil_append,List.append_nil,List.getElem?_cons_zero,List.getElem?_cons_succ,List.set_cons_zero,List.set_cons_succ,Option.some.injEq,Cell.lst.injEq,PV.int.injEq,PV.bl.injEq,PV.ref.injEq,PV.str.injEq,PV.tup.injEq,PV.rdl.injEq,List.cons.injEq,and_true,true_and,exists_eq_left,exists_eq_left',exists_eq_right,exists_and_left,exists_and_right,exists_const,Bool.not_true,Bool.not_false,Bool.not_not,Bool.not_eq_true',decide_eq_true_eq,decide_eq_false_iff_not,false_and,and_false,false_or,or_false,if_true,if_false,Bool.false_eq_true,reduceCtorEq,reduceIte,not_false_eq_true,Nat.add_zero,Nat.zero_add,Nat.reduceAdd,Nat.reduceSub,Nat.reduceLeDiff,Int.reduceToNat,Int.reducePow,Int.reduceLT,Int.reduceLE,Int.reduceNeg,Int.reduceAdd,Int.reduceSub,Int.reduceMul,Sz_nil,Sz_cons,exists_eq,exists_eq',exists_false,ne_eq,not_true_eq_false,and_assoc,Option.join_some,Option.join_none,decide_true,decide_false,castN0,castN1,castN2,castN3,castN4,castN5,castN6,Int.reduceEq,Nat.reduceEqDiff,Bool.not_eq_false,Bool.not_eq_true,Bool.and_true,Bool.true_and,Bool.and_false,Bool.false_and,Bool.or_false,Bool.or_true])
local macro_rules | `(tactic| walk_at "WPO")=>`(tactic| simp only [E_pcall,E_hm,T_pcall,aft_nx,aft_rt,aft_bk,aft_ct,aft_rt',LD_nx,LD_ct,LD_bk,LD_rt,LD_rt',bE_nx,bE_rt,bE_rt',Ss_nil,Ss_one,Ss_cons,S_set,S_par,S_aug,S_expr,S_ret,S_retN,S_if,S_while,S_for,S_pass,S_set2,S_brk,S_cont,E_var,E_int,E_bl,E_non,E_str,E_gv,E_tup,E_lst,E_bin,E_neg,E_not,E_cmp,E_and,E_or,E_ite,E_ix,E_sl,E_call,E_blt,E_inst,E_met,E_comp,E_tmp,Es_nil,Es_cons,O_no,O_yes,T_and,T_or,T_not,T_cmp,T_var,T_call,T_blt,T_inst,T_tmp,T_ix,AV_one,AV_cons,OV_one,OV_cons,AT_nil,AT_one,AT_cons,OT_one,OT_cons,It_seq,It_r1,It_r2,It_zip,It_enum,Tg_name,Tg_tup,Tg_ltup,Tg_sub,Tgs_nil,Tgs_cons,W_add,W_sub,W_mul,W_div,W_mod,W_pow,W_addL,W_mulL,W_addT,W_addS,W_lenS,W_intS,W_ixS,W_in,W_eq,W_ne,W_isN,W_isB,W_notN,W_notB,W_lt,W_le,W_gt,W_ge,W_eqI,W_eqB,W_eqS,isNon_non,isNon_bl,isNon_int,isNon_str,isNon_tup,isNon_ref,isBl_tt,isBl_tf,isBl_ft,isBl_ff,isBl_int,isBl_non,isBl_tup,seqAt_tup,seqAt_rdl,listAt_rdl,kindP_non,kindP_bl,kindP_int,kindP_str,kindP_tup,kindP_rdl,W_ixT,W_ixR,W_ixL,atI_0,atI_1,atI_2,atI_3,W_slT,W_slR,W_slL,W_slS,W_lenT,W_lenR,W_lenL,W_max,W_min,W_divmod,W_int1,W_tupT,W_tupL,W_listT,W_listL,W_all,W_any,W_abs,W_app,W_pop,W_ext,W_tB,W_tN,W_tI,W_tT,W_tL,W_set,W_augI,W_augL,W_augS,frame,Γ_0,Γ_1,Γ_2,Γ_3,Γ_4,Γ_5,Γ_6,Γ_7,Γ_8,Γ_9,Γ_10,Γ_11,Γ_12,Γ_13,Γ_14,Γ_15,Γ_16,Γ_17,Γ_18,Γ_19,Γ_20,Γ_21,Γ_22,Γ_23,Γ_24,Γ_25,Γ_26,Γ_27,Γ_28,Γ_29,Γ_30,Γ_31,Γ_32,Γ_33,Γ_34,Γ_35,Γ_36,Γ_37,Γ_38,Nat.add_assoc,get_app,get_app0,List.append_assoc,List.length_append,List.length_set,List.map_cons,List.map_nil,List.length_cons,List.length_nil,List.replicate,List.cons_append,List.nil_append,List.append_nil,List.getElem?_cons_zero,List.getElem?_cons_succ,List.set_cons_zero,List.set_cons_succ,Option.some.injEq,Cell.lst.injEq,PV.int.injEq,PV.bl.injEq,PV.ref.injEq,PV.str.injEq,PV.tup.injEq,PV.rdl.injEq,List.cons.injEq,and_true,true_and,exists_eq_left,exists_eq_left',exists_eq_right,exists_and_left,exists_and_right,exists_const,Bool.not_true,Bool.not_false,Bool.not_not,Bool.not_eq_true',decide_eq_true_eq,decide_eq_false_iff_not,false_and,and_false,false_or,or_false,if_true,if_false,Bool.false_eq_true,reduceCtorEq,reduceIte,not_false_eq_true,Nat.add_zero,Nat.zero_add,Nat.reduceAdd,Nat.reduceSub,Nat.reduceLeDiff,Int.reduceToNat,Int.reducePow,Int.reduceLT,Int.reduceLE,Int.reduceNeg,Int.reduceAdd,Int.reduceSub,Int.reduceMul,Sz_nil,Sz_cons,exists_eq,exists_eq',exists_false,ne_eq,not_true_eq_false,and_assoc,Option.join_some,Option.join_none,decide_true,decide_false,castN0,castN1,castN2,castN3,castN4,castN5,castN6,Int.reduceEq,Nat.reduceEqDiff,Bool.not_eq_false,Bool.not_eq_true,Bool.and_true,Bool.true_and,Bool.and_false,Bool.false_and,Bool.or_false,Bool.or_true,optV])
theorem w_is_whole {as st Q} (h:sp_is_whole as st Q):wpSs Γ code_is_whole (frame 1 as) st (bodyEnds st Q):=by
 obtain ⟨v,rfl,hb,k⟩:=h
 obtain ⟨n,hn⟩:=kind_of_bel hb
 unfold code_is_whole
 walk_at "WP"
 rw [whole_kind hn] at k
 refine ⟨n,hn,?_⟩
 cases e:isKind "int" n with
 | false =>
  rw [e] at k
  exact .inl k
 | true =>
  rw [e] at k
  exact iteT ⟨n,hn,.inl k⟩
theorem w_common_divisor {as st Q} (h:sp_common_divisor as st Q):wpSs Γ code_common_divisor (frame 2 as) st (bodyEnds st Q):=by
 obtain ⟨n,d,rfl,k⟩:=h
 unfold code_common_divisor
 walk_at "WP"
 refine while_by Γm (fun m ρ s=>∃a b:Nat,ρ=[some (.int a),some (.int b)]∧s=st∧Nat.gcd a b=Nat.gcd n d∧m=b) (n:=d) ⟨n,d,rfl,rfl,rfl,rfl⟩ ?_
 rintro m ρ s ⟨a,b,rfl,rfl,hg,rfl⟩
 walk_at "WP"
 by_cases hb:(m:Int)=0
 ·rw [if_neg (fun z=>z hb)]
  have:m=0:=by omega
  subst this
  rw [Nat.gcd_zero_right] at hg
  rw [hg]
  exact .inl k
 ·rw [if_pos hb]
  refine ⟨by omega,a % m,Nat.mod_lt _ (by omega),m,rfl,a % m,?_,?_,rfl⟩
  ·simp
  ·rw [←hg,Nat.gcd_comm a m,Nat.gcd_rec m a,Nat.gcd_comm]
theorem two_of {xs:List PV} (h:xs.length=2):∃x y,xs=[x,y]:=by
 match xs,h with
 | [x,y],_=>exact ⟨x,y,rfl⟩
theorem bels_two {k:Nat} {x y:PV} (h:(PV.tup [x,y]).bel k=true):x.bel k=true∧y.bel k=true:=by
 rw [PV.bel,PV.bels,PV.bels,PV.bels,Bool.and_true,Bool.and_eq_true] at h
 exact h
theorem w_is_fraction {as st Q} (h:sp_is_fraction as st Q):wpSs Γ code_is_fraction (frame 3 as) st (bodyEnds st Q):=by
 obtain ⟨v,rfl,hb,k⟩:=h
 obtain ⟨n,hn⟩:=kind_of_bel hb
 unfold code_is_fraction
 walk_at "WP"
 refine ⟨n,hn,?_⟩
 obtain ⟨kt,kf⟩:=kind_tuple hn
 cases e:isKind "tuple" n with
 | false =>
  rw [kf e] at k
  exact .inl k
 | true =>
  obtain ⟨xs,rfl⟩:=kt e
  walk_at "WP"
  by_cases hl:xs.length=2
  ·obtain ⟨x,y,rfl⟩:=two_of hl
   obtain ⟨bx,by'⟩:=bels_two hb
   rw [isFr_two] at k
   walk_at "WP"
   refine ⟨x,rfl,bx,?_⟩
   cases x with
   | int i =>
    simp only [wholeP];walk_at "WP"
    refine ⟨y,rfl,by',?_⟩
    cases y with
    | int j =>
     simp only [wholeP];walk_at "WP"
     by_cases h0:0≤i
     ·rw [if_pos h0]
      by_cases h1:1≤j
      ·rw [if_pos h1]
       refine ⟨i.toNat,j.toNat,?_,?_⟩
       ·rw [Int.toNat_of_nonneg h0,Int.toNat_of_nonneg (by omega)]
       ·walk_at "WP"
        rw [gcd_one_int h0 h1]
        exact .inl k
      ·rw [if_neg h1]
       simp only [h1,false_and,and_false,decide_false] at k
       exact .inl k
     ·rw [if_neg h0]
      simp only [h0,false_and,decide_false] at k
      exact .inl k
    | _=>simp only [wholeP];walk_at "WP";exact .inl k
   | _=>simp only [wholeP];walk_at "WP";exact .inl k
  ·rw [isFr_len hl] at k
   rw [if_pos (by omega)]
   exact .inl k
theorem w_fraction {as st Q} (h:sp_fraction as st Q):wpSs Γ code_fraction (frame 3 as) st (bodyEnds st Q):=by
 obtain ⟨n,d,rfl,h1,h2,k⟩:=h
 unfold code_fraction
 walk_at "WP"
 refine ⟨n,d,rfl,?_⟩
 walk_at "WP"
 refine ⟨gcd_big h1 h2,gcd_big h1 h2,?_⟩
 rw [←Int.natCast_ediv,←Int.natCast_ediv]
 exact .inl k
theorem w_less {as st Q} (h:sp_less as st Q):wpSs Γ code_less (frame 2 as) st (bodyEnds st Q):=by
 obtain ⟨p,q,rfl,hp,hq,hle,k⟩:=h
 unfold code_less
 walk_at "WP"
 refine ⟨cmbN hp.a hq.b,cmbN hq.a hp.b,cmbN hp.b hq.b,p.1*q.2-q.1*p.2,p.2*q.2,?_,Nat.mul_pos hp.pos hq.pos,big2 hp.b hq.b,.inl k⟩
 rw [Int.natCast_sub hle,Int.natCast_mul,Int.natCast_mul,Int.natCast_mul]
theorem w_times {as st Q} (h:sp_times as st Q):wpSs Γ code_times (frame 2 as) st (bodyEnds st Q):=by
 obtain ⟨p,q,rfl,hp,hq,k⟩:=h
 unfold code_times
 walk_at "WP"
 refine ⟨cmbN hp.a hq.a,cmbN hp.b hq.b,p.1*q.1,p.2*q.2,?_,Nat.mul_pos hp.pos hq.pos,big2 hp.b hq.b,.inl k⟩
 rw [Int.natCast_mul,Int.natCast_mul]
theorem eqW_nil {s:AH} {n m:Nat} {xs:List PV} {k:Bool→Prop} (h1:s[n]?=some (.lst xs)) (h2:s[m]?=some (.lst [])) (hd:PVdats 5 xs=true) (q:k xs.isEmpty):eqW s (.ref n) (.ref m) k:=by
 obtain ⟨ds,e,d1,d2⟩:=PVdats_to hd
 refine ⟨.list ds,.list [],by simp [deep,h1,e],by simp [deep,h2,PV.toDs],by simp [SeqAt.shaped,PyData.canLay0,PyData.depth,d1];omega,by simp [SeqAt.shaped,PyData.canLay0,PyData.canLayAll0,PyData.depth,PyData.depthAll],?_⟩
 have:PyData.eqv (.list ds) (.list [])=xs.isEmpty:=by
  cases xs with
  | nil=>simp [PV.toDs] at e;subst e;simp [PyData.eqv,PyData.eqvAll]
  | cons y ys =>
   cases ds with
   | nil=>rw [PV.toDs] at e;split at e <;> simp at e
   | cons=>simp [PyData.eqv,PyData.eqvAll]
 rw [this]
 exact q
theorem row_dats {X:List Pc}:PVdats 5 (X.map pcV)=true:=PVdats_of fun v hv=>by
 obtain ⟨p,_,rfl⟩:=List.mem_map.mp hv
 rfl
theorem get_mid {st g:AH} {c:Cell}:(st++c::g)[st.length]?=some c:=by simp
theorem set_mid {st g:AH} {c c':Cell}:(st++c::g).set st.length c'=st++c'::g:=by
 rw [List.set_append_right _ _ (Nat.le_refl _),Nat.sub_self]
 rfl
theorem sub_le {p q:Nat × Nat} (hp:Sz 3000 p) (hq:Sz 3000 q) (h:val q≤val p):q.1*p.2≤p.1*q.2:=(val_le hq.pos hp.pos).mpr h
theorem w_goes_on {as st Q} (h:sp_goes_on as st Q):wpSs Γ code_goes_on (frame 7 as) st (bodyEnds st Q):=by
 obtain ⟨b,a,p,rfl,hb,ha,hp,h1,h2,h3,h4,k⟩:=h
 unfold code_goes_on
 walk_at "WP"
 refine fr_eqW ?_
 by_cases q:p.l=a.h
 ·rw [decide_eq_true q]
  walk_at "WP"
  have c1:=ha.h.mono (k:=3000) (by decide)
  have c2:=ha.l.mono (k:=3000) (by decide)
  have c3:=ha.e.mono (k:=3000) (by decide)
  have c4:=hb.mono (k:=3000) (by decide)
  have c5:=hp.h.mono (k:=3000) (by decide)
  have c6:=hp.l.mono (k:=3000) (by decide)
  have c7:=hp.e.mono (k:=3000) (by decide)
  refine ⟨a.h,a.l,rfl,c1,c2,sub_le c1 c2 h3,a.e,b,rfl,c3,c4,sub_le c3 c4 h1,p.h,p.l,rfl,c5,c6,sub_le c5 c6 h4,p.e,a.e,rfl,c7,c3,sub_le c7 c3 (Rat.le_of_lt h2),?_⟩
  have d1:=(subp_sz ha.h ha.l).mono (k:=3000) (by decide)
  have d2:=(subp_sz ha.e hb).mono (k:=3000) (by decide)
  have d3:=(subp_sz hp.h hp.l).mono (k:=3000) (by decide)
  have d4:=(subp_sz hp.e ha.e).mono (k:=3000) (by decide)
  refine ⟨_,_,rfl,d1,d4,_,_,rfl,d3,d2,fr_eqW (.inl ?_)⟩
  unfold gB at k
  rw [decide_eq_true q,Bool.true_and] at k
  exact k
 ·rw [decide_eq_false q]
  walk_at "WP"
  unfold gB at k
  rw [decide_eq_false q,Bool.false_and] at k
  exact .inl k
noncomputable def LnI (st:AH) (L:List Pc) (i:Nat) (ρ:Fr) (s:AH):Prop:=∃(X:List Pc) (b:Nat × Nat) (g:AH) (a:Option PV),s=st++.lst (X.map pcV)::g∧ρ=[some (rowV L),some (.ref st.length),some (fr b),a]∧X.length≤i ∧
  ((X=[]∧b=(0,1)∧i=0)∨∃Y c,X=Y++[c]∧leanF L=Y++leanGo b c (L.drop i)∧Sz 1400 b∧c.Sz 1400∧val b≤c.E∧c.L≤c.H∧Ch c.E (L.drop i))
theorem map_snoc {Y:List Pc} {c:Pc}:(Y++[c]).map pcV=Y.map pcV++[pcV c]:=by simp
theorem emp_snoc {Y:List Pc} {c:Pc}:((Y++[c]).map pcV).isEmpty=false:=by simp
theorem ixN_last {n:Nat}:ixN (n+1) (-1)=some n:=by
 unfold ixN
 simp
 omega
theorem w_lean {as st Q} (h:sp_lean as st Q):wpSs Γ code_lean (frame 4 as) st (bodyEnds st Q):=by
 obtain ⟨L,rfl,hz,hL,hl,k⟩:=h
 unfold code_lean
 walk_at "WP"
 have s01:Sz 1400 (0,1):=⟨Nat.pow_pos (by decide),Nat.one_lt_two_pow (by decide),by decide⟩
 refine for_by Γm (LnI st L) ⟨[],(0,1),[],none,rfl,rfl,Nat.le_refl _,.inl ⟨rfl,rfl,rfl⟩⟩ ?_ ?_
 ·rintro i v ρ s hi ⟨X,b,g,a,rfl,rfl,hXi,hX⟩
  refine ⟨trivial,?_⟩
  rw [List.getElem?_map] at hi
  obtain ⟨p,hp,rfl⟩:=Option.map_eq_some_iff.mp hi
  have il:=(List.getElem?_eq_some_iff.mp hp).1
  have hd:L.drop i=p::L.drop (i+1):=by rw [List.drop_eq_getElem_cons il,(List.getElem?_eq_some_iff.mp hp).2]
  have pz:=hz p (List.mem_of_getElem? hp)
  walk_at "WP"
  refine eqW_nil (xs:=X.map pcV) (by simp) (by simp) row_dats ?_
  rcases hX with ⟨rfl,rfl,rfl⟩|⟨Y,c,rfl,hF,zb,zc,o1,o2,hc⟩
  ·rw [if_neg (by simp)]
   refine eqW_nil (xs:=[]) (by simp) (by simp) (by rw [PVdats]) ?_
   rw [if_pos (show ([]:List PV).isEmpty=true from rfl)]
   refine ⟨⟨_,listAt_ref get_mid⟩,by simp,[p],(0,1),g++[.lst [],.lst []],some (pcV p),?_,rfl,by simp,.inr ⟨[],p,rfl,?_,s01,pz,?_⟩⟩
   ·rw [set_mid];rfl
   ·have:L=p::L.drop 1:=by simpa using hd
    rw [this]
    rfl
   ·have e:L=p::L.drop 1:=by simpa using hd
    rw [e] at hL
    exact ⟨by rw [val_nought];exact val_nn hL.1.e.pos,hL.2.1,hL.2.2⟩
  ·rw [if_pos emp_snoc]
   rw [hd] at hc hF
   obtain ⟨pok,c1,c2,c3⟩:=hc
   refine ⟨_,seqAt_ref get_mid,pcV c,by rw [map_snoc];exact atI_last,b,c,p,rfl,zb,zc,pz,o1,c1,o2,c2,?_⟩
   rw [leanGo] at hF
   have len:((Y++[c]).map pcV).length=Y.length+1:=by simp
   have lY:Y.length+1≤i:=by simpa using hXi
   cases gb:gB b c p with
   | true =>
    rw [if_pos gb] at hF
    walk_at "WP"
    refine ⟨_,seqAt_ref get_mid,pcV c,by rw [map_snoc];exact atI_last,?_⟩
    walk_at "WP"
    refine ⟨Y.length,by rw [List.length_map,List.length_append];exact ixN_last,Y++[c.mg p],b,g++[.lst []],some (pcV p),?_,rfl,by simp;omega,.inr ⟨Y,c.mg p,rfl,hF,zb,⟨pz.e,zc.l,pz.h⟩,?_,?_,c3⟩⟩
    ·rw [set_mid,map_snoc]
     simp
    ·show val b≤p.E
     grind
    ·show c.L≤p.H
     have e:p.l=c.h:=by
      unfold gB at gb
      rw [Bool.and_eq_true,decide_eq_true_eq] at gb
      exact gb.1
     have:p.L=c.H:=by unfold Pc.L Pc.H;rw [e]
     grind
   | false =>
    rw [if_neg (by rw [gb];decide)] at hF
    walk_at "WP"
    refine eqW_nil (xs:=(Y++[c]).map pcV) (by simp) (by simp) row_dats ?_
    rw [emp_snoc,if_neg (by decide)]
    refine ⟨_,seqAt_ref get_mid,pcV c,by rw [map_snoc];exact atI_last,?_⟩
    walk_at "WP"
    refine ⟨⟨_,listAt_ref get_mid⟩,by rw [len];omega,Y++[c]++[p],c.e,g++[.lst [],.lst []],some (pcV p),?_,rfl,by simp;omega,.inr ⟨Y++[c],p,rfl,?_,zc.e,pz,Rat.le_of_lt c1,c2,c3⟩⟩
    ·rw [set_mid]
     simp
    ·rw [hF]
     simp
 ·rintro ρ s ⟨X,b,g,a,rfl,rfl,hXi,hX⟩
  refine ⟨trivial,?_⟩
  walk_at "WP"
  have fin:leanF L=X:=by
   rw [List.length_map] at hX
   rcases hX with ⟨rfl,_,h0⟩|⟨Y,c,rfl,hF,_⟩
   ·rw [List.length_eq_zero_iff.mp h0];rfl
   ·rw [hF,List.drop_length];rfl
  refine ⟨_,seqAt_ref get_mid,.inr (.app ?_ ?_)⟩
  ·refine PV.bel_le (Nat.zero_le _) ?_
   rw [PV.bel]
   clear hX fin hXi
   induction X with
   | nil=>rw [List.map_nil,PV.bels]
   | cons x xs ih=>rw [List.map_cons,PV.bels,ih];rfl
  ·rw [fin] at k
   exact k
theorem snoc_or {α:Type} (U:List α):U=[]∨∃Y c,U=Y++[c]:=by
 rcases List.eq_nil_or_concat U with h|⟨Y,c,h⟩
 ·exact .inl h
 ·exact .inr ⟨Y,c,by rw [h,List.concat_eq_append]⟩
theorem us_dats {X:List Un3}:PVdats 5 (X.map uV)=true:=PVdats_of fun v hv=>by
 obtain ⟨p,_,rfl⟩:=List.mem_map.mp hv
 rfl
theorem RU_app:∀ {U:List Un3} {b hh:Nat} {u:Un3},RU b hh U→(U=[]→b<u.1∧hh≤u.2.1∧u.2.1≤u.2.2∧u.1≤u.2.2)→(∀v,U.getLast?=some v→v.1<u.1∧v.2.2≤u.2.1∧u.2.1≤u.2.2∧u.1≤u.2.2)→RU b hh (U++[u])
 | [],b,hh,u,_,h1,_=>by
  obtain ⟨a1,a2,a3,a4⟩:=h1 rfl
  exact ⟨a1,a2,a3,a4,trivial⟩
 | v::U,b,hh,u,⟨k1,k2,k3,k4,k5⟩,_,h2=>by
  refine ⟨k1,k2,k3,k4,RU_app k5 (fun e=>?_) fun w hw=>h2 w ?_⟩
  ·subst e
   exact h2 v rfl
  ·cases U with
   | nil=>simp at hw
   | cons z Z=>rw [List.getLast?_cons_cons];exact hw
theorem RUF_app {U:List Un3} {u:Un3} (h:RUF U) (a:App U u):RUF (U++[u]):=by
 cases U with
 | nil =>
  obtain ⟨a1,a2,a3⟩:=a.fst rfl
  exact ⟨a1,a2,a3,trivial⟩
 | cons v U =>
  obtain ⟨k1,k2,k3,k4⟩:=h
  refine ⟨k1,k2,k3,RU_app k4 (fun e=>?_) fun w hw=>a.nxt w ?_⟩
  ·subst e
   exact a.nxt v rfl
  ·cases U with
   | nil=>simp at hw
   | cons z Z=>rw [List.getLast?_cons_cons];exact hw
theorem ifmax (a b:Nat):∃M:Nat,(if (a:Int)<b then (b:Int) else a)=M∧a≤M∧b≤M∧(M=a∨M=b):=by
 by_cases h:a<b
 ·exact ⟨b,by rw [if_pos (by omega)],by omega,by omega,.inr rfl⟩
 ·exact ⟨a,by rw [if_neg (by omega)],by omega,by omega,.inl rfl⟩
theorem ite_by {p:Prop} {inst:Decidable p} {A B:Prop} (h1:p→A) (h2:¬p→B):@ite Prop p inst A B:=by
 by_cases h:p
 ·rw [if_pos h];exact h1 h
 ·rw [if_neg h];exact h2 h
theorem BdU.mono {N M:Nat} {U:List Un3} (h:BdU N U) (hm:N≤M):BdU M U:=fun u hu=>⟨Nat.le_trans (h u hu).1 hm,Nat.le_trans (h u hu).2.1 hm,Nat.le_trans (h u hu).2.2 hm⟩
theorem Rt.at_:∀ {r:List Pc} {b hh:Rat} {i:Nat} {p:Pc},Rt b hh r→r[i]?=some p→p.Ok∧p.L≤p.H∧p.E≤p.H∧b<p.E∧hh≤p.L
 | q::r,b,hh,0,p,⟨h1,h2,h3,h4,h5,h6⟩,e=>by cases e;exact ⟨h1,h4,h5,h2,h3⟩
 | q::r,b,hh,i+1,p,⟨h1,h2,h3,h4,h5,h6⟩,e=>by
  obtain ⟨k1,k2,k3,k4,k5⟩:=h6.at_ (i:=i) (by simpa using e)
  exact ⟨k1,k2,k3,by grind,by grind⟩
theorem Rt.two:∀ {r:List Pc} {b hh:Rat} {i:Nat} {q p:Pc},Rt b hh r→r[i]?=some q→r[i+1]?=some p→q.E<p.E∧q.H≤p.L
 | a::r,b,hh,0,q,p,⟨h1,h2,h3,h4,h5,h6⟩,e1,e2=>by
  cases e1
  have:=h6.at_ (i:=0) (by simpa using e2)
  exact ⟨this.2.2.2.1,this.2.2.2.2⟩
 | a::r,b,hh,i+1,q,p,⟨h1,h2,h3,h4,h5,h6⟩,e1,e2=>h6.two (i:=i) (by simpa using e1) (by simpa using e2)
theorem RtF.at_ {L:List Pc} {i:Nat} {p:Pc} (h:RtF L) (e:L[i]?=some p):p.Ok∧p.L≤p.H∧p.E≤p.H:=by
 cases L with
 | nil=>simp at e
 | cons a r =>
  cases i with
  | zero=>cases e;exact ⟨h.1,h.2.1,h.2.2.1⟩
  | succ i =>
   obtain ⟨k1,k2,k3,k4,k5⟩:=h.2.2.2.2.at_ (i:=i) (by simpa using e)
   exact ⟨k1,k2,k3⟩
theorem RtF.two {L:List Pc} {i:Nat} {q p:Pc} (h:RtF L) (e1:L[i]?=some q) (e2:L[i+1]?=some p):q.E<p.E∧q.H≤p.L:=by
 cases L with
 | nil=>simp at e1
 | cons a r =>
  cases i with
  | zero =>
   cases e1
   obtain ⟨k1,k2,k3,k4,k5⟩:=h.2.2.2.2.at_ (i:=0) (by simpa using e2)
   exact ⟨k4,k5⟩
  | succ i=>exact h.2.2.2.2.two (i:=i) (by simpa using e1) (by simpa using e2)
noncomputable def bg (L:List Pc):Nat→Nat × Nat
 | 0=>(0,1)
 | i+1=>((L[i]?).map Pc.e).getD (0,1)
noncomputable def hg (L:List Pc):Nat→Nat × Nat
 | 0=>(0,1)
 | i+1=>((L[i]?).map Pc.h).getD (0,1)
theorem blt_no {p q:Nat × Nat} {j:Nat} (hp:Sz j p) (hq:Sz j q) (h:val q≤val p):decide (p.1*q.2<q.1*p.2)=false:=decide_eq_false fun z=>by
 have:=(val_lt hp.pos hq.pos).mp z
 grind
theorem blt_yes {p q:Nat × Nat} {j:Nat} (hp:Sz j p) (hq:Sz j q) (h:val p<val q):decide (p.1*q.2<q.1*p.2)=true:=decide_eq_true ((val_lt hp.pos hq.pos).mpr h)
theorem all_true {α:Type} {L:List α}:(L.map fun _=>true).all id=true:=by simp
theorem bgS {L:List Pc} {i:Nat} {q:Pc} (h:L[i]?=some q):bg L (i+1)=q.e:=by show ((L[i]?).map Pc.e).getD (0,1)=_;rw [h];rfl
theorem nb {L:List Pc} {i:Nat} {q:Pc} (hR:RtF L) (hq:L[i]?=some q):Cop (bg L i)∧val (bg L i)≤q.E∧(val (bg L i)=q.E→q.L=q.H)∧(i≠0→val (bg L i)<q.E):=by
 obtain ⟨qok,q1,q2⟩:=hR.at_ hq
 cases i with
 | zero =>
  refine ⟨cop01,?_,?_,fun z=>absurd rfl z⟩
  ·show val (0,1)≤_;rw [val_nought];exact val_nn qok.e.pos
  ·show val (0,1)=_→_
   rw [val_nought]
   cases L with
   | nil=>simp at hq
   | cons a r=>cases hq;exact hR.2.2.2.1
 | succ i =>
  have il:=(List.getElem?_eq_some_iff.mp hq).1
  have ha:L[i]?=some L[i]:=List.getElem?_eq_getElem (by omega)
  obtain ⟨k1,k2⟩:=hR.two ha hq
  rw [bgS ha]
  exact ⟨(hR.at_ ha).1.e,Rat.le_of_lt k1,fun z=>absurd z (by grind),fun _=>k1⟩
theorem bgZ {L:List Pc} {i k:Nat} (hz:SzL k L) (h:i≤L.length) (h1:1≤k):Sz k (bg L i):=by
 cases i with
 | zero=>exact (⟨Nat.pow_pos (by decide),Nat.one_lt_two_pow (by omega),by decide⟩:Sz k (0,1))
 | succ i =>
  have ha:L[i]?=some L[i]:=List.getElem?_eq_getElem (by omega)
  rw [bgS ha]
  exact (hz _ (List.mem_of_getElem? ha)).e
theorem row_bel {X:List Pc} {n:Nat}:(rowV X).bel n=true:=by
 refine PV.bel_le (Nat.zero_le _) ?_
 rw [PV.bel]
 induction X with
 | nil=>rw [List.map_nil,PV.bels]
 | cons x xs ih=>rw [List.map_cons,PV.bels,ih];rfl
theorem row_dat {X:List Pc}:PVdat 4 (rowV X)=true:=PVdat_tup fun v hv=>by
 obtain ⟨p,_,rfl⟩:=List.mem_map.mp hv
 rfl
theorem same_nil {M:List PV}:PV.same (.tup M) (.tup [])=M.isEmpty:=by cases M <;> simp [PV.same,PV.sames]
theorem RU.rt {d:Nat} (h0:0<d):∀ {U:List Un3} {b hh:Nat},RU b hh U→Rt ((b:Rat)/d) ((hh:Rat)/d) (U.map (pcOf d))
 | [],_,_,_=>trivial
 | u::r,b,hh,⟨h1,h2,h3,h4,h5⟩=>by
  have dp:=ratpos h0
  have lt:∀ {x y:Nat},x<y→(x:Rat)/d<(y:Rat)/d:=fun h=>by
   rw [Rat.div_lt_iff dp]
   have e:∀y:Rat,y/d*d=y:=fun y=>by grind
   rw [e]
   exact Rat.natCast_lt_natCast.mpr h
  have le:∀ {x y:Nat},x≤y→(x:Rat)/d≤(y:Rat)/d:=fun {x y} h=>by
   by_cases e:x=y
   ·rw [e];exact Rat.le_refl
   ·exact Rat.le_of_lt (lt (by omega))
  have ih:=RU.rt h0 h5
  refine ⟨⟨.low h0,.low h0,.low h0⟩,?_,?_,?_,?_,?_⟩
  ·show _<val (lowp u.1 d);rw [val_low h0];exact lt h1
  ·show _≤val (lowp u.2.1 d);rw [val_low h0];exact le h2
  ·show val (lowp u.2.1 d)≤val (lowp u.2.2 d);rw [val_low h0,val_low h0];exact le h3
  ·show val (lowp u.1 d)≤val (lowp u.2.2 d);rw [val_low h0,val_low h0];exact le h4
  ·show Rt (val (lowp u.1 d)) (val (lowp u.2.2 d)) _
   rw [val_low h0,val_low h0]
   exact ih
theorem RUF.rt {d:Nat} (h0:0<d) {U:List Un3} (h:RUF U):RtF (U.map (pcOf d)):=by
 cases U with
 | nil=>trivial
 | cons u r =>
  obtain ⟨h1,h2,h3,h4⟩:=h
  have dp:=ratpos h0
  have le:∀ {x y:Nat},x≤y→(x:Rat)/d≤(y:Rat)/d:=fun {x y} h=>by
   rw [←Rat.not_lt,Rat.div_lt_iff dp]
   have e:∀y:Rat,y/d*d=y:=fun y=>by grind
   rw [e,Rat.not_lt]
   exact Rat.natCast_le_natCast.mpr h
  refine ⟨⟨.low h0,.low h0,.low h0⟩,?_,?_,?_,?_⟩
  ·show val (lowp u.2.1 d)≤val (lowp u.2.2 d);rw [val_low h0,val_low h0];exact le h1
  ·show val (lowp u.1 d)≤val (lowp u.2.2 d);rw [val_low h0,val_low h0];exact le h2
  ·show 0=val (lowp u.1 d)→val (lowp u.2.1 d)=val (lowp u.2.2 d)
   rw [val_low h0,val_low h0,val_low h0]
   intro z
   have:u.1=0:=by
    have e:(u.1:Rat)=0:=by grind
    exact Rat.natCast_eq_zero_iff.mp e
   rw [h3 this]
  ·show Rt (val (lowp u.1 d)) (val (lowp u.2.2 d)) _
   rw [val_low h0,val_low h0]
   exact h4.rt h0
theorem go_sub {k:Nat}:∀ {r:List Pc} {b:Nat × Nat} {a:Pc},a.Sz k→SzL k r→SzL k (leanGo b a r)
 | [],b,a,ha,_=>fun p hp=>by rw [leanGo,List.mem_singleton] at hp;rw [hp];exact ha
 | q::r,b,a,ha,hr=>by
  have hq:=hr q (by simp)
  have hr':SzL k r:=fun p hp=>hr p (by simp [hp])
  rw [leanGo]
  by_cases g:gB b a q=true
  ·rw [if_pos g]
   exact go_sub (a:=a.mg q) ⟨hq.e,ha.l,hq.h⟩ hr'
  ·rw [if_neg g]
   intro p hp
   rcases List.mem_cons.mp hp with rfl|hp
   ·exact ha
   ·exact go_sub hq hr' p hp
theorem leanF_sz {k:Nat} {L:List Pc} (h:SzL k L):SzL k (leanF L):=by
 cases L with
 | nil=>exact h
 | cons a r=>exact go_sub (h a (by simp)) fun p hp=>h p (by simp [hp])
theorem go_len:∀ {r:List Pc} {b:Nat × Nat} {a:Pc},(leanGo b a r).length≤r.length+1
 | [],b,a=>Nat.le_refl _
 | q::r,b,a=>by
  rw [leanGo]
  by_cases g:gB b a q=true
  ·rw [if_pos g]
   have:=go_len (r:=r) (b:=b) (a:=a.mg q)
   simp;omega
  ·rw [if_neg g]
   have:=go_len (r:=r) (b:=a.e) (a:=q)
   simp;omega
theorem leanF_len {L:List Pc}:(leanF L).length≤L.length:=by
 cases L with
 | nil=>exact Nat.le_refl _
 | cons a r=>exact go_len
theorem w_how_many {a:Nat} {L:FSp} (hL:FMono L) {as st Q} (q:spHm a L as st Q):wpSs (ΓL Γ a L) code_how_many (frame 5 as) st (bodyEnds st Q):=by
 obtain ⟨xs,g,rfl,hl,hg,q⟩:=q
 unfold code_how_many
 walk_at "WP"
 refine while_by (ΓL_mono Γm hL) (fun m ρ s=>∃(lo hi:Nat) (c:Option PV),ρ=[some (.tup xs),some (.fn a),some (.int lo),some (.int hi),c]∧s=st∧hi≤xs.length∧m=hi-lo∧∃n,m≤n∧bsr g xs=bsGo g xs n lo hi) (n:=xs.length-0) ⟨0,xs.length,none,rfl,rfl,Nat.le_refl _,rfl,xs.length,Nat.le_refl _,rfl⟩ ?_
 rintro m ρ s ⟨lo,hi,c,rfl,rfl,hh,rfl,n,hn,hb⟩
 walk_at "WP"
 by_cases h:lo<hi
 ·have h':(lo:Int)<hi:=by omega
  rw [if_pos (by simpa using h')]
  have e:((lo:Int)+hi)/2=((lo+hi)/2:Nat):=by omega
  rw [e]
  have hm:(lo+hi)/2<xs.length:=by omega
  have ha:atI xs (((lo+hi)/2:Nat):Int)=some xs[(lo+hi)/2]:=atI_nat (List.getElem?_eq_getElem hm)
  cases n with
  | zero=>omega
  | succ n =>
   rw [bsGo,if_pos h] at hb
   have hd:xs.getD ((lo+hi)/2) .non=xs[(lo+hi)/2]:=by simp [List.getD_eq_getElem?_getD,hm]
   rw [hd] at hb
   refine ⟨CBig.of (by decide) (by decide),a,rfl,_,ha,?_⟩
   rw [ΓL_at]
   refine ⟨_,rfl,hg _ (List.getElem_mem hm) _ ?_⟩
   cases hz:g xs[(lo+hi)/2] with
   | true =>
    rw [hz,if_pos rfl] at hb
    simp only [hz,truW,if_true]
    exact ⟨hi-((lo+hi)/2+1),by omega,(lo+hi)/2+1,by omega,hi,rfl,trivial,hh,rfl,n,by omega,hb⟩
   | false =>
    rw [hz,if_neg Bool.false_ne_true] at hb
    simp only [hz,truW,Bool.false_eq_true,if_false]
    exact ⟨(lo+hi)/2-lo,by omega,lo,rfl,(lo+hi)/2,rfl,trivial,by omega,rfl,n,by omega,hb⟩
 ·have h':¬(lo:Int)<hi:=by omega
  rw [if_neg (by simpa using h')]
  have:bsGo g xs n lo hi=lo:=by
   cases n with
   | zero=>rfl
   | succ n=>rw [bsGo,if_neg h]
  rw [this] at hb
  rw [hb] at q
  exact .inl q
theorem cm_drop {L:List Pc} {t:Rat} (hR:RtF L):∀ {i:Nat},i≤L.length→(i=0∨val (bg L i)<t)→cm 0 L t=cm (val (bg L i)) (L.drop i) t
 | 0,_,_=>by
  show _=cm (val (0,1)) (L.drop 0) t
  rw [val_nought,List.drop_zero]
 | i+1,hi,h=>by
  have ha:L[i]?=some L[i]:=List.getElem?_eq_getElem (by omega)
  have h':val (bg L (i+1))<t:=h.resolve_left (by omega)
  rw [bgS ha] at h' ⊢
  obtain ⟨n1,n2,n3,n4⟩:=nb hR ha
  rw [cm_drop hR (i:=i) (by omega) (by grind),List.drop_eq_getElem_cons (show i<L.length by omega)]
  rw [cm,if_neg (show ¬t≤(L[i]).E by grind)]
theorem bgx_eq {L:List Pc} {i:Nat}:bgx L i=bg L i:=by cases i <;> rfl
theorem w_crosswise {as st Q} (h:sp_crosswise as st Q):wpSs Γ code_crosswise (frame 2 as) st (bodyEnds st Q):=by
 obtain ⟨p,q,rfl,hp,hq,k⟩:=h
 unfold code_crosswise
 walk_at "WP"
 exact ⟨cmbN hp.a hq.b,cmbN hq.a hp.b,.inl k⟩
theorem w_is_below {as st Q} (h:sp_is_below as st Q):wpSs Γ code_is_below (frame 2 as) st (bodyEnds st Q):=by
 obtain ⟨p,q,rfl,hp,hq,k⟩:=h
 unfold code_is_below
 walk_at "WP"
 refine ⟨cmbN hp.a hq.b,cmbN hq.a hp.b,?_⟩
 rw [←Int.natCast_mul,←Int.natCast_mul]
 simp only [Int.ofNat_lt]
 exact .inl k
theorem val_fst {p:Nat × Nat} (h:0<p.2):(p.1:Rat)=val p*(p.2:Rat):=by
 have:(p.2:Rat)≠0:=by simpa using Nat.pos_iff_ne_zero.mp h
 unfold val
 grind
theorem str_val {N Y F G X c:Rat} (hc:c≠0) (h:N<F):(c*(Y*(F-X)+G*(X-N)))/(c*(F-N))=Y+(G-Y)*((X-N)/(F-N)):=by
 have:F-N≠0:=by grind
 grind
theorem w_last {as st Q} (h:sp_last as st Q):wpSs Γ code_last (frame 1 as) st (bodyEnds st Q):=by
 obtain ⟨L,rfl,k⟩:=h
 unfold code_last
 walk_at "WP"
 refine eqW_dat (n:=4) (by decide) row_dat rfl ?_
 rcases List.eq_nil_or_concat L with rfl|⟨r,p,rfl⟩
 ·exact .inl k
 ·rw [List.concat_eq_append] at k ⊢
  have e:PV.same (rowV (r++[p])) (PV.tup [])=false:=by
   rw [same_nil]
   simp
  rw [List.getLast?_concat] at k
  rw [e,if_neg Bool.false_ne_true]
  refine ⟨pcV p,by rw [List.map_append];exact atI_last,?_⟩
  walk_at "WP"
  exact .inl k
theorem w_beginning_of {as st Q} (h:sp_beginning_of as st Q):wpSs Γ code_beginning_of (frame 2 as) st (bodyEnds st Q):=by
 obtain ⟨L,i,rfl,hi,k⟩:=h
 unfold code_beginning_of
 walk_at "WP"
 cases i with
 | zero=>rw [if_pos (by rfl)];exact .inl k
 | succ i =>
  rw [if_neg (by omega)]
  have ha:L[i]?=some L[i]:=List.getElem?_eq_getElem (by omega)
  have e:((i+1:Nat):Int)-1=(i:Int):=by omega
  rw [e]
  refine ⟨pcV L[i],atI_nat (by rw [List.getElem?_map,ha];rfl),?_⟩
  walk_at "WP"
  rw [bgx_eq,bgS ha] at k
  exact .inl k
theorem w_on_straight {as st Q} (h:sp_on_straight as st Q):wpSs Γ code_on_straight (frame 10 as) st (bodyEnds st Q):=by
 obtain ⟨j,m,nx,ny,fx,fy,x,rfl,⟨j1,j2⟩,⟨z1,z2,z3,z4,z5⟩,⟨v1,v2,v3⟩,k⟩:=h
 unfold code_on_straight
 walk_at "WP"
 have hD:nx.1*x.2≤x.1*nx.2:=(val_le z1.pos z5.pos).mpr v2
 have hE:x.1*fx.2≤fx.1*x.2:=(val_le z5.pos z3.pos).mpr v3
 have cD:(x.1:Int)*nx.2-nx.1*x.2=((x.1*nx.2-nx.1*x.2:Nat):Int):=by rw [Int.natCast_sub hD,Int.natCast_mul,Int.natCast_mul]
 have cE:(fx.1:Int)*x.2-x.1*fx.2=((fx.1*x.2-x.1*fx.2:Nat):Int):=by rw [Int.natCast_sub hE,Int.natCast_mul,Int.natCast_mul]
 refine ⟨_,_,rfl,z5.mono (by omega),z1.mono (by omega),?_⟩
 rw [cD]
 walk_at "WP"
 refine ⟨?_,_,_,rfl,z3.mono (by omega),z5.mono (by omega),?_⟩
 rotate_left
 rw [cE]
 walk_at "WP"
 simp only [←Int.natCast_mul,←Int.natCast_add]
 generalize hDd:x.1*nx.2-nx.1*x.2=D
 generalize hEe:fx.1*x.2-x.1*fx.2=E
 have p1:=ratpos z1.pos
 have p2:=ratpos z2.pos
 have p3:=ratpos z3.pos
 have p4:=ratpos z4.pos
 have p5:=ratpos z5.pos
 have qD:(D:Rat)=(val x-val nx)*(x.2*nx.2):=by
  have:=congrArg (fun k:Nat=>(k:Rat)) (Nat.sub_add_cancel hD)
  rw [hDd] at this
  simp only [Rat.natCast_add,Rat.natCast_mul] at this
  rw [val_fst z1.pos,val_fst z5.pos] at this
  grind
 have qE:(E:Rat)=(val fx-val x)*(fx.2*x.2):=by
  have:=congrArg (fun k:Nat=>(k:Rat)) (Nat.sub_add_cancel hE)
  rw [hEe] at this
  simp only [Rat.natCast_add,Rat.natCast_mul] at this
  rw [val_fst z3.pos,val_fst z5.pos] at this
  grind
 have bD:D<2 ^ (m+j):=by rw [←hDd];exact Nat.lt_of_le_of_lt (Nat.sub_le _ _) (mul_lt z5.a z1.b)
 have bE:E<2 ^ (j+m):=by rw [←hEe];exact Nat.lt_of_le_of_lt (Nat.sub_le _ _) (mul_lt z3.a z5.b)
 have b1:D*fx.2<2 ^ (m+j+j):=mul_lt bD z3.b
 have b2:E*nx.2<2 ^ (m+j+j):=by
  have:=mul_lt bE z1.b
  rwa [Nat.add_comm j m] at this
 have a1:ny.1*fy.2<2 ^ (j+j):=mul_lt z2.a z4.b
 have a2:fy.1*ny.2<2 ^ (j+j):=mul_lt z4.a z2.b
 have a3:ny.2*fy.2<2 ^ (j+j):=mul_lt z2.b z4.b
 have b3:E*nx.2+D*fx.2<2 ^ (m+j+j+1):=by
  have:(2:Nat) ^ (m+j+j+1)=2 ^ (m+j+j)+2 ^ (m+j+j):=by rw [Nat.pow_succ];omega
  omega
 have c1:=mul_lt a1 b2
 have c2:=mul_lt a2 b1
 have c3:=mul_lt a3 b3
 have c4:ny.1*fy.2*(E*nx.2)+fy.1*ny.2*(D*fx.2)<2 ^ (m+4*j+2):=by
  have h1:(2:Nat) ^ (j+j+(m+j+j))+2 ^ (j+j+(m+j+j))≤2 ^ (m+4*j+2):=by
   have e:2 ^ (j+j+(m+j+j)+1)≤2 ^ (m+4*j+2):=pow_le (by omega)
   rw [Nat.pow_succ] at e
   omega
  omega
 have up:∀ {a j:Nat},a<2 ^ j→j≤3000→a<2 ^ 3000:=fun h hj=>Nat.lt_of_lt_of_le h (pow_le hj)
 have dpos:0<E*nx.2+D*fx.2:=by
  refine Nat.pos_of_ne_zero fun z=>?_
  have e:((E*nx.2+D*fx.2:Nat):Rat)=0:=by rw [z];rfl
  simp only [Rat.natCast_add,Rat.natCast_mul] at e
  rw [qD,qE] at e
  have:(val fx-val nx)*((fx.2:Rat)*x.2*nx.2)=0:=by grind
  have w:0<(val fx-val nx)*((fx.2:Rat)*x.2*nx.2):=Rat.mul_pos (by grind) (Rat.mul_pos (Rat.mul_pos p3 p5) p1)
  grind
 have hpos:=Nat.mul_pos (Nat.mul_pos z2.pos z4.pos) dpos
 refine ⟨cmbN (up bE (by omega)) (up z1.b (by omega)),cmbN (up z2.a (by omega)) (up z4.b (by omega)),cmbN (up a1 (by omega)) (up b2 (by omega)),cmbN (up z4.a (by omega)) (up z2.b (by omega)),cmbN (up a2 (by omega)) (up b1 (by omega)),cmbN (up z2.b (by omega)) (up z4.b (by omega)),cmbN (up a3 (by omega)) (up b3 (by omega)),
  _,_,rfl,hpos,Nat.lt_of_lt_of_le c3 (pow_le (by omega)),.inl ?_⟩
 rw [low_eq_fr]
 refine k _ ⟨lowp_pos hpos,lowp_gcd hpos⟩ ⟨Nat.lt_of_le_of_lt (lowp_le1 _ _) c4,Nat.lt_of_le_of_lt (lowp_le2 _ _) (Nat.lt_of_lt_of_le c3 (pow_le (by omega))),lowp_pos hpos⟩ ?_
 rw [val_low hpos]
 simp only [Rat.natCast_add,Rat.natCast_mul]
 rw [qD,qE,val_fst z2.pos,val_fst z4.pos]
 have hc:(ny.2:Rat)*fy.2*fx.2*x.2*nx.2≠0:=by
  have:=Rat.mul_pos (Rat.mul_pos (Rat.mul_pos (Rat.mul_pos p2 p4) p3) p5) p1
  grind
 rw [←str_val (Y:=val ny) (G:=val fy) (X:=val x) hc v1]
 congr 1 <;> grind
 exact cmbN (Nat.lt_of_lt_of_le (Nat.lt_of_le_of_lt (Nat.sub_le _ _) (mul_lt z5.a z1.b)) (pow_le (by omega))) (Nat.lt_of_lt_of_le z3.b (pow_le (by omega)))
theorem cm_at {L:List Pc} {i:Nat} {p:Pc} {t:Rat} (hR:RtF L) (hp:L[i]?=some p) (hb:i=0∨val (bg L i)<t) (ht:t≤p.E):cm 0 L t=some (if val (bg L i)=p.E then p.L else p.L+(p.H-p.L)*((t-val (bg L i))/(p.E-val (bg L i)))):=by
 have il:=(List.getElem?_eq_some_iff.mp hp).1
 rw [cm_drop hR (Nat.le_of_lt il) hb,List.drop_eq_getElem_cons il,(List.getElem?_eq_some_iff.mp hp).2,cm,if_pos ht]
theorem w_height {as st Q} (h:sp_height as st Q):wpSs Γ code_height (frame 6 as) st (bodyEnds st Q):=by
 obtain ⟨j,m,L,i,p,t,rfl,⟨j1,j2⟩,hR,hz,hp,ct,zt,bt,ht,k⟩:=h
 rw [bgx_eq] at bt k
 unfold code_height
 walk_at "WP"
 have il:=(List.getElem?_eq_some_iff.mp hp).1
 have pz:=hz p (List.mem_of_getElem? hp)
 obtain ⟨pok,p1,p2⟩:=hR.at_ hp
 obtain ⟨n1,n2,n3,n4⟩:=nb hR hp
 have bz:Sz j (bg L i):=bgZ hz (by omega) j1
 refine ⟨pcV p,atI_nat (by rw [List.getElem?_map,hp];rfl),?_⟩
 walk_at "WP"
 refine fr_eqW ?_
 by_cases q:t=p.e
 ·rw [decide_eq_true q,if_pos rfl]
  refine .inl (k p.h pok.h (pz.h.mono (by omega)) ?_)
  rw [q]
  by_cases z:val (bg L i)=p.E
  ·rw [if_pos z];exact (n3 z).symm
  ·rw [if_neg z]
   have:val p.e-val (bg L i)≠0:=by grind
   grind
 ·rw [decide_eq_false q,if_neg Bool.false_ne_true]
  have lt:val t<p.E:=by
   have:val t≠p.E:=fun z=>q (val_inj ct pok.e z)
   grind
  refine ⟨L,i,rfl,by omega,?_⟩
  rw [bgx_eq]
  walk_at "WP"
  refine ⟨j,m,_,_,_,_,_,rfl,⟨j1,j2⟩,⟨bz,pz.l,pz.e,pz.h,zt⟩,⟨by grind,bt,ht⟩,fun r cr sr vr=>.inl (k r cr sr ?_)⟩
  rw [if_neg (by grind),vr]
noncomputable def gCo (t:Nat × Nat):PV→Bool
 | .tup (.tup [.int a,.int b]::_)=>decide (a.toNat*t.2<t.1*b.toNat)
 | _=>false
theorem Ch.cut {t:Rat}:∀ {L:List Pc} {b:Rat},Ch b L→∃k,k≤L.length∧(∀(i:Nat) p,L[i]?=some p→i<k→p.E<t)∧∀(i:Nat) p,L[i]?=some p→k≤i→t≤p.E
 | [],b,_=>⟨0,Nat.le_refl _,fun i p e=>by simp at e,fun i p e=>by simp at e⟩
 | p::r,b,⟨h1,h2,h3,h4⟩=>by
  by_cases q:t≤p.E
  ·refine ⟨0,Nat.zero_le _,fun i p _ h=>absurd h (Nat.not_lt_zero _),fun i p' e _=>?_⟩
   cases i with
   | zero=>cases e;exact q
   | succ i =>
    have:∀ {r:List Pc} {b:Rat} {i:Nat} {p':Pc},Ch b r→r[i]?=some p'→b<p'.E:=by
     intro r
     induction r with
     | nil=>intro b i p' _ e;simp at e
     | cons a r ih =>
      intro b i p' ⟨g1,g2,g3,g4⟩ e
      cases i with
      | zero=>cases e;exact g2
      | succ i=>have:=ih g4 (by simpa using e);grind
    have:=this h4 (by simpa using e)
    grind
  ·obtain ⟨k,k1,k2,k3⟩:=h4.cut (t:=t)
   refine ⟨k+1,by simp;omega,fun i p' e h=>?_,fun i p' e h=>?_⟩
   ·cases i with
    | zero=>cases e;grind
    | succ i=>exact k2 i p' (by simpa using e) (by omega)
   ·cases i with
    | zero=>omega
    | succ i=>exact k3 i p' (by simpa using e) (by omega)
theorem RtF.cut {L:List Pc} {t:Rat} (h:RtF L):∃k,k≤L.length∧(∀(i:Nat) p,L[i]?=some p→i<k→p.E<t)∧∀(i:Nat) p,L[i]?=some p→k≤i→t≤p.E:=by
 cases L with
 | nil=>exact ⟨0,Nat.le_refl _,fun i p e=>by simp at e,fun i p e=>by simp at e⟩
 | cons a r=>exact Ch.cut (b:=a.E-1) ⟨h.1,by grind,h.2.1,h.2.2.2.2.ch⟩
theorem w_coming {as st Q} (h:sp_coming as st Q):wpSs Γ code_coming (frame 3 as) st (bodyEnds st Q):=by
 obtain ⟨j,m,L,t,rfl,⟨j1,j2⟩,hR,hz,ct,tz,hl,k⟩:=h
 unfold code_coming
 walk_at "WP"
 obtain ⟨n,n1,n2,n3⟩:=hR.cut (t:=val t)
 have hbg:n=0∨val (bg L n)<val t:=by
  cases n with
  | zero=>exact .inl rfl
  | succ n =>
   have ha:L[n]?=some L[n]:=List.getElem?_eq_getElem (by omega)
   rw [bgS ha]
   exact .inr (n2 n _ ha (by omega))
 have hg:∀(i:Nat) p,L[i]?=some p→gCo t ((L.map pcV).getD i .non)=decide (p.e.1*t.2<t.1*p.e.2):=fun i p e=>by
  rw [List.getD_eq_getElem?_getD,List.getElem?_map,e]
  rfl
 have hb:bsr (gCo t) (L.map pcV)=n:=by
  refine bsr_spec (by simpa using n1) (fun i hi=>?_) (fun i h1 h2=>?_)
  ·have ha:L[i]?=some L[i]:=List.getElem?_eq_getElem (by omega)
   rw [hg i _ ha]
   exact decide_eq_true ((val_lt (hz _ (List.mem_of_getElem? ha)).e.pos ct.pos).mpr (n2 i _ ha hi))
  ·have h3:i<L.length:=by simpa using h2
   have ha:L[i]?=some L[i]:=List.getElem?_eq_getElem h3
   rw [hg i _ ha]
   refine decide_eq_false fun z=>?_
   have:=(val_lt (hz _ (List.mem_of_getElem? ha)).e.pos ct.pos).mp z
   have:=n3 i _ ha h1
   grind
 refine ⟨by simp;omega,fun i hi=>?_,gCo t,fun y hy Q' q=>?_,?_⟩
 ·rw [List.mem_singleton] at hi
  subst hi
  exact ⟨fr t,rfl,by simp [PV.bel,PV.bels]⟩
 ·obtain ⟨p,hp,rfl⟩:=List.mem_map.mp hy
  walk_at "WP"
  exact ⟨_,_,rfl,(hz p hp).e.mono (by omega),tz.mono (by omega),q⟩
 ·rw [hb,List.length_map]
  by_cases e:n=L.length
  ·rw [if_pos (by rw [e])]
   refine .inl (k none (fun z hz=>nomatch hz) ?_)
   rw [cm_drop hR (Nat.le_of_eq e) hbg,e,List.drop_length]
   rfl
  ·rw [if_neg (by omega)]
   have ha:L[n]?=some L[n]:=List.getElem?_eq_getElem (by omega)
   have bt:val (bg L n)≤val t:=by
    rcases hbg with rfl|hb
    ·show val (0,1)≤_;rw [val_nought];exact val_nn ct.pos
    ·exact Rat.le_of_lt hb
   refine ⟨j,m,L,n,_,t,rfl,⟨j1,j2⟩,hR,hz,ha,ct,tz,by rw [bgx_eq];exact bt,n3 n _ ha (Nat.le_refl _),fun r cr sr hc=>.inl (k (some r) (fun z hz=>by cases hz;exact ⟨cr,sr⟩) ?_)⟩
   rw [cm_at hR ha hbg (n3 n _ ha (Nat.le_refl _)),Option.map_some,hc,bgx_eq]
theorem frac01 {a w:Rat} (hw:0<w) (h0:0≤a) (h1:a≤w):∃q,a/w=q∧q*w=a∧0≤q∧q≤1:=by
 have w0:w≠0:=by grind
 have e:a/w*w=a:=by grind
 refine ⟨a/w,rfl,e,?_,?_⟩
 ·refine Classical.byContradiction fun z=>?_
  have:=Rat.mul_pos (a:=-(a/w)) (b:=w) (by grind) hw
  grind
 ·refine Classical.byContradiction fun z=>?_
  have:=Rat.mul_pos (a:=a/w-1) (b:=w) (by grind) hw
  grind
theorem seg {b E L H t:Rat} (hb:b<E) (h0:b≤t) (h1:t≤E) (hL:L≤H):L≤L+(H-L)*((t-b)/(E-b))∧L+(H-L)*((t-b)/(E-b))≤H:=by
 obtain ⟨q,e,e1,e2,e3⟩:=frac01 (a:=t-b) (w:=E-b) (by grind) (by grind) (by grind)
 rw [e]
 have m1:=Rat.mul_nonneg (a:=H-L) (b:=q) (by grind) e2
 have m2:=Rat.mul_nonneg (a:=H-L) (b:=1-q) (by grind) (by grind)
 constructor <;> grind
theorem seg_ge {b E L H t:Rat} (hb:b<E) (h0:b≤t) (h1:t≤E) (hL:b≤L) (hH:E≤H):t≤L+(H-L)*((t-b)/(E-b)):=by
 obtain ⟨q,e,e1,e2,e3⟩:=frac01 (a:=t-b) (w:=E-b) (by grind) (by grind) (by grind)
 rw [e]
 have m1:=Rat.mul_nonneg (a:=L-b) (b:=1-q) (by grind) (by grind)
 have m2:=Rat.mul_nonneg (a:=H-E) (b:=q) (by grind) e2
 grind
theorem seg_mono {b E L H t u:Rat} (hb:b<E) (h0:b≤t) (htu:t≤u) (h1:u≤E) (hL:L≤H):L+(H-L)*((t-b)/(E-b))≤L+(H-L)*((u-b)/(E-b)):=by
 obtain ⟨q,e,e1,e2,e3⟩:=frac01 (a:=u-t) (w:=E-b) (by grind) (by grind) (by grind)
 have s:(u-b)/(E-b)=(t-b)/(E-b)+q:=by
  rw [←e]
  have:E-b≠0:=by grind
  grind
 rw [s]
 have m1:=Rat.mul_nonneg (a:=H-L) (b:=q) (by grind) e2
 grind
theorem cm_ge:∀ {L:List Pc} {b hh t y:Rat},Rt b hh L→b≤hh→b<t→cm b L t=some y→hh≤y∧t≤y
 | [],_,_,_,_,_,_,_,e=>by cases e
 | p::r,b,hh,t,y,⟨h1,h2,h3,h4,h5,h6⟩,hb,ht,e=>by
  rw [cm] at e
  by_cases q:t≤p.E
  ·rw [if_pos q,if_neg (by grind)] at e
   cases e
   have s1:=seg h2 (Rat.le_of_lt ht) q h4
   have s2:=seg_ge h2 (Rat.le_of_lt ht) q (show b≤p.L by grind) h5
   exact ⟨by grind,s2⟩
  ·rw [if_neg q] at e
   have:=cm_ge h6 h5 (by grind) e
   exact ⟨by grind,this.2⟩
theorem cm_up:∀ {L:List Pc} {b hh t u y z:Rat},Rt b hh L→b≤hh→b<t→t≤u→cm b L t=some y→cm b L u=some z→y≤z
 | [],_,_,_,_,_,_,_,_,_,_,e,_=>by cases e
 | p::r,b,hh,t,u,y,z,⟨h1,h2,h3,h4,h5,h6⟩,hb,ht,tu,e,e'=>by
  rw [cm] at e e'
  by_cases q:t≤p.E
  ·rw [if_pos q,if_neg (by grind)] at e
   cases e
   by_cases q':u≤p.E
   ·rw [if_pos q',if_neg (by grind)] at e'
    cases e'
    exact seg_mono h2 (Rat.le_of_lt ht) tu q' h4
   ·rw [if_neg q'] at e'
    have:=(cm_ge h6 h5 (by grind) e').1
    have s1:=seg h2 (Rat.le_of_lt ht) q h4
    grind
  ·rw [if_neg q] at e
   rw [if_neg (by grind)] at e'
   exact cm_up h6 h5 (by grind) tu e e'
theorem cmF_ge {L:List Pc} {t y:Rat} (hR:RtF L) (h0:0≤t) (e:cm 0 L t=some y):t≤y:=by
 cases L with
 | nil=>cases e
 | cons p r =>
  obtain ⟨h1,h2,h3,h4,h5⟩:=hR
  rw [cm] at e
  have pE:=val_nn h1.e.pos
  have pL:=val_nn h1.l.pos
  by_cases q:t≤p.E
  ·rw [if_pos q] at e
   by_cases z:0=p.E
   ·rw [if_pos z] at e
    cases e
    have:=h4 z
    grind
   ·rw [if_neg z] at e
    cases e
    exact seg_ge (by grind) h0 q pL h3
  ·rw [if_neg q] at e
   exact (cm_ge h5 h3 (by grind) e).2
theorem cmF_up {L:List Pc} {t u y z:Rat} (hR:RtF L) (h0:0≤t) (tu:t≤u) (e:cm 0 L t=some y) (e':cm 0 L u=some z):y≤z:=by
 cases L with
 | nil=>cases e
 | cons p r =>
  obtain ⟨h1,h2,h3,h4,h5⟩:=hR
  rw [cm] at e e'
  have pE:=val_nn h1.e.pos
  by_cases q:t≤p.E
  ·rw [if_pos q] at e
   have yH:y≤p.H:=by
    by_cases z:0=p.E
    ·rw [if_pos z] at e;cases e;exact h2
    ·rw [if_neg z] at e;cases e;exact (seg (by grind) h0 q h2).2
   by_cases q':u≤p.E
   ·rw [if_pos q'] at e'
    by_cases z:0=p.E
    ·rw [if_pos z] at e e';cases e;cases e';exact Rat.le_refl
    ·rw [if_neg z] at e e';cases e;cases e';exact seg_mono (by grind) h0 tu q' h2
   ·rw [if_neg q'] at e'
    have:=(cm_ge h5 h3 (by grind) e').1
    grind
  ·rw [if_neg q] at e
   rw [if_neg (by grind)] at e'
   exact cm_up h5 h3 (by grind) tu e e'
theorem cm_none_of:∀ {L:List Pc} {b t:Rat},(∀p∈L,p.E<t)→cm b L t=none
 | [],b,t,_=>rfl
 | p::r,b,t,h=>by
  have:=h p (List.mem_cons_self ..)
  rw [cm,if_neg (by grind)]
  exact cm_none_of fun q hq=>h q (List.mem_cons_of_mem _ hq)
theorem cm_app_some {Y:List Pc}:∀ {X:List Pc} {b t y:Rat},cm b X t=some y→cm b (X++Y) t=some y
 | [],b,t,y,h=>by cases h
 | p::r,b,t,y,h=>by
  rw [List.cons_append,cm]
  rw [cm] at h
  by_cases q:t≤p.E
  ·rw [if_pos q] at h ⊢;exact h
  ·rw [if_neg q] at h ⊢;exact cm_app_some h
noncomputable def lstE (b:Rat) (X:List Pc):Rat:=(X.getLast?.map Pc.E).getD b
theorem lstE_cons {b:Rat} {a:Pc} {Y:List Pc}:lstE b (a::Y)=lstE a.E Y:=by
 unfold lstE
 cases Y with
 | nil=>rfl
 | cons c Y=>simp [List.getLast?_cons]
theorem cm_app_none {Y:List Pc}:∀ {X:List Pc} {b t:Rat},cm b X t=none→cm b (X++Y) t=cm (lstE b X) Y t
 | [],b,t,h=>rfl
 | p::r,b,t,h=>by
  rw [List.cons_append,cm,lstE_cons]
  rw [cm] at h
  by_cases q:t≤p.E
  ·rw [if_pos q] at h;cases h
  ·rw [if_neg q] at h ⊢;exact cm_app_none h
theorem cm_dom:∀ {L:List Pc} {b t u z:Rat},t≤u→cm b L u=some z→∃y,cm b L t=some y
 | [],b,t,u,z,_,h=>by cases h
 | p::r,b,t,u,z,tu,h=>by
  rw [cm] at h ⊢
  by_cases q:t≤p.E
  ·rw [if_pos q];exact ⟨_,rfl⟩
  ·rw [if_neg (by grind)] at h
   rw [if_neg q]
   exact cm_dom tu h
theorem pcf {b E L H s t:Rat} (hb:b<E) (hs:H-L=s*(E-b)):L+(H-L)*((t-b)/(E-b))=L+s*(t-b):=by
 have:E-b≠0:=by grind
 rw [hs]
 grind
theorem cm_pc {b s t:Rat} {p:Pc} {r:List Pc} (hb:b<p.E) (hs:Sl b p s) (ht:t≤p.E):cm b (p::r) t=some (p.L+s*(t-b)):=by
 rw [cm,if_pos ht,if_neg (by grind),pcf hb hs]
theorem cm_nx {b t:Rat} {p:Pc} {r:List Pc} (ht:p.E<t):cm b (p::r) t=cm p.E r t:=by
 rw [cm,if_neg (by grind)]
theorem low_of_mono {b E L H hh:Rat} (hb:b<E) (hL:L≤H) (h:∀t,b<t→t≤E→hh≤L+(H-L)*((t-b)/(E-b))):hh≤L:=by
 refine Classical.byContradiction fun z=>?_
 obtain ⟨s,hs⟩:∃s,H-L=s*(E-b):=⟨(H-L)/(E-b),by grind⟩
 have g:∀t,b<t→t≤E→hh≤L+s*(t-b):=fun t a c=>by have:=h t a c;rw [pcf hb hs] at this;exact this
 have gE:=g E hb (by grind)
 obtain ⟨d,hd⟩:∃d,d=hh-L:=⟨_,rfl⟩
 have dp:0<d:=by grind
 have sp:0<s:=by
  refine Classical.byContradiction fun z'=>?_
  have:=Rat.mul_nonneg (a:=-s) (b:=E-b) (by grind) (by grind)
  grind
 have s2:2*s≠0:=by grind
 obtain ⟨q,hq⟩:∃q,q*(2*s)=d:=⟨d/(2*s),by grind⟩
 have qp:0<q:=by
  refine Classical.byContradiction fun z'=>?_
  have:=Rat.mul_nonneg (a:=-q) (b:=2*s) (by grind) (by grind)
  grind
 have qE:q≤E-b:=by
  refine Classical.byContradiction fun z'=>?_
  have:=Rat.mul_pos (a:=q-(E-b)) (b:=s) (by grind) sp
  have:=Rat.mul_pos qp sp
  grind
 have:=g (b+q) (by grind) (by grind)
 grind
theorem rt_of:∀ {L:List Pc} {b hh:Rat},Ch b L→(∀t y,b<t→cm b L t=some y→hh≤y∧t≤y)→(∀t u y z,b<t→t≤u→cm b L t=some y→cm b L u=some z→y≤z)→Rt b hh L
 | [],b,hh,_,_,_=>trivial
 | p::r,b,hh,⟨k1,k2,k3,k4⟩,h1,h2=>by
  have cmp:∀t,b<t→t≤p.E→cm b (p::r) t=some (p.L+(p.H-p.L)*((t-b)/(p.E-b))):=fun t a c=>by rw [cm,if_pos c,if_neg (by grind)]
  have eE:p.L+(p.H-p.L)*((p.E-b)/(p.E-b))=p.H:=by
   have:p.E-b≠0:=by grind
   grind
  have cE:=cmp p.E k2 Rat.le_refl
  rw [eE] at cE
  refine ⟨k1,k2,low_of_mono k2 k3 (fun t a c=>(h1 t _ a (cmp t a c)).1),k3,(h1 _ _ k2 cE).2,rt_of k4 (fun t y a c=>?_) (fun t u y z a c d e=>?_)⟩
  ·rw [←cm_nx (b:=b) a] at c
   exact ⟨h2 p.E t p.H y k2 (Rat.le_of_lt a) cE c,(h1 t y (by grind) c).2⟩
  ·rw [←cm_nx (b:=b) a] at d
   rw [←cm_nx (b:=b) (by grind)] at e
   exact h2 t u y z (by grind) c d e
theorem rtF_of {L:List Pc} (h:LOk L) (h0:∀p r,L=p::r→0=p.E→p.L=p.H) (h1:∀t y,0≤t→cm 0 L t=some y→t≤y) (h2:∀t u y z,0≤t→t≤u→cm 0 L t=some y→cm 0 L u=some z→y≤z):RtF L:=by
 cases L with
 | nil=>trivial
 | cons p r =>
  obtain ⟨k1,k3,k4⟩:=h
  have p0:0≤p.E:=val_nn k1.e.pos
  have cE:cm 0 (p::r) p.E=some p.H:=by
   rw [cm,if_pos Rat.le_refl]
   by_cases e:0=p.E
   ·rw [if_pos e,h0 p r rfl e]
   ·rw [if_neg e]
    have:p.E-0≠0:=by grind
    congr 1
    grind
  refine ⟨k1,k3,h1 _ _ p0 cE,h0 p r rfl,rt_of k4 (fun t y a c=>?_) (fun t u y z a c d e=>?_)⟩
  ·rw [←cm_nx (b:=0) a] at c
   exact ⟨h2 p.E t p.H y p0 (Rat.le_of_lt a) cE c,h1 t y (by grind) c⟩
  ·rw [←cm_nx (b:=0) a] at d
   rw [←cm_nx (b:=0) (by grind)] at e
   exact h2 t u y z (by grind) c d e
theorem cm_hd {b:Rat} {p:Pc} {r:List Pc}:∃y,cm b (p::r) p.E=some y:=⟨_,by rw [cm,if_pos Rat.le_refl]⟩
theorem w__law_moment {as st Q} (h:sp__law_moment as st Q):wpSs Γ code__law_moment (frame 4 as) st (bodyEnds st Q):=by
 obtain ⟨n,d,rfl,h0,h1,k⟩:=h
 unfold code__law_moment
 walk_at "WP"
 refine while_by Γm (fun j ρ s=>s=st∧∃a:Nat,ρ=[some (.int n),some (.int d),some (.int a),some (.int j)]∧Nat.gcd a j=Nat.gcd n d) (n:=d) ⟨rfl,n,rfl,rfl⟩ ?_
 rintro m ρ s ⟨rfl,a,rfl,hg⟩
 walk_at "WP"
 by_cases hb:(0:Int)<m
 ·rw [if_pos hb]
  exact ⟨hb,a % m,Nat.mod_lt _ (by omega),m,rfl,by simp,by rw [←hg,Nat.gcd_comm a m,Nat.gcd_rec m a,Nat.gcd_comm]⟩
 ·rw [if_neg hb]
  have:m=0:=by omega
  subst this
  rw [Nat.gcd_zero_right] at hg
  subst hg
  refine ⟨gcd_big h0 h1,gcd_big h0 h1,?_⟩
  rw [←Int.natCast_ediv,←Int.natCast_ediv]
  exact .inl k
theorem w__law_take {as st Q} (h:sp__law_take as st Q):wpSs Γ code__law_take (frame 3 as) st (bodyEnds st Q):=by
 obtain ⟨p,many,rfl,⟨q,r,hp,hq,hr0,hr1⟩,hm,hm2,k⟩:=h
 have g0:Gr st p st:=.refl ⟨q,r,hp,hq,hr0,hr1⟩
 unfold code__law_take
 walk_at "WP"
 refine ⟨_,seqAt_ref hp,_,atI_0,?_⟩
 walk_at "WP"
 by_cases hz:0<q
 ·rw [if_pos hz]
  refine ⟨_,seqAt_ref hp,_,atI_0,?_⟩
  walk_at "WP"
  refine ⟨cbig_of hm hm2,_,hp,0,rfl,?_⟩
  exact .inl (k _ _ (Int.emod_nonneg _ (by omega)) (Int.emod_lt_of_pos _ hm) (g0.set ⟨Int.ediv_nonneg (by omega) (by omega),hr0,hr1⟩))
 ·rw [if_neg hz]
  refine ⟨_,seqAt_ref hp,_,atI_1,?_⟩
  walk_at "WP"
  refine ⟨cmb_r (by decide) (by decide),_,hp,1,rfl,?_⟩
  have hs:∀z,(st.set p (pc q z))[p]?=some (pc q z):=fun z=>List.getElem?_set_self (lt_of_get hp)
  refine ⟨_,seqAt_ref (hs _),_,atI_1,_,seqAt_ref (hs _),_,atI_1,?_⟩
  walk_at "WP"
  refine ⟨cmb_l (by omega) (by omega),cbig_of (by decide) (by decide),hm,?_⟩
  exact .inl (k _ _ (Int.emod_nonneg _ (by omega)) (Int.emod_lt_of_pos _ hm) (g0.set ⟨hq,by omega,by omega⟩))
theorem w__law_pot {as st Q} (h:sp__law_pot as st Q):wpSs Γ code__law_pot (frame 3 as) st (bodyEnds st Q):=by
 obtain ⟨ns,m,rfl,hm,k⟩:=h
 unfold code__law_pot
 walk_at "WP"
 have fin:∀z:Int,CPow 10 18∧CMB 97 (m:Int)∧Ret st Q (PV.ref (List.length st)) (st++[Cell.lst [PV.int (if 0<(z.natAbs:Int)-1000000000000000000 then (z.natAbs:Int)-1000000000000000000 else 0),PV.int ((z.natAbs:Int) % 2147483629+97*m+1)]]):=fun z =>
  ⟨pow18,cmb_l (by decide) (by decide),.inl (k _ _ ⟨by split <;> omega,by omega,by omega⟩)⟩
 rw [List.length_map]
 by_cases hl:m<ns.length
 ·rw [if_pos (by omega)]
  refine ⟨_,atI_ints hl,?_⟩
  walk_at "WP"
  exact fin _
 ·rw [if_neg (by omega)]
  exact fin 0
theorem w__law_part {as st Q} (h:sp__law_part as st Q):wpSs Γ code__law_part (frame 1 as) st (bodyEnds st Q):=by
 obtain ⟨p,rfl,hp,k⟩:=h
 unfold code__law_part
 walk_at "WP"
 refine ⟨pow11,p,4,rfl,hp,by decide,by decide,fun y s1 y0 y1 g1=>?_⟩
 obtain ⟨v,ev,far,rfl,f0,f1⟩:=pickL (L:=[PV.int 1,PV.int 2,PV.int 12,PV.int 100000000000]) (P:=fun v=>∃d:Nat,v=.int d∧0<d∧d≤10 ^ 11) (fun v hv=>by
  simp only [List.mem_cons,List.not_mem_nil,or_false] at hv
  rcases hv with rfl|rfl|rfl|rfl
  ·exact ⟨1,rfl,by decide,by decide⟩
  ·exact ⟨2,rfl,by decide,by decide⟩
  ·exact ⟨12,rfl,by decide,by decide⟩
  ·exact ⟨_,rfl,by decide,by decide⟩) y0 y1
 walk_at "WP"
 refine ⟨_,ev,p,_,rfl,g1.pot,by omega,by omega,fun z s2 z0 z1 g2=>?_⟩
 walk_at "WP"
 obtain ⟨d,hd⟩:∃d:Nat,1+z=d:=⟨(1+z).toNat,by omega⟩
 rw [hd]
 exact .inl (k d _ (by omega) (by omega) (g1.trans g2))
theorem comp_u {U:List Un3} {elt:E} {chk:AH→Prop} {st:AH} {Q:LK} (f:Un3→Nat) (hc:chk st) (he:∀u:Un3,wpE Γ elt [some (.int u.1),some (.int u.2.1),some (.int u.2.2)] st fun v s=>v=iV (f u)∧s=st) (q:Q ((U.map f).map iV) st):COMPW Γ elt (Tg.tup (.cons (.name 0) (.cons (.name 1) (.cons (.name 2) .nil)))) .nil chk [none,none,none] (U.map uV) st Q:=by
 refine comp_by Γm (fun j acc s=>s=st∧acc=((U.take j).map f).map iV) ⟨rfl,by simp⟩ ?_ ?_
 ·rintro j x acc s hx ⟨rfl,rfl⟩
  refine ⟨hc,?_⟩
  rw [List.getElem?_map] at hx
  obtain ⟨u,hu,rfl⟩:=Option.map_eq_some_iff.mp hx
  walk_at "WP"
  refine wpE_mono Γm elt (fun v s z=>?_) (he u)
  obtain ⟨rfl,rfl⟩:=z
  refine ⟨rfl,?_⟩
  rw [List.take_add_one,hu]
  simp
 ·rintro acc s ⟨rfl,rfl⟩
  rw [List.length_map,List.take_length]
  exact ⟨hc,q⟩
theorem w__law_hints {as st Q} (h:sp__law_hints as st Q):wpSs Γ code__law_hints (frame 1 as) st (bodyEnds st Q):=by
 obtain ⟨n,U,rfl,hn,hl,k⟩:=h
 unfold code__law_hints
 walk_at "WP"
 refine ⟨_,seqAt_ref hn,by simp;omega,comp_u (·.1) rfl (fun u=>by walk_at "WP") ?_⟩
 refine ⟨_,seqAt_ref (get_old hn),by simp;omega,comp_u (·.2.1) rfl (fun u=>by walk_at "WP") ?_⟩
 refine ⟨_,by rw [List.append_assoc,get_app0];rfl,by simp;omega,_,seqAt_ref (by rw [List.append_assoc];exact get_old hn),by simp;omega,comp_u (·.2.2) rfl (fun u=>by walk_at "WP") ?_⟩
 refine ⟨(U.map (·.1)).map iV++(U.map (·.2.1)).map iV,by rw [List.append_assoc,get_app];rfl,by simp;omega,.inl ?_⟩
 rw [List.append_assoc,List.append_assoc]
 simp only [List.length_append,List.length_cons,List.length_nil,Nat.add_assoc,Nat.reduceAdd]
 refine k _ (U.map (·.1)++U.map (·.2.1)++U.map (·.2.2)) _ ?_ (Nat.le_add_right _ _) (fun B hB h hh=>?_) (by simp;omega)
 ·rw [get_app];simp
 ·rcases List.mem_append.mp hh with hh|hh
  ·rcases List.mem_append.mp hh with hh|hh
   ·obtain ⟨u,hu,rfl⟩:=List.mem_map.mp hh;exact (hB u hu).1
   ·obtain ⟨u,hu,rfl⟩:=List.mem_map.mp hh;exact (hB u hu).2.1
  ·obtain ⟨u,hu,rfl⟩:=List.mem_map.mp hh;exact (hB u hu).2.2
theorem w__law_stair {as st Q} (h:sp__law_stair as st Q):wpSs Γ code__law_stair (frame 2 as) st (bodyEnds st Q):=by
 obtain ⟨n,d,U,rfl,hn,hU,hl,hB,d0,d1,k⟩:=h
 unfold code__law_stair
 walk_at "WP"
 have be:d<2 ^ 8000:=Nat.lt_of_le_of_lt d1 (Nat.lt_of_lt_of_le (by decide:(10:Nat) ^ 11<2 ^ 64) (Nat.pow_le_pow_right (by decide) (by decide)))
 refine ⟨n,U,rfl,hn,hU,hl,hB,fun n' V g hn' hV lV=>?_⟩
 refine ⟨_,seqAt_ref hn',by simp;omega,?_⟩
 refine FW.comp_map Γm (fun x=>match x with | .tup [.int a,.int b,.int c]=>pcV (pcOf d (a.toNat,b.toNat,c.toNat))|v=>v) rfl (fun y hy=>?_) ?_
 ·obtain ⟨u,_,rfl⟩:=List.mem_map.mp hy
  walk_at "WP"
  refine ⟨by decide,?_⟩
  refine FW.comp_map Γm (fun x=>match x with | .int z=>fr (lowp z.toNat d)|v=>v) trivial (fun x hx=>?_) ?_
  ·simp only [List.mem_cons,List.not_mem_nil,or_false] at hx
   rcases hx with rfl|rfl|rfl
   ·walk_at "WP";exact ⟨u.1,d,rfl,d0,be,rfl,rfl⟩
   ·walk_at "WP";exact ⟨u.2.1,d,rfl,d0,be,rfl,rfl⟩
   ·walk_at "WP";exact ⟨u.2.2,d,rfl,d0,be,rfl,rfl⟩
  ·refine ⟨_,seqAt_ref get_last,.app ?_ ⟨rfl,rfl⟩⟩
   simp [PV.bel,PV.bels,fr]
 ·have e:(V.map uV).map (fun x=>match x with | .tup [.int a,.int b,.int c]=>pcV (pcOf d (a.toNat,b.toNat,c.toNat))|v=>v)=(V.map (pcOf d)).map pcV:=by
   rw [List.map_map,List.map_map]
   rfl
  rw [e,hV d d0]
  refine ⟨_,seqAt_ref get_last,?_⟩
  rw [List.append_assoc]
  exact .app row_bel (.inl k)
theorem lowp1 {n:Nat}:lowp n 1=(n,1):=by simp [lowp]
theorem lowp0 {d:Nat} (h:0<d):lowp 0 d=(0,1):=by simp [lowp,Nat.div_self h]
theorem cast_inj {n m d:Nat} (h0:0<d) (h:lowp n d=lowp m d):n=m:=by
 have:=congrArg val h
 rw [val_low h0,val_low h0] at this
 have d1:=ratpos h0
 have:(n:Rat)=(m:Rat):=by grind
 exact_mod_cast this
noncomputable def gU (b:Nat) (w u:Un3):Bool:=decide (u.2.1=w.2.2) && decide (((w.2.2:Int)-w.2.1)*((u.1:Int)-w.1)=((u.2.2:Int)-u.2.1)*((w.1:Int)-b))
theorem gB_units {b d:Nat} {w u:Un3} (h0:0<d) (h1:b≤w.1) (h2:w.1≤u.1) (h3:w.2.1≤w.2.2) (h4:u.2.1≤u.2.2):gB (lowp b d) (pcOf d w) (pcOf d u)=gU b w u:=by
 have dp:=ratpos h0
 have le:∀ {x y:Nat},x≤y→val (lowp x d)≤val (lowp y d):=fun {x y} h=>by
  rw [val_low h0,val_low h0]
  have:(x:Rat)≤(y:Rat):=by exact_mod_cast h
  refine Classical.byContradiction fun z=>?_
  have:=Rat.mul_pos (a:=(x:Rat)/d-(y:Rat)/d) (b:=(d:Rat)) (by grind) dp
  have dn:(d:Rat)≠0:=by grind
  have z1:(x:Rat)/d*d=x:=by grind
  have z2:(y:Rat)/d*d=y:=by grind
  generalize (x:Rat)/d=x' at *
  generalize (y:Rat)/d=y' at *
  grind
 have ps:∀ {x:Nat},0<(lowp x d).2:=lowp_pos h0
 unfold gB gU
 have e1:decide ((pcOf d u).l=(pcOf d w).h)=decide (u.2.1=w.2.2):=by
  refine decide_eq_decide.mpr ⟨fun z=>cast_inj h0 z,fun z=>?_⟩
  show lowp u.2.1 d=lowp w.2.2 d
  rw [z]
 rw [e1]
 congr 1
 refine decide_eq_decide.mpr ?_
 have c1:=subp_cop (p:=lowp w.2.2 d) (q:=lowp w.2.1 d) ps ps
 have c2:=subp_cop (p:=lowp u.1 d) (q:=lowp w.1 d) ps ps
 have c3:=subp_cop (p:=lowp u.2.2 d) (q:=lowp u.2.1 d) ps ps
 have c4:=subp_cop (p:=lowp w.1 d) (q:=lowp b d) ps ps
 have v1:=val_mul c1.pos c2.pos
 have v2:=val_mul c3.pos c4.pos
 rw [val_sub ps ps (le h3),val_sub ps ps (le h2)] at v1
 rw [val_sub ps ps (le h4),val_sub ps ps (le h1)] at v2
 simp only [val_low h0] at v1 v2
 have key:val (mulp (subp (lowp w.2.2 d) (lowp w.2.1 d)) (subp (lowp u.1 d) (lowp w.1 d)))=val (mulp (subp (lowp u.2.2 d) (lowp u.2.1 d)) (subp (lowp w.1 d) (lowp b d)))↔((w.2.2:Int)-w.2.1)*((u.1:Int)-w.1)=((u.2.2:Int)-u.2.1)*((w.1:Int)-b):=by
  rw [v1,v2]
  have q:((w.2.2:Rat)-w.2.1)*((u.1:Rat)-w.1)=((u.2.2:Rat)-u.2.1)*((w.1:Rat)-b)↔((w.2.2:Int)-w.2.1)*((u.1:Int)-w.1)=((u.2.2:Int)-u.2.1)*((w.1:Int)-b):=by
   rw [←Rat.intCast_natCast w.2.2,←Rat.intCast_natCast w.2.1,←Rat.intCast_natCast u.1,←Rat.intCast_natCast w.1,←Rat.intCast_natCast u.2.2,←Rat.intCast_natCast u.2.1,←Rat.intCast_natCast b]
   simp only [←Rat.intCast_sub,←Rat.intCast_mul,Rat.intCast_inj]
  rw [←q]
  have dn:(d:Rat)≠0:=by grind
  constructor <;> intro z <;> grind
 rw [←key]
 exact ⟨fun z=>congrArg val z,fun z=>val_inj (mulp_cop c1.pos c2.pos) (mulp_cop c3.pos c4.pos) z⟩
noncomputable def endOf (b:Nat × Nat) (Y:List Pc):Nat × Nat:=(Y.getLast?.map Pc.e).getD b
theorem endOf_cons {b:Nat × Nat} {a:Pc} {Y:List Pc}:endOf b (a::Y)=endOf a.e Y:=by
 unfold endOf
 cases Y with
 | nil=>rfl
 | cons c Y=>simp [List.getLast?_cons]
theorem lean_snoc {p:Pc}:∀ {r:List Pc} {b:Nat × Nat} {a:Pc},∃Y c,leanGo b a r=Y++[c]∧leanGo b a (r++[p])=(if gB (endOf b Y) c p=true then Y++[c.mg p] else Y++[c,p]) ∧
  (∀z,(a::r).getLast?=some z→c.e=z.e∧c.h=z.h)
 | [],b,a=>⟨[],a,rfl,by
   show leanGo b a [p]=_
   rw [leanGo]
   show (if gB b a p=true then leanGo b (a.mg p) [] else a::leanGo a.e p [])=if gB b a p=true then []++[a.mg p] else []++[a,p]
   rfl,fun z e=>by cases e;exact ⟨rfl,rfl⟩⟩
 | q::r,b,a=>by
  rw [leanGo,List.cons_append,leanGo]
  by_cases g:gB b a q=true
  ·rw [if_pos g,if_pos g]
   obtain ⟨Y,c,e1,e2,e3⟩:=lean_snoc (p:=p) (r:=r) (b:=b) (a:=a.mg q)
   refine ⟨Y,c,e1,e2,fun z e=>?_⟩
   cases r with
   | nil =>
    have:z=q:=by simpa using e.symm
    subst this
    exact e3 (a.mg z) rfl
   | cons x r=>exact e3 z (by simpa [List.getLast?_cons_cons] using e)
  ·rw [if_neg g,if_neg g]
   obtain ⟨Y,c,e1,e2,e3⟩:=lean_snoc (p:=p) (r:=r) (b:=a.e) (a:=q)
   refine ⟨a::Y,c,by rw [e1];rfl,?_,fun z e=>e3 z (by simpa [List.getLast?_cons_cons] using e)⟩
   rw [e2,endOf_cons]
   split <;> rfl
theorem Rt.take:∀ {L:List Pc} {b hh:Rat} (i:Nat),Rt b hh L→Rt b hh (L.take i)
 | [],_,_,i,_=>by rw [List.take_nil];trivial
 | _::_,_,_,0,_=>trivial
 | _::_,_,_,i+1,⟨h1,h2,h3,h4,h5,h6⟩=>⟨h1,h2,h3,h4,h5,h6.take i⟩
theorem RtF.take {L:List Pc} (i:Nat) (h:RtF L):RtF (L.take i):=by
 cases L with
 | nil=>rw [List.take_nil];trivial
 | cons a r =>
  cases i with
  | zero=>trivial
  | succ i=>exact ⟨h.1,h.2.1,h.2.2.1,h.2.2.2.1,h.2.2.2.2.take i⟩
theorem endOf_units {d:Nat} (h0:0<d) {Y:List Un3}:endOf (0,1) (Y.map (pcOf d))=lowp ((Y.getLast?.map (·.1)).getD 0) d:=by
 unfold endOf
 rw [List.getLast?_map]
 cases Y.getLast? with
 | none=>exact (lowp0 h0).symm
 | some w=>rfl
structure Fnd (U:List Un3) (i:Nat) (V:List Un3):Prop where
 eq:∀d,0<d→V.map (pcOf d)=leanF ((U.take i).map (pcOf d))
 ln:V.length≤i
 bd:BdU (2 ^ 37) V
theorem val1 {n:Nat}:val (lowp n 1)=(n:Rat):=by rw [lowp1,val_nat]
theorem Fnd.nil {U:List Un3} {i:Nat} {V:List Un3} (h:Fnd U i V) (hi:i<U.length) (e:V=[]):i=0:=by
 have:=h.eq 1 (by decide)
 rw [e] at this
 cases i with
 | zero=>rfl
 | succ i =>
  cases U with
  | nil=>simp at hi
  | cons u U =>
   rw [List.take_succ_cons,List.map_cons] at this
   obtain ⟨Y,c,e1,_⟩:=lean_snoc (p:=pcOf 1 u) (r:=(U.take i).map (pcOf 1)) (b:=(0,1)) (a:=pcOf 1 u)
   rw [leanF,e1] at this
   simp at this
theorem Fnd.step {U:List Un3} {i:Nat} {V:List Un3} {u:Un3} (h:Fnd U i V) (hu:U[i]?=some u) (hU:RUF U) (bd:BdU (2 ^ 37) [u]) :
  (V=[]∧Fnd U (i+1) [u])∨∃Y w,V=Y++[w]∧(Y.getLast?.map (·.1)).getD 0≤w.1∧((Y.getLast?.map (·.1)).getD 0=w.1→w.2.1=w.2.2)∧w.2.1≤w.2.2∧w.1<u.1∧w.2.2≤u.2.1∧u.2.1≤u.2.2 ∧
   Fnd U (i+1) (if gU ((Y.getLast?.map (·.1)).getD 0) w u=true then Y++[(u.1,w.2.1,u.2.2)] else Y++[w,u]):=by
 have il:=(List.getElem?_eq_some_iff.mp hu).1
 have ht:∀d,(U.take (i+1)).map (pcOf d)=(U.take i).map (pcOf d)++[pcOf d u]:=fun d=>by rw [List.take_succ,hu];simp
 rcases snoc_or V with rfl|⟨Y,w,rfl⟩
 ·have i0:=h.nil il rfl
  subst i0
  refine .inl ⟨rfl,⟨fun d hd=>?_,by simp,bd⟩⟩
  rw [ht d]
  rfl
 ·have hR:=hU.rt (d:=1) (by decide)
  have i0:0<i:=by
   have:=h.ln
   simp at this
   omega
  obtain ⟨a,r,ear⟩:∃a r,U.take i=a::r:=by
   cases e:U.take i with
   | nil =>
    rcases List.take_eq_nil_iff.mp e with z|z
    ·omega
    ·rw [z] at il;simp at il
   | cons a r=>exact ⟨a,r,rfl⟩
  have go:∀d,0<d→leanF ((U.take (i+1)).map (pcOf d))=(if gB (endOf (0,1) (Y.map (pcOf d))) (pcOf d w) (pcOf d u)=true then Y.map (pcOf d)++[(pcOf d w).mg (pcOf d u)] else Y.map (pcOf d)++[pcOf d w,pcOf d u])∧((pcOf d w).e=(pcOf d U[i-1]).e∧(pcOf d w).h=(pcOf d U[i-1]).h):=fun d hd=>by
   have e0:=h.eq d hd
   obtain ⟨Y',c,e1,e2,e3⟩:=lean_snoc (p:=pcOf d u) (r:=r.map (pcOf d)) (b:=(0,1)) (a:=pcOf d a)
   rw [ear,List.map_cons,leanF,e1,List.map_append] at e0
   obtain ⟨y1,y2⟩:=List.append_inj' e0 rfl
   have y2:pcOf d w=c:=List.head_eq_of_cons_eq y2
   subst y1 y2
   rw [ht d,ear,List.map_cons,List.cons_append,leanF,e2]
   refine ⟨rfl,e3 (pcOf d U[i-1]) ?_⟩
   rw [←List.map_cons,←ear,List.getLast?_map,List.getLast?_take,if_neg (by omega),List.getElem?_eq_getElem (by omega)]
   rfl
  obtain ⟨g1,g2,g3⟩:=go 1 (by decide)
  have w1:w.1=(U[i-1]).1:=cast_inj (by decide) g2
  have w2:w.2.2=(U[i-1]).2.2:=cast_inj (by decide) g3
  have hz1:(U.map (pcOf 1))[i-1]?=some (pcOf 1 U[i-1]):=by rw [List.getElem?_map,List.getElem?_eq_getElem (by omega)];rfl
  have hz2:(U.map (pcOf 1))[i-1+1]?=some (pcOf 1 u):=by rw [Nat.sub_add_cancel i0,List.getElem?_map,hu];rfl
  obtain ⟨t1,t2⟩:=hR.two hz1 hz2
  obtain ⟨_,a1,a2⟩:=hR.at_ hz2
  have fR:RtF ((Y++[w]).map (pcOf 1)):=by
   rw [h.eq 1 (by decide)]
   refine leanF_rt ?_
   rw [List.map_take]
   exact hR.take i
  have hw:((Y++[w]).map (pcOf 1))[Y.length]?=some (pcOf 1 w):=by simp
  obtain ⟨_,b1,b2⟩:=fR.at_ hw
  obtain ⟨_,n2,n3,_⟩:=nb fR hw
  have eb:val (bg ((Y++[w]).map (pcOf 1)) Y.length)=(((Y.getLast?.map (·.1)).getD 0:Nat):Rat):=by
   rcases snoc_or Y with rfl|⟨Z,x,rfl⟩
   ·exact val_nought
   ·have:((Z++[x]++[w]).map (pcOf 1))[Z.length]?=some (pcOf 1 x):=by simp
    rw [show (Z++[x]).length=Z.length+1 by simp,bgS this,List.getLast?_concat]
    exact val1
  rw [eb] at n2 n3
  simp only [Pc.E,Pc.L,Pc.H,val1,Rat.natCast_le_natCast,Rat.natCast_lt_natCast,Rat.natCast_inj] at t1 t2 a1 b1 n2 n3
  rw [←w1] at t1
  rw [←w2] at t2
  refine .inr ⟨Y,w,rfl,n2,n3,b1,t1,t2,a1,⟨fun d hd=>?_,?_,?_⟩⟩
  ·rw [(go d hd).1,endOf_units hd,gB_units hd n2 (Nat.le_of_lt t1) b1 a1]
   split <;> simp
  ·have:=h.ln
   simp at this
   split <;> simp <;> omega
  ·have bw:=h.bd w (by simp)
   have bu:=bd u (by simp)
   have bY:BdU (2 ^ 37) Y:=fun x hx=>h.bd x (by simp [hx])
   split
   ·intro x hx
    rcases List.mem_append.mp hx with hx|hx
    ·exact bY x hx
    ·rw [List.mem_singleton] at hx;subst hx;exact ⟨bu.1,bw.2.1,bu.2.2⟩
   ·intro x hx
    rcases List.mem_append.mp hx with hx|hx
    ·exact bY x hx
    ·simp only [List.mem_cons,List.not_mem_nil,or_false] at hx
     rcases hx with rfl|rfl
     ·exact bw
     ·exact bu
theorem atI_m2 {Z:List Un3} {x w:Un3}:atI ((Z++[x]++[w]).map uV) (-2)=some (uV x):=by
 simp only [atI,ixN,List.length_map,List.length_append,List.length_singleton]
 rw [if_neg (by omega),if_pos (by omega),show ((-2:Int)+((Z.length+1+1:Nat):Int)).toNat=Z.length by omega]
 simp
noncomputable def nxE (P:Fr→AH→Prop):AEnds:={ nx:=P,rt:=fun _ _=>False }
theorem nxE_nx {P:Fr→AH→Prop} {ρ:Fr} {st:AH}:(nxE P).nx ρ st=P ρ st:=rfl
local macro_rules | `(tactic| walk_at "WPN")=>`(tactic| simp only [E_pcall,E_hm,T_pcall,aft_nx,aft_rt,aft_bk,aft_ct,aft_rt',LD_nx,LD_ct,LD_bk,LD_rt,LD_rt',bE_nx,bE_rt,bE_rt',Ss_nil,Ss_one,Ss_cons,S_set,S_par,S_aug,S_expr,S_ret,S_retN,S_if,S_while,S_for,S_pass,S_set2,S_brk,S_cont,E_var,E_int,E_bl,E_non,E_str,E_gv,E_tup,E_lst,E_bin,E_neg,E_not,E_cmp,E_and,E_or,E_ite,E_ix,E_sl,E_call,E_blt,E_inst,E_met,E_comp,E_tmp,Es_nil,Es_cons,O_no,O_yes,T_and,T_or,T_not,T_cmp,T_var,T_call,T_blt,T_inst,T_tmp,T_ix,AV_one,AV_cons,OV_one,OV_cons,AT_nil,AT_one,AT_cons,OT_one,OT_cons,It_seq,It_r1,It_r2,It_zip,It_enum,Tg_name,Tg_tup,Tg_ltup,Tg_sub,Tgs_nil,Tgs_cons,W_add,W_sub,W_mul,W_div,W_mod,W_pow,W_addL,W_mulL,W_addT,W_addS,W_lenS,W_intS,W_ixS,W_in,W_eq,W_ne,W_isN,W_isB,W_notN,W_notB,W_lt,W_le,W_gt,W_ge,W_eqI,W_eqB,W_eqS,isNon_non,isNon_bl,isNon_int,isNon_str,isNon_tup,isNon_ref,isBl_tt,isBl_tf,isBl_ft,isBl_ff,isBl_int,isBl_non,isBl_tup,seqAt_tup,seqAt_rdl,listAt_rdl,kindP_non,kindP_bl,kindP_int,kindP_str,kindP_tup,kindP_rdl,W_ixT,W_ixR,W_ixL,atI_0,atI_1,atI_2,atI_3,W_slT,W_slR,W_slL,W_slS,W_lenT,W_lenR,W_lenL,W_max,W_min,W_divmod,W_int1,W_tupT,W_tupL,W_listT,W_listL,W_all,W_any,W_abs,W_app,W_pop,W_ext,W_tB,W_tN,W_tI,W_tT,W_tL,W_set,W_augI,W_augL,W_augS,frame,Γ_0,Γ_1,Γ_2,Γ_3,Γ_4,Γ_5,Γ_6,Γ_7,Γ_8,Γ_9,Γ_10,Γ_11,Γ_12,Γ_13,Γ_14,Γ_15,Γ_16,Γ_17,Γ_18,Γ_19,Γ_20,Γ_21,Γ_22,Γ_23,Γ_24,Γ_25,Γ_26,Γ_27,Γ_28,Γ_29,Γ_30,Γ_31,Γ_32,Γ_33,Γ_34,Γ_35,Γ_36,Γ_37,Γ_38,Nat.add_assoc,get_app,get_app0,List.append_assoc,List.length_append,List.length_set,List.map_cons,List.map_nil,List.length_cons,List.length_nil,List.replicate,List.cons_append,List.nil_append,List.append_nil,List.getElem?_cons_zero,List.getElem?_cons_succ,List.set_cons_zero,List.set_cons_succ,Option.some.injEq,Cell.lst.injEq,PV.int.injEq,PV.bl.injEq,PV.ref.injEq,PV.str.injEq,PV.tup.injEq,PV.rdl.injEq,List.cons.injEq,and_true,true_and,exists_eq_left,exists_eq_left',exists_eq_right,exists_and_left,exists_and_right,exists_const,Bool.not_true,Bool.not_false,Bool.not_not,Bool.not_eq_true',decide_eq_true_eq,decide_eq_false_iff_not,false_and,and_false,false_or,or_false,if_true,if_false,Bool.false_eq_true,reduceCtorEq,reduceIte,not_false_eq_true,Nat.add_zero,Nat.zero_add,Nat.reduceAdd,Nat.reduceSub,Nat.reduceLeDiff,Int.reduceToNat,Int.reducePow,Int.reduceLT,Int.reduceLE,Int.reduceNeg,Int.reduceAdd,Int.reduceSub,Int.reduceMul,Sz_nil,Sz_cons,exists_eq,exists_eq',exists_false,ne_eq,not_true_eq_false,and_assoc,Option.join_some,Option.join_none,decide_true,decide_false,castN0,castN1,castN2,castN3,castN4,castN5,castN6,Int.reduceEq,Nat.reduceEqDiff,Bool.not_eq_false,Bool.not_eq_true,Bool.and_true,Bool.true_and,Bool.and_false,Bool.false_and,Bool.or_false,Bool.or_true,nxE_nx])
theorem seqS {s:S} {ss:Ss} {ρ:Fr} {st:AH} {D:AEnds} (P:Fr→AH→Prop) (h1:wpS Γ s ρ st (nxE P)) (h2:∀ρ' st',P ρ' st'→wpSs Γ ss ρ' st' D):wpSs Γ (.cons s ss) ρ st D:=by
 cases ss with
 | nil=>exact wpS_mono (D:=nxE P) Γm s ⟨fun ρ st z=>h2 ρ st z,fun _ _ z=>False.elim z,fun _ _ z=>False.elim z,fun _ _ z=>False.elim z⟩ h1
 | cons s2 ss=>exact wpS_mono (D:=nxE P) (D':=aft Γ (.cons s2 ss) D) Γm s ⟨fun ρ st z=>h2 ρ st z,fun _ _ z=>False.elim z,fun _ _ z=>False.elim z,fun _ _ z=>False.elim z⟩ h1
theorem ifS {c:E} {x y:Ss} {ρ:Fr} {st:AH} {D:AEnds} (A B:AH→Prop) (h:wpT Γ c ρ st fun k st1=>if k=true then A st1 else B st1) (h1:∀st1,A st1→wpSs Γ x ρ st1 D) (h2:∀st1,B st1→wpSs Γ y ρ st1 D):wpS Γ (.ifS c x y) ρ st D:=by
 rw [S_if]
 refine wpT_mono Γm c (fun k st1 z=>?_) h
 cases k with
 | true=>exact h1 _ z
 | false=>exact h2 _ z
noncomputable def LuI (st:AH) (n:Nat) (U:List Un3) (i:Nat) (ρ:Fr) (s:AH):Prop:=∃(V:List Un3) (g:AH) (a b c d e f x y z:Option PV),s=st++.lst (V.map uV)::g∧Fnd U i V∧ρ=[some (.ref n),some (.ref st.length),a,b,c,d,e,f,x,y,z]
noncomputable abbrev fb__law_lean_0:Ss:=(.cons (.set (.name 5) (.ite (.cmp .NotEq (.var 1) (.lst .nil)) (.ix (.ix (.var 1) (.neg (.int 1))) (.int 0)) (.int 0))) (.cons (.ifS (.bop true (.cons (.cmp .NotEq (.var 1) (.lst .nil)) (.cons (.cmp .Eq (.ix (.ix (.var 1) (.neg (.int 1))) (.int 2)) (.var 3)) .nil))) (.cons (.set (.name 6) (.ite (.cmp .Gt (.blt .len (.cons (.var 1) .nil)) (.int 1)) (.ix (.ix (.var 1) (.neg (.int 2))) (.int 0)) (.int 0))) (.cons (.set (.tup (.cons (.name 7) (.cons (.name 8) (.cons (.name 9) .nil)))) (.ix (.var 1) (.neg (.int 1)))) (.cons (.set (.name 10) (.bin .Mult (.bin .Sub (.var 9) (.var 8)) (.bin .Sub (.var 2) (.var 5)))) (.cons (.ifS (.bop false (.cons (.cmp .Eq (.var 7) (.var 6)) (.cons (.cmp .Eq (.var 10) (.bin .Mult (.bin .Sub (.var 4) (.var 3)) (.bin .Sub (.var 7) (.var 6)))) .nil))) (.cons (.set (.name 3) (.var 8)) (.cons (.expr (.met .pop0 (.var 1) .nil)) .nil)) .nil) .nil)))) .nil) (.cons (.expr (.met .append (.var 1) (.cons (.tup (.cons (.var 2) (.cons (.var 3) (.cons (.var 4) .nil)))) .nil))) .nil)))
noncomputable abbrev fr__law_lean_0:Ss:=(.cons (.ret (.var 1)) .nil)
theorem w__law_lean {as st Q} (h:sp__law_lean as st Q):wpSs Γ code__law_lean (frame 11 as) st (bodyEnds st Q):=by
 obtain ⟨n,U,rfl,hn,hU,hl,hB,k⟩:=h
 have nl:n<st.length:=lt_of_get hn
 have turn:∀(i:Nat) (u:Un3) (V:List Un3) (g:AH) (d e f x y z:Option PV),U[i]?=some u→Fnd U i V→wpSs Γ fb__law_lean_0 [some (.ref n),some (.ref st.length),some (.int u.1),some (.int u.2.1),some (.int u.2.2),d,e,f,x,y,z] (st++.lst (V.map uV)::g) (LD (LuI st n U (i+1)) (aft Γ fr__law_lean_0 (bodyEnds st Q))):=by
  intro i u V g d e f x y z hu hV
  have il:=(List.getElem?_eq_some_iff.mp hu).1
  have bu:BdU (2 ^ 37) [u]:=fun x hx=>by rw [List.mem_singleton] at hx;rw [hx];exact hB u (List.mem_of_getElem? hu)
  have lV:=hV.ln
  have bu1:=bu u (by simp)
  refine seqS (fun ρ s=>∃(v:PV) (g:AH),s=st++.lst (V.map uV)::g∧(∀Y w,V=Y++[w]→v=.int w.1)∧ρ=[some (.ref n),some (.ref st.length),some (.int u.1),some (.int u.2.1),some (.int u.2.2),some v,e,f,x,y,z]) ?_ ?_
  ·walk_at "WPN"
   refine eqW_nil (xs:=V.map uV) (by simp) (by simp) us_dats ?_
   rcases snoc_or V with rfl|⟨Y,w,rfl⟩
   ·rw [if_neg (by simp)]
    exact ⟨⟨_,rfl⟩,_,fun Y w e=>by simp at e,rfl⟩
   ·rw [if_pos (by simp)]
    refine ⟨_,seqAt_ref get_mid,uV w,by rw [List.map_append];exact atI_last,?_⟩
    walk_at "WP"
    exact ⟨⟨_,rfl⟩,_,fun Y' w' e=>by rw [show w=w' from List.head_eq_of_cons_eq (List.append_inj' e rfl).2],rfl⟩
  rintro ρ s ⟨v,g,rfl,hv,rfl⟩
  refine seqS (fun ρ s=>∃(V':List Un3) (lo:Nat) (g:AH) (e f x y z:Option PV),s=st++.lst (V'.map uV)::g∧V'.length<60∧Fnd U (i+1) (V'++[(u.1,lo,u.2.2)])∧ρ=[some (.ref n),some (.ref st.length),some (.int u.1),some (.int lo),some (.int u.2.2),some v,e,f,x,y,z]) ?_ ?_
  ·rcases hV.step hu hU bu with ⟨rfl,hF⟩|⟨Y,w,rfl,h1,h2,h3,h4,h5,h6,hF⟩
   ·refine ifS (fun _=>False) (fun s=>∃g,s=st++.lst ([].map uV)::g) ?_ (fun _ z=>z.elim) ?_
    ·walk_at "WP"
     refine eqW_nil (xs:=[]) (by simp) (by simp) (by rw [PVdats]) ?_
     rw [if_neg (by simp)]
     exact ⟨_,rfl⟩
    ·rintro s ⟨g,rfl⟩
     exact ⟨[],u.2.1,g,_,_,_,_,_,rfl,by simp,hF,rfl⟩
   ·obtain rfl:=hv Y w rfl
    obtain ⟨X,hX⟩:∃X,(Y++[w]).map uV=X:=⟨_,rfl⟩
    have mapsnoc:∀ {Y:List Un3} {c:Un3},(Y++[c]).map uV=Y.map uV++[uV c]:=fun {Y c}=>by simp
    have bw:=hV.bd w (by simp)
    have x1:atI X (-1)=some (uV w):=by rw [←hX,mapsnoc];exact atI_last
    have x2:X[X.length-1]?=some (uV w):=by rw [←hX,mapsnoc];simp
    have x3:X.dropLast=Y.map uV:=by rw [←hX,mapsnoc,List.dropLast_concat]
    have x4:X.length=Y.length+1:=by rw [←hX];simp
    have lY:Y.length+1<60:=by simp at lV;omega
    obtain ⟨bb,hbb⟩:∃bb,(Y.getLast?.map (·.1)).getD 0=bb:=⟨_,rfl⟩
    rw [hbb] at h1 h2 hF
    have x5:(X.length=1∧bb=0)∨(1<X.length∧∃x',atI X (-2)=some (uV x')∧bb=x'.1):=by
     rcases snoc_or Y with rfl|⟨Z,x',rfl⟩
     ·exact .inl ⟨by simpa using x4,hbb.symm⟩
     ·refine .inr ⟨by simp at x4;omega,x',by rw [←hX];exact atI_m2,?_⟩
      rw [←hbb,List.getLast?_concat];rfl
    have keep:gU bb w u=false→Fnd U (i+1) (Y++[w]++[(u.1,u.2.1,u.2.2)]):=fun e=>by
     rw [e,if_neg Bool.false_ne_true] at hF
     rw [List.append_assoc]
     exact hF
    rw [hX]
    refine ifS (fun s=>w.2.2=u.2.1∧∃g,s=st++.lst X::g) (fun s=>w.2.2≠u.2.1∧∃g,s=st++.lst X::g) ?_ ?_ ?_
    ·walk_at "WP"
     refine eqW_nil (xs:=X) (by simp) (by simp) (by rw [←hX];exact us_dats) ?_
     rw [if_pos (by cases X with|nil=>simp at x4|cons _ _=>rfl)]
     refine ⟨_,seqAt_ref get_mid,uV w,x1,?_⟩
     walk_at "WP"
     refine ite_by (fun c=>⟨by omega,_,rfl⟩) fun c=>⟨by omega,_,rfl⟩
    ·rintro s ⟨q,g,rfl⟩
     have eg:gU bb w u=decide (((w.2.2:Int)-w.2.1)*((u.1:Int)-w.1)=((u.2.2:Int)-u.2.1)*((w.1:Int)-bb)):=by
      unfold gU
      rw [decide_eq_true q.symm,Bool.true_and]
     refine seqS (fun ρ s=>s=st++.lst X::g∧ρ=[some (.ref n),some (.ref st.length),some (.int u.1),some (.int u.2.1),some (.int u.2.2),some (.int w.1),some (.int bb),f,x,y,z]) ?_ ?_
     ·walk_at "WPN"
      refine ⟨_,seqAt_ref get_mid,?_⟩
      rcases x5 with ⟨x5,rfl⟩|⟨x5,x',x6,rfl⟩
      ·rw [if_neg (by omega)]
       rfl
      ·rw [if_pos (by omega)]
       refine ⟨_,seqAt_ref get_mid,uV x',x6,?_⟩
       walk_at "WP"
     rintro ρ s ⟨rfl,rfl⟩
     refine seqS (fun ρ s=>s=st++.lst X::g∧ρ=[some (.ref n),some (.ref st.length),some (.int u.1),some (.int u.2.1),some (.int u.2.2),some (.int w.1),some (.int bb),some (.int w.1),some (.int w.2.1),some (.int w.2.2),z]) ?_ ?_
     ·walk_at "WPN"
      exact ⟨_,seqAt_ref get_mid,uV w,x1,_,rfl,rfl,_,_,rfl,_,_,rfl,_,_,rfl,rfl,rfl,rfl,rfl⟩
     rintro ρ s ⟨rfl,rfl⟩
     refine seqS (fun ρ s=>s=st++.lst X::g∧ρ=[some (.ref n),some (.ref st.length),some (.int u.1),some (.int u.2.1),some (.int u.2.2),some (.int w.1),some (.int bb),some (.int w.1),some (.int w.2.1),some (.int w.2.2),some (.int (((w.2.2:Int)-w.2.1)*((u.1:Int)-w.1)))]) ?_ ?_
     ·walk_at "WPN"
      exact cmb_l (by omega) (by omega)
     rintro ρ s ⟨rfl,rfl⟩
     refine ifS (fun s=>gU bb w u=true∧s=st++.lst X::g) (fun s=>gU bb w u=false∧s=st++.lst X::g) ?_ ?_ ?_
     ·walk_at "WP"
      refine ite_by (fun c1=>?_) fun c1=>⟨cmb_l (by omega) (by omega),ite_by (fun c2=>?_) fun c2=>?_⟩
      ·rw [eg]
       refine decide_eq_true ?_
       rw [h2 (by omega),Int.sub_self,Int.zero_mul,show (w.1:Int)-(bb:Int)=0 by omega,Int.mul_zero]
      ·rw [eg];exact decide_eq_true c2
      ·rw [eg];exact decide_eq_false c2
     ·rintro s ⟨c,rfl⟩
      rw [c,if_pos rfl] at hF
      walk_at "WPN"
      rw [set_mid,x3]
      exact ⟨⟨_,listAt_ref get_mid⟩,⟨_,x2⟩,Y,⟨_,rfl⟩,by omega,_,hF,rfl⟩
     ·rintro s ⟨c,rfl⟩
      exact ⟨Y++[w],u.2.1,g,_,_,_,_,_,by rw [hX],by simp;omega,keep c,rfl⟩
    ·rintro s ⟨q,g,rfl⟩
     refine ⟨Y++[w],u.2.1,g,_,_,_,_,_,by rw [hX],by simp;omega,keep ?_,rfl⟩
     unfold gU
     rw [decide_eq_false (by omega),Bool.false_and]
  rintro ρ s ⟨V',lo,g,e,f,x,y,z,rfl,lV',hF,rfl⟩
  walk_at "WP"
  refine ⟨⟨_,listAt_ref get_mid⟩,by simp;omega,V'++[(u.1,lo,u.2.2)],g,_,_,_,_,_,_,_,_,_,?_,hF,rfl⟩
  rw [set_mid];simp
 unfold code__law_lean
 walk_at "WP"
 refine ⟨_,seqAt_ref (get_old hn),?_⟩
 refine for_by Γm (LuI st n U) ⟨[],[],none,none,none,none,none,none,none,none,none,rfl,⟨fun d _=>rfl,Nat.le_refl _,fun u hu=>(nomatch hu)⟩,rfl⟩ ?_ ?_
 ·rintro i v ρ s hi ⟨V,g,a,b,c,d,e,f,x,y,z,rfl,hV,rfl⟩
  refine ⟨(get_old hn).trans (get_old hn).symm,?_⟩
  rw [List.getElem?_map] at hi
  obtain ⟨u,hu,rfl⟩:=Option.map_eq_some_iff.mp hi
  exact ⟨_,rfl,rfl,_,_,rfl,_,_,rfl,_,_,rfl,rfl,turn i u V g d e f x y z hu hV⟩
 ·rintro ρ s ⟨V,g,a,b,c,d,e,f,x,y,z,rfl,hV,rfl⟩
  refine ⟨(get_old hn).trans (get_old hn).symm,?_⟩
  walk_at "WP"
  rw [List.length_map] at hV
  refine .inl (k _ V _ get_mid (fun d hd=>?_) (by have:=hV.ln;omega))
  have:=hV.eq d hd
  rwa [List.take_length] at this
noncomputable abbrev ft__law_row_0:Tg:=(.name 6)
noncomputable abbrev fb__law_row_0:Ss:=(.cons (.set (.name 7) (.bin .Add (.bin .Add (.var 3) (.int 1)) (.call 26 (.cons (.var 0) (.cons (.ix (.tup (.cons (.int 3) (.cons (.int 9) (.cons (.bin .Pow (.int 10) (.int 9)) .nil)))) (.call 26 (.cons (.var 0) (.cons (.int 3) .nil)))) .nil))))) (.cons (.ifS (.bop true (.cons (.cmp .Eq (.var 6) (.int 0)) (.cons (.cmp .Eq (.call 26 (.cons (.var 0) (.cons (.int 4) .nil))) (.int 0)) .nil))) (.cons (.set (.name 7) (.int 0)) .nil) .nil) (.cons (.set (.name 8) (.comp (.var 0) (.name 0) (.seq (.var 1)) (.cons (.cmp .Gt (.var 0) (.var 1)) .nil) ["_law_hint"] [3])) (.cons (.ifS (.bop true (.cons (.cmp .NotEq (.var 8) (.lst .nil)) (.cons (.cmp .Eq (.call 26 (.cons (.var 0) (.cons (.int 2) .nil))) (.int 0)) .nil))) (.cons (.set (.name 7) (.ix (.var 8) (.call 26 (.cons (.var 0) (.cons (.blt .len (.cons (.var 8) .nil)) .nil))))) .nil) .nil) (.cons (.set (.name 9) (.bin .Add (.blt .max2 (.cons (.var 4) (.cons (.var 3) .nil))) (.tmp (.ix (.lst (.cons (.int 0) (.cons (.call 26 (.cons (.var 0) (.cons (.int 4) .nil))) (.cons (.call 26 (.cons (.var 0) (.cons (.bin .Pow (.int 10) (.int 9)) .nil))) .nil)))) (.call 26 (.cons (.var 0) (.cons (.int 3) .nil))))))) (.cons (.set (.name 10) (.bin .Add (.blt .max2 (.cons (.var 9) (.cons (.var 7) .nil))) (.tmp (.ix (.lst (.cons (.int 0) (.cons (.call 26 (.cons (.var 0) (.cons (.int 4) .nil))) (.cons (.call 26 (.cons (.var 0) (.cons (.bin .Pow (.int 10) (.int 9)) .nil))) .nil)))) (.call 26 (.cons (.var 0) (.cons (.int 3) .nil))))))) (.cons (.ifS (.cmp .Eq (.var 7) (.int 0)) (.cons (.set (.name 10) (.var 9)) .nil) .nil) (.cons (.expr (.met .append (.var 2) (.cons (.tup (.cons (.var 7) (.cons (.var 9) (.cons (.var 10) .nil)))) .nil))) (.cons (.set (.tup (.cons (.name 3) (.cons (.name 4) .nil))) (.tup (.cons (.var 7) (.cons (.var 10) .nil)))) .nil)))))))))
noncomputable abbrev fr__law_row_0:Ss:=(.cons (.ret (.var 2)) .nil)
noncomputable def RoI (st:AH) (p n:Nat) (W:Nat→Nat) (many:Nat) (m:Nat) (i:Nat) (ρ:Fr) (s:AH):Prop:=∃(U:List Un3) (b h:Nat) (x1 x2 x3 x4 x5:Option PV),Gr st p s∧s[m]?=some (.lst (U.map uV))∧RUF U∧U.length=i∧BdU (W i) U∧b≤W i∧h≤W i∧(∀v,U.getLast?=some v→b=v.1∧h=v.2.2)∧(U=[]→b=0∧h=0)∧ρ=[some (.ref p),some (.ref n),some (.ref m),some (.int b),some (.int h),some (.int many),x1,x2,x3,x4,x5]
theorem add_pick {x y:Int} {z:Int} (x0:0≤x) (x1:x<4) (y0:0≤y) (y1:y<1000000000) (z0:0≤z) (z1:z<([PV.int 0,PV.int x,PV.int y].length:Nat)):∃w:Nat,atI [PV.int 0,PV.int x,PV.int y] z=some (.int w)∧w≤10 ^ 9:=by
 obtain ⟨v,ev,w,rfl,w1⟩:=pickL (L:=[PV.int 0,PV.int x,PV.int y]) (P:=fun v=>∃w:Nat,v=.int w∧w≤10 ^ 9) (fun v hv=>by
  simp only [List.mem_cons,List.not_mem_nil,or_false] at hv
  rcases hv with rfl|rfl|rfl
  ·exact ⟨0,rfl,by decide⟩
  ·exact ⟨x.toNat,by congr 1;omega,by omega⟩
  ·exact ⟨y.toNat,by congr 1;omega,by omega⟩) z0 z1
 exact ⟨w,ev,w1⟩
theorem w__law_row {as st Q} (h:sp__law_row as st Q):wpSs Γ code__law_row (frame 11 as) st (bodyEnds st Q):=by
 obtain ⟨p,n,hs,B,rfl,hp,hnp,hn,hB,lh,B1,k⟩:=h
 have pl:=hp.lt
 have mne:st.length≠p:=by omega
 obtain ⟨W,hW⟩:∃W:Nat→Nat,∀i,W i=B+2*10 ^ 9*i:=⟨_,fun _=>rfl⟩
 obtain ⟨c9,hc9⟩:∃c:Nat,c=10 ^ 9:=⟨_,rfl⟩
 have turn:∀(many i:Nat) (ρ:Fr) (s:AH),i<many→many≤20→RoI st p n W many st.length i ρ s→wpSs Γ fb__law_row_0 (ρ.set 6 (some (.int i))) s (LD (RoI st p n W many st.length (i+1)) (aft Γ fr__law_row_0 (bodyEnds st Q))):=by
  rintro many i ρ s hi hm ⟨U,b,hh,y1,y2,y3,y4,y5,G,hu,hU,lU,bU,bb,bh,last,emp,rfl⟩
  have w0:=hW i
  have w1:=hW (i+1)
  refine seqS (fun ρ s=>∃e:Nat,b<e∧e≤b+c9∧Gr st p s∧s[st.length]?=some (.lst (U.map uV))∧ρ=[some (.ref p),some (.ref n),some (.ref st.length),some (.int b),some (.int hh),some (.int many),some (.int i),some (.int e),y3,y4,y5]) ?_ ?_
  ·walk_at "WPN"
   refine ⟨pow9,p,3,rfl,G.pot,by decide,by decide,fun z s1 z0 z1 g1=>?_⟩
   obtain ⟨v,ev,far,rfl,f0,f1⟩:=pickL (L:=[PV.int 3,PV.int 9,PV.int 1000000000]) (P:=fun v=>∃d:Nat,v=.int d∧0<d∧d≤10 ^ 9) (fun v hv=>by
    simp only [List.mem_cons,List.not_mem_nil,or_false] at hv
    rcases hv with rfl|rfl|rfl
    ·exact ⟨3,rfl,by decide,by decide⟩
    ·exact ⟨9,rfl,by decide,by decide⟩
    ·exact ⟨_,rfl,by decide,by decide⟩) z0 z1
   walk_at "WP"
   refine ⟨_,ev,p,_,rfl,g1.pot,by omega,by omega,fun x s2 x0 x1 g2=>?_⟩
   walk_at "WP"
   exact ⟨b+1+x.toNat,by omega,by omega,(G.trans g1).trans g2,g2.get (g1.get hu mne) mne,by omega⟩
  rintro ρ s ⟨e,e1,e2,G,hu,rfl⟩
  refine seqS (fun ρ s=>∃e:Nat,((e=0∧i=0)∨b<e∧e≤b+c9)∧Gr st p s∧s[st.length]?=some (.lst (U.map uV))∧ρ=[some (.ref p),some (.ref n),some (.ref st.length),some (.int b),some (.int hh),some (.int many),some (.int i),some (.int e),y3,y4,y5]) ?_ ?_
  ·walk_at "WPN"
   by_cases c:i=0
   ·rw [if_pos (by omega)]
    refine ⟨p,4,rfl,G.pot,by decide,by decide,fun z s1 z0 z1 g1=>?_⟩
    walk_at "WP"
    by_cases c2:z=0
    ·rw [if_pos c2]
     exact ⟨0,.inl ⟨rfl,c⟩,G.trans g1,g1.get hu mne,rfl⟩
    ·rw [if_neg c2]
     exact ⟨e,.inr ⟨e1,e2⟩,G.trans g1,g1.get hu mne,rfl⟩
   ·rw [if_neg (by omega)]
    exact ⟨e,.inr ⟨e1,e2⟩,G,hu,rfl⟩
  clear e1 e2 e
  rintro ρ s ⟨e,e1,G,hu,rfl⟩
  have hn':s[n]?=some (.lst (hs.map iV)):=G.get hn hnp
  refine seqS (fun ρ s=>∃(l:Nat) (hs':List Nat),l≠p∧s[l]?=some (.lst (hs'.map iV))∧(∀h∈hs',b<h∧h≤B)∧hs'.length≤200∧Gr st p s∧s[st.length]?=some (.lst (U.map uV))∧ρ=[some (.ref p),some (.ref n),some (.ref st.length),some (.int b),some (.int hh),some (.int many),some (.int i),some (.int e),some (.ref l),y4,y5]) ?_ ?_
  ·walk_at "WPN"
   refine ⟨_,seqAt_ref hn',by simp;omega,?_⟩
   refine comp_by Γm (fun j acc s'=>s'=s∧∃hs':List Nat,acc=hs'.map iV∧(∀h∈hs',b<h∧h≤B)∧hs'.length≤j) ⟨rfl,[],rfl,fun h hh=>(nomatch hh),Nat.le_refl _⟩ ?_ ?_
   ·rintro j x acc s' hx ⟨rfl,hs',rfl,hq,lq⟩
    refine ⟨rfl,?_⟩
    rw [List.getElem?_map] at hx
    obtain ⟨y,hy,rfl⟩:=Option.map_eq_some_iff.mp hx
    walk_at "WP"
    refine ite_by (fun c=>?_) fun c=>?_
    ·refine ⟨hs'++[y],by simp,fun h hh=>?_,by simp;omega⟩
     rcases List.mem_append.mp hh with hh|hh
     ·exact hq h hh
     ·rw [List.mem_singleton] at hh
      rw [hh]
      exact ⟨by omega,hB y (List.mem_of_getElem? hy)⟩
    ·exact ⟨hs',rfl,hq,by omega⟩
   ·rintro acc s' ⟨rfl,hs',rfl,hq,lq⟩
    refine ⟨rfl,?_⟩
    rw [List.length_map] at lq
    exact ⟨_,G.ne,hs',get_last,hq,by omega,G.app,get_old hu,rfl⟩
  rintro ρ s ⟨l,hs',lne,hl,hq,lq,G,hu,rfl⟩
  refine seqS (fun ρ s=>∃e:Nat,((e=0∧i=0)∨b<e∧e≤W i+c9)∧Gr st p s∧s[st.length]?=some (.lst (U.map uV))∧ρ=[some (.ref p),some (.ref n),some (.ref st.length),some (.int b),some (.int hh),some (.int many),some (.int i),some (.int e),some (.ref l),y4,y5]) ?_ ?_
  ·walk_at "WPN"
   have keep:∀s',Gr st p s'→s'[st.length]?=some (.lst (U.map uV))→∃e':Nat,((e'=0∧i=0)∨b<e'∧e'≤W i+c9)∧Gr st p s'∧s'[st.length]?=some (.lst (U.map uV))∧(e:Int)=e':=fun s' G' hu'=>⟨e,by omega,G',hu',rfl⟩
   refine eqW_nil (xs:=hs'.map iV) (get_old hl) get_last (PVdats_of fun v hv=>by obtain ⟨w,_,rfl⟩:=List.mem_map.mp hv;rfl) ?_
   cases hs' with
   | nil =>
    rw [if_neg (by simp)]
    exact keep _ G.app (get_old hu)
   | cons h0 hs' =>
    rw [if_pos (by simp)]
    refine ⟨p,2,rfl,G.pot.app,by decide,by decide,fun z s1 z0 z1 g1=>?_⟩
    have G1:=G.app.trans g1
    have hu1:=g1.get (get_old hu) mne
    have hl1:=g1.get (get_old hl) lne
    walk_at "WP"
    refine ite_by (fun c=>?_) fun c=>keep _ G1 hu1
    refine ⟨_,seqAt_ref hl1,p,_,rfl,G1.pot,(by first|(simp;done)|(simp;omega)),by simp at lq ⊢;omega,fun y s2 y0 y1 g2=>?_⟩
    obtain ⟨v,ev,w,rfl,w1⟩:=pickL (L:=(h0::hs').map iV) (P:=fun v=>∃d:Nat,v=.int d∧(b<d∧d≤B)) (fun v hv=>by
     obtain ⟨w,hw,rfl⟩:=List.mem_map.mp hv
     exact ⟨w,rfl,hq w hw⟩) y0 y1
    walk_at "WP"
    exact ⟨_,seqAt_ref (g2.get hl1 lne),_,ev,w,by omega,G1.trans g2,g2.get hu1 mne,rfl⟩
  clear e1 e
  rintro ρ s ⟨e,e1,G,hu,rfl⟩
  refine seqS (fun ρ s=>∃lo:Nat,hh≤lo∧b≤lo∧lo≤W i+c9∧Gr st p s∧s[st.length]?=some (.lst (U.map uV))∧ρ=[some (.ref p),some (.ref n),some (.ref st.length),some (.int b),some (.int hh),some (.int many),some (.int i),some (.int e),some (.ref l),some (.int lo),y5]) ?_ ?_
  ·walk_at "WPN"
   refine ⟨p,4,rfl,G.pot,by decide,by decide,fun x s1 x0 x1 g1=>?_⟩
   walk_at "WP"
   refine ⟨pow9,p,_,rfl,g1.pot,by decide,by decide,fun y s2 y0 y1 g2=>?_⟩
   walk_at "WP"
   refine ⟨p,3,rfl,g2.pot.app,by decide,by decide,fun z s3 z0 z1 g3=>?_⟩
   obtain ⟨w,ew,w1⟩:=add_pick x0 x1 y0 y1 z0 z1
   walk_at "WP"
   refine ⟨_,seqAt_ref (g3.get get_last g2.ne),_,ew,?_⟩
   refine ((g1.trans g2).app.trans g3).tmp rfl fun s4 g4 _=>?_
   obtain ⟨M,eM,M1,M2,M3⟩:=ifmax hh b
   walk_at "WP"
   rw [eM]
   exact ⟨M+w,by omega,by omega,by omega,G.trans g4,g4.get hu mne,by omega⟩
  rintro ρ s ⟨lo,l1,l2,l3,G,hu,rfl⟩
  refine seqS (fun ρ s=>∃hi:Nat,lo≤hi∧e≤hi∧hi≤W i+2*c9∧Gr st p s∧s[st.length]?=some (.lst (U.map uV))∧ρ=[some (.ref p),some (.ref n),some (.ref st.length),some (.int b),some (.int hh),some (.int many),some (.int i),some (.int e),some (.ref l),some (.int lo),some (.int hi)]) ?_ ?_
  ·walk_at "WPN"
   refine ⟨p,4,rfl,G.pot,by decide,by decide,fun x s1 x0 x1 g1=>?_⟩
   walk_at "WP"
   refine ⟨pow9,p,_,rfl,g1.pot,by decide,by decide,fun y s2 y0 y1 g2=>?_⟩
   walk_at "WP"
   refine ⟨p,3,rfl,g2.pot.app,by decide,by decide,fun z s3 z0 z1 g3=>?_⟩
   obtain ⟨w,ew,w1⟩:=add_pick x0 x1 y0 y1 z0 z1
   walk_at "WP"
   refine ⟨_,seqAt_ref (g3.get get_last g2.ne),_,ew,?_⟩
   refine ((g1.trans g2).app.trans g3).tmp rfl fun s4 g4 _=>?_
   obtain ⟨M,eM,M1,M2,M3⟩:=ifmax lo e
   walk_at "WP"
   rw [eM]
   exact ⟨M+w,by omega,by omega,by omega,G.trans g4,g4.get hu mne,by omega⟩
  rintro ρ s ⟨hi,h1,h2,h3,G,hu,rfl⟩
  refine seqS (fun ρ s=>∃hi:Nat,lo≤hi∧e≤hi∧(e=0→lo=hi)∧hi≤W i+2*c9∧Gr st p s∧s[st.length]?=some (.lst (U.map uV))∧ρ=[some (.ref p),some (.ref n),some (.ref st.length),some (.int b),some (.int hh),some (.int many),some (.int i),some (.int e),some (.ref l),some (.int lo),some (.int hi)]) ?_ ?_
  ·walk_at "WPN"
   refine ite_by (fun c=>?_) fun c=>?_
   ·exact ⟨lo,by omega,by omega,fun _=>rfl,by omega,G,hu,rfl⟩
   ·exact ⟨hi,h1,h2,fun z=>by omega,h3,G,hu,rfl⟩
  clear h1 h2 h3 hi
  rintro ρ s ⟨hi,h1,h2,h4,h3,G,hu,rfl⟩
  walk_at "WP"
  have app:App U (e,lo,hi):=⟨fun _=>⟨h1,h2,h4⟩,fun v hv=>by
   obtain ⟨z1,z2⟩:=last v hv
   have:U≠[]:=fun z=>by rw [z] at hv;cases hv
   have:i≠0:=fun z=>this (List.length_eq_zero_iff.mp (lU.trans z))
   exact ⟨by dsimp only;omega,by dsimp only;omega,h1,h2⟩⟩
  refine ⟨⟨_,listAt_ref hu⟩,_,hu,by simp;omega,U++[(e,lo,hi)],e,hi,_,_,_,_,_,G.setN (Nat.le_refl _),?_,RUF_app hU app,by simp;omega,fun w hw=>?_,by omega,by omega,fun v hv=>?_,fun z=>by simp at z,rfl⟩
  ·rw [List.getElem?_set_self (lt_of_get hu)];simp
  ·rcases List.mem_append.mp hw with hw|hw
   ·have:=bU w hw;omega
   ·rw [List.mem_singleton] at hw
    rw [hw]
    exact ⟨by dsimp only;omega,by dsimp only;omega,by dsimp only;omega⟩
  ·rw [List.getLast?_concat] at hv
   cases hv
   exact ⟨rfl,rfl⟩
 have loop:∀(many:Nat) (s:AH),many≤20→Gr st p s→s[st.length]?=some (.lst [])→FORW Γ ft__law_row_0 fb__law_row_0 (fun _=>True) (aft Γ fr__law_row_0 (bodyEnds st Q)) (rangeL 0 (many:Int).toNat) [some (.ref p),some (.ref n),some (.ref st.length),some (.int 0),some (.int 0),some (.int many),none,none,none,none,none] s:=by
  intro many s hm G hs
  refine for_by Γm (RoI st p n W many st.length) ⟨[],0,0,_,_,_,_,_,G,hs,trivial,rfl,fun u hu=>(nomatch hu),by omega,by omega,fun v hv=>(nomatch hv),fun _=>⟨rfl,rfl⟩,rfl⟩ ?_ ?_
  ·rintro i v ρ s hi I
   obtain ⟨rfl,hi'⟩:=range_item hi
   refine ⟨trivial,?_⟩
   exact turn many i ρ s hi' hm I
  ·rintro ρ s ⟨U,b,hh,y1,y2,y3,y4,y5,G,hu,hU,lU,bU,bb,bh,last,emp,rfl⟩
   refine ⟨trivial,?_⟩
   have hl':(rangeL 0 (many:Int).toNat).length=many:=by simp [rangeL]
   rw [hl'] at lU bU
   have w0:=hW many
   walk_at "WP"
   exact .inl (k U _ _ G (Nat.le_refl _) hu hU (by omega) fun u hu=>by have:=bU u hu;omega)
 unfold code__law_row
 walk_at "WP"
 refine ⟨p,7,rfl,hp.app,by decide,by decide,fun y s1 y0 y1 g1=>?_⟩
 refine ⟨p,8,rfl,g1.pot,by decide,by decide,fun z s2 z0 z1 g2=>?_⟩
 have G2:=(Gr.refl hp).app.trans (g1.trans g2)
 have hs2:=g2.get (g1.get get_last mne) mne
 walk_at "WP"
 refine ite_by (fun c=>?_) fun c=>?_
 ·refine ⟨p,14,rfl,g2.pot,by decide,by decide,fun w s3 w0 w1 g3=>?_⟩
  walk_at "WP"
  obtain ⟨m,hm⟩:∃m:Nat,7+w=m:=⟨(7+w).toNat,by omega⟩
  rw [hm]
  exact ⟨by omega,by omega,loop m s3 (by omega) (G2.trans g3) (g3.get hs2 mne)⟩
 ·obtain ⟨m,hm⟩:∃m:Nat,y=m:=⟨y.toNat,by omega⟩
  subst hm
  exact ⟨by omega,by omega,loop m s2 (by omega) G2 hs2⟩
noncomputable def tau (b:Rat) (p:Pc) (y:Rat):Rat:=b+(p.E-b)*((y-p.L)/(p.H-p.L))
noncomputable def xat (b:Rat) (p:Pc) (t:Rat):Rat:=p.L+(p.H-p.L)*((t-b)/(p.E-b))
theorem Ch.cutE {y:Rat}:∀ {L:List Pc} {b:Rat},Ch b L→∃k,k≤L.length∧(∀(i:Nat) p,L[i]?=some p→i<k→p.E≤y)∧∀(i:Nat) p,L[i]?=some p→k≤i→y<p.E
 | [],b,_=>⟨0,Nat.le_refl _,fun i p e=>by simp at e,fun i p e=>by simp at e⟩
 | p::r,b,⟨h1,h2,h3,h4⟩=>by
  by_cases q:p.E≤y
  ·obtain ⟨k,k1,k2,k3⟩:=h4.cutE (y:=y)
   refine ⟨k+1,by simp;omega,fun i p' e h=>?_,fun i p' e h=>?_⟩
   ·cases i with
    | zero=>cases e;exact q
    | succ i=>exact k2 i p' (by simpa using e) (by omega)
   ·cases i with
    | zero=>omega
    | succ i=>exact k3 i p' (by simpa using e) (by omega)
  ·refine ⟨0,Nat.zero_le _,fun i p _ h=>absurd h (Nat.not_lt_zero _),fun i p' e _=>?_⟩
   cases i with
   | zero=>cases e;grind
   | succ i =>
    have:∀ {r:List Pc} {b:Rat} {i:Nat} {p':Pc},Ch b r→r[i]?=some p'→b<p'.E:=by
     intro r
     induction r with
     | nil=>intro b i p' _ e;simp at e
     | cons a r ih =>
      intro b i p' ⟨g1,g2,g3,g4⟩ e
      cases i with
      | zero=>cases e;exact g2
      | succ i=>have:=ih g4 (by simpa using e);grind
    have:=this h4 (by simpa using e)
    grind
theorem RtF.cutE {L:List Pc} {y:Rat} (h:RtF L):∃k,k≤L.length∧(∀(i:Nat) p,L[i]?=some p→i<k→p.E≤y)∧∀(i:Nat) p,L[i]?=some p→k≤i→y<p.E:=by
 cases L with
 | nil=>exact ⟨0,Nat.le_refl _,fun i p e=>by simp at e,fun i p e=>by simp at e⟩
 | cons a r=>exact Ch.cutE (b:=a.E-1) ⟨h.1,by grind,h.2.1,h.2.2.2.2.ch⟩
theorem Ch.snoc {c:Pc} (hc:c.Ok) (hl:c.L≤c.H):∀ {R:List Pc} {b:Rat},Ch b R→lstE b R<c.E→Ch b (R++[c])
 | [],b,_,h=>⟨hc,h,hl,trivial⟩
 | p::r,b,⟨h1,h2,h3,h4⟩,h=>⟨h1,h2,h3,Ch.snoc hc hl h4 (by rw [lstE_cons] at h;exact h)⟩
structure ThI (M:List Pc) (b:Rat) (p:Pc) (n:Nat) (a:Rat) (R:List Pc):Prop where
 ch:Ch b R
 en:∀q∈R,q.E≤tau b p a
 ls:lstE b R=tau b p a
 al:p.L≤a
 ah:a≤p.H
 bo:a=p.H∨val (bg M n)≤a
 nx:∀q,M[n]?=some q→a<p.H→a<q.E
 co:∀t,b<t→t≤tau b p a→cm b R t=cm 0 M (xat b p t)
theorem xat_tau {b:Rat} {p:Pc} {t:Rat} (h1:b<p.E) (h2:p.L<p.H):t=b+(p.E-b)/(p.H-p.L)*(xat b p t-p.L):=by
 unfold xat
 have:p.E-b≠0:=by grind
 have:p.H-p.L≠0:=by grind
 grind
theorem tau_eq {b:Rat} {p:Pc} {y:Rat} (h2:p.L<p.H):tau b p y=b+(p.E-b)/(p.H-p.L)*(y-p.L):=by
 unfold tau
 have:p.H-p.L≠0:=by grind
 grind
theorem wpos {b:Rat} {p:Pc} (h1:b<p.E) (h2:p.L<p.H):0<(p.E-b)/(p.H-p.L):=by
 refine Classical.byContradiction fun z=>?_
 have e:(p.E-b)/(p.H-p.L)*(p.H-p.L)=p.E-b:=by
  have:p.H-p.L≠0:=by grind
  grind
 have:=Rat.mul_nonneg (a:=-((p.E-b)/(p.H-p.L))) (b:=p.H-p.L) (by grind) (by grind)
 grind
theorem mul_lt_iff {w x y:Rat} (hw:0<w):w*x<w*y↔x<y:=by
 constructor
 ·intro h
  refine Classical.byContradiction fun z=>?_
  have:=Rat.mul_nonneg (a:=w) (b:=x-y) (by grind) (by grind)
  grind
 ·intro h
  have:=Rat.mul_pos (a:=w) (b:=y-x) hw (by grind)
  grind
theorem mul_le_iff {w x y:Rat} (hw:0<w):w*x≤w*y↔x≤y:=by
 have:=mul_lt_iff (w:=w) (x:=y) (y:=x) hw
 grind
theorem along {b:Rat} {p:Pc} (h1:b<p.E) (h2:p.L<p.H) (t y:Rat):(t<tau b p y↔xat b p t<y)∧(t≤tau b p y↔xat b p t≤y)∧(tau b p y<t↔y<xat b p t):=by
 have w:=wpos h1 h2
 have e:=xat_tau (t:=t) h1 h2
 rw [tau_eq h2]
 generalize (p.E-b)/(p.H-p.L)=w' at *
 generalize xat b p t=X at *
 subst e
 have a1:=mul_lt_iff (w:=w') (x:=X-p.L) (y:=y-p.L) w
 have a2:=mul_le_iff (w:=w') (x:=X-p.L) (y:=y-p.L) w
 have a3:=mul_lt_iff (w:=w') (x:=y-p.L) (y:=X-p.L) w
 refine ⟨?_,?_,?_⟩ <;> grind
theorem tau_L {b:Rat} {p:Pc}:tau b p p.L=b:=by unfold tau;grind
theorem tau_H {b:Rat} {p:Pc} (h2:p.L<p.H):tau b p p.H=p.E:=by
 unfold tau
 have:p.H-p.L≠0:=by grind
 grind
theorem tau_lt {b:Rat} {p:Pc} {x y:Rat} (h1:b<p.E) (h2:p.L<p.H) (h:x<y):tau b p x<tau b p y:=by
 rw [tau_eq h2,tau_eq h2]
 have:=Rat.mul_pos (wpos h1 h2) (show 0<y-x by grind)
 grind
theorem cm_end {M:List Pc} {n:Nat} {q:Pc} (hM:RtF M) (hq:M[n]?=some q) {x:Rat} (hx:x≤q.E) (hb:n=0∨val (bg M n)<x):∃y,cm 0 M x=some y:=⟨_,cm_at hM hq hb hx⟩
theorem ThI.step {M:List Pc} {b:Rat} {p:Pc} {n:Nat} {a θ:Rat} {R:List Pc} {q c:Pc} (h:ThI M b p n a R) (hM:RtF M) (hq:M[n]?=some q) (h1:b<p.E) (h2:p.L<p.H) (p0:0≤p.L) (ha:a<p.H)
  (hθ:(θ=q.E∧q.E<p.H)∨(θ=p.H∧p.H≤q.E)) (hc:c.Ok) (cE:c.E=tau b p θ) (cL:c.L=q.L+(q.H-q.L)*((a-val (bg M n))/(q.E-val (bg M n)))) (cH:c.H=q.L+(q.H-q.L)*((θ-val (bg M n))/(q.E-val (bg M n)))):ThI M b p (n+1) θ (R++[c]):=by
 have aq:=h.nx q hq ha
 have ab:val (bg M n)≤a:=h.bo.resolve_left (by grind)
 have aθ:a<θ:=by rcases hθ with ⟨rfl,_⟩|⟨rfl,_⟩ <;> grind
 have θq:θ≤q.E:=by rcases hθ with ⟨rfl,_⟩|⟨rfl,_⟩ <;> grind
 have θH:θ≤p.H:=by rcases hθ with ⟨rfl,_⟩|⟨rfl,_⟩ <;> grind
 obtain ⟨qok,q1,q2⟩:=hM.at_ hq
 have bq:val (bg M n)<q.E:=by grind
 obtain ⟨s,hs⟩:=Sl.ex (b:=val (bg M n)) (p:=q) bq
 have hs':q.H-q.L=s*(q.E-val (bg M n)):=hs
 rw [pcf bq hs'] at cL cH
 have s0:0≤s:=by
  refine Classical.byContradiction fun z=>?_
  have:=Rat.mul_pos (a:=-s) (b:=q.E-val (bg M n)) (by grind) (by grind)
  grind
 have lt:=tau_lt h1 h2 aθ
 have cLH:c.L≤c.H:=by
  have:=Rat.mul_nonneg s0 (show 0≤θ-a by grind)
  rw [cL,cH]
  grind
 have new:∀x,a<x→x≤θ→cm 0 M x=some (q.L+s*(x-val (bg M n))):=fun x x1 x2=>by
  rw [cm_at hM hq (by by_cases z:n=0;exact .inl z;exact .inr (by grind)) (by grind),if_neg (by grind),pcf bq hs']
 refine ⟨h.ch.snoc hc cLH (by rw [h.ls,cE];exact lt),fun r hr=>?_,?_,by have:=h.al;grind,θH,?_,fun q' hq' hlt=>?_,fun t bt tt=>?_⟩
 ·rcases List.mem_append.mp hr with hr|hr
  ·have:=h.en r hr;grind
  ·rw [List.mem_singleton] at hr
   rw [hr,cE]
   exact Rat.le_refl
 ·unfold lstE
  rw [List.getLast?_concat]
  exact cE
 ·rcases hθ with ⟨rfl,_⟩|⟨rfl,_⟩
  ·right;rw [bgS hq];exact Rat.le_refl
  ·exact .inl rfl
 ·rcases hθ with ⟨rfl,_⟩|⟨rfl,_⟩
  ·exact (hM.two hq hq').1
  ·exact absurd hlt (by grind)
 ·by_cases z:t≤tau b p a
  ·have e:=h.co t bt z
   cases y:cm b R t with
   | some v=>rw [cm_app_some y,←y,e]
   | none =>
    rw [y] at e
    have x1:xat b p t≤a:=(along h1 h2 t a).2.1.mp z
    obtain ⟨v,hv⟩:=cm_end hM hq (x:=q.E) Rat.le_refl (by by_cases z:n=0;exact .inl z;exact .inr bq)
    obtain ⟨v',hv'⟩:=cm_dom (t:=xat b p t) (by grind) hv
    rw [hv'] at e
    cases e
  ·have x1:a<xat b p t:=(along h1 h2 t a).2.2.mp (by grind)
   have x2:xat b p t≤θ:=(along h1 h2 t θ).2.1.mp tt
   rw [cm_app_none (cm_none_of fun r hr=>by have:=h.en r hr;grind),h.ls,new _ x1 x2]
   have cs:Sl (tau b p a) c (s*((θ-a)/(tau b p θ-tau b p a))):=by
    unfold Sl
    rw [cE,cL,cH]
    have:tau b p θ-tau b p a≠0:=by grind
    grind
   rw [cm_pc (by rw [cE];exact lt) cs (by rw [cE];exact tt),cL]
   congr 1
   have e:=xat_tau (t:=t) h1 h2
   have w:=wpos h1 h2
   have d1:tau b p θ-tau b p a=(p.E-b)/(p.H-p.L)*(θ-a):=by rw [tau_eq h2,tau_eq h2];grind
   have d2:t-tau b p a=(p.E-b)/(p.H-p.L)*(xat b p t-a):=by rw [tau_eq h2];grind
   rw [d1,d2]
   generalize (p.E-b)/(p.H-p.L)=w' at *
   have n1:w'≠0:=by grind
   have n2:θ-a≠0:=by grind
   have n3:w'*(θ-a)≠0:=fun z=>by rcases Rat.mul_eq_zero.mp z with z|z <;> grind
   have:(θ-a)/(w'*(θ-a))*(w'*(xat b p t-a))=xat b p t-a:=by grind
   grind
theorem bg_last {M:List Pc} (hM:RtF M):∀q∈M,q.E≤val (bg M M.length):=by
 intro q hq
 rcases snoc_or M with rfl|⟨Y,c,rfl⟩
 ·cases hq
 ·have hc:(Y++[c])[Y.length]?=some c:=by simp
  rw [show (Y++[c]).length=Y.length+1 by simp,bgS hc]
  obtain ⟨k,k1,k2,k3⟩:=hM.cutE (y:=c.E)
  obtain ⟨i,hi⟩:=List.getElem?_of_mem hq
  have il:=(List.getElem?_eq_some_iff.mp hi).1
  have:Y.length<k:=by
   refine Classical.byContradiction fun z=>?_
   have:=k3 Y.length c hc (by omega)
   grind
  exact k2 i q hi (by simp at il;omega)
theorem ThI.fin {M:List Pc} {b:Rat} {p:Pc} {n:Nat} {a:Rat} {R:List Pc} (h:ThI M b p n a R) (hM:RtF M) (h1:b<p.E) (h2:p.L<p.H) (hx:n=M.length∨p.H≤a):∀t,b<t→t≤p.E→cm b R t=cm 0 M (xat b p t):=by
 intro t bt tE
 by_cases z:t≤tau b p a
 ·exact h.co t bt z
 ·by_cases q:a=p.H
  ·rw [q,tau_H h2] at z
   exact absurd tE z
  ·have hn:n=M.length:=hx.resolve_right (by have:=h.ah;grind)
   have ab:=h.bo.resolve_left q
   subst hn
   have x1:a<xat b p t:=(along h1 h2 t a).2.2.mp (by grind)
   rw [cm_none_of fun r hr=>by have:=h.en r hr;grind,cm_none_of fun q hq=>by have:=bg_last hM q hq;grind]
theorem ThI.start {M:List Pc} {b:Rat} {p:Pc} {n:Nat} (hM:RtF M) (h1:b<p.E) (h2:p.L<p.H) (p0:0≤p.L) (hn:n≤M.length) (c1:∀(i:Nat) q,M[i]?=some q→i<n→q.E≤p.L) (c2:∀(i:Nat) q,M[i]?=some q→n≤i→p.L<q.E):ThI M b p n p.L []:=by
 refine ⟨trivial,fun q hq=>(nomatch hq),tau_L.symm,Rat.le_refl,by grind,.inr ?_,fun q hq _=>c2 n q hq (Nat.le_refl _),fun t bt tt=>?_⟩
 ·cases n with
  | zero=>show val (0,1)≤_;rw [val_nought];exact p0
  | succ n =>
   have ha:M[n]?=some M[n]:=List.getElem?_eq_getElem (by omega)
   rw [bgS ha]
   exact c1 n _ ha (Nat.lt_succ_self n)
 ·rw [tau_L] at tt
  exact absurd tt (by grind)
theorem ThI.top {M:List Pc} {b:Rat} {p:Pc} {n:Nat} {a:Rat} {R:List Pc} (h:ThI M b p n a R) (h1:b<p.E) (h2:p.L<p.H):∀q∈R,q.E≤p.E:=by
 intro q hq
 have e:=h.en q hq
 have t:=tau_H (b:=b) h2
 have ah:=h.ah
 by_cases z:a=p.H
 ·rw [z,t] at e;exact e
 ·have:=tau_lt h1 h2 (show a<p.H by grind)
  rw [t] at this
  exact Rat.le_trans e (Rat.le_of_lt this)
noncomputable def gTh (y:Nat × Nat):PV→Bool
 | .tup (.tup [.int a,.int b]::_)=>!decide (y.1*b.toNat<a.toNat*y.2)
 | _=>false
noncomputable def TwI (st:AH) (M:List Pc) (b:Nat × Nat) (p:Pc) (j:Nat) (m:Nat) (ρ:Fr) (s:AH):Prop:=∃(n:Nat) (R:List Pc) (a:Nat × Nat) (g:AH) (x y:Option PV),m=M.length-n∧n≤M.length∧s=st++.lst (R.map pcV)::g∧ThI M (val b) p n (val a) R∧Cop a∧Sz j a∧SzL (5*j+2) R∧R.length≤n∧ρ=[some (rowV M),some (fr b),some (pcV p),some (fr p.e),some (fr p.l),some (fr p.h),none,some (.ref st.length),some (fr a),some (.int n),x,y]
theorem w_through {as st Q} (h:sp_through as st Q):wpSs Γ code_through (frame 12 as) st (bodyEnds st Q):=by
 obtain ⟨j,M,b,p,rfl,⟨j1,j2⟩,hM,hz,lM,cb,bz,pok,pz,bE,pLH,k⟩:=h
 have p0:0≤p.L:=val_nn pok.l.pos
 unfold code_through
 walk_at "WP"
 refine fr_eqW ?_
 by_cases q:p.l=p.h
 ·rw [decide_eq_true q,if_pos rfl]
  have eL:p.L=p.H:=congrArg val q
  have ex:∀t,p.L+(p.H-p.L)*((t-val b)/(p.E-val b))=p.H:=fun t=>by rw [eL];grind
  refine ⟨j,j,M,p.h,rfl,⟨j1,by omega⟩,hM,hz,pok.h,pz.h,by omega,fun o ho hc=>?_⟩
  cases o with
  | none =>
   walk_at "WPO"
   refine .inl (k [] _ _ get_last trivial (fun q hq=>(nomatch hq)) (fun q hq=>(nomatch hq)) (by simp) fun t _ _=>?_)
   rw [ex,hc]
   rfl
  | some c =>
   obtain ⟨cc,cz⟩:=ho c rfl
   walk_at "WPO"
   refine .inl (k [⟨p.e,c,c⟩] _ _ get_last ⟨⟨pok.e,cc,cc⟩,bE,Rat.le_refl,trivial⟩ (fun q hq=>?_) (fun q hq=>?_) (by simp) fun t t1 t2=>?_)
   ·rw [List.mem_singleton] at hq;rw [hq];exact Rat.le_refl
   ·rw [List.mem_singleton] at hq;rw [hq];exact ⟨pz.e.mono (by omega),cz.mono (by omega),cz.mono (by omega)⟩
   ·rw [ex,hc,cm,if_pos t2,if_neg (show ¬val b=p.E by grind)]
    show some (val c+(val c-val c)*_)=some (val c)
    congr 1
    grind
 ·rw [decide_eq_false q,if_neg Bool.false_ne_true]
  have lt:p.L<p.H:=by
   have:p.L≠p.H:=fun z=>q (val_inj pok.l pok.h z)
   grind
  obtain ⟨n0,n1,n2,n3⟩:=hM.cutE (y:=p.L)
  have hg:∀(i:Nat) r,M[i]?=some r→gTh p.l ((M.map pcV).getD i .non)=!decide (p.l.1*r.e.2<r.e.1*p.l.2):=fun i r e=>by
   rw [List.getD_eq_getElem?_getD,List.getElem?_map,e]
   rfl
  have hb:bsr (gTh p.l) (M.map pcV)=n0:=by
   refine bsr_spec (by simpa using n1) (fun i hi=>?_) (fun i h1 h2=>?_)
   ·have ha:M[i]?=some M[i]:=List.getElem?_eq_getElem (by omega)
    rw [hg i _ ha,decide_eq_false]
    ·rfl
    ·intro z
     have:=(val_lt pok.l.pos (hz _ (List.mem_of_getElem? ha)).e.pos).mp z
     have:=n2 i _ ha hi
     grind
   ·have h3:i<M.length:=by simpa using h2
    have ha:M[i]?=some M[i]:=List.getElem?_eq_getElem h3
    rw [hg i _ ha,decide_eq_true]
    ·rfl
    ·exact (val_lt pok.l.pos (hz _ (List.mem_of_getElem? ha)).e.pos).mpr (n3 i _ ha h1)
  refine ⟨by simp;omega,fun i hi=>?_,gTh p.l,fun x hx Q' q=>?_,?_⟩
  ·rw [List.mem_singleton] at hi
   subst hi
   exact ⟨fr p.l,rfl,by simp [PV.bel,PV.bels]⟩
  ·obtain ⟨r,hr,rfl⟩:=List.mem_map.mp hx
   walk_at "WP"
   exact ⟨_,_,rfl,pz.l.mono (by omega),(hz r hr).e.mono (by omega),_,rfl,q⟩
  ·rw [hb]
   refine while_by Γm (TwI st M b p j) (n:=M.length-n0) ⟨n0,[],p.l,[],none,none,rfl,n1,rfl,.start hM bE lt p0 n1 n2 n3,pok.l,pz.l,fun q hq=>(nomatch hq),Nat.zero_le _,rfl⟩ ?_
   rintro m ρ s ⟨n,R,a,g,x,y,rfl,hn,rfl,T,ca,az,rz,lR,rfl⟩
   walk_at "WP"
   rw [List.length_map]
   have fin:n=M.length∨p.H≤val a→Ret st Q (PV.ref (List.length st)) (st++Cell.lst (R.map pcV)::g):=fun hx =>
    .inl (k R _ _ get_mid T.ch (T.top bE lt) rz (by omega) (T.fin hM bE lt hx))
   by_cases c1:n<M.length
   ·rw [if_pos (by omega)]
    refine ⟨_,_,rfl,az.mono (by omega),pz.h.mono (by omega),?_⟩
    by_cases c2:val a<p.H
    ·rw [blt_yes az pz.h c2]
     obtain ⟨q,hq⟩:∃q,M[n]?=some q:=⟨_,List.getElem?_eq_getElem c1⟩
     have qz:=hz q (List.mem_of_getElem? hq)
     obtain ⟨qok,q1,q2⟩:=hM.at_ hq
     have ab:val (bg M n)≤val a:=T.bo.resolve_left (by grind)
     have aq:=T.nx q hq c2
     have al:=T.al
     have fin2:∀th:Nat × Nat,Cop th→Sz j th→(val th=q.E∧q.E<p.H)∨(val th=p.H∧p.H≤q.E)→sp_on_straight [PV.tup [fr p.l,fr b],PV.tup [fr p.h,fr p.e],fr th] (st++Cell.lst (R.map pcV)::g) fun v_1 st1 =>
       (∃xs,listAt st1 (PV.ref (List.length st))=some xs) ∧
        sp_height [rowV M,PV.int n,fr a] st1 fun x st1 =>
         sp_height [rowV M,PV.int n,fr th] st1 fun x_1 st1 =>
          ∃xs,st1[List.length st]?=some (Cell.lst xs)∧xs.length<100000∧∃m,m<M.length-n ∧
           TwI st M b p j m [some (rowV M),some (fr b),some (pcV p),some (fr p.e),some (fr p.l),some (fr p.h),none,some (PV.ref (List.length st)),some (fr th),some (PV.int ((n:Int)+1)),some (fr th),some v_1]
            (List.set st1 (List.length st) (Cell.lst (xs++[PV.tup [v_1,x,x_1]]))):=by
      intro th cth zth hth
      have ath:val a<val th:=by rcases hth with ⟨e,_⟩|⟨e,_⟩ <;> rw [e] <;> grind
      have thq:val th≤q.E:=by rcases hth with ⟨e,_⟩|⟨e,_⟩ <;> rw [e] <;> grind
      have thH:val th≤p.H:=by rcases hth with ⟨e,_⟩|⟨e,_⟩ <;> rw [e] <;> grind
      refine ⟨j,j,_,_,_,_,_,rfl,⟨j1,by omega⟩,⟨pz.l,bz,pz.h,pz.e,zth⟩,⟨lt,by grind,thH⟩,fun mo cmo zmo vmo=>⟨⟨_,listAt_ref get_mid⟩,?_⟩⟩
      refine ⟨j,j,M,n,q,a,rfl,⟨j1,by omega⟩,hM,hz,hq,ca,az,by rw [bgx_eq];exact ab,Rat.le_of_lt aq,fun x cx zx vx=>?_⟩
      refine ⟨j,j,M,n,q,th,rfl,⟨j1,by omega⟩,hM,hz,hq,cth,zth,by rw [bgx_eq];grind,thq,fun y cy zy vy=>?_⟩
      rw [bgx_eq,if_neg (by grind)] at vx vy
      refine ⟨_,get_mid,by simp;omega,M.length-(n+1),by omega,n+1,R++[⟨mo,x,y⟩],th,g,_,_,rfl,by omega,?_,?_,cth,zth,?_,by simp;omega,rfl⟩
      ·rw [set_mid];simp
      ·refine T.step hM hq bE lt p0 c2 hth ⟨cmo,cx,cy⟩ ?_ vx vy
       show val mo=_
       rw [vmo]
       rfl
      ·intro r hr
       rcases List.mem_append.mp hr with hr|hr
       ·exact rz r hr
       ·rw [List.mem_singleton] at hr
        rw [hr]
        exact ⟨zmo.mono (by omega),zx.mono (by omega),zy.mono (by omega)⟩
     walk_at "WP"
     refine ⟨pcV q,atI_nat (by rw [List.getElem?_map,hq];rfl),?_⟩
     walk_at "WP"
     refine ⟨_,_,rfl,qz.e.mono (by omega),pz.h.mono (by omega),?_⟩
     by_cases c3:q.E<p.H
     ·rw [blt_yes qz.e pz.h c3]
      walk_at "WP"
      refine ⟨pcV q,atI_nat (by rw [List.getElem?_map,hq];rfl),?_⟩
      walk_at "WP"
      exact fin2 q.e qok.e qz.e (.inl ⟨rfl,c3⟩)
     ·rw [blt_no qz.e pz.h (by grind)]
      walk_at "WP"
      exact fin2 p.h pok.h pz.h (.inr ⟨rfl,by grind⟩)
    ·rw [blt_no az pz.h (by grind)]
     walk_at "WP"
     exact fin (.inr (by grind))
   ·rw [if_neg (by omega)]
    exact fin (.inl (by omega))
theorem cmp2_inv {A B:List Pc} {t y:Rat} (h:cmp2 A B t=some y):∃x,cm 0 A t=some x∧cm 0 B x=some y:=by
 unfold cmp2 at h
 cases e:cm 0 A t with
 | none=>rw [e] at h;cases h
 | some x=>rw [e] at h;exact ⟨x,rfl,h⟩
theorem cmp2_mk {A B:List Pc} {t x:Rat} (h:cm 0 A t=some x):cmp2 A B t=cm 0 B x:=by unfold cmp2;rw [h];rfl
theorem cmp2_no {A B:List Pc} {t:Rat} (h:cm 0 A t=none):cmp2 A B t=none:=by unfold cmp2;rw [h];rfl
theorem cmp2_ge {A B:List Pc} {t y:Rat} (hA:RtF A) (hB:RtF B) (h0:0≤t) (h:cmp2 A B t=some y):t≤y:=by
 obtain ⟨x,e1,e2⟩:=cmp2_inv h
 have a:=cmF_ge hA h0 e1
 exact Rat.le_trans a (cmF_ge hB (Rat.le_trans h0 a) e2)
theorem cmp2_up {A B:List Pc} {t u y z:Rat} (hA:RtF A) (hB:RtF B) (h0:0≤t) (tu:t≤u) (h:cmp2 A B t=some y) (h':cmp2 A B u=some z):y≤z:=by
 obtain ⟨x,e1,e2⟩:=cmp2_inv h
 obtain ⟨x',e1',e2'⟩:=cmp2_inv h'
 have a:=cmF_ge hA h0 e1
 exact cmF_up hB (Rat.le_trans h0 a) (cmF_up hA h0 tu e1 e1') e2 e2'
theorem cmp2_dom {A B:List Pc} {t u z:Rat} (hA:RtF A) (h0:0≤t) (tu:t≤u) (h':cmp2 A B u=some z):∃y,cmp2 A B t=some y:=by
 obtain ⟨x',e1',e2'⟩:=cmp2_inv h'
 obtain ⟨x,e1⟩:=cm_dom tu e1'
 obtain ⟨y,e2⟩:=cm_dom (cmF_up hA h0 tu e1 e1') e2'
 exact ⟨y,by rw [cmp2_mk e1];exact e2⟩
theorem Ch.le {b b':Rat} (h:b'≤b):∀ {R:List Pc},Ch b R→Ch b' R
 | [],_=>trivial
 | p::r,⟨h1,h2,h3,h4⟩=>⟨h1,by grind,h3,h4⟩
theorem Ch.app {b:Rat} {R:List Pc} (hR:Ch b R):∀ {X:List Pc} {b0:Rat},Ch b0 X→lstE b0 X≤b→Ch b0 (X++R)
 | [],b0,_,h=>hR.le h
 | p::r,b0,⟨h1,h2,h3,h4⟩,h=>⟨h1,h2,h3,Ch.app hR h4 (by rw [lstE_cons] at h;exact h)⟩
theorem Ch.lst:∀ {X:List Pc} {b0:Rat},Ch b0 X→b0≤lstE b0 X∧∀q∈X,q.E≤lstE b0 X
 | [],b0,_=>⟨Rat.le_refl,fun q hq=>(nomatch hq)⟩
 | p::r,b0,⟨h1,h2,h3,h4⟩=>by
  obtain ⟨a1,a2⟩:=Ch.lst h4
  rw [lstE_cons]
  refine ⟨by grind,fun q hq=>?_⟩
  rcases List.mem_cons.mp hq with rfl|hq
  ·exact a1
  ·exact a2 q hq
theorem lstE_mem {b:Rat}:∀ {X:List Pc},X≠[]→∃q∈X,lstE b X=q.E:=by
 intro X h
 rcases snoc_or X with rfl|⟨Y,c,rfl⟩
 ·exact absurd rfl h
 ·exact ⟨c,by simp,by unfold lstE;rw [List.getLast?_concat];rfl⟩
structure ThnI (A B:List Pc) (j i:Nat) (X:List Pc):Prop where
 hd:∃c X',Cop c∧X=⟨(0,1),c,c⟩::X'∧Ch 0 X'
 en:∀q∈X,q.E≤val (bg A i)
 co:∀t,0≤t→t≤val (bg A i)→cm 0 X t=cmp2 A B t
 sz:SzL (5*j+2) X
 ln:X.length≤1+i*(B.length+1)
theorem ThnI.step {A B:List Pc} {j i:Nat} {X R:List Pc} {p:Pc} (h:ThnI A B j i X) (hA:RtF A) (hp:A[i]?=some p) (lt:val (bg A i)<p.E) (hR:Ch (val (bg A i)) R) (hE:∀q∈R,q.E≤p.E) (rz:SzL (5*j+2) R) (lR:R.length≤B.length+1)
  (hc:∀t,val (bg A i)<t→t≤p.E→cm (val (bg A i)) R t=cm 0 B (p.L+(p.H-p.L)*((t-val (bg A i))/(p.E-val (bg A i))))):ThnI A B j (i+1) (X++R):=by
 obtain ⟨c,X',cc,rfl,hX⟩:=h.hd
 have b0:0≤val (bg A i):=val_nn (nb hA hp).1.pos
 have ls:lstE 0 (⟨(0,1),c,c⟩::X')≤val (bg A i):=by
  obtain ⟨q,hq,e⟩:=lstE_mem (b:=0) (X:=⟨(0,1),c,c⟩::X') (by simp)
  rw [e]
  exact h.en q hq
 have v0:Pc.E ⟨(0,1),c,c⟩=0:=val_nought
 have F:∀t,val (bg A i)<t→t≤p.E→cmp2 A B t=cm (val (bg A i)) R t:=fun t t1 t2=>by
  rw [cmp2_mk (cm_at hA hp (.inr t1) t2),if_neg (by grind),hc t t1 t2]
 have ne:R≠[]→∃u z,val (bg A i)<u∧cmp2 A B u=some z:=fun z=>by
  cases R with
  | nil=>exact absurd rfl z
  | cons r R =>
   obtain ⟨y,e⟩:=cm_hd (b:=val (bg A i)) (p:=r) (r:=R)
   exact ⟨r.E,y,hR.2.1,by rw [F _ hR.2.1 (hE r (by simp)),e]⟩
 have hbg:bg A (i+1)=p.e:=bgS hp
 refine ⟨⟨c,X'++R,cc,rfl,Ch.app hR hX (by rw [lstE_cons,v0] at ls;exact ls)⟩,fun q hq=>?_,fun t t0 t1=>?_,fun q hq=>?_,?_⟩
 ·rw [hbg]
  rcases List.mem_append.mp hq with hq|hq
  ·have:=h.en q hq;grind
  ·exact hE q hq
 ·rw [hbg] at t1
  by_cases tb:t≤val (bg A i)
  ·have e:=h.co t t0 tb
   cases y:cm 0 (⟨(0,1),c,c⟩::X') t with
   | some v=>rw [cm_app_some y,←y,e]
   | none =>
    rw [cm_app_none y]
    have:R=[]:=Classical.byContradiction fun z=>by
     obtain ⟨u,z,u1,u2⟩:=ne z
     obtain ⟨v,hv⟩:=cmp2_dom hA t0 (by grind) u2
     rw [y,hv] at e
     cases e
    subst this
    rw [←e,y]
    rfl
  ·have n1:cm 0 (⟨(0,1),c,c⟩::X') t=none:=cm_none_of fun q hq=>by have:=h.en q hq;grind
   rw [cm_app_none n1,F t (by grind) t1]
   by_cases z:R=[]
   ·subst z;rfl
   ·obtain ⟨u,w,u1,u2⟩:=ne z
    obtain ⟨v,hv⟩:=cmp2_dom hA b0 (Rat.le_of_lt u1) u2
    have e:=h.co _ b0 Rat.le_refl
    rw [hv] at e
    have:lstE 0 (⟨(0,1),c,c⟩::X')=val (bg A i):=by
     have l2:∀q∈(⟨(0,1),c,c⟩::X':List Pc),q.E≤lstE 0 (⟨(0,1),c,c⟩::X'):=fun q hq=>by
      rw [lstE_cons,v0]
      obtain ⟨a1,a2⟩:=Ch.lst hX
      rcases List.mem_cons.mp hq with rfl|hq
      ·rw [v0];exact a1
      ·exact a2 q hq
     refine Classical.byContradiction fun z'=>?_
     have:=cm_none_of (L:=⟨(0,1),c,c⟩::X') (b:=0) (t:=val (bg A i)) fun q hq=>by have:=l2 q hq;grind
     rw [this] at e
     cases e
    rw [this]
 ·rcases List.mem_append.mp hq with hq|hq
  ·exact h.sz q hq
  ·exact rz q hq
 ·have:=h.ln
  rw [List.length_append,Nat.add_mul,Nat.one_mul]
  omega
theorem ThnI.all {A B:List Pc} {j:Nat} {X:List Pc} (h:ThnI A B j A.length X) (hA:RtF A):∀t,0≤t→cm 0 X t=cmp2 A B t:=by
 intro t t0
 by_cases z:t≤val (bg A A.length)
 ·exact h.co t t0 z
 ·rw [cm_none_of fun q hq=>by have:=h.en q hq;grind,cmp2_no (cm_none_of fun q hq=>by have:=bg_last hA q hq;grind)]
theorem ThnI.rt {A B:List Pc} {j:Nat} {X:List Pc} (h:ThnI A B j A.length X) (hA:RtF A) (hB:RtF B):RtF X:=by
 have a:=h.all hA
 obtain ⟨c,X',cc,rfl,hX⟩:=h.hd
 refine rtF_of ⟨⟨cop01,cc,cc⟩,Rat.le_refl,?_⟩ (fun p r e _=>by cases e;rfl) (fun t y t0 e=>?_) fun t u y z t0 tu e e'=>?_
 ·show Ch (val (0,1)) X'
  rw [val_nought];exact hX
 ·rw [a t t0] at e;exact cmp2_ge hA hB t0 e
 ·rw [a t t0] at e
  rw [a u (Rat.le_trans t0 tu)] at e'
  exact cmp2_up hA hB t0 tu e e'
noncomputable def TnI (st:AH) (A B:List Pc) (j:Nat) (sv cv:PV) (i:Nat) (ρ:Fr) (s:AH):Prop:=∃(X:List Pc) (g:AH) (x y:Option PV),s=st++.lst (X.map pcV)::g∧ThnI A B j i X∧ρ=[some (rowV A),some (rowV B),some sv,some cv,some (.ref st.length),x,y]
theorem w_then {as st Q} (h:sp_then as st Q):wpSs Γ code_then (frame 7 as) st (bodyEnds st Q):=by
 obtain ⟨j,A,B,rfl,⟨j1,j2⟩,hA,az,hB,bz,hl,k⟩:=h
 have lA:A.length<10000:=by
  have:=Nat.le_mul_of_pos_right (A.length+1) (show 0<B.length+1 by omega)
  omega
 have lB:B.length<9900:=by
  have:=Nat.le_mul_of_pos_left (B.length+1) (show 0<A.length+1 by omega)
  omega
 have z01:Sz 1 (0,1):=⟨by decide,by decide,by decide⟩
 have non:cmp2 A B 0=none→∀t,0≤t→cm 0 [] t=cmp2 A B t:=fun h t t0=>by
  cases e:cmp2 A B t with
  | none=>rfl
  | some z =>
   obtain ⟨y,hy⟩:=cmp2_dom hA Rat.le_refl t0 e
   rw [h] at hy
   cases hy
 unfold code_then
 walk_at "WP"
 refine ⟨j,1,A,(0,1),rfl,⟨j1,by omega⟩,hA,az,cop01,z01,lA,fun o ho hc=>?_⟩
 rw [val_nought] at hc
 cases o with
 | none =>
  walk_at "WPO"
  exact .inl (k [] trivial trivial (fun q hq=>(nomatch hq)) (Nat.zero_le _) (non (cmp2_no hc)))
 | some s0 =>
  obtain ⟨cs,_⟩:=ho s0 rfl
  have sz:Sz j s0:=by
   cases A with
   | nil=>cases hc
   | cons p r =>
    have e:cm 0 (p::r) 0=some p.L:=by
     rw [cm,if_pos (val_nn hA.1.e.pos)]
     by_cases z:0=p.E
     ·rw [if_pos z]
     ·rw [if_neg z];congr 1;grind
    rw [e] at hc
    have:=val_inj hA.1.l cs (Option.some.inj hc)
    rw [←this]
    exact (az p (by simp)).l
  walk_at "WPO"
  refine ⟨j,j,B,s0,rfl,⟨j1,by omega⟩,hB,bz,cs,sz,by omega,fun o2 ho2 hc2=>?_⟩
  have e0:cmp2 A B 0=o2.map val:=by rw [cmp2_mk hc];exact hc2
  cases o2 with
  | none =>
   walk_at "WPO"
   exact .inl (k [] trivial trivial (fun q hq=>(nomatch hq)) (Nat.zero_le _) (non e0))
  | some c =>
   obtain ⟨cc,cz⟩:=ho2 c rfl
   walk_at "WPO"
   have sz1:SzL (5*j+2) [⟨(0,1),c,c⟩]:=fun q hq=>by
    rw [List.mem_singleton] at hq
    rw [hq]
    exact ⟨z01.mono (by omega),cz.mono (by omega),cz.mono (by omega)⟩
   have I0:ThnI A B j 0 [⟨(0,1),c,c⟩]:=by
    refine ⟨⟨c,[],cc,rfl,trivial⟩,fun q hq=>?_,fun t t0 t1=>?_,sz1,by simp⟩
    ·rw [List.mem_singleton] at hq
     rw [hq]
     exact Rat.le_refl
    ·have t1:t≤val (0,1):=t1
     rw [val_nought] at t1
     have:t=0:=by grind
     subst this
     rw [e0,cm,if_pos (show (0:Rat)≤val (0,1) by rw [val_nought];exact Rat.le_refl),if_pos (show (0:Rat)=val (0,1) from val_nought.symm)]
     rfl
   refine for_by Γm (TnI st A B j (fr s0) (fr c)) ⟨_,[],none,none,rfl,I0,rfl⟩ ?_ ?_
   ·rintro i v ρ s hi ⟨X,g,x,y,rfl,I,rfl⟩
    refine ⟨trivial,?_⟩
    obtain ⟨v,hv,rfl⟩:=enumL_get hi
    rw [List.getElem?_map] at hv
    obtain ⟨p,hp,rfl⟩:=Option.map_eq_some_iff.mp hv
    have il:=(List.getElem?_eq_some_iff.mp hp).1
    have pz:=az p (List.mem_of_getElem? hp)
    obtain ⟨pok,p1,p2⟩:=hA.at_ hp
    obtain ⟨n1,n2,n3,n4⟩:=nb hA hp
    have bgz:Sz j (bg A i):=bgZ az (by omega) j1
    rw [Int.zero_add]
    walk_at "WP"
    refine fr_eqW (q:=(0,1)) ?_
    by_cases q:p.e=(0,1)
    ·rw [decide_eq_true q]
     walk_at "WP"
     have i0:i=0:=Classical.byContradiction fun z=>by
      have:=n4 z
      have:p.E=0:=by show val p.e=0;rw [q];exact val_nought
      have:=val_nn n1.pos
      grind
     subst i0
     have eb:bg A (0+1)=bg A 0:=by rw [bgS hp,q];rfl
     refine ⟨X,g,_,_,rfl,⟨I.hd,by rw [eb];exact I.en,by rw [eb];exact I.co,I.sz,by have:=I.ln;omega⟩,rfl⟩
    ·rw [decide_eq_false q]
     walk_at "WP"
     have lt:val (bg A i)<p.E:=by
      by_cases z:i=0
      ·subst z
       have:p.E≠0:=fun z=>q (val_inj pok.e cop01 (by rw [val_nought];exact z))
       have e:val (bg A 0)=0:=val_nought
       have:=val_nn pok.e.pos
       rw [e]
       grind
      ·exact n4 z
     refine ⟨A,i,rfl,by omega,?_⟩
     rw [bgx_eq]
     walk_at "WP"
     refine ⟨j,B,bg A i,p,rfl,⟨j1,j2⟩,hB,bz,by omega,n1,bgz,pok,pz,lt,p1,fun R g' n hn hR hE rz lR hcR=>?_⟩
     have I2:=I.step hA hp lt hR hE rz lR hcR
     have lX:=I2.ln
     have lX2:1+(i+1)*(B.length+1)≤9901:=by
      have:=Nat.mul_le_mul_right (B.length+1) (show i+1≤A.length+1 by omega)
      omega
     walk_at "WP"
     rw [List.append_assoc,List.cons_append] at hn
     refine ⟨_,hn,by simp at lX ⊢;omega,X++R,g++g',_,_,?_,I2,rfl⟩
     rw [set_mid];simp
   ·rintro ρ s ⟨X,g,x,y,rfl,I,rfl⟩
    refine ⟨trivial,?_⟩
    rw [enumL_len,List.length_map] at I
    have rt:=I.rt hA hB
    have lX:=I.ln
    have lX2:1+A.length*(B.length+1)≤(A.length+1)*(B.length+1):=by rw [Nat.add_mul];omega
    walk_at "WP"
    refine ⟨_,seqAt_ref get_mid,X,rfl,I.sz.mono (by omega),rt.lok,by omega,.inr (.app row_bel ?_)⟩
    refine k _ (leanF_rt rt) (leanF_ng rt) (leanF_sz I.sz) (Nat.le_trans leanF_len (by omega)) fun t t0=>?_
    rw [leanF_cm rt t0]
    exact I.all hA t t0
theorem cm_top {Y:List Pc} {q:Pc} (h:RtF (Y++[q])):cm 0 (Y++[q]) q.E=some q.H:=by
 have hq:(Y++[q])[Y.length]?=some q:=by simp
 obtain ⟨n1,n2,n3,n4⟩:=nb h hq
 rw [cm_at h hq (by by_cases z:Y.length=0;exact .inl z;exact .inr (n4 z)) Rat.le_refl]
 congr 1
 by_cases z:val (bg (Y++[q]) Y.length)=q.E
 ·rw [if_pos z];exact n3 z
 ·rw [if_neg z]
  have:q.E-val (bg (Y++[q]) Y.length)≠0:=by grind
  grind
theorem cm_behind {Y:List Pc} {q:Pc} (h:RtF (Y++[q])) {t:Rat} (ht:q.E<t):cm 0 (Y++[q]) t=none:=by
 have hq:(Y++[q])[Y.length]?=some q:=by simp
 refine cm_none_of fun r hr=>?_
 have:=bg_last h r hr
 rw [show (Y++[q]).length=Y.length+1 by simp,bgS hq] at this
 grind
theorem nil_of {R:List Pc} (h:∀t,0≤t→cm 0 R t=none) (hR:RtF R):R=[]:=by
 cases R with
 | nil=>rfl
 | cons p r =>
  obtain ⟨y,e⟩:=cm_hd (b:=0) (p:=p) (r:=r)
  rw [h p.E (val_nn hR.1.e.pos)] at e
  cases e
theorem BdU.szK {d:Nat} {U:List Un3} (h0:0<d) (h1:d≤10 ^ 11) (h:BdU (2 ^ 37) U):SzL 40 (U.map (pcOf d)):=fun p hp=>by
 obtain ⟨u,hu,rfl⟩:=List.mem_map.mp hp
 obtain ⟨a,b,c⟩:=h u hu
 have s:∀n,n≤2 ^ 37→Sz 40 (lowp n d):=fun n hn=>⟨Nat.lt_of_le_of_lt (lowp_le1 _ _) (by omega),Nat.lt_of_le_of_lt (lowp_le2 _ _) (by omega),lowp_pos h0⟩
 exact ⟨s _ a,s _ b,s _ c⟩
theorem stz_of {d:Nat} {U:List Un3} (h0:0<d) (h1:d≤10 ^ 11) (hU:RUF U) (h:BdU (2 ^ 37) U) (hl:U.length≤20):Stz 40 20 (leanF (U.map (pcOf d))) :=
 ⟨leanF_rt (hU.rt h0),leanF_ng (hU.rt h0),leanF_sz (h.szK h0 h1),Nat.le_trans leanF_len (by simpa using hl)⟩
theorem lb_acc {y:Rat}:∀ {r:List Pc} {b:Rat} {acc:Option Rat},lb y b acc r=(lb y b none r).or acc
 | [],b,acc=>rfl
 | p::r,b,acc=>by
  rw [lb,lb,lb_acc (r:=r),lb_acc (r:=r) (acc:=if p.H≤y then _ else _),Option.or_assoc]
  congr 1
  by_cases h1:p.H≤y
  ·rw [if_pos h1,if_pos h1];rfl
  ·rw [if_neg h1,if_neg h1]
   by_cases h2:p.L≤y
   ·rw [if_pos h2,if_pos h2];rfl
   ·rw [if_neg h2,if_neg h2];rfl
theorem lb_or {y:Rat}:∀ {r:List Pc} {e h:Rat} {acc:Option Rat},Rt e h r→lb y e acc r=acc∨∃l,lb y e acc r=some l∧e≤l∧h≤y
 | [],e,h,acc,_=>.inl rfl
 | p::r,e,h,acc,⟨k1,k2,k3,k4,k5,k6⟩=>by
  rw [lb]
  rcases lb_or (y:=y) (acc:=if p.H≤y then some p.E else if p.L≤y then some (e+(y-p.L)/(p.H-p.L)*(p.E-e)) else acc) k6 with z|⟨l,z,z1,z2⟩
  ·rw [z]
   by_cases h1:p.H≤y
   ·rw [if_pos h1];exact .inr ⟨_,rfl,by grind,by grind⟩
   ·rw [if_neg h1]
    by_cases h2:p.L≤y
    ·rw [if_pos h2]
     obtain ⟨q,q1,q2,q3,q4⟩:=frac01 (a:=y-p.L) (w:=p.H-p.L) (by grind) (by grind) (by grind)
     have:=Rat.mul_nonneg q3 (show 0≤p.E-e by grind)
     exact .inr ⟨_,rfl,by rw [q1];grind,by grind⟩
    ·rw [if_neg h2];exact .inl rfl
  ·exact .inr ⟨l,z,by grind,by grind⟩
theorem seg_iff {b E L H t y:Rat} (hb:b<E) (h1:L≤y) (h2:y<H):L+(H-L)*((t-b)/(E-b))≤y↔t≤b+(y-L)/(H-L)*(E-b):=by
 obtain ⟨u,hu⟩:∃u,(t-b)/(E-b)=u:=⟨_,rfl⟩
 obtain ⟨v,hv⟩:∃v,(y-L)/(H-L)=v:=⟨_,rfl⟩
 have w1:E-b≠0:=by grind
 have w2:H-L≠0:=by grind
 have u1:u*(E-b)=t-b:=by rw [←hu];grind
 have v1:v*(H-L)=y-L:=by rw [←hv];grind
 rw [hu,hv]
 constructor
 ·intro h
  refine Classical.byContradiction fun z=>?_
  have hlt:v<u:=by
   refine Classical.byContradiction fun z'=>?_
   have:=Rat.mul_nonneg (a:=v-u) (b:=E-b) (by grind) (by grind)
   grind
  have:=Rat.mul_pos (a:=u-v) (b:=H-L) (by grind) (by grind)
  grind
 ·intro h
  refine Classical.byContradiction fun z=>?_
  have hlt:v<u:=by
   refine Classical.byContradiction fun z'=>?_
   have:=Rat.mul_nonneg (a:=v-u) (b:=H-L) (by grind) (by grind)
   grind
  have:=Rat.mul_pos (a:=u-v) (b:=E-b) (by grind) (by grind)
  grind
theorem ans_step {y t:Rat} {p:Pc} {r:List Pc} {b:Rat} (hE:b≤p.E) (hz:b=p.E→p.L=p.H) (hLH:p.L≤p.H) (hr:Rt p.E p.H r) (bt:b≤t)
  (ih:p.E<t→((∃c,cm p.E r t=some c∧c≤y)↔∃l,lb y p.E none r=some l∧t≤l)):(∃c,cm b (p::r) t=some c∧c≤y)↔∃l,lb y b none (p::r)=some l∧t≤l:=by
 rw [cm,lb]
 by_cases q:t≤p.E
 ·rw [if_pos q]
  obtain ⟨c0,hc0⟩:∃c0,c0=(if b=p.E then p.L else p.L+(p.H-p.L)*((t-b)/(p.E-b))):=⟨_,rfl⟩
  rw [←hc0]
  have hc:p.L≤c0∧c0≤p.H:=by
   rw [hc0]
   by_cases e:b=p.E
   ·rw [if_pos e];exact ⟨by grind,hLH⟩
   ·rw [if_neg e];exact seg (by grind) bt q hLH
  rcases lb_or (y:=y) (acc:=if p.H≤y then some p.E else if p.L≤y then some (b+(y-p.L)/(p.H-p.L)*(p.E-b)) else none) hr with z|⟨l,z,z1,z2⟩
  ·rw [z]
   by_cases h1:p.H≤y
   ·rw [if_pos h1];exact ⟨fun _=>⟨_,rfl,q⟩,fun _=>⟨_,rfl,by grind⟩⟩
   ·rw [if_neg h1]
    by_cases h2:p.L≤y
    ·rw [if_pos h2]
     have lt:b<p.E:=by
      have:b≠p.E:=fun e=>by have:=hz e;grind
      grind
     rw [if_neg (by grind)] at hc0
     have:=seg_iff (t:=t) lt h2 (show y<p.H by grind)
     rw [←hc0] at this
     exact ⟨fun ⟨c,e,h⟩=>⟨_,rfl,by cases e;exact this.mp h⟩,fun ⟨l,e,h⟩=>⟨_,rfl,by cases e;exact this.mpr h⟩⟩
    ·rw [if_neg h2]
     exact ⟨fun ⟨c,e,h⟩=>by cases e;grind,fun ⟨l,e,h⟩=>by cases e⟩
  ·rw [z];exact ⟨fun _=>⟨_,rfl,by grind⟩,fun _=>⟨_,rfl,by grind⟩⟩
 ·rw [if_neg q,lb_acc,ih (by grind)]
  cases e:lb y p.E none r with
  | some l=>rfl
  | none =>
   refine ⟨fun ⟨l,z,_⟩=>(nomatch z),fun ⟨l,z,h⟩=>?_⟩
   rw [Option.none_or] at z
   by_cases h1:p.H≤y
   ·rw [if_pos h1] at z;cases z;grind
   ·rw [if_neg h1] at z
    by_cases h2:p.L≤y
    ·rw [if_pos h2] at z
     cases z
     obtain ⟨q0,q1,q2,q3,q4⟩:=frac01 (a:=y-p.L) (w:=p.H-p.L) (by grind) (by grind) (by grind)
     have:=Rat.mul_nonneg (a:=1-q0) (b:=p.E-b) (by grind) (by grind)
     rw [q1] at h
     grind
    ·rw [if_neg h2] at z;cases z
theorem ans {y t:Rat}:∀ {L:List Pc} {b hh:Rat},Rt b hh L→b<t→((∃c,cm b L t=some c∧c≤y)↔∃l,lb y b none L=some l∧t≤l)
 | [],b,hh,_,_=>⟨fun ⟨c,e,_⟩=>(nomatch e),fun ⟨c,e,_⟩=>(nomatch e)⟩
 | p::r,b,hh,⟨k1,k2,k3,k4,k5,k6⟩,bt=>ans_step (by grind) (fun e=>by grind) k4 k6 (by grind) (fun q=>ans k6 q)
theorem ansF {y t:Rat} {L:List Pc} (h:RtF L) (h0:0≤t):((∃c,cm 0 L t=some c∧c≤y)↔∃l,lb y 0 none L=some l∧t≤l):=by
 cases L with
 | nil=>exact ⟨fun ⟨c,e,_⟩=>(nomatch e),fun ⟨c,e,_⟩=>(nomatch e)⟩
 | cons p r=>exact ans_step (val_nn h.1.e.pos) h.2.2.2.1 h.2.1 h.2.2.2.2 h0 (fun q=>ans h.2.2.2.2 q)
noncomputable def bR (b:Rat) (L:List Pc):Nat→Rat
 | 0=>b
 | i+1=>((L[i]?).map Pc.E).getD b
theorem lb_cut {y:Rat}:∀ {L:List Pc} {b:Rat} {acc:Option Rat} {n:Nat},n≤L.length→(∀(i:Nat) p,L[i]?=some p→i<n→p.L≤y)→(∀(i:Nat) p,L[i]?=some p→n≤i→y<p.L∧p.L≤p.H) →
  lb y b acc L=(if n=0 then acc else (L[n-1]?).map fun p=>if p.H≤y then p.E else bR b L (n-1)+(y-p.L)/(p.H-p.L)*(p.E-bR b L (n-1)))
 | [],b,acc,n,h,_,_=>by
  have:n=0:=by simpa using h
  rw [if_pos this];rfl
 | p::r,b,acc,0,_,h1,h2=>by
  have:=h2 0 p rfl (Nat.le_refl _)
  rw [lb,if_neg (by grind),if_neg (by grind),lb_cut (n:=0) (Nat.zero_le _) (fun i q _ z=>absurd z (Nat.not_lt_zero _)) (fun i q e _=>h2 (i+1) q (by simpa using e) (Nat.zero_le _))]
  rfl
 | p::r,b,acc,n+1,h,h1,h2=>by
  have hp:=h1 0 p rfl (Nat.succ_pos _)
  rw [lb,lb_cut (n:=n) (by simpa using h) (fun i q e z=>h1 (i+1) q (by simpa using e) (by omega)) (fun i q e z=>h2 (i+1) q (by simpa using e) (by omega)),if_neg (Nat.succ_ne_zero n),Nat.add_sub_cancel]
  cases n with
  | zero =>
   rw [if_pos rfl,List.getElem?_cons_zero,Option.map_some,if_pos hp]
   by_cases h3:p.H≤y
   ·rw [if_pos h3,if_pos h3]
   ·rw [if_neg h3,if_neg h3];rfl
  | succ n =>
   rw [if_neg (Nat.succ_ne_zero n),Nat.add_sub_cancel,List.getElem?_cons_succ]
   have e:bR p.E r n=bR b (p::r) (n+1):=by
    cases n with
    | zero=>rfl
    | succ n =>
     have:n<r.length:=by simp at h;omega
     show ((r[n]?).map Pc.E).getD p.E=(((p::r)[n+1]?).map Pc.E).getD b
     rw [List.getElem?_cons_succ,List.getElem?_eq_getElem this]
     rfl
   rw [e]
theorem Rt.cutL {y:Rat}:∀ {L:List Pc} {b hh:Rat},Rt b hh L→∃k,k≤L.length∧(∀(i:Nat) p,L[i]?=some p→i<k→p.L≤y)∧∀(i:Nat) p,L[i]?=some p→k≤i→y<p.L∧p.L≤p.H
 | [],b,hh,_=>⟨0,Nat.le_refl _,fun i p e=>by simp at e,fun i p e=>by simp at e⟩
 | p::r,b,hh,⟨k1,k2,k3,k4,k5,k6⟩=>by
  by_cases q:p.L≤y
  ·obtain ⟨k,h1,h2,h3⟩:=k6.cutL (y:=y)
   refine ⟨k+1,by simp;omega,fun i p' e h=>?_,fun i p' e h=>?_⟩
   ·cases i with
    | zero=>cases e;exact q
    | succ i=>exact h2 i p' (by simpa using e) (by omega)
   ·cases i with
    | zero=>omega
    | succ i=>exact h3 i p' (by simpa using e) (by omega)
  ·refine ⟨0,Nat.zero_le _,fun i p _ h=>absurd h (Nat.not_lt_zero _),fun i p' e _=>?_⟩
   cases i with
   | zero=>cases e;exact ⟨by grind,k4⟩
   | succ i =>
    obtain ⟨_,a1,_,_,a2⟩:=k6.at_ (show r[i]?=some p' by simpa using e)
    exact ⟨by grind,a1⟩
theorem RtF.cutL {y:Rat} {L:List Pc} (h:RtF L):∃k,k≤L.length∧(∀(i:Nat) p,L[i]?=some p→i<k→p.L≤y)∧∀(i:Nat) p,L[i]?=some p→k≤i→y<p.L∧p.L≤p.H:=by
 cases L with
 | nil=>exact ⟨0,Nat.le_refl _,fun i p e=>by simp at e,fun i p e=>by simp at e⟩
 | cons a r=>exact Rt.cutL (b:=a.E-1) (hh:=a.L) ⟨h.1,by grind,by grind,h.2.1,h.2.2.1,h.2.2.2.2⟩
theorem bR_bg {L:List Pc} {i:Nat}:bR 0 L i=val (bg L i):=by
 cases i with
 | zero=>exact val_nought.symm
 | succ i =>
  show ((L[i]?).map Pc.E).getD 0=val (((L[i]?).map Pc.e).getD (0,1))
  cases L[i]? with
  | none=>exact val_nought.symm
  | some p=>rfl
noncomputable def gLa (y:Nat × Nat):PV→Bool
 | .tup (_::.tup [.int a,.int b]::_)=>!decide (y.1*b.toNat<a.toNat*y.2)
 | _=>false
theorem w_latest {as st Q} (h:sp_latest as st Q):wpSs Γ code_latest (frame 6 as) st (bodyEnds st Q):=by
 obtain ⟨j,m,L,y,rfl,⟨j1,j2⟩,hR,hz,cy,yz,hl,k⟩:=h
 unfold code_latest
 walk_at "WP"
 obtain ⟨n,n1,n2,n3⟩:=hR.cutL (y:=val y)
 have hc:=lb_cut (b:=0) (acc:=none) n1 n2 n3
 have hg:∀(i:Nat) p,L[i]?=some p→gLa y ((L.map pcV).getD i .non)=!decide (y.1*p.l.2<p.l.1*y.2):=fun i p e=>by
  rw [List.getD_eq_getElem?_getD,List.getElem?_map,e]
  rfl
 have hb:bsr (gLa y) (L.map pcV)=n:=by
  refine bsr_spec (by simpa using n1) (fun i hi=>?_) (fun i h1 h2=>?_)
  ·have ha:L[i]?=some L[i]:=List.getElem?_eq_getElem (by omega)
   rw [hg i _ ha,decide_eq_false]
   ·rfl
   ·intro z
    have:=(val_lt cy.pos (hz _ (List.mem_of_getElem? ha)).l.pos).mp z
    have:=n2 i _ ha hi
    grind
  ·have h3:i<L.length:=by simpa using h2
   have ha:L[i]?=some L[i]:=List.getElem?_eq_getElem h3
   rw [hg i _ ha,decide_eq_true]
   ·rfl
   ·exact (val_lt cy.pos (hz _ (List.mem_of_getElem? ha)).l.pos).mpr (n3 i _ ha h1).1
 refine ⟨by simp;omega,fun i hi=>?_,gLa y,fun x hx Q' q=>?_,?_⟩
 ·rw [List.mem_singleton] at hi
  subst hi
  exact ⟨fr y,rfl,by simp [PV.bel,PV.bels]⟩
 ·obtain ⟨p,hp,rfl⟩:=List.mem_map.mp hx
  walk_at "WP"
  exact ⟨_,_,rfl,yz.mono (by omega),(hz p hp).l.mono (by omega),_,rfl,q⟩
 ·rw [hb]
  cases n with
  | zero =>
   rw [if_pos (by decide)]
   rw [if_pos rfl] at hc
   exact .inl (k none (fun z hz=>nomatch hz) hc)
  | succ n =>
   have e1:((n+1:Nat):Int)-1=n:=by omega
   rw [if_neg (by omega),e1]
   rw [if_neg (Nat.succ_ne_zero n),Nat.add_sub_cancel,bR_bg] at hc
   have ha:L[n]?=some L[n]:=List.getElem?_eq_getElem (by omega)
   obtain ⟨p,hp⟩:∃p,L[n]?=some p:=⟨_,ha⟩
   have pz:=hz p (List.mem_of_getElem? hp)
   obtain ⟨pok,p1,p2⟩:=hR.at_ hp
   obtain ⟨b1,b2,b3,b4⟩:=nb hR hp
   have bz:Sz j (bg L n):=bgZ hz (by omega) j1
   have hly:=n2 n p hp (Nat.lt_succ_self n)
   rw [hp,Option.map_some] at hc
   refine ⟨pcV p,atI_nat (by rw [List.getElem?_map,hp];rfl),?_⟩
   walk_at "WP"
   refine ⟨_,_,rfl,yz.mono (by omega),pz.h.mono (by omega),?_⟩
   by_cases q:val y<p.H
   ·rw [decide_eq_true ((val_lt yz.pos pz.h.pos).mpr q)]
    rw [if_neg (show ¬p.H≤val y by grind)] at hc
    walk_at "WP"
    refine ⟨L,n,rfl,by omega,?_⟩
    rw [bgx_eq]
    walk_at "WP"
    refine ⟨j,m,_,_,_,_,_,rfl,⟨j1,j2⟩,⟨pz.l,bz,pz.h,pz.e,yz⟩,⟨by grind,hly,by grind⟩,fun r cr sr vr=>.inl (k (some r) (fun z hz=>by cases hz;exact ⟨cr,sr⟩) ?_)⟩
    rw [hc,Option.map_some,vr,Rat.mul_comm]
   ·rw [decide_eq_false (fun z=>q ((val_lt yz.pos pz.h.pos).mp z))]
    rw [if_pos (show p.H≤val y by grind)] at hc
    walk_at "WP"
    exact .inl (k (some p.e) (fun z hz=>by cases hz;exact ⟨pok.e,pz.e.mono (by omega)⟩) hc)
set_option Elab.async false
set_option linter.all false
set_option maxRecDepth 100000
set_option maxHeartbeats 4000000
open PySem L2 HX FW
theorem w_is_piece {as st Q} (h:sp_is_piece as st Q):wpSs Γ code_is_piece (frame 1 as) st (bodyEnds st Q):=by
 obtain ⟨p,rfl,ok,k⟩:=h
 unfold code_is_piece
 walk_at "WP"
 rw [if_pos (by rfl)]
 refine ⟨by decide,?_⟩
 refine FW.comp_map Γm (fun _=>.bl true) trivial (fun x hx=>?_) ?_
 ·simp only [List.mem_cons,List.not_mem_nil,or_false] at hx
  walk_at "WP"
  rcases hx with rfl|rfl|rfl
  ·exact ⟨_,rfl,fr_bel,by rw [ok.e.isFr],rfl⟩
  ·exact ⟨_,rfl,fr_bel,by rw [ok.l.isFr],rfl⟩
  ·exact ⟨_,rfl,fr_bel,by rw [ok.h.isFr],rfl⟩
 ·exact ⟨_,listAt_ref get_last,_,bools_map (f:=fun _=>true),.app rfl (.inl k)⟩
theorem w_is_right_alone {as st Q} (h:sp_is_right_alone as st Q):wpSs Γ code_is_right_alone (frame 4 as) st (bodyEnds st Q):=by
 obtain ⟨p,rfl,hz,h1,h2,k⟩:=h
 unfold code_is_right_alone
 walk_at "WP"
 refine ⟨p.h,p.l,rfl,hz.h.mono (by decide),hz.l.mono (by decide),_,rfl,?_⟩
 rw [blt_no hz.h hz.l h1,if_pos rfl]
 refine ⟨p.h,p.e,rfl,hz.h.mono (by decide),hz.e.mono (by decide),_,rfl,?_⟩
 rw [blt_no hz.h hz.e h2]
 exact .inl k
theorem w_is_right_first {as st Q} (h:sp_is_right_first as st Q):wpSs Γ code_is_right_first (frame 4 as) st (bodyEnds st Q):=by
 obtain ⟨p,rfl,ok,hz,k⟩:=h
 unfold code_is_right_first
 walk_at "WP"
 refine fr_eqW (q:=(0,1)) ?_
 by_cases h1:p.e=(0,1)
 ·rw [if_neg (by rw [decide_eq_true h1];decide)]
  refine fr_eqW ?_
  have:p.l=p.h:=val_inj ok.l ok.h (hz (by show 0=val p.e;rw [h1,val_nought]))
  rw [decide_eq_true this]
  exact .inl k
 ·rw [if_pos (decide_eq_false h1)]
  exact .inl k
theorem w_is_right_behind {as st Q} (h:sp_is_right_behind as st Q):wpSs Γ code_is_right_behind (frame 2 as) st (bodyEnds st Q):=by
 obtain ⟨a,p,rfl,ha,hp,h1,h2,k⟩:=h
 unfold code_is_right_behind
 walk_at "WP"
 refine ⟨a.e,p.e,rfl,ha.e.mono (by decide),hp.e.mono (by decide),_,rfl,?_⟩
 rw [blt_yes ha.e hp.e h1,if_pos rfl]
 refine ⟨p.l,a.h,rfl,hp.l.mono (by decide),ha.h.mono (by decide),_,rfl,?_⟩
 rw [blt_no hp.l ha.h h2]
 exact .inl k
theorem bools_rep:∀ {n:Nat},bools (List.replicate n (PV.bl true))=some (List.replicate n true)
 | 0=>rfl
 | n+1=>by simp only [List.replicate_succ,bools,bools_rep (n:=n),Option.map_some]
theorem zip_next_pc {L:List Pc} {i:Nat} {v:PV} (h:(zipL (L.map pcV) ((L.drop 1).map pcV))[i]?=some v):∃a p,L[i]?=some a∧L[i+1]?=some p∧v=.tup [pcV a,pcV p]:=by
 obtain ⟨x,y,e1,e2,rfl⟩:=zipL_get h
 rw [List.getElem?_map] at e1 e2
 obtain ⟨a,ha,rfl⟩:=Option.map_eq_some_iff.mp e1
 obtain ⟨p,hp,rfl⟩:=Option.map_eq_some_iff.mp e2
 rw [List.getElem?_drop] at hp
 exact ⟨a,p,ha,by rw [Nat.add_comm];exact hp,rfl⟩
theorem w_is_row {as st Q} (h:sp_is_row as st Q):wpSs Γ code_is_row (frame 1 as) st (bodyEnds st Q):=by
 obtain ⟨L,rfl,hR,hz,hl,k⟩:=h
 unfold code_is_row
 walk_at "WP"
 rw [if_neg (by decide)]
 refine ⟨by simp;omega,?_⟩
 refine FW.comp_map Γm (fun _=>.bl true) trivial (fun x hx=>?_) ?_
 ·obtain ⟨p,hp,rfl⟩:=List.mem_map.mp hx
  obtain ⟨i,hi⟩:=List.getElem?_of_mem hp
  walk_at "WP"
  exact ⟨p,rfl,(hR.at_ hi).1,rfl,rfl⟩
 refine ⟨_,listAt_ref get_last,_,bools_map (f:=fun _=>true),.app rfl ?_⟩
 rw [all_true]
 walk_at "WP"
 refine ⟨by simp;omega,?_⟩
 refine FW.comp_map Γm (fun _=>.bl true) trivial (fun x hx=>?_) ?_
 ·obtain ⟨p,hp,rfl⟩:=List.mem_map.mp hx
  obtain ⟨i,hi⟩:=List.getElem?_of_mem hp
  obtain ⟨a1,a2,a3⟩:=hR.at_ hi
  walk_at "WP"
  exact ⟨p,rfl,hz p hp,a2,a3,rfl,rfl⟩
 refine ⟨_,listAt_ref get_last,_,bools_map (f:=fun _=>true),.app rfl ?_⟩
 rw [all_true]
 walk_at "WP"
 refine eqW_dat (n:=4) (by decide) row_dat rfl ?_
 rw [same_nil]
 have fin:(zipL (List.map pcV L) (cutP (List.map pcV L) (some 1) none)).length<100000 ∧
   COMPW Γ (E.call 12 (Es.cons (E.var 0) (Es.cons (E.var 1) Es.nil))) (Tg.tup (Tgs.cons (Tg.name 0) (Tgs.cons (Tg.name 1) Tgs.nil))) Es.nil
    (fun st'=>seqChk st (rowV L) st'∧seqChk st (PV.tup (cutP (List.map pcV L) (some 1) none)) st') [none,none]
    (zipL (List.map pcV L) (cutP (List.map pcV L) (some 1) none)) st fun vs st2 =>
    ∃xs,listAt (st2++[Cell.lst vs]) (PV.ref (List.length st2))=some xs ∧
      ∃x,bools xs=some x∧Tmp st (fun v st1=>Ret st Q v st1) (PV.bl (x.all id)) (st2++[Cell.lst vs]):=by
  rw [cut1,←List.map_drop]
  refine ⟨by rw [zipL_len];simp;omega,?_⟩
  refine comp_by Γm (fun j acc s=>s=st∧acc=List.replicate j (PV.bl true)) ⟨rfl,rfl⟩ ?_ ?_
  ·rintro i v acc s hi ⟨rfl,rfl⟩
   refine ⟨⟨trivial,trivial⟩,?_⟩
   obtain ⟨a,p,ha,hp,rfl⟩:=zip_next_pc hi
   obtain ⟨t1,t2⟩:=hR.two ha hp
   walk_at "WP"
   exact ⟨a,p,rfl,hz a (List.mem_of_getElem? ha),hz p (List.mem_of_getElem? hp),t1,t2,rfl,by rw [←List.replicate_succ',List.replicate_succ]⟩
  ·rintro acc s ⟨rfl,rfl⟩
   refine ⟨⟨trivial,trivial⟩,_,listAt_ref get_last,_,bools_rep,.app rfl ?_⟩
   rw [show (List.replicate _ true).all id=true by simp]
   exact .inl k
 cases L with
 | nil=>rw [if_neg (by simp)];exact fin
 | cons p r =>
  rw [if_pos (by simp)]
  refine ⟨pcV p,atI_0,p,rfl,hR.1,hR.2.2.2.1,?_⟩
  walk_at "WP"
  exact fin
theorem w_is_stair {as st Q} (h:sp_is_stair as st Q):wpSs Γ code_is_stair (frame 1 as) st (bodyEnds st Q):=by
 obtain ⟨L,rfl,hR,ng,hz,hl,k⟩:=h
 unfold code_is_stair
 walk_at "WP"
 refine ⟨L,rfl,hR,hz,hl,_,rfl,?_⟩
 rw [if_pos rfl]
 refine ⟨L,rfl,hz,hR.lok,by omega,?_⟩
 rw [leanF_id ng]
 refine eqW_dat (n:=4) (by decide) row_dat row_dat ?_
 rw [PVsame_refl]
 exact .inl k
noncomputable def OnI (st:AH) (L:List Pc) (t:Nat × Nat) (i:Nat) (ρ:Fr) (s:AH):Prop:=s=st∧(i=0∨val (bg L i)<val t)∧∃a b c d e f g:Option PV,ρ=[some (rowV L),some (fr t),some (fr (bg L i)),a,b,c,d,e,f,g]
theorem nat_sub {a b c d:Nat} (h:c*d≤a*b):(a:Int)*b-c*d=((a*b-c*d:Nat):Int):=by rw [Int.natCast_sub h,Int.natCast_mul,Int.natCast_mul]
theorem sub_val {x y:Nat × Nat} (hx:0<x.2) (hy:0<y.2) (h:y.1*x.2≤x.1*y.2):((x.1*y.2-y.1*x.2:Nat):Rat)=(val x-val y)*(x.2*y.2):=by
 have:=congrArg (fun k:Nat=>(k:Rat)) (Nat.sub_add_cancel h)
 simp only [Rat.natCast_add,Rat.natCast_mul] at this
 rw [val_fst hx,val_fst hy] at this
 grind
theorem on_val {N Y F G X c:Rat} (hc:c≠0) (h:N<F):(c*(Y*(F-X)+G*(X-N)))/(c*(F-N))=Y+(G-Y)*((X-N)/(F-N)):=str_val hc h
theorem w__law_on {as st Q} (h:sp__law_on as st Q):wpSs Γ code__law_on (frame 10 as) st (bodyEnds st Q):=by
 obtain ⟨j,m,L,t,rfl,⟨j1,j2⟩,hR,hz,tz,hl,k⟩:=h
 unfold code__law_on
 walk_at "WP"
 refine for_by Γm (OnI st L t) ⟨rfl,.inl rfl,_,_,_,_,_,_,_,rfl⟩ ?_ ?_
 ·rintro i v ρ s hi ⟨rfl,hb,a,b,c,d,e,f,g,rfl⟩
  refine ⟨trivial,?_⟩
  rw [List.getElem?_map] at hi
  obtain ⟨p,hp,rfl⟩:=Option.map_eq_some_iff.mp hi
  have il:=(List.getElem?_eq_some_iff.mp hp).1
  have pz:=hz p (List.mem_of_getElem? hp)
  obtain ⟨pok,p1,p2⟩:=hR.at_ hp
  obtain ⟨n1,n2,n3,n4⟩:=nb hR hp
  have bz:Sz j (bg L i):=bgZ hz (by omega) j1
  have up:∀ {a i:Nat},a<2 ^ i→i≤3000→a<2 ^ 3000:=fun h hj=>Nat.lt_of_lt_of_le h (pow_le hj)
  have bt:val (bg L i)≤val t:=by
   rcases hb with rfl|hb
   ·show val (0,1)≤_;rw [val_nought];exact val_nn tz.pos
   ·exact Rat.le_of_lt hb
  walk_at "WP"
  refine ⟨cmbN (up tz.a (by omega)) (up pz.e.b (by omega)),cmbN (up pz.e.a (by omega)) (up tz.b (by omega)),?_⟩
  by_cases q:val t≤p.E
  ·have le1:t.1*p.e.2≤p.e.1*t.2:=(val_le tz.pos pz.e.pos).mpr q
   have le2:(bg L i).1*t.2≤t.1*(bg L i).2:=(val_le bz.pos tz.pos).mpr bt
   have le3:(bg L i).1*p.e.2≤p.e.1*(bg L i).2:=(val_le bz.pos pz.e.pos).mpr n2
   have hc:=cm_at hR hp hb q
   rw [if_pos (by rw [←Int.natCast_mul,←Int.natCast_mul];exact Int.ofNat_le.mpr le1)]
   refine ⟨cmbN (up pz.e.a (by omega)) (up bz.b (by omega)),cmbN (up bz.a (by omega)) (up pz.e.b (by omega)),?_⟩
   rw [nat_sub le1,nat_sub le2,nat_sub le3]
   have vl:=sub_val pz.e.pos tz.pos le1
   have vd:=sub_val tz.pos bz.pos le2
   have vw:=sub_val pz.e.pos bz.pos le3
   have sl:p.e.1*t.2-t.1*p.e.2<2 ^ (j+m):=Nat.lt_of_le_of_lt (Nat.sub_le _ _) (mul_lt pz.e.a tz.b)
   have sd:t.1*(bg L i).2-(bg L i).1*t.2<2 ^ (m+j):=Nat.lt_of_le_of_lt (Nat.sub_le _ _) (mul_lt tz.a bz.b)
   have sw:p.e.1*(bg L i).2-(bg L i).1*p.e.2<2 ^ (j+j):=Nat.lt_of_le_of_lt (Nat.sub_le _ _) (mul_lt pz.e.a bz.b)
   generalize p.e.1*t.2-t.1*p.e.2=LL at *
   generalize t.1*(bg L i).2-(bg L i).1*t.2=DD at *
   generalize p.e.1*(bg L i).2-(bg L i).1*p.e.2=WW at *
   have pe:=ratpos pz.e.pos
   have pt:=ratpos tz.pos
   have pb:=ratpos bz.pos
   have pl:=ratpos pz.l.pos
   have ph:=ratpos pz.h.pos
   by_cases z:val (bg L i)=p.E
   ·have w0:WW=0:=by
     have:(WW:Rat)=0:=by rw [vw,z];grind
     exact_mod_cast this
    rw [if_pos (by rw [w0];rfl)]
    refine .inl (k (some p.l) (fun y hy=>by cases hy;exact pz.l.mono (by omega)) ?_)
    rw [hc,if_pos z]
    rfl
   ·have lt:val (bg L i)<p.E:=by grind
    have w0:WW≠0:=fun y=>by
     have e:(WW:Rat)=0:=by rw [y];rfl
     rw [vw] at e
     have:=Rat.mul_pos (a:=p.E-val (bg L i)) (b:=(p.e.2:Rat)*(bg L i).2) (by grind) (Rat.mul_pos pe pb)
     grind
    rw [if_neg (by omega)]
    simp only [←Int.natCast_mul,←Int.natCast_add]
    have a1:=mul_lt pz.l.a pz.h.b
    have a2:=mul_lt a1 sl
    have a3:=mul_lt a2 bz.b
    have b1:=mul_lt pz.h.a pz.l.b
    have b2:=mul_lt b1 sd
    have b3:=mul_lt b2 pz.e.b
    have c1:=mul_lt pz.l.b pz.h.b
    have c2:=mul_lt c1 tz.b
    have c3:=mul_lt c2 sw
    refine ⟨cmbN (up pz.e.a (by omega)) (up tz.b (by omega)),cmbN (up tz.a (by omega)) (up pz.e.b (by omega)),cmbN (up tz.a (by omega)) (up bz.b (by omega)),cmbN (up bz.a (by omega)) (up tz.b (by omega)),cmbN (up pz.l.a (by omega)) (up pz.h.b (by omega)),cmbN (up a1 (by omega)) (up sl (by omega)),cmbN (up a2 (by omega)) (up bz.b (by omega)),cmbN (up pz.h.a (by omega)) (up pz.l.b (by omega)),cmbN (up b1 (by omega)) (up sd (by omega)),cmbN (up b2 (by omega)) (up pz.e.b (by omega)),cmbN (up pz.l.b (by omega)) (up pz.h.b (by omega)),cmbN (up c1 (by omega)) (up tz.b (by omega)),cmbN (up c2 (by omega)) (up sw (by omega)),.inl ?_⟩
    have pos:=Nat.mul_pos (Nat.mul_pos (Nat.mul_pos pz.l.pos pz.h.pos) tz.pos) (Nat.pos_of_ne_zero w0)
    refine k (some (p.l.1*p.h.2*LL*(bg L i).2+p.h.1*p.l.2*DD*p.e.2,p.l.2*p.h.2*t.2*WW)) (fun y hy=>?_) ?_
    ·cases hy
     refine ⟨?_,Nat.lt_of_lt_of_le c3 (pow_le (by omega)),pos⟩
     have h1:(2:Nat) ^ (m+4*j+2)=2 ^ (m+4*j+1)+2 ^ (m+4*j+1):=by rw [Nat.pow_succ];omega
     have h2:=Nat.lt_of_lt_of_le a3 (pow_le (show j+j+(j+m)+j≤m+4*j+1 by omega))
     have h3:=Nat.lt_of_lt_of_le b3 (pow_le (show j+j+(m+j)+j≤m+4*j+1 by omega))
     show _<2 ^ (m+4*j+2)
     omega
    ·rw [hc,if_neg z]
     show some _=some (((p.l.1*p.h.2*LL*(bg L i).2+p.h.1*p.l.2*DD*p.e.2:Nat):Rat)/((p.l.2*p.h.2*t.2*WW:Nat):Rat))
     congr 1
     simp only [Rat.natCast_add,Rat.natCast_mul]
     rw [vl,vd,vw,val_fst pz.l.pos,val_fst pz.h.pos]
     have cn:(p.l.2:Rat)*p.h.2*p.e.2*t.2*(bg L i).2≠0:=by
      have:=Rat.mul_pos (Rat.mul_pos (Rat.mul_pos (Rat.mul_pos pl ph) pe) pt) pb
      grind
     rw [←on_val (Y:=p.L) (G:=p.H) (X:=val t) cn lt]
     congr 1 <;> grind
  ·have le1:¬t.1*p.e.2≤p.e.1*t.2:=fun z=>q ((val_le tz.pos pz.e.pos).mp z)
   rw [if_neg (by rw [←Int.natCast_mul,←Int.natCast_mul];exact fun z=>le1 (Int.ofNat_le.mp z))]
   refine ⟨rfl,.inr (by rw [bgS hp];grind),_,_,_,_,_,_,_,by rw [bgS hp]⟩
 ·rintro ρ s ⟨rfl,hb,a,b,c,d,e,f,g,rfl⟩
  refine ⟨trivial,?_⟩
  walk_at "WP"
  refine .inl (k none (fun z hz=>nomatch hz) ?_)
  rw [List.length_map] at hb
  rw [cm_drop hR (Nat.le_refl _) hb,List.drop_length]
  rfl
theorem w__law_alike {as st Q} (h:sp__law_alike as st Q):wpSs Γ code__law_alike (frame 2 as) st (bodyEnds st Q):=by
 obtain ⟨o,o',rfl,h1,h2,h3,k⟩:=h
 unfold code__law_alike
 walk_at "WP"
 cases o with
 | none =>
  cases o' with
  | none=>walk_at "WPO";exact .inl k
  | some y=>cases h3
 | some x =>
  cases o' with
  | none=>cases h3
  | some y =>
   have xz:=h1 x rfl
   have yz:=h2 y rfl
   have e:val x=val y:=Option.some.inj h3
   have up:∀ {a:Nat},a<2 ^ 2900→a<2 ^ 3000:=fun h=>Nat.lt_of_lt_of_le h (pow_le (by decide))
   have e2:x.1*y.2=y.1*x.2:=Nat.le_antisymm ((val_le xz.pos yz.pos).mpr (by rw [e];exact Rat.le_refl)) ((val_le yz.pos xz.pos).mpr (by rw [e];exact Rat.le_refl))
   walk_at "WPO"
   refine ⟨cmbN (up xz.a) (up yz.b),cmbN (up yz.a) (up xz.b),?_⟩
   rw [←Int.natCast_mul,←Int.natCast_mul,e2,decide_eq_true rfl]
   exact .inl k
noncomputable def MdI (st:AH) (L:List Pc) (j:Nat) (i:Nat) (ρ:Fr) (s:AH):Prop:=∃(T:List (Nat × Nat)) (g:AH) (a b c:Option PV),s=st++.lst (T.map fr)::g∧(∀t∈T,Sz (2*j+3) t)∧T.length≤1+2*i∧ρ=[some (rowV L),some (.ref st.length),some (fr (bg L i)),a,b,c]
theorem w__law_middles {as st Q} (h:sp__law_middles as st Q):wpSs Γ code__law_middles (frame 6 as) st (bodyEnds st Q):=by
 obtain ⟨j,L,rfl,⟨j1,j2⟩,hR,hz,hl,k⟩:=h
 have z01:Sz (2*j+3) (0,1):=⟨Nat.pow_pos (by decide),Nat.one_lt_two_pow (by omega),by decide⟩
 unfold code__law_middles
 walk_at "WP"
 refine for_by Γm (MdI st L j) ⟨[(0,1)],[],none,none,none,rfl,fun t ht=>by rw [List.mem_singleton] at ht;rw [ht];exact z01,Nat.le_refl _,rfl⟩ ?_ ?_
 ·rintro i v ρ s hi ⟨T,g,a,b,c,rfl,hT,lT,rfl⟩
  refine ⟨trivial,?_⟩
  rw [List.getElem?_map] at hi
  obtain ⟨p,hp,rfl⟩:=Option.map_eq_some_iff.mp hi
  have il:=(List.getElem?_eq_some_iff.mp hp).1
  have pz:=hz p (List.mem_of_getElem? hp)
  have bz:Sz j (bg L i):=bgZ hz (by omega) j1
  have up:∀ {a i:Nat},a<2 ^ i→i≤3000→a<2 ^ 3000:=fun h hj=>Nat.lt_of_lt_of_le h (pow_le hj)
  have m1:=mul_lt bz.a pz.e.b
  have m2:=mul_lt pz.e.a bz.b
  have m3:=mul_lt (show 2<2 ^ 2 by decide) bz.b
  have m4:=mul_lt m3 pz.e.b
  have e:PV.tup [PV.int (((bg L i).1:Int)*p.e.2+p.e.1*(bg L i).2),PV.int (2*((bg L i).2:Int)*p.e.2)]=fr ((bg L i).1*p.e.2+p.e.1*(bg L i).2,2*(bg L i).2*p.e.2):=by
   show _=PV.tup [PV.int (((bg L i).1*p.e.2+p.e.1*(bg L i).2:Nat):Int),PV.int ((2*(bg L i).2*p.e.2:Nat):Int)]
   rw [Int.natCast_add,Int.natCast_mul,Int.natCast_mul,Int.natCast_mul,Int.natCast_mul]
   rfl
  have ez:Sz (2*j+3) ((bg L i).1*p.e.2+p.e.1*(bg L i).2,2*(bg L i).2*p.e.2):=by
   have h1:(2:Nat) ^ (2*j+3)=2 ^ (2*j+2)+2 ^ (2*j+2):=by rw [Nat.pow_succ];omega
   have h2:=Nat.lt_of_lt_of_le m1 (pow_le (show j+j≤2*j+2 by omega))
   have h3:=Nat.lt_of_lt_of_le m2 (pow_le (show j+j≤2*j+2 by omega))
   refine ⟨?_,Nat.lt_of_lt_of_le m4 (pow_le (by omega)),Nat.mul_pos (Nat.mul_pos (by decide) bz.pos) pz.e.pos⟩
   show _<2 ^ (2*j+3)
   omega
  walk_at "WP"
  refine ⟨⟨_,listAt_ref get_mid⟩,cmbN (up bz.a (by omega)) (up pz.e.b (by omega)),cmbN (up pz.e.a (by omega)) (up bz.b (by omega)),cmb_l (by decide) (by decide),?_,by simp;omega,?_⟩
  ·rw [show (2:Int)*((bg L i).2:Int)=((2*(bg L i).2:Nat):Int) by rw [Int.natCast_mul];rfl]
   exact cmbN (up m3 (by omega)) (up pz.e.b (by omega))
  rw [e]
  refine ⟨T++[((bg L i).1*p.e.2+p.e.1*(bg L i).2,2*(bg L i).2*p.e.2),p.e],_,_,_,_,by rw [set_mid];simp;rfl,fun t ht=>?_,by simp;omega,by rw [bgS hp]⟩
  rcases List.mem_append.mp ht with ht|ht
  ·exact hT t ht
  ·simp only [List.mem_cons,List.not_mem_nil,or_false] at ht
   rcases ht with rfl|rfl
   ·exact ez
   ·exact pz.e.mono (by omega)
 ·rintro ρ s ⟨T,g,a,b,c,rfl,hT,lT,rfl⟩
  refine ⟨trivial,?_⟩
  rw [List.length_map] at lT ⊢
  have bz:Sz j (bg L L.length):=bgZ hz (Nat.le_refl _) j1
  walk_at "WP"
  rw [←Int.natCast_add]
  refine ⟨by simp;omega,.inl (k (T++[((bg L L.length).1+(bg L L.length).2,(bg L L.length).2)]) _ _ ?_ (fun t ht=>?_) (by simp;omega))⟩
  ·rw [get_app];simp
  ·rcases List.mem_append.mp ht with ht|ht
   ·exact hT t ht
   ·rw [List.mem_singleton] at ht
    rw [ht]
    refine ⟨?_,Nat.lt_of_lt_of_le bz.b (pow_le (by omega)),bz.pos⟩
    have h1:(2:Nat) ^ (j+1)=2 ^ j+2 ^ j:=by rw [Nat.pow_succ];omega
    have h2:(2:Nat) ^ (j+1)≤2 ^ (2*j+3):=pow_le (by omega)
    have:=bz.a
    have:=bz.b
    show _<2 ^ (2*j+3)
    omega
theorem opt_eq {j j':Nat} {o o':Option (Nat × Nat)} (h1:∀p,o=some p→Cop p∧Sz j p) (h2:∀p,o'=some p→Cop p∧Sz j' p) (h:o.map val=o'.map val):o=o':=by
 cases o with
 | none=>cases o' with|none=>rfl|some b=>cases h
 | some a =>
  cases o' with
  | none=>cases h
  | some b=>rw [val_inj (h1 a rfl).1 (h2 b rfl).1 (Option.some.inj h)]
theorem opt_dat {o:Option (Nat × Nat)}:PVdat 3 (optV o)=true:=by cases o <;> rfl
theorem w__law_due {as st Q} (h:sp__law_due as st Q):wpSs Γ code__law_due (frame 4 as) st (bodyEnds st Q):=by
 obtain ⟨m,A,B,t,rfl,hm,hA,hB,tz,k⟩:=h
 have la:=hA.ln
 have lb:=hB.ln
 unfold code__law_due
 walk_at "WP"
 refine ⟨40,m,A,t,rfl,⟨by decide,by omega⟩,hA.rt,hA.sz,tz,by omega,fun o ho hc=>?_⟩
 cases o with
 | none =>
  walk_at "WPO"
  exact .inl (k none (fun z hz=>nomatch hz) (cmp2_no hc))
 | some x =>
  have xz:=ho x rfl
  walk_at "WPO"
  refine ⟨40,_,B,x,rfl,⟨by decide,by omega⟩,hB.rt,hB.sz,xz,by omega,fun o2 ho2 hc2=>.inl (k o2 (fun z hz=>(ho2 z hz).mono (by omega)) ?_)⟩
  rw [cmp2_mk hc]
  exact hc2
theorem lb_nn {L:List Pc} {y l:Rat} (h:RtF L) (e:lb y 0 none L=some l):0≤l:=by
 cases L with
 | nil=>cases e
 | cons p r =>
  have p0:0≤p.E:=val_nn h.1.e.pos
  rw [lb] at e
  rcases lb_or (y:=y) (acc:=if p.H≤y then some p.E else if p.L≤y then some (0+(y-p.L)/(p.H-p.L)*(p.E-0)) else none) h.2.2.2.2 with z|⟨l',z,z1,z2⟩
  ·rw [z] at e
   by_cases h1:p.H≤y
   ·rw [if_pos h1] at e;cases e;exact p0
   ·rw [if_neg h1] at e
    by_cases h2:p.L≤y
    ·rw [if_pos h2] at e
     cases e
     obtain ⟨q,q1,q2,q3,q4⟩:=frac01 (a:=y-p.L) (w:=p.H-p.L) (by grind) (by grind) (by grind)
     rw [q1]
     have:=Rat.mul_nonneg q3 p0
     grind
    ·rw [if_neg h2] at e;cases e
  ·rw [z] at e;cases e;grind
theorem last_latest {A B M:List Pc} {y:Pc} {Y:List Pc} (hA:RtF A) (hB:RtF B) (hM:RtF M) (eB:B=Y++[y]) (hc:∀t,0≤t→cm 0 M t=cmp2 A B t):lb y.E 0 none A=M.getLast?.map Pc.E:=by
 have dom:∀t,0≤t→((∃z,cm 0 M t=some z)↔∃l,lb y.E 0 none A=some l∧t≤l):=fun t t0=>by
  rw [←ansF hA t0,hc t t0]
  constructor
  ·rintro ⟨z,e⟩
   obtain ⟨x,e1,e2⟩:=cmp2_inv e
   refine ⟨x,e1,Classical.byContradiction fun w=>?_⟩
   subst eB
   rw [cm_behind hB (by grind)] at e2
   cases e2
  ·rintro ⟨x,e1,e2⟩
   subst eB
   obtain ⟨z,hz⟩:=cm_dom e2 (cm_top hB)
   exact ⟨z,by rw [cmp2_mk e1];exact hz⟩
 rcases snoc_or M with rfl|⟨Z,q,rfl⟩
 ·cases e:lb y.E 0 none A with
  | none=>rfl
  | some l =>
   obtain ⟨z,hz⟩:=(dom l (lb_nn hA e)).mpr ⟨l,e,Rat.le_refl⟩
   cases hz
 ·rw [List.getLast?_concat]
  have hq:(Z++[q])[Z.length]?=some q:=by simp
  have q0:0≤q.E:=val_nn (hM.at_ hq).1.e.pos
  obtain ⟨l,e,h1⟩:=(dom q.E q0).mp ⟨_,cm_top hM⟩
  rw [e]
  have h2:l≤q.E:=Classical.byContradiction fun w=>by
   obtain ⟨z,hz⟩:=(dom l (lb_nn hA e)).mpr ⟨l,e,Rat.le_refl⟩
   rw [cm_behind hM (by grind)] at hz
   cases hz
  have:l=q.E:=by grind
  rw [this]
  rfl
theorem w__law_right {as st Q} (h:sp__law_right as st Q):wpSs Γ code__law_right (frame 4 as) st (bodyEnds st Q):=by
 obtain ⟨A,B,rfl,hA,hB,k⟩:=h
 have la:=hA.ln
 have lb:=hB.ln
 have m1:(A.length+1)*(B.length+1)≤21*21:=Nat.mul_le_mul (by omega) (by omega)
 unfold code__law_right
 walk_at "WP"
 refine ⟨40,A,B,rfl,by decide,hA.rt,hA.sz,hB.rt,hB.sz,by omega,fun M r1 r2 r3 r4 r5=>?_⟩
 refine ⟨M,rfl,r1,r2,r3.mono (by decide),by omega,?_⟩
 walk_at "WP"
 refine ⟨40,[],B,rfl,by decide,trivial,fun q hq=>(nomatch hq),hB.rt,hB.sz,by simp;omega,fun R1 a1 a2 a3 a4 a5=>?_⟩
 have e:R1=[]:=nil_of (fun t t0=>by rw [a5 t t0];rfl) a1
 subst e
 refine eqW_dat (n:=4) (by decide) rfl rfl ?_
 rw [same_nil,if_neg (by decide)]
 refine ⟨40,A,[],rfl,by decide,hA.rt,hA.sz,trivial,fun q hq=>(nomatch hq),by simp;omega,fun R1 a1 a2 a3 a4 a5=>?_⟩
 have e:R1=[]:=nil_of (fun t t0=>by
  rw [a5 t t0]
  unfold cmp2
  cases cm 0 A t <;> rfl) a1
 subst e
 refine eqW_dat (n:=4) (by decide) rfl rfl ?_
 rw [same_nil,if_neg (by decide)]
 refine ⟨202,M,rfl,by decide,r1,r3,by omega,fun T1 g1 n1 h1 z1 l1=>?_⟩
 refine ⟨40,A,rfl,by decide,hA.rt,hA.sz,by omega,fun T2 g2 n2 h2 z2 l2=>?_⟩
 refine addL (get_old h1) h2 (by simp;omega) ?_
 refine ⟨40,B,rfl,by decide,hB.rt,hB.sz,by omega,fun T3 g3 n3 h3 z3 l3=>?_⟩
 refine addL (get_old get_last) h3 (by simp;omega) ?_
 rw [←List.map_append,←List.map_append]
 have hg:(st++g1++g2++[Cell.lst ((T1++T2).map fr)]++g3++[Cell.lst ((T1++T2++T3).map fr)])[List.length (st++g1++g2++[Cell.lst ((T1++T2).map fr)]++g3)]?=_:=get_last
 obtain ⟨G,hG⟩:∃G,st++g1++g2++[Cell.lst ((T1++T2).map fr)]++g3++[Cell.lst ((T1++T2++T3).map fr)]=st++G:=⟨g1++(g2++([Cell.lst ((T1++T2).map fr)]++(g3++[Cell.lst ((T1++T2++T3).map fr)]))),by simp only [List.append_assoc]⟩
 rw [hG] at hg ⊢
 generalize List.length (st++g1++g2++[Cell.lst ((T1++T2).map fr)]++g3)=nn at hg
 have hT:∀t∈T1++T2++T3,Sz 407 t:=fun t ht=>by
  rcases List.mem_append.mp ht with ht|ht
  ·rcases List.mem_append.mp ht with ht|ht
   ·exact z1 t ht
   ·exact (z2 t ht).mono (by decide)
  ·exact (z3 t ht).mono (by decide)
 generalize T1++T2++T3=T at hg hT
 refine ⟨_,seqAt_ref hg,?_⟩
 refine for_by Γm (fun _ ρ s=>s=st++G∧∃x,ρ=[some (rowV A),some (rowV B),some (rowV M),x]) ⟨rfl,_,rfl⟩ ?_ ?_
 ·rintro i v ρ s hi ⟨rfl,x,rfl⟩
  refine ⟨rfl,?_⟩
  rw [List.getElem?_map] at hi
  obtain ⟨t,ht,rfl⟩:=Option.map_eq_some_iff.mp hi
  have tz:=hT t (List.mem_of_getElem? ht)
  walk_at "WP"
  refine ⟨202,407,M,t,rfl,by decide,r1,r3,tz,by omega,fun o ho hc=>?_⟩
  refine ⟨407,A,B,t,rfl,by decide,hA,hB,tz,fun o2 ho2 hc2=>?_⟩
  refine ⟨o,o2,rfl,fun p hp=>(ho p hp).mono (by decide),fun p hp=>(ho2 p hp).mono (by decide),by rw [←hc,←hc2,r5 _ (val_nn tz.pos)],?_⟩
  walk_at "WP"
 ·rintro ρ s ⟨rfl,x,rfl⟩
  refine ⟨rfl,?_⟩
  walk_at "WP"
  refine eqW_dat (n:=4) (by decide) row_dat rfl ?_
  rw [same_nil]
  rcases snoc_or B with eB|⟨Y,y,eB⟩
  ·rw [if_pos (by rw [eB];rfl)]
   have e:M=[]:=nil_of (fun t t0=>by
    rw [r5 t t0,eB]
    unfold cmp2
    cases cm 0 A t <;> rfl) r1
   subst e
   refine eqW_dat (n:=4) (by decide) rfl rfl ?_
   rw [same_nil]
   exact .inr (.app rfl k)
  ·rw [if_neg (by rw [eB];simp)]
   refine ⟨M,rfl,?_⟩
   refine ⟨B,rfl,?_⟩
   have hy:B[Y.length]?=some y:=by rw [eB];simp
   have yok:=(hB.rt.at_ hy).1
   have yz:=hB.sz y (List.mem_of_getElem? hy)
   have el:B.getLast?.map Pc.e=some y.e:=by rw [eB,List.getLast?_concat];rfl
   rw [el]
   refine ⟨40,40,A,y.e,rfl,by decide,hA.rt,hA.sz,yok.e,yz.e,by omega,fun o ho hb=>?_⟩
   have e1:=last_latest hA.rt hB.rt r1 eB r5
   have e2:M.getLast?.map Pc.e=o:=by
    refine opt_eq (j:=202) (j':=202) (fun p hp=>?_) ho ?_
    ·obtain ⟨q,hq,rfl⟩:=Option.map_eq_some_iff.mp hp
     have hm:=List.mem_of_getLast? hq
     obtain ⟨i,hi⟩:=List.getElem?_of_mem hm
     exact ⟨(r1.at_ hi).1.e,(r3 q hm).e⟩
    ·rw [←hb,e1,Option.map_map]
     rfl
   rw [e2]
   refine eqW_dat (n:=3) (by decide) opt_dat opt_dat ?_
   rw [PVsame_refl]
   exact .inr (.app rfl k)
theorem w_law {as st Q} (h:spLaw as st Q):wpSs Γ code_law (frame 8 as) st (bodyEnds st Q):=by
 obtain ⟨ns,rfl,hl,k⟩:=h
 unfold code_law
 walk_at "WP"
 rw [List.length_map]
 obtain ⟨N,hN,hN6⟩:∃N:Nat,(if 1<if 2<(ns.length:Int) then 2 else (ns.length:Int) then if 2<(ns.length:Int) then 2 else (ns.length:Int) else 1)=(N:Int)∧N≤2:=by
  refine ⟨(if 1<if 2<(ns.length:Int) then 2 else (ns.length:Int) then if 2<(ns.length:Int) then 2 else (ns.length:Int) else 1).toNat,?_,?_⟩ <;> (repeat' split) <;> omega
 rw [hN]
 refine ⟨by omega,by omega,?_⟩
 refine for_by Γm (fun i ρ s=>∃a b c d e f g,ρ=[some (.rdl (ns.map PV.int)),a,b,c,d,e,f,g]) ⟨_,_,_,_,_,_,_,rfl⟩ ?_ ?_
 ·rintro i v ρ s hi ⟨a,b,c,d,e,f,g,rfl⟩
  obtain ⟨rfl,hi⟩:=range_item hi
  refine ⟨trivial,?_⟩
  walk_at "WP"
  refine ⟨ns,i,rfl,by omega,fun q r pk=>?_⟩
  have P0:Pot (s++[pc q r]) s.length:=⟨q,r,get_last,pk⟩
  generalize s++[pc q r]=s0 at P0
  generalize s.length=p at P0
  have pl:=P0.lt
  refine ⟨p,_,[],0,rfl,P0.app,by omega,get_last,fun h hh=>(nomatch hh),by decide,by decide,fun U1 n1 s1 g1 m1 u1 R1 l1 b1=>?_⟩
  refine ⟨n1,U1,rfl,u1,l1,fun m hs g hm hml hsb hsl=>?_⟩
  have n1p:n1≠p:=by rw [List.length_append] at m1;omega
  have mp:m≠p:=by have:=g1.pot.lt;omega
  refine ⟨p,m,hs,_,rfl,g1.pot.app,mp,hm,hsb _ b1,by omega,by decide,fun U2 n2 s2 g2 m2 u2 R2 l2 b2=>?_⟩
  have n2p:n2≠p:=by rw [List.length_append] at m2;have:=g1.pot.lt;omega
  have u1a:=g2.get (get_old u1) n1p
  refine ⟨p,rfl,g2.pot,fun d s3 d0 d1 g3=>?_⟩
  have u1b:=g3.get u1a n1p
  have u2b:=g3.get u2 n2p
  have B1:BdU (2 ^ 37) U1:=b1.mono (by decide)
  have B2:BdU (2 ^ 37) U2:=b2.mono (by decide)
  refine ⟨n1,d,U1,rfl,u1b,R1,l1,B1,d0,d1,?_⟩
  have S1:=stz_of d0 d1 R1 B1 l1
  refine ⟨p,rfl,g3.pot,fun d' s4 e0 e1 g4=>?_⟩
  refine ⟨p,3,rfl,g4.pot.app,by decide,by decide,fun z s5 z0 z1 g5=>?_⟩
  obtain ⟨v,ev,w,rfl,w0,w1⟩:=pickL (L:=[PV.int d,PV.int d,PV.int d']) (P:=fun v=>∃w:Nat,v=.int w∧0<w∧w≤10 ^ 11) (fun v hv=>by
   simp only [List.mem_cons,List.not_mem_nil,or_false] at hv
   rcases hv with rfl|rfl|rfl
   ·exact ⟨d,rfl,d0,d1⟩
   ·exact ⟨d,rfl,d0,d1⟩
   ·exact ⟨d',rfl,e0,e1⟩) z0 z1
  walk_at "WP"
  refine ⟨_,seqAt_ref (g5.get get_last g4.ne),_,ev,?_⟩
  refine (g4.app.trans g5).tmp rfl fun s6 g6 _=>?_
  refine ⟨n2,w,U2,rfl,g6.get u2b n2p,R2,l2,B2,w0,w1,?_⟩
  have S2:=stz_of w0 w1 R2 B2 l2
  refine ⟨_,_,rfl,S1,S2,?_⟩
  walk_at "WP"
  refine ⟨_,_,rfl,S2,S1,?_⟩
  walk_at "WP"
  refine ⟨_,_,rfl,S1,S1,?_⟩
  walk_at "WP"
 ·rintro ρ s ⟨a,b,c,d,e,f,g,rfl⟩
  refine ⟨trivial,?_⟩
  walk_at "WP"
  exact .inl (k _)
section
variable {P:Program} {w:World} {K:PySem.W.Frag} {mg:Str→Option Value} {base:Heap}
theorem ok_is_whole (F:At K mg "is_whole" s_is_whole ["thing"]) (G:GOk P w K mg base c_is_whole Γ):Has P w K mg base 1 "is_whole" ["thing"] (absSp K (Γ 0)):=def_ok F sc_is_whole rfl rfl k_is_whole G (fun as st Q=>len_is_whole (st:=st)) (fun as st Q=>w_is_whole)
theorem ok_common_divisor (F:At K mg "common_divisor" s_common_divisor ["n","d"]) (G:GOk P w K mg base c_common_divisor Γ):Has P w K mg base 2 "common_divisor" ["n","d"] (absSp K (Γ 1)):=def_ok F sc_common_divisor rfl rfl k_common_divisor G (fun as st Q=>len_common_divisor (st:=st)) (fun as st Q=>w_common_divisor)
theorem ok_is_fraction (F:At K mg "is_fraction" s_is_fraction ["thing"]) (G:GOk P w K mg base c_is_fraction Γ):Has P w K mg base 3 "is_fraction" ["thing"] (absSp K (Γ 2)):=def_ok F sc_is_fraction rfl rfl k_is_fraction G (fun as st Q=>len_is_fraction (st:=st)) (fun as st Q=>w_is_fraction)
theorem ok_fraction (F:At K mg "fraction" s_fraction ["n","d"]) (G:GOk P w K mg base c_fraction Γ):Has P w K mg base 4 "fraction" ["n","d"] (absSp K (Γ 3)):=def_ok F sc_fraction rfl rfl k_fraction G (fun as st Q=>len_fraction (st:=st)) (fun as st Q=>w_fraction)
theorem ok_less (F:At K mg "less" s_less ["one","other"]) (G:GOk P w K mg base c_less Γ):Has P w K mg base 5 "less" ["one","other"] (absSp K (Γ 4)):=def_ok F sc_less rfl rfl k_less G (fun as st Q=>len_less (st:=st)) (fun as st Q=>w_less)
theorem ok_times (F:At K mg "times" s_times ["one","other"]) (G:GOk P w K mg base c_times Γ):Has P w K mg base 6 "times" ["one","other"] (absSp K (Γ 5)):=def_ok F sc_times rfl rfl k_times G (fun as st Q=>len_times (st:=st)) (fun as st Q=>w_times)
theorem ok_is_below (F:At K mg "is_below" s_is_below ["one","other"]) (G:GOk P w K mg base c_is_below Γ):Has P w K mg base 7 "is_below" ["one","other"] (absSp K (Γ 6)):=def_ok F sc_is_below rfl rfl k_is_below G (fun as st Q=>len_is_below (st:=st)) (fun as st Q=>w_is_below)
theorem ok_crosswise (F:At K mg "crosswise" s_crosswise ["one","other"]) (G:GOk P w K mg base c_crosswise Γ):Has P w K mg base 8 "crosswise" ["one","other"] (absSp K (Γ 7)):=def_ok F sc_crosswise rfl rfl k_crosswise G (fun as st Q=>len_crosswise (st:=st)) (fun as st Q=>w_crosswise)
theorem ok_on_straight (F:At K mg "on_straight" s_on_straight ["near","far","x"]) (G:GOk P w K mg base c_on_straight Γ):Has P w K mg base 9 "on_straight" ["near","far","x"] (absSp K (Γ 8)):=def_ok F sc_on_straight rfl rfl k_on_straight G (fun as st Q=>len_on_straight (st:=st)) (fun as st Q=>w_on_straight)
theorem ok_is_piece (F:At K mg "is_piece" s_is_piece ["thing"]) (G:GOk P w K mg base c_is_piece Γ):Has P w K mg base 10 "is_piece" ["thing"] (absSp K (Γ 9)):=def_ok F sc_is_piece rfl rfl k_is_piece G (fun as st Q=>len_is_piece (st:=st)) (fun as st Q=>w_is_piece)
theorem ok_is_right_alone (F:At K mg "is_right_alone" s_is_right_alone ["piece"]) (G:GOk P w K mg base c_is_right_alone Γ):Has P w K mg base 11 "is_right_alone" ["piece"] (absSp K (Γ 10)):=def_ok F sc_is_right_alone rfl rfl k_is_right_alone G (fun as st Q=>len_is_right_alone (st:=st)) (fun as st Q=>w_is_right_alone)
theorem ok_is_right_first (F:At K mg "is_right_first" s_is_right_first ["piece"]) (G:GOk P w K mg base c_is_right_first Γ):Has P w K mg base 12 "is_right_first" ["piece"] (absSp K (Γ 11)):=def_ok F sc_is_right_first rfl rfl k_is_right_first G (fun as st Q=>len_is_right_first (st:=st)) (fun as st Q=>w_is_right_first)
theorem ok_is_right_behind (F:At K mg "is_right_behind" s_is_right_behind ["ahead","piece"]) (G:GOk P w K mg base c_is_right_behind Γ):Has P w K mg base 13 "is_right_behind" ["ahead","piece"] (absSp K (Γ 12)):=def_ok F sc_is_right_behind rfl rfl k_is_right_behind G (fun as st Q=>len_is_right_behind (st:=st)) (fun as st Q=>w_is_right_behind)
theorem ok_is_row (F:At K mg "is_row" s_is_row ["thing"]) (G:GOk P w K mg base c_is_row Γ):Has P w K mg base 14 "is_row" ["thing"] (absSp K (Γ 13)):=def_ok F sc_is_row rfl rfl k_is_row G (fun as st Q=>len_is_row (st:=st)) (fun as st Q=>w_is_row)
theorem ok_goes_on (F:At K mg "goes_on" s_goes_on ["beginning","ahead","piece"]) (G:GOk P w K mg base c_goes_on Γ):Has P w K mg base 15 "goes_on" ["beginning","ahead","piece"] (absSp K (Γ 14)):=def_ok F sc_goes_on rfl rfl k_goes_on G (fun as st Q=>len_goes_on (st:=st)) (fun as st Q=>w_goes_on)
theorem ok_lean (F:At K mg "lean" s_lean ["row"]) (G:GOk P w K mg base c_lean Γ):Has P w K mg base 16 "lean" ["row"] (absSp K (Γ 15)):=def_ok F sc_lean rfl rfl k_lean G (fun as st Q=>len_lean (st:=st)) (fun as st Q=>w_lean)
theorem ok_is_stair (F:At K mg "is_stair" s_is_stair ["thing"]) (G:GOk P w K mg base c_is_stair Γ):Has P w K mg base 17 "is_stair" ["thing"] (absSp K (Γ 16)):=def_ok F sc_is_stair rfl rfl k_is_stair G (fun as st Q=>len_is_stair (st:=st)) (fun as st Q=>w_is_stair)
theorem ok_how_many (F:At K mg "how_many" s_how_many ["stair","holds"]):Has P w K mg base 18 "how_many" ["stair","holds"] (absSp K (Γ 17)):=has_false F
theorem hm_how_many (F:At K mg "how_many" s_how_many ["stair","holds"]) (G:GOk P w K mg base c_how_many Γ):HmOk P w K mg base 17:=hm_ok F sc_how_many rfl rfl k_how_many G (by decide) rfl (fun a L hL as st Q=>w_how_many hL)
theorem ok_beginning_of (F:At K mg "beginning_of" s_beginning_of ["stair","at"]) (G:GOk P w K mg base c_beginning_of Γ):Has P w K mg base 19 "beginning_of" ["stair","at"] (absSp K (Γ 18)):=def_ok F sc_beginning_of rfl rfl k_beginning_of G (fun as st Q=>len_beginning_of (st:=st)) (fun as st Q=>w_beginning_of)
theorem ok_height (F:At K mg "height" s_height ["stair","at","t"]) (G:GOk P w K mg base c_height Γ):Has P w K mg base 20 "height" ["stair","at","t"] (absSp K (Γ 19)):=def_ok F sc_height rfl rfl k_height G (fun as st Q=>len_height (st:=st)) (fun as st Q=>w_height)
theorem ok_coming {f c0 T:Addr} {oc:Value} {od an:Option Addr} {osl:Array (Option Value)} {kV doc pm ct:Value} (a:PySem.W.nsIn K mainGlobals "coming"=some (some (.ref f))) (l:K.lookup f=some ⟨oc,od,.func (PySem.W.fnOf "coming" "coming" (defArgs s_coming) (defBody s_coming) (defScope s_coming) .none kV doc pm an (.ref c0) ct),osl⟩) (t:PySem.W.tabIn K "coming"=some (c0,T)) (B:LamBase K mg base) (F:At K mg "coming" s_coming ["stair","t"]) (cc:PySem.W.codeIn K (.ref c0) "coming"=true) (hmg:mg "coming"=some (.ref f)) (G:GOk P w K mg base c_coming Γ) (M:HmOk P w K mg base 17):Has P w K mg base 21 "coming" ["stair","t"] (absSp K (Γ 20)):=def_okL a l t (by decide) B F cc hmg sc_coming rfl rfl k_coming G (fun k z=>by cases z;exact M) (fun as st Q=>len_coming (st:=st)) (fun as st Q=>w_coming)
theorem ok_last (F:At K mg "last" s_last ["stair"]) (G:GOk P w K mg base c_last Γ):Has P w K mg base 22 "last" ["stair"] (absSp K (Γ 21)):=def_ok F sc_last rfl rfl k_last G (fun as st Q=>len_last (st:=st)) (fun as st Q=>w_last)
theorem ok_latest {f c0 T:Addr} {oc:Value} {od an:Option Addr} {osl:Array (Option Value)} {kV doc pm ct:Value} (a:PySem.W.nsIn K mainGlobals "latest"=some (some (.ref f))) (l:K.lookup f=some ⟨oc,od,.func (PySem.W.fnOf "latest" "latest" (defArgs s_latest) (defBody s_latest) (defScope s_latest) .none kV doc pm an (.ref c0) ct),osl⟩) (t:PySem.W.tabIn K "latest"=some (c0,T)) (B:LamBase K mg base) (F:At K mg "latest" s_latest ["stair","y"]) (cc:PySem.W.codeIn K (.ref c0) "latest"=true) (hmg:mg "latest"=some (.ref f)) (G:GOk P w K mg base c_latest Γ) (M:HmOk P w K mg base 17):Has P w K mg base 23 "latest" ["stair","y"] (absSp K (Γ 22)):=def_okL a l t (by decide) B F cc hmg sc_latest rfl rfl k_latest G (fun k z=>by cases z;exact M) (fun as st Q=>len_latest (st:=st)) (fun as st Q=>w_latest)
theorem ok_through {f c0 T:Addr} {oc:Value} {od an:Option Addr} {osl:Array (Option Value)} {kV doc pm ct:Value} (a:PySem.W.nsIn K mainGlobals "through"=some (some (.ref f))) (l:K.lookup f=some ⟨oc,od,.func (PySem.W.fnOf "through" "through" (defArgs s_through) (defBody s_through) (defScope s_through) .none kV doc pm an (.ref c0) ct),osl⟩) (t:PySem.W.tabIn K "through"=some (c0,T)) (B:LamBase K mg base) (F:At K mg "through" s_through ["other","beginning","piece"]) (cc:PySem.W.codeIn K (.ref c0) "through"=true) (hmg:mg "through"=some (.ref f)) (G:GOk P w K mg base c_through Γ) (M:HmOk P w K mg base 17):Has P w K mg base 24 "through" ["other","beginning","piece"] (absSp K (Γ 23)):=def_okL a l t (by decide) B F cc hmg sc_through rfl rfl k_through G (fun k z=>by cases z;exact M) (fun as st Q=>len_through (st:=st)) (fun as st Q=>w_through)
theorem ok_then (F:At K mg "then" s_then ["one","other"]) (G:GOk P w K mg base c_then Γ):Has P w K mg base 25 "then" ["one","other"] (absSp K (Γ 24)):=def_ok F sc_then rfl rfl k_then G (fun as st Q=>len_then (st:=st)) (fun as st Q=>w_then)
theorem ok__law_pot (F:At K mg "_law_pot" s__law_pot ["_law_script","_law_k"]) (G:GOk P w K mg base c__law_pot Γ):Has P w K mg base 26 "_law_pot" ["_law_script","_law_k"] (absSp K (Γ 25)):=def_ok F sc__law_pot rfl rfl k__law_pot G (fun as st Q=>len__law_pot (st:=st)) (fun as st Q=>w__law_pot)
theorem ok__law_take (F:At K mg "_law_take" s__law_take ["_law_pot_here","_law_many"]) (G:GOk P w K mg base c__law_take Γ):Has P w K mg base 27 "_law_take" ["_law_pot_here","_law_many"] (absSp K (Γ 26)):=def_ok F sc__law_take rfl rfl k__law_take G (fun as st Q=>len__law_take (st:=st)) (fun as st Q=>w__law_take)
theorem ok__law_moment (F:At K mg "_law_moment" s__law_moment ["_law_n","_law_d"]) (G:GOk P w K mg base c__law_moment Γ):Has P w K mg base 28 "_law_moment" ["_law_n","_law_d"] (absSp K (Γ 27)):=def_ok F sc__law_moment rfl rfl k__law_moment G (fun as st Q=>len__law_moment (st:=st)) (fun as st Q=>w__law_moment)
theorem ok__law_row (F:At K mg "_law_row" s__law_row ["_law_pot_here","_law_hints_here"]) (G:GOk P w K mg base c__law_row Γ):Has P w K mg base 29 "_law_row" ["_law_pot_here","_law_hints_here"] (absSp K (Γ 28)):=def_ok F sc__law_row rfl rfl k__law_row G (fun as st Q=>len__law_row (st:=st)) (fun as st Q=>w__law_row)
theorem ok__law_lean (F:At K mg "_law_lean" s__law_lean ["_law_row_here"]) (G:GOk P w K mg base c__law_lean Γ):Has P w K mg base 30 "_law_lean" ["_law_row_here"] (absSp K (Γ 29)):=def_ok F sc__law_lean rfl rfl k__law_lean G (fun as st Q=>len__law_lean (st:=st)) (fun as st Q=>w__law_lean)
theorem ok__law_part (F:At K mg "_law_part" s__law_part ["_law_pot_here"]) (G:GOk P w K mg base c__law_part Γ):Has P w K mg base 31 "_law_part" ["_law_pot_here"] (absSp K (Γ 30)):=def_ok F sc__law_part rfl rfl k__law_part G (fun as st Q=>len__law_part (st:=st)) (fun as st Q=>w__law_part)
theorem ok__law_stair (F:At K mg "_law_stair" s__law_stair ["_law_row_here","_law_part_here"]) (G:GOk P w K mg base c__law_stair Γ):Has P w K mg base 32 "_law_stair" ["_law_row_here","_law_part_here"] (absSp K (Γ 31)):=def_ok F sc__law_stair rfl rfl k__law_stair G (fun as st Q=>len__law_stair (st:=st)) (fun as st Q=>w__law_stair)
theorem ok__law_hints (F:At K mg "_law_hints" s__law_hints ["_law_row_here"]) (G:GOk P w K mg base c__law_hints Γ):Has P w K mg base 33 "_law_hints" ["_law_row_here"] (absSp K (Γ 32)):=def_ok F sc__law_hints rfl rfl k__law_hints G (fun as st Q=>len__law_hints (st:=st)) (fun as st Q=>w__law_hints)
theorem ok__law_on (F:At K mg "_law_on" s__law_on ["_law_stair_here","_law_t"]) (G:GOk P w K mg base c__law_on Γ):Has P w K mg base 34 "_law_on" ["_law_stair_here","_law_t"] (absSp K (Γ 33)):=def_ok F sc__law_on rfl rfl k__law_on G (fun as st Q=>len__law_on (st:=st)) (fun as st Q=>w__law_on)
theorem ok__law_alike (F:At K mg "_law_alike" s__law_alike ["_law_one","_law_other"]) (G:GOk P w K mg base c__law_alike Γ):Has P w K mg base 35 "_law_alike" ["_law_one","_law_other"] (absSp K (Γ 34)):=def_ok F sc__law_alike rfl rfl k__law_alike G (fun as st Q=>len__law_alike (st:=st)) (fun as st Q=>w__law_alike)
theorem ok__law_middles (F:At K mg "_law_middles" s__law_middles ["_law_stair_here"]) (G:GOk P w K mg base c__law_middles Γ):Has P w K mg base 36 "_law_middles" ["_law_stair_here"] (absSp K (Γ 35)):=def_ok F sc__law_middles rfl rfl k__law_middles G (fun as st Q=>len__law_middles (st:=st)) (fun as st Q=>w__law_middles)
theorem ok__law_due (F:At K mg "_law_due" s__law_due ["_law_one","_law_other","_law_t"]) (G:GOk P w K mg base c__law_due Γ):Has P w K mg base 37 "_law_due" ["_law_one","_law_other","_law_t"] (absSp K (Γ 36)):=def_ok F sc__law_due rfl rfl k__law_due G (fun as st Q=>len__law_due (st:=st)) (fun as st Q=>w__law_due)
theorem ok__law_right (F:At K mg "_law_right" s__law_right ["_law_one","_law_other"]) (G:GOk P w K mg base c__law_right Γ):Has P w K mg base 38 "_law_right" ["_law_one","_law_other"] (absSp K (Γ 37)):=def_ok F sc__law_right rfl rfl k__law_right G (fun as st Q=>len__law_right (st:=st)) (fun as st Q=>w__law_right)
end
theorem all_mk {l:PySem.W.OpenLaw} {q:Program} {w:World} {K:PySem.W.Frag} {h:Heap} {mg:Str→Option Value} {fa:Addr} (X:K.In h) (G:h.Ns mainGlobals mg) (hfa:mg "law"=some (.ref fa))
  {f0:Addr} {oc0 kV0 dc0 pm0 cd0 ct0:Value} {od0 an0:Option Addr} {sl0:Array (Option Value)}
  {f1:Addr} {oc1 kV1 dc1 pm1 cd1 ct1:Value} {od1 an1:Option Addr} {sl1:Array (Option Value)}
  {f2:Addr} {oc2 kV2 dc2 pm2 cd2 ct2:Value} {od2 an2:Option Addr} {sl2:Array (Option Value)}
  {f3:Addr} {oc3 kV3 dc3 pm3 cd3 ct3:Value} {od3 an3:Option Addr} {sl3:Array (Option Value)}
  {f4:Addr} {oc4 kV4 dc4 pm4 cd4 ct4:Value} {od4 an4:Option Addr} {sl4:Array (Option Value)}
  {f5:Addr} {oc5 kV5 dc5 pm5 cd5 ct5:Value} {od5 an5:Option Addr} {sl5:Array (Option Value)}
  {f6:Addr} {oc6 kV6 dc6 pm6 cd6 ct6:Value} {od6 an6:Option Addr} {sl6:Array (Option Value)}
  {f7:Addr} {oc7 kV7 dc7 pm7 cd7 ct7:Value} {od7 an7:Option Addr} {sl7:Array (Option Value)}
  {f8:Addr} {oc8 kV8 dc8 pm8 cd8 ct8:Value} {od8 an8:Option Addr} {sl8:Array (Option Value)}
  {f9:Addr} {oc9 kV9 dc9 pm9 cd9 ct9:Value} {od9 an9:Option Addr} {sl9:Array (Option Value)}
  {f10:Addr} {oc10 kV10 dc10 pm10 cd10 ct10:Value} {od10 an10:Option Addr} {sl10:Array (Option Value)}
  {f11:Addr} {oc11 kV11 dc11 pm11 cd11 ct11:Value} {od11 an11:Option Addr} {sl11:Array (Option Value)}
  {f12:Addr} {oc12 kV12 dc12 pm12 cd12 ct12:Value} {od12 an12:Option Addr} {sl12:Array (Option Value)}
  {f13:Addr} {oc13 kV13 dc13 pm13 cd13 ct13:Value} {od13 an13:Option Addr} {sl13:Array (Option Value)}
  {f14:Addr} {oc14 kV14 dc14 pm14 cd14 ct14:Value} {od14 an14:Option Addr} {sl14:Array (Option Value)}
  {f15:Addr} {oc15 kV15 dc15 pm15 cd15 ct15:Value} {od15 an15:Option Addr} {sl15:Array (Option Value)}
  {f16:Addr} {oc16 kV16 dc16 pm16 cd16 ct16:Value} {od16 an16:Option Addr} {sl16:Array (Option Value)}
  {f17:Addr} {oc17 kV17 dc17 pm17 cd17 ct17:Value} {od17 an17:Option Addr} {sl17:Array (Option Value)}
  {f18:Addr} {oc18 kV18 dc18 pm18 cd18 ct18:Value} {od18 an18:Option Addr} {sl18:Array (Option Value)}
  {f19:Addr} {oc19 kV19 dc19 pm19 cd19 ct19:Value} {od19 an19:Option Addr} {sl19:Array (Option Value)}
  {f20:Addr} {oc20 kV20 dc20 pm20 ct20:Value} {od20 an20:Option Addr} {sl20:Array (Option Value)} {cc20 tT20:Addr} {tx20:Value} {ty20:Option Addr} {tw20:Array Value} {tu20:Array (Option Value)} {td20:PySem.DefRec}
  {f21:Addr} {oc21 kV21 dc21 pm21 cd21 ct21:Value} {od21 an21:Option Addr} {sl21:Array (Option Value)}
  {f22:Addr} {oc22 kV22 dc22 pm22 ct22:Value} {od22 an22:Option Addr} {sl22:Array (Option Value)} {cc22 tT22:Addr} {tx22:Value} {ty22:Option Addr} {tw22:Array Value} {tu22:Array (Option Value)} {td22:PySem.DefRec}
  {f23:Addr} {oc23 kV23 dc23 pm23 ct23:Value} {od23 an23:Option Addr} {sl23:Array (Option Value)} {cc23 tT23:Addr} {tx23:Value} {ty23:Option Addr} {tw23:Array Value} {tu23:Array (Option Value)} {td23:PySem.DefRec}
  {f24:Addr} {oc24 kV24 dc24 pm24 cd24 ct24:Value} {od24 an24:Option Addr} {sl24:Array (Option Value)}
  {f25:Addr} {oc25 kV25 dc25 pm25 cd25 ct25:Value} {od25 an25:Option Addr} {sl25:Array (Option Value)}
  {f26:Addr} {oc26 kV26 dc26 pm26 cd26 ct26:Value} {od26 an26:Option Addr} {sl26:Array (Option Value)}
  {f27:Addr} {oc27 kV27 dc27 pm27 cd27 ct27:Value} {od27 an27:Option Addr} {sl27:Array (Option Value)}
  {f28:Addr} {oc28 kV28 dc28 pm28 cd28 ct28:Value} {od28 an28:Option Addr} {sl28:Array (Option Value)}
  {f29:Addr} {oc29 kV29 dc29 pm29 cd29 ct29:Value} {od29 an29:Option Addr} {sl29:Array (Option Value)}
  {f30:Addr} {oc30 kV30 dc30 pm30 cd30 ct30:Value} {od30 an30:Option Addr} {sl30:Array (Option Value)}
  {f31:Addr} {oc31 kV31 dc31 pm31 cd31 ct31:Value} {od31 an31:Option Addr} {sl31:Array (Option Value)}
  {f32:Addr} {oc32 kV32 dc32 pm32 cd32 ct32:Value} {od32 an32:Option Addr} {sl32:Array (Option Value)}
  {f33:Addr} {oc33 kV33 dc33 pm33 cd33 ct33:Value} {od33 an33:Option Addr} {sl33:Array (Option Value)}
  {f34:Addr} {oc34 kV34 dc34 pm34 cd34 ct34:Value} {od34 an34:Option Addr} {sl34:Array (Option Value)}
  {f35:Addr} {oc35 kV35 dc35 pm35 cd35 ct35:Value} {od35 an35:Option Addr} {sl35:Array (Option Value)}
  {f36:Addr} {oc36 kV36 dc36 pm36 cd36 ct36:Value} {od36 an36:Option Addr} {sl36:Array (Option Value)}
  {f37:Addr} {oc37 kV37 dc37 pm37 cd37 ct37:Value} {od37 an37:Option Addr} {sl37:Array (Option Value)}
  {f38:Addr} {oc38 kV38 dc38 pm38 cd38 ct38:Value} {od38 an38:Option Addr} {sl38:Array (Option Value)}
  {ga0:Addr} {gd0:Option Addr} {gn0:Nat} {gs0:Array (Option Value)} {t0_0 t0_1:Tok}
  (a0:PySem.W.nsIn K mainGlobals "is_whole"=some (some (.ref f0)))
  (l0:K.lookup f0=some ⟨oc0,od0,.func (PySem.W.fnOf "is_whole" "is_whole" (defArgs s_is_whole) (defBody s_is_whole) (defScope s_is_whole) .none kV0 dc0 pm0 an0 cd0 ct0),sl0⟩)
  (c0:PySem.W.codeIn K cd0 "is_whole"=true) (k0:PySem.W.keepIn K (.ref f0)=true)
  (a1:PySem.W.nsIn K mainGlobals "common_divisor"=some (some (.ref f1)))
  (l1:K.lookup f1=some ⟨oc1,od1,.func (PySem.W.fnOf "common_divisor" "common_divisor" (defArgs s_common_divisor) (defBody s_common_divisor) (defScope s_common_divisor) .none kV1 dc1 pm1 an1 cd1 ct1),sl1⟩)
  (c1:PySem.W.codeIn K cd1 "common_divisor"=true) (k1:PySem.W.keepIn K (.ref f1)=true)
  (a2:PySem.W.nsIn K mainGlobals "is_fraction"=some (some (.ref f2)))
  (l2:K.lookup f2=some ⟨oc2,od2,.func (PySem.W.fnOf "is_fraction" "is_fraction" (defArgs s_is_fraction) (defBody s_is_fraction) (defScope s_is_fraction) .none kV2 dc2 pm2 an2 cd2 ct2),sl2⟩)
  (c2:PySem.W.codeIn K cd2 "is_fraction"=true) (k2:PySem.W.keepIn K (.ref f2)=true)
  (a3:PySem.W.nsIn K mainGlobals "fraction"=some (some (.ref f3)))
  (l3:K.lookup f3=some ⟨oc3,od3,.func (PySem.W.fnOf "fraction" "fraction" (defArgs s_fraction) (defBody s_fraction) (defScope s_fraction) .none kV3 dc3 pm3 an3 cd3 ct3),sl3⟩)
  (c3:PySem.W.codeIn K cd3 "fraction"=true) (k3:PySem.W.keepIn K (.ref f3)=true)
  (a4:PySem.W.nsIn K mainGlobals "less"=some (some (.ref f4)))
  (l4:K.lookup f4=some ⟨oc4,od4,.func (PySem.W.fnOf "less" "less" (defArgs s_less) (defBody s_less) (defScope s_less) .none kV4 dc4 pm4 an4 cd4 ct4),sl4⟩)
  (c4:PySem.W.codeIn K cd4 "less"=true) (k4:PySem.W.keepIn K (.ref f4)=true)
  (a5:PySem.W.nsIn K mainGlobals "times"=some (some (.ref f5)))
  (l5:K.lookup f5=some ⟨oc5,od5,.func (PySem.W.fnOf "times" "times" (defArgs s_times) (defBody s_times) (defScope s_times) .none kV5 dc5 pm5 an5 cd5 ct5),sl5⟩)
  (c5:PySem.W.codeIn K cd5 "times"=true) (k5:PySem.W.keepIn K (.ref f5)=true)
  (a6:PySem.W.nsIn K mainGlobals "is_below"=some (some (.ref f6)))
  (l6:K.lookup f6=some ⟨oc6,od6,.func (PySem.W.fnOf "is_below" "is_below" (defArgs s_is_below) (defBody s_is_below) (defScope s_is_below) .none kV6 dc6 pm6 an6 cd6 ct6),sl6⟩)
  (c6:PySem.W.codeIn K cd6 "is_below"=true) (k6:PySem.W.keepIn K (.ref f6)=true)
  (a7:PySem.W.nsIn K mainGlobals "crosswise"=some (some (.ref f7)))
  (l7:K.lookup f7=some ⟨oc7,od7,.func (PySem.W.fnOf "crosswise" "crosswise" (defArgs s_crosswise) (defBody s_crosswise) (defScope s_crosswise) .none kV7 dc7 pm7 an7 cd7 ct7),sl7⟩)
  (c7:PySem.W.codeIn K cd7 "crosswise"=true) (k7:PySem.W.keepIn K (.ref f7)=true)
  (a8:PySem.W.nsIn K mainGlobals "on_straight"=some (some (.ref f8)))
  (l8:K.lookup f8=some ⟨oc8,od8,.func (PySem.W.fnOf "on_straight" "on_straight" (defArgs s_on_straight) (defBody s_on_straight) (defScope s_on_straight) .none kV8 dc8 pm8 an8 cd8 ct8),sl8⟩)
  (c8:PySem.W.codeIn K cd8 "on_straight"=true) (k8:PySem.W.keepIn K (.ref f8)=true)
  (a9:PySem.W.nsIn K mainGlobals "is_piece"=some (some (.ref f9)))
  (l9:K.lookup f9=some ⟨oc9,od9,.func (PySem.W.fnOf "is_piece" "is_piece" (defArgs s_is_piece) (defBody s_is_piece) (defScope s_is_piece) .none kV9 dc9 pm9 an9 cd9 ct9),sl9⟩)
  (c9:PySem.W.codeIn K cd9 "is_piece"=true) (k9:PySem.W.keepIn K (.ref f9)=true)
  (a10:PySem.W.nsIn K mainGlobals "is_right_alone"=some (some (.ref f10)))
  (l10:K.lookup f10=some ⟨oc10,od10,.func (PySem.W.fnOf "is_right_alone" "is_right_alone" (defArgs s_is_right_alone) (defBody s_is_right_alone) (defScope s_is_right_alone) .none kV10 dc10 pm10 an10 cd10 ct10),sl10⟩)
  (c10:PySem.W.codeIn K cd10 "is_right_alone"=true) (k10:PySem.W.keepIn K (.ref f10)=true)
  (a11:PySem.W.nsIn K mainGlobals "is_right_first"=some (some (.ref f11)))
  (l11:K.lookup f11=some ⟨oc11,od11,.func (PySem.W.fnOf "is_right_first" "is_right_first" (defArgs s_is_right_first) (defBody s_is_right_first) (defScope s_is_right_first) .none kV11 dc11 pm11 an11 cd11 ct11),sl11⟩)
  (c11:PySem.W.codeIn K cd11 "is_right_first"=true) (k11:PySem.W.keepIn K (.ref f11)=true)
  (a12:PySem.W.nsIn K mainGlobals "is_right_behind"=some (some (.ref f12)))
  (l12:K.lookup f12=some ⟨oc12,od12,.func (PySem.W.fnOf "is_right_behind" "is_right_behind" (defArgs s_is_right_behind) (defBody s_is_right_behind) (defScope s_is_right_behind) .none kV12 dc12 pm12 an12 cd12 ct12),sl12⟩)
  (c12:PySem.W.codeIn K cd12 "is_right_behind"=true) (k12:PySem.W.keepIn K (.ref f12)=true)
  (a13:PySem.W.nsIn K mainGlobals "is_row"=some (some (.ref f13)))
  (l13:K.lookup f13=some ⟨oc13,od13,.func (PySem.W.fnOf "is_row" "is_row" (defArgs s_is_row) (defBody s_is_row) (defScope s_is_row) .none kV13 dc13 pm13 an13 cd13 ct13),sl13⟩)
  (c13:PySem.W.codeIn K cd13 "is_row"=true) (k13:PySem.W.keepIn K (.ref f13)=true)
  (a14:PySem.W.nsIn K mainGlobals "goes_on"=some (some (.ref f14)))
  (l14:K.lookup f14=some ⟨oc14,od14,.func (PySem.W.fnOf "goes_on" "goes_on" (defArgs s_goes_on) (defBody s_goes_on) (defScope s_goes_on) .none kV14 dc14 pm14 an14 cd14 ct14),sl14⟩)
  (c14:PySem.W.codeIn K cd14 "goes_on"=true) (k14:PySem.W.keepIn K (.ref f14)=true)
  (a15:PySem.W.nsIn K mainGlobals "lean"=some (some (.ref f15)))
  (l15:K.lookup f15=some ⟨oc15,od15,.func (PySem.W.fnOf "lean" "lean" (defArgs s_lean) (defBody s_lean) (defScope s_lean) .none kV15 dc15 pm15 an15 cd15 ct15),sl15⟩)
  (c15:PySem.W.codeIn K cd15 "lean"=true) (k15:PySem.W.keepIn K (.ref f15)=true)
  (a16:PySem.W.nsIn K mainGlobals "is_stair"=some (some (.ref f16)))
  (l16:K.lookup f16=some ⟨oc16,od16,.func (PySem.W.fnOf "is_stair" "is_stair" (defArgs s_is_stair) (defBody s_is_stair) (defScope s_is_stair) .none kV16 dc16 pm16 an16 cd16 ct16),sl16⟩)
  (c16:PySem.W.codeIn K cd16 "is_stair"=true) (k16:PySem.W.keepIn K (.ref f16)=true)
  (a17:PySem.W.nsIn K mainGlobals "how_many"=some (some (.ref f17)))
  (l17:K.lookup f17=some ⟨oc17,od17,.func (PySem.W.fnOf "how_many" "how_many" (defArgs s_how_many) (defBody s_how_many) (defScope s_how_many) .none kV17 dc17 pm17 an17 cd17 ct17),sl17⟩)
  (c17:PySem.W.codeIn K cd17 "how_many"=true) (k17:PySem.W.keepIn K (.ref f17)=true)
  (a18:PySem.W.nsIn K mainGlobals "beginning_of"=some (some (.ref f18)))
  (l18:K.lookup f18=some ⟨oc18,od18,.func (PySem.W.fnOf "beginning_of" "beginning_of" (defArgs s_beginning_of) (defBody s_beginning_of) (defScope s_beginning_of) .none kV18 dc18 pm18 an18 cd18 ct18),sl18⟩)
  (c18:PySem.W.codeIn K cd18 "beginning_of"=true) (k18:PySem.W.keepIn K (.ref f18)=true)
  (a19:PySem.W.nsIn K mainGlobals "height"=some (some (.ref f19)))
  (l19:K.lookup f19=some ⟨oc19,od19,.func (PySem.W.fnOf "height" "height" (defArgs s_height) (defBody s_height) (defScope s_height) .none kV19 dc19 pm19 an19 cd19 ct19),sl19⟩)
  (c19:PySem.W.codeIn K cd19 "height"=true) (k19:PySem.W.keepIn K (.ref f19)=true)
  (a20:PySem.W.nsIn K mainGlobals "coming"=some (some (.ref f20)))
  (l20:K.lookup f20=some ⟨oc20,od20,.func (PySem.W.fnOf "coming" "coming" (defArgs s_coming) (defBody s_coming) (defScope s_coming) .none kV20 dc20 pm20 an20 (.ref cc20) ct20),sl20⟩)
  (c20:PySem.W.codeIn K (.ref cc20) "coming"=true) (k20:PySem.W.keepIn K (.ref f20)=true)
  (tc20:K.lookup cc20=some ⟨tx20,ty20,.fields tw20,tu20⟩) (tv20:tw20[11]?=some (.ref tT20)) (tn20:K.lookup tT20=none) (tr20:(PyProof.Rows.recsOf q).find? (fun e=>e.name == ("coming":Str))=some td20)
  (a21:PySem.W.nsIn K mainGlobals "last"=some (some (.ref f21)))
  (l21:K.lookup f21=some ⟨oc21,od21,.func (PySem.W.fnOf "last" "last" (defArgs s_last) (defBody s_last) (defScope s_last) .none kV21 dc21 pm21 an21 cd21 ct21),sl21⟩)
  (c21:PySem.W.codeIn K cd21 "last"=true) (k21:PySem.W.keepIn K (.ref f21)=true)
  (a22:PySem.W.nsIn K mainGlobals "latest"=some (some (.ref f22)))
  (l22:K.lookup f22=some ⟨oc22,od22,.func (PySem.W.fnOf "latest" "latest" (defArgs s_latest) (defBody s_latest) (defScope s_latest) .none kV22 dc22 pm22 an22 (.ref cc22) ct22),sl22⟩)
  (c22:PySem.W.codeIn K (.ref cc22) "latest"=true) (k22:PySem.W.keepIn K (.ref f22)=true)
  (tc22:K.lookup cc22=some ⟨tx22,ty22,.fields tw22,tu22⟩) (tv22:tw22[11]?=some (.ref tT22)) (tn22:K.lookup tT22=none) (tr22:(PyProof.Rows.recsOf q).find? (fun e=>e.name == ("latest":Str))=some td22)
  (a23:PySem.W.nsIn K mainGlobals "through"=some (some (.ref f23)))
  (l23:K.lookup f23=some ⟨oc23,od23,.func (PySem.W.fnOf "through" "through" (defArgs s_through) (defBody s_through) (defScope s_through) .none kV23 dc23 pm23 an23 (.ref cc23) ct23),sl23⟩)
  (c23:PySem.W.codeIn K (.ref cc23) "through"=true) (k23:PySem.W.keepIn K (.ref f23)=true)
  (tc23:K.lookup cc23=some ⟨tx23,ty23,.fields tw23,tu23⟩) (tv23:tw23[11]?=some (.ref tT23)) (tn23:K.lookup tT23=none) (tr23:(PyProof.Rows.recsOf q).find? (fun e=>e.name == ("through":Str))=some td23)
  (a24:PySem.W.nsIn K mainGlobals "then"=some (some (.ref f24)))
  (l24:K.lookup f24=some ⟨oc24,od24,.func (PySem.W.fnOf "then" "then" (defArgs s_then) (defBody s_then) (defScope s_then) .none kV24 dc24 pm24 an24 cd24 ct24),sl24⟩)
  (c24:PySem.W.codeIn K cd24 "then"=true) (k24:PySem.W.keepIn K (.ref f24)=true)
  (a25:PySem.W.nsIn K mainGlobals "_law_pot"=some (some (.ref f25)))
  (l25:K.lookup f25=some ⟨oc25,od25,.func (PySem.W.fnOf "_law_pot" "_law_pot" (defArgs s__law_pot) (defBody s__law_pot) (defScope s__law_pot) .none kV25 dc25 pm25 an25 cd25 ct25),sl25⟩)
  (c25:PySem.W.codeIn K cd25 "_law_pot"=true) (k25:PySem.W.keepIn K (.ref f25)=true)
  (a26:PySem.W.nsIn K mainGlobals "_law_take"=some (some (.ref f26)))
  (l26:K.lookup f26=some ⟨oc26,od26,.func (PySem.W.fnOf "_law_take" "_law_take" (defArgs s__law_take) (defBody s__law_take) (defScope s__law_take) .none kV26 dc26 pm26 an26 cd26 ct26),sl26⟩)
  (c26:PySem.W.codeIn K cd26 "_law_take"=true) (k26:PySem.W.keepIn K (.ref f26)=true)
  (a27:PySem.W.nsIn K mainGlobals "_law_moment"=some (some (.ref f27)))
  (l27:K.lookup f27=some ⟨oc27,od27,.func (PySem.W.fnOf "_law_moment" "_law_moment" (defArgs s__law_moment) (defBody s__law_moment) (defScope s__law_moment) .none kV27 dc27 pm27 an27 cd27 ct27),sl27⟩)
  (c27:PySem.W.codeIn K cd27 "_law_moment"=true) (k27:PySem.W.keepIn K (.ref f27)=true)
  (a28:PySem.W.nsIn K mainGlobals "_law_row"=some (some (.ref f28)))
  (l28:K.lookup f28=some ⟨oc28,od28,.func (PySem.W.fnOf "_law_row" "_law_row" (defArgs s__law_row) (defBody s__law_row) (defScope s__law_row) .none kV28 dc28 pm28 an28 cd28 ct28),sl28⟩)
  (c28:PySem.W.codeIn K cd28 "_law_row"=true) (k28:PySem.W.keepIn K (.ref f28)=true)
  (a29:PySem.W.nsIn K mainGlobals "_law_lean"=some (some (.ref f29)))
  (l29:K.lookup f29=some ⟨oc29,od29,.func (PySem.W.fnOf "_law_lean" "_law_lean" (defArgs s__law_lean) (defBody s__law_lean) (defScope s__law_lean) .none kV29 dc29 pm29 an29 cd29 ct29),sl29⟩)
  (c29:PySem.W.codeIn K cd29 "_law_lean"=true) (k29:PySem.W.keepIn K (.ref f29)=true)
  (a30:PySem.W.nsIn K mainGlobals "_law_part"=some (some (.ref f30)))
  (l30:K.lookup f30=some ⟨oc30,od30,.func (PySem.W.fnOf "_law_part" "_law_part" (defArgs s__law_part) (defBody s__law_part) (defScope s__law_part) .none kV30 dc30 pm30 an30 cd30 ct30),sl30⟩)
  (c30:PySem.W.codeIn K cd30 "_law_part"=true) (k30:PySem.W.keepIn K (.ref f30)=true)
  (a31:PySem.W.nsIn K mainGlobals "_law_stair"=some (some (.ref f31)))
  (l31:K.lookup f31=some ⟨oc31,od31,.func (PySem.W.fnOf "_law_stair" "_law_stair" (defArgs s__law_stair) (defBody s__law_stair) (defScope s__law_stair) .none kV31 dc31 pm31 an31 cd31 ct31),sl31⟩)
  (c31:PySem.W.codeIn K cd31 "_law_stair"=true) (k31:PySem.W.keepIn K (.ref f31)=true)
  (a32:PySem.W.nsIn K mainGlobals "_law_hints"=some (some (.ref f32)))
  (l32:K.lookup f32=some ⟨oc32,od32,.func (PySem.W.fnOf "_law_hints" "_law_hints" (defArgs s__law_hints) (defBody s__law_hints) (defScope s__law_hints) .none kV32 dc32 pm32 an32 cd32 ct32),sl32⟩)
  (c32:PySem.W.codeIn K cd32 "_law_hints"=true) (k32:PySem.W.keepIn K (.ref f32)=true)
  (a33:PySem.W.nsIn K mainGlobals "_law_on"=some (some (.ref f33)))
  (l33:K.lookup f33=some ⟨oc33,od33,.func (PySem.W.fnOf "_law_on" "_law_on" (defArgs s__law_on) (defBody s__law_on) (defScope s__law_on) .none kV33 dc33 pm33 an33 cd33 ct33),sl33⟩)
  (c33:PySem.W.codeIn K cd33 "_law_on"=true) (k33:PySem.W.keepIn K (.ref f33)=true)
  (a34:PySem.W.nsIn K mainGlobals "_law_alike"=some (some (.ref f34)))
  (l34:K.lookup f34=some ⟨oc34,od34,.func (PySem.W.fnOf "_law_alike" "_law_alike" (defArgs s__law_alike) (defBody s__law_alike) (defScope s__law_alike) .none kV34 dc34 pm34 an34 cd34 ct34),sl34⟩)
  (c34:PySem.W.codeIn K cd34 "_law_alike"=true) (k34:PySem.W.keepIn K (.ref f34)=true)
  (a35:PySem.W.nsIn K mainGlobals "_law_middles"=some (some (.ref f35)))
  (l35:K.lookup f35=some ⟨oc35,od35,.func (PySem.W.fnOf "_law_middles" "_law_middles" (defArgs s__law_middles) (defBody s__law_middles) (defScope s__law_middles) .none kV35 dc35 pm35 an35 cd35 ct35),sl35⟩)
  (c35:PySem.W.codeIn K cd35 "_law_middles"=true) (k35:PySem.W.keepIn K (.ref f35)=true)
  (a36:PySem.W.nsIn K mainGlobals "_law_due"=some (some (.ref f36)))
  (l36:K.lookup f36=some ⟨oc36,od36,.func (PySem.W.fnOf "_law_due" "_law_due" (defArgs s__law_due) (defBody s__law_due) (defScope s__law_due) .none kV36 dc36 pm36 an36 cd36 ct36),sl36⟩)
  (c36:PySem.W.codeIn K cd36 "_law_due"=true) (k36:PySem.W.keepIn K (.ref f36)=true)
  (a37:PySem.W.nsIn K mainGlobals "_law_right"=some (some (.ref f37)))
  (l37:K.lookup f37=some ⟨oc37,od37,.func (PySem.W.fnOf "_law_right" "_law_right" (defArgs s__law_right) (defBody s__law_right) (defScope s__law_right) .none kV37 dc37 pm37 an37 cd37 ct37),sl37⟩)
  (c37:PySem.W.codeIn K cd37 "_law_right"=true) (k37:PySem.W.keepIn K (.ref f37)=true)
  (a38:PySem.W.nsIn K mainGlobals "law"=some (some (.ref f38)))
  (l38:K.lookup f38=some ⟨oc38,od38,.func (PySem.W.fnOf "law" "law" (defArgs s_law) (defBody s_law) (defScope s_law) .none kV38 dc38 pm38 an38 cd38 ct38),sl38⟩)
  (c38:PySem.W.codeIn K cd38 "law"=true) (k38:PySem.W.keepIn K (.ref f38)=true)
  (z0:PySem.W.nsIn K mainGlobals "isinstance"=some none)
  (z1:PySem.W.nsIn K mainGlobals "bool"=some none)
  (z2:PySem.W.nsIn K mainGlobals "int"=some none)
  (z3:PySem.W.nsIn K mainGlobals "len"=some none)
  (z4:PySem.W.nsIn K mainGlobals "tuple"=some none)
  (z5:PySem.W.nsIn K mainGlobals "all"=some none)
  (z6:PySem.W.nsIn K mainGlobals "zip"=some none)
  (z7:PySem.W.nsIn K mainGlobals "enumerate"=some none)
  (z8:PySem.W.nsIn K mainGlobals "abs"=some none)
  (z9:PySem.W.nsIn K mainGlobals "max"=some none)
  (z10:PySem.W.nsIn K mainGlobals "divmod"=some none)
  (z11:PySem.W.nsIn K mainGlobals "range"=some none)
  (z12:PySem.W.nsIn K mainGlobals "min"=some none)
  (tne_coming_latest:tT20≠tT22)
  (tne_coming_through:tT20≠tT23)
  (tne_latest_coming:tT22≠tT20)
  (tne_latest_through:tT22≠tT23)
  (tne_through_coming:tT23≠tT20)
  (tne_through_latest:tT23≠tT22)
  (ga0_:PySem.W.nsIn K mainGlobals "NOUGHT"=some (some (.ref ga0)))
  (gl0_:K.lookup ga0=some ⟨.type "tuple",gd0,.seq #[.int 0 t0_0,.int 1 t0_1] gn0,gs0⟩)
  : ∃fd:FuncData,(∀(s:Shared) (v:Value),BindsTo s fd ⟨[v],[]⟩ [("_law_script",v)])∧LamK K∧(∀x∈lamNames,PySem.W.tabIn K x=none∨∃d,(PyProof.Rows.recsOf q).find? (fun e=>e.name == x)=some d)∧∀base:Heap,K.In base→base.Ns mainGlobals mg→LamBase K mg base→FnOk l.prog w K mg base CX0 39 fa fd ["_law_script"] (absSp K spLaw):=by
 have e:=hfa.symm.trans (PySem.W.mg_of X G a38)
 cases e
 have hb:∀x∈bltL,mg x=none:=by
  intro x hx
  simp only [bltL,List.mem_cons,List.not_mem_nil,or_false] at hx
  rcases hx with rfl|rfl|rfl|rfl|rfl|rfl|rfl|rfl|rfl|rfl|rfl|rfl|rfl
  ·exact PySem.W.mg_none_of X G z0
  ·exact PySem.W.mg_none_of X G z1
  ·exact PySem.W.mg_none_of X G z2
  ·exact PySem.W.mg_none_of X G z3
  ·exact PySem.W.mg_none_of X G z4
  ·exact PySem.W.mg_none_of X G z5
  ·exact PySem.W.mg_none_of X G z6
  ·exact PySem.W.mg_none_of X G z7
  ·exact PySem.W.mg_none_of X G z8
  ·exact PySem.W.mg_none_of X G z9
  ·exact PySem.W.mg_none_of X G z10
  ·exact PySem.W.mg_none_of X G z11
  ·exact PySem.W.mg_none_of X G z12
 have hgl:∀x v,glL.lookup x=some v→∃u y,mg x=some u∧RelV y u∧∀m H,R K m H v y:=by
  intro x v hx
  by_cases q0:x=("NOUGHT":Str)
  ·subst q0
   have e:v=gv_NOUGHT:=by
    have:glL.lookup ("NOUGHT":Str)=some gv_NOUGHT:=rfl
    rw [this] at hx;cases hx;rfl
   subst e
   exact ⟨_,.ref ga0,PySem.W.mg_of X G ga0_,rfl,fun m H=>R_tup.mpr ⟨ga0,[.int 0,.int 1],rfl,.inr ⟨_,_,_,gl0_,rfl,rfl,(show 2≤sizeLine by decide),(.cons ⟨t0_0,rfl⟩ (.cons ⟨t0_1,rfl⟩ .nil))⟩,by simp only [Rs_cons',Rs_nil,R_int,and_self]⟩⟩
  exact absurd hx (by simp only [glL,List.lookup_cons,List.lookup_nil];simp only [beq_eq_false_iff_ne.mpr q0];exact fun z=>nomatch z)
 have F_is_whole:At K mg "is_whole" s_is_whole ["thing"]:=At.mk' X G (fun _ _ _ _ _ _ us hl=>ar1 (P:=fun us=>bindArgs _ { pos:=us }=pure (List.zip _ us)) (fun _=>rfl) us hl) a0 l0 c0 k0
 have F_common_divisor:At K mg "common_divisor" s_common_divisor ["n","d"]:=At.mk' X G (fun _ _ _ _ _ _ us hl=>ar2 (P:=fun us=>bindArgs _ { pos:=us }=pure (List.zip _ us)) (fun _ _=>rfl) us hl) a1 l1 c1 k1
 have F_is_fraction:At K mg "is_fraction" s_is_fraction ["thing"]:=At.mk' X G (fun _ _ _ _ _ _ us hl=>ar1 (P:=fun us=>bindArgs _ { pos:=us }=pure (List.zip _ us)) (fun _=>rfl) us hl) a2 l2 c2 k2
 have F_fraction:At K mg "fraction" s_fraction ["n","d"]:=At.mk' X G (fun _ _ _ _ _ _ us hl=>ar2 (P:=fun us=>bindArgs _ { pos:=us }=pure (List.zip _ us)) (fun _ _=>rfl) us hl) a3 l3 c3 k3
 have F_less:At K mg "less" s_less ["one","other"]:=At.mk' X G (fun _ _ _ _ _ _ us hl=>ar2 (P:=fun us=>bindArgs _ { pos:=us }=pure (List.zip _ us)) (fun _ _=>rfl) us hl) a4 l4 c4 k4
 have F_times:At K mg "times" s_times ["one","other"]:=At.mk' X G (fun _ _ _ _ _ _ us hl=>ar2 (P:=fun us=>bindArgs _ { pos:=us }=pure (List.zip _ us)) (fun _ _=>rfl) us hl) a5 l5 c5 k5
 have F_is_below:At K mg "is_below" s_is_below ["one","other"]:=At.mk' X G (fun _ _ _ _ _ _ us hl=>ar2 (P:=fun us=>bindArgs _ { pos:=us }=pure (List.zip _ us)) (fun _ _=>rfl) us hl) a6 l6 c6 k6
 have F_crosswise:At K mg "crosswise" s_crosswise ["one","other"]:=At.mk' X G (fun _ _ _ _ _ _ us hl=>ar2 (P:=fun us=>bindArgs _ { pos:=us }=pure (List.zip _ us)) (fun _ _=>rfl) us hl) a7 l7 c7 k7
 have F_on_straight:At K mg "on_straight" s_on_straight ["near","far","x"]:=At.mk' X G (fun _ _ _ _ _ _ us hl=>ar3 (P:=fun us=>bindArgs _ { pos:=us }=pure (List.zip _ us)) (fun _ _ _=>rfl) us hl) a8 l8 c8 k8
 have F_is_piece:At K mg "is_piece" s_is_piece ["thing"]:=At.mk' X G (fun _ _ _ _ _ _ us hl=>ar1 (P:=fun us=>bindArgs _ { pos:=us }=pure (List.zip _ us)) (fun _=>rfl) us hl) a9 l9 c9 k9
 have F_is_right_alone:At K mg "is_right_alone" s_is_right_alone ["piece"]:=At.mk' X G (fun _ _ _ _ _ _ us hl=>ar1 (P:=fun us=>bindArgs _ { pos:=us }=pure (List.zip _ us)) (fun _=>rfl) us hl) a10 l10 c10 k10
 have F_is_right_first:At K mg "is_right_first" s_is_right_first ["piece"]:=At.mk' X G (fun _ _ _ _ _ _ us hl=>ar1 (P:=fun us=>bindArgs _ { pos:=us }=pure (List.zip _ us)) (fun _=>rfl) us hl) a11 l11 c11 k11
 have F_is_right_behind:At K mg "is_right_behind" s_is_right_behind ["ahead","piece"]:=At.mk' X G (fun _ _ _ _ _ _ us hl=>ar2 (P:=fun us=>bindArgs _ { pos:=us }=pure (List.zip _ us)) (fun _ _=>rfl) us hl) a12 l12 c12 k12
 have F_is_row:At K mg "is_row" s_is_row ["thing"]:=At.mk' X G (fun _ _ _ _ _ _ us hl=>ar1 (P:=fun us=>bindArgs _ { pos:=us }=pure (List.zip _ us)) (fun _=>rfl) us hl) a13 l13 c13 k13
 have F_goes_on:At K mg "goes_on" s_goes_on ["beginning","ahead","piece"]:=At.mk' X G (fun _ _ _ _ _ _ us hl=>ar3 (P:=fun us=>bindArgs _ { pos:=us }=pure (List.zip _ us)) (fun _ _ _=>rfl) us hl) a14 l14 c14 k14
 have F_lean:At K mg "lean" s_lean ["row"]:=At.mk' X G (fun _ _ _ _ _ _ us hl=>ar1 (P:=fun us=>bindArgs _ { pos:=us }=pure (List.zip _ us)) (fun _=>rfl) us hl) a15 l15 c15 k15
 have F_is_stair:At K mg "is_stair" s_is_stair ["thing"]:=At.mk' X G (fun _ _ _ _ _ _ us hl=>ar1 (P:=fun us=>bindArgs _ { pos:=us }=pure (List.zip _ us)) (fun _=>rfl) us hl) a16 l16 c16 k16
 have F_how_many:At K mg "how_many" s_how_many ["stair","holds"]:=At.mk' X G (fun _ _ _ _ _ _ us hl=>ar2 (P:=fun us=>bindArgs _ { pos:=us }=pure (List.zip _ us)) (fun _ _=>rfl) us hl) a17 l17 c17 k17
 have F_beginning_of:At K mg "beginning_of" s_beginning_of ["stair","at"]:=At.mk' X G (fun _ _ _ _ _ _ us hl=>ar2 (P:=fun us=>bindArgs _ { pos:=us }=pure (List.zip _ us)) (fun _ _=>rfl) us hl) a18 l18 c18 k18
 have F_height:At K mg "height" s_height ["stair","at","t"]:=At.mk' X G (fun _ _ _ _ _ _ us hl=>ar3 (P:=fun us=>bindArgs _ { pos:=us }=pure (List.zip _ us)) (fun _ _ _=>rfl) us hl) a19 l19 c19 k19
 have F_coming:At K mg "coming" s_coming ["stair","t"]:=At.mk' X G (fun _ _ _ _ _ _ us hl=>ar2 (P:=fun us=>bindArgs _ { pos:=us }=pure (List.zip _ us)) (fun _ _=>rfl) us hl) a20 l20 c20 k20
 have F_last:At K mg "last" s_last ["stair"]:=At.mk' X G (fun _ _ _ _ _ _ us hl=>ar1 (P:=fun us=>bindArgs _ { pos:=us }=pure (List.zip _ us)) (fun _=>rfl) us hl) a21 l21 c21 k21
 have F_latest:At K mg "latest" s_latest ["stair","y"]:=At.mk' X G (fun _ _ _ _ _ _ us hl=>ar2 (P:=fun us=>bindArgs _ { pos:=us }=pure (List.zip _ us)) (fun _ _=>rfl) us hl) a22 l22 c22 k22
 have F_through:At K mg "through" s_through ["other","beginning","piece"]:=At.mk' X G (fun _ _ _ _ _ _ us hl=>ar3 (P:=fun us=>bindArgs _ { pos:=us }=pure (List.zip _ us)) (fun _ _ _=>rfl) us hl) a23 l23 c23 k23
 have F_then:At K mg "then" s_then ["one","other"]:=At.mk' X G (fun _ _ _ _ _ _ us hl=>ar2 (P:=fun us=>bindArgs _ { pos:=us }=pure (List.zip _ us)) (fun _ _=>rfl) us hl) a24 l24 c24 k24
 have F__law_pot:At K mg "_law_pot" s__law_pot ["_law_script","_law_k"]:=At.mk' X G (fun _ _ _ _ _ _ us hl=>ar2 (P:=fun us=>bindArgs _ { pos:=us }=pure (List.zip _ us)) (fun _ _=>rfl) us hl) a25 l25 c25 k25
 have F__law_take:At K mg "_law_take" s__law_take ["_law_pot_here","_law_many"]:=At.mk' X G (fun _ _ _ _ _ _ us hl=>ar2 (P:=fun us=>bindArgs _ { pos:=us }=pure (List.zip _ us)) (fun _ _=>rfl) us hl) a26 l26 c26 k26
 have F__law_moment:At K mg "_law_moment" s__law_moment ["_law_n","_law_d"]:=At.mk' X G (fun _ _ _ _ _ _ us hl=>ar2 (P:=fun us=>bindArgs _ { pos:=us }=pure (List.zip _ us)) (fun _ _=>rfl) us hl) a27 l27 c27 k27
 have F__law_row:At K mg "_law_row" s__law_row ["_law_pot_here","_law_hints_here"]:=At.mk' X G (fun _ _ _ _ _ _ us hl=>ar2 (P:=fun us=>bindArgs _ { pos:=us }=pure (List.zip _ us)) (fun _ _=>rfl) us hl) a28 l28 c28 k28
 have F__law_lean:At K mg "_law_lean" s__law_lean ["_law_row_here"]:=At.mk' X G (fun _ _ _ _ _ _ us hl=>ar1 (P:=fun us=>bindArgs _ { pos:=us }=pure (List.zip _ us)) (fun _=>rfl) us hl) a29 l29 c29 k29
 have F__law_part:At K mg "_law_part" s__law_part ["_law_pot_here"]:=At.mk' X G (fun _ _ _ _ _ _ us hl=>ar1 (P:=fun us=>bindArgs _ { pos:=us }=pure (List.zip _ us)) (fun _=>rfl) us hl) a30 l30 c30 k30
 have F__law_stair:At K mg "_law_stair" s__law_stair ["_law_row_here","_law_part_here"]:=At.mk' X G (fun _ _ _ _ _ _ us hl=>ar2 (P:=fun us=>bindArgs _ { pos:=us }=pure (List.zip _ us)) (fun _ _=>rfl) us hl) a31 l31 c31 k31
 have F__law_hints:At K mg "_law_hints" s__law_hints ["_law_row_here"]:=At.mk' X G (fun _ _ _ _ _ _ us hl=>ar1 (P:=fun us=>bindArgs _ { pos:=us }=pure (List.zip _ us)) (fun _=>rfl) us hl) a32 l32 c32 k32
 have F__law_on:At K mg "_law_on" s__law_on ["_law_stair_here","_law_t"]:=At.mk' X G (fun _ _ _ _ _ _ us hl=>ar2 (P:=fun us=>bindArgs _ { pos:=us }=pure (List.zip _ us)) (fun _ _=>rfl) us hl) a33 l33 c33 k33
 have F__law_alike:At K mg "_law_alike" s__law_alike ["_law_one","_law_other"]:=At.mk' X G (fun _ _ _ _ _ _ us hl=>ar2 (P:=fun us=>bindArgs _ { pos:=us }=pure (List.zip _ us)) (fun _ _=>rfl) us hl) a34 l34 c34 k34
 have F__law_middles:At K mg "_law_middles" s__law_middles ["_law_stair_here"]:=At.mk' X G (fun _ _ _ _ _ _ us hl=>ar1 (P:=fun us=>bindArgs _ { pos:=us }=pure (List.zip _ us)) (fun _=>rfl) us hl) a35 l35 c35 k35
 have F__law_due:At K mg "_law_due" s__law_due ["_law_one","_law_other","_law_t"]:=At.mk' X G (fun _ _ _ _ _ _ us hl=>ar3 (P:=fun us=>bindArgs _ { pos:=us }=pure (List.zip _ us)) (fun _ _ _=>rfl) us hl) a36 l36 c36 k36
 have F__law_right:At K mg "_law_right" s__law_right ["_law_one","_law_other"]:=At.mk' X G (fun _ _ _ _ _ _ us hl=>ar2 (P:=fun us=>bindArgs _ { pos:=us }=pure (List.zip _ us)) (fun _ _=>rfl) us hl) a37 l37 c37 k37
 have t_coming:=tab_mk a20 l20 tc20 tv20
 have t_latest:=tab_mk a22 l22 tc22 tv22
 have t_through:=tab_mk a23 l23 tc23 tv23
 refine ⟨PySem.W.fnOf "law" "law" (defArgs s_law) (defBody s_law) (defScope s_law) .none kV38 dc38 pm38 an38 cd38 ct38,fun s v=>.of_eq rfl,?lk,?lq,fun base _ _ B=>?_⟩
 case lk =>
  refine lamK_of fun x hx=>?_
  simp only [lamNames,List.mem_cons,List.not_mem_nil,or_false] at hx
  rcases hx with rfl|rfl|rfl
  ·refine .inr ⟨_,_,t_coming,tn20,fun y hy ne d e=>?_⟩
   simp only [lamNames,List.mem_cons,List.not_mem_nil,or_false] at hy
   rcases hy with rfl|rfl|rfl
   ·exact ne rfl
   ·rw [t_latest] at e;exact absurd (congrArg (fun z=>z.map Prod.snd) e) (by intro z;injection z with z;exact tne_latest_coming z)
   ·rw [t_through] at e;exact absurd (congrArg (fun z=>z.map Prod.snd) e) (by intro z;injection z with z;exact tne_through_coming z)
  ·refine .inr ⟨_,_,t_latest,tn22,fun y hy ne d e=>?_⟩
   simp only [lamNames,List.mem_cons,List.not_mem_nil,or_false] at hy
   rcases hy with rfl|rfl|rfl
   ·rw [t_coming] at e;exact absurd (congrArg (fun z=>z.map Prod.snd) e) (by intro z;injection z with z;exact tne_coming_latest z)
   ·exact ne rfl
   ·rw [t_through] at e;exact absurd (congrArg (fun z=>z.map Prod.snd) e) (by intro z;injection z with z;exact tne_through_latest z)
  ·refine .inr ⟨_,_,t_through,tn23,fun y hy ne d e=>?_⟩
   simp only [lamNames,List.mem_cons,List.not_mem_nil,or_false] at hy
   rcases hy with rfl|rfl|rfl
   ·rw [t_coming] at e;exact absurd (congrArg (fun z=>z.map Prod.snd) e) (by intro z;injection z with z;exact tne_coming_through z)
   ·rw [t_latest] at e;exact absurd (congrArg (fun z=>z.map Prod.snd) e) (by intro z;injection z with z;exact tne_latest_through z)
   ·exact ne rfl
 case lq =>
  intro x hx
  simp only [lamNames,List.mem_cons,List.not_mem_nil,or_false] at hx
  rcases hx with rfl|rfl|rfl
  ·exact .inr ⟨_,tr20⟩
  ·exact .inr ⟨_,tr22⟩
  ·exact .inr ⟨_,tr23⟩
 have G0:GOk l.prog w K mg base c_is_whole Γ:=⟨fun f x hf=>absurd hf (Nat.not_lt_zero _),hb,hgl,Γm⟩
 have G1:GOk l.prog w K mg base c_common_divisor Γ:=G0.next rfl rfl rfl rfl rfl (ok_is_whole F_is_whole G0)
 have G2:GOk l.prog w K mg base c_is_fraction Γ:=G1.next rfl rfl rfl rfl rfl (ok_common_divisor F_common_divisor G1)
 have G3:GOk l.prog w K mg base c_fraction Γ:=G2.next rfl rfl rfl rfl rfl (ok_is_fraction F_is_fraction G2)
 have G4:GOk l.prog w K mg base c_less Γ:=G3.next rfl rfl rfl rfl rfl (ok_fraction F_fraction G3)
 have G5:GOk l.prog w K mg base c_times Γ:=G4.next rfl rfl rfl rfl rfl (ok_less F_less G4)
 have G6:GOk l.prog w K mg base c_is_below Γ:=G5.next rfl rfl rfl rfl rfl (ok_times F_times G5)
 have G7:GOk l.prog w K mg base c_crosswise Γ:=G6.next rfl rfl rfl rfl rfl (ok_is_below F_is_below G6)
 have G8:GOk l.prog w K mg base c_on_straight Γ:=G7.next rfl rfl rfl rfl rfl (ok_crosswise F_crosswise G7)
 have G9:GOk l.prog w K mg base c_is_piece Γ:=G8.next rfl rfl rfl rfl rfl (ok_on_straight F_on_straight G8)
 have G10:GOk l.prog w K mg base c_is_right_alone Γ:=G9.next rfl rfl rfl rfl rfl (ok_is_piece F_is_piece G9)
 have G11:GOk l.prog w K mg base c_is_right_first Γ:=G10.next rfl rfl rfl rfl rfl (ok_is_right_alone F_is_right_alone G10)
 have G12:GOk l.prog w K mg base c_is_right_behind Γ:=G11.next rfl rfl rfl rfl rfl (ok_is_right_first F_is_right_first G11)
 have G13:GOk l.prog w K mg base c_is_row Γ:=G12.next rfl rfl rfl rfl rfl (ok_is_right_behind F_is_right_behind G12)
 have G14:GOk l.prog w K mg base c_goes_on Γ:=G13.next rfl rfl rfl rfl rfl (ok_is_row F_is_row G13)
 have G15:GOk l.prog w K mg base c_lean Γ:=G14.next rfl rfl rfl rfl rfl (ok_goes_on F_goes_on G14)
 have G16:GOk l.prog w K mg base c_is_stair Γ:=G15.next rfl rfl rfl rfl rfl (ok_lean F_lean G15)
 have G17:GOk l.prog w K mg base c_how_many Γ:=G16.next rfl rfl rfl rfl rfl (ok_is_stair F_is_stair G16)
 have M:=hm_how_many F_how_many G17
 have G18:GOk l.prog w K mg base c_beginning_of Γ:=G17.next rfl rfl rfl rfl rfl (ok_how_many F_how_many)
 have G19:GOk l.prog w K mg base c_height Γ:=G18.next rfl rfl rfl rfl rfl (ok_beginning_of F_beginning_of G18)
 have G20:GOk l.prog w K mg base c_coming Γ:=G19.next rfl rfl rfl rfl rfl (ok_height F_height G19)
 have G21:GOk l.prog w K mg base c_last Γ:=G20.next rfl rfl rfl rfl rfl (ok_coming a20 l20 t_coming B F_coming c20 (PySem.W.mg_of X G a20) G20 M)
 have G22:GOk l.prog w K mg base c_latest Γ:=G21.next rfl rfl rfl rfl rfl (ok_last F_last G21)
 have G23:GOk l.prog w K mg base c_through Γ:=G22.next rfl rfl rfl rfl rfl (ok_latest a22 l22 t_latest B F_latest c22 (PySem.W.mg_of X G a22) G22 M)
 have G24:GOk l.prog w K mg base c_then Γ:=G23.next rfl rfl rfl rfl rfl (ok_through a23 l23 t_through B F_through c23 (PySem.W.mg_of X G a23) G23 M)
 have G25:GOk l.prog w K mg base c__law_pot Γ:=G24.next rfl rfl rfl rfl rfl (ok_then F_then G24)
 have G26:GOk l.prog w K mg base c__law_take Γ:=G25.next rfl rfl rfl rfl rfl (ok__law_pot F__law_pot G25)
 have G27:GOk l.prog w K mg base c__law_moment Γ:=G26.next rfl rfl rfl rfl rfl (ok__law_take F__law_take G26)
 have G28:GOk l.prog w K mg base c__law_row Γ:=G27.next rfl rfl rfl rfl rfl (ok__law_moment F__law_moment G27)
 have G29:GOk l.prog w K mg base c__law_lean Γ:=G28.next rfl rfl rfl rfl rfl (ok__law_row F__law_row G28)
 have G30:GOk l.prog w K mg base c__law_part Γ:=G29.next rfl rfl rfl rfl rfl (ok__law_lean F__law_lean G29)
 have G31:GOk l.prog w K mg base c__law_stair Γ:=G30.next rfl rfl rfl rfl rfl (ok__law_part F__law_part G30)
 have G32:GOk l.prog w K mg base c__law_hints Γ:=G31.next rfl rfl rfl rfl rfl (ok__law_stair F__law_stair G31)
 have G33:GOk l.prog w K mg base c__law_on Γ:=G32.next rfl rfl rfl rfl rfl (ok__law_hints F__law_hints G32)
 have G34:GOk l.prog w K mg base c__law_alike Γ:=G33.next rfl rfl rfl rfl rfl (ok__law_on F__law_on G33)
 have G35:GOk l.prog w K mg base c__law_middles Γ:=G34.next rfl rfl rfl rfl rfl (ok__law_alike F__law_alike G34)
 have G36:GOk l.prog w K mg base c__law_due Γ:=G35.next rfl rfl rfl rfl rfl (ok__law_middles F__law_middles G35)
 have G37:GOk l.prog w K mg base c__law_right Γ:=G36.next rfl rfl rfl rfl rfl (ok__law_due F__law_due G36)
 have G38:GOk l.prog w K mg base c_law Γ:=G37.next rfl rfl rfl rfl rfl (ok__law_right F__law_right G37)
 exact def_okF (qual:="law") (fun_mk (st:=s_law) l38 c38 k38) sc_law rfl rfl k_law G38 (fun as st Q=>len_law) (fun as st Q=>w_law)
end My
namespace PySem.W.Fast
def tw10078477310382510639:=()
def tw10112640656946287457:=()
def tw10167344841131493628:=()
def tw10230353693358744737:=()
def tw10266450115543215078:=()
def tw1036215432085185889:=()
def tw10378996027384758998:=()
def tw10424299428595950675:=()
def tw10446754202664307726:=()
def tw10536182043005442836:=()
def tw10580895336798313031:=()
def tw10587794742708999327:=()
def tw10595996043052422713:=()
def tw10629408866841435651:=()
def tw10700858005038803908:=()
def tw10723508886442712182:=()
def tw10739646820233584871:=()
def tw10882796674894377779:=()
def tw10902338477900712641:=()
def tw10936378855895710273:=()
def tw11107547543074491088:=()
def tw11216369068448475551:=()
def tw11286028714072702302:=()
def tw11287650014756376731:=()
def tw11330143295366065058:=()
def tw11354734690351616419:=()
def tw11475547184756425122:=()
def tw11485623172297624575:=()
def tw11491891890686792372:=()
def tw11508556814783904472:=()
def tw11553834342387096833:=()
def tw1158108328662378129:=()
def tw11596823335963840515:=()
def tw11603834097408434723:=()
def tw11711106385420589747:=()
def tw11744093205944965455:=()
def tw11789580965073568769:=()
def tw11856961645955623287:=()
def tw11937839963263380610:=()
def tw11972611859575346736:=()
def tw12009604127976280015:=()
def tw1202853880718746380:=()
def tw12162676522127872630:=()
def tw12202710376538544245:=()
def tw12242046495285400771:=()
def tw12252605983804400840:=()
def tw12282554905191529600:=()
def tw12296851547595992436:=()
def tw12337348858819143297:=()
def tw12363622306655282652:=()
def tw12402146645354353198:=()
def tw12408081172013029200:=()
def tw12444592869998155431:=()
def tw1244662976060233099:=()
def tw12510991929702909280:=()
def tw12579765968015255072:=()
def tw12608632144794221993:=()
def tw1263825908891222995:=()
def tw12657416203947482635:=()
def tw12698516257604273498:=()
def tw12856334806409214743:=()
def tw12884315337407028505:=()
def tw1289168197996005298:=()
def tw12902956485768995277:=()
def tw13220025870728479912:=()
def tw13280736876198245506:=()
def tw13292143148814487079:=()
def tw1333059404471068461:=()
def tw13371802290168797769:=()
def tw13372969392319584896:=()
def tw1341023894815188904:=()
def tw13480769482541654754:=()
def tw13695513717552657042:=()
def tw13855438963708914575:=()
def tw13955968906432013232:=()
def tw13959657593810020207:=()
def tw14001247605604532194:=()
def tw14032046229540249805:=()
def tw14164832860766491395:=()
def tw14401023060702419:=()
def tw14518777956846743297:=()
def tw14519313219317858012:=()
def tw14546718045246854979:=()
def tw14573746736973574684:=()
def tw14583212567823611263:=()
def tw14598906103466205992:=()
def tw14641679783389287079:=()
def tw14698422106204027138:=()
def tw14742176934220089539:=()
def tw14792487244077511985:=()
def tw14818956192659896986:=()
def tw14899711449075490391:=()
def tw14954091882833985076:=()
def tw14983744348519816277:=()
def tw15048392846671282035:=()
def tw15088149572189012730:=()
def tw15151769084086484282:=()
def tw1517338986654729847:=()
def tw1518531707642445815:=()
def tw15231190872178431157:=()
def tw15273912578123424810:=()
def tw15278983060806087116:=()
def tw15314080953236978737:=()
def tw15399365849166467116:=()
def tw15418801260932304725:=()
def tw15489779452518397132:=()
def tw15604379517123951371:=()
def tw1561925997205880475:=()
def tw15630961966892018685:=()
def tw15677856907750382458:=()
def tw15812531402642755738:=()
def tw15910994565109831325:=()
def tw1591777248026425690:=()
def tw15958054497772099:=()
def tw15972036454730320924:=()
def tw16063378165264930402:=()
def tw16129809383621461884:=()
def tw16232740031099857893:=()
def tw1646962446776590187:=()
def tw16477613301336395515:=()
def tw16495779492212077255:=()
def tw16545329510457066721:=()
def tw1655747580118748726:=()
def tw16616217660579617363:=()
def tw16768806754672169423:=()
def tw16803900371286058902:=()
def tw16814544006030245221:=()
def tw17021526467730757730:=()
def tw17022984706266500554:=()
def tw17069853773185656392:=()
def tw17076600105959145143:=()
def tw17113786088138936731:=()
def tw17165696108896333476:=()
def tw17181409569469160822:=()
def tw172112901805783626:=()
def tw17214757083087945433:=()
def tw17358495613562103371:=()
def tw17390381611130287284:=()
def tw17432319932695409558:=()
def tw1750312715282293256:=()
def tw17535187563713605249:=()
def tw17568382724217256474:=()
def tw17744422515386919594:=()
def tw17796038618817608582:=()
def tw1798151976417728478:=()
def tw18047219603771049573:=()
def tw18155676944491720035:=()
def tw18174530275127393637:=()
def tw18211030817585267037:=()
def tw18301579113040256475:=()
def tw18340611152782691436:=()
def tw1896294616899991214:=()
def tw1943110423201267795:=()
def tw1961747214215097760:=()
def tw2037230914605086057:=()
def tw2161643093134525154:=()
def tw2293033513662845314:=()
def tw2310929834741366856:=()
def tw2363692680238130271:=()
def tw2428572756968813916:=()
def tw2436926326675392542:=()
def tw2449138453929741481:=()
def tw2459496350405449401:=()
def tw2671612898700040825:=()
def tw2708044399394723136:=()
def tw2723339204620324669:=()
def tw2730438294641012808:=()
def tw2742069435893084308:=()
def tw2748145169148860834:=()
def tw2776930816715361456:=()
def tw2784222338718757892:=()
def tw2812620357908639873:=()
def tw2829433620038630122:=()
def tw2890565852213844904:=()
def tw2959089200013136299:=()
def tw2979201295754088842:=()
def tw3009047891896193619:=()
def tw3034716026968172491:=()
def tw3185940794105154818:=()
def tw3424937379056494748:=()
def tw3431520009654783237:=()
def tw3449606159849571746:=()
def tw3518568590887804546:=()
def tw3519544931406237771:=()
def tw3689350517815985885:=()
def tw3737275372900746073:=()
def tw3790732908205500924:=()
def tw3829773598782019629:=()
def tw3838079052361946843:=()
def tw3889588734772475401:=()
def tw3951744511083652915:=()
def tw3952678364155372401:=()
def tw4030965718943641689:=()
def tw4102280387545302667:=()
def tw4151748732975616331:=()
def tw4153123683406049231:=()
def tw4175234829608104543:=()
def tw4320215138464414574:=()
def tw4451431735465861167:=()
def tw4461662518916748861:=()
def tw4539299278164210069:=()
def tw4560192565921703965:=()
def tw4608581341370094968:=()
def tw4627055931686644516:=()
def tw4633768858222318684:=()
def tw4645413598469823276:=()
def tw466525050560805148:=()
def tw478881294853774973:=()
def tw4803047673281060916:=()
def tw4830431491947818901:=()
def tw4848666949651701790:=()
def tw4894787422607688043:=()
def tw5032963523202443020:=()
def tw522681236200458914:=()
def tw5402344997961389487:=()
def tw5479991468537940397:=()
def tw5621416345030060156:=()
def tw5636075219569586026:=()
def tw5645729649830170762:=()
def tw5673882848170358229:=()
def tw5683156318548926451:=()
def tw5782441295764530218:=()
def tw5816847482263154898:=()
def tw5956559992711805841:=()
def tw5983413543994003423:=()
def tw5995448534304401946:=()
def tw6018082299433266810:=()
def tw6033967836826189446:=()
def tw6133239947240829016:=()
def tw6243017807878885729:=()
def tw626213511470274080:=()
def tw6294993573741419499:=()
def tw6338088855224448279:=()
def tw6406472609495089831:=()
def tw6552176717303078966:=()
def tw6858146535891347199:=()
def tw6883719015196041592:=()
def tw6894300830469860613:=()
def tw6997388459567591591:=()
def tw7103401932354457234:=()
def tw7117117266710676770:=()
def tw7167529875106244950:=()
def tw7259532234584962501:=()
def tw7292843992834083584:=()
def tw7334195896586413702:=()
def tw7339997486520044643:=()
def tw7619471742963017118:=()
def tw771494699596390433:=()
def tw7877217061692458327:=()
def tw7925225775580140293:=()
def tw7949514843695871573:=()
def tw797137136499332840:=()
def tw7980983138827144401:=()
def tw812527482937788370:=()
def tw8161317540624410265:=()
def tw8196078828236090764:=()
def tw8196898048642999181:=()
def tw823385736939871656:=()
def tw8238694597531120301:=()
def tw8273093609263670288:=()
def tw8310841976210806082:=()
def tw8321338637045130801:=()
def tw8336224411409740035:=()
def tw8457054588173407065:=()
def tw8528155703351371131:=()
def tw8538340932102470791:=()
def tw8681396725508227740:=()
def tw8712472965919750870:=()
def tw8804948069711028748:=()
def tw883675919998037142:=()
def tw8852884154473922964:=()
def tw889046263728864464:=()
def tw8914786077435865412:=()
def tw8960279001522357575:=()
def tw9118536364778693170:=()
def tw9174124617466129561:=()
def tw9287854175394106052:=()
def tw9293361657830445376:=()
def tw9326185471351344021:=()
def tw9365512137052338758:=()
def tw9476882332947971350:=()
def tw947928748564251828:=()
def tw9509266534896292455:=()
def tw9566309147213366423:=()
def tw9604316876845475806:=()
def tw9693406246739025282:=()
def tw9829508894594063011:=()
def tw9864064595254422817:=()
def tw9909119701100258199:=()
def tw9926649987036161504:=()
def tw9943042351905810425:=()
def tw9960627334497543840:=()
end PySem.W.Fast
open PySem PySem.W PyProof.Rows
set_option maxRecDepth 100000 in
set_option maxHeartbeats 0 in
theorem PySem.Challenge.cw_hourstairs_k41_whole_one_then_another_holds : PySem.Challenge.rw_hourstairs_k41_whole_one_then_another.Holds := by
 w_on;o_law;k_head;(case hw=>w_witness2)
 k_fill
 refine FW.walkF (l:=PySem.Challenge.rw_hourstairs_k41_whole_one_then_another) (k:=39) (x:="_law_script") rfl rfl ⟨rfl,by decide,by decide,rfl⟩ (fun w h Y=>PySem.W.km_in_of Y) ?F
 case F =>
  intro w mg fa h KX G hmg
  refine' My.all_mk KX G hmg ?a0 ?l0 ?c0 ?k0 ?a1 ?l1 ?c1 ?k1 ?a2 ?l2 ?c2 ?k2 ?a3 ?l3 ?c3 ?k3 ?a4 ?l4 ?c4 ?k4 ?a5 ?l5 ?c5 ?k5 ?a6 ?l6 ?c6 ?k6 ?a7 ?l7 ?c7 ?k7 ?a8 ?l8 ?c8 ?k8 ?a9 ?l9 ?c9 ?k9 ?a10 ?l10 ?c10 ?k10 ?a11 ?l11 ?c11 ?k11 ?a12 ?l12 ?c12 ?k12 ?a13 ?l13 ?c13 ?k13 ?a14 ?l14 ?c14 ?k14 ?a15 ?l15 ?c15 ?k15 ?a16 ?l16 ?c16 ?k16 ?a17 ?l17 ?c17 ?k17 ?a18 ?l18 ?c18 ?k18 ?a19 ?l19 ?c19 ?k19 ?a20 ?l20 ?c20 ?k20 ?tc20 ?tv20 ?tn20 ?tr20 ?a21 ?l21 ?c21 ?k21 ?a22 ?l22 ?c22 ?k22 ?tc22 ?tv22 ?tn22 ?tr22 ?a23 ?l23 ?c23 ?k23 ?tc23 ?tv23 ?tn23 ?tr23 ?a24 ?l24 ?c24 ?k24 ?a25 ?l25 ?c25 ?k25 ?a26 ?l26 ?c26 ?k26 ?a27 ?l27 ?c27 ?k27 ?a28 ?l28 ?c28 ?k28 ?a29 ?l29 ?c29 ?k29 ?a30 ?l30 ?c30 ?k30 ?a31 ?l31 ?c31 ?k31 ?a32 ?l32 ?c32 ?k32 ?a33 ?l33 ?c33 ?k33 ?a34 ?l34 ?c34 ?k34 ?a35 ?l35 ?c35 ?k35 ?a36 ?l36 ?c36 ?k36 ?a37 ?l37 ?c37 ?k37 ?a38 ?l38 ?c38 ?k38 ?z0 ?z1 ?z2 ?z3 ?z4 ?z5 ?z6 ?z7 ?z8 ?z9 ?z10 ?z11 ?z12 ?tne_coming_latest ?tne_coming_through ?tne_latest_coming ?tne_latest_through ?tne_through_coming ?tne_through_latest ?ga0_ ?gl0_
  (case a0=>k_is)
  (case l0=>k_is)
  (case c0=>k_is)
  (case k0=>k_is)
  (case a1=>k_is)
  (case l1=>k_is)
  (case c1=>k_is)
  (case k1=>k_is)
  (case a2=>k_is)
  (case l2=>k_is)
  (case c2=>k_is)
  (case k2=>k_is)
  (case a3=>k_is)
  (case l3=>k_is)
  (case c3=>k_is)
  (case k3=>k_is)
  (case a4=>k_is)
  (case l4=>k_is)
  (case c4=>k_is)
  (case k4=>k_is)
  (case a5=>k_is)
  (case l5=>k_is)
  (case c5=>k_is)
  (case k5=>k_is)
  (case a6=>k_is)
  (case l6=>k_is)
  (case c6=>k_is)
  (case k6=>k_is)
  (case a7=>k_is)
  (case l7=>k_is)
  (case c7=>k_is)
  (case k7=>k_is)
  (case a8=>k_is)
  (case l8=>k_is)
  (case c8=>k_is)
  (case k8=>k_is)
  (case a9=>k_is)
  (case l9=>k_is)
  (case c9=>k_is)
  (case k9=>k_is)
  (case a10=>k_is)
  (case l10=>k_is)
  (case c10=>k_is)
  (case k10=>k_is)
  (case a11=>k_is)
  (case l11=>k_is)
  (case c11=>k_is)
  (case k11=>k_is)
  (case a12=>k_is)
  (case l12=>k_is)
  (case c12=>k_is)
  (case k12=>k_is)
  (case a13=>k_is)
  (case l13=>k_is)
  (case c13=>k_is)
  (case k13=>k_is)
  (case a14=>k_is)
  (case l14=>k_is)
  (case c14=>k_is)
  (case k14=>k_is)
  (case a15=>k_is)
  (case l15=>k_is)
  (case c15=>k_is)
  (case k15=>k_is)
  (case a16=>k_is)
  (case l16=>k_is)
  (case c16=>k_is)
  (case k16=>k_is)
  (case a17=>k_is)
  (case l17=>k_is)
  (case c17=>k_is)
  (case k17=>k_is)
  (case a18=>k_is)
  (case l18=>k_is)
  (case c18=>k_is)
  (case k18=>k_is)
  (case a19=>k_is)
  (case l19=>k_is)
  (case c19=>k_is)
  (case k19=>k_is)
  (case a20=>k_is)
  (case l20=>k_is)
  (case c20=>k_is)
  (case k20=>k_is)
  (case tc20=>k_is)
  (case tv20=>rfl)
  (case tn20=>rfl)
  (case tr20=>rfl)
  (case a21=>k_is)
  (case l21=>k_is)
  (case c21=>k_is)
  (case k21=>k_is)
  (case a22=>k_is)
  (case l22=>k_is)
  (case c22=>k_is)
  (case k22=>k_is)
  (case tc22=>k_is)
  (case tv22=>rfl)
  (case tn22=>rfl)
  (case tr22=>rfl)
  (case a23=>k_is)
  (case l23=>k_is)
  (case c23=>k_is)
  (case k23=>k_is)
  (case tc23=>k_is)
  (case tv23=>rfl)
  (case tn23=>rfl)
  (case tr23=>rfl)
  (case a24=>k_is)
  (case l24=>k_is)
  (case c24=>k_is)
  (case k24=>k_is)
  (case a25=>k_is)
  (case l25=>k_is)
  (case c25=>k_is)
  (case k25=>k_is)
  (case a26=>k_is)
  (case l26=>k_is)
  (case c26=>k_is)
  (case k26=>k_is)
  (case a27=>k_is)
  (case l27=>k_is)
  (case c27=>k_is)
  (case k27=>k_is)
  (case a28=>k_is)
  (case l28=>k_is)
  (case c28=>k_is)
  (case k28=>k_is)
  (case a29=>k_is)
  (case l29=>k_is)
  (case c29=>k_is)
  (case k29=>k_is)
  (case a30=>k_is)
  (case l30=>k_is)
  (case c30=>k_is)
  (case k30=>k_is)
  (case a31=>k_is)
  (case l31=>k_is)
  (case c31=>k_is)
  (case k31=>k_is)
  (case a32=>k_is)
  (case l32=>k_is)
  (case c32=>k_is)
  (case k32=>k_is)
  (case a33=>k_is)
  (case l33=>k_is)
  (case c33=>k_is)
  (case k33=>k_is)
  (case a34=>k_is)
  (case l34=>k_is)
  (case c34=>k_is)
  (case k34=>k_is)
  (case a35=>k_is)
  (case l35=>k_is)
  (case c35=>k_is)
  (case k35=>k_is)
  (case a36=>k_is)
  (case l36=>k_is)
  (case c36=>k_is)
  (case k36=>k_is)
  (case a37=>k_is)
  (case l37=>k_is)
  (case c37=>k_is)
  (case k37=>k_is)
  (case a38=>k_is)
  (case l38=>k_is)
  (case c38=>k_is)
  (case k38=>k_is)
  (case z0=>k_is)
  (case z1=>k_is)
  (case z2=>k_is)
  (case z3=>k_is)
  (case z4=>k_is)
  (case z5=>k_is)
  (case z6=>k_is)
  (case z7=>k_is)
  (case z8=>k_is)
  (case z9=>k_is)
  (case z10=>k_is)
  (case z11=>k_is)
  (case z12=>k_is)
  (case tne_coming_latest=>decide)
  (case tne_coming_through=>decide)
  (case tne_latest_coming=>decide)
  (case tne_latest_through=>decide)
  (case tne_through_coming=>decide)
  (case tne_through_latest=>decide)
  (case ga0_=>k_is)
  (case gl0_=>k_is)
