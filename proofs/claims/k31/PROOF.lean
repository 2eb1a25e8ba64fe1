import PyProof.Rows.All
import Wide.All
import OpenK.AllK
import Wide.FinOn
import Lean
import PyProof.EqAt
import PyProof.EqKinds
import PyProof.TupleCall
import PyProof.FactsAll.set
import PyProof.DictWalks
import PyProof.CollectWalk
import PyProof.Rows.SetFrom
import PyProof.Rows.SortWalk
import KE.LcSums
import PySem.Challenge.RW_hourstairs_k31_offered_and_set_out
set_option genSizeOfSpec false
set_option Elab.async false
set_option linter.all false
set_option maxRecDepth 100000
namespace L2
open PySem PySem.Spec PyProof.Rows
noncomputable abbrev Key:=Sum Int Str
noncomputable def pJ:Key→Value→Bool
 | .inl k,v=>Value.isInt k v
 | .inr x,v=>Value.isStrOf x v
noncomputable def D6 (w:World):Key→Int
 | .inl k=>hashInt k
 | .inr x=>hashStr w x
theorem bc:∀ {k:Key} {v:Value},pJ k v=true→(∃i t,k=Sum.inl i∧v=Value.int i t)∨(∃x t,k=Sum.inr x∧v=Value.str x t)
 | .inl i,v,h=>by
  obtain ⟨t,e⟩:=Value.isInt_shape (k:=i) (v:=v) h
  exact .inl ⟨i,t,rfl,e⟩
 | .inr x,v,h=>by
  obtain ⟨t,e⟩:=Value.isStrOf_shape (x:=x) (v:=v) h
  exact .inr ⟨x,t,rfl,e⟩
theorem xm (i:Int) (t:Tok):pJ (.inl i) (.int i t)=true:=by simp [pJ,Value.isInt]
theorem wP (x:Str) (t:Tok):pJ (.inr x) (.str x t)=true:=by simp [pJ,Value.isStrOf]
theorem Cv (a b:Int):decide ((Sum.inl a:Key)=Sum.inl b)=(a == b):=by
 by_cases e:a=b
 ·subst e;simp
 ·have h:¬(Sum.inl a:Key)=Sum.inl b:=fun q=>e (Sum.inl.inj q)
  rw [decide_eq_false h]
  exact (beq_eq_false_iff_ne.mpr e).symm
theorem BR (a b:Str):decide ((Sum.inr a:Key)=Sum.inr b)=decide (a=b):=by
 by_cases e:a=b
 ·subst e;simp
 ·have h:¬(Sum.inr a:Key)=Sum.inr b:=fun q=>e (Sum.inr.inj q)
  rw [decide_eq_false h,decide_eq_false e]
theorem BO (a:Int) (b:Str):decide ((Sum.inl a:Key)=Sum.inr b)=false:=decide_eq_false (fun q=>nomatch q)
theorem CD (a:Str) (b:Int):decide ((Sum.inr a:Key)=Sum.inl b)=false:=decide_eq_false (fun q=>nomatch q)
noncomputable def bG (prog:Program) (w:World):PySem.KeyKind prog w Key where
 is:=pJ
 hash:=D6 w
 inj:=fun v a b ha hb=>by
  rcases bc ha with ⟨i,t,rfl,rfl⟩|⟨x,t,rfl,rfl⟩
  ·rcases bc hb with ⟨j,u,rfl,e⟩|⟨y,u,rfl,e⟩
   ·injection e with e1 _;rw [e1]
   ·exact nomatch e
  ·rcases bc hb with ⟨j,u,rfl,e⟩|⟨y,u,rfl,e⟩
   ·exact nomatch e
   ·injection e with e1 _;rw [e1]
 byValue:=fun k v h=>by
  rcases bc h with ⟨i,t,rfl,rfl⟩|⟨x,t,rfl,rfl⟩ <;> rfl
 pyHash:=fun hv h=>by
  rcases bc hv with ⟨i,t,rfl,rfl⟩|⟨x,t,rfl,rfl⟩
  ·exact wpAny_pyHash_int h
  ·exact wpAny_pyHash_str h
 eqBool:=fun hu hv h=>by
  rcases bc hu with ⟨i,t,rfl,rfl⟩|⟨x,t,rfl,rfl⟩
  ·rcases bc hv with ⟨j,u,rfl,rfl⟩|⟨y,u,rfl,rfl⟩
   ·rw [Cv] at h;exact wpAny_eqBool_int h
   ·rw [BO] at h;exact SeqAt.EqAt.int_str i t y u _ _ _ _ h
  ·rcases bc hv with ⟨j,u,rfl,rfl⟩|⟨y,u,rfl,rfl⟩
   ·rw [CD] at h;exact SeqAt.EqAt.str_int x t j u _ _ _ _ h
   ·rw [BR] at h;exact wpAny_eqBool_str h
 «strs»:=fun k x t v h=>by
  rcases bc h with ⟨i,u,rfl,e⟩|⟨y,u,rfl,e⟩
  ·exact nomatch e
  ·injection e with e1 _
   subst e1
   cases v <;> rfl
theorem tY (prog:Program) (w:World) (i:Int) (t:Tok):(bG prog w).is (.inl i) (.int i t)=true:=xm i t
theorem uf (prog:Program) (w:World) (x:Str) (t:Tok):(bG prog w).is (.inr x) (.str x t)=true:=wP x t
end L2
namespace L2
open PySem PySem.Spec PyProof.Rows
inductive V where
 | non|bl (b:Bool)|int (i:Int)|str (x:Str)|byt (b:Array UInt8)|flt (b:UInt64)|ref (a:Addr)|ty (n:String)
 deriving DecidableEq
noncomputable def RelV:V→Value→Prop
 | .non,u=>u=Value.none
 | .bl b,u=>u=Value.bool b
 | .int i,u=>∃t,u=Value.int i t
 | .str x,u=>∃t,u=Value.str x t
 | .byt b,u=>∃t,u=Value.bytes b t
 | .flt b,u=>∃t,u=Value.float b t
 | .ref a,u=>u=Value.ref a
 | .ty n,u=>u=Value.type n
noncomputable abbrev Vals:List V→List Value→Prop:=Paired RelV
theorem Vals.length {xs:List V} {us:List Value} (r:Vals xs us):xs.length=us.length:=Paired.length r
theorem Vals.get:∀ {xs:List V} {us:List Value} {i:Nat} {x:V},Vals xs us→xs[i]?=some x→∃u,us[i]?=some u∧RelV x u
 | _,_,_,_,.nil,e=>by simp at e
 | _,_,0,_,.cons r _,e=>by simp at e;subst e;exact ⟨_,rfl,r⟩
 | _,_,i+1,x,.cons _ t,e=>by
  obtain ⟨u,h1,h2⟩:=Vals.get (i:=i) (x:=x) t (by simpa using e)
  exact ⟨u,by simpa using h1,h2⟩
theorem Vals.set {x:V} {u:Value} (r:RelV x u):∀ {xs:List V} {us:List Value} (i:Nat),Vals xs us→Vals (xs.set i x) (us.set i u)
 | _,_,_,.nil=>.nil
 | _,_,0,.cons _ t=>.cons r t
 | _,_,i+1,.cons q t=>.cons q (Vals.set r i t)
theorem Vals.append:∀ {xs ys:List V} {us ws:List Value},Vals xs us→Vals ys ws→Vals (xs++ys) (us++ws)
 | _,_,_,_,.nil,s=>s
 | _,_,_,_,.cons r t,s=>.cons r (Vals.append t s)
theorem Vals.take:∀ {xs:List V} {us:List Value} (n:Nat),Vals xs us→Vals (xs.take n) (us.take n)
 | _,_,0,_=>.nil
 | _,_,_+1,.nil=>.nil
 | _,_,n+1,.cons r t=>.cons r (Vals.take n t)
theorem Vals.drop:∀ {xs:List V} {us:List Value} (n:Nat),Vals xs us→Vals (xs.drop n) (us.drop n)
 | _,_,0,r=>r
 | _,_,_+1,.nil=>.nil
 | _,_,n+1,.cons _ t=>Vals.drop n t
noncomputable def RelO:Option V→Option Value→Prop
 | some v,some u=>RelV v u
 | none,none=>True
 | _,_=>False
noncomputable def KV {κ:Type}:List (κ × V)→List (κ × Value)→Prop:=Paired fun (p:κ × V) (q:κ × Value)=>p.1=q.1∧RelV p.2 q.2
noncomputable def kV:Key→V
 | .inl i=>.int i
 | .inr x=>.str x
inductive HO where
 | lst (xs:List V)
 | tup (xs:List V)
 | dK (kvs:List (Key × V))|dT (kvs:List (List Key × V))
 | set (S:Int→Bool) (n:Nat)
 | ins (C dx:Addr) (fs:List (Str × V))
 | own (x:Addr)
 | xd (fs:List (Str × V))
 | met (f x:Addr)
 | rng (lo hi:Int)
 | frz (o:Obj) (u:HO)
 | tbl (ps:Array Value)
 | ext (φ:Heap→Prop)
noncomputable abbrev Hp:=Addr→Option HO
noncomputable def upd (H:Hp) (a:Addr) (o:HO):Hp:=fun b=>if b=a then some o else H b
theorem bB {H:Hp} {a:Addr} {o:HO}:upd H a o a=some o:=by unfold upd;rw [if_pos rfl]
theorem af {H:Hp} {a b:Addr} {o:HO} (h:b≠a):upd H a o b=H b:=by unfold upd;rw [if_neg h]
theorem Dp {H:Hp} {a b:Addr} {o u:HO} (h:H a=some o) (h':H b=some u) (d:o≠u):a≠b:=by
 intro e;subst e;rw [h] at h';exact d (Option.some.inj h')
theorem av {H:Hp} {a b:Addr} {o:HO} (h:H a=some o) (h':H b=none):a≠b:=by
 intro e;subst e;rw [h] at h';cases h'
section
variable (P:Program) (w:World)
noncomputable def ObjOk (H:Hp) (h:Heap) (a:Addr):HO→Prop
 | .lst xs=>xs.length≤sizeLine∧∃(its:List Value) (n:Nat),Vals xs its∧h.get? a=some { cls:=.type "list",data:=.seq its.toArray n }
 | .tup xs=>xs.length≤sizeLine∧∃its:List Value,Vals xs its∧IsTup h a its.toArray
 | .dK kvs=>kvs.length≤sizeLine∧(a == sysModules)=false∧∃vs,KV kvs vs∧h.DictOf (bG P w) a vs
 | .dT kvs=>kvs.length≤sizeLine∧(a == sysModules)=false∧∃xs:List (List Key × Addr × Value),
   Paired (fun (p:List Key × V) (q:List Key × Addr × Value)=>p.1=q.1∧H q.2.1=some (.tup (p.1.map kV))∧RelV p.2 q.2.2) kvs xs ∧
   ∃o es ep,h.get? a=some o∧o.ExactDict∧o.data=.dict es ep∧es.toList=xs.map (entryOfKey (tupleKind (bG P w)))∧(xs.map (·.1)).Nodup
 | .set S n=>h.SetOf (intKind P w) a S n
 | .ins C dx fs=>H dx=some (.own a)∧fs.length≤1000∧dx≠a∧h.get? a=some (PySem.W.instObj C dx) ∧
   ∃mA,h.Ns1 dx mA∧(∀f,RelO (fs.lookup f) (mA f))∧PySem.Within mA (fs.map (·.1))
 | .own _=>∃o,h.get? a=some o
 | .xd fs=>∃mA,h.Ns1 a mA∧∀f,RelO (fs.lookup f) (mA f)
 | .rng lo hi=>∃t u v,h.get? a=some { cls:=.type "range",data:=.fields #[.int lo t,.int hi u,.int 1 v] }
 | .frz o u=>h.get? a=some o∧ObjOk H h a u
 | .tbl ps=>h.get? a=some { cls:=.none,data:=.fields ps }
 | .met f x=>h.get? a=some (PySem.W.methodObj (.ref f) (.ref x))
 | .ext φ=>φ h∧(∃o,h.get? a=some o)∧∀h1 h2:Heap,φ h1→(∀o,h1.get? a=some o→h2.get? a=some o)→φ h2
noncomputable def HOk (H:Hp) (h:Heap):Prop:=∀a o,H a=some o→ObjOk P w H h a o
end
section
variable {P:Program} {w:World} {H H':Hp} {h h':Heap} {a:Addr} {o:HO}
theorem ObjOk.lt (x:ObjOk P w H h a o):a<h.objs.size:=by
 cases o with
 | lst xs=>obtain ⟨_,_,_,_,e⟩:=x;exact Heap.lt_size e
 | tup xs=>obtain ⟨_,_,_,p⟩:=x;exact p.lt
 | dK kvs=>obtain ⟨_,_,_,_,o,_,_,e,_⟩:=x;exact Heap.lt_size e
 | dT kvs=>obtain ⟨_,_,_,_,o,_,_,e,_⟩:=x;exact Heap.lt_size e
 | set S n=>obtain ⟨o,_,_,_,e,_⟩:=x;exact Heap.lt_size e
 | ins C dx fs=>obtain ⟨_,_,_,e,_⟩:=x;exact Heap.lt_size e
 | own y=>obtain ⟨_,e⟩:=x;exact Heap.lt_size e
 | xd fs=>obtain ⟨_,⟨_,_,_,e,_⟩,_⟩:=x;exact Heap.lt_size e
 | rng lo hi=>obtain ⟨_,_,_,e⟩:=x;exact Heap.lt_size e
 | frz ob u=>obtain ⟨e,_⟩:=x;exact Heap.lt_size e
 | tbl ps=>exact Heap.lt_size (show h.get? a=some _ from x)
 | met f y=>exact Heap.lt_size (show h.get? a=some _ from x)
 | ext φ=>obtain ⟨_,⟨_,e⟩,_⟩:=x;exact Heap.lt_size e
theorem Paired.mapP {α β:Type} {F G:α→β→Prop}:∀ {l₁:List α} {l₂:List β},Paired F l₁ l₂→(∀a b,F a b→G a b)→Paired G l₁ l₂
 | _,_,.nil,_=>.nil
 | _,_,.cons r t,f=>.cons (f _ _ r) (Paired.mapP t f)
theorem ObjOk.stay (x:ObjOk P w H h a o) (k:∀b u,(b=a∨H b=some (.own a))→h.get? b=some u→h'.get? b=some u)
  (ho:∀b,H b=some (.own a)→H' b=some (.own a)) (ht:∀b xs,H b=some (.tup xs)→H' b=some (.tup xs)):ObjOk P w H' h' a o:=by
 induction o with
 | lst xs=>obtain ⟨z,its,n,r,e⟩:=x;exact ⟨z,its,n,r,k _ _ (.inl rfl) e⟩
 | tup xs=>obtain ⟨z,its,r,ob,e,c⟩:=x;exact ⟨z,its,r,ob,k _ _ (.inl rfl) e,c⟩
 | dK kvs=>obtain ⟨z,y,vs,r,ob,es,ep,e,c⟩:=x;exact ⟨z,y,vs,r,ob,es,ep,k _ _ (.inl rfl) e,c⟩
 | dT kvs =>
  obtain ⟨z,y,xs,r,ob,es,ep,e,c⟩:=x
  exact ⟨z,y,xs,Paired.mapP r fun p q z=>⟨z.1,ht _ _ z.2.1,z.2.2⟩,ob,es,ep,k _ _ (.inl rfl) e,c⟩
 | set S n=>obtain ⟨ob,es,ep,t,e,c⟩:=x;exact ⟨ob,es,ep,t,k _ _ (.inl rfl) e,c⟩
 | ins C dx fs =>
  obtain ⟨d,z,ne,e,mA,⟨od,es,ep,e2,c⟩,r⟩:=x
  exact ⟨ho _ d,z,ne,k _ _ (.inl rfl) e,mA,⟨od,es,ep,k _ _ (.inr d) e2,c⟩,r⟩
 | own y=>obtain ⟨ob,e⟩:=x;exact ⟨ob,k _ _ (.inl rfl) e⟩
 | xd fs=>obtain ⟨mA,⟨od,es,ep,e,c⟩,r⟩:=x;exact ⟨mA,⟨od,es,ep,k _ _ (.inl rfl) e,c⟩,r⟩
 | rng lo hi=>obtain ⟨t,u,v,e⟩:=x;exact ⟨t,u,v,k _ _ (.inl rfl) e⟩
 | frz ob u ih=>obtain ⟨e,q⟩:=x;exact ⟨k _ _ (.inl rfl) e,ih q⟩
 | tbl ps =>
  have e:h.get? a=some { cls:=.none,data:=.fields ps }:=x
  show h'.get? a=some { cls:=.none,data:=.fields ps }
  exact k a _ (.inl rfl) e
 | met f y =>
  have e:h.get? a=some (PySem.W.methodObj (.ref f) (.ref y)):=x
  show h'.get? a=some (PySem.W.methodObj (.ref f) (.ref y))
  exact k a _ (.inl rfl) e
 | ext φ=>obtain ⟨p,⟨o,e⟩,st⟩:=x;exact ⟨st _ _ p fun o q=>k _ _ (.inl rfl) q,⟨o,k _ _ (.inl rfl) e⟩,st⟩
theorem HOk.lt (x:HOk P w H h) (e:H a=some o):a<h.objs.size:=(x a o e).lt
theorem HOk.fresh (x:HOk P w H h) (e:h.objs.size≤a):H a=none:=by
 cases q:H a with
 | none=>rfl
 | some u=>exact absurd (Nat.lt_of_lt_of_le (x.lt q) e) (Nat.lt_irrefl _)
theorem HOk.kept (x:HOk P w H h) (k:∀b u,h.get? b=some u→h'.get? b=some u):HOk P w H h':=fun a o e =>
 (x a o e).stay (fun b u _ q=>k b u q) (fun _ q=>q) fun _ _ q=>q
theorem HOk.laid (x:HOk P w H h) (k:∀b u,h.get? b=some u→h'.get? b=some u) (hp:h.objs.size≤a) (new:ObjOk P w (upd H a o) h' a o):HOk P w (upd H a o) h':=fun b u e=>by
 have hn:=x.fresh hp
 by_cases hb:b=a
 ·subst hb;rw [bB] at e;cases e;exact new
 ·rw [af hb] at e
  exact (x b u e).stay (fun c v _ q=>k c v q) (fun c q=>by rw [af (av q hn)];exact q) fun c xs q=>by rw [af (av q hn)];exact q
end
noncomputable def Rd (H:Hp) (a:Addr) (u:HO):Prop:=H a=some u∨∃o,H a=some (.frz o u)
theorem Rd.ok {P:Program} {w:World} {H:Hp} {h:Heap} {a:Addr} {u:HO} (r:Rd H a u) (x:HOk P w H h):ObjOk P w H h a u:=by
 rcases r with r|⟨o,r⟩
 ·exact x a u r
 ·obtain ⟨_,q⟩:=x a _ r
  exact q
noncomputable def Mut:Option HO→Prop
 | some (.lst _)=>True
 | some (.dK _)=>True
 | some (.dT _)=>True
 | some (.set _ _)=>True
 | some (.ins _ _ _)=>True
 | some (.ext _)=>True
 | _=>False
section
variable {P:Program} {w:World} {H:Hp} {h h':Heap} {x e:Addr} {o':HO}
theorem HOk.write (ok:HOk P w H h) (mu:Mut (H x)) (he:e=x∨H e=some (.own x)) (k:∀b u,b≠e→h.get? b=some u→h'.get? b=some u) (heo:∃u,h'.get? e=some u)
  (new:ObjOk P w (upd H x o') h' x o'):HOk P w (upd H x o') h':=fun b u q=>by
 have nown:∀c y,H c=some (.own y)→c≠x:=fun c y r z=>by subst z;rw [r] at mu;exact mu
 have ntup:∀c xs,H c=some (.tup xs)→c≠x:=fun c xs r z=>by subst z;rw [r] at mu;exact mu
 by_cases hb:b=x
 ·subst hb;rw [bB] at q;cases q;exact new
 ·rw [af hb] at q
  by_cases hbe:b=e
  ·have q':H b=some (.own x):=by
    rcases he with z|z
    ·exact absurd (hbe.trans z) hb
    ·rw [hbe];exact z
   rw [q] at q';cases q'
   obtain ⟨v,hv⟩:=heo
   exact ⟨v,by rw [hbe];exact hv⟩
  ·refine (ok b u q).stay (fun c v hc r=>k c v ?_ r) (fun c r=>by rw [af (nown c b r)];exact r) fun c xs r=>by rw [af (ntup c xs r)];exact r
   rcases hc with rfl|hc
   ·exact hbe
   ·rintro rfl
    rcases he with z|z
    ·exact nown c b hc z
    ·rw [hc] at z;cases z;exact hb rfl
end
structure Un (fs ex:List Addr) (H H':Hp) (h h':Heap):Prop where
 keep:∀b o,h.get? b=some o→H b=none→b ∉ fs→b ∉ ex→h'.get? b=some o
 slot:∀b o,h.get? b=some o→H b=none→b∈fs→b ∉ ex→∃sl,h'.get? b=some { o with slots:=sl }
 free:∀b o,h.get? b=some o→H b=none→b ∉ ex→H' b=none
 there:∀b o,h.get? b=some o→b ∉ ex→∃o',h'.get? b=some o'
 tups:∀b xs,H b=some (.tup xs)→H' b=some (.tup xs)
 frzs:∀b o u,H b=some (.frz o u)→H' b=some (.frz o u)
 tbls:∀b ps,H b=some (.tbl ps)→∃more,H' b=some (.tbl (ps++more))
section
variable {fs fs' ex ex':List Addr} {H H1 H2:Hp} {h h1 h2 h':Heap} {a x e:Addr} {o:HO}
theorem Un.any (u:Un fs ex H H1 h h1) {b:Addr} {ob:Obj} (q:h.get? b=some ob) (n:H b=none) (hx:b ∉ ex):∃sl,h1.get? b=some { ob with slots:=sl }:=by
 by_cases hb:b∈fs
 ·exact u.slot b ob q n hb hx
 ·exact ⟨ob.slots,u.keep b ob q n hb hx⟩
theorem Un.kept (k:∀b u,h.get? b=some u→h'.get? b=some u):Un fs ex H H h h' :=
 ⟨fun b ob q _ _ _=>k b ob q,fun b ob q _ _ _=>⟨ob.slots,k b ob q⟩,fun _ _ _ n _=>n,fun b ob q _=>⟨ob,k b ob q⟩,fun _ _ q=>q,fun _ _ _ q=>q,fun _ ps q=>⟨#[],by rw [q];simp⟩⟩
theorem Un.refl:Un fs ex H H h h:=Un.kept fun _ _ q=>q
theorem Un.laid (k:∀b u,h.get? b=some u→h'.get? b=some u) (hp:h.objs.size≤a) (hn:H a=none):Un fs ex H (upd H a o) h h' where
 keep:=fun b u q _ _ _=>k b u q
 slot:=fun b u q _ _ _=>⟨u.slots,k b u q⟩
 free:=fun b u q n _=>by rw [af (Nat.ne_of_lt (Nat.lt_of_lt_of_le (Heap.lt_size q) hp))];exact n
 there:=fun b u q _=>⟨u,k b u q⟩
 tups:=fun b xs q=>by rw [af (av q hn)];exact q
 frzs:=fun b u xs q=>by rw [af (av q hn)];exact q
 tbls:=fun b ps q=>⟨#[],by rw [af (av q hn),q];simp⟩
theorem Un.write (mu:Mut (H x)) (he:e=x∨H e=some (.own x)) (k:∀b u,b≠e→h.get? b=some u→h'.get? b=some u) (heo:∃u,h'.get? e=some u):Un fs ex H (upd H x o) h h':=by
 have hx:∀b,H b=none→b≠x:=fun b n z=>by subst z;rw [n] at mu;exact mu
 have hb:∀b,H b=none→b≠e:=fun b n z=>by
  subst z
  rcases he with r|r
  ·exact hx b n r
  ·rw [n] at r;cases r
 have hm:∀b u,H b=some u→¬Mut (some u)→b≠x:=fun b u q nm z=>by subst z;rw [q] at mu;exact nm mu
 refine ⟨fun b u q n _ _=>k b u (hb b n) q,fun b u q n _ _=>⟨u.slots,k b u (hb b n) q⟩,fun b u q n _=>by rw [af (hx b n)];exact n,fun b u q _=>?_,
  fun b xs q=>by rw [af (hm b _ q fun z=>z)];exact q,fun b u xs q=>by rw [af (hm b _ q fun z=>z)];exact q,fun b ps q=>⟨#[],by rw [af (hm b _ q fun z=>z),q];simp⟩⟩
 by_cases hbe:b=e
 ·subst hbe;exact heo
 ·exact ⟨u,k b u hbe q⟩
end
noncomputable def trk (h:Heap) (H:Hp):List Addr:=(List.range h.objs.size).filter fun a=>(H a).isSome
noncomputable def pi (h:Heap) (H:Hp):Heap:=PySem.W.hideAll h (trk h H)
theorem w_ (h:Heap) (H:Hp):(pi h H).objs.size=h.objs.size:=PySem.W.hideAll_size _ _
theorem yq {h:Heap} {H:Hp} {b:Addr} {o:Obj} (e:h.get? b=some o) (n:H b=none):(pi h H).get? b=some o :=
 PySem.W.hideAll_get _ e fun hm=>by
  have q:(H b).isSome=true:=(List.mem_filter.mp hm).2
  rw [n] at q;simp at q
theorem AY {h:Heap} {H:Hp} {b:Addr} {o:Obj} (e:(pi h H).get? b=some o):h.get? b=some o∧H b=none:=by
 have e':h.get? b=some o:=PySem.W.of_hideAll (trk h H) e
 refine ⟨e',?_⟩
 cases q:H b with
 | none=>rfl
 | some x =>
  have hm:b∈trk h H:=List.mem_filter.mpr ⟨List.mem_range.mpr (Heap.lt_size e'),by simp [q]⟩
  have z:(pi h H).get? b=none:=PySem.W.hideAll_none (trk h H) hm
  rw [z] at e;cases e
end L2
namespace L2
open PySem PySem.Spec PyProof.Rows
structure Mod (K:PySem.W.Frag) (mg:Str→Option Value) (base:Heap):Prop where
 kin:K.In base
 glob:base.Ns mainGlobals mg
 blt:∃mb,base.Ns builtinsNs mb∧∀x:Str,x≠"__name__"→mb x=bootBuiltins x
 nolimit:base.NoLimit
structure Cx where
 prog:Program
 w:World
 K:PySem.W.Frag
 mg:Str→Option Value
 base:Heap
 A:Around
 N:List Str
 s₀:Shared
 H₀:Hp
 env:Env
 outer:List Env
 stack:List Env
 ex:List Addr
 fn:Str→Bool
 calm:Bool
 pn:List (Addr × Obj)
 xe:Value→Shared→Prop
noncomputable def frs (l:List Env):List Addr:=l.filterMap (·.frame)
noncomputable abbrev Cx.fs (X:Cx):List Addr:=frs X.outer
noncomputable def Vis (sc:Scope) (x:Str):Prop:=sc.names.lookup x=some .local∨sc.names.lookup x=some .cell∨sc.names.lookup x=some .free
noncomputable def Loc (sc:Scope) (x:Str):Prop:=sc.names.lookup x=some .local∨sc.names.lookup x=some .cell
noncomputable def D0 (env:Env) (h:Heap) (m:Str→Option Value) (x:Str) (u:Value):Prop :=
 (env.kindOf x=some .local∧m x=some u)∨((env.kindOf x=some .cell∨env.kindOf x=some .free)∧∃c,env.cells.lookup x=some c∧h.IsCell c (some u))
structure Cx.Ok (X:Cx):Prop where
 mod:Mod X.K X.mg X.base
 kind:X.env.scope.kind=.function
 glob:X.env.globals=mainGlobals
 blt:X.env.builtins=builtinsNs
 above:X.s₀.heap.objs.size≤X.env.locals
 inj:∀x y c,X.env.cells.lookup x=some c→X.env.cells.lookup y=some c→x=y
 has:∀x,(X.env.kindOf x=some .cell∨X.env.kindOf x=some .free)→∃c,X.env.cells.lookup x=some c
 cab:∀x c,X.fn x=true→X.env.cells.lookup x=some c→X.s₀.heap.objs.size≤c
 hd:X.calm=true→X.A.handled=none
 frames:X.A.frames=some X.stack
 stk:X.stack=X.outer∨(X.stack=X.env::X.outer∧X.env.frame=some X.env.locals)
 exf:∀b∈X.ex,b≠X.env.locals∧∀x c,X.env.cells.lookup x=some c→c≠b
 bs:∀b o,X.base.get? b=some o→X.s₀.heap.get? b=some o∧X.H₀ b=none
 bsz:X.base.objs.size≤X.s₀.heap.objs.size
 noex:∀b o,X.base.get? b=some o→b ∉ X.ex
 exfs:∀b∈X.ex,b ∉ X.fs
 funs:X.s₀.heap.FunFrames X.base X.outer
 frf:∀b∈X.fs,X.H₀ b=none
structure Inv (X:Cx) (pins:List (Addr × Obj)) (σ:List (Option V)) (H:Hp) (s:Shared):Prop where
 ok:X.Ok
 os:s.os=X.s₀.os
 bare:AllBare s.gens
 base:Un X.fs X.ex X.H₀ H X.s₀.heap s.heap
 loc:∃m,s.heap.Ns X.env.locals m∧∀(i:Nat) (x:Str) (v:V),X.N[i]?=some x→σ[i]?=some (some v)→Vis X.env.scope x→∃u,RelV v u∧D0 X.env s.heap m x u
 cell:∀x c,X.env.cells.lookup x=some c→∃v,s.heap.IsCell c v
 free:H X.env.locals=none
 freeC:∀x c,X.env.cells.lookup x=some c→H c=none
 pin:∀p∈X.pn++pins,s.heap.get? p.1=some p.2∧H p.1=none∧p.1≠X.env.locals∧p.1 ∉ X.fs∧∀v,p.2.data≠.cell v
 hok:HOk X.prog X.w H s.heap
 len:σ.length=X.N.length
section
variable {X:Cx} {pins:List (Addr × Obj)} {σ:List (Option V)} {H H':Hp} {s:Shared} {h':Heap}
theorem Cx.Ok.nofr (ok:X.Ok) {b:Addr} {o:Obj} (e:X.base.get? b=some o):b ∉ X.fs:=fun hb=>by
 have:=(ok.funs.mem hb).1
 rw [e] at this;cases this
theorem Inv.bs (I:Inv X pins σ H s):∀b o,X.base.get? b=some o→s.heap.get? b=some o∧H b=none:=fun b o e =>
 ⟨I.base.keep b o (I.ok.bs b o e).1 (I.ok.bs b o e).2 (I.ok.nofr e) (I.ok.noex b o e),I.base.free b o (I.ok.bs b o e).1 (I.ok.bs b o e).2 (I.ok.noex b o e)⟩
theorem Inv.bk (I:Inv X pins σ H s):∀b o,X.base.get? b=some o→s.heap.get? b=some o:=fun b o e=>(I.bs b o e).1
theorem Inv.mod (I:Inv X pins σ H s):Mod X.K X.mg X.base:=I.ok.mod
theorem Inv.kIn (I:Inv X pins σ H s):X.K.In s.heap:=I.ok.mod.kin.keeps I.bk
theorem Inv.lt (I:Inv X pins σ H s):X.env.locals<s.heap.objs.size:=let ⟨_,hn,_⟩:=I.loc;hn.lt
theorem Inv.sz (I:Inv X pins σ H s):X.s₀.heap.objs.size≤s.heap.objs.size:=Nat.le_trans I.ok.above (Nat.le_of_lt I.lt)
theorem Inv.nofs (I:Inv X pins σ H s) {a:Addr} (h:s.heap.objs.size≤a):a ∉ X.fs:=fun hb=>by
 obtain ⟨_,o,ho,_⟩:=I.ok.funs.mem hb
 exact absurd (Nat.lt_of_lt_of_le (Heap.lt_size ho) (Nat.le_trans I.sz h)) (Nat.lt_irrefl _)
theorem Inv.cne (I:Inv X pins σ H s):∀x c,X.env.cells.lookup x=some c→c≠X.env.locals:=fun x c e z=>by
 obtain ⟨v,o,ho,hd⟩:=I.cell x c e
 obtain ⟨m,⟨o',es,ep,ho',hd',_⟩,_⟩:=I.loc
 rw [z,ho'] at ho;cases ho;rw [hd'] at hd;cases hd
theorem Inv.funs (I:Inv X pins σ H s):s.heap.FunFrames X.base X.outer:=by
 have all:∀(l:List Env),(∀b∈frs l,b∈X.fs)→X.s₀.heap.FunFrames X.base l→s.heap.FunFrames X.base l:=by
  intro l
  induction l with
  | nil=>intro _ _;trivial
  | cons env r ih =>
   intro hs hl
   obtain ⟨hk,⟨L,o,hf,hn,ho,hd⟩,hr⟩:=hl
   have hL:L∈X.fs:=hs L (by unfold frs;rw [List.filterMap_cons,hf];exact List.mem_cons_self)
   obtain ⟨sl,e⟩:=I.base.slot L o ho (I.ok.frf L hL) hL fun z=>I.ok.exfs L z hL
   exact ⟨hk,⟨L,_,hf,hn,e,hd⟩,ih (fun b hb=>hs b (by unfold frs;rw [List.filterMap_cons,hf];exact List.mem_cons_of_mem _ hb)) hr⟩
 exact all X.outer (fun _ hb=>hb) I.ok.funs
theorem Inv.stack (I:Inv X pins σ H s):s.heap.FunFrames X.base X.stack:=by
 rcases I.ok.stk with e|⟨e,hf⟩
 ·rw [e];exact I.funs
 ·rw [e]
  obtain ⟨m,hn,_⟩:=I.loc
  refine .cons (by rw [I.ok.kind];decide) hf hn ?_ I.funs
  exact Heap.get?_none_of_le (Nat.le_trans I.ok.bsz I.ok.above)
theorem Inv.stkSub (I:Inv X pins σ H s):∀b∈frs X.stack,b∈X.env.locals::X.fs:=fun b hb=>by
 rcases I.ok.stk with e|⟨e,hf⟩
 ·rw [e] at hb;exact List.mem_cons_of_mem _ hb
 ·rw [e] at hb
  unfold frs at hb
  rw [List.filterMap_cons,hf] at hb
  exact hb
theorem Inv.stkFree (I:Inv X pins σ H s):∀b∈frs X.stack,H b=none:=fun b hb=>by
 rcases List.mem_cons.mp (I.stkSub b hb) with e|hb
 ·rw [e];exact I.free
 ·obtain ⟨_,o,ho,_⟩:=I.ok.funs.mem hb
  exact I.base.free b o ho (I.ok.frf b hb) fun z=>I.ok.exfs b z hb
theorem Inv.step {g':Array GenState} {t':Nat} {d':Drawn} {ch:List Addr} (I:Inv X pins σ H s)
  (hch:∀b∈ch,(b∈X.ex∨X.s₀.heap.objs.size≤b)∧b≠X.env.locals∧(∀x c,X.env.cells.lookup x=some c→c≠b)∧∀p∈X.pn++pins,p.1≠b)
  (keep:∀b o,b≠X.env.locals→b ∉ X.fs→b ∉ ch→s.heap.get? b=some o→H b=none→h'.get? b=some o)
  (slot:∀b o,b≠X.env.locals→b∈X.fs→b ∉ ch→s.heap.get? b=some o→H b=none→∃sl,h'.get? b=some { o with slots:=sl }) (free:∀b o,b ∉ ch→s.heap.get? b=some o→H b=none→H' b=none)
  (there:∀b o,b ∉ ch→s.heap.get? b=some o→∃o',h'.get? b=some o')
  (tups:∀b xs,H b=some (.tup xs)→H' b=some (.tup xs)) (frzs:∀b o u,H b=some (.frz o u)→H' b=some (.frz o u)) (tbls:∀b ps,H b=some (.tbl ps)→∃more,H' b=some (.tbl (ps++more)))
  (ns:∀m,s.heap.Ns X.env.locals m→h'.Ns X.env.locals m) (hok:HOk X.prog X.w H' h') (hg:AllBare g') :
  Inv X pins σ H' { s with heap:=h',gens:=g',drawn:=d',toks:=t' }:=by
 have neL:∀b o,X.s₀.heap.get? b=some o→b≠X.env.locals:=fun b o e=>Nat.ne_of_lt (Nat.lt_of_lt_of_le (Heap.lt_size e) I.ok.above)
 have neC:∀b o,X.s₀.heap.get? b=some o→b ∉ X.ex→b ∉ ch:=fun b o e hx hb=>by
  rcases (hch b hb).1 with z|z
  ·exact hx z
  ·exact absurd (Nat.lt_of_lt_of_le (Heap.lt_size e) z) (Nat.lt_irrefl _)
 have cellK:∀x c,X.env.cells.lookup x=some c→∀v,s.heap.IsCell c v→h'.IsCell c v:=fun x c e v ⟨o,ho,hd⟩=>by
  have nch:c ∉ ch:=fun z=>(hch c z).2.2.1 x c e rfl
  by_cases hc:c∈X.fs
  ·obtain ⟨sl,q⟩:=slot c o (I.cne x c e) hc nch ho (I.freeC x c e)
   exact ⟨_,q,hd⟩
  ·exact ⟨o,keep c o (I.cne x c e) hc nch ho (I.freeC x c e),hd⟩
 refine ⟨I.ok,I.os,hg,⟨fun b o e n hb hx=>?_,fun b o e n hb hx=>?_,fun b o e n hx=>?_,fun b o e hx=>?_,fun b xs e=>tups b xs (I.base.tups b xs e),fun b o xs e=>frzs b o xs (I.base.frzs b o xs e),fun b ps e=>?_⟩,?_,fun x c e=>?_,?_,fun x c e=>?_,fun p hp=>?_,hok,I.len⟩
 ·exact keep b o (neL b o e) hb (neC b o e hx) (I.base.keep b o e n hb hx) (I.base.free b o e n hx)
 ·obtain ⟨sl,e1⟩:=I.base.slot b o e n hb hx
  obtain ⟨sl',e2⟩:=slot b _ (neL b o e) hb (neC b o e hx) e1 (I.base.free b o e n hx)
  exact ⟨sl',e2⟩
 ·obtain ⟨o',e1⟩:=I.base.there b o e hx
  exact free b o' (neC b o e hx) e1 (I.base.free b o e n hx)
 ·obtain ⟨o',e1⟩:=I.base.there b o e hx
  exact there b o' (neC b o e hx) e1
 ·obtain ⟨m1,e1⟩:=I.base.tbls b ps e
  obtain ⟨m2,e2⟩:=tbls b _ e1
  exact ⟨m1++m2,by rw [e2,Array.append_assoc]⟩
 ·obtain ⟨m,hn,hl⟩:=I.loc
  refine ⟨m,ns m hn,fun i x v e1 e2 e3=>?_⟩
  obtain ⟨u,r,l⟩:=hl i x v e1 e2 e3
  refine ⟨u,r,?_⟩
  rcases l with l|⟨k,c,e,z⟩
  ·exact .inl l
  ·exact .inr ⟨k,c,e,cellK x c e _ z⟩
 ·obtain ⟨v,z⟩:=I.cell x c e
  exact ⟨v,cellK x c e v z⟩
 ·obtain ⟨m,⟨o,_,_,ho,_⟩,_⟩:=I.loc
  exact free _ o (fun z=>(hch _ z).2.1 rfl) ho I.free
 ·obtain ⟨v,o,ho,hd⟩:=I.cell x c e
  exact free c o (fun z=>(hch c z).2.2.1 x c e rfl) ho (I.freeC x c e)
 ·obtain ⟨e,n,ne,nf,d⟩:=I.pin p hp
  have nch:p.1 ∉ ch:=fun z=>(hch p.1 z).2.2.2 p hp rfl
  exact ⟨keep p.1 p.2 ne nf nch e n,free p.1 p.2 nch e n,ne,nf,d⟩
theorem Inv.un {t':Nat} (I:Inv X pins σ H s) (u:Un X.fs [] H H' s.heap h') (hok:HOk X.prog X.w H' h'):Inv X pins σ H' { s with heap:=h',toks:=t' }:=by
 obtain ⟨m,⟨o,es,ep,ho,r⟩,_⟩:=id I.loc
 obtain ⟨sl,hL⟩:=u.any ho I.free (by simp)
 exact I.step (g':=s.gens) (d':=s.drawn) (ch:=[]) (fun _ z=>nomatch z) (fun b o _ hb _ e n=>u.keep b o e n hb (by simp)) (fun b o _ hb _ e n=>u.slot b o e n hb (by simp)) (fun b o _ e n=>u.free b o e n (by simp)) (fun b o _ e=>u.there b o e (by simp)) u.tups u.frzs u.tbls (fun m' hm=>by
  obtain ⟨o',es',ep',ho',r'⟩:=hm
  rw [ho] at ho';cases ho'
  exact ⟨_,es',ep',hL,r'⟩) hok I.bare
theorem Inv.call {g':Array GenState} {t':Nat} {d':Drawn} {ch:List Addr} (I:Inv X pins σ H s) (u:Un (frs X.stack) ch H H' s.heap h') (hok:HOk X.prog X.w H' h') (hg:AllBare g')
  (hch:∀b∈ch,(b∈X.ex∨X.s₀.heap.objs.size≤b)∧b≠X.env.locals∧(∀x c,X.env.cells.lookup x=some c→c≠b)∧∀p∈X.pn++pins,p.1≠b) :
  Inv X pins σ H' { s with heap:=h',gens:=g',drawn:=d',toks:=t' }:=by
 obtain ⟨m,⟨o,es,ep,ho,r⟩,_⟩:=id I.loc
 obtain ⟨sl,hL⟩:=u.any ho I.free fun z=>(hch _ z).2.1 rfl
 exact I.step (ch:=ch) hch (fun b o hL hb hc e n=>u.keep b o e n (fun z=>(List.mem_cons.mp (I.stkSub b z)).elim hL hb) hc) (fun b o _ _ hc e n=>u.any e n hc) (fun b o hc e n=>u.free b o e n hc) (fun b o hc e=>u.there b o e hc) u.tups u.frzs u.tbls (fun m' hm=>by
  obtain ⟨o',es',ep',ho',r'⟩:=hm
  rw [ho] at ho';cases ho'
  exact ⟨_,es',ep',hL,r'⟩) hok hg
theorem Inv.turned {t':Nat} {it:Addr} (I:Inv X pins σ H s) (k:∀b o,b≠it→s.heap.get? b=some o→h'.get? b=some o) (hn:H it=none) (hL:it≠X.env.locals)
  (h1:it∈X.ex∨X.s₀.heap.objs.size≤it) (h2:∀x c,X.env.cells.lookup x=some c→c≠it) (h3:∀p∈X.pn++pins,p.1≠it):Inv X pins σ H { s with heap:=h',toks:=t' }:=by
 have nit:∀b u,H b=some u→b≠it:=fun b u e z=>by rw [z,hn] at e;cases e
 refine I.step (g':=s.gens) (d':=s.drawn) (ch:=[it]) (fun b hb=>?_) (fun b o _ _ hc e _=>k b o (fun z=>hc (by simp [z])) e) (fun b o _ _ hc e _=>⟨o.slots,k b o (fun z=>hc (by simp [z])) e⟩) (fun _ _ _ _ n=>n)
  (fun b o hc e=>⟨o,k b o (fun z=>hc (by simp [z])) e⟩) (fun _ _ e=>e) (fun _ _ _ e=>e) (fun b ps e=>⟨#[],by rw [e];simp⟩) (fun m hm=>?_) (fun b u e=>?_) I.bare
 ·have e:b=it:=by simpa using hb
  subst e
  exact ⟨h1,hL,h2,h3⟩
 ·obtain ⟨o,es,ep,ho,r⟩:=hm
  exact ⟨o,es,ep,k _ o (Ne.symm hL) ho,r⟩
 ·refine (I.hok b u e).stay (fun c v hc q=>k c v ?_ q) (fun _ q=>q) fun _ _ q=>q
  rcases hc with z|z
  ·rw [z];exact nit b u e
  ·exact nit c _ z
theorem Inv.tok (I:Inv X pins σ H s) (t:Nat):Inv X pins σ H { s with toks:=t }:=I.un (h':=s.heap) (t':=t) Un.refl I.hok
theorem Inv.kept {t':Nat} (I:Inv X pins σ H s) (k:∀b u,s.heap.get? b=some u→h'.get? b=some u):Inv X pins σ H { s with heap:=h',toks:=t' }:=I.un (Un.kept k) (I.hok.kept k)
theorem Inv.laid {a:Addr} {o:HO} {t':Nat} (I:Inv X pins σ H s) (k:∀b u,s.heap.get? b=some u→h'.get? b=some u) (hp:s.heap.objs.size≤a) (new:ObjOk X.prog X.w (upd H a o) h' a o) :
  Inv X pins σ (upd H a o) { s with heap:=h',toks:=t' }:=I.un (Un.laid k hp (I.hok.fresh hp)) (I.hok.laid k hp new)
theorem Inv.write {x e:Addr} {o:HO} {t':Nat} (I:Inv X pins σ H s) (mu:Mut (H x)) (he:e=x∨H e=some (.own x)) (k:∀b u,b≠e→s.heap.get? b=some u→h'.get? b=some u) (heo:∃u,h'.get? e=some u)
  (new:ObjOk X.prog X.w (upd H x o) h' x o):Inv X pins σ (upd H x o) { s with heap:=h',toks:=t' }:=I.un (Un.write mu he k heo) (I.hok.write mu he k heo new)
theorem Inv.pins_of {pins':List (Addr × Obj)} (I:Inv X pins σ H s) (h:∀p∈pins',s.heap.get? p.1=some p.2∧H p.1=none∧p.1≠X.env.locals∧p.1 ∉ X.fs∧∀v,p.2.data≠.cell v):Inv X pins' σ H s :=
 ⟨I.ok,I.os,I.bare,I.base,I.loc,I.cell,I.free,I.freeC,fun p hp=>(List.mem_append.mp hp).elim (fun z=>I.pin p (List.mem_append_left _ z)) (h p),I.hok,I.len⟩
theorem uq {N:List Str} (hN:N.Nodup) {i j:Nat} {x:Str} (a:N[i]?=some x) (b:N[j]?=some x):i=j:=by
 obtain ⟨h1,e1⟩:=List.getElem?_eq_some_iff.mp a
 obtain ⟨h2,e2⟩:=List.getElem?_eq_some_iff.mp b
 exact (List.getElem_inj hN).mp (e1.trans e2.symm)
theorem pX {M:Model} {A:Around} {E:Value→Shared→Prop} {i:Nat} {x:Str} {v:V} {u:Value} {Q:Unit→Shared→Prop} (I:Inv X pins σ H s) (hN:X.N.Nodup) (hi:X.N[i]?=some x) (hx:Loc X.env.scope x) (r:RelV v u)
  (h:∀s',Inv X pins (σ.set i (some v)) H s'→(∃a,Heap.SameBut a s.heap s'.heap∧(a=X.env.locals∨X.env.cells.lookup x=some a))→Q () s') (hf:X.fn x=true∨X.env.scope.names.lookup x=some .local:=by first|exact .inl rfl|exact .inr rfl|assumption):wpAny M A (storeName X.env x u) Q E s:=by
 obtain ⟨m,hn,hl⟩:=id I.loc
 have hcls:(X.env.scope.kind == .class || (X.env.scope.kind == .module && X.env.locals != X.env.globals))=false:=by rw [I.ok.kind];rfl
 have hiσ:i<σ.length:=by rw [I.len];exact (List.getElem?_eq_some_iff.mp hi).1
 have cne:=I.cne
 have tracked:∀ {a:Addr} {h':Heap},(∃o,s.heap.get? a=some o∧H a=none)→Heap.SameBut a s.heap h'→HOk X.prog X.w H h':=fun {a h'} ha hs b ob e=>by
  obtain ⟨_,_,hfree⟩:=ha
  refine (I.hok b ob e).stay (fun c w' hc q=>(hs.2 c ?_).trans q) (fun _ q=>q) fun _ _ q=>q
  rintro rfl
  rcases hc with rfl|hc
  ·rw [hfree] at e;cases e
  ·rw [hfree] at hc;cases hc
 rcases hx with hk|hk
 ·refine wpAny_storeName_local hk hn (fun h' hn' hs=>?_) hcls
  obtain ⟨oL,_,_,hoL,_⟩:=id hn
  refine h _ ⟨I.ok,I.os,I.bare,⟨fun b o e n hb hx=>?_,fun b o e n hb hx=>?_,I.base.free,fun b o e hx=>?_,I.base.tups,I.base.frzs,I.base.tbls⟩,⟨_,hn',fun j y v' e1 e2 e3=>?_⟩,fun y c e=>?_,I.free,I.freeC,fun p hp=>?_,tracked ⟨oL,hoL,I.free⟩ hs,by simpa using I.len⟩ ⟨_,hs,.inl rfl⟩
  ·exact (hs.2 b (Nat.ne_of_lt (Nat.lt_of_lt_of_le (Heap.lt_size e) I.ok.above))).trans (I.base.keep b o e n hb hx)
  ·obtain ⟨sl,e1⟩:=I.base.slot b o e n hb hx
   exact ⟨sl,(hs.2 b (Nat.ne_of_lt (Nat.lt_of_lt_of_le (Heap.lt_size e) I.ok.above))).trans e1⟩
  ·obtain ⟨o',e1⟩:=I.base.there b o e hx
   exact ⟨o',(hs.2 b (Nat.ne_of_lt (Nat.lt_of_lt_of_le (Heap.lt_size e) I.ok.above))).trans e1⟩
  ·by_cases hj:j=i
   ·subst hj
    rw [hi] at e1;cases e1
    rw [List.getElem?_set_self hiσ] at e2
    cases e2
    exact ⟨u,r,.inl ⟨hk,by simp⟩⟩
   ·rw [List.getElem?_set_ne (Ne.symm hj)] at e2
    obtain ⟨u',r',q⟩:=hl j y v' e1 e2 e3
    refine ⟨u',r',?_⟩
    rcases q with ⟨k,e⟩|⟨k,c,e,z⟩
    ·refine .inl ⟨k,?_⟩
     have:y≠x:=fun e=>hj (uq hN e1 (e ▸ hi))
     simp [this,e]
    ·exact .inr ⟨k,c,e,z.sameBut hs (cne y c e)⟩
  ·obtain ⟨w',z⟩:=I.cell y c e
   exact ⟨w',z.sameBut hs (cne y c e)⟩
  ·obtain ⟨e,n,ne,nf,d⟩:=I.pin p hp
   exact ⟨(hs.2 p.1 ne).trans e,n,ne,nf,d⟩
 ·have hfn:X.fn x=true:=by
   rcases hf with z|z
   ·exact z
   ·rw [z] at hk;cases hk
  obtain ⟨c,hc⟩:=I.ok.has x (.inl hk)
  obtain ⟨w',z⟩:=I.cell x c hc
  refine wpAny_storeName_cell I.ok.kind hk hc z (fun h' hc' hs=>?_)
  obtain ⟨oc,hoc,hocd⟩:=id z
  refine h { s with heap:=h' } ⟨I.ok,I.os,I.bare,⟨fun b o e n hb hx=>?_,fun b o e n hb hx=>?_,I.base.free,fun b o e hx=>?_,I.base.tups,I.base.frzs,I.base.tbls⟩,⟨m,hn.sameBut hs (Ne.symm (cne x c hc)),fun j y v' e1 e2 e3=>?_⟩,fun y c' e=>?_,I.free,I.freeC,fun p hp=>?_,tracked ⟨oc,hoc,I.freeC x c hc⟩ hs,by simpa using I.len⟩ ⟨c,hs,.inr hc⟩
  ·exact (hs.2 b (Nat.ne_of_lt (Nat.lt_of_lt_of_le (Heap.lt_size e) (I.ok.cab x c hfn hc)))).trans (I.base.keep b o e n hb hx)
  ·obtain ⟨sl,e1⟩:=I.base.slot b o e n hb hx
   exact ⟨sl,(hs.2 b (Nat.ne_of_lt (Nat.lt_of_lt_of_le (Heap.lt_size e) (I.ok.cab x c hfn hc)))).trans e1⟩
  ·obtain ⟨o',e1⟩:=I.base.there b o e hx
   exact ⟨o',(hs.2 b (Nat.ne_of_lt (Nat.lt_of_lt_of_le (Heap.lt_size e) (I.ok.cab x c hfn hc)))).trans e1⟩
  ·by_cases hj:j=i
   ·subst hj
    rw [hi] at e1;cases e1
    rw [List.getElem?_set_self hiσ] at e2
    cases e2
    exact ⟨u,r,.inr ⟨.inl hk,c,hc,hc'⟩⟩
   ·rw [List.getElem?_set_ne (Ne.symm hj)] at e2
    obtain ⟨u',r',q⟩:=hl j y v' e1 e2 e3
    refine ⟨u',r',?_⟩
    rcases q with q|⟨k,c',e,z'⟩
    ·exact .inl q
    ·refine .inr ⟨k,c',e,z'.sameBut hs ?_⟩
     rintro rfl
     exact hj (uq hN e1 (I.ok.inj _ _ _ e hc ▸ hi))
  ·by_cases hcc:c'=c
   ·subst hcc;exact ⟨_,hc'⟩
   ·obtain ⟨w2,z2⟩:=I.cell y c' e
    exact ⟨w2,z2.sameBut hs hcc⟩
  ·obtain ⟨e,n,ne,nf,d⟩:=I.pin p hp
   refine ⟨(hs.2 p.1 ?_).trans e,n,ne,nf,d⟩
   intro q
   rw [q,hoc] at e
   have q':oc=p.2:=Option.some.inj e
   exact d w' (by rw [←q'];exact hocd)
theorem eJ {M:Model} {A:Around} {E:Value→Shared→Prop} {i:Nat} {x:Str} {v:V} {u:Value} {Q:Unit→Shared→Prop} (I:Inv X pins σ H s) (hN:X.N.Nodup) (hi:X.N[i]?=some x) (hx:Loc X.env.scope x) (r:RelV v u)
  (h:∀s',Inv X pins (σ.set i (some v)) H s'→Q () s') (hf:X.fn x=true∨X.env.scope.names.lookup x=some .local:=by first|exact .inl rfl|exact .inr rfl|assumption):wpAny M A (storeName X.env x u) Q E s :=
 pX I hN hi hx r (fun s' I' _=>h s' I') hf
theorem Inv.call' {s':Shared} {ch:List Addr} (I:Inv X pins σ H s) (ho:s'.os=s.os) (u:Un (frs X.stack) ch H H' s.heap s'.heap) (hok:HOk X.prog X.w H' s'.heap) (hg:AllBare s'.gens)
  (hch:∀b∈ch,(b∈X.ex∨X.s₀.heap.objs.size≤b)∧b≠X.env.locals∧(∀x c,X.env.cells.lookup x=some c→c≠b)∧∀p∈X.pn++pins,p.1≠b):Inv X pins σ H' s':=by
 obtain ⟨h',g',d',t',o'⟩:=s'
 have e:o'=s.os:=ho
 subst e
 exact I.call (g':=g') (t':=t') (d':=d') u hok hg hch
end
noncomputable abbrev XK:=Value→Option Addr→Hp→Prop
noncomputable abbrev St:=List (Option V)
noncomputable abbrev VK:=V→Hp→Prop
noncomputable abbrev TE:=St→Hp→VK→Prop
noncomputable abbrev TT:=St→Hp→(Bool→Hp→Prop)→Prop
noncomputable abbrev TA:=St→Hp→(List V→Hp→Prop)→Prop
structure Ends where
 nx:St→Hp→Prop
 rt:VK
 bk:St→Hp→Prop:=fun _ _=>False
 ct:St→Hp→Prop:=fun _ _=>False
noncomputable abbrev TS:=Ends→St→Hp→Prop
noncomputable def EP (X:Cx) (pins:List (Addr × Obj)) (σ:St) (Q:VK) (u:Value) (s':Shared):Prop:=∃v H',Inv X pins σ H' s'∧RelV v u∧Q v H'
noncomputable def TP (X:Cx) (pins:List (Addr × Obj)) (σ:St) (Q:Bool→Hp→Prop) (b:Bool) (s':Shared):Prop:=∃H',Inv X pins σ H' s'∧Q b H'
noncomputable def AP (X:Cx) (pins:List (Addr × Obj)) (σ:St) (Q:List V→Hp→Prop) (us:List Value) (s':Shared):Prop:=∃vs H',Inv X pins σ H' s'∧Vals vs us∧Q vs H'
noncomputable def SP (X:Cx) (pins:List (Addr × Obj)) (D:Ends) (f:Flow) (s':Shared):Prop :=
 match f with
 | .next=>∃σ' H',Inv X pins σ' H' s'∧D.nx σ' H'
 | .brk=>∃σ' H',Inv X pins σ' H' s'∧D.bk σ' H'
 | .cont=>∃σ' H',Inv X pins σ' H' s'∧D.ct σ' H'
 | .ret u=>∃v σ' H',Inv X pins σ' H' s'∧RelV v u∧D.rt v H'
noncomputable def PE (X:Cx) (e:Expr) (t:TE):Prop :=
 ∀(pins:List (Addr × Obj)) (s:Shared) (σ:St) (H:Hp) (Q:VK),Inv X pins σ H s→t σ H Q→wpAny (model X.prog X.w) X.A (eval e X.env) (EP X pins σ Q) X.xe s
noncomputable def PT (X:Cx) (e:Expr) (t:TT):Prop :=
 ∀(pins:List (Addr × Obj)) (s:Shared) (σ:St) (H:Hp) (Q:Bool→Hp→Prop),Inv X pins σ H s→t σ H Q→wpAny (model X.prog X.w) X.A (isTrue e X.env (eval e X.env)) (TP X pins σ Q) X.xe s
noncomputable def PW (X:Cx) (e:Expr) (t:TT):Prop :=
 ∀(whole:Sem Value) (pins:List (Addr × Obj)) (s:Shared) (σ:St) (H:Hp) (Q:Bool→Hp→Prop),Inv X pins σ H s→t σ H Q→wpAny (model X.prog X.w) X.A (isTrue e X.env whole) (TP X pins σ Q) X.xe s
theorem PW.pt {X:Cx} {e:Expr} {t:TT} (h:PW X e t):PT X e t:=h _
noncomputable def PA (X:Cx) (es:List Expr) (t:TA):Prop :=
 ∀(pos:Pos) (pins:List (Addr × Obj)) (s:Shared) (σ:St) (H:Hp) (Q:List V→Hp→Prop),Inv X pins σ H s→t σ H Q→wpAny (model X.prog X.w) X.A (spliced (backTo pos (starEach es X.env))) (AP X pins σ Q) X.xe s
noncomputable def PS (X:Cx) (st:Stmt) (t:TS):Prop :=
 ∀(pins:List (Addr × Obj)) (s:Shared) (σ:St) (H:Hp) (D:Ends),Inv X pins σ H s→t D σ H→wpAny (model X.prog X.w) X.A (exec st X.env) (SP X pins D) X.xe s
noncomputable def PSs (X:Cx) (st:List Stmt) (t:TS):Prop :=
 ∀(pins:List (Addr × Obj)) (s:Shared) (σ:St) (H:Hp) (D:Ends),Inv X pins σ H s→t D σ H→wpAny (model X.prog X.w) X.A (execs st X.env) (SP X pins D) X.xe s
theorem thn {α:Type} {t:Sem α} {Q Q':α→Shared→Prop} {M:Model} {A:Around} {E:Value→Shared→Prop} {s:Shared} (h:wpAny M A t Q E s) (hQ:∀a s,Q a s→Q' a s):wpAny M A t Q' E s:=wpAny_mono h hQ fun _ _ x=>x
end L2
namespace L2
open PySem PySem.Spec PyProof.Rows
section
variable {X:Cx}
noncomputable def D7 (i:Nat):TE:=fun σ H Q=>∃v,σ[i]?=some (some v)∧Q v H
noncomputable def tC (v:V):TE:=fun _ H Q=>Q v H
theorem CH {i:Nat} {x:Str} {pos:Pos} (hN:X.N[i]?=some x) (hv:Vis X.env.scope x) (hd:(x == ("__debug__":Str))=false:=by decide) (hcd:(x == ("__classdict__":Str))=false:=by decide):PE X (.Name x pos) (D7 i):=by
 intro pins s σ H Q I h
 obtain ⟨v,e,h⟩:=h
 obtain ⟨m,hn,hl⟩:=I.loc
 obtain ⟨u,r,l⟩:=hl i x v hN e hv
 have fin:EP X pins σ Q u s:=⟨v,H,I,r,h⟩
 rcases l with ⟨hk,hm⟩|⟨hk,c,hc,hcell⟩
 ·exact wpAny_Name (wpAny_loadName_local I.ok.kind hk hn hm fin) hd
 ·rcases hk with hk|hk
  ·exact wpAny_Name (wpAny_loadName_cell I.ok.kind hk hc hcell fin) hd
  ·exact wpAny_Name (wpAny_loadName_free I.ok.kind hk hc hcell fin hcd) hd
theorem Co {i j pos}:PE X (.Constant (.int i) j pos) (tC (.int i)):=fun _ _ _ H _ I h=>wpAny_Constant_int ⟨.int i,H,I.tok _,⟨_,rfl⟩,h⟩
theorem CU {b j pos}:PE X (.Constant (.bool b) j pos) (tC (.bl b)):=fun _ _ _ H _ I h=>Constant_bool ⟨.bl b,H,I,rfl,h⟩
theorem CF {j pos}:PE X (.Constant .none j pos) (tC .non):=fun _ _ _ H _ I h=>Constant_none ⟨.non,H,I,rfl,h⟩
theorem Cl {x j pos}:PE X (.Constant (.str x) j pos) (tC (.str x)):=fun _ _ _ H _ I h=>Calls.Constant_str ⟨.str x,H,I.tok _,⟨_,rfl⟩,h⟩
noncomputable def Gl (X:Cx) (x:Str):Prop:=X.env.kindOf x=some .globalImplicit
theorem sw {E:Value→Shared→Prop} {pins:List (Addr × Obj)} {s:Shared} {σ:St} {H:Hp} {x:Str} {u:Value} {pos:Pos} {Q:Value→Shared→Prop} (I:Inv X pins σ H s) (hg:Gl X x) (hm:X.mg x=some u) (h:Q u s)
  (hd:(x == ("__debug__":Str))=false:=by decide):wpAny (model X.prog X.w) X.A (eval (.Name x pos) X.env) Q E s :=
 Calls.Name_function_global I.ok.kind hg (Calls.loadGlobal_global (by rw [I.ok.glob];exact I.mod.glob.keeps I.bk) hm h) hd
theorem jp {E:Value→Shared→Prop} {pins:List (Addr × Obj)} {s:Shared} {σ:St} {H:Hp} {x:Str} {u:Value} {pos:Pos} {Q:Value→Shared→Prop} (I:Inv X pins σ H s) (hg:Gl X x) (hm:X.mg x=none) (hv:bootBuiltins x=some u) (h:Q u s)
  (hn:x≠"__name__":=by decide) (hd:(x == ("__debug__":Str))=false:=by decide):wpAny (model X.prog X.w) X.A (eval (.Name x pos) X.env) Q E s:=by
 obtain ⟨mb,h1,h2⟩:=I.mod.blt
 exact Calls.Name_function_global I.ok.kind hg (Calls.loadGlobal_builtin (by rw [I.ok.glob];exact I.mod.glob.keeps I.bk) hm (by rw [I.ok.blt];exact h1.keeps I.bk) ((h2 x hn).trans hv) h) hd
theorem Ao {x:Str} {v:V} {u:Value} {pos:Pos} (hg:Gl X x) (hm:X.mg x=some u) (r:RelV v u) (hd:(x == ("__debug__":Str))=false:=by decide):PE X (.Name x pos) (tC v) :=
 fun _ _ _ H _ I h=>sw I hg hm ⟨v,H,I,r,h⟩ hd
theorem zW {x:Str} {v:V} {u:Value} {pos:Pos} (hg:Gl X x) (hm:X.mg x=none) (hv:bootBuiltins x=some u) (r:RelV v u) (hn:x≠"__name__":=by decide) (hd:(x == ("__debug__":Str))=false:=by decide):PE X (.Name x pos) (tC v) :=
 fun _ _ _ H _ I h=>jp I hg hm hv ⟨v,H,I,r,h⟩ hn hd
variable {a b:Expr} {ta tb:TE} {pos:Pos}
variable {tA tB':TT} {rest:List Expr}
noncomputable def CS (t u:TT):TT:=fun σ H Q=>t σ H fun c H1=>if c=true then u σ H1 Q else Q false H1
noncomputable def tOr (t u:TT):TT:=fun σ H Q=>t σ H fun c H1=>if c=true then Q true H1 else u σ H1 Q
noncomputable def Ed (t:TT):TT:=fun σ H Q=>t σ H fun c H1=>Q (!c) H1
theorem An (ha:PT X a tA):PW X (.BoolOp .And [a] pos) tA:=by
 intro wh pins s σ H Q I h
 refine isTrue_and (thn (ha pins s σ H Q I h) fun c s1 e=>?_)
 cases c with
 | true=>exact isTrue_and_nil e
 | false=>exact e
theorem CI (ha:PT X a tA):PW X (.BoolOp .Or [a] pos) tA:=by
 intro wh pins s σ H Q I h
 refine isTrue_or (thn (ha pins s σ H Q I h) fun c s1 e=>?_)
 cases c with
 | false=>exact isTrue_or_nil e
 | true=>exact e
theorem BC (ha:PT X a tA) (hb:PW X (.BoolOp .And (b::rest) pos) tB'):PW X (.BoolOp .And (a::b::rest) pos) (CS tA tB'):=by
 intro wh pins s σ H Q I h
 refine isTrue_and (thn (ha pins s σ H _ I h) fun c s1 ⟨H1,I1,q1⟩=>?_)
 cases c with
 | true=>exact hb wh pins s1 σ H1 Q I1 q1
 | false=>exact ⟨H1,I1,q1⟩
theorem DI (ha:PT X a tA) (hb:PW X (.BoolOp .Or (b::rest) pos) tB'):PW X (.BoolOp .Or (a::b::rest) pos) (tOr tA tB'):=by
 intro wh pins s σ H Q I h
 refine isTrue_or (thn (ha pins s σ H _ I h) fun c s1 ⟨H1,I1,q1⟩=>?_)
 cases c with
 | true=>exact ⟨H1,I1,q1⟩
 | false=>exact hb wh pins s1 σ H1 Q I1 q1
theorem BN (ha:PT X a tA):PT X (.UnaryOp .Not a pos) (Ed tA):=by
 intro pins s σ H Q I h
 exact isTrue_not (ha pins s σ H (fun c H1=>Q (!c) H1) I h)
noncomputable def Dj (ta tb:TE):TE:=fun σ H Q=>ta σ H fun x H1=>∃c,x=.bl c∧if c=true then tb σ H1 Q else Q (.bl false) H1
noncomputable def Ef (ta tb:TE):TE:=fun σ H Q=>ta σ H fun x H1=>∃c,x=.bl c∧if c=true then Q (.bl true) H1 else tb σ H1 Q
noncomputable def DS (ta:TE):TE:=fun σ H Q=>ta σ H fun x H1=>∃c,x=.bl c∧Q (.bl (!c)) H1
theorem yi {op} {t:TE} (h:PE X a t):PE X (.BoolOp op [a] pos) t:=fun pins s σ H Q I hw=>BoolOp_one (h pins s σ H Q I hw)
theorem Cp (ha:PE X a ta) (hb:PE X (.BoolOp .And (b::rest) pos) tb):PE X (.BoolOp .And (a::b::rest) pos) (Dj ta tb):=by
 intro pins s σ H Q I h
 refine BoolOp_and (thn (ha pins s σ H _ I h) fun v s1 ⟨x,H1,I1,r1,q1⟩=>?_)
 obtain ⟨c,rfl,q1⟩:=q1
 cases r1
 refine wpAny_truthy_bool ?_
 cases c with
 | true=>exact hb pins s1 σ H1 Q I1 q1
 | false=>exact ⟨.bl false,H1,I1,rfl,q1⟩
theorem DX (ha:PE X a ta) (hb:PE X (.BoolOp .Or (b::rest) pos) tb):PE X (.BoolOp .Or (a::b::rest) pos) (Ef ta tb):=by
 intro pins s σ H Q I h
 refine BoolOp_or (thn (ha pins s σ H _ I h) fun v s1 ⟨x,H1,I1,r1,q1⟩=>?_)
 obtain ⟨c,rfl,q1⟩:=q1
 cases r1
 refine wpAny_truthy_bool ?_
 cases c with
 | false=>exact hb pins s1 σ H1 Q I1 q1
 | true=>exact ⟨.bl true,H1,I1,rfl,q1⟩
theorem Cb (ha:PE X a ta):PE X (.UnaryOp .Not a pos) (DS ta):=by
 intro pins s σ H Q I h
 refine UnaryOp_ (thn (ha pins s σ H _ I h) fun v s1 ⟨x,H1,I1,r1,q1⟩=>?_)
 obtain ⟨c,rfl,q1⟩:=q1
 cases r1
 exact not_of (wpAny_truthy_bool ⟨.bl (!c),H1,I1,rfl,q1⟩)
noncomputable def tIf (t:TT) (ta tb:TE):TE:=fun σ H Q=>t σ H fun c H1=>if c=true then ta σ H1 Q else tb σ H1 Q
theorem yX {c:Expr} (hc:PT X c tA) (ha:PE X a ta) (hb:PE X b tb):PE X (.IfExp c a b pos) (tIf tA ta tb):=by
 intro pins s σ H Q I h
 refine wpAny_IfExp (thn (hc pins s σ H _ I h) fun d s1 ⟨H1,I1,q1⟩=>?_)
 cases d with
 | true=>exact ha pins s1 σ H1 Q I1 q1
 | false=>exact hb pins s1 σ H1 Q I1 q1
end
end L2
namespace L2
open PySem PySem.Spec PyProof.Rows
noncomputable def SqL (K:PySem.W.Frag) (H:Hp) (a:Addr) (xs:List V):Prop :=
 Rd H a (.lst xs) ∨
  ∃(o:Obj) (its:Array Value) (n:Nat),K.lookup a=some o∧o.cls=.type "list"∧o.dict=none∧o.data=.seq its n∧its.size≤sizeLine∧Vals xs its.toList
noncomputable def SqT (K:PySem.W.Frag) (H:Hp) (a:Addr) (xs:List V):Prop :=
 Rd H a (.tup xs) ∨
  ∃(o:Obj) (its:Array Value) (n:Nat),K.lookup a=some o∧o.cls=.type "tuple"∧o.data=.seq its n∧its.size≤sizeLine∧Vals xs its.toList
noncomputable def En:Value→Option V
 | .none=>some .non
 | .bool b=>some (.bl b)
 | .int i _=>some (.int i)
 | .str x _=>some (.str x)
 | .bytes b _=>some (.byt b)
 | .float b _=>some (.flt b)
 | .ref a=>some (.ref a)
 | .type n=>some (.ty n)
 | _=>none
theorem RelV.abs {x:V} {u:Value} (r:RelV x u):En u=some x:=by
 cases x with
 | non=>cases r;rfl
 | bl _=>cases r;rfl
 | int _=>obtain ⟨t,rfl⟩:=r;rfl
 | str _=>obtain ⟨t,rfl⟩:=r;rfl
 | byt _=>obtain ⟨t,rfl⟩:=r;rfl
 | flt _=>obtain ⟨t,rfl⟩:=r;rfl
 | ref _=>cases r;rfl
 | ty _=>cases r;rfl
theorem RelV.inj {x y:V} {u:Value} (r:RelV x u) (q:RelV y u):x=y:=Option.some.inj (r.abs.symm.trans q.abs)
theorem Vals.inj:∀ {xs ys:List V} {us:List Value},Vals xs us→Vals ys us→xs=ys
 | _,_,_,.nil,.nil=>rfl
 | _,_,_,.cons r t,.cons r' t'=>by rw [r.inj r',Vals.inj t t']
section
variable {X:Cx} {pins:List (Addr × Obj)} {σ:St} {H:Hp} {s:Shared} {a:Addr} {xs ys:List V}
theorem SqL.of {K:PySem.W.Frag} (h:H a=some (.lst xs)):SqL K H a xs:=.inl (.inl h)
theorem SqT.of {K:PySem.W.Frag} (h:H a=some (.tup xs)):SqT K H a xs:=.inl (.inl h)
theorem Inv.list (I:Inv X pins σ H s) (h:SqL X.K H a xs):∃its:List Value,Vals xs its∧PlainL s.heap a its.toArray∧xs.length≤sizeLine:=by
 rcases h with h|⟨o,its,n,hk,hc,hd,hs,hz,r⟩
 ·obtain ⟨z,its,n,r,e⟩:=h.ok I.hok
  exact ⟨its,r,⟨_,n,e,rfl,rfl,rfl⟩,z⟩
 ·refine ⟨its.toList,r,⟨o,n,I.kIn a o hk,hc,hd,by simpa using hs⟩,?_⟩
  have e:=r.length
  simp only [Array.length_toList] at e
  omega
theorem Inv.tuple (I:Inv X pins σ H s) (h:SqT X.K H a xs):∃its:List Value,Vals xs its∧IsTup s.heap a its.toArray∧xs.length≤sizeLine:=by
 rcases h with h|⟨o,its,n,hk,hc,hs,hz,r⟩
 ·obtain ⟨z,its,r,p⟩:=h.ok I.hok
  exact ⟨its,r,p,z⟩
 ·refine ⟨its.toList,r,⟨o,I.kIn a o hk,hc,n,by simpa using hs⟩,?_⟩
  have e:=r.length
  simp only [Array.length_toList] at e
  omega
theorem Inv.list_inj (I:Inv X pins σ H s) (h:SqL X.K H a xs) (h':SqL X.K H a ys):xs=ys:=by
 obtain ⟨its,r,⟨o,n,e,_,_,d⟩,_⟩:=I.list h
 obtain ⟨its',r',⟨o',n',e',_,_,d'⟩,_⟩:=I.list h'
 rw [e] at e';cases e'
 rw [d] at d'
 injection d' with d1 _
 have:its=its':=by simpa using congrArg Array.toList d1
 subst this
 exact r.inj r'
theorem Inv.tuple_inj (I:Inv X pins σ H s) (h:SqT X.K H a xs) (h':SqT X.K H a ys):xs=ys:=by
 obtain ⟨its,r,⟨o,e,_,n,d⟩,_⟩:=I.tuple h
 obtain ⟨its',r',⟨o',e',_,n',d'⟩,_⟩:=I.tuple h'
 rw [e] at e';cases e'
 rw [d] at d'
 injection d' with d1 _
 have:its=its':=by simpa using congrArg Array.toList d1
 subst this
 exact r.inj r'
end
noncomputable abbrev Cx.wish (X:Cx) (E:Value→Shared→Prop):Cx:={ X with xe:=E }
noncomputable abbrev Cx.nox (X:Cx):Cx:=X.wish fun _ _=>False
theorem Cx.Ok.wish {X:Cx} (ok:X.Ok) (E:Value→Shared→Prop):(X.wish E).Ok :=
 ⟨ok.mod,ok.kind,ok.glob,ok.blt,ok.above,ok.inj,ok.has,ok.cab,ok.hd,ok.frames,ok.stk,ok.exf,ok.bs,ok.bsz,ok.noex,ok.exfs,ok.funs,ok.frf⟩
theorem Cx.Ok.unwish {X:Cx} {E:Value→Shared→Prop} (ok:(X.wish E).Ok):X.Ok :=
 ⟨ok.mod,ok.kind,ok.glob,ok.blt,ok.above,ok.inj,ok.has,ok.cab,ok.hd,ok.frames,ok.stk,ok.exf,ok.bs,ok.bsz,ok.noex,ok.exfs,ok.funs,ok.frf⟩
section
variable {X:Cx} {pins:List (Addr × Obj)} {σ:St} {H:Hp} {s:Shared} {E:Value→Shared→Prop}
theorem Inv.wish (I:Inv X pins σ H s) (E:Value→Shared→Prop):Inv (X.wish E) pins σ H s:=⟨I.ok.wish E,I.os,I.bare,I.base,I.loc,I.cell,I.free,I.freeC,I.pin,I.hok,I.len⟩
theorem Inv.unwish (I:Inv (X.wish E) pins σ H s):Inv X pins σ H s:=⟨I.ok.unwish,I.os,I.bare,I.base,I.loc,I.cell,I.free,I.freeC,I.pin,I.hok,I.len⟩
theorem SP.unwish {D:Ends} {f:Flow} {s':Shared} (h:SP (X.wish E) pins D f s'):SP X pins D f s':=by
 cases f with
 | next=>obtain ⟨σ',H',I,q⟩:=h;exact ⟨σ',H',I.unwish,q⟩
 | brk=>obtain ⟨σ',H',I,q⟩:=h;exact ⟨σ',H',I.unwish,q⟩
 | cont=>obtain ⟨σ',H',I,q⟩:=h;exact ⟨σ',H',I.unwish,q⟩
 | ret u=>obtain ⟨v,σ',H',I,r,q⟩:=h;exact ⟨v,σ',H',I.unwish,r,q⟩
theorem PSs.nox {st:List Stmt} {t:TS} (h:PSs X.nox st t):PSs X st t:=fun pins s σ H D I hw =>
 wpAny_mono (h pins s σ H D (I.wish _) hw) (fun _ _ q=>q.unwish) fun _ _ z=>False.elim z
end
section
variable {X:Cx} {st:Stmt} {rest:List Stmt} {t u:TS} {e:Expr} {te:TE} {pos:Pos}
noncomputable def Br:TS:=fun D σ H=>D.nx σ H
noncomputable def D8 (t u:TS):TS:=fun D σ H=>t { D with nx:=u D } σ H
theorem zI:PSs X [] Br:=fun _ _ σ H _ I h=>wpAny_execs_nil ⟨σ,H,I,h⟩
theorem ym (h1:PS X st t) (h2:PSs X rest u):PSs X (st::rest) (D8 t u):=by
 intro pins s σ H D I h
 refine wpAny_execs_cons (thn (h1 pins s σ H { D with nx:=u D } I h) fun f s1 q=>?_)
 cases f with
 | next =>
  obtain ⟨σ',H',I',q⟩:=q
  exact h2 pins s1 σ' H' D I' q
 | ret v=>exact q
 | brk=>exact q
 | cont=>exact q
noncomputable def B0:TS:=fun D σ H=>D.bk σ H
noncomputable def CY:TS:=fun D σ H=>D.ct σ H
theorem AT:PS X (.Pass pos) Br:=fun _ _ σ H _ I h=>wpAny_Pass ⟨σ,H,I,h⟩
theorem xN:PS X (.Break pos) B0:=fun _ _ σ H _ I h=>wpAny_Break ⟨σ,H,I,h⟩
theorem tS:PS X (.Continue pos) CY:=fun _ _ σ H _ I h=>wpAny_Continue ⟨σ,H,I,h⟩
theorem Inv.quiet {pins:List (Addr × Obj)} {σ:St} {H:Hp} {s:Shared} (I:Inv X pins σ H s):interactive X.env=false:=by simp [interactive,I.ok.kind]
noncomputable def Db (te:TE):TS:=fun D σ H=>te σ H fun _ H1=>D.nx σ H1
theorem zO (he:PE X e te) (hs:swapsWith e none pos.line X.env=pure false:=by rfl):PS X (.Expr e pos) (Db te):=by
 intro pins s σ H D I h
 exact wpAny_Expr_any (thn (he pins s σ H _ I h) fun v s1 ⟨x,H1,I1,r1,q1⟩=>⟨σ,H1,I1,q1⟩) I.quiet hs
noncomputable def Er (te:TE):TS:=fun D σ H=>te σ H D.rt
theorem BF (he:PE X e te):PS X (.Return (some e) pos) (Er te):=by
 intro pins s σ H D I h
 exact wpAny_Return_some (thn (he pins s σ H _ I h) fun v s1 ⟨x,H1,I1,r1,q1⟩=>⟨x,σ,H1,I1,r1,q1⟩)
noncomputable def CW:TS:=fun D _ H=>D.rt .non H
theorem A9:PS X (.Return none pos) CW:=fun _ _ σ H _ I h=>wpAny_Return_none ⟨.non,σ,H,I,rfl,h⟩
noncomputable def D_ (c:TT) (t u:TS):TS:=fun D σ H=>c σ H fun b H1=>if b=true then t D σ H1 else u D σ H1
theorem Dt {c:Expr} {a b:List Stmt} {tc:TT} (hc:PT X c tc) (ha:PSs X a t) (hb:PSs X b u):PS X (.If c a b pos) (D_ tc t u):=by
 intro pins s σ H D I h
 refine wpAny_If (thn (hc pins s σ H _ I h) fun d s1 ⟨H1,I1,q1⟩=>?_)
 cases d with
 | true=>exact ha pins s1 σ H1 D I1 q1
 | false=>exact hb pins s1 σ H1 D I1 q1
end
noncomputable abbrev TG:=V→St→Hp→(St→Hp→Prop)→Prop
noncomputable abbrev TGs:=List V→St→Hp→(St→Hp→Prop)→Prop
noncomputable def PG (X:Cx) (target:Expr) (t:TG):Prop :=
 ∀(pins:List (Addr × Obj)) (s:Shared) (σ:St) (H:Hp) (v:V) (u:Value) (Q:St→Hp→Prop),Inv X pins σ H s→RelV v u→t v σ H Q →
  wpAny (model X.prog X.w) X.A (assign target X.env u) (fun _ s'=>∃σ' H',Inv X pins σ' H' s'∧Q σ' H') X.xe s
noncomputable def PGs (X:Cx) (ts:List Expr) (t:TGs):Prop :=
 ∀(pins:List (Addr × Obj)) (s:Shared) (σ:St) (H:Hp) (vs:List V) (us:List Value) (Q:St→Hp→Prop),Inv X pins σ H s→Vals vs us→t vs σ H Q →
  wpAny (model X.prog X.w) X.A (assignInOrder ((assignEach ts X.env).map (·.2)) us) (fun _ s'=>∃σ' H',Inv X pins σ' H' s'∧Q σ' H') X.xe s
noncomputable abbrev CK:=V→V→V→Hp→(Hp→Prop)→Prop
noncomputable def Ck (X:Cx) (t:CK):Prop :=
 ∀(pins:List (Addr × Obj)) (s:Shared) (σ:St) (H:Hp) (o i v:V) (ov iv u:Value) (Q:Hp→Prop),Inv X pins σ H s→RelV o ov→RelV i iv→RelV v u→t o i v H Q →
  wpAny (model X.prog X.w) X.A (setItem ov iv u) (fun _ s'=>∃H',Inv X pins σ H' s'∧Q H') X.xe s
noncomputable abbrev TIp:=V→V→Hp→VK→Prop
noncomputable def PIp (X:Cx) (op:Operator) (t:TIp):Prop :=
 ∀(pins:List (Addr × Obj)) (s:Shared) (σ:St) (H:Hp) (x y:V) (v u:Value) (Q:VK),Inv X pins σ H s→RelV x v→RelV y u→t x y H Q →
  wpAny (model X.prog X.w) X.A (inplaceOp op v u) (EP X pins σ Q) X.xe s
section
variable {X:Cx} {pos:Pos}
noncomputable def Bi (i:Nat):TG:=fun v σ H Q=>Q (σ.set i (some v)) H
theorem AW {i:Nat} {x:Str} (hN:X.N.Nodup) (hi:X.N[i]?=some x) (hx:Loc X.env.scope x) (hf:X.fn x=true∨X.env.scope.names.lookup x=some .local:=by first|exact .inl rfl|exact .inr rfl|assumption):PG X (.Name x pos) (Bi i):=by
 intro pins s σ H v u Q I r h
 exact wpAny_assign_Name (eJ I hN hi hx r (fun s' I'=>⟨_,H,I',h⟩) hf)
noncomputable def Ev:TGs:=fun vs σ H Q=>vs=[]∧Q σ H
noncomputable def C2 (t:TG) (u:TGs):TGs:=fun vs σ H Q=>∃v r,vs=v::r∧t v σ H fun σ' H'=>u r σ' H' Q
theorem zU:PGs X [] Ev:=by
 intro pins s σ H vs us Q I r h
 obtain ⟨e,h⟩:=h
 subst e
 cases r
 exact assignInOrder_nil ⟨σ,H,I,h⟩
theorem y9 {e:Expr} {es:List Expr} {t:TG} {u:TGs} (h1:PG X e t) (h2:PGs X es u)
  (hs:(assignEach (e::es) X.env).map (·.2)=assign e X.env::(assignEach es X.env).map (·.2):=by rfl):PGs X (e::es) (C2 t u):=by
 intro pins s σ H vs us Q I r h
 obtain ⟨v,vr,e1,h⟩:=h
 subst e1
 cases r with
 | cons r rr =>
  rw [hs]
  refine assignInOrder_cons (thn (h1 pins s σ H _ _ _ I r h) fun _ s1 ⟨σ1,H1,I1,q1⟩=>?_)
  exact h2 pins s1 σ1 H1 _ _ Q I1 rr q1
noncomputable def Ey (K:PySem.W.Frag) (n:Nat) (t:TGs):TG:=fun v σ H Q=>∃a xs,v=.ref a∧SqT K H a xs∧xs.length=n∧t xs σ H Q
theorem CG {es:List Expr} {k:Nat} {t:TGs} {n:Nat} (hc:X.calm=true) (h:PGs X es t)
  (hn:(assignEach es X.env).length=n:=by rfl) (hst:(assignEach es X.env).findIdx? (·.1)=none:=by rfl):PG X (.Tuple es k pos) (Ey X.K n t):=by
 intro pins s σ H v u Q I r hw
 obtain ⟨a,xs,e1,hq,hl,hw⟩:=hw
 subst e1
 cases r
 obtain ⟨its,rv,ht,hz⟩:=I.tuple hq
 refine assign_Tuple_tuple (I.ok.hd hc) ht (by simp [hn,←hl,rv.length]) hst fun h' hx=>?_
 have I1:Inv X pins σ H { s with heap:=h' }:=I.kept (t':=s.toks) fun b o e=>hx b o (Nat.ne_of_lt (Heap.lt_size e)) e
 exact h pins _ σ H xs _ Q I1 (by simpa using rv) hw
noncomputable def Eh (to ti:TE) (t:CK):TG:=fun v σ H Q=>to σ H fun o H1=>ti σ H1 fun i H2=>t o i v H2 fun H3=>Q σ H3
theorem B_ {o i:Expr} {to ti:TE} {t:CK} (ho:PE X o to) (hi:PE X i ti) (hs:Ck X t)
  (ha:∀v,assign (.Subscript o i pos) X.env v=(do
   let ov ←holding [v] (eval o X.env)
   let iv ←holding [v,ov] (eval i X.env)
   standAt pos
   holding [v,ov,iv] (setItem ov iv v)
   release [v,ov,iv] []):=by intro _;rfl):PG X (.Subscript o i pos) (Eh to ti t):=by
 intro pins s σ H v u Q I r h
 rw [ha]
 refine wpAny_bind (wpAny_holding (thn (ho pins s σ H _ I h) fun ov s1 ⟨x,H1,I1,r1,q1⟩=>?_))
 refine wpAny_bind (wpAny_holding (thn (hi pins s1 σ H1 _ I1 q1) fun iv s2 ⟨y,H2,I2,r2,q2⟩=>?_))
 refine wpAny_bind (wpAny_standAt (wpAny_bind (wpAny_holding (thn (hs pins s2 σ H2 x y v ov iv u _ I2 r1 r2 r q2) fun _ s3 ⟨H3,I3,q3⟩=>?_))))
 exact wpAny_release ⟨σ,H3,I3,q3⟩
noncomputable def Aq (te:TE) (g:TG):TS:=fun D σ H=>te σ H fun x H1=>g x σ H1 D.nx
theorem nw {tg e:Expr} {te:TE} {g:TG} (he:PE X e te) (hg:PG X tg g) (hs:swapsWithSole [tg] e pos.line X.env=pure false:=by rfl) (hw:swappedStores [tg] e X.env=pure none:=by rfl)
  (h1:(assignEach [tg] X.env).map (·.2)=[assign tg X.env]:=by rfl):PS X (.Assign [tg] e pos) (Aq te g):=by
 intro pins s σ H D I h
 refine wpAny_Assign_stores (thn (he pins s σ H _ I h) fun v s1 ⟨x,H1,I1,r1,q1⟩=>?_) hs hw
 rw [h1]
 exact thn (hg pins s1 σ H1 x v _ I1 r1 q1) fun _ s2 q=>q
theorem xT {i:Nat} {x:Str} {e:Expr} {te:TE} {pos':Pos} (hN:X.N.Nodup) (hi:X.N[i]?=some x) (hx:Loc X.env.scope x) (he:PE X e te) (hs:swapsWith e (some (.Name x pos')) pos.line X.env=pure false:=by rfl) (hf:X.fn x=true∨X.env.scope.names.lookup x=some .local:=by first|exact .inl rfl|exact .inr rfl|assumption) :
  PS X (.Assign [.Name x pos'] e pos) (Aq te (Bi i)):=by
 intro pins s σ H D I h
 refine wpAny_Assign_Name (thn (he pins s σ H _ I h) fun v s1 ⟨y,H1,I1,r1,q1⟩=>?_) hs
 exact eJ I1 hN hi hx r1 (fun s2 I2=>⟨_,H1,I2,q1⟩) hf
noncomputable def EC (i j:Nat) (ta:TA):TS:=fun D σ H=>ta σ H fun vs H1=>∃v w,vs=[v,w]∧D.nx ((σ.set i (some v)).set j (some w)) H1
theorem BE {i j:Nat} {x y:Str} {a b:Expr} {ta:TA} {px py pt:Pos} {kt k2 pt2} (hc:X.calm=true) (hN:X.N.Nodup) (hi:X.N[i]?=some x) (hj:X.N[j]?=some y) (hij:i≠j)
  (hx:X.env.scope.names.lookup x=some .local) (hy:X.env.scope.names.lookup y=some .local) (ha:PA X [a,b] ta)
  (hw:swappedStores [.Tuple [.Name x px,.Name y py] kt pt] (.Tuple [a,b] k2 pt2) X.env=pure (some [x,y]))
  (hs:swapsWithSole [.Tuple [.Name x px,.Name y py] kt pt] (.Tuple [a,b] k2 pt2) pos.line X.env=pure false:=by rfl) :
  PS X (.Assign [.Tuple [.Name x px,.Name y py] kt pt] (.Tuple [a,b] k2 pt2) pos) (EC i j ta):=by
 intro pins s σ H D I h
 rw [exec_Assign_arm]
 refine wpAny_bind (wpAny_standAt ?_)
 rw [hs]
 refine wpAny_bind (wpAny_pure ?_)
 rw [if_neg (by decide)]
 refine wpAny_bind (Tuple_ (thn (ha _ pins s σ H _ I h) fun us s1 ⟨vs,H1,I1,r1,q1⟩=>?_))
 obtain ⟨v,w,e1,q1⟩:=q1
 subst e1
 obtain ⟨u1,u2,rfl,rv,rw'⟩:∃u1 u2,us=[u1,u2]∧RelV v u1∧RelV w u2:=by
  cases r1 with
  | cons p q =>
   cases q with
   | cons p' q' =>
    cases q'
    exact ⟨_,_,rfl,p,p'⟩
 refine wpAny_newObj_type ?_ (by show 2≤sizeLine;decide)
 have I2:Inv X pins σ H1 { s1 with heap:=s1.heap.push { cls:=.type "tuple",data:=.seq [u1,u2].toArray } }:=I1.kept (t':=s1.toks) fun b o e=>Heap.get?_push_of_some _ e
 rw [hw]
 refine wpAny_bind (wpAny_pure ?_)
 show wpAny (model X.prog X.w) X.A (do rule "assign.swapped-stores";let items ←unpackItems (.ref s1.heap.objs.size) 2 none;assignInOrder [fun v=>bindName X.env y v,fun v=>bindName X.env x v] items.reverse;pure Flow.next) _ _ _
 refine wpAny_bind (wpAny_rule (wpAny_bind (unpackItems_tuple (items:=#[u1,u2]) (I.ok.hd hc) (IsTup.new s1.heap _) fun h' hx'=>?_)))
 have I3:=I2.kept (h':=h') (t':=s1.toks) fun b o e=>hx' b o (Nat.ne_of_lt (Heap.lt_size e)) e
 show wpAny _ _ (assignInOrder [fun v=>bindName X.env y v,fun v=>bindName X.env x v] [u2,u1] >>= fun _=>pure Flow.next) _ _ _
 refine wpAny_bind (assignInOrder_cons (wpAny_bindName (eJ I3 hN hj (.inl hy) rw' (fun s2 I4=>?_) (.inr hy))))
 refine assignInOrder_cons (wpAny_bindName (eJ I4 hN hi (.inl hx) rv (fun s3 I5=>assignInOrder_nil (wpAny_pure ?_)) (.inr hx)))
 rw [List.set_comm _ _ (Ne.symm hij)] at I5
 exact ⟨_,H1,I5,q1⟩
noncomputable def Eo (i:Nat) (te:TE) (ti:TIp):TS:=fun D σ H=>∃x,σ[i]?=some (some x)∧te σ H fun y H1=>ti x y H1 fun z H2=>D.nx (σ.set i (some z)) H2
theorem B' {i:Nat} {x:Str} {e:Expr} {te:TE} {op:Operator} {ti:TIp} {pos':Pos} (hN:X.N.Nodup) (hi:X.N[i]?=some x) (hx:Loc X.env.scope x) (he:PE X e te) (ho:PIp X op ti) (hf:X.fn x=true∨X.env.scope.names.lookup x=some .local:=by first|exact .inl rfl|exact .inr rfl|assumption) :
  PS X (.AugAssign (.Name x pos') op e pos) (Eo i te ti):=by
 intro pins s σ H D I h
 obtain ⟨v,e1,h⟩:=h
 obtain ⟨m,hn,hl⟩:=I.loc
 have vis:Vis X.env.scope x:=by rcases hx with k|k;exact .inl k;exact .inr (.inl k)
 obtain ⟨u,r,l⟩:=hl i x v hi e1 vis
 refine wpAny_AugAssign_Name ?_
 have go:wpAny (model X.prog X.w) X.A (eval e X.env) (fun w s₂=>wpAny (model X.prog X.w) X.A (inplaceOp op u w) (fun r s₃=>wpAny (model X.prog X.w) X.A (storeName X.env x r) (fun _=>SP X pins D .next) X.xe s₃) X.xe s₂) X.xe s:=by
  refine thn (he pins s σ H _ I h) fun w s1 ⟨y,H1,I1,r1,q1⟩=>?_
  refine thn (ho pins s1 σ H1 v y u w _ I1 r r1 q1) fun z s2 ⟨zv,H2,I2,r2,q2⟩=>?_
  exact eJ I2 hN hi hx r2 (fun s3 I3=>⟨_,H2,I3,q2⟩) hf
 rcases l with ⟨hk,hm⟩|⟨hk,c,hc,hcell⟩
 ·exact wpAny_loadName_local I.ok.kind hk hn hm go
 ·rcases hk with hk|hk
  ·exact wpAny_loadName_cell I.ok.kind hk hc hcell go
  ·rcases hx with k|k
   ·have:X.env.scope.names.lookup x=some .free:=hk
    rw [k] at this;cases this
   ·have:X.env.scope.names.lookup x=some .free:=hk
    rw [k] at this;cases this
noncomputable def ipI (f:Int→Int→Int):TIp:=fun x y H Q=>∃i j,x=.int i∧y=.int j∧Q (.int (f i j)) H
theorem Cq:PIp X .Add (ipI fun i j=>i+j):=by
 intro pins s σ H x y v u Q I r1 r2 h
 obtain ⟨i,j,e1,e2,q⟩:=h
 subst e1;subst e2
 obtain ⟨t,rfl⟩:=r1
 obtain ⟨t',rfl⟩:=r2
 exact iadd_int ⟨.int _,H,I.tok _,⟨_,rfl⟩,q⟩
theorem BJ:PIp X .Sub (ipI fun i j=>i-j):=by
 intro pins s σ H x y v u Q I r1 r2 h
 obtain ⟨i,j,e1,e2,q⟩:=h
 subst e1;subst e2
 obtain ⟨t,rfl⟩:=r1
 obtain ⟨t',rfl⟩:=r2
 exact isub_int ⟨.int _,H,I.tok _,⟨_,rfl⟩,q⟩
end
section
variable {X:Cx} {pos:Pos}
noncomputable def y8 (c:TT) (tb:TS):TS:=fun D σ H=>∃W:Nat→St→Hp→Prop,(∃m,W m σ H)∧∀m σ H,W m σ H →
 c σ H fun b H1=>if b=true then ∃N:St→Hp→Prop,(∀σ' H',N σ' H'→∃m',m'<m∧W m' σ' H')∧tb { D with nx:=N,ct:=N,bk:=D.nx } σ H1 else D.nx σ H1
theorem xD {c:Expr} {body:List Stmt} {tc:TT} {tb:TS} (hp:PassesOwn (model X.prog X.w) X.A X.env X.xe) (hc:PT X c tc) (hb:PSs X body tb):PS X (.While c body [] pos) (y8 tc tb):=by
 intro pins s σ H D I h
 obtain ⟨W,⟨m0,w0⟩,turn⟩:=h
 refine wpAny_While (codeAny_whileLoop (fun n s'=>∃σ' H',Inv X pins σ' H' s'∧W n σ' H') ?_ m0 ⟨σ,H,I,w0⟩)
 rintro n s1 ⟨σ1,H1,I1,w1⟩
 refine wpAny_passesOwn hp (thn (hc pins s1 σ1 H1 _ I1 (turn n σ1 H1 w1)) fun b s2 ⟨H2,I2,q2⟩=>?_)
 cases b with
 | true =>
  obtain ⟨N,hN,q2⟩:=q2
  rw [if_pos rfl]
  refine wpAny_passesOwn hp (thn (hb pins s2 σ1 H2 _ I2 q2) fun f s3 q3=>?_)
  cases f with
  | next =>
   obtain ⟨σ3,H3,I3,n3⟩:=q3
   obtain ⟨m',hm,w3⟩:=hN σ3 H3 n3
   exact ⟨m',hm,σ3,H3,I3,w3⟩
  | cont =>
   obtain ⟨σ3,H3,I3,n3⟩:=q3
   obtain ⟨m',hm,w3⟩:=hN σ3 H3 n3
   exact ⟨m',hm,σ3,H3,I3,w3⟩
  | brk=>exact q3
  | ret v=>exact q3
 | false =>
  rw [if_neg Bool.false_ne_true]
  exact wpAny_execs_nil ⟨σ1,H2,I2,q2⟩
end
structure It where
 go:Nat→Hp→Prop
 yld:Nat→Hp→V→Hp→Prop
 stop:Nat→Hp→Prop
noncomputable def mW (X:Cx) (pins:List (Addr × Obj)) (H:Hp) (b:Addr):Prop :=
 H b=none∧b≠X.env.locals∧b ∉ X.fs∧(b∈X.ex∨X.s₀.heap.objs.size≤b)∧(∀x c,X.env.cells.lookup x=some c→c≠b)∧∀p∈X.pn++pins,p.1≠b
theorem Inv.fpOk {X:Cx} {pins:List (Addr × Obj)} {σ:St} {H H':Hp} {s:Shared} {b:Addr} (I:Inv X pins σ H s) (hb:s.heap.objs.size≤b) (hn:H' b=none):mW X pins H' b:=by
 refine ⟨hn,Nat.ne_of_gt (Nat.lt_of_lt_of_le I.lt hb),I.nofs hb,.inr (Nat.le_trans I.sz hb),fun x c e z=>?_,fun p hp z=>?_⟩
 ·obtain ⟨v,q⟩:=I.cell x c e
  exact absurd (Nat.lt_of_lt_of_le q.lt (by rw [z];exact hb)) (Nat.lt_irrefl _)
 ·exact absurd (Nat.lt_of_lt_of_le (Heap.lt_size (I.pin p hp).1) (by rw [z];exact hb)) (Nat.lt_irrefl _)
structure wX (P:Program) (w:World) (K:PySem.W.Frag) (tg:Expr) (J:It) (fp:List Addr) (it:Addr) (tn:Nat→Heap→Prop):Prop where
 mem:it∈fp
 obj:∀i h,tn i h→∀b∈fp,∃o,h.get? b=some o∧∀v,o.data≠.cell v
 keep:∀i h h',tn i h→(∀b∈fp,∀o,h.get? b=some o→h'.get? b=some o)→tn i h'
 item:∀(X:Cx),X.prog=P→X.w=w→X.K=K→X.calm=true→∀(i:Nat) (pins:List (Addr × Obj)) (s:Shared) (σ:St) (H:Hp) (E:Value→Shared→Prop),Inv X pins σ H s→(∀b∈fp,mW X pins H b)→tn i s.heap→J.go i H →
  wpAny (model P w) X.A (pyNext (.ref it)) (fun r s1=>∃u,r=some u ∧
   wpAny (model P w) X.A (letOwnedTupleGo tg (.ref it) u) (fun _ s2=>∃x H',Inv X pins σ H' s2∧RelV x u∧J.yld i H x H'∧tn (i+1) s2.heap∧∀b∈fp,H' b=none) E s1) E s
 done:∀(X:Cx),X.prog=P→X.w=w→X.K=K→X.calm=true→∀(i:Nat) (pins:List (Addr × Obj)) (s:Shared) (σ:St) (H:Hp) (E:Value→Shared→Prop),Inv X pins σ H s→(∀b∈fp,mW X pins H b)→tn i s.heap→J.stop i H →
  wpAny (model P w) X.A (pyNext (.ref it)) (fun r s1=>r=none∧Inv X pins σ H s1) E s
 self:∀(A:Around) (i:Nat) (s:Shared) (Q:Value→Shared→Prop) (E:Value→Shared→Prop),tn i s.heap→Q (.ref it) s→wpAny (model P w) A (pyIter (.ref it)) Q E s
noncomputable abbrev TI:=St→Hp→(It→Hp→Prop)→Prop
noncomputable def PIE (X:Cx) (pins:List (Addr × Obj)) (σ:St) (tg:Expr) (R:It→Hp→Prop) (itv:Value) (s2:Shared):Prop :=
 ∃(it:Addr) (fp:List Addr) (tn:Nat→Heap→Prop) (J:It) (H':Hp),itv=.ref it∧Inv X pins σ H' s2∧wX X.prog X.w X.K tg J fp it tn∧tn 0 s2.heap∧(∀b∈fp,mW X pins H' b)∧R J H'
noncomputable def PI (X:Cx) (tg iter:Expr) (wi:TI):Prop :=
 ∀(pins:List (Addr × Obj)) (s:Shared) (σ:St) (H:Hp) (R:It→Hp→Prop),Inv X pins σ H s→wi σ H R →
  wpAny (model X.prog X.w) X.A (eval iter X.env) (fun v s1=>wpAny (model X.prog X.w) X.A (pyIter v) (PIE X pins σ tg R) X.xe s1) X.xe s
theorem xP {M:Model} {A:Around} {E:Value→Shared→Prop} {s:Shared} {tg:Expr} {it:Addr} {u:Value} {o:Obj} {n:String} {vs:Array Value} {Q:Unit→Shared→Prop} (ho:s.heap.get? it=some o) (hc:o.cls=.type n) (hd:o.data=.fields vs)
  (hn:["enumerate","zip","dict_itemiterator","dict_reverseitemiterator","odict_iterator","itertools.zip_longest","itertools.pairwise"].contains n=false) (hQ:Q () s):wpAny M A (letOwnedTupleGo tg (.ref it) u) Q E s:=by
 unfold letOwnedTupleGo
 cases tg <;> first
  | exact wpAny_pure hQ
  | (cases u <;> first
    | exact wpAny_pure hQ
    | (refine wpAny_bind (wpAny_load ho ?_)
       rw [hc,hd]
       show wpAny M A (if (["enumerate","zip","dict_itemiterator","dict_reverseitemiterator","odict_iterator","itertools.zip_longest","itertools.pairwise"].contains n && vs[0]? == some (rawInt _))=true then _ else _) Q E s
       rw [if_neg (by intro h;rw [hn,Bool.false_and] at h;cases h)]
       exact wpAny_pure hQ))
noncomputable def Itl (K:PySem.W.Frag) (a:Addr):It :=
 ⟨fun i H=>∃xs x,SqL K H a xs∧xs[i]?=some x,fun i H x H'=>H'=H∧∀xs,SqL K H a xs→xs[i]?=some x,fun i H=>∃xs,SqL K H a xs∧xs.length≤i⟩
noncomputable def Itt (K:PySem.W.Frag) (a:Addr):It :=
 ⟨fun i H=>∃xs x,SqT K H a xs∧xs[i]?=some x,fun i H x H'=>H'=H∧∀xs,SqT K H a xs→xs[i]?=some x,fun i H=>∃xs,SqT K H a xs∧xs.length≤i⟩
noncomputable def Itr (lo:Int) (n:Nat):It:=⟨fun i _=>i<n,fun i H x H'=>H'=H∧x=.int (lo+i),fun i _=>n≤i⟩
theorem xg {P:Program} {w:World} {K:PySem.W.Frag} {tg:Expr} (a it:Addr):wX P w K tg (Itl K a) [it] it (fun i h=>h.IsListIter it a i) where
 mem:=by simp
 obj:=fun i h st b hb=>by
  have e:b=it:=by simpa using hb
  subst e
  obtain ⟨o,e,c,d⟩:=st
  exact ⟨o,e,fun v z=>by rw [d] at z;cases z⟩
 keep:=fun i h h' st k=>st.at fun o e=>k it (by simp) o e
 item:=by
  intro X hP hw hK hc i pins s σ H E I hf st hg
  subst hP hw hK
  obtain ⟨xs,x,hq,hx⟩:=hg
  obtain ⟨its,rv,p,hz⟩:=I.list hq
  obtain ⟨u,hu,ru⟩:=rv.get hx
  obtain ⟨f0,f1,f2,f3,f4,f5⟩:=hf it (by simp)
  refine wpAny_pyNext_list_item st p.isList (x:=u) (by simpa using hu) fun h' st' sb=>?_
  have I1:Inv X pins σ H { s with heap:=h' }:=I.turned (t':=s.toks) (fun b o hb e=>(sb.2 b hb).trans e) f0 f1 f3 f4 f5
  obtain ⟨o,e,c,d⟩:=id st'
  exact ⟨u,rfl,xP (s:={ s with heap:=h' }) e c d (by decide) ⟨x,H,I1,ru,⟨rfl,fun ys hy=>by rw [I.list_inj hy hq];exact hx⟩,st',fun b hb=>(hf b hb).1⟩⟩
 done:=by
  intro X hP hw hK hc i pins s σ H E I hf st hg
  subst hP hw hK
  obtain ⟨xs,hq,hx⟩:=hg
  obtain ⟨its,rv,p,hz⟩:=I.list hq
  obtain ⟨f0,f1,f2,f3,f4,f5⟩:=hf it (by simp)
  have hl:=rv.length
  exact wpAny_pyNext_list_end (I.ok.hd hc) st p.isList (by simp;omega) fun h' eb=>⟨rfl,I.turned (t':=s.toks) (fun b o hb e=>eb b o hb e) f0 f1 f3 f4 f5⟩
 self:=fun _ _ _ _ _ st h=>wpAny_pyIter_listiter st h
theorem uG {P:Program} {w:World} {K:PySem.W.Frag} {tg:Expr} (a it:Addr):wX P w K tg (Itt K a) [it] it (fun i h=>h.IsTupleIter it a i) where
 mem:=by simp
 obj:=fun i h st b hb=>by
  have e:b=it:=by simpa using hb
  subst e
  obtain ⟨o,e,c,d⟩:=st
  exact ⟨o,e,fun v z=>by rw [d] at z;cases z⟩
 keep:=fun i h h' st k=>st.at fun o e=>k it (by simp) o e
 item:=by
  intro X hP hw hK hc i pins s σ H E I hf st hg
  subst hP hw hK
  obtain ⟨xs,x,hq,hx⟩:=hg
  obtain ⟨its,rv,p,hz⟩:=I.tuple hq
  obtain ⟨u,hu,ru⟩:=rv.get hx
  obtain ⟨f0,f1,f2,f3,f4,f5⟩:=hf it (by simp)
  refine wpAny_pyNext_tuple_item st (show s.heap.IsTuple a its.toArray from p) (x:=u) (by simpa using hu) fun h' st' sb=>?_
  have I1:Inv X pins σ H { s with heap:=h' }:=I.turned (t':=s.toks) (fun b o hb e=>(sb.2 b hb).trans e) f0 f1 f3 f4 f5
  obtain ⟨o,e,c,d⟩:=id st'
  exact ⟨u,rfl,xP (s:={ s with heap:=h' }) e c d (by decide) ⟨x,H,I1,ru,⟨rfl,fun ys hy=>by rw [I.tuple_inj hy hq];exact hx⟩,st',fun b hb=>(hf b hb).1⟩⟩
 done:=by
  intro X hP hw hK hc i pins s σ H E I hf st hg
  subst hP hw hK
  obtain ⟨xs,hq,hx⟩:=hg
  obtain ⟨its,rv,p,hz⟩:=I.tuple hq
  obtain ⟨f0,f1,f2,f3,f4,f5⟩:=hf it (by simp)
  have hl:=rv.length
  exact wpAny_pyNext_tuple_end (I.ok.hd hc) st (show s.heap.IsTuple a its.toArray from p) (by simp;omega) fun h' eb=>⟨rfl,I.turned (t':=s.toks) (fun b o hb e=>eb b o hb e) f0 f1 f3 f4 f5⟩
 self:=fun _ _ _ _ _ st h=>wpAny_pyIter_tupleiter st h
theorem uM {P:Program} {w:World} {K:PySem.W.Frag} {tg:Expr} (it:Addr) (lo:Int) (n:Nat):wX P w K tg (Itr lo n) [it] it (fun i h=>IsRangeIter h it (lo+(i:Nat)*1) ((n:Int)-(i:Nat)) 1) where
 mem:=by simp
 obj:=fun i h st b hb=>by
  have e:b=it:=by simpa using hb
  subst e
  exact ⟨_,st,fun v z=>by
   have z':Data.fields _=Data.cell v:=z
   cases z'⟩
 keep:=fun i h h' st k=>k it (by simp) _ st
 item:=by
  intro X hP hw hK hc i pins s σ H E I hf st hg
  subst hP hw hK
  obtain ⟨f0,f1,f2,f3,f4,f5⟩:=hf it (by simp)
  have W:=Walks.range (prog:=X.prog) (w:=X.w) (I.ok.hd hc) it lo 1 n
  refine W.item i s _ _ hg st fun v h' tk hv st' kk=>?_
  obtain ⟨t,rfl⟩:=hv
  have I1:Inv X pins σ H { s with heap:=h',toks:=tk }:=I.turned (fun b o hb e=>kk b o (by simpa using hb) e) f0 f1 f3 f4 f5
  refine ⟨_,rfl,xP (s:={ s with heap:=h',toks:=tk }) (n:="range_iterator") st' rfl rfl (by decide) ⟨.int (lo+i),H,I1,⟨t,?_⟩,⟨rfl,rfl⟩,st',fun b hb=>(hf b hb).1⟩⟩
  rw [Int.mul_one]
 done:=by
  intro X hP hw hK hc i pins s σ H E I hf st hg
  subst hP hw hK
  obtain ⟨f0,f1,f2,f3,f4,f5⟩:=hf it (by simp)
  exact wpAny_pyNext_range_end (I.ok.hd hc) st (by have:n≤i:=hg;omega) fun h' eb=>⟨rfl,I.turned (t':=s.toks) (fun b o hb e=>eb b o hb e) f0 f1 f3 f4 f5⟩
 self:=fun _ _ _ _ _ st h=>wpAny_pyIter_rangeiter st h
end L2
namespace L2
open PySem PySem.Spec PyProof.Rows
section
variable {X:Cx} {tg:Expr}
theorem sN {pins:List (Addr × Obj)} {σ:St} {H:Hp} {s:Shared} {R:It→Hp→Prop} {E:Value→Shared→Prop} {lo hi:Int} {t u v:Tok} {tk:Nat} (I:Inv X pins σ H s) (h1:-(2 ^ 62)≤lo) (h2:lo<2 ^ 62) (h3:-(2 ^ 62)≤hi) (h4:hi<2 ^ 62)
  (q:R (Itr lo (hi-lo).toNat) H):wpAny (model X.prog X.w) X.A (pyIter (.ref s.heap.objs.size)) (PIE X pins σ tg R) E { s with heap:=s.heap.push { cls:=.type "range",data:=.fields #[.int lo t,.int hi u,.int 1 v] },toks:=tk }:=by
 refine wpAny_pyIter_range (IsRange.new ..) (small_one h1 h2 h3 h4) ?_
 have I1:Inv X pins σ H { s with heap:=s.heap.push { cls:=.type "range",data:=.fields #[.int lo t,.int hi u,.int 1 v] },toks:=tk }:=I.kept fun b o e=>Heap.get?_push_of_some _ e
 refine ⟨(s.heap.push { cls:=.type "range",data:=.fields #[.int lo t,.int hi u,.int 1 v] }).objs.size,[(s.heap.push { cls:=.type "range",data:=.fields #[.int lo t,.int hi u,.int 1 v] }).objs.size],_,_,H,rfl,
  I1.kept (t':=tk) fun b o e=>Heap.get?_push_of_some _ e,uM _ lo (hi-lo).toNat,?_,fun b hb=>?_,q⟩
 ·have e1:lo+((0:Nat):Int)*1=lo:=by simp
  have e2:(((hi-lo).toNat:Nat):Int)-((0:Nat):Int)=Builtin.Range.rangeSize lo hi 1:=by rw [rangeSize_one];split <;> omega
  show IsRangeIter _ _ (lo+((0:Nat):Int)*1) ((((hi-lo).toNat:Nat):Int)-((0:Nat):Int)) 1
  rw [e1,e2]
  exact Heap.get?_push_size _ rfl
 ·have e:b=(s.heap.push { cls:=.type "range",data:=.fields #[.int lo t,.int hi u,.int 1 v] }).objs.size:=by simpa using hb
  subst e
  exact I1.fpOk (Nat.le_refl _) (I1.hok.fresh (Nat.le_refl _))
noncomputable def Df (ta:TA):TI:=fun σ H R=>ta σ H fun vs H1=>∃j:Int,vs=[.int j]∧-(2 ^ 62)≤j∧j<2 ^ 62∧R (Itr 0 j.toNat) H1
noncomputable def Di (ta:TA):TI:=fun σ H R=>ta σ H fun vs H1=>∃i j:Int,vs=[.int i,.int j]∧(-(2 ^ 62)≤i∧i<2 ^ 62∧-(2 ^ 62)≤j∧j<2 ^ 62)∧R (Itr i (j-i).toNat) H1
theorem wO {a:Expr} {ta:TA} {p pos:Pos} (hg:Gl X "range") (hm:X.mg "range"=none) (ha:PA X [a] ta) (hs:starEach [a] X.env=[(false,eval a X.env)]:=by rfl):PI X tg (.Call (.Name "range" p) [a] [] pos) (Df ta):=by
 intro pins s σ H R I h
 refine Call_ (jp I hg hm boot_range (PyProof.Rows.callWith_type1 (thn (ha pos pins s σ H _ I h) fun us s1 ⟨vs,H1,I1,r1,q1⟩=>?_) hs rfl))
 obtain ⟨j,e,q1,q2,q⟩:=q1
 subst e
 cases r1 with
 | cons r rr =>
  cases rr
  obtain ⟨t,rfl⟩:=r
  exact call_range_1 (sN I1 (by omega) (by omega) q1 q2 (by simpa using q))
theorem xa {a b:Expr} {ta:TA} {p pos:Pos} (hg:Gl X "range") (hm:X.mg "range"=none) (ha:PA X [a,b] ta) (hs:starEach [a,b] X.env=[(false,eval a X.env),(false,eval b X.env)]:=by rfl) (hs2:starEach [b] X.env=[(false,eval b X.env)]:=by rfl) :
  PI X tg (.Call (.Name "range" p) [a,b] [] pos) (Di ta):=by
 intro pins s σ H R I h
 refine Call_ (jp I hg hm boot_range (PyProof.Rows.callWith_type1 (thn (ha pos pins s σ H _ I h) fun us s1 ⟨vs,H1,I1,r1,q1⟩=>?_) (by rw [hs,hs2]) (by rw [hs2];rfl)))
 obtain ⟨i,j,e,⟨q1,q2,q3,q4⟩,q⟩:=q1
 subst e
 cases r1 with
 | cons r rr =>
  cases rr with
  | cons r' rr =>
   cases rr
   obtain ⟨t,rfl⟩:=r
   obtain ⟨t',rfl⟩:=r'
   exact call_range_2 (sN I1 q1 q2 q3 q4 q)
noncomputable def C3 (wi:TI) (g:TG) (tb:TS):TS:=fun D σ H=>wi σ H fun J H1=>∃W:Nat→Nat→St→Hp→Prop,(∃m,W 0 m σ H1)∧∀i m σ H,W i m σ H →
 (J.stop i H∧D.nx σ H)∨(J.go i H∧∃N:St→Hp→Prop,(∀σ' H',N σ' H'→∃m',m'<m∧W (i+1) m' σ' H')∧∀x H',J.yld i H x H'→g x σ H' fun σ2 H2=>tb { D with nx:=N,ct:=N,bk:=D.nx } σ2 H2)
noncomputable def nQ (fp:List Addr) (h:Heap):List (Addr × Obj):=fp.filterMap fun b=>(h.get? b).map fun o=>(b,o)
theorem hJ {fp:List Addr} {h:Heap} {b:Addr} {o:Obj} (hb:b∈fp) (e:h.get? b=some o):(b,o)∈nQ fp h:=List.mem_filterMap.mpr ⟨b,hb,by rw [e];rfl⟩
theorem xb {fp:List Addr} {h:Heap} {p:Addr × Obj} (hp:p∈nQ fp h):p.1∈fp∧h.get? p.1=some p.2:=by
 obtain ⟨b,hb,e⟩:=List.mem_filterMap.mp hp
 cases q:h.get? b with
 | none=>rw [q] at e;cases e
 | some o =>
  rw [q] at e
  have e':(b,o)=p:=Option.some.inj e
  subst e'
  exact ⟨hb,q⟩
theorem Inv.pinned {pins:List (Addr × Obj)} {σ:St} {H:Hp} {s:Shared} {fp:List Addr} (I:Inv X pins σ H s) (hf:∀b∈fp,mW X pins H b) (ho:∀b∈fp,∃o,s.heap.get? b=some o∧∀v,o.data≠.cell v):Inv X (pins++nQ fp s.heap) σ H s :=
 I.pins_of fun p hp=>(List.mem_append.mp hp).elim (fun z=>I.pin p (List.mem_append_right _ z)) fun z=>by
  obtain ⟨hb,e⟩:=xb z
  obtain ⟨f0,f1,f2,_⟩:=hf p.1 hb
  obtain ⟨o,e',d⟩:=ho p.1 hb
  rw [e] at e';cases e'
  exact ⟨e,f0,f1,f2,d⟩
theorem Inv.unpinned {pins pl:List (Addr × Obj)} {σ:St} {H:Hp} {s:Shared} (I:Inv X (pins++pl) σ H s):Inv X pins σ H s:=I.pins_of fun p hp=>I.pin p (List.mem_append_right _ (List.mem_append_left _ hp))
theorem BD {iter:Expr} {body:List Stmt} {wi:TI} {g:TG} {tb:TS} {pos:Pos} (hp:PassesOwn (model X.prog X.w) X.A X.env X.xe) (hc:X.calm=true) (hi:PI X tg iter wi) (hg:PG X tg g) (hb:PSs X body tb)
  (hs:∀x,foldedSetIterable iter X.env x=pure x:=by intro _;rfl):PS X (.For tg iter body [] pos) (C3 wi g tb):=by
 intro pins s σ H D I h
 refine wpAny_For (thn (hi pins s σ H _ I h) fun v s1 h1=>thn h1 fun itv s2 h2=>?_) hs
 obtain ⟨it,fp,tn,J,H2,e,I2,T,st2,f2,W,⟨m0,w0⟩,turn⟩:=h2
 subst e
 have stat:∀ {H':Hp},(∀b∈fp,H' b=none)→∀b∈fp,mW X pins H' b:=fun hn b hb=>⟨hn b hb,(f2 b hb).2⟩
 refine codeAny_forLoop_any (fun n s'=>∃i σ' H',Inv X pins σ' H' s'∧tn i s'.heap∧(∀b∈fp,H' b=none)∧W i n σ' H') ?_ m0 ⟨0,σ,H2,I2,st2,fun b hb=>(f2 b hb).1,w0⟩
 rintro n s3 ⟨i,σ3,H3,I3,st3,fr3,w3⟩
 rcases turn i n σ3 H3 w3 with ⟨stop,qn⟩|⟨go,N,hN,step⟩
 ·refine wpAny_passesOwn hp (thn (T.done X rfl rfl rfl hc i pins s3 σ3 H3 X.xe I3 (stat fr3) st3 stop) fun r s4 ⟨hr,I4⟩=>?_)
  subst hr
  exact wpAny_execs_nil ⟨σ3,H3,I4,qn⟩
 ·refine wpAny_passesOwn hp (thn (T.item X rfl rfl rfl hc i pins s3 σ3 H3 X.xe I3 (stat fr3) st3 go) fun r s4 ⟨u,hr,h4⟩=>?_)
  subst hr
  refine wpAny_passesOwn hp (thn h4 fun _ s5 ⟨x,H5,I5,r5,y5,st5,fr5⟩=>?_)
  have I5':=I5.pinned (stat fr5) (T.obj _ _ st5)
  refine wpAny_passesOwn hp (thn (hg _ s5 σ3 H5 x u _ I5' r5 (step x H5 y5)) fun _ s6 ⟨σ6,H6,I6,q6⟩=>?_)
  refine wpAny_passesOwn hp (thn (hb _ s6 σ6 H6 _ I6 q6) fun f s7 q7=>?_)
  have again:∀ {σ7:St} {H7:Hp},Inv X (pins++nQ fp s5.heap) σ7 H7 s7→N σ7 H7→∃m,m<n∧∃i σ' H',Inv X pins σ' H' s7∧tn i s7.heap∧(∀b∈fp,H' b=none)∧W i m σ' H':=fun {σ7 H7} I7 n7=>by
   obtain ⟨m',hm,w7⟩:=hN σ7 H7 n7
   refine ⟨m',hm,i+1,σ7,H7,I7.unpinned,T.keep _ _ _ st5 fun b hb o e=>(I7.pin (b,o) (List.mem_append_right _ (List.mem_append_right _ (hJ hb e)))).1,fun b hb=>?_,w7⟩
   obtain ⟨o,e,d⟩:=T.obj _ _ st5 b hb
   exact (I7.pin (b,o) (List.mem_append_right _ (List.mem_append_right _ (hJ hb e)))).2.1
  cases f with
  | next=>obtain ⟨σ7,H7,I7,n7⟩:=q7;exact again I7 n7
  | cont=>obtain ⟨σ7,H7,I7,n7⟩:=q7;exact again I7 n7
  | brk=>obtain ⟨σ7,H7,I7,q7⟩:=q7;exact ⟨σ7,H7,I7.unpinned,q7⟩
  | ret v=>obtain ⟨x7,σ7,H7,I7,r7,q7⟩:=q7;exact ⟨x7,σ7,H7,I7.unpinned,r7,q7⟩
end
end L2
namespace L2
open PySem PySem.Spec PyProof.Rows
noncomputable abbrev R2:=V→V→Hp→VK→Prop
noncomputable def OpR (X:Cx) (f:Value→Value→Sem Value) (r:R2):Prop :=
 ∀(pins:List (Addr × Obj)) (s:Shared) (σ:St) (H:Hp) (x y:V) (v u:Value) (Q:VK),Inv X pins σ H s→RelV x v→RelV y u→r x y H Q →
  wpAny (model X.prog X.w) X.A (f v u) (EP X pins σ Q) X.xe s
noncomputable def UnR (X:Cx) (f:Value→Sem Value) (r:V→Hp→VK→Prop):Prop :=
 ∀(pins:List (Addr × Obj)) (s:Shared) (σ:St) (H:Hp) (x:V) (v:Value) (Q:VK),Inv X pins σ H s→RelV x v→r x H Q →
  wpAny (model X.prog X.w) X.A (f v) (EP X pins σ Q) X.xe s
noncomputable def eA (X:Cx) (f:Value) (r:List V→Hp→VK→Prop):Prop :=
 ∀(pins:List (Addr × Obj)) (s:Shared) (σ:St) (H:Hp) (xs:List V) (us:List Value) (Q:VK),Inv X pins σ H s→Vals xs us→r xs H Q →
  wpAny (model X.prog X.w) X.A (call f us) (EP X pins σ Q) X.xe s
noncomputable def EE (X:Cx) (r:V→Hp→(Bool→Hp→Prop)→Prop):Prop :=
 ∀(pins:List (Addr × Obj)) (s:Shared) (σ:St) (H:Hp) (x:V) (v:Value) (Q:Bool→Hp→Prop),Inv X pins σ H s→RelV x v→r x H Q →
  wpAny (model X.prog X.w) X.A (truthy v) (TP X pins σ Q) X.xe s
noncomputable def tOp (r:R2) (ta tb:TE):TE:=fun σ H Q=>ta σ H fun x H1=>tb σ H1 fun y H2=>r x y H2 Q
noncomputable def tUn (r:V→Hp→VK→Prop) (ta:TE):TE:=fun σ H Q=>ta σ H fun x H1=>r x H1 Q
noncomputable def rI (C:Int→Int→Prop) (g:Int→Int→V):R2:=fun x y H Q=>∃i j,x=.int i∧y=.int j∧C i j∧Q (g i j) H
noncomputable def rI0 (g:Int→Int→V):R2:=fun x y H Q=>∃i j,x=.int i∧y=.int j∧Q (g i j) H
noncomputable def rU (g:Int→V):V→Hp→VK→Prop:=fun x H Q=>∃i,x=.int i∧Q (g i) H
section
variable {X:Cx} {a b c:Expr} {ta tb tc:TE} {pos:Pos}
theorem BG (ha:PE X a ta) (hb:PE X b tb) {pins:List (Addr × Obj)} {s:Shared} {σ:St} {H:Hp} {R:V→V→Hp→Prop} (I:Inv X pins σ H s)
  (h:ta σ H fun x H1=>tb σ H1 fun y H2=>R x y H2) {Q:Value→Shared→Prop} {f:Value→Value→Sem Value}
  (hf:∀v u s2 x y H2,Inv X pins σ H2 s2→RelV x v→RelV y u→R x y H2→wpAny (model X.prog X.w) X.A (f v u) Q X.xe s2) :
  wpAny (model X.prog X.w) X.A (eval a X.env) (fun v s₁=>wpAny (model X.prog X.w) X.A (eval b X.env) (fun u s₂=>wpAny (model X.prog X.w) X.A (f v u) Q X.xe s₂) X.xe s₁) X.xe s:=by
 refine thn (ha pins s σ H _ I h) fun v s1 ⟨x,H1,I1,r1,q1⟩=>?_
 refine thn (hb pins s1 σ H1 _ I1 q1) fun u s2 ⟨y,H2,I2,r2,q2⟩=>?_
 exact hf v u s2 x y H2 I2 r1 r2 q2
theorem Dr {op:Operator} {r:R2} (ho:OpR X (binaryOp op) r) (ha:PE X a ta) (hb:PE X b tb):PE X (.BinOp a op b pos) (tOp r ta tb):=by
 intro pins s σ H Q I h
 exact wpAny_BinOp (BG ha hb I h fun v u s2 x y H2 I2 rx ry q=>ho pins s2 σ H2 x y v u Q I2 rx ry q)
theorem Dq {op:UnaryOp} {r:V→Hp→VK→Prop} (ho:UnR X (unaryOp op) r) (ha:PE X a ta):PE X (.UnaryOp op a pos) (tUn r ta):=by
 intro pins s σ H Q I h
 exact UnaryOp_ (thn (ha pins s σ H _ I h) fun v s1 ⟨x,H1,I1,r1,q1⟩=>ho pins s1 σ H1 x v Q I1 r1 q1)
theorem opI {f:Value→Value→Sem Value} {C:Int→Int→Prop} {g:Int→Int→Int}
  (rule:∀(i j:Int) (t u:Tok) (s:Shared) (Q:Value→Shared→Prop) (E:Value→Shared→Prop),C i j→Q (.int (g i j) s.toks) { s with toks:=s.toks+1 }→wpAny (model X.prog X.w) X.A (f (.int i t) (.int j u)) Q E s) :
  OpR X f (rI C fun i j=>.int (g i j)):=by
 intro pins s σ H x y v u Q I rx ry h
 obtain ⟨i,j,rfl,rfl,hc,q⟩:=h
 obtain ⟨t,rfl⟩:=rx
 obtain ⟨t',rfl⟩:=ry
 exact rule i j t t' s _ _ hc ⟨.int (g i j),H,I.tok _,⟨_,rfl⟩,q⟩
theorem DH {f:Value→Value→Sem Value} {g:Int→Int→Int}
  (rule:∀(i j:Int) (t u:Tok) (s:Shared) (Q:Value→Shared→Prop) (E:Value→Shared→Prop),Q (.int (g i j) s.toks) { s with toks:=s.toks+1 }→wpAny (model X.prog X.w) X.A (f (.int i t) (.int j u)) Q E s) :
  OpR X f (rI0 fun i j=>.int (g i j)):=by
 intro pins s σ H x y v u Q I rx ry h
 obtain ⟨i,j,rfl,rfl,q⟩:=h
 obtain ⟨t,rfl⟩:=rx
 obtain ⟨t',rfl⟩:=ry
 exact rule i j t t' s _ _ ⟨.int (g i j),H,I.tok _,⟨_,rfl⟩,q⟩
theorem Av {f:Value→Value→Sem Value} {g:Int→Int→Bool}
  (rule:∀(i j:Int) (t u:Tok) (s:Shared) (Q:Value→Shared→Prop) (E:Value→Shared→Prop),Q (.bool (g i j)) s→wpAny (model X.prog X.w) X.A (f (.int i t) (.int j u)) Q E s) :
  OpR X f (rI0 fun i j=>.bl (g i j)):=by
 intro pins s σ H x y v u Q I rx ry h
 obtain ⟨i,j,rfl,rfl,q⟩:=h
 obtain ⟨t,rfl⟩:=rx
 obtain ⟨t',rfl⟩:=ry
 exact rule i j t t' s _ _ ⟨.bl (g i j),H,I,rfl,q⟩
noncomputable def vc (i j:Int):Prop:=0≤j∧j≤1000000∧i.natAbs<2 ^ 64
theorem Cw:OpR X (binaryOp .Add) (rI0 fun i j=>.int (i+j)):=DH fun _ _ _ _ _ _ _ q=>add_int q
theorem B8:OpR X (binaryOp .Sub) (rI0 fun i j=>.int (i-j)):=DH fun _ _ _ _ _ _ _ q=>sub_int q
theorem CL:OpR X (binaryOp .Mod) (rI (fun _ j=>0<j) fun i j=>.int (i % j)):=opI fun i j _ _ _ _ _ hc q=>by
 have h1:(0:Int)<j:=hc
 exact mod_int' (by omega) (by rw [Int.fmod_eq_emod_of_nonneg i (by omega)];exact q)
theorem Cm:OpR X (binaryOp .Pow) (rI vc fun i j=>.int (i ^ j.toNat)):=opI fun _ _ _ _ _ _ _ hc q=>pow_int_small hc.1 hc.2.1 hc.2.2 q
theorem unI {f:Value→Sem Value} {g:Int→Int}
  (rule:∀(i:Int) (t:Tok) (s:Shared) (Q:Value→Shared→Prop) (E:Value→Shared→Prop),Q (.int (g i) s.toks) { s with toks:=s.toks+1 }→wpAny (model X.prog X.w) X.A (f (.int i t)) Q E s) :
  UnR X f (rU fun i=>.int (g i)):=by
 intro pins s σ H x v Q I rx h
 obtain ⟨i,rfl,q⟩:=h
 obtain ⟨t,rfl⟩:=rx
 exact rule i t s _ _ ⟨.int (g i),H,I.tok _,⟨_,rfl⟩,q⟩
theorem B1:UnR X (unaryOp .USub) (rU fun i=>.int (-i)):=unI fun _ _ _ _ _ q=>neg_int q
end
noncomputable def Dh:V→V→Bool
 | .non,.non=>true | .non,.int _=>true | .int _,.non=>true | .non,.bl _=>true | .bl _,.non=>true | .non,.str _=>true | .str _,.non=>true
 | .int _,.int _=>true | .bl _,.bl _=>true | .str _,.str _=>true | .byt _,.byt _=>true
 | .int _,.str _=>true | .str _,.int _=>true | .bl _,.str _=>true | .str _,.bl _=>true
 | _,_=>false
noncomputable def rEq:R2:=fun x y H Q=>Dh x y=true∧Q (.bl (decide (x=y))) H
noncomputable def rNe:R2:=fun x y H Q=>Dh x y=true∧Q (.bl (!decide (x=y))) H
theorem vR {i j:Int}:decide (V.int i=V.int j)=(i == j):=by
 rw [Bool.eq_iff_iff]
 simp
theorem yg {i j:Bool}:decide (V.bl i=V.bl j)=(i == j):=by
 rw [Bool.eq_iff_iff]
 simp
theorem vT {i j:Str}:decide (V.str i=V.str j)=(i == j):=by
 rw [Bool.eq_iff_iff]
 simp
theorem vO {i j:Array UInt8}:decide (V.byt i=V.byt j)=(i.toList == j.toList):=by
 rw [Bool.eq_iff_iff]
 cases i
 cases j
 simp
section
variable {X:Cx} {a b c:Expr} {ta tb tc:TE} {pos:Pos}
theorem ao {pins:List (Addr × Obj)} {σ:St} {H:Hp} {s:Shared} {Q:VK} {k k':Bool} (I:Inv X pins σ H s) (q:Q (.bl k) H) (e:k=k'):EP X pins σ Q (.bool k') s:=by
 subst e
 exact ⟨.bl k,H,I,rfl,q⟩
theorem xE:OpR X (compareOp .Eq) rEq:=by
 intro pins s σ H x y v u Q I rx ry h
 obtain ⟨hs,q⟩:=h
 cases x with
 | non =>
  cases rx
  cases y with
  | non=>cases ry;exact PySem.EqNone.eq_none_none (ao I q (by simp))
  | bl j=>cases ry;exact PySem.EqNone.eq_none_bool (ao I q (by simp))
  | int j=>obtain ⟨t',rfl⟩:=ry;exact PySem.EqNone.eq_none_int (ao I q (by simp))
  | str j=>obtain ⟨t',rfl⟩:=ry;exact PySem.EqNone.eq_none_str (ao I q (by simp))
  | _=>exact absurd (show false=true from hs) Bool.false_ne_true
 | bl i =>
  cases rx
  cases y with
  | non=>cases ry;exact PySem.EqNone.eq_bool_none (ao I q (by simp))
  | bl j=>cases ry;exact eq_bool (ao I q yg)
  | str j=>obtain ⟨t',rfl⟩:=ry;exact PySem.EqMixed.eq_bool_str (ao I q (by simp))
  | _=>exact absurd (show false=true from hs) Bool.false_ne_true
 | int i =>
  obtain ⟨t,rfl⟩:=rx
  cases y with
  | non=>cases ry;exact PySem.EqNone.eq_int_none (ao I q (by simp))
  | int j=>obtain ⟨t',rfl⟩:=ry;exact eq_int (ao I q vR)
  | str j=>obtain ⟨t',rfl⟩:=ry;exact PySem.EqMixed.eq_int_str (ao I q (by simp))
  | _=>exact absurd (show false=true from hs) Bool.false_ne_true
 | str i =>
  obtain ⟨t,rfl⟩:=rx
  cases y with
  | non=>cases ry;exact PySem.EqNone.eq_str_none (ao I q (by simp))
  | bl j=>cases ry;exact PySem.EqMixed.eq_str_bool (ao I q (by simp))
  | int j=>obtain ⟨t',rfl⟩:=ry;exact PySem.EqMixed.eq_str_int (ao I q (by simp))
  | str j=>obtain ⟨t',rfl⟩:=ry;exact eq_str (ao I q vT)
  | _=>exact absurd (show false=true from hs) Bool.false_ne_true
 | byt i =>
  obtain ⟨t,rfl⟩:=rx
  cases y with
  | byt j=>obtain ⟨t',rfl⟩:=ry;exact PySem.W.eq_bytes (ao I q vO)
  | _=>exact absurd (show false=true from hs) Bool.false_ne_true
 | _=>cases y <;> exact absurd (show false=true from hs) Bool.false_ne_true
theorem xC:OpR X (compareOp .NotEq) rNe:=by
 intro pins s σ H x y v u Q I rx ry h
 obtain ⟨hs,q⟩:=h
 cases x with
 | non =>
  cases rx
  cases y with
  | non=>cases ry;exact PySem.EqNone.ne_none_none (ao I q (by simp))
  | bl j=>cases ry;exact PySem.EqNone.ne_none_bool (ao I q (by simp))
  | int j=>obtain ⟨t',rfl⟩:=ry;exact PySem.EqNone.ne_none_int (ao I q (by simp))
  | str j=>obtain ⟨t',rfl⟩:=ry;exact PySem.EqNone.ne_none_str (ao I q (by simp))
  | _=>exact absurd (show false=true from hs) Bool.false_ne_true
 | bl i =>
  cases rx
  cases y with
  | non=>cases ry;exact PySem.EqNone.ne_bool_none (ao I q (by simp))
  | bl j=>cases ry;exact ne_bool (ao I q (congrArg not yg))
  | str j=>obtain ⟨t',rfl⟩:=ry;exact PySem.EqMixed.ne_bool_str (ao I q (by simp))
  | _=>exact absurd (show false=true from hs) Bool.false_ne_true
 | int i =>
  obtain ⟨t,rfl⟩:=rx
  cases y with
  | non=>cases ry;exact PySem.EqNone.ne_int_none (ao I q (by simp))
  | int j=>obtain ⟨t',rfl⟩:=ry;exact ne_int (ao I q (congrArg not vR))
  | str j=>obtain ⟨t',rfl⟩:=ry;exact PySem.EqMixed.ne_int_str (ao I q (by simp))
  | _=>exact absurd (show false=true from hs) Bool.false_ne_true
 | str i =>
  obtain ⟨t,rfl⟩:=rx
  cases y with
  | non=>cases ry;exact PySem.EqNone.ne_str_none (ao I q (by simp))
  | bl j=>cases ry;exact PySem.EqMixed.ne_str_bool (ao I q (by simp))
  | int j=>obtain ⟨t',rfl⟩:=ry;exact PySem.EqMixed.ne_str_int (ao I q (by simp))
  | str j=>obtain ⟨t',rfl⟩:=ry;exact ne_str (ao I q (congrArg not vT))
  | _=>exact absurd (show false=true from hs) Bool.false_ne_true
 | byt i =>
  obtain ⟨t,rfl⟩:=rx
  cases y with
  | byt j=>obtain ⟨t',rfl⟩:=ry;exact PySem.W.ne_bytes (ao I q (congrArg not vO))
  | _=>exact absurd (show false=true from hs) Bool.false_ne_true
 | _=>cases y <;> exact absurd (show false=true from hs) Bool.false_ne_true
theorem C8:OpR X (compareOp .Lt) (rI0 fun i j=>.bl (decide (i<j))):=Av fun _ _ _ _ _ _ _ q=>lt_int q
theorem Da:OpR X (compareOp .LtE) (rI0 fun i j=>.bl (decide (i≤j))):=Av fun _ _ _ _ _ _ _ q=>le_int q
theorem C4:OpR X (compareOp .Gt) (rI0 fun i j=>.bl (decide (j<i))):=Av fun _ _ _ _ _ _ _ q=>gt_int q
theorem C9:OpR X (compareOp .GtE) (rI0 fun i j=>.bl (decide (j≤i))):=Av fun _ _ _ _ _ _ _ q=>ge_int q
theorem wW:OpR X (compareOp .In) (fun x y H Q=>∃i j,x=.str i∧y=.str j∧Q (.bl (!(Builtin.Str.occurrences j i 0 j.length 1).isEmpty)) H):=by
 intro pins s σ H x y v u Q I rx ry h
 obtain ⟨i,j,rfl,rfl,q⟩:=h
 obtain ⟨t,rfl⟩:=rx
 obtain ⟨t',rfl⟩:=ry
 exact in_str (ao I q rfl)
theorem BW:OpR X (compareOp .Is) (fun x y H Q=>y=.non∧Q (.bl (decide (x=.non))) H):=by
 intro pins s σ H x y v u Q I rx ry h
 obtain ⟨rfl,q⟩:=h
 cases ry
 refine is_none_gen (ao I q ?_)
 cases x <;> first
  | (cases rx;rfl)
  | (obtain ⟨t,rfl⟩:=rx;rfl)
theorem Aw:OpR X (compareOp .IsNot) (fun x y H Q=>y=.non∧Q (.bl (!decide (x=.non))) H):=by
 intro pins s σ H x y v u Q I rx ry h
 obtain ⟨rfl,q⟩:=h
 cases ry
 refine isnot_none_gen (ao I q ?_)
 cases x <;> first
  | (cases rx;rfl)
  | (obtain ⟨t,rfl⟩:=rx;rfl)
theorem Ap {op:CmpOp} {r:R2} (ho:OpR X (compareOp op) r) (ha:PE X a ta) (hb:PE X b tb) (hm:behindInMarks op b=false):PE X (.Compare a [op] [b] pos) (tOp r ta tb):=by
 intro pins s σ H Q I h
 exact wpAny_Compare1 (BG ha hb I h fun v u s2 x y H2 I2 rx ry q=>ho pins s2 σ H2 x y v u Q I2 rx ry q) hm
noncomputable def CT (t:TE):TT:=fun σ H Q=>t σ H fun x H'=>∃k,x=.bl k∧Q k H'
theorem Ad {op:CmpOp} {r:R2} (ho:OpR X (compareOp op) r) (ha:PE X a ta) (hb:PE X b tb) (hm:behindInMarks op b=false):PT X (.Compare a [op] [b] pos) (CT (tOp r ta tb)):=by
 intro pins s σ H Q I h
 refine wpAny_isTrue_Compare1 (thn (ha pins s σ H _ I h) fun v s1 ⟨x,H1,I1,r1,q1⟩=>thn (hb pins s1 σ H1 _ I1 q1) fun u s2 ⟨y,H2,I2,r2,q2⟩ =>
  thn (ho pins s2 σ H2 x y v u _ I2 r1 r2 q2) fun c s3 ⟨z,H3,I3,r3,k,e,q3⟩=>?_) hm
 subst e
 cases r3
 exact wpAny_truthy_bool ⟨H3,I3,q3⟩
noncomputable def B2 (K:PySem.W.Frag) (x:V) (H:Hp) (k:Bool):Prop :=
 match x with
 | .non=>k=false
 | .bl b=>k=b
 | .int i=>k=(i != 0)
 | .str y=>y.length≤sizeLine∧k=((y.length:Int) != 0)
 | .byt y=>y.size≤sizeLine∧k=((y.size:Int) != 0)
 | .ref p=>(∃xs,SqL K H p xs∧k=!xs.isEmpty)∨(∃xs,SqT K H p xs∧k=!xs.isEmpty)∨∃kvs,H p=some (.dK kvs)∧k=!kvs.isEmpty
 | _=>False
theorem u0 {κ:Type} {kvs:List (κ × V)} {vs:List (κ × Value)} (r:KV kvs vs):(!vs.isEmpty)=!kvs.isEmpty:=by
 cases r <;> rfl
theorem og {xs:List V} {its:List Value} (r:Vals xs its):(!its.toArray.isEmpty)=!xs.isEmpty:=by
 cases r <;> simp
theorem jt:(sizeLine:Nat)<2 ^ 63:=by rw [sizeLine_eq];decide
theorem BS:EE X (fun x H Q=>∃k,B2 X.K x H k∧Q k H):=by
 intro pins s σ H x v Q I rx h
 obtain ⟨k,e,q⟩:=h
 have hl:=jt
 have hs:sizeLine=16777216:=sizeLine_eq
 cases x with
 | non =>
  cases rx
  have e':k=false:=e
  subst e'
  exact truthy_none ⟨H,I,q⟩
 | bl b =>
  cases rx
  have e':k=b:=e
  subst e'
  exact wpAny_truthy_bool ⟨H,I,q⟩
 | int i =>
  obtain ⟨t,rfl⟩:=rx
  have e':k=(i != 0):=e
  subst e'
  exact PySem.P.truthy_int ⟨H,I,q⟩
 | str y =>
  obtain ⟨t,rfl⟩:=rx
  obtain ⟨hy,e'⟩:y.length≤sizeLine∧k=((y.length:Int) != 0):=e
  subst e'
  exact PySem.P.truthy_str (by omega) ⟨H,I.tok _,q⟩
 | byt y =>
  obtain ⟨t,rfl⟩:=rx
  obtain ⟨hy,e'⟩:y.size≤sizeLine∧k=((y.size:Int) != 0):=e
  subst e'
  exact PySem.W.truthy_bytes (by omega) ⟨H,I.tok _,q⟩
 | ref p =>
  cases rx
  have e':(∃xs,SqL X.K H p xs∧k=!xs.isEmpty)∨(∃xs,SqT X.K H p xs∧k=!xs.isEmpty)∨∃kvs,H p=some (.dK kvs)∧k=!kvs.isEmpty:=e
  rcases e' with ⟨xs,hx,e'⟩|⟨xs,hx,e'⟩|⟨kvs,hx,e'⟩
  ·subst e'
   obtain ⟨its,r,pl,hz⟩:=I.list hx
   have hlen:=r.length
   exact wpAny_truthy_list pl.isList (by simp only [List.size_toArray];omega) ⟨H,I.tok _,by rw [og r];exact q⟩
  ·subst e'
   obtain ⟨its,r,pl,hz⟩:=I.tuple hx
   have hlen:=r.length
   exact truthy_tuple pl (by simp only [List.size_toArray];omega) ⟨H,I.tok _,by rw [og r];exact q⟩
  ·subst e'
   obtain ⟨hz,hS,vs,r,m⟩:kvs.length≤sizeLine∧(p == sysModules)=false∧∃vs,KV kvs vs∧s.heap.DictOf (bG X.prog X.w) p vs:=I.hok p _ hx
   have hlen:kvs.length=vs.length:=Paired.length r
   exact wpAny_truthy_dict hS m (by omega) ⟨H,I.tok _,by rw [u0 r];exact q⟩
 | _=>exact (show False from e).elim
theorem fw (ha:PE X a ta) (he:∀whole,isTrue a X.env whole=(do let v ←whole;standAt a.pos;holding [v] (truthy v))) :
  PT X a (fun σ H Q=>ta σ H fun x H'=>∃k,B2 X.K x H' k∧Q k H'):=by
 intro pins s σ H Q I h
 exact isTrue_plain (thn (ha pins s σ H _ I h) fun v s1 ⟨x,H1,I1,r1,q1⟩=>BS pins s1 σ H1 x v Q I1 r1 q1) (he _)
theorem vi:OpR X (binaryOp .Add) (fun x y H Q=>∃i j,x=.str i∧y=.str j∧i.length+j.length≤sizeLine∧Q (.str (i++j)) H):=by
 intro pins s σ H x y v u Q I rx ry h
 obtain ⟨i,j,rfl,rfl,hz,q⟩:=h
 obtain ⟨t,rfl⟩:=rx
 obtain ⟨t',rfl⟩:=ry
 exact add_str (fun t' tk=>⟨.str (i++j),H,I.tok _,⟨_,rfl⟩,q⟩) hz
theorem nF {x:V} {us:List Value} (r:Vals [x] us):∃u,us=[u]∧RelV x u:=by
 cases r with
 | cons r1 r2=>cases r2;exact ⟨_,rfl,r1⟩
theorem tu {x y:V} {us:List Value} (r:Vals [x,y] us):∃u w',us=[u,w']∧RelV x u∧RelV y w':=by
 cases r with
 | cons r1 r2 =>
  cases r2 with
  | cons r3 r4=>cases r4;exact ⟨_,_,rfl,r1,r3⟩
theorem xy:eA X (.builtin "abs") (fun xs H Q=>∃i,xs=[.int i]∧Q (.int (if i<0 then -i else i)) H):=by
 intro pins s σ H xs us Q I r h
 obtain ⟨i,rfl,q⟩:=h
 obtain ⟨u,rfl,t,rfl⟩:=nF r
 exact call_abs_int fun u tk=>⟨.int (if i<0 then -i else i),H,I.tok _,⟨_,rfl⟩,q⟩
theorem wL (hc:X.calm=true):eA X (.builtin "max") (fun xs H Q=>∃i j,xs=[.int i,.int j]∧Q (.int (if j > i then j else i)) H):=by
 intro pins s σ H xs us Q I r h
 obtain ⟨i,j,rfl,q⟩:=h
 obtain ⟨u,w',rfl,⟨t,rfl⟩,⟨t',rfl⟩⟩:=tu r
 refine max_two_ints (I.ok.hd hc) fun h' tk k=>⟨_,H,I.kept k,?_,q⟩
 by_cases hj:j > i
 ·rw [if_pos hj,if_pos hj];exact ⟨_,rfl⟩
 ·rw [if_neg hj,if_neg hj];exact ⟨_,rfl⟩
theorem xt (hc:X.calm=true):eA X (.builtin "min") (fun xs H Q=>∃i j,xs=[.int i,.int j]∧Q (.int (if j<i then j else i)) H):=by
 intro pins s σ H xs us Q I r h
 obtain ⟨i,j,rfl,q⟩:=h
 obtain ⟨u,w',rfl,⟨t,rfl⟩,⟨t',rfl⟩⟩:=tu r
 refine min_two_ints (I.ok.hd hc) fun h' tk k=>⟨_,H,I.kept k,?_,q⟩
 by_cases hj:j<i
 ·rw [if_pos hj,if_pos hj];exact ⟨_,rfl⟩
 ·rw [if_neg hj,if_neg hj];exact ⟨_,rfl⟩
end
end L2
namespace L2
open PySem PySem.Spec PyProof.Rows
structure ObjM (h:Heap) (x dx C:Addr) (mA:Str→Option Value):Prop where
 obj:h.get? x=some (PySem.W.instObj C dx)
 ns:h.Ns1 dx mA
 ne:dx≠x
theorem wC {h:Heap} {dx:Addr} {mA:Str→Option Value} (n:h.Ns1 dx mA):∃od,h.get? dx=some od∧∀name,PySem.W.lookIn name od=some (mA name):=by
 obtain ⟨o,es,ep,ho,hd,hk,_,hm⟩:=n
 refine ⟨o,ho,fun name=>?_⟩
 have e:=hm name
 unfold nsFind findBy at e
 rw [←Array.find?_toList] at e
 unfold PySem.W.lookIn
 rw [hd]
 dsimp only
 split
 ·rename_i y q
  rw [q] at e
  exact congrArg some e
 ·rename_i q
  rw [q] at e
  have a:es.toList.any (·.refKey)=false:=by
   rw [List.any_eq_false]
   intro y hy
   obtain ⟨z,t,hkey⟩:=hk y (Array.mem_toList_iff.mp hy)
   simp [DictEntry.refKey,hkey]
  have a':¬es.toList.any (·.refKey)=true:=by rw [a];exact Bool.false_ne_true
  rw [if_neg a']
  exact congrArg some e
theorem ObjM.look {h:Heap} {x dx C:Addr} {mA:Str→Option Value} (I:ObjM h x dx C mA):∃od,PySem.W.InstAt h x (PySem.W.instObj C dx) C (some od)∧∀name,PySem.W.lookIn name od=some (mA name) :=
 let ⟨od,ho,hl⟩:=wC I.ns
 ⟨od,⟨I.obj,rfl,rfl,ho⟩,hl⟩
section
variable {prog:Program} {w:World} {A:Around} {E:Value→Shared→Prop} {s:Shared} {K:PySem.W.Frag} {x dx C f:Addr} {mA:Str→Option Value} {name:Str} {v:Value}
end
theorem RelO.some_of {v:V} {o:Option Value} (r:RelO (some v) o):∃u,o=some u∧RelV v u:=by
 cases o with
 | none=>exact (show False from r).elim
 | some u=>exact ⟨u,rfl,r⟩
section
variable {P:Program} {w:World} {H H':Hp} {h h':Heap} {a C dx:Addr} {fs fs':List (Str × V)}
theorem Ay (hok:HOk P w H h) (e:H a=some (.ins C dx fs)):∃mA,ObjM h a dx C mA∧(∀f,RelO (fs.lookup f) (mA f))∧PySem.Within mA (fs.map (·.1))∧fs.length≤1000∧H dx=some (.own a):=by
 obtain ⟨d,z,ne,ob,mA,n,r,q⟩:=(show ObjOk P w H h a (.ins C dx fs) from hok a _ e)
 exact ⟨mA,⟨ob,n,ne⟩,r,q,z,d⟩
end
structure Cls (K:PySem.W.Frag) (C:Addr):Prop where
 pg:PySem.W.plainGet K C Str.empty=true
 hd:PySem.W.hasDictIn K C=true
 po:PySem.W.plainOver K C=true
 sa:PySem.W.findIn K (.ref C) "__setattr__"=some (some (.builtin "object.__setattr__"))
theorem Cls.get {K:PySem.W.Frag} {C:Addr} (c:Cls K C) (f:Str):PySem.W.plainGet K C f=true:=c.pg
structure Con (K:PySem.W.Frag) (C:Addr) (f:Str) (v:V) (u:Value):Prop where
 at_:PySem.W.findIn K (.ref C) f=some (some u)
 rel:RelV v u
 get:PySem.W.specialIn K u "__get__"=some none
 cp:PySem.W.copiedNames.contains f=false
structure EQ (K:PySem.W.Frag) (C:Addr) (m:Str) (f:Addr):Prop where
 at_:PySem.W.findIn K (.ref C) m=some (some (.ref f))
 fn:PySem.W.isFn K (.ref f)=true
 kp:PySem.W.keepIn K (.ref f)=true
section
variable {X:Cx} {pins:List (Addr × Obj)} {σ:St} {H:Hp} {s:Shared} {a C dx:Addr} {fs:List (Str × V)} {f:Str} {v:V} {A:Around} {E:Value→Shared→Prop}
end
section
variable {X:Cx} {o e value:Expr} {f:Str} {pos pos' tpos:Pos} {ta tv:TE}
end
section
variable {X:Cx} {pins:List (Addr × Obj)} {σ:St} {H:Hp} {s:Shared} {A:Around} {E:Value→Shared→Prop} {Q:Value→Shared→Prop} {c:Value} {b:Bool}
inductive mO (K:PySem.W.Frag) (H:Hp):V→Value→Prop where
 | non:mO K H .non (.type "NoneType")
 | bl (x:Bool):mO K H (.bl x) (.type "bool")
 | int (i:Int):mO K H (.int i) (.type "int")
 | str (x:Str):mO K H (.str x) (.type "str")
 | flt (x:UInt64):mO K H (.flt x) (.type "float")
 | lst {a:Addr} {xs:List V} (e:H a=some (.lst xs)):mO K H (.ref a) (.type "list")
 | frz {a:Addr} {o:Obj} {xs:List V} (e:H a=some (.frz o (.lst xs))):mO K H (.ref a) (.type "list")
 | tup {a:Addr} {xs:List V} (e:H a=some (.tup xs)):mO K H (.ref a) (.type "tuple")
 | dK {a:Addr} {kvs:List (Key × V)} (e:H a=some (.dK kvs)):mO K H (.ref a) (.type "dict")
 | dT {a:Addr} {kvs:List (List Key × V)} (e:H a=some (.dT kvs)):mO K H (.ref a) (.type "dict")
 | ins {a C dx:Addr} {fs:List (Str × V)} (e:H a=some (.ins C dx fs)) (cl:Cls K C) (ha:PySem.W.findIn K (.ref C) "__class__"=some (some (.builtin "object.__class__")))
   (hn:PySem.W.specialIn K (.builtin "object.__class__") "__get__"=some (some (.builtin "getset_descriptor.__get__"))) (htk:PySem.W.takesIn K (.builtin "object.__class__")=some true)
   (hm:PySem.W.mroIn K C (.type "object")=some true):mO K H (.ref a) (.ref C)
theorem ei {x:V} {u t:Value} (I:Inv X pins σ H s) (rx:RelV x u) (ty:mO X.K H x t) (e:PySem.W.kitOne X.K t c=some b) (h:∀tk,Q (.bool b) { s with toks:=tk }) :
  wpAny (model X.prog X.w) A (call (.builtin "isinstance") [u,c]) Q E s:=by
 cases ty with
 | non=>cases (show u=Value.none from rx);exact PySem.W.kia_one PySem.W.kitx_none I.kIn True.intro e (fun z=>nomatch z) h
 | bl y=>cases (show u=Value.bool y from rx);exact PySem.W.kia_one PySem.W.kitx_bool I.kIn True.intro e (fun z=>nomatch z) h
 | int i=>obtain ⟨t,q⟩:=(show ∃t,u=Value.int i t from rx);cases q;exact PySem.W.kia_one PySem.W.kitx_int I.kIn True.intro e (fun z=>nomatch z) h
 | str y=>obtain ⟨t,q⟩:=(show ∃t,u=Value.str y t from rx);cases q;exact PySem.W.kia_one PySem.W.kitx_str I.kIn True.intro e (fun z=>nomatch z) h
 | flt y=>obtain ⟨t,q⟩:=(show ∃t,u=Value.float y t from rx);cases q;exact PySem.W.kia_one PySem.W.kitx_float I.kIn True.intro e (fun z=>nomatch z) h
 | @lst a xs ea =>
  cases (show u=Value.ref a from rx)
  obtain ⟨_,_,n,_,h1⟩:=(show ObjOk X.prog X.w H s.heap a (.lst xs) from I.hok a _ ea)
  exact PySem.W.kia_one PySem.W.kitx_list I.kIn ⟨_,h1,rfl⟩ e (fun z=>nomatch z) h
 | @frz a ob xs ea =>
  cases (show u=Value.ref a from rx)
  obtain ⟨_,_,_,n,_,h1⟩:=(show ObjOk X.prog X.w H s.heap a (.frz ob (.lst xs)) from I.hok a _ ea)
  exact PySem.W.kia_one PySem.W.kitx_list I.kIn ⟨_,h1,rfl⟩ e (fun z=>nomatch z) h
 | @tup a xs ea =>
  cases (show u=Value.ref a from rx)
  obtain ⟨_,_,_,p⟩:=(show ObjOk X.prog X.w H s.heap a (.tup xs) from I.hok a _ ea)
  obtain ⟨o,h1,h2,_⟩:=p
  exact PySem.W.kia_one PySem.W.kitx_tuple I.kIn ⟨o,h1,h2⟩ e (fun z=>nomatch z) h
 | @dK a kvs ea =>
  cases (show u=Value.ref a from rx)
  obtain ⟨_,_,vs,_,p⟩:=(show ObjOk X.prog X.w H s.heap a (.dK kvs) from I.hok a _ ea)
  obtain ⟨o,es,ep,h1,h2,_⟩:=p
  exact PySem.W.kia_one PySem.W.kitx_dict I.kIn ⟨o,h1,h2.1⟩ e (fun z=>nomatch z) h
 | @dT a kvs ea =>
  cases (show u=Value.ref a from rx)
  obtain ⟨_,_,xs,_,o,es,ep,h1,h2,_⟩:=(show ObjOk X.prog X.w H s.heap a (.dT kvs) from I.hok a _ ea)
  exact PySem.W.kia_one PySem.W.kitx_dict I.kIn ⟨o,h1,h2.1⟩ e (fun z=>nomatch z) h
 | @ins a C dx fs ea cl ha hn htk hm =>
  cases (show u=Value.ref a from rx)
  obtain ⟨mA,O,_⟩:=Ay I.hok ea
  obtain ⟨od,J,_⟩:=O.look
  exact PySem.W.kia_one (PySem.W.kitx_own (cl.get _) cl.hd ha hn htk hm) I.kIn J e (fun z=>nomatch z) h
end
end L2
namespace L2
open PySem PySem.Spec PyProof.Rows
structure Room (k:Nat) (A:Around):Prop where
 hd:A.handled=none
 dp:A.depth+3*k+5<recursionLimit
 un:A.units+16*k+200<cLine
 gd:A.guards=some []
theorem Room.mono {j k:Nat} {A:Around} (r:Room k A) (h:j≤k):Room j A:=⟨r.hd,by have:=r.dp;omega,by have:=r.un;omega,r.gd⟩
theorem Room.deeper {k:Nat} {A:Around} (r:Room (k+1) A) (env:Env):Room k (A.deeper env) :=
 ⟨r.hd,by have:=r.dp;show A.depth+1+3*k+5<_;omega,by have:=r.un;show A.units+3+16*k+200<_;omega,r.gd⟩
theorem Room.depth {k:Nat} {A:Around} (r:Room k A):A.depth<recursionLimit:=by have:=r.dp;omega
theorem Room.units {k:Nat} {A:Around} (r:Room k A):A.units+64<cLine:=by have:=r.un;omega
noncomputable def uu:TA:=fun _ H Q=>Q [] H
noncomputable def jf (ta:TE) (tr:TA):TA:=fun σ H Q=>ta σ H fun x H1=>tr σ H1 fun xs H2=>Q (x::xs) H2
section
variable {X:Cx} {e:Expr} {es:List Expr} {te:TE} {t:TA} {pos:Pos}
theorem gq:PA X [] uu:=fun _ _ _ _ H Q I h=>Calls.spliced_nil ⟨[],H,I,.nil,h⟩
theorem AG (ha:PE X e te) (hr:PA X es t) (hs:starEach (e::es) X.env=(false,eval e X.env)::starEach es X.env:=by rfl):PA X (e::es) (jf te t):=by
 intro pos pins s σ H Q I h
 rw [hs]
 show wpAny _ _ (spliced ((false,eval e X.env)::backTo pos (starEach es X.env))) _ _ s
 refine Calls.spliced_cons (thn (ha pins s σ H _ I h) fun u s1 ⟨x,H1,I1,r1,q1⟩=>?_)
 exact thn (hr pos pins s1 σ H1 _ I1 q1) fun us s2 ⟨xs,H2,I2,r2,q2⟩=>⟨x::xs,H2,I2,.cons r1 r2,q2⟩
noncomputable def D2 (t:TA):TE:=fun σ H Q=>t σ H fun xs H1=>xs.length≤sizeLine∧∀p,H1 p=none→Q (.ref p) (upd H1 p (.tup xs))
noncomputable def Eu (t:TA):TE:=fun σ H Q=>t σ H fun xs H1=>xs.length≤sizeLine∧∀p,H1 p=none→Q (.ref p) (upd H1 p (.lst xs))
theorem B6 {x1} (h:PA X es t):PE X (.Tuple es x1 pos) (D2 t):=by
 intro pins s σ H Q I hq
 refine wpAny_Tuple_spliced (thn (h pos pins s σ H _ I hq) fun us s1 ⟨xs,H1,I1,r,z,q⟩=>⟨by rw [←r.length];exact z,?_⟩)
 have hf:H1 s1.heap.objs.size=none:=I1.hok.fresh (Nat.le_refl _)
 refine ⟨.ref s1.heap.objs.size,upd H1 s1.heap.objs.size (.tup xs),I1.laid (t':=s1.toks) (fun b u e=>Heap.get?_push_of_some _ e) (Nat.le_refl _) ?_,rfl,q _ hf⟩
 exact ⟨z,us,r,⟨_,Heap.get?_push_size _ rfl,rfl,_,rfl⟩⟩
theorem Cj (h:PA X es t):PE X (.List es pos) (Eu t):=by
 intro pins s σ H Q I hq
 refine wpAny_List_spliced (thn (h pos pins s σ H _ I hq) fun us s1 ⟨xs,H1,I1,r,z,q⟩=>⟨by rw [←r.length];exact z,?_⟩)
 have hf:H1 s1.heap.objs.size=none:=I1.hok.fresh (Nat.le_refl _)
 refine ⟨.ref s1.heap.objs.size,upd H1 s1.heap.objs.size (.lst xs),I1.laid (t':=s1.toks) (fun b u e=>Heap.get?_push_of_some _ e) (Nat.le_refl _) ?_,rfl,q _ hf⟩
 exact ⟨z,us,0,r,Heap.get?_push_size _ rfl⟩
end
noncomputable abbrev Sp:=List V→Hp→VK→XK→Prop
noncomputable abbrev CXT:=List Env→Hp→Shared→XK→Value→Shared→Prop
structure xc (P:Program) (w:World) (K:PySem.W.Frag) (mg:Str→Option Value) (base:Heap) (A:Around) (outer:List Env) (s:Shared) (H:Hp):Prop where
 frames:A.frames=some outer
 mod:Mod K mg base
 bs:∀b o,base.get? b=some o→s.heap.get? b=some o∧H b=none
 bsz:base.objs.size≤s.heap.objs.size
 funs:s.heap.FunFrames base outer
 frf:∀b∈frs outer,H b=none
 hok:HOk P w H s.heap
 bare:AllBare s.gens
noncomputable def CE (outer:List Env) (P:Program) (w:World) (H:Hp) (s:Shared) (Q:VK) (u:Value) (s':Shared):Prop :=
 ∃v H',s'.os=s.os∧AllBare s'.gens∧Un (frs outer) [] H H' s.heap s'.heap∧HOk P w H' s'.heap∧RelV v u∧Q v H'
noncomputable def CR (CX:CXT) (outer:List Env) (P:Program) (w:World) (H:Hp) (s:Shared) (Q:VK) (E:XK) (r:Result) (s':Shared):Prop :=
 match r with
 | .ok (.ret u)=>CE outer P w H s Q u s'
 | .ok _=>False
 | .error e=>CX outer H s E e s'
structure oX (P:Program) (w:World) (K:PySem.W.Frag) (mg:Str→Option Value) (base:Heap) (CX:CXT) (k:Nat) (f:Addr) (fd:FuncData) (ps:List Str) (sp:Sp):Prop where
 len:∀vs H Q E,sp vs H Q E→vs.length=ps.length
 run:∀(A:Around) (outer:List Env) (s:Shared) (H:Hp) (args:Args) (us:List Value) (vs:List V) (Q:VK) (E:XK),Room k A→xc P w K mg base A outer s H→BindsTo s fd args (ps.zip us)→Vals vs us→sp vs H Q E →
  codeAny (model P w) A (.call (.ref f) args) (CR CX outer P w H s Q E) s
section
variable {X:Cx} {pins:List (Addr × Obj)} {σ:St} {H:Hp} {s s':Shared}
theorem Inv.env0 (I:Inv X pins σ H s):xc X.prog X.w X.K X.mg X.base X.A X.stack s H :=
 ⟨I.ok.frames,I.ok.mod,I.bs,Nat.le_trans I.ok.bsz I.sz,I.stack,I.stkFree,I.hok,I.bare⟩
theorem Inv.after {Q:VK} {u:Value} (I:Inv X pins σ H s) (h:CE X.stack X.prog X.w H s Q u s'):EP X pins σ Q u s':=by
 obtain ⟨v,H',os,bare,un,hok,r,q⟩:=h
 obtain ⟨hh,g,d,t,os'⟩:=s'
 obtain rfl:os'=s.os:=os
 exact ⟨v,H',I.call (h':=hh) (g':=g) (d':=d) (t':=t) (ch:=[]) un hok bare (fun b z=>absurd z (by simp)),r,q⟩
end
noncomputable def qi (sp:Sp) (dvs:List V) (E:XK) (t:TA):TE:=fun σ H Q=>t σ H fun vs H1=>sp (vs++dvs) H1 Q E
noncomputable def Binds (K:PySem.W.Frag) (fd:FuncData) (ps:List Str) (ds:List Value):Prop :=
 ∀(s:Shared) (us:List Value),K.In s.heap→(us++ds).length=ps.length→BindsTo s fd ⟨us,[]⟩ (ps.zip (us++ds))
theorem Binds.all {K:PySem.W.Frag} {fd:FuncData} {ps:List Str} (h:∀us:List Value,us.length=ps.length→bindArgs fd ⟨us,[]⟩=pure (ps.zip us)):Binds K fd ps []:=fun s us _ hl=>by
 rw [List.append_nil] at hl ⊢
 exact .of_eq (h us hl)
noncomputable def sA (CX:CXT) (X:Cx) (E:XK):Prop:=∀(pins:List (Addr × Obj)) (σ:St) (H:Hp) (s:Shared) (e:Value) (s':Shared),Inv X pins σ H s→CX X.stack H s E e s'→X.xe e s'
section
variable {X:Cx} {CX:CXT} {k:Nat} {f C:Addr} {fd:FuncData} {ps:List Str} {sp:Sp} {dvs:List V} {ds:List Value} {E:XK} {x m:Str} {p pos apos:Pos} {e o:Expr} {es:List Expr} {ta:TE} {t:TA}
theorem yV {pins:List (Addr × Obj)} {σ:St} {H:Hp} {s:Shared} {Q:VK} {us:List Value} {vs:List V} (F:oX X.prog X.w X.K X.mg X.base CX k f fd ps sp) (hr:Room k X.A) (hb:Binds X.K fd ps ds) (hd:Vals dvs ds) (hx:sA CX X E)
  (I:Inv X pins σ H s) (r:Vals vs us) (h:sp (vs++dvs) H Q E):wpAny (model X.prog X.w) X.A (call (.ref f) us) (EP X pins σ Q) X.xe s:=by
 have r2:Vals (vs++dvs) (us++ds):=r.append hd
 have hl:(us++ds).length=ps.length:=by rw [←r2.length];exact F.len _ _ _ _ h
 refine wpAny_call (codeAny_mono (F.run X.A X.stack s H ⟨us,[]⟩ (us++ds) (vs++dvs) Q E hr I.env0 (hb s us I.kIn hl) r2 h) fun r s' hq=>?_)
 cases r with
 | error e=>exact hx pins σ H s e s' I hq
 | ok fl =>
  cases fl with
  | ret u=>exact I.after hq
  | next=>exact False.elim hq
  | brk=>exact False.elim hq
  | cont=>exact False.elim hq
theorem Ax (F:oX X.prog X.w X.K X.mg X.base CX k f fd ps sp) (hr:Room k X.A) (hg:Gl X x) (hm:X.mg x=some (.ref f)) (hk:PySem.W.keepIn X.K (.ref f)=true) (hb:Binds X.K fd ps ds) (hd:Vals dvs ds) (hx:sA CX X E)
  (ha:PA X (e::es) t) (hdb:(x == ("__debug__":Str))=false:=by decide) (he:starEach (e::es) X.env=(false,eval e X.env)::starEach es X.env:=by rfl) (hpl:(backTo pos (starEach es X.env)).any (·.1)=false:=by rfl) :
  PE X (.Call (.Name x p) (e::es) [] pos) (qi sp dvs E t):=by
 intro pins s σ H Q I h
 refine wpAny_Call_Name_kw (sw I hg hm ?_ hdb)
 refine PySem.W.callWith_K (h₀:=X.base) I.ok.mod.kin hk (thn (ha pos pins s σ H _ I h) fun us s1 ⟨vs,H1,I1,r,q⟩=>⟨I1.kIn,?_⟩) he hpl
 exact yV F hr hb hd hx I1 r q
theorem zu (F:oX X.prog X.w X.K X.mg X.base CX k f fd ps sp) (hr:Room k X.A) (hg:Gl X x) (hm:X.mg x=some (.ref f)) (hk:PySem.W.keepIn X.K (.ref f)=true) (hb:Binds X.K fd ps ds) (hd:Vals dvs ds) (hx:sA CX X E)
  (hdb:(x == ("__debug__":Str))=false:=by decide):PE X (.Call (.Name x p) [] [] pos) (qi sp dvs E uu):=by
 intro pins s σ H Q I h
 refine wpAny_Call_Name_kw (sw I hg hm ?_ hdb)
 exact PySem.W.callWith_K0 I.kIn hk (yV (us:=[]) F hr hb hd hx I .nil h)
structure Mk (K:PySem.W.Frag) (C f:Addr):Prop where
 makes:PySem.W.makesIn K C=true
 init:PySem.W.findIn K (.ref C) "__init__"=some (some (.ref f))
 fn:PySem.W.isFn K (.ref f)=true
 kp:PySem.W.keepIn K (.ref C)=true
end
section
variable {X:Cx} {CX:CXT} {k:Nat} {f C:Addr} {fd:FuncData} {ps ks:List Str} {sp:Sp} {E:XK} {x m:Str} {p pos apos kpos:Pos} {e o:Expr} {es:List Expr} {kws:List Keyword} {te ta:TE} {t tk:TA} {nm:Option Str}
structure EH (K:PySem.W.Frag) (fd:FuncData) (ps ks:List Str) (g:List Value→List Value→List Value) (gV:List V→List V→List V):Prop where
 to:∀(s:Shared) (us ws:List Value),K.In s.heap→(g us ws).length=ps.length→BindsTo s fd ⟨us,ks.zip ws⟩ (ps.zip (g us ws))
 rel:∀ {vs:List V} {us:List Value} {zs:List V} {ws:List Value},Vals vs us→Vals zs ws→Vals (gV vs zs) (g us ws)
variable {g:List Value→List Value→List Value} {gV:List V→List V→List V}
end
structure ai (N P:List Str) (sc:Scope):Prop where
 kind:sc.kind=.function
 co:sc.isCoroutine=false
 gen:sc.isGenerator=false
 nd:N.Nodup
 pre:N.take P.length=P
 par:∀x∈P,sc.names.lookup x=some .local∨sc.names.lookup x=some .cell
 nofree:∀y∈sc.names,y.2≠.free
theorem qc {kindOf:Str→Option NameKind} {x:Str}:∀ {binds:List (Str × Value)} {m:Str→Option Value},(∀v,(x,v) ∉ binds)→bindL kindOf binds m x=m x
 | [],_,_=>rfl
 | (n,v)::r,m,h=>by
  unfold bindL
  rw [qc fun w hw=>h w (List.mem_cons_of_mem _ hw)]
  split
  ·have:x≠n:=by rintro rfl;exact h v List.mem_cons_self
   simp [this]
  ·rfl
theorem p_ {kindOf:Str→Option NameKind} {x:Str}:∀ {binds:List (Str × Value)} {m:Str→Option Value},(∀v,(x,v) ∉ binds)→bindC kindOf binds m x=m x
 | [],_,_=>rfl
 | (n,v)::r,m,h=>by
  unfold bindC
  rw [p_ fun w hw=>h w (List.mem_cons_of_mem _ hw)]
  split
  ·rfl
  ·have:x≠n:=by rintro rfl;exact h v List.mem_cons_self
   simp [this]
theorem pR {kindOf:Str→Option NameKind} {x:Str} {v:Value}:∀ {P:List Str} {vs:List Value} {i:Nat} {m:Str→Option Value},P.Nodup→P[i]?=some x→vs[i]?=some v→kindOf x=some .local →
  bindL kindOf (P.zip vs) m x=some v
 | [],_,_,_,_,h,_,_=>by simp at h
 | _::_,[],_,_,_,_,h,_=>by simp at h
 | p::P,w::vs,0,m,nd,h1,h2,hk=>by
  simp at h1 h2;subst h1;subst h2
  show bindL kindOf ((p,w)::P.zip vs) m p=_
  unfold bindL
  rw [qc fun v hv=>(List.nodup_cons.mp nd).1 (List.of_mem_zip hv).1,if_pos hk]
  simp
 | p::P,w::vs,i+1,m,nd,h1,h2,hk=>by
  show bindL kindOf ((p,w)::P.zip vs) m x=_
  unfold bindL
  exact pR (i:=i) (List.nodup_cons.mp nd).2 (by simpa using h1) (by simpa using h2) hk
theorem p7 {kindOf:Str→Option NameKind} {x:Str} {v:Value}:∀ {P:List Str} {vs:List Value} {i:Nat} {m:Str→Option Value},P.Nodup→P[i]?=some x→vs[i]?=some v→kindOf x≠some .local →
  bindC kindOf (P.zip vs) m x=some v
 | [],_,_,_,_,h,_,_=>by simp at h
 | _::_,[],_,_,_,_,h,_=>by simp at h
 | p::P,w::vs,0,m,nd,h1,h2,hk=>by
  simp at h1 h2;subst h1;subst h2
  show bindC kindOf ((p,w)::P.zip vs) m p=_
  unfold bindC
  rw [p_ fun v hv=>(List.nodup_cons.mp nd).1 (List.of_mem_zip hv).1,if_neg hk]
  simp
 | p::P,w::vs,i+1,m,nd,h1,h2,hk=>by
  show bindC kindOf ((p,w)::P.zip vs) m x=_
  unfold bindC
  exact p7 (i:=i) (List.nodup_cons.mp nd).2 (by simpa using h1) (by simpa using h2) hk
noncomputable def start (N:List Str) (vs:List V):St:=vs.map some++List.replicate (N.length-vs.length) none
noncomputable def ma (CX:CXT) (P:Program) (w:World) (K:PySem.W.Frag) (mg:Str→Option Value) (base:Heap) (N:List Str) (qual:Str) (scope:Scope) (f:Addr) (cd:Value) (A:Around) (outer:List Env) (s:Shared) (H:Hp) (E:XK):Cx where
 prog:=P
 w:=w
 K:=K
 mg:=mg
 base:=base
 A:=A.deeper (envOfC qual scope s.heap.objs.size f cd)
 N:=N
 s₀:=s
 H₀:=H
 env:=envOfC qual scope s.heap.objs.size f cd
 outer:=outer
 stack:=envOfC qual scope s.heap.objs.size f cd::outer
 ex:=[]
 calm:=true
 fn:=fun _=>true
 pn:=[]
 xe:=fun e s'=>wpAny (model P w) (A.deeper (envOfC qual scope s.heap.objs.size f cd)) (leaving (envOfC qual scope s.heap.objs.size f cd) e) (fun _ s''=>CX outer H s E e s'') (fun e' s''=>CX outer H s E e' s'') s'
theorem ua {sc:Scope} {n:Nat} {x:Str} (h:sc.names.lookup x=some .cell):∃c,(cellsFrom n sc.names []).lookup x=some c:=by
 have q:=PySem.W.cellsFrom_some sc.names n [] (.inl h)
 exact Option.isSome_iff_exists.mp q
theorem wv {CX:CXT} {P:Program} {w:World} {K:PySem.W.Frag} {mg:Str→Option Value} {base:Heap} {N ps:List Str} {qual:Str} {scope:Scope} {f:Addr} {cd:Value} {A:Around} {outer:List Env} {s s1:Shared} {H:Hp} {E:XK} {us:List Value} {vs:List V}
  (S:ai N ps scope) (hd:A.handled=none) (e0:xc P w K mg base A outer s H) (hl:vs.length=ps.length) (r:Vals vs us)
  (x:InCallC s s.heap.objs.size (bindL (envOfC qual scope s.heap.objs.size f cd).kindOf (ps.zip us) fun _=>none) (cellsFrom (s.heap.objs.size+1) scope.names []) (bindC (envOfC qual scope s.heap.objs.size f cd).kindOf (ps.zip us) fun _=>none) s1) :
  Inv (ma CX P w K mg base N qual scope f cd A outer s H E) [] (start N vs) H s1:=by
 have hpl:ps.length≤N.length:=by have:=congrArg List.length S.pre;rw [List.length_take] at this;omega
 obtain ⟨h1,tk,rfl,hk⟩:=x.done
 have noA:∀b:Addr,b ∉ (ma CX P w K mg base N qual scope f cd A outer s H E).ex:=fun b z=>absurd (show b∈([]:List Addr) from z) (by simp)
 refine ⟨⟨e0.mod,S.kind,rfl,rfl,Nat.le_refl _,fun y z c h1 h2=>?_,fun y hy=>?_,fun y c _ h=>?_,fun _=>hd,Around.frames_deeper e0.frames,.inr ⟨rfl,rfl⟩,fun b z=>absurd z (noA b),e0.bs,e0.bsz,fun b _ _=>noA b,fun b z=>absurd z (noA b),e0.funs,e0.frf⟩,
  rfl,e0.bare,Un.kept hk,⟨_,x.toInCall.ns,fun i y v h1 h2 h3=>?_⟩,fun y c h=>⟨_,x.cell y c h⟩,e0.hok.fresh (Nat.le_refl _),fun y c h=>?_,fun p hp=>absurd (show p∈([]:List (Addr × Obj)) from hp) (by simp),e0.hok.kept hk,?_⟩
 ·exact name_of_addr x.apart (PySem.mem_of_lookup h1) (PySem.mem_of_lookup h2)
 ·have hy:scope.names.lookup y=some .cell∨scope.names.lookup y=some .free:=hy
  rcases hy with hy|hy
  ·exact ua hy
  ·exact absurd rfl (S.nofree _ (PySem.mem_of_lookup hy))
 ·exact Nat.le_of_lt (x.above y c (PySem.mem_of_lookup h))
 ·have hi:i<vs.length:=by
   unfold start at h2
   by_cases hi:i<vs.length
   ·exact hi
   ·rw [List.getElem?_append_right (by simpa using hi)] at h2
    rw [List.getElem?_replicate] at h2
    split at h2 <;> cases h2
  have ha:vs[i]?=some v:=by
   unfold start at h2
   rw [List.getElem?_append_left (by simpa using hi),List.getElem?_map] at h2
   cases e:vs[i]? with
   | none=>rw [e] at h2;cases h2
   | some a=>rw [e] at h2;cases h2;rfl
  obtain ⟨u,hu,rv⟩:=r.get ha
  have hp:ps[i]?=some y:=by
   rw [←S.pre,List.getElem?_take_of_lt (by omega)];exact h1
  have ndP:ps.Nodup:=by rw [←S.pre];exact S.nd.sublist (List.take_sublist _ _)
  refine ⟨u,rv,?_⟩
  rcases S.par y (List.mem_of_getElem? hp) with k|k
  ·exact .inl ⟨k,pR ndP hp hu k⟩
  ·obtain ⟨c,e⟩:=ua (n:=s.heap.objs.size+1) k
   refine .inr ⟨.inl k,c,e,?_⟩
   have q:=x.cell y c e
   rw [p7 ndP hp hu (by show scope.names.lookup y≠_;rw [k];decide)] at q
   exact q
 ·exact e0.hok.fresh (Nat.le_of_lt (x.above y c (PySem.mem_of_lookup h)))
 ·unfold start
  show _=N.length
  rw [List.length_append,List.length_map,List.length_replicate]
  omega
theorem CQ {CX:CXT} {P:Program} {w:World} {K:PySem.W.Frag} {mg:Str→Option Value} {base:Heap} {k:Nat} {f:Addr} {name qual:Str} {params:Arguments} {body:List Stmt} {scope:Scope} {dV kV doc pm cdv ct oc:Value} {an od:Option Addr}
  {osl:Array (Option Value)} {N ps:List Str} {sp:Sp} (lk:K.lookup f=some ⟨oc,od,.func (PySem.W.fnOf name qual params body scope dV kV doc pm an cdv ct),osl⟩) (hcd:PySem.W.codeIn K cdv qual=true) (S:ai N ps scope)
  (len:∀vs H Q E,sp vs H Q E→vs.length=ps.length)
  (hbody:∀(A:Around) (outer:List Env) (s:Shared) (H:Hp) (vs:List V) (Q:VK) (E:XK),Room k (A.deeper (envOfC qual scope s.heap.objs.size f cdv))→sp vs H Q E →
   ∃t,PSs (ma CX P w K mg base N qual scope f cdv A outer s H E) body t∧t { nx:=fun _ H'=>Q .non H',rt:=Q } (start N vs) H) :
  oX P w K mg base CX (k+1) f (PySem.W.fnOf name qual params body scope dV kV doc pm an cdv ct) ps sp:=by
 refine ⟨len,fun A outer s H args us vs Q E hr e0 hb r hsp=>?_⟩
 have hl:=len _ _ _ _ hsp
 have KX:K.In s.heap:=e0.mod.kin.keeps fun b o e=>(e0.bs b o e).1
 have lim:s.heap.NoLimit:=e0.mod.nolimit.keeps fun b o e=>(e0.bs b o e).1
 have hkind:∀y∈ps.zip us,scope.names.lookup y.1=some .local∨(scope.names.lookup y.1=some .cell∧((cellsFrom (s.heap.objs.size+1) scope.names []).lookup y.1).isSome=true):=fun ⟨n,v⟩ hy=>by
  rcases S.par n (List.of_mem_zip hy).1 with q|q
  ·exact .inl q
  ·exact .inr ⟨q,PySem.W.cellsFrom_some _ _ _ (.inl q)⟩
 refine codeAny_call_function hr.depth (KX _ _ lk) rfl S.co S.gen rfl (PySem.W.codeRec_of KX hcd) (hb _ _ _ _ ?_)
 refine wpAny_newFunctionEnv_cells S.kind hkind fun env he s1 x=>?_
 subst he
 refine ⟨lim.keeps x.toInCall.keep,codeAny_func ?_⟩
 obtain ⟨t,ht,hq⟩:=hbody A outer s H vs Q E (hr.deeper _) hsp
 have I:Inv (ma CX P w K mg base N qual scope f cdv A outer s H E) [] (start N vs) H s1:=wv S hr.hd e0 hl r x
 refine wpAny_mono (ht [] s1 (start N vs) H _ I hq) (fun fl s' hs=>?_) fun e s' hs=>hs
 have fin:∀ {σ':St} {H':Hp} {v:V} {u:Value},Inv (ma CX P w K mg base N qual scope f cdv A outer s H E) [] σ' H' s'→RelV v u→Q v H'→CE outer P w H s Q u s' :=
  fun {σ' H' v u} J rv q=>⟨v,H',J.os,J.bare,J.base,J.hok,rv,q⟩
 cases fl with
 | ret u =>
  obtain ⟨v,σ',H',J,rv,q⟩:=hs
  exact fin J rv q
 | next =>
  obtain ⟨σ',H',J,q⟩:=hs
  exact fin (v:=V.non) (u:=Value.none) J rfl q
 | brk =>
  obtain ⟨_,_,_,q⟩:=hs
  exact False.elim q
 | cont =>
  obtain ⟨_,_,_,q⟩:=hs
  exact False.elim q
end L2
namespace L2
open PySem PySem.Spec PyProof.Rows
section
variable {X:Cx} {x:Str} {p pos:Pos} {e:Expr} {es:List Expr} {t:TA} {id T:String} {r:List V→Hp→VK→Prop}
noncomputable def tCB (r:List V→Hp→VK→Prop) (t:TA):TE:=fun σ H Q=>t σ H fun vs H1=>r vs H1 Q
theorem y6 (hc:eA X (.builtin id) r) (hg:Gl X x) (hm:X.mg x=none) (hv:bootBuiltins x=some (.builtin id)) (ha:PA X (e::es) t) (hn:x≠"__name__":=by decide) (hdb:(x == ("__debug__":Str))=false:=by decide)
  (he:starEach (e::es) X.env=(false,eval e X.env)::starEach es X.env:=by rfl) (hpl:(backTo pos (starEach es X.env)).any (·.1)=false:=by rfl):PE X (.Call (.Name x p) (e::es) [] pos) (tCB r t):=by
 intro pins s σ H Q I h
 refine wpAny_Call_Name_kw (jp I hg hm hv ?_ hn hdb)
 exact PyProof.Rows.callWith_builtin1 (thn (ha pos pins s σ H _ I h) fun us s1 ⟨vs,H1,I1,r1,q1⟩=>hc pins s1 σ H1 vs us Q I1 r1 q1) he hpl
theorem w5 (hc:eA X (.type T) r) (hg:Gl X x) (hm:X.mg x=none) (hv:bootBuiltins x=some (.type T)) (ha:PA X (e::es) t) (hn:x≠"__name__":=by decide) (hdb:(x == ("__debug__":Str))=false:=by decide)
  (he:starEach (e::es) X.env=(false,eval e X.env)::starEach es X.env:=by rfl) (hpl:(backTo pos (starEach es X.env)).any (·.1)=false:=by rfl):PE X (.Call (.Name x p) (e::es) [] pos) (tCB r t):=by
 intro pins s σ H Q I h
 refine wpAny_Call_Name_kw (jp I hg hm hv ?_ hn hdb)
 exact PyProof.Rows.callWith_type1 (thn (ha pos pins s σ H _ I h) fun us s1 ⟨vs,H1,I1,r1,q1⟩=>hc pins s1 σ H1 vs us Q I1 r1 q1) he hpl
end
end L2
namespace HT
open PySem PyProof.Rows
section
open PySem.SeqAt
open PySem.AutoSeq1 (wpAny_loadPart')
open PySem.MeetsSeq PySem.MeetsSeq2 PySem.MeetsSeq3
end
section
variable {prog:Program} {w:World} {A:Around} {E:Value→Shared→Prop} {s:Shared}
theorem cat_tup {t b:Addr} {vs ws:List Value} {Q:Value→Shared→Prop} (ht:IsTup s.heap t vs.toArray) (hb:IsTup s.heap b ws.toArray) (hv:vs≠[])
  (h1:ws=[]→Q (.ref t) s) (h2:ws≠[]→Q (.ref s.heap.objs.size) { s with heap:=s.heap.push { cls:=.type "tuple",data:=.seq (vs++ws).toArray } })
  (hsz:vs.length+ws.length≤sizeLine):wpAny (model prog w) A (binaryOp .Add (.ref t) (.ref b)) Q E s:=by
 obtain ⟨⟨cls,dd,data,sl⟩,ho,hc,n,hd⟩:=id ht
 obtain ⟨⟨cls2,dd2,data2,sl2⟩,ho2,hc2,n2,hd2⟩:=id hb
 simp only at hc hd hc2 hd2
 subst hc hd hc2 hd2
 have e:vs.toArray++ws.toArray=(vs++ws).toArray:=by simp
 by_cases hw:ws=[]
 ·exact concat_meets ⟨_,ho,rfl⟩ ⟨_,ho2,rfl⟩ noFill_tuple_add seq_tuple_add PySem.F.slot_tuple_add PySem.F.entry_tuple_add (PySem.F.args_tuple_add_2 _ _)
   (tuple_addW1 t b vs.toArray ws.toArray n n2 dd dd2 sl sl2 (by simpa using hv) (by simp [hw])) ⟨ho,ho2,h1 hw⟩
 ·refine concat_meets ⟨_,ho,rfl⟩ ⟨_,ho2,rfl⟩ noFill_tuple_add seq_tuple_add PySem.F.slot_tuple_add PySem.F.entry_tuple_add (PySem.F.args_tuple_add_2 _ _)
   (tuple_addW2 t b vs.toArray ws.toArray n n2 dd dd2 sl sl2 (by simpa using hv) (by simpa using hw) (by rw [List.size_toArray,List.size_toArray];exact hsz)) ⟨ho,ho2,?_⟩
  rw [e]
  exact h2 hw
noncomputable def sIx (n d:Nat):Option Int→Nat
 | none=>d
 | some v=>if v<0 then (v+(n:Int)).toNat else min v.toNat n
theorem sIx_none (n d:Nat):sIx n d none=d:=rfl
theorem sIx_nat (n d k:Nat):sIx n d (some (k:Int))=min k n:=by
 show (if (k:Int)<0 then ((k:Int)+(n:Int)).toNat else min (k:Int).toNat n)=min k n
 rw [if_neg (by omega),Int.toNat_natCast]
theorem CC (n d:Nat) (hd:d≤n) (o:Option Int):sIx n d o≤n:=by
 cases o with
 | none=>exact hd
 | some v =>
  show (if v<0 then (v+(n:Int)).toNat else min v.toNat n)≤n
  by_cases hv:v<0
  ·rw [if_pos hv];omega
  ·rw [if_neg hv];exact Nat.min_le_right _ _
theorem v7 (v:Int) (n d:Nat):(if v<0 then max (v+(n:Int)) 0 else min v (n:Int))=((sIx n d (some v):Nat):Int):=by
 show (if v<0 then max (v+(n:Int)) 0 else min v (n:Int))=(((if v<0 then (v+(n:Int)).toNat else min v.toNat n):Nat):Int)
 by_cases hv:v<0
 ·simp only [if_pos hv];omega
 ·simp only [if_neg hv];omega
theorem va (lo hi:Option Int) (n:Nat):Builtin.Slice.sliceAdjust lo hi 1 (n:Int)=(((sIx n 0 lo:Nat):Int),((sIx n n hi:Nat):Int)):=by
 have h1:¬((1:Int)<0):=by omega
 unfold Builtin.Slice.sliceAdjust
 simp only [h1,if_false]
 refine Prod.ext ?_ ?_
 ·cases lo with
  | none=>rfl
  | some v=>exact v7 v n 0
 ·cases hi with
  | none=>rfl
  | some v=>exact v7 v n n
theorem vk (i j:Nat):Builtin.Slice.slicePlaces (i:Int) (j:Int) 1=j-i:=by
 unfold Builtin.Slice.slicePlaces
 have h1:(1:Int) > 0:=by omega
 simp only [h1,if_true,Int.ediv_one]
 split <;> omega
theorem nC {v:Value} {o:Option Int} {Q:Option Int→Shared→Prop} (p:IsPart v o) (h:Q o s):wpAny (model prog w) A (Builtin.Slice.slicePartIndex v) Q E s:=by
 cases p with
 | none=>exact slicePart_none h
 | int i t=>exact slicePart_int h
theorem sliceApplied_gen {sl:Addr} {vl vu:Value} {lo hi:Option Int} {n:Nat} {Q:Int × Int × Nat→Shared→Prop} (hs:s.heap.IsSliceOf sl vl vu .none) (pl:IsPart vl lo) (pu:IsPart vu hi)
  (h:Q (((sIx n 0 lo:Nat):Int),1,sIx n n hi-sIx n 0 lo) s):wpAny (model prog w) A (Builtin.Slice.sliceApplied (.ref sl) (pure (n:Int))) Q E s:=by
 obtain ⟨os,hos,hcs,hds⟩:=id hs
 unfold Builtin.Slice.sliceApplied Builtin.Slice.sliceFields
 refine wpAny_bind (wpAny_bind (wpAny_field hos hds (x:=vl) rfl (wpAny_bind (wpAny_field hos hds (x:=vu) rfl (wpAny_bind (wpAny_field hos hds (x:=.none) rfl (wpAny_pure ?_)))))))
 refine wpAny_bind (slicePart_none ?_)
 show wpAny _ _ (if ((1:Int) == 0)=true then _ else _) _ _ s
 rw [if_neg (by decide)]
 refine wpAny_bind (nC pl (wpAny_bind (nC pu (wpAny_bind (wpAny_pure ?_)))))
 show wpAny _ _ (match Builtin.Slice.sliceAdjust lo hi 1 (n:Int) with|(lo,hi)=>pure (lo,(1:Int),Builtin.Slice.slicePlaces lo hi 1)) _ _ s
 rw [va lo hi n]
 show wpAny _ _ (pure (((sIx n 0 lo:Nat):Int),(1:Int),Builtin.Slice.slicePlaces ((sIx n 0 lo:Nat):Int) ((sIx n n hi:Nat):Int) 1)) _ _ s
 rw [vk]
 exact wpAny_pure h
theorem zF (xs:Array Value) (i k:Nat):((List.range k).filterMap fun (m:Nat)=>xs[((i:Int)+(m:Int)*1).toNat]?).toArray=((xs.toList.drop i).take k).toArray:=by
 have e:(fun (m:Nat)=>xs[((i:Int)+(m:Int)*1).toNat]?)=fun m=>xs[i+m]?:=by
  funext m
  have:((i:Int)+(m:Int)*1).toNat=i+m:=by omega
  rw [this]
 rw [e]
 have:=pick_run xs i k
 rw [List.filterMap_map] at this
 have e2:((fun x=>xs[x]?) ∘ fun x=>i+x)=fun m=>xs[i+m]?:=rfl
 rw [e2] at this
 rw [this]
theorem getItem_tuple_cut {t sl:Addr} {items:Array Value} {vl vu:Value} {lo hi:Option Int} {Q:Value→Shared→Prop} (ht:IsTup s.heap t items) (hs:s.heap.IsSliceOf sl vl vu .none) (pl:IsPart vl lo) (pu:IsPart vu hi)
  (hw:¬(sIx items.size 0 lo=0∧sIx items.size items.size hi=items.size))
  (h:Q (.ref s.heap.objs.size) { s with heap:=s.heap.push { cls:=.type "tuple",data:=.seq ((items.toList.drop (sIx items.size 0 lo)).take (sIx items.size items.size hi-sIx items.size 0 lo)).toArray } })
  (hsz:items.size≤sizeLine):wpAny (model prog w) A (getItem (.ref t) (.ref sl)) Q E s:=by
 have htake:sizeOk (.seq ((items.toList.drop (sIx items.size 0 lo)).take (sIx items.size items.size hi-sIx items.size 0 lo)).toArray):=by
  show ((items.toList.drop (sIx items.size 0 lo)).take (sIx items.size items.size hi-sIx items.size 0 lo)).toArray.size≤sizeLine
  rw [List.size_toArray,List.length_take,List.length_drop,Array.length_toList]
  omega
 have hj:sIx items.size items.size hi≤items.size:=CC _ _ (Nat.le_refl _) hi
 obtain ⟨os,hos,hcs,hds⟩:=id hs
 have hTs:s.TypeIs (.ref sl) "slice":=⟨os,hos,hcs⟩
 unfold getItem
 try with_reducible refine wpAny_holding ?_
 first|refine wpAny_bind (wpAny_pure ?_)|skip
 refine wpAny_bind (wpAny_sequenceKey ht.typeIs (by decide) ?_)
 refine wpAny_bind (wpAny_callSpecial?_slot (name:=Str.ofString "__getitem__") ht.typeIs PyProof.Rows.slot_tuple_getitem
  (wpAny_call_entry PyProof.Rows.slot_tuple_getitem ht.typeIs entry_tuple_getitem ?_ (args_tuple_getitem _ _)))
 show wpAny _ _ (Builtin.Tuple.tupleItemsOf (.ref t) >>= _) _ _ s
 refine wpAny_bind (tupleItemsOf_ ht ?_)
 refine wpAny_bind (wpAny_typeOf hTs ?_)
 rw [if_pos (by decide)]
 refine wpAny_bind (sliceApplied_gen hs pl pu ?_)
 have hno:¬((((sIx items.size 0 lo:Nat):Int) == 0 && (1:Int) == 1 && (sIx items.size items.size hi-sIx items.size 0 lo) == items.size)=true):=by
  intro q
  rw [Bool.and_eq_true,Bool.and_eq_true] at q
  have q1:((sIx items.size 0 lo:Nat):Int)=0:=eq_of_beq q.1.1
  have q2:sIx items.size items.size hi-sIx items.size 0 lo=items.size:=eq_of_beq q.2
  exact hw ⟨by omega,by omega⟩
 show wpAny _ _ (if (((sIx items.size 0 lo:Nat):Int) == 0 && (1:Int) == 1 && (sIx items.size items.size hi-sIx items.size 0 lo) == items.size)=true then _ else _) _ _ s
 rw [if_neg hno,zF]
 first
  | exact wpAny_bind (m:=Builtin.Tuple.tupleExact _) (wpAny_newObj_type (wpAny_pure ⟨_,rfl,wpAny_pure h⟩) htake)
  | exact wpAny_bind (m:=Builtin.Tuple.tupleExact _) (wpAny_newObj_type (wpAny_bind (wpAny_pure (wpAny_pure ⟨_,rfl,wpAny_pure h⟩))) htake)
  | exact wpAny_bind (wpAny_bind (m:=Builtin.Tuple.tupleExact _) (wpAny_newObj_type (wpAny_pure (wpAny_pure ⟨_,rfl,wpAny_pure h⟩)) htake))
  | exact wpAny_bind (wpAny_bind (m:=Builtin.Tuple.tupleExact _) (wpAny_newObj_type (wpAny_pure ⟨_,rfl,wpAny_pure h⟩) htake))
end
end HT
namespace L2
open PySem PySem.Spec PyProof.Rows
noncomputable abbrev TO:=St→Hp→(Option Int→Hp→Prop)→Prop
noncomputable def PO (X:Cx) (e:Option Expr) (t:TO):Prop :=
 ∀(pins:List (Addr × Obj)) (s:Shared) (σ:St) (H:Hp) (Q:Option Int→Hp→Prop),Inv X pins σ H s→t σ H Q →
  wpAny (model X.prog X.w) X.A (evalPart e X.env) (fun u s'=>∃o H',Inv X pins σ H' s'∧IsPart u o∧Q o H') X.xe s
noncomputable def zN:TO:=fun _ H Q=>Q none H
noncomputable def CN (t:TE):TO:=fun σ H Q=>t σ H fun x H1=>∃i,x=.int i∧Q (some i) H1
section
variable {X:Cx} {e:Expr} {te:TE} {lo hi:Option Expr} {tl th:TO} {pos p2:Pos}
theorem A7:PO X none zN:=by
 intro pins s σ H Q I h
 rw [evalPart_none]
 exact wpAny_pure ⟨none,H,I,.none,h⟩
theorem AR (h:PE X e te):PO X (some e) (CN te):=by
 intro pins s σ H Q I hw
 rw [evalPart_some]
 refine thn (h pins s σ H _ I hw) fun u s1 ⟨x,H1,I1,r1,q1⟩=>?_
 obtain ⟨i,rfl,q⟩:=q1
 obtain ⟨t,rfl⟩:=r1
 exact ⟨some i,H1,I1,.int i t,q⟩
noncomputable def SlR (X:Cx) (r:V→Option Int→Option Int→Hp→VK→Prop):Prop :=
 ∀(pins:List (Addr × Obj)) (s:Shared) (σ:St) (H:Hp) (x:V) (v vl vu:Value) (lo hi:Option Int) (sl:Addr) (Q:VK),Inv X pins σ H s→RelV x v→s.heap.IsSliceOf sl vl vu .none→IsPart vl lo→IsPart vu hi→r x lo hi H Q →
  ∃T id,typeLookup (.type T) "__getitem__"=pure (some (.builtin id))∧s.TypeIs v T∧wpAny (model X.prog X.w) X.A (getItem v (.ref sl)) (EP X pins σ Q) X.xe s
noncomputable def tSl (r:V→Option Int→Option Int→Hp→VK→Prop) (te:TE) (tl th:TO):TE:=fun σ H Q=>te σ H fun x H1=>tl σ H1 fun l H2=>th σ H2 fun u H3=>r x l u H3 Q
theorem yb {r:V→Option Int→Option Int→Hp→VK→Prop} (hr:SlR X r) (he:PE X e te) (hl:PO X lo tl) (hu:PO X hi th):PE X (.Subscript e (.Slice lo hi none p2) pos) (tSl r te tl th):=by
 intro pins s σ H Q I h
 refine Subscript_ (thn (he pins s σ H _ I h) fun v s1 ⟨x,H1,I1,r1,q1⟩=>?_)
 refine wpAny_Slice (thn (hl pins s1 σ H1 _ I1 q1) fun vl s2 ⟨l,H2,I2,pl,q2⟩=>thn (hu pins s2 σ H2 _ I2 q2) fun vu s3 ⟨u,H3,I3,pu,q3⟩=>?_)
 rw [evalPart_none]
 refine wpAny_pure ?_
 have I4:Inv X pins σ H3 { s3 with heap:=s3.heap.push { cls:=.type "slice",data:=.fields #[vl,vu,.none] } }:=I3.kept (t':=s3.toks) fun b ob q=>Heap.get?_push_of_some _ q
 obtain ⟨T,id,hT,ht,hg⟩:=hr pins { s3 with heap:=s3.heap.push { cls:=.type "slice",data:=.fields #[vl,vu,.none] } } σ H3 x v vl vu l u s3.heap.objs.size Q I4 r1 (Heap.IsSliceOf.new ..) pl pu q3
 show wpAny (model X.prog X.w) X.A (subscriptTail e (.Slice lo hi none p2) v (.ref s3.heap.objs.size)) (EP X pins σ Q) X.xe { s3 with heap:=s3.heap.push { cls:=.type "slice",data:=.fields #[vl,vu,.none] } }
 exact tail_any (ops:=[.ref s3.heap.objs.size,v]) ht hT hg (by with_unfolding_all rfl)
noncomputable def pC (xs:List V) (lo hi:Option Int):List V:=(xs.drop (HT.sIx xs.length 0 lo)).take (HT.sIx xs.length xs.length hi-HT.sIx xs.length 0 lo)
theorem my (xs:List V) (lo hi:Option Int):(pC xs lo hi).length≤xs.length:=by
 unfold pC
 rw [List.length_take,List.length_drop]
 omega
noncomputable def Eg (K:PySem.W.Frag):V→Option Int→Option Int→Hp→VK→Prop:=fun x lo hi H Q=>∃a xs,x=.ref a∧SqT K H a xs ∧
 ¬(HT.sIx xs.length 0 lo=0∧HT.sIx xs.length xs.length hi=xs.length)∧∀p,H p=none→Q (.ref p) (upd H p (.tup (pC xs lo hi)))
theorem BB:SlR X (Eg X.K):=by
 intro pins s σ H x v vl vu lo hi sl Q I rx hs pl pu h
 obtain ⟨a,xs,rfl,hx,hw,q⟩:=h
 cases rx
 obtain ⟨its,r,ht,hz⟩:=I.tuple hx
 have hlen:its.toArray.size=xs.length:=by rw [List.size_toArray];exact r.length.symm
 refine ⟨"tuple",_,PyProof.Rows.slot_tuple_getitem.lookup,ht.typeIs,?_⟩
 refine HT.getItem_tuple_cut ht hs pl pu (by rw [hlen];exact hw) ?_ (by rw [hlen];exact hz)
 rw [hlen]
 refine ⟨.ref s.heap.objs.size,_,I.laid (t':=s.toks) (o:=.tup (pC xs lo hi)) (fun b ob q=>Heap.get?_push_of_some _ q) (Nat.le_refl _) ?_,rfl,q _ (I.hok.fresh (Nat.le_refl _))⟩
 exact ⟨Nat.le_trans (my xs lo hi) hz,_,(r.drop (HT.sIx xs.length 0 lo)).take (HT.sIx xs.length xs.length hi-HT.sIx xs.length 0 lo),IsTup.new _ _⟩
noncomputable def C6 (K:PySem.W.Frag):R2:=fun x y H Q=>∃a b xs ys,x=.ref a∧y=.ref b∧SqT K H a xs∧SqT K H b ys∧xs≠[]∧xs.length+ys.length≤sizeLine ∧
 (ys=[]→Q (.ref a) H)∧(ys≠[]→∀p,H p=none→Q (.ref p) (upd H p (.tup (xs++ys))))
theorem Vals.nil_iff {xs:List V} {us:List Value} (r:Vals xs us):us=[]↔xs=[]:=by
 cases r with
 | nil=>simp
 | cons _ _=>simp
theorem Az:OpR X (binaryOp .Add) (C6 X.K):=by
 intro pins s σ H x y v u Q I rx ry h
 obtain ⟨a,b,xs,ys,rfl,rfl,ha,hb,hx,hz,q1,q2⟩:=h
 cases rx
 cases ry
 obtain ⟨its,r1,p1,_⟩:=I.tuple ha
 obtain ⟨its2,r2,p2,_⟩:=I.tuple hb
 refine HT.cat_tup p1 p2 (fun z=>hx (r1.nil_iff.mp z)) (fun z=>⟨.ref a,H,I,rfl,q1 (r2.nil_iff.mp z)⟩) (fun z=>?_) (by rw [←r1.length,←r2.length];exact hz)
 refine ⟨.ref s.heap.objs.size,_,I.laid (t':=s.toks) (o:=.tup (xs++ys)) (fun b ob q=>Heap.get?_push_of_some _ q) (Nat.le_refl _) ?_,rfl,q2 (fun w=>z (r2.nil_iff.mpr w)) _ (I.hok.fresh (Nat.le_refl _))⟩
 exact ⟨by rw [List.length_append];exact hz,_,r1.append r2,IsTup.new _ _⟩
end
end L2
namespace L2
open PySem PySem.Spec PyProof.Rows
noncomputable def ixN (n:Nat) (i:Int):Option Nat:=if 0≤i then (if i<n then some i.toNat else none) else if -(n:Int)≤i then some (i+n).toNat else none
noncomputable def atI {α:Type} (xs:List α) (i:Int):Option α:=(ixN xs.length i).bind fun j=>xs[j]?
theorem vX {n:Nat} {i:Int} {j:Nat} (h:ixN n i=some j):seqIndex? i n=some j∧j<n∧-(n:Int)≤i∧i<n:=by
 unfold ixN at h
 by_cases h0:0≤i
 ·rw [if_pos h0] at h
  by_cases h1:i<n
  ·rw [if_pos h1] at h
   have e:i.toNat=j:=Option.some.inj h
   exact ⟨by rw [seqIndex_of h0 h1,e],by omega,by omega,h1⟩
  ·rw [if_neg h1] at h;cases h
 ·rw [if_neg h0] at h
  by_cases h1:-(n:Int)≤i
  ·rw [if_pos h1] at h
   have e:(i+n).toNat=j:=Option.some.inj h
   exact ⟨by rw [seqIndex_neg (by omega) h1,e],by omega,h1,by omega⟩
  ·rw [if_neg h1] at h;cases h
theorem qq {α:Type} {xs:List α} {i:Int} {v:α} (h:atI xs i=some v):∃j,seqIndex? i xs.length=some j∧xs[j]?=some v∧j<xs.length∧-(xs.length:Int)≤i∧i<xs.length:=by
 unfold atI at h
 cases e:ixN xs.length i with
 | none=>rw [e] at h;cases h
 | some j =>
  rw [e] at h
  obtain ⟨h1,h2,h3,h4⟩:=vX e
  exact ⟨j,h1,h,h2,h3,h4⟩
theorem fF {α:Type} {xs:List α} {j:Nat} {v:α} (h:xs[j]?=some v):atI xs (j:Int)=some v:=by
 have hj:j<xs.length:=(List.getElem?_eq_some_iff.mp h).1
 have e:ixN xs.length (j:Int)=some j:=by
  unfold ixN
  rw [if_pos (by omega),if_pos (by omega)];simp
 unfold atI;rw [e];exact h
noncomputable def vJ (b:Expr):Prop:=∀o i,subscripted b false o i=operate [o,i] (getItem o i)
noncomputable def IxR (X:Cx) (r:R2):Prop :=
 ∀(value slice:Expr) (pins:List (Addr × Obj)) (s:Shared) (σ:St) (H:Hp) (x y:V) (v u:Value) (Q:VK),Inv X pins σ H s→RelV x v→RelV y u→r x y H Q →
  subscripted slice false v u=operate [v,u] (getItem v u)→wpAny (model X.prog X.w) X.A (subscriptTail value slice v u) (EP X pins σ Q) X.xe s
noncomputable def MtR (X:Cx) (id:String) (r:V→List V→Hp→VK→Prop):Prop :=
 ∀(pins:List (Addr × Obj)) (s:Shared) (σ:St) (H:Hp) (x:V) (xs:List V) (v:Value) (us:List Value) (Q:VK),Inv X pins σ H s→RelV x v→Vals xs us→r x xs H Q →
  wpAny (model X.prog X.w) X.A (call (.builtin id) (v::us)) (EP X pins σ Q) X.xe s
section
variable {X:Cx} {a b:Expr} {ta tb:TE} {pos:Pos}
theorem Dl {r:R2} (hr:IxR X r) (ha:PE X a ta) (hb:PE X b tb) (hs:vJ b):PE X (.Subscript a b pos) (tOp r ta tb):=by
 intro pins s σ H Q I h
 exact Subscript_ (BG ha hb I h fun v u s2 x y H2 I2 rx ry q=>hr a b pins s2 σ H2 x y v u Q I2 rx ry q (hs _ _))
noncomputable def Ew (K:PySem.W.Frag):R2:=fun x y H Q=>∃p xs i v,x=.ref p∧y=.int i∧SqL K H p xs∧atI xs i=some v∧Q v H
noncomputable def EF (K:PySem.W.Frag):R2:=fun x y H Q=>∃p xs i v,x=.ref p∧y=.int i∧SqT K H p xs∧atI xs i=some v∧Q v H
noncomputable def EM:R2:=fun x y H Q=>∃z i c,x=.str z∧y=.int i∧z.length≤sizeLine∧atI z.cps.toList i=some c∧Q (.str ⟨#[c]⟩) H
theorem A3:IxR X (Ew X.K):=by
 intro value slice pins s σ H x y v u Q I rx ry h hs
 obtain ⟨p,xs,i,z,rfl,rfl,hq,he,q⟩:=h
 cases rx
 obtain ⟨t,rfl⟩:=ry
 obtain ⟨its,r,pl,hz⟩:=I.list hq
 obtain ⟨j,h1,h2,h3,h4,h5⟩:=qq he
 obtain ⟨w,ew,rw'⟩:=r.get h2
 have hl:=r.length
 have hn:=jt
 have fin:EP X pins σ Q w s:=⟨z,H,I,rw',q⟩
 by_cases h0:0≤i
 ·have hj:i.toNat=j:=by
   rw [seqIndex_of h0 h5] at h1
   exact Option.some.inj h1
  exact item_listR pl.isList h0 (by omega) (by rw [hj];simpa using ew) fin hs
 ·have hj:(i+(its.toArray.size:Int)).toNat=j:=by
   rw [seqIndex_neg (by omega) h4] at h1
   rw [List.size_toArray,←hl]
   exact Option.some.inj h1
  exact subscriptTail_builtinR (x:=w) pl.isList.typeIs slot_list_getitem.lookup
   (wpAny_getItem_list_neg (Q:=fun r s'=>r=w∧EP X pins σ Q r s') pl.isList (by omega) (by rw [List.size_toArray] <;> omega) (by omega) (by rw [hj];simpa using ew) ⟨rfl,fin⟩) hs
theorem By:IxR X (EF X.K):=by
 intro value slice pins s σ H x y v u Q I rx ry h hs
 obtain ⟨p,xs,i,z,rfl,rfl,hq,he,q⟩:=h
 cases rx
 obtain ⟨t,rfl⟩:=ry
 obtain ⟨its,r,pl,hz⟩:=I.tuple hq
 obtain ⟨j,h1,h2,h3,h4,h5⟩:=qq he
 obtain ⟨w,ew,rw'⟩:=r.get h2
 have hl:=r.length
 have hn:=jt
 have fin:EP X pins σ Q w s:=⟨z,H,I,rw',q⟩
 exact subscriptTail_builtinR (x:=w) pl.typeIs slot_tuple_getitem.lookup
  (getItem_tuple (j:=j) (Q:=fun r s'=>r=w∧EP X pins σ Q r s') pl (by omega) (by omega) (by rw [List.size_toArray,←hl];exact h1) (by simpa using ew) ⟨rfl,fin⟩) hs
theorem BZ:IxR X EM:=by
 intro value slice pins s σ H x y v u Q I rx ry h hs
 obtain ⟨z,i,c,rfl,rfl,hz,he,q⟩:=h
 obtain ⟨t,rfl⟩:=rx
 obtain ⟨t',rfl⟩:=ry
 obtain ⟨j,h1,h2,h3,h4,h5⟩:=qq he
 have hl:z.cps.toList.length=z.length:=by simp [Str.length]
 rw [hl] at h1 h4 h5
 have hn:=jt
 exact tail_any (typeIs_str s z t) slot_str_getitem.lookup (getItem_str (c:=c) (by
  have e1:decide (i < -(2 ^ 63:Int))=false:=decide_eq_false (by omega)
  have e2:decide (i ≥ 2 ^ 63)=false:=decide_eq_false (by omega)
  rw [e1,e2,Bool.or_false]) (by rw [h1];simpa using h2) ⟨.str ⟨#[c]⟩,H,I.tok _,⟨_,rfl⟩,q⟩) hs
theorem uJ (its:List Value) (n j:Nat) (u:Value):Obj.mapSeq (·.setIfInBounds j u) { cls:=.type "list",data:=.seq its.toArray n }={ cls:=.type "list",data:=.seq (its.set j u).toArray n }:=by
 simp [Obj.mapSeq]
theorem Inv.lst {pins:List (Addr × Obj)} {σ:St} {H:Hp} {s:Shared} {p:Addr} {xs:List V} (I:Inv X pins σ H s) (h:H p=some (.lst xs)) :
  ∃(its:List Value) (n:Nat),Vals xs its∧s.heap.get? p=some { cls:=.type "list",data:=.seq its.toArray n }∧xs.length≤sizeLine:=by
 obtain ⟨z,its,n,r,e⟩:=I.hok p _ h
 exact ⟨its,n,r,e,z⟩
theorem Inv.lstUpd {pins:List (Addr × Obj)} {σ:St} {H:Hp} {s:Shared} {p:Addr} {xs ys:List V} {its its':List Value} {n n':Nat} {f:Obj→Obj} (I:Inv X pins σ H s) (h:H p=some (.lst xs))
  (ho:s.heap.get? p=some { cls:=.type "list",data:=.seq its.toArray n }) (hf:f { cls:=.type "list",data:=.seq its.toArray n }={ cls:=.type "list",data:=.seq its'.toArray n' }) (r:Vals ys its') (hz:ys.length≤sizeLine) (t:Nat) :
  Inv X pins σ (upd H p (.lst ys)) { s with heap:=s.heap.update p f,toks:=t }:=by
 have e:(s.heap.update p f).get? p=some { cls:=.type "list",data:=.seq its'.toArray n' }:=by
  rw [Heap.get?_update_self f ho (by rw [hf] <;> rfl),hf]
 refine I.write (x:=p) (e:=p) (by rw [h];trivial) (.inl rfl) (fun b u hb q=>(Heap.get?_update_other _ _ (Ne.symm hb)).trans q) ⟨_,e⟩ ?_
 exact ⟨hz,its',n',r,e⟩
noncomputable def Dn:V→V→V→Hp→(Hp→Prop)→Prop:=fun o i v H Q=>∃p xs k j,o=.ref p∧i=.int k∧H p=some (.lst xs)∧ixN xs.length k=some j∧Q (upd H p (.lst (xs.set j v)))
theorem yv:Ck X Dn:=by
 intro pins s σ H o i v ov iv u Q I ro ri rv h
 obtain ⟨p,xs,k,j,rfl,rfl,hp,hj,q⟩:=h
 cases ro
 obtain ⟨t,rfl⟩:=ri
 obtain ⟨its,n,r,ho,hz⟩:=I.lst hp
 obtain ⟨h1,h2,h3,h4⟩:=vX hj
 have hl:=r.length
 have hn:=jt
 have I':Inv X pins σ (upd H p (.lst (xs.set j v))) { s with heap:=s.heap.update p (Obj.mapSeq (·.setIfInBounds j u)) } :=
  I.lstUpd hp ho (uJ its n j u) (r.set rv j) (by rw [List.length_set];exact hz) s.toks
 by_cases h0:0≤k
 ·have hk:k.toNat=j:=by
   rw [seqIndex_of h0 h4] at h1
   exact Option.some.inj h1
  exact PySem.W.ki_setAt ho h0 (by omega) (by rw [List.size_toArray,←hl];exact h4) (by rw [hk];exact ⟨_,I',q⟩)
 ·have hk:(k+(its.toArray.size:Int)).toNat=j:=by
   rw [seqIndex_neg (by omega) h3] at h1
   rw [List.size_toArray,←hl]
   exact Option.some.inj h1
  exact PySem.W.ki_setBack ho (by omega) (by rw [List.size_toArray,←hl];exact h3) (by omega) (by rw [hk];exact ⟨_,I',q⟩)
theorem qO (lo hi:Option Int) (n:Nat):(sliceBounds lo hi none n).1=((HT.sIx n 0 lo:Nat):Int)∧(sliceBounds lo hi none n).2.1=((HT.sIx n n hi:Nat):Int)∧(sliceBounds lo hi none n).2.2=1:=by
 refine ⟨?_,?_,rfl⟩
 ·cases lo with
  | none=>simp [sliceBounds,HT.sIx]
  | some i =>
   simp only [sliceBounds,HT.sIx,Option.getD_none,show (1:Int) > 0 by decide,if_true]
   by_cases h:i<0
   ·simp only [h,if_true] <;> omega
   ·simp only [h,if_false] <;> omega
 ·cases hi with
  | none=>simp [sliceBounds,HT.sIx]
  | some i =>
   simp only [sliceBounds,HT.sIx,Option.getD_none,show (1:Int) > 0 by decide,if_true]
   by_cases h:i<0
   ·simp only [h,if_true] <;> omega
   ·simp only [h,if_false] <;> omega
theorem oI (its:List Value) (lo hi:Option Int):slicePick its.toArray lo hi none=((its.drop (HT.sIx its.length 0 lo)).take (HT.sIx its.length its.length hi-HT.sIx its.length 0 lo)).toArray:=by
 obtain ⟨h1,h2,h3⟩:=qO lo hi its.toArray.size
 unfold slicePick
 rw [h1,h2,h3]
 simp only [sliceRange_one,pick_run,List.size_toArray] <;> rfl
noncomputable def EA (K:PySem.W.Frag):V→Option Int→Option Int→Hp→VK→Prop:=fun x lo hi H Q=>∃a xs,x=.ref a∧SqL K H a xs∧∀p,H p=none→Q (.ref p) (upd H p (.lst (pC xs lo hi)))
theorem Ag:SlR X (EA X.K):=by
 intro pins s σ H x v vl vu lo hi sl Q I rx hs pl pu h
 obtain ⟨a,xs,rfl,hx,q⟩:=h
 cases rx
 obtain ⟨its,r,ht,hz⟩:=I.list hx
 have hlen:=r.length
 refine ⟨"list",_,slot_list_getitem.lookup,ht.isList.typeIs,?_⟩
 refine wpAny_getItem_list_slice ht.isList hs pl pu .none (by simp) ?_ (by rw [List.size_toArray] <;> omega)
 rw [oI,←hlen]
 refine ⟨.ref s.heap.objs.size,_,I.laid (t':=s.toks) (o:=.lst (pC xs lo hi)) (fun b ob q=>Heap.get?_push_of_some _ q) (Nat.le_refl _) ?_,rfl,q _ (I.hok.fresh (Nat.le_refl _))⟩
 exact ⟨Nat.le_trans (my xs lo hi) hz,_,0,(r.drop (HT.sIx xs.length 0 lo)).take (HT.sIx xs.length xs.length hi-HT.sIx xs.length 0 lo),Heap.get?_push_size _ rfl⟩
noncomputable def jh:V→Bool
 | .non=>true
 | .bl _=>true
 | .int _=>true
 | .str _=>true
 | _=>false
noncomputable def eqV:V→V→Bool
 | .non,.non=>true
 | .bl a,.bl b=>a == b
 | .bl a,.int b=>(if a then 1 else 0) == b
 | .int a,.bl b=>a == (if b then 1 else 0)
 | .int a,.int b=>a == b
 | .str a,.str b=>a == b
 | _,_=>false
theorem B5 {A:Around} {s:Shared} {y x:V} {u v:Value} (ry:RelV y u) (rx:RelV x v) (fy:jh y=true) (fx:jh x=true):SeqAt.EqAt A s u v (eqV y x):=by
 cases y with
 | non =>
  cases ry
  cases x with
  | non=>cases rx;exact SeqAt.EqAt.same _
  | bl b=>cases rx;exact SeqAt.EqAt.none_bool b
  | int b=>obtain ⟨t,rfl⟩:=rx;exact SeqAt.EqAt.none_int b t
  | str b=>obtain ⟨t,rfl⟩:=rx;exact SeqAt.EqAt.none_str b t
  | _=>exact absurd (show false=true from fx) Bool.false_ne_true
 | bl a =>
  cases ry
  cases x with
  | non=>cases rx;exact SeqAt.EqAt.bool_none a
  | bl b=>cases rx;exact SeqAt.EqAt.bool_bool a b
  | int b=>obtain ⟨t,rfl⟩:=rx;exact SeqAt.EqAt.bool_int a b t
  | str b=>obtain ⟨t,rfl⟩:=rx;exact SeqAt.EqAt.bool_str a b t
  | _=>exact absurd (show false=true from fx) Bool.false_ne_true
 | int a =>
  obtain ⟨t',rfl⟩:=ry
  cases x with
  | non=>cases rx;exact SeqAt.EqAt.int_none a t'
  | bl b=>cases rx;exact SeqAt.EqAt.int_bool a t' b
  | int b=>obtain ⟨t,rfl⟩:=rx;exact SeqAt.EqAt.int_int a t' b t
  | str b=>obtain ⟨t,rfl⟩:=rx;exact SeqAt.EqAt.int_str a t' b t
  | _=>exact absurd (show false=true from fx) Bool.false_ne_true
 | str a =>
  obtain ⟨t',rfl⟩:=ry
  cases x with
  | non=>cases rx;exact SeqAt.EqAt.str_none a t'
  | bl b=>cases rx;exact SeqAt.EqAt.str_bool a t' b
  | int b=>obtain ⟨t,rfl⟩:=rx;exact SeqAt.EqAt.str_int a t' b t
  | str b=>obtain ⟨t,rfl⟩:=rx;exact SeqAt.EqAt.str_str a t' b t
  | _=>exact absurd (show false=true from fx) Bool.false_ne_true
 | _=>exact absurd (show false=true from fy) Bool.false_ne_true
noncomputable def eqU (x:V) (u:Value):Bool:=match u with
 | .none=>eqV .non x
 | .bool b=>eqV (.bl b) x
 | .int i _=>eqV (.int i) x
 | .str z _=>eqV (.str z) x
 | _=>false
theorem yH {x y:V} {u:Value} (r:RelV y u) (f:jh y=true):eqU x u=eqV y x:=by
 cases y with
 | non=>cases r;rfl
 | bl b=>cases r;rfl
 | int i=>obtain ⟨t,rfl⟩:=r;rfl
 | str z=>obtain ⟨t,rfl⟩:=r;rfl
 | _=>exact absurd (show false=true from f) Bool.false_ne_true
theorem lj {x:V}:∀ {xs:List V} {us:List Value},Vals xs us→xs.all jh=true→us.any (eqU x)=xs.any fun y=>eqV y x
 | _,_,.nil,_=>rfl
 | y::xs,u::us,.cons r t,f=>by
  rw [List.all_cons,Bool.and_eq_true] at f
  rw [List.any_cons,List.any_cons,yH r f.1,lj t f.2]
theorem io {A:Around} {s:Shared} {x:V} {v:Value} (rx:RelV x v) (fx:jh x=true):∀ {xs:List V} {us:List Value},Vals xs us→xs.all jh=true→∀u∈us,SeqAt.EqAt A s u v (eqU x u)
 | _,_,.nil,_=>fun u hu=>by cases hu
 | y::xs,u::us,.cons r t,f=>fun u' hu=>by
  rw [List.all_cons,Bool.and_eq_true] at f
  rcases List.mem_cons.mp hu with rfl|hu
  ·rw [yH r f.1];exact B5 r rx f.1 fx
  ·exact io rx fx t f.2 u' hu
noncomputable def inV (x:V) (xs:List V):Bool:=xs.any fun y=>eqV y x
noncomputable def rIn (K:PySem.W.Frag) (neg:Bool):R2:=fun x y H Q=>∃p xs,y=.ref p∧(SqL K H p xs∨SqT K H p xs)∧jh x=true∧xs.all jh=true∧Q (.bl (if neg then !inV x xs else inV x xs)) H
theorem l_:OpR X (compareOp .In) (rIn X.K false):=by
 intro pins s σ H x y v u Q I rx ry h
 obtain ⟨p,xs,rfl,hq,fx,fs,q⟩:=h
 cases ry
 rcases hq with hq|hq
 ·obtain ⟨its,r,pl,hz⟩:=I.list hq
  refine SeqAt.in_listAt (eqU x) pl.isList (fun w hw=>io rx fx r fs w (by simpa using hw)) ⟨.bl _,H,I,rfl,?_⟩
  rw [show its.toArray.any (eqU x)=its.any (eqU x) by simp,lj r fs]
  exact q
 ·obtain ⟨its,r,pl,hz⟩:=I.tuple hq
  refine SeqAt.in_tupleAt (eqU x) pl (fun w hw=>io rx fx r fs w (by simpa using hw)) ⟨.bl _,H,I,rfl,?_⟩
  rw [show its.toArray.any (eqU x)=its.any (eqU x) by simp,lj r fs]
  exact q
theorem gp:OpR X (compareOp .NotIn) (rIn X.K true):=by
 intro pins s σ H x y v u Q I rx ry h
 obtain ⟨p,xs,rfl,hq,fx,fs,q⟩:=h
 cases ry
 rcases hq with hq|hq
 ·obtain ⟨its,r,pl,hz⟩:=I.list hq
  refine SeqAt.notIn_listAt (eqU x) pl.isList (fun w hw=>io rx fx r fs w (by simpa using hw)) ⟨.bl _,H,I,rfl,?_⟩
  rw [show its.toArray.any (eqU x)=its.any (eqU x) by simp,lj r fs]
  exact q
 ·obtain ⟨its,r,pl,hz⟩:=I.tuple hq
  refine SeqAt.notIn_tupleAt (eqU x) pl (fun w hw=>io rx fx r fs w (by simpa using hw)) ⟨.bl _,H,I,rfl,?_⟩
  rw [show its.toArray.any (eqU x)=its.any (eqU x) by simp,lj r fs]
  exact q
theorem qu:eA X (.builtin "len") (fun xs H Q=>∃p ys,xs=[.ref p]∧(SqL X.K H p ys∨SqT X.K H p ys)∧Q (.int ys.length) H):=by
 intro pins s σ H xs us Q I r h
 obtain ⟨p,ys,rfl,hq,q⟩:=h
 obtain ⟨u,rfl,rx⟩:=nF r
 cases rx
 have hn:=jt
 rcases hq with hq|hq
 ·obtain ⟨its,r',pl,hz⟩:=I.list hq
  have hlen:=r'.length
  exact Calls.call_len_list pl.isList (by simp only [List.size_toArray] <;> omega) ⟨.int ys.length,H,I.tok _,⟨s.toks+1,by rw [List.size_toArray,hlen]⟩,q⟩
 ·obtain ⟨its,r',pl,hz⟩:=I.tuple hq
  have hlen:=r'.length
  exact len_tuple pl (by simp only [List.size_toArray] <;> omega) ⟨.int ys.length,H,I.tok _,⟨s.toks+1,by rw [List.size_toArray,hlen]⟩,q⟩
theorem qV:eA X (.builtin "len") (fun xs H Q=>∃z,xs=[.str z]∧z.length≤sizeLine∧Q (.int z.length) H):=by
 intro pins s σ H xs us Q I r h
 obtain ⟨z,rfl,hz,q⟩:=h
 obtain ⟨u,rfl,t,rfl⟩:=nF r
 have hn:=jt
 exact len_str (by omega) ⟨.int z.length,H,I.tok _,⟨_,rfl⟩,q⟩
theorem oF:eA X (.type "tuple") (fun xs H Q=>∃p ys,xs=[.ref p]∧((SqL X.K H p ys∧∀l,H l=none→Q (.ref l) (upd H l (.tup ys)))∨(SqT X.K H p ys∧Q (.ref p) H))):=by
 intro pins s σ H xs us Q I r h
 obtain ⟨p,ys,rfl,h⟩:=h
 obtain ⟨u,rfl,rx⟩:=nF r
 cases rx
 rcases h with ⟨hq,q⟩|⟨hq,q⟩
 ·obtain ⟨its,r',pl,hz⟩:=I.list hq
  have hlen:=r'.length
  refine call_tuple_list pl.isList (fun h' kp=>?_) (by simp only [List.size_toArray] <;> omega)
  have I1:Inv X pins σ H { s with heap:=h' }:=I.kept (t':=s.toks) kp
  have I2:Inv X pins σ (upd H h'.objs.size (.tup ys)) { s with heap:=h'.push { cls:=.type "tuple",data:=.seq its.toArray } } :=
   I1.laid (t':=s.toks) (fun b o e=>Heap.get?_push_of_some _ e) (Nat.le_refl _) (show ObjOk X.prog X.w _ _ _ (.tup ys) from ⟨hz,its,r',IsTup.new _ _⟩)
  exact ⟨.ref h'.objs.size,_,I2,rfl,q _ (I1.hok.fresh (Nat.le_refl _))⟩
 ·obtain ⟨its,r',pl,hz⟩:=I.tuple hq
  exact call_tuple_same pl ⟨.ref p,H,I,rfl,q⟩
noncomputable def tyV (K:PySem.W.Frag) (T:String) (x:V) (H:Hp):Prop:=match x with
 | .str _=>T="str"
 | .int _=>T="int"
 | .ref p=>(T="list"∧∃xs,SqL K H p xs)∨(T="tuple"∧∃o,K.lookup p=some o∧o.cls=.type "tuple"∧o.dict=none) ∨
   (T="dict"∧((∃kvs,H p=some (.dK kvs))∨∃kvs,H p=some (.dT kvs)))∨(T="set"∧∃S n,H p=some (.set S n))
 | _=>False
theorem xM {pins:List (Addr × Obj)} {σ:St} {H:Hp} {s:Shared} {T:String} {x:V} {v:Value} (I:Inv X pins σ H s) (r:RelV x v) (ty:tyV X.K T x H) :
  s.TypeIs v T∧∀a,v=.ref a→∃ob,s.heap.get? a=some ob∧ob.dict=none:=by
 cases x with
 | str z =>
  obtain ⟨t,rfl⟩:=r
  cases (show T="str" from ty)
  exact ⟨typeIs_str s z t,fun _ e=>nomatch e⟩
 | int i =>
  obtain ⟨t,rfl⟩:=r
  cases (show T="int" from ty)
  exact ⟨typeIs_int s i t,fun _ e=>nomatch e⟩
 | ref p =>
  cases r
  rcases ty with ⟨rfl,xs,hq⟩|⟨rfl,o,hk,hc,hd⟩|⟨rfl,hk⟩|⟨rfl,S,n,hk⟩
  ·obtain ⟨its,_,pl,_⟩:=I.list hq
   refine ⟨pl.isList.typeIs,fun a e=>?_⟩
   cases e
   obtain ⟨o,n,e,c,hd,_⟩:=pl
   exact ⟨o,e,hd⟩
  ·refine ⟨⟨o,I.kIn p o hk,hc⟩,fun a e=>?_⟩
   cases e
   exact ⟨o,I.kIn _ o hk,hd⟩
  ·have z:∃o,s.heap.get? p=some o∧o.ExactDict:=by
    rcases hk with ⟨kvs,hk⟩|⟨kvs,hk⟩
    ·obtain ⟨_,_,_,_,o,_,_,e,ex,_⟩:=I.hok p _ hk
     exact ⟨o,e,ex⟩
    ·obtain ⟨_,_,_,_,o,_,_,e,ex,_⟩:=I.hok p _ hk
     exact ⟨o,e,ex⟩
   obtain ⟨o,e,ex⟩:=z
   refine ⟨⟨o,e,ex.1⟩,fun a e2=>?_⟩
   cases e2
   exact ⟨o,e,ex.2.1⟩
  ·obtain ⟨o,_,_,_,e,ex,_⟩:=I.hok p _ hk
   refine ⟨⟨o,e,ex.1⟩,fun a e2=>?_⟩
   cases e2
   exact ⟨o,e,ex.2.1⟩
 | _=>exact False.elim ty
noncomputable def ED (K:PySem.W.Frag) (T:String) (r:V→List V→Hp→VK→Prop) (to:TE):TE:=fun σ H Q=>to σ H fun x H1=>tyV K T x H1∧r x [] H1 Q
noncomputable def tBM (K:PySem.W.Frag) (T:String) (r:V→List V→Hp→VK→Prop) (to:TE) (t:TA):TE:=fun σ H Q=>to σ H fun x H1=>tyV K T x H1∧t σ H1 fun xs H2=>r x xs H2 Q
variable {o e:Expr} {es:List Expr} {to:TE} {t:TA} {name:Str} {apos cpos:Pos} {T id:String} {r:V→List V→Hp→VK→Prop}
theorem Bu (pa:PlainAttrs T) (slot:Slot T name id) (hty:typeOf (.builtin id)=pure (.type "method_descriptor")) (hm:MtR X id r) (ho:PE X o to)
  (hbase:attributeBase o name X.env (eval o X.env)=eval o X.env:=by rfl) (hline:(apos.endLine == cpos.line)=true:=by rfl):PE X (.Call (.Attribute o name apos) [] [] cpos) (ED X.K T r to):=by
 intro pins s σ H Q I h
 refine wpAny_Call_method0_late hbase hline (thn (ho pins s σ H _ I h) fun v s1 ⟨x,H1,I1,r1,ty,q1⟩=>?_)
 obtain ⟨h1,h2⟩:=xM I1 r1 ty
 exact ⟨T,id,pa,slot,hty,h1,h2,Calls.callWith_builtin rfl (PySem.evalArgs_none (hm pins s1 σ H1 x [] v [] Q I1 r1 .nil q1))⟩
theorem Bh (pa:PlainAttrs T) (slot:Slot T name id) (hty:typeOf (.builtin id)=pure (.type "method_descriptor")) (hm:MtR X id r) (ho:PE X o to) (ha:PA X (e::es) t)
  (hbase:attributeBase o name X.env (eval o X.env)=eval o X.env:=by rfl)
  (hfew:((backTo cpos (starEach (e::es) X.env)).all (fun x=>!x.1) && (backToKw cpos (keywordEach [] X.env)).all (fun x=>x.1.isSome)
   && decide ((e::es).length+([]:List Keyword).length+(if ([]:List Keyword).isEmpty then 0 else 1)<30))=true:=by rfl)
  (hline:(apos.endLine == cpos.line)=true:=by rfl) (hs:starEach (e::es) X.env=(false,eval e X.env)::starEach es X.env:=by rfl) (hplain:(backTo cpos (starEach es X.env)).any (·.1)=false:=by rfl) :
  PE X (.Call (.Attribute o name apos) (e::es) [] cpos) (tBM X.K T r to t):=by
 intro pins s σ H Q I h
 refine wpAny_Call_method_late hbase hfew hline rfl (thn (ho pins s σ H _ I h) fun v s1 ⟨x,H1,I1,r1,ty,q1⟩=>?_)
 obtain ⟨h1,h2⟩:=xM I1 r1 ty
 refine ⟨T,id,pa,slot,hty,h1,h2,?_⟩
 have hA:=ha cpos pins s1 σ H1 _ I1 q1
 rw [hs] at hA ⊢
 refine Calls.callWith_builtin (by show (false || (backTo cpos (starEach es X.env)).any (·.1))=false;rw [hplain] <;> rfl) (Calls.evalArgs_plain ?_)
 exact thn hA fun us s2 ⟨vs,H2,I2,r2,q2⟩=>hm pins s2 σ H2 x vs v us Q I2 r1 r2 q2
end
end L2
namespace L2
open PySem PySem.Spec PyProof.Rows
noncomputable def MtM (X:Cx) (id:String) (r:V→List V→Hp→VK→Prop):Prop :=
 ∀(pins:List (Addr × Obj)) (s:Shared) (σ:St) (H:Hp) (x:V) (xs:List V) (v:Value) (us:List Value) (Q:VK),Inv X pins σ H s→RelV x v→Vals xs us→r x xs H Q →
  wpAny (model X.prog X.w) X.A (call (.builtin id) (v::us)) (EP X pins σ Q) X.xe s
theorem Vals.one:∀ {x:V} {us:List Value},Vals [x] us→∃u,us=[u]∧RelV x u
 | _,_,.cons r .nil=>⟨_,rfl,r⟩
theorem Vals.zero:∀ {us:List Value},Vals [] us→us=[]
 | _,.nil=>rfl
theorem Vals.dropLast {xs:List V} {us:List Value} (h:Vals xs us):Vals xs.dropLast us.dropLast:=by
 induction h with
 | nil=>exact .nil
 | cons r t ih =>
  cases t with
  | nil=>exact .nil
  | cons q t'=>exact .cons r ih
theorem Vals.rep {xs:List V} {us:List Value} (h:Vals xs us):∀k:Nat,Vals (List.replicate k xs).flatten (List.replicate k us).flatten
 | 0=>.nil
 | k+1=>by
  rw [List.replicate_succ,List.replicate_succ,List.flatten_cons,List.flatten_cons]
  exact Vals.append h (Vals.rep h k)
theorem uZ {α:Type} (l:List α):l.eraseIdx (l.length-1)=l.dropLast:=by
 induction l with
 | nil=>rfl
 | cons a r ih =>
  cases r with
  | nil=>rfl
  | cons b r =>
   have e:(a::b::r).length-1=((b::r).length-1)+1:=by
    have h1:(a::b::r).length=r.length+2:=rfl
    have h2:(b::r).length=r.length+1:=rfl
    omega
   rw [e,List.eraseIdx_cons_succ,ih]
   all_goals rfl
theorem pF (its:List Value):∀(k:Nat) (acc:List Value),
  List.foldl (fun x1 x2=>x1++x2) acc.toArray (List.replicate k its.toArray)=(acc++(List.replicate k its).flatten).toArray
 | 0,acc=>by simp
 | k+1,acc=>by
  have e:acc.toArray++its.toArray=(acc++its).toArray:=by simp
  have e2:(acc++its)++(List.replicate k its).flatten=acc++(List.replicate (k+1) its).flatten:=by
   rw [List.replicate_succ,List.flatten_cons,List.append_assoc]
  rw [←e2,←pF its k (acc++its),←e,List.replicate_succ,List.foldl_cons]
section
variable {X:Cx} {pins:List (Addr × Obj)} {σ:St} {H:Hp} {s:Shared} {l b:Addr} {xs ys zs:List V}
theorem Inv.lset {its its':List Value} {n:Nat} {f:Array Value→Array Value} {t':Nat} (I:Inv X pins σ H s) (hH:H l=some (.lst xs))
  (e:s.heap.get? l=some { cls:=.type "list",data:=.seq its.toArray n }) (hf:f its.toArray=its'.toArray) (hv:Vals ys its') (hz:ys.length≤sizeLine) :
  Inv X pins σ (upd H l (.lst ys)) { s with heap:=s.heap.update l (Obj.mapSeq f),toks:=t' }:=by
 have q:=PySem.IsL.update e f
 rw [hf] at q
 refine I.write (x:=l) (e:=l) (by rw [hH];exact trivial) (.inl rfl) (fun b' u hb hu=>(Heap.get?_update_other s.heap (Obj.mapSeq f) (Ne.symm hb)).trans hu) ⟨_,q⟩ ?_
 exact ⟨hz,its',_,hv,q⟩
theorem Inv.lnew {its:List Value} {t':Nat} (I:Inv X pins σ H s) (hv:Vals ys its) (hz:ys.length≤sizeLine) :
  Inv X pins σ (upd H s.heap.objs.size (.lst ys)) { s with heap:=s.heap.push { cls:=.type "list",data:=.seq its.toArray },toks:=t' } :=
 I.laid (fun _ _ q=>Heap.get?_push_of_some _ q) (Nat.le_refl _) ⟨hz,its,0,hv,Heap.get?_push_size _ rfl⟩
theorem Inv.fresh (I:Inv X pins σ H s):H s.heap.objs.size=none:=I.hok.fresh (Nat.le_refl _)
theorem Inv.lstM (I:Inv X pins σ H s) (hH:H l=some (.lst xs)):xs.length≤sizeLine∧∃(its:List Value) (n:Nat),Vals xs its∧xs.length=its.length∧s.heap.get? l=some { cls:=.type "list",data:=.seq its.toArray n }:=by
 obtain ⟨z,its,n,r,e⟩:=I.hok l _ hH
 exact ⟨z,its,n,r,r.length,e⟩
theorem tQ {n:Nat} (h:n≤sizeLine):Builtin.List.listTooLong n=false:=by
 unfold Builtin.List.listTooLong
 exact decide_eq_false (by omega)
end
section
variable {X:Cx}
noncomputable def A6:V→List V→Hp→VK→Prop:=fun x vs H Q=>∃l xs y,x=.ref l∧vs=[y]∧H l=some (.lst xs)∧xs.length<sizeLine∧Q .non (upd H l (.lst (xs++[y])))
theorem ql:MtM X "list.append" A6:=by
 intro pins s σ H x vs v us Q I rx rv h
 obtain ⟨l,xs,y,rfl,rfl,hH,hz,q⟩:=h
 cases rx
 obtain ⟨u,rfl,ru⟩:=rv.one
 obtain ⟨z,its,n,r,hl,e⟩:=I.lstM hH
 refine call_meets F.slot_list_append ⟨_,e,rfl⟩ F.entry_list_append (F.args_list_append_2 _ _) (PySem.list_append l its.toArray n u (by rw [List.size_toArray];omega)) ⟨e,?_⟩
 refine ⟨.non,_,I.lset (its':=its++[u]) hH e (by simp) (r.append (.cons ru .nil)) ?_,rfl,q⟩
 rw [List.length_append,List.length_singleton]
 omega
noncomputable def Ej:V→List V→Hp→VK→Prop:=fun x vs H Q=>∃l xs y,x=.ref l∧vs=[]∧H l=some (.lst xs)∧xs[xs.length-1]?=some y∧Q y (upd H l (.lst xs.dropLast))
theorem Cz:MtM X "list.pop" Ej:=by
 intro pins s σ H x vs v us Q I rx rv h
 obtain ⟨l,xs,y,rfl,rfl,hH,hy,q⟩:=h
 cases rx
 have hus:=rv.zero
 subst hus
 obtain ⟨z,its,n,r,hl,e⟩:=I.lstM hH
 obtain ⟨u,hu,ru⟩:=r.get hy
 have hy':its.toArray[its.toArray.size-1]?=some u:=by
  show its.toArray[its.length-1]?=some u
  rw [←Array.getElem?_toList,←hl]
  exact hu
 refine call_meets F.slot_list_pop ⟨_,e,rfl⟩ F.entry_list_pop (F.args_list_pop_1 _) (MeetsSeq.list_pop_last l its.toArray n u hy' (by rw [List.size_toArray];omega)) ⟨e,?_⟩
 refine ⟨y,_,I.lset (its':=its.dropLast) hH e ?_ r.dropLast ?_,ru,q⟩
 ·show its.toArray.eraseIdxIfInBounds (its.toArray.size-1)=its.dropLast.toArray
  rw [List.size_toArray,List.eraseIdxIfInBounds_toArray,uZ]
 ·rw [List.length_dropLast]
  omega
noncomputable def Ep:R2:=fun x y H Q=>∃l b xs zs,x=.ref l∧y=.ref b∧H l=some (.lst xs)∧H b=some (.lst zs)∧xs.length+zs.length≤sizeLine∧∀p,H p=none→Q (.ref p) (upd H p (.lst (xs++zs)))
theorem BV:OpR X (binaryOp .Add) Ep:=by
 intro pins s σ H x y v u Q I rx ry h
 obtain ⟨l,b,xs,zs,rfl,rfl,hH,hB,hz,q⟩:=h
 cases rx
 cases ry
 obtain ⟨z,its,n,r,hl,e⟩:=I.lstM hH
 obtain ⟨z2,its2,n2,r2,hl2,e2⟩:=I.lstM hB
 refine PySem.P.add_list e e2 ?_ (by rw [List.size_toArray,List.size_toArray];omega)
 have ea:its.toArray++its2.toArray=(its++its2).toArray:=by simp
 rw [ea]
 exact ⟨.ref _,_,I.lnew (t':=s.toks) (r.append r2) (by rw [List.length_append];omega),rfl,q _ I.fresh⟩
noncomputable def EB:R2:=fun x y H Q=>∃l k xs,x=.ref l∧y=.int k∧H l=some (.lst xs)∧-(2 ^ 63)≤k∧k<2 ^ 63∧xs.length*k.toNat≤sizeLine ∧
 ∀p,H p=none→Q (.ref p) (upd H p (.lst (List.replicate k.toNat xs).flatten))
theorem AN {α:Type} (xs:List α) (k:Nat):(List.replicate k xs).flatten.length=k*xs.length:=by
 induction k with
 | zero=>simp
 | succ k ih=>rw [List.replicate_succ,List.flatten_cons,List.length_append,ih,Nat.succ_mul,Nat.add_comm]
theorem Cg:OpR X (binaryOp .Mult) EB:=by
 intro pins s σ H x y v u Q I rx ry h
 obtain ⟨l,k,xs,rfl,rfl,hH,h1,h2,hz,q⟩:=h
 cases rx
 obtain ⟨t,rfl⟩:=ry
 obtain ⟨z,its,n,r,hl,e⟩:=I.lstM hH
 have hlen:its.toArray.size*k.toNat≤sizeLine:=by rw [List.size_toArray,←hl];exact hz
 have hcap:¬its.toArray.size*k.toNat > (2 ^ 63-1)/8:=by
  have:(sizeLine:Nat)≤(2 ^ 63-1)/8:=by decide
  omega
 have hfit:¬(!Builtin.List.listFitsIndex k)=true:=by
  rw [fitsIndex_both h1 h2]
  exact Bool.false_ne_true
 have hlong:¬Builtin.List.listTooLong (its.toArray.size*k.toNat)=true:=by
  rw [tQ hlen]
  exact Bool.false_ne_true
 have hnew:List.foldl (fun x1 x2=>x1++x2) #[] (List.replicate (if its.toArray.isEmpty=true then 0 else k.toNat) its.toArray)=(List.replicate k.toNat its).flatten.toArray:=by
  have f0:∀m:Nat,List.foldl (fun x1 x2=>x1++x2) #[] (List.replicate m its.toArray)=(List.replicate m its).flatten.toArray:=fun m=>by
   have:=pF its m []
   rw [List.nil_append] at this
   exact this
  rw [f0]
  cases its with
  | nil=>simp
  | cons a r'=>rw [if_neg (by simp)]
 refine wpAny_binaryOp_repeat_ref (T:="list") (U:="int") (by decide) ⟨_,e,rfl⟩ (fun s'=>typeIs_int s' k t) noFill_list_mul F.fills_int_mul F.slot_int_rmul repeat_list F.slot_int_index.lookup
  (call_meets F.slot_int_rmul (typeIs_int s k t) F.entry_int_rmul (F.args_int_rmul_2 _ _) (int___rmul___int_list k t l its.toArray n)
   ⟨e,rfl,⟨_,e,rfl⟩,call_meets F.slot_list_mul ⟨_,e,rfl⟩ F.entry_list_mul (F.args_list_mul_2 _ _) (AutoListH.list___mul___list_int_3 l its.toArray n k t hfit hcap hlong) ⟨e,?_⟩⟩)
 rw [hnew]
 exact ⟨.ref _,_,I.lnew (t':=s.toks) (r.rep k.toNat) (by rw [AN,Nat.mul_comm];exact hz),rfl,q _ I.fresh⟩
end
section
variable {prog:Program} {w:World} {A:Around} {E:Value→Shared→Prop} {s:Shared}
set_option maxRecDepth 100000 in
end
section
variable {X:Cx}
end
end L2
namespace Att
open PySem PySem.W PySem.Calls PyProof.Rows
theorem mQ {P:Params} {h:Heap}:∀(ns:List Int) (vs:List Value),WellAll P h vs (ns.map WData.int)→IntsAre vs ns:=by
 intro ns
 induction ns with
 | nil =>
  intro vs w
  rw [List.map_nil] at w
  cases w
  exact .nil
 | cons n ns ih =>
  intro vs w
  rw [List.map_cons] at w
  cases w with
  | cons a b =>
   cases a
   exact .cons _ _ (ih _ b)
theorem wz {l:OpenLaw} {n:Nat} (hn:l.most=some n) {P:Params} {h:Heap} {args:List WData} {vals:List Value}
  (hpre:l.row.toRowW.claim.pre args=true) (hwl:WellAll P h vals args) :
  ∃a vs ns,vals=[Value.ref a]∧args=[WData.list (ns.map WData.int)]∧h.get? a=some { cls:=.type "list",data:=.seq vs.toArray }∧IntsAre vs ns∧ns.length≤n:=by
 have hsh:WShape.hasAll [] args [.list .int]=true:=(pre_splitW hpre).1
 have hc:l.pre.holds [] { args:=args }=true:=(pre_splitW hpre).2
 obtain ⟨d,r,rfl,h1,h2⟩:=hasAllW_cons hsh
 obtain rfl:=hasAllW_nil h2
 obtain ⟨xs,rfl,h3⟩:=hasW_list h1
 obtain ⟨ns,rfl⟩:=items_int h3
 have hlen:ns.length≤n:=by
  unfold OpenLaw.pre at hc
  have h4:(WTm.not (.lt (.lit (.int (n:Int))) (.len (.arg 0)))).holds [] { args:=[.list (ns.map .int)] }=true:=by
   have h4:=(holds_andW hc).1
   rw [hn] at h4
   exact h4
  have h5:=condW_of h4 (w_not (w_lt w_lit (w_len_list (w_arg rfl))))
  rw [List.length_map] at h5
  refine Nat.le_of_not_lt fun q=>?_
  have q':(n:Int)<((ns.length:Nat):Int):=by omega
  first
   | (rw [decide_eq_true q'] at h5;exact absurd h5 (by decide))
   | (simp at h5;omega)
 cases hwl with
 | cons w1 w2 =>
  cases w2
  cases w1 with
  | list ho hall=>exact ⟨_,_,ns,rfl,rfl,ho,mQ ns _ hall,hlen⟩
theorem wk (l:OpenLaw) (args:List WData):l.row.toRowW.claim.post args (.bool true) args=true :=
 postW_of (r:=l.row.toRowW) (X:=(true == true))
  (show WShape.has [] (.bool true) .bool=true by first|rfl|decide|simp [WShape.has,WShape.arms,WShape.armsAll])
  (show (WTm.eq .res (.lit (.bool true))).value [] { args:=args,res:=some (.bool true),after:=args }=some (.bool (true == true)) from w_eq_bool (w_res rfl) w_lit) rfl
theorem attach_call {l:OpenLaw} {n:Nat} {q:Program} {loose:List Str} {XP:(Str→Option Value)→Heap→Prop} {YP:World→Heap→Prop} {d:DefRec}
  (hn:l.most=some n) (hdf:d.params.defaults=[])
  (call:∀(w:World) (s₀ s₁:Shared) (mg mb:Str→Option Value) (fa:Addr) (o:Obj) (pm cd doc:Value) (a:Addr) (vs:List Value) (ns:List Int),
   Ground q loose [] XP w s₀ mg mb s₁.heap→YP w s₁.heap →
   s₁.heap.get? fa=some o→o.data=.func (docDef d.name d.params d.body d.scope pm cd doc)→s₁.heap.CodeRec cd d.name→mg d.name=some (.ref fa) →
   s₁.heap.get? a=some { cls:=.type "list",data:=.seq vs.toArray }→IntsAre vs ns→ns.length≤n→s₁.gens=#[] →
   codeAny (model l.prog w) callerA (.call (.ref fa) ⟨[.ref a],[]⟩) (fun r s'=>r=.ok (.ret (.bool true))∧OldK s₁.heap s'.heap∧s'.os=s₁.os∧AllBare s'.gens) s₁) :
  WalkO q loose XP YP l.row.toRowW d [] (fun f vs=>PySem.call f vs):=by
 intro w s₀ s₁ mg mb G Y fa o pm cd doc dV kV ho hd hcd hD hmg hg args vals as hpre hlay hrd hwl hlo
 obtain rfl:dV=.none:=Dflts.none hD hdf
 obtain rfl:kV=.none:=Dflts.noKw hD
 obtain ⟨a,vs,ns,rfl,rfl,hobj,hints,hlen⟩:=wz hn hpre hwl
 refine enter_call (codeAny_mono (call w s₀ s₁ mg mb fa o pm cd doc a vs ns G Y ho (fd_plain hd) hcd hmg hobj hints hlen hg) fun r s' hq=>?_)
 obtain ⟨rfl,h2,h3,h4⟩:=hq
 exact ⟨.inl ⟨.bool true,.bool true,[],rfl,fun _=>rfl,.bool true,wk l _,fun _=>⟨List.Pairwise.nil,fun _ hm=>(nomatch hm)⟩⟩,h2,h3,h4⟩
section
variable {prog:Program} {w:World} {A:Around} {E:Value→Shared→Prop} {s:Shared} {K:Frag}
end
end Att
namespace L2
open PySem PySem.Spec PyProof.Rows
theorem pS:∀ {vs:List Value} {ns:List Int},IntsAre vs ns→Vals (ns.map V.int) vs
 | _,_,.nil=>.nil
 | _,_,.cons n t h=>.cons ⟨t,rfl⟩ (pS h)
end L2
namespace L2
open PySem PySem.Spec PyProof.Rows
end L2
namespace L2
open PySem PySem.Spec PyProof.Rows
noncomputable def aj (s:Stmt):Arguments:=match s with
 | .FunctionDef _ a _ _ _ _ _ _ _ _=>a
 | _=>{ posonlyargs:=[],args:=[],vararg:=none,kwonlyargs:=[],kw_defaults:=[],kwarg:=none,defaults:=[] }
noncomputable def ac (s:Stmt):List Stmt:=match s with
 | .FunctionDef _ _ b _ _ _ _ _ _ _=>b
 | _=>[]
noncomputable def aa (s:Stmt):Scope:=match s with
 | .FunctionDef _ _ _ _ _ _ sc _ _ _=>sc
 | _=>{ kind:=.function,names:=[],isGenerator:=false,isCoroutine:=false }
noncomputable abbrev CX0:CXT:=fun _ _ _ _ _ _=>False
noncomputable abbrev E0:XK:=fun _ _ _=>False
theorem Bq {X:Cx}:sA CX0 X E0:=fun _ _ _ _ _ _ _ h=>h.elim
structure Fun (K:PySem.W.Frag) (x qual:Str) (st:Stmt) (f:Addr) (fd:FuncData):Prop where
 ex:∃(oc:Value) (od:Option Addr) (kV doc pm:Value) (an:Option Addr) (cdv ct:Value) (osl:Array (Option Value)),
  fd=PySem.W.fnOf x qual (aj st) (ac st) (aa st) .none kV doc pm an cdv ct∧K.lookup f=some ⟨oc,od,.func fd,osl⟩∧PySem.W.codeIn K cdv qual=true
 kp:PySem.W.keepIn K (.ref f)=true
section
variable {P:Program} {w:World} {K:PySem.W.Frag} {mg:Str→Option Value} {base:Heap}
theorem Fun.ok {x qual:Str} {st:Stmt} {f:Addr} {fd:FuncData} {N ps:List Str} {k:Nat} {sp:Sp} (F:Fun K x qual st f fd) (S:ai N ps (aa st)) (len:∀vs H Q E,sp vs H Q E→vs.length=ps.length)
  (hbody:∀(cdv:Value) (A:Around) (outer:List Env) (s:Shared) (H:Hp) (vs:List V) (Q:VK) (E:XK),Room k (A.deeper (envOfC qual (aa st) s.heap.objs.size f cdv))→sp vs H Q E →
   ∃t,PSs (ma CX0 P w K mg base N qual (aa st) f cdv A outer s H E).nox (ac st) t∧t { nx:=fun _ H'=>Q .non H',rt:=Q } (start N vs) H):oX P w K mg base CX0 (k+1) f fd ps sp:=by
 obtain ⟨oc,od,kV,doc,pm,an,cdv,ct,osl,rfl,lk,hcd⟩:=F.ex
 refine CQ lk hcd S len fun A outer s H vs Q E hr hsp=>?_
 obtain ⟨t,h,q⟩:=hbody cdv A outer s H vs Q E hr hsp
 exact ⟨t,h.nox,q⟩
theorem Fun.binds {x qual:Str} {st:Stmt} {f:Addr} {fd:FuncData} {ps:List Str} (F:Fun K x qual st f fd)
  (h:∀(kV doc pm:Value) (an:Option Addr) (cdv ct:Value) (us:List Value),us.length=ps.length→bindArgs (PySem.W.fnOf x qual (aj st) (ac st) (aa st) .none kV doc pm an cdv ct) ⟨us,[]⟩=pure (ps.zip us)):Binds K fd ps []:=by
 obtain ⟨oc,od,kV,doc,pm,an,cdv,ct,osl,rfl,lk,hcd⟩:=F.ex
 exact .all (h kV doc pm an cdv ct)
theorem xX {x qual:Str} {st:Stmt} {f:Addr} {oc:Value} {od an:Option Addr} {osl:Array (Option Value)} {kV doc pm cdv ct:Value} (l:K.lookup f=some ⟨oc,od,.func (PySem.W.fnOf x qual (aj st) (ac st) (aa st) .none kV doc pm an cdv ct),osl⟩)
  (c:PySem.W.codeIn K cdv qual=true) (k:PySem.W.keepIn K (.ref f)=true):Fun K x qual st f (PySem.W.fnOf x qual (aj st) (ac st) (aa st) .none kV doc pm an cdv ct):=⟨⟨oc,od,kV,doc,pm,an,cdv,ct,osl,rfl,l,c⟩,k⟩
end
theorem wI {n:Nat} (h:n≤1000):n<sizeLine:=Nat.lt_of_le_of_lt h (by decide)
section
variable {X:Cx}
end
noncomputable def Same (H H':Hp):Prop:=∀b o,H b=some o→H' b=some o
theorem Same.seq {K:PySem.W.Frag} {H H':Hp} {a:Addr} {xs:List V} (e:Same H H') (h:SqL K H a xs):SqL K H' a xs:=by
 rcases h with (h|⟨o,h⟩)|h
 ·exact .inl (.inl (e _ _ h))
 ·exact .inl (.inr ⟨o,e _ _ h⟩)
 ·exact .inr h
end L2
set_option Elab.async false
set_option linter.all false
set_option maxRecDepth 100000
namespace HX
open PySem PySem.Spec PyProof.Rows L2
section
variable {X:Cx} {a b c:Expr} {ta tb tc:TE} {pos:Pos}
noncomputable def CBig (j:Int):Prop:=0<j∧j.natAbs.log2<9000
noncomputable def CMB (i j:Int):Prop:=i.natAbs<2 ^ 6000∧j.natAbs<2 ^ 6000∨(-(2 ^ 64)<i∧i<2 ^ 64)∨(-(2 ^ 64)<j∧j<2 ^ 64)
theorem vQ {i:Int} {n:Nat} (h:i.natAbs<2 ^ n):Builtin.Int.intBits i≤n:=by
 unfold Builtin.Int.intBits
 split
 ·exact Nat.zero_le _
 ·rename_i hz
  have h0:i.natAbs≠0:=by
   intro z
   apply hz
   have:i=0:=by omega
   simp [this]
  have:i.natAbs.log2<n:=(Nat.log2_lt h0).mpr h
  omega
theorem CMB.ok {i j:Int} (h:CMB i j):IntMulOk i j:=by
 rcases h with ⟨h1,h2⟩|⟨h1,h2⟩|⟨h1,h2⟩
 ·exact IntMulOk.of_le (vQ h1) (vQ h2) (by decide)
 ·exact .of_left (intBits_le_64 h1 h2)
 ·exact .of_right (intBits_le_64 h1 h2)
theorem CBig.of {j:Int} (h:0<j) (h2:j<2 ^ 8999):CBig j:=by
 refine ⟨h,?_⟩
 have h0:j.natAbs≠0:=by omega
 have:j.natAbs<2 ^ 8999:=by
  have e:((2:Int) ^ 8999)=((2 ^ 8999:Nat):Int):=by rw [Int.natCast_pow];rfl
  rw [e] at h2
  generalize (2:Nat) ^ 8999=z at h2 ⊢
  omega
 have:=(Nat.log2_lt h0).mpr this
 omega
theorem A0:OpR X (binaryOp .Mult) (rI CMB fun i j=>.int (i*j)):=opI fun _ _ _ _ _ _ _ hc q=>mul_int q hc.ok
theorem xR:OpR X (binaryOp .FloorDiv) (rI (fun _ j=>CBig j) fun i j=>.int (i/j)):=opI fun i j _ _ _ _ _ hc q=>by
 refine floordiv_int (by have:=hc.1;omega) ?_ (.inl (PyProof.noPylong_of_log2 hc.2))
 rw [Int.fdiv_eq_ediv_of_nonneg _ (Int.le_of_lt hc.1)]
 exact q
theorem rm:eA X (.builtin "divmod") (fun xs H Q=>∃i j,xs=[.int i,.int j]∧CBig j∧∀p,H p=none→Q (.ref p) (upd H p (.tup [.int (i/j),.int (i % j)]))):=by
 intro pins s σ H xs us Q I r h
 obtain ⟨i,j,rfl,hc,q⟩:=h
 obtain ⟨u,v,rfl,⟨t,rfl⟩,⟨t',rfl⟩⟩:=tu r
 refine divmod_int (by have:=hc.1;omega) ?_ (.inl (PyProof.noPylong_of_log2 hc.2))
 rw [Int.fdiv_eq_ediv_of_nonneg _ (Int.le_of_lt hc.1),Int.fmod_eq_emod_of_nonneg _ (Int.le_of_lt hc.1)]
 have hf:H s.heap.objs.size=none:=I.hok.fresh (Nat.le_refl _)
 refine ⟨.ref s.heap.objs.size,upd H s.heap.objs.size (.tup [.int (i/j),.int (i % j)]),I.laid (t':=s.toks+1+1) (fun b u e=>Heap.get?_push_of_some _ e) (Nat.le_refl _) ?_,rfl,q _ hf⟩
 exact ⟨by show 2≤sizeLine;decide,[_,_],.cons ⟨_,rfl⟩ (.cons ⟨_,rfl⟩ .nil),⟨_,Heap.get?_push_size _ rfl,rfl,_,rfl⟩⟩
theorem tW {x:V} {v:Value} (r:RelV x v) (k:Bool):(v == Value.bool k)=decide (x=.bl k):=by
 cases x with
 | non=>cases r;rfl
 | bl b=>cases r;cases b <;> cases k <;> rfl
 | int _=>obtain ⟨t,rfl⟩:=r;rfl
 | str _=>obtain ⟨t,rfl⟩:=r;rfl
 | byt _=>obtain ⟨t,rfl⟩:=r;rfl
 | flt _=>obtain ⟨t,rfl⟩:=r;rfl
 | ref _=>cases r;rfl
 | ty _=>cases r;rfl
theorem oz {x:V} {v:Value} (r:RelV x v) (k:Bool):plainIs v (.bool k)=true:=by
 cases x with
 | non=>cases r;rfl
 | bl b=>cases r;rfl
 | int _=>obtain ⟨t,rfl⟩:=r;rfl
 | str _=>obtain ⟨t,rfl⟩:=r;rfl
 | byt _=>obtain ⟨t,rfl⟩:=r;rfl
 | flt _=>obtain ⟨t,rfl⟩:=r;rfl
 | ref _=>cases r;rfl
 | ty _=>cases r;rfl
noncomputable def Em:R2:=fun x y H Q=>∃k,y=.bl k∧Q (.bl (decide (x=.bl k))) H
noncomputable def zX:R2:=fun x y H Q=>∃k,y=.bl k∧Q (.bl (!decide (x=.bl k))) H
theorem BX:OpR X (compareOp .Is) Em:=by
 intro pins s σ H x y v u Q I rx ry h
 obtain ⟨k,rfl,q⟩:=h
 cases ry
 exact wpAny_is_plain (oz rx k) ⟨.bl _,H,I,by rw [tW rx k];rfl,q⟩
theorem wE:OpR X (compareOp .IsNot) zX:=by
 intro pins s σ H x y v u Q I rx ry h
 obtain ⟨k,rfl,q⟩:=h
 cases ry
 exact wpAny_isNot_plain (oz rx k) ⟨.bl _,H,I,by rw [tW rx k];rfl,q⟩
noncomputable def iz (c n:String):Bool:=c == n || (n == "bool" && c == "int")
noncomputable def DC (n c:String):Option Bool:=if (Value.type n == Value.type c)=true then some true else if PySem.W.kitMeta c=true then (fastBuiltinMro n).map (·.contains (.type c)) else none
theorem AM (K:PySem.W.Frag) (n c:String):PySem.W.kitOne K (.type n) (.type c)=DC n c:=rfl
theorem yh:∀c∈["int","bool","str","tuple","list","dict"],∀n∈["NoneType","bool","int","str","list","tuple","dict"],DC n c=some (iz c n):=by decide +kernel
theorem xH (K:PySem.W.Frag):∀c∈["int","bool","str","tuple","list","dict"],∀n∈["NoneType","bool","int","str","list","tuple","dict"],PySem.W.kitOne K (.type n) (.type c)=some (iz c n):=by
 intro c hc n hn
 rw [AM]
 exact yh c hc n hn
end
end HX
namespace HX
open PySem PySem.Spec PyProof.Rows L2
end HX
set_option Elab.async false
set_option linter.all false
set_option maxRecDepth 100000
namespace HX
open PySem PySem.Spec PyProof.Rows L2
noncomputable abbrev D:=PyData
mutual
noncomputable def Den (K:PySem.W.Frag) (H:Hp):D→V→Prop
 | .none,v=>v=.non
 | .bool b,v=>v=.bl b
 | .int i,v=>v=.int i
 | .str x,v=>v=.str x
 | .tuple ds,v=>∃a xs,v=.ref a∧SqT K H a xs∧Dens K H ds xs
 | .list ds,v=>∃a xs,v=.ref a∧SqL K H a xs∧Dens K H ds xs
 | .dict _,_=>False
noncomputable def Dens (K:PySem.W.Frag) (H:Hp):List D→List V→Prop
 | [],xs=>xs=[]
 | d::ds,xs=>∃x r,xs=x::r∧Den K H d x∧Dens K H ds r
end
section
variable {K:PySem.W.Frag} {H H':Hp} {v:V} {xs:List V}
theorem den_int {i:Int}:Den K H (.int i) v↔v=.int i:=by unfold Den;exact Iff.rfl
theorem den_bl {i:Bool}:Den K H (.bool i) v↔v=.bl i:=by unfold Den;exact Iff.rfl
theorem den_str {i:Str}:Den K H (.str i) v↔v=.str i:=by unfold Den;exact Iff.rfl
theorem den_non:Den K H .none v↔v=.non:=by unfold Den;exact Iff.rfl
theorem den_tup {ds:List D}:Den K H (.tuple ds) v↔∃a xs,v=.ref a∧SqT K H a xs∧Dens K H ds xs:=by rw [Den]
theorem den_lst {ds:List D}:Den K H (.list ds) v↔∃a xs,v=.ref a∧SqL K H a xs∧Dens K H ds xs:=by rw [Den]
theorem s_ {ds:List (D × D)}:Den K H (.dict ds) v↔False:=by rw [Den]
theorem dens_nil:Dens K H [] xs↔xs=[]:=by unfold Dens;exact Iff.rfl
theorem me {d:D} {ds:List D}:Dens K H (d::ds) xs↔∃x r,xs=x::r∧Den K H d x∧Dens K H ds r:=by rw [Dens]
theorem dens_cons' {d:D} {ds:List D} {x:V}:Dens K H (d::ds) (x::xs)↔Den K H d x∧Dens K H ds xs:=by
 rw [me]
 constructor
 ·rintro ⟨_,_,e,h1,h2⟩
  cases e
  exact ⟨h1,h2⟩
 ·rintro ⟨h1,h2⟩
  exact ⟨_,_,rfl,h1,h2⟩
theorem x9 {a:Addr} (e:Same H H') (h:SqT K H a xs):SqT K H' a xs:=by
 rcases h with (h|⟨o,h⟩)|h
 ·exact .inl (.inl (e _ _ h))
 ·exact .inl (.inr ⟨o,e _ _ h⟩)
 ·exact .inr h
end
mutual
theorem Den.mono {K:PySem.W.Frag} {H H':Hp} (e:Same H H'):∀ {d:D} {v:V},Den K H d v→Den K H' d v
 | .none,v,h=>by rw [den_non] at h ⊢;exact h
 | .bool b,v,h=>by rw [den_bl] at h ⊢;exact h
 | .int b,v,h=>by rw [den_int] at h ⊢;exact h
 | .str b,v,h=>by rw [den_str] at h ⊢;exact h
 | .dict b,v,h=>by rw [s_] at h;exact h.elim
 | .tuple ds,v,h=>by
  rw [den_tup] at h ⊢
  obtain ⟨a,xs,h1,h2,h3⟩:=h
  exact ⟨a,xs,h1,x9 e h2,Dens.mono e h3⟩
 | .list ds,v,h=>by
  rw [den_lst] at h ⊢
  obtain ⟨a,xs,h1,h2,h3⟩:=h
  exact ⟨a,xs,h1,Same.seq e h2,Dens.mono e h3⟩
theorem Dens.mono {K:PySem.W.Frag} {H H':Hp} (e:Same H H'):∀ {ds:List D} {xs:List V},Dens K H ds xs→Dens K H' ds xs
 | [],xs,h=>by rw [dens_nil] at h ⊢;exact h
 | d::ds,xs,h=>by
  rw [me] at h ⊢
  obtain ⟨x,r,h1,h2,h3⟩:=h
  exact ⟨x,r,h1,Den.mono e h2,Dens.mono e h3⟩
end
section
variable {X:Cx} {pins:List (Addr × Obj)} {σ:L2.St} {H:Hp} {s:Shared}
mutual
theorem Den.reads (I:Inv X pins σ H s):∀(d:D) (v:V) (u:Value),Den X.K H d v→RelV v u→∃as,Reads s.heap u d as
 | .none,v,u,h,r=>by rw [den_non] at h;subst h;cases r;exact ⟨_,.none⟩
 | .bool b,v,u,h,r=>by rw [den_bl] at h;subst h;cases r;exact ⟨_,.bool b⟩
 | .int b,v,u,h,r=>by rw [den_int] at h;subst h;obtain ⟨t,rfl⟩:=r;exact ⟨_,.int b t⟩
 | .str b,v,u,h,r=>by rw [den_str] at h;subst h;obtain ⟨t,rfl⟩:=r;exact ⟨_,.str b t⟩
 | .dict b,v,u,h,r=>by rw [s_] at h;exact h.elim
 | .tuple ds,v,u,h,r=>by
  rw [den_tup] at h
  obtain ⟨a,xs,rfl,h2,h3⟩:=h
  cases r
  obtain ⟨its,rv,⟨o,ho,hc,n,hd⟩,_⟩:=I.tuple h2
  obtain ⟨as,hr⟩:=Dens.reads I ds xs its h3 rv
  exact ⟨as,.tuple ho hc hd (by simpa using hr)⟩
 | .list ds,v,u,h,r=>by
  rw [den_lst] at h
  obtain ⟨a,xs,rfl,h2,h3⟩:=h
  cases r
  obtain ⟨its,rv,p,_⟩:=I.list h2
  obtain ⟨o,ho,hc,n,hd⟩:=p.isList
  obtain ⟨as,hr⟩:=Dens.reads I ds xs its h3 rv
  exact ⟨_,.list ho hc hd (by simpa using hr)⟩
theorem Dens.reads (I:Inv X pins σ H s):∀(ds:List D) (xs:List V) (us:List Value),Dens X.K H ds xs→Vals xs us→∃as,ReadsAll s.heap us ds as
 | [],xs,us,h,r=>by rw [dens_nil] at h;subst h;cases r;exact ⟨_,.nil⟩
 | d::ds,xs,us,h,r=>by
  rw [me] at h
  obtain ⟨x,q,rfl,h2,h3⟩:=h
  cases r with
  | cons r1 r2 =>
   obtain ⟨as,h4⟩:=Den.reads I d x _ h2 r1
   obtain ⟨bs,h5⟩:=Dens.reads I ds q _ h3 r2
   exact ⟨_,.cons h4 h5⟩
end
end
section
variable {X:Cx}
noncomputable def D9 (K:PySem.W.Frag):R2:=fun x y H Q=>∃d e,Den K H d x∧Den K H e y∧SeqAt.shaped d=true∧SeqAt.shaped e=true∧Q (.bl (PyData.eqv d e)) H
noncomputable def El (K:PySem.W.Frag):R2:=fun x y H Q=>∃d e,Den K H d x∧Den K H e y∧SeqAt.shaped d=true∧SeqAt.shaped e=true∧Q (.bl (!PyData.eqv d e)) H
theorem BL (hu:X.A.units+64<cLine):OpR X (compareOp .Eq) (D9 X.K):=by
 intro pins s σ H x y v u Q I rx ry h
 obtain ⟨d,e,h1,h2,h3,h4,q⟩:=h
 obtain ⟨as,ra⟩:=Den.reads I d x v h1 rx
 obtain ⟨bs,rb⟩:=Den.reads I e y u h2 ry
 exact eq_dataH ra rb h3 h4 hu ⟨.bl _,H,I,rfl,q⟩
theorem Cn (hu:X.A.units+64<cLine):OpR X (compareOp .NotEq) (El X.K):=by
 intro pins s σ H x y v u Q I rx ry h
 obtain ⟨d,e,h1,h2,h3,h4,q⟩:=h
 obtain ⟨as,ra⟩:=Den.reads I d x v h1 rx
 obtain ⟨bs,rb⟩:=Den.reads I e y u h2 ry
 exact ne_dataH ra rb h3 h4 hu ⟨.bl _,H,I,rfl,q⟩
structure Has (P:Program) (w:World) (K:PySem.W.Frag) (mg:Str→Option Value) (base:Heap) (k:Nat) (x:Str) (ps:List Str) (sp:Sp):Prop where
 ex:∃(f:Addr) (fd:FuncData),oX P w K mg base CX0 k f fd ps sp∧mg x=some (.ref f)∧PySem.W.keepIn K (.ref f)=true∧Binds K fd ps []
structure At (K:PySem.W.Frag) (mg:Str→Option Value) (x:Str) (st:Stmt) (ps:List Str):Prop where
 ex:∃(f:Addr) (fd:FuncData),Fun K x x st f fd∧mg x=some (.ref f)∧Binds K fd ps []
theorem At.mk' {K:PySem.W.Frag} {mg:Str→Option Value} {h:Heap} {x:Str} {st:Stmt} {ps:List Str} {f:Addr} {oc:Value} {od an:Option Addr} {osl:Array (Option Value)} {kV doc pm cdv ct:Value} (X:K.In h) (G:h.Ns mainGlobals mg)
  (hb:∀(kV doc pm:Value) (an:Option Addr) (cdv ct:Value) (us:List Value),us.length=ps.length→bindArgs (PySem.W.fnOf x x (aj st) (ac st) (aa st) .none kV doc pm an cdv ct) ⟨us,[]⟩=pure (ps.zip us))
  (a:PySem.W.nsIn K mainGlobals x=some (some (.ref f))) (l:K.lookup f=some ⟨oc,od,.func (PySem.W.fnOf x x (aj st) (ac st) (aa st) .none kV doc pm an cdv ct),osl⟩)
  (c:PySem.W.codeIn K cdv x=true) (k:PySem.W.keepIn K (.ref f)=true):At K mg x st ps:=by
 have F:=xX (st:=st) l c k
 exact ⟨f,_,F,PySem.W.mg_of X G a,F.binds hb⟩
theorem At.ok {P:Program} {w:World} {K:PySem.W.Frag} {mg:Str→Option Value} {base:Heap} {x:Str} {st:Stmt} {N ps:List Str} {k:Nat} {sp:Sp} (F:At K mg x st ps) (S:ai N ps (aa st)) (len:∀vs H Q E,sp vs H Q E→vs.length=ps.length)
  (hbody:∀(f:Addr) (cdv:Value) (A:Around) (outer:List Env) (s:Shared) (H:Hp) (vs:List V) (Q:VK) (E:XK),Room k (A.deeper (envOfC x (aa st) s.heap.objs.size f cdv))→sp vs H Q E →
   ∃t,PSs (ma CX0 P w K mg base N x (aa st) f cdv A outer s H E).nox (ac st) t∧t { nx:=fun _ H'=>Q .non H',rt:=Q } (start N vs) H):Has P w K mg base (k+1) x ps sp:=by
 obtain ⟨f,fd,Ff,m,b⟩:=F.ex
 exact ⟨f,fd,Ff.ok S len (fun cdv A outer s H vs Q E hr h=>hbody f cdv A outer s H vs Q E hr h),m,Ff.kp,b⟩
theorem Bx {k:Nat} {x:Str} {ps:List Str} {sp:Sp} {p pos:Pos} {e:Expr} {es:List Expr} {t:TA} (F:Has X.prog X.w X.K X.mg X.base k x ps sp) (hr:Room k X.A) (ha:PA X (e::es) t)
  (hg:Gl X x:=by rfl) (hdb:(x == ("__debug__":Str))=false:=by decide) (he:starEach (e::es) X.env=(false,eval e X.env)::starEach es X.env:=by rfl) (hpl:(backTo pos (starEach es X.env)).any (·.1)=false:=by rfl) :
  PE X (.Call (.Name x p) (e::es) [] pos) (qi sp [] E0 t):=by
 obtain ⟨f,fd,F,m,kp,b⟩:=F.ex
 exact Ax F hr hg m kp b .nil Bq ha hdb he hpl
theorem zT {k:Nat} {x:Str} {ps:List Str} {sp:Sp} {p pos:Pos} (F:Has X.prog X.w X.K X.mg X.base k x ps sp) (hr:Room k X.A)
  (hg:Gl X x:=by rfl) (hdb:(x == ("__debug__":Str))=false:=by decide) :
  PE X (.Call (.Name x p) [] [] pos) (qi sp [] E0 uu):=by
 obtain ⟨f,fd,F,m,kp,b⟩:=F.ex
 exact zu F hr hg m kp b .nil Bq hdb
end
end HX
set_option Elab.async false
set_option linter.all false
set_option maxRecDepth 100000
namespace HX
open PySem PySem.Spec PyProof.Rows L2
noncomputable def ah:Expr→Bool
 | .Starred ..=>false
 | _=>true
theorem bi {e:Expr} {es:List Expr} {env:Env} (h:ah e=true):starEach (e::es) env=(false,eval e env)::starEach es env:=by
 cases e <;> first|rfl|cases h
theorem sU {env:Env}:∀ {es:List Expr},es.all ah=true→(starEach es env).any (·.1)=false
 | [],_=>rfl
 | e::es,h=>by
  rw [List.all_cons,Bool.and_eq_true] at h
  rw [bi h.1,List.any_cons,sU h.2]
  rfl
noncomputable def jS:Expr→Bool
 | .Slice ..=>false
 | _=>true
theorem DP {b:Expr} (h:jS b=true):vJ b:=fun o i=>by
 cases b <;> first|rfl|cases h
section
variable {X:Cx}
theorem pac {e:Expr} {es:List Expr} {te:TE} {t:TA} (ha:PE X e te) (hr:PA X es t) (h:ah e=true:=by rfl):PA X (e::es) (jf te t):=AG ha hr (bi h)
theorem yj {a b:Expr} {ta tb:TE} {pos:Pos} {r:R2} (hr:IxR X r) (ha:PE X a ta) (hb:PE X b tb) (hs:jS b=true:=by rfl):PE X (.Subscript a b pos) (tOp r ta tb):=Dl hr ha hb (DP hs)
theorem nL {env:Env} {pos:Pos} {es:List Expr} (h:es.all ah=true):(backTo pos (starEach es env)).any (·.1)=false:=by
 have:=sU (env:=env) h
 unfold backTo
 rw [List.any_map]
 exact this
theorem A4 {k:Nat} {x:Str} {ps:List Str} {sp:Sp} {p pos:Pos} {e:Expr} {es:List Expr} {t:TA} (F:Has X.prog X.w X.K X.mg X.base k x ps sp) (hr:Room k X.A) (ha:PA X (e::es) t)
  (hg:Gl X x:=by rfl) (hdb:(x == ("__debug__":Str))=false:=by decide) (he:ah e=true:=by rfl) (hpl:es.all ah=true:=by rfl) :
  PE X (.Call (.Name x p) (e::es) [] pos) (qi sp [] E0 t):=Bx F hr ha hg hdb (bi he) (nL hpl)
theorem mi {id:String} {r:List V→Hp→VK→Prop} {x:Str} {p pos:Pos} {e:Expr} {es:List Expr} {t:TA} (hc:eA X (.builtin id) r) (hg:Gl X x) (hm:X.mg x=none) (hv:bootBuiltins x=some (.builtin id)) (ha:PA X (e::es) t) (hn:x≠"__name__":=by decide) (hdb:(x == ("__debug__":Str))=false:=by decide)
  (he:ah e=true:=by rfl) (hpl:es.all ah=true:=by rfl):PE X (.Call (.Name x p) (e::es) [] pos) (tCB r t):=y6 hc hg hm hv ha hn hdb (bi he) (nL hpl)
theorem nr {T:String} {r:List V→Hp→VK→Prop} {x:Str} {p pos:Pos} {e:Expr} {es:List Expr} {t:TA} (hc:eA X (.type T) r) (hg:Gl X x) (hm:X.mg x=none) (hv:bootBuiltins x=some (.type T)) (ha:PA X (e::es) t) (hn:x≠"__name__":=by decide) (hdb:(x == ("__debug__":Str))=false:=by decide)
  (he:ah e=true:=by rfl) (hpl:es.all ah=true:=by rfl):PE X (.Call (.Name x p) (e::es) [] pos) (tCB r t):=w5 hc hg hm hv ha hn hdb (bi he) (nL hpl)
end
end HX
set_option Elab.async false
set_option linter.all false
set_option maxRecDepth 100000
namespace L2
open PySem PySem.Spec PyProof.Rows
section
variable {κ:Type} [DecidableEq κ]
noncomputable def iu (kvs:List (κ × V)) (k:κ):Option V:=(kvs.find? fun kv=>decide (kv.1=k)).map (·.2)
noncomputable def j0 (kvs:List (κ × V)) (k:κ) (v:V):List (κ × V) :=
 if (kvs.any fun kv=>decide (kv.1=k))=true then kvs.map (fun kv=>if kv.1=k then (kv.1,v) else kv) else kvs++[(k,v)]
theorem kM {p:κ × V} {r:List (κ × V)} {k:κ} (e:p.1=k):iu (p::r) k=some p.2:=by simp [iu,List.find?_cons,e]
theorem j_ {p:κ × V} {r:List (κ × V)} {k:κ} (e:¬p.1=k):iu (p::r) k=iu r k:=by simp [iu,List.find?_cons,e]
theorem uC (k:κ):∀kvs:List (κ × V),(kvs.any fun kv=>decide (kv.1=k))=(iu kvs k).isSome
 | []=>rfl
 | p::r=>by
  rw [List.any_cons]
  by_cases e:p.1=k
  ·simp only [kM e,decide_eq_true e,Bool.true_or,Option.isSome_some]
  ·rw [j_ e,decide_eq_false e,Bool.false_or];exact uC k r
theorem mD (kvs:List (κ × V)) (k:κ) (v:V):(j0 kvs k v).length≤kvs.length+1:=by
 unfold j0
 split
 ·rw [List.length_map];omega
 ·rw [List.length_append,List.length_cons,List.length_nil];omega
theorem RelO.isSome_eq {o:Option V} {u:Option Value} (r:RelO o u):o.isSome=u.isSome:=by
 cases o with
 | none=>cases u with
  | none=>rfl
  | some _=>exact (show False from r).elim
 | some _=>cases u with
  | none=>exact (show False from r).elim
  | some _=>rfl
theorem KV.val {kvs:List (κ × V)} {vs:List (κ × Value)} (r:KV kvs vs) (k:κ):RelO (iu kvs k) (valueAt vs k):=by
 unfold KV at r
 induction r with
 | nil=>exact True.intro
 | @cons p q ps qs h t ih =>
  obtain ⟨h1,h2⟩:=h
  by_cases e:p.1=k
  ·have e':q.1=k:=h1.symm.trans e
   have b:valueAt (q::qs) k=some q.2:=by simp [valueAt,List.find?_cons,e']
   rw [kM e,b];exact h2
  ·have e':¬q.1=k:=fun z=>e (h1.trans z)
   have b:valueAt (q::qs) k=valueAt qs k:=by simp [valueAt,List.find?_cons,e']
   rw [j_ e,b];exact ih
theorem KV.any {kvs:List (κ × V)} {vs:List (κ × Value)} (r:KV kvs vs) (k:κ):(kvs.any fun kv=>decide (kv.1=k))=vs.any fun kv=>decide (kv.1=k):=by
 unfold KV at r
 induction r with
 | nil=>rfl
 | cons h t ih=>rw [List.any_cons,List.any_cons,ih,h.1]
theorem KV.repl {kvs:List (κ × V)} {vs:List (κ × Value)} (r:KV kvs vs) (k:κ) {y:V} {u:Value} (ry:RelV y u) :
  KV (kvs.map fun kv=>if kv.1=k then (kv.1,y) else kv) (vs.map fun kv=>if kv.1=k then (kv.1,u) else kv):=by
 unfold KV at r ⊢
 induction r with
 | nil=>exact .nil
 | @cons p q ps qs h t ih =>
  rw [List.map_cons,List.map_cons]
  refine .cons ?_ ih
  obtain ⟨h1,h2⟩:=h
  by_cases e:p.1=k
  ·rw [if_pos e,if_pos (h1.symm.trans e)];exact ⟨h1,ry⟩
  ·rw [if_neg e,if_neg (fun z=>e (h1.trans z))];exact ⟨h1,h2⟩
theorem KV.put {kvs:List (κ × V)} {vs:List (κ × Value)} (r:KV kvs vs) (k:κ) {y:V} {u:Value} (ry:RelV y u):KV (j0 kvs k y) (stored vs k u):=by
 unfold j0 stored
 rw [r.any k]
 by_cases e:(vs.any fun kv=>decide (kv.1=k))=true
 ·rw [if_pos e,if_pos e];exact r.repl k ry
 ·rw [if_neg e,if_neg e];exact Paired.snoc r ⟨rfl,ry⟩
theorem KV.length {kvs:List (κ × V)} {vs:List (κ × Value)} (r:KV kvs vs):kvs.length=vs.length:=Paired.length r
end
theorem ul {P:Program} {w:World} {k:Key} {u:Value} (r:RelV (kV k) u):(bG P w).is k u=true:=by
 cases k with
 | inl i=>obtain ⟨t,e⟩:=(show ∃t,u=Value.int i t from r);subst e;exact tY P w i t
 | inr x=>obtain ⟨t,e⟩:=(show ∃t,u=Value.str x t from r);subst e;exact uf P w x t
theorem pN {P:Program} {w:World}:∀ {ks:List Key} {us:List Value},Vals (ks.map kV) us→ItemsAre (bG P w) ks us
 | [],_,r=>by rw [List.map_nil] at r;cases r;exact .nil
 | k::ks,_,r=>by
  rw [List.map_cons] at r
  cases r with
  | cons h t=>exact .cons (ul h) (pN t)
noncomputable abbrev KT (H:Hp):List (List Key × V)→List (List Key × Addr × Value)→Prop:=Paired fun p q=>p.1=q.1∧H q.2.1=some (.tup (p.1.map kV))∧RelV p.2 q.2.2
theorem KT.val {H:Hp} {kvs:List (List Key × V)} {xs:List (List Key × Addr × Value)} (r:KT H kvs xs) (k:List Key):RelO (iu kvs k) ((atKey xs k).map (·.2)):=by
 induction r with
 | nil=>exact True.intro
 | @cons p q ps qs h t ih =>
  obtain ⟨h1,_,h2⟩:=h
  by_cases e:p.1=k
  ·have e':q.1=k:=h1.symm.trans e
   have b:atKey (q::qs) k=some q.2:=by simp [atKey,List.find?_cons,e']
   rw [kM e,b];exact h2
  ·have e':¬q.1=k:=fun z=>e (h1.trans z)
   have b:atKey (q::qs) k=atKey qs k:=by simp [atKey,List.find?_cons,e']
   rw [j_ e,b];exact ih
theorem KT.repl {H:Hp} {kvs:List (List Key × V)} {xs:List (List Key × Addr × Value)} (r:KT H kvs xs) (k:List Key) {y:V} {u:Value} (ry:RelV y u) :
  KT H (kvs.map fun kv=>if kv.1=k then (kv.1,y) else kv) (xs.map (putAt k u)):=by
 induction r with
 | nil=>exact .nil
 | @cons p q ps qs h t ih =>
  rw [List.map_cons,List.map_cons]
  refine .cons ?_ ih
  obtain ⟨h1,h2,h3⟩:=h
  unfold putAt
  by_cases e:p.1=k
  ·rw [if_pos e,if_pos (h1.symm.trans e)];exact ⟨h1,h2,ry⟩
  ·rw [if_neg e,if_neg (fun z=>e (h1.trans z))];exact ⟨h1,h2,h3⟩
theorem KT.put {H:Hp} {kvs:List (List Key × V)} {xs:List (List Key × Addr × Value)} (r:KT H kvs xs) (k:List Key) {b:Addr} {y:V} {u:Value} (hb:H b=some (.tup (k.map kV))) (ry:RelV y u) :
  KT H (j0 kvs k y) (storedH xs k b u):=by
 have e:(kvs.any fun kv=>decide (kv.1=k))=(atKey xs k).isSome:=by
  rw [uC,(r.val k).isSome_eq,Option.isSome_map]
 unfold j0 storedH
 rw [e]
 by_cases q:(atKey xs k).isSome=true
 ·rw [if_pos q,if_pos q];exact r.repl k ry
 ·rw [if_neg q,if_neg q];exact Paired.snoc r ⟨rfl,hb,ry⟩
theorem KT.keeps {H H':Hp} {kvs:List (List Key × V)} {xs:List (List Key × Addr × Value)} (r:KT H kvs xs) (ht:∀b ys,H b=some (.tup ys)→H' b=some (.tup ys)):KT H' kvs xs :=
 Paired.mapP r fun _ _ z=>⟨z.1,ht _ _ z.2.1,z.2.2⟩
section
variable {P:Program} {w:World} {H:Hp} {h:Heap} {a:Addr}
theorem Bf {u:HO} (ok:HOk P w H h) (e:Rd H a u):ObjOk P w H h a u:=e.ok ok
theorem v5 {kvs:List (Key × V)} (ok:HOk P w H h) (e:Rd H a (.dK kvs)):kvs.length≤sizeLine∧(a == sysModules)=false∧∃vs,KV kvs vs∧h.DictOf (bG P w) a vs :=
 show ObjOk P w H h a (.dK kvs) from Bf ok e
theorem Bc {kvs:List (Key × V)} (ok:HOk P w H h) (e:H a=some (.dK kvs)):kvs.length≤sizeLine∧(a == sysModules)=false∧∃vs,KV kvs vs∧h.DictOf (bG P w) a vs:=v5 ok (.inl e)
theorem n4 {ks:List Key} (ok:HOk P w H h) (e:H a=some (.tup (ks.map kV))):(tupleKind (bG P w)).is h ks a:=by
 obtain ⟨_,its,r,o,h1,h2,n,h3⟩:=(show ObjOk P w H h a (.tup (ks.map kV)) from ok a _ e)
 exact ⟨o,its.toArray,n,h1,h2,h3,by simpa using pN r⟩
theorem v6 {kvs:List (List Key × V)} (ok:HOk P w H h) (e:Rd H a (.dT kvs)):kvs.length≤sizeLine∧(a == sysModules)=false ∧
  ∃xs,KT H kvs xs∧h.DictOfH (tupleKind (bG P w)) a xs:=by
 obtain ⟨z,y,xs,r,o,es,ep,h1,h2,h3,h4,h5⟩:=(show ObjOk P w H h a (.dT kvs) from Bf ok e)
 refine ⟨z,y,xs,r,o,es,ep,h1,h2,h3,h4,fun x hx=>?_,h5⟩
 have all:∀ {l:List (List Key × V)} {m:List (List Key × Addr × Value)},KT H l m→∀x∈m,(tupleKind (bG P w)).is h x.1 x.2.1:=by
  intro l m q
  induction q with
  | nil=>intro x hx;exact nomatch hx
  | @cons p q ps qs hq t ih =>
   intro x hx
   rcases List.mem_cons.mp hx with e|hx
   ·subst e
    exact n4 ok (by rw [←hq.1];exact hq.2.1)
   ·exact ih x hx
 exact all r x hx
theorem DE {kvs:List (List Key × V)} (ok:HOk P w H h) (e:H a=some (.dT kvs)):kvs.length≤sizeLine∧(a == sysModules)=false ∧
  ∃xs,KT H kvs xs∧h.DictOfH (tupleKind (bG P w)) a xs:=v6 ok (.inl e)
end
noncomputable def DGet (H:Hp) (a:Addr) (y:V) (r:Option V):Prop :=
 (∃kvs k,Rd H a (.dK kvs)∧y=kV k∧r=iu kvs k)∨∃kvs k b,Rd H a (.dT kvs)∧y=.ref b∧H b=some (.tup (k.map kV))∧r=iu kvs k
noncomputable def DPut (H:Hp) (a:Addr) (y v:V) (H':Hp):Prop :=
 (∃kvs k,H a=some (.dK kvs)∧y=kV k∧kvs.length<sizeLine∧H'=upd H a (.dK (j0 kvs k v))) ∨
 ∃kvs k b,H a=some (.dT kvs)∧y=.ref b∧H b=some (.tup (k.map kV))∧kvs.length<sizeLine∧H'=upd H a (.dT (j0 kvs k v))
theorem DGet.k {H:Hp} {a:Addr} {kvs:List (Key × V)} {k:Key} (e:H a=some (.dK kvs)):DGet H a (kV k) (iu kvs k):=.inl ⟨kvs,k,.inl e,rfl,rfl⟩
theorem DPut.k {H:Hp} {a:Addr} {kvs:List (Key × V)} {k:Key} {v:V} (e:H a=some (.dK kvs)) (hl:kvs.length<sizeLine):DPut H a (kV k) v (upd H a (.dK (j0 kvs k v))):=.inl ⟨kvs,k,e,rfl,hl,rfl⟩
section
variable {X:Cx} {pins:List (Addr × Obj)} {σ:St} {H:Hp} {s:Shared} {a:Addr} {y v:V} {u r:Value} {o:Option V} {A:Around} {E:Value→Shared→Prop}
theorem xu {Q:Value→Shared→Prop} (hu:A.units+1<cLine) (I:Inv X pins σ H s) (g:DGet H a y (some v)) (ry:RelV y u) (h:∀w' s',Inv X pins σ H s'→RelV v w'→Q w' s') :
  wpAny (model X.prog X.w) A (getItem (.ref a) u) Q E s:=by
 rcases g with ⟨kvs,k,e,ey,l⟩|⟨kvs,k,b,e,ey,eb,l⟩
 ·subst ey
  obtain ⟨z,hd,vs,rel,dd⟩:=v5 I.hok e
  obtain ⟨w',hw,rw'⟩:=RelO.some_of (v:=v) (o:=valueAt vs k) (by rw [l];exact rel.val k)
  exact wpAny_getItem_of (ul ry) dd.mapOf hw (h w' _ (I.tok _) rw')
 ·subst ey
  cases (show u=Value.ref b from ry)
  obtain ⟨z,hd,xs,rel,dd⟩:=v6 I.hok e
  obtain ⟨w',hw,rw'⟩:=RelO.some_of (v:=v) (o:=(atKey xs k).map (·.2)) (by rw [l];exact rel.val k)
  obtain ⟨p,hp,hp2⟩:=Option.map_eq_some_iff.mp hw
  refine wpAny_getItem_heap (tupleKind_room_in1 hu) (n4 I.hok eb) dd hp ?_
  rw [hp2]
  exact h w' _ (I.tok _) rw'
theorem D5 {Q:Value→Shared→Prop} (hu:A.units+1<cLine) (I:Inv X pins σ H s) (g:DGet H a y o) (ry:RelV y u) (h:∀s',Inv X pins σ H s'→Q (.bool o.isSome) s') :
  wpAny (model X.prog X.w) A (compareOp .In u (.ref a)) Q E s:=by
 rcases g with ⟨kvs,k,e,ey,l⟩|⟨kvs,k,b,e,ey,eb,l⟩
 ·subst ey
  obtain ⟨z,hd,vs,rel,dd⟩:=v5 I.hok e
  refine wpAny_in_of (ul ry) hd dd.mapOf ?_
  rw [←(rel.val k).isSome_eq,←l]
  exact h _ (I.tok _)
 ·subst ey
  cases (show u=Value.ref b from ry)
  obtain ⟨z,hd,xs,rel,dd⟩:=v6 I.hok e
  refine wpAny_in_heap (tupleKind_room_in1 hu) (n4 I.hok eb) hd dd ?_
  have q:=(rel.val k).isSome_eq
  rw [Option.isSome_map] at q
  rw [←q,←l]
  exact h _ (I.tok _)
theorem AJ {Q:Value→Shared→Prop} (hu:A.units+1<cLine) (I:Inv X pins σ H s) (g:DGet H a y o) (ry:RelV y u) (h:∀s',Inv X pins σ H s'→Q (.bool (!o.isSome)) s') :
  wpAny (model X.prog X.w) A (compareOp .NotIn u (.ref a)) Q E s:=by
 rcases g with ⟨kvs,k,e,ey,l⟩|⟨kvs,k,b,e,ey,eb,l⟩
 ·subst ey
  obtain ⟨z,hd,vs,rel,dd⟩:=v5 I.hok e
  refine wpAny_notIn_of (ul ry) hd dd.mapOf ?_
  rw [←(rel.val k).isSome_eq,←l]
  exact h _ (I.tok _)
 ·subst ey
  cases (show u=Value.ref b from ry)
  obtain ⟨z,hd,xs,rel,dd⟩:=v6 I.hok e
  refine wpAny_notIn_heap (tupleKind_room_in1 hu) (n4 I.hok eb) hd dd ?_
  have q:=(rel.val k).isSome_eq
  rw [Option.isSome_map] at q
  rw [←q,←l]
  exact h _ (I.tok _)
theorem wb {h':Heap} {t':Nat} {ob:HO} (I:Inv X pins σ H s) (mu:Mut (H a)) (hs:Heap.SameBut a s.heap h') (he:∃q,h'.get? a=some q) (new:ObjOk X.prog X.w (upd H a ob) h' a ob) :
  Inv X pins σ (upd H a ob) { s with heap:=h',toks:=t' } :=
 I.write (x:=a) (e:=a) mu (.inl rfl) (fun b q hb z=>(hs.2 b hb).trans z) he new
theorem BY {P:Program} {w:World} {H':Hp} {h':Heap} {kvs:List (Key × V)} {vs:List (Key × Value)} (z:kvs.length≤sizeLine) (hd:(a == sysModules)=false) (rel:KV kvs vs) (dd:h'.DictOf (bG P w) a vs) :
  ObjOk P w H' h' a (.dK kvs):=⟨z,hd,vs,rel,dd⟩
theorem xj {H':Hp} {Q:Unit→Shared→Prop} (hu:A.units+1<cLine) (I:Inv X pins σ H s) (g:DPut H a y v H') (ry:RelV y u) (rv:RelV v r) (h:∀s',Inv X pins σ H' s'→Q () s') :
  wpAny (model X.prog X.w) A (setItem (.ref a) u r) Q E s:=by
 rcases g with ⟨kvs,k,e,ey,l,eH⟩|⟨kvs,k,b,e,ey,eb,l,eH⟩
 ·subst ey eH
  obtain ⟨z,hd,vs,rel,dd⟩:=Bc I.hok e
  have hz:vs.length≤sizeLine:=by rw [←rel.length];exact z
  have hl:(j0 kvs k v).length≤sizeLine:=by have:=mD kvs k v;omega
  refine wpAny_setItem_pairs (hsz:=hz) (ul ry) dd fun h' dd' hs=>h _ ?_
  have he:∃q,h'.get? a=some q:=let ⟨q,_,_,hq,_⟩:=dd';⟨q,hq⟩
  exact wb I (by rw [e];exact True.intro) hs he (BY hl hd (rel.put k rv) dd')
 ·subst ey eH
  cases (show u=Value.ref b from ry)
  obtain ⟨z,hd,xs,rel,dd⟩:=DE I.hok e
  have hz:xs.length≤sizeLine:=by rw [←Paired.length rel];exact z
  have hl:(j0 kvs k v).length≤sizeLine:=by have:=mD kvs k v;omega
  refine wpAny_setItem_heap (hsz:=hz) (tupleKind_room_in1 hu) (n4 I.hok eb) dd fun h' dd' hs=>h _ ?_
  obtain ⟨q,es,ep,hq,h2,h3,h4,_,h5⟩:=dd'
  refine wb I (by rw [e];exact True.intro) hs ⟨q,hq⟩ ⟨hl,hd,_,(rel.put k eb rv).keeps fun c ys ec=>?_,q,es,ep,hq,h2,h3,h4,h5⟩
  rw [af (Dp ec e (fun z=>nomatch z))]
  exact ec
end
section
variable {X:Cx} {pins:List (Addr × Obj)} {σ:St} {H:Hp} {s:Shared} {a:Addr} {kvs:List (Key × V)} {k:Key} {u:Value} {A:Around} {E:Value→Shared→Prop}
end
section
variable {X:Cx} {pins:List (Addr × Obj)} {σ:St} {H:Hp} {s:Shared} {a:Addr} {kvs:List (Key × V)} {A:Around} {E:Value→Shared→Prop}
end
end L2
set_option Elab.async false
set_option linter.all false
set_option maxRecDepth 100000
namespace FW
open PySem PySem.Spec PyProof.Rows L2
noncomputable def qt (xs:Array Nat):Prop:=∀i j,i<j→j<xs.size→xs.getD i 0<xs.getD j 0
theorem xZ {xs:Array Nat} {j:Nat} (h:qt xs):∀(fuel lo hi:Nat),hi-lo≤fuel→lo≤hi→hi≤xs.size→(∀i,i<lo→xs.getD i 0<j)→(∀i,hi≤i→i<xs.size→j≤xs.getD i 0) →
  SetTable.below.go xs j fuel lo hi≤xs.size∧(∀i,i<SetTable.below.go xs j fuel lo hi→xs.getD i 0<j)∧∀i,SetTable.below.go xs j fuel lo hi≤i→i<xs.size→j≤xs.getD i 0:=by
 intro fuel
 induction fuel with
 | zero =>
  intro lo hi h1 h2 h3 h4 h5
  have:lo=hi:=by omega
  subst this
  rw [SetTable.below.go]
  exact ⟨h3,h4,h5⟩
 | succ n ih =>
  intro lo hi h1 h2 h3 h4 h5
  rw [SetTable.below.go]
  by_cases c:lo<hi
  ·rw [if_pos c]
   have ml:(lo+hi)/2<xs.size:=by omega
   have e:xs.getD ((lo+hi)/2) j=xs.getD ((lo+hi)/2) 0:=by simp [Array.getD,ml]
   dsimp only
   rw [e]
   have up:∀a b,a≤b→b<xs.size→xs.getD a 0≤xs.getD b 0:=fun a b h1 h2=>by
    by_cases q:a=b
    ·rw [q];exact Nat.le_refl _
    ·exact Nat.le_of_lt (h a b (by omega) h2)
   by_cases d:xs.getD ((lo+hi)/2) 0<j
   ·rw [if_pos d]
    exact ih _ _ (by omega) (by omega) h3 (fun i hi'=>by have:=up i ((lo+hi)/2) (by omega) ml;omega) h5
   ·rw [if_neg d]
    exact ih _ _ (by omega) (by omega) (by omega) h4 fun i h6 h7=>by have:=up ((lo+hi)/2) i h6 h7;omega
  ·rw [if_neg c]
   have:lo=hi:=by omega
   subst this
   exact ⟨h3,h4,h5⟩
theorem gb {xs:Array Nat} {j:Nat} (h:qt xs):SetTable.below xs j≤xs.size∧(∀i,i<SetTable.below xs j→xs.getD i 0<j)∧∀i,SetTable.below xs j≤i→i<xs.size→j≤xs.getD i 0 :=
 xZ h xs.size 0 xs.size (by omega) (Nat.zero_le _) (Nat.le_refl _) (fun i hi=>absurd hi (Nat.not_lt_zero _)) fun i h1 h2=>by omega
theorem yS {xs:Array Nat} (h:qt xs) {i:Nat} (hi:i<xs.size):SetTable.below xs (xs.getD i 0)=i∧SetTable.below xs (xs.getD i 0+1)=i+1:=by
 obtain ⟨a1,a2,a3⟩:=gb (j:=xs.getD i 0) h
 obtain ⟨b1,b2,b3⟩:=gb (j:=xs.getD i 0+1) h
 constructor
 ·refine Nat.le_antisymm (Nat.le_of_not_lt fun z=>?_) (Nat.le_of_not_lt fun z=>?_)
  ·have:=a2 i z;omega
  ·have:=a3 _ (Nat.le_refl _) (by omega)
   have:=h _ _ z hi
   omega
 ·refine Nat.le_antisymm (Nat.le_of_not_lt fun z=>?_) (Nat.le_of_not_lt fun z=>?_)
  ·have p:=b2 (i+1) z
   have:=h i (i+1) (by omega) (by omega)
   omega
  ·have:=b3 i (by omega) hi
   omega
theorem jc {xs:Array Nat} {p x:Nat} (hp:p≤xs.size) (i:Nat):(SetTable.insertAt xs p x).getD i 0=if i<p then xs.getD i 0 else if i=p then x else xs.getD (i-1) 0:=by
 have e:=SetTable.toList_insertAt xs p x
 have g:∀(ys:Array Nat),ys.getD i 0=ys.toList.getD i 0:=fun ys=>by simp [Array.getD,List.getD_eq_getElem?_getD];split <;> simp_all
 have g2:∀k,xs.getD k 0=xs.toList.getD k 0:=fun k=>by simp [Array.getD,List.getD_eq_getElem?_getD];split <;> simp_all
 rw [g,e,g2,g2]
 have lp:(xs.toList.take p).length=p:=by rw [List.length_take,Array.length_toList];omega
 by_cases c:i<p
 ·rw [if_pos c]
  simp only [List.getD_eq_getElem?_getD]
  rw [List.getElem?_append_left (by omega),List.getElem?_take_of_lt c]
 ·rw [if_neg c]
  simp only [List.getD_eq_getElem?_getD]
  rw [List.getElem?_append_right (by omega),lp]
  by_cases d:i=p
  ·rw [if_pos d,d,Nat.sub_self];rfl
  ·rw [if_neg d]
   obtain ⟨k,hk⟩:∃k,i-p=k+1:=⟨i-p-1,by omega⟩
   rw [hk,List.getElem?_cons_succ,List.getElem?_drop]
   congr 2
   omega
theorem oS {xs:Array Nat} {p x:Nat} (hp:p≤xs.size):(SetTable.insertAt xs p x).size=xs.size+1:=by
 have e:=congrArg List.length (SetTable.toList_insertAt xs p x)
 rw [Array.length_toList] at e
 rw [e]
 simp
 omega
noncomputable def zV (t:SetTable) (j:Nat):Prop:=t.place[SetTable.below t.place j]?≠some j
theorem AO {t:SetTable} {j:Nat} (h:qt t.place) (f:zV t j):qt (t.put j).1.place:=by
 obtain ⟨a1,a2,a3⟩:=gb (j:=j) h
 show qt (SetTable.insertAt t.place (SetTable.below t.place j) j)
 have ne:∀i,SetTable.below t.place j≤i→i<t.place.size→j<t.place.getD i 0:=fun i h1 h2=>by
  have g1:=a3 i h1 h2
  refine Nat.lt_of_le_of_ne g1 fun e=>?_
  have g2:=a3 _ (Nat.le_refl _) (by omega)
  have e2:t.place.getD (SetTable.below t.place j) 0=j:=by
   by_cases q:SetTable.below t.place j=i
   ·rw [q];exact e.symm
   ·have:=h _ _ (show SetTable.below t.place j<i by omega) h2
    omega
  have lt:SetTable.below t.place j<t.place.size:=by omega
  have e3:t.place[SetTable.below t.place j]?=some (t.place.getD (SetTable.below t.place j) 0):=by simp [Array.getD,lt]
  exact f (by rw [e3,e2])
 intro i k ik ks
 rw [oS a1] at ks
 rw [jc a1,jc a1]
 by_cases c1:i<SetTable.below t.place j
 ·rw [if_pos c1]
  by_cases c2:k<SetTable.below t.place j
  ·rw [if_pos c2];exact h i k ik (by omega)
  ·rw [if_neg c2]
   by_cases c3:k=SetTable.below t.place j
   ·rw [if_pos c3];exact a2 i c1
   ·rw [if_neg c3];exact h i (k-1) (by omega) (by omega)
 ·rw [if_neg c1,if_neg (show ¬k<SetTable.below t.place j by omega),if_neg (show ¬k=SetTable.below t.place j by omega)]
  by_cases c3:i=SetTable.below t.place j
  ·rw [if_pos c3];exact ne (k-1) (by omega) (by omega)
  ·rw [if_neg c3];exact h (i-1) (k-1) (by omega) (by omega)
theorem pU {t:SetTable} {j:Nat} (h:t.slot j=.empty∨t.slot j=.dummy):zV t j:=fun e=>by
 have:t.slot j=.live (SetTable.below t.place j):=by
  unfold SetTable.slot
  dsimp only
  rw [e]
  simp
 rw [this] at h
 rcases h with h|h <;> cases h
theorem uO {t:SetTable} {hashAt:Nat→Int} {h:Int}:∀(fuel:Nat) (p:SetTable.Probe) {j:Nat} {dm:Option Nat},(∀d,p.dummy=some d→zV t d)→SetTable.probe.go t hashAt h fuel p=some (.empty j dm)→zV t (dm.getD j):=by
 intro fuel
 induction fuel with
 | zero=>intro p j dm hd e;rw [SetTable.probe.go] at e;cases e
 | succ n ih =>
  intro p j dm hd e
  rw [SetTable.probe.go] at e
  cases c:t.slot p.j with
  | empty =>
   rw [c] at e
   cases e
   cases q:p.dummy with
   | none=>exact pU (.inl c)
   | some d=>exact hd d q
  | dummy =>
   rw [c] at e
   refine ih _ (fun d q=>?_) e
   have:(t.advance { p with dummy:=some p.j }).dummy=some p.j:=by
    unfold SetTable.advance
    dsimp only
    split <;> rfl
   rw [this] at q
   cases q
   exact pU (.inr c)
  | live i =>
   rw [c] at e
   dsimp only at e
   split at e
   ·cases e
   ·refine ih _ (fun d q=>?_) e
    have:(t.advance p).dummy=p.dummy:=by
     unfold SetTable.advance
     split <;> rfl
    rw [this] at q
    exact hd d q
theorem w4 (n:Nat):qt (Array.range n):=fun i j ij jn=>by
 rw [Array.size_range] at jn
 have h1:i<n:=by omega
 simp [Array.getD,h1,jn,ij]
structure ig (b:Bool) (t:SetTable):Prop where
 ris:qt t.place
 led:t.led=b
theorem gF {b:Bool} {t:SetTable} (h:ig b t) (n:Nat):ig b (t.standIn n):=⟨w4 n,h.led⟩
theorem qP {b:Bool} {t:SetTable} (h:ig b t) (n:Nat):ig b (t.orStandIn n):=by
 unfold SetTable.orStandIn
 split
 ·exact h
 ·exact gF h n
theorem xn {b:Bool} {t:SetTable} (h:ig b t) (es:Array (Int × Value)) (x:Int) (v:Value):ig b (layNew t es x v).2.1:=by
 unfold layNew
 cases e:t.freeSlot x with
 | none=>exact gF h _
 | some p =>
  obtain ⟨slot,wd⟩:=p
  dsimp only
  refine qP ⟨AO h.ris ?_,h.led⟩ _
  unfold SetTable.freeSlot at e
  cases q:t.probe (fun _=>x+1) x (t.probeStart x) with
  | none=>rw [q] at e;cases e
  | some m =>
   rw [q] at e
   cases m with
   | empty j dm =>
    cases e
    exact uO _ _ (fun d hd=>by cases hd) q
   | candidate _ _ _=>cases e
theorem Ah {mask finger moves:Nat} {led plain:Bool} {hs:Array Int} {t:SetTable} {ord:Array Nat} (h:SetTable.laid mask finger moves led plain hs=some (t,ord)):ig led t:=by
 unfold SetTable.laid at h
 cases q:SetTable.layClean mask hs with
 | none=>rw [q] at h;cases h
 | some owner =>
  rw [q] at h
  have h:some _=some (t,ord):=h
  cases h
  refine ⟨fun i j ij jn=>?_,rfl⟩
  dsimp only at jn ⊢
  have pw:(((List.range (mask+1)).filterMap fun j=>(owner.getD j none).map (j,·)).map (·.1)).Pairwise (·< ·):=by
   rw [List.pairwise_map]
   have:=List.pairwise_lt_range (n:=mask+1)
   refine List.Pairwise.filterMap _ (fun a a' lt b hb b' hb'=>?_) this
   obtain ⟨_,_,rfl⟩:=Option.map_eq_some_iff.mp hb
   obtain ⟨_,_,rfl⟩:=Option.map_eq_some_iff.mp hb'
   exact lt
  rw [List.size_toArray] at jn
  have:=List.pairwise_iff_getElem.mp pw i j (by omega) jn ij
  have il:i<(((List.range (mask+1)).filterMap fun j=>(owner.getD j none).map (j,·)).map (·.1)).length:=by omega
  simp only [Array.getD,List.size_toArray,il,jn,dite_true]
  exact this
theorem tB {b:Bool} {t:SetTable} (h:ig b t) (es:Array (Int × Value)) (n:Nat):ig b (relayAll t es n).2.1:=by
 unfold relayAll
 cases q:t.relaid (es.map (·.1)) n with
 | none=>exact gF h _
 | some p =>
  obtain ⟨t',ord⟩:=p
  dsimp only
  split
  ·have:=Ah q
   rw [←h.led]
   exact this
  ·exact gF h _
noncomputable def toI:Value→Int
 | .int n _=>n
 | _=>0
section
variable {prog:Program} {w:World} {A:Around} {E:Value→Shared→Prop} {s:Shared}
noncomputable def EI (prog:Program) (w:World) (e:Int × Value):Prop:=∃(k:Int) (t:Tok),e=((intKind prog w).hash k,.int k t)
structure SetD (prog:Program) (w:World) (b:Bool) (es:Array (Int × Value)) (t:SetTable) (zs:List Int):Prop where
 el:∀e∈es.toList,EI prog w e
 nd:(es.toList.map fun e=>toI e.2).Nodup
 mem:∀i,i∈(es.toList.map fun e=>toI e.2)↔i∈zs
 ln:es.size≤zs.length
 fit:t.fits es.size=true
 ok:ig b t
noncomputable abbrev cW (es:Array (Int × Value)) (ep:Nat) (t:SetTable):Obj:={ cls:=.type "set",dict:=none,data:=.set es ep t }
noncomputable def SetZ (prog:Program) (w:World) (b:Bool) (h:Heap) (a:Addr) (zs:List Int):Prop:=∃es ep t,h.get? a=some (cW es ep t)∧SetD prog w b es t zs
theorem EI.of {es:List (Int × Value)} (h:∀e∈es,EI prog w e):ElemsOf (intKind prog w) es:=fun e he=>by
 obtain ⟨k,t,rfl⟩:=h e he
 exact ⟨⟨k,intKind_is _ _ _ _,rfl⟩,rfl⟩
theorem SetD.perm {b:Bool} {es es':Array (Int × Value)} {t t':SetTable} {zs:List Int} (h:SetD prog w b es t zs) (p:List.Perm es'.toList es.toList) (f:t'.fits es'.size=true) (ok:ig b t'):SetD prog w b es' t' zs :=
 ⟨fun e he=>h.el e (p.mem_iff.mp he),(p.map _).nodup_iff.mpr h.nd,fun i=>((p.map _).mem_iff).trans (h.mem i),by
  have:=p.length_eq
  rw [Array.length_toList,Array.length_toList] at this
  rw [this]
  exact h.ln,f,ok⟩
theorem SetD.more {b:Bool} {es es':Array (Int × Value)} {t t':SetTable} {zs:List Int} {k:Int} {tk:Tok} (h:SetD prog w b es t zs) (new:k ∉ (es.toList.map fun e=>toI e.2)) (p:List.Perm es'.toList (es.push ((intKind prog w).hash k,.int k tk)).toList) (f:t'.fits es'.size=true) (ok:ig b t'):SetD prog w b es' t' (zs++[k]):=by
 rw [Array.toList_push] at p
 refine ⟨fun e he=>?_,?_,fun i=>?_,?_,f,ok⟩
 ·rcases List.mem_append.mp (p.mem_iff.mp he) with he|he
  ·exact h.el e he
  ·rw [List.mem_singleton] at he;exact ⟨k,tk,he⟩
 ·rw [(p.map _).nodup_iff,List.map_append,List.nodup_append]
  refine ⟨h.nd,by simp,fun x hx y hy=>?_⟩
  have:y=k:=by simpa [toI] using hy
  subst this
  exact fun z=>new (z ▸ hx)
 ·rw [(p.map _).mem_iff,List.map_append,List.mem_append,List.mem_append,h.mem]
  simp [toI]
 ·have:=p.length_eq
  rw [Array.length_toList,List.length_append,Array.length_toList] at this
  have:=h.ln
  simp at *
  omega
theorem ya {a:Addr} {es es':Array (Int × Value)} {ep:Nat} {t t':SetTable} {Q:Unit→Shared→Prop} (ho:s.heap.get? a=some (cW es ep t)) (hz:es'.size<4000)
  (h:∀h',Heap.SameBut a s.heap h'→h'.get? a=some (cW es' (ep+1) t')→Q () { s with heap:=h' }):wpAny (model prog w) A (storeSet a es' t') Q E s:=by
 refine wpAny_storeSet_of ho rfl (h _ (Heap.SameBut.update s.heap a (Obj.putSet es' t')) ?_) (by rw [sizeLine_eq];omega)
 have:=Heap.get?_update_self (Obj.putSet es' t') ho (by rw [putSet_of es' t' (o:=cW es ep t) rfl];rfl)
 rw [putSet_of es' t' (o:=cW es ep t) rfl] at this
 exact this
theorem EG {b:Bool} {a:Addr} {zs:List Int} {k:Int} {tk:Tok} {Q:Bool→Shared→Prop} (hZ:SetZ prog w b s.heap a zs) (room:zs.length<1000)
  (h:∀r h',Heap.SameBut a s.heap h'→SetZ prog w b h' a (zs++[k])→Q r { s with heap:=h' }):wpAny (model prog w) A (setAddHashed a (.int k tk) ((intKind prog w).hash k)) Q E s:=by
 obtain ⟨es,ep,t,ho,D⟩:=hZ
 have hsz:=D.ln
 have hkey:=intKind_is prog w k tk
 have hel:=EI.of D.el
 have hb:es.size<scanBound:=by unfold scanBound;omega
 unfold setAddHashed setAddHashedIn
 refine wpAny_holding (wpAny_bind (wpAny_setState_of ho rfl D.fit ?_))
 dsimp only
 rw [byScan_of (knd:=intKind prog w) (x:=.int k tk) rfl hb hel,if_pos rfl]
 unfold setAddByScan
 refine wpAny_bind (wpAny_bind (wpAny_rule (wpAny_bind (wpAny_setScan_of hkey ho rfl D.fit hel ?_))))
 cases hr:List.findIdx? (fun e=>(intKind prog w).is k e.2) es.toList with
 | some j =>
  obtain ⟨hj,hpj,_⟩:=List.findIdx?_eq_some_iff_getElem.mp hr
  refine wpAny_pure (wpAny_pure ?_)
  have inn:k∈zs:=by
   refine (D.mem k).mp (List.mem_map.mpr ⟨es.toList[j],List.getElem_mem hj,?_⟩)
   obtain ⟨k',t',e⟩:=D.el _ (List.getElem_mem hj)
   rw [e] at hpj ⊢
   have:=(intKind prog w).inj _ k k' hpj (intKind_is _ _ _ _)
   rw [this];rfl
  refine h false s.heap (Heap.SameBut.refl a s.heap) ⟨es,ep,t,ho,D.el,D.nd,fun i=>?_,by simp;omega,D.fit,D.ok⟩
  rw [D.mem,List.mem_append,List.mem_singleton]
  constructor
  ·exact .inl
  ·rintro (z|rfl)
   ·exact z
   ·exact inn
 | none =>
  have new:k ∉ (es.toList.map fun e=>toI e.2):=fun z=>by
   obtain ⟨e,he,ek⟩:=List.mem_map.mp z
   have n:=List.findIdx?_eq_none_iff.mp hr e he
   obtain ⟨k',t',rfl⟩:=D.el e he
   have:k'=k:=ek
   subst this
   rw [intKind_is] at n
   cases n
  have hp:=layNew_perm t es ((intKind prog w).hash k) (.int k tk)
  have hf:=layNew_fits t es ((intKind prog w).hash k) (.int k tk)
  have hk:=xn D.ok es ((intKind prog w).hash k) (.int k tk)
  dsimp only
  generalize layNew t es ((intKind prog w).hash k) (.int k tk)=L at hp hf hk ⊢
  obtain ⟨es1,t1,wd,gave⟩:=L
  dsimp only at hp hf hk ⊢
  have D1:SetD prog w b es1 t1 (zs++[k]):=D.more new hp hf hk
  have l1:=D1.ln
  rw [List.length_append,List.length_singleton] at l1
  refine wpAny_bind ?_
  cases gave <;> (first|refine wpAny_pure ?_|refine wpAny_rule ?_)
  all_goals
   split
  all_goals
   first|(refine wpAny_bind ?_;rw [hashByValue_scannable 8 (x:=.int k tk) rfl];refine wpAny_pure ?_)|refine wpAny_bind (wpAny_pure ?_)
  all_goals
   rw [if_pos (by rfl)]
   refine wpAny_bind (ya ho (by omega) fun h1 sb1 g1=>?_)
   split
  all_goals
   first
    | exact wpAny_pure (wpAny_pure (h true h1 sb1 ⟨es1,ep+1,t1,g1,D1⟩))
    | (have hp2:=relayAll_perm t1 es1 (SetTable.grown es1.size)
       have hf2:=relayAll_fits t1 es1 (SetTable.grown es1.size)
       have hk2:=tB D1.ok es1 (SetTable.grown es1.size)
       generalize relayAll t1 es1 (SetTable.grown es1.size)=L2 at hp2 hf2 hk2 ⊢
       obtain ⟨es2,t2,gave2⟩:=L2
       dsimp only at hp2 hf2 hk2 ⊢
       have l2:=(D1.perm hp2 hf2 hk2).ln
       rw [List.length_append,List.length_singleton] at l2
       refine wpAny_bind ?_
       cases gave2 <;> (first|refine wpAny_pure ?_|refine wpAny_rule ?_)
       all_goals
         exact wpAny_bind (ya g1 (by omega) fun h2 sb2 g2=>wpAny_pure (wpAny_pure (h true h2 (sb1.trans sb2) ⟨es2,ep+1+1,t2,g2,D1.perm hp2 hf2 hk2⟩))))
end
end FW
set_option Elab.async false
set_option linter.all false
set_option maxRecDepth 100000
namespace FW
open PySem PySem.Spec PyProof.Rows
theorem slot_si_next:Slot "set_iterator" "__next__" "set_iterator.__next__" :=
 .of (owner:="set_iterator") (n:="__next__") (by rw [typeLookup_type,builtinLookup_eq_fast];kernel_rfl) (by decide +kernel) (by decide +kernel) (by decide +kernel)
  (by first|exact .inl (by decide +kernel)|exact .inr (by decide +kernel)) (by rw [isSubtype_type];kernel_rfl)
theorem dX:Slot "set_iterator" "__iter__" "set_iterator.__iter__" :=
 .of (owner:="set_iterator") (n:="__iter__") (by rw [typeLookup_type,builtinLookup_eq_fast];kernel_rfl) (by decide +kernel) (by decide +kernel) (by decide +kernel)
  (by first|exact .inl (by decide +kernel)|exact .inr (by decide +kernel)) (by rw [isSubtype_type];kernel_rfl)
theorem dw:entryFor table "set_iterator.__next__"=some Builtin.«set_iterator.__next__»:=entryFor_of_tree (by kernel_rfl)
theorem jg:entryFor table "set_iterator.__iter__"=some Builtin.«dict_keyiterator.__iter__» :=
 entryFor_alias (id':="dict_keyiterator.__iter__") (by kernel_rfl) rfl (by decide +kernel) (by kernel_rfl)
theorem oa:entryFor table "set.__iter__"=some Builtin.«frozenset.__iter__» :=
 entryFor_alias (id':="frozenset.__iter__") (by kernel_rfl) rfl (by decide +kernel) (by kernel_rfl)
theorem tL:Manifest.owners.lookup (String.ofList ['r','o','t','a','r','e','t','i','_','t','e','s'].reverse)=some Manifest.sig_set_iterator:=by kernel_rfl
theorem d_ (a:Value):argsOk "set_iterator.__next__" ⟨[a],[]⟩:=by
 unfold argsOk;rw [signature?_of (id:="set_iterator.__next__") (n:=['_','_','t','x','e','n','_','_']) (o:=['r','o','t','a','r','e','t','i','_','t','e','s']) (by kernel_rfl) tL];kernel_rfl
theorem jG (a:Value):argsOk "set_iterator.__iter__" ⟨[a],[]⟩:=by
 unfold argsOk;rw [signature?_of (id:="set_iterator.__iter__") (n:=['_','_','r','e','t','i','_','_']) (o:=['r','o','t','a','r','e','t','i','_','t','e','s']) (by kernel_rfl) tL];kernel_rfl
theorem jo {α:Type}:∀ {l:List α} {i:Nat} (h:i<l.length),(l[i]::l.eraseIdx i).Perm l
 | [],i,h=>absurd h (Nat.not_lt_zero _)
 | x::l,0,h=>List.Perm.refl _
 | x::l,i+1,h=>by
  have lt:i<l.length:=by simpa using h
  show (l[i]::x::l.eraseIdx i).Perm (x::l)
  exact (List.Perm.swap _ _ _).trans (List.Perm.cons _ (jo lt))
theorem vU {α:Type} (next:Nat→Nat):∀(n k:Nat) (l:List α) (out:Array α),l.length=n→(pickOrder.go next n k l out).toList.Perm (out.toList++l)
 | 0,k,l,out,e=>by
  have:l=[]:=List.eq_nil_of_length_eq_zero e
  subst this
  rw [List.append_nil]
  exact List.Perm.refl _
 | n+1,k,l,out,e=>by
  have lt:next k % l.length<l.length:=Nat.mod_lt _ (by omega)
  unfold pickOrder.go
  rw [List.getElem?_eq_getElem lt]
  refine (vU next n (k+1) _ _ (by rw [List.length_eraseIdx,if_pos lt];omega)).trans ?_
  rw [Array.toList_push,List.append_assoc]
  exact List.Perm.append_left _ (jo lt)
theorem wY {α:Type} (next:Nat→Nat) (xs:Array α):(pickOrder next xs).toList.Perm xs.toList:=by
 have:=vU next xs.size 0 xs.toList #[] Array.length_toList
 rw [show (#[]:Array α).toList++xs.toList=xs.toList from rfl] at this
 exact this
noncomputable abbrev byT (w:World):Bool:=w.params.followText "set-order"
noncomputable def jq (w:World) (a:Addr) (ep:Nat) (es:Array (Int × Value)):Array (Int × Value):=if byT w then pickOrder (w.params.setOrder a ep) es else es
theorem pK (w:World) (a:Addr) (ep:Nat) (es:Array (Int × Value)):(jq w a ep es).toList.Perm es.toList:=by
 unfold jq
 split
 ·exact wY _ _
 ·exact List.Perm.refl _
theorem iV (w:World) (a:Addr) (ep:Nat) (es:Array (Int × Value)):(jq w a ep es).size=es.size:=by
 have:=(pK w a ep es).length_eq
 simpa using this
noncomputable def vy (w:World) (t:SetTable) (slot i:Nat):Prop:=byT w=true∨SetTable.below t.place slot=i
noncomputable def qp (w:World) (es:Array (Int × Value)) (t:SetTable):Prop:=byT w=true∨(!t.plain && decide (es.size > 1))=false
theorem vF {xs:Array Nat} (h:qt xs):SetTable.below xs 0=0:=by
 obtain ⟨a1,a2,a3⟩:=gb (j:=0) h
 refine Nat.eq_zero_of_not_pos fun z=>?_
 exact absurd (a2 0 z) (Nat.not_lt_zero _)
section
variable {prog:Program} {w:World} {A:Around} {E:Value→Shared→Prop} {s:Shared}
theorem fj {Q:Bool→Shared→Prop} (h:Q (byT w) s):wpAny (model prog w) A setsByText Q E s:=by
 unfold setsByText
 exact wpAny_bind (wpAny_askSetting (wpAny_pure h))
theorem nX {a:Addr} {es:Array (Int × Value)} {ep:Nat} {t:SetTable} {zs:List Int} {i slot:Nat} {Q:Option (Value × Nat)→Shared→Prop} (ho:s.heap.get? a=some (cW es ep t))
  (D:SetD prog w (!(byT w)) es t zs) (hs:vy w t slot i) (hd:qp w es t)
  (h1:∀e slot',(jq w a ep es)[i]?=some e→vy w t slot' (i+1)→Q (some (e.2,slot')) s) (h2:(jq w a ep es)[i]?=none→Q none s):wpAny (model prog w) A (setNext a slot i ep) Q E s:=by
 unfold setNext
 refine wpAny_bind (wpAny_setState_of ho rfl D.fit ?_)
 dsimp only
 refine wpAny_bind (fj ?_)
 cases hb:byT w with
 | true =>
  rw [if_pos rfl,if_neg (by simp)]
  refine wpAny_bind ?_
  unfold setWalk
  refine wpAny_bind (wpAny_setState_of ho rfl D.fit ?_)
  dsimp only
  refine wpAny_bind (fj ?_)
  rw [hb,if_pos rfl]
  refine wpAny_bind (wpAny_askSetting (wpAny_pure (wpAny_pure ?_)))
  have eo:jq w a ep es=pickOrder (w.params.setOrder a ep) es:=by unfold jq;rw [hb,if_pos rfl]
  rw [eo] at h1 h2
  show Q (((pickOrder (w.params.setOrder a ep) es)[i]?).map fun e=>(e.2,slot)) s
  cases q:(pickOrder (w.params.setOrder a ep) es)[i]? with
  | some e=>exact h1 e slot q (.inl hb)
  | none=>exact h2 q
 | false =>
  have eo:jq w a ep es=es:=by unfold jq;rw [hb];exact if_neg Bool.false_ne_true
  rw [eo] at h1 h2
  have hbl:SetTable.below t.place slot=i:=by
   rcases hs with z|z
   ·rw [hb] at z;cases z
   ·exact z
  rw [if_neg Bool.false_ne_true]
  split
  ·rename_i z
   have z:(!t.plain && decide (es.size > 1))=true:=z
   rcases hd with q|q
   ·rw [hb] at q;cases q
   ·rw [q] at z;cases z
  ·refine wpAny_bind ?_
   show wpAny _ _ (if (!t.led && !es.isEmpty)=true then _ else _) _ _ _
   rw [D.ok.led,hb,if_neg (by simp)]
   refine wpAny_pure (wpAny_pure ?_)
   rw [hbl]
   have hf:=D.fit
   simp only [SetTable.fits,Bool.and_eq_true,beq_iff_eq,decide_eq_true_eq] at hf
   by_cases lt:i<es.size
   ·have lp:i<t.place.size:=by omega
    rw [Array.getElem?_eq_getElem lt,Array.getElem?_eq_getElem lp]
    refine h1 es[i] _ (Array.getElem?_eq_getElem lt) (.inr ?_)
    have:=(yS D.ok.ris lp).2
    rw [show t.place.getD i 0=t.place[i] from by simp [Array.getD,lp]] at this
    exact this
   ·rw [Array.getElem?_eq_none (by omega:es.size≤i)]
    exact h2 (Array.getElem?_eq_none (by omega))
theorem wx {src:Source} {n:Nat} {Q:Nat→Shared→Prop} (hn:n≠0) (h:∀i d,i<n→Q i { s with drawn:=d }):wpAny (model prog w) A (choose src n) Q E s :=
 fun Γ p hΓ=>⟨hn,h _ _ (Nat.mod_lt _ (Nat.pos_of_ne_zero hn))⟩
theorem lG {α:Type}:∀(n:Nat) (xs:List α) (s:Shared) {Q:List α→Shared→Prop},xs.length=n→(∀ys d,ys.Perm xs→Q ys { s with drawn:=d })→wpAny (model prog w) A (drawOrder n xs) Q E s
 | 0,xs,s,Q,e,h=>by
  have:xs=[]:=List.eq_nil_of_length_eq_zero e
  subst this
  exact wpAny_pure (h [] s.drawn (List.Perm.refl _))
 | n+1,[],s,Q,e,h=>by cases e
 | n+1,x::xs,s,Q,e,h=>by
  unfold drawOrder
  refine wpAny_bind (wx (Nat.succ_ne_zero _) fun i d lt=>?_)
  rw [List.getElem?_eq_getElem lt]
  refine wpAny_bind (lG n _ _ (by rw [List.length_eraseIdx,if_pos lt];omega) fun ys d' p=>wpAny_pure ?_)
  exact h _ d' ((List.Perm.cons _ p).trans (jo lt))
noncomputable def IsSI (h:Heap) (it:Addr) (first:Value) (i:Nat) (a:Addr) (n ep:Nat):Prop :=
 ∃o,h.get? it=some o∧o.cls=.type "set_iterator"∧o.data=.fields #[first,.int i 0,.ref a,.int n 0,.int ep 0]
theorem IsSI.typeIs {it:Addr} {first:Value} {i n ep:Nat} {a:Addr} (x:IsSI s.heap it first i a n ep):s.TypeIs (.ref it) "set_iterator":=let ⟨o,ho,hc,_⟩:=x;⟨o,ho,hc⟩
theorem xo {it a:Addr} {i slot:Nat} {es:Array (Int × Value)} {ep:Nat} {t:SetTable} {zs:List Int} {e:Int × Value} {Q:Option Value→Shared→Prop}
  (hit:IsSI s.heap it (.int slot 0) i a es.size ep) (ho:s.heap.get? a=some (cW es ep t)) (D:SetD prog w (!(byT w)) es t zs) (hs:vy w t slot i) (hd:qp w es t) (he:(jq w a ep es)[i]?=some e)
  (hQ:∀slot' h',vy w t slot' (i+1)→IsSI h' it (.int slot' 0) (i+1) a es.size ep→Heap.SameBut it s.heap h'→Q (some e.2) { s with heap:=h' }):wpAny (model prog w) A (pyNext (.ref it)) Q E s:=by
 obtain ⟨o,hoi,hc,hdt⟩:=id hit
 unfold pyNext
 refine wpAny_bind (wpAny_attempt (wpAny_callSpecial?_slot (name:=Str.ofString "__next__") hit.typeIs slot_si_next
  (wpAny_call_entry slot_si_next hit.typeIs dw ?_ (d_ _))))
 unfold Builtin.«set_iterator.__next__»
 refine wpAny_bind (wpAny_pure ?_)
 refine wpAny_bind (wpAny_fieldsOf hoi hdt ?_)
 dsimp only
 refine wpAny_bind (wpAny_setEntries_of ho rfl D.fit ?_)
 rw [if_neg (by simp)]
 rw [Int.toNat_natCast,Int.toNat_natCast,Int.toNat_natCast]
 refine wpAny_bind (nX ho D hs hd (fun e' slot' g1 g2=>?_) fun z=>by rw [he] at z;cases z)
 rw [he] at g1
 cases g1
 dsimp only
 have hd1:=Obj.data_mapFields hdt (·.setIfInBounds 0 (rawInt (slot':Int)))
 have ho1:=Heap.get?_update_self (Obj.mapFields (·.setIfInBounds 0 (rawInt (slot':Int)))) hoi (Obj.isFreed_of_fields hd1)
 refine wpAny_bind (wpAny_setField hoi hdt (by simp) ?_)
 refine wpAny_bind (wpAny_setField ho1 hd1 (by simp) ?_)
 have hd2:=Obj.data_mapFields hd1 (·.setIfInBounds 1 (rawInt ((i:Int)+1)))
 have ho2:=Heap.get?_update_self (Obj.mapFields (·.setIfInBounds 1 (rawInt ((i:Int)+1)))) ho1 (Obj.isFreed_of_fields hd2)
 refine wpAny_pure ⟨_,rfl,wpAny_pure (hQ slot' _ g2 ⟨_,ho2,?_,?_⟩ ((Heap.SameBut.update ..).trans (Heap.SameBut.update ..)))⟩
 ·rw [Obj.cls_mapFields,Obj.cls_mapFields];exact hc
 ·rw [hd2];simp [rawInt]
theorem v8 {it:Addr} {R:Fin→Shared→Prop} {Q:Option Value→Shared→Prop} (hh:A.handled=none) (hQ:∀h',Heap.ExtBut it s.heap h'→Q none { s with heap:=h' }) :
  wpAny (model prog w) A.in1 (do let e ←newExc (.type "StopIteration") [];raiseNew (α:=Fin) e) R (fun e s'=>wpAny (model prog w) A (do
   let b ←isInstance e (Value.type "StopIteration")
   if b=true then pure none else throw e) Q E s') s:=by
 refine wpAny_bind ?_
 simp only [newExc,newTuple]
 refine wpAny_bind (wpAny_newObj_type ?_ (by size_fits))
 refine wpAny_bind (m:=firstArgMember _ _) (wpAny_of_eq (a:=Value.none) (by first|rfl|(simp only [firstArgMember];rfl)) ?_)
 refine wpAny_newObj_type ?_ (by size_fits)
 simp only [raiseNew]
 refine wpAny_bind (wpAny_handled ?_)
 rw [show A.in1.handled=none from hh]
 refine wpAny_bind (wpAny_pure (wpAny_throw ?_))
 refine wpAny_bind (wpAny_isInstance (T:="StopIteration") (b:=true) ⟨_,Heap.get?_push_size _ rfl,rfl⟩ isSubtype_stop ?_)
 exact wpAny_pure (hQ _ ((Heap.SameBut.refl it s.heap).extBut.push _ |>.push _))
theorem oT {it a:Addr} {i slot:Nat} {es:Array (Int × Value)} {ep:Nat} {t:SetTable} {zs:List Int} {Q:Option Value→Shared→Prop} (hh:A.handled=none)
  (hit:IsSI s.heap it (.int slot 0) i a es.size ep) (ho:s.heap.get? a=some (cW es ep t)) (D:SetD prog w (!(byT w)) es t zs) (hs:vy w t slot i) (hd:qp w es t) (he:es.size≤i)
  (hQ:∀h',Heap.ExtBut it s.heap h'→Q none { s with heap:=h' }):wpAny (model prog w) A (pyNext (.ref it)) Q E s:=by
 obtain ⟨o,hoi,hc,hdt⟩:=id hit
 unfold pyNext
 refine wpAny_bind (wpAny_attempt (wpAny_callSpecial?_slot (name:=Str.ofString "__next__") hit.typeIs slot_si_next
  (wpAny_call_entry slot_si_next hit.typeIs dw ?_ (d_ _))))
 unfold Builtin.«set_iterator.__next__»
 refine wpAny_bind (wpAny_pure ?_)
 refine wpAny_bind (wpAny_fieldsOf hoi hdt ?_)
 dsimp only
 refine wpAny_bind (wpAny_setEntries_of ho rfl D.fit ?_)
 rw [if_neg (by simp)]
 rw [Int.toNat_natCast,Int.toNat_natCast,Int.toNat_natCast]
 refine wpAny_bind (nX ho D hs hd (fun e' slot' g1 g2=>?_) fun z=>?_)
 ·rw [Array.getElem?_eq_none (by rw [iV];exact he)] at g1;cases g1
 dsimp only
 refine wpAny_bind (wpAny_setField hoi hdt (by simp) ?_)
 exact v8 (it:=it) hh fun h' x=>hQ h' ((Heap.SameBut.update s.heap it _).extBut.trans x)
theorem wf (hh:A.handled=none) (I a:Addr) (hne:a≠I) {es:Array (Int × Value)} {ep:Nat} {t:SetTable} {zs:List Int} (D:SetD prog w (!(byT w)) es t zs) (hd:qp w es t) :
  Walks prog w A I [I,a] [I] es.size (fun i v=>∃e,(jq w a ep es)[i]?=some e∧e.2=v) (fun i h=>∃slot,IsSI h I (.int (slot:Nat) 0) i a es.size ep∧vy w t slot i∧h.get? a=some (cW es ep t)) where
 sub:=fun b hb=>by simp at hb;simp [hb]
 frame:=fun _ _ _ st hk=>by
  obtain ⟨slot,⟨o,ho,r⟩,p,g⟩:=st
  exact ⟨slot,⟨o,hk I (by simp) o ho,r⟩,p,hk a (by simp) _ g⟩
 item:=fun i s Q E hi st hQ=>by
  obtain ⟨slot,hit,p,g⟩:=st
  have lt:i<(jq w a ep es).size:=by rw [iV];exact hi
  refine xo hit g D p hd (Array.getElem?_eq_getElem lt) fun slot' h' p' hit' sb=>?_
  exact hQ _ h' s.toks ⟨_,Array.getElem?_eq_getElem lt,rfl⟩ ⟨slot',hit',p',sb.extBut a _ hne g⟩ fun b o hb e=>sb.extBut b o (fun h=>hb (by simp [h])) e
 done:=fun s Q E st hQ=>by
  obtain ⟨slot,hit,p,g⟩:=st
  exact oT hh hit g D p hd (Nat.le_refl _) fun h' he'=>hQ h' s.toks fun b o hb e=>he' b o (fun h=>hb (by simp [h])) e
 self:=fun i s Q E st hQ=>by
  obtain ⟨slot,hit,p,g⟩:=st
  refine wpAny_pyIter_slot hit.typeIs dX (wpAny_call_entry dX hit.typeIs jg ?_ (jG _))
  show wpAny _ _ (ret (.ref I)) _ _ s
  exact wpAny_pure ⟨_,rfl,"set_iterator",_,hit.typeIs,slot_si_next.lookup,hQ⟩
noncomputable abbrev plT (ps:List Nat):Obj:={ cls:=.type "tuple",data:=.seq (ps.map fun i:Nat=>rawInt (i:Int)).toArray }
theorem A1 {it a tp:Addr} {i p:Nat} {ps:List Nat} {es:Array (Int × Value)} {ep:Nat} {t:SetTable} {e:Int × Value} {Q:Option Value→Shared→Prop}
  (hit:IsSI s.heap it (.ref tp) i a es.size ep) (ht:s.heap.get? tp=some (plT ps)) (ho:s.heap.get? a=some (cW es ep t)) (fit:t.fits es.size=true) (hp:ps[i]?=some p) (he:es[p]?=some e)
  (hQ:∀h',IsSI h' it (.ref tp) (i+1) a es.size ep→Heap.SameBut it s.heap h'→Q (some e.2) { s with heap:=h' }):wpAny (model prog w) A (pyNext (.ref it)) Q E s:=by
 obtain ⟨o,hoi,hc,hdt⟩:=id hit
 unfold pyNext
 refine wpAny_bind (wpAny_attempt (wpAny_callSpecial?_slot (name:=Str.ofString "__next__") hit.typeIs slot_si_next
  (wpAny_call_entry slot_si_next hit.typeIs dw ?_ (d_ _))))
 unfold Builtin.«set_iterator.__next__»
 refine wpAny_bind (wpAny_pure ?_)
 refine wpAny_bind (wpAny_fieldsOf hoi hdt ?_)
 dsimp only
 refine wpAny_bind (wpAny_setEntries_of ho rfl fit ?_)
 rw [if_neg (by simp)]
 refine wpAny_bind (wpAny_seqItems ht rfl ?_)
 dsimp only
 rw [Int.toNat_natCast,List.getElem?_toArray,List.getElem?_map,hp]
 dsimp only [Option.map_some,rawInt]
 rw [Int.toNat_natCast,Int.toNat_natCast]
 unfold setNextDrawn
 refine wpAny_bind (wpAny_bind (wpAny_setState_of ho rfl fit ?_))
 dsimp only
 rw [if_neg (by simp),he]
 refine wpAny_pure ?_
 have hd2:=Obj.data_mapFields hdt (·.setIfInBounds 1 (.int ((i:Int)+1) 0))
 have ho2:=Heap.get?_update_self (Obj.mapFields (·.setIfInBounds 1 (.int ((i:Int)+1) 0))) hoi (Obj.isFreed_of_fields hd2)
 refine wpAny_bind (wpAny_setField hoi hdt (by simp) ?_)
 refine wpAny_pure ⟨_,rfl,wpAny_pure (hQ _ ⟨_,ho2,?_,?_⟩ (Heap.SameBut.update ..))⟩
 ·rw [Obj.cls_mapFields];exact hc
 ·rw [hd2];simp
theorem sT {it a tp:Addr} {i:Nat} {ps:List Nat} {es:Array (Int × Value)} {ep:Nat} {t:SetTable} {Q:Option Value→Shared→Prop} (hh:A.handled=none)
  (hit:IsSI s.heap it (.ref tp) i a es.size ep) (ht:s.heap.get? tp=some (plT ps)) (ho:s.heap.get? a=some (cW es ep t)) (fit:t.fits es.size=true) (hp:ps.length≤i)
  (hQ:∀h',Heap.ExtBut it s.heap h'→Q none { s with heap:=h' }):wpAny (model prog w) A (pyNext (.ref it)) Q E s:=by
 obtain ⟨o,hoi,hc,hdt⟩:=id hit
 unfold pyNext
 refine wpAny_bind (wpAny_attempt (wpAny_callSpecial?_slot (name:=Str.ofString "__next__") hit.typeIs slot_si_next
  (wpAny_call_entry slot_si_next hit.typeIs dw ?_ (d_ _))))
 unfold Builtin.«set_iterator.__next__»
 refine wpAny_bind (wpAny_pure ?_)
 refine wpAny_bind (wpAny_fieldsOf hoi hdt ?_)
 dsimp only
 refine wpAny_bind (wpAny_setEntries_of ho rfl fit ?_)
 rw [if_neg (by simp)]
 refine wpAny_bind (wpAny_seqItems ht rfl ?_)
 dsimp only
 rw [Int.toNat_natCast,List.getElem?_toArray,List.getElem?_map,List.getElem?_eq_none hp]
 dsimp only [Option.map_none]
 have hd1:=Obj.data_mapFields hdt (·.setIfInBounds 0 (rawInt 0))
 have ho1:=Heap.get?_update_self (Obj.mapFields (·.setIfInBounds 0 (rawInt 0))) hoi (Obj.isFreed_of_fields hd1)
 refine wpAny_bind (wpAny_setField hoi hdt (by simp) ?_)
 refine wpAny_bind (wpAny_setField ho1 hd1 (by simp) ?_)
 exact v8 (it:=it) hh fun h' x=>hQ h' (((Heap.SameBut.update s.heap it _).extBut.trans (Heap.SameBut.update _ it _).extBut).trans x)
theorem Au (hh:A.handled=none) (I a tp:Addr) (hne:a≠I) (hnt:tp≠I) {ps:List Nat} {es:Array (Int × Value)} {ep:Nat} {t:SetTable} (fit:t.fits es.size=true) (hps:ps.Perm (List.range es.size)) :
  Walks prog w A I [I,a,tp] [I] es.size (fun i v=>∃p e,ps[i]?=some p∧es[p]?=some e∧e.2=v) (fun i h=>IsSI h I (.ref tp) i a es.size ep∧h.get? tp=some (plT ps)∧h.get? a=some (cW es ep t)) where
 sub:=fun b hb=>by simp at hb;simp [hb]
 frame:=fun _ _ _ st hk=>by
  obtain ⟨⟨o,ho,r⟩,p,g⟩:=st
  exact ⟨⟨o,hk I (by simp) o ho,r⟩,hk tp (by simp) _ p,hk a (by simp) _ g⟩
 item:=fun i s Q E hi st hQ=>by
  obtain ⟨hit,p,g⟩:=st
  have ln:ps.length=es.size:=by rw [hps.length_eq,List.length_range]
  have lt:i<ps.length:=by omega
  have lp:ps[i]<es.size:=List.mem_range.mp (hps.mem_iff.mp (List.getElem_mem lt))
  refine A1 hit p g fit (List.getElem?_eq_getElem lt) (Array.getElem?_eq_getElem lp) fun h' hit' sb=>?_
  exact hQ _ h' s.toks ⟨_,_,List.getElem?_eq_getElem lt,Array.getElem?_eq_getElem lp,rfl⟩ ⟨hit',sb.extBut tp _ hnt p,sb.extBut a _ hne g⟩ fun b o hb e=>sb.extBut b o (fun h=>hb (by simp [h])) e
 done:=fun s Q E st hQ=>by
  obtain ⟨hit,p,g⟩:=st
  have ln:ps.length=es.size:=by rw [hps.length_eq,List.length_range]
  exact sT hh hit p g fit (by omega) fun h' he'=>hQ h' s.toks fun b o hb e=>he' b o (fun h=>hb (by simp [h])) e
 self:=fun i s Q E st hQ=>by
  obtain ⟨hit,p,g⟩:=st
  refine wpAny_pyIter_slot hit.typeIs dX (wpAny_call_entry dX hit.typeIs jg ?_ (jG _))
  show wpAny _ _ (ret (.ref I)) _ _ s
  exact wpAny_pure ⟨_,rfl,"set_iterator",_,hit.typeIs,slot_si_next.lookup,hQ⟩
theorem wm {w:World} {a:Addr} {ep:Nat} {es:Array (Int × Value)} {acc:Array Value} (h:ItemsOf (fun i v=>∃e,(jq w a ep es)[i]?=some e∧e.2=v) acc es.size):acc.toList.Perm (es.toList.map (·.2)):=by
 have:acc.toList=(jq w a ep es).toList.map (·.2):=by
  refine List.ext_getElem (by rw [Array.length_toList,List.length_map,Array.length_toList,iV];exact h.1) fun i h1 h2=>?_
  rw [Array.length_toList] at h1
  obtain ⟨e,g1,g2⟩:=h.2 i acc[i] (Array.getElem?_eq_getElem h1)
  have lt:i<(jq w a ep es).size:=by rw [iV,←h.1];exact h1
  rw [Array.getElem?_eq_getElem lt] at g1
  cases g1
  simpa using g2.symm
 rw [this]
 exact (pK w a ep es).map _
theorem Ac {ps:List Nat} {es:Array (Int × Value)} {acc:Array Value} (hps:ps.Perm (List.range es.size)) (h:ItemsOf (fun i v=>∃p e,ps[i]?=some p∧es[p]?=some e∧e.2=v) acc es.size):acc.toList.Perm (es.toList.map (·.2)):=by
 have ln:ps.length=es.size:=by rw [hps.length_eq,List.length_range]
 have:acc.toList=ps.map fun p=>(es.getD p (0,.none)).2:=by
  refine List.ext_getElem (by rw [Array.length_toList,List.length_map,ln];exact h.1) fun i h1 h2=>?_
  rw [Array.length_toList] at h1
  obtain ⟨p,e,g0,g1,g2⟩:=h.2 i acc[i] (Array.getElem?_eq_getElem h1)
  have lt:i<ps.length:=by rw [ln,←h.1];exact h1
  rw [List.getElem?_eq_getElem lt] at g0
  cases g0
  rw [List.getElem_map,Array.getElem_toList,←g2]
  simp [Array.getD_eq_getD_getElem?,g1]
 rw [this]
 refine (hps.map _).trans ?_
 have:(List.range es.size).map (fun p=>(es.getD p (0,.none)).2)=es.toList.map (·.2):=by
  refine List.ext_getElem (by simp) fun i h1 h2=>?_
  have lt:i<es.size:=by simpa using h2
  simp [Array.getD,lt]
 rw [this]
noncomputable abbrev siO (first:Value) (a:Addr) (n ep:Nat):Obj:={ cls:=.type "set_iterator",data:=.fields #[first,rawInt 0,.ref a,rawInt n,rawInt ep] }
theorem zq {a:Addr} {es:Array (Int × Value)} {ep:Nat} {t:SetTable} {Q:Value→Shared→Prop} (ho:s.heap.get? a=some (cW es ep t)) (fit:t.fits es.size=true) (hz:es.size<4000)
  (h1:qp w es t→Q (.ref s.heap.objs.size) { s with heap:=s.heap.push (siO (rawInt 0) a es.size ep) })
  (h2:∀ps d,ps.Perm (List.range es.size)→Q (.ref (s.heap.objs.size+1)) { s with heap:=(s.heap.push (plT ps)).push (siO (.ref s.heap.objs.size) a es.size ep),drawn:=d }) :
  wpAny (model prog w) A (pyIter (.ref a)) Q E s:=by
 have hT:s.TypeIs (.ref a) "set":=⟨_,ho,rfl⟩
 refine wpAny_pyIter_slot hT F.slot_set_iter (wpAny_call_entry F.slot_set_iter hT oa ?_ (F.args_set_iter_1 _))
 unfold Builtin.«frozenset.__iter__» Builtin.Frozenset.slot0 slotArgs
 simp only [List.isEmpty_nil,Bool.not_true,Bool.false_eq_true,↓reduceIte,bind_assoc,List.length_nil,bne_self_eq_false]
 unfold Builtin.Frozenset.addrOf Builtin.Frozenset.sizeOf
 refine wpAny_bind (wpAny_pure ?_)
 refine wpAny_bind (wpAny_pure ?_)
 refine wpAny_bind (wpAny_bind (wpAny_setEntries_of ho rfl fit (wpAny_pure ?_)))
 unfold setDrawn
 refine wpAny_bind (wpAny_bind (wpAny_setState_of ho rfl fit ?_))
 dsimp only
 refine wpAny_bind (fj (wpAny_pure ?_))
 have ln:(List.range es.size).length=es.size:=List.length_range
 split
 ·refine wpAny_bind (lG es.size _ _ ln fun ps d pp=>?_)
  have lp:ps.length=es.size:=by rw [pp.length_eq,ln]
  refine wpAny_bind (wpAny_newTuple ?_ (by rw [List.length_map,lp,sizeLine_eq];omega))
  refine wpAny_bind ?_
  unfold setEpoch
  refine wpAny_bind (wpAny_setState_of (s:={ s with heap:=s.heap.push (plT ps),drawn:=d }) (Heap.get?_push_of_some _ ho) rfl fit (wpAny_pure ?_))
  refine wpAny_bind (wpAny_newObj_type (wpAny_pure ?_))
  refine ⟨_,rfl,"set_iterator",_,⟨_,Heap.get?_push_size _ rfl,rfl⟩,slot_si_next.lookup,?_⟩
  have:=h2 ps d pp
  rw [←Heap.size_push s.heap (plT ps)] at this
  exact this
 ·rename_i z
  refine wpAny_bind (wpAny_pure ?_)
  refine wpAny_bind ?_
  unfold setEpoch
  refine wpAny_bind (wpAny_setState_of ho rfl fit (wpAny_pure ?_))
  refine wpAny_bind (wpAny_newObj_type (wpAny_pure ?_))
  refine ⟨_,rfl,"set_iterator",_,⟨_,Heap.get?_push_size _ rfl,rfl⟩,slot_si_next.lookup,h1 ?_⟩
  have z:¬(!byT w && (!t.plain && decide (es.size > 1)))=true:=z
  unfold qp
  cases hb:byT w with
  | true=>exact .inl rfl
  | false =>
   rw [hb] at z
   exact .inr (by cases q:(!t.plain && decide (es.size > 1)) with|false=>rfl|true=>rw [q] at z;exact absurd rfl z)
theorem oQ:isSubtype (.type "set") (.type "set")=pure true:=by rw [isSubtype_type];kernel_rfl
theorem pZ {I:Addr} {fp wr:List Addr} {n:Nat} {P:Nat→Value→Prop} {St:Nat→Heap→Prop} {S:Addr} {R:Result→Shared→Prop} {c:Nat} (W:Walks prog w A.in1 I fp wr n P St) (hn:n≤sizeLine) (hSf:S ∉ fp)
  (hst:St 0 s.heap) (hS:s.heap.get? S=some { cls:=.type "list",dict:=none,data:=.seq #[] c,slots:=#[] })
  (hR:∀h' tk acc c',(∀b o,b ∉ S::wr→s.heap.get? b=some o→h'.get? b=some o)→h'.get? S=some { cls:=.type "list",dict:=none,data:=.seq acc c',slots:=#[] }→ItemsOf P acc n→R (.ok (.ret (.ref S))) { s with heap:=h',toks:=tk }) :
  codeAny (model prog w) A (.builtin "list.extend.loop" ⟨[.ref S,.ref I,.ref S],[]⟩) R s:=by
 refine codeAny_extend_loopS W.toS hn S hSf (.ref S) n 0 s #[] c rfl (Nat.zero_le _) hst hS (ItemsOf.nil P) fun s' acc c' hm hS' hacc=>?_
 obtain ⟨h',g',d',tk',os'⟩:=s'
 have eg:g'=s.gens:=hm.gens
 have ed:d'=s.drawn:=hm.drawn
 have eo:os'=s.os:=hm.os
 subst eg;subst ed;subst eo
 exact hR h' tk' acc c' (fun b o hb e=>hm.heap b o hb e) hS' hacc
theorem tX {a:Addr} {Q:Bool→Shared→Prop} (hT:s.TypeIs (.ref a) "set") (h:Q false s):wpAny (model prog w) A (Builtin.List.listLengthHint (.ref a)) Q E s:=by
 have hsp:splitId "set.__len__"=some ("set","__len__"):=by kernel_rfl
 unfold Builtin.List.listLengthHint
 refine wpAny_bind (wpAny_specialOf hT F.slot_set_len.lookup ?_)
 dsimp (config:={ zeta:=false,zetaHave:=false }) only
 rw [hsp]
 dsimp (config:={ zeta:=false,zetaHave:=false }) only
 refine wpAny_bind (wpAny_isInstance hT oQ ?_)
 rw [if_neg (by simp)]
 split
 ·refine wpAny_bind (wpAny_typeOf hT ?_)
  exact wpAny_pure h
 ·rename_i z
  exact (z (by decide +kernel)).elim
theorem tP {a:Addr} {es:Array (Int × Value)} {ep:Nat} {t:SetTable} {zs:List Int} {Q:List Value→Shared→Prop} (hh:A.handled=none) (ho:s.heap.get? a=some (cW es ep t)) (D:SetD prog w (!(byT w)) es t zs) (hz:es.size<4000)
  (hQ:∀h' tk d acc,(∀b o,b<s.heap.objs.size→s.heap.get? b=some o→h'.get? b=some o)→s.heap.objs.size≤h'.objs.size→acc.Perm (es.toList.map (·.2))→Q acc { s with heap:=h',toks:=tk,drawn:=d }) :
  wpAny (model prog w) A (collect (.ref a)) Q E s:=by
 have fit:=D.fit
 have ha:a<s.heap.objs.size:=Heap.lt_size ho
 unfold collect
 refine wpAny_bind (wpAny_runValue (codeAny_builtin F.entry_proto_collect ?_))
 rw [Around.under_plainId F.plain_proto_collect _]
 show wpAny _ A.in1 (newList [] >>= fun l=>again (.builtin "list.__iadd__" ⟨[l,.ref a],[]⟩)) _ _ s
 refine wpAny_bind (wpAny_newObj_type ?_)
 refine wpAny_pure ⟨plainId_quiet F.plain_list_iadd _,codeAny_builtin F.entry_list_iadd ?_⟩
 rw [Around.under_plainId F.plain_list_iadd _]
 show wpAny _ A.in1 (Builtin.List.listExtendWith (.ref s.heap.objs.size) (.ref a) (.ref s.heap.objs.size)) _ _ _
 unfold Builtin.List.listExtendWith
 have g1:(s.heap.push { cls:=.type "list",data:=.seq ([]:List Value).toArray }).get? a=some (cW es ep t):=Heap.get?_push_of_some _ ho
 have hS₁:(s.heap.push { cls:=.type "list",data:=.seq ([]:List Value).toArray }).get? s.heap.objs.size=some { cls:=.type "list",data:=.seq ([]:List Value).toArray }:=Heap.get?_push_size _ rfl
 generalize hh1:s.heap.push { cls:=.type "list",data:=.seq ([]:List Value).toArray }=H1 at g1 hS₁ ⊢
 refine wpAny_bind (wpAny_typeOf (T:="set") ⟨_,g1,rfl⟩ ?_)
 have h1:Builtin.List.listSameRef (.ref s.heap.objs.size) (.ref a)=false:=by simp [Builtin.List.listSameRef,Nat.ne_of_gt ha]
 have h2:(Value.type "set" == Value.type "list")=false:=by decide
 have h3:(Value.type "set" == Value.type "tuple")=false:=by decide
 simp only [h1,h2,h3,Bool.or_false,Bool.false_eq_true,if_false]
 have hsp:splitId "set.__len__"=some ("set","__len__"):=by kernel_rfl
 have hsz:s.heap.objs.size<H1.objs.size:=Heap.lt_size hS₁
 refine wpAny_bind (zq (s:={ s with heap:=H1 }) g1 fit hz (fun nd=>?_) fun ps d pp=>?_)
 ·have nin:s.heap.objs.size ∉ [H1.objs.size,a]:=fun z=>by
   rcases List.mem_cons.mp z with z|z
   ·exact Nat.ne_of_lt hsz z
   ·exact Nat.ne_of_gt ha (List.mem_singleton.mp z)
  have W1:=fun I (ne:a≠I)=>wf (A:=A.in1) (ep:=ep) hh I a ne D nd
  have W0:∀h I,h.get? I=some (siO (rawInt 0) a es.size ep)→h.get? a=some (cW es ep t)→∃slot,IsSI h I (.int ((slot:Nat):Int) 0) 0 a es.size ep∧vy w t slot 0∧h.get? a=some (cW es ep t):=fun h I e1 e2 =>
   ⟨0,⟨_,e1,rfl,rfl⟩,.inr (vF D.ok.ris),e2⟩
  have g2:(H1.push (siO (rawInt 0) a es.size ep)).get? a=some (cW es ep t):=Heap.get?_push_of_some _ g1
  have hS2:(H1.push (siO (rawInt 0) a es.size ep)).get? s.heap.objs.size=some { cls:=.type "list",data:=.seq ([]:List Value).toArray }:=Heap.get?_push_of_some _ hS₁
  have hI:(H1.push (siO (rawInt 0) a es.size ep)).get? H1.objs.size=some (siO (rawInt 0) a es.size ep):=Heap.get?_push_size _ rfl
  have old:∀b o,b<s.heap.objs.size→s.heap.get? b=some o→(H1.push (siO (rawInt 0) a es.size ep)).get? b=some o:=fun b o hb e=>by
   rw [←hh1];exact Heap.get?_push_of_some _ (Heap.get?_push_of_some _ e)
  generalize H1.push (siO (rawInt 0) a es.size ep)=H2 at g2 hS2 hI old ⊢
  refine wpAny_bind (wpAny_holding ?_)
  refine tX ⟨_,g2,rfl⟩ ?_
  split
  ·refine wpAny_bind (wpAny_rule ?_)
   refine wpAny_bind ?_
   show wpAny _ A.in1 (updateSeq s.heap.objs.size (·.push .none) >>= fun _=>updateSeq s.heap.objs.size (·.pop)) _ _ _
   refine wpAny_bind (wpAny_updateSeq hS2 rfl ?_)
   have hS3:=Heap.get?_update_self (Obj.mapSeq (·.push Value.none)) hS2 rfl
   refine wpAny_updateSeq hS3 rfl ?_
   have hS4:=Heap.get?_update_self (Obj.mapSeq (·.pop)) hS3 rfl
   have oth:∀b o,b≠s.heap.objs.size→H2.get? b=some o→((H2.update s.heap.objs.size (Obj.mapSeq (·.push Value.none))).update s.heap.objs.size (Obj.mapSeq (·.pop))).get? b=some o :=
    fun b o hb e=>(Heap.get?_update_other _ _ (Ne.symm hb)).trans ((Heap.get?_update_other _ _ (Ne.symm hb)).trans e)
   refine wpAny_pure ⟨plainId_quiet F.plain_extend_loop _,pZ (S:=s.heap.objs.size) (W1 H1.objs.size (Nat.ne_of_lt (Nat.lt_trans ha hsz))) (by rw [sizeLine_eq];omega) nin ?_ hS4 fun h' tk acc c' k' hS' hacc=>?_⟩
   ·exact W0 _ _ (oth _ _ (Nat.ne_of_gt hsz) hI) (oth _ _ (Nat.ne_of_lt ha) g2)
   ·refine wpAny_bind (wpAny_load hS' ?_)
    refine wpAny_pure (hQ h' tk _ acc.toList (fun b o hb e=>k' b o (fun z=>by
     rcases List.mem_cons.mp z with z|z
     ·exact Nat.ne_of_lt hb z
     ·exact Nat.ne_of_lt (Nat.lt_trans hb hsz) (List.mem_singleton.mp z)) (oth b o (Nat.ne_of_lt hb) (old b o hb e))) (Nat.le_of_lt (Heap.lt_size hS')) (wm hacc))
  ·rename_i z
   exact (z (by decide +kernel)).elim
 ·have nin:s.heap.objs.size ∉ [H1.objs.size+1,a,H1.objs.size]:=fun z=>by
   rcases List.mem_cons.mp z with z|z
   ·exact Nat.ne_of_lt (Nat.lt_succ_of_lt hsz) z
   rcases List.mem_cons.mp z with z|z
   ·exact Nat.ne_of_gt ha z
   ·exact Nat.ne_of_lt hsz (List.mem_singleton.mp z)
  have W1:=Au (A:=A.in1) (prog:=prog) (w:=w) (ep:=ep) hh (H1.objs.size+1) a H1.objs.size (Nat.ne_of_lt (Nat.lt_succ_of_lt (Nat.lt_trans ha hsz))) (Nat.ne_of_lt (Nat.lt_succ_self _)) fit pp
  have g2:((H1.push (plT ps)).push (siO (.ref H1.objs.size) a es.size ep)).get? a=some (cW es ep t):=Heap.get?_push_of_some _ (Heap.get?_push_of_some _ g1)
  have hS2:((H1.push (plT ps)).push (siO (.ref H1.objs.size) a es.size ep)).get? s.heap.objs.size=some { cls:=.type "list",data:=.seq ([]:List Value).toArray }:=Heap.get?_push_of_some _ (Heap.get?_push_of_some _ hS₁)
  have hI:((H1.push (plT ps)).push (siO (.ref H1.objs.size) a es.size ep)).get? (H1.objs.size+1)=some (siO (.ref H1.objs.size) a es.size ep):=by
   have:=Heap.get?_push_size (o:=siO (.ref H1.objs.size) a es.size ep) (H1.push (plT ps)) rfl
   rw [Heap.size_push] at this
   exact this
  have hT2:((H1.push (plT ps)).push (siO (.ref H1.objs.size) a es.size ep)).get? H1.objs.size=some (plT ps):=Heap.get?_push_of_some _ (Heap.get?_push_size _ rfl)
  have old:∀b o,b<s.heap.objs.size→s.heap.get? b=some o→((H1.push (plT ps)).push (siO (.ref H1.objs.size) a es.size ep)).get? b=some o:=fun b o hb e=>by
   rw [←hh1];exact Heap.get?_push_of_some _ (Heap.get?_push_of_some _ (Heap.get?_push_of_some _ e))
  generalize (H1.push (plT ps)).push (siO (.ref H1.objs.size) a es.size ep)=H2 at g2 hS2 hI hT2 old ⊢
  refine wpAny_bind (wpAny_holding ?_)
  refine tX ⟨_,g2,rfl⟩ ?_
  split
  ·refine wpAny_bind (wpAny_rule ?_)
   refine wpAny_bind ?_
   show wpAny _ A.in1 (updateSeq s.heap.objs.size (·.push .none) >>= fun _=>updateSeq s.heap.objs.size (·.pop)) _ _ _
   refine wpAny_bind (wpAny_updateSeq hS2 rfl ?_)
   have hS3:=Heap.get?_update_self (Obj.mapSeq (·.push Value.none)) hS2 rfl
   refine wpAny_updateSeq hS3 rfl ?_
   have hS4:=Heap.get?_update_self (Obj.mapSeq (·.pop)) hS3 rfl
   have oth:∀b o,b≠s.heap.objs.size→H2.get? b=some o→((H2.update s.heap.objs.size (Obj.mapSeq (·.push Value.none))).update s.heap.objs.size (Obj.mapSeq (·.pop))).get? b=some o :=
    fun b o hb e=>(Heap.get?_update_other _ _ (Ne.symm hb)).trans ((Heap.get?_update_other _ _ (Ne.symm hb)).trans e)
   refine wpAny_pure ⟨plainId_quiet F.plain_extend_loop _,pZ (S:=s.heap.objs.size) W1 (by rw [sizeLine_eq];omega) nin ?_ hS4 fun h' tk acc c' k' hS' hacc=>?_⟩
   ·exact ⟨⟨_,oth _ _ (Nat.ne_of_gt (Nat.lt_succ_of_lt hsz)) hI,rfl,rfl⟩,oth _ _ (Nat.ne_of_gt hsz) hT2,oth _ _ (Nat.ne_of_lt ha) g2⟩
   ·refine wpAny_bind (wpAny_load hS' ?_)
    refine wpAny_pure (hQ h' tk _ acc.toList (fun b o hb e=>k' b o (fun z=>by
     rcases List.mem_cons.mp z with z|z
     ·exact Nat.ne_of_lt hb z
     ·exact Nat.ne_of_lt (Nat.lt_succ_of_lt (Nat.lt_trans hb hsz)) (List.mem_singleton.mp z)) (oth b o (Nat.ne_of_lt hb) (old b o hb e))) (Nat.le_of_lt (Heap.lt_size hS')) (Ac pp hacc))
  ·rename_i z
   exact (z (by decide +kernel)).elim
end
end FW
set_option Elab.async false
set_option linter.all false
set_option maxRecDepth 100000
namespace FW
open PySem PySem.Spec PyProof.Rows
section
variable {prog:Program} {w:World} {A:Around} {E:Value→Shared→Prop} {s:Shared}
theorem SetZ.at {b:Bool} {h h':Heap} {a:Addr} {zs:List Int} (x:SetZ prog w b h a zs) (e:∀o,h.get? a=some o→h'.get? a=some o):SetZ prog w b h' a zs :=
 let ⟨es,ep,t,ho,d⟩:=x;⟨es,ep,t,e _ ho,d⟩
theorem yI {I:Addr} {fp wr:List Addr} {n:Nat} {P:Nat→Value→Prop} {St:Nat→Heap→Prop} {S:Addr} {b:Bool} {R:Result→Shared→Prop} (W:Walks prog w A.in1 I fp wr n P St) (hSf:S ∉ fp)
  (val:Nat→Int) (hval:∀i v,P i v→∃t,v=.int (val i) t) (hb:n<900) :
  ∀(k i:Nat) (s:Shared),n-i=k→i≤n→St i s.heap→SetZ prog w b s.heap S ((List.range i).map val) →
   (∀h' tk,(∀c o,c ∉ S::wr→s.heap.get? c=some o→h'.get? c=some o)→SetZ prog w b h' S ((List.range n).map val)→R (.ok (.ret .none)) { s with heap:=h',toks:=tk }) →
   codeAny (model prog w) A (.builtin "set.update.loop" ⟨[.ref S,.ref I],[]⟩) R s:=by
 have hSw:S ∉ wr:=fun h=>hSf (W.sub _ h)
 have hsub:∀b,b ∉ S::wr→b ∉ wr:=fun b hb z=>hb (List.mem_cons_of_mem _ z)
 intro k
 induction k with
 | zero =>
  intro i s hk hi hst hS hR
  have hin:i=n:=by omega
  subst hin
  refine codeAny_builtin PyProof.Rows.F.entry_set_update_loop ?_
  rw [Around.under_plainId PyProof.Rows.F.plain_set_update_loop _]
  show wpAny _ A.in1 (pyNext (.ref I) >>= _) _ _ s
  refine wpAny_bind (W.done s _ _ hst fun h' tk hm=>?_)
  show wpAny _ A.in1 (ret Value.none) _ _ _
  exact wpAny_pure (hR h' tk (fun c o hc e=>hm c o (hsub c hc) e) (hS.at fun o e=>hm S o hSw e))
 | succ k ih =>
  intro i s hk hi hst hS hR
  have hlt:i<n:=by omega
  refine codeAny_builtin PyProof.Rows.F.entry_set_update_loop ?_
  rw [Around.under_plainId PyProof.Rows.F.plain_set_update_loop _]
  show wpAny _ A.in1 (pyNext (.ref I) >>= _) _ _ s
  refine wpAny_bind (W.item i s _ _ hlt hst fun v h1 tk1 hP hst' hm=>?_)
  obtain ⟨t,rfl⟩:=hval i v hP
  show wpAny _ A.in1 (holding [Value.int (val i) t] (setAdd S (.int (val i) t)) >>= _) _ _ _
  refine wpAny_bind (wpAny_holding ?_)
  unfold setAdd
  refine wpAny_holding ?_
  refine wpAny_bind ((intKind prog w).pyHash (k:=val i) (intKind_is _ _ _ _) ?_)
  have hS1:SetZ prog w b h1 S ((List.range i).map val):=hS.at fun o e=>hm S o hSw e
  refine EG (s:={ s with heap:=h1,toks:=tk1+1 }) hS1 (by simp;omega) fun r h2 sb hS2=>?_
  have hS3:SetZ prog w b h2 S ((List.range (i+1)).map val):=by rw [List.range_succ,List.map_append];exact hS2
  refine wpAny_pure ⟨plainId_quiet PyProof.Rows.F.plain_set_update_loop _,ih (i+1) _ (by omega) hlt (W.frame _ _ _ hst' fun b hb o e=>?_) hS3 fun h' tk kk hS4=>?_⟩
  ·show h2.get? b=some o
   rw [sb.2 b (fun h:b=S=>hSf (by rw [←h];exact hb))];exact e
  ·refine hR h' tk (fun c o hc e=>kk c o hc ?_) hS4
   show h2.get? c=some o
   rw [sb.2 c (fun h:c=S=>hc (by rw [h];exact List.mem_cons_self))]
   exact hm c o (hsub c hc) e
noncomputable abbrev oh (b:Bool):Obj:={ cls:=.type "set",dict:=none,data:=.set #[] 0 (.fresh 0 0 b) }
theorem zL {h:Heap} {a:Addr} {b:Bool} (e:h.get? a=some (oh b)):SetZ prog w b h a [] :=
 ⟨#[],0,.fresh 0 0 b,e,fun e he=>by simp at he,by simp,fun i=>by simp,Nat.zero_le _,by rfl,⟨fun i j ij jn=>absurd jn (Nat.not_lt_zero _),rfl⟩⟩
theorem Ai (a:Value) {Q:Value→Shared→Prop} (h:Q (.ref s.heap.objs.size) { s with heap:=s.heap.push (oh (!(byT w))) }) :
  codeAny (model prog w) A (.call (.builtin "set.__new__") ⟨[.type "set",a],[]⟩) (wants Q E) s:=by
 refine codeAny_of_tree ?_
 show wpAny _ A.in1 (do checkBuiltinCall "set.__new__" ⟨[.type "set",a],[]⟩;again (.builtin "set.__new__" ⟨[.type "set",a],[]⟩)) _ _ s
 refine wpAny_bind (wpAny_of_eq (PySem.F.newCall_set_1 a) (wpAny_pure ⟨plainId_quiet PySem.F.plain_set_new _,codeAny_builtin PySem.F.entry_set_new ?_⟩))
 rw [Around.under_plainId PySem.F.plain_set_new _]
 unfold Builtin.«set.__new__» Builtin.Frozenset.newClass
 have hsub:=sub_set_self
 obtain ⟨hp,g,d,tk,os⟩:=s
 dsimp only
 wp_walk
 refine wpAny_askSetting (wpAny_pure ?_)
 dsimp only
 simp only [newObj]
 refine wpAny_bind (wpAny_alloc (wpAny_pure ?_))
 exact wpAny_pure h
set_option maxHeartbeats 3200000 in
theorem wn {l:Addr} {items:Array Value} {ns:List Int} {Q:Value→Shared→Prop} (hh:A.handled=none) (hl:s.heap.IsList l items) (hi:IntsAre items.toList ns) (hb:items.size<900)
  (h:∀(h':Heap) (tk:Nat),SetZ prog w (!(byT w)) h' s.heap.objs.size ns→(∀b o,b<s.heap.objs.size→s.heap.get? b=some o→h'.get? b=some o)→Q (.ref s.heap.objs.size) { s with heap:=h',toks:=tk }) :
  wpAny (model prog w) A (call (.type "set") [.ref l]) Q E s:=by
 obtain ⟨c,tl,hmro⟩:=PySem.F.called_set.mro
 have hmade:=PySem.F.called_set.made
 have hsub:=PySem.F.called_set.sub
 refine wpAny_call (codeAny_of_tree ?_)
 show wpAny _ _ (callAny (.type "set") _) _ _ _
 refine wpAny_pure ⟨Code.quiet_builtin _ (by decide +kernel),codeAny_builtin PySem.F.entry_type_call ?_⟩
 rw [Around.under_plain (weight_type_call_type "set" [.ref l] []) rfl]
 have h1:=PySem.F.called_set.notType
 have h2:=PySem.F.called_set.canCreate
 have hct:=PySem.F.typeCall_set_1 (.ref l)
 repeat (any_goals (first|assumption|wp_step))
 refine codeAny_mono (Ai (.ref l) (E:=E) (Q:=fun obj s₁=>obj=.ref s.heap.objs.size∧s₁={ s with heap:=s.heap.push (oh (!(byT w))) }) ⟨rfl,rfl⟩) fun r s₁ hr=>?_
 cases r with
 | error e=>exact hr
 | ok fl =>
  cases fl with
  | ret obj =>
   obtain ⟨rfl,rfl⟩:=hr
   have hS:(s.heap.push (oh (!(byT w)))).get? s.heap.objs.size=some (oh (!(byT w))):=Heap.get?_push_size _ rfl
   have hT:Shared.TypeIs { s with heap:=s.heap.push (oh (!(byT w))) } (.ref s.heap.objs.size) "set":=⟨_,hS,rfl⟩
   have hli:=PySem.F.called_set.init.lookup
   have hbi:=PySem.F.called_set.init.bind (.ref s.heap.objs.size)
   repeat (any_goals (first|assumption|wp_step))
   refine codeAny_mono (codeAny_call_builtin (R:=wants (fun r s₂=>r=.none∧∃h' tk,s₂={ s with heap:=h',toks:=tk }∧SetZ prog w (!(byT w)) h' s.heap.objs.size ns ∧
     (∀b o,b<s.heap.objs.size→s.heap.get? b=some o→h'.get? b=some o)) E) PySem.F.called_set.init.plain PySem.F.entry_set_init (check_set_init_1 hT ?_)) fun r₂ s₂ hr₂=>?_
   ·have hl1:(s.heap.push (oh (!(byT w)))).IsList l items:=hl.push _
    have hlS:l<s.heap.objs.size:=by obtain ⟨o,ho,_⟩:=hl;exact Heap.lt_size ho
    obtain ⟨ol,hol,hcl,nl,hdl⟩:=hl
    obtain ⟨ocls,odict,odata,oslots⟩:=ol
    simp only at hcl hdl
    subst hcl;subst hdl
    have hol':(s.heap.push (oh (!(byT w)))).get? l=some { cls:=.type "list",dict:=odict,data:=.seq items nl,slots:=oslots }:=Heap.get?_push_of_some _ hol
    have hsls:=PySem.F.sub_list_set
    have hslf:=PySem.F.sub_list_frozenset
    have hne:(Value.type "list" == Value.type "dict")=false:=by decide
    unfold Builtin.«set.__init__» noKeywords Builtin.Frozenset.updateFrom
    generalize hPI:pyIter=PI
    wp_walk
    subst hPI
    refine wpAny_pyIter_list hl1 ?_
    refine wpAny_bind (wpAny_runValue ?_)
    have hh3:A.in1.in1.in1.handled=none:=by simp [hh]
    have hz:(s.heap.push (oh (!(byT w)))).objs.size=s.heap.objs.size+1:=Heap.size_push ..
    have hneI:l≠(s.heap.push (oh (!(byT w)))).objs.size:=by rw [hz];exact Nat.ne_of_lt (Nat.lt_succ_of_lt hlS)
    have hSf:s.heap.objs.size ∉ [(s.heap.push (oh (!(byT w)))).objs.size,l]:=fun z=>by
     rw [hz] at z
     rcases List.mem_cons.mp z with z|z
     ·exact Nat.ne_of_lt (Nat.lt_succ_self _) z
     ·exact Nat.ne_of_gt hlS (List.mem_singleton.mp z)
    have hval:∀(i:Nat) (v:Value),items[i]?=some v→∃t,v=.int ((fun i=>ns.getD i 0) i) t:=fun i v hv =>
     PyProof.Rows.IntsAre.int_at hi i v (by rw [Array.getElem?_toList];exact hv)
    have hns:(List.range items.size).map (fun i=>ns.getD i 0)=ns:=by
     have ln:items.size=ns.length:=by rw [←Array.length_toList];exact IntsAre.length hi
     refine List.ext_getElem (by simp [ln]) fun i h1 h2=>?_
     simp [List.getElem?_eq_getElem h2]
    refine yI (b:=!(byT w)) (Walks.list hh3 _ l hneI items) hSf (fun i=>ns.getD i 0) hval hb items.size 0 _ rfl (Nat.zero_le _)
     ⟨⟨_,Heap.get?_push_size _ rfl,rfl,rfl⟩,(hl1.push _)⟩ (zL (Heap.get?_push_of_some _ hS)) fun h' tk kk hS'=>?_
    rw [hns] at hS'
    show wpAny _ _ _ _ _ _
    refine wpAny_pure ?_
    show wpAny _ _ (ret Value.none) _ _ _
    refine wpAny_pure ⟨rfl,h',tk,rfl,hS',fun b o hb e=>?_⟩
    refine kk b o (fun z=>?_) (Heap.get?_push_of_some _ (Heap.get?_push_of_some _ e))
    rw [hz] at z
    rcases List.mem_cons.mp z with z|z
    ·exact Nat.ne_of_lt hb z
    ·exact Nat.ne_of_lt (Nat.lt_succ_of_lt hb) (List.mem_singleton.mp z)
   ·cases r₂ with
    | error e=>exact hr₂
    | ok fl₂ =>
     cases fl₂ with
     | ret r =>
      obtain ⟨rfl,h',tk,rfl,hS',hk'⟩:=hr₂
      repeat (any_goals (first|assumption|wp_step))
      exact h _ _ hS' hk'
     | _=>exact hr₂.elim
  | _=>exact hr.elim
theorem zZ {prog:Program} {w:World}:∀ {vs:List Value} {es:List (Int × Value)},(∀e∈es,EI prog w e)→vs.Perm (es.map (·.2))→IntsAre vs (vs.map toI)
 | [],es,h,p=>.nil
 | v::vs,es,h,p=>by
  have:∀v'∈v::vs,∃k t,v'=Value.int k t:=fun v' hv=>by
   obtain ⟨e,he,rfl⟩:=List.mem_map.mp (p.mem_iff.mp hv)
   obtain ⟨k,t,rfl⟩:=h e he
   exact ⟨k,t,rfl⟩
  have all:∀us:List Value,(∀u∈us,∃k t,u=Value.int k t)→IntsAre us (us.map toI):=fun us=>by
   induction us with
   | nil=>exact fun _=>.nil
   | cons u us ih =>
    intro hu
    obtain ⟨k,t,rfl⟩:=hu u List.mem_cons_self
    exact .cons k t (ih fun u' hu'=>hu u' (List.mem_cons_of_mem _ hu'))
  exact all _ this
theorem uQ {a:Addr} {zs:List Int} {Q:Value→Shared→Prop} (hh:A.handled=none) (hZ:SetZ prog w (!(byT w)) s.heap a zs) (hz:zs.length<64)
  (h:∀h' tk d l out e ns',(∀b o,b<s.heap.objs.size→s.heap.get? b=some o→h'.get? b=some o)→s.heap.objs.size≤l→h'.get? l=some (seqObj "list" out e)→IntsAre out.toList ns'→ns'.Pairwise (·< ·)→(∀i,i∈ns'↔i∈zs)→ns'.length≤zs.length →
   Q (.ref l) { s with heap:=h',toks:=tk,drawn:=d }) :
  wpAny (model prog w) A (call (.builtin "sorted") [.ref a]) Q E s:=by
 obtain ⟨es,ep,t,ho,D⟩:=hZ
 have ln:=D.ln
 refine Calls.call_function_entry kind_sorted plain_sorted entry_sorted (args_sorted1 _) ?_
 unfold Builtin.«sorted»
 refine wpAny_bind (m:=checkCount "sorted" 1 1 _) (wpAny_pure ?_)
 refine wpAny_bind (tP (A:=A.in1) hh ho D (by omega) fun h1 tk d acc k1 z1 pm=>?_)
 have la:acc.length=es.size:=by rw [pm.length_eq,List.length_map,Array.length_toList]
 have hI:IntsAre acc (acc.map toI):=zZ D.el pm
 refine wpAny_bind (wpAny_newList ?_ (by rw [la,sizeLine_eq];omega))
 have hoL:(h1.push (seqObj "list" acc.toArray 0)).get? h1.objs.size=some (seqObj "list" acc.toArray 0):=Heap.get?_push_size _ rfl
 refine wpAny_bind (wpAny_holding (wpAny_call_entry slot_list_sort ⟨_,hoL,rfl⟩ entry_list_sort (list_sort_tree hoL hI (by omega) fun out ns' a1 a2 a3=>⟨_,rfl,?_⟩) (args_list_sort _)))
 refine wpAny_pure ⟨_,rfl,?_⟩
 obtain ⟨e,he⟩:=sortedHeap_at (out:=out) hoL
 have pz:ns'.Perm (es.toList.map fun e=>toI e.2):=by
  refine a2.trans ?_
  have:=pm.map toI
  rw [List.map_map] at this
  exact this
 refine h _ tk d h1.objs.size out e ns' (fun b o hb eb=>?_) z1 he a1 ?_ (fun i=>(pz.mem_iff).trans (D.mem i)) ?_
 ·have lb:b<h1.objs.size:=Nat.lt_of_lt_of_le hb z1
  rw [sortedHeap_old (Nat.ne_of_lt lb) (by rw [size_push'];exact Nat.lt_succ_of_lt lb)]
  exact Heap.get?_push_of_some _ (k1 b o hb eb)
 ·have nd:ns'.Nodup:=pz.nodup_iff.mpr D.nd
  exact (a3.and nd).imp fun ⟨x,y⟩=>by omega
 ·rw [pz.length_eq,List.length_map,Array.length_toList];exact ln
end
end FW
set_option Elab.async false
set_option linter.all false
set_option maxRecDepth 100000
namespace L2
open PySem PySem.Spec PyProof.Rows
section
variable {X:Cx}
theorem AZ:fillsInplaceSlot (.type "list") "add" (Operator.Add == .Add)=pure false:=by
 unfold fillsInplaceSlot
 show (typeLookup (.type "list") (dunderI "add") >>= fun fi=>pure (fi.isSome && !isSeqSlot fi))=pure false
 rw [F.slot_list_iadd.lookup]
 have e:isSeqSlot (some (.builtin "list.__iadd__"))=true:=by decide +kernel
 show (pure (true && !isSeqSlot (some (.builtin "list.__iadd__"))):Sem Bool)=pure false
 rw [e]
 rfl
theorem zK:seqSlot? (.type "list") (dunderI "add")=pure (some (.builtin "list.__iadd__")):=PySem.seqSlot_of F.slot_list_iadd.lookup (by decide +kernel)
theorem wD {M:Model} {A:Around} {E:Value→Shared→Prop} {s:Shared} {a b:Value} {Q:Value→Shared→Prop} (ha:s.TypeIs a "list") (hb:s.TypeIs b "list")
  (hc:wpAny M A (call (.builtin "list.__iadd__") [a,b]) Q E s):wpAny M A (inplaceOp .Add a b) Q E s:=by
 unfold inplaceOp
 refine wpAny_holding ?_
 refine wpAny_bind (wpAny_typeOf ha (wpAny_bind (wpAny_of_eq AZ ?_)))
 show wpAny M A (if false=true then _ else _) Q E s
 rw [if_neg Bool.false_ne_true]
 refine wpAny_bind (wpAny_binaryOp1_none (nm:="add") ha hb noFill_list_add ?_)
 refine wpAny_bind (wpAny_of_eq zK ?_)
 exact wpAny_bind (wpAny_rule hc)
theorem Bv:PIp X .Add (fun x y H Q=>∃l b xs zs,x=.ref l∧y=.ref b∧H l=some (.lst xs)∧H b=some (.lst zs)∧xs.length+zs.length≤sizeLine∧Q (.ref l) (upd H l (.lst (xs++zs)))):=by
 intro pins s σ H x y v u Q I rx ry h
 obtain ⟨l,b,xs,zs,rfl,rfl,hH,hB,hz,q⟩:=h
 cases rx
 cases ry
 obtain ⟨z,its,n,r,hl,e⟩:=I.lstM hH
 obtain ⟨z2,its2,n2,r2,hl2,e2⟩:=I.lstM hB
 have hsz:its.toArray.size+its2.toArray.size≤sizeLine:=by rw [List.size_toArray,List.size_toArray];omega
 have hlong:¬(!its.toArray.isEmpty && Builtin.List.listTooLong (its.toArray.size+its2.toArray.size))=true:=by
  rw [tQ hsz,Bool.and_false]
  exact Bool.false_ne_true
 refine wD ⟨_,e,rfl⟩ ⟨_,e2,rfl⟩ ?_
 refine call_meets F.slot_list_iadd ⟨_,e,rfl⟩ F.entry_list_iadd (F.args_list_iadd_2 _ _)
  (AutoSeq1.list___iadd___list_list_0 l its.toArray n b its2.toArray n2 hlong (by rw [List.size_toArray];omega) (by omega)) ⟨e,e2,?_⟩
 refine ⟨.ref l,_,I.lset (its':=its++its2) hH e (by simp) (r.append r2) ?_,rfl,q⟩
 rw [List.length_append]
 omega
end
end L2
set_option Elab.async false
set_option linter.all false
set_option maxRecDepth 100000
set_option maxHeartbeats 1000000
namespace L2
open PySem PySem.Spec PyProof.Rows
structure EN (h:Heap) (f:Addr) (qual:Str) (params:Arguments) (body:Expr) (scope:Scope) (cl:List (Str × Addr)):Prop where
 ex:∃pm c' ctv,h.get? f=some (PySem.W.kla_obj "<lambda>" qual params body scope cl pm c' ctv)∧h.CodeRec (.ref c') qual
structure DV (x:Str) (scope:Scope) (cl:List (Str × Addr)):Prop where
 kind:scope.kind=.function
 co:scope.isCoroutine=false
 gen:scope.isGenerator=false
 nocell:∀y∈scope.names,y.2≠.cell
 par:scope.names.lookup x=some .local
 free:∀y,scope.names.lookup y=some .free→∃c,cl.lookup y=some c
 inj:∀y z c,cl.lookup y=some c→cl.lookup z=some c→y=z
end L2
set_option Elab.async false
set_option linter.all false
set_option maxRecDepth 100000
set_option maxHeartbeats 1000000
namespace L2
open PySem PySem.Spec PyProof.Rows
noncomputable abbrev DZ (ps:Array Value) (pos:Pos) (c':Addr):Array Value:=ps++#[rawInt pos.line,rawInt pos.col,.ref c']
noncomputable abbrev yf (H:Hp) (T:Addr) (ps:Array Value) (pos:Pos) (c':Addr) (oc:Obj):Hp:=upd (upd H T (.tbl (DZ ps pos c'))) c' (.frz oc (.own 0))
noncomputable def yt (oc:Obj) (q:Str):Prop:=∃vs t,oc.data=.fields vs∧vs[1]?=some (.str q t)
end L2
set_option Elab.async false
set_option linter.all false
set_option maxRecDepth 100000
namespace FW
open PySem L2 HX
inductive PV where
 | non|bl (b:Bool)|int (i:Int)|str (x:Str)|tup (xs:List PV)|ref (n:Nat)|rdl (xs:List PV)|fn (a:Nat)
 deriving Inhabited
inductive Cell where
 | lst (xs:List PV)
 | dk (kvs:List (Key × PV))
noncomputable abbrev AH:=List Cell
noncomputable abbrev Fr:=List (Option PV)
noncomputable abbrev EK:=PV→AH→Prop
noncomputable abbrev LK:=List PV→AH→Prop
noncomputable abbrev BK:=Bool→AH→Prop
noncomputable abbrev FSp:=List PV→AH→EK→Prop
mutual
noncomputable def PV.bel (k:Nat):PV→Bool
 | .ref n=>decide (n<k)
 | .tup xs=>PV.bels k xs
 | .rdl xs=>PV.bels k xs
 | .non=>true
 | .bl _=>true
 | .int _=>true
 | .str _=>true
 | .fn _=>false
noncomputable def PV.bels (k:Nat):List PV→Bool
 | []=>true
 | x::xs=>x.bel k && PV.bels k xs
end
mutual
noncomputable def PV.bec (k:Nat):PV→Bool
 | .ref n=>decide (n<k)
 | .tup xs=>PV.becs k xs
 | .rdl xs=>PV.becs k xs
 | .non=>true
 | .bl _=>true
 | .int _=>true
 | .str _=>true
 | .fn _=>true
noncomputable def PV.becs (k:Nat):List PV→Bool
 | []=>true
 | x::xs=>x.bec k && PV.becs k xs
end
mutual
theorem PV.bel_bec {i j:Nat} (h:i≤j):∀ {v:PV},v.bel i=true→v.bec j=true
 | .non,_=>by rw [PV.bec]
 | .bl _,_=>by rw [PV.bec]
 | .int _,_=>by rw [PV.bec]
 | .str _,_=>by rw [PV.bec]
 | .ref n,z=>by rw [PV.bel] at z;rw [PV.bec];have:=of_decide_eq_true z;exact decide_eq_true (by omega)
 | .tup xs,z=>by rw [PV.bel] at z;rw [PV.bec];exact PV.bels_becs h z
 | .rdl xs,z=>by rw [PV.bel] at z;rw [PV.bec];exact PV.bels_becs h z
 | .fn _,z=>by rw [PV.bel] at z;cases z
theorem PV.bels_becs {i j:Nat} (h:i≤j):∀ {vs:List PV},PV.bels i vs=true→PV.becs j vs=true
 | [],_=>by rw [PV.becs]
 | v::vs,z=>by rw [PV.bels,Bool.and_eq_true] at z;rw [PV.becs,Bool.and_eq_true];exact ⟨PV.bel_bec h z.1,PV.bels_becs h z.2⟩
end
noncomputable def Cell.bec (k:Nat):Cell→Bool
 | .lst xs=>PV.becs k xs
 | .dk kvs=>PV.becs k (kvs.map (·.2))
noncomputable def Cell.bel (k:Nat):Cell→Bool
 | .lst xs=>PV.bels k xs
 | .dk kvs=>PV.bels k (kvs.map (·.2))
mutual
noncomputable def PV.toD:PV→Option PyData
 | .non=>some .none
 | .bl b=>some (.bool b)
 | .int i=>some (.int i)
 | .str x=>some (.str x)
 | .tup xs=>(PV.toDs xs).map .tuple
 | .rdl xs=>(PV.toDs xs).map .list
 | .ref _=>none
 | .fn _=>none
noncomputable def PV.toDs:List PV→Option (List PyData)
 | []=>some []
 | x::xs=>match x.toD,PV.toDs xs with
  | some d,some ds=>some (d::ds)
  | _,_=>none
end
noncomputable def rO (st:AH):PV→Option PyData
 | .ref n=>match st[n]? with
  | some (.lst xs)=>(PV.toDs xs).map .list
  | _=>none
 | v=>v.toD
noncomputable def eqW (st:AH) (x y:PV) (k:Bool→Prop):Prop :=
 match x,y with
 | .int i,.int j=>k (decide (i=j))
 | .bl a,.bl b=>k (decide (a=b))
 | .str a,.str b=>k (decide (a=b))
 | x,y=>∃d e,rO st x=some d∧rO st y=some e∧SeqAt.shaped d=true∧SeqAt.shaped e=true∧k (PyData.eqv d e)
noncomputable def eD (st:AH):PV→Option String
 | .non=>some "NoneType"
 | .bl _=>some "bool"
 | .int _=>some "int"
 | .str _=>some "str"
 | .tup _=>some "tuple"
 | .rdl _=>some "list"
 | .ref n=>match st[n]? with
  | some (.lst _)=>some "list"
  | some (.dk _)=>some "dict"
  | none=>none
 | .fn _=>none
noncomputable def bK (st:AH):PV→Option (List PV)
 | .rdl xs=>some xs
 | .ref n=>match st[n]? with
  | some (.lst xs)=>some xs
  | _=>none
 | _=>none
noncomputable def bj (st:AH):PV→Option (List PV)
 | .tup xs=>some xs
 | v=>bK st v
noncomputable def iQ:PV→Bool
 | .non=>true
 | _=>false
noncomputable def mI (k:Bool):PV→Bool
 | .bl b=>b == k
 | _=>false
noncomputable def iR (xs:List PV) (lo hi:Option Int):List PV:=(xs.drop (HT.sIx xs.length 0 lo)).take (HT.sIx xs.length xs.length hi-HT.sIx xs.length 0 lo)
noncomputable def iiW (f:Int→Int→Prop) (x y:PV):Prop :=
 match x with
 | .int i=>match y with
  | .int j=>f i j
  | _=>False
 | _=>False
noncomputable def EJ (x y:PV) (st:AH) (Q:EK):Prop :=
 match x with
 | .int i=>match y with
  | .int j=>Q (.int (i+j)) st
  | _=>False
 | .ref n=>match y with
  | .ref k=>∃xs ys,st[n]?=some (.lst xs)∧st[k]?=some (.lst ys)∧xs.length+ys.length≤100000∧Q (.ref st.length) (st++[.lst (xs++ys)])
  | _=>False
 | .tup xs=>match y with
  | .tup ys=>xs.length+ys.length≤100000∧Q (.tup (xs++ys)) st
  | _=>False
 | .str a=>match y with
  | .str b=>a.length+b.length≤100000∧Q (.str (a++b)) st
  | _=>False
 | _=>False
noncomputable def Ex (x y:PV) (st:AH) (Q:EK):Prop :=
 match x with
 | .int i=>match y with
  | .int j=>CMB i j∧Q (.int (i*j)) st
  | _=>False
 | .ref n=>match y with
  | .int k=>∃xs,st[n]?=some (.lst xs)∧-(2 ^ 63)≤k∧k<2 ^ 63∧xs.length*k.toNat≤100000∧Q (.ref st.length) (st++[.lst (List.replicate k.toNat xs).flatten])
  | _=>False
 | _=>False
noncomputable def i6 (op:Operator) (x y:PV) (st:AH) (Q:EK):Prop :=
 match op with
 | .Add=>EJ x y st Q
 | .Sub=>iiW (fun i j=>Q (.int (i-j)) st) x y
 | .Mult=>Ex x y st Q
 | .FloorDiv=>iiW (fun i j=>CBig j∧Q (.int (i/j)) st) x y
 | .Mod=>iiW (fun i j=>0<j∧Q (.int (i % j)) st) x y
 | .Pow=>iiW (fun i j=>vc i j∧Q (.int (i ^ j.toNat)) st) x y
 | _=>False
noncomputable def mv (kvs:List (Key × PV)) (k:Key):Option PV:=(kvs.find? fun kv=>decide (kv.1=k)).map (·.2)
noncomputable def ze (kvs:List (Key × PV)) (k:Key) (v:PV):List (Key × PV) :=
 if (kvs.any fun kv=>decide (kv.1=k))=true then kvs.map (fun kv=>if kv.1=k then (kv.1,v) else kv) else kvs++[(k,v)]
noncomputable def inR (a:Str) (n:Nat) (st:AH) (k:Bool→Prop):Prop :=
 (∃ns:List Str,st[n]?=some (.lst (ns.map PV.str))∧k (ns.any fun j=>j == a))∨∃kvs,st[n]?=some (.dk kvs)∧k (mv kvs (.inr a)).isSome
noncomputable def dE (op:CmpOp) (x y:PV) (st:AH) (Q:EK):Prop :=
 match op with
 | .Eq=>eqW st x y fun k=>Q (.bl k) st
 | .NotEq=>eqW st x y fun k=>Q (.bl (!k)) st
 | .Is=>match y with
  | .non=>Q (.bl (iQ x)) st
  | .bl k=>Q (.bl (mI k x)) st
  | _=>False
 | .IsNot=>match y with
  | .non=>Q (.bl (!iQ x)) st
  | .bl k=>Q (.bl (!mI k x)) st
  | _=>False
 | .Lt=>match x,y with
  | .int i,.int j=>Q (.bl (decide (i<j))) st
  | _,_=>False
 | .LtE=>match x,y with
  | .int i,.int j=>Q (.bl (decide (i≤j))) st
  | _,_=>False
 | .Gt=>match x,y with
  | .int i,.int j=>Q (.bl (decide (j<i))) st
  | _,_=>False
 | .GtE=>match x,y with
  | .int i,.int j=>Q (.bl (decide (j≤i))) st
  | _,_=>False
 | .In=>match x,y with
  | .str a,.str b=>Q (.bl (!(Builtin.Str.occurrences b a 0 b.length 1).isEmpty)) st
  | .int i,.tup xs=>∃ns:List Int,xs=ns.map PV.int∧Q (.bl (ns.any fun j=>j == i)) st
  | .str a,.tup xs=>∃ns:List Str,xs=ns.map PV.str∧Q (.bl (ns.any fun j=>j == a)) st
  | .str a,.ref n=>inR a n st fun k=>Q (.bl k) st
  | _,_=>False
 | .NotIn=>match x,y with
  | .int i,.tup xs=>∃ns:List Int,xs=ns.map PV.int∧Q (.bl (!(ns.any fun j=>j == i))) st
  | .str a,.tup xs=>∃ns:List Str,xs=ns.map PV.str∧Q (.bl (!(ns.any fun j=>j == a))) st
  | .str a,.ref n=>inR a n st fun k=>Q (.bl (!k)) st
  | _,_=>False
noncomputable def ixI (i:Int) (st:AH) (Q:EK) (x:PV):Prop :=
 match x with
 | .str z=>z.length≤100000∧∃c,atI z.cps.toList i=some c∧Q (.str ⟨#[c]⟩) st
 | x=>∃xs,bj st x=some xs∧∃v,atI xs i=some v∧Q v st
theorem we {i:Int} {st:AH} {Q:EK} {x:PV} (h:ixI i st Q x):(∃z c,x=.str z∧z.length≤100000∧atI z.cps.toList i=some c∧Q (.str ⟨#[c]⟩) st)∨∃xs v,bj st x=some xs∧atI xs i=some v∧Q v st:=by
 cases x with
 | str z=>exact .inl ⟨z,h.2.choose,rfl,h.1,h.2.choose_spec⟩
 | _=>obtain ⟨xs,e,v,e2,q⟩:=h;exact .inr ⟨xs,v,e,e2,q⟩
theorem zH {i:Int} {st:AH} {Q:EK} {x:PV} {xs:List PV} {v:PV} (e:bj st x=some xs) (e2:atI xs i=some v) (h:Q v st):ixI i st Q x:=by
 cases x with|str z=>cases e|_=>exact ⟨xs,e,v,e2,h⟩
noncomputable def ixD (z:Str) (st:AH) (Q:EK) (x:PV):Prop :=
 match x with
 | .ref n=>∃kvs v,st[n]?=some (.dk kvs)∧mv kvs (.inr z)=some v∧Q v st
 | _=>False
theorem vP {z:Str} {st:AH} {Q:EK} {x:PV} (h:ixD z st Q x):∃n kvs v,x=.ref n∧st[n]?=some (.dk kvs)∧mv kvs (.inr z)=some v∧Q v st:=by
 cases x with
 | ref n=>obtain ⟨kvs,v,h⟩:=h;exact ⟨n,kvs,v,rfl,h⟩
 | _=>exact False.elim h
noncomputable def ixW (x y:PV) (st:AH) (Q:EK):Prop :=
 match y with
 | .int i=>ixI i st Q x
 | .str z=>ixD z st Q x
 | _=>False
noncomputable def AX (z:Str) (lo hi:Option Int):Str:=if ((Builtin.Str.strSliceIndices lo hi 1 z.length).length == z.length)=true then z else ⟨((Builtin.Str.strSliceIndices lo hi 1 z.length).filterMap (z.cps[·]?)).toArray⟩
noncomputable def slW (x:PV) (lo hi:Option Int) (st:AH) (Q:EK):Prop :=
 match x with
 | .str z=>z.length≤100000∧Q (.str (AX z lo hi)) st
 | .tup xs=>Q (.tup (iR xs lo hi)) st
 | x=>∃xs,bK st x=some xs∧Q (.ref st.length) (st++[.lst (iR xs lo hi)])
noncomputable def B4 (st:AH) (Q:EK) (x:PV):Prop :=
 match x with
 | .str z=>z.length≤100000∧Q (.int z.length) st
 | x=>∃xs,bj st x=some xs∧Q (.int xs.length) st
theorem sQ {st:AH} {Q:EK} {x:PV} (h:B4 st Q x):(∃z,x=.str z∧z.length≤100000∧Q (.int z.length) st)∨∃xs,bj st x=some xs∧Q (.int xs.length) st:=by
 cases x with|str z=>exact .inl ⟨z,rfl,h⟩|_=>exact .inr h
theorem yT {st:AH} {Q:EK} {x:PV} {xs:List PV} (e:bj st x=some xs) (h:Q (.int xs.length) st):B4 st Q x:=by
 cases x with|str z=>cases e|_=>exact ⟨xs,e,h⟩
inductive B where
 | len|max2|min2|divmod|int1|str1|tuple1|list1|all1|any1|abs1|sorted1|repr1
 deriving DecidableEq
noncomputable def Dx:List PV→Option (List Bool)
 | []=>some []
 | .bl b::r=>(Dx r).map (b::·)
 | _::_=>none
noncomputable def zG (f:PV→Prop) (vs:List PV):Prop :=
 match vs with
 | [x]=>f x
 | _=>False
noncomputable def yd (f:PV→PV→Prop) (vs:List PV):Prop :=
 match vs with
 | [x,y]=>f x y
 | _=>False
noncomputable def inW (f:Int→Prop) (x:PV):Prop :=
 match x with
 | .int b=>f b
 | _=>False
noncomputable def fA (b:B) (vs:List PV) (st:AH) (Q:EK):Prop :=
 match b with
 | .len=>zG (B4 st Q) vs
 | .max2=>yd (iiW fun i j=>Q (.int (if i<j then j else i)) st) vs
 | .min2=>yd (iiW fun i j=>Q (.int (if j<i then j else i)) st) vs
 | .divmod=>yd (iiW fun i j=>CBig j∧Q (.tup [.int (i/j),.int (i % j)]) st) vs
 | .int1=>False
 | .str1=>False
 | .tuple1=>zG (fun x=>∃xs,bj st x=some xs∧Q (.tup xs) st) vs
 | .list1=>False
 | .all1=>False
 | .any1=>False
 | .abs1=>zG (inW fun i=>Q (.int i.natAbs) st) vs
 | .sorted1=>False
 | .repr1=>False
inductive M where
 | append|pop0|extend|insert|count
 deriving DecidableEq
noncomputable def rfW (f:Nat→Prop) (x:PV):Prop :=
 match x with
 | .ref n=>f n
 | _=>False
noncomputable def Bg (f:Prop) (vs:List PV):Prop :=
 match vs with
 | []=>f
 | _=>False
noncomputable def sr (m:M) (x:PV) (vs:List PV) (st:AH) (Q:EK):Prop :=
 match m with
 | .append=>rfW (fun n=>zG (fun v=>∃xs,st[n]?=some (.lst xs)∧xs.length<100000∧Q .non (st.set n (.lst (xs++[v])))) vs) x
 | .pop0=>rfW (fun n=>Bg (∃xs v,st[n]?=some (.lst xs)∧xs[xs.length-1]?=some v∧Q v (st.set n (.lst xs.dropLast))) vs) x
 | .extend=>False
 | .insert=>rfW (fun n=>yd (fun i v=>inW (fun i=>∃xs,st[n]?=some (.lst xs)∧xs.length<100000∧0≤i∧i≤xs.length∧Q .non (st.set n (.lst (xs.take i.toNat++v::xs.drop i.toNat)))) i) vs) x
 | .count=>False
theorem bH {f:Int→Int→Prop} {x y:PV} (h:iiW f x y):∃i j,x=.int i∧y=.int j∧f i j:=by
 cases x with
 | int i =>
  cases y with
  | int j=>exact ⟨i,j,rfl,rfl,h⟩
  | _=>exact False.elim h
 | _=>exact False.elim h
theorem dA {f:PV→Prop} {vs:List PV} (h:zG f vs):∃x,vs=[x]∧f x:=by
 cases vs with
 | nil=>exact False.elim h
 | cons x t =>
  cases t with
  | nil=>exact ⟨x,rfl,h⟩
  | cons _ _=>exact False.elim h
theorem dC {f:PV→PV→Prop} {vs:List PV} (h:yd f vs):∃x y,vs=[x,y]∧f x y:=by
 cases vs with
 | nil=>exact False.elim h
 | cons x t =>
  cases t with
  | nil=>exact False.elim h
  | cons y t =>
   cases t with
   | nil=>exact ⟨x,y,rfl,h⟩
   | cons _ _=>exact False.elim h
theorem pQ {f:Prop} {vs:List PV} (h:Bg f vs):vs=[]∧f:=by
 cases vs with
 | nil=>exact ⟨rfl,h⟩
 | cons x t=>exact False.elim h
theorem m5 {f:Int→Prop} {x:PV} (h:inW f x):∃b,x=.int b∧f b:=by
 cases x with
 | int b=>exact ⟨b,rfl,h⟩
 | _=>exact False.elim h
theorem iZ {f:Nat→Prop} {x:PV} (h:rfW f x):∃b,x=.ref b∧f b:=by
 cases x with
 | ref b=>exact ⟨b,rfl,h⟩
 | _=>exact False.elim h
noncomputable def e_ (x:PV) (st:AH) (Q:BK):Prop :=
 match x with
 | .bl b=>Q b st
 | .non=>Q false st
 | .int i=>Q (i != 0) st
 | .str _=>False
 | x=>∃xs,bj st x=some xs∧Q (!xs.isEmpty) st
noncomputable def Sub (st st':AH):Prop:=∀i,i<st.length→st'[i]?=st[i]?∨∃c,st'[i]?=some c∧c.bel 0=true
noncomputable def Tmp (st:AH) (Q:EK):EK:=fun v st'=>∃st1 g,st'=st1++g∧st1.length=st.length∧Sub st st1∧v.bel st.length=true∧Q v st1
noncomputable def Ret (st:AH) (Q:EK):EK:=fun v st'=>Q v st'∨Tmp st Q v st'
mutual
inductive E where
 | var (i:Nat)|int (i:Int)|bl (b:Bool)|non|str (x:Str)|gv (x:Str) (v:PV)
 | tup (es:Es)|lst (es:Es)|dct0|dct1 (k:Str) (i:Int)
 | bin (op:Operator) (a b:E)|neg (a:E)|not (a:E)
 | cmp (op:CmpOp) (a b:E)
 | bop (isAnd:Bool) (es:Es)
 | ite (c a b:E)
 | ix (a b:E)|sl (a:E) (lo hi:O)
 | call (f:Nat) (es:Es)
 | blt (b:B) (es:Es)
 | inst (a:E) (t:String)
 | met (m:M) (o:E) (es:Es)
 | comp (elt:E) (tg:Tg) (it:It) (ifs:Es) (nt:List Str) (caps:List Nat)
 | tmp (a:E)
 | bad
 | jrev (a:E)|part (a:E) (y:Str)|sset (a:E)
 | pcall (i:Nat) (e:E)|hm (e be:E) (caps:List Nat)
inductive Es where
 | nil|cons (e:E) (es:Es)
inductive O where
 | no|yes (e:E)
inductive It where
 | seq (e:E)|range1 (a:E)|range2 (a b:E)|zip (a b:E)|enum (a:E)|chars (e:E)|range3 (a b c:E)|zip3 (a b c:E)
inductive Tg where
 | name (i:Nat)|tup (ts:Tgs)|ltup (ts:Tgs)|sub (o i:E)
inductive Tgs where
 | nil|cons (t:Tg) (ts:Tgs)
end
noncomputable def Tgs.size:Tgs→Nat
 | .nil=>0
 | .cons _ ts=>ts.size+1
noncomputable def rZ (o i v:PV) (st:AH) (k:AH→Prop):Prop :=
 match o,i with
 | .ref n,.int j=>∃xs,st[n]?=some (.lst xs)∧∃q,ixN xs.length j=some q∧k (st.set n (.lst (xs.set q v)))
 | .ref n,.str z=>∃kvs,st[n]?=some (.dk kvs)∧kvs.length≤1000∧k (st.set n (.dk (ze kvs (.inr z) v)))
 | _,_=>False
noncomputable def eE (chk:AH→Prop) (body:PV→AH→(Option PV→AH→Prop)→Prop):List PV→List PV→AH→LK→Prop
 | [],acc,st,Q=>chk st∧Q acc st
 | x::xs,acc,st,Q=>chk st∧body x st fun o st'=>eE chk body xs (acc++o.toList) st' Q
noncomputable def iN (st:AH):PV→AH→Prop
 | .ref n=>fun st'=>st'[n]?=st[n]?
 | _=>fun _=>True
noncomputable def df (lo:Int) (n:Nat):List PV:=(List.range n).map fun (i:Nat)=>PV.int (lo+(i:Int))
noncomputable def mq:List PV→List PV→List PV
 | x::xs,y::ys=>.tup [x,y]::mq xs ys
 | _,_=>[]
noncomputable def iO:Int→List PV→List PV
 | _,[]=>[]
 | i,x::xs=>.tup [.int i,x]::iO (i+1) xs
noncomputable def Cr (g:PV→Bool) (xs:List PV):Nat→Nat→Nat→Nat
 | 0,lo,_=>lo
 | n+1,lo,hi=>if lo<hi then (if g (xs.getD ((lo+hi)/2) .non)=true then Cr g xs n ((lo+hi)/2+1) hi else Cr g xs n lo ((lo+hi)/2)) else lo
noncomputable def bsr (g:PV→Bool) (xs:List PV):Nat:=Cr g xs xs.length 0 xs.length
section
variable (Γ:Nat→FSp)
mutual
noncomputable def wpE:E→Fr→AH→EK→Prop
 | .var i,ρ,st,Q=>∃v,ρ[i]?=some (some v)∧Q v st
 | .int i,_,st,Q=>Q (.int i) st
 | .bl b,_,st,Q=>Q (.bl b) st
 | .non,_,st,Q=>Q .non st
 | .str x,_,st,Q=>Q (.str x) st
 | .gv _ v,_,st,Q=>Q v st
 | .tup es,ρ,st,Q=>cJ es ρ st fun vs st1=>vs.length≤100000∧Q (.tup vs) st1
 | .lst es,ρ,st,Q=>cJ es ρ st fun vs st1=>vs.length≤100000∧Q (.ref st1.length) (st1++[.lst vs])
 | .dct0,_,_,_=>False
 | .dct1 _ _,_,_,_=>False
 | .bin op a b,ρ,st,Q=>wpE a ρ st fun x st1=>wpE b ρ st1 fun y st2=>i6 op x y st2 Q
 | .neg a,ρ,st,Q=>wpE a ρ st fun x st1=>∃i,x=.int i∧Q (.int (-i)) st1
 | .not a,ρ,st,Q=>wpE a ρ st fun x st1=>∃c,x=.bl c∧Q (.bl (!c)) st1
 | .cmp op a b,ρ,st,Q=>wpE a ρ st fun x st1=>wpE b ρ st1 fun y st2=>dE op x y st2 Q
 | .bop true es,ρ,st,Q=>sH es ρ st Q
 | .bop false es,ρ,st,Q=>rM es ρ st Q
 | .ite c a b,ρ,st,Q=>wpT c ρ st fun k st1=>if k=true then wpE a ρ st1 Q else wpE b ρ st1 Q
 | .ix a b,ρ,st,Q=>wpE a ρ st fun x st1=>wpE b ρ st1 fun y st2=>ixW x y st2 Q
 | .sl a lo hi,ρ,st,Q=>wpE a ρ st fun x st1=>wpO lo ρ st1 fun l st2=>wpO hi ρ st2 fun h st3=>slW x l h st3 Q
 | .call f es,ρ,st,Q=>cJ es ρ st fun vs st1=>Γ f vs st1 Q
 | .blt b es,ρ,st,Q=>cJ es ρ st fun vs st1=>fA b vs st1 Q
 | .inst a t,ρ,st,Q=>wpE a ρ st fun x st1=>∃n,eD st1 x=some n∧Q (.bl (iz t n)) st1
 | .met m o es,ρ,st,Q=>wpE o ρ st fun x st1=>(∃xs,bK st1 x=some xs)∧cJ es ρ st1 fun vs st2=>sr m x vs st2 Q
 | .comp elt tg it ifs nt caps,ρ,st,Q=>jr it ρ st fun xs chk st1 =>
   xs.length<100000∧eE chk (fun x st2 k=>di tg x (nt.map (fun _=>none)++caps.map fun i=>(ρ[i]?).join) st2 fun ρ' st3=>iq ifs ρ' st3 fun c st4 =>
    if c=true then wpE elt ρ' st4 fun v st5=>k (some v) st5 else k none st4) xs [] st1 fun vs st2=>Q (.ref st2.length) (st2++[.lst vs])
 | .tmp a,ρ,st,Q=>wpE a ρ st (Tmp st Q)
 | .bad,_,_,_=>False
 | .jrev _,_,_,_=>False
 | .part _ _,_,_,_=>False
 | .sset a,ρ,st,Q=>wpE a ρ st fun x st1=>∃n,x=.ref n∧∃ns:List Int,st1[n]?=some (.lst (ns.map PV.int))∧ns.length<60∧∀ns':List Int,ns'.Pairwise (·< ·)→(∀i,i∈ns'↔i∈ns)→ns'.length≤ns.length→Q (.ref st1.length) (st1++[.lst (ns'.map PV.int)])
 | .pcall _ _,_,_,_=>False
 | .hm _ _ _,_,_,_=>False
noncomputable def cJ:Es→Fr→AH→LK→Prop
 | .nil,_,st,Q=>Q [] st
 | .cons e es,ρ,st,Q=>wpE e ρ st fun x st1=>cJ es ρ st1 fun xs st2=>Q (x::xs) st2
noncomputable def wpO:O→Fr→AH→(Option Int→AH→Prop)→Prop
 | .no,_,st,Q=>Q none st
 | .yes e,ρ,st,Q=>wpE e ρ st fun x st1=>∃i,x=.int i∧Q (some i) st1
noncomputable def wpT:E→Fr→AH→BK→Prop
 | .bop true es,ρ,st,Q=>iq es ρ st Q
 | .bop false es,ρ,st,Q=>rQ es ρ st Q
 | .not a,ρ,st,Q=>wpT a ρ st fun c st1=>Q (!c) st1
 | .cmp op a b,ρ,st,Q=>wpE a ρ st fun x st1=>wpE b ρ st1 fun y st2=>dE op x y st2 fun v st3=>∃c,v=.bl c∧Q c st3
 | .var i,ρ,st,Q=>∃v,ρ[i]?=some (some v)∧e_ v st Q
 | .call f es,ρ,st,Q=>cJ es ρ st fun vs st1=>Γ f vs st1 fun v st2=>e_ v st2 Q
 | .blt b es,ρ,st,Q=>cJ es ρ st fun vs st1=>fA b vs st1 fun v st2=>e_ v st2 Q
 | .inst a t,ρ,st,Q=>wpE a ρ st fun x st1=>∃n,eD st1 x=some n∧Q (iz t n) st1
 | .tmp a,ρ,st,Q=>wpE a ρ st (Tmp st fun v st1=>e_ v st1 Q)
 | .ix a b,ρ,st,Q=>wpE a ρ st fun x st1=>wpE b ρ st1 fun y st2=>ixW x y st2 fun v st3=>e_ v st3 Q
 | .pcall _ _,_,_,_=>False
 | _,_,_,_=>False
noncomputable def sH:Es→Fr→AH→EK→Prop
 | .nil,_,_,_=>False
 | .cons e .nil,ρ,st,Q=>wpE e ρ st Q
 | .cons e es,ρ,st,Q=>wpE e ρ st fun x st1=>∃c,x=.bl c∧if c=true then sH es ρ st1 Q else Q (.bl false) st1
noncomputable def rM:Es→Fr→AH→EK→Prop
 | .nil,_,_,_=>False
 | .cons e .nil,ρ,st,Q=>wpE e ρ st Q
 | .cons e es,ρ,st,Q=>wpE e ρ st fun x st1=>∃c,x=.bl c∧if c=true then Q (.bl true) st1 else rM es ρ st1 Q
noncomputable def iq:Es→Fr→AH→BK→Prop
 | .nil,_,st,Q=>Q true st
 | .cons e .nil,ρ,st,Q=>wpT e ρ st Q
 | .cons e es,ρ,st,Q=>wpT e ρ st fun c st1=>if c=true then iq es ρ st1 Q else Q false st1
noncomputable def rQ:Es→Fr→AH→BK→Prop
 | .nil,_,st,Q=>Q false st
 | .cons e .nil,ρ,st,Q=>wpT e ρ st Q
 | .cons e es,ρ,st,Q=>wpT e ρ st fun c st1=>if c=true then Q true st1 else rQ es ρ st1 Q
noncomputable def jr:It→Fr→AH→(List PV→(AH→Prop)→AH→Prop)→Prop
 | .seq e,ρ,st,Q=>wpE e ρ st fun x st1=>∃xs,bj st1 x=some xs∧Q xs (iN st1 x) st1
 | .range1 a,ρ,st,Q=>wpE a ρ st fun x st1=>∃j,x=.int j∧-(2 ^ 62)≤j∧j<2 ^ 62∧Q (df 0 j.toNat) (fun _=>True) st1
 | .range2 a b,ρ,st,Q=>wpE a ρ st fun x st1=>wpE b ρ st1 fun y st2=>∃i j,x=.int i∧y=.int j∧(-(2 ^ 62)≤i∧i<2 ^ 62∧-(2 ^ 62)≤j∧j<2 ^ 62)∧Q (df i (j-i).toNat) (fun _=>True) st2
 | .zip a b,ρ,st,Q=>wpE a ρ st fun x st1=>wpE b ρ st1 fun y st2=>∃xs ys,bj st2 x=some xs∧bj st2 y=some ys∧Q (mq xs ys) (fun st'=>iN st2 x st'∧iN st2 y st') st2
 | .zip3 _ _ _,_,_,_=>False
 | .enum a,ρ,st,Q=>wpE a ρ st fun x st1=>∃xs,x=.tup xs∧Q (iO 0 xs) (fun _=>True) st1
 | .chars _,_,_,_=>False
 | .range3 _ _ _,_,_,_=>False
noncomputable def di:Tg→PV→Fr→AH→(Fr→AH→Prop)→Prop
 | .name i,v,ρ,st,Q=>Q (ρ.set i (some v)) st
 | .tup ts,v,ρ,st,Q=>∃xs,v=.tup xs∧xs.length=ts.size∧fv ts xs ρ st Q
 | .ltup ts,v,ρ,st,Q=>∃xs,bK st v=some xs∧xs.length=ts.size∧fv ts xs ρ st Q
 | .sub o i,v,ρ,st,Q=>wpE o ρ st fun x st1=>wpE i ρ st1 fun y st2=>rZ x y v st2 fun st3=>Q ρ st3
noncomputable def fv:Tgs→List PV→Fr→AH→(Fr→AH→Prop)→Prop
 | .nil,vs,ρ,st,Q=>vs=[]∧Q ρ st
 | .cons t ts,vs,ρ,st,Q=>∃v r,vs=v::r∧di t v ρ st fun ρ' st'=>fv ts r ρ' st' Q
end
end
mutual
inductive S where
 | set (t:Tg) (e:E)|par (i j:Nat) (a b:E)|aug (i:Nat) (op:Operator) (e:E)|expr (e:E)|ret (e:E)|retN
 | ifS (c:E) (a b:Ss)|whileS (c:E) (b:Ss)|forS (t:Tg) (it:It) (b:Ss)|pass|brk|cont|bad|set2 (i j:Nat) (e:E)
inductive Ss where
 | nil|cons (s:S) (ss:Ss)
end
structure aS where
 nx:Fr→AH→Prop
 rt:EK
 bk:Fr→AH→Prop:=fun _ _=>False
 ct:Fr→AH→Prop:=fun _ _=>False
noncomputable def rC (chk:AH→Prop) (body:PV→Fr→AH→aS→Prop) (D:aS):List PV→Fr→AH→Prop
 | [],ρ,st=>chk st∧D.nx ρ st
 | x::xs,ρ,st=>chk st∧body x ρ st { nx:=rC chk body D xs,ct:=rC chk body D xs,bk:=D.nx,rt:=D.rt }
noncomputable def eG (c:Fr→AH→BK→Prop) (body:Fr→AH→aS→Prop) (D:aS):Nat→Fr→AH→Prop
 | 0,_,_=>False
 | n+1,ρ,st=>c ρ st fun k st1=>if k=true then body ρ st1 { nx:=eG c body D n,ct:=eG c body D n,bk:=D.nx,rt:=D.rt } else D.nx ρ st1
noncomputable def pD (op:Operator) (x y:PV) (st:AH) (Q:EK):Prop :=
 match op,x,y with
 | .Add,.int i,.int j=>Q (.int (i+j)) st
 | .Sub,.int i,.int j=>Q (.int (i-j)) st
 | .Add,.ref n,.ref k=>∃xs ys,st[n]?=some (.lst xs)∧st[k]?=some (.lst ys)∧xs.length+ys.length≤100000∧Q (.ref n) (st.set n (.lst (xs++ys)))
 | _,_,_=>False
section
variable (Γ:Nat→FSp)
mutual
noncomputable def wpS:S→Fr→AH→aS→Prop
 | .set t e,ρ,st,D=>wpE Γ e ρ st fun v st1=>di Γ t v ρ st1 D.nx
 | .par i j a b,ρ,st,D=>wpE Γ a ρ st fun x st1=>wpE Γ b ρ st1 fun y st2=>D.nx ((ρ.set i (some x)).set j (some y)) st2
 | .aug i op e,ρ,st,D=>∃x,ρ[i]?=some (some x)∧wpE Γ e ρ st fun y st1=>pD op x y st1 fun z st2=>D.nx (ρ.set i (some z)) st2
 | .expr e,ρ,st,D=>wpE Γ e ρ st fun _ st1=>D.nx ρ st1
 | .ret e,ρ,st,D=>wpE Γ e ρ st D.rt
 | .retN,_,st,D=>D.rt .non st
 | .ifS c a b,ρ,st,D=>wpT Γ c ρ st fun k st1=>if k=true then aq a ρ st1 D else aq b ρ st1 D
 | .whileS c b,ρ,st,D=>∃n,eG (wpT Γ c) (aq b) D n ρ st
 | .forS t it b,ρ,st,D=>jr Γ it ρ st fun xs chk st1=>rC chk (fun x ρ' st' D'=>di Γ t x ρ' st' fun ρ2 st2=>aq b ρ2 st2 D') D xs ρ st1
 | .pass,ρ,st,D=>D.nx ρ st
 | .brk,ρ,st,D=>D.bk ρ st
 | .cont,ρ,st,D=>D.ct ρ st
 | .bad,_,_,_=>False
 | .set2 i j e,ρ,st,D=>wpE Γ e ρ st fun v st1=>D.nx ((ρ.set i (some v)).set j (some v)) st1
noncomputable def aq:Ss→Fr→AH→aS→Prop
 | .nil,ρ,st,D=>D.nx ρ st
 | .cons s ss,ρ,st,D=>wpS s ρ st { D with nx:=fun ρ' st'=>aq ss ρ' st' D }
end
end
section
variable {Γ:Nat→FSp} {ρ:Fr} {st:AH} {Q:EK} {D:aS} {a b c:E} {es:Es}
theorem gf:aq Γ .nil ρ st D=D.nx ρ st:=rfl
theorem fW {s:S}:aq Γ (.cons s .nil) ρ st D=wpS Γ s ρ st D:=rfl
theorem jb {t:Tg}:wpS Γ (.set t a) ρ st D=wpE Γ a ρ st fun v st1=>di Γ t v ρ st1 D.nx:=rfl
theorem jT {i j:Nat}:wpS Γ (.par i j a b) ρ st D=wpE Γ a ρ st fun x st1=>wpE Γ b ρ st1 fun y st2=>D.nx ((ρ.set i (some x)).set j (some y)) st2:=rfl
theorem lg {i:Nat} {op:Operator}:wpS Γ (.aug i op a) ρ st D=∃x,ρ[i]?=some (some x)∧wpE Γ a ρ st fun y st1=>pD op x y st1 fun z st2=>D.nx (ρ.set i (some z)) st2:=rfl
theorem gE:wpS Γ (.expr a) ρ st D=wpE Γ a ρ st fun _ st1=>D.nx ρ st1:=rfl
theorem lI:wpS Γ (.ret a) ρ st D=wpE Γ a ρ st fun v st1=>D.rt v st1:=rfl
theorem gc:wpS Γ .retN ρ st D=D.rt .non st:=rfl
theorem oH {x y:Ss}:wpS Γ (.ifS c x y) ρ st D=wpT Γ c ρ st fun k st1=>if k=true then aq Γ x ρ st1 D else aq Γ y ρ st1 D:=rfl
theorem gH:wpS Γ .pass ρ st D=D.nx ρ st:=rfl
theorem fV {i j:Nat}:wpS Γ (.set2 i j a) ρ st D=wpE Γ a ρ st fun v st1=>D.nx ((ρ.set i (some v)).set j (some v)) st1:=rfl
theorem j7:wpS Γ .brk ρ st D=D.bk ρ st:=rfl
theorem fQ:wpS Γ .cont ρ st D=D.ct ρ st:=rfl
theorem jU {i:Nat}:wpE Γ (.var i) ρ st Q=∃v,ρ[i]?=some (some v)∧Q v st:=rfl
theorem kH {i:Int}:wpE Γ (.int i) ρ st Q=Q (.int i) st:=rfl
theorem qz {i:Bool}:wpE Γ (.bl i) ρ st Q=Q (.bl i) st:=rfl
theorem kP:wpE Γ .non ρ st Q=Q .non st:=rfl
theorem lE {i:Str}:wpE Γ (.str i) ρ st Q=Q (.str i) st:=rfl
theorem r_ {x:Str} {v:PV}:wpE Γ (.gv x v) ρ st Q=Q v st:=rfl
theorem lK:wpE Γ (.tup es) ρ st Q=cJ Γ es ρ st fun vs st1=>vs.length≤100000∧Q (.tup vs) st1:=rfl
theorem jL:wpE Γ (.lst es) ρ st Q=cJ Γ es ρ st fun vs st1=>vs.length≤100000∧Q (.ref st1.length) (st1++[.lst vs]):=rfl
theorem jK {op:Operator}:wpE Γ (.bin op a b) ρ st Q=wpE Γ a ρ st fun x st1=>wpE Γ b ρ st1 fun y st2=>i6 op x y st2 Q:=rfl
theorem ki:wpE Γ (.neg a) ρ st Q=wpE Γ a ρ st fun x st1=>∃i,x=.int i∧Q (.int (-i)) st1:=rfl
theorem lv:wpE Γ (.not a) ρ st Q=wpE Γ a ρ st fun x st1=>∃c,x=.bl c∧Q (.bl (!c)) st1:=rfl
theorem kT {op:CmpOp}:wpE Γ (.cmp op a b) ρ st Q=wpE Γ a ρ st fun x st1=>wpE Γ b ρ st1 fun y st2=>dE op x y st2 Q:=rfl
theorem lA:wpE Γ (.bop true es) ρ st Q=sH Γ es ρ st Q:=rfl
theorem rW:wpE Γ (.bop false es) ρ st Q=rM Γ es ρ st Q:=rfl
theorem jH:wpE Γ (.ite c a b) ρ st Q=wpT Γ c ρ st fun k st1=>if k=true then wpE Γ a ρ st1 Q else wpE Γ b ρ st1 Q:=rfl
theorem qF:wpE Γ (.ix a b) ρ st Q=wpE Γ a ρ st fun x st1=>wpE Γ b ρ st1 fun y st2=>ixW x y st2 Q:=rfl
theorem rP {lo hi:O}:wpE Γ (.sl a lo hi) ρ st Q=wpE Γ a ρ st fun x st1=>wpO Γ lo ρ st1 fun l st2=>wpO Γ hi ρ st2 fun h st3=>slW x l h st3 Q:=rfl
theorem gj {f:Nat}:wpE Γ (.call f es) ρ st Q=cJ Γ es ρ st fun vs st1=>Γ f vs st1 Q:=rfl
theorem ku {f:B}:wpE Γ (.blt f es) ρ st Q=cJ Γ es ρ st fun vs st1=>fA f vs st1 Q:=rfl
theorem gG {t:String}:wpE Γ (.inst a t) ρ st Q=wpE Γ a ρ st fun x st1=>∃n,eD st1 x=some n∧Q (.bl (iz t n)) st1:=rfl
theorem jF {m:M}:wpE Γ (.met m a es) ρ st Q=wpE Γ a ρ st fun x st1=>(∃xs,bK st1 x=some xs)∧cJ Γ es ρ st1 fun vs st2=>sr m x vs st2 Q:=rfl
theorem gQ:wpE Γ (.sset a) ρ st Q=wpE Γ a ρ st fun x st1=>∃n,x=.ref n∧∃ns:List Int,st1[n]?=some (.lst (ns.map PV.int))∧ns.length<60∧∀ns':List Int,ns'.Pairwise (·< ·)→(∀i,i∈ns'↔i∈ns)→ns'.length≤ns.length→Q (.ref st1.length) (st1++[.lst (ns'.map PV.int)]):=rfl
theorem lB:wpE Γ (.tmp a) ρ st Q=wpE Γ a ρ st fun v st1=>Tmp st Q v st1:=rfl
variable {LQ:LK} {BQ:BK} {e e2:E} {i:Nat} {v:PV} {FQ:Fr→AH→Prop} {IQ:List PV→(AH→Prop)→AH→Prop}
theorem fO:cJ Γ .nil ρ st LQ=LQ [] st:=rfl
theorem d0:cJ Γ (.cons e es) ρ st LQ=wpE Γ e ρ st fun x st1=>cJ Γ es ρ st1 fun xs st2=>LQ (x::xs) st2:=rfl
theorem qY {OQ:Option Int→AH→Prop}:wpO Γ .no ρ st OQ=OQ none st:=rfl
theorem ls {OQ:Option Int→AH→Prop}:wpO Γ (.yes e) ρ st OQ=wpE Γ e ρ st fun x st1=>∃i,x=.int i∧OQ (some i) st1:=rfl
theorem lC:wpT Γ (.bop true es) ρ st BQ=iq Γ es ρ st BQ:=rfl
theorem qJ:wpT Γ (.bop false es) ρ st BQ=rQ Γ es ρ st BQ:=rfl
theorem kn:wpT Γ (.not a) ρ st BQ=wpT Γ a ρ st fun c st1=>BQ (!c) st1:=rfl
theorem k_ {op:CmpOp}:wpT Γ (.cmp op a b) ρ st BQ=wpE Γ a ρ st fun x st1=>wpE Γ b ρ st1 fun y st2=>dE op x y st2 fun v st3=>∃c,v=.bl c∧BQ c st3:=rfl
theorem kb:wpT Γ (.var i) ρ st BQ=∃v,ρ[i]?=some (some v)∧e_ v st BQ:=rfl
theorem gz {f:Nat}:wpT Γ (.call f es) ρ st BQ=cJ Γ es ρ st fun vs st1=>Γ f vs st1 fun v st2=>e_ v st2 BQ:=rfl
theorem jY {f:B}:wpT Γ (.blt f es) ρ st BQ=cJ Γ es ρ st fun vs st1=>fA f vs st1 fun v st2=>e_ v st2 BQ:=rfl
theorem f' {t:String}:wpT Γ (.inst a t) ρ st BQ=wpE Γ a ρ st fun x st1=>∃n,eD st1 x=some n∧BQ (iz t n) st1:=rfl
theorem kw:wpT Γ (.tmp a) ρ st BQ=wpE Γ a ρ st fun v st1=>Tmp st (fun v st1=>e_ v st1 BQ) v st1:=rfl
theorem sL:wpT Γ (.ix a b) ρ st BQ=wpE Γ a ρ st fun x st1=>wpE Γ b ρ st1 fun y st2=>ixW x y st2 fun v st3=>e_ v st3 BQ:=rfl
theorem gJ:sH Γ (.cons e .nil) ρ st Q=wpE Γ e ρ st Q:=rfl
theorem d7:sH Γ (.cons e (.cons e2 es)) ρ st Q=wpE Γ e ρ st fun x st1=>∃c,x=.bl c∧if c=true then sH Γ (.cons e2 es) ρ st1 Q else Q (.bl false) st1:=rfl
theorem ga:rM Γ (.cons e .nil) ρ st Q=wpE Γ e ρ st Q:=rfl
theorem dW:rM Γ (.cons e (.cons e2 es)) ρ st Q=wpE Γ e ρ st fun x st1=>∃c,x=.bl c∧if c=true then Q (.bl true) st1 else rM Γ (.cons e2 es) ρ st1 Q:=rfl
theorem fe:iq Γ .nil ρ st BQ=BQ true st:=rfl
theorem gW:iq Γ (.cons e .nil) ρ st BQ=wpT Γ e ρ st BQ:=rfl
theorem d8:iq Γ (.cons e (.cons e2 es)) ρ st BQ=wpT Γ e ρ st fun c st1=>if c=true then iq Γ (.cons e2 es) ρ st1 BQ else BQ false st1:=rfl
theorem gi:rQ Γ (.cons e .nil) ρ st BQ=wpT Γ e ρ st BQ:=rfl
theorem dP:rQ Γ (.cons e (.cons e2 es)) ρ st BQ=wpT Γ e ρ st fun c st1=>if c=true then BQ true st1 else rQ Γ (.cons e2 es) ρ st1 BQ:=rfl
theorem gP:jr Γ (.seq e) ρ st IQ=wpE Γ e ρ st fun x st1=>∃xs,bj st1 x=some xs∧IQ xs (iN st1 x) st1:=rfl
theorem jM:jr Γ (.range1 a) ρ st IQ=wpE Γ a ρ st fun x st1=>∃j,x=.int j∧-(2 ^ 62)≤j∧j<2 ^ 62∧IQ (df 0 j.toNat) (fun _=>True) st1:=rfl
theorem jO:jr Γ (.range2 a b) ρ st IQ=wpE Γ a ρ st fun x st1=>wpE Γ b ρ st1 fun y st2=>∃i j,x=.int i∧y=.int j∧(-(2 ^ 62)≤i∧i<2 ^ 62∧-(2 ^ 62)≤j∧j<2 ^ 62)∧IQ (df i (j-i).toNat) (fun _=>True) st2:=rfl
theorem gh:jr Γ (.zip a b) ρ st IQ=wpE Γ a ρ st fun x st1=>wpE Γ b ρ st1 fun y st2=>∃xs ys,bj st2 x=some xs∧bj st2 y=some ys∧IQ (mq xs ys) (fun st'=>iN st2 x st'∧iN st2 y st') st2:=rfl
theorem dS:jr Γ (.enum a) ρ st IQ=wpE Γ a ρ st fun x st1=>∃xs,x=.tup xs∧IQ (iO 0 xs) (fun _=>True) st1:=rfl
theorem bZ:di Γ (.name i) v ρ st FQ=FQ (ρ.set i (some v)) st:=rfl
theorem dJ {ts:Tgs}:di Γ (.tup ts) v ρ st FQ=∃xs,v=.tup xs∧xs.length=ts.size∧fv Γ ts xs ρ st FQ:=rfl
theorem cA {ts:Tgs}:di Γ (.ltup ts) v ρ st FQ=∃xs,bK st v=some xs∧xs.length=ts.size∧fv Γ ts xs ρ st FQ:=rfl
theorem dG:di Γ (.sub a b) v ρ st FQ=wpE Γ a ρ st fun x st1=>wpE Γ b ρ st1 fun y st2=>rZ x y v st2 fun st3=>FQ ρ st3:=rfl
theorem dY {vs:List PV}:fv Γ .nil vs ρ st FQ=(vs=[]∧FQ ρ st):=rfl
theorem cY {t:Tg} {ts:Tgs} {vs:List PV}:fv Γ (.cons t ts) vs ρ st FQ=∃v r,vs=v::r∧di Γ t v ρ st fun ρ' st'=>fv Γ ts r ρ' st' FQ:=rfl
theorem gS:Tgs.size .nil=0:=id rfl
theorem ef {t:Tg} {ts:Tgs}:Tgs.size (.cons t ts)=ts.size+1:=id rfl
end
end FW
set_option Elab.async false
set_option linter.all false
set_option maxRecDepth 100000
namespace FW
open PySem L2 HX
theorem ui {st:AH} {x y:PV} {k k':Bool→Prop} (h:∀b,k b→k' b) (q:eqW st x y k):eqW st x y k':=by
 unfold eqW at q ⊢
 split at q
 ·exact h _ q
 ·exact h _ q
 ·exact h _ q
 ·obtain ⟨d,e,h1,h2,h3,h4,q⟩:=q
  exact ⟨d,e,h1,h2,h3,h4,h _ q⟩
theorem qa {op:Operator} {x y:PV} {st:AH} {Q Q':EK} (h:∀v st,Q v st→Q' v st) (q:i6 op x y st Q):i6 op x y st Q':=by
 cases op with
 | Add =>
  cases x with
  | int i =>
   cases y with
   | int j=>exact h _ _ q
   | _=>exact False.elim q
  | ref n =>
   cases y with
   | ref k=>obtain ⟨xs,ys,h1,h2,h3,q⟩:=q;exact ⟨xs,ys,h1,h2,h3,h _ _ q⟩
   | _=>exact False.elim q
  | tup xs =>
   cases y with
   | tup ys=>exact ⟨q.1,h _ _ q.2⟩
   | _=>exact False.elim q
  | str a =>
   cases y with
   | str b=>exact ⟨q.1,h _ _ q.2⟩
   | _=>exact False.elim q
  | _=>exact False.elim q
 | Mult =>
  cases x with
  | int i =>
   cases y with
   | int j=>exact ⟨q.1,h _ _ q.2⟩
   | _=>exact False.elim q
  | ref n =>
   cases y with
   | int k=>obtain ⟨xs,h1,h2,h3,h4,q⟩:=q;exact ⟨xs,h1,h2,h3,h4,h _ _ q⟩
   | _=>exact False.elim q
  | _=>exact False.elim q
 | Sub=>obtain ⟨i,j,rfl,rfl,q⟩:=bH q;exact h _ _ q
 | FloorDiv=>obtain ⟨i,j,rfl,rfl,q⟩:=bH q;exact ⟨q.1,h _ _ q.2⟩
 | Mod=>obtain ⟨i,j,rfl,rfl,q⟩:=bH q;exact ⟨q.1,h _ _ q.2⟩
 | Pow=>obtain ⟨i,j,rfl,rfl,q⟩:=bH q;exact ⟨q.1,h _ _ q.2⟩
 | _=>exact False.elim q
theorem t8 {a:Str} {n:Nat} {st:AH} {k k':Bool→Prop} (h:∀b,k b→k' b) (q:inR a n st k):inR a n st k':=by
 rcases q with ⟨ns,e,q⟩|⟨kvs,e,q⟩
 ·exact .inl ⟨ns,e,h _ q⟩
 ·exact .inr ⟨kvs,e,h _ q⟩
theorem i4 {op:CmpOp} {x y:PV} {st:AH} {Q Q':EK} (h:∀v st,Q v st→Q' v st) (q:dE op x y st Q):dE op x y st Q':=by
 unfold dE at q ⊢
 split at q
 ·exact ui (fun _=>h _ _) q
 ·exact ui (fun _=>h _ _) q
 ·split at q <;> first|exact h _ _ q|exact q
 ·split at q <;> first|exact h _ _ q|exact q
 ·split at q <;> first|exact h _ _ q|exact q
 ·split at q <;> first|exact h _ _ q|exact q
 ·split at q <;> first|exact h _ _ q|exact q
 ·split at q <;> first|exact h _ _ q|exact q
 ·split at q <;> first|exact h _ _ q|(obtain ⟨ns,e,q⟩:=q;exact ⟨ns,e,h _ _ q⟩)|exact t8 (fun _=>h _ _) q|exact q
 ·split at q <;> first|(obtain ⟨ns,e,q⟩:=q;exact ⟨ns,e,h _ _ q⟩)|exact t8 (fun _=>h _ _) q|exact q
theorem jZ {x y:PV} {st:AH} {Q Q':EK} (h:∀v st,Q v st→Q' v st) (q:ixW x y st Q):ixW x y st Q':=by
 cases y with
 | int i =>
  rcases we q with ⟨z,c,rfl,h1,h2,q⟩|⟨xs,v,h1,h2,q⟩
  ·exact ⟨h1,c,h2,h _ _ q⟩
  ·exact zH h1 h2 (h _ _ q)
 | str z=>obtain ⟨n,kvs,v,rfl,h1,h2,q⟩:=vP q;exact ⟨kvs,v,h1,h2,h _ _ q⟩
 | _=>exact q
theorem uB {x:PV} {lo hi:Option Int} {st:AH} {Q Q':EK} (h:∀v st,Q v st→Q' v st) (q:slW x lo hi st Q):slW x lo hi st Q':=by
 cases x with
 | tup xs=>exact h _ _ q
 | str z=>exact ⟨q.1,h _ _ q.2⟩
 | _=>obtain ⟨xs,e,q⟩:=q;exact ⟨xs,e,h _ _ q⟩
theorem iY {b:B} {vs:List PV} {st:AH} {Q Q':EK} (h:∀v st,Q v st→Q' v st) (q:fA b vs st Q):fA b vs st Q':=by
 cases b with
 | len =>
  obtain ⟨x,rfl,q⟩:=dA q
  rcases sQ q with ⟨z,rfl,h1,q⟩|⟨xs,e,q⟩
  ·exact ⟨h1,h _ _ q⟩
  ·exact yT e (h _ _ q)
 | max2=>obtain ⟨x,y,rfl,q⟩:=dC q;obtain ⟨i,j,rfl,rfl,q⟩:=bH q;exact h _ _ q
 | min2=>obtain ⟨x,y,rfl,q⟩:=dC q;obtain ⟨i,j,rfl,rfl,q⟩:=bH q;exact h _ _ q
 | divmod=>obtain ⟨x,y,rfl,q⟩:=dC q;obtain ⟨i,j,rfl,rfl,q⟩:=bH q;exact ⟨q.1,h _ _ q.2⟩
 | int1=>exact False.elim q
 | str1=>exact False.elim q
 | tuple1=>obtain ⟨x,rfl,xs,h1,q⟩:=dA q;exact ⟨xs,h1,h _ _ q⟩
 | list1=>exact False.elim q
 | all1=>exact False.elim q
 | any1=>exact False.elim q
 | abs1=>obtain ⟨x,rfl,q⟩:=dA q;obtain ⟨i,rfl,q⟩:=m5 q;exact h _ _ q
 | sorted1=>exact False.elim q
 | repr1=>exact False.elim q
theorem iU {m:M} {x:PV} {vs:List PV} {st:AH} {Q Q':EK} (h:∀v st,Q v st→Q' v st) (q:sr m x vs st Q):sr m x vs st Q':=by
 cases m with
 | append=>obtain ⟨n,rfl,q⟩:=iZ q;obtain ⟨v,rfl,xs,h1,h2,q⟩:=dA q;exact ⟨xs,h1,h2,h _ _ q⟩
 | pop0=>obtain ⟨n,rfl,q⟩:=iZ q;obtain ⟨rfl,xs,v,h1,h2,q⟩:=pQ q;exact ⟨xs,v,h1,h2,h _ _ q⟩
 | extend=>exact False.elim q
 | insert=>obtain ⟨n,rfl,q⟩:=iZ q;obtain ⟨i,v,rfl,q⟩:=dC q;obtain ⟨k,rfl,xs,h1,h2,h3,h4,q⟩:=m5 q;exact ⟨xs,h1,h2,h3,h4,h _ _ q⟩
 | count=>exact False.elim q
theorem bF {x:PV} {st:AH} {Q Q':BK} (h:∀v st,Q v st→Q' v st) (q:e_ x st Q):e_ x st Q':=by
 unfold e_ at q ⊢
 split at q <;> first
  | exact h _ _ q
  | exact q.elim
  | (obtain ⟨xs,h1,q⟩:=q;exact ⟨xs,h1,h _ _ q⟩)
theorem pE {o i v:PV} {st:AH} {k k':AH→Prop} (h:∀st,k st→k' st) (q:rZ o i v st k):rZ o i v st k':=by
 unfold rZ at q ⊢
 split at q
 ·obtain ⟨xs,h1,j,h2,q⟩:=q
  exact ⟨xs,h1,j,h2,h _ q⟩
 ·obtain ⟨xs,h1,h2,q⟩:=q
  exact ⟨xs,h1,h2,h _ q⟩
 ·exact q
theorem uo {st0:AH} {Q Q':EK} (h:∀v st,Q v st→Q' v st) {v:PV} {st:AH} (q:Tmp st0 Q v st):Tmp st0 Q' v st:=by
 obtain ⟨st1,g,h1,h2,h3,h4,q⟩:=q
 exact ⟨st1,g,h1,h2,h3,h4,h _ _ q⟩
theorem gy {chk:AH→Prop} {body body':PV→AH→(Option PV→AH→Prop)→Prop} (hb:∀x st k k',(∀o st,k o st→k' o st)→body x st k→body' x st k') :
  ∀ {xs acc:List PV} {st:AH} {Q Q':LK},(∀v st,Q v st→Q' v st)→eE chk body xs acc st Q→eE chk body' xs acc st Q'
 | [],acc,st,Q,Q',h,q=>⟨q.1,h _ _ q.2⟩
 | x::xs,acc,st,Q,Q',h,q=>⟨q.1,hb _ _ _ _ (fun o st' z=>gy hb h z) q.2⟩
section
variable {Γ:Nat→FSp}
noncomputable def bq (Γ:Nat→FSp):Prop:=∀f vs st Q Q',(∀v st,Q v st→Q' v st)→Γ f vs st Q→Γ f vs st Q'
mutual
theorem ab (G:bq Γ):∀(e:E) {ρ:Fr} {st:AH} {Q Q':EK},(∀v st,Q v st→Q' v st)→wpE Γ e ρ st Q→wpE Γ e ρ st Q'
 | .var i,ρ,st,Q,Q',h,q=>by
  skip
  obtain ⟨v,h1,q⟩:=q
  exact ⟨v,h1,h _ _ q⟩
 | .int i,ρ,st,Q,Q',h,q=>by exact h _ _ q
 | .bl i,ρ,st,Q,Q',h,q=>by exact h _ _ q
 | .non,ρ,st,Q,Q',h,q=>by exact h _ _ q
 | .str i,ρ,st,Q,Q',h,q=>by exact h _ _ q
 | .gv _ i,ρ,st,Q,Q',h,q=>by exact h _ _ q
 | .tup es,ρ,st,Q,Q',h,q=>by exact aw G es (fun vs st1 z=>⟨z.1,h _ _ z.2⟩) q
 | .lst es,ρ,st,Q,Q',h,q=>by exact aw G es (fun vs st1 z=>⟨z.1,h _ _ z.2⟩) q
 | .dct0,ρ,st,Q,Q',h,q=>False.elim q
 | .bad,ρ,st,Q,Q',h,q=>False.elim q
 | .jrev _,ρ,st,Q,Q',h,q=>False.elim q
 | .sset a,ρ,st,Q,Q',h,q=>by
  refine ab G a (fun x st1 z=>?_) q
  obtain ⟨n,e,ns,h1,h2,z⟩:=z
  exact ⟨n,e,ns,h1,h2,fun ns' p1 p2 p3=>h _ _ (z ns' p1 p2 p3)⟩
 | .part _ _,ρ,st,Q,Q',h,q=>False.elim q
 | .pcall _ _,ρ,st,Q,Q',h,q=>False.elim q
 | .hm _ _ _,ρ,st,Q,Q',h,q=>False.elim q
 | .dct1 _ _,ρ,st,Q,Q',h,q=>False.elim q
 | .bin op a b,ρ,st,Q,Q',h,q=>by exact ab G a (fun x st1 z=>ab G b (fun y st2 z=>qa h z) z) q
 | .neg a,ρ,st,Q,Q',h,q=>by
  skip
  refine ab G a (fun x st1 z=>?_) q
  obtain ⟨i,e,z⟩:=z
  exact ⟨i,e,h _ _ z⟩
 | .not a,ρ,st,Q,Q',h,q=>by
  skip
  refine ab G a (fun x st1 z=>?_) q
  obtain ⟨i,e,z⟩:=z
  exact ⟨i,e,h _ _ z⟩
 | .cmp op a b,ρ,st,Q,Q',h,q=>by exact ab G a (fun x st1 z=>ab G b (fun y st2 z=>i4 h z) z) q
 | .bop true es,ρ,st,Q,Q',h,q=>by exact mo G es h q
 | .bop false es,ρ,st,Q,Q',h,q=>by exact mn G es h q
 | .ite c a b,ρ,st,Q,Q',h,q=>by
  skip
  refine aB G c (fun k st1 z=>?_) q
  cases k with
  | true=>rw [if_pos rfl] at z ⊢;exact ab G a h z
  | false=>rw [if_neg Bool.false_ne_true] at z ⊢;exact ab G b h z
 | .ix a b,ρ,st,Q,Q',h,q=>by exact ab G a (fun x st1 z=>ab G b (fun y st2 z=>jZ h z) z) q
 | .sl a lo hi,ρ,st,Q,Q',h,q=>by exact ab G a (fun x st1 z=>ko G lo (fun l st2 z=>ko G hi (fun u st3 z=>uB h z) z) z) q
 | .call f es,ρ,st,Q,Q',h,q=>by exact aw G es (fun vs st1 z=>G _ _ _ _ _ h z) q
 | .blt b es,ρ,st,Q,Q',h,q=>by exact aw G es (fun vs st1 z=>iY h z) q
 | .inst a t,ρ,st,Q,Q',h,q=>by
  skip
  refine ab G a (fun x st1 z=>?_) q
  obtain ⟨i,e,z⟩:=z
  exact ⟨i,e,h _ _ z⟩
 | .met m o es,ρ,st,Q,Q',h,q=>by exact ab G o (fun x st1 z=>⟨z.1,aw G es (fun vs st2 z=>iU h z) z.2⟩) q
 | .comp elt tg it ifs nt caps,ρ,st,Q,Q',h,q=>by
  skip
  exact fC G it (fun xs chk st1 z=>⟨z.1,gy (fun x st k k' hk w=>aP G tg (fun ρ' st3 w=>bU G ifs (fun c st4 w=>by
   cases c with
   | true=>rw [if_pos rfl] at w ⊢;exact ab G elt (fun v st5 w=>hk _ _ w) w
   | false=>rw [if_neg Bool.false_ne_true] at w ⊢;exact hk _ _ w) w) w) (fun vs st2 w=>h _ _ w) z.2⟩) q
 | .tmp a,ρ,st,Q,Q',h,q=>by exact ab G a (fun v st1 z=>uo h z) q
theorem aw (G:bq Γ):∀(e:Es) {ρ:Fr} {st:AH} {Q Q':LK},(∀v st,Q v st→Q' v st)→cJ Γ e ρ st Q→cJ Γ e ρ st Q'
 | .nil,ρ,st,Q,Q',h,q=>by exact h _ _ q
 | .cons e es,ρ,st,Q,Q',h,q=>by exact ab G e (fun x st1 z=>aw G es (fun xs st2 z=>h _ _ z) z) q
theorem ko (G:bq Γ):∀(e:O) {ρ:Fr} {st:AH} {Q Q':Option Int→AH→Prop},(∀v st,Q v st→Q' v st)→wpO Γ e ρ st Q→wpO Γ e ρ st Q'
 | .no,ρ,st,Q,Q',h,q=>by exact h _ _ q
 | .yes e,ρ,st,Q,Q',h,q=>by
  skip
  refine ab G e (fun x st1 z=>?_) q
  obtain ⟨i,e,z⟩:=z
  exact ⟨i,e,h _ _ z⟩
theorem aB (G:bq Γ):∀(e:E) {ρ:Fr} {st:AH} {Q Q':BK},(∀v st,Q v st→Q' v st)→wpT Γ e ρ st Q→wpT Γ e ρ st Q'
 | .bop true es,ρ,st,Q,Q',h,q=>by exact bU G es h q
 | .bop false es,ρ,st,Q,Q',h,q=>by exact lZ G es h q
 | .not a,ρ,st,Q,Q',h,q=>by exact aB G a (fun c st1 z=>h _ _ z) q
 | .cmp op a b,ρ,st,Q,Q',h,q=>by
  skip
  exact ab G a (fun x st1 z=>ab G b (fun y st2 z=>i4 (fun v st3 w=>by obtain ⟨c,e,w⟩:=w;exact ⟨c,e,h _ _ w⟩) z) z) q
 | .var i,ρ,st,Q,Q',h,q=>by
  skip
  obtain ⟨v,h1,q⟩:=q
  exact ⟨v,h1,bF h q⟩
 | .call f es,ρ,st,Q,Q',h,q=>by exact aw G es (fun vs st1 z=>G _ _ _ _ _ (fun v st2 z=>bF h z) z) q
 | .blt b es,ρ,st,Q,Q',h,q=>by exact aw G es (fun vs st1 z=>iY (fun v st2 z=>bF h z) z) q
 | .inst a t,ρ,st,Q,Q',h,q=>by
  skip
  refine ab G a (fun x st1 z=>?_) q
  obtain ⟨i,e,z⟩:=z
  exact ⟨i,e,h _ _ z⟩
 | .tmp a,ρ,st,Q,Q',h,q=>by exact ab G a (fun v st1 z=>uo (fun v st2 z=>bF h z) z) q
 | .ix a b,ρ,st,Q,Q',h,q=>by exact ab G a (fun x st1 z=>ab G b (fun y st2 z=>jZ (fun v st3 z=>bF h z) z) z) q
 | .pcall _ _,ρ,st,Q,Q',h,q=>False.elim q
 | .hm _ _ _,ρ,st,Q,Q',h,q=>False.elim q
 | .int _,ρ,st,Q,Q',h,q=>False.elim q
 | .bl _,ρ,st,Q,Q',h,q=>False.elim q
 | .non,ρ,st,Q,Q',h,q=>False.elim q
 | .str _,ρ,st,Q,Q',h,q=>False.elim q
 | .gv _ _,ρ,st,Q,Q',h,q=>False.elim q
 | .tup _,ρ,st,Q,Q',h,q=>False.elim q
 | .lst _,ρ,st,Q,Q',h,q=>False.elim q
 | .dct0,ρ,st,Q,Q',h,q=>False.elim q
 | .bad,ρ,st,Q,Q',h,q=>False.elim q
 | .jrev _,ρ,st,Q,Q',h,q=>False.elim q
 | .sset _,ρ,st,Q,Q',h,q=>False.elim q
 | .part _ _,ρ,st,Q,Q',h,q=>False.elim q
 | .dct1 _ _,ρ,st,Q,Q',h,q=>False.elim q
 | .bin _ _ _,ρ,st,Q,Q',h,q=>False.elim q
 | .neg _,ρ,st,Q,Q',h,q=>False.elim q
 | .ite _ _ _,ρ,st,Q,Q',h,q=>False.elim q
 | .sl _ _ _,ρ,st,Q,Q',h,q=>False.elim q
 | .met _ _ _,ρ,st,Q,Q',h,q=>False.elim q
 | .comp _ _ _ _ _ _,ρ,st,Q,Q',h,q=>False.elim q
theorem mo (G:bq Γ):∀(e:Es) {ρ:Fr} {st:AH} {Q Q':EK},(∀v st,Q v st→Q' v st)→sH Γ e ρ st Q→sH Γ e ρ st Q'
 | .nil,ρ,st,Q,Q',h,q=>False.elim q
 | .cons e .nil,ρ,st,Q,Q',h,q=>by exact ab G e h q
 | .cons e (.cons e2 es),ρ,st,Q,Q',h,q=>by
  skip
  refine ab G e (fun x st1 z=>?_) q
  obtain ⟨c,e,z⟩:=z
  refine ⟨c,e,?_⟩
  cases c with
  | true=>rw [if_pos rfl] at z ⊢;exact mo G (.cons e2 es) h z
  | false=>rw [if_neg Bool.false_ne_true] at z ⊢;exact h _ _ z
theorem mn (G:bq Γ):∀(e:Es) {ρ:Fr} {st:AH} {Q Q':EK},(∀v st,Q v st→Q' v st)→rM Γ e ρ st Q→rM Γ e ρ st Q'
 | .nil,ρ,st,Q,Q',h,q=>False.elim q
 | .cons e .nil,ρ,st,Q,Q',h,q=>by exact ab G e h q
 | .cons e (.cons e2 es),ρ,st,Q,Q',h,q=>by
  skip
  refine ab G e (fun x st1 z=>?_) q
  obtain ⟨c,e,z⟩:=z
  refine ⟨c,e,?_⟩
  cases c with
  | true=>rw [if_pos rfl] at z ⊢;exact h _ _ z
  | false=>rw [if_neg Bool.false_ne_true] at z ⊢;exact mn G (.cons e2 es) h z
theorem bU (G:bq Γ):∀(e:Es) {ρ:Fr} {st:AH} {Q Q':BK},(∀v st,Q v st→Q' v st)→iq Γ e ρ st Q→iq Γ e ρ st Q'
 | .nil,ρ,st,Q,Q',h,q=>by exact h _ _ q
 | .cons e .nil,ρ,st,Q,Q',h,q=>by exact aB G e h q
 | .cons e (.cons e2 es),ρ,st,Q,Q',h,q=>by
  skip
  refine aB G e (fun c st1 z=>?_) q
  cases c with
  | true=>rw [if_pos rfl] at z ⊢;exact bU G (.cons e2 es) h z
  | false=>rw [if_neg Bool.false_ne_true] at z ⊢;exact h _ _ z
theorem lZ (G:bq Γ):∀(e:Es) {ρ:Fr} {st:AH} {Q Q':BK},(∀v st,Q v st→Q' v st)→rQ Γ e ρ st Q→rQ Γ e ρ st Q'
 | .nil,ρ,st,Q,Q',h,q=>by exact h _ _ q
 | .cons e .nil,ρ,st,Q,Q',h,q=>by exact aB G e h q
 | .cons e (.cons e2 es),ρ,st,Q,Q',h,q=>by
  skip
  refine aB G e (fun c st1 z=>?_) q
  cases c with
  | true=>rw [if_pos rfl] at z ⊢;exact h _ _ z
  | false=>rw [if_neg Bool.false_ne_true] at z ⊢;exact lZ G (.cons e2 es) h z
theorem fC (G:bq Γ):∀(e:It) {ρ:Fr} {st:AH} {Q Q':List PV→(AH→Prop)→AH→Prop},(∀v c st,Q v c st→Q' v c st)→jr Γ e ρ st Q→jr Γ e ρ st Q'
 | .seq a,ρ,st,Q,Q',h,q=>by
  skip
  refine ab G a (fun x st1 z=>?_) q
  obtain ⟨c,e,z⟩:=z
  exact ⟨c,e,h _ _ _ z⟩
 | .range1 a,ρ,st,Q,Q',h,q=>by
  skip
  refine ab G a (fun x st1 z=>?_) q
  obtain ⟨c,e,h1,h2,z⟩:=z
  exact ⟨c,e,h1,h2,h _ _ _ z⟩
 | .range2 a b,ρ,st,Q,Q',h,q=>by
  skip
  refine ab G a (fun x st1 z=>ab G b (fun y st2 z=>?_) z) q
  obtain ⟨i,j,e,e2,h1,z⟩:=z
  exact ⟨i,j,e,e2,h1,h _ _ _ z⟩
 | .zip a b,ρ,st,Q,Q',h,q=>by
  skip
  refine ab G a (fun x st1 z=>ab G b (fun y st2 z=>?_) z) q
  obtain ⟨i,j,e,e2,z⟩:=z
  exact ⟨i,j,e,e2,h _ _ _ z⟩
 | .enum a,ρ,st,Q,Q',h,q=>by
  skip
  refine ab G a (fun x st1 z=>?_) q
  obtain ⟨c,e,z⟩:=z
  exact ⟨c,e,h _ _ _ z⟩
 | .chars _,ρ,st,Q,Q',h,q=>False.elim q
 | .zip3 _ _ _,ρ,st,Q,Q',h,q=>False.elim q
 | .range3 _ _ _,ρ,st,Q,Q',h,q=>False.elim q
theorem aP (G:bq Γ):∀(t:Tg) {v:PV} {ρ:Fr} {st:AH} {Q Q':Fr→AH→Prop},(∀ρ st,Q ρ st→Q' ρ st)→di Γ t v ρ st Q→di Γ t v ρ st Q'
 | .name i,v,ρ,st,Q,Q',h,q=>by exact h _ _ q
 | .tup ts,v,ρ,st,Q,Q',h,q=>by
  skip
  obtain ⟨xs,e,hl,q⟩:=q
  exact ⟨xs,e,hl,eI G ts h q⟩
 | .ltup ts,v,ρ,st,Q,Q',h,q=>by
  skip
  obtain ⟨xs,e,hl,q⟩:=q
  exact ⟨xs,e,hl,eI G ts h q⟩
 | .sub o i,v,ρ,st,Q,Q',h,q=>by exact ab G o (fun x st1 z=>ab G i (fun y st2 z=>pE (fun st3 z=>h _ _ z) z) z) q
theorem eI (G:bq Γ):∀(t:Tgs) {v:List PV} {ρ:Fr} {st:AH} {Q Q':Fr→AH→Prop},(∀ρ st,Q ρ st→Q' ρ st)→fv Γ t v ρ st Q→fv Γ t v ρ st Q'
 | .nil,v,ρ,st,Q,Q',h,q=>by exact ⟨q.1,h _ _ q.2⟩
 | .cons t ts,v,ρ,st,Q,Q',h,q=>by
  skip
  obtain ⟨x,r,e,q⟩:=q
  exact ⟨x,r,e,aP G t (fun ρ' st' z=>eI G ts h z) q⟩
end
structure lF (D D':aS):Prop where
 nx:∀ρ st,D.nx ρ st→D'.nx ρ st
 rt:∀v st,D.rt v st→D'.rt v st
 bk:∀ρ st,D.bk ρ st→D'.bk ρ st
 ct:∀ρ st,D.ct ρ st→D'.ct ρ st
theorem lX {chk:AH→Prop} {body body':PV→Fr→AH→aS→Prop} {D D':aS} (hD:lF D D') (hb:∀x ρ st D D',lF D D'→body x ρ st D→body' x ρ st D') :
  ∀ {xs:List PV} {ρ:Fr} {st:AH},rC chk body D xs ρ st→rC chk body' D' xs ρ st
 | [],ρ,st,q=>⟨q.1,hD.nx _ _ q.2⟩
 | x::xs,ρ,st,q=>by
  refine ⟨q.1,hb _ _ _ _ _ ?_ q.2⟩
  exact ⟨fun _ _ z=>lX hD hb z,hD.rt,hD.nx,fun _ _ z=>lX hD hb z⟩
theorem iA {c:Fr→AH→BK→Prop} {body:Fr→AH→aS→Prop} {D D':aS} (hD:lF D D') (hc:∀ρ st Q Q',(∀b st,Q b st→Q' b st)→c ρ st Q→c ρ st Q')
  (hb:∀ρ st D D',lF D D'→body ρ st D→body ρ st D'):∀ {n:Nat} {ρ:Fr} {st:AH},eG c body D n ρ st→eG c body D' n ρ st
 | 0,ρ,st,q=>q
 | n+1,ρ,st,q=>hc _ _ _ _ (fun b st1 z=>by
  cases b with
  | true =>
   rw [if_pos rfl] at z ⊢
   refine hb _ _ _ _ ?_ z
   exact ⟨fun _ _ z=>iA hD hc hb z,hD.rt,hD.nx,fun _ _ z=>iA hD hc hb z⟩
  | false=>rw [if_neg Bool.false_ne_true] at z ⊢;exact hD.nx _ _ z) q
theorem pY {op:Operator} {x y:PV} {st:AH} {Q Q':EK} (h:∀v st,Q v st→Q' v st) (q:pD op x y st Q):pD op x y st Q':=by
 unfold pD at q ⊢
 split at q
 ·exact h _ _ q
 ·exact h _ _ q
 ·obtain ⟨xs,ys,h1,h2,h3,q⟩:=q
  exact ⟨xs,ys,h1,h2,h3,h _ _ q⟩
 ·exact q
mutual
theorem kY (G:bq Γ):∀(s:S) {ρ:Fr} {st:AH} {D D':aS},lF D D'→wpS Γ s ρ st D→wpS Γ s ρ st D'
 | .set t e,ρ,st,D,D',h,q=>by exact ab G e (fun v st1 z=>aP G t h.nx z) q
 | .par i j a b,ρ,st,D,D',h,q=>by exact ab G a (fun v st1 z=>ab G b (fun w st2 z=>h.nx _ _ z) z) q
 | .aug i op e,ρ,st,D,D',h,q=>by
  skip
  obtain ⟨x,h1,q⟩:=q
  exact ⟨x,h1,ab G e (fun v st1 z=>pY (fun _ _ z=>h.nx _ _ z) z) q⟩
 | .expr e,ρ,st,D,D',h,q=>by exact ab G e (fun v st1 z=>h.nx _ _ z) q
 | .ret e,ρ,st,D,D',h,q=>by exact ab G e h.rt q
 | .retN,ρ,st,D,D',h,q=>by exact h.rt _ _ q
 | .ifS c a b,ρ,st,D,D',h,q=>by
  skip
  refine aB G c (fun k st1 z=>?_) q
  cases k with
  | true=>rw [if_pos rfl] at z ⊢;exact aH G a h z
  | false=>rw [if_neg Bool.false_ne_true] at z ⊢;exact aH G b h z
 | .whileS c b,ρ,st,D,D',h,q=>by
  skip
  obtain ⟨n,q⟩:=q
  refine ⟨n,iA h (c:=wpT Γ c) (body:=aq Γ b) ?_ ?_ q⟩
  ·exact fun _ _ _ _ hk z=>aB G c hk z
  ·exact fun _ _ _ _ hk z=>aH G b hk z
 | .forS t it b,ρ,st,D,D',h,q=>by
  skip
  exact fC G it (fun xs chk st1 z=>lX h (fun x ρ st D D' hd w=>aP G t (fun ρ2 st2 w=>aH G b hd w) w) z) q
 | .pass,ρ,st,D,D',h,q=>by exact h.nx _ _ q
 | .bad,ρ,st,D,D',h,q=>False.elim q
 | .set2 i j e,ρ,st,D,D',h,q=>by exact ab G e (fun v st1 z=>h.nx _ _ z) q
 | .brk,ρ,st,D,D',h,q=>by exact h.bk _ _ q
 | .cont,ρ,st,D,D',h,q=>by exact h.ct _ _ q
theorem aH (G:bq Γ):∀(s:Ss) {ρ:Fr} {st:AH} {D D':aS},lF D D'→aq Γ s ρ st D→aq Γ s ρ st D'
 | .nil,ρ,st,D,D',h,q=>by exact h.nx _ _ q
 | .cons s ss,ρ,st,D,D',h,q=>by
  skip
  refine kY G s ?_ q
  exact ⟨fun _ _ z=>aH G ss h z,h.rt,h.bk,h.ct⟩
end
end
end FW
set_option Elab.async false
set_option linter.all false
set_option maxRecDepth 100000
namespace FW
open PySem PySem.Spec PyProof.Rows L2 HX
noncomputable def RdF (K:PySem.W.Frag) (H:Hp) (a:Addr) (ys:List V):Prop :=
 (∃o,H a=some (.frz o (.lst ys)))∨∃(o:Obj) (its:Array Value) (n:Nat),K.lookup a=some o∧o.cls=.type "list"∧o.dict=none∧o.data=.seq its n∧its.size≤sizeLine∧Vals ys its.toList
theorem RdF.sq {K:PySem.W.Frag} {H:Hp} {a:Addr} {ys:List V} (h:RdF K H a ys):SqL K H a ys:=by
 rcases h with h|h
 ·exact .inl (.inr h)
 ·exact .inr h
mutual
noncomputable def R (K:PySem.W.Frag) (m:List Addr) (H:Hp):PV→V→Prop
 | .non,v=>v=.non
 | .bl b,v=>v=.bl b
 | .int i,v=>v=.int i
 | .str x,v=>v=.str x
 | .ref n,v=>∃a,m[n]?=some a∧v=.ref a
 | .tup xs,v=>∃a ys,v=.ref a∧SqT K H a ys∧Rs K m H xs ys
 | .rdl xs,v=>∃a ys,v=.ref a∧RdF K H a ys∧Rs K m H xs ys
 | .fn a,v=>v=.ref a
noncomputable def Rs (K:PySem.W.Frag) (m:List Addr) (H:Hp):List PV→List V→Prop
 | [],ys=>ys=[]
 | x::xs,ys=>∃y r,ys=y::r∧R K m H x y∧Rs K m H xs r
end
section
variable {K:PySem.W.Frag} {m m':List Addr} {H H':Hp} {v:V} {vs:List V}
theorem R_non:R K m H .non v↔v=.non:=by rw [R]
theorem R_bl {b:Bool}:R K m H (.bl b) v↔v=.bl b:=by rw [R]
theorem R_int {b:Int}:R K m H (.int b) v↔v=.int b:=by rw [R]
theorem R_str {b:Str}:R K m H (.str b) v↔v=.str b:=by rw [R]
theorem iG {n:Nat}:R K m H (.ref n) v↔∃a,m[n]?=some a∧v=.ref a:=by rw [R]
theorem R_tup {xs:List PV}:R K m H (.tup xs) v↔∃a ys,v=.ref a∧SqT K H a ys∧Rs K m H xs ys:=by rw [R]
theorem eW {xs:List PV}:R K m H (.rdl xs) v↔∃a ys,v=.ref a∧RdF K H a ys∧Rs K m H xs ys:=by rw [R]
theorem wK {a:Nat}:R K m H (.fn a) v↔v=.ref a:=by rw [R]
theorem Rs_nil:Rs K m H [] vs↔vs=[]:=by rw [Rs]
theorem aK {x:PV} {xs:List PV}:Rs K m H (x::xs) vs↔∃y r,vs=y::r∧R K m H x y∧Rs K m H xs r:=by rw [Rs]
theorem Rs_cons' {x:PV} {xs:List PV}:Rs K m H (x::xs) (v::vs)↔R K m H x v∧Rs K m H xs vs:=by
 rw [aK]
 constructor
 ·rintro ⟨_,_,e,h1,h2⟩;cases e;exact ⟨h1,h2⟩
 ·rintro ⟨h1,h2⟩;exact ⟨_,_,rfl,h1,h2⟩
theorem Rs.len:∀ {xs:List PV} {ys:List V},Rs K m H xs ys→xs.length=ys.length
 | [],ys,h=>by rw [Rs_nil] at h;subst h;rfl
 | x::xs,ys,h=>by
  rw [aK] at h
  obtain ⟨y,r,rfl,_,h⟩:=h
  simp [Rs.len h]
theorem Rs.get:∀ {xs:List PV} {ys:List V} {i:Nat} {x:PV},Rs K m H xs ys→xs[i]?=some x→∃y,ys[i]?=some y∧R K m H x y
 | [],ys,i,x,h,e=>by simp at e
 | x::xs,ys,i,z,h,e=>by
  rw [aK] at h
  obtain ⟨y,r,rfl,h1,h⟩:=h
  cases i with
  | zero=>simp at e;subst e;exact ⟨y,rfl,h1⟩
  | succ i =>
   obtain ⟨w,e1,e2⟩:=Rs.get h (by simpa using e)
   exact ⟨w,by simpa using e1,e2⟩
theorem Rs.app:∀ {xs zs:List PV} {ys ws:List V},Rs K m H xs ys→Rs K m H zs ws→Rs K m H (xs++zs) (ys++ws)
 | [],zs,ys,ws,h,h'=>by rw [Rs_nil] at h;subst h;exact h'
 | x::xs,zs,ys,ws,h,h'=>by
  rw [aK] at h
  obtain ⟨y,r,rfl,h1,h⟩:=h
  rw [List.cons_append,aK]
  exact ⟨y,r++ws,rfl,h1,h.app h'⟩
theorem Rs.drop:∀ {xs:List PV} {ys:List V} (n:Nat),Rs K m H xs ys→Rs K m H (xs.drop n) (ys.drop n)
 | xs,ys,0,h=>by simpa using h
 | [],ys,n+1,h=>by rw [Rs_nil] at h;subst h;simp [Rs_nil]
 | x::xs,ys,n+1,h=>by
  rw [aK] at h
  obtain ⟨y,r,rfl,h1,h⟩:=h
  simpa using Rs.drop n h
theorem Rs.take:∀ {xs:List PV} {ys:List V} (n:Nat),Rs K m H xs ys→Rs K m H (xs.take n) (ys.take n)
 | xs,ys,0,h=>by simp [Rs_nil]
 | [],ys,n+1,h=>by rw [Rs_nil] at h;subst h;simp [Rs_nil]
 | x::xs,ys,n+1,h=>by
  rw [aK] at h
  obtain ⟨y,r,rfl,h1,h⟩:=h
  rw [List.take_succ_cons,List.take_succ_cons,Rs_cons']
  exact ⟨h1,Rs.take n h⟩
theorem Rs.set {x:PV} {y:V} (hx:R K m H x y):∀ {xs:List PV} {ys:List V} (n:Nat),Rs K m H xs ys→Rs K m H (xs.set n x) (ys.set n y)
 | [],ys,n,h=>by rw [Rs_nil] at h;subst h;simp [Rs_nil]
 | z::xs,ys,0,h=>by
  rw [aK] at h
  obtain ⟨w,r,rfl,h1,h⟩:=h
  rw [List.set_cons_zero,List.set_cons_zero,Rs_cons']
  exact ⟨hx,h⟩
 | z::xs,ys,n+1,h=>by
  rw [aK] at h
  obtain ⟨w,r,rfl,h1,h⟩:=h
  rw [List.set_cons_succ,List.set_cons_succ,Rs_cons']
  exact ⟨h1,Rs.set hx n h⟩
theorem Rs.cut {xs:List PV} {ys:List V} (h:Rs K m H xs ys) (lo hi:Option Int):Rs K m H (iR xs lo hi) (pC ys lo hi):=by
 unfold iR pC
 rw [h.len]
 exact (h.drop _).take _
theorem Rs.atI {xs:List PV} {ys:List V} {i:Int} {x:PV} (h:Rs K m H xs ys) (e:atI xs i=some x):∃y,L2.atI ys i=some y∧R K m H x y:=by
 unfold L2.atI at e ⊢
 rw [h.len] at e
 cases q:ixN ys.length i with
 | none=>rw [q] at e;cases e
 | some j =>
  rw [q] at e
  obtain ⟨y,e1,e2⟩:=h.get (show xs[j]?=some x from e)
  exact ⟨y,e1,e2⟩
theorem Rs.dropLast {xs:List PV} {ys:List V} (h:Rs K m H xs ys):Rs K m H xs.dropLast ys.dropLast:=by
 rw [List.dropLast_eq_take,List.dropLast_eq_take,h.len]
 exact h.take _
theorem Rs.rep {xs:List PV} {ys:List V} (h:Rs K m H xs ys):∀n:Nat,Rs K m H (List.replicate n xs).flatten (List.replicate n ys).flatten
 | 0=>by simp [Rs_nil]
 | n+1=>by
  rw [List.replicate_succ,List.replicate_succ,List.flatten_cons,List.flatten_cons]
  exact h.app (Rs.rep h n)
theorem Rs.one {x:PV} {y:V} (h:R K m H x y):Rs K m H [x] [y]:=by rw [Rs_cons',Rs_nil];exact ⟨h,rfl⟩
end
noncomputable def aT:List Str:=["coming","latest","through"]
noncomputable def TB (K:PySem.W.Frag) (H:Hp):Prop:=∀x∈aT,∀c T,PySem.W.tabIn K x=some (c,T)→(∀y∈aT,∀d,PySem.W.tabIn K y=some (d,T)→y=x)∧∃ps,H T=some (.tbl ps)∧TriplesOk ps.toList ∧
 ∀pos cv,codeAmong pos ps.toList=some cv→∃c' oc,cv=.ref c'∧H c'=some (.frz oc (.own 0))∧yt oc (x++".<locals>."++"<lambda>")
theorem TB.keep {K:PySem.W.Frag} {H H':Hp} (t:TB K H) (h1:∀a ps,H a=some (.tbl ps)→H' a=some (.tbl ps)) (h2:∀a o,H a=some (.frz o (.own 0))→H' a=some (.frz o (.own 0))):TB K H':=fun x hx c T e=>by
 obtain ⟨e0,ps,e1,e2,e3⟩:=t x hx c T e
 refine ⟨e0,ps,h1 _ _ e1,e2,fun pos cv q=>?_⟩
 obtain ⟨c',oc,g1,g2,g3⟩:=e3 pos cv q
 exact ⟨c',oc,g1,h2 _ _ g2,g3⟩
structure Ext (K:PySem.W.Frag) (m:List Addr) (H:Hp) (m':List Addr) (H':Hp):Prop where
 pre:m <+: m'
 new:∀a∈m',a∈m∨H a=none
 fr:∀a o,a ∉ m→H a=some o→(∀ps,o≠.tbl ps)→H' a=some o
 tup:∀a ys,SqT K H a ys→SqT K H' a ys
 rdf:∀a ys,RdF K H a ys→RdF K H' a ys
 tbs:∀a ps,a ∉ m→H a=some (.tbl ps)→∃ps',H' a=some (.tbl ps')
 tb:TB K H→TB K H'
theorem Ext.refl (K:PySem.W.Frag) (m:List Addr) (H:Hp):Ext K m H m H:=⟨List.prefix_refl _,fun _ h=>.inl h,fun _ _ _ h _=>h,fun _ _ h=>h,fun _ _ h=>h,fun _ ps _ h=>⟨ps,h⟩,fun h=>h⟩
theorem Ext.ne {K:PySem.W.Frag} {m m':List Addr} {H H':Hp} (x:Ext K m H m' H') {a:Addr} {o:HO} (hm:a ∉ m) (e:H a=some o):H' a≠none:=fun z=>by
 by_cases h:∃ps,o=.tbl ps
 ·obtain ⟨ps,rfl⟩:=h
  obtain ⟨q,e2⟩:=x.tbs a ps hm e
  rw [e2] at z;cases z
 ·rw [x.fr a o hm e fun ps q=>h ⟨ps,q⟩] at z;cases z
theorem Ext.trans {K:PySem.W.Frag} {m m1 m2:List Addr} {H H1 H2:Hp} (a:Ext K m H m1 H1) (b:Ext K m1 H1 m2 H2):Ext K m H m2 H2:=by
 have nin:∀c o,c ∉ m→H c=some o→c ∉ m1:=fun c o h e z=>by
  rcases a.new c z with q|q
  ·exact h q
  ·rw [e] at q;cases q
 refine ⟨a.pre.trans b.pre,fun c hc=>?_,fun c o h e n=>b.fr c o (nin c o h e) (a.fr c o h e n) n,fun c ys h=>b.tup c ys (a.tup c ys h),fun c ys h=>b.rdf c ys (a.rdf c ys h),fun c ps h e=>let ⟨p1,e1⟩:=a.tbs c ps h e;b.tbs c p1 (nin c _ h e) e1,fun h=>b.tb (a.tb h)⟩
 rcases b.new c hc with q|q
 ·exact a.new c q
 ·by_cases hm:c∈m
  ·exact .inl hm
  ·cases e:H c with
   | none=>exact .inr rfl
   | some o=>exact absurd q (a.ne hm e)
theorem lH {m m':List Addr} (h:m <+: m') {n:Nat} {a:Addr} (e:m[n]?=some a):m'[n]?=some a:=by
 obtain ⟨t,rfl⟩:=h
 rw [List.getElem?_append_left (List.getElem?_eq_some_iff.mp e).1]
 exact e
mutual
theorem R.mono {K:PySem.W.Frag} {m m':List Addr} {H H':Hp} (x:Ext K m H m' H'):∀ {p:PV} {v:V},R K m H p v→R K m' H' p v
 | .non,v,h=>by rw [R_non] at h ⊢;exact h
 | .bl b,v,h=>by rw [R_bl] at h ⊢;exact h
 | .int b,v,h=>by rw [R_int] at h ⊢;exact h
 | .str b,v,h=>by rw [R_str] at h ⊢;exact h
 | .ref n,v,h=>by rw [iG] at h ⊢;obtain ⟨a,e,q⟩:=h;exact ⟨a,lH x.pre e,q⟩
 | .tup xs,v,h=>by rw [R_tup] at h ⊢;obtain ⟨a,ys,e,q,r⟩:=h;exact ⟨a,ys,e,x.tup _ _ q,Rs.mono x r⟩
 | .rdl xs,v,h=>by rw [eW] at h ⊢;obtain ⟨a,ys,e,q,r⟩:=h;exact ⟨a,ys,e,x.rdf _ _ q,Rs.mono x r⟩
 | .fn b,v,h=>by rw [wK] at h ⊢;exact h
theorem Rs.mono {K:PySem.W.Frag} {m m':List Addr} {H H':Hp} (x:Ext K m H m' H'):∀ {ps:List PV} {vs:List V},Rs K m H ps vs→Rs K m' H' ps vs
 | [],vs,h=>by rw [Rs_nil] at h ⊢;exact h
 | p::ps,vs,h=>by
  rw [aK] at h ⊢
  obtain ⟨y,r,e,h1,h2⟩:=h
  exact ⟨y,r,e,R.mono x h1,Rs.mono x h2⟩
end
mutual
theorem R.cut {K:PySem.W.Frag} {m:List Addr} {H:Hp} {k:Nat}:∀ {p:PV} {v:V},R K m H p v→p.bec k=true→R K (m.take k) H p v
 | .non,v,h,_=>by rw [R_non] at h ⊢;exact h
 | .bl b,v,h,_=>by rw [R_bl] at h ⊢;exact h
 | .int b,v,h,_=>by rw [R_int] at h ⊢;exact h
 | .str b,v,h,_=>by rw [R_str] at h ⊢;exact h
 | .ref n,v,h,z=>by
  rw [iG] at h ⊢
  obtain ⟨a,e,q⟩:=h
  rw [PV.bec] at z
  exact ⟨a,by rw [List.getElem?_take_of_lt (of_decide_eq_true z)];exact e,q⟩
 | .tup xs,v,h,z=>by
  rw [R_tup] at h ⊢
  obtain ⟨a,ys,e,q,r⟩:=h
  rw [PV.bec] at z
  exact ⟨a,ys,e,q,Rs.cutm r z⟩
 | .rdl xs,v,h,z=>by
  rw [eW] at h ⊢
  obtain ⟨a,ys,e,q,r⟩:=h
  rw [PV.bec] at z
  exact ⟨a,ys,e,q,Rs.cutm r z⟩
 | .fn b,v,h,_=>by rw [wK] at h ⊢;exact h
theorem Rs.cutm {K:PySem.W.Frag} {m:List Addr} {H:Hp} {k:Nat}:∀ {ps:List PV} {vs:List V},Rs K m H ps vs→PV.becs k ps=true→Rs K (m.take k) H ps vs
 | [],vs,h,_=>by rw [Rs_nil] at h ⊢;exact h
 | p::ps,vs,h,z=>by
  rw [aK] at h ⊢
  obtain ⟨y,r,e,h1,h2⟩:=h
  rw [PV.becs,Bool.and_eq_true] at z
  exact ⟨y,r,e,R.cut h1 z.1,Rs.cutm h2 z.2⟩
end
mutual
theorem R.bel {K:PySem.W.Frag} {m:List Addr} {H:Hp}:∀ {p:PV} {v:V},R K m H p v→p.bec m.length=true
 | .non,v,h=>by rw [PV.bec]
 | .bl b,v,h=>by rw [PV.bec]
 | .int b,v,h=>by rw [PV.bec]
 | .str b,v,h=>by rw [PV.bec]
 | .ref n,v,h=>by
  rw [iG] at h
  obtain ⟨a,e,q⟩:=h
  rw [PV.bec]
  exact decide_eq_true (List.getElem?_eq_some_iff.mp e).1
 | .tup xs,v,h=>by
  rw [R_tup] at h
  obtain ⟨a,ys,e,q,r⟩:=h
  rw [PV.bec]
  exact Rs.bel r
 | .rdl xs,v,h=>by
  rw [eW] at h
  obtain ⟨a,ys,e,q,r⟩:=h
  rw [PV.bec]
  exact Rs.bel r
 | .fn b,v,h=>by rw [PV.bec]
theorem Rs.bel {K:PySem.W.Frag} {m:List Addr} {H:Hp}:∀ {ps:List PV} {vs:List V},Rs K m H ps vs→PV.becs m.length ps=true
 | [],vs,h=>by rw [PV.becs]
 | p::ps,vs,h=>by
  rw [aK] at h
  obtain ⟨y,r,e,h1,h2⟩:=h
  rw [PV.becs,Bool.and_eq_true]
  exact ⟨R.bel h1,Rs.bel h2⟩
end
noncomputable def CellR (K:PySem.W.Frag) (m:List Addr) (H:Hp):Cell→Addr→Prop
 | .lst xs,a=>∃ys,H a=some (.lst ys)∧Rs K m H xs ys
 | .dk kvs,a=>∃ys,H a=some (.dK ys)∧ys.map (·.1)=kvs.map (·.1)∧Rs K m H (kvs.map (·.2)) (ys.map (·.2))
theorem CellR.mono {K:PySem.W.Frag} {m m':List Addr} {H H':Hp} (x:Ext K m H m' H') {c:Cell} {a:Addr} (h:CellR K m H c a) (e:H' a=H a):CellR K m' H' c a:=by
 cases c with
 | lst xs=>obtain ⟨ys,h1,h2⟩:=h;exact ⟨ys,e.trans h1,h2.mono x⟩
 | dk kvs=>obtain ⟨ys,h1,h2,h3⟩:=h;exact ⟨ys,e.trans h1,h2,h3.mono x⟩
theorem CellR.ex {K:PySem.W.Frag} {m:List Addr} {H:Hp} {c:Cell} {a:Addr} (h:CellR K m H c a):∃o,H a=some o∧(∀ys,o≠.tup ys)∧∀u p,o≠.frz u p:=by
 cases c with
 | lst xs=>obtain ⟨ys,h1,h2⟩:=h;exact ⟨_,h1,⟨fun _ z=>(by cases z),fun _ _ z=>(by cases z)⟩⟩
 | dk kvs=>obtain ⟨ys,h1,h2,h3⟩:=h;exact ⟨_,h1,⟨fun _ z=>(by cases z),fun _ _ z=>(by cases z)⟩⟩
theorem CellR.cut {K:PySem.W.Frag} {m:List Addr} {H:Hp} {c:Cell} {a:Addr} {k:Nat} (h:CellR K m H c a) (z:c.bec k=true):CellR K (m.take k) H c a:=by
 cases c with
 | lst xs=>obtain ⟨ys,h1,h2⟩:=h;exact ⟨ys,h1,h2.cutm z⟩
 | dk kvs=>obtain ⟨ys,h1,h2,h3⟩:=h;exact ⟨ys,h1,h2,h3.cutm z⟩
theorem CellR.bel {K:PySem.W.Frag} {m:List Addr} {H:Hp} {c:Cell} {a:Addr} (h:CellR K m H c a):c.bec m.length=true:=by
 cases c with
 | lst xs=>obtain ⟨ys,h1,h2⟩:=h;exact h2.bel
 | dk kvs=>obtain ⟨ys,h1,h2,h3⟩:=h;exact h3.bel
structure RH (K:PySem.W.Frag) (m:List Addr) (H:Hp) (st:AH):Prop where
 len:m.length=st.length
 nd:m.Nodup
 at_:∀(n:Nat) (c:Cell) (a:Addr),st[n]?=some c→m[n]?=some a→CellR K m H c a
 tb:TB K H
section
variable {K:PySem.W.Frag} {m m':List Addr} {H H':Hp} {st:AH}
theorem RH.get {n:Nat} {c:Cell} (h:RH K m H st) (e:st[n]?=some c):∃a,m[n]?=some a∧CellR K m H c a:=by
 have:n<m.length:=by rw [h.len];exact (List.getElem?_eq_some_iff.mp e).1
 exact ⟨m[n],by simp [this],h.at_ n c _ e (by simp [this])⟩
theorem RH.mem {a:Addr} (h:RH K m H st) (e:a∈m):∃o,H a=some o∧(∀ys,o≠.tup ys)∧∀u p,o≠.frz u p:=by
 obtain ⟨n,hn,rfl⟩:=List.mem_iff_getElem.mp e
 have:n<st.length:=by rw [←h.len];exact hn
 exact (h.at_ n st[n] _ (by simp [this]) (by simp [hn])).ex
theorem RH.mem_tbl {a:Addr} (h:RH K m H st) (e:a∈m) {ps:Array Value}:H a≠some (.tbl ps):=fun z=>by
 obtain ⟨n,hn,rfl⟩:=List.mem_iff_getElem.mp e
 have:n<st.length:=by rw [←h.len];exact hn
 have c:=h.at_ n st[n] m[n] (by simp [this]) (by simp [hn])
 cases q:st[n] with
 | lst xs=>rw [q] at c;obtain ⟨ys,h1,_⟩:=c;rw [h1] at z;cases z
 | dk xs=>rw [q] at c;obtain ⟨ys,h1,_⟩:=c;rw [h1] at z;cases z
theorem RH.lst {n:Nat} {xs:List PV} {v:V} (h:RH K m H st) (e:st[n]?=some (.lst xs)) (r:R K m H (.ref n) v):∃a ys,v=.ref a∧m[n]?=some a∧H a=some (.lst ys)∧Rs K m H xs ys:=by
 rw [iG] at r
 obtain ⟨a,e1,rfl⟩:=r
 obtain ⟨ys,h1,h2⟩:=h.at_ n _ a e e1
 exact ⟨a,ys,rfl,e1,h1,h2⟩
theorem RH.fresh {p:Addr} (h:RH K m H st) (e:H p=none):p ∉ m:=fun z=>by
 obtain ⟨o,q,_⟩:=h.mem z
 rw [e] at q;cases q
theorem Ext.newT {p:Addr} {o:HO} (h:RH K m H st) (e:H p=none):Ext K m H m (upd H p o):=by
 refine ⟨List.prefix_refl _,fun _ z=>.inl z,fun a u _ q _=>?_,fun a ys q=>?_,fun a ys q=>?_,fun a ps _ q=>⟨ps,by rw [af (av q e)];exact q⟩,fun t=>t.keep (fun a ps q=>by rw [af (av q e)];exact q) fun a o q=>by rw [af (av q e)];exact q⟩
 ·rw [af (av q e)];exact q
 ·rcases q with (q|⟨u,q⟩)|q
  ·exact .inl (.inl (by rw [af (av q e)];exact q))
  ·exact .inl (.inr ⟨u,by rw [af (av q e)];exact q⟩)
  ·exact .inr q
 ·rcases q with ⟨u,q⟩|q
  ·exact .inl ⟨u,by rw [af (av q e)];exact q⟩
  ·exact .inr q
theorem RH.keep (h:RH K m H st) (x:Ext K m H m H') (e:∀a∈m,H' a=H a):RH K m H' st :=
 ⟨h.len,h.nd,fun n c a h1 h2=>(h.at_ n c a h1 h2).mono x (e a (List.mem_of_getElem? h2)),x.tb h.tb⟩
theorem RH.newT {p:Addr} {o:HO} (h:RH K m H st) (e:H p=none):RH K m (upd H p o) st :=
 h.keep (Ext.newT h e) fun a ha=>af fun z=>h.fresh e (z ▸ ha)
theorem Ext.new1 {p:Addr} {o:HO} (h:RH K m H st) (e:H p=none):Ext K m H (m++[p]) (upd H p o):=by
 have q:=Ext.newT (o:=o) h e
 refine ⟨List.prefix_append _ _,fun a z=>?_,q.fr,q.tup,q.rdf,q.tbs,q.tb⟩
 rcases List.mem_append.mp z with z|z
 ·exact .inl z
 ·rw [List.mem_singleton] at z
  subst z
  exact .inr e
theorem RH.new1 {p:Addr} {o:HO} {c:Cell} (h:RH K m H st) (e:H p=none) (hc:CellR K (m++[p]) (upd H p o) c p):RH K (m++[p]) (upd H p o) (st++[c]):=by
 have x:=Ext.new1 (o:=o) h e
 refine ⟨by simp [h.len],List.nodup_append.mpr ⟨h.nd,List.nodup_cons.mpr ⟨by simp,List.nodup_nil⟩,fun a ha b hb z=>?_⟩,fun n c' a h1 h2=>?_,x.tb h.tb⟩
 ·rw [List.mem_singleton] at hb
  subst hb
  exact h.fresh e (z ▸ ha)
 ·by_cases hn:n<st.length
  ·rw [List.getElem?_append_left hn] at h1
   rw [List.getElem?_append_left (by rw [h.len];exact hn)] at h2
   exact (h.at_ n c' a h1 h2).mono x (af fun z=>h.fresh e (z ▸ List.mem_of_getElem? h2))
  ·rw [List.getElem?_append_right (by omega)] at h1
   rw [List.getElem?_append_right (by rw [h.len];omega)] at h2
   have hl:=h.len
   by_cases hz:n-st.length=0
   ·rw [hz] at h1
    rw [show n-m.length=0 by omega] at h2
    simp at h1 h2
    subst h1 h2
    exact hc
   ·rw [List.getElem?_eq_none (by simp;omega)] at h1
    cases h1
theorem RH.newL {p:Addr} {xs:List PV} {ys:List V} (h:RH K m H st) (e:H p=none) (r:Rs K m H xs ys):RH K (m++[p]) (upd H p (.lst ys)) (st++[.lst xs]) :=
 h.new1 e ⟨ys,bB,r.mono (Ext.new1 h e)⟩
theorem R.last {p:Addr} {n:Nat} (h:m.length=n):R K (m++[p]) H (.ref n) (.ref p):=by
 rw [iG]
 exact ⟨p,by rw [←h];simp,rfl⟩
theorem Ext.set {n:Nat} {a:Addr} {ys:List V} {o:HO} (h:RH K m H st) (e:m[n]?=some a):Ext K m H m (upd H a o):=by
 have hm:=List.mem_of_getElem? e
 obtain ⟨u,hu,h1,h2⟩:=h.mem hm
 refine ⟨List.prefix_refl _,fun _ z=>.inl z,fun b w hb q _=>?_,fun b zs q=>?_,fun b zs q=>?_,fun b ps hb q=>⟨ps,by rw [af (show b≠a from fun z=>hb (by rw [z];exact hm))];exact q⟩,fun t=>t.keep (fun b ps q=>by rw [af (fun z=>by subst z;exact h.mem_tbl hm q)];exact q) fun b w q=>by rw [af (fun z=>by subst z;rw [hu] at q;cases q;exact h2 _ _ rfl)];exact q⟩
 ·have hne:b≠a:=fun z=>hb (by rw [z];exact hm)
  rw [af hne];exact q
 ·rcases q with (q|⟨w,q⟩)|q
  ·exact .inl (.inl (by rw [af (fun z=>by subst z;rw [hu] at q;cases q;exact h1 _ rfl)];exact q))
  ·exact .inl (.inr ⟨w,by rw [af (fun z=>by subst z;rw [hu] at q;cases q;exact h2 _ _ rfl)];exact q⟩)
  ·exact .inr q
 ·rcases q with ⟨w,q⟩|q
  ·exact .inl ⟨w,by rw [af (fun z=>by subst z;rw [hu] at q;cases q;exact h2 _ _ rfl)];exact q⟩
  ·exact .inr q
theorem wq {m:List Addr} (h:m.Nodup) {i j:Nat} {a:Addr} (e:m[i]?=some a) (e':m[j]?=some a):i=j:=by
 obtain ⟨h1,h2⟩:=List.getElem?_eq_some_iff.mp e
 obtain ⟨h3,h4⟩:=List.getElem?_eq_some_iff.mp e'
 exact (List.getElem_inj h).mp (h2.trans h4.symm)
theorem RH.setL {n:Nat} {a:Addr} {xs:List PV} {ys:List V} (h:RH K m H st) (e:m[n]?=some a) (r:Rs K m H xs ys):RH K m (upd H a (.lst ys)) (st.set n (.lst xs)):=by
 have x:Ext K m H m (upd H a (.lst ys)):=Ext.set (ys:=ys) h e
 refine ⟨by simp [h.len],h.nd,fun k c b h1 h2=>?_,x.tb h.tb⟩
 by_cases hk:k=n
 ·subst hk
  rw [e] at h2
  cases h2
  have hl:k<st.length:=by rw [←h.len];exact (List.getElem?_eq_some_iff.mp e).1
  rw [List.getElem?_set_self hl] at h1
  cases h1
  exact ⟨ys,bB,r.mono x⟩
 ·rw [List.getElem?_set_ne (fun z=>hk z.symm)] at h1
  exact (h.at_ k c b h1 h2).mono x (af fun z=>hk (wq h.nd h2 (z ▸ e)))
end
structure RF (K:PySem.W.Frag) (m:List Addr) (H:Hp) (ρ:Fr) (σ:L2.St):Prop where
 len:ρ.length=σ.length
 at_:∀(i:Nat) v,ρ[i]?=some (some v)→∃x,σ[i]?=some (some x)∧R K m H v x
theorem RF.mono {K:PySem.W.Frag} {m m':List Addr} {H H':Hp} {ρ:Fr} {σ:L2.St} (h:RF K m H ρ σ) (x:Ext K m H m' H'):RF K m' H' ρ σ :=
 ⟨h.len,fun i v e=>let ⟨y,e1,r⟩:=h.at_ i v e;⟨y,e1,r.mono x⟩⟩
theorem RF.set {K:PySem.W.Frag} {m:List Addr} {H:Hp} {ρ:Fr} {σ:L2.St} (h:RF K m H ρ σ) (i:Nat) {v:PV} {x:V} (r:R K m H v x):RF K m H (ρ.set i (some v)) (σ.set i (some x)):=by
 refine ⟨by simp [h.len],fun j w e=>?_⟩
 by_cases hj:i=j
 ·subst hj
  have hl:i<ρ.length:=by have:=(List.getElem?_eq_some_iff.mp e).1;simpa using this
  rw [List.getElem?_set_self hl] at e
  cases e
  exact ⟨x,by rw [List.getElem?_set_self (h.len ▸ hl)],r⟩
 ·rw [List.getElem?_set_ne hj] at e
  rw [List.getElem?_set_ne hj]
  exact h.at_ j w e
noncomputable def post (K:PySem.W.Frag) (m:List Addr) (H:Hp) (Q:VK):EK:=fun v st'=>∀m' H' x,Ext K m H m' H'→RH K m' H' st'→R K m' H' v x→Q x H'
noncomputable def postB (K:PySem.W.Frag) (m:List Addr) (H:Hp) (Q:Bool→Hp→Prop):BK:=fun v st'=>∀m' H',Ext K m H m' H'→RH K m' H' st'→Q v H'
noncomputable def Dd (K:PySem.W.Frag) (m:List Addr) (H:Hp) (Q:List V→Hp→Prop):LK:=fun vs st'=>∀m' H' xs,Ext K m H m' H'→RH K m' H' st'→Rs K m' H' vs xs→Q xs H'
noncomputable def TEx (K:PySem.W.Frag) (w:Fr→AH→EK→Prop):TE:=fun σ H Q=>∃m ρ st,RF K m H ρ σ∧RH K m H st∧w ρ st (post K m H Q)
noncomputable def TTx (K:PySem.W.Frag) (w:Fr→AH→BK→Prop):TT:=fun σ H Q=>∃m ρ st,RF K m H ρ σ∧RH K m H st∧w ρ st (postB K m H Q)
noncomputable def TAx (K:PySem.W.Frag) (w:Fr→AH→LK→Prop):TA:=fun σ H Q=>∃m ρ st,RF K m H ρ σ∧RH K m H st∧w ρ st (Dd K m H Q)
theorem post.ext {K:PySem.W.Frag} {m m1:List Addr} {H H1:Hp} {Q:VK} (x:Ext K m H m1 H1) {v:PV} {st:AH} (q:post K m H Q v st):post K m1 H1 Q v st:=fun m' H' y e r s=>q m' H' y (x.trans e) r s
theorem postB.ext {K:PySem.W.Frag} {m m1:List Addr} {H H1:Hp} {Q:Bool→Hp→Prop} (x:Ext K m H m1 H1) {v:Bool} {st:AH} (q:postB K m H Q v st):postB K m1 H1 Q v st:=fun m' H' e r=>q m' H' (x.trans e) r
noncomputable def AS (K:PySem.W.Frag) (w:PV→PV→AH→EK→Prop):R2:=fun x' y' H Q=>∃m st x y,RH K m H st∧R K m H x x'∧R K m H y y'∧w x y st (post K m H Q)
noncomputable def DO (K:PySem.W.Frag) (w:List PV→AH→EK→Prop):List V→Hp→VK→Prop:=fun xs' H Q=>∃m st xs,RH K m H st∧Rs K m H xs xs'∧w xs st (post K m H Q)
end FW
set_option Elab.async false
set_option linter.all false
set_option maxRecDepth 100000
set_option maxHeartbeats 1000000
namespace FW
open PySem PySem.Spec PyProof.Rows L2 HX
theorem fg {n:Nat} (h:n≤100000):n≤sizeLine:=by rw [sizeLine_eq];omega
theorem m9 {n:Nat} (h:n<100000):n<sizeLine:=by rw [sizeLine_eq];omega
section
variable {X:Cx}
theorem post.here {K:PySem.W.Frag} {m:List Addr} {H:Hp} {Q:VK} {v:PV} {st:AH} {x:V} (q:post K m H Q v st) (h:RH K m H st) (r:R K m H v x):Q x H:=q m H x (Ext.refl _ _ _) h r
theorem post.newT {K:PySem.W.Frag} {m:List Addr} {H:Hp} {Q:VK} {xs:List PV} {ys:List V} {st:AH} {p:Addr} (q:post K m H Q (.tup xs) st) (h:RH K m H st) (r:Rs K m H xs ys) (e:H p=none):Q (.ref p) (upd H p (.tup ys)) :=
 q m _ _ (Ext.newT h e) (h.newT e) (R_tup.mpr ⟨p,ys,rfl,SqT.of bB,r.mono (Ext.newT h e)⟩)
theorem post.newL {K:PySem.W.Frag} {m:List Addr} {H:Hp} {Q:VK} {xs:List PV} {ys:List V} {st:AH} {p:Addr} (q:post K m H Q (.ref st.length) (st++[.lst xs])) (h:RH K m H st) (r:Rs K m H xs ys) (e:H p=none):Q (.ref p) (upd H p (.lst ys)) :=
 q _ _ _ (Ext.new1 h e) (h.newL e r) (R.last h.len)
theorem post.setL {K:PySem.W.Frag} {m:List Addr} {H:Hp} {Q:VK} {v:PV} {y:V} {xs:List PV} {ys:List V} {st:AH} {n:Nat} {a:Addr} (q:post K m H Q v (st.set n (.lst xs))) (h:RH K m H st) (e:m[n]?=some a) (r:Rs K m H xs ys) (rv:R K m H v y) :
  Q y (upd H a (.lst ys)):=q _ _ _ (Ext.set (ys:=ys) h e) (h.setL e r) (rv.mono (Ext.set (ys:=ys) h e))
theorem fz {K:PySem.W.Frag} {m:List Addr} {H:Hp} {st:AH} {v:PV} {x:V} {xs:List PV} (h:RH K m H st) (r:R K m H v x) (e:bK st v=some xs):∃a ys,x=.ref a∧SqL K H a ys∧Rs K m H xs ys:=by
 cases v with
 | rdl zs =>
  cases e
  rw [eW] at r
  obtain ⟨a,ys,rfl,h1,h2⟩:=r
  exact ⟨a,ys,rfl,h1.sq,h2⟩
 | ref n =>
  unfold bK at e
  simp only at e
  split at e
  ·cases e
   rename_i q
   obtain ⟨a,ys,rfl,_,h1,h2⟩:=h.lst q r
   exact ⟨a,ys,rfl,SqL.of h1,h2⟩
  ·cases e
 | _=>cases e
theorem kL {K:PySem.W.Frag} {m:List Addr} {H:Hp} {st:AH} {v:PV} {x:V} {xs:List PV} (h:RH K m H st) (r:R K m H v x) (e:bj st v=some xs):∃a ys,x=.ref a∧(SqL K H a ys∨SqT K H a ys)∧Rs K m H xs ys:=by
 cases v with
 | tup zs =>
  cases e
  rw [R_tup] at r
  obtain ⟨a,ys,rfl,h1,h2⟩:=r
  exact ⟨a,ys,rfl,.inr h1,h2⟩
 | rdl zs =>
  obtain ⟨a,ys,h1,h2,h3⟩:=fz h r e
  exact ⟨a,ys,h1,.inl h2,h3⟩
 | ref n =>
  obtain ⟨a,ys,h1,h2,h3⟩:=fz h r e
  exact ⟨a,ys,h1,.inl h2,h3⟩
 | _=>cases e
theorem Ez {P:Program} {w:World} {A:Around} {E:Value→Shared→Prop} {s:Shared} {t b:Addr} {ws:List Value} {Q:Value→Shared→Prop} (ht:IsTup s.heap t ([]:List Value).toArray) (hb:IsTup s.heap b ws.toArray) (h:Q (.ref b) s) :
  wpAny (model P w) A (binaryOp .Add (.ref t) (.ref b)) Q E s:=by
 obtain ⟨⟨cls,dd,data,sl⟩,ho,hc,n,hd⟩:=id ht
 obtain ⟨⟨cls2,dd2,data2,sl2⟩,ho2,hc2,n2,hd2⟩:=id hb
 simp only at hc hd hc2 hd2
 subst hc hd hc2 hd2
 exact concat_meets ⟨_,ho,rfl⟩ ⟨_,ho2,rfl⟩ noFill_tuple_add seq_tuple_add PySem.F.slot_tuple_add PySem.F.entry_tuple_add (PySem.F.args_tuple_add_2 _ _)
  (tuple_addW0 t b ([]:List Value).toArray ws.toArray n n2 dd dd2 sl sl2 rfl) ⟨ho,ho2,h⟩
theorem B3 (op:Operator):OpR X (binaryOp op) (AS X.K (i6 op)):=by
 intro pins s σ H x' y' v u Q I rx ry h
 obtain ⟨m,st,x,y,rh,hx,hy,w⟩:=h
 cases op with
 | Add =>
  cases x with
  | int i =>
   cases y with
   | int j =>
    have w:post X.K m H Q (.int (i+j)) st:=w
    rw [R_int] at hx hy;subst hx hy
    exact Cw pins s σ H _ _ v u Q I rx ry ⟨_,_,rfl,rfl,w.here rh (R_int.mpr rfl)⟩
   | _=>exact False.elim w
  | ref n =>
   cases y with
   | ref k =>
    obtain ⟨xs,ys,h1,h2,h3,w⟩:=w
    obtain ⟨a,xs',rfl,e1,g1,r1⟩:=rh.lst h1 hx
    obtain ⟨b,ys',rfl,e2,g2,r2⟩:=rh.lst h2 hy
    exact BV pins s σ H _ _ v u Q I rx ry ⟨a,b,xs',ys',rfl,rfl,g1,g2,by rw [←r1.len,←r2.len];exact fg h3,fun p hp=>w.newL rh (r1.app r2) hp⟩
   | _=>exact False.elim w
  | tup xs =>
   cases y with
   | tup ys =>
    obtain ⟨h2,w⟩:=w
    rw [R_tup] at hx hy
    obtain ⟨a,xs',rfl,g1,r1⟩:=hx
    obtain ⟨b,ys',rfl,g2,r2⟩:=hy
    by_cases h1:xs'=[]
    ·subst h1
     cases rx
     cases ry
     obtain ⟨its1,rv1,p1,_⟩:=I.tuple g1
     obtain ⟨its2,rv2,p2,_⟩:=I.tuple g2
     cases rv1
     have e:=r1.len
     rw [List.length_eq_zero_iff.mp e,List.nil_append] at w
     exact Ez p1 p2 ⟨.ref b,H,I,rfl,w.here rh (R_tup.mpr ⟨b,ys',rfl,g2,r2⟩)⟩
    refine Az pins s σ H _ _ v u Q I rx ry ⟨a,b,xs',ys',rfl,rfl,g1,g2,fun z=>?_,by rw [←r1.len,←r2.len];exact fg h2,fun z=>?_,fun z p hp=>w.newT rh (r1.app r2) hp⟩
    ·exact h1 z
    ·subst z
     have e:=r2.len
     rw [List.length_eq_zero_iff.mp e,List.append_nil] at w
     exact w.here rh (R_tup.mpr ⟨a,xs',rfl,g1,r1⟩)
   | _=>exact False.elim w
  | str a =>
   cases y with
   | str b =>
    obtain ⟨h2,w⟩:=w
    rw [R_str] at hx hy;subst hx hy
    exact vi pins s σ H _ _ v u Q I rx ry ⟨_,_,rfl,rfl,fg h2,w.here rh (R_str.mpr rfl)⟩
   | _=>exact False.elim w
  | _=>exact False.elim w
 | Mult =>
  cases x with
  | int i =>
   cases y with
   | int j =>
    have w:CMB i j∧post X.K m H Q (.int (i*j)) st:=w
    rw [R_int] at hx hy;subst hx hy
    exact A0 pins s σ H _ _ v u Q I rx ry ⟨_,_,rfl,rfl,w.1,w.2.here rh (R_int.mpr rfl)⟩
   | _=>exact False.elim w
  | ref n =>
   cases y with
   | int k =>
    obtain ⟨xs,h1,h2,h3,h4,w⟩:=w
    rw [R_int] at hy;subst hy
    obtain ⟨a,xs',rfl,e1,g1,r1⟩:=rh.lst h1 hx
    exact Cg pins s σ H _ _ v u Q I rx ry ⟨a,_,xs',rfl,rfl,g1,h2,h3,by rw [←r1.len];exact fg h4,fun p hp=>w.newL rh (r1.rep _) hp⟩
   | _=>exact False.elim w
  | _=>exact False.elim w
 | Sub =>
  obtain ⟨i,j,rfl,rfl,w⟩:=bH w
  rw [R_int] at hx hy;subst hx hy
  exact B8 pins s σ H _ _ v u Q I rx ry ⟨_,_,rfl,rfl,w.here rh (R_int.mpr rfl)⟩
 | FloorDiv =>
  obtain ⟨i,j,rfl,rfl,w⟩:=bH w
  rw [R_int] at hx hy;subst hx hy
  exact xR pins s σ H _ _ v u Q I rx ry ⟨_,_,rfl,rfl,w.1,w.2.here rh (R_int.mpr rfl)⟩
 | Mod =>
  obtain ⟨i,j,rfl,rfl,w⟩:=bH w
  rw [R_int] at hx hy;subst hx hy
  exact CL pins s σ H _ _ v u Q I rx ry ⟨_,_,rfl,rfl,w.1,w.2.here rh (R_int.mpr rfl)⟩
 | Pow =>
  obtain ⟨i,j,rfl,rfl,w⟩:=bH w
  rw [R_int] at hx hy;subst hx hy
  exact Cm pins s σ H _ _ v u Q I rx ry ⟨_,_,rfl,rfl,w.1,w.2.here rh (R_int.mpr rfl)⟩
 | _=>exact False.elim w
mutual
theorem R.den {K:PySem.W.Frag} {m:List Addr} {H:Hp}:∀ {p:PV} {v:V} {d:PyData},R K m H p v→p.toD=some d→(∃xs,d=.list xs)∨Den K H d v
 | .non,v,d,h,e=>by rw [PV.toD] at e;cases e;rw [R_non] at h;exact .inr (den_non.mpr h)
 | .bl b,v,d,h,e=>by rw [PV.toD] at e;cases e;rw [R_bl] at h;exact .inr (den_bl.mpr h)
 | .int b,v,d,h,e=>by rw [PV.toD] at e;cases e;rw [R_int] at h;exact .inr (den_int.mpr h)
 | .str b,v,d,h,e=>by rw [PV.toD] at e;cases e;rw [R_str] at h;exact .inr (den_str.mpr h)
 | .ref n,v,d,h,e=>by rw [PV.toD] at e;cases e
 | .fn n,v,d,h,e=>by rw [PV.toD] at e;cases e
 | .tup xs,v,d,h,e=>by
  rw [PV.toD] at e
  cases q:PV.toDs xs with
  | none=>rw [q] at e;cases e
  | some ds =>
   rw [q] at e
   cases e
   rw [R_tup] at h
   obtain ⟨a,ys,rfl,h1,h2⟩:=h
   exact .inr (den_tup.mpr ⟨a,ys,rfl,h1,Rs.den h2 q⟩)
 | .rdl xs,v,d,h,e=>by
  rw [PV.toD] at e
  cases q:PV.toDs xs with
  | none=>rw [q] at e;cases e
  | some ds=>rw [q] at e;cases e;exact .inl ⟨_,rfl⟩
theorem Rs.den {K:PySem.W.Frag} {m:List Addr} {H:Hp}:∀ {ps:List PV} {vs:List V} {ds:List PyData},Rs K m H ps vs→PV.toDs ps=some ds→Dens K H ds vs
 | [],vs,ds,h,e=>by rw [PV.toDs] at e;cases e;rw [Rs_nil] at h;exact dens_nil.mpr h
 | p::ps,vs,ds,h,e=>by
  rw [aK] at h
  obtain ⟨y,r,rfl,h1,h2⟩:=h
  rw [PV.toDs] at e
  cases q:p.toD with
  | none=>rw [q] at e;cases e
  | some d =>
   cases q2:PV.toDs ps with
   | none=>rw [q,q2] at e;cases e
   | some ds' =>
    rw [q,q2] at e
    cases e
    refine dens_cons'.mpr ⟨?_,Rs.den h2 q2⟩
    cases p with
    | rdl xs =>
     rw [PV.toD] at q
     cases q3:PV.toDs xs with
     | none=>rw [q3] at q;cases q
     | some es =>
      rw [q3] at q
      cases q
      rw [eW] at h1
      obtain ⟨a,ys,rfl,g1,g2⟩:=h1
      exact den_lst.mpr ⟨a,ys,rfl,g1.sq,Rs.den g2 q3⟩
    | _ =>
     rcases R.den h1 q with ⟨xs,rfl⟩|z
     ·first
       | (rw [PV.toD] at q;cases q;done)
       | (rw [PV.toD] at q;simp only [Option.map_eq_some_iff,reduceCtorEq,and_false,exists_false] at q)
     ·exact z
end
theorem lJ {K:PySem.W.Frag} {m:List Addr} {H:Hp} {st:AH} {p:PV} {v:V} {d:PyData} (rh:RH K m H st) (h:R K m H p v) (e:rO st p=some d):Den K H d v:=by
 cases p with
 | ref n =>
  unfold rO at e
  simp only at e
  split at e
  ·rename_i xs q
   cases q2:PV.toDs xs with
   | none=>rw [q2] at e;cases e
   | some ds =>
    rw [q2] at e
    cases e
    obtain ⟨a,ys,rfl,_,h1,h2⟩:=rh.lst q h
    exact den_lst.mpr ⟨a,ys,rfl,SqL.of h1,h2.den q2⟩
  ·cases e
 | rdl xs =>
  have e':(PV.rdl xs).toD=some d:=e
  rw [PV.toD] at e'
  cases q2:PV.toDs xs with
  | none=>rw [q2] at e';cases e'
  | some ds =>
   rw [q2] at e'
   cases e'
   rw [eW] at h
   obtain ⟨a,ys,rfl,g1,g2⟩:=h
   exact den_lst.mpr ⟨a,ys,rfl,g1.sq,g2.den q2⟩
 | tup xs =>
  have e':(PV.tup xs).toD=some d:=e
  rcases R.den h e' with ⟨zs,rfl⟩|z
  ·rw [PV.toD] at e'
   simp at e'
  ·exact z
 | fn b=>have e':(PV.fn b).toD=some d:=e;rw [PV.toD] at e';cases e'
 | non=>have e':(PV.non).toD=some d:=e;rw [PV.toD] at e';cases e';exact den_non.mpr (R_non.mp h)
 | bl b=>have e':(PV.bl b).toD=some d:=e;rw [PV.toD] at e';cases e';exact den_bl.mpr (R_bl.mp h)
 | int b=>have e':(PV.int b).toD=some d:=e;rw [PV.toD] at e';cases e';exact den_int.mpr (R_int.mp h)
 | str b=>have e':(PV.str b).toD=some d:=e;rw [PV.toD] at e';cases e';exact den_str.mpr (R_str.mp h)
theorem R.nonB {K:PySem.W.Frag} {m:List Addr} {H:Hp} {p:PV} {v:V} (h:R K m H p v):decide (v=.non)=iQ p:=by
 cases p with
 | non=>rw [R_non] at h;subst h;rfl
 | bl b=>rw [R_bl] at h;subst h;rfl
 | int b=>rw [R_int] at h;subst h;rfl
 | str b=>rw [R_str] at h;subst h;rfl
 | ref n=>rw [iG] at h;obtain ⟨a,_,rfl⟩:=h;rfl
 | tup n=>rw [R_tup] at h;obtain ⟨a,_,rfl,_⟩:=h;rfl
 | rdl n=>rw [eW] at h;obtain ⟨a,_,rfl,_⟩:=h;rfl
 | fn n=>rw [wK] at h;subst h;rfl
theorem R.blB {K:PySem.W.Frag} {m:List Addr} {H:Hp} {p:PV} {v:V} {k:Bool} (h:R K m H p v):decide (v=.bl k)=mI k p:=by
 cases p with
 | non=>rw [R_non] at h;subst h;rfl
 | bl b=>rw [R_bl] at h;subst h;cases b <;> cases k <;> rfl
 | int b=>rw [R_int] at h;subst h;rfl
 | str b=>rw [R_str] at h;subst h;rfl
 | ref n=>rw [iG] at h;obtain ⟨a,_,rfl⟩:=h;rfl
 | tup n=>rw [R_tup] at h;obtain ⟨a,_,rfl,_⟩:=h;rfl
 | rdl n=>rw [eW] at h;obtain ⟨a,_,rfl,_⟩:=h;rfl
 | fn n=>rw [wK] at h;subst h;rfl
theorem DB {i j:Int}:decide (V.int i=V.int j)=decide (i=j):=by simp
theorem DJ {i j:Bool}:decide (V.bl i=V.bl j)=decide (i=j):=by simp
theorem Ds {i j:Str}:decide (V.str i=V.str j)=decide (i=j):=by simp
theorem nh {K:PySem.W.Frag} {m:List Addr} {H:Hp}:∀ {ns:List Int} {ys:List V},Rs K m H (ns.map PV.int) ys→ys=ns.map V.int
 | [],ys,h=>by rw [List.map_nil,Rs_nil] at h;exact h
 | n::ns,ys,h=>by
  cases ys with
  | nil=>have:=h.len;simp at this
  | cons y ys =>
   rw [List.map_cons,Rs_cons',R_int] at h
   rw [h.1,nh h.2]
   rfl
theorem mj:∀ {ns:List Int},(ns.map V.int).all jh=true
 | []=>rfl
 | n::ns=>by rw [List.map_cons,List.all_cons,mj];rfl
theorem rc {i:Int}:∀ {ns:List Int},inV (.int i) (ns.map V.int)=ns.any fun j=>j == i
 | []=>rfl
 | n::ns=>by
  have:=rc (i:=i) (ns:=ns)
  unfold inV at this ⊢
  rw [List.map_cons,List.any_cons,List.any_cons,this]
  rfl
theorem jN {K:PySem.W.Frag} {m:List Addr} {H:Hp}:∀ {ns:List Str} {ys:List V},Rs K m H (ns.map PV.str) ys→ys=ns.map V.str
 | [],ys,h=>by rw [List.map_nil,Rs_nil] at h;exact h
 | n::ns,ys,h=>by
  cases ys with
  | nil=>have:=h.len;simp at this
  | cons y ys =>
   rw [List.map_cons,Rs_cons',R_str] at h
   rw [h.1,jN h.2]
   rfl
theorem fB:∀ {ns:List Str},(ns.map V.str).all jh=true
 | []=>rfl
 | n::ns=>by rw [List.map_cons,List.all_cons,fB];rfl
theorem kZ {i:Str}:∀ {ns:List Str},inV (.str i) (ns.map V.str)=ns.any fun j=>j == i
 | []=>rfl
 | n::ns=>by
  have:=kZ (i:=i) (ns:=ns)
  unfold inV at this ⊢
  rw [List.map_cons,List.any_cons,List.any_cons,this]
  rfl
section
variable {K:PySem.W.Frag} {m:List Addr} {H:Hp}
theorem uD {k:Key}:∀ {kvs:List (Key × PV)} {ys:List (Key × V)},ys.map (·.1)=kvs.map (·.1)→Rs K m H (kvs.map (·.2)) (ys.map (·.2)) →
  (∀v,mv kvs k=some v→∃v',iu ys k=some v'∧R K m H v v')∧(mv kvs k=none→iu ys k=none)
 | [],ys,e,_=>by
  cases ys with
  | nil=>exact ⟨fun v z=>(by cases z),fun _=>rfl⟩
  | cons y ys=>cases e
 | p::kvs,ys,e,r=>by
  cases ys with
  | nil=>cases e
  | cons y ys =>
   rw [List.map_cons,List.map_cons,List.cons.injEq] at e
   rw [List.map_cons,List.map_cons,Rs_cons'] at r
   obtain ⟨a1,a2⟩:=uD (k:=k) e.2 r.2
   by_cases q:p.1=k
   ·have e1:mv (p::kvs) k=some p.2:=by simp [mv,List.find?_cons,q]
    have e2:iu (y::ys) k=some y.2:=kM (by rw [e.1];exact q)
    rw [e1,e2]
    exact ⟨fun v z=>⟨_,rfl,by cases z;exact r.1⟩,fun z=>by cases z⟩
   ·have e1:mv (p::kvs) k=mv kvs k:=by simp [mv,List.find?_cons,q]
    have e2:iu (y::ys) k=iu ys k:=j_ (by rw [e.1];exact q)
    rw [e1,e2]
    exact ⟨a1,a2⟩
theorem vV {k:Key} {kvs:List (Key × PV)} {ys:List (Key × V)} (e:ys.map (·.1)=kvs.map (·.1)) (r:Rs K m H (kvs.map (·.2)) (ys.map (·.2))):(iu ys k).isSome=(mv kvs k).isSome:=by
 obtain ⟨a1,a2⟩:=uD (k:=k) e r
 cases q:mv kvs k with
 | none=>rw [a2 q];rfl
 | some v=>obtain ⟨v',e',_⟩:=a1 v q;rw [e'];rfl
theorem yn {k:Key}:∀ {kvs:List (Key × PV)} {ys:List (Key × V)},ys.map (·.1)=kvs.map (·.1)→(kvs.any fun kv=>decide (kv.1=k))=ys.any fun kv=>decide (kv.1=k)
 | [],ys,e=>by cases ys with|nil=>rfl|cons y ys=>cases e
 | p::kvs,ys,e=>by
  cases ys with
  | nil=>cases e
  | cons y ys =>
   rw [List.map_cons,List.map_cons,List.cons.injEq] at e
   rw [List.any_cons,List.any_cons,yn e.2,e.1]
theorem xw {k:Key} {v:PV} {v':V} (rv:R K m H v v'):∀ {kvs:List (Key × PV)} {ys:List (Key × V)},ys.map (·.1)=kvs.map (·.1)→Rs K m H (kvs.map (·.2)) (ys.map (·.2)) →
  (ys.map fun kv=>if kv.1=k then (kv.1,v') else kv).map (·.1)=(kvs.map fun kv=>if kv.1=k then (kv.1,v) else kv).map (·.1)∧Rs K m H ((kvs.map fun kv=>if kv.1=k then (kv.1,v) else kv).map (·.2)) ((ys.map fun kv=>if kv.1=k then (kv.1,v') else kv).map (·.2))
 | [],ys,e,_=>by cases ys with|nil=>exact ⟨rfl,by rw [List.map_nil,List.map_nil,List.map_nil,List.map_nil,Rs_nil]⟩|cons y ys=>cases e
 | p::kvs,ys,e,r=>by
  cases ys with
  | nil=>cases e
  | cons y ys =>
   rw [List.map_cons,List.map_cons,List.cons.injEq] at e
   rw [List.map_cons,List.map_cons,Rs_cons'] at r
   obtain ⟨a1,a2⟩:=xw (k:=k) rv e.2 r.2
   simp only [List.map_cons]
   rw [Rs_cons',a1]
   by_cases q:p.1=k
   ·rw [if_pos q,if_pos (by rw [e.1];exact q)]
    exact ⟨by rw [e.1],rv,a2⟩
   ·rw [if_neg q,if_neg (by rw [e.1];exact q)]
    exact ⟨by rw [e.1],r.1,a2⟩
theorem Bw {k:Key} {v:PV} {v':V} (rv:R K m H v v') {kvs:List (Key × PV)} {ys:List (Key × V)} (e:ys.map (·.1)=kvs.map (·.1)) (r:Rs K m H (kvs.map (·.2)) (ys.map (·.2))) :
  (j0 ys k v').map (·.1)=(ze kvs k v).map (·.1)∧Rs K m H ((ze kvs k v).map (·.2)) ((j0 ys k v').map (·.2)):=by
 unfold j0 ze
 rw [←yn (k:=k) e]
 by_cases q:(kvs.any fun kv=>decide (kv.1=k))=true
 ·rw [if_pos q,if_pos q]
  exact xw rv e r
 ·rw [if_neg q,if_neg q]
  simp only [List.map_append,List.map_cons,List.map_nil]
  exact ⟨by rw [e],r.app (.one rv)⟩
end
theorem RH.dkat {K:PySem.W.Frag} {m:List Addr} {H:Hp} {st:AH} {n:Nat} {kvs:List (Key × PV)} {v:V} (h:RH K m H st) (e:st[n]?=some (.dk kvs)) (r:R K m H (.ref n) v):∃a ys,v=.ref a∧m[n]?=some a∧H a=some (.dK ys)∧ys.map (·.1)=kvs.map (·.1)∧Rs K m H (kvs.map (·.2)) (ys.map (·.2)):=by
 rw [iG] at r
 obtain ⟨a,e1,rfl⟩:=r
 obtain ⟨ys,h1,h2⟩:=h.at_ n _ a e e1
 exact ⟨a,ys,rfl,e1,h1,h2⟩
theorem RH.setD {K:PySem.W.Frag} {m:List Addr} {H:Hp} {st:AH} {n:Nat} {a:Addr} {kvs:List (Key × PV)} {ys:List (Key × V)} (h:RH K m H st) (e:m[n]?=some a) (r1:ys.map (·.1)=kvs.map (·.1)) (r2:Rs K m H (kvs.map (·.2)) (ys.map (·.2))):RH K m (upd H a (.dK ys)) (st.set n (.dk kvs)):=by
 have x:Ext K m H m (upd H a (.dK ys)):=Ext.set (ys:=[]) h e
 refine ⟨by simp [h.len],h.nd,fun k c b h1 h2=>?_,x.tb h.tb⟩
 by_cases hk:k=n
 ·subst hk
  have hl:k<st.length:=by rw [←h.len];exact (List.getElem?_eq_some_iff.mp e).1
  rw [List.getElem?_set_self hl] at h1
  rw [e] at h2
  cases h1
  cases h2
  exact ⟨ys,bB,r1,r2.mono x⟩
 ·rw [List.getElem?_set_ne (Ne.symm hk)] at h1
  have ne:b≠a:=fun z=>hk ((List.getElem?_inj (List.getElem?_eq_some_iff.mp h2).1 h.nd).mp (by rw [h2,e,z]))
  exact (h.at_ k c b h1 h2).mono x (af ne)
theorem yQ (hu:X.A.units+64<cLine) (op:CmpOp):OpR X (compareOp op) (AS X.K (dE op)):=by
 intro pins s σ H x' y' v u Q I rx ry h
 obtain ⟨m,st,x,y,rh,hx,hy,w⟩:=h
 unfold dE at w
 cases op with
 | Eq =>
  simp only at w
  unfold eqW at w
  split at w
  ·rw [R_int] at hx hy;subst hx hy
   exact xE pins s σ H _ _ v u Q I rx ry ⟨rfl,by rw [DB];exact w.here rh (R_bl.mpr rfl)⟩
  ·rw [R_bl] at hx hy;subst hx hy
   exact xE pins s σ H _ _ v u Q I rx ry ⟨rfl,by rw [DJ];exact w.here rh (R_bl.mpr rfl)⟩
  ·rw [R_str] at hx hy;subst hx hy
   exact xE pins s σ H _ _ v u Q I rx ry ⟨rfl,by rw [Ds];exact w.here rh (R_bl.mpr rfl)⟩
  ·obtain ⟨d,e,h1,h2,h3,h4,w⟩:=w
   exact BL hu pins s σ H _ _ v u Q I rx ry ⟨d,e,lJ rh hx h1,lJ rh hy h2,h3,h4,w.here rh (R_bl.mpr rfl)⟩
 | NotEq =>
  simp only at w
  unfold eqW at w
  split at w
  ·rw [R_int] at hx hy;subst hx hy
   exact xC pins s σ H _ _ v u Q I rx ry ⟨rfl,by rw [DB];exact w.here rh (R_bl.mpr rfl)⟩
  ·rw [R_bl] at hx hy;subst hx hy
   exact xC pins s σ H _ _ v u Q I rx ry ⟨rfl,by rw [DJ];exact w.here rh (R_bl.mpr rfl)⟩
  ·rw [R_str] at hx hy;subst hx hy
   exact xC pins s σ H _ _ v u Q I rx ry ⟨rfl,by rw [Ds];exact w.here rh (R_bl.mpr rfl)⟩
  ·obtain ⟨d,e,h1,h2,h3,h4,w⟩:=w
   exact Cn hu pins s σ H _ _ v u Q I rx ry ⟨d,e,lJ rh hx h1,lJ rh hy h2,h3,h4,w.here rh (R_bl.mpr rfl)⟩
 | Is =>
  simp only at w
  split at w
  ·rw [R_non] at hy;subst hy
   exact BW pins s σ H _ _ v u Q I rx ry ⟨rfl,by rw [hx.nonB];exact w.here rh (R_bl.mpr rfl)⟩
  ·rw [R_bl] at hy;subst hy
   exact BX pins s σ H _ _ v u Q I rx ry ⟨_,rfl,by rw [hx.blB];exact w.here rh (R_bl.mpr rfl)⟩
  ·exact w.elim
 | IsNot =>
  simp only at w
  split at w
  ·rw [R_non] at hy;subst hy
   exact Aw pins s σ H _ _ v u Q I rx ry ⟨rfl,by rw [hx.nonB];exact w.here rh (R_bl.mpr rfl)⟩
  ·rw [R_bl] at hy;subst hy
   exact wE pins s σ H _ _ v u Q I rx ry ⟨_,rfl,by rw [hx.blB];exact w.here rh (R_bl.mpr rfl)⟩
  ·exact w.elim
 | Lt =>
  simp only at w
  split at w
  ·rw [R_int] at hx hy;subst hx hy
   exact C8 pins s σ H _ _ v u Q I rx ry ⟨_,_,rfl,rfl,w.here rh (R_bl.mpr rfl)⟩
  ·exact w.elim
 | LtE =>
  simp only at w
  split at w
  ·rw [R_int] at hx hy;subst hx hy
   exact Da pins s σ H _ _ v u Q I rx ry ⟨_,_,rfl,rfl,w.here rh (R_bl.mpr rfl)⟩
  ·exact w.elim
 | Gt =>
  simp only at w
  split at w
  ·rw [R_int] at hx hy;subst hx hy
   exact C4 pins s σ H _ _ v u Q I rx ry ⟨_,_,rfl,rfl,w.here rh (R_bl.mpr rfl)⟩
  ·exact w.elim
 | GtE =>
  simp only at w
  split at w
  ·rw [R_int] at hx hy;subst hx hy
   exact C9 pins s σ H _ _ v u Q I rx ry ⟨_,_,rfl,rfl,w.here rh (R_bl.mpr rfl)⟩
  ·exact w.elim
 | In =>
  simp only at w
  split at w
  ·rw [R_str] at hx hy;subst hx hy
   exact wW pins s σ H _ _ v u Q I rx ry ⟨_,_,rfl,rfl,w.here rh (R_bl.mpr rfl)⟩
  ·rw [R_int] at hx;subst hx
   obtain ⟨ns,rfl,w⟩:=w
   obtain ⟨a,ys,rfl,g,r⟩:=R_tup.mp hy
   obtain rfl:=nh r
   refine l_ pins s σ H _ _ v u Q I rx ry ⟨a,_,rfl,.inr g,rfl,mj,?_⟩
   rw [if_neg Bool.false_ne_true,rc]
   exact w.here rh (R_bl.mpr rfl)
  ·rw [R_str] at hx;subst hx
   obtain ⟨ns,rfl,w⟩:=w
   obtain ⟨a,ys,rfl,g,r⟩:=R_tup.mp hy
   obtain rfl:=jN r
   refine l_ pins s σ H _ _ v u Q I rx ry ⟨a,_,rfl,.inr g,rfl,fB,?_⟩
   rw [if_neg Bool.false_ne_true,kZ]
   exact w.here rh (R_bl.mpr rfl)
  ·rw [R_str] at hx;subst hx
   rcases w with ⟨ns,e,w⟩|⟨kvs,e,w⟩
   ·obtain ⟨a,ys,rfl,_,g,r⟩:=rh.lst e hy
    obtain rfl:=jN r
    refine l_ pins s σ H _ _ v u Q I rx ry ⟨a,_,rfl,.inl (SqL.of g),rfl,fB,?_⟩
    rw [if_neg Bool.false_ne_true,kZ]
    exact w.here rh (R_bl.mpr rfl)
   ·obtain ⟨a,ys,rfl,_,g,r1,r2⟩:=rh.dkat e hy
    cases ry
    refine D5 (Nat.lt_of_le_of_lt (by omega) hu) I (DGet.k (k:=.inr _) g) rx fun s' I'=>⟨.bl _,H,I',rfl,?_⟩
    rw [vV r1 r2]
    exact w.here rh (R_bl.mpr rfl)
  ·exact w.elim
 | NotIn =>
  simp only at w
  split at w
  ·rw [R_int] at hx;subst hx
   obtain ⟨ns,rfl,w⟩:=w
   obtain ⟨a,ys,rfl,g,r⟩:=R_tup.mp hy
   obtain rfl:=nh r
   refine gp pins s σ H _ _ v u Q I rx ry ⟨a,_,rfl,.inr g,rfl,mj,?_⟩
   rw [if_pos rfl,rc]
   exact w.here rh (R_bl.mpr rfl)
  ·rw [R_str] at hx;subst hx
   obtain ⟨ns,rfl,w⟩:=w
   obtain ⟨a,ys,rfl,g,r⟩:=R_tup.mp hy
   obtain rfl:=jN r
   refine gp pins s σ H _ _ v u Q I rx ry ⟨a,_,rfl,.inr g,rfl,fB,?_⟩
   rw [if_pos rfl,kZ]
   exact w.here rh (R_bl.mpr rfl)
  ·rw [R_str] at hx;subst hx
   rcases w with ⟨ns,e,w⟩|⟨kvs,e,w⟩
   ·obtain ⟨a,ys,rfl,_,g,r⟩:=rh.lst e hy
    obtain rfl:=jN r
    refine gp pins s σ H _ _ v u Q I rx ry ⟨a,_,rfl,.inl (SqL.of g),rfl,fB,?_⟩
    rw [if_pos rfl,kZ]
    exact w.here rh (R_bl.mpr rfl)
   ·obtain ⟨a,ys,rfl,_,g,r1,r2⟩:=rh.dkat e hy
    cases ry
    refine AJ (Nat.lt_of_le_of_lt (by omega) hu) I (DGet.k (k:=.inr _) g) rx fun s' I'=>⟨.bl _,H,I',rfl,?_⟩
    rw [vV r1 r2]
    exact w.here rh (R_bl.mpr rfl)
  ·exact w.elim
theorem Dc {prog:Program} {w:World} {A:Around} {E:Value→Shared→Prop} {s:Shared} {value slice:Expr} {o i:Value} {T id:String} {Q:Value→Shared→Prop}
  (hl:typeLookup (.type T) "__getitem__"=pure (some (.builtin id))) (hs:subscripted slice false o i=operate [o,i] (getItem o i)) (hT:s.TypeIs o T) (h:wpAny (model prog w) A (getItem o i) Q E s) :
  wpAny (model prog w) A (subscriptTail value slice o i) Q E s:=by
 unfold subscriptTail
 refine wpAny_bind ?_
 rw [getitemInPython_of_ne hT.not_modules]
 refine wpAny_bind (wpAny_specialOf hT hl ?_)
 have fin:wpAny (model prog w) A (subscripted slice false o i) (fun r s₃=>wpAny (model prog w) A (letTemporaryGo value o r >>= fun _=>pure r) Q E s₃) E s:=by
  rw [hs]
  exact wpAny_operating (wpAny_mono h (fun r s₃ h₃=>wpAny_bind (wpAny_letTemporaryGo (wpAny_pure h₃))) fun _ _ x=>x)
 first
  | exact wpAny_pure (wpAny_bind fin)
  | exact wpAny_bind (wpAny_pure (wpAny_bind fin))
  | exact wpAny_bind fin
theorem Bj (hu:X.A.units+64<cLine):IxR X (AS X.K ixW):=by
 intro value slice pins s σ H x' y' v u Q I rx ry h hs
 obtain ⟨m,st,x,y,rh,hx,hy,w⟩:=h
 cases y with
 | int i =>
  rw [R_int] at hy;subst hy
  rcases we w with ⟨z,c,rfl,h1,h2,w⟩|⟨xs,z,h1,h2,w⟩
  ·rw [R_str] at hx;subst hx
   exact BZ value slice pins s σ H _ _ v u Q I rx ry ⟨_,_,c,rfl,rfl,fg h1,h2,w.here rh (R_str.mpr rfl)⟩ hs
  obtain ⟨a,ys,rfl,g,r⟩:=kL rh hx h1
  obtain ⟨y,e,ry'⟩:=r.atI h2
  rcases g with g|g
  ·exact A3 value slice pins s σ H _ _ v u Q I rx ry ⟨a,ys,_,y,rfl,rfl,g,e,w.here rh ry'⟩ hs
  ·exact By value slice pins s σ H _ _ v u Q I rx ry ⟨a,ys,_,y,rfl,rfl,g,e,w.here rh ry'⟩ hs
 | str z =>
  rw [R_str] at hy;subst hy
  obtain ⟨n,kvs,p,rfl,e,h2,w⟩:=vP w
  obtain ⟨a,ys,rfl,_,g,r1,r2⟩:=rh.dkat e hx
  obtain ⟨p',e',rp⟩:=(uD r1 r2).1 _ h2
  have dg:DGet H a (.str z) (some p'):=by rw [←e'];exact DGet.k (k:=.inr z) g
  cases rx
  obtain ⟨z1,hd,vs,rel,dd⟩:=Bc I.hok g
  exact Dc PySem.F.slot_dict_getitem.lookup hs dd.typeIs (xu (Nat.lt_of_le_of_lt (by omega) hu) I dg ry fun w' s3 I3 rw'=>⟨p',H,I3,rw',w.here rh rp⟩)
 | _=>exact w.elim
theorem i7 {prog:Program} {w:World} {A:Around} {E:Value→Shared→Prop} {s:Shared} {t sl:Addr} {items:Array Value} {vl vu:Value} {lo hi:Option Int} {Q:Value→Shared→Prop} (ht:IsTup s.heap t items) (hs:s.heap.IsSliceOf sl vl vu .none) (pl:IsPart vl lo) (pu:IsPart vu hi)
  (hw:HT.sIx items.size 0 lo=0∧HT.sIx items.size items.size hi=items.size) (h:Q (.ref t) s):wpAny (model prog w) A (getItem (.ref t) (.ref sl)) Q E s:=by
 obtain ⟨os,hos,hcs,hds⟩:=id hs
 have hTs:s.TypeIs (.ref sl) "slice":=⟨os,hos,hcs⟩
 unfold getItem
 try with_reducible refine wpAny_holding ?_
 first|refine wpAny_bind (wpAny_pure ?_)|skip
 refine wpAny_bind (wpAny_sequenceKey ht.typeIs (by decide) ?_)
 refine wpAny_bind (wpAny_callSpecial?_slot (name:=Str.ofString "__getitem__") ht.typeIs PyProof.Rows.slot_tuple_getitem
  (wpAny_call_entry PyProof.Rows.slot_tuple_getitem ht.typeIs entry_tuple_getitem ?_ (args_tuple_getitem _ _)))
 show wpAny _ _ (Builtin.Tuple.tupleItemsOf (.ref t) >>= _) _ _ s
 refine wpAny_bind (tupleItemsOf_ ht ?_)
 refine wpAny_bind (wpAny_typeOf hTs ?_)
 rw [if_pos (by decide)]
 refine wpAny_bind (HT.sliceApplied_gen hs pl pu ?_)
 have hyes:((((HT.sIx items.size 0 lo:Nat):Int) == 0 && (1:Int) == 1 && (HT.sIx items.size items.size hi-HT.sIx items.size 0 lo) == items.size)=true):=by
  rw [hw.1,hw.2]
  simp
 show wpAny _ _ (if (((HT.sIx items.size 0 lo:Nat):Int) == 0 && (1:Int) == 1 && (HT.sIx items.size items.size hi-HT.sIx items.size 0 lo) == items.size)=true then _ else _) _ _ s
 rw [if_pos hyes]
 unfold Builtin.Tuple.tupleIsExact
 refine wpAny_bind (wpAny_bind (wpAny_typeOf ht.typeIs (wpAny_pure ?_)))
 rw [if_pos (by simp)]
 exact wpAny_bind (wpAny_rule (wpAny_pure ⟨_,rfl,wpAny_pure h⟩))
noncomputable def DR (K:PySem.W.Frag):V→Option Int→Option Int→Hp→VK→Prop:=fun x' lo hi H Q=>∃m st x,RH K m H st∧R K m H x x'∧slW x lo hi st (post K m H Q)
theorem vG {ys:List V} {lo hi:Option Int} (h:HT.sIx ys.length 0 lo=0∧HT.sIx ys.length ys.length hi=ys.length):pC ys lo hi=ys:=by
 unfold pC
 rw [h.1,h.2,List.drop_zero,Nat.sub_zero,List.take_length]
theorem vN {v:Value} {p:Option Int} (h:IsPart v p):∃q:Option (Int × Tok),v=partValue q∧q.map (·.1)=p:=by
 cases h with
 | none=>exact ⟨none,rfl,rfl⟩
 | int i t=>exact ⟨some (i,t),rfl,rfl⟩
theorem A5 {z:Str} {t:Tok} {l u:Option (Int × Tok)} {lo hi:Option Int} {Q:Value→Shared→Prop} {s:Shared} (e:(l.map (·.1),u.map (·.1))=(lo,hi)) (h1:z.length≤100000) (h:∀tk t',Q (.str (AX z lo hi) t') { s with toks:=tk }):(sliceMade z t l u none).post Q s:=by
 cases e
 unfold sliceMade
 have h:∀tk t',Q (.str (if ((slicePicked z l u none).length == z.length)=true then z else ⟨((slicePicked z l u none).filterMap (z.cps[·]?)).toArray⟩) t') { s with toks:=tk }:=h
 cases q:((slicePicked z l u none).length == z.length) with
 | true =>
  rw [q] at h
  exact h s.toks t
 | false =>
  rw [q] at h
  refine ⟨?_,h _ _⟩
  show ((slicePicked z l u none).filterMap (z.cps[·]?)).toArray.size≤sizeLine
  rw [List.size_toArray]
  refine Nat.le_trans (List.length_filterMap_le _ _) (Nat.le_trans ?_ (fg h1))
  refine sliceRange_length_le _ _ _ _ (fun _=>?_) fun z=>absurd (show (1:Int) > 0 by decide) z
  cases l <;> cases u <;> constructor <;> simp only [Option.map,Option.getD,show (1:Int) > 0 by decide,if_true] <;> first|omega|(split <;> omega)
theorem C1:SlR X (DR X.K):=by
 intro pins s σ H x' v vl vu lo hi sl Q I rx hs pl pu h
 obtain ⟨m,st,x,rh,hx,w⟩:=h
 unfold slW at w
 split at w
 ·rename_i z
  rw [R_str] at hx
  subst hx
  obtain ⟨t,rfl⟩:=rx
  obtain ⟨h1,w⟩:=w
  obtain ⟨l,el,pl'⟩:=vN pl
  obtain ⟨u,eu,pu'⟩:=vN pu
  subst el eu
  refine ⟨"str",_,PyProof.Rows.slot_str_getitem.lookup,typeIs_str _ _ _,?_⟩
  refine wpAny_getItem_str_slice (l:=l) (u:=u) (st:=none) hs rfl (A5 ?_ h1 fun tk t'=>⟨.str (AX z lo hi),H,I.tok tk,⟨t',rfl⟩,w.here rh (R_str.mpr rfl)⟩)
  rw [pl',pu']
 ·rw [R_tup] at hx
  obtain ⟨a,ys,rfl,g,r⟩:=hx
  by_cases hw:HT.sIx ys.length 0 lo=0∧HT.sIx ys.length ys.length hi=ys.length
  ·cases rx
   obtain ⟨its,r',ht,hz⟩:=I.tuple g
   have hlen:its.toArray.size=ys.length:=by rw [List.size_toArray];exact r'.length.symm
   refine ⟨"tuple",_,PyProof.Rows.slot_tuple_getitem.lookup,ht.typeIs,i7 ht hs pl pu (by rw [hlen];exact hw) ?_⟩
   refine ⟨.ref a,H,I,rfl,w.here rh (R_tup.mpr ⟨a,ys,rfl,g,?_⟩)⟩
   have:=r.cut lo hi
   rw [vG hw] at this
   exact this
  ·exact BB pins s σ H _ v vl vu lo hi sl Q I rx hs pl pu ⟨a,ys,rfl,g,hw,fun p hp=>w.newT rh (r.cut lo hi) hp⟩
 ·obtain ⟨xs,h1,w⟩:=w
  obtain ⟨a,ys,rfl,g,r⟩:=fz rh hx h1
  exact Ag pins s σ H _ v vl vu lo hi sl Q I rx hs pl pu ⟨a,ys,rfl,g,fun p hp=>w.newL rh (r.cut lo hi) hp⟩
theorem Rs.one' {K:PySem.W.Frag} {m:List Addr} {H:Hp} {x:PV} {ys:List V} (h:Rs K m H [x] ys):∃y,ys=[y]∧R K m H x y:=by
 rw [aK] at h
 obtain ⟨y,r,rfl,h1,h2⟩:=h
 rw [Rs_nil] at h2
 subst h2
 exact ⟨y,rfl,h1⟩
theorem Rs.two' {K:PySem.W.Frag} {m:List Addr} {H:Hp} {x z:PV} {ys:List V} (h:Rs K m H [x,z] ys):∃y u,ys=[y,u]∧R K m H x y∧R K m H z u:=by
 rw [aK] at h
 obtain ⟨y,r,rfl,h1,h2⟩:=h
 obtain ⟨u,rfl,h3⟩:=h2.one'
 exact ⟨y,u,rfl,h1,h3⟩
noncomputable def DF:B→Value
 | .len=>.builtin "len"
 | .max2=>.builtin "max"
 | .min2=>.builtin "min"
 | .divmod=>.builtin "divmod"
 | .int1=>.type "int"
 | .str1=>.type "str"
 | .tuple1=>.type "tuple"
 | .list1=>.type "list"
 | .all1=>.builtin "all"
 | .any1=>.builtin "any"
 | .abs1=>.builtin "abs"
 | .sorted1=>.builtin "sorted"
 | .repr1=>.builtin "repr"
theorem p9:∀ {us:List Value} {ns:List Int},IntsAre us ns→Vals (ns.map V.int) us
 | _,_,.nil=>.nil
 | _,_,.cons n t r=>.cons ⟨t,rfl⟩ (p9 r)
theorem yc {K:PySem.W.Frag} {m:List Addr} {H:Hp}:∀ {ns:List Int},Rs K m H (ns.map PV.int) (ns.map V.int)
 | []=>by rw [List.map_nil,List.map_nil,Rs_nil]
 | n::ns=>by rw [List.map_cons,List.map_cons,Rs_cons',R_int];exact ⟨rfl,yc⟩
theorem Ce (hc:X.calm=true) (hgd:X.A.guards=some []) (hun:X.A.units+64<cLine) (b:B):eA X (DF b) (DO X.K (fA b)):=by
 intro pins s σ H xs' us Q I r h
 obtain ⟨m,st,xs,rh,hx,w⟩:=h
 cases b with
 | len =>
  obtain ⟨x0,rfl,w⟩:=dA w
  obtain ⟨y,rfl,hy⟩:=hx.one'
  rcases sQ w with ⟨z,rfl,h1,w⟩|⟨ys,h1,w⟩
  ·rw [R_str] at hy;subst hy
   exact qV pins s σ H _ us Q I r ⟨_,rfl,fg h1,w.here rh (R_int.mpr rfl)⟩
  obtain ⟨a,zs,rfl,g,rz⟩:=kL rh hy h1
  refine qu pins s σ H _ us Q I r ⟨a,zs,rfl,g,?_⟩
  have:=w.here rh (x:=V.int ys.length) (R_int.mpr rfl)
  rw [rz.len] at this
  exact this
 | max2 =>
  obtain ⟨x0,y0,rfl,w⟩:=dC w
  obtain ⟨i,j,rfl,rfl,w⟩:=bH w
  obtain ⟨y,u,rfl,hy,hu⟩:=hx.two'
  rw [R_int] at hy hu;subst hy hu
  exact wL hc pins s σ H _ us Q I r ⟨_,_,rfl,w.here rh (R_int.mpr rfl)⟩
 | min2 =>
  obtain ⟨x0,y0,rfl,w⟩:=dC w
  obtain ⟨i,j,rfl,rfl,w⟩:=bH w
  obtain ⟨y,u,rfl,hy,hu⟩:=hx.two'
  rw [R_int] at hy hu;subst hy hu
  exact xt hc pins s σ H _ us Q I r ⟨_,_,rfl,w.here rh (R_int.mpr rfl)⟩
 | divmod =>
  obtain ⟨x0,y0,rfl,w⟩:=dC w
  obtain ⟨i,j,rfl,rfl,w⟩:=bH w
  obtain ⟨y,u,rfl,hy,hu⟩:=hx.two'
  rw [R_int] at hy hu;subst hy hu
  refine rm pins s σ H _ us Q I r ⟨_,_,rfl,w.1,fun p hp=>w.2.newT rh ?_ hp⟩
  rw [Rs_cons',Rs_cons',Rs_nil,R_int,R_int]
  exact ⟨rfl,rfl,rfl⟩
 | int1=>exact False.elim w
 | str1=>exact False.elim w
 | tuple1 =>
  obtain ⟨x0,rfl,w⟩:=dA w
  obtain ⟨ys,h1,w⟩:=w
  obtain ⟨y,rfl,hy⟩:=hx.one'
  obtain ⟨a,zs,rfl,g,rz⟩:=kL rh hy h1
  refine oF pins s σ H _ us Q I r ⟨a,zs,rfl,?_⟩
  rcases g with g|g
  ·exact .inl ⟨g,fun p hp=>w.newT rh rz hp⟩
  ·exact .inr ⟨g,w.here rh (R_tup.mpr ⟨a,zs,rfl,g,rz⟩)⟩
 | list1=>exact False.elim w
 | all1=>exact False.elim w
 | any1=>exact False.elim w
 | abs1 =>
  obtain ⟨x0,rfl,w⟩:=dA w
  obtain ⟨i,rfl,w⟩:=m5 w
  obtain ⟨y,rfl,hy⟩:=hx.one'
  rw [R_int] at hy;subst hy
  refine xy pins s σ H _ us Q I r ⟨_,rfl,?_⟩
  have:=w.here rh (R_int.mpr rfl)
  have e:(if i<0 then -i else i)=(i.natAbs:Int):=by split <;> omega
  rw [e]
  exact this
 | sorted1=>exact False.elim w
 | repr1=>exact False.elim w
theorem wA {st:AH} {x:PV} {n:String} (h:eD st x=some n):n∈["NoneType","bool","int","str","list","tuple","dict"]:=by
 cases x with
 | ref k =>
  unfold eD at h
  simp only at h
  split at h <;> cases h <;> decide
 | _=>cases h <;> decide
theorem AB {pins:List (Addr × Obj)} {s:Shared} {σ:L2.St} {H:Hp} {A:Around} {E:Value→Shared→Prop} {K:PySem.W.Frag} {m:List Addr} {st:AH} {x:PV} {x':V} {u:Value} {n c:String} {Q:Value→Shared→Prop} (I:Inv X pins σ H s) (rh:RH X.K m H st) (hx:R X.K m H x x')
  (ru:RelV x' u) (hk:eD st x=some n) (hc:c∈["int","bool","str","tuple","list","dict"]) (h:∀tk,Q (.bool (iz c n)) { s with toks:=tk }) :
  wpAny (model X.prog X.w) A (call (.builtin "isinstance") [u,.type c]) Q E s:=by
 have e:=xH X.K c hc n (wA hk)
 cases x with
 | non=>cases hk;rw [R_non] at hx;subst hx;exact ei I ru .non e h
 | bl b=>cases hk;rw [R_bl] at hx;subst hx;exact ei I ru (.bl b) e h
 | fn b=>cases hk
 | int b=>cases hk;rw [R_int] at hx;subst hx;exact ei I ru (.int b) e h
 | str b=>cases hk;rw [R_str] at hx;subst hx;exact ei I ru (.str b) e h
 | tup xs =>
  cases hk
  rw [R_tup] at hx
  obtain ⟨a,ys,rfl,g,r⟩:=hx
  cases ru
  obtain ⟨its,_,⟨o,ho,hcl,_⟩,_⟩:=I.tuple g
  exact PySem.W.kia_one PySem.W.kitx_tuple I.kIn ⟨o,ho,hcl⟩ e (fun z=>nomatch z) h
 | rdl xs =>
  cases hk
  rw [eW] at hx
  obtain ⟨a,ys,rfl,g,r⟩:=hx
  cases ru
  obtain ⟨its,_,pl,_⟩:=I.list g.sq
  obtain ⟨o,ho,hcl,_⟩:=pl.isList
  exact PySem.W.kia_one PySem.W.kitx_list I.kIn ⟨o,ho,hcl⟩ e (fun z=>nomatch z) h
 | ref k =>
  unfold eD at hk
  simp only at hk
  split at hk
  ·cases hk
   rename_i q
   obtain ⟨a,ys,rfl,_,h1,h2⟩:=rh.lst q hx
   exact ei I ru (.lst h1) e h
  ·cases hk
   rename_i kvs q
   rw [iG] at hx
   obtain ⟨a,e1,rfl⟩:=hx
   obtain ⟨ys,h1,_⟩:=rh.at_ k _ a q e1
   exact ei I ru (.dK h1) e h
  ·cases hk
noncomputable def vW:M→String
 | .append=>"list.append"
 | .pop0=>"list.pop"
 | .extend=>"list.extend"
 | .insert=>"list.insert"
 | .count=>"list.count"
noncomputable def Am:V→List V→Hp→VK→Prop:=fun x vs H Q=>∃(l:Addr) (xs:List V) (i:Int) (y:V),x=.ref l∧vs=[.int i,y]∧H l=some (.lst xs)∧0≤i∧i≤xs.length∧xs.length<100000∧Q .non (upd H l (.lst (xs.take i.toNat++y::xs.drop i.toNat)))
theorem wS:MtR X "list.insert" Am:=by
 intro pins s σ H x vs v us Q I rx rv h
 obtain ⟨l,xs,i,y,rfl,rfl,hH,hk0,hk,hz,q⟩:=h
 cases rx
 cases rv with
 | cons r1 rr =>
 obtain ⟨u,rfl,ru⟩:=nF rr
 obtain ⟨t,rfl⟩:=r1
 obtain ⟨z,its,n,r,hl,e⟩:=I.lstM hH
 have hlen:=r.length
 have hzz:=m9 hz
 have fit:¬(!Builtin.List.listFitsIndex i)=true:=by
  simp [Builtin.List.listFitsIndex]
  omega
 have M:=PySem.AutoSeq1.list_insert_list_int_val_1 l its.toArray n i t u fit (by rw [List.size_toArray];omega)
 refine call_meets PySem.F.slot_list_insert ⟨_,e,rfl⟩ PySem.F.entry_list_insert (PySem.F.args_list_insert_3 _ _ _) M ⟨e,?_⟩
 refine ⟨.non,_,I.lset (its':=its.take i.toNat++u::its.drop i.toNat) hH e ?_ ?_ ?_,rfl,q⟩
 ·have e0:¬(i<0):=by omega
  have e1:min i.toNat its.length=i.toNat:=by omega
  simp only [List.size_toArray,e0,if_false,e1]
  apply Array.ext'
  simp
  exact List.take_of_length_le (by simp)
 ·exact (r.take _).append (.cons ru (r.drop _))
 ·simp;omega
noncomputable def CZ (K:PySem.W.Frag) (w:PV→List PV→AH→EK→Prop):V→List V→Hp→VK→Prop:=fun x' xs' H Q=>∃m st x xs,RH K m H st∧R K m H x x'∧Rs K m H xs xs'∧w x xs st (post K m H Q)
theorem B7 (c:M):MtR X (vW c) (CZ X.K (sr c)):=by
 intro pins s σ H x' vs' v us Q I rx rv h
 obtain ⟨m,st,x,vs,rh,hx,hv,w⟩:=h
 cases c with
 | append =>
  obtain ⟨n0,rfl,w⟩:=iZ w
  obtain ⟨x0,rfl,w⟩:=dA w
  obtain ⟨xs,h1,h2,w⟩:=w
  obtain ⟨a,ys,rfl,e,g,r⟩:=rh.lst h1 hx
  obtain ⟨y,rfl,hy⟩:=hv.one'
  exact ql pins s σ H _ _ v us Q I rx rv ⟨a,ys,y,rfl,rfl,g,by rw [←r.len];exact m9 h2,w.setL rh e (r.app (.one hy)) (R_non.mpr rfl)⟩
 | pop0 =>
  obtain ⟨n0,rfl,w⟩:=iZ w
  obtain ⟨rfl,w⟩:=pQ w
  obtain ⟨xs,z,h1,h2,w⟩:=w
  obtain ⟨a,ys,rfl,e,g,r⟩:=rh.lst h1 hx
  rw [Rs_nil] at hv;subst hv
  obtain ⟨y,e2,ry⟩:=r.get h2
  rw [r.len] at e2
  exact Cz pins s σ H _ _ v us Q I rx rv ⟨a,ys,y,rfl,rfl,g,e2,w.setL rh e r.dropLast ry⟩
 | count=>exact False.elim w
 | extend=>exact False.elim w
 | insert =>
  obtain ⟨n0,rfl,w⟩:=iZ w
  obtain ⟨i0,z,rfl,w⟩:=dC w
  obtain ⟨i,rfl,w⟩:=m5 w
  obtain ⟨xs,h1,h2,i0,i1,w⟩:=w
  obtain ⟨a,ys,rfl,e,g,r⟩:=rh.lst h1 hx
  obtain ⟨y1,y2,rfl,hy1,hy2⟩:∃y1 y2,vs'=[y1,y2]∧R X.K m H (.int i) y1∧R X.K m H z y2:=by
   rw [aK] at hv
   obtain ⟨y1,t,rfl,q1,hv⟩:=hv
   obtain ⟨y2,rfl,h2⟩:=hv.one'
   exact ⟨y1,y2,rfl,q1,h2⟩
  rw [R_int] at hy1
  subst hy1
  exact wS pins s σ H _ _ v us Q I rx rv ⟨a,ys,i,y2,rfl,rfl,g,i0,by rw [←r.len];omega,by rw [←r.len];omega,w.setL rh e ((r.take _).app (Rs_cons'.mpr ⟨hy2,r.drop _⟩)) (R_non.mpr rfl)⟩
noncomputable def D3 (K:PySem.W.Frag):V→V→V→Hp→(Hp→Prop)→Prop:=fun o' i' v' H Q=>∃m st o i v,RH K m H st∧R K m H o o'∧R K m H i i'∧R K m H v v'∧rZ o i v st fun st'=>∀H',Ext K m H m H'→RH K m H' st'→Q H'
theorem Ct (hu:X.A.units+64<cLine):Ck X (D3 X.K):=by
 intro pins s σ H o' i' v' ov iv u Q I ro ri rv h
 obtain ⟨m,st,o,i,v,rh,ho,hi,hv,w⟩:=h
 unfold rZ at w
 split at w
 ·obtain ⟨xs,h1,q,h2,w⟩:=w
  obtain ⟨a,ys,rfl,e,g,r⟩:=rh.lst h1 ho
  rw [R_int] at hi;subst hi
  exact yv pins s σ H _ _ _ ov iv u Q I ro ri rv ⟨a,ys,_,q,rfl,rfl,g,by rw [←r.len];exact h2,w _ (Ext.set (ys:=ys) rh e) (rh.setL e (r.set hv q))⟩
 ·obtain ⟨kvs,h1,h2,w⟩:=w
  obtain ⟨a,ys,rfl,e,g,r1,r2⟩:=rh.dkat h1 ho
  rw [R_str] at hi;subst hi
  cases ro
  obtain ⟨q1,q2⟩:=Bw (k:=.inr _) hv r1 r2
  refine xj (Nat.lt_of_le_of_lt (by omega) hu) I (DPut.k (k:=.inr _) g ?_) ri rv fun s' I'=>⟨_,I',w _ (Ext.set (ys:=[]) rh e) (rh.setD e q1 q2)⟩
  have:ys.length=kvs.length:=by have:=congrArg List.length r1;simpa using this
  rw [this]
  exact wI h2
 ·exact w.elim
noncomputable def Ek (K:PySem.W.Frag):V→Hp→(Bool→Hp→Prop)→Prop:=fun x' H Q=>∃m st x,RH K m H st∧R K m H x x'∧e_ x st (postB K m H Q)
theorem tJ:∀ {x':V} {H:Hp} {Q:Bool→Hp→Prop},Ek X.K x' H Q→∃k,B2 X.K x' H k∧Q k H:=by
 intro x' H Q h
 obtain ⟨m,st,x,rh,hx,w⟩:=h
 unfold e_ at w
 split at w
 ·rw [R_bl] at hx;subst hx;exact ⟨_,rfl,w m H (Ext.refl _ _ _) rh⟩
 ·rw [R_non] at hx;subst hx;exact ⟨_,rfl,w m H (Ext.refl _ _ _) rh⟩
 ·rw [R_int] at hx;subst hx;exact ⟨_,rfl,w m H (Ext.refl _ _ _) rh⟩
 ·exact w.elim
 ·obtain ⟨xs,h1,w⟩:=w
  obtain ⟨a,ys,rfl,g,r⟩:=kL rh hx h1
  have e:(!xs.isEmpty)=!ys.isEmpty:=by
   have:=r.len
   cases xs <;> cases ys <;> first|rfl|(simp at this)
  refine ⟨_,?_,w m H (Ext.refl _ _ _) rh⟩
  rw [e]
  rcases g with g|g
  ·exact .inl ⟨ys,g,rfl⟩
  ·exact .inr (.inl ⟨ys,g,rfl⟩)
theorem Cu (op:Operator):PIp X op (AS X.K (pD op)):=by
 intro pins s σ H x' y' v u Q I rx ry h
 obtain ⟨m,st,x,y,rh,hx,hy,w⟩:=h
 unfold pD at w
 split at w
 ·rw [R_int] at hx hy;subst hx hy
  exact Cq pins s σ H _ _ v u Q I rx ry ⟨_,_,rfl,rfl,w.here rh (R_int.mpr rfl)⟩
 ·rw [R_int] at hx hy;subst hx hy
  exact BJ pins s σ H _ _ v u Q I rx ry ⟨_,_,rfl,rfl,w.here rh (R_int.mpr rfl)⟩
 ·obtain ⟨xs,zs,h1,h2,h3,w⟩:=w
  obtain ⟨a,ys,rfl,e,g,r⟩:=rh.lst h1 hx
  obtain ⟨b,ys2,rfl,e2,g2,r2⟩:=rh.lst h2 hy
  exact Bv pins s σ H _ _ v u Q I rx ry ⟨a,b,ys,ys2,rfl,rfl,g,g2,by rw [←r.len,←r2.len];exact fg h3,w.setL rh e (r.app r2) hx⟩
 ·exact w.elim
end
end FW
set_option Elab.async false
set_option linter.all false
set_option maxRecDepth 100000
set_option maxHeartbeats 1000000
namespace FW
open PySem PySem.Spec PyProof.Rows L2 HX
mutual
noncomputable def PV.same:PV→PV→Bool
 | .non,y=>match y with | .non=>true|_=>false
 | .bl a,y=>match y with | .bl b=>a == b|_=>false
 | .int a,y=>match y with | .int b=>a == b|_=>false
 | .str a,y=>match y with | .str b=>a == b|_=>false
 | .tup xs,y=>match y with | .tup ys=>PV.sames xs ys|_=>false
 | .ref a,y=>match y with | .ref b=>a == b|_=>false
 | .rdl xs,y=>match y with | .rdl ys=>PV.sames xs ys|_=>false
 | .fn a,y=>match y with | .fn b=>a == b|_=>false
noncomputable def PV.sames:List PV→List PV→Bool
 | [],y=>y.isEmpty
 | x::xs,y=>match y with|y::ys=>x.same y && PV.sames xs ys | []=>false
end
mutual
theorem PV.same_eq:∀ {x y:PV},x.same y=true→x=y
 | .non,y,h=>by cases y with|non=>rfl|_=>exact Bool.noConfusion (show false=true from h)
 | .bl a,y,h=>by cases y with|bl b=>rw [eq_of_beq (show (a == b)=true from h)] | _=>exact Bool.noConfusion (show false=true from h)
 | .int a,y,h=>by cases y with|int b=>rw [eq_of_beq (show (a == b)=true from h)] | _=>exact Bool.noConfusion (show false=true from h)
 | .str a,y,h=>by cases y with|str b=>rw [eq_of_beq (show (a == b)=true from h)] | _=>exact Bool.noConfusion (show false=true from h)
 | .ref a,y,h=>by cases y with|ref b=>rw [eq_of_beq (show (a == b)=true from h)] | _=>exact Bool.noConfusion (show false=true from h)
 | .tup xs,y,h=>by cases y with|tup ys=>rw [PV.sames_eq (show PV.sames xs ys=true from h)] | _=>exact Bool.noConfusion (show false=true from h)
 | .rdl xs,y,h=>by cases y with|rdl ys=>rw [PV.sames_eq (show PV.sames xs ys=true from h)] | _=>exact Bool.noConfusion (show false=true from h)
 | .fn a,y,h=>by cases y with|fn b=>rw [eq_of_beq (show (a == b)=true from h)] | _=>exact Bool.noConfusion (show false=true from h)
theorem PV.sames_eq:∀ {x y:List PV},PV.sames x y=true→x=y
 | [],y,h=>by cases y with|nil=>rfl|cons a b=>exact Bool.noConfusion (show false=true from h)
 | x::xs,y,h=>by
  cases y with
  | nil=>exact Bool.noConfusion (show false=true from h)
  | cons y ys =>
   have h:=(Bool.and_eq_true _ _).mp (show (x.same y && PV.sames xs ys)=true from h)
   rw [PV.same_eq h.1,PV.sames_eq h.2]
end
structure Cfg where
 N:List Str
 names:List (Str × NameKind)
 fns:List Str
 lim:Nat
 blts:List Str
 gl:List (Str × PV)
 pc:Bool:=false
 hm:Option Nat:=none
noncomputable def Cfg.vis (c:Cfg) (x:Str):Bool:=(c.names.lookup x == some .local || c.names.lookup x == some .cell || c.names.lookup x == some .free) && !(x == ("__debug__":Str)) && !(x == ("__classdict__":Str))
noncomputable def Cfg.loc (c:Cfg) (x:Str):Bool:=c.names.lookup x == some .local || c.names.lookup x == some .cell
noncomputable def Cfg.glb (c:Cfg) (x:Str):Bool:=c.names.lookup x == some .globalImplicit && !(x == ("__debug__":Str)) && !(x == ("__name__":Str))
noncomputable def Cfg.blt (c:Cfg) (x:Str):Bool:=c.glb x && c.blts.contains x
noncomputable def Cfg.fn (c:Cfg) (f:Nat) (x:Str):Bool:=c.fns[f]? == some x && decide (f<c.lim) && c.glb x
noncomputable def na:B→Str
 | .len=>"len"
 | .max2=>"max"
 | .min2=>"min"
 | .divmod=>"divmod"
 | .int1=>"int"
 | .str1=>"str"
 | .tuple1=>"tuple"
 | .list1=>"list"
 | .all1=>"all"
 | .any1=>"any"
 | .abs1=>"abs"
 | .sorted1=>"sorted"
 | .repr1=>"repr"
noncomputable def qN:M→Str
 | .append=>"append"
 | .pop0=>"pop"
 | .extend=>"extend"
 | .insert=>"insert"
 | .count=>"count"
noncomputable def kinds:List String:=["int","bool","str","tuple","list","dict"]
noncomputable def nS:Expr→Bool
 | .ListComp ..=>false
 | .SetComp ..=>false
 | .DictComp ..=>false
 | _=>true
noncomputable def u9:Expr→Bool
 | .Name ..=>true
 | .Call ..=>true
 | .Subscript ..=>true
 | _=>false
mutual
noncomputable def Tg.low (n:Nat):Tg→Bool
 | .name i=>decide (i<n)
 | .tup ts=>Tgs.low n ts
 | .ltup ts=>Tgs.low n ts
 | .sub _ _=>false
noncomputable def Tgs.low (n:Nat):Tgs→Bool
 | .nil=>true
 | .cons t ts=>Tg.low n t && Tgs.low n ts
end
noncomputable def nq:Expr→Bool
 | .Set ..=>false
 | _=>true
noncomputable def Cfg.inner (c:Cfg) (nt:List Str) (caps:List Nat) (sc:Scope):Cfg:={ c with N:=nt++caps.filterMap (c.N[·]?),names:=sc.names,pc:=false,hm:=none }
noncomputable def wg (k:Option NameKind):Bool:=k == some .cell || k == some .free
noncomputable def Cfg.block (c:Cfg) (nt:List Str) (caps:List Nat) (sc:Scope):Bool :=
 sc.kind == .function && sc.names.all (fun y=>!(y.2 == .cell)) && sc.names.all (fun y=>!(y.2 == .local) || sc.names.lookup y.1 == some .local) && sc.names.all (fun y=>!(y.2 == .free) || wg (c.names.lookup y.1))
  && caps.all (fun i=>decide (i<c.N.length)) && (caps.filterMap (c.N[·]?)).all (fun x=>sc.names.lookup x == some .free && wg (c.names.lookup x)) && decide (nt++caps.filterMap (c.N[·]?)).Nodup
noncomputable def yL:It→Expr→Bool
 | .zip _ _,.Tuple ..=>true
 | .zip _ _,_=>false
 | .zip3 _ _ _,.Tuple ..=>true
 | .zip3 _ _ _,_=>false
 | .enum _,.Tuple ..=>true
 | .enum _,_=>false
 | .seq _,_ | .range1 _,_ | .range2 _ _,_ | .chars _,_ | .range3 _ _ _,_=>true
noncomputable def rL:Expr→Bool
 | .Name ..=>true
 | .List ..=>true
 | .Subscript ..=>true
 | _=>false
noncomputable def ar (x:Expr) (f:Str→Pos→Bool):Bool:=match x with | .Name y p=>f y p|_=>false
theorem ae {x:Expr} {f:Str→Pos→Bool} (h:ar x f=true):∃y p,x=.Name y p∧f y p=true:=by
 cases x with|Name y p=>exact ⟨y,p,rfl,h⟩|_=>exact Bool.noConfusion h
noncomputable def vK (x:Expr) (f:Int→Bool):Bool:=match x with | .Constant (.int j) _ _=>f j|_=>false
theorem wp {x:Expr} {f:Int→Bool} (h:vK x f=true):∃j k p,x=.Constant (.int j) k p∧f j=true:=by
 cases x with
 | Constant v k p=>cases v with|int j=>exact ⟨j,k,p,rfl,h⟩|_=>exact Bool.noConfusion h
 | _=>exact Bool.noConfusion h
noncomputable def DT (x:Expr) (f:Bool→Bool):Bool:=match x with | .Constant (.bool j) _ _=>f j|_=>false
theorem xG {x:Expr} {f:Bool→Bool} (h:DT x f=true):∃j k p,x=.Constant (.bool j) k p∧f j=true:=by
 cases x with
 | Constant v k p=>cases v with|bool j=>exact ⟨j,k,p,rfl,h⟩|_=>exact Bool.noConfusion h
 | _=>exact Bool.noConfusion h
noncomputable def tZ (x:Expr) (f:Str→Bool):Bool:=match x with | .Constant (.str j) _ _=>f j|_=>false
theorem wG {x:Expr} {f:Str→Bool} (h:tZ x f=true):∃j k p,x=.Constant (.str j) k p∧f j=true:=by
 cases x with
 | Constant v k p=>cases v with|str j=>exact ⟨j,k,p,rfl,h⟩|_=>exact Bool.noConfusion h
 | _=>exact Bool.noConfusion h
noncomputable def A_ (x:Expr):Bool:=match x with | .Constant .none _ _=>true|_=>false
theorem wM {x:Expr} (h:A_ x=true):∃k p,x=.Constant .none k p:=by
 cases x with
 | Constant v k p=>cases v with|none=>exact ⟨k,p,rfl⟩|_=>exact Bool.noConfusion h
 | _=>exact Bool.noConfusion h
noncomputable def eY (x:Expr) (f:List Expr→Bool):Bool:=match x with | .Tuple xs _ _=>f xs|_=>false
theorem aV {x:Expr} {f:List Expr→Bool} (h:eY x f=true):∃xs k p,x=.Tuple xs k p∧f xs=true:=by
 cases x with|Tuple xs k p=>exact ⟨xs,k,p,rfl,h⟩|_=>exact Bool.noConfusion h
noncomputable def x_ (x:Expr) (f:List Expr→Bool):Bool:=match x with | .List xs _=>f xs|_=>false
theorem uP {x:Expr} {f:List Expr→Bool} (h:x_ x f=true):∃xs p,x=.List xs p∧f xs=true:=by
 cases x with|List xs p=>exact ⟨xs,p,rfl,h⟩|_=>exact Bool.noConfusion h
noncomputable def on1 {α:Type} (xs:List α) (f:α→Bool):Bool:=match xs with | [a]=>f a|_=>false
theorem d6 {α:Type} {xs:List α} {f:α→Bool} (h:on1 xs f=true):∃a,xs=[a]∧f a=true:=by
 cases xs with
 | nil=>exact Bool.noConfusion h
 | cons a t=>cases t with|nil=>exact ⟨a,rfl,h⟩|cons _ _=>exact Bool.noConfusion h
noncomputable def on2 {α:Type} (xs:List α) (f:α→α→Bool):Bool:=match xs with | [a,b]=>f a b|_=>false
theorem fI {α:Type} {xs:List α} {f:α→α→Bool} (h:on2 xs f=true):∃a b,xs=[a,b]∧f a b=true:=by
 cases xs with
 | nil=>exact Bool.noConfusion h
 | cons a t=>cases t with
  | nil=>exact Bool.noConfusion h
  | cons b t=>cases t with|nil=>exact ⟨a,b,rfl,h⟩|cons _ _=>exact Bool.noConfusion h
noncomputable def on3 {α:Type} (xs:List α) (f:α→α→α→Bool):Bool:=match xs with | [a,b,c]=>f a b c|_=>false
noncomputable def nJ {α:Type} (xs:List α) (f:α→List α→Bool):Bool:=match xs with|a::t=>f a t | []=>false
theorem ay {α:Type} {xs:List α} {f:α→List α→Bool} (h:nJ xs f=true):∃a t,xs=a::t∧f a t=true:=by
 cases xs with
 | nil=>exact Bool.noConfusion h
 | cons a t=>exact ⟨a,t,rfl,h⟩
noncomputable def lW {α:Type} (x:Option α) (f:α→Bool):Bool:=match x with|some a=>f a|none=>false
theorem jk {α:Type} {x:Option α} {f:α→Bool} (h:lW x f=true):∃a,x=some a∧f a=true:=by
 cases x with
 | none=>exact Bool.noConfusion h
 | some a=>exact ⟨a,rfl,h⟩
noncomputable def xJ (x:Expr) (f:List (Option Expr)→List Expr→Bool):Bool:=match x with | .Dict ks vs _=>f ks vs|_=>false
noncomputable def Bt (x:Expr) (f:Expr→Operator→Expr→Bool):Bool:=match x with | .BinOp l o r _=>f l o r|_=>false
theorem xp {x:Expr} {f:Expr→Operator→Expr→Bool} (h:Bt x f=true):∃l o r p,x=.BinOp l o r p∧f l o r=true:=by
 cases x with|BinOp l o r p=>exact ⟨l,o,r,p,rfl,h⟩|_=>exact Bool.noConfusion h
noncomputable def yP (x:Expr) (f:Expr→Bool):Bool:=match x with | .UnaryOp .USub y _=>f y|_=>false
theorem wB {x:Expr} {f:Expr→Bool} (h:yP x f=true):∃y p,x=.UnaryOp .USub y p∧f y=true:=by
 cases x with
 | UnaryOp o y p=>cases o with|USub=>exact ⟨y,p,rfl,h⟩|_=>exact Bool.noConfusion h
 | _=>exact Bool.noConfusion h
noncomputable def zy (x:Expr) (f:Expr→Bool):Bool:=match x with | .UnaryOp .Not y _=>f y|_=>false
theorem pP {x:Expr} {f:Expr→Bool} (h:zy x f=true):∃y p,x=.UnaryOp .Not y p∧f y=true:=by
 cases x with
 | UnaryOp o y p=>cases o with|Not=>exact ⟨y,p,rfl,h⟩|_=>exact Bool.noConfusion h
 | _=>exact Bool.noConfusion h
noncomputable def yx (x:Expr) (f:Expr→CmpOp→Expr→Bool):Bool:=match x with | .Compare l os rs _=>on1 os fun o=>on1 rs fun r=>f l o r|_=>false
theorem qe {x:Expr} {f:Expr→CmpOp→Expr→Bool} (h:yx x f=true):∃l o r p,x=.Compare l [o] [r] p∧f l o r=true:=by
 cases x with
 | Compare l os rs p =>
  obtain ⟨o,rfl,h⟩:=d6 h
  obtain ⟨r,rfl,h⟩:=d6 h
  exact ⟨l,o,r,p,rfl,h⟩
 | _=>exact Bool.noConfusion h
noncomputable def xK (x:Expr) (f:PySem.BoolOp→List Expr→Bool):Bool:=match x with | .BoolOp o xs _=>f o xs|_=>false
theorem i5 {x:Expr} {f:PySem.BoolOp→List Expr→Bool} (h:xK x f=true):∃o xs p,x=.BoolOp o xs p∧f o xs=true:=by
 cases x with|BoolOp o xs p=>exact ⟨o,xs,p,rfl,h⟩|_=>exact Bool.noConfusion h
noncomputable def Bd (x:Expr) (f:Expr→Expr→Expr→Bool):Bool:=match x with | .IfExp y l r _=>f y l r|_=>false
theorem xf {x:Expr} {f:Expr→Expr→Expr→Bool} (h:Bd x f=true):∃y l r p,x=.IfExp y l r p∧f y l r=true:=by
 cases x with|IfExp y l r p=>exact ⟨y,l,r,p,rfl,h⟩|_=>exact Bool.noConfusion h
noncomputable def qd (x:Expr) (f:Expr→Expr→Bool):Bool:=match x with | .Subscript l r _=>f l r|_=>false
theorem fu {x:Expr} {f:Expr→Expr→Bool} (h:qd x f=true):∃l r p,x=.Subscript l r p∧f l r=true:=by
 cases x with|Subscript l r p=>exact ⟨l,r,p,rfl,h⟩|_=>exact Bool.noConfusion h
noncomputable def vL (x:Expr) (f:Option Expr→Option Expr→Bool):Bool:=match x with | .Slice u v none _=>f u v|_=>false
theorem uc {x:Expr} {f:Option Expr→Option Expr→Bool} (h:vL x f=true):∃u v p,x=.Slice u v none p∧f u v=true:=by
 cases x with
 | Slice u v w p=>cases w with|none=>exact ⟨u,v,p,rfl,h⟩|some _=>exact Bool.noConfusion h
 | _=>exact Bool.noConfusion h
noncomputable def Cs (x:Expr) (f:Expr→Bool):Bool:=match x with | .Slice none none (some z) _=>f z|_=>false
noncomputable def bf (x:Expr) (f:Expr→List Expr→Pos→Bool):Bool:=match x with | .Call g xs [] p=>f g xs p|_=>false
theorem aD {x:Expr} {f:Expr→List Expr→Pos→Bool} (h:bf x f=true):∃g xs p,x=.Call g xs [] p∧f g xs p=true:=by
 cases x with
 | Call g xs ks p=>cases ks with|nil=>exact ⟨g,xs,p,rfl,h⟩|cons _ _=>exact Bool.noConfusion h
 | _=>exact Bool.noConfusion h
noncomputable def rA (x:Expr) (f:Expr→Str→Pos→Bool):Bool:=match x with | .Attribute y n p=>f y n p|_=>false
theorem u4 {x:Expr} {f:Expr→Str→Pos→Bool} (h:rA x f=true):∃y n p,x=.Attribute y n p∧f y n p=true:=by
 cases x with|Attribute y n p=>exact ⟨y,n,p,rfl,h⟩|_=>exact Bool.noConfusion h
noncomputable def Aa (x:Expr) (f:Expr→List Comprehension→Scope→Pos→Bool):Bool:=match x with | .ListComp e gs sc p=>f e gs sc p|_=>false
theorem kX {x:Expr} {f:Expr→List Comprehension→Scope→Pos→Bool} (h:Aa x f=true):∃e gs sc p,x=.ListComp e gs sc p∧f e gs sc p=true:=by
 cases x with|ListComp e gs sc p=>exact ⟨e,gs,sc,p,rfl,h⟩|_=>exact Bool.noConfusion h
theorem w9 {α:Type} {x:Option α} (h:x.isNone=true):x=none:=by
 cases x with|none=>rfl|some _=>exact Bool.noConfusion h
noncomputable def DK (x:Expr) (f:Arguments→Expr→Scope→Bool):Bool:=match x with | .Lambda a b sc _=>f a b sc|_=>false
noncomputable def Du (x:Arguments) (f:Str→Bool):Bool:=x.posonlyargs.isEmpty && x.vararg.isNone && x.kwonlyargs.isEmpty && x.kw_defaults.isEmpty && x.kwarg.isNone && x.defaults.isEmpty && on1 x.args fun a=>f a.arg
noncomputable def Cfg.lam (c:Cfg) (k:Nat) (y:Str) (caps:List Nat) (sc:Scope):Cfg:={ c with N:=y::caps.filterMap (c.N[·]?),names:=sc.names,lim:=k,pc:=false,hm:=none }
noncomputable def Cfg.lamOk (c:Cfg) (k:Nat) (y:Str) (caps:List Nat) (sc:Scope):Bool :=
 sc.kind == .function && !sc.isCoroutine && !sc.isGenerator && sc.names.all (fun y=>!(y.2 == .cell)) && sc.names.lookup y == some .local && sc.names.all (fun y=>!(y.2 == .local) || sc.names.lookup y.1 == some .local) && sc.names.all (fun y=>!(y.2 == .free) || wg (c.names.lookup y.1))
  && decide (k+1<c.lim) && caps.all (fun i=>decide (i<c.N.length)) && (caps.filterMap (c.N[·]?)).all (fun x=>sc.names.lookup x == some .free && wg (c.names.lookup x)) && decide (y::caps.filterMap (c.N[·]?)).Nodup
mutual
noncomputable def aA (c:Cfg):E→Expr→Bool
 | .var i,x=>ar x fun y _=>c.N[i]? == some y && c.vis y
 | .int i,x=>vK x fun j=>i == j
 | .bl i,x=>DT x fun j=>i == j
 | .non,x=>A_ x
 | .str i,x=>tZ x fun j=>i == j
 | .gv y v,x=>ar x fun z _=>z == y && c.glb y && lW (c.gl.lookup y) fun w=>w.same v
 | .tup es,x=>eY x fun xs=>eV c es xs
 | .lst es,x=>x_ x fun xs=>eV c es xs
 | .dct1 k i,x=>xJ x fun ks vs=>on1 ks fun ok=>lW ok fun kx=>tZ kx fun k'=>on1 vs fun vx=>vK vx fun i'=>k == k' && i == i'
 | .dct0,x=>xJ x fun ks vs=>ks.isEmpty && vs.isEmpty
 | .bin op a b,x=>Bt x fun l o r=>o == op && aA c a l && aA c b r
 | .neg a,x=>yP x fun y=>aA c a y
 | .not a,x=>zy x fun y=>aA c a y
 | .cmp op a b,x=>yx x fun l o r=>o == op && !behindInMarks o r && aA c a l && aA c b r
 | .bop k es,x=>xK x fun o xs=>(o == if k then .And else .Or) && eV c es xs && !xs.isEmpty
 | .ite t a b,x=>Bd x fun y l r=>xk c t y && aA c a l && aA c b r
 | .ix a b,x=>qd x fun l r=>jS r && aA c a l && aA c b r
 | .sl a lo hi,x=>qd x fun l r=>vL r fun u v=>aA c a l && BT c lo u && BT c hi v
 | .call f es,x=>bf x fun g xs _=>ar g fun y _=>c.fn f y && xs.all ah && eV c es xs
 | .blt b es,x=>bf x fun g xs _=>ar g fun y _=>y == na b && c.blt y && xs.all ah && !xs.isEmpty && eV c es xs
 | .inst a t,x=>bf x fun g xs _=>ar g fun y _=>on2 xs fun l r=>ar r fun z _=>y == ("isinstance":Str) && c.blt y && ah l && z == (t:Str) && c.blt z && kinds.contains t && aA c a l
 | .met m o es,x=>bf x fun g xs cp=>rA g fun y n ap=>n == qN m && ap.endLine == cp.line && xs.all ah && decide (xs.length≤2) && rL y && aA c o y && eV c es xs
 | .comp elt tg it ifs nt caps,x=>Aa x fun ex gs sc _=>on1 gs fun g=>g.is_async == 0 && yL it g.target && nq g.iter && tg.low nt.length && c.block nt caps sc && yB c it g.iter && pI (c.inner nt caps sc) tg g.target && qo (c.inner nt caps sc) ifs g.ifs && aA (c.inner nt caps sc) elt ex
 | .tmp a,x=>aA c a x
 | .bad,_=>true
 | .sset a,x=>bf x fun g xs _=>ar g fun y _=>on1 xs fun l=>bf l fun g2 ys _=>ar g2 fun z _=>on1 ys fun u=>y == ("sorted":Str) && c.blt y && z == ("set":Str) && c.blt z && ah l && ah u && aA c a u
 | .jrev a,x=>bf x fun g xs cp=>rA g fun y n ap=>tZ y fun j=>on1 xs fun l=>qd l fun u r=>Cs r fun z=>yP z fun z1=>vK z1 fun i=>n == ("join":Str) && ap.endLine == cp.line && j == ("":Str) && i == 1 && aA c a u
 | .part a s,x=>bf x fun g xs cp=>rA g fun y n ap=>on1 xs fun l=>tZ l fun j=>n == ("partition":Str) && ap.endLine == cp.line && j == s && !(s.length == 0) && rL y && aA c a y
 | .pcall i e,x=>c.pc && bf x fun g xs _=>ar g fun y _=>on1 xs fun l=>c.N[i]? == some y && c.vis y && ah l && aA c e l
 | .hm e be caps,x=>lW c.hm fun k=>bf x fun g xs _=>ar g fun y _=>on2 xs fun l r=>DK r fun as b sc=>Du as fun z=>y == ("how_many":Str) && c.glb y && ah l && c.lamOk k z caps sc && aA c e l && aA (c.lam k z caps sc) be b
termination_by structural e=>e
noncomputable def eV (c:Cfg):Es→List Expr→Bool
 | .nil,xs=>xs.isEmpty
 | .cons e es,xs=>nJ xs fun y ys=>ah y && aA c e y && eV c es ys
termination_by structural e=>e
noncomputable def BT (c:Cfg):O→Option Expr→Bool
 | .no,x=>x.isNone
 | .yes e,x=>lW x fun y=>aA c e y
termination_by structural e=>e
noncomputable def xk (c:Cfg):E→Expr→Bool
 | .not a,x=>zy x fun y=>xk c a y
 | .bop k es,x=>xK x fun o xs=>(o == if k then .And else .Or) && !xs.isEmpty && qo c es xs
 | .cmp op a b,x=>yx x fun l o r=>o == op && !behindInMarks o r && aA c a l && aA c b r
 | .var i,x=>ar x fun y _=>c.N[i]? == some y && c.vis y
 | .call f es,x=>bf x fun g xs _=>ar g fun y _=>c.fn f y && xs.all ah && eV c es xs
 | .blt b es,x=>bf x fun g xs _=>ar g fun y _=>y == na b && c.blt y && xs.all ah && !xs.isEmpty && eV c es xs
 | .inst a t,x=>bf x fun g xs _=>ar g fun y _=>on2 xs fun l r=>ar r fun z _=>y == ("isinstance":Str) && c.blt y && ah l && z == (t:Str) && c.blt z && kinds.contains t && aA c a l
 | .tmp a,x=>u9 x && aA c a x
 | .ix a b,x=>qd x fun l r=>jS r && aA c a l && aA c b r
 | .pcall i e,x=>c.pc && bf x fun g xs _=>ar g fun y _=>on1 xs fun l=>c.N[i]? == some y && c.vis y && ah l && aA c e l
 | .hm _ _ _,_ | .bl _,_ | .int _,_ | .non,_ | .str _,_ | .gv _ _,_ | .tup _,_ | .lst _,_ | .dct0,_ | .dct1 _ _,_ | .bin _ _ _,_ | .neg _,_ | .ite _ _ _,_ | .sl _ _ _,_ | .met _ _ _,_ | .comp _ _ _ _ _ _,_ | .bad,_ | .jrev _,_ | .sset _,_ | .part _ _,_=>true
termination_by structural e=>e
noncomputable def qo (c:Cfg):Es→List Expr→Bool
 | .nil,xs=>xs.isEmpty
 | .cons e es,xs=>nJ xs fun y ys=>xk c e y && qo c es ys
termination_by structural e=>e
noncomputable def yB (c:Cfg):It→Expr→Bool
 | .seq e,x=>nq x && aA c e x
 | .range1 a,x=>bf x fun g xs _=>ar g fun y _=>on1 xs fun l=>y == ("range":Str) && c.blt y && ah l && aA c a l
 | .range2 a b,x=>bf x fun g xs _=>ar g fun y _=>on2 xs fun l r=>y == ("range":Str) && c.blt y && ah l && ah r && aA c a l && aA c b r
 | .zip a b,x=>bf x fun g xs _=>ar g fun y _=>on2 xs fun l r=>y == ("zip":Str) && c.blt y && ah l && ah r && aA c a l && aA c b r
 | .zip3 a b d,x=>bf x fun g xs _=>ar g fun y _=>on3 xs fun l r u=>y == ("zip":Str) && c.blt y && ah l && ah r && ah u && aA c a l && aA c b r && aA c d u
 | .enum a,x=>bf x fun g xs _=>ar g fun y _=>on1 xs fun l=>y == ("enumerate":Str) && c.blt y && ah l && aA c a l
 | .chars e,x=>nq x && aA c e x
 | .range3 a b d,x=>bf x fun g xs _=>ar g fun y _=>on3 xs fun l r u=>y == ("range":Str) && c.blt y && ah l && ah r && ah u && aA c a l && aA c b r && aA c d u
termination_by structural e=>e
noncomputable def pI (c:Cfg):Tg→Expr→Bool
 | .name i,x=>ar x fun y _=>c.N[i]? == some y && c.loc y
 | .tup ts,x=>eY x fun xs=>nk c ts xs
 | .ltup ts,x=>eY x fun xs=>nk c ts xs
 | .sub o i,x=>qd x fun l r=>jS r && aA c o l && aA c i r
termination_by structural e=>e
noncomputable def nk (c:Cfg):Tgs→List Expr→Bool
 | .nil,xs=>xs.isEmpty
 | .cons t ts,xs=>nJ xs fun y ys=>ah y && pI c t y && nk c ts ys
termination_by structural e=>e
end
end FW
set_option Elab.async false
set_option linter.all false
set_option maxRecDepth 100000
set_option maxHeartbeats 1000000
namespace FW
open PySem PySem.Spec PyProof.Rows L2 HX
noncomputable def au (K:PySem.W.Frag) (sp:FSp):Sp:=fun vs H Q _=>∃m st as,Rs K m H as vs∧RH K m H st∧sp as st (post K m H Q)
noncomputable def BP (P:Program) (w:World) (K:PySem.W.Frag) (mg:Str→Option Value) (base:Heap) (k:Nat) (outer:List Env) (s:Shared) (H:Hp) (a:Addr) (L:FSp):Prop :=
 ∀(A':Around) (outer':List Env) (s':Shared) (H':Hp) (u:Value) (v:V) (Q':VK),Room k A'→xc P w K mg base A' outer' s' H'→Un (frs outer) [] H H' s.heap s'.heap→RelV v u→au K L [v] H' Q' E0 →
  PySem.W.FnAt a s'.heap∧codeAny (model P w) A' (.call (.ref a) ⟨[u],[]⟩) (CR CX0 outer' P w H' s' Q' E0) s'
noncomputable def De (L:FSp):Prop:=∀as st Q Q',(∀v st,Q v st→Q' v st)→L as st Q→L as st Q'
noncomputable def Ee (a:Nat) (L:FSp):FSp:=fun as st Q=>∃(xs:List PV) (g:PV→Bool),as=[.tup xs,.fn a]∧xs.length≤100000∧(∀y∈xs,∀Q':EK,Q' (.bl (g y)) st→L [y] st Q')∧Q (.int (bsr g xs)) st
structure Ec (P:Program) (w:World) (K:PySem.W.Frag) (mg:Str→Option Value) (base:Heap) (k:Nat):Prop where
 ex:∃f fd,mg "how_many"=some (.ref f)∧PySem.W.keepIn K (.ref f)=true∧Binds K fd ["stair","holds"] [] ∧
  ∀(a:Addr) (L:FSp),De L→∀(A:Around) (outer:List Env) (s:Shared) (H:Hp) (args:Args) (us:List Value) (vs:List V) (Q:VK),Room (k+1) A→xc P w K mg base A outer s H→BindsTo s fd args ((["stair","holds"]:List Str).zip us)→Vals vs us →
   BP P w K mg base k outer s H a L→au K (Ee a L) vs H Q E0→codeAny (model P w) A (.call (.ref f) args) (CR CX0 outer P w H s Q E0) s
structure HmX (X:Cx) (k:Nat):Prop where
 ok:Ec X.prog X.w X.K X.mg X.base (k+1)
 cd:∃x c0 T,x∈aT∧PySem.W.tabIn X.K x=some (c0,T)∧X.env.code=.ref c0∧X.env.qual=x++".<locals>."∧PySem.W.CodeHd X.base c0 T
 bm:∃bm ob,X.mg "__builtins__"=some (.ref bm)∧bm≠builtinsNs∧X.base.get? bm=some ob∧ob.cls=.type "module"∧ob.dict=some builtinsNs∧ob.data=.plain
structure COk (X:Cx) (c:Cfg) (Γ:Nat→FSp):Prop where
 calm:X.calm=true
 pass:PassesOwn (model X.prog X.w) X.A X.env X.xe
 N:X.N=c.N
 nd:c.N.Nodup
 vis:∀x,c.names.lookup x=some .local∨c.names.lookup x=some .cell∨c.names.lookup x=some .free→Vis X.env.scope x
 loc:∀x,c.names.lookup x=some .local∨c.names.lookup x=some .cell→Loc X.env.scope x∧(X.fn x=true∨X.env.scope.names.lookup x=some .local)
 lcl:∀x,c.names.lookup x=some .local→X.env.scope.names.lookup x=some .local
 glb:∀x,c.names.lookup x=some .globalImplicit→Gl X x
 bk:X.env.blockKind=.function
 cel:∀x,c.names.lookup x=some .cell∨c.names.lookup x=some .free→X.env.kindOf x=some .cell∨X.env.kindOf x=some .free
 room:Room c.lim X.A
 fn:∀f x,f<c.lim→c.fns[f]?=some x→∃ps,Has X.prog X.w X.K X.mg X.base (f+1) x ps (au X.K (Γ f))
 blt:∀x∈c.blts,X.mg x=none
 gl:∀x v,c.gl.lookup x=some v→∃u y,X.mg x=some u∧RelV y u∧∀m H,R X.K m H v y
 mono:bq Γ
 lam:c.pc=true→∀ {pins:List (Addr × Obj)} {σ:L2.St} {H:Hp} {s:Shared} {b:Addr} {u:Value} {v:V} {Q:VK},L2.Inv X pins σ H s→RelV v u→au X.K (Γ 1000) [.ref b,v] H Q E0 →
  PySem.W.FnAt b s.heap∧wpAny (model X.prog X.w) X.A (call (.ref b) [u]) (EP X pins σ Q) X.xe s
 hmo:∀k,c.hm=some k→HmX X k
section
variable {X:Cx} {c:Cfg} {Γ:Nat→FSp}
theorem COk.visx (C:COk X c Γ) {x:Str} (h:c.vis x=true):Vis X.env.scope x∧(x == ("__debug__":Str))=false∧(x == ("__classdict__":Str))=false:=by
 unfold Cfg.vis at h
 simp only [Bool.and_eq_true,Bool.or_eq_true,beq_iff_eq,Bool.not_eq_true'] at h
 exact ⟨C.vis x (by rcases h.1.1 with (h|h)|h <;> simp [h]),h.1.2,h.2⟩
theorem COk.glbx (C:COk X c Γ) {x:Str} (h:c.glb x=true):Gl X x∧(x == ("__debug__":Str))=false∧x≠"__name__":=by
 unfold Cfg.glb at h
 simp only [Bool.and_eq_true,beq_iff_eq,Bool.not_eq_true'] at h
 exact ⟨C.glb x h.1.1,h.1.2,fun z=>by rw [z] at h;exact absurd h.2 (by decide)⟩
theorem COk.bltx (C:COk X c Γ) {x:Str} (h:c.blt x=true):Gl X x∧(x == ("__debug__":Str))=false∧x≠"__name__"∧X.mg x=none:=by
 unfold Cfg.blt at h
 rw [Bool.and_eq_true] at h
 obtain ⟨h1,h2,h3⟩:=C.glbx h.1
 exact ⟨h1,h2,h3,C.blt x (List.contains_iff_mem.mp h.2)⟩
theorem COk.fnx (C:COk X c Γ) {f:Nat} {x:Str} (h:c.fn f x=true):Gl X x∧(x == ("__debug__":Str))=false∧Room (f+1) X.A∧∃ps,Has X.prog X.w X.K X.mg X.base (f+1) x ps (au X.K (Γ f)):=by
 unfold Cfg.fn at h
 simp only [Bool.and_eq_true,beq_iff_eq,decide_eq_true_eq] at h
 obtain ⟨h1,h2,h3⟩:=C.glbx h.2
 exact ⟨h1,h2,C.room.mono h.1.2,C.fn f x h.1.2 h.1.1⟩
theorem C7:∀b:B,bootBuiltins (na b)=some (DF b):=by
 intro b
 cases b <;> decide +kernel
theorem vj:∀t∈kinds,bootBuiltins (t:Str)=some (.type t):=by decide +kernel
theorem um:bootBuiltins ("isinstance":Str)=some (.builtin "isinstance"):=by decide +kernel
theorem vH {x:Expr} (h:u9 x=true) (env:Env):∀whole,isTrue x env whole=(do let v ←whole;standAt x.pos;holding [v] (truthy v)):=by
 cases x <;> first|(intro _;rfl)|cases h
theorem vg {K:PySem.W.Frag} {m:List Addr} {H:Hp} {as:List PV} {vs:List V} (h:Rs K m H as vs):Rs K m H as (vs++[]):=by rw [List.append_nil];exact h
theorem tV (C:COk X c Γ) {f:Nat} {y:Str} {xs:List Expr} {p pos:Pos} {es:Es} (hf:c.fn f y=true) (hn:xs.all ah=true) (hc:eV c es xs=true) (ha:PA X xs (TAx X.K (cJ Γ es))) :
  PE X (.Call (.Name y p) xs [] pos) (TEx X.K fun ρ st Q=>cJ Γ es ρ st fun vs st1=>Γ f vs st1 Q):=by
 obtain ⟨h1,h2,hr,ps,F⟩:=C.fnx hf
 have key:∀ {σ:L2.St} {H:Hp} {Q:VK},TEx X.K (fun ρ st Q=>cJ Γ es ρ st fun vs st1=>Γ f vs st1 Q) σ H Q→qi (au X.K (Γ f)) [] E0 (TAx X.K (cJ Γ es)) σ H Q:=by
  rintro σ H Q ⟨m,ρ,st,rf,rh,w⟩
  exact ⟨m,ρ,st,rf,rh,aw C.mono es (fun vs st1 k m1 H1 xs1 e1 r1 r2=>⟨m1,st1,vs,vg r2,r1,C.mono _ _ _ _ _ (fun _ _ q=>q.ext e1) k⟩) w⟩
 intro pins s σ H Q I h
 cases xs with
 | nil =>
  refine zT F hr h1 h2 pins s σ H Q I ?_
  obtain ⟨m,ρ,st,rf,rh,w⟩:=h
  cases es with
  | nil=>exact ⟨m,st,[],Rs_nil.mpr rfl,rh,w⟩
  | cons e es=>exact Bool.noConfusion (show false=true from hc)
 | cons x xs =>
  rw [List.all_cons,Bool.and_eq_true] at hn
  exact A4 F hr ha h1 h2 hn.1 hn.2 pins s σ H Q I (key h)
theorem ub (C:COk X c Γ) {b:B} {y:Str} {xs:List Expr} {p pos:Pos} {es:Es} (hy:y=na b) (hb:c.blt y=true) (hn:xs.all ah=true) (hne:xs.isEmpty=false) (ha:PA X xs (TAx X.K (cJ Γ es))) :
  PE X (.Call (.Name y p) xs [] pos) (TEx X.K fun ρ st Q=>cJ Γ es ρ st fun vs st1=>fA b vs st1 Q):=by
 obtain ⟨h1,h2,h3,h4⟩:=C.bltx hb
 have hv:=C7 b
 rw [←hy] at hv
 have key:∀ {σ:L2.St} {H:Hp} {Q:VK},TEx X.K (fun ρ st Q=>cJ Γ es ρ st fun vs st1=>fA b vs st1 Q) σ H Q→tCB (DO X.K (fA b)) (TAx X.K (cJ Γ es)) σ H Q:=by
  rintro σ H Q ⟨m,ρ,st,rf,rh,w⟩
  exact ⟨m,ρ,st,rf,rh,aw C.mono es (fun vs st1 k m1 H1 xs1 e1 r1 r2=>⟨m1,st1,vs,r1,r2,iY (fun _ _ q=>q.ext e1) k⟩) w⟩
 have hc:=Ce C.calm C.room.gd C.room.units b
 cases xs with
 | nil=>cases hne
 | cons x xs =>
  rw [List.all_cons,Bool.and_eq_true] at hn
  intro pins s σ H Q I h
  cases b <;> first
   | exact mi hc h1 h4 hv ha h3 h2 hn.1 hn.2 pins s σ H Q I (key h)
   | exact nr hc h1 h4 hv ha h3 h2 hn.1 hn.2 pins s σ H Q I (key h)
theorem wu (m:M):PlainAttrs "list"∧Slot "list" (qN m) (vW m)∧typeOf (.builtin (vW m))=pure (.type "method_descriptor"):=by
 cases m
 ·exact ⟨PySem.F.plainAttrs_list,PySem.F.slot_list_append,PySem.F.type_list_append⟩
 ·exact ⟨PySem.F.plainAttrs_list,PySem.F.slot_list_pop,PySem.F.type_list_pop⟩
 ·exact ⟨PySem.F.plainAttrs_list,PySem.F.slot_list_extend,PySem.F.type_list_extend⟩
 ·exact ⟨PySem.F.plainAttrs_list,PySem.F.slot_list_insert,PySem.F.type_list_insert⟩
 ·exact ⟨PySem.F.plainAttrs_list,PySem.F.slot_list_count,PySem.F.type_list_count⟩
theorem mh {y:Expr} (h:rL y=true) {n:Str} {env:Env} {w:Sem Value}:attributeBase y n env w=w:=by
 cases y <;> first|rfl|cases h
theorem yA (C:COk X c Γ) {m:M} {n:Str} {y:Expr} {ap cp:Pos} {xs:List Expr} {o:E} {es:Es} (hn:n=qN m) (hl:(ap.endLine == cp.line)=true) (hs:xs.all ah=true) (h2:xs.length≤2) (hy:rL y=true) (ho:PE X y (TEx X.K (wpE Γ o))) (ha:PA X xs (TAx X.K (cJ Γ es))) (hc:eV c es xs=true) :
  PE X (.Call (.Attribute y n ap) xs [] cp) (TEx X.K (wpE Γ (.met m o es))):=by
 obtain ⟨pa,slot,ty⟩:=wu m
 rw [←hn] at slot
 have hm:MtR X (vW m) (CZ X.K (sr m)):=B7 m
 intro pins s σ H Q I h
 obtain ⟨mm,ρ,st,rf,rh,w⟩:=h
 skip
 have tyv:∀ {m1:List Addr} {H1:Hp} {st1:AH} {v:PV} {x:V},RH X.K m1 H1 st1→R X.K m1 H1 v x→(∃xs,bK st1 v=some xs)→tyV X.K "list" x H1:=by
  rintro m1 H1 st1 v x r1 r2 ⟨xs,e⟩
  obtain ⟨a,ys,rfl,g,_⟩:=fz r1 r2 e
  exact .inl ⟨rfl,ys,g⟩
 match xs,hs,h2,ha,hc with
 | [],hs,h2,ha,hc =>
  refine Bu pa slot ty hm ho (mh hy) hl pins s σ H Q I ?_
  refine ⟨mm,ρ,st,rf,rh,ab C.mono o (fun v st1 k m1 H1 x1 e1 r1 r2=>⟨tyv r1 r2 k.1,?_⟩) w⟩
  cases es with
  | nil =>
   have k2:=k.2
   skip
   exact ⟨m1,st1,v,[],r1,r2,Rs_nil.mpr rfl,iU (fun _ _ q=>q.ext e1) k2⟩
  | cons e es=>exact Bool.noConfusion (show false=true from hc)
 | [a],hs,h2,ha,hc =>
  simp only [List.all_cons,List.all_nil,Bool.and_true] at hs
  have st1:starEach [a] X.env=[(false,eval a X.env)]:=bi hs
  refine Bh pa slot ty hm ho ha (mh hy) (by rw [st1];rfl) hl st1 rfl pins s σ H Q I ?_
  refine ⟨mm,ρ,st,rf,rh,ab C.mono o (fun v st1 k m1 H1 x1 e1 r1 r2=>⟨tyv r1 r2 k.1,?_⟩) w⟩
  exact ⟨m1,ρ,st1,rf.mono e1,r1,aw C.mono es (fun vs st2 k m2 H2 xs2 e2 r3 r4=>⟨m2,st2,v,vs,r3,r2.mono e2,r4,iU (fun _ _ q=>q.ext (e1.trans e2)) k⟩) k.2⟩
 | [a,b],hs,h2,ha,hc =>
  simp only [List.all_cons,List.all_nil,Bool.and_true,Bool.and_eq_true] at hs
  have stb:starEach [b] X.env=[(false,eval b X.env)]:=bi hs.2
  have st1:starEach [a,b] X.env=(false,eval a X.env)::starEach [b] X.env:=bi hs.1
  refine Bh pa slot ty hm ho ha (mh hy) (by rw [st1,stb];rfl) hl st1 (by rw [stb];rfl) pins s σ H Q I ?_
  refine ⟨mm,ρ,st,rf,rh,ab C.mono o (fun v st1 k m1 H1 x1 e1 r1 r2=>⟨tyv r1 r2 k.1,?_⟩) w⟩
  exact ⟨m1,ρ,st1,rf.mono e1,r1,aw C.mono es (fun vs st2 k m2 H2 xs2 e2 r3 r4=>⟨m2,st2,v,vs,r3,r2.mono e2,r4,iU (fun _ _ q=>q.ext (e1.trans e2)) k⟩) k.2⟩
 | _::_::_::_,hs,h2,ha,hc=>simp at h2
mutual
theorem PV.bel_le {i j:Nat} (h:i≤j):∀ {v:PV},v.bel i=true→v.bel j=true
 | .non,_=>by rw [PV.bel]
 | .bl _,_=>by rw [PV.bel]
 | .int _,_=>by rw [PV.bel]
 | .str _,_=>by rw [PV.bel]
 | .ref n,z=>by rw [PV.bel] at z ⊢;have:=of_decide_eq_true z;exact decide_eq_true (by omega)
 | .tup xs,z=>by rw [PV.bel] at z ⊢;exact PV.bels_le h z
 | .rdl xs,z=>by rw [PV.bel] at z ⊢;exact PV.bels_le h z
 | .fn _,z=>by rw [PV.bel] at z;cases z
theorem PV.bels_le {i j:Nat} (h:i≤j):∀ {vs:List PV},PV.bels i vs=true→PV.bels j vs=true
 | [],_=>by rw [PV.bels]
 | v::vs,z=>by rw [PV.bels,Bool.and_eq_true] at z ⊢;exact ⟨PV.bel_le h z.1,PV.bels_le h z.2⟩
end
theorem vI (C:COk X c Γ) {a:E} {t:String} {l:Expr} {y z:Str} {p q pos:Pos} (h:(y == ("isinstance":Str) && c.blt y && ah l && z == (t:Str) && c.blt z && kinds.contains t)=true) (ha:PE X l (TEx X.K (wpE Γ a))) :
  PE X (.Call (.Name y p) [l,.Name z q] [] pos) (TEx X.K (wpE Γ (.inst a t))):=by
 simp only [Bool.and_eq_true,beq_iff_eq] at h
 obtain ⟨⟨⟨⟨⟨h1,h2⟩,h3⟩,h4⟩,h5⟩,h6⟩:=h
 subst h1 h4
 have ht:t∈kinds:=List.contains_iff_mem.mp h6
 obtain ⟨g1,g2,g3,g4⟩:=C.bltx h2
 obtain ⟨k1,k2,k3,k4⟩:=C.bltx h5
 rintro pins s σ H Q I ⟨m,ρ,st,rf,rh,w⟩
 skip
 have pt:PE X (.Name (t:Str) q) (tC (.ty t)):=zW k1 k4 (vj t ht) rfl k3 k2
 have hA:PA X [l,.Name (t:Str) q] (jf (TEx X.K (wpE Γ a)) (jf (tC (.ty t)) uu)):=pac ha (pac pt gq) h3
 have hC:eA X (.builtin "isinstance") (fun xs H Q=>∃m st x y n,RH X.K m H st∧R X.K m H x y∧xs=[y,.ty t]∧eD st x=some n∧Q (.bl (iz t n)) H):=by
  rintro pins s σ H xs us Q I r ⟨m,st,x,y,n,r1,r2,rfl,e,q⟩
  obtain ⟨u,v,rfl,ru,rv⟩:=tu r
  cases (show v=Value.type t from rv)
  exact AB (K:=X.K) I r1 r2 ru e ht fun tk=>⟨.bl _,H,I.tok tk,rfl,q⟩
 refine mi hC g1 g4 um hA g3 g2 h3 rfl pins s σ H Q I ?_
 refine ⟨m,ρ,st,rf,rh,ab C.mono a (fun v st1 k m1 H1 x1 e1 r1 r2=>?_) w⟩
 obtain ⟨n,e,k⟩:=k
 exact ⟨m1,st1,v,x1,n,r1,r2,rfl,e,(k.ext e1).here r1 (R_bl.mpr rfl)⟩
theorem yr (C:COk X c Γ) {i:Nat} {y:Str} {p:Pos} (h:(c.N[i]? == some y && c.vis y)=true):PE X (.Name y p) (TEx X.K (wpE Γ (.var i))):=by
 simp only [Bool.and_eq_true,beq_iff_eq] at h
 obtain ⟨h1,h2,h3⟩:=C.visx h.2
 rintro pins s σ H Q I ⟨m,ρ,st,rf,rh,w⟩
 skip
 obtain ⟨v,e,w⟩:=w
 obtain ⟨y,e2,r⟩:=rf.at_ i v e
 exact CH (by rw [C.N];exact h.1) h1 h2 h3 pins s σ H Q I ⟨y,e2,w.here rh r⟩
theorem rD {K:PySem.W.Frag} {m m':List Addr} {H H':Hp} {st st':AH} {Q:EK} {v:PV} {x:V} (rh:RH K m H st) (e:Ext K m H m' H') (rh':RH K m' H' st') (r:R K m' H' v x) (q:Tmp st Q v st') :
  ∃st1,Q v st1∧Ext K m H m H'∧RH K m H' st1∧R K m H' v x:=by
 obtain ⟨st1,g,rfl,hl,hs,hb,q⟩:=q
 have hm:m'.take m.length=m:=by
  obtain ⟨t,ht⟩:=e.pre
  rw [←ht,List.take_left]
 have hlen:m.length=st.length:=rh.len
 refine ⟨st1,q,⟨List.prefix_refl _,fun _ z=>.inl z,e.fr,e.tup,e.rdf,e.tbs,e.tb⟩,⟨by rw [hl,hlen],rh.nd,fun n c a h1 h2=>?_,e.tb rh.tb⟩,?_⟩
 ·have hn:n<st1.length:=(List.getElem?_eq_some_iff.mp h1).1
  have c1:CellR K m' H' c a:=rh'.at_ n c a (by rw [List.getElem?_append_left hn];exact h1) (lH e.pre h2)
  have hc:c.bec m.length=true:=by
   rcases hs n (by omega) with z|⟨c',z,zb⟩
   ·rw [h1] at z
    exact (rh.at_ n c a z.symm h2).bel
   ·rw [h1] at z
    cases z
    have zb':∀ {c:Cell},c.bel 0=true→c.bec m.length=true:=by
     have b0:∀(xs:List PV),PV.bels 0 xs=true→PV.becs m.length xs=true:=fun xs h=>PV.bels_becs (Nat.zero_le _) h
     intro c h
     cases c with
     | lst xs=>exact b0 _ h
     | dk kvs=>exact b0 _ h
    exact zb' zb
  have:=c1.cut hc
  rw [hm] at this
  exact this
 ·have:=r.cut (k:=m.length) (by rw [hlen];exact PV.bel_bec (Nat.le_refl _) hb)
  rw [hm] at this
  exact this
noncomputable def postF (K:PySem.W.Frag) (m:List Addr) (H:Hp) (Q:L2.St→Hp→Prop):Fr→AH→Prop:=fun ρ' st'=>∀m' H' σ',Ext K m H m' H'→RH K m' H' st'→RF K m' H' ρ' σ'→Q σ' H'
theorem postF.ext {K:PySem.W.Frag} {m m1:List Addr} {H H1:Hp} {Q:L2.St→Hp→Prop} (x:Ext K m H m1 H1) {ρ:Fr} {st:AH} (q:postF K m H Q ρ st):postF K m1 H1 Q ρ st:=fun m' H' σ' e r s=>q m' H' σ' (x.trans e) r s
theorem postF.here {K:PySem.W.Frag} {m:List Addr} {H:Hp} {Q:L2.St→Hp→Prop} {ρ:Fr} {σ:L2.St} {st:AH} (q:postF K m H Q ρ st) (h:RH K m H st) (r:RF K m H ρ σ):Q σ H:=q m H σ (Ext.refl _ _ _) h r
noncomputable def TGx (K:PySem.W.Frag) (w:PV→Fr→AH→(Fr→AH→Prop)→Prop):TG:=fun v' σ H Q=>∃m ρ st v,RF K m H ρ σ∧RH K m H st∧R K m H v v'∧w v ρ st (postF K m H Q)
noncomputable def Ei (K:PySem.W.Frag) (w:List PV→Fr→AH→(Fr→AH→Prop)→Prop):TGs:=fun v' σ H Q=>∃m ρ st v,RF K m H ρ σ∧RH K m H st∧Rs K m H v v'∧w v ρ st (postF K m H Q)
theorem COk.locx (C:COk X c Γ) {x:Str} (h:c.loc x=true):Loc X.env.scope x∧(X.fn x=true∨X.env.scope.names.lookup x=some .local):=by
 unfold Cfg.loc at h
 simp only [Bool.or_eq_true,beq_iff_eq] at h
 exact C.loc x h
theorem COk.ndX (C:COk X c Γ):X.N.Nodup:=by rw [C.N];exact C.nd
theorem ja {e:Expr} {es:List Expr} {env:Env} (h:ah e=true):assignEach (e::es) env=(false,assign e env)::assignEach es env:=by
 cases e <;> first|rfl|cases h
theorem jj {c:Cfg}:∀ {ts:Tgs} {xs:List Expr} {env:Env},nk c ts xs=true→(assignEach xs env).length=ts.size∧(assignEach xs env).findIdx? (·.1)=none
 | .nil,xs,env,h=>by
  have h:xs.isEmpty=true:=h
  cases xs with
  | nil=>exact ⟨rfl,rfl⟩
  | cons _ _=>cases h
 | .cons t ts,xs,env,h=>by
  replace h:=ay h
  obtain ⟨y,ys,rfl,h⟩:=h
  ·simp only [Bool.and_eq_true] at h
   obtain ⟨⟨h1,h2⟩,h3⟩:=h
   obtain ⟨g1,g2⟩:=jj (env:=env) h3
   rw [ja h1]
   exact ⟨by simp [g1,Tgs.size],by simp [List.findIdx?_cons,g2]⟩
structure sS (K:PySem.W.Frag) (J:L2.It) (xs:List PV) (chk:AH→Prop) (m0:List Addr) (H0:Hp):Prop where
 stop:∀m H st,Ext K m0 H0 m H→RH K m H st→chk st→J.stop xs.length H
 item:∀(i:Nat) v m H st,Ext K m0 H0 m H→RH K m H st→chk st→xs[i]?=some v→J.go i H∧∀x H',J.yld i H x H'→Ext K m H m H'∧RH K m H' st∧R K m H' v x
noncomputable def TIx (K:PySem.W.Frag) (w:Fr→AH→(List PV→(AH→Prop)→AH→Prop)→Prop):TI:=fun σ H Rr=>∃m ρ st,RF K m H ρ σ∧RH K m H st ∧
 w ρ st fun xs chk st1=>∀m1 H1 J,Ext K m H m1 H1→RH K m1 H1 st1→sS K J xs chk m1 H1→Rr J H1
theorem tO {x:Expr} {env:Env} (h:nq x=true):∀v,foldedSetIterable x env v=pure v:=by
 cases x <;> first|(intro _;rfl)|cases h
theorem BM {tg l:Expr} {tl:TE} (hl:PE X l tl):PI X tg l (fun σ H Rr=>tl σ H fun x H1=>∃a,x=.ref a∧((∃xs,SqL X.K H1 a xs)∧Rr (Itl X.K a) H1∨(∃xs,SqT X.K H1 a xs)∧Rr (Itt X.K a) H1)):=by
 intro pins s σ H Rr I h
 refine thn (hl pins s σ H _ I h) fun v s1 ⟨x,H1,I1,r1,q1⟩=>?_
 obtain ⟨a,e,q1⟩:=q1
 subst e
 cases r1
 rcases q1 with ⟨⟨xs,hq⟩,q⟩|⟨⟨xs,hq⟩,q⟩
 ·obtain ⟨its,rv,p,hz⟩:=I1.list hq
  refine wpAny_pyIter_list p.isList ?_
  refine ⟨s1.heap.objs.size,[s1.heap.objs.size],_,_,H1,rfl,I1.kept (t':=s1.toks) fun b o e=>Heap.get?_push_of_some _ e,xg a _,⟨_,Heap.get?_push_size _ rfl,rfl,rfl⟩,fun b hb=>?_,q⟩
  have e:b=s1.heap.objs.size:=by simpa using hb
  subst e
  exact I1.fpOk (Nat.le_refl _) (I1.hok.fresh (Nat.le_refl _))
 ·obtain ⟨its,rv,p,hz⟩:=I1.tuple hq
  refine wpAny_pyIter_tuple (show s1.heap.IsTuple a its.toArray from p) ?_
  refine ⟨s1.heap.objs.size,[s1.heap.objs.size],_,_,H1,rfl,I1.kept (t':=s1.toks) fun b o e=>Heap.get?_push_of_some _ e,uG a _,⟨_,Heap.get?_push_size _ rfl,rfl,rfl⟩,fun b hb=>?_,q⟩
  have e:b=s1.heap.objs.size:=by simpa using hb
  subst e
  exact I1.fpOk (Nat.le_refl _) (I1.hok.fresh (Nat.le_refl _))
theorem Rd.inj {H:Hp} {a:Addr} {u u':HO} (h:L2.Rd H a u) (h':L2.Rd H a u') (n:∀o p,u≠.frz o p) (n':∀o p,u'≠.frz o p):u=u':=by
 rcases h with h|⟨o,h⟩ <;> rcases h' with h' | ⟨o',h'⟩
 ·rw [h] at h';exact Option.some.inj h'
 ·rw [h] at h';exact absurd (Option.some.inj h') (n _ _)
 ·rw [h] at h';exact absurd (Option.some.inj h').symm (n' _ _)
 ·rw [h] at h';cases h';rfl
theorem xl {K:PySem.W.Frag} {m0:List Addr} {H0:Hp} {st0:AH} {n:Nat} {a:Addr} {xs:List PV} (rh:RH K m0 H0 st0) (e:st0[n]?=some (.lst xs)) (ea:m0[n]?=some a):sS K (Itl K a) xs (fun st'=>st'[n]?=st0[n]?) m0 H0:=by
 have get:∀m H st,Ext K m0 H0 m H→RH K m H st→st[n]?=st0[n]?→∃ys,H a=some (.lst ys)∧Rs K m H xs ys:=fun m H st x r q=>by
  rw [e] at q
  exact r.at_ n _ a q (lH x.pre ea)
 refine ⟨fun m H st x r q=>?_,fun i v m H st x r q ev=>?_⟩
 ·obtain ⟨ys,h1,h2⟩:=get m H st x r q
  exact ⟨ys,SqL.of h1,by rw [h2.len];exact Nat.le_refl _⟩
 ·obtain ⟨ys,h1,h2⟩:=get m H st x r q
  obtain ⟨y,e1,r1⟩:=h2.get ev
  refine ⟨⟨ys,y,SqL.of h1,e1⟩,fun z H' ⟨e2,e3⟩=>?_⟩
  subst e2
  have:=e3 ys (SqL.of h1)
  rw [e1] at this
  cases this
  exact ⟨Ext.refl _ _ _,r,r1⟩
theorem yG {K:PySem.W.Frag} {m0:List Addr} {H0:Hp} {a:Addr} {xs:List PV} {ys:List V} (h:RdF K H0 a ys) (r0:Rs K m0 H0 xs ys):sS K (Itl K a) xs (fun _=>True) m0 H0:=by
 refine ⟨fun m H st x r q=>⟨ys,(x.rdf _ _ h).sq,by rw [r0.len];exact Nat.le_refl _⟩,fun i v m H st x r q ev=>?_⟩
 obtain ⟨y,e1,r1⟩:=(r0.mono x).get ev
 refine ⟨⟨ys,y,(x.rdf _ _ h).sq,e1⟩,fun z H' ⟨e2,e3⟩=>?_⟩
 subst e2
 have:=e3 ys (x.rdf _ _ h).sq
 rw [e1] at this
 cases this
 exact ⟨Ext.refl _ _ _,r,r1⟩
theorem ye {K:PySem.W.Frag} {m0:List Addr} {H0:Hp} {a:Addr} {xs:List PV} {ys:List V} (h:SqT K H0 a ys) (r0:Rs K m0 H0 xs ys):sS K (Itt K a) xs (fun _=>True) m0 H0:=by
 refine ⟨fun m H st x r q=>⟨ys,x.tup _ _ h,by rw [r0.len];exact Nat.le_refl _⟩,fun i v m H st x r q ev=>?_⟩
 obtain ⟨y,e1,r1⟩:=(r0.mono x).get ev
 refine ⟨⟨ys,y,x.tup _ _ h,e1⟩,fun z H' ⟨e2,e3⟩=>?_⟩
 subst e2
 have:=e3 ys (x.tup _ _ h)
 rw [e1] at this
 cases this
 exact ⟨Ext.refl _ _ _,r,r1⟩
theorem ox {K:PySem.W.Frag} {m0:List Addr} {H0:Hp} {lo:Int} {n:Nat}:sS K (Itr lo n) (df lo n) (fun _=>True) m0 H0:=by
 refine ⟨fun m H st x r q=>by show n≤_;simp [df],fun i v m H st x r q ev=>?_⟩
 unfold df at ev
 rw [List.getElem?_map] at ev
 have hi:i<n:=by
  by_cases hi:i<n
  ·exact hi
  ·rw [List.getElem?_eq_none (by simp;omega)] at ev;cases ev
 rw [List.getElem?_range hi] at ev
 cases ev
 refine ⟨hi,fun z H' ⟨e2,e3⟩=>?_⟩
 subst e2 e3
 exact ⟨Ext.refl _ _ _,r,R_int.mpr rfl⟩
end
end FW
set_option Elab.async false
set_option linter.all false
set_option maxRecDepth 100000
namespace FW
open PySem PySem.Spec PyProof.Rows L2 HX
section
variable {X:Cx} {c:Cfg} {Γ:Nat→FSp}
theorem p6:∀ {us:List Value} {ns:List Int},Vals (ns.map V.int) us→IntsAre us ns
 | _,[],h=>by cases h;exact .nil
 | _,n::ns,h=>by
  cases h with
  | cons r1 r2 =>
   obtain ⟨t,rfl⟩:=r1
   exact .cons n t (p6 r2)
theorem xq {pins:List (Addr × Obj)} {σ:L2.St} {H:Hp} {s:Shared} (I:L2.Inv X pins σ H s) (d:Drawn):L2.Inv X pins σ H { s with drawn:=d } :=
 ⟨I.ok,I.os,I.bare,I.base,I.loc,I.cell,I.free,I.freeC,I.pin,I.hok,I.len⟩
noncomputable def AU (prog:Program) (w:World) (a:Addr) (ns:List Int):HO:=.ext fun h=>SetZ prog w (!(byT w)) h a ns
theorem wJ (hcalm:X.calm=true):eA X (.type "set") (fun xs H Q=>∃p ns,xs=[V.ref p]∧H p=some (.lst (ns.map V.int))∧ns.length<60∧∀a,H a=none→Q (.ref a) (upd H a (AU X.prog X.w a ns))):=by
 rintro pins s σ H xs us Q I r ⟨p,ns,rfl,hp,hn,q⟩
 obtain ⟨u,rfl,ru⟩:=nF r
 cases ru
 obtain ⟨its,ri,pl,_⟩:=I.list (.inl (.inl hp))
 have hi:=p6 ri
 have ln:its.length=ns.length:=IntsAre.length hi
 refine wn (I.ok.hd hcalm) pl.isList (by simpa using hi) (by rw [List.size_toArray];omega) fun h' tk hZ k=>?_
 refine ⟨.ref s.heap.objs.size,_,I.laid (t':=tk) (fun b u e=>k b u (Heap.lt_size e) e) (Nat.le_refl _) (show ObjOk X.prog X.w _ _ _ (AU X.prog X.w s.heap.objs.size ns) from ⟨hZ,?_,fun h1 h2 z e=>z.at e⟩),rfl,q _ (I.hok.fresh (Nat.le_refl _))⟩
 obtain ⟨es,ep,t,ho,_⟩:=hZ
 exact ⟨_,ho⟩
theorem uI (hcalm:X.calm=true):eA X (.builtin "sorted") (fun xs H Q=>∃p ns,xs=[V.ref p]∧H p=some (AU X.prog X.w p ns)∧ns.length<60∧∀ns':List Int,ns'.Pairwise (·< ·)→(∀i,i∈ns'↔i∈ns)→ns'.length≤ns.length→∀l,H l=none→Q (.ref l) (upd H l (.lst (ns'.map V.int)))):=by
 rintro pins s σ H xs us Q I r ⟨p,ns,rfl,hp,hn,q⟩
 obtain ⟨u,rfl,ru⟩:=nF r
 cases ru
 have hZ:SetZ X.prog X.w (!(byT X.w)) s.heap p ns:=(I.hok p _ hp).1
 refine uQ (I.ok.hd hcalm) hZ (by omega) fun h' tk d l out e ns' k zl he a1 a2 a3 a4=>?_
 refine ⟨.ref l,_,(xq I d).laid (t':=tk) (fun b u e=>k b u (Heap.lt_size e) e) zl (show ObjOk X.prog X.w _ _ _ (.lst (ns'.map V.int)) from ⟨?_,out.toList,e,p9 a1,he⟩),rfl,q ns' a2 a3 a4 _ (I.hok.fresh zl)⟩
 rw [List.length_map]
 exact Nat.le_of_lt (m9 (by omega))
theorem Al (C:COk X c Γ) {y z:Str} {u:Expr} {p p2 p3 p4:Pos} {a:E} (h1:y="sorted") (h2:c.blt y=true) (h3:z="set") (h4:c.blt z=true) (h5:ah (.Call (.Name z p4) [u] [] p3)=true) (h6:ah u=true) (ha:PE X u (TEx X.K (wpE Γ a))) :
  PE X (.Call (.Name y p2) [.Call (.Name z p4) [u] [] p3] [] p) (TEx X.K (wpE Γ (.sset a))):=by
 obtain ⟨a1,a2,a3,a4⟩:=C.bltx h2
 obtain ⟨b1,b2,b3,b4⟩:=C.bltx h4
 have v1:bootBuiltins y=some (.builtin "sorted"):=by rw [h1];decide +kernel
 have v2:bootBuiltins z=some (.type "set"):=by rw [h3];decide +kernel
 have inner:=nr (pos:=p3) (p:=p4) (wJ C.calm) b1 b4 v2 (pac ha gq h6) b3 b2 h6 rfl
 intro pins s σ H Q I h
 refine mi (pos:=p) (p:=p2) (uI C.calm) a1 a4 v1 (pac inner gq h5) a3 a2 h5 rfl pins s σ H Q I ?_
 obtain ⟨m,ρ,st,rf,rh,w⟩:=h
 refine ⟨m,ρ,st,rf,rh,ab C.mono a (fun v st1 k m1 H1 x1 e1 r1 r2=>?_) w⟩
 obtain ⟨n,rfl,ns,h1,h2,k⟩:=k
 obtain ⟨b,ys,rfl,eb,gg,ry⟩:=r1.lst h1 r2
 obtain rfl:=nh ry
 refine ⟨b,ns,rfl,gg,h2,fun q hq=>⟨q,ns,rfl,bB,h2,fun ns' p1 p2 p3 l hl=>?_⟩⟩
 have rr:=r1.newT (o:=AU X.prog X.w q ns) hq
 exact k ns' p1 p2 p3 _ _ _ ((e1.trans (Ext.newT r1 hq)).trans (Ext.new1 rr hl)) (rr.newL hl yc) (R.last rr.len)
end
end FW
set_option Elab.async false
set_option linter.all false
set_option maxRecDepth 100000
set_option maxHeartbeats 1000000
namespace FW
open PySem PySem.Spec PyProof.Rows L2 HX
section
variable {X:Cx} {pins:List (Addr × Obj)} {σ:L2.St} {H:Hp} {s:Shared} {h':Heap}
theorem v_ {t':Nat} {wr:List Addr} (I:L2.Inv X pins σ H s) (k:∀b o,b ∉ wr→s.heap.get? b=some o→h'.get? b=some o) (hf:∀b∈wr,mW X pins H b):L2.Inv X pins σ H { s with heap:=h',toks:=t' }:=by
 have nit:∀b u,H b=some u→b ∉ wr:=fun b u e z=>by rw [(hf b z).1] at e;cases e
 refine I.step (g':=s.gens) (d':=s.drawn) (ch:=wr) (fun b hb=>⟨(hf b hb).2.2.2.1,(hf b hb).2.1,(hf b hb).2.2.2.2.1,(hf b hb).2.2.2.2.2⟩) (fun b o _ _ hc e _=>k b o hc e) (fun b o _ _ hc e _=>⟨o.slots,k b o hc e⟩) (fun _ _ _ _ n=>n)
  (fun b o hc e=>⟨o,k b o hc e⟩) (fun _ _ e=>e) (fun _ _ _ e=>e) (fun b ps e=>⟨#[],by rw [e];simp⟩) (fun m hm=>?_) (fun b u e=>?_) I.bare
 ·obtain ⟨o,es,ep,ho,r⟩:=hm
  exact ⟨o,es,ep,k _ o (fun z=>(hf _ z).2.1 rfl) ho,r⟩
 ·refine (I.hok b u e).stay (fun c v hc q=>k c v ?_ q) (fun _ q=>q) fun _ _ q=>q
  rcases hc with z|z
  ·rw [z];exact nit b u e
  ·exact nit c _ z
theorem vM {t':Nat} {wr:List Addr} {T:Addr} {xs:List V} {its:List Value} (I:L2.Inv X pins σ H s) (k:∀b o,b ∉ wr→s.heap.get? b=some o→h'.get? b=some o) (hf:∀b∈wr,mW X pins H b)
  (hT:s.heap.objs.size≤T) (hx:Vals xs its) (hz:xs.length≤sizeLine) (ht:h'.IsTuple T its.toArray):L2.Inv X pins σ (upd H T (.tup xs)) { s with heap:=h',toks:=t' }:=by
 have nit:∀b u,H b=some u→b ∉ wr:=fun b u e z=>by rw [(hf b z).1] at e;cases e
 have hn:H T=none:=I.hok.fresh hT
 have up:∀b u,H b=some u→upd H T (.tup xs) b=some u:=fun b u e=>by rw [af (av e hn)];exact e
 refine I.step (g':=s.gens) (d':=s.drawn) (ch:=wr) (fun b hb=>⟨(hf b hb).2.2.2.1,(hf b hb).2.1,(hf b hb).2.2.2.2.1,(hf b hb).2.2.2.2.2⟩) (fun b o _ _ hc e _=>k b o hc e) (fun b o _ _ hc e _=>⟨o.slots,k b o hc e⟩)
  (fun b o _ e n=>by rw [af (Nat.ne_of_lt (Nat.lt_of_lt_of_le (Heap.lt_size e) hT))];exact n)
  (fun b o hc e=>⟨o,k b o hc e⟩) (fun b _ e=>up b _ e) (fun b _ _ e=>up b _ e) (fun b ps e=>⟨#[],by rw [up b _ e];simp⟩) (fun m hm=>?_) (fun b u e=>?_) I.bare
 ·obtain ⟨o,es,ep,ho,r⟩:=hm
  exact ⟨o,es,ep,k _ o (fun z=>(hf _ z).2.1 rfl) ho,r⟩
 ·by_cases hb:b=T
  ·subst hb
   rw [bB] at e
   cases e
   exact ⟨hz,its,hx,ht⟩
  ·rw [af hb] at e
   refine (I.hok b u e).stay (fun c v hc q=>k c v ?_ q) (fun c q=>up c _ q) fun c _ q=>up c _ q
   rcases hc with z|z
   ·rw [z];exact nit b u e
   ·exact nit c _ z
end
theorem jD:∀ {xs ys:List PV},(mq xs ys).length=min xs.length ys.length
 | [],ys=>by simp [mq]
 | x::xs,[]=>by simp [mq]
 | x::xs,y::ys=>by simp only [mq,List.length_cons,jD (xs:=xs) (ys:=ys)];omega
theorem j':∀ {xs ys:List PV} {i:Nat} {v:PV},(mq xs ys)[i]?=some v→∃x y,xs[i]?=some x∧ys[i]?=some y∧v=.tup [x,y]
 | [],ys,i,v,h=>by simp [mq] at h
 | x::xs,[],i,v,h=>by simp [mq] at h
 | x::xs,y::ys,0,v,h=>by simp [mq] at h;exact ⟨x,y,rfl,rfl,h.symm⟩
 | x::xs,y::ys,i+1,v,h=>by
  simp only [mq,List.getElem?_cons_succ] at h ⊢
  exact j' h
theorem AI {X:Cx} {es:List Expr} {k:Nat} {t:TGs} {n:Nat} {pos:Pos} (hc:X.calm=true) (h:PGs X es t) (hn:(assignEach es X.env).length=n) (hst:(assignEach es X.env).findIdx? (·.1)=none) :
  PG X (.Tuple es k pos) (fun v σ H Q=>∃a xs,v=.ref a∧SqL X.K H a xs∧xs.length=n∧t xs σ H Q):=by
 intro pins s σ H v u Q I r hw
 obtain ⟨a,xs,e1,hq,hl,hw⟩:=hw
 subst e1
 cases r
 obtain ⟨its,rv,ht,hz⟩:=I.list hq
 rw [PyProof.Rows.assign_Tuple]
 refine wpAny_bind (wpAny_standAt ?_)
 unfold unpack
 rw [hst]
 have hsz:(assignEach es X.env).length=its.toArray.size:=by simp [hn,←hl,rv.length]
 rw [hsz]
 refine wpAny_bind (wpAny_holding (PySem.W.kun_itemsOf (I.ok.hd hc) ht.isList fun h' hx=>?_))
 have I1:L2.Inv X pins σ H { s with heap:=h' }:=I.kept (t':=s.toks) fun b o e=>hx b o (Nat.ne_of_lt (Heap.lt_size e)) e
 exact h pins _ σ H xs _ Q I1 (by simpa using rv) hw
end FW
set_option Elab.async false
set_option linter.all false
set_option maxRecDepth 100000
set_option maxHeartbeats 1000000
namespace FW
open PySem PySem.Spec PyProof.Rows L2 HX
theorem AL {h:Heap} {it t:Addr} {i:Nat} {x:Value} {o:Obj} {k:Nat} (e:h.get? it=some o) (hc:o.cls=.type "tuple_iterator") (hd:o.data=.fields #[.ref t,.int (i:Int) 0]) :
  (h.update it (Obj.mapFields fun z=>z.setIfInBounds k x)).get? it=some (Obj.mapFields (fun z=>z.setIfInBounds k x) o):=by
 refine Heap.get?_update_self _ e ?_
 obtain ⟨c,d,da,sl⟩:=o
 simp only at hc hd
 subst hc hd
 rfl
theorem ug (it t:Addr) (i:Nat) (items:Array Value) (x:Value):Meets (Builtin.«tuple_iterator.__next__» { pos:=[.ref it] }) fun _ R s =>
  s.heap.IsTupleIter it t i∧s.heap.IsTuple t items∧items[i]?=some x∧∀h',h'.IsTupleIter it t (i+1)→Heap.SameBut it s.heap h'→R (.ok (.ret x)) { s with heap:=h' }:=by
 intro prog w A R s ⟨⟨o,e,hc,hd⟩,⟨o2,e2,hc2,n,hd2⟩,hx,h⟩
 refine wpAny_bind (wpAny_pure ?_)
 refine wpAny_bind (wpAny_field (i:=0) e hd rfl ?_)
 refine wpAny_bind (wpAny_field (i:=1) e hd rfl ?_)
 refine wpAny_bind (wpAny_seqItems e2 hd2 ?_)
 show wpAny _ _ (match items[((i:Nat):Int).toNat]? with|some x=>_|none=>_) _ _ _
 rw [Int.toNat_natCast,hx]
 refine wpAny_bind (wpAny_setField e hd (Nat.lt_succ_self 1) ?_)
 refine wpAny_pure ?_
 refine h _ ⟨_,AL e hc hd,?_,?_⟩ (Heap.SameBut.update _ _ _)
 ·obtain ⟨c,d,da,sl⟩:=o
  simp only at hc hd
  subst hc hd
  rfl
 ·obtain ⟨c,d,da,sl⟩:=o
  simp only at hc hd
  subst hc hd
  show Data.fields #[.ref t,rawInt ((i:Int)+1)]=Data.fields #[.ref t,.int ((i+1:Nat):Int) 0]
  rw [Int.natCast_add]
  rfl
theorem zS {α:Type} {M:Model} {A:Around} {E:Value→Shared→Prop} {s:Shared} {Q:α→Shared→Prop} (hh:A.handled=none) (h:∀h' e,(∀b o,s.heap.get? b=some o→h'.get? b=some o)→(∃o,h'.get? e=some o∧o.cls=.type "StopIteration")→E (.ref e) { s with heap:=h' }) :
  wpAny M A (Builtin.SmallTypes.stopIteration:Sem α) Q E s:=by
 refine wpAny_bind ?_
 refine wpAny_bind (wpAny_newTuple ?_)
 refine wpAny_bind (wpAny_pure ?_)
 refine wpAny_newObj_type (wpAny_raiseNew_none hh ?_)
 refine h _ _ (fun b o e=>Heap.get?_push_of_some _ (Heap.get?_push_of_some _ e)) ⟨_,Heap.get?_push_size _ rfl,rfl⟩
theorem uW (it t:Addr) (i:Nat) (items:Array Value):Meets (Builtin.«tuple_iterator.__next__» { pos:=[.ref it] }) fun A R s =>
  A.handled=none∧s.heap.IsTupleIter it t i∧s.heap.IsTuple t items∧items[i]?=none∧∀h' e,Heap.ExtBut it s.heap h'→(∃o,h'.get? e=some o∧o.cls=.type "StopIteration")→R (.error (.ref e)) { s with heap:=h' }:=by
 intro prog w A R s ⟨hh,⟨o,e,hc,hd⟩,⟨o2,e2,hc2,n,hd2⟩,hx,h⟩
 refine wpAny_bind (wpAny_pure ?_)
 refine wpAny_bind (wpAny_field (i:=0) e hd rfl ?_)
 refine wpAny_bind (wpAny_field (i:=1) e hd rfl ?_)
 refine wpAny_bind (wpAny_seqItems e2 hd2 ?_)
 show wpAny _ _ (match items[((i:Nat):Int).toNat]? with|some x=>_|none=>_) _ _ _
 rw [Int.toNat_natCast,hx]
 refine wpAny_bind (wpAny_rule ?_)
 refine wpAny_bind (wpAny_setField e hd (Nat.zero_lt_succ 1) ?_)
 refine zS hh fun h' x k1 k2=>h h' x (fun b o' hb eb=>k1 b o' ?_) k2
 show (s.heap.update it _).get? b=some o'
 rw [Heap.get?_update_ne _ _ _ _ hb]
 exact eb
section
variable {prog:Program} {w:World} {A:Around} {E:Value→Shared→Prop} {s:Shared} {it t:Addr} {i:Nat} {items:Array Value}
theorem kF {x:Value} {Q:Value→Shared→Prop} (hi:s.heap.IsTupleIter it t i) (ht:s.heap.IsTuple t items) (hx:items[i]?=some x) (h:∀h',h'.IsTupleIter it t (i+1)→Heap.SameBut it s.heap h'→Q x { s with heap:=h' }) :
  wpAny (model prog w) A (Builtin.SmallTypes.nextOf (.ref it)) Q E s:=by
 refine wpAny_bind (wpAny_callSpecial?_slot hi.typeIs F.slot_tuple_iterator_next ?_)
 refine call_meets F.slot_tuple_iterator_next hi.typeIs F.entry_tuple_iterator_next (F.args_tuple_iterator_next_1 _) (ug it t i items x) ⟨hi,ht,hx,fun h' k1 k2=>wpAny_pure (h h' k1 k2)⟩
theorem mE {Q:Value→Shared→Prop} (hh:A.handled=none) (hi:s.heap.IsTupleIter it t i) (ht:s.heap.IsTuple t items) (hx:items[i]?=none) (h:∀h' e,Heap.ExtBut it s.heap h'→(∃o,h'.get? e=some o∧o.cls=.type "StopIteration")→E (.ref e) { s with heap:=h' }) :
  wpAny (model prog w) A (Builtin.SmallTypes.nextOf (.ref it)) Q E s:=by
 refine wpAny_bind (wpAny_callSpecial?_slot hi.typeIs F.slot_tuple_iterator_next ?_)
 exact call_meets F.slot_tuple_iterator_next hi.typeIs F.entry_tuple_iterator_next (F.args_tuple_iterator_next_1 _) (uW it t i items) ⟨hh,hi,ht,hx,h⟩
end
theorem ow {h h':Heap} {it t:Addr} {i:Nat} (k:∀o,h.get? it=some o→h'.get? it=some o) (z:h.IsTupleIter it t i):h'.IsTupleIter it t i:=by
 obtain ⟨o,e,r⟩:=z
 exact ⟨o,k o e,r⟩
theorem n_ {h h':Heap} {t:Addr} {items:Array Value} (k:∀o,h.get? t=some o→h'.get? t=some o) (z:h.IsTuple t items):h'.IsTuple t items:=by
 obtain ⟨o,e,r⟩:=z
 exact ⟨o,k o e,r⟩
theorem mF {prog:Program} {w:World} {A:Around} (hh:A.handled=none) (it t:Addr) (hne:t≠it) (items:Array Value) :
  Draws prog w A it [it,t] items.size (fun i v=>items[i]?=some v) fun i h=>h.IsTupleIter it t i∧h.IsTuple t items where
 live:=fun i h z=>let ⟨o,e,_⟩:=z.1;⟨o,e⟩
 frame:=fun i h h' z k=>⟨ow (fun o e=>k it (by simp) o e) z.1,n_ (fun o e=>k t (by simp) o e) z.2⟩
 item:=fun i s Q E hi z h=>kF z.1 z.2 (Array.getElem?_eq_getElem hi) fun h' k1 k2=>h _ h' s.toks (Array.getElem?_eq_getElem hi) ⟨k1,n_ (fun o e=>by rw [k2.2 t hne];exact e) z.2⟩ k2
 done:=fun s Q E z h=>mE hh z.1 z.2 (Array.getElem?_eq_none (Nat.le_refl _)) h
theorem td (t:Addr) (items:Array Value):Meets (Builtin.«enumerate.__new__» { pos:=[.type "enumerate",.ref t] }) fun _ R s =>
  s.heap.IsTuple t items∧∀h',IsEnum h' (s.heap.objs.size+1) s.heap.objs.size 0 .none→h'.IsTupleIter s.heap.objs.size t 0→(∀b o,s.heap.get? b=some o→h'.get? b=some o)→R (.ok (.ret (.ref (s.heap.objs.size+1)))) { s with heap:=h' }:=by
 intro prog w A R s ⟨ht,h⟩
 refine wpAny_bind ?_
 refine wpAny_bind (wpAny_pure ?_)
 rw [sub_enumerate]
 refine wpAny_bind (wpAny_pure ?_)
 refine wpAny_pure ?_
 refine wpAny_bind (wpAny_bind (wpAny_stack fun st _ _ _=>wpAny_pure ?_))
 have fin:wpAny (model prog w) A.in1 (do
   let i ←pyIter (.ref t)
   let r ←Builtin.SmallTypes.newRecord (.type "enumerate") (Builtin.SmallTypes.ownedTupleFields++[i,rawInt 0,.none,.none])
   ret r) (fun fin s'=>match fin with
   | Fin.done f=>R (Except.ok f) s'
   | Fin.again c'=>c'.quiet=true∧codeAny (model prog w) A c' R s') (fun e s'=>R (Except.error e) s') s:=by
  refine wpAny_bind (wpAny_pyIter_tuple ht ?_)
  refine wpAny_bind (wpAny_newObj_type (T:="enumerate") (data:=.fields #[.none,.bool false,.ref s.heap.objs.size,rawInt 0,.none,.none]) ?_)
  refine wpAny_pure ?_
  have hl:(s.heap.push { cls:=.type "tuple_iterator",data:=.fields #[.ref t,.int 0 0] }).objs.size=s.heap.objs.size+1:=Heap.size_push ..
  have:=h ((s.heap.push { cls:=.type "tuple_iterator",data:=.fields #[.ref t,.int 0 0] }).push { cls:=.type "enumerate",data:=.fields #[.none,.bool false,.ref s.heap.objs.size,rawInt 0,.none,.none] }) (by
   have e:=Heap.get?_push_size (s.heap.push { cls:=.type "tuple_iterator",data:=.fields #[.ref t,.int 0 0] }) (o:={ cls:=.type "enumerate",data:=.fields #[.none,.bool false,.ref s.heap.objs.size,rawInt 0,.none,.none] }) rfl
   rw [hl] at e
   exact e) ⟨_,Heap.get?_push_of_some _ (Heap.get?_push_size _ rfl),rfl,rfl⟩ (fun b o e=>Heap.get?_push_of_some _ (Heap.get?_push_of_some _ e))
  rw [←hl] at this
  exact this
 split
 ·rename_i c _ _ _ _ _
  generalize (c == Value.type "enumerate")=b
  cases b with
  | true=>exact wpAny_bind (m:=pure (Value.ref t,none)) (wpAny_pure fin)
  | false=>exact wpAny_bind (m:=pure (Value.ref t,none)) (wpAny_pure fin)
 ·exact wpAny_bind (m:=pure (Value.ref t,none)) (wpAny_pure fin)
theorem u7 {prog:Program} {w:World} {A:Around} {E:Value→Shared→Prop} {s:Shared} {t:Addr} {items:Array Value} {Q:Value→Shared→Prop} (ht:s.heap.IsTuple t items)
  (h:∀h',IsEnum h' (s.heap.objs.size+1) s.heap.objs.size 0 .none→h'.IsTupleIter s.heap.objs.size t 0→(∀b o,s.heap.get? b=some o→h'.get? b=some o)→Q (.ref (s.heap.objs.size+1)) { s with heap:=h' }) :
  wpAny (model prog w) A (call (.type "enumerate") [.ref t]) Q E s:=by
 refine callType_new F.called_enumerate rfl (F.typeCall_enumerate_1 _) (F.newCall_enumerate_1 _) (fun obj=>?_) F.entry_enumerate_new (td t items) ⟨ht,fun h' k1 k2 k3=>⟨⟨_,k1,rfl⟩,h h' k1 k2 k3⟩⟩
 exact F.args_object_init_2 _ _
noncomputable def Ite (K:PySem.W.Frag) (a:Addr):L2.It :=
 ⟨fun i H=>∃xs x,SqT K H a xs∧xs[i]?=some x,
  fun i H v H'=>∃T,v=.ref T∧H T=none∧∀xs x,SqT K H a xs→xs[i]?=some x→H'=upd H T (.tup [.int i,x]),
  fun i H=>∃xs,SqT K H a xs∧i=xs.length⟩
noncomputable def BI (a e it:Addr) (i:Nat) (h:Heap):Prop:=(∃old,IsEnum h e it (i:Int) old)∧h.IsTupleIter it a i
theorem xh {P:Program} {w:World} {K:PySem.W.Frag} {elts:List Expr} {kt:Nat} {pt:Pos} {a e it:Addr} (h1:e≠it) (h2:a≠e) (h3:a≠it) :
  wX P w K (.Tuple elts kt pt) (Ite K a) [e,it] e (BI a e it) where
 mem:=by simp
 obj:=fun i h st c hc=>by
  obtain ⟨⟨old,q1⟩,⟨o4,e4,c4,d4⟩⟩:=st
  simp only [List.mem_cons,List.not_mem_nil,or_false] at hc
  rcases hc with rfl|rfl
  ·exact ⟨_,q1,fun v z=>nomatch z⟩
  ·exact ⟨o4,e4,fun v z=>by rw [d4] at z;cases z⟩
 keep:=fun i h h' st k=>by
  obtain ⟨⟨old,q1⟩,q2⟩:=st
  exact ⟨⟨old,k e (by simp) _ q1⟩,ow (fun o z=>k it (by simp) o z) q2⟩
 item:=by
  intro X hP hw hK hc i pins s σ H E I hf st hg
  subst hP hw hK
  obtain ⟨xs,x,hq1,hx⟩:=hg
  obtain ⟨its1,rv1,p1,hz1⟩:=I.tuple hq1
  obtain ⟨u1,hu1,ru1⟩:=rv1.get hx
  have W:=WalksT.enumerateD (A:=X.A) (mF (prog:=X.prog) (w:=X.w) (A:=X.A.in1) (I.ok.hd hc) it a h3 its1.toArray) e h1 (by simp [h1,Ne.symm h2]) (by simp)
  obtain ⟨q1,q2⟩:=st
  have l1:=(List.getElem?_eq_some_iff.mp hu1).1
  have tp:s.heap.IsTuple a its1.toArray:=p1
  refine W.item i s _ _ (by rw [List.size_toArray];exact l1) ⟨q1,q2,tp⟩ fun T vals h' tk hv hT isT mid kk=>?_
  obtain ⟨tt,v1,e1,rfl⟩:=hv
  have z1:v1=u1:=by
   (have:its1[i]?=some v1:=by simpa using e1);rw [hu1] at this;cases this;rfl
  subst z1
  refine ⟨_,rfl,W.go elts kt pt i T { s with heap:=h',toks:=tk } _ _ mid fun h'' st'' kk2=>?_⟩
  have ap:=W.apart i T h' mid
  obtain ⟨o,eo,c,d⟩:=isT
  have I2:L2.Inv X pins σ (upd H T (.tup [.int i,x])) { s with heap:=h'',toks:=tk }:=vM (its:=[.int i tt,v1]) I (fun b o hb z=>kk2 b o hb (kk b o hb z)) (fun b hb=>hf b (by simpa using hb)) hT (.cons ⟨tt,rfl⟩ (.cons ru1 .nil)) (by simp [sizeLine]) ⟨o,kk2 T o ap eo,c,d⟩
  refine ⟨.ref T,_,I2,rfl,⟨T,rfl,I.hok.fresh hT,fun xs' x' k1 k2=>?_⟩,⟨st''.1,st''.2.1⟩,fun b hb=>?_⟩
  ·rw [I.tuple_inj k1 hq1,hx] at k2
   cases k2;rfl
  ·have hlt:b<s.heap.objs.size:=by
    simp only [List.mem_cons,List.not_mem_nil,or_false] at hb
    obtain ⟨old,q1⟩:=q1
    obtain ⟨o5,e5,_⟩:=q2
    rcases hb with rfl|rfl
    ·exact Heap.lt_size q1
    ·exact Heap.lt_size e5
   rw [af (Nat.ne_of_lt (Nat.lt_of_lt_of_le hlt hT))]
   exact (hf b hb).1
 done:=by
  intro X hP hw hK hc i pins s σ H E I hf st hg
  subst hP hw hK
  obtain ⟨xs,hq1,rfl⟩:=hg
  obtain ⟨its1,rv1,p1,hz1⟩:=I.tuple hq1
  have W:=WalksT.enumerateD (A:=X.A) (mF (prog:=X.prog) (w:=X.w) (A:=X.A.in1) (I.ok.hd hc) it a h3 its1.toArray) e h1 (by simp [h1,Ne.symm h2]) (by simp)
  obtain ⟨q1,q2⟩:=st
  rw [rv1.length] at q1 q2
  exact W.done s _ _ ⟨by simpa using q1,by simpa using q2,p1⟩ fun h' tk kk=>⟨rfl,v_ I kk fun b hb=>hf b (by simpa using hb)⟩
 self:=fun _ _ _ _ _ st h=>by
  obtain ⟨⟨old,q1⟩,_⟩:=st
  exact wpAny_pyIter_enum q1 h
section
variable {X:Cx}
noncomputable def Do (K:PySem.W.Frag) (ta:TA):TI:=fun σ H R=>ta σ H fun vs H1=>∃a,vs=[.ref a]∧(∃xs,SqT K H1 a xs)∧R (Ite K a) H1
theorem AD {elts:List Expr} {kt:Nat} {pt:Pos} {a:Expr} {ta:TA} {p pos:Pos} (hg:Gl X "enumerate") (hm:X.mg "enumerate"=none) (ha:PA X [a] ta) (hs:starEach [a] X.env=[(false,eval a X.env)]) :
  PI X (.Tuple elts kt pt) (.Call (.Name "enumerate" p) [a] [] pos) (Do X.K ta):=by
 intro pins s σ H R I h
 refine Call_ (jp I hg hm boot_enumerate (PyProof.Rows.callWith_type1 (thn (ha pos pins s σ H _ I h) fun us s1 ⟨vs,H1,I1,r1,q1⟩=>?_) (by rw [hs];rfl) rfl))
 obtain ⟨l1,e,⟨xs,hq1⟩,q⟩:=q1
 subst e
 cases r1 with
 | cons r rr =>
  cases rr
  cases r
  obtain ⟨its1,rv1,p1,hz1⟩:=I1.tuple hq1
  have tp:s1.heap.IsTuple l1 its1.toArray:=p1
  have lt1:l1<s1.heap.objs.size:=by obtain ⟨_,e,_⟩:=tp;exact Heap.lt_size e
  refine u7 tp fun h' k1 k2 kk=>?_
  refine wpAny_pyIter_enum k1 ?_
  refine ⟨_,_,_,_,H1,rfl,I1.kept (t':=s1.toks) kk,xh (Nat.succ_ne_self _) (Nat.ne_of_lt (Nat.lt_succ_of_lt lt1)) (Nat.ne_of_lt lt1),⟨⟨_,k1⟩,k2⟩,fun b hb=>?_,q⟩
  have hb':s1.heap.objs.size≤b:=by
   simp only [List.mem_cons,List.not_mem_nil,or_false] at hb
   rcases hb with rfl|rfl <;> first|exact Nat.le_refl _|exact Nat.le_add_right _ _
  exact I1.fpOk hb' (I1.hok.fresh hb')
end
theorem qh:∀ {xs:List PV} {i:Int},(iO i xs).length=xs.length
 | [],i=>by simp [iO]
 | x::xs,i=>by simp only [iO,List.length_cons,qh (xs:=xs)]
theorem qk:∀ {xs:List PV} {k:Int} {i:Nat} {v:PV},(iO k xs)[i]?=some v→∃x,xs[i]?=some x∧v=.tup [.int (k+i),x]
 | [],k,i,v,h=>by simp [iO] at h
 | x::xs,k,0,v,h=>by simp [iO] at h;exact ⟨x,rfl,by rw [←h];simp⟩
 | x::xs,k,i+1,v,h=>by
  simp only [iO,List.getElem?_cons_succ] at h ⊢
  obtain ⟨y,e,rfl⟩:=qk h
  refine ⟨y,e,?_⟩
  rw [show k+1+(i:Int)=k+((i+1:Nat):Int) by omega]
theorem wV {K:PySem.W.Frag} {m0:List Addr} {H0:Hp} {a:Addr} {xs:List PV} {ys:List V} (h:SqT K H0 a ys) (r0:Rs K m0 H0 xs ys):sS K (Ite K a) (iO 0 xs) (fun _=>True) m0 H0:=by
 refine ⟨fun m H st x r q=>⟨ys,x.tup _ _ h,by rw [qh,r0.len]⟩,fun i v m H st x r q ev=>?_⟩
 obtain ⟨u,e1,rfl⟩:=qk ev
 obtain ⟨y1,f1,q1⟩:=r0.get e1
 refine ⟨⟨ys,y1,x.tup _ _ h,f1⟩,?_⟩
 rintro z H' ⟨T,rfl,hT,hh⟩
 have:=hh ys y1 (x.tup _ _ h) f1
 subst this
 refine ⟨Ext.newT r hT,r.newT hT,R_tup.mpr ⟨T,[.int i,y1],rfl,SqT.of bB,?_⟩⟩
 rw [Rs_cons',Rs_cons',Rs_nil,R_int]
 exact ⟨by simp,(q1.mono x).mono (Ext.newT r hT),rfl⟩
end FW
set_option Elab.async false
set_option linter.all false
set_option maxRecDepth 100000
set_option maxHeartbeats 1000000
namespace FW
open PySem PySem.Spec PyProof.Rows L2 HX
structure Zs where
 it:Addr
 c:Bool × Addr
 xs:Array Value
noncomputable abbrev Zs.a (q:Zs):Addr:=q.c.2
noncomputable def ItB (h:Heap) (it:Addr) (c:Bool × Addr) (i:Nat):Prop:=if c.1=true then h.IsListIter it c.2 i else h.IsTupleIter it c.2 i
noncomputable def SeqB (h:Heap) (c:Bool × Addr) (xs:Array Value):Prop:=if c.1=true then h.IsList c.2 xs else h.IsTuple c.2 xs
theorem ItB.keep {h h':Heap} {it:Addr} {c:Bool × Addr} {i:Nat} (z:ItB h it c i) (k:∀o,h.get? it=some o→h'.get? it=some o):ItB h' it c i:=by
 obtain ⟨b,a⟩:=c
 cases b with
 | true=>exact (show h.IsListIter it a i from z).at k
 | false=>exact ow k (show h.IsTupleIter it a i from z)
theorem ItB.obj {h:Heap} {it:Addr} {c:Bool × Addr} {i:Nat} (z:ItB h it c i):∃o vs,h.get? it=some o∧o.data=.fields vs:=by
 obtain ⟨b,a⟩:=c
 cases b with
 | true=>obtain ⟨o,e,_,d⟩:=(show h.IsListIter it a i from z);exact ⟨o,_,e,d⟩
 | false=>obtain ⟨o,e,_,d⟩:=(show h.IsTupleIter it a i from z);exact ⟨o,_,e,d⟩
theorem SeqB.keep {h h':Heap} {c:Bool × Addr} {xs:Array Value} (z:SeqB h c xs) (k:∀o,h.get? c.2=some o→h'.get? c.2=some o):SeqB h' c xs:=by
 obtain ⟨b,a⟩:=c
 cases b with
 | true=>exact (show h.IsList a xs from z).at k
 | false=>exact n_ k (show h.IsTuple a xs from z)
noncomputable def SrcAt (h:Heap) (q:Zs) (i:Nat):Prop:=ItB h q.it q.c i∧SeqB h q.c q.xs
theorem SrcAt.keep {h h':Heap} {q:Zs} {i:Nat} (z:SrcAt h q i) (k1:∀o,h.get? q.it=some o→h'.get? q.it=some o) (k2:∀o,h.get? q.a=some o→h'.get? q.a=some o):SrcAt h' q i:=⟨z.1.keep k1,z.2.keep k2⟩
theorem SrcAt.obj {h:Heap} {q:Zs} {i:Nat} (z:SrcAt h q i):∃o vs,h.get? q.it=some o∧o.data=.fields vs:=z.1.obj
section
variable {prog:Program} {w:World} {A:Around} {E:Value→Shared→Prop} {s:Shared} {q:Zs} {i:Nat}
theorem uw {x:Value} {Q:Value→Shared→Prop} (hne:q.a≠q.it) (h:SrcAt s.heap q i) (hx:q.xs[i]?=some x) (hQ:∀h',SrcAt h' q (i+1)→Heap.SameBut q.it s.heap h'→Q x { s with heap:=h' }):wpAny (model prog w) A (Builtin.SmallTypes.nextOf (.ref q.it)) Q E s:=by
 obtain ⟨it,⟨b,a⟩,xs⟩:=q
 obtain ⟨z1,z2⟩:=h
 cases b with
 | true=>exact wpAny_nextOf_list_item (show s.heap.IsListIter it a i from z1) (show s.heap.IsList a xs from z2) hx fun h' k1 k2=>hQ h' ⟨k1,z2.keep fun o e=>by rw [k2.2 _ hne];exact e⟩ k2
 | false=>exact kF (show s.heap.IsTupleIter it a i from z1) (show s.heap.IsTuple a xs from z2) hx fun h' k1 k2=>hQ h' ⟨k1,z2.keep fun o e=>by rw [k2.2 _ hne];exact e⟩ k2
theorem Ab {Q:Value→Shared→Prop} (hh:A.handled=none) (h:SrcAt s.heap q i) (hx:q.xs[i]?=none) (hE:∀h' e,Heap.ExtBut q.it s.heap h'→(∃o,h'.get? e=some o∧o.cls=.type "StopIteration")→E (.ref e) { s with heap:=h' }):wpAny (model prog w) A (Builtin.SmallTypes.nextOf (.ref q.it)) Q E s:=by
 obtain ⟨it,⟨b,a⟩,xs⟩:=q
 obtain ⟨z1,z2⟩:=h
 cases b with
 | true=>exact wpAny_nextOf_list_end hh (show s.heap.IsListIter it a i from z1) (show s.heap.IsList a xs from z2) hx hE
 | false=>exact mE hh (show s.heap.IsTupleIter it a i from z1) (show s.heap.IsTuple a xs from z2) hx hE
theorem A8 {c:Bool × Addr} {xs:Array Value} {Q:Value→Shared→Prop} (h:SeqB s.heap c xs) (hQ:∀o,ItB (s.heap.push o) s.heap.objs.size c 0→Q (.ref s.heap.objs.size) { s with heap:=s.heap.push o }):wpAny (model prog w) A (pyIter (.ref c.2)) Q E s:=by
 obtain ⟨b,a⟩:=c
 cases b with
 | true=>exact wpAny_pyIter_list (show s.heap.IsList a xs from h) (hQ _ ⟨_,Heap.get?_push_size _ rfl,rfl,rfl⟩)
 | false=>exact wpAny_pyIter_tuple (show s.heap.IsTuple a xs from h) (hQ _ ⟨_,Heap.get?_push_size _ rfl,rfl,rfl⟩)
end
noncomputable abbrev dt (xs:List Value):Obj:={ cls:=.type "tuple",data:=.seq xs.toArray }
structure ZA (z TI TO:Addr) (ss:List Zs):Prop where
 nd:(z::TI::TO::ss.map Zs.it).Nodup
 ap:∀q∈ss,q.a ∉ z::TI::TO::ss.map Zs.it
section
variable {prog:Program} {w:World} {A:Around} {E:Value→Shared→Prop} {z TI TO:Addr} {i:Nat}
noncomputable def yW (prog:Program) (w:World) (A:Around) (z TI TO:Addr) (f:Value × Nat→Option Fin × Unit→Sem (ForInStep (Option Fin × Unit))):Prop :=
 ∀(it:Addr) (k:Nat) (s:Shared) (R:ForInStep (Option Fin × Unit)→Shared→Prop) (E:Value→Shared→Prop),
  wpAny (model prog w) A (Builtin.SmallTypes.nextOf (.ref it)) (fun x s1=>∃arr,s1.heap.get? TO=some (dt arr)∧arr.length≤sizeLine∧∀h',h'.get? TO=some (dt (arr.set k x))→Heap.SameBut TO s1.heap h'→R (.yield (none,())) { s1 with heap:=h' })
   (fun e s1=>IsZip s1.heap z TI TO .ellipsis∧∀h',IsZip h' z TI TO .none→Heap.SameBut z s1.heap h'→E e { s1 with heap:=h' }) s →
  wpAny (model prog w) A (f (.ref it,k) (none,())) R E s
theorem AC {f:Value × Nat→Option Fin × Unit→Sem (ForInStep (Option Fin × Unit))} (hf:yW prog w A z TI TO f):∀ {ss dn:List Zs} {dx xs arr:List Value} {s:Shared} {R:Option Fin × Unit→Shared→Prop},ZA z TI TO (dn++ss)→(dn++ss).length≤sizeLine →
  Paired (fun (q:Zs) (x:Value)=>q.xs[i]?=some x) ss xs→dx.length=dn.length→arr.length=ss.length→IsZip s.heap z TI TO .ellipsis→s.heap.get? TO=some (dt (dx++arr))→(∀q∈dn,SrcAt s.heap q (i+1))→(∀q∈ss,SrcAt s.heap q i) →
  (∀h',IsZip h' z TI TO .ellipsis→h'.get? TO=some (dt (dx++xs))→(∀q∈dn++ss,SrcAt h' q (i+1))→h'.objs.size=s.heap.objs.size→(∀c o,c ∉ TO::(dn++ss).map Zs.it→s.heap.get? c=some o→h'.get? c=some o)→R (none,()) { s with heap:=h' }) →
  wpAny (model prog w) A (forIn ((ss.map fun q=>Value.ref q.it).zipIdx dn.length) (none,()) f) R E s:=by
 intro ss
 induction ss with
 | nil =>
  intro dn dx xs arr s R ap hsz hp hl ha hz hTO h1 h2 hR
  cases hp
  have:arr=[]:=List.length_eq_zero_iff.mp ha
  subst this
  exact wpAny_pure (hR s.heap hz hTO (by simpa using h1) rfl fun c o _ e=>e)
 | cons q ss ih =>
  intro dn dx xs arr s R ap hsz hp hl ha hz hTO h1 h2 hR
  cases hp with
  | @cons _ x _ xs hx hp =>
  cases arr with
  | nil=>simp at ha
  | cons b arr =>
  rw [List.map_cons,List.zipIdx_cons,List.forIn_cons]
  have nd:=ap.nd
  have qm:q∈dn++q::ss:=by simp
  have im:q.it∈(dn++q::ss).map Zs.it:=List.mem_map.mpr ⟨q,qm,rfl⟩
  have zi:z≠q.it:=fun e=>by
   have:=(List.nodup_cons.mp nd).1
   exact this (by simp [e])
  have ti:TO≠q.it:=fun e=>by
   have:=(List.nodup_cons.mp (List.nodup_cons.mp (List.nodup_cons.mp nd).2).2).1
   exact this (by rw [e];exact im)
  have zt:z≠TO:=fun e=>by
   have:=(List.nodup_cons.mp nd).1
   exact this (by simp [e])
  have ni:=(List.nodup_cons.mp (List.nodup_cons.mp (List.nodup_cons.mp nd).2).2).2
  have oth:∀p,p∈dn∨p∈ss→p.it≠q.it:=fun p hp e=>by
   rw [List.map_append,List.map_cons] at ni
   rcases hp with hp|hp
   ·have:=(List.nodup_append.mp ni).2.2 p.it (List.mem_map.mpr ⟨p,hp,rfl⟩) q.it (by simp)
    exact this e
   ·have:=(List.nodup_cons.mp (List.nodup_append.mp ni).2.1).1
    exact this (by rw [←e];exact List.mem_map.mpr ⟨p,hp,rfl⟩)
  have apa:∀p∈dn++q::ss,p.a≠q.it∧p.a≠TO:=fun p hp=>⟨fun e=>ap.ap p hp (by rw [e];simp),fun e=>ap.ap p hp (by rw [e];simp)⟩
  have tot:∀p∈dn++q::ss,p.it≠TO:=fun p hp e=>by
   have:=(List.nodup_cons.mp (List.nodup_cons.mp (List.nodup_cons.mp nd).2).2).1
   exact this (by rw [←e];exact List.mem_map.mpr ⟨p,hp,rfl⟩)
  refine wpAny_bind (hf q.it dn.length s _ _ ?_)
  refine uw (apa q qm).1 (h2 q (by simp)) hx fun h' k1 k2=>⟨dx++b::arr,by show h'.get? TO=_;rw [k2.2 TO ti];exact hTO,by rw [List.length_append,hl,ha,←List.length_append];exact hsz,fun h'' k3 k4=>?_⟩
  have both:∀c o,c≠q.it→c≠TO→s.heap.get? c=some o→h''.get? c=some o:=fun c o c1 c2 e=>by
   rw [k4.2 c c2]
   show h'.get? c=some o
   rw [k2.2 c c1]
   exact e
  have e3:(dx++b::arr).set dn.length x=(dx++[x])++arr:=by
   rw [←hl,List.set_append_right _ _ (Nat.le_refl _),Nat.sub_self]
   simp
  rw [e3] at k3
  have ea:dn++q::ss=(dn++[q])++ss:=by simp
  have el:dn.length+1=(dn++[q]).length:=by simp
  show wpAny _ _ (forIn ((ss.map fun q=>Value.ref q.it).zipIdx (dn.length+1)) (none,()) f) R E _
  rw [el]
  refine ih (dn:=dn++[q]) (dx:=dx++[x]) (xs:=xs) (arr:=arr) (by rw [←ea];exact ap) (by rw [←ea];exact hsz) hp (by simp [hl]) (by simpa using ha) (both z _ zi zt hz) k3 (fun p hp=>?_) (fun p hp=>?_) fun h3 j1 j2 j3 j4 j5=>?_
  ·rcases List.mem_append.mp hp with hp|hp
   ·exact (h1 p hp).keep (fun o e=>both _ o (oth p (.inl hp)) (tot p (by simp [hp])) e) fun o e=>both _ o (apa p (by simp [hp])).1 (apa p (by simp [hp])).2 e
   ·rw [List.mem_singleton] at hp
    subst hp
    exact k1.keep (fun o e=>by rw [k4.2 _ (Ne.symm ti)];exact e) fun o e=>by rw [k4.2 _ (apa p qm).2];exact e
  ·exact (h2 p (by simp [hp])).keep (fun o e=>both _ o (oth p (.inr hp)) (tot p (by simp [hp])) e) fun o e=>both _ o (apa p (by simp [hp])).1 (apa p (by simp [hp])).2 e
  ·refine hR h3 j1 (by rw [j2];simp) (by rw [ea];exact j3) (by rw [j4,k4.1];exact k2.1) fun c o hc e=>?_
   rw [ea] at hc
   refine j5 c o hc (both c o (fun z=>hc ?_) (fun z=>hc ?_) e)
   ·rw [z];simp
   ·rw [z];simp
theorem xB {f:Value × Nat→Option Fin × Unit→Sem (ForInStep (Option Fin × Unit))} (hf:yW prog w A z TI TO f) (hh:A.handled=none):∀ {ss dn:List Zs} {dx arr:List Value} {s:Shared} {R:Option Fin × Unit→Shared→Prop},ZA z TI TO (dn++ss)→(dn++ss).length≤sizeLine →
  (∃q∈ss,q.xs[i]?=none)→dx.length=dn.length→arr.length=ss.length→IsZip s.heap z TI TO .ellipsis→s.heap.get? TO=some (dt (dx++arr))→(∀q∈ss,SrcAt s.heap q i) →
  (∀h' e,(∀c o,c ∉ z::TO::(dn++ss).map Zs.it→s.heap.get? c=some o→h'.get? c=some o)→(∃o,h'.get? e=some o∧o.cls=.type "StopIteration")→E (.ref e) { s with heap:=h' }) →
  wpAny (model prog w) A (forIn ((ss.map fun q=>Value.ref q.it).zipIdx dn.length) (none,()) f) R E s:=by
 intro ss
 induction ss with
 | nil =>
  intro dn dx arr s R ap hsz hq
  obtain ⟨q,hq,_⟩:=hq
  cases hq
 | cons q ss ih =>
  intro dn dx arr s R ap hsz hq hl ha hz hTO h2 hE
  cases arr with
  | nil=>simp at ha
  | cons b arr =>
  rw [List.map_cons,List.zipIdx_cons,List.forIn_cons]
  have nd:=ap.nd
  have qm:q∈dn++q::ss:=by simp
  have im:q.it∈(dn++q::ss).map Zs.it:=List.mem_map.mpr ⟨q,qm,rfl⟩
  have zi:z≠q.it:=fun e=>(List.nodup_cons.mp nd).1 (by simp [e])
  have ti:TO≠q.it:=fun e=>(List.nodup_cons.mp (List.nodup_cons.mp (List.nodup_cons.mp nd).2).2).1 (by rw [e];exact im)
  have zt:z≠TO:=fun e=>(List.nodup_cons.mp nd).1 (by simp [e])
  have ni:=(List.nodup_cons.mp (List.nodup_cons.mp (List.nodup_cons.mp nd).2).2).2
  have oth:∀p,p∈ss→p.it≠q.it:=fun p hp e=>by
   rw [List.map_append,List.map_cons] at ni
   exact (List.nodup_cons.mp (List.nodup_append.mp ni).2.1).1 (by rw [←e];exact List.mem_map.mpr ⟨p,hp,rfl⟩)
  have apa:∀p∈dn++q::ss,p.a≠q.it∧p.a≠TO:=fun p hp=>⟨fun e=>ap.ap p hp (by rw [e];simp),fun e=>ap.ap p hp (by rw [e];simp)⟩
  have tot:∀p∈dn++q::ss,p.it≠TO:=fun p hp e=>(List.nodup_cons.mp (List.nodup_cons.mp (List.nodup_cons.mp nd).2).2).1 (by rw [←e];exact List.mem_map.mpr ⟨p,hp,rfl⟩)
  refine wpAny_bind (hf q.it dn.length s _ _ ?_)
  cases hx:q.xs[i]? with
  | none =>
   refine Ab hh (h2 q (by simp)) hx fun h' e k1 k2=>?_
   have hz2:IsZip h' z TI TO .ellipsis:=k1 _ _ zi hz
   obtain ⟨oe,he,hc⟩:=k2
   have ez:e≠z:=fun z=>by subst z;rw [hz2] at he;cases he;simp at hc
   refine ⟨hz2,fun h'' _ k4=>hE h'' e (fun c o hc e=>?_) ⟨oe,by rw [k4.2 e ez];exact he,hc⟩⟩
   rw [k4.2 c (fun z=>hc (by rw [z];simp))]
   exact k1 c o (fun z=>hc (by rw [z];simp)) e
  | some x =>
   refine uw (apa q qm).1 (h2 q (by simp)) hx fun h' k1 k2=>⟨dx++b::arr,by show h'.get? TO=_;rw [k2.2 TO ti];exact hTO,by rw [List.length_append,hl,ha,←List.length_append];exact hsz,fun h'' k3 k4=>?_⟩
   have both:∀c o,c≠q.it→c≠TO→s.heap.get? c=some o→h''.get? c=some o:=fun c o c1 c2 e=>by
    rw [k4.2 c c2]
    show h'.get? c=some o
    rw [k2.2 c c1]
    exact e
   have e3:(dx++b::arr).set dn.length x=(dx++[x])++arr:=by
    rw [←hl,List.set_append_right _ _ (Nat.le_refl _),Nat.sub_self]
    simp
   rw [e3] at k3
   have ea:dn++q::ss=(dn++[q])++ss:=by simp
   have el:dn.length+1=(dn++[q]).length:=by simp
   show wpAny _ _ (forIn ((ss.map fun q=>Value.ref q.it).zipIdx (dn.length+1)) (none,()) f) R E _
   rw [el]
   obtain ⟨p,hp,hn⟩:=hq
   have hp':p∈ss:=by
    rcases List.mem_cons.mp hp with rfl|h
    ·rw [hx] at hn;cases hn
    ·exact h
   refine ih (dn:=dn++[q]) (dx:=dx++[x]) (arr:=arr) (by rw [←ea];exact ap) (by rw [←ea];exact hsz) ⟨p,hp',hn⟩ (by simp [hl]) (by simpa using ha) (both z _ zi zt hz) k3 (fun p hp=>?_) fun h3 e j1 j2=>hE h3 e (fun c o hc e=>?_) j2
   ·exact (h2 p (by simp [hp])).keep (fun o e=>both _ o (oth p hp) (tot p (by simp [hp])) e) fun o e=>both _ o (apa p (by simp [hp])).1 (apa p (by simp [hp])).2 e
   ·rw [ea] at hc
    refine j1 c o hc (both c o (fun z=>hc ?_) (fun z=>hc ?_) e)
    ·rw [z];simp
    ·rw [z];simp
theorem B9 {s:Shared} {xs:List Value} {k:Nat} {x:Value} {Q:Unit→Shared→Prop} (hT:s.heap.get? TO=some (dt xs)) (hs:xs.length≤sizeLine) (h:∀h',h'.get? TO=some (dt (xs.set k x))→Heap.SameBut TO s.heap h'→Q () { s with heap:=h' }) :
  wpAny (model prog w) A (updateSeq TO fun v=>v.setIfInBounds k x) Q E s:=by
 refine wpAny_updateSeq hT rfl (h _ ?_ (Heap.SameBut.update _ _ _)) (by simpa using hs) (by simp;omega)
 rw [Heap.get?_update_self _ hT rfl]
 simp [Obj.mapSeq]
theorem yu {s:Shared} {T:Addr} {Q:Unit→Shared→Prop} (hz:IsZip s.heap z TI TO .ellipsis) (h:∀h',IsZip h' z TI TO (rawInt T)→Heap.SameBut z s.heap h'→Q () { s with heap:=h' }):wpAny (model prog w) A (Builtin.SmallTypes.ownedTupleHandOut (.ref z) (.ref T)) Q E s:=by
 refine wpAny_bind (wpAny_setField_rec hz (Nat.zero_lt_succ _) fun h1 k1 k2=>?_)
 have k1:IsZip h1 z TI TO (rawInt T):=k1
 refine wpAny_setField_rec k1 (Nat.succ_lt_succ (Nat.zero_lt_succ _)) fun h2 k3 k4=>?_
 exact h h2 k3 ⟨k4.1.trans k2.1,fun c hc=>(k4.2 c hc).trans (k2.2 c hc)⟩
theorem tH {s:Shared} {ss:List Zs} {arr:List Value} {Q:Fin→Shared→Prop} (hz:IsZip s.heap z TI TO .none) (hTI:s.heap.get? TI=some (dt (ss.map fun q=>Value.ref q.it))) (hTO:s.heap.get? TO=some (dt arr)) (hne:ss≠[])
  (h:∀f h',yW prog w A z TI TO f→IsZip h' z TI TO .ellipsis→Heap.SameBut z s.heap h'→wpAny (model prog w) A (forIn ((ss.map fun q=>Value.ref q.it).zipIdx 0) (none,()) f) (fun r s1=>r.1=none∧IsZip s1.heap z TI TO .ellipsis∧∃xs,s1.heap.get? TO=some (dt xs)∧xs.length≤sizeLine ∧
   ∀h2,IsZip h2 z TI TO (rawInt s1.heap.objs.size)→h2.get? s1.heap.objs.size=some (dt xs)→h2.objs.size=s1.heap.objs.size+1→(∀c o,c≠z→s1.heap.get? c=some o→h2.get? c=some o)→Q (.done (.ret (.ref s1.heap.objs.size))) { s1 with heap:=h2 }) E { s with heap:=h' }) :
  wpAny (model prog w) A (Builtin.«zip.__next__» ⟨[.ref z],[]⟩) Q E s:=by
 have hemp:(ss.map fun q=>Value.ref q.it).toArray.isEmpty=false:=by
  cases ss with
  | nil=>exact absurd rfl hne
  | cons a b=>rfl
 refine wpAny_bind (wpAny_pure ?_)
 refine wpAny_bind (wpAny_field (i:=2) hz rfl rfl ?_)
 refine wpAny_bind (wpAny_field (i:=3) hz rfl rfl ?_)
 refine wpAny_bind (wpAny_seqItems hTI rfl ?_)
 dsimp only
 rw [hemp]
 simp only [Bool.false_eq_true,if_false]
 refine wpAny_bind (wpAny_bind (wpAny_field (i:=0) hz rfl rfl (wpAny_pure ?_)))
 rw [if_pos rfl]
 refine wpAny_bind (wpAny_rule ?_)
 refine wpAny_bind (wpAny_field (i:=4) hz rfl rfl ?_)
 refine wpAny_bind (wpAny_setField_rec hz (Nat.zero_lt_succ _) fun h1 k1 k2=>?_)
 refine wpAny_bind (wpAny_mono (h _ h1 ?_ k1 k2) (fun r s1 hr=>?_) fun _ _ e=>e)
 ·intro it k s2 R E2 hw
  refine wpAny_bind (wpAny_onRaise ?_)
  refine wpAny_bind (m:=Builtin.SmallTypes.nextOf (.ref it)) (wpAny_mono hw (fun x s3 hx=>?_) fun e s3 he=>?_)
  ·obtain ⟨arr,e1,e0,e2⟩:=hx
   refine wpAny_pure ?_
   refine wpAny_bind (wpAny_seqItems e1 rfl ?_)
   refine wpAny_bind (B9 e1 e0 fun h' q1 q2=>?_)
   exact wpAny_bind (wpAny_letGo (wpAny_pure (e2 h' q1 q2)))
  ·exact wpAny_setField_rec he.1 (Nat.zero_lt_succ _) fun h' q1 q2=>he.2 h' q1 q2
 ·obtain ⟨hn,z1,xs,t1,lx,q⟩:=hr
  rw [hn]
  refine wpAny_bind (wpAny_seqItems t1 rfl ?_)
  refine wpAny_bind (wpAny_newTuple ?_ lx)
  have z2:IsZip (s1.heap.push (dt xs)) z TI TO .ellipsis:=Heap.get?_push_of_some _ z1
  refine wpAny_bind (yu (s:={ s1 with heap:=s1.heap.push (dt xs) }) z2 fun h' q1 q2=>wpAny_pure ?_)
  have nz:s1.heap.objs.size≠z:=fun e=>absurd (Heap.lt_size z1) (by rw [←e];exact Nat.lt_irrefl _)
  refine q h' q1 (by rw [q2.2 _ nz];exact Heap.get?_push_size _ rfl) (q2.1.trans (Heap.size_push _ _)) fun c o hc e=>?_
  rw [q2.2 c hc]
  exact Heap.get?_push_of_some _ e
noncomputable def ZSt (z TI TO:Addr) (its:List Addr) (h:Heap):Prop:=IsZip h z TI TO .none∧h.get? TI=some (dt (its.map Value.ref))∧∃arr,arr.length=its.length∧h.get? TO=some (dt arr)
theorem yk {ss:List Zs}:(ss.map fun q=>Value.ref q.it)=(ss.map Zs.it).map Value.ref:=by rw [List.map_map];rfl
theorem xQ {s:Shared} {ss:List Zs} {xs:List Value} {Q:Option Value→Shared→Prop} (ap:ZA z TI TO ss) (hne:ss≠[]) (hs:ss.length≤sizeLine) (hz:ZSt z TI TO (ss.map Zs.it) s.heap) (h1:∀q∈ss,SrcAt s.heap q i) (hp:Paired (fun (q:Zs) (x:Value)=>q.xs[i]?=some x) ss xs)
  (hQ:∀h' T,s.heap.objs.size≤T→IsZip h' z TI TO (rawInt T)→h'.get? TI=some (dt ((ss.map Zs.it).map Value.ref))→h'.get? TO=some (dt xs)→(∀q∈ss,SrcAt h' q (i+1))→h'.get? T=some (dt xs)→T ∉ z::TI::TO::ss.map Zs.it→(∀c o,c ∉ z::TI::TO::ss.map Zs.it→s.heap.get? c=some o→h'.get? c=some o)→Q (some (.ref T)) { s with heap:=h' }) :
  wpAny (model prog w) A (pyNext (.ref z)) Q E s:=by
 obtain ⟨z1,t1,arr,la,t2⟩:=hz
 have hT:s.TypeIs (.ref z) "zip":=⟨_,z1,rfl⟩
 have nd:=ap.nd
 have TIz:TI≠z:=fun e=>(List.nodup_cons.mp nd).1 (by simp [e])
 have TOz:TO≠z:=fun e=>(List.nodup_cons.mp nd).1 (by simp [e])
 have itz:∀q∈ss,q.it≠z:=fun q hq e=>(List.nodup_cons.mp nd).1 (by rw [←e];simp;exact .inr (.inr ⟨q,hq,rfl⟩))
 have az:∀q∈ss,q.a≠z:=fun q hq e=>ap.ap q hq (by rw [e];simp)
 have TIn:=(List.nodup_cons.mp (List.nodup_cons.mp nd).2).1
 refine wpAny_bind (wpAny_attempt (wpAny_callSpecial?_slot hT F.slot_zip_next (wpAny_call_entry F.slot_zip_next hT F.entry_zip_next ?_ (F.args_zip_next_1 _))))
 refine tH (arr:=arr) z1 (by rw [yk];exact t1) t2 hne fun f h1' hf k1 k2=>?_
 have src:∀q∈ss,SrcAt h1' q i:=fun q hq=>(h1 q hq).keep (fun o e=>by rw [k2.2 _ (itz q hq)];exact e) fun o e=>by rw [k2.2 _ (az q hq)];exact e
 have lp:=hp.length
 refine AC (dn:=[]) (dx:=[]) (s:={ s with heap:=h1' }) hf ap hs hp rfl (by rw [la,List.length_map]) k1 (by rw [k2.2 _ TOz];exact t2) (fun q hq=>nomatch hq) src fun h2 j1 j2 j3 j4 j5=>?_
 refine ⟨rfl,j1,xs,j2,by rw [←lp];exact hs,fun h3 m1 m2 m3 m4=>⟨_,rfl,wpAny_pure ?_⟩⟩
 have big:∀c o,s.heap.get? c=some o→c≠h2.objs.size:=fun c o e z=>by
  have:=Heap.lt_size e
  rw [z,j4,k2.1] at this
  exact absurd this (Nat.lt_irrefl _)
 have all:∀c o,c ∉ z::TI::TO::ss.map Zs.it→s.heap.get? c=some o→h3.get? c=some o:=fun c o hc e=>by
  refine m4 c o (fun z=>hc (by rw [z];simp)) (j5 c o (fun z=>hc ?_) ?_)
  ·rcases List.mem_cons.mp z with z|z
   ·rw [z];simp
   ·exact List.mem_cons_of_mem _ (List.mem_cons_of_mem _ (List.mem_cons_of_mem _ z))
  ·show h1'.get? c=some o
   rw [k2.2 c (fun z=>hc (by rw [z];simp))]
   exact e
 refine hQ h3 _ (by rw [j4,k2.1];exact Nat.le_refl _) m1 ?_ (m4 _ _ TOz j2) (fun q hq=>(j3 q hq).keep (fun o e=>m4 _ o (itz q hq) e) fun o e=>m4 _ o (az q hq) e) m2 (fun hm=>?_) all
 ·refine m4 _ _ TIz (j5 _ _ (fun z=>TIn ?_) ?_)
  ·exact z
  ·show h1'.get? TI=_
   rw [k2.2 _ TIz]
   exact t1
 ·simp only [List.mem_cons] at hm
  rcases hm with e|e|e|e
  ·exact big z _ z1 e.symm
  ·exact big TI _ t1 e.symm
  ·exact big TO _ t2 e.symm
  ·obtain ⟨q,hq,e⟩:=List.mem_map.mp e
   obtain ⟨o,_,eo,_⟩:=(h1 q hq).obj
   exact big _ _ eo e
theorem y7 {s:Shared} {ss:List Zs} {Q:Option Value→Shared→Prop} (hh:A.handled=none) (ap:ZA z TI TO ss) (hs:ss.length≤sizeLine) (hz:ZSt z TI TO (ss.map Zs.it) s.heap) (h1:∀q∈ss,SrcAt s.heap q i) (hn:∃q∈ss,q.xs[i]?=none)
  (hQ:∀h',(∀c o,c ∉ z::TI::TO::ss.map Zs.it→s.heap.get? c=some o→h'.get? c=some o)→Q none { s with heap:=h' }):wpAny (model prog w) A (pyNext (.ref z)) Q E s:=by
 obtain ⟨z1,t1,arr,la,t2⟩:=hz
 have hT:s.TypeIs (.ref z) "zip":=⟨_,z1,rfl⟩
 have nd:=ap.nd
 have TOz:TO≠z:=fun e=>(List.nodup_cons.mp nd).1 (by simp [e])
 have itz:∀q∈ss,q.it≠z:=fun q hq e=>(List.nodup_cons.mp nd).1 (by rw [←e];simp;exact .inr (.inr ⟨q,hq,rfl⟩))
 have az:∀q∈ss,q.a≠z:=fun q hq e=>ap.ap q hq (by rw [e];simp)
 have hne:ss≠[]:=fun e=>by obtain ⟨q,hq,_⟩:=hn;rw [e] at hq;cases hq
 refine wpAny_bind (wpAny_attempt (wpAny_callSpecial?_slot hT F.slot_zip_next (wpAny_call_entry F.slot_zip_next hT F.entry_zip_next ?_ (F.args_zip_next_1 _))))
 refine tH (arr:=arr) z1 (by rw [yk];exact t1) t2 hne fun f h1' hf k1 k2=>?_
 have src:∀q∈ss,SrcAt h1' q i:=fun q hq=>(h1 q hq).keep (fun o e=>by rw [k2.2 _ (itz q hq)];exact e) fun o e=>by rw [k2.2 _ (az q hq)];exact e
 refine xB (A:=A.in1) (dn:=[]) (dx:=[]) (s:={ s with heap:=h1' }) hf hh ap hs hn rfl (by rw [la,List.length_map]) k1 (by rw [k2.2 _ TOz];exact t2) src fun h2 e j1 j2=>?_
 refine wpAny_bind (wpAny_isInstance (T:="StopIteration") (b:=true) j2 isSubtype_stop (wpAny_pure (hQ h2 fun c o hc e=>?_)))
 refine j1 c o (fun z=>hc ?_) ?_
 ·rcases List.mem_cons.mp z with z|z
  ·rw [z];simp
  ·rcases List.mem_cons.mp z with z|z
   ·rw [z];simp
   ·exact List.mem_cons_of_mem _ (List.mem_cons_of_mem _ (List.mem_cons_of_mem _ z))
 ·show h1'.get? c=some o
  rw [k2.2 c (fun z=>hc (by rw [z];simp))]
  exact e
end
noncomputable def SqB (K:PySem.W.Frag) (H:Hp) (c:Bool × Addr) (xs:List V):Prop:=if c.1=true then SqL K H c.2 xs else SqT K H c.2 xs
noncomputable def Itn (K:PySem.W.Frag) (cs:List (Bool × Addr)):L2.It :=
 ⟨fun i H=>∃xss ys,Paired (SqB K H) cs xss∧Paired (fun (xs:List V) (y:V)=>xs[i]?=some y) xss ys,
  fun i H v H'=>∃T,v=.ref T∧H T=none∧∀xss ys,Paired (SqB K H) cs xss→Paired (fun (xs:List V) (y:V)=>xs[i]?=some y) xss ys→H'=upd H T (.tup ys),
  fun i H=>∃xss,Paired (SqB K H) cs xss∧∃xs∈xss,xs.length=i⟩
theorem qy {α β:Type} {F:α→β→Prop}:∀ {l:List α} {r:List β} {a:α},Paired F l r→a∈l→∃b∈r,F a b
 | _,_,_,.nil,h=>nomatch h
 | _,_,_,.cons f t,h=>by
  rcases List.mem_cons.mp h with rfl|h
  ·exact ⟨_,by simp,f⟩
  ·obtain ⟨b,h1,h2⟩:=qy t h
   exact ⟨b,by simp [h1],h2⟩
theorem uF {X:Cx} {pins:List (Addr × Obj)} {σ:L2.St} {H:Hp} {s:Shared} {i:Nat} (I:L2.Inv X pins σ H s):∀ {its:List Addr} {cs:List (Bool × Addr)} {xss:List (List V)},Paired (fun it c=>ItB s.heap it c i) its cs→Paired (SqB X.K H) cs xss →
  ∃ss:List Zs,ss.map Zs.it=its∧ss.map Zs.c=cs∧(∀q∈ss,SrcAt s.heap q i)∧Paired (fun (q:Zs) (xs:List V)=>Vals xs q.xs.toList) ss xss
 | _,_,_,.nil,.nil=>⟨[],rfl,rfl,fun q hq=>(nomatch hq),.nil⟩
 | _,_,_,.cons (a:=it) (b:=c) h1 t1,.cons (b:=xs) h2 t2=>by
  obtain ⟨ss,e1,e2,e3,e4⟩:=uF I t1 t2
  obtain ⟨b,a⟩:=c
  cases b with
  | true =>
   obtain ⟨its1,rv1,p1,hz1⟩:=I.list (show SqL X.K H a xs from h2)
   refine ⟨⟨it,(true,a),its1.toArray⟩::ss,by rw [List.map_cons,e1],by rw [List.map_cons,e2],fun q hq=>?_,.cons (by simpa using rv1) e4⟩
   rcases List.mem_cons.mp hq with rfl|hq
   ·exact ⟨h1,p1.isList⟩
   ·exact e3 q hq
  | false =>
   obtain ⟨its1,rv1,p1,hz1⟩:=I.tuple (show SqT X.K H a xs from h2)
   refine ⟨⟨it,(false,a),its1.toArray⟩::ss,by rw [List.map_cons,e1],by rw [List.map_cons,e2],fun q hq=>?_,.cons (by simpa using rv1) e4⟩
   rcases List.mem_cons.mp hq with rfl|hq
   ·exact ⟨h1,p1⟩
   ·exact e3 q hq
theorem uA {i:Nat}:∀ {ss:List Zs} {xss:List (List V)} {ys:List V},Paired (fun (q:Zs) (xs:List V)=>Vals xs q.xs.toList) ss xss→Paired (fun (xs:List V) (y:V)=>xs[i]?=some y) xss ys→∃us,Paired (fun (q:Zs) (x:Value)=>q.xs[i]?=some x) ss us∧Vals ys us
 | _,_,_,.nil,.nil=>⟨[],.nil,.nil⟩
 | _,_,_,.cons h1 t1,.cons h2 t2=>by
  obtain ⟨us,e1,e2⟩:=uA t1 t2
  obtain ⟨u,e3,e4⟩:=h1.get h2
  exact ⟨u::us,.cons (by simpa using e3) e1,.cons e4 e2⟩
theorem SqB.inj {X:Cx} {pins:List (Addr × Obj)} {σ:L2.St} {H:Hp} {s:Shared} (I:L2.Inv X pins σ H s):∀ {cs:List (Bool × Addr)} {xss yss:List (List V)},Paired (SqB X.K H) cs xss→Paired (SqB X.K H) cs yss→xss=yss
 | _,_,_,.nil,.nil=>rfl
 | _,_,_,.cons (a:=c) h1 t1,.cons h2 t2=>by
  rw [SqB.inj I t1 t2]
  obtain ⟨b,a⟩:=c
  cases b with
  | true=>rw [I.list_inj (show SqL X.K H a _ from h1) h2]
  | false=>rw [I.tuple_inj (show SqT X.K H a _ from h1) h2]
theorem xW {i:Nat}:∀ {xss:List (List V)} {ys zs:List V},Paired (fun (xs:List V) (y:V)=>xs[i]?=some y) xss ys→Paired (fun (xs:List V) (y:V)=>xs[i]?=some y) xss zs→ys=zs
 | _,_,_,.nil,.nil=>rfl
 | _,_,_,.cons h1 t1,.cons h2 t2=>by rw [xW t1 t2];rw [h1] at h2;cases h2;rfl
theorem wj {P:Program} {w:World} {K:PySem.W.Frag} {elts:List Expr} {kt:Nat} {pt:Pos} {z TI TO:Addr} {its:List Addr} {cs:List (Bool × Addr)} (nd:(z::TI::TO::its).Nodup) (ap:∀c∈cs,c.2 ∉ z::TI::TO::its) (hne:its≠[]) (hs:its.length≤100) :
  wX P w K (.Tuple elts kt pt) (Itn K cs) (z::TI::TO::its) z (fun i h=>ZSt z TI TO its h∧Paired (fun it c=>ItB h it c i) its cs) where
 mem:=by simp
 obj:=fun i h st c hc=>by
  obtain ⟨⟨h1,h2,arr,la,h3⟩,h4⟩:=st
  simp only [List.mem_cons] at hc
  rcases hc with rfl|rfl|rfl|hc
  ·exact ⟨_,h1,fun v z=>nomatch z⟩
  ·exact ⟨_,h2,fun v z=>nomatch z⟩
  ·exact ⟨_,h3,fun v z=>nomatch z⟩
  ·obtain ⟨d,_,e⟩:=qy h4 hc
   obtain ⟨o,vs,e1,e2⟩:=e.obj
   exact ⟨o,e1,fun v z=>by rw [e2] at z;cases z⟩
 keep:=fun i h h' st k=>by
  obtain ⟨⟨h1,h2,arr,la,h3⟩,h4⟩:=st
  refine ⟨⟨k z (by simp) _ h1,k TI (by simp) _ h2,arr,la,k TO (by simp) _ h3⟩,?_⟩
  have:∀ {l:List Addr} {r:List (Bool × Addr)},(∀x∈l,x∈its)→Paired (fun it c=>ItB h it c i) l r→Paired (fun it c=>ItB h' it c i) l r:=by
   intro l r hl hp
   induction hp with
   | nil=>exact .nil
   | cons f t ih=>exact .cons (f.keep fun o e=>k _ (by simp [hl _ List.mem_cons_self]) o e) (ih fun x hx=>hl x (List.mem_cons_of_mem _ hx))
  exact this (fun x hx=>hx) h4
 item:=by
  intro X hP hw hK hc i pins s σ H E I hf st hg
  subst hP hw hK
  obtain ⟨xss,ys,g1,g2⟩:=hg
  obtain ⟨hz,h4⟩:=st
  obtain ⟨ss,e1,e2,e3,e4⟩:=uF I h4 g1
  obtain ⟨us,f1,f2⟩:=uA e4 g2
  have za:ZA z TI TO ss:=⟨by rw [e1];exact nd,fun q hq=>by
   rw [e1]
   exact ap q.c (by rw [←e2];exact List.mem_map.mpr ⟨q,hq,rfl⟩)⟩
  have ssl:ss.length=its.length:=by rw [←e1,List.length_map]
  have line:(100:Nat)≤sizeLine:=by decide
  refine xQ (i:=i) (ss:=ss) (xs:=us) za (fun e=>hne (by rw [←e1,e];rfl)) (by rw [ssl];exact Nat.le_trans hs line) (by rw [e1];exact hz) e3 f1 fun h' T lT z1 t1 t2 s1 tT nT kk=>?_
  rw [e1] at t1 nT kk
  refine ⟨_,rfl,wpAny_letOwnedTupleGo_zip (s:={ s with heap:=h' }) z1 fun h'' z2 sb=>?_⟩
  have nz:∀ {c:Addr},c∈TI::TO::its→c≠z:=fun hc e=>(List.nodup_cons.mp nd).1 (by rw [←e];exact hc)
  have Tz:T≠z:=fun e=>nT (by rw [e];simp)
  have yl:ys.length≤100:=by rw [←g2.length,←g1.length,←h4.length];exact hs
  have I2:L2.Inv X pins σ (upd H T (.tup ys)) { s with heap:=h'' }:=vM (t':=s.toks) (its:=us) (wr:=z::TI::TO::its) I (fun b o hb e=>by
   rw [sb.2 b (fun q=>hb (by rw [q];simp))]
   exact kk b o hb e) (fun b hb=>hf b hb) lT f2 (Nat.le_trans yl line) ⟨_,by rw [sb.2 T Tz];exact tT,rfl,0,rfl⟩
  refine ⟨.ref T,_,I2,rfl,⟨T,rfl,I.hok.fresh lT,fun xss' ys' k1 k2=>?_⟩,⟨⟨z2,by rw [sb.2 TI (nz (by simp))];exact t1,us,?_,by rw [sb.2 TO (nz (by simp))];exact t2⟩,?_⟩,fun b hb=>?_⟩
  ·have:=SqB.inj I k1 g1
   subst this
   rw [xW k2 g2]
  ·rw [←f1.length];exact ssl
  ·have go:∀ {l:List Zs},(∀q∈l,SrcAt h' q (i+1))→(∀q∈l,q.it≠z)→Paired (fun it c=>ItB h'' it c (i+1)) (l.map Zs.it) (l.map Zs.c):=by
    intro l
    induction l with
    | nil=>intro _ _;exact .nil
    | cons q l ih =>
     intro k1 k2
     exact .cons ((k1 q List.mem_cons_self).1.keep fun o e=>by rw [sb.2 _ (k2 q List.mem_cons_self)];exact e) (ih (fun p hp=>k1 p (List.mem_cons_of_mem _ hp)) fun p hp=>k2 p (List.mem_cons_of_mem _ hp))
   have:=go s1 fun q hq=>nz (List.mem_cons_of_mem _ (List.mem_cons_of_mem _ (by rw [←e1];exact List.mem_map.mpr ⟨q,hq,rfl⟩)))
   rw [e1,e2] at this
   exact this
  ·have hlt:b<s.heap.objs.size:=by
    obtain ⟨h1,h2,arr,la,h3⟩:=hz
    simp only [List.mem_cons] at hb
    rcases hb with rfl|rfl|rfl|hb
    ·exact Heap.lt_size h1
    ·exact Heap.lt_size h2
    ·exact Heap.lt_size h3
    ·obtain ⟨d,_,e⟩:=qy h4 hb
     obtain ⟨o,_,e,_⟩:=e.obj
     exact Heap.lt_size e
   rw [af (Nat.ne_of_lt (Nat.lt_of_lt_of_le hlt lT))]
   exact (hf b hb).1
 done:=by
  intro X hP hw hK hc i pins s σ H E I hf st hg
  subst hP hw hK
  obtain ⟨xss,g1,xs,gx,gl⟩:=hg
  obtain ⟨hz,h4⟩:=st
  obtain ⟨ss,e1,e2,e3,e4⟩:=uF I h4 g1
  have za:ZA z TI TO ss:=⟨by rw [e1];exact nd,fun q hq=>by
   rw [e1]
   exact ap q.c (by rw [←e2];exact List.mem_map.mpr ⟨q,hq,rfl⟩)⟩
  have ssl:ss.length=its.length:=by rw [←e1,List.length_map]
  have line:(100:Nat)≤sizeLine:=by decide
  have hn:∃q∈ss,q.xs[i]?=none:=by
   have:∀ {l:List Zs} {r:List (List V)},Paired (fun (q:Zs) (xs:List V)=>Vals xs q.xs.toList) l r→xs∈r→∃q∈l,q.xs[i]?=none:=by
    intro l r hp hx
    induction hp with
    | nil=>cases hx
    | @cons q ys l r f t ih =>
     rcases List.mem_cons.mp hx with rfl|hx
     ·refine ⟨q,List.mem_cons_self,?_⟩
      have:=f.length
      exact Array.getElem?_eq_none (by rw [←gl,this];simp)
     ·obtain ⟨p,h1,h2⟩:=ih hx
      exact ⟨p,List.mem_cons_of_mem _ h1,h2⟩
   exact this e4 gx
  refine y7 (i:=i) (ss:=ss) (I.ok.hd hc) za (by rw [ssl];exact Nat.le_trans hs line) (by rw [e1];exact hz) e3 hn fun h' kk=>?_
  rw [e1] at kk
  exact ⟨rfl,v_ (t':=s.toks) I kk fun b hb=>hf b hb⟩
 self:=fun _ _ _ _ _ st h=>wpAny_pyIter_zip st.1.1 h
section
variable {prog:Program} {w:World} {A:Around} {E:Value→Shared→Prop}
theorem Dy {R:Array Value→Shared→Prop}:∀ {cs:List (Bool × Addr)} {acc:Array Value} {s:Shared},(∀c∈cs,∃xs,SeqB s.heap c xs) →
  (∀h',h'.objs.size=s.heap.objs.size+cs.length→(∀b o,s.heap.get? b=some o→h'.get? b=some o)→Paired (fun it c=>ItB h' it c 0) (List.range' s.heap.objs.size cs.length) cs→R (acc++((List.range' s.heap.objs.size cs.length).map Value.ref).toArray) { s with heap:=h' }) →
  wpAny (model prog w) A (forIn (cs.map fun c=>Value.ref c.2) acc fun x r=>do
   let v ←holding r.toList (pyIter x)
   pure (ForInStep.yield (r.push v))) R E s:=by
 intro cs
 induction cs with
 | nil =>
  intro acc s _ hR
  exact wpAny_pure (by simpa using hR s.heap rfl (fun _ _ e=>e) .nil)
 | cons c cs ih =>
  intro acc s hs hR
  rw [List.map_cons,List.forIn_cons]
  obtain ⟨xs,hx⟩:=hs c List.mem_cons_self
  refine wpAny_bind (wpAny_bind (wpAny_holding (A8 hx fun o ho=>wpAny_pure ?_)))
  refine ih (acc:=acc.push (.ref s.heap.objs.size)) (s:={ s with heap:=s.heap.push o }) (fun d hd=>?_) fun h' k1 k2 k3=>?_
  ·obtain ⟨ys,hy⟩:=hs d (List.mem_cons_of_mem _ hd)
   exact ⟨ys,hy.keep fun o e=>Heap.get?_push_of_some _ e⟩
  ·have sz:(s.heap.push o).objs.size=s.heap.objs.size+1:=Heap.size_push _ _
   have k1:h'.objs.size=(s.heap.push o).objs.size+cs.length:=k1
   have k3:Paired (fun it c=>ItB h' it c 0) (List.range' (s.heap.push o).objs.size cs.length) cs:=k3
   rw [sz] at k1 k3
   have:=hR h' (by rw [k1,List.length_cons];omega) (fun b u e=>k2 b u (Heap.get?_push_of_some _ e)) (by
    rw [List.length_cons,List.range'_succ]
    exact .cons (ho.keep fun u e=>k2 _ u e) k3)
   rw [List.length_cons,List.range'_succ] at this
   show R (acc.push (Value.ref s.heap.objs.size)++((List.range' (s.heap.push o).objs.size cs.length).map Value.ref).toArray) _
   rw [sz]
   simpa using this
theorem vq (cs:List (Bool × Addr)) (hl:cs.length≤100):Meets (Builtin.«zip.__new__» ⟨.type "zip"::cs.map (fun c=>Value.ref c.2),[]⟩) fun _ R s=>(∀c∈cs,∃xs,SeqB s.heap c xs) ∧
  ∀h',ZSt (s.heap.objs.size+cs.length+2) (s.heap.objs.size+cs.length) (s.heap.objs.size+cs.length+1) (List.range' s.heap.objs.size cs.length) h'→Paired (fun it c=>ItB h' it c 0) (List.range' s.heap.objs.size cs.length) cs→(∀b o,s.heap.get? b=some o→h'.get? b=some o)→R (.ok (.ret (.ref (s.heap.objs.size+cs.length+2)))) { s with heap:=h' }:=by
 intro prog w A R s ⟨h1,h⟩
 have line:(100:Nat)≤sizeLine:=by decide
 refine wpAny_bind ?_
 refine wpAny_bind (wpAny_pure ?_)
 rw [sub_zip]
 refine wpAny_bind (wpAny_pure ?_)
 refine wpAny_pure ?_
 refine wpAny_bind (m:=Builtin.SmallTypes.iterAll (cs.map fun c=>Value.ref c.2)) ?_
 refine wpAny_bind (Dy h1 fun h' k1 k2 k3=>wpAny_pure ?_)
 have e0:(#[]++((List.range' s.heap.objs.size cs.length).map Value.ref).toArray:Array Value).toList=(List.range' s.heap.objs.size cs.length).map Value.ref:=by simp
 rw [e0]
 have ln:((List.range' s.heap.objs.size cs.length).map Value.ref).length=cs.length:=by simp
 refine wpAny_bind (wpAny_newTuple ?_ (by rw [ln];exact Nat.le_trans hl line))
 refine wpAny_bind (wpAny_newTuple ?_ (by rw [List.length_map,ln];exact Nat.le_trans hl line))
 refine wpAny_bind (wpAny_newObj_type (T:="zip") (data:=.fields #[.none,.bool false,.bool false,.ref h'.objs.size,.ref (h'.push (dt ((List.range' s.heap.objs.size cs.length).map Value.ref))).objs.size]) ?_)
 have s1:(h'.push (dt ((List.range' s.heap.objs.size cs.length).map Value.ref))).objs.size=s.heap.objs.size+cs.length+1:=(Heap.size_push _ _).trans (by rw [k1])
 have s2:((h'.push (dt ((List.range' s.heap.objs.size cs.length).map Value.ref))).push (dt (((List.range' s.heap.objs.size cs.length).map Value.ref).map fun _=>Value.none))).objs.size=s.heap.objs.size+cs.length+2:=(Heap.size_push _ _).trans (by rw [s1])
 refine wpAny_pure ?_
 show R (.ok (.ret (.ref ((h'.push (dt ((List.range' s.heap.objs.size cs.length).map Value.ref))).push (dt (((List.range' s.heap.objs.size cs.length).map Value.ref).map fun _=>Value.none))).objs.size))) _
 rw [s2]
 refine h _ ⟨?_,?_,((List.range' s.heap.objs.size cs.length).map Value.ref).map fun _=>Value.none,by simp,?_⟩ ?_ fun b o e=>Heap.get?_push_of_some _ (Heap.get?_push_of_some _ (Heap.get?_push_of_some _ (k2 b o e)))
 ·rw [←s2]
  have g:=Heap.get?_push_size ((h'.push (dt ((List.range' s.heap.objs.size cs.length).map Value.ref))).push (dt (((List.range' s.heap.objs.size cs.length).map Value.ref).map fun _=>Value.none))) (o:={ cls:=.type "zip",data:=.fields #[.none,.bool false,.bool false,.ref h'.objs.size,.ref (h'.push (dt ((List.range' s.heap.objs.size cs.length).map Value.ref))).objs.size] }) rfl
  rw [k1,s1] at g
  rw [k1,s1]
  exact g
 ·rw [←k1]
  exact Heap.get?_push_of_some _ (Heap.get?_push_of_some _ (Heap.get?_push_size _ rfl))
 ·rw [←s1]
  exact Heap.get?_push_of_some _ (Heap.get?_push_size _ rfl)
 ·have:∀ {l:List Addr} {r:List (Bool × Addr)},Paired (fun it c=>ItB h' it c 0) l r→∀ {g:Heap},(∀b o,h'.get? b=some o→g.get? b=some o)→Paired (fun it c=>ItB g it c 0) l r:=by
   intro l r hp g hg
   induction hp with
   | nil=>exact .nil
   | cons f t ih=>exact .cons (f.keep fun o e=>hg _ o e) ih
  exact this k3 fun b o e=>Heap.get?_push_of_some _ (Heap.get?_push_of_some _ (Heap.get?_push_of_some _ e))
end
section
variable {prog:Program} {w:World} {A:Around} {E:Value→Shared→Prop} {s:Shared}
noncomputable def C_ (cs:List (Bool × Addr)) (Q:Value→Shared→Prop) (s:Shared):Prop:=∀h',ZSt (s.heap.objs.size+cs.length+2) (s.heap.objs.size+cs.length) (s.heap.objs.size+cs.length+1) (List.range' s.heap.objs.size cs.length) h'→Paired (fun it c=>ItB h' it c 0) (List.range' s.heap.objs.size cs.length) cs→(∀b o,s.heap.get? b=some o→h'.get? b=some o) →
 Q (.ref (s.heap.objs.size+cs.length+2)) { s with heap:=h' }
theorem wt {c1 c2:Bool × Addr} {Q:Value→Shared→Prop} (h1:∀c∈[c1,c2],∃xs,SeqB s.heap c xs) (h:C_ [c1,c2] Q s):wpAny (model prog w) A (call (.type "zip") [.ref c1.2,.ref c2.2]) Q E s:=by
 refine callType_new F.called_zip rfl (F.typeCall_zip_2 _ _) (F.newCall_zip_2 _ _) (fun obj=>?_) F.entry_zip_new (vq [c1,c2] (Nat.le_of_ble_eq_true rfl)) ⟨h1,fun h' k1 k2 k3=>⟨⟨_,k1.1,rfl⟩,h h' k1 k2 k3⟩⟩
 exact F.args_object_init_3 _ _ _
end
section
variable {X:Cx} {pins:List (Addr × Obj)} {σ:L2.St} {H:Hp} {s:Shared}
theorem SqB.seq {c:Bool × Addr} {xs:List V} (I:L2.Inv X pins σ H s) (h:SqB X.K H c xs):∃ys,SeqB s.heap c ys:=by
 obtain ⟨b,a⟩:=c
 cases b with
 | true=>obtain ⟨its,_,p,_⟩:=I.list (show SqL X.K H a xs from h);exact ⟨_,p.isList⟩
 | false=>obtain ⟨its,_,p,_⟩:=I.tuple (show SqT X.K H a xs from h);exact ⟨_,p⟩
theorem SeqB.lt {h:Heap} {c:Bool × Addr} {ys:Array Value} (z:SeqB h c ys):c.2<h.objs.size:=by
 obtain ⟨b,a⟩:=c
 cases b with
 | true=>obtain ⟨_,e,_⟩:=(show h.IsList a ys from z);exact Heap.lt_size e
 | false=>obtain ⟨_,e,_⟩:=(show h.IsTuple a ys from z);exact Heap.lt_size e
theorem zM {N n b:Nat} (h:b∈(N+n+2)::(N+n)::(N+n+1)::List.range' N n):N≤b:=by
 simp only [List.mem_cons,List.mem_range'_1] at h
 omega
theorem Bz (N n:Nat):((N+n+2)::(N+n)::(N+n+1)::List.range' N n).Nodup:=by
 refine List.nodup_cons.mpr ⟨fun h=>?_,List.nodup_cons.mpr ⟨fun h=>?_,List.nodup_cons.mpr ⟨fun h=>?_,List.nodup_range'⟩⟩⟩ <;> (simp only [List.mem_cons,List.mem_range'_1] at h;omega)
theorem Aj {elts:List Expr} {kt:Nat} {pt:Pos} {cs:List (Bool × Addr)} {R:L2.It→Hp→Prop} (I:L2.Inv X pins σ H s) (hs:∀c∈cs,∃xs,SqB X.K H c xs) (hn:cs≠[]) (hl:cs.length≤100) (q:R (Itn X.K cs) H) :
  C_ cs (fun v s1=>wpAny (model X.prog X.w) X.A (pyIter v) (PIE X pins σ (.Tuple elts kt pt) R) X.xe s1) s:=by
 intro h' k1 k2 kk
 refine wpAny_pyIter_zip k1.1 ?_
 have nd:=Bz s.heap.objs.size cs.length
 have big:∀b,b∈(s.heap.objs.size+cs.length+2)::(s.heap.objs.size+cs.length)::(s.heap.objs.size+cs.length+1)::List.range' s.heap.objs.size cs.length→s.heap.objs.size≤b:=fun b hb=>zM hb
 refine ⟨_,_,_,_,H,rfl,I.kept (t':=s.toks) kk,wj nd (fun c hc hm=>?_) (fun e=>hn ?_) (by simpa using hl),⟨k1,k2⟩,fun b hb=>I.fpOk (big b hb) (I.hok.fresh (big b hb)),q⟩
 ·obtain ⟨xs,hx⟩:=hs c hc
  obtain ⟨ys,hy⟩:=hx.seq I
  exact absurd (Nat.lt_of_lt_of_le hy.lt (big _ hm)) (Nat.lt_irrefl _)
 ·have:=congrArg List.length e
  simp at this
  exact this
end
section
variable {X:Cx}
noncomputable def CP (K:PySem.W.Frag) (ta:TA):TI:=fun σ H R=>ta σ H fun vs H1=>∃c d,vs=[.ref c.2,.ref d.2]∧(∀e∈[c,d],∃xs,SqB K H1 e xs)∧R (Itn K [c,d]) H1
theorem BA {elts:List Expr} {kt:Nat} {pt:Pos} {a b:Expr} {ta:TA} {p pos:Pos} (hg:Gl X "zip") (hm:X.mg "zip"=none) (ha:PA X [a,b] ta) (hs:starEach [a,b] X.env=[(false,eval a X.env),(false,eval b X.env)]) (hs2:starEach [b] X.env=[(false,eval b X.env)]) :
  PI X (.Tuple elts kt pt) (.Call (.Name "zip" p) [a,b] [] pos) (CP X.K ta):=by
 intro pins s σ H R I h
 refine Call_ (jp I hg hm boot_zip (PyProof.Rows.callWith_type1 (thn (ha pos pins s σ H _ I h) fun us s1 ⟨vs,H1,I1,r1,q1⟩=>?_) (by rw [hs,hs2]) (by rw [hs2];rfl)))
 obtain ⟨c,d,e,hq,q⟩:=q1
 subst e
 obtain ⟨u,v,rfl,ru,rv⟩:=tu r1
 cases ru
 cases rv
 exact wt (fun f hf=>let ⟨xs,hx⟩:=hq f hf;hx.seq I1) (Aj I1 hq (by simp) (by simp) q)
end
noncomputable def LB (K:PySem.W.Frag) (c:Bool × Addr) (xs:List PV) (chk:AH→Prop) (m0:List Addr) (H0:Hp):Prop:=∀m H st,Ext K m0 H0 m H→RH K m H st→chk st→∃ys,SqB K H c ys∧Rs K m H xs ys
theorem Bk {K:PySem.W.Frag} {m:List Addr} {H:Hp} {st:AH} {v:PV} {x:V} {xs:List PV} (rh:RH K m H st) (r:R K m H v x) (e:bj st v=some xs):∃c:Bool × Addr,x=.ref c.2∧LB K c xs (iN st v) m H∧∃ys,SqB K H c ys:=by
 cases v with
 | tup ys =>
  cases e
  rw [R_tup] at r
  obtain ⟨a,zs,rfl,g,r3⟩:=r
  exact ⟨(false,a),rfl,fun m' H' st' x r q=>⟨zs,x.tup _ _ g,r3.mono x⟩,zs,g⟩
 | rdl ys =>
  cases e
  rw [eW] at r
  obtain ⟨a,zs,rfl,g,r3⟩:=r
  exact ⟨(true,a),rfl,fun m' H' st' x r q=>⟨zs,(x.rdf _ _ g).sq,r3.mono x⟩,zs,g.sq⟩
 | ref n =>
  unfold bj bK at e
  simp only at e
  split at e
  ·cases e
   rename_i q
   obtain ⟨a,zs,rfl,ea,g,r3⟩:=rh.lst q r
   refine ⟨(true,a),rfl,fun m' H' st' x r' q'=>?_,zs,SqL.of g⟩
   have q':st'[n]?=st[n]?:=q'
   rw [q] at q'
   obtain ⟨ys,h1,h2⟩:=r'.at_ n _ a q' (lH x.pre ea)
   exact ⟨ys,SqL.of h1,h2⟩
  ·cases e
 | _=>cases e
theorem zA {K:PySem.W.Frag} {m0:List Addr} {H0:Hp} {a b:Bool × Addr} {xs ys:List PV} {c1 c2:AH→Prop} (h1:LB K a xs c1 m0 H0) (h2:LB K b ys c2 m0 H0):sS K (Itn K [a,b]) (mq xs ys) (fun st=>c1 st∧c2 st) m0 H0:=by
 refine ⟨fun m H st x r q=>?_,fun i v m H st x r q ev=>?_⟩
 ·obtain ⟨as,g1,r1⟩:=h1 m H st x r q.1
  obtain ⟨bs,g2,r2⟩:=h2 m H st x r q.2
  refine ⟨[as,bs],.cons g1 (.cons g2 .nil),?_⟩
  rw [jD,r1.len,r2.len]
  rcases Nat.le_total as.length bs.length with h|h
  ·exact ⟨as,by simp,(Nat.min_eq_left h).symm⟩
  ·exact ⟨bs,by simp,(Nat.min_eq_right h).symm⟩
 ·obtain ⟨as,g1,r1⟩:=h1 m H st x r q.1
  obtain ⟨bs,g2,r2⟩:=h2 m H st x r q.2
  obtain ⟨u,v',e1,e2,rfl⟩:=j' ev
  obtain ⟨y1,f1,q1⟩:=r1.get e1
  obtain ⟨y2,f2,q2⟩:=r2.get e2
  refine ⟨⟨[as,bs],[y1,y2],.cons g1 (.cons g2 .nil),.cons f1 (.cons f2 .nil)⟩,?_⟩
  rintro z H' ⟨T,rfl,hT,hh⟩
  have:=hh _ _ (.cons g1 (.cons g2 .nil)) (.cons f1 (.cons f2 .nil))
  subst this
  refine ⟨Ext.newT r hT,r.newT hT,R_tup.mpr ⟨T,[y1,y2],rfl,SqT.of bB,?_⟩⟩
  rw [Rs_cons',Rs_cons',Rs_nil]
  exact ⟨q1.mono (Ext.newT r hT),q2.mono (Ext.newT r hT),rfl⟩
end FW
set_option Elab.async false
set_option linter.all false
set_option maxRecDepth 100000
set_option maxHeartbeats 1000000
namespace FW
open PySem PySem.Spec PyProof.Rows L2 HX
section
variable {X:Cx} {tg:Expr}
end
section
variable {X:Cx}
end
end FW
set_option Elab.async false
set_option linter.all false
set_option maxRecDepth 100000
set_option maxHeartbeats 1000000
namespace FW
open PySem PySem.Spec PyProof.Rows L2 HX
noncomputable def jv (env:Env):List (Str × NameKind)→List (Str × Addr)→List (Str × Addr)
 | [],cs=>cs
 | (x,k)::r,cs=>jv env r (if k == .free then (x,(env.cells.lookup x).getD 0)::cs else cs)
theorem ve {scope:Scope} {env:Env} (h:∀y∈scope.names,y.2=.free→∃c,env.cells.lookup y.1=some c):closureFor scope env=pure (jv env scope.names []):=by
 have key:∀(names:List (Str × NameKind)) (cs:List (Str × Addr)),(∀y∈names,y.2=.free→∃c,env.cells.lookup y.1=some c) →
   (forIn names cs fun (x:Str × NameKind) (r:List (Str × Addr))=>(match x with
    | (name,kind)=>if (kind == NameKind.free)=true then (do let a ←cellOf env name;pure (ForInStep.yield ((name,a)::r)):Sem _) else pure (ForInStep.yield r)))=(pure (jv env names cs):Sem _):=by
  intro names
  induction names with
  | nil=>intro cs _;rfl
  | cons y r ih =>
   intro cs hy
   obtain ⟨x,k⟩:=y
   rw [List.forIn_cons]
   by_cases hk:k=.free
   ·subst hk
    obtain ⟨c,e⟩:=hy _ List.mem_cons_self rfl
    have ec:cellOf env x=pure c:=by
     unfold cellOf
     rw [e]
    simp only [beq_self_eq_true,if_true,ec]
    show (forIn r ((x,c)::cs) _:Sem _)=_
    rw [ih _ fun y h=>hy y (List.mem_cons_of_mem _ h)]
    simp [jv,e]
   ·have hb:(k == NameKind.free)=false:=by simpa using hk
    simp only [hb,Bool.false_eq_true,if_false]
    show (forIn r cs _:Sem _)=_
    rw [ih _ fun y h=>hy y (List.mem_cons_of_mem _ h)]
    simp [jv,hb]
 unfold closureFor
 have:=key scope.names [] h
 exact congrArg (fun z=>z >>= fun r=>pure r) this
theorem ir {env:Env}:∀ {names:List (Str × NameKind)} {cs:List (Str × Addr)} {x:Str} {c:Addr},(∀y∈names,y.2=.free→∃c,env.cells.lookup y.1=some c)→(∀x c,cs.lookup x=some c→env.cells.lookup x=some c) →
  (jv env names cs).lookup x=some c→env.cells.lookup x=some c
 | [],cs,x,c,_,h,e=>h x c e
 | (y,k)::r,cs,x,c,hn,h,e=>by
  unfold jv at e
  refine ir (fun z hz=>hn z (List.mem_cons_of_mem _ hz)) ?_ e
  intro z d ez
  by_cases hk:k=.free
  ·subst hk
   obtain ⟨c',ec⟩:=hn _ List.mem_cons_self rfl
   simp only [beq_self_eq_true,if_true,List.lookup_cons] at ez
   by_cases q:z=y
   ·subst q
    simp [ec] at ez
    rw [ec,ez]
   ·have:(z == y)=false:=by simpa using q
    rw [this] at ez
    exact h z d ez
  ·have hb:(k == NameKind.free)=false:=by simpa using hk
   rw [hb] at ez
   exact h z d ez
theorem p8 {env:Env}:∀ {names:List (Str × NameKind)} {cs:List (Str × Addr)} {x:Str},(∃c,cs.lookup x=some c)→∃c,(jv env names cs).lookup x=some c
 | [],cs,x,h=>h
 | (y,k)::r,cs,x,h=>by
  unfold jv
  refine p8 ?_
  by_cases hk:k=.free
  ·subst hk
   simp only [beq_self_eq_true,if_true,List.lookup_cons]
   by_cases q:x=y
   ·subst q;simp
   ·have:(x == y)=false:=by simpa using q
    rw [this];exact h
  ·have hb:(k == NameKind.free)=false:=by simpa using hk
   rw [hb];exact h
theorem ot {env:Env}:∀ {names:List (Str × NameKind)} {cs:List (Str × Addr)} {x:Str},(x,NameKind.free)∈names→∃c,(jv env names cs).lookup x=some c
 | [],cs,x,h=>nomatch h
 | (y,k)::r,cs,x,h=>by
  unfold jv
  rcases List.mem_cons.mp h with e|h
  ·cases e
   exact p8 (by simp)
  ·exact ot h
noncomputable def PTs (X:Cx) (xs:List Expr) (t:TT):Prop :=
 ∀(pins:List (Addr × Obj)) (s:Shared) (σ:L2.St) (H:Hp) (Q:Bool→Hp→Prop),L2.Inv X pins σ H s→t σ H Q →
  wpAny (model X.prog X.w) X.A (forIn xs true fun c r=>if r=true then do let ok ←isTrue c X.env (eval c X.env);pure (ForInStep.yield ok) else pure (ForInStep.yield r)) (TP X pins σ Q) X.xe s
theorem mC {env:Env}:∀xs:List Expr,(forIn xs false fun c r=>if r=true then do let ok ←isTrue c env (eval c env);pure (ForInStep.yield ok) else pure (ForInStep.yield r):Sem Bool)=pure false
 | []=>rfl
 | x::xs=>by
  rw [List.forIn_cons]
  simp only [Bool.false_eq_true,if_false]
  exact mC xs
theorem vY {X:Cx}:PTs X [] (fun σ H Q=>Q true H):=fun pins s σ H Q I h=>wpAny_pure ⟨H,I,h⟩
theorem sY {X:Cx} {x:Expr} {xs:List Expr} {t u:TT} (h1:PT X x t) (h2:PTs X xs u):PTs X (x::xs) (CS t u):=by
 intro pins s σ H Q I h
 rw [List.forIn_cons]
 simp only [if_true]
 refine wpAny_bind (wpAny_bind (thn (h1 pins s σ H _ I h) fun b s1 ⟨H1,I1,q1⟩=>?_))
 refine wpAny_pure ?_
 cases b with
 | true =>
  rw [if_pos rfl] at q1
  exact h2 pins s1 σ H1 Q I1 q1
 | false =>
  rw [if_neg Bool.false_ne_true] at q1
  show wpAny _ _ (forIn xs false _) _ _ _
  rw [mC]
  exact wpAny_pure ⟨H1,I1,q1⟩
theorem rE {prog:Program} {w:World} {A:Around} {R:Result→Shared→Prop} {s:Shared} {elt target iter:Expr} {ifs:List Expr} {scope:Scope} {pos:Pos} {it acc:Value} {env:Env} (I:Nat→Shared→Prop)
  (turn:∀n s,I n s→wpAny (model prog w) A (pyNext it) (fun r s₁=>match r with
   | none=>R (.ok .next) s₁
   | some v=>wpAny (model prog w) A (letOwnedTupleGo target it v) (fun _ s0=>wpAny (model prog w) A (assign target env v) (fun _ s₂ =>
     wpAny (model prog w) A (forIn ifs true fun c r=>if r=true then do let ok ←isTrue c env (eval c env);pure (ForInStep.yield ok) else pure (ForInStep.yield r)) (fun ok s₃ =>
      if ok=true then wpAny (model prog w) A (eval elt env) (fun x s₄ =>
       wpAny (model prog w) A (call (.builtin "list.append") [acc,x]) (fun _ s₅=>∃m,m<n∧I m s₅) (fun _ _=>False) s₄) (fun _ _=>False) s₃
      else ∃m,m<n∧I m s₃) (fun _ _=>False) s₂) (fun _ _=>False) s0) (fun _ _=>False) s₁) (fun _ _=>False) s)
  (n:Nat) (h:I n s):codeAny (model prog w) A (.compLoop (.ListComp elt [⟨target,iter,ifs,0⟩] scope pos) 0 it acc env) R s:=by
 refine codeAny_loop rfl I (fun n s hI=>?_) n h
 show wpAny _ A ((compTurn (.ListComp elt [⟨target,iter,ifs,0⟩] scope pos) 0 it acc env).onRaise (fun x=>do noteFrame x env;theTreesLotGoes x)) _ _ s
 refine wpAny_noted ?_
 rw [compTurn_list]
 refine wpAny_bind (wpAny_standAt (wpAny_bind (wpAny_mono (turn n s hI) (fun r s₁ h₁=>?_) fun _ _ h'=>h'.elim)))
 cases r with
 | none=>exact wpAny_pure h₁
 | some v =>
  refine wpAny_bind (wpAny_mono h₁ (fun _ s0 h₁=>?_) fun _ _ h'=>h'.elim)
  refine wpAny_bind (wpAny_mono h₁ (fun _ s₂ h₂=>wpAny_bind (wpAny_mono h₂ (fun ok s₃ h₃=>?_) fun _ _ h'=>h'.elim)) fun _ _ h'=>h'.elim)
  cases ok with
  | false=>exact wpAny_pure ⟨rfl,h₃⟩
  | true =>
   exact wpAny_bind (wpAny_bind (wpAny_mono h₃ (fun x s₄ h₄=>wpAny_bind (wpAny_mono h₄ (fun _ s₅ h₅=>wpAny_pure (wpAny_pure ⟨rfl,h₅⟩)) fun _ _ h'=>h'.elim)) fun _ _ h'=>h'.elim))
noncomputable def cxC (X:Cx) (N:List Str) (s2:Shared) (H2:Hp) (fp:List Addr) (scope:Scope) (C:Addr):Cx :=
 { X with N:=N,s₀:=s2,H₀:=H2,env:=compEnvC scope (jv X.env scope.names []) C X.env,outer:=X.stack,stack:=X.stack,ex:=fp,fn:=fun _=>false,pn:=[],xe:=fun _ _=>False }
structure CScope (X:Cx) (scope:Scope):Prop where
 kind:scope.kind=.function
 nocell:∀y∈scope.names,y.2≠.cell
 nms:∀y∈scope.names,y.2=.local→scope.names.lookup y.1=some .local
 free:∀y∈scope.names,y.2=.free→X.env.kindOf y.1=some .cell∨X.env.kindOf y.1=some .free
theorem mG {scope:Scope} {env:Env} {x:Str} {k:NameKind} (h:(relabel scope env).names.lookup x=some k) (hk:k=.cell∨k=.free) (nc:∀y∈scope.names,y.2≠.cell):(x,NameKind.free)∈scope.names:=by
 have hm:=PySem.mem_of_lookup h
 unfold relabel at hm
 obtain ⟨⟨n,k0⟩,hy,e⟩:=List.mem_map.mp hm
 simp only at e
 split at e
 ·rename_i hc
  cases e
  simp only [Bool.and_eq_true,beq_iff_eq] at hc
  have:k0=.free:=hc.1.1
  subst this
  exact hy
 ·cases e
  rcases hk with rfl|rfl
  ·exact absurd rfl (nc _ hy)
  ·exact hy
theorem jQ {env:Env}:∀ {names:List (Str × NameKind)} {x:Str},names.lookup x=some .globalImplicit →
  (names.map fun (n,k)=>if (k == NameKind.free && env.scope.kind == .function && env.kindOf n == some .cell) then (n,NameKind.cell) else (n,k)).lookup x=some .globalImplicit
 | [],_,h=>by simp at h
 | (n,k)::r,x,h=>by
  have ih:=@jQ env r x
  show List.lookup x ((if (k == NameKind.free && env.scope.kind == .function && env.kindOf n == some .cell)=true then (n,NameKind.cell) else (n,k))::_)=_
  cases hx:x == n with
  | true =>
   simp only [List.lookup_cons,hx] at h
   cases h
   simp [List.lookup_cons,hx]
  | false =>
   simp only [List.lookup_cons,hx] at h
   by_cases hc:(k == NameKind.free && env.scope.kind == .function && env.kindOf n == some .cell)=true
   ·rw [if_pos hc];simp only [List.lookup_cons,hx];exact ih h
   ·rw [if_neg hc];simp only [List.lookup_cons,hx];exact ih h
theorem dU {env:Env}:∀ {names:List (Str × NameKind)} {x:Str},names.lookup x=some .free →
  (names.map fun (n,k)=>if (k == NameKind.free && env.scope.kind == .function && env.kindOf n == some .cell) then (n,NameKind.cell) else (n,k)).lookup x=some .cell ∨
  (names.map fun (n,k)=>if (k == NameKind.free && env.scope.kind == .function && env.kindOf n == some .cell) then (n,NameKind.cell) else (n,k)).lookup x=some .free
 | [],_,h=>by simp at h
 | (n,k)::r,x,h=>by
  have ih:=@dU env r x
  show List.lookup x ((if (k == NameKind.free && env.scope.kind == .function && env.kindOf n == some .cell)=true then (n,NameKind.cell) else (n,k))::_)=_∨List.lookup x ((if (k == NameKind.free && env.scope.kind == .function && env.kindOf n == some .cell)=true then (n,NameKind.cell) else (n,k))::_)=_
  cases hx:x == n with
  | true =>
   simp only [List.lookup_cons,hx] at h
   cases h
   by_cases hc:(NameKind.free == NameKind.free && env.scope.kind == .function && env.kindOf n == some .cell)=true
   ·rw [if_pos hc];simp [List.lookup_cons,hx]
   ·rw [if_neg hc];simp [List.lookup_cons,hx]
  | false =>
   simp only [List.lookup_cons,hx] at h
   by_cases hc:(k == NameKind.free && env.scope.kind == .function && env.kindOf n == some .cell)=true
   ·rw [if_pos hc];simp only [List.lookup_cons,hx];exact ih h
   ·rw [if_neg hc];simp only [List.lookup_cons,hx];exact ih h
section
variable {X:Cx} {pins:List (Addr × Obj)} {σ:L2.St} {H2:Hp} {s2:Shared} {fp:List Addr} {scope:Scope} {C:Addr} {N:List Str}
theorem CScope.cells (S:CScope X scope) (I:L2.Inv X pins σ H2 s2):∀y∈scope.names,y.2=.free→∃c,X.env.cells.lookup y.1=some c:=fun y hy hf=>I.ok.has y.1 (S.free y hy hf)
theorem BU (S:CScope X scope) (I:L2.Inv X pins σ H2 s2) (f2:∀b∈fp,mW X pins H2 b) (fl:∀b∈fp,b<s2.heap.objs.size) (hC:s2.heap.objs.size≤C):(cxC X N s2 H2 fp scope C).Ok where
 mod:=I.ok.mod
 kind:=S.kind
 glob:=I.ok.glob
 blt:=I.ok.blt
 above:=hC
 inj:=fun x y c h1 h2=>I.ok.inj x y c (ir (S.cells I) (fun _ _ z=>by simp at z) h1) (ir (S.cells I) (fun _ _ z=>by simp at z) h2)
 has:=fun x hx=>by
  refine ot (x:=x) ?_
  rcases hx with h|h
  ·exact mG h (.inl rfl) S.nocell
  ·exact mG h (.inr rfl) S.nocell
 cab:=fun x c h=>by cases h
 hd:=I.ok.hd
 frames:=I.ok.frames
 stk:=.inl rfl
 exf:=fun b hb=>⟨Nat.ne_of_lt (Nat.lt_of_lt_of_le (fl b hb) hC),fun x c h=>(f2 b hb).2.2.2.2.1 x c (ir (S.cells I) (fun _ _ z=>by simp at z) h)⟩
 bs:=I.bs
 bsz:=Nat.le_trans I.ok.bsz I.sz
 noex:=fun b o e hb=>by
  rcases (f2 b hb).2.2.2.1 with z|z
  ·exact I.ok.noex b o e z
  ·have:=Heap.lt_size e
   exact absurd (Nat.lt_of_lt_of_le (Nat.lt_of_lt_of_le this I.ok.bsz) z) (Nat.lt_irrefl _)
 exfs:=fun b hb hf=>by
  rcases List.mem_cons.mp (I.stkSub b hf) with z|z
  ·exact (f2 b hb).2.1 z
  ·exact (f2 b hb).2.2.1 z
 funs:=I.stack
 frf:=I.stkFree
theorem yD {H3:Hp} {h1:Heap} {tk:Nat} {nt:List Str} {cn:List Str} {caps:List Nat} (S:CScope X scope) (I:L2.Inv X pins σ H2 s2) (f2:∀b∈fp,mW X pins H2 b) (fl:∀b∈fp,b<s2.heap.objs.size) (hC:s2.heap.objs.size≤C)
  (un:Un (frs X.stack) fp H2 H3 s2.heap h1) (hok:HOk X.prog X.w H3 h1) (ns:h1.Ns C (fun _=>none)) (hn:H3 C=none) (keep:∀b o,s2.heap.get? b=some o→h1.get? b=some o) (free:∀b o,s2.heap.get? b=some o→H2 b=none→H3 b=none)
  (hcn:cn=caps.filterMap (X.N[·]?)) (hcl:∀i∈caps,i<X.N.length) (hcf:∀x∈cn,scope.names.lookup x=some .free) (hce:∀x∈cn,X.env.kindOf x=some .cell∨X.env.kindOf x=some .free) :
  L2.Inv (cxC X (nt++cn) s2 H2 fp scope C) [] (nt.map (fun _=>none)++caps.map fun i=>(σ[i]?).join) H3 { s2 with heap:=h1,toks:=tk }:=by
 have cel:∀x c,(jv X.env scope.names []).lookup x=some c→X.env.cells.lookup x=some c:=fun x c h=>ir (S.cells I) (fun _ _ z=>by simp at z) h
 have lenc:cn.length=caps.length:=by
  rw [hcn]
  clear hcf hce hcn
  induction caps with
  | nil=>rfl
  | cons i r ih =>
   have:X.N[i]?=some (X.N[i]'(hcl i List.mem_cons_self)):=List.getElem?_eq_getElem (hcl i List.mem_cons_self)
   rw [List.filterMap_cons,this]
   simp only [List.length_cons]
   rw [ih fun j hj=>hcl j (List.mem_cons_of_mem _ hj)]
 have getc:∀(j i:Nat),caps[j]?=some i→∃x,cn[j]?=some x∧X.N[i]?=some x:=by
  rw [hcn]
  clear hcf hce hcn lenc
  induction caps with
  | nil=>intro j i h;simp at h
  | cons k r ih =>
   intro j i h
   have hk:X.N[k]?=some (X.N[k]'(hcl k List.mem_cons_self)):=List.getElem?_eq_getElem (hcl k List.mem_cons_self)
   rw [List.filterMap_cons,hk]
   cases j with
   | zero=>simp at h;subst h;exact ⟨_,rfl,hk⟩
   | succ j=>exact ih (fun j hj=>hcl j (List.mem_cons_of_mem _ hj)) j i (by simpa using h)
 refine ⟨BU S I f2 fl hC,rfl,I.bare,un,⟨_,ns,fun i x v e1 e2 e3=>?_⟩,fun x c e=>?_,hn,fun x c e=>?_,fun p hp=>absurd (show p∈([]:List (Addr × Obj)) from hp) (by simp),hok,?_⟩
 ·by_cases hi:i<nt.length
  ·rw [List.getElem?_append_left (by simpa using hi),List.getElem?_map] at e2
   cases q:nt[i]? with
   | none=>rw [q] at e2;cases e2
   | some z=>rw [q] at e2;cases e2
  ·rw [List.getElem?_append_right (by simpa using hi),List.length_map,List.getElem?_map] at e2
   have e1':(nt++cn)[i]?=some x:=e1
   rw [List.getElem?_append_right (by omega)] at e1'
   cases q:caps[i-nt.length]? with
   | none=>rw [q] at e2;cases e2
   | some j =>
    rw [q] at e2
    have e2':(σ[j]?).join=some v:=Option.some.inj e2
    obtain ⟨y,g1,g2⟩:=getc _ _ q
    rw [e1'] at g1
    cases g1
    have e4:σ[j]?=some (some v):=by
     cases z:σ[j]? with
     | none=>rw [z] at e2';cases e2'
     | some w=>rw [z] at e2';rw [show w=some v from e2']
    obtain ⟨m,hm,hl⟩:=I.loc
    have kx:=hce x (List.mem_of_getElem? e1')
    obtain ⟨u,ru,lk⟩:=hl j x v g2 e4 (.inr (by rcases kx with k|k;exact .inl k;exact .inr k))
    refine ⟨u,ru,.inr ⟨dU (hcf x (List.mem_of_getElem? e1')),?_⟩⟩
    rcases lk with ⟨k,_⟩|⟨_,c,ec,hc⟩
    ·rcases kx with k' | k' <;> rw [k] at k' <;> cases k'
    ·obtain ⟨c',ec'⟩:=ot (env:=X.env) (names:=scope.names) (cs:=[]) (x:=x) (PySem.mem_of_lookup (hcf x (List.mem_of_getElem? e1')))
     have:=cel x c' ec'
     rw [ec] at this
     cases this
     obtain ⟨o,ho,hd⟩:=hc
     exact ⟨c,ec',o,keep _ _ ho,hd⟩
 ·obtain ⟨v,o,ho,hd⟩:=I.cell x c (cel x c e)
  exact ⟨v,o,keep _ _ ho,hd⟩
 ·obtain ⟨v,o,ho,hd⟩:=I.cell x c (cel x c e)
  exact free c o ho (I.freeC x c (cel x c e))
 ·show (nt.map (fun _=>(none:Option V))++caps.map fun i=>(σ[i]?).join).length=(nt++cn).length
  simp [lenc]
end
end FW
set_option Elab.async false
set_option linter.all false
set_option maxRecDepth 100000
set_option maxHeartbeats 1000000
namespace FW
open PySem PySem.Spec PyProof.Rows L2 HX
section
variable {Γ:Nat→FSp}
mutual
theorem pH {n:Nat} (G:bq Γ):∀(t:Tg) {v:PV} {ρ:Fr} {st:AH} {Q:Fr→AH→Prop},t.low n=true→di Γ t v ρ st Q→di Γ t v ρ st fun ρ' st'=>Q ρ' st'∧∀i,n≤i→ρ'[i]?=ρ[i]?
 | .name i,v,ρ,st,Q,h,q=>by
  skip
  rw [Tg.low] at h
  have:=of_decide_eq_true h
  exact ⟨q,fun j hj=>List.getElem?_set_ne (by omega)⟩
 | .tup ts,v,ρ,st,Q,h,q=>by
  skip
  rw [Tg.low] at h
  obtain ⟨xs,e,hl,q⟩:=q
  exact ⟨xs,e,hl,jB G ts h q⟩
 | .ltup ts,v,ρ,st,Q,h,q=>by
  skip
  rw [Tg.low] at h
  obtain ⟨xs,e,hl,q⟩:=q
  exact ⟨xs,e,hl,jB G ts h q⟩
 | .sub _ _,v,ρ,st,Q,h,q=>by rw [Tg.low] at h;cases h
theorem jB {n:Nat} (G:bq Γ):∀(t:Tgs) {v:List PV} {ρ:Fr} {st:AH} {Q:Fr→AH→Prop},t.low n=true→fv Γ t v ρ st Q→fv Γ t v ρ st fun ρ' st'=>Q ρ' st'∧∀i,n≤i→ρ'[i]?=ρ[i]?
 | .nil,v,ρ,st,Q,h,q=>by exact ⟨q.1,q.2,fun _ _=>rfl⟩
 | .cons t ts,v,ρ,st,Q,h,q=>by
  skip
  rw [Tgs.low,Bool.and_eq_true] at h
  obtain ⟨x,r,e,q⟩:=q
  refine ⟨x,r,e,aP G t (fun ρ1 st1 k=>?_) (pH G t h.1 q)⟩
  refine eI G ts (fun ρ2 st2 k2=>⟨k2.1,fun i hi=>(k2.2 i hi).trans (k.2 i hi)⟩) (jB G ts h.2 k.1)
end
end
mutual
theorem R.mono0 {K:PySem.W.Frag} {m:List Addr} {H H':Hp} (ht:∀a ys,SqT K H a ys→SqT K H' a ys) (hr:∀a ys,RdF K H a ys→RdF K H' a ys):∀ {p:PV} {v:V},R K m H p v→R K m H' p v
 | .non,v,h=>by rw [R_non] at h ⊢;exact h
 | .bl b,v,h=>by rw [R_bl] at h ⊢;exact h
 | .int b,v,h=>by rw [R_int] at h ⊢;exact h
 | .str b,v,h=>by rw [R_str] at h ⊢;exact h
 | .ref n,v,h=>by rw [iG] at h ⊢;exact h
 | .tup xs,v,h=>by rw [R_tup] at h ⊢;obtain ⟨a,ys,e,q,r⟩:=h;exact ⟨a,ys,e,ht _ _ q,Rs.mono0 ht hr r⟩
 | .rdl xs,v,h=>by rw [eW] at h ⊢;obtain ⟨a,ys,e,q,r⟩:=h;exact ⟨a,ys,e,hr _ _ q,Rs.mono0 ht hr r⟩
 | .fn a,v,h=>by rw [wK] at h ⊢;exact h
theorem Rs.mono0 {K:PySem.W.Frag} {m:List Addr} {H H':Hp} (ht:∀a ys,SqT K H a ys→SqT K H' a ys) (hr:∀a ys,RdF K H a ys→RdF K H' a ys):∀ {ps:List PV} {vs:List V},Rs K m H ps vs→Rs K m H' ps vs
 | [],vs,h=>by rw [Rs_nil] at h ⊢;exact h
 | p::ps,vs,h=>by
  rw [aK] at h ⊢
  obtain ⟨y,r,e,h1,h2⟩:=h
  exact ⟨y,r,e,R.mono0 ht hr h1,Rs.mono0 ht hr h2⟩
end
theorem ly {K:PySem.W.Frag} {H:Hp} {D:Addr} {ys zs:List V} (hD:H D=some (.lst ys)):∀a us,SqT K H a us→SqT K (upd H D (.lst zs)) a us:=fun a us q=>by
 rcases q with (q|⟨w,q⟩)|q
 ·exact .inl (.inl (by rw [af (fun z=>by subst z;rw [hD] at q;cases q)];exact q))
 ·exact .inl (.inr ⟨w,by rw [af (fun z=>by subst z;rw [hD] at q;cases q)];exact q⟩)
 ·exact .inr q
theorem lz {K:PySem.W.Frag} {H:Hp} {D:Addr} {ys zs:List V} (hD:H D=some (.lst ys)):∀a us,RdF K H a us→RdF K (upd H D (.lst zs)) a us:=fun a us q=>by
 rcases q with ⟨w,q⟩|q
 ·exact .inl ⟨w,by rw [af (fun z=>by subst z;rw [hD] at q;cases q)];exact q⟩
 ·exact .inr q
theorem TB.away {K:PySem.W.Frag} {H:Hp} {D:Addr} {ys zs:List V} (t:TB K H) (hD:H D=some (.lst ys)):TB K (upd H D (.lst zs)) :=
 t.keep (fun a ps q=>by rw [af (fun z=>by subst z;rw [hD] at q;cases q)];exact q) fun a o q=>by rw [af (fun z=>by subst z;rw [hD] at q;cases q)];exact q
theorem Ext.away {K:PySem.W.Frag} {m m':List Addr} {H H':Hp} {D:Addr} {ys zs:List V} (x:Ext K m H m' H') (h0:H D=none) (hD:H' D=some (.lst ys)):Ext K m H m' (upd H' D (.lst zs)) :=
 ⟨x.pre,x.new,fun a o ha e n=>by rw [af (av e h0)];exact x.fr a o ha e n,fun a us q=>ly hD a us (x.tup a us q),fun a us q=>lz hD a us (x.rdf a us q),fun a ps ha e=>let ⟨p1,e1⟩:=x.tbs a ps ha e;⟨p1,by rw [af (av e h0)];exact e1⟩,fun t=>(x.tb t).away hD⟩
theorem RH.away {K:PySem.W.Frag} {m:List Addr} {H:Hp} {st:AH} {D:Addr} {ys zs:List V} (h:RH K m H st) (hm:D ∉ m) (hD:H D=some (.lst ys)):RH K m (upd H D (.lst zs)) st:=by
 refine ⟨h.len,h.nd,fun n c a h1 h2=>?_,h.tb.away hD⟩
 have ha:a≠D:=fun z=>hm (z ▸ List.mem_of_getElem? h2)
 have hc:=h.at_ n c a h1 h2
 cases c with
 | lst xs=>obtain ⟨us,g1,g2⟩:=hc;exact ⟨us,by rw [af ha];exact g1,g2.mono0 (ly hD) (lz hD)⟩
 | dk kvs=>obtain ⟨us,g1,g2,g3⟩:=hc;exact ⟨us,by rw [af ha];exact g1,g2,g3.mono0 (ly hD) (lz hD)⟩
theorem RF.away {K:PySem.W.Frag} {m:List Addr} {H:Hp} {ρ:Fr} {σ:L2.St} {D:Addr} {ys zs:List V} (h:RF K m H ρ σ) (hD:H D=some (.lst ys)):RF K m (upd H D (.lst zs)) ρ σ :=
 ⟨h.len,fun i v e=>let ⟨y,e1,r⟩:=h.at_ i v e;⟨y,e1,r.mono0 (ly hD) (lz hD)⟩⟩
theorem RF.less {K:PySem.W.Frag} {m:List Addr} {H:Hp} {ρ ρ':Fr} {σ:L2.St} {n:Nat} (h:RF K m H ρ' σ) (hl:ρ.length=ρ'.length) (hn:∀i v,ρ[i]?=some (some v)→n≤i) (hp:∀i,n≤i→ρ'[i]?=ρ[i]?):RF K m H ρ σ :=
 ⟨hl.trans h.len,fun i v e=>h.at_ i v (by rw [hp i (hn i v e)];exact e)⟩
theorem qj {nt:List Str} {f:Nat→Option PV} {caps:List Nat}:∀(i:Nat) (v:PV),(nt.map (fun _=>(none:Option PV))++caps.map f)[i]?=some (some v)→nt.length≤i:=fun i v e=>by
 by_cases hi:i<nt.length
 ·rw [List.getElem?_append_left (by simpa using hi),List.getElem?_map] at e
  cases q:nt[i]? with
  | none=>rw [q] at e;cases e
  | some z=>rw [q] at e;cases e
 ·omega
theorem As {K:PySem.W.Frag} {m:List Addr} {H:Hp} {ρ:Fr} {σ:L2.St} {nt:List Str} {caps:List Nat} (h:RF K m H ρ σ) :
  RF K m H (nt.map (fun _=>none)++caps.map fun i=>(ρ[i]?).join) (nt.map (fun _=>none)++caps.map fun i=>(σ[i]?).join):=by
 refine ⟨by simp,fun i v e=>?_⟩
 have hi:=qj i v e
 rw [List.getElem?_append_right (by simpa using hi),List.length_map,List.getElem?_map] at e
 rw [List.getElem?_append_right (by simpa using hi),List.length_map,List.getElem?_map]
 cases q:caps[i-nt.length]? with
 | none=>rw [q] at e;cases e
 | some j =>
  rw [q] at e
  have e':(ρ[j]?).join=some v:=Option.some.inj e
  have e4:ρ[j]?=some (some v):=by
   cases z:ρ[j]? with
   | none=>rw [z] at e';cases e'
   | some w=>rw [z] at e';rw [show w=some v from e']
  obtain ⟨y,e5,r⟩:=h.at_ j v e4
  exact ⟨y,by show some ((σ[j]?).join)=_;rw [e5];rfl,r⟩
section
variable {X:Cx} {Γ:Nat→FSp} {pins:List (Addr × Obj)} {σ:L2.St} {H:Hp} {s:Shared}
noncomputable def eh (K:PySem.W.Frag) (m1:List Addr) (H1:Hp) (Fin:Addr→Hp→Prop):LK:=fun vs st2=>∀m2 H2 D ys,Ext K m1 H1 m2 H2→RH K m2 H2 st2→D ∉ m2→H1 D=none→H2 D=some (.lst ys)→Rs K m2 H2 vs ys→Fin D H2
noncomputable def e6 (Γ:Nat→FSp) (elt:E) (tg:Tg) (ifs:Es) (ρ:Fr):PV→AH→(Option PV→AH→Prop)→Prop:=fun x st2 k=>di Γ tg x ρ st2 fun ρ' st3=>iq Γ ifs ρ' st3 fun c st4=>if c=true then wpE Γ elt ρ' st4 fun v st5=>k (some v) st5 else k none st4
theorem pO (G:bq Γ) (hcalm:X.calm=true) {elt:E} {tg:Tg} {ifs:Es} {nt:List Str} {caps:List Nat} {cn:List Str} {eltx tgx iterx:Expr} {ifsx:List Expr} {scope:Scope} {pos p0:Pos} {use:Option (Value→Sem Unit)} {Qf:Value→Shared→Prop} {Fin:Addr→Hp→Prop} {wi:TI}
  (S:CScope X scope) (hcn:cn=caps.filterMap (X.N[·]?)) (hcl:∀i∈caps,i<X.N.length) (hcf:∀x∈cn,scope.names.lookup x=some .free) (hce:∀x∈cn,X.env.kindOf x=some .cell∨X.env.kindOf x=some .free)
  (hset:nq iterx=true) (hlow:tg.low nt.length=true) (hI:PI X tgx iterx wi)
  (hG:∀s2 H2 fp C,PG (cxC X (nt++cn) s2 H2 fp scope C) tgx (TGx X.K (di Γ tg)))
  (hT:∀s2 H2 fp C,PTs (cxC X (nt++cn) s2 H2 fp scope C) ifsx (TTx X.K (iq Γ ifs)))
  (hE:∀s2 H2 fp C,PE (cxC X (nt++cn) s2 H2 fp scope C) eltx (TEx X.K (wpE Γ elt)))
  (I:L2.Inv X pins σ H s)
  (h:wi σ H fun J H1=>∃m ρ st1 xs chk,RF X.K m H1 ρ σ∧RH X.K m H1 st1∧sS X.K J xs chk m H1∧xs.length<100000∧eE chk (e6 Γ elt tg ifs (nt.map (fun _=>none)++caps.map fun i=>(ρ[i]?).join)) xs [] st1 (eh X.K m H1 Fin))
  (fin:∀C D H' s' m',L2.Inv X pins σ H' s'→s'.heap.Ns C m'→mW X pins H' C→Fin D H'→compPost (model X.prog X.w) X.A X.xe use Qf (.ref D) C (.ok .next) s') :
  wpAny (model X.prog X.w) X.A (comprehension (.ListComp eltx [⟨tgx,iterx,ifsx,0⟩] scope pos) scope X.env p0 (newList []) false (eval iterx X.env) use) Qf X.xe s:=by
 refine wpAny_comprehension_free (use:=use) rfl (tO hset) (ve (S.cells I)) S.kind S.nms ?_
 refine thn (hI pins s σ H _ I h) fun v s1 h1=>thn h1 fun itv s2 h2=>?_
 obtain ⟨it,fp,tn,J,H2,e,I2,T,st2,f2,m,ρ,st1,xs,chk,rf,rh,W,hxs,w⟩:=h2
 subst e
 have fl:∀b∈fp,b<s2.heap.objs.size:=fun b hb=>by
  obtain ⟨o,e,_⟩:=T.obj 0 _ st2 b hb
  exact Heap.lt_size e
 refine wpAny_newObj_type (wpAny_newFunctionEnv S.nocell (by intro y hy;simp at hy) (fun h₁ hns₁ hsb₁=>?_) S.kind)
 dsimp only at hns₁ hsb₁ ⊢
 generalize hD:s2.heap.objs.size=D at *
 generalize hH3:s2.heap.push { cls:=.type "list",dict:=none,data:=.seq ([]:List Value).toArray }=P3 at hns₁ hsb₁ ⊢
 generalize hCC:P3.objs.size=C at *
 have hC1:C=D+1:=by rw [←hCC,←hH3,Heap.size_push,hD]
 have ltDC:D<C:=by rw [hC1];exact Nat.lt_succ_self D
 have neC:∀b,b<D→b≠C:=fun b hb=>Nat.ne_of_lt (Nat.lt_trans hb ltDC)
 have hDn:H2 D=none:=by rw [←hD];exact I2.hok.fresh (Nat.le_refl _)
 have hCn:H2 C=none:=I2.hok.fresh (by rw [hD];exact Nat.le_of_lt ltDC)
 have old3:∀b o,s2.heap.get? b=some o→P3.get? b=some o:=fun b o e=>hH3 ▸ Heap.get?_push_of_some _ e
 have old:∀b o,s2.heap.get? b=some o→h₁.get? b=some o:=fun b o e=>hsb₁.extBut b o (neC b (hD ▸ Heap.lt_size e)) (Heap.get?_push_of_some _ (old3 b o e))
 have newD:h₁.get? D=some { cls:=.type "list",data:=.seq #[] }:=hsb₁.extBut _ _ (Nat.ne_of_lt ltDC) (Heap.get?_push_of_some _ (by rw [←hH3,←hD];exact Heap.get?_push_size _ rfl))
 have un:Un (frs X.stack) fp H2 (upd H2 D (.lst [])) s2.heap h₁:=Un.laid old (by rw [hD];exact Nat.le_refl _) hDn
 have hok:HOk X.prog X.w (upd H2 D (.lst [])) h₁:=I2.hok.laid old (by rw [hD];exact Nat.le_refl _) ⟨Nat.zero_le _,[],0,.nil,newD⟩
 have I4:=yD (nt:=nt) (tk:=s2.toks+([]:List (Str × Value)).length) S I2 f2 (by rw [hD];exact fl) (C:=C) (by rw [hD];exact Nat.le_of_lt ltDC) un hok (by simpa using hns₁) (by rw [af (Nat.ne_of_gt ltDC)];exact hCn) old
  (fun b o e n=>by rw [af (Nat.ne_of_lt (hD ▸ Heap.lt_size e))];exact n) hcn hcl hcf hce
 generalize hρ0:(nt.map (fun _=>none)++caps.map fun i=>(ρ[i]?).join:Fr)=ρ0 at w
 have hρn:∀i v,ρ0[i]?=some (some v)→nt.length≤i:=by rw [←hρ0];exact qj
 have rf0:RF X.K m H2 ρ0 (nt.map (fun _=>none)++caps.map fun i=>(σ[i]?).join):=by rw [←hρ0];exact As rf
 generalize (nt.map (fun _=>none)++caps.map fun i=>(σ[i]?).join:L2.St)=σ0 at I4 rf0
 have loop:codeAny (model X.prog X.w) X.A (.compLoop (.ListComp eltx [⟨tgx,iterx,ifsx,0⟩] scope pos) 0 (.ref it) (.ref D) (compEnvC scope (jv X.env scope.names []) C X.env)) (compPost (model X.prog X.w) X.A X.xe use Qf (.ref D) C)
   { s2 with heap:=h₁,toks:=s2.toks+([]:List (Str × Value)).length }:=by
  refine rE (fun n s'=>∃(i:Nat),∃σ' H' m' st' acc ys,n+i=xs.length∧L2.Inv (cxC X (nt++cn) s2 H2 fp scope C) [] σ' H' s'∧tn i s'.heap∧(∀b∈fp,H' b=none)∧Ext X.K m H2 m' H'∧RH X.K m' H' st'∧RF X.K m' H' ρ0 σ'∧D ∉ m'∧H' D=some (.lst ys)∧Rs X.K m' H' acc ys∧ys.length≤i ∧
   eE chk (e6 Γ elt tg ifs ρ0) (xs.drop i) acc st' (eh X.K m H2 Fin)) ?_ xs.length
   ⟨0,σ0,_,m,st1,[],[],rfl,I4,T.keep 0 _ _ st2 (fun b _ o e=>old b o e),fun b hb=>by rw [af (Nat.ne_of_lt (fl b hb))];exact (f2 b hb).1,Ext.newT rh hDn,rh.newT hDn,rf0.mono (Ext.newT rh hDn),rh.fresh hDn,bB,Rs_nil.mpr rfl,Nat.le_refl _,by simpa using w⟩
  rintro n s' ⟨i,σ',H',m',st',acc,ys,hn,I',tni,fpn,x',rh',rf',Dm,hDl,rys,hly,k⟩
  have stat:∀ {H'':Hp},(∀b∈fp,H'' b=none)→∀b∈fp,mW (cxC X (nt++cn) s2 H2 fp scope C) [] H'' b:=fun hz b hb=>⟨hz b hb,(I'.ok.exf b hb).1,I'.ok.exfs b hb,.inl hb,(I'.ok.exf b hb).2,fun p hp=>absurd (show p∈([]:List (Addr × Obj)) from hp) (by simp)⟩
  cases q:xs.drop i with
  | nil =>
   rw [q] at k
   have hi:i=xs.length:=by
    have:=congrArg List.length q
    simp at this
    omega
   subst hi
   refine thn (T.done (cxC X (nt++cn) s2 H2 fp scope C) rfl rfl rfl hcalm _ [] s' σ' H' (fun _ _=>False) I' (stat fpn) tni (W.stop m' H' st' x' rh' k.1)) fun r s1 ⟨hr,I1⟩=>?_
   subst hr
   have IX:L2.Inv X pins σ H' s1:=I2.call' I1.os I1.base I1.hok I1.bare fun b hb=>⟨(f2 b hb).2.2.2.1,(f2 b hb).2.1,(f2 b hb).2.2.2.2.1,(f2 b hb).2.2.2.2.2⟩
   obtain ⟨mm,hns,_⟩:=I1.loc
   exact fin C D H' s1 mm IX hns (I2.fpOk (by rw [hD];exact Nat.le_of_lt ltDC) I1.free) (k.2 m' H' D ys x' rh' Dm hDn hDl rys)
  | cons v rest =>
   rw [q] at k
   have hi:i<xs.length:=by
    have:=congrArg List.length q
    simp at this
    omega
   have ev:xs[i]?=some v:=by
    have:=congrArg List.head? q
    rw [List.head?_drop] at this
    exact this
   have er:rest=xs.drop (i+1):=by
    have:=congrArg List.tail q
    rw [List.tail_drop] at this
    exact this.symm
   subst er
   obtain ⟨kc,k⟩:=k
   obtain ⟨go,yl⟩:=W.item i v m' H' st' x' rh' kc ev
   refine thn (T.item (cxC X (nt++cn) s2 H2 fp scope C) rfl rfl rfl hcalm i [] s' σ' H' (fun _ _=>False) I' (stat fpn) tni go) fun r s4 ⟨u,hr,h4⟩=>?_
   subst hr
   refine thn h4 fun _ s5 ⟨x,H5,I5,r5,y5,tn5,fr5⟩=>?_
   obtain ⟨x5,rh5,rv5⟩:=yl x H5 y5
   have I5':=I5.pinned (stat fr5) (T.obj _ _ tn5)
   have again:∀ {σ7:L2.St} {H7:Hp} {s7:Shared} {m7:List Addr} {st7:AH} {acc7:List PV} {ys7:List V},L2.Inv (cxC X (nt++cn) s2 H2 fp scope C) ([]++nQ fp s5.heap) σ7 H7 s7→Ext X.K m H2 m7 H7→RH X.K m7 H7 st7→RF X.K m7 H7 ρ0 σ7→D ∉ m7→H7 D=some (.lst ys7) →
     Rs X.K m7 H7 acc7 ys7→ys7.length≤i+1→eE chk (e6 Γ elt tg ifs ρ0) (xs.drop (i+1)) acc7 st7 (eh X.K m H2 Fin) →
     ∃n',n'<n∧∃(i:Nat),∃σ' H' m' st' acc ys,n'+i=xs.length∧L2.Inv (cxC X (nt++cn) s2 H2 fp scope C) [] σ' H' s7∧tn i s7.heap∧(∀b∈fp,H' b=none)∧Ext X.K m H2 m' H'∧RH X.K m' H' st'∧RF X.K m' H' ρ0 σ'∧D ∉ m'∧H' D=some (.lst ys)∧Rs X.K m' H' acc ys∧ys.length≤i ∧
      eE chk (e6 Γ elt tg ifs ρ0) (xs.drop i) acc st' (eh X.K m H2 Fin):=fun {σ7 H7 s7 m7 st7 acc7 ys7} I7 g1 g2 g3 g4 g5 g6 g7 g8=>by
    refine ⟨n-1,by omega,i+1,σ7,H7,m7,st7,acc7,ys7,by omega,I7.unpinned,T.keep _ _ _ tn5 fun b hb o e=>(I7.pin (b,o) (List.mem_append_right _ (List.mem_append_right _ (hJ hb e)))).1,fun b hb=>?_,g1,g2,g3,g4,g5,g6,g7,g8⟩
    obtain ⟨o,e,d⟩:=T.obj _ _ tn5 b hb
    exact (I7.pin (b,o) (List.mem_append_right _ (List.mem_append_right _ (hJ hb e)))).2.1
   have k2:=pH (n:=nt.length) G tg hlow k
   refine thn (hG s2 H2 fp C _ s5 σ' H5 x u (fun σ6 H6=>∃m6 ρ1 st6,Ext X.K m' H5 m6 H6∧RH X.K m6 H6 st6∧RF X.K m6 H6 ρ1 σ6∧(∀j,nt.length≤j→ρ1[j]?=ρ0[j]?) ∧
    iq Γ ifs ρ1 st6 fun c st4=>if c=true then wpE Γ elt ρ1 st4 fun vv st5=>eE chk (e6 Γ elt tg ifs ρ0) (xs.drop (i+1)) (acc++[vv]) st5 (eh X.K m H2 Fin) else eE chk (e6 Γ elt tg ifs ρ0) (xs.drop (i+1)) acc st4 (eh X.K m H2 Fin)) I5' r5
    ⟨m',ρ0,st',v,rf'.mono x5,rh5,rv5,aP G tg (fun ρ1 st6 z m6 H6 σ6 x6 rh6 rf6=>⟨m6,ρ1,st6,x6,rh6,rf6,z.2,bU G ifs (fun c st4 zz=>by
     cases c with
     | true=>rw [if_pos rfl] at zz ⊢;exact zz
     | false=>rw [if_neg Bool.false_ne_true] at zz ⊢;simpa using zz) z.1⟩) k2⟩) fun _ s6 ⟨σ6,H6,I6,m6,ρ1,st6,x6,rh6,rf6,pr,w6⟩=>?_
   have hlen:ρ0.length=ρ1.length:=by rw [rf6.len,I6.len,rf'.len,I'.len]
   refine thn (hT s2 H2 fp C _ s6 σ6 H6 (fun b H7=>∃m7 st7,Ext X.K m6 H6 m7 H7∧RH X.K m7 H7 st7∧if b=true then wpE Γ elt ρ1 st7 fun vv st5=>eE chk (e6 Γ elt tg ifs ρ0) (xs.drop (i+1)) (acc++[vv]) st5 (eh X.K m H2 Fin) else eE chk (e6 Γ elt tg ifs ρ0) (xs.drop (i+1)) acc st7 (eh X.K m H2 Fin)) I6
    ⟨m6,ρ1,st6,rf6,rh6,bU G ifs (fun b st7 z m7 H7 x7 rh7=>⟨m7,st7,x7,rh7,z⟩) w6⟩) fun b s7 ⟨H7,I7,m7,st7,x7,rh7,w7⟩=>?_
   have xx7:Ext X.K m' H' m7 H7:=(x5.trans x6).trans x7
   cases b with
   | false =>
    rw [if_neg Bool.false_ne_true] at w7 ⊢
    refine again I7 (x'.trans xx7) rh7 ((rf6.mono x7).less hlen hρn pr) (fun z=>?_) (xx7.fr D _ Dm hDl fun _ z=>nomatch z) (rys.mono xx7) (by omega) w7
    rcases xx7.new D z with z|z
    ·exact Dm z
    ·rw [hDl] at z;cases z
   | true =>
    rw [if_pos rfl] at w7 ⊢
    refine thn (hE s2 H2 fp C _ s7 σ6 H7 (fun y H8=>∃m8 st8 vv,Ext X.K m7 H7 m8 H8∧RH X.K m8 H8 st8∧R X.K m8 H8 vv y∧eE chk (e6 Γ elt tg ifs ρ0) (xs.drop (i+1)) (acc++[vv]) st8 (eh X.K m H2 Fin)) I7
     ⟨m7,ρ1,st7,rf6.mono x7,rh7,ab G elt (fun vv st8 z m8 H8 y x8 rh8 r8=>⟨m8,st8,vv,x8,rh8,r8,z⟩) w7⟩) fun uy s8 ⟨y,H8,I8,ry,m8,st8,vv,x8,rh8,r8,w8⟩=>?_
    have xx8:Ext X.K m' H' m8 H8:=xx7.trans x8
    have hD8:H8 D=some (.lst ys):=xx8.fr D _ Dm hDl fun _ z=>nomatch z
    have Dm8:D ∉ m8:=fun z=>by
     rcases xx8.new D z with z|z
     ·exact Dm z
     ·rw [hDl] at z;cases z
    refine thn (ql (X:=cxC X (nt++cn) s2 H2 fp scope C) _ s8 σ6 H8 (.ref D) [y] (.ref D) [uy] (fun _ H9=>H9=upd H8 D (.lst (ys++[y]))) I8 rfl (.cons ry .nil) ⟨D,ys,y,rfl,rfl,hD8,m9 (by omega),rfl⟩) fun _ s9 ⟨_,H9,I9,_,e9⟩=>?_
    subst e9
    exact again I9 ((x'.trans xx8).away hDn hD8) (rh8.away Dm8 hD8) ((((rf6.mono x7).mono x8).less hlen hρn pr).away hD8) Dm8 bB (((rys.mono xx8).app (.one r8)).mono0 (ly hD8) (lz hD8)) (by simp;omega) w8
 exact codeAny_compStart_list loop (T.self X.A 0 _ _ _ (T.keep 0 _ _ st2 fun b _ o e=>old b o e) loop)
end
end FW
set_option Elab.async false
set_option linter.all false
set_option maxRecDepth 100000
set_option maxHeartbeats 1000000
namespace FW
open PySem PySem.Spec PyProof.Rows L2 HX
mutual
theorem R.pre {K:PySem.W.Frag} {m m':List Addr} {H:Hp} (hp:m <+: m'):∀ {p:PV} {v:V},R K m H p v→R K m' H p v
 | .non,v,h=>by rw [R_non] at h ⊢;exact h
 | .bl b,v,h=>by rw [R_bl] at h ⊢;exact h
 | .int b,v,h=>by rw [R_int] at h ⊢;exact h
 | .str b,v,h=>by rw [R_str] at h ⊢;exact h
 | .fn b,v,h=>by rw [wK] at h ⊢;exact h
 | .ref n,v,h=>by rw [iG] at h ⊢;obtain ⟨a,e,q⟩:=h;exact ⟨a,lH hp e,q⟩
 | .tup xs,v,h=>by rw [R_tup] at h ⊢;obtain ⟨a,ys,e,q,r⟩:=h;exact ⟨a,ys,e,q,Rs.pre hp r⟩
 | .rdl xs,v,h=>by rw [eW] at h ⊢;obtain ⟨a,ys,e,q,r⟩:=h;exact ⟨a,ys,e,q,Rs.pre hp r⟩
theorem Rs.pre {K:PySem.W.Frag} {m m':List Addr} {H:Hp} (hp:m <+: m'):∀ {ps:List PV} {vs:List V},Rs K m H ps vs→Rs K m' H ps vs
 | [],vs,h=>by rw [Rs_nil] at h ⊢;exact h
 | p::ps,vs,h=>by
  rw [aK] at h ⊢
  obtain ⟨y,r,e,h1,h2⟩:=h
  exact ⟨y,r,e,R.pre hp h1,Rs.pre hp h2⟩
end
section
variable {Γ:Nat→FSp} {X:Cx} {c:Cfg}
theorem oO {pos pos':Pos} {c cv:Value} (l:List Value) (h:TriplesOk l) (e:codeAmong pos (l++[rawInt pos'.line,rawInt pos'.col,c])=some cv):codeAmong pos l=some cv∨cv=c:=by
 fun_induction TriplesOk l with
 | case1 =>
  simp only [List.nil_append,codeAmong,rawInt] at e
  split at e
  ·cases e;exact .inr rfl
  ·cases e
 | case2 a t b u x rest ih =>
  simp only [List.cons_append,codeAmong] at e ⊢
  split at e
  ·rename_i hc;rw [if_pos hc];exact .inl e
  ·rename_i hc;rw [if_neg hc];exact ih h e
 | case3 l h1 h2=>exact h.elim
theorem Ext.lam {K:PySem.W.Frag} {m:List Addr} {H:Hp} {T:Addr} {ps:Array Value} {pos:Pos} {c' c0:Addr} {oc:Obj} {x:Str} (hx:x∈aT) (ht:PySem.W.tabIn K x=some (c0,T)) (hT:H T=some (.tbl ps)) (hn:H c'=none) (ho:yt oc (x++".<locals>."++"<lambda>")):Ext K m H m (yf H T ps pos c' oc):=by
 have cT:c'≠T:=fun z=>by rw [z,hT] at hn;cases hn
 have same:∀b,b≠T→b≠c'→yf H T ps pos c' oc b=H b:=fun b h1 h2=>(af h2).trans (af h1)
 have nT:∀ {b:Addr} {o:HO},H b=some o→(∀qs,o≠.tbl qs)→b≠T:=fun {b o} e n z=>by rw [z,hT] at e;cases e;exact n _ rfl
 have nc:∀ {b:Addr} {o:HO},H b=some o→b≠c':=fun {b o} e z=>by rw [z,hn] at e;cases e
 have atT:yf H T ps pos c' oc T=some (.tbl (DZ ps pos c')):=(af cT.symm).trans (if_pos rfl)
 have atc:yf H T ps pos c' oc c'=some (.frz oc (.own 0)):=if_pos rfl
 refine ⟨List.prefix_refl _,fun _ z=>.inl z,fun a o _ e n=>?_,fun a ys q=>?_,fun a ys q=>?_,fun a qs _ e=>?_,fun t y hy d T' hd=>?_⟩
 ·rw [same a (nT e n) (nc e)];exact e
 ·rcases q with (q|⟨w,q⟩)|q
  ·exact .inl (.inl (by rw [same a (nT q fun _ z=>nomatch z) (nc q)];exact q))
  ·exact .inl (.inr ⟨w,by rw [same a (nT q fun _ z=>nomatch z) (nc q)];exact q⟩)
  ·exact .inr q
 ·rcases q with ⟨w,q⟩|q
  ·exact .inl ⟨w,by rw [same a (nT q fun _ z=>nomatch z) (nc q)];exact q⟩
  ·exact .inr q
 ·by_cases ha:a=T
  ·subst ha;exact ⟨_,atT⟩
  ·exact ⟨qs,by rw [same a ha (nc e)];exact e⟩
 ·obtain ⟨u,qs,e1,e2,e3⟩:=t y hy d T' hd
  have keepF:∀ {b:Addr} {o:Obj},H b=some (.frz o (.own 0))→yf H T ps pos c' oc b=some (.frz o (.own 0)):=fun {b o} e=>by rw [same b (nT e fun _ z=>nomatch z) (nc e)];exact e
  by_cases hz:T'=T
  ·subst hz
   obtain rfl:x=y:=u x hx c0 ht
   rw [hT] at e1
   cases e1
   refine ⟨u,_,atT,?_,fun p cv q=>?_⟩
   ·rw [Array.toList_append];exact TriplesOk_snoc _ _ _ _ e2
   ·rw [Array.toList_append] at q
    rcases oO _ e2 q with q|q
    ·obtain ⟨c2,o2,g1,g2,g3⟩:=e3 p cv q
     exact ⟨c2,o2,g1,keepF g2,g3⟩
    ·exact ⟨c',oc,q,atc,ho⟩
  ·refine ⟨u,qs,by rw [same T' hz (nc e1)];exact e1,e2,fun p cv q=>?_⟩
   obtain ⟨c2,o2,g1,g2,g3⟩:=e3 p cv q
   exact ⟨c2,o2,g1,keepF g2,g3⟩
theorem vZ {k:Option NameKind} (h:wg k=true):k=some .cell∨k=some .free:=by
 unfold wg at h
 simpa using h
end
end FW
set_option Elab.async false
set_option linter.all false
set_option maxRecDepth 100000
set_option maxHeartbeats 1000000
namespace FW
open PySem PySem.Spec PyProof.Rows L2 HX
section
variable {Γ:Nat→FSp}
theorem ou (G:bq Γ) {elt:E} {tg:Tg} {ifs:Es} {ρ:Fr} {x:PV} {st:AH} {k k':Option PV→AH→Prop} (hk:∀o st,k o st→k' o st) (q:e6 Γ elt tg ifs ρ x st k):e6 Γ elt tg ifs ρ x st k' :=
 aP G tg (fun ρ' st3 w=>bU G ifs (fun c st4 w=>by
  cases c with
  | true=>rw [if_pos rfl] at w ⊢;exact ab G elt (fun v st5 w=>hk _ _ w) w
  | false=>rw [if_neg Bool.false_ne_true] at w ⊢;exact hk _ _ w) w) q
theorem Ext.addD {K:PySem.W.Frag} {m m2:List Addr} {H H2:Hp} {D:Addr} (x:Ext K m H m2 H2) (h0:H D=none):Ext K m H (m2++[D]) H2:=by
 refine ⟨x.pre.trans (List.prefix_append _ _),fun a ha=>?_,x.fr,x.tup,x.rdf,x.tbs,x.tb⟩
 rcases List.mem_append.mp ha with z|z
 ·exact x.new a z
 ·rw [List.mem_singleton] at z
  subst z
  exact .inr h0
theorem RH.addD {K:PySem.W.Frag} {m:List Addr} {H:Hp} {st:AH} {D:Addr} {vs:List PV} {ys:List V} (h:RH K m H st) (Dm:D ∉ m) (hD:H D=some (.lst ys)) (r:Rs K m H vs ys):RH K (m++[D]) H (st++[.lst vs]):=by
 have hp:m <+: m++[D]:=List.prefix_append _ _
 refine ⟨by simp [h.len],List.nodup_append.mpr ⟨h.nd,List.nodup_cons.mpr ⟨by simp,List.nodup_nil⟩,fun a ha b hb z=>?_⟩,fun n c' a h1 h2=>?_,h.tb⟩
 ·rw [List.mem_singleton] at hb
  subst hb
  exact Dm (z ▸ ha)
 ·by_cases hn:n<st.length
  ·rw [List.getElem?_append_left hn] at h1
   rw [List.getElem?_append_left (by rw [h.len];exact hn)] at h2
   have hc:=h.at_ n c' a h1 h2
   cases c' with
   | lst xs=>obtain ⟨us,g1,g2⟩:=hc;exact ⟨us,g1,g2.pre hp⟩
   | dk kvs=>obtain ⟨us,g1,g2,g3⟩:=hc;exact ⟨us,g1,g2,g3.pre hp⟩
  ·rw [List.getElem?_append_right (by omega)] at h1
   rw [List.getElem?_append_right (by rw [h.len];omega)] at h2
   have hl:=h.len
   by_cases hz:n-st.length=0
   ·rw [hz] at h1
    rw [show n-m.length=0 by omega] at h2
    simp at h1 h2
    subst h1 h2
    exact ⟨ys,hD,r.pre hp⟩
   ·rw [List.getElem?_eq_none (by simp;omega)] at h1
    cases h1
theorem oA {X:Cx} {c:Cfg} (C:COk X c Γ) {nt:List Str} {caps:List Nat} {sc:Scope} (h:c.block nt caps sc=true) :
  CScope X sc∧(∀i∈caps,i<X.N.length)∧(∀x∈caps.filterMap (X.N[·]?),sc.names.lookup x=some .free)∧(∀x∈caps.filterMap (X.N[·]?),X.env.kindOf x=some .cell∨X.env.kindOf x=some .free)∧(nt++caps.filterMap (X.N[·]?)).Nodup:=by
 unfold Cfg.block at h
 simp only [Bool.and_eq_true,List.all_eq_true,beq_iff_eq,decide_eq_true_eq,Bool.or_eq_true,Bool.not_eq_true',beq_eq_false_iff_ne] at h
 obtain ⟨⟨⟨⟨⟨⟨h1,h2⟩,h3⟩,h4⟩,h5⟩,h6⟩,h7⟩:=h
 rw [C.N]
 refine ⟨⟨h1,fun y hy=>h2 y hy,fun y hy e=>?_,fun y hy e=>?_⟩,h5,fun x hx=>(h6 x hx).1,fun x hx=>C.cel x (vZ (h6 x hx).2),h7⟩
 ·rcases h3 y hy with z|z
  ·exact absurd e z
  ·exact z
 ·rcases h4 y hy with z|z
  ·exact absurd e z
  ·exact C.cel _ (vZ z)
theorem xY {X:Cx} {c:Cfg} (C:COk X c Γ) {nt:List Str} {caps:List Nat} {sc:Scope} (h:c.block nt caps sc=true) {s2:Shared} {H2:Hp} {fp:List Addr} {A:Addr} :
  COk (cxC X (nt++caps.filterMap (X.N[·]?)) s2 H2 fp sc A) (c.inner nt caps sc) Γ:=by
 obtain ⟨S,k1,k2,k3,k4⟩:=oA C h
 have nocell:∀x,sc.names.lookup x≠some .cell:=fun x e=>S.nocell _ (PySem.mem_of_lookup e) rfl
 refine ⟨C.calm,PassesOwn.never,?_,?_,fun x hx=>?_,fun x hx=>?_,fun x hx=>lookup_relabel_local hx,fun x hx=>jQ hx,?_,fun x hx=>?_,C.room,C.fn,C.blt,C.gl,C.mono,fun h=>Bool.noConfusion (show false=true from h),fun k h=>by cases h⟩
 ·show nt++caps.filterMap (X.N[·]?)=nt++caps.filterMap (c.N[·]?)
  rw [C.N]
 ·show (nt++caps.filterMap (c.N[·]?)).Nodup
  rw [←C.N]
  exact k4
 ·rcases hx with hx|hx|hx
  ·exact .inl (lookup_relabel_local hx)
  ·exact absurd hx (nocell x)
  ·rcases dU (env:=X.env) hx with z|z
   ·exact .inr (.inl z)
   ·exact .inr (.inr z)
 ·rcases hx with hx|hx
  ·exact ⟨.inl (lookup_relabel_local hx),.inr (lookup_relabel_local hx)⟩
  ·exact absurd hx (nocell x)
 ·show Env.blockKind (compEnvC sc (jv X.env sc.names []) A X.env)=_
  unfold Env.blockKind
  show (if sc.kind.isAnnotationScope=true then _ else sc.kind)=_
  rw [S.kind]
  rfl
 ·rcases hx with hx|hx
  ·exact absurd hx (nocell x)
  ·exact dU hx
mutual
theorem aQ:∀(e:E) {X:Cx} {c:Cfg} (C:COk X c Γ) (x:Expr),aA c e x=true→PE X x (TEx X.K (wpE Γ e))
 | .var i,X,c,C,x,h=>by
  replace h:=ae h
  obtain ⟨y,p,rfl,h⟩:=h
  ·exact yr C h
 | .int i,X,c,C,x,h=>by
  replace h:=wp h
  obtain ⟨j,k,p,rfl,h⟩:=h
  ·rw [beq_iff_eq] at h;subst h
   rintro pins s σ H Q I ⟨m,ρ,st,rf,rh,w⟩
   skip
   exact Co pins s σ H Q I (w.here rh (R_int.mpr rfl))
 | .bl i,X,c,C,x,h=>by
  replace h:=xG h
  obtain ⟨j,k,p,rfl,h⟩:=h
  ·rw [beq_iff_eq] at h;subst h
   rintro pins s σ H Q I ⟨m,ρ,st,rf,rh,w⟩
   skip
   exact CU pins s σ H Q I (w.here rh (R_bl.mpr rfl))
 | .non,X,c,C,x,h=>by
  replace h:=wM h
  obtain ⟨k,p,rfl⟩:=h
  ·rintro pins s σ H Q I ⟨m,ρ,st,rf,rh,w⟩
   skip
   exact CF pins s σ H Q I (w.here rh (R_non.mpr rfl))
 | .str i,X,c,C,x,h=>by
  replace h:=wG h
  obtain ⟨j,k,p,rfl,h⟩:=h
  ·rw [beq_iff_eq] at h;subst h
   rintro pins s σ H Q I ⟨m,ρ,st,rf,rh,w⟩
   skip
   exact Cl pins s σ H Q I (w.here rh (R_str.mpr rfl))
 | .gv y v,X,c,C,x,h=>by
  replace h:=ae h
  obtain ⟨z,p,rfl,h⟩:=h
  ·simp only [Bool.and_eq_true,beq_iff_eq] at h
   obtain ⟨⟨h1,h2⟩,h3⟩:=h
   subst h1
   obtain ⟨g1,g2,_⟩:=C.glbx h2
   replace h3:=jk h3
   obtain ⟨w,hw,h3⟩:=h3
   ·have:=PV.same_eq h3
    subst this
    obtain ⟨u,z,e1,e2,e3⟩:=C.gl _ _ hw
    rintro pins s σ H Q I ⟨m,ρ,st,rf,rh,w⟩
    skip
    exact Ao g1 e1 e2 g2 pins s σ H Q I (w.here rh (e3 m H))
 | .tup es,X,c,C,x,h=>by
  replace h:=aV h
  obtain ⟨xs,k,p,rfl,h⟩:=h
  ·rintro pins s σ H Q I ⟨m,ρ,st,rf,rh,w⟩
   skip
   refine B6 (mx es C _ h) pins s σ H Q I ⟨m,ρ,st,rf,rh,aw C.mono es (fun vs st1 k m1 H1 xs1 e1 r1 r2=>⟨by rw [←r2.len];exact fg k.1,fun p hp=>?_⟩) w⟩
   exact (k.2.ext e1).newT r1 r2 hp
 | .lst es,X,c,C,x,h=>by
  replace h:=uP h
  obtain ⟨xs,p,rfl,h⟩:=h
  ·rintro pins s σ H Q I ⟨m,ρ,st,rf,rh,w⟩
   skip
   refine Cj (mx es C _ h) pins s σ H Q I ⟨m,ρ,st,rf,rh,aw C.mono es (fun vs st1 k m1 H1 xs1 e1 r1 r2=>⟨by rw [←r2.len];exact fg k.1,fun p hp=>?_⟩) w⟩
   exact (k.2.ext e1).newL r1 r2 hp
 | .bad,X,c,C,x,h=>by rintro pins s σ H Q I ⟨m,ρ,st,rf,rh,w⟩;exact False.elim w
 | .dct0,X,c,C,x,h=>by rintro pins s σ H Q I ⟨m,ρ,st,rf,rh,w⟩;exact False.elim w
 | .dct1 _ _,X,c,C,x,h=>by rintro pins s σ H Q I ⟨m,ρ,st,rf,rh,w⟩;exact False.elim w
 | .bin op a b,X,c,C,x,h=>by
  replace h:=xp h
  obtain ⟨l,o,r,p,rfl,h⟩:=h
  ·simp only [Bool.and_eq_true,beq_iff_eq] at h
   obtain ⟨⟨h1,h2⟩,h3⟩:=h
   subst h1
   rintro pins s σ H Q I ⟨m,ρ,st,rf,rh,w⟩
   skip
   exact Dr (B3 _) (aQ a C _ h2) (aQ b C _ h3) pins s σ H Q I ⟨m,ρ,st,rf,rh,ab C.mono a (fun v st1 k m1 H1 x1 e1 r1 r2=>⟨m1,ρ,st1,rf.mono e1,r1,
    ab C.mono b (fun u st2 k2 m2 H2 y2 e2 r3 r4=>⟨m2,st2,v,u,r3,r2.mono e2,r4,qa (fun _ _ q=>q.ext (e1.trans e2)) k2⟩) k⟩) w⟩
 | .neg a,X,c,C,x,h=>by
  replace h:=wB h
  obtain ⟨y,p,rfl,h⟩:=h
  ·rintro pins s σ H Q I ⟨m,ρ,st,rf,rh,w⟩
   skip
   refine Dq B1 (aQ a C _ h) pins s σ H Q I ⟨m,ρ,st,rf,rh,ab C.mono a (fun v st1 k m1 H1 x1 e1 r1 r2=>?_) w⟩
   obtain ⟨i,rfl,k⟩:=k
   rw [R_int] at r2
   subst r2
   exact ⟨i,rfl,(k.ext e1).here r1 (R_int.mpr rfl)⟩
 | .not a,X,c,C,x,h=>by
  replace h:=pP h
  obtain ⟨y,p,rfl,h⟩:=h
  ·rintro pins s σ H Q I ⟨m,ρ,st,rf,rh,w⟩
   skip
   refine Cb (aQ a C _ h) pins s σ H Q I ⟨m,ρ,st,rf,rh,ab C.mono a (fun v st1 k m1 H1 x1 e1 r1 r2=>?_) w⟩
   obtain ⟨i,rfl,k⟩:=k
   rw [R_bl] at r2
   subst r2
   exact ⟨i,rfl,(k.ext e1).here r1 (R_bl.mpr rfl)⟩
 | .cmp op a b,X,c,C,x,h=>by
  replace h:=qe h
  obtain ⟨l,o,r,p,rfl,h⟩:=h
  ·simp only [Bool.and_eq_true,beq_iff_eq,Bool.not_eq_true',beq_eq_false_iff_ne] at h
   obtain ⟨⟨⟨h1,n1⟩,h2⟩,h3⟩:=h
   subst h1
   rintro pins s σ H Q I ⟨m,ρ,st,rf,rh,w⟩
   skip
   exact Ap (yQ C.room.units _) (aQ a C _ h2) (aQ b C _ h3) n1 pins s σ H Q I ⟨m,ρ,st,rf,rh,ab C.mono a (fun v st1 k m1 H1 x1 e1 r1 r2=>⟨m1,ρ,st1,rf.mono e1,r1,
    ab C.mono b (fun u st2 k2 m2 H2 y2 e2 r3 r4=>⟨m2,st2,v,u,r3,r2.mono e2,r4,i4 (fun _ _ q=>q.ext (e1.trans e2)) k2⟩) k⟩) w⟩
 | .bop true es,X,c,C,x,h=>by
  replace h:=i5 h
  obtain ⟨o,xs,p,rfl,h⟩:=h
  ·simp only [Bool.and_eq_true,beq_iff_eq,Bool.not_eq_true'] at h
   obtain ⟨⟨h1,h2⟩,h3⟩:=h
   subst h1
   rintro pins s σ H Q I ⟨m,ρ,st,rf,rh,w⟩
   skip
   exact Be es C _ _ h2 h3 pins s σ H Q I ⟨m,ρ,st,rf,rh,w⟩
 | .bop false es,X,c,C,x,h=>by
  replace h:=i5 h
  obtain ⟨o,xs,p,rfl,h⟩:=h
  ·simp only [Bool.and_eq_true,beq_iff_eq,Bool.not_eq_true'] at h
   obtain ⟨⟨h1,h2⟩,h3⟩:=h
   subst h1
   rintro pins s σ H Q I ⟨m,ρ,st,rf,rh,w⟩
   skip
   exact Bb es C _ _ h2 h3 pins s σ H Q I ⟨m,ρ,st,rf,rh,w⟩
 | .ite t a b,X,c,C,x,h=>by
  replace h:=xf h
  obtain ⟨y,l,r,p,rfl,h⟩:=h
  ·simp only [Bool.and_eq_true] at h
   obtain ⟨⟨h1,h2⟩,h3⟩:=h
   rintro pins s σ H Q I ⟨m,ρ,st,rf,rh,w⟩
   skip
   refine yX (oR t C _ h1) (aQ a C _ h2) (aQ b C _ h3) pins s σ H Q I ⟨m,ρ,st,rf,rh,aB C.mono t (fun k st1 z m1 H1 e1 r1=>?_) w⟩
   cases k with
   | true=>rw [if_pos rfl] at z ⊢;exact ⟨m1,ρ,st1,rf.mono e1,r1,ab C.mono a (fun _ _ q=>q.ext e1) z⟩
   | false=>rw [if_neg Bool.false_ne_true] at z ⊢;exact ⟨m1,ρ,st1,rf.mono e1,r1,ab C.mono b (fun _ _ q=>q.ext e1) z⟩
 | .ix a b,X,c,C,x,h=>by
  replace h:=fu h
  obtain ⟨l,r,p,rfl,h⟩:=h
  ·simp only [Bool.and_eq_true] at h
   obtain ⟨⟨h1,h2⟩,h3⟩:=h
   rintro pins s σ H Q I ⟨m,ρ,st,rf,rh,w⟩
   skip
   exact yj (Bj C.room.units) (aQ a C _ h2) (aQ b C _ h3) h1 pins s σ H Q I ⟨m,ρ,st,rf,rh,ab C.mono a (fun v st1 k m1 H1 x1 e1 r1 r2=>⟨m1,ρ,st1,rf.mono e1,r1,
    ab C.mono b (fun u st2 k2 m2 H2 y2 e2 r3 r4=>⟨m2,st2,v,u,r3,r2.mono e2,r4,jZ (fun _ _ q=>q.ext (e1.trans e2)) k2⟩) k⟩) w⟩
 | .sl a lo hi,X,c,C,x,h=>by
  replace h:=fu h
  obtain ⟨l,r,p,rfl,h⟩:=h
  replace h:=uc h
  obtain ⟨u,v,p2,rfl,h⟩:=h
  ·simp only [Bool.and_eq_true] at h
   obtain ⟨⟨h1,h2⟩,h3⟩:=h
   rintro pins s σ H Q I ⟨m,ρ,st,rf,rh,w⟩
   skip
   exact yb C1 (aQ a C _ h1) (DD lo C _ h2) (DD hi C _ h3) pins s σ H Q I ⟨m,ρ,st,rf,rh,ab C.mono a (fun v st1 k m1 H1 x1 e1 r1 r2=>⟨m1,ρ,st1,rf.mono e1,r1,
    ko C.mono lo (fun l st2 k2 m2 H2 e2 r3=>⟨m2,ρ,st2,(rf.mono e1).mono e2,r3,ko C.mono hi (fun u st3 k3 m3 H3 e3 r4=>⟨m3,st3,v,r4,(r2.mono e2).mono e3,uB (fun _ _ q=>q.ext ((e1.trans e2).trans e3)) k3⟩) k2⟩) k⟩) w⟩
 | .call f es,X,c,C,x,h=>by
  replace h:=aD h
  obtain ⟨g,xs,p,rfl,h⟩:=h
  replace h:=ae h
  obtain ⟨y,p2,rfl,h⟩:=h
  ·simp only [Bool.and_eq_true] at h
   obtain ⟨⟨h1,h2⟩,h3⟩:=h
   rintro pins s σ H Q I ⟨m,ρ,st,rf,rh,w⟩
   skip
   exact tV C h1 h2 h3 (mx es C _ h3) pins s σ H Q I ⟨m,ρ,st,rf,rh,w⟩
 | .blt b es,X,c,C,x,h=>by
  replace h:=aD h
  obtain ⟨g,xs,p,rfl,h⟩:=h
  replace h:=ae h
  obtain ⟨y,p2,rfl,h⟩:=h
  ·simp only [Bool.and_eq_true,beq_iff_eq,Bool.not_eq_true'] at h
   obtain ⟨⟨⟨⟨h1,h2⟩,h3⟩,h4⟩,h5⟩:=h
   rintro pins s σ H Q I ⟨m,ρ,st,rf,rh,w⟩
   skip
   exact ub C h1 h2 h3 h4 (mx es C _ h5) pins s σ H Q I ⟨m,ρ,st,rf,rh,w⟩
 | .inst a t,X,c,C,x,h=>by
  replace h:=aD h
  obtain ⟨g,xs,p,rfl,h⟩:=h
  replace h:=ae h
  obtain ⟨y,p2,rfl,h⟩:=h
  replace h:=fI h
  obtain ⟨l,r,rfl,h⟩:=h
  replace h:=ae h
  obtain ⟨z,p3,rfl,h⟩:=h
  ·rw [Bool.and_eq_true] at h
   exact vI C h.1 (aQ a C _ h.2)
 | .met mm o es,X,c,C,x,h=>by
  replace h:=aD h
  obtain ⟨g,xs,p,rfl,h⟩:=h
  replace h:=u4 h
  obtain ⟨y,n,p2,rfl,h⟩:=h
  ·simp only [Bool.and_eq_true,beq_iff_eq,decide_eq_true_eq] at h
   obtain ⟨⟨⟨⟨⟨⟨h1,h2⟩,h3⟩,h4⟩,h0⟩,h5⟩,h6⟩:=h
   exact yA C h1 (by rw [h2];simp) h3 h4 h0 (aQ o C _ h5) (mx es C _ h6) h6
 | .comp elt tg it ifs nt caps,X,c,C,x,h=>by
  replace h:=kX h
  obtain ⟨ex,gs,sc,pos,rfl,h⟩:=h
  replace h:=d6 h
  obtain ⟨g,rfl,h⟩:=h
  obtain ⟨tx,ix,fx,ia⟩:=g
  dsimp only at h
  ·simp only [Bool.and_eq_true,beq_iff_eq] at h
   obtain ⟨⟨⟨⟨⟨⟨⟨⟨h1,h0⟩,h2⟩,h3⟩,h4⟩,h5⟩,h6⟩,h7⟩,h8⟩:=h
   subst h1
   obtain ⟨S,k1,k2,k3,k4⟩:=oA C h4
   have hC:∀s2 H2 fp A,COk (cxC X (nt++caps.filterMap (X.N[·]?)) s2 H2 fp sc A) (c.inner nt caps sc) Γ:=fun s2 H2 fp A=>xY C h4
   rintro pins s σ H Q I ⟨m,ρ,st,rf,rh,w⟩
   skip
   rw [eval_ListComp]
   refine pO (elt:=elt) (tg:=tg) (ifs:=ifs) (nt:=nt) (caps:=caps) (use:=none) (Fin:=fun D H'=>Q (.ref D) H') (wi:=TIx X.K (jr Γ it)) C.mono C.calm S rfl k1 k2 k3 h2 h3 (yY it C ix h0 h5) (fun s2 H2 fp A=>qg tg (hC s2 H2 fp A) _ h6) (fun s2 H2 fp A=>vh ifs (hC s2 H2 fp A) _ h7) (fun s2 H2 fp A=>aQ elt (hC s2 H2 fp A) _ h8) I ?_ ?_
   ·refine ⟨m,ρ,st,rf,rh,fC C.mono it (fun xs chk st1 z m1 H1 J e1 r1 W=>⟨m1,ρ,st1,xs,chk,rf.mono e1,r1,W,z.1,?_⟩) w⟩
    refine gy (body:=e6 Γ elt tg ifs (nt.map (fun _=>none)++caps.map fun i=>(ρ[i]?).join)) (fun _ _ _ _ hk q=>ou C.mono hk q) (fun vs st2 k m2 H2 D ys e2 r2 Dm hD0 hD ry=>?_) z.2
    have hD1:H D=none:=by
     cases q:H D with
     | none=>rfl
     | some o =>
      by_cases hm:D∈m
      ·exact absurd ((e1.trans e2).pre.subset hm) Dm
      ·exact absurd hD0 (e1.ne hm q)
    exact k _ _ _ ((e1.trans e2).addD hD1) (r2.addD Dm hD ry) (R.last r2.len)
   ·intro C' D H' s' m' I' ns fp F
    refine ⟨m',ns,fun h' hs'=>?_⟩
    exact ⟨.ref D,H',I'.turned (t':=s'.toks) (fun b o hb e=>hs'.extBut b o hb e) fp.1 fp.2.1 fp.2.2.2.1 fp.2.2.2.2.1 fp.2.2.2.2.2,rfl,F⟩
 | .tmp a,X,c,C,x,h=>by
  have h:aA c a x=true:=h
  rintro pins s σ H Q I ⟨m,ρ,st,rf,rh,w⟩
  skip
  refine aQ a C x h pins s σ H Q I ⟨m,ρ,st,rf,rh,ab C.mono a (fun v st1 k m1 H1 x1 e1 r1 r2=>?_) w⟩
  obtain ⟨st2,q,e2,r3,r4⟩:=rD rh e1 r1 r2 k
  exact q m H1 x1 e2 r3 r4
 | .sset a,X,c,C,x,h=>by
  replace h:=aD h
  obtain ⟨g,xs,p,rfl,h⟩:=h
  replace h:=ae h
  obtain ⟨y,p2,rfl,h⟩:=h
  replace h:=d6 h
  obtain ⟨l,rfl,h⟩:=h
  replace h:=aD h
  obtain ⟨g2,ys,p3,rfl,h⟩:=h
  replace h:=ae h
  obtain ⟨z,p4,rfl,h⟩:=h
  replace h:=d6 h
  obtain ⟨u,rfl,h⟩:=h
  simp only [Bool.and_eq_true,beq_iff_eq] at h
  obtain ⟨⟨⟨⟨⟨⟨h1,h2⟩,h3⟩,h4⟩,h5⟩,h6⟩,h7⟩:=h
  exact Al C h1 h2 h3 h4 h5 h6 (aQ a C _ h7)
 | .jrev _,X,c,C,x,h=>by rintro pins s σ H Q I ⟨m,ρ,st,rf,rh,w⟩;exact False.elim w
 | .pcall _ _,X,c,C,x,h=>by rintro pins s σ H Q I ⟨m,ρ,st,rf,rh,w⟩;exact False.elim w
 | .hm _ _ _,X,c,C,x,h=>by rintro pins s σ H Q I ⟨m,ρ,st,rf,rh,w⟩;exact False.elim w
 | .part _ _,X,c,C,x,h=>by rintro pins s σ H Q I ⟨m,ρ,st,rf,rh,w⟩;exact False.elim w
theorem mx:∀(es:Es) {X:Cx} {c:Cfg} (C:COk X c Γ) (xs:List Expr),eV c es xs=true→PA X xs (TAx X.K (cJ Γ es))
 | .nil,X,c,C,xs,h=>by
  have h:xs.isEmpty=true:=h
  cases xs with
  | nil =>
   rintro pos pins s σ H Q I ⟨m,ρ,st,rf,rh,w⟩
   skip
   exact gq pos pins s σ H Q I (w m H [] (Ext.refl _ _ _) rh (Rs_nil.mpr rfl))
  | cons x xs=>cases h
 | .cons e es,X,c,C,xs,h=>by
  replace h:=ay h
  obtain ⟨y,ys,rfl,h⟩:=h
  ·simp only [Bool.and_eq_true] at h
   obtain ⟨⟨h1,h2⟩,h3⟩:=h
   rintro pos pins s σ H Q I ⟨m,ρ,st,rf,rh,w⟩
   skip
   exact pac (aQ e C _ h2) (mx es C _ h3) h1 pos pins s σ H Q I ⟨m,ρ,st,rf,rh,ab C.mono e (fun v st1 k m1 H1 x1 e1 r1 r2=>⟨m1,ρ,st1,rf.mono e1,r1,
    aw C.mono es (fun us st2 k2 m2 H2 ys e2 r3 r4=>k2 m2 H2 _ (e1.trans e2) r3 (Rs_cons'.mpr ⟨r2.mono e2,r4⟩)) k⟩) w⟩
theorem DD:∀(o:O) {X:Cx} {c:Cfg} (C:COk X c Γ) (x:Option Expr),BT c o x=true→PO X x (fun σ H Q=>∃m ρ st,RF X.K m H ρ σ∧RH X.K m H st∧wpO Γ o ρ st fun v st'=>∀m' H',Ext X.K m H m' H'→RH X.K m' H' st'→Q v H')
 | .no,X,c,C,x,h=>by
  have h:x.isNone=true:=h
  cases x with
  | none =>
   rintro pins s σ H Q I ⟨m,ρ,st,rf,rh,w⟩
   skip
   exact A7 pins s σ H Q I (w m H (Ext.refl _ _ _) rh)
  | some y=>cases h
 | .yes e,X,c,C,x,h=>by
  replace h:=jk h
  obtain ⟨y,rfl,h⟩:=h
  ·rintro pins s σ H Q I ⟨m,ρ,st,rf,rh,w⟩
   skip
   refine AR (aQ e C _ h) pins s σ H Q I ⟨m,ρ,st,rf,rh,ab C.mono e (fun v st1 k m1 H1 x1 e1 r1 r2=>?_) w⟩
   obtain ⟨i,rfl,k⟩:=k
   rw [R_int] at r2
   exact ⟨i,r2,k m1 H1 e1 r1⟩
theorem oR:∀(e:E) {X:Cx} {c:Cfg} (C:COk X c Γ) (x:Expr),xk c e x=true→PT X x (TTx X.K (wpT Γ e))
 | .not a,X,c,C,x,h=>by
  replace h:=pP h
  obtain ⟨y,p,rfl,h⟩:=h
  ·rintro pins s σ H Q I ⟨m,ρ,st,rf,rh,w⟩
   skip
   exact BN (oR a C _ h) pins s σ H Q I ⟨m,ρ,st,rf,rh,aB C.mono a (fun k st1 z m1 H1 e1 r1=>z m1 H1 e1 r1) w⟩
 | .bop true es,X,c,C,x,h=>by
  replace h:=i5 h
  obtain ⟨o,xs,p,rfl,h⟩:=h
  ·simp only [Bool.and_eq_true,beq_iff_eq,Bool.not_eq_true'] at h
   obtain ⟨⟨h1,h2⟩,h3⟩:=h
   subst h1
   rintro pins s σ H Q I ⟨m,ρ,st,rf,rh,w⟩
   skip
   exact (Bl es C _ _ h3 h2).pt pins s σ H Q I ⟨m,ρ,st,rf,rh,w⟩
 | .bop false es,X,c,C,x,h=>by
  replace h:=i5 h
  obtain ⟨o,xs,p,rfl,h⟩:=h
  ·simp only [Bool.and_eq_true,beq_iff_eq,Bool.not_eq_true'] at h
   obtain ⟨⟨h1,h2⟩,h3⟩:=h
   subst h1
   rintro pins s σ H Q I ⟨m,ρ,st,rf,rh,w⟩
   skip
   exact (Bs es C _ _ h3 h2).pt pins s σ H Q I ⟨m,ρ,st,rf,rh,w⟩
 | .cmp op a b,X,c,C,x,h=>by
  replace h:=qe h
  obtain ⟨l,o,r,p,rfl,h⟩:=h
  ·simp only [Bool.and_eq_true,beq_iff_eq,Bool.not_eq_true',beq_eq_false_iff_ne] at h
   obtain ⟨⟨⟨h1,n1⟩,h2⟩,h3⟩:=h
   subst h1
   rintro pins s σ H Q I ⟨m,ρ,st,rf,rh,w⟩
   skip
   refine Ad (yQ C.room.units _) (aQ a C _ h2) (aQ b C _ h3) n1 pins s σ H Q I ⟨m,ρ,st,rf,rh,ab C.mono a (fun v st1 k m1 H1 x1 e1 r1 r2=>⟨m1,ρ,st1,rf.mono e1,r1,
    ab C.mono b (fun u st2 k2 m2 H2 y2 e2 r3 r4=>⟨m2,st2,v,u,r3,r2.mono e2,r4,i4 (fun _ _ q=>?_) k2⟩) k⟩) w⟩
   obtain ⟨k,rfl,q⟩:=q
   intro m' H' y e3 r5 r6
   rw [R_bl] at r6
   exact ⟨k,r6,q m' H' ((e1.trans e2).trans e3) r5⟩
 | .var i,X,c,C,x,h=>by
  replace h:=ae h
  obtain ⟨y,p,rfl,h⟩:=h
  ·rintro pins s σ H Q I ⟨m,ρ,st,rf,rh,w⟩
   skip
   refine fw (yr C h) (fun _=>rfl) pins s σ H Q I ⟨m,ρ,st,rf,rh,?_⟩
   skip
   obtain ⟨v,e,w⟩:=w
   exact ⟨v,e,fun m' H' y e1 r1 r2=>tJ ⟨m',st,v,r1,r2,bF (fun _ _ q=>q.ext e1) w⟩⟩
 | .call f es,X,c,C,x,h=>by
  replace h:=aD h
  obtain ⟨g,xs,p,rfl,h⟩:=h
  replace h:=ae h
  obtain ⟨y,p2,rfl,h⟩:=h
  ·simp only [Bool.and_eq_true] at h
   obtain ⟨⟨h1,h2⟩,h3⟩:=h
   rintro pins s σ H Q I ⟨m,ρ,st,rf,rh,w⟩
   skip
   exact fw (tV C h1 h2 h3 (mx es C _ h3)) (fun _=>rfl) pins s σ H Q I ⟨m,ρ,st,rf,rh,aw C.mono es (fun vs st1 k=>C.mono _ _ _ _ _ (fun v st2 k2 m' H' y e1 r1 r2=>tJ ⟨m',st2,v,r1,r2,bF (fun _ _ q=>q.ext e1) k2⟩) k) w⟩
 | .blt b es,X,c,C,x,h=>by
  replace h:=aD h
  obtain ⟨g,xs,p,rfl,h⟩:=h
  replace h:=ae h
  obtain ⟨y,p2,rfl,h⟩:=h
  ·simp only [Bool.and_eq_true,beq_iff_eq,Bool.not_eq_true'] at h
   obtain ⟨⟨⟨⟨h1,h2⟩,h3⟩,h4⟩,h5⟩:=h
   rintro pins s σ H Q I ⟨m,ρ,st,rf,rh,w⟩
   skip
   exact fw (ub C h1 h2 h3 h4 (mx es C _ h5)) (fun _=>rfl) pins s σ H Q I ⟨m,ρ,st,rf,rh,aw C.mono es (fun vs st1 k=>iY (fun v st2 k2 m' H' y e1 r1 r2=>tJ ⟨m',st2,v,r1,r2,bF (fun _ _ q=>q.ext e1) k2⟩) k) w⟩
 | .inst a t,X,c,C,x,h=>by
  replace h:=aD h
  obtain ⟨g,xs,p,rfl,h⟩:=h
  replace h:=ae h
  obtain ⟨y,p2,rfl,h⟩:=h
  replace h:=fI h
  obtain ⟨l,r,rfl,h⟩:=h
  replace h:=ae h
  obtain ⟨z,p3,rfl,h⟩:=h
  ·rw [Bool.and_eq_true] at h
   rintro pins s σ H Q I ⟨m,ρ,st,rf,rh,w⟩
   skip
   refine fw (vI C h.1 (aQ a C _ h.2)) (fun _=>rfl) pins s σ H Q I ⟨m,ρ,st,rf,rh,?_⟩
   skip
   refine ab C.mono a (fun v st1 k=>?_) w
   obtain ⟨n,e,k⟩:=k
   refine ⟨n,e,fun m' H' y e1 r1 r2=>?_⟩
   rw [R_bl] at r2
   subst r2
   exact ⟨_,rfl,k m' H' e1 r1⟩
 | .tmp a,X,c,C,x,h=>by
  have h:(u9 x && aA c a x)=true:=h
  rw [Bool.and_eq_true] at h
  rintro pins s σ H Q I ⟨m,ρ,st,rf,rh,w⟩
  skip
  have q:=aQ a C x h.2
  refine fw q (vH h.1 X.env) pins s σ H Q I ⟨m,ρ,st,rf,rh,ab C.mono a (fun v st1 k m1 H1 x1 e1 r1 r2=>?_) w⟩
  obtain ⟨st2,q,e2,r3,r4⟩:=rD rh e1 r1 r2 k
  exact tJ ⟨m,st2,v,r3,r4,bF (fun _ _ q=>q.ext e2) q⟩
 | .ix a b,X,c,C,x,h=>by
  replace h:=fu h
  obtain ⟨l,r,p,rfl,h⟩:=h
  ·simp only [Bool.and_eq_true] at h
   obtain ⟨⟨h1,h2⟩,h3⟩:=h
   rintro pins s σ H Q I ⟨m,ρ,st,rf,rh,w⟩
   skip
   refine fw (yj (Bj C.room.units) (aQ a C _ h2) (aQ b C _ h3) h1) (fun _=>rfl) pins s σ H Q I ⟨m,ρ,st,rf,rh,ab C.mono a (fun v st1 k m1 H1 x1 e1 r1 r2=>⟨m1,ρ,st1,rf.mono e1,r1,
    ab C.mono b (fun u st2 k2 m2 H2 y2 e2 r3 r4=>⟨m2,st2,v,u,r3,r2.mono e2,r4,jZ (fun z st3 q m3 H3 y3 e3 r5 r6=>?_) k2⟩) k⟩) w⟩
   exact tJ ⟨m3,st3,z,r5,r6,bF (fun _ _ q=>q.ext ((e1.trans e2).trans e3)) q⟩
 | .bl _,X,c,C,x,h=>by rintro pins s σ H Q I ⟨m,ρ,st,rf,rh,w⟩;exact False.elim w
 | .int _,X,c,C,x,h=>by rintro pins s σ H Q I ⟨m,ρ,st,rf,rh,w⟩;exact False.elim w
 | .non,X,c,C,x,h=>by rintro pins s σ H Q I ⟨m,ρ,st,rf,rh,w⟩;exact False.elim w
 | .str _,X,c,C,x,h=>by rintro pins s σ H Q I ⟨m,ρ,st,rf,rh,w⟩;exact False.elim w
 | .gv _ _,X,c,C,x,h=>by rintro pins s σ H Q I ⟨m,ρ,st,rf,rh,w⟩;exact False.elim w
 | .tup _,X,c,C,x,h=>by rintro pins s σ H Q I ⟨m,ρ,st,rf,rh,w⟩;exact False.elim w
 | .lst _,X,c,C,x,h=>by rintro pins s σ H Q I ⟨m,ρ,st,rf,rh,w⟩;exact False.elim w
 | .dct0,X,c,C,x,h=>by rintro pins s σ H Q I ⟨m,ρ,st,rf,rh,w⟩;exact False.elim w
 | .bad,X,c,C,x,h=>by rintro pins s σ H Q I ⟨m,ρ,st,rf,rh,w⟩;exact False.elim w
 | .dct1 _ _,X,c,C,x,h=>by rintro pins s σ H Q I ⟨m,ρ,st,rf,rh,w⟩;exact False.elim w
 | .bin _ _ _,X,c,C,x,h=>by rintro pins s σ H Q I ⟨m,ρ,st,rf,rh,w⟩;exact False.elim w
 | .neg _,X,c,C,x,h=>by rintro pins s σ H Q I ⟨m,ρ,st,rf,rh,w⟩;exact False.elim w
 | .ite _ _ _,X,c,C,x,h=>by rintro pins s σ H Q I ⟨m,ρ,st,rf,rh,w⟩;exact False.elim w
 | .sl _ _ _,X,c,C,x,h=>by rintro pins s σ H Q I ⟨m,ρ,st,rf,rh,w⟩;exact False.elim w
 | .met _ _ _,X,c,C,x,h=>by rintro pins s σ H Q I ⟨m,ρ,st,rf,rh,w⟩;exact False.elim w
 | .comp _ _ _ _ _ _,X,c,C,x,h=>by rintro pins s σ H Q I ⟨m,ρ,st,rf,rh,w⟩;exact False.elim w
 | .pcall _ _,X,c,C,x,h=>by rintro pins s σ H Q I ⟨m,ρ,st,rf,rh,w⟩;exact False.elim w
 | .hm _ _ _,X,c,C,x,h=>by rintro pins s σ H Q I ⟨m,ρ,st,rf,rh,w⟩;exact False.elim w
 | .jrev _,X,c,C,x,h=>by rintro pins s σ H Q I ⟨m,ρ,st,rf,rh,w⟩;exact False.elim w
 | .sset _,X,c,C,x,h=>by rintro pins s σ H Q I ⟨m,ρ,st,rf,rh,w⟩;exact False.elim w
 | .part _ _,X,c,C,x,h=>by rintro pins s σ H Q I ⟨m,ρ,st,rf,rh,w⟩;exact False.elim w
theorem Be:∀(es:Es) {X:Cx} {c:Cfg} (C:COk X c Γ) (xs:List Expr) (pos:Pos),eV c es xs=true→xs.isEmpty=false→PE X (.BoolOp .And xs pos) (TEx X.K (sH Γ es))
 | .nil,X,c,C,xs,pos,h,hn=>by
  have h:xs.isEmpty=true:=h
  rw [h] at hn
  cases hn
 | .cons e .nil,X,c,C,xs,pos,h,hn=>by
  replace h:=ay h
  obtain ⟨y,ys,rfl,h⟩:=h
  ·simp only [Bool.and_eq_true] at h
   obtain ⟨⟨h1,h2⟩,h3⟩:=h
   have h3:ys.isEmpty=true:=h3
   cases ys with
   | nil =>
    rintro pins s σ H Q I ⟨m,ρ,st,rf,rh,w⟩
    skip
    exact yi (aQ e C _ h2) pins s σ H Q I ⟨m,ρ,st,rf,rh,w⟩
   | cons _ _=>cases h3
 | .cons e (.cons e2 es),X,c,C,xs,pos,h,hn=>by
  replace h:=ay h
  obtain ⟨y,ys,rfl,h⟩:=h
  ·simp only [Bool.and_eq_true] at h
   obtain ⟨⟨h1,h2⟩,h3⟩:=h
   cases ys with
   | nil=>exact Bool.noConfusion (show false=true from h3)
   | cons y2 ys =>
    rintro pins s σ H Q I ⟨m,ρ,st,rf,rh,w⟩
    skip
    refine Cp (aQ e C _ h2) (Be (.cons e2 es) C (y2::ys) pos h3 rfl) pins s σ H Q I ⟨m,ρ,st,rf,rh,ab C.mono e (fun v st1 k m1 H1 x1 e1 r1 r2=>?_) w⟩
    obtain ⟨b,rfl,k⟩:=k
    rw [R_bl] at r2
    subst r2
    refine ⟨b,rfl,?_⟩
    cases b with
    | true=>rw [if_pos rfl] at k ⊢;exact ⟨m1,ρ,st1,rf.mono e1,r1,mo C.mono _ (fun _ _ q=>q.ext e1) k⟩
    | false=>rw [if_neg Bool.false_ne_true] at k ⊢;exact (k.ext e1).here r1 (R_bl.mpr rfl)
theorem Bb:∀(es:Es) {X:Cx} {c:Cfg} (C:COk X c Γ) (xs:List Expr) (pos:Pos),eV c es xs=true→xs.isEmpty=false→PE X (.BoolOp .Or xs pos) (TEx X.K (rM Γ es))
 | .nil,X,c,C,xs,pos,h,hn=>by
  have h:xs.isEmpty=true:=h
  rw [h] at hn
  cases hn
 | .cons e .nil,X,c,C,xs,pos,h,hn=>by
  replace h:=ay h
  obtain ⟨y,ys,rfl,h⟩:=h
  ·simp only [Bool.and_eq_true] at h
   obtain ⟨⟨h1,h2⟩,h3⟩:=h
   have h3:ys.isEmpty=true:=h3
   cases ys with
   | nil =>
    rintro pins s σ H Q I ⟨m,ρ,st,rf,rh,w⟩
    skip
    exact yi (aQ e C _ h2) pins s σ H Q I ⟨m,ρ,st,rf,rh,w⟩
   | cons _ _=>cases h3
 | .cons e (.cons e2 es),X,c,C,xs,pos,h,hn=>by
  replace h:=ay h
  obtain ⟨y,ys,rfl,h⟩:=h
  ·simp only [Bool.and_eq_true] at h
   obtain ⟨⟨h1,h2⟩,h3⟩:=h
   cases ys with
   | nil=>exact Bool.noConfusion (show false=true from h3)
   | cons y2 ys =>
    rintro pins s σ H Q I ⟨m,ρ,st,rf,rh,w⟩
    skip
    refine DX (aQ e C _ h2) (Bb (.cons e2 es) C (y2::ys) pos h3 rfl) pins s σ H Q I ⟨m,ρ,st,rf,rh,ab C.mono e (fun v st1 k m1 H1 x1 e1 r1 r2=>?_) w⟩
    obtain ⟨b,rfl,k⟩:=k
    rw [R_bl] at r2
    subst r2
    refine ⟨b,rfl,?_⟩
    cases b with
    | true=>rw [if_pos rfl] at k ⊢;exact (k.ext e1).here r1 (R_bl.mpr rfl)
    | false=>rw [if_neg Bool.false_ne_true] at k ⊢;exact ⟨m1,ρ,st1,rf.mono e1,r1,mn C.mono _ (fun _ _ q=>q.ext e1) k⟩
theorem Bl:∀(es:Es) {X:Cx} {c:Cfg} (C:COk X c Γ) (xs:List Expr) (pos:Pos),qo c es xs=true→xs.isEmpty=false→PW X (.BoolOp .And xs pos) (TTx X.K (iq Γ es))
 | .nil,X,c,C,xs,pos,h,hn=>by
  have h:xs.isEmpty=true:=h
  rw [h] at hn
  cases hn
 | .cons e .nil,X,c,C,xs,pos,h,hn=>by
  replace h:=ay h
  obtain ⟨y,ys,rfl,h⟩:=h
  ·simp only [Bool.and_eq_true] at h
   obtain ⟨h2,h3⟩:=h
   have h3:ys.isEmpty=true:=h3
   cases ys with
   | nil =>
    rintro whole pins s σ H Q I ⟨m,ρ,st,rf,rh,w⟩
    skip
    exact An (oR e C _ h2) whole pins s σ H Q I ⟨m,ρ,st,rf,rh,w⟩
   | cons _ _=>cases h3
 | .cons e (.cons e2 es),X,c,C,xs,pos,h,hn=>by
  replace h:=ay h
  obtain ⟨y,ys,rfl,h⟩:=h
  ·simp only [Bool.and_eq_true] at h
   obtain ⟨h2,h3⟩:=h
   cases ys with
   | nil=>exact Bool.noConfusion (show false=true from h3)
   | cons y2 ys =>
    rintro whole pins s σ H Q I ⟨m,ρ,st,rf,rh,w⟩
    skip
    refine BC (oR e C _ h2) (Bl (.cons e2 es) C (y2::ys) pos h3 rfl) whole pins s σ H Q I ⟨m,ρ,st,rf,rh,aB C.mono e (fun b st1 k m1 H1 e1 r1=>?_) w⟩
    cases b with
    | true=>rw [if_pos rfl] at k ⊢;exact ⟨m1,ρ,st1,rf.mono e1,r1,bU C.mono _ (fun _ _ q=>q.ext e1) k⟩
    | false=>rw [if_neg Bool.false_ne_true] at k ⊢;exact k m1 H1 e1 r1
theorem Bs:∀(es:Es) {X:Cx} {c:Cfg} (C:COk X c Γ) (xs:List Expr) (pos:Pos),qo c es xs=true→xs.isEmpty=false→PW X (.BoolOp .Or xs pos) (TTx X.K (rQ Γ es))
 | .nil,X,c,C,xs,pos,h,hn=>by
  have h:xs.isEmpty=true:=h
  rw [h] at hn
  cases hn
 | .cons e .nil,X,c,C,xs,pos,h,hn=>by
  replace h:=ay h
  obtain ⟨y,ys,rfl,h⟩:=h
  ·simp only [Bool.and_eq_true] at h
   obtain ⟨h2,h3⟩:=h
   have h3:ys.isEmpty=true:=h3
   cases ys with
   | nil =>
    rintro whole pins s σ H Q I ⟨m,ρ,st,rf,rh,w⟩
    skip
    exact CI (oR e C _ h2) whole pins s σ H Q I ⟨m,ρ,st,rf,rh,w⟩
   | cons _ _=>cases h3
 | .cons e (.cons e2 es),X,c,C,xs,pos,h,hn=>by
  replace h:=ay h
  obtain ⟨y,ys,rfl,h⟩:=h
  ·simp only [Bool.and_eq_true] at h
   obtain ⟨h2,h3⟩:=h
   cases ys with
   | nil=>exact Bool.noConfusion (show false=true from h3)
   | cons y2 ys =>
    rintro whole pins s σ H Q I ⟨m,ρ,st,rf,rh,w⟩
    skip
    refine DI (oR e C _ h2) (Bs (.cons e2 es) C (y2::ys) pos h3 rfl) whole pins s σ H Q I ⟨m,ρ,st,rf,rh,aB C.mono e (fun b st1 k m1 H1 e1 r1=>?_) w⟩
    cases b with
    | true=>rw [if_pos rfl] at k ⊢;exact k m1 H1 e1 r1
    | false=>rw [if_neg Bool.false_ne_true] at k ⊢;exact ⟨m1,ρ,st1,rf.mono e1,r1,lZ C.mono _ (fun _ _ q=>q.ext e1) k⟩
theorem qg:∀(t:Tg) {X:Cx} {c:Cfg} (C:COk X c Γ) (x:Expr),pI c t x=true→PG X x (TGx X.K (di Γ t))
 | .name i,X,c,C,x,h=>by
  replace h:=ae h
  obtain ⟨y,p,rfl,h⟩:=h
  ·simp only [Bool.and_eq_true,beq_iff_eq] at h
   obtain ⟨h1,h2⟩:=C.locx h.2
   rintro pins s σ H v u Q I r ⟨m,ρ,st,p,rf,rh,hr,w⟩
   skip
   exact AW C.ndX (by rw [C.N];exact h.1) h1 h2 pins s σ H v u Q I r (w.here rh (rf.set i hr))
 | .tup ts,X,c,C,x,h=>by
  replace h:=aV h
  obtain ⟨xs,k,p,rfl,h⟩:=h
  ·rintro pins s σ H v u Q I r ⟨m,ρ,st,p,rf,rh,hr,w⟩
   skip
   obtain ⟨vs,rfl,hl,w⟩:=w
   rw [R_tup] at hr
   obtain ⟨a,ys,rfl,g,r2⟩:=hr
   obtain ⟨l1,l2⟩:=jj (env:=X.env) h
   refine CG C.calm (uE ts C _ h) l1 l2 pins s σ H _ u Q I r ⟨a,ys,rfl,g,?_,m,ρ,st,vs,rf,rh,r2,w⟩
   rw [←r2.len]
   exact hl
 | .ltup ts,X,c,C,x,h=>by
  replace h:=aV h
  obtain ⟨xs,k,p,rfl,h⟩:=h
  ·rintro pins s σ H v u Q I r ⟨m,ρ,st,p,rf,rh,hr,w⟩
   skip
   obtain ⟨vs,hvs,hl,w⟩:=w
   obtain ⟨a,ys,rfl,g,r2⟩:=fz rh hr hvs
   obtain ⟨l1,l2⟩:=jj (env:=X.env) h
   refine AI C.calm (uE ts C _ h) l1 l2 pins s σ H _ u Q I r ⟨a,ys,rfl,g,?_,m,ρ,st,vs,rf,rh,r2,w⟩
   rw [←r2.len]
   exact hl
 | .sub o i,X,c,C,x,h=>by
  replace h:=fu h
  obtain ⟨l,rr,pos,rfl,h⟩:=h
  ·simp only [Bool.and_eq_true] at h
   obtain ⟨⟨h1,h2⟩,h3⟩:=h
   rintro pins s σ H v u Q I r ⟨m,ρ,st,p,rf,rh,hr,w⟩
   skip
   refine B_ (aQ o C _ h2) (aQ i C _ h3) (Ct C.room.units) (by cases rr <;> first|(intro _;rfl)|cases h1) pins s σ H v u Q I r ⟨m,ρ,st,rf,rh,ab C.mono o (fun a st1 k m1 H1 x1 e1 r1 r2=>⟨m1,ρ,st1,rf.mono e1,r1,
    ab C.mono i (fun b st2 k2 m2 H2 y2 e2 r3 r4=>⟨m2,st2,a,b,p,r3,r2.mono e2,r4,(hr.mono e1).mono e2,pE (fun st3 q H3 e3 r5=>?_) k2⟩) k⟩) w⟩
   exact q m2 H3 σ ((e1.trans e2).trans e3) r5 (((rf.mono e1).mono e2).mono e3)
theorem uE:∀(ts:Tgs) {X:Cx} {c:Cfg} (C:COk X c Γ) (xs:List Expr),nk c ts xs=true→PGs X xs (Ei X.K (fv Γ ts))
 | .nil,X,c,C,xs,h=>by
  have h:xs.isEmpty=true:=h
  cases xs with
  | nil =>
   rintro pins s σ H v u Q I r ⟨m,ρ,st,p,rf,rh,hr,w⟩
   skip
   obtain ⟨rfl,w⟩:=w
   rw [Rs_nil] at hr
   exact zU pins s σ H v u Q I r ⟨hr,w.here rh rf⟩
  | cons _ _=>cases h
 | .cons t ts,X,c,C,xs,h=>by
  replace h:=ay h
  obtain ⟨y,ys,rfl,h⟩:=h
  ·simp only [Bool.and_eq_true] at h
   obtain ⟨⟨h1,h2⟩,h3⟩:=h
   rintro pins s σ H v u Q I r ⟨m,ρ,st,p,rf,rh,hr,w⟩
   skip
   obtain ⟨x,q,rfl,w⟩:=w
   rw [aK] at hr
   obtain ⟨y,ys,rfl,g1,g2⟩:=hr
   refine y9 (qg t C _ h2) (uE ts C _ h3) (by rw [ja h1];rfl) pins s σ H _ u Q I r ⟨y,ys,rfl,m,ρ,st,x,rf,rh,g1,aP C.mono t (fun ρ1 st1 k m1 H1 σ1 e1 r1 r2=>?_) w⟩
   exact ⟨m1,ρ1,st1,q,r2,r1,g2.mono e1,eI C.mono ts (fun _ _ q=>q.ext e1) k⟩
theorem yY:∀(it:It) {X:Cx} {c:Cfg} (C:COk X c Γ) {tg:Expr} (x:Expr),yL it tg=true→yB c it x=true→PI X tg x (TIx X.K (jr Γ it))
 | .seq e,X,c,C,tg,x,_,h=>by
  have h:(nq x && aA c e x)=true:=h
  rw [Bool.and_eq_true] at h
  rintro pins s σ H Rr I ⟨m,ρ,st,rf,rh,w⟩
  skip
  refine BM (aQ e C x h.2) pins s σ H Rr I ⟨m,ρ,st,rf,rh,ab C.mono e (fun v st1 k m1 H1 x1 e1 r1 r2=>?_) w⟩
  obtain ⟨xs,es,k⟩:=k
  cases v with
  | tup ys =>
   cases es
   rw [R_tup] at r2
   obtain ⟨a,zs,rfl,g,r3⟩:=r2
   exact ⟨a,rfl,.inr ⟨⟨zs,g⟩,k m1 H1 _ e1 r1 (ye g r3)⟩⟩
  | rdl ys =>
   cases es
   rw [eW] at r2
   obtain ⟨a,zs,rfl,g,r3⟩:=r2
   exact ⟨a,rfl,.inl ⟨⟨zs,g.sq⟩,k m1 H1 _ e1 r1 (yG g r3)⟩⟩
  | ref n =>
   unfold bj bK at es
   simp only at es
   split at es
   ·cases es
    rename_i q
    obtain ⟨a,zs,rfl,ea,g,r3⟩:=r1.lst q r2
    exact ⟨a,rfl,.inl ⟨⟨zs,SqL.of g⟩,k m1 H1 _ e1 r1 (xl r1 q ea)⟩⟩
   ·cases es
  | _=>cases es
 | .range1 a,X,c,C,tg,x,_,h=>by
  replace h:=aD h
  obtain ⟨g,xs,p,rfl,h⟩:=h
  replace h:=ae h
  obtain ⟨y,p2,rfl,h⟩:=h
  replace h:=d6 h
  obtain ⟨l,rfl,h⟩:=h
  ·simp only [Bool.and_eq_true,beq_iff_eq] at h
   obtain ⟨⟨⟨h1,h2⟩,h3⟩,h4⟩:=h
   subst h1
   obtain ⟨g1,g2,g3,g4⟩:=C.bltx h2
   rintro pins s σ H Rr I ⟨m,ρ,st,rf,rh,w⟩
   skip
   have hA:PA X [_] (jf (TEx X.K (wpE Γ a)) uu):=pac (aQ a C _ h4) gq h3
   refine wO g1 g4 hA (bi h3) pins s σ H Rr I ⟨m,ρ,st,rf,rh,ab C.mono a (fun v st1 k m1 H1 x1 e1 r1 r2=>?_) w⟩
   obtain ⟨j,rfl,k1,k2,k⟩:=k
   rw [R_int] at r2
   subst r2
   exact ⟨j,rfl,k1,k2,k m1 H1 _ e1 r1 ox⟩
 | .range2 a b,X,c,C,tg,x,_,h=>by
  replace h:=aD h
  obtain ⟨g,xs,p,rfl,h⟩:=h
  replace h:=ae h
  obtain ⟨y,p2,rfl,h⟩:=h
  replace h:=fI h
  obtain ⟨l,r,rfl,h⟩:=h
  ·simp only [Bool.and_eq_true,beq_iff_eq] at h
   obtain ⟨⟨⟨⟨⟨h1,h2⟩,h3⟩,h3'⟩,h4⟩,h5⟩:=h
   subst h1
   obtain ⟨g1,g2,g3,g4⟩:=C.bltx h2
   rintro pins s σ H Rr I ⟨m,ρ,st,rf,rh,w⟩
   skip
   have hA:PA X [_,_] (jf (TEx X.K (wpE Γ a)) (jf (TEx X.K (wpE Γ b)) uu)):=pac (aQ a C _ h4) (pac (aQ b C _ h5) gq h3') h3
   refine xa g1 g4 hA (by rw [bi h3,bi h3'];rfl) (bi h3') pins s σ H Rr I ⟨m,ρ,st,rf,rh,ab C.mono a (fun v st1 k m1 H1 x1 e1 r1 r2=>⟨m1,ρ,st1,rf.mono e1,r1,
    ab C.mono b (fun u st2 k2 m2 H2 y2 e2 r3 r4=>?_) k⟩) w⟩
   obtain ⟨i,j,rfl,rfl,k1,k⟩:=k2
   rw [R_int] at r2 r4
   subst r2 r4
   exact ⟨i,j,rfl,k1,k m2 H2 _ (e1.trans e2) r3 ox⟩
 | .zip a b,X,c,C,tg,x,ht,h=>by
  replace h:=aD h
  obtain ⟨g,xs,p,rfl,h⟩:=h
  replace h:=ae h
  obtain ⟨y,p2,rfl,h⟩:=h
  replace h:=fI h
  obtain ⟨l,r,rfl,h⟩:=h
  ·simp only [Bool.and_eq_true,beq_iff_eq] at h
   obtain ⟨⟨⟨⟨⟨h1,h2⟩,h3⟩,h3'⟩,h4⟩,h5⟩:=h
   subst h1
   obtain ⟨g1,g2,g3,g4⟩:=C.bltx h2
   cases tg with
   | Tuple elts kt pt =>
    rintro pins s σ H Rr I ⟨m,ρ,st,rf,rh,w⟩
    skip
    have hA:PA X [_,_] (jf (TEx X.K (wpE Γ a)) (jf (TEx X.K (wpE Γ b)) uu)):=pac (aQ a C _ h4) (pac (aQ b C _ h5) gq h3') h3
    refine BA g1 g4 hA (by rw [bi h3,bi h3'];rfl) (bi h3') pins s σ H Rr I ⟨m,ρ,st,rf,rh,ab C.mono a (fun v st1 k m1 H1 x1 e1 r1 r2=>⟨m1,ρ,st1,rf.mono e1,r1,
     ab C.mono b (fun u st2 k2 m2 H2 y2 e2 r3 r4=>?_) k⟩) w⟩
    obtain ⟨xs,ys,q1,q2,k⟩:=k2
    obtain ⟨a1,rfl,w1,s1⟩:=Bk r3 (r2.mono e2) q1
    obtain ⟨a2,rfl,w2,s2⟩:=Bk r3 r4 q2
    refine ⟨a1,a2,rfl,fun e he=>?_,k m2 H2 _ (e1.trans e2) r3 (zA w1 w2)⟩
    simp only [List.mem_cons,List.not_mem_nil,or_false] at he
    rcases he with rfl|rfl
    ·exact s1
    ·exact s2
   | _=>cases ht
 | .zip3 _ _ _,X,c,C,tg,x,ht,h=>by rintro pins s σ H Rr I ⟨m,ρ,st,rf,rh,w⟩;exact False.elim w
 | .enum a,X,c,C,tg,x,ht,h=>by
  replace h:=aD h
  obtain ⟨g,xs,p,rfl,h⟩:=h
  replace h:=ae h
  obtain ⟨y,p2,rfl,h⟩:=h
  replace h:=d6 h
  obtain ⟨l,rfl,h⟩:=h
  ·simp only [Bool.and_eq_true,beq_iff_eq] at h
   obtain ⟨⟨⟨h1,h2⟩,h3⟩,h4⟩:=h
   subst h1
   obtain ⟨g1,g2,g3,g4⟩:=C.bltx h2
   cases tg with
   | Tuple elts kt pt =>
    rintro pins s σ H Rr I ⟨m,ρ,st,rf,rh,w⟩
    skip
    have hA:PA X [_] (jf (TEx X.K (wpE Γ a)) uu):=pac (aQ a C _ h4) gq h3
    refine AD g1 g4 hA (bi h3) pins s σ H Rr I ⟨m,ρ,st,rf,rh,ab C.mono a (fun v st1 k m1 H1 x1 e1 r1 r2=>?_) w⟩
    obtain ⟨xs,rfl,k⟩:=k
    rw [R_tup] at r2
    obtain ⟨a1,zs,rfl,g,r3⟩:=r2
    exact ⟨a1,rfl,⟨zs,g⟩,k m1 H1 _ e1 r1 (wV g r3)⟩
   | _=>cases ht
 | .chars _,X,c,C,tg,x,_,h=>by rintro pins s σ H Rr I ⟨m,ρ,st,rf,rh,w⟩;exact False.elim w
 | .range3 _ _ _,X,c,C,tg,x,_,h=>by rintro pins s σ H Rr I ⟨m,ρ,st,rf,rh,w⟩;exact False.elim w
theorem vh:∀(es:Es) {X:Cx} {c:Cfg} (C:COk X c Γ) (xs:List Expr),qo c es xs=true→PTs X xs (TTx X.K (iq Γ es))
 | .nil,X,c,C,xs,h=>by
  have h:xs.isEmpty=true:=h
  cases xs with
  | nil =>
   rintro pins s σ H Q I ⟨m,ρ,st,rf,rh,w⟩
   skip
   exact vY pins s σ H Q I (w m H (Ext.refl _ _ _) rh)
  | cons _ _=>cases h
 | .cons e .nil,X,c,C,xs,h=>by
  replace h:=ay h
  obtain ⟨y,ys,rfl,h⟩:=h
  ·simp only [Bool.and_eq_true] at h
   obtain ⟨h2,h3⟩:=h
   have h3:ys.isEmpty=true:=h3
   cases ys with
   | nil =>
    rintro pins s σ H Q I ⟨m,ρ,st,rf,rh,w⟩
    skip
    refine sY (oR e C _ h2) vY pins s σ H Q I ⟨m,ρ,st,rf,rh,aB C.mono e (fun b st1 k m1 H1 e1 r1=>?_) w⟩
    cases b with
    | true=>rw [if_pos rfl];exact k m1 H1 e1 r1
    | false=>rw [if_neg Bool.false_ne_true];exact k m1 H1 e1 r1
   | cons _ _=>cases h3
 | .cons e (.cons e2 es),X,c,C,xs,h=>by
  replace h:=ay h
  obtain ⟨y,ys,rfl,h⟩:=h
  ·simp only [Bool.and_eq_true] at h
   obtain ⟨h2,h3⟩:=h
   rintro pins s σ H Q I ⟨m,ρ,st,rf,rh,w⟩
   skip
   refine sY (oR e C _ h2) (vh (.cons e2 es) C _ h3) pins s σ H Q I ⟨m,ρ,st,rf,rh,aB C.mono e (fun b st1 k m1 H1 e1 r1=>?_) w⟩
   cases b with
   | true=>rw [if_pos rfl] at k ⊢;exact ⟨m1,ρ,st1,rf.mono e1,r1,bU C.mono _ (fun _ _ q=>q.ext e1) k⟩
   | false=>rw [if_neg Bool.false_ne_true] at k ⊢;exact k m1 H1 e1 r1
end
end
end FW
set_option Elab.async false
set_option linter.all false
set_option maxRecDepth 100000
set_option maxHeartbeats 1000000
namespace FW
open PySem PySem.Spec PyProof.Rows L2 HX
section
variable {X:Cx} {c:Cfg} {Γ:Nat→FSp} {tg:Expr}
noncomputable def AE (K:PySem.W.Frag) (m:List Addr) (H:Hp) (D:L2.Ends):aS:={ nx:=postF K m H D.nx,rt:=post K m H D.rt,bk:=postF K m H D.bk,ct:=postF K m H D.ct }
noncomputable def TSx (K:PySem.W.Frag) (w:Fr→AH→aS→Prop):TS:=fun D σ H=>∃m ρ st,RF K m H ρ σ∧RH K m H st∧w ρ st (AE K m H D)
theorem AE.ext {K:PySem.W.Frag} {m m1:List Addr} {H H1:Hp} {D:L2.Ends} (x:Ext K m H m1 H1):lF (AE K m H D) (AE K m1 H1 D) :=
 ⟨fun _ _ q=>q.ext x,fun _ _ q=>q.ext x,fun _ _ q=>q.ext x,fun _ _ q=>q.ext x⟩
theorem zP (G:bq Γ) {t:Tg} {it:It} {b:Ss} {D:L2.Ends} {σ:L2.St} {H:Hp} (h:TSx X.K (wpS Γ (.forS t it b)) D σ H):C3 (TIx X.K (jr Γ it)) (TGx X.K (di Γ t)) (TSx X.K (aq Γ b)) D σ H:=by
 obtain ⟨m,ρ,st,rf,rh,w⟩:=h
 skip
 refine ⟨m,ρ,st,rf,rh,fC G it (fun xs chk st1 k m1 H1 J e1 r1 W=>?_) w⟩
 refine ⟨fun i n σ' H'=>n+i=xs.length∧∃m' ρ' st',Ext X.K m1 H1 m' H'∧RH X.K m' H' st'∧RF X.K m' H' ρ' σ'∧rC chk (fun x ρ' st' D'=>di Γ t x ρ' st' fun ρ2 st2=>aq Γ b ρ2 st2 D') (AE X.K m H D) (xs.drop i) ρ' st',
  ⟨xs.length,rfl,m1,ρ,st1,Ext.refl _ _ _,r1,rf.mono e1,by simpa using k⟩,?_⟩
 rintro i n σ' H' ⟨hn,m',ρ',st',x',rh',rf',k'⟩
 cases q:xs.drop i with
 | nil =>
  rw [q] at k'
  have hi:i=xs.length:=by
   have:=congrArg List.length q
   simp at this
   omega
  subst hi
  exact .inl ⟨W.stop m' H' st' x' rh' k'.1,k'.2 m' H' σ' (e1.trans x') rh' rf'⟩
 | cons v rest =>
  rw [q] at k'
  have hi:i<xs.length:=by
   have:=congrArg List.length q
   simp at this
   omega
  have ev:xs[i]?=some v:=by
   have:=congrArg List.head? q
   rw [List.head?_drop] at this
   exact this
  have er:rest=xs.drop (i+1):=by
   have:=congrArg List.tail q
   rw [List.tail_drop] at this
   exact this.symm
  subst er
  obtain ⟨kc,k'⟩:=k'
  obtain ⟨go,yl⟩:=W.item i v m' H' st' x' rh' kc ev
  refine .inr ⟨go,fun σ'' H''=>(n-1+(i+1)=xs.length∧∃m' ρ' st',Ext X.K m1 H1 m' H''∧RH X.K m' H'' st'∧RF X.K m' H'' ρ' σ''∧rC chk (fun x ρ' st' D'=>di Γ t x ρ' st' fun ρ2 st2=>aq Γ b ρ2 st2 D') (AE X.K m H D) (xs.drop (i+1)) ρ' st'),fun σ'' H'' z=>⟨n-1,by omega,z⟩,fun y H2 hy=>?_⟩
  obtain ⟨x2,r2,rv⟩:=yl y H2 hy
  refine ⟨m',ρ',st',v,rf'.mono x2,r2,rv,aP G t (fun ρ3 st3 k3 m3 H3 σ3 x3 r3 f3=>?_) k'⟩
  refine ⟨m3,ρ3,st3,f3,r3,aH G b ?_ k3⟩
  have xx:Ext X.K m H m3 H3:=((e1.trans x').trans x2).trans x3
  refine ⟨fun ρ4 st4 k4 m4 H4 σ4 x4 r4 f4=>⟨by omega,m4,ρ4,st4,((x'.trans x2).trans x3).trans x4,r4,f4,k4⟩,fun v4 st4 k4=>k4.ext xx,fun ρ4 st4 k4=>k4.ext xx,fun ρ4 st4 k4 m4 H4 σ4 x4 r4 f4=>⟨by omega,m4,ρ4,st4,((x'.trans x2).trans x3).trans x4,r4,f4,k4⟩⟩
theorem wy (G:bq Γ) {cd:E} {b:Ss} {D:L2.Ends} {σ:L2.St} {H:Hp} (h:TSx X.K (wpS Γ (.whileS cd b)) D σ H):y8 (TTx X.K (wpT Γ cd)) (TSx X.K (aq Γ b)) D σ H:=by
 obtain ⟨m,ρ,st,rf,rh,w⟩:=h
 skip
 obtain ⟨n0,w⟩:=w
 refine ⟨fun n σ' H'=>∃m' ρ' st',Ext X.K m H m' H'∧RH X.K m' H' st'∧RF X.K m' H' ρ' σ'∧eG (wpT Γ cd) (aq Γ b) (AE X.K m H D) n ρ' st',⟨n0,m,ρ,st,Ext.refl _ _ _,rh,rf,w⟩,?_⟩
 rintro n σ' H' ⟨m',ρ',st',x',rh',rf',k'⟩
 cases n with
 | zero=>exact k'.elim
 | succ n =>
  refine ⟨m',ρ',st',rf',rh',aB G cd (fun b st1 k m1 H1 x1 r1=>?_) k'⟩
  cases b with
  | false=>rw [if_neg Bool.false_ne_true] at k ⊢;exact k m1 H1 σ' (x'.trans x1) r1 (rf'.mono x1)
  | true =>
   rw [if_pos rfl] at k ⊢
   refine ⟨fun σ'' H''=>∃m' ρ' st',Ext X.K m H m' H''∧RH X.K m' H'' st'∧RF X.K m' H'' ρ' σ''∧eG (wpT Γ cd) (aq Γ b) (AE X.K m H D) n ρ' st',fun σ'' H'' z=>⟨n,Nat.lt_succ_self _,z⟩,m1,ρ',st1,rf'.mono x1,r1,aH G _ ?_ k⟩
   have xx:=x'.trans x1
   exact ⟨fun ρ4 st4 k4 m4 H4 σ4 x4 r4 f4=>⟨m4,ρ4,st4,xx.trans x4,r4,f4,k4⟩,fun v4 st4 k4=>k4.ext xx,fun ρ4 st4 k4=>k4.ext xx,fun ρ4 st4 k4 m4 H4 σ4 x4 r4 f4=>⟨m4,ρ4,st4,xx.trans x4,r4,f4,k4⟩⟩
end
end FW
set_option Elab.async false
set_option linter.all false
set_option maxRecDepth 100000
set_option maxHeartbeats 1000000
namespace FW
open PySem PySem.Spec PyProof.Rows L2 HX
noncomputable def oC:Expr→Bool
 | .Name ..=>true
 | _=>false
noncomputable def y_:Expr→Expr→Bool
 | .Tuple ts _ _,.Tuple _ _ _=>ts.any fun t=>!oC t
 | .Tuple ..,_=>true
 | .Subscript ..,_=>true
 | _,_=>false
noncomputable def xI (y:Str) (sc:Scope):Bool:=sc.names.any fun x=>match x with|(n,k)=>n == y && (k == .local || k == .cell)
noncomputable def u5 (x:Stmt) (f:List Expr→Expr→Bool):Bool:=match x with | .Assign ts v _=>f ts v|_=>false
theorem nA {x:Stmt} {f:List Expr→Expr→Bool} (h:u5 x f=true):∃ts v p,x=.Assign ts v p∧f ts v=true:=by
 cases x with|Assign ts v p=>exact ⟨ts,v,p,rfl,h⟩|_=>exact Bool.noConfusion h
noncomputable def yU (x:Stmt) (f:Expr→Expr→Bool):Bool:=u5 x fun ts v=>on1 ts fun t=>f t v
theorem qf {x:Stmt} {f:Expr→Expr→Bool} (h:yU x f=true):∃t v p,x=.Assign [t] v p∧f t v=true:=by
 replace h:=nA h
 obtain ⟨ts,v,p,rfl,h⟩:=h
 replace h:=d6 h
 obtain ⟨t,rfl,h⟩:=h
 exact ⟨t,v,p,rfl,h⟩
noncomputable def Ba (x:Stmt) (f:Expr→Operator→Expr→Bool):Bool:=match x with | .AugAssign t o v _=>f t o v|_=>false
theorem wH {x:Stmt} {f:Expr→Operator→Expr→Bool} (h:Ba x f=true):∃t o v p,x=.AugAssign t o v p∧f t o v=true:=by
 cases x with|AugAssign t o v p=>exact ⟨t,o,v,p,rfl,h⟩|_=>exact Bool.noConfusion h
noncomputable def DY (x:Stmt) (f:Expr→Bool):Bool:=match x with | .Expr v _=>f v|_=>false
theorem yp {x:Stmt} {f:Expr→Bool} (h:DY x f=true):∃v p,x=.Expr v p∧f v=true:=by
 cases x with|Expr v p=>exact ⟨v,p,rfl,h⟩|_=>exact Bool.noConfusion h
noncomputable def zD (x:Stmt) (f:Option Expr→Bool):Bool:=match x with | .Return v _=>f v|_=>false
theorem qb {x:Stmt} {f:Option Expr→Bool} (h:zD x f=true):∃v p,x=.Return v p∧f v=true:=by
 cases x with|Return v p=>exact ⟨v,p,rfl,h⟩|_=>exact Bool.noConfusion h
noncomputable def Dv (x:Stmt) (f:Expr→List Stmt→List Stmt→Bool):Bool:=match x with | .If v a b _=>f v a b|_=>false
theorem zC {x:Stmt} {f:Expr→List Stmt→List Stmt→Bool} (h:Dv x f=true):∃v a b p,x=.If v a b p∧f v a b=true:=by
 cases x with|If v a b p=>exact ⟨v,a,b,p,rfl,h⟩|_=>exact Bool.noConfusion h
noncomputable def v0 (x:Stmt) (f:Expr→List Stmt→Bool):Bool:=match x with | .While v a [] _=>f v a|_=>false
theorem tG {x:Stmt} {f:Expr→List Stmt→Bool} (h:v0 x f=true):∃v a p,x=.While v a [] p∧f v a=true:=by
 cases x with
 | While v a b p=>cases b with|nil=>exact ⟨v,a,p,rfl,h⟩|cons _ _=>exact Bool.noConfusion h
 | _=>exact Bool.noConfusion h
noncomputable def Bo (x:Stmt) (f:Expr→Expr→List Stmt→Bool):Bool:=match x with | .For t v a [] _=>f t v a|_=>false
theorem xi {x:Stmt} {f:Expr→Expr→List Stmt→Bool} (h:Bo x f=true):∃t v a p,x=.For t v a [] p∧f t v a=true:=by
 cases x with
 | For t v a b p=>cases b with|nil=>exact ⟨t,v,a,p,rfl,h⟩|cons _ _=>exact Bool.noConfusion h
 | _=>exact Bool.noConfusion h
noncomputable def yN (x:Stmt):Bool:=match x with | .Pass _=>true|_=>false
theorem uT {x:Stmt} (h:yN x=true):∃p,x=.Pass p:=by
 cases x with|Pass p=>exact ⟨p,rfl⟩|_=>exact Bool.noConfusion h
noncomputable def Bp (x:Stmt):Bool:=match x with | .Break _=>true|_=>false
theorem wZ {x:Stmt} (h:Bp x=true):∃p,x=.Break p:=by
 cases x with|Break p=>exact ⟨p,rfl⟩|_=>exact Bool.noConfusion h
noncomputable def xL (x:Stmt):Bool:=match x with | .Continue _=>true|_=>false
theorem uU {x:Stmt} (h:xL x=true):∃p,x=.Continue p:=by
 cases x with|Continue p=>exact ⟨p,rfl⟩|_=>exact Bool.noConfusion h
noncomputable def DU:Tg→Bool
 | .name _=>true
 | _=>false
noncomputable def Dg:E→Bool
 | .comp ..=>true
 | _=>false
noncomputable def BH (c:Cfg) (t:Tg) (e:E) (tg x:Expr):Bool :=
 DU t && Dg e && ar tg fun y py=>Aa x fun _ _ sc pos=>c.names.lookup y == some .cell || (c.names.lookup y == some .local && py.line == pos.line && !xI y sc)
noncomputable def Dz (c:Cfg) (t:Expr):Bool:=ar t fun y _=>c.names.lookup y == some .cell
noncomputable def Et (c:Cfg) (tg x:Expr):Bool:=eY tg fun ts=>(Aa x fun _ _ _ _=>true) || eY x fun _=>ts.any (Dz c)
mutual
noncomputable def C0 (c:Cfg):S→Stmt→Bool
 | .set t e,s=>yU s fun tg x=>(pI c t tg && aA c e x) && ((nS x && (oC tg || y_ tg x)) || (BH c t e tg x || Et c tg x))
 | .par i j a b,s=>yU s fun tg vx=>eY tg fun ts=>on2 ts fun ta tb=>ar ta fun x px=>ar tb fun y py=>eY vx fun us=>on2 us fun u v=>c.N[i]? == some x && c.N[j]? == some y && !(i == j) && !(x == y) && c.names.lookup x == some .local && c.names.lookup y == some .local
    && px.line == py.line && ah u && ah v && !(foldedForSure 8 u && foldedForSure 8 v) && !(constantsAlone 8 u && constantsAlone 8 v) && aA c a u && aA c b v
 | .aug i op e,s=>Ba s fun t o x=>ar t fun y _=>c.N[i]? == some y && c.loc y && o == op && aA c e x
 | .expr e,s=>DY s fun x=>nS x && aA c e x
 | .ret e,s=>zD s fun o=>lW o fun x=>aA c e x
 | .retN,s=>zD s fun o=>o.isNone
 | .ifS t a b,s=>Dv s fun x ys zs=>xk c t x && aE c a ys && aE c b zs
 | .whileS t b,s=>v0 s fun x ys=>xk c t x && aE c b ys
 | .forS t it b,s=>Bo s fun tg x ys=>yL it tg && nq x && pI c t tg && yB c it x && aE c b ys
 | .pass,s=>yN s
 | .brk,s=>Bp s
 | .cont,s=>xL s
 | .bad,_=>true
 | .set2 i j e,s=>u5 s fun ts v=>on2 ts fun ta tb=>ar ta fun x _=>ar tb fun y _=>c.N[i]? == some x && c.N[j]? == some y && !(i == j) && c.loc x && c.loc y && nS v && aA c e v
termination_by structural s=>s
noncomputable def aE (c:Cfg):Ss→List Stmt→Bool
 | .nil,xs=>xs.isEmpty
 | .cons s ss,xs=>nJ xs fun y ys=>C0 c s y && aE c ss ys
termination_by structural s=>s
end
theorem Af {t:Tg} (h:DU t=true):∃i,t=.name i:=by
 cases t with|name i=>exact ⟨i,rfl⟩|_=>exact Bool.noConfusion h
theorem AF {e:E} (h:Dg e=true):∃elt tg it ifs nt caps,e=.comp elt tg it ifs nt caps:=by
 cases e with|comp elt tg it ifs nt caps=>exact ⟨elt,tg,it,ifs,nt,caps,rfl⟩|_=>exact Bool.noConfusion h
theorem iC {x:Expr} {t:Option Expr} {l:Nat} {env:Env} (h:nS x=true):swapsWith x t l env=pure false:=by
 cases x <;> first|rfl|cases h
theorem iB {x t:Expr} {l:Nat} {env:Env} (h:nS x=true):swapsWithSole [t] x l env=pure false:=by
 unfold swapsWithSole
 exact iC h
theorem mB:∀(ts:List Expr) (f:Expr→Option Str),(ts.any fun t=>!oC t)=true→(∀t,oC t=false→f t=none)→(ts.filterMap f).length<ts.length
 | [],f,h,_=>by cases h
 | t::ts,f,h,hf=>by
  rw [List.any_cons,Bool.or_eq_true] at h
  have hl:(ts.filterMap f).length≤ts.length:=List.length_filterMap_le _ _
  rcases h with h|h
  ·rw [List.filterMap_cons,hf t (by simpa using h)]
   simp only [List.length_cons]
   omega
  ·have:=mB ts f h hf
   rw [List.filterMap_cons]
   cases f t <;> simp only [List.length_cons] <;> omega
theorem lO:∀(ts:List Expr) (P:Expr→Bool) (f:Expr→Option Str),ts.any P=true→(∀t,P t=true→f t=none)→(ts.filterMap f).length<ts.length
 | [],P,f,h,_=>by cases h
 | t::ts,P,f,h,hf=>by
  rw [List.any_cons,Bool.or_eq_true] at h
  have hl:(ts.filterMap f).length≤ts.length:=List.length_filterMap_le _ _
  rcases h with h|h
  ·rw [List.filterMap_cons,hf t h]
   simp only [List.length_cons]
   omega
  ·have:=lO ts P f h hf
   rw [List.filterMap_cons]
   cases f t <;> simp only [List.length_cons] <;> omega
theorem zw {ts vs:List Expr} {k k2:Nat} {p p2:Pos} {env:Env} {P:Expr→Bool} (hs:ts.any P=true) (hP:∀t,P t=true→∃y q,t=.Name y q∧(env.kindOf y == some .local)=false):swappedStores [.Tuple ts k p] (.Tuple vs k2 p2) env=pure none:=by
 unfold swappedStores
 dsimp only
 split
 ·rfl
 ·split
  ·rfl
  ·have hlt:=lO ts P (fun x=>match x with
    | .Name id pos=>if (env.kindOf id == some .local && pos.line == (Option.map (fun x=>x.pos.line) ts.head?).getD 0)=true then some id else none
    | _=>none) hs (fun t ht=>by
     obtain ⟨y,q,rfl,hk⟩:=hP t ht
     show (if (env.kindOf y == some .local && _)=true then some y else none)=none
     rw [hk,Bool.false_and,if_neg Bool.false_ne_true])
   rw [if_pos]
   rw [Bool.or_eq_true]
   left
   rw [bne_iff_ne]
   exact Nat.ne_of_lt hlt
theorem md {tg x:Expr} {env:Env} (h:y_ tg x=true):swappedStores [tg] x env=pure none:=by
 cases tg with
 | Tuple ts k p =>
  cases x with
  | Tuple vs k2 p2 =>
   have hs:(ts.any fun t=>!oC t)=true:=h
   unfold swappedStores
   dsimp only
   split
   ·rfl
   ·split
    ·rfl
    ·have hlt:=mB ts (fun x=>match x with
      | .Name id pos=>if (env.kindOf id == some .local && pos.line == (Option.map (fun x=>x.pos.line) ts.head?).getD 0)=true then some id else none
      | _=>none) hs (fun t ht=>by cases t <;> first|rfl|cases ht)
     rw [if_pos]
     rw [Bool.or_eq_true]
     left
     rw [bne_iff_ne]
     exact Nat.ne_of_lt hlt
  | _=>rfl
 | Subscript a b p=>cases x <;> rfl
 | _=>cases h
noncomputable def u_:Expr→Bool
 | .Starred ..=>true
 | _=>false
theorem pW {u:Expr} (h:ah u=true):u_ u=false:=by
 cases u <;> first|rfl|cases h
theorem u6 {u v:Expr} (h1:ah u=true) (h2:ah v=true):([u,v].any fun | .Starred ..=>true|_=>false)=false:=by
 show (u_ u || (u_ v || false))=false
 rw [pW h1,pW h2]
 rfl
theorem zB {env:Env} {x y:Str} {px py pt:Pos} {kt k2:Nat} {pt2:Pos} {u v:Expr} (hb:env.blockKind=.function) (hx:env.kindOf x=some .local) (hy:env.kindOf y=some .local) (hxy:x≠y) (hl:px.line=py.line)
  (h1:ah u=true) (h2:ah v=true) (h3:(foldedForSure 8 u && foldedForSure 8 v)=false) (h4:(constantsAlone 8 u && constantsAlone 8 v)=false) :
  swappedStores [.Tuple [.Name x px,.Name y py] kt pt] (.Tuple [u,v] k2 pt2) env=pure (some [x,y]):=by
 unfold swappedStores
 dsimp only
 have e0:(Option.map (fun x=>x.pos.line) [Expr.Name x px,Expr.Name y py].head?).getD 0=px.line:=rfl
 have e1:([u,v].any fun | .Starred ..=>true|_=>false)=false:=u6 h1 h2
 have e2:[u,v].all (foldedForSure 8)=false:=by simpa using h3
 have e3:[u,v].all (constantsAlone 8)=false:=by simpa using h4
 have e4:[x,y].eraseDups.length=2:=by
  have:(y == x)=false:=by simpa using fun z=>hxy z.symm
  simp [List.eraseDups_cons,this]
 rw [if_neg (by simp [hb]),if_neg ?h1]
 case h1=>exact fun z=>Bool.false_ne_true (e1.symm.trans z)
 have e5:(List.filterMap (fun t=>match t with
   | .Name id pos=>if (env.kindOf id == some .local && pos.line == (Option.map (fun x=>x.pos.line) [Expr.Name x px,Expr.Name y py].head?).getD 0)=true then some id else none
   | _=>none) [Expr.Name x px,Expr.Name y py])=[x,y]:=by
  rw [e0]
  simp [List.filterMap_cons,hx,hy,hl]
 generalize hn:List.filterMap _ [Expr.Name x px,Expr.Name y py]=ns
 have hns:ns=[x,y]:=hn.symm.trans e5
 subst hns
 rw [if_neg,if_neg,if_neg]
 ·rw [e3];decide
 ·rw [e2];decide
 ·rw [e4]
  simp
section
variable {X:Cx} {c:Cfg} {Γ:Nat→FSp}
theorem yJ {X:Cx} {c:Cfg} {Γ:Nat→FSp} (C:COk X c Γ) {t:Tg} {e:E} {tg x:Expr} {pos:Pos} (h2:pI c t tg=true) (h3:aA c e x=true) (h:BH c t e tg x=true):PS X (.Assign [tg] x pos) (TSx X.K (wpS Γ (.set t e))):=by
 have hE:=aQ e C _ h3
 unfold BH at h
 rw [Bool.and_eq_true,Bool.and_eq_true] at h
 obtain ⟨⟨ht,he⟩,h⟩:=h
 replace h:=ae h
 obtain ⟨y,py,rfl,h⟩:=h
 replace h:=kX h
 obtain ⟨ex,gens,sc,cpos,rfl,h⟩:=h
 obtain ⟨i,rfl⟩:=Af ht
 obtain ⟨elt,tg,it,ifs,nt,caps,rfl⟩:=AF he
 ·have h2:(c.N[i]? == some y && c.loc y)=true:=h2
  simp only [Bool.and_eq_true,beq_iff_eq] at h2
  obtain ⟨g1,g2⟩:=C.locx h2.2
  rintro pins s σ H D I ⟨m,ρ,st,rf,rh,w⟩
  simp only [Bool.or_eq_true,Bool.and_eq_true,beq_iff_eq,Bool.not_eq_true'] at h
  rcases h with h|⟨⟨hl,hp⟩,hn⟩
  ·have hk:=C.cel y (.inl h)
   have hs:swapsWith (.ListComp ex gens sc cpos) (some (.Name y py)) pos.line X.env=pure false:=by
    unfold swapsWith
    have:(X.env.kindOf y == some NameKind.local)=false:=by rcases hk with hk|hk <;> rw [hk] <;> rfl
    simp only [this,Bool.and_false,Bool.false_and]
   rw [jb] at w
   refine xT C.ndX (by rw [C.N];exact h2.1) g1 hE hs g2 pins s σ H D I ⟨m,ρ,st,rf,rh,ab C.mono _ (fun v st1 k m1 H1 x1 e1 r1 r2=>?_) w⟩
   try simp only [bZ,dJ,cA,dG] at k
   exact k m1 H1 _ e1 r1 ((rf.mono e1).set i r2)
  ·have hll:=C.lcl _ hl
   have hs:swapsWith (.ListComp ex gens sc cpos) (some (.Name y py)) pos.line X.env=pure true:=by
    unfold swapsWith
    have q1:(X.env.kindOf y == some NameKind.local)=true:=by unfold Env.kindOf;rw [hll];rfl
    have q2:(X.env.blockKind == ScopeKind.function)=true:=by rw [C.bk];rfl
    have q3:(py.line == cpos.line)=true:=by rw [hp];simp
    unfold xI at hn
    show pure (_ && _ && _ && !_)=_
    rw [q1,q2]
    show pure (true && true && (py.line == cpos.line) && !_)=_
    rw [q3,hn]
    rfl
   replace h3:=kX h3
   obtain ⟨ex',gs',sc',pos',heq,h3⟩:=h3
   cases heq
   replace h3:=d6 h3
   obtain ⟨g,rfl,h3⟩:=h3
   obtain ⟨tx,ix,fx,ia⟩:=g
   ·simp only [Bool.and_eq_true,beq_iff_eq] at h3
    obtain ⟨⟨⟨⟨⟨⟨⟨⟨h1,h0⟩,k2'⟩,h3⟩,h4⟩,h5⟩,h6⟩,h7⟩,h8⟩:=h3
    subst h1
    obtain ⟨S,k1,k2,k3,k4⟩:=oA C h4
    have hC:∀s2 H2 fp A,COk (cxC X (nt++caps.filterMap (X.N[·]?)) s2 H2 fp sc A) (c.inner nt caps sc) Γ:=fun s2 H2 fp A=>xY C h4
    skip
    rw [exec_Assign_Name_used _ _ _ _ hs]
    refine wpAny_bind (wpAny_standAt ?_)
    refine wpAny_bind ?_
    unfold evalThenUse
    refine wpAny_bind ?_
    refine pO (elt:=elt) (tg:=tg) (ifs:=ifs) (nt:=nt) (caps:=caps) (use:=some (assign (.Name y py) X.env)) (Fin:=fun A H'=>D.nx (σ.set i (some (.ref A))) H') (wi:=TIx X.K (jr Γ it)) C.mono C.calm S rfl k1 k2 k3 k2' h3 (yY it C _ h0 h5) (fun s2 H2 fp A=>qg tg (hC s2 H2 fp A) _ h6) (fun s2 H2 fp A=>vh ifs (hC s2 H2 fp A) _ h7) (fun s2 H2 fp A=>aQ elt (hC s2 H2 fp A) _ h8) I ?_ ?_
    ·refine ⟨m,ρ,st,rf,rh,fC C.mono it (fun xs chk st1 z m1 H1 J e1 r1 W=>⟨m1,ρ,st1,xs,chk,rf.mono e1,r1,W,z.1,?_⟩) w⟩
     refine gy (body:=e6 Γ elt tg ifs (nt.map (fun _=>none)++caps.map fun i=>(ρ[i]?).join)) (fun _ _ _ _ hk q=>ou C.mono hk q) (fun vs st2 k m2 H2 A ys e2 r2 Dm hD0 hD ry=>?_) z.2
     have hD1:H A=none:=by
      cases q:H A with
      | none=>rfl
      | some o =>
       by_cases hm:A∈m
       ·exact absurd ((e1.trans e2).pre.subset hm) Dm
       ·exact absurd hD0 (e1.ne hm q)
     try simp only [bZ,dJ,cA,dG] at k
     exact k _ _ _ ((e1.trans e2).addD hD1) (r2.addD Dm hD ry) ((rf.mono ((e1.trans e2).addD hD1)).set i (R.last r2.len))
    ·intro C' A H' s' m' I' ns fp F
     refine wpAny_assign_Name (pX I' C.ndX (by rw [C.N];exact h2.1) g1 (v:=.ref A) rfl (fun s2 I2 hh=>?_) g2)
     obtain ⟨a,hs2,ha⟩:=hh
     have hne:C'≠a:=by
      rcases ha with rfl|ha
      ·exact fp.2.1
      ·exact fun q=>fp.2.2.2.2.1 _ _ ha q.symm
     refine ⟨m',?_,fun h' hs'=>?_⟩
     ·obtain ⟨o,es,ep,q1,q2⟩:=ns
      exact ⟨o,es,ep,(hs2.2 C' hne).trans q1,q2⟩
     ·refine wpAny_pure (wpAny_pure ?_)
      exact ⟨_,H',I2.turned (t':=s2.toks) (fun b o hb e=>hs'.extBut b o hb e) fp.1 fp.2.1 fp.2.2.2.1 fp.2.2.2.2.1 fp.2.2.2.2.2,F⟩
mutual
theorem EL (C:COk X c Γ):∀(e:S) (x:Stmt),C0 c e x=true→PS X x (TSx X.K (wpS Γ e))
 | .set t e,x,h=>by
  replace h:=qf h
  obtain ⟨tg,x,pos,rfl,h⟩:=h
  ·simp only [Bool.and_eq_true,Bool.or_eq_true] at h
   obtain ⟨⟨h2,h3⟩,h14⟩:=h
   rcases h14 with ⟨h1,h4⟩|h14|h14
   rotate_left
   ·exact yJ C h2 h3 h14
   ·have hE:=aQ e C _ h3
    have hG:=qg t C _ h2
    rintro pins s σ H D I ⟨m,ρ,st,rf,rh,w⟩
    skip
    have rd:Aq (TEx X.K (wpE Γ e)) (TGx X.K (di Γ t)) D σ H:=⟨m,ρ,st,rf,rh,ab C.mono e (fun v st1 k m1 H1 x1 e1 r1 r2=>⟨m1,ρ,st1,v,rf.mono e1,r1,r2,aP C.mono t (fun _ _ q=>q.ext e1) k⟩) w⟩
    obtain ⟨ts,k,p,rfl,h14⟩:=aV h14
    rcases Bool.or_eq_true_iff.mp h14 with h14|h14
    ·obtain ⟨a,b,d,f,rfl,_⟩:=kX h14
     exact nw hE hG rfl rfl rfl pins s σ H D I rd
    ·obtain ⟨us,k2,p2,rfl,h14⟩:=aV h14
     refine nw hE hG rfl (zw (P:=Dz c) h14 fun t ht=>?_) rfl pins s σ H D I rd
     obtain ⟨y,q,rfl,hy⟩:=ae (show ar t _=true from ht)
     refine ⟨y,q,rfl,?_⟩
     rcases C.cel y (.inl (by simpa using hy)) with hk|hk <;> rw [hk] <;> rfl
   ·have hE:=aQ e C _ h3
    have hG:=qg t C _ h2
    rintro pins s σ H D I ⟨m,ρ,st,rf,rh,w⟩
    skip
    have rd:Aq (TEx X.K (wpE Γ e)) (TGx X.K (di Γ t)) D σ H:=⟨m,ρ,st,rf,rh,ab C.mono e (fun v st1 k m1 H1 x1 e1 r1 r2=>⟨m1,ρ,st1,v,rf.mono e1,r1,r2,aP C.mono t (fun _ _ q=>q.ext e1) k⟩) w⟩
    cases t with
    | name i =>
     obtain ⟨y,p,rfl,h2⟩:=ae h2
     have h2:=Bool.and_eq_true_iff.mp h2
     obtain ⟨g1,g2⟩:=C.locx h2.2
     refine xT C.ndX (by rw [C.N];exact beq_iff_eq.mp h2.1) g1 hE (iC h1) g2 pins s σ H D I ⟨m,ρ,st,rf,rh,ab C.mono e (fun v st1 k m1 H1 x1 e1 r1 r2=>?_) w⟩
     try simp only [bZ,dJ,cA,dG] at k
     exact k m1 H1 _ e1 r1 ((rf.mono e1).set i r2)
    | tup ts =>
     obtain ⟨xs,k,p,rfl,_⟩:=aV h2
     exact nw hE hG (iB h1) (md (by rcases h4 with h4|h4;cases h4;exact h4)) rfl pins s σ H D I rd
    | ltup ts =>
     obtain ⟨xs,k,p,rfl,_⟩:=aV h2
     exact nw hE hG (iB h1) (md (by rcases h4 with h4|h4;cases h4;exact h4)) rfl pins s σ H D I rd
    | sub o i =>
     obtain ⟨l,r,p,rfl,_⟩:=fu h2
     exact nw hE hG (iB h1) (md (by rcases h4 with h4|h4;cases h4;exact h4)) rfl pins s σ H D I rd
 | .par i j a b,x,h=>by
  replace h:=qf h
  obtain ⟨tg,vx,pos,rfl,h⟩:=h
  replace h:=aV h
  obtain ⟨ts,k,p1,rfl,h⟩:=h
  replace h:=fI h
  obtain ⟨ta,tb,rfl,h⟩:=h
  replace h:=ae h
  obtain ⟨x,px,rfl,h⟩:=h
  replace h:=ae h
  obtain ⟨y,py,rfl,h⟩:=h
  replace h:=aV h
  obtain ⟨us,k2,p2,rfl,h⟩:=h
  replace h:=fI h
  obtain ⟨u,v,rfl,h⟩:=h
  ·simp only [Bool.and_eq_true,beq_iff_eq,Bool.not_eq_true',beq_eq_false_iff_ne] at h
   obtain ⟨⟨⟨⟨⟨⟨⟨⟨⟨⟨⟨⟨h1,h2⟩,h3⟩,h4⟩,h5⟩,h6⟩,h7⟩,h8⟩,h9⟩,h10⟩,h11⟩,h12⟩,h13⟩:=h
   have hx:=C.lcl _ h5
   have hy:=C.lcl _ h6
   rintro pins s σ H D I ⟨m,ρ,st,rf,rh,w⟩
   skip
   refine BE C.calm C.ndX (by rw [C.N];exact h1) (by rw [C.N];exact h2) h3 hx hy (pac (aQ a C _ h12) (pac (aQ b C _ h13) gq h9) h8)
    (zB C.bk hx hy h4 h7 h8 h9 h10 h11) rfl pins s σ H D I ⟨m,ρ,st,rf,rh,ab C.mono a (fun v st1 k m1 H1 x1 e1 r1 r2=>⟨m1,ρ,st1,rf.mono e1,r1,
    ab C.mono b (fun u st2 k2 m2 H2 y2 e2 r3 r4=>⟨x1,y2,rfl,?_⟩) k⟩) w⟩
   exact k2 m2 H2 _ (e1.trans e2) r3 ((((rf.mono e1).mono e2).set i (r2.mono e2)).set j r4)
 | .aug i op e,x,h=>by
  replace h:=wH h
  obtain ⟨t,o,x,p,rfl,h⟩:=h
  replace h:=ae h
  obtain ⟨y,py,rfl,h⟩:=h
  ·simp only [Bool.and_eq_true,beq_iff_eq] at h
   obtain ⟨⟨⟨h1,h2⟩,h3⟩,h4⟩:=h
   subst h3
   obtain ⟨g1,g2⟩:=C.locx h2
   rintro pins s σ H D I ⟨m,ρ,st,rf,rh,w⟩
   skip
   obtain ⟨v,ev,w⟩:=w
   obtain ⟨y,ey,ry⟩:=rf.at_ i v ev
   refine B' C.ndX (by rw [C.N];exact h1) g1 (aQ e C _ h4) (Cu _) g2 pins s σ H D I ⟨y,ey,m,ρ,st,rf,rh,ab C.mono e (fun u st1 k m1 H1 x1 e1 r1 r2=>⟨m1,st1,v,u,r1,ry.mono e1,r2,pY (fun z st2 q m2 H2 z2 e2 r3 r4=>?_) k⟩) w⟩
   exact q m2 H2 _ (e1.trans e2) r3 (((rf.mono e1).mono e2).set i r4)
 | .expr e,x,h=>by
  replace h:=yp h
  obtain ⟨x,p,rfl,h⟩:=h
  ·simp only [Bool.and_eq_true] at h
   rintro pins s σ H D I ⟨m,ρ,st,rf,rh,w⟩
   skip
   exact zO (aQ e C _ h.2) (iC h.1) pins s σ H D I ⟨m,ρ,st,rf,rh,ab C.mono e (fun u st1 k m1 H1 x1 e1 r1 r2=>k m1 H1 σ e1 r1 (rf.mono e1)) w⟩
 | .ret e,x,h=>by
  replace h:=qb h
  obtain ⟨o,p,rfl,h⟩:=h
  replace h:=jk h
  obtain ⟨x,rfl,h⟩:=h
  ·rintro pins s σ H D I ⟨m,ρ,st,rf,rh,w⟩
   skip
   exact BF (aQ e C _ h) pins s σ H D I ⟨m,ρ,st,rf,rh,w⟩
 | .retN,x,h=>by
  replace h:=qb h
  obtain ⟨o,p,rfl,h⟩:=h
  replace h:=w9 h
  obtain rfl:=h
  ·rintro pins s σ H D I ⟨m,ρ,st,rf,rh,w⟩
   skip
   exact A9 pins s σ H D I (post.here w rh (R_non.mpr rfl))
 | .ifS t a b,x,h=>by
  replace h:=zC h
  obtain ⟨x,ys,zs,p,rfl,h⟩:=h
  ·simp only [Bool.and_eq_true] at h
   obtain ⟨⟨h1,h2⟩,h3⟩:=h
   rintro pins s σ H D I ⟨m,ρ,st,rf,rh,w⟩
   skip
   refine Dt (oR t C _ h1) (n5 C a _ h2) (n5 C b _ h3) pins s σ H D I ⟨m,ρ,st,rf,rh,aB C.mono t (fun k st1 z m1 H1 e1 r1=>?_) w⟩
   cases k with
   | true=>rw [if_pos rfl] at z ⊢;exact ⟨m1,ρ,st1,rf.mono e1,r1,aH C.mono a (AE.ext e1) z⟩
   | false=>rw [if_neg Bool.false_ne_true] at z ⊢;exact ⟨m1,ρ,st1,rf.mono e1,r1,aH C.mono b (AE.ext e1) z⟩
 | .whileS t b,x,h=>by
  replace h:=tG h
  obtain ⟨x,ys,p,rfl,h⟩:=h
  ·simp only [Bool.and_eq_true] at h
   intro pins s σ H D I w
   exact xD C.pass (oR t C _ h.1) (n5 C b _ h.2) pins s σ H D I (wy C.mono w)
 | .forS t it b,x,h=>by
  replace h:=xi h
  obtain ⟨tg,x,ys,p,rfl,h⟩:=h
  ·simp only [Bool.and_eq_true] at h
   obtain ⟨⟨⟨⟨h0,h1⟩,h2⟩,h3⟩,h4⟩:=h
   intro pins s σ H D I w
   exact BD C.pass C.calm (yY it C _ h0 h3) (qg t C _ h2) (n5 C b _ h4) (tO h1) pins s σ H D I (zP C.mono w)
 | .bad,x,h=>by
  rintro pins s σ H D I ⟨m,ρ,st,rf,rh,w⟩
  exact False.elim w
 | .set2 i j e,x,h=>by
  replace h:=nA h
  obtain ⟨ts,v,pos,rfl,h⟩:=h
  replace h:=fI h
  obtain ⟨ta,tb,rfl,h⟩:=h
  replace h:=ae h
  obtain ⟨x,px,rfl,h⟩:=h
  replace h:=ae h
  obtain ⟨y,py,rfl,h⟩:=h
  ·simp only [Bool.and_eq_true,beq_iff_eq,Bool.not_eq_true',beq_eq_false_iff_ne] at h
   obtain ⟨⟨⟨⟨⟨⟨h1,h2⟩,h3⟩,h4⟩,h5⟩,h6⟩,h7⟩:=h
   obtain ⟨a1,a2⟩:=C.locx h4
   obtain ⟨b1,b2⟩:=C.locx h5
   rintro pins s σ H D I ⟨m,ρ,st,rf,rh,w⟩
   skip
   refine wpAny_Assign_two (thn (aQ e C _ h7 pins s σ H (fun y H1=>D.nx ((σ.set i (some y)).set j (some y)) H1) I ⟨m,ρ,st,rf,rh,ab C.mono e (fun v st1 k m1 H1 x1 e1 r1 r2=>k m1 H1 _ e1 r1 (((rf.mono e1).set i r2).set j r2)) w⟩) fun v s1 ⟨y,H1,I1,r1,q1⟩=>?_) rfl rfl
   refine PySem.wpAny_assign_Name ?_
   refine eJ I1 C.ndX (by rw [C.N];exact h1) a1 r1 (fun s2 I2=>?_) a2
   refine PySem.wpAny_assign_Name ?_
   exact eJ I2 C.ndX (by rw [C.N];exact h2) b1 r1 (fun s3 I3=>⟨_,H1,I3,q1⟩) b2
 | .pass,x,h=>by
  replace h:=uT h
  obtain ⟨p,rfl⟩:=h
  ·rintro pins s σ H D I ⟨m,ρ,st,rf,rh,w⟩
   skip
   exact AT pins s σ H D I (postF.here w rh rf)
 | .brk,x,h=>by
  replace h:=wZ h
  obtain ⟨p,rfl⟩:=h
  ·rintro pins s σ H D I ⟨m,ρ,st,rf,rh,w⟩
   skip
   exact xN pins s σ H D I (postF.here w rh rf)
 | .cont,x,h=>by
  replace h:=uU h
  obtain ⟨p,rfl⟩:=h
  ·rintro pins s σ H D I ⟨m,ρ,st,rf,rh,w⟩
   skip
   exact tS pins s σ H D I (postF.here w rh rf)
theorem n5 (C:COk X c Γ):∀(e:Ss) (x:List Stmt),aE c e x=true→PSs X x (TSx X.K (aq Γ e))
 | .nil,x,h=>by
  have h:x.isEmpty=true:=h
  cases x with
  | nil =>
   rintro pins s σ H D I ⟨m,ρ,st,rf,rh,w⟩
   skip
   exact zI pins s σ H D I (postF.here w rh rf)
  | cons _ _=>cases h
 | .cons e es,x,h=>by
  replace h:=ay h
  obtain ⟨y,ys,rfl,h⟩:=h
  ·simp only [Bool.and_eq_true] at h
   rintro pins s σ H D I ⟨m,ρ,st,rf,rh,w⟩
   skip
   refine ym (EL C e _ h.1) (n5 C es _ h.2) pins s σ H D I ⟨m,ρ,st,rf,rh,kY C.mono e ?_ w⟩
   exact ⟨fun ρ1 st1 k m1 H1 σ1 e1 r1 f1=>⟨m1,ρ1,st1,f1,r1,aH C.mono es (AE.ext e1) k⟩,fun _ _ q=>q,fun _ _ q=>q,fun _ _ q=>q⟩
end
structure GOk (P:Program) (w:World) (K:PySem.W.Frag) (mg:Str→Option Value) (base:Heap) (c:Cfg) (Γ:Nat→FSp):Prop where
 fn:∀f x,f<c.lim→c.fns[f]?=some x→∃ps,Has P w K mg base (f+1) x ps (au K (Γ f))
 blt:∀x∈c.blts,mg x=none
 gl:∀x v,c.gl.lookup x=some v→∃u y,mg x=some u∧RelV y u∧∀m H,R K m H v y
 mono:bq Γ
noncomputable def frame (n:Nat) (as:List PV):Fr:=as.map some++List.replicate (n-as.length) none
noncomputable def ag (st:AH) (Q:EK):aS:={ nx:=fun _ st'=>Ret st Q .non st',rt:=Ret st Q }
theorem kR {K:PySem.W.Frag} {m:List Addr} {H:Hp} {st st':AH} {Q:VK} {v:PV} (rh:RH K m H st) (q:Ret st (post K m H Q) v st'):post K m H Q v st':=by
 rcases q with q|q
 ·exact q
 ·intro m' H' x e r s
  obtain ⟨st1,q,e2,r3,r4⟩:=rD rh e r s q
  exact q m H' x e2 r3 r4
theorem tR {K:PySem.W.Frag} {m:List Addr} {H:Hp} {N:List Str} {as:List PV} {vs:List V} (r:Rs K m H as vs):RF K m H (frame N.length as) (L2.start N vs):=by
 have hl:=r.len
 refine ⟨by simp [frame,L2.start,hl],fun i v e=>?_⟩
 unfold frame at e
 unfold L2.start
 by_cases hi:i<as.length
 ·rw [List.getElem?_append_left (by simpa using hi),List.getElem?_map] at e
  cases q:as[i]? with
  | none=>rw [q] at e;cases e
  | some a =>
   rw [q] at e
   cases e
   obtain ⟨y,e1,r1⟩:=r.get q
   exact ⟨y,by rw [List.getElem?_append_left (by simp;omega),List.getElem?_map,e1];rfl,r1⟩
 ·rw [List.getElem?_append_right (by simpa using hi),List.getElem?_replicate] at e
  split at e <;> cases e
theorem yK {P:Program} {w:World} {K:PySem.W.Frag} {mg:Str→Option Value} {base:Heap} {x:Str} {st:Stmt} {N ps:List Str} (S:ai N ps (aa st)) {f:Addr} {cdv:Value} {A:Around} {outer:List Env} {s:Shared} {H:Hp} {E:XK}
  (hN:c.N=N) (hn:c.names=(aa st).names) (hr:Room c.lim (A.deeper (envOfC x (aa st) s.heap.objs.size f cdv))) (G:GOk P w K mg base c Γ)
  (lam:c.pc=true→∀ {pins:List (Addr × Obj)} {σ:L2.St} {H2:Hp} {s2:Shared} {b:Addr} {u:Value} {v:V} {Q:VK},L2.Inv (ma CX0 P w K mg base N x (aa st) f cdv A outer s H E).nox pins σ H2 s2→RelV v u→au K (Γ 1000) [.ref b,v] H2 Q E0 →
   PySem.W.FnAt b s2.heap∧wpAny (model P w) (ma CX0 P w K mg base N x (aa st) f cdv A outer s H E).nox.A (call (.ref b) [u]) (EP (ma CX0 P w K mg base N x (aa st) f cdv A outer s H E).nox pins σ Q) (ma CX0 P w K mg base N x (aa st) f cdv A outer s H E).nox.xe s2)
  (hmo:∀k,c.hm=some k→HmX (ma CX0 P w K mg base N x (aa st) f cdv A outer s H E).nox k) :
  COk (ma CX0 P w K mg base N x (aa st) f cdv A outer s H E).nox c Γ where
 calm:=rfl
 pass:=PassesOwn.never
 N:=hN.symm
 nd:=by rw [hN];exact S.nd
 vis:=fun y h=>by rw [hn] at h;exact h
 loc:=fun y h=>by rw [hn] at h;exact ⟨h,.inl rfl⟩
 lcl:=fun y h=>by rw [hn] at h;exact h
 glb:=fun y h=>by rw [hn] at h;exact h
 bk:=by
  show Env.blockKind (envOfC x (aa st) s.heap.objs.size f cdv)=_
  unfold Env.blockKind
  show (if (aa st).kind.isAnnotationScope=true then _ else (aa st).kind)=_
  rw [S.kind]
  rfl
 cel:=fun y h=>by rw [hn] at h;exact h
 room:=hr
 fn:=G.fn
 blt:=G.blt
 gl:=G.gl
 mono:=G.mono
 lam:=lam
 hmo:=hmo
theorem aC {P:Program} {w:World} {K:PySem.W.Frag} {mg:Str→Option Value} {base:Heap} {x:Str} {st:Stmt} {N ps:List Str} {sp:FSp} {code:Ss} (F:At K mg x st ps) (S:ai N ps (aa st)) (hN:c.N=N) (hn:c.names=(aa st).names)
  (hc:aE c code (ac st)=true) (G:GOk P w K mg base c Γ) (len:∀as st Q,sp as st Q→as.length=ps.length)
  (h:∀as st Q,sp as st Q→aq Γ code (frame N.length as) st (ag st Q)) (hpc:c.pc=false:=by rfl) (hhm:c.hm=none:=by rfl):Has P w K mg base (c.lim+1) x ps (au K sp):=by
 refine F.ok S (fun vs H Q E ⟨m,st,as,r1,r2,q⟩=>by rw [←r1.len];exact len as st _ q) fun f cdv A outer s H vs Q E hr ⟨m,st',as,r1,r2,q⟩=>?_
 have C:=yK (E:=E) (H:=H) (outer:=outer) (Γ:=Γ) S hN hn hr G (fun z=>by rw [hpc] at z;cases z) fun k z=>by rw [hhm] at z;cases z
 refine ⟨_,n5 C code _ hc,m,frame N.length as,st',tR r1,r2,aH G.mono code ?_ (h as st' _ q)⟩
 exact ⟨fun ρ st2 k m' H' σ' e r f=>kR r2 k m' H' .non e r (R_non.mpr rfl),fun v st2 k=>kR r2 k,fun _ _ k=>k.elim,fun _ _ k=>k.elim⟩
end
end FW
set_option Elab.async false
set_option linter.all false
set_option maxRecDepth 100000
set_option maxHeartbeats 1000000
namespace FW
open PySem PySem.Spec PyProof.Rows L2 HX
section
variable {P:Program} {w:World} {K:PySem.W.Frag} {mg:Str→Option Value} {base:Heap} {c c':Cfg} {Γ:Nat→FSp}
theorem GOk.next (G:GOk P w K mg base c Γ) (h1:c'.fns=c.fns) (h2:c'.lim=c.lim+1) (h3:c'.blts=c.blts) (h4:c'.gl=c.gl) {x:Str} {ps:List Str} (hx:c.fns[c.lim]?=some x) (H:Has P w K mg base (c.lim+1) x ps (au K (Γ c.lim))):GOk P w K mg base c' Γ where
 fn:=fun f y hf e=>by
  rw [h1] at e
  rw [h2] at hf
  by_cases hl:f<c.lim
  ·exact G.fn f y hl e
  ·have:f=c.lim:=by omega
   subst this
   rw [hx] at e
   cases e
   exact ⟨ps,H⟩
 blt:=by rw [h3];exact G.blt
 gl:=by rw [h4];exact G.gl
 mono:=G.mono
theorem zQ {x qual:Str} {st:Stmt} {f:Addr} {fd:FuncData} {N ps:List Str} {sp:FSp} {code:Ss} (F:Fun K x x st f fd) (S:ai N ps (aa st)) (hN:c.N=N) (hn:c.names=(aa st).names)
  (hc:aE c code (ac st)=true) (G:GOk P w K mg base c Γ) (len:∀as st Q,sp as st Q→as.length=ps.length)
  (h:∀as st Q,sp as st Q→aq Γ code (frame N.length as) st (ag st Q)) (hpc:c.pc=false:=by rfl) (hhm:c.hm=none:=by rfl):oX P w K mg base CX0 (c.lim+1) f fd ps (au K sp):=by
 refine F.ok S (fun vs H Q E ⟨m,st,as,r1,r2,q⟩=>by rw [←r1.len];exact len as st _ q) fun cdv A outer s H vs Q E hr ⟨m,st',as,r1,r2,q⟩=>?_
 have C:=yK (E:=E) (H:=H) (outer:=outer) (Γ:=Γ) S hN hn hr G (fun z=>by rw [hpc] at z;cases z) fun k z=>by rw [hhm] at z;cases z
 refine ⟨_,n5 C code _ hc,m,frame N.length as,st',tR r1,r2,aH G.mono code ?_ (h as st' _ q)⟩
 exact ⟨fun ρ st2 k m' H' σ' e r f=>kR r2 k m' H' .non e r (R_non.mpr rfl),fun v st2 k=>kR r2 k,fun _ _ k=>k.elim,fun _ _ k=>k.elim⟩
end
noncomputable def je:FSp:=fun as st Q=>∃ns:List Int,as=[.rdl (ns.map PV.int)]∧ns.length≤63∧∀st',Q (.bl true) st'
theorem wa {K:PySem.W.Frag} {m:List Addr} {H:Hp}:∀ {ns:List Int},Rs K m H (ns.map PV.int) (ns.map V.int)
 | []=>by rw [List.map_nil,List.map_nil,Rs_nil]
 | n::ns=>by rw [List.map_cons,List.map_cons,Rs_cons',R_int];exact ⟨rfl,wa⟩
structure Cd (K:PySem.W.Frag) (h:Heap):Prop where
 at_:∀x∈aT,∀c T,PySem.W.tabIn K x=some (c,T)→PySem.W.CodeHd h c T∧h.get? T=some (PySem.W.tabObj #[])
structure Ar (K:PySem.W.Frag):Prop where
 at_:∀x∈aT,∀c T,PySem.W.tabIn K x=some (c,T)→K.lookup T=none∧∀y∈aT,∀d,PySem.W.tabIn K y=some (d,T)→y=x
structure m_ (K:PySem.W.Frag) (mg:Str→Option Value) (base:Heap):Prop where
 hd:∀x∈aT,∀c T,PySem.W.tabIn K x=some (c,T)→PySem.W.CodeHd base c T
 bm:∃bm ob,mg "__builtins__"=some (.ref bm)∧bm≠builtinsNs∧base.get? bm=some ob∧ob.cls=.type "module"∧ob.dict=some builtinsNs∧ob.data=.plain
theorem yM {K:PySem.W.Frag} {H:Hp} {a:Addr} {ns:List Int} (hl:ns.length≤63) (hO:∀ys,H a≠some (.lst ys)) (hS:SqL K H a (ns.map V.int)) (tb:TB K H):au K je [.ref a] H (fun v _=>v=.bl true) fun _ _ _=>False:=by
 have hF:RdF K H a (ns.map V.int):=by
  rcases hS with (h|h)|h
  ·exact absurd h (hO _)
  ·exact .inl h
  ·exact .inr h
 refine ⟨[],[],[.rdl (ns.map PV.int)],?_,⟨rfl,List.nodup_nil,fun n c a h=>by simp at h,tb⟩,ns,rfl,hl,fun st' m' H' x e r s=>R_bl.mp s⟩
 rw [Rs_cons',Rs_nil,eW]
 exact ⟨⟨a,_,rfl,hF,wa⟩,rfl⟩
noncomputable def pL (K:PySem.W.Frag) (b:Addr):Prop:=∃x∈aT,∃c,PySem.W.tabIn K x=some (c,b)
open Classical in
noncomputable def eU (K:PySem.W.Frag) (a:Addr) (scr:Option HO):Hp:=fun b=>if b=a then scr else if pL K b then some (.tbl #[]) else none
theorem wl {P:Program} {w:World} {K:PySem.W.Frag} {mg mb:Str→Option Value} {k:Nat} {fa a:Addr} {fd:FuncData} {x:Str} {s₁:Shared} {vs:List Value} {ns:List Int}
  (KX:K.In s₁.heap) (hns:s₁.heap.Ns mainGlobals mg) (hb:s₁.heap.Ns builtinsNs mb) (hbb:∀x:Str,x≠"__name__"→mb x=bootBuiltins x) (hlim:s₁.heap.NoLimit) (hg:s₁.gens=#[])
  (LT:Cd K s₁.heap) (LK:Ar K) (hbm:∃bm ob,mg "__builtins__"=some (.ref bm)∧bm≠builtinsNs∧s₁.heap.get? bm=some ob∧ob.cls=.type "module"∧ob.dict=some builtinsNs∧ob.data=.plain)
  (ha:s₁.heap.get? a=some { cls:=.type "list",data:=.seq vs.toArray }) (hi:IntsAre vs ns) (hl:ns.length≤63) (hr:Room k callerA)
  (F:∀base:Heap,K.In base→base.Ns mainGlobals mg→m_ K mg base→oX P w K mg base CX0 k fa fd [x] (au K je)) (hbind:∀(s:Shared) (u:Value),BindsTo s fd ⟨[u],[]⟩ [(x,u)]) :
  codeAny (model P w) callerA (.call (.ref fa) ⟨[.ref a],[]⟩) (fun r s'=>r=.ok (.ret (.bool true))∧OldK s₁.heap s'.heap∧s'.os=s₁.os∧AllBare s'.gens) s₁:=by
 have rv:=pS hi
 have lenV:=hi.length
 have hl2:ns.length≤sizeLine:=Nat.le_trans hl (by decide)
 have tabAt:∀ {b:Addr},pL K b→s₁.heap.get? b=some (PySem.W.tabObj #[]):=fun ⟨x,hx,c,e⟩=>(LT.at_ x hx c _ e).2
 have naT:¬pL K a:=fun z=>by have e:=tabAt z;rw [ha] at e;cases e
 have core:∀scr:Option HO,(∀ys,scr≠some (.lst ys))→SqL K (eU K a scr) a (ns.map V.int)→(∀u,scr=some u→(∃o xs,u=.frz o (.lst xs))∧ObjOk P w (eU K a scr) s₁.heap a u)→(scr≠none→K.lookup a=none) →
   codeAny (model P w) callerA (.call (.ref fa) ⟨[.ref a],[]⟩) (fun r s'=>r=.ok (.ret (.bool true))∧OldK s₁.heap s'.heap∧s'.os=s₁.os∧AllBare s'.gens) s₁:=by
  intro scr hscr hS hso hK
  have atA:eU K a scr a=scr:=if_pos rfl
  have atT:∀ {b:Addr},pL K b→eU K a scr b=some (.tbl #[]):=fun {b} z=>by
   have:b≠a:=fun q=>naT (q ▸ z)
   exact (if_neg this).trans (if_pos z)
  have cs:∀b,eU K a scr b≠none→(b=a∧scr≠none)∨pL K b:=fun b z=>by
   by_cases h1:b=a
   ·exact .inl ⟨h1,by rw [h1,atA] at z;exact z⟩
   ·by_cases h2:pL K b
    ·exact .inr h2
    ·exact absurd ((if_neg h1).trans (if_neg h2)) z
  have hok:HOk P w (eU K a scr) s₁.heap:=fun b u e=>by
   rcases cs b (by rw [e];simp) with ⟨rfl,z⟩|z
   ·rw [atA] at e
    exact (hso u e).2
   ·rw [atT z] at e
    cases e
    exact tabAt z
  have base_of:∀ {b:Addr} {o:Obj},s₁.heap.get? b=some o→eU K a scr b=none→(pi s₁.heap (eU K a scr)).get? b=some o:=fun e n=>yq e n
  have noD:∀ {b:Addr} {o:Obj},s₁.heap.get? b=some o→(∀its n,o.data≠.seq its n)→(∀qs,o.data≠.fields qs)→eU K a scr b=none:=fun {b o} e n1 n2=>by
   cases q:eU K a scr b with
   | none=>rfl
   | some u =>
    rcases cs b (by rw [q];simp) with ⟨rfl,_⟩|z
    ·rw [ha] at e;cases e;exact absurd rfl (n1 _ _)
    ·rw [tabAt z] at e;cases e;exact absurd rfl (n2 _)
  have nsK:∀ {b:Addr} {m:Str→Option Value},s₁.heap.Ns b m→(pi s₁.heap (eU K a scr)).Ns b m:=fun {b m} ⟨o,es,ep,e,d,r⟩=>⟨o,es,ep,base_of e (noD e (fun _ _ z=>by rw [d] at z;cases z) fun _ z=>by rw [d] at z;cases z),d,r⟩
  have hKn:∀ {b:Addr} {o:Obj},K.lookup b=some o→eU K a scr b=none:=fun {b o} e=>by
   cases q:eU K a scr b with
   | none=>rfl
   | some u =>
    rcases cs b (by rw [q];simp) with ⟨rfl,z⟩|⟨x,hx,c,z⟩
    ·rw [hK z] at e;cases e
    ·rw [(LK.at_ x hx c _ z).1] at e;cases e
  have hKb:K.In (pi s₁.heap (eU K a scr)):=fun b o e=>base_of (KX b o e) (hKn e)
  have hM:Mod K mg (pi s₁.heap (eU K a scr)):=⟨hKb,nsK hns,⟨mb,nsK hb,hbb⟩,let ⟨mc,h1,h2⟩:=hlim;⟨mc,nsK h1,h2⟩⟩
  have e0:xc P w K mg (pi s₁.heap (eU K a scr)) callerA [] s₁ (eU K a scr):=⟨rfl,hM,fun b o e=>AY e,Nat.le_of_eq (w_ _ _),trivial,fun b hb=>absurd (show b∈([]:List Addr) from hb) (by simp),hok,.of_eq hg⟩
  have hB:m_ K mg (pi s₁.heap (eU K a scr)):=by
   refine ⟨fun x hx c T e=>?_,?_⟩
   ·obtain ⟨o,vs',file,tf,flags,tg,inF,text,tt,q,r⟩:=(LT.at_ x hx c T e).1
    have kc:∃oc,K.lookup c=some oc:=by
     have e':=e
     unfold PySem.W.tabIn at e'
     split at e'
     ·split at e'
      ·split at e'
       ·split at e'
        ·rename_i hh
         split at e'
         ·cases e';exact ⟨_,hh⟩
         ·cases e'
        ·cases e'
       ·cases e'
      ·cases e'
     ·cases e'
    obtain ⟨oc,kc⟩:=kc
    exact ⟨o,vs',file,tf,flags,tg,inF,text,tt,base_of q (hKn kc),r⟩
   ·obtain ⟨bm,ob,b1,b2,b3,b4,b5,b6⟩:=hbm
    exact ⟨bm,ob,b1,b2,base_of b3 (noD b3 (fun _ _ z=>by rw [b6] at z;cases z) fun _ z=>by rw [b6] at z;cases z),b4,b5,b6⟩
  have tb:TB K (eU K a scr):=fun x hx c T e=>⟨(LK.at_ x hx c T e).2,#[],atT ⟨x,hx,c,e⟩,trivial,fun pos cv q=>by cases q⟩
  refine codeAny_mono ((F _ hKb (nsK hns) hB).run callerA [] s₁ (eU K a scr) ⟨[.ref a],[]⟩ [.ref a] [.ref a] _ _ hr e0 (hbind s₁ (.ref a)) (.cons rfl .nil) (yM hl (by rw [atA];exact hscr) hS tb)) fun r s' h=>?_
  cases r with
  | error e=>exact False.elim h
  | ok fl =>
   cases fl with
   | next=>exact False.elim h
   | brk=>exact False.elim h
   | cont=>exact False.elim h
   | ret u =>
    obtain ⟨v,H',os,bare,un,hok',r',q⟩:=h
    have q':v=.bl true:=q
    subst q'
    obtain rfl:u=Value.bool true:=r'
    refine ⟨rfl,⟨fun b o e=>?_,fun b o e=>un.there b o e (by simp)⟩,os,bare⟩
    cases q:eU K a scr b with
    | none=>exact .inl (un.keep b o e q (by intro z;exact absurd (show b∈([]:List Addr) from z) (by simp)) (by simp))
    | some u =>
     rcases cs b (by rw [q];simp) with ⟨rfl,z⟩|z
     ·rw [atA] at q
      obtain ⟨⟨ob,xs,rfl⟩,_⟩:=hso u q
      have z1:eU K b scr b=some (.frz ob (.lst xs)):=by rw [atA];exact q
      have z2:=un.frzs b ob _ z1
      obtain ⟨e1,_⟩:=hok b _ z1
      obtain ⟨e2,_⟩:=hok' b _ z2
      rw [e] at e1;cases e1
      exact .inl e2
     ·obtain ⟨more,z2⟩:=un.tbls b _ (atT z)
      have e1:=tabAt z
      rw [e] at e1
      cases e1
      have e2:s'.heap.get? b=some { cls:=.none,data:=.fields (#[]++more) }:=hok' b _ z2
      obtain ⟨x,hx,c,et⟩:=z
      have ht0:=(LT.at_ x hx c b et)
      exact .inr (.inl ⟨(ht0.1.tab ht0.2).isCodeTable,rfl,#[],more,rfl,e2⟩)
 cases hk:K.lookup a with
 | some o =>
  have e:=KX a o hk
  rw [ha] at e
  cases e
  refine core none (fun _ z=>nomatch z) (.inr ⟨_,vs.toArray,_,hk,rfl,rfl,rfl,by rw [List.size_toArray,lenV];exact hl2,by simpa using rv⟩) (fun u z=>nomatch z) fun z=>absurd rfl z
 | none =>
  refine core (some (.frz { cls:=.type "list",data:=.seq vs.toArray } (.lst (ns.map V.int)))) (fun _ z=>nomatch z) (.inl (.inr ⟨{ cls:=.type "list",data:=.seq vs.toArray },if_pos rfl⟩)) (fun u z=>?_) fun _=>hk
  cases z
  exact ⟨⟨_,_,rfl⟩,ha,by rw [List.length_map];exact hl2,vs,_,rv,ha⟩
theorem walkF {l:PySem.W.OpenLaw} {q:Program} {loose:List Str} {XP:(Str→Option Value)→Heap→Prop} {YP:World→Heap→Prop} {d:DefRec} {K:Params→PySem.W.Frag} {k:Nat} {x:Str} (hn:l.most=some 63) (hdf:d.params.defaults=[]) (hr:Room k callerA)
  (hY:∀(w:World) (h:Heap),YP w h→(K w.params).In h)
  (F:∀(w:World) (mg:Str→Option Value) (fa:Addr) (h:Heap),(K w.params).In h→h.Ns mainGlobals mg→mg d.name=some (.ref fa) →
   ∃fd:FuncData,(∀(s:Shared) (u:Value),BindsTo s fd ⟨[u],[]⟩ [(x,u)])∧Ar (K w.params)∧(∀x∈aT,PySem.W.tabIn (K w.params) x=none∨∃d,(recsOf q).find? (fun e=>e.name == x)=some d)∧∀base:Heap,(K w.params).In base→base.Ns mainGlobals mg→m_ (K w.params) mg base→oX l.prog w (K w.params) mg base CX0 k fa fd [x] (au (K w.params) je)) :
  PySem.W.WalkO q loose XP YP l.row.toRowW d [] (fun f vs=>PySem.call f vs):=by
 refine Att.attach_call hn hdf fun w s₀ s₁ mg mb fa o pm cd doc a vs ns G Y ho hd hcd hmg hobj hints hlen hg=>?_
 have KX:=hY w _ Y
 obtain ⟨fd,hb,hK,hq,hF⟩:=F w mg fa _ KX G.T.g hmg
 refine wl KX G.T.g G.T.b G.T.builtins G.T.nolimit hg ⟨fun x hx c T e=>?_⟩ hK G.T.bmain hobj hints hlen hr hF hb
 rcases hq x hx with z|⟨d,r⟩
 ·rw [z] at e;cases e
 ·exact PySem.W.tab_of G.T KX r e
theorem Sub.refl (st:AH):Sub st st:=fun i _=>.inl rfl
theorem Sub.set {st st':AH} {n:Nat} {c:Cell} (h:Sub st st') (hc:c.bel 0=true):Sub st (st'.set n c):=fun i hi=>by
 by_cases e:n=i
 ·subst e
  by_cases hl:n<st'.length
  ·exact .inr ⟨c,List.getElem?_set_self hl,hc⟩
  ·rw [List.set_eq_of_length_le (by omega)]
   exact h n hi
 ·rw [List.getElem?_set_ne e]
  exact h i hi
theorem Tmp.same {st:AH} {Q:EK} {v:PV} (h:v.bel st.length=true) (q:Q v st):Tmp st Q v st:=⟨st,[],by simp,rfl,Sub.refl st,h,q⟩
theorem Tmp.app {st g:AH} {Q:EK} {v:PV} (h:v.bel st.length=true) (q:Q v st):Tmp st Q v (st++g):=⟨st,g,rfl,rfl,Sub.refl st,h,q⟩
theorem Ret.all {st st':AH} {Q:EK} {v:PV} (q:Q v st'):Ret st Q v st':=.inl q
theorem Ret.cut {st st':AH} {Q:EK} {v:PV} (q:Tmp st Q v st'):Ret st Q v st':=.inr q
theorem ar1 {P:List Value→Prop} (h:∀a,P [a]) (us:List Value) (hl:us.length=1):P us:=by
 match us,hl with
 | [a],_=>exact h a
theorem ar2 {P:List Value→Prop} (h:∀a b,P [a,b]) (us:List Value) (hl:us.length=2):P us:=by
 match us,hl with
 | [a,b],_=>exact h a b
theorem ar3 {P:List Value→Prop} (h:∀a b c,P [a,b,c]) (us:List Value) (hl:us.length=3):P us:=by
 match us,hl with
 | [a,b,c],_=>exact h a b c
theorem ar4 {P:List Value→Prop} (h:∀a b c d,P [a,b,c,d]) (us:List Value) (hl:us.length=4):P us:=by
 match us,hl with
 | [a,b,c,d],_=>exact h a b c d
end FW
set_option Elab.async false
set_option linter.all false
set_option maxRecDepth 100000
set_option maxHeartbeats 1000000
namespace FW
open PySem PySem.Spec PyProof.Rows L2 HX
section
variable {P:Program} {w:World} {K:PySem.W.Frag} {mg:Str→Option Value} {base:Heap} {c:Cfg} {Γ:Nat→FSp}
theorem vb {x:Str} (z:PySem.W.nsIn K mainGlobals x=some none):PySem.W.tabIn K x=none:=by
 unfold PySem.W.tabIn
 rw [z]
theorem zJ (h:∀x∈aT,PySem.W.tabIn K x=none∨∃c T,PySem.W.tabIn K x=some (c,T)∧K.lookup T=none∧∀y∈aT,y≠x→∀d,PySem.W.tabIn K y≠some (d,T)):Ar K:=⟨fun x hx c T e=>by
 rcases h x hx with z|⟨c',T',z,n,u⟩
 ·rw [z] at e;cases e
 ·rw [z] at e
  cases e
  exact ⟨n,fun y hy d ed=>Classical.byContradiction fun q=>u y hy q d ed⟩⟩
end
end FW
set_option Elab.async false
set_option linter.all false
set_option maxRecDepth 100000
set_option maxHeartbeats 1000000
namespace FW
open PySem PySem.Spec PyProof.Rows L2 HX
section
variable {Γ:Nat→FSp} {ρ:Fr} {st:AH} {Q:EK} {D:aS} {a b c:E} {es:Es}
noncomputable def aft (Γ:Nat→FSp) (ss:Ss) (D:aS):aS:={ D with nx:=fun ρ' st'=>aq Γ ss ρ' st' D }
noncomputable def LD (I:Fr→AH→Prop) (D:aS):aS:={ nx:=I,ct:=I,bk:=D.nx,rt:=D.rt }
noncomputable def DL (Γ:Nat→FSp) (t:Tg) (b:Ss) (chk:AH→Prop) (D:aS) (xs:List PV) (ρ:Fr) (st:AH):Prop:=rC chk (fun x ρ' st' D'=>di Γ t x ρ' st' fun ρ2 st2=>aq Γ b ρ2 st2 D') D xs ρ st
noncomputable def CO (Γ:Nat→FSp) (c:E) (b:Ss) (D:aS) (ρ:Fr) (st:AH):Prop:=∃n,eG (wpT Γ c) (aq Γ b) D n ρ st
noncomputable def xv (Γ:Nat→FSp) (elt:E) (tg:Tg) (ifs:Es) (chk:AH→Prop) (ρ:Fr) (xs:List PV) (st:AH) (Q:LK):Prop :=
 eE chk (fun x st2 k=>di Γ tg x ρ st2 fun ρ' st3=>iq Γ ifs ρ' st3 fun c st4=>if c=true then wpE Γ elt ρ' st4 fun v st5=>k (some v) st5 else k none st4) xs [] st Q
theorem gD {ss:Ss}:(aft Γ ss D).nx ρ st=aq Γ ss ρ st D:=rfl
theorem fT {ss:Ss} {v:PV}:(aft Γ ss D).rt v st=D.rt v st:=rfl
theorem gL {ss:Ss}:(aft Γ ss D).bk ρ st=D.bk ρ st:=rfl
theorem gK {ss:Ss}:(aft Γ ss D).ct ρ st=D.ct ρ st:=rfl
theorem ee {ss:Ss}:(aft Γ ss D).rt=D.rt:=rfl
theorem li {I:Fr→AH→Prop}:(LD I D).nx ρ st=I ρ st:=rfl
theorem kJ {I:Fr→AH→Prop}:(LD I D).ct ρ st=I ρ st:=rfl
theorem lf {I:Fr→AH→Prop}:(LD I D).bk ρ st=D.nx ρ st:=rfl
theorem ky {I:Fr→AH→Prop} {v:PV}:(LD I D).rt v st=D.rt v st:=rfl
theorem g_ {I:Fr→AH→Prop}:(LD I D).rt=D.rt:=rfl
theorem kO {st0:AH}:(ag st0 Q).nx ρ st=Ret st0 Q .non st:=rfl
theorem kQ {st0:AH} {v:PV}:(ag st0 Q).rt v st=Ret st0 Q v st:=rfl
theorem hW {st0:AH}:(ag st0 Q).rt=Ret st0 Q:=rfl
theorem dR {s s2:S} {ss:Ss}:aq Γ (.cons s (.cons s2 ss)) ρ st D=wpS Γ s ρ st (aft Γ (.cons s2 ss) D):=rfl
theorem d5 {x:Ss}:wpS Γ (.whileS c x) ρ st D=CO Γ c x D ρ st:=rfl
theorem kq {t:Tg} {it:It} {x:Ss}:wpS Γ (.forS t it x) ρ st D=jr Γ it ρ st fun xs chk st1=>DL Γ t x chk D xs ρ st1:=rfl
theorem gk {tg:Tg} {it:It} {ifs:Es} {nt:List Str} {caps:List Nat}:wpE Γ (.comp a tg it ifs nt caps) ρ st Q=jr Γ it ρ st fun xs chk st1 =>
  xs.length<100000∧xv Γ a tg ifs chk (nt.map (fun _=>none)++caps.map fun i=>(ρ[i]?).join) xs st1 fun vs st2=>Q (.ref st2.length) (st2++[.lst vs]):=rfl
theorem e8 (G:bq Γ) {t:Tg} {b:Ss} {chk:AH→Prop} {D:aS} (I:Nat→Fr→AH→Prop) {xs:List PV} {ρ:Fr} {st:AH} (h0:I 0 ρ st)
  (hs:∀i x ρ st,xs[i]?=some x→I i ρ st→chk st∧di Γ t x ρ st (fun ρ2 st2=>aq Γ b ρ2 st2 (LD (I (i+1)) D)))
  (hd:∀ρ st,I xs.length ρ st→chk st∧D.nx ρ st):DL Γ t b chk D xs ρ st:=by
 have key:∀(k i:Nat) (ρ:Fr) (st:AH),i+k=xs.length→I i ρ st→rC chk (fun x ρ' st' D'=>di Γ t x ρ' st' fun ρ2 st2=>aq Γ b ρ2 st2 D') D (xs.drop i) ρ st:=by
  intro k
  induction k with
  | zero =>
   intro i ρ st hi h
   have:i=xs.length:=by omega
   subst this
   rw [List.drop_length]
   exact hd ρ st h
  | succ k ih =>
   intro i ρ st hi h
   have hlt:i<xs.length:=by omega
   rw [List.drop_eq_getElem_cons hlt]
   obtain ⟨h1,h2⟩:=hs i xs[i] ρ st (by simp [hlt]) h
   refine ⟨h1,aP G t (fun ρ2 st2 k2=>aH G b ?_ k2) h2⟩
   exact ⟨fun ρ3 st3 z=>ih (i+1) ρ3 st3 (by omega) z,fun _ _ z=>z,fun _ _ z=>z,fun ρ3 st3 z=>ih (i+1) ρ3 st3 (by omega) z⟩
 have:=key xs.length 0 ρ st (by omega) h0
 rwa [List.drop_zero] at this
theorem iT {c:Fr→AH→BK→Prop} {body:Fr→AH→aS→Prop} {D:aS} (hc:∀ρ st Q Q',(∀b st,Q b st→Q' b st)→c ρ st Q→c ρ st Q') (hb:∀ρ st D D',lF D D'→body ρ st D→body ρ st D') :
  ∀ {n k:Nat} {ρ:Fr} {st:AH},n≤k→eG c body D n ρ st→eG c body D k ρ st
 | 0,k,ρ,st,_,h=>h.elim
 | n+1,0,ρ,st,hk,h=>absurd hk (by omega)
 | n+1,k+1,ρ,st,hk,h=>by
  refine hc _ _ _ _ (fun b st1 z=>?_) h
  cases b with
  | false=>exact z
  | true =>
   rw [if_pos rfl] at z ⊢
   refine hb _ _ _ _ ?_ z
   exact ⟨fun _ _ z=>iT hc hb (by omega) z,fun _ _ z=>z,fun _ _ z=>z,fun _ _ z=>iT hc hb (by omega) z⟩
theorem sP (G:bq Γ) {c:E} {b:Ss} {D:aS} (I:Nat→Fr→AH→Prop) {n:Nat} {ρ:Fr} {st:AH} (h0:I n ρ st)
  (hs:∀n ρ st,I n ρ st→wpT Γ c ρ st (fun k st1=>if k=true then aq Γ b ρ st1 (LD (fun ρ' st'=>∃m,m<n∧I m ρ' st') D) else D.nx ρ st1)):CO Γ c b D ρ st:=by
 have hc:∀ρ st Q Q',(∀b st,Q b st→Q' b st)→wpT Γ c ρ st Q→wpT Γ c ρ st Q':=fun _ _ _ _ hk z=>aB G c hk z
 have hb:∀ρ st D D',lF D D'→aq Γ b ρ st D→aq Γ b ρ st D':=fun _ _ _ _ hk z=>aH G b hk z
 have key:∀(k n:Nat),n<k→∀(ρ:Fr) (st:AH),I n ρ st→eG (wpT Γ c) (aq Γ b) D (n+1) ρ st:=by
  intro k
  induction k with
  | zero=>intro n hn;exact absurd hn (by omega)
  | succ k ih =>
   intro n hn ρ st h
   refine hc _ _ _ _ (fun q st1 z=>?_) (hs n ρ st h)
   cases q with
   | false=>exact z
   | true =>
    rw [if_pos rfl] at z ⊢
    refine hb _ _ _ _ ?_ z
    exact ⟨fun ρ' st' ⟨m,hm,z⟩=>iT hc hb (by omega) (ih m (by omega) ρ' st' z),fun _ _ z=>z,fun _ _ z=>z,fun ρ' st' ⟨m,hm,z⟩=>iT hc hb (by omega) (ih m (by omega) ρ' st' z)⟩
 exact ⟨_,key (n+1) n (by omega) ρ st h0⟩
end
section
variable {Γ:Nat→FSp}
theorem sI (G:bq Γ) {elt:E} {tg:Tg} {ifs:Es} {chk:AH→Prop} {ρ:Fr} {xs:List PV} {st:AH} {Q:LK} (I:Nat→List PV→AH→Prop) (h0:I 0 [] st)
  (hs:∀i x acc st,xs[i]?=some x→I i acc st→chk st∧di Γ tg x ρ st fun ρ' st3=>iq Γ ifs ρ' st3 fun c st4=>if c=true then wpE Γ elt ρ' st4 fun v st5=>I (i+1) (acc++[v]) st5 else I (i+1) acc st4)
  (hd:∀acc st,I xs.length acc st→chk st∧Q acc st):xv Γ elt tg ifs chk ρ xs st Q:=by
 have key:∀(k i:Nat) (acc:List PV) (st:AH),i+k=xs.length→I i acc st→eE chk (e6 Γ elt tg ifs ρ) (xs.drop i) acc st Q:=by
  intro k
  induction k with
  | zero =>
   intro i acc st hi h
   have:i=xs.length:=by omega
   subst this
   rw [List.drop_length]
   exact hd acc st h
  | succ k ih =>
   intro i acc st hi h
   have hlt:i<xs.length:=by omega
   rw [List.drop_eq_getElem_cons hlt]
   obtain ⟨h1,h2⟩:=hs i xs[i] acc st (by simp [hlt]) h
   refine ⟨h1,aP G tg (fun ρ2 st2 k2=>bU G ifs (fun c st4 k4=>?_) k2) h2⟩
   cases c with
   | true=>rw [if_pos rfl] at k4 ⊢;exact ab G elt (fun v st5 z=>ih (i+1) _ st5 (by omega) z) k4
   | false=>rw [if_neg Bool.false_ne_true] at k4 ⊢;simpa using ih (i+1) _ st4 (by omega) k4
 have:=key xs.length 0 [] st (by omega) h0
 rw [List.drop_zero] at this
 exact this
theorem comp_map (G:bq Γ) {elt:E} {i:Nat} {chk:AH→Prop} {ρ:Fr} {xs:List PV} {st:AH} {Q:LK} (f:PV→PV) (hc:chk st) (hs:∀x∈xs,wpE Γ elt (ρ.set i (some x)) st fun v st'=>v=f x∧st'=st) (q:Q (xs.map f) st):xv Γ elt (.name i) .nil chk ρ xs st Q:=by
 refine sI G (fun j acc s=>s=st∧acc=(xs.take j).map f) ⟨rfl,by simp⟩ ?_ ?_
 ·rintro j x acc s hx ⟨rfl,rfl⟩
  refine ⟨hc,?_⟩
  simp only [bZ,fe]
  rw [if_pos trivial]
  refine ab G elt (fun v st5 z=>?_) (hs x (List.mem_of_getElem? hx))
  obtain ⟨rfl,rfl⟩:=z
  refine ⟨rfl,?_⟩
  rw [List.take_add_one,hx]
  simp
 ·rintro acc s ⟨rfl,rfl⟩
  rw [List.take_length]
  exact ⟨hc,q⟩
end
section
variable {st:AH} {Q:EK} {i j:Int} {n k:Nat} {xs ys:List PV} {x y v:PV} {b b':Bool} {s s':Str} {kB:Bool→Prop} {BQ:BK}
theorem lr:i6 .Add (.int i) (.int j) st Q=Q (.int (i+j)) st:=rfl
theorem jJ:i6 .Sub (.int i) (.int j) st Q=Q (.int (i-j)) st:=rfl
theorem kd:i6 .Mult (.int i) (.int j) st Q=(CMB i j∧Q (.int (i*j)) st):=rfl
theorem kU:i6 .FloorDiv (.int i) (.int j) st Q=(CBig j∧Q (.int (i/j)) st):=rfl
theorem kl:i6 .Mod (.int i) (.int j) st Q=(0<j∧Q (.int (i % j)) st):=rfl
theorem lP:i6 .Pow (.int i) (.int j) st Q=(vc i j∧Q (.int (i ^ j.toNat)) st):=rfl
theorem fG:i6 .Add (.ref n) (.ref k) st Q=∃xs ys,st[n]?=some (.lst xs)∧st[k]?=some (.lst ys)∧xs.length+ys.length≤100000∧Q (.ref st.length) (st++[.lst (xs++ys)]):=rfl
theorem fP:i6 .Mult (.ref n) (.int i) st Q=∃xs,st[n]?=some (.lst xs)∧-(2 ^ 63)≤i∧i<2 ^ 63∧xs.length*i.toNat≤100000∧Q (.ref st.length) (st++[.lst (List.replicate i.toNat xs).flatten]):=rfl
theorem fK {a b:Str}:i6 .Add (.str a) (.str b) st Q=(a.length+b.length≤100000∧Q (.str (a++b)) st):=rfl
theorem gO:i6 .Add (.tup xs) (.tup ys) st Q=(xs.length+ys.length≤100000∧Q (.tup (xs++ys)) st):=rfl
theorem qQ:dE .Eq x y st Q=eqW st x y fun k=>Q (.bl k) st:=rfl
theorem rY:dE .NotEq x y st Q=eqW st x y fun k=>Q (.bl (!k)) st:=rfl
theorem jW:dE .Is x .non st Q=Q (.bl (iQ x)) st:=rfl
theorem kA:dE .Is x (.bl b) st Q=Q (.bl (mI b x)) st:=rfl
theorem gC:dE .IsNot x .non st Q=Q (.bl (!iQ x)) st:=rfl
theorem gR:dE .IsNot x (.bl b) st Q=Q (.bl (!mI b x)) st:=rfl
theorem rJ:dE .Lt (.int i) (.int j) st Q=Q (.bl (decide (i<j))) st:=rfl
theorem sk:dE .LtE (.int i) (.int j) st Q=Q (.bl (decide (i≤j))) st:=rfl
theorem sv:dE .Gt (.int i) (.int j) st Q=Q (.bl (decide (j<i))) st:=rfl
theorem sy:dE .GtE (.int i) (.int j) st Q=Q (.bl (decide (j≤i))) st:=rfl
theorem jE:eqW st (.int i) (.int j) kB=kB (decide (i=j)):=rfl
theorem kI:eqW st (.bl b) (.bl b') kB=kB (decide (b=b')):=rfl
theorem jC:eqW st (.str s) (.str s') kB=kB (decide (s=s')):=rfl
theorem ci:iQ .non=true:=rfl
theorem cZ:iQ (.bl b)=false:=rfl
theorem b8:iQ (.int i)=false:=rfl
theorem b7:iQ (.str s)=false:=rfl
theorem b9:iQ (.tup xs)=false:=rfl
theorem b_:iQ (.ref n)=false:=rfl
theorem d9:mI true (.bl true)=true:=rfl
theorem dQ:mI true (.bl false)=false:=rfl
theorem dZ:mI false (.bl true)=false:=rfl
theorem dO:mI false (.bl false)=true:=rfl
theorem cP:mI b (.int i)=false:=rfl
theorem cU:mI b .non=false:=rfl
theorem cL:mI b (.tup xs)=false:=rfl
theorem bT:bj st (.tup xs)=some xs:=rfl
theorem cb:bj st (.rdl xs)=some xs:=rfl
theorem bA:bK st (.rdl xs)=some xs:=rfl
theorem bh (h:st[n]?=some (.lst xs)):bK st (.ref n)=some xs:=by simp [bK,h]
theorem ad (h:st[n]?=some (.lst xs)):bj st (.ref n)=some xs:=by simp [bj,bK,h]
theorem bX:eD st .non=some "NoneType":=rfl
theorem c_:eD st (.bl b)=some "bool":=rfl
theorem ca:eD st (.int i)=some "int":=rfl
theorem bW:eD st (.str s)=some "str":=rfl
theorem ce:eD st (.tup xs)=some "tuple":=rfl
theorem cg:eD st (.rdl xs)=some "list":=rfl
theorem kf {z:Str}:ixW (.str z) (.int i) st Q=(z.length≤100000∧∃c,atI z.cps.toList i=some c∧Q (.str ⟨#[c]⟩) st):=rfl
theorem ke:ixW (.tup xs) (.int i) st Q=∃v,atI xs i=some v∧Q v st:=propext ⟨fun ⟨ys,e,q⟩=>by cases e;exact q,fun q=>⟨xs,rfl,q⟩⟩
theorem kC:ixW (.rdl xs) (.int i) st Q=∃v,atI xs i=some v∧Q v st:=propext ⟨fun ⟨ys,e,q⟩=>by cases e;exact q,fun q=>⟨xs,rfl,q⟩⟩
theorem j6:ixW (.ref n) (.int i) st Q=∃xs,bj st (.ref n)=some xs∧∃v,atI xs i=some v∧Q v st:=rfl
theorem iy:atI (x::xs) 0=some x:=fF (j:=0) rfl
theorem ie:atI (x::y::xs) 1=some y:=fF (j:=1) rfl
theorem lh:atI (x::y::v::xs) 2=some v:=fF (j:=2) rfl
theorem j9 {u:PV}:atI (x::y::v::u::xs) 3=some u:=fF (j:=3) rfl
theorem lD {lo hi:Option Int}:slW (.tup xs) lo hi st Q=Q (.tup (iR xs lo hi)) st:=rfl
theorem kg {lo hi:Option Int}:slW (.rdl xs) lo hi st Q=Q (.ref st.length) (st++[.lst (iR xs lo hi)]):=by simp [slW,bK]
theorem kG {lo hi:Option Int} {z:Str}:slW (.str z) lo hi st Q=(z.length≤100000∧Q (.str (AX z lo hi)) st):=rfl
theorem lc {lo hi:Option Int}:slW (.ref n) lo hi st Q=∃xs,bK st (.ref n)=some xs∧Q (.ref st.length) (st++[.lst (iR xs lo hi)]):=rfl
theorem fD {z:Str}:fA .len [.str z] st Q=(z.length≤100000∧Q (.int z.length) st):=rfl
theorem sg {a b:Str}:dE .In (.str a) (.str b) st Q=Q (.bl (!(Builtin.Str.occurrences b a 0 b.length 1).isEmpty)) st:=rfl
theorem lu:dE .In (.int i) (.tup xs) st Q=∃ns:List Int,xs=ns.map PV.int∧Q (.bl (ns.any fun j=>j == i)) st:=rfl
theorem jV:dE .NotIn (.int i) (.tup xs) st Q=∃ns:List Int,xs=ns.map PV.int∧Q (.bl (!(ns.any fun j=>j == i))) st:=rfl
theorem kD {a:Str}:dE .In (.str a) (.tup xs) st Q=∃ns:List Str,xs=ns.map PV.str∧Q (.bl (ns.any fun j=>j == a)) st:=rfl
theorem jP {a:Str}:dE .NotIn (.str a) (.tup xs) st Q=∃ns:List Str,xs=ns.map PV.str∧Q (.bl (!(ns.any fun j=>j == a))) st:=rfl
theorem km {a:Str}:dE .In (.str a) (.ref n) st Q=inR a n st fun k=>Q (.bl k) st:=rfl
theorem kW {a:Str}:dE .NotIn (.str a) (.ref n) st Q=inR a n st fun k=>Q (.bl (!k)) st:=rfl
theorem kz {z:Str}:ixW (.ref n) (.str z) st Q=∃kvs v,st[n]?=some (.dk kvs)∧mv kvs (.inr z)=some v∧Q v st:=rfl
theorem gA {kS:AH→Prop} {z:Str}:rZ (.ref n) (.str z) v st kS=∃kvs,st[n]?=some (.dk kvs)∧kvs.length≤1000∧kS (st.set n (.dk (ze kvs (.inr z) v))):=rfl
theorem fJ:fA .len [.tup xs] st Q=Q (.int xs.length) st:=propext ⟨fun ⟨ys,e,q⟩=>by cases e;exact q,fun q=>⟨xs,rfl,q⟩⟩
theorem ib:fA .len [.rdl xs] st Q=Q (.int xs.length) st:=propext ⟨fun ⟨ys,e,q⟩=>by cases e;exact q,fun q=>⟨xs,rfl,q⟩⟩
theorem gm:fA .len [.ref n] st Q=∃xs,bj st (.ref n)=some xs∧Q (.int xs.length) st:=rfl
theorem j8:fA .max2 [.int i,.int j] st Q=Q (.int (if i<j then j else i)) st:=rfl
theorem kh:fA .min2 [.int i,.int j] st Q=Q (.int (if j<i then j else i)) st:=rfl
theorem cQ:fA .divmod [.int i,.int j] st Q=(CBig j∧Q (.tup [.int (i/j),.int (i % j)]) st):=rfl
theorem f_:fA .tuple1 [.tup xs] st Q=Q (.tup xs) st:=propext ⟨fun ⟨ys,e,q⟩=>by cases e;exact q,fun q=>⟨xs,rfl,q⟩⟩
theorem gI:fA .tuple1 [.ref n] st Q=∃xs,bj st (.ref n)=some xs∧Q (.tup xs) st:=rfl
theorem cS:sr .insert (.ref n) [.int i,v] st Q=∃xs,st[n]?=some (.lst xs)∧xs.length<100000∧0≤i∧i≤xs.length∧Q .non (st.set n (.lst (xs.take i.toNat++v::xs.drop i.toNat))):=rfl
theorem kK:fA .abs1 [.int i] st Q=Q (.int i.natAbs) st:=rfl
theorem jR:sr .append (.ref n) [v] st Q=∃xs,st[n]?=some (.lst xs)∧xs.length<100000∧Q .non (st.set n (.lst (xs++[v]))):=rfl
theorem lw:sr .pop0 (.ref n) [] st Q=∃xs v,st[n]?=some (.lst xs)∧xs[xs.length-1]?=some v∧Q v (st.set n (.lst xs.dropLast)):=rfl
theorem q9:e_ (.bl b) st BQ=BQ b st:=rfl
theorem rj:e_ .non st BQ=BQ false st:=rfl
theorem qZ:e_ (.int i) st BQ=BQ (i != 0) st:=rfl
theorem rl:e_ (.tup xs) st BQ=BQ (!xs.isEmpty) st:=by simp [e_,bj]
theorem sD:e_ (.ref n) st BQ=∃xs,bj st (.ref n)=some xs∧BQ (!xs.isEmpty) st:=rfl
theorem ka {kS:AH→Prop}:rZ (.ref n) (.int j) v st kS=∃xs,st[n]?=some (.lst xs)∧∃q,ixN xs.length j=some q∧kS (st.set n (.lst (xs.set q v))):=rfl
theorem gu:pD .Add (.int i) (.int j) st Q=Q (.int (i+j)) st:=rfl
theorem g9:pD .Add (.ref n) (.ref k) st Q=∃xs ys,st[n]?=some (.lst xs)∧st[k]?=some (.lst ys)∧xs.length+ys.length≤100000∧Q (.ref n) (st.set n (.lst (xs++ys))):=rfl
theorem gT:pD .Sub (.int i) (.int j) st Q=Q (.int (i-j)) st:=rfl
end
theorem fZ:((0:Nat):Int)=0:=rfl
theorem fS:((1:Nat):Int)=1:=rfl
theorem hV:((2:Nat):Int)=2:=rfl
theorem fU:((3:Nat):Int)=3:=rfl
theorem fE:((4:Nat):Int)=4:=rfl
theorem gw:((5:Nat):Int)=5:=rfl
theorem ic:((6:Nat):Int)=6:=rfl
theorem aZ {s g:AH} {k:Nat}:(s++g)[s.length+k]?=g[k]?:=by
 rw [List.getElem?_append_right (Nat.le_add_right _ _),Nat.add_sub_cancel_left]
theorem ck {s g:AH}:(s++g)[s.length]?=g[0]?:=aZ (k:=0)
theorem aR {st:AH} {c:Cell}:(st++[c])[st.length]?=some c:=by simp
theorem ak {st g:AH} {n:Nat} {c:Cell} (h:st[n]?=some c):(st++g)[n]?=some c:=by
 rw [List.getElem?_append_left (List.getElem?_eq_some_iff.mp h).1]
 exact h
theorem cI {st:AH} {n:Nat} {c:Cell} (h:st[n]?=some c):n<st.length:=(List.getElem?_eq_some_iff.mp h).1
end FW
set_option Elab.async false
set_option linter.all false
set_option maxRecDepth 100000
set_option maxHeartbeats 4000000
namespace My
open PySem L2 HX FW
noncomputable def top (i:Nat):Stmt:=PySem.Challenge.pw_hourstairs_k31_offered_and_set_out.main.body.getD i (.Pass ⟨0,0,0,0⟩)
theorem mY {n d:Nat} (h:0<d) (h2:d<2 ^ 8000):CBig (Nat.gcd n d:Nat):=by
 have h3:0<Nat.gcd n d:=Nat.gcd_pos_of_pos_right _ h
 have h4:Nat.gcd n d≤d:=Nat.gcd_le_right _ h
 refine ⟨by omega,?_⟩
 have h5:((Nat.gcd n d:Nat):Int).natAbs=Nat.gcd n d:=rfl
 rw [h5]
 have:Nat.gcd n d<2 ^ 8000:=Nat.lt_of_le_of_lt h4 h2
 have:=(Nat.log2_lt (by omega)).mpr this
 omega
noncomputable abbrev pc (q r:Int):Cell:=.lst [.int q,.int r]
theorem CA {q r:Int} {k:Nat}:(pc q r).bel k=true:=by simp [pc,Cell.bel,PV.bels,PV.bel]
theorem Dw:vc 10 18:=⟨by decide,by decide,by decide⟩
theorem v9 {j:Int} (h:0<j) (h2:j<2 ^ 200):CBig j:=CBig.of h (Int.lt_of_lt_of_le h2 (by
 have:((2:Int) ^ 200)=((2 ^ 200:Nat):Int):=by rw [Int.natCast_pow];rfl
 have e2:((2:Int) ^ 8999)=((2 ^ 8999:Nat):Int):=by rw [Int.natCast_pow];rfl
 rw [this,e2]
 exact Int.ofNat_le.mpr (Nat.pow_le_pow_right (by decide) (by decide))))
theorem i_ {i j:Int} (h1:-(2 ^ 64)<i) (h2:i<2 ^ 64):CMB i j:=.inr (.inl ⟨h1,h2⟩)
theorem t5 {i j:Int} (h1:-(2 ^ 64)<j) (h2:j<2 ^ 64):CMB i j:=.inr (.inr ⟨h1,h2⟩)
theorem yR {ns:List Int} {k:Nat} (h:k<ns.length):atI (ns.map PV.int) (k:Int)=some (.int (ns.getD k 0)):=by
 refine fF ?_
 rw [List.getElem?_map,List.getD_eq_getElem?_getD,List.getElem?_eq_getElem h]
 rfl
theorem CV:(10:Nat) ^ 12<2 ^ 8000:=Nat.lt_of_lt_of_le (by decide:(10:Nat) ^ 12<2 ^ 64) (Nat.pow_le_pow_right (by decide) (by decide))
theorem AK {n d:Nat} (h:0<d):Nat.gcd (n/Nat.gcd n d) (d/Nat.gcd n d)=1:=Nat.gcd_div_gcd_div_gcd_of_pos_right h
theorem z_ {n d:Nat} (h:0<d):0<d/Nat.gcd n d:=Nat.div_pos (Nat.gcd_le_right _ h) (Nat.gcd_pos_of_pos_right _ h)
theorem vn (n d:Nat):n/Nat.gcd n d*d=n*(d/Nat.gcd n d):=by
 obtain ⟨a,ha⟩:=Nat.gcd_dvd_left n d
 obtain ⟨b,hb⟩:=Nat.gcd_dvd_right n d
 by_cases h:Nat.gcd n d=0
 ·rw [h,Nat.div_zero,Nat.div_zero,Nat.zero_mul,Nat.mul_zero]
 ·have e1:n/Nat.gcd n d=a:=by rw [Nat.div_eq_of_eq_mul_right (by omega) ha]
  have e2:d/Nat.gcd n d=b:=by rw [Nat.div_eq_of_eq_mul_right (by omega) hb]
  rw [e1,e2]
  generalize Nat.gcd n d=g at *
  subst ha hb
  rw [←Nat.mul_assoc,Nat.mul_comm a g]
theorem nP {n i:Nat} {v:PV} (h:(df 0 ((n:Int).toNat))[i]?=some v):v=.int i∧i<n:=by
 unfold df at h
 rw [List.getElem?_map] at h
 have hi:i<n:=by
  by_cases hi:i<n
  ·exact hi
  ·rw [List.getElem?_eq_none (by simp;omega)] at h;cases h
 rw [List.getElem?_range (by simpa using hi)] at h
 cases h
 exact ⟨by simp,hi⟩
theorem pG {st:AH} {a b:Int}:rO st (.tup [.int a,.int b])=some (.tuple [.int a,.int b]):=by simp [rO,PV.toD,PV.toDs]
theorem mH (a b:Int):SeqAt.shaped (.tuple [.int a,.int b])=true:=by
 simp [SeqAt.shaped,PyData.canLay0,PyData.canLayAll0,PyData.depth,PyData.depthAll]
theorem yC (a b c d:Int):PyData.eqv (.tuple [.int a,.int b]) (.tuple [.int c,.int d])=(decide (a=c) && decide (b=d)):=by
 simp [PyData.eqv,PyData.eqvAll,Bool.beq_eq_decide_eq]
theorem xF {st:AH} {a b c d:Int} {k:Bool→Prop} (h:k (decide (a=c) && decide (b=d))):eqW st (.tup [.int a,.int b]) (.tup [.int c,.int d]) k :=
 ⟨_,_,pG,pG,mH _ _,mH _ _,by rw [yC];exact h⟩
noncomputable def aI:FSp:=fun as st Q=>∃n d:Nat,as=[.int n,.int d]∧Q (.int (Nat.gcd n d:Nat)) st
theorem i9 {as st Q Q'} (h:∀v st,Q v st→Q' v st) (q:aI as st Q):aI as st Q':=by obtain ⟨n,d,e,q⟩:=q;exact ⟨n,d,e,h _ _ q⟩
theorem ju {as st Q} (q:aI as st Q):as.length=2:=by obtain ⟨n,d,rfl,_⟩:=q;rfl
noncomputable abbrev low (n d:Nat):PV:=.tup [.int (n/Nat.gcd n d:Nat),.int (d/Nat.gcd n d:Nat)]
noncomputable def cC:FSp:=fun as st Q=>∃n d:Nat,as=[.int n,.int d]∧0<d∧d<2 ^ 8000∧Q (low n d) st
theorem o9 {as st Q Q'} (h:∀v st,Q v st→Q' v st) (q:cC as st Q):cC as st Q':=by obtain ⟨n,d,e,h1,h2,q⟩:=q;exact ⟨n,d,e,h1,h2,h _ _ q⟩
theorem sj {as st Q} (q:cC as st Q):as.length=2:=by obtain ⟨n,d,rfl,_⟩:=q;rfl
noncomputable abbrev fr (p:Nat × Nat):PV:=.tup [.int p.1,.int p.2]
noncomputable def am (n d:Nat):Nat × Nat:=(n/Nat.gcd n d,d/Nat.gcd n d)
theorem wo (n d:Nat):low n d=fr (am n d):=rfl
theorem u3 (n d:Nat):(am n d).1*d=n*(am n d).2:=vn n d
theorem dD {n d:Nat} (h:0<d):0<(am n d).2:=z_ h
theorem tD {n d:Nat} (h:0<d):Nat.gcd (am n d).1 (am n d).2=1:=AK h
theorem jI (n d:Nat):(am n d).1≤n:=Nat.div_le_self _ _
theorem lm (n d:Nat):(am n d).2≤d:=Nat.div_le_self _ _
theorem wU {n d:Nat} (h:Nat.gcd n d=1):am n d=(n,d):=by simp [am,h]
theorem CB {a b c d:Nat} (h1:Nat.gcd a b=1) (h2:Nat.gcd c d=1) (hb:0<b) (hd:0<d) (h:a*d=c*b):a=c∧b=d:=by
 have hbd:b ∣ d:=by
  have:b ∣ a*d:=⟨c,by rw [h,Nat.mul_comm]⟩
  exact Nat.Coprime.dvd_of_dvd_mul_left (show Nat.Coprime b a by unfold Nat.Coprime;rw [Nat.gcd_comm];exact h1) this
 have hdb:d ∣ b:=by
  have:d ∣ c*b:=⟨a,by rw [←h,Nat.mul_comm]⟩
  exact Nat.Coprime.dvd_of_dvd_mul_left (show Nat.Coprime d c by unfold Nat.Coprime;rw [Nat.gcd_comm];exact h2) this
 have e:b=d:=Nat.dvd_antisymm hbd hdb
 subst e
 exact ⟨Nat.eq_of_mul_eq_mul_right hb h,rfl⟩
noncomputable def nN (p q:Nat × Nat):Nat × Nat:=am (p.1*q.2-q.1*p.2) (p.2*q.2)
noncomputable def vD (p q:Nat × Nat):Nat × Nat:=am (p.1*q.1) (p.2*q.2)
structure Cop (p:Nat × Nat):Prop where
 pos:0<p.2
 one:Nat.gcd p.1 p.2=1
theorem Cop.low {n d:Nat} (h:0<d):Cop (am n d):=⟨dD h,tD h⟩
theorem Cop.self {p:Nat × Nat} (h:Cop p):am p.1 p.2=p:=wU h.one
theorem Cop.ext {p q:Nat × Nat} (h1:Cop p) (h2:Cop q) (h:p.1*q.2=q.1*p.2):p=q:=by
 obtain ⟨e1,e2⟩:=CB h1.one h2.one h1.pos h2.pos h
 exact Prod.ext e1 e2
theorem kr {p q:Nat × Nat} (hp:0<p.2) (hq:0<q.2):Cop (nN p q):=.low (Nat.mul_pos hp hq)
theorem t3 {p q:Nat × Nat} (hp:0<p.2) (hq:0<q.2):Cop (vD p q):=.low (Nat.mul_pos hp hq)
structure Sz (k:Nat) (p:Nat × Nat):Prop where
 a:p.1<2 ^ k
 b:p.2<2 ^ k
 pos:0<p.2
theorem Sz.mono {j k:Nat} {p:Nat × Nat} (h:Sz j p) (hk:j≤k):Sz k p:=⟨Nat.lt_of_lt_of_le h.a (Nat.pow_le_pow_right (by decide) hk),Nat.lt_of_lt_of_le h.b (Nat.pow_le_pow_right (by decide) hk),h.pos⟩
theorem bJ {a b j k:Nat} (h1:a<2 ^ j) (h2:b<2 ^ k):a*b<2 ^ (j+k):=by
 rw [Nat.pow_add]
 by_cases hb:b=0
 ·subst hb
  simp only [Nat.mul_zero]
  exact Nat.mul_pos (by omega) (by omega)
 ·exact Nat.lt_of_lt_of_le (Nat.mul_lt_mul_of_pos_right h1 (by omega)) (Nat.mul_le_mul_left _ (Nat.le_of_lt h2))
noncomputable def Ea (p q:Nat × Nat):Prop:=p.1*q.2<q.1*p.2
noncomputable instance (p q:Nat × Nat):Decidable (Ea p q):=inferInstanceAs (Decidable (_<_))
mutual
noncomputable def aF:Nat→PV→Bool
 | _,.int _=>true
 | _,.non=>true
 | 0,.tup _=>false
 | n+1,.tup xs=>eO n xs
 | _,.bl _=>false
 | _,.str _=>false
 | _,.ref _=>false
 | _,.rdl _=>false
 | _,.fn _=>false
noncomputable def eO:Nat→List PV→Bool
 | _,[]=>true
 | n,x::xs=>aF n x && eO n xs
end
mutual
theorem iJ:∀ {n:Nat} {v:PV},aF n v=true→∃d,v.toD=some d∧d.canLay0=true∧d.depth≤n+1
 | n,.int i,_=>⟨.int i,by simp [PV.toD],by simp [PyData.canLay0],by simp [PyData.depth]⟩
 | n,.non,_=>⟨.none,by simp [PV.toD],by simp [PyData.canLay0],by simp [PyData.depth]⟩
 | 0,.tup xs,h=>by simp [aF] at h
 | n+1,.tup xs,h=>by
  rw [aF] at h
  obtain ⟨ds,e,h1,h2⟩:=bV h
  exact ⟨.tuple ds,by simp [PV.toD,e],by simp [PyData.canLay0,h1],by simp [PyData.depth];omega⟩
 | n,.bl _,h=>by cases n <;> simp [aF] at h
 | n,.str _,h=>by cases n <;> simp [aF] at h
 | n,.ref _,h=>by cases n <;> simp [aF] at h
 | n,.rdl _,h=>by cases n <;> simp [aF] at h
 | n,.fn _,h=>by cases n <;> simp [aF] at h
theorem bV:∀ {n:Nat} {vs:List PV},eO n vs=true→∃ds,PV.toDs vs=some ds∧PyData.canLayAll0 ds=true∧PyData.depthAll ds≤n+1
 | n,[],_=>⟨[],by simp [PV.toDs],by simp [PyData.canLayAll0],by simp [PyData.depthAll]⟩
 | n,x::xs,h=>by
  rw [eO,Bool.and_eq_true] at h
  obtain ⟨d,e1,h1,h2⟩:=iJ h.1
  obtain ⟨ds,e2,h3,h4⟩:=bV h.2
  exact ⟨d::ds,by simp [PV.toDs,e1,e2],by simp [PyData.canLayAll0,h1,h3],by simp [PyData.depthAll];omega⟩
end
mutual
theorem pM:∀ {n:Nat} {v w:PV} {d e:PyData},aF n v=true→aF n w=true→v.toD=some d→w.toD=some e→PyData.eqv d e=v.same w
 | n,.int i,w,d,e,_,hw,hd,he=>by
  simp [PV.toD] at hd
  subst hd
  cases w with
  | int j=>simp [PV.toD] at he;subst he;simp [PyData.eqv,PV.same,Bool.beq_eq_decide_eq]
  | non=>simp [PV.toD] at he;subst he;simp [PyData.eqv,PV.same]
  | tup ys =>
   cases n with
   | zero=>simp [aF] at hw
   | succ n =>
    rw [aF] at hw
    obtain ⟨ds,e1,h1,h2⟩:=bV hw
    simp [PV.toD,e1] at he
    subst he
    simp [PyData.eqv,PV.same]
  | _=>cases n <;> simp [aF] at hw
 | n,.non,w,d,e,_,hw,hd,he=>by
  simp [PV.toD] at hd
  subst hd
  cases w with
  | int j=>simp [PV.toD] at he;subst he;simp [PyData.eqv,PV.same]
  | non=>simp [PV.toD] at he;subst he;simp [PyData.eqv,PV.same]
  | tup ys =>
   cases n with
   | zero=>simp [aF] at hw
   | succ n =>
    rw [aF] at hw
    obtain ⟨ds,e1,h1,h2⟩:=bV hw
    simp [PV.toD,e1] at he
    subst he
    simp [PyData.eqv,PV.same]
  | _=>cases n <;> simp [aF] at hw
 | 0,.tup xs,w,d,e,hv,_,_,_=>by simp [aF] at hv
 | n+1,.tup xs,w,d,e,hv,hw,hd,he=>by
  rw [aF] at hv
  obtain ⟨ds,e1,h1,h2⟩:=bV hv
  simp [PV.toD,e1] at hd
  subst hd
  cases w with
  | int j=>simp [PV.toD] at he;subst he;simp [PyData.eqv,PV.same]
  | non=>simp [PV.toD] at he;subst he;simp [PyData.eqv,PV.same]
  | tup ys =>
   rw [aF] at hw
   obtain ⟨es,e2,h3,h4⟩:=bV hw
   simp [PV.toD,e2] at he
   subst he
   simp only [PyData.eqv,PV.same]
   exact oi hv hw e1 e2
  | _=>simp [aF] at hw
 | n,.bl _,_,_,_,h,_,_,_=>by cases n <;> simp [aF] at h
 | n,.str _,_,_,_,h,_,_,_=>by cases n <;> simp [aF] at h
 | n,.ref _,_,_,_,h,_,_,_=>by cases n <;> simp [aF] at h
 | n,.rdl _,_,_,_,h,_,_,_=>by cases n <;> simp [aF] at h
 | n,.fn _,_,_,_,h,_,_,_=>by cases n <;> simp [aF] at h
theorem oi:∀ {n:Nat} {vs ws:List PV} {ds es:List PyData},eO n vs=true→eO n ws=true→PV.toDs vs=some ds→PV.toDs ws=some es→PyData.eqvAll ds es=PV.sames vs ws
 | n,[],ws,ds,es,_,hw,hd,he=>by
  simp [PV.toDs] at hd
  subst hd
  cases ws with
  | nil=>simp [PV.toDs] at he;subst he;simp [PyData.eqvAll,PV.sames]
  | cons y ys =>
   obtain ⟨zs,e1,h1,h2⟩:=bV hw
   rw [e1] at he
   cases he
   cases es with
   | nil =>
    rw [PV.toDs] at e1
    split at e1 <;> simp at e1
   | cons=>simp [PyData.eqvAll,PV.sames]
 | n,x::xs,ws,ds,es,hv,hw,hd,he=>by
  rw [eO,Bool.and_eq_true] at hv
  obtain ⟨d1,a1,b1,c1⟩:=iJ hv.1
  obtain ⟨ds1,a2,b2,c2⟩:=bV hv.2
  simp [PV.toDs,a1,a2] at hd
  subst hd
  cases ws with
  | nil=>simp [PV.toDs] at he;subst he;simp [PyData.eqvAll,PV.sames]
  | cons y ys =>
   rw [eO,Bool.and_eq_true] at hw
   obtain ⟨d3,a3,b3,c3⟩:=iJ hw.1
   obtain ⟨ds4,a4,b4,c4⟩:=bV hw.2
   simp [PV.toDs,a3,a4] at he
   subst he
   rw [PyData.eqvAll,PV.sames,pM hv.1 hw.1 a1 a3,oi hv.2 hw.2 a2 a4]
end
theorem uh {st:AH} {v:PV} {d:PyData} (h:v.toD=some d):rO st v=some d:=by
 cases v with
 | ref n=>simp [PV.toD] at h
 | _=>exact h
theorem rG {st:AH} {n:Nat} {v w:PV} {k:Bool→Prop} (hn:n≤60) (hv:aF n v=true) (hw:aF n w=true) (h:k (v.same w)):eqW st v w k:=by
 obtain ⟨d,e1,h1,h2⟩:=iJ hv
 obtain ⟨e,e2,h3,h4⟩:=iJ hw
 have big:∃d e,rO st v=some d∧rO st w=some e∧SeqAt.shaped d=true∧SeqAt.shaped e=true∧k (PyData.eqv d e):=by
  refine ⟨d,e,uh e1,uh e2,?_,?_,?_⟩
  ·simp [SeqAt.shaped,h1];omega
  ·simp [SeqAt.shaped,h3];omega
  ·rw [pM hv hw e1 e2];exact h
 cases v with
 | int i =>
  cases w with
  | int j =>
   show k (decide (i=j))
   simp only [PV.same,Bool.beq_eq_decide_eq] at h
   exact h
  | _=>exact big
 | bl i=>cases n <;> simp [aF] at hv
 | str i=>cases n <;> simp [aF] at hv
 | _=>exact big
mutual
theorem iD:∀(v:PV),v.same v=true
 | .non=>by simp [PV.same]
 | .bl _=>by simp [PV.same]
 | .int _=>by simp [PV.same]
 | .str _=>by simp [PV.same]
 | .ref _=>by simp [PV.same]
 | .fn _=>by simp [PV.same]
 | .tup xs=>by rw [PV.same];exact fX xs
 | .rdl xs=>by rw [PV.same];exact fX xs
theorem fX:∀(vs:List PV),PV.sames vs vs=true
 | []=>by simp [PV.sames]
 | x::xs=>by rw [PV.sames,iD x,fX xs];rfl
end
theorem pT {n:Nat}:∀ {vs:List PV},(∀v∈vs,aF n v=true)→eO n vs=true
 | [],_=>by rw [eO]
 | x::xs,h=>by rw [eO,h x (by simp),pT fun v hv=>h v (by simp [hv])];rfl
theorem wF {n:Nat} {vs:List PV} (h:∀v∈vs,aF n v=true):aF (n+1) (.tup vs)=true:=by rw [aF];exact pT h
noncomputable def cF:FSp:=fun as st Q=>∃p q,as=[fr p,fr q]∧Sz 3000 p∧Sz 3000 q∧Q (.bl (decide (p.1*q.2<q.1*p.2))) st
theorem oN {as st Q Q'} (h:∀v st,Q v st→Q' v st) (q:cF as st Q):cF as st Q':=by obtain ⟨a,b,e,h1,h2,q⟩:=q;exact ⟨a,b,e,h1,h2,h _ _ q⟩
theorem qR {as st Q} (q:cF as st Q):as.length=2:=by obtain ⟨n,d,rfl,_⟩:=q;rfl
theorem dI {j k:Nat} (h:j≤k):(2:Nat) ^ j≤2 ^ k:=Nat.pow_le_pow_right (by decide) h
theorem ii {a b:Nat} (h1:a<2 ^ 3000) (h2:b<2 ^ 3000):CMB (a:Int) (b:Int):=.inl ⟨Nat.lt_of_lt_of_le h1 (dI (by decide)),Nat.lt_of_lt_of_le h2 (dI (by decide))⟩
theorem vE {st:AH} {p q:Nat × Nat} {k:Bool→Prop} (h:k (decide (p=q))):eqW st (fr p) (fr q) k:=by
 refine xF ?_
 have:(decide ((p.1:Int)=q.1) && decide ((p.2:Int)=q.2))=decide (p=q):=by
  rw [Bool.eq_iff_iff]
  simp only [Bool.and_eq_true,decide_eq_true_eq]
  constructor
  ·rintro ⟨h1,h2⟩;exact Prod.ext (by omega) (by omega)
  ·rintro rfl;exact ⟨rfl,rfl⟩
 rw [this]
 exact h
noncomputable def PK (q r:Int):Prop:=0≤q∧0≤r∧r<8589934592
noncomputable def Pot (st:AH) (p:Nat):Prop:=∃q r,st[p]?=some (pc q r)∧PK q r
theorem Pot.lt {st:AH} {p:Nat} (h:Pot st p):p<st.length:=by obtain ⟨q,r,e,_⟩:=h;exact cI e
theorem Pot.app {st g:AH} {p:Nat} (h:Pot st p):Pot (st++g) p:=by obtain ⟨q,r,e,z⟩:=h;exact ⟨q,r,ak e,z⟩
structure Gr (st:AH) (p:Nat) (st':AH):Prop where
 len:st.length≤st'.length
 old:∀i,i<st.length→i≠p→st'[i]?=st[i]?
 pot:Pot st' p
 was:p<st.length
theorem Gr.refl {st:AH} {p:Nat} (h:Pot st p):Gr st p st:=⟨Nat.le_refl _,fun _ _ _=>rfl,h,h.lt⟩
theorem Gr.trans {st s1 s2:AH} {p:Nat} (a:Gr st p s1) (b:Gr s1 p s2):Gr st p s2:=⟨Nat.le_trans a.len b.len,fun i h1 h2=>(b.old i (Nat.lt_of_lt_of_le h1 a.len) h2).trans (a.old i h1 h2),b.pot,a.was⟩
theorem Gr.app {st s1 g:AH} {p:Nat} (a:Gr st p s1):Gr st p (s1++g) :=
 ⟨by rw [List.length_append];exact Nat.le_trans a.len (Nat.le_add_right _ _),fun i h1 h2=>by rw [List.getElem?_append_left (Nat.lt_of_lt_of_le h1 a.len)];exact a.old i h1 h2,a.pot.app,a.was⟩
theorem Gr.set {st s1:AH} {p:Nat} (a:Gr st p s1) {q r:Int} (z:PK q r):Gr st p (s1.set p (pc q r)) :=
 ⟨by rw [List.length_set];exact a.len,fun i h1 h2=>by rw [List.getElem?_set_ne (Ne.symm h2)];exact a.old i h1 h2,⟨q,r,List.getElem?_set_self a.pot.lt,z⟩,a.was⟩
theorem Gr.setN {st s1:AH} {p n:Nat} {c:Cell} (a:Gr st p s1) (h:st.length≤n):Gr st p (s1.set n c):=by
 have hn:n≠p:=fun e=>by have:=a.was;omega
 refine ⟨by rw [List.length_set];exact a.len,fun i h1 h2=>by rw [List.getElem?_set_ne (by omega)];exact a.old i h1 h2,?_,a.was⟩
 obtain ⟨q,r,e,z⟩:=a.pot
 exact ⟨q,r,by rw [List.getElem?_set_ne hn];exact e,z⟩
theorem Gr.get {st s1:AH} {p n:Nat} {c:Cell} (a:Gr st p s1) (h:st[n]?=some c) (hn:n≠p):s1[n]?=some c:=(a.old n (cI h) hn).trans h
theorem Gr.tmp {st s1:AH} {p:Nat} {v:PV} {Q:EK} (a:Gr st p s1) (hv:v.bel st.length=true) (k:∀s2,Gr st p s2→s2.length=st.length→Q v s2):Tmp st Q v s1:=by
 have hl:(s1.take st.length).length=st.length:=by rw [List.length_take];exact Nat.min_eq_left a.len
 have hg:∀i,i<st.length→(s1.take st.length)[i]?=s1[i]?:=fun i hi=>by rw [List.getElem?_take_of_lt hi]
 obtain ⟨q,r,e,z⟩:=a.pot
 refine ⟨s1.take st.length,s1.drop st.length,(List.take_append_drop _ _).symm,hl,fun i hi=>?_,hv,k _ ⟨by omega,fun i h1 h2=>(hg i h1).trans (a.old i h1 h2),⟨q,r,(hg p a.was).trans e,z⟩,a.was⟩ hl⟩
 by_cases hp:i=p
 ·subst hp
  exact .inr ⟨pc q r,(hg i a.was).trans e,CA⟩
 ·exact .inl ((hg i hi).trans (a.old i hi hp))
theorem Cy:vc 10 9:=⟨by decide,by decide,by decide⟩
theorem Dk:vc 10 11:=⟨by decide,by decide,by decide⟩
theorem wc {L:List PV} {P:PV→Prop} (h:∀v∈L,P v) {y:Int} (y0:0≤y) (y1:y<L.length):∃v,atI L y=some v∧P v:=by
 obtain ⟨m,rfl⟩:∃m:Nat,y=m:=⟨y.toNat,by omega⟩
 have hm:m<L.length:=by omega
 exact ⟨L[m],fF (List.getElem?_eq_getElem hm),h _ (List.getElem_mem hm)⟩
theorem Gr.ne {st s1:AH} {p:Nat} (a:Gr st p s1):s1.length≠p:=fun e=>by have:=a.pot.lt;omega
theorem sX {xs:List PV} {v:PV}:atI (xs++[v]) (-1)=some v:=by
 have e:(-1+((xs.length:Int)+1)).toNat=xs.length:=by omega
 simp only [atI,ixN,List.length_append,List.length_singleton]
 simp
 rw [if_pos (by omega),e]
 simp
theorem dj {st st':AH} {n:Nat}:iN st (.ref n) st'=(st'[n]?=st[n]?):=rfl
theorem CJ {L:List PV}:iR L (some 1) none=L.drop 1:=by
 unfold iR
 have:=HT.sIx_nat L.length 0 1
 rw [show ((1:Nat):Int)=(1:Int) from rfl] at this
 rw [HT.sIx_none,this]
 cases L with
 | nil=>rfl
 | cons x xs =>
  have:min 1 (x::xs).length=1:=by simp only [List.length_cons];omega
  rw [this]
  exact List.take_of_length_le (by simp)
theorem AA {L:List PV} {lo hi:Option Int} {v:PV} (h:v∈iR L lo hi):v∈L:=List.mem_of_mem_drop (List.mem_of_mem_take h)
theorem zR (L:List PV) (lo hi:Option Int):(iR L lo hi).length≤L.length:=by
 unfold iR
 rw [List.length_take,List.length_drop]
 omega
theorem D4 {st:AH} {n m:Nat} {xs ys:List PV} {Q:EK} (h1:st[n]?=some (.lst xs)) (h2:st[m]?=some (.lst ys)) (h3:xs.length+ys.length≤100000) (q:Q (.ref st.length) (st++[.lst (xs++ys)])):i6 .Add (.ref n) (.ref m) st Q:=⟨xs,ys,h1,h2,h3,q⟩
noncomputable def val (p:Nat × Nat):Rat:=(p.1:Rat)/(p.2:Rat)
theorem aJ {d:Nat} (h:0<d):(0:Rat)<(d:Rat):=by
 have:((0:Nat):Rat)<(d:Rat):=Rat.natCast_lt_natCast.mpr h
 simpa using this
theorem al {n d:Nat} (h:0<d):val (am n d)=(n:Rat)/(d:Rat):=by
 have c:=u3 n d
 have p:=dD (n:=n) h
 unfold val
 generalize am n d=z at *
 have e:(z.1:Rat)*d=n*z.2:=by
  have:=congrArg (fun k:Nat=>(k:Rat)) c
  simpa using this
 have p1:=aJ p
 have p2:=aJ h
 grind
theorem zg {p:Nat × Nat} (hp:0<p.2):0≤val p:=by
 unfold val
 rw [←Rat.not_lt,Rat.div_lt_iff (aJ hp),Rat.zero_mul,Rat.not_lt]
 exact Rat.natCast_nonneg
theorem vS {p q:Nat × Nat} (hp:0<p.2) (hq:0<q.2):val (vD p q)=val p*val q:=by
 unfold vD
 rw [al (Nat.mul_pos hp hq)]
 unfold val
 have p1:=aJ hp
 have p2:=aJ hq
 simp only [Rat.natCast_mul]
 grind
theorem iK {p q:Nat × Nat} (hp:0<p.2) (hq:0<q.2):p.1*q.2<q.1*p.2↔val p<val q:=by
 have p1:=aJ hp
 have p2:=aJ hq
 have e:(p.1*q.2<q.1*p.2)↔((p.1:Rat)*q.2<q.1*p.2):=by
  rw [←Rat.natCast_lt_natCast]
  simp
 rw [e]
 unfold val
 rw [Rat.div_lt_iff p1]
 have e2:(q.1:Rat)/q.2*p.2=q.1*p.2/q.2:=by grind
 rw [e2,Rat.lt_div_iff p2]
theorem gN {p q:Nat × Nat} (hp:0<p.2) (hq:0<q.2):p.1*q.2≤q.1*p.2↔val p≤val q:=by
 rw [←Nat.not_lt,←Rat.not_lt,iK hq hp]
theorem mZ {p q:Nat × Nat} (hp:0<p.2) (hq:0<q.2) (h:val q≤val p):val (nN p q)=val p-val q:=by
 have h':=(gN hq hp).mpr h
 unfold nN
 rw [al (Nat.mul_pos hp hq)]
 unfold val
 have p1:=aJ hp
 have p2:=aJ hq
 obtain ⟨e,he⟩:∃e,p.1*q.2=q.1*p.2+e:=⟨p.1*q.2-q.1*p.2,by omega⟩
 have e2:p.1*q.2-q.1*p.2=e:=by omega
 rw [e2]
 have e3:(p.1:Rat)*q.2=q.1*p.2+e:=by
  have:=congrArg (fun k:Nat=>(k:Rat)) he
  simpa using this
 simp only [Rat.natCast_mul]
 grind
theorem h_ {p q:Nat × Nat} (hp:Cop p) (hq:Cop q) (h:val p=val q):p=q:=by
 refine hp.ext hq ?_
 have a:=(gN hp.pos hq.pos).mpr (by rw [h];exact Rat.le_refl)
 have b:=(gN hq.pos hp.pos).mpr (by rw [h];exact Rat.le_refl)
 omega
theorem jx:val (0,1)=0:=by unfold val;grind
theorem iX {n:Nat}:val (n,1)=n:=by unfold val;simp;grind
structure Pc where
 e:Nat × Nat
 l:Nat × Nat
 h:Nat × Nat
noncomputable abbrev Pc.E (p:Pc):Rat:=val p.e
noncomputable abbrev Pc.L (p:Pc):Rat:=val p.l
noncomputable abbrev Pc.H (p:Pc):Rat:=val p.h
noncomputable abbrev Pc.mg (a p:Pc):Pc:=⟨p.e,a.l,p.h⟩
noncomputable def gB (b:Nat × Nat) (a p:Pc):Bool:=decide (p.l=a.h) && decide (vD (nN a.h a.l) (nN p.e a.e)=vD (nN p.h p.l) (nN a.e b))
noncomputable def cB (b:Nat × Nat) (a:Pc):List Pc→List Pc
 | []=>[a]
 | p::r=>if gB b a p=true then cB b (a.mg p) r else a::cB a.e p r
noncomputable def pV:List Pc→List Pc
 | []=>[]
 | p::r=>cB (0,1) p r
structure Pc.Ok (p:Pc):Prop where
 e:Cop p.e
 l:Cop p.l
 h:Cop p.h
noncomputable def Ch (b:Rat):List Pc→Prop
 | []=>True
 | p::r=>p.Ok∧b<p.E∧p.L≤p.H∧Ch p.E r
noncomputable def Sl (b:Rat) (p:Pc) (s:Rat):Prop:=p.H-p.L=s*(p.E-b)
theorem Sl.ex {b:Rat} {p:Pc} (h:b<p.E):∃s,Sl b p s:=⟨(p.H-p.L)/(p.E-b),by unfold Sl;grind⟩
theorem Bn {a p:Pc} (ha:a.Ok) (hp:p.Ok):(a.mg p).Ok:=⟨hp.e,ha.l,hp.h⟩
noncomputable def NG:Nat × Nat→List Pc→Prop
 | _,[]=>True
 | _,[_]=>True
 | b,a::p::r=>gB b a p=false∧NG a.e (p::r)
inductive zE:Nat × Nat→List Pc→List Pc→Prop
 | nil {b}:zE b [] []
 | keep {b p r' r}:zE p.e r' r→zE b (p::r') (p::r)
 | cut {b p m c s r' r}:Cop m→Cop c→val b<val m→val m<p.E→p.L≤val c→val c≤p.H→Sl (val b) p s→val c-p.L=s*(val m-val b)→p.H-val c=s*(p.E-val m)→zE p.e r' r→zE b (⟨m,p.l,c⟩::⟨p.e,c,p.h⟩::r') (p::r)
noncomputable def cm (b:Rat):List Pc→Rat→Option Rat
 | [],_=>none
 | p::r,t=>if t≤p.E then some (if b=p.E then p.L else p.L+(p.H-p.L)*((t-b)/(p.E-b))) else cm p.E r t
noncomputable def Rt (b hh:Rat):List Pc→Prop
 | []=>True
 | p::r=>p.Ok∧b<p.E∧hh≤p.L∧p.L≤p.H∧p.E≤p.H∧Rt p.E p.H r
theorem Rt.ch:∀ {r:List Pc} {b hh:Rat},Rt b hh r→Ch b r
 | [],_,_,_=>trivial
 | p::r,b,hh,⟨h1,h2,h3,h4,h5,h6⟩=>⟨h1,h2,h4,h6.ch⟩
noncomputable def RtF:List Pc→Prop
 | []=>True
 | p::r=>p.Ok∧p.L≤p.H∧p.E≤p.H∧(0=p.E→p.L=p.H)∧Rt p.E p.H r
theorem yO:∀ {r:List Pc} {b:Nat × Nat} {a:Pc} {hh:Rat},Cop b→a.Ok→val b<a.E→hh≤a.L→a.L≤a.H→a.E≤a.H→Rt a.E a.H r→Rt (val b) hh (cB b a r)
 | [],b,a,hh,hb,ha,h1,h2,h3,h4,_=>⟨ha,h1,h2,h3,h4,trivial⟩
 | p::r,b,a,hh,hb,ha,h1,h2,h3,h4,⟨hp,k1,k2,k3,k4,hr⟩=>by
  rw [cB]
  by_cases g:gB b a p=true
  ·rw [if_pos g]
   exact yO hb (Bn ha hp) (by show val b<p.E;grind) h2 (by show a.L≤p.H;grind) k4 hr
  ·rw [if_neg g]
   exact ⟨ha,h1,h2,h3,h4,yO ha.e hp k1 k2 k3 k4 hr⟩
theorem DQ:Cop (0,1):=⟨by decide,by decide⟩
theorem yF:∀ {r:List Pc} {a:Pc},a.Ok→a.L≤a.H→a.E≤a.H→(0=a.E→a.L=a.H)→Rt a.E a.H r→RtF (cB (0,1) a r)
 | [],a,ha,h1,h2,h3,_=>⟨ha,h1,h2,h3,trivial⟩
 | p::r,a,ha,h1,h2,h3,⟨hp,k1,k2,k3,k4,hr⟩=>by
  have e0:0≤a.E:=zg ha.e.pos
  rw [cB]
  by_cases g:gB (0,1) a p=true
  ·rw [if_pos g]
   exact yF (Bn ha hp) (by show a.L≤p.H;grind) k4 (by show 0=p.E→a.L=p.H;grind) hr
  ·rw [if_neg g]
   exact ⟨ha,h1,h2,h3,yO ha.e hp k1 k2 k3 k4 hr⟩
theorem yw {L:List Pc} (h:RtF L):RtF (pV L):=by
 cases L with
 | nil=>trivial
 | cons a r=>exact yF h.1 h.2.1 h.2.2.1 h.2.2.2.1 h.2.2.2.2
theorem xO {as st Q Q'} (h:∀v st,Q v st→Q' v st) (q:je as st Q):je as st Q':=by obtain ⟨n,e,h1,q⟩:=q;exact ⟨n,e,h1,fun z=>h _ _ (q z)⟩
theorem Ak {as st Q} (q:je as st Q):as.length=1:=by obtain ⟨n,rfl,_⟩:=q;rfl
structure Pc.Sz (k:Nat) (p:Pc):Prop where
 e:My.Sz k p.e
 l:My.Sz k p.l
 h:My.Sz k p.h
noncomputable def SzL (k:Nat) (L:List Pc):Prop:=∀p∈L,p.Sz k
theorem Pc.Sz.mono {j k:Nat} {p:Pc} (h:p.Sz j) (hk:j≤k):p.Sz k:=⟨h.e.mono hk,h.l.mono hk,h.h.mono hk⟩
theorem SzL.mono {j k:Nat} {L:List Pc} (h:SzL j L) (hk:j≤k):SzL k L:=fun p hp=>(h p hp).mono hk
noncomputable abbrev Un3:=Nat × Nat × Nat
noncomputable def RU (b hh:Nat):List Un3→Prop
 | []=>True
 | u::r=>b<u.1∧hh≤u.2.1∧u.2.1≤u.2.2∧u.1≤u.2.2∧RU u.1 u.2.2 r
noncomputable def RUF:List Un3→Prop
 | []=>True
 | u::r=>u.2.1≤u.2.2∧u.1≤u.2.2∧(u.1=0→u.2.1=u.2.2)∧RU u.1 u.2.2 r
noncomputable def BdU (N:Nat) (U:List Un3):Prop:=∀u∈U,u.1≤N∧u.2.1≤N∧u.2.2≤N
structure App (U:List Un3) (u:Un3):Prop where
 fst:U=[]→u.2.1≤u.2.2∧u.1≤u.2.2∧(u.1=0→u.2.1=u.2.2)
 nxt:∀v,U.getLast?=some v→v.1<u.1∧v.2.2≤u.2.1∧u.2.1≤u.2.2∧u.1≤u.2.2
noncomputable abbrev aU (d:Nat) (u:Un3):Pc:=⟨am u.1 d,am u.2.1 d,am u.2.2 d⟩
noncomputable abbrev Mo (s:FSp):Prop:=∀ {as:List PV} {st:AH} {Q Q':EK},(∀v st,Q v st→Q' v st)→s as st Q→s as st Q'
noncomputable abbrev Ln (s:FSp) (n:Nat):Prop:=∀ {as:List PV} {st:AH} {Q:EK},s as st Q→as.length=n
local macro_rules | `(tactic| walk_at "MO")=>`(tactic| (intro as st Q Q' h q;repeat (first|exact h _ _ q|(obtain ⟨a,q⟩:=q;first|refine Exists.intro a ?_|refine And.intro a ?_)|(intro a;replace q:=q a))))
local macro_rules | `(tactic| walk_at "LN")=>`(tactic| (intro as st Q q;repeat (obtain ⟨a,q⟩:=q;try exact congrArg List.length a)))
noncomputable def tw:Option (Nat × Nat)→PV
 | none=>.non
 | some p=>fr p
noncomputable def stB (L:List Pc):Bool:=@decide (NG (0,1) L) (Classical.propDecidable _)
noncomputable def cO:FSp:=fun as st Q=>∃p q:Nat × Nat,as=[fr p,fr q]∧Sz 3000 p∧Sz 3000 q∧Q (.int ((p.1:Int)*q.2-q.1*p.2)) st
theorem oj:Mo cO:=by walk_at "MO"
theorem oJ:Ln cO 2:=by walk_at "LN"
noncomputable def bM:FSp:=fun as st Q=>∃(a b c d m:Nat) (nx ny fx fy x:Nat × Nat),as=[.tup [fr nx,fr ny],.tup [fr fx,fr fy],fr x]∧a+b+c+d+m+2≤2900∧(Sz a nx∧Sz b ny∧Sz c fx∧Sz d fy∧Sz m x)∧(val nx<val fx∧val nx≤val x∧val x≤val fx)∧∀r,Cop r→Sz (a+b+c+d+m+2) r→val r=val ny+(val fy-val ny)*((val x-val nx)/(val fx-val nx))→Q (fr r) st
theorem mf:Mo bM:=by walk_at "MO"
theorem mM:Ln bM 3:=by walk_at "LN"
noncomputable def dc:FSp:=fun as st Q=>∃(p:Nat) (many:Int),as=[.ref p,.int many]∧Pot st p∧0<many∧many<2 ^ 200∧∀x st',0≤x→x<many→Gr st p st'→Q (.int x) st'
theorem oq:Mo dc:=by walk_at "MO"
theorem oP:Ln dc 2:=by walk_at "LN"
noncomputable def dz:FSp:=fun as st Q=>∃(ns:List Int) (k:Nat),as=[.rdl (ns.map .int),.int k]∧k<9∧∀q r,PK q r→Q (.ref st.length) (st++[pc q r])
theorem pj:Mo dz:=by walk_at "MO"
theorem qL:Ln dz 2:=by walk_at "LN"
noncomputable def bI:FSp:=fun as st Q=>∃n d:Nat,as=[.int n,.int d]∧0<d∧d<2 ^ 8000∧Q (low n d) st
theorem ms:Mo bI:=by walk_at "MO"
theorem mL:Ln bI 2:=by walk_at "LN"
noncomputable def db:FSp:=fun as st Q=>∃p:Nat,as=[.ref p]∧Pot st p∧∀(d:Nat) st',0<d→d≤10 ^ 11→Gr st p st'→Q (.int d) st'
theorem nZ:Mo db:=by walk_at "MO"
theorem oZ:Ln db 1:=by walk_at "LN"
structure Rr where
 F:Rat
 L:Rat
 C:Rat
 D:Rat
structure Rr.Ok (r:Rr):Prop where
 fl:r.F≤r.L
 fc:r.F≤r.C
 ld:r.L≤r.D
 eq:r.F=r.L→r.C=r.D
noncomputable def Rr.has (r:Rr) (t:Rat):Prop:=r.F≤t∧t≤r.L
noncomputable def Rr.to (r:Rr) (t:Rat):Rat:=if r.F=r.L then r.C else r.C+(r.D-r.C)*((t-r.F)/(r.L-r.F))
structure Rq where
 f:Nat × Nat
 l:Nat × Nat
 c:Nat × Nat
 d:Nat × Nat
noncomputable abbrev rqV (q:Rq):PV:=.tup [fr q.f,fr q.l,fr q.c,fr q.d]
noncomputable abbrev Rq.r (q:Rq):Rr:=⟨val q.f,val q.l,val q.c,val q.d⟩
structure r9 (j:Nat) (q:Rq):Prop where
 cf:Cop q.f
 cl:Cop q.l
 cc:Cop q.c
 cd:Cop q.d
 zf:Sz j q.f
 zl:Sz j q.l
 zc:Sz j q.c
 zd:Sz j q.d
 ok:q.r.Ok
noncomputable def IsOff (X:List Rr) (t:Rat):Option Rat→Prop
 | none=>∀r∈X,¬r.has t
 | some y=>(∃r∈X,r.has t∧r.to t=y)∧∀r∈X,r.has t→y≤r.to t
noncomputable def IsOut (X:List Rr) (t:Rat):Option (Rat × Rat)→Prop
 | none=>∀r∈X,r.L<t
 | some p=>t≤p.1∧(∃r∈X,r.has p.1∧r.to p.1=p.2)∧∀r∈X,∀v,t≤v→r.has v→p.2≤r.to v∧(r.to v=p.2→p.1≤v)
noncomputable abbrev Fr2:=(Nat × Nat) × (Nat × Nat)
noncomputable abbrev f2V (p:Fr2):PV:=.tup [fr p.1,fr p.2]
noncomputable def o2V:Option Fr2→PV
 | none=>.non
 | some p=>f2V p
noncomputable abbrev v2 (p:Fr2):Rat × Rat:=(val p.1,val p.2)
noncomputable def cw:FSp:=fun as st Q=>∃(k:Nat) (q:Rq) (t:Nat × Nat),as=[rqV q,fr t]∧k≤2900∧r9 k q∧Sz k t∧∀b:Bool,(b=true↔q.r.has (val t))→Q (.bl b) st
theorem mU:Mo cw:=by walk_at "MO"
theorem oo:Ln cw 2:=by walk_at "LN"
noncomputable def ej:FSp:=fun as st Q=>∃(j m:Nat) (q:Rq) (t:Nat × Nat),as=[rqV q,fr t]∧(1≤j∧m+4*j+2≤2900)∧r9 j q∧Sz m t∧q.r.has (val t)∧∀p,Cop p→Sz (m+4*j+2) p→val p=q.r.to (val t)→Q (fr p) st
theorem q0:Mo ej:=by walk_at "MO"
theorem ut:Ln ej 2:=by walk_at "LN"
noncomputable def iw:FSp:=fun as st Q=>∃(j m:Nat) (X:List Rq) (t:Nat × Nat),as=[.tup (X.map rqV),fr t]∧(1≤j∧m+4*j+2≤2900)∧(∀q∈X,r9 j q)∧Sz m t∧∀o:Option (Nat × Nat),(∀p,o=some p→Cop p∧Sz (m+4*j+2) p)→IsOff (X.map Rq.r) (val t) (o.map val)→Q (tw o) st
theorem uS:Mo iw:=by walk_at "MO"
theorem wN:Ln iw 2:=by walk_at "LN"
noncomputable def iH:FSp:=fun as st Q=>∃(k:Nat) (q:Rq),as=[rqV q]∧k≤2900∧r9 k q∧∀b:Bool,(b=true↔q.r.D<q.r.C)→Q (.bl b) st
theorem vA:Mo iH:=by walk_at "MO"
theorem wT:Ln iH 1:=by walk_at "LN"
noncomputable def cR:FSp:=fun as st Q=>∃(j m:Nat) (q:Rq) (t:Nat × Nat),as=[rqV q,fr t]∧(1≤j∧m+5*j+2≤2900)∧r9 j q∧Cop t∧Sz m t∧val t≤q.r.L∧∀p:Fr2,Cop p.1→Cop p.2→Sz (m+5*j+2) p.1→Sz (m+5*j+2) p.2→IsOut [q.r] (val t) (some (v2 p))→Q (f2V p) st
theorem nE:Mo cR:=by walk_at "MO"
theorem pB:Ln cR 2:=by walk_at "LN"
noncomputable def cV:FSp:=fun as st Q=>∃(k:Nat) (p q:Fr2),as=[f2V p,f2V q]∧k≤2900∧(Cop p.1∧Cop p.2∧Cop q.1∧Cop q.2)∧(Sz k p.1∧Sz k p.2∧Sz k q.1∧Sz k q.2)∧∀b:Bool,(b=true↔(val p.2=val q.2∧val p.1<val q.1)∨val p.2<val q.2)→Q (.bl b) st
theorem nu:Mo cV:=by walk_at "MO"
theorem pe:Ln cV 2:=by walk_at "LN"
noncomputable def dh:FSp:=fun as st Q=>∃(j m:Nat) (X:List Rq) (w:Bool) (t:Nat × Nat),as=[.tup (X.map rqV),.bl w,fr t]∧(1≤j∧m+5*j+2≤2900)∧(∀q∈X,r9 j q)∧Cop t∧Sz m t∧∀o:Option Fr2,(∀p,o=some p→(Cop p.1∧Cop p.2)∧Sz (m+5*j+2) p.1∧Sz (m+5*j+2) p.2)→(w=true→IsOut (X.map Rq.r) (val t) (o.map v2))→(w=false→IsOff (X.map Rq.r) (val t) (o.map fun p=>val p.2)∧∀p,o=some p→p.1=t)→Q (o2V o) st
theorem sM:Mo dh:=by walk_at "MO"
theorem tK:Ln dh 3:=by walk_at "LN"
structure Rd where
 f:Nat
 l:Nat
 c:Nat
 d:Nat
noncomputable abbrev rdV (r:Rd):PV:=.tup [.int r.f,.int r.l,.int r.c,.int r.d]
noncomputable abbrev Rd.r (r:Rd):Rr:=⟨r.f,r.l,r.c,r.d⟩
noncomputable abbrev Rd.q (e:Nat) (r:Rd):Rq:=⟨am r.f e,am r.l e,am r.c e,am r.d e⟩
structure RideN (f l c d:Nat):Prop where
 fl:f≤l
 fc:f≤c
 ld:l≤d
 eq:f=l→c=d
 big:d<10 ^ 13
 bigc:c<10 ^ 13
 bigl:l<10 ^ 13
noncomputable abbrev qK (r:Rd):Prop:=RideN r.f r.l r.c r.d
noncomputable def RN (v:PV):Prop:=∃f l c d:Nat,v=.tup [.int f,.int l,.int c,.int d]∧RideN f l c d
noncomputable def RNs (L:List PV):Prop:=∀v∈L,RN v
structure Pts (ns:List Int):Prop where
 ge:2≤ns.length
 le:ns.length≤6
 nn:∀x∈ns,0≤x∧x<10 ^ 11
 up:ns.Pairwise (·< ·)
noncomputable def bO:FSp:=fun as st Q=>∃p:Nat,as=[.ref p]∧Pot st p∧∀n ns st',Gr st p st'→st.length≤n→st'[n]?=some (.lst (ns.map PV.int))→Pts ns→Q (.ref n) st'
theorem lS:Mo bO:=by walk_at "MO"
theorem mK:Ln bO 1:=by walk_at "LN"
noncomputable def cX:FSp:=fun as st Q=>∃p:Nat,as=[.ref p]∧Pot st p∧∀x st',0≤x→x<10 ^ 9→Gr st p st'→Q (.int x) st'
theorem n8:Mo cX:=by walk_at "MO"
theorem oK:Ln cX 1:=by walk_at "LN"
noncomputable def cM:FSp:=fun as st Q=>∃(p n:Nat) (ns:List Int),as=[.ref p,.ref n]∧Pot st p∧st[n]?=some (.lst (ns.map PV.int))∧n≠p∧Pts ns∧∀v st',RN v→Gr st p st'→Q v st'
theorem oB:Mo cM:=by walk_at "MO"
theorem pb:Ln cM 2:=by walk_at "LN"
noncomputable def cq:FSp:=fun as st Q=>∃(p n:Nat) (ns:List Int),as=[.ref p,.ref n]∧Pot st p∧st[n]?=some (.lst (ns.map PV.int))∧n≠p∧ns.length≤6∧(∀x∈ns,0≤x∧x<10 ^ 11)∧(∀i x y,ns[i]?=some x→ns[i+1]?=some y→x<y)∧∀m L st',Gr st p st'→st.length≤m→st'[m]?=some (.lst L)→RNs L→L.length≤6→Q (.ref m) st'
theorem mJ:Mo cq:=by walk_at "MO"
theorem oy:Ln cq 2:=by walk_at "LN"
noncomputable def cz:FSp:=fun as st Q=>∃p:Nat,as=[.ref p]∧Pot st p∧∀m L st',Gr st p st'→st.length≤m→st'[m]?=some (.lst L)→RNs L→L.length≤20→Q (.ref m) st'
theorem mX:Mo cz:=by walk_at "MO"
theorem n9:Ln cz 1:=by walk_at "LN"
noncomputable def bN:FSp:=fun as st Q=>∃(p n e:Nat) (R:List Rd),as=[.ref p,.ref n,.int e]∧Pot st p∧st[n]?=some (.lst (R.map rdV))∧n≠p∧(∀r∈R,qK r)∧R.length≤20∧0<e∧e≤10 ^ 11∧∀(M:List Rd) st',Gr st p st'→M.Perm R→Q (.tup (M.map fun r=>rqV (r.q e))) st'
theorem lY:Mo bN:=by walk_at "MO"
theorem mP:Ln bN 3:=by walk_at "LN"
noncomputable def cu:FSp:=fun as st Q=>∃(r:Rd) (t:Nat × Nat),as=[rdV r,fr t]∧qK r∧Sz 60 t∧r.r.has (val t)∧∀p,Sz 200 p→val p=r.r.to (val t)→Q (fr p) st
theorem mN:Mo cu:=by walk_at "MO"
theorem nV:Ln cu 2:=by walk_at "LN"
noncomputable def dB:FSp:=fun as st Q=>∃(n:Nat) (R:List Rd) (t:Nat × Nat),as=[.ref n,fr t]∧st[n]?=some (.lst (R.map rdV))∧(∀r∈R,qK r)∧Sz 60 t∧∀o:Option (Nat × Nat),(∀p,o=some p→Sz 200 p)→IsOff (R.map Rd.r) (val t) (o.map val)→Q (tw o) st
theorem oY:Mo dB:=by walk_at "MO"
theorem rB:Ln dB 2:=by walk_at "LN"
noncomputable def dy:FSp:=fun as st Q=>∃(n:Nat) (R:List Rd) (w:Bool) (t:Nat × Nat),as=[.ref n,.bl w,fr t]∧st[n]?=some (.lst (R.map rdV))∧(∀r∈R,qK r)∧R.length≤20∧Sz 60 t∧∀o:Option Fr2,(∀p,o=some p→Sz 200 p.1∧Sz 200 p.2)→(w=true→IsOut (R.map Rd.r) (val t) (o.map v2))→(w=false→IsOff (R.map Rd.r) (val t) (o.map fun p=>val p.2)∧∀p,o=some p→p.1=t)→Q (o2V o) st
theorem oG:Mo dy:=by walk_at "MO"
theorem sE:Ln dy 3:=by walk_at "LN"
noncomputable def bC:FSp:=fun as st Q=>∃(p:Nat × Nat) (e:Nat),as=[fr p,.int e]∧Sz 200 p∧0<e∧e≤10 ^ 11∧Q (fr (am p.1 (p.2*e))) st
theorem kj:Mo bC:=by walk_at "MO"
theorem lU:Ln bC 2:=by walk_at "LN"
noncomputable def cy:FSp:=fun as st Q=>∃(n e:Nat) (M R:List Rd) (t:Nat × Nat),as=[.tup (M.map fun r=>rqV (r.q e)),.ref n,.int e,fr t]∧st[n]?=some (.lst (R.map rdV))∧(∀r∈R,qK r)∧R.length≤20∧M.Perm R∧0<e∧e≤10 ^ 11∧Sz 60 t∧Q (.bl true) st
theorem mV:Mo cy:=by walk_at "MO"
theorem nj:Ln cy 4:=by walk_at "LN"
noncomputable def Γ:Nat→FSp
 | 0=>aI
 | 1=>cC
 | 2=>cF
 | 3=>cO
 | 4=>bM
 | 5=>cw
 | 6=>ej
 | 7=>iw
 | 8=>iH
 | 9=>cR
 | 10=>cV
 | 11=>dh
 | 12=>dz
 | 13=>dc
 | 14=>bI
 | 15=>bO
 | 16=>cX
 | 17=>cM
 | 18=>cq
 | 19=>cz
 | 20=>db
 | 21=>bN
 | 22=>cu
 | 23=>dB
 | 24=>dy
 | 25=>bC
 | 26=>cy
 | 27=>je
 | _=>fun _ _ _=>False
theorem Γ_0:Γ 0=aI:=id rfl
theorem Γ_1:Γ 1=cC:=id rfl
theorem Γ_2:Γ 2=cF:=id rfl
theorem Γ_3:Γ 3=cO:=id rfl
theorem Γ_4:Γ 4=bM:=id rfl
theorem Γ_5:Γ 5=cw:=id rfl
theorem Γ_6:Γ 6=ej:=id rfl
theorem Γ_7:Γ 7=iw:=id rfl
theorem Γ_8:Γ 8=iH:=id rfl
theorem Γ_9:Γ 9=cR:=id rfl
theorem qI:Γ 10=cV:=id rfl
theorem qA:Γ 11=dh:=id rfl
theorem qH:Γ 12=dz:=id rfl
theorem qT:Γ 13=dc:=id rfl
theorem qS:Γ 14=bI:=id rfl
theorem sC:Γ 15=bO:=id rfl
theorem sx:Γ 16=cX:=id rfl
theorem q5:Γ 17=cM:=id rfl
theorem qx:Γ 18=cq:=id rfl
theorem rK:Γ 19=cz:=id rfl
theorem qv:Γ 20=db:=id rfl
theorem qM:Γ 21=bN:=id rfl
theorem se:Γ 22=cu:=id rfl
theorem rN:Γ 23=dB:=id rfl
theorem sm:Γ 24=dy:=id rfl
theorem rT:Γ 25=bC:=id rfl
theorem rV:Γ 26=cy:=id rfl
theorem so:Γ 27=je:=id rfl
theorem Γm:bq Γ:=by
 intro f vs st Q Q' h q
 match f,q with
 | 0,q=>exact i9 (st:=st) h q
 | 1,q=>exact o9 (st:=st) h q
 | 2,q=>exact oN (st:=st) h q
 | 3,q=>exact oj (st:=st) h q
 | 4,q=>exact mf (st:=st) h q
 | 5,q=>exact mU (st:=st) h q
 | 6,q=>exact q0 (st:=st) h q
 | 7,q=>exact uS (st:=st) h q
 | 8,q=>exact vA (st:=st) h q
 | 9,q=>exact nE (st:=st) h q
 | 10,q=>exact nu (st:=st) h q
 | 11,q=>exact sM (st:=st) h q
 | 12,q=>exact pj (st:=st) h q
 | 13,q=>exact oq (st:=st) h q
 | 14,q=>exact ms (st:=st) h q
 | 15,q=>exact lS (st:=st) h q
 | 16,q=>exact n8 (st:=st) h q
 | 17,q=>exact oB (st:=st) h q
 | 18,q=>exact mJ (st:=st) h q
 | 19,q=>exact mX (st:=st) h q
 | 20,q=>exact nZ (st:=st) h q
 | 21,q=>exact lY (st:=st) h q
 | 22,q=>exact mN (st:=st) h q
 | 23,q=>exact oY (st:=st) h q
 | 24,q=>exact oG (st:=st) h q
 | 25,q=>exact kj (st:=st) h q
 | 26,q=>exact mV (st:=st) h q
 | 27,q=>exact xO (st:=st) h q
 | _+28,q=>exact q.elim
noncomputable def de:List Str:=["common_divisor","fraction","is_below","crosswise","on_straight","has_moment","come_by","offer","falls","best_from","is_better","set_out","_law_pot","_law_take","_law_moment","_law_points","_law_late","_law_ride","_law_chain","_law_rides","_law_part","_law_handed","_law_comes","_law_raw","_law_due","_law_as_told","_law_right","law"]
noncomputable def cK:List Str:=["abs","max","len","divmod","range","zip","tuple","sorted","set","min"]
noncomputable def glL:List (Str × PV):=[]
noncomputable abbrev ax:Stmt:=top 1
theorem lQ:ai ["n","d"] ["n","d"] (aa ax):=⟨rfl,rfl,rfl,by decide +kernel,rfl,by decide +kernel,by decide +kernel⟩
noncomputable def dv:Cfg:={ N:=["n","d"],names:=(aa ax).names,fns:=de,lim:=0,blts:=cK,gl:=glL }
noncomputable def cj:Ss:=(.cons (.whileS (.cmp .NotEq (.var 1) (.int 0)) (.cons (.par 0 1 (.var 1) (.bin .Mod (.var 0) (.var 1))) .nil)) (.cons (.ret (.var 0)) .nil))
theorem mw:aE dv cj (ac ax)=true:=by decide +kernel
noncomputable abbrev bL:Stmt:=top 2
theorem sR:ai ["n","d","divisor"] ["n","d"] (aa bL):=⟨rfl,rfl,rfl,by decide +kernel,rfl,by decide +kernel,by decide +kernel⟩
noncomputable def jA:Cfg:={ N:=["n","d","divisor"],names:=(aa bL).names,fns:=de,lim:=1,blts:=cK,gl:=glL }
noncomputable def e7:Ss:=(.cons (.set (.name 2) (.call 0 (.cons (.var 0) (.cons (.var 1) .nil)))) (.cons (.ret (.tup (.cons (.bin .FloorDiv (.var 0) (.var 2)) (.cons (.bin .FloorDiv (.var 1) (.var 2)) .nil)))) .nil))
theorem vd:aE jA e7 (ac bL)=true:=by decide +kernel
noncomputable abbrev bP:Stmt:=top 3
theorem uj:ai ["one","other"] ["one","other"] (aa bP):=⟨rfl,rfl,rfl,by decide +kernel,rfl,by decide +kernel,by decide +kernel⟩
noncomputable def ji:Cfg:={ N:=["one","other"],names:=(aa bP).names,fns:=de,lim:=2,blts:=cK,gl:=glL }
noncomputable def fq:Ss:=(.cons (.ret (.cmp .Lt (.bin .Mult (.ix (.var 0) (.int 0)) (.ix (.var 1) (.int 1))) (.bin .Mult (.ix (.var 1) (.int 0)) (.ix (.var 0) (.int 1))))) .nil)
theorem vm:aE ji fq (ac bP)=true:=by decide +kernel
noncomputable abbrev bx:Stmt:=top 5
theorem sh:ai ["one","other"] ["one","other"] (aa bx):=⟨rfl,rfl,rfl,by decide +kernel,rfl,by decide +kernel,by decide +kernel⟩
noncomputable def iE:Cfg:={ N:=["one","other"],names:=(aa bx).names,fns:=de,lim:=3,blts:=cK,gl:=glL }
noncomputable def eP:Ss:=(.cons (.ret (.bin .Sub (.bin .Mult (.ix (.var 0) (.int 0)) (.ix (.var 1) (.int 1))) (.bin .Mult (.ix (.var 1) (.int 0)) (.ix (.var 0) (.int 1))))) .nil)
theorem ur:aE iE eP (ac bx)=true:=by decide +kernel
noncomputable abbrev aL:Stmt:=top 6
theorem nG:ai ["near","far","x","near_x","near_y","far_x","far_y","done","left","above"] ["near","far","x"] (aa aL):=⟨rfl,rfl,rfl,by decide +kernel,rfl,by decide +kernel,by decide +kernel⟩
noncomputable def fk:Cfg:={ N:=["near","far","x","near_x","near_y","far_x","far_y","done","left","above"],names:=(aa aL).names,fns:=de,lim:=4,blts:=cK,gl:=glL }
noncomputable def dr:Ss:=(.cons (.set (.tup (.cons (.tup (.cons (.name 3) (.cons (.name 4) .nil))) (.cons (.tup (.cons (.name 5) (.cons (.name 6) .nil))) .nil))) (.tup (.cons (.var 0) (.cons (.var 1) .nil)))) (.cons (.set (.name 7) (.bin .Mult (.call 3 (.cons (.var 2) (.cons (.var 3) .nil))) (.ix (.var 5) (.int 1)))) (.cons (.set (.name 8) (.bin .Mult (.call 3 (.cons (.var 5) (.cons (.var 2) .nil))) (.ix (.var 3) (.int 1)))) (.cons (.set (.name 9) (.bin .Add (.bin .Mult (.bin .Mult (.ix (.var 4) (.int 0)) (.ix (.var 6) (.int 1))) (.var 8)) (.bin .Mult (.bin .Mult (.ix (.var 6) (.int 0)) (.ix (.var 4) (.int 1))) (.var 7)))) (.cons (.ret (.call 1 (.cons (.var 9) (.cons (.bin .Mult (.bin .Mult (.ix (.var 4) (.int 1)) (.ix (.var 6) (.int 1))) (.bin .Add (.var 8) (.var 7))) .nil)))) .nil)))))
theorem pf:aE fk dr (ac aL)=true:=by decide +kernel
noncomputable abbrev aW:Stmt:=top 8
theorem oM:ai ["ride","t"] ["ride","t"] (aa aW):=⟨rfl,rfl,rfl,by decide +kernel,rfl,by decide +kernel,by decide +kernel⟩
noncomputable def fH:Cfg:={ N:=["ride","t"],names:=(aa aW).names,fns:=de,lim:=5,blts:=cK,gl:=glL }
noncomputable def dH:Ss:=(.cons (.ret (.bop true (.cons (.not (.call 2 (.cons (.var 1) (.cons (.ix (.var 0) (.int 0)) .nil)))) (.cons (.not (.call 2 (.cons (.ix (.var 0) (.int 1)) (.cons (.var 1) .nil)))) .nil)))) .nil)
theorem rk:aE fH dH (ac aW)=true:=by decide +kernel
noncomputable abbrev cG:Stmt:=top 9
theorem vf:ai ["ride","t","first","last","come","comes"] ["ride","t"] (aa cG):=⟨rfl,rfl,rfl,by decide +kernel,rfl,by decide +kernel,by decide +kernel⟩
noncomputable def mt:Cfg:={ N:=["ride","t","first","last","come","comes"],names:=(aa cG).names,fns:=de,lim:=6,blts:=cK,gl:=glL }
noncomputable def gY:Ss:=(.cons (.set (.tup (.cons (.name 2) (.cons (.name 3) (.cons (.name 4) (.cons (.name 5) .nil))))) (.var 0)) (.cons (.ifS (.cmp .Eq (.var 2) (.var 3)) (.cons (.ret (.var 4)) .nil) .nil) (.cons (.ret (.call 4 (.cons (.tup (.cons (.var 2) (.cons (.var 4) .nil))) (.cons (.tup (.cons (.var 3) (.cons (.var 5) .nil))) (.cons (.var 1) .nil))))) .nil)))
theorem xr:aE mt gY (ac cG)=true:=by decide +kernel
noncomputable abbrev eZ:Stmt:=top 10
theorem yZ:ai ["rides","t","least","ride","come"] ["rides","t"] (aa eZ):=⟨rfl,rfl,rfl,by decide +kernel,rfl,by decide +kernel,by decide +kernel⟩
noncomputable def qG:Cfg:={ N:=["rides","t","least","ride","come"],names:=(aa eZ).names,fns:=de,lim:=7,blts:=cK,gl:=glL }
noncomputable def jz:Ss:=(.cons (.set (.name 2) .non) (.cons (.forS (.name 3) (.seq (.var 0)) (.cons (.ifS (.call 5 (.cons (.var 3) (.cons (.var 1) .nil))) (.cons (.set (.name 4) (.call 6 (.cons (.var 3) (.cons (.var 1) .nil)))) (.cons (.ifS (.bop false (.cons (.cmp .Is (.var 2) .non) (.cons (.call 2 (.cons (.var 4) (.cons (.var 2) .nil))) .nil))) (.cons (.set (.name 2) (.var 4)) .nil) .nil) .nil)) .nil) .nil)) (.cons (.ret (.var 2)) .nil)))
theorem A2:aE qG jz (ac eZ)=true:=by decide +kernel
noncomputable abbrev eX:Stmt:=top 11
theorem xU:ai ["ride"] ["ride"] (aa eX):=⟨rfl,rfl,rfl,by decide +kernel,rfl,by decide +kernel,by decide +kernel⟩
noncomputable def rg:Cfg:={ N:=["ride"],names:=(aa eX).names,fns:=de,lim:=8,blts:=cK,gl:=glL }
noncomputable def js:Ss:=(.cons (.ret (.call 2 (.cons (.ix (.var 0) (.int 3)) (.cons (.ix (.var 0) (.int 2)) .nil)))) .nil)
theorem zY:aE rg js (ac eX)=true:=by decide +kernel
noncomputable abbrev br:Stmt:=top 12
theorem sF:ai ["ride","t","out"] ["ride","t"] (aa br):=⟨rfl,rfl,rfl,by decide +kernel,rfl,by decide +kernel,by decide +kernel⟩
noncomputable def iF:Cfg:={ N:=["ride","t","out"],names:=(aa br).names,fns:=de,lim:=9,blts:=cK,gl:=glL }
noncomputable def eB:Ss:=(.cons (.ifS (.call 8 (.cons (.var 0) .nil)) (.cons (.ret (.tup (.cons (.ix (.var 0) (.int 1)) (.cons (.ix (.var 0) (.int 3)) .nil)))) .nil) .nil) (.cons (.set (.name 2) (.ite (.call 2 (.cons (.ix (.var 0) (.int 0)) (.cons (.var 1) .nil))) (.var 1) (.ix (.var 0) (.int 0)))) (.cons (.ret (.tup (.cons (.var 2) (.cons (.call 6 (.cons (.var 0) (.cons (.var 2) .nil))) .nil)))) .nil)))
theorem t0:aE iF eB (ac br)=true:=by decide +kernel
noncomputable abbrev bv:Stmt:=top 13
theorem rX:ai ["pair","best"] ["pair","best"] (aa bv):=⟨rfl,rfl,rfl,by decide +kernel,rfl,by decide +kernel,by decide +kernel⟩
noncomputable def iL:Cfg:={ N:=["pair","best"],names:=(aa bv).names,fns:=de,lim:=10,blts:=cK,gl:=glL }
noncomputable def eQ:Ss:=(.cons (.ifS (.cmp .Eq (.ix (.var 0) (.int 1)) (.ix (.var 1) (.int 1))) (.cons (.ret (.call 2 (.cons (.ix (.var 0) (.int 0)) (.cons (.ix (.var 1) (.int 0)) .nil)))) .nil) .nil) (.cons (.ret (.call 2 (.cons (.ix (.var 0) (.int 1)) (.cons (.ix (.var 1) (.int 1)) .nil)))) .nil))
theorem sW:aE iL eQ (ac bv)=true:=by decide +kernel
noncomputable abbrev cH:Stmt:=top 14
theorem uL:ai ["rides","wait","t","come","best","ride","pair"] ["rides","wait","t"] (aa cH):=⟨rfl,rfl,rfl,by decide +kernel,rfl,by decide +kernel,by decide +kernel⟩
noncomputable def lV:Cfg:={ N:=["rides","wait","t","come","best","ride","pair"],names:=(aa cH).names,fns:=de,lim:=11,blts:=cK,gl:=glL }
noncomputable def gZ:Ss:=(.cons (.ifS (.not (.var 1)) (.cons (.set (.name 3) (.call 7 (.cons (.var 0) (.cons (.var 2) .nil)))) (.cons (.ret (.ite (.cmp .Is (.var 3) .non) .non (.tup (.cons (.var 2) (.cons (.var 3) .nil))))) .nil)) .nil) (.cons (.set (.name 4) .non) (.cons (.forS (.name 5) (.seq (.var 0)) (.cons (.ifS (.not (.call 2 (.cons (.ix (.var 5) (.int 1)) (.cons (.var 2) .nil)))) (.cons (.set (.name 6) (.call 9 (.cons (.var 5) (.cons (.var 2) .nil)))) (.cons (.ifS (.bop false (.cons (.cmp .Is (.var 4) .non) (.cons (.call 10 (.cons (.var 6) (.cons (.var 4) .nil))) .nil))) (.cons (.set (.name 4) (.var 6)) .nil) .nil) .nil)) .nil) .nil)) (.cons (.ret (.var 4)) .nil))))
theorem wR:aE lV gZ (ac cH)=true:=by decide +kernel
noncomputable abbrev bR:Stmt:=top 16
theorem tj:ai ["_law_script","_law_k","_law_cell"] ["_law_script","_law_k"] (aa bR):=⟨rfl,rfl,rfl,by decide +kernel,rfl,by decide +kernel,by decide +kernel⟩
noncomputable def jw:Cfg:={ N:=["_law_script","_law_k","_law_cell"],names:=(aa bR).names,fns:=de,lim:=12,blts:=cK,gl:=glL }
noncomputable def fm:Ss:=(.cons (.set (.name 2) (.ite (.cmp .Lt (.var 1) (.blt .len (.cons (.var 0) .nil))) (.ix (.var 0) (.var 1)) (.int 0))) (.cons (.ret (.lst (.cons (.blt .max2 (.cons (.int 0) (.cons (.bin .Sub (.blt .abs1 (.cons (.var 2) .nil)) (.bin .Pow (.int 10) (.int 18))) .nil))) (.cons (.bin .Add (.bin .Add (.bin .Mod (.blt .abs1 (.cons (.var 2) .nil)) (.int 2147483629)) (.bin .Mult (.int 97) (.var 1))) (.int 1)) .nil)))) .nil))
theorem vC:aE jw fm (ac bR)=true:=by decide +kernel
noncomputable abbrev bp:Stmt:=top 17
theorem rS:ai ["_law_pot_here","_law_many","_law_digit"] ["_law_pot_here","_law_many"] (aa bp):=⟨rfl,rfl,rfl,by decide +kernel,rfl,by decide +kernel,by decide +kernel⟩
noncomputable def iP:Cfg:={ N:=["_law_pot_here","_law_many","_law_digit"],names:=(aa bp).names,fns:=de,lim:=13,blts:=cK,gl:=glL }
noncomputable def em:Ss:=(.cons (.ifS (.cmp .Gt (.ix (.var 0) (.int 0)) (.int 0)) (.cons (.set (.tup (.cons (.sub (.var 0) (.int 0)) (.cons (.name 2) .nil))) (.blt .divmod (.cons (.ix (.var 0) (.int 0)) (.cons (.var 1) .nil)))) (.cons (.ret (.var 2)) .nil)) .nil) (.cons (.set (.sub (.var 0) (.int 1)) (.bin .Mod (.bin .Add (.bin .Mult (.ix (.var 0) (.int 1)) (.int 48271)) (.int 12345)) (.int 2147483647))) (.cons (.ret (.bin .Mod (.bin .FloorDiv (.bin .Mod (.bin .Mult (.ix (.var 0) (.int 1)) (.ix (.var 0) (.int 1))) (.int 2147483629)) (.int 5)) (.var 1))) .nil)))
theorem sO:aE iP em (ac bp)=true:=by decide +kernel
noncomputable abbrev aO:Stmt:=top 18
theorem nU:ai ["_law_n","_law_d","_law_left","_law_right_here"] ["_law_n","_law_d"] (aa aO):=⟨rfl,rfl,rfl,by decide +kernel,rfl,by decide +kernel,by decide +kernel⟩
noncomputable def fb:Cfg:={ N:=["_law_n","_law_d","_law_left","_law_right_here"],names:=(aa aO).names,fns:=de,lim:=14,blts:=cK,gl:=glL }
noncomputable def du:Ss:=(.cons (.par 2 3 (.var 0) (.var 1)) (.cons (.whileS (.cmp .Gt (.var 3) (.int 0)) (.cons (.par 2 3 (.var 3) (.bin .Mod (.var 2) (.var 3))) .nil)) (.cons (.ret (.tup (.cons (.bin .FloorDiv (.var 0) (.var 2)) (.cons (.bin .FloorDiv (.var 1) (.var 2)) .nil)))) .nil)))
theorem oU:aE fb du (ac aO)=true:=by decide +kernel
noncomputable abbrev aM:Stmt:=top 19
theorem nI:ai ["_law_pot_here","_law_found","_law_k"] ["_law_pot_here"] (aa aM):=⟨rfl,rfl,rfl,by decide +kernel,rfl,by decide +kernel,by decide +kernel⟩
noncomputable def ft:Cfg:={ N:=["_law_pot_here","_law_found","_law_k"],names:=(aa aM).names,fns:=de,lim:=15,blts:=cK,gl:=glL }
noncomputable def dl:Ss:=(.cons (.set (.name 1) (.lst (.cons (.tmp (.ix (.lst (.cons (.int 0) (.cons (.call 13 (.cons (.var 0) (.cons (.int 4) .nil))) (.cons (.call 13 (.cons (.var 0) (.cons (.bin .Pow (.int 10) (.int 9)) .nil))) .nil)))) (.call 13 (.cons (.var 0) (.cons (.int 3) .nil))))) .nil))) (.cons (.forS (.name 2) (.range1 (.bin .Add (.int 1) (.call 13 (.cons (.var 0) (.cons (.int 5) .nil))))) (.cons (.expr (.met .append (.var 1) (.cons (.bin .Add (.bin .Add (.ix (.var 1) (.neg (.int 1))) (.int 1)) (.call 13 (.cons (.var 0) (.cons (.ix (.tup (.cons (.int 2) (.cons (.int 7) (.cons (.bin .Pow (.int 10) (.int 9)) .nil)))) (.call 13 (.cons (.var 0) (.cons (.int 3) .nil)))) .nil)))) .nil))) .nil)) (.cons (.ret (.var 1)) .nil)))
theorem o8:aE ft dl (ac aM)=true:=by decide +kernel
noncomputable abbrev bn:Stmt:=top 20
theorem su:ai ["_law_pot_here"] ["_law_pot_here"] (aa bn):=⟨rfl,rfl,rfl,by decide +kernel,rfl,by decide +kernel,by decide +kernel⟩
noncomputable def iM:Cfg:={ N:=["_law_pot_here"],names:=(aa bn).names,fns:=de,lim:=16,blts:=cK,gl:=glL }
noncomputable def eC:Ss:=(.cons (.ret (.tmp (.ix (.lst (.cons (.int 0) (.cons (.call 13 (.cons (.var 0) (.cons (.int 3) .nil))) (.cons (.call 13 (.cons (.var 0) (.cons (.int 9) .nil))) (.cons (.call 13 (.cons (.var 0) (.cons (.bin .Pow (.int 10) (.int 9)) .nil))) .nil))))) (.call 13 (.cons (.var 0) (.cons (.int 4) .nil)))))) .nil)
theorem sZ:aE iM eC (ac bn)=true:=by decide +kernel
noncomputable abbrev bo:Stmt:=top 21
theorem q_:ai ["_law_pot_here","_law_points_here","_law_a","_law_b","_law_come"] ["_law_pot_here","_law_points_here"] (aa bo):=⟨rfl,rfl,rfl,by decide +kernel,rfl,by decide +kernel,by decide +kernel⟩
noncomputable def ip:Cfg:={ N:=["_law_pot_here","_law_points_here","_law_a","_law_b","_law_come"],names:=(aa bo).names,fns:=de,lim:=17,blts:=cK,gl:=glL }
noncomputable def eK:Ss:=(.cons (.set (.name 2) (.call 13 (.cons (.var 0) (.cons (.blt .len (.cons (.var 1) .nil)) .nil)))) (.cons (.set (.name 3) (.bin .Add (.var 2) (.call 13 (.cons (.var 0) (.cons (.bin .Sub (.blt .len (.cons (.var 1) .nil)) (.var 2)) .nil))))) (.cons (.set (.name 4) (.bin .Add (.ix (.var 1) (.var 2)) (.call 16 (.cons (.var 0) .nil)))) (.cons (.ifS (.cmp .Eq (.var 2) (.var 3)) (.cons (.ret (.tup (.cons (.ix (.var 1) (.var 2)) (.cons (.ix (.var 1) (.var 2)) (.cons (.var 4) (.cons (.var 4) .nil)))))) .nil) .nil) (.cons (.ret (.tup (.cons (.ix (.var 1) (.var 2)) (.cons (.ix (.var 1) (.var 3)) (.cons (.var 4) (.cons (.bin .Add (.ix (.var 1) (.var 3)) (.call 16 (.cons (.var 0) .nil))) .nil)))))) .nil)))))
theorem tM:aE ip eK (ac bo)=true:=by decide +kernel
noncomputable abbrev aY:Stmt:=top 22
theorem o6:ai ["_law_pot_here","_law_points_here","_law_found","_law_height","_law_first","_law_final","_law_come"] ["_law_pot_here","_law_points_here"] (aa aY):=⟨rfl,rfl,rfl,by decide +kernel,rfl,by decide +kernel,by decide +kernel⟩
noncomputable def fY:Cfg:={ N:=["_law_pot_here","_law_points_here","_law_found","_law_height","_law_first","_law_final","_law_come"],names:=(aa aY).names,fns:=de,lim:=18,blts:=cK,gl:=glL }
noncomputable def dN:Ss:=(.cons (.set (.name 2) (.lst .nil)) (.cons (.set (.name 3) (.int 0)) (.cons (.forS (.tup (.cons (.name 4) (.cons (.name 5) .nil))) (.zip (.var 1) (.sl (.var 1) (.yes (.int 1)) .no)) (.cons (.set (.name 6) (.bin .Add (.blt .max2 (.cons (.var 3) (.cons (.var 4) .nil))) (.bin .Mult (.call 16 (.cons (.var 0) .nil)) (.call 13 (.cons (.var 0) (.cons (.int 2) .nil)))))) (.cons (.set (.name 3) (.bin .Add (.blt .max2 (.cons (.var 6) (.cons (.var 5) .nil))) (.bin .Mult (.call 16 (.cons (.var 0) .nil)) (.call 13 (.cons (.var 0) (.cons (.int 2) .nil)))))) (.cons (.expr (.met .append (.var 2) (.cons (.tup (.cons (.var 4) (.cons (.var 5) (.cons (.var 6) (.cons (.var 3) .nil))))) .nil))) .nil)))) (.cons (.ret (.var 2)) .nil))))
theorem sf:aE fY dN (ac aY)=true:=by decide +kernel
noncomputable abbrev a_:Stmt:=top 23
theorem pq:ai ["_law_pot_here","_law_points_here","_law_way","_law_found"] ["_law_pot_here"] (aa a_):=⟨rfl,rfl,rfl,by decide +kernel,rfl,by decide +kernel,by decide +kernel⟩
noncomputable def fL:Cfg:={ N:=["_law_pot_here","_law_points_here","_law_way","_law_found"],names:=(aa a_).names,fns:=de,lim:=19,blts:=cK,gl:=glL }
noncomputable def dM:Ss:=(.cons (.set (.name 1) (.call 15 (.cons (.var 0) .nil))) (.cons (.set (.name 2) (.call 13 (.cons (.var 0) (.cons (.int 4) .nil)))) (.cons (.ifS (.cmp .Eq (.var 2) (.int 0)) (.cons (.ret (.call 18 (.cons (.var 0) (.cons (.bin .Add (.lst (.cons (.int 0) .nil)) (.sl (.var 1) (.yes (.int 1)) .no)) .nil)))) .nil) .nil) (.cons (.set (.name 3) (.comp (.call 17 (.cons (.var 1) (.cons (.var 2) .nil))) (.name 0) (.range1 (.call 13 (.cons (.var 0) (.cons (.int 6) .nil)))) .nil ["_law_k"] [0,1])) (.cons (.ifS (.cmp .Eq (.var 2) (.int 1)) (.cons (.set (.name 3) (.bin .Add (.sl (.var 3) .no (.yes (.int 2))) (.call 18 (.cons (.var 0) (.cons (.bin .Add (.lst (.cons (.int 0) .nil)) (.sl (.var 1) (.yes (.int 1)) (.yes (.int 4)))) .nil))))) .nil) .nil) (.cons (.ret (.var 3)) .nil))))))
theorem sG:aE fL dM (ac a_)=true:=by decide +kernel
noncomputable abbrev bz:Stmt:=top 24
theorem qX:ai ["_law_pot_here"] ["_law_pot_here"] (aa bz):=⟨rfl,rfl,rfl,by decide +kernel,rfl,by decide +kernel,by decide +kernel⟩
noncomputable def iI:Cfg:={ N:=["_law_pot_here"],names:=(aa bz).names,fns:=de,lim:=20,blts:=cK,gl:=glL }
noncomputable def eS:Ss:=(.cons (.ret (.bin .Add (.int 1) (.call 13 (.cons (.var 0) (.cons (.ix (.tup (.cons (.int 1) (.cons (.int 2) (.cons (.int 12) (.cons (.bin .Pow (.int 10) (.int 11)) .nil))))) (.call 13 (.cons (.var 0) (.cons (.int 4) .nil)))) .nil))))) .nil)
theorem uk:aE iI eS (ac bz)=true:=by decide +kernel
noncomputable abbrev aN:Stmt:=top 25
theorem nM:ai ["_law_pot_here","_law_rides_here","_law_part_here","_law_found","_law_ride_here"] ["_law_pot_here","_law_rides_here","_law_part_here"] (aa aN):=⟨rfl,rfl,rfl,by decide +kernel,rfl,by decide +kernel,by decide +kernel⟩
noncomputable def ff:Cfg:={ N:=["_law_pot_here","_law_rides_here","_law_part_here","_law_found","_law_ride_here"],names:=(aa aN).names,fns:=de,lim:=21,blts:=cK,gl:=glL }
noncomputable def dq:Ss:=(.cons (.set (.name 3) (.lst .nil)) (.cons (.forS (.name 4) (.seq (.var 1)) (.cons (.expr (.met .insert (.var 3) (.cons (.call 13 (.cons (.var 0) (.cons (.bin .Add (.blt .len (.cons (.var 3) .nil)) (.int 1)) .nil))) (.cons (.tmp (.blt .tuple1 (.cons (.comp (.call 14 (.cons (.var 0) (.cons (.var 1) .nil))) (.name 0) (.seq (.var 4)) .nil ["_law_number"] [2]) .nil))) .nil)))) .nil)) (.cons (.ret (.blt .tuple1 (.cons (.var 3) .nil))) .nil)))
theorem o_:aE ff dq (ac aN)=true:=by decide +kernel
noncomputable abbrev ba:Stmt:=top 26
theorem oW:ai ["_law_ride_here","_law_t","_law_first","_law_final","_law_come","_law_comes_here","_law_left","_law_done"] ["_law_ride_here","_law_t"] (aa ba):=⟨rfl,rfl,rfl,by decide +kernel,rfl,by decide +kernel,by decide +kernel⟩
noncomputable def gX:Cfg:={ N:=["_law_ride_here","_law_t","_law_first","_law_final","_law_come","_law_comes_here","_law_left","_law_done"],names:=(aa ba).names,fns:=de,lim:=22,blts:=cK,gl:=glL }
noncomputable def dL:Ss:=(.cons (.set (.tup (.cons (.name 2) (.cons (.name 3) (.cons (.name 4) (.cons (.name 5) .nil))))) (.var 0)) (.cons (.ifS (.cmp .Eq (.var 2) (.var 3)) (.cons (.ret (.tup (.cons (.var 4) (.cons (.int 1) .nil)))) .nil) .nil) (.cons (.par 6 7 (.bin .Sub (.bin .Mult (.var 3) (.ix (.var 1) (.int 1))) (.ix (.var 1) (.int 0))) (.bin .Sub (.ix (.var 1) (.int 0)) (.bin .Mult (.var 2) (.ix (.var 1) (.int 1))))) (.cons (.ret (.tup (.cons (.bin .Add (.bin .Mult (.var 4) (.var 6)) (.bin .Mult (.var 5) (.var 7))) (.cons (.bin .Mult (.bin .Sub (.var 3) (.var 2)) (.ix (.var 1) (.int 1))) .nil)))) .nil))))
theorem rq:aE gX dL (ac ba)=true:=by decide +kernel
noncomputable abbrev bS:Stmt:=top 27
theorem t6:ai ["_law_rides_here","_law_t","_law_found","_law_ride_here","_law_one"] ["_law_rides_here","_law_t"] (aa bS):=⟨rfl,rfl,rfl,by decide +kernel,rfl,by decide +kernel,by decide +kernel⟩
noncomputable def jm:Cfg:={ N:=["_law_rides_here","_law_t","_law_found","_law_ride_here","_law_one"],names:=(aa bS).names,fns:=de,lim:=23,blts:=cK,gl:=glL }
noncomputable def fo:Ss:=(.cons (.set (.name 2) .non) (.cons (.forS (.name 3) (.seq (.var 0)) (.cons (.ifS (.bop true (.cons (.cmp .LtE (.bin .Mult (.ix (.var 3) (.int 0)) (.ix (.var 1) (.int 1))) (.ix (.var 1) (.int 0))) (.cons (.cmp .LtE (.ix (.var 1) (.int 0)) (.bin .Mult (.ix (.var 3) (.int 1)) (.ix (.var 1) (.int 1)))) .nil))) (.cons (.set (.name 4) (.call 22 (.cons (.var 3) (.cons (.var 1) .nil)))) (.cons (.ifS (.bop false (.cons (.cmp .Is (.var 2) .non) (.cons (.cmp .Lt (.bin .Mult (.ix (.var 4) (.int 0)) (.ix (.var 2) (.int 1))) (.bin .Mult (.ix (.var 2) (.int 0)) (.ix (.var 4) (.int 1)))) .nil))) (.cons (.set (.name 2) (.var 4)) .nil) .nil) .nil)) .nil) .nil)) (.cons (.ret (.var 2)) .nil)))
theorem uY:aE jm fo (ac bS)=true:=by decide +kernel
noncomputable abbrev bQ:Stmt:=top 28
theorem tU:ai ["_law_rides_here","_law_wait","_law_t","_law_moments","_law_ends","_law_found","_law_moment_here","_law_one"] ["_law_rides_here","_law_wait","_law_t"] (aa bQ):=⟨rfl,rfl,rfl,by decide +kernel,rfl,by decide +kernel,by decide +kernel⟩
noncomputable def jy:Cfg:={ N:=["_law_rides_here","_law_wait","_law_t","_law_moments","_law_ends","_law_found","_law_moment_here","_law_one"],names:=(aa bQ).names,fns:=de,lim:=24,blts:=cK,gl:=glL }
noncomputable def fh:Ss:=(.cons (.set (.name 3) (.lst (.cons (.var 2) .nil))) (.cons (.ifS (.var 1) (.cons (.set (.name 4) (.bin .Add (.comp (.ix (.var 0) (.int 0)) (.name 0) (.seq (.var 0)) .nil ["_law_ride_here"] []) (.comp (.ix (.var 0) (.int 1)) (.name 0) (.seq (.var 0)) .nil ["_law_ride_here"] []))) (.cons (.set (.name 3) (.bin .Add (.var 3) (.comp (.tup (.cons (.var 0) (.cons (.int 1) .nil))) (.name 0) (.seq (.sset (.var 4))) .nil ["_law_end"] []))) .nil)) .nil) (.cons (.set (.name 5) .non) (.cons (.forS (.name 6) (.seq (.var 3)) (.cons (.set (.name 7) (.call 23 (.cons (.var 0) (.cons (.var 6) .nil)))) (.cons (.ifS (.bop true (.cons (.cmp .IsNot (.var 7) .non) (.cons (.cmp .GtE (.bin .Mult (.ix (.var 6) (.int 0)) (.ix (.var 2) (.int 1))) (.bin .Mult (.ix (.var 2) (.int 0)) (.ix (.var 6) (.int 1)))) .nil))) (.cons (.ifS (.bop false (.cons (.cmp .Is (.var 5) .non) (.cons (.cmp .Lt (.bin .Mult (.ix (.var 7) (.int 0)) (.ix (.ix (.var 5) (.int 1)) (.int 1))) (.bin .Mult (.ix (.ix (.var 5) (.int 1)) (.int 0)) (.ix (.var 7) (.int 1)))) .nil))) (.cons (.set (.name 5) (.tup (.cons (.var 6) (.cons (.var 7) .nil)))) .nil) .nil) .nil) .nil) .nil))) (.cons (.ret (.var 5)) .nil)))))
theorem uK:aE jy fh (ac bQ)=true:=by decide +kernel
noncomputable abbrev aG:Stmt:=top 29
theorem mS:ai ["_law_value","_law_part_here"] ["_law_value","_law_part_here"] (aa aG):=⟨rfl,rfl,rfl,by decide +kernel,rfl,by decide +kernel,by decide +kernel⟩
noncomputable def eN:Cfg:={ N:=["_law_value","_law_part_here"],names:=(aa aG).names,fns:=de,lim:=25,blts:=cK,gl:=glL }
noncomputable def cN:Ss:=(.cons (.ret (.call 14 (.cons (.ix (.var 0) (.int 0)) (.cons (.bin .Mult (.ix (.var 0) (.int 1)) (.var 1)) .nil)))) .nil)
theorem nK:aE eN cN (ac aG)=true:=by decide +kernel
noncomputable abbrev aX:Stmt:=top 30
theorem oD:ai ["_law_handed_here","_law_rides_here","_law_part_here","_law_t","_law_here","_law_raw_here","_law_wait","_law_found","_law_due_here"] ["_law_handed_here","_law_rides_here","_law_part_here","_law_t"] (aa aX):=⟨rfl,rfl,rfl,by decide +kernel,rfl,by decide +kernel,by decide +kernel⟩
noncomputable def fM:Cfg:={ N:=["_law_handed_here","_law_rides_here","_law_part_here","_law_t","_law_here","_law_raw_here","_law_wait","_law_found","_law_due_here"],names:=(aa aX).names,fns:=de,lim:=26,blts:=cK,gl:=glL }
noncomputable def dF:Ss:=(.cons (.set (.name 4) (.call 14 (.cons (.ix (.var 3) (.int 0)) (.cons (.bin .Mult (.ix (.var 3) (.int 1)) (.var 2)) .nil)))) (.cons (.set (.name 5) (.call 23 (.cons (.var 1) (.cons (.var 3) .nil)))) (.cons (.ifS (.cmp .NotEq (.call 7 (.cons (.var 0) (.cons (.var 4) .nil))) (.ite (.cmp .Is (.var 5) .non) .non (.call 25 (.cons (.var 5) (.cons (.var 2) .nil))))) (.cons (.ret (.bl false)) .nil) .nil) (.cons (.forS (.name 6) (.seq (.tup (.cons (.bl true) (.cons (.bl false) .nil)))) (.cons (.set (.name 7) (.call 24 (.cons (.var 1) (.cons (.var 6) (.cons (.var 3) .nil))))) (.cons (.set (.name 8) .non) (.cons (.ifS (.cmp .IsNot (.var 7) .non) (.cons (.set (.name 8) (.tup (.cons (.call 25 (.cons (.ix (.var 7) (.int 0)) (.cons (.var 2) .nil))) (.cons (.call 25 (.cons (.ix (.var 7) (.int 1)) (.cons (.var 2) .nil))) .nil)))) .nil) .nil) (.cons (.ifS (.cmp .NotEq (.call 11 (.cons (.var 0) (.cons (.var 6) (.cons (.var 4) .nil)))) (.var 8)) (.cons (.ret (.bl false)) .nil) .nil) .nil))))) (.cons (.ret (.bl true)) .nil)))))
theorem qB:aE fM dF (ac aX)=true:=by decide +kernel
noncomputable abbrev jd:Stmt:=top 31
theorem Ci:ai ["_law_script","_law_k","_law_pot_here","_law_rides_here","_law_part_here","_law_handed_here","_law_stood","_law_ends","_law_moments","_law_t"] ["_law_script"] (aa jd):=⟨rfl,rfl,rfl,by decide +kernel,rfl,by decide +kernel,by decide +kernel⟩
noncomputable def Bm:Cfg:={ N:=["_law_script","_law_k","_law_pot_here","_law_rides_here","_law_part_here","_law_handed_here","_law_stood","_law_ends","_law_moments","_law_t"],names:=(aa jd).names,fns:=de,lim:=27,blts:=cK,gl:=glL }
noncomputable def nD:Ss:=(.cons (.forS (.name 1) (.range1 (.blt .max2 (.cons (.int 1) (.cons (.blt .min2 (.cons (.blt .len (.cons (.var 0) .nil)) (.cons (.int 3) .nil))) .nil)))) (.cons (.set (.name 2) (.call 12 (.cons (.var 0) (.cons (.var 1) .nil)))) (.cons (.set (.name 3) (.call 19 (.cons (.var 2) .nil))) (.cons (.set (.name 4) (.call 20 (.cons (.var 2) .nil))) (.cons (.set (.name 5) (.call 21 (.cons (.var 2) (.cons (.var 3) (.cons (.var 4) .nil))))) (.cons (.set (.name 6) (.tmp (.blt .tuple1 (.cons (.comp (.blt .tuple1 (.cons (.var 0) .nil)) (.name 0) (.seq (.var 5)) .nil ["_law_ride_here"] []) .nil)))) (.cons (.set (.name 7) (.sset (.bin .Add (.bin .Add (.lst (.cons (.int 0) (.cons (.int 1) .nil))) (.comp (.ix (.var 0) (.int 0)) (.name 0) (.seq (.var 3)) .nil ["_law_ride_here"] [])) (.comp (.ix (.var 0) (.int 1)) (.name 0) (.seq (.var 3)) .nil ["_law_ride_here"] [])))) (.cons (.set (.name 8) (.bin .Add (.comp (.tup (.cons (.var 0) (.cons (.int 1) .nil))) (.name 0) (.seq (.var 7)) .nil ["_law_end"] []) (.comp (.tup (.cons (.bin .Add (.var 0) (.var 1)) (.cons (.int 2) .nil))) (.tup (.cons (.name 0) (.cons (.name 1) .nil))) (.zip (.var 7) (.sl (.var 7) (.yes (.int 1)) .no)) .nil ["_law_one","_law_other"] []))) (.cons (.set (.name 8) (.bin .Add (.var 8) (.lst (.cons (.tup (.cons (.bin .Add (.ix (.var 7) (.neg (.int 1))) (.int 1)) (.cons (.int 1) .nil))) (.cons (.tup (.cons (.call 13 (.cons (.var 2) (.cons (.bin .Add (.bin .Mult (.int 3) (.ix (.var 7) (.neg (.int 1)))) (.int 4)) .nil))) (.cons (.int 3) .nil))) .nil))))) (.cons (.forS (.name 9) (.seq (.var 8)) (.cons (.ifS (.not (.call 26 (.cons (.var 5) (.cons (.var 3) (.cons (.var 4) (.cons (.var 9) .nil)))))) (.cons (.ret (.bl false)) .nil) .nil) .nil)) (.cons (.ifS (.cmp .NotEq (.var 5) (.var 6)) (.cons (.ret (.bl false)) .nil) .nil) .nil))))))))))) (.cons (.ret (.bl true)) .nil))
theorem DW:aE Bm nD (ac jd)=true:=by decide +kernel
local macro_rules | `(tactic| walk_at "WP")=>`(tactic| simp only [gD,fT,gL,gK,ee,li,kJ,lf,ky,g_,kO,kQ,hW,gf,fW,dR,jb,jT,lg,gE,lI,gc,oH,d5,kq,gH,fV,j7,fQ,jU,kH,qz,kP,lE,r_,lK,jL,jK,ki,lv,kT,lA,rW,jH,qF,rP,gj,ku,gG,jF,gk,lB,gQ,fO,d0,qY,ls,lC,qJ,kn,k_,kb,gz,jY,f',kw,sL,gJ,d7,ga,dW,fe,gW,d8,gi,dP,gP,jM,jO,gh,dS,bZ,dJ,cA,dG,dY,cY,lr,jJ,kd,kU,kl,lP,fG,fP,gO,fK,fD,kf,sg,lu,kD,jP,km,kW,kz,gA,jV,qQ,rY,jW,kA,gC,gR,rJ,sk,sv,sy,jE,kI,jC,ci,cZ,b8,b7,b9,b_,d9,dQ,dZ,dO,cP,cU,cL,bT,cb,bA,bX,c_,ca,bW,ce,cg,ke,kC,j6,iy,ie,lh,j9,lD,kg,lc,kG,fJ,ib,gm,j8,kh,cQ,f_,gI,kK,cS,jR,lw,q9,rj,qZ,rl,sD,ka,gu,g9,gT,frame,Γ_0,Γ_1,Γ_2,Γ_3,Γ_4,Γ_5,Γ_6,Γ_7,Γ_8,Γ_9,qI,qA,qH,qT,qS,sC,sx,q5,qx,rK,qv,qM,se,rN,sm,rT,rV,so,Nat.add_assoc,aZ,ck,List.append_assoc,List.length_append,List.length_set,List.map_cons,List.map_nil,List.length_cons,List.length_nil,List.replicate,List.cons_append,List.nil_append,List.append_nil,List.getElem?_cons_zero,List.getElem?_cons_succ,List.set_cons_zero,List.set_cons_succ,Option.some.injEq,Cell.lst.injEq,PV.int.injEq,PV.bl.injEq,PV.ref.injEq,PV.str.injEq,PV.tup.injEq,PV.rdl.injEq,List.cons.injEq,and_true,true_and,exists_eq_left,exists_eq_left',exists_eq_right,exists_and_left,exists_and_right,exists_const,Bool.not_true,Bool.not_false,Bool.not_not,Bool.not_eq_true',decide_eq_true_eq,decide_eq_false_iff_not,false_and,and_false,false_or,or_false,if_true,if_false,Bool.false_eq_true,reduceCtorEq,reduceIte,not_false_eq_true,Nat.add_zero,Nat.zero_add,Nat.reduceAdd,Nat.reduceSub,Nat.reduceLeDiff,Int.reduceToNat,Int.reducePow,Int.reduceLT,Int.reduceLE,Int.reduceNeg,Int.reduceAdd,Int.reduceSub,Int.reduceMul,gS,ef,exists_eq,exists_eq',exists_false,ne_eq,not_true_eq_false,and_assoc,Option.join_some,Option.join_none,decide_true,decide_false,fZ,fS,hV,fU,fE,gw,ic,Int.reduceEq,Nat.reduceEqDiff,Bool.not_eq_false,Bool.not_eq_true,Bool.and_true,Bool.true_and,Bool.and_false,Bool.false_and,Bool.or_false,Bool.or_true])
local macro_rules | `(tactic| walk_at "WPO")=>`(tactic| simp only [gD,fT,gL,gK,ee,li,kJ,lf,ky,g_,kO,kQ,hW,gf,fW,dR,jb,jT,lg,gE,lI,gc,oH,d5,kq,gH,fV,j7,fQ,jU,kH,qz,kP,lE,r_,lK,jL,jK,ki,lv,kT,lA,rW,jH,qF,rP,gj,ku,gG,jF,gk,lB,gQ,fO,d0,qY,ls,lC,qJ,kn,k_,kb,gz,jY,f',kw,sL,gJ,d7,ga,dW,fe,gW,d8,gi,dP,gP,jM,jO,gh,dS,bZ,dJ,cA,dG,dY,cY,lr,jJ,kd,kU,kl,lP,fG,fP,gO,fK,fD,kf,sg,lu,kD,jP,km,kW,kz,gA,jV,qQ,rY,jW,kA,gC,gR,rJ,sk,sv,sy,jE,kI,jC,ci,cZ,b8,b7,b9,b_,d9,dQ,dZ,dO,cP,cU,cL,bT,cb,bA,bX,c_,ca,bW,ce,cg,ke,kC,j6,iy,ie,lh,j9,lD,kg,lc,kG,fJ,ib,gm,j8,kh,cQ,f_,gI,kK,cS,jR,lw,q9,rj,qZ,rl,sD,ka,gu,g9,gT,frame,Γ_0,Γ_1,Γ_2,Γ_3,Γ_4,Γ_5,Γ_6,Γ_7,Γ_8,Γ_9,qI,qA,qH,qT,qS,sC,sx,q5,qx,rK,qv,qM,se,rN,sm,rT,rV,so,Nat.add_assoc,aZ,ck,List.append_assoc,List.length_append,List.length_set,List.map_cons,List.map_nil,List.length_cons,List.length_nil,List.replicate,List.cons_append,List.nil_append,List.append_nil,List.getElem?_cons_zero,List.getElem?_cons_succ,List.set_cons_zero,List.set_cons_succ,Option.some.injEq,Cell.lst.injEq,PV.int.injEq,PV.bl.injEq,PV.ref.injEq,PV.str.injEq,PV.tup.injEq,PV.rdl.injEq,List.cons.injEq,and_true,true_and,exists_eq_left,exists_eq_left',exists_eq_right,exists_and_left,exists_and_right,exists_const,Bool.not_true,Bool.not_false,Bool.not_not,Bool.not_eq_true',decide_eq_true_eq,decide_eq_false_iff_not,false_and,and_false,false_or,or_false,if_true,if_false,Bool.false_eq_true,reduceCtorEq,reduceIte,not_false_eq_true,Nat.add_zero,Nat.zero_add,Nat.reduceAdd,Nat.reduceSub,Nat.reduceLeDiff,Int.reduceToNat,Int.reducePow,Int.reduceLT,Int.reduceLE,Int.reduceNeg,Int.reduceAdd,Int.reduceSub,Int.reduceMul,gS,ef,exists_eq,exists_eq',exists_false,ne_eq,not_true_eq_false,and_assoc,Option.join_some,Option.join_none,decide_true,decide_false,fZ,fS,hV,fU,fE,gw,ic,Int.reduceEq,Nat.reduceEqDiff,Bool.not_eq_false,Bool.not_eq_true,Bool.and_true,Bool.true_and,Bool.and_false,Bool.false_and,Bool.or_false,Bool.or_true,tw])
theorem l' {as st Q} (h:aI as st Q):aq Γ cj (frame 2 as) st (ag st Q):=by
 obtain ⟨n,d,rfl,k⟩:=h
 unfold cj
 walk_at "WP"
 refine sP Γm (fun m ρ s=>∃a b:Nat,ρ=[some (.int a),some (.int b)]∧s=st∧Nat.gcd a b=Nat.gcd n d∧m=b) (n:=d) ⟨n,d,rfl,rfl,rfl,rfl⟩ ?_
 rintro m ρ s ⟨a,b,rfl,rfl,hg,rfl⟩
 walk_at "WP"
 by_cases hb:(m:Int)=0
 ·rw [if_neg (fun z=>z hb)]
  have:m=0:=by omega
  subst this
  rw [Nat.gcd_zero_right] at hg
  rw [hg]
  exact .inl k
 ·rw [if_pos hb]
  refine ⟨by omega,a % m,Nat.mod_lt _ (by omega),m,rfl,a % m,?_,?_,rfl⟩
  ·simp
  ·rw [←hg,Nat.gcd_comm a m,Nat.gcd_rec m a,Nat.gcd_comm]
theorem uX {as st Q} (h:cC as st Q):aq Γ e7 (frame 3 as) st (ag st Q):=by
 obtain ⟨n,d,rfl,h1,h2,k⟩:=h
 unfold e7
 walk_at "WP"
 refine ⟨n,d,rfl,?_⟩
 walk_at "WP"
 refine ⟨mY h1 h2,mY h1 h2,?_⟩
 rw [←Int.natCast_ediv,←Int.natCast_ediv]
 exact .inl k
theorem ng {α:Type} (U:List α):U=[]∨∃Y c,U=Y++[c]:=by
 rcases List.eq_nil_or_concat U with h|⟨Y,c,h⟩
 ·exact .inl h
 ·exact .inr ⟨Y,c,by rw [h,List.concat_eq_append]⟩
theorem n6 {p:Prop} {inst:Decidable p} {A B:Prop} (h1:p→A) (h2:¬p→B):@ite Prop p inst A B:=by
 by_cases h:p
 ·rw [if_pos h];exact h1 h
 ·rw [if_neg h];exact h2 h
theorem BdU.mono {N M:Nat} {U:List Un3} (h:BdU N U) (hm:N≤M):BdU M U:=fun u hu=>⟨Nat.le_trans (h u hu).1 hm,Nat.le_trans (h u hu).2.1 hm,Nat.le_trans (h u hu).2.2 hm⟩
theorem Rt.at_:∀ {r:List Pc} {b hh:Rat} {i:Nat} {p:Pc},Rt b hh r→r[i]?=some p→p.Ok∧p.L≤p.H∧p.E≤p.H∧b<p.E∧hh≤p.L
 | q::r,b,hh,0,p,⟨h1,h2,h3,h4,h5,h6⟩,e=>by cases e;exact ⟨h1,h4,h5,h2,h3⟩
 | q::r,b,hh,i+1,p,⟨h1,h2,h3,h4,h5,h6⟩,e=>by
  obtain ⟨k1,k2,k3,k4,k5⟩:=h6.at_ (i:=i) (by simpa using e)
  exact ⟨k1,k2,k3,by grind,by grind⟩
theorem Rt.two:∀ {r:List Pc} {b hh:Rat} {i:Nat} {q p:Pc},Rt b hh r→r[i]?=some q→r[i+1]?=some p→q.E<p.E∧q.H≤p.L
 | a::r,b,hh,0,q,p,⟨h1,h2,h3,h4,h5,h6⟩,e1,e2=>by
  cases e1
  have:=h6.at_ (i:=0) (by simpa using e2)
  exact ⟨this.2.2.2.1,this.2.2.2.2⟩
 | a::r,b,hh,i+1,q,p,⟨h1,h2,h3,h4,h5,h6⟩,e1,e2=>h6.two (i:=i) (by simpa using e1) (by simpa using e2)
theorem RtF.at_ {L:List Pc} {i:Nat} {p:Pc} (h:RtF L) (e:L[i]?=some p):p.Ok∧p.L≤p.H∧p.E≤p.H:=by
 cases L with
 | nil=>simp at e
 | cons a r =>
  cases i with
  | zero=>cases e;exact ⟨h.1,h.2.1,h.2.2.1⟩
  | succ i =>
   obtain ⟨k1,k2,k3,k4,k5⟩:=h.2.2.2.2.at_ (i:=i) (by simpa using e)
   exact ⟨k1,k2,k3⟩
theorem RtF.two {L:List Pc} {i:Nat} {q p:Pc} (h:RtF L) (e1:L[i]?=some q) (e2:L[i+1]?=some p):q.E<p.E∧q.H≤p.L:=by
 cases L with
 | nil=>simp at e1
 | cons a r =>
  cases i with
  | zero =>
   cases e1
   obtain ⟨k1,k2,k3,k4,k5⟩:=h.2.2.2.2.at_ (i:=0) (by simpa using e2)
   exact ⟨k4,k5⟩
  | succ i=>exact h.2.2.2.2.two (i:=i) (by simpa using e1) (by simpa using e2)
noncomputable def bg (L:List Pc):Nat→Nat × Nat
 | 0=>(0,1)
 | i+1=>((L[i]?).map Pc.e).getD (0,1)
noncomputable def hg (L:List Pc):Nat→Nat × Nat
 | 0=>(0,1)
 | i+1=>((L[i]?).map Pc.h).getD (0,1)
theorem nH {p q:Nat × Nat} {j:Nat} (hp:Sz j p) (hq:Sz j q) (h:val q≤val p):decide (p.1*q.2<q.1*p.2)=false:=decide_eq_false fun z=>by
 have:=(iK hp.pos hq.pos).mp z
 grind
theorem kN {p q:Nat × Nat} {j:Nat} (hp:Sz j p) (hq:Sz j q) (h:val p<val q):decide (p.1*q.2<q.1*p.2)=true:=decide_eq_true ((iK hp.pos hq.pos).mpr h)
theorem NG.at_:∀ {L:List Pc} {b:Nat × Nat} {i:Nat} {a p:Pc},NG b L→L[i]?=some a→L[i+1]?=some p→gB (if i=0 then b else bg L i) a p=false
 | [],_,_,_,_,_,e,_=>by simp at e
 | [_],_,i,_,_,_,_,e=>by simp at e
 | x::y::r,b,0,a,p,h,e1,e2=>by
  cases e1
  cases e2
  exact h.1
 | x::y::r,b,i+1,a,p,h,e1,e2=>by
  have:=h.2.at_ (i:=i) (by simpa using e1) (by simpa using e2)
  rw [if_neg (by omega)]
  cases i with
  | zero=>simpa [bg] using this
  | succ i=>rw [if_neg (by omega)] at this;simpa [bg] using this
theorem bgS {L:List Pc} {i:Nat} {q:Pc} (h:L[i]?=some q):bg L (i+1)=q.e:=by show ((L[i]?).map Pc.e).getD (0,1)=_;rw [h];rfl
theorem nb {L:List Pc} {i:Nat} {q:Pc} (hR:RtF L) (hq:L[i]?=some q):Cop (bg L i)∧val (bg L i)≤q.E∧(val (bg L i)=q.E→q.L=q.H)∧(i≠0→val (bg L i)<q.E):=by
 obtain ⟨qok,q1,q2⟩:=hR.at_ hq
 cases i with
 | zero =>
  refine ⟨DQ,?_,?_,fun z=>absurd rfl z⟩
  ·show val (0,1)≤_;rw [jx];exact zg qok.e.pos
  ·show val (0,1)=_→_
   rw [jx]
   cases L with
   | nil=>simp at hq
   | cons a r=>cases hq;exact hR.2.2.2.1
 | succ i =>
  have il:=(List.getElem?_eq_some_iff.mp hq).1
  have ha:L[i]?=some L[i]:=List.getElem?_eq_getElem (by omega)
  obtain ⟨k1,k2⟩:=hR.two ha hq
  rw [bgS ha]
  exact ⟨(hR.at_ ha).1.e,Rat.le_of_lt k1,fun z=>absurd z (by grind),fun _=>k1⟩
theorem RU.rt {d:Nat} (h0:0<d):∀ {U:List Un3} {b hh:Nat},RU b hh U→Rt ((b:Rat)/d) ((hh:Rat)/d) (U.map (aU d))
 | [],_,_,_=>trivial
 | u::r,b,hh,⟨h1,h2,h3,h4,h5⟩=>by
  have dp:=aJ h0
  have lt:∀ {x y:Nat},x<y→(x:Rat)/d<(y:Rat)/d:=fun h=>by
   rw [Rat.div_lt_iff dp]
   have e:∀y:Rat,y/d*d=y:=fun y=>by grind
   rw [e]
   exact Rat.natCast_lt_natCast.mpr h
  have le:∀ {x y:Nat},x≤y→(x:Rat)/d≤(y:Rat)/d:=fun {x y} h=>by
   by_cases e:x=y
   ·rw [e];exact Rat.le_refl
   ·exact Rat.le_of_lt (lt (by omega))
  have ih:=RU.rt h0 h5
  refine ⟨⟨.low h0,.low h0,.low h0⟩,?_,?_,?_,?_,?_⟩
  ·show _<val (am u.1 d);rw [al h0];exact lt h1
  ·show _≤val (am u.2.1 d);rw [al h0];exact le h2
  ·show val (am u.2.1 d)≤val (am u.2.2 d);rw [al h0,al h0];exact le h3
  ·show val (am u.1 d)≤val (am u.2.2 d);rw [al h0,al h0];exact le h4
  ·show Rt (val (am u.1 d)) (val (am u.2.2 d)) _
   rw [al h0,al h0]
   exact ih
theorem RUF.rt {d:Nat} (h0:0<d) {U:List Un3} (h:RUF U):RtF (U.map (aU d)):=by
 cases U with
 | nil=>trivial
 | cons u r =>
  obtain ⟨h1,h2,h3,h4⟩:=h
  have dp:=aJ h0
  have le:∀ {x y:Nat},x≤y→(x:Rat)/d≤(y:Rat)/d:=fun {x y} h=>by
   rw [←Rat.not_lt,Rat.div_lt_iff dp]
   have e:∀y:Rat,y/d*d=y:=fun y=>by grind
   rw [e,Rat.not_lt]
   exact Rat.natCast_le_natCast.mpr h
  refine ⟨⟨.low h0,.low h0,.low h0⟩,?_,?_,?_,?_⟩
  ·show val (am u.2.1 d)≤val (am u.2.2 d);rw [al h0,al h0];exact le h1
  ·show val (am u.1 d)≤val (am u.2.2 d);rw [al h0,al h0];exact le h2
  ·show 0=val (am u.1 d)→val (am u.2.1 d)=val (am u.2.2 d)
   rw [al h0,al h0,al h0]
   intro z
   have:u.1=0:=by
    have e:(u.1:Rat)=0:=by grind
    exact Rat.natCast_eq_zero_iff.mp e
   rw [h3 this]
  ·show Rt (val (am u.1 d)) (val (am u.2.2 d)) _
   rw [al h0,al h0]
   exact h4.rt h0
theorem uR {n d:Nat} (h0:0<d) (h1:n<2 ^ 60) (h2:d<2 ^ 60):Sz 60 (am n d):=⟨Nat.lt_of_le_of_lt (jI _ _) h1,Nat.lt_of_le_of_lt (lm _ _) h2,dD h0⟩
theorem BdU.sz {d:Nat} {U:List Un3} (h0:0<d) (h1:d<10 ^ 12) (h:BdU (10 ^ 11) U):SzL 60 (U.map (aU d)):=fun p hp=>by
 obtain ⟨u,hu,rfl⟩:=List.mem_map.mp hp
 obtain ⟨b1,b2,b3⟩:=h u hu
 exact ⟨uR h0 (by omega) (by omega),uR h0 (by omega) (by omega),uR h0 (by omega) (by omega)⟩
theorem uz {as st Q} (h:cO as st Q):aq Γ eP (frame 2 as) st (ag st Q):=by
 obtain ⟨p,q,rfl,hp,hq,k⟩:=h
 unfold eP
 walk_at "WP"
 exact ⟨ii hp.a hq.b,ii hq.a hp.b,.inl k⟩
theorem vw {as st Q} (h:cF as st Q):aq Γ fq (frame 2 as) st (ag st Q):=by
 obtain ⟨p,q,rfl,hp,hq,k⟩:=h
 unfold fq
 walk_at "WP"
 refine ⟨ii hp.a hq.b,ii hq.a hp.b,?_⟩
 rw [←Int.natCast_mul,←Int.natCast_mul]
 simp only [Int.ofNat_lt]
 exact .inl k
theorem iW {p:Nat × Nat} (h:0<p.2):(p.1:Rat)=val p*(p.2:Rat):=by
 have:(p.2:Rat)≠0:=by simpa using Nat.pos_iff_ne_zero.mp h
 unfold val
 grind
theorem Ae {N Y F G X c:Rat} (hc:c≠0) (h:N<F):(c*(Y*(F-X)+G*(X-N)))/(c*(F-N))=Y+(G-Y)*((X-N)/(F-N)):=by
 have:F-N≠0:=by grind
 grind
theorem pA {as st Q} (h:bM as st Q):aq Γ dr (frame 10 as) st (ag st Q):=by
 obtain ⟨sa,sb,sc,sd,m,nx,ny,fx,fy,x,rfl,j2,⟨z1,z2,z3,z4,z5⟩,⟨v1,v2,v3⟩,k⟩:=h
 unfold dr
 walk_at "WP"
 have hD:nx.1*x.2≤x.1*nx.2:=(gN z1.pos z5.pos).mpr v2
 have hE:x.1*fx.2≤fx.1*x.2:=(gN z5.pos z3.pos).mpr v3
 have cD:(x.1:Int)*nx.2-nx.1*x.2=((x.1*nx.2-nx.1*x.2:Nat):Int):=by rw [Int.natCast_sub hD,Int.natCast_mul,Int.natCast_mul]
 have cE:(fx.1:Int)*x.2-x.1*fx.2=((fx.1*x.2-x.1*fx.2:Nat):Int):=by rw [Int.natCast_sub hE,Int.natCast_mul,Int.natCast_mul]
 refine ⟨_,_,rfl,z5.mono (by omega),z1.mono (by omega),?_⟩
 rw [cD]
 walk_at "WP"
 refine ⟨?_,_,_,rfl,z3.mono (by omega),z5.mono (by omega),?_⟩
 rotate_left
 rw [cE]
 walk_at "WP"
 simp only [←Int.natCast_mul,←Int.natCast_add]
 generalize hDd:x.1*nx.2-nx.1*x.2=D
 generalize hEe:fx.1*x.2-x.1*fx.2=E
 have p1:=aJ z1.pos
 have p2:=aJ z2.pos
 have p3:=aJ z3.pos
 have p4:=aJ z4.pos
 have p5:=aJ z5.pos
 have qD:(D:Rat)=(val x-val nx)*(x.2*nx.2):=by
  have:=congrArg (fun k:Nat=>(k:Rat)) (Nat.sub_add_cancel hD)
  rw [hDd] at this
  simp only [Rat.natCast_add,Rat.natCast_mul] at this
  rw [iW z1.pos,iW z5.pos] at this
  grind
 have qE:(E:Rat)=(val fx-val x)*(fx.2*x.2):=by
  have:=congrArg (fun k:Nat=>(k:Rat)) (Nat.sub_add_cancel hE)
  rw [hEe] at this
  simp only [Rat.natCast_add,Rat.natCast_mul] at this
  rw [iW z3.pos,iW z5.pos] at this
  grind
 have bD:D<2 ^ (m+sa):=by rw [←hDd];exact Nat.lt_of_le_of_lt (Nat.sub_le _ _) (bJ z5.a z1.b)
 have bE:E<2 ^ (sc+m):=by rw [←hEe];exact Nat.lt_of_le_of_lt (Nat.sub_le _ _) (bJ z3.a z5.b)
 have b1:D*fx.2<2 ^ (m+sa+sc):=bJ bD z3.b
 have b2:E*nx.2<2 ^ (m+sa+sc):=by
  have:=bJ bE z1.b
  rwa [show sc+m+sa=m+sa+sc by omega] at this
 have a1:ny.1*fy.2<2 ^ (sb+sd):=bJ z2.a z4.b
 have a2:fy.1*ny.2<2 ^ (sb+sd):=by
  have:=bJ z4.a z2.b
  rwa [Nat.add_comm sd sb] at this
 have a3:ny.2*fy.2<2 ^ (sb+sd):=bJ z2.b z4.b
 have b3:E*nx.2+D*fx.2<2 ^ (m+sa+sc+1):=by
  have:(2:Nat) ^ (m+sa+sc+1)=2 ^ (m+sa+sc)+2 ^ (m+sa+sc):=by rw [Nat.pow_succ];omega
  omega
 have c1:=bJ a1 b2
 have c2:=bJ a2 b1
 have c3:=bJ a3 b3
 have c4:ny.1*fy.2*(E*nx.2)+fy.1*ny.2*(D*fx.2)<2 ^ (sa+sb+sc+sd+m+2):=by
  have h1:(2:Nat) ^ (sb+sd+(m+sa+sc))+2 ^ (sb+sd+(m+sa+sc))≤2 ^ (sa+sb+sc+sd+m+2):=by
   have e:2 ^ (sb+sd+(m+sa+sc)+1)≤2 ^ (sa+sb+sc+sd+m+2):=dI (by omega)
   rw [Nat.pow_succ] at e
   omega
  omega
 have up:∀ {a j:Nat},a<2 ^ j→j≤3000→a<2 ^ 3000:=fun h hj=>Nat.lt_of_lt_of_le h (dI hj)
 have dpos:0<E*nx.2+D*fx.2:=by
  refine Nat.pos_of_ne_zero fun z=>?_
  have e:((E*nx.2+D*fx.2:Nat):Rat)=0:=by rw [z];rfl
  simp only [Rat.natCast_add,Rat.natCast_mul] at e
  rw [qD,qE] at e
  have:(val fx-val nx)*((fx.2:Rat)*x.2*nx.2)=0:=by grind
  have w:0<(val fx-val nx)*((fx.2:Rat)*x.2*nx.2):=Rat.mul_pos (by grind) (Rat.mul_pos (Rat.mul_pos p3 p5) p1)
  grind
 have hpos:=Nat.mul_pos (Nat.mul_pos z2.pos z4.pos) dpos
 refine ⟨ii (up bE (by omega)) (up z1.b (by omega)),ii (up z2.a (by omega)) (up z4.b (by omega)),ii (up a1 (by omega)) (up b2 (by omega)),ii (up z4.a (by omega)) (up z2.b (by omega)),ii (up a2 (by omega)) (up b1 (by omega)),ii (up z2.b (by omega)) (up z4.b (by omega)),ii (up a3 (by omega)) (up b3 (by omega)),
  _,_,rfl,hpos,Nat.lt_of_lt_of_le c3 (dI (by omega)),.inl ?_⟩
 rw [wo]
 refine k _ ⟨dD hpos,tD hpos⟩ ⟨Nat.lt_of_le_of_lt (jI _ _) c4,Nat.lt_of_le_of_lt (lm _ _) (Nat.lt_of_lt_of_le c3 (dI (by omega))),dD hpos⟩ ?_
 rw [al hpos]
 simp only [Rat.natCast_add,Rat.natCast_mul]
 rw [qD,qE,iW z2.pos,iW z4.pos]
 have hc:(ny.2:Rat)*fy.2*fx.2*x.2*nx.2≠0:=by
  have:=Rat.mul_pos (Rat.mul_pos (Rat.mul_pos (Rat.mul_pos p2 p4) p3) p5) p1
  grind
 rw [←Ae (Y:=val ny) (G:=val fy) (X:=val x) hc v1]
 congr 1 <;> grind
 exact ii (Nat.lt_of_lt_of_le (Nat.lt_of_le_of_lt (Nat.sub_le _ _) (bJ z5.a z1.b)) (dI (by omega))) (Nat.lt_of_lt_of_le z3.b (dI (by omega)))
theorem Ch.cut {t:Rat}:∀ {L:List Pc} {b:Rat},Ch b L→∃k,k≤L.length∧(∀(i:Nat) p,L[i]?=some p→i<k→p.E<t)∧∀(i:Nat) p,L[i]?=some p→k≤i→t≤p.E
 | [],b,_=>⟨0,Nat.le_refl _,fun i p e=>by simp at e,fun i p e=>by simp at e⟩
 | p::r,b,⟨h1,h2,h3,h4⟩=>by
  by_cases q:t≤p.E
  ·refine ⟨0,Nat.zero_le _,fun i p _ h=>absurd h (Nat.not_lt_zero _),fun i p' e _=>?_⟩
   cases i with
   | zero=>cases e;exact q
   | succ i =>
    have:∀ {r:List Pc} {b:Rat} {i:Nat} {p':Pc},Ch b r→r[i]?=some p'→b<p'.E:=by
     intro r
     induction r with
     | nil=>intro b i p' _ e;simp at e
     | cons a r ih =>
      intro b i p' ⟨g1,g2,g3,g4⟩ e
      cases i with
      | zero=>cases e;exact g2
      | succ i=>have:=ih g4 (by simpa using e);grind
    have:=this h4 (by simpa using e)
    grind
  ·obtain ⟨k,k1,k2,k3⟩:=h4.cut (t:=t)
   refine ⟨k+1,by simp;omega,fun i p' e h=>?_,fun i p' e h=>?_⟩
   ·cases i with
    | zero=>cases e;grind
    | succ i=>exact k2 i p' (by simpa using e) (by omega)
   ·cases i with
    | zero=>omega
    | succ i=>exact k3 i p' (by simpa using e) (by omega)
theorem RtF.cut {L:List Pc} {t:Rat} (h:RtF L):∃k,k≤L.length∧(∀(i:Nat) p,L[i]?=some p→i<k→p.E<t)∧∀(i:Nat) p,L[i]?=some p→k≤i→t≤p.E:=by
 cases L with
 | nil=>exact ⟨0,Nat.le_refl _,fun i p e=>by simp at e,fun i p e=>by simp at e⟩
 | cons a r=>exact Ch.cut (b:=a.E-1) ⟨h.1,by grind,h.2.1,h.2.2.2.2.ch⟩
noncomputable def EO (b:Rat) (X:List Pc):Rat:=(X.getLast?.map Pc.E).getD b
theorem NG.tail {b:Nat × Nat} {a:Pc} {r:List Pc} (h:NG b (a::r)):NG a.e r:=by
 cases r with
 | nil=>trivial
 | cons p r=>exact h.2
theorem o0 {as st Q} (h:bI as st Q):aq Γ du (frame 4 as) st (ag st Q):=by
 obtain ⟨n,d,rfl,h0,h1,k⟩:=h
 unfold du
 walk_at "WP"
 refine sP Γm (fun j ρ s=>s=st∧∃a:Nat,ρ=[some (.int n),some (.int d),some (.int a),some (.int j)]∧Nat.gcd a j=Nat.gcd n d) (n:=d) ⟨rfl,n,rfl,rfl⟩ ?_
 rintro m ρ s ⟨rfl,a,rfl,hg⟩
 walk_at "WP"
 by_cases hb:(0:Int)<m
 ·rw [if_pos hb]
  exact ⟨hb,a % m,Nat.mod_lt _ (by omega),m,rfl,by simp,by rw [←hg,Nat.gcd_comm a m,Nat.gcd_rec m a,Nat.gcd_comm]⟩
 ·rw [if_neg hb]
  have:m=0:=by omega
  subst this
  rw [Nat.gcd_zero_right] at hg
  subst hg
  refine ⟨mY h0 h1,mY h0 h1,?_⟩
  rw [←Int.natCast_ediv,←Int.natCast_ediv]
  exact .inl k
theorem ux {as st Q} (h:dc as st Q):aq Γ em (frame 3 as) st (ag st Q):=by
 obtain ⟨p,many,rfl,⟨q,r,hp,hq,hr0,hr1⟩,hm,hm2,k⟩:=h
 have g0:Gr st p st:=.refl ⟨q,r,hp,hq,hr0,hr1⟩
 unfold em
 walk_at "WP"
 refine ⟨_,ad hp,_,iy,?_⟩
 walk_at "WP"
 by_cases hz:0<q
 ·rw [if_pos hz]
  refine ⟨_,ad hp,_,iy,?_⟩
  walk_at "WP"
  refine ⟨v9 hm hm2,_,hp,0,rfl,?_⟩
  exact .inl (k _ _ (Int.emod_nonneg _ (by omega)) (Int.emod_lt_of_pos _ hm) (g0.set ⟨Int.ediv_nonneg (by omega) (by omega),hr0,hr1⟩))
 ·rw [if_neg hz]
  refine ⟨_,ad hp,_,ie,?_⟩
  walk_at "WP"
  refine ⟨t5 (by decide) (by decide),_,hp,1,rfl,?_⟩
  have hs:∀z,(st.set p (pc q z))[p]?=some (pc q z):=fun z=>List.getElem?_set_self (cI hp)
  refine ⟨_,ad (hs _),_,ie,_,ad (hs _),_,ie,?_⟩
  walk_at "WP"
  refine ⟨i_ (by omega) (by omega),v9 (by decide) (by decide),hm,?_⟩
  exact .inl (k _ _ (Int.emod_nonneg _ (by omega)) (Int.emod_lt_of_pos _ hm) (g0.set ⟨hq,by omega,by omega⟩))
theorem u8 {as st Q} (h:dz as st Q):aq Γ fm (frame 3 as) st (ag st Q):=by
 obtain ⟨ns,m,rfl,hm,k⟩:=h
 unfold fm
 walk_at "WP"
 have fin:∀z:Int,vc 10 18∧CMB 97 (m:Int)∧Ret st Q (PV.ref (List.length st)) (st++[Cell.lst [PV.int (if 0<(z.natAbs:Int)-1000000000000000000 then (z.natAbs:Int)-1000000000000000000 else 0),PV.int ((z.natAbs:Int) % 2147483629+97*m+1)]]):=fun z =>
  ⟨Dw,i_ (by decide) (by decide),.inl (k _ _ ⟨by split <;> omega,by omega,by omega⟩)⟩
 rw [List.length_map]
 by_cases hl:m<ns.length
 ·rw [if_pos (by omega)]
  refine ⟨_,yR hl,?_⟩
  walk_at "WP"
  exact fin _
 ·rw [if_neg (by omega)]
  exact fin 0
theorem t4 {as st Q} (h:db as st Q):aq Γ eS (frame 1 as) st (ag st Q):=by
 obtain ⟨p,rfl,hp,k⟩:=h
 unfold eS
 walk_at "WP"
 refine ⟨Dk,p,4,rfl,hp,by decide,by decide,fun y s1 y0 y1 g1=>?_⟩
 obtain ⟨v,ev,far,rfl,f0,f1⟩:=wc (L:=[PV.int 1,PV.int 2,PV.int 12,PV.int 100000000000]) (P:=fun v=>∃d:Nat,v=.int d∧0<d∧d≤10 ^ 11) (fun v hv=>by
  simp only [List.mem_cons,List.not_mem_nil,or_false] at hv
  rcases hv with rfl|rfl|rfl|rfl
  ·exact ⟨1,rfl,by decide,by decide⟩
  ·exact ⟨2,rfl,by decide,by decide⟩
  ·exact ⟨12,rfl,by decide,by decide⟩
  ·exact ⟨_,rfl,by decide,by decide⟩) y0 y1
 walk_at "WP"
 refine ⟨_,ev,p,_,rfl,g1.pot,by omega,by omega,fun z s2 z0 z1 g2=>?_⟩
 walk_at "WP"
 obtain ⟨d,hd⟩:∃d:Nat,1+z=d:=⟨(1+z).toNat,by omega⟩
 rw [hd]
 exact .inl (k d _ (by omega) (by omega) (g1.trans g2))
theorem C5 {n:Nat}:am n 1=(n,1):=by simp [am]
theorem DA {d:Nat} (h:0<d):am 0 d=(0,1):=by simp [am,Nat.div_self h]
theorem nW {n m d:Nat} (h0:0<d) (h:am n d=am m d):n=m:=by
 have:=congrArg val h
 rw [al h0,al h0] at this
 have d1:=aJ h0
 have:(n:Rat)=(m:Rat):=by grind
 exact_mod_cast this
noncomputable def gU (b:Nat) (w u:Un3):Bool:=decide (u.2.1=w.2.2) && decide (((w.2.2:Int)-w.2.1)*((u.1:Int)-w.1)=((u.2.2:Int)-u.2.1)*((w.1:Int)-b))
theorem zm {b d:Nat} {w u:Un3} (h0:0<d) (h1:b≤w.1) (h2:w.1≤u.1) (h3:w.2.1≤w.2.2) (h4:u.2.1≤u.2.2):gB (am b d) (aU d w) (aU d u)=gU b w u:=by
 have dp:=aJ h0
 have le:∀ {x y:Nat},x≤y→val (am x d)≤val (am y d):=fun {x y} h=>by
  rw [al h0,al h0]
  have:(x:Rat)≤(y:Rat):=by exact_mod_cast h
  refine Classical.byContradiction fun z=>?_
  have:=Rat.mul_pos (a:=(x:Rat)/d-(y:Rat)/d) (b:=(d:Rat)) (by grind) dp
  have dn:(d:Rat)≠0:=by grind
  have z1:(x:Rat)/d*d=x:=by grind
  have z2:(y:Rat)/d*d=y:=by grind
  generalize (x:Rat)/d=x' at *
  generalize (y:Rat)/d=y' at *
  grind
 have ps:∀ {x:Nat},0<(am x d).2:=dD h0
 unfold gB gU
 have e1:decide ((aU d u).l=(aU d w).h)=decide (u.2.1=w.2.2):=by
  refine decide_eq_decide.mpr ⟨fun z=>nW h0 z,fun z=>?_⟩
  show am u.2.1 d=am w.2.2 d
  rw [z]
 rw [e1]
 congr 1
 refine decide_eq_decide.mpr ?_
 have c1:=kr (p:=am w.2.2 d) (q:=am w.2.1 d) ps ps
 have c2:=kr (p:=am u.1 d) (q:=am w.1 d) ps ps
 have c3:=kr (p:=am u.2.2 d) (q:=am u.2.1 d) ps ps
 have c4:=kr (p:=am w.1 d) (q:=am b d) ps ps
 have v1:=vS c1.pos c2.pos
 have v2:=vS c3.pos c4.pos
 rw [mZ ps ps (le h3),mZ ps ps (le h2)] at v1
 rw [mZ ps ps (le h4),mZ ps ps (le h1)] at v2
 simp only [al h0] at v1 v2
 have key:val (vD (nN (am w.2.2 d) (am w.2.1 d)) (nN (am u.1 d) (am w.1 d)))=val (vD (nN (am u.2.2 d) (am u.2.1 d)) (nN (am w.1 d) (am b d)))↔((w.2.2:Int)-w.2.1)*((u.1:Int)-w.1)=((u.2.2:Int)-u.2.1)*((w.1:Int)-b):=by
  rw [v1,v2]
  have q:((w.2.2:Rat)-w.2.1)*((u.1:Rat)-w.1)=((u.2.2:Rat)-u.2.1)*((w.1:Rat)-b)↔((w.2.2:Int)-w.2.1)*((u.1:Int)-w.1)=((u.2.2:Int)-u.2.1)*((w.1:Int)-b):=by
   rw [←Rat.intCast_natCast w.2.2,←Rat.intCast_natCast w.2.1,←Rat.intCast_natCast u.1,←Rat.intCast_natCast w.1,←Rat.intCast_natCast u.2.2,←Rat.intCast_natCast u.2.1,←Rat.intCast_natCast b]
   simp only [←Rat.intCast_sub,←Rat.intCast_mul,Rat.intCast_inj]
  rw [←q]
  have dn:(d:Rat)≠0:=by grind
  constructor <;> intro z <;> grind
 rw [←key]
 exact ⟨fun z=>congrArg val z,fun z=>h_ (t3 c1.pos c2.pos) (t3 c3.pos c4.pos) z⟩
noncomputable def on (b:Nat × Nat) (Y:List Pc):Nat × Nat:=(Y.getLast?.map Pc.e).getD b
theorem vz {b:Nat × Nat} {a:Pc} {Y:List Pc}:on b (a::Y)=on a.e Y:=by
 unfold on
 cases Y with
 | nil=>rfl
 | cons c Y=>simp [List.getLast?_cons]
theorem i3 {p:Pc}:∀ {r:List Pc} {b:Nat × Nat} {a:Pc},∃Y c,cB b a r=Y++[c]∧cB b a (r++[p])=(if gB (on b Y) c p=true then Y++[c.mg p] else Y++[c,p]) ∧
  (∀z,(a::r).getLast?=some z→c.e=z.e∧c.h=z.h)
 | [],b,a=>⟨[],a,rfl,by
   show cB b a [p]=_
   rw [cB]
   show (if gB b a p=true then cB b (a.mg p) [] else a::cB a.e p [])=if gB b a p=true then []++[a.mg p] else []++[a,p]
   rfl,fun z e=>by cases e;exact ⟨rfl,rfl⟩⟩
 | q::r,b,a=>by
  rw [cB,List.cons_append,cB]
  by_cases g:gB b a q=true
  ·rw [if_pos g,if_pos g]
   obtain ⟨Y,c,e1,e2,e3⟩:=i3 (p:=p) (r:=r) (b:=b) (a:=a.mg q)
   refine ⟨Y,c,e1,e2,fun z e=>?_⟩
   cases r with
   | nil =>
    have:z=q:=by simpa using e.symm
    subst this
    exact e3 (a.mg z) rfl
   | cons x r=>exact e3 z (by simpa [List.getLast?_cons_cons] using e)
  ·rw [if_neg g,if_neg g]
   obtain ⟨Y,c,e1,e2,e3⟩:=i3 (p:=p) (r:=r) (b:=a.e) (a:=q)
   refine ⟨a::Y,c,by rw [e1];rfl,?_,fun z e=>e3 z (by simpa [List.getLast?_cons_cons] using e)⟩
   rw [e2,vz]
   split <;> rfl
theorem Rt.snoc {c p:Pc} (h1:p.Ok) (h2:c.E<p.E) (h3:c.H≤p.L) (h4:p.L≤p.H) (h5:p.E≤p.H):∀ {Y:List Pc} {b hh:Rat},Rt b hh (Y++[c])→Rt b hh (Y++[c,p])
 | [],b,hh,⟨k1,k2,k3,k4,k5,_⟩=>⟨k1,k2,k3,k4,k5,h1,h2,h3,h4,h5,trivial⟩
 | a::Y,b,hh,⟨k1,k2,k3,k4,k5,k6⟩=>⟨k1,k2,k3,k4,k5,Rt.snoc h1 h2 h3 h4 h5 k6⟩
theorem RtF.snoc {c p:Pc} (h1:p.Ok) (h2:c.E<p.E) (h3:c.H≤p.L) (h4:p.L≤p.H) (h5:p.E≤p.H) {Y:List Pc} (h:RtF (Y++[c])):RtF (Y++[c,p]):=by
 cases Y with
 | nil=>exact ⟨h.1,h.2.1,h.2.2.1,h.2.2.2.1,h1,h2,h3,h4,h5,trivial⟩
 | cons a Y=>exact ⟨h.1,h.2.1,h.2.2.1,h.2.2.2.1,Rt.snoc h1 h2 h3 h4 h5 h.2.2.2.2⟩
theorem Rt.take:∀ {L:List Pc} {b hh:Rat} (i:Nat),Rt b hh L→Rt b hh (L.take i)
 | [],_,_,i,_=>by rw [List.take_nil];trivial
 | _::_,_,_,0,_=>trivial
 | _::_,_,_,i+1,⟨h1,h2,h3,h4,h5,h6⟩=>⟨h1,h2,h3,h4,h5,h6.take i⟩
theorem RtF.take {L:List Pc} (i:Nat) (h:RtF L):RtF (L.take i):=by
 cases L with
 | nil=>rw [List.take_nil];trivial
 | cons a r =>
  cases i with
  | zero=>trivial
  | succ i=>exact ⟨h.1,h.2.1,h.2.2.1,h.2.2.2.1,h.2.2.2.2.take i⟩
theorem tq {d:Nat} (h0:0<d) {Y:List Un3}:on (0,1) (Y.map (aU d))=am ((Y.getLast?.map (·.1)).getD 0) d:=by
 unfold on
 rw [List.getLast?_map]
 cases Y.getLast? with
 | none=>exact (DA h0).symm
 | some w=>rfl
structure Fnd (U:List Un3) (i:Nat) (V:List Un3):Prop where
 eq:∀d,0<d→V.map (aU d)=pV ((U.take i).map (aU d))
 ln:V.length≤i
 bd:BdU (2 ^ 37) V
theorem DM {n:Nat}:val (am n 1)=(n:Rat):=by rw [C5,iX]
theorem Fnd.nil {U:List Un3} {i:Nat} {V:List Un3} (h:Fnd U i V) (hi:i<U.length) (e:V=[]):i=0:=by
 have:=h.eq 1 (by decide)
 rw [e] at this
 cases i with
 | zero=>rfl
 | succ i =>
  cases U with
  | nil=>simp at hi
  | cons u U =>
   rw [List.take_succ_cons,List.map_cons] at this
   obtain ⟨Y,c,e1,_⟩:=i3 (p:=aU 1 u) (r:=(U.take i).map (aU 1)) (b:=(0,1)) (a:=aU 1 u)
   rw [pV,e1] at this
   simp at this
theorem Fnd.step {U:List Un3} {i:Nat} {V:List Un3} {u:Un3} (h:Fnd U i V) (hu:U[i]?=some u) (hU:RUF U) (bd:BdU (2 ^ 37) [u]) :
  (V=[]∧Fnd U (i+1) [u])∨∃Y w,V=Y++[w]∧(Y.getLast?.map (·.1)).getD 0≤w.1∧((Y.getLast?.map (·.1)).getD 0=w.1→w.2.1=w.2.2)∧w.2.1≤w.2.2∧w.1<u.1∧w.2.2≤u.2.1∧u.2.1≤u.2.2 ∧
   Fnd U (i+1) (if gU ((Y.getLast?.map (·.1)).getD 0) w u=true then Y++[(u.1,w.2.1,u.2.2)] else Y++[w,u]):=by
 have il:=(List.getElem?_eq_some_iff.mp hu).1
 have ht:∀d,(U.take (i+1)).map (aU d)=(U.take i).map (aU d)++[aU d u]:=fun d=>by rw [List.take_succ,hu];simp
 rcases ng V with rfl|⟨Y,w,rfl⟩
 ·have i0:=h.nil il rfl
  subst i0
  refine .inl ⟨rfl,⟨fun d hd=>?_,by simp,bd⟩⟩
  rw [ht d]
  rfl
 ·have hR:=hU.rt (d:=1) (by decide)
  have i0:0<i:=by
   have:=h.ln
   simp at this
   omega
  obtain ⟨a,r,ear⟩:∃a r,U.take i=a::r:=by
   cases e:U.take i with
   | nil =>
    rcases List.take_eq_nil_iff.mp e with z|z
    ·omega
    ·rw [z] at il;simp at il
   | cons a r=>exact ⟨a,r,rfl⟩
  have go:∀d,0<d→pV ((U.take (i+1)).map (aU d))=(if gB (on (0,1) (Y.map (aU d))) (aU d w) (aU d u)=true then Y.map (aU d)++[(aU d w).mg (aU d u)] else Y.map (aU d)++[aU d w,aU d u])∧((aU d w).e=(aU d U[i-1]).e∧(aU d w).h=(aU d U[i-1]).h):=fun d hd=>by
   have e0:=h.eq d hd
   obtain ⟨Y',c,e1,e2,e3⟩:=i3 (p:=aU d u) (r:=r.map (aU d)) (b:=(0,1)) (a:=aU d a)
   rw [ear,List.map_cons,pV,e1,List.map_append] at e0
   obtain ⟨y1,y2⟩:=List.append_inj' e0 rfl
   have y2:aU d w=c:=List.head_eq_of_cons_eq y2
   subst y1 y2
   rw [ht d,ear,List.map_cons,List.cons_append,pV,e2]
   refine ⟨rfl,e3 (aU d U[i-1]) ?_⟩
   rw [←List.map_cons,←ear,List.getLast?_map,List.getLast?_take,if_neg (by omega),List.getElem?_eq_getElem (by omega)]
   rfl
  obtain ⟨g1,g2,g3⟩:=go 1 (by decide)
  have w1:w.1=(U[i-1]).1:=nW (by decide) g2
  have w2:w.2.2=(U[i-1]).2.2:=nW (by decide) g3
  have hz1:(U.map (aU 1))[i-1]?=some (aU 1 U[i-1]):=by rw [List.getElem?_map,List.getElem?_eq_getElem (by omega)];rfl
  have hz2:(U.map (aU 1))[i-1+1]?=some (aU 1 u):=by rw [Nat.sub_add_cancel i0,List.getElem?_map,hu];rfl
  obtain ⟨t1,t2⟩:=hR.two hz1 hz2
  obtain ⟨_,a1,a2⟩:=hR.at_ hz2
  have fR:RtF ((Y++[w]).map (aU 1)):=by
   rw [h.eq 1 (by decide)]
   refine yw ?_
   rw [List.map_take]
   exact hR.take i
  have hw:((Y++[w]).map (aU 1))[Y.length]?=some (aU 1 w):=by simp
  obtain ⟨_,b1,b2⟩:=fR.at_ hw
  obtain ⟨_,n2,n3,_⟩:=nb fR hw
  have eb:val (bg ((Y++[w]).map (aU 1)) Y.length)=(((Y.getLast?.map (·.1)).getD 0:Nat):Rat):=by
   rcases ng Y with rfl|⟨Z,x,rfl⟩
   ·exact jx
   ·have:((Z++[x]++[w]).map (aU 1))[Z.length]?=some (aU 1 x):=by simp
    rw [show (Z++[x]).length=Z.length+1 by simp,bgS this,List.getLast?_concat]
    exact DM
  rw [eb] at n2 n3
  simp only [Pc.E,Pc.L,Pc.H,DM,Rat.natCast_le_natCast,Rat.natCast_lt_natCast,Rat.natCast_inj] at t1 t2 a1 b1 n2 n3
  rw [←w1] at t1
  rw [←w2] at t2
  refine .inr ⟨Y,w,rfl,n2,n3,b1,t1,t2,a1,⟨fun d hd=>?_,?_,?_⟩⟩
  ·rw [(go d hd).1,tq hd,zm hd n2 (Nat.le_of_lt t1) b1 a1]
   split <;> simp
  ·have:=h.ln
   simp at this
   split <;> simp <;> omega
  ·have bw:=h.bd w (by simp)
   have bu:=bd u (by simp)
   have bY:BdU (2 ^ 37) Y:=fun x hx=>h.bd x (by simp [hx])
   split
   ·intro x hx
    rcases List.mem_append.mp hx with hx|hx
    ·exact bY x hx
    ·rw [List.mem_singleton] at hx;subst hx;exact ⟨bu.1,bw.2.1,bu.2.2⟩
   ·intro x hx
    rcases List.mem_append.mp hx with hx|hx
    ·exact bY x hx
    ·simp only [List.mem_cons,List.not_mem_nil,or_false] at hx
     rcases hx with rfl|rfl
     ·exact bw
     ·exact bu
noncomputable def nxE (P:Fr→AH→Prop):aS:={ nx:=P,rt:=fun _ _=>False }
theorem Ca {P:Fr→AH→Prop} {ρ:Fr} {st:AH}:(nxE P).nx ρ st=P ρ st:=rfl
local macro_rules | `(tactic| walk_at "WPN")=>`(tactic| simp only [gD,fT,gL,gK,ee,li,kJ,lf,ky,g_,kO,kQ,hW,gf,fW,dR,jb,jT,lg,gE,lI,gc,oH,d5,kq,gH,fV,j7,fQ,jU,kH,qz,kP,lE,r_,lK,jL,jK,ki,lv,kT,lA,rW,jH,qF,rP,gj,ku,gG,jF,gk,lB,gQ,fO,d0,qY,ls,lC,qJ,kn,k_,kb,gz,jY,f',kw,sL,gJ,d7,ga,dW,fe,gW,d8,gi,dP,gP,jM,jO,gh,dS,bZ,dJ,cA,dG,dY,cY,lr,jJ,kd,kU,kl,lP,fG,fP,gO,fK,fD,kf,sg,lu,kD,jP,km,kW,kz,gA,jV,qQ,rY,jW,kA,gC,gR,rJ,sk,sv,sy,jE,kI,jC,ci,cZ,b8,b7,b9,b_,d9,dQ,dZ,dO,cP,cU,cL,bT,cb,bA,bX,c_,ca,bW,ce,cg,ke,kC,j6,iy,ie,lh,j9,lD,kg,lc,kG,fJ,ib,gm,j8,kh,cQ,f_,gI,kK,cS,jR,lw,q9,rj,qZ,rl,sD,ka,gu,g9,gT,frame,Γ_0,Γ_1,Γ_2,Γ_3,Γ_4,Γ_5,Γ_6,Γ_7,Γ_8,Γ_9,qI,qA,qH,qT,qS,sC,sx,q5,qx,rK,qv,qM,se,rN,sm,rT,rV,so,Nat.add_assoc,aZ,ck,List.append_assoc,List.length_append,List.length_set,List.map_cons,List.map_nil,List.length_cons,List.length_nil,List.replicate,List.cons_append,List.nil_append,List.append_nil,List.getElem?_cons_zero,List.getElem?_cons_succ,List.set_cons_zero,List.set_cons_succ,Option.some.injEq,Cell.lst.injEq,PV.int.injEq,PV.bl.injEq,PV.ref.injEq,PV.str.injEq,PV.tup.injEq,PV.rdl.injEq,List.cons.injEq,and_true,true_and,exists_eq_left,exists_eq_left',exists_eq_right,exists_and_left,exists_and_right,exists_const,Bool.not_true,Bool.not_false,Bool.not_not,Bool.not_eq_true',decide_eq_true_eq,decide_eq_false_iff_not,false_and,and_false,false_or,or_false,if_true,if_false,Bool.false_eq_true,reduceCtorEq,reduceIte,not_false_eq_true,Nat.add_zero,Nat.zero_add,Nat.reduceAdd,Nat.reduceSub,Nat.reduceLeDiff,Int.reduceToNat,Int.reducePow,Int.reduceLT,Int.reduceLE,Int.reduceNeg,Int.reduceAdd,Int.reduceSub,Int.reduceMul,gS,ef,exists_eq,exists_eq',exists_false,ne_eq,not_true_eq_false,and_assoc,Option.join_some,Option.join_none,decide_true,decide_false,fZ,fS,hV,fU,fE,gw,ic,Int.reduceEq,Nat.reduceEqDiff,Bool.not_eq_false,Bool.not_eq_true,Bool.and_true,Bool.true_and,Bool.and_false,Bool.false_and,Bool.or_false,Bool.or_true,Ca])
theorem i8 {s:S} {ss:Ss} {ρ:Fr} {st:AH} {D:aS} (P:Fr→AH→Prop) (h1:wpS Γ s ρ st (nxE P)) (h2:∀ρ' st',P ρ' st'→aq Γ ss ρ' st' D):aq Γ (.cons s ss) ρ st D:=by
 cases ss with
 | nil=>exact kY (D:=nxE P) Γm s ⟨fun ρ st z=>h2 ρ st z,fun _ _ z=>False.elim z,fun _ _ z=>False.elim z,fun _ _ z=>False.elim z⟩ h1
 | cons s2 ss=>exact kY (D:=nxE P) (D':=aft Γ (.cons s2 ss) D) Γm s ⟨fun ρ st z=>h2 ρ st z,fun _ _ z=>False.elim z,fun _ _ z=>False.elim z,fun _ _ z=>False.elim z⟩ h1
theorem ifS {c:E} {x y:Ss} {ρ:Fr} {st:AH} {D:aS} (A B:AH→Prop) (h:wpT Γ c ρ st fun k st1=>if k=true then A st1 else B st1) (h1:∀st1,A st1→aq Γ x ρ st1 D) (h2:∀st1,B st1→aq Γ y ρ st1 D):wpS Γ (.ifS c x y) ρ st D:=by
 rw [oH]
 refine aB Γm c (fun k st1 z=>?_) h
 cases k with
 | true=>exact h1 _ z
 | false=>exact h2 _ z
theorem IsOff.congr {X Y:List Rr} {t:Rat} {o:Option Rat} (h:IsOff X t o) (e:∀r,r∈X↔r∈Y):IsOff Y t o:=by
 cases o with
 | none=>exact fun r hr=>h r ((e r).mpr hr)
 | some y=>obtain ⟨⟨r,h1,h2⟩,h3⟩:=h;exact ⟨⟨r,(e r).mp h1,h2⟩,fun r hr=>h3 r ((e r).mpr hr)⟩
theorem IsOut.congr {X Y:List Rr} {t:Rat} {o:Option (Rat × Rat)} (h:IsOut X t o) (e:∀r,r∈X↔r∈Y):IsOut Y t o:=by
 cases o with
 | none=>exact fun r hr=>h r ((e r).mpr hr)
 | some y=>obtain ⟨h0,⟨r,h1,h2⟩,h3⟩:=h;exact ⟨h0,⟨r,(e r).mp h1,h2⟩,fun r hr=>h3 r ((e r).mpr hr)⟩
theorem IsOff.uniq {X:List Rr} {t:Rat} {o o':Option Rat} (h:IsOff X t o) (h':IsOff X t o'):o=o':=by
 cases o with
 | none =>
  cases o' with
  | none=>rfl
  | some y=>obtain ⟨⟨r,h1,h2,_⟩,_⟩:=h';exact absurd h2 (h r h1)
 | some x =>
  obtain ⟨⟨r,h1,h2,h3⟩,h4⟩:=h
  cases o' with
  | none=>exact absurd h2 (h' r h1)
  | some y =>
   obtain ⟨⟨r',g1,g2,g3⟩,g4⟩:=h'
   have a:=h4 r' g1 g2
   have b:=g4 r h1 h2
   congr 1
   grind
theorem IsOut.uniq {X:List Rr} {t:Rat} {o o':Option (Rat × Rat)} (h:IsOut X t o) (h':IsOut X t o'):o=o':=by
 cases o with
 | none =>
  cases o' with
  | none=>rfl
  | some y =>
   obtain ⟨g0,⟨r,h1,h2,_⟩,_⟩:=h'
   have a:=h r h1
   have b:=h2.2
   exfalso
   grind
 | some x =>
  obtain ⟨h0,⟨r,h1,h2,h3⟩,h4⟩:=h
  cases o' with
  | none =>
   have a:=h' r h1
   have b:=h2.2
   exfalso
   grind
  | some y =>
   obtain ⟨g0,⟨r',g1,g2,g3⟩,g4⟩:=h'
   have a:=h4 r' g1 y.1 g0 g2
   have b:=g4 r h1 x.1 h0 h2
   have e:x.2=y.2:=by grind
   have e1:x.1=y.1:=by
    have a2:=a.2 (by rw [g3,e])
    have b2:=b.2 (by rw [h3,e])
    grind
   obtain ⟨x1,x2⟩:=x
   obtain ⟨y1,y2⟩:=y
   have e:x2=y2:=e
   have e1:x1=y1:=e1
   rw [e,e1]
theorem IsOff.snoc {X:List Rr} {r:Rr} {t:Rat} {o:Option Rat} (h:IsOff X t o) (no:¬r.has t):IsOff (X++[r]) t o:=by
 cases o with
 | none =>
  intro q hq
  rcases List.mem_append.mp hq with hq|hq
  ·exact h q hq
  ·rw [List.mem_singleton] at hq;rw [hq];exact no
 | some y =>
  obtain ⟨⟨q,h1,h2⟩,h3⟩:=h
  refine ⟨⟨q,by simp [h1],h2⟩,fun q hq hh=>?_⟩
  rcases List.mem_append.mp hq with hq|hq
  ·exact h3 q hq hh
  ·rw [List.mem_singleton] at hq;rw [hq] at hh;exact absurd hh no
theorem IsOff.keep {X:List Rr} {r:Rr} {t y:Rat} (h:IsOff X t (some y)) (le:r.has t→y≤r.to t):IsOff (X++[r]) t (some y):=by
 obtain ⟨⟨q,h1,h2⟩,h3⟩:=h
 refine ⟨⟨q,by simp [h1],h2⟩,fun q hq hh=>?_⟩
 rcases List.mem_append.mp hq with hq|hq
 ·exact h3 q hq hh
 ·rw [List.mem_singleton] at hq;rw [hq] at hh ⊢;exact le hh
theorem IsOff.new {X:List Rr} {r:Rr} {t:Rat} {o:Option Rat} (h:IsOff X t o) (hh:r.has t) (le:∀y,o=some y→r.to t≤y):IsOff (X++[r]) t (some (r.to t)):=by
 refine ⟨⟨r,by simp,hh,rfl⟩,fun q hq hq2=>?_⟩
 rcases List.mem_append.mp hq with hq|hq
 ·cases o with
  | none=>exact absurd hq2 (h q hq)
  | some y =>
   have:=h.2 q hq hq2
   have:=le y rfl
   grind
 ·rw [List.mem_singleton] at hq;rw [hq];exact Rat.le_refl
theorem IsOut.skip {X:List Rr} {r:Rr} {t:Rat} {o:Option (Rat × Rat)} (h:IsOut X t o) (no:r.L<t):IsOut (X++[r]) t o:=by
 cases o with
 | none =>
  intro q hq
  rcases List.mem_append.mp hq with hq|hq
  ·exact h q hq
  ·rw [List.mem_singleton] at hq;rw [hq];exact no
 | some p =>
  obtain ⟨h0,⟨q,h1,h2⟩,h3⟩:=h
  refine ⟨h0,⟨q,by simp [h1],h2⟩,fun q hq v tv hv=>?_⟩
  rcases List.mem_append.mp hq with hq|hq
  ·exact h3 q hq v tv hv
  ·rw [List.mem_singleton] at hq;rw [hq] at hv
   have:=hv.2
   exfalso
   grind
theorem IsOut.more {X:List Rr} {r:Rr} {t:Rat} {o:Option (Rat × Rat)} {p:Rat × Rat} (h:IsOut X t o) (hp:IsOut [r] t (some p)) :
  (∀b,o=some b→¬((p.2=b.2∧p.1<b.1)∨p.2<b.2)→IsOut (X++[r]) t o)∧((o=none∨∃b,o=some b∧((p.2=b.2∧p.1<b.1)∨p.2<b.2))→IsOut (X++[r]) t (some p)):=by
 obtain ⟨p0,⟨r',p1,p2,p3⟩,p4⟩:=hp
 rw [List.mem_singleton] at p1
 subst p1
 refine ⟨fun b e nb=>?_,fun hb=>?_⟩
 ·subst e
  obtain ⟨h0,⟨q,h1,h2⟩,h3⟩:=h
  refine ⟨h0,⟨q,by simp [h1],h2⟩,fun q hq v tv hv=>?_⟩
  rcases List.mem_append.mp hq with hq|hq
  ·exact h3 q hq v tv hv
  ·rw [List.mem_singleton] at hq;rw [hq] at hv ⊢
   have:=p4 r' (by simp) v tv hv
   exact ⟨by grind,fun e=>by grind⟩
 ·refine ⟨p0,⟨r',by simp,p2,p3⟩,fun q hq v tv hv=>?_⟩
  rcases List.mem_append.mp hq with hq|hq
  ·rcases hb with rfl|⟨b,rfl,hb⟩
   ·have:=h q hq
    have:=hv.2
    exfalso
    grind
   ·have:=h.2.2 q hq v tv hv
    exact ⟨by grind,fun e=>by grind⟩
  ·rw [List.mem_singleton] at hq;rw [hq] at hv ⊢
   exact p4 r' (by simp) v tv hv
theorem Rr.line {r:Rr} (h:r.F<r.L):∃s,r.D=r.C+s*(r.L-r.F)∧∀t,r.to t=r.C+s*(t-r.F):=by
 have n:r.L-r.F≠0:=by grind
 refine ⟨(r.D-r.C)/(r.L-r.F),by grind,fun t=>?_⟩
 unfold Rr.to
 rw [if_neg (by grind)]
 grind
theorem Rr.to_L {r:Rr} (h:r.Ok):r.to r.L=r.D:=by
 unfold Rr.to
 by_cases e:r.F=r.L
 ·rw [if_pos e];exact h.eq e
 ·rw [if_neg e]
  have:r.L-r.F≠0:=by grind
  grind
theorem xS {r:Rr} {t:Rat} (ok:r.Ok) (h:t≤r.L) (f:r.D<r.C):IsOut [r] t (some (r.L,r.D)):=by
 have lt:r.F<r.L:=by
  have:=ok.fl
  have:=ok.eq
  grind
 obtain ⟨s,hs,hl⟩:=Rr.line lt
 have sn:s<0:=Classical.byContradiction fun z=>by
  have:=Rat.mul_nonneg (a:=s) (b:=r.L-r.F) (by grind) (by grind)
  grind
 refine ⟨h,⟨r,by simp,⟨ok.fl,Rat.le_refl⟩,Rr.to_L ok⟩,fun q hq v tv hv=>?_⟩
 rw [List.mem_singleton] at hq
 subst hq
 have:=hv.2
 have e:q.to v=q.D+(-s)*(q.L-v):=by rw [hl,hs];grind
 show q.D≤q.to v∧(q.to v=q.D→q.L≤v)
 have p:=Rat.mul_nonneg (a:=-s) (b:=q.L-v) (by grind) (by grind)
 refine ⟨by grind,fun e2=>Classical.byContradiction fun z=>?_⟩
 have:=Rat.mul_pos (a:=-s) (b:=q.L-v) (by grind) (by grind)
 grind
theorem ud {r:Rr} {t u:Rat} (ok:r.Ok) (h:t≤r.L) (f:r.C≤r.D) (hu:(r.F<t∧u=t)∨(t≤r.F∧u=r.F)):IsOut [r] t (some (u,r.to u)):=by
 have fl:=ok.fl
 refine ⟨by grind,⟨r,by simp,⟨by grind,by grind⟩,rfl⟩,fun q hq v tv hv=>?_⟩
 rw [List.mem_singleton] at hq
 subst hq
 show q.to u≤q.to v∧(q.to v=q.to u→u≤v)
 have hF:=hv.1
 have uv:u≤v:=by grind
 refine ⟨?_,fun _=>uv⟩
 by_cases e:q.F=q.L
 ·unfold Rr.to;rw [if_pos e,if_pos e];exact Rat.le_refl
 ·obtain ⟨s,hs,hl⟩:=Rr.line (r:=q) (by grind)
  have sn:0≤s:=Classical.byContradiction fun z=>by
   have:=Rat.mul_pos (a:=-s) (b:=q.L-q.F) (by grind) (by grind)
   grind
  rw [hl,hl]
  have:=Rat.mul_nonneg (a:=s) (b:=v-u) sn (by grind)
  grind
noncomputable abbrev Rr.sc (e:Rat) (r:Rr):Rr:=⟨r.F/e,r.L/e,r.C/e,r.D/e⟩
theorem eR {e x y:Rat} (he:0<e):x/e≤y/e↔x≤y:=by
 have a:x/e*e=x:=by grind
 have b:y/e*e=y:=by grind
 constructor
 ·intro h
  have:=Rat.mul_nonneg (a:=y/e-x/e) (b:=e) (by grind) (by grind)
  grind
 ·intro h
  refine Classical.byContradiction fun z=>?_
  have:=Rat.mul_pos (a:=x/e-y/e) (b:=e) (by grind) he
  grind
theorem Rr.sc_has {e t:Rat} {r:Rr} (he:0<e):(r.sc e).has (t/e)↔r.has t:=by
 unfold Rr.has
 rw [eR he,eR he]
theorem Rr.sc_to {e t:Rat} {r:Rr} (he:0<e):(r.sc e).to (t/e)=r.to t/e:=by
 unfold Rr.to
 by_cases h:r.F=r.L
 ·rw [if_pos h,if_pos (by show r.F/e=r.L/e;rw [h])]
 ·have h2:¬r.F/e=r.L/e:=fun z=>h (by
   have a:r.F/e*e=r.F:=by grind
   have b:r.L/e*e=r.L:=by grind
   rw [←a,←b,z])
  rw [if_neg h,if_neg h2]
  show r.C/e+(r.D/e-r.C/e)*((t/e-r.F/e)/(r.L/e-r.F/e))=_
  have n:r.L-r.F≠0:=by grind
  have q:(t/e-r.F/e)/(r.L/e-r.F/e)=(t-r.F)/(r.L-r.F):=by
   have n2:r.L/e-r.F/e≠0:=by grind
   have k1:r.L/e-r.F/e=(r.L-r.F)/e:=by grind
   have k2:t/e-r.F/e=(t-r.F)/e:=by grind
   rw [k1,k2]
   have n3:(r.L-r.F)/e≠0:=by rw [←k1];exact n2
   grind
  rw [q]
  generalize (t-r.F)/(r.L-r.F)=u
  grind
theorem IsOff.sc {X:List Rr} {t e:Rat} {o:Option Rat} (he:0<e) (h:IsOff X t o):IsOff (X.map (Rr.sc e)) (t/e) (o.map (·/ e)):=by
 cases o with
 | none =>
  intro r hr
  obtain ⟨q,hq,rfl⟩:=List.mem_map.mp hr
  rw [Rr.sc_has he]
  exact h q hq
 | some y =>
  obtain ⟨⟨q,h1,h2,h3⟩,h4⟩:=h
  refine ⟨⟨q.sc e,List.mem_map_of_mem h1,(Rr.sc_has he).mpr h2,by rw [Rr.sc_to he,h3]⟩,fun r hr hh=>?_⟩
  obtain ⟨q,hq,rfl⟩:=List.mem_map.mp hr
  rw [Rr.sc_to he]
  exact (eR he).mpr (h4 q hq ((Rr.sc_has he).mp hh))
theorem IsOut.sc {X:List Rr} {t e:Rat} {o:Option (Rat × Rat)} (he:0<e) (h:IsOut X t o):IsOut (X.map (Rr.sc e)) (t/e) (o.map fun p=>(p.1/e,p.2/e)):=by
 have lt:∀ {x y:Rat},x/e<y/e↔x<y:=fun {x y}=>by have:=eR (x:=y) (y:=x) he;grind
 cases o with
 | none =>
  intro r hr
  obtain ⟨q,hq,rfl⟩:=List.mem_map.mp hr
  exact lt.mpr (h q hq)
 | some p =>
  obtain ⟨h0,⟨q,h1,h2,h3⟩,h4⟩:=h
  refine ⟨(eR he).mpr h0,⟨q.sc e,List.mem_map_of_mem h1,(Rr.sc_has he).mpr h2,by show (q.sc e).to (p.1/e)=p.2/e;rw [Rr.sc_to he,h3]⟩,fun r hr v tv hv=>?_⟩
  obtain ⟨q,hq,rfl⟩:=List.mem_map.mp hr
  have ev:v=(v*e)/e:=by grind
  rw [ev] at tv hv ⊢
  rw [Rr.sc_to he]
  obtain ⟨a,b⟩:=h4 q hq (v*e) ((eR he).mp tv) ((Rr.sc_has he).mp hv)
  refine ⟨(eR he).mpr a,fun z=>(eR he).mpr (b ?_)⟩
  have z:q.to (v*e)/e=p.2/e:=z
  have k1:q.to (v*e)/e*e=q.to (v*e):=by grind
  have k2:p.2/e*e=p.2:=by grind
  rw [←k1,z,k2]
set_option Elab.async false
set_option linter.all false
set_option maxRecDepth 100000
set_option maxHeartbeats 4000000
open PySem L2 HX FW
theorem qC {k:Nat} {p q:Nat × Nat} (hp:Sz k p) (hq:Sz k q):decide (p.1*q.2<q.1*p.2)=true↔val p<val q:=by
 rw [decide_eq_true_eq];exact iK hp.pos hq.pos
theorem qW {as st Q} (h:cw as st Q):aq Γ dH (frame 2 as) st (ag st Q):=by
 obtain ⟨k,q,t,rfl,hk,ok,tz,kk⟩:=h
 unfold dH
 walk_at "WP"
 refine ⟨_,_,rfl,tz.mono (by omega),ok.zf.mono (by omega),_,rfl,?_⟩
 by_cases a:val t<val q.f
 ·rw [kN tz ok.zf a,if_neg (by decide)]
  exact .inl (kk false ⟨fun z=>(by cases z),fun z=>by have:=z.1;exfalso;have:val q.f≤val t:=z.1;grind⟩)
 ·rw [nH tz ok.zf (by grind),if_pos (by decide)]
  refine ⟨_,_,rfl,ok.zl.mono (by omega),tz.mono (by omega),_,rfl,?_⟩
  by_cases b:val q.l<val t
  ·rw [kN ok.zl tz b]
   exact .inl (kk false ⟨fun z=>(by cases z),fun z=>by have:val t≤val q.l:=z.2;exfalso;grind⟩)
  ·rw [nH ok.zl tz (by grind)]
   exact .inl (kk true ⟨fun _=>⟨by show val q.f≤_;grind,by show _≤val q.l;grind⟩,fun _=>rfl⟩)
theorem ww {as st Q} (h:ej as st Q):aq Γ gY (frame 6 as) st (ag st Q):=by
 obtain ⟨j,m,q,t,rfl,⟨j1,j2⟩,ok,tz,hh,k⟩:=h
 unfold gY
 walk_at "WP"
 refine vE ?_
 have hF:val q.f≤val t:=hh.1
 have hL:val t≤val q.l:=hh.2
 by_cases e:q.f=q.l
 ·rw [decide_eq_true e,if_pos rfl]
  refine .inl (k q.c ok.cc (ok.zc.mono (by omega)) ?_)
  unfold Rr.to
  rw [if_pos (show val q.f=val q.l by rw [e])]
 ·rw [decide_eq_false e,if_neg Bool.false_ne_true]
  have ne:val q.f≠val q.l:=fun z=>e (h_ ok.cf ok.cl z)
  refine ⟨j,j,j,j,m,_,_,_,_,_,rfl,by omega,⟨ok.zf,ok.zc,ok.zl,ok.zd,tz⟩,⟨by grind,hF,hL⟩,fun r cr zr vr=>.inl (k r cr (zr.mono (by omega)) ?_)⟩
  unfold Rr.to
  rw [if_neg (show ¬val q.f=val q.l from ne),vr]
noncomputable def OfI (st:AH) (X:List Rq) (t:Nat × Nat) (z:Nat) (i:Nat) (ρ:Fr) (s:AH):Prop:=s=st∧∃(o:Option (Nat × Nat)) (a b:Option PV),(∀p,o=some p→Cop p∧Sz z p)∧IsOff ((X.take i).map Rq.r) (val t) (o.map val)∧ρ=[some (.tup (X.map rqV)),some (fr t),some (tw o),a,b]
theorem AV {as st Q} (h:iw as st Q):aq Γ jz (frame 5 as) st (ag st Q):=by
 obtain ⟨j,m,X,t,rfl,⟨j1,j2⟩,hX,tz,k⟩:=h
 unfold jz
 walk_at "WP"
 refine e8 Γm (OfI st X t (m+4*j+2)) ⟨rfl,none,_,_,fun p hp=>(nomatch hp),fun r hr=>by simp at hr,rfl⟩ ?_ ?_
 ·rintro i v ρ s hi ⟨rfl,o,a,b,ho,hI,rfl⟩
  refine ⟨trivial,?_⟩
  rw [List.getElem?_map] at hi
  obtain ⟨q,hq,rfl⟩:=Option.map_eq_some_iff.mp hi
  have ok:=hX q (List.mem_of_getElem? hq)
  have et:(X.take (i+1)).map Rq.r=(X.take i).map Rq.r++[q.r]:=by rw [List.take_succ,hq,List.map_append];rfl
  have up:r9 (m+j) q:=⟨ok.cf,ok.cl,ok.cc,ok.cd,ok.zf.mono (by omega),ok.zl.mono (by omega),ok.zc.mono (by omega),ok.zd.mono (by omega),ok.ok⟩
  walk_at "WP"
  refine ⟨m+j,q,t,rfl,by omega,up,tz.mono (by omega),fun c hc=>?_⟩
  walk_at "WP"
  cases c with
  | false =>
   rw [if_neg Bool.false_ne_true]
   refine ⟨rfl,o,_,_,ho,?_,rfl⟩
   rw [et]
   exact hI.snoc fun z=>by have:=hc.mpr z;cases this
  | true =>
   rw [if_pos rfl]
   have hh:=hc.mp rfl
   refine ⟨j,m,q,t,rfl,⟨j1,j2⟩,ok,tz,hh,fun p cp zp vp=>?_⟩
   cases o with
   | none =>
    walk_at "WPO"
    refine ⟨rfl,some p,_,_,fun p' hp'=>by cases hp';exact ⟨cp,zp⟩,?_,rfl⟩
    rw [et]
    show IsOff _ _ (some (val p))
    rw [vp]
    exact hI.new hh fun y hy=>by cases hy
   | some x =>
    obtain ⟨cx,zx⟩:=ho x rfl
    walk_at "WPO"
    refine ⟨_,_,rfl,zp.mono (by omega),zx.mono (by omega),?_⟩
    by_cases lt:val p<val x
    ·rw [kN zp zx lt]
     walk_at "WP"
     refine ⟨rfl,some p,_,_,fun p' hp'=>by cases hp';exact ⟨cp,zp⟩,?_,rfl⟩
     rw [et]
     show IsOff _ _ (some (val p))
     rw [vp]
     exact hI.new hh fun y hy=>by cases hy;rw [←vp];exact Rat.le_of_lt lt
    ·rw [nH zp zx (by grind)]
     walk_at "WP"
     refine ⟨rfl,some x,_,_,ho,?_,rfl⟩
     rw [et]
     exact IsOff.keep hI fun _=>by rw [←vp];grind
 ·rintro ρ s ⟨rfl,o,a,b,ho,hI,rfl⟩
  refine ⟨trivial,?_⟩
  rw [List.length_map,List.take_length] at hI
  walk_at "WP"
  exact .inl (k o ho hI)
theorem AQ {as st Q} (h:iH as st Q):aq Γ js (frame 1 as) st (ag st Q):=by
 obtain ⟨k,q,rfl,hk,ok,kk⟩:=h
 unfold js
 walk_at "WP"
 exact ⟨_,_,rfl,ok.zd.mono (by omega),ok.zc.mono (by omega),.inl (kk _ (qC ok.zd ok.zc))⟩
theorem sV {as st Q} (h:cR as st Q):aq Γ eB (frame 3 as) st (ag st Q):=by
 obtain ⟨j,m,q,t,rfl,⟨j1,j2⟩,ok,ct,tz,tl,k⟩:=h
 unfold eB
 walk_at "WP"
 refine ⟨j,q,rfl,by omega,ok,fun b hb=>?_⟩
 walk_at "WP"
 cases b with
 | true =>
  rw [if_pos rfl]
  exact .inl (k (q.l,q.d) ok.cl ok.cd (ok.zl.mono (by omega)) (ok.zd.mono (by omega)) (xS ok.ok tl (hb.mp rfl)))
 | false =>
  rw [if_neg Bool.false_ne_true]
  have nf:¬q.r.D<q.r.C:=fun z=>by have:=hb.mpr z;cases this
  have rs:q.r.C≤q.r.D:=by grind
  have fl:val q.f≤val q.l:=ok.ok.fl
  refine ⟨_,_,rfl,ok.zf.mono (by omega),tz.mono (by omega),?_⟩
  have zf:Sz (m+j) q.f:=ok.zf.mono (by omega)
  have zt:Sz (m+j) t:=tz.mono (by omega)
  by_cases a:val q.f<val t
  ·rw [kN zf zt a]
   walk_at "WP"
   refine ⟨j,m+j,q,t,rfl,⟨j1,by omega⟩,ok,zt,⟨by show val q.f≤_;grind,tl⟩,fun p cp zp vp=>.inl (k (t,p) ct cp (zt.mono (by omega)) (zp.mono (by omega)) ?_)⟩
   show IsOut _ _ (some (val t,val p))
   rw [vp]
   exact ud ok.ok tl rs (.inl ⟨a,rfl⟩)
  ·rw [nH zf zt (by grind)]
   walk_at "WP"
   refine ⟨j,m+j,q,q.f,rfl,⟨j1,by omega⟩,ok,zf,⟨Rat.le_refl,fl⟩,fun p cp zp vp=>.inl (k (q.f,p) ok.cf cp (zf.mono (by omega)) (zp.mono (by omega)) ?_)⟩
   show IsOut _ _ (some (val q.f,val p))
   rw [vp]
   exact ud ok.ok tl rs (.inr ⟨by show val t≤val q.f;grind,rfl⟩)
theorem tN {as st Q} (h:cV as st Q):aq Γ eQ (frame 2 as) st (ag st Q):=by
 obtain ⟨k,p,q,rfl,hk,⟨c1,c2,c3,c4⟩,⟨z1,z2,z3,z4⟩,kk⟩:=h
 unfold eQ
 walk_at "WP"
 refine vE ?_
 by_cases e:p.2=q.2
 ·rw [decide_eq_true e,if_pos rfl]
  refine ⟨_,_,rfl,z1.mono (by omega),z3.mono (by omega),.inl (kk _ ?_)⟩
  rw [qC z1 z3,e]
  grind
 ·rw [decide_eq_false e,if_neg Bool.false_ne_true]
  refine ⟨_,_,rfl,z2.mono (by omega),z4.mono (by omega),.inl (kk _ ?_)⟩
  rw [qC z2 z4]
  have:val p.2≠val q.2:=fun z=>e (h_ c2 c4 z)
  grind
noncomputable def SoI (st:AH) (X:List Rq) (t:Nat × Nat) (z:Nat) (i:Nat) (ρ:Fr) (s:AH):Prop:=s=st∧∃(o:Option Fr2) (a b c:Option PV),(∀p,o=some p→(Cop p.1∧Cop p.2)∧Sz z p.1∧Sz z p.2)∧IsOut ((X.take i).map Rq.r) (val t) (o.map v2)∧ρ=[some (.tup (X.map rqV)),some (.bl true),some (fr t),a,some (o2V o),b,c]
theorem wQ {as st Q} (h:dh as st Q):aq Γ gZ (frame 7 as) st (ag st Q):=by
 obtain ⟨j,m,X,w,t,rfl,⟨j1,j2⟩,hX,ct,tz,k⟩:=h
 unfold gZ
 walk_at "WP"
 cases w with
 | false =>
  refine ⟨j,m,X,t,rfl,⟨j1,by omega⟩,hX,tz,fun o ho hI=>?_⟩
  cases o with
  | none =>
   walk_at "WPO"
   exact .inl (k none (fun p hp=>(nomatch hp)) (fun z=>by cases z) fun _=>⟨hI,fun p hp=>(nomatch hp)⟩)
  | some x =>
   obtain ⟨cx,zx⟩:=ho x rfl
   walk_at "WPO"
   exact .inl (k (some (t,x)) (fun p hp=>by cases hp;exact ⟨⟨ct,cx⟩,tz.mono (by omega),zx.mono (by omega)⟩) (fun z=>by cases z) fun _=>⟨hI,fun p hp=>by cases hp;rfl⟩)
 | true =>
  refine e8 Γm (SoI st X t (m+5*j+2)) ⟨rfl,none,_,_,_,fun p hp=>(nomatch hp),fun r hr=>by simp at hr,rfl⟩ ?_ ?_
  ·rintro i v ρ s hi ⟨rfl,o,a,b,c,ho,hI,rfl⟩
   refine ⟨trivial,?_⟩
   rw [List.getElem?_map] at hi
   obtain ⟨q,hq,rfl⟩:=Option.map_eq_some_iff.mp hi
   have ok:=hX q (List.mem_of_getElem? hq)
   have et:(X.take (i+1)).map Rq.r=(X.take i).map Rq.r++[q.r]:=by rw [List.take_succ,hq,List.map_append];rfl
   have zl:Sz (m+j) q.l:=ok.zl.mono (by omega)
   have zt:Sz (m+j) t:=tz.mono (by omega)
   walk_at "WP"
   refine ⟨_,_,rfl,ok.zl.mono (by omega),tz.mono (by omega),?_⟩
   by_cases lt:val q.l<val t
   ·rw [kN zl zt lt]
    walk_at "WP"
    refine ⟨rfl,o,_,_,_,ho,?_,rfl⟩
    rw [et]
    exact hI.skip lt
   ·rw [nH zl zt (by grind)]
    walk_at "WP"
    refine ⟨j,m,q,t,rfl,⟨j1,j2⟩,ok,ct,tz,by show val t≤val q.l;grind,fun p c1 c2 z1 z2 hp=>?_⟩
    obtain ⟨m1,m2⟩:=hI.more hp
    cases o with
    | none =>
     (simp only [gD,fT,gL,gK,ee,li,kJ,lf,ky,g_,kO,kQ,hW,gf,fW,dR,jb,jT,lg,gE,lI,gc,oH,d5,kq,gH,fV,j7,fQ,jU,kH,qz,kP,lE,r_,lK,jL,jK,ki,lv,kT,lA,rW,jH,qF,rP,gj,ku,gG,jF,gk,lB,gQ,fO,d0,qY,ls,lC,qJ,kn,k_,kb,gz,jY,f',kw,sL,gJ,d7,ga,dW,fe,gW,d8,gi,dP,gP,jM,jO,gh,dS,bZ,dJ,cA,dG,dY,cY,lr,jJ,kd,kU,kl,lP,fG,fP,gO,fK,fD,kf,sg,lu,kD,jP,km,kW,kz,gA,jV,qQ,rY,jW,kA,gC,gR,rJ,sk,sv,sy,jE,kI,jC,ci,cZ,b8,b7,b9,b_,d9,dQ,dZ,dO,cP,cU,cL,bT,cb,bA,bX,c_,ca,bW,ce,cg,ke,kC,j6,iy,ie,lh,j9,lD,kg,lc,kG,fJ,ib,gm,j8,kh,cQ,f_,gI,kK,cS,jR,lw,q9,rj,qZ,rl,sD,ka,gu,g9,gT,frame,Γ_0,Γ_1,Γ_2,Γ_3,Γ_4,Γ_5,Γ_6,Γ_7,Γ_8,Γ_9,qI,qA,qH,qT,qS,sC,sx,q5,qx,rK,qv,qM,se,rN,sm,rT,rV,so,Nat.add_assoc,aZ,ck,List.append_assoc,List.length_append,List.length_set,List.map_cons,List.map_nil,List.length_cons,List.length_nil,List.replicate,List.cons_append,List.nil_append,List.append_nil,List.getElem?_cons_zero,List.getElem?_cons_succ,List.set_cons_zero,List.set_cons_succ,Option.some.injEq,Cell.lst.injEq,PV.int.injEq,PV.bl.injEq,PV.ref.injEq,PV.str.injEq,PV.tup.injEq,PV.rdl.injEq,List.cons.injEq,and_true,true_and,exists_eq_left,exists_eq_left',exists_eq_right,exists_and_left,exists_and_right,exists_const,Bool.not_true,Bool.not_false,Bool.not_not,Bool.not_eq_true',decide_eq_true_eq,decide_eq_false_iff_not,false_and,and_false,false_or,or_false,if_true,if_false,Bool.false_eq_true,reduceCtorEq,reduceIte,not_false_eq_true,Nat.add_zero,Nat.zero_add,Nat.reduceAdd,Nat.reduceSub,Nat.reduceLeDiff,Int.reduceToNat,Int.reducePow,Int.reduceLT,Int.reduceLE,Int.reduceNeg,Int.reduceAdd,Int.reduceSub,Int.reduceMul,gS,ef,exists_eq,exists_eq',exists_false,ne_eq,not_true_eq_false,and_assoc,Option.join_some,Option.join_none,decide_true,decide_false,fZ,fS,hV,fU,fE,gw,ic,Int.reduceEq,Nat.reduceEqDiff,Bool.not_eq_false,Bool.not_eq_true,Bool.and_true,Bool.true_and,Bool.and_false,Bool.false_and,Bool.or_false,Bool.or_true,o2V])
     refine ⟨rfl,some p,_,_,_,fun p' hp'=>by cases hp';exact ⟨⟨c1,c2⟩,z1,z2⟩,?_,rfl⟩
     rw [et]
     exact m2 (.inl rfl)
    | some b =>
     obtain ⟨⟨d1,d2⟩,y1,y2⟩:=ho b rfl
     (simp only [gD,fT,gL,gK,ee,li,kJ,lf,ky,g_,kO,kQ,hW,gf,fW,dR,jb,jT,lg,gE,lI,gc,oH,d5,kq,gH,fV,j7,fQ,jU,kH,qz,kP,lE,r_,lK,jL,jK,ki,lv,kT,lA,rW,jH,qF,rP,gj,ku,gG,jF,gk,lB,gQ,fO,d0,qY,ls,lC,qJ,kn,k_,kb,gz,jY,f',kw,sL,gJ,d7,ga,dW,fe,gW,d8,gi,dP,gP,jM,jO,gh,dS,bZ,dJ,cA,dG,dY,cY,lr,jJ,kd,kU,kl,lP,fG,fP,gO,fK,fD,kf,sg,lu,kD,jP,km,kW,kz,gA,jV,qQ,rY,jW,kA,gC,gR,rJ,sk,sv,sy,jE,kI,jC,ci,cZ,b8,b7,b9,b_,d9,dQ,dZ,dO,cP,cU,cL,bT,cb,bA,bX,c_,ca,bW,ce,cg,ke,kC,j6,iy,ie,lh,j9,lD,kg,lc,kG,fJ,ib,gm,j8,kh,cQ,f_,gI,kK,cS,jR,lw,q9,rj,qZ,rl,sD,ka,gu,g9,gT,frame,Γ_0,Γ_1,Γ_2,Γ_3,Γ_4,Γ_5,Γ_6,Γ_7,Γ_8,Γ_9,qI,qA,qH,qT,qS,sC,sx,q5,qx,rK,qv,qM,se,rN,sm,rT,rV,so,Nat.add_assoc,aZ,ck,List.append_assoc,List.length_append,List.length_set,List.map_cons,List.map_nil,List.length_cons,List.length_nil,List.replicate,List.cons_append,List.nil_append,List.append_nil,List.getElem?_cons_zero,List.getElem?_cons_succ,List.set_cons_zero,List.set_cons_succ,Option.some.injEq,Cell.lst.injEq,PV.int.injEq,PV.bl.injEq,PV.ref.injEq,PV.str.injEq,PV.tup.injEq,PV.rdl.injEq,List.cons.injEq,and_true,true_and,exists_eq_left,exists_eq_left',exists_eq_right,exists_and_left,exists_and_right,exists_const,Bool.not_true,Bool.not_false,Bool.not_not,Bool.not_eq_true',decide_eq_true_eq,decide_eq_false_iff_not,false_and,and_false,false_or,or_false,if_true,if_false,Bool.false_eq_true,reduceCtorEq,reduceIte,not_false_eq_true,Nat.add_zero,Nat.zero_add,Nat.reduceAdd,Nat.reduceSub,Nat.reduceLeDiff,Int.reduceToNat,Int.reducePow,Int.reduceLT,Int.reduceLE,Int.reduceNeg,Int.reduceAdd,Int.reduceSub,Int.reduceMul,gS,ef,exists_eq,exists_eq',exists_false,ne_eq,not_true_eq_false,and_assoc,Option.join_some,Option.join_none,decide_true,decide_false,fZ,fS,hV,fU,fE,gw,ic,Int.reduceEq,Nat.reduceEqDiff,Bool.not_eq_false,Bool.not_eq_true,Bool.and_true,Bool.true_and,Bool.and_false,Bool.false_and,Bool.or_false,Bool.or_true,o2V])
     refine ⟨m+5*j+2,p,b,rfl,by omega,⟨c1,c2,d1,d2⟩,⟨z1,z2,y1,y2⟩,fun x hx=>?_⟩
     walk_at "WP"
     cases x with
     | true =>
      rw [if_pos rfl]
      refine ⟨rfl,some p,_,_,_,fun p' hp'=>by cases hp';exact ⟨⟨c1,c2⟩,z1,z2⟩,?_,rfl⟩
      rw [et]
      exact m2 (.inr ⟨v2 b,rfl,hx.mp rfl⟩)
     | false =>
      rw [if_neg Bool.false_ne_true]
      refine ⟨rfl,some b,_,_,_,ho,?_,rfl⟩
      rw [et]
      exact m1 (v2 b) rfl fun z=>by have:=hx.mpr z;cases this
  ·rintro ρ s ⟨rfl,o,a,b,c,ho,hI,rfl⟩
   refine ⟨trivial,?_⟩
   rw [List.length_map,List.take_length] at hI
   walk_at "WP"
   exact .inl (k o ho (fun _=>hI) fun z=>by cases z)
theorem DG {L:List PV}:iR L (some 1) (some 4)=(L.drop 1).take 3:=by
 unfold iR
 have h1:=HT.sIx_nat L.length 0 1
 have h4:=HT.sIx_nat L.length L.length 4
 rw [show ((1:Nat):Int)=(1:Int) from rfl] at h1
 rw [show ((4:Nat):Int)=(4:Int) from rfl] at h4
 rw [h1,h4]
 cases L with
 | nil=>rfl
 | cons x xs =>
  have:min 1 (x::xs).length=1:=by simp only [List.length_cons];omega
  rw [this]
  simp only [List.drop_succ_cons,List.drop_zero]
  rw [List.take_eq_take_iff]
  simp only [List.length_cons]
  omega
theorem zj {x y:Int} (a1:0≤x) (b1:x<10 ^ 9) (a2:0≤y) (b2:y<2):∃m:Nat,x*y=m∧m<10 ^ 9:=by
 have:y=0∨y=1:=by omega
 rcases this with rfl|rfl
 ·exact ⟨0,by simp,by decide⟩
 ·exact ⟨x.toNat,by omega,by omega⟩
theorem t9 {as st Q} (h:cX as st Q):aq Γ eC (frame 1 as) st (ag st Q):=by
 obtain ⟨p,rfl,hp,k⟩:=h
 unfold eC
 walk_at "WP"
 refine ⟨p,3,rfl,hp,by decide,by decide,fun x1 s1 a1 b1 g1=>?_⟩
 refine ⟨p,9,rfl,g1.pot,by decide,by decide,fun x2 s2 a2 b2 g2=>?_⟩
 refine ⟨Cy,p,1000000000,rfl,g2.pot,by decide,by decide,fun x3 s3 a3 b3 g3=>?_⟩
 refine ⟨p,4,rfl,g3.pot.app,by decide,by decide,fun y s4 a4 b4 g4=>?_⟩
 walk_at "WP"
 obtain ⟨v,ev,n,rfl,n0,n1⟩:=wc (L:=[PV.int 0,PV.int x1,PV.int x2,PV.int x3]) (P:=fun v=>∃n:Int,v=.int n∧0≤n∧n<10 ^ 9) (fun v hv=>by
  simp only [List.mem_cons,List.not_mem_nil,or_false] at hv
  rcases hv with rfl|rfl|rfl|rfl
  ·exact ⟨0,rfl,by decide,by decide⟩
  ·exact ⟨x1,rfl,a1,by omega⟩
  ·exact ⟨x2,rfl,a2,by omega⟩
  ·exact ⟨x3,rfl,a3,by omega⟩) a4 b4
 refine ⟨_,ad (g4.get aR g3.ne),_,ev,?_⟩
 exact ((g1.trans (g2.trans g3)).app.trans g4).tmp rfl fun s5 g5 _=>.inl (k _ _ n0 n1 g5)
theorem oV {as st Q} (h:bO as st Q):aq Γ dl (frame 3 as) st (ag st Q):=by
 obtain ⟨p,rfl,hp,k⟩:=h
 unfold dl
 walk_at "WP"
 refine ⟨p,4,rfl,hp,by decide,by decide,fun x1 s1 a1 b1 g1=>?_⟩
 refine ⟨Cy,p,1000000000,rfl,g1.pot,by decide,by decide,fun x2 s2 a2 b2 g2=>?_⟩
 refine ⟨p,3,rfl,g2.pot.app,by decide,by decide,fun y s3 a3 b3 g3=>?_⟩
 walk_at "WP"
 obtain ⟨v,ev,n,rfl,n0,n1⟩:=wc (L:=[PV.int 0,PV.int x1,PV.int x2]) (P:=fun v=>∃n:Int,v=.int n∧0≤n∧n<10 ^ 9) (fun v hv=>by
  simp only [List.mem_cons,List.not_mem_nil,or_false] at hv
  rcases hv with rfl|rfl|rfl
  ·exact ⟨0,rfl,by decide,by decide⟩
  ·exact ⟨x1,rfl,a1,by omega⟩
  ·exact ⟨x2,rfl,a2,by omega⟩) a3 b3
 refine ⟨_,ad (g3.get aR g2.ne),_,ev,?_⟩
 refine ((g1.trans g2).app.trans g3).tmp rfl fun s4 g4 _=>?_
 refine ⟨p,5,rfl,g4.pot.app,by decide,by decide,fun z s5 a5 b5 g5=>?_⟩
 walk_at "WP"
 obtain ⟨z,rfl⟩:∃m:Nat,z=m:=⟨z.toNat,by omega⟩
 refine ⟨by omega,by omega,?_⟩
 rw [show 1+(z:Int)=((z+1:Nat):Int) by omega]
 have hs4:st.length≤s4.length:=g4.len
 refine e8 Γm (fun i ρ s=>∃(ns:List Int) (x:Int) (a:Option PV),Gr st p s∧s[s4.length]?=some (.lst ((ns++[x]).map PV.int))∧ns.length=i∧(ns++[x]).Pairwise (·< ·)∧(∀y∈ns++[x],0≤y∧y<(i+1)*1000000000)∧ρ=[some (.ref p),some (.ref s4.length),a]) ⟨[],n,none,g4.app.trans g5,g5.get aR g4.ne,rfl,by simp,?_,rfl⟩ ?_ ?_
 ·intro y hy
  simp only [List.nil_append,List.mem_singleton] at hy
  subst hy
  exact ⟨n0,by omega⟩
 ·rintro i v ρ s hi ⟨ns,x,a,g,hg,hn,hpw,hb,rfl⟩
  obtain ⟨rfl,hi⟩:=nP hi
  refine ⟨trivial,?_⟩
  walk_at "WP"
  refine ⟨⟨_,bh hg⟩,_,ad hg,.int x,by rw [List.map_append];exact sX,?_⟩
  walk_at "WP"
  refine ⟨Cy,p,3,rfl,g.pot,by decide,by decide,fun y1 t1 c1 d1 k1=>?_⟩
  obtain ⟨v,ev,m,rfl,m0,m1⟩:=wc (L:=[PV.int 2,PV.int 7,PV.int 1000000000]) (P:=fun v=>∃n:Int,v=.int n∧0<n∧n≤10 ^ 9) (fun v hv=>by
   simp only [List.mem_cons,List.not_mem_nil,or_false] at hv
   rcases hv with rfl|rfl|rfl
   ·exact ⟨2,rfl,by decide,by decide⟩
   ·exact ⟨7,rfl,by decide,by decide⟩
   ·exact ⟨_,rfl,by decide,by decide⟩) c1 d1
  walk_at "WP"
  refine ⟨_,ev,p,m,rfl,k1.pot,m0,by omega,fun y2 t2 c2 d2 k2=>?_⟩
  walk_at "WP"
  have pl:=hp.lt
  have G:=g.trans (k1.trans k2)
  have hg2:=(k1.trans k2).get hg (by omega)
  have hx:=hb x (by simp)
  refine ⟨_,hg2,by simp;omega,G.setN hs4,ns++[x],x+1+y2,?_,by simp [hn],?_,?_⟩
  ·rw [List.getElem?_set_self (cI hg2)]
   simp
  ·refine List.pairwise_append.mpr ⟨hpw,List.pairwise_singleton _ _,fun a ha b hb'=>?_⟩
   rw [List.mem_singleton] at hb'
   subst hb'
   rcases List.mem_append.mp ha with ha|ha
   ·have:=(List.pairwise_append.mp hpw).2.2 a ha x (by simp)
    omega
   ·rw [List.mem_singleton] at ha
    omega
  ·intro y hy
   rcases List.mem_append.mp hy with hy|hy
   ·have:=hb y hy
    omega
   ·rw [List.mem_singleton] at hy
    omega
 ·rintro ρ s ⟨ns,x,a,g,hg,hn,hpw,hb,rfl⟩
  refine ⟨trivial,?_⟩
  walk_at "WP"
  have hl:(df 0 ((z+1:Nat):Int).toNat).length=z+1:=by simp [df]
  rw [hl] at hn hb
  refine .inl (k _ (ns++[x]) _ g hs4 hg ⟨by simp;omega,by simp;omega,fun y hy=>⟨(hb y hy).1,?_⟩,hpw⟩)
  have:=(hb y hy).2
  omega
theorem tE {as st Q} (h:cM as st Q):aq Γ eK (frame 5 as) st (ag st Q):=by
 obtain ⟨p,n,ns,rfl,hp,hn,hne,hP,k⟩:=h
 unfold eK
 walk_at "WP"
 have lenm:(ns.map PV.int).length=ns.length:=List.length_map ..
 refine ⟨_,ad hn,p,ns.length,by rw [lenm],hp,by have:=hP.ge;omega,by have:=hP.le;omega,fun a s1 a0 a1 g1=>?_⟩
 refine ⟨_,ad (g1.get hn hne),?_⟩
 rw [lenm]
 walk_at "WP"
 refine ⟨p,_,rfl,g1.pot,by omega,by have:=hP.le;omega,fun b s2 b0 b1 g2=>?_⟩
 have G2:=g1.trans g2
 obtain ⟨a,rfl⟩:∃m:Nat,a=m:=⟨a.toNat,by omega⟩
 obtain ⟨b,rfl⟩:∃m:Nat,b=m:=⟨b.toNat,by omega⟩
 have hA:a<ns.length:=by omega
 have hB:a+b<ns.length:=by omega
 obtain ⟨f0,f1⟩:=hP.nn _ (List.getElem_mem hA)
 obtain ⟨l0,l1⟩:=hP.nn _ (List.getElem_mem hB)
 have ea:∀ {m:Nat} (hm:m<ns.length),atI (ns.map PV.int) (m:Int)=some (.int ns[m]):=fun {m} hm=>fF (by rw [List.getElem?_map,List.getElem?_eq_getElem hm];rfl)
 walk_at "WP"
 refine ⟨_,ad (G2.get hn hne),_,ea hA,p,rfl,G2.pot,fun c s3 c0 c1 g3=>?_⟩
 have G3:=G2.trans g3
 obtain ⟨f,hf⟩:∃m:Nat,ns[a]=m:=⟨ns[a].toNat,by omega⟩
 obtain ⟨c,rfl⟩:∃m:Nat,c=m:=⟨c.toNat,by omega⟩
 walk_at "WP"
 by_cases hab:(a:Int)=a+b
 ·rw [if_pos hab]
  refine ⟨_,ad (G3.get hn hne),_,ea hA,_,ad (G3.get hn hne),_,ea hA,?_⟩
  rw [hf]
  exact .inl (k _ _ ⟨f,f,f+c,f+c,rfl,⟨Nat.le_refl _,by omega,by omega,fun _=>rfl,by omega,by omega,by omega⟩⟩ G3)
 ·rw [if_neg hab]
  have eb:(a:Int)+b=((a+b:Nat):Int):=by omega
  rw [eb]
  refine ⟨_,ad (G3.get hn hne),_,ea hA,_,ad (G3.get hn hne),_,ea hB,_,ad (G3.get hn hne),_,ea hB,p,rfl,G3.pot,fun e s4 e0 e1 g4=>?_⟩
  obtain ⟨l,hl⟩:∃m:Nat,ns[a+b]=m:=⟨ns[a+b].toNat,by omega⟩
  obtain ⟨e,rfl⟩:∃m:Nat,e=m:=⟨e.toNat,by omega⟩
  walk_at "WP"
  have lt:ns[a]<ns[a+b]:=List.pairwise_iff_getElem.mp hP.up a (a+b) hA hB (by omega)
  rw [hf,hl]
  exact .inl (k _ _ ⟨f,l,f+c,l+e,rfl,⟨by omega,by omega,by omega,fun z=>by omega,by omega,by omega,by omega⟩⟩ (G3.trans g4))
theorem sK {as st Q} (h:cq as st Q):aq Γ dN (frame 7 as) st (ag st Q):=by
 obtain ⟨p,n,ns,rfl,hp,hn,hne,hl,hb,hu,k⟩:=h
 unfold dN
 walk_at "WP"
 refine ⟨_,bh (ak hn),_,bh (ak hn),_,bh (xs:=iR (ns.map PV.int) (some 1) none) (by simp),?_⟩
 rw [CJ]
 have hnl:=cI hn
 refine e8 Γm (fun i ρ s=>∃(L:List PV) (h:Nat) (a b c:Option PV),Gr st p s∧s[st.length]?=some (.lst L)∧s[st.length+1]?=some (.lst ((ns.map PV.int).drop 1))∧RNs L∧L.length≤i∧h≤10 ^ 11+i*(2*10 ^ 9)∧i≤6∧ρ=[some (.ref p),some (.ref n),some (.ref st.length),some (.int h),a,b,c])
  ⟨[],0,none,none,none,(Gr.refl hp).app,by simp,by simp,fun v hv=>(nomatch hv),Nat.le_refl _,by omega,by omega,rfl⟩ ?_ ?_
 ·rintro i v ρ s hi ⟨L,h,a,b,c,g,g1,g2,hR,hL,hh,hi6,rfl⟩
  obtain ⟨x,y,e1,e2,rfl⟩:=j' hi
  rw [List.getElem?_map] at e1
  rw [List.getElem?_drop,List.getElem?_map] at e2
  obtain ⟨f,f1,rfl⟩:=Option.map_eq_some_iff.mp e1
  obtain ⟨l,l1,rfl⟩:=Option.map_eq_some_iff.mp e2
  rw [Nat.add_comm 1 i] at l1
  have lt:=hu i f l f1 l1
  obtain ⟨f0,f9⟩:=hb f (List.mem_of_getElem? f1)
  obtain ⟨l0,l9⟩:=hb l (List.mem_of_getElem? l1)
  obtain ⟨f,rfl⟩:∃m:Nat,f=m:=⟨f.toNat,by omega⟩
  obtain ⟨l,rfl⟩:∃m:Nat,l=m:=⟨l.toNat,by omega⟩
  have il:=(List.getElem?_eq_some_iff.mp l1).1
  refine ⟨⟨?_,?_⟩,?_⟩
  ·rw [dj,ak hn]
   exact g.get hn hne
  ·rw [dj,g2]
   simp
  walk_at "WP"
  refine ⟨p,rfl,g.pot,fun x1 s1 a1 b1 k1=>?_⟩
  refine ⟨p,2,rfl,k1.pot,by decide,by decide,fun y1 s2 a2 b2 k2=>?_⟩
  obtain ⟨u,hu1,hu2⟩:=zj a1 b1 a2 b2
  walk_at "WP"
  refine ⟨t5 (by omega) (by omega),?_⟩
  rw [hu1]
  refine ⟨p,rfl,k2.pot,fun x3 s3 a3 b3 k3=>?_⟩
  refine ⟨p,2,rfl,k3.pot,by decide,by decide,fun y4 s4 a4 b4 k4=>?_⟩
  obtain ⟨w,hw1,hw2⟩:=zj a3 b3 a4 b4
  walk_at "WP"
  refine ⟨t5 (by omega) (by omega),?_⟩
  rw [hw1]
  have KK:=k1.trans (k2.trans (k3.trans k4))
  have G:=g.trans KK
  have gg:∀ {m:Nat} {cc:Cell},s[m]?=some cc→m≠p→s4[m]?=some cc:=fun h1 h2=>KK.get h1 h2
  have pl:=hp.lt
  obtain ⟨cm,hc,hcf,hcb⟩:∃c:Nat,(if (h:Int)<f then (f:Int) else h)+u=c∧f≤c∧c≤10 ^ 11+i*(2*10 ^ 9)+10 ^ 9:=⟨(if (h:Int)<f then (f:Int) else h).toNat+u,by split <;> omega,by split <;> omega,by split <;> omega⟩
  rw [hc]
  obtain ⟨dm,hd,hdl,hdb⟩:∃c:Nat,(if (cm:Int)<l then (l:Int) else cm)+w=c∧l≤c∧c≤10 ^ 11+(i+1)*(2*10 ^ 9):=⟨(if (cm:Int)<l then (l:Int) else cm).toNat+w,by split <;> omega,by split <;> omega,by split <;> omega⟩
  rw [hd]
  refine ⟨⟨_,bh (gg g1 (by omega))⟩,L,gg g1 (by omega),by omega,G.setN (Nat.le_refl _),L++[.tup [.int f,.int l,.int cm,.int dm]],?_,?_,?_,?_,dm,hdb,by omega,rfl⟩
  ·rw [List.getElem?_set_self (cI (gg g1 (by omega)))]
  ·rw [List.getElem?_set_ne (by omega)]
   exact gg g2 (by omega)
  ·intro v hv
   rcases List.mem_append.mp hv with hv|hv
   ·exact hR v hv
   ·rw [List.mem_singleton] at hv
    exact ⟨f,l,cm,dm,hv,⟨by omega,hcf,hdl,fun z=>by omega,by omega,by omega,by omega⟩⟩
  ·simp;omega
 ·rintro ρ s ⟨L,h,a,b,c,g,g1,g2,hR,hL,hh,hi6,rfl⟩
  refine ⟨⟨?_,?_⟩,?_⟩
  ·rw [dj,ak hn]
   exact g.get hn hne
  ·rw [dj,g2]
   simp
  walk_at "WP"
  exact .inl (k _ L _ g (Nat.le_refl _) g1 hR (by omega))
theorem sJ {as st Q} (h:cz as st Q):aq Γ dM (frame 4 as) st (ag st Q):=by
 obtain ⟨p,rfl,hp,k⟩:=h
 unfold dM
 walk_at "WP"
 refine ⟨p,rfl,hp,fun n ns s1 g1 hn1 hn hP=>?_⟩
 have pl:=hp.lt
 have hne:n≠p:=by omega
 refine ⟨p,4,rfl,g1.pot,by decide,by decide,fun y s2 a2 b2 g2=>?_⟩
 have G2:=g1.trans g2
 have hn2:=g2.get hn hne
 have nl2:=cI hn2
 have chain:∀(cs:List Int),(∀x∈cs,x∈ns.drop 1)→cs.Pairwise (·< ·)→cs.length≤5→(0::cs).length≤6∧(∀x∈0::cs,0≤x∧x<10 ^ 11)∧(∀i x y,(0::cs)[i]?=some x→(0::cs)[i+1]?=some y→x<y):=fun cs h1 h2 h3=>by
  have big:∀x∈ns.drop 1,0<x∧x<10 ^ 11:=fun x hx=>by
   obtain ⟨i,hi,e⟩:=List.mem_iff_getElem.mp hx
   rw [List.getElem_drop] at e
   rw [List.length_drop] at hi
   have l0:0<ns.length:=by omega
   have:=List.pairwise_iff_getElem.mp hP.up 0 (1+i) l0 (by omega) (by omega)
   have n0:=(hP.nn _ (List.getElem_mem l0)).1
   have n1:=(hP.nn x (List.mem_of_mem_drop hx)).2
   exact ⟨by omega,n1⟩
  refine ⟨by simp;omega,fun x hx=>?_,fun i x y e1 e2=>?_⟩
  ·rcases List.mem_cons.mp hx with rfl|hx
   ·exact ⟨by decide,by decide⟩
   ·have:=big x (h1 x hx);exact ⟨by omega,this.2⟩
  ·have pw:(0::cs).Pairwise (·< ·):=List.pairwise_cons.mpr ⟨fun x hx=>(big x (h1 x hx)).1,h2⟩
   obtain ⟨i1,q1⟩:=List.getElem?_eq_some_iff.mp e1
   obtain ⟨i2,q2⟩:=List.getElem?_eq_some_iff.mp e2
   have:=List.pairwise_iff_getElem.mp pw i (i+1) i1 i2 (by omega)
   omega
 walk_at "WP"
 by_cases hy:y=0
 ·rw [if_pos hy]
  obtain ⟨c1,c2,c3⟩:=chain (ns.drop 1) (fun x hx=>hx) (hP.up.sublist (List.drop_sublist _ _)) (by simp;have:=hP.le;omega)
  refine ⟨_,bh (ak hn2),?_⟩
  rw [CJ,←List.map_drop]
  have gl:=G2.len
  refine ⟨by simp;have:=hP.le;omega,p,_,0::ns.drop 1,rfl,G2.pot.app,by simp,by omega,c1,c2,c3,fun m L st' g m0 hm hR hL=>.inl (k m L st' (G2.app.trans g) ?_ hm hR (by omega))⟩
  simp at m0
  omega
 ·rw [if_neg hy]
  refine ⟨p,6,rfl,g2.pot,by decide,by decide,fun j s3 a3 b3 g3=>?_⟩
  obtain ⟨j,rfl⟩:∃m:Nat,j=m:=⟨j.toNat,by omega⟩
  have hj:(df 0 (j:Int).toNat).length=j:=by simp [df]
  refine ⟨_,rfl,by omega,by omega,by omega,?_⟩
  refine sI Γm (fun i acc s=>Gr st p s∧s[n]?=some (.lst (ns.map PV.int))∧RNs acc∧acc.length≤i) ⟨G2.trans g3,g3.get hn2 hne,fun v hv=>(nomatch hv),Nat.le_refl _⟩ ?_ ?_
  ·rintro i x acc s hi ⟨g,gn,hR,hL⟩
   refine ⟨trivial,?_⟩
   walk_at "WP"
   refine ⟨p,n,ns,rfl,g.pot,gn,hne,hP,fun v s' hv g'=>⟨g.trans g',g'.get gn hne,fun w hw=>?_,by omega⟩⟩
   rcases List.mem_append.mp hw with hw|hw
   ·exact hR w hw
   ·rw [List.mem_singleton] at hw
    rw [hw]
    exact hv
  ·rintro acc s ⟨g,gn,hR,hL⟩
   refine ⟨trivial,?_⟩
   rw [hj] at hL
   have gl:=g.len
   by_cases hy1:y=1
   ·rw [if_pos hy1]
    obtain ⟨c1,c2,c3⟩:=chain ((ns.drop 1).take 3) (fun x hx=>List.mem_of_mem_take hx) ((hP.up.sublist (List.drop_sublist _ _)).sublist (List.take_sublist _ _)) (by simp;omega)
    refine ⟨_,bh aR,_,bh (ak gn),?_⟩
    rw [DG,←List.map_drop,←List.map_take]
    refine ⟨by simp;omega,p,_,0::(ns.drop 1).take 3,rfl,g.pot.app,List.getElem?_append_right (by omega) |>.trans (by simp),by omega,c1,c2,c3,fun m L st' g' m0 hm hR' hL'=>?_⟩
    have cl:=zR acc none (some 2)
    refine D4 (xs:=iR acc none (some 2)) (ys:=L) (g'.get (by simp) (by omega)) hm (by omega) ?_
    refine .inl (k _ (iR acc none (some 2)++L) _ (g.app.trans g').app ?_ aR (fun v hv=>?_) (by simp;omega))
    ·have:=g'.len
     simp at this
     omega
    ·rcases List.mem_append.mp hv with hv|hv
     ·exact hR v (AA hv)
     ·exact hR' v hv
   ·rw [if_neg hy1]
    exact .inl (k _ acc _ g.app gl aR hR (by omega))
theorem o1 {as st Q} (h:bN as st Q):aq Γ dq (frame 5 as) st (ag st Q):=by
 obtain ⟨p,n,e,R,rfl,hp,hn,hne,hR,hl,h0,h1,k⟩:=h
 unfold dq
 walk_at "WP"
 refine ⟨_,ad (ak hn),?_⟩
 have pl:=hp.lt
 refine e8 Γm (fun i ρ s=>∃(M:List Rd) (a:Option PV),Gr st p s∧s[st.length]?=some (.lst (M.map fun r=>rqV (r.q e)))∧M.Perm (R.take i)∧M.length=i∧ρ=[some (.ref p),some (.ref n),some (.int e),some (.ref st.length),a]) ⟨[],none,(Gr.refl hp).app,aR,List.Perm.nil,rfl,rfl⟩ ?_ ?_
 ·rintro i v ρ s hi ⟨M,a,g,gM,hM,hl',rfl⟩
  refine ⟨by rw [dj,ak hn];exact g.get hn hne,?_⟩
  rw [List.getElem?_map] at hi
  obtain ⟨r,hr,rfl⟩:=Option.map_eq_some_iff.mp hi
  have hlm:(M.map fun r=>rqV (r.q e)).length=M.length:=List.length_map ..
  walk_at "WP"
  refine ⟨⟨_,bh gM⟩,_,ad gM,?_⟩
  have il:=(List.getElem?_eq_some_iff.mp hr).1
  rw [hlm]
  refine ⟨p,_,rfl,g.pot,by omega,by omega,fun y s1 a1 b1 g1=>?_⟩
  refine ⟨by decide,?_⟩
  have be:e<2 ^ 8000:=Nat.lt_of_le_of_lt h1 (Nat.lt_trans (by decide:10 ^ 11<10 ^ 12) CV)
  refine FW.comp_map Γm (fun x=>match x with | .int z=>fr (am z.toNat e)|v=>v) trivial (fun x hx=>?_) ?_
  ·simp only [List.mem_cons,List.not_mem_nil,or_false] at hx
   rcases hx with rfl|rfl|rfl|rfl
   ·walk_at "WP";exact ⟨r.f,e,rfl,h0,be,rfl,rfl⟩
   ·walk_at "WP";exact ⟨r.l,e,rfl,h0,be,rfl,rfl⟩
   ·walk_at "WP";exact ⟨r.c,e,rfl,h0,be,rfl,rfl⟩
   ·walk_at "WP";exact ⟨r.d,e,rfl,h0,be,rfl,rfl⟩
  ·refine ⟨_,ad aR,.app ?_ ?_⟩
   ·simp [PV.bel,PV.bels,fr]
   ·have g2:=g1.get gM (by omega)
    have yl:y.toNat≤M.length:=by omega
    refine ⟨_,g2,by rw [hlm];omega,a1,by rw [hlm];omega,(g.trans g1).setN (Nat.le_refl _),M.take y.toNat++r::M.drop y.toNat,?_,?_,?_⟩
    ·rw [List.getElem?_set_self (cI g2)]
     show some (Cell.lst ((M.map fun r=>rqV (r.q e)).take y.toNat++rqV (r.q e)::(M.map fun r=>rqV (r.q e)).drop y.toNat))=_
     rw [List.map_append,List.map_cons,List.map_take,List.map_drop]
    ·rw [List.take_succ,hr]
     refine List.Perm.trans List.perm_middle ?_
     rw [List.take_append_drop]
     exact (List.Perm.cons _ hM).trans (List.perm_append_singleton _ _).symm
    ·simp only [List.length_append,List.length_cons,List.length_take,List.length_drop]
     omega
 ·rintro ρ s ⟨M,a,g,gM,hM,hl',rfl⟩
  refine ⟨by rw [dj,ak hn];exact g.get hn hne,?_⟩
  walk_at "WP"
  rw [List.length_map,List.take_length] at hM
  exact ⟨_,ad gM,.inl (k _ _ g hM)⟩
theorem RideN.r {r:Rd} (h:qK r):r.r.Ok:=by
 have c:∀ {a b:Nat},a≤b→(a:Rat)≤b:=fun h=>Rat.natCast_le_natCast.mpr h
 exact ⟨c h.fl,c h.fc,c h.ld,fun z=>by
  have z:(r.f:Rat)=r.l:=z
  have:=h.eq (Rat.natCast_inj.mp z)
  show (r.c:Rat)=r.d
  rw [this]⟩
theorem Rd.qr {r:Rd} {e:Nat} (he:0<e):(r.q e).r=r.r.sc e:=by
 show Rr.mk _ _ _ _=Rr.mk _ _ _ _
 rw [al he,al he,al he,al he]
theorem Rr.Ok.sc {r:Rr} {e:Rat} (he:0<e) (h:r.Ok):(r.sc e).Ok:=⟨(eR he).mpr h.fl,(eR he).mpr h.fc,(eR he).mpr h.ld,fun z=>by
 have z:r.F/e=r.L/e:=z
 have a:r.F/e*e=r.F:=by grind
 have b:r.L/e*e=r.L:=by grind
 show r.C/e=r.D/e
 rw [h.eq (by rw [←a,←b,z])]⟩
theorem RideN.q {r:Rd} {e:Nat} (h:qK r) (he:0<e) (e1:e≤10 ^ 11):r9 50 (r.q e):=by
 have s:∀n,n<10 ^ 13→Sz 50 (am n e):=fun n hn=>⟨Nat.lt_of_le_of_lt (jI _ _) (by omega),Nat.lt_of_le_of_lt (lm _ _) (by omega),dD he⟩
 have f1:=h.fl
 have f2:=h.bigl
 exact ⟨.low he,.low he,.low he,.low he,s _ (by omega),s _ h.bigl,s _ h.bigc,s _ h.big,by rw [Rd.qr he];exact h.r.sc (aJ he)⟩
theorem nB {as st Q} (h:bC as st Q):aq Γ cN (frame 2 as) st (ag st Q):=by
 obtain ⟨p,e,rfl,pz,e0,e1,k⟩:=h
 unfold cN
 walk_at "WP"
 have b:p.2*e<2 ^ (200+40):=bJ pz.b (by omega)
 refine ⟨t5 (by omega) (by omega),?_⟩
 rw [←Int.natCast_mul]
 exact ⟨_,_,rfl,Nat.mul_pos pz.pos e0,Nat.lt_of_lt_of_le b (Nat.pow_le_pow_right (by decide) (by decide)),.inl k⟩
theorem si {as st Q} (h:cu as st Q):aq Γ dL (frame 8 as) st (ag st Q):=by
 obtain ⟨r,t,rfl,ok,tz,hh,k⟩:=h
 have pt:=aJ tz.pos
 have hF:(r.f:Rat)≤val t:=hh.1
 have hL:val t≤(r.l:Rat):=hh.2
 have vt:val t*t.2=t.1:=by unfold val;grind
 have fN:r.f*t.2≤t.1:=by
  have:=Rat.mul_nonneg (a:=val t-r.f) (b:=t.2) (by grind) (by grind)
  have q:((r.f*t.2:Nat):Rat)≤((t.1:Nat):Rat):=by rw [Rat.natCast_mul];grind
  exact Rat.natCast_le_natCast.mp q
 have lN:t.1≤r.l*t.2:=by
  have:=Rat.mul_nonneg (a:=r.l-val t) (b:=t.2) (by grind) (by grind)
  have q:((t.1:Nat):Rat)≤((r.l*t.2:Nat):Rat):=by rw [Rat.natCast_mul];grind
  exact Rat.natCast_le_natCast.mp q
 have l1:=ok.bigl
 have c1:=ok.bigc
 have d1:=ok.big
 have fl:=ok.fl
 unfold dL
 walk_at "WP"
 by_cases e:r.f=r.l
 ·rw [if_pos (by rw [e])]
  refine .inl (k (r.c,1) ⟨by show r.c<_;exact Nat.lt_trans c1 (by decide),by show 1<2 ^ 200;decide,Nat.one_pos⟩ ?_)
  rw [iX]
  unfold Rr.to
  rw [if_pos (show (r.f:Rat)=r.l by rw [e])]
 ·rw [if_neg (fun z=>e (by omega))]
  refine ⟨i_ (by omega) (by omega),i_ (by omega) (by omega),?_⟩
  have e1:(r.l:Int)*t.2-t.1=((r.l*t.2-t.1:Nat):Int):=by rw [Int.natCast_sub lN,Int.natCast_mul]
  have e2:(t.1:Int)-r.f*t.2=((t.1-r.f*t.2:Nat):Int):=by rw [Int.natCast_sub fN,Int.natCast_mul]
  have e3:(r.l:Int)-r.f=((r.l-r.f:Nat):Int):=by rw [Int.natCast_sub fl]
  rw [e1,e2,e3]
  refine ⟨i_ (by omega) (by omega),i_ (by omega) (by omega),i_ (by omega) (by omega),?_⟩
  simp only [←Int.natCast_mul,←Int.natCast_add]
  have b1:r.l*t.2-t.1<2 ^ (44+60):=Nat.lt_of_le_of_lt (Nat.sub_le _ _) (bJ (by omega) tz.b)
  have b2:t.1-r.f*t.2<2 ^ 60:=Nat.lt_of_le_of_lt (Nat.sub_le _ _) tz.a
  have b3:r.c*(r.l*t.2-t.1)<2 ^ (44+(44+60)):=bJ (by omega) b1
  have b4:r.d*(t.1-r.f*t.2)<2 ^ (44+60):=bJ (by omega) b2
  have b5:(r.l-r.f)*t.2<2 ^ (44+60):=bJ (by omega) tz.b
  have pw1:(2:Nat) ^ (44+(44+60))+2 ^ (44+60)<2 ^ 200:=by decide
  have pw2:(2:Nat) ^ (44+60)<2 ^ 200:=by decide
  refine .inl (k (r.c*(r.l*t.2-t.1)+r.d*(t.1-r.f*t.2),(r.l-r.f)*t.2) ⟨?_,?_,Nat.mul_pos (by omega) tz.pos⟩ ?_)
  ·show r.c*(r.l*t.2-t.1)+r.d*(t.1-r.f*t.2)<2 ^ 200
   generalize (2:Nat) ^ 200=B at *
   omega
  ·show (r.l-r.f)*t.2<2 ^ 200
   generalize (2:Nat) ^ 200=B at *
   omega
  ·have x1:((r.l*t.2-t.1:Nat):Rat)=(r.l-val t)*t.2:=by
    have:=congrArg (fun k:Nat=>(k:Rat)) (Nat.sub_add_cancel lN)
    simp only [Rat.natCast_add,Rat.natCast_mul] at this
    grind
   have x2:((t.1-r.f*t.2:Nat):Rat)=(val t-r.f)*t.2:=by
    have:=congrArg (fun k:Nat=>(k:Rat)) (Nat.sub_add_cancel fN)
    simp only [Rat.natCast_add,Rat.natCast_mul] at this
    grind
   have x3:((r.l-r.f:Nat):Rat)=r.l-r.f:=by
    have:=congrArg (fun k:Nat=>(k:Rat)) (Nat.sub_add_cancel fl)
    simp only [Rat.natCast_add] at this
    grind
   have ne:¬(r.f:Rat)=r.l:=fun z=>e (Rat.natCast_inj.mp z)
   have nn:(r.l:Rat)-r.f≠0:=by grind
   show ((r.c*(r.l*t.2-t.1)+r.d*(t.1-r.f*t.2):Nat):Rat)/(((r.l-r.f)*t.2:Nat):Rat)=_
   unfold Rr.to
   rw [if_neg (show ¬(r.r).F=(r.r).L from ne)]
   simp only [Rat.natCast_add,Rat.natCast_mul]
   rw [x1,x2,x3]
   show _=(r.c:Rat)+(r.d-r.c)*((val t-r.f)/(r.l-r.f))
   generalize val t=T
   generalize (t.2:Rat)=u at *
   have:(r.l-(r.f:Rat))*u≠0:=by
    intro z
    rcases Rat.mul_eq_zero.mp z with z|z
    ·exact nn z
    ·grind
   grind
noncomputable def RwI (st:AH) (n:Nat) (R:List Rd) (t:Nat × Nat) (i:Nat) (ρ:Fr) (s:AH):Prop:=s=st∧∃(o:Option (Nat × Nat)) (a b:Option PV),(∀p,o=some p→Sz 200 p)∧IsOff ((R.take i).map Rd.r) (val t) (o.map val)∧ρ=[some (.ref n),some (fr t),some (tw o),a,b]
theorem rH {r:Rd} {t:Nat × Nat} (tz:Sz 60 t):r.r.has (val t)↔r.f*t.2≤t.1∧t.1≤r.l*t.2:=by
 have a:=gN (p:=(r.f,1)) (q:=t) Nat.one_pos tz.pos
 have b:=gN (p:=t) (q:=(r.l,1)) tz.pos Nat.one_pos
 rw [iX] at a b
 simp only [Nat.mul_one] at a b
 rw [a,b]
 rfl
theorem vB {as st Q} (h:dB as st Q):aq Γ fo (frame 5 as) st (ag st Q):=by
 obtain ⟨n,R,t,rfl,hn,hR,tz,k⟩:=h
 unfold fo
 walk_at "WP"
 refine ⟨_,ad hn,e8 Γm (RwI st n R t) ⟨rfl,none,_,_,fun p hp=>(nomatch hp),fun r hr=>by simp at hr,rfl⟩ ?_ ?_⟩
 ·rintro i v ρ s hi ⟨rfl,o,a,b,ho,hI,rfl⟩
  refine ⟨rfl,?_⟩
  rw [List.getElem?_map] at hi
  obtain ⟨r,hr,rfl⟩:=Option.map_eq_some_iff.mp hi
  have ok:=hR r (List.mem_of_getElem? hr)
  have l1:=ok.bigl
  have fl:=ok.fl
  have et:(R.take (i+1)).map Rd.r=(R.take i).map Rd.r++[r.r]:=by rw [List.take_succ,hr,List.map_append];rfl
  have no:¬r.r.has (val t)→IsOff ((R.take (i+1)).map Rd.r) (val t) (o.map val):=fun z=>by rw [et];exact hI.snoc z
  walk_at "WP"
  refine ⟨i_ (by omega) (by omega),?_⟩
  rw [←Int.natCast_mul]
  refine n6 (fun c1=>?_) fun c1=>?_
  ·refine ⟨i_ (by omega) (by omega),?_⟩
   rw [←Int.natCast_mul]
   refine n6 (fun c2=>?_) fun c2=>?_
   ·have hh:r.r.has (val t):=(rH tz).mpr ⟨Int.ofNat_le.mp c1,Int.ofNat_le.mp c2⟩
    refine ⟨r,t,rfl,ok,tz,hh,fun p pz vp=>?_⟩
    cases o with
    | none =>
     walk_at "WPO"
     refine ⟨rfl,some p,_,_,fun p' hp'=>by cases hp';exact pz,?_,rfl⟩
     rw [et]
     show IsOff _ _ (some (val p))
     rw [vp]
     exact hI.new hh fun y hy=>by cases hy
    | some x =>
     have xz:=ho x rfl
     have up:∀ {a:Nat},a<2 ^ 200→a<2 ^ 3000:=fun h=>Nat.lt_of_lt_of_le h (dI (by decide))
     walk_at "WPO"
     refine ⟨ii (up pz.a) (up xz.b),ii (up xz.a) (up pz.b),?_⟩
     rw [←Int.natCast_mul,←Int.natCast_mul]
     refine n6 (fun c=>?_) fun c=>?_
     ·have lt:=(iK pz.pos xz.pos).mp (Int.ofNat_lt.mp c)
      refine ⟨rfl,some p,_,_,fun p' hp'=>by cases hp';exact pz,?_,rfl⟩
      rw [et]
      show IsOff _ _ (some (val p))
      rw [vp]
      exact hI.new hh fun y hy=>by cases hy;rw [←vp];exact Rat.le_of_lt lt
     ·have le:val x≤val p:=Classical.byContradiction fun z=>c (Int.ofNat_lt.mpr ((iK pz.pos xz.pos).mpr (by grind)))
      refine ⟨rfl,some x,_,_,ho,?_,rfl⟩
      rw [et]
      exact IsOff.keep hI fun _=>by rw [←vp];exact le
   ·exact ⟨rfl,o,_,_,ho,no fun z=>c2 (Int.ofNat_le.mpr ((rH tz).mp z).2),rfl⟩
  ·exact ⟨rfl,o,_,_,ho,no fun z=>c1 (Int.ofNat_le.mpr ((rH tz).mp z).1),rfl⟩
 ·rintro ρ s ⟨rfl,o,a,b,ho,hI,rfl⟩
  refine ⟨rfl,?_⟩
  rw [List.length_map,List.take_length] at hI
  walk_at "WP"
  exact .inl (k o ho hI)
structure DuI (X:List Rr) (t:Rat) (P:List Rat) (o:Option (Rat × Rat)):Prop where
 all:∀m∈P,t≤m→∃om,IsOff X m om∧∀z,om=some z→∃p,o=some p∧p.2≤z∧(z=p.2→p.1≤m)
 src:∀p,o=some p→p.1∈P∧t≤p.1∧IsOff X p.1 (some p.2)
theorem DuI.nil {X:List Rr} {t:Rat}:DuI X t [] none:=⟨fun m hm=>(nomatch hm),fun p hp=>(nomatch hp)⟩
theorem DuI.skip {X:List Rr} {t m:Rat} {P:List Rat} {o:Option (Rat × Rat)} {om:Option Rat} (h:DuI X t P o) (hm:IsOff X m om) (no:om=none∨m<t):DuI X t (P++[m]) o:=by
 refine ⟨fun m' hm' tm=>?_,fun p hp=>?_⟩
 ·rcases List.mem_append.mp hm' with hm' | hm'
  ·exact h.all m' hm' tm
  ·rw [List.mem_singleton] at hm'
   rw [hm'] at tm ⊢
   refine ⟨om,hm,fun z hz=>?_⟩
   rcases no with no|no
   ·rw [no] at hz;cases hz
   ·exfalso;grind
 ·obtain ⟨a,b⟩:=h.src p hp;exact ⟨by simp [a],b⟩
theorem DuI.keep {X:List Rr} {t m z:Rat} {P:List Rat} {p:Rat × Rat} (h:DuI X t P (some p)) (hm:IsOff X m (some z)) (le:p.2≤z) (ord:∀q∈P,t≤q→q≤m):DuI X t (P++[m]) (some p):=by
 refine ⟨fun m' hm' tm=>?_,fun p hp=>?_⟩
 ·rcases List.mem_append.mp hm' with hm' | hm'
  ·exact h.all m' hm' tm
  ·rw [List.mem_singleton] at hm'
   rw [hm'] at tm ⊢
   refine ⟨_,hm,fun z' hz=>⟨p,rfl,?_,fun _=>?_⟩⟩
   ·cases hz;exact le
   ·obtain ⟨a,b,_⟩:=h.src p rfl;exact ord _ a b
 ·obtain ⟨a,b⟩:=h.src p hp;exact ⟨by simp [a],b⟩
theorem DuI.new {X:List Rr} {t m z:Rat} {P:List Rat} {o:Option (Rat × Rat)} (h:DuI X t P o) (hm:IsOff X m (some z)) (tm:t≤m) (lt:∀p,o=some p→z<p.2):DuI X t (P++[m]) (some (m,z)):=by
 refine ⟨fun m' hm' tm'=>?_,fun p hp=>?_⟩
 ·rcases List.mem_append.mp hm' with hm' | hm'
  ·obtain ⟨om,a,b⟩:=h.all m' hm' tm'
   refine ⟨om,a,fun z' hz=>?_⟩
   obtain ⟨p,e,h1,h2⟩:=b z' hz
   have:=lt p e
   exact ⟨_,rfl,by show z≤z';grind,fun e=>by have e:z'=z:=e;exfalso;grind⟩
  ·rw [List.mem_singleton] at hm'
   rw [hm']
   exact ⟨_,hm,fun z' hz=>⟨_,rfl,by cases hz;exact Rat.le_refl,fun _=>Rat.le_refl⟩⟩
 ·cases hp;exact ⟨by simp,tm,hm⟩
theorem DuI.out {X:List Rr} {t:Rat} {P:List Rat} {o:Option (Rat × Rat)} (h:DuI X t P o) (hX:∀r∈X,r.Ok) (ht:t∈P) (hP:∀r∈X,r.F∈P∧r.L∈P):IsOut X t o:=by
 have off:∀r∈X,∀m∈P,t≤m→r.has m→∃p,o=some p∧p.2≤r.to m∧(r.to m=p.2→p.1≤m):=fun r hr m hm tm hh=>by
  obtain ⟨om,a,b⟩:=h.all m hm tm
  cases om with
  | none=>exact absurd hh (a r hr)
  | some z =>
   obtain ⟨p,e,h1,h2⟩:=b z rfl
   have:=a.2 r hr hh
   exact ⟨p,e,by grind,fun e2=>h2 (by grind)⟩
 cases o with
 | none =>
  intro r hr
  refine Classical.byContradiction fun z=>?_
  obtain ⟨p,e,_⟩:=off r hr r.L (hP r hr).2 (by grind) ⟨(hX r hr).fl,Rat.le_refl⟩
  cases e
 | some p =>
  obtain ⟨a,b,c⟩:=h.src p rfl
  refine ⟨b,c.1,fun r hr v tv hv=>?_⟩
  have ok:=hX r hr
  have v1:=hv.1
  have v2:=hv.2
  obtain ⟨bb,hbP,tb,hb1,hb2⟩:∃bb,bb∈P∧t≤bb∧r.F≤bb∧bb≤v:=by
   by_cases w:t≤r.F
   ·exact ⟨r.F,(hP r hr).1,w,Rat.le_refl,v1⟩
   ·exact ⟨t,ht,Rat.le_refl,by grind,tv⟩
  obtain ⟨p1,e1,q1,q2⟩:=off r hr bb hbP tb ⟨hb1,by grind⟩
  cases e1
  obtain ⟨p2,e2,q3,q4⟩:=off r hr r.L (hP r hr).2 (by grind) ⟨ok.fl,Rat.le_refl⟩
  cases e2
  by_cases eq:r.F=r.L
  ·have:r.to v=r.to bb:=by unfold Rr.to;rw [if_pos eq,if_pos eq]
   rw [this]
   exact ⟨q1,fun z=>by have:=q2 z;grind⟩
  ·obtain ⟨s,hs,hl⟩:=Rr.line (r:=r) (by have:=ok.fl;grind)
   rw [hl] at q1 q2 q3 q4 ⊢
   by_cases w:0≤s
   ·have:=Rat.mul_nonneg (a:=s) (b:=v-bb) w (by grind)
    exact ⟨by grind,fun z=>by have:=q2 (by grind);grind⟩
   ·have:=Rat.mul_nonneg (a:=-s) (b:=r.L-v) (by grind) (by grind)
    refine ⟨by grind,fun z=>?_⟩
    have e:v=r.L:=Classical.byContradiction fun y=>by
     have:=Rat.mul_pos (a:=-s) (b:=r.L-v) (by grind) (by grind)
     grind
    have:=q4 (by rw [←e];exact z)
    grind
structure TOk (R:List Rd) (w:Bool) (t:Nat × Nat) (T:List (Nat × Nat)):Prop where
 sz:∀m∈T,Sz 60 m
 hd:∃rest,T=t::rest∧rest.Pairwise fun a b=>val a<val b
 yes:w=true→∀r∈R,(r.f,1)∈T∧(r.l,1)∈T
 no:w=false→T=[t]
 ln:T.length≤80
theorem TOk.ord {R:List Rd} {w:Bool} {t:Nat × Nat} {T:List (Nat × Nat)} (h:TOk R w t T) {i:Nat} {m:Nat × Nat} (hm:T[i]?=some m) (tm:val t≤val m):∀q∈(T.take i).map val,val t≤q→q≤val m:=by
 obtain ⟨rest,rfl,pw⟩:=h.hd
 intro q hq _
 obtain ⟨x,hx,rfl⟩:=List.mem_map.mp hq
 cases i with
 | zero=>simp at hx
 | succ i =>
  rw [List.take_succ_cons] at hx
  rw [List.getElem?_cons_succ] at hm
  rcases List.mem_cons.mp hx with rfl|hx
  ·exact tm
  ·obtain ⟨j,hj⟩:=List.getElem?_of_mem hx
   have jl:=(List.getElem?_eq_some_iff.mp hj).1
   rw [List.length_take] at jl
   rw [List.getElem?_take_of_lt (by omega)] at hj
   obtain ⟨j1,e1⟩:=List.getElem?_eq_some_iff.mp hj
   obtain ⟨i1,e2⟩:=List.getElem?_eq_some_iff.mp hm
   have:=List.pairwise_iff_getElem.mp pw j i j1 i1 (by omega)
   rw [e1,e2] at this
   exact Rat.le_of_lt this
noncomputable def DvI (st:AH) (n:Nat) (R:List Rd) (w:Bool) (t:Nat × Nat) (G:AH) (T:List (Nat × Nat)) (mr:Nat) (x:Option PV) (i:Nat) (ρ:Fr) (s:AH):Prop:=s=st++G∧∃(o:Option Fr2) (a b:Option PV),(∀p,o=some p→Sz 200 p.1∧Sz 200 p.2∧p.1∈T)∧DuI (R.map Rd.r) (val t) ((T.take i).map val) (o.map v2)∧ρ=[some (.ref n),some (.bl w),some (fr t),some (.ref mr),x,some (o2V o),a,b]
theorem uV {as st Q} (h:dy as st Q):aq Γ fh (frame 8 as) st (ag st Q):=by
 obtain ⟨n,R,w,t,rfl,hn,hR,lR,tz,k⟩:=h
 have gn:∀g:AH,(st++g)[n]?=some (.lst (R.map rdV)):=fun g=>ak hn
 unfold fh
 show aq Γ (.cons _ _) [some (.ref n),some (.bl w),some (fr t),none,none,none,none,none] st _
 refine i8 (fun ρ s=>s=st++[.lst [fr t]]∧ρ=[some (.ref n),some (.bl w),some (fr t),some (.ref st.length),none,none,none,none]) ?_ ?_
 ·walk_at "WPN"
 rintro ρ s ⟨rfl,rfl⟩
 refine i8 (fun ρ s=>∃(G:AH) (T:List (Nat × Nat)) (mr:Nat) (x:Option PV),s=st++G∧s[mr]?=some (.lst (T.map fr))∧TOk R w t T∧ρ=[some (.ref n),some (.bl w),some (fr t),some (.ref mr),x,none,none,none]) ?_ ?_
 ·cases w with
  | false =>
   refine ifS (fun _=>False) (fun s=>s=st++[.lst [fr t]]) ?_ (fun _ z=>z.elim) ?_
   ·walk_at "WP"
   ·rintro s rfl
    exact ⟨_,[t],_,_,rfl,aR,⟨fun m hm=>by rw [List.mem_singleton] at hm;rw [hm];exact tz,⟨[],rfl,List.Pairwise.nil⟩,(fun z=>(by cases z)),(fun _=>rfl),by simp⟩,rfl⟩
  | true =>
   refine ifS (fun s=>s=st++[.lst [fr t]]) (fun _=>False) ?_ ?_ fun _ z=>z.elim
   ·walk_at "WP"
   rintro s rfl
   have el:∀(x:PV),x∈R.map rdV→∃r,r∈R∧x=rdV r:=fun x hx=>by obtain ⟨p,hp,rfl⟩:=List.mem_map.mp hx;exact ⟨p,hp,rfl⟩
   have eF:(R.map rdV).map (fun x=>match x with | .tup [a,_,_,_]=>a|v=>v)=(R.map fun r=>(r.f:Int)).map PV.int:=by rw [List.map_map,List.map_map];rfl
   have eL:(R.map rdV).map (fun x=>match x with | .tup [_,a,_,_]=>a|v=>v)=(R.map fun r=>(r.l:Int)).map PV.int:=by rw [List.map_map,List.map_map];rfl
   obtain ⟨NS,hNS⟩:∃NS,(R.map fun r=>(r.f:Int))++(R.map fun r=>(r.l:Int))=NS:=⟨_,rfl⟩
   have lNS:NS.length<60:=by rw [←hNS];simp;omega
   have mNS:∀i,i∈NS↔(∃r∈R,i=r.f)∨∃r∈R,i=r.l:=fun i=>by
    rw [←hNS,List.mem_append,List.mem_map,List.mem_map]
    constructor
    ·rintro (⟨r,hr,rfl⟩|⟨r,hr,rfl⟩)
     ·exact .inl ⟨r,hr,rfl⟩
     ·exact .inr ⟨r,hr,rfl⟩
    ·rintro (⟨r,hr,rfl⟩|⟨r,hr,rfl⟩)
     ·exact .inl ⟨r,hr,rfl⟩
     ·exact .inr ⟨r,hr,rfl⟩
   refine i8 (fun ρ s=>∃(G:AH) (er:Nat),s=st++[.lst [fr t]]++G∧s[er]?=some (.lst (NS.map PV.int))∧ρ=[some (.ref n),some (.bl true),some (fr t),some (.ref st.length),some (.ref er),none,none,none]) ?_ ?_
   ·walk_at "WPN"
    refine ⟨_,ad (gn _),by simp;omega,FW.comp_map Γm (fun x=>match x with | .tup [a,_,_,_]=>a|v=>v) rfl (fun x hx=>by obtain ⟨p,hp,rfl⟩:=el x hx;walk_at "WP") ?_⟩
    rw [eF]
    refine ⟨R.map rdV,ad (ak (gn _)),by simp;omega,FW.comp_map Γm (fun x=>match x with | .tup [_,a,_,_]=>a|v=>v) rfl (fun x hx=>by obtain ⟨p,hp,rfl⟩:=el x hx;walk_at "WP") ?_⟩
    rw [eL]
    refine ⟨_,ak aR,by simp;omega,⟨_,by simp only [List.append_assoc];rfl⟩,_,?_,rfl⟩
    rw [aZ]
    show some (Cell.lst (_++_))=_
    rw [←List.map_append,hNS]
   rintro ρ s ⟨G,er,hS,he,rfl⟩
   have h0:s[st.length]?=some (.lst [fr t]):=by rw [hS];exact ak aR
   walk_at "WPN"
   refine ⟨NS,he,lNS,fun ns p1 p2 p3=>?_⟩
   have nn:∀i∈ns,∃k:Nat,i=k∧k<10 ^ 13:=fun i hi=>by
    rcases (mNS i).mp ((p2 i).mp hi) with ⟨r,hr,rfl⟩|⟨r,hr,rfl⟩
    ·have:=(hR r hr).fl;have:=(hR r hr).bigl;exact ⟨r.f,rfl,by omega⟩
    ·exact ⟨r.l,rfl,(hR r hr).bigl⟩
   have lns:ns.length≤60:=by omega
   refine ⟨_,ad aR,by simp;omega,FW.comp_map Γm (fun x=>.tup [x,.int 1]) rfl (fun x hx=>by walk_at "WP") ?_⟩
   have eT:(ns.map PV.int).map (fun x=>PV.tup [x,.int 1])=(ns.map fun i=>(i.toNat,1)).map fr:=by
    rw [List.map_map,List.map_map]
    refine List.map_congr_left fun i hi=>?_
    obtain ⟨k,rfl,_⟩:=nn i hi
    rfl
   rw [eT]
   refine ⟨[fr t],ak (ak h0),by simp;omega,⟨_,by rw [hS];simp only [List.append_assoc];rfl⟩,t::ns.map fun i=>(i.toNat,1),_,by rw [aZ];rfl,⟨fun m hm=>?_,⟨_,rfl,?_⟩,fun _ r hr=>?_,fun z=>(by cases z),by simp;omega⟩,rfl⟩
   ·rcases List.mem_cons.mp hm with rfl|hm
    ·exact tz
    ·obtain ⟨i,hi,rfl⟩:=List.mem_map.mp hm
     obtain ⟨k,rfl,hk⟩:=nn i hi
     exact ⟨by show (k:Int).toNat<_;omega,by show 1<2 ^ 60;decide,Nat.one_pos⟩
   ·rw [List.pairwise_map]
    refine p1.imp_of_mem fun {a b} ha hb lt=>?_
    obtain ⟨x,rfl,_⟩:=nn a ha
    obtain ⟨y,rfl,_⟩:=nn b hb
    show val (x,1)<val (y,1)
    rw [iX,iX]
    exact Rat.natCast_lt_natCast.mpr (by omega)
   ·have a:=(p2 r.f).mpr ((mNS _).mpr (.inl ⟨r,hr,rfl⟩))
    have b:=(p2 r.l).mpr ((mNS _).mpr (.inr ⟨r,hr,rfl⟩))
    exact ⟨List.mem_cons_of_mem _ (List.mem_map.mpr ⟨_,a,rfl⟩),List.mem_cons_of_mem _ (List.mem_map.mpr ⟨_,b,rfl⟩)⟩
 rintro ρ s ⟨G,T,mr,x,rfl,hT,ok,rfl⟩
 refine i8 (fun ρ s=>s=st++G∧ρ=[some (.ref n),some (.bl w),some (fr t),some (.ref mr),x,some .non,none,none]) ?_ ?_
 ·walk_at "WPN"
 rintro ρ s ⟨rfl,rfl⟩
 walk_at "WP"
 refine ⟨_,ad hT,e8 Γm (DvI st n R w t G T mr x) ⟨rfl,none,_,_,fun p hp=>(nomatch hp),.nil,rfl⟩ ?_ ?_⟩
 ·rintro i v ρ s hi ⟨rfl,o,a,b,ho,hI,rfl⟩
  refine ⟨rfl,?_⟩
  rw [List.getElem?_map] at hi
  obtain ⟨m,hm,rfl⟩:=Option.map_eq_some_iff.mp hi
  have mT:=List.mem_of_getElem? hm
  have mz:=ok.sz m mT
  have et:(T.take (i+1)).map val=(T.take i).map val++[val m]:=by rw [List.take_succ,hm,List.map_append];rfl
  have up:∀ {a k:Nat},a<2 ^ k→k≤3000→a<2 ^ 3000:=fun h hk=>Nat.lt_of_lt_of_le h (dI hk)
  walk_at "WP"
  refine ⟨n,R,m,rfl,gn _,hR,mz,fun om hom hoff=>?_⟩
  cases om with
  | none =>
   walk_at "WPO"
   refine ⟨rfl,o,_,_,ho,?_,rfl⟩
   rw [et]
   exact hI.skip hoff (.inl rfl)
  | some y =>
   have yz:=hom y rfl
   walk_at "WPO"
   refine ⟨ii (up mz.a (by decide)) (up tz.b (by decide)),ii (up tz.a (by decide)) (up mz.b (by decide)),?_⟩
   rw [←Int.natCast_mul,←Int.natCast_mul]
   refine n6 (fun c=>?_) fun c=>?_
   ·have tm:val t≤val m:=(gN tz.pos mz.pos).mp (Int.ofNat_le.mp c)
    cases o with
    | none =>
     (simp only [gD,fT,gL,gK,ee,li,kJ,lf,ky,g_,kO,kQ,hW,gf,fW,dR,jb,jT,lg,gE,lI,gc,oH,d5,kq,gH,fV,j7,fQ,jU,kH,qz,kP,lE,r_,lK,jL,jK,ki,lv,kT,lA,rW,jH,qF,rP,gj,ku,gG,jF,gk,lB,gQ,fO,d0,qY,ls,lC,qJ,kn,k_,kb,gz,jY,f',kw,sL,gJ,d7,ga,dW,fe,gW,d8,gi,dP,gP,jM,jO,gh,dS,bZ,dJ,cA,dG,dY,cY,lr,jJ,kd,kU,kl,lP,fG,fP,gO,fK,fD,kf,sg,lu,kD,jP,km,kW,kz,gA,jV,qQ,rY,jW,kA,gC,gR,rJ,sk,sv,sy,jE,kI,jC,ci,cZ,b8,b7,b9,b_,d9,dQ,dZ,dO,cP,cU,cL,bT,cb,bA,bX,c_,ca,bW,ce,cg,ke,kC,j6,iy,ie,lh,j9,lD,kg,lc,kG,fJ,ib,gm,j8,kh,cQ,f_,gI,kK,cS,jR,lw,q9,rj,qZ,rl,sD,ka,gu,g9,gT,frame,Γ_0,Γ_1,Γ_2,Γ_3,Γ_4,Γ_5,Γ_6,Γ_7,Γ_8,Γ_9,qI,qA,qH,qT,qS,sC,sx,q5,qx,rK,qv,qM,se,rN,sm,rT,rV,so,Nat.add_assoc,aZ,ck,List.append_assoc,List.length_append,List.length_set,List.map_cons,List.map_nil,List.length_cons,List.length_nil,List.replicate,List.cons_append,List.nil_append,List.append_nil,List.getElem?_cons_zero,List.getElem?_cons_succ,List.set_cons_zero,List.set_cons_succ,Option.some.injEq,Cell.lst.injEq,PV.int.injEq,PV.bl.injEq,PV.ref.injEq,PV.str.injEq,PV.tup.injEq,PV.rdl.injEq,List.cons.injEq,and_true,true_and,exists_eq_left,exists_eq_left',exists_eq_right,exists_and_left,exists_and_right,exists_const,Bool.not_true,Bool.not_false,Bool.not_not,Bool.not_eq_true',decide_eq_true_eq,decide_eq_false_iff_not,false_and,and_false,false_or,or_false,if_true,if_false,Bool.false_eq_true,reduceCtorEq,reduceIte,not_false_eq_true,Nat.add_zero,Nat.zero_add,Nat.reduceAdd,Nat.reduceSub,Nat.reduceLeDiff,Int.reduceToNat,Int.reducePow,Int.reduceLT,Int.reduceLE,Int.reduceNeg,Int.reduceAdd,Int.reduceSub,Int.reduceMul,gS,ef,exists_eq,exists_eq',exists_false,ne_eq,not_true_eq_false,and_assoc,Option.join_some,Option.join_none,decide_true,decide_false,fZ,fS,hV,fU,fE,gw,ic,Int.reduceEq,Nat.reduceEqDiff,Bool.not_eq_false,Bool.not_eq_true,Bool.and_true,Bool.true_and,Bool.and_false,Bool.false_and,Bool.or_false,Bool.or_true,o2V])
     refine ⟨rfl,some (m,y),_,_,fun p hp=>by cases hp;exact ⟨mz.mono (by decide),yz,mT⟩,?_,rfl⟩
     rw [et]
     exact hI.new hoff tm fun p hp=>by cases hp
    | some f =>
     obtain ⟨f1,f2,f3⟩:=ho f rfl
     (simp only [gD,fT,gL,gK,ee,li,kJ,lf,ky,g_,kO,kQ,hW,gf,fW,dR,jb,jT,lg,gE,lI,gc,oH,d5,kq,gH,fV,j7,fQ,jU,kH,qz,kP,lE,r_,lK,jL,jK,ki,lv,kT,lA,rW,jH,qF,rP,gj,ku,gG,jF,gk,lB,gQ,fO,d0,qY,ls,lC,qJ,kn,k_,kb,gz,jY,f',kw,sL,gJ,d7,ga,dW,fe,gW,d8,gi,dP,gP,jM,jO,gh,dS,bZ,dJ,cA,dG,dY,cY,lr,jJ,kd,kU,kl,lP,fG,fP,gO,fK,fD,kf,sg,lu,kD,jP,km,kW,kz,gA,jV,qQ,rY,jW,kA,gC,gR,rJ,sk,sv,sy,jE,kI,jC,ci,cZ,b8,b7,b9,b_,d9,dQ,dZ,dO,cP,cU,cL,bT,cb,bA,bX,c_,ca,bW,ce,cg,ke,kC,j6,iy,ie,lh,j9,lD,kg,lc,kG,fJ,ib,gm,j8,kh,cQ,f_,gI,kK,cS,jR,lw,q9,rj,qZ,rl,sD,ka,gu,g9,gT,frame,Γ_0,Γ_1,Γ_2,Γ_3,Γ_4,Γ_5,Γ_6,Γ_7,Γ_8,Γ_9,qI,qA,qH,qT,qS,sC,sx,q5,qx,rK,qv,qM,se,rN,sm,rT,rV,so,Nat.add_assoc,aZ,ck,List.append_assoc,List.length_append,List.length_set,List.map_cons,List.map_nil,List.length_cons,List.length_nil,List.replicate,List.cons_append,List.nil_append,List.append_nil,List.getElem?_cons_zero,List.getElem?_cons_succ,List.set_cons_zero,List.set_cons_succ,Option.some.injEq,Cell.lst.injEq,PV.int.injEq,PV.bl.injEq,PV.ref.injEq,PV.str.injEq,PV.tup.injEq,PV.rdl.injEq,List.cons.injEq,and_true,true_and,exists_eq_left,exists_eq_left',exists_eq_right,exists_and_left,exists_and_right,exists_const,Bool.not_true,Bool.not_false,Bool.not_not,Bool.not_eq_true',decide_eq_true_eq,decide_eq_false_iff_not,false_and,and_false,false_or,or_false,if_true,if_false,Bool.false_eq_true,reduceCtorEq,reduceIte,not_false_eq_true,Nat.add_zero,Nat.zero_add,Nat.reduceAdd,Nat.reduceSub,Nat.reduceLeDiff,Int.reduceToNat,Int.reducePow,Int.reduceLT,Int.reduceLE,Int.reduceNeg,Int.reduceAdd,Int.reduceSub,Int.reduceMul,gS,ef,exists_eq,exists_eq',exists_false,ne_eq,not_true_eq_false,and_assoc,Option.join_some,Option.join_none,decide_true,decide_false,fZ,fS,hV,fU,fE,gw,ic,Int.reduceEq,Nat.reduceEqDiff,Bool.not_eq_false,Bool.not_eq_true,Bool.and_true,Bool.true_and,Bool.and_false,Bool.false_and,Bool.or_false,Bool.or_true,o2V])
     refine ⟨ii (up yz.a (by decide)) (up f2.b (by decide)),ii (up f2.a (by decide)) (up yz.b (by decide)),?_⟩
     rw [←Int.natCast_mul,←Int.natCast_mul]
     refine n6 (fun c=>?_) fun c=>?_
     ·have lt:=(iK yz.pos f2.pos).mp (Int.ofNat_lt.mp c)
      refine ⟨rfl,some (m,y),_,_,fun p hp=>by cases hp;exact ⟨mz.mono (by decide),yz,mT⟩,?_,rfl⟩
      rw [et]
      exact hI.new hoff tm fun p hp=>by cases hp;exact lt
     ·have le:val f.2≤val y:=Classical.byContradiction fun z=>c (Int.ofNat_lt.mpr ((iK yz.pos f2.pos).mpr (by grind)))
      refine ⟨rfl,some f,_,_,ho,?_,rfl⟩
      rw [et]
      exact DuI.keep hI hoff le (ok.ord hm tm)
   ·have lt:val m<val t:=Classical.byContradiction fun z=>c (Int.ofNat_le.mpr ((gN tz.pos mz.pos).mpr (by grind)))
    refine ⟨rfl,o,_,_,ho,?_,rfl⟩
    rw [et]
    exact hI.skip hoff (.inr lt)
 ·rintro ρ s ⟨rfl,o,a,b,ho,hI,rfl⟩
  refine ⟨rfl,?_⟩
  rw [List.length_map,List.take_length] at hI
  walk_at "WP"
  refine .inr (.app (by cases o <;> rfl) (k o (fun p hp=>⟨(ho p hp).1,(ho p hp).2.1⟩) (fun hw=>?_) fun hw=>?_))
  ·obtain ⟨rest,eT,_⟩:=ok.hd
   refine hI.out (fun r hr=>?_) (List.mem_map_of_mem (by rw [eT];simp)) fun r hr=>?_
   ·obtain ⟨q,hq,rfl⟩:=List.mem_map.mp hr;exact (hR q hq).r
   ·obtain ⟨q,hq,rfl⟩:=List.mem_map.mp hr
    obtain ⟨a,b⟩:=ok.yes hw q hq
    have a:=List.mem_map_of_mem (f:=val) a
    have b:=List.mem_map_of_mem (f:=val) b
    rw [iX] at a b
    exact ⟨a,b⟩
  ·have eT:=ok.no hw
   subst eT
   obtain ⟨om,a,b⟩:=hI.all (val t) (by simp) Rat.le_refl
   cases o with
   | none =>
    refine ⟨?_,fun p hp=>by cases hp⟩
    cases om with
    | none=>exact a
    | some z=>obtain ⟨p,e,_⟩:=b z rfl;cases e
   | some p =>
    have:=(ho p rfl).2.2
    rw [List.mem_singleton] at this
    obtain ⟨c1,c2,c3⟩:=hI.src (v2 p) rfl
    refine ⟨?_,fun p' hp'=>by cases hp';exact this⟩
    have c3:IsOff _ (val p.1) (some (val p.2)):=c3
    rw [this] at c3
    exact c3
noncomputable abbrev tld (e:Nat) (p:Nat × Nat):Nat × Nat:=am p.1 (p.2*e)
theorem iS {e:Nat} {p:Nat × Nat} (e0:0<e) (hp:0<p.2):val (tld e p)=val p/e:=by
 rw [al (Nat.mul_pos hp e0),Rat.natCast_mul]
 unfold val
 have:=aJ e0
 have:=aJ hp
 grind
theorem jX {e:Nat} {p:Nat × Nat} (e0:0<e) (hp:0<p.2):Cop (tld e p):=.low (Nat.mul_pos hp e0)
theorem uH {R M:List Rd} {e:Nat} (e0:0<e) (pm:M.Perm R) (r:Rr):r∈(R.map Rd.r).map (Rr.sc e)↔r∈(M.map (Rd.q e)).map Rq.r:=by
 simp only [List.mem_map]
 constructor
 ·rintro ⟨x,⟨q,hq,rfl⟩,rfl⟩
  exact ⟨q.q e,⟨q,pm.mem_iff.mpr hq,rfl⟩,Rd.qr e0⟩
 ·rintro ⟨x,⟨q,hq,rfl⟩,rfl⟩
  exact ⟨q.r,⟨q,pm.mem_iff.mp hq,rfl⟩,(Rd.qr e0).symm⟩
theorem CM {R M:List Rd} {e:Nat} {t:Nat × Nat} {o o':Option (Nat × Nat)} (e0:0<e) (pm:M.Perm R) (tp:0<t.2) (ho:∀p,o=some p→0<p.2) (ho':∀p,o'=some p→Cop p) (h:IsOff (R.map Rd.r) (val t) (o.map val)) (h':IsOff ((M.map (Rd.q e)).map Rq.r) (val (tld e t)) (o'.map val)):o'=o.map (tld e):=by
 rw [iS e0 tp] at h'
 have u:=h'.uniq ((h.sc (aJ e0)).congr (uH e0 pm))
 cases o with
 | none =>
  cases o' with
  | none=>rfl
  | some p=>cases u
 | some x =>
  cases o' with
  | none=>cases u
  | some p =>
   have hx:=ho x rfl
   have u:val p=val x/e:=Option.some.inj u
   show some p=some (tld e x)
   rw [h_ (ho' p rfl) (jX e0 hx) (by rw [iS e0 hx];exact u)]
theorem Cf {R M:List Rd} {e:Nat} {t:Nat × Nat} {w:Bool} {o o':Option Fr2} (e0:0<e) (pm:M.Perm R) (tp:0<t.2) (ho:∀p,o=some p→0<p.1.2∧0<p.2.2) (ho':∀p,o'=some p→Cop p.1∧Cop p.2)
  (h1:w=true→IsOut (R.map Rd.r) (val t) (o.map v2)) (h2:w=false→IsOff (R.map Rd.r) (val t) (o.map fun p=>val p.2)∧∀p,o=some p→p.1=t)
  (g1:w=true→IsOut ((M.map (Rd.q e)).map Rq.r) (val (tld e t)) (o'.map v2)) (g2:w=false→IsOff ((M.map (Rd.q e)).map Rq.r) (val (tld e t)) (o'.map fun p=>val p.2)∧∀p,o'=some p→p.1=tld e t):o'=o.map fun p=>(tld e p.1,tld e p.2):=by
 rw [iS e0 tp] at g1 g2
 cases w with
 | true =>
  have u:=(g1 rfl).uniq (((h1 rfl).sc (aJ e0)).congr (uH e0 pm))
  cases o with
  | none =>
   cases o' with
   | none=>rfl
   | some p=>cases u
  | some x =>
   cases o' with
   | none=>cases u
   | some p =>
    obtain ⟨x1,x2⟩:=ho x rfl
    obtain ⟨p1,p2⟩:=ho' p rfl
    have u:v2 p=(val x.1/e,val x.2/e):=Option.some.inj u
    have u1:val p.1=val x.1/e:=congrArg Prod.fst u
    have u2:val p.2=val x.2/e:=congrArg Prod.snd u
    show some p=some (tld e x.1,tld e x.2)
    rw [←h_ p1 (jX e0 x1) (by rw [iS e0 x1];exact u1),←h_ p2 (jX e0 x2) (by rw [iS e0 x2];exact u2)]
 | false =>
  obtain ⟨a1,a2⟩:=h2 rfl
  obtain ⟨b1,b2⟩:=g2 rfl
  have u:=b1.uniq ((a1.sc (aJ e0)).congr (uH e0 pm))
  cases o with
  | none =>
   cases o' with
   | none=>rfl
   | some p=>cases u
  | some x =>
   cases o' with
   | none=>cases u
   | some p =>
    obtain ⟨x1,x2⟩:=ho x rfl
    obtain ⟨p1,p2⟩:=ho' p rfl
    have u2:val p.2=val x.2/e:=Option.some.inj u
    have e1:=a2 x rfl
    have e2:=b2 p rfl
    show some p=some (tld e x.1,tld e x.2)
    rw [e1,←e2,←h_ p2 (jX e0 x2) (by rw [iS e0 x2];exact u2)]
theorem zo {o:Option Fr2}:aF 4 (o2V o)=true:=by cases o <;> rfl
theorem rR {as st Q} (h:cy as st Q):aq Γ dF (frame 9 as) st (ag st Q):=by
 obtain ⟨n,e,M,R,t,rfl,hn,hR,lR,pm,e0,e1,tz,k⟩:=h
 have eM:(M.map fun r=>rqV (r.q e))=(M.map (Rd.q e)).map rqV:=by rw [List.map_map];rfl
 have okM:∀q∈M.map (Rd.q e),r9 50 q:=fun q hq=>by
  obtain ⟨r,hr,rfl⟩:=List.mem_map.mp hq
  exact (hR r (pm.mem_iff.mp hr)).q e0 e1
 have ch:Cop (tld e t):=jX e0 tz.pos
 have bt:t.2*e<2 ^ (60+40):=bJ tz.b (by omega)
 have zh:Sz 100 (tld e t):=⟨Nat.lt_of_le_of_lt (jI _ _) (Nat.lt_of_lt_of_le tz.a (dI (by decide))),Nat.lt_of_le_of_lt (lm _ _) bt,dD (Nat.mul_pos tz.pos e0)⟩
 rw [eM]
 unfold dF
 show aq Γ (.cons _ _) [some (.tup ((M.map (Rd.q e)).map rqV)),some (.ref n),some (.int e),some (fr t),none,none,none,none,none] st _
 refine i8 (fun ρ s=>s=st∧ρ=[some (.tup ((M.map (Rd.q e)).map rqV)),some (.ref n),some (.int e),some (fr t),some (fr (tld e t)),none,none,none,none]) ?_ ?_
 ·walk_at "WPN"
  refine ⟨t5 (by omega) (by omega),?_⟩
  rw [←Int.natCast_mul]
  exact ⟨_,_,rfl,Nat.mul_pos tz.pos e0,Nat.lt_of_lt_of_le bt (dI (by decide)),rfl,rfl⟩
 rintro ρ s ⟨rfl,rfl⟩
 refine i8 (fun ρ s'=>s'=s∧∃o:Option (Nat × Nat),(∀p,o=some p→Sz 200 p)∧IsOff (R.map Rd.r) (val t) (o.map val)∧ρ=[some (.tup ((M.map (Rd.q e)).map rqV)),some (.ref n),some (.int e),some (fr t),some (fr (tld e t)),some (tw o),none,none,none]) ?_ ?_
 ·walk_at "WPN"
  exact ⟨n,R,t,rfl,hn,hR,tz,fun o ho hI=>⟨rfl,o,ho,hI,rfl⟩⟩
 rintro ρ s' ⟨rfl,o,ho,hI,rfl⟩
 refine i8 (fun ρ s=>s=s'∧ρ=[some (.tup ((M.map (Rd.q e)).map rqV)),some (.ref n),some (.int e),some (fr t),some (fr (tld e t)),some (tw o),none,none,none]) ?_ ?_
 ·refine ifS (fun _=>False) (fun s=>s=s') ?_ (fun _ z=>z.elim) ?_
  ·walk_at "WP"
   refine ⟨50,100,M.map (Rd.q e),tld e t,rfl,by decide,okM,zh,fun o' ho' hI'=>?_⟩
   have eo:=CM e0 pm tz.pos (fun p hp=>(ho p hp).pos) (fun p hp=>(ho' p hp).1) hI hI'
   subst eo
   cases o with
   | none =>
    walk_at "WPO"
    refine rG (n:=4) (by decide) rfl rfl ?_
    trivial
   | some x =>
    walk_at "WPO"
    refine ⟨x,e,rfl,ho x rfl,e0,e1,?_⟩
    exact vE (by rw [decide_eq_true rfl];trivial)
  ·rintro s rfl
   exact ⟨rfl,rfl⟩
 rintro ρ s ⟨rfl,rfl⟩
 walk_at "WP"
 refine e8 Γm (fun _ ρ s'=>s'=s∧∃a b c:Option PV,ρ=[some (.tup ((M.map (Rd.q e)).map rqV)),some (.ref n),some (.int e),some (fr t),some (fr (tld e t)),some (tw o),a,b,c]) ⟨rfl,_,_,_,rfl⟩ ?_ ?_
 ·rintro i v ρ s' hi ⟨rfl,a,b,c,rfl⟩
  refine ⟨trivial,?_⟩
  obtain ⟨w,rfl⟩:∃w:Bool,v=.bl w:=by
   have:=List.mem_of_getElem? hi
   simp only [List.mem_cons,List.not_mem_nil,or_false] at this
   rcases this with rfl|rfl
   ·exact ⟨_,rfl⟩
   ·exact ⟨_,rfl⟩
  walk_at "WP"
  refine ⟨n,R,w,t,rfl,hn,hR,lR,tz,fun o2 ho2 h1 h2=>?_⟩
  have fin:∀K:AH→Bool→Prop,K s' true→dh [.tup ((M.map (Rd.q e)).map rqV),.bl w,fr (tld e t)] s' fun x st1=>eqW st1 x (o2V (o2.map fun p=>(tld e p.1,tld e p.2))) fun k=>K st1 k:=fun K hK=>by
   refine ⟨50,100,M.map (Rd.q e),w,tld e t,rfl,by decide,okM,ch,zh,fun o3 ho3 g1 g2=>?_⟩
   have eo:=Cf e0 pm tz.pos (fun p hp=>⟨(ho2 p hp).1.pos,(ho2 p hp).2.pos⟩) (fun p hp=>(ho3 p hp).1) h1 h2 g1 g2
   rw [eo]
   refine rG (n:=4) (by decide) zo zo ?_
   rw [iD]
   exact hK
  cases o2 with
  | none =>
   (simp only [gD,fT,gL,gK,ee,li,kJ,lf,ky,g_,kO,kQ,hW,gf,fW,dR,jb,jT,lg,gE,lI,gc,oH,d5,kq,gH,fV,j7,fQ,jU,kH,qz,kP,lE,r_,lK,jL,jK,ki,lv,kT,lA,rW,jH,qF,rP,gj,ku,gG,jF,gk,lB,gQ,fO,d0,qY,ls,lC,qJ,kn,k_,kb,gz,jY,f',kw,sL,gJ,d7,ga,dW,fe,gW,d8,gi,dP,gP,jM,jO,gh,dS,bZ,dJ,cA,dG,dY,cY,lr,jJ,kd,kU,kl,lP,fG,fP,gO,fK,fD,kf,sg,lu,kD,jP,km,kW,kz,gA,jV,qQ,rY,jW,kA,gC,gR,rJ,sk,sv,sy,jE,kI,jC,ci,cZ,b8,b7,b9,b_,d9,dQ,dZ,dO,cP,cU,cL,bT,cb,bA,bX,c_,ca,bW,ce,cg,ke,kC,j6,iy,ie,lh,j9,lD,kg,lc,kG,fJ,ib,gm,j8,kh,cQ,f_,gI,kK,cS,jR,lw,q9,rj,qZ,rl,sD,ka,gu,g9,gT,frame,Γ_0,Γ_1,Γ_2,Γ_3,Γ_4,Γ_5,Γ_6,Γ_7,Γ_8,Γ_9,qI,qA,qH,qT,qS,sC,sx,q5,qx,rK,qv,qM,se,rN,sm,rT,rV,so,Nat.add_assoc,aZ,ck,List.append_assoc,List.length_append,List.length_set,List.map_cons,List.map_nil,List.length_cons,List.length_nil,List.replicate,List.cons_append,List.nil_append,List.append_nil,List.getElem?_cons_zero,List.getElem?_cons_succ,List.set_cons_zero,List.set_cons_succ,Option.some.injEq,Cell.lst.injEq,PV.int.injEq,PV.bl.injEq,PV.ref.injEq,PV.str.injEq,PV.tup.injEq,PV.rdl.injEq,List.cons.injEq,and_true,true_and,exists_eq_left,exists_eq_left',exists_eq_right,exists_and_left,exists_and_right,exists_const,Bool.not_true,Bool.not_false,Bool.not_not,Bool.not_eq_true',decide_eq_true_eq,decide_eq_false_iff_not,false_and,and_false,false_or,or_false,if_true,if_false,Bool.false_eq_true,reduceCtorEq,reduceIte,not_false_eq_true,Nat.add_zero,Nat.zero_add,Nat.reduceAdd,Nat.reduceSub,Nat.reduceLeDiff,Int.reduceToNat,Int.reducePow,Int.reduceLT,Int.reduceLE,Int.reduceNeg,Int.reduceAdd,Int.reduceSub,Int.reduceMul,gS,ef,exists_eq,exists_eq',exists_false,ne_eq,not_true_eq_false,and_assoc,Option.join_some,Option.join_none,decide_true,decide_false,fZ,fS,hV,fU,fE,gw,ic,Int.reduceEq,Nat.reduceEqDiff,Bool.not_eq_false,Bool.not_eq_true,Bool.and_true,Bool.true_and,Bool.and_false,Bool.false_and,Bool.or_false,Bool.or_true,o2V])
   exact fin (fun st1 k=>if k=false then Ret s' Q (PV.bl false) st1 else st1=s') (by rw [if_neg (by decide)])
  | some p =>
   obtain ⟨z1,z2⟩:=ho2 p rfl
   (simp only [gD,fT,gL,gK,ee,li,kJ,lf,ky,g_,kO,kQ,hW,gf,fW,dR,jb,jT,lg,gE,lI,gc,oH,d5,kq,gH,fV,j7,fQ,jU,kH,qz,kP,lE,r_,lK,jL,jK,ki,lv,kT,lA,rW,jH,qF,rP,gj,ku,gG,jF,gk,lB,gQ,fO,d0,qY,ls,lC,qJ,kn,k_,kb,gz,jY,f',kw,sL,gJ,d7,ga,dW,fe,gW,d8,gi,dP,gP,jM,jO,gh,dS,bZ,dJ,cA,dG,dY,cY,lr,jJ,kd,kU,kl,lP,fG,fP,gO,fK,fD,kf,sg,lu,kD,jP,km,kW,kz,gA,jV,qQ,rY,jW,kA,gC,gR,rJ,sk,sv,sy,jE,kI,jC,ci,cZ,b8,b7,b9,b_,d9,dQ,dZ,dO,cP,cU,cL,bT,cb,bA,bX,c_,ca,bW,ce,cg,ke,kC,j6,iy,ie,lh,j9,lD,kg,lc,kG,fJ,ib,gm,j8,kh,cQ,f_,gI,kK,cS,jR,lw,q9,rj,qZ,rl,sD,ka,gu,g9,gT,frame,Γ_0,Γ_1,Γ_2,Γ_3,Γ_4,Γ_5,Γ_6,Γ_7,Γ_8,Γ_9,qI,qA,qH,qT,qS,sC,sx,q5,qx,rK,qv,qM,se,rN,sm,rT,rV,so,Nat.add_assoc,aZ,ck,List.append_assoc,List.length_append,List.length_set,List.map_cons,List.map_nil,List.length_cons,List.length_nil,List.replicate,List.cons_append,List.nil_append,List.append_nil,List.getElem?_cons_zero,List.getElem?_cons_succ,List.set_cons_zero,List.set_cons_succ,Option.some.injEq,Cell.lst.injEq,PV.int.injEq,PV.bl.injEq,PV.ref.injEq,PV.str.injEq,PV.tup.injEq,PV.rdl.injEq,List.cons.injEq,and_true,true_and,exists_eq_left,exists_eq_left',exists_eq_right,exists_and_left,exists_and_right,exists_const,Bool.not_true,Bool.not_false,Bool.not_not,Bool.not_eq_true',decide_eq_true_eq,decide_eq_false_iff_not,false_and,and_false,false_or,or_false,if_true,if_false,Bool.false_eq_true,reduceCtorEq,reduceIte,not_false_eq_true,Nat.add_zero,Nat.zero_add,Nat.reduceAdd,Nat.reduceSub,Nat.reduceLeDiff,Int.reduceToNat,Int.reducePow,Int.reduceLT,Int.reduceLE,Int.reduceNeg,Int.reduceAdd,Int.reduceSub,Int.reduceMul,gS,ef,exists_eq,exists_eq',exists_false,ne_eq,not_true_eq_false,and_assoc,Option.join_some,Option.join_none,decide_true,decide_false,fZ,fS,hV,fU,fE,gw,ic,Int.reduceEq,Nat.reduceEqDiff,Bool.not_eq_false,Bool.not_eq_true,Bool.and_true,Bool.true_and,Bool.and_false,Bool.false_and,Bool.or_false,Bool.or_true,o2V])
   refine ⟨p.1,e,rfl,z1,e0,e1,p.2,e,rfl,z2,e0,e1,?_⟩
   exact fin (fun st1 k=>if k=false then Ret s' Q (PV.bl false) st1 else st1=s') (by rw [if_neg (by decide)])
 ·rintro ρ s' ⟨rfl,a,b,c,rfl⟩
  refine ⟨trivial,?_⟩
  walk_at "WP"
  exact .inl k
theorem xA:∀ {L:List PV},RNs L→∃R:List Rd,L=R.map rdV∧∀r∈R,qK r
 | [],_=>⟨[],rfl,fun r hr=>(nomatch hr)⟩
 | v::L,h=>by
  obtain ⟨R,rfl,hR⟩:=xA (L:=L) fun w hw=>h w (by simp [hw])
  obtain ⟨f,l,c,d,rfl,ok⟩:=h v (by simp)
  refine ⟨⟨f,l,c,d⟩::R,rfl,fun r hr=>?_⟩
  rcases List.mem_cons.mp hr with rfl|hr
  ·exact ok
  ·exact hR r hr
theorem Cc {M:List Rd} {e k:Nat}:(PV.tup (M.map fun r=>rqV (r.q e))).bel k=true:=by
 rw [PV.bel]
 induction M with
 | nil=>rw [List.map_nil,PV.bels]
 | cons x xs ih=>rw [List.map_cons,PV.bels,ih];rfl
theorem yo {M:List Rd} {e:Nat}:aF 5 (PV.tup (M.map fun r=>rqV (r.q e)))=true:=wF fun v hv=>by
 obtain ⟨r,_,rfl⟩:=List.mem_map.mp hv
 rfl
structure Eb (ns:List Int):Prop where
 nn:∀i∈ns,∃k:Nat,i=k∧k<10 ^ 13
 ne:ns≠[]
 ln:ns.length<60
noncomputable abbrev lwF (ns0:List Int) (k:Nat) (a b c d e f g h:Option PV):Fr:=[some (.rdl (ns0.map PV.int)),some (.int k),a,b,c,d,e,f,g,h]
noncomputable abbrev xV:Ss:=(.cons (.set (.name 2) (.call 12 (.cons (.var 0) (.cons (.var 1) .nil)))) (.cons (.set (.name 3) (.call 19 (.cons (.var 2) .nil))) (.cons (.set (.name 4) (.call 20 (.cons (.var 2) .nil))) (.cons (.set (.name 5) (.call 21 (.cons (.var 2) (.cons (.var 3) (.cons (.var 4) .nil))))) (.cons (.set (.name 6) (.tmp (.blt .tuple1 (.cons (.comp (.blt .tuple1 (.cons (.var 0) .nil)) (.name 0) (.seq (.var 5)) .nil ["_law_ride_here"] []) .nil)))) (.cons (.set (.name 7) (.sset (.bin .Add (.bin .Add (.lst (.cons (.int 0) (.cons (.int 1) .nil))) (.comp (.ix (.var 0) (.int 0)) (.name 0) (.seq (.var 3)) .nil ["_law_ride_here"] [])) (.comp (.ix (.var 0) (.int 1)) (.name 0) (.seq (.var 3)) .nil ["_law_ride_here"] [])))) (.cons (.set (.name 8) (.bin .Add (.comp (.tup (.cons (.var 0) (.cons (.int 1) .nil))) (.name 0) (.seq (.var 7)) .nil ["_law_end"] []) (.comp (.tup (.cons (.bin .Add (.var 0) (.var 1)) (.cons (.int 2) .nil))) (.tup (.cons (.name 0) (.cons (.name 1) .nil))) (.zip (.var 7) (.sl (.var 7) (.yes (.int 1)) .no)) .nil ["_law_one","_law_other"] []))) (.cons (.set (.name 8) (.bin .Add (.var 8) (.lst (.cons (.tup (.cons (.bin .Add (.ix (.var 7) (.neg (.int 1))) (.int 1)) (.cons (.int 1) .nil))) (.cons (.tup (.cons (.call 13 (.cons (.var 2) (.cons (.bin .Add (.bin .Mult (.int 3) (.ix (.var 7) (.neg (.int 1)))) (.int 4)) .nil))) (.cons (.int 3) .nil))) .nil))))) (.cons (.forS (.name 9) (.seq (.var 8)) (.cons (.ifS (.not (.call 26 (.cons (.var 5) (.cons (.var 3) (.cons (.var 4) (.cons (.var 9) .nil)))))) (.cons (.ret (.bl false)) .nil) .nil) .nil)) (.cons (.ifS (.cmp .NotEq (.var 5) (.var 6)) (.cons (.ret (.bl false)) .nil) .nil) .nil))))))))))
noncomputable abbrev yE:Ss:=(.cons (.ret (.bl true)) .nil)
theorem yy {Q:EK} {st:AH} {ns0:List Int} {k:Nat} {s0:AH} {a b c d e f g h:Option PV} (hk:k<9):aq Γ xV (lwF ns0 k a b c d e f g h) s0 (LD (fun ρ _=>∃x a b c d e f g h,ρ=[some (.rdl (ns0.map PV.int)),x,a,b,c,d,e,f,g,h]) (aft Γ yE (ag st Q))):=by
 refine i8 (fun ρ s=>∃p,Pot s p∧ρ=lwF ns0 k (some (.ref p)) b c d e f g h) ?_ ?_
 ·walk_at "WPN"
  exact ⟨ns0,k,rfl,hk,fun q r pk=>⟨_,⟨q,r,aR,pk⟩,rfl⟩⟩
 rintro ρ s1 ⟨p,hp,rfl⟩
 refine i8 (fun ρ s=>∃(n:Nat) (R:List Rd),Pot s p∧n≠p∧s[n]?=some (.lst (R.map rdV))∧(∀r∈R,qK r)∧R.length≤20∧ρ=lwF ns0 k (some (.ref p)) (some (.ref n)) c d e f g h) ?_ ?_
 ·walk_at "WPN"
  refine ⟨p,rfl,hp,fun m L s g m0 hm hL lL=>?_⟩
  obtain ⟨R,rfl,hR⟩:=xA hL
  have:=hp.lt
  exact ⟨g.pot,m,by omega,R,hm,hR,by simpa using lL,rfl⟩
 rintro ρ s2 ⟨n,R,hp,np,hn,hR,lR,rfl⟩
 refine i8 (fun ρ s=>∃x:Nat,0<x∧x≤10 ^ 11∧Pot s p∧s[n]?=some (.lst (R.map rdV))∧ρ=lwF ns0 k (some (.ref p)) (some (.ref n)) (some (.int x)) d e f g h) ?_ ?_
 ·walk_at "WPN"
  exact ⟨p,rfl,hp,fun x s x0 x1 g=>⟨x,x0,x1,g.pot,g.get hn np,rfl⟩⟩
 rintro ρ s3 ⟨x,x0,x1,hp,hn,rfl⟩
 refine i8 (fun ρ s=>∃M:List Rd,M.Perm R∧Pot s p∧s[n]?=some (.lst (R.map rdV))∧ρ=lwF ns0 k (some (.ref p)) (some (.ref n)) (some (.int x)) (some (.tup (M.map fun r=>rqV (r.q x)))) e f g h) ?_ ?_
 ·walk_at "WPN"
  exact ⟨p,n,x,R,rfl,hp,hn,np,hR,lR,x0,x1,fun M s g pm=>⟨M,pm,g.pot,g.get hn np,rfl⟩⟩
 rintro ρ s4 ⟨M,pm,hp,hn,rfl⟩
 have lM:M.length≤20:=by rw [pm.length_eq];exact lR
 refine i8 (fun ρ s=>s=s4∧ρ=lwF ns0 k (some (.ref p)) (some (.ref n)) (some (.int x)) (some (.tup (M.map fun r=>rqV (r.q x)))) (some (.tup (M.map fun r=>rqV (r.q x)))) f g h) ?_ ?_
 ·walk_at "WPN"
  refine ⟨by simp;omega,FW.comp_map Γm (fun v=>v) trivial (fun v hv=>by obtain ⟨r,hr,rfl⟩:=List.mem_map.mp hv;walk_at "WP") ?_⟩
  rw [List.map_id']
  exact ⟨_,ad aR,.app Cc ⟨rfl,rfl⟩⟩
 rintro ρ s ⟨rfl,rfl⟩
 refine i8 (fun ρ s=>∃(er:Nat) (ns:List Int),Eb ns∧s[er]?=some (.lst (ns.map PV.int))∧er≠p∧Pot s p∧s[n]?=some (.lst (R.map rdV))∧ρ=lwF ns0 k (some (.ref p)) (some (.ref n)) (some (.int x)) (some (.tup (M.map fun r=>rqV (r.q x)))) (some (.tup (M.map fun r=>rqV (r.q x)))) (some (.ref er)) g h) ?_ ?_
 ·have el:∀(x:PV),x∈R.map rdV→∃r,r∈R∧x=rdV r:=fun x hx=>by obtain ⟨p,hp,rfl⟩:=List.mem_map.mp hx;exact ⟨p,hp,rfl⟩
  have eF:(R.map rdV).map (fun x=>match x with | .tup [a,_,_,_]=>a|v=>v)=(R.map fun r=>(r.f:Int)).map PV.int:=by rw [List.map_map,List.map_map];rfl
  have eL:(R.map rdV).map (fun x=>match x with | .tup [_,a,_,_]=>a|v=>v)=(R.map fun r=>(r.l:Int)).map PV.int:=by rw [List.map_map,List.map_map];rfl
  walk_at "WPN"
  refine ⟨_,ad (ak hn),by simp;omega,FW.comp_map Γm (fun x=>match x with | .tup [a,_,_,_]=>a|v=>v) rfl (fun x hx=>by obtain ⟨p,hp,rfl⟩:=el x hx;walk_at "WP") ?_⟩
  rw [eF]
  refine ⟨[.int 0,.int 1],ak aR,by simp;omega,?_⟩
  refine ⟨R.map rdV,ad (ak (ak hn)),by simp;omega,FW.comp_map Γm (fun x=>match x with | .tup [_,a,_,_]=>a|v=>v) rfl (fun x hx=>by obtain ⟨p,hp,rfl⟩:=el x hx;walk_at "WP") ?_⟩
  rw [eL]
  refine ⟨_,ak (by rw [aZ];rfl),by simp;omega,[0,1]++(R.map fun r=>(r.f:Int))++(R.map fun r=>(r.l:Int)),by simp,by simp;omega,fun ns p1 p2 p3=>?_⟩
  have pl:=hp.lt
  refine ⟨_,ns,⟨fun i hi=>?_,fun z=>?_,by simp at p3;omega⟩,by rw [aZ];rfl,by simp;omega,hp.app.app.app,ak (ak (ak hn)),rfl⟩
  ·have:=(p2 i).mp hi
   simp only [List.mem_append,List.mem_cons,List.not_mem_nil,or_false,List.mem_map] at this
   rcases this with ((rfl|rfl)|⟨r,hr,rfl⟩)|⟨r,hr,rfl⟩
   ·exact ⟨0,rfl,by decide⟩
   ·exact ⟨1,rfl,by decide⟩
   ·have:=(hR r hr).fl;have:=(hR r hr).bigl;exact ⟨r.f,rfl,by omega⟩
   ·exact ⟨r.l,rfl,(hR r hr).bigl⟩
  ·have:=(p2 0).mpr (by simp)
   rw [z] at this
   cases this
 rintro ρ s5 ⟨er,ns,en,he,ep,hp,hn,rfl⟩
 obtain ⟨en1,en2,en3⟩:=en
 refine i8 (fun ρ s=>∃(mr:Nat) (T:List (Nat × Nat)),(∀t∈T,Sz 60 t)∧T.length≤200∧s[mr]?=some (.lst (T.map fr))∧mr≠p∧s[er]?=some (.lst (ns.map PV.int))∧Pot s p∧s[n]?=some (.lst (R.map rdV))∧ρ=lwF ns0 k (some (.ref p)) (some (.ref n)) (some (.int x)) (some (.tup (M.map fun r=>rqV (r.q x)))) (some (.tup (M.map fun r=>rqV (r.q x)))) (some (.ref er)) (some (.ref mr)) h) ?_ ?_
 ·walk_at "WPN"
  refine ⟨_,ad he,by simp;omega,FW.comp_map Γm (fun x=>.tup [x,.int 1]) rfl (fun x hx=>by walk_at "WP") ?_⟩
  have eT:(ns.map PV.int).map (fun x=>PV.tup [x,.int 1])=(ns.map fun i=>(i.toNat,1)).map fr:=by
   rw [List.map_map,List.map_map]
   refine List.map_congr_left fun i hi=>?_
   obtain ⟨k,rfl,_⟩:=en1 i hi
   rfl
  rw [eT]
  refine ⟨_,bh (ak he),?_⟩
  rw [CJ,←List.map_drop]
  refine ⟨_,ad (ak he),_,ad (by rw [aZ];rfl),by rw [jD];simp;omega,?_⟩
  refine sI Γm (fun j acc s=>s=s5++[Cell.lst ((ns.map fun i=>(i.toNat,1)).map fr),Cell.lst ((ns.drop 1).map PV.int)]∧∃T:List (Nat × Nat),acc=T.map fr∧(∀t∈T,Sz 60 t)∧T.length=j) ⟨rfl,[],rfl,fun t ht=>(nomatch ht),rfl⟩ ?_ ?_
  ·rintro j v acc s hv ⟨rfl,T,rfl,hT,lT⟩
   refine ⟨⟨rfl,rfl⟩,?_⟩
   obtain ⟨x,y,e1,e2,rfl⟩:=j' hv
   rw [List.getElem?_map] at e1 e2
   obtain ⟨a,ha,rfl⟩:=Option.map_eq_some_iff.mp e1
   obtain ⟨b,hb,rfl⟩:=Option.map_eq_some_iff.mp e2
   obtain ⟨a,rfl,a1⟩:=en1 a (List.mem_of_getElem? ha)
   obtain ⟨b,rfl,b1⟩:=en1 b (List.mem_of_mem_drop (List.mem_of_getElem? hb))
   walk_at "WP"
   refine ⟨T++[(a+b,2)],by simp,fun t ht=>?_,by simp [lT]⟩
   rcases List.mem_append.mp ht with ht|ht
   ·exact hT t ht
   ·rw [List.mem_singleton] at ht
    rw [ht]
    exact ⟨by show a+b<_;omega,by show 2<2 ^ 60;decide,by show 0<2;decide⟩
  ·rintro acc s ⟨rfl,T,rfl,hT,lT⟩
   refine ⟨⟨rfl,rfl⟩,?_⟩
   have lT2:T.length≤60:=by rw [lT,jD];simp;omega
   have pl:=hp.lt
   refine ⟨_,ak (by rw [ck];rfl),by simp;omega,_,(ns.map fun i=>(i.toNat,1))++T,fun t ht=>?_,by simp;omega,by rw [aZ,List.map_append];rfl,by simp;omega,ak (ak he),hp.app.app,ak (ak hn),rfl⟩
   rcases List.mem_append.mp ht with ht|ht
   ·obtain ⟨i,hi,rfl⟩:=List.mem_map.mp ht
    obtain ⟨k,rfl,hk⟩:=en1 i hi
    exact ⟨by show (k:Int).toNat<_;omega,by show 1<2 ^ 60;decide,Nat.one_pos⟩
   ·exact hT t ht
 rintro ρ s6 ⟨mr,T,hT,lT,hm,mp,he,hp,hn,rfl⟩
 obtain ⟨lst,hls⟩:∃l:Nat,ns.getLast?=some (l:Int)∧l<10 ^ 13:=by
  rcases ng ns with rfl|⟨Y,c,rfl⟩
  ·exact absurd rfl en2
  ·obtain ⟨l,rfl,hl⟩:=en1 c (by simp)
   exact ⟨l,by simp,hl⟩
 have hat:atI (ns.map PV.int) (-1)=some (.int lst):=by
  rcases ng ns with rfl|⟨Y,c,rfl⟩
  ·exact absurd rfl en2
  ·have:=hls.1
   rw [List.getLast?_concat] at this
   rw [Option.some.inj this,List.map_append]
   exact sX
 refine i8 (fun ρ s=>∃(mr:Nat) (T:List (Nat × Nat)),(∀t∈T,Sz 60 t)∧s[mr]?=some (.lst (T.map fr))∧s[n]?=some (.lst (R.map rdV))∧ρ=lwF ns0 k (some (.ref p)) (some (.ref n)) (some (.int x)) (some (.tup (M.map fun r=>rqV (r.q x)))) (some (.tup (M.map fun r=>rqV (r.q x)))) (some (.ref er)) (some (.ref mr)) h) ?_ ?_
 ·walk_at "WPN"
  have ll:=hls.2
  refine ⟨_,ad he,_,hat,?_⟩
  walk_at "WP"
  refine ⟨_,ad he,_,hat,?_⟩
  walk_at "WP"
  refine ⟨i_ (by decide) (by decide),p,_,rfl,hp,by omega,by omega,fun z s z0 z1 gr=>?_⟩
  obtain ⟨z,rfl⟩:∃k:Nat,z=k:=⟨z.toNat,by omega⟩
  refine ⟨_,ak (gr.get hm mp),by simp;omega,_,T++[(lst+1,1),(z,3)],fun t ht=>?_,?_,ak (gr.get hn np),rfl⟩
  ·rcases List.mem_append.mp ht with ht|ht
   ·exact hT t ht
   ·simp only [List.mem_cons,List.not_mem_nil,or_false] at ht
    rcases ht with rfl|rfl
    ·exact ⟨by show lst+1<_;omega,by show 1<2 ^ 60;decide,Nat.one_pos⟩
    ·exact ⟨by show z<_;omega,by show 3<2 ^ 60;decide,by show 0<3;decide⟩
  ·rw [aZ,List.map_append]
   rfl
 rintro ρ s7 ⟨mr,T,hT,hm,hn,rfl⟩
 refine i8 (fun ρ s=>s=s7∧∃h,ρ=lwF ns0 k (some (.ref p)) (some (.ref n)) (some (.int x)) (some (.tup (M.map fun r=>rqV (r.q x)))) (some (.tup (M.map fun r=>rqV (r.q x)))) (some (.ref er)) (some (.ref mr)) h) ?_ ?_
 ·walk_at "WPN"
  refine ⟨_,ad hm,e8 Γm (fun _ ρ s=>s=s7∧∃h,ρ=lwF ns0 k (some (.ref p)) (some (.ref n)) (some (.int x)) (some (.tup (M.map fun r=>rqV (r.q x)))) (some (.tup (M.map fun r=>rqV (r.q x)))) (some (.ref er)) (some (.ref mr)) h) ⟨rfl,_,rfl⟩ ?_ ?_⟩
  ·rintro i v ρ s hi ⟨rfl,h,rfl⟩
   refine ⟨rfl,?_⟩
   rw [List.getElem?_map] at hi
   obtain ⟨t,ht,rfl⟩:=Option.map_eq_some_iff.mp hi
   walk_at "WP"
   refine ⟨n,x,M,R,t,rfl,hn,hR,lR,pm,x0,x1,hT t (List.mem_of_getElem? ht),?_⟩
   walk_at "WP"
  ·rintro ρ s ⟨rfl,h,rfl⟩
   exact ⟨rfl,rfl,_,rfl⟩
 rintro ρ s8 ⟨rfl,h,rfl⟩
 walk_at "WP"
 refine rG (n:=5) (by decide) yo yo ?_
 rw [iD,if_neg (by decide)]
 trivial
theorem DN {as st Q} (h:je as st Q):aq Γ nD (frame 10 as) st (ag st Q):=by
 obtain ⟨ns,rfl,hl,k⟩:=h
 unfold nD
 walk_at "WP"
 rw [List.length_map]
 obtain ⟨N,hN,hN6⟩:∃N:Nat,(if 1<if 3<(ns.length:Int) then 3 else (ns.length:Int) then if 3<(ns.length:Int) then 3 else (ns.length:Int) else 1)=(N:Int)∧N≤3:=by
  refine ⟨(if 1<if 3<(ns.length:Int) then 3 else (ns.length:Int) then if 3<(ns.length:Int) then 3 else (ns.length:Int) else 1).toNat,?_,?_⟩ <;> (repeat' split) <;> omega
 rw [hN]
 refine ⟨by omega,by omega,?_⟩
 refine e8 Γm (fun i ρ s=>∃x a b c d e f g h,ρ=[some (.rdl (ns.map PV.int)),x,a,b,c,d,e,f,g,h]) ⟨_,_,_,_,_,_,_,_,_,rfl⟩ ?_ ?_
 ·rintro i v ρ s hi ⟨x,a,b,c,d,e,f,g,h,rfl⟩
  obtain ⟨rfl,hi⟩:=nP hi
  exact ⟨trivial,yy (by omega)⟩
 ·rintro ρ s ⟨x,a,b,c,d,e,f,g,h,rfl⟩
  refine ⟨trivial,?_⟩
  walk_at "WP"
  exact .inl (k _)
section
variable {P:Program} {w:World} {K:PySem.W.Frag} {mg:Str→Option Value} {base:Heap}
theorem kE (F:At K mg "common_divisor" ax ["n","d"]) (G:GOk P w K mg base dv Γ):Has P w K mg base 1 "common_divisor" ["n","d"] (au K (Γ 0)):=aC F lQ rfl rfl mw G (fun as st Q=>ju (st:=st)) (fun as st Q=>l')
theorem tI (F:At K mg "fraction" bL ["n","d"]) (G:GOk P w K mg base jA Γ):Has P w K mg base 2 "fraction" ["n","d"] (au K (Γ 1)):=aC F sR rfl rfl vd G (fun as st Q=>sj (st:=st)) (fun as st Q=>uX)
theorem tF (F:At K mg "is_below" bP ["one","other"]) (G:GOk P w K mg base ji Γ):Has P w K mg base 3 "is_below" ["one","other"] (au K (Γ 2)):=aC F uj rfl rfl vm G (fun as st Q=>qR (st:=st)) (fun as st Q=>vw)
theorem sB (F:At K mg "crosswise" bx ["one","other"]) (G:GOk P w K mg base iE Γ):Has P w K mg base 4 "crosswise" ["one","other"] (au K (Γ 3)):=aC F sh rfl rfl ur G (fun as st Q=>oJ (st:=st)) (fun as st Q=>uz)
theorem nR (F:At K mg "on_straight" aL ["near","far","x"]) (G:GOk P w K mg base fk Γ):Has P w K mg base 5 "on_straight" ["near","far","x"] (au K (Γ 4)):=aC F nG rfl rfl pf G (fun as st Q=>mM (st:=st)) (fun as st Q=>pA)
theorem o7 (F:At K mg "has_moment" aW ["ride","t"]) (G:GOk P w K mg base fH Γ):Has P w K mg base 6 "has_moment" ["ride","t"] (au K (Γ 5)):=aC F oM rfl rfl rk G (fun as st Q=>oo (st:=st)) (fun as st Q=>qW)
theorem vo (F:At K mg "come_by" cG ["ride","t"]) (G:GOk P w K mg base mt Γ):Has P w K mg base 7 "come_by" ["ride","t"] (au K (Γ 6)):=aC F vf rfl rfl xr G (fun as st Q=>ut (st:=st)) (fun as st Q=>ww)
theorem zk (F:At K mg "offer" eZ ["rides","t"]) (G:GOk P w K mg base qG Γ):Has P w K mg base 8 "offer" ["rides","t"] (au K (Γ 7)):=aC F yZ rfl rfl A2 G (fun as st Q=>wN (st:=st)) (fun as st Q=>AV)
theorem zn (F:At K mg "falls" eX ["ride"]) (G:GOk P w K mg base rg Γ):Has P w K mg base 9 "falls" ["ride"] (au K (Γ 8)):=aC F xU rfl rfl zY G (fun as st Q=>wT (st:=st)) (fun as st Q=>AQ)
theorem qU (F:At K mg "best_from" br ["ride","t"]) (G:GOk P w K mg base iF Γ):Has P w K mg base 10 "best_from" ["ride","t"] (au K (Γ 9)):=aC F sF rfl rfl t0 G (fun as st Q=>pB (st:=st)) (fun as st Q=>sV)
theorem rF (F:At K mg "is_better" bv ["pair","best"]) (G:GOk P w K mg base iL Γ):Has P w K mg base 11 "is_better" ["pair","best"] (au K (Γ 10)):=aC F rX rfl rfl sW G (fun as st Q=>pe (st:=st)) (fun as st Q=>tN)
theorem uN (F:At K mg "set_out" cH ["rides","wait","t"]) (G:GOk P w K mg base lV Γ):Has P w K mg base 12 "set_out" ["rides","wait","t"] (au K (Γ 11)):=aC F uL rfl rfl wR G (fun as st Q=>tK (st:=st)) (fun as st Q=>wQ)
theorem t_ (F:At K mg "_law_pot" bR ["_law_script","_law_k"]) (G:GOk P w K mg base jw Γ):Has P w K mg base 13 "_law_pot" ["_law_script","_law_k"] (au K (Γ 12)):=aC F tj rfl rfl vC G (fun as st Q=>qL (st:=st)) (fun as st Q=>u8)
theorem re (F:At K mg "_law_take" bp ["_law_pot_here","_law_many"]) (G:GOk P w K mg base iP Γ):Has P w K mg base 14 "_law_take" ["_law_pot_here","_law_many"] (au K (Γ 13)):=aC F rS rfl rfl sO G (fun as st Q=>oP (st:=st)) (fun as st Q=>ux)
theorem nv (F:At K mg "_law_moment" aO ["_law_n","_law_d"]) (G:GOk P w K mg base fb Γ):Has P w K mg base 15 "_law_moment" ["_law_n","_law_d"] (au K (Γ 14)):=aC F nU rfl rfl oU G (fun as st Q=>mL (st:=st)) (fun as st Q=>o0)
theorem nY (F:At K mg "_law_points" aM ["_law_pot_here"]) (G:GOk P w K mg base ft Γ):Has P w K mg base 16 "_law_points" ["_law_pot_here"] (au K (Γ 15)):=aC F nI rfl rfl o8 G (fun as st Q=>mK (st:=st)) (fun as st Q=>oV)
theorem rn (F:At K mg "_law_late" bn ["_law_pot_here"]) (G:GOk P w K mg base iM Γ):Has P w K mg base 17 "_law_late" ["_law_pot_here"] (au K (Γ 16)):=aC F su rfl rfl sZ G (fun as st Q=>oK (st:=st)) (fun as st Q=>t9)
theorem qw (F:At K mg "_law_ride" bo ["_law_pot_here","_law_points_here"]) (G:GOk P w K mg base ip Γ):Has P w K mg base 18 "_law_ride" ["_law_pot_here","_law_points_here"] (au K (Γ 17)):=aC F q_ rfl rfl tM G (fun as st Q=>pb (st:=st)) (fun as st Q=>tE)
theorem oE (F:At K mg "_law_chain" aY ["_law_pot_here","_law_points_here"]) (G:GOk P w K mg base fY Γ):Has P w K mg base 19 "_law_chain" ["_law_pot_here","_law_points_here"] (au K (Γ 18)):=aC F o6 rfl rfl sf G (fun as st Q=>oy (st:=st)) (fun as st Q=>sK)
theorem ph (F:At K mg "_law_rides" a_ ["_law_pot_here"]) (G:GOk P w K mg base fL Γ):Has P w K mg base 20 "_law_rides" ["_law_pot_here"] (au K (Γ 19)):=aC F pq rfl rfl sG G (fun as st Q=>n9 (st:=st)) (fun as st Q=>sJ)
theorem q8 (F:At K mg "_law_part" bz ["_law_pot_here"]) (G:GOk P w K mg base iI Γ):Has P w K mg base 21 "_law_part" ["_law_pot_here"] (au K (Γ 20)):=aC F qX rfl rfl uk G (fun as st Q=>oZ (st:=st)) (fun as st Q=>t4)
theorem nO (F:At K mg "_law_handed" aN ["_law_pot_here","_law_rides_here","_law_part_here"]) (G:GOk P w K mg base ff Γ):Has P w K mg base 22 "_law_handed" ["_law_pot_here","_law_rides_here","_law_part_here"] (au K (Γ 21)):=aC F nM rfl rfl o_ G (fun as st Q=>mP (st:=st)) (fun as st Q=>o1)
theorem pd (F:At K mg "_law_comes" ba ["_law_ride_here","_law_t"]) (G:GOk P w K mg base gX Γ):Has P w K mg base 23 "_law_comes" ["_law_ride_here","_law_t"] (au K (Γ 22)):=aC F oW rfl rfl rq G (fun as st Q=>nV (st:=st)) (fun as st Q=>si)
theorem t7 (F:At K mg "_law_raw" bS ["_law_rides_here","_law_t"]) (G:GOk P w K mg base jm Γ):Has P w K mg base 24 "_law_raw" ["_law_rides_here","_law_t"] (au K (Γ 23)):=aC F t6 rfl rfl uY G (fun as st Q=>rB (st:=st)) (fun as st Q=>vB)
theorem ue (F:At K mg "_law_due" bQ ["_law_rides_here","_law_wait","_law_t"]) (G:GOk P w K mg base jy Γ):Has P w K mg base 25 "_law_due" ["_law_rides_here","_law_wait","_law_t"] (au K (Γ 24)):=aC F tU rfl rfl uK G (fun as st Q=>sE (st:=st)) (fun as st Q=>uV)
theorem mR (F:At K mg "_law_as_told" aG ["_law_value","_law_part_here"]) (G:GOk P w K mg base eN Γ):Has P w K mg base 26 "_law_as_told" ["_law_value","_law_part_here"] (au K (Γ 25)):=aC F mS rfl rfl nK G (fun as st Q=>lU (st:=st)) (fun as st Q=>nB)
theorem pv (F:At K mg "_law_right" aX ["_law_handed_here","_law_rides_here","_law_part_here","_law_t"]) (G:GOk P w K mg base fM Γ):Has P w K mg base 27 "_law_right" ["_law_handed_here","_law_rides_here","_law_part_here","_law_t"] (au K (Γ 26)):=aC F oD rfl rfl qB G (fun as st Q=>nj (st:=st)) (fun as st Q=>rR)
end
theorem all_mk {l:PySem.W.OpenLaw} {q:Program} {w:World} {K:PySem.W.Frag} {h:Heap} {mg:Str→Option Value} {fa:Addr} (X:K.In h) (G:h.Ns mainGlobals mg) (hfa:mg "law"=some (.ref fa))
  {f0:Addr} {oc0 kV0 dc0 pm0 cd0 ct0:Value} {od0 an0:Option Addr} {sl0:Array (Option Value)}
  {f1:Addr} {oc1 kV1 dc1 pm1 cd1 ct1:Value} {od1 an1:Option Addr} {sl1:Array (Option Value)}
  {f2:Addr} {oc2 kV2 dc2 pm2 cd2 ct2:Value} {od2 an2:Option Addr} {sl2:Array (Option Value)}
  {f3:Addr} {oc3 kV3 dc3 pm3 cd3 ct3:Value} {od3 an3:Option Addr} {sl3:Array (Option Value)}
  {f4:Addr} {oc4 kV4 dc4 pm4 cd4 ct4:Value} {od4 an4:Option Addr} {sl4:Array (Option Value)}
  {f5:Addr} {oc5 kV5 dc5 pm5 cd5 ct5:Value} {od5 an5:Option Addr} {sl5:Array (Option Value)}
  {f6:Addr} {oc6 kV6 dc6 pm6 cd6 ct6:Value} {od6 an6:Option Addr} {sl6:Array (Option Value)}
  {f7:Addr} {oc7 kV7 dc7 pm7 cd7 ct7:Value} {od7 an7:Option Addr} {sl7:Array (Option Value)}
  {f8:Addr} {oc8 kV8 dc8 pm8 cd8 ct8:Value} {od8 an8:Option Addr} {sl8:Array (Option Value)}
  {f9:Addr} {oc9 kV9 dc9 pm9 cd9 ct9:Value} {od9 an9:Option Addr} {sl9:Array (Option Value)}
  {f10:Addr} {oc10 kV10 dc10 pm10 cd10 ct10:Value} {od10 an10:Option Addr} {sl10:Array (Option Value)}
  {f11:Addr} {oc11 kV11 dc11 pm11 cd11 ct11:Value} {od11 an11:Option Addr} {sl11:Array (Option Value)}
  {f12:Addr} {oc12 kV12 dc12 pm12 cd12 ct12:Value} {od12 an12:Option Addr} {sl12:Array (Option Value)}
  {f13:Addr} {oc13 kV13 dc13 pm13 cd13 ct13:Value} {od13 an13:Option Addr} {sl13:Array (Option Value)}
  {f14:Addr} {oc14 kV14 dc14 pm14 cd14 ct14:Value} {od14 an14:Option Addr} {sl14:Array (Option Value)}
  {f15:Addr} {oc15 kV15 dc15 pm15 cd15 ct15:Value} {od15 an15:Option Addr} {sl15:Array (Option Value)}
  {f16:Addr} {oc16 kV16 dc16 pm16 cd16 ct16:Value} {od16 an16:Option Addr} {sl16:Array (Option Value)}
  {f17:Addr} {oc17 kV17 dc17 pm17 cd17 ct17:Value} {od17 an17:Option Addr} {sl17:Array (Option Value)}
  {f18:Addr} {oc18 kV18 dc18 pm18 cd18 ct18:Value} {od18 an18:Option Addr} {sl18:Array (Option Value)}
  {f19:Addr} {oc19 kV19 dc19 pm19 cd19 ct19:Value} {od19 an19:Option Addr} {sl19:Array (Option Value)}
  {f20:Addr} {oc20 kV20 dc20 pm20 cd20 ct20:Value} {od20 an20:Option Addr} {sl20:Array (Option Value)}
  {f21:Addr} {oc21 kV21 dc21 pm21 cd21 ct21:Value} {od21 an21:Option Addr} {sl21:Array (Option Value)}
  {f22:Addr} {oc22 kV22 dc22 pm22 cd22 ct22:Value} {od22 an22:Option Addr} {sl22:Array (Option Value)}
  {f23:Addr} {oc23 kV23 dc23 pm23 cd23 ct23:Value} {od23 an23:Option Addr} {sl23:Array (Option Value)}
  {f24:Addr} {oc24 kV24 dc24 pm24 cd24 ct24:Value} {od24 an24:Option Addr} {sl24:Array (Option Value)}
  {f25:Addr} {oc25 kV25 dc25 pm25 cd25 ct25:Value} {od25 an25:Option Addr} {sl25:Array (Option Value)}
  {f26:Addr} {oc26 kV26 dc26 pm26 cd26 ct26:Value} {od26 an26:Option Addr} {sl26:Array (Option Value)}
  {f27:Addr} {oc27 kV27 dc27 pm27 cd27 ct27:Value} {od27 an27:Option Addr} {sl27:Array (Option Value)}
  (a0:PySem.W.nsIn K mainGlobals "common_divisor"=some (some (.ref f0)))
  (l0:K.lookup f0=some ⟨oc0,od0,.func (PySem.W.fnOf "common_divisor" "common_divisor" (aj ax) (ac ax) (aa ax) .none kV0 dc0 pm0 an0 cd0 ct0),sl0⟩)
  (c0:PySem.W.codeIn K cd0 "common_divisor"=true) (k0:PySem.W.keepIn K (.ref f0)=true)
  (a1:PySem.W.nsIn K mainGlobals "fraction"=some (some (.ref f1)))
  (l1:K.lookup f1=some ⟨oc1,od1,.func (PySem.W.fnOf "fraction" "fraction" (aj bL) (ac bL) (aa bL) .none kV1 dc1 pm1 an1 cd1 ct1),sl1⟩)
  (c1:PySem.W.codeIn K cd1 "fraction"=true) (k1:PySem.W.keepIn K (.ref f1)=true)
  (a2:PySem.W.nsIn K mainGlobals "is_below"=some (some (.ref f2)))
  (l2:K.lookup f2=some ⟨oc2,od2,.func (PySem.W.fnOf "is_below" "is_below" (aj bP) (ac bP) (aa bP) .none kV2 dc2 pm2 an2 cd2 ct2),sl2⟩)
  (c2:PySem.W.codeIn K cd2 "is_below"=true) (k2:PySem.W.keepIn K (.ref f2)=true)
  (a3:PySem.W.nsIn K mainGlobals "crosswise"=some (some (.ref f3)))
  (l3:K.lookup f3=some ⟨oc3,od3,.func (PySem.W.fnOf "crosswise" "crosswise" (aj bx) (ac bx) (aa bx) .none kV3 dc3 pm3 an3 cd3 ct3),sl3⟩)
  (c3:PySem.W.codeIn K cd3 "crosswise"=true) (k3:PySem.W.keepIn K (.ref f3)=true)
  (a4:PySem.W.nsIn K mainGlobals "on_straight"=some (some (.ref f4)))
  (l4:K.lookup f4=some ⟨oc4,od4,.func (PySem.W.fnOf "on_straight" "on_straight" (aj aL) (ac aL) (aa aL) .none kV4 dc4 pm4 an4 cd4 ct4),sl4⟩)
  (c4:PySem.W.codeIn K cd4 "on_straight"=true) (k4:PySem.W.keepIn K (.ref f4)=true)
  (a5:PySem.W.nsIn K mainGlobals "has_moment"=some (some (.ref f5)))
  (l5:K.lookup f5=some ⟨oc5,od5,.func (PySem.W.fnOf "has_moment" "has_moment" (aj aW) (ac aW) (aa aW) .none kV5 dc5 pm5 an5 cd5 ct5),sl5⟩)
  (c5:PySem.W.codeIn K cd5 "has_moment"=true) (k5:PySem.W.keepIn K (.ref f5)=true)
  (a6:PySem.W.nsIn K mainGlobals "come_by"=some (some (.ref f6)))
  (l6:K.lookup f6=some ⟨oc6,od6,.func (PySem.W.fnOf "come_by" "come_by" (aj cG) (ac cG) (aa cG) .none kV6 dc6 pm6 an6 cd6 ct6),sl6⟩)
  (c6:PySem.W.codeIn K cd6 "come_by"=true) (k6:PySem.W.keepIn K (.ref f6)=true)
  (a7:PySem.W.nsIn K mainGlobals "offer"=some (some (.ref f7)))
  (l7:K.lookup f7=some ⟨oc7,od7,.func (PySem.W.fnOf "offer" "offer" (aj eZ) (ac eZ) (aa eZ) .none kV7 dc7 pm7 an7 cd7 ct7),sl7⟩)
  (c7:PySem.W.codeIn K cd7 "offer"=true) (k7:PySem.W.keepIn K (.ref f7)=true)
  (a8:PySem.W.nsIn K mainGlobals "falls"=some (some (.ref f8)))
  (l8:K.lookup f8=some ⟨oc8,od8,.func (PySem.W.fnOf "falls" "falls" (aj eX) (ac eX) (aa eX) .none kV8 dc8 pm8 an8 cd8 ct8),sl8⟩)
  (c8:PySem.W.codeIn K cd8 "falls"=true) (k8:PySem.W.keepIn K (.ref f8)=true)
  (a9:PySem.W.nsIn K mainGlobals "best_from"=some (some (.ref f9)))
  (l9:K.lookup f9=some ⟨oc9,od9,.func (PySem.W.fnOf "best_from" "best_from" (aj br) (ac br) (aa br) .none kV9 dc9 pm9 an9 cd9 ct9),sl9⟩)
  (c9:PySem.W.codeIn K cd9 "best_from"=true) (k9:PySem.W.keepIn K (.ref f9)=true)
  (a10:PySem.W.nsIn K mainGlobals "is_better"=some (some (.ref f10)))
  (l10:K.lookup f10=some ⟨oc10,od10,.func (PySem.W.fnOf "is_better" "is_better" (aj bv) (ac bv) (aa bv) .none kV10 dc10 pm10 an10 cd10 ct10),sl10⟩)
  (c10:PySem.W.codeIn K cd10 "is_better"=true) (k10:PySem.W.keepIn K (.ref f10)=true)
  (a11:PySem.W.nsIn K mainGlobals "set_out"=some (some (.ref f11)))
  (l11:K.lookup f11=some ⟨oc11,od11,.func (PySem.W.fnOf "set_out" "set_out" (aj cH) (ac cH) (aa cH) .none kV11 dc11 pm11 an11 cd11 ct11),sl11⟩)
  (c11:PySem.W.codeIn K cd11 "set_out"=true) (k11:PySem.W.keepIn K (.ref f11)=true)
  (a12:PySem.W.nsIn K mainGlobals "_law_pot"=some (some (.ref f12)))
  (l12:K.lookup f12=some ⟨oc12,od12,.func (PySem.W.fnOf "_law_pot" "_law_pot" (aj bR) (ac bR) (aa bR) .none kV12 dc12 pm12 an12 cd12 ct12),sl12⟩)
  (c12:PySem.W.codeIn K cd12 "_law_pot"=true) (k12:PySem.W.keepIn K (.ref f12)=true)
  (a13:PySem.W.nsIn K mainGlobals "_law_take"=some (some (.ref f13)))
  (l13:K.lookup f13=some ⟨oc13,od13,.func (PySem.W.fnOf "_law_take" "_law_take" (aj bp) (ac bp) (aa bp) .none kV13 dc13 pm13 an13 cd13 ct13),sl13⟩)
  (c13:PySem.W.codeIn K cd13 "_law_take"=true) (k13:PySem.W.keepIn K (.ref f13)=true)
  (a14:PySem.W.nsIn K mainGlobals "_law_moment"=some (some (.ref f14)))
  (l14:K.lookup f14=some ⟨oc14,od14,.func (PySem.W.fnOf "_law_moment" "_law_moment" (aj aO) (ac aO) (aa aO) .none kV14 dc14 pm14 an14 cd14 ct14),sl14⟩)
  (c14:PySem.W.codeIn K cd14 "_law_moment"=true) (k14:PySem.W.keepIn K (.ref f14)=true)
  (a15:PySem.W.nsIn K mainGlobals "_law_points"=some (some (.ref f15)))
  (l15:K.lookup f15=some ⟨oc15,od15,.func (PySem.W.fnOf "_law_points" "_law_points" (aj aM) (ac aM) (aa aM) .none kV15 dc15 pm15 an15 cd15 ct15),sl15⟩)
  (c15:PySem.W.codeIn K cd15 "_law_points"=true) (k15:PySem.W.keepIn K (.ref f15)=true)
  (a16:PySem.W.nsIn K mainGlobals "_law_late"=some (some (.ref f16)))
  (l16:K.lookup f16=some ⟨oc16,od16,.func (PySem.W.fnOf "_law_late" "_law_late" (aj bn) (ac bn) (aa bn) .none kV16 dc16 pm16 an16 cd16 ct16),sl16⟩)
  (c16:PySem.W.codeIn K cd16 "_law_late"=true) (k16:PySem.W.keepIn K (.ref f16)=true)
  (a17:PySem.W.nsIn K mainGlobals "_law_ride"=some (some (.ref f17)))
  (l17:K.lookup f17=some ⟨oc17,od17,.func (PySem.W.fnOf "_law_ride" "_law_ride" (aj bo) (ac bo) (aa bo) .none kV17 dc17 pm17 an17 cd17 ct17),sl17⟩)
  (c17:PySem.W.codeIn K cd17 "_law_ride"=true) (k17:PySem.W.keepIn K (.ref f17)=true)
  (a18:PySem.W.nsIn K mainGlobals "_law_chain"=some (some (.ref f18)))
  (l18:K.lookup f18=some ⟨oc18,od18,.func (PySem.W.fnOf "_law_chain" "_law_chain" (aj aY) (ac aY) (aa aY) .none kV18 dc18 pm18 an18 cd18 ct18),sl18⟩)
  (c18:PySem.W.codeIn K cd18 "_law_chain"=true) (k18:PySem.W.keepIn K (.ref f18)=true)
  (a19:PySem.W.nsIn K mainGlobals "_law_rides"=some (some (.ref f19)))
  (l19:K.lookup f19=some ⟨oc19,od19,.func (PySem.W.fnOf "_law_rides" "_law_rides" (aj a_) (ac a_) (aa a_) .none kV19 dc19 pm19 an19 cd19 ct19),sl19⟩)
  (c19:PySem.W.codeIn K cd19 "_law_rides"=true) (k19:PySem.W.keepIn K (.ref f19)=true)
  (a20:PySem.W.nsIn K mainGlobals "_law_part"=some (some (.ref f20)))
  (l20:K.lookup f20=some ⟨oc20,od20,.func (PySem.W.fnOf "_law_part" "_law_part" (aj bz) (ac bz) (aa bz) .none kV20 dc20 pm20 an20 cd20 ct20),sl20⟩)
  (c20:PySem.W.codeIn K cd20 "_law_part"=true) (k20:PySem.W.keepIn K (.ref f20)=true)
  (a21:PySem.W.nsIn K mainGlobals "_law_handed"=some (some (.ref f21)))
  (l21:K.lookup f21=some ⟨oc21,od21,.func (PySem.W.fnOf "_law_handed" "_law_handed" (aj aN) (ac aN) (aa aN) .none kV21 dc21 pm21 an21 cd21 ct21),sl21⟩)
  (c21:PySem.W.codeIn K cd21 "_law_handed"=true) (k21:PySem.W.keepIn K (.ref f21)=true)
  (a22:PySem.W.nsIn K mainGlobals "_law_comes"=some (some (.ref f22)))
  (l22:K.lookup f22=some ⟨oc22,od22,.func (PySem.W.fnOf "_law_comes" "_law_comes" (aj ba) (ac ba) (aa ba) .none kV22 dc22 pm22 an22 cd22 ct22),sl22⟩)
  (c22:PySem.W.codeIn K cd22 "_law_comes"=true) (k22:PySem.W.keepIn K (.ref f22)=true)
  (a23:PySem.W.nsIn K mainGlobals "_law_raw"=some (some (.ref f23)))
  (l23:K.lookup f23=some ⟨oc23,od23,.func (PySem.W.fnOf "_law_raw" "_law_raw" (aj bS) (ac bS) (aa bS) .none kV23 dc23 pm23 an23 cd23 ct23),sl23⟩)
  (c23:PySem.W.codeIn K cd23 "_law_raw"=true) (k23:PySem.W.keepIn K (.ref f23)=true)
  (a24:PySem.W.nsIn K mainGlobals "_law_due"=some (some (.ref f24)))
  (l24:K.lookup f24=some ⟨oc24,od24,.func (PySem.W.fnOf "_law_due" "_law_due" (aj bQ) (ac bQ) (aa bQ) .none kV24 dc24 pm24 an24 cd24 ct24),sl24⟩)
  (c24:PySem.W.codeIn K cd24 "_law_due"=true) (k24:PySem.W.keepIn K (.ref f24)=true)
  (a25:PySem.W.nsIn K mainGlobals "_law_as_told"=some (some (.ref f25)))
  (l25:K.lookup f25=some ⟨oc25,od25,.func (PySem.W.fnOf "_law_as_told" "_law_as_told" (aj aG) (ac aG) (aa aG) .none kV25 dc25 pm25 an25 cd25 ct25),sl25⟩)
  (c25:PySem.W.codeIn K cd25 "_law_as_told"=true) (k25:PySem.W.keepIn K (.ref f25)=true)
  (a26:PySem.W.nsIn K mainGlobals "_law_right"=some (some (.ref f26)))
  (l26:K.lookup f26=some ⟨oc26,od26,.func (PySem.W.fnOf "_law_right" "_law_right" (aj aX) (ac aX) (aa aX) .none kV26 dc26 pm26 an26 cd26 ct26),sl26⟩)
  (c26:PySem.W.codeIn K cd26 "_law_right"=true) (k26:PySem.W.keepIn K (.ref f26)=true)
  (a27:PySem.W.nsIn K mainGlobals "law"=some (some (.ref f27)))
  (l27:K.lookup f27=some ⟨oc27,od27,.func (PySem.W.fnOf "law" "law" (aj jd) (ac jd) (aa jd) .none kV27 dc27 pm27 an27 cd27 ct27),sl27⟩)
  (c27:PySem.W.codeIn K cd27 "law"=true) (k27:PySem.W.keepIn K (.ref f27)=true)
  (z0:PySem.W.nsIn K mainGlobals "abs"=some none)
  (z1:PySem.W.nsIn K mainGlobals "max"=some none)
  (z2:PySem.W.nsIn K mainGlobals "len"=some none)
  (z3:PySem.W.nsIn K mainGlobals "divmod"=some none)
  (z4:PySem.W.nsIn K mainGlobals "range"=some none)
  (z5:PySem.W.nsIn K mainGlobals "zip"=some none)
  (z6:PySem.W.nsIn K mainGlobals "tuple"=some none)
  (z7:PySem.W.nsIn K mainGlobals "sorted"=some none)
  (z8:PySem.W.nsIn K mainGlobals "set"=some none)
  (z9:PySem.W.nsIn K mainGlobals "min"=some none)
  (tz0:PySem.W.nsIn K mainGlobals "coming"=some none)
  (tz1:PySem.W.nsIn K mainGlobals "latest"=some none)
  (tz2:PySem.W.nsIn K mainGlobals "through"=some none)
  : ∃fd:FuncData,(∀(s:Shared) (v:Value),BindsTo s fd ⟨[v],[]⟩ [("_law_script",v)])∧Ar K∧(∀x∈aT,PySem.W.tabIn K x=none∨∃d,(PyProof.Rows.recsOf q).find? (fun e=>e.name == x)=some d)∧∀base:Heap,K.In base→base.Ns mainGlobals mg→m_ K mg base→oX l.prog w K mg base CX0 28 fa fd ["_law_script"] (au K je):=by
 have e:=hfa.symm.trans (PySem.W.mg_of X G a27)
 cases e
 have hb:∀x∈cK,mg x=none:=by
  intro x hx
  simp only [cK,List.mem_cons,List.not_mem_nil,or_false] at hx
  rcases hx with rfl|rfl|rfl|rfl|rfl|rfl|rfl|rfl|rfl|rfl
  ·exact PySem.W.mg_none_of X G z0
  ·exact PySem.W.mg_none_of X G z1
  ·exact PySem.W.mg_none_of X G z2
  ·exact PySem.W.mg_none_of X G z3
  ·exact PySem.W.mg_none_of X G z4
  ·exact PySem.W.mg_none_of X G z5
  ·exact PySem.W.mg_none_of X G z6
  ·exact PySem.W.mg_none_of X G z7
  ·exact PySem.W.mg_none_of X G z8
  ·exact PySem.W.mg_none_of X G z9
 have hgl:∀x v,glL.lookup x=some v→∃u y,mg x=some u∧RelV y u∧∀m H,R K m H v y:=by
  intro x v hx
  cases hx
 have F_common_divisor:At K mg "common_divisor" ax ["n","d"]:=At.mk' X G (fun _ _ _ _ _ _ us hl=>ar2 (P:=fun us=>bindArgs _ { pos:=us }=pure (List.zip _ us)) (fun _ _=>rfl) us hl) a0 l0 c0 k0
 have F_fraction:At K mg "fraction" bL ["n","d"]:=At.mk' X G (fun _ _ _ _ _ _ us hl=>ar2 (P:=fun us=>bindArgs _ { pos:=us }=pure (List.zip _ us)) (fun _ _=>rfl) us hl) a1 l1 c1 k1
 have F_is_below:At K mg "is_below" bP ["one","other"]:=At.mk' X G (fun _ _ _ _ _ _ us hl=>ar2 (P:=fun us=>bindArgs _ { pos:=us }=pure (List.zip _ us)) (fun _ _=>rfl) us hl) a2 l2 c2 k2
 have F_crosswise:At K mg "crosswise" bx ["one","other"]:=At.mk' X G (fun _ _ _ _ _ _ us hl=>ar2 (P:=fun us=>bindArgs _ { pos:=us }=pure (List.zip _ us)) (fun _ _=>rfl) us hl) a3 l3 c3 k3
 have F_on_straight:At K mg "on_straight" aL ["near","far","x"]:=At.mk' X G (fun _ _ _ _ _ _ us hl=>ar3 (P:=fun us=>bindArgs _ { pos:=us }=pure (List.zip _ us)) (fun _ _ _=>rfl) us hl) a4 l4 c4 k4
 have F_has_moment:At K mg "has_moment" aW ["ride","t"]:=At.mk' X G (fun _ _ _ _ _ _ us hl=>ar2 (P:=fun us=>bindArgs _ { pos:=us }=pure (List.zip _ us)) (fun _ _=>rfl) us hl) a5 l5 c5 k5
 have F_come_by:At K mg "come_by" cG ["ride","t"]:=At.mk' X G (fun _ _ _ _ _ _ us hl=>ar2 (P:=fun us=>bindArgs _ { pos:=us }=pure (List.zip _ us)) (fun _ _=>rfl) us hl) a6 l6 c6 k6
 have F_offer:At K mg "offer" eZ ["rides","t"]:=At.mk' X G (fun _ _ _ _ _ _ us hl=>ar2 (P:=fun us=>bindArgs _ { pos:=us }=pure (List.zip _ us)) (fun _ _=>rfl) us hl) a7 l7 c7 k7
 have F_falls:At K mg "falls" eX ["ride"]:=At.mk' X G (fun _ _ _ _ _ _ us hl=>ar1 (P:=fun us=>bindArgs _ { pos:=us }=pure (List.zip _ us)) (fun _=>rfl) us hl) a8 l8 c8 k8
 have F_best_from:At K mg "best_from" br ["ride","t"]:=At.mk' X G (fun _ _ _ _ _ _ us hl=>ar2 (P:=fun us=>bindArgs _ { pos:=us }=pure (List.zip _ us)) (fun _ _=>rfl) us hl) a9 l9 c9 k9
 have F_is_better:At K mg "is_better" bv ["pair","best"]:=At.mk' X G (fun _ _ _ _ _ _ us hl=>ar2 (P:=fun us=>bindArgs _ { pos:=us }=pure (List.zip _ us)) (fun _ _=>rfl) us hl) a10 l10 c10 k10
 have F_set_out:At K mg "set_out" cH ["rides","wait","t"]:=At.mk' X G (fun _ _ _ _ _ _ us hl=>ar3 (P:=fun us=>bindArgs _ { pos:=us }=pure (List.zip _ us)) (fun _ _ _=>rfl) us hl) a11 l11 c11 k11
 have F__law_pot:At K mg "_law_pot" bR ["_law_script","_law_k"]:=At.mk' X G (fun _ _ _ _ _ _ us hl=>ar2 (P:=fun us=>bindArgs _ { pos:=us }=pure (List.zip _ us)) (fun _ _=>rfl) us hl) a12 l12 c12 k12
 have F__law_take:At K mg "_law_take" bp ["_law_pot_here","_law_many"]:=At.mk' X G (fun _ _ _ _ _ _ us hl=>ar2 (P:=fun us=>bindArgs _ { pos:=us }=pure (List.zip _ us)) (fun _ _=>rfl) us hl) a13 l13 c13 k13
 have F__law_moment:At K mg "_law_moment" aO ["_law_n","_law_d"]:=At.mk' X G (fun _ _ _ _ _ _ us hl=>ar2 (P:=fun us=>bindArgs _ { pos:=us }=pure (List.zip _ us)) (fun _ _=>rfl) us hl) a14 l14 c14 k14
 have F__law_points:At K mg "_law_points" aM ["_law_pot_here"]:=At.mk' X G (fun _ _ _ _ _ _ us hl=>ar1 (P:=fun us=>bindArgs _ { pos:=us }=pure (List.zip _ us)) (fun _=>rfl) us hl) a15 l15 c15 k15
 have F__law_late:At K mg "_law_late" bn ["_law_pot_here"]:=At.mk' X G (fun _ _ _ _ _ _ us hl=>ar1 (P:=fun us=>bindArgs _ { pos:=us }=pure (List.zip _ us)) (fun _=>rfl) us hl) a16 l16 c16 k16
 have F__law_ride:At K mg "_law_ride" bo ["_law_pot_here","_law_points_here"]:=At.mk' X G (fun _ _ _ _ _ _ us hl=>ar2 (P:=fun us=>bindArgs _ { pos:=us }=pure (List.zip _ us)) (fun _ _=>rfl) us hl) a17 l17 c17 k17
 have F__law_chain:At K mg "_law_chain" aY ["_law_pot_here","_law_points_here"]:=At.mk' X G (fun _ _ _ _ _ _ us hl=>ar2 (P:=fun us=>bindArgs _ { pos:=us }=pure (List.zip _ us)) (fun _ _=>rfl) us hl) a18 l18 c18 k18
 have F__law_rides:At K mg "_law_rides" a_ ["_law_pot_here"]:=At.mk' X G (fun _ _ _ _ _ _ us hl=>ar1 (P:=fun us=>bindArgs _ { pos:=us }=pure (List.zip _ us)) (fun _=>rfl) us hl) a19 l19 c19 k19
 have F__law_part:At K mg "_law_part" bz ["_law_pot_here"]:=At.mk' X G (fun _ _ _ _ _ _ us hl=>ar1 (P:=fun us=>bindArgs _ { pos:=us }=pure (List.zip _ us)) (fun _=>rfl) us hl) a20 l20 c20 k20
 have F__law_handed:At K mg "_law_handed" aN ["_law_pot_here","_law_rides_here","_law_part_here"]:=At.mk' X G (fun _ _ _ _ _ _ us hl=>ar3 (P:=fun us=>bindArgs _ { pos:=us }=pure (List.zip _ us)) (fun _ _ _=>rfl) us hl) a21 l21 c21 k21
 have F__law_comes:At K mg "_law_comes" ba ["_law_ride_here","_law_t"]:=At.mk' X G (fun _ _ _ _ _ _ us hl=>ar2 (P:=fun us=>bindArgs _ { pos:=us }=pure (List.zip _ us)) (fun _ _=>rfl) us hl) a22 l22 c22 k22
 have F__law_raw:At K mg "_law_raw" bS ["_law_rides_here","_law_t"]:=At.mk' X G (fun _ _ _ _ _ _ us hl=>ar2 (P:=fun us=>bindArgs _ { pos:=us }=pure (List.zip _ us)) (fun _ _=>rfl) us hl) a23 l23 c23 k23
 have F__law_due:At K mg "_law_due" bQ ["_law_rides_here","_law_wait","_law_t"]:=At.mk' X G (fun _ _ _ _ _ _ us hl=>ar3 (P:=fun us=>bindArgs _ { pos:=us }=pure (List.zip _ us)) (fun _ _ _=>rfl) us hl) a24 l24 c24 k24
 have F__law_as_told:At K mg "_law_as_told" aG ["_law_value","_law_part_here"]:=At.mk' X G (fun _ _ _ _ _ _ us hl=>ar2 (P:=fun us=>bindArgs _ { pos:=us }=pure (List.zip _ us)) (fun _ _=>rfl) us hl) a25 l25 c25 k25
 have F__law_right:At K mg "_law_right" aX ["_law_handed_here","_law_rides_here","_law_part_here","_law_t"]:=At.mk' X G (fun _ _ _ _ _ _ us hl=>ar4 (P:=fun us=>bindArgs _ { pos:=us }=pure (List.zip _ us)) (fun _ _ _ _=>rfl) us hl) a26 l26 c26 k26
 have t_coming:=vb tz0
 have t_latest:=vb tz1
 have t_through:=vb tz2
 refine ⟨PySem.W.fnOf "law" "law" (aj jd) (ac jd) (aa jd) .none kV27 dc27 pm27 an27 cd27 ct27,fun s v=>.of_eq rfl,?lk,?lq,fun base _ _ B=>?_⟩
 case lk =>
  refine zJ fun x hx=>?_
  simp only [aT,List.mem_cons,List.not_mem_nil,or_false] at hx
  rcases hx with rfl|rfl|rfl
  ·exact .inl t_coming
  ·exact .inl t_latest
  ·exact .inl t_through
 case lq =>
  intro x hx
  simp only [aT,List.mem_cons,List.not_mem_nil,or_false] at hx
  rcases hx with rfl|rfl|rfl
  ·exact .inl t_coming
  ·exact .inl t_latest
  ·exact .inl t_through
 have G0:GOk l.prog w K mg base dv Γ:=⟨fun f x hf=>absurd hf (Nat.not_lt_zero _),hb,hgl,Γm⟩
 have G1:GOk l.prog w K mg base jA Γ:=G0.next rfl rfl rfl rfl rfl (kE F_common_divisor G0)
 have G2:GOk l.prog w K mg base ji Γ:=G1.next rfl rfl rfl rfl rfl (tI F_fraction G1)
 have G3:GOk l.prog w K mg base iE Γ:=G2.next rfl rfl rfl rfl rfl (tF F_is_below G2)
 have G4:GOk l.prog w K mg base fk Γ:=G3.next rfl rfl rfl rfl rfl (sB F_crosswise G3)
 have G5:GOk l.prog w K mg base fH Γ:=G4.next rfl rfl rfl rfl rfl (nR F_on_straight G4)
 have G6:GOk l.prog w K mg base mt Γ:=G5.next rfl rfl rfl rfl rfl (o7 F_has_moment G5)
 have G7:GOk l.prog w K mg base qG Γ:=G6.next rfl rfl rfl rfl rfl (vo F_come_by G6)
 have G8:GOk l.prog w K mg base rg Γ:=G7.next rfl rfl rfl rfl rfl (zk F_offer G7)
 have G9:GOk l.prog w K mg base iF Γ:=G8.next rfl rfl rfl rfl rfl (zn F_falls G8)
 have G10:GOk l.prog w K mg base iL Γ:=G9.next rfl rfl rfl rfl rfl (qU F_best_from G9)
 have G11:GOk l.prog w K mg base lV Γ:=G10.next rfl rfl rfl rfl rfl (rF F_is_better G10)
 have G12:GOk l.prog w K mg base jw Γ:=G11.next rfl rfl rfl rfl rfl (uN F_set_out G11)
 have G13:GOk l.prog w K mg base iP Γ:=G12.next rfl rfl rfl rfl rfl (t_ F__law_pot G12)
 have G14:GOk l.prog w K mg base fb Γ:=G13.next rfl rfl rfl rfl rfl (re F__law_take G13)
 have G15:GOk l.prog w K mg base ft Γ:=G14.next rfl rfl rfl rfl rfl (nv F__law_moment G14)
 have G16:GOk l.prog w K mg base iM Γ:=G15.next rfl rfl rfl rfl rfl (nY F__law_points G15)
 have G17:GOk l.prog w K mg base ip Γ:=G16.next rfl rfl rfl rfl rfl (rn F__law_late G16)
 have G18:GOk l.prog w K mg base fY Γ:=G17.next rfl rfl rfl rfl rfl (qw F__law_ride G17)
 have G19:GOk l.prog w K mg base fL Γ:=G18.next rfl rfl rfl rfl rfl (oE F__law_chain G18)
 have G20:GOk l.prog w K mg base iI Γ:=G19.next rfl rfl rfl rfl rfl (ph F__law_rides G19)
 have G21:GOk l.prog w K mg base ff Γ:=G20.next rfl rfl rfl rfl rfl (q8 F__law_part G20)
 have G22:GOk l.prog w K mg base gX Γ:=G21.next rfl rfl rfl rfl rfl (nO F__law_handed G21)
 have G23:GOk l.prog w K mg base jm Γ:=G22.next rfl rfl rfl rfl rfl (pd F__law_comes G22)
 have G24:GOk l.prog w K mg base jy Γ:=G23.next rfl rfl rfl rfl rfl (t7 F__law_raw G23)
 have G25:GOk l.prog w K mg base eN Γ:=G24.next rfl rfl rfl rfl rfl (ue F__law_due G24)
 have G26:GOk l.prog w K mg base fM Γ:=G25.next rfl rfl rfl rfl rfl (mR F__law_as_told G25)
 have G27:GOk l.prog w K mg base Bm Γ:=G26.next rfl rfl rfl rfl rfl (pv F__law_right G26)
 exact zQ (qual:="law") (xX (st:=jd) l27 c27 k27) Ci rfl rfl DW G27 (fun as st Q=>Ak) (fun as st Q=>DN)
end My
namespace PySem.W.Fast
def tw1020524077286108291:=()
def tw1028780522063512119:=()
def tw10479819578333595592:=()
def tw10504791981958439698:=()
def tw10506993092468616516:=()
def tw10519953246391476691:=()
def tw10621778919856056479:=()
def tw10695600942553457712:=()
def tw10742325560610942451:=()
def tw10847477981871150453:=()
def tw11176967403349036481:=()
def tw11257898381974075341:=()
def tw11387077117782551662:=()
def tw11428086893454897869:=()
def tw11430017180963607274:=()
def tw11493621705472399268:=()
def tw11529961267500677950:=()
def tw11566979887889712346:=()
def tw11583615682855754863:=()
def tw11847866191813398427:=()
def tw12033431633274058676:=()
def tw1204825049316652442:=()
def tw12102971085428785885:=()
def tw12142891225130794721:=()
def tw12193067537429645367:=()
def tw12245778609527351369:=()
def tw12303659212933127651:=()
def tw12319478847360759270:=()
def tw12363460546992773835:=()
def tw12463934704784548506:=()
def tw12472369205250765513:=()
def tw12493523645110169218:=()
def tw12585664422542525069:=()
def tw12648078966724092207:=()
def tw12678266051346504835:=()
def tw12704671486831208505:=()
def tw12706450718598152204:=()
def tw12752572463091807190:=()
def tw12857882510823850776:=()
def tw12947584032062832568:=()
def tw13057768239703229960:=()
def tw13095710722166867158:=()
def tw13160275442722747128:=()
def tw13304567719074255154:=()
def tw13323218021407107878:=()
def tw13443727700396929510:=()
def tw13458535407567754842:=()
def tw13475883623677380904:=()
def tw13680720303926364550:=()
def tw1369406766271425134:=()
def tw13960978984588318237:=()
def tw14020761601964515777:=()
def tw14022047607717499785:=()
def tw14155358510671627351:=()
def tw14219000030831649858:=()
def tw14235914327176708473:=()
def tw14459481332222572427:=()
def tw1455912135434850278:=()
def tw14561227184805426716:=()
def tw14599356736197210032:=()
def tw14625361976982705726:=()
def tw15067713474987968095:=()
def tw15222093695991496906:=()
def tw15369571827934023447:=()
def tw15543169646387571214:=()
def tw15632851878189018891:=()
def tw15662802537025713812:=()
def tw1570312235140399800:=()
def tw15786263322671817118:=()
def tw15985711345428202838:=()
def tw16008081516773630200:=()
def tw16031747868611406384:=()
def tw16151814935669637268:=()
def tw16332676325139782174:=()
def tw16351549243216737732:=()
def tw16506384111774790321:=()
def tw16614961659132869894:=()
def tw16820702554011678481:=()
def tw1703825350833589666:=()
def tw17169426144787657589:=()
def tw17179513269817960541:=()
def tw1721946080568511754:=()
def tw17221392995476004859:=()
def tw17233045595744451131:=()
def tw17323665569272110685:=()
def tw17343191827014177613:=()
def tw17432950413763075601:=()
def tw17493463501917320430:=()
def tw17591141717799202271:=()
def tw17616443763418489200:=()
def tw17746188016875336653:=()
def tw17935132590752183090:=()
def tw18154200899966356231:=()
def tw18249566672938046359:=()
def tw18417673016171610266:=()
def tw1875164457035990213:=()
def tw1886265848623636410:=()
def tw1898275073773262660:=()
def tw2199450689748890858:=()
def tw2344121322478079420:=()
def tw2388574529719105475:=()
def tw2692592207485075736:=()
def tw271145012616700655:=()
def tw2741913918279746464:=()
def tw2783011402802927251:=()
def tw2976047021474003907:=()
def tw2977608620765402388:=()
def tw3012317350508851275:=()
def tw30420655090749255:=()
def tw3130390706148935822:=()
def tw3162152067495383863:=()
def tw3177717572440091949:=()
def tw3191588241256660135:=()
def tw3203760411296008007:=()
def tw3268625016923141046:=()
def tw3291455195609651677:=()
def tw3548696118561981338:=()
def tw3630608380007913649:=()
def tw3714728821633251288:=()
def tw3749674067823860807:=()
def tw3877577826364236901:=()
def tw4039587058458014778:=()
def tw4062294822855911526:=()
def tw411005607159008980:=()
def tw4151390526553109554:=()
def tw4184222141343854324:=()
def tw4392310424706243235:=()
def tw4402630922592629354:=()
def tw4531796681777309707:=()
def tw4699905060932720723:=()
def tw4716330137142416162:=()
def tw4794803960941414939:=()
def tw4797540405467948849:=()
def tw4828353849670426806:=()
def tw4873623874060379216:=()
def tw4938479694514280044:=()
def tw4954910845177168280:=()
def tw4998330041389731589:=()
def tw5028119739168575345:=()
def tw5065743216608052105:=()
def tw5196800973423203987:=()
def tw5243842432079696930:=()
def tw526158837347014659:=()
def tw5279980020582596080:=()
def tw5340492815109849771:=()
def tw5389932164838424322:=()
def tw539107678601421627:=()
def tw5505625117667082477:=()
def tw5634147829954154429:=()
def tw5806016438072022948:=()
def tw5923114077570057926:=()
def tw6132411102379173717:=()
def tw6143158343745657054:=()
def tw6168802781797947796:=()
def tw6176349495512238099:=()
def tw6183478100594027672:=()
def tw6665653267967502259:=()
def tw6678515597437449616:=()
def tw6725697058269822313:=()
def tw6820802779963146726:=()
def tw6910180121253294300:=()
def tw6925289862148894650:=()
def tw6925319433435662603:=()
def tw6948458522686607190:=()
def tw6970962542253527766:=()
def tw7138684309993706398:=()
def tw7221934805758341367:=()
def tw7540560615122419952:=()
def tw7563866921017712867:=()
def tw7694656975274847987:=()
def tw7703174905565901981:=()
def tw7740005076642766947:=()
def tw7808998916779163929:=()
def tw7810138268087831453:=()
def tw7826775756827607202:=()
def tw7844933364907865964:=()
def tw7867176178168761477:=()
def tw8001855452883147997:=()
def tw8096565366433156502:=()
def tw8105318821886441672:=()
def tw8215834815047932609:=()
def tw8283618535576823672:=()
def tw8362397214291696984:=()
def tw8390373427344988601:=()
def tw846896021630547516:=()
def tw8570367144086715387:=()
def tw8649791089246766453:=()
def tw8662596929322505605:=()
def tw8668647888959176755:=()
def tw8704629755924505067:=()
def tw8754589832760394665:=()
def tw8756947843534437333:=()
def tw8770070325663067013:=()
def tw8786473972190355620:=()
def tw8846647459590793424:=()
def tw8861370403387824465:=()
def tw8879122108460987854:=()
def tw8944420184066881623:=()
def tw8946533745591239086:=()
def tw8964663947154123017:=()
def tw8996068867301134294:=()
def tw9022195634487696936:=()
def tw9033412104431194828:=()
def tw9048390239050703647:=()
def tw9074836765252608689:=()
def tw9215708172607878637:=()
def tw9382124704808162701:=()
def tw9399335045335727979:=()
def tw9416637461975522318:=()
def tw9520470526646557161:=()
def tw9539853327180317322:=()
def tw9570217201310160809:=()
end PySem.W.Fast
open PySem PySem.W PyProof.Rows
set_option maxRecDepth 100000 in
set_option maxHeartbeats 0 in
theorem PySem.Challenge.cw_hourstairs_k31_offered_and_set_out_holds : PySem.Challenge.rw_hourstairs_k31_offered_and_set_out.Holds := by
 w_on;o_law;k_head;(case hw=>w_witness2)
 k_fill
 refine FW.walkF (l:=PySem.Challenge.rw_hourstairs_k31_offered_and_set_out) (k:=28) (x:="_law_script") rfl rfl ⟨rfl,by decide,by decide,rfl⟩ (fun w h Y=>PySem.W.kIn_of Y) ?F
 case F =>
  intro w mg fa h KX G hmg
  refine' My.all_mk KX G hmg ?a0 ?l0 ?c0 ?k0 ?a1 ?l1 ?c1 ?k1 ?a2 ?l2 ?c2 ?k2 ?a3 ?l3 ?c3 ?k3 ?a4 ?l4 ?c4 ?k4 ?a5 ?l5 ?c5 ?k5 ?a6 ?l6 ?c6 ?k6 ?a7 ?l7 ?c7 ?k7 ?a8 ?l8 ?c8 ?k8 ?a9 ?l9 ?c9 ?k9 ?a10 ?l10 ?c10 ?k10 ?a11 ?l11 ?c11 ?k11 ?a12 ?l12 ?c12 ?k12 ?a13 ?l13 ?c13 ?k13 ?a14 ?l14 ?c14 ?k14 ?a15 ?l15 ?c15 ?k15 ?a16 ?l16 ?c16 ?k16 ?a17 ?l17 ?c17 ?k17 ?a18 ?l18 ?c18 ?k18 ?a19 ?l19 ?c19 ?k19 ?a20 ?l20 ?c20 ?k20 ?a21 ?l21 ?c21 ?k21 ?a22 ?l22 ?c22 ?k22 ?a23 ?l23 ?c23 ?k23 ?a24 ?l24 ?c24 ?k24 ?a25 ?l25 ?c25 ?k25 ?a26 ?l26 ?c26 ?k26 ?a27 ?l27 ?c27 ?k27 ?z0 ?z1 ?z2 ?z3 ?z4 ?z5 ?z6 ?z7 ?z8 ?z9 ?tz0 ?tz1 ?tz2
  (case a0=>k_is)
  (case l0=>k_is)
  (case c0=>k_is)
  (case k0=>k_is)
  (case a1=>k_is)
  (case l1=>k_is)
  (case c1=>k_is)
  (case k1=>k_is)
  (case a2=>k_is)
  (case l2=>k_is)
  (case c2=>k_is)
  (case k2=>k_is)
  (case a3=>k_is)
  (case l3=>k_is)
  (case c3=>k_is)
  (case k3=>k_is)
  (case a4=>k_is)
  (case l4=>k_is)
  (case c4=>k_is)
  (case k4=>k_is)
  (case a5=>k_is)
  (case l5=>k_is)
  (case c5=>k_is)
  (case k5=>k_is)
  (case a6=>k_is)
  (case l6=>k_is)
  (case c6=>k_is)
  (case k6=>k_is)
  (case a7=>k_is)
  (case l7=>k_is)
  (case c7=>k_is)
  (case k7=>k_is)
  (case a8=>k_is)
  (case l8=>k_is)
  (case c8=>k_is)
  (case k8=>k_is)
  (case a9=>k_is)
  (case l9=>k_is)
  (case c9=>k_is)
  (case k9=>k_is)
  (case a10=>k_is)
  (case l10=>k_is)
  (case c10=>k_is)
  (case k10=>k_is)
  (case a11=>k_is)
  (case l11=>k_is)
  (case c11=>k_is)
  (case k11=>k_is)
  (case a12=>k_is)
  (case l12=>k_is)
  (case c12=>k_is)
  (case k12=>k_is)
  (case a13=>k_is)
  (case l13=>k_is)
  (case c13=>k_is)
  (case k13=>k_is)
  (case a14=>k_is)
  (case l14=>k_is)
  (case c14=>k_is)
  (case k14=>k_is)
  (case a15=>k_is)
  (case l15=>k_is)
  (case c15=>k_is)
  (case k15=>k_is)
  (case a16=>k_is)
  (case l16=>k_is)
  (case c16=>k_is)
  (case k16=>k_is)
  (case a17=>k_is)
  (case l17=>k_is)
  (case c17=>k_is)
  (case k17=>k_is)
  (case a18=>k_is)
  (case l18=>k_is)
  (case c18=>k_is)
  (case k18=>k_is)
  (case a19=>k_is)
  (case l19=>k_is)
  (case c19=>k_is)
  (case k19=>k_is)
  (case a20=>k_is)
  (case l20=>k_is)
  (case c20=>k_is)
  (case k20=>k_is)
  (case a21=>k_is)
  (case l21=>k_is)
  (case c21=>k_is)
  (case k21=>k_is)
  (case a22=>k_is)
  (case l22=>k_is)
  (case c22=>k_is)
  (case k22=>k_is)
  (case a23=>k_is)
  (case l23=>k_is)
  (case c23=>k_is)
  (case k23=>k_is)
  (case a24=>k_is)
  (case l24=>k_is)
  (case c24=>k_is)
  (case k24=>k_is)
  (case a25=>k_is)
  (case l25=>k_is)
  (case c25=>k_is)
  (case k25=>k_is)
  (case a26=>k_is)
  (case l26=>k_is)
  (case c26=>k_is)
  (case k26=>k_is)
  (case a27=>k_is)
  (case l27=>k_is)
  (case c27=>k_is)
  (case k27=>k_is)
  (case z0=>k_is)
  (case z1=>k_is)
  (case z2=>k_is)
  (case z3=>k_is)
  (case z4=>k_is)
  (case z5=>k_is)
  (case z6=>k_is)
  (case z7=>k_is)
  (case z8=>k_is)
  (case z9=>k_is)
  (case tz0=>k_is)
  (case tz1=>k_is)
  (case tz2=>k_is)
