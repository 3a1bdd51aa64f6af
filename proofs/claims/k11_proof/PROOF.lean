import PyProof.Rows.All
import PyProof.StrLawsIdx
import Wide.All
import OpenK.AllK
import Wide.FinOn
import Lean
import PyProof.EqAt
import PyProof.EqKinds
import PyProof.TupleCall
import PyProof.NeKinds
import PySem.Challenge.RW_homeslopes_k11_the_first_rule
set_option Elab.async false
set_option linter.all false
set_option maxRecDepth 100000
set_option maxHeartbeats 4000000
set_option genSizeOf false
section
open PySem PySem.Spec PyProof.Rows
section
namespace L2
open PySem PySem.Spec PyProof.Rows
noncomputable abbrev Key:=Sum Int Str
noncomputable def gE:Key→Value→Bool
 | .inl k,v=>Value.isInt k v
 | .inr x,v=>Value.isStrOf x v
noncomputable def yG (w:World):Key→Int
 | .inl k=>hashInt k
 | .inr x=>hashStr w x
theorem cj: ∀ {k:Key} {v:Value},gE k v=true→(∃ i t,k=Sum.inl i∧v=Value.int i t)∨(∃ x t,k=Sum.inr x∧v=Value.str x t)
 | .inl i,v,h=>by
  obtain⟨t,e⟩:=Value.isInt_shape (k:=i) (v:=v) h
  exact .inl ⟨i,t,rfl,e⟩
 | .inr x,v,h=>by
  obtain⟨t,e⟩:=Value.isStrOf_shape (x:=x) (v:=v) h
  exact .inr ⟨x,t,rfl,e⟩
theorem rB (i:Int) (t:Tok):gE (.inl i) (.int i t)=true:=by simp[gE,Value.isInt]
theorem rA (x:Str) (t:Tok):gE (.inr x) (.str x t)=true:=by simp[gE,Value.isStrOf]
theorem xt (a b:Int):decide ((Sum.inl a:Key)=Sum.inl b)=(a==b):=by
 by_cases e:a=b
 ·subst e;simp
 ·have h: ¬ (Sum.inl a:Key)=Sum.inl b:=fun q=>e (Sum.inl.inj q)
  rw[decide_eq_false h]
  exact(beq_eq_false_iff_ne.mpr e).symm
theorem rq (a b:Str):decide ((Sum.inr a:Key)=Sum.inr b)=decide (a=b):=by
 by_cases e:a=b
 ·subst e;simp
 ·have h: ¬ (Sum.inr a:Key)=Sum.inr b:=fun q=>e (Sum.inr.inj q)
  rw[decide_eq_false h,decide_eq_false e]
theorem xr (a:Int) (b:Str):decide ((Sum.inl a:Key)=Sum.inr b)=false:=decide_eq_false (fun q=>nomatch q)
theorem xp (a:Str) (b:Int):decide ((Sum.inr a:Key)=Sum.inl b)=false:=decide_eq_false (fun q=>nomatch q)
noncomputable def bE (prog:Program) (w:World):PySem.KeyKind prog w Key where
 is:=gE
 hash:=yG w
 inj:=fun v a b ha hb=>by
  rcases cj ha with⟨i,t,rfl,rfl⟩|⟨x,t,rfl,rfl⟩
  ·rcases cj hb with⟨j,u,rfl,e⟩|⟨y,u,rfl,e⟩
   ·injection e with e1 _;rw[e1]
   ·exact nomatch e
  ·rcases cj hb with⟨j,u,rfl,e⟩|⟨y,u,rfl,e⟩
   ·exact nomatch e
   ·injection e with e1 _;rw[e1]
 byValue:=fun k v h=>by
  rcases cj h with⟨i,t,rfl,rfl⟩|⟨x,t,rfl,rfl⟩<;>rfl
 pyHash:=fun hv h=>by
  rcases cj hv with⟨i,t,rfl,rfl⟩|⟨x,t,rfl,rfl⟩
  ·exact wpAny_pyHash_int h
  ·exact wpAny_pyHash_str h
 eqBool:=fun hu hv h=>by
  rcases cj hu with⟨i,t,rfl,rfl⟩|⟨x,t,rfl,rfl⟩
  ·rcases cj hv with⟨j,u,rfl,rfl⟩|⟨y,u,rfl,rfl⟩
   ·rw[xt] at h;exact wpAny_eqBool_int h
   ·rw[xr] at h;exact SeqAt.EqAt.int_str i t y u _ _ _ _ h
  ·rcases cj hv with⟨j,u,rfl,rfl⟩|⟨y,u,rfl,rfl⟩
   ·rw[xp] at h;exact SeqAt.EqAt.str_int x t j u _ _ _ _ h
   ·rw[rq] at h;exact wpAny_eqBool_str h
 «strs»:=fun k x t v h=>by
  rcases cj h with⟨i,u,rfl,e⟩|⟨y,u,rfl,e⟩
  ·exact nomatch e
  ·injection e with e1 _
   subst e1
   cases v<;>rfl
theorem p4 (prog:Program) (w:World) (k:Key) (v:Value):(bE prog w).is k v=gE k v:=rfl
theorem om (prog:Program) (w:World) (i:Int) (t:Tok):(bE prog w).is (.inl i) (.int i t)=true:=rB i t
theorem oh (prog:Program) (w:World) (x:Str) (t:Tok):(bE prog w).is (.inr x) (.str x t)=true:=rA x t
end L2
namespace L2
open PySem PySem.Spec PyProof.Rows
inductive V where
 |non|bl (b:Bool)|int (i:Int)|str (x:Str)|byt (b:Array UInt8)|flt (b:UInt64)|ref (a:Addr)|ty (n:String)
 deriving DecidableEq
noncomputable def RelV:V→Value→Prop
 | .non,u=>u=Value.none
 | .bl b,u=>u=Value.bool b
 | .int i,u=> ∃ t,u=Value.int i t
 | .str x,u=> ∃ t,u=Value.str x t
 | .byt b,u=> ∃ t,u=Value.bytes b t
 | .flt b,u=> ∃ t,u=Value.float b t
 | .ref a,u=>u=Value.ref a
 | .ty n,u=>u=Value.type n
noncomputable abbrev Vals:List V→List Value→Prop:=Paired RelV
theorem Vals.length {xs:List V} {us:List Value} (r:Vals xs us):xs.length=us.length:=Paired.length r
theorem Vals.get: ∀ {xs:List V} {us:List Value} {i:Nat} {x:V},Vals xs us→xs[i]?=some x→∃ u,us[i]?=some u∧RelV x u
 |_,_,_,_,.nil,e=>by simp at e
 |_,_,0,_,.cons r _,e=>by simp at e;subst e;exact⟨_,rfl,r⟩
 |_,_,i+1,x,.cons _ t,e=>by
  obtain⟨u,h1,h2⟩:=Vals.get (i:=i) (x:=x) t (by simpa using e)
  exact⟨u,by simpa using h1,h2⟩
theorem Vals.set {x:V} {u:Value} (r:RelV x u): ∀ {xs:List V} {us:List Value} (i:Nat),Vals xs us→Vals (xs.set i x) (us.set i u)
 |_,_,_,.nil=>.nil
 |_,_,0,.cons _ t=>.cons r t
 |_,_,i+1,.cons q t=>.cons q (Vals.set r i t)
theorem Vals.append: ∀ {xs ys:List V} {us ws:List Value},Vals xs us→Vals ys ws→Vals (xs++ys) (us++ws)
 |_,_,_,_,.nil,s=>s
 |_,_,_,_,.cons r t,s=>.cons r (Vals.append t s)
theorem Vals.take: ∀ {xs:List V} {us:List Value} (n:Nat),Vals xs us→Vals (xs.take n) (us.take n)
 |_,_,0,_=>.nil
 |_,_,_+1,.nil=>.nil
 |_,_,n+1,.cons r t=>.cons r (Vals.take n t)
theorem Vals.drop: ∀ {xs:List V} {us:List Value} (n:Nat),Vals xs us→Vals (xs.drop n) (us.drop n)
 |_,_,0,r=>r
 |_,_,_+1,.nil=>.nil
 |_,_,n+1,.cons _ t=>Vals.drop n t
noncomputable def RelO:Option V→Option Value→Prop
 |some v,some u=>RelV v u
 |none,none=>True
 |_,_=>False
noncomputable def KV {κ:Type}:List (κ×V)→List (κ×Value)→Prop:=Paired fun (p:κ×V) (q:κ×Value)=>p.1=q.1∧RelV p.2 q.2
noncomputable def kV:Key→V
 | .inl i=>.int i
 | .inr x=>.str x
inductive HO where
  |lst (xs:List V)
  |tup (xs:List V)
  |dK (kvs:List (Key×V))|dT (kvs:List (List Key×V))
  |set (S:Int→Bool) (n:Nat)
  |ins (C dx:Addr) (fs:List (Str×V))
  |own (x:Addr)
  |xd (fs:List (Str×V))
  |met (f x:Addr)
  |rng (lo hi:Int)
  |frz (o:Obj) (u:HO)
  |tbl (ps:Array Value)
  |ext (φ:Heap→Prop)
noncomputable abbrev Hp:=Addr→Option HO
noncomputable def upd (H:Hp) (a:Addr) (o:HO):Hp:=fun b=>if b=a then some o else H b
theorem aD {H:Hp} {a:Addr} {o:HO}:upd H a o a=some o:=by unfold upd;rw[if_pos rfl]
theorem ar {H:Hp} {a b:Addr} {o:HO} (h:b≠a):upd H a o b=H b:=by unfold upd;rw[if_neg h]
theorem uM {H:Hp} {a:Addr} {o u:HO}:upd (upd H a o) a u=upd H a u:=by
 funext b;unfold upd;split<;>rfl
theorem pZ {H:Hp} {a b:Addr} {o u:HO} (h:H a=some o) (h':H b=some u) (d:o≠u):a≠b:=by
 intro e;subst e;rw[h] at h';exact d (Option.some.inj h')
theorem aS {H:Hp} {a b:Addr} {o:HO} (h:H a=some o) (h':H b=none):a≠b:=by
 intro e;subst e;rw[h] at h';cases h'
section
variable (P:Program) (w:World)
noncomputable def ObjOk (H:Hp) (h:Heap) (a:Addr):HO→Prop
 | .lst xs=>xs.length≤sizeLine∧∃ (its:List Value) (n:Nat),Vals xs its∧h.get? a=some {cls:=.type "list",data:=.seq its.toArray n}
 | .tup xs=>xs.length≤sizeLine∧∃ its:List Value,Vals xs its∧IsTup h a its.toArray
 | .dK kvs=>kvs.length≤sizeLine∧(a==sysModules)=false∧∃ vs,KV kvs vs∧h.DictOf (bE P w) a vs
 | .dT kvs=>kvs.length≤sizeLine∧(a==sysModules)=false∧∃ xs:List (List Key×Addr×Value),
   Paired (fun (p:List Key×V) (q:List Key×Addr×Value)=>p.1=q.1∧H q.2.1=some (.tup (p.1.map kV))∧RelV p.2 q.2.2) kvs xs∧
   ∃ o es ep,h.get? a=some o∧o.ExactDict∧o.data= .dict es ep∧es.toList=xs.map (entryOfKey (tupleKind (bE P w)))∧(xs.map (·.1)).Nodup
 | .set S n=>h.SetOf (intKind P w) a S n
 | .ins C dx fs=>H dx=some (.own a)∧fs.length≤1000∧dx≠a∧h.get? a=some (PySem.W.instObj C dx)∧
   ∃ mA,h.Ns1 dx mA∧(∀ f,RelO (fs.lookup f) (mA f))∧PySem.Within mA (fs.map (·.1))
 | .own _=> ∃ o,h.get? a=some o
 | .xd fs=> ∃ mA,h.Ns1 a mA∧∀ f,RelO (fs.lookup f) (mA f)
 | .rng lo hi=> ∃ t u v,h.get? a=some {cls:=.type "range",data:=.fields #[.int lo t,.int hi u,.int 1 v]}
 | .frz o u=>h.get? a=some o∧ObjOk H h a u
 | .tbl ps=>h.get? a=some {cls:=.none,data:=.fields ps}
 | .met f x=>h.get? a=some (PySem.W.methodObj (.ref f) (.ref x))
 | .ext φ=>φ h∧(∃ o,h.get? a=some o)∧∀ h1 h2:Heap,φ h1→(∀ o,h1.get? a=some o→h2.get? a=some o)→φ h2
noncomputable def HOk (H:Hp) (h:Heap):Prop:= ∀ a o,H a=some o→ObjOk P w H h a o
end
section
variable {P:Program} {w:World} {H H':Hp} {h h':Heap} {a:Addr} {o:HO}
theorem ObjOk.lt (x:ObjOk P w H h a o):a < h.objs.size:=by
 cases o with
 |lst xs=>obtain⟨_,_,_,_,e⟩:=x;exact Heap.lt_size e
 |tup xs=>obtain⟨_,_,_,p⟩:=x;exact p.lt
 |dK kvs=>obtain⟨_,_,_,_,o,_,_,e,_⟩:=x;exact Heap.lt_size e
 |dT kvs=>obtain⟨_,_,_,_,o,_,_,e,_⟩:=x;exact Heap.lt_size e
 |set S n=>obtain⟨o,_,_,_,e,_⟩:=x;exact Heap.lt_size e
 |ins C dx fs=>obtain⟨_,_,_,e,_⟩:=x;exact Heap.lt_size e
 |own y=>obtain⟨_,e⟩:=x;exact Heap.lt_size e
 |xd fs=>obtain⟨_,⟨_,_,_,e,_⟩,_⟩:=x;exact Heap.lt_size e
 |rng lo hi=>obtain⟨_,_,_,e⟩:=x;exact Heap.lt_size e
 |frz ob u=>obtain⟨e,_⟩:=x;exact Heap.lt_size e
 |tbl ps=>exact Heap.lt_size (show h.get? a=some _ from x)
 |met f y=>exact Heap.lt_size (show h.get? a=some _ from x)
 |ext φ=>obtain⟨_,⟨_,e⟩,_⟩:=x;exact Heap.lt_size e
theorem Paired.mapP {α β:Type} {F G:α→β→Prop}: ∀ {l₁:List α} {l₂:List β},Paired F l₁ l₂→(∀ a b,F a b→G a b)→Paired G l₁ l₂
 |_,_,.nil,_=>.nil
 |_,_,.cons r t,f=>.cons (f _ _ r) (Paired.mapP t f)
theorem ObjOk.stay (x:ObjOk P w H h a o) (k: ∀ b u,(b=a∨H b=some (.own a))→h.get? b=some u→h'.get? b=some u)
  (ho: ∀ b,H b=some (.own a)→H' b=some (.own a)) (ht: ∀ b xs,H b=some (.tup xs)→H' b=some (.tup xs)):ObjOk P w H' h' a o:=by
 induction o with
 |lst xs=>obtain⟨z,its,n,r,e⟩:=x;exact⟨z,its,n,r,k _ _ (.inl rfl) e⟩
 |tup xs=>obtain⟨z,its,r,ob,e,c⟩:=x;exact⟨z,its,r,ob,k _ _ (.inl rfl) e,c⟩
 |dK kvs=>obtain⟨z,y,vs,r,ob,es,ep,e,c⟩:=x;exact⟨z,y,vs,r,ob,es,ep,k _ _ (.inl rfl) e,c⟩
 |dT kvs=>
  obtain⟨z,y,xs,r,ob,es,ep,e,c⟩:=x
  exact⟨z,y,xs,Paired.mapP r fun p q z=>⟨z.1,ht _ _ z.2.1,z.2.2⟩,ob,es,ep,k _ _ (.inl rfl) e,c⟩
 |set S n=>obtain⟨ob,es,ep,t,e,c⟩:=x;exact⟨ob,es,ep,t,k _ _ (.inl rfl) e,c⟩
 |ins C dx fs=>
  obtain⟨d,z,ne,e,mA,⟨od,es,ep,e2,c⟩,r⟩:=x
  exact⟨ho _ d,z,ne,k _ _ (.inl rfl) e,mA,⟨od,es,ep,k _ _ (.inr d) e2,c⟩,r⟩
 |own y=>obtain⟨ob,e⟩:=x;exact⟨ob,k _ _ (.inl rfl) e⟩
 |xd fs=>obtain⟨mA,⟨od,es,ep,e,c⟩,r⟩:=x;exact⟨mA,⟨od,es,ep,k _ _ (.inl rfl) e,c⟩,r⟩
 |rng lo hi=>obtain⟨t,u,v,e⟩:=x;exact⟨t,u,v,k _ _ (.inl rfl) e⟩
 |frz ob u ih=>obtain⟨e,q⟩:=x;exact⟨k _ _ (.inl rfl) e,ih q⟩
 |tbl ps=>
  have e:h.get? a=some {cls:=.none,data:=.fields ps}:=x
  show h'.get? a=some {cls:=.none,data:=.fields ps}
  exact k a _ (.inl rfl) e
 |met f y=>
  have e:h.get? a=some (PySem.W.methodObj (.ref f) (.ref y)):=x
  show h'.get? a=some (PySem.W.methodObj (.ref f) (.ref y))
  exact k a _ (.inl rfl) e
 |ext φ=>obtain⟨p,⟨o,e⟩,st⟩:=x;exact⟨st _ _ p fun o q=>k _ _ (.inl rfl) q,⟨o,k _ _ (.inl rfl) e⟩,st⟩
theorem HOk.lt (x:HOk P w H h) (e:H a=some o):a < h.objs.size:=(x a o e).lt
theorem HOk.fresh (x:HOk P w H h) (e:h.objs.size≤a):H a=none:=by
 cases q:H a with
 |none=>rfl
 |some u=>exact absurd (Nat.lt_of_lt_of_le (x.lt q) e) (Nat.lt_irrefl _)
theorem HOk.kept (x:HOk P w H h) (k: ∀ b u,h.get? b=some u→h'.get? b=some u):HOk P w H h':=fun a o e=>
 (x a o e).stay (fun b u _ q=>k b u q) (fun _ q=>q) fun _ _ q=>q
theorem HOk.laid (x:HOk P w H h) (k: ∀ b u,h.get? b=some u→h'.get? b=some u) (hp:h.objs.size≤a) (new:ObjOk P w (upd H a o) h' a o):HOk P w (upd H a o) h':=fun b u e=>by
 have hn:=x.fresh hp
 by_cases hb:b=a
 ·subst hb;rw[aD] at e;cases e;exact new
 ·rw[ar hb] at e
  exact(x b u e).stay (fun c v _ q=>k c v q) (fun c q=>by rw[ar (aS q hn)];exact q) fun c xs q=>by rw[ar (aS q hn)];exact q
end
noncomputable def Rd (H:Hp) (a:Addr) (u:HO):Prop:=H a=some u∨∃ o,H a=some (.frz o u)
theorem Rd.ok {P:Program} {w:World} {H:Hp} {h:Heap} {a:Addr} {u:HO} (r:Rd H a u) (x:HOk P w H h):ObjOk P w H h a u:=by
 rcases r with r|⟨o,r⟩
 ·exact x a u r
 ·obtain⟨_,q⟩:=x a _ r
  exact q
noncomputable def Mut:Option HO→Prop
 |some (.lst _)=>True
 |some (.dK _)=>True
 |some (.dT _)=>True
 |some (.set _ _)=>True
 |some (.ins _ _ _)=>True
 |some (.ext _)=>True
 |_=>False
section
variable {P:Program} {w:World} {H:Hp} {h h':Heap} {x e:Addr} {o':HO}
theorem HOk.write (ok:HOk P w H h) (mu:Mut (H x)) (he:e=x∨H e=some (.own x)) (k: ∀ b u,b≠e→h.get? b=some u→h'.get? b=some u) (heo: ∃ u,h'.get? e=some u)
  (new:ObjOk P w (upd H x o') h' x o'):HOk P w (upd H x o') h':=fun b u q=>by
 have nown: ∀ c y,H c=some (.own y)→c≠x:=fun c y r z=>by subst z;rw[r] at mu;exact mu
 have ntup: ∀ c xs,H c=some (.tup xs)→c≠x:=fun c xs r z=>by subst z;rw[r] at mu;exact mu
 by_cases hb:b=x
 ·subst hb;rw[aD] at q;cases q;exact new
 ·rw[ar hb] at q
  by_cases hbe:b=e
  ·have q':H b=some (.own x):=by
    rcases he with z|z
    ·exact absurd (hbe.trans z) hb
    ·rw[hbe];exact z
   rw[q] at q';cases q'
   obtain⟨v,hv⟩:=heo
   exact⟨v,by rw[hbe];exact hv⟩
  ·refine(ok b u q).stay (fun c v hc r=>k c v ?_ r) (fun c r=>by rw[ar (nown c b r)];exact r) fun c xs r=>by rw[ar (ntup c xs r)];exact r
   rcases hc with rfl|hc
   ·exact hbe
   ·rintro rfl
    rcases he with z|z
    ·exact nown c b hc z
    ·rw[hc] at z;cases z;exact hb rfl
end
set_option genInjectivity false in
structure Un (fs ex:List Addr) (H H':Hp) (h h':Heap):Prop where
 keep: ∀ b o,h.get? b=some o→H b=none→b∉fs→b∉ex→h'.get? b=some o
 slot: ∀ b o,h.get? b=some o→H b=none→b∈fs→b∉ex→∃ sl,h'.get? b=some {o with slots:=sl}
 free: ∀ b o,h.get? b=some o→H b=none→b∉ex→H' b=none
 there: ∀ b o,h.get? b=some o→b∉ex→∃ o',h'.get? b=some o'
 tups: ∀ b xs,H b=some (.tup xs)→H' b=some (.tup xs)
 frzs: ∀ b o u,H b=some (.frz o u)→H' b=some (.frz o u)
 tbls: ∀ b ps,H b=some (.tbl ps)→∃ more,H' b=some (.tbl (ps++more))
section
variable {fs fs' ex ex':List Addr} {H H1 H2:Hp} {h h1 h2 h':Heap} {a x e:Addr} {o:HO}
theorem Un.any (u:Un fs ex H H1 h h1) {b:Addr} {ob:Obj} (q:h.get? b=some ob) (n:H b=none) (hx:b∉ex): ∃ sl,h1.get? b=some {ob with slots:=sl}:=by
 by_cases hb:b∈fs
 ·exact u.slot b ob q n hb hx
 ·exact⟨ob.slots,u.keep b ob q n hb hx⟩
theorem Un.kept (k: ∀ b u,h.get? b=some u→h'.get? b=some u):Un fs ex H H h h':=
 ⟨fun b ob q _ _ _=>k b ob q,fun b ob q _ _ _=>⟨ob.slots,k b ob q⟩,fun _ _ _ n _=>n,fun b ob q _=>⟨ob,k b ob q⟩,fun _ _ q=>q,fun _ _ _ q=>q,fun _ ps q=>⟨#[],by rw[q];simp⟩⟩
theorem Un.refl:Un fs ex H H h h:=Un.kept fun _ _ q=>q
theorem Un.laid (k: ∀ b u,h.get? b=some u→h'.get? b=some u) (hp:h.objs.size≤a) (hn:H a=none):Un fs ex H (upd H a o) h h' where
 keep:=fun b u q _ _ _=>k b u q
 slot:=fun b u q _ _ _=>⟨u.slots,k b u q⟩
 free:=fun b u q n _=>by rw[ar (Nat.ne_of_lt (Nat.lt_of_lt_of_le (Heap.lt_size q) hp))];exact n
 there:=fun b u q _=>⟨u,k b u q⟩
 tups:=fun b xs q=>by rw[ar (aS q hn)];exact q
 frzs:=fun b u xs q=>by rw[ar (aS q hn)];exact q
 tbls:=fun b ps q=>⟨#[],by rw[ar (aS q hn),q];simp⟩
theorem Un.write (mu:Mut (H x)) (he:e=x∨H e=some (.own x)) (k: ∀ b u,b≠e→h.get? b=some u→h'.get? b=some u) (heo: ∃ u,h'.get? e=some u):Un fs ex H (upd H x o) h h':=by
 have hx: ∀ b,H b=none→b≠x:=fun b n z=>by subst z;rw[n] at mu;exact mu
 have hb: ∀ b,H b=none→b≠e:=fun b n z=>by
  subst z
  rcases he with r|r
  ·exact hx b n r
  ·rw[n] at r;cases r
 have hm: ∀ b u,H b=some u→¬ Mut (some u)→b≠x:=fun b u q nm z=>by subst z;rw[q] at mu;exact nm mu
 refine⟨fun b u q n _ _=>k b u (hb b n) q,fun b u q n _ _=>⟨u.slots,k b u (hb b n) q⟩,fun b u q n _=>by rw[ar (hx b n)];exact n,fun b u q _=>?_,
  fun b xs q=>by rw[ar (hm b _ q fun z=>z)];exact q,fun b u xs q=>by rw[ar (hm b _ q fun z=>z)];exact q,fun b ps q=>⟨#[],by rw[ar (hm b _ q fun z=>z),q];simp⟩⟩
 by_cases hbe:b=e
 ·subst hbe;exact heo
 ·exact⟨u,k b u hbe q⟩
end
noncomputable def trk (h:Heap) (H:Hp):List Addr:=(List.range h.objs.size).filter fun a=>(H a).isSome
noncomputable def gG (h:Heap) (H:Hp):Heap:=PySem.W.hideAll h (trk h H)
theorem rE (h:Heap) (H:Hp):(gG h H).objs.size=h.objs.size:=PySem.W.hideAll_size _ _
theorem ja {h:Heap} {H:Hp} {b:Addr} {o:Obj} (e:h.get? b=some o) (n:H b=none):(gG h H).get? b=some o:=
 PySem.W.hideAll_get _ e fun hm=>by
  have q:(H b).isSome=true:=(List.mem_filter.mp hm).2
  rw[n] at q;simp at q
theorem vq {h:Heap} {H:Hp} {b:Addr} {o:Obj} (e:(gG h H).get? b=some o):h.get? b=some o∧H b=none:=by
 have e':h.get? b=some o:=PySem.W.of_hideAll (trk h H) e
 refine⟨e',?_⟩
 cases q:H b with
 |none=>rfl
 |some x=>
  have hm:b∈trk h H:=List.mem_filter.mpr ⟨List.mem_range.mpr (Heap.lt_size e'),by simp[q]⟩
  have z:(gG h H).get? b=none:=PySem.W.hideAll_none (trk h H) hm
  rw[z] at e;cases e
noncomputable def vW (g h:Heap) (L:Addr):List (Addr×Obj):=(List.range h.objs.size).filterMap fun a=>if a=L∨(g.get? a).isSome=true then none else(h.get? a).map fun o=>(a,o)
noncomputable def rest (g h:Heap) (L d:Addr):List (Addr×Obj):=(vW g h L).filter fun p=>decide (p.1≠d)
end L2
namespace L2
open PySem PySem.Spec PyProof.Rows
set_option genInjectivity false in
structure Mod (K:PySem.W.Frag) (mg:Str→Option Value) (base:Heap):Prop where
  kin:K.In base
  glob:base.Ns mainGlobals mg
  blt: ∃ mb,base.Ns builtinsNs mb∧∀ x:Str,x≠"__name__"→mb x=bootBuiltins x
  nolimit:base.NoLimit
set_option genInjectivity false in
structure Cx where
 prog:Program
 w:World
 K:PySem.W.Frag
 mg:Str→Option Value
 base:Heap
 A:Around
 N:List Str
 s₀:Shared
 H₀:Hp
 env:Env
 outer:List Env
 stack:List Env
 ex:List Addr
 fn:Str→Bool
 calm:Bool
 pn:List (Addr×Obj)
 xe:Value→Shared→Prop
noncomputable def frs (l:List Env):List Addr:=l.filterMap (·.frame)
noncomputable abbrev Cx.fs (X:Cx):List Addr:=frs X.outer
noncomputable def Vis (sc:Scope) (x:Str):Prop:=sc.names.lookup x=some .local∨sc.names.lookup x=some .cell∨sc.names.lookup x=some .free
noncomputable def Loc (sc:Scope) (x:Str):Prop:=sc.names.lookup x=some .local∨sc.names.lookup x=some .cell
noncomputable def Look (env:Env) (h:Heap) (m:Str→Option Value) (x:Str) (u:Value):Prop:=
 (env.kindOf x=some .local∧m x=some u)∨((env.kindOf x=some .cell∨env.kindOf x=some .free)∧∃ c,env.cells.lookup x=some c∧h.IsCell c (some u))
set_option genInjectivity false in
structure Cx.Ok (X:Cx):Prop where
 mod:Mod X.K X.mg X.base
 kind:X.env.scope.kind= .function
 glob:X.env.globals=mainGlobals
 blt:X.env.builtins=builtinsNs
 above:X.s₀.heap.objs.size≤X.env.locals
 inj: ∀ x y c,X.env.cells.lookup x=some c→X.env.cells.lookup y=some c→x=y
 has: ∀ x,(X.env.kindOf x=some .cell∨X.env.kindOf x=some .free)→∃ c,X.env.cells.lookup x=some c
 cab: ∀ x c,X.fn x=true→X.env.cells.lookup x=some c→X.s₀.heap.objs.size≤c
 hd:X.calm=true→X.A.handled=none
 frames:X.A.frames=some X.stack
 stk:X.stack=X.outer∨(X.stack=X.env::X.outer∧X.env.frame=some X.env.locals)
 exf: ∀ b∈X.ex,b≠X.env.locals∧∀ x c,X.env.cells.lookup x=some c→c≠b
 bs: ∀ b o,X.base.get? b=some o→X.s₀.heap.get? b=some o∧X.H₀ b=none
 bsz:X.base.objs.size≤X.s₀.heap.objs.size
 noex: ∀ b o,X.base.get? b=some o→b∉X.ex
 exfs: ∀ b∈X.ex,b∉X.fs
 funs:X.s₀.heap.FunFrames X.base X.outer
 frf: ∀ b∈X.fs,X.H₀ b=none
set_option genInjectivity false in
structure Inv (X:Cx) (pins:List (Addr×Obj)) (σ:List (Option V)) (H:Hp) (s:Shared):Prop where
 ok:X.Ok
 os:s.os=X.s₀.os
 bare:AllBare s.gens
 base:Un X.fs X.ex X.H₀ H X.s₀.heap s.heap
 loc: ∃ m,s.heap.Ns X.env.locals m∧∀ (i:Nat) (x:Str) (v:V),X.N[i]?=some x→σ[i]?=some (some v)→Vis X.env.scope x→∃ u,RelV v u∧Look X.env s.heap m x u
 cell: ∀ x c,X.env.cells.lookup x=some c→∃ v,s.heap.IsCell c v
 free:H X.env.locals=none
 freeC: ∀ x c,X.env.cells.lookup x=some c→H c=none
 pin: ∀ p∈X.pn++pins,s.heap.get? p.1=some p.2∧H p.1=none∧p.1≠X.env.locals∧p.1∉X.fs∧∀ v,p.2.data≠.cell v
 hok:HOk X.prog X.w H s.heap
 len:σ.length=X.N.length
section
variable {X:Cx} {pins:List (Addr×Obj)} {σ:List (Option V)} {H H':Hp} {s:Shared} {h':Heap}
theorem Cx.Ok.nofr (ok:X.Ok) {b:Addr} {o:Obj} (e:X.base.get? b=some o):b∉X.fs:=fun hb=>by
 have:=(ok.funs.mem hb).1
 rw[e] at this;cases this
theorem Inv.bs (I:Inv X pins σ H s): ∀ b o,X.base.get? b=some o→s.heap.get? b=some o∧H b=none:=fun b o e=>
 ⟨I.base.keep b o (I.ok.bs b o e).1 (I.ok.bs b o e).2 (I.ok.nofr e) (I.ok.noex b o e),I.base.free b o (I.ok.bs b o e).1 (I.ok.bs b o e).2 (I.ok.noex b o e)⟩
theorem Inv.bk (I:Inv X pins σ H s): ∀ b o,X.base.get? b=some o→s.heap.get? b=some o:=fun b o e=>(I.bs b o e).1
theorem Inv.mod (I:Inv X pins σ H s):Mod X.K X.mg X.base:=I.ok.mod
theorem Inv.kIn (I:Inv X pins σ H s):X.K.In s.heap:=I.ok.mod.kin.keeps I.bk
theorem Inv.lt (I:Inv X pins σ H s):X.env.locals < s.heap.objs.size:=let ⟨_,hn,_⟩:=I.loc;hn.lt
theorem Inv.sz (I:Inv X pins σ H s):X.s₀.heap.objs.size≤s.heap.objs.size:=Nat.le_trans I.ok.above (Nat.le_of_lt I.lt)
theorem Inv.nofs (I:Inv X pins σ H s) {a:Addr} (h:s.heap.objs.size≤a):a∉X.fs:=fun hb=>by
 obtain⟨_,o,ho,_⟩:=I.ok.funs.mem hb
 exact absurd (Nat.lt_of_lt_of_le (Heap.lt_size ho) (Nat.le_trans I.sz h)) (Nat.lt_irrefl _)
theorem Inv.cne (I:Inv X pins σ H s): ∀ x c,X.env.cells.lookup x=some c→c≠X.env.locals:=fun x c e z=>by
 obtain⟨v,o,ho,hd⟩:=I.cell x c e
 obtain⟨m,⟨o',es,ep,ho',hd',_⟩,_⟩:=I.loc
 rw[z,ho'] at ho;cases ho;rw[hd'] at hd;cases hd
theorem Inv.funs (I:Inv X pins σ H s):s.heap.FunFrames X.base X.outer:=by
 have all: ∀ (l:List Env),(∀ b∈frs l,b∈X.fs)→X.s₀.heap.FunFrames X.base l→s.heap.FunFrames X.base l:=by
  intro l
  induction l with
  |nil=>intro _ _;trivial
  |cons env r ih=>
   intro hs hl
   obtain⟨hk,⟨L,o,hf,hn,ho,hd⟩,hr⟩:=hl
   have hL:L∈X.fs:=hs L (by unfold frs;rw[List.filterMap_cons,hf];exact List.mem_cons_self)
   obtain⟨sl,e⟩:=I.base.slot L o ho (I.ok.frf L hL) hL fun z=>I.ok.exfs L z hL
   exact⟨hk,⟨L,_,hf,hn,e,hd⟩,ih (fun b hb=>hs b (by unfold frs;rw[List.filterMap_cons,hf];exact List.mem_cons_of_mem _ hb)) hr⟩
 exact all X.outer (fun _ hb=>hb) I.ok.funs
theorem Inv.stack (I:Inv X pins σ H s):s.heap.FunFrames X.base X.stack:=by
 rcases I.ok.stk with e|⟨e,hf⟩
 ·rw[e];exact I.funs
 ·rw[e]
  obtain⟨m,hn,_⟩:=I.loc
  refine .cons (by rw[I.ok.kind];decide) hf hn ?_ I.funs
  exact Heap.get?_none_of_le (Nat.le_trans I.ok.bsz I.ok.above)
theorem Inv.stkSub (I:Inv X pins σ H s): ∀ b∈frs X.stack,b∈X.env.locals::X.fs:=fun b hb=>by
 rcases I.ok.stk with e|⟨e,hf⟩
 ·rw[e] at hb;exact List.mem_cons_of_mem _ hb
 ·rw[e] at hb
  unfold frs at hb
  rw[List.filterMap_cons,hf] at hb
  exact hb
theorem Inv.stkFree (I:Inv X pins σ H s): ∀ b∈frs X.stack,H b=none:=fun b hb=>by
 rcases List.mem_cons.mp (I.stkSub b hb) with e|hb
 ·rw[e];exact I.free
 ·obtain⟨_,o,ho,_⟩:=I.ok.funs.mem hb
  exact I.base.free b o ho (I.ok.frf b hb) fun z=>I.ok.exfs b z hb
theorem Inv.step {g':Array GenState} {t':Nat} {d':Drawn} {ch:List Addr} (I:Inv X pins σ H s)
  (hch: ∀ b∈ch,(b∈X.ex∨X.s₀.heap.objs.size≤b)∧b≠X.env.locals∧(∀ x c,X.env.cells.lookup x=some c→c≠b)∧∀ p∈X.pn++pins,p.1≠b)
  (keep: ∀ b o,b≠X.env.locals→b∉X.fs→b∉ch→s.heap.get? b=some o→H b=none→h'.get? b=some o)
  (slot: ∀ b o,b≠X.env.locals→b∈X.fs→b∉ch→s.heap.get? b=some o→H b=none→∃ sl,h'.get? b=some {o with slots:=sl}) (free: ∀ b o,b∉ch→s.heap.get? b=some o→H b=none→H' b=none)
  (there: ∀ b o,b∉ch→s.heap.get? b=some o→∃ o',h'.get? b=some o')
  (tups: ∀ b xs,H b=some (.tup xs)→H' b=some (.tup xs)) (frzs: ∀ b o u,H b=some (.frz o u)→H' b=some (.frz o u)) (tbls: ∀ b ps,H b=some (.tbl ps)→∃ more,H' b=some (.tbl (ps++more)))
  (ns: ∀ m,s.heap.Ns X.env.locals m→h'.Ns X.env.locals m) (hok:HOk X.prog X.w H' h') (hg:AllBare g'):
  Inv X pins σ H' {s with heap:=h',gens:=g',drawn:=d',toks:=t'}:=by
 have neL: ∀ b o,X.s₀.heap.get? b=some o→b≠X.env.locals:=fun b o e=>Nat.ne_of_lt (Nat.lt_of_lt_of_le (Heap.lt_size e) I.ok.above)
 have neC: ∀ b o,X.s₀.heap.get? b=some o→b∉X.ex→b∉ch:=fun b o e hx hb=>by
  rcases(hch b hb).1 with z|z
  ·exact hx z
  ·exact absurd (Nat.lt_of_lt_of_le (Heap.lt_size e) z) (Nat.lt_irrefl _)
 have cellK: ∀ x c,X.env.cells.lookup x=some c→∀ v,s.heap.IsCell c v→h'.IsCell c v:=fun x c e v hq0=>by
  obtain⟨o,ho,hd⟩:=hq0
  have nch:c∉ch:=fun z=>(hch c z).2.2.1 x c e rfl
  by_cases hc:c∈X.fs
  ·obtain⟨sl,q⟩:=slot c o (I.cne x c e) hc nch ho (I.freeC x c e)
   exact⟨_,q,hd⟩
  ·exact⟨o,keep c o (I.cne x c e) hc nch ho (I.freeC x c e),hd⟩
 refine⟨I.ok,I.os,hg,⟨fun b o e n hb hx=>?_,fun b o e n hb hx=>?_,fun b o e n hx=>?_,fun b o e hx=>?_,fun b xs e=>tups b xs (I.base.tups b xs e),fun b o xs e=>frzs b o xs (I.base.frzs b o xs e),fun b ps e=>?_⟩,?_,fun x c e=>?_,?_,fun x c e=>?_,fun p hp=>?_,hok,I.len⟩
 ·exact keep b o (neL b o e) hb (neC b o e hx) (I.base.keep b o e n hb hx) (I.base.free b o e n hx)
 ·obtain⟨sl,e1⟩:=I.base.slot b o e n hb hx
  obtain⟨sl',e2⟩:=slot b _ (neL b o e) hb (neC b o e hx) e1 (I.base.free b o e n hx)
  exact⟨sl',e2⟩
 ·obtain⟨o',e1⟩:=I.base.there b o e hx
  exact free b o' (neC b o e hx) e1 (I.base.free b o e n hx)
 ·obtain⟨o',e1⟩:=I.base.there b o e hx
  exact there b o' (neC b o e hx) e1
 ·obtain⟨m1,e1⟩:=I.base.tbls b ps e
  obtain⟨m2,e2⟩:=tbls b _ e1
  exact⟨m1++m2,by rw[e2,Array.append_assoc]⟩
 ·obtain⟨m,hn,hl⟩:=I.loc
  refine⟨m,ns m hn,fun i x v e1 e2 e3=>?_⟩
  obtain⟨u,r,l⟩:=hl i x v e1 e2 e3
  refine⟨u,r,?_⟩
  rcases l with l|⟨k,c,e,z⟩
  ·exact .inl l
  ·exact .inr ⟨k,c,e,cellK x c e _ z⟩
 ·obtain⟨v,z⟩:=I.cell x c e
  exact⟨v,cellK x c e v z⟩
 ·obtain⟨m,⟨o,_,_,ho,_⟩,_⟩:=I.loc
  exact free _ o (fun z=>(hch _ z).2.1 rfl) ho I.free
 ·obtain⟨v,o,ho,hd⟩:=I.cell x c e
  exact free c o (fun z=>(hch c z).2.2.1 x c e rfl) ho (I.freeC x c e)
 ·obtain⟨e,n,ne,nf,d⟩:=I.pin p hp
  have nch:p.1∉ch:=fun z=>(hch p.1 z).2.2.2 p hp rfl
  exact⟨keep p.1 p.2 ne nf nch e n,free p.1 p.2 nch e n,ne,nf,d⟩
theorem Inv.un {t':Nat} (I:Inv X pins σ H s) (u:Un X.fs [] H H' s.heap h') (hok:HOk X.prog X.w H' h'):Inv X pins σ H' {s with heap:=h',toks:=t'}:=by
 obtain⟨m,⟨o,es,ep,ho,r⟩,_⟩:=id I.loc
 obtain⟨sl,hL⟩:=u.any ho I.free (by simp)
 exact I.step (g':=s.gens) (d':=s.drawn) (ch:=[]) (fun _ z=>nomatch z) (fun b o _ hb _ e n=>u.keep b o e n hb (by simp)) (fun b o _ hb _ e n=>u.slot b o e n hb (by simp)) (fun b o _ e n=>u.free b o e n (by simp)) (fun b o _ e=>u.there b o e (by simp)) u.tups u.frzs u.tbls (fun m' hm=>by
  obtain⟨o',es',ep',ho',r'⟩:=hm
  rw[ho] at ho';cases ho'
  exact⟨_,es',ep',hL,r'⟩) hok I.bare
theorem Inv.call {g':Array GenState} {t':Nat} {d':Drawn} {ch:List Addr} (I:Inv X pins σ H s) (u:Un (frs X.stack) ch H H' s.heap h') (hok:HOk X.prog X.w H' h') (hg:AllBare g')
  (hch: ∀ b∈ch,(b∈X.ex∨X.s₀.heap.objs.size≤b)∧b≠X.env.locals∧(∀ x c,X.env.cells.lookup x=some c→c≠b)∧∀ p∈X.pn++pins,p.1≠b):
  Inv X pins σ H' {s with heap:=h',gens:=g',drawn:=d',toks:=t'}:=by
 obtain⟨m,⟨o,es,ep,ho,r⟩,_⟩:=id I.loc
 obtain⟨sl,hL⟩:=u.any ho I.free fun z=>(hch _ z).2.1 rfl
 exact I.step (ch:=ch) hch (fun b o hL hb hc e n=>u.keep b o e n (fun z=>(List.mem_cons.mp (I.stkSub b z)).elim hL hb) hc) (fun b o _ _ hc e n=>u.any e n hc) (fun b o hc e n=>u.free b o e n hc) (fun b o hc e=>u.there b o e hc) u.tups u.frzs u.tbls (fun m' hm=>by
  obtain⟨o',es',ep',ho',r'⟩:=hm
  rw[ho] at ho';cases ho'
  exact⟨_,es',ep',hL,r'⟩) hok hg
theorem Inv.turned {t':Nat} {it:Addr} (I:Inv X pins σ H s) (k: ∀ b o,b≠it→s.heap.get? b=some o→h'.get? b=some o) (hn:H it=none) (hL:it≠X.env.locals)
  (h1:it∈X.ex∨X.s₀.heap.objs.size≤it) (h2: ∀ x c,X.env.cells.lookup x=some c→c≠it) (h3: ∀ p∈X.pn++pins,p.1≠it):Inv X pins σ H {s with heap:=h',toks:=t'}:=by
 have nit: ∀ b u,H b=some u→b≠it:=fun b u e z=>by rw[z,hn] at e;cases e
 refine I.step (g':=s.gens) (d':=s.drawn) (ch:=[it]) (fun b hb=>?_) (fun b o _ _ hc e _=>k b o (fun z=>hc (by simp[z])) e) (fun b o _ _ hc e _=>⟨o.slots,k b o (fun z=>hc (by simp[z])) e⟩) (fun _ _ _ _ n=>n)
  (fun b o hc e=>⟨o,k b o (fun z=>hc (by simp[z])) e⟩) (fun _ _ e=>e) (fun _ _ _ e=>e) (fun b ps e=>⟨#[],by rw[e];simp⟩) (fun m hm=>?_) (fun b u e=>?_) I.bare
 ·have e:b=it:=by simpa using hb
  subst e
  exact⟨h1,hL,h2,h3⟩
 ·obtain⟨o,es,ep,ho,r⟩:=hm
  exact⟨o,es,ep,k _ o (Ne.symm hL) ho,r⟩
 ·refine(I.hok b u e).stay (fun c v hc q=>k c v ?_ q) (fun _ q=>q) fun _ _ q=>q
  rcases hc with z|z
  ·rw[z];exact nit b u e
  ·exact nit c _ z
theorem Inv.tok (I:Inv X pins σ H s) (t:Nat):Inv X pins σ H {s with toks:=t}:=I.un (h':=s.heap) (t':=t) Un.refl I.hok
theorem Inv.kept {t':Nat} (I:Inv X pins σ H s) (k: ∀ b u,s.heap.get? b=some u→h'.get? b=some u):Inv X pins σ H {s with heap:=h',toks:=t'}:=I.un (Un.kept k) (I.hok.kept k)
theorem Inv.laid {a:Addr} {o:HO} {t':Nat} (I:Inv X pins σ H s) (k: ∀ b u,s.heap.get? b=some u→h'.get? b=some u) (hp:s.heap.objs.size≤a) (new:ObjOk X.prog X.w (upd H a o) h' a o):
  Inv X pins σ (upd H a o) {s with heap:=h',toks:=t'}:=I.un (Un.laid k hp (I.hok.fresh hp)) (I.hok.laid k hp new)
theorem Inv.write {x e:Addr} {o:HO} {t':Nat} (I:Inv X pins σ H s) (mu:Mut (H x)) (he:e=x∨H e=some (.own x)) (k: ∀ b u,b≠e→s.heap.get? b=some u→h'.get? b=some u) (heo: ∃ u,h'.get? e=some u)
  (new:ObjOk X.prog X.w (upd H x o) h' x o):Inv X pins σ (upd H x o) {s with heap:=h',toks:=t'}:=I.un (Un.write mu he k heo) (I.hok.write mu he k heo new)
theorem Inv.pins_of {pins':List (Addr×Obj)} (I:Inv X pins σ H s) (h: ∀ p∈pins',s.heap.get? p.1=some p.2∧H p.1=none∧p.1≠X.env.locals∧p.1∉X.fs∧∀ v,p.2.data≠.cell v):Inv X pins' σ H s:=
 ⟨I.ok,I.os,I.bare,I.base,I.loc,I.cell,I.free,I.freeC,fun p hp=>(List.mem_append.mp hp).elim (fun z=>I.pin p (List.mem_append_left _ z)) (h p),I.hok,I.len⟩
theorem mL {N:List Str} (hN:N.Nodup) {i j:Nat} {x:Str} (a:N[i]?=some x) (b:N[j]?=some x):i=j:=by
 obtain⟨h1,e1⟩:=List.getElem?_eq_some_iff.mp a
 obtain⟨h2,e2⟩:=List.getElem?_eq_some_iff.mp b
 exact(List.getElem_inj hN).mp (e1.trans e2.symm)
theorem kA {M:Model} {A:Around} {E:Value→Shared→Prop} {i:Nat} {x:Str} {v:V} {u:Value} {Q:Unit→Shared→Prop} (I:Inv X pins σ H s) (hN:X.N.Nodup) (hi:X.N[i]?=some x) (hx:Loc X.env.scope x) (r:RelV v u)
  (h: ∀ s',Inv X pins (σ.set i (some v)) H s'→(∃ a,Heap.SameBut a s.heap s'.heap∧(a=X.env.locals∨X.env.cells.lookup x=some a))→Q () s') (hf:X.fn x=true∨X.env.scope.names.lookup x=some .local:=by first|exact .inl rfl|exact .inr rfl|assumption):wpAny M A (storeName X.env x u) Q E s:=by
 obtain⟨m,hn,hl⟩:=id I.loc
 have hcls:(X.env.scope.kind== .class||(X.env.scope.kind== .module&&X.env.locals !=X.env.globals))=false:=by rw[I.ok.kind];rfl
 have hiσ:i < σ.length:=by rw[I.len];exact(List.getElem?_eq_some_iff.mp hi).1
 have cne:=I.cne
 have tracked: ∀ {a:Addr} {h':Heap},(∃ o,s.heap.get? a=some o∧H a=none)→Heap.SameBut a s.heap h'→HOk X.prog X.w H h':=fun {a h'} ha hs b ob e=>by
  obtain⟨_,_,hfree⟩:=ha
  refine(I.hok b ob e).stay (fun c w' hc q=>(hs.2 c ?_).trans q) (fun _ q=>q) fun _ _ q=>q
  rintro rfl
  rcases hc with rfl|hc
  ·rw[hfree] at e;cases e
  ·rw[hfree] at hc;cases hc
 rcases hx with hk|hk
 ·refine wpAny_storeName_local hk hn (fun h' hn' hs=>?_) hcls
  obtain⟨oL,_,_,hoL,_⟩:=id hn
  refine h _ ⟨I.ok,I.os,I.bare,⟨fun b o e n hb hx=>?_,fun b o e n hb hx=>?_,I.base.free,fun b o e hx=>?_,I.base.tups,I.base.frzs,I.base.tbls⟩,⟨_,hn',fun j y v' e1 e2 e3=>?_⟩,fun y c e=>?_,I.free,I.freeC,fun p hp=>?_,tracked ⟨oL,hoL,I.free⟩ hs,by simpa using I.len⟩ ⟨_,hs,.inl rfl⟩
  ·exact(hs.2 b (Nat.ne_of_lt (Nat.lt_of_lt_of_le (Heap.lt_size e) I.ok.above))).trans (I.base.keep b o e n hb hx)
  ·obtain⟨sl,e1⟩:=I.base.slot b o e n hb hx
   exact⟨sl,(hs.2 b (Nat.ne_of_lt (Nat.lt_of_lt_of_le (Heap.lt_size e) I.ok.above))).trans e1⟩
  ·obtain⟨o',e1⟩:=I.base.there b o e hx
   exact⟨o',(hs.2 b (Nat.ne_of_lt (Nat.lt_of_lt_of_le (Heap.lt_size e) I.ok.above))).trans e1⟩
  ·by_cases hj:j=i
   ·subst hj
    rw[hi] at e1;cases e1
    rw[List.getElem?_set_self hiσ] at e2
    cases e2
    exact⟨u,r,.inl ⟨hk,by simp⟩⟩
   ·rw[List.getElem?_set_ne (Ne.symm hj)] at e2
    obtain⟨u',r',q⟩:=hl j y v' e1 e2 e3
    refine⟨u',r',?_⟩
    rcases q with⟨k,e⟩|⟨k,c,e,z⟩
    ·refine .inl ⟨k,?_⟩
     have:y≠x:=fun e=>hj (mL hN e1 (e▸hi))
     simp[this,e]
    ·exact .inr ⟨k,c,e,z.sameBut hs (cne y c e)⟩
  ·obtain⟨w',z⟩:=I.cell y c e
   exact⟨w',z.sameBut hs (cne y c e)⟩
  ·obtain⟨e,n,ne,nf,d⟩:=I.pin p hp
   exact⟨(hs.2 p.1 ne).trans e,n,ne,nf,d⟩
 ·have hfn:X.fn x=true:=by
   rcases hf with z|z
   ·exact z
   ·rw[z] at hk;cases hk
  obtain⟨c,hc⟩:=I.ok.has x (.inl hk)
  obtain⟨w',z⟩:=I.cell x c hc
  refine wpAny_storeName_cell I.ok.kind hk hc z (fun h' hc' hs=>?_)
  obtain⟨oc,hoc,hocd⟩:=id z
  refine h {s with heap:=h'} ⟨I.ok,I.os,I.bare,⟨fun b o e n hb hx=>?_,fun b o e n hb hx=>?_,I.base.free,fun b o e hx=>?_,I.base.tups,I.base.frzs,I.base.tbls⟩,⟨m,hn.sameBut hs (Ne.symm (cne x c hc)),fun j y v' e1 e2 e3=>?_⟩,fun y c' e=>?_,I.free,I.freeC,fun p hp=>?_,tracked ⟨oc,hoc,I.freeC x c hc⟩ hs,by simpa using I.len⟩ ⟨c,hs,.inr hc⟩
  ·exact(hs.2 b (Nat.ne_of_lt (Nat.lt_of_lt_of_le (Heap.lt_size e) (I.ok.cab x c hfn hc)))).trans (I.base.keep b o e n hb hx)
  ·obtain⟨sl,e1⟩:=I.base.slot b o e n hb hx
   exact⟨sl,(hs.2 b (Nat.ne_of_lt (Nat.lt_of_lt_of_le (Heap.lt_size e) (I.ok.cab x c hfn hc)))).trans e1⟩
  ·obtain⟨o',e1⟩:=I.base.there b o e hx
   exact⟨o',(hs.2 b (Nat.ne_of_lt (Nat.lt_of_lt_of_le (Heap.lt_size e) (I.ok.cab x c hfn hc)))).trans e1⟩
  ·by_cases hj:j=i
   ·subst hj
    rw[hi] at e1;cases e1
    rw[List.getElem?_set_self hiσ] at e2
    cases e2
    exact⟨u,r,.inr ⟨.inl hk,c,hc,hc'⟩⟩
   ·rw[List.getElem?_set_ne (Ne.symm hj)] at e2
    obtain⟨u',r',q⟩:=hl j y v' e1 e2 e3
    refine⟨u',r',?_⟩
    rcases q with q|⟨k,c',e,z'⟩
    ·exact .inl q
    ·refine .inr ⟨k,c',e,z'.sameBut hs ?_⟩
     rintro rfl
     exact hj (mL hN e1 (I.ok.inj _ _ _ e hc▸hi))
  ·by_cases hcc:c'=c
   ·subst hcc;exact⟨_,hc'⟩
   ·obtain⟨w2,z2⟩:=I.cell y c' e
    exact⟨w2,z2.sameBut hs hcc⟩
  ·obtain⟨e,n,ne,nf,d⟩:=I.pin p hp
   refine⟨(hs.2 p.1 ?_).trans e,n,ne,nf,d⟩
   intro q
   rw[q,hoc] at e
   have q':oc=p.2:=Option.some.inj e
   exact d w' (by rw[←q'];exact hocd)
theorem gB {M:Model} {A:Around} {E:Value→Shared→Prop} {i:Nat} {x:Str} {v:V} {u:Value} {Q:Unit→Shared→Prop} (I:Inv X pins σ H s) (hN:X.N.Nodup) (hi:X.N[i]?=some x) (hx:Loc X.env.scope x) (r:RelV v u)
  (h: ∀ s',Inv X pins (σ.set i (some v)) H s'→Q () s') (hf:X.fn x=true∨X.env.scope.names.lookup x=some .local:=by first|exact .inl rfl|exact .inr rfl|assumption):wpAny M A (storeName X.env x u) Q E s:=
 kA I hN hi hx r (fun s' I' _=>h s' I') hf
theorem Inv.call' {s':Shared} {ch:List Addr} (I:Inv X pins σ H s) (ho:s'.os=s.os) (u:Un (frs X.stack) ch H H' s.heap s'.heap) (hok:HOk X.prog X.w H' s'.heap) (hg:AllBare s'.gens)
  (hch: ∀ b∈ch,(b∈X.ex∨X.s₀.heap.objs.size≤b)∧b≠X.env.locals∧(∀ x c,X.env.cells.lookup x=some c→c≠b)∧∀ p∈X.pn++pins,p.1≠b):Inv X pins σ H' s':=by
 obtain⟨h',g',d',t',o'⟩:=s'
 have e:o'=s.os:=ho
 subst e
 exact I.call (g':=g') (t':=t') (d':=d') u hok hg hch
end
noncomputable abbrev XK:=Value→Option Addr→Hp→Prop
noncomputable abbrev St:=List (Option V)
noncomputable abbrev VK:=V→Hp→Prop
noncomputable abbrev TE:=St→Hp→VK→Prop
noncomputable abbrev TT:=St→Hp→(Bool→Hp→Prop)→Prop
noncomputable abbrev TA:=St→Hp→(List V→Hp→Prop)→Prop
set_option genInjectivity false in
structure Ends where
 nx:St→Hp→Prop
 rt:VK
 bk:St→Hp→Prop:=fun _ _=>False
 ct:St→Hp→Prop:=fun _ _=>False
noncomputable abbrev TS:=Ends→St→Hp→Prop
noncomputable def EP (X:Cx) (pins:List (Addr×Obj)) (σ:St) (Q:VK) (u:Value) (s':Shared):Prop:= ∃ v H',Inv X pins σ H' s'∧RelV v u∧Q v H'
noncomputable def TP (X:Cx) (pins:List (Addr×Obj)) (σ:St) (Q:Bool→Hp→Prop) (b:Bool) (s':Shared):Prop:= ∃ H',Inv X pins σ H' s'∧Q b H'
noncomputable def AP (X:Cx) (pins:List (Addr×Obj)) (σ:St) (Q:List V→Hp→Prop) (us:List Value) (s':Shared):Prop:= ∃ vs H',Inv X pins σ H' s'∧Vals vs us∧Q vs H'
noncomputable def SP (X:Cx) (pins:List (Addr×Obj)) (D:Ends) (f:Flow) (s':Shared):Prop:=
 match f with
 | .next=> ∃ σ' H',Inv X pins σ' H' s'∧D.nx σ' H'
 | .brk=> ∃ σ' H',Inv X pins σ' H' s'∧D.bk σ' H'
 | .cont=> ∃ σ' H',Inv X pins σ' H' s'∧D.ct σ' H'
 | .ret u=> ∃ v σ' H',Inv X pins σ' H' s'∧RelV v u∧D.rt v H'
noncomputable def PE (X:Cx) (e:Expr) (t:TE):Prop:=
 ∀ (pins:List (Addr×Obj)) (s:Shared) (σ:St) (H:Hp) (Q:VK),Inv X pins σ H s→t σ H Q→wpAny (model X.prog X.w) X.A (eval e X.env) (EP X pins σ Q) X.xe s
noncomputable def PT (X:Cx) (e:Expr) (t:TT):Prop:=
 ∀ (pins:List (Addr×Obj)) (s:Shared) (σ:St) (H:Hp) (Q:Bool→Hp→Prop),Inv X pins σ H s→t σ H Q→wpAny (model X.prog X.w) X.A (isTrue e X.env (eval e X.env)) (TP X pins σ Q) X.xe s
noncomputable def PW (X:Cx) (e:Expr) (t:TT):Prop:=
 ∀ (whole:Sem Value) (pins:List (Addr×Obj)) (s:Shared) (σ:St) (H:Hp) (Q:Bool→Hp→Prop),Inv X pins σ H s→t σ H Q→wpAny (model X.prog X.w) X.A (isTrue e X.env whole) (TP X pins σ Q) X.xe s
theorem PW.pt {X:Cx} {e:Expr} {t:TT} (h:PW X e t):PT X e t:=h _
noncomputable def PA (X:Cx) (es:List Expr) (t:TA):Prop:=
 ∀ (pos:Pos) (pins:List (Addr×Obj)) (s:Shared) (σ:St) (H:Hp) (Q:List V→Hp→Prop),Inv X pins σ H s→t σ H Q→wpAny (model X.prog X.w) X.A (spliced (backTo pos (starEach es X.env))) (AP X pins σ Q) X.xe s
noncomputable def PS (X:Cx) (st:Stmt) (t:TS):Prop:=
 ∀ (pins:List (Addr×Obj)) (s:Shared) (σ:St) (H:Hp) (D:Ends),Inv X pins σ H s→t D σ H→wpAny (model X.prog X.w) X.A (exec st X.env) (SP X pins D) X.xe s
noncomputable def PSs (X:Cx) (st:List Stmt) (t:TS):Prop:=
 ∀ (pins:List (Addr×Obj)) (s:Shared) (σ:St) (H:Hp) (D:Ends),Inv X pins σ H s→t D σ H→wpAny (model X.prog X.w) X.A (execs st X.env) (SP X pins D) X.xe s
theorem thn {α:Type} {t:Sem α} {Q Q':α→Shared→Prop} {M:Model} {A:Around} {E:Value→Shared→Prop} {s:Shared} (h:wpAny M A t Q E s) (hQ: ∀ a s,Q a s→Q' a s):wpAny M A t Q' E s:=wpAny_mono h hQ fun _ _ x=>x
end L2
namespace L2
open PySem PySem.Spec PyProof.Rows
section
variable {X:Cx}
noncomputable def fB (i:Nat):TE:=fun σ H Q=> ∃ v,σ[i]?=some (some v)∧Q v H
noncomputable def tC (v:V):TE:=fun _ H Q=>Q v H
theorem qR {i:Nat} {x:Str} {pos:Pos} (hN:X.N[i]?=some x) (hv:Vis X.env.scope x) (hd:(x==("__debug__":Str))=false:=by decide) (hcd:(x==("__classdict__":Str))=false:=by decide):PE X (.Name x pos) (fB i):=by
 intro pins s σ H Q I h
 obtain⟨v,e,h⟩:=h
 obtain⟨m,hn,hl⟩:=I.loc
 obtain⟨u,r,l⟩:=hl i x v hN e hv
 have fin:EP X pins σ Q u s:=⟨v,H,I,r,h⟩
 rcases l with⟨hk,hm⟩|⟨hk,c,hc,hcell⟩
 ·exact wpAny_Name (wpAny_loadName_local I.ok.kind hk hn hm fin) hd
 ·rcases hk with hk|hk
  ·exact wpAny_Name (wpAny_loadName_cell I.ok.kind hk hc hcell fin) hd
  ·exact wpAny_Name (wpAny_loadName_free I.ok.kind hk hc hcell fin hcd) hd
theorem aR {i j pos}:PE X (.Constant (.int i) j pos) (tC (.int i)):=fun _ _ _ H _ I h=>wpAny_Constant_int ⟨.int i,H,I.tok _,⟨_,rfl⟩,h⟩
theorem yi {b j pos}:PE X (.Constant (.bool b) j pos) (tC (.bl b)):=fun _ _ _ H _ I h=>Constant_bool ⟨.bl b,H,I,rfl,h⟩
theorem wR {j pos}:PE X (.Constant .none j pos) (tC .non):=fun _ _ _ H _ I h=>Constant_none ⟨.non,H,I,rfl,h⟩
theorem wO {x j pos}:PE X (.Constant (.str x) j pos) (tC (.str x)):=fun _ _ _ H _ I h=>Calls.Constant_str ⟨.str x,H,I.tok _,⟨_,rfl⟩,h⟩
noncomputable def Gl (X:Cx) (x:Str):Prop:=X.env.kindOf x=some .globalImplicit
theorem vD {E:Value→Shared→Prop} {pins:List (Addr×Obj)} {s:Shared} {σ:St} {H:Hp} {x:Str} {u:Value} {pos:Pos} {Q:Value→Shared→Prop} (I:Inv X pins σ H s) (hg:Gl X x) (hm:X.mg x=some u) (h:Q u s)
  (hd:(x==("__debug__":Str))=false:=by decide):wpAny (model X.prog X.w) X.A (eval (.Name x pos) X.env) Q E s:=
 Calls.Name_function_global I.ok.kind hg (Calls.loadGlobal_global (by rw[I.ok.glob];exact I.mod.glob.keeps I.bk) hm h) hd
theorem fh {E:Value→Shared→Prop} {pins:List (Addr×Obj)} {s:Shared} {σ:St} {H:Hp} {x:Str} {u:Value} {pos:Pos} {Q:Value→Shared→Prop} (I:Inv X pins σ H s) (hg:Gl X x) (hm:X.mg x=none) (hv:bootBuiltins x=some u) (h:Q u s)
  (hn:x≠"__name__":=by decide) (hd:(x==("__debug__":Str))=false:=by decide):wpAny (model X.prog X.w) X.A (eval (.Name x pos) X.env) Q E s:=by
 obtain⟨mb,h1,h2⟩:=I.mod.blt
 exact Calls.Name_function_global I.ok.kind hg (Calls.loadGlobal_builtin (by rw[I.ok.glob];exact I.mod.glob.keeps I.bk) hm (by rw[I.ok.blt];exact h1.keeps I.bk) ((h2 x hn).trans hv) h) hd
variable {a b:Expr} {ta tb:TE} {pos:Pos}
noncomputable def PC (X:Cx) (op:CmpOp) (a b:Expr) (t:TE):Prop:=
 ∀ (pins:List (Addr×Obj)) (s:Shared) (σ:St) (H:Hp) (Q:VK),Inv X pins σ H s→t σ H Q→
  wpAny (model X.prog X.w) X.A (eval a X.env) (fun v s₁=>wpAny (model X.prog X.w) X.A (eval b X.env) (fun u s₂=>wpAny (model X.prog X.w) X.A (compareOp op v u) (EP X pins σ Q) X.xe s₂) X.xe s₁) X.xe s
theorem mM (b:Expr) {op:CmpOp} (h:op≠.In) (h2:op≠.NotIn):behindInMarks op b=false:=by
 have e1:(op==CmpOp.In)=false:=by cases op<;>first|rfl|exact absurd rfl h
 have e2:(op==CmpOp.NotIn)=false:=by cases op<;>first|rfl|exact absurd rfl h2
 cases b<;>simp[behindInMarks,e1,e2]
noncomputable def tB (t:TE):TT:=fun σ H Q=>t σ H fun x H1=> ∃ c,x= .bl c∧Q c H1
theorem wU {op:CmpOp} {t:TE} (h:PC X op a b t) (h1:behindInMarks op b=false:=by first|exact mM _ (by decide) (by decide)|rfl):PE X (.Compare a [op] [b] pos) t:=fun pins s σ H Q I hw=>wpAny_Compare1 (h pins s σ H Q I hw) h1
theorem wK {op:CmpOp} {t:TE} (h:PC X op a b t) (h1:behindInMarks op b=false:=by first|exact mM _ (by decide) (by decide)|rfl):PT X (.Compare a [op] [b] pos) (tB t):=by
 intro pins s σ H Q I hw
 refine wpAny_isTrue_Compare1 (thn (h pins s σ H _ I hw) fun v s1 h1=>thn h1 fun u s2 h2=>thn h2 fun c s3 ⟨x,H1,I1,r1,q1⟩=>?_) h1
 obtain⟨d,rfl,q⟩:=q1
 cases r1
 exact wpAny_truthy_bool ⟨H1,I1,q⟩
theorem wI {e:Expr} {t:TE} (h:PE X e t) (he: ∀ whole,isTrue e X.env whole=(do let v ←whole;standAt e.pos;holding [v] (truthy v)):=by intro _;rfl):PT X e (tB t):=by
 intro pins s σ H Q I hw
 refine isTrue_plain (thn (h pins s σ H _ I hw) fun v s1 ⟨x,H1,I1,r1,q1⟩=>?_) (he _)
 obtain⟨d,rfl,q⟩:=q1
 cases r1
 exact wpAny_truthy_bool ⟨H1,I1,q⟩
variable {tA tB':TT} {rest:List Expr}
noncomputable def yC (t u:TT):TT:=fun σ H Q=>t σ H fun c H1=>if c=true then u σ H1 Q else Q false H1
noncomputable def tOr (t u:TT):TT:=fun σ H Q=>t σ H fun c H1=>if c=true then Q true H1 else u σ H1 Q
noncomputable def yA (t:TT):TT:=fun σ H Q=>t σ H fun c H1=>Q (!c) H1
theorem oK (ha:PT X a tA):PW X (.BoolOp .And [a] pos) tA:=by
 intro wh pins s σ H Q I h
 refine isTrue_and (thn (ha pins s σ H Q I h) fun c s1 e=>?_)
 cases c with
 |true=>exact isTrue_and_nil e
 |false=>exact e
theorem wH (ha:PT X a tA):PW X (.BoolOp .Or [a] pos) tA:=by
 intro wh pins s σ H Q I h
 refine isTrue_or (thn (ha pins s σ H Q I h) fun c s1 e=>?_)
 cases c with
 |false=>exact isTrue_or_nil e
 |true=>exact e
theorem qK (ha:PT X a tA) (hb:PW X (.BoolOp .And (b::rest) pos) tB'):PW X (.BoolOp .And (a::b::rest) pos) (yC tA tB'):=by
 intro wh pins s σ H Q I h
 refine isTrue_and (thn (ha pins s σ H _ I h) fun c s1 ⟨H1,I1,q1⟩=>?_)
 cases c with
 |true=>exact hb wh pins s1 σ H1 Q I1 q1
 |false=>exact⟨H1,I1,q1⟩
theorem yd (ha:PT X a tA) (hb:PW X (.BoolOp .Or (b::rest) pos) tB'):PW X (.BoolOp .Or (a::b::rest) pos) (tOr tA tB'):=by
 intro wh pins s σ H Q I h
 refine isTrue_or (thn (ha pins s σ H _ I h) fun c s1 ⟨H1,I1,q1⟩=>?_)
 cases c with
 |true=>exact⟨H1,I1,q1⟩
 |false=>exact hb wh pins s1 σ H1 Q I1 q1
theorem wJ (ha:PT X a tA):PT X (.UnaryOp .Not a pos) (yA tA):=by
 intro pins s σ H Q I h
 exact isTrue_not (ha pins s σ H (fun c H1=>Q (!c) H1) I h)
noncomputable def ya (ta tb:TE):TE:=fun σ H Q=>ta σ H fun x H1=> ∃ c,x= .bl c∧if c=true then tb σ H1 Q else Q (.bl false) H1
theorem wQ {op} {t:TE} (h:PE X a t):PE X (.BoolOp op [a] pos) t:=fun pins s σ H Q I hw=>BoolOp_one (h pins s σ H Q I hw)
theorem wV (ha:PE X a ta) (hb:PE X (.BoolOp .And (b::rest) pos) tb):PE X (.BoolOp .And (a::b::rest) pos) (ya ta tb):=by
 intro pins s σ H Q I h
 refine BoolOp_and (thn (ha pins s σ H _ I h) fun v s1 ⟨x,H1,I1,r1,q1⟩=>?_)
 obtain⟨c,rfl,q1⟩:=q1
 cases r1
 refine wpAny_truthy_bool ?_
 cases c with
 |true=>exact hb pins s1 σ H1 Q I1 q1
 |false=>exact⟨.bl false,H1,I1,rfl,q1⟩
noncomputable def tIf (t:TT) (ta tb:TE):TE:=fun σ H Q=>t σ H fun c H1=>if c=true then ta σ H1 Q else tb σ H1 Q
theorem sP {c:Expr} (hc:PT X c tA) (ha:PE X a ta) (hb:PE X b tb):PE X (.IfExp c a b pos) (tIf tA ta tb):=by
 intro pins s σ H Q I h
 refine wpAny_IfExp (thn (hc pins s σ H _ I h) fun d s1 ⟨H1,I1,q1⟩=>?_)
 cases d with
 |true=>exact ha pins s1 σ H1 Q I1 q1
 |false=>exact hb pins s1 σ H1 Q I1 q1
end
end L2
namespace L2
open PySem PySem.Spec PyProof.Rows
noncomputable def SqL (K:PySem.W.Frag) (H:Hp) (a:Addr) (xs:List V):Prop:=
 Rd H a (.lst xs)∨
  ∃ (o:Obj) (its:Array Value) (n:Nat),K.lookup a=some o∧o.cls= .type "list"∧o.dict=none∧o.data= .seq its n∧its.size≤sizeLine∧Vals xs its.toList
noncomputable def SqT (K:PySem.W.Frag) (H:Hp) (a:Addr) (xs:List V):Prop:=
 Rd H a (.tup xs)∨
  ∃ (o:Obj) (its:Array Value) (n:Nat),K.lookup a=some o∧o.cls= .type "tuple"∧o.data= .seq its n∧its.size≤sizeLine∧Vals xs its.toList
noncomputable def yK:Value→Option V
 | .none=>some .non
 | .bool b=>some (.bl b)
 | .int i _=>some (.int i)
 | .str x _=>some (.str x)
 | .bytes b _=>some (.byt b)
 | .float b _=>some (.flt b)
 | .ref a=>some (.ref a)
 | .type n=>some (.ty n)
 |_=>none
theorem RelV.abs {x:V} {u:Value} (r:RelV x u):yK u=some x:=by
 cases x with
 |non=>cases r;rfl
 |bl _=>cases r;rfl
 |int _=>obtain⟨t,rfl⟩:=r;rfl
 |str _=>obtain⟨t,rfl⟩:=r;rfl
 |byt _=>obtain⟨t,rfl⟩:=r;rfl
 |flt _=>obtain⟨t,rfl⟩:=r;rfl
 |ref _=>cases r;rfl
 |ty _=>cases r;rfl
theorem RelV.inj {x y:V} {u:Value} (r:RelV x u) (q:RelV y u):x=y:=Option.some.inj (r.abs.symm.trans q.abs)
theorem Vals.inj: ∀ {xs ys:List V} {us:List Value},Vals xs us→Vals ys us→xs=ys
 |_,_,_,.nil,.nil=>rfl
 |_,_,_,.cons r t,.cons r' t'=>by rw[r.inj r',Vals.inj t t']
section
variable {X:Cx} {pins:List (Addr×Obj)} {σ:St} {H:Hp} {s:Shared} {a:Addr} {xs ys:List V}
theorem SqL.of {K:PySem.W.Frag} (h:H a=some (.lst xs)):SqL K H a xs:=.inl (.inl h)
theorem SqT.of {K:PySem.W.Frag} (h:H a=some (.tup xs)):SqT K H a xs:=.inl (.inl h)
theorem Inv.list (I:Inv X pins σ H s) (h:SqL X.K H a xs): ∃ its:List Value,Vals xs its∧PlainL s.heap a its.toArray∧xs.length≤sizeLine:=by
 rcases h with h|⟨o,its,n,hk,hc,hd,hs,hz,r⟩
 ·obtain⟨z,its,n,r,e⟩:=h.ok I.hok
  exact⟨its,r,⟨_,n,e,rfl,rfl,rfl⟩,z⟩
 ·refine⟨its.toList,r,⟨o,n,I.kIn a o hk,hc,hd,by simpa using hs⟩,?_⟩
  have e:=r.length
  simp only[Array.length_toList] at e
  lia
theorem Inv.tuple (I:Inv X pins σ H s) (h:SqT X.K H a xs): ∃ its:List Value,Vals xs its∧IsTup s.heap a its.toArray∧xs.length≤sizeLine:=by
 rcases h with h|⟨o,its,n,hk,hc,hs,hz,r⟩
 ·obtain⟨z,its,r,p⟩:=h.ok I.hok
  exact⟨its,r,p,z⟩
 ·refine⟨its.toList,r,⟨o,I.kIn a o hk,hc,n,by simpa using hs⟩,?_⟩
  have e:=r.length
  simp only[Array.length_toList] at e
  lia
theorem Inv.list_inj (I:Inv X pins σ H s) (h:SqL X.K H a xs) (h':SqL X.K H a ys):xs=ys:=by
 obtain⟨its,r,⟨o,n,e,_,_,d⟩,_⟩:=I.list h
 obtain⟨its',r',⟨o',n',e',_,_,d'⟩,_⟩:=I.list h'
 rw[e] at e';cases e'
 rw[d] at d'
 injection d' with d1 _
 have:its=its':=by simpa using congrArg Array.toList d1
 subst this
 exact r.inj r'
theorem Inv.tuple_inj (I:Inv X pins σ H s) (h:SqT X.K H a xs) (h':SqT X.K H a ys):xs=ys:=by
 obtain⟨its,r,⟨o,e,_,n,d⟩,_⟩:=I.tuple h
 obtain⟨its',r',⟨o',e',_,n',d'⟩,_⟩:=I.tuple h'
 rw[e] at e';cases e'
 rw[d] at d'
 injection d' with d1 _
 have:its=its':=by simpa using congrArg Array.toList d1
 subst this
 exact r.inj r'
end
noncomputable abbrev Cx.wish (X:Cx) (E:Value→Shared→Prop):Cx:={X with xe:=E}
noncomputable abbrev Cx.nox (X:Cx):Cx:=X.wish fun _ _=>False
theorem Cx.Ok.wish {X:Cx} (ok:X.Ok) (E:Value→Shared→Prop):(X.wish E).Ok:=
 ⟨ok.mod,ok.kind,ok.glob,ok.blt,ok.above,ok.inj,ok.has,ok.cab,ok.hd,ok.frames,ok.stk,ok.exf,ok.bs,ok.bsz,ok.noex,ok.exfs,ok.funs,ok.frf⟩
theorem Cx.Ok.unwish {X:Cx} {E:Value→Shared→Prop} (ok:(X.wish E).Ok):X.Ok:=
 ⟨ok.mod,ok.kind,ok.glob,ok.blt,ok.above,ok.inj,ok.has,ok.cab,ok.hd,ok.frames,ok.stk,ok.exf,ok.bs,ok.bsz,ok.noex,ok.exfs,ok.funs,ok.frf⟩
section
variable {X:Cx} {pins:List (Addr×Obj)} {σ:St} {H:Hp} {s:Shared} {E:Value→Shared→Prop}
theorem Inv.wish (I:Inv X pins σ H s) (E:Value→Shared→Prop):Inv (X.wish E) pins σ H s:=⟨I.ok.wish E,I.os,I.bare,I.base,I.loc,I.cell,I.free,I.freeC,I.pin,I.hok,I.len⟩
theorem Inv.unwish (I:Inv (X.wish E) pins σ H s):Inv X pins σ H s:=⟨I.ok.unwish,I.os,I.bare,I.base,I.loc,I.cell,I.free,I.freeC,I.pin,I.hok,I.len⟩
theorem SP.unwish {D:Ends} {f:Flow} {s':Shared} (h:SP (X.wish E) pins D f s'):SP X pins D f s':=by
 cases f with
 |next=>obtain⟨σ',H',I,q⟩:=h;exact⟨σ',H',I.unwish,q⟩
 |brk=>obtain⟨σ',H',I,q⟩:=h;exact⟨σ',H',I.unwish,q⟩
 |cont=>obtain⟨σ',H',I,q⟩:=h;exact⟨σ',H',I.unwish,q⟩
 |ret u=>obtain⟨v,σ',H',I,r,q⟩:=h;exact⟨v,σ',H',I.unwish,r,q⟩
theorem PE.nox {e:Expr} {t:TE} (h:PE X.nox e t):PE X e t:=fun pins s σ H Q I hw=>
 wpAny_mono (h pins s σ H Q (I.wish _) hw) (fun _ _ ⟨v,H',I',r,q⟩=>⟨v,H',I'.unwish,r,q⟩) fun _ _ z=>False.elim z
theorem PSs.nox {st:List Stmt} {t:TS} (h:PSs X.nox st t):PSs X st t:=fun pins s σ H D I hw=>
 wpAny_mono (h pins s σ H D (I.wish _) hw) (fun _ _ q=>q.unwish) fun _ _ z=>False.elim z
end
section
variable {X:Cx} {st:Stmt} {rest:List Stmt} {t u:TS} {e:Expr} {te:TE} {pos:Pos}
noncomputable def xZ:TS:=fun D σ H=>D.nx σ H
noncomputable def yz (t u:TS):TS:=fun D σ H=>t {D with nx:=u D} σ H
theorem jT:PSs X [] xZ:=fun _ _ σ H _ I h=>wpAny_execs_nil ⟨σ,H,I,h⟩
theorem cM (h1:PS X st t) (h2:PSs X rest u):PSs X (st::rest) (yz t u):=by
 intro pins s σ H D I h
 refine wpAny_execs_cons (thn (h1 pins s σ H {D with nx:=u D} I h) fun f s1 q=>?_)
 cases f with
 |next=>
  obtain⟨σ',H',I',q⟩:=q
  exact h2 pins s1 σ' H' D I' q
 |ret v=>exact q
 |brk=>exact q
 |cont=>exact q
theorem eU (h1:PS X st t):PSs X [st] t:=by
 intro pins s σ H D I h
 refine wpAny_execs_cons (thn (h1 pins s σ H D I h) fun f s1 q=>?_)
 cases f with
 |next=>exact wpAny_execs_nil q
 |ret v=>exact q
 |brk=>exact q
 |cont=>exact q
theorem Inv.quiet {pins:List (Addr×Obj)} {σ:St} {H:Hp} {s:Shared} (I:Inv X pins σ H s):interactive X.env=false:=by simp[interactive,I.ok.kind]
noncomputable def pG (te:TE):TS:=fun D σ H=>te σ H fun _ H1=>D.nx σ H1
theorem vb (he:PE X e te) (hs:swapsWith e none pos.line X.env=pure false:=by rfl):PS X (.Expr e pos) (pG te):=by
 intro pins s σ H D I h
 exact wpAny_Expr_any (thn (he pins s σ H _ I h) fun v s1 ⟨x,H1,I1,r1,q1⟩=>⟨σ,H1,I1,q1⟩) I.quiet hs
noncomputable def sj (te:TE):TS:=fun D σ H=>te σ H D.rt
theorem jr (he:PE X e te):PS X (.Return (some e) pos) (sj te):=by
 intro pins s σ H D I h
 exact wpAny_Return_some (thn (he pins s σ H _ I h) fun v s1 ⟨x,H1,I1,r1,q1⟩=>⟨x,σ,H1,I1,r1,q1⟩)
noncomputable def sr (c:TT) (t u:TS):TS:=fun D σ H=>c σ H fun b H1=>if b=true then t D σ H1 else u D σ H1
theorem pP {c:Expr} {a b:List Stmt} {tc:TT} (hc:PT X c tc) (ha:PSs X a t) (hb:PSs X b u):PS X (.If c a b pos) (sr tc t u):=by
 intro pins s σ H D I h
 refine wpAny_If (thn (hc pins s σ H _ I h) fun d s1 ⟨H1,I1,q1⟩=>?_)
 cases d with
 |true=>exact ha pins s1 σ H1 D I1 q1
 |false=>exact hb pins s1 σ H1 D I1 q1
end
noncomputable abbrev TG:=V→St→Hp→(St→Hp→Prop)→Prop
noncomputable abbrev TGs:=List V→St→Hp→(St→Hp→Prop)→Prop
noncomputable def PG (X:Cx) (target:Expr) (t:TG):Prop:=
 ∀ (pins:List (Addr×Obj)) (s:Shared) (σ:St) (H:Hp) (v:V) (u:Value) (Q:St→Hp→Prop),Inv X pins σ H s→RelV v u→t v σ H Q→
  wpAny (model X.prog X.w) X.A (assign target X.env u) (fun _ s'=> ∃ σ' H',Inv X pins σ' H' s'∧Q σ' H') X.xe s
noncomputable def PGs (X:Cx) (ts:List Expr) (t:TGs):Prop:=
 ∀ (pins:List (Addr×Obj)) (s:Shared) (σ:St) (H:Hp) (vs:List V) (us:List Value) (Q:St→Hp→Prop),Inv X pins σ H s→Vals vs us→t vs σ H Q→
  wpAny (model X.prog X.w) X.A (assignInOrder ((assignEach ts X.env).map (·.2)) us) (fun _ s'=> ∃ σ' H',Inv X pins σ' H' s'∧Q σ' H') X.xe s
noncomputable abbrev qp:=V→V→V→Hp→(Hp→Prop)→Prop
noncomputable def ue (X:Cx) (t:qp):Prop:=
 ∀ (pins:List (Addr×Obj)) (s:Shared) (σ:St) (H:Hp) (o i v:V) (ov iv u:Value) (Q:Hp→Prop),Inv X pins σ H s→RelV o ov→RelV i iv→RelV v u→t o i v H Q→
  wpAny (model X.prog X.w) X.A (setItem ov iv u) (fun _ s'=> ∃ H',Inv X pins σ H' s'∧Q H') X.xe s
section
variable {X:Cx} {pos:Pos}
noncomputable def cP (i:Nat):TG:=fun v σ H Q=>Q (σ.set i (some v)) H
theorem iE {i:Nat} {x:Str} (hN:X.N.Nodup) (hi:X.N[i]?=some x) (hx:Loc X.env.scope x) (hf:X.fn x=true∨X.env.scope.names.lookup x=some .local:=by first|exact .inl rfl|exact .inr rfl|assumption):PG X (.Name x pos) (cP i):=by
 intro pins s σ H v u Q I r h
 exact wpAny_assign_Name (gB I hN hi hx r (fun s' I'=>⟨_,H,I',h⟩) hf)
noncomputable def tT:TGs:=fun vs σ H Q=>vs=[]∧Q σ H
noncomputable def qf (t:TG) (u:TGs):TGs:=fun vs σ H Q=> ∃ v r,vs=v::r∧t v σ H fun σ' H'=>u r σ' H' Q
theorem oM:PGs X [] tT:=by
 intro pins s σ H vs us Q I r h
 obtain⟨e,h⟩:=h
 subst e
 cases r
 exact assignInOrder_nil ⟨σ,H,I,h⟩
theorem iZ {e:Expr} {es:List Expr} {t:TG} {u:TGs} (h1:PG X e t) (h2:PGs X es u)
  (hs:(assignEach (e::es) X.env).map (·.2)=assign e X.env::(assignEach es X.env).map (·.2):=by rfl):PGs X (e::es) (qf t u):=by
 intro pins s σ H vs us Q I r h
 obtain⟨v,vr,e1,h⟩:=h
 subst e1
 cases r with
 |cons r rr=>
  rw[hs]
  refine assignInOrder_cons (thn (h1 pins s σ H _ _ _ I r h) fun _ s1 ⟨σ1,H1,I1,q1⟩=>?_)
  exact h2 pins s1 σ1 H1 _ _ Q I1 rr q1
noncomputable def kh (K:PySem.W.Frag) (n:Nat) (t:TGs):TG:=fun v σ H Q=> ∃ a xs,v= .ref a∧SqT K H a xs∧xs.length=n∧t xs σ H Q
theorem qQ {es:List Expr} {k:Nat} {t:TGs} {n:Nat} (hc:X.calm=true) (h:PGs X es t)
  (hn:(assignEach es X.env).length=n:=by rfl) (hst:(assignEach es X.env).findIdx? (·.1)=none:=by rfl):PG X (.Tuple es k pos) (kh X.K n t):=by
 intro pins s σ H v u Q I r hw
 obtain⟨a,xs,e1,hq,hl,hw⟩:=hw
 subst e1
 cases r
 obtain⟨its,rv,ht,hz⟩:=I.tuple hq
 refine assign_Tuple_tuple (I.ok.hd hc) ht (by simp[hn,←hl,rv.length]) hst fun h' hx=>?_
 have I1:Inv X pins σ H {s with heap:=h'}:=I.kept (t':=s.toks) fun b o e=>hx b o (Nat.ne_of_lt (Heap.lt_size e)) e
 exact h pins _ σ H xs _ Q I1 (by simpa using rv) hw
noncomputable def qe (to ti:TE) (t:qp):TG:=fun v σ H Q=>to σ H fun o H1=>ti σ H1 fun i H2=>t o i v H2 fun H3=>Q σ H3
theorem mn {o i:Expr} {to ti:TE} {t:qp} (ho:PE X o to) (hi:PE X i ti) (hs:ue X t)
  (ha: ∀ v,assign (.Subscript o i pos) X.env v=(do
   let ov ←holding [v] (eval o X.env)
   let iv ←holding [v,ov] (eval i X.env)
   standAt pos
   holding [v,ov,iv] (setItem ov iv v)
   release [v,ov,iv] []):=by intro _;rfl):PG X (.Subscript o i pos) (qe to ti t):=by
 intro pins s σ H v u Q I r h
 rw[ha]
 refine wpAny_bind (wpAny_holding (thn (ho pins s σ H _ I h) fun ov s1 ⟨x,H1,I1,r1,q1⟩=>?_))
 refine wpAny_bind (wpAny_holding (thn (hi pins s1 σ H1 _ I1 q1) fun iv s2 ⟨y,H2,I2,r2,q2⟩=>?_))
 refine wpAny_bind (wpAny_standAt (wpAny_bind (wpAny_holding (thn (hs pins s2 σ H2 x y v ov iv u _ I2 r1 r2 r q2) fun _ s3 ⟨H3,I3,q3⟩=>?_))))
 exact wpAny_release ⟨σ,H3,I3,q3⟩
noncomputable def dD (te:TE) (g:TG):TS:=fun D σ H=>te σ H fun x H1=>g x σ H1 D.nx
theorem mj {tg e:Expr} {te:TE} {g:TG} (he:PE X e te) (hg:PG X tg g) (hs:swapsWithSole [tg] e pos.line X.env=pure false:=by rfl) (hw:swappedStores [tg] e X.env=pure none:=by rfl)
  (h1:(assignEach [tg] X.env).map (·.2)=[assign tg X.env]:=by rfl):PS X (.Assign [tg] e pos) (dD te g):=by
 intro pins s σ H D I h
 refine wpAny_Assign_stores (thn (he pins s σ H _ I h) fun v s1 ⟨x,H1,I1,r1,q1⟩=>?_) hs hw
 rw[h1]
 exact thn (hg pins s1 σ H1 x v _ I1 r1 q1) fun _ s2 q=>q
theorem fg {i:Nat} {x:Str} {e:Expr} {te:TE} {pos':Pos} (hN:X.N.Nodup) (hi:X.N[i]?=some x) (hx:Loc X.env.scope x) (he:PE X e te) (hs:swapsWith e (some (.Name x pos')) pos.line X.env=pure false:=by rfl) (hf:X.fn x=true∨X.env.scope.names.lookup x=some .local:=by first|exact .inl rfl|exact .inr rfl|assumption):
  PS X (.Assign [.Name x pos'] e pos) (dD te (cP i)):=by
 intro pins s σ H D I h
 refine wpAny_Assign_Name (thn (he pins s σ H _ I h) fun v s1 ⟨y,H1,I1,r1,q1⟩=>?_) hs
 exact gB I1 hN hi hx r1 (fun s2 I2=>⟨_,H1,I2,q1⟩) hf
noncomputable def sk (i j:Nat) (ta:TA):TS:=fun D σ H=>ta σ H fun vs H1=> ∃ v w,vs=[v,w]∧D.nx ((σ.set i (some v)).set j (some w)) H1
theorem wL {i j:Nat} {x y:Str} {a b:Expr} {ta:TA} {px py pt:Pos} {kt k2 pt2} (hc:X.calm=true) (hN:X.N.Nodup) (hi:X.N[i]?=some x) (hj:X.N[j]?=some y) (hij:i≠j)
  (hx:X.env.scope.names.lookup x=some .local) (hy:X.env.scope.names.lookup y=some .local) (ha:PA X [a,b] ta)
  (hw:swappedStores [.Tuple [.Name x px,.Name y py] kt pt] (.Tuple [a,b] k2 pt2) X.env=pure (some [x,y]))
  (hs:swapsWithSole [.Tuple [.Name x px,.Name y py] kt pt] (.Tuple [a,b] k2 pt2) pos.line X.env=pure false:=by rfl):
  PS X (.Assign [.Tuple [.Name x px,.Name y py] kt pt] (.Tuple [a,b] k2 pt2) pos) (sk i j ta):=by
 intro pins s σ H D I h
 rw[exec_Assign_arm]
 refine wpAny_bind (wpAny_standAt ?_)
 rw[hs]
 refine wpAny_bind (wpAny_pure ?_)
 rw[if_neg (by decide)]
 refine wpAny_bind (Tuple_ (thn (ha _ pins s σ H _ I h) fun us s1 ⟨vs,H1,I1,r1,q1⟩=>?_))
 obtain⟨v,w,e1,q1⟩:=q1
 subst e1
 obtain⟨u1,u2,rfl,rv,rw'⟩: ∃ u1 u2,us=[u1,u2]∧RelV v u1∧RelV w u2:=by
  cases r1 with
  |cons p q=>
   cases q with
   |cons p' q'=>
    cases q'
    exact⟨_,_,rfl,p,p'⟩
 refine wpAny_newObj_type ?_ (by show 2≤sizeLine;decide)
 have I2:Inv X pins σ H1 {s1 with heap:=s1.heap.push {cls:=.type "tuple",data:=.seq [u1,u2].toArray}}:=I1.kept (t':=s1.toks) fun b o e=>Heap.get?_push_of_some _ e
 rw[hw]
 refine wpAny_bind (wpAny_pure ?_)
 show wpAny (model X.prog X.w) X.A (do rule "assign.swapped-stores";let items ←unpackItems (.ref s1.heap.objs.size) 2 none;assignInOrder [fun v=>bindName X.env y v,fun v=>bindName X.env x v] items.reverse;pure Flow.next) _ _ _
 refine wpAny_bind (wpAny_rule (wpAny_bind (unpackItems_tuple (items:= #[u1,u2]) (I.ok.hd hc) (IsTup.new s1.heap _) fun h' hx'=>?_)))
 have I3:=I2.kept (h':=h') (t':=s1.toks) fun b o e=>hx' b o (Nat.ne_of_lt (Heap.lt_size e)) e
 show wpAny _ _ (assignInOrder [fun v=>bindName X.env y v,fun v=>bindName X.env x v] [u2,u1] >>= fun _=>pure Flow.next) _ _ _
 refine wpAny_bind (assignInOrder_cons (wpAny_bindName (gB I3 hN hj (.inl hy) rw' (fun s2 I4=>?_) (.inr hy))))
 refine assignInOrder_cons (wpAny_bindName (gB I4 hN hi (.inl hx) rv (fun s3 I5=>assignInOrder_nil (wpAny_pure ?_)) (.inr hx)))
 rw[List.set_comm _ _ (Ne.symm hij)] at I5
 exact⟨_,H1,I5,q1⟩
end
section
variable {X:Cx} {pos:Pos}
noncomputable def lL (c:TT) (tb:TS):TS:=fun D σ H=> ∃ W:Nat→St→Hp→Prop,(∃ m,W m σ H)∧∀ m σ H,W m σ H→
 c σ H fun b H1=>if b=true then ∃ N:St→Hp→Prop,(∀ σ' H',N σ' H'→∃ m',m' < m∧W m' σ' H')∧tb {D with nx:=N,ct:=N,bk:=D.nx} σ H1 else D.nx σ H1
theorem sJ {c:Expr} {body:List Stmt} {tc:TT} {tb:TS} (hp:PassesOwn (model X.prog X.w) X.A X.env X.xe) (hc:PT X c tc) (hb:PSs X body tb):PS X (.While c body [] pos) (lL tc tb):=by
 intro pins s σ H D I h
 obtain⟨W,⟨m0,w0⟩,turn⟩:=h
 refine wpAny_While (codeAny_whileLoop (fun n s'=> ∃ σ' H',Inv X pins σ' H' s'∧W n σ' H') ?_ m0 ⟨σ,H,I,w0⟩)
 rintro n s1 ⟨σ1,H1,I1,w1⟩
 refine wpAny_passesOwn hp (thn (hc pins s1 σ1 H1 _ I1 (turn n σ1 H1 w1)) fun b s2 ⟨H2,I2,q2⟩=>?_)
 cases b with
 |true=>
  obtain⟨N,hN,q2⟩:=q2
  rw[if_pos rfl]
  refine wpAny_passesOwn hp (thn (hb pins s2 σ1 H2 _ I2 q2) fun f s3 q3=>?_)
  cases f with
  |next=>
   obtain⟨σ3,H3,I3,n3⟩:=q3
   obtain⟨m',hm,w3⟩:=hN σ3 H3 n3
   exact⟨m',hm,σ3,H3,I3,w3⟩
  |cont=>
   obtain⟨σ3,H3,I3,n3⟩:=q3
   obtain⟨m',hm,w3⟩:=hN σ3 H3 n3
   exact⟨m',hm,σ3,H3,I3,w3⟩
  |brk=>exact q3
  |ret v=>exact q3
 |false=>
  rw[if_neg Bool.false_ne_true]
  exact wpAny_execs_nil ⟨σ1,H2,I2,q2⟩
end
set_option genInjectivity false in
structure It where
 go:Nat→Hp→Prop
 yld:Nat→Hp→V→Hp→Prop
 stop:Nat→Hp→Prop
noncomputable def cx (X:Cx) (pins:List (Addr×Obj)) (H:Hp) (b:Addr):Prop:=
 H b=none∧b≠X.env.locals∧b∉X.fs∧(b∈X.ex∨X.s₀.heap.objs.size≤b)∧(∀ x c,X.env.cells.lookup x=some c→c≠b)∧∀ p∈X.pn++pins,p.1≠b
theorem Inv.fpOk {X:Cx} {pins:List (Addr×Obj)} {σ:St} {H H':Hp} {s:Shared} {b:Addr} (I:Inv X pins σ H s) (hb:s.heap.objs.size≤b) (hn:H' b=none):cx X pins H' b:=by
 refine⟨hn,Nat.ne_of_gt (Nat.lt_of_lt_of_le I.lt hb),I.nofs hb,.inr (Nat.le_trans I.sz hb),fun x c e z=>?_,fun p hp z=>?_⟩
 ·obtain⟨v,q⟩:=I.cell x c e
  exact absurd (Nat.lt_of_lt_of_le q.lt (by rw[z];exact hb)) (Nat.lt_irrefl _)
 ·exact absurd (Nat.lt_of_lt_of_le (Heap.lt_size (I.pin p hp).1) (by rw[z];exact hb)) (Nat.lt_irrefl _)
set_option genInjectivity false in
structure Turn (P:Program) (w:World) (K:PySem.W.Frag) (tg:Expr) (J:It) (fp:List Addr) (it:Addr) (tn:Nat→Heap→Prop):Prop where
 mem:it∈fp
 obj: ∀ i h,tn i h→∀ b∈fp,∃ o,h.get? b=some o∧∀ v,o.data≠.cell v
 keep: ∀ i h h',tn i h→(∀ b∈fp,∀ o,h.get? b=some o→h'.get? b=some o)→tn i h'
 item: ∀ (X:Cx),X.prog=P→X.w=w→X.K=K→X.calm=true→∀ (i:Nat) (pins:List (Addr×Obj)) (s:Shared) (σ:St) (H:Hp) (E:Value→Shared→Prop),Inv X pins σ H s→(∀ b∈fp,cx X pins H b)→tn i s.heap→J.go i H→
  wpAny (model P w) X.A (pyNext (.ref it)) (fun r s1=> ∃ u,r=some u∧
   wpAny (model P w) X.A (letOwnedTupleGo tg (.ref it) u) (fun _ s2=> ∃ x H',Inv X pins σ H' s2∧RelV x u∧J.yld i H x H'∧tn (i+1) s2.heap∧∀ b∈fp,H' b=none) E s1) E s
 done: ∀ (X:Cx),X.prog=P→X.w=w→X.K=K→X.calm=true→∀ (i:Nat) (pins:List (Addr×Obj)) (s:Shared) (σ:St) (H:Hp) (E:Value→Shared→Prop),Inv X pins σ H s→(∀ b∈fp,cx X pins H b)→tn i s.heap→J.stop i H→
  wpAny (model P w) X.A (pyNext (.ref it)) (fun r s1=>r=none∧Inv X pins σ H s1) E s
 self: ∀ (A:Around) (i:Nat) (s:Shared) (Q:Value→Shared→Prop) (E:Value→Shared→Prop),tn i s.heap→Q (.ref it) s→wpAny (model P w) A (pyIter (.ref it)) Q E s
noncomputable abbrev TI:=St→Hp→(It→Hp→Prop)→Prop
noncomputable def PIE (X:Cx) (pins:List (Addr×Obj)) (σ:St) (tg:Expr) (R:It→Hp→Prop) (itv:Value) (s2:Shared):Prop:=
 ∃ (it:Addr) (fp:List Addr) (tn:Nat→Heap→Prop) (J:It) (H':Hp),itv= .ref it∧Inv X pins σ H' s2∧Turn X.prog X.w X.K tg J fp it tn∧tn 0 s2.heap∧(∀ b∈fp,cx X pins H' b)∧R J H'
noncomputable def PI (X:Cx) (tg iter:Expr) (wi:TI):Prop:=
 ∀ (pins:List (Addr×Obj)) (s:Shared) (σ:St) (H:Hp) (R:It→Hp→Prop),Inv X pins σ H s→wi σ H R→
  wpAny (model X.prog X.w) X.A (eval iter X.env) (fun v s1=>wpAny (model X.prog X.w) X.A (pyIter v) (PIE X pins σ tg R) X.xe s1) X.xe s
theorem iP {M : Model} {A : Around} {E : Value → Shared → Prop} {s : Shared} {tg : Expr} {it : Addr} {u : Value} {o : Obj} {n : String} {vs : Array Value} {Q : Unit → Shared → Prop} (ho : s.heap.get? it = some o) (hc : o.cls = .type n) (hd : o.data = .fields vs)
    (hn : ["enumerate", "zip", "dict_itemiterator", "dict_reverseitemiterator", "odict_iterator", "itertools.zip_longest", "itertools.pairwise"].contains n = false) (hQ : Q () s) : wpAny M A (letOwnedTupleGo tg (.ref it) u) Q E s := by
  unfold letOwnedTupleGo
  cases tg <;> first
    | exact wpAny_pure hQ
    | (cases u <;> first
        | exact wpAny_pure hQ
        | (refine wpAny_bind (wpAny_load ho ?_)
           rw [hc, hd]
           show wpAny M A (if (["enumerate", "zip", "dict_itemiterator", "dict_reverseitemiterator", "odict_iterator", "itertools.zip_longest", "itertools.pairwise"].contains n && vs[0]? == some (rawInt _)) = true then _ else _) Q E s
           rw [if_neg (by intro h; rw [hn, Bool.false_and] at h; cases h)]
           exact wpAny_pure hQ))
noncomputable def Itl (K:PySem.W.Frag) (a:Addr):It:=
 ⟨fun i H=> ∃ xs x,SqL K H a xs∧xs[i]?=some x,fun i H x H'=>H'=H∧∀ xs,SqL K H a xs→xs[i]?=some x,fun i H=> ∃ xs,SqL K H a xs∧xs.length≤i⟩
noncomputable def Itt (K:PySem.W.Frag) (a:Addr):It:=
 ⟨fun i H=> ∃ xs x,SqT K H a xs∧xs[i]?=some x,fun i H x H'=>H'=H∧∀ xs,SqT K H a xs→xs[i]?=some x,fun i H=> ∃ xs,SqT K H a xs∧xs.length≤i⟩
noncomputable def Itr (lo:Int) (n:Nat):It:=⟨fun i _=>i < n,fun i H x H'=>H'=H∧x= .int (lo+i),fun i _=>n≤i⟩
theorem qu {P:Program} {w:World} {K:PySem.W.Frag} {tg:Expr} (a it:Addr):Turn P w K tg (Itl K a) [it] it (fun i h=>h.IsListIter it a i) where
 mem:=by simp
 obj:=fun i h st b hb=>by
  have e:b=it:=by simpa using hb
  subst e
  obtain⟨o,e,c,d⟩:=st
  exact⟨o,e,fun v z=>by rw[d] at z;cases z⟩
 keep:=fun i h h' st k=>st.at fun o e=>k it (by simp) o e
 item:=by
  intro X hP hw hK hc i pins s σ H E I hf st hg
  subst hP hw hK
  obtain⟨xs,x,hq,hx⟩:=hg
  obtain⟨its,rv,p,hz⟩:=I.list hq
  obtain⟨u,hu,ru⟩:=rv.get hx
  obtain⟨f0,f1,f2,f3,f4,f5⟩:=hf it (by simp)
  refine wpAny_pyNext_list_item st p.isList (x:=u) (by simpa using hu) fun h' st' sb=>?_
  have I1:Inv X pins σ H {s with heap:=h'}:=I.turned (t':=s.toks) (fun b o hb e=>(sb.2 b hb).trans e) f0 f1 f3 f4 f5
  obtain⟨o,e,c,d⟩:=id st'
  exact⟨u,rfl,iP (s:={s with heap:=h'}) e c d (by decide) ⟨x,H,I1,ru,⟨rfl,fun ys hy=>by rw[I.list_inj hy hq];exact hx⟩,st',fun b hb=>(hf b hb).1⟩⟩
 done:=by
  intro X hP hw hK hc i pins s σ H E I hf st hg
  subst hP hw hK
  obtain⟨xs,hq,hx⟩:=hg
  obtain⟨its,rv,p,hz⟩:=I.list hq
  obtain⟨f0,f1,f2,f3,f4,f5⟩:=hf it (by simp)
  have hl:=rv.length
  exact wpAny_pyNext_list_end (I.ok.hd hc) st p.isList (by simp;lia) fun h' eb=>⟨rfl,I.turned (t':=s.toks) (fun b o hb e=>eb b o hb e) f0 f1 f3 f4 f5⟩
 self:=fun _ _ _ _ _ st h=>wpAny_pyIter_listiter st h
theorem pz {P:Program} {w:World} {K:PySem.W.Frag} {tg:Expr} (a it:Addr):Turn P w K tg (Itt K a) [it] it (fun i h=>h.IsTupleIter it a i) where
 mem:=by simp
 obj:=fun i h st b hb=>by
  have e:b=it:=by simpa using hb
  subst e
  obtain⟨o,e,c,d⟩:=st
  exact⟨o,e,fun v z=>by rw[d] at z;cases z⟩
 keep:=fun i h h' st k=>st.at fun o e=>k it (by simp) o e
 item:=by
  intro X hP hw hK hc i pins s σ H E I hf st hg
  subst hP hw hK
  obtain⟨xs,x,hq,hx⟩:=hg
  obtain⟨its,rv,p,hz⟩:=I.tuple hq
  obtain⟨u,hu,ru⟩:=rv.get hx
  obtain⟨f0,f1,f2,f3,f4,f5⟩:=hf it (by simp)
  refine wpAny_pyNext_tuple_item st (show s.heap.IsTuple a its.toArray from p) (x:=u) (by simpa using hu) fun h' st' sb=>?_
  have I1:Inv X pins σ H {s with heap:=h'}:=I.turned (t':=s.toks) (fun b o hb e=>(sb.2 b hb).trans e) f0 f1 f3 f4 f5
  obtain⟨o,e,c,d⟩:=id st'
  exact⟨u,rfl,iP (s:={s with heap:=h'}) e c d (by decide) ⟨x,H,I1,ru,⟨rfl,fun ys hy=>by rw[I.tuple_inj hy hq];exact hx⟩,st',fun b hb=>(hf b hb).1⟩⟩
 done:=by
  intro X hP hw hK hc i pins s σ H E I hf st hg
  subst hP hw hK
  obtain⟨xs,hq,hx⟩:=hg
  obtain⟨its,rv,p,hz⟩:=I.tuple hq
  obtain⟨f0,f1,f2,f3,f4,f5⟩:=hf it (by simp)
  have hl:=rv.length
  exact wpAny_pyNext_tuple_end (I.ok.hd hc) st (show s.heap.IsTuple a its.toArray from p) (by simp;lia) fun h' eb=>⟨rfl,I.turned (t':=s.toks) (fun b o hb e=>eb b o hb e) f0 f1 f3 f4 f5⟩
 self:=fun _ _ _ _ _ st h=>wpAny_pyIter_tupleiter st h
theorem pC {P:Program} {w:World} {K:PySem.W.Frag} {tg:Expr} (it:Addr) (lo:Int) (n:Nat):Turn P w K tg (Itr lo n) [it] it (fun i h=>IsRangeIter h it (lo+(i:Nat) * 1) ((n:Int) - (i:Nat)) 1) where
 mem:=by simp
 obj:=fun i h st b hb=>by
  have e:b=it:=by simpa using hb
  subst e
  exact⟨_,st,fun v z=>by
   have z':Data.fields _=Data.cell v:=z
   cases z'⟩
 keep:=fun i h h' st k=>k it (by simp) _ st
 item:=by
  intro X hP hw hK hc i pins s σ H E I hf st hg
  subst hP hw hK
  obtain⟨f0,f1,f2,f3,f4,f5⟩:=hf it (by simp)
  have W:=Walks.range (prog:=X.prog) (w:=X.w) (I.ok.hd hc) it lo 1 n
  refine W.item i s _ _ hg st fun v h' tk hv st' kk=>?_
  obtain⟨t,rfl⟩:=hv
  have I1:Inv X pins σ H {s with heap:=h',toks:=tk}:=I.turned (fun b o hb e=>kk b o (by simpa using hb) e) f0 f1 f3 f4 f5
  refine⟨_,rfl,iP (s:={s with heap:=h',toks:=tk}) (n:="range_iterator") st' rfl rfl (by decide) ⟨.int (lo+i),H,I1,⟨t,?_⟩,⟨rfl,rfl⟩,st',fun b hb=>(hf b hb).1⟩⟩
  rw[Int.mul_one]
 done:=by
  intro X hP hw hK hc i pins s σ H E I hf st hg
  subst hP hw hK
  obtain⟨f0,f1,f2,f3,f4,f5⟩:=hf it (by simp)
  exact wpAny_pyNext_range_end (I.ok.hd hc) st (by have:n≤i:=hg;lia) fun h' eb=>⟨rfl,I.turned (t':=s.toks) (fun b o hb e=>eb b o hb e) f0 f1 f3 f4 f5⟩
 self:=fun _ _ _ _ _ st h=>wpAny_pyIter_rangeiter st h
end L2
namespace L2
open PySem PySem.Spec PyProof.Rows
section
variable {X:Cx} {tg:Expr}
theorem sE {pins:List (Addr×Obj)} {σ:St} {H:Hp} {s:Shared} {R:It→Hp→Prop} {E:Value→Shared→Prop} {lo hi:Int} {t u v:Tok} {tk:Nat} (I:Inv X pins σ H s) (h1: -(2 ^ 62)≤lo) (h2:lo < 2 ^ 62) (h3: -(2 ^ 62)≤hi) (h4:hi < 2 ^ 62)
  (q:R (Itr lo (hi - lo).toNat) H):wpAny (model X.prog X.w) X.A (pyIter (.ref s.heap.objs.size)) (PIE X pins σ tg R) E {s with heap:=s.heap.push {cls:=.type "range",data:=.fields #[.int lo t,.int hi u,.int 1 v]},toks:=tk}:=by
 refine wpAny_pyIter_range (IsRange.new ..) (small_one h1 h2 h3 h4) ?_
 have I1:Inv X pins σ H {s with heap:=s.heap.push {cls:=.type "range",data:=.fields #[.int lo t,.int hi u,.int 1 v]},toks:=tk}:=I.kept fun b o e=>Heap.get?_push_of_some _ e
 refine⟨(s.heap.push {cls:=.type "range",data:=.fields #[.int lo t,.int hi u,.int 1 v]}).objs.size,[(s.heap.push {cls:=.type "range",data:=.fields #[.int lo t,.int hi u,.int 1 v]}).objs.size],_,_,H,rfl,
  I1.kept (t':=tk) fun b o e=>Heap.get?_push_of_some _ e,pC _ lo (hi - lo).toNat,?_,fun b hb=>?_,q⟩
 ·have e1:lo+((0:Nat):Int) * 1=lo:=by simp
  have e2:(((hi - lo).toNat:Nat):Int) - ((0:Nat):Int)=Builtin.Range.rangeSize lo hi 1:=by rw[rangeSize_one];split<;>lia
  show IsRangeIter _ _ (lo+((0:Nat):Int) * 1) ((((hi - lo).toNat:Nat):Int) - ((0:Nat):Int)) 1
  rw[e1,e2]
  exact Heap.get?_push_size _ rfl
 ·have e:b=(s.heap.push {cls:=.type "range",data:=.fields #[.int lo t,.int hi u,.int 1 v]}).objs.size:=by simpa using hb
  subst e
  exact I1.fpOk (Nat.le_refl _) (I1.hok.fresh (Nat.le_refl _))
noncomputable def p8 (ta:TA):TI:=fun σ H R=>ta σ H fun vs H1=> ∃ j:Int,vs=[.int j]∧-(2 ^ 62)≤j∧j < 2 ^ 62∧R (Itr 0 j.toNat) H1
theorem qP {a:Expr} {ta:TA} {p pos:Pos} (hg:Gl X "range") (hm:X.mg "range"=none) (ha:PA X [a] ta) (hs:starEach [a] X.env=[(false,eval a X.env)]:=by rfl):PI X tg (.Call (.Name "range" p) [a] [] pos) (p8 ta):=by
 intro pins s σ H R I h
 refine Call_ (fh I hg hm boot_range (PyProof.Rows.callWith_type1 (thn (ha pos pins s σ H _ I h) fun us s1 ⟨vs,H1,I1,r1,q1⟩=>?_) hs rfl))
 obtain⟨j,e,q1,q2,q⟩:=q1
 subst e
 cases r1 with
 |cons r rr=>
  cases rr
  obtain⟨t,rfl⟩:=r
  exact call_range_1 (sE I1 (by first|decide|lia) (by first|decide|lia) q1 q2 (by simpa using q))
noncomputable def jQ (wi:TI) (g:TG) (tb:TS):TS:=fun D σ H=>wi σ H fun J H1=> ∃ W:Nat→Nat→St→Hp→Prop,(∃ m,W 0 m σ H1)∧∀ i m σ H,W i m σ H→
 (J.stop i H∧D.nx σ H)∨(J.go i H∧∃ N:St→Hp→Prop,(∀ σ' H',N σ' H'→∃ m',m' < m∧W (i+1) m' σ' H')∧∀ x H',J.yld i H x H'→g x σ H' fun σ2 H2=>tb {D with nx:=N,ct:=N,bk:=D.nx} σ2 H2)
noncomputable def g9 (fp:List Addr) (h:Heap):List (Addr×Obj):=fp.filterMap fun b=>(h.get? b).map fun o=>(b,o)
theorem ft {fp:List Addr} {h:Heap} {b:Addr} {o:Obj} (hb:b∈fp) (e:h.get? b=some o):(b,o)∈g9 fp h:=List.mem_filterMap.mpr ⟨b,hb,by rw[e];rfl⟩
theorem rg {fp:List Addr} {h:Heap} {p:Addr×Obj} (hp:p∈g9 fp h):p.1∈fp∧h.get? p.1=some p.2:=by
 obtain⟨b,hb,e⟩:=List.mem_filterMap.mp hp
 cases q:h.get? b with
 |none=>rw[q] at e;cases e
 |some o=>
  rw[q] at e
  have e':(b,o)=p:=Option.some.inj e
  subst e'
  exact⟨hb,q⟩
theorem Inv.pinned {pins:List (Addr×Obj)} {σ:St} {H:Hp} {s:Shared} {fp:List Addr} (I:Inv X pins σ H s) (hf: ∀ b∈fp,cx X pins H b) (ho: ∀ b∈fp,∃ o,s.heap.get? b=some o∧∀ v,o.data≠.cell v):Inv X (pins++g9 fp s.heap) σ H s:=
 I.pins_of fun p hp=>(List.mem_append.mp hp).elim (fun z=>I.pin p (List.mem_append_right _ z)) fun z=>by
  obtain⟨hb,e⟩:=rg z
  obtain⟨f0,f1,f2,_⟩:=hf p.1 hb
  obtain⟨o,e',d⟩:=ho p.1 hb
  rw[e] at e';cases e'
  exact⟨e,f0,f1,f2,d⟩
theorem Inv.unpinned {pins pl:List (Addr×Obj)} {σ:St} {H:Hp} {s:Shared} (I:Inv X (pins++pl) σ H s):Inv X pins σ H s:=I.pins_of fun p hp=>I.pin p (List.mem_append_right _ (List.mem_append_left _ hp))
theorem jt {iter:Expr} {body:List Stmt} {wi:TI} {g:TG} {tb:TS} {pos:Pos} (hp:PassesOwn (model X.prog X.w) X.A X.env X.xe) (hc:X.calm=true) (hi:PI X tg iter wi) (hg:PG X tg g) (hb:PSs X body tb)
  (hs: ∀ x,foldedSetIterable iter X.env x=pure x:=by intro _;rfl):PS X (.For tg iter body [] pos) (jQ wi g tb):=by
 intro pins s σ H D I h
 refine wpAny_For (thn (hi pins s σ H _ I h) fun v s1 h1=>thn h1 fun itv s2 h2=>?_) hs
 obtain⟨it,fp,tn,J,H2,e,I2,T,st2,f2,W,⟨m0,w0⟩,turn⟩:=h2
 subst e
 have stat: ∀ {H':Hp},(∀ b∈fp,H' b=none)→∀ b∈fp,cx X pins H' b:=fun hn b hb=>⟨hn b hb,(f2 b hb).2⟩
 refine codeAny_forLoop_any (fun n s'=> ∃ i σ' H',Inv X pins σ' H' s'∧tn i s'.heap∧(∀ b∈fp,H' b=none)∧W i n σ' H') ?_ m0 ⟨0,σ,H2,I2,st2,fun b hb=>(f2 b hb).1,w0⟩
 rintro n s3 ⟨i,σ3,H3,I3,st3,fr3,w3⟩
 rcases turn i n σ3 H3 w3 with⟨stop,qn⟩|⟨go,N,hN,step⟩
 ·refine wpAny_passesOwn hp (thn (T.done X rfl rfl rfl hc i pins s3 σ3 H3 X.xe I3 (stat fr3) st3 stop) fun r s4 ⟨hr,I4⟩=>?_)
  subst hr
  exact wpAny_execs_nil ⟨σ3,H3,I4,qn⟩
 ·refine wpAny_passesOwn hp (thn (T.item X rfl rfl rfl hc i pins s3 σ3 H3 X.xe I3 (stat fr3) st3 go) fun r s4 ⟨u,hr,h4⟩=>?_)
  subst hr
  refine wpAny_passesOwn hp (thn h4 fun _ s5 ⟨x,H5,I5,r5,y5,st5,fr5⟩=>?_)
  have I5':=I5.pinned (stat fr5) (T.obj _ _ st5)
  refine wpAny_passesOwn hp (thn (hg _ s5 σ3 H5 x u _ I5' r5 (step x H5 y5)) fun _ s6 ⟨σ6,H6,I6,q6⟩=>?_)
  refine wpAny_passesOwn hp (thn (hb _ s6 σ6 H6 _ I6 q6) fun f s7 q7=>?_)
  have again: ∀ {σ7:St} {H7:Hp},Inv X (pins++g9 fp s5.heap) σ7 H7 s7→N σ7 H7→∃ m,m < n∧∃ i σ' H',Inv X pins σ' H' s7∧tn i s7.heap∧(∀ b∈fp,H' b=none)∧W i m σ' H':=fun {σ7 H7} I7 n7=>by
   obtain⟨m',hm,w7⟩:=hN σ7 H7 n7
   refine⟨m',hm,i+1,σ7,H7,I7.unpinned,T.keep _ _ _ st5 fun b hb o e=>(I7.pin (b,o) (List.mem_append_right _ (List.mem_append_right _ (ft hb e)))).1,fun b hb=>?_,w7⟩
   obtain⟨o,e,d⟩:=T.obj _ _ st5 b hb
   exact(I7.pin (b,o) (List.mem_append_right _ (List.mem_append_right _ (ft hb e)))).2.1
  cases f with
  |next=>obtain⟨σ7,H7,I7,n7⟩:=q7;exact again I7 n7
  |cont=>obtain⟨σ7,H7,I7,n7⟩:=q7;exact again I7 n7
  |brk=>obtain⟨σ7,H7,I7,q7⟩:=q7;exact⟨σ7,H7,I7.unpinned,q7⟩
  |ret v=>obtain⟨x7,σ7,H7,I7,r7,q7⟩:=q7;exact⟨x7,σ7,H7,I7.unpinned,r7,q7⟩
end
end L2
namespace L2
open PySem PySem.Spec PyProof.Rows
noncomputable abbrev R2:=V→V→Hp→VK→Prop
noncomputable def OpR (X:Cx) (f:Value→Value→Sem Value) (r:R2):Prop:=
 ∀ (pins:List (Addr×Obj)) (s:Shared) (σ:St) (H:Hp) (x y:V) (v u:Value) (Q:VK),Inv X pins σ H s→RelV x v→RelV y u→r x y H Q→
  wpAny (model X.prog X.w) X.A (f v u) (EP X pins σ Q) X.xe s
noncomputable def UnR (X:Cx) (f:Value→Sem Value) (r:V→Hp→VK→Prop):Prop:=
 ∀ (pins:List (Addr×Obj)) (s:Shared) (σ:St) (H:Hp) (x:V) (v:Value) (Q:VK),Inv X pins σ H s→RelV x v→r x H Q→
  wpAny (model X.prog X.w) X.A (f v) (EP X pins σ Q) X.xe s
noncomputable def dH (X:Cx) (f:Value) (r:List V→Hp→VK→Prop):Prop:=
 ∀ (pins:List (Addr×Obj)) (s:Shared) (σ:St) (H:Hp) (xs:List V) (us:List Value) (Q:VK),Inv X pins σ H s→Vals xs us→r xs H Q→
  wpAny (model X.prog X.w) X.A (call f us) (EP X pins σ Q) X.xe s
noncomputable def tOp (r:R2) (ta tb:TE):TE:=fun σ H Q=>ta σ H fun x H1=>tb σ H1 fun y H2=>r x y H2 Q
noncomputable def tUn (r:V→Hp→VK→Prop) (ta:TE):TE:=fun σ H Q=>ta σ H fun x H1=>r x H1 Q
noncomputable def rI (C:Int→Int→Prop) (g:Int→Int→V):R2:=fun x y H Q=> ∃ i j,x= .int i∧y= .int j∧C i j∧Q (g i j) H
noncomputable def rI0 (g:Int→Int→V):R2:=fun x y H Q=> ∃ i j,x= .int i∧y= .int j∧Q (g i j) H
noncomputable def rU (g:Int→V):V→Hp→VK→Prop:=fun x H Q=> ∃ i,x= .int i∧Q (g i) H
section
variable {X:Cx} {a b c:Expr} {ta tb tc:TE} {pos:Pos}
theorem ua (ha:PE X a ta) (hb:PE X b tb) {pins:List (Addr×Obj)} {s:Shared} {σ:St} {H:Hp} {R:V→V→Hp→Prop} (I:Inv X pins σ H s)
  (h:ta σ H fun x H1=>tb σ H1 fun y H2=>R x y H2) {Q:Value→Shared→Prop} {f:Value→Value→Sem Value}
  (hf: ∀ v u s2 x y H2,Inv X pins σ H2 s2→RelV x v→RelV y u→R x y H2→wpAny (model X.prog X.w) X.A (f v u) Q X.xe s2):
  wpAny (model X.prog X.w) X.A (eval a X.env) (fun v s₁=>wpAny (model X.prog X.w) X.A (eval b X.env) (fun u s₂=>wpAny (model X.prog X.w) X.A (f v u) Q X.xe s₂) X.xe s₁) X.xe s:=by
 refine thn (ha pins s σ H _ I h) fun v s1 ⟨x,H1,I1,r1,q1⟩=>?_
 refine thn (hb pins s1 σ H1 _ I1 q1) fun u s2 ⟨y,H2,I2,r2,q2⟩=>?_
 exact hf v u s2 x y H2 I2 r1 r2 q2
theorem bu {op:Operator} {r:R2} (ho:OpR X (binaryOp op) r) (ha:PE X a ta) (hb:PE X b tb):PE X (.BinOp a op b pos) (tOp r ta tb):=by
 intro pins s σ H Q I h
 exact wpAny_BinOp (ua ha hb I h fun v u s2 x y H2 I2 rx ry q=>ho pins s2 σ H2 x y v u Q I2 rx ry q)
theorem yf {op:UnaryOp} {r:V→Hp→VK→Prop} (ho:UnR X (unaryOp op) r) (ha:PE X a ta):PE X (.UnaryOp op a pos) (tUn r ta):=by
 intro pins s σ H Q I h
 exact UnaryOp_ (thn (ha pins s σ H _ I h) fun v s1 ⟨x,H1,I1,r1,q1⟩=>ho pins s1 σ H1 x v Q I1 r1 q1)
theorem opI {f:Value→Value→Sem Value} {C:Int→Int→Prop} {g:Int→Int→Int}
  (rule: ∀ (i j:Int) (t u:Tok) (s:Shared) (Q:Value→Shared→Prop) (E:Value→Shared→Prop),C i j→Q (.int (g i j) s.toks) {s with toks:=s.toks+1}→wpAny (model X.prog X.w) X.A (f (.int i t) (.int j u)) Q E s):
  OpR X f (rI C fun i j=>.int (g i j)):=by
 intro pins s σ H x y v u Q I rx ry h
 obtain⟨i,j,rfl,rfl,hc,q⟩:=h
 obtain⟨t,rfl⟩:=rx
 obtain⟨t',rfl⟩:=ry
 exact rule i j t t' s _ _ hc ⟨.int (g i j),H,I.tok _,⟨_,rfl⟩,q⟩
theorem w8 {f:Value→Value→Sem Value} {g:Int→Int→Int}
  (rule: ∀ (i j:Int) (t u:Tok) (s:Shared) (Q:Value→Shared→Prop) (E:Value→Shared→Prop),Q (.int (g i j) s.toks) {s with toks:=s.toks+1}→wpAny (model X.prog X.w) X.A (f (.int i t) (.int j u)) Q E s):
  OpR X f (rI0 fun i j=>.int (g i j)):=by
 intro pins s σ H x y v u Q I rx ry h
 obtain⟨i,j,rfl,rfl,q⟩:=h
 obtain⟨t,rfl⟩:=rx
 obtain⟨t',rfl⟩:=ry
 exact rule i j t t' s _ _ ⟨.int (g i j),H,I.tok _,⟨_,rfl⟩,q⟩
theorem pV {f:Value→Value→Sem Value} {g:Int→Int→Bool}
  (rule: ∀ (i j:Int) (t u:Tok) (s:Shared) (Q:Value→Shared→Prop) (E:Value→Shared→Prop),Q (.bool (g i j)) s→wpAny (model X.prog X.w) X.A (f (.int i t) (.int j u)) Q E s):
  OpR X f (rI0 fun i j=>.bl (g i j)):=by
 intro pins s σ H x y v u Q I rx ry h
 obtain⟨i,j,rfl,rfl,q⟩:=h
 obtain⟨t,rfl⟩:=rx
 obtain⟨t',rfl⟩:=ry
 exact rule i j t t' s _ _ ⟨.bl (g i j),H,I,rfl,q⟩
noncomputable def uh (i j:Int):Prop:=0 < j∧j < 1073741824
noncomputable def nV (i j:Int):Prop:=0≤j∧j≤1000000∧i.natAbs < 2 ^ 64
noncomputable def CMul (i j:Int):Prop:=(-(2 ^ 64) < i∧i < 2 ^ 64)∨(-(2 ^ 64) < j∧j < 2 ^ 64)
theorem CMul.ok {i j:Int} (h:CMul i j):IntMulOk i j:=by
 rcases h with⟨h1,h2⟩|⟨h1,h2⟩
 ·exact .of_left (intBits_le_64 h1 h2)
 ·exact .of_right (intBits_le_64 h1 h2)
theorem op_add:OpR X (binaryOp .Add) (rI0 fun i j=>.int (i+j)):=w8 fun _ _ _ _ _ _ _ q=>add_int q
theorem jv:OpR X (binaryOp .Sub) (rI0 fun i j=>.int (i - j)):=w8 fun _ _ _ _ _ _ _ q=>sub_int q
theorem op_mul:OpR X (binaryOp .Mult) (rI CMul fun i j=>.int (i * j)):=opI fun _ _ _ _ _ _ _ hc q=>mul_int q hc.ok
theorem j0:OpR X (binaryOp .FloorDiv) (rI uh fun i j=>.int (i / j)):=opI fun i j _ _ _ _ _ hc q=>by
 have h1:(0:Int) < j:=hc.1
 have h2:j < 1073741824:=hc.2
 exact floordiv_int (by first|decide|lia) (by rw[Int.fdiv_eq_ediv_of_nonneg i (by first|decide|lia)];exact q) (.inl (PyProof.noPylong_small (by first|decide|lia)))
theorem d8:OpR X (binaryOp .Mod) (rI (fun _ j=>0 < j) fun i j=>.int (i % j)):=opI fun i j _ _ _ _ _ hc q=>by
 have h1:(0:Int) < j:=hc
 exact mod_int' (by first|decide|lia) (by rw[Int.fmod_eq_emod_of_nonneg i (by first|decide|lia)];exact q)
theorem w6:OpR X (binaryOp .Pow) (rI nV fun i j=>.int (i ^ j.toNat)):=opI fun _ _ _ _ _ _ _ hc q=>pow_int_small hc.1 hc.2.1 hc.2.2 q
theorem unI {f:Value→Sem Value} {g:Int→Int}
  (rule: ∀ (i:Int) (t:Tok) (s:Shared) (Q:Value→Shared→Prop) (E:Value→Shared→Prop),Q (.int (g i) s.toks) {s with toks:=s.toks+1}→wpAny (model X.prog X.w) X.A (f (.int i t)) Q E s):
  UnR X f (rU fun i=>.int (g i)):=by
 intro pins s σ H x v Q I rx h
 obtain⟨i,rfl,q⟩:=h
 obtain⟨t,rfl⟩:=rx
 exact rule i t s _ _ ⟨.int (g i),H,I.tok _,⟨_,rfl⟩,q⟩
theorem gV:UnR X (unaryOp .USub) (rU fun i=>.int (-i)):=unI fun _ _ _ _ _ q=>neg_int q
end
section
variable {X:Cx} {a b c:Expr} {ta tb tc:TE} {pos:Pos}
theorem fi {pins:List (Addr×Obj)} {σ:St} {H:Hp} {s:Shared} {Q:VK} {k k':Bool} (I:Inv X pins σ H s) (q:Q (.bl k) H) (e:k=k'):EP X pins σ Q (.bool k') s:=by
 subst e
 exact⟨.bl k,H,I,rfl,q⟩
theorem eX:OpR X (compareOp .Lt) (rI0 fun i j=>.bl (decide (i < j))):=pV fun _ _ _ _ _ _ _ q=>lt_int q
theorem op_le:OpR X (compareOp .LtE) (rI0 fun i j=>.bl (decide (i≤j))):=pV fun _ _ _ _ _ _ _ q=>le_int q
theorem pT:OpR X (compareOp .Gt) (rI0 fun i j=>.bl (decide (j < i))):=pV fun _ _ _ _ _ _ _ q=>gt_int q
theorem pU:OpR X (compareOp .GtE) (rI0 fun i j=>.bl (decide (j≤i))):=pV fun _ _ _ _ _ _ _ q=>ge_int q
theorem q5:OpR X (compareOp .In) (fun x y H Q=> ∃ i j,x= .str i∧y= .str j∧Q (.bl (!(Builtin.Str.occurrences j i 0 j.length 1).isEmpty)) H):=by
 intro pins s σ H x y v u Q I rx ry h
 obtain⟨i,j,rfl,rfl,q⟩:=h
 obtain⟨t,rfl⟩:=rx
 obtain⟨t',rfl⟩:=ry
 exact in_str (fi I q rfl)
theorem fE:OpR X (compareOp .Is) (fun x y H Q=>y= .non∧Q (.bl (decide (x= .non))) H):=by
 intro pins s σ H x y v u Q I rx ry h
 obtain⟨rfl,q⟩:=h
 cases ry
 refine is_none_gen (fi I q ?_)
 cases x<;>first
  |(cases rx;rfl)
  |(obtain⟨t,rfl⟩:=rx;rfl)
theorem jZ:OpR X (compareOp .IsNot) (fun x y H Q=>y= .non∧Q (.bl (!decide (x= .non))) H):=by
 intro pins s σ H x y v u Q I rx ry h
 obtain⟨rfl,q⟩:=h
 cases ry
 refine isnot_none_gen (fi I q ?_)
 cases x<;>first
  |(cases rx;rfl)
  |(obtain⟨t,rfl⟩:=rx;rfl)
theorem OpR.or {f:Value→Value→Sem Value} {r r':R2} (h:OpR X f r) (h':OpR X f r'):OpR X f (fun x y H Q=>r x y H Q∨r' x y H Q):=by
 intro pins s σ H x y v u Q I rx ry q
 rcases q with q|q
 ·exact h pins s σ H x y v u Q I rx ry q
 ·exact h' pins s σ H x y v u Q I rx ry q
theorem aL (b:Expr) {op:CmpOp} (h:op≠.In:=by decide) (h2:op≠.NotIn:=by decide):behindInMarks op b=false:=by
 have e1:(op==CmpOp.In)=false:=by cases op<;>first|rfl|exact absurd rfl h
 have e2:(op==CmpOp.NotIn)=false:=by cases op<;>first|rfl|exact absurd rfl h2
 cases b<;>simp[behindInMarks,e1,e2]
theorem vi {op:CmpOp} {r:R2} (ho:OpR X (compareOp op) r) (ha:PE X a ta) (hb:PE X b tb) (hm:behindInMarks op b=false):PE X (.Compare a [op] [b] pos) (tOp r ta tb):=by
 intro pins s σ H Q I h
 exact wpAny_Compare1 (ua ha hb I h fun v u s2 x y H2 I2 rx ry q=>ho pins s2 σ H2 x y v u Q I2 rx ry q) hm
noncomputable def xW (t:TE):TT:=fun σ H Q=>t σ H fun x H'=> ∃ k,x= .bl k∧Q k H'
theorem iA {op:CmpOp} {r:R2} (ho:OpR X (compareOp op) r) (ha:PE X a ta) (hb:PE X b tb) (hm:behindInMarks op b=false):PT X (.Compare a [op] [b] pos) (xW (tOp r ta tb)):=by
 intro pins s σ H Q I h
 refine wpAny_isTrue_Compare1 (thn (ha pins s σ H _ I h) fun v s1 ⟨x,H1,I1,r1,q1⟩=>thn (hb pins s1 σ H1 _ I1 q1) fun u s2 ⟨y,H2,I2,r2,q2⟩=>
  thn (ho pins s2 σ H2 x y v u _ I2 r1 r2 q2) fun c s3 ⟨z,H3,I3,r3,k,e,q3⟩=>?_) hm
 subst e
 cases r3
 exact wpAny_truthy_bool ⟨H3,I3,q3⟩
noncomputable def qA (r r':R2) (ta tb tc:TE):TE:=fun σ H Q=>ta σ H fun x H1=>tb σ H1 fun y H2=>r x y H2 fun z H3=> ∃ k,z= .bl k∧
 (if k=true then tc σ H3 fun w' H4=>r' y w' H4 Q else Q (.bl false) H3)
theorem sQ {op op':CmpOp} {r r':R2} (ho:OpR X (compareOp op) r) (ho':OpR X (compareOp op') r') (ha:PE X a ta) (hb:PE X b tb) (hc:PE X c tc)
  (hm:lastMarks [op,op'] [b,c]=false:=by with_unfolding_all rfl):PE X (.Compare a [op,op'] [b,c] pos) (qA r r' ta tb tc):=by
 intro pins s σ H Q I h
 refine Compare_chain (thn (ha pins s σ H _ I h) fun v s1 ⟨x,H1,I1,r1,q1⟩=>chain_link (thn (hb pins s1 σ H1 _ I1 q1) fun u s2 ⟨y,H2,I2,r2,q2⟩=>
  thn (ho pins s2 σ H2 x y v u _ I2 r1 r2 q2) fun d s3 ⟨z,H3,I3,r3,k,e,q3⟩=>?_)) hm
 subst e
 cases r3
 refine wpAny_truthy_bool ?_
 cases k with
 |false=>exact ite_ff ⟨.bl false,H3,I3,rfl,q3⟩
 |true=>exact ite_tt (chain_last (thn (hc pins s3 σ H3 _ I3 q3) fun w' s4 ⟨z',H4,I4,r4,q4⟩=>ho' pins s4 σ H4 y z' u w' Q I4 r2 r4 q4))
theorem hZ:(sizeLine:Nat) < 2 ^ 63:=by rw[sizeLine_eq];decide
theorem op_add_str:OpR X (binaryOp .Add) (fun x y H Q=> ∃ i j,x= .str i∧y= .str j∧i.length+j.length≤sizeLine∧Q (.str (i++j)) H):=by
 intro pins s σ H x y v u Q I rx ry h
 obtain⟨i,j,rfl,rfl,hz,q⟩:=h
 obtain⟨t,rfl⟩:=rx
 obtain⟨t',rfl⟩:=ry
 exact add_str (fun t' tk=>⟨.str (i++j),H,I.tok _,⟨_,rfl⟩,q⟩) hz
theorem vals1 {x:V} {us:List Value} (r:Vals [x] us): ∃ u,us=[u]∧RelV x u:=by
 cases r with
 |cons r1 r2=>cases r2;exact⟨_,rfl,r1⟩
theorem vals2 {x y:V} {us:List Value} (r:Vals [x,y] us): ∃ u w',us=[u,w']∧RelV x u∧RelV y w':=by
 cases r with
 |cons r1 r2=>
  cases r2 with
  |cons r3 r4=>cases r4;exact⟨_,_,rfl,r1,r3⟩
theorem t9:dH X (.builtin "abs") (fun xs H Q=> ∃ i,xs=[.int i]∧Q (.int (if i < 0 then -i else i)) H):=by
 intro pins s σ H xs us Q I r h
 obtain⟨i,rfl,q⟩:=h
 obtain⟨u,rfl,t,rfl⟩:=vals1 r
 exact call_abs_int fun u tk=>⟨.int (if i < 0 then -i else i),H,I.tok _,⟨_,rfl⟩,q⟩
theorem ir (hc:X.calm=true):dH X (.builtin "max") (fun xs H Q=> ∃ i j,xs=[.int i,.int j]∧Q (.int (if j > i then j else i)) H):=by
 intro pins s σ H xs us Q I r h
 obtain⟨i,j,rfl,q⟩:=h
 obtain⟨u,w',rfl,⟨t,rfl⟩,⟨t',rfl⟩⟩:=vals2 r
 refine max_two_ints (I.ok.hd hc) fun h' tk k=>⟨_,H,I.kept k,?_,q⟩
 by_cases hj:j > i
 ·rw[if_pos hj,if_pos hj];exact⟨_,rfl⟩
 ·rw[if_neg hj,if_neg hj];exact⟨_,rfl⟩
theorem iq (hc:X.calm=true):dH X (.builtin "min") (fun xs H Q=> ∃ i j,xs=[.int i,.int j]∧Q (.int (if j < i then j else i)) H):=by
 intro pins s σ H xs us Q I r h
 obtain⟨i,j,rfl,q⟩:=h
 obtain⟨u,w',rfl,⟨t,rfl⟩,⟨t',rfl⟩⟩:=vals2 r
 refine min_two_ints (I.ok.hd hc) fun h' tk k=>⟨_,H,I.kept k,?_,q⟩
 by_cases hj:j < i
 ·rw[if_pos hj,if_pos hj];exact⟨_,rfl⟩
 ·rw[if_neg hj,if_neg hj];exact⟨_,rfl⟩
theorem kT:dH X (.type "int") (fun xs H Q=>(∃ i,xs=[.int i]∧Q (.int i) H)∨∃ k,xs=[.bl k]∧Q (.int (if k then 1 else 0)) H):=by
 intro pins s σ H xs us Q I r h
 rcases h with⟨i,rfl,q⟩|⟨k,rfl,q⟩
 ·obtain⟨u,rfl,t,rfl⟩:=vals1 r
  exact call_int_int ⟨.int i,H,I,⟨_,rfl⟩,q⟩
 ·obtain⟨u,rfl,r1⟩:=vals1 r
  cases r1
  exact call_int_bool ⟨.int (if k then 1 else 0),H,I.tok _,⟨_,rfl⟩,q⟩
noncomputable def xU (K:PySem.W.Frag) (x:V) (H:Hp) (n:Nat):Prop:=
 match x with
 | .str y=>y.length≤sizeLine∧n=y.length
 | .byt y=>y.size≤sizeLine∧n=y.size
 | .ref p=>(∃ xs,SqL K H p xs∧n=xs.length)∨∃ xs,SqT K H p xs∧n=xs.length
 |_=>False
theorem t8:dH X (.builtin "len") (fun xs H Q=> ∃ x n,xs=[x]∧xU X.K x H n∧Q (.int n) H):=by
 intro pins s σ H xs us Q I r h
 obtain⟨x,n,rfl,e,q⟩:=h
 obtain⟨u,rfl,rx⟩:=vals1 r
 have hl:=hZ
 have hs:sizeLine=16777216:=sizeLine_eq
 cases x with
 |str y=>
  obtain⟨t,rfl⟩:=rx
  obtain⟨hy,e'⟩:y.length≤sizeLine∧n=y.length:=e
  subst e'
  exact len_str (by first|decide|lia) ⟨.int _,H,I.tok _,⟨_,rfl⟩,q⟩
 |byt y=>
  obtain⟨t,rfl⟩:=rx
  obtain⟨hy,e'⟩:y.size≤sizeLine∧n=y.size:=e
  subst e'
  exact PySem.W.len_bytes (by first|decide|lia) ⟨.int _,H,I.tok _,⟨_,rfl⟩,q⟩
 |ref p=>
  cases rx
  have e':(∃ xs,SqL X.K H p xs∧n=xs.length)∨∃ xs,SqT X.K H p xs∧n=xs.length:=e
  rcases e' with⟨xs,hx,e'⟩|⟨xs,hx,e'⟩
  ·subst e'
   obtain⟨its,r',pl,hz⟩:=I.list hx
   have hlen:=r'.length
   exact Calls.call_len_list pl.isList (by simp only[List.size_toArray];lia) ⟨.int xs.length,H,I.tok _,⟨_,by simp only[List.size_toArray];rw[hlen]⟩,q⟩
  ·subst e'
   obtain⟨its,r',pl,hz⟩:=I.tuple hx
   have hlen:=r'.length
   exact len_tuple pl (by simp only[List.size_toArray];lia) ⟨.int xs.length,H,I.tok _,⟨_,by simp only[List.size_toArray];rw[hlen]⟩,q⟩
 |_=>exact(show False from e).elim
end
end L2
namespace L2
open PySem PySem.Spec PyProof.Rows
theorem RelO.some_of {v:V} {o:Option Value} (r:RelO (some v) o): ∃ u,o=some u∧RelV v u:=by
 cases o with
 |none=>exact(show False from r).elim
 |some u=>exact⟨u,rfl,r⟩
end L2
namespace L2
open PySem PySem.Spec PyProof.Rows
set_option genInjectivity false in
structure Room (k:Nat) (A:Around):Prop where
 hd:A.handled=none
 dp:A.depth+3 * k+5 < recursionLimit
 un:A.units+16 * k+200 < cLine
 gd:A.guards=some []
theorem Room.mono {j k:Nat} {A:Around} (r:Room k A) (h:j≤k):Room j A:=⟨r.hd,by have:=r.dp;lia,by have:=r.un;lia,r.gd⟩
theorem Room.deeper {k:Nat} {A:Around} (r:Room (k+1) A) (env:Env):Room k (A.deeper env):=
 ⟨r.hd,by have:=r.dp;show A.depth+1+3 * k+5 < _;lia,by have:=r.un;show A.units+3+16 * k+200 < _;lia,r.gd⟩
theorem Room.in1 {k:Nat} {A:Around} (r:Room (k+1) A):Room k A.in1:=
 ⟨r.hd,by have:=r.dp;show A.depth+3 * k+5 < _;lia,by have:=r.un;show A.units+1+16 * k+200 < _;lia,by first|exact r.gd|(simp[Around.in1,r.gd])⟩
theorem Room.depth {k:Nat} {A:Around} (r:Room k A):A.depth < recursionLimit:=by have:=r.dp;lia
theorem Room.units {k:Nat} {A:Around} (r:Room k A):A.units+64 < cLine:=by have:=r.un;lia
noncomputable def lN:TA:=fun _ H Q=>Q [] H
noncomputable def gz (ta:TE) (tr:TA):TA:=fun σ H Q=>ta σ H fun x H1=>tr σ H1 fun xs H2=>Q (x::xs) H2
section
variable {X:Cx} {e:Expr} {es:List Expr} {te:TE} {t:TA} {pos:Pos}
theorem du:PA X [] lN:=fun _ _ _ _ H Q I h=>Calls.spliced_nil ⟨[],H,I,.nil,h⟩
theorem cL (ha:PE X e te) (hr:PA X es t) (hs:starEach (e::es) X.env=(false,eval e X.env)::starEach es X.env:=by rfl):PA X (e::es) (gz te t):=by
 intro pos pins s σ H Q I h
 rw[hs]
 show wpAny _ _ (spliced ((false,eval e X.env)::backTo pos (starEach es X.env))) _ _ s
 refine Calls.spliced_cons (thn (ha pins s σ H _ I h) fun u s1 ⟨x,H1,I1,r1,q1⟩=>?_)
 exact thn (hr pos pins s1 σ H1 _ I1 q1) fun us s2 ⟨xs,H2,I2,r2,q2⟩=>⟨x::xs,H2,I2,.cons r1 r2,q2⟩
noncomputable def v8 (t:TA):TE:=fun σ H Q=>t σ H fun xs H1=>xs.length≤sizeLine∧∀ p,H1 p=none→Q (.ref p) (upd H1 p (.tup xs))
noncomputable def yB (t:TA):TE:=fun σ H Q=>t σ H fun xs H1=>xs.length≤sizeLine∧∀ p,H1 p=none→Q (.ref p) (upd H1 p (.lst xs))
theorem mq {x1} (h:PA X es t):PE X (.Tuple es x1 pos) (v8 t):=by
 intro pins s σ H Q I hq
 refine wpAny_Tuple_spliced (thn (h pos pins s σ H _ I hq) fun us s1 ⟨xs,H1,I1,r,z,q⟩=>⟨by rw[←r.length];exact z,?_⟩)
 have hf:H1 s1.heap.objs.size=none:=I1.hok.fresh (Nat.le_refl _)
 refine⟨.ref s1.heap.objs.size,upd H1 s1.heap.objs.size (.tup xs),I1.laid (t':=s1.toks) (fun b u e=>Heap.get?_push_of_some _ e) (Nat.le_refl _) ?_,rfl,q _ hf⟩
 exact⟨z,us,r,⟨_,Heap.get?_push_size _ rfl,rfl,_,rfl⟩⟩
theorem mr (h:PA X es t):PE X (.List es pos) (yB t):=by
 intro pins s σ H Q I hq
 refine wpAny_List_spliced (thn (h pos pins s σ H _ I hq) fun us s1 ⟨xs,H1,I1,r,z,q⟩=>⟨by rw[←r.length];exact z,?_⟩)
 have hf:H1 s1.heap.objs.size=none:=I1.hok.fresh (Nat.le_refl _)
 refine⟨.ref s1.heap.objs.size,upd H1 s1.heap.objs.size (.lst xs),I1.laid (t':=s1.toks) (fun b u e=>Heap.get?_push_of_some _ e) (Nat.le_refl _) ?_,rfl,q _ hf⟩
 exact⟨z,us,0,r,Heap.get?_push_size _ rfl⟩
end
noncomputable abbrev Sp:=List V→Hp→VK→XK→Prop
noncomputable abbrev CXT:=List Env→Hp→Shared→XK→Value→Shared→Prop
set_option genInjectivity false in
structure Env0 (P:Program) (w:World) (K:PySem.W.Frag) (mg:Str→Option Value) (base:Heap) (A:Around) (outer:List Env) (s:Shared) (H:Hp):Prop where
 frames:A.frames=some outer
 mod:Mod K mg base
 bs: ∀ b o,base.get? b=some o→s.heap.get? b=some o∧H b=none
 bsz:base.objs.size≤s.heap.objs.size
 funs:s.heap.FunFrames base outer
 frf: ∀ b∈frs outer,H b=none
 hok:HOk P w H s.heap
 bare:AllBare s.gens
noncomputable def CE (outer:List Env) (P:Program) (w:World) (H:Hp) (s:Shared) (Q:VK) (u:Value) (s':Shared):Prop:=
 ∃ v H',s'.os=s.os∧AllBare s'.gens∧Un (frs outer) [] H H' s.heap s'.heap∧HOk P w H' s'.heap∧RelV v u∧Q v H'
noncomputable def CR (CX:CXT) (outer:List Env) (P:Program) (w:World) (H:Hp) (s:Shared) (Q:VK) (E:XK) (r:Result) (s':Shared):Prop:=
 match r with
 | .ok (.ret u)=>CE outer P w H s Q u s'
 | .ok _=>False
 | .error e=>CX outer H s E e s'
set_option genInjectivity false in
structure FnOk (P:Program) (w:World) (K:PySem.W.Frag) (mg:Str→Option Value) (base:Heap) (CX:CXT) (k:Nat) (f:Addr) (fd:FuncData) (ps:List Str) (sp:Sp):Prop where
 len: ∀ vs H Q E,sp vs H Q E→vs.length=ps.length
 run: ∀ (A:Around) (outer:List Env) (s:Shared) (H:Hp) (args:Args) (us:List Value) (vs:List V) (Q:VK) (E:XK),Room k A→Env0 P w K mg base A outer s H→BindsTo s fd args (ps.zip us)→Vals vs us→sp vs H Q E→
  codeAny (model P w) A (.call (.ref f) args) (CR CX outer P w H s Q E) s
theorem FnOk.imp {P:Program} {w:World} {K:PySem.W.Frag} {mg:Str→Option Value} {base:Heap} {CX:CXT} {k:Nat} {f:Addr} {fd:FuncData} {ps:List Str} {sp sp':Sp} (F:FnOk P w K mg base CX k f fd ps sp)
  (h: ∀ vs H Q E,sp' vs H Q E→sp vs H Q E):FnOk P w K mg base CX k f fd ps sp':=
 ⟨fun vs H Q E q=>F.len vs H Q E (h _ _ _ _ q),fun A outer s H args us vs Q E hr he hb hv hs=>F.run A outer s H args us vs Q E hr he hb hv (h _ _ _ _ hs)⟩
section
variable {X:Cx} {pins:List (Addr×Obj)} {σ:St} {H:Hp} {s s':Shared}
theorem Inv.env0 (I:Inv X pins σ H s):Env0 X.prog X.w X.K X.mg X.base X.A X.stack s H:=
 ⟨I.ok.frames,I.ok.mod,I.bs,Nat.le_trans I.ok.bsz I.sz,I.stack,I.stkFree,I.hok,I.bare⟩
theorem Inv.after {Q:VK} {u:Value} (I:Inv X pins σ H s) (h:CE X.stack X.prog X.w H s Q u s'):EP X pins σ Q u s':=by
 obtain⟨v,H',os,bare,un,hok,r,q⟩:=h
 obtain⟨hh,g,d,t,os'⟩:=s'
 obtain rfl:os'=s.os:=os
 exact⟨v,H',I.call (h':=hh) (g':=g) (d':=d) (t':=t) (ch:=[]) un hok bare (fun b z=>absurd z (by simp)),r,q⟩
end
noncomputable def jm (sp:Sp) (dvs:List V) (E:XK) (t:TA):TE:=fun σ H Q=>t σ H fun vs H1=>sp (vs++dvs) H1 Q E
noncomputable def Binds (K:PySem.W.Frag) (fd:FuncData) (ps:List Str) (ds:List Value):Prop:=
 ∀ (s:Shared) (us:List Value),K.In s.heap→(us++ds).length=ps.length→BindsTo s fd ⟨us,[]⟩ (ps.zip (us++ds))
theorem Binds.all {K:PySem.W.Frag} {fd:FuncData} {ps:List Str} (h: ∀ us:List Value,us.length=ps.length→bindArgs fd ⟨us,[]⟩=pure (ps.zip us)):Binds K fd ps []:=fun s us _ hl=>by
 rw[List.append_nil] at hl ⊢
 exact .of_eq (h us hl)
noncomputable def Passes (CX:CXT) (X:Cx) (E:XK):Prop:= ∀ (pins:List (Addr×Obj)) (σ:St) (H:Hp) (s:Shared) (e:Value) (s':Shared),Inv X pins σ H s→CX X.stack H s E e s'→X.xe e s'
section
variable {X:Cx} {CX:CXT} {k:Nat} {f C:Addr} {fd:FuncData} {ps:List Str} {sp:Sp} {dvs:List V} {ds:List Value} {E:XK} {x m:Str} {p pos apos:Pos} {e o:Expr} {es:List Expr} {ta:TE} {t:TA}
theorem wk {pins:List (Addr×Obj)} {σ:St} {H:Hp} {s:Shared} {Q:VK} {us:List Value} {vs:List V} (F:FnOk X.prog X.w X.K X.mg X.base CX k f fd ps sp) (hr:Room k X.A) (hb:Binds X.K fd ps ds) (hd:Vals dvs ds) (hx:Passes CX X E)
  (I:Inv X pins σ H s) (r:Vals vs us) (h:sp (vs++dvs) H Q E):wpAny (model X.prog X.w) X.A (call (.ref f) us) (EP X pins σ Q) X.xe s:=by
 have r2:Vals (vs++dvs) (us++ds):=r.append hd
 have hl:(us++ds).length=ps.length:=by rw[←r2.length];exact F.len _ _ _ _ h
 refine wpAny_call (codeAny_mono (F.run X.A X.stack s H ⟨us,[]⟩ (us++ds) (vs++dvs) Q E hr I.env0 (hb s us I.kIn hl) r2 h) fun r s' hq=>?_)
 cases r with
 |error e=>exact hx pins σ H s e s' I hq
 |ok fl=>
  cases fl with
  |ret u=>exact I.after hq
  |next=>exact False.elim hq
  |brk=>exact False.elim hq
  |cont=>exact False.elim hq
theorem vj (F:FnOk X.prog X.w X.K X.mg X.base CX k f fd ps sp) (hr:Room k X.A) (hg:Gl X x) (hm:X.mg x=some (.ref f)) (hk:PySem.W.keepIn X.K (.ref f)=true) (hb:Binds X.K fd ps ds) (hd:Vals dvs ds) (hx:Passes CX X E)
  (ha:PA X (e::es) t) (hdb:(x==("__debug__":Str))=false:=by decide) (he:starEach (e::es) X.env=(false,eval e X.env)::starEach es X.env:=by rfl) (hpl:(backTo pos (starEach es X.env)).any (·.1)=false:=by rfl):
  PE X (.Call (.Name x p) (e::es) [] pos) (jm sp dvs E t):=by
 intro pins s σ H Q I h
 refine wpAny_Call_Name_kw (vD I hg hm ?_ hdb)
 refine PySem.W.callWith_K (h₀:=X.base) I.ok.mod.kin hk (thn (ha pos pins s σ H _ I h) fun us s1 ⟨vs,H1,I1,r,q⟩=>⟨I1.kIn,?_⟩) he hpl
 exact wk F hr hb hd hx I1 r q
end
set_option genInjectivity false in
structure FnScope (N P:List Str) (sc:Scope):Prop where
 kind:sc.kind= .function
 co:sc.isCoroutine=false
 gen:sc.isGenerator=false
 nd:N.Nodup
 pre:N.take P.length=P
 par: ∀ x∈P,sc.names.lookup x=some .local∨sc.names.lookup x=some .cell
 nofree: ∀ y∈sc.names,y.2≠.free
theorem kU {kindOf:Str→Option NameKind} {x:Str}: ∀ {binds:List (Str×Value)} {m:Str→Option Value},(∀ v,(x,v)∉binds)→bindL kindOf binds m x=m x
 |[],_,_=>rfl
 |(n,v)::r,m,h=>by
  unfold bindL
  rw[kU fun w hw=>h w (List.mem_cons_of_mem _ hw)]
  split
  ·have:x≠n:=by rintro rfl;exact h v List.mem_cons_self
   simp[this]
  ·rfl
theorem kX {kindOf:Str→Option NameKind} {x:Str}: ∀ {binds:List (Str×Value)} {m:Str→Option Value},(∀ v,(x,v)∉binds)→bindC kindOf binds m x=m x
 |[],_,_=>rfl
 |(n,v)::r,m,h=>by
  unfold bindC
  rw[kX fun w hw=>h w (List.mem_cons_of_mem _ hw)]
  split
  ·rfl
  ·have:x≠n:=by rintro rfl;exact h v List.mem_cons_self
   simp[this]
theorem kW {kindOf:Str→Option NameKind} {x:Str} {v:Value}: ∀ {P:List Str} {vs:List Value} {i:Nat} {m:Str→Option Value},P.Nodup→P[i]?=some x→vs[i]?=some v→kindOf x=some .local→
  bindL kindOf (P.zip vs) m x=some v
 |[],_,_,_,_,h,_,_=>by simp at h
 |_::_,[],_,_,_,_,h,_=>by simp at h
 |p::P,w::vs,0,m,nd,h1,h2,hk=>by
  simp at h1 h2;subst h1;subst h2
  show bindL kindOf ((p,w)::P.zip vs) m p=_
  unfold bindL
  rw[kU fun v hv=>(List.nodup_cons.mp nd).1 (List.of_mem_zip hv).1,if_pos hk]
  simp
 |p::P,w::vs,i+1,m,nd,h1,h2,hk=>by
  show bindL kindOf ((p,w)::P.zip vs) m x=_
  unfold bindL
  exact kW (i:=i) (List.nodup_cons.mp nd).2 (by simpa using h1) (by simpa using h2) hk
theorem kY {kindOf:Str→Option NameKind} {x:Str} {v:Value}: ∀ {P:List Str} {vs:List Value} {i:Nat} {m:Str→Option Value},P.Nodup→P[i]?=some x→vs[i]?=some v→kindOf x≠some .local→
  bindC kindOf (P.zip vs) m x=some v
 |[],_,_,_,_,h,_,_=>by simp at h
 |_::_,[],_,_,_,_,h,_=>by simp at h
 |p::P,w::vs,0,m,nd,h1,h2,hk=>by
  simp at h1 h2;subst h1;subst h2
  show bindC kindOf ((p,w)::P.zip vs) m p=_
  unfold bindC
  rw[kX fun v hv=>(List.nodup_cons.mp nd).1 (List.of_mem_zip hv).1,if_neg hk]
  simp
 |p::P,w::vs,i+1,m,nd,h1,h2,hk=>by
  show bindC kindOf ((p,w)::P.zip vs) m x=_
  unfold bindC
  exact kY (i:=i) (List.nodup_cons.mp nd).2 (by simpa using h1) (by simpa using h2) hk
noncomputable def start (N:List Str) (vs:List V):St:=vs.map some++List.replicate (N.length - vs.length) none
noncomputable def dn (CX:CXT) (P:Program) (w:World) (K:PySem.W.Frag) (mg:Str→Option Value) (base:Heap) (N:List Str) (qual:Str) (scope:Scope) (f:Addr) (cd:Value) (A:Around) (outer:List Env) (s:Shared) (H:Hp) (E:XK):Cx where
 prog:=P
 w:=w
 K:=K
 mg:=mg
 base:=base
 A:=A.deeper (envOfC qual scope s.heap.objs.size f cd)
 N:=N
 s₀:=s
 H₀:=H
 env:=envOfC qual scope s.heap.objs.size f cd
 outer:=outer
 stack:=envOfC qual scope s.heap.objs.size f cd::outer
 ex:=[]
 calm:=true
 fn:=fun _=>true
 pn:=[]
 xe:=fun e s'=>wpAny (model P w) (A.deeper (envOfC qual scope s.heap.objs.size f cd)) (leaving (envOfC qual scope s.heap.objs.size f cd) e) (fun _ s''=>CX outer H s E e s'') (fun e' s''=>CX outer H s E e' s'') s'
theorem nF {sc:Scope} {n:Nat} {x:Str} (h:sc.names.lookup x=some .cell): ∃ c,(cellsFrom n sc.names []).lookup x=some c:=by
 have q:=PySem.W.cellsFrom_some sc.names n [] (.inl h)
 exact Option.isSome_iff_exists.mp q
theorem kJ {CX:CXT} {P:Program} {w:World} {K:PySem.W.Frag} {mg:Str→Option Value} {base:Heap} {N ps:List Str} {qual:Str} {scope:Scope} {f:Addr} {cd:Value} {A:Around} {outer:List Env} {s s1:Shared} {H:Hp} {E:XK} {us:List Value} {vs:List V}
  (S:FnScope N ps scope) (hd:A.handled=none) (e0:Env0 P w K mg base A outer s H) (hl:vs.length=ps.length) (r:Vals vs us)
  (x:InCallC s s.heap.objs.size (bindL (envOfC qual scope s.heap.objs.size f cd).kindOf (ps.zip us) fun _=>none) (cellsFrom (s.heap.objs.size+1) scope.names []) (bindC (envOfC qual scope s.heap.objs.size f cd).kindOf (ps.zip us) fun _=>none) s1):
  Inv (dn CX P w K mg base N qual scope f cd A outer s H E) [] (start N vs) H s1:=by
 have hpl:ps.length≤N.length:=by have:=congrArg List.length S.pre;rw[List.length_take] at this;lia
 obtain⟨h1,tk,rfl,hk⟩:=x.done
 have noA: ∀ b:Addr,b∉(dn CX P w K mg base N qual scope f cd A outer s H E).ex:=fun b z=>absurd (show b∈([]:List Addr) from z) (by simp)
 refine⟨⟨e0.mod,S.kind,rfl,rfl,Nat.le_refl _,fun y z c h1 h2=>?_,fun y hy=>?_,fun y c _ h=>?_,fun _=>hd,Around.frames_deeper e0.frames,.inr ⟨rfl,rfl⟩,fun b z=>absurd z (noA b),e0.bs,e0.bsz,fun b _ _=>noA b,fun b z=>absurd z (noA b),e0.funs,e0.frf⟩,
  rfl,e0.bare,Un.kept hk,⟨_,x.toInCall.ns,fun i y v h1 h2 h3=>?_⟩,fun y c h=>⟨_,x.cell y c h⟩,e0.hok.fresh (Nat.le_refl _),fun y c h=>?_,fun p hp=>absurd (show p∈([]:List (Addr×Obj)) from hp) (by simp),e0.hok.kept hk,?_⟩
 ·exact name_of_addr x.apart (PySem.mem_of_lookup h1) (PySem.mem_of_lookup h2)
 ·have hy:scope.names.lookup y=some .cell∨scope.names.lookup y=some .free:=hy
  rcases hy with hy|hy
  ·exact nF hy
  ·exact absurd rfl (S.nofree _ (PySem.mem_of_lookup hy))
 ·exact Nat.le_of_lt (x.above y c (PySem.mem_of_lookup h))
 ·have hi:i < vs.length:=by
   unfold start at h2
   by_cases hi:i < vs.length
   ·exact hi
   ·rw[List.getElem?_append_right (by simpa using hi)] at h2
    rw[List.getElem?_replicate] at h2
    split at h2<;>cases h2
  have ha:vs[i]?=some v:=by
   unfold start at h2
   rw[List.getElem?_append_left (by simpa using hi),List.getElem?_map] at h2
   cases e:vs[i]? with
   |none=>rw[e] at h2;cases h2
   |some a=>rw[e] at h2;cases h2;rfl
  obtain⟨u,hu,rv⟩:=r.get ha
  have hp:ps[i]?=some y:=by
   rw[←S.pre,List.getElem?_take_of_lt (by first|decide|lia)];exact h1
  have ndP:ps.Nodup:=by rw[←S.pre];exact S.nd.sublist (List.take_sublist _ _)
  refine⟨u,rv,?_⟩
  rcases S.par y (List.mem_of_getElem? hp) with k|k
  ·exact .inl ⟨k,kW ndP hp hu k⟩
  ·obtain⟨c,e⟩:=nF (n:=s.heap.objs.size+1) k
   refine .inr ⟨.inl k,c,e,?_⟩
   have q:=x.cell y c e
   rw[kY ndP hp hu (by show scope.names.lookup y≠_;rw[k];decide)] at q
   exact q
 ·exact e0.hok.fresh (Nat.le_of_lt (x.above y c (PySem.mem_of_lookup h)))
 ·unfold start
  show _=N.length
  rw[List.length_append,List.length_map,List.length_replicate]
  lia
theorem uG {CX:CXT} {P:Program} {w:World} {K:PySem.W.Frag} {mg:Str→Option Value} {base:Heap} {k:Nat} {f:Addr} {name qual:Str} {params:Arguments} {body:List Stmt} {scope:Scope} {dV kV doc pm cdv ct oc:Value} {an od:Option Addr}
  {osl:Array (Option Value)} {N ps:List Str} {sp:Sp} (lk:K.lookup f=some ⟨oc,od,.func (PySem.W.fnOf name qual params body scope dV kV doc pm an cdv ct),osl⟩) (hcd:PySem.W.codeIn K cdv qual=true) (S:FnScope N ps scope)
  (len: ∀ vs H Q E,sp vs H Q E→vs.length=ps.length)
  (hbody: ∀ (A:Around) (outer:List Env) (s:Shared) (H:Hp) (vs:List V) (Q:VK) (E:XK),Room k (A.deeper (envOfC qual scope s.heap.objs.size f cdv))→sp vs H Q E→
   ∃ t,PSs (dn CX P w K mg base N qual scope f cdv A outer s H E) body t∧t {nx:=fun _ H'=>Q .non H',rt:=Q} (start N vs) H):
  FnOk P w K mg base CX (k+1) f (PySem.W.fnOf name qual params body scope dV kV doc pm an cdv ct) ps sp:=by
 refine⟨len,fun A outer s H args us vs Q E hr e0 hb r hsp=>?_⟩
 have hl:=len _ _ _ _ hsp
 have KX:K.In s.heap:=e0.mod.kin.keeps fun b o e=>(e0.bs b o e).1
 have lim:s.heap.NoLimit:=e0.mod.nolimit.keeps fun b o e=>(e0.bs b o e).1
 have hkind: ∀ y∈ps.zip us,scope.names.lookup y.1=some .local∨(scope.names.lookup y.1=some .cell∧((cellsFrom (s.heap.objs.size+1) scope.names []).lookup y.1).isSome=true):=fun hq0 hy=>by
  obtain⟨n,v⟩:=hq0
  rcases S.par n (List.of_mem_zip hy).1 with q|q
  ·exact .inl q
  ·exact .inr ⟨q,PySem.W.cellsFrom_some _ _ _ (.inl q)⟩
 refine codeAny_call_function hr.depth (KX _ _ lk) rfl S.co S.gen rfl (PySem.W.codeRec_of KX hcd) (hb _ _ _ _ ?_)
 refine wpAny_newFunctionEnv_cells S.kind hkind fun env he s1 x=>?_
 subst he
 refine⟨lim.keeps x.toInCall.keep,codeAny_func ?_⟩
 obtain⟨t,ht,hq⟩:=hbody A outer s H vs Q E (hr.deeper _) hsp
 have I:Inv (dn CX P w K mg base N qual scope f cdv A outer s H E) [] (start N vs) H s1:=kJ S hr.hd e0 hl r x
 refine wpAny_mono (ht [] s1 (start N vs) H _ I hq) (fun fl s' hs=>?_) fun e s' hs=>hs
 have fin: ∀ {σ':St} {H':Hp} {v:V} {u:Value},Inv (dn CX P w K mg base N qual scope f cdv A outer s H E) [] σ' H' s'→RelV v u→Q v H'→CE outer P w H s Q u s':=
  fun {σ' H' v u} J rv q=>⟨v,H',J.os,J.bare,J.base,J.hok,rv,q⟩
 cases fl with
 |ret u=>
  obtain⟨v,σ',H',J,rv,q⟩:=hs
  exact fin J rv q
 |next=>
  obtain⟨σ',H',J,q⟩:=hs
  exact fin (v:=V.non) (u:=Value.none) J rfl q
 |brk=>
  obtain⟨_,_,_,q⟩:=hs
  exact False.elim q
 |cont=>
  obtain⟨_,_,_,q⟩:=hs
  exact False.elim q
end L2
namespace L2
open PySem PySem.Spec PyProof.Rows
section
variable {X:Cx} {x:Str} {p pos:Pos} {e:Expr} {es:List Expr} {t:TA} {id T:String} {r:List V→Hp→VK→Prop}
noncomputable def tCB (r:List V→Hp→VK→Prop) (t:TA):TE:=fun σ H Q=>t σ H fun vs H1=>r vs H1 Q
theorem mx (hc:dH X (.builtin id) r) (hg:Gl X x) (hm:X.mg x=none) (hv:bootBuiltins x=some (.builtin id)) (ha:PA X (e::es) t) (hn:x≠"__name__":=by decide) (hdb:(x==("__debug__":Str))=false:=by decide)
  (he:starEach (e::es) X.env=(false,eval e X.env)::starEach es X.env:=by rfl) (hpl:(backTo pos (starEach es X.env)).any (·.1)=false:=by rfl):PE X (.Call (.Name x p) (e::es) [] pos) (tCB r t):=by
 intro pins s σ H Q I h
 refine wpAny_Call_Name_kw (fh I hg hm hv ?_ hn hdb)
 exact PyProof.Rows.callWith_builtin1 (thn (ha pos pins s σ H _ I h) fun us s1 ⟨vs,H1,I1,r1,q1⟩=>hc pins s1 σ H1 vs us Q I1 r1 q1) he hpl
theorem qS (hc:dH X (.type T) r) (hg:Gl X x) (hm:X.mg x=none) (hv:bootBuiltins x=some (.type T)) (ha:PA X (e::es) t) (hn:x≠"__name__":=by decide) (hdb:(x==("__debug__":Str))=false:=by decide)
  (he:starEach (e::es) X.env=(false,eval e X.env)::starEach es X.env:=by rfl) (hpl:(backTo pos (starEach es X.env)).any (·.1)=false:=by rfl):PE X (.Call (.Name x p) (e::es) [] pos) (tCB r t):=by
 intro pins s σ H Q I h
 refine wpAny_Call_Name_kw (fh I hg hm hv ?_ hn hdb)
 exact PyProof.Rows.callWith_type1 (thn (ha pos pins s σ H _ I h) fun us s1 ⟨vs,H1,I1,r1,q1⟩=>hc pins s1 σ H1 vs us Q I1 r1 q1) he hpl
end
end L2
namespace HT
open PySem PyProof.Rows
noncomputable def lexLt:List Int→List Int→Bool
 |[],[]=>false
 |[],_::_=>true
 |_::_,[]=>false
 |x::xs,y::ys=>if x=y then lexLt xs ys else decide (x < y)
theorem lexLt_cons (x y:Int) (xs ys:List Int):lexLt (x::xs) (y::ys)=if x=y then lexLt xs ys else decide (x < y):=rfl
theorem lexLt_nil_nil:lexLt [] []=false:=rfl
theorem j7 (y:Int) (ys:List Int):lexLt [] (y::ys)=true:=rfl
theorem j8 (x:Int) (xs:List Int):lexLt (x::xs) []=false:=rfl
theorem tW (A:Around) (s:Shared) (a:Int) (t:Tok) (c:Int) (u:Tok): ∃ e,SeqAt.EqAt A s (.int a t) (.int c u) e∧(e=true↔a=c):=
 ⟨(a==c),SeqAt.EqAt.int_int a t c u,by simp⟩
section
variable {prog : Program} {w : World} {A : Around} {E : Value → Shared → Prop} {s : Shared}
theorem cat_tup {t b:Addr} {vs ws:List Value} {Q:Value→Shared→Prop} (ht:IsTup s.heap t vs.toArray) (hb:IsTup s.heap b ws.toArray) (hv:vs≠[])
  (h1:ws=[]→Q (.ref t) s) (h2:ws≠[]→Q (.ref s.heap.objs.size) {s with heap:=s.heap.push {cls:=.type "tuple",data:=.seq (vs++ws).toArray}})
  (hsz:vs.length+ws.length≤sizeLine):wpAny (model prog w) A (binaryOp .Add (.ref t) (.ref b)) Q E s:=by
 obtain⟨⟨cls,dd,data,sl⟩,ho,hc,n,hd⟩:=id ht
 obtain⟨⟨cls2,dd2,data2,sl2⟩,ho2,hc2,n2,hd2⟩:=id hb
 simp only at hc hd hc2 hd2
 subst hc hd hc2 hd2
 have e:vs.toArray++ws.toArray=(vs++ws).toArray:=by simp
 by_cases hw:ws=[]
 ·exact concat_meets ⟨_,ho,rfl⟩ ⟨_,ho2,rfl⟩ noFill_tuple_add seq_tuple_add PySem.F.slot_tuple_add PySem.F.entry_tuple_add (PySem.F.args_tuple_add_2 _ _)
   (tuple_addW1 t b vs.toArray ws.toArray n n2 dd dd2 sl sl2 (by simpa using hv) (by simp[hw])) ⟨ho,ho2,h1 hw⟩
 ·refine concat_meets ⟨_,ho,rfl⟩ ⟨_,ho2,rfl⟩ noFill_tuple_add seq_tuple_add PySem.F.slot_tuple_add PySem.F.entry_tuple_add (PySem.F.args_tuple_add_2 _ _)
   (tuple_addW2 t b vs.toArray ws.toArray n n2 dd dd2 sl sl2 (by simpa using hv) (by simpa using hw) (by rw[List.size_toArray,List.size_toArray];exact hsz)) ⟨ho,ho2,?_⟩
  rw[e]
  exact h2 hw
noncomputable def sIx (n d:Nat):Option Int→Nat
 |none=>d
 |some v=>if v < 0 then(v+(n:Int)).toNat else min v.toNat n
theorem sIx_none (n d:Nat):sIx n d none=d:=rfl
theorem sIx_nat (n d k:Nat):sIx n d (some (k:Int))=min k n:=by
 show (if(k:Int) < 0 then((k:Int)+(n:Int)).toNat else min (k:Int).toNat n)=min k n
 rw[if_neg (by first|decide|lia),Int.toNat_natCast]
theorem wj (n d:Nat) (hd:d≤n) (o:Option Int):sIx n d o≤n:=by
 cases o with
 |none=>exact hd
 |some v=>
  show (if v < 0 then(v+(n:Int)).toNat else min v.toNat n)≤n
  by_cases hv:v < 0
  ·rw[if_pos hv];lia
  ·rw[if_neg hv];exact Nat.min_le_right _ _
theorem o6 (v:Int) (n d:Nat):(if v < 0 then max (v+(n:Int)) 0 else min v (n:Int))=((sIx n d (some v):Nat):Int):=by
 show (if v < 0 then max (v+(n:Int)) 0 else min v (n:Int))=(((if v < 0 then(v+(n:Int)).toNat else min v.toNat n):Nat):Int)
 by_cases hv:v < 0
 ·simp only[if_pos hv];lia
 ·simp only[if_neg hv];lia
theorem qo (lo hi:Option Int) (n:Nat):Builtin.Slice.sliceAdjust lo hi 1 (n:Int)=(((sIx n 0 lo:Nat):Int),((sIx n n hi:Nat):Int)):=by
 have h1: ¬ ((1:Int) < 0):=by lia
 unfold Builtin.Slice.sliceAdjust
 simp only[h1,if_false]
 refine Prod.ext ?_ ?_
 ·cases lo with
  |none=>rfl
  |some v=>exact o6 v n 0
 ·cases hi with
  |none=>rfl
  |some v=>exact o6 v n n
theorem pQ (i j:Nat):Builtin.Slice.slicePlaces (i:Int) (j:Int) 1=j - i:=by
 unfold Builtin.Slice.slicePlaces
 have h1:(1:Int) > 0:=by lia
 simp only[h1,if_true,Int.ediv_one]
 split<;>lia
theorem jn {v:Value} {o:Option Int} {Q:Option Int→Shared→Prop} (p:IsPart v o) (h:Q o s):wpAny (model prog w) A (Builtin.Slice.slicePartIndex v) Q E s:=by
 cases p with
 |none=>exact slicePart_none h
 |int i t=>exact slicePart_int h
theorem fC {sl:Addr} {vl vu:Value} {lo hi:Option Int} {n:Nat} {Q:Int×Int×Nat→Shared→Prop} (hs:s.heap.IsSliceOf sl vl vu .none) (pl:IsPart vl lo) (pu:IsPart vu hi)
  (h:Q (((sIx n 0 lo:Nat):Int),1,sIx n n hi - sIx n 0 lo) s):wpAny (model prog w) A (Builtin.Slice.sliceApplied (.ref sl) (pure (n:Int))) Q E s:=by
 obtain⟨os,hos,hcs,hds⟩:=id hs
 unfold Builtin.Slice.sliceApplied Builtin.Slice.sliceFields
 refine wpAny_bind (wpAny_bind (wpAny_field hos hds (x:=vl) rfl (wpAny_bind (wpAny_field hos hds (x:=vu) rfl (wpAny_bind (wpAny_field hos hds (x:=.none) rfl (wpAny_pure ?_)))))))
 refine wpAny_bind (slicePart_none ?_)
 show wpAny _ _ (if((1:Int)==0)=true then _ else _) _ _ s
 rw[if_neg (by decide)]
 refine wpAny_bind (jn pl (wpAny_bind (jn pu (wpAny_bind (wpAny_pure ?_)))))
 show wpAny _ _ (match Builtin.Slice.sliceAdjust lo hi 1 (n:Int) with|(lo,hi)=>pure (lo,(1:Int),Builtin.Slice.slicePlaces lo hi 1)) _ _ s
 rw[qo lo hi n]
 show wpAny _ _ (pure (((sIx n 0 lo:Nat):Int),(1:Int),Builtin.Slice.slicePlaces ((sIx n 0 lo:Nat):Int) ((sIx n n hi:Nat):Int) 1)) _ _ s
 rw[pQ]
 exact wpAny_pure h
theorem sL (xs:Array Value) (i k:Nat):((List.range k).filterMap fun (m:Nat)=>xs[((i:Int)+(m:Int) * 1).toNat]?).toArray=((xs.toList.drop i).take k).toArray:=by
 have e:(fun (m:Nat)=>xs[((i:Int)+(m:Int) * 1).toNat]?)=fun m=>xs[i+m]?:=by
  funext m
  have:((i:Int)+(m:Int) * 1).toNat=i+m:=by lia
  rw[this]
 rw[e]
 have:=pick_run xs i k
 rw[List.filterMap_map] at this
 have e2:((fun x=>xs[x]?)∘fun x=>i+x)=fun m=>xs[i+m]?:=rfl
 rw[e2] at this
 rw[this]
theorem getItem_tuple_cut {t sl:Addr} {items:Array Value} {vl vu:Value} {lo hi:Option Int} {Q:Value→Shared→Prop} (ht:IsTup s.heap t items) (hs:s.heap.IsSliceOf sl vl vu .none) (pl:IsPart vl lo) (pu:IsPart vu hi)
  (hw: ¬ (sIx items.size 0 lo=0∧sIx items.size items.size hi=items.size))
  (h:Q (.ref s.heap.objs.size) {s with heap:=s.heap.push {cls:=.type "tuple",data:=.seq ((items.toList.drop (sIx items.size 0 lo)).take (sIx items.size items.size hi - sIx items.size 0 lo)).toArray}})
  (hsz:items.size≤sizeLine):wpAny (model prog w) A (getItem (.ref t) (.ref sl)) Q E s:=by
 have htake:sizeOk (.seq ((items.toList.drop (sIx items.size 0 lo)).take (sIx items.size items.size hi - sIx items.size 0 lo)).toArray):=by
  show ((items.toList.drop (sIx items.size 0 lo)).take (sIx items.size items.size hi - sIx items.size 0 lo)).toArray.size≤sizeLine
  rw[List.size_toArray,List.length_take,List.length_drop,Array.length_toList]
  lia
 have hj:sIx items.size items.size hi≤items.size:=wj _ _ (Nat.le_refl _) hi
 obtain⟨os,hos,hcs,hds⟩:=id hs
 have hTs:s.TypeIs (.ref sl) "slice":=⟨os,hos,hcs⟩
 unfold getItem
 try with_reducible refine wpAny_holding ?_
 first|refine wpAny_bind (wpAny_pure ?_)|skip
 refine wpAny_bind (wpAny_sequenceKey ht.typeIs (by decide) ?_)
 refine wpAny_bind (wpAny_callSpecial?_slot (name:=Str.ofString "__getitem__") ht.typeIs PyProof.Rows.slot_tuple_getitem
  (wpAny_call_entry PyProof.Rows.slot_tuple_getitem ht.typeIs entry_tuple_getitem ?_ (args_tuple_getitem _ _)))
 show wpAny _ _ (Builtin.Tuple.tupleItemsOf (.ref t) >>= _) _ _ s
 refine wpAny_bind (tupleItemsOf_ ht ?_)
 refine wpAny_bind (wpAny_typeOf hTs ?_)
 rw[if_pos (by decide)]
 refine wpAny_bind (fC hs pl pu ?_)
 have hno: ¬ ((((sIx items.size 0 lo:Nat):Int)==0&&(1:Int)==1&&(sIx items.size items.size hi - sIx items.size 0 lo)==items.size)=true):=by
  intro q
  rw[Bool.and_eq_true,Bool.and_eq_true] at q
  have q1:((sIx items.size 0 lo:Nat):Int)=0:=eq_of_beq q.1.1
  have q2:sIx items.size items.size hi - sIx items.size 0 lo=items.size:=eq_of_beq q.2
  exact hw ⟨by lia,by lia⟩
 show wpAny _ _ (if(((sIx items.size 0 lo:Nat):Int)==0&&(1:Int)==1&&(sIx items.size items.size hi - sIx items.size 0 lo)==items.size)=true then _ else _) _ _ s
 rw[if_neg hno,sL]
 first
  |exact wpAny_bind (m:=Builtin.Tuple.tupleExact _) (wpAny_newObj_type (wpAny_pure ⟨_,rfl,wpAny_pure h⟩) htake)
  |exact wpAny_bind (m:=Builtin.Tuple.tupleExact _) (wpAny_newObj_type (wpAny_bind (wpAny_pure (wpAny_pure ⟨_,rfl,wpAny_pure h⟩))) htake)
  |exact wpAny_bind (wpAny_bind (m:=Builtin.Tuple.tupleExact _) (wpAny_newObj_type (wpAny_pure (wpAny_pure ⟨_,rfl,wpAny_pure h⟩)) htake))
  |exact wpAny_bind (wpAny_bind (m:=Builtin.Tuple.tupleExact _) (wpAny_newObj_type (wpAny_pure ⟨_,rfl,wpAny_pure h⟩) htake))
end
end HT
namespace L2
open PySem PySem.Spec PyProof.Rows
noncomputable abbrev TO:=St→Hp→(Option Int→Hp→Prop)→Prop
noncomputable def PO (X:Cx) (e:Option Expr) (t:TO):Prop:=
 ∀ (pins:List (Addr×Obj)) (s:Shared) (σ:St) (H:Hp) (Q:Option Int→Hp→Prop),Inv X pins σ H s→t σ H Q→
  wpAny (model X.prog X.w) X.A (evalPart e X.env) (fun u s'=> ∃ o H',Inv X pins σ H' s'∧IsPart u o∧Q o H') X.xe s
noncomputable def uN:TO:=fun _ H Q=>Q none H
noncomputable def xX (t:TE):TO:=fun σ H Q=>t σ H fun x H1=> ∃ i,x= .int i∧Q (some i) H1
section
variable {X:Cx} {e:Expr} {te:TE} {lo hi:Option Expr} {tl th:TO} {pos p2:Pos}
theorem iC:PO X none uN:=by
 intro pins s σ H Q I h
 rw[evalPart_none]
 exact wpAny_pure ⟨none,H,I,.none,h⟩
theorem iB (h:PE X e te):PO X (some e) (xX te):=by
 intro pins s σ H Q I hw
 rw[evalPart_some]
 refine thn (h pins s σ H _ I hw) fun u s1 ⟨x,H1,I1,r1,q1⟩=>?_
 obtain⟨i,rfl,q⟩:=q1
 obtain⟨t,rfl⟩:=r1
 exact⟨some i,H1,I1,.int i t,q⟩
noncomputable def SlR (X:Cx) (r:V→Option Int→Option Int→Hp→VK→Prop):Prop:=
 ∀ (pins:List (Addr×Obj)) (s:Shared) (σ:St) (H:Hp) (x:V) (v vl vu:Value) (lo hi:Option Int) (sl:Addr) (Q:VK),Inv X pins σ H s→RelV x v→s.heap.IsSliceOf sl vl vu .none→IsPart vl lo→IsPart vu hi→r x lo hi H Q→
  ∃ T id,typeLookup (.type T) "__getitem__"=pure (some (.builtin id))∧s.TypeIs v T∧wpAny (model X.prog X.w) X.A (getItem v (.ref sl)) (EP X pins σ Q) X.xe s
theorem SlR.or {r r':V→Option Int→Option Int→Hp→VK→Prop} (h:SlR X r) (h':SlR X r'):SlR X (fun x lo hi H Q=>r x lo hi H Q∨r' x lo hi H Q):=by
 intro pins s σ H x v vl vu lo hi sl Q I rx hs pl pu q
 rcases q with q|q
 ·exact h pins s σ H x v vl vu lo hi sl Q I rx hs pl pu q
 ·exact h' pins s σ H x v vl vu lo hi sl Q I rx hs pl pu q
noncomputable def tSl (r:V→Option Int→Option Int→Hp→VK→Prop) (te:TE) (tl th:TO):TE:=fun σ H Q=>te σ H fun x H1=>tl σ H1 fun l H2=>th σ H2 fun u H3=>r x l u H3 Q
theorem gD {r:V→Option Int→Option Int→Hp→VK→Prop} (hr:SlR X r) (he:PE X e te) (hl:PO X lo tl) (hu:PO X hi th):PE X (.Subscript e (.Slice lo hi none p2) pos) (tSl r te tl th):=by
 intro pins s σ H Q I h
 refine Subscript_ (thn (he pins s σ H _ I h) fun v s1 ⟨x,H1,I1,r1,q1⟩=>?_)
 refine wpAny_Slice (thn (hl pins s1 σ H1 _ I1 q1) fun vl s2 ⟨l,H2,I2,pl,q2⟩=>thn (hu pins s2 σ H2 _ I2 q2) fun vu s3 ⟨u,H3,I3,pu,q3⟩=>?_)
 rw[evalPart_none]
 refine wpAny_pure ?_
 have I4:Inv X pins σ H3 {s3 with heap:=s3.heap.push {cls:=.type "slice",data:=.fields #[vl,vu,.none]}}:=I3.kept (t':=s3.toks) fun b ob q=>Heap.get?_push_of_some _ q
 obtain⟨T,id,hT,ht,hg⟩:=hr pins {s3 with heap:=s3.heap.push {cls:=.type "slice",data:=.fields #[vl,vu,.none]}} σ H3 x v vl vu l u s3.heap.objs.size Q I4 r1 (Heap.IsSliceOf.new ..) pl pu q3
 show wpAny (model X.prog X.w) X.A (subscriptTail e (.Slice lo hi none p2) v (.ref s3.heap.objs.size)) (EP X pins σ Q) X.xe {s3 with heap:=s3.heap.push {cls:=.type "slice",data:=.fields #[vl,vu,.none]}}
 exact tail_any (ops:=[.ref s3.heap.objs.size,v]) ht hT hg (by with_unfolding_all rfl)
noncomputable def eO (xs:List V) (lo hi:Option Int):List V:=(xs.drop (HT.sIx xs.length 0 lo)).take (HT.sIx xs.length xs.length hi - HT.sIx xs.length 0 lo)
theorem iW (xs:List V) (lo hi:Option Int):(eO xs lo hi).length≤xs.length:=by
 unfold eO
 rw[List.length_take,List.length_drop]
 lia
noncomputable def wq (K:PySem.W.Frag):V→Option Int→Option Int→Hp→VK→Prop:=fun x lo hi H Q=> ∃ a xs,x= .ref a∧SqT K H a xs∧
 ¬ (HT.sIx xs.length 0 lo=0∧HT.sIx xs.length xs.length hi=xs.length)∧∀ p,H p=none→Q (.ref p) (upd H p (.tup (eO xs lo hi)))
theorem wd:SlR X (wq X.K):=by
 intro pins s σ H x v vl vu lo hi sl Q I rx hs pl pu h
 obtain⟨a,xs,rfl,hx,hw,q⟩:=h
 cases rx
 obtain⟨its,r,ht,hz⟩:=I.tuple hx
 have hlen:its.toArray.size=xs.length:=by rw[List.size_toArray];exact r.length.symm
 refine⟨"tuple",_,PyProof.Rows.slot_tuple_getitem.lookup,ht.typeIs,?_⟩
 refine HT.getItem_tuple_cut ht hs pl pu (by rw[hlen];exact hw) ?_ (by rw[hlen];exact hz)
 rw[hlen]
 refine⟨.ref s.heap.objs.size,_,I.laid (t':=s.toks) (o:=.tup (eO xs lo hi)) (fun b ob q=>Heap.get?_push_of_some _ q) (Nat.le_refl _) ?_,rfl,q _ (I.hok.fresh (Nat.le_refl _))⟩
 exact⟨Nat.le_trans (iW xs lo hi) hz,_,(r.drop (HT.sIx xs.length 0 lo)).take (HT.sIx xs.length xs.length hi - HT.sIx xs.length 0 lo),IsTup.new _ _⟩
noncomputable def uy (K:PySem.W.Frag):R2:=fun x y H Q=> ∃ a b xs ys,x= .ref a∧y= .ref b∧SqT K H a xs∧SqT K H b ys∧xs≠[]∧xs.length+ys.length≤sizeLine∧
 (ys=[]→Q (.ref a) H)∧(ys≠[]→∀ p,H p=none→Q (.ref p) (upd H p (.tup (xs++ys))))
theorem Vals.nil_iff {xs:List V} {us:List Value} (r:Vals xs us):us=[]↔xs=[]:=by
 cases r with
 |nil=>simp
 |cons _ _=>simp
theorem op_catT:OpR X (binaryOp .Add) (uy X.K):=by
 intro pins s σ H x y v u Q I rx ry h
 obtain⟨a,b,xs,ys,rfl,rfl,ha,hb,hx,hz,q1,q2⟩:=h
 cases rx
 cases ry
 obtain⟨its,r1,p1,_⟩:=I.tuple ha
 obtain⟨its2,r2,p2,_⟩:=I.tuple hb
 refine HT.cat_tup p1 p2 (fun z=>hx (r1.nil_iff.mp z)) (fun z=>⟨.ref a,H,I,rfl,q1 (r2.nil_iff.mp z)⟩) (fun z=>?_) (by rw[←r1.length,←r2.length];exact hz)
 refine⟨.ref s.heap.objs.size,_,I.laid (t':=s.toks) (o:=.tup (xs++ys)) (fun b ob q=>Heap.get?_push_of_some _ q) (Nat.le_refl _) ?_,rfl,q2 (fun w=>z (r2.nil_iff.mpr w)) _ (I.hok.fresh (Nat.le_refl _))⟩
 exact⟨by rw[List.length_append];exact hz,_,r1.append r2,IsTup.new _ _⟩
end
end L2
namespace L2
open PySem PySem.Spec PyProof.Rows
noncomputable def ixN (n:Nat) (i:Int):Option Nat:=if 0≤i then(if i < n then some i.toNat else none) else if -(n:Int)≤i then some (i+n).toNat else none
noncomputable def atI {α:Type} (xs:List α) (i:Int):Option α:=(ixN xs.length i).bind fun j=>xs[j]?
theorem oS {n:Nat} {i:Int} {j:Nat} (h:ixN n i=some j):seqIndex? i n=some j∧j < n∧-(n:Int)≤i∧i < n:=by
 unfold ixN at h
 by_cases h0:0≤i
 ·rw[if_pos h0] at h
  by_cases h1:i < n
  ·rw[if_pos h1] at h
   have e:i.toNat=j:=Option.some.inj h
   exact⟨by rw[seqIndex_of h0 h1,e],by lia,by lia,h1⟩
  ·rw[if_neg h1] at h;cases h
 ·rw[if_neg h0] at h
  by_cases h1: -(n:Int)≤i
  ·rw[if_pos h1] at h
   have e:(i+n).toNat=j:=Option.some.inj h
   exact⟨by rw[seqIndex_neg (by first|decide|lia) h1,e],by lia,h1,by lia⟩
  ·rw[if_neg h1] at h;cases h
theorem ku {α:Type} {xs:List α} {i:Int} {v:α} (h:atI xs i=some v): ∃ j,seqIndex? i xs.length=some j∧xs[j]?=some v∧j < xs.length∧-(xs.length:Int)≤i∧i < xs.length:=by
 unfold atI at h
 cases e:ixN xs.length i with
 |none=>rw[e] at h;cases h
 |some j=>
  rw[e] at h
  obtain⟨h1,h2,h3,h4⟩:=oS e
  exact⟨j,h1,h,h2,h3,h4⟩
theorem pd {α:Type} {xs:List α} {j:Nat} {v:α} (h:xs[j]?=some v):atI xs (j:Int)=some v:=by
 have hj:j < xs.length:=(List.getElem?_eq_some_iff.mp h).1
 have e:ixN xs.length (j:Int)=some j:=by
  unfold ixN
  rw[if_pos (by first|decide|lia),if_pos (by first|decide|lia)];simp
 unfold atI;rw[e];exact h
noncomputable def pj (b:Expr):Prop:= ∀ o i,subscripted b false o i=operate [o,i] (getItem o i)
noncomputable def IxR (X:Cx) (r:R2):Prop:=
 ∀ (value slice:Expr) (pins:List (Addr×Obj)) (s:Shared) (σ:St) (H:Hp) (x y:V) (v u:Value) (Q:VK),Inv X pins σ H s→RelV x v→RelV y u→r x y H Q→
  subscripted slice false v u=operate [v,u] (getItem v u)→wpAny (model X.prog X.w) X.A (subscriptTail value slice v u) (EP X pins σ Q) X.xe s
noncomputable def MtR (X:Cx) (id:String) (r:V→List V→Hp→VK→Prop):Prop:=
 ∀ (pins:List (Addr×Obj)) (s:Shared) (σ:St) (H:Hp) (x:V) (xs:List V) (v:Value) (us:List Value) (Q:VK),Inv X pins σ H s→RelV x v→Vals xs us→r x xs H Q→
  wpAny (model X.prog X.w) X.A (call (.builtin id) (v::us)) (EP X pins σ Q) X.xe s
section
variable {X:Cx} {a b:Expr} {ta tb:TE} {pos:Pos}
theorem IxR.or {r r':R2} (h:IxR X r) (h':IxR X r'):IxR X (fun x y H Q=>r x y H Q∨r' x y H Q):=by
 intro value slice pins s σ H x y v u Q I rx ry q hs
 rcases q with q|q
 ·exact h value slice pins s σ H x y v u Q I rx ry q hs
 ·exact h' value slice pins s σ H x y v u Q I rx ry q hs
theorem dQ {r:R2} (hr:IxR X r) (ha:PE X a ta) (hb:PE X b tb) (hs:pj b):PE X (.Subscript a b pos) (tOp r ta tb):=by
 intro pins s σ H Q I h
 exact Subscript_ (ua ha hb I h fun v u s2 x y H2 I2 rx ry q=>hr a b pins s2 σ H2 x y v u Q I2 rx ry q (hs _ _))
noncomputable def wG (K:PySem.W.Frag):R2:=fun x y H Q=> ∃ p xs i v,x= .ref p∧y= .int i∧SqL K H p xs∧atI xs i=some v∧Q v H
noncomputable def pN (K:PySem.W.Frag):R2:=fun x y H Q=> ∃ p xs i v,x= .ref p∧y= .int i∧SqT K H p xs∧atI xs i=some v∧Q v H
noncomputable def wF:R2:=fun x y H Q=> ∃ z i c,x= .str z∧y= .int i∧z.length≤sizeLine∧atI z.cps.toList i=some c∧Q (.str ⟨#[c]⟩) H
theorem ix_list:IxR X (wG X.K):=by
 intro value slice pins s σ H x y v u Q I rx ry h hs
 obtain⟨p,xs,i,z,rfl,rfl,hq,he,q⟩:=h
 cases rx
 obtain⟨t,rfl⟩:=ry
 obtain⟨its,r,pl,hz⟩:=I.list hq
 obtain⟨j,h1,h2,h3,h4,h5⟩:=ku he
 obtain⟨w,ew,rw'⟩:=r.get h2
 have hl:=r.length
 have hn:=hZ
 have fin:EP X pins σ Q w s:=⟨z,H,I,rw',q⟩
 by_cases h0:0≤i
 ·have hj:i.toNat=j:=by
   rw[seqIndex_of h0 h5] at h1
   exact Option.some.inj h1
  exact item_listR pl.isList h0 (by first|decide|lia) (by rw[hj];simpa using ew) fin hs
 ·have hj:(i+(its.toArray.size:Int)).toNat=j:=by
   rw[seqIndex_neg (by first|decide|lia) h4] at h1
   rw[List.size_toArray,←hl]
   exact Option.some.inj h1
  exact subscriptTail_builtinR (x:=w) pl.isList.typeIs slot_list_getitem.lookup
   (wpAny_getItem_list_neg (Q:=fun r s'=>r=w∧EP X pins σ Q r s') pl.isList (by first|decide|lia) (by rw[List.size_toArray]<;>lia) (by first|decide|lia) (by rw[hj];simpa using ew) ⟨rfl,fin⟩) hs
theorem ix_tup:IxR X (pN X.K):=by
 intro value slice pins s σ H x y v u Q I rx ry h hs
 obtain⟨p,xs,i,z,rfl,rfl,hq,he,q⟩:=h
 cases rx
 obtain⟨t,rfl⟩:=ry
 obtain⟨its,r,pl,hz⟩:=I.tuple hq
 obtain⟨j,h1,h2,h3,h4,h5⟩:=ku he
 obtain⟨w,ew,rw'⟩:=r.get h2
 have hl:=r.length
 have hn:=hZ
 have fin:EP X pins σ Q w s:=⟨z,H,I,rw',q⟩
 exact subscriptTail_builtinR (x:=w) pl.typeIs slot_tuple_getitem.lookup
  (getItem_tuple (j:=j) (Q:=fun r s'=>r=w∧EP X pins σ Q r s') pl (by first|decide|lia) (by first|decide|lia) (by rw[List.size_toArray,←hl];exact h1) (by simpa using ew) ⟨rfl,fin⟩) hs
theorem xu:IxR X wF:=by
 intro value slice pins s σ H x y v u Q I rx ry h hs
 obtain⟨z,i,c,rfl,rfl,hz,he,q⟩:=h
 obtain⟨t,rfl⟩:=rx
 obtain⟨t',rfl⟩:=ry
 obtain⟨j,h1,h2,h3,h4,h5⟩:=ku he
 have hl:z.cps.toList.length=z.length:=by simp[Str.length]
 rw[hl] at h1 h4 h5
 have hn:=hZ
 exact tail_any (typeIs_str s z t) slot_str_getitem.lookup (getItem_str (c:=c) (by
  have e1:decide (i < -(2 ^ 63:Int))=false:=decide_eq_false (by first|decide|lia)
  have e2:decide (i ≥ 2 ^ 63)=false:=decide_eq_false (by first|decide|lia)
  rw[e1,e2,Bool.or_false]) (by rw[h1];simpa using h2) ⟨.str ⟨#[c]⟩,H,I.tok _,⟨_,rfl⟩,q⟩) hs
noncomputable def rIx (K:PySem.W.Frag):R2:=fun x y H Q=>wG K x y H Q∨pN K x y H Q∨wF x y H Q
theorem ax:IxR X (rIx X.K):=ix_list.or (ix_tup.or xu)
theorem p5 (its:List Value) (n j:Nat) (u:Value):Obj.mapSeq (·.setIfInBounds j u) {cls:=.type "list",data:=.seq its.toArray n}={cls:=.type "list",data:=.seq (its.set j u).toArray n}:=by
 simp[Obj.mapSeq]
theorem Inv.lst {pins:List (Addr×Obj)} {σ:St} {H:Hp} {s:Shared} {p:Addr} {xs:List V} (I:Inv X pins σ H s) (h:H p=some (.lst xs)):
  ∃ (its:List Value) (n:Nat),Vals xs its∧s.heap.get? p=some {cls:=.type "list",data:=.seq its.toArray n}∧xs.length≤sizeLine:=by
 obtain⟨z,its,n,r,e⟩:=I.hok p _ h
 exact⟨its,n,r,e,z⟩
theorem Inv.lstUpd {pins:List (Addr×Obj)} {σ:St} {H:Hp} {s:Shared} {p:Addr} {xs ys:List V} {its its':List Value} {n n':Nat} {f:Obj→Obj} (I:Inv X pins σ H s) (h:H p=some (.lst xs))
  (ho:s.heap.get? p=some {cls:=.type "list",data:=.seq its.toArray n}) (hf:f {cls:=.type "list",data:=.seq its.toArray n}={cls:=.type "list",data:=.seq its'.toArray n'}) (r:Vals ys its') (hz:ys.length≤sizeLine) (t:Nat):
  Inv X pins σ (upd H p (.lst ys)) {s with heap:=s.heap.update p f,toks:=t}:=by
 have e:(s.heap.update p f).get? p=some {cls:=.type "list",data:=.seq its'.toArray n'}:=by
  rw[Heap.get?_update_self f ho (by rw[hf]<;>rfl),hf]
 refine I.write (x:=p) (e:=p) (by rw[h];trivial) (.inl rfl) (fun b u hb q=>(Heap.get?_update_other _ _ (Ne.symm hb)).trans q) ⟨_,e⟩ ?_
 exact⟨hz,its',n',r,e⟩
noncomputable def ur:V→V→V→Hp→(Hp→Prop)→Prop:=fun o i v H Q=> ∃ p xs k j,o= .ref p∧i= .int k∧H p=some (.lst xs)∧ixN xs.length k=some j∧Q (upd H p (.lst (xs.set j v)))
theorem set_list:ue X ur:=by
 intro pins s σ H o i v ov iv u Q I ro ri rv h
 obtain⟨p,xs,k,j,rfl,rfl,hp,hj,q⟩:=h
 cases ro
 obtain⟨t,rfl⟩:=ri
 obtain⟨its,n,r,ho,hz⟩:=I.lst hp
 obtain⟨h1,h2,h3,h4⟩:=oS hj
 have hl:=r.length
 have hn:=hZ
 have I':Inv X pins σ (upd H p (.lst (xs.set j v))) {s with heap:=s.heap.update p (Obj.mapSeq (·.setIfInBounds j u))}:=
  I.lstUpd hp ho (p5 its n j u) (r.set rv j) (by rw[List.length_set];exact hz) s.toks
 by_cases h0:0≤k
 ·have hk:k.toNat=j:=by
   rw[seqIndex_of h0 h4] at h1
   exact Option.some.inj h1
  exact PySem.W.ki_setAt ho h0 (by first|decide|lia) (by rw[List.size_toArray,←hl];exact h4) (by rw[hk];exact⟨_,I',q⟩)
 ·have hk:(k+(its.toArray.size:Int)).toNat=j:=by
   rw[seqIndex_neg (by first|decide|lia) h3] at h1
   rw[List.size_toArray,←hl]
   exact Option.some.inj h1
  exact PySem.W.ki_setBack ho (by first|decide|lia) (by rw[List.size_toArray,←hl];exact h3) (by first|decide|lia) (by rw[hk];exact⟨_,I',q⟩)
theorem lT (lo hi:Option Int) (n:Nat):(sliceBounds lo hi none n).1=((HT.sIx n 0 lo:Nat):Int)∧(sliceBounds lo hi none n).2.1=((HT.sIx n n hi:Nat):Int)∧(sliceBounds lo hi none n).2.2=1:=by
 refine⟨?_,?_,rfl⟩
 ·cases lo with
  |none=>simp[sliceBounds,HT.sIx]
  |some i=>
   simp only[sliceBounds,HT.sIx,Option.getD_none,show (1:Int) > 0 by decide,if_true]
   by_cases h:i < 0
   ·simp only[h,if_true]<;>lia
   ·simp only[h,if_false]<;>lia
 ·cases hi with
  |none=>simp[sliceBounds,HT.sIx]
  |some i=>
   simp only[sliceBounds,HT.sIx,Option.getD_none,show (1:Int) > 0 by decide,if_true]
   by_cases h:i < 0
   ·simp only[h,if_true]<;>lia
   ·simp only[h,if_false]<;>lia
theorem lg (its:List Value) (lo hi:Option Int):slicePick its.toArray lo hi none=((its.drop (HT.sIx its.length 0 lo)).take (HT.sIx its.length its.length hi - HT.sIx its.length 0 lo)).toArray:=by
 obtain⟨h1,h2,h3⟩:=lT lo hi its.toArray.size
 unfold slicePick
 rw[h1,h2,h3]
 simp only[sliceRange_one,pick_run,List.size_toArray]<;>rfl
noncomputable def wx (K:PySem.W.Frag):V→Option Int→Option Int→Hp→VK→Prop:=fun x lo hi H Q=> ∃ a xs,x= .ref a∧SqL K H a xs∧∀ p,H p=none→Q (.ref p) (upd H p (.lst (eO xs lo hi)))
theorem sl_list:SlR X (wx X.K):=by
 intro pins s σ H x v vl vu lo hi sl Q I rx hs pl pu h
 obtain⟨a,xs,rfl,hx,q⟩:=h
 cases rx
 obtain⟨its,r,ht,hz⟩:=I.list hx
 have hlen:=r.length
 refine⟨"list",_,slot_list_getitem.lookup,ht.isList.typeIs,?_⟩
 refine wpAny_getItem_list_slice ht.isList hs pl pu .none (by simp) ?_ (by rw[List.size_toArray]<;>lia)
 rw[lg,←hlen]
 refine⟨.ref s.heap.objs.size,_,I.laid (t':=s.toks) (o:=.lst (eO xs lo hi)) (fun b ob q=>Heap.get?_push_of_some _ q) (Nat.le_refl _) ?_,rfl,q _ (I.hok.fresh (Nat.le_refl _))⟩
 exact⟨Nat.le_trans (iW xs lo hi) hz,_,0,(r.drop (HT.sIx xs.length 0 lo)).take (HT.sIx xs.length xs.length hi - HT.sIx xs.length 0 lo),Heap.get?_push_size _ rfl⟩
noncomputable def cz:V→Bool
 | .non=>true
 | .bl _=>true
 | .int _=>true
 | .str _=>true
 |_=>false
noncomputable def eqV:V→V→Bool
 | .non,.non=>true
 | .bl a,.bl b=>a==b
 | .bl a,.int b=>(if a then 1 else 0)==b
 | .int a,.bl b=>a==(if b then 1 else 0)
 | .int a,.int b=>a==b
 | .str a,.str b=>a==b
 |_,_=>false
theorem rM {A:Around} {s:Shared} {y x:V} {u v:Value} (ry:RelV y u) (rx:RelV x v) (fy:cz y=true) (fx:cz x=true):SeqAt.EqAt A s u v (eqV y x):=by
 cases y with
 |non=>
  cases ry
  cases x with
  |non=>cases rx;exact SeqAt.EqAt.same _
  |bl b=>cases rx;exact SeqAt.EqAt.none_bool b
  |int b=>obtain⟨t,rfl⟩:=rx;exact SeqAt.EqAt.none_int b t
  |str b=>obtain⟨t,rfl⟩:=rx;exact SeqAt.EqAt.none_str b t
  |_=>exact absurd (show false=true from fx) Bool.false_ne_true
 |bl a=>
  cases ry
  cases x with
  |non=>cases rx;exact SeqAt.EqAt.bool_none a
  |bl b=>cases rx;exact SeqAt.EqAt.bool_bool a b
  |int b=>obtain⟨t,rfl⟩:=rx;exact SeqAt.EqAt.bool_int a b t
  |str b=>obtain⟨t,rfl⟩:=rx;exact SeqAt.EqAt.bool_str a b t
  |_=>exact absurd (show false=true from fx) Bool.false_ne_true
 |int a=>
  obtain⟨t',rfl⟩:=ry
  cases x with
  |non=>cases rx;exact SeqAt.EqAt.int_none a t'
  |bl b=>cases rx;exact SeqAt.EqAt.int_bool a t' b
  |int b=>obtain⟨t,rfl⟩:=rx;exact SeqAt.EqAt.int_int a t' b t
  |str b=>obtain⟨t,rfl⟩:=rx;exact SeqAt.EqAt.int_str a t' b t
  |_=>exact absurd (show false=true from fx) Bool.false_ne_true
 |str a=>
  obtain⟨t',rfl⟩:=ry
  cases x with
  |non=>cases rx;exact SeqAt.EqAt.str_none a t'
  |bl b=>cases rx;exact SeqAt.EqAt.str_bool a t' b
  |int b=>obtain⟨t,rfl⟩:=rx;exact SeqAt.EqAt.str_int a t' b t
  |str b=>obtain⟨t,rfl⟩:=rx;exact SeqAt.EqAt.str_str a t' b t
  |_=>exact absurd (show false=true from fx) Bool.false_ne_true
 |_=>exact absurd (show false=true from fy) Bool.false_ne_true
noncomputable def eqU (x:V) (u:Value):Bool:=match u with
 | .none=>eqV .non x
 | .bool b=>eqV (.bl b) x
 | .int i _=>eqV (.int i) x
 | .str z _=>eqV (.str z) x
 |_=>false
theorem rL {x y:V} {u:Value} (r:RelV y u) (f:cz y=true):eqU x u=eqV y x:=by
 cases y with
 |non=>cases r;rfl
 |bl b=>cases r;rfl
 |int i=>obtain⟨t,rfl⟩:=r;rfl
 |str z=>obtain⟨t,rfl⟩:=r;rfl
 |_=>exact absurd (show false=true from f) Bool.false_ne_true
theorem gv {x:V}: ∀ {xs:List V} {us:List Value},Vals xs us→xs.all cz=true→us.any (eqU x)=xs.any fun y=>eqV y x
 |_,_,.nil,_=>rfl
 |y::xs,u::us,.cons r t,f=>by
  rw[List.all_cons,Bool.and_eq_true] at f
  rw[List.any_cons,List.any_cons,rL r f.1,gv t f.2]
theorem fG {A:Around} {s:Shared} {x:V} {v:Value} (rx:RelV x v) (fx:cz x=true): ∀ {xs:List V} {us:List Value},Vals xs us→xs.all cz=true→∀ u∈us,SeqAt.EqAt A s u v (eqU x u)
 |_,_,.nil,_=>fun u hu=>by cases hu
 |y::xs,u::us,.cons r t,f=>fun u' hu=>by
  rw[List.all_cons,Bool.and_eq_true] at f
  rcases List.mem_cons.mp hu with rfl|hu
  ·rw[rL r f.1];exact rM r rx f.1 fx
  ·exact fG rx fx t f.2 u' hu
noncomputable def inV (x:V) (xs:List V):Bool:=xs.any fun y=>eqV y x
noncomputable def rIn (K:PySem.W.Frag) (neg:Bool):R2:=fun x y H Q=> ∃ p xs,y= .ref p∧(SqL K H p xs∨SqT K H p xs)∧cz x=true∧xs.all cz=true∧Q (.bl (if neg then !inV x xs else inV x xs)) H
theorem rf:OpR X (compareOp .In) (rIn X.K false):=by
 intro pins s σ H x y v u Q I rx ry h
 obtain⟨p,xs,rfl,hq,fx,fs,q⟩:=h
 cases ry
 rcases hq with hq|hq
 ·obtain⟨its,r,pl,hz⟩:=I.list hq
  refine SeqAt.in_listAt (eqU x) pl.isList (fun w hw=>fG rx fx r fs w (by simpa using hw)) ⟨.bl _,H,I,rfl,?_⟩
  rw[show its.toArray.any (eqU x)=its.any (eqU x) by simp,gv r fs]
  exact q
 ·obtain⟨its,r,pl,hz⟩:=I.tuple hq
  refine SeqAt.in_tupleAt (eqU x) pl (fun w hw=>fG rx fx r fs w (by simpa using hw)) ⟨.bl _,H,I,rfl,?_⟩
  rw[show its.toArray.any (eqU x)=its.any (eqU x) by simp,gv r fs]
  exact q
theorem mB:OpR X (compareOp .NotIn) (rIn X.K true):=by
 intro pins s σ H x y v u Q I rx ry h
 obtain⟨p,xs,rfl,hq,fx,fs,q⟩:=h
 cases ry
 rcases hq with hq|hq
 ·obtain⟨its,r,pl,hz⟩:=I.list hq
  refine SeqAt.notIn_listAt (eqU x) pl.isList (fun w hw=>fG rx fx r fs w (by simpa using hw)) ⟨.bl _,H,I,rfl,?_⟩
  rw[show its.toArray.any (eqU x)=its.any (eqU x) by simp,gv r fs]
  exact q
 ·obtain⟨its,r,pl,hz⟩:=I.tuple hq
  refine SeqAt.notIn_tupleAt (eqU x) pl (fun w hw=>fG rx fx r fs w (by simpa using hw)) ⟨.bl _,H,I,rfl,?_⟩
  rw[show its.toArray.any (eqU x)=its.any (eqU x) by simp,gv r fs]
  exact q
theorem mz:OpR X (compareOp .NotIn) (fun x y H Q=> ∃ i j,x= .str i∧y= .str j∧Q (.bl (!(!(Builtin.Str.occurrences j i 0 j.length 1).isEmpty))) H):=by
 intro pins s σ H x y v u Q I rx ry h
 obtain⟨i,j,rfl,rfl,q⟩:=h
 obtain⟨t,rfl⟩:=rx
 obtain⟨t',rfl⟩:=ry
 exact notIn_str ⟨.bl _,H,I,rfl,q⟩
theorem dw:dH X (.type "tuple") (fun xs H Q=> ∃ p ys,xs=[.ref p]∧((SqL X.K H p ys∧∀ l,H l=none→Q (.ref l) (upd H l (.tup ys)))∨(SqT X.K H p ys∧Q (.ref p) H))):=by
 intro pins s σ H xs us Q I r h
 obtain⟨p,ys,rfl,h⟩:=h
 obtain⟨u,rfl,rx⟩:=vals1 r
 cases rx
 rcases h with⟨hq,q⟩|⟨hq,q⟩
 ·obtain⟨its,r',pl,hz⟩:=I.list hq
  have hlen:=r'.length
  refine call_tuple_list pl.isList (fun h' kp=>?_) (by simp only[List.size_toArray]<;>lia)
  have I1:Inv X pins σ H {s with heap:=h'}:=I.kept (t':=s.toks) kp
  have I2:Inv X pins σ (upd H h'.objs.size (.tup ys)) {s with heap:=h'.push {cls:=.type "tuple",data:=.seq its.toArray}}:=
   I1.laid (t':=s.toks) (fun b o e=>Heap.get?_push_of_some _ e) (Nat.le_refl _) (show ObjOk X.prog X.w _ _ _ (.tup ys) from⟨hz,its,r',IsTup.new _ _⟩)
  exact⟨.ref h'.objs.size,_,I2,rfl,q _ (I1.hok.fresh (Nat.le_refl _))⟩
 ·obtain⟨its,r',pl,hz⟩:=I.tuple hq
  exact call_tuple_same pl ⟨.ref p,H,I,rfl,q⟩
noncomputable def tyV (K:PySem.W.Frag) (T:String) (x:V) (H:Hp):Prop:=match x with
 | .str _=>T="str"
 | .int _=>T="int"
 | .ref p=>(T="list"∧∃ xs,SqL K H p xs)∨(T="tuple"∧∃ o,K.lookup p=some o∧o.cls= .type "tuple"∧o.dict=none)∨
   (T="dict"∧((∃ kvs,Rd H p (.dK kvs))∨∃ kvs,H p=some (.dT kvs)))∨(T="set"∧∃ S n,H p=some (.set S n))
 |_=>False
theorem v5 {pins:List (Addr×Obj)} {σ:St} {H:Hp} {s:Shared} {T:String} {x:V} {v:Value} (I:Inv X pins σ H s) (r:RelV x v) (ty:tyV X.K T x H):
  s.TypeIs v T∧∀ a,v= .ref a→∃ ob,s.heap.get? a=some ob∧ob.dict=none:=by
 cases x with
 |str z=>
  obtain⟨t,rfl⟩:=r
  cases (show T="str" from ty)
  exact⟨typeIs_str s z t,fun _ e=>nomatch e⟩
 |int i=>
  obtain⟨t,rfl⟩:=r
  cases (show T="int" from ty)
  exact⟨typeIs_int s i t,fun _ e=>nomatch e⟩
 |ref p=>
  cases r
  rcases ty with⟨rfl,xs,hq⟩|⟨rfl,o,hk,hc,hd⟩|⟨rfl,hk⟩|⟨rfl,S,n,hk⟩
  ·obtain⟨its,_,pl,_⟩:=I.list hq
   refine⟨pl.isList.typeIs,fun a e=>?_⟩
   cases e
   obtain⟨o,n,e,c,hd,_⟩:=pl
   exact⟨o,e,hd⟩
  ·refine⟨⟨o,I.kIn p o hk,hc⟩,fun a e=>?_⟩
   cases e
   exact⟨o,I.kIn _ o hk,hd⟩
  ·have z: ∃ o,s.heap.get? p=some o∧o.ExactDict:=by
    rcases hk with⟨kvs,hk⟩|⟨kvs,hk⟩
    ·obtain⟨_,_,_,_,o,_,_,e,ex,_⟩:=hk.ok I.hok
     exact⟨o,e,ex⟩
    ·obtain⟨_,_,_,_,o,_,_,e,ex,_⟩:=I.hok p _ hk
     exact⟨o,e,ex⟩
   obtain⟨o,e,ex⟩:=z
   refine⟨⟨o,e,ex.1⟩,fun a e2=>?_⟩
   cases e2
   exact⟨o,e,ex.2.1⟩
  ·obtain⟨o,_,_,_,e,ex,_⟩:=I.hok p _ hk
   refine⟨⟨o,e,ex.1⟩,fun a e2=>?_⟩
   cases e2
   exact⟨o,e,ex.2.1⟩
 |_=>exact False.elim ty
noncomputable def tBM (K:PySem.W.Frag) (T:String) (r:V→List V→Hp→VK→Prop) (to:TE) (t:TA):TE:=fun σ H Q=>to σ H fun x H1=>tyV K T x H1∧t σ H1 fun xs H2=>r x xs H2 Q
variable {o e:Expr} {es:List Expr} {to:TE} {t:TA} {name:Str} {apos cpos:Pos} {T id:String} {r:V→List V→Hp→VK→Prop}
theorem yh (pa:PlainAttrs T) (slot:Slot T name id) (hty:typeOf (.builtin id)=pure (.type "method_descriptor")) (hm:MtR X id r) (ho:PE X o to) (ha:PA X (e::es) t)
  (hbase:attributeBase o name X.env (eval o X.env)=eval o X.env:=by rfl)
  (hfew:((backTo cpos (starEach (e::es) X.env)).all (fun x=>!x.1)&&(backToKw cpos (keywordEach [] X.env)).all (fun x=>x.1.isSome)
   &&decide ((e::es).length+([]:List Keyword).length+(if([]:List Keyword).isEmpty then 0 else 1) < 30))=true:=by rfl)
  (hline:(apos.endLine==cpos.line)=true:=by rfl) (hs:starEach (e::es) X.env=(false,eval e X.env)::starEach es X.env:=by rfl) (hplain:(backTo cpos (starEach es X.env)).any (·.1)=false:=by rfl):
  PE X (.Call (.Attribute o name apos) (e::es) [] cpos) (tBM X.K T r to t):=by
 intro pins s σ H Q I h
 refine wpAny_Call_method_late hbase hfew hline rfl (thn (ho pins s σ H _ I h) fun v s1 ⟨x,H1,I1,r1,ty,q1⟩=>?_)
 obtain⟨h1,h2⟩:=v5 I1 r1 ty
 refine⟨T,id,pa,slot,hty,h1,h2,?_⟩
 have hA:=ha cpos pins s1 σ H1 _ I1 q1
 rw[hs] at hA ⊢
 refine Calls.callWith_builtin (by show (false||(backTo cpos (starEach es X.env)).any (·.1))=false;rw[hplain]<;>rfl) (Calls.evalArgs_plain ?_)
 exact thn hA fun us s2 ⟨vs,H2,I2,r2,q2⟩=>hm pins s2 σ H2 x vs v us Q I2 r1 r2 q2
end
end L2
namespace L2
open PySem PySem.Spec PyProof.Rows
noncomputable def MtM (X:Cx) (id:String) (r:V→List V→Hp→VK→Prop):Prop:=
 ∀ (pins:List (Addr×Obj)) (s:Shared) (σ:St) (H:Hp) (x:V) (xs:List V) (v:Value) (us:List Value) (Q:VK),Inv X pins σ H s→RelV x v→Vals xs us→r x xs H Q→
  wpAny (model X.prog X.w) X.A (call (.builtin id) (v::us)) (EP X pins σ Q) X.xe s
theorem Vals.one: ∀ {x:V} {us:List Value},Vals [x] us→∃ u,us=[u]∧RelV x u
 |_,_,.cons r .nil=>⟨_,rfl,r⟩
theorem Vals.rep {xs:List V} {us:List Value} (h:Vals xs us): ∀ k:Nat,Vals (List.replicate k xs).flatten (List.replicate k us).flatten
 |0=>.nil
 |k+1=>by
  rw[List.replicate_succ,List.replicate_succ,List.flatten_cons,List.flatten_cons]
  exact Vals.append h (Vals.rep h k)
theorem foldl_rep (its:List Value): ∀ (k:Nat) (acc:List Value),
  List.foldl (fun x1 x2=>x1++x2) acc.toArray (List.replicate k its.toArray)=(acc++(List.replicate k its).flatten).toArray
 |0,acc=>by simp
 |k+1,acc=>by
  have e:acc.toArray++its.toArray=(acc++its).toArray:=by simp
  have e2:(acc++its)++(List.replicate k its).flatten=acc++(List.replicate (k+1) its).flatten:=by
   rw[List.replicate_succ,List.flatten_cons,List.append_assoc]
  rw[←e2,←foldl_rep its k (acc++its),←e,List.replicate_succ,List.foldl_cons]
section
variable {X:Cx} {pins:List (Addr×Obj)} {σ:St} {H:Hp} {s:Shared} {l b:Addr} {xs ys zs:List V}
theorem Inv.lset {its its':List Value} {n:Nat} {f:Array Value→Array Value} {t':Nat} (I:Inv X pins σ H s) (hH:H l=some (.lst xs))
  (e:s.heap.get? l=some {cls:=.type "list",data:=.seq its.toArray n}) (hf:f its.toArray=its'.toArray) (hv:Vals ys its') (hz:ys.length≤sizeLine):
  Inv X pins σ (upd H l (.lst ys)) {s with heap:=s.heap.update l (Obj.mapSeq f),toks:=t'}:=by
 have q:=PySem.IsL.update e f
 rw[hf] at q
 refine I.write (x:=l) (e:=l) (by rw[hH];exact trivial) (.inl rfl) (fun b' u hb hu=>(Heap.get?_update_other s.heap (Obj.mapSeq f) (Ne.symm hb)).trans hu) ⟨_,q⟩ ?_
 exact⟨hz,its',_,hv,q⟩
theorem Inv.lnew {its:List Value} {t':Nat} (I:Inv X pins σ H s) (hv:Vals ys its) (hz:ys.length≤sizeLine):
  Inv X pins σ (upd H s.heap.objs.size (.lst ys)) {s with heap:=s.heap.push {cls:=.type "list",data:=.seq its.toArray},toks:=t'}:=
 I.laid (fun _ _ q=>Heap.get?_push_of_some _ q) (Nat.le_refl _) ⟨hz,its,0,hv,Heap.get?_push_size _ rfl⟩
theorem Inv.fresh (I:Inv X pins σ H s):H s.heap.objs.size=none:=I.hok.fresh (Nat.le_refl _)
theorem Inv.lstM (I:Inv X pins σ H s) (hH:H l=some (.lst xs)):xs.length≤sizeLine∧∃ (its:List Value) (n:Nat),Vals xs its∧xs.length=its.length∧s.heap.get? l=some {cls:=.type "list",data:=.seq its.toArray n}:=by
 obtain⟨z,its,n,r,e⟩:=I.hok l _ hH
 exact⟨z,its,n,r,r.length,e⟩
theorem sZ {n:Nat} (h:n≤sizeLine):Builtin.List.listTooLong n=false:=by
 unfold Builtin.List.listTooLong
 exact decide_eq_false (by first|decide|lia)
end
section
variable {X:Cx}
noncomputable def oJ:V→List V→Hp→VK→Prop:=fun x vs H Q=> ∃ l xs y,x= .ref l∧vs=[y]∧H l=some (.lst xs)∧xs.length < sizeLine∧Q .non (upd H l (.lst (xs++[y])))
theorem cZ:MtM X "list.append" oJ:=by
 intro pins s σ H x vs v us Q I rx rv h
 obtain⟨l,xs,y,rfl,rfl,hH,hz,q⟩:=h
 cases rx
 obtain⟨u,rfl,ru⟩:=rv.one
 obtain⟨z,its,n,r,hl,e⟩:=I.lstM hH
 refine call_meets F.slot_list_append ⟨_,e,rfl⟩ F.entry_list_append (F.args_list_append_2 _ _) (PySem.list_append l its.toArray n u (by rw[List.size_toArray];lia)) ⟨e,?_⟩
 refine⟨.non,_,I.lset (its':=its++[u]) hH e (by simp) (r.append (.cons ru .nil)) ?_,rfl,q⟩
 rw[List.length_append,List.length_singleton]
 lia
noncomputable def sH:R2:=fun x y H Q=> ∃ l b xs zs,x= .ref l∧y= .ref b∧H l=some (.lst xs)∧H b=some (.lst zs)∧xs.length+zs.length≤sizeLine∧∀ p,H p=none→Q (.ref p) (upd H p (.lst (xs++zs)))
theorem op_cat:OpR X (binaryOp .Add) sH:=by
 intro pins s σ H x y v u Q I rx ry h
 obtain⟨l,b,xs,zs,rfl,rfl,hH,hB,hz,q⟩:=h
 cases rx
 cases ry
 obtain⟨z,its,n,r,hl,e⟩:=I.lstM hH
 obtain⟨z2,its2,n2,r2,hl2,e2⟩:=I.lstM hB
 refine PySem.P.add_list e e2 ?_ (by rw[List.size_toArray,List.size_toArray];lia)
 have ea:its.toArray++its2.toArray=(its++its2).toArray:=by simp
 rw[ea]
 exact⟨.ref _,_,I.lnew (t':=s.toks) (r.append r2) (by rw[List.length_append];lia),rfl,q _ I.fresh⟩
noncomputable def wC:R2:=fun x y H Q=> ∃ l k xs,x= .ref l∧y= .int k∧H l=some (.lst xs)∧-(2 ^ 63)≤k∧k < 2 ^ 63∧xs.length * k.toNat≤sizeLine∧
 ∀ p,H p=none→Q (.ref p) (upd H p (.lst (List.replicate k.toNat xs).flatten))
theorem len_rep {α:Type} (xs:List α) (k:Nat):(List.replicate k xs).flatten.length=k * xs.length:=by
 induction k with
 |zero=>simp
 |succ k ih=>rw[List.replicate_succ,List.flatten_cons,List.length_append,ih,Nat.succ_mul,Nat.add_comm]
theorem wZ:OpR X (binaryOp .Mult) wC:=by
 intro pins s σ H x y v u Q I rx ry h
 obtain⟨l,k,xs,rfl,rfl,hH,h1,h2,hz,q⟩:=h
 cases rx
 obtain⟨t,rfl⟩:=ry
 obtain⟨z,its,n,r,hl,e⟩:=I.lstM hH
 have hlen:its.toArray.size * k.toNat≤sizeLine:=by rw[List.size_toArray,←hl];exact hz
 have hcap: ¬ its.toArray.size * k.toNat > (2 ^ 63 - 1) / 8:=by
  have:(sizeLine:Nat)≤(2 ^ 63 - 1) / 8:=by decide
  lia
 have hfit: ¬ (!Builtin.List.listFitsIndex k)=true:=by
  rw[fitsIndex_both h1 h2]
  exact Bool.false_ne_true
 have hlong: ¬ Builtin.List.listTooLong (its.toArray.size * k.toNat)=true:=by
  rw[sZ hlen]
  exact Bool.false_ne_true
 have hnew:List.foldl (fun x1 x2=>x1++x2) #[] (List.replicate (if its.toArray.isEmpty=true then 0 else k.toNat) its.toArray)=(List.replicate k.toNat its).flatten.toArray:=by
  have f0: ∀ m:Nat,List.foldl (fun x1 x2=>x1++x2) #[] (List.replicate m its.toArray)=(List.replicate m its).flatten.toArray:=fun m=>by
   have:=foldl_rep its m []
   rw[List.nil_append] at this
   exact this
  rw[f0]
  cases its with
  |nil=>simp
  |cons a r'=>rw[if_neg (by simp)]
 refine wpAny_binaryOp_repeat_ref (T:="list") (U:="int") (by decide) ⟨_,e,rfl⟩ (fun s'=>typeIs_int s' k t) noFill_list_mul F.fills_int_mul F.slot_int_rmul repeat_list F.slot_int_index.lookup
  (call_meets F.slot_int_rmul (typeIs_int s k t) F.entry_int_rmul (F.args_int_rmul_2 _ _) (int___rmul___int_list k t l its.toArray n)
   ⟨e,rfl,⟨_,e,rfl⟩,call_meets F.slot_list_mul ⟨_,e,rfl⟩ F.entry_list_mul (F.args_list_mul_2 _ _) (AutoListH.list___mul___list_int_3 l its.toArray n k t hfit hcap hlong) ⟨e,?_⟩⟩)
 rw[hnew]
 exact⟨.ref _,_,I.lnew (t':=s.toks) (r.rep k.toNat) (by rw[len_rep,Nat.mul_comm];exact hz),rfl,q _ I.fresh⟩
end
end L2
namespace Att
open PySem PySem.W PySem.Calls PyProof.Rows
theorem jE {P:Params} {h:Heap}: ∀ (ns:List Int) (vs:List Value),WellAll P h vs (ns.map WData.int)→IntsAre vs ns:=by
 intro ns
 induction ns with
 |nil=>
  intro vs w
  rw[List.map_nil] at w
  cases w
  exact .nil
 |cons n ns ih=>
  intro vs w
  rw[List.map_cons] at w
  cases w with
  |cons a b=>
   cases a
   exact .cons _ _ (ih _ b)
theorem qH {l:OpenLaw} {n:Nat} (hn:l.most=some n) {P:Params} {h:Heap} {args:List WData} {vals:List Value}
  (hpre:l.row.toRowW.claim.pre args=true) (hwl:WellAll P h vals args):
  ∃ a vs ns,vals=[Value.ref a]∧args=[WData.list (ns.map WData.int)]∧h.get? a=some {cls:=.type "list",data:=.seq vs.toArray}∧IntsAre vs ns∧ns.length≤n:=by
 have hsh:WShape.hasAll [] args [.list .int]=true:=(pre_splitW hpre).1
 have hc:l.pre.holds [] {args:=args}=true:=(pre_splitW hpre).2
 obtain⟨d,r,rfl,h1,h2⟩:=hasAllW_cons hsh
 obtain rfl:=hasAllW_nil h2
 obtain⟨xs,rfl,h3⟩:=hasW_list h1
 obtain⟨ns,rfl⟩:=items_int h3
 have hlen:ns.length≤n:=by
  unfold OpenLaw.pre at hc
  have h4:(WTm.not (.lt (.lit (.int (n:Int))) (.len (.arg 0)))).holds [] {args:=[.list (ns.map .int)]}=true:=by
   have h4:=(holds_andW hc).1
   rw[hn] at h4
   exact h4
  have h5:=condW_of h4 (w_not (w_lt w_lit (w_len_list (w_arg rfl))))
  rw[List.length_map] at h5
  refine Nat.le_of_not_lt fun q=>?_
  have q':(n:Int) < ((ns.length:Nat):Int):=by lia
  first
   |(rw[decide_eq_true q'] at h5;exact absurd h5 (by decide))
   |(simp at h5;lia)
 cases hwl with
 |cons w1 w2=>
  cases w2
  cases w1 with
  |list ho hall=>exact⟨_,_,ns,rfl,rfl,ho,jE ns _ hall,hlen⟩
theorem qL (l:OpenLaw) (args:List WData):l.row.toRowW.claim.post args (.bool true) args=true:=
 postW_of (r:=l.row.toRowW) (X:=(true==true))
  (show WShape.has [] (.bool true) .bool=true by first|rfl|decide|simp[WShape.has,WShape.arms,WShape.armsAll])
  (show (WTm.eq .res (.lit (.bool true))).value [] {args:=args,res:=some (.bool true),after:=args}=some (.bool (true==true)) from w_eq_bool (w_res rfl) w_lit) rfl
theorem attach_call {l:OpenLaw} {n:Nat} {q:Program} {loose:List Str} {XP:(Str→Option Value)→Heap→Prop} {YP:World→Heap→Prop} {d:DefRec}
  (hn:l.most=some n) (hdf:d.params.defaults=[])
  (call: ∀ (w:World) (s₀ s₁:Shared) (mg mb:Str→Option Value) (fa:Addr) (o:Obj) (pm cd doc:Value) (a:Addr) (vs:List Value) (ns:List Int),
   Ground q loose [] XP w s₀ mg mb s₁.heap→YP w s₁.heap→
   s₁.heap.get? fa=some o→o.data= .func (docDef d.name d.params d.body d.scope pm cd doc)→s₁.heap.CodeRec cd d.name→mg d.name=some (.ref fa)→
   s₁.heap.get? a=some {cls:=.type "list",data:=.seq vs.toArray}→IntsAre vs ns→ns.length≤n→s₁.gens= #[]→
   codeAny (model l.prog w) callerA (.call (.ref fa) ⟨[.ref a],[]⟩) (fun r s'=>r= .ok (.ret (.bool true))∧OldK s₁.heap s'.heap∧s'.os=s₁.os∧AllBare s'.gens) s₁):
  WalkO q loose XP YP l.row.toRowW d [] (fun f vs=>PySem.call f vs):=by
 intro w s₀ s₁ mg mb G Y fa o pm cd doc dV kV ho hd hcd hD hmg hg args vals as hpre hlay hrd hwl hlo
 obtain rfl:dV= .none:=Dflts.none hD hdf
 obtain rfl:kV= .none:=Dflts.noKw hD
 obtain⟨a,vs,ns,rfl,rfl,hobj,hints,hlen⟩:=qH hn hpre hwl
 refine enter_call (codeAny_mono (call w s₀ s₁ mg mb fa o pm cd doc a vs ns G Y ho (fd_plain hd) hcd hmg hobj hints hlen hg) fun r s' hq=>?_)
 obtain⟨rfl,h2,h3,h4⟩:=hq
 exact⟨.inl ⟨.bool true,.bool true,[],rfl,fun _=>rfl,.bool true,qL l _,fun _=>⟨List.Pairwise.nil,fun _ hm=>(nomatch hm)⟩⟩,h2,h3,h4⟩
end Att
namespace L2
open PySem PySem.Spec PyProof.Rows
theorem gU: ∀ {vs:List Value} {ns:List Int},IntsAre vs ns→Vals (ns.map V.int) vs
 |_,_,.nil=>.nil
 |_,_,.cons n t h=>.cons ⟨t,rfl⟩ (gU h)
end L2
namespace L2
open PySem PySem.Spec PyProof.Rows
end L2
namespace L2
open PySem PySem.Spec PyProof.Rows
noncomputable def aV (s:Stmt):Arguments:=match s with
 | .FunctionDef _ a _ _ _ _ _ _ _ _=>a
 |_=>{posonlyargs:=[],args:=[],vararg:=none,kwonlyargs:=[],kw_defaults:=[],kwarg:=none,defaults:=[]}
noncomputable def au (s:Stmt):List Stmt:=match s with
 | .FunctionDef _ _ b _ _ _ _ _ _ _=>b
 |_=>[]
noncomputable def ak (s:Stmt):Scope:=match s with
 | .FunctionDef _ _ _ _ _ _ sc _ _ _=>sc
 |_=>{kind:=.function,names:=[],isGenerator:=false,isCoroutine:=false}
noncomputable abbrev CX0:CXT:=fun _ _ _ _ _ _=>False
noncomputable abbrev E0:XK:=fun _ _ _=>False
theorem aE {X:Cx}:Passes CX0 X E0:=fun _ _ _ _ _ _ _ h=>h.elim
set_option genInjectivity false in
structure Fun (K:PySem.W.Frag) (x qual:Str) (st:Stmt) (f:Addr) (fd:FuncData):Prop where
 ex: ∃ (oc:Value) (od:Option Addr) (kV doc pm:Value) (an:Option Addr) (cdv ct:Value) (osl:Array (Option Value)),
  fd=PySem.W.fnOf x qual (aV st) (au st) (ak st) .none kV doc pm an cdv ct∧K.lookup f=some ⟨oc,od,.func fd,osl⟩∧PySem.W.codeIn K cdv qual=true
 kp:PySem.W.keepIn K (.ref f)=true
section
variable {P:Program} {w:World} {K:PySem.W.Frag} {mg:Str→Option Value} {base:Heap}
theorem Fun.ok {x qual:Str} {st:Stmt} {f:Addr} {fd:FuncData} {N ps:List Str} {k:Nat} {sp:Sp} (F:Fun K x qual st f fd) (S:FnScope N ps (ak st)) (len: ∀ vs H Q E,sp vs H Q E→vs.length=ps.length)
  (hbody: ∀ (cdv:Value) (A:Around) (outer:List Env) (s:Shared) (H:Hp) (vs:List V) (Q:VK) (E:XK),Room k (A.deeper (envOfC qual (ak st) s.heap.objs.size f cdv))→sp vs H Q E→
   ∃ t,PSs (dn CX0 P w K mg base N qual (ak st) f cdv A outer s H E).nox (au st) t∧t {nx:=fun _ H'=>Q .non H',rt:=Q} (start N vs) H):FnOk P w K mg base CX0 (k+1) f fd ps sp:=by
 obtain⟨oc,od,kV,doc,pm,an,cdv,ct,osl,rfl,lk,hcd⟩:=F.ex
 refine uG lk hcd S len fun A outer s H vs Q E hr hsp=>?_
 obtain⟨t,h,q⟩:=hbody cdv A outer s H vs Q E hr hsp
 exact⟨t,h.nox,q⟩
theorem Fun.binds {x qual:Str} {st:Stmt} {f:Addr} {fd:FuncData} {ps:List Str} (F:Fun K x qual st f fd)
  (h: ∀ (kV doc pm:Value) (an:Option Addr) (cdv ct:Value) (us:List Value),us.length=ps.length→bindArgs (PySem.W.fnOf x qual (aV st) (au st) (ak st) .none kV doc pm an cdv ct) ⟨us,[]⟩=pure (ps.zip us)):Binds K fd ps []:=by
 obtain⟨oc,od,kV,doc,pm,an,cdv,ct,osl,rfl,lk,hcd⟩:=F.ex
 exact .all (h kV doc pm an cdv ct)
theorem bh {x qual:Str} {st:Stmt} {f:Addr} {oc:Value} {od an:Option Addr} {osl:Array (Option Value)} {kV doc pm cdv ct:Value} (l:K.lookup f=some ⟨oc,od,.func (PySem.W.fnOf x qual (aV st) (au st) (ak st) .none kV doc pm an cdv ct),osl⟩)
  (c:PySem.W.codeIn K cdv qual=true) (k:PySem.W.keepIn K (.ref f)=true):Fun K x qual st f (PySem.W.fnOf x qual (aV st) (au st) (ak st) .none kV doc pm an cdv ct):=⟨⟨oc,od,kV,doc,pm,an,cdv,ct,osl,rfl,l,c⟩,k⟩
end
theorem iN {A:Around} {k:Nat} (hr:Room k A):A.units+1 < cLine:=Nat.lt_of_le_of_lt (Nat.add_le_add_left (by decide:1≤64) _) hr.units
section
variable {X:Cx}
theorem pv (i:Nat) {x:Str} {pos:Pos} (hN:X.N[i]?=some x:=by rfl) (hv:Vis X.env.scope x:=by first|exact Or.inl rfl|exact Or.inr (Or.inl rfl)|exact Or.inr (Or.inr rfl)) (hd:(x==("__debug__":Str))=false:=by decide)
  (hcd:(x==("__classdict__":Str))=false:=by decide):PE X (.Name x pos) (fB i):=qR hN hv hd hcd
end
theorem tM {c A B:Prop} [Decidable c] (h1:c→A) (h2: ¬ c→B):if c then A else B:=by
 by_cases h:c
 ·rw[if_pos h]
  exact h1 h
 ·rw[if_neg h]
  exact h2 h
noncomputable def Same (H H':Hp):Prop:= ∀ b o,H b=some o→H' b=some o
theorem Same.trans {H H1 H2:Hp} (a:Same H H1) (b:Same H1 H2):Same H H2:=fun c o h=>b c o (a c o h)
theorem Same.seq {K:PySem.W.Frag} {H H':Hp} {a:Addr} {xs:List V} (e:Same H H') (h:SqL K H a xs):SqL K H' a xs:=by
 rcases h with(h|⟨o,h⟩)|h
 ·exact .inl (.inl (e _ _ h))
 ·exact .inl (.inr ⟨o,e _ _ h⟩)
 ·exact .inr h
end L2
end
namespace L2
section
variable {κ:Type} [DecidableEq κ]
noncomputable def eF (kvs:List (κ×V)) (k:κ):Option V:=(kvs.find? fun kv=>decide (kv.1=k)).map (·.2)
noncomputable def putK (kvs:List (κ×V)) (k:κ) (v:V):List (κ×V):=
 if(kvs.any fun kv=>decide (kv.1=k))=true then kvs.map (fun kv=>if kv.1=k then(kv.1,v) else kv) else kvs++[(k,v)]
theorem gx {p:κ×V} {r:List (κ×V)} {k:κ} (e:p.1=k):eF (p::r) k=some p.2:=by simp[eF,List.find?_cons,e]
theorem gy {p:κ×V} {r:List (κ×V)} {k:κ} (e: ¬ p.1=k):eF (p::r) k=eF r k:=by simp[eF,List.find?_cons,e]
theorem lI (k:κ): ∀ kvs:List (κ×V),(kvs.any fun kv=>decide (kv.1=k))=(eF kvs k).isSome
 |[]=>rfl
 |p::r=>by
  rw[List.any_cons]
  by_cases e:p.1=k
  ·simp only[gx e,decide_eq_true e,Bool.true_or,Option.isSome_some]
  ·rw[gy e,decide_eq_false e,Bool.false_or];exact lI k r
theorem iU (kvs:List (κ×V)) (k:κ) (v:V):(putK kvs k v).length≤kvs.length+1:=by
 unfold putK
 split
 ·rw[List.length_map];lia
 ·rw[List.length_append,List.length_cons,List.length_nil];lia
theorem RelO.isSome_eq {o:Option V} {u:Option Value} (r:RelO o u):o.isSome=u.isSome:=by
 cases o with
 |none=>cases u with
  |none=>rfl
  |some _=>exact(show False from r).elim
 |some _=>cases u with
  |none=>exact(show False from r).elim
  |some _=>rfl
theorem KV.val {kvs:List (κ×V)} {vs:List (κ×Value)} (r:KV kvs vs) (k:κ):RelO (eF kvs k) (valueAt vs k):=by
 unfold KV at r
 induction r with
 |nil=>exact True.intro
 | @cons p q ps qs h t ih=>
  obtain⟨h1,h2⟩:=h
  by_cases e:p.1=k
  ·have e':q.1=k:=h1.symm.trans e
   have b:valueAt (q::qs) k=some q.2:=by simp[valueAt,List.find?_cons,e']
   rw[gx e,b];exact h2
  ·have e': ¬ q.1=k:=fun z=>e (h1.trans z)
   have b:valueAt (q::qs) k=valueAt qs k:=by simp[valueAt,List.find?_cons,e']
   rw[gy e,b];exact ih
theorem KV.any {kvs:List (κ×V)} {vs:List (κ×Value)} (r:KV kvs vs) (k:κ):(kvs.any fun kv=>decide (kv.1=k))=vs.any fun kv=>decide (kv.1=k):=by
 unfold KV at r
 induction r with
 |nil=>rfl
 |cons h t ih=>rw[List.any_cons,List.any_cons,ih,h.1]
theorem KV.repl {kvs:List (κ×V)} {vs:List (κ×Value)} (r:KV kvs vs) (k:κ) {y:V} {u:Value} (ry:RelV y u):
  KV (kvs.map fun kv=>if kv.1=k then(kv.1,y) else kv) (vs.map fun kv=>if kv.1=k then(kv.1,u) else kv):=by
 unfold KV at r ⊢
 induction r with
 |nil=>exact .nil
 | @cons p q ps qs h t ih=>
  rw[List.map_cons,List.map_cons]
  refine .cons ?_ ih
  obtain⟨h1,h2⟩:=h
  by_cases e:p.1=k
  ·rw[if_pos e,if_pos (h1.symm.trans e)];exact⟨h1,ry⟩
  ·rw[if_neg e,if_neg (fun z=>e (h1.trans z))];exact⟨h1,h2⟩
theorem KV.put {kvs:List (κ×V)} {vs:List (κ×Value)} (r:KV kvs vs) (k:κ) {y:V} {u:Value} (ry:RelV y u):KV (putK kvs k y) (stored vs k u):=by
 unfold putK stored
 rw[r.any k]
 by_cases e:(vs.any fun kv=>decide (kv.1=k))=true
 ·rw[if_pos e,if_pos e];exact r.repl k ry
 ·rw[if_neg e,if_neg e];exact Paired.snoc r ⟨rfl,ry⟩
theorem KV.keys {kvs:List (κ×V)} {vs:List (κ×Value)} (r:KV kvs vs):kvs.map (·.1)=vs.map (·.1):=by
 unfold KV at r
 induction r with
 |nil=>rfl
 |cons h t ih=>rw[List.map_cons,List.map_cons,ih,h.1]
theorem KV.length {kvs:List (κ×V)} {vs:List (κ×Value)} (r:KV kvs vs):kvs.length=vs.length:=Paired.length r
end
theorem lB {P:Program} {w:World} {k:Key} {u:Value} (r:RelV (kV k) u):(bE P w).is k u=true:=by
 cases k with
 |inl i=>obtain⟨t,e⟩:=(show ∃ t,u=Value.int i t from r);subst e;exact om P w i t
 |inr x=>obtain⟨t,e⟩:=(show ∃ t,u=Value.str x t from r);subst e;exact oh P w x t
theorem kI {P:Program} {w:World}: ∀ {ks:List Key} {us:List Value},Vals (ks.map kV) us→ItemsAre (bE P w) ks us
 |[],_,r=>by rw[List.map_nil] at r;cases r;exact .nil
 |k::ks,_,r=>by
  rw[List.map_cons] at r
  cases r with
  |cons h t=>exact .cons (lB h) (kI t)
noncomputable abbrev KT (H:Hp):List (List Key×V)→List (List Key×Addr×Value)→Prop:=Paired fun p q=>p.1=q.1∧H q.2.1=some (.tup (p.1.map kV))∧RelV p.2 q.2.2
theorem KT.val {H:Hp} {kvs:List (List Key×V)} {xs:List (List Key×Addr×Value)} (r:KT H kvs xs) (k:List Key):RelO (eF kvs k) ((atKey xs k).map (·.2)):=by
 induction r with
 |nil=>exact True.intro
 | @cons p q ps qs h t ih=>
  obtain⟨h1,_,h2⟩:=h
  by_cases e:p.1=k
  ·have e':q.1=k:=h1.symm.trans e
   have b:atKey (q::qs) k=some q.2:=by simp[atKey,List.find?_cons,e']
   rw[gx e,b];exact h2
  ·have e': ¬ q.1=k:=fun z=>e (h1.trans z)
   have b:atKey (q::qs) k=atKey qs k:=by simp[atKey,List.find?_cons,e']
   rw[gy e,b];exact ih
theorem KT.repl {H:Hp} {kvs:List (List Key×V)} {xs:List (List Key×Addr×Value)} (r:KT H kvs xs) (k:List Key) {y:V} {u:Value} (ry:RelV y u):
  KT H (kvs.map fun kv=>if kv.1=k then(kv.1,y) else kv) (xs.map (putAt k u)):=by
 induction r with
 |nil=>exact .nil
 | @cons p q ps qs h t ih=>
  rw[List.map_cons,List.map_cons]
  refine .cons ?_ ih
  obtain⟨h1,h2,h3⟩:=h
  unfold putAt
  by_cases e:p.1=k
  ·rw[if_pos e,if_pos (h1.symm.trans e)];exact⟨h1,h2,ry⟩
  ·rw[if_neg e,if_neg (fun z=>e (h1.trans z))];exact⟨h1,h2,h3⟩
theorem KT.put {H:Hp} {kvs:List (List Key×V)} {xs:List (List Key×Addr×Value)} (r:KT H kvs xs) (k:List Key) {b:Addr} {y:V} {u:Value} (hb:H b=some (.tup (k.map kV))) (ry:RelV y u):
  KT H (putK kvs k y) (storedH xs k b u):=by
 have e:(kvs.any fun kv=>decide (kv.1=k))=(atKey xs k).isSome:=by
  rw[lI,(r.val k).isSome_eq,Option.isSome_map]
 unfold putK storedH
 rw[e]
 by_cases q:(atKey xs k).isSome=true
 ·rw[if_pos q,if_pos q];exact r.repl k ry
 ·rw[if_neg q,if_neg q];exact Paired.snoc r ⟨rfl,hb,ry⟩
theorem KT.keeps {H H':Hp} {kvs:List (List Key×V)} {xs:List (List Key×Addr×Value)} (r:KT H kvs xs) (ht: ∀ b ys,H b=some (.tup ys)→H' b=some (.tup ys)):KT H' kvs xs:=
 Paired.mapP r fun _ _ z=>⟨z.1,ht _ _ z.2.1,z.2.2⟩
section
variable {P:Program} {w:World} {H:Hp} {h:Heap} {a:Addr}
theorem uo {u:HO} (ok:HOk P w H h) (e:Rd H a u):ObjOk P w H h a u:=e.ok ok
theorem jG {kvs:List (Key×V)} (ok:HOk P w H h) (e:Rd H a (.dK kvs)):kvs.length≤sizeLine∧(a==sysModules)=false∧∃ vs,KV kvs vs∧h.DictOf (bE P w) a vs:=
 show ObjOk P w H h a (.dK kvs) from uo ok e
theorem yp {kvs:List (Key×V)} (ok:HOk P w H h) (e:H a=some (.dK kvs)):kvs.length≤sizeLine∧(a==sysModules)=false∧∃ vs,KV kvs vs∧h.DictOf (bE P w) a vs:=jG ok (.inl e)
theorem jD {ks:List Key} (ok:HOk P w H h) (e:H a=some (.tup (ks.map kV))):(tupleKind (bE P w)).is h ks a:=by
 obtain⟨_,its,r,o,h1,h2,n,h3⟩:=(show ObjOk P w H h a (.tup (ks.map kV)) from ok a _ e)
 exact⟨o,its.toArray,n,h1,h2,h3,by simpa using kI r⟩
theorem lE {kvs:List (List Key×V)} (ok:HOk P w H h) (e:Rd H a (.dT kvs)):kvs.length≤sizeLine∧(a==sysModules)=false∧
  ∃ xs,KT H kvs xs∧h.DictOfH (tupleKind (bE P w)) a xs:=by
 obtain⟨z,y,xs,r,o,es,ep,h1,h2,h3,h4,h5⟩:=(show ObjOk P w H h a (.dT kvs) from uo ok e)
 refine⟨z,y,xs,r,o,es,ep,h1,h2,h3,h4,fun x hx=>?_,h5⟩
 have all: ∀ {l:List (List Key×V)} {m:List (List Key×Addr×Value)},KT H l m→∀ x∈m,(tupleKind (bE P w)).is h x.1 x.2.1:=by
  intro l m q
  induction q with
  |nil=>intro x hx;exact nomatch hx
  | @cons p q ps qs hq t ih=>
   intro x hx
   rcases List.mem_cons.mp hx with e|hx
   ·subst e
    exact jD ok (by rw[←hq.1];exact hq.2.1)
   ·exact ih x hx
 exact all r x hx
theorem yo {kvs:List (List Key×V)} (ok:HOk P w H h) (e:H a=some (.dT kvs)):kvs.length≤sizeLine∧(a==sysModules)=false∧
  ∃ xs,KT H kvs xs∧h.DictOfH (tupleKind (bE P w)) a xs:=lE ok (.inl e)
end
noncomputable def kx (H:Hp) (a:Addr) (y:V) (r:Option V):Prop:=
 (∃ kvs k,Rd H a (.dK kvs)∧y=kV k∧r=eF kvs k)∨∃ kvs k b,Rd H a (.dT kvs)∧y= .ref b∧H b=some (.tup (k.map kV))∧r=eF kvs k
noncomputable def xV (H:Hp) (a:Addr) (y v:V) (H':Hp):Prop:=
 (∃ kvs k,H a=some (.dK kvs)∧y=kV k∧kvs.length < sizeLine∧H'=upd H a (.dK (putK kvs k v)))∨
 ∃ kvs k b,H a=some (.dT kvs)∧y= .ref b∧H b=some (.tup (k.map kV))∧kvs.length < sizeLine∧H'=upd H a (.dT (putK kvs k v))
section
variable {X:Cx} {pins:List (Addr×Obj)} {σ:St} {H:Hp} {s:Shared} {a:Addr} {y v:V} {u r:Value} {o:Option V} {A:Around} {E:Value→Shared→Prop}
theorem Inv.big (I:Inv X pins σ H s):sysModules < s.heap.objs.size:=by
 have h:mainGlobals < s.heap.objs.size:=(I.mod.glob.keeps I.bk).lt
 exact Nat.lt_trans (by decide) h
theorem rQ {Q:Value→Shared→Prop} (hu:A.units+1 < cLine) (I:Inv X pins σ H s) (g:kx H a y (some v)) (ry:RelV y u) (h: ∀ w' s',Inv X pins σ H s'→RelV v w'→Q w' s'):
  wpAny (model X.prog X.w) A (getItem (.ref a) u) Q E s:=by
 rcases g with⟨kvs,k,e,ey,l⟩|⟨kvs,k,b,e,ey,eb,l⟩
 ·subst ey
  obtain⟨z,hd,vs,rel,dd⟩:=jG I.hok e
  obtain⟨w',hw,rw'⟩:=RelO.some_of (v:=v) (o:=valueAt vs k) (by rw[l];exact rel.val k)
  exact wpAny_getItem_of (lB ry) dd.mapOf hw (h w' _ (I.tok _) rw')
 ·subst ey
  cases (show u=Value.ref b from ry)
  obtain⟨z,hd,xs,rel,dd⟩:=lE I.hok e
  obtain⟨w',hw,rw'⟩:=RelO.some_of (v:=v) (o:=(atKey xs k).map (·.2)) (by rw[l];exact rel.val k)
  obtain⟨p,hp,hp2⟩:=Option.map_eq_some_iff.mp hw
  refine wpAny_getItem_heap (tupleKind_room_in1 hu) (jD I.hok eb) dd hp ?_
  rw[hp2]
  exact h w' _ (I.tok _) rw'
theorem yI {Q:Value→Shared→Prop} (hu:A.units+1 < cLine) (I:Inv X pins σ H s) (g:kx H a y o) (ry:RelV y u) (h: ∀ s',Inv X pins σ H s'→Q (.bool o.isSome) s'):
  wpAny (model X.prog X.w) A (compareOp .In u (.ref a)) Q E s:=by
 rcases g with⟨kvs,k,e,ey,l⟩|⟨kvs,k,b,e,ey,eb,l⟩
 ·subst ey
  obtain⟨z,hd,vs,rel,dd⟩:=jG I.hok e
  refine wpAny_in_of (lB ry) hd dd.mapOf ?_
  rw[←(rel.val k).isSome_eq,←l]
  exact h _ (I.tok _)
 ·subst ey
  cases (show u=Value.ref b from ry)
  obtain⟨z,hd,xs,rel,dd⟩:=lE I.hok e
  refine wpAny_in_heap (tupleKind_room_in1 hu) (jD I.hok eb) hd dd ?_
  have q:=(rel.val k).isSome_eq
  rw[Option.isSome_map] at q
  rw[←q,←l]
  exact h _ (I.tok _)
theorem o5 {h':Heap} {t':Nat} {ob:HO} (I:Inv X pins σ H s) (mu:Mut (H a)) (hs:Heap.SameBut a s.heap h') (he: ∃ q,h'.get? a=some q) (new:ObjOk X.prog X.w (upd H a ob) h' a ob):
  Inv X pins σ (upd H a ob) {s with heap:=h',toks:=t'}:=
 I.write (x:=a) (e:=a) mu (.inl rfl) (fun b q hb z=>(hs.2 b hb).trans z) he new
theorem xG {P:Program} {w:World} {H':Hp} {h':Heap} {kvs:List (Key×V)} {vs:List (Key×Value)} (z:kvs.length≤sizeLine) (hd:(a==sysModules)=false) (rel:KV kvs vs) (dd:h'.DictOf (bE P w) a vs):
  ObjOk P w H' h' a (.dK kvs):=⟨z,hd,vs,rel,dd⟩
theorem rP {H':Hp} {Q:Unit→Shared→Prop} (hu:A.units+1 < cLine) (I:Inv X pins σ H s) (g:xV H a y v H') (ry:RelV y u) (rv:RelV v r) (h: ∀ s',Inv X pins σ H' s'→Q () s'):
  wpAny (model X.prog X.w) A (setItem (.ref a) u r) Q E s:=by
 rcases g with⟨kvs,k,e,ey,l,eH⟩|⟨kvs,k,b,e,ey,eb,l,eH⟩
 ·subst ey eH
  obtain⟨z,hd,vs,rel,dd⟩:=yp I.hok e
  have hz:vs.length≤sizeLine:=by rw[←rel.length];exact z
  have hl:(putK kvs k v).length≤sizeLine:=by have:=iU kvs k v;lia
  refine wpAny_setItem_pairs (hsz:=hz) (lB ry) dd fun h' dd' hs=>h _ ?_
  have he: ∃ q,h'.get? a=some q:=let ⟨q,_,_,hq,_⟩:=dd';⟨q,hq⟩
  exact o5 I (by rw[e];exact True.intro) hs he (xG hl hd (rel.put k rv) dd')
 ·subst ey eH
  cases (show u=Value.ref b from ry)
  obtain⟨z,hd,xs,rel,dd⟩:=yo I.hok e
  have hz:xs.length≤sizeLine:=by rw[←Paired.length rel];exact z
  have hl:(putK kvs k v).length≤sizeLine:=by have:=iU kvs k v;lia
  refine wpAny_setItem_heap (hsz:=hz) (tupleKind_room_in1 hu) (jD I.hok eb) dd fun h' dd' hs=>h _ ?_
  obtain⟨q,es,ep,hq,h2,h3,h4,_,h5⟩:=dd'
  refine o5 I (by rw[e];exact True.intro) hs ⟨q,hq⟩ ⟨hl,hd,_,(rel.put k eb rv).keeps fun c ys ec=>?_,q,es,ep,hq,h2,h3,h4,h5⟩
  rw[ar (pZ ec e (fun z=>nomatch z))]
  exact ec
end
section
variable {X:Cx} {pins:List (Addr×Obj)} {σ:St} {H:Hp} {s:Shared} {a:Addr} {kvs:List (Key×V)} {k:Key} {u:Value} {A:Around} {E:Value→Shared→Prop}
theorem yq {Q:Value→Shared→Prop} (I:Inv X pins σ H s) (e:Rd H a (.dK kvs)) (h: ∀ t s',Inv X pins σ H s'→Q (.int kvs.length t) s'):wpAny (model X.prog X.w) A (call (.builtin "len") [.ref a]) Q E s:=by
 obtain⟨z,hd,vs,rel,dd⟩:=jG I.hok e
 refine call_len_dict hd dd (by rw[←rel.length];rw[sizeLine_eq] at z;lia) ?_
 rw[←rel.length]
 exact h _ _ (I.tok _)
end
noncomputable def uf (i:Expr):Prop:= ∀ ov iv,subscripted i false ov iv=operate [ov,iv] (getItem ov iv)
theorem uR {prog:Program} {w:World} {A:Around} {E:Value→Shared→Prop} {s:Shared} {env:Env} {value slice:Expr} {pos:Pos} {T id:String} {Q:Value→Shared→Prop}
  (hl:typeLookup (.type T) "__getitem__"=pure (some (.builtin id))) (hs:uf slice)
  (h:wpAny (model prog w) A (eval value env) (fun o s₁=>wpAny (model prog w) A (eval slice env) (fun i s₂=>s₂.TypeIs o T∧wpAny (model prog w) A (getItem o i) Q E s₂) E s₁) E s):
  wpAny (model prog w) A (eval (.Subscript value slice pos) env) Q E s:=by
 refine Subscript_ (wpAny_mono h (fun o s₁ h₁=>wpAny_mono h₁ (fun i s₂ h₂=>?_) fun _ _ x=>x) fun _ _ x=>x)
 obtain⟨hT,h₂⟩:=h₂
 unfold subscriptTail
 refine wpAny_bind ?_
 rw[getitemInPython_of_ne hT.not_modules]
 refine wpAny_bind (wpAny_specialOf hT hl ?_)
 have fin:wpAny (model prog w) A (subscripted slice false o i) (fun r s₃=>wpAny (model prog w) A (letTemporaryGo value o r >>= fun _=>pure r) Q E s₃) E s₂:=by
  rw[hs o i]
  exact wpAny_operating (wpAny_mono h₂ (fun r s₃ h₃=>wpAny_bind (wpAny_letTemporaryGo (wpAny_pure h₃))) fun _ _ x=>x)
 first
  |exact wpAny_pure (wpAny_bind fin)
  |exact wpAny_bind (wpAny_pure (wpAny_bind fin))
  |exact wpAny_bind fin
theorem oo {X:Cx} {pins:List (Addr×Obj)} {σ:St} {H:Hp} {s:Shared} {a:Addr} {y:V} {o:Option V} (I:Inv X pins σ H s) (g:kx H a y o):s.TypeIs (.ref a) "dict":=by
 rcases g with⟨kvs,k,e,_,_⟩|⟨kvs,k,b,e,_,_,_⟩
 ·obtain⟨_,_,vs,_,dd⟩:=jG I.hok e
  exact dd.typeIs
 ·obtain⟨_,_,xs,_,dd⟩:=lE I.hok e
  exact dd.typeIs
noncomputable def um (td ty:TE):TE:=fun σ H Q=>td σ H fun x H1=>ty σ H1 fun y H2=> ∃ a v,x= .ref a∧kx H2 a y (some v)∧Q v H2
noncomputable def su (ty td:TE):TE:=fun σ H Q=>ty σ H fun y H1=>td σ H1 fun x H2=> ∃ a o,x= .ref a∧kx H2 a y o∧Q (.bl o.isSome) H2
noncomputable def pI (td ty tv:TE):TS:=fun D σ H=>tv σ H fun v H1=>td σ H1 fun x H2=>ty σ H2 fun y H3=> ∃ a H4,x= .ref a∧xV H3 a y v H4∧D.nx σ H4
section
variable {X:Cx} {o i e value:Expr} {pos pos' tpos:Pos} {td ty tv:TE}
theorem vh (hu:X.A.units+1 < cLine) (ho:PE X o td) (hi:PE X i ty) (hs:uf i):PE X (.Subscript o i pos) (um td ty):=by
 intro pins s σ H Q I h
 refine uR PySem.F.slot_dict_getitem.lookup hs (thn (ho pins s σ H _ I h) fun u s1 ⟨x,H1,I1,rx,q1⟩=>thn (hi pins s1 σ H1 _ I1 q1) fun iv s2 ⟨y,H2,I2,ry,a,v,ex,g,q2⟩=>?_)
 subst ex
 obtain rfl:u=Value.ref a:=rx
 exact⟨oo I2 g,rQ hu I2 g ry fun w' s3 I3 rw'=>⟨v,H2,I3,rw',q2⟩⟩
theorem qT (hu:X.A.units+1 < cLine) (hi:PE X i ty) (ho:PE X o td):PC X .In i o (su ty td):=by
 intro pins s σ H Q I h
 refine thn (hi pins s σ H _ I h) fun iv s1 ⟨y,H1,I1,ry,q1⟩=>thn (ho pins s1 σ H1 _ I1 q1) fun u s2 ⟨x,H2,I2,rx,a,ov,ex,g,q2⟩=>?_
 subst ex
 obtain rfl:u=Value.ref a:=rx
 exact yI hu I2 g ry fun s3 I3=>⟨.bl ov.isSome,H2,I3,rfl,q2⟩
theorem vc (hu:X.A.units+1 < cLine) (ho:PE X o td) (hi:PE X i ty) (hv:PE X value tv) (hs:swapsWith value (some (.Subscript o i pos')) pos.line X.env=pure false):
  PS X (.Assign [.Subscript o i pos'] value pos) (pI td ty tv):=by
 intro pins s σ H D I h
 refine wpAny_Assign_Subscript (thn (hv pins s σ H _ I h) fun r s1 ⟨v,H1,I1,rv,q1⟩=>thn (ho pins s1 σ H1 _ I1 q1) fun u s2 ⟨x,H2,I2,rx,q2⟩=>thn (hi pins s2 σ H2 _ I2 q2) fun iv s3 ⟨y,H3,I3,ry,a,H4,ex,g,q3⟩=>?_) hs
 subst ex
 obtain rfl:u=Value.ref a:=rx
 exact rP hu I3 g ry rv fun s4 I4=>⟨σ,H4,I4,q3⟩
end
theorem t4 {P:Program} {w:World} {H:Hp} (h:Heap) (hb:sysModules < h.objs.size):ObjOk P w H (h.push {cls:=.type "dict",data:=.dict #[]}) h.objs.size (.dK []):=
 ⟨Nat.zero_le _,beq_eq_false_iff_ne.mpr (Ne.symm (Nat.ne_of_lt hb)),[],.nil,Heap.DictOf.new h⟩
noncomputable def qz:TE:=fun _ H Q=> ∀ p,H p=none→Q (.ref p) (upd H p (.dK []))
section
variable {X:Cx} {pos:Pos}
theorem mw:PE X (.Dict [] [] pos) qz:=fun pins s σ H Q I h=>
 wpAny_Dict_empty ⟨.ref s.heap.objs.size,_,I.laid (a:=s.heap.objs.size) (o:=.dK []) (t':=s.toks) (fun _ _ q=>Heap.get?_push_of_some _ q) (Nat.le_refl _) (t4 s.heap I.big),rfl,h _ (I.hok.fresh (Nat.le_refl _))⟩
end
noncomputable def dv (cells:List (Str×Addr)) (cs:List (Str×Addr)) (p:Str×NameKind):List (Str×Addr):=
 if p.2== .free then(match cells.lookup p.1 with|some c=>(p.1,c)::cs|none=>cs) else cs
noncomputable def nE (names:List (Str×NameKind)) (cells:List (Str×Addr)):List (Str×Addr):=names.foldl (dv cells) []
theorem il (env:Env): ∀ (names:List (Str×NameKind)) (cs:List (Str×Addr)),(∀ p∈names,p.2= .free→∃ c,env.cells.lookup p.1=some c)→
  (forIn names cs fun (p:Str×NameKind) r=>(if(p.2== .free)=true then do let a ←cellOf env p.1;pure (ForInStep.yield ((p.1,a)::r)) else pure (ForInStep.yield r):Sem (ForInStep (List (Str×Addr)))))=pure (names.foldl (dv env.cells) cs)
 |[],cs,_=>rfl
 |p::r,cs,h=>by
  have ih:=fun cs'=>il env r cs' fun q hq=>h q (List.mem_cons_of_mem _ hq)
  rw[List.forIn_cons]
  by_cases hp:(p.2== .free)=true
  ·obtain⟨c,hc⟩:=h p List.mem_cons_self (by simpa using hp)
   have e:dv env.cells cs p=(p.1,c)::cs:=by unfold dv;rw[if_pos hp,hc]
   have e2:cellOf env p.1=pure c:=by unfold cellOf;rw[hc]
   rw[if_pos hp,e2,List.foldl_cons,e]
   exact ih _
  ·have e:dv env.cells cs p=cs:=by unfold dv;rw[if_neg hp]
   rw[if_neg hp,List.foldl_cons,e]
   exact ih _
theorem jH {scope:Scope} {env:Env} (h: ∀ p∈scope.names,p.2= .free→∃ c,env.cells.lookup p.1=some c):closureFor scope env=pure (nE scope.names env.cells):=by
 have q:=il env scope.names [] h
 unfold closureFor
 show (forIn scope.names [] _ >>= fun cs=>pure cs)=_
 have e: ∀ m:Sem (List (Str×Addr)),(m >>= fun cs=>pure cs)=m:=fun m=>bind_pure m
 rw[e]
 exact q
theorem dJ (cells:List (Str×Addr)): ∀ (names:List (Str×NameKind)) (cs:List (Str×Addr)),(∀ x c,cs.lookup x=some c→cells.lookup x=some c)→∀ x c,(names.foldl (dv cells) cs).lookup x=some c→cells.lookup x=some c
 |[],_,h=>h
 |p::r,cs,h=>dJ cells r _ (fun x c e=>by
  unfold dv at e
  split at e
  ·split at e
   ·rename_i c' hc'
    rw[List.lookup_cons] at e
    split at e
    ·rename_i hx
     have hx':x=p.1:=by simpa using hx
     cases e;rw[hx'];exact hc'
    ·exact h x c e
   ·exact h x c e
  ·exact h x c e)
theorem nA (cells:List (Str×Addr)): ∀ (names:List (Str×NameKind)) (cs:List (Str×Addr)) (x:Str),(∃ c,cs.lookup x=some c)→∃ c,(names.foldl (dv cells) cs).lookup x=some c
 |[],_,_,h=>h
 |p::r,cs,x,h=>nA cells r _ x (by
  unfold dv
  split
  ·split
   ·rw[List.lookup_cons]
    split
    ·exact⟨_,rfl⟩
    ·exact h
   ·exact h
  ·exact h)
theorem nC (cells:List (Str×Addr)): ∀ (names:List (Str×NameKind)) (cs:List (Str×Addr)) (x:Str),(x,NameKind.free)∈names→(∃ c,cells.lookup x=some c)→∃ c,(names.foldl (dv cells) cs).lookup x=some c
 |[],_,_,h,_=>by simp at h
 |p::r,cs,x,h,hc=>by
  rcases List.mem_cons.mp h with e|e
  ·subst e
   refine nA cells r _ x ?_
   obtain⟨c,hc⟩:=hc
   unfold dv
   rw[if_pos (by rfl),hc]
   exact⟨c,by rw[List.lookup_cons];simp⟩
  ·exact nC cells r _ x e hc
noncomputable def cxC (X:Cx) (scope:Scope) (N:List Str) (s₀:Shared) (H₀:Hp) (ex:List Addr) (pn:List (Addr×Obj)):Cx:=
 {prog:=X.prog,w:=X.w,K:=X.K,mg:=X.mg,base:=X.base,A:=X.A,N:=N,s₀:=s₀,H₀:=H₀,env:=compEnvC scope (nE scope.names X.env.cells) s₀.heap.objs.size X.env,outer:=X.stack,stack:=X.stack,ex:=ex,fn:=fun _=>false,calm:=true,pn:=pn,xe:=fun _ _=>False}
noncomputable def eZ (js:List (Option Nat)) (σ:St):St:=js.map fun o=>match o with|some j=>(σ[j]?).getD none|none=>none
noncomputable def PTs (X:Cx) (ifs:List Expr) (t:TT):Prop:=
 ∀ (pins:List (Addr×Obj)) (s:Shared) (σ:St) (H:Hp) (Q:Bool→Hp→Prop),Inv X pins σ H s→t σ H Q→
  wpAny (model X.prog X.w) X.A (forIn ifs true fun c r=>if r=true then do let ok ←isTrue c X.env (eval c X.env);pure (ForInStep.yield ok) else pure (ForInStep.yield r)) (TP X pins σ Q) X.xe s
noncomputable def xY:TT:=fun _ H Q=>Q true H
theorem u9 {X:Cx}:PTs X [] xY:=fun pins s σ H Q I h=>wpAny_tests_nil ⟨H,I,h⟩
theorem u7 {X:Cx} {c:Expr} {t:TT} (h:PT X c t):PTs X [c] t:=fun pins s σ H Q I hw=>wpAny_tests_one (h pins s σ H Q I hw)
theorem rS {prog:Program} {w:World} {A:Around} {R:Result→Shared→Prop} {s:Shared} {elt target iter:Expr} {ifs:List Expr} {scope:Scope} {pos:Pos} {it acc:Value} {env:Env} (I:Nat→Shared→Prop)
  (turn: ∀ n s,I n s→wpAny (model prog w) A (pyNext it) (fun r s₁=>match r with
   |none=>R (.ok .next) s₁
   |some v=>wpAny (model prog w) A (letOwnedTupleGo target it v) (fun _ s₁'=>wpAny (model prog w) A (assign target env v) (fun _ s₂=>
     wpAny (model prog w) A (forIn ifs true fun c r=>if r=true then do let ok ←isTrue c env (eval c env);pure (ForInStep.yield ok) else pure (ForInStep.yield r)) (fun ok s₃=>
      if ok=true then wpAny (model prog w) A (eval elt env) (fun x s₄=>
       wpAny (model prog w) A (call (.builtin "list.append") [acc,x]) (fun _ s₅=> ∃ m,m < n∧I m s₅) (fun _ _=>False) s₄) (fun _ _=>False) s₃
      else ∃ m,m < n∧I m s₃) (fun _ _=>False) s₂) (fun _ _=>False) s₁') (fun _ _=>False) s₁) (fun _ _=>False) s)
  (n:Nat) (h:I n s):
  codeAny (model prog w) A (.compLoop (.ListComp elt [⟨target,iter,ifs,0⟩] scope pos) 0 it acc env) R s:=by
 refine codeAny_loop rfl I (fun n s hI=>?_) n h
 show wpAny _ A ((compTurn (.ListComp elt [⟨target,iter,ifs,0⟩] scope pos) 0 it acc env).onRaise (fun x=>do noteFrame x env;theTreesLotGoes x)) _ _ s
 refine wpAny_noted ?_
 refine wpAny_mono (E:=fun _ _=>False) ?_ (fun _ _ q=>q) fun _ _ q=>q.elim
 rw[compTurn_list]
 refine wpAny_bind (wpAny_standAt (wpAny_bind (thn (turn n s hI) fun r s₁ h₁=>?_)))
 cases r with
 |none=>exact wpAny_pure h₁
 |some v=>
  refine wpAny_bind (thn h₁ fun _ s₁' h₁'=>?_)
  refine wpAny_bind (thn h₁' fun _ s₂ h₂=>wpAny_bind (thn h₂ fun ok s₃ h₃=>?_))
  cases ok with
  |false=>exact wpAny_pure ⟨rfl,h₃⟩
  |true=>exact wpAny_bind (wpAny_bind (thn h₃ fun x s₄ h₄=>wpAny_bind (thn h₄ fun _ s₅ h₅=>wpAny_pure (wpAny_pure ⟨rfl,h₅⟩))))
noncomputable def LcW (J:It) (D:Addr) (g:TG) (tt:TT) (te:TE) (Q:VK) (σ0:St) (H1:Hp):Prop:=
 ∃ W:Nat→Nat→St→Hp→Prop,(∃ m,W 0 m σ0 (upd H1 D (.lst [])))∧∀ i m σ' H',W i m σ' H'→
  (J.stop i H'∧Q (.ref D) H')∨(J.go i H'∧∀ x H2,J.yld i H' x H2→g x σ' H2 fun σ2 H3=>tt σ2 H3 fun ok H4=>
   if ok=true then te σ2 H4 fun y H5=> ∃ ys,H5 D=some (.lst ys)∧ys.length < sizeLine∧∃ m',m' < m∧W (i+1) m' σ2 (upd H5 D (.lst (ys++[y])))
   else ∃ m',m' < m∧W (i+1) m' σ2 H4)
noncomputable def tLC (js:List (Option Nat)) (wi:TI) (g:TG) (tt:TT) (te:TE):TE:=fun σ H Q=>wi σ H fun J H1=> ∀ D,H1 D=none→LcW J D g tt te Q (eZ js σ) H1
set_option genInjectivity false in
structure LcScope (X:Cx) (scope:Scope) (N:List Str) (js:List (Option Nat)):Prop where
 kind:scope.kind= .function
 nocell: ∀ y∈scope.names,y.2≠.cell
 names: ∀ y∈scope.names,y.2= .local→scope.names.lookup y.1=some .local
 free: ∀ y∈scope.names,y.2= .free→X.env.scope.names.lookup y.1=some .cell∨X.env.scope.names.lookup y.1=some .free
 len:js.length=N.length
 cap: ∀ (i:Nat) (y:Str) (j:Nat),N[i]?=some y→js[i]?=some (some j)→X.N[j]?=some y∧scope.names.lookup y=some .free
noncomputable def eh (env:Env) (p:Str×NameKind):Str×NameKind:=if(p.2==NameKind.free&&env.scope.kind== .function&&env.kindOf p.1==some .cell) then(p.1,NameKind.cell) else(p.1,p.2)
theorem mf (env:Env) (p:Str×NameKind):(eh env p).1=p.1:=by unfold eh;split<;>rfl
theorem lY {env:Env}: ∀ {names:List (Str×NameKind)} {x:Str},names.lookup x=some .free→(names.map (eh env)).lookup x=some .cell∨(names.map (eh env)).lookup x=some .free
 |[],_,h=>by simp at h
 |p::r,x,h=>by
  rw[List.map_cons,List.lookup_cons,mf]
  rw[List.lookup_cons] at h
  cases hx:x==p.1 with
  |true=>
   rw[hx] at h
   have h':p.2= .free:=by simpa using h
   have e:(eh env p).2= .cell∨(eh env p).2= .free:=by
    unfold eh
    split
    ·exact .inl rfl
    ·exact .inr h'
   rcases e with e|e
   ·exact .inl (congrArg some e)
   ·exact .inr (congrArg some e)
  |false=>
   rw[hx] at h
   exact lY (env:=env) h
theorem lZ {env:Env}: ∀ {names:List (Str×NameKind)} {x:Str},((names.map (eh env)).lookup x=some .cell∨(names.map (eh env)).lookup x=some .free)→(x,NameKind.free)∈names∨(x,NameKind.cell)∈names
 |[],_,h=>by simp at h
 |p::r,x,h=>by
  rw[List.map_cons,List.lookup_cons,mf] at h
  cases hx:x==p.1 with
  |true=>
   rw[hx] at h
   have hx':x=p.1:=by simpa using hx
   have h2:(eh env p).2= .cell∨(eh env p).2= .free:=h.elim (fun z=>.inl (Option.some.inj z)) fun z=>.inr (Option.some.inj z)
   have e:p.2= .free∨p.2= .cell:=by
    by_cases hc:(p.2==NameKind.free&&env.scope.kind== .function&&env.kindOf p.1==some .cell)=true
    ·simp only[Bool.and_eq_true] at hc
     exact .inl (by simpa using hc.1.1)
    ·have e2:eh env p=(p.1,p.2):=by unfold eh;rw[if_neg hc]
     rw[e2] at h2
     exact h2.symm
   rcases e with e|e
   ·exact .inl (by rw[hx',←e];exact List.mem_cons_self)
   ·exact .inr (by rw[hx',←e];exact List.mem_cons_self)
  |false=>
   rw[hx] at h
   rcases lZ h with q|q
   ·exact .inl (List.mem_cons_of_mem _ q)
   ·exact .inr (List.mem_cons_of_mem _ q)
section
variable {X:Cx} {pins:List (Addr×Obj)} {σ:St} {H:Hp} {s:Shared} {scope:Scope} {N:List Str} {js:List (Option Nat)} {fp:List Addr}
theorem LcScope.clos (L:LcScope X scope N js) (ok:X.Ok): ∀ p∈scope.names,p.2= .free→∃ c,X.env.cells.lookup p.1=some c:=fun p hp hf=>ok.has p.1 (L.free p hp hf)
theorem LcScope.ok (L:LcScope X scope N js) (I:Inv X pins σ H s) (hc:X.calm=true) (hf: ∀ b∈fp,cx X pins H b) (ho: ∀ b∈fp,∃ o,s.heap.get? b=some o):(cxC X scope N s H fp (X.pn++pins)).Ok where
 mod:=I.ok.mod
 kind:=L.kind
 glob:=I.ok.glob
 blt:=I.ok.blt
 above:=Nat.le_refl _
 inj:=fun x y c h1 h2=>I.ok.inj x y c (dJ _ _ _ (fun _ _ e=>by simp at e) x c h1) (dJ _ _ _ (fun _ _ e=>by simp at e) y c h2)
 has:=fun x hx=>by
  have hx':(scope.names.map (eh X.env)).lookup x=some .cell∨(scope.names.map (eh X.env)).lookup x=some .free:=hx
  rcases lZ hx' with q|q
  ·exact nC _ _ _ x q (L.clos I.ok _ q rfl)
  ·exact absurd rfl (L.nocell _ q)
 cab:=fun x c h _=>by cases h
 hd:=fun _=>I.ok.hd hc
 frames:=I.ok.frames
 stk:=.inl rfl
 exf:=fun b hb=>by
  obtain⟨o,e⟩:=ho b hb
  refine⟨Nat.ne_of_lt (Heap.lt_size e),fun x c h=>(hf b hb).2.2.2.2.1 x c (dJ _ _ _ (fun _ _ e=>by simp at e) x c h)⟩
 bs:=I.bs
 bsz:=Nat.le_trans I.ok.bsz I.sz
 noex:=fun b o e hb=>by
  rcases(hf b hb).2.2.2.1 with z|z
  ·exact I.ok.noex b o e z
  ·exact absurd (Nat.lt_of_lt_of_le (Heap.lt_size e) (Nat.le_trans I.ok.bsz z)) (Nat.lt_irrefl _)
 exfs:=fun b hb z=>by
  rcases List.mem_cons.mp (I.stkSub b z) with e|e
  ·exact(hf b hb).2.1 e
  ·exact(hf b hb).2.2.1 e
 funs:=I.stack
 frf:=I.stkFree
theorem LcScope.start (L:LcScope X scope N js) (I:Inv X pins σ H s) (hc:X.calm=true) (hf: ∀ b∈fp,cx X pins H b) (ho: ∀ b∈fp,∃ o,s.heap.get? b=some o) {h':Heap} {tk:Nat}
  (hn:h'.Ns s.heap.objs.size (fun _=>none)) (hk: ∀ b o,s.heap.get? b=some o→h'.get? b=some o):
  Inv (cxC X scope N s H fp (X.pn++pins)) [] (eZ js σ) H {s with heap:=h',toks:=tk}:=by
 refine⟨L.ok I hc hf ho,rfl,I.bare,Un.kept hk,⟨_,hn,fun i y v e1 e2 e3=>?_⟩,fun x c e=>?_,I.hok.fresh (Nat.le_refl _),fun x c e=>?_,fun p hp=>?_,I.hok.kept hk,?_⟩
 ·unfold eZ at e2
  rw[List.getElem?_map] at e2
  cases ej:js[i]? with
  |none=>rw[ej] at e2;cases e2
  |some o=>
   rw[ej] at e2
   cases o with
   |none=>simp at e2
   |some j=>
    simp only[Option.map_some,Option.some.injEq] at e2
    have es:σ[j]?=some (some v):=by
     cases q:σ[j]? with
     |none=>rw[q] at e2;simp at e2
     |some z=>rw[q] at e2;simp at e2;rw[e2]
    obtain⟨en,ef⟩:=L.cap i y j e1 ej
    have em:(y,NameKind.free)∈scope.names:=PySem.mem_of_lookup ef
    have ek:=L.free _ em rfl
    obtain⟨m,_,hl⟩:=I.loc
    obtain⟨u,r,l⟩:=hl j y v en es (ek.elim (fun z=>.inr (.inl z)) fun z=>.inr (.inr z))
    refine⟨u,r,.inr ⟨lY ef,?_⟩⟩
    rcases l with⟨l,_⟩|⟨_,c,ec,z⟩
    ·have l':X.env.scope.names.lookup y=some .local:=l
     rcases ek with ek|ek<;>(rw[ek] at l';cases l')
    ·obtain⟨c',hc'⟩:=nC X.env.cells scope.names [] y em ⟨c,ec⟩
     have e':=dJ X.env.cells scope.names [] (fun _ _ e=>by simp at e) y c' hc'
     rw[ec] at e';cases e'
     obtain⟨o,ho,hd⟩:=z
     exact⟨c,hc',⟨o,hk c o ho,hd⟩⟩
 ·obtain⟨v,o,ho,hd⟩:=I.cell x c (dJ _ _ _ (fun _ _ e=>by simp at e) x c e)
  exact⟨v,o,hk c o ho,hd⟩
 ·exact I.freeC x c (dJ _ _ _ (fun _ _ e=>by simp at e) x c e)
 ·have hp':p∈X.pn++pins:=by simpa[cxC] using hp
  obtain⟨e,n,ne,nf,d⟩:=I.pin p hp'
  refine⟨hk _ _ e,n,Nat.ne_of_lt (Heap.lt_size e),fun z=>?_,d⟩
  rcases List.mem_cons.mp (I.stkSub _ z) with q|q
  ·exact ne q
  ·exact nf q
 ·unfold eZ
  rw[List.length_map]
  exact L.len
theorem xn {σ':St} {H':Hp} {s':Shared} {ps:List (Addr×Obj)} (I:Inv X pins σ H s) (hf: ∀ b∈fp,cx X pins H b) (J:Inv (cxC X scope N s H fp (X.pn++pins)) ps σ' H' s'):
  Inv X pins σ H' s'∧cx X pins H' s.heap.objs.size∧∃ m,s'.heap.Ns s.heap.objs.size m:=by
 refine⟨I.call' (ch:=fp) J.os J.base J.hok J.bare fun b hb=>⟨(hf b hb).2.2.2.1,(hf b hb).2.1,(hf b hb).2.2.2.2.1,(hf b hb).2.2.2.2.2⟩,I.fpOk (Nat.le_refl _) J.free,?_⟩
 obtain⟨m,hn,_⟩:=J.loc
 exact⟨m,hn⟩
theorem Inv.gone {H':Hp} {s':Shared} {C:Addr} {h':Heap} {m:Str→Option Value} (I:Inv X pins σ H' s') (f:cx X pins H' C) (hs:Heap.SameBut C s'.heap h'):Inv X pins σ H' {s' with heap:=h'}:=
 I.turned (t':=s'.toks) (it:=C) (fun b o hb e=>(hs.2 b hb).trans e) f.1 f.2.1 f.2.2.2.1 f.2.2.2.2.1 f.2.2.2.2.2
theorem vE {elt target iter:Expr} {ifs:List Expr} {pos:Pos} {g:TG} {tt:TT} {te:TE} {it:Addr} {tn:Nat→Heap→Prop} {J:It} {Q:VK} {R:Value→Addr→Result→Shared→Prop}
  (L:LcScope X scope N js) (hc:X.calm=true)
  (hg: ∀ s₀ H₀ ex pn,PG (cxC X scope N s₀ H₀ ex pn) target g) (ht: ∀ s₀ H₀ ex pn,PTs (cxC X scope N s₀ H₀ ex pn) ifs tt) (he: ∀ s₀ H₀ ex pn,PE (cxC X scope N s₀ H₀ ex pn) elt te)
  (I:Inv X pins σ H s) (T:Turn X.prog X.w X.K target J fp it tn) (st:tn 0 s.heap) (hf: ∀ b∈fp,cx X pins H b)
  {D:Addr} {s3:Shared} {h₁:Heap} {tk:Nat} (I3:Inv X pins σ (upd H D (.lst [])) s3) (hDl: ∀ b o,s.heap.get? b=some o→b≠D) (k3: ∀ b o,s.heap.get? b=some o→s3.heap.get? b=some o)
  (hns₁:h₁.Ns s3.heap.objs.size (fun _=>none)) (kk: ∀ b o,s3.heap.get? b=some o→h₁.get? b=some o)
  (w: ∃ W:Nat→Nat→St→Hp→Prop,(∃ m,W 0 m (eZ js σ) (upd H D (.lst [])))∧∀ i m σ' H',W i m σ' H'→
   (J.stop i H'∧Q (.ref D) H')∨(J.go i H'∧∀ x H2,J.yld i H' x H2→g x σ' H2 fun σ2 H3=>tt σ2 H3 fun ok H4=>
    if ok=true then te σ2 H4 fun y H5=> ∃ ys,H5 D=some (.lst ys)∧ys.length < sizeLine∧∃ m',m' < m∧W (i+1) m' σ2 (upd H5 D (.lst (ys++[y])))
    else ∃ m',m' < m∧W (i+1) m' σ2 H4))
  (hR: ∀ C s' H',Inv X pins σ H' s'→cx X pins H' C→(∃ m,s'.heap.Ns C m)→Q (.ref D) H'→R (.ref D) C (.ok .next) s'):
  codeAny (model X.prog X.w) X.A (.compStart (.ListComp elt [⟨target,iter,ifs,0⟩] scope pos) 0 (.ref it) (.ref D) {newEnv scope s3.heap.objs.size X.env.globals (nE scope.names X.env.cells) X.env.qual none .none (some X.env) builtinsNs with scope:=relabel scope X.env}) (R (.ref D) s3.heap.objs.size) {s3 with heap:=h₁,toks:=tk}:=by
 have obj:=T.obj 0 s.heap st
 have ho3: ∀ b∈fp,∃ o,s3.heap.get? b=some o:=fun b hb=>by obtain⟨o,e,_⟩:=obj b hb;exact⟨o,k3 b o e⟩
 have hf3: ∀ b∈fp,cx X pins (upd H D (.lst [])) b:=fun b hb=>by
  refine⟨?_,(hf b hb).2⟩
  obtain⟨o,e,_⟩:=obj b hb
  rw[ar (hDl b o e)]
  exact(hf b hb).1
 have I4:Inv (cxC X scope N s3 (upd H D (.lst [])) fp (X.pn++pins)) [] (eZ js σ) (upd H D (.lst [])) {s3 with heap:=h₁,toks:=tk}:=
  L.start I3 hc hf3 ho3 hns₁ kk
 obtain⟨W,⟨m0,w0⟩,turn⟩:=w
 have st4:tn 0 h₁:=T.keep 0 _ _ st fun b _ o e=>kk b o (k3 b o e)
 generalize hX:cxC X scope N s3 (upd H D (.lst [])) fp (X.pn++pins)=Y at I4
 have fpY: ∀ b∈fp,b≠Y.env.locals∧b∉Y.fs∧(b∈Y.ex∨Y.s₀.heap.objs.size≤b)∧(∀ x c,Y.env.cells.lookup x=some c→c≠b)∧∀ p∈Y.pn++[],p.1≠b:=fun b hb=>by
  rw[←hX]
  obtain⟨o,e⟩:=ho3 b hb
  refine⟨Nat.ne_of_lt (Heap.lt_size e),fun z=>?_,.inl hb,fun x c h=>(hf b hb).2.2.2.2.1 x c (dJ _ _ _ (fun _ _ e=>by simp at e) x c h),fun p hp=>(hf b hb).2.2.2.2.2 p (by simpa[cxC] using hp)⟩
  rcases List.mem_cons.mp (I3.stkSub b z) with q|q
  ·exact(hf b hb).2.1 q
  ·exact(hf b hb).2.2.1 q
 have loop:codeAny (model X.prog X.w) X.A (.compLoop (.ListComp elt [⟨target,iter,ifs,0⟩] scope pos) 0 (.ref it) (.ref D) Y.env) (R (.ref D) s3.heap.objs.size) {s3 with heap:=h₁,toks:=tk}:=by
  have pr:Y.prog=X.prog:=by rw[←hX];rfl
  have pw:Y.w=X.w:=by rw[←hX];rfl
  have pK:Y.K=X.K:=by rw[←hX];rfl
  have pA:Y.A=X.A:=by rw[←hX];rfl
  have pc:Y.calm=true:=by rw[←hX];rfl
  have px:Y.xe=fun _ _=>False:=by rw[←hX];rfl
  have stat: ∀ {H':Hp},(∀ b∈fp,H' b=none)→∀ b∈fp,cx Y [] H' b:=fun hn b hb=>⟨hn b hb,fpY b hb⟩
  refine rS (fun n s'=> ∃ i σ' H',Inv Y [] σ' H' s'∧tn i s'.heap∧(∀ b∈fp,H' b=none)∧W i n σ' H') ?_ m0 ⟨0,_,_,I4,st4,fun b hb=>(hf3 b hb).1,w0⟩
  rintro n s5 ⟨i,σ5,H5,I5,st5,fr5,w5⟩
  have gY:PG Y target g:=by rw[←hX];exact hg _ _ _ _
  have tY:PTs Y ifs tt:=by rw[←hX];exact ht _ _ _ _
  have eY:PE Y elt te:=by rw[←hX];exact he _ _ _ _
  unfold PG at gY;unfold PTs at tY;unfold PE at eY
  rw[pr,pw,pA,px] at gY tY eY
  have ap:=cZ (X:=Y)
  unfold MtM at ap
  rw[pr,pw,pA,px] at ap
  rcases turn i n σ5 H5 w5 with⟨stop,q⟩|⟨go,step⟩
  ·have d:=T.done Y pr pw pK pc i [] s5 σ5 H5 (fun _ _=>False) I5 (stat fr5) st5 stop
   rw[pA] at d
   refine thn d fun r s6 ⟨hr,I6⟩=>?_
   subst hr
   have I6':Inv (cxC X scope N s3 (upd H D (.lst [])) fp (X.pn++pins)) [] σ5 H5 s6:=by rw[hX];exact I6
   obtain⟨a1,a2,a3⟩:=xn I3 hf3 I6'
   exact hR _ s6 H5 a1 a2 a3 q
  ·have d:=T.item Y pr pw pK pc i [] s5 σ5 H5 (fun _ _=>False) I5 (stat fr5) st5 go
   rw[pA] at d
   refine thn d fun r s6 ⟨u,hr,h6⟩=>?_
   subst hr
   refine thn h6 fun _ s7 ⟨x,H7,I7,r7,y7,st7,fr7⟩=>?_
   have I7':=I7.pinned (stat fr7) (T.obj _ _ st7)
   refine thn (gY _ s7 σ5 H7 x u _ I7' r7 (step x H7 y7)) fun _ s8 ⟨σ8,H8,I8,q8⟩=>?_
   have again: ∀ {σ9:St} {H9:Hp} {s9:Shared},Inv Y ([]++g9 fp s7.heap) σ9 H9 s9→(∃ m',m' < n∧W (i+1) m' σ9 H9)→∃ m,m < n∧∃ i σ' H',Inv Y [] σ' H' s9∧tn i s9.heap∧(∀ b∈fp,H' b=none)∧W i m σ' H':=fun {σ9 H9 s9} I9 ⟨m',hm,w9⟩=>by
    refine⟨m',hm,i+1,σ9,H9,I9.unpinned,T.keep _ _ _ st7 fun b hb o e=>(I9.pin (b,o) (List.mem_append_right _ (List.mem_append_right _ (ft hb e)))).1,fun b hb=>?_,w9⟩
    obtain⟨o,e,d⟩:=T.obj _ _ st7 b hb
    exact(I9.pin (b,o) (List.mem_append_right _ (List.mem_append_right _ (ft hb e)))).2.1
   refine thn (tY _ s8 σ8 H8 _ I8 q8) fun ok s9 ⟨H9,I9,q9⟩=>?_
   cases ok with
   |false=>
    rw[if_neg (by decide)] at q9
    rw[if_neg (by decide)]
    exact again I9 q9
   |true=>
    rw[if_pos rfl] at q9
    rw[if_pos rfl]
    refine thn (eY _ s9 σ8 H9 _ I9 q9) fun v s10 ⟨y,H10,I10,r10,ys,eys,lys,q10⟩=>?_
    refine thn (ap _ s10 σ8 H10 (.ref D) [y] (.ref D) [v] (fun _ H'=> ∃ m',m' < n∧W (i+1) m' σ8 H') I10 rfl (.cons r10 .nil) ⟨D,ys,y,rfl,rfl,eys,lys,q10⟩) fun v2 s11 ⟨y2,H11,I11,_,q11⟩=>?_
    exact again I11 q11
 have ee:({newEnv scope s3.heap.objs.size X.env.globals (nE scope.names X.env.cells) X.env.qual none .none (some X.env) builtinsNs with scope:=relabel scope X.env}:Env)=Y.env:=by rw[←hX];rfl
 rw[ee]
 exact codeAny_compStart_list loop (T.self _ 0 _ _ _ st4 loop)
theorem mP {elt target iter:Expr} {ifs:List Expr} {pos:Pos} {g:TG} {tt:TT} {te:TE} {it:Addr} {tn:Nat→Heap→Prop} {J:It} {Q:VK} {E:Value→Shared→Prop} {R:Value→Addr→Result→Shared→Prop}
  (L:LcScope X scope N js) (hc:X.calm=true)
  (hg: ∀ s₀ H₀ ex pn,PG (cxC X scope N s₀ H₀ ex pn) target g) (ht: ∀ s₀ H₀ ex pn,PTs (cxC X scope N s₀ H₀ ex pn) ifs tt) (he: ∀ s₀ H₀ ex pn,PE (cxC X scope N s₀ H₀ ex pn) elt te)
  (I:Inv X pins σ H s) (T:Turn X.prog X.w X.K target J fp it tn) (st:tn 0 s.heap) (hf: ∀ b∈fp,cx X pins H b)
  (w: ∀ D,H D=none→∃ W:Nat→Nat→St→Hp→Prop,(∃ m,W 0 m (eZ js σ) (upd H D (.lst [])))∧∀ i m σ' H',W i m σ' H'→
   (J.stop i H'∧Q (.ref D) H')∨(J.go i H'∧∀ x H2,J.yld i H' x H2→g x σ' H2 fun σ2 H3=>tt σ2 H3 fun ok H4=>
    if ok=true then te σ2 H4 fun y H5=> ∃ ys,H5 D=some (.lst ys)∧ys.length < sizeLine∧∃ m',m' < m∧W (i+1) m' σ2 (upd H5 D (.lst (ys++[y])))
    else ∃ m',m' < m∧W (i+1) m' σ2 H4))
  (hR: ∀ D C s' H',Inv X pins σ H' s'→cx X pins H' C→(∃ m,s'.heap.Ns C m)→Q (.ref D) H'→R (.ref D) C (.ok .next) s'):
  wpAny (model X.prog X.w) X.A (newList []) (fun acc s₃=>wpAny (model X.prog X.w) X.A (newFunctionEnv scope X.env.globals (nE scope.names X.env.cells) [] X.env.qual none .none (some X.env)) (fun cenv s₄=>
   codeAny (model X.prog X.w) X.A (.compStart (.ListComp elt [⟨target,iter,ifs,0⟩] scope pos) 0 (.ref it) acc {cenv with scope:=relabel scope X.env}) (R acc cenv.locals) s₄) E s₃) E s:=by
 have I3:=I.lnew (t':=s.toks) (ys:=[]) (its:=[]) .nil (Nat.zero_le _)
 have hD:=I.fresh
 refine wpAny_newObj_type (wpAny_newFunctionEnv L.nocell (by intro y hy;simp at hy) (fun h₁ hns₁ hsb₁=>?_) L.kind)
 dsimp only at hns₁ hsb₁
 exact vE (Q:=Q) (R:=R) (s3:={s with heap:=s.heap.push {cls:=.type "list",data:=.seq ([]:List Value).toArray},toks:=s.toks}) L hc hg ht he I T st hf I3 (fun b o e=>Nat.ne_of_lt (Heap.lt_size e)) (fun b o e=>Heap.get?_push_of_some _ e) hns₁
  (fun b o e=>hsb₁.extBut b o (Nat.ne_of_lt (Heap.lt_size e)) (Heap.get?_push_of_some _ e)) (w _ hD) (fun C=>hR _ C)
theorem yg {elt target iter:Expr} {ifs:List Expr} {pos:Pos} {wi:TI} {g:TG} {tt:TT} {te:TE} (L:LcScope X scope N js) (hc:X.calm=true) (hi:PI X target iter wi)
  (hg: ∀ s₀ H₀ ex pn,PG (cxC X scope N s₀ H₀ ex pn) target g) (ht: ∀ s₀ H₀ ex pn,PTs (cxC X scope N s₀ H₀ ex pn) ifs tt) (he: ∀ s₀ H₀ ex pn,PE (cxC X scope N s₀ H₀ ex pn) elt te)
  (hs: ∀ x,foldedSetIterable iter X.env x=pure x:=by intro _;rfl):PE X (.ListComp elt [⟨target,iter,ifs,0⟩] scope pos) (tLC js wi g tt te):=by
 intro pins s σ H Q I h
 rw[eval_ListComp]
 refine wpAny_comprehension_free (use:=none) rfl hs (jH (L.clos I.ok)) L.kind L.names (thn (hi pins s σ H _ I h) fun v s1 h1=>thn h1 fun itv s2 h2=>?_)
 obtain⟨it,fp,tn,J,H2,e,I2,T,st2,f2,w⟩:=h2
 subst e
 refine mP (Q:=Q) (R:=fun acc C=>compPost (model X.prog X.w) X.A X.xe none (EP X pins σ Q) acc C) L hc hg ht he I2 T st2 f2 w ?_
 intro D C s' H' I' f' ⟨m,hn⟩ q
 exact⟨m,hn,fun h' hs'=>⟨.ref D,H',I'.gone (m:=m) f' hs',rfl,q⟩⟩
theorem ye {elt target iter:Expr} {ifs:List Expr} {pos spos py:Pos} {y:Str} {k:Nat} {wi:TI} {g:TG} {tt:TT} {te:TE} (hN:X.N.Nodup) (hk:X.N[k]?=some y) (hy:Loc X.env.scope y) (L:LcScope X scope N js) (hc:X.calm=true) (hi:PI X target iter wi)
  (hg: ∀ s₀ H₀ ex pn,PG (cxC X scope N s₀ H₀ ex pn) target g) (ht: ∀ s₀ H₀ ex pn,PTs (cxC X scope N s₀ H₀ ex pn) ifs tt) (he: ∀ s₀ H₀ ex pn,PE (cxC X scope N s₀ H₀ ex pn) elt te)
  (hsw:swapsWith (.ListComp elt [⟨target,iter,ifs,0⟩] scope pos) (some (.Name y py)) spos.line X.env=pure true:=by rfl)
  (hs: ∀ x,foldedSetIterable iter X.env x=pure x:=by intro _;rfl) (hf:X.fn y=true∨X.env.scope.names.lookup y=some .local:=by first|exact .inl rfl|exact .inr rfl|assumption):
  PS X (.Assign [.Name y py] (.ListComp elt [⟨target,iter,ifs,0⟩] scope pos) spos) (dD (tLC js wi g tt te) (cP k)):=by
 intro pins s σ H D I h
 rw[exec_Assign_Name_used _ _ _ _ hsw]
 refine wpAny_bind (wpAny_standAt (wpAny_bind ?_))
 show wpAny _ X.A (do let _ ←comprehension (.ListComp elt [⟨target,iter,ifs,0⟩] scope pos) scope X.env _ (newList []) false (eval iter X.env) (some (assign (.Name y py) X.env))) _ _ s
 refine wpAny_bind (thn (wpAny_comprehension_free (Q:=fun _ s'=>SP X pins D .next s') rfl hs (jH (L.clos I.ok)) L.kind L.names (thn (hi pins s σ H _ I h) fun v s1 h1=>thn h1 fun itv s2 h2=>?_)) fun _ s' hq=>wpAny_pure (wpAny_pure hq))
 obtain⟨it,fp,tn,J,H2,e,I2,T,st2,f2,w⟩:=h2
 subst e
 refine mP (Q:=fun v H1=>D.nx (σ.set k (some v)) H1) (R:=fun acc C=>compPost (model X.prog X.w) X.A X.xe (some (assign (.Name y py) X.env)) (fun _ s'=>SP X pins D .next s') acc C) L hc hg ht he I2 T st2 f2 w ?_
 intro A C s' H' I' f' ⟨m,hn⟩ q
 show wpAny _ _ (assign (.Name y py) X.env (.ref A)) _ _ s'
 refine wpAny_assign_Name (kA (v:=V.ref A) I' hN hk hy rfl (fun s2 I3 ⟨a,hsb,ha⟩=>?_) hf)
 have hca:C≠a:=by
  rintro rfl
  rcases ha with z|z
  ·exact f'.2.1 z
  ·exact f'.2.2.2.2.1 y _ z rfl
 exact⟨m,hn.sameBut hsb hca,fun h' hs'=>⟨_,H',I3.gone (m:=m) f' hs',q⟩⟩
end
noncomputable def Itx (x:Str):It:=⟨fun i _=>i < x.cps.size,fun i H v H'=>H'=H∧∃ c,x.cps[i]?=some c∧v= .str ⟨#[c]⟩,fun i _=>i=x.cps.size⟩
theorem kz {P:Program} {w:World} {K:PySem.W.Frag} {tg:Expr} (it:Addr) (x:Str) (t:Tok) {ty:String}
  (hn:["enumerate","zip","dict_itemiterator","dict_reverseitemiterator","odict_iterator","itertools.zip_longest","itertools.pairwise"].contains ty=false)
  (Wk: ∀ A:Around,A.handled=none→Walks P w A it [it] [it] x.cps.size (SignAt x) (fun i h=>h.IsStrIter it ty x t i))
  (Sf: ∀ (A:Around) i (s:Shared) (Q:Value→Shared→Prop) (E:Value→Shared→Prop),s.heap.IsStrIter it ty x t i→Q (.ref it) s→wpAny (model P w) A (pyIter (.ref it)) Q E s):Turn P w K tg (Itx x) [it] it (fun i h=>h.IsStrIter it ty x t i) where
 mem:=by simp
 obj:=fun i h st b hb=>by
  have e:b=it:=by simpa using hb
  subst e
  obtain⟨o,e,c,d⟩:=st
  exact⟨o,e,fun v z=>by rw[d] at z;cases z⟩
 keep:=fun i h h' st k=>by
  obtain⟨o,e,c,d⟩:=st
  exact⟨o,k it (by simp) o e,c,d⟩
 item:=by
  intro X hP hw hK hc i pins s σ H E I hf st hg
  subst hP hw hK
  obtain⟨f0,f1,f2,f3,f4,f5⟩:=hf it (by simp)
  refine(Wk X.A (I.ok.hd hc)).item i s _ _ hg st fun v h' tk hv st' kk=>?_
  obtain⟨c,u,hcx,rfl⟩:=hv
  have I1:Inv X pins σ H {s with heap:=h',toks:=tk}:=I.turned (fun b o hb e=>kk b o (by simpa using hb) e) f0 f1 f3 f4 f5
  obtain⟨o,e,oc,d⟩:=id st'
  exact⟨_,rfl,iP (s:={s with heap:=h',toks:=tk}) e oc d hn ⟨.str ⟨#[c]⟩,H,I1,⟨u,rfl⟩,⟨rfl,c,hcx,rfl⟩,st',fun b hb=>(hf b hb).1⟩⟩
 done:=by
  intro X hP hw hK hc i pins s σ H E I hf st hg
  subst hP hw hK
  have hg':i=x.cps.size:=hg
  subst hg'
  obtain⟨f0,f1,f2,f3,f4,f5⟩:=hf it (by simp)
  exact(Wk X.A (I.ok.hd hc)).done s _ _ st fun h' tk kk=>⟨rfl,I.turned (fun b o hb e=>kk b o (by simpa using hb) e) f0 f1 f3 f4 f5⟩
 self:=fun A i s Q E st h=>Sf A i s Q E st h
section
variable {X:Cx} {tg:Expr}
theorem qZ:OpR X (compareOp .LtE) (fun x y H Q=> ∃ i j,x= .str i∧y= .str j∧Q (.bl (!decide (j.cps.toList < i.cps.toList))) H):=by
 intro pins s σ H x y v u Q I rx ry h
 obtain⟨i,j,rfl,rfl,q⟩:=h
 obtain⟨t,rfl⟩:=rx
 obtain⟨t',rfl⟩:=ry
 exact PySem.P.le_str (fi I q rfl)
theorem vo:OpR X (binaryOp .Mult) (rI IntMulOk fun i j=>.int (i * j)):=opI fun _ _ _ _ _ _ _ hc q=>mul_int q hc
theorem gn:OpR X (binaryOp .Pow) (rI (fun i j=>0≤j∧(Builtin.Int.intBits i:Int) * j≤2 ^ 27) fun i j=>.int (i ^ j.toNat)):=opI fun _ _ _ _ _ _ _ hc q=>pow_int hc.1 hc.2 q
noncomputable def yD (K:PySem.W.Frag) (neg:Bool):R2:=fun x y H Q=> ∃ p q xs,x= .ref p∧y= .ref q∧SqL K H p xs∧SqL K H q []∧Q (.bl (xor neg xs.isEmpty)) H
theorem qY (hu:X.A.units < cLine):OpR X (compareOp .NotEq) (yD X.K true):=by
 intro pins s σ H x y v u Q I rx ry h
 obtain⟨p,q,xs,rfl,rfl,h1,h2,hq⟩:=h
 cases rx;cases ry
 obtain⟨its,r1,l1,_⟩:=I.list h1
 obtain⟨its2,r2,l2,_⟩:=I.list h2
 cases r2
 cases xs with
 |nil=>
  cases r1
  exact SeqAt.RcNeAt.lists (e:=fun _=>true) l1.isList l2.isList rfl hu (fun j a _=>by simp at a) _ _ _ _ (fi I hq rfl)
 |cons y ys=>
  have e:=r1.length
  exact SeqAt.RcNeAt.lists_lengths l1.isList l2.isList (by simp;intro z;subst z;simp at e) hu _ _ _ _ (fi I hq rfl)
theorem yr {bs:List Bool} {its:List Value} (r:Vals (bs.map V.bl) its) (i:Nat) (v:Value) (e:its[i]?=some v): ∃ b,bs[i]?=some b∧v= .bool b:=by
 have hl:=r.length
 rw[List.length_map] at hl
 have hi:i < bs.length:=by rw[hl];exact(List.getElem?_eq_some_iff.mp e).1
 obtain⟨u,h1,h2⟩:=r.get (x:=V.bl bs[i]) (by rw[List.getElem?_map,List.getElem?_eq_getElem hi];rfl)
 rw[e] at h1;cases h1
 exact⟨bs[i],List.getElem?_eq_getElem hi,h2⟩
theorem pL (bs:List Bool):((List.range bs.length).all fun i=>(bs[i]?).getD true)=bs.all id:=by
 rw[Bool.eq_iff_iff,List.all_eq_true,List.all_eq_true]
 constructor
 ·intro h b hb
  obtain⟨i,hi,e⟩:=List.getElem_of_mem hb
  have:=h i (List.mem_range.mpr hi)
  rw[List.getElem?_eq_getElem hi,e] at this
  exact this
 ·intro h i hi
  have hi':=List.mem_range.mp hi
  rw[List.getElem?_eq_getElem hi']
  exact h _ (List.getElem_mem hi')
theorem je (hc:X.calm=true):dH X (.builtin "all") (fun xs H Q=> ∃ (p:Addr) (bs:List Bool),xs=[.ref p]∧SqL X.K H p (bs.map V.bl)∧Q (.bl (bs.all id)) H):=by
 intro pins s σ H xs us Q I r h
 obtain⟨p,bs,rfl,hq,q⟩:=h
 obtain⟨u,rfl,rx⟩:=vals1 r
 cases rx
 obtain⟨its,r',pl,hz⟩:=I.list hq
 have hl:=pl.isList
 have hlt:p < s.heap.objs.size:=by obtain⟨_,e,_⟩:=hl;exact Heap.lt_size e
 have hlen:=r'.length
 rw[List.length_map] at hlen
 refine call_all_walk (wpAny_pyIter_list hl ?_)
 refine⟨s.heap.objs.size,[s.heap.objs.size,p],[s.heap.objs.size],its.toArray.size,_,_,fun i=>(bs[i]?).getD true,rfl,Walks.list (A:=X.A.in1) (I.ok.hd hc) _ p (Nat.ne_of_lt hlt) its.toArray,
  ⟨⟨_,Heap.get?_push_size _ rfl,rfl,rfl⟩,hl.push _⟩,fun i v s' Q' E' hP hQ=>?_,fun h' tk hk=>?_⟩
 ·obtain⟨b,e,rfl⟩:=yr r' i v (by simpa using hP)
  simp only[e,Option.getD_some] at hQ
  exact wpAny_truthy_bool hQ
 ·refine⟨.bl (bs.all id),H,I.kept (fun b o e=>hk b o (fun hm=>?_) (Heap.get?_push_of_some _ e)),?_,q⟩
  ·rw[List.mem_singleton.mp hm] at e;exact Nat.lt_irrefl _ (Heap.lt_size e)
  ·show Value.bool _=Value.bool _
   rw[List.size_toArray,←hlen,pL]
theorem oF: ∀ {ys:List Str} {us:List Value},Vals (ys.map V.str) us→StrsAre us ys
 |[],us,r=>by rw[List.map_nil] at r;cases r;exact .nil
 |y::ys,us,r=>by
  rw[List.map_cons] at r
  cases r with
  |cons h t=>obtain⟨t',rfl⟩:=h;exact .cons y t' (oF t)
theorem vx:MtR X "str.join" (fun x xs H Q=> ∃ (sep:Str) (p:Addr) (ys:List Str),x= .str sep∧xs=[.ref p]∧SqL X.K H p (ys.map V.str)∧(ys.map (·.length)).sum+ys.length * sep.length≤16777216∧Q (.str (Txt.join sep ys)) H):=by
 intro pins s σ H x xs v us Q I rx rv h
 obtain⟨sep,p,ys,rfl,rfl,hq,hz,q⟩:=h
 obtain⟨t,rfl⟩:=rx
 obtain⟨u,rfl,ru⟩:=vals1 rv
 cases ru
 obtain⟨its,r',pl,_⟩:=I.list hq
 exact join_list pl.isList (by simpa using oF r') hz fun t' k=>⟨.str (Txt.join sep ys),H,I.tok _,⟨_,rfl⟩,q⟩
end
noncomputable def xo (scope es:Scope) (XN N:List Str) (js:List (Option Nat)):Bool:=
 (scope.kind== .function)&&scope.names.all (fun y=>y.2 != .cell&&(y.2 != .local||scope.names.lookup y.1==some .local)&&(y.2 != .free||es.names.lookup y.1==some .cell||es.names.lookup y.1==some .free))&&
 (js.length==N.length)&&(List.range N.length).all (fun i=>match N[i]?,js[i]? with|some y,some (some j)=>XN[j]?==some y&&scope.names.lookup y==some .free|_,_=>true)
theorem LcScope.mk2 {X:Cx} {scope:Scope} {N:List Str} {js:List (Option Nat)} (es:Scope) (XN:List Str) (h1:X.env.scope=es) (h2:X.N=XN) (h:xo scope es XN N js=true):LcScope X scope N js:=by
 unfold xo at h
 simp only[Bool.and_eq_true,List.all_eq_true] at h
 obtain⟨⟨⟨ha,hb⟩,hc⟩,hd⟩:=h
 refine⟨by simpa using ha,fun y hy=>?_,fun y hy hl=>?_,fun y hy hl=>?_,by simpa using hc,fun i y j e1 e2=>?_⟩
 ·have:=(hb y hy).1.1
  simpa using this
 ·have:=(hb y hy).1.2
  rw[hl] at this
  simpa using this
 ·have:=(hb y hy).2
  rw[hl] at this
  rw[h1]
  simpa using this
 ·have hi:i < N.length:=(List.getElem?_eq_some_iff.mp e1).1
  have:=hd i (List.mem_range.mpr hi)
  rw[e1,e2] at this
  simp only[Bool.and_eq_true] at this
  rw[h2]
  exact⟨by simpa using this.1,by simpa using this.2⟩
noncomputable def isStar:Expr→Bool
 | .Starred .. =>true
 |_=>false
theorem yb {e:Expr} {es:List Expr} {env:Env} (h:isStar e=false):starEach (e::es) env=(false,eval e env)::starEach es env:=by
 cases e<;>first
  |rfl
  |(exfalso;exact Bool.noConfusion h)
theorem wW {X:Cx} {e:Expr} {es:List Expr} {te:TE} {t:TA} (ha:PE X e te) (hr:PA X es t) (h:isStar e=false:=by rfl):PA X (e::es) (gz te t):=cL ha hr (yb h)
theorem eT {H:Hp} {p:Addr} (h:H p=none) (o:HO):Same H (upd H p o):=fun b u q=>by rw[ar (aS q h)];exact q
section
set_option genInjectivity false in
structure Bx (p:Prop):Prop where
 out:p
noncomputable abbrev BE (X:Cx) (e:Expr) (t:TE):Prop:=Bx (PE X e t)
noncomputable abbrev BT (X:Cx) (e:Expr) (t:TT):Prop:=Bx (PT X e t)
noncomputable abbrev BW (X:Cx) (e:Expr) (t:TT):Prop:=Bx (PW X e t)
noncomputable abbrev BA (X:Cx) (es:List Expr) (t:TA):Prop:=Bx (PA X es t)
noncomputable abbrev BS (X:Cx) (st:Stmt) (t:TS):Prop:=Bx (PS X st t)
noncomputable abbrev BSs (X:Cx) (st:List Stmt) (t:TS):Prop:=Bx (PSs X st t)
noncomputable abbrev BI (X:Cx) (tg iter:Expr) (t:TI):Prop:=Bx (PI X tg iter t)
noncomputable abbrev BG (X:Cx) (tg:Expr) (t:TG):Prop:=Bx (PG X tg t)
noncomputable abbrev BGs (X:Cx) (ts:List Expr) (t:TGs):Prop:=Bx (PGs X ts t)
noncomputable abbrev BO (X:Cx) (e:Option Expr) (t:TO):Prop:=Bx (PO X e t)
noncomputable abbrev BTs (X:Cx) (ifs:List Expr) (t:TT):Prop:=Bx (PTs X ifs t)
inductive PV where
 |non|bl (b:Bool)|int (i:Int)|str (x:Str)|tup (l:List PV)|lst (l:List PV)|dct (kvs:List (Key×PV))|scr (ns:List Int)|bag
inductive M (α:Type) where
 |fail|ret (a:α)|draw (m:Int) (k:Int→M α)
namespace M
variable {α β γ:Type}
noncomputable def bind:M α→(α→M β)→M β
 |fail,_=>fail
 |ret a,f=>f a
 |draw m k,f=>draw m fun d=>(k d).bind f
noncomputable def wp:M α→Nat→(α→Nat→Prop)→Prop
 |fail,_,_=>False
 |ret a,n,Q=>Q a n
 |draw m k,n,Q=>0 < m∧m < 1073741824∧∃ n',n=n'+1∧∀ d,0≤d→d < m→(k d).wp n' Q
theorem wp_bind (m:M α) (f:α→M β): ∀ (n:Nat) (Q:β→Nat→Prop),(m.bind f).wp n Q=m.wp n fun a n'=>(f a).wp n' Q:=by
 induction m with
 |fail=>intro n Q;rfl
 |ret a=>intro n Q;rfl
 |draw m k ih=>intro n Q;simp only[bind,wp,ih]
theorem wp_mono {m:M α}: ∀ {n:Nat} {Q Q':α→Nat→Prop},m.wp n Q→(∀ a n',Q a n'→Q' a n')→m.wp n Q':=by
 induction m with
 |fail=>intro n Q Q' h _;exact h
 |ret a=>intro n Q Q' h f;exact f _ _ h
 |draw m k ih=>
  intro n Q Q' h f
  obtain⟨h1,h2,n',e,h3⟩:=h
  exact⟨h1,h2,n',e,fun d a b=>ih d (h3 d a b) f⟩
theorem bind_assoc (m:M α) (f:α→M β) (g:β→M γ):(m.bind f).bind g=m.bind fun a=>(f a).bind g:=by
 induction m with
 |fail=>rfl
 |ret a=>rfl
 |draw m k ih=>simp only[bind,ih]
@[simp] theorem ret_bind (a:α) (f:α→M β):(ret a).bind f=f a:=rfl
noncomputable def ofO:Option α→M α
 |some a=>ret a
 |none=>fail
end M
inductive Rep (B:Addr) (O:Addr→Prop) (H:Hp):PV→V→Prop where
 |non:Rep B O H .non .non
 |bl (b:Bool):Rep B O H (.bl b) (.bl b)
 |int (i:Int):Rep B O H (.int i) (.int i)
 |str (x:Str):Rep B O H (.str x) (.str x)
 |tup {p:Addr} {xs:List V} {l:List PV} (hO: ¬ O p) (h:H p=some (.tup xs)) (hl:l.length=xs.length) (hr: ∀ (i:Nat) (y:PV) (x:V),l[i]?=some y→xs[i]?=some x→Rep B O H y x):Rep B O H (.tup l) (.ref p)
 |lst {p:Addr} {xs:List V} {l:List PV} (hO: ¬ O p) (h:H p=some (.lst xs)) (hl:l.length=xs.length) (hr: ∀ (i:Nat) (y:PV) (x:V),l[i]?=some y→xs[i]?=some x→Rep B O H y x):Rep B O H (.lst l) (.ref p)
 |dct {p:Addr} {ks:List (Key×V)} {l:List (Key×PV)} (hO: ¬ O p) (h:Rd H p (.dK ks)) (hk:l.map (·.1)=ks.map (·.1)) (hr: ∀ (i:Nat) (y:Key×PV) (x:Key×V),l[i]?=some y→ks[i]?=some x→Rep B O H y.2 x.2):Rep B O H (.dct l) (.ref p)
 |scr {p:Addr} {ns:List Int} (hO: ¬ O p) (h: ∃ o,H p=some (.frz o (.lst (ns.map V.int)))):Rep B O H (.scr ns) (.ref p)
 |bag:Rep B O H .bag (.ref B)
noncomputable def Reps (B:Addr) (O:Addr→Prop) (H:Hp) (l:List PV) (xs:List V):Prop:=l.length=xs.length∧∀ (i:Nat) (y:PV) (x:V),l[i]?=some y→xs[i]?=some x→Rep B O H y x
noncomputable def RepsK (B:Addr) (O:Addr→Prop) (H:Hp) (l:List (Key×PV)) (ks:List (Key×V)):Prop:=l.map (·.1)=ks.map (·.1)∧∀ (i:Nat) (y:Key×PV) (x:Key×V),l[i]?=some y→ks[i]?=some x→Rep B O H y.2 x.2
noncomputable def Stand (H':Hp) (p:Addr):HO→Prop
 | .tbl _=> ∃ qs,H' p=some (.tbl qs)
 |o=>H' p=some o
theorem Stand.of {H':Hp} {p:Addr} {o:HO} (h:H' p=some o):Stand H' p o:=by
 cases o<;>first|exact h|exact⟨_,h⟩
theorem Stand.there {H':Hp} {p:Addr} {o:HO} (h:Stand H' p o): ∃ u,H' p=some u:=by
 cases o<;>first|exact⟨_,h⟩|(obtain⟨qs,e⟩:=h;exact⟨_,e⟩)
theorem Stand.to {H' H2:Hp} {p:Addr} {o:HO} (h:Stand H' p o) (k: ∀ u,H' p=some u→Stand H2 p u):Stand H2 p o:=by
 cases o<;>first|exact k _ h|(obtain⟨qs,e⟩:=h;have q:=k (.tbl qs) e;exact q)
noncomputable def Ext (B:Addr) (H H':Hp):Prop:= ∀ p o,p≠B→H p=some o→Stand H' p o
theorem Ext.refl (B:Addr) (H:Hp):Ext B H H:=fun _ _ _ h=>.of h
theorem Ext.trans {B:Addr} {H H1 H2:Hp} (a:Ext B H H1) (b:Ext B H1 H2):Ext B H H2:=fun p o n h=>(a p o n h).to fun u e=>b p u n e
theorem Ext.new {B p:Addr} {H:Hp} (h:H p=none) (o:HO):Ext B H (upd H p o):=fun q u _ e=>.of (by rw[ar (aS e h)];exact e)
section
variable {B:Addr} {O O':Addr→Prop} {H H':Hp} {y:PV} {x:V} {l l':List PV} {xs xs':List V}
theorem Rep.keepS (h:Rep B O H y x) (hH: ∀ p o,¬ O p→H p=some o→Stand H' p o∧¬ O' p):Rep B O' H' y x:=by
 induction h with
 |non=>exact .non
 |bl b=>exact .bl b
 |int i=>exact .int i
 |str x=>exact .str x
 |tup hO h hl hr ih=>exact .tup (hH _ _ hO h).2 (hH _ _ hO h).1 hl ih
 |lst hO h hl hr ih=>exact .lst (hH _ _ hO h).2 (hH _ _ hO h).1 hl ih
 |scr hO h=>
  obtain⟨o,e⟩:=h
  exact .scr (hH _ _ hO e).2 ⟨o,(hH _ _ hO e).1⟩
 |dct hO h hl hr ih=>
  rcases h with h|⟨o,h⟩
  ·exact .dct (hH _ _ hO h).2 (.inl (hH _ _ hO h).1) hl ih
  ·exact .dct (hH _ _ hO h).2 (.inr ⟨o,(hH _ _ hO h).1⟩) hl ih
 |bag=>exact .bag
theorem Rep.keep (h:Rep B O H y x) (hH: ∀ p o,¬ O p→H p=some o→H' p=some o∧¬ O' p):Rep B O' H' y x:=h.keepS fun p o n q=>⟨.of (hH p o n q).1,(hH p o n q).2⟩
theorem Rep.ext (h:Rep B O H y x) (hB:O B) (e:Ext B H H'):Rep B O H' y x:=h.keepS fun p o n q=>⟨e p o (fun z=>n (z▸hB)) q,n⟩
theorem Rep.less (h:Rep B O H y x) (hO: ∀ p,O' p→O p):Rep B O' H y x:=h.keep fun p o n q=>⟨q,fun z=>n (hO p z)⟩
theorem Rep.grow (h:Rep B O H y x) (hO: ∀ p,O' p→O p∨H p=none):Rep B O' H y x:=h.keep fun p o n q=>⟨q,fun z=>by
 rcases hO p z with w|w
 ·exact n w
 ·rw[w] at q;cases q⟩
theorem Reps.keepS (h:Reps B O H l xs) (hH: ∀ p o,¬ O p→H p=some o→Stand H' p o∧¬ O' p):Reps B O' H' l xs:=⟨h.1,fun i y x a b=>(h.2 i y x a b).keepS hH⟩
theorem Reps.keep (h:Reps B O H l xs) (hH: ∀ p o,¬ O p→H p=some o→H' p=some o∧¬ O' p):Reps B O' H' l xs:=⟨h.1,fun i y x a b=>(h.2 i y x a b).keep hH⟩
theorem Reps.ext (h:Reps B O H l xs) (hB:O B) (e:Ext B H H'):Reps B O H' l xs:=⟨h.1,fun i y x a b=>(h.2 i y x a b).ext hB e⟩
theorem Reps.less (h:Reps B O H l xs) (hO: ∀ p,O' p→O p):Reps B O' H l xs:=⟨h.1,fun i y x a b=>(h.2 i y x a b).less hO⟩
theorem Reps.grow (h:Reps B O H l xs) (hO: ∀ p,O' p→O p∨H p=none):Reps B O' H l xs:=⟨h.1,fun i y x a b=>(h.2 i y x a b).grow hO⟩
theorem Reps.nil:Reps B O H [] []:=⟨rfl,fun i y x a=>by simp at a⟩
theorem Reps.cons (h:Rep B O H y x) (t:Reps B O H l xs):Reps B O H (y::l) (x::xs):=⟨by simp[t.1],fun i y' x' a b=>by
 cases i with
 |zero=>simp at a b;subst a b;exact h
 |succ i=>simp at a b;exact t.2 i y' x' a b⟩
theorem Reps.head (h:Reps B O H (y::l) (x::xs)):Rep B O H y x:=h.2 0 y x rfl rfl
theorem Reps.tail (h:Reps B O H (y::l) (x::xs)):Reps B O H l xs:=⟨by simpa using h.1,fun i y' x' a b=>h.2 (i+1) y' x' (by simpa using a) (by simpa using b)⟩
theorem Reps.nil_inv (h:Reps B O H [] xs):xs=[]:=List.eq_nil_of_length_eq_zero h.1.symm
theorem Reps.cons_inv (h:Reps B O H (y::l) xs): ∃ x r,xs=x::r∧Rep B O H y x∧Reps B O H l r:=by
 cases xs with
 |nil=>have:=h.1;simp at this
 |cons x r=>exact⟨x,r,rfl,h.head,h.tail⟩
theorem Reps.at (h:Reps B O H l xs) {i:Nat} (e:l[i]?=some y): ∃ x,xs[i]?=some x∧Rep B O H y x:=by
 have hi:i < l.length:=(List.getElem?_eq_some_iff.mp e).1
 have hx:i < xs.length:=h.1▸hi
 exact⟨xs[i],List.getElem?_eq_getElem hx,h.2 i y _ e (List.getElem?_eq_getElem hx)⟩
theorem Reps.at' (h:Reps B O H l xs) {i:Nat} (e:xs[i]?=some x): ∃ y,l[i]?=some y∧Rep B O H y x:=by
 have hi:i < xs.length:=(List.getElem?_eq_some_iff.mp e).1
 have hx:i < l.length:=h.1▸hi
 exact⟨l[i],List.getElem?_eq_getElem hx,h.2 i _ x (List.getElem?_eq_getElem hx) e⟩
theorem Reps.append: ∀ {l:List PV} {xs:List V},Reps B O H l xs→Reps B O H l' xs'→Reps B O H (l++l') (xs++xs')
 |[],xs,h,t=>by rw[h.nil_inv];exact t
 |y::l,xs,h,t=>by
  obtain⟨x,r,rfl,h1,h2⟩:=h.cons_inv
  exact .cons h1 (Reps.append h2 t)
theorem Reps.drop: ∀ (k:Nat) {l:List PV} {xs:List V},Reps B O H l xs→Reps B O H (l.drop k) (xs.drop k)
 |0,_,_,h=>h
 |_+1,[],_,h=>by have e:=h.nil_inv;subst e;simpa using Reps.nil
 |k+1,y::l,xs,h=>by
  obtain⟨x,r,rfl,h1,h2⟩:=h.cons_inv
  exact Reps.drop k h2
theorem Reps.take: ∀ (k:Nat) {l:List PV} {xs:List V},Reps B O H l xs→Reps B O H (l.take k) (xs.take k)
 |0,_,_,h=>.nil
 |_+1,[],_,h=>by have e:=h.nil_inv;subst e;simpa using Reps.nil
 |k+1,y::l,xs,h=>by
  obtain⟨x,r,rfl,h1,h2⟩:=h.cons_inv
  exact .cons h1 (Reps.take k h2)
theorem Reps.set (h:Reps B O H l xs) (i:Nat) (hr:Rep B O H y x):Reps B O H (l.set i y) (xs.set i x):=by
 refine⟨by simp[h.1],fun j y' x' a b=>?_⟩
 by_cases e:i=j
 ·subst e
  rw[List.getElem?_set] at a b
  simp at a b
  obtain⟨_,rfl⟩:=a
  obtain⟨_,rfl⟩:=b
  exact hr
 ·rw[List.getElem?_set_ne e] at a b
  exact h.2 j y' x' a b
theorem RepsK.keep {l:List (Key×PV)} {ks:List (Key×V)} (h:RepsK B O H l ks) (hH: ∀ p o,¬ O p→H p=some o→H' p=some o∧¬ O' p):RepsK B O' H' l ks:=⟨h.1,fun i y x a b=>(h.2 i y x a b).keep hH⟩
theorem RepsK.ext {l:List (Key×PV)} {ks:List (Key×V)} (h:RepsK B O H l ks) (hB:O B) (e:Ext B H H'):RepsK B O H' l ks:=⟨h.1,fun i y x a b=>(h.2 i y x a b).ext hB e⟩
end
set_option genInjectivity false in
structure Fam where
 K:PySem.W.Frag
 sp:Sp
 tabs:List (Addr×Str)
noncomputable def ug:HO→Prop
 | .frz _ (.dK _)=>False
 | .frz _ _=>True
 |_=>False
noncomputable def TabAt (H:Hp) (e:Addr×Str):Prop:= ∃ ps,H e.1=some (.tbl ps)∧TriplesOk ps.toList∧∀ pos cv,codeAmong pos ps.toList=some cv→∃ c oc vs t,cv= .ref c∧H c=some (.frz oc (.own c))∧oc.data= .fields vs∧vs[1]?=some (.str e.2 t)
theorem TabAt.keep {H H':Hp} {e:Addr×Str} (h:TabAt H e) (k1: ∀ ps,H e.1=some (.tbl ps)→H' e.1=some (.tbl ps)) (k2: ∀ p ob u,H p=some (.frz ob (.own u))→H' p=some (.frz ob (.own u))):TabAt H' e:=by
 obtain⟨ps,h1,h2,h3⟩:=h
 refine⟨ps,k1 _ h1,h2,fun pos cv e1=>?_⟩
 obtain⟨c,oc,vs,t,rfl,g1,g2⟩:=h3 pos cv e1
 exact⟨c,oc,vs,t,rfl,k2 _ _ _ g1,g2⟩
set_option genInjectivity false in
structure Bg (φ:Fam) where
 B:Addr
 priv:Addr→Prop
 ok:Hp→Nat→Prop
 pB:priv B
 keep: ∀ H H' n,(∀ p o,(priv p∨ug o)→H p=some o→H' p=some o)→ok H n→ok H' n
 tp: ∀ e∈φ.tabs,priv e.1
 tab: ∀ H n,ok H n→∀ e∈φ.tabs,TabAt H e
 tset: ∀ H H' n,ok H n→(∀ e∈φ.tabs,TabAt H' e)→(∀ p o,p∉φ.tabs.map (·.1)→H p=some o→H' p=some o)→ok H' n
 dom: ∀ H n p,ok H n→priv p→∃ o,H p=some o
 dr: ∀ (H:Hp) (n:Nat) (m:Int) (Q:VK) (E:XK),ok H (n+1)→0 < m→m < 1073741824→(∀ (d:Int) (H':Hp),0≤d→d < m→Ext B H H'→ok H' n→Q (.int d) H')→φ.sp [.ref B,.int m] H Q E
variable {φ:Fam}
inductive Ent where
 |un|val (y:PV)|own (l:List PV)|ownD (kvs:List (Key×PV))
noncomputable abbrev ah:=List Ent
noncomputable def EntRep (G:Bg φ) (O:Addr→Prop) (H:Hp):Ent→Option V→Prop
 | .un,_=>True
 | .val y,o=> ∃ x,o=some x∧Rep G.B O H y x
 | .own l,o=> ∃ p xs,o=some (.ref p)∧O p∧¬ G.priv p∧H p=some (.lst xs)∧Reps G.B O H l xs
 | .ownD l,o=> ∃ p ks,o=some (.ref p)∧O p∧¬ G.priv p∧H p=some (.dK ks)∧RepsK G.B O H l ks
noncomputable def EnvRep (G:Bg φ) (O:Addr→Prop) (H:Hp) (σ:St) (ρ:ah):Prop:=σ.length=ρ.length∧∀ (i:Nat) (e:Ent),ρ[i]?=some e→EntRep G O H e ((σ[i]?).getD none)
set_option genInjectivity false in
structure ES (G:Bg φ) (O:Addr→Prop) (H:Hp) (σ:St) (ρ:ah) (n:Nat):Prop where
 er:EnvRep G O H σ ρ
 ok:G.ok H n
 pr: ∀ p,G.priv p→O p
 dm: ∀ p,O p→∃ o,H p=some o
theorem ES.B {G:Bg φ} {O:Addr→Prop} {H:Hp} {σ:St} {ρ:ah} {n:Nat} (s:ES G O H σ ρ n):O G.B:=s.pr _ G.pB
theorem EntRep.ext {G:Bg φ} {O:Addr→Prop} {H H':Hp} {e:Ent} {o:Option V} (h:EntRep G O H e o) (hB:O G.B) (x:Ext G.B H H'):EntRep G O H' e o:=by
 cases e with
 |un=>trivial
 |val y=>obtain⟨v,e,r⟩:=h;exact⟨v,e,r.ext hB x⟩
 |own l=>obtain⟨p,xs,e,hp,np,hl,r⟩:=h;exact⟨p,xs,e,hp,np,x p _ (fun z=>np (z▸G.pB)) hl,r.ext hB x⟩
 |ownD l=>obtain⟨p,xs,e,hp,np,hl,r⟩:=h;exact⟨p,xs,e,hp,np,x p _ (fun z=>np (z▸G.pB)) hl,r.ext hB x⟩
theorem ES.ext {G:Bg φ} {O:Addr→Prop} {H H':Hp} {σ:St} {ρ:ah} {n n':Nat} (s:ES G O H σ ρ n) (x:Ext G.B H H') (ok:G.ok H' n'):ES G O H' σ ρ n' where
 er:=⟨s.er.1,fun i e h=>(s.er.2 i e h).ext s.B x⟩
 ok:=ok
 pr:=s.pr
 dm:=fun p h=>by
  by_cases e:p=G.B
  ·subst e;exact G.dom _ _ _ ok G.pB
  ·obtain⟨o,q⟩:=s.dm p h;exact(x p o e q).there
theorem Bg.new {G:Bg φ} {H:Hp} {n:Nat} (ok:G.ok H n) {p:Addr} (h:H p=none) (o:HO):G.ok (upd H p o) n:=G.keep _ _ _ (fun q u _ e=>by rw[ar (aS e h)];exact e) ok
noncomputable def Wish (G:Bg φ) (O:Addr→Prop) (H:Hp) (R:PV→Nat→Prop) (Q:VK):Prop:= ∀ (y:PV) (x:V) (H':Hp) (n':Nat),Ext G.B H H'→G.ok H' n'→Rep G.B O H' y x→R y n'→Q x H'
noncomputable def teP (φ:Fam) (m:ah→M PV):TE:=fun σ H Q=> ∃ (G:Bg φ) (O:Addr→Prop) (ρ:ah) (n:Nat) (R:PV→Nat→Prop),ES G O H σ ρ n∧(m ρ).wp n R∧Wish G O H R Q
noncomputable def EV (φ:Fam) (X:Cx) (e:Expr) (m:ah→M PV):Prop:=BE X e (teP φ m)
theorem BE.mono {X:Cx} {e:Expr} {t t':TE} (h:BE X e t) (f: ∀ σ H Q,t' σ H Q→t σ H Q):BE X e t':=⟨fun pins s σ H Q I q=>h.out pins s σ H Q I (f σ H Q q)⟩
inductive RepB (G:Bg φ) (O:Addr→Prop) (H:Hp):PV→V→Prop where
 |full {y:PV} {x:V} (h:Rep G.B O H y x):RepB G O H y x
 |top {p:Addr} {xs:List V} {l:List PV} (np: ¬ G.priv p) (h:H p=some (.lst xs)) (r:Reps G.B O H l xs):RepB G O H (.lst l) (.ref p)
 |topD {p:Addr} {ks:List (Key×V)} {l:List (Key×PV)} (np: ¬ G.priv p) (h:H p=some (.dK ks)) (r:RepsK G.B O H l ks):RepB G O H (.dct l) (.ref p)
theorem RepB.ext {G:Bg φ} {O:Addr→Prop} {H H':Hp} {y:PV} {x:V} (h:RepB G O H y x) (hB:O G.B) (e:Ext G.B H H'):RepB G O H' y x:=by
 cases h with
 |full h=>exact .full (h.ext hB e)
 | @top p xs l np h r=>exact .top np (e p (.lst xs) (fun z=>np (z▸G.pB)) h) (r.ext hB e)
 | @topD p ks l np h r=>exact .topD np (e p (.dK ks) (fun z=>np (z▸G.pB)) h) (r.ext hB e)
noncomputable def yv (G:Bg φ) (O:Addr→Prop) (H:Hp) (R:PV→Nat→Prop) (Q:VK):Prop:= ∀ (y:PV) (x:V) (H':Hp) (n':Nat),Ext G.B H H'→G.ok H' n'→RepB G O H' y x→R y n'→Q x H'
noncomputable def teB (φ:Fam) (m:ah→M PV):TE:=fun σ H Q=> ∃ (G:Bg φ) (O:Addr→Prop) (ρ:ah) (n:Nat) (R:PV→Nat→Prop),ES G O H σ ρ n∧(m ρ).wp n R∧yv G O H R Q
noncomputable def EB (φ:Fam) (X:Cx) (e:Expr) (m:ah→M PV):Prop:=BE X e (teB φ m)
theorem EV.b {X:Cx} {e:Expr} {m:ah→M PV} (h:EV φ X e m):EB φ X e m:=BE.mono h fun σ H Q ⟨G,O,ρ,n,R,s,w,q⟩=>⟨G,O,ρ,n,R,s,w,fun y x H' n' a b c d=>q y x H' n' a b (.full c) d⟩
noncomputable def yt (G:Bg φ) (H:Hp) (R:Bool→Nat→Prop) (Q:Bool→Hp→Prop):Prop:= ∀ (b:Bool) (H':Hp) (n':Nat),Ext G.B H H'→G.ok H' n'→R b n'→Q b H'
noncomputable def ttP (φ:Fam) (m:ah→M Bool):TT:=fun σ H Q=> ∃ (G:Bg φ) (O:Addr→Prop) (ρ:ah) (n:Nat) (R:Bool→Nat→Prop),ES G O H σ ρ n∧(m ρ).wp n R∧yt G H R Q
noncomputable def TV (φ:Fam) (X:Cx) (e:Expr) (m:ah→M Bool):Prop:=BT X e (ttP φ m)
noncomputable def WV (φ:Fam) (X:Cx) (e:Expr) (m:ah→M Bool):Prop:=BW X e (ttP φ m)
noncomputable def yw (G:Bg φ) (O:Addr→Prop) (H:Hp) (R:List PV→Nat→Prop) (Q:List V→Hp→Prop):Prop:= ∀ (l:List PV) (xs:List V) (H':Hp) (n':Nat),Ext G.B H H'→G.ok H' n'→Reps G.B O H' l xs→R l n'→Q xs H'
noncomputable def taP (φ:Fam) (m:ah→M (List PV)):TA:=fun σ H Q=> ∃ (G:Bg φ) (O:Addr→Prop) (ρ:ah) (n:Nat) (R:List PV→Nat→Prop),ES G O H σ ρ n∧(m ρ).wp n R∧yw G O H R Q
noncomputable def AV (φ:Fam) (X:Cx) (es:List Expr) (m:ah→M (List PV)):Prop:=BA X es (taP φ m)
noncomputable def RepBs (G:Bg φ) (O:Addr→Prop) (H:Hp) (l:List PV) (xs:List V):Prop:=l.length=xs.length∧∀ (i:Nat) (y:PV) (x:V),l[i]?=some y→xs[i]?=some x→RepB G O H y x
noncomputable def xR (G:Bg φ) (O:Addr→Prop) (H:Hp) (R:List PV→Nat→Prop) (Q:List V→Hp→Prop):Prop:= ∀ (l:List PV) (xs:List V) (H':Hp) (n':Nat),Ext G.B H H'→G.ok H' n'→RepBs G O H' l xs→R l n'→Q xs H'
noncomputable def taB (φ:Fam) (m:ah→M (List PV)):TA:=fun σ H Q=> ∃ (G:Bg φ) (O:Addr→Prop) (ρ:ah) (n:Nat) (R:List PV→Nat→Prop),ES G O H σ ρ n∧(m ρ).wp n R∧xR G O H R Q
noncomputable def AB (φ:Fam) (X:Cx) (es:List Expr) (m:ah→M (List PV)):Prop:=BA X es (taB φ m)
noncomputable def WishF (G:Bg φ) (O:Addr→Prop) (H:Hp) (R:List PV→Nat→Prop) (Q:VK):Prop:= ∀ (l:List PV) (p:Addr) (xs:List V) (H':Hp) (n':Nat),Ext G.B H H'→G.ok H' n'→H p=none→H' p=some (.lst xs)→Reps G.B (fun q=>O q∨q=p) H' l xs→R l n'→Q (.ref p) H'
noncomputable def teF (φ:Fam) (m:ah→M (List PV)):TE:=fun σ H Q=> ∃ (G:Bg φ) (O:Addr→Prop) (ρ:ah) (n:Nat) (R:List PV→Nat→Prop),ES G O H σ ρ n∧(m ρ).wp n R∧WishF G O H R Q
noncomputable def EF (φ:Fam) (X:Cx) (e:Expr) (m:ah→M (List PV)):Prop:=BE X e (teF φ m)
theorem EF.v {X:Cx} {e:Expr} {m:ah→M (List PV)} (h:EF φ X e m):EV φ X e (fun ρ=>(m ρ).bind fun l=>.ret (.lst l)):=BE.mono h fun σ H Q hq0=>by
 obtain⟨G,O,ρ,n,R,s,w,q⟩:=hq0
 rw[M.wp_bind] at w
 refine⟨G,O,ρ,n,_,s,w,fun l p xs H' n' a b c d e f=>q (.lst l) _ H' n' a b (.lst (fun z=>?_) d e.1 (e.less fun q z=>.inl z).2) f⟩
 obtain⟨o,g⟩:=s.dm p z
 rw[c] at g;cases g
end
section
variable {φ:Fam}
theorem dz:100000≤sizeLine:=by rw[sizeLine_eq];decide
section
variable {G:Bg φ} {O:Addr→Prop} {H:Hp} {n:Nat} {R:PV→Nat→Prop} {Q:VK} {x x':V}
theorem Wish.sc (w:Wish G O H R Q) (ok:G.ok H n) {y:PV} (r:Rep G.B O H y x) (h:R y n):Q x H:=w y x H n (Ext.refl _ _) ok r h
theorem Wish.tup (w:Wish G O H R Q) (ok:G.ok H n) (dm: ∀ p,O p→∃ o,H p=some o) {p:Addr} (hp:H p=none) {l:List PV} {xs:List V} (hB:O G.B) (r:Reps G.B O H l xs) (h:R (.tup l) n):Q (.ref p) (upd H p (.tup xs)):=by
 have e:=Ext.new (B:=G.B) hp (.tup xs)
 refine w (.tup l) _ _ n e (Bg.new ok hp _) (.tup (fun z=>?_) aD r.1 (r.ext hB e).2) h
 obtain⟨o,g⟩:=dm p z
 rw[hp] at g;cases g
theorem Wish.lst (w:Wish G O H R Q) (ok:G.ok H n) (dm: ∀ p,O p→∃ o,H p=some o) {p:Addr} (hp:H p=none) {l:List PV} {xs:List V} (hB:O G.B) (r:Reps G.B O H l xs) (h:R (.lst l) n):Q (.ref p) (upd H p (.lst xs)):=by
 have e:=Ext.new (B:=G.B) hp (.lst xs)
 refine w (.lst l) _ _ n e (Bg.new ok hp _) (.lst (fun z=>?_) aD r.1 (r.ext hB e).2) h
 obtain⟨o,g⟩:=dm p z
 rw[hp] at g;cases g
theorem WishF.mk {R:List PV→Nat→Prop} (w:WishF G O H R Q) (ok:G.ok H n) {p:Addr} (hp:H p=none) {l:List PV} {xs:List V} (hB:O G.B) (r:Reps G.B O H l xs) (h:R l n):Q (.ref p) (upd H p (.lst xs)):=by
 have e:=Ext.new (B:=G.B) hp (.lst xs)
 refine w l p xs _ n e (Bg.new ok hp _) hp aD ((r.grow fun q z=>?_).ext (.inl hB) e) h
 rcases z with z|z
 ·exact .inl z
 ·subst z;exact .inr hp
theorem qI {H:Hp} {p:Addr} {a b:List (Key×V)} (h:Rd H p (.dK a)) (g:Rd H p (.dK b)):a=b:=by
 rcases h with h|⟨o,h⟩<;>rcases g with g|⟨o',g⟩<;>(rw[h] at g;cases g)<;>rfl
theorem RepB.non_i (h:RepB G O H .non x):x= .non:=by cases h with|full h=>cases h;rfl
theorem RepB.bl_i {b:Bool} (h:RepB G O H (.bl b) x):x= .bl b:=by cases h with|full h=>cases h;rfl
theorem RepB.int_i {i:Int} (h:RepB G O H (.int i) x):x= .int i:=by cases h with|full h=>cases h;rfl
theorem RepB.str_i {z:Str} (h:RepB G O H (.str z) x):x= .str z:=by cases h with|full h=>cases h;rfl
theorem RepB.tup_i {l:List PV} (h:RepB G O H (.tup l) x): ∃ p xs,x= .ref p∧H p=some (.tup xs)∧Reps G.B O H l xs:=by cases h with|full h=>cases h with|tup a b c d=>exact⟨_,_,rfl,b,c,d⟩
theorem RepB.lst_i {l:List PV} (h:RepB G O H (.lst l) x): ∃ p xs,x= .ref p∧H p=some (.lst xs)∧Reps G.B O H l xs:=by
 cases h with
 |full h=>cases h with|lst a b c d=>exact⟨_,_,rfl,b,c,d⟩
 |top a b c=>exact⟨_,_,rfl,b,c⟩
theorem RepB.dct_i {l:List (Key×PV)} (h:RepB G O H (.dct l) x): ∃ p ks,x= .ref p∧Rd H p (.dK ks)∧RepsK G.B O H l ks:=by
 cases h with
 |full h=>cases h with|dct a b c d=>exact⟨_,_,rfl,b,c,d⟩
 |topD a b c=>exact⟨_,_,rfl,.inl b,c⟩
theorem RepB.scr_i {ns:List Int} (h:RepB G O H (.scr ns) x): ∃ p o,x= .ref p∧H p=some (.frz o (.lst (ns.map V.int))):=by cases h with|full h=>cases h with|scr a b=>obtain⟨o,b⟩:=b;exact⟨_,o,rfl,b⟩
theorem RepB.low {y:PV} (h:RepB G O H y x) (pr: ∀ p,G.priv p→O p):Rep G.B G.priv H y x:=by
 cases h with
 |full h=>exact h.less pr
 |top np h r=>exact .lst np h r.1 (r.less pr).2
 |topD np h r=>exact .dct np (.inl h) r.1 fun i y x a b=>(r.2 i y x a b).less pr
end
noncomputable def af (ρ:ah) (i:Nat):M PV:=match ρ[i]? with|some (.val y)=>.ret y|_=>.fail
noncomputable def bT (ρ:ah) (i:Nat):M PV:=match ρ[i]? with|some (.val y)=>.ret y|some (.own l)=>.ret (.lst l)|some (.ownD l)=>.ret (.dct l)|_=>.fail
section
variable {X:Cx} {a b c:Expr} {pos:Pos} {ma mb mc:ah→M PV}
theorem lD {e:Expr} {v:V} {y:PV} (h:BE X e (tC v)) (r: ∀ B O H,Rep B O H y v):EV φ X e (fun _=>.ret y):=BE.mono h fun σ H Q ⟨G,O,ρ,n,R,s,w,q⟩=>q.sc s.ok (r _ _ _) w
theorem ao {i:Int} {j:Nat}:EV φ X (.Constant (.int i) j pos) (fun _=>.ret (.int i)):=lD ⟨aR⟩ fun _ _ _=>.int i
theorem gK {i:Bool} {j:Nat}:EV φ X (.Constant (.bool i) j pos) (fun _=>.ret (.bl i)):=lD ⟨yi⟩ fun _ _ _=>.bl i
theorem cB {j:Nat}:EV φ X (.Constant .none j pos) (fun _=>.ret .non):=lD ⟨wR⟩ fun _ _ _=>.non
theorem aJ {x:Str} {j:Nat}:EV φ X (.Constant (.str x) j pos) (fun _=>.ret (.str x)):=lD ⟨wO⟩ fun _ _ _=>.str x
theorem df {G:Bg φ} {O:Addr→Prop} {H:Hp} {σ:St} {ρ:ah} {i:Nat} {e:Ent} {x:V} (h:EnvRep G O H σ ρ) (he:ρ[i]?=some e) (hx:(σ[i]?).getD none=some x):σ[i]?=some (some x):=by
 cases q:σ[i]? with
 |none=>rw[q] at hx;cases hx
 |some o=>rw[q] at hx;cases o with
  |none=>cases hx
  |some z=>simp at hx;rw[hx]
theorem ab {x:Str} (i:Nat) (h:BE X (.Name x pos) (fB i)):EV φ X (.Name x pos) (fun ρ=>af ρ i):=BE.mono h fun σ H Q hq0=>by
 obtain⟨G,O,ρ,n,R,s,w,q⟩:=hq0
 replace w:(af ρ i).wp n R:=w
 unfold af at w
 cases e:ρ[i]? with
 |none=>rw[e] at w;exact w.elim
 |some t=>
  rw[e] at w
  cases t with
  |val y=>
   obtain⟨x,hx,r⟩:=s.er.2 i _ e
   exact⟨x,df s.er e hx,q.sc s.ok r w⟩
  |_=>exact w.elim
theorem dC {x:Str} (i:Nat) (h:BE X (.Name x pos) (fB i)):EB φ X (.Name x pos) (fun ρ=>bT ρ i):=BE.mono h fun σ H Q hq0=>by
 obtain⟨G,O,ρ,n,R,s,w,q⟩:=hq0
 replace w:(bT ρ i).wp n R:=w
 unfold bT at w
 cases e:ρ[i]? with
 |none=>rw[e] at w;exact w.elim
 |some t=>
  rw[e] at w
  cases t with
  |val y=>
   obtain⟨x,hx,r⟩:=s.er.2 i _ e
   exact⟨x,df s.er e hx,q _ _ _ _ (Ext.refl _ _) s.ok (.full r) w⟩
  |own l=>
   obtain⟨p,xs,hx,_,np,hl,r⟩:=s.er.2 i _ e
   exact⟨_,df s.er e hx,q _ _ _ _ (Ext.refl _ _) s.ok (.top np hl r) w⟩
  |ownD l=>
   obtain⟨p,xs,hx,_,np,hl,r⟩:=s.er.2 i _ e
   exact⟨_,df s.er e hx,q _ _ _ _ (Ext.refl _ _) s.ok (.topD np hl r) w⟩
  |un=>exact w.elim
noncomputable def OpV (r:R2) (op:PV→PV→M PV):Prop:= ∀ (φ:Fam) (G:Bg φ) (O:Addr→Prop) (H:Hp) (n:Nat) (R:PV→Nat→Prop) (Q:VK) (y y':PV) (x x':V),
 (∀ p,G.priv p→O p)→(∀ p,O p→∃ o,H p=some o)→G.ok H n→RepB G O H y x→RepB G O H y' x'→(op y y').wp n R→Wish G O H R Q→r x x' H Q
noncomputable def ag (op:PV→PV→M PV) (ma mb:ah→M PV):ah→M PV:=fun ρ=>(ma ρ).bind fun x=>(mb ρ).bind fun y=>op x y
theorem two {r:R2} {op:PV→PV→M PV} (hv:OpV r op): ∀ σ H Q,teP φ (ag op ma mb) σ H Q→tOp r (teB φ ma) (teB φ mb) σ H Q:=fun σ H Q hq0=>by
 obtain⟨G,O,ρ,n,R,s,w,q⟩:=hq0
 unfold ag at w
 rw[M.wp_bind] at w
 refine⟨G,O,ρ,n,_,s,w,fun y x H1 n1 e1 ok1 r1 w1=>?_⟩
 rw[M.wp_bind] at w1
 refine⟨G,O,ρ,n1,_,s.ext e1 ok1,w1,fun y' x' H2 n2 e2 ok2 r2 w2=>?_⟩
 exact hv φ G O H2 n2 R Q y y' x x' s.pr (s.ext (e1.trans e2) ok2).dm ok2 (r1.ext s.B e2) r2 w2 fun y x H' n' e o r h=>q y x H' n' (e1.trans (e2.trans e)) o r h
theorem bc {o:Operator} {r:R2} {op:PV→PV→M PV} (ho:OpR X (binaryOp o) r) (hv:OpV r op) (ha:EB φ X a ma) (hb:EB φ X b mb):EV φ X (.BinOp a o b pos) (ag op ma mb):=
 BE.mono ⟨bu ho ha.out hb.out⟩ (two hv)
theorem cK {o:CmpOp} {r:R2} {op:PV→PV→M PV} (ho:OpR X (compareOp o) r) (hv:OpV r op) (ha:EB φ X a ma) (hb:EB φ X b mb) (hm:behindInMarks o b=false):EV φ X (.Compare a [o] [b] pos) (ag op ma mb):=
 BE.mono ⟨vi ho ha.out hb.out hm⟩ (two hv)
theorem aC {r:R2} {op:PV→PV→M PV} (hr:IxR X r) (hv:OpV r op) (ha:EB φ X a ma) (hb:EB φ X b mb) (hs:pj b):EV φ X (.Subscript a b pos) (ag op ma mb):=
 BE.mono ⟨dQ hr ha.out hb.out hs⟩ (two hv)
noncomputable def asB (m:ah→M PV):ah→M Bool:=fun ρ=>(m ρ).bind fun y=>match y with| .bl b=>.ret b|_=>.fail
theorem nQ {m:ah→M PV} {t:TE} (f: ∀ σ H Q,teP φ m σ H Q→t σ H Q): ∀ σ H Q,ttP φ (asB m) σ H Q→t σ H (fun x H1=> ∃ k,x= .bl k∧Q k H1):=fun σ H Q hq0=>by
 obtain⟨G,O,ρ,n,R,s,w,q⟩:=hq0
 unfold asB at w
 rw[M.wp_bind] at w
 refine f σ H _ ⟨G,O,ρ,n,_,s,w,fun y x H1 n1 e1 ok1 r1 w1=>?_⟩
 cases y with
 |bl k=>cases r1;exact⟨k,rfl,q k H1 n1 e1 ok1 w1⟩
 |_=>exact w1.elim
theorem BT.mono {e:Expr} {t t':TT} (h:BT X e t) (f: ∀ σ H Q,t' σ H Q→t σ H Q):BT X e t':=⟨fun pins s σ H Q I q=>h.out pins s σ H Q I (f σ H Q q)⟩
theorem BW.mono {e:Expr} {t t':TT} (h:BW X e t) (f: ∀ σ H Q,t' σ H Q→t σ H Q):BW X e t':=⟨fun w pins s σ H Q I q=>h.out w pins s σ H Q I (f σ H Q q)⟩
theorem aY {o:CmpOp} {r:R2} {op:PV→PV→M PV} (ho:OpR X (compareOp o) r) (hv:OpV r op) (ha:EB φ X a ma) (hb:EB φ X b mb) (hm:behindInMarks o b=false):TV φ X (.Compare a [o] [b] pos) (asB (ag op ma mb)):=
 BT.mono ⟨iA ho ha.out hb.out hm⟩ (nQ (two hv))
theorem fA {e:Expr} {m:ah→M PV} (h:EV φ X e m) (he: ∀ whole,isTrue e X.env whole=(do let v ←whole;standAt e.pos;holding [v] (truthy v)):=by intro _;rfl):TV φ X e (asB m):=
 BT.mono ⟨wI h.out he⟩ (nQ fun _ _ _ h=>h)
noncomputable def el (m:ah→M Bool):ah→M Bool:=fun ρ=>(m ρ).bind fun b=>.ret (!b)
theorem gW {m:ah→M Bool} (h:TV φ X a m):TV φ X (.UnaryOp .Not a pos) (el m):=BT.mono ⟨wJ h.out⟩ fun σ H Q hq0=>by
 obtain⟨G,O,ρ,n,R,s,w,q⟩:=hq0
 unfold el at w
 rw[M.wp_bind] at w
 exact⟨G,O,ρ,n,_,s,w,fun b H1 n1 e1 ok1 w1=>q (!b) H1 n1 e1 ok1 w1⟩
noncomputable def fk (ma mb:ah→M Bool):ah→M Bool:=fun ρ=>(ma ρ).bind fun b=>if b=true then mb ρ else .ret false
noncomputable def orP (ma mb:ah→M Bool):ah→M Bool:=fun ρ=>(ma ρ).bind fun b=>if b=true then .ret true else mb ρ
theorem WV.t {e:Expr} {m:ah→M Bool} (h:WV φ X e m):TV φ X e m:=⟨PW.pt h.out⟩
theorem oA {m:ah→M Bool} (h:TV φ X a m):WV φ X (.BoolOp .And [a] pos) m:=⟨oK h.out⟩
theorem jj {m:ah→M Bool} (h:TV φ X a m):WV φ X (.BoolOp .Or [a] pos) m:=⟨wH h.out⟩
theorem jk {rest:List Expr} {m m':ah→M Bool} (h:TV φ X a m) (h':WV φ X (.BoolOp .And (b::rest) pos) m'):WV φ X (.BoolOp .And (a::b::rest) pos) (fk m m'):=BW.mono ⟨qK h.out h'.out⟩ fun σ H Q hq0=>by
 obtain⟨G,O,ρ,n,R,s,w,q⟩:=hq0
 unfold fk at w
 rw[M.wp_bind] at w
 refine⟨G,O,ρ,n,_,s,w,fun b H1 n1 e1 ok1 w1=>?_⟩
 cases b with
 |true=>exact⟨G,O,ρ,n1,R,s.ext e1 ok1,w1,fun b H' n' e o h=>q b H' n' (e1.trans e) o h⟩
 |false=>exact q false H1 n1 e1 ok1 w1
theorem ly {rest:List Expr} {m m':ah→M Bool} (h:TV φ X a m) (h':WV φ X (.BoolOp .Or (b::rest) pos) m'):WV φ X (.BoolOp .Or (a::b::rest) pos) (orP m m'):=BW.mono ⟨yd h.out h'.out⟩ fun σ H Q hq0=>by
 obtain⟨G,O,ρ,n,R,s,w,q⟩:=hq0
 unfold orP at w
 rw[M.wp_bind] at w
 refine⟨G,O,ρ,n,_,s,w,fun b H1 n1 e1 ok1 w1=>?_⟩
 cases b with
 |true=>exact q true H1 n1 e1 ok1 w1
 |false=>exact⟨G,O,ρ,n1,R,s.ext e1 ok1,w1,fun b H' n' e o h=>q b H' n' (e1.trans e) o h⟩
noncomputable def cO (ma mb:ah→M PV):ah→M PV:=fun ρ=>(asB ma ρ).bind fun b=>if b=true then mb ρ else .ret (.bl false)
theorem xO {m:ah→M PV} {f:Bool→M PV} {σ:St} {H:Hp} {Q:VK} {G:Bg φ} {O:Addr→Prop} {ρ:ah} {n:Nat} {R:PV→Nat→Prop} {T:V→Hp→Prop} (s:ES G O H σ ρ n) (w:((asB m ρ).bind f).wp n R)
  (k: ∀ (b:Bool) (H1:Hp) (n1:Nat),Ext G.B H H1→G.ok H1 n1→(f b).wp n1 R→T (.bl b) H1):teP φ m σ H T:=by
 rw[M.wp_bind] at w
 unfold asB at w
 rw[M.wp_bind] at w
 refine⟨G,O,ρ,n,_,s,w,fun y x H1 n1 e1 ok1 r1 w1=>?_⟩
 cases y with
 |bl b=>cases r1;exact k b H1 n1 e1 ok1 w1
 |_=>exact w1.elim
theorem ib {op:BoolOp} (ha:EV φ X a ma):EV φ X (.BoolOp op [a] pos) ma:=⟨wQ ha.out⟩
theorem fJ {rest:List Expr} (ha:EV φ X a ma) (hb:EV φ X (.BoolOp .And (b::rest) pos) mb):EV φ X (.BoolOp .And (a::b::rest) pos) (cO ma mb):=BE.mono ⟨wV ha.out hb.out⟩ fun σ H Q ⟨G,O,ρ,n,R,s,w,q⟩=>
 xO (Q:=Q) s w fun b H1 n1 e1 ok1 w1=>⟨b,rfl,by
  cases b with
  |true=>exact⟨G,O,ρ,n1,R,s.ext e1 ok1,w1,fun y x H' n' e o r h=>q y x H' n' (e1.trans e) o r h⟩
  |false=>exact q _ _ _ _ e1 ok1 (.bl _) w1⟩
noncomputable def ifV (mc:ah→M Bool) (ma mb:ah→M PV):ah→M PV:=fun ρ=>(mc ρ).bind fun b=>if b=true then ma ρ else mb ρ
theorem fR {t:ah→M Bool} (hc:TV φ X c t) (ha:EV φ X a ma) (hb:EV φ X b mb):EV φ X (.IfExp c a b pos) (ifV t ma mb):=BE.mono ⟨sP hc.out ha.out hb.out⟩ fun σ H Q hq0=>by
 obtain⟨G,O,ρ,n,R,s,w,q⟩:=hq0
 unfold ifV at w
 rw[M.wp_bind] at w
 refine⟨G,O,ρ,n,_,s,w,fun b H1 n1 e1 ok1 w1=>?_⟩
 cases b with
 |true=>exact⟨G,O,ρ,n1,R,s.ext e1 ok1,w1,fun y x H' n' e o r h=>q y x H' n' (e1.trans e) o r h⟩
 |false=>exact⟨G,O,ρ,n1,R,s.ext e1 ok1,w1,fun y x H' n' e o r h=>q y x H' n' (e1.trans e) o r h⟩
noncomputable def chain (op op':PV→PV→M PV) (ma mb mc:ah→M PV):ah→M PV:=fun ρ=>(ma ρ).bind fun x=>(mb ρ).bind fun y=>(op x y).bind fun z=>match z with
 | .bl true=>(mc ρ).bind fun u=>op' y u
 | .bl false=>.ret (.bl false)
 |_=>.fail
theorem t7 {r r':R2} {op op':PV→PV→M PV} (hv:OpV r op) (hv':OpV r' op'): ∀ σ H Q,teP φ (chain op op' ma mb mc) σ H Q→qA r r' (teB φ ma) (teB φ mb) (teB φ mc) σ H Q:=fun σ H Q hq0=>by
 obtain⟨G,O,ρ,n,R,s,w,q⟩:=hq0
 unfold chain at w
 rw[M.wp_bind] at w
 refine⟨G,O,ρ,n,_,s,w,fun y x H1 n1 e1 ok1 r1 w1=>?_⟩
 rw[M.wp_bind] at w1
 refine⟨G,O,ρ,n1,_,s.ext e1 ok1,w1,fun y' x' H2 n2 e2 ok2 r2 w2=>?_⟩
 rw[M.wp_bind] at w2
 refine hv φ G O H2 n2 _ _ y y' x x' s.pr (s.ext (e1.trans e2) ok2).dm ok2 (r1.ext s.B e2) r2 w2 fun z u H3 n3 e3 ok3 r3 w3=>?_
 cases z with
 |bl k=>
  cases r3
  refine⟨k,rfl,?_⟩
  cases k with
  |true=>
   show teB φ mc σ H3 _
   rw[M.wp_bind] at w3
   refine⟨G,O,ρ,n3,_,s.ext (e1.trans (e2.trans e3)) ok3,w3,fun y4 x4 H4 n4 e4 ok4 r4 w4=>?_⟩
   exact hv' φ G O H4 n4 R Q y' y4 x' x4 s.pr (s.ext (e1.trans (e2.trans (e3.trans e4))) ok4).dm ok4 (r2.ext s.B (e3.trans e4)) r4 w4 fun y x H' n' e o r h=>q y x H' n' (e1.trans (e2.trans (e3.trans (e4.trans e)))) o r h
  |false=>exact q _ _ _ _ (e1.trans (e2.trans e3)) ok3 (.bl _) w3
 |_=>exact w3.elim
theorem m3 {o o':CmpOp} {r r':R2} {op op':PV→PV→M PV} (ho:OpR X (compareOp o) r) (hv:OpV r op) (ho':OpR X (compareOp o') r') (hv':OpV r' op') (ha:EB φ X a ma) (hb:EB φ X b mb) (hc:EB φ X c mc) (hm:lastMarks [o,o'] [b,c]=false:=by with_unfolding_all rfl):EV φ X (.Compare a [o,o'] [b,c] pos) (chain op op' ma mb mc):=
 BE.mono ⟨sQ ho ho' ha.out hb.out hc.out hm⟩ (t7 hv hv')
end
end
section
variable {φ:Fam}
noncomputable def toV:PV→V
 | .non=>.non
 | .bl b=>.bl b
 | .int i=>.int i
 | .str x=>.str x
 |_=>.ty ""
noncomputable def aZ (y:PV):Bool:=cz (toV y)
theorem eB {B:Addr} {O:Addr→Prop} {H:Hp} {y:PV} {x:V} (h:Rep B O H y x) (f:aZ y=true):x=toV y:=by
 cases h<;>first|rfl|(exact absurd f (by decide))|(simp[aZ,toV,cz] at f)
theorem kQ {G:Bg φ} {O:Addr→Prop} {H:Hp} {y:PV} {x:V} (h:RepB G O H y x) (f:aZ y=true):x=toV y:=by
 cases h with
 |full h=>exact eB h f
 |_=>simp[aZ,toV,cz] at f
noncomputable def eqs (f:PV→PV→Option Bool):List PV→List PV→Option Bool
 |[],[]=>some true
 |[],_::_=>some false
 |_::_,[]=>some false
 |a::r,b::t=>(f a b).bind fun x=>(eqs f r t).bind fun y=>some (x&&y)
noncomputable def eqP:Nat→PV→PV→Option Bool
 |k+1,.lst a,.lst b=>eqs (eqP k) a b
 |k+1,.tup a,.tup b=>eqs (eqP k) a b
 |_+1,.lst _,.tup _=>some false
 |_+1,.tup _,.lst _=>some false
 |_+1,.lst _,y=>if aZ y then some false else none
 |_+1,.tup _,y=>if aZ y then some false else none
 |_+1,y,.lst _=>if aZ y then some false else none
 |_+1,y,.tup _=>if aZ y then some false else none
 |_,y,z=>if aZ y&&aZ z then some (eqV (toV y) (toV z)) else none
theorem ie {f:PV→PV→Option Bool}: ∀ {a b:List PV} {c:Bool},eqs f a b=some c→∃ e:Nat→Bool,(∀ j y z,a[j]?=some y→b[j]?=some z→f y z=some (e j))∧c=((List.range (min a.length b.length)).all e&&a.length==b.length)
 |[],[],c,h=>⟨fun _=>true,fun j y z e=>by simp at e,by simp[eqs] at h;simp[h]⟩
 |[],_::_,c,h=>⟨fun _=>true,fun j y z e=>by simp at e,by simp[eqs] at h;simp[h]⟩
 |_::_,[],c,h=>⟨fun _=>true,fun j y z _ e=>by simp at e,by simp[eqs] at h;simp[h]⟩
 |y::r,z::t,c,h=>by
  simp only[eqs] at h
  cases h1:f y z with
  |none=>rw[h1] at h;simp at h
  |some x=>
   rw[h1] at h
   simp only[Option.bind_some] at h
   cases h2:eqs f r t with
   |none=>rw[h2] at h;simp at h
   |some w=>
    rw[h2] at h
    simp only[Option.bind_some,Option.some.injEq] at h
    obtain⟨e,he,hw⟩:=ie h2
    refine⟨fun j=>match j with|0=>x|j+1=>e j,fun j y' z' a b=>?_,?_⟩
    ·cases j with
     |zero=>simp at a b;subst a b;exact h1
     |succ j=>simp at a b;exact he j y' z' a b
    ·have e0:min (y::r).length (z::t).length=min r.length t.length+1:=by simp only[List.length_cons];lia
     rw[e0,List.range_succ_eq_map,List.all_cons,List.all_map,←h,hw]
     simp only[List.length_cons,Function.comp_def,Bool.and_assoc]
     congr 2
     rw[Bool.eq_iff_iff];simp
theorem kj {α β:Type} {l l':List α} {xs:List β} (h1:l.length=xs.length) (h2:l'.length=xs.length) (hh: ∀ (i:Nat) (y y':α) (x:β),l[i]?=some y→l'[i]?=some y'→xs[i]?=some x→y=y'):l=l':=by
 apply List.ext_getElem (h1.trans h2.symm)
 intro i a b
 exact hh i _ _ _ (List.getElem?_eq_getElem a) (List.getElem?_eq_getElem b) (List.getElem?_eq_getElem (h1▸a))
theorem oV: ∀ {a b:List Int},a.map V.int=b.map V.int→a=b
 |[],[],_=>rfl
 |[],_::_,h=>by simp at h
 |_::_,[],h=>by simp at h
 |x::a,y::b,h=>by
  simp only[List.map_cons,List.cons.injEq,V.int.injEq] at h
  rw[h.1,oV h.2]
theorem Rep.uniq {B:Addr} {O:Addr→Prop} {H:Hp} (hB:O B) {y:PV} {x:V} (h:Rep B O H y x): ∀ {y':PV},Rep B O H y' x→y=y':=by
 induction h with
 |non=>intro y' h;cases h;rfl
 |bl b=>intro y' h;cases h;rfl
 |int i=>intro y' h;cases h;rfl
 |str x=>intro y' h;cases h;rfl
 |tup hO h hl hr ih=>
  intro y' g
  cases g with
  |tup gO g gl gr=>
   rw[h] at g;cases g
   congr 1
   exact kj hl gl fun i y y' x a b c=>ih i y x a c (gr i y' x b c)
  |lst gO g gl gr=>rw[h] at g;cases g
  |dct gO g gl gr=>rcases g with g|⟨o',g⟩<;>(rw[h] at g;cases g)
  |scr gO g=>obtain⟨o,g⟩:=g;rw[h] at g;cases g
  |bag=>exact absurd hB hO
 |lst hO h hl hr ih=>
  intro y' g
  cases g with
  |lst gO g gl gr=>
   rw[h] at g;cases g
   congr 1
   exact kj hl gl fun i y y' x a b c=>ih i y x a c (gr i y' x b c)
  |tup gO g gl gr=>rw[h] at g;cases g
  |dct gO g gl gr=>rcases g with g|⟨o',g⟩<;>(rw[h] at g;cases g)
  |scr gO g=>obtain⟨o,g⟩:=g;rw[h] at g;cases g
  |bag=>exact absurd hB hO
 |dct hO h hl hr ih=>
  intro y' g
  cases g with
  |dct gO g gl gr=>
   obtain rfl:=qI h g
   congr 1
   refine kj (by simpa using congrArg List.length hl) (by simpa using congrArg List.length gl) fun i y y' x a b c=>?_
   have k1:y.1=x.1:=by
    have:=congrArg (·[i]?) hl
    simp only[List.getElem?_map,a,c] at this
    simpa using this
   have k2:y'.1=x.1:=by
    have:=congrArg (·[i]?) gl
    simp only[List.getElem?_map,b,c] at this
    simpa using this
   exact Prod.ext (k1.trans k2.symm) (ih i y x a c (gr i y' x b c))
  |tup gO g gl gr=>rcases h with h|⟨o',h⟩<;>(rw[h] at g;cases g)
  |lst gO g gl gr=>rcases h with h|⟨o',h⟩<;>(rw[h] at g;cases g)
  |scr gO g=>obtain⟨o,g⟩:=g;rcases h with h|⟨o',h⟩<;>(rw[h] at g;cases g)
  |bag=>exact absurd hB hO
 |scr hO h=>
  intro y' g
  obtain⟨o,h⟩:=h
  cases g with
  |scr gO g=>
   obtain⟨o',g⟩:=g
   rw[h] at g
   injection g with g;injection g with g1 g2;injection g2 with g2
   congr 1
   exact oV g2
  |tup gO g gl gr=>rw[h] at g;cases g
  |lst gO g gl gr=>rw[h] at g;cases g
  |dct gO g gl gr=>rcases g with g|⟨o',g⟩<;>(rw[h] at g;cases g)
  |bag=>exact absurd hB hO
 |bag=>
  intro y' g
  cases g with
  |bag=>rfl
  |tup gO g gl gr=>exact absurd hB gO
  |lst gO g gl gr=>exact absurd hB gO
  |dct gO g gl gr=>exact absurd hB gO
  |scr gO g=>exact absurd hB gO
theorem jb {f:PV→PV→Option Bool} (hf: ∀ y c,f y y=some c→c=true): ∀ {a:List PV} {c:Bool},eqs f a a=some c→c=true
 |[],c,h=>by simp[eqs] at h;exact h
 |y::r,c,h=>by
  simp only[eqs] at h
  cases h1:f y y with
  |none=>rw[h1] at h;simp at h
  |some x=>
   rw[h1] at h
   simp only[Option.bind_some] at h
   cases h2:eqs f r r with
   |none=>rw[h2] at h;simp at h
   |some w=>
    rw[h2] at h
    simp only[Option.bind_some,Option.some.injEq] at h
    rw[←h,hf _ _ h1,jb hf h2];rfl
theorem jc {k:Nat} {y z:PV} (h1:aZ y=true) (h2:aZ z=true):eqP k y z=some (eqV (toV y) (toV z)):=by
 cases k<;>cases y<;>cases z<;>first|rfl|(simp[aZ,toV,cz] at h1;done)|(simp[aZ,toV,cz] at h2;done)
theorem m6: ∀ (k:Nat) (y:PV) (c:Bool),eqP k y y=some c→c=true:=by
 intro k
 induction k with
 |zero=>
  intro y c h
  cases y<;>simp[eqP,aZ,toV,cz,eqV] at h<;>(try exact h)<;>(try exact h.symm)
 |succ k ih=>
  intro y c h
  cases y with
  |lst a=>exact jb ih h
  |tup a=>exact jb ih h
  |_=>simp[eqP,aZ,toV,cz,eqV] at h<;>(try exact h)<;>(try exact h.symm)
section
variable {X:Cx} {pins:List (Addr×Obj)} {σ:St} {H:Hp} {s:Shared} {B:Addr} {O:Addr→Prop}
theorem kR {A:Around} {y z:PV} {x x':V} {u v:Value} (h1:aZ y=true) (h2:aZ z=true) (r1:Rep B O H y x) (r2:Rep B O H z x') (q1:RelV x u) (q2:RelV x' v):SeqAt.EqAt A s u v (eqV (toV y) (toV z)):=by
 rw[eB r1 h1] at q1
 rw[eB r2 h2] at q2
 exact rM q1 q2 h1 h2
theorem uH (I:Inv X pins σ H s) (hB:O B): ∀ (k:Nat) (A:Around) (y z:PV) (x x':V) (u v:Value) (c:Bool),Rep B O H y x→Rep B O H z x'→RelV x u→RelV x' v→eqP k y z=some c→A.units+k < cLine→SeqAt.EqAt A s u v c:=by
 intro k
 induction k with
 |zero=>
  intro A y z x x' u v c r1 r2 q1 q2 e hu
  have f:aZ y=true∧aZ z=true:=by
   unfold eqP at e
   by_cases h:(aZ y&&aZ z)=true
   ·simpa using h
   ·cases y<;>cases z<;>simp_all [aZ,toV,cz]
  rw[jc f.1 f.2] at e
  cases e
  exact kR f.1 f.2 r1 r2 q1 q2
 |succ k ih=>
  intro A y z x x' u v c r1 r2 q1 q2 e hu
  have hu0:A.units < cLine:=by lia
  have hu1:A.in1.units+k < cLine:=by show A.units+1+k < cLine;lia
  by_cases f:aZ y=true∧aZ z=true
  ·rw[jc f.1 f.2] at e
   cases e
   exact kR f.1 f.2 r1 r2 q1 q2
  cases r1 with
  | @lst p xs l hO h hl hr=>
   cases q1
   obtain⟨its,v1,p1,_⟩:=I.list (SqL.of (K:=X.K) h)
   cases r2 with
   | @lst p' xs' l' hO' h' hl' hr'=>
    cases q2
    by_cases pe:p=p'
    ·subst pe
     have e1:=Rep.uniq hB (.lst hO h hl hr) (.lst hO' h' hl' hr')
     rw[e1] at e
     rw[m6 _ _ _ e]
     exact .same _
    ·obtain⟨its',v2,p2,_⟩:=I.list (SqL.of (K:=X.K) h')
     obtain⟨g,hg,hc⟩:=ie e
     refine .of_refs pe ?_
     have e1:its.toArray.size=l.length:=by rw[List.size_toArray,←v1.length,hl]
     have e2:its'.toArray.size=l'.length:=by rw[List.size_toArray,←v2.length,hl']
     by_cases hs:l.length=l'.length
     ·have hh:=SeqAt.RcAt.lists (A:=A) (e:=g) p1.isList p2.isList (by rw[e1,e2,hs]) hu0 (fun j h1 h2=>?_)
      ·rw[hc,←hs,Nat.min_self,beq_self_eq_true,Bool.and_true,←e1];exact hh
      ·have j1:j < l.length:=e1▸h1
       have j2:j < l'.length:=e2▸h2
       obtain⟨u1,a1,a2⟩:=v1.get (i:=j) (x:=xs[j]) (List.getElem?_eq_getElem _)
       obtain⟨u2,b1,b2⟩:=v2.get (i:=j) (x:=xs'[j]) (List.getElem?_eq_getElem _)
       have a3:its.toArray[j]=u1:=by
        have:=(List.getElem?_eq_some_iff.mp a1).2
        simpa using this
       have b3:its'.toArray[j]=u2:=by
        have:=(List.getElem?_eq_some_iff.mp b1).2
        simpa using this
       rw[a3,b3]
       exact ih A.in1 l[j] l'[j] _ _ _ _ _ (hr j _ _ (List.getElem?_eq_getElem j1) (List.getElem?_eq_getElem _)) (hr' j _ _ (List.getElem?_eq_getElem j2) (List.getElem?_eq_getElem _)) a2 b2 (hg j _ _ (List.getElem?_eq_getElem j1) (List.getElem?_eq_getElem j2)) hu1
     ·have:c=false:=by rw[hc];simp[hs]
      rw[this]
      exact SeqAt.RcAt.lists_lengths p1.isList p2.isList (by rw[e1,e2];simpa using hs) hu0
   | @tup p' xs' l' hO' h' hl' hr'=>
    cases q2
    obtain⟨its',v2,p2,_⟩:=I.tuple (SqT.of (K:=X.K) h')
    cases e
    exact .list_tuple p1.isList p2 hu0
   |non=>cases q2;cases e;exact .list_none p1.isList hu0
   |bl b=>cases q2;cases e;exact .list_bool b p1.isList hu0
   |int b=>obtain⟨t,rfl⟩:=q2;cases e;exact .list_int b t p1.isList hu0
   |str b=>obtain⟨t,rfl⟩:=q2;cases e;exact .list_str b t p1.isList hu0
   |_=>cases e
  | @tup p xs l hO h hl hr=>
   cases q1
   obtain⟨its,v1,p1,_⟩:=I.tuple (SqT.of (K:=X.K) h)
   cases r2 with
   | @tup p' xs' l' hO' h' hl' hr'=>
    cases q2
    by_cases pe:p=p'
    ·subst pe
     have e1:=Rep.uniq hB (.tup hO h hl hr) (.tup hO' h' hl' hr')
     rw[e1] at e
     rw[m6 _ _ _ e]
     exact .same _
    ·obtain⟨its',v2,p2,_⟩:=I.tuple (SqT.of (K:=X.K) h')
     obtain⟨g,hg,hc⟩:=ie e
     refine .of_refs pe ?_
     have e1:its.toArray.size=l.length:=by rw[List.size_toArray,←v1.length,hl]
     have e2:its'.toArray.size=l'.length:=by rw[List.size_toArray,←v2.length,hl']
     have hh:=SeqAt.RcAt.tuples (A:=A) (e:=g) p1 p2 hu0 (fun j h1 h2=>?_)
     ·rw[hc,←e1,←e2];exact hh
     ·have j1:j < l.length:=e1▸h1
      have j2:j < l'.length:=e2▸h2
      obtain⟨u1,a1,a2⟩:=v1.get (i:=j) (x:=xs[j]) (List.getElem?_eq_getElem _)
      obtain⟨u2,b1,b2⟩:=v2.get (i:=j) (x:=xs'[j]) (List.getElem?_eq_getElem _)
      have a3:its.toArray[j]=u1:=by
       have:=(List.getElem?_eq_some_iff.mp a1).2
       simpa using this
      have b3:its'.toArray[j]=u2:=by
       have:=(List.getElem?_eq_some_iff.mp b1).2
       simpa using this
      rw[a3,b3]
      exact ih A.in1 l[j] l'[j] _ _ _ _ _ (hr j _ _ (List.getElem?_eq_getElem j1) (List.getElem?_eq_getElem _)) (hr' j _ _ (List.getElem?_eq_getElem j2) (List.getElem?_eq_getElem _)) a2 b2 (hg j _ _ (List.getElem?_eq_getElem j1) (List.getElem?_eq_getElem j2)) hu1
   | @lst p' xs' l' hO' h' hl' hr'=>
    cases q2
    obtain⟨its',v2,p2,_⟩:=I.list (SqL.of (K:=X.K) h')
    cases e
    exact .tuple_list p1 p2.isList hu0
   |non=>cases q2;cases e;exact .tuple_none p1 hu0
   |bl b=>cases q2;cases e;exact .tuple_bool b p1 hu0
   |int b=>obtain⟨t,rfl⟩:=q2;cases e;exact .tuple_int b t p1 hu0
   |str b=>obtain⟨t,rfl⟩:=q2;cases e;exact .tuple_str b t p1 hu0
   |_=>cases e
  |non=>
   cases r2 with
   |lst a h' b c=>cases q1;cases q2;obtain⟨its',v2,p2,_⟩:=I.list (SqL.of (K:=X.K) h');cases e;exact .none_list p2.isList hu0
   |tup a h' b c=>cases q1;cases q2;obtain⟨its',v2,p2,_⟩:=I.tuple (SqT.of (K:=X.K) h');cases e;exact .none_tuple p2 hu0
   |_=>first|exact absurd ⟨rfl,rfl⟩ f|cases e
  |bl b=>
   cases r2 with
   |lst a h' _ c=>cases q1;cases q2;obtain⟨its',v2,p2,_⟩:=I.list (SqL.of (K:=X.K) h');cases e;exact .bool_list b p2.isList hu0
   |tup a h' _ c=>cases q1;cases q2;obtain⟨its',v2,p2,_⟩:=I.tuple (SqT.of (K:=X.K) h');cases e;exact .bool_tuple b p2 hu0
   |_=>first|exact absurd ⟨rfl,rfl⟩ f|cases e
  |int b=>
   cases r2 with
   |lst a h' _ c=>obtain⟨t,rfl⟩:=q1;cases q2;obtain⟨its',v2,p2,_⟩:=I.list (SqL.of (K:=X.K) h');cases e;exact .int_list b t p2.isList hu0
   |tup a h' _ c=>obtain⟨t,rfl⟩:=q1;cases q2;obtain⟨its',v2,p2,_⟩:=I.tuple (SqT.of (K:=X.K) h');cases e;exact .int_tuple b t p2 hu0
   |_=>first|exact absurd ⟨rfl,rfl⟩ f|cases e
  |str b=>
   cases r2 with
   |lst a h' _ c=>obtain⟨t,rfl⟩:=q1;cases q2;obtain⟨its',v2,p2,_⟩:=I.list (SqL.of (K:=X.K) h');cases e;exact .str_list b t p2.isList hu0
   |tup a h' _ c=>obtain⟨t,rfl⟩:=q1;cases q2;obtain⟨its',v2,p2,_⟩:=I.tuple (SqT.of (K:=X.K) h');cases e;exact .str_tuple b t p2 hu0
   |_=>first|exact absurd ⟨rfl,rfl⟩ f|cases e
  |_=>cases z<;>cases e
end
end
section
variable {φ:Fam}
section
variable {X:Cx}
theorem u4 {A:Around} {s:Shared} {y z:V} {u v:Value} (f1:cz y=true) (f2:cz z=true) (q1:RelV y u) (q2:RelV z v):SeqAt.RcAt A s u v (eqV y z)∧SeqAt.RcNeAt A s u v (!eqV y z):=by
 cases y with
 |non=>
  cases q1
  cases z with
  |non=>cases q2;exact⟨.none_none,.none_none⟩
  |bl b=>cases q2;exact⟨.none_bool b,.none_bool b⟩
  |int b=>obtain⟨t,rfl⟩:=q2;exact⟨.none_int b t,.none_int b t⟩
  |str b=>obtain⟨t,rfl⟩:=q2;exact⟨.none_str b t,.none_str b t⟩
  |_=>cases f2
 |bl a=>
  cases q1
  cases z with
  |non=>cases q2;exact⟨.bool_none a,.bool_none a⟩
  |bl b=>cases q2;exact⟨.bool_bool a b,.bool_bool a b⟩
  |int b=>obtain⟨t,rfl⟩:=q2;exact⟨.bool_int a b t,.bool_int a b t⟩
  |str b=>obtain⟨t,rfl⟩:=q2;exact⟨.bool_str a b t,.bool_str a b t⟩
  |_=>cases f2
 |int a=>
  obtain⟨t',rfl⟩:=q1
  cases z with
  |non=>cases q2;exact⟨.int_none a t',.int_none a t'⟩
  |bl b=>cases q2;exact⟨.int_bool a t' b,.int_bool a t' b⟩
  |int b=>obtain⟨t,rfl⟩:=q2;exact⟨.int_int a t' b t,.int_int a t' b t⟩
  |str b=>obtain⟨t,rfl⟩:=q2;exact⟨.int_str a t' b t,.int_str a t' b t⟩
  |_=>cases f2
 |str a=>
  obtain⟨t',rfl⟩:=q1
  cases z with
  |non=>cases q2;exact⟨.str_none a t',.str_none a t'⟩
  |bl b=>cases q2;exact⟨.str_bool a t' b,.str_bool a t' b⟩
  |int b=>obtain⟨t,rfl⟩:=q2;exact⟨.str_int a t' b t,.str_int a t' b t⟩
  |str b=>obtain⟨t,rfl⟩:=q2;exact⟨.str_str a t' b t,.str_str a t' b t⟩
  |_=>cases f2
 |_=>cases f1
theorem uq {pins:List (Addr×Obj)} {σ:St} {H:Hp} {s:Shared} {B:Addr} {O:Addr→Prop} (I:Inv X pins σ H s) (hB:O B) (k:Nat) (A:Around) (y z:PV) (x x':V) (u v:Value) (c:Bool)
  (r1:Rep B O H y x) (r2:Rep B O H z x') (q1:RelV x u) (q2:RelV x' v) (e:eqP (k+1) y z=some c) (hu:A.units+(k+1) < cLine):SeqAt.RcAt A s u v c∧SeqAt.RcNeAt A s u v (!c):=by
 have hu0:A.units < cLine:=by lia
 have hu1:A.in1.units+k < cLine:=by show A.units+1+k < cLine;lia
 by_cases f:aZ y=true∧aZ z=true
 ·rw[jc f.1 f.2] at e
  cases e
  rw[eB r1 f.1] at q1
  rw[eB r2 f.2] at q2
  exact u4 f.1 f.2 q1 q2
 cases r1 with
 | @lst p xs l hO h hl hr=>
  cases q1
  obtain⟨its,v1,p1,_⟩:=I.list (SqL.of (K:=X.K) h)
  cases r2 with
  | @lst p' xs' l' hO' h' hl' hr'=>
   cases q2
   obtain⟨its',v2,p2,_⟩:=I.list (SqL.of (K:=X.K) h')
   obtain⟨g,hg,hc⟩:=ie e
   have e1:its.toArray.size=l.length:=by rw[List.size_toArray,←v1.length,hl]
   have e2:its'.toArray.size=l'.length:=by rw[List.size_toArray,←v2.length,hl']
   by_cases hs:l.length=l'.length
   ·have he: ∀ j (h1:j < its.toArray.size) (h2:j < its'.toArray.size),SeqAt.EqAt A.in1 s its.toArray[j] its'.toArray[j] (g j):=fun j h1 h2=>by
     have j1:j < l.length:=e1▸h1
     have j2:j < l'.length:=e2▸h2
     obtain⟨u1,a1,a2⟩:=v1.get (i:=j) (x:=xs[j]) (List.getElem?_eq_getElem _)
     obtain⟨u2,b1,b2⟩:=v2.get (i:=j) (x:=xs'[j]) (List.getElem?_eq_getElem _)
     have a3:its.toArray[j]=u1:=by
      have:=(List.getElem?_eq_some_iff.mp a1).2
      simpa using this
     have b3:its'.toArray[j]=u2:=by
      have:=(List.getElem?_eq_some_iff.mp b1).2
      simpa using this
     rw[a3,b3]
     exact uH I hB k A.in1 l[j] l'[j] _ _ _ _ _ (hr j _ _ (List.getElem?_eq_getElem j1) (List.getElem?_eq_getElem _)) (hr' j _ _ (List.getElem?_eq_getElem j2) (List.getElem?_eq_getElem _)) a2 b2 (hg j _ _ (List.getElem?_eq_getElem j1) (List.getElem?_eq_getElem j2)) hu1
    have h1:=SeqAt.RcAt.lists (A:=A) (e:=g) p1.isList p2.isList (by rw[e1,e2,hs]) hu0 he
    have h2:=SeqAt.RcNeAt.lists (A:=A) (e:=g) p1.isList p2.isList (by rw[e1,e2,hs]) hu0 he
    rw[hc,←hs,Nat.min_self,beq_self_eq_true,Bool.and_true,←e1];exact⟨h1,h2⟩
   ·have:c=false:=by rw[hc];simp[hs]
    rw[this]
    exact⟨SeqAt.RcAt.lists_lengths p1.isList p2.isList (by rw[e1,e2];simpa using hs) hu0,SeqAt.RcNeAt.lists_lengths p1.isList p2.isList (by rw[e1,e2];simpa using hs) hu0⟩
  | @tup p' xs' l' hO' h' hl' hr'=>
   cases q2
   obtain⟨its',v2,p2,_⟩:=I.tuple (SqT.of (K:=X.K) h')
   cases e
   exact⟨.list_tuple p1.isList p2 hu0,.list_tuple p1.isList p2 hu0⟩
  |non=>cases q2;cases e;exact⟨.list_none p1.isList hu0,.list_none p1.isList hu0⟩
  |bl b=>cases q2;cases e;exact⟨.list_bool b p1.isList hu0,.list_bool b p1.isList hu0⟩
  |int b=>obtain⟨t,rfl⟩:=q2;cases e;exact⟨.list_int b t p1.isList hu0,.list_int b t p1.isList hu0⟩
  |str b=>obtain⟨t,rfl⟩:=q2;cases e;exact⟨.list_str b t p1.isList hu0,.list_str b t p1.isList hu0⟩
  |_=>cases e
 | @tup p xs l hO h hl hr=>
  cases q1
  obtain⟨its,v1,p1,_⟩:=I.tuple (SqT.of (K:=X.K) h)
  cases r2 with
  | @tup p' xs' l' hO' h' hl' hr'=>
   cases q2
   obtain⟨its',v2,p2,_⟩:=I.tuple (SqT.of (K:=X.K) h')
   obtain⟨g,hg,hc⟩:=ie e
   have e1:its.toArray.size=l.length:=by rw[List.size_toArray,←v1.length,hl]
   have e2:its'.toArray.size=l'.length:=by rw[List.size_toArray,←v2.length,hl']
   have he: ∀ j (h1:j < its.toArray.size) (h2:j < its'.toArray.size),SeqAt.EqAt A.in1 s its.toArray[j] its'.toArray[j] (g j):=fun j h1 h2=>by
    have j1:j < l.length:=e1▸h1
    have j2:j < l'.length:=e2▸h2
    obtain⟨u1,a1,a2⟩:=v1.get (i:=j) (x:=xs[j]) (List.getElem?_eq_getElem _)
    obtain⟨u2,b1,b2⟩:=v2.get (i:=j) (x:=xs'[j]) (List.getElem?_eq_getElem _)
    have a3:its.toArray[j]=u1:=by
     have:=(List.getElem?_eq_some_iff.mp a1).2
     simpa using this
    have b3:its'.toArray[j]=u2:=by
     have:=(List.getElem?_eq_some_iff.mp b1).2
     simpa using this
    rw[a3,b3]
    exact uH I hB k A.in1 l[j] l'[j] _ _ _ _ _ (hr j _ _ (List.getElem?_eq_getElem j1) (List.getElem?_eq_getElem _)) (hr' j _ _ (List.getElem?_eq_getElem j2) (List.getElem?_eq_getElem _)) a2 b2 (hg j _ _ (List.getElem?_eq_getElem j1) (List.getElem?_eq_getElem j2)) hu1
   have h1:=SeqAt.RcAt.tuples (A:=A) (e:=g) p1 p2 hu0 he
   have h2:=SeqAt.RcNeAt.tuples (A:=A) (e:=g) p1 p2 hu0 he
   rw[hc,←e1,←e2];exact⟨h1,h2⟩
  | @lst p' xs' l' hO' h' hl' hr'=>
   cases q2
   obtain⟨its',v2,p2,_⟩:=I.list (SqL.of (K:=X.K) h')
   cases e
   exact⟨.tuple_list p1 p2.isList hu0,.tuple_list p1 p2.isList hu0⟩
  |non=>cases q2;cases e;exact⟨.tuple_none p1 hu0,.tuple_none p1 hu0⟩
  |bl b=>cases q2;cases e;exact⟨.tuple_bool b p1 hu0,.tuple_bool b p1 hu0⟩
  |int b=>obtain⟨t,rfl⟩:=q2;cases e;exact⟨.tuple_int b t p1 hu0,.tuple_int b t p1 hu0⟩
  |str b=>obtain⟨t,rfl⟩:=q2;cases e;exact⟨.tuple_str b t p1 hu0,.tuple_str b t p1 hu0⟩
  |_=>cases e
 |non=>
  cases r2 with
  |lst a h' b c=>cases q1;cases q2;obtain⟨its',v2,p2,_⟩:=I.list (SqL.of (K:=X.K) h');cases e;exact⟨.none_list p2.isList hu0,.none_list p2.isList hu0⟩
  |tup a h' b c=>cases q1;cases q2;obtain⟨its',v2,p2,_⟩:=I.tuple (SqT.of (K:=X.K) h');cases e;exact⟨.none_tuple p2 hu0,.none_tuple p2 hu0⟩
  |_=>first|exact absurd ⟨rfl,rfl⟩ f|cases e
 |bl b=>
  cases r2 with
  |lst a h' _ c=>cases q1;cases q2;obtain⟨its',v2,p2,_⟩:=I.list (SqL.of (K:=X.K) h');cases e;exact⟨.bool_list b p2.isList hu0,.bool_list b p2.isList hu0⟩
  |tup a h' _ c=>cases q1;cases q2;obtain⟨its',v2,p2,_⟩:=I.tuple (SqT.of (K:=X.K) h');cases e;exact⟨.bool_tuple b p2 hu0,.bool_tuple b p2 hu0⟩
  |_=>first|exact absurd ⟨rfl,rfl⟩ f|cases e
 |int b=>
  cases r2 with
  |lst a h' _ c=>obtain⟨t,rfl⟩:=q1;cases q2;obtain⟨its',v2,p2,_⟩:=I.list (SqL.of (K:=X.K) h');cases e;exact⟨.int_list b t p2.isList hu0,.int_list b t p2.isList hu0⟩
  |tup a h' _ c=>obtain⟨t,rfl⟩:=q1;cases q2;obtain⟨its',v2,p2,_⟩:=I.tuple (SqT.of (K:=X.K) h');cases e;exact⟨.int_tuple b t p2 hu0,.int_tuple b t p2 hu0⟩
  |_=>first|exact absurd ⟨rfl,rfl⟩ f|cases e
 |str b=>
  cases r2 with
  |lst a h' _ c=>obtain⟨t,rfl⟩:=q1;cases q2;obtain⟨its',v2,p2,_⟩:=I.list (SqL.of (K:=X.K) h');cases e;exact⟨.str_list b t p2.isList hu0,.str_list b t p2.isList hu0⟩
  |tup a h' _ c=>obtain⟨t,rfl⟩:=q1;cases q2;obtain⟨its',v2,p2,_⟩:=I.tuple (SqT.of (K:=X.K) h');cases e;exact⟨.str_tuple b t p2 hu0,.str_tuple b t p2 hu0⟩
  |_=>first|exact absurd ⟨rfl,rfl⟩ f|cases e
 |_=>cases z<;>cases e
noncomputable def sG (neg:Bool):R2:=fun x y H Q=> ∃ (B:Addr) (O:Addr→Prop) (a b:PV) (c:Bool),O B∧Rep B O H a x∧Rep B O H b y∧eqP 20 a b=some c∧Q (.bl (xor neg c)) H
theorem bV (hU:X.A.units+64 < cLine):OpR X (compareOp .Eq) (sG false):=by
 intro pins s σ H x y v u Q I rx ry h
 obtain⟨B,O,a,b,c,hB,r1,r2,e,q⟩:=h
 exact(uq I hB 19 X.A a b x y v u c r1 r2 rx ry e (by first|decide|lia)).1 _ _ _ _ (fi I q (by cases c<;>rfl))
theorem hG (hU:X.A.units+64 < cLine):OpR X (compareOp .NotEq) (sG true):=by
 intro pins s σ H x y v u Q I rx ry h
 obtain⟨B,O,a,b,c,hB,r1,r2,e,q⟩:=h
 exact(uq I hB 19 X.A a b x y v u c r1 r2 rx ry e (by first|decide|lia)).2 _ _ _ _ (fi I q (by cases c<;>rfl))
end
noncomputable def eqO (neg:Bool) (y z:PV):M PV:=(M.ofO (eqP 20 y z)).bind fun c=>.ret (.bl (xor neg c))
theorem bS (neg:Bool):OpV (sG neg) (eqO neg):=fun φ G O H n R Q y z x x' pr dm ok r1 r2 w q=>by
 unfold eqO at w
 cases e:eqP 20 y z with
 |none=>rw[e] at w;exact w.elim
 |some c=>rw[e] at w;exact⟨G.B,G.priv,y,z,c,G.pB,r1.low pr,r2.low pr,e,q.sc ok (.bl _) w⟩
noncomputable def i3 (C:Int→Int→Prop) [∀ i j,Decidable (C i j)] (f:Int→Int→PV):PV→PV→M PV
 | .int i,.int j=>if C i j then .ret (f i j) else .fail
 |_,_=>.fail
theorem qV {C:Int→Int→Prop} [∀ i j,Decidable (C i j)] {f:Int→Int→PV} {g:Int→Int→V} (hf: ∀ B O H i j,Rep B O H (f i j) (g i j)):OpV (rI C g) (i3 C f):=fun φ G O H n R Q y z x x' pr dm ok r1 r2 w q=>by
 cases y<;>cases z<;>first|exact w.elim|skip
 rename_i i j
 rw[r1.int_i,r2.int_i]
 unfold i3 at w
 dsimp only at w
 by_cases hc:C i j
 ·rw[if_pos hc] at w;exact⟨i,j,rfl,rfl,hc,q.sc ok (hf _ _ _ _ _) w⟩
 ·rw[if_neg hc] at w;exact w.elim
noncomputable def i4 (f:Int→Int→Bool):PV→PV→M PV
 | .int i,.int j=>.ret (.bl (f i j))
 |_,_=>.fail
theorem jW {f:Int→Int→Bool}:OpV (rI0 fun i j=>.bl (f i j)) (i4 f):=fun φ G O H n R Q y z x x' pr dm ok r1 r2 w q=>by
 cases y<;>cases z<;>first|exact w.elim|skip
 rename_i i j
 rw[r1.int_i,r2.int_i]
 exact⟨i,j,rfl,rfl,q.sc ok (.bl _) w⟩
noncomputable def ltO:=i4 fun i j=>decide (i < j)
noncomputable def gtO:=i4 fun i j=>decide (j < i)
noncomputable def geO:=i4 fun i j=>decide (j≤i)
theorem eW:OpV (rI0 fun i j=>.bl (decide (i < j))) ltO:=jW
theorem uA:OpV (rI0 fun i j=>.bl (decide (j < i))) gtO:=jW
theorem uB:OpV (rI0 fun i j=>.bl (decide (j≤i))) geO:=jW
noncomputable def gX:PV→PV→M PV
 | .int i,.int j=>.ret (.int (i - j))
 |_,_=>.fail
theorem ju:OpV (rI0 fun i j=>.int (i - j)) gX:=fun φ G O H n R Q y z x x' pr dm ok r1 r2 w q=>by
 cases y<;>cases z<;>first|exact w.elim|skip
 rename_i i j
 rw[r1.int_i,r2.int_i]
 exact⟨i,j,rfl,rfl,q.sc ok (.int _) w⟩
instance (i j:Int):Decidable (CMul i j):=by unfold CMul;infer_instance
instance (i j:Int):Decidable (nV i j):=by unfold nV;infer_instance
instance (i j:Int):Decidable (uh i j):=by unfold uh;infer_instance
noncomputable def hW:=i3 (fun _ j=>0 < j) fun i j=>.int (i % j)
noncomputable def mm:=i3 nV fun i j=>.int (i ^ j.toNat)
theorem qW:OpV (rI (fun _ j=>0 < j) fun i j=>.int (i % j)) hW:=qV fun _ _ _ _ _=>.int _
theorem wX:OpV (rI nV fun i j=>.int (i ^ j.toNat)) mm:=qV fun _ _ _ _ _=>.int _
noncomputable def uz (K:PySem.W.Frag):R2:=fun x y H Q=>(rI0 fun i j=>.int (i+j)) x y H Q∨(∃ i j,x= .str i∧y= .str j∧i.length+j.length≤sizeLine∧Q (.str (i++j)) H)∨sH x y H Q∨uy K x y H Q∨
 (∃ a b ys,x= .ref a∧y= .ref b∧H a=some (.tup [])∧H b=some (.tup ys)∧Q (.ref b) H)
theorem sU {X:Cx}:OpR X (binaryOp .Add) (fun x y H Q=> ∃ a b ys,x= .ref a∧y= .ref b∧H a=some (.tup [])∧H b=some (.tup ys)∧Q (.ref b) H):=by
 intro pins s σ H x y v u Q I rx ry h
 obtain⟨a,b,ys,rfl,rfl,ha,hb,q⟩:=h
 cases rx
 cases ry
 obtain⟨its,r1,p1,_⟩:=I.tuple (SqT.of (K:=X.K) ha)
 obtain⟨its2,r2,p2,_⟩:=I.tuple (SqT.of (K:=X.K) hb)
 cases r1
 obtain⟨⟨cls,dd,data,sl⟩,ho,hc,n,hd⟩:=id p1
 obtain⟨⟨cls2,dd2,data2,sl2⟩,ho2,hc2,n2,hd2⟩:=id p2
 simp only at hc hd hc2 hd2
 subst hc hd hc2 hd2
 exact concat_meets ⟨_,ho,rfl⟩ ⟨_,ho2,rfl⟩ noFill_tuple_add seq_tuple_add PySem.F.slot_tuple_add PySem.F.entry_tuple_add (PySem.F.args_tuple_add_2 _ _)
   (tuple_addW0 a b _ its2.toArray n n2 dd dd2 sl sl2 rfl) ⟨ho,ho2,⟨.ref b,H,I,rfl,q⟩⟩
theorem cC {X:Cx}:OpR X (binaryOp .Add) (uz X.K):=op_add.or (op_add_str.or (op_cat.or (op_catT.or sU)))
noncomputable def bL:PV→PV→M PV
 | .int i,.int j=>.ret (.int (i+j))
 | .str i,.str j=>if i.length+j.length≤100000 then .ret (.str (i++j)) else .fail
 | .lst a,.lst b=>if a.length+b.length≤100000 then .ret (.lst (a++b)) else .fail
 | .tup a,.tup b=>if a.length+b.length≤100000 then .ret (.tup (a++b)) else .fail
 |_,_=>.fail
theorem cW {K:PySem.W.Frag}:OpV (uz K) bL:=fun φ G O H n R Q y z x x' pr dm ok r1 r2 w q=>by
 have hB:O G.B:=pr _ G.pB
 cases y<;>cases z<;>first|exact w.elim|skip
 ·rename_i i j
  rw[r1.int_i,r2.int_i]
  exact .inl ⟨i,j,rfl,rfl,q.sc ok (.int _) w⟩
 ·rename_i i j
  rw[r1.str_i,r2.str_i]
  unfold bL at w
  dsimp only at w
  by_cases hc:i.length+j.length≤100000
  ·rw[if_pos hc] at w;exact .inr (.inl ⟨i,j,rfl,rfl,Nat.le_trans hc dz,q.sc ok (.str _) w⟩)
  ·rw[if_neg hc] at w;exact w.elim
 ·rename_i i j
  obtain⟨a,xs,rfl,h1,e1⟩:=r1.tup_i
  obtain⟨b,ys,rfl,h2,e2⟩:=r2.tup_i
  unfold bL at w
  dsimp only at w
  by_cases hc:i.length+j.length≤100000
  ·rw[if_pos hc] at w
   by_cases hn:i=[]
   ·subst hn
    rw[e1.nil_inv] at h1
    cases r2 with
    |full r2=>exact .inr (.inr (.inr (.inr ⟨a,b,ys,rfl,rfl,h1,h2,q.sc ok r2 w⟩)))
   ·refine .inr (.inr (.inr (.inl ⟨a,b,xs,ys,rfl,rfl,SqT.of h1,SqT.of h2,fun z=>hn ?_,Nat.le_trans (by rw[←e1.1,←e2.1];exact hc) dz,fun hz=>?_,fun _ p hp=>q.tup ok dm hp hB (e1.append e2) w⟩)))
    ·subst z;exact List.eq_nil_of_length_eq_zero e1.1
    ·subst hz
     have:j=[]:=List.eq_nil_of_length_eq_zero e2.1
     subst this
     rw[List.append_nil] at w
     cases r1 with
     |full r1=>exact q.sc ok r1 w
  ·rw[if_neg hc] at w;exact w.elim
 ·rename_i i j
  obtain⟨a,xs,rfl,h1,e1⟩:=r1.lst_i
  obtain⟨b,ys,rfl,h2,e2⟩:=r2.lst_i
  unfold bL at w
  dsimp only at w
  by_cases hc:i.length+j.length≤100000
  ·rw[if_pos hc] at w
   exact .inr (.inr (.inl ⟨a,b,xs,ys,rfl,rfl,h1,h2,Nat.le_trans (by rw[←e1.1,←e2.1];exact hc) dz,fun p hp=>q.lst ok dm hp hB (e1.append e2) w⟩))
  ·rw[if_neg hc] at w;exact w.elim
noncomputable def gh (i:Str) (k:Int):Str:=⟨(List.replicate k.toNat i.cps).foldl (· ++ ·) #[]⟩
noncomputable def uv:R2:=fun x y H Q=> ∃ i k,x= .str i∧y= .int k∧(1 < k∧k < 1000∧0 < i.length∧i.length < 1000∧(gh i k).length≤100000)∧Q (.str (gh i k)) H
noncomputable def pM:R2:=fun x y H Q=>rI CMul (fun i j=>.int (i * j)) x y H Q∨uv x y H Q∨wC x y H Q
theorem op_repS {X:Cx}:OpR X (binaryOp .Mult) uv:=by
 intro pins s σ H x y v u Q I rx ry h
 obtain⟨i,k,rfl,rfl,⟨h1,h2,h3,h4,h5⟩,q⟩:=h
 obtain⟨t,rfl⟩:=rx
 obtain⟨t',rfl⟩:=ry
 have e1: ¬ k < -(2 ^ 63:Int):=by
  have:(2:Int) ^ 63=9223372036854775808:=by decide
  lia
 have e2: ¬ k ≥ 2 ^ 63:=by
  have:(2:Int) ^ 63=9223372036854775808:=by decide
  lia
 have hz:(i.length * k.toNat)≤1000000:=Nat.le_trans (Nat.mul_le_mul (Nat.le_of_lt h4) (by lia:k.toNat≤1000)) (by decide)
 have hne:(k==1||i.length==0)=false:=by
  simp only[Bool.or_eq_false_iff,beq_eq_false_iff_ne]
  exact⟨by lia,by lia⟩
 refine PySem.P.mul_str (by rw[decide_eq_false e1,decide_eq_false e2];rfl) (fun _ _ hgt=>?_) (fun _ _=>?_) ?_
 ·have:(i.length:Int)≤(2 ^ 63 - 1) / k:=by
   rw[Int.le_ediv_iff_mul_le (by first|decide|lia)]
   have:(i.length:Int) * k≤1000 * 1000:=Int.mul_le_mul (by first|decide|lia) (by first|decide|lia) (by first|decide|lia) (by first|decide|lia)
   have e:(2:Int) ^ 63 - 1=9223372036854775807:=by decide
   lia
  lia
 ·have hs:sizeLine=16777216:=sizeLine_eq
  show decide (i.length * k.toNat > sizeLine)=false
  exact decide_eq_false (by first|decide|lia)
 ·rw[if_neg (by first|decide|lia),if_neg (by rw[hne];simp)]
  exact⟨Nat.le_trans h5 dz,⟨.str (gh i k),H,I.tok _,⟨_,rfl⟩,q⟩⟩
theorem op_mulD {X:Cx}:OpR X (binaryOp .Mult) pM:=op_mul.or (op_repS.or wZ)
noncomputable def j4:PV→PV→M PV
 | .int i,.int j=>if CMul i j then .ret (.int (i * j)) else .fail
 | .str i,.int k=>if 1 < k∧k < 1000∧0 < i.length∧i.length < 1000∧(gh i k).length≤100000 then .ret (.str (gh i k)) else .fail
 | .lst l,.int k=>if -1000 < k∧k < 1000∧l.length * k.toNat≤100000 then .ret (.lst (List.replicate k.toNat l).flatten) else .fail
 |_,_=>.fail
theorem Reps.rep {B:Addr} {O:Addr→Prop} {H:Hp} {l:List PV} {xs:List V} (h:Reps B O H l xs): ∀ k:Nat,Reps B O H (List.replicate k l).flatten (List.replicate k xs).flatten
 |0=>.nil
 |k+1=>by rw[List.replicate_succ,List.replicate_succ,List.flatten_cons,List.flatten_cons];exact h.append (Reps.rep h k)
theorem wY:OpV pM j4:=fun φ G O H n R Q y z x x' pr dm ok r1 r2 w q=>by
 have hB:O G.B:=pr _ G.pB
 cases y<;>cases z<;>first|exact w.elim|skip
 ·rename_i i j
  rw[r1.int_i,r2.int_i]
  unfold j4 at w
  dsimp only at w
  by_cases hc:CMul i j
  ·rw[if_pos hc] at w;exact .inl ⟨i,j,rfl,rfl,hc,q.sc ok (.int _) w⟩
  ·rw[if_neg hc] at w;exact w.elim
 ·rename_i i k
  rw[r1.str_i,r2.int_i]
  unfold j4 at w
  dsimp only at w
  by_cases hc:1 < k∧k < 1000∧0 < i.length∧i.length < 1000∧(gh i k).length≤100000
  ·rw[if_pos hc] at w;exact .inr (.inl ⟨i,k,rfl,rfl,hc,q.sc ok (.str _) w⟩)
  ·rw[if_neg hc] at w;exact w.elim
 ·rename_i l k
  obtain⟨a,xs,rfl,h1,e1⟩:=r1.lst_i
  rw[r2.int_i]
  unfold j4 at w
  dsimp only at w
  by_cases hc: -1000 < k∧k < 1000∧l.length * k.toNat≤100000
  ·rw[if_pos hc] at w
   have e:(2:Int) ^ 63=9223372036854775808:=by decide
   exact .inr (.inr ⟨a,k,xs,rfl,rfl,h1,by lia,by lia,Nat.le_trans (by rw[←e1.1];exact hc.2.2) dz,fun p hp=>q.lst ok dm hp hB (e1.rep _) w⟩)
  ·rw[if_neg hc] at w;exact w.elim
theorem RepB.flat_all {G:Bg φ} {O:Addr→Prop} {H:Hp}: ∀ {l:List PV} {xs:List V},Reps G.B O H l xs→l.all aZ=true→xs=l.map toV
 |[],xs,h,_=>h.nil_inv
 |y::l,xs,h,f=>by
  obtain⟨x,r,rfl,h1,h2⟩:=h.cons_inv
  rw[List.all_cons,Bool.and_eq_true] at f
  rw[List.map_cons,eB h1 f.1,RepB.flat_all h2 f.2]
noncomputable def sF (K:PySem.W.Frag) (neg:Bool):R2:=fun x y H Q=>rIn K neg x y H Q∨∃ i j,x= .str i∧y= .str j∧Q (.bl (xor neg (!(Builtin.Str.occurrences j i 0 j.length 1).isEmpty))) H
theorem jw {X:Cx}:OpR X (compareOp .In) (sF X.K false):=by
 intro pins s σ H x y v u Q I rx ry h
 rcases h with h|⟨i,j,h1,h2,q⟩
 ·exact rf pins s σ H x y v u Q I rx ry h
 ·exact q5 pins s σ H x y v u Q I rx ry ⟨i,j,h1,h2,by simpa using q⟩
theorem kF {X:Cx}:OpR X (compareOp .NotIn) (sF X.K true):=by
 intro pins s σ H x y v u Q I rx ry h
 rcases h with h|⟨i,j,h1,h2,q⟩
 ·exact mB pins s σ H x y v u Q I rx ry h
 ·exact mz pins s σ H x y v u Q I rx ry ⟨i,j,h1,h2,by simpa using q⟩
noncomputable def fj (y:PV) (l:List PV):Bool:=l.any fun z=>eqV (toV z) (toV y)
noncomputable def inO (neg:Bool):PV→PV→M PV
 | .str i,.str j=>.ret (.bl (xor neg (!(Builtin.Str.occurrences j i 0 j.length 1).isEmpty)))
 |y,.lst l=>if aZ y&&l.all aZ then .ret (.bl (xor neg (fj y l))) else .fail
 |y,.tup l=>if aZ y&&l.all aZ then .ret (.bl (xor neg (fj y l))) else .fail
 |_,_=>.fail
theorem oX (y:PV) (l:List PV):inV (toV y) (l.map toV)=fj y l:=by unfold inV fj;rw[List.any_map];rfl
theorem iH {K:PySem.W.Frag} (neg:Bool):OpV (sF K neg) (inO neg):=fun φ G O H n R Q y z x x' pr dm ok r1 r2 w q=>by
 cases z with
 |lst l=>
  have w':(if(aZ y&&l.all aZ)=true then M.ret (.bl (xor neg (fj y l))) else M.fail:M PV).wp n R:=by cases y<;>exact w
  by_cases hc:(aZ y&&l.all aZ)=true
  ·rw[if_pos hc] at w'
   rw[Bool.and_eq_true] at hc
   obtain⟨p,xs,rfl,h1,e1⟩:=r2.lst_i
   have e2:=RepB.flat_all e1 hc.2
   rw[kQ r1 hc.1]
   refine .inl ⟨p,xs,rfl,.inl (SqL.of h1),hc.1,?_,?_⟩
   ·rw[e2,List.all_map];exact hc.2
   ·rw[e2,oX];cases neg<;>simpa using q.sc ok (.bl _) w'
  ·rw[if_neg hc] at w';exact w'.elim
 |tup l=>
  have w':(if(aZ y&&l.all aZ)=true then M.ret (.bl (xor neg (fj y l))) else M.fail:M PV).wp n R:=by cases y<;>exact w
  by_cases hc:(aZ y&&l.all aZ)=true
  ·rw[if_pos hc] at w'
   rw[Bool.and_eq_true] at hc
   obtain⟨p,xs,rfl,h1,e1⟩:=r2.tup_i
   have e2:=RepB.flat_all e1 hc.2
   rw[kQ r1 hc.1]
   refine .inl ⟨p,xs,rfl,.inr (SqT.of h1),hc.1,?_,?_⟩
   ·rw[e2,List.all_map];exact hc.2
   ·rw[e2,oX];cases neg<;>simpa using q.sc ok (.bl _) w'
  ·rw[if_neg hc] at w';exact w'.elim
 |str j=>
  cases y<;>first|exact w.elim|skip
  rename_i i
  rw[r1.str_i,r2.str_i]
  exact .inr ⟨i,j,rfl,rfl,q.sc ok (.bl _) w⟩
 |_=>cases y<;>exact w.elim
noncomputable def isN:PV→Bool
 | .non=>true
 |_=>false
noncomputable def isO (neg:Bool) (y z:PV):M PV:=match z with| .non=>.ret (.bl (xor neg (isN y)))|_=>.fail
theorem oU {G:Bg φ} {O:Addr→Prop} {H:Hp} {y:PV} {x:V} (r:RepB G O H y x):decide (x= .non)=isN y:=by
 cases r with
 |full h=>cases h<;>rfl
 |top _ _ _=>rfl
 |topD _ _ _=>rfl
theorem fD:OpV (fun x y H Q=>y= .non∧Q (.bl (decide (x= .non))) H) (isO false):=fun φ G O H n R Q y z x x' pr dm ok r1 r2 w q=>by
 cases z<;>first|exact w.elim|skip
 have w':R (.bl (xor false (isN y))) n:=w
 exact⟨r2.non_i,q.sc ok (y:=.bl (isN y)) (by rw[oU r1];exact .bl _) (by simpa using w')⟩
theorem jX:OpV (fun x y H Q=>y= .non∧Q (.bl (!decide (x= .non))) H) (isO true):=fun φ G O H n R Q y z x x' pr dm ok r1 r2 w q=>by
 cases z<;>first|exact w.elim|skip
 refine⟨r2.non_i,q.sc ok (y:=.bl (!isN y)) (by rw[oU r1];exact .bl _) ?_⟩
 have w':R (.bl (xor true (isN y))) n:=w
 simpa using w'
noncomputable def leS (i j:Str):Bool:=!decide (j.cps.toList < i.cps.toList)
noncomputable def wD:R2:=fun x y H Q=>(rI0 fun i j=>.bl (decide (i≤j))) x y H Q∨∃ i j,x= .str i∧y= .str j∧Q (.bl (!decide (j.cps.toList < i.cps.toList))) H
theorem gp {X:Cx}:OpR X (compareOp .LtE) wD:=op_le.or qZ
noncomputable def eV:PV→PV→M PV
 | .int i,.int j=>.ret (.bl (decide (i≤j)))
 | .str i,.str j=>.ret (.bl (leS i j))
 |_,_=>.fail
theorem gm:OpV wD eV:=fun φ G O H n R Q y z x x' pr dm ok r1 r2 w q=>by
 cases y<;>cases z<;>first|exact w.elim|skip
 ·rename_i i j
  rw[r1.int_i,r2.int_i]
  exact .inl ⟨i,j,rfl,rfl,q.sc ok (.bl _) w⟩
 ·rename_i i j
  rw[r1.str_i,r2.str_i]
  exact .inr ⟨i,j,rfl,rfl,q.sc ok (.bl _) w⟩
theorem nL {B:Addr} {O:Addr→Prop} {H:Hp} {l:List PV} {xs:List V} (h:Reps B O H l xs) {i:Int} {y:PV} (e:atI l i=some y): ∃ x,atI xs i=some x∧Rep B O H y x:=by
 unfold atI at e ⊢
 rw[←h.1]
 cases q:ixN l.length i with
 |none=>rw[q] at e;cases e
 |some j=>rw[q] at e;exact h.at e
noncomputable def ixO:PV→PV→M PV
 | .lst l,.int i=>.ofO (atI l i)
 | .tup l,.int i=>.ofO (atI l i)
 | .str z,.int i=>if z.length≤100000 then(M.ofO (atI z.cps.toList i)).bind fun c=>.ret (.str ⟨#[c]⟩) else .fail
 |_,_=>.fail
theorem aB {K:PySem.W.Frag}:OpV (rIx K) ixO:=fun φ G O H n R Q y z x x' pr dm ok r1 r2 w q=>by
 cases y<;>cases z<;>first|exact w.elim|skip
 ·rename_i s i
  rw[r1.str_i,r2.int_i]
  unfold ixO at w
  dsimp only at w
  by_cases hc:s.length≤100000
  ·rw[if_pos hc] at w
   cases e:atI s.cps.toList i with
   |none=>rw[e] at w;exact w.elim
   |some c=>rw[e] at w;exact .inr (.inr ⟨s,i,c,rfl,rfl,Nat.le_trans hc dz,e,q.sc ok (.str _) w⟩)
  ·rw[if_neg hc] at w;exact w.elim
 ·rename_i l i
  obtain⟨p,xs,rfl,h1,e1⟩:=r1.tup_i
  rw[r2.int_i]
  unfold ixO at w
  dsimp only at w
  cases e:atI l i with
  |none=>rw[e] at w;exact w.elim
  |some y=>
   rw[e] at w
   obtain⟨v,a,b⟩:=nL e1 e
   exact .inr (.inl ⟨p,xs,i,v,rfl,rfl,SqT.of h1,a,q.sc ok b w⟩)
 ·rename_i l i
  obtain⟨p,xs,rfl,h1,e1⟩:=r1.lst_i
  rw[r2.int_i]
  unfold ixO at w
  dsimp only at w
  cases e:atI l i with
  |none=>rw[e] at w;exact w.elim
  |some y=>
   rw[e] at w
   obtain⟨v,a,b⟩:=nL e1 e
   exact .inl ⟨p,xs,i,v,rfl,rfl,SqL.of h1,a,q.sc ok b w⟩
end
section
variable {φ:Fam}
section
variable {X:Cx} {e:Expr} {es:List Expr} {me:ah→M PV} {ml:ah→M (List PV)}
theorem BA.mono {t t':TA} (h:BA X es t) (f: ∀ σ H Q,t' σ H Q→t σ H Q):BA X es t':=⟨fun pos pins s σ H Q I q=>h.out pos pins s σ H Q I (f σ H Q q)⟩
noncomputable def aa (me:ah→M PV) (ml:ah→M (List PV)):ah→M (List PV):=fun ρ=>(me ρ).bind fun y=>(ml ρ).bind fun l=>.ret (y::l)
theorem aq:AV φ X [] (fun _=>.ret []):=BA.mono ⟨du⟩ fun σ H Q ⟨G,O,ρ,n,R,s,w,q⟩=>q [] [] H n (Ext.refl _ _) s.ok .nil w
theorem ae (h:EV φ X e me) (t:AV φ X es ml) (hs:isStar e=false:=by rfl):AV φ X (e::es) (aa me ml):=BA.mono ⟨wW h.out t.out hs⟩ fun σ H Q hq0=>by
 obtain⟨G,O,ρ,n,R,s,w,q⟩:=hq0
 unfold aa at w
 rw[M.wp_bind] at w
 refine⟨G,O,ρ,n,_,s,w,fun y x H1 n1 e1 ok1 r1 w1=>?_⟩
 rw[M.wp_bind] at w1
 exact⟨G,O,ρ,n1,_,s.ext e1 ok1,w1,fun l xs H2 n2 e2 ok2 r2 w2=>q (y::l) (x::xs) H2 n2 (e1.trans e2) ok2 (.cons (r1.ext s.B e2) r2) w2⟩
theorem RepBs.nil {G:Bg φ} {O:Addr→Prop} {H:Hp}:RepBs G O H [] []:=⟨rfl,fun i y x a=>by simp at a⟩
theorem RepBs.cons {G:Bg φ} {O:Addr→Prop} {H:Hp} {y:PV} {x:V} {l:List PV} {xs:List V} (h:RepB G O H y x) (t:RepBs G O H l xs):RepBs G O H (y::l) (x::xs):=⟨by simp[t.1],fun i y' x' a b=>by
 cases i with
 |zero=>simp at a b;subst a b;exact h
 |succ i=>simp at a b;exact t.2 i y' x' a b⟩
theorem RepBs.nil_inv {G:Bg φ} {O:Addr→Prop} {H:Hp} {xs:List V} (h:RepBs G O H [] xs):xs=[]:=List.eq_nil_of_length_eq_zero h.1.symm
theorem RepBs.cons_inv {G:Bg φ} {O:Addr→Prop} {H:Hp} {y:PV} {l:List PV} {xs:List V} (h:RepBs G O H (y::l) xs): ∃ x r,xs=x::r∧RepB G O H y x∧RepBs G O H l r:=by
 cases xs with
 |nil=>have:=h.1;simp at this
 |cons x r=>exact⟨x,r,rfl,h.2 0 y x rfl rfl,by simpa using h.1,fun i y' x' a b=>h.2 (i+1) y' x' (by simpa using a) (by simpa using b)⟩
theorem RepBs.one {G:Bg φ} {O:Addr→Prop} {H:Hp} {y:PV} {xs:List V} (h:RepBs G O H [y] xs): ∃ x,xs=[x]∧RepB G O H y x:=by
 obtain⟨x,r,rfl,a,b⟩:=h.cons_inv
 rw[b.nil_inv];exact⟨x,rfl,a⟩
theorem RepBs.two {G:Bg φ} {O:Addr→Prop} {H:Hp} {y z:PV} {xs:List V} (h:RepBs G O H [y,z] xs): ∃ x x',xs=[x,x']∧RepB G O H y x∧RepB G O H z x':=by
 obtain⟨x,r,rfl,a,b⟩:=h.cons_inv
 obtain⟨x',rfl,c⟩:=b.one
 exact⟨x,x',rfl,a,c⟩
theorem a9:AB φ X [] (fun _=>.ret []):=BA.mono ⟨du⟩ fun σ H Q ⟨G,O,ρ,n,R,s,w,q⟩=>q [] [] H n (Ext.refl _ _) s.ok .nil w
theorem aM (h:EB φ X e me) (t:AB φ X es ml) (hs:isStar e=false:=by rfl):AB φ X (e::es) (aa me ml):=BA.mono ⟨wW h.out t.out hs⟩ fun σ H Q hq0=>by
 obtain⟨G,O,ρ,n,R,s,w,q⟩:=hq0
 unfold aa at w
 rw[M.wp_bind] at w
 refine⟨G,O,ρ,n,_,s,w,fun y x H1 n1 e1 ok1 r1 w1=>?_⟩
 rw[M.wp_bind] at w1
 exact⟨G,O,ρ,n1,_,s.ext e1 ok1,w1,fun l xs H2 n2 e2 ok2 r2 w2=>q (y::l) (x::xs) H2 n2 (e1.trans e2) ok2 (.cons (r1.ext s.B e2) r2) w2⟩
noncomputable def aT (l:List PV):M PV:=if l.length≤100000 then .ret (.tup l) else .fail
noncomputable def aU (l:List PV):M (List PV):=if l.length≤100000 then .ret l else .fail
theorem br {k:Nat} {pos:Pos} (h:AV φ X es ml):EV φ X (.Tuple es k pos) (fun ρ=>(ml ρ).bind aT):=BE.mono ⟨mq h.out⟩ fun σ H Q hq0=>by
 obtain⟨G,O,ρ,n,R,s,w,q⟩:=hq0
 rw[M.wp_bind] at w
 refine⟨G,O,ρ,n,_,s,w,fun l xs H1 n1 e1 ok1 r1 w1=>?_⟩
 unfold aT at w1
 by_cases hc:l.length≤100000
 ·rw[if_pos hc] at w1
  refine⟨Nat.le_trans (by rw[←r1.1];exact hc) dz,fun p hp=>?_⟩
  have q':Wish G O H1 R Q:=fun y x H' n' e o r h=>q y x H' n' (e1.trans e) o r h
  exact q'.tup ok1 (s.ext e1 ok1).dm hp s.B r1 w1
 ·rw[if_neg hc] at w1;exact w1.elim
theorem bK {pos:Pos} (h:AV φ X es ml):EF φ X (.List es pos) (fun ρ=>(ml ρ).bind aU):=BE.mono ⟨mr h.out⟩ fun σ H Q hq0=>by
 obtain⟨G,O,ρ,n,R,s,w,q⟩:=hq0
 rw[M.wp_bind] at w
 refine⟨G,O,ρ,n,_,s,w,fun l xs H1 n1 e1 ok1 r1 w1=>?_⟩
 unfold aU at w1
 by_cases hc:l.length≤100000
 ·rw[if_pos hc] at w1
  refine⟨Nat.le_trans (by rw[←r1.1];exact hc) dz,fun p hp=>?_⟩
  have e2:=Ext.new (B:=G.B) hp (.lst xs)
  refine q l p xs _ n1 (e1.trans e2) (Bg.new ok1 hp _) ?_ aD ((r1.grow fun q z=>by
   rcases z with z|z
   ·exact .inl z
   ·subst z;exact .inr hp).ext (.inl s.B) e2) w1
  cases hh:H p with
  |none=>rfl
  |some o=>
   by_cases pb:p=G.B
   ·subst pb;obtain⟨o',g⟩:=G.dom _ _ _ ok1 G.pB;rw[hp] at g;cases g
   ·obtain⟨_,this⟩:=(e1 p o pb hh).there;rw[hp] at this;cases this
 ·rw[if_neg hc] at w1;exact w1.elim
theorem fo {G:Bg φ} {H H1:Hp} {n:Nat} (e1:Ext G.B H H1) (ok1:G.ok H1 n) {p:Addr} (hp:H1 p=none):H p=none:=by
 cases hh:H p with
 |none=>rfl
 |some o=>
  by_cases pb:p=G.B
  ·subst pb;obtain⟨o',g⟩:=G.dom _ _ _ ok1 G.pB;rw[hp] at g;cases g
  ·obtain⟨_,this⟩:=(e1 p o pb hh).there;rw[hp] at this;cases this
noncomputable def fW (r:List V→Hp→VK→Prop) (op:List PV→M PV):Prop:= ∀ (φ:Fam) (G:Bg φ) (O:Addr→Prop) (H:Hp) (n:Nat) (R:PV→Nat→Prop) (Q:VK) (l:List PV) (xs:List V),
 (∀ p,G.priv p→O p)→(∀ p,O p→∃ o,H p=some o)→G.ok H n→RepBs G O H l xs→(op l).wp n R→Wish G O H R Q→r xs H Q
theorem ba {e:Expr} {r:List V→Hp→VK→Prop} {op:List PV→M PV} (h:BE X e (tCB r (taB φ ml))) (hv:fW r op):EV φ X e (fun ρ=>(ml ρ).bind op):=BE.mono h fun σ H Q hq0=>by
 obtain⟨G,O,ρ,n,R,s,w,q⟩:=hq0
 rw[M.wp_bind] at w
 exact⟨G,O,ρ,n,_,s,w,fun l xs H1 n1 e1 ok1 r1 w1=>hv φ G O H1 n1 R Q l xs s.pr (s.ext e1 ok1).dm ok1 r1 w1 fun y x H' n' e o r h=>q y x H' n' (e1.trans e) o r h⟩
noncomputable def cN:List PV→M PV
 |[.str z]=>if z.length≤100000 then .ret (.int z.length) else .fail
 |[.lst l]=>.ret (.int l.length)
 |[.tup l]=>.ret (.int l.length)
 |[.scr l]=>.ret (.int l.length)
 |[.dct l]=>.ret (.int l.length)
 |_=>.fail
noncomputable def ux (K:PySem.W.Frag):List V→Hp→VK→Prop:=fun xs H Q=>(∃ x n,xs=[x]∧xU K x H n∧Q (.int n) H)∨∃ a kvs,xs=[.ref a]∧Rd H a (.dK kvs)∧Q (.int kvs.length) H
theorem cQ:dH X (.builtin "len") (ux X.K):=by
 intro pins s σ H xs us Q I r h
 rcases h with h|⟨a,kvs,rfl,h,q⟩
 ·exact t8 pins s σ H xs us Q I r h
 ·obtain⟨u,rfl,rx⟩:=vals1 r
  cases rx
  exact yq I h fun t s' I'=>⟨.int kvs.length,H,I',⟨_,rfl⟩,q⟩
theorem eN {K:PySem.W.Frag}:fW (ux K) cN:=fun φ G O H n R Q l xs pr dm ok r w q=>by
 match l,r,w with
 |[.str z],r,w=>
  obtain⟨x,ex,r1⟩:=r.one;subst ex;clear r;have r:=r1;clear r1
  rw[r.str_i]
  unfold cN at w
  dsimp only at w
  by_cases hc:z.length≤100000
  ·rw[if_pos hc] at w;exact .inl ⟨_,_,rfl,⟨Nat.le_trans hc dz,rfl⟩,q.sc ok (.int _) w⟩
  ·rw[if_neg hc] at w;exact w.elim
 |[.lst z],r,w=>
  obtain⟨x,ex,r1⟩:=r.one;subst ex;clear r;have r:=r1;clear r1
  obtain⟨p,xs,rfl,h,e⟩:=r.lst_i
  exact .inl ⟨_,_,rfl,.inl ⟨xs,SqL.of h,rfl⟩,q.sc ok (y:=.int z.length) (by rw[e.1];exact .int _) w⟩
 |[.tup z],r,w=>
  obtain⟨x,ex,r1⟩:=r.one;subst ex;clear r;have r:=r1;clear r1
  obtain⟨p,xs,rfl,h,e⟩:=r.tup_i
  exact .inl ⟨_,_,rfl,.inr ⟨xs,SqT.of h,rfl⟩,q.sc ok (y:=.int z.length) (by rw[e.1];exact .int _) w⟩
 |[.scr z],r,w=>
  obtain⟨x,ex,r1⟩:=r.one;subst ex;clear r;have r:=r1;clear r1
  obtain⟨p,o,rfl,h⟩:=r.scr_i
  exact .inl ⟨_,_,rfl,.inl ⟨_,.inl (.inr ⟨o,h⟩),rfl⟩,q.sc ok (y:=.int z.length) (by rw[List.length_map];exact .int _) w⟩
 |[.dct z],r,w=>
  obtain⟨x,ex,r1⟩:=r.one;subst ex;clear r;have r:=r1;clear r1
  obtain⟨p,ks,rfl,h,e⟩:=r.dct_i
  have e1:z.length=ks.length:=by simpa using congrArg List.length e.1
  exact .inr ⟨p,ks,rfl,h,q.sc ok (y:=.int z.length) (by rw[e1];exact .int _) w⟩
noncomputable def d9:List PV→Option (List Bool)
 |[]=>some []
 | .bl b::r=>(d9 r).map (b:: ·)
 |_=>none
theorem o8 {B:Addr} {O:Addr→Prop} {H:Hp}: ∀ {l:List PV} {xs:List V} {bs:List Bool},Reps B O H l xs→d9 l=some bs→xs=bs.map V.bl
 |[],xs,bs,h,e=>by simp[d9] at e;subst e;exact h.nil_inv
 |y::l,xs,bs,h,e=>by
  cases y<;>simp[d9] at e
  obtain⟨bs',e1,rfl⟩:=e
  obtain⟨x,r,rfl,h1,h2⟩:=h.cons_inv
  cases h1
  rw[List.map_cons,o8 h2 e1]
noncomputable def eQ:List PV→M PV
 |[.lst l]=>(M.ofO (d9 l)).bind fun bs=>.ret (.bl (bs.all id))
 |_=>.fail
theorem nu {K:PySem.W.Frag}:fW (fun xs H Q=> ∃ (p:Addr) (bs:List Bool),xs=[.ref p]∧SqL K H p (bs.map V.bl)∧Q (.bl (bs.all id)) H) eQ:=fun φ G O H n R Q l xs pr dm ok r w q=>by
 match l,r,w with
 |[.lst z],r,w=>
  obtain⟨x,ex,r1⟩:=r.one;subst ex;clear r;have r:=r1;clear r1
  obtain⟨p,xs,rfl,h,e⟩:=r.lst_i
  unfold eQ at w
  dsimp only at w
  cases eb:d9 z with
  |none=>rw[eb] at w;exact w.elim
  |some bs=>rw[eb] at w;rw[o8 e eb] at h;exact⟨p,bs,rfl,SqL.of h,q.sc ok (.bl _) w⟩
noncomputable def iJ:List PV→M PV
 |[.int i,.int j]=>.ret (.int (if j > i then j else i))
 |_=>.fail
noncomputable def fP:List PV→M PV
 |[.int i,.int j]=>.ret (.int (if j < i then j else i))
 |_=>.fail
theorem km:fW (fun xs H Q=> ∃ i j,xs=[.int i,.int j]∧Q (.int (if j > i then j else i)) H) iJ:=fun φ G O H n R Q l xs pr dm ok r w q=>by
 match l,r,w with
 |[.int i,.int j],r,w=>obtain⟨x,x',ex,r1,r'⟩:=r.two;subst ex;clear r;have r:=r1;clear r1;rw[r.int_i,r'.int_i];exact⟨i,j,rfl,q.sc ok (.int _) w⟩
theorem kl:fW (fun xs H Q=> ∃ i j,xs=[.int i,.int j]∧Q (.int (if j < i then j else i)) H) fP:=fun φ G O H n R Q l xs pr dm ok r w q=>by
 match l,r,w with
 |[.int i,.int j],r,w=>obtain⟨x,x',ex,r1,r'⟩:=r.two;subst ex;clear r;have r:=r1;clear r1;rw[r.int_i,r'.int_i];exact⟨i,j,rfl,q.sc ok (.int _) w⟩
noncomputable def i9:List PV→M PV
 |[.int i]=>.ret (.int i)
 |[.bl k]=>.ret (.int (if k then 1 else 0))
 |_=>.fail
theorem rR:fW (fun xs H Q=>(∃ i,xs=[.int i]∧Q (.int i) H)∨∃ k,xs=[.bl k]∧Q (.int (if k then 1 else 0)) H) i9:=fun φ G O H n R Q l xs pr dm ok r w q=>by
 match l,r,w with
 |[.int i],r,w=>obtain⟨x,ex,r1⟩:=r.one;subst ex;clear r;have r:=r1;clear r1;rw[r.int_i];exact .inl ⟨i,rfl,q.sc ok (.int _) w⟩
 |[.bl i],r,w=>obtain⟨x,ex,r1⟩:=r.one;subst ex;clear r;have r:=r1;clear r1;rw[r.bl_i];exact .inr ⟨i,rfl,q.sc ok (.int _) w⟩
noncomputable def eS:List PV→M PV
 |[.lst l]=>.ret (.tup l)
 |[.tup l]=>.ret (.tup l)
 |_=>.fail
theorem ij {K:PySem.W.Frag}:fW (fun xs H Q=> ∃ p ys,xs=[.ref p]∧((SqL K H p ys∧∀ l,H l=none→Q (.ref l) (upd H l (.tup ys)))∨(SqT K H p ys∧Q (.ref p) H))) eS:=fun φ G O H n R Q l xs pr dm ok r w q=>by
 match l,r,w with
 |[.lst z],r,w=>
  obtain⟨x,ex,r1⟩:=r.one;subst ex;clear r;have r:=r1;clear r1
  obtain⟨p,xs,rfl,h,e⟩:=r.lst_i
  exact⟨p,xs,rfl,.inl ⟨SqL.of h,fun l hl=>q.tup ok dm hl (pr _ G.pB) e w⟩⟩
 |[.tup z],r,w=>
  obtain⟨x,ex,r1⟩:=r.one;subst ex;clear r;have r:=r1;clear r1
  obtain⟨p,xs,rfl,h,e⟩:=r.tup_i
  cases r with
  |full r=>exact⟨p,xs,rfl,.inr ⟨SqT.of h,q.sc ok r w⟩⟩
end
end
section
variable {φ:Fam}
noncomputable def spP (φ:Fam) (f:List PV→M PV):Sp:=fun vs H Q _=> ∃ (G:Bg φ) (O:Addr→Prop) (l:List PV) (n:Nat) (R:PV→Nat→Prop),(∀ p,G.priv p→O p)∧(∀ p,O p→∃ o,H p=some o)∧G.ok H n∧Reps G.B O H l vs∧(f l).wp n R∧Wish G O H R Q
section
variable {X:Cx} {e:Expr} {es:List Expr} {ml:ah→M (List PV)} {f:List PV→M PV}
theorem az (h:BE X e (jm (spP φ f) [] E0 (taP φ ml))):EV φ X e (fun ρ=>(ml ρ).bind f):=BE.mono h fun σ H Q hq0=>by
 obtain⟨G,O,ρ,n,R,s,w,q⟩:=hq0
 rw[M.wp_bind] at w
 refine⟨G,O,ρ,n,_,s,w,fun l xs H1 n1 e1 ok1 r1 w1=>?_⟩
 show spP φ f (xs++[]) H1 Q E0
 rw[List.append_nil]
 exact⟨G,O,l,n1,R,s.pr,(s.ext e1 ok1).dm,ok1,r1,w1,fun y x H' n' e o r h=>q y x H' n' (e1.trans e) o r h⟩
noncomputable def gJ (y:PV):M PV:=if aZ y=true then .ret y else .fail
theorem m4 (h:BE X e (jm (spP φ f) [] E0 (taB φ ml))):EV φ X e (fun ρ=>(ml ρ).bind fun l=>(f l).bind gJ):=BE.mono h fun σ H Q hq0=>by
 obtain⟨G,O,ρ,n,R,s,w,q⟩:=hq0
 rw[M.wp_bind] at w
 refine⟨G,O,ρ,n,_,s,w,fun l xs H1 n1 e1 ok1 r1 w1=>?_⟩
 show spP φ f (xs++[]) H1 Q E0
 rw[List.append_nil]
 rw[M.wp_bind] at w1
 refine⟨G,G.priv,l,n1,_,fun p h=>h,fun p h=>G.dom _ _ _ ok1 h,ok1,⟨r1.1,fun i y x a b=>(r1.2 i y x a b).low s.pr⟩,w1,fun y x H' n' e o r h=>?_⟩
 unfold gJ at h
 by_cases hf:aZ y=true
 ·rw[if_pos hf] at h
  refine q y x H' n' (e1.trans e) o ?_ h
  rw[eB r hf]
  cases y<;>first|exact .non|exact .bl _|exact .int _|exact .str _|(simp[aZ,toV,cz] at hf)
 ·rw[if_neg hf] at h;exact h.elim
noncomputable def SlV (r:V→Option Int→Option Int→Hp→VK→Prop) (op:PV→Option Int→Option Int→M PV):Prop:= ∀ (φ:Fam) (G:Bg φ) (O:Addr→Prop) (H:Hp) (n:Nat) (R:PV→Nat→Prop) (Q:VK) (y:PV) (lo hi:Option Int) (x:V),
 (∀ p,G.priv p→O p)→(∀ p,O p→∃ o,H p=some o)→G.ok H n→RepB G O H y x→(op y lo hi).wp n R→Wish G O H R Q→r x lo hi H Q
noncomputable def yu (G:Bg φ) (H:Hp) (R:Option Int→Nat→Prop) (Q:Option Int→Hp→Prop):Prop:= ∀ (o:Option Int) (H':Hp) (n':Nat),Ext G.B H H'→G.ok H' n'→R o n'→Q o H'
noncomputable def toP (φ:Fam) (m:ah→M (Option Int)):TO:=fun σ H Q=> ∃ (G:Bg φ) (O:Addr→Prop) (ρ:ah) (n:Nat) (R:Option Int→Nat→Prop),ES G O H σ ρ n∧(m ρ).wp n R∧yu G H R Q
noncomputable def OV (φ:Fam) (X:Cx) (e:Option Expr) (m:ah→M (Option Int)):Prop:=BO X e (toP φ m)
theorem BO.mono {e:Option Expr} {t t':TO} (h:BO X e t) (f: ∀ σ H Q,t' σ H Q→t σ H Q):BO X e t':=⟨fun pins s σ H Q I q=>h.out pins s σ H Q I (f σ H Q q)⟩
theorem oQ:OV φ X none (fun _=>.ret none):=BO.mono ⟨iC⟩ fun σ H Q ⟨G,O,ρ,n,R,s,w,q⟩=>q none H n (Ext.refl _ _) s.ok w
noncomputable def h8:PV→M Int
 | .int i=>.ret i
 |_=>.fail
theorem oP {m:ah→M PV} (h:EB φ X e m):OV φ X (some e) (fun ρ=>(m ρ).bind fun y=>(h8 y).bind fun i=>.ret (some i)):=BO.mono ⟨iB h.out⟩ fun σ H Q hq0=>by
 obtain⟨G,O,ρ,n,R,s,w,q⟩:=hq0
 rw[M.wp_bind] at w
 refine⟨G,O,ρ,n,_,s,w,fun y x H1 n1 e1 ok1 r1 w1=>?_⟩
 cases y<;>first|exact w1.elim|skip
 rename_i i
 rw[r1.int_i]
 exact⟨i,rfl,q _ _ _ e1 ok1 w1⟩
noncomputable def sl3 (op:PV→Option Int→Option Int→M PV) (me:ah→M PV) (ml mh:ah→M (Option Int)):ah→M PV:=fun ρ=>(me ρ).bind fun y=>(ml ρ).bind fun lo=>(mh ρ).bind fun hi=>op y lo hi
theorem mZ {r:V→Option Int→Option Int→Hp→VK→Prop} {op:PV→Option Int→Option Int→M PV} {me:ah→M PV} {ml mh:ah→M (Option Int)} (h:BE X e (tSl r (teB φ me) (toP φ ml) (toP φ mh))) (hv:SlV r op):EV φ X e (sl3 op me ml mh):=BE.mono h fun σ H Q hq0=>by
 obtain⟨G,O,ρ,n,R,s,w,q⟩:=hq0
 unfold sl3 at w
 rw[M.wp_bind] at w
 refine⟨G,O,ρ,n,_,s,w,fun y x H1 n1 e1 ok1 r1 w1=>?_⟩
 rw[M.wp_bind] at w1
 refine⟨G,O,ρ,n1,_,s.ext e1 ok1,w1,fun lo H2 n2 e2 ok2 w2=>?_⟩
 rw[M.wp_bind] at w2
 refine⟨G,O,ρ,n2,_,s.ext (e1.trans e2) ok2,w2,fun hi H3 n3 e3 ok3 w3=>?_⟩
 exact hv φ G O H3 n3 R Q y lo hi x s.pr (s.ext (e1.trans (e2.trans e3)) ok3).dm ok3 (r1.ext s.B (e2.trans e3)) w3 fun y x H' n' e o r h=>q y x H' n' (e1.trans (e2.trans (e3.trans e))) o r h
noncomputable def f7 (l:List PV) (lo hi:Option Int):List PV:=(l.drop (HT.sIx l.length 0 lo)).take (HT.sIx l.length l.length hi - HT.sIx l.length 0 lo)
theorem nv {B:Addr} {O:Addr→Prop} {H:Hp} {l:List PV} {xs:List V} (h:Reps B O H l xs) (lo hi:Option Int):Reps B O H (f7 l lo hi) (eO xs lo hi):=by
 unfold f7 eO
 rw[←h.1]
 exact(h.drop _).take _
theorem qg (l:List PV) (lo hi:Option Int) (h:HT.sIx l.length 0 lo=0∧HT.sIx l.length l.length hi=l.length):f7 l lo hi=l:=by
 unfold f7
 rw[h.1,h.2]
 simp
noncomputable def wA (K:PySem.W.Frag):V→Option Int→Option Int→Hp→VK→Prop:=fun x lo hi H Q=>wx K x lo hi H Q∨wq K x lo hi H Q
theorem sl_D:SlR X (wA X.K):=sl_list.or wd
noncomputable def d6 (x:Str):List PV:=x.cps.toList.map fun c=>.str ⟨#[c]⟩
noncomputable def bw (lo:Int) (n:Nat):List PV:=(List.range n).map fun i=>.int (lo+(i:Nat))
inductive ItOf (K:PySem.W.Frag) (G:Bg φ) (O:Addr→Prop) (c:Bool) (H:Hp):List PV→It→Prop where
 |lst {p:Addr} {xs:List V} {l:List PV} (np: ¬ G.priv p) (hp:c=true→¬ O p) (h:H p=some (.lst xs)) (r:Reps G.B O H l xs):ItOf K G O c H l (Itl K p)
 |tup {p:Addr} {xs:List V} {l:List PV} (hp: ¬ O p) (h:H p=some (.tup xs)) (r:Reps G.B O H l xs):ItOf K G O c H l (Itt K p)
 |txt (x:Str):ItOf K G O c H (d6 x) (Itx x)
 |rng (lo:Int) (n:Nat):ItOf K G O c H (bw lo n) (Itr lo n)
theorem xx {K:PySem.W.Frag} {H:Hp} {p:Addr} {xs:List V} (h:H p=some (.lst xs)) {i:Nat} (hi:i < xs.length):(Itl K p).go i H:=⟨xs,xs[i],SqL.of h,by simp[hi]⟩
theorem xw {K:PySem.W.Frag} {H:Hp} {p:Addr} {xs:List V} (h:H p=some (.tup xs)) {i:Nat} (hi:i < xs.length):(Itt K p).go i H:=⟨xs,xs[i],SqT.of h,by simp[hi]⟩
theorem ItOf.go {K:PySem.W.Frag} {G:Bg φ} {O:Addr→Prop} {c:Bool} {H:Hp} {l:List PV} {J:It} (t:ItOf K G O c H l J) {i:Nat} {y:PV} (hi:l[i]?=some y):J.go i H∧∀ x H2,J.yld i H x H2→H2=H∧Rep G.B O H y x:=by
 have hl:i < l.length:=(List.getElem?_eq_some_iff.mp hi).1
 cases t with
 |lst np hp h r=>
  refine⟨xx h (r.1▸hl),fun x H2 z=>?_⟩
  obtain⟨e,z⟩:=z
  exact⟨e,r.2 i y x hi (z _ (SqL.of h))⟩
 |tup hp h r=>
  refine⟨xw h (r.1▸hl),fun x H2 z=>?_⟩
  obtain⟨e,z⟩:=z
  exact⟨e,r.2 i y x hi (z _ (SqT.of h))⟩
 |txt z=>
  unfold d6 at hi hl
  refine⟨by show i < z.cps.size;simpa using hl,fun x H2 q=>?_⟩
  obtain⟨e,c',hc,rfl⟩:=q
  refine⟨e,?_⟩
  rw[List.getElem?_map] at hi
  have:z.cps.toList[i]?=some c':=by simpa using hc
  rw[this] at hi
  cases hi
  exact .str _
 |rng lo n=>
  unfold bw at hi hl
  have hn:i < n:=by simpa using hl
  refine⟨hn,fun x H2 q=>?_⟩
  obtain⟨e,rfl⟩:=q
  refine⟨e,?_⟩
  rw[List.getElem?_map,List.getElem?_range hn] at hi
  cases hi
  exact .int _
theorem ItOf.stop {K:PySem.W.Frag} {G:Bg φ} {O:Addr→Prop} {c:Bool} {H:Hp} {l:List PV} {J:It} (t:ItOf K G O c H l J):J.stop l.length H:=by
 cases t with
 |lst np hp h r=>exact⟨_,SqL.of h,Nat.le_of_eq r.1.symm⟩
 |tup hp h r=>exact⟨_,SqT.of h,Nat.le_of_eq r.1.symm⟩
 |txt z=>show (d6 z).length=z.cps.size;simp[d6]
 |rng lo n=>show n≤(bw lo n).length;simp[bw]
theorem ItOf.keepS {K:PySem.W.Frag} {G:Bg φ} {O O':Addr→Prop} {c:Bool} {H H':Hp} {l:List PV} {J:It} (t:ItOf K G O c H l J) (k: ∀ p o,¬ O p→H p=some o→Stand H' p o∧¬ O' p) (k2:c=true∨∀ p xs,¬ G.priv p→H p=some (.lst xs)→H' p=some (.lst xs)) (hc: ∀ p,c=true→¬ O p→¬ O' p):ItOf K G O' c H' l J:=by
 cases t with
 |lst np hp h r=>
  refine .lst np (fun z=>hc _ z (hp z)) ?_ (r.keepS k)
  rcases k2 with z|z
  ·exact(k _ _ (hp z) h).1
  ·exact z _ _ np h
 |tup hp h r=>exact .tup (k _ _ hp h).2 (k _ _ hp h).1 (r.keepS k)
 |txt z=>exact .txt z
 |rng lo n=>exact .rng lo n
theorem ItOf.keep {K:PySem.W.Frag} {G:Bg φ} {O O':Addr→Prop} {c:Bool} {H H':Hp} {l:List PV} {J:It} (t:ItOf K G O c H l J) (k: ∀ p o,¬ O p→H p=some o→H' p=some o∧¬ O' p) (k2:c=true∨∀ p xs,¬ G.priv p→H p=some (.lst xs)→H' p=some (.lst xs)) (hc: ∀ p,c=true→¬ O p→¬ O' p):ItOf K G O' c H' l J:=t.keepS (fun p o n q=>⟨.of (k p o n q).1,(k p o n q).2⟩) k2 hc
noncomputable def tiP (φ:Fam) (K:PySem.W.Frag) (c:Bool) (m:ah→M (List PV)):TI:=fun σ H Q=> ∃ (G:Bg φ) (O:Addr→Prop) (ρ:ah) (n:Nat) (R:List PV→Nat→Prop),ES G O H σ ρ n∧(m ρ).wp n R∧
 ∀ (l:List PV) (J:It) (H':Hp) (n':Nat),Ext G.B H H'→G.ok H' n'→ItOf K G O c H' l J→R l n'→Q J H'
noncomputable def IV (φ:Fam) (X:Cx) (c:Bool) (tg iter:Expr) (m:ah→M (List PV)):Prop:=BI X tg iter (tiP φ X.K c m)
noncomputable def a8:PV→M (List PV)
 | .lst l=>.ret l
 | .tup l=>.ret l
 | .str x=>.ret (d6 x)
 |_=>.fail
theorem qO {tg l:Expr} {tl:TE} (hl:PE X l tl):PI X tg l (fun σ H R=>tl σ H fun x H1=>(∃ a,x= .ref a∧(∃ xs,SqL X.K H1 a xs)∧R (Itl X.K a) H1)∨(∃ a,x= .ref a∧(∃ xs,SqT X.K H1 a xs)∧R (Itt X.K a) H1)∨∃ z,x= .str z∧R (Itx z) H1):=by
 intro pins s σ H R I h
 refine thn (hl pins s σ H _ I h) fun v s1 ⟨x,H1,I1,r1,q1⟩=>?_
 rcases q1 with⟨a,e,⟨xs,hq⟩,q⟩|⟨a,e,⟨xs,hq⟩,q⟩|⟨z,e,q⟩
 ·subst e
  cases r1
  obtain⟨its,rv,p,hz⟩:=I1.list hq
  refine wpAny_pyIter_list p.isList ?_
  refine⟨s1.heap.objs.size,[s1.heap.objs.size],_,_,H1,rfl,I1.kept (t':=s1.toks) fun b o e=>Heap.get?_push_of_some _ e,qu a _,⟨_,Heap.get?_push_size _ rfl,rfl,rfl⟩,fun b hb=>?_,q⟩
  have e:b=s1.heap.objs.size:=by simpa using hb
  subst e
  exact I1.fpOk (Nat.le_refl _) (I1.hok.fresh (Nat.le_refl _))
 ·subst e
  cases r1
  obtain⟨its,rv,p,hz⟩:=I1.tuple hq
  refine wpAny_pyIter_tuple (show s1.heap.IsTuple a its.toArray from p) ?_
  refine⟨s1.heap.objs.size,[s1.heap.objs.size],_,_,H1,rfl,I1.kept (t':=s1.toks) fun b o e=>Heap.get?_push_of_some _ e,pz a _,⟨_,Heap.get?_push_size _ rfl,rfl,rfl⟩,fun b hb=>?_,q⟩
  have e:b=s1.heap.objs.size:=by simpa using hb
  subst e
  exact I1.fpOk (Nat.le_refl _) (I1.hok.fresh (Nat.le_refl _))
 ·subst e
  obtain⟨t,rfl⟩:=r1
  have fin: ∀ (o:Obj) (ty:String),o.cls= .type ty→o.data= .fields #[.str z t,.int (0:Nat) 0]→Turn X.prog X.w X.K tg (Itx z) [s1.heap.objs.size] s1.heap.objs.size (fun i h=>h.IsStrIter s1.heap.objs.size ty z t i)→o.isFreed=false→
    PIE X pins σ tg R (.ref s1.heap.objs.size) {s1 with heap:=s1.heap.push o}:=fun o ty h1 h2 T hfr=>by
   refine⟨s1.heap.objs.size,[s1.heap.objs.size],_,_,H1,rfl,I1.kept (t':=s1.toks) fun b o e=>Heap.get?_push_of_some _ e,T,⟨_,Heap.get?_push_size _ hfr,h1,h2⟩,fun b hb=>?_,q⟩
   have e:b=s1.heap.objs.size:=by simpa using hb
   subst e
   exact I1.fpOk (Nat.le_refl _) (I1.hok.fresh (Nat.le_refl _))
  cases ha:z.cps.all (· < 128)
  ·exact wpAny_pyIter_wide ha (fin _ _ rfl rfl (kz _ z t (by decide) (fun A hA=>Walks.strWide hA _ z t) fun _ _ _ _ _ st h=>wpAny_pyIter_striter_wide st h) rfl)
  ·exact wpAny_pyIter_ascii ha (fin _ _ rfl rfl (kz _ z t (by decide) (fun A hA=>Walks.strAscii hA _ z t) fun _ _ _ _ _ st h=>wpAny_pyIter_striter_ascii st h) rfl)
theorem BI.mono {tg iter:Expr} {t t':TI} (h:BI X tg iter t) (f: ∀ σ H Q,t' σ H Q→t σ H Q):BI X tg iter t':=⟨fun pins s σ H Q I q=>h.out pins s σ H Q I (f σ H Q q)⟩
theorem fH {tg:Expr} {m:ah→M PV} (h:EB φ X e m):IV φ X false tg e (fun ρ=>(m ρ).bind a8):=BI.mono ⟨qO h.out⟩ fun σ H Q hq0=>by
 obtain⟨G,O,ρ,n,R,s,w,q⟩:=hq0
 rw[M.wp_bind] at w
 refine⟨G,O,ρ,n,_,s,w,fun y x H1 n1 e1 ok1 r1 w1=>?_⟩
 cases y<;>first|exact w1.elim|skip
 ·rw[r1.str_i]
  exact .inr (.inr ⟨_,rfl,q _ _ _ _ e1 ok1 (.txt _) w1⟩)
 ·cases r1 with
  |full r1=>cases r1 with
   |tup a b c d=>exact .inr (.inl ⟨_,rfl,⟨_,SqT.of b⟩,q _ _ _ _ e1 ok1 (.tup a b ⟨c,d⟩) w1⟩)
 ·cases r1 with
  |full r1=>cases r1 with
   |lst a b c d=>exact .inl ⟨_,rfl,⟨_,SqL.of b⟩,q _ _ _ _ e1 ok1 (.lst (fun z=>a (s.pr _ z)) (fun z=>by cases z) b ⟨c,d⟩) w1⟩
  |top a b c=>exact .inl ⟨_,rfl,⟨_,SqL.of b⟩,q _ _ _ _ e1 ok1 (.lst a (fun z=>by cases z) b c) w1⟩
theorem i8 {tg:Expr} {m:ah→M PV} (h:EV φ X e m):IV φ X true tg e (fun ρ=>(m ρ).bind a8):=BI.mono ⟨qO h.out⟩ fun σ H Q hq0=>by
 obtain⟨G,O,ρ,n,R,s,w,q⟩:=hq0
 rw[M.wp_bind] at w
 refine⟨G,O,ρ,n,_,s,w,fun y x H1 n1 e1 ok1 r1 w1=>?_⟩
 cases r1 with
 |str z=>exact .inr (.inr ⟨_,rfl,q _ _ _ _ e1 ok1 (.txt _) w1⟩)
 |tup a b c d=>exact .inr (.inl ⟨_,rfl,⟨_,SqT.of b⟩,q _ _ _ _ e1 ok1 (.tup a b ⟨c,d⟩) w1⟩)
 |lst a b c d=>exact .inl ⟨_,rfl,⟨_,SqL.of b⟩,q _ _ _ _ e1 ok1 (.lst (fun z=>a (s.pr _ z)) (fun _=>a) b ⟨c,d⟩) w1⟩
 |_=>exact w1.elim
noncomputable def bJ:List PV→M (List PV)
 |[.int j]=>if -1000000≤j∧j≤100000 then .ret (bw 0 j.toNat) else .fail
 |_=>.fail
theorem eC {c:Bool} {tg:Expr} (h:BI X tg e (p8 (taB φ ml))):IV φ X c tg e (fun ρ=>(ml ρ).bind bJ):=BI.mono h fun σ H Q hq0=>by
 obtain⟨G,O,ρ,n,R,s,w,q⟩:=hq0
 rw[M.wp_bind] at w
 refine⟨G,O,ρ,n,_,s,w,fun l xs H1 n1 e1 ok1 r1 w1=>?_⟩
 match l,r1,w1 with
 |[.int j],r1,w1=>
  obtain⟨x,rfl,r2⟩:=r1.one
  rw[r2.int_i]
  unfold bJ at w1
  dsimp only at w1
  by_cases hc: -1000000≤j∧j≤100000
  ·rw[if_pos hc] at w1
   have e62:(2:Int) ^ 62=4611686018427387904:=by decide
   exact⟨j,rfl,by lia,by lia,q _ _ _ _ e1 ok1 (.rng 0 j.toNat) w1⟩
  ·rw[if_neg hc] at w1;exact w1.elim
noncomputable def tgP (φ:Fam) (b:PV→ah→M ah):TG:=fun v σ H Q=> ∃ (G:Bg φ) (O:Addr→Prop) (ρ:ah) (n:Nat) (R:ah→Nat→Prop) (y:PV),ES G O H σ ρ n∧Rep G.B O H y v∧(b y ρ).wp n R∧
 ∀ (σ':St) (ρ':ah) (n':Nat),ES G O H σ' ρ' n'→R ρ' n'→Q σ' H
noncomputable def GV (φ:Fam) (X:Cx) (tg:Expr) (b:PV→ah→M ah):Prop:=BG X tg (tgP φ b)
theorem EnvRep.set {G:Bg φ} {O:Addr→Prop} {H:Hp} {σ:St} {ρ:ah} (h:EnvRep G O H σ ρ) (k:Nat) {t:Ent} {x:V} (r:EntRep G O H t (some x)):EnvRep G O H (σ.set k (some x)) (ρ.set k t):=by
 refine⟨by simp[h.1],fun i e he=>?_⟩
 by_cases hk:k=i
 ·subst hk
  have hl:k < ρ.length:=by have:=(List.getElem?_eq_some_iff.mp he).1;simpa using this
  rw[List.getElem?_set_self hl] at he
  cases he
  rw[List.getElem?_set_self (h.1▸hl)]
  exact r
 ·rw[List.getElem?_set_ne hk] at he ⊢
  exact h.2 i e he
theorem ES.set {G:Bg φ} {O:Addr→Prop} {H:Hp} {σ:St} {ρ:ah} {n:Nat} (s:ES G O H σ ρ n) (k:Nat) {t:Ent} {x:V} (r:EntRep G O H t (some x)):ES G O H (σ.set k (some x)) (ρ.set k t) n:=⟨s.er.set k r,s.ok,s.pr,s.dm⟩
noncomputable def aN (k:Nat) (y:PV) (ρ:ah):M ah:=.ret (ρ.set k (.val y))
theorem BG.mono {tg:Expr} {t t':TG} (h:BG X tg t) (f: ∀ v σ H Q,t' v σ H Q→t v σ H Q):BG X tg t':=⟨fun pins s σ H v u Q I r q=>h.out pins s σ H v u Q I r (f v σ H Q q)⟩
theorem cu {tg:Expr} {k:Nat} (h:BG X tg (cP k)):GV φ X tg (aN k):=BG.mono h fun v σ H Q ⟨G,O,ρ,n,R,y,s,r,w,q⟩=>q _ _ n (s.set k (t:=.val y) ⟨v,rfl,r⟩) w
noncomputable def jJ:List Nat→List PV→ah→ah
 |k::ks,y::l,ρ=>jJ ks l (ρ.set k (.val y))
 |_,_,ρ=>ρ
noncomputable def cR (ks:List Nat) (y:PV) (ρ:ah):M ah:=match y with
 | .tup l=>if l.length=ks.length then .ret (jJ ks l ρ) else .fail
 |_=>.fail
noncomputable def fI:List Nat→TGs
 |[]=>tT
 |k::ks=>qf (cP k) (fI ks)
theorem kN {G:Bg φ} {O:Addr→Prop} {H:Hp} {n:Nat}: ∀ (ks:List Nat) (l:List PV) (xs:List V) (σ:St) (ρ:ah) (Q:St→Hp→Prop),l.length=ks.length→Reps G.B O H l xs→ES G O H σ ρ n→(∀ σ',ES G O H σ' (jJ ks l ρ) n→Q σ' H)→fI ks xs σ H Q
 |[],l,xs,σ,ρ,Q,hl,r,s,q=>by
  have e:l=[]:=List.eq_nil_of_length_eq_zero hl
  subst e
  rw[r.nil_inv]
  exact⟨rfl,q σ s⟩
 |k::ks,l,xs,σ,ρ,Q,hl,r,s,q=>by
  cases l with
  |nil=>simp at hl
  |cons y l=>
   obtain⟨x,t,rfl,r1,r2⟩:=r.cons_inv
   exact⟨x,t,rfl,kN ks l t _ _ Q (by simpa using hl) r2 (s.set k (t:=.val y) ⟨x,rfl,r1⟩) q⟩
theorem xA {tg:Expr} {ks:List Nat} (h:BG X tg (kh X.K ks.length (fI ks))):GV φ X tg (cR ks):=BG.mono h fun v σ H Q hq0=>by
 obtain⟨G,O,ρ,n,R,y,s,r,w,q⟩:=hq0
 unfold cR at w
 cases r with
 | @tup p xs l a b c d=>
  dsimp only at w
  by_cases hc:l.length=ks.length
  ·rw[if_pos hc] at w
   exact⟨p,xs,rfl,SqT.of b,by rw[←c];exact hc,kN ks l xs σ ρ Q hc ⟨c,d⟩ s fun σ' s'=>q σ' _ n s' w⟩
  ·rw[if_neg hc] at w;exact w.elim
 |_=>exact w.elim
noncomputable def lcM (bd:PV→ah→M ah) (tt:ah→M Bool) (te:ah→M PV):List PV→ah→M (List PV)
 |[],_=>.ret []
 |y::r,ρ=>(bd y ρ).bind fun ρ1=>(tt ρ1).bind fun ok=>if ok=true then(te ρ1).bind fun z=>(lcM bd tt te r ρ1).bind fun l=>.ret (z::l) else lcM bd tt te r ρ1
noncomputable def cX (js:List (Option Nat)) (ρ:ah):ah:=js.map fun o=>match o with|some j=>(ρ[j]?).getD .un|none=>.un
theorem nG {G:Bg φ} {O:Addr→Prop} {H:Hp} {σ:St} {ρ:ah} (h:EnvRep G O H σ ρ) (js:List (Option Nat)):EnvRep G O H (eZ js σ) (cX js ρ):=by
 refine⟨by simp[eZ,cX],fun i e he=>?_⟩
 unfold cX at he
 unfold eZ
 rw[List.getElem?_map] at he ⊢
 cases q:js[i]? with
 |none=>rw[q] at he;cases he
 |some o=>
  rw[q] at he
  simp only[Option.map_some,Option.some.injEq] at he ⊢
  subst he
  cases o with
  |none=>trivial
  |some j=>
   dsimp only
   cases q2:ρ[j]? with
   |none=>rw[Option.getD_none];trivial
   |some t=>
    have:=h.2 j t q2
    rw[Option.getD_some]
    simpa using this
noncomputable def cG:ah→M Bool:=fun _=>.ret true
theorem BTs.mono {ifs:List Expr} {t t':TT} (h:BTs X ifs t) (f: ∀ σ H Q,t' σ H Q→t σ H Q):BTs X ifs t':=⟨fun pins s σ H Q I q=>h.out pins s σ H Q I (f σ H Q q)⟩
noncomputable def TsV (φ:Fam) (X:Cx) (ifs:List Expr) (m:ah→M Bool):Prop:=BTs X ifs (ttP φ m)
theorem eG:TsV φ X [] cG:=BTs.mono ⟨u9⟩ fun σ H Q ⟨G,O,ρ,n,R,s,w,q⟩=>q true H n (Ext.refl _ _) s.ok w
theorem fb {c:Expr} {m:ah→M Bool} (h:TV φ X c m):TsV φ X [c] m:=⟨u7 h.out⟩
noncomputable def bb (js:List (Option Nat)) (mi:ah→M (List PV)) (bd:PV→ah→M ah) (tt:ah→M Bool) (te:ah→M PV):ah→M (List PV):=fun ρ=>(mi ρ).bind fun l=>if l.length≤100000 then lcM bd tt te l (cX js ρ) else .fail
noncomputable def Bg.with (G:Bg φ) (D:Addr) (hD:D≠G.B):Bg φ where
 B:=G.B
 priv:=fun p=>G.priv p∨p=D
 ok:=fun H n=>G.ok H n∧∃ ys,H D=some (.lst ys)
 pB:=.inl G.pB
 keep:=fun H H' n k h=>⟨G.keep H H' n (fun p o z=>k p o (z.imp .inl id)) h.1,by obtain⟨ys,e⟩:=h.2;exact⟨ys,k D _ (.inl (.inr rfl)) e⟩⟩
 tp:=fun e he=>.inl (G.tp e he)
 tab:=fun H n h=>G.tab H n h.1
 tset:=fun H H' n h h1 h2=>⟨G.tset H H' n h.1 h1 h2,by
  obtain⟨ys,e⟩:=h.2
  refine⟨ys,h2 D _ (fun z=>?_) e⟩
  obtain⟨q,hq,rfl⟩:=List.mem_map.mp z
  obtain⟨ps,e2,_⟩:=G.tab H n h.1 q hq
  rw[e] at e2;cases e2⟩
 dom:=fun H n p h z=>by
  rcases z with z|z
  ·exact G.dom H n p h.1 z
  ·subst z;obtain⟨ys,e⟩:=h.2;exact⟨_,e⟩
 dr:=fun H n m Q E h h0 h1 q=>G.dr H n m Q E h.1 h0 h1 fun d H' d0 d1 e o=>q d H' d0 d1 e ⟨o,by
  obtain⟨ys,e2⟩:=h.2
  exact⟨ys,e D _ hD e2⟩⟩
theorem uC {K:PySem.W.Frag} {js:List (Option Nat)} {mi:ah→M (List PV)} {bd:PV→ah→M ah} {tt:ah→M Bool} {te:ah→M PV}: ∀ σ H Q,teF φ (bb js mi bd tt te) σ H Q→tLC js (tiP φ K false mi) (tgP φ bd) (ttP φ tt) (teP φ te) σ H Q:=fun σ H Q hq0=>by
 obtain⟨G,O,ρ,n,R,s,w,q⟩:=hq0
 unfold bb at w
 rw[M.wp_bind] at w
 refine⟨G,O,ρ,n,_,s,w,fun l J H1 n1 e1 ok1 it w1=>fun D hD=>?_⟩
 by_cases hl:l.length≤100000
 case neg=>rw[if_neg hl] at w1;exact w1.elim
 rw[if_pos hl] at w1
 have s1:=s.ext e1 ok1
 have nD: ¬ O D:=fun z=>by obtain⟨o,g⟩:=s1.dm D z;rw[hD] at g;cases g
 have pD: ¬ G.priv D:=fun z=>nD (s.pr _ z)
 have hBD:D≠G.B:=fun z=>pD (z▸G.pB)
 have hne: ∀ p o,H1 p=some o→p≠D:=fun p o hp z=>by subst z;rw[hD] at hp;cases hp
 let O':Addr→Prop:=fun p=>O p∨p=D
 let G':Bg φ:=G.with D hBD
 have k0: ∀ p o,¬ O p→H1 p=some o→upd H1 D (HO.lst []) p=some o∧¬ O' p:=fun p o np hp=>⟨by rw[ar (hne p o hp)];exact hp,fun z=>by
  rcases z with z|z
  ·exact np z
  ·exact hne p o hp z⟩
 have kD: ∀ (H5:Hp) (o:HO) p u,¬ O' p→H5 p=some u→upd H5 D o p=some u∧¬ O' p:=fun H5 o p u np hp=>⟨by rw[ar (fun z=>np (.inr z))];exact hp,np⟩
 refine⟨fun i m σ' H'=>m=l.length - i∧i≤l.length∧∃ (ys:List V) (zs:List PV) (ρ':ah) (n':Nat),ys.length≤i∧H' D=some (.lst ys)∧Reps G.B O' H' zs ys∧ES G' O' H' σ' ρ' n'∧Ext G.B H1 H'∧ItOf K G' O' false H' l J∧
  (lcM bd tt te (l.drop i) ρ').wp n' (fun t k=>R (zs++t) k),⟨l.length,by simp,Nat.zero_le _,[],[],cX js ρ,n1,Nat.le_refl _,aD,.nil,?_,Ext.new hD _,?_,?_⟩,?_⟩
 ·have er:=nG s1.er js
  refine⟨⟨er.1,fun i e he=>?_⟩,⟨Bg.new ok1 hD _,[],aD⟩,fun p z=>?_,fun p z=>?_⟩
  ·have r1:=er.2 i e he
   cases e with
   |un=>trivial
   |val y=>obtain⟨x,hx,rr⟩:=r1;exact⟨x,hx,rr.keep k0⟩
   |own t=>
    obtain⟨p,xs,hx,hp,np,hh,rr⟩:=r1
    exact⟨p,xs,hx,.inl hp,fun z=>by
     rcases z with z|z
     ·exact np z
     ·exact hne p _ hh z,by rw[ar (hne p _ hh)];exact hh,rr.keep k0⟩
   |ownD t=>
    obtain⟨p,xs,hx,hp,np,hh,rr⟩:=r1
    exact⟨p,xs,hx,.inl hp,fun z=>by
     rcases z with z|z
     ·exact np z
     ·exact hne p _ hh z,by rw[ar (hne p _ hh)];exact hh,rr.keep k0⟩
  ·rcases z with z|z
   ·exact .inl (s.pr p z)
   ·exact .inr z
  ·rcases z with z|z
   ·obtain⟨o,g⟩:=s1.dm p z;exact⟨o,by rw[ar (hne p o g)];exact g⟩
   ·subst z;exact⟨_,aD⟩
 ·cases it with
  |lst np hp h r=>
   exact .lst (fun z=>by
    rcases z with z|z
    ·exact np z
    ·exact hne _ _ h z) (fun z=>by cases z) (by rw[ar (hne _ _ h)];exact h) (r.keep k0)
  |tup hp h r=>exact .tup (k0 _ _ hp h).2 (k0 _ _ hp h).1 (r.keep k0)
  |txt z=>exact .txt z
  |rng lo n=>exact .rng lo n
 ·simpa using w1
 ·rintro i m σ' H' ⟨rfl,hi,ys,zs,ρ',n',hy,hDy,rz,s',ex,it',w'⟩
  by_cases hlt:i < l.length
  ·have hget:l[i]?=some l[i]:=List.getElem?_eq_getElem hlt
   have hdrop:l.drop i=l[i]::l.drop (i+1):=List.drop_eq_getElem_cons hlt
   rw[hdrop] at w'
   unfold lcM at w'
   obtain⟨g1,g2⟩:=it'.go hget
   refine .inr ⟨g1,fun x H2 yl=>?_⟩
   obtain⟨eH,rx⟩:=g2 x H2 yl
   subst eH
   rw[M.wp_bind] at w'
   refine⟨G',O',ρ',n',_,l[i],s',rx,w',fun σ2 ρ2 n2 s2 w2=>?_⟩
   rw[M.wp_bind] at w2
   refine⟨G',O',ρ2,n2,_,s2,w2,fun ok H4 n4 e4 ok4 w4=>?_⟩
   have D4:H4 D=some (.lst ys):=e4 D _ hBD hDy
   have it4:ItOf K G' O' false H4 l J:=it'.keepS (fun p o np hp=>⟨e4 p o (fun z=>np (.inl (z▸s.B))) hp,np⟩) (.inr fun p xs np hp=>e4 p _ (fun z=>np (z▸G'.pB)) hp) fun p z=>by cases z
   cases ok with
   |true=>
    simp only[if_true] at w4 ⊢
    rw[M.wp_bind] at w4
    refine⟨G',O',ρ2,n4,_,s2.ext e4 ok4,w4,fun z x5 H5 n5 e5 ok5 r5 w5=>?_⟩
    have D5:H5 D=some (.lst ys):=e5 D _ hBD D4
    rw[M.wp_bind] at w5
    have s5:=s2.ext (e4.trans e5) ok5
    have it5:ItOf K G' O' false H5 l J:=it4.keepS (fun p o np hp=>⟨e5 p o (fun z=>np (.inl (z▸s.B))) hp,np⟩) (.inr fun p xs np hp=>e5 p _ (fun z=>np (z▸G'.pB)) hp) fun p z=>by cases z
    refine⟨ys,D5,by rw[sizeLine_eq];lia,l.length - (i+1),by lia,rfl,hlt,ys++[x5],zs++[z],ρ2,n5,by simp;lia,aD,?_,?_,?_,?_,?_⟩
    ·exact((rz.ext (.inl s.B) (e4.trans e5)).append (.cons r5 .nil)).keep (kD H5 _)
    ·refine⟨⟨s5.er.1,fun j e he=>?_⟩,⟨G.keep H5 _ _ (fun p o hp hpo=>by
      have hpd:p≠D:=fun z=>by
       rcases hp with hp|hp
       ·exact pD (z▸hp)
       ·rw[z,D5] at hpo;cases hpo;exact hp
      rw[ar hpd];exact hpo) ok5.1,_,aD⟩,s5.pr,fun p hp=>?_⟩
     ·have r1:=s5.er.2 j e he
      cases e with
      |un=>trivial
      |val y=>obtain⟨x,hx,rr⟩:=r1;exact⟨x,hx,rr.keep (kD H5 _)⟩
      |own t=>
       obtain⟨p,xs,hx,hp,np,hh,rr⟩:=r1
       exact⟨p,xs,hx,hp,np,by rw[ar (fun z=>np (.inr z))];exact hh,rr.keep (kD H5 _)⟩
      |ownD t=>
       obtain⟨p,xs,hx,hp,np,hh,rr⟩:=r1
       exact⟨p,xs,hx,hp,np,by rw[ar (fun z=>np (.inr z))];exact hh,rr.keep (kD H5 _)⟩
     ·by_cases hpd:p=D
      ·subst hpd;exact⟨_,aD⟩
      ·obtain⟨o,g⟩:=s5.dm p hp;exact⟨o,by rw[ar hpd];exact g⟩
    ·intro p o np hp
     exact((ex.trans (e4.trans e5)) p o np hp).to fun u e=>.of (by rw[ar (hne p o hp)];exact e)
    ·exact it5.keep (kD H5 _) (.inr fun p xs np hp=>by rw[ar (fun z=>np (.inr z))];exact hp) fun p z=>by cases z
    ·refine M.wp_mono w5 fun t k' hk=>?_
     have hk':R (zs++z::t) k':=hk
     simpa using hk'
   |false=>
    exact⟨l.length - (i+1),by lia,rfl,hlt,ys,zs,ρ2,n4,by lia,D4,rz.ext (.inl s.B) e4,s2.ext e4 ok4,ex.trans e4,it4,w4⟩
  ·have e:i=l.length:=by lia
   subst e
   refine .inl ⟨it'.stop,?_⟩
   rw[List.drop_length] at w'
   have w2:R (zs++[]) n':=w'
   rw[List.append_nil] at w2
   exact q zs D ys H' n' (e1.trans ex) s'.ok.1 (fo e1 ok1 hD) hDy rz w2
theorem fu {js:List (Option Nat)} {mi:ah→M (List PV)} {bd:PV→ah→M ah} {tt:ah→M Bool} {te:ah→M PV} (h:BE X e (tLC js (tiP φ X.K false mi) (tgP φ bd) (ttP φ tt) (teP φ te))):EF φ X e (bb js mi bd tt te):=BE.mono h uC
end
end
section
variable {φ:Fam}
inductive Fl where
 |nx (ρ:ah)|rt (y:PV)|bk (ρ:ah)|ct (ρ:ah)
noncomputable def Ent.isOwn:Ent→Bool
 | .own _=>true
 | .ownD _=>true
 |_=>false
noncomputable def Ent.freeze:Ent→Ent
 | .own l=>.val (.lst l)
 | .ownD l=>.val (.dct l)
 |e=>e
noncomputable def cT (ρ:ah) (σ:St) (i:Nat) (p:Addr):Prop:= ∃ t,ρ[i]?=some t∧t.isOwn=true∧σ[i]?=some (some (.ref p))
set_option genInjectivity false in
structure SI (G:Bg φ) (O0:Addr→Prop) (H0:Hp) (O:Addr→Prop) (H:Hp) (σ:St) (ρ:ah) (n:Nat):Prop where
 es:ES G O H σ ρ n
 p0: ∀ p,G.priv p→O0 p
 sub: ∀ p,O0 p→O p
 ext:Ext G.B H0 H
 gr: ∀ p,O p→O0 p∨H0 p=none
 d0: ∀ p,O0 p→∃ o,H0 p=some o
 fr: ∀ i p,cT ρ σ i p→H0 p=none
 dj: ∀ i j p,cT ρ σ i p→cT ρ σ j p→i=j
section
variable {G:Bg φ} {O0 O:Addr→Prop} {H0 H H':Hp} {σ:St} {ρ:ah} {n n':Nat}
theorem SI.to (s:SI G O0 H0 O H σ ρ n) (x:Ext G.B H H') (ok:G.ok H' n'):SI G O0 H0 O H' σ ρ n':=⟨s.es.ext x ok,s.p0,s.sub,s.ext.trans x,s.gr,s.d0,s.fr,s.dj⟩
theorem jV {t:Ent} (ht:t.isOwn=false) {k:Nat} {o:Option V} {i:Nat} {p:Addr} (h:cT (ρ.set k t) (σ.set k o) i p):cT ρ σ i p:=by
 obtain⟨e,h1,h2,h3⟩:=h
 by_cases hk:k=i
 ·subst hk
  rw[List.getElem?_set] at h1
  split at h1
  ·split at h1
   ·cases h1;rw[ht] at h2;cases h2
   ·cases h1
  ·exact⟨e,h1,h2,by rw[List.getElem?_set_ne (by first|decide|lia)] at h3;exact h3⟩
 ·rw[List.getElem?_set_ne hk] at h1 h3
  exact⟨e,h1,h2,h3⟩
theorem SI.setV (s:SI G O0 H0 O H σ ρ n) (k:Nat) {y:PV} {x:V} (r:Rep G.B O H y x):SI G O0 H0 O H (σ.set k (some x)) (ρ.set k (.val y)) n:=
 ⟨s.es.set k (t:=.val y) ⟨x,rfl,r⟩,s.p0,s.sub,s.ext,s.gr,s.d0,fun i p h=>s.fr i p (jV rfl h),fun i j p h h'=>s.dj i j p (jV rfl h) (jV rfl h')⟩
theorem dR (s:ES G O H σ ρ n) {i:Nat} {p:Addr} (h:cT ρ σ i p):O p∧¬ G.priv p∧∃ o,H p=some o:=by
 obtain⟨t,h1,h2,h3⟩:=h
 have r:=s.er.2 i t h1
 rw[h3] at r
 cases t with
 |own l=>obtain⟨q,xs,e,a,b,c,_⟩:=r;cases e;exact⟨a,b,_,c⟩
 |ownD l=>obtain⟨q,xs,e,a,b,c,_⟩:=r;cases e;exact⟨a,b,_,c⟩
 |_=>cases h2
theorem my (s:ES G O H σ ρ n) {i:Nat} {p:Addr} {o:HO} (h:cT ρ σ i p) (e:H p=some o): ¬ ug o:=by
 obtain⟨t,h1,h2,h3⟩:=h
 have r:=s.er.2 i t h1
 rw[h3] at r
 cases t with
 |own l=>obtain⟨q,xs,e',a,b,c,_⟩:=r;cases e';rw[c] at e;cases e;exact id
 |ownD l=>obtain⟨q,xs,e',a,b,c,_⟩:=r;cases e';rw[c] at e;cases e;exact id
 |_=>cases h2
theorem SI.setO (s:SI G O0 H0 O H σ ρ n) (k:Nat) {l:List PV} {p:Addr} {xs:List V} (x:Ext G.B H H') (ok:G.ok H' n') (hp:H p=none) (hp':H' p=some (.lst xs)) (r:Reps G.B (fun q=>O q∨q=p) H' l xs):
  SI G O0 H0 (fun q=>O q∨q=p) H' (σ.set k (some (.ref p))) (ρ.set k (.own l)) n':=by
 have nO: ¬ O p:=fun z=>by obtain⟨o,g⟩:=s.es.dm p z;rw[hp] at g;cases g
 have np: ¬ G.priv p:=fun z=>nO (s.es.pr p z)
 have h0:H0 p=none:=by
  cases e:H0 p with
  |none=>rfl
  |some o=>obtain⟨_,this⟩:=(s.ext p o (fun z=>np (z▸G.pB)) e).there;rw[hp] at this;cases this
 have hB:O G.B:=s.es.B
 have gw: ∀ q,(O q∨q=p)→O q∨H q=none:=fun q z=>by
  rcases z with z|z
  ·exact .inl z
  ·subst z;exact .inr hp
 have s':=s.es.ext x ok
 have es:ES G (fun q=>O q∨q=p) H' σ ρ n':=by
  refine⟨⟨s.es.er.1,fun i e he=>?_⟩,ok,fun q z=>.inl (s.es.pr q z),fun q z=>?_⟩
  ·have r1:=s.es.er.2 i e he
   cases e with
   |un=>trivial
   |val y=>obtain⟨v,hv,rr⟩:=r1;exact⟨v,hv,(rr.grow gw).ext (.inl hB) x⟩
   |own t=>
    obtain⟨q,ys,hv,hq,nq,hh,rr⟩:=r1
    exact⟨q,ys,hv,.inl hq,nq,x q _ (fun z=>nq (z▸G.pB)) hh,(rr.grow gw).ext (.inl hB) x⟩
   |ownD t=>
    obtain⟨q,ys,hv,hq,nq,hh,rr⟩:=r1
    exact⟨q,ys,hv,.inl hq,nq,x q _ (fun z=>nq (z▸G.pB)) hh,⟨rr.1,fun i a b c d=>((rr.2 i a b c d).grow gw).ext (.inl hB) x⟩⟩
  ·rcases z with z|z
   ·exact s'.dm q z
   ·subst z;exact⟨_,hp'⟩
 have ow: ∀ i q,cT (ρ.set k (.own l)) (σ.set k (some (.ref p))) i q→(i=k∧q=p)∨(i≠k∧cT ρ σ i q):=fun i q h=>by
  obtain⟨t,h1,h2,h3⟩:=h
  by_cases hk:k=i
  ·subst hk
   rw[List.getElem?_set] at h3
   split at h3
   ·split at h3
    ·cases h3;exact .inl ⟨rfl,rfl⟩
    ·cases h3
   ·rename_i hh;exact absurd rfl hh
  ·rw[List.getElem?_set_ne hk] at h1 h3
   exact .inr ⟨fun z=>hk z.symm,t,h1,h2,h3⟩
 refine⟨es.set k (t:=.own l) ⟨p,xs,rfl,.inr rfl,np,hp',r⟩,s.p0,fun q z=>.inl (s.sub q z),s.ext.trans x,fun q z=>?_,s.d0,fun i q h=>?_,fun i j q h h'=>?_⟩
 ·rcases z with z|z
  ·exact s.gr q z
  ·subst z;exact .inr h0
 ·rcases ow i q h with⟨_,rfl⟩|⟨_,h⟩
  ·exact h0
  ·exact s.fr i q h
 ·rcases ow i q h with⟨rfl,rfl⟩|⟨n1,h1⟩
  ·rcases ow j q h' with⟨rfl,_⟩|⟨n2,h2⟩
   ·rfl
   ·obtain⟨_,_,o,g⟩:=dR s.es h2;rw[hp] at g;cases g
  ·rcases ow j q h' with⟨rfl,rfl⟩|⟨n2,h2⟩
   ·obtain⟨_,_,o,g⟩:=dR s.es h1;rw[hp] at g;cases g
   ·exact s.dj i j q h1 h2
theorem SI.put (s:SI G O0 H0 O H σ ρ n) {k:Nat} {l l':List PV} {p:Addr} {xs':List V} (hk:ρ[k]?=some (.own l)) (hp:σ[k]?=some (some (.ref p))) (r:Reps G.B O H l' xs'):SI G O0 H0 O (upd H p (.lst xs')) σ (ρ.set k (.own l')) n:=by
 have ho:cT ρ σ k p:=⟨_,hk,rfl,hp⟩
 obtain⟨hO,np,o,hh⟩:=dR s.es ho
 have nfz:=my s.es ho hh
 have kp: ∀ q u,¬ O q→H q=some u→upd H p (.lst xs') q=some u∧¬ O q:=fun q u nq hq=>⟨by
  have hne:q≠p:=fun z=>nq (z▸hO)
  rw[ar hne];exact hq,nq⟩
 have ow: ∀ i q,cT (ρ.set k (.own l')) σ i q→cT ρ σ i q:=fun i q h=>by
  obtain⟨t,h1,h2,h3⟩:=h
  by_cases e:k=i
  ·subst e;exact⟨_,hk,rfl,h3⟩
  ·rw[List.getElem?_set_ne e] at h1;exact⟨t,h1,h2,h3⟩
 refine⟨⟨⟨by simp[s.es.er.1],fun i e he=>?_⟩,G.keep H _ _ (fun q u hq hu=>by
   have hne:q≠p:=fun z=>by
    rcases hq with hq|hq
    ·exact np (z▸hq)
    ·rw[z,hh] at hu;cases hu;exact nfz hq
   rw[ar hne];exact hu) s.es.ok,s.es.pr,fun q hq=>?_⟩,s.p0,s.sub,fun q u nb hq=>?_,s.gr,s.d0,fun i q h=>s.fr i q (ow i q h),fun i j q h h'=>s.dj i j q (ow i q h) (ow j q h')⟩
 ·by_cases e1:k=i
  ·subst e1
   have hl:k < ρ.length:=(List.getElem?_eq_some_iff.mp hk).1
   rw[List.getElem?_set_self hl] at he
   cases he
   rw[hp]
   exact⟨p,xs',rfl,hO,np,aD,r.keep kp⟩
  ·rw[List.getElem?_set_ne e1] at he
   have r1:=s.es.er.2 i e he
   cases e with
   |un=>trivial
   |val y=>obtain⟨v,hv,rr⟩:=r1;exact⟨v,hv,rr.keep kp⟩
   |own t=>
    obtain⟨q,ys,hv,hq,nq,hh',rr⟩:=r1
    have hne:q≠p:=fun z=>by
     subst z
     exact e1 (s.dj k i q ho ⟨_,he,rfl,df s.es.er he hv⟩)
    exact⟨q,ys,hv,hq,nq,by rw[ar hne];exact hh',rr.keep kp⟩
   |ownD t=>
    obtain⟨q,ys,hv,hq,nq,hh',rr⟩:=r1
    have hne:q≠p:=fun z=>by
     subst z
     exact e1 (s.dj k i q ho ⟨_,he,rfl,df s.es.er he hv⟩)
    exact⟨q,ys,hv,hq,nq,by rw[ar hne];exact hh',rr.keep kp⟩
 ·by_cases e1:q=p
  ·subst e1;exact⟨_,aD⟩
  ·obtain⟨u,g⟩:=s.es.dm q hq;exact⟨u,by rw[ar e1];exact g⟩
 ·have hne:q≠p:=fun z=>by subst z;rw[s.fr k q ho] at hq;cases hq
  exact(s.ext q u nb hq).to fun v e=>.of (by rw[ar hne];exact e)
theorem SI.frozen (s:SI G O0 H0 O H σ ρ n):ES G O0 H σ (ρ.map Ent.freeze) n:=by
 refine⟨⟨by simp[s.es.er.1],fun i e he=>?_⟩,s.es.ok,s.p0,fun p h=>s.es.dm p (s.sub p h)⟩
 rw[List.getElem?_map] at he
 cases q:ρ[i]? with
 |none=>rw[q] at he;cases he
 |some t=>
  rw[q] at he
  cases he
  have r1:=s.es.er.2 i t q
  cases t with
  |un=>trivial
  |val y=>obtain⟨v,hv,rr⟩:=r1;exact⟨v,hv,rr.less s.sub⟩
  |own t=>
   obtain⟨p,ys,hv,hq,nq,hh',rr⟩:=r1
   have h0:=s.fr i p ⟨_,q,rfl,df s.es.er q hv⟩
   exact⟨_,hv,.lst (fun z=>by obtain⟨o,g⟩:=s.d0 p z;rw[h0] at g;cases g) hh' rr.1 (rr.less s.sub).2⟩
  |ownD t=>
   obtain⟨p,ys,hv,hq,nq,hh',rr⟩:=r1
   have h0:=s.fr i p ⟨_,q,rfl,df s.es.er q hv⟩
   exact⟨_,hv,.dct (fun z=>by obtain⟨o,g⟩:=s.d0 p z;rw[h0] at g;cases g) (.inl hh') rr.1 fun i a b c d=>(rr.2 i a b c d).less s.sub⟩
theorem SI.frz (s:SI G O0 H0 O H σ ρ n):SI G O0 H0 O0 H σ (ρ.map Ent.freeze) n:=by
 have no: ∀ i p,¬ cT (ρ.map Ent.freeze) σ i p:=fun i p h=>by
  obtain⟨t,h1,h2,_⟩:=h
  rw[List.getElem?_map] at h1
  cases q:ρ[i]? with
  |none=>rw[q] at h1;cases h1
  |some e=>rw[q] at h1;cases h1;cases e<;>cases h2
 exact⟨s.frozen,s.p0,fun p h=>h,s.ext,fun p h=>.inl h,s.d0,fun i p h=>(no i p h).elim,fun i j p h=>(no i p h).elim⟩
noncomputable def hide (O0 O:Addr→Prop) (H:Hp):Hp:=fun p=>by
 classical exact if O p∧¬ O0 p then none else H p
theorem ke {p:Addr} (h:O p) (h': ¬ O0 p):hide O0 O H p=none:=by unfold hide;rw[if_pos ⟨h,h'⟩]
theorem eo {p:Addr} (h: ¬ (O p∧¬ O0 p)):hide O0 O H p=H p:=by unfold hide;rw[if_neg h]
theorem SI.now (s:SI G O0 H0 O H σ ρ n):SI G O0 (hide O0 O H) O H σ ρ n:=by
 refine⟨s.es,s.p0,s.sub,fun p o nb h=>?_,fun p h=>?_,fun p h=>?_,fun i p h=>?_,s.dj⟩
 ·by_cases c:O p∧¬ O0 p
  ·rw[ke c.1 c.2] at h;cases h
  ·rw[eo c] at h;exact .of h
 ·by_cases c:O0 p
  ·exact .inl c
  ·exact .inr (ke h c)
 ·rw[eo (fun z=>z.2 h)];exact s.es.dm p (s.sub p h)
 ·have h1:=dR s.es h
  have h0:=s.fr i p h
  exact ke h1.1 (fun z=>by obtain⟨o,g⟩:=s.d0 p z;rw[h0] at g;cases g)
theorem SI.base (s:SI G O0 H0 O H σ ρ n):Ext G.B H0 (hide O0 O H):=fun p o nb h=>by
 have c: ¬ (O p∧¬ O0 p):=fun z=>by
  rcases s.gr p z.1 with w|w
  ·exact z.2 w
  ·rw[w] at h;cases h
 exact(s.ext p o nb h).to fun v e=>.of (by rw[eo c];exact e)
theorem SI.back {H1:Hp} {O':Addr→Prop} {σ':St} {ρ':ah} (s:SI G O0 H0 O H σ ρ n) (x:SI G O0 (hide O0 O H) O' H1 σ' ρ' n'):SI G O0 H0 O' H1 σ' ρ' n':=by
 have none0: ∀ p,¬ G.priv p→hide O0 O H p=none→H0 p=none:=fun p np h=>by
  cases e:H0 p with
  |none=>rfl
  |some o=>obtain⟨_,this⟩:=(s.base p o (fun z=>np (z▸G.pB)) e).there;rw[h] at this;cases this
 refine⟨x.es,x.p0,x.sub,s.base.trans x.ext,fun p h=>?_,s.d0,fun i p h=>none0 p (dR x.es h).2.1 (x.fr i p h),x.dj⟩
 by_cases c:O0 p
 ·exact .inl c
 ·rcases x.gr p h with w|w
  ·exact .inl w
  ·exact .inr (none0 p (fun z=>c (s.p0 p z)) w)
theorem SI.walk {K:PySem.W.Frag} {H1:Hp} {O':Addr→Prop} {σ':St} {ρ':ah} {l:List PV} {J:It} (s:SI G O0 H0 O H σ ρ n) (x:SI G O0 (hide O0 O H) O' H1 σ' ρ' n') (it:ItOf K G O true H l J):ItOf K G O' true H1 l J:=by
 have k: ∀ p o,¬ O p→H p=some o→Stand H1 p o∧¬ O' p:=fun p o np hp=>by
  have e:hide O0 O H p=some o:=by rw[eo (fun z=>np z.1)];exact hp
  refine⟨x.ext p o (fun z=>np (z▸s.es.B)) e,fun z=>?_⟩
  rcases x.gr p z with w|w
  ·exact np (s.sub p w)
  ·rw[w] at e;cases e
 cases it with
 |lst np hp h r=>exact .lst np (fun _=>(k _ _ (hp rfl) h).2) (k _ _ (hp rfl) h).1 (r.keepS k)
 |tup hp h r=>exact .tup (k _ _ hp h).2 (k _ _ hp h).1 (r.keepS k)
 |txt z=>exact .txt z
 |rng lo n=>exact .rng lo n
end
noncomputable def fN (G:Bg φ) (O0:Addr→Prop) (H0:Hp) (D:Ends) (n:Nat):Fl→Prop
 | .nx ρ=> ∀ O σ H,SI G O0 H0 O H σ ρ n→D.nx σ H
 | .bk ρ=> ∀ O σ H,SI G O0 H0 O H σ ρ n→D.bk σ H
 | .ct ρ=> ∀ O σ H,SI G O0 H0 O H σ ρ n→D.ct σ H
 | .rt y=> ∀ x H,Ext G.B H0 H→G.ok H n→Rep G.B O0 H y x→D.rt x H
noncomputable def tsP (φ:Fam) (m:ah→M Fl):TS:=fun D σ H=> ∃ (G:Bg φ) (O0:Addr→Prop) (H0:Hp) (O:Addr→Prop) (ρ:ah) (n:Nat),SI G O0 H0 O H σ ρ n∧(m ρ).wp n fun f n'=>fN G O0 H0 D n' f
noncomputable def SV (φ:Fam) (X:Cx) (st:Stmt) (m:ah→M Fl):Prop:=BS X st (tsP φ m)
noncomputable def SsV (φ:Fam) (X:Cx) (sts:List Stmt) (m:ah→M Fl):Prop:=BSs X sts (tsP φ m)
section
variable {X:Cx} {st:Stmt} {sts:List Stmt}
theorem BS.mono {t t':TS} (h:BS X st t) (f: ∀ D σ H,t' D σ H→t D σ H):BS X st t':=⟨fun pins s σ H D I q=>h.out pins s σ H D I (f D σ H q)⟩
theorem BSs.mono {t t':TS} (h:BSs X sts t) (f: ∀ D σ H,t' D σ H→t D σ H):BSs X sts t':=⟨fun pins s σ H D I q=>h.out pins s σ H D I (f D σ H q)⟩
noncomputable def av (m1 m2:ah→M Fl):ah→M Fl:=fun ρ=>(m1 ρ).bind fun f=>match f with| .nx ρ'=>m2 ρ'|o=>.ret o
theorem bU:SsV φ X [] (fun ρ=>.ret (.nx ρ)):=BSs.mono ⟨jT⟩ fun D σ H ⟨G,O0,H0,O,ρ,n,s,w⟩=>w O σ H s
theorem aF {m:ah→M Fl} (h:SV φ X st m):SsV φ X [st] m:=⟨eU h.out⟩
theorem aw {m1 m2:ah→M Fl} (h:SV φ X st m1) (h':SsV φ X sts m2):SsV φ X (st::sts) (av m1 m2):=BSs.mono ⟨cM h.out h'.out⟩ fun D σ H hq0=>by
 obtain⟨G,O0,H0,O,ρ,n,s,w⟩:=hq0
 unfold av at w
 rw[M.wp_bind] at w
 refine⟨G,O0,H0,O,ρ,n,s,M.wp_mono w fun f n' h=>?_⟩
 cases f with
 |nx ρ'=>exact fun O' σ' H' s'=>⟨G,O0,H0,O',ρ',n',s',h⟩
 |rt y=>exact h
 |bk ρ'=>exact h
 |ct ρ'=>exact h
noncomputable def aA (k:Nat) (m:ah→M PV):ah→M Fl:=fun ρ=>(m ρ).bind fun y=>.ret (.nx (ρ.set k (.val y)))
theorem aK {k:Nat} {m:ah→M PV} (h:BS X st (dD (teP φ m) (cP k))):SV φ X st (aA k m):=BS.mono h fun D σ H hq0=>by
 obtain⟨G,O0,H0,O,ρ,n,s,w⟩:=hq0
 unfold aA at w
 rw[M.wp_bind] at w
 exact⟨G,O,ρ,n,_,s.es,w,fun y x H1 n1 e1 ok1 r1 w1=>w1 O _ _ ((s.to e1 ok1).setV k r1)⟩
noncomputable def de (k:Nat) (m:ah→M (List PV)):ah→M Fl:=fun ρ=>(m ρ).bind fun l=>.ret (.nx (ρ.set k (.own l)))
theorem fc {k:Nat} {m:ah→M (List PV)} (h:BS X st (dD (teF φ m) (cP k))):SV φ X st (de k m):=BS.mono h fun D σ H hq0=>by
 obtain⟨G,O0,H0,O,ρ,n,s,w⟩:=hq0
 unfold de at w
 rw[M.wp_bind] at w
 exact⟨G,O,ρ,n,_,s.es,w,fun l p xs H1 n1 e1 ok1 hp hp' r1 w1=>w1 _ _ _ (s.setO k e1 ok1 hp hp' r1)⟩
theorem fM {k:Nat} {js:List (Option Nat)} {mi:ah→M (List PV)} {bd:PV→ah→M ah} {tt:ah→M Bool} {te:ah→M PV} (h:BS X st (dD (tLC js (tiP φ X.K false mi) (tgP φ bd) (ttP φ tt) (teP φ te)) (cP k))):BS X st (dD (teF φ (bb js mi bd tt te)) (cP k)):=
 BS.mono h fun D σ H q=>uC σ H _ q
noncomputable def aH (m:ah→M (List PV)):ah→M PV:=fun ρ=>(m ρ).bind fun l=>.ret (.lst l)
theorem gR {k:Nat} {m:ah→M (List PV)} (h:BS X st (dD (teF φ m) (cP k))):BS X st (dD (teP φ (aH m)) (cP k)):=BS.mono h fun D σ H hq0=>by
 obtain⟨G,O,ρ,n,R,s,w,q⟩:=hq0
 unfold aH at w
 rw[M.wp_bind] at w
 refine⟨G,O,ρ,n,_,s,w,fun l p xs H' n' a b c d e f=>q (.lst l) _ H' n' a b (.lst (fun z=>?_) d e.1 (e.less fun q z=>.inl z).2) f⟩
 obtain⟨o,g⟩:=s.dm p z
 rw[c] at g;cases g
noncomputable def r9 (ks:List Nat) (m:ah→M PV):ah→M Fl:=fun ρ=>(m ρ).bind fun y=>(cR ks y ρ).bind fun ρ'=>.ret (.nx ρ')
theorem kM {G:Bg φ} {O0 O:Addr→Prop} {H0 H:Hp} {n:Nat}: ∀ (ks:List Nat) (l:List PV) (xs:List V) (σ:St) (ρ:ah) (Q:St→Hp→Prop),l.length=ks.length→Reps G.B O H l xs→SI G O0 H0 O H σ ρ n→(∀ σ',SI G O0 H0 O H σ' (jJ ks l ρ) n→Q σ' H)→fI ks xs σ H Q
 |[],l,xs,σ,ρ,Q,hl,r,s,q=>by
  have e:l=[]:=List.eq_nil_of_length_eq_zero hl
  subst e
  rw[r.nil_inv]
  exact⟨rfl,q σ s⟩
 |k::ks,l,xs,σ,ρ,Q,hl,r,s,q=>by
  cases l with
  |nil=>simp at hl
  |cons y l=>
   obtain⟨x,t,rfl,r1,r2⟩:=r.cons_inv
   exact⟨x,t,rfl,kM ks l t _ _ Q (by simpa using hl) r2 (s.setV k r1) q⟩
theorem qx {K:PySem.W.Frag} {G:Bg φ} {O0 O:Addr→Prop} {H0 H:Hp} {n:Nat} {ks:List Nat} {y:PV} {x:V} {σ:St} {ρ:ah} {R:ah→Nat→Prop} {Q:St→Hp→Prop} (s:SI G O0 H0 O H σ ρ n) (r:Rep G.B O H y x) (w:(cR ks y ρ).wp n R) (q: ∀ σ' ρ',SI G O0 H0 O H σ' ρ' n→R ρ' n→Q σ' H):kh K ks.length (fI ks) x σ H Q:=by
 unfold cR at w
 cases r with
 | @tup p xs l a b c d=>
  dsimp only at w
  by_cases hc:l.length=ks.length
  ·rw[if_pos hc] at w
   exact⟨p,xs,rfl,SqT.of b,by rw[←c];exact hc,kM ks l xs σ ρ Q hc ⟨c,d⟩ s fun σ' s'=>q σ' _ s' w⟩
  ·rw[if_neg hc] at w;exact w.elim
 |_=>exact w.elim
theorem v9 {ks:List Nat} {m:ah→M PV} (h:BS X st (dD (teP φ m) (kh X.K ks.length (fI ks)))):SV φ X st (r9 ks m):=BS.mono h fun D σ H hq0=>by
 obtain⟨G,O0,H0,O,ρ,n,s,w⟩:=hq0
 unfold r9 at w
 rw[M.wp_bind] at w
 refine⟨G,O,ρ,n,_,s.es,w,fun y x H1 n1 e1 ok1 r1 w1=>?_⟩
 rw[M.wp_bind] at w1
 exact qx (s.to e1 ok1) r1 w1 fun σ' ρ' s' h=>h O σ' H1 s'
noncomputable def jU (i j:Nat) (m:ah→M (List PV)):ah→M Fl:=fun ρ=>(m ρ).bind fun l=>match l with|[y,z]=>.ret (.nx ((ρ.set i (.val y)).set j (.val z)))|_=>.fail
theorem qB {i j:Nat} {m:ah→M (List PV)} (h:BS X st (sk i j (taP φ m))):SV φ X st (jU i j m):=BS.mono h fun D σ H hq0=>by
 obtain⟨G,O0,H0,O,ρ,n,s,w⟩:=hq0
 unfold jU at w
 rw[M.wp_bind] at w
 refine⟨G,O,ρ,n,_,s.es,w,fun l xs H1 n1 e1 ok1 r1 w1=>?_⟩
 match l,r1,w1 with
 |[y,z],r1,w1=>
  obtain⟨x,t,rfl,h1,h2⟩:=r1.cons_inv
  obtain⟨x',t',rfl,h3,h4⟩:=h2.cons_inv
  rw[h4.nil_inv]
  exact⟨x,x',rfl,w1 O _ _ (((s.to e1 ok1).setV i h1).setV j h3)⟩
noncomputable def a7 (m:ah→M PV):ah→M Fl:=fun ρ=>(m (ρ.map Ent.freeze)).bind fun y=>.ret (.rt y)
theorem aP {m:ah→M PV} (h:BS X st (sj (teP φ m))):SV φ X st (a7 m):=BS.mono h fun D σ H hq0=>by
 obtain⟨G,O0,H0,O,ρ,n,s,w⟩:=hq0
 unfold a7 at w
 rw[M.wp_bind] at w
 exact⟨G,O0,_,n,_,s.frozen,w,fun y x H1 n1 e1 ok1 r1 w1=>w1 x H1 (s.ext.trans e1) ok1 r1⟩
noncomputable def ifP (mc:ah→M Bool) (ma mb:ah→M Fl):ah→M Fl:=fun ρ=>(mc ρ).bind fun b=>if b=true then ma ρ else mb ρ
theorem cy {mc:ah→M Bool} {ma mb:ah→M Fl} (h:BS X st (sr (ttP φ mc) (tsP φ ma) (tsP φ mb))):SV φ X st (ifP mc ma mb):=BS.mono h fun D σ H hq0=>by
 obtain⟨G,O0,H0,O,ρ,n,s,w⟩:=hq0
 unfold ifP at w
 rw[M.wp_bind] at w
 refine⟨G,O,ρ,n,_,s.es,w,fun b H1 n1 e1 ok1 w1=>?_⟩
 cases b with
 |true=>exact⟨G,O0,H0,O,ρ,n1,s.to e1 ok1,w1⟩
 |false=>exact⟨G,O0,H0,O,ρ,n1,s.to e1 ok1,w1⟩
noncomputable def cS (k:Nat) (m:ah→M PV):ah→M Fl:=fun ρ=>match ρ[k]? with|some (.own l)=>(m ρ).bind fun y=>if l.length < 100000 then .ret (.nx (ρ.set k (.own (l++[y])))) else .fail|_=>.fail
theorem fe {k:Nat} {m:ah→M PV} (h:BS X st (pG (tBM X.K "list" oJ (fB k) (gz (teP φ m) lN)))):SV φ X st (cS k m):=BS.mono h fun D σ H hq0=>by
 obtain⟨G,O0,H0,O,ρ,n,s,w⟩:=hq0
 unfold cS at w
 cases hk:ρ[k]? with
 |none=>simp only[hk] at w;exact w.elim
 |some t=>
  cases t with
  |own l=>
   simp only[hk] at w
   obtain⟨p,xs,hx,hO,np,hh,rr⟩:=s.es.er.2 k _ hk
   have hs:=df s.es.er hk hx
   have npB:p≠G.B:=fun z=>np (z▸G.pB)
   rw[M.wp_bind] at w
   refine⟨_,hs,.inl ⟨rfl,xs,SqL.of hh⟩,G,O,ρ,n,_,s.es,w,fun y x H1 n1 e1 ok1 r1 w1=>?_⟩
   by_cases hc:l.length < 100000
   ·rw[if_pos hc] at w1
    have s1:=s.to e1 ok1
    have big:=dz
    refine⟨p,xs,x,rfl,rfl,e1 p _ npB hh,by rw[←rr.1];lia,w1 O _ _ (s1.put hk hs ((rr.ext s.es.B e1).append (.cons r1 .nil)))⟩
   ·rw[if_neg hc] at w1;exact w1.elim
  |_=>simp only[hk] at w;exact w.elim
noncomputable def jo (k:Nat) (mi mv:ah→M PV):ah→M Fl:=fun ρ=>(mv ρ).bind fun y=>match ρ[k]? with|some (.own l)=>(mi ρ).bind fun i=>(h8 i).bind fun i=>(M.ofO (ixN l.length i)).bind fun j=>.ret (.nx (ρ.set k (.own (l.set j y))))|_=>.fail
theorem uO {k:Nat} {mi mv:ah→M PV} (h:BS X st (dD (teP φ mv) (qe (fB k) (teB φ mi) ur))):SV φ X st (jo k mi mv):=BS.mono h fun D σ H hq0=>by
 obtain⟨G,O0,H0,O,ρ,n,s,w⟩:=hq0
 unfold jo at w
 rw[M.wp_bind] at w
 refine⟨G,O,ρ,n,_,s.es,w,fun y x H1 n1 e1 ok1 r1 w1=>?_⟩
 have s1:=s.to e1 ok1
 cases hk:ρ[k]? with
 |none=>simp only[hk] at w1;exact w1.elim
 |some t=>
  cases t with
  |own l=>
   simp only[hk] at w1
   obtain⟨p,xs,hx,hO,np,hh,rr⟩:=s1.es.er.2 k _ hk
   have hs:=df s.es.er hk hx
   have npB:p≠G.B:=fun z=>np (z▸G.pB)
   rw[M.wp_bind] at w1
   refine⟨_,hs,G,O,ρ,n1,_,s1.es,w1,fun i x2 H2 n2 e2 ok2 r2 w2=>?_⟩
   cases i<;>first|exact w2.elim|skip
   rename_i i
   rw[r2.int_i]
   replace w2:((M.ofO (ixN l.length i)).bind fun j=>M.ret (.nx (ρ.set k (.own (l.set j y)))):M Fl).wp n2 (fun f n'=>fN G O0 H0 D n' f):=w2
   cases hj:ixN l.length i with
   |none=>rw[hj] at w2;exact w2.elim
   |some j=>
    rw[hj] at w2
    have s2:=s1.to e2 ok2
    exact⟨p,xs,i,j,rfl,rfl,e2 p _ npB hh,by rw[←rr.1];exact hj,w2 O _ _ (s2.put hk hs ((rr.ext s.es.B e2).set j (r1.ext s.es.B e2)))⟩
  |_=>simp only[hk] at w1;exact w1.elim
noncomputable def mU (m:ah→M Fl):ah→M Fl:=fun ρ=>m (ρ.map Ent.freeze)
theorem qC {m:ah→M Fl} (h:SV φ X st m):SV φ X st (mU m):=BS.mono h fun D σ H ⟨G,O0,H0,O,ρ,n,s,w⟩=>⟨G,O0,H0,O0,_,n,s.frz,w⟩
noncomputable def tgS (φ:Fam) (b:PV→ah→M ah):TG:=fun v σ H Q=> ∃ (G:Bg φ) (O0:Addr→Prop) (H0:Hp) (O:Addr→Prop) (ρ:ah) (n:Nat) (R:ah→Nat→Prop) (y:PV),SI G O0 H0 O H σ ρ n∧Rep G.B O H y v∧(b y ρ).wp n R∧
 ∀ (σ':St) (ρ':ah) (n':Nat),SI G O0 H0 O H σ' ρ' n'→R ρ' n'→Q σ' H
noncomputable def GS (φ:Fam) (X:Cx) (tg:Expr) (b:PV→ah→M ah):Prop:=BG X tg (tgS φ b)
theorem dB {tg:Expr} {k:Nat} (h:BG X tg (cP k)):GS φ X tg (aN k):=BG.mono h fun v σ H Q ⟨G,O0,H0,O,ρ,n,R,y,s,r,w,q⟩=>q _ _ n (s.setV k r) w
theorem rG {tg:Expr} {ks:List Nat} (h:BG X tg (kh X.K ks.length (fI ks))):GS φ X tg (cR ks):=BG.mono h fun v σ H Q ⟨G,O0,H0,O,ρ,n,R,y,s,r,w,q⟩=>qx s r w fun σ' ρ' s' h=>q σ' ρ' n s' h
noncomputable def bC (bd:PV→ah→M ah) (mb:ah→M Fl):List PV→ah→M Fl
 |[],ρ=>.ret (.nx ρ)
 |y::r,ρ=>(bd y ρ).bind fun ρ1=>(mb ρ1).bind fun f=>match f with
  | .nx ρ2=>bC bd mb r ρ2
  | .ct ρ2=>bC bd mb r ρ2
  | .bk ρ2=>.ret (.nx ρ2)
  | .rt v=>.ret (.rt v)
noncomputable def bg (mi:ah→M (List PV)) (bd:PV→ah→M ah) (mb:ah→M Fl):ah→M Fl:=fun ρ=>(mi ρ).bind fun l=>bC bd mb l ρ
theorem d5 {mi:ah→M (List PV)} {bd:PV→ah→M ah} {mb:ah→M Fl} (h:BS X st (jQ (tiP φ X.K true mi) (tgS φ bd) (tsP φ mb))):SV φ X st (bg mi bd mb):=BS.mono h fun D σ H hq0=>by
 obtain⟨G,O0,H0,O,ρ,n,s,w⟩:=hq0
 unfold bg at w
 rw[M.wp_bind] at w
 refine⟨G,O,ρ,n,_,s.es,w,fun l J H1 n1 e1 ok1 it w1=>?_⟩
 have s1:=s.to e1 ok1
 refine⟨fun i m σ' H'=>m=l.length - i∧i≤l.length∧∃ (O':Addr→Prop) (ρ':ah) (n':Nat),SI G O0 (hide O0 O H1) O' H' σ' ρ' n'∧(bC bd mb (l.drop i) ρ').wp n' (fun f n'=>fN G O0 H0 D n' f),
  ⟨l.length,by simp,Nat.zero_le _,O,ρ,n1,s1.now,by simpa using w1⟩,?_⟩
 rintro i m σ' H' ⟨rfl,hi,O',ρ',n',s',w'⟩
 have it':=s1.walk s' it
 by_cases hlt:i < l.length
 ·have hget:l[i]?=some l[i]:=List.getElem?_eq_getElem hlt
  have hdrop:l.drop i=l[i]::l.drop (i+1):=List.drop_eq_getElem_cons hlt
  rw[hdrop] at w'
  unfold bC at w'
  obtain⟨g1,g2⟩:=it'.go hget
  refine .inr ⟨g1,fun σ2 H2=> ∃ (O':Addr→Prop) (ρ':ah) (n':Nat),SI G O0 (hide O0 O H1) O' H2 σ2 ρ' n'∧(bC bd mb (l.drop (i+1)) ρ').wp n' (fun f n'=>fN G O0 H0 D n' f),fun σ2 H2 hh=>⟨l.length - (i+1),by lia,rfl,hlt,hh⟩,fun x H2 yl=>?_⟩
  obtain⟨eH,rx⟩:=g2 x H2 yl
  subst eH
  rw[M.wp_bind] at w'
  refine⟨G,O0,_,O',ρ',n',_,l[i],s',rx,w',fun σ2 ρ2 n2 s2 w2=>?_⟩
  rw[M.wp_bind] at w2
  refine⟨G,O0,_,O',ρ2,n2,s2,M.wp_mono w2 fun f n3 w3=>?_⟩
  cases f with
  |nx ρ3=>exact fun O3 σ3 H3 s3=>⟨O3,ρ3,n3,s3,w3⟩
  |ct ρ3=>exact fun O3 σ3 H3 s3=>⟨O3,ρ3,n3,s3,w3⟩
  |bk ρ3=>exact fun O3 σ3 H3 s3=>w3 O3 σ3 H3 (s1.back s3)
  |rt y=>exact fun x3 H3 e3 ok3 r3=>w3 x3 H3 (s1.base.trans e3) ok3 r3
 ·have e:i=l.length:=by lia
  subst e
  rw[List.drop_length] at w'
  exact .inl ⟨it'.stop,w' O' σ' H' (s1.back s')⟩
noncomputable def whP (mt:ah→M Bool) (mb:ah→M Fl):Nat→ah→M Fl
 |0,_=>.fail
 |k+1,ρ=>(mt ρ).bind fun b=>if b=true then(mb ρ).bind fun f=>(match f with
  | .nx ρ2=>whP mt mb k ρ2
  | .ct ρ2=>whP mt mb k ρ2
  | .bk ρ2=>.ret (.nx ρ2)
  | .rt v=>.ret (.rt v)) else .ret (.nx ρ)
theorem lO {mt:ah→M Bool} {mb:ah→M Fl} (fuel:Nat) (h:BS X st (lL (ttP φ mt) (tsP φ mb))):SV φ X st (whP mt mb fuel):=BS.mono h fun D σ H hq0=>by
 obtain⟨G,O0,H0,O,ρ,n,s,w⟩:=hq0
 refine⟨fun m σ' H'=> ∃ (O':Addr→Prop) (ρ':ah) (n':Nat),SI G O0 H0 O' H' σ' ρ' n'∧(whP mt mb m ρ').wp n' (fun f n'=>fN G O0 H0 D n' f),⟨fuel,O,ρ,n,s,w⟩,?_⟩
 rintro m σ' H' ⟨O',ρ',n',s',w'⟩
 cases m with
 |zero=>exact w'.elim
 |succ k=>
  unfold whP at w'
  rw[M.wp_bind] at w'
  refine⟨G,O',ρ',n',_,s'.es,w',fun b H1 n1 e1 ok1 w1=>?_⟩
  cases b with
  |true=>
   simp only[if_true] at w1 ⊢
   rw[M.wp_bind] at w1
   refine⟨fun σ2 H2=> ∃ (O':Addr→Prop) (ρ':ah) (n':Nat),SI G O0 H0 O' H2 σ2 ρ' n'∧(whP mt mb k ρ').wp n' (fun f n'=>fN G O0 H0 D n' f),fun σ2 H2 hh=>⟨k,by lia,hh⟩,G,O0,H0,O',ρ',n1,s'.to e1 ok1,M.wp_mono w1 fun f n3 w3=>?_⟩
   cases f with
   |nx ρ3=>exact fun O3 σ3 H3 s3=>⟨O3,ρ3,n3,s3,w3⟩
   |ct ρ3=>exact fun O3 σ3 H3 s3=>⟨O3,ρ3,n3,s3,w3⟩
   |bk ρ3=>exact fun O3 σ3 H3 s3=>w3 O3 σ3 H3 s3
   |rt y=>exact fun x3 H3 e3 ok3 r3=>w3 x3 H3 e3 ok3 r3
  |false=>
   simp only[Bool.false_eq_true,if_false] at w1 ⊢
   exact w1 O' σ' H1 (s'.to e1 ok1)
end
noncomputable def bp:Fl→M PV
 | .nx _=>.ret .non
 | .rt y=>.ret y
 |_=>.fail
noncomputable def eJ (k:Nat) (l:List PV):ah:=l.map Ent.val++List.replicate (k - l.length) .un
noncomputable def fnP (a k:Nat) (m:ah→M Fl) (l:List PV):M PV:=if l.length=a then(m (eJ k l)).bind bp else .fail
theorem fO {N:List Str} {vs:List V} {i:Nat} {x:V} (h:vs[i]?=some x):(start N vs)[i]?=some (some x):=by
 unfold start
 have hi:i < vs.length:=(List.getElem?_eq_some_iff.mp h).1
 rw[List.getElem?_append_left (by simpa using hi),List.getElem?_map,h]
 rfl
section
variable {P:Program} {w:World} {K:PySem.W.Frag} {mg:Str→Option Value} {base:Heap}
theorem ym {x qual:Str} {st:Stmt} {f:Addr} {fd:FuncData} {N ps:List Str} {k:Nat} {m:ah→M Fl} (F:Fun K x qual st f fd) (S:FnScope N ps (ak st)) (hN:ps.length≤N.length)
  (hb: ∀ (cdv:Value) (A:Around) (outer:List Env) (s:Shared) (H:Hp) (E:XK),Room k (A.deeper (envOfC qual (ak st) s.heap.objs.size f cdv))→SsV φ (dn CX0 P w K mg base N qual (ak st) f cdv A outer s H E).nox (au st) m):
  FnOk P w K mg base CX0 (k+1) f fd ps (spP φ (fnP ps.length N.length m)):=by
 refine F.ok S (fun vs H Q E h=>?_) (fun cdv A outer s H vs Q E hr h=>⟨_,(hb cdv A outer s H E hr).out,?_⟩)
 ·obtain⟨G,O,l,n,R,_,_,_,r,w,_⟩:=h
  unfold fnP at w
  by_cases hc:l.length=ps.length
  ·rw[←r.1,hc]
  ·rw[if_neg hc] at w;exact w.elim
 ·obtain⟨G,O,l,n,R,pr,dm,ok,r,w,q⟩:=h
  unfold fnP at w
  by_cases hc:l.length=ps.length
  ·rw[if_pos hc,M.wp_bind] at w
   refine⟨G,O,H,O,eJ N.length l,n,⟨⟨⟨?_,fun i e he=>?_⟩,ok,pr,dm⟩,pr,fun p h=>h,Ext.refl _ _,fun p h=>.inl h,dm,fun i p h=>?_,fun i j p h=>?_⟩,M.wp_mono w fun f n' h=>?_⟩
   ·unfold start eJ;simp[r.1]
   ·unfold eJ at he
    by_cases hi:i < l.length
    ·rw[List.getElem?_append_left (by simpa using hi),List.getElem?_map,List.getElem?_eq_getElem hi] at he
     cases he
     obtain⟨x,hx,rr⟩:=r.at (List.getElem?_eq_getElem hi)
     exact⟨x,by rw[fO hx];rfl,rr⟩
    ·rw[List.getElem?_append_right (by simpa using hi),List.getElem?_replicate] at he
     split at he
     ·cases he;trivial
     ·cases he
   all_goals try (
    obtain⟨t,h1,h2,_⟩:=h
    exfalso
    unfold eJ at h1
    by_cases hi:i < l.length
    ·rw[List.getElem?_append_left (by simpa using hi),List.getElem?_map,List.getElem?_eq_getElem hi] at h1
     cases h1;cases h2
    ·rw[List.getElem?_append_right (by simpa using hi),List.getElem?_replicate] at h1
     split at h1
     ·cases h1;cases h2
     ·cases h1)
   cases f with
   |nx ρ=>exact fun O' σ' H' s'=>q .non .non H' n' s'.ext s'.es.ok .non h
   |rt y=>exact fun x' H' e' ok' r'=>q y x' H' n' e' ok' r' h
   |bk ρ=>exact h.elim
   |ct ρ=>exact h.elim
  ·rw[if_neg hc] at w;exact w.elim
end
end
section
variable {φ:Fam}
section
variable {X:Cx} {e a b:Expr} {ma mb:ah→M PV}
noncomputable def MtV (K:PySem.W.Frag) (T:String) (r:V→List V→Hp→VK→Prop) (op:PV→List PV→M PV):Prop:= ∀ (φ:Fam) (G:Bg φ) (O:Addr→Prop) (H0 H:Hp) (n:Nat) (R:PV→Nat→Prop) (Q:VK) (y:PV) (x:V) (l:List PV) (xs:List V),
 (∀ p,G.priv p→O p)→(∀ p,O p→∃ o,H p=some o)→G.ok H n→RepB G O H y x→RepBs G O H l xs→(op y l).wp n R→Wish G O H R Q→r x xs H Q
noncomputable def tyP:PV→String
 | .str _=>"str"
 | .lst _=>"list"
 | .dct _=>"dict"
 |_=>""
noncomputable def bmP (T:String) (op:PV→List PV→M PV) (mo:ah→M PV) (ml:ah→M (List PV)):ah→M PV:=fun ρ=>(mo ρ).bind fun y=>if tyP y=T then(ml ρ).bind fun l=>op y l else .fail
theorem yn {T:String} {r:V→List V→Hp→VK→Prop} {op:PV→List PV→M PV} {mo:ah→M PV} {ml:ah→M (List PV)} (h:BE X e (tBM X.K T r (teB φ mo) (taB φ ml))) (hv:MtV X.K T r op) (hT:T≠"":=by decide):EV φ X e (bmP T op mo ml):=BE.mono h fun σ H Q hq0=>by
 obtain⟨G,O,ρ,n,R,s,w,q⟩:=hq0
 unfold bmP at w
 rw[M.wp_bind] at w
 refine⟨G,O,ρ,n,_,s,w,fun y x H1 n1 e1 ok1 r1 w1=>?_⟩
 by_cases hc:tyP y=T
 ·rw[if_pos hc] at w1
  have ty:tyV X.K T x H1:=by
   subst hc
   cases y<;>first|exact absurd rfl hT|skip
   ·rw[r1.str_i];rfl
   ·obtain⟨p,xs,rfl,hh,_⟩:=r1.lst_i;exact .inl ⟨rfl,xs,SqL.of hh⟩
   ·obtain⟨p,ks,rfl,hh,_⟩:=r1.dct_i;exact .inr (.inr (.inl ⟨rfl,.inl ⟨ks,hh⟩⟩))
  refine⟨ty,?_⟩
  rw[M.wp_bind] at w1
  refine⟨G,O,ρ,n1,_,s.ext e1 ok1,w1,fun l xs H2 n2 e2 ok2 r2 w2=>?_⟩
  exact hv φ G O H1 H2 n2 R Q y x l xs s.pr (s.ext (e1.trans e2) ok2).dm ok2 (r1.ext s.B e2) r2 w2 fun y x H' n' e o r h=>q y x H' n' (e1.trans (e2.trans e)) o r h
 ·rw[if_neg hc] at w1;exact w1.elim
noncomputable def strsOf:List PV→Option (List Str)
 |[]=>some []
 | .str b::r=>(strsOf r).map (b:: ·)
 |_=>none
theorem lP {B:Addr} {O:Addr→Prop} {H:Hp}: ∀ {l:List PV} {xs:List V} {bs:List Str},Reps B O H l xs→strsOf l=some bs→xs=bs.map V.str
 |[],xs,bs,h,e=>by simp[strsOf] at e;subst e;exact h.nil_inv
 |y::l,xs,bs,h,e=>by
  cases y<;>simp[strsOf] at e
  obtain⟨bs',e1,rfl⟩:=e
  obtain⟨x,r,rfl,h1,h2⟩:=h.cons_inv
  cases h1
  rw[List.map_cons,lP h2 e1]
noncomputable def iL:PV→List PV→M PV
 | .str sep,[.lst l]=>(M.ofO (strsOf l)).bind fun ys=>if(ys.map (·.length)).sum+ys.length * sep.length≤16777216 then .ret (.str (Txt.join sep ys)) else .fail
 |_,_=>.fail
theorem rD {y:PV} {l:List PV} {n:Nat} {R:PV→Nat→Prop} (w:(iL y l).wp n R): ∃ sep m,y= .str sep∧l=[.lst m]:=by
 unfold iL at w
 split at w
 ·exact⟨_,_,rfl,rfl⟩
 ·exact w.elim
theorem vw {K:PySem.W.Frag}:MtV K "str" (fun x xs H Q=> ∃ (sep:Str) (p:Addr) (ys:List Str),x= .str sep∧xs=[.ref p]∧SqL K H p (ys.map V.str)∧(ys.map (·.length)).sum+ys.length * sep.length≤16777216∧Q (.str (Txt.join sep ys)) H) iL:=fun φ G O H0 H n R Q y x l xs pr dm ok r1 r2 w q=>by
 obtain⟨sep,l,rfl,rfl⟩:=rD w
 ·rw[r1.str_i]
  obtain⟨x2,ex,r3⟩:=r2.one
  subst ex
  obtain⟨p,xs,ep,hh,rr⟩:=r3.lst_i
  subst ep
  unfold iL at w
  dsimp only at w
  cases es:strsOf l with
  |none=>rw[es] at w;exact w.elim
  |some ys=>
   rw[es] at w
   replace w:(if(ys.map (·.length)).sum+ys.length * sep.length≤16777216 then M.ret (.str (Txt.join sep ys)) else .fail:M PV).wp n R:=w
   by_cases hc:(ys.map (·.length)).sum+ys.length * sep.length≤16777216
   ·rw[if_pos hc] at w
    rw[lP rr es] at hh
    exact⟨sep,p,ys,rfl,rfl,SqL.of hh,hc,q.sc ok (.str _) w⟩
   ·rw[if_neg hc] at w;exact w.elim
noncomputable def fF:PV→M PV
 | .int i=>.ret (.int (-i))
 |_=>.fail
theorem ic (h:BE X e (tUn (rU fun i=>.int (-i)) (teB φ ma))):EV φ X e (fun ρ=>(ma ρ).bind fF):=BE.mono h fun σ H Q hq0=>by
 obtain⟨G,O,ρ,n,R,s,w,q⟩:=hq0
 rw[M.wp_bind] at w
 refine⟨G,O,ρ,n,_,s,w,fun y x H1 n1 e1 ok1 r1 w1=>?_⟩
 cases y<;>first|exact w1.elim|skip
 rw[r1.int_i]
 exact⟨_,rfl,q _ _ _ _ e1 ok1 (.int _) w1⟩
noncomputable def gM (ma mb:ah→M PV):ah→M (List PV):=fun ρ=>(ma ρ).bind fun x=>(mb ρ).bind fun y=>match x,y with| .lst a,.lst b=>if a.length+b.length≤100000 then .ret (a++b) else .fail|_,_=>.fail
theorem m9 (h:BE X e (tOp sH (teB φ ma) (teB φ mb))):EF φ X e (gM ma mb):=BE.mono h fun σ H Q hq0=>by
 obtain⟨G,O,ρ,n,R,s,w,q⟩:=hq0
 unfold gM at w
 rw[M.wp_bind] at w
 refine⟨G,O,ρ,n,_,s,w,fun y x H1 n1 e1 ok1 r1 w1=>?_⟩
 rw[M.wp_bind] at w1
 refine⟨G,O,ρ,n1,_,s.ext e1 ok1,w1,fun y' x' H2 n2 e2 ok2 r2 w2=>?_⟩
 replace r1:=r1.ext s.B e2
 cases y<;>cases y'<;>first|exact w2.elim|skip
 rename_i i j
 obtain⟨a,xs,rfl,h1,q1⟩:=r1.lst_i
 obtain⟨b,ys,rfl,h2,q2⟩:=r2.lst_i
 dsimp only at w2
 by_cases hc:i.length+j.length≤100000
 ·rw[if_pos hc] at w2
  have q':WishF G O H2 R Q:=fun l p xs H' n' e o hp a b h=>q l p xs H' n' (e1.trans (e2.trans e)) o (fo (e1.trans e2) ok2 hp) a b h
  exact⟨a,b,xs,ys,rfl,rfl,h1,h2,Nat.le_trans (by rw[←q1.1,←q2.1];exact hc) dz,fun p hp=>q'.mk ok2 hp s.B (q1.append q2) w2⟩
 ·rw[if_neg hc] at w2;exact w2.elim
end
end
section
variable {φ:Fam}
section
variable {X:Cx} {e a b o:Expr} {es:List Expr} {pos p:Pos} {x:Str} {id T:String} {r:List V→Hp→VK→Prop} {t:TA} {st:Stmt}
theorem bv (i:Nat) {x:Str} {pos:Pos} (hN:X.N[i]?=some x:=by rfl) (hv:Vis X.env.scope x:=by first|exact Or.inl rfl|exact Or.inr (Or.inl rfl)|exact Or.inr (Or.inr rfl)) (hd:(x==("__debug__":Str))=false:=by decide)
  (hcd:(x==("__classdict__":Str))=false:=by decide):BE X (.Name x pos) (fB i):=⟨qR hN hv hd hcd⟩
theorem bt (hc:dH X (.builtin id) r) (hg:Gl X x) (hm:X.mg x=none) (hv:bootBuiltins x=some (.builtin id)) (ha:BA X (e::es) t) (hn:x≠"__name__":=by decide) (hdb:(x==("__debug__":Str))=false:=by decide)
  (he:starEach (e::es) X.env=(false,eval e X.env)::starEach es X.env:=by rfl) (hpl:(backTo pos (starEach es X.env)).any (·.1)=false:=by rfl):BE X (.Call (.Name x p) (e::es) [] pos) (tCB r t):=⟨mx hc hg hm hv ha.out hn hdb he hpl⟩
theorem dN (hc:dH X (.type T) r) (hg:Gl X x) (hm:X.mg x=none) (hv:bootBuiltins x=some (.type T)) (ha:BA X (e::es) t) (hn:x≠"__name__":=by decide) (hdb:(x==("__debug__":Str))=false:=by decide)
  (he:starEach (e::es) X.env=(false,eval e X.env)::starEach es X.env:=by rfl) (hpl:(backTo pos (starEach es X.env)).any (·.1)=false:=by rfl):BE X (.Call (.Name x p) (e::es) [] pos) (tCB r t):=⟨qS hc hg hm hv ha.out hn hdb he hpl⟩
theorem ay {CX:CXT} {k:Nat} {f:Addr} {fd:FuncData} {ps:List Str} {sp:Sp} {ds:List Value} {dvs:List V} {E:XK} (F:FnOk X.prog X.w X.K X.mg X.base CX k f fd ps sp) (hr:Room k X.A) (hg:Gl X x) (hm:X.mg x=some (.ref f)) (hk:PySem.W.keepIn X.K (.ref f)=true) (hb:Binds X.K fd ps ds) (hd:Vals dvs ds) (hx:Passes CX X E)
  (ha:BA X (e::es) t) (hdb:(x==("__debug__":Str))=false:=by decide) (he:starEach (e::es) X.env=(false,eval e X.env)::starEach es X.env:=by rfl) (hpl:(backTo pos (starEach es X.env)).any (·.1)=false:=by rfl):
  BE X (.Call (.Name x p) (e::es) [] pos) (jm sp dvs E t):=⟨vj F hr hg hm hk hb hd hx ha.out hdb he hpl⟩
theorem eP:BA X [] lN:=⟨du⟩
theorem dX {te:TE} (ha:BE X e te) (hr:BA X es t) (hs:starEach (e::es) X.env=(false,eval e X.env)::starEach es X.env:=by rfl):BA X (e::es) (gz te t):=⟨cL ha.out hr.out hs⟩
theorem fw {apos cpos:Pos} {name:Str} {to:TE} {r:V→List V→Hp→VK→Prop} (pa:PlainAttrs T) (slot:Slot T name id) (hty:typeOf (.builtin id)=pure (.type "method_descriptor")) (hm:MtR X id r) (ho:BE X o to) (ha:BA X (e::es) t)
  (hbase:attributeBase o name X.env (eval o X.env)=eval o X.env:=by rfl)
  (hfew:((backTo cpos (starEach (e::es) X.env)).all (fun x=>!x.1)&&(backToKw cpos (keywordEach [] X.env)).all (fun x=>x.1.isSome)
   &&decide ((e::es).length+([]:List Keyword).length+(if([]:List Keyword).isEmpty then 0 else 1) < 30))=true:=by rfl)
  (hline:(apos.endLine==cpos.line)=true:=by rfl) (hs:starEach (e::es) X.env=(false,eval e X.env)::starEach es X.env:=by rfl) (hplain:(backTo cpos (starEach es X.env)).any (·.1)=false:=by rfl):
  BE X (.Call (.Attribute o name apos) (e::es) [] cpos) (tBM X.K T r to t):=⟨yh pa slot hty hm ho.out ha.out hbase hfew hline hs hplain⟩
theorem fv {elt target iter:Expr} {ifs:List Expr} {scope:Scope} {N:List Str} {js:List (Option Nat)} {wi:TI} {g:TG} {tt:TT} {te:TE} (L:LcScope X scope N js) (hc:X.calm=true) (hi:BI X target iter wi)
  (hg: ∀ s₀ H₀ ex pn,BG (cxC X scope N s₀ H₀ ex pn) target g) (ht: ∀ s₀ H₀ ex pn,BTs (cxC X scope N s₀ H₀ ex pn) ifs tt) (he: ∀ s₀ H₀ ex pn,BE (cxC X scope N s₀ H₀ ex pn) elt te)
  (hs: ∀ x,foldedSetIterable iter X.env x=pure x:=by intro _;rfl):BE X (.ListComp elt [⟨target,iter,ifs,0⟩] scope pos) (tLC js wi g tt te):=⟨yg L hc hi.out (fun a b c d=>(hg a b c d).out) (fun a b c d=>(ht a b c d).out) (fun a b c d=>(he a b c d).out) hs⟩
theorem fV {elt target iter:Expr} {ifs:List Expr} {scope:Scope} {N:List Str} {js:List (Option Nat)} {spos py:Pos} {y:Str} {k:Nat} {wi:TI} {g:TG} {tt:TT} {te:TE} (hN:X.N.Nodup) (hk:X.N[k]?=some y) (hy:Loc X.env.scope y) (L:LcScope X scope N js) (hc:X.calm=true) (hi:BI X target iter wi)
  (hg: ∀ s₀ H₀ ex pn,BG (cxC X scope N s₀ H₀ ex pn) target g) (ht: ∀ s₀ H₀ ex pn,BTs (cxC X scope N s₀ H₀ ex pn) ifs tt) (he: ∀ s₀ H₀ ex pn,BE (cxC X scope N s₀ H₀ ex pn) elt te)
  (hsw:swapsWith (.ListComp elt [⟨target,iter,ifs,0⟩] scope pos) (some (.Name y py)) spos.line X.env=pure true:=by rfl)
  (hs: ∀ x,foldedSetIterable iter X.env x=pure x:=by intro _;rfl) (hf:X.fn y=true∨X.env.scope.names.lookup y=some .local:=by first|exact .inl rfl|exact .inr rfl|assumption):
  BS X (.Assign [.Name y py] (.ListComp elt [⟨target,iter,ifs,0⟩] scope pos) spos) (dD (tLC js wi g tt te) (cP k)):=⟨ye hN hk hy L hc hi.out (fun a b c d=>(hg a b c d).out) (fun a b c d=>(ht a b c d).out) (fun a b c d=>(he a b c d).out) hsw hs hf⟩
theorem aI {i:Nat} {te:TE} {pos':Pos} (hN:X.N.Nodup) (hi:X.N[i]?=some x) (hx:Loc X.env.scope x) (he:BE X e te) (hs:swapsWith e (some (.Name x pos')) pos.line X.env=pure false:=by rfl) (hf:X.fn x=true∨X.env.scope.names.lookup x=some .local:=by first|exact .inl rfl|exact .inr rfl|assumption):
  BS X (.Assign [.Name x pos'] e pos) (dD te (cP i)):=⟨fg hN hi hx he.out hs hf⟩
theorem rV {tg:Expr} {te:TE} {g:TG} (he:BE X e te) (hg:BG X tg g) (hs:swapsWithSole [tg] e pos.line X.env=pure false:=by rfl) (hw:swappedStores [tg] e X.env=pure none:=by rfl)
  (h1:(assignEach [tg] X.env).map (·.2)=[assign tg X.env]:=by rfl):BS X (.Assign [tg] e pos) (dD te g):=⟨mj he.out hg.out hs hw h1⟩
theorem rT {i j:Nat} {x y:Str} {ta:TA} {px py pt:Pos} {kt k2 pt2} (hc:X.calm=true) (hN:X.N.Nodup) (hi:X.N[i]?=some x) (hj:X.N[j]?=some y) (hij:i≠j)
  (hx:X.env.scope.names.lookup x=some .local) (hy:X.env.scope.names.lookup y=some .local) (ha:BA X [a,b] ta)
  (hw:swappedStores [.Tuple [.Name x px,.Name y py] kt pt] (.Tuple [a,b] k2 pt2) X.env=pure (some [x,y]))
  (hs:swapsWithSole [.Tuple [.Name x px,.Name y py] kt pt] (.Tuple [a,b] k2 pt2) pos.line X.env=pure false:=by rfl):
  BS X (.Assign [.Tuple [.Name x px,.Name y py] kt pt] (.Tuple [a,b] k2 pt2) pos) (sk i j ta):=⟨wL hc hN hi hj hij hx hy ha.out hw hs⟩
theorem aQ {te:TE} (he:BE X e te):BS X (.Return (some e) pos) (sj te):=⟨jr he.out⟩
theorem cA {c:Expr} {ss tt:List Stmt} {tc:TT} {t u:TS} (hc:BT X c tc) (ha:BSs X ss t) (hb:BSs X tt u):BS X (.If c ss tt pos) (sr tc t u):=⟨pP hc.out ha.out hb.out⟩
theorem dM {tg iter:Expr} {body:List Stmt} {wi:TI} {g:TG} {tb:TS} (hp:PassesOwn (model X.prog X.w) X.A X.env X.xe) (hc:X.calm=true) (hi:BI X tg iter wi) (hg:BG X tg g) (hb:BSs X body tb)
  (hs: ∀ x,foldedSetIterable iter X.env x=pure x:=by intro _;rfl):BS X (.For tg iter body [] pos) (jQ wi g tb):=⟨jt hp hc hi.out hg.out hb.out hs⟩
theorem nH {c:Expr} {body:List Stmt} {tc:TT} {tb:TS} (hp:PassesOwn (model X.prog X.w) X.A X.env X.xe) (hc:BT X c tc) (hb:BSs X body tb):BS X (.While c body [] pos) (lL tc tb):=⟨sJ hp hc.out hb.out⟩
theorem eE {te:TE} (he:BE X e te) (hs:swapsWith e none pos.line X.env=pure false:=by rfl):BS X (.Expr e pos) (pG te):=⟨vb he.out hs⟩
theorem dh {tg:Expr} {ta:TA} (hg:Gl X "range") (hm:X.mg "range"=none) (ha:BA X [a] ta) (hs:starEach [a] X.env=[(false,eval a X.env)]:=by rfl):BI X tg (.Call (.Name "range" p) [a] [] pos) (p8 ta):=⟨qP hg hm ha.out hs⟩
theorem nJ {r:V→Option Int→Option Int→Hp→VK→Prop} {te:TE} {tl th:TO} {lo hi:Option Expr} {p2:Pos} (hr:SlR X r) (he:BE X e te) (hl:BO X lo tl) (hu:BO X hi th):BE X (.Subscript e (.Slice lo hi none p2) pos) (tSl r te tl th):=⟨gD hr he.out hl.out hu.out⟩
theorem jM {op:UnaryOp} {r:V→Hp→VK→Prop} {ta:TE} (ho:UnR X (unaryOp op) r) (ha:BE X a ta):BE X (.UnaryOp op a pos) (tUn r ta):=⟨yf ho ha.out⟩
theorem qj {op:Operator} {r:R2} {ta tb:TE} (ho:OpR X (binaryOp op) r) (ha:BE X a ta) (hb:BE X b tb):BE X (.BinOp a op b pos) (tOp r ta tb):=⟨bu ho ha.out hb.out⟩
theorem aW {i:Nat} (hN:X.N.Nodup) (hi:X.N[i]?=some x) (hx:Loc X.env.scope x) (hf:X.fn x=true∨X.env.scope.names.lookup x=some .local:=by first|exact .inl rfl|exact .inr rfl|assumption):BG X (.Name x pos) (cP i):=⟨iE hN hi hx hf⟩
theorem iT:BGs X [] tT:=⟨oM⟩
theorem dq {t:TG} {u:TGs} (h1:BG X e t) (h2:BGs X es u)
  (hs:(assignEach (e::es) X.env).map (·.2)=assign e X.env::(assignEach es X.env).map (·.2):=by rfl):BGs X (e::es) (qf t u):=⟨iZ h1.out h2.out hs⟩
theorem jL {k:Nat} {t:TGs} {n:Nat} (hc:X.calm=true) (h:BGs X es t)
  (hn:(assignEach es X.env).length=n:=by rfl) (hst:(assignEach es X.env).findIdx? (·.1)=none:=by rfl):BG X (.Tuple es k pos) (kh X.K n t):=⟨qQ hc h.out hn hst⟩
theorem xJ {i:Expr} {to ti:TE} {t:qp} (ho:BE X o to) (hi:BE X i ti) (hs:ue X t) (H: ∀ (a1:PE X o to) (a2:PE X i ti),PG X (.Subscript o i pos) (qe to ti t):=by intro a1 a2;exact mn a1 a2 set_list):BG X (.Subscript o i pos) (qe to ti t):=⟨H ho.out hi.out⟩
end
section
variable {P:Program} {w:World} {K:PySem.W.Frag} {mg:Str→Option Value} {base:Heap}
theorem bz {x qual:Str} {st:Stmt} {f:Addr} {fd:FuncData} {N ps:List Str} {k:Nat} {m:ah→M Fl} {body:List Stmt} {sc:Scope} {Ff:List PV→M PV} (hF:Ff=fnP ps.length N.length m) (F:Fun K x qual st f fd) (S:FnScope N ps (ak st)) (hN:ps.length≤N.length) (eb:au st=body) (es:ak st=sc)
  (hb: ∀ (cdv:Value) (A:Around) (outer:List Env) (s:Shared) (H:Hp) (E:XK),Room k (A.deeper (envOfC qual sc s.heap.objs.size f cdv))→SsV φ (dn CX0 P w K mg base N qual sc f cdv A outer s H E).nox body m):
  FnOk P w K mg base CX0 (k+1) f fd ps (spP φ Ff):=by
 subst hF eb es
 exact ym F S hN hb
end
end
section
open PySem.AutoSeq1 (wpAny_loadPart')
theorem i5:fillsNumberSlot (.type "tuple") "mul"=pure false:=
 PySem.fillsNumberSlot_seq (id:="tuple.__mul__") (r:=some (.builtin "tuple.__rmul__")) F.slot_tuple_mul.lookup (by decide +kernel) F.slot_tuple_rmul.lookup (by decide +kernel)
theorem lX:seqRepeat? (.type "tuple")=pure (some (.builtin "tuple.__mul__")):=by
 unfold seqRepeat?
 rw[PySem.seqSlot_of (T:="tuple") (name:="__mul__") (id:="tuple.__mul__") F.slot_tuple_mul.lookup (by decide +kernel),PySem.seqSlot_of (T:="tuple") (name:="__rmul__") (id:="tuple.__rmul__") F.slot_tuple_rmul.lookup (by decide +kernel)]
 rfl
theorem ka (a:Int) (t:Tok) (l:Addr) (items:Array Value) (n:Nat) (dd:Option Addr) (sl:Array (Option Value)):
  Meets (Builtin.«int.__rmul__» ⟨[.int a t,.ref l],[]⟩) (fun _ R s=>s.heap.get? l=some {cls:=.type "tuple",dict:=dd,data:=.seq items n,slots:=sl}∧R (.ok (.ret Value.notImplemented)) s):=
 .of_wp fun prog w A R s h=>by obtain⟨hp,g,d,tk,os⟩:=s;obtain⟨hl,h⟩:=h;wp_walk using wpAny_loadPart' hl;exact⟨_,rfl,h⟩
theorem pE (l:Addr) (items:Array Value) (n:Nat) (dd:Option Addr) (sl:Array (Option Value)) (x:Int) (u:Tok) (hc0: ¬(decide (x < -(2 ^ 63))||decide (x ≥ 2 ^ 63))=true) (hc1: ¬(items.isEmpty||x==1)=true) (hc2: ¬(decide (x≤0)||items.isEmpty)=true) (hc3: ¬((items.size:Int) * x > (2 ^ 63 - 1) / 8)) (hc4: ¬Builtin.Tuple.tupleTooMany (items.size * x)=true) (hc5: ¬ (List.foldl (fun x1 x2=>x1++x2) #[] (List.replicate x.toNat items)).size > sizeLine):
  Meets (Builtin.«tuple.__mul__» ⟨[.ref l,.int x u],[]⟩) (fun _ R s=>s.heap.get? l=some {cls:=.type "tuple",dict:=dd,data:=.seq items n,slots:=sl}∧R (.ok (.ret (Value.ref s.heap.objs.size))) {s with heap:=s.heap.push {cls:=Value.type "tuple",data:=Data.seq ((List.replicate x.toNat items).foldl (· ++ ·) #[])},toks:=s.toks}):=
 .of_wp fun prog w A R s h=>by
  obtain⟨hp,g,d,tk,os⟩:=s;obtain⟨hl,h⟩:=h
  have f1:=AutoSeq1.idx_int
  wp_walk using wpAny_loadPart' hl
  refine wpAny_ite_false (decide_eq_false hc0) ?_
  wp_walk using wpAny_loadPart' hl
  refine wpAny_ite_false (decide_eq_false hc3) ?_
  wp_walk using wpAny_loadPart' hl
  exact⟨_,rfl,h⟩
noncomputable def uu:R2:=fun x y H Q=> ∃ l k xs,x= .ref l∧y= .int k∧H l=some (.tup xs)∧xs≠[]∧1 < k∧k < 1000∧xs.length * k.toNat≤100000∧∀ p,H p=none→Q (.ref p) (upd H p (.tup (List.replicate k.toNat xs).flatten))
theorem vn {X:Cx}:OpR X (binaryOp .Mult) uu:=by
 intro pins s σ H x y v u Q I rx ry h
 obtain⟨l,k,xs,rfl,rfl,hH,hne,h1,h2,hz,q⟩:=h
 cases rx
 obtain⟨t,rfl⟩:=ry
 obtain⟨its,r,p,_⟩:=I.tuple (SqT.of (K:=X.K) hH)
 obtain⟨⟨cls,dd,data,sl⟩,ho,hc,n,hd⟩:=id p
 simp only at hc hd
 subst hc hd
 have hlen:=r.length
 have hie:its≠[]:=fun z=>hne (r.nil_iff.mp z)
 have hnew:List.foldl (fun x1 x2=>x1++x2) #[] (List.replicate k.toNat its.toArray)=(List.replicate k.toNat its).flatten.toArray:=by
  have:=foldl_rep its k.toNat []
  rw[List.nil_append] at this
  exact this
 have e63:(2:Int) ^ 63=9223372036854775808:=by decide
 have hsz:(its.length:Int) * k≤100000:=by
  have e:(k.toNat:Int)=k:=by lia
  have:((its.length * k.toNat:Nat):Int)≤100000:=by
   rw[←hlen]
   exact Int.ofNat_le.mpr hz
  rw[Int.natCast_mul,e] at this
  exact this
 have hs:sizeLine=16777216:=sizeLine_eq
 have hfl:(List.replicate k.toNat xs).flatten.length≤sizeLine:=by rw[len_rep,Nat.mul_comm];lia
 refine wpAny_binaryOp_repeat_ref (T:="tuple") (U:="int") (by decide) ⟨_,ho,rfl⟩ (fun s'=>typeIs_int s' k t) i5 F.fills_int_mul F.slot_int_rmul lX F.slot_int_index.lookup
  (call_meets F.slot_int_rmul (typeIs_int s k t) F.entry_int_rmul (F.args_int_rmul_2 _ _) (ka k t l its.toArray n dd sl)
   ⟨ho,rfl,⟨_,ho,rfl⟩,call_meets F.slot_tuple_mul ⟨_,ho,rfl⟩ F.entry_tuple_mul (F.args_tuple_mul_2 _ _) (pE l its.toArray n dd sl k t ?_ ?_ ?_ ?_ ?_ ?_) ⟨ho,?_⟩⟩)
 ·simp;lia
 ·simp[hie];lia
 ·simp[hie];lia
 ·simp only[List.size_toArray];lia
 ·unfold Builtin.Tuple.tupleTooMany;simp only[List.size_toArray,decide_eq_true_eq];lia
 ·rw[hnew,List.size_toArray,len_rep,Nat.mul_comm,←hlen];lia
 ·rw[hnew]
  refine⟨.ref s.heap.objs.size,_,I.laid (t':=s.toks) (o:=.tup (List.replicate k.toNat xs).flatten) (fun b ob q=>Heap.get?_push_of_some _ q) (Nat.le_refl _) ?_,rfl,q _ (I.hok.fresh (Nat.le_refl _))⟩
  exact⟨hfl,_,r.rep k.toNat,IsTup.new _ _⟩
noncomputable def uw:R2:=fun x y H Q=>pM x y H Q∨uu x y H Q
theorem dU {X:Cx}:OpR X (binaryOp .Mult) uw:=op_mulD.or vn
noncomputable def dZ (y z:PV):M PV:=match y,z with
 | .tup l,.int k=>if 0 < l.length∧1 < k∧k < 1000∧l.length * k.toNat≤100000 then .ret (.tup (List.replicate k.toNat l).flatten) else .fail
 |y,z=>j4 y z
theorem dS:OpV uw dZ:=fun φ G O H n R Q y z x x' pr dm ok r1 r2 w q=>by
 have hB:O G.B:=pr _ G.pB
 cases y with
 |tup l=>
  cases z<;>first|exact w.elim|skip
  rename_i k
  obtain⟨a,xs,rfl,h1,e1⟩:=r1.tup_i
  rw[r2.int_i]
  unfold dZ at w
  dsimp only at w
  by_cases hc:0 < l.length∧1 < k∧k < 1000∧l.length * k.toNat≤100000
  ·rw[if_pos hc] at w
   refine .inr ⟨a,k,xs,rfl,rfl,h1,fun z=>?_,hc.2.1,hc.2.2.1,by rw[←e1.1];exact hc.2.2.2,fun p hp=>q.tup ok dm hp hB (e1.rep _) w⟩
   subst z
   have:=e1.1
   simp at this
   have:=hc.1
   simp_all
  ·rw[if_neg hc] at w;exact w.elim
 |_=>exact .inl (wY φ G O H n R Q _ z x x' pr dm ok r1 r2 w q)
end
noncomputable def fT:List PV→M PV:=fun l=>match l with|[.bag,.int m]=>.draw m fun d=>.ret (.int d)|_=>.fail
theorem rO {φ:Fam} {P:Program} {w:World} {K:PySem.W.Frag} {mg:Str→Option Value} {base:Heap} {k:Nat} {f:Addr} {fd:FuncData} {ps:List Str} (F:FnOk P w K mg base CX0 k f fd ps φ.sp):FnOk P w K mg base CX0 k f fd ps (spP φ fT):=by
 refine F.imp fun vs H Q E h=>?_
 obtain⟨G,O,l,n,R,pr,dm,ok,r,w,q⟩:=h
 match l,r,w with
 |[.bag,.int m],r,w=>
  obtain⟨x,t,rfl,r1,r2⟩:=r.cons_inv
  obtain⟨x',t',rfl,r3,r4⟩:=r2.cons_inv
  rw[r4.nil_inv]
  cases r1
  cases r3
  obtain⟨h0,h1,n',rfl,h⟩:=w
  exact G.dr H n' m Q E ok h0 h1 fun d H' d0 d1 e o=>q (.int d) _ H' n' e o (.int d) (h d d0 d1)
set_option genInjectivity false in
structure Gen {α:Type} (m:M α) (c:Nat) (Pr:α→Prop):Prop where
 h: ∀ n,c≤n→m.wp n fun y n'=>n≤n'+c∧Pr y
theorem Gen.ret {α:Type} {y:α} {Pr:α→Prop} (h:Pr y):Gen (.ret y) 0 Pr:=⟨fun n _=>⟨Nat.le_refl _,h⟩⟩
theorem Gen.bind {α β:Type} {m:M α} {f:α→M β} {c d:Nat} {Pr:α→Prop} {Rr:β→Prop} (h:Gen m c Pr) (k: ∀ y,Pr y→Gen (f y) d Rr):Gen (m.bind f) (c+d) Rr:=⟨fun n hn=>by
 rw[M.wp_bind]
 refine M.wp_mono (h.h n (by first|decide|lia)) fun y n1 ⟨h1,h2⟩=>?_
 exact M.wp_mono ((k y h2).h n1 (by first|decide|lia)) fun z n2 ⟨h3,h4⟩=>⟨by lia,h4⟩⟩
theorem Gen.mono {α:Type} {m:M α} {c d:Nat} {Pr Rr:α→Prop} (h:Gen m c Pr) (hc:c≤d) (k: ∀ y,Pr y→Rr y):Gen m d Rr:=⟨fun n hn=>M.wp_mono (h.h n (by first|decide|lia)) fun y n1 ⟨h1,h2⟩=>⟨by lia,k y h2⟩⟩
theorem Gen.le {α:Type} {m:M α} {c d:Nat} {Pr:α→Prop} (h:Gen m c Pr) (hc:c≤d):Gen m d Pr:=h.mono hc fun _ z=>z
theorem Gen.draw {m:Int} (h0:0 < m) (h1:m < 1073741824):Gen (fT [.bag,.int m]) 1 fun y=> ∃ d,y= .int d∧0≤d∧d < m:=⟨fun n hn=>by
 obtain⟨n',rfl⟩: ∃ n',n=n'+1:=⟨n - 1,by lia⟩
 exact⟨h0,h1,n',rfl,fun d d0 d1=>⟨Nat.le_refl _,d,rfl,d0,d1⟩⟩⟩
theorem Gen.eq {α:Type} {m:M α} {y:α} {Pr:α→Prop} (e:m= .ret y) (h:Pr y):Gen m 0 Pr:=e▸Gen.ret h
theorem Gen.lc {k:Nat} {te:ah→M PV} {c:Nat} {Pr:PV→Prop} {ρ:ah}: ∀ (l:List PV) (ρ':ah),(∀ e,ρ'.set k e=ρ.set k e)→(∀ y∈l,Gen (te (ρ.set k (.val y))) c Pr)→Gen (lcM (aN k) cG te l ρ') (l.length * c) (fun zs=>zs.length=l.length∧∀ z∈zs,Pr z)
 |[],ρ',_,_=>Gen.le (Gen.ret ⟨rfl,fun z hz=>by simp at hz⟩) (by simp)
 |y::l,ρ',hρ,h=>by
  unfold lcM
  simp only[aN,cG,M.ret_bind,if_true]
  rw[hρ]
  refine Gen.le (Gen.bind (h y List.mem_cons_self) fun z hz=>Gen.bind (Gen.lc (ρ:=ρ) l _ (fun e=>by rw[List.set_set]) fun y' hy=>h y' (List.mem_cons_of_mem _ hy)) fun zs hzs=>Gen.ret ?_) (Nat.le_of_eq ?_)
  ·refine⟨by simp[hzs.1],fun u hu=>?_⟩
   rcases List.mem_cons.mp hu with rfl|hu
   ·exact hz
   ·exact hzs.2 u hu
  ·simp only[List.length_cons,Nat.succ_mul]
   lia
theorem iK {k:Nat} {te:ah→M PV} {f:PV→PV} {ρ:ah}: ∀ (l:List PV) (ρ':ah),(∀ e,ρ'.set k e=ρ.set k e)→(∀ y∈l,te (ρ.set k (.val y))= .ret (f y))→lcM (aN k) cG te l ρ'= .ret (l.map f)
 |[],ρ',_,_=>rfl
 |y::l,ρ',hρ,h=>by
  unfold lcM
  simp only[aN,cG,M.ret_bind,if_true]
  rw[hρ,h y List.mem_cons_self,iK (f:=f) (ρ:=ρ) l _ (fun e=>by rw[List.set_set]) fun y' hy=>h y' (List.mem_cons_of_mem _ hy)]
  rfl
theorem dW {k:Nat} {tt:ah→M Bool} {te:ah→M PV} {p:PV→Bool} {f:PV→PV} {ρ:ah}: ∀ (l:List PV) (ρ':ah),(∀ e,ρ'.set k e=ρ.set k e)→(∀ y∈l,tt (ρ.set k (.val y))= .ret (p y))→(∀ y∈l,p y=true→te (ρ.set k (.val y))= .ret (f y))→lcM (aN k) tt te l ρ'= .ret ((l.filter p).map f)
 |[],ρ',_,_,_=>rfl
 |y::l,ρ',hρ,h,h'=>by
  unfold lcM
  simp only[aN,M.ret_bind]
  have ih:=dW (p:=p) (f:=f) (ρ:=ρ) l (ρ.set k (.val y)) (fun e=>by rw[List.set_set]) (fun y' hy=>h y' (List.mem_cons_of_mem _ hy)) (fun y' hy=>h' y' (List.mem_cons_of_mem _ hy))
  rw[hρ,h y List.mem_cons_self,M.ret_bind]
  cases hp:p y with
  |true=>
   simp only[if_true]
   rw[h' y List.mem_cons_self hp,M.ret_bind,ih,List.filter_cons_of_pos hp]
   rfl
  |false=>
   simp only[Bool.false_eq_true,if_false]
   rw[ih,List.filter_cons_of_neg (by simp[hp])]
section
variable {φ:Fam}
noncomputable def wt:V→Option Int→Option Int→Hp→VK→Prop:=fun x lo hi H Q=> ∃ z,x= .str z∧z.length≤100000∧Q (.str (Txt.slice z lo hi)) H
theorem part_of {v:Value} {o:Option Int} (p:IsPart v o): ∃ l:Option (Int×Tok),v=PySem.partValue l∧l.map (·.1)=o:=by
 cases p with
 |none=>exact⟨none,rfl,rfl⟩
 |int i t=>exact⟨some (i,t),rfl,rfl⟩
theorem we {X:Cx}:SlR X wt:=by
 intro pins s σ H x v vl vu lo hi sl Q I rx hs pl pu h
 obtain⟨z,rfl,hz,q⟩:=h
 obtain⟨t,rfl⟩:=rx
 obtain⟨l,rfl,hl⟩:=part_of pl
 obtain⟨u,rfl,hu⟩:=part_of pu
 refine⟨"str",_,F.slot_str_getitem.lookup,typeIs_str _ _ _,wpAny_getItem_str_slice (l:=l) (u:=u) (st:=none) hs rfl ?_⟩
 subst hl hu
 exact(post_val_or_str ⟨Nat.le_trans (Txt.slice_le z _ _) (Nat.le_trans hz dz),fun t' k=>⟨.str (Txt.slice z _ _),H,I.tok _,⟨_,rfl⟩,q⟩⟩)
section
open HT
variable {prog:Program} {w:World} {A:Around} {E:Value→Shared→Prop} {s:Shared}
theorem gT {t sl:Addr} {items:Array Value} {vl vu:Value} {lo hi:Option Int} {Q:Value→Shared→Prop} (ht:IsTup s.heap t items) (hs:s.heap.IsSliceOf sl vl vu .none) (pl:IsPart vl lo) (pu:IsPart vu hi)
  (hw:sIx items.size 0 lo=0∧sIx items.size items.size hi=items.size) (h:Q (.ref t) s):wpAny (model prog w) A (getItem (.ref t) (.ref sl)) Q E s:=by
 obtain⟨os,hos,hcs,hds⟩:=id hs
 have hTs:s.TypeIs (.ref sl) "slice":=⟨os,hos,hcs⟩
 unfold getItem
 try with_reducible refine wpAny_holding ?_
 first|refine wpAny_bind (wpAny_pure ?_)|skip
 refine wpAny_bind (wpAny_sequenceKey ht.typeIs (by decide) ?_)
 refine wpAny_bind (wpAny_callSpecial?_slot (name:=Str.ofString "__getitem__") ht.typeIs PyProof.Rows.slot_tuple_getitem
  (wpAny_call_entry PyProof.Rows.slot_tuple_getitem ht.typeIs entry_tuple_getitem ?_ (args_tuple_getitem _ _)))
 show wpAny _ _ (Builtin.Tuple.tupleItemsOf (.ref t) >>= _) _ _ s
 refine wpAny_bind (tupleItemsOf_ ht ?_)
 refine wpAny_bind (wpAny_typeOf hTs ?_)
 rw[if_pos (by decide)]
 refine wpAny_bind (fC hs pl pu ?_)
 have hyes:((((sIx items.size 0 lo:Nat):Int)==0&&(1:Int)==1&&(sIx items.size items.size hi - sIx items.size 0 lo)==items.size)=true):=by
  rw[hw.1,hw.2];simp
 show wpAny _ _ (if(((sIx items.size 0 lo:Nat):Int)==0&&(1:Int)==1&&(sIx items.size items.size hi - sIx items.size 0 lo)==items.size)=true then _ else _) _ _ s
 rw[if_pos hyes]
 refine wpAny_bind (m:=Builtin.Tuple.tupleIsExact _) (wpAny_bind (wpAny_typeOf ht.typeIs (wpAny_pure ?_)))
 rw[if_pos (by decide)]
 refine wpAny_bind (wpAny_rule ?_)
 exact wpAny_pure ⟨_,rfl,wpAny_pure h⟩
end
noncomputable def wo:V→Option Int→Option Int→Hp→VK→Prop:=fun x lo hi H Q=> ∃ a xs,x= .ref a∧H a=some (.tup xs)∧(HT.sIx xs.length 0 lo=0∧HT.sIx xs.length xs.length hi=xs.length)∧Q (.ref a) H
theorem sl_tupW {X:Cx}:SlR X wo:=by
 intro pins s σ H x v vl vu lo hi sl Q I rx hs pl pu h
 obtain⟨a,xs,rfl,hx,hw,q⟩:=h
 cases rx
 obtain⟨its,r,ht,hz⟩:=I.tuple (SqT.of (K:=X.K) hx)
 have hlen:its.toArray.size=xs.length:=by rw[List.size_toArray];exact r.length.symm
 exact⟨"tuple",_,PyProof.Rows.slot_tuple_getitem.lookup,ht.typeIs,gT ht hs pl pu (by rw[hlen];exact hw) ⟨.ref a,H,I,rfl,q⟩⟩
noncomputable def wz (K:PySem.W.Frag):V→Option Int→Option Int→Hp→VK→Prop:=fun x lo hi H Q=>wA K x lo hi H Q∨wo x lo hi H Q∨wt x lo hi H Q
theorem wg {X:Cx}:SlR X (wz X.K):=sl_D.or (sl_tupW.or we)
noncomputable def slE:PV→Option Int→Option Int→M PV
 | .lst l,lo,hi=>.ret (.lst (f7 l lo hi))
 | .tup l,lo,hi=>.ret (.tup (f7 l lo hi))
 | .str z,lo,hi=>if z.length≤100000 then .ret (.str (Txt.slice z lo hi)) else .fail
 |_,_,_=>.fail
theorem wb {K:PySem.W.Frag}:SlV (wz K) slE:=fun φ G O H n R Q y lo hi x pr dm ok r w q=>by
 cases y<;>first|exact w.elim|skip
 ·rename_i z
  rw[r.str_i]
  unfold slE at w
  dsimp only at w
  by_cases hc:z.length≤100000
  ·rw[if_pos hc] at w;exact .inr (.inr ⟨z,rfl,hc,q.sc ok (.str _) w⟩)
  ·rw[if_neg hc] at w;exact w.elim
 ·rename_i l
  obtain⟨p,xs,rfl,h,e⟩:=r.tup_i
  replace w:R (.tup (f7 l lo hi)) n:=w
  by_cases hc:HT.sIx l.length 0 lo=0∧HT.sIx l.length l.length hi=l.length
  ·rw[qg l lo hi hc] at w
   cases r with
   |full r=>exact .inr (.inl ⟨p,xs,rfl,h,by rw[←e.1];exact hc,q.sc ok r w⟩)
  ·exact .inl (.inr ⟨p,xs,rfl,SqT.of h,by rw[←e.1];exact hc,fun p' hp=>q.tup ok dm hp (pr _ G.pB) (nv e lo hi) w⟩)
 ·rename_i l
  obtain⟨p,xs,rfl,h,e⟩:=r.lst_i
  exact .inl (.inl ⟨p,xs,rfl,SqL.of h,fun p' hp=>q.lst ok dm hp (pr _ G.pB) (nv e lo hi) w⟩)
end
section
variable {φ:Fam}
section
variable {X:Cx} {e:Expr} {pos:Pos}
noncomputable def keyOf:PV→Key
 | .int i=>.inl i
 | .str x=>.inr x
 |_=>.inl 0
noncomputable def inK (ks:List Key) (k:Key):Bool:=ks.any fun k'=>decide (k'=k)
noncomputable def dk (zs:List PV):List Key:=zs.foldl (fun ks z=>if inK ks (keyOf z)=true then ks else ks++[keyOf z]) []
end
end
section
variable {prog:Program} {w:World} {A:Around} {E:Value→Shared→Prop} {s:Shared}
theorem xc {it t:Addr} {i:Nat} {items:Array Value} {x:Value} {Q:Value→Shared→Prop} (ht:s.heap.IsTupleIter it t i) (hl:s.heap.IsTuple t items) (hx:items[i]?=some x)
  (q: ∀ h',h'.IsTupleIter it t (i+1)→Heap.SameBut it s.heap h'→Q x {s with heap:=h'}):wpAny (model prog w) A (Builtin.SmallTypes.nextOf (.ref it)) Q E s:=by
 have key:wpAny (model prog w) A (callSpecial? (.ref it) (Str.ofString "__next__")) (fun r s'=> ∃ v,r=some v∧Q v s') E s:=by
  obtain⟨o,ho,hc,hd⟩:=id ht
  obtain⟨ol,hol,_,nl,hdl⟩:=hl
  refine wpAny_callSpecial?_slot ht.typeIs F.slot_tuple_iterator_next (wpAny_call_entry F.slot_tuple_iterator_next ht.typeIs F.entry_tuple_iterator_next ?_ (F.args_tuple_iterator_next_1 _))
  change wpAny _ _ (field (.ref it) 0 >>= _) _ _ s
  apply wpAny_bind
  apply wpAny_field ho hd (x:=.ref t) rfl
  change wpAny _ _ (if(Value.ref t==Value.none)=true then _ else _) _ _ s
  rw[if_neg (fun z:(Value.ref t==Value.none)=true=>Bool.false_ne_true z)]
  change wpAny _ _ (field (.ref it) 1 >>= _) _ _ s
  apply wpAny_bind
  apply wpAny_field ho hd (x:=.int i 0) rfl
  change wpAny _ _ (seqItems? (.ref t) >>= _) _ _ s
  apply wpAny_bind
  apply wpAny_seqItems hol hdl
  simp only[Int.toNat_natCast,hx]
  apply wpAny_bind
  refine wpAny_setField ho hd (by simp) (wpAny_pure ⟨x,rfl,x,rfl,q _ ⟨_,Heap.get?_update_self _ ho (Obj.isFreed_of_fields (Obj.data_mapFields hd _)),?_,?_⟩ (Heap.SameBut.update ..)⟩)
  ·exact(Obj.cls_mapFields ..).trans hc
  ·rw[Obj.data_mapFields hd]
   simp[rawInt]
 unfold Builtin.SmallTypes.nextOf
 exact wpAny_bind (wpAny_mono key (fun r s' hq0=>by obtain⟨v,e,h⟩:=hq0;subst e;exact wpAny_pure h) fun _ _ h=>h)
theorem jz {it t:Addr} {i:Nat} {items:Array Value} {Q:Value→Shared→Prop} (hh:A.handled=none) (ht:s.heap.IsTupleIter it t i) (hl:s.heap.IsTuple t items) (hx:items[i]?=none)
  (q: ∀ h' e,Heap.ExtBut it s.heap h'→(∃ o,h'.get? e=some o∧o.cls= .type "StopIteration")→E (.ref e) {s with heap:=h'}):wpAny (model prog w) A (Builtin.SmallTypes.nextOf (.ref it)) Q E s:=by
 have key: ∀ Q':Option Value→Shared→Prop,wpAny (model prog w) A (callSpecial? (.ref it) (Str.ofString "__next__")) Q' E s:=by
  intro Q'
  obtain⟨o,ho,hc,hd⟩:=id ht
  obtain⟨ol,hol,_,nl,hdl⟩:=hl
  refine wpAny_callSpecial?_slot ht.typeIs F.slot_tuple_iterator_next (wpAny_call_entry F.slot_tuple_iterator_next ht.typeIs F.entry_tuple_iterator_next ?_ (F.args_tuple_iterator_next_1 _))
  change wpAny _ _ (field (.ref it) 0 >>= _) _ _ s
  apply wpAny_bind
  apply wpAny_field ho hd (x:=.ref t) rfl
  change wpAny _ _ (if(Value.ref t==Value.none)=true then _ else _) _ _ s
  rw[if_neg (fun z:(Value.ref t==Value.none)=true=>Bool.false_ne_true z)]
  change wpAny _ _ (field (.ref it) 1 >>= _) _ _ s
  apply wpAny_bind
  apply wpAny_field ho hd (x:=.int i 0) rfl
  change wpAny _ _ (seqItems? (.ref t) >>= _) _ _ s
  apply wpAny_bind
  apply wpAny_seqItems hol hdl
  simp only[Int.toNat_natCast,hx]
  apply wpAny_bind
  apply wpAny_rule
  apply wpAny_bind
  apply wpAny_setField ho hd (by simp)
  change wpAny _ _ (newExc (.type "StopIteration") [] >>= _) _ _ _
  apply wpAny_bind
  simp only[newExc,newTuple]
  apply wpAny_bind
  refine wpAny_newObj_type ?_ (by size_fits)
  apply wpAny_bind
  refine wpAny_of_eq (a:=Value.none) (by first|rfl|(simp only[firstArgMember];rfl)) ?_
  refine wpAny_newObj_type ?_ (by size_fits)
  simp only[raiseNew]
  apply wpAny_bind
  apply wpAny_handled
  rw[show A.in1.handled=none from hh]
  refine wpAny_bind (wpAny_pure (wpAny_throw ?_))
  exact q _ _ (((Heap.SameBut.update ..).extBut.push _).push _) ⟨_,Heap.get?_push_size _ rfl,rfl⟩
 unfold Builtin.SmallTypes.nextOf
 exact wpAny_bind (key _)
end
section
variable {X:Cx} {pins:List (Addr×Obj)} {σ:St} {H:Hp} {s:Shared} {h':Heap}
theorem Inv.turnedN {t':Nat} {wr:List Addr} {T:Addr} {o:HO} (I:Inv X pins σ H s) (hf: ∀ b∈wr,cx X pins H b) (k: ∀ b u,b∉wr→s.heap.get? b=some u→h'.get? b=some u) (hT:s.heap.objs.size≤T)
  (new:ObjOk X.prog X.w (upd H T o) h' T o):Inv X pins σ (upd H T o) {s with heap:=h',toks:=t'}:=by
 have nT:H T=none:=I.hok.fresh hT
 have neT: ∀ b u,s.heap.get? b=some u→b≠T:=fun b u e z=>absurd (Nat.lt_of_lt_of_le (Heap.lt_size e) (z▸hT)) (Nat.lt_irrefl _)
 have neH: ∀ b u,H b=some u→b≠T:=fun b u e z=>by rw[z,nT] at e;cases e
 have nw: ∀ b u,H b=some u→b∉wr:=fun b u e z=>by rw[(hf b z).1] at e;cases e
 refine I.step (g':=s.gens) (d':=s.drawn) (ch:=wr) (fun b hb=>⟨(hf b hb).2.2.2.1,(hf b hb).2.1,(hf b hb).2.2.2.2.1,(hf b hb).2.2.2.2.2⟩) (fun b u _ _ hc e _=>k b u hc e) (fun b u _ _ hc e _=>⟨u.slots,k b u hc e⟩)
  (fun b u _ e n=>by rw[ar (neT b u e)];exact n) (fun b u hc e=>⟨u,k b u hc e⟩) (fun b xs e=>by rw[ar (neH b _ e)];exact e) (fun b ob u e=>by rw[ar (neH b _ e)];exact e) (fun b ps e=>⟨#[],by rw[ar (neH b _ e),e];simp⟩) (fun m hm=>?_) (fun b u e=>?_) I.bare
 ·obtain⟨ob,es,ep,ho,r⟩:=hm
  exact⟨ob,es,ep,k _ ob (fun z=>(hf _ z).2.1 rfl) ho,r⟩
 ·by_cases hb:b=T
  ·subst hb;rw[aD] at e;cases e;exact new
  ·rw[ar hb] at e
   refine(I.hok b u e).stay (fun c v hc q=>k c v ?_ q) (fun c q=>by rw[ar (neH c _ q)];exact q) fun c xs q=>by rw[ar (neH c _ q)];exact q
   rcases hc with z|z
   ·rw[z];exact nw b u e
   ·exact nw c _ z
theorem Inv.turnedL {t':Nat} {wr:List Addr} (I:Inv X pins σ H s) (hf: ∀ b∈wr,cx X pins H b) (k: ∀ b u,b∉wr→s.heap.get? b=some u→h'.get? b=some u):Inv X pins σ H {s with heap:=h',toks:=t'}:=by
 have nw: ∀ b u,H b=some u→b∉wr:=fun b u e z=>by rw[(hf b z).1] at e;cases e
 refine I.step (g':=s.gens) (d':=s.drawn) (ch:=wr) (fun b hb=>⟨(hf b hb).2.2.2.1,(hf b hb).2.1,(hf b hb).2.2.2.2.1,(hf b hb).2.2.2.2.2⟩) (fun b u _ _ hc e _=>k b u hc e) (fun b u _ _ hc e _=>⟨u.slots,k b u hc e⟩)
  (fun b u _ e n=>n) (fun b u hc e=>⟨u,k b u hc e⟩) (fun b xs e=>e) (fun b ob u e=>e) (fun b ps e=>⟨#[],by rw[e];simp⟩) (fun m hm=>?_) (fun b u e=>?_) I.bare
 ·obtain⟨ob,es,ep,ho,r⟩:=hm
  exact⟨ob,es,ep,k _ ob (fun z=>(hf _ z).2.1 rfl) ho,r⟩
 ·refine(I.hok b u e).stay (fun c v hc q=>k c v ?_ q) (fun c q=>q) fun c xs q=>q
  rcases hc with z|z
  ·rw[z];exact nw b u e
  ·exact nw c _ z
end
noncomputable def Ite (K:PySem.W.Frag) (a:Addr):It:=
 ⟨fun i H=> ∃ xs x,SqL K H a xs∧xs[i]?=some x,fun i H y H'=> ∃ T,y= .ref T∧H T=none∧∀ xs x,SqL K H a xs→xs[i]?=some x→H'=upd H T (.tup [.int i,x]),fun i H=> ∃ xs,SqL K H a xs∧xs.length≤i⟩
theorem oN {P:Program} {w:World} {H:Hp} {h:Heap} {T:Addr} {x y:V} {u v:Value} (hT:h.get? T=some {cls:=.type "tuple",data:=.seq #[u,v]}) (ru:RelV x u) (rv:RelV y v):ObjOk P w H h T (.tup [x,y]):=
 ⟨by show 2≤sizeLine;decide,[u,v],.cons ru (.cons rv .nil),_,hT,rfl,_,rfl⟩
theorem qv {P:Program} {w:World} {K:PySem.W.Frag} {elts:List Expr} {kk:Nat} {pos:Pos} (a e it:Addr) (hne:e≠it):Turn P w K (.Tuple elts kk pos) (Ite K a) [e,it] e (fun i h=>(∃ old,IsEnum h e it i old)∧h.IsListIter it a i) where
 mem:=by simp
 obj:=fun i h st b hb=>by
  obtain⟨⟨old,he⟩,o,ho,hc,hd⟩:=st
  have hb':b=e∨b=it:=by simpa using hb
  rcases hb' with rfl|rfl
  ·exact⟨_,he,fun v z=>by cases z⟩
  ·exact⟨o,ho,fun v z=>by rw[hd] at z;cases z⟩
 keep:=fun i h h' st k=>by
  obtain⟨⟨old,he⟩,o,ho,hc,hd⟩:=st
  exact⟨⟨old,k e (by simp) _ he⟩,o,k it (by simp) _ ho,hc,hd⟩
 item:=by
  intro X hP hw hK hc i pins s σ H E I hf st hg
  subst hP hw hK
  obtain⟨xs,x,hq,hx⟩:=hg
  obtain⟨its,rv,p,hz⟩:=I.list hq
  obtain⟨u,hu,ru⟩:=rv.get hx
  obtain⟨⟨old,he⟩,hit⟩:=st
  refine wpAny_pyNext_enum_item he hit p.isList (x:=u) (by simpa using hu) hne fun h1 ho hit1 hT hsz k1=>?_
  refine⟨_,rfl,wpAny_letOwnedTupleGo_enum (s:={s with heap:=h1,toks:=s.toks+1}) ho fun h2 he2 s2=>?_⟩
  have lt: ∀ b o,s.heap.get? b=some o→b≠s.heap.objs.size:=fun b o q=>Nat.ne_of_lt (Heap.lt_size q)
  have neT:s.heap.objs.size≠e:=fun z=>lt e _ he z.symm
  have hT2:h2.get? s.heap.objs.size=some {cls:=.type "tuple",data:=.seq #[.int i s.toks,u]}:=(s2.2 _ neT).trans hT
  have I2:=I.turnedN (t':=s.toks+1) (h':=h2) (wr:=[e,it]) (T:=s.heap.objs.size) (o:=.tup [.int i,x]) hf (fun b o hb q=>by
   have hb':b≠e∧b≠it:=by simpa using hb
   exact(s2.2 b hb'.1).trans (k1 b o hb'.1 hb'.2 q)) (Nat.le_refl _) (oN hT2 ⟨_,rfl⟩ ru)
  refine⟨.ref s.heap.objs.size,_,I2,rfl,⟨_,rfl,I.hok.fresh (Nat.le_refl _),fun ys y hy hyx=>?_⟩,⟨⟨_,by simpa using he2⟩,hit1.at fun o q=>(s2.2 it hne.symm).trans q⟩,fun b hb=>?_⟩
  ·rw[I.list_inj hy hq,hx] at hyx
   cases hyx
   rfl
  ·have hlt:b≠s.heap.objs.size:=by
    have hb':b=e∨b=it:=by simpa using hb
    rcases hb' with rfl|rfl
    ·exact fun z=>neT z.symm
    ·obtain⟨o,ho',_⟩:=hit
     exact lt _ _ ho'
   rw[ar hlt]
   exact(hf b hb).1
 done:=by
  intro X hP hw hK hc i pins s σ H E I hf st hg
  subst hP hw hK
  obtain⟨xs,hq,hx⟩:=hg
  obtain⟨its,rv,p,hz⟩:=I.list hq
  have hl:=rv.length
  obtain⟨⟨old,he⟩,hit⟩:=st
  refine wpAny_pyNext_enum_end (I.ok.hd hc) he hit p.isList (by simp;lia) fun h1 k1=>⟨rfl,I.turnedL (t':=s.toks) hf fun b o hb q=>k1 b o (fun z=>hb (by simp[z])) q⟩
 self:=fun _ _ _ _ _ st h=>by
  obtain⟨⟨old,he⟩,_⟩:=st
  exact wpAny_pyIter_enum he h
noncomputable def Itz (a b:Addr):It:=
 ⟨fun i H=> ∃ xs ys x y,H a=some (.tup xs)∧H b=some (.tup ys)∧xs[i]?=some x∧ys[i]?=some y,fun i H r H'=> ∃ T,r= .ref T∧H T=none∧∀ xs ys x y,H a=some (.tup xs)→H b=some (.tup ys)→xs[i]?=some x→ys[i]?=some y→H'=upd H T (.tup [x,y]),fun i H=> ∃ xs ys,H a=some (.tup xs)∧H b=some (.tup ys)∧(xs.length≤i∨ys.length≤i)⟩
section
variable {X:Cx} {e e2:Expr} {t1 t2:TE} {elts:List Expr} {kk:Nat} {tpos pos p:Pos} {x:Str}
noncomputable def uE (K:PySem.W.Frag) (ta:TA):TI:=fun σ H R=>ta σ H fun vs H1=> ∃ a xs,vs=[.ref a]∧SqL K H1 a xs∧R (Ite K a) H1
theorem vN {pins:List (Addr×Obj)} {σ:St} {H:Hp} {s:Shared} {R:It→Hp→Prop} {a:Addr} {xs:List V} (I:Inv X pins σ H s) (ha:SqL X.K H a xs) (q:R (Ite X.K a) H):
  wpAny (model X.prog X.w) X.A (call (.type "enumerate") [.ref a]) (fun v s1=>wpAny (model X.prog X.w) X.A (pyIter v) (PIE X pins σ (.Tuple elts kk tpos) R) X.xe s1) X.xe s:=by
 obtain⟨its,rv,p1,hz⟩:=I.list ha
 refine call_enumerate_list p1.isList fun h1 he hit hsz k1=>?_
 have I1:Inv X pins σ H {s with heap:=h1}:=I.kept (t':=s.toks) k1
 refine wpAny_pyIter_enum (s:={s with heap:=h1}) he ?_
 refine⟨_,[s.heap.objs.size+1,s.heap.objs.size],_,Ite X.K a,H,rfl,I1,qv a _ _ (Nat.succ_ne_self _),⟨⟨_,he⟩,hit⟩,fun c hc=>?_,q⟩
 have hle:s.heap.objs.size≤c:=by
  rcases List.mem_cons.mp hc with h|hc
  ·rw[h];exact Nat.le_succ _
  ·rw[List.mem_singleton.mp hc];exact Nat.le_refl _
 exact I.fpOk hle (I.hok.fresh hle)
theorem ve (hg:Gl X x) (hm:X.mg x=none) (hv:bootBuiltins x=some (.type "enumerate")) {ta:TA} (ha:PA X [e] ta) (hn:x≠"__name__":=by decide) (hdb:(x==("__debug__":Str))=false:=by decide)
  (he:starEach [e] X.env=(false,eval e X.env)::starEach [] X.env:=by rfl) (hpl:(backTo pos (starEach [] X.env)).any (·.1)=false:=by rfl):PI X (.Tuple elts kk tpos) (.Call (.Name x p) [e] [] pos) (uE X.K ta):=by
 intro pins s σ H R I h
 refine wpAny_Call_Name_kw (fh I hg hm hv ?_ hn hdb)
 refine PyProof.Rows.callWith_type1 (thn (ha pos pins s σ H _ I h) fun us s1 ⟨vs,H1,I1,r1,q1⟩=>?_) he hpl
 obtain⟨a,xs,rfl,h1,q⟩:=q1
 obtain⟨u,rfl,ru⟩:=r1.one
 cases ru
 exact vN I1 h1 q
end
section
variable {φ:Fam}
noncomputable def yy (l1 l2:List PV):List PV:=List.zipWith (fun x y=>PV.tup [x,y]) l1 l2
inductive ItQ (G:Bg φ) (O:Addr→Prop) (H:Hp):List PV→It→Prop where
 |zip {a b:Addr} {xs ys:List V} {l1 l2:List PV} (na: ¬ O a) (ha:H a=some (.tup xs)) (ra:Reps G.B O H l1 xs) (nb: ¬ O b) (hb:H b=some (.tup ys)) (rb:Reps G.B O H l2 ys):ItQ G O H (yy l1 l2) (Itz a b)
end
section
variable {φ:Fam}
section
variable {X:Cx} {e:Expr}
noncomputable def qF (a b c:Int):Prop:=0 < c∧c < 1000000000∧-1000000000000 < a∧a < 1000000000000∧-1000000000000 < b∧b < 1000000000000
end
end
section
variable {φ:Fam}
instance (a b c:Int):Decidable (qF a b c):=by unfold qF;infer_instance
end
theorem hM {i j:Int} (h0:0≤j) (h1:j < 2 ^ 63):CMul i j:=by
 have e:(2:Int) ^ 63=9223372036854775808:=by decide
 have e2:(2:Int) ^ 64=18446744073709551616:=by decide
 rw[e] at h1
 exact .inr ⟨by rw[e2];lia,by rw[e2];lia⟩
theorem fq {i j:Int} (h0:0≤i) (h1:i < 2 ^ 63):CMul i j:=by
 have e:(2:Int) ^ 63=9223372036854775808:=by decide
 have e2:(2:Int) ^ 64=18446744073709551616:=by decide
 rw[e] at h1
 exact .inl ⟨by rw[e2];lia,by rw[e2];lia⟩
theorem at0 (x:Int) (ns:List Int):atI ((x::ns).map V.int) 0=some (.int x):=(pd (j:=0) rfl:atI ((x::ns).map V.int) ((0:Nat):Int)=some (.int x))
theorem qh (ns:List Int):eO (ns.map V.int) none (some 63)=(ns.take 63).map V.int:=by
 unfold eO
 rw[HT.sIx_none]
 have e:HT.sIx (ns.map V.int).length (ns.map V.int).length (some 63)=min 63 (ns.map V.int).length:=HT.sIx_nat _ _ 63
 rw[e,List.drop_zero,Nat.sub_zero,List.length_map,←List.map_take]
 congr 1
 rw[List.take_eq_take_iff]
 lia
theorem tU {K:PySem.W.Frag} {a:Addr} {xs:List V} {g:TG} {tb:TS} {D:Ends} {σ:St} {H:Hp} (Pv:Nat→L2.St→Hp→Prop) (h0:Pv 0 σ H) (hl: ∀ i σ H,i≤xs.length→Pv i σ H→SqL K H a xs)
  (hs: ∀ i x σ H T,xs[i]?=some x→H T=none→Pv i σ H→g (.ref T) σ (upd H T (.tup [.int i,x])) fun σ2 H2=>tb {D with nx:=Pv (i+1),ct:=Pv (i+1),bk:=D.nx} σ2 H2) (hd: ∀ σ H,Pv xs.length σ H→D.nx σ H):
  ∃ W:Nat→Nat→L2.St→Hp→Prop,(∃ m,W 0 m σ H)∧∀ i m σ H,W i m σ H→
   ((Ite K a).stop i H∧D.nx σ H)∨((Ite K a).go i H∧∃ N:L2.St→Hp→Prop,(∀ σ' H',N σ' H'→∃ m',m' < m∧W (i+1) m' σ' H')∧∀ x H',(Ite K a).yld i H x H'→g x σ H' fun σ2 H2=>tb {D with nx:=N,ct:=N,bk:=D.nx} σ2 H2):=by
 refine⟨fun i m σ H=>m=xs.length - i∧i≤xs.length∧Pv i σ H,⟨xs.length,by simp,Nat.zero_le _,h0⟩,?_⟩
 rintro i m σ H ⟨rfl,hi,p⟩
 have q:=hl i σ H hi p
 by_cases hlt:i < xs.length
 ·refine .inr ⟨⟨xs,xs[i],q,by simp[hlt]⟩,Pv (i+1),fun σ' H' p'=>⟨xs.length - (i+1),by lia,rfl,hlt,p'⟩,fun x H' y=>?_⟩
  obtain⟨T,rfl,hT,y⟩:=y
  rw[y xs xs[i] q (by simp[hlt])]
  exact hs i _ σ H T (by simp[hlt]) hT p
 ·have e:i=xs.length:=by lia
  subst e
  exact .inl ⟨⟨xs,q,Nat.le_refl _⟩,hd σ H p⟩
section
variable {X:Cx} {x:Str} {p pos tpos:Pos} {e:Expr} {elts:List Expr} {kk:Nat}
theorem sM {ta:TA} (hg:Gl X x) (hm:X.mg x=none) (hv:bootBuiltins x=some (.type "enumerate")) (ha:PA X [e] ta) (hn:x≠"__name__":=by decide) (hdb:(x==("__debug__":Str))=false:=by decide)
  (he:starEach [e] X.env=(false,eval e X.env)::starEach [] X.env:=by rfl) (hpl:(backTo pos (starEach [] X.env)).any (·.1)=false:=by rfl):PI X (.Tuple elts kk tpos) (.Call (.Name x p) [e] [] pos) (uE X.K ta):=ve hg hm hv ha hn hdb he hpl
end
noncomputable def meet (l:List Str) (z:Str):List Str:=if l.any (· ==z) then l else l++[z]
noncomputable def met (zs:List Str):List Str:=zs.foldl meet []
mutual
noncomputable def toD:PV→Option PyData
 | .non=>some .none
 | .bl b=>some (.bool b)
 | .int i=>some (.int i)
 | .str x=>some (.str x)
 | .tup l=>(fY l).map .tuple
 | .lst l=>(fY l).map .list
 |_=>none
noncomputable def fY:List PV→Option (List PyData)
 |[]=>some []
 |y::l=>(toD y).bind fun d=>(fY l).map (d:: ·)
end
theorem g8 {h:Heap}: ∀ (l:List PV) (xs:List V) (its:List Value) (ds:List PyData),l.length=xs.length→(∀ (i:Nat) (y:PV) (x:V),l[i]?=some y→xs[i]?=some x→∀ v d,RelV x v→toD y=some d→∃ as,Reads h v d as)→Vals xs its→fY l=some ds→∃ as,ReadsAll h its ds as
 |[],[],_,ds,_,_,.nil,e=>by
  simp only[fY] at e
  cases e
  exact⟨_,.nil⟩
 |y::l,x::xs,_,ds,hl,ih,.cons r rs,e=>by
  simp only[fY] at e
  cases e1:toD y with
  |none=>rw[e1] at e;cases e
  |some d=>
   rw[e1] at e
   cases e2:fY l with
   |none=>rw[e2] at e;cases e
   |some dl=>
    rw[e2] at e
    cases e
    obtain⟨as,r1⟩:=ih 0 y x rfl rfl _ d r e1
    obtain⟨bs,r2⟩:=g8 l xs _ dl (by simpa using hl) (fun i y' x' hy hx=>ih (i+1) y' x' hy hx) rs e2
    exact⟨_,.cons r1 r2⟩
 |[],_::_,_,_,hl,_,_,_=>by cases hl
 |_::_,[],_,_,hl,_,_,_=>by cases hl
theorem sC {P:Program} {w:World} {B:Addr} {O:Addr→Prop} {H:Hp} {h:Heap} (ok:HOk P w H h) {y:PV} {x:V} (r:Rep B O H y x): ∀ v d,RelV x v→toD y=some d→∃ as,Reads h v d as:=by
 induction r with
 |non=>
  intro v d rv e
  simp only[toD] at e
  cases e
  cases rv
  exact⟨_,.none⟩
 |bl b=>
  intro v d rv e
  simp only[toD] at e
  cases e
  cases rv
  exact⟨_,.bool b⟩
 |int i=>
  intro v d rv e
  simp only[toD] at e
  cases e
  obtain⟨t,rfl⟩:=rv
  exact⟨_,.int i t⟩
 |str z=>
  intro v d rv e
  simp only[toD] at e
  cases e
  obtain⟨t,rfl⟩:=rv
  exact⟨_,.str z t⟩
 |tup hO hp hl hr ih=>
  intro v d rv e
  simp only[toD] at e
  obtain⟨ds,e1,rfl⟩:=Option.map_eq_some_iff.mp e
  cases rv
  obtain⟨_,its,rs,o,ho,hc,n,hd⟩:=ok _ _ hp
  obtain⟨as,ra⟩:=g8 _ _ its ds hl ih rs e1
  exact⟨_,.tuple ho hc hd (by simpa using ra)⟩
 |lst hO hp hl hr ih=>
  intro v d rv e
  simp only[toD] at e
  obtain⟨ds,e1,rfl⟩:=Option.map_eq_some_iff.mp e
  cases rv
  obtain⟨_,its,n,rs,ho⟩:=ok _ _ hp
  obtain⟨as,ra⟩:=g8 _ _ its ds hl ih rs e1
  exact⟨_,.list ho rfl rfl (by simpa using ra)⟩
 |dct hO hp hk hr ih=>
  intro v d rv e
  simp only[toD] at e
  cases e
 |scr hO hp=>
  intro v d rv e
  simp only[toD] at e
  cases e
 |bag=>
  intro v d rv e
  simp only[toD] at e
  cases e
section
variable {X:Cx}
noncomputable def ff (d:PyData):Prop:=d.showable=true∧d.hasDict=false∧d.shown.length≤1000000∧d.depth≤40
noncomputable def wB:List V→Hp→VK→Prop:=fun xs H Q=> ∃ (B:Addr) (O:Addr→Prop) (l:List PV) (x:V) (d:PyData),xs=[x]∧Rep B O H (.tup l) x∧toD (.tup l)=some d∧ff d∧Q (.str d.shown) H
theorem qi (hg:X.A.guards=some []) (hu:X.A.units+64 < cLine):dH X (.builtin "repr") wB:=by
 intro pins s σ H xs us Q I r h
 obtain⟨B,O,l,x,d,rfl,rp,hd,⟨h1,h2,h3,h4⟩,q⟩:=h
 obtain⟨u,rfl,rx⟩:=vals1 r
 obtain⟨as,rd⟩:=sC I.hok rp u d rx hd
 simp only[toD] at hd
 obtain⟨ds,e1,rfl⟩:=Option.map_eq_some_iff.mp hd
 have hz:(PyData.tuple ds).shown.length≤sizeLine:=by rw[sizeLine_eq];lia
 have rd0:=rd
 cases rd with
 |tuple g1 g2 g3 g4=>
  rename_i a o vs n
  have hz':(tupleText (PyData.shownAll ds)).length≤sizeLine:=by simpa only[PyData.shown] using hz
  obtain⟨bs,hb,hk⟩:=ReprAllK.of_readsAll (prog:=X.prog) (w:=X.w) g4 (by simpa[PyData.showable] using h1) (fun hx=>absurd hx (by simpa[PyData.hasDict] using h2)) (fun t ht=>Nat.le_trans (tupleText_mem_le ht) hz')
  have hna:a∉bs:=not_mem_of_deeper rd0 (by simp only[PyData.depth];lia) hb
  simp only[PyData.depth] at h4
  refine call_repr_slot (by first|decide|lia) ⟨o,g1,g2⟩ PySem.F.slot_tuple_repr ?_
  refine call_tuple_reprK (h₀:=s.heap) g1 g2 g3 hna hk (g:=[]) (by first|exact hg|simpa[Around.in1] using hg) (fun b _=>Clear.nil b) (by show X.A.units+1+_ < cLine;lia) (fun _ _ e=>e) (fun h' u tk k=>⟨_,_,rfl,?_⟩) hz'
  exact⟨.str _,H,I.kept k,⟨_,rfl⟩,by simpa only[PyData.shown] using q⟩
end
instance (d:PyData):Decidable (ff d):=by unfold ff;infer_instance
section
open PySem.W (KasT kas_rev kas_asc kas_desc kas_tail3 kas_descPart kas_count kas_place kas_bin kas_sort)
section
variable (r:Nat→Int)
noncomputable def runK {α:Type}:KasT α→α
 | .ret a=>a
 | .ask i j k=>runK (k (decide (r i < r j)))
theorem run_bind {α β:Type} (f:α→KasT β): ∀ t:KasT α,runK r (t.bind f)=runK r (f (runK r t))
 | .ret a=>rfl
 | .ask i j k=>run_bind f (k (decide (r i < r j)))
theorem oG {α:Type} {c:Prop} [Decidable c] (a b:KasT α):runK r (if c then a else b)=if c then runK r a else runK r b:=by split<;>rfl
noncomputable def kg (p:Array Nat) (k:Nat):Int:=r (p.getD k 0)
noncomputable def Ups (p:Array Nat) (m:Nat):Prop:= ∀ i j,i < j→j < m→kg r p i < kg r p j
noncomputable def Unl (p:Array Nat):Prop:= ∀ i j,i < p.size→j < p.size→i≠j→kg r p i≠kg r p j
variable {r}
theorem r8 {p:Array Nat} {n:Nat} (h1:1≤n) (h:Ups r p n) (h':kg r p (n - 1) < kg r p n):Ups r p (n+1):=fun i j hij hj=>by
 by_cases e:j=n
 ·subst e
  by_cases e2:i=j - 1
  ·subst e2;exact h'
  ·exact Int.lt_trans (h i (j - 1) (by first|decide|lia) (by first|decide|lia)) h'
 ·exact h i j hij (by first|decide|lia)
theorem nM {p:Array Nat} (u:Unl r p): ∀ (f n:Nat),1≤n→n+f≤p.size→Ups r p n→∃ m,runK r (kas_asc p f n)=m∧n≤m∧m≤n+f∧Ups r p m∧(m < n+f→kg r p m < kg r p (m - 1))
 |0,n,h1,hz,h=>⟨n,rfl,by lia,by lia,h,fun z=>by lia⟩
 |f+1,n,h1,hz,h=>by
  unfold kas_asc
  show ∃ m,runK r (if decide (r (p.getD n 0) < r (p.getD (n - 1) 0))=true then KasT.ret n else kas_asc p f (n+1))=m∧_
  by_cases c:r (p.getD n 0) < r (p.getD (n - 1) 0)
  ·rw[if_pos (by simpa using c)]
   exact⟨n,rfl,by lia,by lia,h,fun _=>c⟩
  ·rw[if_neg (by simpa using c)]
   have ne:=u (n - 1) n (by first|decide|lia) (by first|decide|lia) (by first|decide|lia)
   have lt:kg r p (n - 1) < kg r p n:=by
    have: ¬ kg r p n < kg r p (n - 1):=c
    lia
   obtain⟨m,e,a1,a2,a3,a4⟩:=nM u f (n+1) (by first|decide|lia) (by first|decide|lia) (r8 h1 h lt)
   exact⟨m,e,by lia,by lia,a3,fun z=>a4 (by first|decide|lia)⟩
noncomputable def Dns (r:Nat→Int) (p:Array Nat) (m:Nat):Prop:= ∀ i j,i < j→j < m→kg r p j < kg r p i
theorem ng {p:Array Nat} {n:Nat} (h1:1≤n) (h:Dns r p n) (h':kg r p n < kg r p (n - 1)):Dns r p (n+1):=fun i j hij hj=>by
 by_cases e:j=n
 ·subst e
  by_cases e2:i=j - 1
  ·subst e2;exact h'
  ·exact Int.lt_trans h' (h i (j - 1) (by first|decide|lia) (by first|decide|lia))
 ·exact h i j hij (by first|decide|lia)
theorem o4 {p:Array Nat} (u:Unl r p): ∀ (f n:Nat),1≤n→n+f≤p.size→Dns r p n→∃ m,runK r (kas_desc f p n 0)=(p,m,0)∧n≤m∧m≤n+f∧Dns r p m
 |0,n,h1,hz,h=>⟨n,rfl,by lia,by lia,h⟩
 |f+1,n,h1,hz,h=>by
  unfold kas_desc
  by_cases c:r (p.getD n 0) < r (p.getD (n - 1) 0)
  ·obtain⟨m,e,a1,a2,a3⟩:=o4 u f (n+1) (by first|decide|lia) (by first|decide|lia) (ng h1 h c)
   refine⟨m,?_,by lia,by lia,a3⟩
   show runK r (if decide (r (p.getD n 0) < r (p.getD (n - 1) 0))=true then _ else _)=_
   rw[if_pos (by simpa using c),if_neg (by first|decide|lia)]
   exact e
  ·have ne:=u (n - 1) n (by first|decide|lia) (by first|decide|lia) (by first|decide|lia)
   have lt:r (p.getD (n - 1) 0) < r (p.getD n 0):=by
    have n1: ¬ kg r p n < kg r p (n - 1):=c
    have n2:kg r p (n - 1) < kg r p n:=by lia
    exact n2
   refine⟨n,?_,by lia,by lia,h⟩
   show runK r (if decide (r (p.getD n 0) < r (p.getD (n - 1) 0))=true then _ else _)=_
   rw[if_neg (by simpa using c)]
   show runK r (if decide (r (p.getD (n - 1) 0) < r (p.getD n 0))=true then _ else _)=_
   rw[if_pos (by simpa using lt)]
   rfl
theorem wm {p:Array Nat} {m k:Nat} (hm:m≤p.size):(kas_rev p 0 m).getD k 0=if k < m then p.getD (m - 1 - k) 0 else p.getD k 0:=by
 have e:=getElem?_mirror_all (xs:=p) (i:=0) (j:=m) hm k
 unfold kas_rev
 rw[Array.getD_eq_getD_getElem?,e]
 by_cases c:k < m
 ·rw[if_pos ⟨Nat.zero_le _,c⟩,if_pos c,Array.getD_eq_getD_getElem?]
  congr 2
  lia
 ·rw[if_neg (fun z=>c z.2),if_neg c,Array.getD_eq_getD_getElem?]
theorem jq {p:Array Nat} {m:Nat} (hm:m≤p.size) (k:Nat):kg r (kas_rev p 0 m) k=if k < m then kg r p (m - 1 - k) else kg r p k:=by
 unfold kg
 rw[wm hm]
 by_cases c:k < m
 ·rw[if_pos c,if_pos c]
 ·rw[if_neg c,if_neg c]
theorem oH {p:Array Nat} {m:Nat} (hm:m≤p.size) (u:Unl r p):Unl r (kas_rev p 0 m):=fun i j hi hj ne=>by
 have hz:(kas_rev p 0 m).size=p.size:=mirror_size _ _ _ _
 rw[hz] at hi hj
 rw[jq hm,jq hm]
 split<;>split
 ·exact u _ _ (by first|decide|lia) (by first|decide|lia) (by first|decide|lia)
 ·exact u _ _ (by first|decide|lia) (by first|decide|lia) (by first|decide|lia)
 ·exact u _ _ (by first|decide|lia) (by first|decide|lia) (by first|decide|lia)
 ·exact u _ _ hi hj ne
theorem uZ {p:Array Nat} {m:Nat} (hm:m≤p.size) (h:Dns r p m):Ups r (kas_rev p 0 m) m:=fun i j hij hj=>by
 rw[jq hm,jq hm,if_pos (by first|decide|lia),if_pos hj]
 exact h (m - 1 - j) (m - 1 - i) (by first|decide|lia) (by first|decide|lia)
theorem count_is {p:Array Nat} (u:Unl r p) (h2:1≤p.size): ∃ m p',runK r (kas_count p.size p)=(m,p')∧1≤m∧m≤p.size∧p'.size=p.size∧p'.Perm p∧Unl r p'∧Ups r p' m:=by
 unfold kas_count
 rw[run_bind]
 obtain⟨n,e,a1,a2,a3,a4⟩:=nM u (p.size - 1) 1 (by first|decide|lia) (by first|decide|lia) (fun i j hij hj=>by lia)
 rw[e]
 by_cases c1:n=p.size
 ·rw[if_pos (by simpa using c1)]
  exact⟨n,p,rfl,a1,by lia,rfl,.refl _,u,a3⟩
 ·rw[if_neg (by simpa using c1)]
  by_cases c2:n > 1
  ·rw[if_pos c2]
   have lt:r (p.getD 0 0) < r (p.getD (n - 1) 0):=a3 0 (n - 1) (by first|decide|lia) (by first|decide|lia)
   refine⟨n,p,?_,a1,by lia,rfl,.refl _,u,a3⟩
   show runK r (if decide (r (p.getD 0 0) < r (p.getD (n - 1) 0))=true then _ else _)=_
   rw[if_pos (by simpa using lt)]
   rfl
  ·rw[if_neg c2]
   have en:n=1:=by lia
   subst en
   have lt:=a4 (by first|decide|lia)
   unfold kas_descPart
   rw[run_bind]
   obtain⟨m,e2,b1,b2,b3⟩:=o4 u (p.size - (1+1)) (1+1) (by first|decide|lia) (by first|decide|lia) (ng (Nat.le_refl 1) (fun i j hij hj=>by lia) lt)
   rw[e2]
   rw[if_neg (by show ¬ (0 > 0);lia)]
   unfold kas_tail3
   rw[run_bind]
   have hz:(kas_rev p 0 m).size=p.size:=mirror_size _ _ _ _
   obtain⟨m',e3,d1,d2,d3,d4⟩:=nM (oH (m:=m) (by first|decide|lia) u) (p.size - m) m (by first|decide|lia) (by rw[hz];lia) (uZ (by first|decide|lia) b3)
   rw[e3]
   exact⟨m',kas_rev p 0 m,rfl,by lia,by lia,hz,mirror_perm _ _ _ _,oH (by first|decide|lia) u,d3⟩
theorem iX {p:Array Nat} {k:Nat} (u:Unl r p) (hk:k < p.size) (h:Ups r p k): ∀ (f l q:Nat),q≤l+f→q≤k→l≤q→(∀ i,i < l→kg r p i < kg r p k)→(∀ i,q≤i→i < k→kg r p k < kg r p i)→∃ m,runK r (kas_place p k f l q)=m∧m≤k∧(∀ i,i < m→kg r p i < kg r p k)∧∀ i,m≤i→i < k→kg r p k < kg r p i
 |0,l,q,hf,hq,hl,lo,hi=>⟨l,rfl,by lia,lo,fun i h1 h2=>hi i (by first|decide|lia) h2⟩
 |f+1,l,q,hf,hq,hl,lo,hi=>by
  unfold kas_place
  rw[oG]
  by_cases c:l ≥ q
  ·rw[if_pos c]
   exact⟨l,rfl,by lia,lo,fun i h1 h2=>hi i (by first|decide|lia) h2⟩
  ·rw[if_neg c]
   show ∃ m,runK r (if decide (r (p.getD k 0) < r (p.getD ((l+q) / 2) 0))=true then _ else _)=m∧_
   have hmid:(l+q) / 2 < q:=by lia
   by_cases d:r (p.getD k 0) < r (p.getD ((l+q) / 2) 0)
   ·rw[if_pos (by simpa using d)]
    refine iX u hk h f l ((l+q) / 2) (by first|decide|lia) (by first|decide|lia) (by first|decide|lia) lo fun i h1 h2=>?_
    by_cases e:i=(l+q) / 2
    ·subst e;exact d
    ·exact Int.lt_trans d (h _ i (by first|decide|lia) h2)
   ·rw[if_neg (by simpa using d)]
    have ne:=u ((l+q) / 2) k (by first|decide|lia) hk (by first|decide|lia)
    have lt:kg r p ((l+q) / 2) < kg r p k:=by
     have d': ¬ kg r p k < kg r p ((l+q) / 2):=d
     lia
    refine iX u hk h f ((l+q) / 2+1) q (by first|decide|lia) hq (by first|decide|lia) (fun i h1=>?_) hi
    by_cases e:i=(l+q) / 2
    ·subst e;exact lt
    ·exact Int.lt_trans (h i _ (by first|decide|lia) (by first|decide|lia)) lt
theorem xI {p:Array Nat} {k l i:Nat} (hk:k < p.size) (hl:l≤k):kg r (bubble p k (k - l)) i=if i=l then kg r p k else if l < i∧i≤k then kg r p (i - 1) else kg r p i:=by
 have e:=getElem?_bubble (xs:=p) hk (k - l) (by first|decide|lia) i
 unfold kg
 rw[Array.getD_eq_getD_getElem?,e,show k - (k - l)=l by lia]
 by_cases c1:i=l
 ·rw[if_pos c1,if_pos c1,Array.getD_eq_getD_getElem?]
 ·rw[if_neg c1,if_neg c1]
  by_cases c2:l < i∧i≤k
  ·rw[if_pos c2,if_pos c2,Array.getD_eq_getD_getElem?]
  ·rw[if_neg c2,if_neg c2,Array.getD_eq_getD_getElem?]
theorem rW: ∀ (f:Nat) (p:Array Nat) (k:Nat),k+f=p.size→Unl r p→Ups r p k→∃ p',runK r (kas_bin f p k)=p'∧p'.size=p.size∧p'.Perm p∧Ups r p' p.size
 |0,p,k,hz,u,h=>⟨p,rfl,rfl,.refl _,by rw[←hz];exact h⟩
 |f+1,p,k,hz,u,h=>by
  unfold kas_bin
  rw[run_bind]
  obtain⟨l,e,a1,a2,a3⟩:=iX u (show k < p.size by lia) h k 0 k (by first|decide|lia) (Nat.le_refl _) (Nat.zero_le _) (fun i hi=>by lia) (fun i h1 h2=>by lia)
  rw[e]
  have hb:(bubble p k (k - l)).size=p.size:=bubble_size _ _ _
  have at_:=fun i=>xI (r:=r) (p:=p) (k:=k) (l:=l) (i:=i) (by first|decide|lia) a1
  have u':Unl r (bubble p k (k - l)):=fun i j hi hj ne=>by
   rw[hb] at hi hj
   rw[at_ i,at_ j]
   repeat' split
   all_goals first|(exfalso;lia)|exact u _ _ (by first|decide|lia) (by first|decide|lia) (by first|decide|lia)
  have h':Ups r (bubble p k (k - l)) (k+1):=fun i j hij hj=>by
   rw[at_ i,at_ j]
   repeat' split
   all_goals first|(exfalso;lia)|exact a2 _ (by first|decide|lia)|exact a3 _ (by first|decide|lia) (by first|decide|lia)|exact h _ _ (by first|decide|lia) (by first|decide|lia)
  obtain⟨p',e',b1,b2,b3⟩:=rW f (bubble p k (k - l)) (k+1) (by rw[hb];lia) u' h'
  exact⟨p',e',b1.trans hb,b2.trans (bubble_perm _ _ _),by rw[hb] at b3;exact b3⟩
theorem uS {n:Nat} (hn:1≤n) (u: ∀ i j,i < n→j < n→i≠j→r i≠r j): ∃ p,runK r (kas_sort n)=p∧p.size=n∧p.Perm (List.toArray (List.range n))∧Ups r p n:=by
 have hz:(List.toArray (List.range n)).size=n:=by simp
 have u0:Unl r (List.toArray (List.range n)):=fun i j hi hj ne=>by
  rw[hz] at hi hj
  unfold kg
  have e: ∀ k,k < n→(List.toArray (List.range n)).getD k 0=k:=fun k hk=>by
   rw[Array.getD_eq_getD_getElem?]
   simp[hk]
  rw[e i hi,e j hj]
  exact u i j hi hj ne
 unfold kas_sort
 rw[run_bind]
 obtain⟨m,p',e,a1,a2,a3,a4,a5,a6⟩:=count_is u0 (by rw[hz];exact hn)
 rw[hz] at e a2 a3
 rw[e]
 dsimp only
 rw[oG]
 by_cases c:m < n
 ·rw[if_pos c,Nat.max_eq_left a1]
  obtain⟨p2,e2,b1,b2,b3⟩:=rW (n - m) p' m (by first|decide|lia) a5 a6
  rw[a3] at b1 b3
  exact⟨p2,e2,b1,b2.trans a4,b3⟩
 ·rw[if_neg c]
  have:m=n:=by lia
  subst this
  exact⟨p',rfl,a3,a4,a6⟩
end
end
noncomputable def BIn (h:Heap) (mg:Str→Option Value):Prop:= ∃ bm ob,mg "__builtins__"=some (.ref bm)∧bm≠builtinsNs∧h.get? bm=some ob∧ob.cls= .type "module"∧ob.dict=some builtinsNs∧ob.data= .plain
noncomputable abbrev m8:Obj:={cls:=.none,data:=.fields #[]}
theorem rF {P:Program} {w:World} {K:PySem.W.Frag} {mg mb:Str→Option Value} {CX:CXT} {k:Nat} {fa a:Addr} {tbs:List Addr} {fd:FuncData} {x:Str} {sp:Sp} {s:Shared} {vs:List Value} {ns:List Int}
  (KX:K.In s.heap) (hns:s.heap.Ns mainGlobals mg) (hbn:s.heap.Ns builtinsNs mb) (hbb: ∀ x:Str,x≠"__name__"→mb x=bootBuiltins x) (hlim:s.heap.NoLimit) (hbm:BIn s.heap mg) (hg:s.gens= #[])
  (ha:s.heap.get? a=some {cls:=.type "list",data:=.seq vs.toArray}) (hi:IntsAre vs ns) (hl:ns.length≤sizeLine) (hr:Room k callerA)
  (ht: ∀ tb∈tbs,isCodeTable s.heap tb∧s.heap.get? tb=some m8∧K.lookup tb=none)
  (F: ∀ base:Heap,K.In base→base.Ns mainGlobals mg→BIn base mg→FnOk P w K mg base CX k fa fd [x] sp) (hbind: ∀ (s:Shared) (u:Value),BindsTo s fd ⟨[u],[]⟩ [(x,u)])
  (hsp: ∀ H:Hp,(∀ tb∈tbs,H tb=some (.tbl #[]))→SqL K H a (ns.map V.int)→sp [.ref a] H (fun v _=>v= .bl true) fun _ _ _=>False)
  (hCX: ∀ H e s',CX [] H s (fun _ _ _=>False) e s'→False):
  codeAny (model P w) callerA (.call (.ref fa) ⟨[.ref a],[]⟩) (fun r s'=>r= .ok (.ret (.bool true))∧OldK s.heap s'.heap∧s'.os=s.os∧AllBare s'.gens) s:=by
 have hta:a∉tbs:=fun z=>by
  have gt:=(ht a z).2.1
  rw[ha] at gt
  cases gt
 let so:HO:=.frz {cls:=.type "list",data:=.seq vs.toArray} (.lst (ns.map V.int))
 let H:Hp:=fun b=>if b∈tbs then some (.tbl #[]) else if b=a∧K.lookup a=none then some so else none
 have Ht: ∀ tb∈tbs,H tb=some (.tbl #[]):=fun tb z=>if_pos z
 have cases_: ∀ b u,H b=some u→(b∈tbs∧u= .tbl #[])∨(b=a∧K.lookup a=none∧u=so):=fun b u e=>by
  by_cases c1:b∈tbs
  ·rw[Ht b c1] at e
   cases e
   exact .inl ⟨c1,rfl⟩
  ·by_cases c2:b=a∧K.lookup a=none
   ·rw[show H b=some so from(if_neg c1).trans (if_pos c2)] at e
    cases e
    exact .inr ⟨c2.1,c2.2,rfl⟩
   ·rw[show H b=none from(if_neg c1).trans (if_neg c2)] at e
    cases e
 have hok:HOk P w H s.heap:=fun b u e=>by
  rcases cases_ b u e with⟨z,rfl⟩|⟨rfl,_,rfl⟩
  ·exact(ht b z).2.1
  ·exact⟨ha,by rw[List.length_map];exact hl,vs,_,gU hi,ha⟩
 have free': ∀ {b:Addr} {o:Obj},s.heap.get? b=some o→o≠m8→o≠{cls:=.type "list",data:=.seq vs.toArray}→H b=none:=fun {b o} e n1 n2=>by
  cases q:H b with
  |none=>rfl
  |some u=>
   rcases cases_ b u q with⟨z,_⟩|⟨rfl,_,_⟩
   ·rw[(ht b z).2.1] at e;cases e;exact(n1 rfl).elim
   ·rw[ha] at e;cases e;exact(n2 rfl).elim
 have free: ∀ {b:Addr} {o:Obj} {es:Array DictEntry} {ep:Nat},s.heap.get? b=some o→o.data= .dict es ep→H b=none:=fun {b o es ep} e d=>free' e (fun z=>by rw[z] at d;cases d) (fun z=>by rw[z] at d;cases d)
 have nsK: ∀ {b:Addr} {m:Str→Option Value},s.heap.Ns b m→(gG s.heap H).Ns b m:=fun {b m} ⟨o,es,ep,e,d,r⟩=>⟨o,es,ep,ja e (free e d),d,r⟩
 have hKb:K.In (gG s.heap H):=fun b o e=>ja (KX b o e) (by
  cases q:H b with
  |none=>rfl
  |some u=>
   rcases cases_ b u q with⟨z,_⟩|⟨rfl,hk,_⟩
   ·rw[(ht b z).2.2] at e;cases e
   ·rw[hk] at e;cases e)
 have hBI:BIn (gG s.heap H) mg:=by
  obtain⟨bm,ob,b1,b2,b3,b4,b5,b6⟩:=hbm
  exact⟨bm,ob,b1,b2,ja b3 (free' b3 (fun z=>by rw[z] at b6;cases b6) (fun z=>by rw[z] at b6;cases b6)),b4,b5,b6⟩
 have md:Mod K mg (gG s.heap H):=⟨hKb,nsK hns,⟨mb,nsK hbn,hbb⟩,let ⟨mc,h1,h2⟩:=hlim;⟨mc,nsK h1,h2⟩⟩
 have e0:Env0 P w K mg (gG s.heap H) callerA [] s H:=⟨rfl,md,fun b o e=>vq e,Nat.le_of_eq (rE _ _),trivial,fun b hb=>(nomatch (show b∈([]:List Addr) from hb)),hok,.of_eq hg⟩
 have sq:SqL K H a (ns.map V.int):=by
  cases hk:K.lookup a with
  |some o=>
   have e:=KX a o hk
   rw[ha] at e
   cases e
   exact .inr ⟨_,vs.toArray,_,hk,rfl,rfl,rfl,by rw[List.size_toArray,hi.length];exact hl,by simpa using gU hi⟩
  |none=>exact .inl (.inr ⟨_,(if_neg hta).trans (if_pos ⟨rfl,hk⟩)⟩)
 refine codeAny_mono ((F _ hKb (nsK hns) hBI).run callerA [] s H ⟨[.ref a],[]⟩ [.ref a] [.ref a] _ _ hr e0 (hbind s (.ref a)) (.cons rfl .nil) (hsp H Ht sq)) fun r s' h=>?_
 match r,h with
 | .error e,h=>exact(hCX H e s' h).elim
 | .ok (.ret u),h=>
  obtain⟨v,H',os,bare,un,hok',r',q⟩:=h
  obtain rfl:v= .bl true:=q
  obtain rfl:u=Value.bool true:=r'
  have kept: ∀ b o,b∉tbs→s.heap.get? b=some o→s'.heap.get? b=some o:=fun b o nb e=>by
   cases qb:H b with
   |none=>exact un.keep b o e qb (fun z=>nomatch (show b∈([]:List Addr) from z)) (fun z=>nomatch z)
   |some u=>
    rcases cases_ b u qb with⟨z,_⟩|⟨rfl,_,rfl⟩
    ·exact absurd z nb
    ·obtain⟨e1,_⟩:=hok b _ qb
     obtain⟨e2,_⟩:=hok' b _ (un.frzs b _ _ qb)
     rw[e] at e1
     cases e1
     exact e2
  have grown: ∀ b∈tbs,∃ more,s'.heap.get? b=some {cls:=.none,data:=.fields (#[]++more)}:=fun b z=>by
   obtain⟨more,et⟩:=un.tbls b #[] (Ht b z)
   exact⟨more,hok' b _ et⟩
  refine⟨rfl,⟨fun b o e=>?_,fun b o e=>?_⟩,os,bare⟩
  ·by_cases nb:b∈tbs
   ·obtain⟨more,gt'⟩:=grown b nb
    rw[(ht b nb).2.1] at e
    cases e
    exact .inr (.inl ⟨(ht b nb).1,rfl,#[],more,rfl,gt'⟩)
   ·exact .inl (kept b o nb e)
  ·by_cases nb:b∈tbs
   ·obtain⟨more,gt'⟩:=grown b nb
    exact⟨_,gt'⟩
   ·exact⟨o,kept b o nb e⟩
theorem walk_tabs {l:PySem.W.OpenLaw} {n k:Nat} {q:Program} {loose:List Str} {XP:(Str→Option Value)→Heap→Prop} {YP:World→Heap→Prop} {d:DefRec} {K:Params→PySem.W.Frag} {CX:World→CXT} {sp:World→List Addr→Sp} {x:Str}
  (hn:l.most=some n) (hn2:n≤sizeLine) (hdf:d.params.defaults=[]) (hr:Room k callerA)
  (hY: ∀ (w:World) (h:Heap),YP w h→(K w.params).In h)
  (F: ∀ (w:World) (mg:Str→Option Value) (fa:Addr) (h:Heap),(K w.params).In h→h.Ns mainGlobals mg→mg d.name=some (.ref fa)→
   ∃ (fd:FuncData) (ts:List (Str×Addr×Addr)),(∀ e∈ts,PySem.W.tabIn (K w.params) e.1=some e.2∧(K w.params).lookup e.2.2=none∧((recsOf q).find? fun r=>r.name==e.1).isSome=true)∧
    (∀ (s:Shared) (u:Value),BindsTo s fd ⟨[u],[]⟩ [(x,u)])∧
    ∀ base:Heap,(K w.params).In base→base.Ns mainGlobals mg→BIn base mg→FnOk l.prog w (K w.params) mg base (CX w) k fa fd [x] (sp w (ts.map (·.2.2))))
  (hsp: ∀ (w:World) (H:Hp) (a:Addr) (ns:List Int) (tbs:List Addr),ns.length≤n→(∀ tb∈tbs,H tb=some (.tbl #[]))→SqL (K w.params) H a (ns.map V.int)→sp w tbs [.ref a] H (fun v _=>v= .bl true) fun _ _ _=>False)
  (hCX: ∀ (w:World) (H:Hp) (s:Shared) (e:Value) (s':Shared),CX w [] H s (fun _ _ _=>False) e s'→False):
  PySem.W.WalkO q loose XP YP l.row.toRowW d [] (fun f vs=>PySem.call f vs):=by
 refine Att.attach_call hn hdf fun w s₀ s₁ mg mb fa o pm cd doc a vs ns G Y ho hd hcd hmg hobj hints hlen hg=>?_
 have KX:=hY w _ Y
 obtain⟨fd,ts,hts,hb,hF⟩:=F w mg fa _ KX G.T.g hmg
 refine rF (tbs:=ts.map (·.2.2)) KX G.T.g G.T.b G.T.builtins G.T.nolimit ?_ hg hobj hints (Nat.le_trans hlen hn2) hr (fun tb z=>?_) hF hb (fun H hO hS=>hsp w H a ns _ hlen hO hS) fun H e s'=>hCX w H s₁ e s'
 ·obtain⟨bm,ob,b1,b2,b3,b4,b5,b6⟩:=G.T.bmain
  exact⟨bm,ob,b1,b2,b3,b4,b5,b6⟩
 ·obtain⟨e,he,rfl⟩:=List.mem_map.mp z
  obtain⟨h1,h2,h3⟩:=hts e he
  obtain⟨d',h3⟩:=Option.isSome_iff_exists.mp h3
  obtain⟨g1,g2⟩:=PySem.W.tab_of G.T KX h3 h1
  exact⟨(g1.tab g2).isCodeTable,g2,h2⟩
section
open PySem.W (KasT kas_rev kas_asc kas_desc kas_tail3 kas_descPart kas_count kas_place kas_bin kas_sort)
noncomputable def InR (N:Nat) {α:Type} (V:α→Prop):KasT α→Prop
 | .ret a=>V a
 | .ask i j k=>i < N∧j < N∧∀ b,InR N V (k b)
theorem InR.bind {N:Nat} {α β:Type} {V:α→Prop} {W:β→Prop} {f:α→KasT β}: ∀ {t:KasT α},InR N V t→(∀ a,V a→InR N W (f a))→InR N W (t.bind f)
 | .ret a,h,k=>k a h
 | .ask i j g,h,k=>⟨h.1,h.2.1,fun b=>InR.bind (h.2.2 b) k⟩
theorem InR.ite {N:Nat} {α:Type} {V:α→Prop} {c:Prop} [Decidable c] {a b:KasT α} (h1:InR N V a) (h2:InR N V b):InR N V (if c then a else b):=by
 by_cases h:c
 ·rw[if_pos h];exact h1
 ·rw[if_neg h];exact h2
noncomputable def Bd (N:Nat) (p:Array Nat):Prop:=0 < N∧∀ x∈p.toList,x < N
theorem Bd.at {N:Nat} {p:Array Nat} (h:Bd N p) (k:Nat):p.getD k 0 < N:=by
 rw[Array.getD_eq_getD_getElem?]
 cases e:p[k]? with
 |none=>exact h.1
 |some x=>exact h.2 x (Array.mem_toList_iff.mpr (Array.mem_of_getElem? e))
theorem Bd.perm {N:Nat} {p q:Array Nat} (h:Bd N p) (pm:q.Perm p):Bd N q:=⟨h.1,fun x hx=>h.2 x ((Array.perm_iff_toList_perm.mp pm).mem_iff.mp hx)⟩
theorem Bd.rev {N:Nat} {p:Array Nat} (h:Bd N p) (i j:Nat):Bd N (kas_rev p i j):=h.perm (mirror_perm _ _ _ _)
section
variable {N:Nat}
theorem nN {p:Array Nat} (h:Bd N p): ∀ f n,InR N (fun _=>True) (kas_asc p f n)
 |0,_=>trivial
 |f+1,n=>⟨h.at _,h.at _,fun b=>InR.ite trivial (nN h f (n+1))⟩
theorem iS: ∀ (f:Nat) {p:Array Nat} (n q:Nat),Bd N p→InR N (fun r=>Bd N r.1) (kas_desc f p n q)
 |0,_,_,_,h=>h
 |f+1,p,n,q,h=>⟨h.at _,h.at _,fun b=>InR.ite (InR.ite (iS f _ _ (h.rev _ _)) (iS f _ _ h)) ⟨h.at _,h.at _,fun d=>InR.ite h (iS f _ _ h)⟩⟩
theorem lK {p:Array Nat} (h:Bd N p) (n m:Nat):InR N (fun r=>Bd N r.2) (kas_tail3 n m p):=InR.bind (nN (h.rev _ _) _ _) fun a _=>h.rev _ _
theorem iV {p:Array Nat} (h:Bd N p) (n m:Nat):InR N (fun r=>Bd N r.2) (kas_descPart n m p):=InR.bind (iS _ _ _ h) fun r hr=>InR.ite (lK (hr.rev _ _) _ _) (lK hr _ _)
theorem t6 {p:Array Nat} (h:Bd N p) (m:Nat):InR N (fun r=>Bd N r.2) (kas_count m p):=
 InR.bind (nN h _ _) fun n _=>InR.ite h (InR.ite ⟨h.at _,h.at _,fun c=>InR.ite h (iV (h.rev _ _) _ _)⟩ (iV h _ _))
theorem iY {p:Array Nat} (h:Bd N p) (k:Nat): ∀ f l r,InR N (fun _=>True) (kas_place p k f l r)
 |0,_,_=>trivial
 |f+1,l,r=>by
  unfold kas_place
  exact InR.ite trivial ⟨h.at _,h.at _,fun c=>InR.ite (iY h k f _ _) (iY h k f _ _)⟩
theorem rX: ∀ (f:Nat) {p:Array Nat} (k:Nat),Bd N p→InR N (Bd N) (kas_bin f p k)
 |0,_,_,h=>h
 |f+1,p,k,h=>InR.bind (iY h _ _ _ _) fun l _=>rX f (k+1) (h.perm (bubble_perm _ _ _))
theorem uT (hN:0 < N):InR N (Bd N) (kas_sort N):=by
 have h:Bd N (List.toArray (List.range N)):=⟨hN,fun x hx=>by simpa using hx⟩
 exact InR.bind (t6 h _) fun r hr=>InR.ite (rX _ _ hr) hr
theorem wp_run {α:Type} {V:α→Prop} {r:Nat→Int} {cmp:Nat→Nat→(Bool→Shared→Prop)→Shared→Prop} {Q:α→Shared→Prop} {s:Shared} (hc: ∀ i j C,i < N→j < N→C (decide (r i < r j)) s→cmp i j C s): ∀ (t:KasT α),InR N V t→Q (runK r t) s→t.kasWp cmp Q s
 | .ret a,_,h=>h
 | .ask i j k,hi,h=>hc i j _ hi.1 hi.2.1 (wp_run hc (k (decide (r i < r j))) (hi.2.2 _) h)
end
theorem xq {prog:Program} {w:World} {A:Around} {E:Value→Shared→Prop} {s:Shared} {Q:Bool→Shared→Prop} {x y:Addr} {ox oy:Obj} {nx ny:Nat} {a b c d:Int} {ta tb tc td:Tok} (hx:s.heap.get? x=some ox) (dx:ox.data= .seq #[.int a ta,.int b tb] nx) (hy:s.heap.get? y=some oy) (dy:oy.data= .seq #[.int c tc,.int d td] ny)
  (hb:0≤b∧b < 1000000) (hd:0≤d∧d < 1000000) (h:Q (decide (a * 1000000+b < c * 1000000+d)) s):wpAny (model prog w) A (keyLt' (tuples' true) (.ref x) (.ref y)) Q E s:=by
 refine PySem.W.kat_lt hx dx hy dy ?_
 show PySem.W.KatLex prog w A true false Q [(.int a ta,.int c tc),(.int b tb,.int d td)] 0 s
 refine PySem.W.kat_cons (wpAny_eqBool_int ?_)
 by_cases e1:a=c
 ·subst e1
  have z:(a==a)=true:=by simp
  rw[z]
  refine PySem.W.kat_yes (PySem.W.kat_cons (wpAny_eqBool_int ?_))
  by_cases e2:b=d
  ·subst e2
   have z:(b==b)=true:=by simp
   rw[z]
   refine PySem.W.kat_yes (PySem.W.kat_nil ?_)
   have q:decide (a * 1000000+b < a * 1000000+b)=false:=by simp
   rw[q] at h
   exact h
  ·have z:(b==d)=false:=by simpa using e2
   rw[z]
   refine PySem.W.kat_no ?_
   show wpAny (model prog w) A (oneLt' false (.int b tb) (.int d td)) Q _ s
   refine PySem.W.kat_one _ _ ?_
   have q:decide (a * 1000000+b < a * 1000000+d)=decide (b < d):=decide_eq_decide.mpr ⟨fun z=>by lia,fun z=>by lia⟩
   rw[q] at h
   exact lt_int h
 ·have z:(a==c)=false:=by simpa using e1
  rw[z]
  refine PySem.W.kat_no ?_
  show wpAny (model prog w) A (oneLt' true (.int a ta) (.int c tc)) Q _ s
  refine oneLt_int ?_
  have q:decide (a * 1000000+b < c * 1000000+d)=decide (a < c):=decide_eq_decide.mpr ⟨fun z=>by lia,fun z=>by lia⟩
  rw[q] at h
  exact h
end
section
open PySem.W (kla_fn kla_obj CodeHd tabObj)
theorem vG {CX:CXT} {P:Program} {w:World} {K:PySem.W.Frag} {mg:Str→Option Value} {base:Heap} {f c:Addr} {name qual:Str} {params:Arguments} {body:Expr} {scope:Scope} {pm ctv:Value} {oc:Obj} {fs:Array Value} {tq:Tok} {N ps:List Str} {k:Nat}
  {A:Around} {outer:List Env} {s:Shared} {H:Hp} {args:Args} {us:List Value} {vs:List V} {Q:VK} {E:XK} {tE:TE}
  (S:FnScope N ps scope) (hr:Room (k+1) A) (e0:Env0 P w K mg base A outer s H) (hf:s.heap.get? f=some (kla_obj name qual params body scope [] pm c ctv))
  (hc:s.heap.get? c=some oc) (hoc:oc.data= .fields fs) (hfs:fs[1]?=some (.str qual tq))
  (hb:BindsTo s (kla_fn name qual params body scope [] pm (.ref c) ctv) args (ps.zip us)) (hl:vs.length=ps.length) (r:Vals vs us)
  (hbody:PE (dn CX P w K mg base N qual scope f (.ref c) A outer s H E) body tE) (hq:tE (start N vs) H Q):
  codeAny (model P w) A (.call (.ref f) args) (CR CX outer P w H s Q E) s:=by
 have lim:s.heap.NoLimit:=e0.mod.nolimit.keeps fun b o e=>(e0.bs b o e).1
 have hkind: ∀ y∈ps.zip us,scope.names.lookup y.1=some .local∨(scope.names.lookup y.1=some .cell∧((cellsFrom (s.heap.objs.size+1) scope.names []).lookup y.1).isSome=true):=fun hq0 hy=>by
  obtain⟨n,v⟩:=hq0
  rcases S.par n (List.of_mem_zip hy).1 with q|q
  ·exact .inl q
  ·exact .inr ⟨q,PySem.W.cellsFrom_some _ _ _ (.inl q)⟩
 refine PySem.W.kla_callFunE hr.depth hf rfl S.co S.gen rfl ⟨c,oc,fs,tq,rfl,hc,hoc,hfs⟩ (hb _ _ _ _ ?_)
 refine wpAny_newFunctionEnv_cells S.kind hkind fun env he s1 x=>?_
 subst he
 refine⟨lim.keeps x.toInCall.keep,PySem.W.kla_codeExpr ?_⟩
 have I:Inv (dn CX P w K mg base N qual scope f (.ref c) A outer s H E) [] (start N vs) H s1:=kJ S hr.hd e0 hl r x
 refine wpAny_mono (hbody [] s1 (start N vs) H _ I hq) (fun u s' hs=>?_) fun e s' hs=>hs
 obtain⟨v,H',J,rv,q⟩:=hs
 exact⟨v,H',J.os,J.bare,J.base,J.hok,rv,q⟩
theorem mR {X:Cx} {A:Around} {pins:List (Addr×Obj)} {σ:St} {f c:Addr} {name qual:Str} {params:Arguments} {body:Expr} {scope:Scope} {pm ctv:Value} {oc:Obj} {fs:Array Value} {tq:Tok} {N ps:List Str} {k:Nat}
  {s:Shared} {H:Hp} {us:List Value} {vs:List V} {Q:VK} {tE:TE}
  (S:FnScope N ps scope) (hr:Room (k+1) A) (hA:A.frames=X.A.frames) (I:Inv X pins σ H s) (hf:s.heap.get? f=some (kla_obj name qual params body scope [] pm c ctv))
  (hc:s.heap.get? c=some oc) (hoc:oc.data= .fields fs) (hfs:fs[1]?=some (.str qual tq))
  (hb:BindsTo s (kla_fn name qual params body scope [] pm (.ref c) ctv) ⟨us,[]⟩ (ps.zip us)) (hl:vs.length=ps.length) (r:Vals vs us)
  (hbody:PE (dn CX0 X.prog X.w X.K X.mg X.base N qual scope f (.ref c) A X.stack s H E0).nox body tE) (hq:tE (start N vs) H Q):
  wpAny (model X.prog X.w) A (call (.ref f) us) (EP X pins σ Q) (fun _ _=>False) s:=by
 have e0:Env0 X.prog X.w X.K X.mg X.base A X.stack s H:=⟨hA.trans I.env0.frames,I.env0.mod,I.env0.bs,I.env0.bsz,I.env0.funs,I.env0.frf,I.env0.hok,I.env0.bare⟩
 refine wpAny_call (codeAny_mono (vG S hr e0 hf hc hoc hfs hb hl r hbody.nox hq) fun r s' h=>?_)
 cases r with
 |error e=>exact h
 |ok fl=>
  cases fl with
  |ret u=>exact I.after h
  |next=>exact False.elim h
  |brk=>exact False.elim h
  |cont=>exact False.elim h
end
section
open PySem.W (kas_sort kas_ask KatTups)
theorem Inv.grab {X:Cx} {pins:List (Addr×Obj)} {σ:St} {H:Hp} {s:Shared} {h':Heap} {D:Addr} {o:HO} {t':Nat} (I:Inv X pins σ H s) (fp:cx X pins H D) (k: ∀ b u,b≠D→s.heap.get? b=some u→h'.get? b=some u) (new:ObjOk X.prog X.w (upd H D o) h' D o):
  Inv X pins σ (upd H D o) {s with heap:=h',toks:=t'}:=by
 obtain⟨hn,hL,hF,h1,h2,h3⟩:=fp
 have nD: ∀ b u,H b=some u→b≠D:=fun b u e z=>by rw[z,hn] at e;cases e
 refine I.step (g':=s.gens) (d':=s.drawn) (ch:=[D]) (fun b hb=>?_) (fun b u _ _ hc e _=>k b u (fun z=>hc (by simp[z])) e) (fun b u _ _ hc e _=>⟨u.slots,k b u (fun z=>hc (by simp[z])) e⟩) (fun b u hc _ n=>by rw[ar (fun z=>hc (by simp[z]))];exact n)
  (fun b u hc e=>⟨u,k b u (fun z=>hc (by simp[z])) e⟩) (fun b xs e=>by rw[ar (nD b _ e)];exact e) (fun b ob u e=>by rw[ar (nD b _ e)];exact e) (fun b ps e=>⟨#[],by rw[ar (nD b _ e),e];simp⟩) (fun m hm=>?_) (fun b u e=>?_) I.bare
 ·have e:b=D:=by simpa using hb
  subst e
  exact⟨h1,hL,h2,h3⟩
 ·obtain⟨ob,es,ep,ho,r⟩:=hm
  exact⟨ob,es,ep,k _ ob (Ne.symm hL) ho,r⟩
 ·by_cases z:b=D
  ·subst z
   rw[aD] at e
   cases e
   exact new
  ·rw[ar z] at e
   refine(I.hok b u e).stay (fun c v hc q=>k c v ?_ q) (fun c q=>?_) fun c xs q=>?_
   ·rcases hc with y|y
    ·rw[y];exact z
    ·exact nD c _ y
   ·rw[ar (nD c _ q)];exact q
   ·rw[ar (nD c _ q)];exact q
noncomputable def rk (kf:Nat→Int×Int) (i:Nat):Int:=(kf i).1 * 1000000+(kf i).2
theorem ky: ∀ {Ts:List Addr} {us:List Value},Vals (Ts.map V.ref) us→us=Ts.map Value.ref
 |[],us,h=>by cases h;rfl
 |T::Ts,us,h=>by
  cases h with
  |cons r t=>cases r;rw[ky t];rfl
theorem gk {P:Program} {w:World} {H:Hp} {h:Heap} {T:Addr} {a b:Int} (hk:HOk P w H h) (e:H T=some (.tup [.int a,.int b])): ∃ o n ta tb,h.get? T=some o∧o.cls= .type "tuple"∧o.data= .seq #[.int a ta,.int b tb] n:=by
 obtain⟨_,its,rv,o,ho,hc,n,hd⟩:=hk T _ e
 cases rv with
 |cons r1 t=>
  cases t with
  |cons r2 t=>
   cases t
   obtain⟨ta,rfl⟩:=r1
   obtain⟨tb,rfl⟩:=r2
   exact⟨o,n,ta,tb,ho,hc,hd⟩
theorem oC {h:Heap}: ∀ (Ts:List Addr),(∀ T∈Ts,∃ o n a b ta tb,h.get? T=some o∧o.cls= .type "tuple"∧o.data= .seq #[.int a ta,.int b tb] n)→∃ fs,KatTups h (Ts.map Value.ref) fs∧fs.length=Ts.length∧∀ v∈fs,∃ i t,v=Value.int i t
 |[],_=>⟨[],PySem.W.KatTups.nil,rfl,fun v hv=>nomatch hv⟩
 |T::Ts,k=>by
  obtain⟨o,n,a,b,ta,tb,h1,h2,h3⟩:=k T List.mem_cons_self
  obtain⟨fs,g1,g2,g3⟩:=oC Ts fun T' h'=>k T' (List.mem_cons_of_mem _ h')
  refine⟨.int a ta::fs,PySem.W.KatTups.cons h1 h2 h3 rfl g1,by simp[g2],fun v hv=>?_⟩
  rcases List.mem_cons.mp hv with rfl|hv
  ·exact⟨a,ta,rfl⟩
  ·exact g3 v hv
section
variable {X:Cx} {A:Around} {E:Value→Shared→Prop} {pins:List (Addr×Obj)} {σ:St} {H:Hp} {s:Shared} {f D:Addr} {its:List Value} {xs:List V} {kf:Nat→Int×Int} {P:PySem.Fin→Shared→Prop}
theorem kE {kS:Addr} {Ts:List Addr} {e1:Nat} {st:SortSt} {p:Array Nat} {H1:Hp} (I:Inv X ((D,seqObj "list" #[] e1)::pins) σ H1 s) (fp:cx X pins H1 D) (hk:H1 kS=some (.lst (Ts.map V.ref))) (rv:Vals xs its) (h64:xs.length < 64) (hTs:Ts.length=xs.length)
  (hz:p.size=xs.length) (har:(arrOf st).map (·.2)=List.toArray (p.toList.map fun i=>its.getD i Value.none)) (hin: ∀ i∈p.toList,i < xs.length) (hf:failedOf st=none)
  (h: ∀ s',Inv X pins σ (upd (upd H1 kS (.lst [])) D (.lst (p.toList.map fun i=>xs.getD i .non))) s'→P (.done (.ret .none)) s'):
  wpAny (model X.prog X.w) A (ksk_tail D false e1 (.ref kS) st) P E s:=by
 obtain⟨_,its',n',r1,r2,ho⟩:=I.lstM hk
 have hl:=rv.length
 unfold ksk_tail
 try dsimp only
 rw[har]
 refine wpAny_bind (listUpdate_at ho rfl ?_ (by rw[List.size_toArray,sizeLine_eq];simp at r2;lia) (Nat.zero_le _))
 have I1:=I.lset (t':=s.toks) (f:=fun _=>(#[]:Array Value)) (its':=[]) (ys:=[]) hk ho rfl .nil (Nat.zero_le _)
 have hD:=(I1.pin _ (List.mem_append_right _ List.mem_cons_self)).1
 refine wpAny_bind (wpAny_letGo ?_)
 refine wpAny_bind (seqEpoch_at hD rfl ?_)
 refine wpAny_bind (listUpdate_at hD rfl ?_ (Nat.zero_le _) (by simp only[Bool.false_eq_true,if_false,List.size_toArray,List.length_map,Array.length_toList];rw[hz,sizeLine_eq];lia))
 rw[hf]
 simp only[bne_self_eq_false,Bool.false_eq_true,if_false]
 have neD:kS≠D:=fun z=>by rw[z,fp.1] at hk;cases hk
 have fp1:cx X pins (upd H1 kS (.lst [])) D:=⟨by rw[ar (Ne.symm neD)];exact fp.1,fp.2⟩
 have I2:Inv X pins σ (upd H1 kS (.lst [])) {s with heap:=s.heap.update kS (Obj.mapSeq fun _=>(#[]:Array Value))}:=I1.pins_of fun q hq=>I1.pin q (List.mem_append_right _ (List.mem_cons_of_mem _ hq))
 refine wpAny_pure (h _ (I2.grab (t':=s.toks) fp1 (fun b u hb e=>(Heap.get?_update_other _ _ (Ne.symm hb)).trans e) ?_))
 have g:=get?_update_seq hD fun _=>List.toArray (p.toList.map fun i=>its.getD i Value.none)
 refine⟨by rw[List.length_map,Array.length_toList,hz,sizeLine_eq];lia,p.toList.map fun i=>its.getD i Value.none,_,?_,g⟩
 have go: ∀ l:List Nat,(∀ i∈l,i < xs.length)→Vals (l.map fun i=>xs.getD i V.non) (l.map fun i=>its.getD i Value.none):=fun l=>by
  induction l with
  |nil=>intro _;exact .nil
  |cons i l ih=>
   intro hl'
   refine .cons ?_ (ih fun j hj=>hl' j (List.mem_cons_of_mem _ hj))
   have hi:=hl' i List.mem_cons_self
   obtain⟨u,hu,ru⟩:=rv.get (List.getElem?_eq_getElem hi)
   show RelV (xs.getD i V.non) (its.getD i Value.none)
   rw[List.getD_eq_getElem?_getD,List.getD_eq_getElem?_getD,hu,List.getElem?_eq_getElem hi]
   exact ru
 exact go _ hin
theorem pH {n0:Nat} (I:Inv X pins σ H s) (fp:cx X pins H D) (ho:s.heap.get? D=some (seqObj "list" its.toArray n0)) (rv:Vals xs its) (h64:xs.length < 64)
  (hkey: ∀ (pins':List (Addr×Obj)) (H1:Hp) (s1:Shared) (i:Nat) (u:Value),its[i]?=some u→Same H H1→Inv X pins' σ H1 s1→wpAny (model X.prog X.w) A (call (.ref f) [u]) (EP X pins' σ fun v H2=> ∃ T,v= .ref T∧H1 T=none∧H2=upd H1 T (.tup [.int (kf i).1,.int (kf i).2])) (fun _ _=>False) s1)
  (hb: ∀ i,i < xs.length→0≤(kf i).2∧(kf i).2 < 1000000) (hne: ∀ i j,i < xs.length→j < xs.length→i≠j→rk kf i≠rk kf j)
  (h: ∀ (H':Hp) (p:Array Nat) (s':Shared),Inv X pins σ H' s'→H' D=some (.lst (p.toList.map fun i=>xs.getD i .non))→Same H H'→p.size=xs.length→p.Perm (List.toArray (List.range xs.length))→Ups (rk kf) p xs.length→P (.done (.ret .none)) s'):
  wpAny (model X.prog X.w) A (Builtin.«list.sort» ⟨[.ref D],[(Str.ofString "key",.ref f)]⟩) P E s:=by
 have hl:=rv.length
 have hzL:its.length≤sizeLine:=by rw[sizeLine_eq];lia
 rw[ksk_t1]
 unfold ksk_tree
 refine wpAny_bind (listItems_at ho rfl ?_)
 refine wpAny_bind (listUpdate_at ho rfl ?_ (by rw[List.size_toArray];exact hzL) (Nat.zero_le _))
 obtain⟨e1,ho1⟩: ∃ e1,(s.heap.update D (Obj.mapSeq fun _=>(#[]:Array Value))).get? D=some (seqObj "list" #[] e1):=⟨_,get?_update_seq ho fun _=> #[]⟩
 refine wpAny_bind (seqEpoch_at ho1 rfl ?_)
 refine wpAny_bind (wpAny_newTuple ?_ hzL)
 refine wpAny_bind (wpAny_newList ?_ (Nat.zero_le _))
 refine wpAny_holding ?_
 have I1:Inv X pins σ H {s with heap:=s.heap.update D (Obj.mapSeq fun _=>(#[]:Array Value))}:=I.turned (t':=s.toks) (fun b u hb' e=>(Heap.get?_update_other _ _ (Ne.symm hb')).trans e) fp.1 fp.2.1 fp.2.2.2.1 fp.2.2.2.2.1 fp.2.2.2.2.2
 have I2:Inv X ((D,seqObj "list" #[] e1)::pins) σ H {s with heap:=s.heap.update D (Obj.mapSeq fun _=>(#[]:Array Value))}:=I1.pins_of fun q hq=>by
  rcases List.mem_cons.mp hq with rfl|hq
  ·exact⟨ho1,fp.1,fp.2.1,fp.2.2.1,fun v z=>by cases z⟩
  ·exact I1.pin q (List.mem_append_right _ hq)
 have I3:Inv X ((D,seqObj "list" #[] e1)::pins) σ H {s with heap:=(s.heap.update D (Obj.mapSeq fun _=>(#[]:Array Value))).push (seqObj "tuple" its.toArray 0)}:=I2.kept (t':=s.toks) fun b u e=>Heap.get?_push_of_some _ e
 have hkn:H ((s.heap.update D (Obj.mapSeq fun _=>(#[]:Array Value))).push (seqObj "tuple" its.toArray 0)).objs.size=none:=I3.fresh
 have I4:=I3.lnew (t':=s.toks) (ys:=[]) (its:=[]) .nil (Nat.zero_le _)
 generalize hks:((s.heap.update D (Obj.mapSeq fun _=>(#[]:Array Value))).push (seqObj "tuple" its.toArray 0)).objs.size=kS at *
 have hDk: ∀ (H1:Hp),H1 D=none→H1 kS≠none→kS≠D:=fun H1 a b z=>b (z▸a)
 unfold ksk_rest
 refine wpAny_bind (wpAny_rule ?_)
 rw[List.forIn_toArray]
 refine wpAny_bind (ksk_fold (fun i s'=> ∃ (Hi:Hp) (Ts:List Addr),Inv X ((D,seqObj "list" #[] e1)::pins) σ Hi s'∧Hi kS=some (.lst (Ts.map V.ref))∧Ts.length=i∧(∀ j T,Ts[j]?=some T→Hi T=some (.tup [.int (kf j).1,.int (kf j).2]))∧Same H Hi) its 0 _ ?_ (fun j x s' hx hJ=>?_) fun s' hJ=>?_)
 ·refine⟨_,[],I4,aD,rfl,fun j T e=>by simp at e,fun b o e=>?_⟩
  rw[ar (aS e hkn)]
  exact e
 ·obtain⟨Hi,Ts,J,hk,hT,tt,sm⟩:=hJ
  rw[Nat.zero_add] at hT
  refine wpAny_bind (wpAny_attempt (wpAny_mono (hkey _ Hi s' j x hx sm J) (fun k s'' hk'=>?_) fun _ _ hF=>hF.elim))
  obtain⟨v,H2,J2,rk',T,rfl,hTn,rfl⟩:=hk'
  cases rk'
  have nT:kS≠T:=aS hk hTn
  have hk2:upd Hi T (.tup [.int (kf j).1,.int (kf j).2]) kS=some (.lst (Ts.map V.ref)):=by rw[ar nT];exact hk
  obtain⟨_,its',n',r1,r2,hob⟩:=J2.lstM hk2
  have hjl:j < its.length:=(List.getElem?_eq_some_iff.mp hx).1
  have hs':its'.length=j:=by rw[←r2,List.length_map,hT]
  try dsimp only
  refine wpAny_bind (listUpdate_at hob rfl ?_ (by rw[List.size_toArray,sizeLine_eq];lia) (Nat.le_trans (Nat.le_of_eq (Array.size_push ..)) (by rw[List.size_toArray,sizeLine_eq];lia)))
  have J3:=J2.lset (t':=s''.toks) (f:=(·.push (Value.ref T))) (its':=its'++[.ref T]) (ys:=Ts.map V.ref++[.ref T]) hk2 hob (by simp) (r1.append (show Vals [V.ref T] [Value.ref T] from .cons rfl .nil)) (by rw[List.length_append,List.length_map,List.length_singleton,sizeLine_eq];lia)
  refine wpAny_pure ⟨rfl,_,Ts++[T],J3,by rw[aD];simp,by simp[hT],fun i T' e=>?_,fun b o e=>?_⟩
  ·by_cases c:i < Ts.length
   ·rw[List.getElem?_append_left c] at e
    have g:=tt i T' e
    have n1:T'≠kS:=fun z=>by rw[z,hk] at g;cases g
    rw[ar n1,ar (aS g hTn)]
    exact g
   ·rw[List.getElem?_append_right (by first|decide|lia)] at e
    have hi:i=Ts.length:=by
     by_cases z:i - Ts.length=0
     ·lia
     ·rw[List.getElem?_eq_none (by simp;lia)] at e;cases e
    subst hi
    simp at e
    subst e
    rw[ar (Ne.symm nT),aD,hT]
  ·have g:=sm b o e
   have n1:b≠kS:=aS e hkn
   rw[ar n1,ar (aS g hTn)]
   exact g
 ·obtain⟨Hi,Ts,J,hk,hT,tt,sm⟩:=hJ
  rw[Nat.zero_add] at hT
  have hTx:Ts.length=xs.length:=by lia
  obtain⟨_,its',n',r1,r2,hob⟩:=J.lstM hk
  have hks':=ky r1
  subst hks'
  have fpD:cx X pins Hi D:=⟨(J.pin _ (List.mem_append_right _ List.mem_cons_self)).2.1,fp.2⟩
  have hkD:kS≠D:=fun z=>by rw[z,fpD.1] at hk;cases hk
  have fin: ∀ (p:Array Nat) (s'':Shared),p.size=xs.length→p.Perm (List.toArray (List.range xs.length))→Ups (rk kf) p xs.length→Inv X pins σ (upd (upd Hi kS (.lst [])) D (.lst (p.toList.map fun i=>xs.getD i .non))) s''→P (.done (.ret .none)) s'':=fun p s'' hz hp hu J'=>by
   refine h _ p s'' J' aD (fun b o e=>?_) hz hp hu
   rw[ar (aS e fp.1),ar (aS e hkn)]
   exact sm b o e
  have inP: ∀ p:Array Nat,p.Perm (List.toArray (List.range xs.length))→∀ i∈p.toList,i < xs.length:=fun p hp i hi=>by
   have:=(Array.perm_iff_toList_perm.mp hp).mem_iff.mp hi
   simpa using this
  have hkl:(Ts.map Value.ref).length=its.length:=by simp[hT]
  try dsimp only
  refine wpAny_bind (listItems_at hob rfl ?_)
  unfold ksk_end
  try dsimp only
  simp only[Bool.false_eq_true,if_false]
  by_cases h2:its.toArray.size < 2
  ·rw[if_pos h2,if_pos h2]
   refine wpAny_bind (wpAny_pure ?_)
   rw[StateT.run_pure]
   refine wpAny_bind (wpAny_pure ?_)
   try dsimp only
   rw[List.size_toArray] at h2
   have hz:(List.toArray (List.range xs.length)).size=xs.length:=by simp
   refine kE (p:=List.toArray (List.range xs.length)) J fpD hk rv h64 hTx hz ?_ (inP _ (Array.Perm.refl _)) rfl fun s'' J'=>fin _ s'' hz (Array.Perm.refl _) (fun i j hij hj=>by lia) J'
   have hmap:=PySem.W.kat_snds (ks:=Ts.map Value.ref) (vs:=its) hkl (st:=SortSt.mk' general' ((Ts.map Value.ref).toArray.zip its.toArray) #[] 7 none) (p:=List.toArray (List.range xs.length)) (by
    have e:=PySem.W.kas_range ((Ts.map Value.ref).toArray.zip its.toArray)
    rw[show ((Ts.map Value.ref).toArray.zip its.toArray).size=xs.length by simp[hT];lia] at e
    exact e.symm)
   exact hmap
  ·rw[if_neg h2,if_neg h2]
   rw[List.size_toArray] at h2
   obtain⟨fs,kt,hfl,hfi⟩:=oC (h:=s'.heap) Ts fun T hT'=>by
    obtain⟨i,hi,e⟩:=List.getElem_of_mem hT'
    obtain⟨o,n,ta,tb,g1,g2,g3⟩:=gk J.hok (tt i T (List.getElem?_eq_some_iff.mpr ⟨hi,e⟩))
    exact⟨o,n,_,_,ta,tb,g1,g2,g3⟩
   refine wpAny_bind (PySem.W.kat_kind (T:=Value.type "int") kt (by first|decide|lia) (fun v hv=>?_) rfl ?_)
   ·obtain⟨i,t,rfl⟩:=hfi v hv
    exact PySem.W.Looks.now
   ·obtain⟨p,ep,hz,hp,hu⟩:=uS (r:=rk kf) (n:=xs.length) (by first|decide|lia) hne
    refine wpAny_bind (wpAny_mono (PySem.W.kat_run (vs:=its) (ks:=Ts.map Value.ref) (Q:=fun st' s''=> ∃ p':Array Nat,arrOf st'=p'.map (PySem.W.kas_item ((Ts.map Value.ref).toArray.zip its.toArray))∧failedOf st'=none∧p'=p∧s''=s') (G:=fun p' s''=>p'=p∧s''=s')
     hkl (by first|decide|lia) (by first|decide|lia) (fun p' st' s'' a1 a2 a3 a4=>⟨p',a2,a3,a4.1,a4.2⟩) ?_) ?_ fun _ _ e=>e)
    ·rw[show its.length=xs.length from hl.symm]
     refine wp_run (N:=xs.length) (V:=Bd xs.length) (r:=rk kf) (fun i j C hi hj hC=>?_) _ (uT (by first|decide|lia)) ⟨ep,rfl⟩
     have hi':i < Ts.length:=by lia
     have hj':j < Ts.length:=by lia
     obtain⟨oi,ni,ai,bi,g1,g2,g3⟩:=gk J.hok (tt i _ (List.getElem?_eq_getElem hi'))
     obtain⟨oj,nj,aj,bj,k1,k2,k3⟩:=gk J.hok (tt j _ (List.getElem?_eq_getElem hj'))
     unfold PySem.W.kas_ask
     rw[List.getD_eq_getElem?_getD,List.getD_eq_getElem?_getD,List.getElem?_map,List.getElem?_map,List.getElem?_eq_getElem hi',List.getElem?_eq_getElem hj']
     exact xq g1 g3 k1 k3 (hb i hi) (hb j hj) hC
    ·rintro⟨⟨⟩,st'⟩ s'' ⟨p',har,hf,rfl,rfl⟩
     try dsimp only
     exact kE J fpD hk rv h64 hTx hz (PySem.W.kat_snds hkl har) (inP _ hp) hf fun s3 J'=>fin _ s3 hz hp hu J'
end
end
section
open PySem.W (kla_fn kla_obj CodeHd tabObj)
theorem lS {X:Cx} {pins:List (Addr×Obj)} {σ:St} {H:Hp} {s:Shared} {f l:Addr} {T:String} {o:Obj} {n0:Nat} {its:List Value} {xs:List V} {kf:Nat→Int×Int} {Q:VK}
  (I:Inv X pins σ H s) (hT:T="list"∨T="tuple") (ho:s.heap.get? l=some o) (hc:o.cls= .type T) (hd:o.data= .seq its.toArray n0) (rv:Vals xs its) (h64:xs.length < 64)
  (hkey: ∀ (pins':List (Addr×Obj)) (H1:Hp) (s1:Shared) (i:Nat) (u:Value),its[i]?=some u→Same H H1→Inv X pins' σ H1 s1→wpAny (model X.prog X.w) X.A.in1.in1 (call (.ref f) [u]) (EP X pins' σ fun v H2=> ∃ T,v= .ref T∧H1 T=none∧H2=upd H1 T (.tup [.int (kf i).1,.int (kf i).2])) (fun _ _=>False) s1)
  (hb: ∀ i,i < xs.length→0≤(kf i).2∧(kf i).2 < 1000000) (hne: ∀ i j,i < xs.length→j < xs.length→i≠j→rk kf i≠rk kf j)
  (hq: ∀ (D:Addr) (H':Hp) (p:Array Nat),H D=none→H' D=some (.lst (p.toList.map fun i=>xs.getD i .non))→Same H H'→p.size=xs.length→p.Perm (List.toArray (List.range xs.length))→Ups (rk kf) p xs.length→Q (.ref D) H'):
  wpAny (model X.prog X.w) X.A (call (.builtin "sorted") [.ref l] [(Str.ofString "key",.ref f)]) (EP X pins σ Q) X.xe s:=by
 have hl:=rv.length
 refine call_function_entry_kw kind_sorted plain_sorted entry_sorted (ksk_s1 _ _) ?_
 unfold Builtin.«sorted»
 refine wpAny_bind (m:=checkCount "sorted" 1 1 _) (wpAny_pure ?_)
 refine wpAny_bind (wpAny_collect_seq l hT ho hc hd (fun h1 kp=>?_) (by rw[List.size_toArray,sizeLine_eq];lia))
 have I1:Inv X pins σ H {s with heap:=h1}:=I.kept (t':=s.toks) kp
 have fr:H h1.objs.size=none:=I1.fresh
 have fp:cx X pins H h1.objs.size:=I1.fpOk (Nat.le_refl _) fr
 refine wpAny_bind (wpAny_newList ?_ (by show its.length≤_;rw[sizeLine_eq];lia))
 have I2:Inv X pins σ H {s with heap:=h1.push (seqObj "list" its.toArray 0)}:=I1.kept (t':=s.toks) fun b u e=>Heap.get?_push_of_some _ e
 have hoL:(h1.push (seqObj "list" its.toArray 0)).get? h1.objs.size=some (seqObj "list" its.toArray 0):=Heap.get?_push_size _ rfl
 refine wpAny_bind (wpAny_holding (wpAny_call_entry_kw slot_list_sort ⟨_,hoL,rfl⟩ entry_list_sort ?body (ksk_l1 _ _)))
 case body=>
  show wpAny (model X.prog X.w) X.A.in1.in1 (Builtin.«list.sort» ⟨[.ref h1.objs.size],[(Str.ofString "key",.ref f)]⟩) _ _ {s with heap:=h1.push (seqObj "list" its.toArray 0)}
  refine pH I2 fp hoL rv h64 hkey hb hne fun H' p s' J e1 sm hz hp hu=>⟨_,rfl,wpAny_pure ⟨_,rfl,.ref h1.objs.size,H',J,rfl,hq _ H' p fr e1 sm hz hp hu⟩⟩
theorem ql {pos:Pos} {a b:Int} {c cv:Value} (l:List Value) (h:TriplesOk l) (hn:codeAmong pos (l++[rawInt a,rawInt b,c])=some cv):codeAmong pos l=some cv∨cv=c:=by
 fun_induction TriplesOk l with
 |case1=>
  simp[codeAmong,rawInt] at hn
  exact .inr hn.2.symm
 |case2 a' t b' u x rest ih=>
  simp only[List.cons_append,codeAmong] at hn ⊢
  split at hn
  ·rename_i hc
   rw[if_pos hc]
   exact .inl hn
  ·rename_i hc
   rw[if_neg hc]
   exact ih h hn
 |case3 l h1 h2=>exact h.elim
theorem mQ {X:Cx} {pins:List (Addr×Obj)} {σ:St} {H:Hp} {s:Shared} {c P:Addr} {params:Arguments} {body:Expr} {scope:Scope} {pos:Pos} {E:Value→Shared→Prop} {Q:Value→Shared→Prop}
  (I:Inv X pins σ H s) (hB:BIn X.base X.mg) (hcode:X.env.code= .ref c) (hC:CodeHd X.base c P) (tab:TabAt H (P,X.env.qual++"<lambda>")) (hcl:closureFor scope X.env=pure []) (hdef:defaultsOf params X.env=([],[]))
  (h: ∀ (f c':Addr) (oc:Obj) (fs:Array Value) (tq:Tok) (pm ctv:Value) (H':Hp) (s':Shared),Inv X pins σ H' s'→H f=none→H' f=some (.frz (kla_obj "<lambda>" (X.env.qual++"<lambda>") params body scope [] pm c' ctv) (.own f))→H' c'=some (.frz oc (.own c'))→oc.data= .fields fs→fs[1]?=some (.str (X.env.qual++"<lambda>") tq)→
   TabAt H' (P,X.env.qual++"<lambda>")→(∀ b o,b≠P→H b=some o→H' b=some o)→Q (.ref f) s'):
  wpAny (model X.prog X.w) X.A (eval (.Lambda params body scope pos) X.env) Q E s:=by
 obtain⟨ps,hP,ht,hrow⟩:=tab
 have gP:s.heap.get? P=some (tabObj ps):=I.hok P _ hP
 obtain⟨bm,ob,b1,b2,b3,b4,b5,b6⟩:=hB
 have hg:s.heap.Ns mainGlobals X.mg:=I.mod.glob.keeps I.bk
 have hgP:mainGlobals≠P:=fun q=>by
  obtain⟨o,es,ep,e,hd,_⟩:=hg
  rw[q,gP] at e;cases e;cases hd
 have hbP:bm≠P:=fun q=>by
  have e:=I.bk _ _ b3
  rw[q,gP] at e;cases e;cases b4
 have hbG:bm≠mainGlobals:=fun q=>by
  obtain⟨o,es,ep,e,hd,_⟩:=I.mod.glob
  rw[q,e] at b3;cases b3;rw[hd] at b6;cases b6
 have hBA:s.heap.BuiltinsAt X.mg P:=⟨bm,ob,b1,b2,hbG,hbP,I.bk _ _ b3,b4,b5,b6⟩
 refine PySem.W.kla_eval hdef ?_
 cases hf:codeAmong pos ps.toList with
 |none=>
  refine PySem.W.kla_makeFunction (mg:=X.mg) hcl I.ok.glob hg hcode (hC.keeps I.bk) gP ht hf hgP hBA fun c' ctv h' tk hx hge hlt hrec htb=>?_
  obtain⟨c2,oc,fs,tq,e2,hoc,hfd,hfs⟩:=hrec
  cases e2
  generalize hko:kla_obj "<lambda>" (X.env.qual++"<lambda>") params body scope [] ((X.mg "__name__").getD .none) c' ctv=ko
  have hkf:ko.isFreed=false:=by rw[←hko];rfl
  have hcn:H c'=none:=I.hok.fresh hge
  have hfn:H h'.objs.size=none:=I.hok.fresh (Nat.le_trans hge (Nat.le_of_lt hlt))
  have ncP:c'≠P:=fun z=>by rw[z,hP] at hcn;cases hcn
  have nfP:h'.objs.size≠P:=fun z=>by rw[z,hP] at hfn;cases hfn
  have nfc:h'.objs.size≠c':=Nat.ne_of_gt hlt
  let H':Hp:=upd (upd (upd H P (.tbl (ps++ #[rawInt pos.line,rawInt pos.col,.ref c']))) c' (.frz oc (.own c'))) h'.objs.size (.frz ko (.own h'.objs.size))
  have at_f:H' h'.objs.size=some (.frz ko (.own h'.objs.size)):=aD
  have at_c:H' c'=some (.frz oc (.own c')):=by
   show upd _ _ _ c'=_
   rw[ar (Ne.symm nfc),aD]
  have at_P:H' P=some (.tbl (ps++ #[rawInt pos.line,rawInt pos.col,.ref c'])):=by
   show upd _ _ _ P=_
   rw[ar (Ne.symm nfP),ar (Ne.symm ncP),aD]
  have at_o: ∀ b,b≠h'.objs.size→b≠c'→b≠P→H' b=H b:=fun b n1 n2 n3=>by
   show upd _ _ _ b=_
   rw[ar n1,ar n2,ar n3]
  have keepH: ∀ b o,b≠P→H b=some o→H' b=some o:=fun b o nb e=>by
   rw[at_o b (aS e hfn) (aS e hcn) nb]
   exact e
  have kp: ∀ b o,b≠P→s.heap.get? b=some o→(h'.push ko).get? b=some o:=fun b o nb e=>Heap.get?_push_of_some _ (hx b o nb e)
  have tbP:(h'.push ko).get? P=some (tabObj (ps++ #[rawInt pos.line,rawInt pos.col,.ref c'])):=Heap.get?_push_of_some _ htb
  have un:Un X.fs [] H H' s.heap (h'.push ko):=by
   have nP: ∀ b,H b=none→b≠P:=fun b n z=>by rw[z,hP] at n;cases n
   refine⟨fun b o e n _ _=>kp b o (nP b n) e,fun b o e n _ _=>⟨o.slots,kp b o (nP b n) e⟩,fun b o e n _=>?_,fun b o e _=>?_,fun b xs e=>keepH b _ (fun z=>by rw[z,hP] at e;cases e) e,fun b ob u e=>keepH b _ (fun z=>by rw[z,hP] at e;cases e) e,fun b qs e=>?_⟩
   ·have lt:=Heap.lt_size e
    rw[at_o b (Nat.ne_of_lt (Nat.lt_of_lt_of_le lt (Nat.le_trans hge (Nat.le_of_lt hlt)))) (Nat.ne_of_lt (Nat.lt_of_lt_of_le lt hge)) (nP b n)]
    exact n
   ·by_cases z:b=P
    ·exact⟨_,z▸tbP⟩
    ·exact⟨o,kp b o z e⟩
   ·by_cases z:b=P
    ·subst z
     rw[hP] at e
     cases e
     exact⟨_,at_P⟩
    ·exact⟨#[],by rw[keepH b _ z e];simp⟩
  have hok:HOk X.prog X.w H' (h'.push ko):=fun b u e=>by
   by_cases n1:b=h'.objs.size
   ·subst n1
    rw[at_f] at e
    cases e
    exact⟨Heap.get?_push_size _ hkf,_,Heap.get?_push_size _ hkf⟩
   ·by_cases n2:b=c'
    ·subst n2
     rw[at_c] at e
     cases e
     exact⟨Heap.get?_push_of_some _ hoc,_,Heap.get?_push_of_some _ hoc⟩
    ·by_cases n3:b=P
     ·subst n3
      rw[at_P] at e
      cases e
      exact tbP
     ·rw[at_o b n1 n2 n3] at e
      refine(I.hok b u e).stay (fun d v hd q=>kp d v ?_ q) (fun d q=>keepH d _ (fun z=>by rw[z,hP] at q;cases q) q) fun d xs q=>keepH d _ (fun z=>by rw[z,hP] at q;cases q) q
      rcases hd with z|z
      ·rw[z];exact n3
      ·exact fun y=>by rw[y,hP] at z;cases z
  subst hko
  refine h h'.objs.size c' oc fs tq _ ctv H' _ (I.un (t':=tk) un hok) hfn at_f at_c hfd hfs ⟨_,at_P,?_,fun pos' cv e=>?_⟩ keepH
  ·rw[Array.toList_append]
   exact TriplesOk_snoc _ _ _ _ ht
  ·rw[Array.toList_append] at e
   rcases ql _ ht e with e|rfl
   ·obtain⟨c3,o3,f3,t3,rfl,g1,g2,g3⟩:=hrow pos' cv e
    exact⟨c3,o3,f3,t3,rfl,keepH _ _ (fun z=>by rw[z,hP] at g1;cases g1) g1,g2,g3⟩
   ·exact⟨c',oc,fs,tq,rfl,at_c,hfd,hfs⟩
 |some cv=>
  obtain⟨c',oc,fs,tq,rfl,g1,hfd,hfs⟩:=hrow pos cv hf
  refine PySem.W.kla_makeFunctionHit (mg:=X.mg) hcl I.ok.glob hg hcode (hC.keeps I.bk) gP ht hf hBA fun ctv h' tk hk hsz=>?_
  have hfn:H h'.objs.size=none:=I.hok.fresh hsz
  have nf: ∀ b u,H b=some u→b≠h'.objs.size:=fun b u e=>aS e hfn
  have J:=I.laid (t':=tk) (h':=h'.push (kla_obj "<lambda>" (X.env.qual++"<lambda>") params body scope [] ((X.mg "__name__").getD .none) c' ctv)) (a:=h'.objs.size) (o:=.frz (kla_obj "<lambda>" (X.env.qual++"<lambda>") params body scope [] ((X.mg "__name__").getD .none) c' ctv) (.own h'.objs.size))
   (fun b u e=>Heap.get?_push_of_some _ (hk b u e)) hsz ⟨Heap.get?_push_size _ rfl,_,Heap.get?_push_size _ rfl⟩
  refine h h'.objs.size c' oc fs tq _ ctv _ _ J hfn aD (by rw[ar (nf _ _ g1)];exact g1) hfd hfs ⟨ps,by rw[ar (nf _ _ hP)];exact hP,ht,fun pos' cv e=>?_⟩ fun b o _ e=>by rw[ar (nf _ _ e)];exact e
  obtain⟨c3,o3,f3,t3,rfl,k1,k2,k3⟩:=hrow pos' cv e
  exact⟨c3,o3,f3,t3,rfl,by rw[ar (nf _ _ k1)];exact k1,k2,k3⟩
end
section
open PySem.W (kla_fn kla_obj CodeHd tabObj)
noncomputable def uJ (e:Addr×Str) (N:List Str) (tE:TE) (Q:VK) (x:V) (H1:Hp):Prop:= ∃ (l:Addr) (xs:List V) (kf:Nat→Int×Int),x= .ref l∧(H1 l=some (.lst xs)∨H1 l=some (.tup xs))∧xs.length < 64∧TabAt H1 e∧
 (∀ i x,xs[i]?=some x→∀ H2,(∀ b o,b≠e.1→H1 b=some o→H2 b=some o)→tE (start N [x]) H2 fun v H3=> ∃ T,v= .ref T∧H2 T=none∧H3=upd H2 T (.tup [.int (kf i).1,.int (kf i).2]))∧
 (∀ i,i < xs.length→0≤(kf i).2∧(kf i).2 < 1000000)∧(∀ i j,i < xs.length→j < xs.length→i≠j→rk kf i≠rk kf j)∧
 ∀ (D:Addr) (H':Hp) (p:Array Nat),H1 D=none→H' D=some (.lst (p.toList.map fun i=>xs.getD i .non))→(∀ b o,b≠e.1→H1 b=some o→H' b=some o)→TabAt H' e→p.size=xs.length→p.Perm (List.toArray (List.range xs.length))→Ups (rk kf) p xs.length→Q (.ref D) H'
noncomputable def qy (e:Addr×Str) (N:List Str) (tE ta:TE):TE:=fun σ H Q=>ta σ H (uJ e N tE Q)
noncomputable def xS (e:Addr×Str) (N:List Str) (tE:TE) (Q:VK):List V→Hp→Prop
 |[x],H1=>uJ e N tE Q x H1
 |_,_=>False
theorem sO {X:Cx} {k:Nat} {c P:Addr} {params:Arguments} {body e:Expr} {scope:Scope} {lpos kpos pos p:Pos} {N:List Str} {y:Str} {tE ta:TE}
  (hr:Room (k+3) X.A) (hB:BIn X.base X.mg) (hcode:X.env.code= .ref c) (hC:CodeHd X.base c P) (hcl:closureFor scope X.env=pure []) (hdef:defaultsOf params X.env=([],[])) (S:FnScope N [y] scope)
  (hbind: ∀ (s:Shared) (pm:Value) (c:Addr) (ctv u:Value),BindsTo s (kla_fn "<lambda>" (X.env.qual++"<lambda>") params body scope [] pm (.ref c) ctv) ⟨[u],[]⟩ [(y,u)])
  (hbody: ∀ (f c:Addr) (A:Around) (s:Shared) (H:Hp),PE (dn CX0 X.prog X.w X.K X.mg X.base N (X.env.qual++"<lambda>") scope f (.ref c) A X.stack s H E0).nox body tE)
  (hg:Gl X "sorted") (hm:X.mg "sorted"=none) (ha:PE X e ta) (hs:starEach [e] X.env=(false,eval e X.env)::starEach [] X.env:=by rfl):
  PE X (.Call (.Name "sorted" p) [e] [⟨some (Str.ofString "key"),.Lambda params body scope lpos,kpos⟩] pos) (qy (P,X.env.qual++"<lambda>") N tE ta):=by
 intro pins s σ H Q I h
 refine wpAny_Call_Name_kw (fh I hg hm boot_sorted ?_)
 have hpa:=cL ha du hs
 refine callWith_kw (thn (hpa pos pins s σ H (xS (P,X.env.qual++"<lambda>") N tE Q) I h) fun us s1 hu=>?_) (by rw[hs];rfl) (by rw[hs];rfl)
 obtain⟨vs,H1,I1,r,q⟩:=hu
 match vs,r,q with
 |[x],r,q=>
 obtain⟨u,rfl,rx⟩:=vals1 r
 obtain⟨l,xs,kf,rfl,hl,h64,tab,hk,hb,hne,q⟩:=q
 cases rx
 refine kws_cons (mQ I1 hB hcode hC tab hcl hdef fun f c' oc fs tq pm ctv H' s' J hfn at_f at_c hfd hfs tab' keepH=>kws_nil ?_)
 show wpAny (model X.prog X.w) X.A (call (.builtin "sorted") [.ref l] [(Str.ofString "key",.ref f)]) (EP X pins σ Q) X.xe s'
 have nl:l≠P:=fun z=>by
  obtain⟨ps,hP,_⟩:=tab
  have hP:H1 P=some (.tbl ps):=hP
  rw[z,hP] at hl
  rcases hl with z|z<;>cases z
 have src: ∃ T o n0 its,(T="list"∨T="tuple")∧s'.heap.get? l=some o∧o.cls= .type T∧o.data= .seq (List.toArray its) n0∧Vals xs its:=by
  rcases hl with hl|hl
  ·obtain⟨_,its,n,rv,ho⟩:=J.hok l _ (keepH l _ nl hl)
   exact⟨"list",_,n,its,.inl rfl,ho,rfl,rfl,rv⟩
  ·obtain⟨_,its,rv,o,ho,hc,n,hd⟩:=J.hok l _ (keepH l _ nl hl)
   exact⟨"tuple",o,n,its,.inr rfl,ho,hc,hd,rv⟩
 obtain⟨T,o,n0,its,hT,ho,hc,hd,rv⟩:=src
 refine lS J hT ho hc hd rv h64 (fun pins' H2 s2 i u hu sm J2=>?_) hb hne fun D H3 p' hD e1 sm hz hp hu=>?_
 ·have hi:i < xs.length:=by rw[rv.length];exact(List.getElem?_eq_some_iff.mp hu).1
  obtain⟨u',hu',ru⟩:=rv.get (List.getElem?_eq_getElem hi)
  rw[hu] at hu'
  cases hu'
  exact mR S hr.in1.in1 rfl J2 (J2.hok f _ (sm _ _ at_f)).1 (J2.hok c' _ (sm _ _ at_c)).1 hfd hfs (hbind s2 pm c' ctv u) rfl (show Vals [xs[i]] [u] from .cons ru .nil) (hbody f c' _ s2 H2)
   (hk i _ (List.getElem?_eq_getElem hi) H2 fun b o nb e=>sm b o (keepH b o nb e))
 ·refine q D H3 p' ?_ e1 (fun b o nb e=>sm b o (keepH b o nb e)) (tab'.keep (fun ps e=>sm _ _ e) fun b ob u e=>sm _ _ e) hz hp hu
  cases e:H1 D with
  |none=>rfl
  |some o=>
   by_cases z:D=P
   ·obtain⟨ps,hP,_⟩:=tab'
    have hP:H' P=some (.tbl ps):=hP
    rw[z,hP] at hD
    cases hD
   ·rw[keepH D o z e] at hD
    cases hD
noncomputable def pF (K:PySem.W.Frag) (i j:Int):TE:=v8 (gz (tOp (pN K) (fB 0) (tC (.int i))) (gz (tOp (pN K) (fB 0) (tC (.int j))) lN))
theorem lM {K:PySem.W.Frag} {i j a b:Int} {N:List Str} {H:Hp} {p:Addr} {ys:List V} (h:H p=some (.tup ys)) (hi:atI ys i=some (.int a)) (hj:atI ys j=some (.int b)):
  pF K i j (start N [.ref p]) H fun v H3=> ∃ T,v= .ref T∧H T=none∧H3=upd H T (.tup [.int a,.int b]):=by
 have e0:(start N [V.ref p])[0]?=some (some (.ref p)):=fO rfl
 exact⟨_,e0,p,ys,i,_,rfl,rfl,SqT.of h,hi,_,e0,p,ys,j,_,rfl,rfl,SqT.of h,hj,by show 2≤sizeLine;rw[sizeLine_eq];lia,fun T hT=>⟨T,rfl,hT,rfl⟩⟩
noncomputable def eK:PV→Option (Int×Int)
 | .tup l=>match (l[2]?:Option PV),(l[1]?:Option PV) with
  |some (PV.int m),some (PV.int n)=>some (m,n)
  |_,_=>none
 |_=>none
noncomputable def kPV (y:PV):Int×Int:=(eK y).getD (0,0)
noncomputable def rPV (y:PV):Int:=(kPV y).1 * 1000000+(kPV y).2
theorem kH {y:PV} {k:Int×Int} (h:eK y=some k): ∃ l,y= .tup l∧l[2]?=some (.int k.1)∧l[1]?=some (.int k.2):=by
 cases y with
 |tup l=>
  simp only[eK] at h
  split at h
  ·rename_i m n e1 e2
   cases h
   exact⟨l,rfl,e1,e2⟩
  ·cases h
 |_=>cases h
noncomputable def kc (y:PV):List PV→List PV
 |[]=>[y]
 |z::l=>if rPV y < rPV z then y::z::l else z::kc y l
noncomputable def aX:List PV→List PV
 |[]=>[]
 |y::l=>kc y (aX l)
noncomputable def okP (y:PV):Bool:=match eK y with
 |some k=>decide (0≤k.2)&&decide (k.2 < 1000000)
 |none=>false
noncomputable def okK (l:List PV):Bool:=decide (l.length < 64)&&l.all okP&&decide (l.map rPV).Nodup
theorem iI {y:PV} (h:okP y=true): ∃ k,eK y=some k∧0≤k.2∧k.2 < 1000000:=by
 unfold okP at h
 cases e:eK y with
 |none=>rw[e] at h;cases h
 |some k=>
  rw[e] at h
  simp only[Bool.and_eq_true,decide_eq_true_eq] at h
  exact⟨k,rfl,h.1,h.2⟩
theorem h9 (y:PV): ∀ l,(kc y l).Perm (y::l)
 |[]=>.refl _
 |z::l=>by
  unfold kc
  split
  ·exact .refl _
  ·exact((h9 y l).cons z).trans (.swap _ _ _)
theorem eD: ∀ l,(aX l).Perm l
 |[]=>.refl _
 |y::l=>(h9 y _).trans ((eD l).cons y)
noncomputable abbrev LtK (a b:PV):Prop:=rPV a < rPV b
theorem oW (y:PV): ∀ l,l.Pairwise LtK→(∀ z∈l,rPV y≠rPV z)→(kc y l).Pairwise LtK
 |[],_,_=>List.pairwise_singleton _ _
 |z::l,h,n=>by
  have h':=List.pairwise_cons.mp h
  unfold kc
  split
  ·rename_i c
   refine List.pairwise_cons.mpr ⟨fun x hx=>?_,h⟩
   rcases List.mem_cons.mp hx with rfl|hx
   ·exact c
   ·exact Int.lt_trans c (h'.1 x hx)
  ·rename_i c
   have nz:=n z List.mem_cons_self
   refine List.pairwise_cons.mpr ⟨fun x hx=>?_,oW y l h'.2 fun x hx=>n x (List.mem_cons_of_mem _ hx)⟩
   rcases List.mem_cons.mp ((h9 y l).mem_iff.mp hx) with rfl|hx
   ·show rPV z < rPV x
    lia
   ·exact h'.1 x hx
theorem iM: ∀ l,(l.map rPV).Nodup→(aX l).Pairwise LtK
 |[],_=>.nil
 |y::l,h=>by
  rw[List.map_cons,List.nodup_cons] at h
  refine oW y _ (iM l h.2) fun z hz e=>h.1 ?_
  rw[e]
  exact List.mem_map_of_mem ((eD l).mem_iff.mp hz)
theorem qt: ∀ (l m:List PV),l.Pairwise LtK→m.Pairwise LtK→l.Perm m→l=m
 |[],m,_,_,p=>(List.nil_perm.mp p).symm
 |a::l,[],_,_,p=>absurd p.length_eq (by simp)
 |a::l,b::m,h1,h2,p=>by
  have h1':=List.pairwise_cons.mp h1
  have h2':=List.pairwise_cons.mp h2
  have ea:a=b:=by
   rcases List.mem_cons.mp (p.mem_iff.mp List.mem_cons_self) with e|ha
   ·exact e
   rcases List.mem_cons.mp (p.mem_iff.mpr List.mem_cons_self) with e|hb
   ·exact e.symm
   have x1:rPV a < rPV b:=h1'.1 b hb
   have x2:rPV b < rPV a:=h2'.1 a ha
   lia
  subst ea
  rw[qt l m h1'.2 h2'.2 (List.perm_cons a |>.mp p)]
theorem oT {l m:List PV} (nd:(l.map rPV).Nodup) (p:m.Perm l) (u:m.Pairwise LtK):aX l=m:=qt _ _ (iM l nd) u ((eD l).trans p.symm)
theorem sT {l:List PV} {p:Array Nat} {kf:Nat→Int×Int} (nd:(l.map rPV).Nodup) (hk: ∀ i,i < l.length→kf i=kPV (l.getD i .non)) (hz:p.size=l.length) (hp:p.Perm (List.toArray (List.range l.length))) (hu:Ups (rk kf) p l.length):aX l=p.toList.map fun i=>l.getD i .non:=by
 have hpl:p.toList.Perm (List.range l.length):=Array.perm_iff_toList_perm.mp hp
 have hlt: ∀ i∈p.toList,i < l.length:=fun i hi=>by
  have:=hpl.mem_iff.mp hi
  simpa using this
 refine oT nd ?_ ?_
 ·have e:(List.range l.length).map (fun i=>l.getD i .non)=l:=by
   apply List.ext_getElem?
   intro i
   rw[List.getElem?_map]
   by_cases hi:i < l.length
   ·rw[List.getElem?_range hi,List.getElem?_eq_getElem hi]
    simp[hi]
   ·rw[List.getElem?_eq_none (by simpa using hi),List.getElem?_eq_none (by simpa using hi)]
    rfl
  rw[←e]
  have:=hpl.map fun i=>l.getD i .non
  rw[e] at this ⊢
  exact this
 ·rw[List.pairwise_map,List.pairwise_iff_getElem]
  intro i j hi hj hij
  have hj':j < l.length:=by rw[Array.length_toList,hz] at hj;exact hj
  have x:=hu i j hij hj'
  unfold kg rk at x
  have gi:p.getD i 0=p.toList[i]:=by
   rw[Array.getD_eq_getD_getElem?,Array.getElem?_eq_getElem (by rw[hz];lia)]
   rfl
  have gj:p.getD j 0=p.toList[j]:=by
   rw[Array.getD_eq_getD_getElem?,Array.getElem?_eq_getElem (by rw[hz];lia)]
   rfl
  rw[gi,gj,hk _ (hlt _ (List.getElem_mem hi)),hk _ (hlt _ (List.getElem_mem hj))] at x
  exact x
end
section
variable {φ:Fam}
noncomputable def lz:PV→Option (List PV)
 | .lst l=>some l
 | .tup l=>some l
 |_=>none
noncomputable def iy (y:PV):M (List PV):=match lz y with
 |some l=>if okK l then .ret (aX l) else .fail
 |none=>.fail
theorem qE {y:PV} {n:Nat} {R:List PV→Nat→Prop} (w:(iy y).wp n R): ∃ l,lz y=some l∧l.length < 64∧(∀ z∈l,okP z=true)∧(l.map rPV).Nodup∧R (aX l) n:=by
 unfold iy at w
 cases e:lz y with
 |none=>rw[e] at w;exact w.elim
 |some l=>
  rw[e] at w
  dsimp only at w
  by_cases c:okK l=true
  ·rw[if_pos c] at w
   unfold okK at c
   simp only[Bool.and_eq_true,decide_eq_true_eq,List.all_eq_true] at c
   exact⟨l,rfl,c.1.1,c.1.2,c.2,w⟩
  ·rw[if_neg c] at w;exact w.elim
theorem uY {G:Bg φ} {O:Addr→Prop} {H:Hp} {y:PV} {x:V} {l:List PV} (r:RepB G O H y x) (e:lz y=some l): ∃ p xs,x= .ref p∧(H p=some (.lst xs)∨H p=some (.tup xs))∧Reps G.B O H l xs:=by
 cases y with
 |lst l'=>
  cases e
  obtain⟨p,xs,rfl,h,r⟩:=r.lst_i
  exact⟨p,xs,rfl,.inl h,r⟩
 |tup l'=>
  cases e
  obtain⟨p,xs,rfl,h,r⟩:=r.tup_i
  exact⟨p,xs,rfl,.inr h,r⟩
 |_=>cases e
theorem fL {α:Type} {l:List α} {k:Nat} {x:α} (h:l[k]?=some x):atI l (k:Int)=some x:=by
 have hk:k < l.length:=(List.getElem?_eq_some_iff.mp h).1
 unfold atI ixN
 rw[if_pos (by first|decide|lia),if_pos (by first|decide|lia)]
 show l[((k:Nat):Int).toNat]?=_
 rw[Int.toNat_natCast]
 exact h
theorem tZ {X:Cx} {e:Expr} {tb:Addr×Str} {N:List Str} {me:ah→M PV} (hin:tb∈φ.tabs) (hun: ∀ q∈φ.tabs,q.1=tb.1→q=tb) (h:BE X e (qy tb N (pF X.K 2 1) (teB φ me))):EF φ X e (fun ρ=>(me ρ).bind iy):=BE.mono h fun σ H Q hq0=>by
 obtain⟨G,O,ρ,n,R,s,w,q⟩:=hq0
 rw[M.wp_bind] at w
 refine⟨G,O,ρ,n,_,s,w,fun y x H1 n1 e1 ok1 r1 w1=>?_⟩
 obtain⟨l,hl,h64,hok,nd,hR⟩:=qE w1
 obtain⟨p,xs,rfl,hp,rs⟩:=uY r1 hl
 have s1:=s.ext e1 ok1
 have tab:=G.tab H1 n1 ok1 tb hin
 have hlen:l.length=xs.length:=rs.1
 have pO:O tb.1:=s.pr _ (G.tp tb hin)
 obtain⟨ps,hP,_⟩:=id tab
 refine⟨p,xs,fun i=>kPV (l.getD i .non),rfl,hp,by lia,tab,fun i x hx H2 k2=>?_,fun i hi=>?_,fun i j hi hj ne=>?_,fun D H' p' hD hD' kp tab' hz hpm hu=>?_⟩
 ·obtain⟨y,hy,ry⟩:=rs.at' hx
  obtain⟨k,ek,b0,b1⟩:=iI (hok y (List.mem_of_getElem? hy))
  obtain⟨l',rfl,g2,g1⟩:=kH ek
  obtain⟨q',ys,rfl,hq',r'⟩:=(RepB.full ry:RepB G O H1 _ _).tup_i
  obtain⟨v2,hv2,rv2⟩:=r'.at g2
  obtain⟨v1,hv1,rv1⟩:=r'.at g1
  cases rv2
  cases rv1
  have ekk:kPV (l.getD i .non)=k:=by
   rw[List.getD_eq_getElem?_getD,hy]
   show (eK _).getD _=k
   rw[Option.getD_some,ek]
   rfl
  dsimp only
  rw[ekk]
  exact lM (k2 _ _ (fun z=>by rw[z,hP] at hq';cases hq') hq') (fL hv2) (fL hv1)
 ·have hi':i < l.length:=by lia
  obtain⟨k,ek,b0,b1⟩:=iI (hok _ (List.getElem_mem hi'))
  have ekk:kPV (l.getD i .non)=k:=by
   rw[List.getD_eq_getElem?_getD,List.getElem?_eq_getElem hi']
   show (eK _).getD _=k
   rw[Option.getD_some,ek]
   rfl
  dsimp only
  rw[ekk]
  exact⟨b0,b1⟩
 ·have hi':i < l.length:=by lia
  have hj':j < l.length:=by lia
  intro z
  have e1: ∀ k,(hk:k < l.length)→rk (fun i=>kPV (l.getD i .non)) k=(l.map rPV)[k]'(by simpa using hk):=fun k hk=>by
   rw[List.getElem_map]
   unfold rk rPV
   dsimp only
   rw[List.getD_eq_getElem?_getD,List.getElem?_eq_getElem hk]
   rfl
  rw[e1 i hi',e1 j hj'] at z
  have pw:=List.pairwise_iff_getElem.mp nd
  rcases Nat.lt_or_gt_of_ne ne with c|c
  ·exact pw i j (by simpa using hi') (by simpa using hj') c z
  ·exact pw j i (by simpa using hj') (by simpa using hi') c z.symm
 ·have kp1: ∀ b o,¬ O b→H1 b=some o→H' b=some o:=fun b o nb eb=>kp b o (fun z=>nb (z▸pO)) eb
  have ext:Ext G.B H1 H':=fun b o nb eb=>by
   by_cases z:b=tb.1
   ·obtain⟨qs,hQ,_⟩:=tab'
    rw[z,hP] at eb
    cases eb
    exact⟨qs,z▸hQ⟩
   ·exact .of (kp b o z eb)
  have ok':G.ok H' n1:=G.tset H1 H' n1 ok1 (fun q' hq'=>by
   by_cases z:q'.1=tb.1
   ·rw[hun q' hq' z]
    exact tab'
   ·exact(G.tab H1 n1 ok1 q' hq').keep (fun qs eq=>kp _ _ z eq) fun b ob u eq=>kp b _ (fun y=>by rw[y,hP] at eq;cases eq) eq) fun b o nb eb=>kp b o (fun z=>nb (List.mem_map.mpr ⟨tb,hin,z.symm⟩)) eb
  have ei:=sT (p:=p') nd (kf:=fun i=>kPV (l.getD i .non)) (fun i _=>rfl) (by first|decide|lia) (by rw[hlen];exact hpm) (by rw[hlen];exact hu)
  have hlt: ∀ i∈p'.toList,i < l.length:=fun i hi=>by
   have:=(Array.perm_iff_toList_perm.mp hpm).mem_iff.mp hi
   simp at this
   lia
  refine q (aX l) D _ H' n1 (e1.trans ext) ok' (fo e1 ok1 hD) hD' ?_ hR
  rw[ei]
  have go:Reps G.B O H1 (p'.toList.map fun i=>l.getD i .non) (p'.toList.map fun i=>xs.getD i .non):=by
   refine⟨by simp,fun i y x a b=>?_⟩
   rw[List.getElem?_map] at a b
   cases c:p'.toList[i]? with
   |none=>rw[c] at a;cases a
   |some j=>
    rw[c] at a b
    cases a
    cases b
    have hj:=hlt j (List.mem_of_getElem? c)
    obtain⟨x,hx,rx⟩:=rs.at (List.getElem?_eq_getElem hj)
    show Rep G.B O H1 (l.getD j .non) (xs.getD j .non)
    rw[List.getD_eq_getElem?_getD,List.getD_eq_getElem?_getD,hx,List.getElem?_eq_getElem hj]
    exact rx
  exact go.keep (O':=fun q=>O q∨q=D) (H':=H') fun b o nb eb=>⟨kp1 b o nb eb,fun z=>by
   rcases z with z|z
   ·exact nb z
   ·rw[z,hD] at eb;cases eb⟩
end
set_option genInjectivity false in
structure FunC (K:PySem.W.Frag) (x qual:Str) (st:Stmt) (f:Addr) (fd:FuncData) (c tb:Addr):Prop where
 ex: ∃ (oc:Value) (od:Option Addr) (kV doc pm:Value) (an:Option Addr) (ct:Value) (osl:Array (Option Value)),
  fd=PySem.W.fnOf x qual (aV st) (au st) (ak st) .none kV doc pm an (.ref c) ct∧K.lookup f=some ⟨oc,od,.func fd,osl⟩∧PySem.W.codeIn K (.ref c) qual=true
 hd:PySem.W.codeHdIn K c tb=true
section
variable {φ:Fam} {P:Program} {w:World} {K:PySem.W.Frag} {mg:Str→Option Value} {base:Heap}
theorem FunC.ok {x qual:Str} {st:Stmt} {f c tb:Addr} {fd:FuncData} {N ps:List Str} {k:Nat} {sp:Sp} (F:FunC K x qual st f fd c tb) (S:FnScope N ps (ak st)) (len: ∀ vs H Q E,sp vs H Q E→vs.length=ps.length)
  (hbody: ∀ (A:Around) (outer:List Env) (s:Shared) (H:Hp) (vs:List V) (Q:VK) (E:XK),Room k (A.deeper (envOfC qual (ak st) s.heap.objs.size f (.ref c)))→sp vs H Q E→
   ∃ t,PSs (dn CX0 P w K mg base N qual (ak st) f (.ref c) A outer s H E).nox (au st) t∧t {nx:=fun _ H'=>Q .non H',rt:=Q} (start N vs) H):FnOk P w K mg base CX0 (k+1) f fd ps sp:=by
 obtain⟨oc,od,kV,doc,pm,an,ct,osl,rfl,lk,hcd⟩:=F.ex
 refine uG lk hcd S len fun A outer s H vs Q E hr hsp=>?_
 obtain⟨t,h,q⟩:=hbody A outer s H vs Q E hr hsp
 exact⟨t,h.nox,q⟩
theorem vK {x qual:Str} {st:Stmt} {f c tb:Addr} {fd:FuncData} {N ps:List Str} {k:Nat} {m:ah→M Fl} (F:FunC K x qual st f fd c tb) (S:FnScope N ps (ak st)) (hN:ps.length≤N.length)
  (hb: ∀ (A:Around) (outer:List Env) (s:Shared) (H:Hp) (E:XK),Room k (A.deeper (envOfC qual (ak st) s.heap.objs.size f (.ref c)))→SsV φ (dn CX0 P w K mg base N qual (ak st) f (.ref c) A outer s H E).nox (au st) m):
  FnOk P w K mg base CX0 (k+1) f fd ps (spP φ (fnP ps.length N.length m)):=by
 refine F.ok S (fun vs H Q E h=>?_) (fun A outer s H vs Q E hr h=>⟨_,(hb A outer s H E hr).out,?_⟩)
 ·obtain⟨G,O,l,n,R,_,_,_,r,w,_⟩:=h
  unfold fnP at w
  by_cases hc:l.length=ps.length
  ·rw[←r.1,hc]
  ·rw[if_neg hc] at w;exact w.elim
 ·obtain⟨G,O,l,n,R,pr,dm,ok,r,w,q⟩:=h
  unfold fnP at w
  by_cases hc:l.length=ps.length
  ·rw[if_pos hc,M.wp_bind] at w
   refine⟨G,O,H,O,eJ N.length l,n,⟨⟨⟨?_,fun i e he=>?_⟩,ok,pr,dm⟩,pr,fun p h=>h,Ext.refl _ _,fun p h=>.inl h,dm,fun i p h=>?_,fun i j p h=>?_⟩,M.wp_mono w fun f n' h=>?_⟩
   ·unfold start eJ;simp[r.1]
   ·unfold eJ at he
    by_cases hi:i < l.length
    ·rw[List.getElem?_append_left (by simpa using hi),List.getElem?_map,List.getElem?_eq_getElem hi] at he
     cases he
     obtain⟨x,hx,rr⟩:=r.at (List.getElem?_eq_getElem hi)
     exact⟨x,by rw[fO hx];rfl,rr⟩
    ·rw[List.getElem?_append_right (by simpa using hi),List.getElem?_replicate] at he
     split at he
     ·cases he;trivial
     ·cases he
   all_goals try (
    obtain⟨t,h1,h2,_⟩:=h
    exfalso
    unfold eJ at h1
    by_cases hi:i < l.length
    ·rw[List.getElem?_append_left (by simpa using hi),List.getElem?_map,List.getElem?_eq_getElem hi] at h1
     cases h1;cases h2
    ·rw[List.getElem?_append_right (by simpa using hi),List.getElem?_replicate] at h1
     split at h1
     ·cases h1;cases h2
     ·cases h1)
   cases f with
   |nx ρ=>exact fun O' σ' H' s'=>q .non .non H' n' s'.ext s'.es.ok .non h
   |rt y=>exact fun x' H' e' ok' r'=>q y x' H' n' e' ok' r' h
   |bk ρ=>exact h.elim
   |ct ρ=>exact h.elim
  ·rw[if_neg hc] at w;exact w.elim
theorem rK {x qual:Str} {st:Stmt} {f c tb:Addr} {fd:FuncData} {N ps:List Str} {k:Nat} {m:ah→M Fl} {body:List Stmt} {sc:Scope} {Ff:List PV→M PV} (hF:Ff=fnP ps.length N.length m) (F:FunC K x qual st f fd c tb) (S:FnScope N ps (ak st)) (hN:ps.length≤N.length) (eb:au st=body) (es:ak st=sc)
  (hb: ∀ (A:Around) (outer:List Env) (s:Shared) (H:Hp) (E:XK),Room k (A.deeper (envOfC qual sc s.heap.objs.size f (.ref c)))→SsV φ (dn CX0 P w K mg base N qual sc f (.ref c) A outer s H E).nox body m):
  FnOk P w K mg base CX0 (k+1) f fd ps (spP φ Ff):=by
 subst hF eb es
 exact vK F S hN hb
end
noncomputable def gf (K:PySem.W.Frag) (tbs:List Addr):Sp:=fun vs H Q _=> ∃ (a:Addr) (ns:List Int),vs=[.ref a]∧SqL K H a (ns.map V.int)∧ns.length≤63∧(∀ tb∈tbs,H tb=some (.tbl #[]))∧∀ H',Q (.bl true) H'
noncomputable def Sml (c dp:Nat) (y:PV):Prop:= ∃ d:PyData,toD y=some d∧d.showable=true∧d.hasDict=false∧d.shown.length≤c∧d.depth≤dp
theorem Sml.mono {c c' dp dp':Nat} {y:PV} (h:Sml c dp y) (hc:c≤c') (hd:dp≤dp'):Sml c' dp' y:=by
 obtain⟨d,h1,h2,h3,h4,h5⟩:=h
 exact⟨d,h1,h2,h3,Nat.le_trans h4 hc,Nat.le_trans h5 hd⟩
theorem uW {i:Int} (h:i.natAbs < 10 ^ 61):Sml 62 0 (.int i):=by
 refine⟨.int i,by simp only[toD],?_,by simp only[PyData.hasDict],?_,by simp only[PyData.depth];lia⟩
 ·simp only[PyData.showable,decide_eq_true_eq]
  by_cases z:i.natAbs=0
  ·rw[z];decide
  ·rw[Nat.log2_lt z]
   exact Nat.lt_of_lt_of_le h (by decide +kernel)
 ·simp only[PyData.shown]
  have:=int_text_length_le10 (k:=61) (by decide) h
  show (Str.ofString (toString i)).length≤62
  rw[PySem.ofString_length]
  lia
theorem uU {x:Str} {k:Nat} (h:x.length≤k) (hc: ∀ c∈x.cps.toList,c < 16 ^ 8):Sml (10 * k+2) 0 (.str x):=by
 refine⟨.str x,by simp only[toD],by simp only[PyData.showable],by simp only[PyData.hasDict],?_,by simp only[PyData.depth];lia⟩
 simp only[PyData.shown]
 have:=PySem.StrLaws.reprText_len x hc
 lia
theorem wc {c dp:Nat}: ∀ (l:List PV),(∀ z∈l,Sml c dp z)→∃ ds,fY l=some ds∧ds.length=l.length∧PyData.showableAll ds=true∧PyData.hasDictAll ds=false∧(∀ t∈PyData.shownAll ds,t.length≤c)∧(PyData.shownAll ds).length=l.length∧PyData.depthAll ds≤dp
 |[],_=>⟨[],by simp only[fY],rfl,by simp only[PyData.showableAll],by simp only[PyData.hasDictAll],(by simp only[PyData.shownAll];exact fun t h=>absurd h List.not_mem_nil),(by simp only[PyData.shownAll,List.length_nil]),(by simp only[PyData.depthAll];lia)⟩
 |y::l,h=>by
  obtain⟨d,h1,h2,h3,h4,h5⟩:=h y List.mem_cons_self
  obtain⟨ds,g1,g2,g3,g4,g5,g6,g7⟩:=wc l fun z hz=>h z (List.mem_cons_of_mem _ hz)
  refine⟨d::ds,by simp only[fY,h1,g1,Option.bind_some,Option.map_some],by simp[g2],by simp only[PyData.showableAll,h2,g3,Bool.and_self],by simp only[PyData.hasDictAll,h3,g4,Bool.or_self],?_,by simp only[PyData.shownAll,List.length_cons,g6],by simp only[PyData.depthAll];lia⟩
  simp only[PyData.shownAll]
  intro t ht
  rcases List.mem_cons.mp ht with rfl|ht
  ·exact h4
  ·exact g5 t ht
theorem join_le {c:Nat}: ∀ (ts:List Str),(∀ t∈ts,t.length≤c)→(Str.join ", " ts).length≤ts.length * (c+2)
 |[],_=>by show (0:Nat)≤_;lia
 |[x],h=>by
  have:=h x List.mem_cons_self
  show x.length≤1 * (c+2)
  lia
 |x::y::r,h=>by
  have ih:=join_le (y::r) fun t ht=>h t (List.mem_cons_of_mem _ ht)
  have hx:=h x List.mem_cons_self
  show (x++", "++Str.join ", " (y::r)).length≤_
  have e2:((", ":String):Str).length=2:=rfl
  rw[strLen_append,strLen_append,e2,List.length_cons,Nat.succ_mul]
  lia
theorem jS {c dp n:Nat} {l:List PV} (h: ∀ z∈l,Sml c dp z) (hl:l.length≤n):Sml (n * (c+2)+3) (dp+1) (.tup l):=by
 obtain⟨ds,g1,g2,g3,g4,g5,g6,g7⟩:=wc l h
 refine⟨.tuple ds,by simp only[toD,g1,Option.map_some],by simp only[PyData.showable,g3],by simp only[PyData.hasDict,g4],?_,by simp only[PyData.depth];lia⟩
 simp only[PyData.shown]
 have hj:=join_le _ g5
 rw[g6] at hj
 have hm:l.length * (c+2)≤n * (c+2):=Nat.mul_le_mul_right _ hl
 unfold tupleText
 rw[strLen_append,strLen_append]
 have e1:(("(":String):Str).length=1:=rfl
 have e2:((if(PyData.shownAll ds).length==1 then ",)" else ")":String):Str).length≤2:=by
  by_cases z:((PyData.shownAll ds).length==1)=true
  ·rw[if_pos z];decide
  ·rw[if_neg z];decide
 lia
noncomputable def ItV (K:PySem.W.Frag) (a:Addr) (xs:List V):It:=⟨fun i H=>SqL K H a xs∧i < xs.length,fun i H x H'=>H'=H∧xs.reverse[i]?=some x,fun i H=>SqL K H a xs∧i=xs.length⟩
theorem se {P:Program} {w:World} {K:PySem.W.Frag} {tg:Expr} (a it:Addr) (xs:List V):Turn P w K tg (ItV K a xs) [it] it (fun i h=>h.IsRevIter it a ((xs.length:Int) - 1 - i)) where
 mem:=by simp
 obj:=fun i h st b hb=>by
  have e:b=it:=by simpa using hb
  subst e
  obtain⟨o,e,c,d⟩:=st
  exact⟨o,e,fun v z=>by rw[d] at z;cases z⟩
 keep:=fun i h h' st k=>st.at fun o e=>k it (by simp) o e
 item:=by
  intro X hP hw hK hc i pins s σ H E I hf st hg
  subst hP hw hK
  obtain⟨hq,hi⟩:=hg
  obtain⟨its,rv,p,hz⟩:=I.list hq
  have hl:=rv.length
  obtain⟨u,hu,ru⟩:=rv.get (List.getElem?_eq_getElem (show xs.length - 1 - i < xs.length by lia))
  obtain⟨f0,f1,f2,f3,f4,f5⟩:=hf it (by simp)
  have ei:(xs.length:Int) - 1 - i=((xs.length - 1 - i:Nat):Int):=by lia
  have st2:=st
  rw[ei] at st2
  refine wpAny_pyNext_rev_item st2 p.isList (x:=u) (by simpa using hu) fun h' st' sb=>?_
  have I1:Inv X pins σ H {s with heap:=h'}:=I.turned (t':=s.toks) (fun b o hb e=>(sb.2 b hb).trans e) f0 f1 f3 f4 f5
  have e2:((xs.length - 1 - i:Nat):Int) - 1=(xs.length:Int) - 1 - ((i+1:Nat):Int):=by lia
  rw[e2] at st'
  obtain⟨o,e,c,d⟩:=id st'
  refine⟨u,rfl,iP (s:={s with heap:=h'}) e c d (by decide) ⟨_,H,I1,ru,⟨rfl,?_⟩,st',fun b hb=>(hf b hb).1⟩⟩
  rw[List.getElem?_reverse hi]
  exact List.getElem?_eq_getElem _
 done:=by
  intro X hP hw hK hc i pins s σ H E I hf st hg
  subst hP hw hK
  obtain⟨hq,rfl⟩:=hg
  obtain⟨f0,f1,f2,f3,f4,f5⟩:=hf it (by simp)
  rw[show (xs.length:Int) - 1 - (xs.length:Int)= -1 by lia] at st
  exact wpAny_pyNext_rev_end (I.ok.hd hc) st fun h' eb=>⟨rfl,I.turned (t':=s.toks) (fun b o hb e=>eb b o hb e) f0 f1 f3 f4 f5⟩
 self:=fun _ _ _ _ _ st h=>wpAny_pyIter_revIter st h
noncomputable def yH (K:PySem.W.Frag) (ta:TA):TI:=fun σ H R=>ta σ H fun vs H1=> ∃ a xs,vs=[.ref a]∧SqL K H1 a xs∧R (ItV K a xs) H1
section
variable {X:Cx} {x:Str} {p pos:Pos} {e tg:Expr}
theorem wN {ta:TA} (hg:Gl X x) (hm:X.mg x=none) (hv:bootBuiltins x=some (.type "reversed")) (ha:PA X [e] ta) (hn:x≠"__name__":=by decide) (hdb:(x==("__debug__":Str))=false:=by decide)
  (he:starEach [e] X.env=(false,eval e X.env)::starEach [] X.env:=by rfl) (hpl:(backTo pos (starEach [] X.env)).any (·.1)=false:=by rfl):PI X tg (.Call (.Name x p) [e] [] pos) (yH X.K ta):=by
 intro pins s σ H R I h
 refine wpAny_Call_Name_kw (fh I hg hm hv ?_ hn hdb)
 refine PyProof.Rows.callWith_type1 (thn (ha pos pins s σ H _ I h) fun us s1 ⟨vs,H1,I1,r1,q1⟩=>?_) he hpl
 obtain⟨a,xs,rfl,hq,q⟩:=q1
 obtain⟨u,rfl,ru⟩:=r1.one
 cases ru
 obtain⟨its,rv,p,hz⟩:=I1.list hq
 have hl:=rv.length
 refine call_reversed_list p.isList ?_
 have I2:Inv X pins σ H1 {s1 with heap:=s1.heap.push (revObj a ((its.toArray.size:Int) - 1))}:=I1.kept (t':=s1.toks) fun b o e=>Heap.get?_push_of_some _ e
 have ez:((its.toArray.size:Nat):Int) - 1=(xs.length:Int) - 1 - ((0:Nat):Int):=by rw[List.size_toArray];lia
 have st:(s1.heap.push (revObj a ((its.toArray.size:Int) - 1))).IsRevIter s1.heap.objs.size a ((xs.length:Int) - 1 - ((0:Nat):Int)):=by
  rw[←ez]
  exact⟨_,Heap.get?_push_size _ rfl,rfl,rfl⟩
 refine wpAny_pyIter_revIter st ?_
 refine⟨s1.heap.objs.size,[s1.heap.objs.size],_,_,H1,rfl,I2,se a _ xs,st,fun b hb=>?_,q⟩
 have e:b=s1.heap.objs.size:=by simpa using hb
 subst e
 exact I1.fpOk (Nat.le_refl _) (I1.hok.fresh (Nat.le_refl _))
end
theorem vJ {K:PySem.W.Frag} {a:Addr} {xs:List V} {g:TG} {tb:TS} {D:Ends} {σ:St} {H:Hp} (Pv:Nat→L2.St→Hp→Prop) (h0:Pv 0 σ H) (hl: ∀ i σ H,i≤xs.length→Pv i σ H→SqL K H a xs)
  (hs: ∀ i x σ H,x∈xs→i < xs.length→Pv i σ H→g x σ H fun σ2 H2=>tb {D with nx:=Pv (i+1),ct:=Pv (i+1),bk:=D.nx} σ2 H2) (hd: ∀ σ H,Pv xs.length σ H→D.nx σ H):
  ∃ W:Nat→Nat→L2.St→Hp→Prop,(∃ m,W 0 m σ H)∧∀ i m σ H,W i m σ H→
   ((ItV K a xs).stop i H∧D.nx σ H)∨((ItV K a xs).go i H∧∃ N:L2.St→Hp→Prop,(∀ σ' H',N σ' H'→∃ m',m' < m∧W (i+1) m' σ' H')∧∀ x H',(ItV K a xs).yld i H x H'→g x σ H' fun σ2 H2=>tb {D with nx:=N,ct:=N,bk:=D.nx} σ2 H2):=by
 refine⟨fun i m σ H=>m=xs.length - i∧i≤xs.length∧Pv i σ H,⟨xs.length,by simp,Nat.zero_le _,h0⟩,?_⟩
 rintro i m σ H ⟨rfl,hi,p⟩
 have q:=hl i σ H hi p
 by_cases hlt:i < xs.length
 ·refine .inr ⟨⟨q,hlt⟩,Pv (i+1),fun σ' H' p'=>⟨xs.length - (i+1),by lia,rfl,hlt,p'⟩,fun x H' y=>?_⟩
  obtain⟨rfl,y⟩:=y
  exact hs i x σ _ (List.mem_reverse.mp (List.mem_of_getElem? y)) hlt p
 ·have e:i=xs.length:=by lia
  subst e
  exact .inl ⟨⟨q,rfl⟩,hd σ H p⟩
set_option genInjectivity false in
structure Pik (H:Hp) (a:Addr) (n:Nat):Prop where
 ex: ∃ (d sd k:Int),H a=some (.lst [.int d,.int sd,.int k])∧0≤d∧0≤sd∧sd < 2305843009213693951∧0≤k∧k≤n
noncomputable def qD:Sp:=fun vs H Q _=> ∃ (a:Addr) (n:Nat) (m:Int),vs=[.ref a,.int m]∧Pik H a n∧n < 1000000∧0 < m∧m < 1073741824∧
 ∀ (d:Int) (o:HO),0≤d→d < m→Pik (upd H a o) a (n+1)→Q (.int d) (upd H a o)
noncomputable def jR (K:PySem.W.Frag):Sp:=fun vs H Q _=> ∃ (a:Addr) (ns:List Int),vs=[.ref a]∧SqL K H a (ns.map V.int)∧ns.length≤63∧∀ (b:Addr) (H':Hp),Same H H'→Pik H' b 0→Q (.ref b) H'
noncomputable abbrev mY (K:PySem.W.Frag) (tabs:List (Addr×Str)):Fam:=⟨K,qD,tabs⟩
noncomputable def iD (K:PySem.W.Frag) (tabs:List (Addr×Str)) (a:Addr):Bg (mY K tabs) where
 B:=a
 priv:=fun p=>p=a∨p∈tabs.map (·.1)
 ok:=fun H n=>(∃ k,k+n≤1000000∧Pik H a k)∧∀ e∈tabs,TabAt H e
 pB:=.inl rfl
 keep:=fun H H' n k h=>by
  obtain⟨⟨j,hj,b⟩,ht⟩:=h
  obtain⟨d,sd,k',h1,r⟩:=b.ex
  exact⟨⟨j,hj,d,sd,k',k a _ (.inl (.inl rfl)) h1,r⟩,fun e he=>(ht e he).keep (fun ps z=>k _ _ (.inl (.inr (List.mem_map_of_mem he))) z) fun b ob u z=>k _ _ (.inr trivial) z⟩
 tp:=fun e he=>.inr (List.mem_map_of_mem he)
 tab:=fun H n h=>h.2
 tset:=fun H H' n h h1 h2=>by
  obtain⟨⟨j,hj,b⟩,ht⟩:=h
  obtain⟨d,sd,k',g1,r⟩:=b.ex
  have no:a∉tabs.map (·.1):=fun z=>by
   obtain⟨e',he',z2⟩:=List.mem_map.mp z
   obtain⟨ps,e2,_⟩:=ht e' he'
   rw[z2,g1] at e2;cases e2
  exact⟨⟨j,hj,d,sd,k',h2 a _ no g1,r⟩,h1⟩
 dom:=fun H n p h z=>by
  obtain⟨⟨j,hj,b⟩,ht⟩:=h
  obtain⟨d,sd,k',g1,r⟩:=b.ex
  rcases z with rfl|z
  ·exact⟨_,g1⟩
  ·obtain⟨e',he',rfl⟩:=List.mem_map.mp z
   obtain⟨ps,e3,_⟩:=ht e' he'
   exact⟨_,e3⟩
 dr:=fun H n m Q E ok h0 h1 q=>by
  obtain⟨⟨k,hk,b⟩,ht⟩:=ok
  obtain⟨_,_,_,e1,_⟩:=id b.ex
  exact⟨a,k,m,rfl,b,by lia,h0,h1,fun d o d0 d1 b'=>q d _ d0 d1 (fun p u np hp=>.of (by rw[ar np];exact hp)) ⟨⟨k+1,by lia,b'⟩,fun e he=>(ht e he).keep (fun ps z=>by rw[ar (pZ z e1 (by intro y;cases y))];exact z) fun b ob u z=>by rw[ar (pZ z e1 (by intro y;cases y))];exact z⟩⟩
theorem law_okP {tabs:List (Addr×Str)} {P:Program} {w:World} {K:PySem.W.Frag} {mg:Str→Option Value} {base:Heap} {x qual:Str} {st s0:Stmt} {f:Addr} {fd:FuncData} {N:List Str} {k b:Nat} {m:ah→M Fl} {rest:List Stmt} {sc:Scope} (F:Fun K x qual st f fd) (S:FnScope N ["_law_script"] (ak st)) (eb:au st=s0::rest) (es:ak st=sc)
  (h0: ∀ (cdv:Value) (A:Around) (outer:List Env) (s:Shared) (H:Hp) (E:XK),Room k (A.deeper (envOfC qual sc s.heap.objs.size f cdv))→BS (dn CX0 P w K mg base N qual sc f cdv A outer s H E).nox s0 (dD (jm (jR K) [] E0 (gz (fB 0) lN)) (cP b)))
  (hb: ∀ (cdv:Value) (A:Around) (outer:List Env) (s:Shared) (H:Hp) (E:XK),Room k (A.deeper (envOfC qual sc s.heap.objs.size f cdv))→SsV (mY K tabs) (dn CX0 P w K mg base N qual sc f cdv A outer s H E).nox rest m)
  (hm:(m ((List.replicate N.length Ent.un).set b (.val .bag))).wp 1000000 fun f _=>f= .rt (.bl true)) (h1:0 < N.length) (hb1:b < N.length) (hb0:b≠0):
  FnOk P w K mg base CX0 (k+1) f fd ["_law_script"] (gf K (tabs.map (·.1))):=by
 subst es
 refine F.ok S (fun vs H Q E h=>by obtain⟨a,ns,rfl,_⟩:=h;rfl) (fun cdv A outer s H vs Q E hr h=>?_)
 rw[eb]
 refine⟨_,cM (h0 cdv A outer s H E hr).out (hb cdv A outer s H E hr).out,?_⟩
 obtain⟨a,ns,rfl,hS,h63,ht,q⟩:=h
 refine⟨.ref a,?_,a,ns,rfl,hS,h63,fun b' H' sm bag=>?_⟩
 ·exact fO (N:=N) rfl
 ·have hl:(start N [V.ref a]).length=N.length:=by
   unfold start
   simp only[List.length_append,List.length_map,List.length_replicate,List.length_cons,List.length_nil]
   lia
  have okT:(iD K tabs b').ok H' 1000000:=⟨⟨0,by lia,bag⟩,fun e he=>⟨#[],sm _ _ (ht _ (List.mem_map_of_mem he)),trivial,fun pos cv z=>nomatch z⟩⟩
  have no: ∀ i p,¬ cT ((List.replicate N.length Ent.un).set b (.val .bag)) ((start N [V.ref a]).set b (some (V.ref b'))) i p:=fun i p hh=>by
   obtain⟨t,g1,g2,_⟩:=hh
   by_cases e:b=i
   ·subst e
    rw[List.getElem?_set_self (by simpa using hb1)] at g1
    cases g1;cases g2
   ·rw[List.getElem?_set_ne e,List.getElem?_replicate] at g1
    split at g1
    ·cases g1;cases g2
    ·cases g1
  refine⟨iD K tabs b',(iD K tabs b').priv,H',(iD K tabs b').priv,_,1000000,⟨⟨⟨by simp[hl],fun i e he=>?_⟩,okT,fun p z=>z,fun p z=>(iD K tabs b').dom H' 1000000 p okT z⟩,fun p z=>z,fun p z=>z,Ext.refl _ _,fun p z=>.inl z,fun p z=>(iD K tabs b').dom H' 1000000 p okT z,fun i p hh=>(no i p hh).elim,fun i j p hh=>(no i p hh).elim⟩,M.wp_mono hm fun f n' hf=>?_⟩
  ·by_cases e1:b=i
   ·subst e1
    rw[List.getElem?_set_self (by simpa using hb1)] at he
    cases he
    rw[List.getElem?_set_self (by first|decide|lia)]
    exact⟨_,rfl,.bag⟩
   ·rw[List.getElem?_set_ne e1,List.getElem?_replicate] at he
    split at he
    ·cases he;trivial
    ·cases he
  ·subst hf
   intro x' H2 _ _ r2
   cases r2
   exact q H2
end L2
namespace HT
open L2
theorem sD (A:Around) (s:Shared) (a:Int) (t:Tok) (c:Int) (u:Tok) (prog:Program) (w:World) (E:Value→Shared→Prop) (Q:Value→Shared→Prop) (h:Q (.bool (decide (c < a))) s):
  wpAny (model prog w) A (richCompare .Gt (.int a t) (.int c u)) Q E s:=(gt_int h:wpAny (model prog w) A (compareOp .Gt (.int a t) (.int c u)) Q E s)
section
open PySem.SeqAt
open PySem.AutoSeq1 (wpAny_loadPart')
open PySem.MeetsSeq PySem.MeetsSeq2 PySem.MeetsSeq3
theorem lb (l b:Addr) (items items2:Array Value) (n n2:Nat) (dd dd2:Option Addr) (sl sl2:Array (Option Value)) (ns ms:List Int) (hi:IntsAre items.toList ns) (hj:IntsAre items2.toList ms):
  Meets (Builtin.«tuple.__gt__» ⟨[.ref l,.ref b],[]⟩)
   (fun _ R s=>s.heap.get? l=some {cls:=.type "tuple",dict:=dd,data:=.seq items n,slots:=sl}∧s.heap.get? b=some {cls:=.type "tuple",dict:=dd2,data:=.seq items2 n2,slots:=sl2}∧
    R (.ok (.ret (.bool (lexLt ms ns)))) s):=
 .of_wp fun prog w A R s h=>by
  obtain⟨hp,g,d,tk,os⟩:=s;obtain⟨hl,hb,h⟩:=h
  have f2:=AutoSeq1.sub_tuple_tuple
  have z1:items.size=ns.length:=by rw[←hi.length];simp
  have z2:items2.size=ms.length:=by rw[←hj.length];simp
  wp_walk using wpAny_loadPart' hl,wpAny_loadPart' hb,wpAny_forIn_list _ (fun rest b s'=>b.1=none∧s'=⟨hp,g,d,tk,os⟩∧∃ (vs ws:List Value) (ns' ms':List Int),rest=vs.zip ws∧
   IntsAre vs ns'∧IntsAre ws ms'∧ns'.length+items2.size=ms'.length+items.size∧R (.ok (.ret (.bool (lexLt ms' ns')))) ⟨hp,g,d,tk,os⟩) _
  case turn=>
   rintro⟨y,x⟩ rest b s' ⟨hb',rfl,vs,ws,ns',ms',hz,hvi,hwi,hlen,hR⟩
   cases hvi with
   |nil=>rw[List.zip_nil_left] at hz;cases hz
   |cons a t hvi'=>
    cases hwi with
    |nil=>rw[List.zip_nil_right] at hz;cases hz
    |cons c u hwi'=>
     rw[List.zip_cons_cons] at hz
     injection hz with hyx hrest
     injection hyx with hy hx
     subst hy hx
     rw[lexLt_cons] at hR
     simp only[List.length_cons] at hlen
     obtain⟨e,he,hiff⟩:=tW A.in1 ⟨hp,g,d,tk,os⟩ a t c u
     refine wpAny_bind (he prog w _ _ ?_)
     cases e with
     |true=>
      rw[if_pos (hiff.mp rfl).symm] at hR
      wp_walk
      exact⟨rfl,rfl,_,_,_,_,hrest,hvi',hwi',by lia,hR⟩
     |false=>
      rw[if_neg (fun q=>absurd (hiff.mpr q.symm) Bool.false_ne_true)] at hR
      have hri:=sD A.in1 ⟨hp,g,d,tk,os⟩ a t c u prog w
      wp_walk using hri
      exact⟨_,rfl,by simpa using hR⟩
  case fin=>
   rintro⟨b1,b2⟩ s' ⟨hb',rfl,vs,ws,ns',ms',hz,hvi,hwi,hlen,hR⟩
   simp only at hb'
   subst hb'
   have hv:lexLt ms' ns'=decide (items2.size < items.size):=by
    cases hvi with
    |nil=>
     cases hwi with
     |nil=>
      simp only[List.length_nil] at hlen
      rw[lexLt_nil_nil]
      exact(decide_eq_false (by first|decide|lia)).symm
     |cons c u hw=>
      simp only[List.length_nil,List.length_cons] at hlen
      rw[j8]
      exact(decide_eq_false (by first|decide|lia)).symm
    |cons a t hv=>
     cases hwi with
     |nil=>
      simp only[List.length_nil,List.length_cons] at hlen
      rw[j7]
      exact(decide_eq_true (by first|decide|lia)).symm
     |cons c u hw=>
      rw[List.zip_cons_cons] at hz
      cases hz
   rw[hv] at hR
   wp_walk
   exact⟨_,rfl,by simpa[Builtin.Tuple.tupleCompareSizes] using hR⟩
  case h=>
   exact⟨rfl,rfl,items.toList,items2.toList,ns,ms,rfl,hi,hj,by lia,h⟩
end
section
variable {prog:Program} {w:World} {A:Around} {E:Value→Shared→Prop} {s:Shared}
theorem gt_tupInts {l b:Addr} {items items2:Array Value} {ns ms:List Int} {Q:Value→Shared→Prop} (hl:IsTup s.heap l items) (hb:IsTup s.heap b items2) (hi:IntsAre items.toList ns) (hj:IntsAre items2.toList ms)
  (hu:A.units < cLine) (h:Q (.bool (lexLt ms ns)) s):wpAny (model prog w) A (compareOp .Gt (.ref l) (.ref b)) Q E s:=by
 obtain⟨⟨cls,dd,data,sl⟩,ho,hc,n,hd⟩:=id hl
 obtain⟨⟨cls2,dd2,data2,sl2⟩,ho2,hc2,n2,hd2⟩:=id hb
 simp only at hc hd hc2 hd2
 subst hc hd hc2 hd2
 exact richCompare_meets_room (op:=.Gt) ⟨_,ho,rfl⟩ ⟨_,ho2,rfl⟩ PySem.F.slot_tuple_gt PySem.F.entry_tuple_gt (PySem.F.args_tuple_gt_2 _ _) (lb l b items items2 n n2 dd dd2 sl sl2 ns ms hi hj)
  ⟨ho,ho2,show Value.bool (lexLt ms ns)≠Value.notImplemented∧Q (.bool (lexLt ms ns)) s from⟨(fun x=>nomatch x),h⟩⟩ hu
end
end HT
namespace L2
section
open PySem.W (kla_fn kla_obj CodeHd tabObj)
noncomputable def qJ:List V→Hp→VK→Prop:=fun xs H Q=> ∃ (B:Addr) (O:Addr→Prop) (y:PV) (x:V) (d:PyData),xs=[x]∧Rep B O H y x∧(∀ l,y≠.lst l)∧toD y=some d∧ff d∧Q (.str d.shown) H
theorem jI {X:Cx} (hg:X.A.guards=some []) (hu:X.A.units+64 < cLine):dH X (.builtin "repr") qJ:=by
 intro pins s σ H xs us Q I r h
 obtain⟨B,O,y,x,d,rfl,rp,nl,hd,hs,q⟩:=h
 cases y with
 |tup l=>exact qi hg hu pins s σ H [x] us Q I r ⟨B,O,l,x,d,rfl,rp,hd,hs,q⟩
 |lst l=>exact absurd rfl (nl l)
 |non=>
  obtain⟨u,rfl,rx⟩:=vals1 r
  cases rp
  cases rx
  simp only[toD] at hd
  cases hd
  exact PySem.P.repr_of_none ⟨.str _,H,I.tok _,⟨_,rfl⟩,by simpa only[PyData.shown] using q⟩
 |bl b=>
  obtain⟨u,rfl,rx⟩:=vals1 r
  cases rp
  cases rx
  simp only[toD] at hd
  cases hd
  exact PySem.P.repr_of_bool ⟨.str _,H,I.tok _,⟨_,rfl⟩,by simpa only[PyData.shown] using q⟩
 |int i=>
  obtain⟨u,rfl,rx⟩:=vals1 r
  cases rp
  obtain⟨t,rfl⟩:=rx
  simp only[toD] at hd
  cases hd
  exact PySem.P.repr_of_int (by simpa only[PyData.showable,decide_eq_true_eq] using hs.1) ⟨.str _,H,I.tok _,⟨_,rfl⟩,by simpa only[PyData.shown] using q⟩
 |str z=>
  obtain⟨u,rfl,rx⟩:=vals1 r
  cases rp
  obtain⟨t,rfl⟩:=rx
  simp only[toD] at hd
  cases hd
  have h3:=hs.2.2.1
  simp only[PyData.shown] at h3
  exact PySem.P.repr_of_str ⟨.str _,H,I.tok _,⟨_,rfl⟩,by simpa only[PyData.shown] using q⟩ (by rw[sizeLine_eq];lia)
 |dct l=>simp only[toD] at hd;cases hd
 |scr l=>simp only[toD] at hd;cases hd
 |bag=>simp only[toD] at hd;cases hd
noncomputable def noL:PV→Bool
 | .lst _=>false
 |_=>true
noncomputable def fm:List PV→M PV
 |[y]=>if noL y then(M.ofO (toD y)).bind fun d=>if ff d then .ret (.str d.shown) else .fail else .fail
 |_=>.fail
theorem nr:fW qJ fm:=fun φ G O H n R Q l xs pr dm ok r w q=>by
 match l,r,w with
 |[y],r,w=>
  obtain⟨x,rfl,r1⟩:=r.one
  unfold fm at w
  dsimp only at w
  by_cases c:noL y=true
  ·rw[if_pos c] at w
   cases e:toD y with
   |none=>rw[e] at w;exact w.elim
   |some d=>
    rw[e] at w
    have w':(if ff d then M.ret (PV.str d.shown) else .fail).wp n R:=w
    by_cases hs:ff d
    ·rw[if_pos hs] at w'
     cases r1 with
     |full h=>exact⟨G.B,O,y,x,d,rfl,h,(fun l z=>by rw[z] at c;cases c),e,hs,q.sc ok (.str _) w'⟩
     |top np h r=>cases c
     |topD np h r=>simp only[toD] at e;cases e
    ·rw[if_neg hs] at w';exact w'.elim
  ·rw[if_neg c] at w;exact w.elim
theorem lW {c dp:Nat} {y:PV} (h:Sml c dp y) (hl:noL y=true) (hc:c≤1000000) (hd:dp≤40): ∃ t:Str,fm [y]= .ret (.str t):=by
 obtain⟨d,h1,h2,h3,h4,h5⟩:=h
 refine⟨d.shown,?_⟩
 unfold fm
 dsimp only
 rw[if_pos hl,h1]
 show (if ff d then M.ret (PV.str d.shown) else .fail)=_
 rw[if_pos ⟨h2,h3,by lia,by lia⟩]
noncomputable def bi (kf:Nat→Int×Int):Nat→Option Nat
 |0=>none
 |j+1=>match bi kf j with
  |none=>some j
  |some b=>if rk kf b < rk kf j then some j else some b
theorem jK {kf:Nat→Int×Int}: ∀ {j b:Nat},bi kf j=some b→b < j
 |0,b,h=>by cases h
 |j+1,b,h=>by
  unfold bi at h
  cases e:bi kf j with
  |none=>rw[e] at h;cases h;lia
  |some c=>
   rw[e] at h
   dsimp only at h
   have:=jK e
   by_cases z:rk kf c < rk kf j
   ·rw[if_pos z] at h;cases h;lia
   ·rw[if_neg z] at h;cases h;lia
theorem o9 {kf:Nat→Int×Int}: ∀ {j:Nat},0 < j→∃ b,bi kf j=some b
 |j+1,_=>by
  unfold bi
  cases e:bi kf j with
  |none=>exact⟨_,rfl⟩
  |some c=>
   dsimp only
   by_cases z:rk kf c < rk kf j
   ·exact⟨_,if_pos z⟩
   ·exact⟨_,if_neg z⟩
theorem tD (a v u:Value):argsOk "max" ⟨[a],[(Str.ofString "key",v),(Str.ofString "default",u)]⟩:=by unfold argsOk;kernel_rfl
theorem yc {m n m' n':Int} (h0:0≤n) (h1:n < 1000000) (h0':0≤n') (h1':n' < 1000000):HT.lexLt [m,n] [m',n']=decide (m * 1000000+n < m' * 1000000+n'):=by
 rw[HT.lexLt_cons,HT.lexLt_cons,HT.lexLt_nil_nil]
 by_cases c:m=m'
 ·subst c
  rw[if_pos rfl]
  by_cases d:n=n'
  ·subst d
   rw[if_pos rfl]
   simp
  ·rw[if_neg d]
   exact decide_eq_decide.mpr ⟨fun z=>by lia,fun z=>by lia⟩
 ·rw[if_neg c]
  exact decide_eq_decide.mpr ⟨fun z=>by lia,fun z=>by lia⟩
section
variable {X:Cx} {pins:List (Addr×Obj)} {σ:St} {H:Hp} {s:Shared} {f l It S:Addr} {its:List Value} {xs:List V} {kf:Nat→Int×Int} {R:Result→Shared→Prop}
noncomputable def uI (xs:List V):Option (Nat×Addr)→List V
 |none=>[]
 |some (b,T)=>[xs.getD b .non,.ref T]
theorem tw (hh:X.A.handled=none) (hu:X.A.units+64 < cLine) (hl:H l=some (.lst xs)) (rvl:xs.length < 100000) (nl:H It=none) (hSn:H S=none) (hIS:It≠S)
  (hkey: ∀ (pins':List (Addr×Obj)) (H1:Hp) (s1:Shared) (i:Nat) (x:V) (u:Value),xs[i]?=some x→RelV x u→Same H H1→Inv X pins' σ H1 s1→wpAny (model X.prog X.w) X.A.in1 (call (.ref f) [u]) (EP X pins' σ fun v H2=> ∃ T,v= .ref T∧H1 T=none∧H2=upd H1 T (.tup [.int (kf i).1,.int (kf i).2])) (fun _ _=>False) s1)
  (hb: ∀ i,i < xs.length→0≤(kf i).2∧(kf i).2 < 1000000)
  (hR: ∀ (H':Hp) (s':Shared) (v:V) (u:Value),Inv X pins σ H' s'→Same H H'→RelV v u→v=(match bi kf xs.length with|none=>.non|some b=>xs.getD b .non)→R (.ok (.ret u)) s'):
  ∀ (r j:Nat) (H1:Hp) (s1:Shared) (o:Option (Nat×Addr)),xs.length - j=r→j≤xs.length→Inv X pins σ H1 s1→cx X pins H1 It→Same H H1→s1.heap.IsListIter It l j→H1 S=some (.lst (uI xs o))→o.map (·.1)=bi kf j→(∀ b T,o=some (b,T)→H1 T=some (.tup [.int (kf b).1,.int (kf b).2]))→
   codeAny (model X.prog X.w) X.A (.builtin "max.loop" ⟨[.ref It,.ref f,.ref S],[(Str.ofString "default",.none)]⟩) R s1:=by
 have hname:(toString "max"++toString ".loop":String)="max.loop":=by decide
 intro r
 induction r with
 |zero=>
  intro j H1 s1 o hr hj I fp sm st hS ho hT
  have ej:j=xs.length:=by lia
  subst ej
  obtain⟨_,its,n,r1,r2,gS⟩:=I.lstM hS
  obtain⟨_,itl,nl',r3,r4,gl⟩:=I.lstM (sm _ _ hl)
  obtain⟨f0,f1,f2,f3,f4,f5⟩:=fp
  refine codeAny_builtin PySem.F.entry_max_loop ?_
  rw[Around.under_plainId PySem.F.plain_max_loop _]
  show wpAny _ X.A.in1 (seqItems? (.ref S) >>= _) _ _ _
  refine wpAny_bind (wpAny_seqItems gS rfl ?_)
  show wpAny _ X.A.in1 (tryCatch (pyNext (.ref It)) _ >>= _) _ _ _
  refine wpAny_bind (wpAny_tryCatch (wpAny_pyNext_list_end (A:=X.A.in1) hh st (items:=itl.toArray) ⟨_,gl,rfl,nl',rfl⟩ (by simp;lia) fun h' eb=>?_))
  have I1:Inv X pins σ H1 {s1 with heap:=h'}:=I.turned (t':=s1.toks) (fun b o hb e=>eb b o hb e) f0 f1 f3 f4 f5
  cases o with
  |none=>
   have e0:its=[]:=by
    cases r1;rfl
   subst e0
   have eb0:bi kf xs.length=none:=ho.symm
   show wpAny _ X.A.in1 (rule _ >>= _) _ _ _
   refine wpAny_bind (wpAny_rule (wpAny_pure ?_))
   exact hR H1 _ .non .none I1 sm rfl (by rw[eb0])
  |some p=>
   obtain⟨b,T⟩:=p
   have eb0:bi kf xs.length=some b:=ho.symm
   obtain⟨_,its2,n2,q1,q2,gS2⟩:=I1.lstM hS
   have gSe:h'.get? S=some {cls:=.type "list",data:=.seq its.toArray n}:=eb S _ (Ne.symm hIS) gS
   cases r1 with
   |cons ra rest=>
    cases rest with
    |cons rb rest=>
     cases rest
     cases rb
     rename_i u
     show wpAny _ X.A.in1 (updateSeq S (fun _=> #[]) >>= _) _ _ _
     refine wpAny_bind ?_
     refine wpAny_updateSeq gSe rfl (wpAny_bind (wpAny_letGo (wpAny_pure ?_)))
     have I2:=I1.lset (t':=s1.toks) (f:=fun _=>(#[]:Array Value)) (its':=[]) (ys:=[]) hS gSe rfl .nil (Nat.zero_le _)
     refine hR _ _ _ u I2 (fun b' o' e=>?_) ra (by rw[eb0])
     rw[ar (aS e hSn)]
     exact sm _ _ e
 |succ r ih=>
  intro j H1 s1 o hr hj I fp sm st hS ho hT
  have hlt:j < xs.length:=by lia
  obtain⟨_,its,n,r1,r2,gS⟩:=I.lstM hS
  obtain⟨_,itl,nl',r3,r4,gl⟩:=I.lstM (sm _ _ hl)
  obtain⟨f0,f1,f2,f3,f4,f5⟩:=id fp
  obtain⟨u,hu',ru⟩:=r3.get (List.getElem?_eq_getElem hlt)
  refine codeAny_builtin PySem.F.entry_max_loop ?_
  rw[Around.under_plainId PySem.F.plain_max_loop _]
  show wpAny _ X.A.in1 (seqItems? (.ref S) >>= _) _ _ _
  refine wpAny_bind (wpAny_seqItems gS rfl ?_)
  show wpAny _ X.A.in1 (tryCatch (pyNext (.ref It)) _ >>= _) _ _ _
  refine wpAny_bind (wpAny_tryCatch (wpAny_pyNext_list_item (A:=X.A.in1) st (items:=itl.toArray) ⟨_,gl,rfl,nl',rfl⟩ (x:=u) (by simpa using hu') fun h' st' sb=>?_))
  have I1:Inv X pins σ H1 {s1 with heap:=h'}:=I.turned (t':=s1.toks) (fun b o hb e=>(sb.2 b hb).trans e) f0 f1 f3 f4 f5
  obtain⟨oI,gI,cI,dI⟩:=id st'
  have I2:Inv X ((It,oI)::pins) σ H1 {s1 with heap:=h'}:=I1.pins_of fun q hq=>by
   rcases List.mem_cons.mp hq with rfl|hq
   ·exact⟨gI,f0,f1,f2,fun v z=>by rw[dI] at z;cases z⟩
   ·exact I1.pin q (List.mem_append_right _ hq)
  show wpAny _ X.A.in1 (tryCatch (holding [u] (call (.ref f) [u])) _ >>= _) _ _ _
  refine wpAny_bind (wpAny_tryCatch (wpAny_holding (wpAny_mono (hkey _ H1 _ j _ u (List.getElem?_eq_getElem hlt) ru sm I2) (fun kv s2 he=>?_) fun _ _ hF=>hF.elim)))
  obtain⟨v,H2,J2,rk',T,rfl,hTn,rfl⟩:=he
  cases rk'
  have st2:s2.heap.IsListIter It l (j+1):=⟨oI,(J2.pin _ (List.mem_append_right _ List.mem_cons_self)).1,cI,dI⟩
  have J3:Inv X pins σ (upd H1 T (.tup [.int (kf j).1,.int (kf j).2])) s2:=J2.pins_of fun q hq=>J2.pin q (List.mem_append_right _ (List.mem_cons_of_mem _ hq))
  have hTS:S≠T:=aS hS hTn
  have hS2:upd H1 T (.tup [.int (kf j).1,.int (kf j).2]) S=some (.lst (uI xs o)):=by rw[ar hTS];exact hS
  have sm2:Same H (upd H1 T (.tup [.int (kf j).1,.int (kf j).2])):=fun b' o' e=>by
   rw[ar (aS (sm _ _ e) hTn)]
   exact sm _ _ e
  have fp2:cx X pins (upd H1 T (.tup [.int (kf j).1,.int (kf j).2])) It:=⟨(J2.pin _ (List.mem_append_right _ List.mem_cons_self)).2.1,f1,f2,f3,f4,f5⟩
  obtain⟨_,itS,nS,q1,q2,gS2⟩:=J3.lstM hS2
  have new:bi kf (j+1)=some j→codeAny (model X.prog X.w) X.A (.builtin "max.loop" ⟨[.ref It,.ref f,.ref S],[(Str.ofString "default",.none)]⟩) R {s2 with heap:=s2.heap.update S (Obj.mapSeq fun _=> #[u,.ref T])}:=fun eb=>by
   have I4:=J3.lset (t':=s2.toks) (f:=fun _=> #[u,.ref T]) (its':=[u,.ref T]) (ys:=[xs.getD j .non,.ref T]) hS2 gS2 rfl (.cons (by rw[List.getD_eq_getElem?_getD,List.getElem?_eq_getElem hlt];exact ru) (.cons rfl .nil)) (by show 2≤sizeLine;rw[sizeLine_eq];lia)
   refine ih (j+1) _ _ (some (j,T)) (by first|decide|lia) hlt I4 ⟨by rw[ar hIS];exact fp2.1,fp2.2⟩ (fun b' o' e=>?_) ?_ aD eb.symm (fun b' T' e=>?_)
   ·rw[ar (aS e hSn)]
    exact sm2 _ _ e
   ·obtain⟨o',g',c',d'⟩:=st2
    exact⟨o',(Heap.get?_update_other _ _ (Ne.symm hIS)).trans g',c',d'⟩
   ·cases e
    rw[ar (Ne.symm hTS),aD]
  cases o with
  |none=>
   have e0:its=[]:=by
    cases r1;rfl
   subst e0
   have eb0:bi kf j=none:=ho.symm
   show wpAny _ X.A.in1 (updateSeq S (fun _=> #[u,.ref T]) >>= _) _ _ _
   refine wpAny_bind ?_
   refine wpAny_updateSeq gS2 rfl ?_
   rw[hname]
   exact wpAny_pure ⟨plainId_quiet PySem.F.plain_max_loop _,new (by unfold bi;rw[eb0])⟩
  |some p=>
   obtain⟨b,T'⟩:=p
   have eb0:bi kf j=some b:=ho.symm
   have hbj:=jK eb0
   have hT':=hT b T' rfl
   have hT2:upd H1 T (.tup [.int (kf j).1,.int (kf j).2]) T'=some (.tup [.int (kf b).1,.int (kf b).2]):=by rw[ar (aS hT' hTn)];exact hT'
   cases r1 with
   |cons ra rest=>
    cases rest with
    |cons rb rest=>
     cases rest
     cases rb
     rename_i ub
     show wpAny _ X.A.in1 (tryCatch (holding [u,.ref T] (richCompare .Gt (.ref T) (.ref T') >>= _)) _ >>= _) _ _ _
     obtain⟨oa,na,ta,tb',ga,ca,da⟩:=gk J3.hok (show upd H1 T (.tup [.int (kf j).1,.int (kf j).2]) T=_ from aD)
     obtain⟨oc,nc,tc,td,gc,cc,dc⟩:=gk J3.hok hT2
     refine wpAny_bind (wpAny_tryCatch (wpAny_holding (wpAny_bind (HT.gt_tupInts (A:=X.A.in1) (ns:=[(kf j).1,(kf j).2]) (ms:=[(kf b).1,(kf b).2]) ⟨oa,ga,ca,na,da⟩ ⟨oc,gc,cc,nc,dc⟩ (.cons _ _ (.cons _ _ .nil)) (.cons _ _ (.cons _ _ .nil)) (by show X.A.units+1 < cLine;lia) ?_))))
     rw[yc (hb b (by first|decide|lia)).1 (hb b (by first|decide|lia)).2 (hb j hlt).1 (hb j hlt).2]
     refine wpAny_bind (wpAny_holding (wpAny_truthy_bool ?_))
     refine wpAny_bind (wpAny_letGo (wpAny_pure ?_))
     by_cases c:rk kf b < rk kf j
     ·have c':(kf b).1 * 1000000+(kf b).2 < (kf j).1 * 1000000+(kf j).2:=c
      simp only[c',decide_true,if_true]
      refine wpAny_bind ?_
      refine wpAny_updateSeq gS2 rfl (wpAny_bind (wpAny_letGo ?_))
      rw[hname]
      exact wpAny_pure ⟨plainId_quiet PySem.F.plain_max_loop _,new (by unfold bi;rw[eb0];exact if_pos c)⟩
     ·have c': ¬ (kf b).1 * 1000000+(kf b).2 < (kf j).1 * 1000000+(kf j).2:=c
      simp only[c',decide_false,Bool.false_eq_true,if_false]
      refine wpAny_bind (wpAny_letGo ?_)
      rw[hname]
      exact wpAny_pure ⟨plainId_quiet PySem.F.plain_max_loop _,ih (j+1) _ _ (some (b,T')) (by first|decide|lia) hlt J3 fp2 sm2 st2 hS2 (by unfold bi;rw[eb0];exact(if_neg c).symm) (fun b' T'' e=>by cases e;exact hT2)⟩
end
end
section
open PySem.W (kla_fn kla_obj CodeHd tabObj)
variable {φ:Fam}
noncomputable abbrev tF (kf:Nat→Int×Int) (xs:List V):V:=match bi kf xs.length with|none=>.non|some b=>xs.getD b .non
theorem rj {X:Cx} {pins:List (Addr×Obj)} {σ:St} {H:Hp} {s:Shared} {f l:Addr} {xs:List V} {kf:Nat→Int×Int} {Q:VK}
  (I:Inv X pins σ H s) (hh:X.A.handled=none) (hu:X.A.units+64 < cLine) (hl:H l=some (.lst xs)) (rvl:xs.length < 100000)
  (hkey: ∀ (pins':List (Addr×Obj)) (H1:Hp) (s1:Shared) (i:Nat) (x:V) (u:Value),xs[i]?=some x→RelV x u→Same H H1→Inv X pins' σ H1 s1→wpAny (model X.prog X.w) X.A.in1 (call (.ref f) [u]) (EP X pins' σ fun v H2=> ∃ T,v= .ref T∧H1 T=none∧H2=upd H1 T (.tup [.int (kf i).1,.int (kf i).2])) (fun _ _=>False) s1)
  (hb: ∀ i,i < xs.length→0≤(kf i).2∧(kf i).2 < 1000000)
  (hq: ∀ H':Hp,Same H H'→Q (tF kf xs) H'):
  wpAny (model X.prog X.w) X.A (call (.builtin "max") [.ref l] [(Str.ofString "key",.ref f),(Str.ofString "default",.none)]) (EP X pins σ Q) X.xe s:=by
 have hname:(toString "max"++toString ".loop":String)="max.loop":=by decide
 obtain⟨_,its,n,r1,r2,gl⟩:=I.lstM hl
 refine kmk_tree PySem.F.kind_max PySem.F.plain_max PySem.F.entry_max (tD _ _ _) ?_
 show wpAny _ X.A.in1 (Builtin.Builtins.bindParams "max" ["key","default"] 0 ⟨[],[(Str.ofString "key",.ref f),(Str.ofString "default",.none)]⟩ >>= _) _ _ s
 refine wpAny_bind (wpAny_of_eq (show Builtin.Builtins.bindParams "max" ["key","default"] 0 ⟨[],[(Str.ofString "key",.ref f),(Str.ofString "default",.none)]⟩=pure [some (.ref f),some .none] from rfl) ?_)
 refine wpAny_bind (wpAny_pure ?_)
 refine wpAny_bind (wpAny_pyIter_list (items:=its.toArray) ⟨_,gl,rfl,n,rfl⟩ ?_)
 have I1:Inv X pins σ H {s with heap:=s.heap.push {cls:=.type "list_iterator",data:=.fields #[.ref l,.int 0 0]}}:=I.kept (t':=s.toks) fun b o e=>Heap.get?_push_of_some _ e
 have nI:H s.heap.objs.size=none:=I.hok.fresh (Nat.le_refl _)
 have fpI:cx X pins H s.heap.objs.size:=I.fpOk (Nat.le_refl _) nI
 refine wpAny_bind (wpAny_newList ?_ (Nat.zero_le _))
 have nS:H (s.heap.push {cls:=.type "list_iterator",data:=.fields #[.ref l,.int 0 0]}).objs.size=none:=I1.fresh
 have I2:=I1.lnew (t':=s.toks) (ys:=[]) (its:=[]) .nil (Nat.zero_le _)
 have hne:s.heap.objs.size≠(s.heap.push {cls:=.type "list_iterator",data:=.fields #[.ref l,.int 0 0]}).objs.size:=by rw[size_push'];lia
 have gI:((s.heap.push {cls:=.type "list_iterator",data:=.fields #[.ref l,.int 0 0]}).push {cls:=.type "list",data:=.seq ([]:List Value).toArray}).IsListIter s.heap.objs.size l 0:=⟨_,Heap.get?_push_of_some _ (Heap.get?_push_size _ rfl),rfl,rfl⟩
 rw[hname]
 refine wpAny_pure ⟨plainId_quiet PySem.F.plain_max_loop _,?_⟩
 refine tw (H:=H) hh hu hl rvl nI nS hne hkey hb (fun H' s' v u J sm rv ev=>⟨v,H',J,rv,ev▸hq H' sm⟩) _ 0 _ _ none rfl (Nat.zero_le _) I2 ⟨by rw[ar hne];exact nI,fpI.2⟩ (fun b o e=>?_) gI aD rfl (fun b T e=>by cases e)
 rw[ar (aS e nS)]
 exact e
noncomputable def xT (e:Addr×Str) (N:List Str) (tE:TE) (Q:VK) (x:V) (H1:Hp):Prop:= ∃ (l:Addr) (xs:List V) (kf:Nat→Int×Int),x= .ref l∧H1 l=some (.lst xs)∧xs.length < 100000∧TabAt H1 e∧
 (∀ i x,xs[i]?=some x→∀ H2,(∀ b o,b≠e.1→H1 b=some o→H2 b=some o)→tE (start N [x]) H2 fun v H3=> ∃ T,v= .ref T∧H2 T=none∧H3=upd H2 T (.tup [.int (kf i).1,.int (kf i).2]))∧
 (∀ i,i < xs.length→0≤(kf i).2∧(kf i).2 < 1000000)∧
 ∀ H':Hp,(∀ b o,b≠e.1→H1 b=some o→H' b=some o)→TabAt H' e→Q (tF kf xs) H'
noncomputable def uk (e:Addr×Str) (N:List Str) (tE ta:TE):TE:=fun σ H Q=>ta σ H (xT e N tE Q)
noncomputable def yx (e:Addr×Str) (N:List Str) (tE:TE) (Q:VK):List V→Hp→Prop
 |[x],H1=>xT e N tE Q x H1
 |_,_=>False
theorem vg {X:Cx} {k:Nat} {c P:Addr} {params:Arguments} {body e:Expr} {scope:Scope} {lpos kpos dpos npos pos p:Pos} {nk:Nat} {N:List Str} {y:Str} {tE ta:TE}
  (hr:Room (k+3) X.A) (hB:BIn X.base X.mg) (hcode:X.env.code= .ref c) (hC:CodeHd X.base c P) (hcl:closureFor scope X.env=pure []) (hdef:defaultsOf params X.env=([],[])) (S:FnScope N [y] scope)
  (hbind: ∀ (s:Shared) (pm:Value) (c:Addr) (ctv u:Value),BindsTo s (kla_fn "<lambda>" (X.env.qual++"<lambda>") params body scope [] pm (.ref c) ctv) ⟨[u],[]⟩ [(y,u)])
  (hbody: ∀ (f c:Addr) (A:Around) (s:Shared) (H:Hp),PE (dn CX0 X.prog X.w X.K X.mg X.base N (X.env.qual++"<lambda>") scope f (.ref c) A X.stack s H E0).nox body tE)
  (hg:Gl X "max") (hm:X.mg "max"=none) (ha:PE X e ta) (hs:starEach [e] X.env=(false,eval e X.env)::starEach [] X.env:=by rfl):
  PE X (.Call (.Name "max" p) [e] [⟨some (Str.ofString "key"),.Lambda params body scope lpos,kpos⟩,⟨some (Str.ofString "default"),.Constant .none nk npos,dpos⟩] pos) (uk (P,X.env.qual++"<lambda>") N tE ta):=by
 intro pins s σ H Q I h
 refine wpAny_Call_Name_kw (fh I hg hm boot_max ?_)
 have hpa:=cL ha du hs
 refine callWith_kw (thn (hpa pos pins s σ H (yx (P,X.env.qual++"<lambda>") N tE Q) I h) fun us s1 hu=>?_) (by rw[hs];rfl) (by rw[hs];rfl)
 obtain⟨vs,H1,I1,r,q⟩:=hu
 match vs,r,q with
 |[x],r,q=>
 obtain⟨u,rfl,rx⟩:=vals1 r
 obtain⟨l,xs,kf,rfl,hl,hz,tab,hk,hb,q⟩:=q
 cases rx
 refine kws_cons (mQ I1 hB hcode hC tab hcl hdef fun f c' oc fs tq pm ctv H' s' J hfn at_f at_c hfd hfs tab' keepH=>kws_cons (Constant_none (kws_nil ?_)))
 show wpAny (model X.prog X.w) X.A (call (.builtin "max") [.ref l] [(Str.ofString "key",.ref f),(Str.ofString "default",.none)]) (EP X pins σ Q) X.xe s'
 have nl:l≠P:=fun z=>by
  obtain⟨ps,hP,_⟩:=tab
  have hP:H1 P=some (.tbl ps):=hP
  rw[z,hP] at hl
  cases hl
 refine rj J hr.hd hr.units (keepH l _ nl hl) hz (fun pins' H2 s2 i x u hx ru sm J2=>?_) hb fun H3 sm=>?_
 ·exact mR S hr.in1 rfl J2 (J2.hok f _ (sm _ _ at_f)).1 (J2.hok c' _ (sm _ _ at_c)).1 hfd hfs (hbind s2 pm c' ctv u) rfl (show Vals [x] [u] from .cons ru .nil) (hbody f c' _ s2 H2)
   (hk i _ hx H2 fun b o nb e=>sm b o (keepH b o nb e))
 ·exact q H3 (fun b o nb e=>sm b o (keepH b o nb e)) (tab'.keep (fun ps e=>sm _ _ e) fun b ob u e=>sm _ _ e)
noncomputable def ed:List PV→Option PV:=fun l=>(bi (fun i=>kPV (l.getD i .non)) l.length).map fun b=>l.getD b .non
noncomputable def j5 (y:PV):M PV:=match y with
 | .lst l=>if decide (l.length < 100000)&&l.all okP then .ret ((ed l).getD .non) else .fail
 |_=>.fail
theorem tG {y:PV} {n:Nat} {R:PV→Nat→Prop} (w:(j5 y).wp n R): ∃ l,y= .lst l∧l.length < 100000∧(∀ z∈l,okP z=true)∧R ((ed l).getD .non) n:=by
 unfold j5 at w
 cases y with
 |lst l=>
  dsimp only at w
  by_cases c:(decide (l.length < 100000)&&l.all okP)=true
  ·rw[if_pos c] at w
   simp only[Bool.and_eq_true,decide_eq_true_eq,List.all_eq_true] at c
   exact⟨l,rfl,c.1,c.2,w⟩
  ·rw[if_neg c] at w;exact w.elim
 |_=>exact w.elim
theorem vL {X:Cx} {e:Expr} {tb:Addr×Str} {N:List Str} {me:ah→M PV} (hin:tb∈φ.tabs) (hun: ∀ q∈φ.tabs,q.1=tb.1→q=tb) (h:BE X e (uk tb N (pF X.K 2 1) (teB φ me))):EV φ X e (fun ρ=>(me ρ).bind j5):=BE.mono h fun σ H Q hq0=>by
 obtain⟨G,O,ρ,n,R,s,w,q⟩:=hq0
 rw[M.wp_bind] at w
 refine⟨G,O,ρ,n,_,s,w,fun y x H1 n1 e1 ok1 r1 w1=>?_⟩
 obtain⟨l,rfl,hz,hok,hR⟩:=tG w1
 obtain⟨p,xs,rfl,hp,rs⟩:=r1.lst_i
 have tab:=G.tab H1 n1 ok1 tb hin
 have hlen:l.length=xs.length:=rs.1
 have pO:O tb.1:=s.pr _ (G.tp tb hin)
 obtain⟨ps,hP,_⟩:=id tab
 refine⟨p,xs,fun i=>kPV (l.getD i .non),rfl,hp,by lia,tab,fun i x hx H2 k2=>?_,fun i hi=>?_,fun H' kp tab'=>?_⟩
 ·obtain⟨y,hy,ry⟩:=rs.at' hx
  obtain⟨k,ek,b0,b1⟩:=iI (hok y (List.mem_of_getElem? hy))
  obtain⟨l',rfl,g2,g1⟩:=kH ek
  obtain⟨q',ys,rfl,hq',r'⟩:=(RepB.full ry:RepB G O H1 _ _).tup_i
  obtain⟨v2,hv2,rv2⟩:=r'.at g2
  obtain⟨v1,hv1,rv1⟩:=r'.at g1
  cases rv2
  cases rv1
  have ekk:kPV (l.getD i .non)=k:=by
   rw[List.getD_eq_getElem?_getD,hy]
   show (eK _).getD _=k
   rw[Option.getD_some,ek]
   rfl
  dsimp only
  rw[ekk]
  exact lM (k2 _ _ (fun z=>by rw[z,hP] at hq';cases hq') hq') (fL hv2) (fL hv1)
 ·have hi':i < l.length:=by lia
  obtain⟨k,ek,b0,b1⟩:=iI (hok _ (List.getElem_mem hi'))
  have ekk:kPV (l.getD i .non)=k:=by
   rw[List.getD_eq_getElem?_getD,List.getElem?_eq_getElem hi']
   show (eK _).getD _=k
   rw[Option.getD_some,ek]
   rfl
  dsimp only
  rw[ekk]
  exact⟨b0,b1⟩
 ·have ext:Ext G.B H1 H':=fun b o nb eb=>by
   by_cases z:b=tb.1
   ·obtain⟨qs,hQ,_⟩:=tab'
    rw[z,hP] at eb
    cases eb
    exact⟨qs,z▸hQ⟩
   ·exact .of (kp b o z eb)
  have ok':G.ok H' n1:=G.tset H1 H' n1 ok1 (fun q' hq'=>by
   by_cases z:q'.1=tb.1
   ·rw[hun q' hq' z]
    exact tab'
   ·exact(G.tab H1 n1 ok1 q' hq').keep (fun qs eq=>kp _ _ z eq) fun b ob u eq=>kp b _ (fun y=>by rw[y,hP] at eq;cases eq) eq) fun b o nb eb=>kp b o (fun z=>nb (List.mem_map.mpr ⟨tb,hin,z.symm⟩)) eb
  refine q _ _ H' n1 (e1.trans ext) ok' ?_ hR
  unfold ed tF
  rw[←hlen]
  cases eb:bi (fun i=>kPV (l.getD i .non)) l.length with
  |none=>exact .non
  |some b=>
   have hbl:=jK eb
   obtain⟨x,hx,rx⟩:=rs.at (List.getElem?_eq_getElem hbl)
   show Rep G.B O H' (l.getD b .non) (xs.getD b .non)
   rw[List.getD_eq_getElem?_getD,List.getD_eq_getElem?_getD,hx,List.getElem?_eq_getElem hbl]
   exact rx.ext (s.pr _ G.pB) ext
end
section
variable {X:Cx} {pins:List (Addr×Obj)} {σ:St} {H:Hp} {s:Shared} {d:Addr} {o:Obj} {ks:List (Key×V)}
theorem tP {P:Program} {w:World} {h:Heap} {u u':HO} (x:HOk P w H h) (e:H d=some u) (no: ∀ y,u≠.own y) (nt: ∀ xs,u≠.tup xs) (new:ObjOk P w H h d u'):HOk P w (upd H d u') h:=fun b v q=>by
 have ho: ∀ y c,H c=some (.own y)→upd H d u' c=some (.own y):=fun y c g=>by
  rw[ar (fun z=>by subst z;rw[e] at g;exact no y (Option.some.inj g))];exact g
 have ht: ∀ c xs,H c=some (.tup xs)→upd H d u' c=some (.tup xs):=fun c xs g=>by
  rw[ar (fun z=>by subst z;rw[e] at g;exact nt xs (Option.some.inj g))];exact g
 by_cases hb:b=d
 ·subst hb
  rw[aD] at q;cases q
  exact new.stay (fun _ _ _ g=>g) (fun c g=>ho _ c g) ht
 ·rw[ar hb] at q
  exact(x b v q).stay (fun _ _ _ g=>g) (fun c g=>ho _ c g) ht
theorem Inv.swap {u u':HO} (I:Inv X pins σ H s) (e:H d=some u) (no: ∀ y,u≠.own y) (nt: ∀ xs,u≠.tup xs) (nb: ∀ ps,u≠.tbl ps) (nf: ∀ ob v,X.H₀ d=some (.frz ob v)→u'= .frz ob v) (new:ObjOk X.prog X.w H s.heap d u'):Inv X pins σ (upd H d u') s:=by
 have nn: ∀ b,H b=none→upd H d u' b=none:=fun b g=>by
  rw[ar (fun z=>by subst z;rw[e] at g;cases g)];exact g
 refine⟨I.ok,I.os,I.bare,⟨I.base.keep,I.base.slot,fun b o q n hx=>nn b (I.base.free b o q n hx),I.base.there,fun b xs q=>?_,fun b ob v q=>?_,fun b ps q=>?_⟩,I.loc,I.cell,nn _ I.free,fun x c q=>nn _ (I.freeC x c q),fun p hp=>?_,tP I.hok e no nt new,I.len⟩
 ·have g:=I.base.tups b xs q
  rw[ar (fun z=>by subst z;rw[e] at g;exact nt xs (Option.some.inj g))];exact g
 ·by_cases hb:b=d
  ·subst hb
   rw[aD,nf ob v q]
  ·rw[ar hb];exact I.base.frzs b ob v q
 ·obtain⟨more,g⟩:=I.base.tbls b ps q
  exact⟨more,by rw[ar (fun z=>by subst z;rw[e] at g;exact nb _ (Option.some.inj g))];exact g⟩
 ·obtain⟨a1,a2,a3⟩:=I.pin p hp
  exact⟨a1,nn _ a2,a3⟩
noncomputable def Was (X:Cx) (d:Addr) (o:Obj) (ks:List (Key×V)) (u:HO):Prop:=(u= .dK ks∧∀ ob v,X.H₀ d≠some (.frz ob v))∨u= .frz o (.dK ks)
theorem Inv.know (I:Inv X pins σ H s) (r:Rd H d (.dK ks)): ∃ o u,s.heap.get? d=some o∧H d=some u∧Was X d o ks u∧Inv X pins σ (upd H d (.frz o (.dK ks))) s:=by
 rcases r with e|⟨o,e⟩
 ·obtain⟨_,_,vs,_,o,es,ep,g,_⟩:=I.hok d _ e
  refine⟨o,_,g,e,.inl ⟨rfl,fun ob v q=>?_⟩,I.swap e (fun _ z=>nomatch z) (fun _ z=>nomatch z) (fun _ z=>nomatch z) (fun ob v q=>?_) ⟨g,I.hok d _ e⟩⟩
  ·have:=I.base.frzs d ob v q;rw[e] at this;cases this
  ·have:=I.base.frzs d ob v q;rw[e] at this;cases this
 ·obtain⟨g,_⟩:=I.hok d _ e
  refine⟨o,_,g,e,.inr rfl,I.swap e (fun _ z=>nomatch z) (fun _ z=>nomatch z) (fun _ z=>nomatch z) (fun ob v q=>?_) (I.hok d _ e)⟩
  have:=I.base.frzs d ob v q;rw[e] at this;exact Option.some.inj this
theorem Inv.thaw {u:HO} (I:Inv X pins σ H s) (e:H d=some (.frz o (.dK ks))) (w:Was X d o ks u):Inv X pins σ (upd H d u) s:=by
 rcases w with⟨rfl,nf⟩|rfl
 ·exact I.swap e (fun _ z=>nomatch z) (fun _ z=>nomatch z) (fun _ z=>nomatch z) (fun ob v q=>absurd q (nf ob v)) (I.hok d _ e).2
 ·exact I.swap e (fun _ z=>nomatch z) (fun _ z=>nomatch z) (fun _ z=>nomatch z) (fun ob v q=>by have:=I.base.frzs d ob v q;rw[e] at this;exact Option.some.inj this) (I.hok d _ e)
noncomputable def jl (X:Cx) (P:Hp→Prop) (H:Hp):Prop:= ∃ d o ks u,H d=some (.frz o (.dK ks))∧Was X d o ks u∧P (upd H d u)
noncomputable def Ends.thaw (X:Cx) (D:Ends):Ends:=⟨fun σ H=>jl X (D.nx σ) H,fun v H=>jl X (D.rt v) H,fun σ H=>jl X (D.bk σ) H,fun σ H=>jl X (D.ct σ) H⟩
theorem va {st:Stmt} {t:TS} (h:PS X st t):PS X st (fun D σ H=>t (D.thaw X) σ H):=fun pins s σ H D I q=>by
 refine thn (h pins s σ H (D.thaw X) I q) fun f s1 q1=>?_
 cases f with
 |next=>obtain⟨σ',H',I',d,o,ks,u,e,w,p⟩:=q1;exact⟨σ',_,I'.thaw e w,p⟩
 |brk=>obtain⟨σ',H',I',d,o,ks,u,e,w,p⟩:=q1;exact⟨σ',_,I'.thaw e w,p⟩
 |cont=>obtain⟨σ',H',I',d,o,ks,u,e,w,p⟩:=q1;exact⟨σ',_,I'.thaw e w,p⟩
 |ret v=>obtain⟨x,σ',H',I',r,d,o,ks,u,e,w,p⟩:=q1;exact⟨x,σ',_,I'.thaw e w,r,p⟩
theorem yk {P:Program} {w:World} {k:Key} {u:Value} (h:(bE P w).is k u=true):RelV (kV k) u:=by
 rw[p4] at h
 rcases cj h with⟨i,t,rfl,rfl⟩|⟨x,t,rfl,rfl⟩
 ·exact⟨t,rfl⟩
 ·exact⟨t,rfl⟩
noncomputable def Itd (d:Addr) (o:Obj) (ks:List (Key×V)):It:=
 ⟨fun i H=>H d=some (.frz o (.dK ks))∧i < ks.length,fun i H x H'=>H'=H∧∃ k,(ks.map (·.1))[i]?=some k∧x=kV k,fun i H=>H d=some (.frz o (.dK ks))∧ks.length≤i⟩
theorem KV.at {kvs:List (Key×V)} {vs:List (Key×Value)} (r:KV kvs vs) (i:Nat) (h:i < kvs.length): ∃ k v,vs[i]?=some (k,v)∧(kvs.map (·.1))[i]?=some k:=by
 have hl:=r.length
 refine⟨(vs[i]'(by first|decide|lia)).1,(vs[i]'(by first|decide|lia)).2,by rw[List.getElem?_eq_getElem],?_⟩
 rw[KV.keys r,List.getElem?_map,List.getElem?_eq_getElem (by first|decide|lia)]
 rfl
theorem qw {P:Program} {w:World} {K:PySem.W.Frag} {tg:Expr} {vs:List (Key×Value)} {es:Array DictEntry} {ep:Nat} (d it:Addr) (o:Obj) (ks:List (Key×V)) (r:KV ks vs) (ho:o.ExactDict∧o.data= .dict es ep∧KeysOf (bE P w) es∧Pairs (bE P w) es.toList vs∧(vs.map (·.1)).Nodup):
  Turn P w K tg (Itd d o ks) [it] it (fun i h=>h.IsKeyIter it d i vs.length ep) where
 mem:=by simp
 obj:=fun i h st b hb=>by
  have e:b=it:=by simpa using hb
  subst e
  obtain⟨o,e,c,d⟩:=st
  exact⟨o,e,fun v z=>by rw[d] at z;cases z⟩
 keep:=fun i h h' st k=>st.at fun o e=>k it (by simp) o e
 item:=by
  intro X hP hw hK hc i pins s σ H E I hf st hg
  subst hP hw hK
  obtain⟨e,hi⟩:=hg
  obtain⟨g,_⟩:=I.hok d _ e
  obtain⟨f0,f1,f2,f3,f4,f5⟩:=hf it (by simp)
  obtain⟨k,v,hk,hk'⟩:=r.at i hi
  refine wpAny_pyNext_dict_item (knd:=bE X.prog X.w) st ⟨o,es,g,ho⟩ hk fun key h' ik st' sb=>?_
  have I1:Inv X pins σ H {s with heap:=h'}:=I.turned (t':=s.toks) (fun b o hb e=>(sb.2 b hb).trans e) f0 f1 f3 f4 f5
  obtain⟨o',e',c',d'⟩:=id st'
  exact⟨key,rfl,iP (s:={s with heap:=h'}) e' c' d' (by decide) ⟨kV k,H,I1,yk ik,⟨rfl,k,hk',rfl⟩,st',fun b hb=>(hf b hb).1⟩⟩
 done:=by
  intro X hP hw hK hc i pins s σ H E I hf st hg
  subst hP hw hK
  obtain⟨e,hi⟩:=hg
  obtain⟨g,_⟩:=I.hok d _ e
  obtain⟨f0,f1,f2,f3,f4,f5⟩:=hf it (by simp)
  have hl:=r.length
  exact wpAny_pyNext_dict_end (knd:=bE X.prog X.w) (I.ok.hd hc) st ⟨o,es,g,ho⟩ (List.getElem?_eq_none_iff.mpr (by first|decide|lia)) fun h' eb=>⟨rfl,I.turned (t':=s.toks) (fun b o hb e=>eb b o hb e) f0 f1 f3 f4 f5⟩
 self:=fun _ _ _ _ _ st h=>wpAny_pyIter_keyiter st h
noncomputable def p9 (X:Cx) (td:TE):TI:=fun σ H R=>td σ H fun x H1=> ∃ d ks,x= .ref d∧Rd H1 d (.dK ks)∧∀ o u,H1 d=some u→Was X d o ks u→R (Itd d o ks) (upd H1 d (.frz o (.dK ks)))
theorem vf {l:Expr} {tg:Expr} {td:TE} (hl:PE X l td):PI X tg l (p9 X td):=by
 intro pins s σ H R I h
 refine thn (hl pins s σ H _ I h) fun v s1 ⟨x,H1,I1,r1,q1⟩=>?_
 obtain⟨a,ks,e,hq,q⟩:=q1
 subst e
 cases r1
 obtain⟨o,u,g,eu,wu,I2⟩:=I1.know hq
 obtain⟨_,hs,vs,r,ob,es,ep,g',rest⟩:=hq.ok I1.hok
 rw[g] at g';cases g'
 refine wpAny_pyIter_dict (knd:=bE X.prog X.w) (kvs:=vs) (ep:=ep) hs ⟨o,es,g,rest⟩ ?_
 refine⟨s1.heap.objs.size,[s1.heap.objs.size],_,_,_,rfl,I2.kept (t':=s1.toks) fun b o e=>Heap.get?_push_of_some _ e,qw a _ o ks r rest,⟨_,Heap.get?_push_size _ rfl,rfl,rfl⟩,fun b hb=>?_,q o u eu wu⟩
 have e:b=s1.heap.objs.size:=by simpa using hb
 subst e
 exact I2.fpOk (Nat.le_refl _) (I2.hok.fresh (Nat.le_refl _))
end
section
variable {φ:Fam} {G:Bg φ} {O0 O:Addr→Prop} {H0 H H':Hp} {σ:St} {ρ:ah} {n n':Nat}
theorem SI.setD (s:SI G O0 H0 O H σ ρ n) (k:Nat) {l:List (Key×PV)} {p:Addr} {xs:List (Key×V)} (x:Ext G.B H H') (ok:G.ok H' n') (hp:H p=none) (hp':H' p=some (.dK xs)) (r:RepsK G.B (fun q=>O q∨q=p) H' l xs):
  SI G O0 H0 (fun q=>O q∨q=p) H' (σ.set k (some (.ref p))) (ρ.set k (.ownD l)) n':=by
 have nO: ¬ O p:=fun z=>by obtain⟨o,g⟩:=s.es.dm p z;rw[hp] at g;cases g
 have np: ¬ G.priv p:=fun z=>nO (s.es.pr p z)
 have h0:H0 p=none:=by
  cases e:H0 p with
  |none=>rfl
  |some o=>obtain⟨_,this⟩:=(s.ext p o (fun z=>np (z▸G.pB)) e).there;rw[hp] at this;cases this
 have hB:O G.B:=s.es.B
 have gw: ∀ q,(O q∨q=p)→O q∨H q=none:=fun q z=>by
  rcases z with z|z
  ·exact .inl z
  ·subst z;exact .inr hp
 have s':=s.es.ext x ok
 have es:ES G (fun q=>O q∨q=p) H' σ ρ n':=by
  refine⟨⟨s.es.er.1,fun i e he=>?_⟩,ok,fun q z=>.inl (s.es.pr q z),fun q z=>?_⟩
  ·have r1:=s.es.er.2 i e he
   cases e with
   |un=>trivial
   |val y=>obtain⟨v,hv,rr⟩:=r1;exact⟨v,hv,(rr.grow gw).ext (.inl hB) x⟩
   |own t=>
    obtain⟨q,ys,hv,hq,nq,hh,rr⟩:=r1
    exact⟨q,ys,hv,.inl hq,nq,x q _ (fun z=>nq (z▸G.pB)) hh,(rr.grow gw).ext (.inl hB) x⟩
   |ownD t=>
    obtain⟨q,ys,hv,hq,nq,hh,rr⟩:=r1
    exact⟨q,ys,hv,.inl hq,nq,x q _ (fun z=>nq (z▸G.pB)) hh,⟨rr.1,fun i a b c d=>((rr.2 i a b c d).grow gw).ext (.inl hB) x⟩⟩
  ·rcases z with z|z
   ·exact s'.dm q z
   ·subst z;exact⟨_,hp'⟩
 have ow: ∀ i q,cT (ρ.set k (.ownD l)) (σ.set k (some (.ref p))) i q→(i=k∧q=p)∨(i≠k∧cT ρ σ i q):=fun i q h=>by
  obtain⟨t,h1,h2,h3⟩:=h
  by_cases hk:k=i
  ·subst hk
   rw[List.getElem?_set] at h3
   split at h3
   ·split at h3
    ·cases h3;exact .inl ⟨rfl,rfl⟩
    ·cases h3
   ·rename_i hh;exact absurd rfl hh
  ·rw[List.getElem?_set_ne hk] at h1 h3
   exact .inr ⟨fun z=>hk z.symm,t,h1,h2,h3⟩
 refine⟨es.set k (t:=.ownD l) ⟨p,xs,rfl,.inr rfl,np,hp',r⟩,s.p0,fun q z=>.inl (s.sub q z),s.ext.trans x,fun q z=>?_,s.d0,fun i q h=>?_,fun i j q h h'=>?_⟩
 ·rcases z with z|z
  ·exact s.gr q z
  ·subst z;exact .inr h0
 ·rcases ow i q h with⟨_,rfl⟩|⟨_,h⟩
  ·exact h0
  ·exact s.fr i q h
 ·rcases ow i q h with⟨rfl,rfl⟩|⟨n1,h1⟩
  ·rcases ow j q h' with⟨rfl,_⟩|⟨n2,h2⟩
   ·rfl
   ·obtain⟨_,_,o,g⟩:=dR s.es h2;rw[hp] at g;cases g
  ·rcases ow j q h' with⟨rfl,rfl⟩|⟨n2,h2⟩
   ·obtain⟨_,_,o,g⟩:=dR s.es h1;rw[hp] at g;cases g
   ·exact s.dj i j q h1 h2
theorem SI.putD (s:SI G O0 H0 O H σ ρ n) {k:Nat} {l l':List (Key×PV)} {p:Addr} {xs':List (Key×V)} (hk:ρ[k]?=some (.ownD l)) (hp:σ[k]?=some (some (.ref p))) (r:RepsK G.B O H l' xs'):SI G O0 H0 O (upd H p (.dK xs')) σ (ρ.set k (.ownD l')) n:=by
 have ho:cT ρ σ k p:=⟨_,hk,rfl,hp⟩
 obtain⟨hO,np,o,hh⟩:=dR s.es ho
 have nfz:=my s.es ho hh
 have kp: ∀ q u,¬ O q→H q=some u→upd H p (.dK xs') q=some u∧¬ O q:=fun q u nq hq=>⟨by
  have hne:q≠p:=fun z=>nq (z▸hO)
  rw[ar hne];exact hq,nq⟩
 have ow: ∀ i q,cT (ρ.set k (.ownD l')) σ i q→cT ρ σ i q:=fun i q h=>by
  obtain⟨t,h1,h2,h3⟩:=h
  by_cases e:k=i
  ·subst e;exact⟨_,hk,rfl,h3⟩
  ·rw[List.getElem?_set_ne e] at h1;exact⟨t,h1,h2,h3⟩
 refine⟨⟨⟨by simp[s.es.er.1],fun i e he=>?_⟩,G.keep H _ _ (fun q u hq hu=>by
   have hne:q≠p:=fun z=>by
    rcases hq with hq|hq
    ·exact np (z▸hq)
    ·rw[z,hh] at hu;cases hu;exact nfz hq
   rw[ar hne];exact hu) s.es.ok,s.es.pr,fun q hq=>?_⟩,s.p0,s.sub,fun q u nb hq=>?_,s.gr,s.d0,fun i q h=>s.fr i q (ow i q h),fun i j q h h'=>s.dj i j q (ow i q h) (ow j q h')⟩
 ·by_cases e1:k=i
  ·subst e1
   have hl:k < ρ.length:=(List.getElem?_eq_some_iff.mp hk).1
   rw[List.getElem?_set_self hl] at he
   cases he
   rw[hp]
   exact⟨p,xs',rfl,hO,np,aD,r.keep kp⟩
  ·rw[List.getElem?_set_ne e1] at he
   have r1:=s.es.er.2 i e he
   cases e with
   |un=>trivial
   |val y=>obtain⟨v,hv,rr⟩:=r1;exact⟨v,hv,rr.keep kp⟩
   |own t=>
    obtain⟨q,ys,hv,hq,nq,hh',rr⟩:=r1
    have hne:q≠p:=fun z=>by
     subst z
     exact e1 (s.dj k i q ho ⟨_,he,rfl,df s.es.er he hv⟩)
    exact⟨q,ys,hv,hq,nq,by rw[ar hne];exact hh',rr.keep kp⟩
   |ownD t=>
    obtain⟨q,ys,hv,hq,nq,hh',rr⟩:=r1
    have hne:q≠p:=fun z=>by
     subst z
     exact e1 (s.dj k i q ho ⟨_,he,rfl,df s.es.er he hv⟩)
    exact⟨q,ys,hv,hq,nq,by rw[ar hne];exact hh',rr.keep kp⟩
 ·by_cases e1:q=p
  ·subst e1;exact⟨_,aD⟩
  ·obtain⟨u,g⟩:=s.es.dm q hq;exact⟨u,by rw[ar e1];exact g⟩
 ·have hne:q≠p:=fun z=>by subst z;rw[s.fr k q ho] at hq;cases hq
  exact(s.ext q u nb hq).to fun v e=>.of (by rw[ar hne];exact e)
end
noncomputable def dY (l:List (Key×PV)) (k:Key):Option PV:=(l.find? fun kv=>decide (kv.1=k)).map (·.2)
noncomputable def fZ (l:List (Key×PV)) (k:Key) (y:PV):List (Key×PV):=
 if(l.any fun kv=>decide (kv.1=k))=true then l.map (fun kv=>if kv.1=k then(kv.1,y) else kv) else l++[(k,y)]
noncomputable def j9:Key→PV
 | .inl i=>.int i
 | .inr x=>.str x
noncomputable def f6:PV→Option Key
 | .int i=>some (.inl i)
 | .str x=>some (.inr x)
 |_=>none
section
variable {B:Addr} {O:Addr→Prop} {H:Hp}
theorem RepsK.nil:RepsK B O H [] []:=⟨rfl,fun i y x a=>by simp at a⟩
theorem RepsK.cons {y:Key×PV} {x:Key×V} {l:List (Key×PV)} {ks:List (Key×V)} (e:y.1=x.1) (r:Rep B O H y.2 x.2) (t:RepsK B O H l ks):RepsK B O H (y::l) (x::ks):=by
 refine⟨by simp[e,t.1],fun i a b h1 h2=>?_⟩
 cases i with
 |zero=>simp at h1 h2;subst h1 h2;exact r
 |succ i=>simp at h1 h2;exact t.2 i a b h1 h2
theorem RepsK.inv {l:List (Key×PV)} {ks:List (Key×V)} (r:RepsK B O H l ks):(l=[]∧ks=[])∨∃ y l' x ks',l=y::l'∧ks=x::ks'∧y.1=x.1∧Rep B O H y.2 x.2∧RepsK B O H l' ks':=by
 cases l with
 |nil=>exact .inl ⟨rfl,by have:=r.1;simpa using this.symm⟩
 |cons y l=>
  cases ks with
  |nil=>have:=r.1;simp at this
  |cons x ks=>
   have h:=r.1
   simp only[List.map_cons,List.cons.injEq] at h
   exact .inr ⟨y,l,x,ks,rfl,rfl,h.1,r.2 0 y x rfl rfl,h.2,fun i a b h1 h2=>r.2 (i+1) a b (by simpa using h1) (by simpa using h2)⟩
theorem RepsK.val (k:Key): ∀ {l:List (Key×PV)} {ks:List (Key×V)},RepsK B O H l ks→(dY l k=none∧eF ks k=none)∨∃ y x,dY l k=some y∧eF ks k=some x∧Rep B O H y x
 |[],ks,r=>by
  rcases r.inv with⟨_,rfl⟩|⟨_,_,_,_,e,_⟩
  ·exact .inl ⟨rfl,rfl⟩
  ·cases e
 |y::l,ks,r=>by
  rcases r.inv with⟨e,_⟩|⟨y',l',x,ks',e,rfl,ek,ry,rt⟩
  ·cases e
  ·cases e
   by_cases c:y.1=k
   ·refine .inr ⟨y.2,x.2,by simp[dY,c],?_,ry⟩
    exact gx (ek.symm.trans c)
   ·have c': ¬ x.1=k:=fun z=>c (ek.trans z)
    rw[gy c']
    have e1:dY (y::l) k=dY l k:=by simp[dY,List.find?_cons,c]
    rw[e1]
    exact RepsK.val k rt
theorem RepsK.any (k:Key) {l:List (Key×PV)} {ks:List (Key×V)} (r:RepsK B O H l ks):(l.any fun kv=>decide (kv.1=k))=ks.any fun kv=>decide (kv.1=k):=by
 have e1:(l.any fun kv=>decide (kv.1=k))=(l.map (·.1)).any fun z=>decide (z=k):=by rw[List.any_map];rfl
 have e2:(ks.any fun kv=>decide (kv.1=k))=(ks.map (·.1)).any fun z=>decide (z=k):=by rw[List.any_map];rfl
 rw[e1,e2,r.1]
theorem RepsK.snoc {k:Key} {y:PV} {x:V} (rx:Rep B O H y x): ∀ {l:List (Key×PV)} {ks:List (Key×V)},RepsK B O H l ks→RepsK B O H (l++[(k,y)]) (ks++[(k,x)])
 |[],ks,r=>by
  rcases r.inv with⟨_,rfl⟩|⟨_,_,_,_,e,_⟩
  ·exact RepsK.cons (y:=(k,y)) (x:=(k,x)) rfl rx RepsK.nil
  ·cases e
 |z::l,ks,r=>by
  rcases r.inv with⟨e,_⟩|⟨y',l',x',ks',e,rfl,ek,ry,rt⟩
  ·cases e
  ·cases e
   exact RepsK.cons ek ry (RepsK.snoc rx rt)
theorem RepsK.repl {k:Key} {y:PV} {x:V} (rx:Rep B O H y x): ∀ {l:List (Key×PV)} {ks:List (Key×V)},RepsK B O H l ks→RepsK B O H (l.map fun kv=>if kv.1=k then(kv.1,y) else kv) (ks.map fun kv=>if kv.1=k then(kv.1,x) else kv)
 |[],ks,r=>by
  rcases r.inv with⟨_,rfl⟩|⟨_,_,_,_,e,_⟩
  ·exact RepsK.nil
  ·cases e
 |z::l,ks,r=>by
  rcases r.inv with⟨e,_⟩|⟨y',l',x',ks',e,rfl,ek,ry,rt⟩
  ·cases e
  ·cases e
   rw[List.map_cons,List.map_cons]
   by_cases c:z.1=k
   ·rw[if_pos c,if_pos (ek.symm.trans c)]
    exact RepsK.cons ek rx (RepsK.repl rx rt)
   ·rw[if_neg c,if_neg (fun q=>c (ek.trans q))]
    exact RepsK.cons ek ry (RepsK.repl rx rt)
theorem RepsK.put {k:Key} {y:PV} {x:V} {l:List (Key×PV)} {ks:List (Key×V)} (r:RepsK B O H l ks) (rx:Rep B O H y x):RepsK B O H (fZ l k y) (putK ks k x):=by
 unfold fZ putK
 rw[r.any k]
 split
 ·exact r.repl rx
 ·exact r.snoc rx
theorem tL (k:Key):Rep B O H (j9 k) (kV k):=by
 cases k with
 |inl i=>exact .int i
 |inr x=>exact .str x
end
theorem i7 {φ:Fam} {G:Bg φ} {O:Addr→Prop} {H:Hp} {y:PV} {x:V} {k:Key} (r:RepB G O H y x) (e:f6 y=some k):x=kV k:=by
 cases y<;>first|cases e|skip
 ·rw[r.int_i];rfl
 ·rw[r.str_i];rfl
theorem RepsK.len {B:Addr} {O:Addr→Prop} {H:Hp} {l:List (Key×PV)} {ks:List (Key×V)} (r:RepsK B O H l ks):l.length=ks.length:=by simpa using congrArg List.length r.1
section
variable {φ:Fam} {X:Cx} {e o i a b:Expr} {pos:Pos} {md mk mv:ah→M PV}
noncomputable def iR:PV→PV→M PV
 | .dct l,y=>(M.ofO (f6 y)).bind fun k=>M.ofO (dY l k)
 |_,_=>.fail
theorem jy {α:Type} {o:Option α} {n:Nat} {R:α→Nat→Prop} (w:(M.ofO o).wp n R): ∃ y,o=some y∧R y n:=by
 cases o with
 |none=>exact w.elim
 |some y=>exact⟨y,rfl,w⟩
theorem vM (h:BE X e (um (teB φ md) (teB φ mk))):EV φ X e (ag iR md mk):=BE.mono h fun σ H Q hq0=>by
 obtain⟨G,O,ρ,n,R,s,w,q⟩:=hq0
 unfold ag at w
 rw[M.wp_bind] at w
 refine⟨G,O,ρ,n,_,s,w,fun y x H1 n1 e1 ok1 r1 w1=>?_⟩
 have s1:=s.ext e1 ok1
 rw[M.wp_bind] at w1
 refine⟨G,O,ρ,n1,_,s1,w1,fun z x' H2 n2 e2 ok2 r2 w2=>?_⟩
 cases y<;>first|exact w2.elim|skip
 rename_i l
 unfold iR at w2
 rw[M.wp_bind] at w2
 obtain⟨k,ek,w2⟩:=jy w2
 obtain⟨v,ev,w2⟩:=jy w2
 obtain⟨p,ks,rfl,hd,rr⟩:=(r1.ext s.B e2).dct_i
 rcases rr.val k with⟨z1,_⟩|⟨v',xv,z1,z2,rv⟩
 ·rw[z1] at ev;cases ev
 ·rw[z1] at ev;cases ev
  exact⟨p,xv,rfl,.inl ⟨ks,k,hd,i7 r2 ek,z2.symm⟩,q _ _ _ _ (e1.trans e2) ok2 rv w2⟩
noncomputable def fK (neg:Bool):PV→PV→M PV
 |y,.dct l=>(M.ofO (f6 y)).bind fun k=>.ret (.bl ((dY l k).isSome !=neg))
 |_,_=>.fail
theorem nh {neg:Bool} {σ:St} {H:Hp} {Q:VK} (h:teP φ (ag (fK neg) mk md) σ H Q):teB φ mk σ H fun y H1=>teB φ md σ H1 fun x H2=> ∃ a o,x= .ref a∧kx H2 a y o∧Q (.bl (o.isSome !=neg)) H2:=by
 obtain⟨G,O,ρ,n,R,s,w,q⟩:=h
 unfold ag at w
 rw[M.wp_bind] at w
 refine⟨G,O,ρ,n,_,s,w,fun z x' H1 n1 e1 ok1 r1 w1=>?_⟩
 have s1:=s.ext e1 ok1
 rw[M.wp_bind] at w1
 refine⟨G,O,ρ,n1,_,s1,w1,fun y x H2 n2 e2 ok2 r2 w2=>?_⟩
 cases y<;>first|(simp only[fK] at w2;exact w2.elim)|skip
 rename_i l
 have w2':((M.ofO (f6 z)).bind fun k=>M.ret (.bl ((dY l k).isSome !=neg)):M PV).wp n2 R:=by cases z<;>exact w2
 rw[M.wp_bind] at w2'
 obtain⟨k,ek,w2'⟩:=jy w2'
 obtain⟨p,ks,rfl,hd,rr⟩:=r2.dct_i
 refine⟨p,eF ks k,rfl,.inl ⟨ks,k,hd,i7 (r1.ext s.B e2) ek,rfl⟩,q _ _ _ _ (e1.trans e2) ok2 (.bl _) ?_⟩
 have e3:(eF ks k).isSome=(dY l k).isSome:=by
  rcases rr.val k with⟨z1,z2⟩|⟨_,_,z1,z2,_⟩<;>simp[z1,z2]
 rw[e3]
 exact w2'
theorem xK (hu:X.A.units+1 < cLine) (hk:EB φ X a mk) (hd:EB φ X b md) (hm:behindInMarks .In b=false):EV φ X (.Compare a [.In] [b] pos) (ag (fK false) mk md):=
 BE.mono ⟨wU (qT hu hk.out hd.out) hm⟩ fun σ H Q h=>by
  obtain h:=nh h
  unfold su
  simpa only[Bool.bne_false] using h
theorem v7 (hu:X.A.units+1 < cLine) (hk:EB φ X a mk) (hd:EB φ X b md) (hm:behindInMarks .In b=false):TV φ X (.Compare a [.In] [b] pos) (asB (ag (fK false) mk md)):=
 BT.mono ⟨wK (qT hu hk.out hd.out) hm⟩ (nQ fun σ H Q h=>by
  obtain h:=nh h
  unfold su
  simpa only[Bool.bne_false] using h)
theorem vT (hu:X.A.units+1 < cLine) (ho:EB φ X o md) (hi:EB φ X i mk) (hs:uf i):EV φ X (.Subscript o i pos) (ag iR md mk):=vM ⟨vh hu ho.out hi.out hs⟩
end
section
variable {φ:Fam} {X:Cx} {st:Stmt}
noncomputable def pS (k:Nat):ah→M Fl:=fun ρ=>.ret (.nx (ρ.set k (.ownD [])))
theorem oE {k:Nat} (h:BS X st (dD qz (cP k))):SV φ X st (pS k):=BS.mono h fun D σ H ⟨G,O0,H0,O,ρ,n,s,w⟩ p hp=>
 w _ _ _ (s.setD k (Ext.new hp _) (Bg.new s.es.ok hp _) hp aD RepsK.nil)
noncomputable def fU (k:Nat) (mk mv:ah→M PV):ah→M Fl:=fun ρ=>(mv ρ).bind fun y=>match ρ[k]? with|some (.ownD l)=>(mk ρ).bind fun z=>(M.ofO (f6 z)).bind fun key=>if l.length < 100000 then .ret (.nx (ρ.set k (.ownD (fZ l key y)))) else .fail|_=>.fail
theorem oD {k:Nat} {mk mv:ah→M PV} (h:BS X st (pI (fB k) (teB φ mk) (teP φ mv))):SV φ X st (fU k mk mv):=BS.mono h fun D σ H hq0=>by
 obtain⟨G,O0,H0,O,ρ,n,s,w⟩:=hq0
 unfold fU at w
 rw[M.wp_bind] at w
 refine⟨G,O,ρ,n,_,s.es,w,fun y x H1 n1 e1 ok1 r1 w1=>?_⟩
 have s1:=s.to e1 ok1
 cases hk:ρ[k]? with
 |none=>simp only[hk] at w1;exact w1.elim
 |some t=>
  cases t with
  |ownD l=>
   simp only[hk] at w1
   obtain⟨p,xs,hx,hO,np,hh,rr⟩:=s1.es.er.2 k _ hk
   have hs:=df s.es.er hk hx
   have npB:p≠G.B:=fun z=>np (z▸G.pB)
   rw[M.wp_bind] at w1
   refine⟨_,hs,G,O,ρ,n1,_,s1.es,w1,fun i x2 H2 n2 e2 ok2 r2 w2=>?_⟩
   rw[M.wp_bind] at w2
   obtain⟨key,ek,w2⟩:=jy w2
   by_cases c:l.length < 100000
   ·rw[if_pos c] at w2
    have s2:=s1.to e2 ok2
    have hh2:H2 p=some (.dK xs):=e2 p _ npB hh
    refine⟨p,_,rfl,.inl ⟨xs,key,hh2,i7 r2 ek,?_,rfl⟩,w2 O _ _ (s2.putD hk hs ((rr.ext s.es.B e2).put (r1.ext s.es.B e2)))⟩
    rw[←rr.len,sizeLine_eq];lia
   ·rw[if_neg c] at w2;exact w2.elim
  |_=>simp only[hk] at w1;exact w1.elim
theorem o7 {o i value:Expr} {pos pos':Pos} {td ty tv:TE} (hu:X.A.units+1 < cLine) (ho:BE X o td) (hi:BE X i ty) (hv:BE X value tv) (hs:swapsWith value (some (.Subscript o i pos')) pos.line X.env=pure false:=by rfl):
  BS X (.Assign [.Subscript o i pos'] value pos) (pI td ty tv):=⟨vc hu ho.out hi.out hv.out hs⟩
end
noncomputable def DK (ks:List (Key×V)) (u:HO):Prop:=u= .dK ks∨∃ o,u= .frz o (.dK ks)
theorem DK.rd {H:Hp} {p:Addr} {ks:List (Key×V)} {u:HO} (h:DK ks u) (e:H p=some u):Rd H p (.dK ks):=by
 rcases h with rfl|⟨o,rfl⟩
 ·exact .inl e
 ·exact .inr ⟨o,e⟩
theorem DK.nfz {ks:List (Key×V)} {u:HO} (h:DK ks u): ¬ ug u:=by
 rcases h with rfl|⟨o,rfl⟩<;>exact id
section
variable {B:Addr} {O:Addr→Prop} {H:Hp} {p:Addr} {ks:List (Key×V)} {u u':HO}
theorem Rep.swapD {y:PV} {x:V} (r:Rep B O H y x) (e:H p=some u) (d:DK ks u) (d':DK ks u'):Rep B O (upd H p u') y x:=by
 have ne: ∀ q v,H q=some v→¬ DK ks v→upd H p u' q=some v:=fun q v g nd=>by
  rw[ar (fun z=>by subst z;rw[e] at g;cases g;exact nd d)];exact g
 induction r with
 |non=>exact .non
 |bl b=>exact .bl b
 |int i=>exact .int i
 |str x=>exact .str x
 |tup hO h hl hr ih=>exact .tup hO (ne _ _ h (fun z=>by rcases z with z|⟨_,z⟩<;>cases z)) hl ih
 |lst hO h hl hr ih=>exact .lst hO (ne _ _ h (fun z=>by rcases z with z|⟨_,z⟩<;>cases z)) hl ih
 |scr hO h=>
  obtain⟨o,h⟩:=h
  exact .scr hO ⟨o,ne _ _ h (fun z=>by rcases z with z|⟨_,z⟩<;>cases z)⟩
 | @dct q ks' l hO h hl hr ih=>
  by_cases c:q=p
  ·subst c
   obtain rfl:=qI h (d.rd e)
   exact .dct hO (d'.rd aD) hl ih
  ·refine .dct hO ?_ hl ih
   rcases h with h|⟨o,h⟩
   ·exact .inl (by rw[ar c];exact h)
   ·exact .inr ⟨o,by rw[ar c];exact h⟩
 |bag=>exact .bag
theorem gF {O0 O:Addr→Prop} {q:Addr} (h:q≠p):hide O0 O (upd H p u') q=hide O0 O H q:=by
 unfold hide
 by_cases c:O q∧¬ O0 q
 ·rw[if_pos c,if_pos c]
 ·rw[if_neg c,if_neg c,ar h]
end
section
variable {φ:Fam} {G:Bg φ} {O0 O O':Addr→Prop} {H Ha Hx:Hp} {σ:St} {ρ:ah} {n:Nat} {p:Addr} {ks:List (Key×V)} {u u':HO}
theorem Ext.swapD (nO: ¬ O p) (x:Ext G.B (hide O0 O Ha) Hx):Ext G.B (hide O0 O (upd Ha p u')) (upd Hx p u'):=fun q v nb h=>by
 by_cases c:q=p
 ·subst c
  rw[eo (fun z=>nO z.1),aD] at h
  cases h
  exact .of aD
 ·rw[gF c] at h
  exact(x q v nb h).to fun v e=>.of (by rw[ar c];exact e)
theorem Bg.swapD (ok:G.ok Hx n) (np: ¬ G.priv p) (e:Hx p=some u) (d:DK ks u):G.ok (upd Hx p u') n:=G.keep Hx _ _ (fun q v hq hv=>by
 have hne:q≠p:=fun z=>by
  rcases hq with hq|hq
  ·exact np (z▸hq)
  ·rw[z,e] at hv;cases hv;exact d.nfz hq
 rw[ar hne];exact hv) ok
theorem SI.swapD (s:SI G O0 (hide O0 O Ha) O' Hx σ ρ n) (nO: ¬ O p) (nO': ¬ O' p) (e:Hx p=some u) (d:DK ks u) (d':DK ks u'):SI G O0 (hide O0 O (upd Ha p u')) O' (upd Hx p u') σ ρ n:=by
 have np: ¬ G.priv p:=fun z=>nO' (s.es.pr p z)
 have ne: ∀ q,O' q→q≠p:=fun q h z=>nO' (z▸h)
 refine⟨⟨⟨s.es.er.1,fun i t ht=>?_⟩,Bg.swapD s.es.ok np e d,s.es.pr,fun q hq=>?_⟩,s.p0,s.sub,Ext.swapD nO s.ext,fun q hq=>?_,fun q hq=>?_,fun i q h=>?_,s.dj⟩
 ·have r1:=s.es.er.2 i t ht
  cases t with
  |un=>trivial
  |val y=>obtain⟨v,hv,rr⟩:=r1;exact⟨v,hv,rr.swapD e d d'⟩
  |own t=>
   obtain⟨q,ys,hv,hq,nq,hh,rr⟩:=r1
   exact⟨q,ys,hv,hq,nq,by rw[ar (ne q hq)];exact hh,rr.1,fun i a b c f=>(rr.2 i a b c f).swapD e d d'⟩
  |ownD t=>
   obtain⟨q,ys,hv,hq,nq,hh,rr⟩:=r1
   exact⟨q,ys,hv,hq,nq,by rw[ar (ne q hq)];exact hh,rr.1,fun i a b c f=>(rr.2 i a b c f).swapD e d d'⟩
 ·obtain⟨v,g⟩:=s.es.dm q hq
  exact⟨v,by rw[ar (ne q hq)];exact g⟩
 ·rw[gF (ne q hq)];exact s.gr q hq
 ·rw[gF (ne q (s.sub q hq))];exact s.d0 q hq
 ·rw[gF (ne q (dR s.es h).1)];exact s.fr i q h
end
section
variable {φ:Fam} {X:Cx} {st:Stmt}
noncomputable def jC:PV→M (List PV)
 | .dct l=>.ret (l.map fun kv=>j9 kv.1)
 |_=>.fail
theorem v3 {H:Hp} {p:Addr} {u:HO} (e:H p=some u):upd H p u=H:=by
 funext q
 by_cases c:q=p
 ·subst c;rw[aD,e]
 ·rw[ar c]
theorem Was.dk {d:Addr} {o:Obj} {ks:List (Key×V)} {u:HO} (h:Was X d o ks u):DK ks u:=by
 rcases h with⟨rfl,_⟩|rfl
 ·exact .inl rfl
 ·exact .inr ⟨o,rfl⟩
theorem uQ {mi:ah→M PV} {bd:PV→ah→M ah} {mb:ah→M Fl} (h:BS X st (fun D σ H=>jQ (p9 X (teP φ mi)) (tgS φ bd) (tsP φ mb) (D.thaw X) σ H)):SV φ X st (bg (fun ρ=>(mi ρ).bind jC) bd mb):=BS.mono h fun D σ H hq0=>by
 obtain⟨G,O0,H0,O,ρ,n,s,w⟩:=hq0
 unfold bg at w
 rw[M.bind_assoc,M.wp_bind] at w
 refine⟨G,O,ρ,n,_,s.es,w,fun y x H1 n1 e1 ok1 r1 w1=>?_⟩
 cases y<;>first|exact w1.elim|skip
 rename_i l0
 obtain⟨l,hl⟩: ∃ l,l=l0.map fun kv=>j9 kv.1:=⟨_,rfl⟩
 replace w1:(bC bd mb l ρ).wp n1 (fun f n'=>fN G O0 H0 D n' f):=by rw[hl];exact w1
 cases r1 with
 | @dct p ks _ hO hd hk hr=>
 refine⟨p,ks,rfl,hd,fun o u eu wu=>?_⟩
 have s1:=s.to e1 ok1
 have sf:SI G O0 (hide O0 O (upd H1 p (.frz o (.dK ks)))) O (upd H1 p (.frz o (.dK ks))) σ ρ n1:=s1.now.swapD hO hO eu wu.dk (.inr ⟨o,rfl⟩)
 have nB:p≠G.B:=fun z=>hO (z▸s.es.B)
 have hlen:l.length=ks.length:=by rw[hl,List.length_map];simpa using congrArg List.length hk
 have hid: ∀ q:Addr,hide O0 O (upd (upd H1 p (.frz o (.dK ks))) p u) q=hide O0 O H1 q:=fun q=>by rw[uM,v3 eu]
 have hid':hide O0 O (upd (upd H1 p (.frz o (.dK ks))) p u)=hide O0 O H1:=funext hid
 have hpf:hide O0 O (upd H1 p (.frz o (.dK ks))) p=some (.frz o (.dK ks)):=by rw[eo (fun z=>hO z.1)];exact aD
 have at_: ∀ {H3:Hp},Ext G.B (hide O0 O (upd H1 p (.frz o (.dK ks)))) H3→H3 p=some (.frz o (.dK ks)):=fun x=>x p _ nB hpf
 have nO': ∀ {O':Addr→Prop} {H':Hp} {σ':St} {ρ':ah} {n':Nat},SI G O0 (hide O0 O (upd H1 p (.frz o (.dK ks)))) O' H' σ' ρ' n'→¬ O' p:=fun x z=>by
  rcases x.gr p z with g|g
  ·exact hO (s.sub p g)
  ·rw[hpf] at g;cases g
 have thw: ∀ {O':Addr→Prop} {H':Hp} {σ':St} {ρ':ah} {n':Nat},SI G O0 (hide O0 O (upd H1 p (.frz o (.dK ks)))) O' H' σ' ρ' n'→SI G O0 H0 O' (upd H' p u) σ' ρ' n':=fun x=>by
  have q:=x.swapD hO (nO' x) (at_ x.ext) (.inr ⟨o,rfl⟩) wu.dk
  rw[hid'] at q
  exact s1.back q
 refine⟨fun i m σ' H'=>m=l.length - i∧i≤l.length∧∃ (O':Addr→Prop) (ρ':ah) (n':Nat),SI G O0 (hide O0 O (upd H1 p (.frz o (.dK ks)))) O' H' σ' ρ' n'∧(bC bd mb (l.drop i) ρ').wp n' (fun f n'=>fN G O0 H0 D n' f),
  ⟨l.length,by simp,Nat.zero_le _,O,ρ,n1,sf,by simpa using w1⟩,?_⟩
 rintro i m σ' H' ⟨rfl,hi,O',ρ',n',s',w'⟩
 have hp':=at_ s'.ext
 by_cases hlt:i < l.length
 ·have hdrop:l.drop i=l[i]::l.drop (i+1):=List.drop_eq_getElem_cons hlt
  rw[hdrop] at w'
  unfold bC at w'
  refine .inr ⟨⟨hp',by lia⟩,fun σ2 H2=> ∃ (O':Addr→Prop) (ρ':ah) (n':Nat),SI G O0 (hide O0 O (upd H1 p (.frz o (.dK ks)))) O' H2 σ2 ρ' n'∧(bC bd mb (l.drop (i+1)) ρ').wp n' (fun f n'=>fN G O0 H0 D n' f),fun σ2 H2 hh=>⟨l.length - (i+1),by lia,rfl,hlt,hh⟩,fun x H2 yl=>?_⟩
  obtain⟨eH,k,ek,rfl⟩:=yl
  subst eH
  have elk:l[i]=j9 k:=by
   have g:l[i]?=some (j9 k):=by
    have g0:(l0.map fun x=>x.1)[i]?=some k:=by rw[hk];exact ek
    rw[List.getElem?_map] at g0
    rw[hl,List.getElem?_map]
    cases c:l0[i]? with
    |none=>rw[c] at g0;cases g0
    |some z=>
     rw[c] at g0
     have g1:z.1=k:=Option.some.inj g0
     show some (j9 z.1)=_
     rw[g1]
   rw[List.getElem?_eq_getElem hlt] at g
   exact Option.some.inj g
  rw[M.wp_bind] at w'
  refine⟨G,O0,_,O',ρ',n',_,l[i],s',by rw[elk];exact tL k,w',fun σ2 ρ2 n2 s2 w2=>?_⟩
  rw[M.wp_bind] at w2
  refine⟨G,O0,_,O',ρ2,n2,s2,M.wp_mono w2 fun f n3 w3=>?_⟩
  cases f with
  |nx ρ3=>exact fun O3 σ3 H3 s3=>⟨O3,ρ3,n3,s3,w3⟩
  |ct ρ3=>exact fun O3 σ3 H3 s3=>⟨O3,ρ3,n3,s3,w3⟩
  |bk ρ3=>exact fun O3 σ3 H3 s3=>⟨p,o,ks,u,at_ s3.ext,wu,w3 O3 σ3 _ (thw s3)⟩
  |rt y=>exact fun x3 H3 e3 ok3 r3=>⟨p,o,ks,u,at_ e3,wu,w3 x3 _ (by
    have q:=Ext.swapD (u':=u) hO e3
    rw[hid'] at q
    exact s1.base.trans q) (Bg.swapD ok3 (fun z=>hO (s.es.pr p z)) (at_ e3) (.inr ⟨o,rfl⟩)) (r3.swapD (at_ e3) (.inr ⟨o,rfl⟩) wu.dk)⟩
 ·have e:i=l.length:=by lia
  subst e
  rw[List.drop_length] at w'
  exact .inl ⟨⟨hp',by lia⟩,p,o,ks,u,hp',wu,w' O' σ' _ (thw s')⟩
theorem vQ {tg iter:Expr} {body:List Stmt} {td:TE} {g:TG} {tb:TS} {pos:Pos} (hp:PassesOwn (model X.prog X.w) X.A X.env X.xe) (hc:X.calm=true) (hi:BE X iter td) (hg:BG X tg g) (hb:BSs X body tb)
  (hs: ∀ x,foldedSetIterable iter X.env x=pure x:=by intro _;rfl):BS X (.For tg iter body [] pos) (fun D σ H=>jQ (p9 X td) g tb (D.thaw X) σ H):=⟨va (jt hp hc (vf hi.out) hg.out hb.out hs)⟩
end
section
open AutoSeq1 (wpAny_loadPart')
theorem rh (l:Addr) (items:Array Value) (n:Nat) (dct:Option Addr) (sl:Array (Option Value)):
  Meets (Builtin.«enumerate.__new__» ⟨[.type "enumerate",.ref l],[]⟩) (fun _ R s=>s.heap.get? l=some {cls:=.type "tuple",dict:=dct,data:=.seq items n,slots:=sl}∧
   R (.ok (.ret (.ref (s.heap.push {cls:=.type "tuple_iterator",data:=.fields #[.ref l,.int 0 0]}).objs.size)))
    {s with heap:=(s.heap.push {cls:=.type "tuple_iterator",data:=.fields #[.ref l,.int 0 0]}).push {cls:=.type "enumerate",data:=.fields #[.none,.bool false,.ref s.heap.objs.size,rawInt 0,.none,.none]}}):=
 .of_wp fun prog w A R s h=>by
  obtain⟨hp,g,d,tk,os⟩:=s;obtain⟨hl,h⟩:=h
  have hsub:=sub_enumerate
  have hL:Heap.IsTuple (Shared.heap ⟨hp,g,d,tk,os⟩) l items:=⟨_,hl,rfl,n,rfl⟩
  wp_walk using wpAny_loadPart' hl
  refine wpAny_stack_any fun st=>wpAny_pure ?_
  split
  ·rename_i c _ _ _ _ _
   cases (c==Value.type "enumerate")
   ·wp_walk using wpAny_loadPart' hl,wpAny_pyIter_tuple hL
    exact⟨_,rfl,h⟩
   ·wp_walk using wpAny_loadPart' hl,wpAny_pyIter_tuple hL
    exact⟨_,rfl,h⟩
  ·wp_walk using wpAny_loadPart' hl,wpAny_pyIter_tuple hL
   exact⟨_,rfl,h⟩
section
variable {prog:Program} {w:World} {A:Around} {E:Value→Shared→Prop} {s:Shared}
theorem gN {l:Addr} {items:Array Value} {Q:Value→Shared→Prop} (hL:s.heap.IsTuple l items)
  (h: ∀ h',IsEnum h' (s.heap.objs.size+1) s.heap.objs.size 0 .none→h'.IsTupleIter s.heap.objs.size l 0→h'.objs.size=s.heap.objs.size+2→
   (∀ b o,s.heap.get? b=some o→h'.get? b=some o)→Q (.ref (s.heap.objs.size+1)) {s with heap:=h'}):
  wpAny (model prog w) A (call (.type "enumerate") [.ref l]) Q E s:=by
 obtain⟨⟨c,dct,dt,sl⟩,hl,hc,n,hd⟩:=hL
 replace hc:c= .type "tuple":=hc
 replace hd:dt= .seq items n:=hd
 subst hc hd
 refine callType_new F.called_enumerate (by decide) (F.typeCall_enumerate_1 _) (F.newCall_enumerate_1 _) (fun obj=>F.args_object_init_2 obj _) F.entry_enumerate_new
  (rh l items n dct sl) ⟨hl,?_⟩
 have hz:(s.heap.push {cls:=.type "tuple_iterator",data:=.fields #[.ref l,.int 0 0]}).objs.size=s.heap.objs.size+1:=Heap.size_push ..
 show _∧_
 rw[hz]
 have he:IsEnum ((s.heap.push {cls:=.type "tuple_iterator",data:=.fields #[.ref l,.int 0 0]}).push
   {cls:=.type "enumerate",data:=.fields #[.none,.bool false,.ref s.heap.objs.size,rawInt 0,.none,.none]}) (s.heap.objs.size+1) s.heap.objs.size 0 .none:=by
  have:=Heap.get?_push_size (s.heap.push {cls:=.type "tuple_iterator",data:=.fields #[.ref l,.int 0 0]})
   (o:={cls:=.type "enumerate",data:=.fields #[.none,.bool false,.ref s.heap.objs.size,rawInt 0,.none,.none]}) rfl
  rw[hz] at this;exact this
 refine⟨⟨_,he,rfl⟩,h _ he ⟨_,Heap.get?_push_of_some _ (Heap.get?_push_size _ rfl),rfl,rfl⟩ (by rw[Heap.size_push,hz]) fun b o x=>Heap.get?_push_of_some _ (Heap.get?_push_of_some _ x)⟩
theorem lJ {h h':Heap} {l:Addr} {items:Array Value} (p:h.IsTuple l items) (k: ∀ o,h.get? l=some o→h'.get? l=some o):h'.IsTuple l items:=let ⟨o,e,r⟩:=p;⟨o,k o e,r⟩
theorem xF (hh:A.handled=none) (it l:Addr) (hne:l≠it) (items:Array Value):
  Draws prog w A it [it,l] items.size (fun i v=>items[i]?=some v) (fun i h=>h.IsTupleIter it l i∧h.IsTuple l items) where
 live:=fun _ _ st=>let ⟨o,ho,_⟩:=st.1;⟨o,ho⟩
 frame:=fun _ _ _ st hk=>⟨st.1.at fun o e=>hk it (by simp) o e,lJ st.2 fun o e=>hk l (by simp) o e⟩
 item:=fun i s Q E hi st hQ=>by
  refine xc st.1 st.2 (x:=items[i]) (by simp[hi]) fun h' hit' hs'=>?_
  exact hQ _ h' s.toks (by simp[hi]) ⟨hit',lJ st.2 fun o e=>(hs'.2 l hne).trans e⟩ hs'
 done:=fun s Q E st hE=>jz hh st.1 st.2 (by simp) hE
theorem fX {e it t:Addr} {j:Nat} {i:Int} {old:Value} {items:Array Value} {Q:Option Value→Shared→Prop} (hh:A.in1.handled=none) (he:IsEnum s.heap e it i old) (ht:s.heap.IsTupleIter it t j) (hl:s.heap.IsTuple t items) (hx:items[j]?=none)
  (hQ: ∀ h',Heap.ExtBut it s.heap h'→Q none {s with heap:=h'}):wpAny (model prog w) A (pyNext (.ref e)) Q E s:=by
 have hT:s.TypeIs (.ref e) "enumerate":=⟨_,he,rfl⟩
 unfold pyNext
 refine wpAny_bind (wpAny_attempt (wpAny_callSpecial?_slot (name:=Str.ofString "__next__") hT F.slot_enumerate_next
  (wpAny_call_entry F.slot_enumerate_next hT F.entry_enumerate_next ?_ (F.args_enumerate_next_1 _))))
 show wpAny _ _ (field (.ref e) 2 >>= _) _ _ _
 refine wpAny_bind (wpAny_field he rfl (x:=.ref it) rfl ?_)
 refine wpAny_bind (jz hh ht hl hx fun h' x he' hx'=>?_)
 obtain⟨o,ho,hc⟩:=hx'
 refine wpAny_bind (wpAny_isInstance (T:="StopIteration") (b:=true) ⟨o,ho,hc⟩ isSubtype_stop ?_)
 exact wpAny_pure (hQ _ he')
end
noncomputable def nU (K:PySem.W.Frag) (a:Addr):It:=
 ⟨fun i H=> ∃ xs x,SqT K H a xs∧xs[i]?=some x,fun i H y H'=> ∃ T,y= .ref T∧H T=none∧∀ xs x,SqT K H a xs→xs[i]?=some x→H'=upd H T (.tup [.int i,x]),fun i H=> ∃ xs,SqT K H a xs∧xs.length≤i⟩
theorem sg {P:Program} {w:World} {K:PySem.W.Frag} {elts:List Expr} {kk:Nat} {pos:Pos} (a e it:Addr) (hne:e≠it):Turn P w K (.Tuple elts kk pos) (nU K a) [e,it] e (fun i h=>(∃ old,IsEnum h e it i old)∧h.IsTupleIter it a i) where
 mem:=by simp
 obj:=fun i h st b hb=>by
  obtain⟨⟨old,he⟩,o,ho,hc,hd⟩:=st
  have hb':b=e∨b=it:=by simpa using hb
  rcases hb' with rfl|rfl
  ·exact⟨_,he,fun v z=>by cases z⟩
  ·exact⟨o,ho,fun v z=>by rw[hd] at z;cases z⟩
 keep:=fun i h h' st k=>by
  obtain⟨⟨old,he⟩,o,ho,hc,hd⟩:=st
  exact⟨⟨old,k e (by simp) _ he⟩,o,k it (by simp) _ ho,hc,hd⟩
 item:=by
  intro X hP hw hK hc i pins s σ H E I hf st hg
  subst hP hw hK
  obtain⟨xs,x,hq,hx⟩:=hg
  obtain⟨its,rv,p,hz⟩:=I.tuple hq
  obtain⟨u,hu,ru⟩:=rv.get hx
  obtain⟨⟨old,he⟩,hit⟩:=st
  have hTu:s.heap.IsTuple a its.toArray:=p
  have hia:i < its.toArray.size:=by
   have:=(List.getElem?_eq_some_iff.mp hu).1
   simpa using this
  have hae:a≠e:=fun z=>by
   exact(by obtain⟨o2,ho2,hc2,_⟩:=hTu;have he':=he;rw[←z] at he';unfold IsEnum at he';rw[ho2] at he';cases he';injection hc2 with hc2;exact absurd hc2 (by decide))
  have hai:a≠it:=fun z=>by
   obtain⟨ob,hob,hco,_⟩:=hit
   obtain⟨o2,ho2,hc2,_⟩:=hTu
   rw[←z,ho2] at hob
   cases hob
   rw[hc2] at hco;injection hco with hco;exact absurd hco (by decide)
  refine wpAny_pyNext_enum_itemD (xF (show X.A.in1.handled=none from I.ok.hd hc) it a hai its.toArray) he ⟨hit,hTu⟩ hia hne (by
   intro z
   have z':e=it∨e=a:=by simpa using z
   rcases z' with z'|z'
   ·exact hne z'
   ·exact hae z'.symm) fun x' h1 tk hP ho hst1 hT hsz k1=>?_
  have hx':x'=u:=by
   have:its.toArray[i]?=some u:=by simpa using hu
   rw[this] at hP;exact(Option.some.inj hP).symm
  subst hx'
  obtain⟨hit1,_⟩:=hst1
  refine⟨_,rfl,wpAny_letOwnedTupleGo_enum (s:={s with heap:=h1,toks:=tk+1}) ho fun h2 he2 s2=>?_⟩
  have lt: ∀ b o,s.heap.get? b=some o→b≠s.heap.objs.size:=fun b o q=>Nat.ne_of_lt (Heap.lt_size q)
  have neT:s.heap.objs.size≠e:=fun z=>lt e _ he z.symm
  have hT2:h2.get? s.heap.objs.size=some {cls:=.type "tuple",data:=.seq #[.int i tk,x']}:=(s2.2 _ neT).trans hT
  have I2:=I.turnedN (t':=tk+1) (h':=h2) (wr:=[e,it]) (T:=s.heap.objs.size) (o:=.tup [.int i,x]) hf (fun b o hb q=>by
   have hb':b≠e∧b≠it:=by simpa using hb
   exact(s2.2 b hb'.1).trans (k1 b o hb'.1 hb'.2 q)) (Nat.le_refl _) (oN hT2 ⟨_,rfl⟩ ru)
  refine⟨.ref s.heap.objs.size,_,I2,rfl,⟨_,rfl,I.hok.fresh (Nat.le_refl _),fun ys y hy hyx=>?_⟩,⟨⟨_,by simpa using he2⟩,hit1.at fun o q=>(s2.2 it hne.symm).trans q⟩,fun b hb=>?_⟩
  ·rw[I.tuple_inj hy hq,hx] at hyx
   cases hyx
   rfl
  ·have hlt:b≠s.heap.objs.size:=by
    have hb':b=e∨b=it:=by simpa using hb
    rcases hb' with rfl|rfl
    ·exact fun z=>neT z.symm
    ·obtain⟨o,ho',_⟩:=hit
     exact lt _ _ ho'
   rw[ar hlt]
   exact(hf b hb).1
 done:=by
  intro X hP hw hK hc i pins s σ H E I hf st hg
  subst hP hw hK
  obtain⟨xs,hq,hx⟩:=hg
  obtain⟨its,rv,p,hz⟩:=I.tuple hq
  have hl:=rv.length
  obtain⟨⟨old,he⟩,hit⟩:=st
  have hTu:s.heap.IsTuple a its.toArray:=p
  have hai:a≠it:=fun z=>by
   obtain⟨ob,hob,hco,_⟩:=hit
   obtain⟨o2,ho2,hc2,_⟩:=hTu
   rw[←z,ho2] at hob
   cases hob
   rw[hc2] at hco;injection hco with hco;exact absurd hco (by decide)
  have hend:its.toArray[i]?=none:=by simp;lia
  refine fX (show X.A.in1.handled=none from I.ok.hd hc) he hit hTu hend fun h1 k1=>⟨rfl,I.turnedL (t':=s.toks) hf fun b o hb q=>k1 b o (fun z=>hb (by simp[z])) q⟩
 self:=fun _ _ _ _ _ st h=>by
  obtain⟨⟨old,he⟩,_⟩:=st
  exact wpAny_pyIter_enum he h
section
variable {X:Cx} {e e2:Expr} {t1 t2:TE} {elts:List Expr} {kk:Nat} {tpos pos p:Pos} {x:Str}
noncomputable def tO (K:PySem.W.Frag) (ta:TA):TI:=fun σ H R=>ta σ H fun vs H1=> ∃ a xs,vs=[.ref a]∧SqT K H1 a xs∧R (nU K a) H1
theorem xE {pins:List (Addr×Obj)} {σ:St} {H:Hp} {s:Shared} {R:It→Hp→Prop} {a:Addr} {xs:List V} (I:Inv X pins σ H s) (ha:SqT X.K H a xs) (q:R (nU X.K a) H):
  wpAny (model X.prog X.w) X.A (call (.type "enumerate") [.ref a]) (fun v s1=>wpAny (model X.prog X.w) X.A (pyIter v) (PIE X pins σ (.Tuple elts kk tpos) R) X.xe s1) X.xe s:=by
 obtain⟨its,rv,p1,hz⟩:=I.tuple ha
 refine gN (show s.heap.IsTuple a its.toArray from p1) fun h1 he hit hsz k1=>?_
 have I1:Inv X pins σ H {s with heap:=h1}:=I.kept (t':=s.toks) k1
 refine wpAny_pyIter_enum (s:={s with heap:=h1}) he ?_
 refine⟨_,[s.heap.objs.size+1,s.heap.objs.size],_,nU X.K a,H,rfl,I1,sg a _ _ (Nat.succ_ne_self _),⟨⟨_,he⟩,hit⟩,fun c hc=>?_,q⟩
 have hle:s.heap.objs.size≤c:=by
  rcases List.mem_cons.mp hc with h|hc
  ·rw[h];exact Nat.le_succ _
  ·rw[List.mem_singleton.mp hc];exact Nat.le_refl _
 exact I.fpOk hle (I.hok.fresh hle)
theorem sN {ta:TA} (hg:Gl X x) (hm:X.mg x=none) (hv:bootBuiltins x=some (.type "enumerate")) (ha:PA X [e] ta) (hn:x≠"__name__":=by decide) (hdb:(x==("__debug__":Str))=false:=by decide)
  (he:starEach [e] X.env=(false,eval e X.env)::starEach [] X.env:=by rfl) (hpl:(backTo pos (starEach [] X.env)).any (·.1)=false:=by rfl):PI X (.Tuple elts kk tpos) (.Call (.Name x p) [e] [] pos) (tO X.K ta):=by
 intro pins s σ H R I h
 refine wpAny_Call_Name_kw (fh I hg hm hv ?_ hn hdb)
 refine PyProof.Rows.callWith_type1 (thn (ha pos pins s σ H _ I h) fun us s1 ⟨vs,H1,I1,r1,q1⟩=>?_) he hpl
 obtain⟨a,xs,rfl,h1,q⟩:=q1
 obtain⟨u,rfl,ru⟩:=r1.one
 cases ru
 exact xE I1 h1 q
end
end
section
variable {φ:Fam}
noncomputable def fS (l:List PV):List PV:=l.mapIdx fun i x=>PV.tup [.int i,x]
inductive ItE (K:PySem.W.Frag) (G:Bg φ) (O:Addr→Prop) (H:Hp):List PV→It→Prop where
 |enL {a:Addr} {xs:List V} {l:List PV} (na: ¬ O a) (ha:H a=some (.lst xs)) (ra:Reps G.B O H l xs):ItE K G O H (fS l) (Ite K a)
 |enT {a:Addr} {xs:List V} {l:List PV} (na: ¬ O a) (ha:H a=some (.tup xs)) (ra:Reps G.B O H l xs):ItE K G O H (fS l) (nU K a)
theorem m7 {l:List PV} {i:Nat} {y:PV} (h:(fS l)[i]?=some y): ∃ u,l[i]?=some u∧y= .tup [.int i,u]:=by
 unfold fS at h
 rw[List.getElem?_mapIdx] at h
 cases e:l[i]? with
 |none=>rw[e] at h;cases h
 |some u=>rw[e] at h;exact⟨u,rfl,(Option.some.inj h).symm⟩
theorem ig (l:List PV):(fS l).length=l.length:=by simp[fS]
theorem ItE.go {K:PySem.W.Frag} {G:Bg φ} {O:Addr→Prop} {H:Hp} {l:List PV} {J:It} (t:ItE K G O H l J) {i:Nat} {y:PV} (hi:l[i]?=some y):J.go i H∧∀ x H2,J.yld i H x H2→∃ T us vs,x= .ref T∧H T=none∧H2=upd H T (.tup vs)∧y= .tup us∧Reps G.B O H us vs:=by
 cases t with
 | @enL a xs l1 na ha ra=>
  obtain⟨u,e1,rfl⟩:=m7 hi
  obtain⟨x1,hx1,r1⟩:=ra.at e1
  refine⟨⟨xs,x1,SqL.of ha,hx1⟩,fun x H2 z=>?_⟩
  obtain⟨T,rfl,hT,q⟩:=z
  exact⟨T,[.int i,u],[.int i,x1],rfl,hT,q xs x1 (SqL.of ha) hx1,rfl,.cons (.int _) (.cons r1 .nil)⟩
 | @enT a xs l1 na ha ra=>
  obtain⟨u,e1,rfl⟩:=m7 hi
  obtain⟨x1,hx1,r1⟩:=ra.at e1
  refine⟨⟨xs,x1,SqT.of ha,hx1⟩,fun x H2 z=>?_⟩
  obtain⟨T,rfl,hT,q⟩:=z
  exact⟨T,[.int i,u],[.int i,x1],rfl,hT,q xs x1 (SqT.of ha) hx1,rfl,.cons (.int _) (.cons r1 .nil)⟩
theorem ItE.stop {K:PySem.W.Frag} {G:Bg φ} {O:Addr→Prop} {H:Hp} {l:List PV} {J:It} (t:ItE K G O H l J):J.stop l.length H:=by
 cases t with
 | @enL a xs l1 na ha ra=>exact⟨xs,SqL.of ha,by rw[ig,ra.1];exact Nat.le_refl _⟩
 | @enT a xs l1 na ha ra=>exact⟨xs,SqT.of ha,by rw[ig,ra.1];exact Nat.le_refl _⟩
section
variable {G:Bg φ} {O0 O:Addr→Prop} {H0 H:Hp} {σ:St} {ρ:ah} {n n':Nat}
theorem SI.walkE {K:PySem.W.Frag} {H1:Hp} {O':Addr→Prop} {σ':St} {ρ':ah} {l:List PV} {J:It} (s:SI G O0 H0 O H σ ρ n) (x:SI G O0 (hide O0 O H) O' H1 σ' ρ' n') (it:ItE K G O H l J):ItE K G O' H1 l J:=by
 have k: ∀ p o,¬ O p→H p=some o→Stand H1 p o∧¬ O' p:=fun p o np hp=>by
  have e:hide O0 O H p=some o:=by rw[eo (fun z=>np z.1)];exact hp
  refine⟨x.ext p o (fun z=>np (z▸s.es.B)) e,fun z=>?_⟩
  rcases x.gr p z with w|w
  ·exact np (s.sub p w)
  ·rw[w] at e;cases e
 cases it with
 |enL na ha ra=>exact .enL (k _ _ na ha).2 (k _ _ na ha).1 (ra.keepS k)
 |enT na ha ra=>exact .enT (k _ _ na ha).2 (k _ _ na ha).1 (ra.keepS k)
end
noncomputable def tiE (φ:Fam) (K:PySem.W.Frag) (m:ah→M (List PV)):TI:=fun σ H Q=> ∃ (G:Bg φ) (O:Addr→Prop) (ρ:ah) (n:Nat) (R:List PV→Nat→Prop),ES G O H σ ρ n∧(m ρ).wp n R∧
 ∀ (l:List PV) (J:It) (H':Hp) (n':Nat),Ext G.B H H'→G.ok H' n'→ItE K G O H' l J→R l n'→Q J H'
section
variable {X:Cx} {st:Stmt} {e e2:Expr} {p pos tpos:Pos} {elts:List Expr} {kk:Nat}
noncomputable def gL:List PV→M (List PV)
 |[.tup l]=>.ret (fS l)
 |_=>.fail
theorem tX {l:List PV} {n:Nat} {R:List PV→Nat→Prop} (w:(gL l).wp n R): ∃ l1,l=[.tup l1]:=by
 unfold gL at w
 split at w
 ·exact⟨_,rfl⟩
 ·exact w.elim
theorem rZ {ta:TA} (hg:Gl X "enumerate") (hm:X.mg "enumerate"=none) (ha:BA X [e] ta)
  (he:starEach [e] X.env=(false,eval e X.env)::starEach [] X.env:=by rfl) (hpl:(backTo pos (starEach [] X.env)).any (·.1)=false:=by rfl):BI X (.Tuple elts kk tpos) (.Call (.Name "enumerate" p) [e] [] pos) (tO X.K ta):=⟨sN hg hm PyProof.Rows.boot_enumerate ha.out (by decide) (by decide) he hpl⟩
theorem xy {tg iter:Expr} {ml:ah→M (List PV)} (h:BI X tg iter (tO X.K (taP φ ml))):BI X tg iter (tiE φ X.K fun ρ=>(ml ρ).bind gL):=BI.mono h fun σ H Q hq0=>by
 obtain⟨G,O,ρ,n,R,s,w,q⟩:=hq0
 rw[M.wp_bind] at w
 refine⟨G,O,ρ,n,_,s,w,fun l xs H1 n1 e1 ok1 r1 w1=>?_⟩
 obtain⟨l1,rfl⟩:=tX w1
 obtain⟨x1,t1,rfl,a1,r2⟩:=r1.cons_inv
 rw[r2.nil_inv]
 cases a1 with
 |tup na ha la ra=>exact⟨_,_,rfl,SqT.of ha,q _ _ _ _ e1 ok1 (.enT na ha ⟨la,ra⟩) w1⟩
theorem uP {mi:ah→M (List PV)} {bd:PV→ah→M ah} {mb:ah→M Fl} (h:BS X st (jQ (tiE φ X.K mi) (tgS φ bd) (tsP φ mb))):SV φ X st (bg mi bd mb):=BS.mono h fun D σ H hq0=>by
 obtain⟨G,O0,H0,O,ρ,n,s,w⟩:=hq0
 unfold bg at w
 rw[M.wp_bind] at w
 refine⟨G,O,ρ,n,_,s.es,w,fun l J H1 n1 e1 ok1 it w1=>?_⟩
 have s1:=s.to e1 ok1
 refine⟨fun i m σ' H'=>m=l.length - i∧i≤l.length∧∃ (O':Addr→Prop) (ρ':ah) (n':Nat),SI G O0 (hide O0 O H1) O' H' σ' ρ' n'∧(bC bd mb (l.drop i) ρ').wp n' (fun f n'=>fN G O0 H0 D n' f),
  ⟨l.length,by simp,Nat.zero_le _,O,ρ,n1,s1.now,by simpa using w1⟩,?_⟩
 rintro i m σ' H' ⟨rfl,hi,O',ρ',n',s',w'⟩
 have it':=s1.walkE s' it
 by_cases hlt:i < l.length
 ·have hget:l[i]?=some l[i]:=List.getElem?_eq_getElem hlt
  have hdrop:l.drop i=l[i]::l.drop (i+1):=List.drop_eq_getElem_cons hlt
  rw[hdrop] at w'
  unfold bC at w'
  obtain⟨g1,g2⟩:=it'.go hget
  refine .inr ⟨g1,fun σ2 H2=> ∃ (O':Addr→Prop) (ρ':ah) (n':Nat),SI G O0 (hide O0 O H1) O' H2 σ2 ρ' n'∧(bC bd mb (l.drop (i+1)) ρ').wp n' (fun f n'=>fN G O0 H0 D n' f),fun σ2 H2 hh=>⟨l.length - (i+1),by lia,rfl,hlt,hh⟩,fun x H2 yl=>?_⟩
  obtain⟨T,us,vs,rfl,hT,rfl,ey,rr⟩:=g2 x H2 yl
  have ex:Ext G.B H' (upd H' T (.tup vs)):=Ext.new hT _
  have nT: ¬ O' T:=fun z=>by obtain⟨o,g⟩:=s'.es.dm T z;rw[hT] at g;cases g
  have rx:Rep G.B O' (upd H' T (.tup vs)) l[i] (.ref T):=by
   rw[ey]
   exact .tup nT aD rr.1 (rr.ext s'.es.B ex).2
  rw[M.wp_bind] at w'
  refine⟨G,O0,_,O',ρ',n',_,l[i],s'.to ex (Bg.new s'.es.ok hT _),rx,w',fun σ2 ρ2 n2 s2 w2=>?_⟩
  rw[M.wp_bind] at w2
  refine⟨G,O0,_,O',ρ2,n2,s2,M.wp_mono w2 fun f n3 w3=>?_⟩
  cases f with
  |nx ρ3=>exact fun O3 σ3 H3 s3=>⟨O3,ρ3,n3,s3,w3⟩
  |ct ρ3=>exact fun O3 σ3 H3 s3=>⟨O3,ρ3,n3,s3,w3⟩
  |bk ρ3=>exact fun O3 σ3 H3 s3=>w3 O3 σ3 H3 (s1.back s3)
  |rt y=>exact fun x3 H3 e3 ok3 r3=>w3 x3 H3 (s1.base.trans e3) ok3 r3
 ·have e:i=l.length:=by lia
  subst e
  rw[List.drop_length] at w'
  exact .inl ⟨it'.stop,w' O' σ' H' (s1.back s')⟩
end
end
section
variable {φ:Fam}
theorem ItE.keepS {K:PySem.W.Frag} {G G':Bg φ} {O O':Addr→Prop} {H H':Hp} {l:List PV} {J:It} (t:ItE K G O H l J) (hB:G'.B=G.B) (k: ∀ p o,¬ O p→H p=some o→Stand H' p o∧¬ O' p):ItE K G' O' H' l J:=by
 cases t with
 |enL na ha ra=>exact .enL (k _ _ na ha).2 (k _ _ na ha).1 (by rw[hB];exact ra.keepS k)
 |enT na ha ra=>exact .enT (k _ _ na ha).2 (k _ _ na ha).1 (by rw[hB];exact ra.keepS k)
section
variable {X:Cx} {e:Expr}
theorem xm {K:PySem.W.Frag} {js:List (Option Nat)} {mi:ah→M (List PV)} {bd:PV→ah→M ah} {tt:ah→M Bool} {te:ah→M PV}: ∀ σ H Q,teF φ (bb js mi bd tt te) σ H Q→tLC js (tiE φ K mi) (tgP φ bd) (ttP φ tt) (teP φ te) σ H Q:=fun σ H Q hq0=>by
 obtain⟨G,O,ρ,n,R,s,w,q⟩:=hq0
 unfold bb at w
 rw[M.wp_bind] at w
 refine⟨G,O,ρ,n,_,s,w,fun l J H1 n1 e1 ok1 it w1=>fun D hD=>?_⟩
 by_cases hl:l.length≤100000
 case neg=>rw[if_neg hl] at w1;exact w1.elim
 rw[if_pos hl] at w1
 have s1:=s.ext e1 ok1
 have nD: ¬ O D:=fun z=>by obtain⟨o,g⟩:=s1.dm D z;rw[hD] at g;cases g
 have pD: ¬ G.priv D:=fun z=>nD (s.pr _ z)
 have hBD:D≠G.B:=fun z=>pD (z▸G.pB)
 have hne: ∀ p o,H1 p=some o→p≠D:=fun p o hp z=>by subst z;rw[hD] at hp;cases hp
 let O':Addr→Prop:=fun p=>O p∨p=D
 let G':Bg φ:=G.with D hBD
 have k0: ∀ p o,¬ O p→H1 p=some o→upd H1 D (HO.lst []) p=some o∧¬ O' p:=fun p o np hp=>⟨by rw[ar (hne p o hp)];exact hp,fun z=>by
  rcases z with z|z
  ·exact np z
  ·exact hne p o hp z⟩
 have kD: ∀ (H5:Hp) (o:HO) p u,¬ O' p→H5 p=some u→upd H5 D o p=some u∧¬ O' p:=fun H5 o p u np hp=>⟨by rw[ar (fun z=>np (.inr z))];exact hp,np⟩
 refine⟨fun i m σ' H'=>m=l.length - i∧i≤l.length∧∃ (ys:List V) (zs:List PV) (ρ':ah) (n':Nat),ys.length≤i∧H' D=some (.lst ys)∧Reps G.B O' H' zs ys∧ES G' O' H' σ' ρ' n'∧Ext G.B H1 H'∧ItE K G' O' H' l J∧
  (lcM bd tt te (l.drop i) ρ').wp n' (fun t k=>R (zs++t) k),⟨l.length,by simp,Nat.zero_le _,[],[],cX js ρ,n1,Nat.le_refl _,aD,.nil,?_,Ext.new hD _,?_,?_⟩,?_⟩
 ·have er:=nG s1.er js
  refine⟨⟨er.1,fun i e he=>?_⟩,⟨Bg.new ok1 hD _,[],aD⟩,fun p z=>?_,fun p z=>?_⟩
  ·have r1:=er.2 i e he
   cases e with
   |un=>trivial
   |val y=>obtain⟨x,hx,rr⟩:=r1;exact⟨x,hx,rr.keep k0⟩
   |own t=>
    obtain⟨p,xs,hx,hp,np,hh,rr⟩:=r1
    exact⟨p,xs,hx,.inl hp,fun z=>by
     rcases z with z|z
     ·exact np z
     ·exact hne p _ hh z,by rw[ar (hne p _ hh)];exact hh,rr.keep k0⟩
   |ownD t=>
    obtain⟨p,xs,hx,hp,np,hh,rr⟩:=r1
    exact⟨p,xs,hx,.inl hp,fun z=>by
     rcases z with z|z
     ·exact np z
     ·exact hne p _ hh z,by rw[ar (hne p _ hh)];exact hh,rr.keep k0⟩
  ·rcases z with z|z
   ·exact .inl (s.pr p z)
   ·exact .inr z
  ·rcases z with z|z
   ·obtain⟨o,g⟩:=s1.dm p z;exact⟨o,by rw[ar (hne p o g)];exact g⟩
   ·subst z;exact⟨_,aD⟩
 ·exact it.keepS rfl fun p o np hp=>⟨.of (k0 p o np hp).1,(k0 p o np hp).2⟩
 ·simpa using w1
 ·rintro i m σ' H' ⟨rfl,hi,ys,zs,ρ',n',hy,hDy,rz,s',ex,it',w'⟩
  by_cases hlt:i < l.length
  ·have hget:l[i]?=some l[i]:=List.getElem?_eq_getElem hlt
   have hdrop:l.drop i=l[i]::l.drop (i+1):=List.drop_eq_getElem_cons hlt
   rw[hdrop] at w'
   unfold lcM at w'
   obtain⟨g1,g2⟩:=it'.go hget
   refine .inr ⟨g1,fun x H2 yl=>?_⟩
   obtain⟨T,us,vs,rfl,hT,rfl,ey,rr⟩:=g2 x H2 yl
   have e0:Ext G.B H' (upd H' T (.tup vs)):=Ext.new hT _
   have nT: ¬ O' T:=fun z=>by obtain⟨o,g⟩:=s'.dm T z;rw[hT] at g;cases g
   have DT:upd H' T (.tup vs) D=some (.lst ys):=by rw[ar (aS hDy hT)];exact hDy
   have s'':=s'.ext e0 (Bg.new s'.ok hT _)
   have rx:Rep G'.B O' (upd H' T (.tup vs)) l[i] (.ref T):=by
    rw[ey]
    exact .tup nT aD rr.1 (rr.ext s'.B e0).2
   have itT:ItE K G' O' (upd H' T (.tup vs)) l J:=it'.keepS rfl fun p o np hp=>⟨e0 p o (fun z=>np (.inl (z▸s.B))) hp,np⟩
   have rzT:=rz.ext (.inl s.B) e0
   have exT:=ex.trans e0
   rw[M.wp_bind] at w'
   refine⟨G',O',ρ',n',_,l[i],s'',rx,w',fun σ2 ρ2 n2 s2 w2=>?_⟩
   rw[M.wp_bind] at w2
   refine⟨G',O',ρ2,n2,_,s2,w2,fun ok H4 n4 e4 ok4 w4=>?_⟩
   have D4:H4 D=some (.lst ys):=e4 D _ hBD DT
   have it4:ItE K G' O' H4 l J:=itT.keepS rfl fun p o np hp=>⟨e4 p o (fun z=>np (.inl (z▸s.B))) hp,np⟩
   cases ok with
   |true=>
    simp only[if_true] at w4 ⊢
    rw[M.wp_bind] at w4
    refine⟨G',O',ρ2,n4,_,s2.ext e4 ok4,w4,fun z x5 H5 n5 e5 ok5 r5 w5=>?_⟩
    have D5:H5 D=some (.lst ys):=e5 D _ hBD D4
    rw[M.wp_bind] at w5
    have s5:=s2.ext (e4.trans e5) ok5
    have it5:ItE K G' O' H5 l J:=it4.keepS rfl fun p o np hp=>⟨e5 p o (fun z=>np (.inl (z▸s.B))) hp,np⟩
    refine⟨ys,D5,by rw[sizeLine_eq];lia,l.length - (i+1),by lia,rfl,hlt,ys++[x5],zs++[z],ρ2,n5,by simp;lia,aD,?_,?_,?_,?_,?_⟩
    ·exact((rzT.ext (.inl s.B) (e4.trans e5)).append (.cons r5 .nil)).keep (kD H5 _)
    ·refine⟨⟨s5.er.1,fun j e he=>?_⟩,⟨G.keep H5 _ _ (fun p o hp hpo=>by
      have hpd:p≠D:=fun z=>by
       rcases hp with hp|hp
       ·exact pD (z▸hp)
       ·rw[z,D5] at hpo;cases hpo;exact hp
      rw[ar hpd];exact hpo) ok5.1,_,aD⟩,s5.pr,fun p hp=>?_⟩
     ·have r1:=s5.er.2 j e he
      cases e with
      |un=>trivial
      |val y=>obtain⟨x,hx,rr⟩:=r1;exact⟨x,hx,rr.keep (kD H5 _)⟩
      |own t=>
       obtain⟨p,xs,hx,hp,np,hh,rr⟩:=r1
       exact⟨p,xs,hx,hp,np,by rw[ar (fun z=>np (.inr z))];exact hh,rr.keep (kD H5 _)⟩
      |ownD t=>
       obtain⟨p,xs,hx,hp,np,hh,rr⟩:=r1
       exact⟨p,xs,hx,hp,np,by rw[ar (fun z=>np (.inr z))];exact hh,rr.keep (kD H5 _)⟩
     ·by_cases hpd:p=D
      ·subst hpd;exact⟨_,aD⟩
      ·obtain⟨o,g⟩:=s5.dm p hp;exact⟨o,by rw[ar hpd];exact g⟩
    ·intro p o np hp
     exact((exT.trans (e4.trans e5)) p o np hp).to fun u e=>.of (by rw[ar (hne p o hp)];exact e)
    ·exact it5.keepS rfl fun p o np hp=>⟨.of (kD H5 _ p o np hp).1,np⟩
    ·refine M.wp_mono w5 fun t k' hk=>?_
     have hk':R (zs++z::t) k':=hk
     simpa using hk'
   |false=>
    exact⟨l.length - (i+1),by lia,rfl,hlt,ys,zs,ρ2,n4,by lia,D4,rzT.ext (.inl s.B) e4,s2.ext e4 ok4,exT.trans e4,it4,w4⟩
  ·have e:i=l.length:=by lia
   subst e
   refine .inl ⟨it'.stop,?_⟩
   rw[List.drop_length] at w'
   have w2:R (zs++[]) n':=w'
   rw[List.append_nil] at w2
   exact q zs D ys H' n' (e1.trans ex) s'.ok.1 (fo e1 ok1 hD) hDy rz w2
theorem vV {st:Stmt} {k:Nat} {js:List (Option Nat)} {mi:ah→M (List PV)} {bd:PV→ah→M ah} {tt:ah→M Bool} {te:ah→M PV} (h:BS X st (dD (tLC js (tiE φ X.K mi) (tgP φ bd) (ttP φ tt) (teP φ te)) (cP k))):BS X st (dD (teF φ (bb js mi bd tt te)) (cP k)):=
 BS.mono h fun D σ H q=>xm σ H _ q
end
end
end L2
namespace K11
open L2
noncomputable def top (i:Nat):Stmt:=PySem.Challenge.pw_homeslopes_k11_the_first_rule.main.body.getD i (.Pass ⟨0,0,0,0⟩)
noncomputable abbrev bW:Stmt:=top 1
theorem sc_way_named:FnScope ["hill","name","way"] ["hill","name"] (ak bW):=⟨rfl,rfl,rfl,by decide +kernel,rfl,by decide +kernel,by decide +kernel⟩
noncomputable abbrev cg:Stmt:=top 3
theorem sc_last_page:FnScope ["book","kind","name","t","found","page"] ["book","kind","name","t"] (ak cg):=⟨rfl,rfl,rfl,by decide +kernel,rfl,by decide +kernel,by decide +kernel⟩
noncomputable abbrev cU:Stmt:=top 4
theorem sc_reading:FnScope ["book","post","t","page"] ["book","post","t"] (ak cU):=⟨rfl,rfl,rfl,by decide +kernel,rfl,by decide +kernel,by decide +kernel⟩
noncomputable abbrev cE:Stmt:=top 5
theorem sc_rules_at:FnScope ["book","w","t","page"] ["book","w","t"] (ak cE):=⟨rfl,rfl,rfl,by decide +kernel,rfl,by decide +kernel,by decide +kernel⟩
noncomputable abbrev bX:Stmt:=top 6
theorem sc_looked_at:FnScope ["book","w","t","page"] ["book","w","t"] (ak bX):=⟨rfl,rfl,rfl,by decide +kernel,rfl,by decide +kernel,by decide +kernel⟩
noncomputable abbrev bM:Stmt:=top 8
theorem sc_post_holds:FnScope ["book","rule","t","word","post","n","value"] ["book","rule","t"] (ak bM):=⟨rfl,rfl,rfl,by decide +kernel,rfl,by decide +kernel,by decide +kernel⟩
noncomputable abbrev bO:Stmt:=top 9
theorem sc_look_holds:FnScope ["book","way","n","t","m"] ["book","way","n","t"] (ak bO):=⟨rfl,rfl,rfl,by decide +kernel,rfl,by decide +kernel,by decide +kernel⟩
noncomputable abbrev bH:Stmt:=top 10
theorem sc_holds_alone:FnScope ["book","way","rule","t","word"] ["book","way","rule","t"] (ak bH):=⟨rfl,rfl,rfl,by decide +kernel,rfl,by decide +kernel,by decide +kernel⟩
noncomputable abbrev bo:Stmt:=top 11
theorem sc_others_asked:FnScope ["book","way","t","rules"] ["book","way","t"] (ak bo):=⟨rfl,rfl,rfl,by decide +kernel,rfl,by decide +kernel,by decide +kernel⟩
noncomputable abbrev bF:Stmt:=top 12
theorem sc_found_open:FnScope ["asked","found","before","name"] ["asked"] (ak bF):=⟨rfl,rfl,rfl,by decide +kernel,rfl,by decide +kernel,by decide +kernel⟩
noncomputable abbrev bN:Stmt:=top 13
theorem sc_open_ways:FnScope ["hill","book","t","asked","way","others","found"] ["hill","book","t"] (ak bN):=⟨rfl,rfl,rfl,by decide +kernel,rfl,by decide +kernel,by decide +kernel⟩
noncomputable abbrev cD:Stmt:=top 14
theorem sc_why_shut:FnScope ["hill","book","w","t","way","names","at","rule","holds"] ["hill","book","w","t"] (ak cD):=⟨rfl,rfl,rfl,by decide +kernel,rfl,by decide +kernel,by decide +kernel⟩
noncomputable abbrev cV:Stmt:=top 16
theorem sc_law_start:FnScope ["_law_script","_law_digits","_law_cell","_law_seed","_law_k"] ["_law_script"] (ak cV):=⟨rfl,rfl,rfl,by decide +kernel,rfl,by decide +kernel,by decide +kernel⟩
noncomputable abbrev dO:Stmt:=top 17
theorem sc_law_pick:FnScope ["_law_state","_law_many","_law_found","_law_far"] ["_law_state","_law_many"] (ak dO):=⟨rfl,rfl,rfl,by decide +kernel,rfl,by decide +kernel,by decide +kernel⟩
noncomputable abbrev bI:Stmt:=top 18
theorem sc_law_word:FnScope ["_law_state","_law_taken","_law_letters","_law_size","_law_word_here"] ["_law_state","_law_taken"] (ak bI):=⟨rfl,rfl,rfl,by decide +kernel,rfl,by decide +kernel,by decide +kernel⟩
noncomputable abbrev bY:Stmt:=top 19
theorem sc_law_words:FnScope ["_law_state","_law_many","_law_found","_law_k"] ["_law_state","_law_many"] (ak bY):=⟨rfl,rfl,rfl,by decide +kernel,rfl,by decide +kernel,by decide +kernel⟩
noncomputable abbrev cm:Stmt:=top 20
theorem sc_law_hill:FnScope ["_law_state","_law_most","_law_scale","_law_spots","_law_names","_law_ways","_law_name","_law_kind","_law_ends"] ["_law_state","_law_most","_law_scale"] (ak cm):=⟨rfl,rfl,rfl,by decide +kernel,rfl,by decide +kernel,by decide +kernel⟩
noncomputable abbrev bP:Stmt:=top 21
theorem lj:FnScope ["_law_state","_law_hill_here","_law_scale"] ["_law_state","_law_hill_here","_law_scale"] (ak bP):=⟨rfl,rfl,rfl,by decide +kernel,rfl,by decide +kernel,by decide +kernel⟩
noncomputable abbrev cF:Stmt:=top 22
theorem sc_law_rule:FnScope ["_law_state","_law_hill_here","_law_posts","_law_scale","_law_way","_law_post","_law_value","_law_first","_law_last","_law_other"] ["_law_state","_law_hill_here","_law_posts","_law_scale"] (ak cF):=⟨rfl,rfl,rfl,by decide +kernel,rfl,by decide +kernel,by decide +kernel⟩
noncomputable abbrev bx:Stmt:=top 23
theorem sc_law_number:FnScope ["_law_state","_law_taken","_law_number_here","_law_some"] ["_law_state","_law_taken"] (ak bx):=⟨rfl,rfl,rfl,by decide +kernel,rfl,by decide +kernel,by decide +kernel⟩
noncomputable abbrev bG:Stmt:=top 24
theorem sc_law_pages:FnScope ["_law_state","_law_hill_here","_law_scale","_law_many","_law_posts","_law_slopes","_law_pages_here","_law_taken","_law_k","_law_kind","_law_moment_here","_law_name","_law_size","_law_rules_here","_law_value"] ["_law_state","_law_hill_here","_law_scale","_law_many"] (ak bG):=⟨rfl,rfl,rfl,by decide +kernel,rfl,by decide +kernel,by decide +kernel⟩
noncomputable abbrev cn:Stmt:=top 25
theorem nW:FnScope ["_law_pages_here"] ["_law_pages_here"] (ak cn):=⟨rfl,rfl,rfl,by decide +kernel,rfl,by decide +kernel,by decide +kernel⟩
noncomputable abbrev bQ:Stmt:=top 26
theorem sc_law_page:FnScope ["_law_pages_here","_law_kind","_law_name","_law_t","_law_found"] ["_law_pages_here","_law_kind","_law_name","_law_t"] (ak bQ):=⟨rfl,rfl,rfl,by decide +kernel,rfl,by decide +kernel,by decide +kernel⟩
noncomputable abbrev cf:Stmt:=top 27
theorem sc_law_holds:FnScope ["_law_pages_here","_law_name","_law_rule_here","_law_t","_law_opened","_law_look","_law_told"] ["_law_pages_here","_law_name","_law_rule_here","_law_t","_law_opened"] (ak cf):=⟨rfl,rfl,rfl,by decide +kernel,rfl,by decide +kernel,by decide +kernel⟩
noncomputable abbrev bZ:Stmt:=top 28
theorem sc_law_rules:FnScope ["_law_pages_here","_law_name","_law_t","_law_told"] ["_law_pages_here","_law_name","_law_t"] (ak bZ):=⟨rfl,rfl,rfl,by decide +kernel,rfl,by decide +kernel,by decide +kernel⟩
noncomputable abbrev bR:Stmt:=top 29
theorem sc_law_open:FnScope ["_law_hill_here","_law_pages_here","_law_t","_law_rules_here","_law_before","_law_opened","_law_name","_law_some"] ["_law_hill_here","_law_pages_here","_law_t"] (ak bR):=⟨rfl,rfl,rfl,by decide +kernel,rfl,by decide +kernel,by decide +kernel⟩
noncomputable abbrev cH:Stmt:=top 30
theorem sc_law_why:FnScope ["_law_hill_here","_law_pages_here","_law_w","_law_t","_law_opened","_law_failing"] ["_law_hill_here","_law_pages_here","_law_w","_law_t"] (ak cH):=⟨rfl,rfl,rfl,by decide +kernel,rfl,by decide +kernel,by decide +kernel⟩
noncomputable abbrev cb:Stmt:=top 31
theorem sc_law_right:FnScope ["_law_hill_here","_law_pages_here","_law_t","_law_book_here","_law_told","_law_way","_law_due"] ["_law_hill_here","_law_pages_here","_law_t"] (ak cb):=⟨rfl,rfl,rfl,by decide +kernel,rfl,by decide +kernel,by decide +kernel⟩
noncomputable abbrev cJ:Stmt:=top 32
theorem sc_law_six:FnScope ["_law_state","_law_hill_here","_law_first","_law_n","_law_good","_law_bad","_law_rules_here","_law_k"] ["_law_state","_law_hill_here"] (ak cJ):=⟨rfl,rfl,rfl,by decide +kernel,rfl,by decide +kernel,by decide +kernel⟩
noncomputable abbrev dP:Stmt:=top 33
theorem sc_law:FnScope ["_law_script","_law_state","_law_scale","_law_hill_here","_law_six_here","_law_pages_here","_law_page_here"] ["_law_script"] (ak dP):=⟨rfl,rfl,rfl,by decide +kernel,rfl,by decide +kernel,by decide +kernel⟩
set_option genInjectivity false in
structure Txt (K:PySem.W.Frag) (mg:Str→Option Value) (a_way_named a_last_page a_reading a_rules_at a_looked_at a_post_holds a_look_holds a_holds_alone a_others_asked a_found_open a_open_ways a_why_shut awstart awpick awword awwords awhill awmoment awrule awnumber awpages awbook awpage awholds awrules awopen awwhy awright awsix a_law cb_law_book tb_law_book cb_law_page tb_law_page:Addr) (d_way_named d_last_page d_reading d_rules_at d_looked_at d_post_holds d_look_holds d_holds_alone d_others_asked d_found_open d_open_ways d_why_shut dwstart dwpick dwword dwwords dwhill dwmoment dwrule dwnumber dwpages dwbook dwpage dwholds dwrules dwopen dwwhy dwright dwsix d_law:FuncData):Prop where
 F_way_named:Fun K "way_named" "way_named" bW a_way_named d_way_named
 m_way_named:mg "way_named"=some (.ref a_way_named)
 b_way_named:Binds K d_way_named ["hill","name"] []
 F_last_page:Fun K "last_page" "last_page" cg a_last_page d_last_page
 m_last_page:mg "last_page"=some (.ref a_last_page)
 b_last_page:Binds K d_last_page ["book","kind","name","t"] []
 F_reading:Fun K "reading" "reading" cU a_reading d_reading
 m_reading:mg "reading"=some (.ref a_reading)
 b_reading:Binds K d_reading ["book","post","t"] []
 F_rules_at:Fun K "rules_at" "rules_at" cE a_rules_at d_rules_at
 m_rules_at:mg "rules_at"=some (.ref a_rules_at)
 b_rules_at:Binds K d_rules_at ["book","w","t"] []
 F_looked_at:Fun K "looked_at" "looked_at" bX a_looked_at d_looked_at
 m_looked_at:mg "looked_at"=some (.ref a_looked_at)
 b_looked_at:Binds K d_looked_at ["book","w","t"] []
 F_post_holds:Fun K "post_holds" "post_holds" bM a_post_holds d_post_holds
 m_post_holds:mg "post_holds"=some (.ref a_post_holds)
 b_post_holds:Binds K d_post_holds ["book","rule","t"] []
 F_look_holds:Fun K "look_holds" "look_holds" bO a_look_holds d_look_holds
 m_look_holds:mg "look_holds"=some (.ref a_look_holds)
 b_look_holds:Binds K d_look_holds ["book","way","n","t"] []
 F_holds_alone:Fun K "holds_alone" "holds_alone" bH a_holds_alone d_holds_alone
 m_holds_alone:mg "holds_alone"=some (.ref a_holds_alone)
 b_holds_alone:Binds K d_holds_alone ["book","way","rule","t"] []
 F_others_asked:Fun K "others_asked" "others_asked" bo a_others_asked d_others_asked
 m_others_asked:mg "others_asked"=some (.ref a_others_asked)
 b_others_asked:Binds K d_others_asked ["book","way","t"] []
 F_found_open:Fun K "found_open" "found_open" bF a_found_open d_found_open
 m_found_open:mg "found_open"=some (.ref a_found_open)
 b_found_open:Binds K d_found_open ["asked"] []
 F_open_ways:Fun K "open_ways" "open_ways" bN a_open_ways d_open_ways
 m_open_ways:mg "open_ways"=some (.ref a_open_ways)
 b_open_ways:Binds K d_open_ways ["hill","book","t"] []
 F_why_shut:Fun K "why_shut" "why_shut" cD a_why_shut d_why_shut
 m_why_shut:mg "why_shut"=some (.ref a_why_shut)
 b_why_shut:Binds K d_why_shut ["hill","book","w","t"] []
 F_law_start:Fun K "_law_start" "_law_start" cV awstart dwstart
 m_law_start:mg "_law_start"=some (.ref awstart)
 b_law_start:Binds K dwstart ["_law_script"] []
 F_law_pick:Fun K "_law_pick" "_law_pick" dO awpick dwpick
 m_law_pick:mg "_law_pick"=some (.ref awpick)
 b_law_pick:Binds K dwpick ["_law_state","_law_many"] []
 F_law_word:Fun K "_law_word" "_law_word" bI awword dwword
 m_law_word:mg "_law_word"=some (.ref awword)
 b_law_word:Binds K dwword ["_law_state","_law_taken"] []
 F_law_words:Fun K "_law_words" "_law_words" bY awwords dwwords
 m_law_words:mg "_law_words"=some (.ref awwords)
 b_law_words:Binds K dwwords ["_law_state","_law_many"] []
 F_law_hill:Fun K "_law_hill" "_law_hill" cm awhill dwhill
 m_law_hill:mg "_law_hill"=some (.ref awhill)
 b_law_hill:Binds K dwhill ["_law_state","_law_most","_law_scale"] []
 F_law_moment:Fun K "_law_moment" "_law_moment" bP awmoment dwmoment
 m_law_moment:mg "_law_moment"=some (.ref awmoment)
 b_law_moment:Binds K dwmoment ["_law_state","_law_hill_here","_law_scale"] []
 F_law_rule:Fun K "_law_rule" "_law_rule" cF awrule dwrule
 m_law_rule:mg "_law_rule"=some (.ref awrule)
 b_law_rule:Binds K dwrule ["_law_state","_law_hill_here","_law_posts","_law_scale"] []
 F_law_number:Fun K "_law_number" "_law_number" bx awnumber dwnumber
 m_law_number:mg "_law_number"=some (.ref awnumber)
 b_law_number:Binds K dwnumber ["_law_state","_law_taken"] []
 F_law_pages:Fun K "_law_pages" "_law_pages" bG awpages dwpages
 m_law_pages:mg "_law_pages"=some (.ref awpages)
 b_law_pages:Binds K dwpages ["_law_state","_law_hill_here","_law_scale","_law_many"] []
 F_law_book:Fun K "_law_book" "_law_book" cn awbook dwbook
 m_law_book:mg "_law_book"=some (.ref awbook)
 b_law_book:Binds K dwbook ["_law_pages_here"] []
 F_law_page:Fun K "_law_page" "_law_page" bQ awpage dwpage
 m_law_page:mg "_law_page"=some (.ref awpage)
 b_law_page:Binds K dwpage ["_law_pages_here","_law_kind","_law_name","_law_t"] []
 F_law_holds:Fun K "_law_holds" "_law_holds" cf awholds dwholds
 m_law_holds:mg "_law_holds"=some (.ref awholds)
 b_law_holds:Binds K dwholds ["_law_pages_here","_law_name","_law_rule_here","_law_t","_law_opened"] []
 F_law_rules:Fun K "_law_rules" "_law_rules" bZ awrules dwrules
 m_law_rules:mg "_law_rules"=some (.ref awrules)
 b_law_rules:Binds K dwrules ["_law_pages_here","_law_name","_law_t"] []
 F_law_open:Fun K "_law_open" "_law_open" bR awopen dwopen
 m_law_open:mg "_law_open"=some (.ref awopen)
 b_law_open:Binds K dwopen ["_law_hill_here","_law_pages_here","_law_t"] []
 F_law_why:Fun K "_law_why" "_law_why" cH awwhy dwwhy
 m_law_why:mg "_law_why"=some (.ref awwhy)
 b_law_why:Binds K dwwhy ["_law_hill_here","_law_pages_here","_law_w","_law_t"] []
 F_law_right:Fun K "_law_right" "_law_right" cb awright dwright
 m_law_right:mg "_law_right"=some (.ref awright)
 b_law_right:Binds K dwright ["_law_hill_here","_law_pages_here","_law_t"] []
 F_law_six:Fun K "_law_six" "_law_six" cJ awsix dwsix
 m_law_six:mg "_law_six"=some (.ref awsix)
 b_law_six:Binds K dwsix ["_law_state","_law_hill_here"] []
 F_law:Fun K "law" "law" dP a_law d_law
 fQ:mg "law"=some (.ref a_law)
 b_law:Binds K d_law ["_law_script"] []
 m_len:mg "len"=none
 m_abs:mg "abs"=none
 m_all:mg "all"=none
 m_range:mg "range"=none
 m_int:mg "int"=none
 m_tuple:mg "tuple"=none
 m_max:mg "max"=none
 m_min:mg "min"=none
 m_sorted:mg "sorted"=none
 m_enumerate:mg "enumerate"=none
 m_reversed:mg "reversed"=none
 m_repr:mg "repr"=none
 L_law_book:FunC K "_law_book" "_law_book" cn awbook dwbook cb_law_book tb_law_book
 L_law_page:FunC K "_law_page" "_law_page" bQ awpage dwpage cb_law_page tb_law_page
 ne_law_book_law_page:tb_law_book≠tb_law_page
 ne_law_page_law_book:tb_law_page≠tb_law_book
noncomputable abbrev aO (tb_law_book tb_law_page:Addr) (K:PySem.W.Frag):Fam:=mY K [(tb_law_book,(("_law_book":Str)++".<locals>."++"<lambda>")),(tb_law_page,(("_law_page":Str)++".<locals>."++"<lambda>"))]
theorem wM {i:Int} (h0:0≤i) (h1:i < 2 ^ 80):(0:Int)≤3∧(Builtin.Int.intBits i:Int) * 3≤2 ^ 27:=by
 have h2:i.natAbs < 2 ^ 80:=by
  have e:(2:Int) ^ 80=((2 ^ 80:Nat):Int):=by decide
  rw[e] at h1
  lia
 have:=intBits_le h2
 refine⟨by decide,?_⟩
 have e:(2:Int) ^ 27=134217728:=by decide
 rw[e]
 lia
theorem vd {i:Int} (h0:0≤i) (h1:i < 2 ^ 80):(0:Int)≤5∧(Builtin.Int.intBits i:Int) * 5≤2 ^ 27:=by
 have h2:i.natAbs < 2 ^ 80:=by
  have e:(2:Int) ^ 80=((2 ^ 80:Nat):Int):=by decide
  rw[e] at h1
  lia
 have:=intBits_le h2
 refine⟨by decide,?_⟩
 have e:(2:Int) ^ 27=134217728:=by decide
 rw[e]
 lia
theorem hM {i j:Int} (h0:0≤j) (h1:j < 2 ^ 63):CMul i j:=by
 have e:(2:Int) ^ 63=9223372036854775808:=by decide
 have e2:(2:Int) ^ 64=18446744073709551616:=by decide
 rw[e] at h1
 exact .inr ⟨by rw[e2];lia,by rw[e2];lia⟩
theorem fq {i j:Int} (h0:0≤i) (h1:i < 2 ^ 63):CMul i j:=by
 have e:(2:Int) ^ 63=9223372036854775808:=by decide
 have e2:(2:Int) ^ 64=18446744073709551616:=by decide
 rw[e] at h1
 exact .inl ⟨by rw[e2];lia,by rw[e2];lia⟩
theorem xj {i:Int} (h:i < 1208925819614629174706176):i < 2 ^ 80:=by
 have e:(2:Int) ^ 80=1208925819614629174706176:=by decide
 rw[e];exact h
theorem vp {P:Program} {w:World} {K:PySem.W.Frag} {mg:Str→Option Value} {base:Heap} {a_way_named a_last_page a_reading a_rules_at a_looked_at a_post_holds a_look_holds a_holds_alone a_others_asked a_found_open a_open_ways a_why_shut awstart awpick awword awwords awhill awmoment awrule awnumber awpages awbook awpage awholds awrules awopen awwhy awright awsix a_law cb_law_book tb_law_book cb_law_page tb_law_page:Addr} {d_way_named d_last_page d_reading d_rules_at d_looked_at d_post_holds d_look_holds d_holds_alone d_others_asked d_found_open d_open_ways d_why_shut dwstart dwpick dwword dwwords dwhill dwmoment dwrule dwnumber dwpages dwbook dwpage dwholds dwrules dwopen dwwhy dwright dwsix d_law:FuncData} (T:Txt K mg a_way_named a_last_page a_reading a_rules_at a_looked_at a_post_holds a_look_holds a_holds_alone a_others_asked a_found_open a_open_ways a_why_shut awstart awpick awword awwords awhill awmoment awrule awnumber awpages awbook awpage awholds awrules awopen awwhy awright awsix a_law cb_law_book tb_law_book cb_law_page tb_law_page d_way_named d_last_page d_reading d_rules_at d_looked_at d_post_holds d_look_holds d_holds_alone d_others_asked d_found_open d_open_ways d_why_shut dwstart dwpick dwword dwwords dwhill dwmoment dwrule dwnumber dwpages dwbook dwpage dwholds dwrules dwopen dwwhy dwright dwsix d_law):FnOk P w K mg base CX0 1 awpick dwpick ["_law_state","_law_many"] qD:=by
 refine T.F_law_pick.ok sc_law_pick (fun vs H Q E h=>?_) (fun cdv A outer s H vs Q E hr h=>?_)
 ·obtain⟨a,n,m,rfl,_⟩:=h
  rfl
 obtain⟨a,n,m,rfl,pik,hn,hm0,hm1,q⟩:=h
 obtain⟨d,sd,k,e1,d0,s0,s1,k0,k1⟩:=pik.ex
 have fin: ∀ d' k':Int,0≤d'→0≤k'→k'≤n+1→Pik (upd H a (.lst [.int d',.int sd,.int k'])) a (n+1):=fun d' k' h1 h2 h3=>⟨d',sd,k',aD,h1,s0,s1,h2,by lia⟩
 refine⟨_,(cM (pP (iA pT (dQ ix_list (pv 0) aR (fun _ _=>rfl)) aR (aL _)) (cM (fg (i:=2) sc_law_pick.nd rfl (Or.inl rfl) (bu d8 (dQ ix_list (pv 0) aR (fun _ _=>rfl)) (pv 1)))
  (cM (mj (bu j0 (dQ ix_list (pv 0) aR (fun _ _=>rfl)) (pv 1)) (mn (pv 0) aR set_list))
  (eU (jr (pv 2))))) jT)
  (cM (mj (bu op_add (dQ ix_list (pv 0) aR (fun _ _=>rfl)) aR) (mn (pv 0) aR set_list))
  (cM (fg (i:=3) sc_law_pick.nd rfl (Or.inl rfl) (bu d8 (bu gn (bu op_add (dQ ix_list (pv 0) aR (fun _ _=>rfl)) (bu op_mul aR (dQ ix_list (pv 0) aR (fun _ _=>rfl)))) aR) aR))
  (cM (fg (i:=3) sc_law_pick.nd rfl (Or.inl rfl) (bu d8 (bu op_mul (bu op_add (pv 3) (bu op_mul aR (dQ ix_list (pv 0) aR (fun _ _=>rfl)))) (bu op_add (bu d8 (pv 3) aR) aR)) aR))
  (eU (jr (bu d8 (bu op_add (bu j0 (pv 3) aR) (bu j0 (pv 3) aR)) (pv 1)))))))),?_⟩
 refine⟨_,rfl,a,_,_,_,rfl,rfl,SqL.of e1,rfl,_,_,rfl,rfl,_,rfl,?_⟩
 refine tM (fun c1=>?_) (fun c1=>?_)
 ·refine⟨_,rfl,a,_,_,_,rfl,rfl,SqL.of e1,rfl,_,rfl,_,_,rfl,rfl,hm0,?_⟩
  refine⟨_,rfl,a,_,_,_,rfl,rfl,SqL.of e1,rfl,_,rfl,_,_,rfl,rfl,⟨hm0,hm1⟩,?_⟩
  refine⟨_,rfl,a,_,_,_,rfl,rfl,e1,rfl,?_⟩
  refine⟨_,rfl,?_⟩
  exact q _ _ (Int.emod_nonneg _ (by first|decide|lia)) (Int.emod_lt_of_pos _ hm0) (fin _ _ (Int.ediv_nonneg d0 (by first|decide|lia)) k0 (by first|decide|lia))
 ·refine⟨_,rfl,a,_,_,_,rfl,rfl,SqL.of e1,rfl,_,_,rfl,rfl,_,rfl,a,_,_,_,rfl,rfl,e1,rfl,?_⟩
  refine⟨_,rfl,a,_,_,_,rfl,rfl,SqL.of aD,rfl,_,rfl,a,_,_,_,rfl,rfl,SqL.of aD,rfl,_,_,rfl,rfl,fq (by decide) (by decide),_,_,rfl,rfl,_,_,rfl,rfl,wM (by first|decide|lia) (xj (by first|decide|lia)),_,_,rfl,rfl,(by show (0:Int) < _;decide),?_⟩
  refine⟨_,rfl,_,rfl,a,_,_,_,rfl,rfl,SqL.of aD,rfl,_,_,rfl,rfl,fq (by decide) (by decide),_,_,rfl,rfl,_,rfl,_,_,rfl,rfl,(by show (0:Int) < _;decide),_,_,rfl,rfl,_,_,rfl,rfl,hM ?_ ?_,_,_,rfl,rfl,(by show (0:Int) < _;decide),?_⟩
  ·have:=Int.emod_nonneg (((sd+982451653 * (k+1)) ^ (3:Int).toNat) % 2305843009213693921) (show (179424673:Int)≠0 by decide)
   lia
  ·have:=Int.emod_lt_of_pos (((sd+982451653 * (k+1)) ^ (3:Int).toNat) % 2305843009213693921) (show (0:Int) < 179424673 by decide)
   have e:(2:Int) ^ 63=9223372036854775808:=by decide
   rw[e]
   lia
  ·refine⟨_,rfl,_,_,rfl,rfl,⟨by decide,by decide⟩,_,rfl,_,_,rfl,rfl,⟨by decide,by decide⟩,_,_,rfl,rfl,_,rfl,_,_,rfl,rfl,hm0,?_⟩
   exact q _ _ (Int.emod_nonneg _ (by first|decide|lia)) (Int.emod_lt_of_pos _ hm0) (fin d (k+1) d0 (by first|decide|lia) (by first|decide|lia))
theorem qh (ns:List Int):eO (ns.map V.int) none (some 63)=(ns.take 63).map V.int:=by
 unfold eO
 rw[HT.sIx_none]
 have e:HT.sIx (ns.map V.int).length (ns.map V.int).length (some 63)=min 63 (ns.map V.int).length:=HT.sIx_nat _ _ 63
 rw[e,List.drop_zero,Nat.sub_zero,List.length_map,←List.map_take]
 congr 1
 rw[List.take_eq_take_iff]
 lia
theorem yJ (ns:List Int):eO (ns.map V.int) none (some 1)=(ns.take 1).map V.int:=by
 unfold eO
 rw[HT.sIx_none]
 have e:HT.sIx (ns.map V.int).length (ns.map V.int).length (some 1)=min 1 (ns.map V.int).length:=HT.sIx_nat _ _ 1
 rw[e,List.drop_zero,Nat.sub_zero,List.length_map,←List.map_take]
 congr 1
 rw[List.take_eq_take_iff]
 lia
theorem vS {d:Int} {i:Nat} (h0:0≤d) (h1:d < (10 ^ (60:Int).toNat:Int) ^ i) (hi:i≤63):Builtin.Int.intBits d≤2 ^ 20:=by
 have e1:d.natAbs < (2 ^ 200) ^ i:=by
  have e2:(10 ^ (60:Int).toNat:Int)=((10 ^ 60:Nat):Int):=by decide +kernel
  rw[e2,←Int.natCast_pow] at h1
  have h2:d.natAbs < (10 ^ 60) ^ i:=by
   have:=Int.natAbs_of_nonneg h0
   rw[←this] at h1
   exact Int.ofNat_lt.mp h1
  exact Nat.lt_of_lt_of_le h2 (Nat.pow_le_pow_left (by decide +kernel) i)
 rw[←Nat.pow_mul] at e1
 have:=intBits_le e1
 have e3:(2:Nat) ^ 20=1048576:=by decide
 lia
theorem sV {P:Program} {w:World} {K:PySem.W.Frag} {mg:Str→Option Value} {base:Heap} {a_way_named a_last_page a_reading a_rules_at a_looked_at a_post_holds a_look_holds a_holds_alone a_others_asked a_found_open a_open_ways a_why_shut awstart awpick awword awwords awhill awmoment awrule awnumber awpages awbook awpage awholds awrules awopen awwhy awright awsix a_law cb_law_book tb_law_book cb_law_page tb_law_page:Addr} {d_way_named d_last_page d_reading d_rules_at d_looked_at d_post_holds d_look_holds d_holds_alone d_others_asked d_found_open d_open_ways d_why_shut dwstart dwpick dwword dwwords dwhill dwmoment dwrule dwnumber dwpages dwbook dwpage dwholds dwrules dwopen dwwhy dwright dwsix d_law:FuncData} (T:Txt K mg a_way_named a_last_page a_reading a_rules_at a_looked_at a_post_holds a_look_holds a_holds_alone a_others_asked a_found_open a_open_ways a_why_shut awstart awpick awword awwords awhill awmoment awrule awnumber awpages awbook awpage awholds awrules awopen awwhy awright awsix a_law cb_law_book tb_law_book cb_law_page tb_law_page d_way_named d_last_page d_reading d_rules_at d_looked_at d_post_holds d_look_holds d_holds_alone d_others_asked d_found_open d_open_ways d_why_shut dwstart dwpick dwword dwwords dwhill dwmoment dwrule dwnumber dwpages dwbook dwpage dwholds dwrules dwopen dwwhy dwright dwsix d_law):FnOk P w K mg base CX0 1 awstart dwstart ["_law_script"] (jR K):=by
 refine T.F_law_start.ok sc_law_start (fun vs H Q E h=>?_) (fun cdv A outer s H vs Q E hr h=>?_)
 ·obtain⟨a,ns,rfl,_⟩:=h
  rfl
 obtain⟨a,ns,rfl,hS,h63,q⟩:=h
 have hu0:=Nat.lt_of_succ_lt (iN hr)
 have hl63:((ns.take 63).map V.int).length≤63:=by rw[List.length_map,List.length_take];lia
 have isInt: ∀ (x:V),x∈(ns.take 63).map V.int→∃ y:Int,x= .int y:=fun x e=>by
  obtain⟨y,_,z⟩:=List.mem_map.mp e
  exact⟨y,z.symm⟩
 have b60:((0:Int)≤60)∧(Builtin.Int.intBits 10:Int) * 60≤2 ^ 27:=by decide
 have p60:(0:Int) < 10 ^ (60:Int).toNat:=by decide +kernel
 have hb60:Builtin.Int.intBits (10 ^ (60:Int).toNat)≤2 ^ 20:=by decide +kernel
 have rest: ∃ t,PSs (dn CX0 P w K mg base ["_law_script","_law_digits","_law_cell","_law_seed","_law_k"] "_law_start" (ak cV) awstart cdv A outer s H E).nox ((au cV).drop 2) t∧∀ (dg:Int) (v2:Option V) (H1:Hp),0≤dg→Same H H1→t {nx:=fun _ H'=>Q .non H',rt:=Q} [some (.ref a),some (.int dg),v2,none,none] H1:=by
  refine⟨_,(cM (fg (i:=3) sc_law_start.nd rfl (Or.inl rfl) aR)
  (cM (jt PassesOwn.never rfl (sM rfl T.m_enumerate PyProof.Rows.boot_enumerate (cL (gD sl_list (pv 0) iC (iB aR)) du)) (qQ rfl (iZ (iE (i:=4) sc_law_start.nd rfl (Or.inl rfl)) (iZ (iE (i:=2) sc_law_start.nd rfl (Or.inl rfl)) oM))) (eU (fg (i:=3) sc_law_start.nd rfl (Or.inl rfl) (bu d8 (bu gn (bu op_add (bu op_add (bu op_mul (pv 3) aR) (bu d8 (pv 2) aR)) (bu op_mul aR (pv 4))) aR) aR))))
  (eU (jr (mr (cL (pv 1) (cL (pv 3) (cL aR du)))))))),fun dg v2 H1 dg0 sm1=>?_⟩
  refine⟨_,rfl,63,rfl,a,_,rfl,sm1.seq hS,fun u hu=>?_⟩
  rw[qh ns]
  have g2:Same H1 (upd H1 u (.lst ((ns.take 63).map V.int))):=eT hu _
  have hu2:upd H1 u (.lst ((ns.take 63).map V.int)) u=some (.lst ((ns.take 63).map V.int)):=aD
  generalize upd H1 u (.lst ((ns.take 63).map V.int))=H2 at g2 hu2
  refine⟨u,_,rfl,SqL.of hu2,?_⟩
  refine tU (xs:=(ns.take 63).map V.int) (fun i σ H'=> ∃ (sd:Int) (v2 v4:Option V),σ=[some (.ref a),some (.int dg),v2,some (.int sd),v4]∧Same H2 H'∧0≤sd∧sd < 2305843009213693951) ⟨271828182,_,none,rfl,fun _ _ h=>h,by decide,by decide⟩ ?_ ?_ ?_
  ·rintro i σ H' _ ⟨sd,v2,v4,_,sm,_⟩
   exact SqL.of (sm _ _ hu2)
  ·rintro i x σ H' T hx hT ⟨sd,v2,v4,rfl,sm,s0,s1⟩
   obtain⟨y,rfl⟩:=isInt x (List.mem_of_getElem? hx)
   have hi:i < 63:=Nat.lt_of_lt_of_le (List.getElem?_eq_some_iff.mp hx).1 hl63
   have r0:=Int.emod_nonneg y (show (2305843009213693951:Int)≠0 by decide)
   have r1:=Int.emod_lt_of_pos y (show (0:Int) < 2305843009213693951 by decide)
   refine⟨T,_,rfl,SqT.of aD,rfl,_,_,rfl,_,_,rfl,rfl,?_⟩
   refine⟨_,rfl,_,_,rfl,rfl,hM (by decide) (by decide),_,rfl,_,_,rfl,rfl,(by show (0:Int) < _;decide),_,_,rfl,rfl,_,rfl,_,_,rfl,rfl,fq (by decide) (by decide),_,_,rfl,rfl,_,_,rfl,rfl,vd (by first|decide|lia) (xj (by first|decide|lia)),_,_,rfl,rfl,(by show (0:Int) < _;decide),?_⟩
   exact⟨_,_,_,rfl,sm.trans (eT hT _),Int.emod_nonneg _ (by decide),Int.emod_lt_of_pos _ (by decide)⟩
  ·rintro σ H' ⟨sd,v2,v4,rfl,sm,s0,s1⟩
   refine⟨_,rfl,_,rfl,(by show 3≤sizeLine;decide),fun b hb=>?_⟩
   exact q b _ (sm1.trans (g2.trans (sm.trans (eT hb _)))) ⟨dg,sd,0,aD,dg0,s0,s1,Int.le_refl 0,by lia⟩
 obtain⟨tt,dt,ht⟩:=rest
 refine⟨_,(cM (fg (i:=1) sc_law_start.nd rfl (Or.inl rfl) aR)
  (cM (pP (PW.pt (qK (iA (qY hu0) (gD sl_list (pv 0) iC (iB aR)) (mr du) (aL _)) (oK (iA pU (dQ ix_list (pv 0) aR (fun _ _=>rfl)) (bu gn aR aR) (aL _))))) (eU (jt PassesOwn.never rfl (wN rfl T.m_reversed PyProof.Rows.boot_reversed (cL (gD sl_list (pv 0) iC (iB aR)) du)) (iE (i:=2) sc_law_start.nd rfl (Or.inl rfl)) (eU (fg (i:=1) sc_law_start.nd rfl (Or.inl rfl) (bu op_add (bu vo (pv 1) (bu gn aR aR)) (bu d8 (mx t9 rfl T.m_abs PyProof.Rows.boot_abs (cL (pv 2) du)) (bu gn aR aR))))))) jT)
  dt)),?_⟩
 have b18:((0:Int)≤18)∧(Builtin.Int.intBits 10:Int) * 18≤2 ^ 27:=by decide
 refine⟨_,rfl,1,rfl,a,_,rfl,hS,fun u hu=>?_⟩
 rw[yJ ns]
 have g1:Same H (upd H u (.lst ((ns.take 1).map V.int))):=eT hu _
 have gu:upd H u (.lst ((ns.take 1).map V.int)) u=some (.lst ((ns.take 1).map V.int)):=aD
 generalize upd H u (.lst ((ns.take 1).map V.int))=H1 at g1 gu
 refine⟨(by show 0≤sizeLine;exact Nat.zero_le _),fun u2 hu2=>?_⟩
 have g2:Same H1 (upd H1 u2 (.lst [])):=eT hu2 _
 refine⟨u,u2,_,rfl,rfl,SqL.of (g2 _ _ gu),SqL.of aD,_,rfl,?_⟩
 generalize upd H1 u2 (.lst [])=H2 at g2
 have sm2:Same H H2:=g1.trans g2
 refine tM (fun c1=>?_) (fun c1=>?_)
 ·cases ns with
  |nil=>cases c1
  |cons y ns=>
  refine⟨_,rfl,a,_,_,_,rfl,rfl,sm2.seq hS,at0 y ns,_,_,rfl,rfl,b18,_,_,rfl,rfl,_,rfl,?_⟩
  refine tM (fun c2=>?_) (fun c2=>?_)
  ·refine⟨_,rfl,63,rfl,a,_,rfl,sm2.seq hS,fun u3 hu3=>?_⟩
   rw[qh (y::ns)]
   have g3:Same H2 (upd H2 u3 (.lst (((y::ns).take 63).map V.int))):=eT hu3 _
   have gu3:upd H2 u3 (.lst (((y::ns).take 63).map V.int)) u3=some (.lst (((y::ns).take 63).map V.int)):=aD
   generalize upd H2 u3 (.lst (((y::ns).take 63).map V.int))=H3 at g3 gu3
   refine⟨u3,_,rfl,SqL.of gu3,?_⟩
   obtain⟨Bs,hBs,pB,bB,kB⟩: ∃ Bs:Int,10 ^ (60:Int).toNat=Bs∧0 < Bs∧Builtin.Int.intBits Bs≤2 ^ 20∧∀ (d:Int) (i:Nat),0≤d→d < Bs ^ i→i≤63→Builtin.Int.intBits d≤2 ^ 20:=⟨_,rfl,p60,hb60,fun d i=>vS⟩
   refine vJ (xs:=((y::ns).take 63).map V.int) (fun i σ H'=> ∃ (dg:Int) (v2:Option V),σ=[some (.ref a),some (.int dg),v2,none,none]∧H'=H3∧0≤dg∧dg < Bs ^ i) ⟨0,none,rfl,rfl,Int.le_refl 0,by rw[Int.pow_zero];decide⟩ ?_ ?_ ?_
   ·rintro i σ H' _ ⟨dg,v2,_,rfl,_⟩
    exact SqL.of gu3
   ·rintro i x σ H' hx hi ⟨dg,v2,rfl,rfl,dg0,dg1⟩
    obtain⟨z,rfl⟩:=isInt x hx
    have hi63:i≤63:=by lia
    refine⟨_,rfl,_,_,rfl,rfl,b60,?_⟩
    simp only[hBs]
    refine⟨_,_,rfl,rfl,IntMulOk.of_bits (kB dg i dg0 dg1 hi63) bB,_,rfl,z,rfl,_,_,rfl,rfl,b60,?_⟩
    simp only[hBs]
    refine⟨_,_,rfl,rfl,pB,_,_,rfl,rfl,?_⟩
    have r0:=Int.emod_nonneg (if z < 0 then -z else z) (Int.ne_of_gt pB)
    have r1:=Int.emod_lt_of_pos (if z < 0 then -z else z) pB
    refine⟨_,_,rfl,rfl,?_,?_⟩
    ·exact Int.add_nonneg (Int.mul_nonneg dg0 (Int.le_of_lt pB)) r0
    ·have h1:dg+1≤Bs ^ i:=dg1
     have h2:(dg+1) * Bs≤Bs ^ i * Bs:=Int.mul_le_mul_of_nonneg_right h1 (Int.le_of_lt pB)
     rw[←Int.pow_succ,Int.add_mul,Int.one_mul] at h2
     exact Int.lt_of_lt_of_le (Int.add_lt_add_left r1 _) h2
   ·rintro σ H' ⟨dg,v2,rfl,rfl,dg0,_⟩
    exact ht dg v2 _ dg0 (sm2.trans g3)
  ·exact ht 0 none _ (Int.le_refl 0) sm2
 ·exact ht 0 none _ (Int.le_refl 0) sm2
noncomputable def F_law_pick:List PV→M PV:=fT
noncomputable def m_way_named:ah→M Fl:=(av (bg (fun ρ=>((ag ixO (fun ρ=>af ρ 0) (fun _=>M.ret (.int 0))) ρ).bind a8) (aN 2)
  (ifP (asB (ag (eqO false) (ag ixO (fun ρ=>af ρ 2) (fun _=>M.ret (.int 0))) (fun ρ=>af ρ 1)))
  (a7 (fun ρ=>af ρ 2))
  (fun ρ=>M.ret (.nx ρ))))
  (a7 (fun _=>M.ret .non)))
noncomputable def F_way_named:List PV→M PV:=fnP 2 3 m_way_named
noncomputable def m_last_page:ah→M Fl:=(av (aA 4 (fun _=>M.ret .non))
  (av (bg (fun ρ=>((fun ρ=>af ρ 0) ρ).bind a8) (aN 5)
  (ifP (fk (asB (ag (eqO false) (ag ixO (fun ρ=>af ρ 5) (fun _=>M.ret (.int 0))) (fun ρ=>af ρ 1))) (fk (asB (ag (eqO false) (ag ixO (fun ρ=>af ρ 5) (fun _=>M.ret (.int 3))) (fun ρ=>af ρ 2))) (asB (ag eV (ag ixO (fun ρ=>af ρ 5) (fun _=>M.ret (.int 2))) (fun ρ=>af ρ 3)))))
  (aA 4 (fun ρ=>af ρ 5))
  (fun ρ=>M.ret (.nx ρ))))
  (a7 (fun ρ=>af ρ 4))))
noncomputable def F_last_page:List PV→M PV:=fnP 4 6 m_last_page
noncomputable def m_reading:ah→M Fl:=(av (aA 3 (fun ρ=>((aa (fun ρ=>af ρ 0) (aa (fun _=>M.ret (.str "read")) (aa (fun ρ=>af ρ 1) (aa (fun ρ=>af ρ 2) (fun _=>M.ret []))))) ρ).bind F_last_page))
  (a7 (ifV (asB (ag (isO false) (fun ρ=>af ρ 3) (fun _=>M.ret .non))) (fun _=>M.ret .non) (ag ixO (fun ρ=>af ρ 3) (fun _=>M.ret (.int 4))))))
noncomputable def F_reading:List PV→M PV:=fnP 3 4 m_reading
noncomputable def m_rules_at:ah→M Fl:=(av (aA 3 (fun ρ=>((aa (fun ρ=>af ρ 0) (aa (fun _=>M.ret (.str "rule")) (aa (fun ρ=>af ρ 1) (aa (fun ρ=>af ρ 2) (fun _=>M.ret []))))) ρ).bind F_last_page))
  (a7 (ifV (asB (ag (isO false) (fun ρ=>af ρ 3) (fun _=>M.ret .non))) (fun ρ=>((fun _=>M.ret []) ρ).bind aT) (ag ixO (fun ρ=>af ρ 3) (fun _=>M.ret (.int 4))))))
noncomputable def F_rules_at:List PV→M PV:=fnP 3 4 m_rules_at
noncomputable def m_looked_at:ah→M Fl:=(av (aA 3 (fun ρ=>((aa (fun ρ=>af ρ 0) (aa (fun _=>M.ret (.str "look")) (aa (fun ρ=>af ρ 1) (aa (fun ρ=>af ρ 2) (fun _=>M.ret []))))) ρ).bind F_last_page))
  (a7 (ifV (asB (ag (isO false) (fun ρ=>af ρ 3) (fun _=>M.ret .non))) (fun _=>M.ret .non) (ag ixO (fun ρ=>af ρ 3) (fun _=>M.ret (.int 2))))))
noncomputable def F_looked_at:List PV→M PV:=fnP 3 4 m_looked_at
noncomputable def m_post_holds:ah→M Fl:=(av (r9 [3,4,5] (fun ρ=>af ρ 1))
  (av (aA 6 (fun ρ=>((aa (fun ρ=>af ρ 0) (aa (fun ρ=>af ρ 4) (aa (fun ρ=>af ρ 2) (fun _=>M.ret [])))) ρ).bind F_reading))
  (av (ifP (asB (ag (isO false) (fun ρ=>af ρ 6) (fun _=>M.ret .non)))
  (a7 (fun _=>M.ret (.bl false)))
  (fun ρ=>M.ret (.nx ρ)))
  (a7 (ifV (asB (ag (eqO false) (fun ρ=>af ρ 3) (fun _=>M.ret (.str "least")))) (ag geO (fun ρ=>af ρ 6) (fun ρ=>af ρ 5)) (ag eV (fun ρ=>af ρ 6) (fun ρ=>af ρ 5)))))))
noncomputable def F_post_holds:List PV→M PV:=fnP 3 7 m_post_holds
noncomputable def m_look_holds:ah→M Fl:=(av (aA 4 (fun ρ=>((aa (fun ρ=>af ρ 0) (aa (ag ixO (fun ρ=>af ρ 1) (fun _=>M.ret (.int 0))) (aa (fun ρ=>af ρ 3) (fun _=>M.ret [])))) ρ).bind F_looked_at))
  (a7 (cO (ag (eqO false) (ag ixO (fun ρ=>af ρ 1) (fun _=>M.ret (.int 1))) (fun _=>M.ret (.str "slope"))) (cO (ag (isO true) (fun ρ=>af ρ 4) (fun _=>M.ret .non)) (ag ltO (fun ρ=>af ρ 3) (ag bL (fun ρ=>af ρ 4) (fun ρ=>af ρ 2)))))))
noncomputable def F_look_holds:List PV→M PV:=fnP 4 5 m_look_holds
noncomputable def m_holds_alone:ah→M Fl:=(av (aA 4 (ag ixO (fun ρ=>af ρ 2) (fun _=>M.ret (.int 0))))
  (av (ifP (asB (ag (eqO false) (fun ρ=>af ρ 4) (fun _=>M.ret (.str "hours"))))
  (a7 (chain eV ltO (ag ixO (fun ρ=>af ρ 2) (fun _=>M.ret (.int 1))) (fun ρ=>af ρ 3) (ag ixO (fun ρ=>af ρ 2) (fun _=>M.ret (.int 2)))))
  (fun ρ=>M.ret (.nx ρ)))
  (av (ifP (orP (asB (ag (eqO false) (fun ρ=>af ρ 4) (fun _=>M.ret (.str "least")))) (asB (ag (eqO false) (fun ρ=>af ρ 4) (fun _=>M.ret (.str "most")))))
  (a7 (fun ρ=>((aa (fun ρ=>af ρ 0) (aa (fun ρ=>af ρ 2) (aa (fun ρ=>af ρ 3) (fun _=>M.ret [])))) ρ).bind F_post_holds))
  (fun ρ=>M.ret (.nx ρ)))
  (av (ifP (asB (ag (eqO false) (fun ρ=>af ρ 4) (fun _=>M.ret (.str "looked"))))
  (a7 (fun ρ=>((aa (fun ρ=>af ρ 0) (aa (fun ρ=>af ρ 1) (aa (ag ixO (fun ρ=>af ρ 2) (fun _=>M.ret (.int 1))) (aa (fun ρ=>af ρ 3) (fun _=>M.ret []))))) ρ).bind F_look_holds))
  (fun ρ=>M.ret (.nx ρ)))
  (a7 (fun _=>M.ret (.bl false)))))))
noncomputable def F_holds_alone:List PV→M PV:=fnP 4 5 m_holds_alone
noncomputable def m_others_asked:ah→M Fl:=(av (aA 3 (fun ρ=>((aa (fun ρ=>af ρ 0) (aa (ag ixO (fun ρ=>af ρ 1) (fun _=>M.ret (.int 0))) (aa (fun ρ=>af ρ 2) (fun _=>M.ret [])))) ρ).bind F_rules_at))
  (av (ifP (el (asB (fun ρ=>((aa (aH (bb [none,some 0,some 1,some 2] (fun ρ=>((fun ρ=>af ρ 3) ρ).bind a8) (aN 0) (asB (ag (eqO true) (ag ixO (fun ρ=>af ρ 0) (fun _=>M.ret (.int 0))) (fun _=>M.ret (.str "with")))) (fun ρ=>((aa (fun ρ=>af ρ 1) (aa (fun ρ=>af ρ 2) (aa (fun ρ=>af ρ 0) (aa (fun ρ=>af ρ 3) (fun _=>M.ret []))))) ρ).bind F_holds_alone))) (fun _=>M.ret [])) ρ).bind eQ)))
  (a7 (fun _=>M.ret .non))
  (fun ρ=>M.ret (.nx ρ)))
  (a7 (aH (bb [none] (fun ρ=>((fun ρ=>af ρ 3) ρ).bind a8) (aN 0) (asB (ag (eqO false) (ag ixO (fun ρ=>af ρ 0) (fun _=>M.ret (.int 0))) (fun _=>M.ret (.str "with")))) (ag ixO (fun ρ=>af ρ 0) (fun _=>M.ret (.int 1))))))))
noncomputable def F_others_asked:List PV→M PV:=fnP 3 4 m_others_asked
noncomputable def m_found_open:ah→M Fl:=(av (pS 1)
  (av (aA 2 (fun ρ=>((fun _=>M.ret (.int 1)) ρ).bind fF))
  (av (whP (asB (ag ltO (fun ρ=>af ρ 2) (fun ρ=>((aa (fun ρ=>bT ρ 1) (fun _=>M.ret [])) ρ).bind cN))) (av (aA 2 (fun ρ=>((aa (fun ρ=>bT ρ 1) (fun _=>M.ret [])) ρ).bind cN))
  (bg (fun ρ=>((fun ρ=>af ρ 0) ρ).bind jC) (aN 3)
  (ifP (asB (fun ρ=>((aa (aH (bb [none,some 1] (fun ρ=>((ag iR (fun ρ=>af ρ 0) (fun ρ=>af ρ 3)) ρ).bind a8) (aN 0) cG (ag (fK false) (fun ρ=>af ρ 0) (fun ρ=>bT ρ 1)))) (fun _=>M.ret [])) ρ).bind eQ))
  (fU 1 (fun ρ=>af ρ 3) (fun _=>M.ret (.bl true)))
  (fun ρ=>M.ret (.nx ρ))))) 1000)
  (a7 (fun ρ=>af ρ 1)))))
noncomputable def F_found_open:List PV→M PV:=fnP 1 4 m_found_open
noncomputable def m_open_ways:ah→M Fl:=(av (pS 3)
  (av (bg (fun ρ=>((ag ixO (fun ρ=>af ρ 0) (fun _=>M.ret (.int 0))) ρ).bind a8) (aN 4)
  (av (aA 5 (fun ρ=>((aa (fun ρ=>af ρ 1) (aa (fun ρ=>af ρ 4) (aa (fun ρ=>af ρ 2) (fun _=>M.ret [])))) ρ).bind F_others_asked))
  (ifP (asB (ag (isO true) (fun ρ=>af ρ 5) (fun _=>M.ret .non)))
  (fU 3 (ag ixO (fun ρ=>af ρ 4) (fun _=>M.ret (.int 0))) (fun ρ=>af ρ 5))
  (fun ρ=>M.ret (.nx ρ)))))
  (av (mU (aA 6 (fun ρ=>((aa (fun ρ=>af ρ 3) (fun _=>M.ret [])) ρ).bind F_found_open)))
  (a7 (fun ρ=>((aa (aH (bb [none,some 6] (fun ρ=>((ag ixO (fun ρ=>af ρ 0) (fun _=>M.ret (.int 0))) ρ).bind a8) (aN 0) (asB (ag (fK false) (ag ixO (fun ρ=>af ρ 0) (fun _=>M.ret (.int 0))) (fun ρ=>af ρ 1))) (ag ixO (fun ρ=>af ρ 0) (fun _=>M.ret (.int 0))))) (fun _=>M.ret [])) ρ).bind eS)))))
noncomputable def F_open_ways:List PV→M PV:=fnP 3 7 m_open_ways
noncomputable def m_why_shut:ah→M Fl:=(av (aA 4 (fun ρ=>((aa (fun ρ=>af ρ 0) (aa (fun ρ=>af ρ 2) (fun _=>M.ret []))) ρ).bind F_way_named))
  (av (aA 5 (fun ρ=>((aa (fun ρ=>af ρ 0) (aa (fun ρ=>af ρ 1) (aa (fun ρ=>af ρ 3) (fun _=>M.ret [])))) ρ).bind F_open_ways))
  (av (bg (fun ρ=>((aa (fun ρ=>((aa (fun ρ=>af ρ 1) (aa (fun ρ=>af ρ 2) (aa (fun ρ=>af ρ 3) (fun _=>M.ret [])))) ρ).bind F_rules_at) (fun _=>M.ret [])) ρ).bind gL) (cR [6,7])
  (av (aA 8 (ifV (asB (ag (eqO false) (ag ixO (fun ρ=>af ρ 7) (fun _=>M.ret (.int 0))) (fun _=>M.ret (.str "with")))) (ag (inO false) (ag ixO (fun ρ=>af ρ 7) (fun _=>M.ret (.int 1))) (fun ρ=>af ρ 5)) (fun ρ=>((aa (fun ρ=>af ρ 1) (aa (fun ρ=>af ρ 4) (aa (fun ρ=>af ρ 7) (aa (fun ρ=>af ρ 3) (fun _=>M.ret []))))) ρ).bind F_holds_alone)))
  (ifP (el (asB (fun ρ=>af ρ 8)))
  (a7 (fun ρ=>af ρ 6))
  (fun ρ=>M.ret (.nx ρ)))))
  (a7 (fun _=>M.ret .non)))))
noncomputable def F_why_shut:List PV→M PV:=fnP 4 9 m_why_shut
noncomputable def m_law_word:ah→M Fl:=(av (aA 2 (fun _=>M.ret (.str "etaoinshrdlcumwfgypbvkjxqz")))
  (av (aA 3 (ag bL (fun _=>M.ret (.int 1)) (fun ρ=>((aa (fun ρ=>af ρ 0) (aa (fun _=>M.ret (.int 8)) (fun _=>M.ret []))) ρ).bind F_law_pick)))
  (av (aA 4 (bmP "str" iL (fun _=>M.ret (.str "")) (aa (aH (bb [none,some 2,some 0] (fun ρ=>((aa (fun ρ=>af ρ 3) (fun _=>M.ret [])) ρ).bind bJ) (aN 0) cG (ag ixO (fun ρ=>af ρ 1) (fun ρ=>((aa (fun ρ=>af ρ 2) (aa (fun _=>M.ret (.int 26)) (fun _=>M.ret []))) ρ).bind F_law_pick)))) (fun _=>M.ret []))))
  (a7 (ag ixO (aH (bb [none,some 1] (fun ρ=>((aH (gM (aH (fun ρ=>((aa (fun ρ=>af ρ 4) (fun _=>M.ret [])) ρ).bind aU)) (aH (bb [none,some 4] (fun ρ=>((fun ρ=>af ρ 2) ρ).bind a8) (aN 0) cG (ag bL (sl3 slE (fun ρ=>af ρ 1) (fun _=>M.ret none) (fun ρ=>((fun _=>M.ret (.int 7)) ρ).bind fun y=>(h8 y).bind fun i=>M.ret (some i))) (fun ρ=>af ρ 0)))))) ρ).bind a8) (aN 0) (asB (ag (inO true) (fun ρ=>af ρ 0) (fun ρ=>af ρ 1))) (fun ρ=>af ρ 0))) (fun _=>M.ret (.int 0)))))))
noncomputable def F_law_word:List PV→M PV:=fnP 2 5 m_law_word
noncomputable def m_law_words:ah→M Fl:=(av (de 2 (fun ρ=>((fun _=>M.ret []) ρ).bind aU))
  (av (bg (fun ρ=>((aa (fun ρ=>af ρ 1) (fun _=>M.ret [])) ρ).bind bJ) (aN 3)
  (cS 2 (fun ρ=>((aa (fun ρ=>af ρ 0) (aa (fun ρ=>bT ρ 2) (fun _=>M.ret []))) ρ).bind fun l=>(F_law_word l).bind gJ)))
  (a7 (fun ρ=>af ρ 2))))
noncomputable def F_law_words:List PV→M PV:=fnP 2 4 m_law_words
noncomputable def m_law_hill:ah→M Fl:=(av (aA 3 (fun ρ=>((aa (fun ρ=>af ρ 0) (aa (ag bL (fun _=>M.ret (.int 2)) (fun ρ=>((aa (fun ρ=>af ρ 0) (aa (fun _=>M.ret (.int 4)) (fun _=>M.ret []))) ρ).bind F_law_pick)) (fun _=>M.ret []))) ρ).bind F_law_words))
  (av (aA 4 (fun ρ=>((aa (fun ρ=>af ρ 0) (aa (ag bL (fun _=>M.ret (.int 1)) (fun ρ=>((aa (fun ρ=>af ρ 0) (aa (fun ρ=>af ρ 1) (fun _=>M.ret []))) ρ).bind F_law_pick)) (fun _=>M.ret []))) ρ).bind F_law_words))
  (av (de 5 (fun ρ=>((fun _=>M.ret []) ρ).bind aU))
  (av (bg (fun ρ=>((fun ρ=>af ρ 4) ρ).bind a8) (aN 6)
  (av (aA 7 (ag ixO (aH (fun ρ=>((aa (fun _=>M.ret (.str "slope")) (aa (fun _=>M.ret (.str "slope")) (aa (fun _=>M.ret (.str "lift")) (aa (fun _=>M.ret (.str "path")) (fun _=>M.ret []))))) ρ).bind aU)) (fun ρ=>((aa (fun ρ=>af ρ 0) (aa (fun _=>M.ret (.int 4)) (fun _=>M.ret []))) ρ).bind F_law_pick)))
  (av (aA 8 (aH (bb [none,some 3,some 0] (fun ρ=>((aa (fun _=>M.ret (.int 2)) (fun _=>M.ret [])) ρ).bind bJ) (aN 0) cG (ag ixO (fun ρ=>af ρ 1) (fun ρ=>((aa (fun ρ=>af ρ 2) (aa (fun ρ=>((aa (fun ρ=>af ρ 1) (fun _=>M.ret [])) ρ).bind cN) (fun _=>M.ret []))) ρ).bind F_law_pick)))))
  (cS 5 (fun ρ=>((aa (fun ρ=>af ρ 6) (aa (fun ρ=>af ρ 7) (aa (ag ixO (fun ρ=>af ρ 8) (fun _=>M.ret (.int 0))) (aa (ag ixO (fun ρ=>af ρ 8) (fun _=>M.ret (.int 1))) (aa (ag dZ (fun ρ=>af ρ 2) (fun ρ=>((aa (fun ρ=>af ρ 0) (aa (fun _=>M.ret (.int 8)) (fun _=>M.ret []))) ρ).bind F_law_pick)) (aa (ag dZ (fun ρ=>af ρ 2) (fun ρ=>((aa (fun ρ=>af ρ 0) (aa (fun _=>M.ret (.int 5)) (fun _=>M.ret []))) ρ).bind F_law_pick)) (fun _=>M.ret []))))))) ρ).bind aT)))))
  (a7 (fun ρ=>((aa (fun ρ=>((aa (fun ρ=>af ρ 5) (fun _=>M.ret [])) ρ).bind eS) (aa (ag ixO (fun ρ=>af ρ 3) (fun ρ=>((aa (fun ρ=>af ρ 0) (aa (fun ρ=>((aa (fun ρ=>af ρ 3) (fun _=>M.ret [])) ρ).bind cN) (fun _=>M.ret []))) ρ).bind F_law_pick)) (aa (ag dZ (fun ρ=>af ρ 2) (ag bL (fun _=>M.ret (.int 1)) (fun ρ=>((aa (fun ρ=>af ρ 0) (aa (fun _=>M.ret (.int 30)) (fun _=>M.ret []))) ρ).bind F_law_pick))) (fun _=>M.ret [])))) ρ).bind aT))))))
noncomputable def F_law_hill:List PV→M PV:=fnP 3 9 m_law_hill
noncomputable def m_law_moment:ah→M Fl:=(a7 (fun ρ=>((aa (ag ixO (fun ρ=>af ρ 1) (fun _=>M.ret (.int 2))) (aa (fun ρ=>((aa (fun _=>M.ret (.int 0)) (aa (ag bL (ag dZ (fun ρ=>af ρ 2) (fun ρ=>((aa (fun ρ=>af ρ 0) (aa (fun _=>M.ret (.int 31)) (fun _=>M.ret []))) ρ).bind F_law_pick)) (ag ixO (aH (fun ρ=>((aa (fun _=>M.ret (.int 0)) (aa (fun _=>M.ret (.int 0)) (aa (fun _=>M.ret (.int 1)) (aa (fun ρ=>((fun _=>M.ret (.int 1)) ρ).bind fF) (fun _=>M.ret []))))) ρ).bind aU)) (fun ρ=>((aa (fun ρ=>af ρ 0) (aa (fun _=>M.ret (.int 4)) (fun _=>M.ret []))) ρ).bind F_law_pick))) (fun _=>M.ret []))) ρ).bind iJ) (fun _=>M.ret []))) ρ).bind fP))
noncomputable def F_law_moment:List PV→M PV:=fnP 3 3 m_law_moment
noncomputable def m_law_rule:ah→M Fl:=(av (aA 4 (fun ρ=>((aa (fun ρ=>af ρ 0) (aa (fun _=>M.ret (.int 12)) (fun _=>M.ret []))) ρ).bind F_law_pick))
  (av (aA 5 (ag ixO (fun ρ=>af ρ 2) (fun ρ=>((aa (fun ρ=>af ρ 0) (aa (fun ρ=>((aa (fun ρ=>af ρ 2) (fun _=>M.ret [])) ρ).bind cN) (fun _=>M.ret []))) ρ).bind F_law_pick)))
  (av (aA 6 (ag gX (fun ρ=>((aa (fun ρ=>af ρ 0) (aa (fun _=>M.ret (.int 7)) (fun _=>M.ret []))) ρ).bind F_law_pick) (fun _=>M.ret (.int 3))))
  (av (jU 7 8 (aa (ag dZ (fun ρ=>af ρ 3) (fun ρ=>((aa (fun ρ=>af ρ 0) (aa (fun _=>M.ret (.int 31)) (fun _=>M.ret []))) ρ).bind F_law_pick)) (aa (ag gX (ag bL (ag dZ (fun ρ=>af ρ 3) (ag bL (fun _=>M.ret (.int 1)) (fun ρ=>((aa (fun ρ=>af ρ 0) (aa (fun _=>M.ret (.int 12)) (fun _=>M.ret []))) ρ).bind F_law_pick))) (fun ρ=>((aa (fun ρ=>af ρ 0) (aa (fun _=>M.ret (.int 3)) (fun _=>M.ret []))) ρ).bind F_law_pick)) (fun _=>M.ret (.int 1))) (fun _=>M.ret []))))
  (av (aA 9 (ag ixO (ag ixO (ag ixO (fun ρ=>af ρ 1) (fun _=>M.ret (.int 0))) (fun ρ=>((aa (fun ρ=>af ρ 0) (aa (fun ρ=>((aa (ag ixO (fun ρ=>af ρ 1) (fun _=>M.ret (.int 0))) (fun _=>M.ret [])) ρ).bind cN) (fun _=>M.ret []))) ρ).bind F_law_pick)) (fun _=>M.ret (.int 0))))
  (av (ifP (asB (ag ltO (fun ρ=>af ρ 4) (fun _=>M.ret (.int 3))))
  (a7 (fun ρ=>((aa (fun _=>M.ret (.str "hours")) (aa (fun ρ=>af ρ 7) (aa (fun ρ=>((aa (fun _=>M.ret (.int 1000001)) (aa (ag bL (fun ρ=>af ρ 7) (fun ρ=>((aa (fun _=>M.ret (.int 1)) (aa (fun ρ=>af ρ 8) (fun _=>M.ret []))) ρ).bind iJ)) (fun _=>M.ret []))) ρ).bind fP) (fun _=>M.ret [])))) ρ).bind aT))
  (fun ρ=>M.ret (.nx ρ)))
  (av (ifP (asB (ag ltO (fun ρ=>af ρ 4) (fun _=>M.ret (.int 8))))
  (a7 (ag ixO (aH (fun ρ=>((aa (fun ρ=>((aa (fun _=>M.ret (.str "least")) (aa (fun ρ=>af ρ 5) (aa (fun ρ=>af ρ 6) (fun _=>M.ret [])))) ρ).bind aT) (aa (fun ρ=>((aa (fun _=>M.ret (.str "most")) (aa (fun ρ=>af ρ 5) (aa (fun ρ=>af ρ 6) (fun _=>M.ret [])))) ρ).bind aT) (fun _=>M.ret []))) ρ).bind aU)) (ag hW (fun ρ=>af ρ 4) (fun _=>M.ret (.int 2)))))
  (fun ρ=>M.ret (.nx ρ)))
  (av (ifP (asB (ag ltO (fun ρ=>af ρ 4) (fun _=>M.ret (.int 10))))
  (a7 (fun ρ=>((aa (fun _=>M.ret (.str "looked")) (aa (fun ρ=>((aa (fun _=>M.ret (.int 1)) (aa (fun ρ=>af ρ 8) (fun _=>M.ret []))) ρ).bind iJ) (fun _=>M.ret []))) ρ).bind aT))
  (fun ρ=>M.ret (.nx ρ)))
  (a7 (ag ixO (aH (fun ρ=>((aa (fun ρ=>((aa (fun _=>M.ret (.str "with")) (aa (fun ρ=>af ρ 9) (fun _=>M.ret []))) ρ).bind aT) (aa (fun ρ=>((aa (fun _=>M.ret (.str "never")) (fun _=>M.ret [])) ρ).bind aT) (fun _=>M.ret []))) ρ).bind aU)) (fun ρ=>((aa (cO (ag (eqO false) (fun ρ=>af ρ 4) (fun _=>M.ret (.int 11))) (ag gtO (fun ρ=>af ρ 6) (fun _=>M.ret (.int 0)))) (fun _=>M.ret [])) ρ).bind i9)))))))))))
noncomputable def F_law_rule:List PV→M PV:=fnP 4 10 m_law_rule
noncomputable def m_law_number:ah→M Fl:=(av (aA 2 (fun ρ=>((aa (fun ρ=>af ρ 0) (aa (ag ixO (aH (fun ρ=>((aa (fun _=>M.ret (.int 20)) (aa (fun _=>M.ret (.int 1000000)) (fun _=>M.ret []))) ρ).bind aU)) (fun ρ=>((aa (fun ρ=>af ρ 0) (aa (fun _=>M.ret (.int 2)) (fun _=>M.ret []))) ρ).bind F_law_pick)) (fun _=>M.ret []))) ρ).bind F_law_pick))
  (av (aA 3 (aH (bb [none,some 2] (fun ρ=>((aa (fun _=>M.ret (.int 70)) (fun _=>M.ret [])) ρ).bind bJ) (aN 0) cG (ag hW (ag bL (fun ρ=>af ρ 1) (fun ρ=>af ρ 0)) (fun _=>M.ret (.int 1000000))))))
  (a7 (ag ixO (aH (bb [none,some 1] (fun ρ=>((fun ρ=>af ρ 3) ρ).bind a8) (aN 0) (asB (ag (inO true) (fun ρ=>af ρ 0) (fun ρ=>af ρ 1))) (fun ρ=>af ρ 0))) (fun _=>M.ret (.int 0))))))
noncomputable def F_law_number:List PV→M PV:=fnP 2 4 m_law_number
noncomputable def m_law_pages:ah→M Fl:=(av (aA 4 (aH (gM (fun ρ=>((aa (fun ρ=>af ρ 0) (aa (ag bL (fun _=>M.ret (.int 1)) (fun ρ=>((aa (fun ρ=>af ρ 0) (aa (fun _=>M.ret (.int 3)) (fun _=>M.ret []))) ρ).bind F_law_pick)) (fun _=>M.ret []))) ρ).bind F_law_words) (ag dZ (aH (fun ρ=>((aa (ag ixO (ag ixO (ag ixO (fun ρ=>af ρ 1) (fun _=>M.ret (.int 0))) (fun _=>M.ret (.int 0))) (fun _=>M.ret (.int 0))) (fun _=>M.ret [])) ρ).bind aU)) (fun ρ=>((aa (fun ρ=>af ρ 0) (aa (fun _=>M.ret (.int 2)) (fun _=>M.ret []))) ρ).bind F_law_pick)))))
  (av (aA 5 (aH (bb [none] (fun ρ=>((ag ixO (fun ρ=>af ρ 1) (fun _=>M.ret (.int 0))) ρ).bind a8) (aN 0) (asB (ag (eqO false) (ag ixO (fun ρ=>af ρ 0) (fun _=>M.ret (.int 1))) (fun _=>M.ret (.str "slope")))) (ag ixO (fun ρ=>af ρ 0) (fun _=>M.ret (.int 0))))))
  (av (de 6 (fun ρ=>((fun _=>M.ret []) ρ).bind aU))
  (av (de 7 (fun ρ=>((fun _=>M.ret []) ρ).bind aU))
  (av (bg (fun ρ=>((aa (fun ρ=>af ρ 3) (fun _=>M.ret [])) ρ).bind bJ) (aN 8)
  (av (aA 9 (fun ρ=>((aa (fun ρ=>af ρ 0) (aa (fun _=>M.ret (.int 8)) (fun _=>M.ret []))) ρ).bind F_law_pick))
  (av (aA 10 (ag dZ (fun ρ=>((aa (fun ρ=>af ρ 0) (aa (fun ρ=>af ρ 1) (aa (fun ρ=>af ρ 2) (fun _=>M.ret [])))) ρ).bind F_law_moment) (fun ρ=>((aa (ag gtO (fun ρ=>((aa (fun ρ=>af ρ 0) (aa (fun _=>M.ret (.int 3)) (fun _=>M.ret []))) ρ).bind F_law_pick) (fun _=>M.ret (.int 0))) (fun _=>M.ret [])) ρ).bind i9)))
  (av (cS 7 (fun ρ=>((aa (fun ρ=>af ρ 0) (aa (fun ρ=>bT ρ 7) (fun _=>M.ret []))) ρ).bind fun l=>(F_law_number l).bind gJ))
  (ifP (asB (ag ltO (fun ρ=>af ρ 9) (fun _=>M.ret (.int 3))))
  (av (aA 11 (ag ixO (ag ixO (ag ixO (fun ρ=>af ρ 1) (fun _=>M.ret (.int 0))) (fun ρ=>((aa (fun ρ=>af ρ 0) (aa (fun ρ=>((aa (ag ixO (fun ρ=>af ρ 1) (fun _=>M.ret (.int 0))) (fun _=>M.ret [])) ρ).bind cN) (fun _=>M.ret []))) ρ).bind F_law_pick)) (fun _=>M.ret (.int 0))))
  (av (aA 12 (ag ixO (aH (fun ρ=>((aa (fun _=>M.ret (.int 0)) (aa (fun _=>M.ret (.int 1)) (aa (fun _=>M.ret (.int 1)) (aa (fun _=>M.ret (.int 1)) (aa (fun _=>M.ret (.int 2)) (aa (fun _=>M.ret (.int 2)) (aa (fun _=>M.ret (.int 3)) (aa (fun _=>M.ret (.int 6)) (fun _=>M.ret []))))))))) ρ).bind aU)) (fun ρ=>((aa (fun ρ=>af ρ 0) (aa (fun _=>M.ret (.int 8)) (fun _=>M.ret []))) ρ).bind F_law_pick)))
  (av (aA 13 (aH (bb [none,some 0,some 1,some 4,some 2] (fun ρ=>((aa (fun ρ=>af ρ 12) (fun _=>M.ret [])) ρ).bind bJ) (aN 0) cG (fun ρ=>((aa (fun ρ=>af ρ 1) (aa (fun ρ=>af ρ 2) (aa (fun ρ=>af ρ 3) (aa (fun ρ=>af ρ 4) (fun _=>M.ret []))))) ρ).bind F_law_rule))))
  (cS 6 (fun ρ=>((aa (fun _=>M.ret (.str "rule")) (aa (ag ixO (fun ρ=>bT ρ 7) (fun ρ=>((fun _=>M.ret (.int 1)) ρ).bind fF)) (aa (fun ρ=>af ρ 10) (aa (fun ρ=>af ρ 11) (aa (fun ρ=>((aa (fun ρ=>af ρ 13) (fun _=>M.ret [])) ρ).bind eS) (fun _=>M.ret [])))))) ρ).bind aT)))))
  (ifP (orP (asB (ag ltO (fun ρ=>af ρ 9) (fun _=>M.ret (.int 6)))) (asB (ag (eqO false) (fun ρ=>af ρ 5) (aH (fun ρ=>((fun _=>M.ret []) ρ).bind aU)))))
  (av (aA 14 (ag dZ (ag gX (fun ρ=>((aa (fun ρ=>af ρ 0) (aa (fun _=>M.ret (.int 7)) (fun _=>M.ret []))) ρ).bind F_law_pick) (fun _=>M.ret (.int 3))) (ag ixO (aH (fun ρ=>((aa (fun _=>M.ret (.int 1)) (aa (fun _=>M.ret (.int 1)) (aa (fun _=>M.ret (.int 1)) (aa (ag mm (fun _=>M.ret (.int 10)) (fun _=>M.ret (.int 50))) (fun _=>M.ret []))))) ρ).bind aU)) (fun ρ=>((aa (fun ρ=>af ρ 0) (aa (fun _=>M.ret (.int 4)) (fun _=>M.ret []))) ρ).bind F_law_pick))))
  (cS 6 (fun ρ=>((aa (fun _=>M.ret (.str "read")) (aa (ag ixO (fun ρ=>bT ρ 7) (fun ρ=>((fun _=>M.ret (.int 1)) ρ).bind fF)) (aa (fun ρ=>af ρ 10) (aa (ag ixO (fun ρ=>af ρ 4) (fun ρ=>((aa (fun ρ=>af ρ 0) (aa (fun ρ=>((aa (fun ρ=>af ρ 4) (fun _=>M.ret [])) ρ).bind cN) (fun _=>M.ret []))) ρ).bind F_law_pick)) (aa (fun ρ=>af ρ 14) (fun _=>M.ret [])))))) ρ).bind aT)))
  (cS 6 (fun ρ=>((aa (fun _=>M.ret (.str "look")) (aa (ag ixO (fun ρ=>bT ρ 7) (fun ρ=>((fun _=>M.ret (.int 1)) ρ).bind fF)) (aa (fun ρ=>af ρ 10) (aa (ag ixO (fun ρ=>af ρ 5) (fun ρ=>((aa (fun ρ=>af ρ 0) (aa (fun ρ=>((aa (fun ρ=>af ρ 5) (fun _=>M.ret [])) ρ).bind cN) (fun _=>M.ret []))) ρ).bind F_law_pick)) (fun _=>M.ret []))))) ρ).bind aT))))))))
  (a7 (fun ρ=>af ρ 6)))))))
noncomputable def F_law_pages:List PV→M PV:=fnP 4 15 m_law_pages
noncomputable def m_law_book:ah→M Fl:=(a7 (fun ρ=>((aa (aH (fun ρ=>((fun ρ=>af ρ 0) ρ).bind iy)) (fun _=>M.ret [])) ρ).bind eS))
noncomputable def F_law_book:List PV→M PV:=fnP 1 1 m_law_book
noncomputable def m_law_page:ah→M Fl:=(av (aA 4 (aH (bb [none,some 1,some 2,some 3] (fun ρ=>((fun ρ=>af ρ 0) ρ).bind a8) (aN 0) (fk (asB (ag (eqO false) (ag ixO (fun ρ=>af ρ 0) (fun _=>M.ret (.int 0))) (fun ρ=>af ρ 1))) (fk (asB (ag (eqO false) (ag ixO (fun ρ=>af ρ 0) (fun _=>M.ret (.int 3))) (fun ρ=>af ρ 2))) (asB (ag eV (ag ixO (fun ρ=>af ρ 0) (fun _=>M.ret (.int 2))) (fun ρ=>af ρ 3))))) (fun ρ=>af ρ 0))))
  (a7 (fun ρ=>((fun ρ=>af ρ 4) ρ).bind j5)))
noncomputable def F_law_page:List PV→M PV:=fnP 4 5 m_law_page
noncomputable def m_law_holds:ah→M Fl:=(av (ifP (asB (ag (eqO false) (ag ixO (fun ρ=>af ρ 2) (fun _=>M.ret (.int 0))) (fun _=>M.ret (.str "hours"))))
  (a7 (chain eV ltO (ag ixO (fun ρ=>af ρ 2) (fun _=>M.ret (.int 1))) (fun ρ=>af ρ 3) (ag ixO (fun ρ=>af ρ 2) (fun _=>M.ret (.int 2)))))
  (fun ρ=>M.ret (.nx ρ)))
  (av (ifP (asB (ag (eqO false) (ag ixO (fun ρ=>af ρ 2) (fun _=>M.ret (.int 0))) (fun _=>M.ret (.str "looked"))))
  (av (aA 5 (fun ρ=>((aa (fun ρ=>af ρ 0) (aa (fun _=>M.ret (.str "look")) (aa (fun ρ=>af ρ 1) (aa (fun ρ=>af ρ 3) (fun _=>M.ret []))))) ρ).bind F_law_page))
  (a7 (cO (ag (isO true) (fun ρ=>af ρ 5) (fun _=>M.ret .non)) (ag ltO (fun ρ=>af ρ 3) (ag bL (ag ixO (fun ρ=>af ρ 5) (fun _=>M.ret (.int 2))) (ag ixO (fun ρ=>af ρ 2) (fun _=>M.ret (.int 1))))))))
  (fun ρ=>M.ret (.nx ρ)))
  (av (ifP (asB (ag (inO false) (ag ixO (fun ρ=>af ρ 2) (fun _=>M.ret (.int 0))) (fun ρ=>((aa (fun _=>M.ret (.str "least")) (aa (fun _=>M.ret (.str "most")) (fun _=>M.ret []))) ρ).bind aT)))
  (av (aA 6 (fun ρ=>((aa (fun ρ=>af ρ 0) (aa (fun _=>M.ret (.str "read")) (aa (ag ixO (fun ρ=>af ρ 2) (fun _=>M.ret (.int 1))) (aa (fun ρ=>af ρ 3) (fun _=>M.ret []))))) ρ).bind F_law_page))
  (av (ifP (asB (ag (isO false) (fun ρ=>af ρ 6) (fun _=>M.ret .non)))
  (a7 (fun _=>M.ret (.bl false)))
  (fun ρ=>M.ret (.nx ρ)))
  (a7 (ifV (asB (ag (eqO false) (ag ixO (fun ρ=>af ρ 2) (fun _=>M.ret (.int 0))) (fun _=>M.ret (.str "least")))) (ag geO (ag ixO (fun ρ=>af ρ 6) (fun _=>M.ret (.int 4))) (ag ixO (fun ρ=>af ρ 2) (fun _=>M.ret (.int 2)))) (ag eV (ag ixO (fun ρ=>af ρ 6) (fun _=>M.ret (.int 4))) (ag ixO (fun ρ=>af ρ 2) (fun _=>M.ret (.int 2))))))))
  (fun ρ=>M.ret (.nx ρ)))
  (a7 (cO (ag (eqO false) (ag ixO (fun ρ=>af ρ 2) (fun _=>M.ret (.int 0))) (fun _=>M.ret (.str "with"))) (ag (inO false) (ag ixO (fun ρ=>af ρ 2) (fun _=>M.ret (.int 1))) (fun ρ=>af ρ 4)))))))
noncomputable def F_law_holds:List PV→M PV:=fnP 5 7 m_law_holds
noncomputable def m_law_rules:ah→M Fl:=(av (aA 3 (fun ρ=>((aa (fun ρ=>af ρ 0) (aa (fun _=>M.ret (.str "rule")) (aa (fun ρ=>af ρ 1) (aa (fun ρ=>af ρ 2) (fun _=>M.ret []))))) ρ).bind F_law_page))
  (a7 (ifV (asB (ag (isO false) (fun ρ=>af ρ 3) (fun _=>M.ret .non))) (fun ρ=>((fun _=>M.ret []) ρ).bind aT) (ag ixO (fun ρ=>af ρ 3) (fun _=>M.ret (.int 4))))))
noncomputable def F_law_rules:List PV→M PV:=fnP 3 4 m_law_rules
noncomputable def m_law_open:ah→M Fl:=(av (aA 3 (aH (bb [none,some 1,some 2] (fun ρ=>((ag ixO (fun ρ=>af ρ 0) (fun _=>M.ret (.int 0))) ρ).bind a8) (aN 0) cG (fun ρ=>((aa (ag ixO (fun ρ=>af ρ 0) (fun _=>M.ret (.int 0))) (aa (fun ρ=>((aa (fun ρ=>af ρ 1) (aa (ag ixO (fun ρ=>af ρ 0) (fun _=>M.ret (.int 0))) (aa (fun ρ=>af ρ 2) (fun _=>M.ret [])))) ρ).bind F_law_rules) (fun _=>M.ret []))) ρ).bind aT))))
  (av (aA 4 (fun _=>M.ret .non))
  (av (de 5 (fun ρ=>((fun _=>M.ret []) ρ).bind aU))
  (av (whP (asB (ag (eqO true) (fun ρ=>af ρ 4) (fun ρ=>bT ρ 5))) (av (mU (aA 4 (fun ρ=>af ρ 5)))
  (av (de 5 (fun ρ=>((fun _=>M.ret []) ρ).bind aU))
  (bg (fun ρ=>((fun ρ=>af ρ 3) ρ).bind a8) (cR [6,7])
  (ifP (asB (fun ρ=>((aa (aH (bb [none,some 1,some 6,some 2,some 4] (fun ρ=>((fun ρ=>af ρ 7) ρ).bind a8) (aN 0) cG (fun ρ=>((aa (fun ρ=>af ρ 1) (aa (fun ρ=>af ρ 2) (aa (fun ρ=>af ρ 0) (aa (fun ρ=>af ρ 3) (aa (fun ρ=>af ρ 4) (fun _=>M.ret [])))))) ρ).bind F_law_holds))) (fun _=>M.ret [])) ρ).bind eQ))
  (cS 5 (fun ρ=>af ρ 6))
  (fun ρ=>M.ret (.nx ρ)))))) 1000)
  (a7 (fun ρ=>af ρ 5))))))
noncomputable def F_law_open:List PV→M PV:=fnP 3 8 m_law_open
noncomputable def m_law_why:ah→M Fl:=(av (aA 4 (fun ρ=>((aa (fun ρ=>af ρ 0) (aa (fun ρ=>af ρ 1) (aa (fun ρ=>af ρ 3) (fun _=>M.ret [])))) ρ).bind F_law_open))
  (av (aA 5 (aH (bb [none,none,some 1,some 2,some 3,some 4] (fun ρ=>((aa (fun ρ=>((aa (fun ρ=>af ρ 1) (aa (fun ρ=>af ρ 2) (aa (fun ρ=>af ρ 3) (fun _=>M.ret [])))) ρ).bind F_law_rules) (fun _=>M.ret [])) ρ).bind gL) (cR [0,1]) (el (asB (fun ρ=>((aa (fun ρ=>af ρ 2) (aa (fun ρ=>af ρ 3) (aa (fun ρ=>af ρ 1) (aa (fun ρ=>af ρ 4) (aa (fun ρ=>af ρ 5) (fun _=>M.ret [])))))) ρ).bind F_law_holds))) (fun ρ=>af ρ 0))))
  (a7 (ifV (asB (ag (eqO true) (fun ρ=>af ρ 5) (aH (fun ρ=>((fun _=>M.ret []) ρ).bind aU)))) (ag ixO (fun ρ=>af ρ 5) (fun _=>M.ret (.int 0))) (fun _=>M.ret .non)))))
noncomputable def F_law_why:List PV→M PV:=fnP 4 6 m_law_why
noncomputable def m_law_right:ah→M Fl:=(av (aA 3 (fun ρ=>((aa (fun ρ=>af ρ 1) (fun _=>M.ret [])) ρ).bind F_law_book))
  (av (aA 4 (fun ρ=>((aa (fun ρ=>af ρ 0) (aa (fun ρ=>af ρ 3) (aa (fun ρ=>af ρ 2) (fun _=>M.ret [])))) ρ).bind F_open_ways))
  (av (bg (fun ρ=>((ag ixO (fun ρ=>af ρ 0) (fun _=>M.ret (.int 0))) ρ).bind a8) (aN 5)
  (av (aA 6 (fun ρ=>((aa (fun ρ=>af ρ 0) (aa (fun ρ=>af ρ 1) (aa (ag ixO (fun ρ=>af ρ 5) (fun _=>M.ret (.int 0))) (aa (fun ρ=>af ρ 2) (fun _=>M.ret []))))) ρ).bind F_law_why))
  (ifP (orP (asB (ag (eqO true) (fun ρ=>((aa (fun ρ=>((aa (fun ρ=>af ρ 0) (aa (fun ρ=>af ρ 3) (aa (ag ixO (fun ρ=>af ρ 5) (fun _=>M.ret (.int 0))) (aa (fun ρ=>af ρ 2) (fun _=>M.ret []))))) ρ).bind F_why_shut) (fun _=>M.ret [])) ρ).bind fm) (fun ρ=>((aa (fun ρ=>af ρ 6) (fun _=>M.ret [])) ρ).bind fm))) (asB (ag (eqO true) (ag (inO false) (ag ixO (fun ρ=>af ρ 5) (fun _=>M.ret (.int 0))) (fun ρ=>af ρ 4)) (ag (isO false) (fun ρ=>af ρ 6) (fun _=>M.ret .non)))))
  (a7 (fun _=>M.ret (.bl false)))
  (fun ρ=>M.ret (.nx ρ)))))
  (a7 (fun _=>M.ret (.bl true))))))
noncomputable def F_law_right:List PV→M PV:=fnP 3 7 m_law_right
noncomputable def m_law_six:ah→M Fl:=(av (jU 2 3 (aa (ag bL (fun _=>M.ret (.int 1)) (fun ρ=>((aa (fun ρ=>af ρ 0) (aa (fun _=>M.ret (.int 9)) (fun _=>M.ret []))) ρ).bind F_law_pick)) (aa (ag gX (fun _=>M.ret (.int 5)) (fun ρ=>((aa (fun ρ=>af ρ 0) (aa (fun _=>M.ret (.int 3)) (fun _=>M.ret []))) ρ).bind F_law_pick)) (fun _=>M.ret []))))
  (av (aA 4 (aH (fun ρ=>((aa (fun ρ=>((aa (fun _=>M.ret (.str "hours")) (aa (fun _=>M.ret (.int 0)) (aa (fun ρ=>af ρ 2) (fun _=>M.ret [])))) ρ).bind aT) (aa (fun ρ=>((aa (fun _=>M.ret (.str "least")) (aa (fun _=>M.ret (.str "depth")) (aa (fun ρ=>af ρ 3) (fun _=>M.ret [])))) ρ).bind aT) (aa (fun ρ=>((aa (fun _=>M.ret (.str "most")) (aa (fun _=>M.ret (.str "depth")) (aa (fun _=>M.ret (.int 5)) (fun _=>M.ret [])))) ρ).bind aT) (fun _=>M.ret [])))) ρ).bind aU)))
  (av (de 5 (fun ρ=>((aa (fun ρ=>((aa (fun _=>M.ret (.str "hours")) (aa (fun _=>M.ret (.int 1)) (aa (fun _=>M.ret (.int 9)) (fun _=>M.ret [])))) ρ).bind aT) (aa (fun ρ=>((aa (fun _=>M.ret (.str "least")) (aa (fun _=>M.ret (.str "depth")) (aa (fun _=>M.ret (.int 6)) (fun _=>M.ret [])))) ρ).bind aT) (aa (fun ρ=>((aa (fun _=>M.ret (.str "most")) (aa (fun _=>M.ret (.str "depth")) (aa (fun _=>M.ret (.int 4)) (fun _=>M.ret [])))) ρ).bind aT) (aa (fun ρ=>((aa (fun _=>M.ret (.str "never")) (fun _=>M.ret [])) ρ).bind aT) (aa (fun ρ=>((aa (fun _=>M.ret (.str "looked")) (aa (fun _=>M.ret (.int 3)) (fun _=>M.ret []))) ρ).bind aT) (fun _=>M.ret [])))))) ρ).bind aU))
  (av (cS 5 (fun ρ=>((aa (fun _=>M.ret (.str "least")) (aa (fun _=>M.ret (.str "wind")) (aa (fun _=>M.ret (.int 0)) (fun _=>M.ret [])))) ρ).bind aT))
  (av (de 6 (bb [none,some 4,some 0] (fun ρ=>((aa (fun _=>M.ret (.int 6)) (fun _=>M.ret [])) ρ).bind bJ) (aN 0) cG (ag ixO (fun ρ=>af ρ 1) (fun ρ=>((aa (fun ρ=>af ρ 2) (aa (fun _=>M.ret (.int 3)) (fun _=>M.ret []))) ρ).bind F_law_pick))))
  (av (bg (fun ρ=>((aa (fun ρ=>((aa (fun ρ=>af ρ 0) (aa (fun _=>M.ret (.int 3)) (fun _=>M.ret []))) ρ).bind F_law_pick) (fun _=>M.ret [])) ρ).bind bJ) (aN 7)
  (jo 6 (fun ρ=>((aa (fun ρ=>af ρ 0) (aa (fun _=>M.ret (.int 6)) (fun _=>M.ret []))) ρ).bind F_law_pick) (ag ixO (fun ρ=>bT ρ 5) (fun ρ=>((aa (fun ρ=>af ρ 0) (aa (fun _=>M.ret (.int 6)) (fun _=>M.ret []))) ρ).bind F_law_pick))))
  (a7 (aH (fun ρ=>((aa (fun ρ=>((aa (fun _=>M.ret (.str "rule")) (aa (fun _=>M.ret (.int 999999)) (aa (fun _=>M.ret (.int 0)) (aa (ag ixO (ag ixO (ag ixO (fun ρ=>af ρ 1) (fun _=>M.ret (.int 0))) (fun _=>M.ret (.int 0))) (fun _=>M.ret (.int 0))) (aa (fun ρ=>((aa (fun ρ=>af ρ 6) (fun _=>M.ret [])) ρ).bind eS) (fun _=>M.ret [])))))) ρ).bind aT) (aa (fun ρ=>((aa (fun _=>M.ret (.str "read")) (aa (fun _=>M.ret (.int 999998)) (aa (fun _=>M.ret (.int 0)) (aa (fun _=>M.ret (.str "depth")) (aa (fun _=>M.ret (.int 5)) (fun _=>M.ret [])))))) ρ).bind aT) (fun _=>M.ret []))) ρ).bind aU)))))))))
noncomputable def F_law_six:List PV→M PV:=fnP 2 8 m_law_six
noncomputable def fQ:ah→M Fl:=(av (aA 2 (ag ixO (aH (fun ρ=>((aa (fun _=>M.ret (.int 1)) (aa (fun _=>M.ret (.int 7)) (aa (fun _=>M.ret (.int 33333)) (fun _=>M.ret [])))) ρ).bind aU)) (fun ρ=>((aa (fun ρ=>af ρ 1) (aa (fun _=>M.ret (.int 3)) (fun _=>M.ret []))) ρ).bind F_law_pick)))
  (av (aA 3 (fun ρ=>((aa (fun ρ=>af ρ 1) (aa (fun _=>M.ret (.int 6)) (aa (fun ρ=>af ρ 2) (fun _=>M.ret [])))) ρ).bind F_law_hill))
  (av (aA 4 (fun ρ=>((aa (fun ρ=>af ρ 1) (aa (fun ρ=>af ρ 3) (fun _=>M.ret []))) ρ).bind F_law_six))
  (av (aA 5 (fun ρ=>((aa (fun ρ=>af ρ 1) (aa (fun ρ=>af ρ 3) (aa (fun ρ=>af ρ 2) (aa (fun ρ=>((aa (fun ρ=>af ρ 1) (aa (fun _=>M.ret (.int 15)) (fun _=>M.ret []))) ρ).bind F_law_pick) (fun _=>M.ret []))))) ρ).bind F_law_pages))
  (av (bg (fun ρ=>((aH (gM (sl3 slE (fun ρ=>af ρ 5) (fun _=>M.ret none) (fun ρ=>((fun _=>M.ret (.int 5)) ρ).bind fun y=>(h8 y).bind fun i=>M.ret (some i))) (aH (fun ρ=>((aa (fun ρ=>((aa (fun _=>M.ret (.str "")) (aa (fun _=>M.ret (.int 0)) (aa (fun _=>M.ret (.int 0)) (fun _=>M.ret [])))) ρ).bind aT) (aa (fun ρ=>((aa (fun _=>M.ret (.str "")) (aa (fun _=>M.ret (.int 0)) (aa (ag ixO (fun ρ=>af ρ 3) (fun _=>M.ret (.int 2))) (fun _=>M.ret [])))) ρ).bind aT) (fun _=>M.ret []))) ρ).bind aU)))) ρ).bind a8) (aN 6)
  (ifP (orP (el (asB (fun ρ=>((aa (fun ρ=>af ρ 3) (aa (fun ρ=>af ρ 5) (aa (ag ixO (fun ρ=>af ρ 6) (fun _=>M.ret (.int 2))) (fun _=>M.ret [])))) ρ).bind F_law_right))) (el (asB (fun ρ=>((aa (fun ρ=>af ρ 3) (aa (fun ρ=>af ρ 5) (aa (fun ρ=>((aa (ag ixO (fun ρ=>af ρ 3) (fun _=>M.ret (.int 2))) (aa (ag bL (ag ixO (fun ρ=>af ρ 6) (fun _=>M.ret (.int 2))) (fun _=>M.ret (.int 1))) (fun _=>M.ret []))) ρ).bind fP) (fun _=>M.ret [])))) ρ).bind F_law_right))))
  (a7 (fun _=>M.ret (.bl false)))
  (fun ρ=>M.ret (.nx ρ))))
  (a7 (cO (fun ρ=>((aa (fun ρ=>af ρ 3) (aa (fun ρ=>af ρ 4) (aa (fun _=>M.ret (.int 0)) (fun _=>M.ret [])))) ρ).bind F_law_right) (cO (fun ρ=>((aa (fun ρ=>af ρ 3) (aa (fun ρ=>((aa (fun ρ=>af ρ 1) (aa (fun ρ=>af ρ 3) (fun _=>M.ret []))) ρ).bind F_law_six) (aa (fun _=>M.ret (.int 0)) (fun _=>M.ret [])))) ρ).bind F_law_right) (fun ρ=>((aa (fun ρ=>af ρ 3) (aa (fun ρ=>af ρ 4) (aa (fun _=>M.ret (.int 0)) (fun _=>M.ret [])))) ρ).bind F_law_right)))))))))
section
variable {P:Program} {w:World} {K:PySem.W.Frag} {mg:Str→Option Value} {base:Heap} {a_way_named a_last_page a_reading a_rules_at a_looked_at a_post_holds a_look_holds a_holds_alone a_others_asked a_found_open a_open_ways a_why_shut awstart awpick awword awwords awhill awmoment awrule awnumber awpages awbook awpage awholds awrules awopen awwhy awright awsix a_law cb_law_book tb_law_book cb_law_page tb_law_page:Addr} {d_way_named d_last_page d_reading d_rules_at d_looked_at d_post_holds d_look_holds d_holds_alone d_others_asked d_found_open d_open_ways d_why_shut dwstart dwpick dwword dwwords dwhill dwmoment dwrule dwnumber dwpages dwbook dwpage dwholds dwrules dwopen dwwhy dwright dwsix d_law:FuncData} (T:Txt K mg a_way_named a_last_page a_reading a_rules_at a_looked_at a_post_holds a_look_holds a_holds_alone a_others_asked a_found_open a_open_ways a_why_shut awstart awpick awword awwords awhill awmoment awrule awnumber awpages awbook awpage awholds awrules awopen awwhy awright awsix a_law cb_law_book tb_law_book cb_law_page tb_law_page d_way_named d_last_page d_reading d_rules_at d_looked_at d_post_holds d_look_holds d_holds_alone d_others_asked d_found_open d_open_ways d_why_shut dwstart dwpick dwword dwwords dwhill dwmoment dwrule dwnumber dwpages dwbook dwpage dwholds dwrules dwopen dwwhy dwright dwsix d_law)
include T
theorem mC:FnOk P w K mg base CX0 1 a_way_named d_way_named ["hill","name"] (spP (aO tb_law_book tb_law_page K) F_way_named):=by
 have eb:au bW=au bW:=rfl
 conv at eb=>rhs;whnf
 have es:ak bW=ak bW:=rfl
 conv at es=>rhs;whnf
 refine bz (N:=["hill","name","way"]) (ps:=["hill","name"]) (k:=0) (m:=m_way_named) rfl T.F_way_named sc_way_named (by decide) eb es fun cdv A outer s H E hr=>?_
 unfold m_way_named
 exact(aw (d5 (dM PassesOwn.never rfl (i8 (aC ax aB (EV.b (ab 0 (bv 0))) (EV.b ao) (fun _ _=>rfl))) (dB (aW (i:=2) sc_way_named.nd rfl (Or.inl rfl))) (aF (cy (cA (aY (bV hr.units) (bS false) (EV.b (aC ax aB (EV.b (ab 2 (bv 2))) (EV.b ao) (fun _ _=>rfl))) (EV.b (ab 1 (bv 1))) (aL _)) (aF (aP (aQ (ab 2 (bv 2))))) bU)))))
  (aF (aP (aQ cB))))
theorem mK:FnOk P w K mg base CX0 1 a_last_page d_last_page ["book","kind","name","t"] (spP (aO tb_law_book tb_law_page K) F_last_page):=by
 have eb:au cg=au cg:=rfl
 conv at eb=>rhs;whnf
 have es:ak cg=ak cg:=rfl
 conv at es=>rhs;whnf
 refine bz (N:=["book","kind","name","t","found","page"]) (ps:=["book","kind","name","t"]) (k:=0) (m:=m_last_page) rfl T.F_last_page sc_last_page (by decide) eb es fun cdv A outer s H E hr=>?_
 unfold m_last_page
 exact(aw (aK (aI (i:=4) sc_last_page.nd rfl (Or.inl rfl) cB))
  (aw (d5 (dM PassesOwn.never rfl (i8 (ab 0 (bv 0))) (dB (aW (i:=5) sc_last_page.nd rfl (Or.inl rfl))) (aF (cy (cA (WV.t (jk (aY (bV hr.units) (bS false) (EV.b (aC ax aB (EV.b (ab 5 (bv 5))) (EV.b ao) (fun _ _=>rfl))) (EV.b (ab 1 (bv 1))) (aL _)) (jk (aY (bV hr.units) (bS false) (EV.b (aC ax aB (EV.b (ab 5 (bv 5))) (EV.b ao) (fun _ _=>rfl))) (EV.b (ab 2 (bv 2))) (aL _)) (oA (aY gp gm (EV.b (aC ax aB (EV.b (ab 5 (bv 5))) (EV.b ao) (fun _ _=>rfl))) (EV.b (ab 3 (bv 3))) (aL _)))))) (aF (aK (aI (i:=4) sc_last_page.nd rfl (Or.inl rfl) (ab 5 (bv 5))))) bU)))))
  (aF (aP (aQ (ab 4 (bv 4)))))))
theorem pW (G_last_page:FnOk P w K mg base CX0 1 a_last_page d_last_page ["book","kind","name","t"] (spP (aO tb_law_book tb_law_page K) F_last_page)):FnOk P w K mg base CX0 2 a_reading d_reading ["book","post","t"] (spP (aO tb_law_book tb_law_page K) F_reading):=by
 have eb:au cU=au cU:=rfl
 conv at eb=>rhs;whnf
 have es:ak cU=ak cU:=rfl
 conv at es=>rhs;whnf
 refine bz (N:=["book","post","t","page"]) (ps:=["book","post","t"]) (k:=1) (m:=m_reading) rfl T.F_reading sc_reading (by decide) eb es fun cdv A outer s H E hr=>?_
 unfold m_reading
 exact(aw (aK (aI (i:=3) sc_reading.nd rfl (Or.inl rfl) (az (ay G_last_page (hr.mono (by decide)) rfl T.m_last_page T.F_last_page.kp T.b_last_page .nil aE (by refine ae (ab 0 (bv 0)) ?_;refine ae aJ ?_;refine ae (ab 1 (bv 1)) ?_;refine ae (ab 2 (bv 2)) ?_;exact aq)))))
  (aF (aP (aQ (fR (aY fE fD (EV.b (ab 3 (bv 3))) (EV.b cB) (aL _)) cB (aC ax aB (EV.b (ab 3 (bv 3))) (EV.b ao) (fun _ _=>rfl)))))))
theorem nY (G_last_page:FnOk P w K mg base CX0 1 a_last_page d_last_page ["book","kind","name","t"] (spP (aO tb_law_book tb_law_page K) F_last_page)):FnOk P w K mg base CX0 2 a_rules_at d_rules_at ["book","w","t"] (spP (aO tb_law_book tb_law_page K) F_rules_at):=by
 have eb:au cE=au cE:=rfl
 conv at eb=>rhs;whnf
 have es:ak cE=ak cE:=rfl
 conv at es=>rhs;whnf
 refine bz (N:=["book","w","t","page"]) (ps:=["book","w","t"]) (k:=1) (m:=m_rules_at) rfl T.F_rules_at sc_rules_at (by decide) eb es fun cdv A outer s H E hr=>?_
 unfold m_rules_at
 exact(aw (aK (aI (i:=3) sc_rules_at.nd rfl (Or.inl rfl) (az (ay G_last_page (hr.mono (by decide)) rfl T.m_last_page T.F_last_page.kp T.b_last_page .nil aE (by refine ae (ab 0 (bv 0)) ?_;refine ae aJ ?_;refine ae (ab 1 (bv 1)) ?_;refine ae (ab 2 (bv 2)) ?_;exact aq)))))
  (aF (aP (aQ (fR (aY fE fD (EV.b (ab 3 (bv 3))) (EV.b cB) (aL _)) (br aq) (aC ax aB (EV.b (ab 3 (bv 3))) (EV.b ao) (fun _ _=>rfl)))))))
theorem mE (G_last_page:FnOk P w K mg base CX0 1 a_last_page d_last_page ["book","kind","name","t"] (spP (aO tb_law_book tb_law_page K) F_last_page)):FnOk P w K mg base CX0 2 a_looked_at d_looked_at ["book","w","t"] (spP (aO tb_law_book tb_law_page K) F_looked_at):=by
 have eb:au bX=au bX:=rfl
 conv at eb=>rhs;whnf
 have es:ak bX=ak bX:=rfl
 conv at es=>rhs;whnf
 refine bz (N:=["book","w","t","page"]) (ps:=["book","w","t"]) (k:=1) (m:=m_looked_at) rfl T.F_looked_at sc_looked_at (by decide) eb es fun cdv A outer s H E hr=>?_
 unfold m_looked_at
 exact(aw (aK (aI (i:=3) sc_looked_at.nd rfl (Or.inl rfl) (az (ay G_last_page (hr.mono (by decide)) rfl T.m_last_page T.F_last_page.kp T.b_last_page .nil aE (by refine ae (ab 0 (bv 0)) ?_;refine ae aJ ?_;refine ae (ab 1 (bv 1)) ?_;refine ae (ab 2 (bv 2)) ?_;exact aq)))))
  (aF (aP (aQ (fR (aY fE fD (EV.b (ab 3 (bv 3))) (EV.b cB) (aL _)) cB (aC ax aB (EV.b (ab 3 (bv 3))) (EV.b ao) (fun _ _=>rfl)))))))
theorem ll (G_reading:FnOk P w K mg base CX0 2 a_reading d_reading ["book","post","t"] (spP (aO tb_law_book tb_law_page K) F_reading)):FnOk P w K mg base CX0 3 a_post_holds d_post_holds ["book","rule","t"] (spP (aO tb_law_book tb_law_page K) F_post_holds):=by
 have eb:au bM=au bM:=rfl
 conv at eb=>rhs;whnf
 have es:ak bM=ak bM:=rfl
 conv at es=>rhs;whnf
 refine bz (N:=["book","rule","t","word","post","n","value"]) (ps:=["book","rule","t"]) (k:=2) (m:=m_post_holds) rfl T.F_post_holds sc_post_holds (by decide) eb es fun cdv A outer s H E hr=>?_
 unfold m_post_holds
 exact(aw (v9 (ks:=[3,4,5]) (rV (ab 1 (bv 1)) (jL rfl (dq (aW (i:=3) sc_post_holds.nd rfl (Or.inl rfl)) (dq (aW (i:=4) sc_post_holds.nd rfl (Or.inl rfl)) (dq (aW (i:=5) sc_post_holds.nd rfl (Or.inl rfl)) iT))))))
  (aw (aK (aI (i:=6) sc_post_holds.nd rfl (Or.inl rfl) (az (ay G_reading (hr.mono (by decide)) rfl T.m_reading T.F_reading.kp T.b_reading .nil aE (by refine ae (ab 0 (bv 0)) ?_;refine ae (ab 4 (bv 4)) ?_;refine ae (ab 2 (bv 2)) ?_;exact aq)))))
  (aw (cy (cA (aY fE fD (EV.b (ab 6 (bv 6))) (EV.b cB) (aL _)) (aF (aP (aQ gK))) bU))
  (aF (aP (aQ (fR (aY (bV hr.units) (bS false) (EV.b (ab 3 (bv 3))) (EV.b aJ) (aL _)) (cK pU uB (EV.b (ab 6 (bv 6))) (EV.b (ab 5 (bv 5))) (aL _)) (cK gp gm (EV.b (ab 6 (bv 6))) (EV.b (ab 5 (bv 5))) (aL _)))))))))
theorem lq (G_looked_at:FnOk P w K mg base CX0 2 a_looked_at d_looked_at ["book","w","t"] (spP (aO tb_law_book tb_law_page K) F_looked_at)):FnOk P w K mg base CX0 3 a_look_holds d_look_holds ["book","way","n","t"] (spP (aO tb_law_book tb_law_page K) F_look_holds):=by
 have eb:au bO=au bO:=rfl
 conv at eb=>rhs;whnf
 have es:ak bO=ak bO:=rfl
 conv at es=>rhs;whnf
 refine bz (N:=["book","way","n","t","m"]) (ps:=["book","way","n","t"]) (k:=2) (m:=m_look_holds) rfl T.F_look_holds sc_look_holds (by decide) eb es fun cdv A outer s H E hr=>?_
 unfold m_look_holds
 exact(aw (aK (aI (i:=4) sc_look_holds.nd rfl (Or.inl rfl) (az (ay G_looked_at (hr.mono (by decide)) rfl T.m_looked_at T.F_looked_at.kp T.b_looked_at .nil aE (by refine ae (ab 0 (bv 0)) ?_;refine ae (aC ax aB (EV.b (ab 1 (bv 1))) (EV.b ao) (fun _ _=>rfl)) ?_;refine ae (ab 3 (bv 3)) ?_;exact aq)))))
  (aF (aP (aQ (fJ (cK (bV hr.units) (bS false) (EV.b (aC ax aB (EV.b (ab 1 (bv 1))) (EV.b ao) (fun _ _=>rfl))) (EV.b aJ) (aL _)) (fJ (cK jZ jX (EV.b (ab 4 (bv 4))) (EV.b cB) (aL _)) (ib (cK eX eW (EV.b (ab 3 (bv 3))) (EV.b (bc cC cW (EV.b (ab 4 (bv 4))) (EV.b (ab 2 (bv 2))))) (aL _)))))))))
theorem j3 (G_post_holds:FnOk P w K mg base CX0 3 a_post_holds d_post_holds ["book","rule","t"] (spP (aO tb_law_book tb_law_page K) F_post_holds)) (G_look_holds:FnOk P w K mg base CX0 3 a_look_holds d_look_holds ["book","way","n","t"] (spP (aO tb_law_book tb_law_page K) F_look_holds)):FnOk P w K mg base CX0 4 a_holds_alone d_holds_alone ["book","way","rule","t"] (spP (aO tb_law_book tb_law_page K) F_holds_alone):=by
 have eb:au bH=au bH:=rfl
 conv at eb=>rhs;whnf
 have es:ak bH=ak bH:=rfl
 conv at es=>rhs;whnf
 refine bz (N:=["book","way","rule","t","word"]) (ps:=["book","way","rule","t"]) (k:=3) (m:=m_holds_alone) rfl T.F_holds_alone sc_holds_alone (by decide) eb es fun cdv A outer s H E hr=>?_
 unfold m_holds_alone
 exact(aw (aK (aI (i:=4) sc_holds_alone.nd rfl (Or.inl rfl) (aC ax aB (EV.b (ab 2 (bv 2))) (EV.b ao) (fun _ _=>rfl))))
  (aw (cy (cA (aY (bV hr.units) (bS false) (EV.b (ab 4 (bv 4))) (EV.b aJ) (aL _)) (aF (aP (aQ (m3 gp gm eX eW (EV.b (aC ax aB (EV.b (ab 2 (bv 2))) (EV.b ao) (fun _ _=>rfl))) (EV.b (ab 3 (bv 3))) (EV.b (aC ax aB (EV.b (ab 2 (bv 2))) (EV.b ao) (fun _ _=>rfl))))))) bU))
  (aw (cy (cA (WV.t (ly (aY (bV hr.units) (bS false) (EV.b (ab 4 (bv 4))) (EV.b aJ) (aL _)) (jj (aY (bV hr.units) (bS false) (EV.b (ab 4 (bv 4))) (EV.b aJ) (aL _))))) (aF (aP (aQ (az (ay G_post_holds (hr.mono (by decide)) rfl T.m_post_holds T.F_post_holds.kp T.b_post_holds .nil aE (by refine ae (ab 0 (bv 0)) ?_;refine ae (ab 2 (bv 2)) ?_;refine ae (ab 3 (bv 3)) ?_;exact aq)))))) bU))
  (aw (cy (cA (aY (bV hr.units) (bS false) (EV.b (ab 4 (bv 4))) (EV.b aJ) (aL _)) (aF (aP (aQ (az (ay G_look_holds (hr.mono (by decide)) rfl T.m_look_holds T.F_look_holds.kp T.b_look_holds .nil aE (by refine ae (ab 0 (bv 0)) ?_;refine ae (ab 1 (bv 1)) ?_;refine ae (aC ax aB (EV.b (ab 2 (bv 2))) (EV.b ao) (fun _ _=>rfl)) ?_;refine ae (ab 3 (bv 3)) ?_;exact aq)))))) bU))
  (aF (aP (aQ gK)))))))
theorem jx (G_rules_at:FnOk P w K mg base CX0 2 a_rules_at d_rules_at ["book","w","t"] (spP (aO tb_law_book tb_law_page K) F_rules_at)) (G_holds_alone:FnOk P w K mg base CX0 4 a_holds_alone d_holds_alone ["book","way","rule","t"] (spP (aO tb_law_book tb_law_page K) F_holds_alone)):FnOk P w K mg base CX0 5 a_others_asked d_others_asked ["book","way","t"] (spP (aO tb_law_book tb_law_page K) F_others_asked):=by
 have eb:au bo=au bo:=rfl
 conv at eb=>rhs;whnf
 have es:ak bo=ak bo:=rfl
 conv at es=>rhs;whnf
 refine bz (N:=["book","way","t","rules"]) (ps:=["book","way","t"]) (k:=4) (m:=m_others_asked) rfl T.F_others_asked sc_others_asked (by decide) eb es fun cdv A outer s H E hr=>?_
 unfold m_others_asked
 exact(aw (aK (aI (i:=3) sc_others_asked.nd rfl (Or.inl rfl) (az (ay G_rules_at (hr.mono (by decide)) rfl T.m_rules_at T.F_rules_at.kp T.b_rules_at .nil aE (by refine ae (ab 0 (bv 0)) ?_;refine ae (aC ax aB (EV.b (ab 1 (bv 1))) (EV.b ao) (fun _ _=>rfl)) ?_;refine ae (ab 2 (bv 2)) ?_;exact aq)))))
  (aw (cy (cA (gW (fA (ba (bt (je rfl) rfl T.m_all PyProof.Rows.boot_all (aM (EV.b (EF.v (fu (fv (LcScope.mk2 (N:=["rule","book","way","t"]) (js:=[none,some 0,some 1,some 2]) (ak bo) ["book","way","t","rules"] rfl rfl (by decide +kernel)) rfl (fH (EV.b (ab 3 (bv 3)))) (fun _ _ _ _=>(cu (aW (i:=0) (by decide:(["rule","book","way","t"]:List Str).Nodup) rfl (Or.inl rfl)))) (fun _ _ _ _=>(fb (aY (hG hr.units) (bS true) (EV.b (aC ax aB (EV.b (ab 0 (bv 0))) (EV.b ao) (fun _ _=>rfl))) (EV.b aJ) (aL _)))) (fun _ _ _ _=>(az (ay G_holds_alone (hr.mono (by decide)) rfl T.m_holds_alone T.F_holds_alone.kp T.b_holds_alone .nil aE (by refine ae (ab 1 (bv 1)) ?_;refine ae (ab 2 (bv 2)) ?_;refine ae (ab 0 (bv 0)) ?_;refine ae (ab 3 (bv 3)) ?_;exact aq)))))))) a9)) nu))) (aF (aP (aQ cB))) bU))
  (aF (aP (aQ (EF.v (fu (fv (LcScope.mk2 (N:=["rule"]) (js:=[none]) (ak bo) ["book","way","t","rules"] rfl rfl (by decide +kernel)) rfl (fH (EV.b (ab 3 (bv 3)))) (fun _ _ _ _=>(cu (aW (i:=0) (by decide:(["rule"]:List Str).Nodup) rfl (Or.inl rfl)))) (fun _ _ _ _=>(fb (aY (bV hr.units) (bS false) (EV.b (aC ax aB (EV.b (ab 0 (bv 0))) (EV.b ao) (fun _ _=>rfl))) (EV.b aJ) (aL _)))) (fun _ _ _ _=>(aC ax aB (EV.b (ab 0 (bv 0))) (EV.b ao) (fun _ _=>rfl)))))))))))
theorem lx:FnOk P w K mg base CX0 1 a_found_open d_found_open ["asked"] (spP (aO tb_law_book tb_law_page K) F_found_open):=by
 have eb:au bF=au bF:=rfl
 conv at eb=>rhs;whnf
 have es:ak bF=ak bF:=rfl
 conv at es=>rhs;whnf
 refine bz (N:=["asked","found","before","name"]) (ps:=["asked"]) (k:=0) (m:=m_found_open) rfl T.F_found_open sc_found_open (by decide) eb es fun cdv A outer s H E hr=>?_
 unfold m_found_open
 exact(aw (oE (aI (i:=1) sc_found_open.nd rfl (Or.inr rfl) ⟨mw⟩))
  (aw (aK (aI (i:=2) sc_found_open.nd rfl (Or.inl rfl) (ic (jM gV (EV.b ao)))))
  (aw (lO 1000 (nH PassesOwn.never (aY eX eW (EV.b (ab 2 (bv 2))) (EV.b (ba (bt cQ rfl T.m_len PySem.boot_len (aM (dC 1 (bv 1)) a9)) eN)) (aL _)) (aw (aK (aI (i:=2) sc_found_open.nd rfl (Or.inl rfl) (ba (bt cQ rfl T.m_len PySem.boot_len (aM (dC 1 (bv 1)) a9)) eN)))
  (aF (uQ (vQ PassesOwn.never rfl (ab 0 (bv 0)) (dB (aW (i:=3) sc_found_open.nd rfl (Or.inl rfl))) (aF (cy (cA (fA (ba (bt (je rfl) rfl T.m_all PyProof.Rows.boot_all (aM (EV.b (EF.v (fu (fv (LcScope.mk2 (N:=["other","found"]) (js:=[none,some 1]) (ak bF) ["asked","found","before","name"] rfl rfl (by decide +kernel)) rfl (fH (EV.b (vT (iN hr) (EV.b (ab 0 (bv 0))) (EV.b (ab 3 (bv 3))) (fun _ _=>rfl)))) (fun _ _ _ _=>(cu (aW (i:=0) (by decide:(["other","found"]:List Str).Nodup) rfl (Or.inl rfl)))) (fun _ _ _ _=>eG) (fun _ _ _ _=>(xK (iN hr) (EV.b (ab 0 (bv 0))) (dC 1 (bv 1)) rfl)))))) a9)) nu)) (aF (oD (k:=1) (o7 (iN hr) (bv 1) (EV.b (ab 3 (bv 3))) gK))) bU)))))))))
  (aF (aP (aQ (ab 1 (bv 1))))))))
theorem mD (G_found_open:FnOk P w K mg base CX0 1 a_found_open d_found_open ["asked"] (spP (aO tb_law_book tb_law_page K) F_found_open)) (G_others_asked:FnOk P w K mg base CX0 5 a_others_asked d_others_asked ["book","way","t"] (spP (aO tb_law_book tb_law_page K) F_others_asked)):FnOk P w K mg base CX0 6 a_open_ways d_open_ways ["hill","book","t"] (spP (aO tb_law_book tb_law_page K) F_open_ways):=by
 have eb:au bN=au bN:=rfl
 conv at eb=>rhs;whnf
 have es:ak bN=ak bN:=rfl
 conv at es=>rhs;whnf
 refine bz (N:=["hill","book","t","asked","way","others","found"]) (ps:=["hill","book","t"]) (k:=5) (m:=m_open_ways) rfl T.F_open_ways sc_open_ways (by decide) eb es fun cdv A outer s H E hr=>?_
 unfold m_open_ways
 exact(aw (oE (aI (i:=3) sc_open_ways.nd rfl (Or.inl rfl) ⟨mw⟩))
  (aw (d5 (dM PassesOwn.never rfl (i8 (aC ax aB (EV.b (ab 0 (bv 0))) (EV.b ao) (fun _ _=>rfl))) (dB (aW (i:=4) sc_open_ways.nd rfl (Or.inl rfl))) (aw (aK (aI (i:=5) sc_open_ways.nd rfl (Or.inl rfl) (az (ay G_others_asked (hr.mono (by decide)) rfl T.m_others_asked T.F_others_asked.kp T.b_others_asked .nil aE (by refine ae (ab 1 (bv 1)) ?_;refine ae (ab 4 (bv 4)) ?_;refine ae (ab 2 (bv 2)) ?_;exact aq)))))
  (aF (cy (cA (aY jZ jX (EV.b (ab 5 (bv 5))) (EV.b cB) (aL _)) (aF (oD (k:=3) (o7 (iN hr) (bv 3) (EV.b (aC ax aB (EV.b (ab 4 (bv 4))) (EV.b ao) (fun _ _=>rfl))) (ab 5 (bv 5))))) bU))))))
  (aw (qC (aK (aI (i:=6) sc_open_ways.nd rfl (Or.inr rfl) (az (ay G_found_open (hr.mono (by decide)) rfl T.m_found_open T.F_found_open.kp T.b_found_open .nil aE (ae (ab 3 (bv 3)) aq))))))
  (aF (aP (aQ (ba (dN dw rfl T.m_tuple PyProof.Rows.boot_tuple (aM (EV.b (EF.v (fu (fv (LcScope.mk2 (N:=["way","found"]) (js:=[none,some 6]) (ak bN) ["hill","book","t","asked","way","others","found"] rfl rfl (by decide +kernel)) rfl (fH (EV.b (aC ax aB (EV.b (ab 0 (bv 0))) (EV.b ao) (fun _ _=>rfl)))) (fun _ _ _ _=>(cu (aW (i:=0) (by decide:(["way","found"]:List Str).Nodup) rfl (Or.inl rfl)))) (fun _ _ _ _=>(fb (v7 (iN hr) (EV.b (aC ax aB (EV.b (ab 0 (bv 0))) (EV.b ao) (fun _ _=>rfl))) (EV.b (ab 1 (bv 1))) rfl))) (fun _ _ _ _=>(aC ax aB (EV.b (ab 0 (bv 0))) (EV.b ao) (fun _ _=>rfl))))))) a9)) ij)))))))
theorem nX (G_way_named:FnOk P w K mg base CX0 1 a_way_named d_way_named ["hill","name"] (spP (aO tb_law_book tb_law_page K) F_way_named)) (G_open_ways:FnOk P w K mg base CX0 6 a_open_ways d_open_ways ["hill","book","t"] (spP (aO tb_law_book tb_law_page K) F_open_ways)) (G_rules_at:FnOk P w K mg base CX0 2 a_rules_at d_rules_at ["book","w","t"] (spP (aO tb_law_book tb_law_page K) F_rules_at)) (G_holds_alone:FnOk P w K mg base CX0 4 a_holds_alone d_holds_alone ["book","way","rule","t"] (spP (aO tb_law_book tb_law_page K) F_holds_alone)):FnOk P w K mg base CX0 7 a_why_shut d_why_shut ["hill","book","w","t"] (spP (aO tb_law_book tb_law_page K) F_why_shut):=by
 have eb:au cD=au cD:=rfl
 conv at eb=>rhs;whnf
 have es:ak cD=ak cD:=rfl
 conv at es=>rhs;whnf
 refine bz (N:=["hill","book","w","t","way","names","at","rule","holds"]) (ps:=["hill","book","w","t"]) (k:=6) (m:=m_why_shut) rfl T.F_why_shut sc_why_shut (by decide) eb es fun cdv A outer s H E hr=>?_
 unfold m_why_shut
 exact(aw (aK (aI (i:=4) sc_why_shut.nd rfl (Or.inl rfl) (az (ay G_way_named (hr.mono (by decide)) rfl T.m_way_named T.F_way_named.kp T.b_way_named .nil aE (ae (ab 0 (bv 0)) (ae (ab 2 (bv 2)) aq))))))
  (aw (aK (aI (i:=5) sc_why_shut.nd rfl (Or.inl rfl) (az (ay G_open_ways (hr.mono (by decide)) rfl T.m_open_ways T.F_open_ways.kp T.b_open_ways .nil aE (by refine ae (ab 0 (bv 0)) ?_;refine ae (ab 1 (bv 1)) ?_;refine ae (ab 3 (bv 3)) ?_;exact aq)))))
  (aw (uP (dM PassesOwn.never rfl (xy (rZ rfl T.m_enumerate (ae (az (ay G_rules_at (hr.mono (by decide)) rfl T.m_rules_at T.F_rules_at.kp T.b_rules_at .nil aE (by refine ae (ab 1 (bv 1)) ?_;refine ae (ab 2 (bv 2)) ?_;refine ae (ab 3 (bv 3)) ?_;exact aq))) aq))) (rG (ks:=[6,7]) (jL rfl (dq (aW (i:=6) sc_why_shut.nd rfl (Or.inl rfl)) (dq (aW (i:=7) sc_why_shut.nd rfl (Or.inl rfl)) iT)))) (aw (aK (aI (i:=8) sc_why_shut.nd rfl (Or.inl rfl) (fR (aY (bV hr.units) (bS false) (EV.b (aC ax aB (EV.b (ab 7 (bv 7))) (EV.b ao) (fun _ _=>rfl))) (EV.b aJ) (aL _)) (cK jw (iH false) (EV.b (aC ax aB (EV.b (ab 7 (bv 7))) (EV.b ao) (fun _ _=>rfl))) (EV.b (ab 5 (bv 5))) rfl) (az (ay G_holds_alone (hr.mono (by decide)) rfl T.m_holds_alone T.F_holds_alone.kp T.b_holds_alone .nil aE (by refine ae (ab 1 (bv 1)) ?_;refine ae (ab 4 (bv 4)) ?_;refine ae (ab 7 (bv 7)) ?_;refine ae (ab 3 (bv 3)) ?_;exact aq))))))
  (aF (cy (cA (gW (fA (ab 8 (bv 8)))) (aF (aP (aQ (ab 6 (bv 6))))) bU))))))
  (aF (aP (aQ cB))))))
theorem nZ (G_law_pick:FnOk P w K mg base CX0 1 awpick dwpick ["_law_state","_law_many"] (spP (aO tb_law_book tb_law_page K) F_law_pick)):FnOk P w K mg base CX0 2 awword dwword ["_law_state","_law_taken"] (spP (aO tb_law_book tb_law_page K) F_law_word):=by
 have eb:au bI=au bI:=rfl
 conv at eb=>rhs;whnf
 have es:ak bI=ak bI:=rfl
 conv at es=>rhs;whnf
 refine bz (N:=["_law_state","_law_taken","_law_letters","_law_size","_law_word_here"]) (ps:=["_law_state","_law_taken"]) (k:=1) (m:=m_law_word) rfl T.F_law_word sc_law_word (by decide) eb es fun cdv A outer s H E hr=>?_
 unfold m_law_word
 exact(aw (aK (aI (i:=2) sc_law_word.nd rfl (Or.inr rfl) aJ))
  (aw (aK (aI (i:=3) sc_law_word.nd rfl (Or.inl rfl) (bc cC cW (EV.b ao) (EV.b (az (ay G_law_pick (hr.mono (by decide)) rfl T.m_law_pick T.F_law_pick.kp T.b_law_pick .nil aE (ae (ab 0 (bv 0)) (ae ao aq))))))))
  (aw (aK (aI (i:=4) sc_law_word.nd rfl (Or.inr rfl) (yn (fw PySem.F.plainAttrs_str PySem.F.slot_str_join PySem.F.type_str_join vx (EV.b aJ) (aM (EV.b (EF.v (fu (fv (LcScope.mk2 (N:=["_law_k","_law_letters","_law_state"]) (js:=[none,some 2,some 0]) (ak bI) ["_law_state","_law_taken","_law_letters","_law_size","_law_word_here"] rfl rfl (by decide +kernel)) rfl (eC (dh rfl T.m_range (aM (EV.b (ab 3 (bv 3))) a9))) (fun _ _ _ _=>(cu (aW (i:=0) (by decide:(["_law_k","_law_letters","_law_state"]:List Str).Nodup) rfl (Or.inl rfl)))) (fun _ _ _ _=>eG) (fun _ _ _ _=>(aC ax aB (EV.b (ab 1 (bv 1))) (EV.b (az (ay G_law_pick (hr.mono (by decide)) rfl T.m_law_pick T.F_law_pick.kp T.b_law_pick .nil aE (ae (ab 2 (bv 2)) (ae ao aq))))) (fun _ _=>rfl))))))) a9)) vw)))
  (aF (aP (aQ (aC ax aB (EV.b (EF.v (fu (fv (LcScope.mk2 (N:=["_law_one","_law_taken"]) (js:=[none,some 1]) (ak bI) ["_law_state","_law_taken","_law_letters","_law_size","_law_word_here"] rfl rfl (by decide +kernel)) rfl (fH (EV.b (EF.v (m9 (qj op_cat (EV.b (EF.v (bK (ae (ab 4 (bv 4)) aq)))) (EV.b (EF.v (fu (fv (LcScope.mk2 (N:=["_law_letter","_law_word_here"]) (js:=[none,some 4]) (ak bI) ["_law_state","_law_taken","_law_letters","_law_size","_law_word_here"] rfl rfl (by decide +kernel)) rfl (fH (EV.b (ab 2 (bv 2)))) (fun _ _ _ _=>(cu (aW (i:=0) (by decide:(["_law_letter","_law_word_here"]:List Str).Nodup) rfl (Or.inl rfl)))) (fun _ _ _ _=>eG) (fun _ _ _ _=>(bc cC cW (EV.b (mZ (nJ wg (EV.b (ab 1 (bv 1))) oQ (oP (EV.b ao))) wb)) (EV.b (ab 0 (bv 0)))))))))))))) (fun _ _ _ _=>(cu (aW (i:=0) (by decide:(["_law_one","_law_taken"]:List Str).Nodup) rfl (Or.inl rfl)))) (fun _ _ _ _=>(fb (aY kF (iH true) (EV.b (ab 0 (bv 0))) (EV.b (ab 1 (bv 1))) rfl))) (fun _ _ _ _=>(ab 0 (bv 0))))))) (EV.b ao) (fun _ _=>rfl))))))))
theorem mF (G_law_word:FnOk P w K mg base CX0 2 awword dwword ["_law_state","_law_taken"] (spP (aO tb_law_book tb_law_page K) F_law_word)):FnOk P w K mg base CX0 3 awwords dwwords ["_law_state","_law_many"] (spP (aO tb_law_book tb_law_page K) F_law_words):=by
 have eb:au bY=au bY:=rfl
 conv at eb=>rhs;whnf
 have es:ak bY=ak bY:=rfl
 conv at es=>rhs;whnf
 refine bz (N:=["_law_state","_law_many","_law_found","_law_k"]) (ps:=["_law_state","_law_many"]) (k:=2) (m:=m_law_words) rfl T.F_law_words sc_law_words (by decide) eb es fun cdv A outer s H E hr=>?_
 unfold m_law_words
 exact(aw (fc (aI (i:=2) sc_law_words.nd rfl (Or.inl rfl) (bK aq)))
  (aw (d5 (dM PassesOwn.never rfl (eC (dh rfl T.m_range (aM (EV.b (ab 1 (bv 1))) a9))) (dB (aW (i:=3) sc_law_words.nd rfl (Or.inl rfl))) (aF (fe (k:=2) (eE (fw PySem.F.plainAttrs_list PySem.F.slot_list_append PySem.F.type_list_append cZ (bv 2) (dX (m4 (ay G_law_word (hr.mono (by decide)) rfl T.m_law_word T.F_law_word.kp T.b_law_word .nil aE (aM (EV.b (ab 0 (bv 0))) (aM (dC 2 (bv 2)) a9)))) eP)))))))
  (aF (aP (aQ (ab 2 (bv 2)))))))
theorem oe (G_law_words:FnOk P w K mg base CX0 3 awwords dwwords ["_law_state","_law_many"] (spP (aO tb_law_book tb_law_page K) F_law_words)) (G_law_pick:FnOk P w K mg base CX0 1 awpick dwpick ["_law_state","_law_many"] (spP (aO tb_law_book tb_law_page K) F_law_pick)):FnOk P w K mg base CX0 4 awhill dwhill ["_law_state","_law_most","_law_scale"] (spP (aO tb_law_book tb_law_page K) F_law_hill):=by
 have eb:au cm=au cm:=rfl
 conv at eb=>rhs;whnf
 have es:ak cm=ak cm:=rfl
 conv at es=>rhs;whnf
 refine bz (N:=["_law_state","_law_most","_law_scale","_law_spots","_law_names","_law_ways","_law_name","_law_kind","_law_ends"]) (ps:=["_law_state","_law_most","_law_scale"]) (k:=3) (m:=m_law_hill) rfl T.F_law_hill sc_law_hill (by decide) eb es fun cdv A outer s H E hr=>?_
 unfold m_law_hill
 exact(aw (aK (aI (i:=3) sc_law_hill.nd rfl (Or.inr rfl) (az (ay G_law_words (hr.mono (by decide)) rfl T.m_law_words T.F_law_words.kp T.b_law_words .nil aE (ae (ab 0 (bv 0)) (ae (bc cC cW (EV.b ao) (EV.b (az (ay G_law_pick (hr.mono (by decide)) rfl T.m_law_pick T.F_law_pick.kp T.b_law_pick .nil aE (ae (ab 0 (bv 0)) (ae ao aq)))))) aq))))))
  (aw (aK (aI (i:=4) sc_law_hill.nd rfl (Or.inl rfl) (az (ay G_law_words (hr.mono (by decide)) rfl T.m_law_words T.F_law_words.kp T.b_law_words .nil aE (ae (ab 0 (bv 0)) (ae (bc cC cW (EV.b ao) (EV.b (az (ay G_law_pick (hr.mono (by decide)) rfl T.m_law_pick T.F_law_pick.kp T.b_law_pick .nil aE (ae (ab 0 (bv 0)) (ae (ab 1 (bv 1)) aq)))))) aq))))))
  (aw (fc (aI (i:=5) sc_law_hill.nd rfl (Or.inl rfl) (bK aq)))
  (aw (d5 (dM PassesOwn.never rfl (i8 (ab 4 (bv 4))) (dB (aW (i:=6) sc_law_hill.nd rfl (Or.inl rfl))) (aw (aK (aI (i:=7) sc_law_hill.nd rfl (Or.inl rfl) (aC ax aB (EV.b (EF.v (bK (by refine ae aJ ?_;refine ae aJ ?_;refine ae aJ ?_;refine ae aJ ?_;exact aq)))) (EV.b (az (ay G_law_pick (hr.mono (by decide)) rfl T.m_law_pick T.F_law_pick.kp T.b_law_pick .nil aE (ae (ab 0 (bv 0)) (ae ao aq))))) (fun _ _=>rfl))))
  (aw (aK (gR (fM (fV (k:=8) sc_law_hill.nd rfl (Or.inl rfl) (LcScope.mk2 (N:=["_law_k","_law_spots","_law_state"]) (js:=[none,some 3,some 0]) (ak cm) ["_law_state","_law_most","_law_scale","_law_spots","_law_names","_law_ways","_law_name","_law_kind","_law_ends"] rfl rfl (by decide +kernel)) rfl (eC (dh rfl T.m_range (aM (EV.b ao) a9))) (fun _ _ _ _=>(cu (aW (i:=0) (by decide:(["_law_k","_law_spots","_law_state"]:List Str).Nodup) rfl (Or.inl rfl)))) (fun _ _ _ _=>eG) (fun _ _ _ _=>(aC ax aB (EV.b (ab 1 (bv 1))) (EV.b (az (ay G_law_pick (hr.mono (by decide)) rfl T.m_law_pick T.F_law_pick.kp T.b_law_pick .nil aE (ae (ab 2 (bv 2)) (ae (ba (bt cQ rfl T.m_len PySem.boot_len (aM (EV.b (ab 1 (bv 1))) a9)) eN) aq))))) (fun _ _=>rfl)))))))
  (aF (fe (k:=5) (eE (fw PySem.F.plainAttrs_list PySem.F.slot_list_append PySem.F.type_list_append cZ (bv 5) (dX (br (by refine ae (ab 6 (bv 6)) ?_;refine ae (ab 7 (bv 7)) ?_;refine ae (aC ax aB (EV.b (ab 8 (bv 8))) (EV.b ao) (fun _ _=>rfl)) ?_;refine ae (aC ax aB (EV.b (ab 8 (bv 8))) (EV.b ao) (fun _ _=>rfl)) ?_;refine ae (bc dU dS (EV.b (ab 2 (bv 2))) (EV.b (az (ay G_law_pick (hr.mono (by decide)) rfl T.m_law_pick T.F_law_pick.kp T.b_law_pick .nil aE (ae (ab 0 (bv 0)) (ae ao aq)))))) ?_;refine ae (bc dU dS (EV.b (ab 2 (bv 2))) (EV.b (az (ay G_law_pick (hr.mono (by decide)) rfl T.m_law_pick T.F_law_pick.kp T.b_law_pick .nil aE (ae (ab 0 (bv 0)) (ae ao aq)))))) ?_;exact aq)) eP)))))))))
  (aF (aP (aQ (br (by refine ae (ba (dN dw rfl T.m_tuple PyProof.Rows.boot_tuple (aM (EV.b (ab 5 (bv 5))) a9)) ij) ?_;refine ae (aC ax aB (EV.b (ab 3 (bv 3))) (EV.b (az (ay G_law_pick (hr.mono (by decide)) rfl T.m_law_pick T.F_law_pick.kp T.b_law_pick .nil aE (ae (ab 0 (bv 0)) (ae (ba (bt cQ rfl T.m_len PySem.boot_len (aM (EV.b (ab 3 (bv 3))) a9)) eN) aq))))) (fun _ _=>rfl)) ?_;refine ae (bc dU dS (EV.b (ab 2 (bv 2))) (EV.b (bc cC cW (EV.b ao) (EV.b (az (ay G_law_pick (hr.mono (by decide)) rfl T.m_law_pick T.F_law_pick.kp T.b_law_pick .nil aE (ae (ab 0 (bv 0)) (ae ao aq)))))))) ?_;exact aq)))))))))
theorem lu (G_law_pick:FnOk P w K mg base CX0 1 awpick dwpick ["_law_state","_law_many"] (spP (aO tb_law_book tb_law_page K) F_law_pick)):FnOk P w K mg base CX0 2 awmoment dwmoment ["_law_state","_law_hill_here","_law_scale"] (spP (aO tb_law_book tb_law_page K) F_law_moment):=by
 have eb:au bP=au bP:=rfl
 conv at eb=>rhs;whnf
 have es:ak bP=ak bP:=rfl
 conv at es=>rhs;whnf
 refine bz (N:=["_law_state","_law_hill_here","_law_scale"]) (ps:=["_law_state","_law_hill_here","_law_scale"]) (k:=1) (m:=m_law_moment) rfl T.F_law_moment lj (by decide) eb es fun cdv A outer s H E hr=>?_
 unfold m_law_moment
 exact(aF (aP (aQ (ba (bt (iq rfl) rfl T.m_min PyProof.Rows.boot_min (aM (EV.b (aC ax aB (EV.b (ab 1 (bv 1))) (EV.b ao) (fun _ _=>rfl))) (aM (EV.b (ba (bt (ir rfl) rfl T.m_max PyProof.Rows.boot_max (aM (EV.b ao) (aM (EV.b (bc cC cW (EV.b (bc dU dS (EV.b (ab 2 (bv 2))) (EV.b (az (ay G_law_pick (hr.mono (by decide)) rfl T.m_law_pick T.F_law_pick.kp T.b_law_pick .nil aE (ae (ab 0 (bv 0)) (ae ao aq))))))) (EV.b (aC ax aB (EV.b (EF.v (bK (by refine ae ao ?_;refine ae ao ?_;refine ae ao ?_;refine ae (ic (jM gV (EV.b ao))) ?_;exact aq)))) (EV.b (az (ay G_law_pick (hr.mono (by decide)) rfl T.m_law_pick T.F_law_pick.kp T.b_law_pick .nil aE (ae (ab 0 (bv 0)) (ae ao aq))))) (fun _ _=>rfl))))) a9))) km)) a9))) kl))))
theorem n6 (G_law_pick:FnOk P w K mg base CX0 1 awpick dwpick ["_law_state","_law_many"] (spP (aO tb_law_book tb_law_page K) F_law_pick)):FnOk P w K mg base CX0 2 awrule dwrule ["_law_state","_law_hill_here","_law_posts","_law_scale"] (spP (aO tb_law_book tb_law_page K) F_law_rule):=by
 have eb:au cF=au cF:=rfl
 conv at eb=>rhs;whnf
 have es:ak cF=ak cF:=rfl
 conv at es=>rhs;whnf
 refine bz (N:=["_law_state","_law_hill_here","_law_posts","_law_scale","_law_way","_law_post","_law_value","_law_first","_law_last","_law_other"]) (ps:=["_law_state","_law_hill_here","_law_posts","_law_scale"]) (k:=1) (m:=m_law_rule) rfl T.F_law_rule sc_law_rule (by decide) eb es fun cdv A outer s H E hr=>?_
 unfold m_law_rule
 exact(aw (aK (aI (i:=4) sc_law_rule.nd rfl (Or.inl rfl) (az (ay G_law_pick (hr.mono (by decide)) rfl T.m_law_pick T.F_law_pick.kp T.b_law_pick .nil aE (ae (ab 0 (bv 0)) (ae ao aq))))))
  (aw (aK (aI (i:=5) sc_law_rule.nd rfl (Or.inl rfl) (aC ax aB (EV.b (ab 2 (bv 2))) (EV.b (az (ay G_law_pick (hr.mono (by decide)) rfl T.m_law_pick T.F_law_pick.kp T.b_law_pick .nil aE (ae (ab 0 (bv 0)) (ae (ba (bt cQ rfl T.m_len PySem.boot_len (aM (EV.b (ab 2 (bv 2))) a9)) eN) aq))))) (fun _ _=>rfl))))
  (aw (aK (aI (i:=6) sc_law_rule.nd rfl (Or.inl rfl) (bc jv ju (EV.b (az (ay G_law_pick (hr.mono (by decide)) rfl T.m_law_pick T.F_law_pick.kp T.b_law_pick .nil aE (ae (ab 0 (bv 0)) (ae ao aq))))) (EV.b ao))))
  (aw (qB (rT (i:=7) (j:=8) rfl sc_law_rule.nd rfl rfl (by decide) rfl rfl (ae (bc dU dS (EV.b (ab 3 (bv 3))) (EV.b (az (ay G_law_pick (hr.mono (by decide)) rfl T.m_law_pick T.F_law_pick.kp T.b_law_pick .nil aE (ae (ab 0 (bv 0)) (ae ao aq)))))) (ae (bc jv ju (EV.b (bc cC cW (EV.b (bc dU dS (EV.b (ab 3 (bv 3))) (EV.b (bc cC cW (EV.b ao) (EV.b (az (ay G_law_pick (hr.mono (by decide)) rfl T.m_law_pick T.F_law_pick.kp T.b_law_pick .nil aE (ae (ab 0 (bv 0)) (ae ao aq))))))))) (EV.b (az (ay G_law_pick (hr.mono (by decide)) rfl T.m_law_pick T.F_law_pick.kp T.b_law_pick .nil aE (ae (ab 0 (bv 0)) (ae ao aq))))))) (EV.b ao)) aq)) rfl))
  (aw (aK (aI (i:=9) sc_law_rule.nd rfl (Or.inl rfl) (aC ax aB (EV.b (aC ax aB (EV.b (aC ax aB (EV.b (ab 1 (bv 1))) (EV.b ao) (fun _ _=>rfl))) (EV.b (az (ay G_law_pick (hr.mono (by decide)) rfl T.m_law_pick T.F_law_pick.kp T.b_law_pick .nil aE (ae (ab 0 (bv 0)) (ae (ba (bt cQ rfl T.m_len PySem.boot_len (aM (EV.b (aC ax aB (EV.b (ab 1 (bv 1))) (EV.b ao) (fun _ _=>rfl))) a9)) eN) aq))))) (fun _ _=>rfl))) (EV.b ao) (fun _ _=>rfl))))
  (aw (cy (cA (aY eX eW (EV.b (ab 4 (bv 4))) (EV.b ao) (aL _)) (aF (aP (aQ (br (by refine ae aJ ?_;refine ae (ab 7 (bv 7)) ?_;refine ae (ba (bt (iq rfl) rfl T.m_min PyProof.Rows.boot_min (aM (EV.b ao) (aM (EV.b (bc cC cW (EV.b (ab 7 (bv 7))) (EV.b (ba (bt (ir rfl) rfl T.m_max PyProof.Rows.boot_max (aM (EV.b ao) (aM (EV.b (ab 8 (bv 8))) a9))) km)))) a9))) kl) ?_;exact aq))))) bU))
  (aw (cy (cA (aY eX eW (EV.b (ab 4 (bv 4))) (EV.b ao) (aL _)) (aF (aP (aQ (aC ax aB (EV.b (EF.v (bK (ae (br (by refine ae aJ ?_;refine ae (ab 5 (bv 5)) ?_;refine ae (ab 6 (bv 6)) ?_;exact aq)) (ae (br (by refine ae aJ ?_;refine ae (ab 5 (bv 5)) ?_;refine ae (ab 6 (bv 6)) ?_;exact aq)) aq))))) (EV.b (bc d8 qW (EV.b (ab 4 (bv 4))) (EV.b ao))) (fun _ _=>rfl))))) bU))
  (aw (cy (cA (aY eX eW (EV.b (ab 4 (bv 4))) (EV.b ao) (aL _)) (aF (aP (aQ (br (ae aJ (ae (ba (bt (ir rfl) rfl T.m_max PyProof.Rows.boot_max (aM (EV.b ao) (aM (EV.b (ab 8 (bv 8))) a9))) km) aq)))))) bU))
  (aF (aP (aQ (aC ax aB (EV.b (EF.v (bK (ae (br (ae aJ (ae (ab 9 (bv 9)) aq))) (ae (br (ae aJ aq)) aq))))) (EV.b (ba (dN kT rfl T.m_int PyProof.Rows.boot_int (aM (EV.b (fJ (cK (bV hr.units) (bS false) (EV.b (ab 4 (bv 4))) (EV.b ao) (aL _)) (ib (cK pT uA (EV.b (ab 6 (bv 6))) (EV.b ao) (aL _))))) a9)) rR)) (fun _ _=>rfl)))))))))))))
theorem lr (G_law_pick:FnOk P w K mg base CX0 1 awpick dwpick ["_law_state","_law_many"] (spP (aO tb_law_book tb_law_page K) F_law_pick)):FnOk P w K mg base CX0 2 awnumber dwnumber ["_law_state","_law_taken"] (spP (aO tb_law_book tb_law_page K) F_law_number):=by
 have eb:au bx=au bx:=rfl
 conv at eb=>rhs;whnf
 have es:ak bx=ak bx:=rfl
 conv at es=>rhs;whnf
 refine bz (N:=["_law_state","_law_taken","_law_number_here","_law_some"]) (ps:=["_law_state","_law_taken"]) (k:=1) (m:=m_law_number) rfl T.F_law_number sc_law_number (by decide) eb es fun cdv A outer s H E hr=>?_
 unfold m_law_number
 exact(aw (aK (aI (i:=2) sc_law_number.nd rfl (Or.inr rfl) (az (ay G_law_pick (hr.mono (by decide)) rfl T.m_law_pick T.F_law_pick.kp T.b_law_pick .nil aE (ae (ab 0 (bv 0)) (ae (aC ax aB (EV.b (EF.v (bK (ae ao (ae ao aq))))) (EV.b (az (ay G_law_pick (hr.mono (by decide)) rfl T.m_law_pick T.F_law_pick.kp T.b_law_pick .nil aE (ae (ab 0 (bv 0)) (ae ao aq))))) (fun _ _=>rfl)) aq))))))
  (aw (aK (gR (fM (fV (k:=3) sc_law_number.nd rfl (Or.inl rfl) (LcScope.mk2 (N:=["_law_k","_law_number_here"]) (js:=[none,some 2]) (ak bx) ["_law_state","_law_taken","_law_number_here","_law_some"] rfl rfl (by decide +kernel)) rfl (eC (dh rfl T.m_range (aM (EV.b ao) a9))) (fun _ _ _ _=>(cu (aW (i:=0) (by decide:(["_law_k","_law_number_here"]:List Str).Nodup) rfl (Or.inl rfl)))) (fun _ _ _ _=>eG) (fun _ _ _ _=>(bc d8 qW (EV.b (bc cC cW (EV.b (ab 1 (bv 1))) (EV.b (ab 0 (bv 0))))) (EV.b ao)))))))
  (aF (aP (aQ (aC ax aB (EV.b (EF.v (fu (fv (LcScope.mk2 (N:=["_law_one","_law_taken"]) (js:=[none,some 1]) (ak bx) ["_law_state","_law_taken","_law_number_here","_law_some"] rfl rfl (by decide +kernel)) rfl (fH (EV.b (ab 3 (bv 3)))) (fun _ _ _ _=>(cu (aW (i:=0) (by decide:(["_law_one","_law_taken"]:List Str).Nodup) rfl (Or.inl rfl)))) (fun _ _ _ _=>(fb (aY kF (iH true) (EV.b (ab 0 (bv 0))) (EV.b (ab 1 (bv 1))) rfl))) (fun _ _ _ _=>(ab 0 (bv 0))))))) (EV.b ao) (fun _ _=>rfl)))))))
theorem mI (G_law_words:FnOk P w K mg base CX0 3 awwords dwwords ["_law_state","_law_many"] (spP (aO tb_law_book tb_law_page K) F_law_words)) (G_law_pick:FnOk P w K mg base CX0 1 awpick dwpick ["_law_state","_law_many"] (spP (aO tb_law_book tb_law_page K) F_law_pick)) (G_law_moment:FnOk P w K mg base CX0 2 awmoment dwmoment ["_law_state","_law_hill_here","_law_scale"] (spP (aO tb_law_book tb_law_page K) F_law_moment)) (G_law_number:FnOk P w K mg base CX0 2 awnumber dwnumber ["_law_state","_law_taken"] (spP (aO tb_law_book tb_law_page K) F_law_number)) (G_law_rule:FnOk P w K mg base CX0 2 awrule dwrule ["_law_state","_law_hill_here","_law_posts","_law_scale"] (spP (aO tb_law_book tb_law_page K) F_law_rule)):FnOk P w K mg base CX0 4 awpages dwpages ["_law_state","_law_hill_here","_law_scale","_law_many"] (spP (aO tb_law_book tb_law_page K) F_law_pages):=by
 have eb:au bG=au bG:=rfl
 conv at eb=>rhs;whnf
 have es:ak bG=ak bG:=rfl
 conv at es=>rhs;whnf
 refine bz (N:=["_law_state","_law_hill_here","_law_scale","_law_many","_law_posts","_law_slopes","_law_pages_here","_law_taken","_law_k","_law_kind","_law_moment_here","_law_name","_law_size","_law_rules_here","_law_value"]) (ps:=["_law_state","_law_hill_here","_law_scale","_law_many"]) (k:=3) (m:=m_law_pages) rfl T.F_law_pages sc_law_pages (by decide) eb es fun cdv A outer s H E hr=>?_
 unfold m_law_pages
 exact(aw (aK (aI (i:=4) sc_law_pages.nd rfl (Or.inr rfl) (EF.v (m9 (qj op_cat (EV.b (az (ay G_law_words (hr.mono (by decide)) rfl T.m_law_words T.F_law_words.kp T.b_law_words .nil aE (ae (ab 0 (bv 0)) (ae (bc cC cW (EV.b ao) (EV.b (az (ay G_law_pick (hr.mono (by decide)) rfl T.m_law_pick T.F_law_pick.kp T.b_law_pick .nil aE (ae (ab 0 (bv 0)) (ae ao aq)))))) aq))))) (EV.b (bc dU dS (EV.b (EF.v (bK (ae (aC ax aB (EV.b (aC ax aB (EV.b (aC ax aB (EV.b (ab 1 (bv 1))) (EV.b ao) (fun _ _=>rfl))) (EV.b ao) (fun _ _=>rfl))) (EV.b ao) (fun _ _=>rfl)) aq)))) (EV.b (az (ay G_law_pick (hr.mono (by decide)) rfl T.m_law_pick T.F_law_pick.kp T.b_law_pick .nil aE (ae (ab 0 (bv 0)) (ae ao aq))))))))))))
  (aw (aK (gR (fM (fV (k:=5) sc_law_pages.nd rfl (Or.inl rfl) (LcScope.mk2 (N:=["_law_way"]) (js:=[none]) (ak bG) ["_law_state","_law_hill_here","_law_scale","_law_many","_law_posts","_law_slopes","_law_pages_here","_law_taken","_law_k","_law_kind","_law_moment_here","_law_name","_law_size","_law_rules_here","_law_value"] rfl rfl (by decide +kernel)) rfl (fH (EV.b (aC ax aB (EV.b (ab 1 (bv 1))) (EV.b ao) (fun _ _=>rfl)))) (fun _ _ _ _=>(cu (aW (i:=0) (by decide:(["_law_way"]:List Str).Nodup) rfl (Or.inl rfl)))) (fun _ _ _ _=>(fb (aY (bV hr.units) (bS false) (EV.b (aC ax aB (EV.b (ab 0 (bv 0))) (EV.b ao) (fun _ _=>rfl))) (EV.b aJ) (aL _)))) (fun _ _ _ _=>(aC ax aB (EV.b (ab 0 (bv 0))) (EV.b ao) (fun _ _=>rfl)))))))
  (aw (fc (aI (i:=6) sc_law_pages.nd rfl (Or.inl rfl) (bK aq)))
  (aw (fc (aI (i:=7) sc_law_pages.nd rfl (Or.inl rfl) (bK aq)))
  (aw (d5 (dM PassesOwn.never rfl (eC (dh rfl T.m_range (aM (EV.b (ab 3 (bv 3))) a9))) (dB (aW (i:=8) sc_law_pages.nd rfl (Or.inl rfl))) (aw (aK (aI (i:=9) sc_law_pages.nd rfl (Or.inl rfl) (az (ay G_law_pick (hr.mono (by decide)) rfl T.m_law_pick T.F_law_pick.kp T.b_law_pick .nil aE (ae (ab 0 (bv 0)) (ae ao aq))))))
  (aw (aK (aI (i:=10) sc_law_pages.nd rfl (Or.inl rfl) (bc dU dS (EV.b (az (ay G_law_moment (hr.mono (by decide)) rfl T.m_law_moment T.F_law_moment.kp T.b_law_moment .nil aE (by refine ae (ab 0 (bv 0)) ?_;refine ae (ab 1 (bv 1)) ?_;refine ae (ab 2 (bv 2)) ?_;exact aq)))) (EV.b (ba (dN kT rfl T.m_int PyProof.Rows.boot_int (aM (EV.b (cK pT uA (EV.b (az (ay G_law_pick (hr.mono (by decide)) rfl T.m_law_pick T.F_law_pick.kp T.b_law_pick .nil aE (ae (ab 0 (bv 0)) (ae ao aq))))) (EV.b ao) (aL _))) a9)) rR)))))
  (aw (fe (k:=7) (eE (fw PySem.F.plainAttrs_list PySem.F.slot_list_append PySem.F.type_list_append cZ (bv 7) (dX (m4 (ay G_law_number (hr.mono (by decide)) rfl T.m_law_number T.F_law_number.kp T.b_law_number .nil aE (aM (EV.b (ab 0 (bv 0))) (aM (dC 7 (bv 7)) a9)))) eP))))
  (aF (cy (cA (aY eX eW (EV.b (ab 9 (bv 9))) (EV.b ao) (aL _)) (aw (aK (aI (i:=11) sc_law_pages.nd rfl (Or.inl rfl) (aC ax aB (EV.b (aC ax aB (EV.b (aC ax aB (EV.b (ab 1 (bv 1))) (EV.b ao) (fun _ _=>rfl))) (EV.b (az (ay G_law_pick (hr.mono (by decide)) rfl T.m_law_pick T.F_law_pick.kp T.b_law_pick .nil aE (ae (ab 0 (bv 0)) (ae (ba (bt cQ rfl T.m_len PySem.boot_len (aM (EV.b (aC ax aB (EV.b (ab 1 (bv 1))) (EV.b ao) (fun _ _=>rfl))) a9)) eN) aq))))) (fun _ _=>rfl))) (EV.b ao) (fun _ _=>rfl))))
  (aw (aK (aI (i:=12) sc_law_pages.nd rfl (Or.inl rfl) (aC ax aB (EV.b (EF.v (bK (by refine ae ao ?_;refine ae ao ?_;refine ae ao ?_;refine ae ao ?_;refine ae ao ?_;refine ae ao ?_;refine ae ao ?_;refine ae ao ?_;exact aq)))) (EV.b (az (ay G_law_pick (hr.mono (by decide)) rfl T.m_law_pick T.F_law_pick.kp T.b_law_pick .nil aE (ae (ab 0 (bv 0)) (ae ao aq))))) (fun _ _=>rfl))))
  (aw (aK (gR (fM (fV (k:=13) sc_law_pages.nd rfl (Or.inl rfl) (LcScope.mk2 (N:=["_law_j","_law_state","_law_hill_here","_law_posts","_law_scale"]) (js:=[none,some 0,some 1,some 4,some 2]) (ak bG) ["_law_state","_law_hill_here","_law_scale","_law_many","_law_posts","_law_slopes","_law_pages_here","_law_taken","_law_k","_law_kind","_law_moment_here","_law_name","_law_size","_law_rules_here","_law_value"] rfl rfl (by decide +kernel)) rfl (eC (dh rfl T.m_range (aM (EV.b (ab 12 (bv 12))) a9))) (fun _ _ _ _=>(cu (aW (i:=0) (by decide:(["_law_j","_law_state","_law_hill_here","_law_posts","_law_scale"]:List Str).Nodup) rfl (Or.inl rfl)))) (fun _ _ _ _=>eG) (fun _ _ _ _=>(az (ay G_law_rule (hr.mono (by decide)) rfl T.m_law_rule T.F_law_rule.kp T.b_law_rule .nil aE (by refine ae (ab 1 (bv 1)) ?_;refine ae (ab 2 (bv 2)) ?_;refine ae (ab 3 (bv 3)) ?_;refine ae (ab 4 (bv 4)) ?_;exact aq))))))))
  (aF (fe (k:=6) (eE (fw PySem.F.plainAttrs_list PySem.F.slot_list_append PySem.F.type_list_append cZ (bv 6) (dX (br (by refine ae aJ ?_;refine ae (aC ax aB (dC 7 (bv 7)) (EV.b (ic (jM gV (EV.b ao)))) (fun _ _=>rfl)) ?_;refine ae (ab 10 (bv 10)) ?_;refine ae (ab 11 (bv 11)) ?_;refine ae (ba (dN dw rfl T.m_tuple PyProof.Rows.boot_tuple (aM (EV.b (ab 13 (bv 13))) a9)) ij) ?_;exact aq)) eP)))))))) (aF (cy (cA (WV.t (ly (aY eX eW (EV.b (ab 9 (bv 9))) (EV.b ao) (aL _)) (jj (aY (bV hr.units) (bS false) (EV.b (ab 5 (bv 5))) (EV.b (EF.v (bK aq))) (aL _))))) (aw (aK (aI (i:=14) sc_law_pages.nd rfl (Or.inl rfl) (bc dU dS (EV.b (bc jv ju (EV.b (az (ay G_law_pick (hr.mono (by decide)) rfl T.m_law_pick T.F_law_pick.kp T.b_law_pick .nil aE (ae (ab 0 (bv 0)) (ae ao aq))))) (EV.b ao))) (EV.b (aC ax aB (EV.b (EF.v (bK (by refine ae ao ?_;refine ae ao ?_;refine ae ao ?_;refine ae (bc w6 wX (EV.b ao) (EV.b ao)) ?_;exact aq)))) (EV.b (az (ay G_law_pick (hr.mono (by decide)) rfl T.m_law_pick T.F_law_pick.kp T.b_law_pick .nil aE (ae (ab 0 (bv 0)) (ae ao aq))))) (fun _ _=>rfl))))))
  (aF (fe (k:=6) (eE (fw PySem.F.plainAttrs_list PySem.F.slot_list_append PySem.F.type_list_append cZ (bv 6) (dX (br (by refine ae aJ ?_;refine ae (aC ax aB (dC 7 (bv 7)) (EV.b (ic (jM gV (EV.b ao)))) (fun _ _=>rfl)) ?_;refine ae (ab 10 (bv 10)) ?_;refine ae (aC ax aB (EV.b (ab 4 (bv 4))) (EV.b (az (ay G_law_pick (hr.mono (by decide)) rfl T.m_law_pick T.F_law_pick.kp T.b_law_pick .nil aE (ae (ab 0 (bv 0)) (ae (ba (bt cQ rfl T.m_len PySem.boot_len (aM (EV.b (ab 4 (bv 4))) a9)) eN) aq))))) (fun _ _=>rfl)) ?_;refine ae (ab 14 (bv 14)) ?_;exact aq)) eP)))))) (aF (fe (k:=6) (eE (fw PySem.F.plainAttrs_list PySem.F.slot_list_append PySem.F.type_list_append cZ (bv 6) (dX (br (by refine ae aJ ?_;refine ae (aC ax aB (dC 7 (bv 7)) (EV.b (ic (jM gV (EV.b ao)))) (fun _ _=>rfl)) ?_;refine ae (ab 10 (bv 10)) ?_;refine ae (aC ax aB (EV.b (ab 5 (bv 5))) (EV.b (az (ay G_law_pick (hr.mono (by decide)) rfl T.m_law_pick T.F_law_pick.kp T.b_law_pick .nil aE (ae (ab 0 (bv 0)) (ae (ba (bt cQ rfl T.m_len PySem.boot_len (aM (EV.b (ab 5 (bv 5))) a9)) eN) aq))))) (fun _ _=>rfl)) ?_;exact aq)) eP))))))))))))))))
  (aF (aP (aQ (ab 6 (bv 6))))))))))
theorem og (kb:K.In base) (hB:BIn base mg):FnOk P w K mg base CX0 4 awbook dwbook ["_law_pages_here"] (spP (aO tb_law_book tb_law_page K) F_law_book):=by
 have eb:au cn=au cn:=rfl
 conv at eb=>rhs;whnf
 have es:ak cn=ak cn:=rfl
 conv at es=>rhs;whnf
 refine rK (N:=["_law_pages_here"]) (ps:=["_law_pages_here"]) (k:=3) (m:=m_law_book) rfl T.L_law_book nW (by decide) eb es fun A outer s H E hr=>?_
 unfold m_law_book
 exact(aF (aP (aQ (ba (dN dw rfl T.m_tuple PyProof.Rows.boot_tuple (aM (EV.b (EF.v (tZ (tb:=(tb_law_book,_)) List.mem_cons_self (by intro q hq e;simp only[List.mem_cons,List.not_mem_nil,or_false] at hq;rcases hq with rfl|rfl<;>first|rfl|exact absurd e T.ne_law_page_law_book) ⟨sO (k:=0) (N:=["_law_page_here"]) (y:="_law_page_here") (hr.mono (by decide)) hB rfl (PySem.W.codeHd_of_K kb T.L_law_book.hd) rfl rfl ⟨rfl,rfl,rfl,by decide,rfl,by decide +kernel,by decide +kernel⟩ (fun _ _ _ _ _=>.of_eq rfl) (fun _ _ _ _ _=>mq (cL (dQ ix_tup (pv 0) aR (fun _ _=>rfl)) (cL (dQ ix_tup (pv 0) aR (fun _ _=>rfl)) du))) rfl T.m_sorted (EV.b (ab 0 (bv 0))).out⟩))) a9)) ij))))
theorem n8 (kb:K.In base) (hB:BIn base mg):FnOk P w K mg base CX0 4 awpage dwpage ["_law_pages_here","_law_kind","_law_name","_law_t"] (spP (aO tb_law_book tb_law_page K) F_law_page):=by
 have eb:au bQ=au bQ:=rfl
 conv at eb=>rhs;whnf
 have es:ak bQ=ak bQ:=rfl
 conv at es=>rhs;whnf
 refine rK (N:=["_law_pages_here","_law_kind","_law_name","_law_t","_law_found"]) (ps:=["_law_pages_here","_law_kind","_law_name","_law_t"]) (k:=3) (m:=m_law_page) rfl T.L_law_page sc_law_page (by decide) eb es fun A outer s H E hr=>?_
 unfold m_law_page
 exact(aw (aK (gR (fM (fV (k:=4) sc_law_page.nd rfl (Or.inl rfl) (LcScope.mk2 (N:=["_law_page_here","_law_kind","_law_name","_law_t"]) (js:=[none,some 1,some 2,some 3]) (ak bQ) ["_law_pages_here","_law_kind","_law_name","_law_t","_law_found"] rfl rfl (by decide +kernel)) rfl (fH (EV.b (ab 0 (bv 0)))) (fun _ _ _ _=>(cu (aW (i:=0) (by decide:(["_law_page_here","_law_kind","_law_name","_law_t"]:List Str).Nodup) rfl (Or.inl rfl)))) (fun _ _ _ _=>(fb (WV.t (jk (aY (bV hr.units) (bS false) (EV.b (aC ax aB (EV.b (ab 0 (bv 0))) (EV.b ao) (fun _ _=>rfl))) (EV.b (ab 1 (bv 1))) (aL _)) (jk (aY (bV hr.units) (bS false) (EV.b (aC ax aB (EV.b (ab 0 (bv 0))) (EV.b ao) (fun _ _=>rfl))) (EV.b (ab 2 (bv 2))) (aL _)) (oA (aY gp gm (EV.b (aC ax aB (EV.b (ab 0 (bv 0))) (EV.b ao) (fun _ _=>rfl))) (EV.b (ab 3 (bv 3))) (aL _)))))))) (fun _ _ _ _=>(ab 0 (bv 0)))))))
  (aF (aP (aQ (vL (tb:=(tb_law_page,_)) (List.mem_cons_of_mem _ List.mem_cons_self) (by intro q hq e;simp only[List.mem_cons,List.not_mem_nil,or_false] at hq;rcases hq with rfl|rfl<;>first|rfl|exact absurd e T.ne_law_book_law_page) ⟨vg (k:=0) (N:=["_law_page_here"]) (y:="_law_page_here") (hr.mono (by decide)) hB rfl (PySem.W.codeHd_of_K kb T.L_law_page.hd) rfl rfl ⟨rfl,rfl,rfl,by decide,rfl,by decide +kernel,by decide +kernel⟩ (fun _ _ _ _ _=>.of_eq rfl) (fun _ _ _ _ _=>mq (cL (dQ ix_tup (pv 0) aR (fun _ _=>rfl)) (cL (dQ ix_tup (pv 0) aR (fun _ _=>rfl)) du))) rfl T.m_max (EV.b (ab 4 (bv 4))).out⟩)))))
theorem mJ (G_law_page:FnOk P w K mg base CX0 4 awpage dwpage ["_law_pages_here","_law_kind","_law_name","_law_t"] (spP (aO tb_law_book tb_law_page K) F_law_page)):FnOk P w K mg base CX0 5 awholds dwholds ["_law_pages_here","_law_name","_law_rule_here","_law_t","_law_opened"] (spP (aO tb_law_book tb_law_page K) F_law_holds):=by
 have eb:au cf=au cf:=rfl
 conv at eb=>rhs;whnf
 have es:ak cf=ak cf:=rfl
 conv at es=>rhs;whnf
 refine bz (N:=["_law_pages_here","_law_name","_law_rule_here","_law_t","_law_opened","_law_look","_law_told"]) (ps:=["_law_pages_here","_law_name","_law_rule_here","_law_t","_law_opened"]) (k:=4) (m:=m_law_holds) rfl T.F_law_holds sc_law_holds (by decide) eb es fun cdv A outer s H E hr=>?_
 unfold m_law_holds
 exact(aw (cy (cA (aY (bV hr.units) (bS false) (EV.b (aC ax aB (EV.b (ab 2 (bv 2))) (EV.b ao) (fun _ _=>rfl))) (EV.b aJ) (aL _)) (aF (aP (aQ (m3 gp gm eX eW (EV.b (aC ax aB (EV.b (ab 2 (bv 2))) (EV.b ao) (fun _ _=>rfl))) (EV.b (ab 3 (bv 3))) (EV.b (aC ax aB (EV.b (ab 2 (bv 2))) (EV.b ao) (fun _ _=>rfl))))))) bU))
  (aw (cy (cA (aY (bV hr.units) (bS false) (EV.b (aC ax aB (EV.b (ab 2 (bv 2))) (EV.b ao) (fun _ _=>rfl))) (EV.b aJ) (aL _)) (aw (aK (aI (i:=5) sc_law_holds.nd rfl (Or.inl rfl) (az (ay G_law_page (hr.mono (by decide)) rfl T.m_law_page T.F_law_page.kp T.b_law_page .nil aE (by refine ae (ab 0 (bv 0)) ?_;refine ae aJ ?_;refine ae (ab 1 (bv 1)) ?_;refine ae (ab 3 (bv 3)) ?_;exact aq)))))
  (aF (aP (aQ (fJ (cK jZ jX (EV.b (ab 5 (bv 5))) (EV.b cB) (aL _)) (ib (cK eX eW (EV.b (ab 3 (bv 3))) (EV.b (bc cC cW (EV.b (aC ax aB (EV.b (ab 5 (bv 5))) (EV.b ao) (fun _ _=>rfl))) (EV.b (aC ax aB (EV.b (ab 2 (bv 2))) (EV.b ao) (fun _ _=>rfl))))) (aL _)))))))) bU))
  (aw (cy (cA (aY jw (iH false) (EV.b (aC ax aB (EV.b (ab 2 (bv 2))) (EV.b ao) (fun _ _=>rfl))) (EV.b (br (ae aJ (ae aJ aq)))) rfl) (aw (aK (aI (i:=6) sc_law_holds.nd rfl (Or.inl rfl) (az (ay G_law_page (hr.mono (by decide)) rfl T.m_law_page T.F_law_page.kp T.b_law_page .nil aE (by refine ae (ab 0 (bv 0)) ?_;refine ae aJ ?_;refine ae (aC ax aB (EV.b (ab 2 (bv 2))) (EV.b ao) (fun _ _=>rfl)) ?_;refine ae (ab 3 (bv 3)) ?_;exact aq)))))
  (aw (cy (cA (aY fE fD (EV.b (ab 6 (bv 6))) (EV.b cB) (aL _)) (aF (aP (aQ gK))) bU))
  (aF (aP (aQ (fR (aY (bV hr.units) (bS false) (EV.b (aC ax aB (EV.b (ab 2 (bv 2))) (EV.b ao) (fun _ _=>rfl))) (EV.b aJ) (aL _)) (cK pU uB (EV.b (aC ax aB (EV.b (ab 6 (bv 6))) (EV.b ao) (fun _ _=>rfl))) (EV.b (aC ax aB (EV.b (ab 2 (bv 2))) (EV.b ao) (fun _ _=>rfl))) (aL _)) (cK gp gm (EV.b (aC ax aB (EV.b (ab 6 (bv 6))) (EV.b ao) (fun _ _=>rfl))) (EV.b (aC ax aB (EV.b (ab 2 (bv 2))) (EV.b ao) (fun _ _=>rfl))) (aL _)))))))) bU))
  (aF (aP (aQ (fJ (cK (bV hr.units) (bS false) (EV.b (aC ax aB (EV.b (ab 2 (bv 2))) (EV.b ao) (fun _ _=>rfl))) (EV.b aJ) (aL _)) (ib (cK jw (iH false) (EV.b (aC ax aB (EV.b (ab 2 (bv 2))) (EV.b ao) (fun _ _=>rfl))) (EV.b (ab 4 (bv 4))) rfl)))))))))
theorem mG (G_law_page:FnOk P w K mg base CX0 4 awpage dwpage ["_law_pages_here","_law_kind","_law_name","_law_t"] (spP (aO tb_law_book tb_law_page K) F_law_page)):FnOk P w K mg base CX0 5 awrules dwrules ["_law_pages_here","_law_name","_law_t"] (spP (aO tb_law_book tb_law_page K) F_law_rules):=by
 have eb:au bZ=au bZ:=rfl
 conv at eb=>rhs;whnf
 have es:ak bZ=ak bZ:=rfl
 conv at es=>rhs;whnf
 refine bz (N:=["_law_pages_here","_law_name","_law_t","_law_told"]) (ps:=["_law_pages_here","_law_name","_law_t"]) (k:=4) (m:=m_law_rules) rfl T.F_law_rules sc_law_rules (by decide) eb es fun cdv A outer s H E hr=>?_
 unfold m_law_rules
 exact(aw (aK (aI (i:=3) sc_law_rules.nd rfl (Or.inl rfl) (az (ay G_law_page (hr.mono (by decide)) rfl T.m_law_page T.F_law_page.kp T.b_law_page .nil aE (by refine ae (ab 0 (bv 0)) ?_;refine ae aJ ?_;refine ae (ab 1 (bv 1)) ?_;refine ae (ab 2 (bv 2)) ?_;exact aq)))))
  (aF (aP (aQ (fR (aY fE fD (EV.b (ab 3 (bv 3))) (EV.b cB) (aL _)) (br aq) (aC ax aB (EV.b (ab 3 (bv 3))) (EV.b ao) (fun _ _=>rfl)))))))
theorem n9 (G_law_rules:FnOk P w K mg base CX0 5 awrules dwrules ["_law_pages_here","_law_name","_law_t"] (spP (aO tb_law_book tb_law_page K) F_law_rules)) (G_law_holds:FnOk P w K mg base CX0 5 awholds dwholds ["_law_pages_here","_law_name","_law_rule_here","_law_t","_law_opened"] (spP (aO tb_law_book tb_law_page K) F_law_holds)):FnOk P w K mg base CX0 6 awopen dwopen ["_law_hill_here","_law_pages_here","_law_t"] (spP (aO tb_law_book tb_law_page K) F_law_open):=by
 have eb:au bR=au bR:=rfl
 conv at eb=>rhs;whnf
 have es:ak bR=ak bR:=rfl
 conv at es=>rhs;whnf
 refine bz (N:=["_law_hill_here","_law_pages_here","_law_t","_law_rules_here","_law_before","_law_opened","_law_name","_law_some"]) (ps:=["_law_hill_here","_law_pages_here","_law_t"]) (k:=5) (m:=m_law_open) rfl T.F_law_open sc_law_open (by decide) eb es fun cdv A outer s H E hr=>?_
 unfold m_law_open
 exact(aw (aK (gR (fM (fV (k:=3) sc_law_open.nd rfl (Or.inl rfl) (LcScope.mk2 (N:=["_law_way","_law_pages_here","_law_t"]) (js:=[none,some 1,some 2]) (ak bR) ["_law_hill_here","_law_pages_here","_law_t","_law_rules_here","_law_before","_law_opened","_law_name","_law_some"] rfl rfl (by decide +kernel)) rfl (fH (EV.b (aC ax aB (EV.b (ab 0 (bv 0))) (EV.b ao) (fun _ _=>rfl)))) (fun _ _ _ _=>(cu (aW (i:=0) (by decide:(["_law_way","_law_pages_here","_law_t"]:List Str).Nodup) rfl (Or.inl rfl)))) (fun _ _ _ _=>eG) (fun _ _ _ _=>(br (ae (aC ax aB (EV.b (ab 0 (bv 0))) (EV.b ao) (fun _ _=>rfl)) (ae (az (ay G_law_rules (hr.mono (by decide)) rfl T.m_law_rules T.F_law_rules.kp T.b_law_rules .nil aE (by refine ae (ab 1 (bv 1)) ?_;refine ae (aC ax aB (EV.b (ab 0 (bv 0))) (EV.b ao) (fun _ _=>rfl)) ?_;refine ae (ab 2 (bv 2)) ?_;exact aq))) aq))))))))
  (aw (aK (aI (i:=4) sc_law_open.nd rfl (Or.inr rfl) cB))
  (aw (fc (aI (i:=5) sc_law_open.nd rfl (Or.inl rfl) (bK aq)))
  (aw (lO 1000 (nH PassesOwn.never (aY (hG hr.units) (bS true) (EV.b (ab 4 (bv 4))) (dC 5 (bv 5)) (aL _)) (aw (qC (aK (aI (i:=4) sc_law_open.nd rfl (Or.inr rfl) (ab 5 (bv 5)))))
  (aw (fc (aI (i:=5) sc_law_open.nd rfl (Or.inl rfl) (bK aq)))
  (aF (d5 (dM PassesOwn.never rfl (i8 (ab 3 (bv 3))) (rG (ks:=[6,7]) (jL rfl (dq (aW (i:=6) sc_law_open.nd rfl (Or.inr rfl)) (dq (aW (i:=7) sc_law_open.nd rfl (Or.inl rfl)) iT)))) (aF (cy (cA (fA (ba (bt (je rfl) rfl T.m_all PyProof.Rows.boot_all (aM (EV.b (EF.v (fu (fv (LcScope.mk2 (N:=["_law_rule_here","_law_pages_here","_law_name","_law_t","_law_before"]) (js:=[none,some 1,some 6,some 2,some 4]) (ak bR) ["_law_hill_here","_law_pages_here","_law_t","_law_rules_here","_law_before","_law_opened","_law_name","_law_some"] rfl rfl (by decide +kernel)) rfl (fH (EV.b (ab 7 (bv 7)))) (fun _ _ _ _=>(cu (aW (i:=0) (by decide:(["_law_rule_here","_law_pages_here","_law_name","_law_t","_law_before"]:List Str).Nodup) rfl (Or.inl rfl)))) (fun _ _ _ _=>eG) (fun _ _ _ _=>(az (ay G_law_holds (hr.mono (by decide)) rfl T.m_law_holds T.F_law_holds.kp T.b_law_holds .nil aE (by refine ae (ab 1 (bv 1)) ?_;refine ae (ab 2 (bv 2)) ?_;refine ae (ab 0 (bv 0)) ?_;refine ae (ab 3 (bv 3)) ?_;refine ae (ab 4 (bv 4)) ?_;exact aq)))))))) a9)) nu)) (aF (fe (k:=5) (eE (fw PySem.F.plainAttrs_list PySem.F.slot_list_append PySem.F.type_list_append cZ (bv 5) (dX (ab 6 (bv 6)) eP))))) bU))))))))))
  (aF (aP (aQ (ab 5 (bv 5)))))))))
theorem pX (G_law_open:FnOk P w K mg base CX0 6 awopen dwopen ["_law_hill_here","_law_pages_here","_law_t"] (spP (aO tb_law_book tb_law_page K) F_law_open)) (G_law_rules:FnOk P w K mg base CX0 5 awrules dwrules ["_law_pages_here","_law_name","_law_t"] (spP (aO tb_law_book tb_law_page K) F_law_rules)) (G_law_holds:FnOk P w K mg base CX0 5 awholds dwholds ["_law_pages_here","_law_name","_law_rule_here","_law_t","_law_opened"] (spP (aO tb_law_book tb_law_page K) F_law_holds)):FnOk P w K mg base CX0 7 awwhy dwwhy ["_law_hill_here","_law_pages_here","_law_w","_law_t"] (spP (aO tb_law_book tb_law_page K) F_law_why):=by
 have eb:au cH=au cH:=rfl
 conv at eb=>rhs;whnf
 have es:ak cH=ak cH:=rfl
 conv at es=>rhs;whnf
 refine bz (N:=["_law_hill_here","_law_pages_here","_law_w","_law_t","_law_opened","_law_failing"]) (ps:=["_law_hill_here","_law_pages_here","_law_w","_law_t"]) (k:=6) (m:=m_law_why) rfl T.F_law_why sc_law_why (by decide) eb es fun cdv A outer s H E hr=>?_
 unfold m_law_why
 exact(aw (aK (aI (i:=4) sc_law_why.nd rfl (Or.inr rfl) (az (ay G_law_open (hr.mono (by decide)) rfl T.m_law_open T.F_law_open.kp T.b_law_open .nil aE (by refine ae (ab 0 (bv 0)) ?_;refine ae (ab 1 (bv 1)) ?_;refine ae (ab 3 (bv 3)) ?_;exact aq)))))
  (aw (aK (gR (vV (fV (k:=5) sc_law_why.nd rfl (Or.inl rfl) (LcScope.mk2 (N:=["_law_k","_law_rule_here","_law_pages_here","_law_w","_law_t","_law_opened"]) (js:=[none,none,some 1,some 2,some 3,some 4]) (ak cH) ["_law_hill_here","_law_pages_here","_law_w","_law_t","_law_opened","_law_failing"] rfl rfl (by decide +kernel)) rfl (xy (rZ rfl T.m_enumerate (ae (az (ay G_law_rules (hr.mono (by decide)) rfl T.m_law_rules T.F_law_rules.kp T.b_law_rules .nil aE (by refine ae (ab 1 (bv 1)) ?_;refine ae (ab 2 (bv 2)) ?_;refine ae (ab 3 (bv 3)) ?_;exact aq))) aq))) (fun _ _ _ _=>(xA (ks:=[0,1]) (jL rfl (dq (aW (i:=0) (by decide:(["_law_k","_law_rule_here","_law_pages_here","_law_w","_law_t","_law_opened"]:List Str).Nodup) rfl (Or.inl rfl)) (dq (aW (i:=1) (by decide:(["_law_k","_law_rule_here","_law_pages_here","_law_w","_law_t","_law_opened"]:List Str).Nodup) rfl (Or.inl rfl)) iT))))) (fun _ _ _ _=>(fb (gW (fA (az (ay G_law_holds (hr.mono (by decide)) rfl T.m_law_holds T.F_law_holds.kp T.b_law_holds .nil aE (by refine ae (ab 2 (bv 2)) ?_;refine ae (ab 3 (bv 3)) ?_;refine ae (ab 1 (bv 1)) ?_;refine ae (ab 4 (bv 4)) ?_;refine ae (ab 5 (bv 5)) ?_;exact aq))))))) (fun _ _ _ _=>(ab 0 (bv 0)))))))
  (aF (aP (aQ (fR (aY (hG hr.units) (bS true) (EV.b (ab 5 (bv 5))) (EV.b (EF.v (bK aq))) (aL _)) (aC ax aB (EV.b (ab 5 (bv 5))) (EV.b ao) (fun _ _=>rfl)) cB))))))
theorem mH (G_law_book:FnOk P w K mg base CX0 4 awbook dwbook ["_law_pages_here"] (spP (aO tb_law_book tb_law_page K) F_law_book)) (G_open_ways:FnOk P w K mg base CX0 6 a_open_ways d_open_ways ["hill","book","t"] (spP (aO tb_law_book tb_law_page K) F_open_ways)) (G_law_why:FnOk P w K mg base CX0 7 awwhy dwwhy ["_law_hill_here","_law_pages_here","_law_w","_law_t"] (spP (aO tb_law_book tb_law_page K) F_law_why)) (G_why_shut:FnOk P w K mg base CX0 7 a_why_shut d_why_shut ["hill","book","w","t"] (spP (aO tb_law_book tb_law_page K) F_why_shut)):FnOk P w K mg base CX0 8 awright dwright ["_law_hill_here","_law_pages_here","_law_t"] (spP (aO tb_law_book tb_law_page K) F_law_right):=by
 have eb:au cb=au cb:=rfl
 conv at eb=>rhs;whnf
 have es:ak cb=ak cb:=rfl
 conv at es=>rhs;whnf
 refine bz (N:=["_law_hill_here","_law_pages_here","_law_t","_law_book_here","_law_told","_law_way","_law_due"]) (ps:=["_law_hill_here","_law_pages_here","_law_t"]) (k:=7) (m:=m_law_right) rfl T.F_law_right sc_law_right (by decide) eb es fun cdv A outer s H E hr=>?_
 unfold m_law_right
 exact(aw (aK (aI (i:=3) sc_law_right.nd rfl (Or.inl rfl) (az (ay G_law_book (hr.mono (by decide)) rfl T.m_law_book T.F_law_book.kp T.b_law_book .nil aE (ae (ab 1 (bv 1)) aq)))))
  (aw (aK (aI (i:=4) sc_law_right.nd rfl (Or.inl rfl) (az (ay G_open_ways (hr.mono (by decide)) rfl T.m_open_ways T.F_open_ways.kp T.b_open_ways .nil aE (by refine ae (ab 0 (bv 0)) ?_;refine ae (ab 3 (bv 3)) ?_;refine ae (ab 2 (bv 2)) ?_;exact aq)))))
  (aw (d5 (dM PassesOwn.never rfl (i8 (aC ax aB (EV.b (ab 0 (bv 0))) (EV.b ao) (fun _ _=>rfl))) (dB (aW (i:=5) sc_law_right.nd rfl (Or.inl rfl))) (aw (aK (aI (i:=6) sc_law_right.nd rfl (Or.inl rfl) (az (ay G_law_why (hr.mono (by decide)) rfl T.m_law_why T.F_law_why.kp T.b_law_why .nil aE (by refine ae (ab 0 (bv 0)) ?_;refine ae (ab 1 (bv 1)) ?_;refine ae (aC ax aB (EV.b (ab 5 (bv 5))) (EV.b ao) (fun _ _=>rfl)) ?_;refine ae (ab 2 (bv 2)) ?_;exact aq)))))
  (aF (cy (cA (WV.t (ly (aY (hG hr.units) (bS true) (EV.b (ba (bt (jI hr.gd hr.units) rfl T.m_repr PyProof.Rows.boot_repr (aM (EV.b (az (ay G_why_shut (hr.mono (by decide)) rfl T.m_why_shut T.F_why_shut.kp T.b_why_shut .nil aE (by refine ae (ab 0 (bv 0)) ?_;refine ae (ab 3 (bv 3)) ?_;refine ae (aC ax aB (EV.b (ab 5 (bv 5))) (EV.b ao) (fun _ _=>rfl)) ?_;refine ae (ab 2 (bv 2)) ?_;exact aq)))) a9)) nr)) (EV.b (ba (bt (jI hr.gd hr.units) rfl T.m_repr PyProof.Rows.boot_repr (aM (EV.b (ab 6 (bv 6))) a9)) nr)) (aL _)) (jj (aY (hG hr.units) (bS true) (EV.b (cK jw (iH false) (EV.b (aC ax aB (EV.b (ab 5 (bv 5))) (EV.b ao) (fun _ _=>rfl))) (EV.b (ab 4 (bv 4))) rfl)) (EV.b (cK fE fD (EV.b (ab 6 (bv 6))) (EV.b cB) (aL _))) (aL _))))) (aF (aP (aQ gK))) bU))))))
  (aF (aP (aQ gK))))))
theorem pY (G_law_pick:FnOk P w K mg base CX0 1 awpick dwpick ["_law_state","_law_many"] (spP (aO tb_law_book tb_law_page K) F_law_pick)):FnOk P w K mg base CX0 2 awsix dwsix ["_law_state","_law_hill_here"] (spP (aO tb_law_book tb_law_page K) F_law_six):=by
 have eb:au cJ=au cJ:=rfl
 conv at eb=>rhs;whnf
 have es:ak cJ=ak cJ:=rfl
 conv at es=>rhs;whnf
 refine bz (N:=["_law_state","_law_hill_here","_law_first","_law_n","_law_good","_law_bad","_law_rules_here","_law_k"]) (ps:=["_law_state","_law_hill_here"]) (k:=1) (m:=m_law_six) rfl T.F_law_six sc_law_six (by decide) eb es fun cdv A outer s H E hr=>?_
 unfold m_law_six
 exact(aw (qB (rT (i:=2) (j:=3) rfl sc_law_six.nd rfl rfl (by decide) rfl rfl (ae (bc cC cW (EV.b ao) (EV.b (az (ay G_law_pick (hr.mono (by decide)) rfl T.m_law_pick T.F_law_pick.kp T.b_law_pick .nil aE (ae (ab 0 (bv 0)) (ae ao aq)))))) (ae (bc jv ju (EV.b ao) (EV.b (az (ay G_law_pick (hr.mono (by decide)) rfl T.m_law_pick T.F_law_pick.kp T.b_law_pick .nil aE (ae (ab 0 (bv 0)) (ae ao aq)))))) aq)) rfl))
  (aw (aK (aI (i:=4) sc_law_six.nd rfl (Or.inr rfl) (EF.v (bK (by refine ae (br (by refine ae aJ ?_;refine ae ao ?_;refine ae (ab 2 (bv 2)) ?_;exact aq)) ?_;refine ae (br (by refine ae aJ ?_;refine ae aJ ?_;refine ae (ab 3 (bv 3)) ?_;exact aq)) ?_;refine ae (br (by refine ae aJ ?_;refine ae aJ ?_;refine ae ao ?_;exact aq)) ?_;exact aq)))))
  (aw (fc (aI (i:=5) sc_law_six.nd rfl (Or.inl rfl) (bK (by refine ae (br (by refine ae aJ ?_;refine ae ao ?_;refine ae ao ?_;exact aq)) ?_;refine ae (br (by refine ae aJ ?_;refine ae aJ ?_;refine ae ao ?_;exact aq)) ?_;refine ae (br (by refine ae aJ ?_;refine ae aJ ?_;refine ae ao ?_;exact aq)) ?_;refine ae (br (ae aJ aq)) ?_;refine ae (br (ae aJ (ae ao aq))) ?_;exact aq))))
  (aw (fe (k:=5) (eE (fw PySem.F.plainAttrs_list PySem.F.slot_list_append PySem.F.type_list_append cZ (bv 5) (dX (br (by refine ae aJ ?_;refine ae aJ ?_;refine ae ao ?_;exact aq)) eP))))
  (aw (fc (fM (fV (k:=6) sc_law_six.nd rfl (Or.inl rfl) (LcScope.mk2 (N:=["_law_k","_law_good","_law_state"]) (js:=[none,some 4,some 0]) (ak cJ) ["_law_state","_law_hill_here","_law_first","_law_n","_law_good","_law_bad","_law_rules_here","_law_k"] rfl rfl (by decide +kernel)) rfl (eC (dh rfl T.m_range (aM (EV.b ao) a9))) (fun _ _ _ _=>(cu (aW (i:=0) (by decide:(["_law_k","_law_good","_law_state"]:List Str).Nodup) rfl (Or.inl rfl)))) (fun _ _ _ _=>eG) (fun _ _ _ _=>(aC ax aB (EV.b (ab 1 (bv 1))) (EV.b (az (ay G_law_pick (hr.mono (by decide)) rfl T.m_law_pick T.F_law_pick.kp T.b_law_pick .nil aE (ae (ab 2 (bv 2)) (ae ao aq))))) (fun _ _=>rfl))))))
  (aw (d5 (dM PassesOwn.never rfl (eC (dh rfl T.m_range (aM (EV.b (az (ay G_law_pick (hr.mono (by decide)) rfl T.m_law_pick T.F_law_pick.kp T.b_law_pick .nil aE (ae (ab 0 (bv 0)) (ae ao aq))))) a9))) (dB (aW (i:=7) sc_law_six.nd rfl (Or.inl rfl))) (aF (uO (k:=6) (rV (aC ax aB (dC 5 (bv 5)) (EV.b (az (ay G_law_pick (hr.mono (by decide)) rfl T.m_law_pick T.F_law_pick.kp T.b_law_pick .nil aE (ae (ab 0 (bv 0)) (ae ao aq))))) (fun _ _=>rfl)) (xJ (bv 6) (EV.b (az (ay G_law_pick (hr.mono (by decide)) rfl T.m_law_pick T.F_law_pick.kp T.b_law_pick .nil aE (ae (ab 0 (bv 0)) (ae ao aq))))) set_list))))))
  (aF (aP (aQ (EF.v (bK (ae (br (by refine ae aJ ?_;refine ae ao ?_;refine ae ao ?_;refine ae (aC ax aB (EV.b (aC ax aB (EV.b (aC ax aB (EV.b (ab 1 (bv 1))) (EV.b ao) (fun _ _=>rfl))) (EV.b ao) (fun _ _=>rfl))) (EV.b ao) (fun _ _=>rfl)) ?_;refine ae (ba (dN dw rfl T.m_tuple PyProof.Rows.boot_tuple (aM (EV.b (ab 6 (bv 6))) a9)) ij) ?_;exact aq)) (ae (br (by refine ae aJ ?_;refine ae ao ?_;refine ae ao ?_;refine ae aJ ?_;refine ae ao ?_;exact aq)) aq)))))))))))))
theorem xa (G_law_start:FnOk P w K mg base CX0 1 awstart dwstart ["_law_script"] (jR K)) (G_law_hill:FnOk P w K mg base CX0 4 awhill dwhill ["_law_state","_law_most","_law_scale"] (spP (aO tb_law_book tb_law_page K) F_law_hill)) (G_law_six:FnOk P w K mg base CX0 2 awsix dwsix ["_law_state","_law_hill_here"] (spP (aO tb_law_book tb_law_page K) F_law_six)) (G_law_pages:FnOk P w K mg base CX0 4 awpages dwpages ["_law_state","_law_hill_here","_law_scale","_law_many"] (spP (aO tb_law_book tb_law_page K) F_law_pages)) (G_law_pick:FnOk P w K mg base CX0 1 awpick dwpick ["_law_state","_law_many"] (spP (aO tb_law_book tb_law_page K) F_law_pick)) (G_law_right:FnOk P w K mg base CX0 8 awright dwright ["_law_hill_here","_law_pages_here","_law_t"] (spP (aO tb_law_book tb_law_page K) F_law_right)) (hm:(fQ ((List.replicate 7 Ent.un).set 1 (.val .bag))).wp 1000000 fun f _=>f= .rt (.bl true)):FnOk P w K mg base CX0 9 a_law d_law ["_law_script"] (gf K [tb_law_book,tb_law_page]):=by
 have eb:au dP=au dP:=rfl
 conv at eb=>rhs;whnf
 have es:ak dP=ak dP:=rfl
 conv at es=>rhs;whnf
 refine L2.law_okP (tabs:=[(tb_law_book,(("_law_book":Str)++".<locals>."++"<lambda>")),(tb_law_page,(("_law_page":Str)++".<locals>."++"<lambda>"))]) (N:=["_law_script","_law_state","_law_scale","_law_hill_here","_law_six_here","_law_pages_here","_law_page_here"]) (k:=8) (b:=1) (m:=fQ) T.F_law sc_law eb es (fun cdv A outer s H E hr=>?_) (fun cdv A outer s H E hr=>?_) hm (by decide) (by decide) (by decide)
 ·exact(aI (i:=1) sc_law.nd rfl (Or.inl rfl) (ay G_law_start (hr.mono (by decide)) rfl T.m_law_start T.F_law_start.kp T.b_law_start .nil aE (dX (bv 0) eP)))
 ·unfold fQ
  exact(aw (aK (aI (i:=2) sc_law.nd rfl (Or.inl rfl) (aC ax aB (EV.b (EF.v (bK (by refine ae ao ?_;refine ae ao ?_;refine ae ao ?_;exact aq)))) (EV.b (az (ay G_law_pick (hr.mono (by decide)) rfl T.m_law_pick T.F_law_pick.kp T.b_law_pick .nil aE (ae (ab 1 (bv 1)) (ae ao aq))))) (fun _ _=>rfl))))
  (aw (aK (aI (i:=3) sc_law.nd rfl (Or.inl rfl) (az (ay G_law_hill (hr.mono (by decide)) rfl T.m_law_hill T.F_law_hill.kp T.b_law_hill .nil aE (by refine ae (ab 1 (bv 1)) ?_;refine ae ao ?_;refine ae (ab 2 (bv 2)) ?_;exact aq)))))
  (aw (aK (aI (i:=4) sc_law.nd rfl (Or.inl rfl) (az (ay G_law_six (hr.mono (by decide)) rfl T.m_law_six T.F_law_six.kp T.b_law_six .nil aE (ae (ab 1 (bv 1)) (ae (ab 3 (bv 3)) aq))))))
  (aw (aK (aI (i:=5) sc_law.nd rfl (Or.inl rfl) (az (ay G_law_pages (hr.mono (by decide)) rfl T.m_law_pages T.F_law_pages.kp T.b_law_pages .nil aE (by refine ae (ab 1 (bv 1)) ?_;refine ae (ab 3 (bv 3)) ?_;refine ae (ab 2 (bv 2)) ?_;refine ae (az (ay G_law_pick (hr.mono (by decide)) rfl T.m_law_pick T.F_law_pick.kp T.b_law_pick .nil aE (ae (ab 1 (bv 1)) (ae ao aq)))) ?_;exact aq)))))
  (aw (d5 (dM PassesOwn.never rfl (i8 (EF.v (m9 (qj op_cat (EV.b (mZ (nJ wg (EV.b (ab 5 (bv 5))) oQ (oP (EV.b ao))) wb)) (EV.b (EF.v (bK (ae (br (by refine ae aJ ?_;refine ae ao ?_;refine ae ao ?_;exact aq)) (ae (br (by refine ae aJ ?_;refine ae ao ?_;refine ae (aC ax aB (EV.b (ab 3 (bv 3))) (EV.b ao) (fun _ _=>rfl)) ?_;exact aq)) aq))))))))) (dB (aW (i:=6) sc_law.nd rfl (Or.inl rfl))) (aF (cy (cA (WV.t (ly (gW (fA (az (ay G_law_right (hr.mono (by decide)) rfl T.m_law_right T.F_law_right.kp T.b_law_right .nil aE (by refine ae (ab 3 (bv 3)) ?_;refine ae (ab 5 (bv 5)) ?_;refine ae (aC ax aB (EV.b (ab 6 (bv 6))) (EV.b ao) (fun _ _=>rfl)) ?_;exact aq))))) (jj (gW (fA (az (ay G_law_right (hr.mono (by decide)) rfl T.m_law_right T.F_law_right.kp T.b_law_right .nil aE (by refine ae (ab 3 (bv 3)) ?_;refine ae (ab 5 (bv 5)) ?_;refine ae (ba (bt (iq rfl) rfl T.m_min PyProof.Rows.boot_min (aM (EV.b (aC ax aB (EV.b (ab 3 (bv 3))) (EV.b ao) (fun _ _=>rfl))) (aM (EV.b (bc cC cW (EV.b (aC ax aB (EV.b (ab 6 (bv 6))) (EV.b ao) (fun _ _=>rfl))) (EV.b ao))) a9))) kl) ?_;exact aq)))))))) (aF (aP (aQ gK))) bU)))))
  (aF (aP (aQ (fJ (az (ay G_law_right (hr.mono (by decide)) rfl T.m_law_right T.F_law_right.kp T.b_law_right .nil aE (by refine ae (ab 3 (bv 3)) ?_;refine ae (ab 4 (bv 4)) ?_;refine ae ao ?_;exact aq))) (fJ (az (ay G_law_right (hr.mono (by decide)) rfl T.m_law_right T.F_law_right.kp T.b_law_right .nil aE (by refine ae (ab 3 (bv 3)) ?_;refine ae (az (ay G_law_six (hr.mono (by decide)) rfl T.m_law_six T.F_law_six.kp T.b_law_six .nil aE (ae (ab 1 (bv 1)) (ae (ab 3 (bv 3)) aq)))) ?_;refine ae ao ?_;exact aq))) (ib (az (ay G_law_right (hr.mono (by decide)) rfl T.m_law_right T.F_law_right.kp T.b_law_right .nil aE (by refine ae (ab 3 (bv 3)) ?_;refine ae (ab 4 (bv 4)) ?_;refine ae ao ?_;exact aq))))))))))))))
end
theorem eqI (i j:Int):eqO false (.int i) (.int j)= .ret (.bl (i==j)):=by
 show M.ret (PV.bl (xor false (i==j)))=_
 simp
theorem eqS (i j:Str):eqO false (.str i) (.str j)= .ret (.bl (i==j)):=by
 show M.ret (PV.bl (xor false (i==j)))=_
 simp
theorem aG {m k:ah→M Fl} {ρ ρ':ah} {Y:M PV} (h:m ρ= .ret (.nx ρ')) (h':(k ρ').bind bp=Y):(av m k ρ).bind bp=Y:=by
 unfold av;rw[h];exact h'
theorem eL {c:ah→M Bool} {a b:ah→M Fl} {ρ:ah} (h:c ρ= .ret false):ifP c a b ρ=b ρ:=by unfold ifP;rw[h];rfl
theorem dF {c:ah→M Bool} {a b:ah→M Fl} {ρ:ah} (h:c ρ= .ret true):ifP c a b ρ=a ρ:=by unfold ifP;rw[h];rfl
theorem bf {m:ah→M PV} {ρ:ah} {y:PV} (h:m (ρ.map Ent.freeze)= .ret y):a7 m ρ= .ret (.rt y):=by unfold a7;rw[h];rfl
theorem bD {m:ah→M Fl} {ρ:ah} {y:PV} (h:m ρ= .ret (.rt y)):(m ρ).bind bp= .ret y:=by rw[h];rfl
theorem gV0 (y:PV) (ρ:ah):af (.val y::ρ) 0= .ret y:=rfl
theorem gVs (e:Ent) (ρ:ah) (i:Nat):af (e::ρ) (i+1)=af ρ i:=rfl
theorem ki (l:List PV) (ρ:ah):bT (.own l::ρ) 0= .ret (.lst l):=rfl
theorem gBs (e:Ent) (ρ:ah) (i:Nat):bT (e::ρ) (i+1)=bT ρ i:=rfl
theorem dA {α:Type} {l:List α} {d:Int} (h0:0≤d) (h1:d < l.length): ∃ y∈l,atI l d=some y:=by
 have hd:d.toNat < l.length:=by lia
 have e:d=((d.toNat:Nat):Int):=by lia
 refine⟨l[d.toNat],List.getElem_mem hd,?_⟩
 have q:=pd (List.getElem?_eq_getElem hd)
 rw[←e] at q
 exact q
theorem i2: ∀ (ys:List Str),(∀ z∈ys,z.length=1)→(ys.map (·.length)).sum=ys.length
 |[],_=>rfl
 |y::r,h=>by
  have:=i2 r fun z hz=>h z (List.mem_cons_of_mem _ hz)
  rw[List.map_cons,List.sum_cons,this,h y List.mem_cons_self,List.length_cons]
  lia
theorem join_ones (ys:List Str) (h: ∀ z∈ys,z.length=1):(Txt.join (Str.ofString "") ys).length=ys.length:=by
 show (Builtin.Str.glued (Str.ofString "") ys).length=_
 rw[PySem.size_glued]
 have e:(Str.ofString "").length=0:=by decide
 rw[e]
 have:=i2 ys h
 lia
noncomputable def Lets (x:Str):Prop:= ∀ c∈x.cps.toList,97≤c∧c≤122
noncomputable def One (y:PV):Prop:= ∃ c:Nat,y= .str ⟨#[c]⟩∧97≤c∧c≤122
theorem lQ: ∀ (l:List PV),(∀ y∈l,One y)→∃ ys,strsOf l=some ys∧ys.length=l.length∧∀ z∈ys,z.length=1∧Lets z
 |[],_=>⟨[],rfl,rfl,fun z hz=>by simp at hz⟩
 |y::l,h=>by
  obtain⟨ys,e1,e2,e3⟩:=lQ l fun y hy=>h y (List.mem_cons_of_mem _ hy)
  obtain⟨c,rfl,hc⟩:=h y List.mem_cons_self
  exact⟨⟨#[c]⟩::ys,by simp[strsOf,e1],by simp[e2],fun u hu=>by
   rcases List.mem_cons.mp hu with rfl|hu
   ·exact⟨rfl,fun d hd=>by simp at hd;subst hd;exact hc⟩
   ·exact e3 u hu⟩
theorem kO (sep:Str) (hs:Lets sep): ∀ (ys:List Str) (acc:Array Nat),(∀ z∈ys,Lets z)→(∀ c∈acc.toList,97≤c∧c≤122)→∀ c∈(ys.foldl (fun acc p=>acc++sep.cps++p.cps) acc).toList,97≤c∧c≤122
 |[],acc,_,ha=>ha
 |y::ys,acc,h,ha=>by
  rw[List.foldl_cons]
  refine kO sep hs ys _ (fun z hz=>h z (List.mem_cons_of_mem _ hz)) fun c hc=>?_
  rw[Array.toList_append,Array.toList_append,List.mem_append,List.mem_append] at hc
  rcases hc with(hc|hc)|hc
  ·exact ha c hc
  ·exact hs c hc
  ·exact h y List.mem_cons_self c hc
theorem rC (ys:List Str) (h: ∀ z∈ys,Lets z):Lets (Txt.join (Str.ofString "") ys):=by
 have he:Lets (Str.ofString ""):=fun c hc=>by
  have:(Str.ofString "").cps.toList=[]:=by decide
  rw[this] at hc;simp at hc
 show Lets (Builtin.Str.glued (Str.ofString "") ys)
 unfold Builtin.Str.glued
 cases ys with
 |nil=>exact fun c hc=>by simp[Str.empty] at hc
 |cons y ys=>exact kO _ he ys _ (fun z hz=>h z (List.mem_cons_of_mem _ hz)) (h y List.mem_cons_self)
theorem xH (x:Str) (j:Int) (c:Nat) (hc:(c:Int)=if j < 0 then max 0 (j+x.length) else min j x.length):Txt.slice x none (some j)=⟨(x.cps.toList.take c).toArray⟩:=by
 have hle:c≤x.length:=by split at hc<;>lia
 have e:Builtin.Str.strSliceIndices none (some j) 1 x.length=Builtin.Str.strSliceIndices (some ((0:Nat):Int)) (some (c:Int)) 1 x.length:=by
  unfold Builtin.Str.strSliceIndices
  simp
  congr 1<;>lia
 have e2:=StrLaws.sliceText_nat x (Nat.zero_le c) hle
 have e3:Txt.slice x none (some j)=StrLaws.sliceText x (some ((0:Nat):Int)) (some (c:Int)):=by
  unfold Txt.slice StrLaws.sliceText
  rw[e]
 rw[e3,e2,List.drop_zero,Nat.sub_zero]
theorem t5 {x:Str} (h:Lets x) (c:Nat):Lets ⟨(x.cps.toList.take c).toArray⟩:=fun d hd=>h d (List.mem_of_mem_take (by simpa using hd))
theorem kq (x:Str) (c:Nat):(⟨(x.cps.toList.take c).toArray⟩:Str).length=min c x.length:=by
 show (x.cps.toList.take c).toArray.size=_
 rw[List.size_toArray,List.length_take]
 simp[Str.length]
theorem ud {x y:Str} (hx:Lets x) (hy:Lets y):Lets (x++y):=fun c hc=>by
 have:c∈x.cps.toList++y.cps.toList:=by
  rw[←Array.toList_append];exact hc
 rcases List.mem_append.mp this with h|h
 ·exact hx c h
 ·exact hy c h
theorem pf (x y:Str):(x++y).length=x.length+y.length:=Array.size_append
theorem bA {m k:ah→M Fl} {ρ:ah} {c d:Nat} {I:ah→Prop} {Pr:PV→Prop} (h:Gen (m ρ) c fun f=> ∃ ρ',f= .nx ρ'∧I ρ') (h': ∀ ρ',I ρ'→Gen ((k ρ').bind bp) d Pr):Gen ((av m k ρ).bind bp) (c+d) Pr:=by
 unfold av
 rw[M.bind_assoc]
 refine Gen.bind h fun f hf=>?_
 obtain⟨ρ',rfl,hi⟩:=hf
 exact h' ρ' hi
theorem eM {m k:ah→M Fl} {ρ:ah} {c d:Nat} {I:ah→Prop} {Pr:Fl→Prop} (h:Gen (m ρ) c fun f=> ∃ ρ',f= .nx ρ'∧I ρ') (h': ∀ ρ',I ρ'→Gen (k ρ') d Pr):Gen (av m k ρ) (c+d) Pr:=by
 unfold av
 refine Gen.bind h fun f hf=>?_
 obtain⟨ρ',rfl,hi⟩:=hf
 exact h' ρ' hi
theorem gnx {m:ah→M Fl} {ρ ρ':ah} {I:ah→Prop} (h:m ρ= .ret (.nx ρ')) (hi:I ρ'):Gen (m ρ) 0 fun f=> ∃ ρ',f= .nx ρ'∧I ρ':=Gen.eq h ⟨ρ',rfl,hi⟩
theorem mW {k:Nat} {mb:ah→M Fl} {c:Nat} {Iv:Nat→ah→Prop}: ∀ (l:List PV) (i:Nat) (ρ:ah),Iv i ρ→(∀ y∈l,∀ j < i+l.length,∀ ρ,Iv j ρ→Gen (mb (ρ.set k (.val y))) c fun f=> ∃ ρ',f= .nx ρ'∧Iv (j+1) ρ')→Gen (bC (aN k) mb l ρ) (l.length * c) fun f=> ∃ ρ',f= .nx ρ'∧Iv (i+l.length) ρ'
 |[],i,ρ,h,_=>Gen.le (Gen.ret ⟨ρ,rfl,h⟩) (by simp)
 |y::l,i,ρ,h,hb=>by
  unfold bC
  simp only[aN,M.ret_bind]
  refine Gen.le (Gen.bind (hb y List.mem_cons_self i (by simp) ρ h) fun f hf=>?_) (d:=(y::l).length * c) (Nat.le_of_eq (?_:c+l.length * c=_))
  ·obtain⟨ρ',rfl,h'⟩:=hf
   have q:=mW l (i+1) ρ' h' fun y' hy j hj=>hb y' (List.mem_cons_of_mem _ hy) j (by simp only[List.length_cons];lia)
   rw[show i+(y::l).length=i+1+l.length by simp only[List.length_cons];lia]
   exact q
  ·simp only[List.length_cons,Nat.succ_mul];lia
noncomputable def inN (zs:List Str) (x:Str):Bool:=zs.any fun z=>z==x
theorem inN_iff {zs:List Str} {x:Str}:inN zs x=true↔x∈zs:=by
 unfold inN
 rw[List.any_eq_true]
 constructor
 ·rintro⟨z,hz,e⟩;rw[←eq_of_beq e];exact hz
 ·intro h;exact⟨x,h,beq_self_eq_true x⟩
theorem kP (zs:List Str):(zs.map PV.str).all aZ=true:=by
 rw[List.all_eq_true]
 intro y hy
 obtain⟨z,_,rfl⟩:=List.mem_map.mp hy
 rfl
theorem mS (x:Str) (zs:List Str) (b:Bool):inO b (.str x) (.lst (zs.map PV.str))= .ret (.bl (xor b (inN zs x))):=by
 have e:fj (.str x) (zs.map PV.str)=inN zs x:=by
  unfold fj inN
  rw[List.any_map]
  rfl
 unfold inO
 dsimp only
 rw[kP,e]
 simp[aZ,toV,cz]
theorem hV {a b:Int} (h0: -1000000000000 < a) (h1:a < 1000000000000):dZ (.int a) (.int b)= .ret (.int (a * b)):=by
 have e:(2:Int) ^ 64=18446744073709551616:=by decide
 unfold dZ j4
 dsimp only
 rw[if_pos (show CMul a b from Or.inl ⟨by lia,by lia⟩)]
theorem xh (a b c:PV):aU [a,b,c]= .ret [a,b,c]:=by simp[aU]
theorem tm (a b c d:PV):aU [a,b,c,d]= .ret [a,b,c,d]:=by simp[aU]
theorem xg (a:PV):aT [a]= .ret (.tup [a]):=by simp[aT]
theorem p3 (a b:PV):aT [a,b]= .ret (.tup [a,b]):=by simp[aT]
theorem i6 (a b c:PV):aT [a,b,c]= .ret (.tup [a,b,c]):=by simp[aT]
theorem xB {l:List PV} {n:Int} (hn:(l.length:Int)=n) (h0:0 < l.length) (h1:l.length < 1000):Gen ((fT [.bag,.int n]).bind fun i=>ixO (.lst l) i) 1 (fun y=>y∈l):=by
 refine Gen.le (Gen.bind (Gen.draw (by first|decide|lia) (by first|decide|lia)) (d:=0) ?_) (Nat.le_refl _)
 rintro _ ⟨d,rfl,d0,d1⟩
 obtain⟨y,hy,e⟩:=dA (l:=l) d0 (by first|decide|lia)
 exact Gen.eq (y:=y) (by simp[ixO,e,M.ofO]) hy
theorem at0 (a:PV) (r:List PV):atI (a::r) 0=some a:=by unfold atI ixN;simp
theorem uD {c:ah→M Bool} {a b:ah→M PV} {ρ:ah} (h:c ρ= .ret true):ifV c a b ρ=a ρ:=by unfold ifV;rw[h];rfl
theorem p7 {c:ah→M Bool} {a b:ah→M PV} {ρ:ah} (h:c ρ= .ret false):ifV c a b ρ=b ρ:=by unfold ifV;rw[h];rfl
noncomputable def Sh (x:Str):Prop:=x.length≤8∧∀ c∈x.cps.toList,c < 16 ^ 8
instance (x:Str):Decidable (Sh x):=by unfold Sh;infer_instance
theorem ss {x:Str} (h:Sh x):Sml 82 0 (.str x):=uU h.1 h.2
theorem si {i:Int} (h:i.natAbs < 10 ^ 61):Sml 82 0 (.int i):=(uW h).mono (by first|decide|lia) (Nat.le_refl _)
theorem vH (x:Int) (ns:List Int):inO false (.int x) (.lst (ns.map PV.int))= .ret (.bl (decide (x∈ns))):=by
 have hf:(ns.map PV.int).all aZ=true:=by
  rw[List.all_eq_true]
  intro y hy
  obtain⟨z,_,rfl⟩:=List.mem_map.mp hy
  rfl
 have hm:fj (.int x) (ns.map PV.int)=decide (x∈ns):=by
  unfold fj
  rw[List.any_map]
  induction ns with
  |nil=>simp
  |cons a l ih=>
   rw[List.any_cons,ih (by
    rw[List.all_eq_true]
    intro y hy
    obtain⟨z,_,rfl⟩:=List.mem_map.mp hy
    rfl)]
   by_cases c:a=x
   ·subst c;simp[toV,eqV]
   ·have c': ¬ x=a:=fun z=>c z.symm
    simp[toV,eqV,c,c']
 unfold inO
 dsimp only
 rw[hf,hm]
 simp[aZ,toV,cz]
theorem sub_len: ∀ (l m:List Int),l.Nodup→(∀ x∈l,x∈m)→l.length≤m.length
 |[],m,_,_=>Nat.zero_le _
 |x::l,m,nd,hs=>by
  rw[List.nodup_cons] at nd
  have hx:=hs x List.mem_cons_self
  have:=sub_len l (m.erase x) nd.2 fun y hy=>(List.mem_erase_of_ne (fun z:y=x=>nd.1 (z▸hy))).mpr (hs y (List.mem_cons_of_mem _ hy))
  rw[List.length_erase_of_mem hx] at this
  have hp:0 < m.length:=List.length_pos_of_mem hx
  rw[List.length_cons]
  lia
theorem big {c:Nat} {y:PV} (h:Sml 82 0 y):Sml 2500 2 y:=h.mono (by first|decide|lia) (by first|decide|lia)
theorem yF (a b c d:PV):aT [a,b,c,d]= .ret (.tup [a,b,c,d]):=by simp[aT]
theorem tj (a b c d e:PV):aT [a,b,c,d,e]= .ret (.tup [a,b,c,d,e]):=by simp[aT]
theorem tu:aU []= .ret []:=by simp[aU]
theorem neL (l:List PV):eqO true (.lst l) (.lst [])= .ret (.bl (!l.isEmpty)):=by cases l<;>rfl
theorem yE (a b c d e f:PV):aT [a,b,c,d,e,f]= .ret (.tup [a,b,c,d,e,f]):=by simp[aT]
theorem xi (a:PV):aU [a]= .ret [a]:=by simp[aU]
theorem mN (a b:PV):aU [a,b]= .ret [a,b]:=by simp[aU]
noncomputable def PageT (n:Int) (y:PV):Prop:= ∃ (w z:Str) (m:Int) (r:List PV),y= .tup (.str w::.int n::.int m::.str z::r)∧((w="look"∧r=[])∨((w="read"∨w="rule")∧∃ v,r=[v]∧Sml 2500 2 v∧noL v=true))∧0≤m∧m≤1000000
noncomputable def PagesN (l:List PV) (ns:List Int):Prop:=ns.length=l.length∧ns.Nodup∧(∀ n∈ns,0≤n∧n < 1000000)∧∀ (i:Nat) (n:Int) (z:PV),ns[i]?=some n→l[i]?=some z→PageT n z
theorem PagesN.snoc {l:List PV} {ns:List Int} {n:Int} {z:PV} (h:PagesN l ns) (hn:n∉ns) (h0:0≤n) (h1:n < 1000000) (hz:PageT n z):PagesN (l++[z]) (ns++[n]):=by
 obtain⟨g1,g2,g3,g4⟩:=h
 refine⟨by simp[g1],?_,fun x hx=>?_,fun i x y hx hy=>?_⟩
 ·rw[List.nodup_append]
  exact⟨g2,by simp,fun a ha b hb=>by rw[List.mem_singleton.mp hb];exact fun e=>hn (e▸ha)⟩
 ·rcases List.mem_append.mp hx with hx|hx
  ·exact g3 x hx
  ·rw[List.mem_singleton.mp hx];exact⟨h0,h1⟩
 ·by_cases c:i < l.length
  ·rw[List.getElem?_append_left (by first|decide|lia)] at hx
   rw[List.getElem?_append_left c] at hy
   exact g4 i x y hx hy
  ·rw[List.getElem?_append_right (by first|decide|lia)] at hx hy
   by_cases e:i - l.length=0
   ·rw[e] at hy
    rw[show i - ns.length=0 by lia] at hx
    simp at hx hy
    subst hx hy
    exact hz
   ·rw[List.getElem?_eq_none (by simp;lia)] at hy
    cases hy
theorem PageT.key {n:Int} {y:PV} (h:PageT n y): ∃ m:Int,eK y=some (m,n)∧0≤m∧m≤1000000:=by
 obtain⟨w,z,m,r,rfl,_,m0,m1⟩:=h
 exact⟨m,rfl,m0,m1⟩
theorem PagesN.at {l:List PV} {ns:List Int} (h:PagesN l ns) {z:PV} (hz:z∈l): ∃ n,PageT n z∧0≤n∧n < 1000000:=by
 obtain⟨i,hi,e⟩:=List.getElem_of_mem hz
 have hi':i < ns.length:=by rw[h.1];exact hi
 have hn:=h.2.2.1 _ (List.getElem_mem hi')
 exact⟨_,h.2.2.2 i _ z (List.getElem?_eq_getElem hi') (List.getElem?_eq_some_iff.mpr ⟨hi,e⟩),hn⟩
theorem PagesN.okp {l:List PV} {ns:List Int} (h:PagesN l ns) {z:PV} (hz:z∈l):okP z=true:=by
 obtain⟨n,hp,n0,n1⟩:=h.at hz
 obtain⟨m,e,_⟩:=hp.key
 unfold okP
 rw[e]
 simp[n0,n1]
theorem PagesN.nd {l:List PV} {ns:List Int} (h:PagesN l ns):(l.map rPV).Nodup:=by
 unfold List.Nodup
 rw[List.pairwise_map,List.pairwise_iff_getElem]
 intro i j hi hj hij e
 have hi':i < ns.length:=by rw[h.1];exact hi
 have hj':j < ns.length:=by rw[h.1];exact hj
 obtain⟨m,e1,_⟩:=(h.2.2.2 i _ _ (List.getElem?_eq_getElem hi') (List.getElem?_eq_getElem hi)).key
 obtain⟨m',e2,_⟩:=(h.2.2.2 j _ _ (List.getElem?_eq_getElem hj') (List.getElem?_eq_getElem hj)).key
 have b1:=h.2.2.1 _ (List.getElem_mem hi')
 have b2:=h.2.2.1 _ (List.getElem_mem hj')
 have r1:rPV l[i]=m * 1000000+ns[i]:=by unfold rPV kPV;rw[e1];rfl
 have r2:rPV l[j]=m' * 1000000+ns[j]:=by unfold rPV kPV;rw[e2];rfl
 rw[r1,r2] at e
 exact List.pairwise_iff_getElem.mp h.2.1 i j hi' hj' hij (by first|decide|lia)
noncomputable def hit (w z:Str) (t:Int) (y:PV):Bool:=match y with
 | .tup (.str w'::_::.int m::.str z'::_)=>w'==w&&(z'==z&&decide (m≤t))
 |_=>false
theorem f9 (a b:PV) (r:List PV):atI (a::b::r) 1=some b:=fL (k:=1) rfl
theorem jg (a b c:PV) (r:List PV):atI (a::b::c::r) 2=some c:=fL (k:=2) rfl
theorem xN (a b c d:PV) (r:List PV):atI (a::b::c::d::r) 3=some d:=fL (k:=3) rfl
noncomputable def p6:ah→M Bool:=(fk (asB (ag (eqO false) (ag ixO (fun ρ=>af ρ 5) (fun _=>M.ret (.int 0))) (fun ρ=>af ρ 1))) (fk (asB (ag (eqO false) (ag ixO (fun ρ=>af ρ 5) (fun _=>M.ret (.int 3))) (fun ρ=>af ρ 2))) (asB (ag eV (ag ixO (fun ρ=>af ρ 5) (fun _=>M.ret (.int 2))) (fun ρ=>af ρ 3)))))
noncomputable def jB:ah→M Fl:=(ifP p6 (aA 4 (fun ρ=>af ρ 5)) (fun ρ=>M.ret (.nx ρ)))
theorem jN {a b:ah→M Bool} {ρ:ah} {x y:Bool} (ha:a ρ= .ret x) (hb:b ρ= .ret y):fk a b ρ= .ret (x&&y):=by
 unfold fk;rw[ha];cases x<;>simp[hb]
theorem tJ {Y:Ent} {w z:Str} {t:Int} {f:PV} {n:Int} {y:PV} (hy:PageT n y):p6 [Y,Ent.val (.str w),Ent.val (.str z),Ent.val (.int t),Ent.val f,Ent.val y]= .ret (hit w z t y):=by
 obtain⟨w',z',m,r,rfl,_⟩:=hy
 unfold p6
 refine jN ?_ (jN ?_ ?_)
 ·simp only[asB,ag,gV0,gVs,M.ret_bind,ixO,at0,M.ofO,eqS]
 ·simp only[asB,ag,gV0,gVs,M.ret_bind,ixO,xN,M.ofO,eqS]
 ·simp only[asB,ag,gV0,gVs,M.ret_bind,ixO,jg,M.ofO,eV]
theorem h7 {Y:Ent} {w z:Str} {t:Int}: ∀ (rest:List PV) (f:PV) (e5:Ent),(∀ y∈rest,∃ n,PageT n y)→
  ∃ e5',bC (aN 5) jB rest [Y,Ent.val (.str w),Ent.val (.str z),Ent.val (.int t),Ent.val f,e5]= .ret (.nx [Y,Ent.val (.str w),Ent.val (.str z),Ent.val (.int t),Ent.val (((rest.filter (hit w z t)).getLast?).getD f),e5'])
 |[],f,e5,_=>⟨e5,rfl⟩
 |y::rest,f,e5,h=>by
  obtain⟨n,hy⟩:=h y List.mem_cons_self
  have ht:=tJ (Y:=Y) (w:=w) (z:=z) (t:=t) (f:=f) hy
  unfold bC
  simp only[aN,M.ret_bind,List.set_cons_succ,List.set_cons_zero]
  cases c:hit w z t y with
  |true=>
   rw[c] at ht
   have st:jB [Y,Ent.val (.str w),Ent.val (.str z),Ent.val (.int t),Ent.val f,Ent.val y]= .ret (.nx [Y,Ent.val (.str w),Ent.val (.str z),Ent.val (.int t),Ent.val y,Ent.val y]):=by
    unfold jB
    rw[dF ht]
    simp only[aA,gV0,gVs,M.ret_bind,List.set_cons_succ,List.set_cons_zero]
   obtain⟨e5',ih⟩:=h7 (Y:=Y) (w:=w) (z:=z) (t:=t) rest y (Ent.val y) fun y' hy'=>h y' (List.mem_cons_of_mem _ hy')
   refine⟨e5',?_⟩
   rw[st,M.ret_bind]
   show bC _ _ _ _=_
   rw[ih,List.filter_cons_of_pos c]
   congr 7
   cases hf:(rest.filter (hit w z t)).getLast? with
   |none=>
    rw[List.getLast?_eq_none_iff] at hf
    rw[hf]
    rfl
   |some v=>
    rw[List.getLast?_cons,hf]
    rfl
  |false=>
   rw[c] at ht
   have st:jB [Y,Ent.val (.str w),Ent.val (.str z),Ent.val (.int t),Ent.val f,Ent.val y]= .ret (.nx [Y,Ent.val (.str w),Ent.val (.str z),Ent.val (.int t),Ent.val f,Ent.val y]):=by
    unfold jB
    rw[eL ht]
   obtain⟨e5',ih⟩:=h7 (Y:=Y) (w:=w) (z:=z) (t:=t) rest f (Ent.val y) fun y' hy'=>h y' (List.mem_cons_of_mem _ hy')
   refine⟨e5',?_⟩
   rw[st,M.ret_bind]
   show bC _ _ _ _=_
   rw[ih,List.filter_cons_of_neg (by rw[c];decide)]
theorem vF {B:List PV} {w z:Str} {t:Int} (h: ∀ y∈B,∃ n,PageT n y):F_last_page [.tup B,.str w,.str z,.int t]= .ret (((B.filter (hit w z t)).getLast?).getD .non):=by
 unfold F_last_page m_last_page
 show (av _ _ [Ent.val (.tup B),Ent.val (.str w),Ent.val (.str z),Ent.val (.int t),Ent.un,Ent.un]).bind bp=_
 refine aG (ρ':=[Ent.val (.tup B),Ent.val (.str w),Ent.val (.str z),Ent.val (.int t),Ent.val .non,Ent.un]) rfl ?_
 obtain⟨e5',ih⟩:=h7 (Y:=Ent.val (.tup B)) (w:=w) (z:=z) (t:=t) B .non Ent.un h
 refine aG (ρ':=[Ent.val (.tup B),Ent.val (.str w),Ent.val (.str z),Ent.val (.int t),Ent.val (((B.filter (hit w z t)).getLast?).getD .non),e5']) ?_ ?_
 ·simp only[bg,gV0,gVs,M.ret_bind,a8]
  exact ih
 ·exact bD (bf rfl)
theorem vk {l:List PV} {w z:Str} {t:Int} (h: ∀ y∈l,∃ n,PageT n y) (hok: ∀ y∈l,okP y=true) (hl:l.length≤1000):F_law_page [.lst l,.str w,.str z,.int t]= .ret ((ed (l.filter (hit w z t))).getD .non):=by
 unfold F_law_page m_law_page
 show (av _ _ [Ent.val (.lst l),Ent.val (.str w),Ent.val (.str z),Ent.val (.int t),Ent.un]).bind bp=_
 have q:=dW (k:=0) (tt:=(fk (asB (ag (eqO false) (ag ixO (fun ρ=>af ρ 0) (fun _=>M.ret (.int 0))) (fun ρ=>af ρ 1))) (fk (asB (ag (eqO false) (ag ixO (fun ρ=>af ρ 0) (fun _=>M.ret (.int 3))) (fun ρ=>af ρ 2))) (asB (ag eV (ag ixO (fun ρ=>af ρ 0) (fun _=>M.ret (.int 2))) (fun ρ=>af ρ 3)))))) (te:=fun ρ=>af ρ 0) (p:=hit w z t) (f:=id) (ρ:=[Ent.un,Ent.val (.str w),Ent.val (.str z),Ent.val (.int t)]) l [Ent.un,Ent.val (.str w),Ent.val (.str z),Ent.val (.int t)] (fun _=>rfl) (fun y hy=>by
   obtain⟨n,w',z',m,r,rfl,_⟩:=h y hy
   rw[List.set_cons_zero]
   refine jN ?_ (jN ?_ ?_)
   ·simp only[asB,ag,gV0,gVs,M.ret_bind,ixO,at0,M.ofO,eqS]
   ·simp only[asB,ag,gV0,gVs,M.ret_bind,ixO,xN,M.ofO,eqS]
   ·simp only[asB,ag,gV0,gVs,M.ret_bind,ixO,jg,M.ofO,eV]) (fun y hy _=>by simp only[gV0,List.set_cons_zero];rfl)
 have hle:(l.filter (hit w z t)).length≤l.length:=List.length_filter_le _ _
 refine aG (ρ':=[Ent.val (.lst l),Ent.val (.str w),Ent.val (.str z),Ent.val (.int t),Ent.val (.lst (l.filter (hit w z t)))]) ?_ ?_
 ·have ec:cX [none,some 1,some 2,some 3] [Ent.val (.lst l),Ent.val (.str w),Ent.val (.str z),Ent.val (.int t),Ent.un]=[Ent.un,Ent.val (.str w),Ent.val (.str z),Ent.val (.int t)]:=rfl
  simp only[aA,aH,bb,gV0,gVs,M.ret_bind,a8,if_pos (by lia:l.length≤100000),ec]
  rw[q]
  simp only[M.ret_bind,List.map_id,List.set_cons_succ,List.set_cons_zero]
 ·refine bD (bf ?_)
  have hm:j5 (.lst (l.filter (hit w z t)))= .ret ((ed (l.filter (hit w z t))).getD .non):=by
   unfold j5
   dsimp only
   rw[if_pos]
   simp only[Bool.and_eq_true,decide_eq_true_eq,List.all_eq_true]
   exact⟨by lia,fun y hy=>hok y (List.mem_filter.mp hy).1⟩
  simp only[List.map,Ent.freeze,gV0,gVs,M.ret_bind,hm]
theorem rY {kf:Nat→Int×Int}: ∀ {j b:Nat},bi kf j=some b→∀ i,i < j→rk kf i≤rk kf b
 |0,b,h,i,hi=>by lia
 |j+1,b,h,i,hi=>by
  unfold bi at h
  cases e:bi kf j with
  |none=>
   rw[e] at h
   cases h
   have:j=0:=by
    by_cases z:j=0
    ·exact z
    ·obtain⟨c,hc⟩:=o9 (kf:=kf) (j:=j) (by first|decide|lia)
     rw[e] at hc;cases hc
   subst this
   have:i=0:=by lia
   subst this
   exact Int.le_refl _
  |some c=>
   rw[e] at h
   dsimp only at h
   have ih:=rY e
   by_cases z:rk kf c < rk kf j
   ·rw[if_pos z] at h
    cases h
    by_cases y:i=j
    ·subst y;exact Int.le_refl _
    ·exact Int.le_of_lt (Int.lt_of_le_of_lt (ih i (by first|decide|lia)) z)
   ·rw[if_neg z] at h
    cases h
    by_cases y:i=j
    ·subst y;lia
    ·exact ih i (by first|decide|lia)
theorem r6 {f:List PV} (nd:(f.map rPV).Nodup):ed f=(aX f).getLast?:=by
 have pm:=eD f
 have up:=iM f nd
 by_cases h0:f=[]
 ·subst h0;rfl
 have hp:0 < f.length:=List.length_pos_iff.mpr h0
 obtain⟨b,hb⟩:=o9 (kf:=fun i=>kPV (f.getD i .non)) (j:=f.length) hp
 have hbl:=jK hb
 have hmx:=rY hb
 have e1:ed f=some f[b]:=by
  unfold ed
  rw[hb]
  show some (f.getD b .non)=_
  rw[List.getD_eq_getElem?_getD,List.getElem?_eq_getElem hbl]
  rfl
 rw[e1]
 have hne:aX f≠[]:=fun z=>by rw[z] at pm;exact h0 (List.nil_perm.mp pm)
 have hlp:(aX f).length - 1 < (aX f).length:=by have:=List.length_pos_iff.mpr hne;lia
 rw[List.getLast?_eq_getElem?,List.getElem?_eq_getElem hlp]
 congr 1
 have m1:f[b]∈aX f:=pm.mem_iff.mpr (List.getElem_mem hbl)
 obtain⟨i,hi,ei⟩:=List.getElem_of_mem m1
 by_cases c:i=(aX f).length - 1
 ·subst c;exact ei.symm
 ·have lt:rPV (aX f)[i] < rPV ((aX f)[(aX f).length - 1]'hlp):=List.pairwise_iff_getElem.mp up i _ hi hlp (by first|decide|lia)
  rw[ei] at lt
  have m2:((aX f)[(aX f).length - 1]'hlp)∈f:=pm.mem_iff.mp (List.getElem_mem _)
  obtain⟨j,hj,ej⟩:=List.getElem_of_mem m2
  have:=hmx j hj
  unfold rk at this
  dsimp only at this
  rw[List.getD_eq_getElem?_getD,List.getElem?_eq_getElem hj,List.getD_eq_getElem?_getD,List.getElem?_eq_getElem hbl] at this
  rw[←ej] at lt
  unfold rPV at lt
  exact absurd lt (Int.not_lt.mpr this)
theorem rm {l:List PV} {p:PV→Bool} (nd:(l.map rPV).Nodup):ed (l.filter p)=((aX l).filter p).getLast?:=by
 have nd2:((l.filter p).map rPV).Nodup:=List.Pairwise.sublist ((List.filter_sublist).map rPV) nd
 rw[r6 nd2,oT nd2 ((eD l).filter p) ((iM l nd).filter p)]
noncomputable abbrev abc:Str:="etaoinshrdlcumwfgypbvkjxqz"
theorem ph: ∀ c∈abc.cps.toList,97≤c∧c≤122:=by decide +kernel
theorem xP:abc.cps.toList.Nodup:=by decide +kernel
theorem jP:abc.cps.toList.length=26:=by decide +kernel
theorem xQ (d:Int) (h0:0≤d) (h1:d < 26): ∃ y,ixO (.str abc) (.int d)= .ret y∧One y:=by
 have hz:abc.length≤100000:=by decide +kernel
 obtain⟨c,hc,e⟩:=dA (l:=abc.cps.toList) h0 (by rw[jP];exact h1)
 exact⟨.str ⟨#[c]⟩,by simp[ixO,e,M.ofO,hz],c,rfl,ph c hc⟩
noncomputable def Wd (x:Str):Prop:=1≤x.length∧x.length≤8∧Lets x
theorem Wd.sh {x:Str} (h:Wd x):Sh x:=⟨h.2.1,fun c hc=>Nat.lt_of_le_of_lt (h.2.2 c hc).2 (by decide)⟩
theorem gA: ∀ (l m:List Str),l.Nodup→(∀ x∈l,x∈m)→l.length≤m.length
 |[],m,_,_=>Nat.zero_le _
 |x::l,m,nd,hs=>by
  rw[List.nodup_cons] at nd
  have hx:=hs x List.mem_cons_self
  have:=gA l (m.erase x) nd.2 fun y hy=>(List.mem_erase_of_ne (fun z:y=x=>nd.1 (z▸hy))).mpr (hs y (List.mem_cons_of_mem _ hy))
  rw[List.length_erase_of_mem hx] at this
  have hp:0 < m.length:=List.length_pos_of_mem hx
  rw[List.length_cons]
  lia
noncomputable def dG (w:Str):List Str:=abc.cps.toList.map fun c=>(⟨(w.cps.toList.take (min 7 w.length)).toArray⟩:Str)++⟨#[c]⟩
theorem vP (w:Str):(dG w).Nodup:=by
 unfold dG List.Nodup
 rw[List.pairwise_map]
 refine List.Pairwise.imp ?_ xP
 intro a b ne e
 have e2:((⟨(w.cps.toList.take (min 7 w.length)).toArray⟩:Str)++(⟨#[a]⟩:Str)).cps.toList=((⟨(w.cps.toList.take (min 7 w.length)).toArray⟩:Str)++(⟨#[b]⟩:Str)).cps.toList:=by rw[e]
 have e3: ∀ x y:Str,(x++y).cps.toList=x.cps.toList++y.cps.toList:=fun x y=>by rw[←Array.toList_append];rfl
 rw[e3,e3] at e2
 have:=List.append_cancel_left e2
 simp at this
 exact ne this
theorem vO {w:Str} (hw:Wd w): ∀ x∈dG w,Wd x:=fun x hx=>by
 obtain⟨c,hc,rfl⟩:=List.mem_map.mp hx
 refine⟨?_,?_,ud (t5 hw.2.2 _) fun d hd=>?_⟩
 ·rw[pf,kq];show 1≤_+1;lia
 ·rw[pf,kq];show _+1≤8;lia
 ·simp at hd;subst hd;exact ph _ hc
noncomputable def pq:ah→M PV:=ag bL (sl3 slE (fun ρ=>af ρ 1) (fun _=>M.ret none) (fun ρ=>((fun _=>M.ret (.int 7)) ρ).bind fun y=>(h8 y).bind fun i=>M.ret (some i))) (fun ρ=>af ρ 0)
noncomputable def pk:ah→M Bool:=asB (ag (inO true) (fun ρ=>af ρ 0) (fun ρ=>af ρ 1))
theorem tQ {zs:List Str} (hz:zs.length≤20):Gen (F_law_word [.bag,.lst (zs.map PV.str)]) 9 (fun y=> ∃ x,y= .str x∧Wd x∧x∉zs):=by
 unfold F_law_word m_law_word
 show Gen ((av _ _ [Ent.val .bag,Ent.val (.lst (zs.map PV.str)),Ent.un,Ent.un,Ent.un]).bind bp) 9 _
 refine Gen.le (bA (c:=0) (d:=9) (I:=fun ρ=>ρ=[Ent.val .bag,Ent.val (.lst (zs.map PV.str)),Ent.val (.str abc),Ent.un,Ent.un]) (gnx rfl rfl) ?_) (by decide)
 rintro _ rfl
 refine Gen.le (bA (c:=1) (d:=8) (I:=fun ρ=> ∃ k:Int,1≤k∧k≤8∧ρ=[Ent.val .bag,Ent.val (.lst (zs.map PV.str)),Ent.val (.str abc),Ent.val (.int k),Ent.un]) ?_ ?_) (by decide)
 ·simp only[aA,ag,aa,gV0,gVs,M.ret_bind,F_law_pick,M.bind_assoc]
  refine Gen.le (Gen.bind (Gen.draw (by first|decide|lia) (by first|decide|lia)) (d:=0) ?_) (by decide)
  rintro _ ⟨d,rfl,d0,d1⟩
  exact Gen.eq (y:=.nx _) rfl ⟨_,rfl,1+d,by lia,by lia,rfl⟩
 rintro _ ⟨k,k0,k1,rfl⟩
 refine Gen.le (bA (c:=8) (d:=0) (I:=fun ρ=> ∃ w:Str,Wd w∧ρ=[Ent.val .bag,Ent.val (.lst (zs.map PV.str)),Ent.val (.str abc),Ent.val (.int k),Ent.val (.str w)]) ?_ ?_) (by decide)
 ·have hlen:(bw 0 k.toNat).length=k.toNat:=by simp[bw]
  have er:bJ [.int k]= .ret (bw 0 k.toNat):=by simp only[bJ,if_pos (by lia: -1000000≤k∧k≤100000)]
  have ec:cX [none,some 2,some 0] [Ent.val .bag,Ent.val (.lst (zs.map PV.str)),Ent.val (.str abc),Ent.val (.int k),Ent.un]=[Ent.un,Ent.val (.str abc),Ent.val .bag]:=rfl
  have et:tyP (.str "")="str":=rfl
  unfold aA bmP
  simp only[M.ret_bind,et,if_true]
  unfold aa aH bb
  simp only[aa,gV0,gVs,M.ret_bind,er,if_pos (by lia:(bw 0 k.toNat).length≤100000),ec,M.bind_assoc]
  refine Gen.le (Gen.bind (Gen.lc (ρ:=[Ent.un,Ent.val (.str abc),Ent.val .bag]) (c:=1) (Pr:=One) _ _ (fun _=>rfl) (fun y hy=>?_)) (d:=0) ?_) (by rw[hlen];lia)
  ·simp only[List.set_cons_zero,ag,gV0,gVs,M.ret_bind,F_law_pick]
   refine Gen.le (Gen.bind (Gen.draw (by first|decide|lia) (by first|decide|lia)) (d:=0) ?_) (by decide)
   rintro _ ⟨d,rfl,d0,d1⟩
   obtain⟨y,e,o⟩:=xQ d d0 d1
   exact Gen.eq e o
  ·rintro us ⟨z1,z2⟩
   obtain⟨ys,e1,e2,e3⟩:=lQ us z2
   have e4:=i2 ys fun z hz=>(e3 z hz).1
   have e5:(Str.ofString "").length=0:=by decide
   have e6:=join_ones ys fun z hz=>(e3 z hz).1
   have hs:(ys.map (·.length)).sum+ys.length * (Str.ofString "").length≤16777216:=by rw[e4,e5,e2,z1,hlen];lia
   refine Gen.eq (y:=.nx [Ent.val .bag,Ent.val (.lst (zs.map PV.str)),Ent.val (.str abc),Ent.val (.int k),Ent.val (.str (Txt.join (Str.ofString "") ys))]) ?_ ⟨_,rfl,_,⟨by rw[e6,e2,z1,hlen];lia,by rw[e6,e2,z1,hlen];lia,rC ys fun z hz=>(e3 z hz).2⟩,rfl⟩
   simp only[M.ret_bind,iL,e1,M.ofO,if_pos hs]
   rfl
 rintro _ ⟨w,hw,rfl⟩
 have hsl:slE (.str w) none (some 7)= .ret (.str ⟨(w.cps.toList.take (min 7 w.length)).toArray⟩):=by
  have:w.length≤100000:=by have:=hw.2.1;lia
  unfold slE
  dsimp only
  rw[if_pos this,xH w 7 (min 7 w.length) (by rw[if_neg (by decide)];lia)]
 have q1:=iK (k:=0) (te:=pq) (f:=fun y=>match y with| .str c=>.str ((⟨(w.cps.toList.take (min 7 w.length)).toArray⟩:Str)++c)|_=>.non) (ρ:=[Ent.un,Ent.val (.str w)]) (d6 abc) [Ent.un,Ent.val (.str w)] (fun _=>rfl) (fun y hy=>by
   obtain⟨c,hc,rfl⟩:=List.mem_map.mp hy
   have hz:(⟨(w.cps.toList.take (min 7 w.length)).toArray⟩:Str).length+(⟨#[c]⟩:Str).length≤100000:=by rw[kq];show _+1≤_;lia
   unfold pq
   simp only[List.set_cons_zero,ag,sl3,gV0,gVs,M.ret_bind,h8,hsl,bL,if_pos hz])
 have em:((d6 abc).map fun y=>match y with|PV.str c=>PV.str ((⟨(w.cps.toList.take (min 7 w.length)).toArray⟩:Str)++c)|_=>.non)=(dG w).map PV.str:=by
  unfold d6 dG
  rw[List.map_map,List.map_map]
  rfl
 rw[em] at q1
 have q2:=dW (k:=0) (tt:=pk) (te:=fun ρ=>af ρ 0) (p:=fun y=>match y with| .str x=>!(inN zs x)|_=>false) (f:=id) (ρ:=[Ent.un,Ent.val (.lst (zs.map PV.str))]) ((w::dG w).map PV.str) [Ent.un,Ent.val (.lst (zs.map PV.str))] (fun _=>rfl) (fun y hy=>by
   obtain⟨x,hx,rfl⟩:=List.mem_map.mp hy
   unfold pk
   simp only[asB,ag,List.set_cons_zero,gV0,gVs,M.ret_bind,mS]
   simp) (fun y hy _=>by simp only[gV0,List.set_cons_zero];rfl)
 have hlen1:(d6 abc).length≤100000:=by unfold d6;rw[List.length_map,jP];lia
 have hlen2:((w::dG w).map PV.str).length≤100000:=by unfold dG;simp only[List.length_map,List.length_cons,jP];lia
 have hcat:[PV.str w].length+((dG w).map PV.str).length≤100000:=by unfold dG;simp only[List.length_map,List.length_cons,List.length_nil,jP];lia
 obtain⟨x,hx,hnx⟩: ∃ x∈dG w,x∉zs:=by
  apply Classical.byContradiction
  intro hno
  have:=gA (dG w) zs (vP w) fun x hx=>Classical.byContradiction fun hc=>hno ⟨x,hx,hc⟩
  unfold dG at this
  rw[List.length_map,jP] at this
  lia
 generalize hF:((w::dG w).map PV.str).filter (fun y=>match y with| .str x=>!(inN zs x)|_=>false)=F at q2
 have hFx:PV.str x∈F:=by
  rw[←hF]
  refine List.mem_filter.mpr ⟨List.mem_map_of_mem (List.mem_cons_of_mem _ hx),?_⟩
  show (!(inN zs x))=true
  cases c:inN zs x with
  |false=>rfl
  |true=>exact absurd (inN_iff.mp c) hnx
 match F,hF,hFx,q2 with
 |y::F,hF,_,q2=>
 have hy:y∈(w::dG w).map PV.str:=(List.mem_filter.mp (by rw[hF];exact List.mem_cons_self)).1
 obtain⟨v,hv,rfl⟩:=List.mem_map.mp hy
 refine Gen.eq (y:=.str v) ?_ ⟨v,rfl,?_,?_⟩
 ·refine bD (bf ?_)
  have ec1:cX [none,some 4] [Ent.val .bag,Ent.val (.lst (zs.map PV.str)),Ent.val (.str abc),Ent.val (.int k),Ent.val (.str w)]=[Ent.un,Ent.val (.str w)]:=rfl
  have ec2:cX [none,some 1] [Ent.val .bag,Ent.val (.lst (zs.map PV.str)),Ent.val (.str abc),Ent.val (.int k),Ent.val (.str w)]=[Ent.un,Ent.val (.lst (zs.map PV.str))]:=rfl
  show (ag ixO (aH (bb [none,some 1] (fun ρ=>((aH (gM (aH (fun ρ=>((aa (fun ρ=>af ρ 4) (fun _=>M.ret [])) ρ).bind aU)) (aH (bb [none,some 4] (fun ρ=>((fun ρ=>af ρ 2) ρ).bind a8) (aN 0) cG pq)))) ρ).bind a8) (aN 0) pk (fun ρ=>af ρ 0))) (fun _=>M.ret (.int 0))) [Ent.val .bag,Ent.val (.lst (zs.map PV.str)),Ent.val (.str abc),Ent.val (.int k),Ent.val (.str w)]=_
  simp only[ag,aH,bb,gM]
  simp only[aa,gV0,gVs,M.ret_bind,xi,a8,if_pos hlen1,ec1,ec2]
  rw[q1]
  simp only[M.ret_bind,if_pos hcat,List.cons_append,List.nil_append]
  have e9:PV.str w::(dG w).map PV.str=(w::dG w).map PV.str:=rfl
  rw[e9]
  simp only[a8,M.ret_bind]
  rw[if_pos hlen2,q2]
  simp only[M.ret_bind,List.map_id,ixO,at0,M.ofO]
 ·rcases List.mem_cons.mp hv with rfl|hv
  ·exact hw
  ·exact vO hw v hv
 ·have h2:=(List.mem_filter.mp (by rw[hF];exact List.mem_cons_self:PV.str v∈((w::dG w).map PV.str).filter (fun y=>match y with| .str x=>!(inN zs x)|_=>false))).2
  have h3:(!(inN zs v))=true:=h2
  intro hm
  rw[inN_iff.mpr hm] at h3
  cases h3
theorem ia {k:Int} (k0:1≤k) (k1:k≤12):Gen (F_law_words [.bag,.int k]) (k.toNat * 9) (fun y=> ∃ zs:List Str,y= .lst (zs.map PV.str)∧zs.length=k.toNat∧(∀ z∈zs,Wd z)∧zs.Nodup):=by
 unfold F_law_words m_law_words
 show Gen ((av _ _ [Ent.val .bag,Ent.val (.int k),Ent.un,Ent.un]).bind bp) _ _
 refine Gen.le (bA (c:=0) (d:=k.toNat * 9) (I:=fun ρ=>ρ=[Ent.val .bag,Ent.val (.int k),Ent.own [],Ent.un]) (gnx (by simp[de,aU]) rfl) ?_) (by first|decide|lia)
 rintro _ rfl
 have hint:(bw 0 k.toNat).length=k.toNat:=by simp[bw]
 have er:bJ [.int k]= .ret (bw 0 k.toNat):=by simp only[bJ,if_pos (by lia: -1000000≤k∧k≤100000)]
 refine Gen.le (bA (c:=k.toNat * 9) (d:=0) (I:=fun ρ=> ∃ (zs:List Str) (e3:Ent),zs.length=k.toNat∧((∀ z∈zs,Wd z)∧zs.Nodup)∧ρ=[Ent.val .bag,Ent.val (.int k),Ent.own (zs.map PV.str),e3]) ?_ ?_) (by first|decide|lia)
 ·simp only[bg,aa,gV0,gVs,M.ret_bind,er]
  refine Gen.mono (mW (k:=3) (c:=9) (Iv:=fun i ρ=> ∃ (zs:List Str) (e3:Ent),zs.length=i∧((∀ z∈zs,Wd z)∧zs.Nodup)∧ρ=[Ent.val .bag,Ent.val (.int k),Ent.own (zs.map PV.str),e3]) (bw 0 k.toNat) 0 _ ⟨[],_,rfl,⟨fun z hz=>absurd hz List.not_mem_nil,List.nodup_nil⟩,rfl⟩ ?_) (by rw[hint];exact Nat.le_refl _) ?_
  rotate_left
  ·rintro f ⟨ρ',rfl,zs,e3,hn,hw,rfl⟩
   rw[hint,Nat.zero_add] at hn
   exact⟨_,rfl,zs,e3,hn,hw,rfl⟩
  ·rintro y hy j hj _ ⟨zs,e3,hn,hw,rfl⟩
   rw[hint] at hj
   show Gen (cS _ _ [Ent.val .bag,Ent.val (.int k),Ent.own (zs.map PV.str),Ent.val y]) 9 _
   simp only[cS,List.getElem?_cons_succ,List.getElem?_cons_zero,aa,gV0,gVs,ki,gBs,M.ret_bind,M.bind_assoc]
   refine Gen.le (Gen.bind (tQ (zs:=zs) (by first|decide|lia)) (d:=0) ?_) (by decide)
   rintro _ ⟨x,rfl,hx,hxn⟩
   have hl:(zs.map PV.str).length < 100000:=by rw[List.length_map];lia
   refine Gen.eq (y:=.nx [Ent.val .bag,Ent.val (.int k),Ent.own ((zs++[x]).map PV.str),Ent.val y]) ?_ ⟨_,rfl,zs++[x],_,by simp[hn],⟨fun z hz=>?_,?_⟩,rfl⟩
   ·have hf:gJ (.str x)= .ret (.str x):=rfl
    simp only[hf,M.ret_bind,if_pos hl,List.map_append,List.map_cons,List.map_nil]
    rfl
   ·rcases List.mem_append.mp hz with hz|hz
    ·exact hw.1 z hz
    ·rw[List.mem_singleton.mp hz];exact hx
   ·refine List.nodup_append.mpr ⟨hw.2,by simp,fun a ha b hb=>?_⟩
    rw[List.mem_singleton.mp hb]
    exact fun z=>hxn (z▸ha)
 ·rintro _ ⟨zs,e3,hn,hw,rfl⟩
  exact Gen.eq (bD (bf rfl)) ⟨zs,rfl,hn,hw⟩
noncomputable abbrev kn (x:Str):Key:=Sum.inr x
theorem uj (mt:ah→M Bool) (mb:ah→M Fl) (k:Nat) (ρ:ah):whP mt mb (k+1) ρ=(mt ρ).bind fun b=>if b=true then(mb ρ).bind fun f=>(match f with
  | .nx ρ2=>whP mt mb k ρ2
  | .ct ρ2=>whP mt mb k ρ2
  | .bk ρ2=>.ret (.nx ρ2)
  | .rt v=>.ret (.rt v)) else .ret (.nx ρ):=rfl
noncomputable def foT:ah→M Bool:=(asB (fun ρ=>((aa (aH (bb [none,some 1] (fun ρ=>((ag iR (fun ρ=>af ρ 0) (fun ρ=>af ρ 3)) ρ).bind a8) (aN 0) cG (ag (fK false) (fun ρ=>af ρ 0) (fun ρ=>bT ρ 1)))) (fun _=>M.ret [])) ρ).bind eQ))
noncomputable def di (f:List (Key×PV)) (x:Str):Bool:=(dY f (kn x)).isSome
theorem xC {d f:List (Key×PV)} {x:Str} {os:List Str} {e2:Ent} (h:dY d (kn x)=some (.lst (os.map PV.str))) (hl:os.length≤1000):
  foT [Ent.val (.dct d),Ent.ownD f,e2,Ent.val (.str x)]= .ret (os.all (di f)):=by
 have q:=iK (k:=0) (te:=ag (fK false) (fun ρ=>af ρ 0) (fun ρ=>bT ρ 1)) (f:=fun y=>match y with| .str o=>.bl (di f o)|_=>.non) (ρ:=[Ent.un,Ent.ownD f]) (os.map PV.str) [Ent.un,Ent.ownD f] (fun _=>rfl) (fun y hy=>by
  obtain⟨o,_,rfl⟩:=List.mem_map.mp hy
  simp only[ag,List.set_cons_zero,gV0,M.ret_bind,bT,List.getElem?_cons_succ,List.getElem?_cons_zero,fK,f6,M.ofO,Bool.bne_false,di])
 have ec:cX [none,some 1] [Ent.val (.dct d),Ent.ownD f,e2,Ent.val (.str x)]=[Ent.un,Ent.ownD f]:=rfl
 have hlen:(os.map PV.str).length≤100000:=by rw[List.length_map];lia
 have eall: ∀ os:List Str,eQ [.lst ((os.map PV.str).map fun y=>match y with| .str o=>PV.bl (di f o)|_=>.non)]= .ret (.bl (os.all (di f))):=fun os=>by
  have:d9 ((os.map PV.str).map fun y=>match y with| .str o=>PV.bl (di f o)|_=>.non)=some (os.map (di f)):=by
   induction os with
   |nil=>rfl
   |cons o os ih=>simp only[List.map_cons,d9,ih];rfl
  simp only[eQ,this,M.ofO,M.ret_bind,List.all_map]
  rfl
 unfold foT asB
 simp only[aa,aH,bb,ag,gV0,gVs,M.ret_bind,iR,f6,M.ofO,h,a8,if_pos hlen,ec,q,eall]
noncomputable def dcA (A:List (Str×List Str)):List (Key×PV):=A.map fun p=>(kn p.1,PV.lst (p.2.map PV.str))
noncomputable def osA (A:List (Str×List Str)) (x:Str):List Str:=((A.find? fun p=>decide (p.1=x)).map (·.2)).getD []
theorem lA (a b:Str):decide (kn a=kn b)=decide (a=b):=rq a b
theorem uL {A:List (Str×List Str)} {x:Str}:(∃ p∈A,p.1=x)→dY (dcA A) (kn x)=some (.lst ((osA A x).map PV.str)):=by
 induction A with
 |nil=>rintro⟨_,h,_⟩;cases h
 |cons p A ih=>
  rintro⟨q,hq,hx⟩
  unfold dY dcA osA
  simp only[List.map_cons,List.find?_cons,lA]
  by_cases c:p.1=x
  ·simp[c]
  ·rcases List.mem_cons.mp hq with rfl|hq
   ·exact absurd hx c
   ·have:=ih ⟨q,hq,hx⟩
    unfold dY dcA osA at this
    simp only[decide_eq_false c]
    exact this
noncomputable def eI (A:List (Str×List Str)) (f:List (Key×PV)) (x:Str):List (Key×PV):=if(osA A x).all (di f)=true then fZ f (kn x) (.bl true) else f
theorem sI (f:List (Key×PV)) (k:Key) (y:PV):(fZ f k y).length≤f.length+1:=by
 unfold fZ;split<;>simp
theorem kC (A:List (Str×List Str)) (f:List (Key×PV)) (x:Str):(eI A f x).length≤f.length+1:=by
 unfold eI;split
 ·exact sI ..
 ·lia
noncomputable def foI:ah→M Fl:=(ifP foT (fU 1 (fun ρ=>af ρ 3) (fun _=>M.ret (.bl true))) (fun ρ=>M.ret (.nx ρ)))
theorem xD {A:List (Str×List Str)} {f:List (Key×PV)} {x:Str} {e2:Ent} (h: ∃ p∈A,p.1=x) (ho: ∀ p∈A,p.2.length≤1000) (hf:f.length < 100000):
  foI [Ent.val (.dct (dcA A)),Ent.ownD f,e2,Ent.val (.str x)]= .ret (.nx [Ent.val (.dct (dcA A)),Ent.ownD (eI A f x),e2,Ent.val (.str x)]):=by
 have hl:(osA A x).length≤1000:=by
  unfold osA
  cases c:A.find? fun p=>decide (p.1=x) with
  |none=>simp
  |some p=>exact ho p (List.mem_of_find?_eq_some c)
 have t:=xC (f:=f) (e2:=e2) (uL h) hl
 unfold foI eI
 cases c:(osA A x).all (di f) with
 |true=>
  rw[c] at t
  rw[dF t]
  simp only[fU,M.ret_bind,List.getElem?_cons_succ,List.getElem?_cons_zero,gV0,gVs,f6,M.ofO,if_pos hf]
  rfl
 |false=>
  rw[c] at t
  rw[eL t]
  rfl
theorem o1 {A:List (Str×List Str)} {e2:Ent} (ho: ∀ p∈A,p.2.length≤1000): ∀ (xs:List Str) (f:List (Key×PV)) (e3:Ent),(∀ x∈xs,∃ p∈A,p.1=x)→f.length+xs.length < 100000→
  ∃ e3',bC (aN 3) foI (xs.map PV.str) [Ent.val (.dct (dcA A)),Ent.ownD f,e2,e3]= .ret (.nx [Ent.val (.dct (dcA A)),Ent.ownD (xs.foldl (eI A) f),e2,e3'])
 |[],f,e3,_,_=>⟨e3,rfl⟩
 |x::xs,f,e3,h,hl=>by
  have h1:=xD (e2:=e2) (h x List.mem_cons_self) ho (f:=f) (by simp at hl;lia)
  obtain⟨e3',ih⟩:=o1 (e2:=e2) ho xs (eI A f x) (Ent.val (.str x)) (fun y hy=>h y (List.mem_cons_of_mem _ hy)) (by have:=kC A f x;simp at hl;lia)
  refine⟨e3',?_⟩
  rw[List.map_cons]
  unfold bC
  simp only[aN,M.ret_bind,List.set_cons_succ,List.set_cons_zero]
  rw[h1,M.ret_bind]
  exact ih
noncomputable def iG (A:List (Str×List Str)) (f:List (Key×PV)):List (Key×PV):=(A.map (·.1)).foldl (eI A) f
noncomputable def whA (A:List (Str×List Str)):Nat→Int→List (Key×PV)→Option (List (Key×PV))
 |0,_,_=>none
 |k+1,b,f=>if b < f.length then whA A k f.length (iG A f) else some f
noncomputable def foW:ah→M Bool:=(asB (ag ltO (fun ρ=>af ρ 2) (fun ρ=>((aa (fun ρ=>bT ρ 1) (fun _=>M.ret [])) ρ).bind cN)))
noncomputable def foS:ah→M Fl:=(av (aA 2 (fun ρ=>((aa (fun ρ=>bT ρ 1) (fun _=>M.ret [])) ρ).bind cN)) (bg (fun ρ=>((fun ρ=>af ρ 0) ρ).bind jC) (aN 3) foI))
theorem qU (A:List (Str×List Str)) (f:List (Key×PV)):(iG A f).length≤f.length+A.length:=by
 unfold iG
 have: ∀ (xs:List Str) (f:List (Key×PV)),(xs.foldl (eI A) f).length≤f.length+xs.length:=by
  intro xs
  induction xs with
  |nil=>intro f;simp
  |cons x xs ih=>intro f;have:=ih (eI A f x);have h2:=kC A f x;simp only[List.foldl_cons,List.length_cons];lia
 simpa using this (A.map (·.1)) f
theorem tK (A:List (Str×List Str)):jC (.dct (dcA A))= .ret ((A.map (·.1)).map PV.str):=by
 unfold jC dcA
 simp only[List.map_map]
 rfl
theorem ui {A:List (Str×List Str)} (ho: ∀ p∈A,p.2.length≤1000): ∀ (k:Nat) (b:Int) (f f':List (Key×PV)) (e3:Ent),f.length+(k+1) * A.length < 100000→whA A k b f=some f'→
  ∃ b' e3',whP foW foS k [Ent.val (.dct (dcA A)),Ent.ownD f,Ent.val (.int b),e3]= .ret (.nx [Ent.val (.dct (dcA A)),Ent.ownD f',Ent.val (.int b'),e3'])
 |0,b,f,f',e3,_,h=>by cases h
 |k+1,b,f,f',e3,hl,h=>by
  have hA:(k+1+1) * A.length=(k+1) * A.length+A.length:=by rw[Nat.add_mul,Nat.one_mul]
  have t:foW [Ent.val (.dct (dcA A)),Ent.ownD f,Ent.val (.int b),e3]= .ret (decide (b < f.length)):=by
   simp only[foW,asB,ag,aa,gV0,gVs,M.ret_bind,bT,List.getElem?_cons_succ,List.getElem?_cons_zero,cN]
   rfl
  unfold whA at h
  rw[uj,t,M.ret_bind]
  by_cases c:b < f.length
  ·rw[if_pos c] at h
   rw[if_pos (decide_eq_true c)]
   have hp:=qU A f
   obtain⟨e3',lp⟩:=o1 (e2:=Ent.val (.int f.length)) ho (A.map (·.1)) f e3 (fun x hx=>by
    obtain⟨p,hp,rfl⟩:=List.mem_map.mp hx
    exact⟨p,hp,rfl⟩) (by rw[List.length_map];have:0≤(k+1) * A.length:=Nat.zero_le _;lia)
   have st:foS [Ent.val (.dct (dcA A)),Ent.ownD f,Ent.val (.int b),e3]= .ret (.nx [Ent.val (.dct (dcA A)),Ent.ownD (iG A f),Ent.val (.int f.length),e3']):=by
    unfold foS av
    simp only[aA,aa,gV0,gVs,M.ret_bind,bT,List.getElem?_cons_succ,List.getElem?_cons_zero,cN,List.set_cons_succ,List.set_cons_zero]
    simp only[bg,gV0,M.ret_bind,tK]
    exact lp
   rw[st,M.ret_bind]
   exact ui ho k _ _ f' e3' (by first|decide|lia) h
  ·rw[if_neg c] at h
   cases h
   rw[if_neg (by simp[c])]
   exact⟨b,e3,rfl⟩
theorem mV {A:List (Str×List Str)} {f':List (Key×PV)} (ho: ∀ p∈A,p.2.length≤1000) (hA:A.length≤90) (h:whA A 1000 (-1) []=some f'):F_found_open [.dct (dcA A)]= .ret (.dct f'):=by
 unfold F_found_open m_found_open
 show (av _ _ [Ent.val (.dct (dcA A)),Ent.un,Ent.un,Ent.un]).bind bp=_
 refine aG (ρ':=[Ent.val (.dct (dcA A)),Ent.ownD [],Ent.un,Ent.un]) rfl ?_
 refine aG (ρ':=[Ent.val (.dct (dcA A)),Ent.ownD [],Ent.val (.int (-1)),Ent.un]) rfl ?_
 obtain⟨b',e3',w⟩:=ui ho 1000 (-1) [] f' Ent.un (by simp;lia) h
 refine aG (ρ':=[Ent.val (.dct (dcA A)),Ent.ownD f',Ent.val (.int b'),e3']) w ?_
 exact bD (bf rfl)
noncomputable def foK (xs:List Str):List (Key×PV):=xs.map fun x=>(kn x,PV.bl true)
noncomputable def ji (xs:List Str) (x:Str):List Str:=if x∈xs then xs else xs++[x]
theorem mT (xs:List Str) (o:Str):di (foK xs) o=decide (o∈xs):=by
 unfold di dY foK
 induction xs with
 |nil=>rfl
 |cons x xs ih=>
  simp only[List.map_cons,List.find?_cons,lA]
  by_cases c:x=o
  ·subst c;simp
  ·simp only[decide_eq_false c]
   rw[ih]
   have c': ¬ o=x:=fun z=>c z.symm
   simp[c']
theorem u5 (xs:List Str) (x:Str):fZ (foK xs) (kn x) (.bl true)=foK (ji xs x):=by
 have e:((foK xs).any fun kv=>decide (kv.1=kn x))=decide (x∈xs):=by
  unfold foK
  rw[List.any_map]
  induction xs with
  |nil=>rfl
  |cons y xs ih=>
   simp only[List.any_cons,Function.comp,lA,List.mem_cons]
   rw[ih]
   by_cases c:y=x
   ·subst c;simp
   ·have c': ¬ x=y:=fun z=>c z.symm
    simp[c,c']
 unfold fZ ji
 rw[e]
 by_cases c:x∈xs
 ·rw[if_pos (decide_eq_true c),if_pos c]
  unfold foK
  rw[List.map_map]
  apply List.map_congr_left
  intro y _
  show (if kn y=kn x then(kn y,PV.bl true) else(kn y,PV.bl true))=_
  split<;>rfl
 ·rw[if_neg (by simp[c]),if_neg c]
  unfold foK
  rw[List.map_append]
  rfl
noncomputable def cY (A:List (Str×List Str)) (xs:List Str) (x:Str):List Str:=if(osA A x).all (fun o=>decide (o∈xs))=true then ji xs x else xs
theorem sv (A:List (Str×List Str)) (xs:List Str) (x:Str):eI A (foK xs) x=foK (cY A xs x):=by
 unfold eI cY
 have:(osA A x).all (di (foK xs))=(osA A x).all (fun o=>decide (o∈xs)):=by
  congr 1;funext o;exact mT xs o
 rw[this]
 split
 ·exact u5 xs x
 ·rfl
noncomputable def iF (A:List (Str×List Str)) (xs:List Str):List Str:=(A.map (·.1)).foldl (cY A) xs
theorem sR (A:List (Str×List Str)) (xs:List Str):iG A (foK xs)=foK (iF A xs):=by
 unfold iG iF
 generalize A.map (·.1)=ys
 induction ys generalizing xs with
 |nil=>rfl
 |cons y ys ih=>rw[List.foldl_cons,List.foldl_cons,sv,ih]
noncomputable def whX (A:List (Str×List Str)):Nat→Int→List Str→Option (List Str)
 |0,_,_=>none
 |k+1,b,xs=>if b < xs.length then whX A k xs.length (iF A xs) else some xs
theorem qq (A:List (Str×List Str)): ∀ (k:Nat) (b:Int) (xs:List Str),whA A k b (foK xs)=(whX A k b xs).map foK
 |0,b,xs=>rfl
 |k+1,b,xs=>by
  have hl:(foK xs).length=xs.length:=by unfold foK;simp
  unfold whA whX
  rw[hl]
  split
  ·rw[sR];exact qq A k _ _
  ·rfl
noncomputable def Clo (A:List (Str×List Str)) (S:Str→Prop):Prop:= ∀ x,(∃ p∈A,p.1=x)→(∀ o∈osA A x,S o)→S x
theorem addX_mem {xs:List Str} {x y:Str}:y∈ji xs x↔y∈xs∨y=x:=by
 unfold ji
 by_cases c:x∈xs
 ·rw[if_pos c]
  refine⟨.inl,fun h=>?_⟩
  rcases h with h|rfl
  ·exact h
  ·exact c
 ·rw[if_neg c];simp
theorem vX {xs:List Str} {x:Str} (h:xs.Nodup):(ji xs x).Nodup:=by
 unfold ji
 by_cases c:x∈xs
 ·rw[if_pos c];exact h
 ·rw[if_neg c]
  exact List.nodup_append.mpr ⟨h,by simp,fun a ha b hb=>by rw[List.mem_singleton.mp hb];exact fun z=>c (z▸ha)⟩
theorem gZ {A:List (Str×List Str)} {xs:List Str} {x y:Str} (h:y∈xs):y∈cY A xs x:=by
 unfold cY;split
 ·exact addX_mem.mpr (.inl h)
 ·exact h
theorem sx {A:List (Str×List Str)} {xs:List Str} {x:Str} (h:xs.Nodup):(cY A xs x).Nodup:=by
 unfold cY;split
 ·exact vX h
 ·exact h
theorem lR {A:List (Str×List Str)} {xs:List Str} {x y:Str} (h:y∈cY A xs x):y∈xs∨(y=x∧∀ o∈osA A x,o∈xs):=by
 unfold cY at h
 by_cases c:(osA A x).all (fun o=>decide (o∈xs))=true
 ·rw[if_pos c] at h
  rcases addX_mem.mp h with h|h
  ·exact .inl h
  ·exact .inr ⟨h,fun o ho=>by simpa using List.all_eq_true.mp c o ho⟩
 ·rw[if_neg c] at h;exact .inl h
theorem gH {A:List (Str×List Str)} {y:Str}: ∀ (ys xs:List Str),y∈xs→y∈ys.foldl (cY A) xs
 |[],xs,h=>h
 |z::ys,xs,h=>gH ys _ (gZ h)
theorem iQ {A:List (Str×List Str)}: ∀ (ys xs:List Str),xs.Nodup→(ys.foldl (cY A) xs).Nodup
 |[],xs,h=>h
 |z::ys,xs,h=>iQ ys _ (sx h)
theorem oZ {A:List (Str×List Str)} {S:Str→Prop} (hS:Clo A S): ∀ (ys xs:List Str),(∀ y∈ys,∃ p∈A,p.1=y)→(∀ x∈xs,S x)→∀ x∈ys.foldl (cY A) xs,S x
 |[],xs,_,h=>h
 |z::ys,xs,hy,h=>oZ hS ys _ (fun y h'=>hy y (List.mem_cons_of_mem _ h')) fun x hx=>by
  rcases lR hx with hx|⟨rfl,ho⟩
  ·exact h x hx
  ·exact hS x (hy x List.mem_cons_self) fun o h'=>h o (ho o h')
theorem jF {A:List (Str×List Str)}: ∀ (ys xs:List Str),∀ x∈ys.foldl (cY A) xs,x∈xs∨x∈ys
 |[],xs,x,h=>.inl h
 |z::ys,xs,x,h=>by
  rcases jF ys _ x h with h|h
  ·rcases lR h with h|⟨rfl,_⟩
   ·exact .inl h
   ·exact .inr List.mem_cons_self
  ·exact .inr (List.mem_cons_of_mem _ h)
theorem mX {A:List (Str×List Str)}: ∀ (ys xs:List Str),(∀ z∈ys.foldl (cY A) xs,z∈xs)→∀ x∈ys,(∀ o∈osA A x,o∈xs)→x∈xs
 |[],xs,_,x,hx,_=>absurd hx List.not_mem_nil
 |z::ys,xs,h,x,hx,ho=>by
  have hz: ∀ y∈cY A xs z,y∈xs:=fun y hy=>h y (gH ys _ hy)
  rcases List.mem_cons.mp hx with rfl|hx
  ·refine hz x ?_
   unfold cY
   rw[if_pos (List.all_eq_true.mpr fun o h'=>by simpa using ho o h')]
   exact addX_mem.mpr (.inr rfl)
  ·have:=mX ys (cY A xs z) (fun y hy=>gZ (h y hy)) x hx (fun o h'=>gZ (ho o h'))
   exact hz x this
theorem xf {xs ys:List Str} (h:xs.Nodup) (hs: ∀ x∈xs,x∈ys):xs.length≤ys.length:=gA xs ys h hs
theorem yj {xs zs:List Str} (hx:xs.Nodup) (hz:zs.Nodup) (hs: ∀ x∈xs,x∈zs) (hl:zs.length≤xs.length): ∀ z∈zs,z∈xs:=by
 intro z hz'
 by_cases c:z∈xs
 ·exact c
 ·have h1:(z::xs).Nodup:=List.nodup_cons.mpr ⟨c,hx⟩
  have:=gA (z::xs) zs h1 (fun y hy=>by
   rcases List.mem_cons.mp hy with rfl|hy
   ·exact hz'
   ·exact hs y hy)
  simp at this
  lia
theorem lG {A:List (Str×List Str)} {S:Str→Prop} (hS:Clo A S): ∀ (k:Nat) (b:Int) (xs xs':List Str),xs.Nodup→(∀ x∈xs,S x)→((b < xs.length)∨Clo A (·∈xs))→whX A k b xs=some xs'→(∀ x∈xs',S x)∧Clo A (·∈xs')∧xs'.Nodup
 |0,b,xs,xs',_,_,_,h=>by cases h
 |k+1,b,xs,xs',nd,hx,hb,h=>by
  unfold whX at h
  by_cases c:b < xs.length
  ·rw[if_pos c] at h
   have nm: ∀ y∈A.map (·.1),∃ p∈A,p.1=y:=fun y hy=>by
    obtain⟨p,hp,rfl⟩:=List.mem_map.mp hy
    exact⟨p,hp,rfl⟩
   refine lG hS k _ (iF A xs) xs' (iQ _ _ nd) (oZ hS _ _ nm hx) ?_ h
   by_cases c2:(xs.length:Int) < (iF A xs).length
   ·exact .inl c2
   ·refine .inr ?_
    have back:=yj nd (iQ (A:=A) (A.map (·.1)) xs nd) (fun x hx=>gH _ _ hx) (by unfold iF at c2;lia)
    intro x hxA ho
    obtain⟨p,hp,rfl⟩:=hxA
    exact gH _ _ (mX _ _ back p.1 (List.mem_map_of_mem hp) fun o h'=>back o (ho o h'))
  ·rw[if_neg c] at h
   cases h
   rcases hb with hb|hb
   ·exact absurd hb c
   ·exact⟨hx,hb,nd⟩
theorem oB {A:List (Str×List Str)}: ∀ (k:Nat) (b:Int) (xs:List Str),xs.Nodup→(∀ x∈xs,x∈A.map (·.1))→b≤A.length→(A.length:Int) < b+k→∃ xs',whX A k b xs=some xs'
 |0,b,xs,_,_,h1,h2=>by lia
 |k+1,b,xs,nd,hs,h1,h2=>by
  unfold whX
  by_cases c:b < xs.length
  ·rw[if_pos c]
   have hl:=xf nd hs
   rw[List.length_map] at hl
   exact oB k _ _ (iQ _ _ nd) (fun x hx=>by
    rcases jF _ _ x hx with h|h
    ·exact hs x h
    ·exact h) (by first|decide|lia) (by first|decide|lia)
  ·rw[if_neg c];exact⟨_,rfl⟩
theorem rJ {A:List (Str×List Str)} (ho: ∀ p∈A,p.2.length≤1000) (hA:A.length≤90): ∃ xs:List Str,F_found_open [.dct (dcA A)]= .ret (.dct (foK xs))∧whA A 1000 (-1) []=some (foK xs)∧Clo A (·∈xs)∧∀ S,Clo A S→∀ x∈xs,S x:=by
 obtain⟨xs,h⟩:=oB (A:=A) 1000 (-1) [] List.nodup_nil (fun _ h=>absurd h List.not_mem_nil) (by first|decide|lia) (by first|decide|lia)
 have e:whA A 1000 (-1) []=some (foK xs):=by
  have:=qq A 1000 (-1) []
  rw[h] at this
  exact this
 refine⟨xs,mV ho hA e,e,?_,fun S hS x hx=>?_⟩
 ·exact(lG (S:=fun _=>True) (fun _ _ _=>trivial) 1000 (-1) [] xs List.nodup_nil (fun _ h=>absurd h List.not_mem_nil) (.inl (by simp)) h).2.1
 ·exact(lG hS 1000 (-1) [] xs List.nodup_nil (fun _ h=>absurd h List.not_mem_nil) (.inl (by simp)) h).1 x hx
theorem d7 {m k:ah→M Fl} {ρ:ah} {y:PV} (h:m ρ= .ret (.rt y)):(av m k ρ).bind bp= .ret y:=by
 unfold av;rw[h];rfl
section
variable {B y:PV} {w z p:Str} {t:Int}
theorem ou {a b:Int}:F_holds_alone [B,y,.tup [.str "hours",.int a,.int b],.int t]= .ret (.bl (decide (a≤t)&&decide (t < b))):=by
 unfold F_holds_alone m_holds_alone
 show (av _ _ [Ent.val B,Ent.val y,Ent.val (.tup [.str "hours",.int a,.int b]),Ent.val (.int t),Ent.un]).bind bp=_
 refine aG (ρ':=[Ent.val B,Ent.val y,Ent.val (.tup [.str "hours",.int a,.int b]),Ent.val (.int t),Ent.val (.str "hours")]) rfl ?_
 refine d7 (y:=.bl (decide (a≤t)&&decide (t < b))) ?_
 rw[dF rfl]
 refine bf ?_
 show chain _ _ _ _ _ [Ent.val B,Ent.val y,Ent.val (.tup [.str "hours",.int a,.int b]),Ent.val (.int t),Ent.val (.str "hours")]=_
 simp only[chain,ag,gV0,gVs,M.ret_bind,ixO,f9,jg,M.ofO,eV]
 by_cases c:a≤t
 ·simp[c];rfl
 ·simp[c]
theorem oq:F_holds_alone [B,y,.tup [.str "never"],.int t]= .ret (.bl false):=by
 unfold F_holds_alone m_holds_alone
 show (av _ _ [Ent.val B,Ent.val y,Ent.val (.tup [.str "never"]),Ent.val (.int t),Ent.un]).bind bp=_
 refine aG (ρ':=[Ent.val B,Ent.val y,Ent.val (.tup [.str "never"]),Ent.val (.int t),Ent.val (.str "never")]) rfl ?_
 refine aG (ρ':=[Ent.val B,Ent.val y,Ent.val (.tup [.str "never"]),Ent.val (.int t),Ent.val (.str "never")]) rfl ?_
 refine aG (ρ':=[Ent.val B,Ent.val y,Ent.val (.tup [.str "never"]),Ent.val (.int t),Ent.val (.str "never")]) rfl ?_
 refine aG (ρ':=[Ent.val B,Ent.val y,Ent.val (.tup [.str "never"]),Ent.val (.int t),Ent.val (.str "never")]) rfl ?_
 exact bD (bf rfl)
theorem qN {x:PV} (hw:w="least"∨w="most") (h:F_reading [B,.str p,.int t]= .ret .non):F_post_holds [B,.tup [.str w,.str p,x],.int t]= .ret (.bl false):=by
 unfold F_post_holds m_post_holds
 show (av _ _ [Ent.val B,Ent.val (.tup [.str w,.str p,x]),Ent.val (.int t),Ent.un,Ent.un,Ent.un,Ent.un]).bind bp=_
 refine aG (ρ':=[Ent.val B,Ent.val (.tup [.str w,.str p,x]),Ent.val (.int t),Ent.val (.str w),Ent.val (.str p),Ent.val x,Ent.un]) rfl ?_
 refine aG (ρ':=[Ent.val B,Ent.val (.tup [.str w,.str p,x]),Ent.val (.int t),Ent.val (.str w),Ent.val (.str p),Ent.val x,Ent.val .non]) ?_ ?_
 ·simp only[aA,aa,gV0,gVs,M.ret_bind]
  rw[h]
  rfl
 ·exact d7 (by rw[dF rfl];exact bf rfl)
theorem qM {v n:Int} (hw:w="least"∨w="most") (h:F_reading [B,.str p,.int t]= .ret (.int v)):F_post_holds [B,.tup [.str w,.str p,.int n],.int t]= .ret (.bl (if w="least" then decide (n≤v) else decide (v≤n))):=by
 unfold F_post_holds m_post_holds
 show (av _ _ [Ent.val B,Ent.val (.tup [.str w,.str p,.int n]),Ent.val (.int t),Ent.un,Ent.un,Ent.un,Ent.un]).bind bp=_
 refine aG (ρ':=[Ent.val B,Ent.val (.tup [.str w,.str p,.int n]),Ent.val (.int t),Ent.val (.str w),Ent.val (.str p),Ent.val (.int n),Ent.un]) rfl ?_
 refine aG (ρ':=[Ent.val B,Ent.val (.tup [.str w,.str p,.int n]),Ent.val (.int t),Ent.val (.str w),Ent.val (.str p),Ent.val (.int n),Ent.val (.int v)]) ?_ ?_
 ·simp only[aA,aa,gV0,gVs,M.ret_bind]
  rw[h]
  rfl
 ·refine aG (ρ':=[Ent.val B,Ent.val (.tup [.str w,.str p,.int n]),Ent.val (.int t),Ent.val (.str w),Ent.val (.str p),Ent.val (.int n),Ent.val (.int v)]) (by rw[eL rfl]) ?_
  refine bD (bf ?_)
  rcases hw with rfl|rfl
  ·rfl
  ·rfl
theorem vC {r:List PV} {n:Int} (h:F_looked_at [B,.str z,.int t]= .ret .non):F_look_holds [B,.tup (.str z::.str "slope"::r),.int n,.int t]= .ret (.bl false):=by
 unfold F_look_holds m_look_holds
 show (av _ _ [Ent.val B,Ent.val (.tup (.str z::.str "slope"::r)),Ent.val (.int n),Ent.val (.int t),Ent.un]).bind bp=_
 refine aG (ρ':=[Ent.val B,Ent.val (.tup (.str z::.str "slope"::r)),Ent.val (.int n),Ent.val (.int t),Ent.val .non]) ?_ ?_
 ·simp only[aA,aa,ag,gV0,gVs,M.ret_bind,ixO,at0,M.ofO]
  rw[h]
  rfl
 ·refine bD (bf ?_)
  have c1:asB (ag (eqO false) (ag ixO (fun ρ=>af ρ 1) (fun _=>M.ret (.int 1))) (fun _=>M.ret (.str "slope"))) [Ent.val B,Ent.val (.tup (.str z::.str "slope"::r)),Ent.val (.int n),Ent.val (.int t),Ent.val .non]= .ret true:=by
   simp only[asB,ag,gV0,gVs,M.ret_bind,ixO,f9,M.ofO,eqS,beq_self_eq_true]
  show cO _ _ [Ent.val B,Ent.val (.tup (.str z::.str "slope"::r)),Ent.val (.int n),Ent.val (.int t),Ent.val .non]=_
  unfold cO
  rw[c1]
  rfl
theorem vB {r:List PV} {n m:Int} (h:F_looked_at [B,.str z,.int t]= .ret (.int m)):F_look_holds [B,.tup (.str z::.str "slope"::r),.int n,.int t]= .ret (.bl (decide (t < m+n))):=by
 unfold F_look_holds m_look_holds
 show (av _ _ [Ent.val B,Ent.val (.tup (.str z::.str "slope"::r)),Ent.val (.int n),Ent.val (.int t),Ent.un]).bind bp=_
 refine aG (ρ':=[Ent.val B,Ent.val (.tup (.str z::.str "slope"::r)),Ent.val (.int n),Ent.val (.int t),Ent.val (.int m)]) ?_ ?_
 ·simp only[aA,aa,ag,gV0,gVs,M.ret_bind,ixO,at0,M.ofO]
  rw[h]
  rfl
 ·refine bD (bf ?_)
  have c1:asB (ag (eqO false) (ag ixO (fun ρ=>af ρ 1) (fun _=>M.ret (.int 1))) (fun _=>M.ret (.str "slope"))) [Ent.val B,Ent.val (.tup (.str z::.str "slope"::r)),Ent.val (.int n),Ent.val (.int t),Ent.val (.int m)]= .ret true:=by
   simp only[asB,ag,gV0,gVs,M.ret_bind,ixO,f9,M.ofO,eqS,beq_self_eq_true]
  show cO _ _ [Ent.val B,Ent.val (.tup (.str z::.str "slope"::r)),Ent.val (.int n),Ent.val (.int t),Ent.val (.int m)]=_
  unfold cO
  rw[c1]
  rfl
theorem jO {x:PV} {b:Bool} (hw:w="least"∨w="most") (h:F_post_holds [B,.tup [.str w,.str p,x],.int t]= .ret (.bl b)):F_holds_alone [B,y,.tup [.str w,.str p,x],.int t]= .ret (.bl b):=by
 unfold F_holds_alone m_holds_alone
 show (av _ _ [Ent.val B,Ent.val y,Ent.val (.tup [.str w,.str p,x]),Ent.val (.int t),Ent.un]).bind bp=_
 refine aG (ρ':=[Ent.val B,Ent.val y,Ent.val (.tup [.str w,.str p,x]),Ent.val (.int t),Ent.val (.str w)]) rfl ?_
 refine aG (ρ':=[Ent.val B,Ent.val y,Ent.val (.tup [.str w,.str p,x]),Ent.val (.int t),Ent.val (.str w)]) (by rcases hw with rfl|rfl<;>rfl) ?_
 refine d7 ?_
 rw[dF (by rcases hw with rfl|rfl<;>rfl)]
 refine bf ?_
 simp only[aa]
 exact h
theorem iw {n:Int} {b:Bool} (h:F_look_holds [B,y,.int n,.int t]= .ret (.bl b)):F_holds_alone [B,y,.tup [.str "looked",.int n],.int t]= .ret (.bl b):=by
 unfold F_holds_alone m_holds_alone
 show (av _ _ [Ent.val B,Ent.val y,Ent.val (.tup [.str "looked",.int n]),Ent.val (.int t),Ent.un]).bind bp=_
 refine aG (ρ':=[Ent.val B,Ent.val y,Ent.val (.tup [.str "looked",.int n]),Ent.val (.int t),Ent.val (.str "looked")]) rfl ?_
 refine aG (ρ':=[Ent.val B,Ent.val y,Ent.val (.tup [.str "looked",.int n]),Ent.val (.int t),Ent.val (.str "looked")]) rfl ?_
 refine aG (ρ':=[Ent.val B,Ent.val y,Ent.val (.tup [.str "looked",.int n]),Ent.val (.int t),Ent.val (.str "looked")]) rfl ?_
 refine d7 ?_
 rw[dF rfl]
 refine bf ?_
 simp only[aa]
 exact h
end
noncomputable abbrev bq (p:Str×List PV):PV:=.tup (.str p.1::p.2)
noncomputable def iu:Option (List Str)→PV
 |none=>.non
 |some os=>.lst (os.map PV.str)
theorem u6 {A:List (Str×List Str)} {x:Str} {os:List Str} (h: ∀ p∈A,p.1≠x):fZ (dcA A) (kn x) (.lst (os.map PV.str))=dcA (A++[(x,os)]):=by
 have e:((dcA A).any fun kv=>decide (kv.1=kn x))=false:=by
  unfold dcA
  rw[List.any_map,List.any_eq_false]
  intro p hp
  show ¬ decide (kn p.1=kn x)=true
  rw[lA]
  simp[h p hp]
 unfold fZ
 rw[if_neg (by rw[e];decide)]
 unfold dcA
 rw[List.map_append]
 rfl
noncomputable def owB:ah→M Fl:=(av (aA 5 (fun ρ=>((aa (fun ρ=>af ρ 1) (aa (fun ρ=>af ρ 4) (aa (fun ρ=>af ρ 2) (fun _=>M.ret [])))) ρ).bind F_others_asked))
  (ifP (asB (ag (isO true) (fun ρ=>af ρ 5) (fun _=>M.ret .non)))
  (fU 3 (ag ixO (fun ρ=>af ρ 4) (fun _=>M.ret (.int 0))) (fun ρ=>af ρ 5))
  (fun ρ=>M.ret (.nx ρ))))
noncomputable def cq (ot:Str×List PV→Option (List Str)) (ws:List (Str×List PV)):List (Str×List Str):=ws.filterMap fun p=>(ot p).map fun os=>(p.1,os)
theorem oO {hl B tv:PV} {ot:Str×List PV→Option (List Str)} {e6:Ent}: ∀ (ws:List (Str×List PV)) (A:List (Str×List Str)) (e4 e5:Ent),(∀ p∈ws,F_others_asked [B,bq p,tv]= .ret (iu (ot p)))→(ws.map (·.1)).Nodup→(∀ p∈ws,∀ q∈A,q.1≠p.1)→A.length+ws.length < 1000→
  ∃ e4' e5',bC (aN 4) owB (ws.map bq) [Ent.val hl,Ent.val B,Ent.val tv,Ent.ownD (dcA A),e4,e5,e6]= .ret (.nx [Ent.val hl,Ent.val B,Ent.val tv,Ent.ownD (dcA (A++cq ot ws)),e4',e5',e6])
 |[],A,e4,e5,_,_,_,_=>⟨e4,e5,by simp[bC,cq]⟩
 |p::ws,A,e4,e5,h,nd,hA,hl'=>by
  have h1:=h p List.mem_cons_self
  rw[List.map_cons,List.nodup_cons] at nd
  have step: ∃ A',A'=A++cq ot [p]∧owB [Ent.val hl,Ent.val B,Ent.val tv,Ent.ownD (dcA A),Ent.val (bq p),e5,e6]= .ret (.nx [Ent.val hl,Ent.val B,Ent.val tv,Ent.ownD (dcA A'),Ent.val (bq p),Ent.val (iu (ot p)),e6]):=by
   refine⟨_,rfl,?_⟩
   unfold owB av
   simp only[aA,aa,gV0,gVs,M.ret_bind,h1,List.set_cons_succ,List.set_cons_zero]
   cases c:ot p with
   |none=>
    rw[eL (by rfl)]
    simp[cq,c]
   |some os=>
    rw[dF (by rfl)]
    have hlen:(dcA A).length < 100000:=by unfold dcA;rw[List.length_map];simp at hl';lia
    simp only[fU,gV0,gVs,M.ret_bind,List.getElem?_cons_succ,List.getElem?_cons_zero,ag,ixO,at0,M.ofO,f6,if_pos hlen,iu,List.set_cons_succ,List.set_cons_zero]
    rw[u6 (fun q hq=>hA p List.mem_cons_self q hq)]
    simp[cq,c]
  obtain⟨A',eA,st⟩:=step
  obtain⟨e4',e5',ih⟩:=oO (hl:=hl) (B:=B) (tv:=tv) (ot:=ot) (e6:=e6) ws A' (Ent.val (bq p)) (Ent.val (iu (ot p))) (fun q hq=>h q (List.mem_cons_of_mem _ hq)) nd.2 (fun q hq a ha=>by
   rw[eA] at ha
   rcases List.mem_append.mp ha with ha|ha
   ·exact hA q (List.mem_cons_of_mem _ hq) a ha
   ·have:a.1=p.1:=by
     unfold cq at ha
     obtain⟨b,hb,e⟩:=List.mem_filterMap.mp ha
     rw[List.mem_singleton.mp hb] at e
     obtain⟨os,_,rfl⟩:=Option.map_eq_some_iff.mp e
     rfl
    rw[this]
    exact fun z=>nd.1 (z▸List.mem_map_of_mem hq)) (by
   have:(cq ot [p]).length≤1:=by unfold cq;exact List.length_filterMap_le _ _
   rw[eA,List.length_append];simp at hl';lia)
  refine⟨e4',e5',?_⟩
  rw[List.map_cons]
  unfold bC
  simp only[aN,M.ret_bind,List.set_cons_succ,List.set_cons_zero]
  rw[st,M.ret_bind]
  show bC _ _ _ _=_
  rw[ih,eA,List.append_assoc]
  have:cq ot [p]++cq ot ws=cq ot (p::ws):=by unfold cq;rw[←List.filterMap_append];rfl
  rw[this]
theorem vm {hm dk B tv:PV} {ws:List (Str×List PV)} {ot:Str×List PV→Option (List Str)} {f':List (Key×PV)} (h: ∀ p∈ws,F_others_asked [B,bq p,tv]= .ret (iu (ot p))) (nd:(ws.map (·.1)).Nodup) (hw:ws.length≤90)
  (ho: ∀ p∈cq ot ws,p.2.length≤1000) (hf:whA (cq ot ws) 1000 (-1) []=some f'):
  F_open_ways [.tup [.tup (ws.map bq),hm,dk],B,tv]= .ret (.tup (((ws.map (·.1)).filter (di f')).map PV.str)):=by
 unfold F_open_ways m_open_ways
 obtain⟨hl,ehl⟩: ∃ hl,hl=PV.tup [.tup (ws.map bq),hm,dk]:=⟨_,rfl⟩
 rw[←ehl]
 have i0:ixO hl (.int 0)= .ret (.tup (ws.map bq)):=by rw[ehl];simp only[ixO,at0,M.ofO]
 show (av _ _ [Ent.val hl,Ent.val B,Ent.val tv,Ent.un,Ent.un,Ent.un,Ent.un]).bind bp=_
 refine aG (ρ':=[Ent.val hl,Ent.val B,Ent.val tv,Ent.ownD (dcA []),Ent.un,Ent.un,Ent.un]) rfl ?_
 obtain⟨e4',e5',lp⟩:=oO (hl:=hl) (B:=B) (tv:=tv) (ot:=ot) (e6:=Ent.un) ws [] Ent.un Ent.un h nd (fun _ _ q hq=>absurd hq List.not_mem_nil) (by simp;lia)
 refine aG (ρ':=[Ent.val hl,Ent.val B,Ent.val tv,Ent.ownD (dcA (cq ot ws)),e4',e5',Ent.un]) ?_ ?_
 ·simp only[bg,ag,gV0,M.ret_bind,i0,a8]
  exact lp
 have hA:(cq ot ws).length≤90:=Nat.le_trans (List.length_filterMap_le _ _) hw
 refine aG (ρ':=[Ent.val hl,Ent.val B,Ent.val tv,Ent.val (.dct (dcA (cq ot ws))),e4'.freeze,e5'.freeze,Ent.val (.dct f')]) ?_ ?_
 ·show aA 6 _ [Ent.val hl,Ent.val B,Ent.val tv,Ent.val (.dct (dcA (cq ot ws))),e4'.freeze,e5'.freeze,Ent.un]=_
  simp only[aA,aa,gV0,gVs,M.ret_bind,mV ho hA hf]
  rfl
 refine bD (bf ?_)
 have q:=dW (k:=0) (tt:=asB (ag (fK false) (ag ixO (fun ρ=>af ρ 0) (fun _=>M.ret (.int 0))) (fun ρ=>af ρ 1))) (te:=ag ixO (fun ρ=>af ρ 0) (fun _=>M.ret (.int 0))) (p:=fun y=>match y with| .tup (.str x::_)=>di f' x|_=>false) (f:=fun y=>match y with| .tup (.str x::_)=>.str x|_=>.non) (ρ:=[Ent.un,Ent.val (.dct f')]) (ws.map bq) [Ent.un,Ent.val (.dct f')] (fun _=>rfl) (fun y hy=>by
  obtain⟨p,_,rfl⟩:=List.mem_map.mp hy
  simp only[asB,ag,List.set_cons_zero,gV0,gVs,M.ret_bind,ixO,at0,fK,f6,M.ofO,Bool.bne_false,di]) (fun y hy _=>by
  obtain⟨p,_,rfl⟩:=List.mem_map.mp hy
  simp only[ag,List.set_cons_zero,gV0,M.ret_bind,ixO,at0,M.ofO])
 have hlen:(ws.map bq).length≤100000:=by rw[List.length_map];lia
 have ec:cX [none,some 6] [Ent.val hl,Ent.val B,Ent.val tv,Ent.val (.dct (dcA (cq ot ws))),e4'.freeze.freeze,e5'.freeze.freeze,Ent.val (.dct f')]=[Ent.un,Ent.val (.dct f')]:=rfl
 have ej:((ws.map bq).filter (fun y=>match y with| .tup (.str x::_)=>di f' x|_=>false)).map (fun y=>match y with| .tup (.str x::_)=>PV.str x|_=>.non)=((ws.map (·.1)).filter (di f')).map PV.str:=by
  clear q lp hf ho h nd hw hA hlen ec i0 ehl
  induction ws with
  |nil=>rfl
  |cons p ws ih=>
   simp only[List.map_cons,List.filter_cons]
   by_cases c:di f' p.1=true
   ·rw[if_pos c,if_pos c,List.map_cons,List.map_cons,ih]
   ·rw[if_neg c,if_neg c,ih]
 show (fun ρ=>((aa (aH _) _) ρ).bind eS) [Ent.val hl,Ent.val B,Ent.val tv,Ent.val (.dct (dcA (cq ot ws))),e4'.freeze.freeze,e5'.freeze.freeze,Ent.val (.dct f')]=_
 simp only[aa,aH,bb,ag,gV0,M.ret_bind,i0,a8,if_pos hlen,ec]
 rw[q]
 simp only[M.ret_bind,eS,ej]
noncomputable def six (l:List PV) (w z:Str) (t:Int):PV:=(ed (l.filter (hit w z t))).getD .non
theorem lC {w z:Str} {t:Int} {n:Int} {y:PV} (hp:PageT n y) (hh:hit w z t y=true): ∃ z' m r,y= .tup (.str w::.int n::.int m::.str z'::r)∧((w="look"∧r=[])∨((w="read"∨w="rule")∧∃ v,r=[v]∧Sml 2500 2 v∧noL v=true))∧0≤m∧m≤1000000:=by
 obtain⟨w',z',m,r,rfl,hc,m0,m1⟩:=hp
 have e:(w'==w&&(z'==z&&decide (m≤t)))=true:=hh
 rw[Bool.and_eq_true] at e
 have ew:w'=w:=by simpa using e.1
 subst ew
 exact⟨z',m,r,rfl,hc,m0,m1⟩
theorem seen {l:List PV} {ns:List Int} (h:PagesN l ns) (w z:Str) (t:Int):F_last_page [.tup (aX l),.str w,.str z,.int t]= .ret (six l w z t):=by
 rw[vF fun y hy=>(h.at ((eD l).mem_iff.mp hy)).imp fun n hn=>hn.1]
 unfold six
 rw[rm h.nd]
theorem pR {l:List PV} {ns:List Int} (h:PagesN l ns) (hl:l.length≤1000) (w z:Str) (t:Int):F_law_page [.lst l,.str w,.str z,.int t]= .ret (six l w z t):=
 vk (fun y hy=>(h.at hy).imp fun n hn=>hn.1) (fun y hy=>h.okp hy) hl
inductive Ru where
 |hours (a b:Int)|post (least:Bool) (p:Str) (n:Int)|looked (n:Int)|wth (o:Str)|never
noncomputable def Ru.pv:Ru→PV
 | .hours a b=>.tup [.str "hours",.int a,.int b]
 | .post true p n=>.tup [.str "least",.str p,.int n]
 | .post false p n=>.tup [.str "most",.str p,.int n]
 | .looked n=>.tup [.str "looked",.int n]
 | .wth o=>.tup [.str "with",.str o]
 | .never=>.tup [.str "never"]
noncomputable def Ru.hold (rd:Str→Option Int) (lk:Option Int) (t:Int) (i:Str→Bool):Ru→Bool
 | .hours a b=>decide (a≤t)&&decide (t < b)
 | .post L p n=>match rd p with|none=>false|some v=>if L=true then decide (n≤v) else decide (v≤n)
 | .looked n=>match lk with|none=>false|some m=>decide (t < m+n)
 | .wth o=>i o
 | .never=>false
noncomputable def rdF (l:List PV) (t:Int) (p:Str):Option Int:=match six l "read" p t with| .tup [_,_,_,_,.int v]=>some v|_=>none
noncomputable def lkF (l:List PV) (t:Int) (z:Str):Option Int:=match six l "look" z t with| .tup (_::_::.int m::_)=>some m|_=>none
noncomputable def Reads (l:List PV):Prop:= ∀ n m z v,PV.tup [.str "read",.int n,.int m,.str z,v]∈l→∃ i:Int,v= .int i
theorem iz {l:List PV} {ns:List Int} (h:PagesN l ns) (w z:Str) (t:Int):six l w z t= .non∨(six l w z t∈l∧∃ n,PageT n (six l w z t)∧hit w z t (six l w z t)=true):=by
 unfold six
 cases e:ed (l.filter (hit w z t)) with
 |none=>exact .inl rfl
 |some y=>
  right
  have hm:y∈l.filter (hit w z t):=by
   unfold ed at e
   obtain⟨b,hb,rfl⟩:=Option.map_eq_some_iff.mp e
   have:=jK hb
   rw[List.getD_eq_getElem?_getD,List.getElem?_eq_getElem this]
   exact List.getElem_mem this
  obtain⟨n,hp,_⟩:=h.at (List.mem_filter.mp hm).1
  exact⟨(List.mem_filter.mp hm).1,n,hp,(List.mem_filter.mp hm).2⟩
theorem lU {l:List PV} {ns:List Int} (h:PagesN l ns) (hr:Reads l) (z:Str) (t:Int):(six l "read" z t= .non∧rdF l t z=none)∨∃ a b c d v,six l "read" z t= .tup [a,b,c,d,.int v]∧rdF l t z=some v:=by
 rcases iz h "read" z t with e|⟨hm,n,hp,hh⟩
 ·exact .inl ⟨e,by unfold rdF;rw[e]⟩
 ·right
  obtain⟨z',m,r,e,hk,_⟩:=lC hp hh
  rcases hk with⟨hw,_⟩|⟨_,v,rfl,_⟩
  ·exact absurd hw (by decide +kernel)
  ·rw[e] at hm
   obtain⟨i,rfl⟩:=hr _ _ _ _ hm
   exact⟨_,_,_,_,i,e,by unfold rdF;rw[e]⟩
theorem lV {l:List PV} {ns:List Int} (h:PagesN l ns) (z:Str) (t:Int):(six l "look" z t= .non∧lkF l t z=none)∨∃ a b m r,six l "look" z t= .tup (a::b::.int m::r)∧lkF l t z=some m:=by
 rcases iz h "look" z t with e|⟨hm,n,hp,hh⟩
 ·exact .inl ⟨e,by unfold lkF;rw[e]⟩
 ·right
  obtain⟨z',m,r,e,_⟩:=lC hp hh
  exact⟨_,_,m,_,e,by unfold lkF;rw[e]⟩
theorem kG {l:List PV} {ns:List Int} {nm:Str} {t:Int} {os:List Str} (h:PagesN l ns) (hl:l.length≤1000) (hr:Reads l) (r:Ru):
  F_law_holds [.lst l,.str nm,r.pv,.int t,.lst (os.map PV.str)]= .ret (.bl (r.hold (rdF l t) (lkF l t nm) t (inN os))):=by
 unfold F_law_holds m_law_holds
 cases r with
 |hours a b=>
  show (av _ _ [Ent.val (.lst l),Ent.val (.str nm),Ent.val (.tup [.str "hours",.int a,.int b]),Ent.val (.int t),Ent.val (.lst (os.map PV.str)),Ent.un,Ent.un]).bind bp=_
  refine d7 ?_
  rw[dF rfl]
  refine bf ?_
  show chain _ _ _ _ _ [Ent.val (.lst l),Ent.val (.str nm),Ent.val (.tup [.str "hours",.int a,.int b]),Ent.val (.int t),Ent.val (.lst (os.map PV.str)),Ent.un,Ent.un]=_
  simp only[chain,ag,gV0,gVs,M.ret_bind,ixO,f9,jg,M.ofO,eV,Ru.hold]
  by_cases c:a≤t
  ·simp[c];rfl
  ·simp[c]
 |looked n=>
  show (av _ _ [Ent.val (.lst l),Ent.val (.str nm),Ent.val (.tup [.str "looked",.int n]),Ent.val (.int t),Ent.val (.lst (os.map PV.str)),Ent.un,Ent.un]).bind bp=_
  refine aG (ρ':=[Ent.val (.lst l),Ent.val (.str nm),Ent.val (.tup [.str "looked",.int n]),Ent.val (.int t),Ent.val (.lst (os.map PV.str)),Ent.un,Ent.un]) rfl ?_
  refine d7 ?_
  rw[dF rfl]
  have pg:=pR h hl "look" nm t
  rcases lV h nm t with⟨e,e2⟩|⟨a,b,m,r,e,e2⟩
  ·rw[e] at pg
   unfold av
   simp only[aA,aa,gV0,gVs,M.ret_bind,pg,Ru.hold,e2]
   rfl
  ·rw[e] at pg
   unfold av
   simp only[aA,aa,gV0,gVs,M.ret_bind,pg,Ru.hold,e2,List.set_cons_succ,List.set_cons_zero]
   refine bf ?_
   show cO _ _ [Ent.val (.lst l),Ent.val (.str nm),Ent.val (.tup [.str "looked",.int n]),Ent.val (.int t),Ent.val (.lst (os.map PV.str)),Ent.val (.tup (a::b::.int m::r)),Ent.un]=_
   have c1:asB (ag (isO true) (fun ρ=>af ρ 5) (fun _=>M.ret .non)) [Ent.val (.lst l),Ent.val (.str nm),Ent.val (.tup [.str "looked",.int n]),Ent.val (.int t),Ent.val (.lst (os.map PV.str)),Ent.val (.tup (a::b::.int m::r)),Ent.un]= .ret true:=rfl
   unfold cO
   rw[c1,M.ret_bind,if_pos rfl]
   simp only[ag,gV0,gVs,M.ret_bind,ixO,f9,jg,M.ofO]
   rfl
 |never=>rfl
 |wth o=>
  show (av _ _ [Ent.val (.lst l),Ent.val (.str nm),Ent.val (.tup [.str "with",.str o]),Ent.val (.int t),Ent.val (.lst (os.map PV.str)),Ent.un,Ent.un]).bind bp=_
  refine aG (ρ':=[Ent.val (.lst l),Ent.val (.str nm),Ent.val (.tup [.str "with",.str o]),Ent.val (.int t),Ent.val (.lst (os.map PV.str)),Ent.un,Ent.un]) rfl ?_
  refine aG (ρ':=[Ent.val (.lst l),Ent.val (.str nm),Ent.val (.tup [.str "with",.str o]),Ent.val (.int t),Ent.val (.lst (os.map PV.str)),Ent.un,Ent.un]) rfl ?_
  refine aG (ρ':=[Ent.val (.lst l),Ent.val (.str nm),Ent.val (.tup [.str "with",.str o]),Ent.val (.int t),Ent.val (.lst (os.map PV.str)),Ent.un,Ent.un]) rfl ?_
  refine bD (bf ?_)
  show cO _ _ [Ent.val (.lst l),Ent.val (.str nm),Ent.val (.tup [.str "with",.str o]),Ent.val (.int t),Ent.val (.lst (os.map PV.str)),Ent.un,Ent.un]=_
  have c1:asB (ag (eqO false) (ag ixO (fun ρ=>af ρ 2) (fun _=>M.ret (.int 0))) (fun _=>M.ret (.str "with"))) [Ent.val (.lst l),Ent.val (.str nm),Ent.val (.tup [.str "with",.str o]),Ent.val (.int t),Ent.val (.lst (os.map PV.str)),Ent.un,Ent.un]= .ret true:=rfl
  unfold cO
  rw[c1,M.ret_bind,if_pos rfl]
  simp only[ag,gV0,gVs,M.ret_bind,ixO,f9,M.ofO,mS,Ru.hold]
  simp
 |post L p n=>
  obtain⟨w,hw,ew⟩: ∃ w:Str,(w="least"∧L=true∨w="most"∧L=false)∧(Ru.post L p n).pv= .tup [.str w,.str p,.int n]:=by
   cases L
   ·exact⟨"most",.inr ⟨rfl,rfl⟩,rfl⟩
   ·exact⟨"least",.inl ⟨rfl,rfl⟩,rfl⟩
  rw[ew]
  show (av _ _ [Ent.val (.lst l),Ent.val (.str nm),Ent.val (.tup [.str w,.str p,.int n]),Ent.val (.int t),Ent.val (.lst (os.map PV.str)),Ent.un,Ent.un]).bind bp=_
  refine aG (ρ':=[Ent.val (.lst l),Ent.val (.str nm),Ent.val (.tup [.str w,.str p,.int n]),Ent.val (.int t),Ent.val (.lst (os.map PV.str)),Ent.un,Ent.un]) (by rcases hw with⟨rfl,_⟩|⟨rfl,_⟩<;>rfl) ?_
  refine aG (ρ':=[Ent.val (.lst l),Ent.val (.str nm),Ent.val (.tup [.str w,.str p,.int n]),Ent.val (.int t),Ent.val (.lst (os.map PV.str)),Ent.un,Ent.un]) (by rcases hw with⟨rfl,_⟩|⟨rfl,_⟩<;>rfl) ?_
  have pg:=pR h hl "read" p t
  refine d7 ?_
  rw[dF (by rcases hw with⟨rfl,_⟩|⟨rfl,_⟩<;>rfl)]
  rcases lU h hr p t with⟨e,e2⟩|⟨a,b,c,d,v,e,e2⟩
  ·rw[e] at pg
   unfold av
   simp only[aA,aa,ag,gV0,gVs,M.ret_bind,ixO,f9,M.ofO,pg,Ru.hold,e2]
   rfl
  ·rw[e] at pg
   unfold av
   simp only[aA,aa,ag,gV0,gVs,M.ret_bind,ixO,f9,M.ofO,pg,Ru.hold,e2]
   rcases hw with⟨rfl,rfl⟩|⟨rfl,rfl⟩<;>rfl
section
variable {l:List PV} {ns:List Int} {t:Int}
theorem pJ {p:Str} (h:PagesN l ns) (hr:Reads l):F_reading [.tup (aX l),.str p,.int t]= .ret (match rdF l t p with|none=>.non|some v=>.int v):=by
 have s:=seen h "read" p t
 unfold F_reading m_reading
 show (av _ _ [Ent.val (.tup (aX l)),Ent.val (.str p),Ent.val (.int t),Ent.un]).bind bp=_
 rcases lU h hr p t with⟨e,e2⟩|⟨a,b,c,d,v,e,e2⟩
 ·rw[e] at s
  refine aG (ρ':=[Ent.val (.tup (aX l)),Ent.val (.str p),Ent.val (.int t),Ent.val .non]) ?_ ?_
  ·simp only[aA,aa,gV0,gVs,M.ret_bind,s]
   rfl
  ·rw[e2];exact bD (bf rfl)
 ·rw[e] at s
  refine aG (ρ':=[Ent.val (.tup (aX l)),Ent.val (.str p),Ent.val (.int t),Ent.val (.tup [a,b,c,d,.int v])]) ?_ ?_
  ·simp only[aA,aa,gV0,gVs,M.ret_bind,s]
   rfl
  ·rw[e2];exact bD (bf rfl)
theorem rl {z:Str} (h:PagesN l ns):F_looked_at [.tup (aX l),.str z,.int t]= .ret (match lkF l t z with|none=>.non|some v=>.int v):=by
 have s:=seen h "look" z t
 unfold F_looked_at m_looked_at
 show (av _ _ [Ent.val (.tup (aX l)),Ent.val (.str z),Ent.val (.int t),Ent.un]).bind bp=_
 rcases lV h z t with⟨e,e2⟩|⟨a,b,m,r,e,e2⟩
 ·rw[e] at s
  refine aG (ρ':=[Ent.val (.tup (aX l)),Ent.val (.str z),Ent.val (.int t),Ent.val .non]) ?_ ?_
  ·simp only[aA,aa,gV0,gVs,M.ret_bind,s]
   rfl
  ·rw[e2];exact bD (bf rfl)
 ·rw[e] at s
  refine aG (ρ':=[Ent.val (.tup (aX l)),Ent.val (.str z),Ent.val (.int t),Ent.val (.tup (a::b::.int m::r))]) ?_ ?_
  ·simp only[aA,aa,gV0,gVs,M.ret_bind,s]
   rfl
  ·rw[e2]
   refine bD (bf ?_)
   show ifV _ _ _ [Ent.val (.tup (aX l)),Ent.val (.str z),Ent.val (.int t),Ent.val (.tup (a::b::.int m::r))]=_
   rw[p7 rfl]
   simp only[ag,gV0,gVs,M.ret_bind,ixO,jg,M.ofO]
theorem qm {B y:PV} {o:Str}:F_holds_alone [B,y,.tup [.str "with",.str o],.int t]= .ret (.bl false):=by
 unfold F_holds_alone m_holds_alone
 show (av _ _ [Ent.val B,Ent.val y,Ent.val (.tup [.str "with",.str o]),Ent.val (.int t),Ent.un]).bind bp=_
 refine aG (ρ':=[Ent.val B,Ent.val y,Ent.val (.tup [.str "with",.str o]),Ent.val (.int t),Ent.val (.str "with")]) rfl ?_
 refine aG (ρ':=[Ent.val B,Ent.val y,Ent.val (.tup [.str "with",.str o]),Ent.val (.int t),Ent.val (.str "with")]) rfl ?_
 refine aG (ρ':=[Ent.val B,Ent.val y,Ent.val (.tup [.str "with",.str o]),Ent.val (.int t),Ent.val (.str "with")]) rfl ?_
 refine aG (ρ':=[Ent.val B,Ent.val y,Ent.val (.tup [.str "with",.str o]),Ent.val (.int t),Ent.val (.str "with")]) rfl ?_
 exact bD (bf rfl)
theorem vA {B:PV} {z kd:Str} {q:List PV} {n:Int} {y:PV} (hk:(kd==("slope":Str))=false) (h:F_looked_at [B,.str z,.int t]= .ret y):F_look_holds [B,.tup (.str z::.str kd::q),.int n,.int t]= .ret (.bl false):=by
 unfold F_look_holds m_look_holds
 show (av _ _ [Ent.val B,Ent.val (.tup (.str z::.str kd::q)),Ent.val (.int n),Ent.val (.int t),Ent.un]).bind bp=_
 refine aG (ρ':=[Ent.val B,Ent.val (.tup (.str z::.str kd::q)),Ent.val (.int n),Ent.val (.int t),Ent.val y]) ?_ ?_
 ·simp only[aA,aa,ag,gV0,gVs,M.ret_bind,ixO,at0,M.ofO]
  rw[h]
  rfl
 ·refine bD (bf ?_)
  have c1:asB (ag (eqO false) (ag ixO (fun ρ=>af ρ 1) (fun _=>M.ret (.int 1))) (fun _=>M.ret (.str "slope"))) [Ent.val B,Ent.val (.tup (.str z::.str kd::q)),Ent.val (.int n),Ent.val (.int t),Ent.val y]= .ret false:=by
   simp only[asB,ag,gV0,gVs,M.ret_bind,ixO,f9,M.ofO,eqS,hk]
  show cO _ _ [Ent.val B,Ent.val (.tup (.str z::.str kd::q)),Ent.val (.int n),Ent.val (.int t),Ent.val y]=_
  unfold cO
  rw[c1]
  rfl
theorem nR {z kd:Str} {q:List PV} (h:PagesN l ns) (hr:Reads l) (hs:(kd==("slope":Str))=false→lkF l t z=none) (r:Ru):
  F_holds_alone [.tup (aX l),.tup (.str z::.str kd::q),r.pv,.int t]= .ret (.bl (r.hold (rdF l t) (lkF l t z) t (fun _=>false))):=by
 cases r with
 |hours a b=>exact ou
 |never=>exact oq
 |wth o=>exact qm
 |looked n=>
  have lo:=rl (z:=z) (t:=t) h
  cases ck:(kd==("slope":Str)) with
  |true=>
   obtain rfl:kd="slope":=by simpa using ck
   refine iw ?_
   cases e:lkF l t z with
   |none=>rw[e] at lo;simp only[Ru.hold];exact vC lo
   |some m=>rw[e] at lo;simp only[Ru.hold];exact vB lo
  |false=>
   refine iw ?_
   simp only[Ru.hold,hs ck]
   exact vA ck lo
 |post L p n=>
  have re:=pJ (p:=p) (t:=t) h hr
  cases L
  ·refine jO (w:="most") (.inr rfl) ?_
   cases e:rdF l t p with
   |none=>rw[e] at re;simp only[Ru.hold,e];exact qN (.inr rfl) re
   |some v=>rw[e] at re;simp only[Ru.hold,e];exact qM (.inr rfl) re
  ·refine jO (w:="least") (.inl rfl) ?_
   cases e:rdF l t p with
   |none=>rw[e] at re;simp only[Ru.hold,e];exact qN (.inl rfl) re
   |some v=>rw[e] at re;simp only[Ru.hold,e];exact qM (.inl rfl) re
end
theorem gq {α:Type} {m:α→PV} {k:Nat} {tt:ah→M Bool} {te:ah→M PV} {p:α→Bool} {g:α→PV} {ρ:ah}: ∀ (rs:List α) (ρ':ah),(∀ e,ρ'.set k e=ρ.set k e)→(∀ r∈rs,tt (ρ.set k (.val (m r)))= .ret (p r))→(∀ r∈rs,p r=true→te (ρ.set k (.val (m r)))= .ret (g r))→
  lcM (aN k) tt te (rs.map m) ρ'= .ret ((rs.filter p).map g)
 |[],ρ',_,_,_=>rfl
 |r::rs,ρ',hρ,h1,h2=>by
  have ih:=gq (m:=m) (k:=k) (tt:=tt) (te:=te) (p:=p) (g:=g) (ρ:=ρ) rs (ρ.set k (.val (m r))) (fun e=>by rw[List.set_set]) (fun r hr=>h1 r (List.mem_cons_of_mem _ hr)) (fun r hr=>h2 r (List.mem_cons_of_mem _ hr))
  rw[List.map_cons]
  unfold lcM
  simp only[aN,M.ret_bind,hρ,h1 r List.mem_cons_self]
  cases c:p r with
  |true=>
   rw[if_pos rfl,h2 r List.mem_cons_self c,M.ret_bind,ih,M.ret_bind,List.filter_cons_of_pos c]
   rfl
  |false=>
   rw[if_neg (by decide),ih,List.filter_cons_of_neg (by rw[c];decide)]
noncomputable def Ru.isW:Ru→Bool
 | .wth _=>true
 |_=>false
noncomputable def Ru.oth:Ru→Str
 | .wth o=>o
 |_=>""
theorem Ru.head (r:Ru): ∃ w q,r.pv= .tup (.str w::q)∧(w==("with":Str))=r.isW:=by
 cases r with
 |hours a b=>exact⟨"hours",_,rfl,by show (("hours":Str)==("with":Str))=false;decide +kernel⟩
 |post L p n=>
  cases L
  ·exact⟨"most",_,rfl,by show (("most":Str)==("with":Str))=false;decide +kernel⟩
  ·exact⟨"least",_,rfl,by show (("least":Str)==("with":Str))=false;decide +kernel⟩
 |looked n=>exact⟨"looked",_,rfl,by show (("looked":Str)==("with":Str))=false;decide +kernel⟩
 |wth o=>exact⟨"with",_,rfl,by show (("with":Str)==("with":Str))=true;decide +kernel⟩
 |never=>exact⟨"never",_,rfl,by show (("never":Str)==("with":Str))=false;decide +kernel⟩
noncomputable def oaT:ah→M Bool:=(asB (ag (eqO true) (ag ixO (fun ρ=>af ρ 0) (fun _=>M.ret (.int 0))) (fun _=>M.ret (.str "with"))))
noncomputable def oaE:ah→M PV:=(fun ρ=>((aa (fun ρ=>af ρ 1) (aa (fun ρ=>af ρ 2) (aa (fun ρ=>af ρ 0) (aa (fun ρ=>af ρ 3) (fun _=>M.ret []))))) ρ).bind F_holds_alone)
noncomputable def jh (hd:Ru→Bool) (rs:List Ru):Option (List Str):=if(rs.filter fun r=>!r.isW).all hd=true then some ((rs.filter Ru.isW).map Ru.oth) else none
noncomputable def obT:ah→M Bool:=(asB (ag (eqO false) (ag ixO (fun ρ=>af ρ 0) (fun _=>M.ret (.int 0))) (fun _=>M.ret (.str "with"))))
noncomputable def obE:ah→M PV:=(ag ixO (fun ρ=>af ρ 0) (fun _=>M.ret (.int 1)))
theorem qk {B:PV} {z:Str} {t:Int} {r:List PV} {rs:List Ru} {hd:Ru→Bool} (hl:rs.length≤1000) (h:F_rules_at [B,.str z,.int t]= .ret (.tup (rs.map Ru.pv))) (ha: ∀ u∈rs,u.isW=false→F_holds_alone [B,.tup (.str z::r),u.pv,.int t]= .ret (.bl (hd u))):
  F_others_asked [B,.tup (.str z::r),.int t]= .ret (iu (jh hd rs)):=by
 have hlen:(rs.map Ru.pv).length≤100000:=by rw[List.length_map];lia
 unfold F_others_asked m_others_asked
 show (av _ _ [Ent.val B,Ent.val (.tup (.str z::r)),Ent.val (.int t),Ent.un]).bind bp=_
 refine aG (ρ':=[Ent.val B,Ent.val (.tup (.str z::r)),Ent.val (.int t),Ent.val (.tup (rs.map Ru.pv))]) ?_ ?_
 ·simp only[aA,aa,ag,gV0,gVs,M.ret_bind,ixO,at0,M.ofO]
  rw[h]
  rfl
 have ec:cX [none,some 0,some 1,some 2] [Ent.val B,Ent.val (.tup (.str z::r)),Ent.val (.int t),Ent.val (.tup (rs.map Ru.pv))]=[Ent.un,Ent.val B,Ent.val (.tup (.str z::r)),Ent.val (.int t)]:=rfl
 have q1:=gq (m:=Ru.pv) (k:=0) (tt:=oaT) (te:=oaE) (p:=fun u=>!u.isW) (g:=fun u=>.bl (hd u)) (ρ:=[Ent.un,Ent.val B,Ent.val (.tup (.str z::r)),Ent.val (.int t)]) rs [Ent.un,Ent.val B,Ent.val (.tup (.str z::r)),Ent.val (.int t)] (fun _=>rfl) (fun u hu=>by
  obtain⟨w,q,e,hw⟩:=u.head
  have e1:eqO true (.str w) (.str "with")= .ret (.bl (!u.isW)):=by
   show M.ret (PV.bl (xor true (w=="with")))=_
   rw[hw];simp
  rw[e]
  simp only[oaT,asB,ag,List.set_cons_zero,gV0,M.ret_bind,ixO,at0,M.ofO,e1]) (fun u hu hp=>by
  simp only[oaE,aa,List.set_cons_zero,gV0,gVs,M.ret_bind]
  exact ha u hu (by simpa using hp))
 have eall: ∀ us:List Ru,eQ [.lst (us.map fun u=>PV.bl (hd u))]= .ret (.bl (us.all hd)):=fun us=>by
  have:d9 (us.map fun u=>PV.bl (hd u))=some (us.map hd):=by
   induction us with
   |nil=>rfl
   |cons u us ih=>simp only[List.map_cons,d9,ih];rfl
  simp only[eQ,this,M.ofO,M.ret_bind,List.all_map]
  rfl
 have tst:(el (asB (fun ρ=>((aa (aH (bb [none,some 0,some 1,some 2] (fun ρ=>((fun ρ=>af ρ 3) ρ).bind a8) (aN 0) oaT oaE)) (fun _=>M.ret [])) ρ).bind eQ))) [Ent.val B,Ent.val (.tup (.str z::r)),Ent.val (.int t),Ent.val (.tup (rs.map Ru.pv))]= .ret (!((rs.filter fun u=>!u.isW).all hd)):=by
  unfold el
  unfold asB
  simp only[aa,aH,bb,gV0,gVs,M.ret_bind,a8,ec,if_pos hlen]
  rw[q1]
  simp only[M.ret_bind,eall]
 cases c:(rs.filter fun u=>!u.isW).all hd with
 |true=>
  rw[c] at tst
  refine aG (ρ':=[Ent.val B,Ent.val (.tup (.str z::r)),Ent.val (.int t),Ent.val (.tup (rs.map Ru.pv))]) (eL tst) ?_
  refine bD (bf ?_)
  have ec2:cX [none] [Ent.val B,Ent.val (.tup (.str z::r)),Ent.val (.int t),Ent.val (.tup (rs.map Ru.pv))]=[Ent.un]:=rfl
  have q2:=gq (m:=Ru.pv) (k:=0) (tt:=obT) (te:=obE) (p:=Ru.isW) (g:=fun u=>.str u.oth) (ρ:=[Ent.un]) rs [Ent.un] (fun _=>rfl) (fun u hu=>by
   obtain⟨w,q,e,hw⟩:=u.head
   rw[e]
   simp only[obT,asB,ag,List.set_cons_zero,gV0,M.ret_bind,ixO,at0,M.ofO,eqS,hw]) (fun u hu hp=>by
   cases u<;>first|rfl|cases hp)
  show aH (bb [none] (fun ρ=>((fun ρ=>af ρ 3) ρ).bind a8) (aN 0) obT obE) [Ent.val B,Ent.val (.tup (.str z::r)),Ent.val (.int t),Ent.val (.tup (rs.map Ru.pv))]=_
  simp only[aH,bb,gV0,gVs,M.ret_bind,a8,ec2,if_pos hlen]
  rw[q2]
  unfold jh
  rw[if_pos c]
  simp only[M.ret_bind,iu,List.map_map]
  rfl
 |false=>
  rw[c] at tst
  refine d7 (Eq.trans (dF tst) ?_)
  unfold jh
  rw[if_neg (by rw[c];decide)]
  exact bf rfl
theorem m5 (k:Nat): ∀ a b:List Str,eqs (eqP (k+1)) (a.map PV.str) (b.map PV.str)=some (decide (a=b))
 |[],[]=>rfl
 |[],_::_=>rfl
 |_::_,[]=>rfl
 |x::a,y::b=>by
  have e:eqP (k+1) (.str x) (.str y)=some (x==y):=rfl
  simp only[List.map_cons,eqs,e,m5 k a b,Option.bind_some]
  by_cases c:x=y
  ·subst c
   by_cases c2:a=b
   ·subst c2;simp
   ·simp[c2]
  ·simp[c]
theorem vv (a b:List Str):eqO true (.lst (a.map PV.str)) (.lst (b.map PV.str))= .ret (.bl (!decide (a=b))):=by
 have e:eqP 20 (.lst (a.map PV.str)) (.lst (b.map PV.str))=some (decide (a=b)):=m5 18 a b
 unfold eqO
 rw[e]
 simp[M.ofO]
noncomputable def lhE:ah→M PV:=(fun ρ=>((aa (fun ρ=>af ρ 1) (aa (fun ρ=>af ρ 2) (aa (fun ρ=>af ρ 0) (aa (fun ρ=>af ρ 3) (aa (fun ρ=>af ρ 4) (fun _=>M.ret [])))))) ρ).bind F_law_holds)
noncomputable def loT:ah→M Bool:=(asB (fun ρ=>((aa (aH (bb [none,some 1,some 6,some 2,some 4] (fun ρ=>((fun ρ=>af ρ 7) ρ).bind a8) (aN 0) cG lhE)) (fun _=>M.ret [])) ρ).bind eQ))
noncomputable def loI:ah→M Fl:=(ifP loT (cS 5 (fun ρ=>af ρ 6)) (fun ρ=>M.ret (.nx ρ)))
noncomputable def loS:ah→M Fl:=(av (mU (aA 4 (fun ρ=>af ρ 5))) (av (de 5 (fun ρ=>((fun _=>M.ret []) ρ).bind aU)) (bg (fun ρ=>((fun ρ=>af ρ 3) ρ).bind a8) (cR [6,7]) loI)))
noncomputable def loW:ah→M Bool:=(asB (ag (eqO true) (fun ρ=>af ρ 4) (fun ρ=>bT ρ 5)))
noncomputable def okR (l:List PV) (t:Int) (ru:Str→List Ru) (S:List Str) (z:Str):Bool:=(ru z).all fun r=>r.hold (rdF l t) (lkF l t z) t (inN S)
noncomputable def dE (ru:Str→List Ru) (z:Str):PV:=.tup [.str z,.tup ((ru z).map Ru.pv)]
section
variable {l:List PV} {ns:List Int} {t:Int} {ru:Str→List Ru} {hl R:PV}
theorem xl {S:List Str} {z:Str} {acc:List PV} (h:PagesN l ns) (hn:l.length≤1000) (hr:Reads l) (hu: ∀ z,(ru z).length≤1000):
  loT [Ent.val hl,Ent.val (.lst l),Ent.val (.int t),Ent.val R,Ent.val (.lst (S.map PV.str)),Ent.own acc,Ent.val (.str z),Ent.val (.tup ((ru z).map Ru.pv))]= .ret (okR l t ru S z):=by
 have hlen:((ru z).map Ru.pv).length≤100000:=by rw[List.length_map];have:=hu z;lia
 have ec:cX [none,some 1,some 6,some 2,some 4] [Ent.val hl,Ent.val (.lst l),Ent.val (.int t),Ent.val R,Ent.val (.lst (S.map PV.str)),Ent.own acc,Ent.val (.str z),Ent.val (.tup ((ru z).map Ru.pv))]=[Ent.un,Ent.val (.lst l),Ent.val (.str z),Ent.val (.int t),Ent.val (.lst (S.map PV.str))]:=rfl
 have q:=gq (m:=Ru.pv) (k:=0) (tt:=cG) (te:=lhE) (p:=fun _=>true) (g:=fun r=>.bl (r.hold (rdF l t) (lkF l t z) t (inN S))) (ρ:=[Ent.un,Ent.val (.lst l),Ent.val (.str z),Ent.val (.int t),Ent.val (.lst (S.map PV.str))]) (ru z) [Ent.un,Ent.val (.lst l),Ent.val (.str z),Ent.val (.int t),Ent.val (.lst (S.map PV.str))] (fun _=>rfl) (fun _ _=>rfl) (fun r _ _=>by
  simp only[lhE,aa,List.set_cons_zero,gV0,gVs,M.ret_bind]
  exact kG h hn hr r)
 have eall: ∀ us:List Ru,eQ [.lst (us.map fun r=>PV.bl (r.hold (rdF l t) (lkF l t z) t (inN S)))]= .ret (.bl (us.all fun r=>r.hold (rdF l t) (lkF l t z) t (inN S))):=fun us=>by
  have:d9 (us.map fun r=>PV.bl (r.hold (rdF l t) (lkF l t z) t (inN S)))=some (us.map fun r=>r.hold (rdF l t) (lkF l t z) t (inN S)):=by
   induction us with
   |nil=>rfl
   |cons u us ih=>simp only[List.map_cons,d9,ih];rfl
  simp only[eQ,this,M.ofO,M.ret_bind,List.all_map]
  rfl
 have hf:(ru z).filter (fun _=>true)=ru z:=by simp
 unfold loT asB
 simp only[aa,aH,bb,gV0,gVs,M.ret_bind,a8,ec,if_pos hlen]
 rw[q,hf]
 simp only[M.ret_bind,eall,okR]
theorem j6 {S:List Str} (h:PagesN l ns) (hn:l.length≤1000) (hr:Reads l) (hu: ∀ z,(ru z).length≤1000): ∀ (zs acc:List Str) (e6 e7:Ent),acc.length+zs.length < 1000→
  ∃ e6' e7',bC (cR [6,7]) loI (zs.map (dE ru)) [Ent.val hl,Ent.val (.lst l),Ent.val (.int t),Ent.val R,Ent.val (.lst (S.map PV.str)),Ent.own (acc.map PV.str),e6,e7]= .ret (.nx [Ent.val hl,Ent.val (.lst l),Ent.val (.int t),Ent.val R,Ent.val (.lst (S.map PV.str)),Ent.own ((acc++zs.filter (okR l t ru S)).map PV.str),e6',e7'])
 |[],acc,e6,e7,_=>⟨e6,e7,by simp[bC]⟩
 |z::zs,acc,e6,e7,hz=>by
  have tst:=xl (hl:=hl) (R:=R) (S:=S) (z:=z) (acc:=acc.map PV.str) h hn hr hu (t:=t)
  rw[List.map_cons]
  unfold bC
  have eb:cR [6,7] (dE ru z) [Ent.val hl,Ent.val (.lst l),Ent.val (.int t),Ent.val R,Ent.val (.lst (S.map PV.str)),Ent.own (acc.map PV.str),e6,e7]= .ret [Ent.val hl,Ent.val (.lst l),Ent.val (.int t),Ent.val R,Ent.val (.lst (S.map PV.str)),Ent.own (acc.map PV.str),Ent.val (.str z),Ent.val (.tup ((ru z).map Ru.pv))]:=rfl
  rw[eb,M.ret_bind]
  cases c:okR l t ru S z with
  |true=>
   rw[c] at tst
   obtain⟨e6',e7',ih⟩:=j6 h hn hr hu zs (acc++[z]) (Ent.val (.str z)) (Ent.val (.tup ((ru z).map Ru.pv))) (by simp at hz ⊢;lia)
   refine⟨e6',e7',?_⟩
   have hlt:(acc.map PV.str).length < 100000:=by rw[List.length_map];simp at hz;lia
   have st:loI [Ent.val hl,Ent.val (.lst l),Ent.val (.int t),Ent.val R,Ent.val (.lst (S.map PV.str)),Ent.own (acc.map PV.str),Ent.val (.str z),Ent.val (.tup ((ru z).map Ru.pv))]= .ret (.nx [Ent.val hl,Ent.val (.lst l),Ent.val (.int t),Ent.val R,Ent.val (.lst (S.map PV.str)),Ent.own ((acc++[z]).map PV.str),Ent.val (.str z),Ent.val (.tup ((ru z).map Ru.pv))]):=by
    unfold loI
    rw[dF tst]
    simp only[cS,List.getElem?_cons_succ,List.getElem?_cons_zero,gV0,gVs,M.ret_bind,if_pos hlt,List.set_cons_succ,List.set_cons_zero,List.map_append,List.map_cons,List.map_nil]
   rw[st,M.ret_bind,List.filter_cons_of_pos c]
   refine Eq.trans ih ?_
   rw[List.append_assoc]
   rfl
  |false=>
   rw[c] at tst
   obtain⟨e6',e7',ih⟩:=j6 h hn hr hu zs acc (Ent.val (.str z)) (Ent.val (.tup ((ru z).map Ru.pv))) (by simp at hz ⊢;lia)
   refine⟨e6',e7',?_⟩
   have st:loI [Ent.val hl,Ent.val (.lst l),Ent.val (.int t),Ent.val R,Ent.val (.lst (S.map PV.str)),Ent.own (acc.map PV.str),Ent.val (.str z),Ent.val (.tup ((ru z).map Ru.pv))]= .ret (.nx [Ent.val hl,Ent.val (.lst l),Ent.val (.int t),Ent.val R,Ent.val (.lst (S.map PV.str)),Ent.own (acc.map PV.str),Ent.val (.str z),Ent.val (.tup ((ru z).map Ru.pv))]):=by
    unfold loI
    rw[eL tst]
   rw[st,M.ret_bind,List.filter_cons_of_neg (by rw[c];decide)]
   exact ih
end
noncomputable def gQ:Option (List Str)→PV
 |none=>.non
 |some b=>.lst (b.map PV.str)
noncomputable def phi (f:List Str→Str→Bool) (names S:List Str):List Str:=names.filter (f S)
noncomputable def whO (f:List Str→Str→Bool) (names:List Str):Nat→Option (List Str)→List Str→Option (List Str)
 |0,_,_=>none
 |k+1,b,cur=>if b=some cur then some cur else whO f names k (some cur) (phi f names cur)
section
variable {l:List PV} {ns:List Int} {t:Int} {ru:Str→List Ru} {hl:PV} {names:List Str}
theorem xk {R:PV} {b:Option (List Str)} {cur:List Str} {e6 e7:Ent}:loW [Ent.val hl,Ent.val (.lst l),Ent.val (.int t),Ent.val R,Ent.val (gQ b),Ent.own (cur.map PV.str),e6,e7]= .ret (!decide (b=some cur)):=by
 unfold loW asB
 cases b with
 |none=>
  simp only[ag,gV0,gVs,M.ret_bind,bT,List.getElem?_cons_succ,List.getElem?_cons_zero,gQ]
  rfl
 |some b=>
  simp only[ag,gV0,gVs,M.ret_bind,bT,List.getElem?_cons_succ,List.getElem?_cons_zero,gQ,vv,Option.some.injEq]
theorem mO (h:PagesN l ns) (hn:l.length≤1000) (hr:Reads l) (hu: ∀ z,(ru z).length≤1000) (hm:names.length < 900): ∀ (k:Nat) (b:Option (List Str)) (cur cur':List Str) (e6 e7:Ent),whO (okR l t ru) names k b cur=some cur'→
  ∃ b' e6' e7',whP loW loS k [Ent.val hl,Ent.val (.lst l),Ent.val (.int t),Ent.val (.lst (names.map (dE ru))),Ent.val (gQ b),Ent.own (cur.map PV.str),e6,e7]= .ret (.nx [Ent.val hl,Ent.val (.lst l),Ent.val (.int t),Ent.val (.lst (names.map (dE ru))),Ent.val b',Ent.own (cur'.map PV.str),e6',e7'])
 |0,b,cur,cur',e6,e7,h0=>by cases h0
 |k+1,b,cur,cur',e6,e7,h0=>by
  unfold whO at h0
  rw[uj,xk,M.ret_bind]
  by_cases c:b=some cur
  ·rw[if_pos c] at h0
   cases h0
   rw[if_neg (by simp[c])]
   exact⟨_,e6,e7,rfl⟩
  ·rw[if_neg c] at h0
   rw[if_pos (by simp[c])]
   obtain⟨x6,x7,lp⟩:=j6 (hl:=hl) (R:=.lst (names.map (dE ru))) (S:=cur) (t:=t) h hn hr hu names [] e6.freeze e7.freeze (by simp;lia)
   have st:loS [Ent.val hl,Ent.val (.lst l),Ent.val (.int t),Ent.val (.lst (names.map (dE ru))),Ent.val (gQ b),Ent.own (cur.map PV.str),e6,e7]= .ret (.nx [Ent.val hl,Ent.val (.lst l),Ent.val (.int t),Ent.val (.lst (names.map (dE ru))),Ent.val (gQ (some cur)),Ent.own ((phi (okR l t ru) names cur).map PV.str),x6,x7]):=by
    unfold loS av
    have e1:mU (aA 4 (fun ρ=>af ρ 5)) [Ent.val hl,Ent.val (.lst l),Ent.val (.int t),Ent.val (.lst (names.map (dE ru))),Ent.val (gQ b),Ent.own (cur.map PV.str),e6,e7]= .ret (.nx [Ent.val hl,Ent.val (.lst l),Ent.val (.int t),Ent.val (.lst (names.map (dE ru))),Ent.val (.lst (cur.map PV.str)),Ent.val (.lst (cur.map PV.str)),e6.freeze,e7.freeze]):=rfl
    rw[e1,M.ret_bind]
    have e2:de 5 (fun ρ=>((fun _=>M.ret []) ρ).bind aU) [Ent.val hl,Ent.val (.lst l),Ent.val (.int t),Ent.val (.lst (names.map (dE ru))),Ent.val (.lst (cur.map PV.str)),Ent.val (.lst (cur.map PV.str)),e6.freeze,e7.freeze]= .ret (.nx [Ent.val hl,Ent.val (.lst l),Ent.val (.int t),Ent.val (.lst (names.map (dE ru))),Ent.val (.lst (cur.map PV.str)),Ent.own ([].map PV.str),e6.freeze,e7.freeze]):=by
     simp only[de,M.ret_bind,tu]
     rfl
    show (de 5 (fun ρ=>((fun _=>M.ret []) ρ).bind aU) [Ent.val hl,Ent.val (.lst l),Ent.val (.int t),Ent.val (.lst (names.map (dE ru))),Ent.val (.lst (cur.map PV.str)),Ent.val (.lst (cur.map PV.str)),e6.freeze,e7.freeze]).bind _=_
    rw[e2,M.ret_bind]
    show bg _ _ _ _=_
    simp only[bg,gV0,gVs,M.ret_bind,a8]
    refine Eq.trans lp ?_
    rfl
   rw[st,M.ret_bind]
   exact mO h hn hr hu hm k (some cur) _ cur' x6 x7 h0
end
section
variable {f:List Str→Str→Bool} {names:List Str}
theorem tV {p q:Str→Bool} (h: ∀ z∈names,p z=true→q z=true):(names.filter p).Sublist (names.filter q):=by
 have:names.filter p=(names.filter q).filter p:=by
  rw[List.filter_filter]
  apply List.filter_congr
  intro z hz
  cases c:p z with
  |false=>simp
  |true=>simp[h z hz c]
 rw[this]
 exact List.filter_sublist
theorem lH (mono: ∀ S S':List Str,(∀ x∈S,x∈S')→∀ z∈names,f S z=true→f S' z=true): ∀ (k:Nat) (b:Option (List Str)) (cur:List Str),(∃ p:Str→Bool,cur=names.filter p∧∀ z∈names,p z=true→f cur z=true)→(∀ B,b=some B→cur=phi f names B)→names.length+2≤cur.length+k→
  ∃ S,whO f names k b cur=some S∧S=phi f names S∧∀ T:Str→Prop,(∀ z∈names,∀ S':List Str,(∀ x∈S',T x)→f S' z=true→T z)→(∀ x∈cur,T x)→∀ x∈S,T x
 |0,b,cur,⟨p,hp,_⟩,_,hk=>by
  have:cur.length≤names.length:=by rw[hp];exact List.length_filter_le ..
  lia
 |k+1,b,cur,⟨p,hp,hf⟩,hb,hk=>by
  unfold whO
  by_cases c:b=some cur
  ·rw[if_pos c]
   exact⟨cur,rfl,hb cur c,fun T _ hc=>hc⟩
  ·rw[if_neg c]
   have sub:cur.Sublist (phi f names cur):=by
    unfold phi
    conv=>lhs;rw[hp]
    exact tV hf
   have up: ∀ z∈names,f cur z=true→f (phi f names cur) z=true:=mono _ _ fun x hx=>sub.subset hx
   have step: ∀ T:Str→Prop,(∀ z∈names,∀ S':List Str,(∀ x∈S',T x)→f S' z=true→T z)→(∀ x∈cur,T x)→∀ x∈phi f names cur,T x:=fun T hT hc x hx=>by
    obtain⟨h1,h2⟩:=List.mem_filter.mp hx
    exact hT x h1 cur hc h2
   by_cases ce:cur.length=(phi f names cur).length
   ·have e:cur=phi f names cur:=sub.eq_of_length ce
    cases k with
    |zero=>
     have:cur.length≤names.length:=by rw[hp];exact List.length_filter_le ..
     lia
    |succ k=>
     refine⟨phi f names cur,?_,?_,step⟩
     ·unfold whO
      rw[if_pos (by rw[←e])]
     ·rw[←e];exact e
   ·have hlt:cur.length < (phi f names cur).length:=by have:=sub.length_le;lia
    obtain⟨S,h1,h2,h3⟩:=lH mono k (some cur) (phi f names cur) ⟨f cur,rfl,up⟩ (fun B hB=>by cases hB;rfl) (by first|decide|lia)
    exact⟨S,h1,h2,fun T hT hc=>h3 T hT (step T hT hc)⟩
end
theorem tN {S S':List Str} (h: ∀ x∈S,x∈S') {o:Str} (ho:inN S o=true):inN S' o=true:=inN_iff.mpr (h o (inN_iff.mp ho))
theorem Ru.mono {rd:Str→Option Int} {lk:Option Int} {t:Int} {i i':Str→Bool} (h: ∀ o,i o=true→i' o=true) (r:Ru) (hr:r.hold rd lk t i=true):r.hold rd lk t i'=true:=by
 cases r with
 |wth o=>exact h o hr
 |_=>exact hr
theorem sW {l:List PV} {t:Int} {ru:Str→List Ru} {S S':List Str} (h: ∀ x∈S,x∈S') (z:Str) (hz:okR l t ru S z=true):okR l t ru S' z=true:=by
 unfold okR at hz ⊢
 exact List.all_eq_true.mpr fun r hr=>r.mono (fun o ho=>tN h ho) (List.all_eq_true.mp hz r hr)
theorem tH {l:List PV} {ns:List Int} {t:Int} {ru:Str→List Ru} {hm dk:PV} {ws:List (Str×List PV)} (h:PagesN l ns) (hn:l.length≤1000) (hr:Reads l) (hu: ∀ z,(ru z).length≤1000) (hw:ws.length < 900)
  (hru: ∀ z,F_law_rules [.lst l,.str z,.int t]= .ret (.tup ((ru z).map Ru.pv))):
  ∃ S:List Str,F_law_open [.tup [.tup (ws.map bq),hm,dk],.lst l,.int t]= .ret (.lst (S.map PV.str))∧S=(ws.map (·.1)).filter (okR l t ru S)∧
   ∀ T:Str→Prop,(∀ z∈ws.map (·.1),∀ S':List Str,(∀ x∈S',T x)→okR l t ru S' z=true→T z)→∀ x∈S,T x:=by
 obtain⟨S,h1,h2,h3⟩:=lH (f:=okR l t ru) (names:=ws.map (·.1)) (fun S S' hs z _ hz=>sW hs z hz) 1000 none [] ⟨fun _=>false,by simp,fun z _ hz=>by cases hz⟩ (fun B hB=>by cases hB) (by simp;lia)
 refine⟨S,?_,h2,fun T hT=>h3 T hT fun x hx=>absurd hx List.not_mem_nil⟩
 obtain⟨hl,ehl⟩: ∃ hl,hl=PV.tup [.tup (ws.map bq),hm,dk]:=⟨_,rfl⟩
 have i0:ixO hl (.int 0)= .ret (.tup (ws.map bq)):=by rw[ehl];simp only[ixO,at0,M.ofO]
 rw[←ehl]
 unfold F_law_open m_law_open
 show (av _ _ [Ent.val hl,Ent.val (.lst l),Ent.val (.int t),Ent.un,Ent.un,Ent.un,Ent.un,Ent.un]).bind bp=_
 have hlen:(ws.map bq).length≤100000:=by rw[List.length_map];lia
 refine aG (ρ':=[Ent.val hl,Ent.val (.lst l),Ent.val (.int t),Ent.val (.lst ((ws.map (fun p:Str×List PV=>p.1)).map (dE ru))),Ent.un,Ent.un,Ent.un,Ent.un]) ?_ ?_
 ·have ec:cX [none,some 1,some 2] [Ent.val hl,Ent.val (.lst l),Ent.val (.int t),Ent.un,Ent.un,Ent.un,Ent.un,Ent.un]=[Ent.un,Ent.val (.lst l),Ent.val (.int t)]:=rfl
  have q:=gq (m:=bq) (k:=0) (tt:=cG) (te:=fun ρ=>((aa (ag ixO (fun ρ=>af ρ 0) (fun _=>M.ret (.int 0))) (aa (fun ρ=>((aa (fun ρ=>af ρ 1) (aa (ag ixO (fun ρ=>af ρ 0) (fun _=>M.ret (.int 0))) (aa (fun ρ=>af ρ 2) (fun _=>M.ret [])))) ρ).bind F_law_rules) (fun _=>M.ret []))) ρ).bind aT) (p:=fun _=>true) (g:=fun p=>dE ru p.1) (ρ:=[Ent.un,Ent.val (.lst l),Ent.val (.int t)]) ws [Ent.un,Ent.val (.lst l),Ent.val (.int t)] (fun _=>rfl) (fun _ _=>rfl) (fun p _ _=>by
   simp only[aa,ag,List.set_cons_zero,gV0,gVs,M.ret_bind,ixO,at0,M.ofO,hru,p3,dE])
  have hf:ws.filter (fun _=>true)=ws:=by simp
  unfold aA aH bb
  dsimp only
  rw[show (ag ixO (fun ρ=>af ρ 0) (fun _=>M.ret (.int 0))) [Ent.val hl,Ent.val (.lst l),Ent.val (.int t),Ent.un,Ent.un,Ent.un,Ent.un,Ent.un]= .ret (.tup (ws.map bq)) by simp only[ag,gV0,M.ret_bind,i0]]
  simp only[M.ret_bind,a8,if_pos hlen,ec]
  rw[q,hf,List.map_map]
  rfl
 refine aG (ρ':=[Ent.val hl,Ent.val (.lst l),Ent.val (.int t),Ent.val (.lst ((ws.map (fun p:Str×List PV=>p.1)).map (dE ru))),Ent.val (gQ none),Ent.un,Ent.un,Ent.un]) rfl ?_
 refine aG (ρ':=[Ent.val hl,Ent.val (.lst l),Ent.val (.int t),Ent.val (.lst ((ws.map (fun p:Str×List PV=>p.1)).map (dE ru))),Ent.val (gQ none),Ent.own (([]:List Str).map PV.str),Ent.un,Ent.un]) (by simp only[de,M.ret_bind,tu];rfl) ?_
 obtain⟨b',e6',e7',w⟩:=mO (hl:=hl) (t:=t) h hn hr hu (by rw[List.length_map];exact hw) 1000 none [] S Ent.un Ent.un h1
 refine aG (ρ':=[Ent.val hl,Ent.val (.lst l),Ent.val (.int t),Ent.val (.lst ((ws.map (fun p:Str×List PV=>p.1)).map (dE ru))),Ent.val b',Ent.own (S.map PV.str),e6',e7']) w ?_
 exact bD (bf rfl)
theorem jY {ot:Str×List PV→Option (List Str)}: ∀ {ws:List (Str×List PV)} {p:Str×List PV} {os:List Str},(ws.map (·.1)).Nodup→p∈ws→ot p=some os→osA (cq ot ws) p.1=os
 |w::ws,p,os,nd,hp,ho=>by
  rw[List.map_cons,List.nodup_cons] at nd
  rcases List.mem_cons.mp hp with rfl|hp
  ·unfold osA cq
   simp[ho]
  ·have hne:w.1≠p.1:=fun z=>nd.1 (z▸List.mem_map_of_mem hp)
   have ih:=jY (ot:=ot) nd.2 hp ho
   unfold osA cq at ih ⊢
   cases c:ot w with
   |none=>simp only[List.filterMap_cons,c,Option.map_none];exact ih
   |some os'=>
    simp only[List.filterMap_cons,c,Option.map_some,List.find?_cons,decide_eq_false hne]
    exact ih
theorem vU {ot:Str×List PV→Option (List Str)} {ws:List (Str×List PV)} {z:Str}:(∃ a∈cq ot ws,a.1=z)→∃ p∈ws,p.1=z∧∃ os,ot p=some os:=by
 rintro⟨a,ha,rfl⟩
 unfold cq at ha
 obtain⟨p,hp,e⟩:=List.mem_filterMap.mp ha
 obtain⟨os,ho,rfl⟩:=Option.map_eq_some_iff.mp e
 exact⟨p,hp,rfl,os,ho⟩
theorem vy {ot:Str×List PV→Option (List Str)} {ws:List (Str×List PV)} {p:Str×List PV} {os:List Str} (hp:p∈ws) (ho:ot p=some os): ∃ a∈cq ot ws,a.1=p.1:=
 ⟨(p.1,os),List.mem_filterMap.mpr ⟨p,hp,by rw[ho];rfl⟩,rfl⟩
theorem xb {rd:Str→Option Int} {lk:Option Int} {t:Int} {i:Str→Bool} {rs:List Ru}:(rs.all fun r=>r.hold rd lk t i)=true↔∃ os,jh (fun r=>r.hold rd lk t fun _=>false) rs=some os∧∀ o∈os,i o=true:=by
 have key: ∀ r:Ru,r.isW=false→r.hold rd lk t i=r.hold rd lk t fun _=>false:=fun r hr=>by
  cases r<;>first|rfl|cases hr
 unfold jh
 constructor
 ·intro h
  have h1:((rs.filter fun r=>!r.isW).all fun r=>r.hold rd lk t fun _=>false)=true:=List.all_eq_true.mpr fun r hr=>by
   obtain⟨h2,h3⟩:=List.mem_filter.mp hr
   rw[←key r (by simpa using h3)]
   exact List.all_eq_true.mp h r h2
  refine⟨_,by rw[if_pos h1],fun o ho=>?_⟩
  obtain⟨r,hr,rfl⟩:=List.mem_map.mp ho
  obtain⟨h2,h3⟩:=List.mem_filter.mp hr
  have:=List.all_eq_true.mp h r h2
  cases r<;>first|exact this|cases h3
 ·rintro⟨os,h,ho⟩
  by_cases c:((rs.filter fun r=>!r.isW).all fun r=>r.hold rd lk t fun _=>false)=true
  ·rw[if_pos c] at h
   cases h
   refine List.all_eq_true.mpr fun r hr=>?_
   cases cw:r.isW with
   |true=>
    have:=ho r.oth (List.mem_map_of_mem (List.mem_filter.mpr ⟨hr,cw⟩))
    cases r<;>first|exact this|cases cw
   |false=>
    show r.hold rd lk t i=true
    rw[key r cw]
    exact List.all_eq_true.mp c r (List.mem_filter.mpr ⟨hr,by simp[cw]⟩)
  ·rw[if_neg c] at h;cases h
section
variable {l:List PV} {ns:List Int} {t:Int} {ru:Str→List Ru} {hm dk:PV} {ws:List (Str×List PV)}
theorem qX (h:PagesN l ns) (hr:Reads l) (hu: ∀ z,(ru z).length≤1000) (hw:ws.length≤90) (nd:(ws.map (·.1)).Nodup)
  (hk: ∀ p∈ws,∃ kd q,p.2= .str kd::q∧((kd==("slope":Str))=false→lkF l t p.1=none))
  (hru: ∀ z,F_rules_at [.tup (aX l),.str z,.int t]= .ret (.tup ((ru z).map Ru.pv)))
  {S:List Str} (hS:S=(ws.map (·.1)).filter (okR l t ru S)) (hT: ∀ T:Str→Prop,(∀ z∈ws.map (·.1),∀ S':List Str,(∀ x∈S',T x)→okR l t ru S' z=true→T z)→∀ x∈S,T x):
  F_open_ways [.tup [.tup (ws.map bq),hm,dk],.tup (aX l),.int t]= .ret (.tup (S.map PV.str)):=by
 obtain⟨ot,hot⟩: ∃ ot:Str×List PV→Option (List Str),ot=fun p=>jh (fun r=>r.hold (rdF l t) (lkF l t p.1) t fun _=>false) (ru p.1):=⟨_,rfl⟩
 have asked: ∀ p∈ws,F_others_asked [.tup (aX l),bq p,.int t]= .ret (iu (ot p)):=fun p hp=>by
  obtain⟨kd,q,e,hs⟩:=hk p hp
  rw[hot]
  show F_others_asked [.tup (aX l),.tup (.str p.1::p.2),.int t]=_
  rw[e]
  exact qk (hu p.1) (hru p.1) fun u _ _=>nR h hr hs u
 have hlen: ∀ a∈cq ot ws,a.2.length≤1000:=fun a ha=>by
  unfold cq at ha
  obtain⟨p,hp,e⟩:=List.mem_filterMap.mp ha
  obtain⟨os,ho,rfl⟩:=Option.map_eq_some_iff.mp e
  rw[hot] at ho
  unfold jh at ho
  dsimp only at ho ⊢
  split at ho
  ·cases ho
   rw[List.length_map]
   exact Nat.le_trans (List.length_filter_le ..) (hu p.1)
  ·cases ho
 have hA:(cq ot ws).length≤90:=Nat.le_trans (List.length_filterMap_le _ _) hw
 obtain⟨xs,_,hwh,hclo,hleast⟩:=rJ hlen hA
 rw[vm asked nd hw hlen hwh]
 have okI: ∀ (p:Str×List PV) (S':List Str),okR l t ru S' p.1=true↔∃ os,ot p=some os∧∀ o∈os,o∈S':=fun p S'=>by
  unfold okR
  rw[xb,hot]
  simp only[inN_iff]
 have s1: ∀ x∈xs,x∈S:=hleast (·∈S) fun x hx ho=>by
  obtain⟨p,hp,rfl,os,e⟩:=vU hx
  rw[jY nd hp e] at ho
  rw[hS]
  exact List.mem_filter.mpr ⟨List.mem_map_of_mem hp,(okI p S).mpr ⟨os,e,ho⟩⟩
 have s2: ∀ x∈S,x∈xs:=hT (·∈xs) fun z hz S' hS' hok=>by
  obtain⟨p,hp,rfl⟩:=List.mem_map.mp hz
  obtain⟨os,e,ho⟩:=(okI p S').mp hok
  exact hclo p.1 (vy hp e) (by rw[jY nd hp e];exact fun o h'=>hS' o (ho o h'))
 have e:(ws.map (·.1)).filter (di (foK xs))=S:=by
  conv=>rhs;rw[hS]
  apply List.filter_congr
  intro z hz
  rw[mT]
  have:z∈S↔okR l t ru S z=true:=by
   conv=>lhs;rw[hS]
   rw[List.mem_filter]
   exact⟨fun h=>h.2,fun h=>⟨hz,h⟩⟩
  cases c:okR l t ru S z with
  |true=>simp[s2 z (this.mpr c)]
  |false=>
   have:z∉xs:=fun h=>by have:=this.mp (s1 z h);rw[c] at this;cases this
   simp[this]
 rw[e]
end
noncomputable def enR (j:Nat):List Ru→List PV
 |[]=>[]
 |r::rs=>.tup [.int j,r.pv]::enR (j+1) rs
theorem rN: ∀ (rs:List Ru) (j:Nat),(rs.map Ru.pv).mapIdx (fun i x=>PV.tup [.int ((i+j:Nat):Int),x])=enR j rs
 |[],j=>rfl
 |r::rs,j=>by
  rw[List.map_cons,List.mapIdx_cons]
  unfold enR
  have e:(0+j:Nat)=j:=by lia
  rw[e,←rN rs (j+1)]
  congr 1
  congr 1
  funext i x
  have:(i+1+j:Nat)=i+(j+1):=by lia
  rw[this]
theorem jd (rs:List Ru):fS (rs.map Ru.pv)=enR 0 rs:=by
 rw[←rN rs 0]
 rfl
noncomputable def bad (g:Ru→Bool) (j:Nat):List Ru→PV
 |[]=>.non
 |r::rs=>if g r=true then bad g (j+1) rs else .int j
noncomputable def wyT:ah→M PV:=(ifV (asB (ag (eqO false) (ag ixO (fun ρ=>af ρ 7) (fun _=>M.ret (.int 0))) (fun _=>M.ret (.str "with")))) (ag (inO false) (ag ixO (fun ρ=>af ρ 7) (fun _=>M.ret (.int 1))) (fun ρ=>af ρ 5)) (fun ρ=>((aa (fun ρ=>af ρ 1) (aa (fun ρ=>af ρ 4) (aa (fun ρ=>af ρ 7) (aa (fun ρ=>af ρ 3) (fun _=>M.ret []))))) ρ).bind F_holds_alone))
noncomputable def wyB:ah→M Fl:=(av (aA 8 wyT) (ifP (el (asB (fun ρ=>af ρ 8))) (a7 (fun ρ=>af ρ 6)) (fun ρ=>M.ret (.nx ρ))))
section
variable {B hl z wy tv:PV} {S:List Str} {g:Ru→Bool}
theorem oz {h0:Ent}: ∀ (rs:List Ru) (j:Nat) (e6 e7 e8:Ent),(∀ r∈rs,∀ (i:Int) (e8:Ent),wyT [Ent.val hl,Ent.val B,Ent.val z,Ent.val tv,Ent.val wy,Ent.val (.tup (S.map PV.str)),Ent.val (.int i),Ent.val r.pv,e8]= .ret (.bl (g r)))→
  ∃ e6' e7' e8',bC (cR [6,7]) wyB (enR j rs) [Ent.val hl,Ent.val B,Ent.val z,Ent.val tv,Ent.val wy,Ent.val (.tup (S.map PV.str)),e6,e7,e8]=(match bad g j rs with| .non=>.ret (.nx [Ent.val hl,Ent.val B,Ent.val z,Ent.val tv,Ent.val wy,Ent.val (.tup (S.map PV.str)),e6',e7',e8'])|y=>.ret (.rt y))
 |[],j,e6,e7,e8,_=>⟨e6,e7,e8,rfl⟩
 |r::rs,j,e6,e7,e8,h=>by
  obtain⟨e6',e7',e8',ih⟩:=oz (h0:=h0) rs (j+1) (Ent.val (.int j)) (Ent.val r.pv) (Ent.val (.bl true)) fun r' hr'=>h r' (List.mem_cons_of_mem _ hr')
  refine⟨e6',e7',e8',?_⟩
  have eb:cR [6,7] (.tup [.int j,r.pv]) [Ent.val hl,Ent.val B,Ent.val z,Ent.val tv,Ent.val wy,Ent.val (.tup (S.map PV.str)),e6,e7,e8]= .ret [Ent.val hl,Ent.val B,Ent.val z,Ent.val tv,Ent.val wy,Ent.val (.tup (S.map PV.str)),Ent.val (.int j),Ent.val r.pv,e8]:=rfl
  have t:=h r List.mem_cons_self j e8
  unfold enR bC
  rw[eb,M.ret_bind]
  unfold bad
  cases c:g r with
  |true=>
   rw[c] at t
   have st:wyB [Ent.val hl,Ent.val B,Ent.val z,Ent.val tv,Ent.val wy,Ent.val (.tup (S.map PV.str)),Ent.val (.int j),Ent.val r.pv,e8]= .ret (.nx [Ent.val hl,Ent.val B,Ent.val z,Ent.val tv,Ent.val wy,Ent.val (.tup (S.map PV.str)),Ent.val (.int j),Ent.val r.pv,Ent.val (.bl true)]):=by
    unfold wyB av aA
    rw[t]
    rfl
   rw[st,M.ret_bind,if_pos rfl]
   exact ih
  |false=>
   rw[c] at t
   have st:wyB [Ent.val hl,Ent.val B,Ent.val z,Ent.val tv,Ent.val wy,Ent.val (.tup (S.map PV.str)),Ent.val (.int j),Ent.val r.pv,e8]= .ret (.rt (.int j)):=by
    unfold wyB av aA
    rw[t]
    rfl
   rw[st,M.ret_bind,if_neg (by decide)]
end
theorem kr {g:Ru→Bool}: ∀ (rs:List Ru) (j:Nat),(bad g j rs= .non∧rs.all g=true)∨∃ i:Nat,bad g j rs= .int i∧rs.all g=false
 |[],j=>.inl ⟨rfl,rfl⟩
 |r::rs,j=>by
  unfold bad
  cases c:g r with
  |true=>
   rw[if_pos rfl]
   rcases kr rs (j+1) with⟨h1,h2⟩|⟨i,h1,h2⟩
   ·exact .inl ⟨h1,by simp[c,h2]⟩
   ·exact .inr ⟨i,h1,by simp[c,h2]⟩
  |false=>
   rw[if_neg (by decide)]
   exact .inr ⟨j,rfl,by simp[c]⟩
theorem kL (x:Str) (zs:List Str) (b:Bool):inO b (.str x) (.tup (zs.map PV.str))= .ret (.bl (xor b (inN zs x))):=by
 have e:fj (.str x) (zs.map PV.str)=inN zs x:=by
  unfold fj inN
  rw[List.any_map]
  rfl
 unfold inO
 dsimp only
 rw[kP,e]
 simp[aZ,toV,cz]
theorem jA {hl:PV}: ∀ (ws:List (Str×List PV)) (p:Str×List PV) (e2:Ent),(ws.map (·.1)).Nodup→p∈ws→
  bC (aN 2) (ifP (asB (ag (eqO false) (ag ixO (fun ρ=>af ρ 2) (fun _=>M.ret (.int 0))) (fun ρ=>af ρ 1))) (a7 (fun ρ=>af ρ 2)) (fun ρ=>M.ret (.nx ρ))) (ws.map bq) [Ent.val hl,Ent.val (.str p.1),e2]= .ret (.rt (bq p))
 |w::ws,p,e2,nd,hp=>by
  rw[List.map_cons,List.nodup_cons] at nd
  rw[List.map_cons]
  unfold bC
  simp only[aN,M.ret_bind,List.set_cons_succ,List.set_cons_zero]
  rcases List.mem_cons.mp hp with rfl|hp
  ·rw[dF (by simp only[asB,ag,gV0,gVs,M.ret_bind,ixO,at0,M.ofO,eqS,beq_self_eq_true]),bf (y:=bq p) rfl]
   rfl
  ·have hne:(w.1==p.1)=false:=by
    simp only[beq_eq_false_iff_ne]
    exact fun z=>nd.1 (z▸List.mem_map_of_mem hp)
   rw[eL (by simp only[asB,ag,gV0,gVs,M.ret_bind,ixO,at0,M.ofO,eqS,hne]),M.ret_bind]
   exact jA ws p _ nd.2 hp
theorem tf {hm dk:PV} {ws:List (Str×List PV)} {p:Str×List PV} (nd:(ws.map (·.1)).Nodup) (hp:p∈ws):F_way_named [.tup [.tup (ws.map bq),hm,dk],.str p.1]= .ret (bq p):=by
 obtain⟨hl,ehl⟩: ∃ hl,hl=PV.tup [.tup (ws.map bq),hm,dk]:=⟨_,rfl⟩
 have i0:ixO hl (.int 0)= .ret (.tup (ws.map bq)):=by rw[ehl];simp only[ixO,at0,M.ofO]
 rw[←ehl]
 unfold F_way_named m_way_named
 show (av _ _ [Ent.val hl,Ent.val (.str p.1),Ent.un]).bind bp=_
 refine d7 ?_
 simp only[bg,ag,gV0,M.ret_bind,i0,a8]
 exact jA ws p Ent.un nd hp
section
variable {l:List PV} {ns:List Int} {t:Int} {ru:Str→List Ru} {hm dk:PV} {ws:List (Str×List PV)}
theorem vY {hl:PV} {z kd:Str} {q:List PV} {S:List Str} {i:Int} {e8:Ent} (h:PagesN l ns) (hr:Reads l) (hs:(kd==("slope":Str))=false→lkF l t z=none) (r:Ru):
  wyT [Ent.val hl,Ent.val (.tup (aX l)),Ent.val (.str z),Ent.val (.int t),Ent.val (.tup (.str z::.str kd::q)),Ent.val (.tup (S.map PV.str)),Ent.val (.int i),Ent.val r.pv,e8]= .ret (.bl (r.hold (rdF l t) (lkF l t z) t (inN S))):=by
 cases c:r.isW with
 |true=>
  cases r with
  |wth o=>
   unfold wyT
   rw[uD rfl]
   show inO false (.str o) (.tup (S.map PV.str))=_
   rw[kL]
   simp[Ru.hold]
  |_=>cases c
 |false=>
  have al:=nR (q:=q) h hr hs r
  have key:r.hold (rdF l t) (lkF l t z) t (fun _=>false)=r.hold (rdF l t) (lkF l t z) t (inN S):=by cases r<;>first|rfl|cases c
  rw[key] at al
  obtain⟨w,q',e,hw⟩:=r.head
  unfold wyT
  rw[p7 (by rw[e];simp only[asB,ag,gV0,gVs,M.ret_bind,ixO,at0,M.ofO,eqS,hw,c])]
  simp only[aa,gV0,gVs,M.ret_bind]
  exact al
theorem vZ {p:Str×List PV} {S:List Str} {kd:Str} {q:List PV} (h:PagesN l ns) (hr:Reads l) (nd:(ws.map (·.1)).Nodup) (hp:p∈ws) (e2:p.2= .str kd::q) (hs:(kd==("slope":Str))=false→lkF l t p.1=none)
  (ho:F_open_ways [.tup [.tup (ws.map bq),hm,dk],.tup (aX l),.int t]= .ret (.tup (S.map PV.str))) (hru:F_rules_at [.tup (aX l),.str p.1,.int t]= .ret (.tup ((ru p.1).map Ru.pv))):
  F_why_shut [.tup [.tup (ws.map bq),hm,dk],.tup (aX l),.str p.1,.int t]= .ret (bad (fun r=>r.hold (rdF l t) (lkF l t p.1) t (inN S)) 0 (ru p.1)):=by
 have nm:=tf (hm:=hm) (dk:=dk) nd hp
 obtain⟨hl,ehl⟩: ∃ hl,hl=PV.tup [.tup (ws.map bq),hm,dk]:=⟨_,rfl⟩
 rw[←ehl] at nm ho ⊢
 unfold F_why_shut m_why_shut
 show (av _ _ [Ent.val hl,Ent.val (.tup (aX l)),Ent.val (.str p.1),Ent.val (.int t),Ent.un,Ent.un,Ent.un,Ent.un,Ent.un]).bind bp=_
 refine aG (ρ':=[Ent.val hl,Ent.val (.tup (aX l)),Ent.val (.str p.1),Ent.val (.int t),Ent.val (bq p),Ent.un,Ent.un,Ent.un,Ent.un]) ?_ ?_
 ·simp only[aA,aa,gV0,gVs,M.ret_bind,nm]
  rfl
 refine aG (ρ':=[Ent.val hl,Ent.val (.tup (aX l)),Ent.val (.str p.1),Ent.val (.int t),Ent.val (bq p),Ent.val (.tup (S.map PV.str)),Ent.un,Ent.un,Ent.un]) ?_ ?_
 ·simp only[aA,aa,gV0,gVs,M.ret_bind,ho]
  rfl
 have ew:bq p= .tup (.str p.1::.str kd::q):=by show PV.tup (.str p.1::p.2)=_;rw[e2]
 rw[ew]
 obtain⟨e6,e7,e8,lp⟩:=oz (h0:=Ent.un) (hl:=hl) (B:=.tup (aX l)) (z:=.str p.1) (wy:=.tup (.str p.1::.str kd::q)) (tv:=.int t) (S:=S) (g:=fun r=>r.hold (rdF l t) (lkF l t p.1) t (inN S)) (ru p.1) 0 Ent.un Ent.un Ent.un (fun r _ i e8=>vY h hr hs r)
 have lp': ∀ Y:M Fl,bC (cR [6,7]) wyB (enR 0 (ru p.1)) [Ent.val hl,Ent.val (.tup (aX l)),Ent.val (.str p.1),Ent.val (.int t),Ent.val (.tup (.str p.1::.str kd::q)),Ent.val (.tup (S.map PV.str)),Ent.un,Ent.un,Ent.un]=Y→bg (fun ρ=>((aa (fun ρ=>((aa (fun ρ=>af ρ 1) (aa (fun ρ=>af ρ 2) (aa (fun ρ=>af ρ 3) (fun _=>M.ret [])))) ρ).bind F_rules_at) (fun _=>M.ret [])) ρ).bind gL) (cR [6,7]) wyB [Ent.val hl,Ent.val (.tup (aX l)),Ent.val (.str p.1),Ent.val (.int t),Ent.val (.tup (.str p.1::.str kd::q)),Ent.val (.tup (S.map PV.str)),Ent.un,Ent.un,Ent.un]=Y:=fun Y hY=>by
  simp only[bg,aa,gV0,gVs,M.ret_bind,hru,gL,jd]
  exact hY
 rcases kr (g:=fun r=>r.hold (rdF l t) (lkF l t p.1) t (inN S)) (ru p.1) 0 with⟨hb,_⟩|⟨i,hb,_⟩
 ·rw[hb] at lp ⊢
  exact aG (lp' _ lp) (bD (bf rfl))
 ·rw[hb] at lp ⊢
  exact d7 (lp' _ lp)
end
noncomputable def jf (g:Ru→Bool) (j:Nat):List Ru→List Int
 |[]=>[]
 |r::rs=>if g r=true then jf g (j+1) rs else(j:Int)::jf g (j+1) rs
theorem nK {g:Ru→Bool}: ∀ (rs:List Ru) (j:Nat),bad g j rs=(match jf g j rs with|[]=>.non|i::_=>.int i)
 |[],j=>rfl
 |r::rs,j=>by
  unfold bad jf
  cases c:g r with
  |true=>rw[if_pos rfl,if_pos rfl];exact nK rs (j+1)
  |false=>rw[if_neg (by decide),if_neg (by decide)]
noncomputable def lwT:ah→M Bool:=(el (asB (fun ρ=>((aa (fun ρ=>af ρ 2) (aa (fun ρ=>af ρ 3) (aa (fun ρ=>af ρ 1) (aa (fun ρ=>af ρ 4) (aa (fun ρ=>af ρ 5) (fun _=>M.ret [])))))) ρ).bind F_law_holds)))
section
variable {l:List PV} {ns:List Int} {t:Int} {ru:Str→List Ru} {hl:PV} {S:List Str} {z:Str}
theorem oR (h:PagesN l ns) (hn:l.length≤1000) (hr:Reads l): ∀ (rs:List Ru) (j:Nat) (e0 e1:Ent),lcM (cR [0,1]) lwT (fun ρ=>af ρ 0) (enR j rs) [e0,e1,Ent.val (.lst l),Ent.val (.str z),Ent.val (.int t),Ent.val (.lst (S.map PV.str))]= .ret ((jf (fun r=>r.hold (rdF l t) (lkF l t z) t (inN S)) j rs).map PV.int)
 |[],j,e0,e1=>rfl
 |r::rs,j,e0,e1=>by
  have ih:=oR h hn hr rs (j+1) (Ent.val (.int j)) (Ent.val r.pv)
  have eb:cR [0,1] (.tup [.int j,r.pv]) [e0,e1,Ent.val (.lst l),Ent.val (.str z),Ent.val (.int t),Ent.val (.lst (S.map PV.str))]= .ret [Ent.val (.int j),Ent.val r.pv,Ent.val (.lst l),Ent.val (.str z),Ent.val (.int t),Ent.val (.lst (S.map PV.str))]:=rfl
  have lh:=kG (nm:=z) (t:=t) (os:=S) h hn hr r
  have tst:lwT [Ent.val (.int j),Ent.val r.pv,Ent.val (.lst l),Ent.val (.str z),Ent.val (.int t),Ent.val (.lst (S.map PV.str))]= .ret (!(r.hold (rdF l t) (lkF l t z) t (inN S))):=by
   simp only[lwT,el,asB,aa,gV0,gVs,M.ret_bind,lh]
  unfold enR lcM
  rw[eb,M.ret_bind,tst,M.ret_bind]
  unfold jf
  cases c:r.hold (rdF l t) (lkF l t z) t (inN S) with
  |true=>
   rw[if_neg (by decide),if_pos rfl]
   exact ih
  |false=>
   rw[if_pos (by decide),if_neg (by decide)]
   simp only[gV0,M.ret_bind,ih,List.map_cons]
theorem vz (h:PagesN l ns) (hn:l.length≤1000) (hr:Reads l) (hu:(ru z).length≤1000) (ho:F_law_open [hl,.lst l,.int t]= .ret (.lst (S.map PV.str))) (hru:F_law_rules [.lst l,.str z,.int t]= .ret (.tup ((ru z).map Ru.pv))):
  F_law_why [hl,.lst l,.str z,.int t]= .ret (bad (fun r=>r.hold (rdF l t) (lkF l t z) t (inN S)) 0 (ru z)):=by
 unfold F_law_why m_law_why
 show (av _ _ [Ent.val hl,Ent.val (.lst l),Ent.val (.str z),Ent.val (.int t),Ent.un,Ent.un]).bind bp=_
 refine aG (ρ':=[Ent.val hl,Ent.val (.lst l),Ent.val (.str z),Ent.val (.int t),Ent.val (.lst (S.map PV.str)),Ent.un]) ?_ ?_
 ·simp only[aA,aa,gV0,gVs,M.ret_bind,ho]
  rfl
 obtain⟨fs,hfs⟩: ∃ fs,fs=jf (fun r=>r.hold (rdF l t) (lkF l t z) t (inN S)) 0 (ru z):=⟨_,rfl⟩
 refine aG (ρ':=[Ent.val hl,Ent.val (.lst l),Ent.val (.str z),Ent.val (.int t),Ent.val (.lst (S.map PV.str)),Ent.val (.lst (fs.map PV.int))]) ?_ ?_
 ·have ec:cX [none,none,some 1,some 2,some 3,some 4] [Ent.val hl,Ent.val (.lst l),Ent.val (.str z),Ent.val (.int t),Ent.val (.lst (S.map PV.str)),Ent.un]=[Ent.un,Ent.un,Ent.val (.lst l),Ent.val (.str z),Ent.val (.int t),Ent.val (.lst (S.map PV.str))]:=rfl
  have q:=oR (z:=z) (S:=S) (t:=t) h hn hr (ru z) 0 Ent.un Ent.un
  have hlen:(enR 0 (ru z)).length≤100000:=by
   rw[←jd,ig,List.length_map];lia
  show aA 5 (aH (bb [none,none,some 1,some 2,some 3,some 4] (fun ρ=>((aa (fun ρ=>((aa (fun ρ=>af ρ 1) (aa (fun ρ=>af ρ 2) (aa (fun ρ=>af ρ 3) (fun _=>M.ret [])))) ρ).bind F_law_rules) (fun _=>M.ret [])) ρ).bind gL) (cR [0,1]) lwT (fun ρ=>af ρ 0))) [Ent.val hl,Ent.val (.lst l),Ent.val (.str z),Ent.val (.int t),Ent.val (.lst (S.map PV.str)),Ent.un]=_
  simp only[aA,aH,bb,aa,gV0,gVs,M.ret_bind,hru,gL,jd,if_pos hlen,ec]
  rw[q,←hfs]
  rfl
 refine bD (bf ?_)
 rw[nK,←hfs]
 show ifV _ _ _ [Ent.val hl,Ent.val (.lst l),Ent.val (.str z),Ent.val (.int t),Ent.val (.lst (S.map PV.str)),Ent.val (.lst (fs.map PV.int))]=_
 cases fs with
 |nil=>rw[p7 rfl]
 |cons i fs=>
  rw[uD rfl]
  simp only[ag,gV0,gVs,M.ret_bind,List.map_cons,ixO,at0,M.ofO]
end
theorem uV:Sml 2500 2 .non:=⟨.none,by simp only[toD],by simp only[PyData.showable],by simp only[PyData.hasDict],by simp only[PyData.shown];decide,by simp only[PyData.depth];lia⟩
theorem neS (x:Str):eqO true (.str x) (.str x)= .ret (.bl false):=by
 show M.ret (PV.bl (xor true (x==x)))=_
 simp
theorem vR {l:List PV} {ns:List Int} (h:PagesN l ns) (hl:l.length < 64):F_law_book [.lst l]= .ret (.tup (aX l)):=by
 have hok:okK l=true:=by
  unfold okK
  simp only[Bool.and_eq_true,decide_eq_true_eq,List.all_eq_true]
  exact⟨⟨hl,fun z hz=>h.okp hz⟩,h.nd⟩
 have es:iy (.lst l)= .ret (aX l):=by
  unfold iy
  show (if okK l then M.ret (aX l) else .fail)=_
  rw[if_pos hok]
 unfold F_law_book m_law_book
 show (a7 _ [Ent.val (.lst l)]).bind bp=_
 refine bD (bf ?_)
 simp only[List.map,Ent.freeze,aH,aa,gV0,gVs,M.ret_bind,es,eS]
theorem kZ {g:Ru→Bool}: ∀ (rs:List Ru) (j:Nat),bad g j rs= .non∨∃ i:Nat,bad g j rs= .int i∧i < j+rs.length
 |[],j=>.inl rfl
 |r::rs,j=>by
  unfold bad
  cases c:g r with
  |true=>
   rw[if_pos rfl]
   rcases kZ (g:=g) rs (j+1) with h|⟨i,h,hi⟩
   ·exact .inl h
   ·exact .inr ⟨i,h,by simp only[List.length_cons];lia⟩
  |false=>
   rw[if_neg (by decide)]
   exact .inr ⟨j,rfl,by simp only[List.length_cons];lia⟩
theorem uc {g:Ru→Bool} {rs:List Ru} (h:rs.length≤1000): ∃ tx,fm [bad g 0 rs]= .ret (.str tx):=by
 rcases kZ (g:=g) rs 0 with e|⟨i,e,hi⟩
 ·rw[e];exact lW uV rfl (by first|decide|lia) (by first|decide|lia)
 ·rw[e]
  exact lW (c:=82) (dp:=0) (si (by
   have h2:(1001:Nat) < 10 ^ 61:=by decide
   show ((i:Nat):Int).natAbs < _
   rw[Int.natAbs_natCast]
   lia)) rfl (by first|decide|lia) (by first|decide|lia)
noncomputable def riB:ah→M Fl:=(av (aA 6 (fun ρ=>((aa (fun ρ=>af ρ 0) (aa (fun ρ=>af ρ 1) (aa (ag ixO (fun ρ=>af ρ 5) (fun _=>M.ret (.int 0))) (aa (fun ρ=>af ρ 2) (fun _=>M.ret []))))) ρ).bind F_law_why))
  (ifP (orP (asB (ag (eqO true) (fun ρ=>((aa (fun ρ=>((aa (fun ρ=>af ρ 0) (aa (fun ρ=>af ρ 3) (aa (ag ixO (fun ρ=>af ρ 5) (fun _=>M.ret (.int 0))) (aa (fun ρ=>af ρ 2) (fun _=>M.ret []))))) ρ).bind F_why_shut) (fun _=>M.ret [])) ρ).bind fm) (fun ρ=>((aa (fun ρ=>af ρ 6) (fun _=>M.ret [])) ρ).bind fm))) (asB (ag (eqO true) (ag (inO false) (ag ixO (fun ρ=>af ρ 5) (fun _=>M.ret (.int 0))) (fun ρ=>af ρ 4)) (ag (isO false) (fun ρ=>af ρ 6) (fun _=>M.ret .non)))))
  (a7 (fun _=>M.ret (.bl false)))
  (fun ρ=>M.ret (.nx ρ))))
section
variable {l:List PV} {ns:List Int} {t:Int} {ru:Str→List Ru} {hm dk:PV} {ws:List (Str×List PV)} {S:List Str}
theorem sA (h:PagesN l ns) (hn:l.length < 64) (hr:Reads l) (hu: ∀ z,(ru z).length≤1000) (hw:ws.length≤90) (nd:(ws.map (·.1)).Nodup)
  (hk: ∀ p∈ws,∃ kd q,p.2= .str kd::q∧((kd==("slope":Str))=false→lkF l t p.1=none))
  (hru: ∀ z,F_rules_at [.tup (aX l),.str z,.int t]= .ret (.tup ((ru z).map Ru.pv))) (hlr: ∀ z,F_law_rules [.lst l,.str z,.int t]= .ret (.tup ((ru z).map Ru.pv))):
  F_law_right [.tup [.tup (ws.map bq),hm,dk],.lst l,.int t]= .ret (.bl true):=by
 obtain⟨S,lo,hS,hT⟩:=tH (hm:=hm) (dk:=dk) (ws:=ws) (ru:=ru) h (by first|decide|lia) hr hu (by first|decide|lia) hlr
 have ho:=qX (hm:=hm) (dk:=dk) h hr hu hw nd hk hru hS hT
 have wy: ∀ p∈ws,F_why_shut [.tup [.tup (ws.map bq),hm,dk],.tup (aX l),.str p.1,.int t]= .ret (bad (fun r=>r.hold (rdF l t) (lkF l t p.1) t (inN S)) 0 (ru p.1)):=fun p hp=>by
  obtain⟨kd,q,e2,hs⟩:=hk p hp
  exact vZ h hr nd hp e2 hs ho (hru p.1)
 have lw: ∀ z,F_law_why [.tup [.tup (ws.map bq),hm,dk],.lst l,.str z,.int t]= .ret (bad (fun r=>r.hold (rdF l t) (lkF l t z) t (inN S)) 0 (ru z)):=fun z=>vz h (by first|decide|lia) hr (hu z) lo (hlr z)
 obtain⟨hl,ehl⟩: ∃ hl,hl=PV.tup [.tup (ws.map bq),hm,dk]:=⟨_,rfl⟩
 have i0:ixO hl (.int 0)= .ret (.tup (ws.map bq)):=by rw[ehl];simp only[ixO,at0,M.ofO]
 rw[←ehl] at ho wy lw ⊢
 unfold F_law_right m_law_right
 show (av _ _ [Ent.val hl,Ent.val (.lst l),Ent.val (.int t),Ent.un,Ent.un,Ent.un,Ent.un]).bind bp=_
 refine aG (ρ':=[Ent.val hl,Ent.val (.lst l),Ent.val (.int t),Ent.val (.tup (aX l)),Ent.un,Ent.un,Ent.un]) ?_ ?_
 ·simp only[aA,aa,gV0,gVs,M.ret_bind,vR h hn]
  rfl
 refine aG (ρ':=[Ent.val hl,Ent.val (.lst l),Ent.val (.int t),Ent.val (.tup (aX l)),Ent.val (.tup (S.map PV.str)),Ent.un,Ent.un]) ?_ ?_
 ·simp only[aA,aa,gV0,gVs,M.ret_bind,ho]
  rfl
 have one: ∀ p∈ws,∀ e6:Ent,∃ e6',riB [Ent.val hl,Ent.val (.lst l),Ent.val (.int t),Ent.val (.tup (aX l)),Ent.val (.tup (S.map PV.str)),Ent.val (bq p),e6]= .ret (.nx [Ent.val hl,Ent.val (.lst l),Ent.val (.int t),Ent.val (.tup (aX l)),Ent.val (.tup (S.map PV.str)),Ent.val (bq p),e6']):=fun p hp e6=>by
  obtain⟨y,hy⟩: ∃ y,y=bad (fun r=>r.hold (rdF l t) (lkF l t p.1) t (inN S)) 0 (ru p.1):=⟨_,rfl⟩
  have ix:ixO (bq p) (.int 0)= .ret (.str p.1):=by simp only[ixO,at0,M.ofO]
  obtain⟨tx,rx⟩:=uc (g:=fun r=>r.hold (rdF l t) (lkF l t p.1) t (inN S)) (hu p.1)
  have w1:=wy p hp
  have w2:=lw p.1
  rw[←hy] at rx w1 w2
  refine⟨Ent.val y,?_⟩
  unfold riB av
  simp only[aA,aa,ag,gV0,gVs,M.ret_bind,ix,w2,List.set_cons_succ,List.set_cons_zero]
  refine eL ?_
  have inS:inN S p.1=okR l t ru S p.1:=by
   have m:p.1∈S↔okR l t ru S p.1=true:=by
    conv=>lhs;rw[hS]
    rw[List.mem_filter]
    exact⟨fun h=>h.2,fun h=>⟨List.mem_map_of_mem hp,h⟩⟩
   cases c:okR l t ru S p.1 with
   |true=>exact inN_iff.mpr (m.mpr c)
   |false=>
    cases c2:inN S p.1 with
    |false=>rfl
    |true=>rw[m.mp (inN_iff.mp c2)] at c;cases c
  have e2:isO false y .non= .ret (.bl (inN S p.1)):=by
   rw[inS,hy]
   unfold okR
   rcases kr (g:=fun r=>r.hold (rdF l t) (lkF l t p.1) t (inN S)) (ru p.1) 0 with⟨hb,ha⟩|⟨i,hb,ha⟩
   ·rw[hb,ha];rfl
   ·rw[hb,ha];rfl
  have e3:inO false (.str p.1) (.tup (S.map PV.str))= .ret (.bl (inN S p.1)):=by rw[kL];simp
  have e4: ∀ b:Bool,eqO true (.bl b) (.bl b)= .ret (.bl false):=fun b=>by cases b<;>rfl
  simp only[orP,asB,aa,ag,gV0,gVs,M.ret_bind,ix,w1,rx,neS,e2,e3,e4,Bool.false_eq_true,if_false]
 have lp: ∀ (vs:List (Str×List PV)) (e5 e6:Ent),(∀ p∈vs,p∈ws)→∃ e5' e6',bC (aN 5) riB (vs.map bq) [Ent.val hl,Ent.val (.lst l),Ent.val (.int t),Ent.val (.tup (aX l)),Ent.val (.tup (S.map PV.str)),e5,e6]= .ret (.nx [Ent.val hl,Ent.val (.lst l),Ent.val (.int t),Ent.val (.tup (aX l)),Ent.val (.tup (S.map PV.str)),e5',e6']):=fun vs=>by
  induction vs with
  |nil=>exact fun e5 e6 _=>⟨e5,e6,rfl⟩
  |cons p vs ih=>
   intro e5 e6 hs
   obtain⟨x6,st⟩:=one p (hs p List.mem_cons_self) e6
   obtain⟨e5',e6',ih⟩:=ih (Ent.val (bq p)) x6 fun q hq=>hs q (List.mem_cons_of_mem _ hq)
   refine⟨e5',e6',?_⟩
   rw[List.map_cons]
   unfold bC
   simp only[aN,M.ret_bind,List.set_cons_succ,List.set_cons_zero]
   rw[st,M.ret_bind]
   exact ih
 obtain⟨e5',e6',lp'⟩:=lp ws Ent.un Ent.un fun p hp=>hp
 refine aG (ρ':=[Ent.val hl,Ent.val (.lst l),Ent.val (.int t),Ent.val (.tup (aX l)),Ent.val (.tup (S.map PV.str)),e5',e6']) ?_ (bD (bf rfl))
 simp only[bg,ag,gV0,M.ret_bind,i0,a8]
 exact lp'
end
theorem uF {k:Nat} {mb:ah→M Fl} {c:Nat} {Iv:Nat→ah→Prop}: ∀ (l:List PV) (i:Nat) (ρ:ah),Iv i ρ→(∀ j y,l[j]?=some y→∀ ρ,Iv (i+j) ρ→Gen (mb (ρ.set k (.val y))) c fun f=> ∃ ρ',f= .nx ρ'∧Iv (i+j+1) ρ')→Gen (bC (aN k) mb l ρ) (l.length * c) fun f=> ∃ ρ',f= .nx ρ'∧Iv (i+l.length) ρ'
 |[],i,ρ,h,_=>Gen.le (Gen.eq rfl ⟨ρ,rfl,h⟩) (Nat.zero_le _)
 |y::l,i,ρ,h,hs=>by
  unfold bC
  simp only[aN,M.ret_bind]
  refine Gen.le (Gen.bind (hs 0 y rfl ρ h) (d:=l.length * c) ?_) (by rw[List.length_cons,Nat.add_mul];lia)
  rintro _ ⟨ρ',rfl,h'⟩
  have:=uF (k:=k) (mb:=mb) (c:=c) (Iv:=Iv) l (i+1) ρ' h' fun j z hj ρ hi=>by
   have e:i+1+j=i+(j+1):=by lia
   rw[e] at hi ⊢
   exact hs (j+1) z hj ρ hi
  have e:i+1+l.length=i+(y::l).length:=by simp only[List.length_cons];lia
  rw[e] at this
  exact this
noncomputable def eR (h:PV) (ws:List (Str×List PV)) (dark:Int):Prop:= ∃ hm,h= .tup [.tup (ws.map fun p=>.tup (.str p.1::p.2)),hm,.int dark]∧0 < ws.length∧ws.length≤12∧(∀ p∈ws,Wd p.1∧∃ (k:Str) (r:List PV),p.2= .str k::r)∧1≤dark∧dark≤1000000∧(ws.map (·.1)).Nodup
theorem gs {l:List PV} {n:Int} (hn:(l.length:Int)=n) (h0:0 < l.length) (h1:l.length < 1000):Gen ((fT [.bag,.int n]).bind fun i=>ixO (.lst l) i) 1 (fun y=>y∈l):=xB hn h0 h1
theorem tS {most sc:Int} (m0:1≤most) (m1:most≤12) (s0:1≤sc) (s1:sc≤33333):Gen (F_law_hill [.bag,.int most,.int sc]) 300 (fun h=> ∃ ws dark,eR h ws dark):=by
 unfold F_law_hill m_law_hill
 show Gen ((av _ _ [Ent.val .bag,Ent.val (.int most),Ent.val (.int sc),Ent.un,Ent.un,Ent.un,Ent.un,Ent.un,Ent.un]).bind bp) 300 _
 refine Gen.le (bA (c:=1+5 * 9) (d:=200) (I:=fun ρ=> ∃ sp:List Str,2≤sp.length∧sp.length≤5∧ρ=[Ent.val .bag,Ent.val (.int most),Ent.val (.int sc),Ent.val (.lst (sp.map PV.str)),Ent.un,Ent.un,Ent.un,Ent.un,Ent.un]) ?_ ?_) (by decide)
 ·simp only[aA,ag,aa,gV0,gVs,M.ret_bind,F_law_pick,M.bind_assoc]
  refine Gen.le (Gen.bind (Gen.draw (by first|decide|lia) (by first|decide|lia)) (d:=5 * 9) ?_) (by decide)
  rintro _ ⟨d,rfl,d0,d1⟩
  have ea:bL (.int 2) (.int d)= .ret (.int (2+d)):=rfl
  simp only[ea,M.ret_bind]
  refine Gen.le (Gen.bind (ia (k:=2+d) (by first|decide|lia) (by first|decide|lia)) (d:=0) ?_) (by first|decide|lia)
  rintro _ ⟨sp,rfl,hl,_⟩
  exact Gen.eq (y:=.nx _) rfl ⟨_,rfl,sp,by lia,by lia,rfl⟩
 rintro _ ⟨sp,p0,p1,rfl⟩
 refine Gen.le (bA (c:=1+12 * 9) (d:=90) (I:=fun ρ=> ∃ nm:List Str,1≤nm.length∧nm.length≤12∧((∀ z∈nm,Wd z)∧nm.Nodup)∧ρ=[Ent.val .bag,Ent.val (.int most),Ent.val (.int sc),Ent.val (.lst (sp.map PV.str)),Ent.val (.lst (nm.map PV.str)),Ent.un,Ent.un,Ent.un,Ent.un]) ?_ ?_) (by decide)
 ·simp only[aA,ag,aa,gV0,gVs,M.ret_bind,F_law_pick,M.bind_assoc]
  refine Gen.le (Gen.bind (Gen.draw (by first|decide|lia) (by first|decide|lia)) (d:=12 * 9) ?_) (by decide)
  rintro _ ⟨d,rfl,d0,d1⟩
  have ea:bL (.int 1) (.int d)= .ret (.int (1+d)):=rfl
  simp only[ea,M.ret_bind]
  refine Gen.le (Gen.bind (ia (k:=1+d) (by first|decide|lia) (by first|decide|lia)) (d:=0) ?_) (by first|decide|lia)
  rintro _ ⟨nm,rfl,hl,hw⟩
  exact Gen.eq (y:=.nx _) rfl ⟨_,rfl,nm,by lia,by lia,hw,rfl⟩
 rintro _ ⟨nm,n0,n1,nw,rfl⟩
 refine Gen.le (bA (c:=0) (d:=90) (I:=fun ρ=>ρ=[Ent.val .bag,Ent.val (.int most),Ent.val (.int sc),Ent.val (.lst (sp.map PV.str)),Ent.val (.lst (nm.map PV.str)),Ent.own [],Ent.un,Ent.un,Ent.un]) (gnx (by simp[de,aU]) rfl) ?_) (by decide)
 rintro _ rfl
 refine Gen.le (bA (c:=12 * 5) (d:=2) (I:=fun ρ=> ∃ (ws:List (Str×List PV)) (e6 e7 e8:Ent),ws.length=nm.length∧ws.map (·.1)=nm∧(∀ p∈ws,Wd p.1∧∃ (k:Str) (r:List PV),p.2= .str k::r)∧ρ=[Ent.val .bag,Ent.val (.int most),Ent.val (.int sc),Ent.val (.lst (sp.map PV.str)),Ent.val (.lst (nm.map PV.str)),Ent.own (ws.map fun p=>.tup (.str p.1::p.2)),e6,e7,e8]) ?_ ?_) (by decide)
 ·simp only[bg,gV0,gVs,M.ret_bind,a8]
  refine Gen.mono (uF (k:=6) (c:=5) (Iv:=fun i ρ=> ∃ (ws:List (Str×List PV)) (e6 e7 e8:Ent),ws.length=i∧ws.map (·.1)=nm.take i∧(∀ p∈ws,Wd p.1∧∃ (k:Str) (r:List PV),p.2= .str k::r)∧ρ=[Ent.val .bag,Ent.val (.int most),Ent.val (.int sc),Ent.val (.lst (sp.map PV.str)),Ent.val (.lst (nm.map PV.str)),Ent.own (ws.map fun p=>.tup (.str p.1::p.2)),e6,e7,e8]) (nm.map PV.str) 0 _ ⟨[],_,_,_,rfl,rfl,fun p hp=>absurd hp List.not_mem_nil,rfl⟩ ?_) (by rw[List.length_map];lia) ?_
  rotate_left
  ·rintro f ⟨ρ',rfl,ws,e6,e7,e8,hn,ht,hw,rfl⟩
   rw[List.length_map,Nat.zero_add] at hn ht
   rw[List.take_length] at ht
   exact⟨_,rfl,ws,e6,e7,e8,hn,ht,hw,rfl⟩
  ·rintro j y hy _ ⟨ws,e6,e7,e8,hn,ht,hw,rfl⟩
   rw[Nat.zero_add] at hn ht
   rw[List.getElem?_map] at hy
   obtain⟨z,hzj,rfl⟩:=Option.map_eq_some_iff.mp hy
   have hz:z∈nm:=List.mem_of_getElem? hzj
   have hj:j < nm.length:=(List.getElem?_eq_some_iff.mp hzj).1
   show Gen (av _ _ [Ent.val .bag,Ent.val (.int most),Ent.val (.int sc),Ent.val (.lst (sp.map PV.str)),Ent.val (.lst (nm.map PV.str)),Ent.own (ws.map fun p=>.tup (.str p.1::p.2)),Ent.val (.str z),e7,e8]) 5 _
   refine Gen.le (eM (c:=1) (d:=4) (I:=fun ρ=> ∃ kd:Str,ρ=[Ent.val .bag,Ent.val (.int most),Ent.val (.int sc),Ent.val (.lst (sp.map PV.str)),Ent.val (.lst (nm.map PV.str)),Ent.own (ws.map fun p=>.tup (.str p.1::p.2)),Ent.val (.str z),Ent.val (.str kd),e8]) ?_ ?_) (by decide)
   ·simp only[aA,ag,aH,aa,gV0,gVs,M.ret_bind,tm,F_law_pick,M.bind_assoc]
    refine Gen.le (Gen.bind (Gen.draw (by first|decide|lia) (by first|decide|lia)) (d:=0) ?_) (by decide)
    rintro _ ⟨d,rfl,d0,d1⟩
    obtain⟨v,hv,e⟩:=dA (l:=[PV.str "slope",PV.str "slope",PV.str "lift",PV.str "path"]) d0 d1
    obtain⟨kd,rfl⟩: ∃ kd:Str,v= .str kd:=by
     simp only[List.mem_cons,List.not_mem_nil,or_false] at hv
     rcases hv with rfl|rfl|rfl|rfl<;>exact⟨_,rfl⟩
    exact Gen.eq (y:=.nx _) (by simp only[ixO,e,M.ofO,M.ret_bind];rfl) ⟨_,rfl,kd,rfl⟩
   rintro _ ⟨kd,rfl⟩
   refine Gen.le (eM (c:=2) (d:=2) (I:=fun ρ=> ∃ a b:PV,ρ=[Ent.val .bag,Ent.val (.int most),Ent.val (.int sc),Ent.val (.lst (sp.map PV.str)),Ent.val (.lst (nm.map PV.str)),Ent.own (ws.map fun p=>.tup (.str p.1::p.2)),Ent.val (.str z),Ent.val (.str kd),Ent.val (.lst [a,b])]) ?_ ?_) (by decide)
   ·have er:bJ [.int 2]= .ret [.int 0,.int 1]:=rfl
    have ec:cX [none,some 3,some 0] [Ent.val .bag,Ent.val (.int most),Ent.val (.int sc),Ent.val (.lst (sp.map PV.str)),Ent.val (.lst (nm.map PV.str)),Ent.own (ws.map fun p=>.tup (.str p.1::p.2)),Ent.val (.str z),Ent.val (.str kd),e8]=[Ent.un,Ent.val (.lst (sp.map PV.str)),Ent.val .bag]:=rfl
    unfold aA aH bb
    simp only[aa,gV0,gVs,M.ret_bind,er,ec,M.bind_assoc]
    rw[if_pos (by decide)]
    refine Gen.le (Gen.bind (Gen.lc (ρ:=[Ent.un,Ent.val (.lst (sp.map PV.str)),Ent.val .bag]) (c:=1) (Pr:=fun _=>True) _ _ (fun _=>rfl) (fun y hy=>?_)) (d:=0) ?_) (by decide)
    ·simp only[List.set_cons_zero,ag,gV0,gVs,M.ret_bind,cN,F_law_pick,List.length_map]
     refine Gen.mono (gs (l:=sp.map PV.str) (by rw[List.length_map]) (by rw[List.length_map];lia) (by rw[List.length_map];lia)) (Nat.le_refl _) fun _ _=>trivial
    ·rintro us ⟨z1,_⟩
     match us,z1 with
     |[a,b],_=>exact Gen.eq (y:=.nx _) rfl ⟨_,rfl,a,b,rfl⟩
   rintro _ ⟨a,b,rfl⟩
   have i0:ixO (.lst [a,b]) (.int 0)= .ret a:=rfl
   have i1:ixO (.lst [a,b]) (.int 1)= .ret b:=rfl
   have hl:(ws.map fun p=>PV.tup (.str p.1::p.2)).length < 100000:=by rw[List.length_map];lia
   simp only[cS,List.getElem?_cons_succ,List.getElem?_cons_zero,aa,ag,gV0,gVs,M.ret_bind,i0,i1,F_law_pick,M.bind_assoc]
   refine Gen.le (Gen.bind (Gen.draw (by first|decide|lia) (by first|decide|lia)) (d:=1) ?_) (by decide)
   rintro _ ⟨u,rfl,u0,u1⟩
   rw[hV (by first|decide|lia) (by first|decide|lia)]
   simp only[M.ret_bind]
   refine Gen.le (Gen.bind (Gen.draw (by first|decide|lia) (by first|decide|lia)) (d:=0) ?_) (by decide)
   rintro _ ⟨v,rfl,v0,v1⟩
   rw[hV (by first|decide|lia) (by first|decide|lia)]
   refine Gen.eq (y:=.nx _) (by simp only[M.ret_bind,yE,if_pos hl];rfl) ⟨_,rfl,ws++[(z,[.str kd,a,b,.int (sc * u),.int (sc * v)])],_,_,_,by simp[hn],by rw[List.map_append,ht,Nat.zero_add,List.take_succ,hzj];rfl,fun p hp=>?_,by rw[List.map_append];rfl⟩
   rcases List.mem_append.mp hp with hp|hp
   ·exact hw p hp
   ·rw[List.mem_singleton.mp hp]
    exact⟨nw.1 z hz,kd,_,rfl⟩
 rintro _ ⟨ws,e6,e7,e8,hn,ht,hw,rfl⟩
 simp only[a7,List.map_cons,List.map_nil,Ent.freeze,aa,ag,gV0,gVs,M.ret_bind,eS,cN,F_law_pick,List.length_map,M.bind_assoc]
 refine Gen.le (Gen.bind (Gen.draw (by first|decide|lia) (by first|decide|lia)) (d:=1) ?_) (by decide)
 rintro _ ⟨d,rfl,d0,d1⟩
 obtain⟨hm,_,e⟩:=dA (l:=sp.map PV.str) d0 (by rw[List.length_map];exact d1)
 simp only[ixO,e,M.ofO,M.ret_bind]
 refine Gen.le (Gen.bind (Gen.draw (by first|decide|lia) (by first|decide|lia)) (d:=0) ?_) (by decide)
 rintro _ ⟨g,rfl,g0,g1⟩
 have ea:bL (.int 1) (.int g)= .ret (.int (1+g)):=rfl
 have hp:0 < sc * (1+g):=Int.mul_pos (by first|decide|lia) (by first|decide|lia)
 have hq:sc * (1+g)≤33333 * 30:=Int.mul_le_mul s1 (by first|decide|lia) (by first|decide|lia) (by first|decide|lia)
 rw[ea]
 simp only[M.ret_bind]
 rw[hV (by first|decide|lia) (by first|decide|lia)]
 exact Gen.eq (y:=.tup [.tup (ws.map fun p=>.tup (.str p.1::p.2)),hm,.int (sc * (1+g))]) (by simp only[M.ret_bind,i6];rfl) ⟨ws,_,hm,rfl,by lia,by lia,hw,by lia,by lia,by rw[ht];exact nw.2⟩
theorem fz {h:PV} {ws:List (Str×List PV)} {dark:Int} (H:eR h ws dark):ixO h (.int 0)= .ret (.tup (ws.map fun p=>.tup (.str p.1::p.2)))∧ixO h (.int 2)= .ret (.int dark):=by
 obtain⟨hm,rfl,_⟩:=H
 exact⟨rfl,rfl⟩
theorem qd {h:PV} {ws:List (Str×List PV)} {dark sc:Int} (H:eR h ws dark) (s0:1≤sc) (s1:sc≤33333):Gen (F_law_moment [.bag,h,.int sc]) 2 (fun y=> ∃ i:Int,y= .int i∧0≤i∧i≤1000000):=by
 obtain⟨_,h2⟩:=fz H
 obtain⟨_,_,_,_,_,k0,k1⟩:=H
 unfold F_law_moment m_law_moment
 show Gen ((a7 _ [Ent.val .bag,Ent.val h,Ent.val (.int sc)]).bind bp) 2 _
 have en:fF (.int 1)= .ret (.int (-1)):=rfl
 simp only[a7,List.map_cons,List.map_nil,Ent.freeze,ag,aH,aa,gV0,gVs,M.ret_bind,h2,en,tm,F_law_pick,M.bind_assoc]
 refine Gen.le (Gen.bind (Gen.draw (by first|decide|lia) (by first|decide|lia)) (d:=1) ?_) (by decide)
 rintro _ ⟨d,rfl,d0,d1⟩
 rw[hV (by first|decide|lia) (by first|decide|lia)]
 simp only[M.ret_bind]
 refine Gen.le (Gen.bind (Gen.draw (by first|decide|lia) (by first|decide|lia)) (d:=0) ?_) (by decide)
 rintro _ ⟨g,rfl,g0,g1⟩
 obtain⟨y,hy,e⟩:=dA (l:=[PV.int 0,PV.int 0,PV.int 1,PV.int (-1)]) g0 g1
 obtain⟨i,rfl⟩: ∃ i:Int,y= .int i:=by
  simp only[List.mem_cons,List.not_mem_nil,or_false] at hy
  rcases hy with rfl|rfl|rfl|rfl<;>exact⟨_,rfl⟩
 have ea:bL (.int (sc * d)) (.int i)= .ret (.int (sc * d+i)):=rfl
 generalize sc * d+i=v at ea
 refine Gen.eq (y:=.int (if(if v > 0 then v else 0) < dark then(if v > 0 then v else 0) else dark)) (by simp only[ixO,e,M.ofO,M.ret_bind,ea,iJ,fP];rfl) ⟨_,rfl,?_,?_⟩
 ·split<;>split<;>lia
 ·split<;>split<;>lia
theorem qr {h:PV} {ws:List (Str×List PV)} {dark:Int} (H:eR h ws dark):Gen ((fT [.bag,.int ws.length]).bind fun i=>(ixO (.tup (ws.map fun p=>.tup (.str p.1::p.2))) i).bind fun y=>ixO y (.int 0)) 1 (fun y=> ∃ x,y= .str x∧Wd x):=by
 obtain⟨_,_,w0,w1,hw,_⟩:=H
 refine Gen.le (Gen.bind (Gen.draw (by first|decide|lia) (by first|decide|lia)) (d:=0) ?_) (by decide)
 rintro _ ⟨d,rfl,d0,d1⟩
 obtain⟨y,hy,e⟩:=dA (l:=ws.map fun p=>PV.tup (.str p.1::p.2)) d0 (by rw[List.length_map];exact d1)
 obtain⟨p,hp,rfl⟩:=List.mem_map.mp hy
 exact Gen.eq (y:=.str p.1) (by simp only[ixO,e,M.ofO,M.ret_bind,at0]) ⟨p.1,rfl,(hw p hp).1⟩
noncomputable def uK (y:PV):Prop:=Sml 400 1 y
theorem rt {w:Str} {r:List PV} (hw:Sh w) (hr:r.length≤3) (h: ∀ x∈r,Sml 82 0 x):uK (.tup (.str w::r)):=by
 refine(jS (c:=82) (dp:=0) (n:=4) (fun z hz=>?_) (by simp;lia)).mono (by first|decide|lia) (Nat.le_refl _)
 rcases List.mem_cons.mp hz with rfl|hz
 ·exact ss hw
 ·exact h z hz
noncomputable def RuT (y:PV):Prop:=uK y∧∃ r:Ru,y=r.pv
theorem tR {h:PV} {ws:List (Str×List PV)} {dark sc:Int} {ps:List Str} (H:eR h ws dark) (s0:1≤sc) (s1:sc≤33333) (p0:0 < ps.length) (p1:ps.length≤20) (pw: ∀ z∈ps,Wd z):Gen (F_law_rule [.bag,h,.lst (ps.map PV.str),.int sc]) 7 RuT:=by
 obtain⟨h0,_⟩:=fz H
 have wa:=qr H
 unfold F_law_rule m_law_rule
 show Gen ((av _ _ [Ent.val .bag,Ent.val h,Ent.val (.lst (ps.map PV.str)),Ent.val (.int sc),Ent.un,Ent.un,Ent.un,Ent.un,Ent.un,Ent.un]).bind bp) 7 _
 refine Gen.le (bA (c:=1) (d:=6) (I:=fun ρ=> ∃ w:Int,0≤w∧w < 12∧ρ=[Ent.val .bag,Ent.val h,Ent.val (.lst (ps.map PV.str)),Ent.val (.int sc),Ent.val (.int w),Ent.un,Ent.un,Ent.un,Ent.un,Ent.un]) ?_ ?_) (by decide)
 ·simp only[aA,aa,gV0,gVs,M.ret_bind,F_law_pick]
  refine Gen.le (Gen.bind (Gen.draw (by first|decide|lia) (by first|decide|lia)) (d:=0) ?_) (by decide)
  rintro _ ⟨w,rfl,w0,w1⟩
  exact Gen.eq (y:=.nx _) rfl ⟨_,rfl,w,w0,w1,rfl⟩
 rintro _ ⟨w,w0,w1,rfl⟩
 refine Gen.le (bA (c:=1) (d:=5) (I:=fun ρ=> ∃ x:Str,Wd x∧ρ=[Ent.val .bag,Ent.val h,Ent.val (.lst (ps.map PV.str)),Ent.val (.int sc),Ent.val (.int w),Ent.val (.str x),Ent.un,Ent.un,Ent.un,Ent.un]) ?_ ?_) (by decide)
 ·simp only[aA,ag,aa,gV0,gVs,M.ret_bind,cN,F_law_pick,List.length_map,M.bind_assoc]
  rw[←M.bind_assoc]
  refine Gen.le (Gen.bind (gs (l:=ps.map PV.str) (by rw[List.length_map]) (by rw[List.length_map];lia) (by rw[List.length_map];lia)) (d:=0) ?_) (by decide)
  intro y hy
  obtain⟨x,hx,rfl⟩:=List.mem_map.mp hy
  exact Gen.eq (y:=.nx _) rfl ⟨_,rfl,x,pw x hx,rfl⟩
 rintro _ ⟨x,hx,rfl⟩
 refine Gen.le (bA (c:=1) (d:=4) (I:=fun ρ=> ∃ n:Int,-3≤n∧n≤3∧ρ=[Ent.val .bag,Ent.val h,Ent.val (.lst (ps.map PV.str)),Ent.val (.int sc),Ent.val (.int w),Ent.val (.str x),Ent.val (.int n),Ent.un,Ent.un,Ent.un]) ?_ ?_) (by decide)
 ·simp only[aA,ag,aa,gV0,gVs,M.ret_bind,F_law_pick,M.bind_assoc]
  refine Gen.le (Gen.bind (Gen.draw (by first|decide|lia) (by first|decide|lia)) (d:=0) ?_) (by decide)
  rintro _ ⟨n,rfl,n0,n1⟩
  exact Gen.eq (y:=.nx _) rfl ⟨_,rfl,n - 3,by lia,by lia,rfl⟩
 rintro _ ⟨n,n0,n1,rfl⟩
 refine Gen.le (bA (c:=3) (d:=1) (I:=fun ρ=> ∃ a b:Int,0≤a∧a≤1000000∧-1≤b∧b≤1000000∧ρ=[Ent.val .bag,Ent.val h,Ent.val (.lst (ps.map PV.str)),Ent.val (.int sc),Ent.val (.int w),Ent.val (.str x),Ent.val (.int n),Ent.val (.int a),Ent.val (.int b),Ent.un]) ?_ ?_) (by decide)
 ·simp only[jU,ag,aa,gV0,gVs,M.ret_bind,F_law_pick,M.bind_assoc]
  refine Gen.le (Gen.bind (Gen.draw (by first|decide|lia) (by first|decide|lia)) (d:=2) ?_) (by decide)
  rintro _ ⟨a,rfl,a0,a1⟩
  rw[hV (by first|decide|lia) (by first|decide|lia)]
  simp only[M.ret_bind]
  refine Gen.le (Gen.bind (Gen.draw (by first|decide|lia) (by first|decide|lia)) (d:=1) ?_) (by decide)
  rintro _ ⟨b,rfl,b0,b1⟩
  have ea:bL (.int 1) (.int b)= .ret (.int (1+b)):=rfl
  rw[ea]
  simp only[M.ret_bind]
  rw[hV (by first|decide|lia) (by first|decide|lia)]
  simp only[M.ret_bind]
  refine Gen.le (Gen.bind (Gen.draw (by first|decide|lia) (by first|decide|lia)) (d:=0) ?_) (by decide)
  rintro _ ⟨c,rfl,c0,c1⟩
  have q0:0≤sc * a:=Int.mul_nonneg (by first|decide|lia) a0
  have q1:sc * a≤33333 * 30:=Int.mul_le_mul s1 (by first|decide|lia) a0 (by first|decide|lia)
  have q2:0≤sc * (1+b):=Int.mul_nonneg (by first|decide|lia) (by first|decide|lia)
  have q3:sc * (1+b)≤33333 * 12:=Int.mul_le_mul s1 (by first|decide|lia) (by first|decide|lia) (by first|decide|lia)
  exact Gen.eq (y:=.nx _) rfl ⟨_,rfl,sc * a,sc * (1+b)+c - 1,q0,by lia,by lia,by lia,rfl⟩
 rintro _ ⟨a,b,a0,a1,b0,b1,rfl⟩
 refine Gen.le (bA (c:=1) (d:=0) (I:=fun ρ=> ∃ z:Str,Wd z∧ρ=[Ent.val .bag,Ent.val h,Ent.val (.lst (ps.map PV.str)),Ent.val (.int sc),Ent.val (.int w),Ent.val (.str x),Ent.val (.int n),Ent.val (.int a),Ent.val (.int b),Ent.val (.str z)]) ?_ ?_) (by decide)
 ·simp only[aA,ag,aa,gV0,gVs,M.ret_bind,h0,cN,F_law_pick,List.length_map,M.bind_assoc]
  have wa':Gen (((fT [.bag,.int ws.length]).bind fun i=>(ixO (.tup (ws.map fun p=>.tup (.str p.1::p.2))) i).bind fun y=>ixO y (.int 0)).bind fun y=>M.ret (Fl.nx ([Ent.val .bag,Ent.val h,Ent.val (.lst (ps.map PV.str)),Ent.val (.int sc),Ent.val (.int w),Ent.val (.str x),Ent.val (.int n),Ent.val (.int a),Ent.val (.int b),Ent.un].set 9 (Ent.val y)))) 1 (fun f=> ∃ ρ',f= .nx ρ'∧∃ z:Str,Wd z∧ρ'=[Ent.val .bag,Ent.val h,Ent.val (.lst (ps.map PV.str)),Ent.val (.int sc),Ent.val (.int w),Ent.val (.str x),Ent.val (.int n),Ent.val (.int a),Ent.val (.int b),Ent.val (.str z)]):=by
   refine Gen.le (Gen.bind wa (d:=0) ?_) (by decide)
   rintro _ ⟨z,rfl,hz⟩
   exact Gen.eq (y:=.nx _) rfl ⟨_,rfl,z,hz,rfl⟩
  simp only[M.bind_assoc] at wa'
  exact wa'
 rintro _ ⟨z,hz,rfl⟩
 have lt: ∀ k:Int,asB (ag ltO (fun ρ=>af ρ 4) (fun _=>M.ret (.int k))) [Ent.val .bag,Ent.val h,Ent.val (.lst (ps.map PV.str)),Ent.val (.int sc),Ent.val (.int w),Ent.val (.str x),Ent.val (.int n),Ent.val (.int a),Ent.val (.int b),Ent.val (.str z)]= .ret (decide (w < k)):=by intro k;simp[asB,ag,af,ltO,i4]
 have em:iJ [.int 1,.int b]= .ret (.int (if b > 1 then b else 1)):=rfl
 have mb0:1≤(if b > 1 then b else 1)∧(if b > 1 then b else 1)≤1000000:=by split<;>lia
 generalize (if b > 1 then b else 1)=mb at em mb0
 by_cases c3:w < 3
 ·unfold av
  rw[dF (by rw[lt,decide_eq_true c3])]
  have ea:bL (.int a) (.int mb)= .ret (.int (a+mb)):=rfl
  have e2:fP [.int 1000001,.int (a+mb)]= .ret (.int (if a+mb < 1000001 then a+mb else 1000001)):=rfl
  refine Gen.eq (y:=.tup [.str "hours",.int a,.int (if a+mb < 1000001 then a+mb else 1000001)]) (by simp only[a7,List.map_cons,List.map_nil,Ent.freeze,aa,ag,gV0,gVs,M.ret_bind,em,ea,e2,i6];rfl) ⟨rt (by decide) (by simp) fun v hv=>?_,.hours a _,rfl⟩
  simp only[List.mem_cons,List.not_mem_nil,or_false] at hv
  rcases hv with rfl|rfl
  ·exact si (by first|decide|lia)
  ·exact si (by split<;>lia)
 refine Gen.le (bA (c:=0) (d:=0) (I:=fun ρ=>ρ=[Ent.val .bag,Ent.val h,Ent.val (.lst (ps.map PV.str)),Ent.val (.int sc),Ent.val (.int w),Ent.val (.str x),Ent.val (.int n),Ent.val (.int a),Ent.val (.int b),Ent.val (.str z)]) (gnx (eL (by rw[lt,decide_eq_false c3])) rfl) ?_) (by decide)
 rintro _ rfl
 by_cases c8:w < 8
 ·unfold av
  rw[dF (by rw[lt,decide_eq_true c8])]
  have e2:hW (.int w) (.int 2)= .ret (.int (w % 2)):=by unfold hW i3;simp
  obtain⟨v,hv,e⟩:=dA (l:=[PV.tup [.str "least",.str x,.int n],PV.tup [.str "most",.str x,.int n]]) (d:=w % 2) (by first|decide|lia) (by simp;lia)
  have hv':RuT v:=by
   simp only[List.mem_cons,List.not_mem_nil,or_false] at hv
   rcases hv with rfl|rfl
   ·refine⟨rt (by decide) (by simp) fun u hu=>?_,.post true x n,rfl⟩
    simp only[List.mem_cons,List.not_mem_nil,or_false] at hu
    rcases hu with rfl|rfl
    ·exact ss hx.sh
    ·exact si (by first|decide|lia)
   ·refine⟨rt (by decide) (by simp) fun u hu=>?_,.post false x n,rfl⟩
    simp only[List.mem_cons,List.not_mem_nil,or_false] at hu
    rcases hu with rfl|rfl
    ·exact ss hx.sh
    ·exact si (by first|decide|lia)
  exact Gen.eq (y:=v) (by simp only[a7,List.map_cons,List.map_nil,Ent.freeze,aH,aa,ag,gV0,gVs,M.ret_bind,i6,mN,e2,ixO,e,M.ofO];rfl) hv'
 refine Gen.le (bA (c:=0) (d:=0) (I:=fun ρ=>ρ=[Ent.val .bag,Ent.val h,Ent.val (.lst (ps.map PV.str)),Ent.val (.int sc),Ent.val (.int w),Ent.val (.str x),Ent.val (.int n),Ent.val (.int a),Ent.val (.int b),Ent.val (.str z)]) (gnx (eL (by rw[lt,decide_eq_false c8])) rfl) ?_) (by decide)
 rintro _ rfl
 by_cases c10:w < 10
 ·unfold av
  rw[dF (by rw[lt,decide_eq_true c10])]
  refine Gen.eq (y:=.tup [.str "looked",.int mb]) (by simp only[a7,List.map_cons,List.map_nil,Ent.freeze,aa,gV0,gVs,M.ret_bind,em,p3];rfl) ⟨rt (by decide) (by simp) fun v hv=>?_,.looked mb,rfl⟩
  simp only[List.mem_cons,List.not_mem_nil,or_false] at hv
  subst hv
  exact si (by first|decide|lia)
 refine Gen.le (bA (c:=0) (d:=0) (I:=fun ρ=>ρ=[Ent.val .bag,Ent.val h,Ent.val (.lst (ps.map PV.str)),Ent.val (.int sc),Ent.val (.int w),Ent.val (.str x),Ent.val (.int n),Ent.val (.int a),Ent.val (.int b),Ent.val (.str z)]) (gnx (eL (by rw[lt,decide_eq_false c10])) rfl) ?_) (by decide)
 rintro _ rfl
 have eb: ∃ q:Bool,cO (ag (eqO false) (fun ρ=>af ρ 4) (fun _=>M.ret (.int 11))) (ag gtO (fun ρ=>af ρ 6) (fun _=>M.ret (.int 0))) [Ent.val .bag,Ent.val h,Ent.val (.lst (ps.map PV.str)),Ent.val (.int sc),Ent.val (.int w),Ent.val (.str x),Ent.val (.int n),Ent.val (.int a),Ent.val (.int b),Ent.val (.str z)]= .ret (.bl q):=by
  have g1:ag gtO (fun ρ=>af ρ 6) (fun _=>M.ret (.int 0)) [Ent.val .bag,Ent.val h,Ent.val (.lst (ps.map PV.str)),Ent.val (.int sc),Ent.val (.int w),Ent.val (.str x),Ent.val (.int n),Ent.val (.int a),Ent.val (.int b),Ent.val (.str z)]= .ret (.bl (decide (0 < n))):=by simp[ag,af,gtO,i4]
  have g2:ag (eqO false) (fun ρ=>af ρ 4) (fun _=>M.ret (.int 11)) [Ent.val .bag,Ent.val h,Ent.val (.lst (ps.map PV.str)),Ent.val (.int sc),Ent.val (.int w),Ent.val (.str x),Ent.val (.int n),Ent.val (.int a),Ent.val (.int b),Ent.val (.str z)]= .ret (.bl (w==11)):=by simp[ag,af,eqI]
  cases c:(w==11) with
  |true=>
   refine⟨decide (0 < n),?_⟩
   unfold cO asB
   rw[g2,c]
   simp only[M.ret_bind,if_true]
   exact g1
  |false=>
   refine⟨false,?_⟩
   unfold cO asB
   rw[g2,c]
   simp only[M.ret_bind,Bool.false_eq_true,if_false]
 obtain⟨q,eb⟩:=eb
 have ei:i9 [.bl q]= .ret (.int (if q then 1 else 0)):=rfl
 obtain⟨v,hv,e⟩:=dA (l:=[PV.tup [.str "with",.str z],PV.tup [.str "never"]]) (d:=if q then 1 else 0) (by split<;>lia) (by simp;split<;>lia)
 have hv':RuT v:=by
  simp only[List.mem_cons,List.not_mem_nil,or_false] at hv
  rcases hv with rfl|rfl
  ·refine⟨rt (by decide) (by simp) fun u hu=>?_,.wth z,rfl⟩
   simp only[List.mem_cons,List.not_mem_nil,or_false] at hu
   subst hu
   exact ss hz.sh
  ·exact⟨rt (by decide) (by simp) fun u hu=>absurd hu List.not_mem_nil,.never,rfl⟩
 refine Gen.eq (y:=v) (bD (bf ?_)) hv'
 simp only[List.map_cons,List.map_nil,Ent.freeze]
 show ag ixO (aH (fun ρ=>((aa (fun ρ=>((aa (fun _=>M.ret (.str "with")) (aa (fun ρ=>af ρ 9) (fun _=>M.ret []))) ρ).bind aT) (aa (fun ρ=>((aa (fun _=>M.ret (.str "never")) (fun _=>M.ret [])) ρ).bind aT) (fun _=>M.ret []))) ρ).bind aU)) (fun ρ=>(aa (cO (ag (eqO false) (fun ρ=>af ρ 4) (fun _=>M.ret (.int 11))) (ag gtO (fun ρ=>af ρ 6) (fun _=>M.ret (.int 0)))) (fun _=>M.ret []) ρ).bind i9) _=_
 unfold ag
 rw[show aH (fun ρ=>((aa (fun ρ=>((aa (fun _=>M.ret (PV.str "with")) (aa (fun ρ=>af ρ 9) (fun _=>M.ret []))) ρ).bind aT) (aa (fun ρ=>((aa (fun _=>M.ret (PV.str "never")) (fun _=>M.ret [])) ρ).bind aT) (fun _=>M.ret []))) ρ).bind aU) [Ent.val .bag,Ent.val h,Ent.val (.lst (ps.map PV.str)),Ent.val (.int sc),Ent.val (.int w),Ent.val (.str x),Ent.val (.int n),Ent.val (.int a),Ent.val (.int b),Ent.val (.str z)]= .ret (.lst [.tup [.str "with",.str z],.tup [.str "never"]]) by simp only[aH,aa,gV0,gVs,M.ret_bind,p3,xg,mN]]
 rw[M.ret_bind]
 unfold aa
 unfold ag at eb
 dsimp only at eb ⊢
 rw[eb]
 simp only[M.ret_bind,ei,ixO,e,M.ofO]
theorem vt {ns:List Int} {n:Int} {k:Nat} (hk:k≤1000) (hl:ns.length < k) (h: ∀ t:Nat,t < k→(n+t) % 1000000∈ns):False:=by
 have:=sub_len ((List.range k).map fun t:Nat=>(n+t) % 1000000) ns (by
  unfold List.Nodup
  rw[List.pairwise_map]
  refine List.Pairwise.imp_of_mem ?_ List.nodup_range
  intro a b ha hb ne e
  rw[List.mem_range] at ha hb
  lia) (fun x hx=>by
  obtain⟨t,ht,rfl⟩:=List.mem_map.mp hx
  exact h t (List.mem_range.mp ht))
 rw[List.length_map,List.length_range] at this
 lia
noncomputable def sY:ah→M PV:=ag hW (ag bL (fun ρ=>af ρ 1) (fun ρ=>af ρ 0)) (fun _=>M.ret (.int 1000000))
noncomputable def sX:ah→M Bool:=asB (ag (inO true) (fun ρ=>af ρ 0) (fun ρ=>af ρ 1))
theorem sS (x:Int) (ns:List Int):inO true (.int x) (.lst (ns.map PV.int))= .ret (.bl (!decide (x∈ns))):=by
 have h:=vH x ns
 unfold inO at h ⊢
 dsimp only at h ⊢
 split at h
 ·rename_i c
  rw[if_pos c]
  simp at h ⊢
  exact h
 ·cases h
theorem qc {ns:List Int} (hn:ns.length < 70):Gen (F_law_number [.bag,.lst (ns.map PV.int)]) 2 (fun y=> ∃ n:Int,y= .int n∧n∉ns∧0≤n∧n < 1000000):=by
 unfold F_law_number m_law_number
 show Gen ((av _ _ [Ent.val .bag,Ent.val (.lst (ns.map PV.int)),Ent.un,Ent.un]).bind bp) 2 _
 refine Gen.le (bA (c:=2) (d:=0) (I:=fun ρ=> ∃ n:Int,ρ=[Ent.val .bag,Ent.val (.lst (ns.map PV.int)),Ent.val (.int n),Ent.un]) ?_ ?_) (by decide)
 ·simp only[aA,ag,aH,aa,gV0,gVs,M.ret_bind,mN,F_law_pick,M.bind_assoc]
  refine Gen.le (Gen.bind (Gen.draw (by first|decide|lia) (by first|decide|lia)) (d:=1) ?_) (by decide)
  rintro _ ⟨d,rfl,d0,d1⟩
  obtain⟨y,hy,e⟩:=dA (l:=[PV.int 20,PV.int 1000000]) d0 d1
  obtain⟨m,rfl,m0,m1⟩: ∃ m:Int,y= .int m∧0 < m∧m≤1000000:=by
   simp only[List.mem_cons,List.not_mem_nil,or_false] at hy
   rcases hy with rfl|rfl<;>exact⟨_,rfl,by decide,by decide⟩
  simp only[ixO,e,M.ofO,M.ret_bind]
  refine Gen.le (Gen.bind (Gen.draw m0 (by first|decide|lia)) (d:=0) ?_) (by decide)
  rintro _ ⟨n,rfl,n0,n1⟩
  exact Gen.eq (y:=.nx _) rfl ⟨_,rfl,n,rfl⟩
 rintro _ ⟨n,rfl⟩
 have q1:=iK (k:=0) (te:=sY) (f:=fun y=>match y with| .int t=>.int ((n+t) % 1000000)|_=>.non) (ρ:=[Ent.un,Ent.val (.int n)]) (bw 0 70) [Ent.un,Ent.val (.int n)] (fun _=>rfl) (fun y hy=>by
   obtain⟨t,ht,rfl⟩:=List.mem_map.mp hy
   have ea:bL (.int n) (.int (0+(t:Nat)))= .ret (.int (n+(0+(t:Nat)))):=rfl
   have em:hW (.int (n+(0+(t:Nat)))) (.int 1000000)= .ret (.int ((n+(0+(t:Nat))) % 1000000)):=by unfold hW i3;simp
   unfold sY
   simp only[List.set_cons_zero,ag,gV0,gVs,M.ret_bind,ea,em])
 have em:((bw 0 70).map fun y=>match y with|PV.int t=>PV.int ((n+t) % 1000000)|_=>.non)=((List.range 70).map fun t:Nat=>(n+t) % 1000000).map PV.int:=by
  unfold bw
  rw[List.map_map,List.map_map]
  apply List.map_congr_left
  intro t _
  show PV.int ((n+(0+(t:Nat))) % 1000000)=PV.int ((n+(t:Nat)) % 1000000)
  rw[Int.zero_add]
 rw[em] at q1
 generalize hC:((List.range 70).map fun t:Nat=>(n+t) % 1000000)=C at q1
 have q2:=dW (k:=0) (tt:=sX) (te:=fun ρ=>af ρ 0) (p:=fun y=>match y with| .int x=>!decide (x∈ns)|_=>false) (f:=id) (ρ:=[Ent.un,Ent.val (.lst (ns.map PV.int))]) (C.map PV.int) [Ent.un,Ent.val (.lst (ns.map PV.int))] (fun _=>rfl) (fun y hy=>by
   obtain⟨x,hx,rfl⟩:=List.mem_map.mp hy
   unfold sX
   simp only[asB,ag,List.set_cons_zero,gV0,gVs,M.ret_bind,sS]) (fun y hy _=>by simp only[gV0,List.set_cons_zero];rfl)
 have hCl:C.length=70:=by rw[←hC];simp
 obtain⟨x,hx,hnx⟩: ∃ x∈C,x∉ns:=by
  apply Classical.byContradiction
  intro hno
  refine vt (k:=70) (n:=n) (by decide) hn fun t ht=>Classical.byContradiction fun hc=>hno ⟨(n+t) % 1000000,?_,hc⟩
  rw[←hC]
  exact List.mem_map.mpr ⟨t,List.mem_range.mpr ht,rfl⟩
 generalize hF:(C.map PV.int).filter (fun y=>match y with| .int x=>!decide (x∈ns)|_=>false)=F at q2
 have hFx:PV.int x∈F:=by
  rw[←hF]
  refine List.mem_filter.mpr ⟨List.mem_map_of_mem hx,?_⟩
  show (!decide (x∈ns))=true
  rw[decide_eq_false hnx]
  rfl
 match F,hF,hFx,q2 with
 |y::F,hF,_,q2=>
 have hy:=List.mem_filter.mp (show y∈(C.map PV.int).filter (fun y=>match y with| .int x=>!decide (x∈ns)|_=>false) by rw[hF];exact List.mem_cons_self)
 obtain⟨v,hv,rfl⟩:=List.mem_map.mp hy.1
 have hvn:v∉ns:=by
  have:(!decide (v∈ns))=true:=hy.2
  simpa using this
 have hvb:0≤v∧v < 1000000:=by
  rw[←hC] at hv
  obtain⟨t,_,rfl⟩:=List.mem_map.mp hv
  exact⟨Int.emod_nonneg _ (by decide),Int.emod_lt_of_pos _ (by decide)⟩
 refine Gen.le (bA (c:=0) (d:=0) (I:=fun ρ=>ρ=[Ent.val .bag,Ent.val (.lst (ns.map PV.int)),Ent.val (.int n),Ent.val (.lst (C.map PV.int))]) ?_ ?_) (by decide)
 ·refine gnx (I:=fun ρ=>ρ=_) ?_ rfl
  show aA 3 (aH (bb [none,some 2] (fun ρ=>((aa (fun _=>M.ret (.int 70)) (fun _=>M.ret [])) ρ).bind bJ) (aN 0) cG sY)) [Ent.val .bag,Ent.val (.lst (ns.map PV.int)),Ent.val (.int n),Ent.un]=_
  have er:bJ [.int 70]= .ret (bw 0 70):=by simp only[bJ];rfl
  have ec:cX [none,some 2] [Ent.val .bag,Ent.val (.lst (ns.map PV.int)),Ent.val (.int n),Ent.un]=[Ent.un,Ent.val (.int n)]:=rfl
  simp only[aA,aH,bb,aa,M.ret_bind,er,ec]
  rw[if_pos (by simp[bw]),q1]
  rfl
 rintro _ rfl
 refine Gen.eq (y:=.int v) (bD (bf ?_)) ⟨v,rfl,hvn,hvb.1,hvb.2⟩
 show ag ixO (aH (bb [none,some 1] (fun ρ=>((fun ρ=>af ρ 3) ρ).bind a8) (aN 0) sX (fun ρ=>af ρ 0))) (fun _=>M.ret (.int 0)) [Ent.val .bag,Ent.val (.lst (ns.map PV.int)),Ent.val (.int n),Ent.val (.lst (C.map PV.int))]=_
 have ec:cX [none,some 1] [Ent.val .bag,Ent.val (.lst (ns.map PV.int)),Ent.val (.int n),Ent.val (.lst (C.map PV.int))]=[Ent.un,Ent.val (.lst (ns.map PV.int))]:=rfl
 simp only[ag,aH,bb,gV0,gVs,M.ret_bind,a8,ec]
 rw[if_pos (by rw[List.length_map,hCl];decide),q2]
 simp only[M.ret_bind,List.map_id,ixO,at0,M.ofO]
noncomputable def lF (ws:List (Str×List PV)) (y:PV):Prop:=(∃ (n m:Int) (z:Str) (rs:List Ru),y= .tup [.str "rule",.int n,.int m,.str z,.tup (rs.map Ru.pv)]∧rs.length≤6)∨(∃ (n m:Int) (z:Str) (i:Int),y= .tup [.str "read",.int n,.int m,.str z,.int i])∨(∃ (n m:Int) (z:Str) (q:List PV),y= .tup [.str "look",.int n,.int m,.str z]∧(z,.str "slope"::q)∈ws)
noncomputable def PgG (ws:List (Str×List PV)) (l:List PV) (ns:List Int):Prop:=PagesN l ns∧∀ y∈l,lF ws y
theorem qa {ws:List (Str×List PV)} {l:List PV} {y:PV} (h: ∀ y∈l,lF ws y) (g:lF ws y): ∀ z∈l++[y],lF ws z:=fun z hz=>by
 rcases List.mem_append.mp hz with hz|hz
 ·exact h z hz
 ·rw[List.mem_singleton.mp hz];exact g
theorem rus {rs:List PV} (h: ∀ z∈rs,RuT z): ∃ us:List Ru,rs=us.map Ru.pv:=by
 induction rs with
 |nil=>exact⟨[],rfl⟩
 |cons r rs ih=>
  obtain⟨us,rfl⟩:=ih fun z hz=>h z (List.mem_cons_of_mem _ hz)
  obtain⟨_,u,rfl⟩:=h r List.mem_cons_self
  exact⟨u::us,rfl⟩
theorem xM {α:Type} (l:List α) (x:α):atI (l++[x]) (-1)=some x:=by
 unfold atI ixN
 rw[if_neg (by decide)]
 have h1:(l++[x]).length=l.length+1:=by simp
 by_cases c: -((l++[x]).length:Int)≤-1
 ·rw[if_pos c]
  show (l++[x])[((-1:Int)+((l++[x]).length:Int)).toNat]?=some x
  rw[h1]
  have:((-1:Int)+((l.length+1:Nat):Int)).toNat=l.length:=by lia
  rw[this]
  simp
 ·rw[h1] at c
  lia
theorem qG {ws:List (Str×List PV)} {h:PV} {dark:Int} (H:eR h ws dark): ∃ sl:List Str,(∀ z∈sl,∃ q,(z,PV.str "slope"::q)∈ws)∧sl.length≤12∧lcM (aN 0) (asB (ag (eqO false) (ag ixO (fun ρ=>af ρ 0) (fun _=>M.ret (.int 1))) (fun _=>M.ret (.str "slope")))) (ag ixO (fun ρ=>af ρ 0) (fun _=>M.ret (.int 0))) (ws.map fun p=>.tup (.str p.1::p.2)) [Ent.un]= .ret (sl.map PV.str):=by
 obtain⟨_,_,_,w1,hw,_⟩:=H
 have q:=dW (k:=0) (tt:=asB (ag (eqO false) (ag ixO (fun ρ=>af ρ 0) (fun _=>M.ret (.int 1))) (fun _=>M.ret (.str "slope")))) (te:=ag ixO (fun ρ=>af ρ 0) (fun _=>M.ret (.int 0))) (p:=fun y=>match y with| .tup (_::.str k::_)=>k=="slope"|_=>false) (f:=fun y=>match y with| .tup (a::_)=>a|_=>.non) (ρ:=[Ent.un]) (ws.map fun p=>PV.tup (.str p.1::p.2)) [Ent.un] (fun _=>rfl) (fun y hy=>by
  obtain⟨p,hp,rfl⟩:=List.mem_map.mp hy
  obtain⟨_,k,r,e⟩:=hw p hp
  rw[e]
  simp only[asB,ag,List.set_cons_zero,gV0,M.ret_bind,ixO,f9,M.ofO,eqS]) (fun y hy _=>by
  obtain⟨p,hp,rfl⟩:=List.mem_map.mp hy
  simp only[ag,gV0,List.set_cons_zero,M.ret_bind,ixO,at0,M.ofO])
 refine⟨(ws.filter fun p=>match p.2 with| .str k::_=>k=="slope"|_=>false).map (·.1),fun z hz=>?_,?_,?_⟩
 ·obtain⟨p,hp,rfl⟩:=List.mem_map.mp hz
  obtain⟨hp1,hp2⟩:=List.mem_filter.mp hp
  obtain⟨_,k,r,e⟩:=hw p hp1
  rw[e] at hp2
  dsimp only at hp2
  rw[eq_of_beq hp2] at e
  exact⟨r,by rw[←e];exact hp1⟩
 ·rw[List.length_map]
  exact Nat.le_trans (List.length_filter_le _ _) w1
 ·rw[q,List.filter_map,List.map_map,List.map_map]
  congr 1
  have:((fun y=>match y with|PV.tup (_::.str k::_)=>k==("slope":Str)|_=>false)∘fun p:Str×List PV=>PV.tup (.str p.1::p.2))=(fun p:Str×List PV=>match p.2 with| .str k::_=>k==("slope":Str)|_=>false):=by
   funext p
   obtain⟨a,b⟩:=p
   cases b with
   |nil=>rfl
   |cons c d=>cases c<;>rfl
  rw[this]
  rfl
noncomputable abbrev E15 (h:PV) (sc k:Int) (ps sl:List Str) (l:List PV) (ns:List Int) (r:List Ent):ah:=Ent.val .bag::Ent.val h::Ent.val (.int sc)::Ent.val (.int k)::Ent.val (.lst (ps.map PV.str))::Ent.val (.lst (sl.map PV.str))::Ent.own l::Ent.own (ns.map PV.int)::r
noncomputable def pgB:ah→M Fl:=(av (aA 9 (fun ρ=>((aa (fun ρ=>af ρ 0) (aa (fun _=>M.ret (.int 8)) (fun _=>M.ret []))) ρ).bind F_law_pick))
  (av (aA 10 (ag dZ (fun ρ=>((aa (fun ρ=>af ρ 0) (aa (fun ρ=>af ρ 1) (aa (fun ρ=>af ρ 2) (fun _=>M.ret [])))) ρ).bind F_law_moment) (fun ρ=>((aa (ag gtO (fun ρ=>((aa (fun ρ=>af ρ 0) (aa (fun _=>M.ret (.int 3)) (fun _=>M.ret []))) ρ).bind F_law_pick) (fun _=>M.ret (.int 0))) (fun _=>M.ret [])) ρ).bind i9)))
  (av (cS 7 (fun ρ=>((aa (fun ρ=>af ρ 0) (aa (fun ρ=>bT ρ 7) (fun _=>M.ret []))) ρ).bind fun l=>(F_law_number l).bind gJ))
  (ifP (asB (ag ltO (fun ρ=>af ρ 9) (fun _=>M.ret (.int 3))))
  (av (aA 11 (ag ixO (ag ixO (ag ixO (fun ρ=>af ρ 1) (fun _=>M.ret (.int 0))) (fun ρ=>((aa (fun ρ=>af ρ 0) (aa (fun ρ=>((aa (ag ixO (fun ρ=>af ρ 1) (fun _=>M.ret (.int 0))) (fun _=>M.ret [])) ρ).bind cN) (fun _=>M.ret []))) ρ).bind F_law_pick)) (fun _=>M.ret (.int 0))))
  (av (aA 12 (ag ixO (aH (fun ρ=>((aa (fun _=>M.ret (.int 0)) (aa (fun _=>M.ret (.int 1)) (aa (fun _=>M.ret (.int 1)) (aa (fun _=>M.ret (.int 1)) (aa (fun _=>M.ret (.int 2)) (aa (fun _=>M.ret (.int 2)) (aa (fun _=>M.ret (.int 3)) (aa (fun _=>M.ret (.int 6)) (fun _=>M.ret []))))))))) ρ).bind aU)) (fun ρ=>((aa (fun ρ=>af ρ 0) (aa (fun _=>M.ret (.int 8)) (fun _=>M.ret []))) ρ).bind F_law_pick)))
  (av (aA 13 (aH (bb [none,some 0,some 1,some 4,some 2] (fun ρ=>((aa (fun ρ=>af ρ 12) (fun _=>M.ret [])) ρ).bind bJ) (aN 0) cG (fun ρ=>((aa (fun ρ=>af ρ 1) (aa (fun ρ=>af ρ 2) (aa (fun ρ=>af ρ 3) (aa (fun ρ=>af ρ 4) (fun _=>M.ret []))))) ρ).bind F_law_rule))))
  (cS 6 (fun ρ=>((aa (fun _=>M.ret (.str "rule")) (aa (ag ixO (fun ρ=>bT ρ 7) (fun ρ=>((fun _=>M.ret (.int 1)) ρ).bind fF)) (aa (fun ρ=>af ρ 10) (aa (fun ρ=>af ρ 11) (aa (fun ρ=>((aa (fun ρ=>af ρ 13) (fun _=>M.ret [])) ρ).bind eS) (fun _=>M.ret [])))))) ρ).bind aT)))))
  (ifP (orP (asB (ag ltO (fun ρ=>af ρ 9) (fun _=>M.ret (.int 6)))) (asB (ag (eqO false) (fun ρ=>af ρ 5) (aH (fun ρ=>((fun _=>M.ret []) ρ).bind aU)))))
  (av (aA 14 (ag dZ (ag gX (fun ρ=>((aa (fun ρ=>af ρ 0) (aa (fun _=>M.ret (.int 7)) (fun _=>M.ret []))) ρ).bind F_law_pick) (fun _=>M.ret (.int 3))) (ag ixO (aH (fun ρ=>((aa (fun _=>M.ret (.int 1)) (aa (fun _=>M.ret (.int 1)) (aa (fun _=>M.ret (.int 1)) (aa (ag mm (fun _=>M.ret (.int 10)) (fun _=>M.ret (.int 50))) (fun _=>M.ret []))))) ρ).bind aU)) (fun ρ=>((aa (fun ρ=>af ρ 0) (aa (fun _=>M.ret (.int 4)) (fun _=>M.ret []))) ρ).bind F_law_pick))))
  (cS 6 (fun ρ=>((aa (fun _=>M.ret (.str "read")) (aa (ag ixO (fun ρ=>bT ρ 7) (fun ρ=>((fun _=>M.ret (.int 1)) ρ).bind fF)) (aa (fun ρ=>af ρ 10) (aa (ag ixO (fun ρ=>af ρ 4) (fun ρ=>((aa (fun ρ=>af ρ 0) (aa (fun ρ=>((aa (fun ρ=>af ρ 4) (fun _=>M.ret [])) ρ).bind cN) (fun _=>M.ret []))) ρ).bind F_law_pick)) (aa (fun ρ=>af ρ 14) (fun _=>M.ret [])))))) ρ).bind aT)))
  (cS 6 (fun ρ=>((aa (fun _=>M.ret (.str "look")) (aa (ag ixO (fun ρ=>bT ρ 7) (fun ρ=>((fun _=>M.ret (.int 1)) ρ).bind fF)) (aa (fun ρ=>af ρ 10) (aa (ag ixO (fun ρ=>af ρ 5) (fun ρ=>((aa (fun ρ=>af ρ 0) (aa (fun ρ=>((aa (fun ρ=>af ρ 5) (fun _=>M.ret [])) ρ).bind cN) (fun _=>M.ret []))) ρ).bind F_law_pick)) (fun _=>M.ret []))))) ρ).bind aT)))))))
theorem vI {h:PV} {ws:List (Str×List PV)} {dark sc k:Int} {ps sl:List Str} {l:List PV} {ns:List Int} {e8 e9 e10 e11 e12 e13 e14:Ent} (H:eR h ws dark) (s0:1≤sc) (s1:sc≤33333) (p0:0 < ps.length) (p1:ps.length≤20) (pw: ∀ z∈ps,Wd z) (sw: ∀ z∈sl,∃ q,(z,PV.str "slope"::q)∈ws) (sz:sl.length≤12) (hg:PgG ws l ns) (hl:l.length < 65):
  Gen (pgB (E15 h sc k ps sl l ns [e8,e9,e10,e11,e12,e13,e14])) 60 (fun f=> ∃ (l':List PV) (ns':List Int) (e9 e10 e11 e12 e13 e14:Ent),f= .nx (E15 h sc k ps sl l' ns' [e8,e9,e10,e11,e12,e13,e14])∧l'.length=l.length+1∧PgG ws l' ns'):=by
 obtain⟨h0,_⟩:=fz H
 have hp:=hg.1
 have hgs:=hg.2
 have hnl:ns.length=l.length:=hp.1
 unfold pgB
 refine Gen.le (eM (c:=1) (d:=59) (I:=fun ρ=> ∃ w:Int,0≤w∧w < 8∧ρ=E15 h sc k ps sl l ns [e8,Ent.val (.int w),e10,e11,e12,e13,e14]) ?_ ?_) (by decide)
 ·simp only[aA,aa,gV0,gVs,M.ret_bind,F_law_pick]
  refine Gen.le (Gen.bind (Gen.draw (by first|decide|lia) (by first|decide|lia)) (d:=0) ?_) (by decide)
  rintro _ ⟨w,rfl,w0,w1⟩
  exact Gen.eq (y:=.nx _) rfl ⟨_,rfl,w,w0,w1,rfl⟩
 rintro _ ⟨w,w0,w1,rfl⟩
 refine Gen.le (eM (c:=3) (d:=56) (I:=fun ρ=> ∃ m:Int,0≤m∧m≤1000000∧ρ=E15 h sc k ps sl l ns [e8,Ent.val (.int w),Ent.val (.int m),e11,e12,e13,e14]) ?_ ?_) (by decide)
 ·simp only[aA,ag,aa,gV0,gVs,M.ret_bind,F_law_pick,M.bind_assoc]
  refine Gen.le (Gen.bind (qd H s0 s1) (d:=1) ?_) (by decide)
  rintro _ ⟨m,rfl,m0,m1⟩
  refine Gen.le (Gen.bind (Gen.draw (by first|decide|lia) (by first|decide|lia)) (d:=0) ?_) (by decide)
  rintro _ ⟨d,rfl,d0,d1⟩
  have eg:gtO (.int d) (.int 0)= .ret (.bl (decide (0 < d))):=rfl
  have ei:i9 [.bl (decide (0 < d))]= .ret (.int (if decide (0 < d) then 1 else 0)):=rfl
  simp only[eg,M.ret_bind,ei]
  rw[hV (by first|decide|lia) (by first|decide|lia)]
  refine Gen.eq (y:=.nx _) rfl ⟨_,rfl,m * (if decide (0 < d) then 1 else 0),?_,?_,rfl⟩
  ·by_cases c:decide (0 < d)=true
   ·rw[if_pos c];lia
   ·rw[if_neg c];lia
  ·by_cases c:decide (0 < d)=true
   ·rw[if_pos c];lia
   ·rw[if_neg c];lia
 rintro _ ⟨m,m0,m1,rfl⟩
 refine Gen.le (eM (c:=2) (d:=54) (I:=fun ρ=> ∃ n:Int,n∉ns∧0≤n∧n < 1000000∧ρ=E15 h sc k ps sl l (ns++[n]) [e8,Ent.val (.int w),Ent.val (.int m),e11,e12,e13,e14]) ?_ ?_) (by decide)
 ·simp only[cS,List.getElem?_cons_succ,List.getElem?_cons_zero,aa,gV0,gVs,ki,gBs,M.ret_bind,M.bind_assoc]
  refine Gen.le (Gen.bind (qc (ns:=ns) (by first|decide|lia)) (d:=0) ?_) (by decide)
  rintro _ ⟨n,rfl,nn,n0,n1⟩
  have hf:gJ (.int n)= .ret (.int n):=rfl
  have hz:(ns.map PV.int).length < 100000:=by rw[List.length_map];lia
  exact Gen.eq (y:=.nx _) (by simp only[hf,M.ret_bind,if_pos hz];rfl) ⟨_,rfl,n,nn,n0,n1,by simp[E15]⟩
 rintro _ ⟨n,nn,n0,n1,rfl⟩
 have ee:ixO (.lst ((ns++[n]).map PV.int)) (.int (-1))= .ret (.int n):=by
  rw[List.map_append]
  simp only[ixO,List.map_cons,List.map_nil,xM,M.ofO]
 have en:fF (.int 1)= .ret (.int (-1)):=rfl
 have lt: ∀ q:Int,asB (ag ltO (fun ρ=>af ρ 9) (fun _=>M.ret (.int q))) (E15 h sc k ps sl l (ns++[n]) [e8,Ent.val (.int w),Ent.val (.int m),e11,e12,e13,e14])= .ret (decide (w < q)):=by intro q;simp[asB,ag,af,ltO,i4]
 have hlz:l.length < 100000:=by lia
 by_cases c3:w < 3
 ·rw[dF (by rw[lt,decide_eq_true c3])]
  refine Gen.le (eM (c:=1) (d:=53) (I:=fun ρ=> ∃ x:Str,Wd x∧ρ=E15 h sc k ps sl l (ns++[n]) [e8,Ent.val (.int w),Ent.val (.int m),Ent.val (.str x),e12,e13,e14]) ?_ ?_) (by decide)
  ·have wa:=qr H
   simp only[aA,ag,aa,gV0,gVs,M.ret_bind,h0,cN,F_law_pick,List.length_map,M.bind_assoc]
   have wa':Gen (((fT [.bag,.int ws.length]).bind fun i=>(ixO (.tup (ws.map fun p=>.tup (.str p.1::p.2))) i).bind fun y=>ixO y (.int 0)).bind fun y=>M.ret (Fl.nx ((E15 h sc k ps sl l (ns++[n]) [e8,Ent.val (.int w),Ent.val (.int m),e11,e12,e13,e14]).set 11 (Ent.val y)))) 1 (fun f=> ∃ ρ',f= .nx ρ'∧∃ z:Str,Wd z∧ρ'=E15 h sc k ps sl l (ns++[n]) [e8,Ent.val (.int w),Ent.val (.int m),Ent.val (.str z),e12,e13,e14]):=by
    refine Gen.le (Gen.bind wa (d:=0) ?_) (by decide)
    rintro _ ⟨z,rfl,hz⟩
    exact Gen.eq (y:=.nx _) rfl ⟨_,rfl,z,hz,rfl⟩
   simp only[M.bind_assoc] at wa'
   exact wa'
  rintro _ ⟨x,hx,rfl⟩
  have e8': ∀ a b c d e f g i:PV,aU [a,b,c,d,e,f,g,i]= .ret [a,b,c,d,e,f,g,i]:=by intros;simp[aU]
  refine Gen.le (eM (c:=1) (d:=52) (I:=fun ρ=> ∃ q:Int,0≤q∧q≤6∧ρ=E15 h sc k ps sl l (ns++[n]) [e8,Ent.val (.int w),Ent.val (.int m),Ent.val (.str x),Ent.val (.int q),e13,e14]) ?_ ?_) (by decide)
  ·simp only[aA,ag,aH,aa,gV0,gVs,M.ret_bind,e8',F_law_pick,M.bind_assoc]
   refine Gen.le (Gen.bind (Gen.draw (by first|decide|lia) (by first|decide|lia)) (d:=0) ?_) (by decide)
   rintro _ ⟨d,rfl,d0,d1⟩
   obtain⟨y,hy,e⟩:=dA (l:=[PV.int 0,PV.int 1,PV.int 1,PV.int 1,PV.int 2,PV.int 2,PV.int 3,PV.int 6]) d0 d1
   obtain⟨q,rfl,q0,q1⟩: ∃ q:Int,y= .int q∧0≤q∧q≤6:=by
    simp only[List.mem_cons,List.not_mem_nil,or_false] at hy
    rcases hy with rfl|rfl|rfl|rfl|rfl|rfl|rfl|rfl<;>exact⟨_,rfl,by decide,by decide⟩
   exact Gen.eq (y:=.nx _) (by simp only[ixO,e,M.ofO,M.ret_bind];rfl) ⟨_,rfl,q,q0,q1,rfl⟩
  rintro _ ⟨q,q0,q1,rfl⟩
  refine Gen.le (eM (c:=42) (d:=0) (I:=fun ρ=> ∃ rs:List PV,rs.length≤6∧(∀ z∈rs,RuT z)∧ρ=E15 h sc k ps sl l (ns++[n]) [e8,Ent.val (.int w),Ent.val (.int m),Ent.val (.str x),Ent.val (.int q),Ent.val (.lst rs),e14]) ?_ ?_) (by decide)
  ·have hlen:(bw 0 q.toNat).length=q.toNat:=by simp[bw]
   have er:bJ [.int q]= .ret (bw 0 q.toNat):=by simp only[bJ,if_pos (by lia: -1000000≤q∧q≤100000)]
   have ec:cX [none,some 0,some 1,some 4,some 2] (E15 h sc k ps sl l (ns++[n]) [e8,Ent.val (.int w),Ent.val (.int m),Ent.val (.str x),Ent.val (.int q),e13,e14])=[Ent.un,Ent.val .bag,Ent.val h,Ent.val (.lst (ps.map PV.str)),Ent.val (.int sc)]:=rfl
   unfold aA aH bb
   simp only[aa,gV0,gVs,M.ret_bind,er,ec,if_pos (by lia:(bw 0 q.toNat).length≤100000),M.bind_assoc]
   refine Gen.le (Gen.bind (Gen.lc (ρ:=[Ent.un,Ent.val .bag,Ent.val h,Ent.val (.lst (ps.map PV.str)),Ent.val (.int sc)]) (c:=7) (Pr:=RuT) _ _ (fun _=>rfl) (fun y hy=>?_)) (d:=0) ?_) (by rw[hlen];lia)
   ·simp only[List.set_cons_zero,gV0,gVs,M.ret_bind]
    exact tR H s0 s1 p0 p1 pw
   ·rintro rs ⟨z1,z2⟩
    exact Gen.eq (y:=.nx _) rfl ⟨_,rfl,rs,by rw[z1,hlen];lia,z2,rfl⟩
  rintro _ ⟨rs,r0,r1,rfl⟩
  obtain⟨us,hus⟩:=rus r1
  have hrs:Sml 2500 2 (.tup rs):=(jS (c:=400) (dp:=1) (n:=6) (fun z hz=>(r1 z hz).1) r0).mono (by first|decide|lia) (by first|decide|lia)
  refine Gen.eq (y:=.nx (E15 h sc k ps sl (l++[.tup [.str "rule",.int n,.int m,.str x,.tup rs]]) (ns++[n]) [e8,Ent.val (.int w),Ent.val (.int m),Ent.val (.str x),Ent.val (.int q),Ent.val (.lst rs),e14])) ?_ ⟨_,_,_,_,_,_,_,_,rfl,by simp,⟨hp.snoc nn n0 n1 ⟨"rule",x,m,[.tup rs],rfl,.inr ⟨.inr rfl,_,rfl,hrs,rfl⟩,m0,m1⟩,qa hgs (.inl ⟨n,m,x,us,by rw[←hus],by rw[hus,List.length_map] at r0;exact r0⟩)⟩⟩
  simp only[cS,List.getElem?_cons_succ,List.getElem?_cons_zero,aa,ag,gV0,gVs,ki,gBs,M.ret_bind,en,ee,eS,tj,if_pos hlz]
  rfl
 rw[eL (by rw[lt,decide_eq_false c3])]
 have e6:asB (ag (eqO false) (fun ρ=>af ρ 5) (aH (fun ρ=>((fun _=>M.ret []) ρ).bind aU))) (E15 h sc k ps sl l (ns++[n]) [e8,Ent.val (.int w),Ent.val (.int m),e11,e12,e13,e14])= .ret sl.isEmpty:=by
  simp only[asB,ag,aH,gV0,gVs,M.ret_bind,tu]
  cases sl<;>rfl
 have eor:orP (asB (ag ltO (fun ρ=>af ρ 9) (fun _=>M.ret (.int 6)))) (asB (ag (eqO false) (fun ρ=>af ρ 5) (aH (fun ρ=>((fun _=>M.ret []) ρ).bind aU)))) (E15 h sc k ps sl l (ns++[n]) [e8,Ent.val (.int w),Ent.val (.int m),e11,e12,e13,e14])= .ret (decide (w < 6)||sl.isEmpty):=by
  unfold orP
  rw[lt,e6]
  cases decide (w < 6)<;>rfl
 cases c6:(decide (w < 6)||sl.isEmpty) with
 |true=>
  rw[dF (by rw[eor,c6])]
  refine Gen.le (eM (c:=2) (d:=1) (I:=fun ρ=> ∃ v:Int,v.natAbs < 10 ^ 61∧ρ=E15 h sc k ps sl l (ns++[n]) [e8,Ent.val (.int w),Ent.val (.int m),e11,e12,e13,Ent.val (.int v)]) ?_ ?_) (by decide)
  ·have ep:mm (.int 10) (.int 50)= .ret (.int (10 ^ 50)):=by
    unfold mm i3
    dsimp only
    rw[if_pos (by decide +kernel)]
    rfl
   simp only[aA,ag,aH,aa,gV0,gVs,M.ret_bind,ep,tm,F_law_pick,M.bind_assoc]
   refine Gen.le (Gen.bind (Gen.draw (by first|decide|lia) (by first|decide|lia)) (d:=1) ?_) (by decide)
   rintro _ ⟨d,rfl,d0,d1⟩
   have es:gX (.int d) (.int 3)= .ret (.int (d - 3)):=rfl
   simp only[es,M.ret_bind]
   refine Gen.le (Gen.bind (Gen.draw (by first|decide|lia) (by first|decide|lia)) (d:=0) ?_) (by decide)
   rintro _ ⟨g,rfl,g0,g1⟩
   obtain⟨y,hy,e⟩:=dA (l:=[PV.int 1,PV.int 1,PV.int 1,PV.int (10 ^ 50)]) g0 g1
   obtain⟨u,rfl,hu⟩: ∃ u:Int,y= .int u∧(u=1∨u=10 ^ 50):=by
    simp only[List.mem_cons,List.not_mem_nil,or_false] at hy
    rcases hy with rfl|rfl|rfl|rfl
    ·exact⟨_,rfl,.inl rfl⟩
    ·exact⟨_,rfl,.inl rfl⟩
    ·exact⟨_,rfl,.inl rfl⟩
    ·exact⟨_,rfl,.inr rfl⟩
   simp only[ixO,e,M.ofO,M.ret_bind]
   rw[hV (by first|decide|lia) (by first|decide|lia)]
   refine Gen.eq (y:=.nx _) rfl ⟨_,rfl,(d - 3) * u,?_,rfl⟩
   rcases hu with rfl|rfl
   ·lia
   ·lia
  rintro _ ⟨v,hv,rfl⟩
  simp only[cS,List.getElem?_cons_succ,List.getElem?_cons_zero,aa,ag,gV0,gVs,ki,gBs,M.ret_bind,en,ee,cN,F_law_pick,List.length_map,M.bind_assoc]
  rw[←M.bind_assoc]
  refine Gen.le (Gen.bind (gs (l:=ps.map PV.str) (by rw[List.length_map]) (by rw[List.length_map];lia) (by rw[List.length_map];lia)) (d:=0) ?_) (by decide)
  intro y hy
  obtain⟨x,hx,rfl⟩:=List.mem_map.mp hy
  refine Gen.eq (y:=.nx (E15 h sc k ps sl (l++[.tup [.str "read",.int n,.int m,.str x,.int v]]) (ns++[n]) [e8,Ent.val (.int w),Ent.val (.int m),e11,e12,e13,Ent.val (.int v)])) ?_ ⟨_,_,_,_,_,_,_,_,rfl,by simp,⟨hp.snoc nn n0 n1 ⟨"read",x,m,[.int v],rfl,.inr ⟨.inl rfl,_,rfl,big (c:=0) (si hv),rfl⟩,m0,m1⟩,qa hgs (.inr (.inl ⟨n,m,x,v,rfl⟩))⟩⟩
  simp only[M.ret_bind,tj,if_pos hlz]
  rfl
 |false=>
  rw[eL (by rw[eor,c6])]
  have hse:0 < sl.length:=by
   rw[Bool.or_eq_false_iff] at c6
   cases sl with
   |nil=>exact absurd c6.2 (by decide)
   |cons a b=>simp
  simp only[cS,List.getElem?_cons_succ,List.getElem?_cons_zero,aa,ag,gV0,gVs,ki,gBs,M.ret_bind,en,ee,cN,F_law_pick,List.length_map,M.bind_assoc]
  rw[←M.bind_assoc]
  refine Gen.le (Gen.bind (gs (l:=sl.map PV.str) (by rw[List.length_map]) (by rw[List.length_map];lia) (by rw[List.length_map];lia)) (d:=0) ?_) (by decide)
  intro y hy
  obtain⟨x,hx,rfl⟩:=List.mem_map.mp hy
  refine Gen.eq (y:=.nx (E15 h sc k ps sl (l++[.tup [.str "look",.int n,.int m,.str x]]) (ns++[n]) [e8,Ent.val (.int w),Ent.val (.int m),e11,e12,e13,e14])) ?_ ⟨_,_,_,_,_,_,_,_,rfl,by simp,⟨hp.snoc nn n0 n1 ⟨"look",x,m,[],rfl,.inl ⟨rfl,rfl⟩,m0,m1⟩,qa hgs (.inr (.inr ((sw x hx).elim fun q hq=>⟨n,m,x,q,rfl,hq⟩)))⟩⟩
  simp only[M.ret_bind,yF,if_pos hlz]
  rfl
theorem rH {h:PV} {ws:List (Str×List PV)} {dark sc k:Int} (H:eR h ws dark) (s0:1≤sc) (s1:sc≤33333) (k0:0≤k) (k1:k≤60):Gen (F_law_pages [.bag,h,.int sc,.int k]) (29+k.toNat * 60) (fun y=> ∃ l ns,y= .lst l∧l.length=k.toNat∧PgG ws l ns):=by
 obtain⟨h0,_⟩:=fz H
 obtain⟨p,ws',rfl⟩: ∃ p ws',ws=p::ws':=by
  obtain⟨_,_,w0,_⟩:=H
  match ws,w0 with
  |p::ws',_=>exact⟨p,ws',rfl⟩
 have hw0:Wd p.1:=by
  obtain⟨_,_,_,_,hw,_⟩:=H
  exact(hw p List.mem_cons_self).1
 unfold F_law_pages m_law_pages
 show Gen ((av _ _ [Ent.val .bag,Ent.val h,Ent.val (.int sc),Ent.val (.int k),Ent.un,Ent.un,Ent.un,Ent.un,Ent.un,Ent.un,Ent.un,Ent.un,Ent.un,Ent.un,Ent.un]).bind bp) _ _
 refine Gen.le (bA (c:=29) (d:=k.toNat * 60) (I:=fun ρ=> ∃ ps:List Str,0 < ps.length∧ps.length≤20∧(∀ z∈ps,Wd z)∧ρ=[Ent.val .bag,Ent.val h,Ent.val (.int sc),Ent.val (.int k),Ent.val (.lst (ps.map PV.str)),Ent.un,Ent.un,Ent.un,Ent.un,Ent.un,Ent.un,Ent.un,Ent.un,Ent.un,Ent.un]) ?_ ?_) (by first|decide|lia)
 ·have i0:ixO (.tup ((p::ws').map fun p=>PV.tup (.str p.1::p.2))) (.int 0)= .ret (.tup (.str p.1::p.2)):=by simp only[ixO,List.map_cons,at0,M.ofO]
  have i1:ixO (.tup (.str p.1::p.2)) (.int 0)= .ret (.str p.1):=by simp only[ixO,at0,M.ofO]
  simp only[aA,aH,gM,ag,aa,gV0,gVs,M.ret_bind,h0,i0,i1,xi,F_law_pick,M.bind_assoc]
  refine Gen.le (Gen.bind (Gen.draw (by first|decide|lia) (by first|decide|lia)) (d:=28) ?_) (by decide)
  rintro _ ⟨d,rfl,d0,d1⟩
  have ea:bL (.int 1) (.int d)= .ret (.int (1+d)):=rfl
  simp only[ea,M.ret_bind]
  refine Gen.le (Gen.bind (ia (k:=1+d) (by first|decide|lia) (by first|decide|lia)) (d:=1) ?_) (by first|decide|lia)
  rintro _ ⟨zs,rfl,hl,hz,_⟩
  refine Gen.le (Gen.bind (Gen.draw (by first|decide|lia) (by first|decide|lia)) (d:=0) ?_) (by decide)
  rintro _ ⟨g,rfl,g0,g1⟩
  obtain⟨ps',hps',em⟩: ∃ ps':List Str,(ps'=[]∨ps'=[p.1])∧dZ (.lst [.str p.1]) (.int g)= .ret (.lst (ps'.map PV.str)):=by
   obtain rfl|rfl:g=0∨g=1:=by lia
   ·exact⟨[],.inl rfl,rfl⟩
   ·exact⟨[p.1],.inr rfl,rfl⟩
  have hlen:(zs.map PV.str).length+(ps'.map PV.str).length≤100000:=by
   rcases hps' with rfl|rfl<;>simp<;>lia
  refine Gen.eq (y:=.nx _) (by simp only[em,M.ret_bind,if_pos hlen];rfl) ⟨_,rfl,zs++ps',?_,?_,fun z hz'=>?_,by rw[List.map_append];rfl⟩
  ·rw[List.length_append];lia
  ·rcases hps' with rfl|rfl<;>simp<;>lia
  ·rcases List.mem_append.mp hz' with hz'|hz'
   ·exact hz z hz'
   ·rcases hps' with rfl|rfl
    ·exact absurd hz' List.not_mem_nil
    ·rw[List.mem_singleton.mp hz'];exact hw0
 rintro _ ⟨ps,p0,p1,pw,rfl⟩
 obtain⟨sl,sw,sz,esl⟩:=qG H
 refine Gen.le (bA (c:=0) (d:=k.toNat * 60) (I:=fun ρ=>ρ=[Ent.val .bag,Ent.val h,Ent.val (.int sc),Ent.val (.int k),Ent.val (.lst (ps.map PV.str)),Ent.val (.lst (sl.map PV.str)),Ent.un,Ent.un,Ent.un,Ent.un,Ent.un,Ent.un,Ent.un,Ent.un,Ent.un]) ?_ ?_) (by first|decide|lia)
 ·refine gnx (I:=fun ρ=>ρ=_) ?_ rfl
  have hwl:((p::ws').map fun p=>PV.tup (.str p.1::p.2)).length≤100000:=by
   obtain⟨_,_,_,w1,_⟩:=H
   rw[List.length_map];lia
  have ec:cX [none] [Ent.val .bag,Ent.val h,Ent.val (.int sc),Ent.val (.int k),Ent.val (.lst (ps.map PV.str)),Ent.un,Ent.un,Ent.un,Ent.un,Ent.un,Ent.un,Ent.un,Ent.un,Ent.un,Ent.un]=[Ent.un]:=rfl
  unfold aA aH bb
  dsimp only
  rw[show ((ag ixO (fun ρ=>af ρ 1) (fun _=>M.ret (.int 0))) [Ent.val .bag,Ent.val h,Ent.val (.int sc),Ent.val (.int k),Ent.val (.lst (ps.map PV.str)),Ent.un,Ent.un,Ent.un,Ent.un,Ent.un,Ent.un,Ent.un,Ent.un,Ent.un,Ent.un])= .ret (.tup ((p::ws').map fun p=>.tup (.str p.1::p.2))) by simp only[ag,gV0,gVs,M.ret_bind,h0]]
  simp only[M.ret_bind,a8,if_pos hwl,ec]
  rw[esl]
  rfl
 rintro _ rfl
 refine Gen.le (bA (c:=0) (d:=k.toNat * 60) (I:=fun ρ=>ρ=[Ent.val .bag,Ent.val h,Ent.val (.int sc),Ent.val (.int k),Ent.val (.lst (ps.map PV.str)),Ent.val (.lst (sl.map PV.str)),Ent.own [],Ent.un,Ent.un,Ent.un,Ent.un,Ent.un,Ent.un,Ent.un,Ent.un]) (gnx (by simp[de,aU]) rfl) ?_) (by first|decide|lia)
 rintro _ rfl
 refine Gen.le (bA (c:=0) (d:=k.toNat * 60) (I:=fun ρ=>ρ=E15 h sc k ps sl [] [] [Ent.un,Ent.un,Ent.un,Ent.un,Ent.un,Ent.un,Ent.un]) (gnx (by simp[de,aU]) rfl) ?_) (by first|decide|lia)
 rintro _ rfl
 have hint:(bw 0 k.toNat).length=k.toNat:=by simp[bw]
 have er:bJ [.int k]= .ret (bw 0 k.toNat):=by simp only[bJ,if_pos (by lia: -1000000≤k∧k≤100000)]
 refine Gen.le (bA (c:=k.toNat * 60) (d:=0) (I:=fun ρ=> ∃ (l:List PV) (ns:List Int) (r:List Ent),l.length=k.toNat∧PgG (p::ws') l ns∧ρ=E15 h sc k ps sl l ns r) ?_ ?_) (by first|decide|lia)
 ·show Gen (bg (fun ρ=>((aa (fun ρ=>af ρ 3) (fun _=>M.ret [])) ρ).bind bJ) (aN 8) pgB _) _ _
  unfold bg
  simp only[aa,gV0,gVs,M.ret_bind,er]
  refine Gen.mono (mW (k:=8) (c:=60) (Iv:=fun i ρ=> ∃ (l:List PV) (ns:List Int) (e8 e9 e10 e11 e12 e13 e14:Ent),l.length=i∧PgG (p::ws') l ns∧ρ=E15 h sc k ps sl l ns [e8,e9,e10,e11,e12,e13,e14]) (bw 0 k.toNat) 0 _ ⟨[],[],_,_,_,_,_,_,_,rfl,⟨⟨rfl,List.nodup_nil,fun z hz=>absurd hz List.not_mem_nil,fun i n z e=>by simp at e⟩,fun z hz=>absurd hz List.not_mem_nil⟩,rfl⟩ ?_) (by rw[hint];exact Nat.le_refl _) ?_
  rotate_left
  ·rintro f ⟨ρ',rfl,l,ns,e8,e9,e10,e11,e12,e13,e14,hl,hp,rfl⟩
   rw[hint,Nat.zero_add] at hl
   exact⟨_,rfl,l,ns,_,hl,hp,rfl⟩
  ·rintro y hy j hj _ ⟨l,ns,e8,e9,e10,e11,e12,e13,e14,hl,hp,rfl⟩
   rw[hint] at hj
   show Gen (pgB (E15 h sc k ps sl l ns [Ent.val y,e9,e10,e11,e12,e13,e14])) 60 _
   refine Gen.mono (vI H s0 s1 p0 p1 pw sw sz hp (by first|decide|lia)) (Nat.le_refl _) ?_
   rintro f ⟨l',ns',e9,e10,e11,e12,e13,e14,rfl,hl',hp'⟩
   exact⟨_,rfl,l',ns',_,_,_,_,_,_,_,by lia,hp',rfl⟩
 ·rintro _ ⟨l,ns,r,hl,hp,rfl⟩
  exact Gen.eq (bD (bf rfl)) ⟨l,ns,rfl,hl,hp⟩
theorem hdS {a b:Str} {r r':List PV} (e:PV.tup (.str a::r)= .tup (.str b::r')) (h:a≠b):False:=by
 injection e with e
 injection e with e
 injection e with e
 exact h e
theorem kK: ∀ {ws:List (Str×List PV)} {p q:Str×List PV},(ws.map (·.1)).Nodup→p∈ws→q∈ws→p.1=q.1→p=q
 |[],_,_,_,hp,_,_=>absurd hp List.not_mem_nil
 |w::ws,p,q,nd,hp,hq,e=>by
  rw[List.map_cons,List.nodup_cons] at nd
  rcases List.mem_cons.mp hp with rfl|hp
  ·rcases List.mem_cons.mp hq with rfl|hq
   ·rfl
   ·exact absurd (e▸List.mem_map_of_mem hq) nd.1
  ·rcases List.mem_cons.mp hq with e2|hq
   ·rw[←e2,←e] at nd
    exact absurd (List.mem_map_of_mem hp) nd.1
   ·exact kK nd.2 hp hq e
theorem sy {ws:List (Str×List PV)} {l:List PV} {ns:List Int} (hg:PgG ws l ns) (hl:l.length≤1000) (z:Str) (t:Int): ∃ rs:List Ru,rs.length≤6∧F_rules_at [.tup (aX l),.str z,.int t]= .ret (.tup (rs.map Ru.pv))∧F_law_rules [.lst l,.str z,.int t]= .ret (.tup (rs.map Ru.pv)):=by
 have s1:=seen hg.1 "rule" z t
 have s2:=pR hg.1 hl "rule" z t
 have fin: ∀ v:PV,(∀ e0 e1 e2:Ent,ifV (asB (ag (isO false) (fun ρ=>af ρ 3) (fun _=>M.ret .non))) (fun ρ=>((fun _=>M.ret []) ρ).bind aT) (ag ixO (fun ρ=>af ρ 3) (fun _=>M.ret (.int 4))) [e0,e1,e2,Ent.val (six l "rule" z t)]= .ret v)→F_rules_at [.tup (aX l),.str z,.int t]= .ret v∧F_law_rules [.lst l,.str z,.int t]= .ret v:=fun v hv=>by
  constructor
  ·unfold F_rules_at m_rules_at
   show (av _ _ [Ent.val (.tup (aX l)),Ent.val (.str z),Ent.val (.int t),Ent.un]).bind bp=_
   refine aG (ρ':=[Ent.val (.tup (aX l)),Ent.val (.str z),Ent.val (.int t),Ent.val (six l "rule" z t)]) ?_ (bD (bf (hv _ _ _)))
   simp only[aA,aa,gV0,gVs,M.ret_bind,s1]
   rfl
  ·unfold F_law_rules m_law_rules
   show (av _ _ [Ent.val (.lst l),Ent.val (.str z),Ent.val (.int t),Ent.un]).bind bp=_
   refine aG (ρ':=[Ent.val (.lst l),Ent.val (.str z),Ent.val (.int t),Ent.val (six l "rule" z t)]) ?_ (bD (bf (hv _ _ _)))
   simp only[aA,aa,gV0,gVs,M.ret_bind,s2]
   rfl
 rcases iz hg.1 "rule" z t with e|⟨hm,n,hp,hh⟩
 ·exact⟨[],by simp,fin _ fun e0 e1 e2=>by rw[e];rfl⟩
 ·obtain⟨z',m,r,e,_⟩:=lC hp hh
  rcases hg.2 _ hm with⟨n',m',z'',rs,e',hr⟩|⟨n',m',z'',i,e'⟩|⟨n',m',z'',q,e',_⟩
  ·exact⟨rs,hr,fin _ fun e0 e1 e2=>by rw[e'];rfl⟩
  ·rw[e] at e';exact(hdS e' (by decide +kernel)).elim
  ·rw[e] at e';exact(hdS e' (by decide +kernel)).elim
theorem gC {h:PV} {ws:List (Str×List PV)} {dark:Int} {l:List PV} {ns:List Int} (H:eR h ws dark) (hg:PgG ws l ns) (hl:l.length < 64) (t:Int):F_law_right [h,.lst l,.int t]= .ret (.bl true):=by
 obtain⟨hm,rfl,w0,w1,hw,d0,d1,nd⟩:=H
 have rp:=fun z=>sy hg (by first|decide|lia) z t
 refine sA (ru:=fun z=>Classical.choose (rp z)) hg.1 hl ?_ (fun z=>?_) (by first|decide|lia) nd ?_ (fun z=>(Classical.choose_spec (rp z)).2.1) (fun z=>(Classical.choose_spec (rp z)).2.2)
 ·intro n m z v hv
  rcases hg.2 _ hv with⟨n',m',z'',rs,e',hr⟩|⟨n',m',z'',i,e'⟩|⟨n',m',z'',q,e',_⟩
  ·exact(hdS e' (by decide +kernel)).elim
  ·refine⟨i,?_⟩
   simp at e'
   exact e'.2.2.2
  ·exact(hdS e' (by decide +kernel)).elim
 ·exact Nat.le_trans (Classical.choose_spec (rp z)).1 (by decide)
 ·intro p hp
  obtain⟨_,kd,q,e⟩:=hw p hp
  refine⟨kd,q,e,fun hk=>?_⟩
  unfold lkF
  rcases iz hg.1 "look" p.1 t with e'|⟨hm,n,hpt,hh⟩
  ·rw[e']
  ·exfalso
   obtain⟨z',m,r,e1,_⟩:=lC hpt hh
   have hz:z'=p.1:=by
    rw[e1] at hh
    simp[hit] at hh
    exact hh.1
   rcases hg.2 _ hm with⟨n',m',z'',rs,e2,hr⟩|⟨n',m',z'',i,e2⟩|⟨n',m',z'',q',e2,hs⟩
   ·rw[e1] at e2;exact(hdS e2 (by decide +kernel)).elim
   ·rw[e1] at e2;exact(hdS e2 (by decide +kernel)).elim
   ·rw[e1] at e2
    simp at e2
    have hz2:z''=p.1:=by rw[←e2.2.2.1];exact hz
    rw[hz2] at hs
    have this:=congrArg Prod.snd (kK nd hs hp rfl)
    rw[e] at this
    simp at this
    rw[←this.1] at hk
    exact absurd hk (by decide +kernel)
theorem uX {us:List Ru} (h: ∀ u∈us,RuT u.pv) (hl:us.length≤6):Sml 2500 2 (.tup (us.map Ru.pv)):=(jS (c:=400) (dp:=1) (n:=6) (fun z hz=>by
 obtain⟨u,hu,rfl⟩:=List.mem_map.mp hz
 exact(h u hu).1) (by rw[List.length_map];exact hl)).mono (by first|decide|lia) (by first|decide|lia)
theorem ruS {u:Ru} (h:match u with| .hours a b=>0≤a∧a≤9∧0≤b∧b≤10| .post _ p n=>Sh p∧0≤n∧n≤9| .looked n=>0≤n∧n≤9| .wth o=>Sh o| .never=>True):RuT u.pv:=by
 refine⟨?_,u,rfl⟩
 cases u with
 |hours a b=>
  refine rt (by decide) (by simp) fun u hu=>?_
  simp only[List.mem_cons,List.not_mem_nil,or_false] at hu
  rcases hu with rfl|rfl<;>exact si (by dsimp only at h;lia)
 |post L p n=>
  cases L<;>(
   refine rt (by decide) (by simp) fun u hu=>?_
   simp only[List.mem_cons,List.not_mem_nil,or_false] at hu
   rcases hu with rfl|rfl
   ·exact ss h.1
   ·exact si (by dsimp only at h;lia))
 |looked n=>
  refine rt (by decide) (by simp) fun u hu=>?_
  simp only[List.mem_cons,List.not_mem_nil,or_false] at hu
  subst hu
  exact si (by dsimp only at h;lia)
 |wth o=>
  refine rt (by decide) (by simp) fun u hu=>?_
  simp only[List.mem_cons,List.not_mem_nil,or_false] at hu
  subst hu
  exact ss h
 |never=>exact rt (by decide) (by simp) fun u hu=>absurd hu List.not_mem_nil
noncomputable def iO (a b:Int):List Ru:=[.hours 0 a,.post true "depth" b,.post false "depth" 5]
noncomputable def badR:List Ru:=[.hours 1 9,.post true "depth" 6,.post false "depth" 4,.never,.looked 3,.post true "wind" 0]
noncomputable def sB6:ah→M Fl:=(jo 6 (fun ρ=>((aa (fun ρ=>af ρ 0) (aa (fun _=>M.ret (.int 6)) (fun _=>M.ret []))) ρ).bind F_law_pick) (ag ixO (fun ρ=>bT ρ 5) (fun ρ=>((aa (fun ρ=>af ρ 0) (aa (fun _=>M.ret (.int 6)) (fun _=>M.ret []))) ρ).bind F_law_pick)))
noncomputable abbrev E8 (h:PV) (a b:Int) (g:List Ru) (r:List Ent):ah:=Ent.val .bag::Ent.val h::Ent.val (.int a)::Ent.val (.int b)::Ent.val (.lst (g.map Ru.pv))::r
theorem oY {h:PV} {ws:List (Str×List PV)} {dark:Int} (H:eR h ws dark):Gen (F_law_six [.bag,h]) 13 (fun y=> ∃ l ns,y= .lst l∧l.length=2∧PgG ws l ns):=by
 obtain⟨h0,_⟩:=fz H
 obtain⟨p,ws',rfl⟩: ∃ p ws',ws=p::ws':=by
  obtain⟨_,_,w0,_⟩:=H
  match ws,w0 with
  |p::ws',_=>exact⟨p,ws',rfl⟩
 unfold F_law_six m_law_six
 show Gen ((av _ _ [Ent.val .bag,Ent.val h,Ent.un,Ent.un,Ent.un,Ent.un,Ent.un,Ent.un]).bind bp) _ _
 refine Gen.le (bA (c:=2) (d:=11) (I:=fun ρ=> ∃ a b:Int,(1≤a∧a≤9)∧(3≤b∧b≤5)∧ρ=[Ent.val .bag,Ent.val h,Ent.val (.int a),Ent.val (.int b),Ent.un,Ent.un,Ent.un,Ent.un]) ?_ ?_) (by decide)
 ·simp only[jU,aa,ag,gV0,gVs,M.ret_bind,F_law_pick,M.bind_assoc]
  refine Gen.le (Gen.bind (Gen.draw (by first|decide|lia) (by first|decide|lia)) (d:=1) ?_) (by decide)
  rintro _ ⟨d,rfl,d0,d1⟩
  have ea:bL (.int 1) (.int d)= .ret (.int (1+d)):=rfl
  simp only[ea,M.ret_bind]
  refine Gen.le (Gen.bind (Gen.draw (by first|decide|lia) (by first|decide|lia)) (d:=0) ?_) (by decide)
  rintro _ ⟨e,rfl,e0,e1⟩
  have es:gX (.int 5) (.int e)= .ret (.int (5 - e)):=rfl
  simp only[es,M.ret_bind]
  exact Gen.eq (y:=.nx _) rfl ⟨_,rfl,1+d,5 - e,by lia,by lia,rfl⟩
 rintro _ ⟨a,b,ha,hb,rfl⟩
 refine Gen.le (bA (c:=0) (d:=11) (I:=fun ρ=>ρ=E8 h a b (iO a b) [Ent.un,Ent.un,Ent.un]) (gnx ?_ rfl) ?_) (by decide)
 ·simp only[aA,aH,aa,gV0,gVs,M.ret_bind,i6,xh]
  rfl
 rintro _ rfl
 refine Gen.le (bA (c:=0) (d:=11) (I:=fun ρ=>ρ=E8 h a b (iO a b) [Ent.own ((badR.take 5).map Ru.pv),Ent.un,Ent.un]) (gnx ?_ rfl) ?_) (by decide)
 ·simp only[de,aa,gV0,gVs,M.ret_bind,i6,p3,xg]
  rfl
 rintro _ rfl
 refine Gen.le (bA (c:=0) (d:=11) (I:=fun ρ=>ρ=E8 h a b (iO a b) [Ent.own (badR.map Ru.pv),Ent.un,Ent.un]) (gnx ?_ rfl) ?_) (by decide)
 ·simp only[cS,List.getElem?_cons_succ,List.getElem?_cons_zero,aa,gV0,gVs,M.ret_bind,i6]
  rfl
 rintro _ rfl
 have gg: ∀ y∈(iO a b).map Ru.pv,RuT y:=fun y hy=>by
  obtain⟨u,hu,rfl⟩:=List.mem_map.mp hy
  simp only[iO,List.mem_cons,List.not_mem_nil,or_false] at hu
  rcases hu with rfl|rfl|rfl
  ·exact ruS (by dsimp only;lia)
  ·exact ruS (by dsimp only;exact⟨by decide,by lia⟩)
  ·exact ruS (by dsimp only;exact⟨by decide,by lia⟩)
 have gb: ∀ y∈badR.map Ru.pv,RuT y:=fun y hy=>by
  obtain⟨u,hu,rfl⟩:=List.mem_map.mp hy
  simp only[badR,List.mem_cons,List.not_mem_nil,or_false] at hu
  rcases hu with rfl|rfl|rfl|rfl|rfl|rfl<;>exact ruS (by decide)
 obtain⟨gl,egl⟩: ∃ gl,gl=iO a b:=⟨_,rfl⟩
 rw[←egl] at gg ⊢
 have gln:gl.length=3:=by rw[egl];rfl
 refine Gen.le (bA (c:=6) (d:=5) (I:=fun ρ=> ∃ rs:List PV,rs.length=6∧(∀ z∈rs,RuT z)∧ρ=E8 h a b gl [Ent.own (badR.map Ru.pv),Ent.own rs,Ent.un]) ?_ ?_) (by decide)
 ·have er:bJ [.int 6]= .ret (bw 0 6):=rfl
  have ec:cX [none,some 4,some 0] (E8 h a b gl [Ent.own (badR.map Ru.pv),Ent.un,Ent.un])=[Ent.un,Ent.val (.lst (gl.map Ru.pv)),Ent.val .bag]:=rfl
  unfold de bb
  simp only[aa,gV0,gVs,M.ret_bind,er,ec,if_pos (by decide:(bw 0 6).length≤100000),M.bind_assoc]
  refine Gen.le (Gen.bind (Gen.lc (ρ:=[Ent.un,Ent.val (.lst (gl.map Ru.pv)),Ent.val .bag]) (c:=1) (Pr:=RuT) _ _ (fun _=>rfl) (fun y hy=>?_)) (d:=0) ?_) (by decide)
  ·simp only[List.set_cons_zero,ag,gV0,gVs,M.ret_bind,F_law_pick]
   refine Gen.mono (gs (l:=gl.map Ru.pv) (by rw[List.length_map,gln];rfl) (by rw[List.length_map];lia) (by rw[List.length_map];lia)) (Nat.le_refl _) fun y hy=>gg y hy
  ·rintro rs ⟨z1,z2⟩
   exact Gen.eq (y:=.nx _) rfl ⟨_,rfl,rs,z1,z2,rfl⟩
 rintro _ ⟨rs,rn,rr,rfl⟩
 refine Gen.le (bA (c:=5) (d:=0) (I:=fun ρ=> ∃ (rs:List PV) (e7:Ent),rs.length=6∧(∀ z∈rs,RuT z)∧ρ=E8 h a b gl [Ent.own (badR.map Ru.pv),Ent.own rs,e7]) ?_ ?_) (by decide)
 ·show Gen (bg _ (aN 7) sB6 _) _ _
  unfold bg
  simp only[aa,gV0,gVs,M.ret_bind,F_law_pick,M.bind_assoc]
  refine Gen.le (Gen.bind (Gen.draw (by first|decide|lia) (by first|decide|lia)) (d:=4) ?_) (by decide)
  rintro _ ⟨d,rfl,d0,d1⟩
  have er:bJ [.int d]= .ret (bw 0 d.toNat):=by simp only[bJ,if_pos (by lia: -1000000≤d∧d≤100000)]
  have hint:(bw 0 d.toNat).length=d.toNat:=by simp[bw]
  simp only[er,M.ret_bind]
  refine Gen.mono (mW (k:=7) (c:=2) (Iv:=fun _ ρ=> ∃ (rs:List PV) (e7:Ent),rs.length=6∧(∀ z∈rs,RuT z)∧ρ=E8 h a b gl [Ent.own (badR.map Ru.pv),Ent.own rs,e7]) (bw 0 d.toNat) 0 _ ⟨rs,_,rn,rr,rfl⟩ ?_) (by rw[hint];lia) (fun f hf=>hf)
  rintro y hy j hj _ ⟨rs,e7,rn,rr,rfl⟩
  show Gen (sB6 (E8 h a b gl [Ent.own (badR.map Ru.pv),Ent.own rs,Ent.val y])) 2 _
  unfold sB6 jo
  simp only[aa,ag,gV0,gVs,ki,gBs,M.ret_bind,F_law_pick,M.bind_assoc,List.getElem?_cons_succ,List.getElem?_cons_zero]
  rw[←M.bind_assoc]
  refine Gen.le (Gen.bind (gs (l:=badR.map Ru.pv) (n:=6) rfl (by decide) (by decide)) (d:=1) ?_) (by decide)
  intro y' hy'
  refine Gen.le (Gen.bind (Gen.draw (by first|decide|lia) (by first|decide|lia)) (d:=0) ?_) (by decide)
  rintro _ ⟨i,rfl,i0,i1⟩
  obtain⟨q,rfl⟩: ∃ q:Nat,i=q:=⟨i.toNat,by lia⟩
  have ei:ixN rs.length (q:Int)=some q:=by
   unfold ixN
   rw[if_pos (by first|decide|lia),if_pos (by first|decide|lia)]
   simp
  refine Gen.eq (y:=.nx (E8 h a b gl [Ent.own (badR.map Ru.pv),Ent.own (rs.set q y'),Ent.val y])) (by simp only[h8,M.ret_bind,ei,M.ofO];rfl) ⟨_,rfl,rs.set q y',_,by rw[List.length_set,rn],fun z hz=>?_,rfl⟩
  rcases List.mem_or_eq_of_mem_set hz with hz|rfl
  ·exact rr z hz
  ·exact gb _ hy'
 rintro _ ⟨rs,e7,rn,rr,rfl⟩
 obtain⟨us,rfl⟩:=rus rr
 rw[List.length_map] at rn
 have i0:ixO (.tup (PV.tup (.str p.1::p.2)::ws'.map fun p=>PV.tup (.str p.1::p.2))) (.int 0)= .ret (.tup (.str p.1::p.2)):=by simp only[ixO,at0,M.ofO]
 have i1:ixO (.tup (.str p.1::p.2)) (.int 0)= .ret (.str p.1):=by simp only[ixO,at0,M.ofO]
 have sm:Sml 2500 2 (.tup (us.map Ru.pv)):=uX (fun u hu=>rr _ (List.mem_map_of_mem hu)) (by first|decide|lia)
 have pn:PagesN [] []:=⟨rfl,List.nodup_nil,fun z hz=>absurd hz List.not_mem_nil,fun i n z e=>by simp at e⟩
 have p1:=(pn.snoc (n:=999999) (z:=.tup [.str "rule",.int 999999,.int 0,.str p.1,.tup (us.map Ru.pv)]) List.not_mem_nil (by decide) (by decide) ⟨"rule",p.1,0,[_],rfl,.inr ⟨.inr rfl,_,rfl,sm,rfl⟩,by decide,by decide⟩).snoc (n:=999998) (z:=.tup [.str "read",.int 999998,.int 0,.str "depth",.int 5]) (by decide) (by decide) (by decide) ⟨"read","depth",0,[.int 5],rfl,.inr ⟨.inl rfl,_,rfl,big (c:=0) (si (by decide)),rfl⟩,by decide,by decide⟩
 refine Gen.eq (y:=.lst [.tup [.str "rule",.int 999999,.int 0,.str p.1,.tup (us.map Ru.pv)],.tup [.str "read",.int 999998,.int 0,.str "depth",.int 5]]) (bD (bf ?_)) ⟨_,_,rfl,rfl,p1,fun y hy=>?_⟩
 ·simp only[List.map_cons,List.map_nil,Ent.freeze,aH,aa,ag,gV0,gVs,M.ret_bind,h0,i0,i1,eS,tj,mN]
 ·simp only[List.mem_cons,List.not_mem_nil,or_false,List.nil_append,List.cons_append] at hy
  rcases hy with rfl|rfl
  ·exact .inl ⟨_,_,_,us,rfl,by lia⟩
  ·exact .inr (.inl ⟨_,_,_,_,rfl⟩)
noncomputable abbrev L7 (sc:Int) (h a:PV) (b e:Ent):ah:=[Ent.un,Ent.val .bag,Ent.val (.int sc),Ent.val h,Ent.val a,b,e]
noncomputable def tB:ah→M Fl:=(ifP (orP (el (asB (fun ρ=>((aa (fun ρ=>af ρ 3) (aa (fun ρ=>af ρ 5) (aa (ag ixO (fun ρ=>af ρ 6) (fun _=>M.ret (.int 2))) (fun _=>M.ret [])))) ρ).bind F_law_right))) (el (asB (fun ρ=>((aa (fun ρ=>af ρ 3) (aa (fun ρ=>af ρ 5) (aa (fun ρ=>((aa (ag ixO (fun ρ=>af ρ 3) (fun _=>M.ret (.int 2))) (aa (ag bL (ag ixO (fun ρ=>af ρ 6) (fun _=>M.ret (.int 2))) (fun _=>M.ret (.int 1))) (fun _=>M.ret []))) ρ).bind fP) (fun _=>M.ret [])))) ρ).bind F_law_right))))
  (a7 (fun _=>M.ret (.bl false)))
  (fun ρ=>M.ret (.nx ρ)))
theorem tI:(fQ ((List.replicate 7 Ent.un).set 1 (.val .bag))).wp 1000000 fun f _=>f= .rt (.bl true):=by
 have g:Gen (fQ ((List.replicate 7 Ent.un).set 1 (.val .bag))) 2000 (fun f=>f= .rt (.bl true)):=by
  show Gen (fQ [Ent.un,Ent.val .bag,Ent.un,Ent.un,Ent.un,Ent.un,Ent.un]) 2000 _
  unfold fQ
  refine Gen.le (eM (c:=1) (d:=1900) (I:=fun ρ=> ∃ sc:Int,1≤sc∧sc≤33333∧ρ=[Ent.un,Ent.val .bag,Ent.val (.int sc),Ent.un,Ent.un,Ent.un,Ent.un]) ?_ ?_) (by decide)
  ·simp only[aA,ag,aH,aa,gV0,gVs,M.ret_bind,xh,F_law_pick,M.bind_assoc]
   refine Gen.le (Gen.bind (Gen.draw (by first|decide|lia) (by first|decide|lia)) (d:=0) ?_) (by decide)
   rintro _ ⟨d,rfl,d0,d1⟩
   obtain⟨y,hy,e⟩:=dA (l:=[PV.int 1,PV.int 7,PV.int 33333]) d0 d1
   obtain⟨sc,rfl,s0,s1⟩: ∃ sc:Int,y= .int sc∧1≤sc∧sc≤33333:=by
    simp only[List.mem_cons,List.not_mem_nil,or_false] at hy
    rcases hy with rfl|rfl|rfl<;>exact⟨_,rfl,by decide,by decide⟩
   exact Gen.eq (y:=.nx _) (by simp only[ixO,e,M.ofO,M.ret_bind];rfl) ⟨_,rfl,sc,s0,s1,rfl⟩
  rintro _ ⟨sc,s0,s1,rfl⟩
  refine Gen.le (eM (c:=300) (d:=1600) (I:=fun ρ=> ∃ h ws dark,eR h ws dark∧ρ=[Ent.un,Ent.val .bag,Ent.val (.int sc),Ent.val h,Ent.un,Ent.un,Ent.un]) ?_ ?_) (by decide)
  ·simp only[aA,aa,gV0,gVs,M.ret_bind]
   refine Gen.le (Gen.bind (tS (most:=6) (by decide) (by decide) s0 s1) (d:=0) ?_) (by decide)
   rintro h ⟨ws,dark,H⟩
   exact Gen.eq (y:=.nx _) rfl ⟨_,rfl,h,ws,dark,H,rfl⟩
  rintro _ ⟨h,ws,dark,H,rfl⟩
  refine Gen.le (eM (c:=13) (d:=1500) (I:=fun ρ=> ∃ l ns,l.length=2∧PgG ws l ns∧ρ=L7 sc h (.lst l) Ent.un Ent.un) ?_ ?_) (by decide)
  ·simp only[aA,aa,gV0,gVs,M.ret_bind]
   refine Gen.le (Gen.bind (oY H) (d:=0) ?_) (by decide)
   rintro _ ⟨l,ns,rfl,hl,hg⟩
   exact Gen.eq (y:=.nx _) rfl ⟨_,rfl,l,ns,hl,hg,rfl⟩
  rintro _ ⟨l6,ns6,hl6,hg6,rfl⟩
  refine Gen.le (eM (c:=1100) (d:=100) (I:=fun ρ=> ∃ l ns,l.length≤14∧PgG ws l ns∧ρ=L7 sc h (.lst l6) (Ent.val (.lst l)) Ent.un) ?_ ?_) (by decide)
  ·simp only[aA,aa,gV0,gVs,M.ret_bind,F_law_pick,M.bind_assoc]
   refine Gen.le (Gen.bind (Gen.draw (by first|decide|lia) (by first|decide|lia)) (d:=1000) ?_) (by decide)
   rintro _ ⟨k,rfl,k0,k1⟩
   refine Gen.le (Gen.bind (rH H s0 s1 k0 (by first|decide|lia)) (d:=0) ?_) (by first|decide|lia)
   rintro _ ⟨l,ns,rfl,hl,hg⟩
   exact Gen.eq (y:=.nx _) rfl ⟨_,rfl,l,ns,by lia,hg,rfl⟩
  rintro _ ⟨l,ns,hl,hg,rfl⟩
  obtain⟨h0,h2⟩:=fz H
  refine Gen.le (eM (c:=0) (d:=13) (I:=fun ρ=> ∃ e:Ent,ρ=L7 sc h (.lst l6) (Ent.val (.lst l)) e) ?_ ?_) (by decide)
  ·show Gen (bg _ (aN 6) tB _) _ _
   unfold bg
   have hcl:(f7 l none (some 5)).length≤60:=by unfold f7;rw[List.length_take,List.length_drop];lia
   have hc2:(f7 l none (some 5)).length+[PV.tup [.str "",.int 0,.int 0],PV.tup [.str "",.int 0,.int dark]].length≤100000:=by simp;lia
   simp only[sl3,aH,gM,aa,ag,gV0,gVs,M.ret_bind,h8,slE,a8,i6,mN,h2,if_pos hc2]
   refine Gen.mono (mW (k:=6) (c:=0) (Iv:=fun i ρ=> ∃ e:Ent,ρ=L7 sc h (.lst l6) (Ent.val (.lst l)) e) _ 0 _ ⟨_,rfl⟩ ?_) (by first|decide|lia) (fun f hf=>hf)
   rintro y hy j hj _ ⟨e,rfl⟩
   show Gen (tB (L7 sc h (.lst l6) (Ent.val (.lst l)) (Ent.val y))) 0 _
   obtain⟨a,b,m,r,rfl⟩: ∃ a b m r,y=PV.tup (a::b::.int m::r):=by
    rcases List.mem_append.mp hy with hy|hy
    ·obtain⟨n,⟨w,z,m,r,rfl,_⟩,_⟩:=hg.1.at (List.mem_of_mem_drop (List.mem_of_mem_take hy))
     exact⟨_,_,m,_,rfl⟩
    ·simp only[List.mem_cons,List.not_mem_nil,or_false] at hy
     rcases hy with rfl|rfl<;>exact⟨_,_,_,_,rfl⟩
   have ip:ixO (.tup (a::b::.int m::r)) (.int 2)= .ret (.int m):=by simp only[ixO,jg,M.ofO]
   have ea:bL (.int m) (.int 1)= .ret (.int (m+1)):=rfl
   have em:fP [.int dark,.int (m+1)]= .ret (.int (if m+1 < dark then m+1 else dark)):=rfl
   have r1:=gC H hg (by first|decide|lia) m
   have r2:=gC H hg (by first|decide|lia) (if m+1 < dark then m+1 else dark)
   refine gnx (I:=fun ρ=> ∃ e:Ent,ρ=_) (ρ':=L7 sc h (.lst l6) (Ent.val (.lst l)) (Ent.val (.tup (a::b::.int m::r)))) ?_ ⟨_,rfl⟩
   unfold tB
   refine eL ?_
   unfold orP el
   simp only[asB,ag,aa,gV0,gVs,M.ret_bind,ip,ea,h2,em,r1,r2,Bool.not_true,Bool.false_eq_true,if_false]
  rintro _ ⟨e,rfl⟩
  have r1:=gC H hg6 (by first|decide|lia) 0
  unfold a7
  rw[show List.map Ent.freeze (L7 sc h (.lst l6) (Ent.val (.lst l)) e)=L7 sc h (.lst l6) (Ent.val (.lst l)) e.freeze from rfl]
  have tb: ∀ {m k:ah→M PV} {ρ:ah},m ρ= .ret (.bl true)→cO m k ρ=k ρ:=fun {m k ρ} e=>by unfold cO asB;rw[e];rfl
  rw[tb (by simp only[aa,gV0,gVs,M.ret_bind,r1])]
  refine Gen.le (Gen.bind (c:=13) (d:=0) (Pr:=fun y=>y= .bl true) ?_ ?_) (by decide)
  ·unfold cO
   refine Gen.le (Gen.bind (c:=13) (d:=0) (Pr:=fun b:Bool=>b=true) ?_ ?_) (by decide)
   ·unfold asB
    simp only[aa,gV0,gVs,M.ret_bind,M.bind_assoc]
    refine Gen.le (Gen.bind (oY H) (d:=0) ?_) (by decide)
    rintro _ ⟨l,ns,rfl,hl,hg⟩
    exact Gen.eq (by simp only[M.ret_bind,gC H hg (by first|decide|lia) 0]) rfl
   ·rintro _ rfl
    exact Gen.eq (by simp only[aa,gV0,gVs,M.ret_bind,r1,if_true]) rfl
  ·rintro _ rfl
   exact Gen.eq rfl rfl
 exact M.wp_mono (g.h 1000000 (by decide)) fun f n h=>h.2
theorem us1 {α:Type} {us:List α} (h:us.length=1): ∃ a,us=[a]:=by
 match us,h with
 |[a],_=>exact⟨_,rfl⟩
theorem us2 {α:Type} {us:List α} (h:us.length=2): ∃ a b,us=[a,b]:=by
 match us,h with
 |[a,b],_=>exact⟨_,_,rfl⟩
theorem us3 {α:Type} {us:List α} (h:us.length=3): ∃ a b c,us=[a,b,c]:=by
 match us,h with
 |[a,b,c],_=>exact⟨_,_,_,rfl⟩
theorem us4 {α:Type} {us:List α} (h:us.length=4): ∃ a b c d,us=[a,b,c,d]:=by
 match us,h with
 |[a,b,c,d],_=>exact⟨_,_,_,_,rfl⟩
theorem us5 {α:Type} {us:List α} (h:us.length=5): ∃ a b c d e,us=[a,b,c,d,e]:=by
 match us,h with
 |[a,b,c,d,e],_=>exact⟨_,_,_,_,_,rfl⟩
theorem all_mk {l:PySem.W.OpenLaw} {w:World} {K:PySem.W.Frag} {h:Heap} {mg:Str→Option Value} {q:Program} {fa a_way_named a_last_page a_reading a_rules_at a_looked_at a_post_holds a_look_holds a_holds_alone a_others_asked a_found_open a_open_ways a_why_shut awstart awpick awword awwords awhill awmoment awrule awnumber awpages awbook awpage awholds awrules awopen awwhy awright awsix a_law cb_law_book tb_law_book cb_law_page tb_law_page:Addr} (X:K.In h) (G:h.Ns mainGlobals mg) (hfa:mg "law"=some (.ref fa))
  {od0 an0 od1 an1 od2 an2 od3 an3 od4 an4 od5 an5 od6 an6 od7 an7 od8 an8 od9 an9 od10 an10 od11 an11 od12 an12 od13 an13 od14 an14 od15 an15 od16 an16 od17 an17 od18 an18 od19 an19 od20 an20 od21 an21 od22 an22 od23 an23 od24 an24 od25 an25 od26 an26 od27 an27 od28 an28 od29 an29:Option Addr} {sl0 sl1 sl2 sl3 sl4 sl5 sl6 sl7 sl8 sl9 sl10 sl11 sl12 sl13 sl14 sl15 sl16 sl17 sl18 sl19 sl20 sl21 sl22 sl23 sl24 sl25 sl26 sl27 sl28 sl29:Array (Option Value)} {oc0 kV0 dc0 pm0 cd0 ct0 oc1 kV1 dc1 pm1 cd1 ct1 oc2 kV2 dc2 pm2 cd2 ct2 oc3 kV3 dc3 pm3 cd3 ct3 oc4 kV4 dc4 pm4 cd4 ct4 oc5 kV5 dc5 pm5 cd5 ct5 oc6 kV6 dc6 pm6 cd6 ct6 oc7 kV7 dc7 pm7 cd7 ct7 oc8 kV8 dc8 pm8 cd8 ct8 oc9 kV9 dc9 pm9 cd9 ct9 oc10 kV10 dc10 pm10 cd10 ct10 oc11 kV11 dc11 pm11 cd11 ct11 oc12 kV12 dc12 pm12 cd12 ct12 oc13 kV13 dc13 pm13 cd13 ct13 oc14 kV14 dc14 pm14 cd14 ct14 oc15 kV15 dc15 pm15 cd15 ct15 oc16 kV16 dc16 pm16 cd16 ct16 oc17 kV17 dc17 pm17 cd17 ct17 oc18 kV18 dc18 pm18 cd18 ct18 oc19 kV19 dc19 pm19 cd19 ct19 oc20 kV20 dc20 pm20 cd20 ct20 oc21 kV21 dc21 pm21 cd21 ct21 oc22 kV22 dc22 pm22 cd22 ct22 oc23 kV23 dc23 pm23 cd23 ct23 oc24 kV24 dc24 pm24 cd24 ct24 oc25 kV25 dc25 pm25 cd25 ct25 oc26 kV26 dc26 pm26 cd26 ct26 oc27 kV27 dc27 pm27 cd27 ct27 oc28 kV28 dc28 pm28 cd28 ct28 oc29 kV29 dc29 pm29 cd29 ct29:Value}
  (x0:PySem.W.nsIn K mainGlobals "way_named"=some (some (.ref a_way_named))) (l0:K.lookup a_way_named=some ⟨oc0,od0,.func (PySem.W.fnOf "way_named" "way_named" (aV bW) (au bW) (ak bW) .none kV0 dc0 pm0 an0 cd0 ct0),sl0⟩) (c0:PySem.W.codeIn K cd0 "way_named"=true) (k0:PySem.W.keepIn K (.ref a_way_named)=true)
  (x1:PySem.W.nsIn K mainGlobals "last_page"=some (some (.ref a_last_page))) (l1:K.lookup a_last_page=some ⟨oc1,od1,.func (PySem.W.fnOf "last_page" "last_page" (aV cg) (au cg) (ak cg) .none kV1 dc1 pm1 an1 cd1 ct1),sl1⟩) (c1:PySem.W.codeIn K cd1 "last_page"=true) (k1:PySem.W.keepIn K (.ref a_last_page)=true)
  (x2:PySem.W.nsIn K mainGlobals "reading"=some (some (.ref a_reading))) (l2:K.lookup a_reading=some ⟨oc2,od2,.func (PySem.W.fnOf "reading" "reading" (aV cU) (au cU) (ak cU) .none kV2 dc2 pm2 an2 cd2 ct2),sl2⟩) (c2:PySem.W.codeIn K cd2 "reading"=true) (k2:PySem.W.keepIn K (.ref a_reading)=true)
  (x3:PySem.W.nsIn K mainGlobals "rules_at"=some (some (.ref a_rules_at))) (l3:K.lookup a_rules_at=some ⟨oc3,od3,.func (PySem.W.fnOf "rules_at" "rules_at" (aV cE) (au cE) (ak cE) .none kV3 dc3 pm3 an3 cd3 ct3),sl3⟩) (c3:PySem.W.codeIn K cd3 "rules_at"=true) (k3:PySem.W.keepIn K (.ref a_rules_at)=true)
  (x4:PySem.W.nsIn K mainGlobals "looked_at"=some (some (.ref a_looked_at))) (l4:K.lookup a_looked_at=some ⟨oc4,od4,.func (PySem.W.fnOf "looked_at" "looked_at" (aV bX) (au bX) (ak bX) .none kV4 dc4 pm4 an4 cd4 ct4),sl4⟩) (c4:PySem.W.codeIn K cd4 "looked_at"=true) (k4:PySem.W.keepIn K (.ref a_looked_at)=true)
  (x5:PySem.W.nsIn K mainGlobals "post_holds"=some (some (.ref a_post_holds))) (l5:K.lookup a_post_holds=some ⟨oc5,od5,.func (PySem.W.fnOf "post_holds" "post_holds" (aV bM) (au bM) (ak bM) .none kV5 dc5 pm5 an5 cd5 ct5),sl5⟩) (c5:PySem.W.codeIn K cd5 "post_holds"=true) (k5:PySem.W.keepIn K (.ref a_post_holds)=true)
  (x6:PySem.W.nsIn K mainGlobals "look_holds"=some (some (.ref a_look_holds))) (l6:K.lookup a_look_holds=some ⟨oc6,od6,.func (PySem.W.fnOf "look_holds" "look_holds" (aV bO) (au bO) (ak bO) .none kV6 dc6 pm6 an6 cd6 ct6),sl6⟩) (c6:PySem.W.codeIn K cd6 "look_holds"=true) (k6:PySem.W.keepIn K (.ref a_look_holds)=true)
  (x7:PySem.W.nsIn K mainGlobals "holds_alone"=some (some (.ref a_holds_alone))) (l7:K.lookup a_holds_alone=some ⟨oc7,od7,.func (PySem.W.fnOf "holds_alone" "holds_alone" (aV bH) (au bH) (ak bH) .none kV7 dc7 pm7 an7 cd7 ct7),sl7⟩) (c7:PySem.W.codeIn K cd7 "holds_alone"=true) (k7:PySem.W.keepIn K (.ref a_holds_alone)=true)
  (x8:PySem.W.nsIn K mainGlobals "others_asked"=some (some (.ref a_others_asked))) (l8:K.lookup a_others_asked=some ⟨oc8,od8,.func (PySem.W.fnOf "others_asked" "others_asked" (aV bo) (au bo) (ak bo) .none kV8 dc8 pm8 an8 cd8 ct8),sl8⟩) (c8:PySem.W.codeIn K cd8 "others_asked"=true) (k8:PySem.W.keepIn K (.ref a_others_asked)=true)
  (x9:PySem.W.nsIn K mainGlobals "found_open"=some (some (.ref a_found_open))) (l9:K.lookup a_found_open=some ⟨oc9,od9,.func (PySem.W.fnOf "found_open" "found_open" (aV bF) (au bF) (ak bF) .none kV9 dc9 pm9 an9 cd9 ct9),sl9⟩) (c9:PySem.W.codeIn K cd9 "found_open"=true) (k9:PySem.W.keepIn K (.ref a_found_open)=true)
  (x10:PySem.W.nsIn K mainGlobals "open_ways"=some (some (.ref a_open_ways))) (l10:K.lookup a_open_ways=some ⟨oc10,od10,.func (PySem.W.fnOf "open_ways" "open_ways" (aV bN) (au bN) (ak bN) .none kV10 dc10 pm10 an10 cd10 ct10),sl10⟩) (c10:PySem.W.codeIn K cd10 "open_ways"=true) (k10:PySem.W.keepIn K (.ref a_open_ways)=true)
  (x11:PySem.W.nsIn K mainGlobals "why_shut"=some (some (.ref a_why_shut))) (l11:K.lookup a_why_shut=some ⟨oc11,od11,.func (PySem.W.fnOf "why_shut" "why_shut" (aV cD) (au cD) (ak cD) .none kV11 dc11 pm11 an11 cd11 ct11),sl11⟩) (c11:PySem.W.codeIn K cd11 "why_shut"=true) (k11:PySem.W.keepIn K (.ref a_why_shut)=true)
  (x12:PySem.W.nsIn K mainGlobals "_law_start"=some (some (.ref awstart))) (l12:K.lookup awstart=some ⟨oc12,od12,.func (PySem.W.fnOf "_law_start" "_law_start" (aV cV) (au cV) (ak cV) .none kV12 dc12 pm12 an12 cd12 ct12),sl12⟩) (c12:PySem.W.codeIn K cd12 "_law_start"=true) (k12:PySem.W.keepIn K (.ref awstart)=true)
  (x13:PySem.W.nsIn K mainGlobals "_law_pick"=some (some (.ref awpick))) (l13:K.lookup awpick=some ⟨oc13,od13,.func (PySem.W.fnOf "_law_pick" "_law_pick" (aV dO) (au dO) (ak dO) .none kV13 dc13 pm13 an13 cd13 ct13),sl13⟩) (c13:PySem.W.codeIn K cd13 "_law_pick"=true) (k13:PySem.W.keepIn K (.ref awpick)=true)
  (x14:PySem.W.nsIn K mainGlobals "_law_word"=some (some (.ref awword))) (l14:K.lookup awword=some ⟨oc14,od14,.func (PySem.W.fnOf "_law_word" "_law_word" (aV bI) (au bI) (ak bI) .none kV14 dc14 pm14 an14 cd14 ct14),sl14⟩) (c14:PySem.W.codeIn K cd14 "_law_word"=true) (k14:PySem.W.keepIn K (.ref awword)=true)
  (x15:PySem.W.nsIn K mainGlobals "_law_words"=some (some (.ref awwords))) (l15:K.lookup awwords=some ⟨oc15,od15,.func (PySem.W.fnOf "_law_words" "_law_words" (aV bY) (au bY) (ak bY) .none kV15 dc15 pm15 an15 cd15 ct15),sl15⟩) (c15:PySem.W.codeIn K cd15 "_law_words"=true) (k15:PySem.W.keepIn K (.ref awwords)=true)
  (x16:PySem.W.nsIn K mainGlobals "_law_hill"=some (some (.ref awhill))) (l16:K.lookup awhill=some ⟨oc16,od16,.func (PySem.W.fnOf "_law_hill" "_law_hill" (aV cm) (au cm) (ak cm) .none kV16 dc16 pm16 an16 cd16 ct16),sl16⟩) (c16:PySem.W.codeIn K cd16 "_law_hill"=true) (k16:PySem.W.keepIn K (.ref awhill)=true)
  (x17:PySem.W.nsIn K mainGlobals "_law_moment"=some (some (.ref awmoment))) (l17:K.lookup awmoment=some ⟨oc17,od17,.func (PySem.W.fnOf "_law_moment" "_law_moment" (aV bP) (au bP) (ak bP) .none kV17 dc17 pm17 an17 cd17 ct17),sl17⟩) (c17:PySem.W.codeIn K cd17 "_law_moment"=true) (k17:PySem.W.keepIn K (.ref awmoment)=true)
  (x18:PySem.W.nsIn K mainGlobals "_law_rule"=some (some (.ref awrule))) (l18:K.lookup awrule=some ⟨oc18,od18,.func (PySem.W.fnOf "_law_rule" "_law_rule" (aV cF) (au cF) (ak cF) .none kV18 dc18 pm18 an18 cd18 ct18),sl18⟩) (c18:PySem.W.codeIn K cd18 "_law_rule"=true) (k18:PySem.W.keepIn K (.ref awrule)=true)
  (x19:PySem.W.nsIn K mainGlobals "_law_number"=some (some (.ref awnumber))) (l19:K.lookup awnumber=some ⟨oc19,od19,.func (PySem.W.fnOf "_law_number" "_law_number" (aV bx) (au bx) (ak bx) .none kV19 dc19 pm19 an19 cd19 ct19),sl19⟩) (c19:PySem.W.codeIn K cd19 "_law_number"=true) (k19:PySem.W.keepIn K (.ref awnumber)=true)
  (x20:PySem.W.nsIn K mainGlobals "_law_pages"=some (some (.ref awpages))) (l20:K.lookup awpages=some ⟨oc20,od20,.func (PySem.W.fnOf "_law_pages" "_law_pages" (aV bG) (au bG) (ak bG) .none kV20 dc20 pm20 an20 cd20 ct20),sl20⟩) (c20:PySem.W.codeIn K cd20 "_law_pages"=true) (k20:PySem.W.keepIn K (.ref awpages)=true)
  (x21:PySem.W.nsIn K mainGlobals "_law_book"=some (some (.ref awbook))) (l21:K.lookup awbook=some ⟨oc21,od21,.func (PySem.W.fnOf "_law_book" "_law_book" (aV cn) (au cn) (ak cn) .none kV21 dc21 pm21 an21 cd21 ct21),sl21⟩) (c21:PySem.W.codeIn K cd21 "_law_book"=true) (k21:PySem.W.keepIn K (.ref awbook)=true)
  (x22:PySem.W.nsIn K mainGlobals "_law_page"=some (some (.ref awpage))) (l22:K.lookup awpage=some ⟨oc22,od22,.func (PySem.W.fnOf "_law_page" "_law_page" (aV bQ) (au bQ) (ak bQ) .none kV22 dc22 pm22 an22 cd22 ct22),sl22⟩) (c22:PySem.W.codeIn K cd22 "_law_page"=true) (k22:PySem.W.keepIn K (.ref awpage)=true)
  (x23:PySem.W.nsIn K mainGlobals "_law_holds"=some (some (.ref awholds))) (l23:K.lookup awholds=some ⟨oc23,od23,.func (PySem.W.fnOf "_law_holds" "_law_holds" (aV cf) (au cf) (ak cf) .none kV23 dc23 pm23 an23 cd23 ct23),sl23⟩) (c23:PySem.W.codeIn K cd23 "_law_holds"=true) (k23:PySem.W.keepIn K (.ref awholds)=true)
  (x24:PySem.W.nsIn K mainGlobals "_law_rules"=some (some (.ref awrules))) (l24:K.lookup awrules=some ⟨oc24,od24,.func (PySem.W.fnOf "_law_rules" "_law_rules" (aV bZ) (au bZ) (ak bZ) .none kV24 dc24 pm24 an24 cd24 ct24),sl24⟩) (c24:PySem.W.codeIn K cd24 "_law_rules"=true) (k24:PySem.W.keepIn K (.ref awrules)=true)
  (x25:PySem.W.nsIn K mainGlobals "_law_open"=some (some (.ref awopen))) (l25:K.lookup awopen=some ⟨oc25,od25,.func (PySem.W.fnOf "_law_open" "_law_open" (aV bR) (au bR) (ak bR) .none kV25 dc25 pm25 an25 cd25 ct25),sl25⟩) (c25:PySem.W.codeIn K cd25 "_law_open"=true) (k25:PySem.W.keepIn K (.ref awopen)=true)
  (x26:PySem.W.nsIn K mainGlobals "_law_why"=some (some (.ref awwhy))) (l26:K.lookup awwhy=some ⟨oc26,od26,.func (PySem.W.fnOf "_law_why" "_law_why" (aV cH) (au cH) (ak cH) .none kV26 dc26 pm26 an26 cd26 ct26),sl26⟩) (c26:PySem.W.codeIn K cd26 "_law_why"=true) (k26:PySem.W.keepIn K (.ref awwhy)=true)
  (x27:PySem.W.nsIn K mainGlobals "_law_right"=some (some (.ref awright))) (l27:K.lookup awright=some ⟨oc27,od27,.func (PySem.W.fnOf "_law_right" "_law_right" (aV cb) (au cb) (ak cb) .none kV27 dc27 pm27 an27 cd27 ct27),sl27⟩) (c27:PySem.W.codeIn K cd27 "_law_right"=true) (k27:PySem.W.keepIn K (.ref awright)=true)
  (x28:PySem.W.nsIn K mainGlobals "_law_six"=some (some (.ref awsix))) (l28:K.lookup awsix=some ⟨oc28,od28,.func (PySem.W.fnOf "_law_six" "_law_six" (aV cJ) (au cJ) (ak cJ) .none kV28 dc28 pm28 an28 cd28 ct28),sl28⟩) (c28:PySem.W.codeIn K cd28 "_law_six"=true) (k28:PySem.W.keepIn K (.ref awsix)=true)
  (x29:PySem.W.nsIn K mainGlobals "law"=some (some (.ref a_law))) (l29:K.lookup a_law=some ⟨oc29,od29,.func (PySem.W.fnOf "law" "law" (aV dP) (au dP) (ak dP) .none kV29 dc29 pm29 an29 cd29 ct29),sl29⟩) (c29:PySem.W.codeIn K cd29 "law"=true) (k29:PySem.W.keepIn K (.ref a_law)=true)
  (z0:PySem.W.nsIn K mainGlobals "len"=some none)
  (z1:PySem.W.nsIn K mainGlobals "abs"=some none)
  (z2:PySem.W.nsIn K mainGlobals "all"=some none)
  (z3:PySem.W.nsIn K mainGlobals "range"=some none)
  (z4:PySem.W.nsIn K mainGlobals "int"=some none)
  (z5:PySem.W.nsIn K mainGlobals "tuple"=some none)
  (z6:PySem.W.nsIn K mainGlobals "max"=some none)
  (z7:PySem.W.nsIn K mainGlobals "min"=some none)
  (z8:PySem.W.nsIn K mainGlobals "sorted"=some none)
  (z9:PySem.W.nsIn K mainGlobals "enumerate"=some none)
  (z10:PySem.W.nsIn K mainGlobals "reversed"=some none)
  (z11:PySem.W.nsIn K mainGlobals "repr"=some none)
  {ov21:Value} {oo21:Option Addr} {fv21:Array Value} {os21:Array (Option Value)} (tc21:cd21= .ref cb_law_book) (tv21:K.lookup cb_law_book=some ⟨ov21,oo21,.fields fv21,os21⟩) (tw21:fv21[11]?=some (Value.ref tb_law_book)) (tt21:PySem.W.tabIn K "_law_book"=some (cb_law_book,tb_law_book)) (th21:PySem.W.codeHdIn K cb_law_book tb_law_book=true) (tn21:K.lookup tb_law_book=none) (tr21:((recsOf q).find? fun r=>r.name==("_law_book":Str)).isSome=true)
  {ov22:Value} {oo22:Option Addr} {fv22:Array Value} {os22:Array (Option Value)} (tc22:cd22= .ref cb_law_page) (tv22:K.lookup cb_law_page=some ⟨ov22,oo22,.fields fv22,os22⟩) (tw22:fv22[11]?=some (Value.ref tb_law_page)) (tt22:PySem.W.tabIn K "_law_page"=some (cb_law_page,tb_law_page)) (th22:PySem.W.codeHdIn K cb_law_page tb_law_page=true) (tn22:K.lookup tb_law_page=none) (tr22:((recsOf q).find? fun r=>r.name==("_law_page":Str)).isSome=true) (tne_law_book_law_page:tb_law_book≠tb_law_page) (tne_law_page_law_book:tb_law_page≠tb_law_book):
  ∃ (fd:FuncData) (ts:List (Str×Addr×Addr)),(∀ e∈ts,PySem.W.tabIn K e.1=some e.2∧K.lookup e.2.2=none∧((recsOf q).find? fun r=>r.name==e.1).isSome=true)∧(∀ (s:Shared) (v:Value),BindsTo s fd ⟨[v],[]⟩ [("_law_script",v)])∧∀ base:Heap,K.In base→base.Ns mainGlobals mg→BIn base mg→FnOk l.prog w K mg base CX0 9 fa fd ["_law_script"] (gf K (ts.map (·.2.2))):=by
 subst tc21
 subst tc22
 have e:=hfa.symm.trans (PySem.W.mg_of X G x29)
 cases e
 have F0:=bh (st:=bW) l0 c0 k0
 have b0:=F0.binds (ps:=["hill","name"]) fun _ _ _ _ _ _ us hl=>by obtain⟨_,_,rfl⟩:=us2 hl;rfl
 have F1:=bh (st:=cg) l1 c1 k1
 have b1:=F1.binds (ps:=["book","kind","name","t"]) fun _ _ _ _ _ _ us hl=>by obtain⟨_,_,_,_,rfl⟩:=us4 hl;rfl
 have F2:=bh (st:=cU) l2 c2 k2
 have b2:=F2.binds (ps:=["book","post","t"]) fun _ _ _ _ _ _ us hl=>by obtain⟨_,_,_,rfl⟩:=us3 hl;rfl
 have F3:=bh (st:=cE) l3 c3 k3
 have b3:=F3.binds (ps:=["book","w","t"]) fun _ _ _ _ _ _ us hl=>by obtain⟨_,_,_,rfl⟩:=us3 hl;rfl
 have F4:=bh (st:=bX) l4 c4 k4
 have b4:=F4.binds (ps:=["book","w","t"]) fun _ _ _ _ _ _ us hl=>by obtain⟨_,_,_,rfl⟩:=us3 hl;rfl
 have F5:=bh (st:=bM) l5 c5 k5
 have b5:=F5.binds (ps:=["book","rule","t"]) fun _ _ _ _ _ _ us hl=>by obtain⟨_,_,_,rfl⟩:=us3 hl;rfl
 have F6:=bh (st:=bO) l6 c6 k6
 have b6:=F6.binds (ps:=["book","way","n","t"]) fun _ _ _ _ _ _ us hl=>by obtain⟨_,_,_,_,rfl⟩:=us4 hl;rfl
 have F7:=bh (st:=bH) l7 c7 k7
 have b7:=F7.binds (ps:=["book","way","rule","t"]) fun _ _ _ _ _ _ us hl=>by obtain⟨_,_,_,_,rfl⟩:=us4 hl;rfl
 have F8:=bh (st:=bo) l8 c8 k8
 have b8:=F8.binds (ps:=["book","way","t"]) fun _ _ _ _ _ _ us hl=>by obtain⟨_,_,_,rfl⟩:=us3 hl;rfl
 have F9:=bh (st:=bF) l9 c9 k9
 have b9:=F9.binds (ps:=["asked"]) fun _ _ _ _ _ _ us hl=>by obtain⟨_,rfl⟩:=us1 hl;rfl
 have F10:=bh (st:=bN) l10 c10 k10
 have b10:=F10.binds (ps:=["hill","book","t"]) fun _ _ _ _ _ _ us hl=>by obtain⟨_,_,_,rfl⟩:=us3 hl;rfl
 have F11:=bh (st:=cD) l11 c11 k11
 have b11:=F11.binds (ps:=["hill","book","w","t"]) fun _ _ _ _ _ _ us hl=>by obtain⟨_,_,_,_,rfl⟩:=us4 hl;rfl
 have F12:=bh (st:=cV) l12 c12 k12
 have b12:=F12.binds (ps:=["_law_script"]) fun _ _ _ _ _ _ us hl=>by obtain⟨_,rfl⟩:=us1 hl;rfl
 have F13:=bh (st:=dO) l13 c13 k13
 have b13:=F13.binds (ps:=["_law_state","_law_many"]) fun _ _ _ _ _ _ us hl=>by obtain⟨_,_,rfl⟩:=us2 hl;rfl
 have F14:=bh (st:=bI) l14 c14 k14
 have b14:=F14.binds (ps:=["_law_state","_law_taken"]) fun _ _ _ _ _ _ us hl=>by obtain⟨_,_,rfl⟩:=us2 hl;rfl
 have F15:=bh (st:=bY) l15 c15 k15
 have b15:=F15.binds (ps:=["_law_state","_law_many"]) fun _ _ _ _ _ _ us hl=>by obtain⟨_,_,rfl⟩:=us2 hl;rfl
 have F16:=bh (st:=cm) l16 c16 k16
 have b16:=F16.binds (ps:=["_law_state","_law_most","_law_scale"]) fun _ _ _ _ _ _ us hl=>by obtain⟨_,_,_,rfl⟩:=us3 hl;rfl
 have F17:=bh (st:=bP) l17 c17 k17
 have b17:=F17.binds (ps:=["_law_state","_law_hill_here","_law_scale"]) fun _ _ _ _ _ _ us hl=>by obtain⟨_,_,_,rfl⟩:=us3 hl;rfl
 have F18:=bh (st:=cF) l18 c18 k18
 have b18:=F18.binds (ps:=["_law_state","_law_hill_here","_law_posts","_law_scale"]) fun _ _ _ _ _ _ us hl=>by obtain⟨_,_,_,_,rfl⟩:=us4 hl;rfl
 have F19:=bh (st:=bx) l19 c19 k19
 have b19:=F19.binds (ps:=["_law_state","_law_taken"]) fun _ _ _ _ _ _ us hl=>by obtain⟨_,_,rfl⟩:=us2 hl;rfl
 have F20:=bh (st:=bG) l20 c20 k20
 have b20:=F20.binds (ps:=["_law_state","_law_hill_here","_law_scale","_law_many"]) fun _ _ _ _ _ _ us hl=>by obtain⟨_,_,_,_,rfl⟩:=us4 hl;rfl
 have F21:=bh (st:=cn) l21 c21 k21
 have b21:=F21.binds (ps:=["_law_pages_here"]) fun _ _ _ _ _ _ us hl=>by obtain⟨_,rfl⟩:=us1 hl;rfl
 have F22:=bh (st:=bQ) l22 c22 k22
 have b22:=F22.binds (ps:=["_law_pages_here","_law_kind","_law_name","_law_t"]) fun _ _ _ _ _ _ us hl=>by obtain⟨_,_,_,_,rfl⟩:=us4 hl;rfl
 have F23:=bh (st:=cf) l23 c23 k23
 have b23:=F23.binds (ps:=["_law_pages_here","_law_name","_law_rule_here","_law_t","_law_opened"]) fun _ _ _ _ _ _ us hl=>by obtain⟨_,_,_,_,_,rfl⟩:=us5 hl;rfl
 have F24:=bh (st:=bZ) l24 c24 k24
 have b24:=F24.binds (ps:=["_law_pages_here","_law_name","_law_t"]) fun _ _ _ _ _ _ us hl=>by obtain⟨_,_,_,rfl⟩:=us3 hl;rfl
 have F25:=bh (st:=bR) l25 c25 k25
 have b25:=F25.binds (ps:=["_law_hill_here","_law_pages_here","_law_t"]) fun _ _ _ _ _ _ us hl=>by obtain⟨_,_,_,rfl⟩:=us3 hl;rfl
 have F26:=bh (st:=cH) l26 c26 k26
 have b26:=F26.binds (ps:=["_law_hill_here","_law_pages_here","_law_w","_law_t"]) fun _ _ _ _ _ _ us hl=>by obtain⟨_,_,_,_,rfl⟩:=us4 hl;rfl
 have F27:=bh (st:=cb) l27 c27 k27
 have b27:=F27.binds (ps:=["_law_hill_here","_law_pages_here","_law_t"]) fun _ _ _ _ _ _ us hl=>by obtain⟨_,_,_,rfl⟩:=us3 hl;rfl
 have F28:=bh (st:=cJ) l28 c28 k28
 have b28:=F28.binds (ps:=["_law_state","_law_hill_here"]) fun _ _ _ _ _ _ us hl=>by obtain⟨_,_,rfl⟩:=us2 hl;rfl
 have F29:=bh (st:=dP) l29 c29 k29
 have b29:=F29.binds (ps:=["_law_script"]) fun _ _ _ _ _ _ us hl=>by obtain⟨_,rfl⟩:=us1 hl;rfl
 have T:Txt K mg _ _ _ _ _ _ _ _ _ _ _ _ _ _ _ _ _ _ _ _ _ _ _ _ _ _ _ _ _ _ cb_law_book tb_law_book cb_law_page tb_law_page _ _ _ _ _ _ _ _ _ _ _ _ _ _ _ _ _ _ _ _ _ _ _ _ _ _ _ _ _ _:=⟨F0,PySem.W.mg_of X G x0,b0,F1,PySem.W.mg_of X G x1,b1,F2,PySem.W.mg_of X G x2,b2,F3,PySem.W.mg_of X G x3,b3,F4,PySem.W.mg_of X G x4,b4,F5,PySem.W.mg_of X G x5,b5,F6,PySem.W.mg_of X G x6,b6,F7,PySem.W.mg_of X G x7,b7,F8,PySem.W.mg_of X G x8,b8,F9,PySem.W.mg_of X G x9,b9,F10,PySem.W.mg_of X G x10,b10,F11,PySem.W.mg_of X G x11,b11,F12,PySem.W.mg_of X G x12,b12,F13,PySem.W.mg_of X G x13,b13,F14,PySem.W.mg_of X G x14,b14,F15,PySem.W.mg_of X G x15,b15,F16,PySem.W.mg_of X G x16,b16,F17,PySem.W.mg_of X G x17,b17,F18,PySem.W.mg_of X G x18,b18,F19,PySem.W.mg_of X G x19,b19,F20,PySem.W.mg_of X G x20,b20,F21,PySem.W.mg_of X G x21,b21,F22,PySem.W.mg_of X G x22,b22,F23,PySem.W.mg_of X G x23,b23,F24,PySem.W.mg_of X G x24,b24,F25,PySem.W.mg_of X G x25,b25,F26,PySem.W.mg_of X G x26,b26,F27,PySem.W.mg_of X G x27,b27,F28,PySem.W.mg_of X G x28,b28,F29,PySem.W.mg_of X G x29,b29,PySem.W.mg_none_of X G z0,PySem.W.mg_none_of X G z1,PySem.W.mg_none_of X G z2,PySem.W.mg_none_of X G z3,PySem.W.mg_none_of X G z4,PySem.W.mg_none_of X G z5,PySem.W.mg_none_of X G z6,PySem.W.mg_none_of X G z7,PySem.W.mg_none_of X G z8,PySem.W.mg_none_of X G z9,PySem.W.mg_none_of X G z10,PySem.W.mg_none_of X G z11,⟨⟨_,_,_,_,_,_,_,_,rfl,l21,c21⟩,th21⟩,⟨⟨_,_,_,_,_,_,_,_,rfl,l22,c22⟩,th22⟩,tne_law_book_law_page,tne_law_page_law_book⟩
 refine⟨PySem.W.fnOf "law" "law" (aV dP) (au dP) (ak dP) .none kV29 dc29 pm29 an29 cd29 ct29,[("_law_book",cb_law_book,tb_law_book),("_law_page",cb_law_page,tb_law_page)],?_,fun s v=>.of_eq rfl,fun base kb _ hB=>?_⟩
 ·intro e he
  simp only[List.mem_cons,List.not_mem_nil,or_false] at he
  rcases he with rfl|rfl
  ·exact⟨tt21,tn21,tr21⟩
  ·exact⟨tt22,tn22,tr22⟩
 show FnOk _ _ _ _ _ _ _ _ _ _ (gf K [tb_law_book,tb_law_page])
 have G_law_pick:=rO (φ:=aO tb_law_book tb_law_page K) (vp (P:=l.prog) (w:=w) (base:=base) T)
 have G_law_start:=sV (P:=l.prog) (w:=w) (base:=base) T
 have G_way_named:=mC (P:=l.prog) (w:=w) (base:=base) T
 have G_last_page:=mK (P:=l.prog) (w:=w) (base:=base) T
 have G_reading:=pW (P:=l.prog) (w:=w) (base:=base) T G_last_page
 have G_rules_at:=nY (P:=l.prog) (w:=w) (base:=base) T G_last_page
 have G_looked_at:=mE (P:=l.prog) (w:=w) (base:=base) T G_last_page
 have G_post_holds:=ll (P:=l.prog) (w:=w) (base:=base) T G_reading
 have G_look_holds:=lq (P:=l.prog) (w:=w) (base:=base) T G_looked_at
 have G_holds_alone:=j3 (P:=l.prog) (w:=w) (base:=base) T G_post_holds G_look_holds
 have G_others_asked:=jx (P:=l.prog) (w:=w) (base:=base) T G_rules_at G_holds_alone
 have G_found_open:=lx (P:=l.prog) (w:=w) (base:=base) T
 have G_open_ways:=mD (P:=l.prog) (w:=w) (base:=base) T G_found_open G_others_asked
 have G_why_shut:=nX (P:=l.prog) (w:=w) (base:=base) T G_way_named G_open_ways G_rules_at G_holds_alone
 have G_law_word:=nZ (P:=l.prog) (w:=w) (base:=base) T G_law_pick
 have G_law_words:=mF (P:=l.prog) (w:=w) (base:=base) T G_law_word
 have G_law_hill:=oe (P:=l.prog) (w:=w) (base:=base) T G_law_words G_law_pick
 have G_law_moment:=lu (P:=l.prog) (w:=w) (base:=base) T G_law_pick
 have G_law_rule:=n6 (P:=l.prog) (w:=w) (base:=base) T G_law_pick
 have G_law_number:=lr (P:=l.prog) (w:=w) (base:=base) T G_law_pick
 have G_law_pages:=mI (P:=l.prog) (w:=w) (base:=base) T G_law_words G_law_pick G_law_moment G_law_number G_law_rule
 have G_law_book:=og (P:=l.prog) (w:=w) (base:=base) T kb hB
 have G_law_page:=n8 (P:=l.prog) (w:=w) (base:=base) T kb hB
 have G_law_holds:=mJ (P:=l.prog) (w:=w) (base:=base) T G_law_page
 have G_law_rules:=mG (P:=l.prog) (w:=w) (base:=base) T G_law_page
 have G_law_open:=n9 (P:=l.prog) (w:=w) (base:=base) T G_law_rules G_law_holds
 have G_law_why:=pX (P:=l.prog) (w:=w) (base:=base) T G_law_open G_law_rules G_law_holds
 have G_law_right:=mH (P:=l.prog) (w:=w) (base:=base) T G_law_book G_open_ways G_law_why G_why_shut
 have G_law_six:=pY (P:=l.prog) (w:=w) (base:=base) T G_law_pick
 exact xa T G_law_start G_law_hill G_law_six G_law_pages G_law_pick G_law_right tI
theorem walk {l:PySem.W.OpenLaw} {q:Program} {loose:List Str} {XP:(Str→Option Value)→Heap→Prop} {YP:World→Heap→Prop} {d:DefRec} {K:Params→PySem.W.Frag} (hn:l.most=some 63) (hdf:d.params.defaults=[])
  (hY: ∀ (w:World) (h:Heap),YP w h→(K w.params).In h)
  (F: ∀ (w:World) (mg:Str→Option Value) (fa:Addr) (h:Heap),(K w.params).In h→h.Ns mainGlobals mg→mg d.name=some (.ref fa)→
   ∃ (fd:FuncData) (ts:List (Str×Addr×Addr)),(∀ e∈ts,PySem.W.tabIn (K w.params) e.1=some e.2∧(K w.params).lookup e.2.2=none∧((recsOf q).find? fun r=>r.name==e.1).isSome=true)∧(∀ (s:Shared) (u:Value),BindsTo s fd ⟨[u],[]⟩ [("_law_script",u)])∧
    ∀ base:Heap,(K w.params).In base→base.Ns mainGlobals mg→BIn base mg→FnOk l.prog w (K w.params) mg base CX0 9 fa fd ["_law_script"] (gf (K w.params) (ts.map (·.2.2)))):
  PySem.W.WalkO q loose XP YP l.row.toRowW d [] (fun f vs=>PySem.call f vs):=
 L2.walk_tabs (n:=63) (k:=9) (x:="_law_script") (CX:=fun _=>CX0) (sp:=fun w tbs=>gf (K w.params) tbs) hn (by decide) hdf ⟨rfl,by decide,by decide,rfl⟩ hY F (fun _ _ a ns tbs hl ht hS=>⟨a,ns,rfl,hS,hl,ht,fun _=>rfl⟩) fun _ _ _ _ _ z=>z
end K11
end
open PySem PySem.W PyProof.Rows
set_option maxRecDepth 100000 in
set_option maxHeartbeats 0 in
theorem PySem.Challenge.cw_homeslopes_k11_the_first_rule_holds : PySem.Challenge.rw_homeslopes_k11_the_first_rule.Holds := by
 w_on;o_law;k_head;(case hw=>w_witness2)
 k_fill
 refine K11.walk (l:=PySem.Challenge.rw_homeslopes_k11_the_first_rule) rfl rfl (fun w h Y=>PySem.W.km_in_of Y) ?F
 case F=>
  intro w mg fa h KX G hmg
  refine' K11.all_mk KX G hmg ?x0 ?l0 ?c0 ?k0 ?x1 ?l1 ?c1 ?k1 ?x2 ?l2 ?c2 ?k2 ?x3 ?l3 ?c3 ?k3 ?x4 ?l4 ?c4 ?k4 ?x5 ?l5 ?c5 ?k5 ?x6 ?l6 ?c6 ?k6 ?x7 ?l7 ?c7 ?k7 ?x8 ?l8 ?c8 ?k8 ?x9 ?l9 ?c9 ?k9 ?x10 ?l10 ?c10 ?k10 ?x11 ?l11 ?c11 ?k11 ?x12 ?l12 ?c12 ?k12 ?x13 ?l13 ?c13 ?k13 ?x14 ?l14 ?c14 ?k14 ?x15 ?l15 ?c15 ?k15 ?x16 ?l16 ?c16 ?k16 ?x17 ?l17 ?c17 ?k17 ?x18 ?l18 ?c18 ?k18 ?x19 ?l19 ?c19 ?k19 ?x20 ?l20 ?c20 ?k20 ?x21 ?l21 ?c21 ?k21 ?x22 ?l22 ?c22 ?k22 ?x23 ?l23 ?c23 ?k23 ?x24 ?l24 ?c24 ?k24 ?x25 ?l25 ?c25 ?k25 ?x26 ?l26 ?c26 ?k26 ?x27 ?l27 ?c27 ?k27 ?x28 ?l28 ?c28 ?k28 ?x29 ?l29 ?c29 ?k29 ?z0 ?z1 ?z2 ?z3 ?z4 ?z5 ?z6 ?z7 ?z8 ?z9 ?z10 ?z11 ?tc21 ?tv21 ?tw21 ?tt21 ?th21 ?tn21 ?tr21 ?tc22 ?tv22 ?tw22 ?tt22 ?th22 ?tn22 ?tr22 ?tne_law_book_law_page ?tne_law_page_law_book
  (case x0=>k_is);(case l0=>k_is);(case c0=>k_is);(case k0=>k_is)
  (case x1=>k_is);(case l1=>k_is);(case c1=>k_is);(case k1=>k_is)
  (case x2=>k_is);(case l2=>k_is);(case c2=>k_is);(case k2=>k_is)
  (case x3=>k_is);(case l3=>k_is);(case c3=>k_is);(case k3=>k_is)
  (case x4=>k_is);(case l4=>k_is);(case c4=>k_is);(case k4=>k_is)
  (case x5=>k_is);(case l5=>k_is);(case c5=>k_is);(case k5=>k_is)
  (case x6=>k_is);(case l6=>k_is);(case c6=>k_is);(case k6=>k_is)
  (case x7=>k_is);(case l7=>k_is);(case c7=>k_is);(case k7=>k_is)
  (case x8=>k_is);(case l8=>k_is);(case c8=>k_is);(case k8=>k_is)
  (case x9=>k_is);(case l9=>k_is);(case c9=>k_is);(case k9=>k_is)
  (case x10=>k_is);(case l10=>k_is);(case c10=>k_is);(case k10=>k_is)
  (case x11=>k_is);(case l11=>k_is);(case c11=>k_is);(case k11=>k_is)
  (case x12=>k_is);(case l12=>k_is);(case c12=>k_is);(case k12=>k_is)
  (case x13=>k_is);(case l13=>k_is);(case c13=>k_is);(case k13=>k_is)
  (case x14=>k_is);(case l14=>k_is);(case c14=>k_is);(case k14=>k_is)
  (case x15=>k_is);(case l15=>k_is);(case c15=>k_is);(case k15=>k_is)
  (case x16=>k_is);(case l16=>k_is);(case c16=>k_is);(case k16=>k_is)
  (case x17=>k_is);(case l17=>k_is);(case c17=>k_is);(case k17=>k_is)
  (case x18=>k_is);(case l18=>k_is);(case c18=>k_is);(case k18=>k_is)
  (case x19=>k_is);(case l19=>k_is);(case c19=>k_is);(case k19=>k_is)
  (case x20=>k_is);(case l20=>k_is);(case c20=>k_is);(case k20=>k_is)
  (case x21=>k_is);(case l21=>k_is);(case c21=>k_is);(case k21=>k_is)
  (case x22=>k_is);(case l22=>k_is);(case c22=>k_is);(case k22=>k_is)
  (case x23=>k_is);(case l23=>k_is);(case c23=>k_is);(case k23=>k_is)
  (case x24=>k_is);(case l24=>k_is);(case c24=>k_is);(case k24=>k_is)
  (case x25=>k_is);(case l25=>k_is);(case c25=>k_is);(case k25=>k_is)
  (case x26=>k_is);(case l26=>k_is);(case c26=>k_is);(case k26=>k_is)
  (case x27=>k_is);(case l27=>k_is);(case c27=>k_is);(case k27=>k_is)
  (case x28=>k_is);(case l28=>k_is);(case c28=>k_is);(case k28=>k_is)
  (case x29=>k_is);(case l29=>k_is);(case c29=>k_is);(case k29=>k_is)
  (case z0=>k_is)
  (case z1=>k_is)
  (case z2=>k_is)
  (case z3=>k_is)
  (case z4=>k_is)
  (case z5=>k_is)
  (case z6=>k_is)
  (case z7=>k_is)
  (case z8=>k_is)
  (case z9=>k_is)
  (case z10=>k_is)
  (case z11=>k_is)
  (case tc21=>rfl);(case tv21=>k_is);(case tw21=>rfl);(case tt21=>kernel_rfl);(case th21=>kernel_rfl);(case tn21=>kernel_rfl);(case tr21=>rfl)
  (case tc22=>rfl);(case tv22=>k_is);(case tw22=>rfl);(case tt22=>kernel_rfl);(case th22=>kernel_rfl);(case tn22=>kernel_rfl);(case tr22=>rfl)
  (case tne_law_book_law_page=>decide)
  (case tne_law_page_law_book=>decide)
