import PyProof.Rows.All
import PyProof.StrLawsIdx
import Wide.All
import OpenK.AllK
import Wide.FinOn
import Lean
import PyProof.EqAt
import PyProof.EqKinds
import PyProof.TupleCall
import PyProof.NeKinds
import PySem.Challenge.RW_homeslopes_k45_follows
set_option Elab.async false
set_option linter.all false
set_option maxRecDepth 100000
set_option maxHeartbeats 4000000
set_option genSizeOf false
set_option genInjectivity false
noncomputable section
open PySem PySem.Spec PyProof.Rows
section
namespace L2
open PySem PySem.Spec PyProof.Rows
abbrev Key:=Sum Int Str
noncomputable def keyIs:Key→Value→Bool
 | .inl k,v=>Value.isInt k v
 | .inr x,v=>Value.isStrOf x v
noncomputable def keyH (w:World):Key→Int
 | .inl k=>hashInt k
 | .inr x=>hashStr w x
theorem keyIs_shape: ∀ {k:Key} {v:Value},keyIs k v=true→(∃ i t,k=Sum.inl i∧v=Value.int i t)∨(∃ x t,k=Sum.inr x∧v=Value.str x t)
 | .inl i,v,h=>by
  obtain⟨t,e⟩:=Value.isInt_shape (k:=i) (v:=v) h
  exact .inl ⟨i,t,rfl,e⟩
 | .inr x,v,h=>by
  obtain⟨t,e⟩:=Value.isStrOf_shape (x:=x) (v:=v) h
  exact .inr ⟨x,t,rfl,e⟩
theorem keyIs_int (i:Int) (t:Tok):keyIs (.inl i) (.int i t)=true:=by simp[keyIs,Value.isInt]
theorem keyIs_str (x:Str) (t:Tok):keyIs (.inr x) (.str x t)=true:=by simp[keyIs,Value.isStrOf]
theorem key_ll (a b:Int):decide ((Sum.inl a:Key)=Sum.inl b)=(a==b):=by
 by_cases e:a=b
 ·subst e;simp
 ·have h: ¬ (Sum.inl a:Key)=Sum.inl b:=fun q=>e (Sum.inl.inj q)
  rw[decide_eq_false h]
  exact(beq_eq_false_iff_ne.mpr e).symm
theorem key_rr (a b:Str):decide ((Sum.inr a:Key)=Sum.inr b)=decide (a=b):=by
 by_cases e:a=b
 ·subst e;simp
 ·have h: ¬ (Sum.inr a:Key)=Sum.inr b:=fun q=>e (Sum.inr.inj q)
  rw[decide_eq_false h,decide_eq_false e]
theorem key_lr (a:Int) (b:Str):decide ((Sum.inl a:Key)=Sum.inr b)=false:=decide_eq_false (fun q=>nomatch q)
theorem key_rl (a:Str) (b:Int):decide ((Sum.inr a:Key)=Sum.inl b)=false:=decide_eq_false (fun q=>nomatch q)
noncomputable def mixKind (prog:Program) (w:World):PySem.KeyKind prog w Key where
 is:=keyIs
 hash:=keyH w
 inj:=fun v a b ha hb=>by
  rcases keyIs_shape ha with⟨i,t,rfl,rfl⟩|⟨x,t,rfl,rfl⟩
  ·rcases keyIs_shape hb with⟨j,u,rfl,e⟩|⟨y,u,rfl,e⟩
   ·injection e with e1 _;rw[e1]
   ·exact nomatch e
  ·rcases keyIs_shape hb with⟨j,u,rfl,e⟩|⟨y,u,rfl,e⟩
   ·exact nomatch e
   ·injection e with e1 _;rw[e1]
 byValue:=fun k v h=>by
  rcases keyIs_shape h with⟨i,t,rfl,rfl⟩|⟨x,t,rfl,rfl⟩<;>rfl
 pyHash:=fun hv h=>by
  rcases keyIs_shape hv with⟨i,t,rfl,rfl⟩|⟨x,t,rfl,rfl⟩
  ·exact wpAny_pyHash_int h
  ·exact wpAny_pyHash_str h
 eqBool:=fun hu hv h=>by
  rcases keyIs_shape hu with⟨i,t,rfl,rfl⟩|⟨x,t,rfl,rfl⟩
  ·rcases keyIs_shape hv with⟨j,u,rfl,rfl⟩|⟨y,u,rfl,rfl⟩
   ·rw[key_ll] at h;exact wpAny_eqBool_int h
   ·rw[key_lr] at h;exact SeqAt.EqAt.int_str i t y u _ _ _ _ h
  ·rcases keyIs_shape hv with⟨j,u,rfl,rfl⟩|⟨y,u,rfl,rfl⟩
   ·rw[key_rl] at h;exact SeqAt.EqAt.str_int x t j u _ _ _ _ h
   ·rw[key_rr] at h;exact wpAny_eqBool_str h
 «strs»:=fun k x t v h=>by
  rcases keyIs_shape h with⟨i,u,rfl,e⟩|⟨y,u,rfl,e⟩
  ·exact nomatch e
  ·injection e with e1 _
   subst e1
   cases v<;>rfl
theorem mixKind_int (prog:Program) (w:World) (i:Int) (t:Tok):(mixKind prog w).is (.inl i) (.int i t)=true:=keyIs_int i t
theorem mixKind_str (prog:Program) (w:World) (x:Str) (t:Tok):(mixKind prog w).is (.inr x) (.str x t)=true:=keyIs_str x t
end L2
namespace L2
open PySem PySem.Spec PyProof.Rows
set_option genInjectivity true in
inductive V where
 |non|bl (b:Bool)|int (i:Int)|str (x:Str)|byt (b:Array UInt8)|flt (b:UInt64)|ref (a:Addr)|ty (n:String)
 deriving DecidableEq
noncomputable def RelV:V→Value→Prop
 | .non,u=>u=Value.none
 | .bl b,u=>u=Value.bool b
 | .int i,u=> ∃ t,u=Value.int i t
 | .str x,u=> ∃ t,u=Value.str x t
 | .byt b,u=> ∃ t,u=Value.bytes b t
 | .flt b,u=> ∃ t,u=Value.float b t
 | .ref a,u=>u=Value.ref a
 | .ty n,u=>u=Value.type n
abbrev Vals:List V→List Value→Prop:=Paired RelV
theorem Vals.length {xs:List V} {us:List Value} (r:Vals xs us):xs.length=us.length:=Paired.length r
theorem Vals.get: ∀ {xs:List V} {us:List Value} {i:Nat} {x:V},Vals xs us→xs[i]?=some x→∃ u,us[i]?=some u∧RelV x u
 |_,_,_,_,.nil,e=>by simp at e
 |_,_,0,_,.cons r _,e=>by simp at e;subst e;exact⟨_,rfl,r⟩
 |_,_,i+1,x,.cons _ t,e=>by
  obtain⟨u,h1,h2⟩:=Vals.get (i:=i) (x:=x) t (by simpa using e)
  exact⟨u,by simpa using h1,h2⟩
theorem Vals.set (r:RelV x u): ∀ {xs:List V} {us:List Value} (i:Nat),Vals xs us→Vals (xs.set i x) (us.set i u)
 |_,_,_,.nil=>.nil
 |_,_,0,.cons _ t=>.cons r t
 |_,_,i+1,.cons q t=>.cons q (Vals.set r i t)
theorem Vals.append: ∀ {xs ys:List V} {us ws:List Value},Vals xs us→Vals ys ws→Vals (xs++ys) (us++ws)
 |_,_,_,_,.nil,s=>s
 |_,_,_,_,.cons r t,s=>.cons r (Vals.append t s)
theorem Vals.take: ∀ {xs:List V} {us:List Value} (n:Nat),Vals xs us→Vals (xs.take n) (us.take n)
 |_,_,0,_=>.nil
 |_,_,_+1,.nil=>.nil
 |_,_,n+1,.cons r t=>.cons r (Vals.take n t)
theorem Vals.drop: ∀ {xs:List V} {us:List Value} (n:Nat),Vals xs us→Vals (xs.drop n) (us.drop n)
 |_,_,0,r=>r
 |_,_,_+1,.nil=>.nil
 |_,_,n+1,.cons _ t=>Vals.drop n t
noncomputable def RelO:Option V→Option Value→Prop
 |some v,some u=>RelV v u
 |none,none=>True
 |_,_=>False
noncomputable def KV {κ:Type}:List (κ×V)→List (κ×Value)→Prop:=Paired fun (p:κ×V) (q:κ×Value)=>p.1=q.1∧RelV p.2 q.2
noncomputable def kV:Key→V
 | .inl i=>.int i
 | .inr x=>.str x
inductive HO where
  |lst (xs:List V)
  |tup (xs:List V)
  |dK (kvs:List (Key×V))|dT (kvs:List (List Key×V))
  |set (S:Int→Bool) (n:Nat)
  |ins (C dx:Addr) (fs:List (Str×V))
  |own (x:Addr)
  |xd (fs:List (Str×V))
  |met (f x:Addr)
  |rng (lo hi:Int)
  |frz (o:Obj) (u:HO)
  |tbl (ps:Array Value)
  |ext (φ:Heap→Prop)
abbrev Hp:=Addr→Option HO
noncomputable def upd (H:Hp) (a:Addr) (o:HO):Hp:=fun b=>if b=a then some o else H b
theorem upd_same:upd H a o a=some o:=by unfold upd;rw[if_pos rfl]
theorem upd_ne (h:b≠a):upd H a o b=H b:=by unfold upd;rw[if_neg h]
theorem ne_of {H:Hp} (h:H a=some o) (h':H b=some u) (d:o≠u):a≠b:=by
 intro e;subst e;rw[h] at h';exact d (Option.some.inj h')
theorem ne_of_none {H:Hp} (h:H a=some o) (h':H b=none):a≠b:=by
 intro e;subst e;rw[h] at h';cases h'
section
variable (P:Program) (w:World)
noncomputable def ObjOk (H:Hp) (h:Heap) (a:Addr):HO→Prop
 | .lst xs=>xs.length≤sizeLine∧∃ (its:List Value) (n:Nat),Vals xs its∧h.get? a=some {cls:=.type "list",data:=.seq its.toArray n}
 | .tup xs=>xs.length≤sizeLine∧∃ its:List Value,Vals xs its∧IsTup h a its.toArray
 | .dK kvs=>kvs.length≤sizeLine∧(a==sysModules)=false∧∃ vs,KV kvs vs∧h.DictOf (mixKind P w) a vs
 | .dT kvs=>kvs.length≤sizeLine∧(a==sysModules)=false∧∃ xs:List (List Key×Addr×Value),
   Paired (fun (p:List Key×V) (q:List Key×Addr×Value)=>p.1=q.1∧H q.2.1=some (.tup (p.1.map kV))∧RelV p.2 q.2.2) kvs xs∧
   ∃ o es ep,h.get? a=some o∧o.ExactDict∧o.data= .dict es ep∧es.toList=xs.map (entryOfKey (tupleKind (mixKind P w)))∧(xs.map (·.1)).Nodup
 | .set S n=>h.SetOf (intKind P w) a S n
 | .ins C dx fs=>H dx=some (.own a)∧fs.length≤1000∧dx≠a∧h.get? a=some (PySem.W.instObj C dx)∧
   ∃ mA,h.Ns1 dx mA∧(∀ f,RelO (fs.lookup f) (mA f))∧PySem.Within mA (fs.map (·.1))
 | .own _=> ∃ o,h.get? a=some o
 | .xd fs=> ∃ mA,h.Ns1 a mA∧∀ f,RelO (fs.lookup f) (mA f)
 | .rng lo hi=> ∃ t u v,h.get? a=some {cls:=.type "range",data:=.fields #[.int lo t,.int hi u,.int 1 v]}
 | .frz o u=>h.get? a=some o∧ObjOk H h a u
 | .tbl ps=>h.get? a=some {cls:=.none,data:=.fields ps}
 | .met f x=>h.get? a=some (PySem.W.methodObj (.ref f) (.ref x))
 | .ext φ=>φ h∧(∃ o,h.get? a=some o)∧∀ h1 h2:Heap,φ h1→(∀ o,h1.get? a=some o→h2.get? a=some o)→φ h2
def HOk (H:Hp) (h:Heap):Prop:= ∀ a o,H a=some o→ObjOk P w H h a o
end
section
variable {P:Program} {w:World} {H H':Hp} {h h':Heap} {a:Addr} {o:HO}
theorem ObjOk.lt (x:ObjOk P w H h a o):a < h.objs.size:=by
 cases o with
 |lst xs=>obtain⟨_,_,_,_,e⟩:=x;exact Heap.lt_size e
 |tup xs=>obtain⟨_,_,_,p⟩:=x;exact p.lt
 |dK kvs=>obtain⟨_,_,_,_,o,_,_,e,_⟩:=x;exact Heap.lt_size e
 |dT kvs=>obtain⟨_,_,_,_,o,_,_,e,_⟩:=x;exact Heap.lt_size e
 |set S n=>obtain⟨o,_,_,_,e,_⟩:=x;exact Heap.lt_size e
 |ins C dx fs=>obtain⟨_,_,_,e,_⟩:=x;exact Heap.lt_size e
 |own y=>obtain⟨_,e⟩:=x;exact Heap.lt_size e
 |xd fs=>obtain⟨_,⟨_,_,_,e,_⟩,_⟩:=x;exact Heap.lt_size e
 |rng lo hi=>obtain⟨_,_,_,e⟩:=x;exact Heap.lt_size e
 |frz ob u=>obtain⟨e,_⟩:=x;exact Heap.lt_size e
 |tbl ps=>exact Heap.lt_size (show h.get? a=some _ from x)
 |met f y=>exact Heap.lt_size (show h.get? a=some _ from x)
 |ext φ=>obtain⟨_,⟨_,e⟩,_⟩:=x;exact Heap.lt_size e
theorem Paired.mapP: ∀ {l₁:List α} {l₂:List β},Paired F l₁ l₂→(∀ a b,F a b→G a b)→Paired G l₁ l₂
 |_,_,.nil,_=>.nil
 |_,_,.cons r t,f=>.cons (f _ _ r) (Paired.mapP t f)
theorem ObjOk.stay (x:ObjOk P w H h a o) (k: ∀ b u,(b=a∨H b=some (.own a))→h.get? b=some u→h'.get? b=some u)
  (ho: ∀ b,H b=some (.own a)→H' b=some (.own a)) (ht: ∀ b xs,H b=some (.tup xs)→H' b=some (.tup xs)):ObjOk P w H' h' a o:=by
 induction o with
 |lst xs=>obtain⟨z,its,n,r,e⟩:=x;exact⟨z,its,n,r,k _ _ (.inl rfl) e⟩
 |tup xs=>obtain⟨z,its,r,ob,e,c⟩:=x;exact⟨z,its,r,ob,k _ _ (.inl rfl) e,c⟩
 |dK kvs=>obtain⟨z,y,vs,r,ob,es,ep,e,c⟩:=x;exact⟨z,y,vs,r,ob,es,ep,k _ _ (.inl rfl) e,c⟩
 |dT kvs=>
  obtain⟨z,y,xs,r,ob,es,ep,e,c⟩:=x
  exact⟨z,y,xs,Paired.mapP r fun p q z=>⟨z.1,ht _ _ z.2.1,z.2.2⟩,ob,es,ep,k _ _ (.inl rfl) e,c⟩
 |set S n=>obtain⟨ob,es,ep,t,e,c⟩:=x;exact⟨ob,es,ep,t,k _ _ (.inl rfl) e,c⟩
 |ins C dx fs=>
  obtain⟨d,z,ne,e,mA,⟨od,es,ep,e2,c⟩,r⟩:=x
  exact⟨ho _ d,z,ne,k _ _ (.inl rfl) e,mA,⟨od,es,ep,k _ _ (.inr d) e2,c⟩,r⟩
 |own y=>obtain⟨ob,e⟩:=x;exact⟨ob,k _ _ (.inl rfl) e⟩
 |xd fs=>obtain⟨mA,⟨od,es,ep,e,c⟩,r⟩:=x;exact⟨mA,⟨od,es,ep,k _ _ (.inl rfl) e,c⟩,r⟩
 |rng lo hi=>obtain⟨t,u,v,e⟩:=x;exact⟨t,u,v,k _ _ (.inl rfl) e⟩
 |frz ob u ih=>obtain⟨e,q⟩:=x;exact⟨k _ _ (.inl rfl) e,ih q⟩
 |tbl ps=>
  have e:h.get? a=some {cls:=.none,data:=.fields ps}:=x
  show h'.get? a=some {cls:=.none,data:=.fields ps}
  exact k a _ (.inl rfl) e
 |met f y=>
  have e:h.get? a=some (PySem.W.methodObj (.ref f) (.ref y)):=x
  show h'.get? a=some (PySem.W.methodObj (.ref f) (.ref y))
  exact k a _ (.inl rfl) e
 |ext φ=>obtain⟨p,⟨o,e⟩,st⟩:=x;exact⟨st _ _ p fun o q=>k _ _ (.inl rfl) q,⟨o,k _ _ (.inl rfl) e⟩,st⟩
theorem HOk.lt (x:HOk P w H h) (e:H a=some o):a < h.objs.size:=(x a o e).lt
theorem HOk.fresh (x:HOk P w H h) (e:h.objs.size≤a):H a=none:=by
 cases q:H a with
 |none=>rfl
 |some u=>exact absurd (Nat.lt_of_lt_of_le (x.lt q) e) (Nat.lt_irrefl _)
theorem HOk.kept (x:HOk P w H h) (k: ∀ b u,h.get? b=some u→h'.get? b=some u):HOk P w H h':=fun a o e=>
 (x a o e).stay (fun b u _ q=>k b u q) (fun _ q=>q) fun _ _ q=>q
theorem HOk.laid (x:HOk P w H h) (k: ∀ b u,h.get? b=some u→h'.get? b=some u) (hp:h.objs.size≤a) (new:ObjOk P w (upd H a o) h' a o):HOk P w (upd H a o) h':=fun b u e=>by
 have hn:=x.fresh hp
 by_cases hb:b=a
 ·subst hb;rw[upd_same] at e;cases e;exact new
 ·rw[upd_ne hb] at e
  exact(x b u e).stay (fun c v _ q=>k c v q) (fun c q=>by rw[upd_ne (ne_of_none q hn)];exact q) fun c xs q=>by rw[upd_ne (ne_of_none q hn)];exact q
end
def Rd (H:Hp) (a:Addr) (u:HO):Prop:=H a=some u∨∃ o,H a=some (.frz o u)
theorem Rd.ok {P:Program} {w:World} {H:Hp} {h:Heap} {a:Addr} {u:HO} (r:Rd H a u) (x:HOk P w H h):ObjOk P w H h a u:=by
 rcases r with r|⟨o,r⟩
 ·exact x a u r
 ·obtain⟨_,q⟩:=x a _ r
  exact q
noncomputable def Mut:Option HO→Prop
 |some (.lst _)=>True
 |some (.dK _)=>True
 |some (.dT _)=>True
 |some (.set _ _)=>True
 |some (.ins _ _ _)=>True
 |some (.ext _)=>True
 |_=>False
section
variable {P:Program} {w:World} {H:Hp} {h h':Heap} {x e:Addr} {o':HO}
theorem HOk.write (ok:HOk P w H h) (mu:Mut (H x)) (he:e=x∨H e=some (.own x)) (k: ∀ b u,b≠e→h.get? b=some u→h'.get? b=some u) (heo: ∃ u,h'.get? e=some u)
  (new:ObjOk P w (upd H x o') h' x o'):HOk P w (upd H x o') h':=fun b u q=>by
 have nown: ∀ c y,H c=some (.own y)→c≠x:=fun c y r z=>by subst z;rw[r] at mu;exact mu
 have ntup: ∀ c xs,H c=some (.tup xs)→c≠x:=fun c xs r z=>by subst z;rw[r] at mu;exact mu
 by_cases hb:b=x
 ·subst hb;rw[upd_same] at q;cases q;exact new
 ·rw[upd_ne hb] at q
  by_cases hbe:b=e
  ·have q':H b=some (.own x):=by
    rcases he with z|z
    ·exact absurd (hbe.trans z) hb
    ·rw[hbe];exact z
   rw[q] at q';cases q'
   obtain⟨v,hv⟩:=heo
   exact⟨v,by rw[hbe];exact hv⟩
  ·refine(ok b u q).stay (fun c v hc r=>k c v ?_ r) (fun c r=>by rw[upd_ne (nown c b r)];exact r) fun c xs r=>by rw[upd_ne (ntup c xs r)];exact r
   rcases hc with rfl|hc
   ·exact hbe
   ·rintro rfl
    rcases he with z|z
    ·exact nown c b hc z
    ·rw[hc] at z;cases z;exact hb rfl
end
structure Un (fs ex:List Addr) (H H':Hp) (h h':Heap):Prop where
 keep: ∀ b o,h.get? b=some o→H b=none→b∉fs→b∉ex→h'.get? b=some o
 slot: ∀ b o,h.get? b=some o→H b=none→b∈fs→b∉ex→∃ sl,h'.get? b=some {o with slots:=sl}
 free: ∀ b o,h.get? b=some o→H b=none→b∉ex→H' b=none
 there: ∀ b o,h.get? b=some o→b∉ex→∃ o',h'.get? b=some o'
 tups: ∀ b xs,H b=some (.tup xs)→H' b=some (.tup xs)
 frzs: ∀ b o u,H b=some (.frz o u)→H' b=some (.frz o u)
 tbls: ∀ b ps,H b=some (.tbl ps)→∃ more,H' b=some (.tbl (ps++more))
section
variable {fs fs' ex ex':List Addr} {H H1 H2:Hp} {h h1 h2 h':Heap} {a x e:Addr} {o:HO}
theorem Un.any (u:Un fs ex H H1 h h1) {b:Addr} {ob:Obj} (q:h.get? b=some ob) (n:H b=none) (hx:b∉ex): ∃ sl,h1.get? b=some {ob with slots:=sl}:=by
 by_cases hb:b∈fs
 ·exact u.slot b ob q n hb hx
 ·exact⟨ob.slots,u.keep b ob q n hb hx⟩
theorem Un.kept (k: ∀ b u,h.get? b=some u→h'.get? b=some u):Un fs ex H H h h':=
 ⟨fun b ob q _ _ _=>k b ob q,fun b ob q _ _ _=>⟨ob.slots,k b ob q⟩,fun _ _ _ n _=>n,fun b ob q _=>⟨ob,k b ob q⟩,fun _ _ q=>q,fun _ _ _ q=>q,fun _ ps q=>⟨#[],by rw[q];simp⟩⟩
theorem Un.refl:Un fs ex H H h h:=Un.kept fun _ _ q=>q
theorem Un.laid (k: ∀ b u,h.get? b=some u→h'.get? b=some u) (hp:h.objs.size≤a) (hn:H a=none):Un fs ex H (upd H a o) h h' where
 keep:=fun b u q _ _ _=>k b u q
 slot:=fun b u q _ _ _=>⟨u.slots,k b u q⟩
 free:=fun b u q n _=>by rw[upd_ne (Nat.ne_of_lt (Nat.lt_of_lt_of_le (Heap.lt_size q) hp))];exact n
 there:=fun b u q _=>⟨u,k b u q⟩
 tups:=fun b xs q=>by rw[upd_ne (ne_of_none q hn)];exact q
 frzs:=fun b u xs q=>by rw[upd_ne (ne_of_none q hn)];exact q
 tbls:=fun b ps q=>⟨#[],by rw[upd_ne (ne_of_none q hn),q];simp⟩
theorem Un.write (mu:Mut (H x)) (he:e=x∨H e=some (.own x)) (k: ∀ b u,b≠e→h.get? b=some u→h'.get? b=some u) (heo: ∃ u,h'.get? e=some u):Un fs ex H (upd H x o) h h':=by
 have hx: ∀ b,H b=none→b≠x:=fun b n z=>by subst z;rw[n] at mu;exact mu
 have hb: ∀ b,H b=none→b≠e:=fun b n z=>by
  subst z
  rcases he with r|r
  ·exact hx b n r
  ·rw[n] at r;cases r
 have hm: ∀ b u,H b=some u→¬ Mut (some u)→b≠x:=fun b u q nm z=>by subst z;rw[q] at mu;exact nm mu
 refine⟨fun b u q n _ _=>k b u (hb b n) q,fun b u q n _ _=>⟨u.slots,k b u (hb b n) q⟩,fun b u q n _=>by rw[upd_ne (hx b n)];exact n,fun b u q _=>?_,
  fun b xs q=>by rw[upd_ne (hm b _ q fun z=>z)];exact q,fun b u xs q=>by rw[upd_ne (hm b _ q fun z=>z)];exact q,fun b ps q=>⟨#[],by rw[upd_ne (hm b _ q fun z=>z),q];simp⟩⟩
 by_cases hbe:b=e
 ·subst hbe;exact heo
 ·exact⟨u,k b u hbe q⟩
end
noncomputable def trk (h:Heap) (H:Hp):List Addr:=(List.range h.objs.size).filter fun a=>(H a).isSome
noncomputable def hidT (h:Heap) (H:Hp):Heap:=PySem.W.hideAll h (trk h H)
theorem hidT_size (h:Heap) (H:Hp):(hidT h H).objs.size=h.objs.size:=PySem.W.hideAll_size _ _
theorem hidT_get (e:h.get? b=some o) (n:H b=none):(hidT h H).get? b=some o:=
 PySem.W.hideAll_get _ e fun hm=>by
  have q:(H b).isSome=true:=(List.mem_filter.mp hm).2
  rw[n] at q;simp at q
theorem of_hidT (e:(hidT h H).get? b=some o):h.get? b=some o∧H b=none:=by
 have e':h.get? b=some o:=PySem.W.of_hideAll (trk h H) e
 refine⟨e',?_⟩
 cases q:H b with
 |none=>rfl
 |some x=>
  have hm:b∈trk h H:=List.mem_filter.mpr ⟨List.mem_range.mpr (Heap.lt_size e'),by simp[q]⟩
  have z:(hidT h H).get? b=none:=PySem.W.hideAll_none (trk h H) hm
  rw[z] at e;cases e
noncomputable def allNews (g h:Heap) (L:Addr):List (Addr×Obj):=(List.range h.objs.size).filterMap fun a=>if a=L∨(g.get? a).isSome=true then none else(h.get? a).map fun o=>(a,o)
noncomputable def rest (g h:Heap) (L d:Addr):List (Addr×Obj):=(allNews g h L).filter fun p=>decide (p.1≠d)
end L2
namespace L2
open PySem PySem.Spec PyProof.Rows
structure Mod (K:PySem.W.Frag) (mg:Str→Option Value) (base:Heap):Prop where
  kin:K.In base
  glob:base.Ns mainGlobals mg
  blt: ∃ mb,base.Ns builtinsNs mb∧∀ x:Str,x≠"__name__"→mb x=bootBuiltins x
  nolimit:base.NoLimit
structure Cx where
 prog:Program
 w:World
 K:PySem.W.Frag
 mg:Str→Option Value
 base:Heap
 A:Around
 N:List Str
 s₀:Shared
 H₀:Hp
 env:Env
 outer:List Env
 stack:List Env
 ex:List Addr
 fn:Str→Bool
 calm:Bool
 pn:List (Addr×Obj)
 xe:Value→Shared→Prop
noncomputable def frs (l:List Env):List Addr:=l.filterMap (·.frame)
abbrev Cx.fs (X:Cx):List Addr:=frs X.outer
def Vis (sc:Scope) (x:Str):Prop:=sc.names.lookup x=some .local∨sc.names.lookup x=some .cell∨sc.names.lookup x=some .free
def Loc (sc:Scope) (x:Str):Prop:=sc.names.lookup x=some .local∨sc.names.lookup x=some .cell
def Look (env:Env) (h:Heap) (m:Str→Option Value) (x:Str) (u:Value):Prop:=
 (env.kindOf x=some .local∧m x=some u)∨((env.kindOf x=some .cell∨env.kindOf x=some .free)∧∃ c,env.cells.lookup x=some c∧h.IsCell c (some u))
structure Cx.Ok (X:Cx):Prop where
 mod:Mod X.K X.mg X.base
 kind:X.env.scope.kind= .function
 glob:X.env.globals=mainGlobals
 blt:X.env.builtins=builtinsNs
 above:X.s₀.heap.objs.size≤X.env.locals
 inj: ∀ x y c,X.env.cells.lookup x=some c→X.env.cells.lookup y=some c→x=y
 has: ∀ x,(X.env.kindOf x=some .cell∨X.env.kindOf x=some .free)→∃ c,X.env.cells.lookup x=some c
 cab: ∀ x c,X.fn x=true→X.env.cells.lookup x=some c→X.s₀.heap.objs.size≤c
 hd:X.calm=true→X.A.handled=none
 frames:X.A.frames=some X.stack
 stk:X.stack=X.outer∨(X.stack=X.env::X.outer∧X.env.frame=some X.env.locals)
 exf: ∀ b∈X.ex,b≠X.env.locals∧∀ x c,X.env.cells.lookup x=some c→c≠b
 bs: ∀ b o,X.base.get? b=some o→X.s₀.heap.get? b=some o∧X.H₀ b=none
 bsz:X.base.objs.size≤X.s₀.heap.objs.size
 noex: ∀ b o,X.base.get? b=some o→b∉X.ex
 exfs: ∀ b∈X.ex,b∉X.fs
 funs:X.s₀.heap.FunFrames X.base X.outer
 frf: ∀ b∈X.fs,X.H₀ b=none
structure Inv (X:Cx) (pZ:List (Addr×Obj)) (σ:List (Option V)) (H:Hp) (s:Shared):Prop where
 ok:X.Ok
 os:s.os=X.s₀.os
 bare:AllBare s.gens
 base:Un X.fs X.ex X.H₀ H X.s₀.heap s.heap
 loc: ∃ m,s.heap.Ns X.env.locals m∧∀ (i:Nat) (x:Str) (v:V),X.N[i]?=some x→σ[i]?=some (some v)→Vis X.env.scope x→∃ u,RelV v u∧Look X.env s.heap m x u
 cell: ∀ x c,X.env.cells.lookup x=some c→∃ v,s.heap.IsCell c v
 free:H X.env.locals=none
 freeC: ∀ x c,X.env.cells.lookup x=some c→H c=none
 pin: ∀ p∈X.pn++pZ,s.heap.get? p.1=some p.2∧H p.1=none∧p.1≠X.env.locals∧p.1∉X.fs∧∀ v,p.2.data≠.cell v
 hok:HOk X.prog X.w H s.heap
 len:σ.length=X.N.length
section
variable {X:Cx} {pZ:List (Addr×Obj)} {σ:List (Option V)} {H H':Hp} {s:Shared} {h':Heap}
theorem Cx.Ok.nofr (ok:X.Ok) (e:X.base.get? b=some o):b∉X.fs:=fun hb=>by
 have:=(ok.funs.mem hb).1
 rw[e] at this;cases this
theorem Inv.bs (I:Inv X pZ σ H s): ∀ b o,X.base.get? b=some o→s.heap.get? b=some o∧H b=none:=fun b o e=>
 ⟨I.base.keep b o (I.ok.bs b o e).1 (I.ok.bs b o e).2 (I.ok.nofr e) (I.ok.noex b o e),I.base.free b o (I.ok.bs b o e).1 (I.ok.bs b o e).2 (I.ok.noex b o e)⟩
theorem Inv.bk (I:Inv X pZ σ H s): ∀ b o,X.base.get? b=some o→s.heap.get? b=some o:=fun b o e=>(I.bs b o e).1
theorem Inv.mod (I:Inv X pZ σ H s):Mod X.K X.mg X.base:=I.ok.mod
theorem Inv.kIn (I:Inv X pZ σ H s):X.K.In s.heap:=I.ok.mod.kin.keeps I.bk
theorem Inv.lt (I:Inv X pZ σ H s):X.env.locals < s.heap.objs.size:=let ⟨_,hn,_⟩:=I.loc;hn.lt
theorem Inv.sz (I:Inv X pZ σ H s):X.s₀.heap.objs.size≤s.heap.objs.size:=Nat.le_trans I.ok.above (Nat.le_of_lt I.lt)
theorem Inv.nofs (I:Inv X pZ σ H s) (h:s.heap.objs.size≤a):a∉X.fs:=fun hb=>by
 obtain⟨_,o,ho,_⟩:=I.ok.funs.mem hb
 exact absurd (Nat.lt_of_lt_of_le (Heap.lt_size ho) (Nat.le_trans I.sz h)) (Nat.lt_irrefl _)
theorem Inv.cne (I:Inv X pZ σ H s): ∀ x c,X.env.cells.lookup x=some c→c≠X.env.locals:=fun x c e z=>by
 obtain⟨v,o,ho,hd⟩:=I.cell x c e
 obtain⟨m,⟨o',es,ep,ho',hd',_⟩,_⟩:=I.loc
 rw[z,ho'] at ho;cases ho;rw[hd'] at hd;cases hd
theorem Inv.funs (I:Inv X pZ σ H s):s.heap.FunFrames X.base X.outer:=by
 have all: ∀ (l:List Env),(∀ b∈frs l,b∈X.fs)→X.s₀.heap.FunFrames X.base l→s.heap.FunFrames X.base l:=by
  intro l
  induction l with
  |nil=>intro _ _;trivial
  |cons env r ih=>
   intro hs hl
   obtain⟨hk,⟨L,o,hf,hn,ho,hd⟩,hr⟩:=hl
   have hL:L∈X.fs:=hs L (by unfold frs;rw[List.filterMap_cons,hf];exact List.mem_cons_self)
   obtain⟨sl,e⟩:=I.base.slot L o ho (I.ok.frf L hL) hL fun z=>I.ok.exfs L z hL
   exact⟨hk,⟨L,_,hf,hn,e,hd⟩,ih (fun b hb=>hs b (by unfold frs;rw[List.filterMap_cons,hf];exact List.mem_cons_of_mem _ hb)) hr⟩
 exact all X.outer (fun _ hb=>hb) I.ok.funs
theorem Inv.stack (I:Inv X pZ σ H s):s.heap.FunFrames X.base X.stack:=by
 rcases I.ok.stk with e|⟨e,hf⟩
 ·rw[e];exact I.funs
 ·rw[e]
  obtain⟨m,hn,_⟩:=I.loc
  refine .cons (by rw[I.ok.kind];decide) hf hn ?_ I.funs
  exact Heap.get?_none_of_le (Nat.le_trans I.ok.bsz I.ok.above)
theorem Inv.stkSub (I:Inv X pZ σ H s): ∀ b∈frs X.stack,b∈X.env.locals::X.fs:=fun b hb=>by
 rcases I.ok.stk with e|⟨e,hf⟩
 ·rw[e] at hb;exact List.mem_cons_of_mem _ hb
 ·rw[e] at hb
  unfold frs at hb
  rw[List.filterMap_cons,hf] at hb
  exact hb
theorem Inv.stkFree (I:Inv X pZ σ H s): ∀ b∈frs X.stack,H b=none:=fun b hb=>by
 rcases List.mem_cons.mp (I.stkSub b hb) with e|hb
 ·rw[e];exact I.free
 ·obtain⟨_,o,ho,_⟩:=I.ok.funs.mem hb
  exact I.base.free b o ho (I.ok.frf b hb) fun z=>I.ok.exfs b z hb
theorem Inv.step {g':Array GenState} {t':Nat} {d':Drawn} {ch:List Addr} (I:Inv X pZ σ H s)
  (hch: ∀ b∈ch,(b∈X.ex∨X.s₀.heap.objs.size≤b)∧b≠X.env.locals∧(∀ x c,X.env.cells.lookup x=some c→c≠b)∧∀ p∈X.pn++pZ,p.1≠b)
  (keep: ∀ b o,b≠X.env.locals→b∉X.fs→b∉ch→s.heap.get? b=some o→H b=none→h'.get? b=some o)
  (slot: ∀ b o,b≠X.env.locals→b∈X.fs→b∉ch→s.heap.get? b=some o→H b=none→∃ sl,h'.get? b=some {o with slots:=sl}) (free: ∀ b o,b∉ch→s.heap.get? b=some o→H b=none→H' b=none)
  (there: ∀ b o,b∉ch→s.heap.get? b=some o→∃ o',h'.get? b=some o')
  (tups: ∀ b xs,H b=some (.tup xs)→H' b=some (.tup xs)) (frzs: ∀ b o u,H b=some (.frz o u)→H' b=some (.frz o u)) (tbls: ∀ b ps,H b=some (.tbl ps)→∃ more,H' b=some (.tbl (ps++more)))
  (ns: ∀ m,s.heap.Ns X.env.locals m→h'.Ns X.env.locals m) (hok:HOk X.prog X.w H' h') (hg:AllBare g'):
  Inv X pZ σ H' {s with heap:=h',gens:=g',drawn:=d',toks:=t'}:=by
 have neL: ∀ b o,X.s₀.heap.get? b=some o→b≠X.env.locals:=fun b o e=>Nat.ne_of_lt (Nat.lt_of_lt_of_le (Heap.lt_size e) I.ok.above)
 have neC: ∀ b o,X.s₀.heap.get? b=some o→b∉X.ex→b∉ch:=fun b o e hx hb=>by
  rcases(hch b hb).1 with z|z
  ·exact hx z
  ·exact absurd (Nat.lt_of_lt_of_le (Heap.lt_size e) z) (Nat.lt_irrefl _)
 have cellK: ∀ x c,X.env.cells.lookup x=some c→∀ v,s.heap.IsCell c v→h'.IsCell c v:=fun x c e v hq0=>by
  obtain⟨o,ho,hd⟩:=hq0
  have nch:c∉ch:=fun z=>(hch c z).2.2.1 x c e rfl
  by_cases hc:c∈X.fs
  ·obtain⟨sl,q⟩:=slot c o (I.cne x c e) hc nch ho (I.freeC x c e)
   exact⟨_,q,hd⟩
  ·exact⟨o,keep c o (I.cne x c e) hc nch ho (I.freeC x c e),hd⟩
 refine⟨I.ok,I.os,hg,⟨fun b o e n hb hx=>?_,fun b o e n hb hx=>?_,fun b o e n hx=>?_,fun b o e hx=>?_,fun b xs e=>tups b xs (I.base.tups b xs e),fun b o xs e=>frzs b o xs (I.base.frzs b o xs e),fun b ps e=>?_⟩,?_,fun x c e=>?_,?_,fun x c e=>?_,fun p hp=>?_,hok,I.len⟩
 ·exact keep b o (neL b o e) hb (neC b o e hx) (I.base.keep b o e n hb hx) (I.base.free b o e n hx)
 ·obtain⟨sl,e1⟩:=I.base.slot b o e n hb hx
  obtain⟨sl',e2⟩:=slot b _ (neL b o e) hb (neC b o e hx) e1 (I.base.free b o e n hx)
  exact⟨sl',e2⟩
 ·obtain⟨o',e1⟩:=I.base.there b o e hx
  exact free b o' (neC b o e hx) e1 (I.base.free b o e n hx)
 ·obtain⟨o',e1⟩:=I.base.there b o e hx
  exact there b o' (neC b o e hx) e1
 ·obtain⟨m1,e1⟩:=I.base.tbls b ps e
  obtain⟨m2,e2⟩:=tbls b _ e1
  exact⟨m1++m2,by rw[e2,Array.append_assoc]⟩
 ·obtain⟨m,hn,hl⟩:=I.loc
  refine⟨m,ns m hn,fun i x v e1 e2 e3=>?_⟩
  obtain⟨u,r,l⟩:=hl i x v e1 e2 e3
  refine⟨u,r,?_⟩
  rcases l with l|⟨k,c,e,z⟩
  ·exact .inl l
  ·exact .inr ⟨k,c,e,cellK x c e _ z⟩
 ·obtain⟨v,z⟩:=I.cell x c e
  exact⟨v,cellK x c e v z⟩
 ·obtain⟨m,⟨o,_,_,ho,_⟩,_⟩:=I.loc
  exact free _ o (fun z=>(hch _ z).2.1 rfl) ho I.free
 ·obtain⟨v,o,ho,hd⟩:=I.cell x c e
  exact free c o (fun z=>(hch c z).2.2.1 x c e rfl) ho (I.freeC x c e)
 ·obtain⟨e,n,ne,nf,d⟩:=I.pin p hp
  have nch:p.1∉ch:=fun z=>(hch p.1 z).2.2.2 p hp rfl
  exact⟨keep p.1 p.2 ne nf nch e n,free p.1 p.2 nch e n,ne,nf,d⟩
theorem Inv.un {t':Nat} (I:Inv X pZ σ H s) (u:Un X.fs [] H H' s.heap h') (hok:HOk X.prog X.w H' h'):Inv X pZ σ H' {s with heap:=h',toks:=t'}:=by
 obtain⟨m,⟨o,es,ep,ho,r⟩,_⟩:=id I.loc
 obtain⟨sl,hL⟩:=u.any ho I.free (by simp)
 exact I.step (g':=s.gens) (d':=s.drawn) (ch:=[]) (fun _ z=>nomatch z) (fun b o _ hb _ e n=>u.keep b o e n hb (by simp)) (fun b o _ hb _ e n=>u.slot b o e n hb (by simp)) (fun b o _ e n=>u.free b o e n (by simp)) (fun b o _ e=>u.there b o e (by simp)) u.tups u.frzs u.tbls (fun m' hm=>by
  obtain⟨o',es',ep',ho',r'⟩:=hm
  rw[ho] at ho';cases ho'
  exact⟨_,es',ep',hL,r'⟩) hok I.bare
theorem Inv.call {g':Array GenState} {t':Nat} {d':Drawn} {ch:List Addr} (I:Inv X pZ σ H s) (u:Un (frs X.stack) ch H H' s.heap h') (hok:HOk X.prog X.w H' h') (hg:AllBare g')
  (hch: ∀ b∈ch,(b∈X.ex∨X.s₀.heap.objs.size≤b)∧b≠X.env.locals∧(∀ x c,X.env.cells.lookup x=some c→c≠b)∧∀ p∈X.pn++pZ,p.1≠b):
  Inv X pZ σ H' {s with heap:=h',gens:=g',drawn:=d',toks:=t'}:=by
 obtain⟨m,⟨o,es,ep,ho,r⟩,_⟩:=id I.loc
 obtain⟨sl,hL⟩:=u.any ho I.free fun z=>(hch _ z).2.1 rfl
 exact I.step (ch:=ch) hch (fun b o hL hb hc e n=>u.keep b o e n (fun z=>(List.mem_cons.mp (I.stkSub b z)).elim hL hb) hc) (fun b o _ _ hc e n=>u.any e n hc) (fun b o hc e n=>u.free b o e n hc) (fun b o hc e=>u.there b o e hc) u.tups u.frzs u.tbls (fun m' hm=>by
  obtain⟨o',es',ep',ho',r'⟩:=hm
  rw[ho] at ho';cases ho'
  exact⟨_,es',ep',hL,r'⟩) hok hg
theorem Inv.turned {t':Nat} {it:Addr} (I:Inv X pZ σ H s) (k: ∀ b o,b≠it→s.heap.get? b=some o→h'.get? b=some o) (hn:H it=none) (hL:it≠X.env.locals)
  (h1:it∈X.ex∨X.s₀.heap.objs.size≤it) (h2: ∀ x c,X.env.cells.lookup x=some c→c≠it) (h3: ∀ p∈X.pn++pZ,p.1≠it):Inv X pZ σ H {s with heap:=h',toks:=t'}:=by
 have nit: ∀ b u,H b=some u→b≠it:=fun b u e z=>by rw[z,hn] at e;cases e
 refine I.step (g':=s.gens) (d':=s.drawn) (ch:=[it]) (fun b hb=>?_) (fun b o _ _ hc e _=>k b o (fun z=>hc (by simp[z])) e) (fun b o _ _ hc e _=>⟨o.slots,k b o (fun z=>hc (by simp[z])) e⟩) (fun _ _ _ _ n=>n)
  (fun b o hc e=>⟨o,k b o (fun z=>hc (by simp[z])) e⟩) (fun _ _ e=>e) (fun _ _ _ e=>e) (fun b ps e=>⟨#[],by rw[e];simp⟩) (fun m hm=>?_) (fun b u e=>?_) I.bare
 ·have e:b=it:=by simpa using hb
  subst e
  exact⟨h1,hL,h2,h3⟩
 ·obtain⟨o,es,ep,ho,r⟩:=hm
  exact⟨o,es,ep,k _ o (Ne.symm hL) ho,r⟩
 ·refine(I.hok b u e).stay (fun c v hc q=>k c v ?_ q) (fun _ q=>q) fun _ _ q=>q
  rcases hc with z|z
  ·rw[z];exact nit b u e
  ·exact nit c _ z
theorem Inv.tok (I:Inv X pZ σ H s) (t:Nat):Inv X pZ σ H {s with toks:=t}:=I.un (h':=s.heap) (t':=t) Un.refl I.hok
theorem Inv.kept {t':Nat} (I:Inv X pZ σ H s) (k: ∀ b u,s.heap.get? b=some u→h'.get? b=some u):Inv X pZ σ H {s with heap:=h',toks:=t'}:=I.un (Un.kept k) (I.hok.kept k)
theorem Inv.laid {a:Addr} {o:HO} {t':Nat} (I:Inv X pZ σ H s) (k: ∀ b u,s.heap.get? b=some u→h'.get? b=some u) (hp:s.heap.objs.size≤a) (new:ObjOk X.prog X.w (upd H a o) h' a o):
  Inv X pZ σ (upd H a o) {s with heap:=h',toks:=t'}:=I.un (Un.laid k hp (I.hok.fresh hp)) (I.hok.laid k hp new)
theorem Inv.write {t':Nat} (I:Inv X pZ σ H s) (mu:Mut (H x)) (he:e=x∨H e=some (.own x)) (k: ∀ b u,b≠e→s.heap.get? b=some u→h'.get? b=some u) (heo: ∃ u,h'.get? e=some u)
  (new:ObjOk X.prog X.w (upd H x o) h' x o):Inv X pZ σ (upd H x o) {s with heap:=h',toks:=t'}:=I.un (Un.write mu he k heo) (I.hok.write mu he k heo new)
theorem Inv.pins_of (I:Inv X pZ σ H s) (h: ∀ p∈pins',s.heap.get? p.1=some p.2∧H p.1=none∧p.1≠X.env.locals∧p.1∉X.fs∧∀ v,p.2.data≠.cell v):Inv X pins' σ H s:=
 ⟨I.ok,I.os,I.bare,I.base,I.loc,I.cell,I.free,I.freeC,fun p hp=>(List.mem_append.mp hp).elim (fun z=>I.pin p (List.mem_append_left _ z)) (h p),I.hok,I.len⟩
theorem nodup_ix {N:List Str} (hN:N.Nodup) {i j:Nat} (a:N[i]?=some x) (b:N[j]?=some x):i=j:=by
 obtain⟨h1,e1⟩:=List.getElem?_eq_some_iff.mp a
 obtain⟨h2,e2⟩:=List.getElem?_eq_some_iff.mp b
 exact(List.getElem_inj hN).mp (e1.trans e2.symm)
theorem store_ok2 {i:Nat} {Q:Unit→Shared→Prop} (I:Inv X pZ σ H s) (hN:X.N.Nodup) (hi:X.N[i]?=some x) (hx:Loc X.env.scope x) (r:RelV v u)
  (h: ∀ s',Inv X pZ (σ.set i (some v)) H s'→(∃ a,Heap.SameBut a s.heap s'.heap∧(a=X.env.locals∨X.env.cells.lookup x=some a))→Q () s') (hf:X.fn x=true∨X.env.scope.names.lookup x=some .local:=by first|exact .inl rfl|exact .inr rfl|assumption):wpAny M A (storeName X.env x u) Q E s:=by
 obtain⟨m,hn,hl⟩:=id I.loc
 have hcls:(X.env.scope.kind== .class||(X.env.scope.kind== .module&&X.env.locals !=X.env.globals))=false:=by rw[I.ok.kind];rfl
 have hiσ:i < σ.length:=by rw[I.len];exact(List.getElem?_eq_some_iff.mp hi).1
 have cne:=I.cne
 have tracked: ∀ {a:Addr} {h':Heap},(∃ o,s.heap.get? a=some o∧H a=none)→Heap.SameBut a s.heap h'→HOk X.prog X.w H h':=fun {a h'} ha hs b ob e=>by
  obtain⟨_,_,hfree⟩:=ha
  refine(I.hok b ob e).stay (fun c w' hc q=>(hs.2 c ?_).trans q) (fun _ q=>q) fun _ _ q=>q
  rintro rfl
  rcases hc with rfl|hc
  ·rw[hfree] at e;cases e
  ·rw[hfree] at hc;cases hc
 rcases hx with hk|hk
 ·refine wpAny_storeName_local hk hn (fun h' hn' hs=>?_) hcls
  obtain⟨oL,_,_,hoL,_⟩:=id hn
  refine h _ ⟨I.ok,I.os,I.bare,⟨fun b o e n hb hx=>?_,fun b o e n hb hx=>?_,I.base.free,fun b o e hx=>?_,I.base.tups,I.base.frzs,I.base.tbls⟩,⟨_,hn',fun j y v' e1 e2 e3=>?_⟩,fun y c e=>?_,I.free,I.freeC,fun p hp=>?_,tracked ⟨oL,hoL,I.free⟩ hs,by simpa using I.len⟩ ⟨_,hs,.inl rfl⟩
  ·exact(hs.2 b (Nat.ne_of_lt (Nat.lt_of_lt_of_le (Heap.lt_size e) I.ok.above))).trans (I.base.keep b o e n hb hx)
  ·obtain⟨sl,e1⟩:=I.base.slot b o e n hb hx
   exact⟨sl,(hs.2 b (Nat.ne_of_lt (Nat.lt_of_lt_of_le (Heap.lt_size e) I.ok.above))).trans e1⟩
  ·obtain⟨o',e1⟩:=I.base.there b o e hx
   exact⟨o',(hs.2 b (Nat.ne_of_lt (Nat.lt_of_lt_of_le (Heap.lt_size e) I.ok.above))).trans e1⟩
  ·by_cases hj:j=i
   ·subst hj
    rw[hi] at e1;cases e1
    rw[List.getElem?_set_self hiσ] at e2
    cases e2
    exact⟨u,r,.inl ⟨hk,by simp⟩⟩
   ·rw[List.getElem?_set_ne (Ne.symm hj)] at e2
    obtain⟨u',r',q⟩:=hl j y v' e1 e2 e3
    refine⟨u',r',?_⟩
    rcases q with⟨k,e⟩|⟨k,c,e,z⟩
    ·refine .inl ⟨k,?_⟩
     have:y≠x:=fun e=>hj (nodup_ix hN e1 (e▸hi))
     simp[this,e]
    ·exact .inr ⟨k,c,e,z.sameBut hs (cne y c e)⟩
  ·obtain⟨w',z⟩:=I.cell y c e
   exact⟨w',z.sameBut hs (cne y c e)⟩
  ·obtain⟨e,n,ne,nf,d⟩:=I.pin p hp
   exact⟨(hs.2 p.1 ne).trans e,n,ne,nf,d⟩
 ·have hfn:X.fn x=true:=by
   rcases hf with z|z
   ·exact z
   ·rw[z] at hk;cases hk
  obtain⟨c,hc⟩:=I.ok.has x (.inl hk)
  obtain⟨w',z⟩:=I.cell x c hc
  refine wpAny_storeName_cell I.ok.kind hk hc z (fun h' hc' hs=>?_)
  obtain⟨oc,hoc,hocd⟩:=id z
  refine h {s with heap:=h'} ⟨I.ok,I.os,I.bare,⟨fun b o e n hb hx=>?_,fun b o e n hb hx=>?_,I.base.free,fun b o e hx=>?_,I.base.tups,I.base.frzs,I.base.tbls⟩,⟨m,hn.sameBut hs (Ne.symm (cne x c hc)),fun j y v' e1 e2 e3=>?_⟩,fun y c' e=>?_,I.free,I.freeC,fun p hp=>?_,tracked ⟨oc,hoc,I.freeC x c hc⟩ hs,by simpa using I.len⟩ ⟨c,hs,.inr hc⟩
  ·exact(hs.2 b (Nat.ne_of_lt (Nat.lt_of_lt_of_le (Heap.lt_size e) (I.ok.cab x c hfn hc)))).trans (I.base.keep b o e n hb hx)
  ·obtain⟨sl,e1⟩:=I.base.slot b o e n hb hx
   exact⟨sl,(hs.2 b (Nat.ne_of_lt (Nat.lt_of_lt_of_le (Heap.lt_size e) (I.ok.cab x c hfn hc)))).trans e1⟩
  ·obtain⟨o',e1⟩:=I.base.there b o e hx
   exact⟨o',(hs.2 b (Nat.ne_of_lt (Nat.lt_of_lt_of_le (Heap.lt_size e) (I.ok.cab x c hfn hc)))).trans e1⟩
  ·by_cases hj:j=i
   ·subst hj
    rw[hi] at e1;cases e1
    rw[List.getElem?_set_self hiσ] at e2
    cases e2
    exact⟨u,r,.inr ⟨.inl hk,c,hc,hc'⟩⟩
   ·rw[List.getElem?_set_ne (Ne.symm hj)] at e2
    obtain⟨u',r',q⟩:=hl j y v' e1 e2 e3
    refine⟨u',r',?_⟩
    rcases q with q|⟨k,c',e,z'⟩
    ·exact .inl q
    ·refine .inr ⟨k,c',e,z'.sameBut hs ?_⟩
     rintro rfl
     exact hj (nodup_ix hN e1 (I.ok.inj _ _ _ e hc▸hi))
  ·by_cases hcc:c'=c
   ·subst hcc;exact⟨_,hc'⟩
   ·obtain⟨w2,z2⟩:=I.cell y c' e
    exact⟨w2,z2.sameBut hs hcc⟩
  ·obtain⟨e,n,ne,nf,d⟩:=I.pin p hp
   refine⟨(hs.2 p.1 ?_).trans e,n,ne,nf,d⟩
   intro q
   rw[q,hoc] at e
   have q':oc=p.2:=Option.some.inj e
   exact d w' (by rw[←q'];exact hocd)
theorem store_ok {M:Model} {A:Around} {E:Value→Shared→Prop} {i:Nat} {x:Str} {v:V} {u:Value} {Q:Unit→Shared→Prop} (I:Inv X pZ σ H s) (hN:X.N.Nodup) (hi:X.N[i]?=some x) (hx:Loc X.env.scope x) (r:RelV v u)
  (h: ∀ s',Inv X pZ (σ.set i (some v)) H s'→Q () s') (hf:X.fn x=true∨X.env.scope.names.lookup x=some .local:=by first|exact .inl rfl|exact .inr rfl|assumption):wpAny M A (storeName X.env x u) Q E s:=
 store_ok2 I hN hi hx r (fun s' I' _=>h s' I') hf
theorem Inv.call' (I:Inv X pZ σ H s) (ho:s'.os=s.os) (u:Un (frs X.stack) ch H H' s.heap s'.heap) (hok:HOk X.prog X.w H' s'.heap) (hg:AllBare s'.gens)
  (hch: ∀ b∈ch,(b∈X.ex∨X.s₀.heap.objs.size≤b)∧b≠X.env.locals∧(∀ x c,X.env.cells.lookup x=some c→c≠b)∧∀ p∈X.pn++pZ,p.1≠b):Inv X pZ σ H' s':=by
 obtain⟨h',g',d',t',o'⟩:=s'
 have e:o'=s.os:=ho
 subst e
 exact I.call (g':=g') (t':=t') (d':=d') u hok hg hch
end
abbrev XK:=Value→Option Addr→Hp→Prop
abbrev St:=List (Option V)
abbrev VK:=V→Hp→Prop
abbrev TE:=St→Hp→VK→Prop
abbrev TT:=St→Hp→(Bool→Hp→Prop)→Prop
abbrev TA:=St→Hp→(List V→Hp→Prop)→Prop
structure Ends where
 nx:St→Hp→Prop
 rt:VK
 bk:St→Hp→Prop:=fun _ _=>False
 ct:St→Hp→Prop:=fun _ _=>False
abbrev TS:=Ends→St→Hp→Prop
def EP (X:Cx) (pZ:List (Addr×Obj)) (σ:St) (Q:VK) (u:Value) (s':Shared):Prop:= ∃ v H',Inv X pZ σ H' s'∧RelV v u∧Q v H'
def TP (X:Cx) (pZ:List (Addr×Obj)) (σ:St) (Q:Bool→Hp→Prop) (b:Bool) (s':Shared):Prop:= ∃ H',Inv X pZ σ H' s'∧Q b H'
def AP (X:Cx) (pZ:List (Addr×Obj)) (σ:St) (Q:List V→Hp→Prop) (us:List Value) (s':Shared):Prop:= ∃ vs H',Inv X pZ σ H' s'∧Vals vs us∧Q vs H'
def SP (X:Cx) (pZ:List (Addr×Obj)) (D:Ends) (f:Flow) (s':Shared):Prop:=
 match f with
 | .next=> ∃ σ' H',Inv X pZ σ' H' s'∧D.nx σ' H'
 | .brk=> ∃ σ' H',Inv X pZ σ' H' s'∧D.bk σ' H'
 | .cont=> ∃ σ' H',Inv X pZ σ' H' s'∧D.ct σ' H'
 | .ret u=> ∃ v σ' H',Inv X pZ σ' H' s'∧RelV v u∧D.rt v H'
def PE (X:Cx) (e:Expr) (t:TE):Prop:=
 ∀ (pZ:List (Addr×Obj)) (s:Shared) (σ:St) (H:Hp) (Q:VK),Inv X pZ σ H s→t σ H Q→wpAny (model X.prog X.w) X.A (eval e X.env) (EP X pZ σ Q) X.xe s
def PT (X:Cx) (e:Expr) (t:TT):Prop:=
 ∀ (pZ:List (Addr×Obj)) (s:Shared) (σ:St) (H:Hp) (Q:Bool→Hp→Prop),Inv X pZ σ H s→t σ H Q→wpAny (model X.prog X.w) X.A (isTrue e X.env (eval e X.env)) (TP X pZ σ Q) X.xe s
def PW (X:Cx) (e:Expr) (t:TT):Prop:=
 ∀ (whole:Sem Value) (pZ:List (Addr×Obj)) (s:Shared) (σ:St) (H:Hp) (Q:Bool→Hp→Prop),Inv X pZ σ H s→t σ H Q→wpAny (model X.prog X.w) X.A (isTrue e X.env whole) (TP X pZ σ Q) X.xe s
theorem PW.pt {X:Cx} {e:Expr} {t:TT} (h:PW X e t):PT X e t:=h _
def PA (X:Cx) (es:List Expr) (t:TA):Prop:=
 ∀ (pos:Pos) (pZ:List (Addr×Obj)) (s:Shared) (σ:St) (H:Hp) (Q:List V→Hp→Prop),Inv X pZ σ H s→t σ H Q→wpAny (model X.prog X.w) X.A (spliced (backTo pos (starEach es X.env))) (AP X pZ σ Q) X.xe s
def PS (X:Cx) (st:Stmt) (t:TS):Prop:=
 ∀ (pZ:List (Addr×Obj)) (s:Shared) (σ:St) (H:Hp) (D:Ends),Inv X pZ σ H s→t D σ H→wpAny (model X.prog X.w) X.A (exec st X.env) (SP X pZ D) X.xe s
def PSs (X:Cx) (st:List Stmt) (t:TS):Prop:=
 ∀ (pZ:List (Addr×Obj)) (s:Shared) (σ:St) (H:Hp) (D:Ends),Inv X pZ σ H s→t D σ H→wpAny (model X.prog X.w) X.A (execs st X.env) (SP X pZ D) X.xe s
theorem thn {α:Type} {t:Sem α} {Q Q':α→Shared→Prop} {M:Model} {A:Around} {E:Value→Shared→Prop} {s:Shared} (h:wpAny M A t Q E s) (hQ: ∀ a s,Q a s→Q' a s):wpAny M A t Q' E s:=wpAny_mono h hQ fun _ _ x=>x
end L2
namespace L2
open PySem PySem.Spec PyProof.Rows
section
variable {X:Cx}
noncomputable def tVar (i:Nat):TE:=fun σ H Q=> ∃ v,σ[i]?=some (some v)∧Q v H
def tC (v:V):TE:=fun _ H Q=>Q v H
theorem pe_var (hN:X.N[i]?=some x) (hv:Vis X.env.scope x) (hd:(x==("__debug__":Str))=false:=by decide) (hcd:(x==("__classdict__":Str))=false:=by decide):PE X (.Name x pos) (tVar i):=by
 intro pZ s σ H Q I h
 obtain⟨v,e,h⟩:=h
 obtain⟨m,hn,hl⟩:=I.loc
 obtain⟨u,r,l⟩:=hl i x v hN e hv
 have fin:EP X pZ σ Q u s:=⟨v,H,I,r,h⟩
 rcases l with⟨hk,hm⟩|⟨hk,c,hc,hcell⟩
 ·exact wpAny_Name (wpAny_loadName_local I.ok.kind hk hn hm fin) hd
 ·rcases hk with hk|hk
  ·exact wpAny_Name (wpAny_loadName_cell I.ok.kind hk hc hcell fin) hd
  ·exact wpAny_Name (wpAny_loadName_free I.ok.kind hk hc hcell fin hcd) hd
theorem pe_int {i j pos}:PE X (.Constant (.int i) j pos) (tC (.int i)):=fun _ _ _ H _ I h=>wpAny_Constant_int ⟨.int i,H,I.tok _,⟨_,rfl⟩,h⟩
theorem pe_bl {b j pos}:PE X (.Constant (.bool b) j pos) (tC (.bl b)):=fun _ _ _ H _ I h=>Constant_bool ⟨.bl b,H,I,rfl,h⟩
theorem pe_non {j pos}:PE X (.Constant .none j pos) (tC .non):=fun _ _ _ H _ I h=>Constant_none ⟨.non,H,I,rfl,h⟩
theorem pe_str {x j pos}:PE X (.Constant (.str x) j pos) (tC (.str x)):=fun _ _ _ H _ I h=>Calls.Constant_str ⟨.str x,H,I.tok _,⟨_,rfl⟩,h⟩
def Gl (X:Cx) (x:Str):Prop:=X.env.kindOf x=some .globalImplicit
theorem ld_glob {E:Value→Shared→Prop} {pZ:List (Addr×Obj)} {s:Shared} {σ:St} {H:Hp} {x:Str} {u:Value} {pos:Pos} {Q:Value→Shared→Prop} (I:Inv X pZ σ H s) (hg:Gl X x) (hm:X.mg x=some u) (h:Q u s)
  (hd:(x==("__debug__":Str))=false:=by decide):wpAny (model X.prog X.w) X.A (eval (.Name x pos) X.env) Q E s:=
 Calls.Name_function_global I.ok.kind hg (Calls.loadGlobal_global (by rw[I.ok.glob];exact I.mod.glob.keeps I.bk) hm h) hd
theorem ld_blt {E:Value→Shared→Prop} {pZ:List (Addr×Obj)} {s:Shared} {σ:St} {H:Hp} {x:Str} {u:Value} {pos:Pos} {Q:Value→Shared→Prop} (I:Inv X pZ σ H s) (hg:Gl X x) (hm:X.mg x=none) (hv:bootBuiltins x=some u) (h:Q u s)
  (hn:x≠"__name__":=by decide) (hd:(x==("__debug__":Str))=false:=by decide):wpAny (model X.prog X.w) X.A (eval (.Name x pos) X.env) Q E s:=by
 obtain⟨mb,h1,h2⟩:=I.mod.blt
 exact Calls.Name_function_global I.ok.kind hg (Calls.loadGlobal_builtin (by rw[I.ok.glob];exact I.mod.glob.keeps I.bk) hm (by rw[I.ok.blt];exact h1.keeps I.bk) ((h2 x hn).trans hv) h) hd
theorem pe_bltn (hg:Gl X x) (hm:X.mg x=none) (hv:bootBuiltins x=some u) (r:RelV v u) (hn:x≠"__name__":=by decide) (hd:(x==("__debug__":Str))=false:=by decide):PE X (.Name x pos) (tC v):=
 fun _ _ _ H _ I h=>ld_blt I hg hm hv ⟨v,H,I,r,h⟩ hn hd
variable {a b:Expr} {ta tb:TE} {pos:Pos}
def PC (X:Cx) (op:CmpOp) (a b:Expr) (t:TE):Prop:=
 ∀ (pZ:List (Addr×Obj)) (s:Shared) (σ:St) (H:Hp) (Q:VK),Inv X pZ σ H s→t σ H Q→
  wpAny (model X.prog X.w) X.A (eval a X.env) (fun v s₁=>wpAny (model X.prog X.w) X.A (eval b X.env) (fun u s₂=>wpAny (model X.prog X.w) X.A (compareOp op v u) (EP X pZ σ Q) X.xe s₂) X.xe s₁) X.xe s
theorem nobehind (b:Expr) {op:CmpOp} (h:op≠.In) (h2:op≠.NotIn):behindInMarks op b=false:=by
 have e1:(op==CmpOp.In)=false:=by cases op<;>first|rfl|exact absurd rfl h
 have e2:(op==CmpOp.NotIn)=false:=by cases op<;>first|rfl|exact absurd rfl h2
 cases b<;>simp[behindInMarks,e1,e2]
noncomputable def tB (t:TE):TT:=fun σ H Q=>t σ H fun x H1=> ∃ c,x= .bl c∧Q c H1
theorem pt_cmp {op:CmpOp} {t:TE} (h:PC X op a b t) (h1:behindInMarks op b=false:=by first|exact nobehind _ (by decide) (by decide)|rfl):PT X (.Compare a [op] [b] pos) (tB t):=by
 intro pZ s σ H Q I hw
 refine wpAny_isTrue_Compare1 (thn (h pZ s σ H _ I hw) fun v s1 h1=>thn h1 fun u s2 h2=>thn h2 fun c s3 ⟨x,H1,I1,r1,q1⟩=>?_) h1
 obtain⟨d,rfl,q⟩:=q1
 cases r1
 exact wpAny_truthy_bool ⟨H1,I1,q⟩
theorem pt_val {e:Expr} {t:TE} (h:PE X e t) (he: ∀ whole,isTrue e X.env whole=(do let v ←whole;standAt e.pos;holding [v] (truthy v)):=by intro _;rfl):PT X e (tB t):=by
 intro pZ s σ H Q I hw
 refine isTrue_plain (thn (h pZ s σ H _ I hw) fun v s1 ⟨x,H1,I1,r1,q1⟩=>?_) (he _)
 obtain⟨d,rfl,q⟩:=q1
 cases r1
 exact wpAny_truthy_bool ⟨H1,I1,q⟩
variable {tA tB':TT} {rest:List Expr}
noncomputable def tAnd (t u:TT):TT:=fun σ H Q=>t σ H fun c H1=>if c=true then u σ H1 Q else Q false H1
noncomputable def tOr (t u:TT):TT:=fun σ H Q=>t σ H fun c H1=>if c=true then Q true H1 else u σ H1 Q
noncomputable def tNot (t:TT):TT:=fun σ H Q=>t σ H fun c H1=>Q (!c) H1
theorem pw_and1 (ha:PT X a tA):PW X (.BoolOp .And [a] pos) tA:=by
 intro wh pZ s σ H Q I h
 refine isTrue_and (thn (ha pZ s σ H Q I h) fun c s1 e=>?_)
 cases c with
 |true=>exact isTrue_and_nil e
 |false=>exact e
theorem pw_or1 (ha:PT X a tA):PW X (.BoolOp .Or [a] pos) tA:=by
 intro wh pZ s σ H Q I h
 refine isTrue_or (thn (ha pZ s σ H Q I h) fun c s1 e=>?_)
 cases c with
 |false=>exact isTrue_or_nil e
 |true=>exact e
theorem pw_and (ha:PT X a tA) (hb:PW X (.BoolOp .And (b::rest) pos) tB'):PW X (.BoolOp .And (a::b::rest) pos) (tAnd tA tB'):=by
 intro wh pZ s σ H Q I h
 refine isTrue_and (thn (ha pZ s σ H _ I h) fun c s1 ⟨H1,I1,q1⟩=>?_)
 cases c with
 |true=>exact hb wh pZ s1 σ H1 Q I1 q1
 |false=>exact⟨H1,I1,q1⟩
theorem pw_or (ha:PT X a tA) (hb:PW X (.BoolOp .Or (b::rest) pos) tB'):PW X (.BoolOp .Or (a::b::rest) pos) (tOr tA tB'):=by
 intro wh pZ s σ H Q I h
 refine isTrue_or (thn (ha pZ s σ H _ I h) fun c s1 ⟨H1,I1,q1⟩=>?_)
 cases c with
 |true=>exact⟨H1,I1,q1⟩
 |false=>exact hb wh pZ s1 σ H1 Q I1 q1
theorem pt_not (ha:PT X a tA):PT X (.UnaryOp .Not a pos) (tNot tA):=by
 intro pZ s σ H Q I h
 exact isTrue_not (ha pZ s σ H (fun c H1=>Q (!c) H1) I h)
noncomputable def tAndV (ta tb:TE):TE:=fun σ H Q=>ta σ H fun x H1=> ∃ c,x= .bl c∧if c=true then tb σ H1 Q else Q (.bl false) H1
theorem pe_one {op} (h:PE X a t):PE X (.BoolOp op [a] pos) t:=fun pZ s σ H Q I hw=>BoolOp_one (h pZ s σ H Q I hw)
theorem pe_and (ha:PE X a ta) (hb:PE X (.BoolOp .And (b::rest) pos) tb):PE X (.BoolOp .And (a::b::rest) pos) (tAndV ta tb):=by
 intro pZ s σ H Q I h
 refine BoolOp_and (thn (ha pZ s σ H _ I h) fun v s1 ⟨x,H1,I1,r1,q1⟩=>?_)
 obtain⟨c,rfl,q1⟩:=q1
 cases r1
 refine wpAny_truthy_bool ?_
 cases c with
 |true=>exact hb pZ s1 σ H1 Q I1 q1
 |false=>exact⟨.bl false,H1,I1,rfl,q1⟩
noncomputable def tIf (t:TT) (ta tb:TE):TE:=fun σ H Q=>t σ H fun c H1=>if c=true then ta σ H1 Q else tb σ H1 Q
theorem pe_ifExp {c:Expr} (hc:PT X c tA) (ha:PE X a ta) (hb:PE X b tb):PE X (.IfExp c a b pos) (tIf tA ta tb):=by
 intro pZ s σ H Q I h
 refine wpAny_IfExp (thn (hc pZ s σ H _ I h) fun d s1 ⟨H1,I1,q1⟩=>?_)
 cases d with
 |true=>exact ha pZ s1 σ H1 Q I1 q1
 |false=>exact hb pZ s1 σ H1 Q I1 q1
end
end L2
namespace L2
open PySem PySem.Spec PyProof.Rows
def SqL (K:PySem.W.Frag) (H:Hp) (a:Addr) (xs:List V):Prop:=
 Rd H a (.lst xs)∨
  ∃ (o:Obj) (its:Array Value) (n:Nat),K.lookup a=some o∧o.cls= .type "list"∧o.dict=none∧o.data= .seq its n∧its.size≤sizeLine∧Vals xs its.toList
def SqT (K:PySem.W.Frag) (H:Hp) (a:Addr) (xs:List V):Prop:=
 Rd H a (.tup xs)∨
  ∃ (o:Obj) (its:Array Value) (n:Nat),K.lookup a=some o∧o.cls= .type "tuple"∧o.data= .seq its n∧its.size≤sizeLine∧Vals xs its.toList
noncomputable def absV:Value→Option V
 | .none=>some .non
 | .bool b=>some (.bl b)
 | .int i _=>some (.int i)
 | .str x _=>some (.str x)
 | .bytes b _=>some (.byt b)
 | .float b _=>some (.flt b)
 | .ref a=>some (.ref a)
 | .type n=>some (.ty n)
 |_=>none
theorem RelV.abs (r:RelV x u):absV u=some x:=by
 cases x with
 |non=>cases r;rfl
 |bl _=>cases r;rfl
 |int _=>obtain⟨t,rfl⟩:=r;rfl
 |str _=>obtain⟨t,rfl⟩:=r;rfl
 |byt _=>obtain⟨t,rfl⟩:=r;rfl
 |flt _=>obtain⟨t,rfl⟩:=r;rfl
 |ref _=>cases r;rfl
 |ty _=>cases r;rfl
theorem RelV.inj {x y:V} {u:Value} (r:RelV x u) (q:RelV y u):x=y:=Option.some.inj (r.abs.symm.trans q.abs)
theorem Vals.inj: ∀ {xs ys:List V} {us:List Value},Vals xs us→Vals ys us→xs=ys
 |_,_,_,.nil,.nil=>rfl
 |_,_,_,.cons r t,.cons r' t'=>by rw[r.inj r',Vals.inj t t']
section
variable {X:Cx} {pZ:List (Addr×Obj)} {σ:St} {H:Hp} {s:Shared} {a:Addr} {xs ys:List V}
theorem SqL.of {K:PySem.W.Frag} (h:H a=some (.lst xs)):SqL K H a xs:=.inl (.inl h)
theorem SqT.of {K:PySem.W.Frag} (h:H a=some (.tup xs)):SqT K H a xs:=.inl (.inl h)
theorem Inv.list (I:Inv X pZ σ H s) (h:SqL X.K H a xs): ∃ its:List Value,Vals xs its∧PlainL s.heap a its.toArray∧xs.length≤sizeLine:=by
 rcases h with h|⟨o,its,n,hk,hc,hd,hs,hz,r⟩
 ·obtain⟨z,its,n,r,e⟩:=h.ok I.hok
  exact⟨its,r,⟨_,n,e,rfl,rfl,rfl⟩,z⟩
 ·refine⟨its.toList,r,⟨o,n,I.kIn a o hk,hc,hd,by simpa using hs⟩,?_⟩
  have e:=r.length
  simp only[Array.length_toList] at e
  lia
theorem Inv.tuple (I:Inv X pZ σ H s) (h:SqT X.K H a xs): ∃ its:List Value,Vals xs its∧IsTup s.heap a its.toArray∧xs.length≤sizeLine:=by
 rcases h with h|⟨o,its,n,hk,hc,hs,hz,r⟩
 ·obtain⟨z,its,r,p⟩:=h.ok I.hok
  exact⟨its,r,p,z⟩
 ·refine⟨its.toList,r,⟨o,I.kIn a o hk,hc,n,by simpa using hs⟩,?_⟩
  have e:=r.length
  simp only[Array.length_toList] at e
  lia
theorem Inv.list_inj (I:Inv X pZ σ H s) (h:SqL X.K H a xs) (h':SqL X.K H a ys):xs=ys:=by
 obtain⟨its,r,⟨o,n,e,_,_,d⟩,_⟩:=I.list h
 obtain⟨its',r',⟨o',n',e',_,_,d'⟩,_⟩:=I.list h'
 rw[e] at e';cases e'
 rw[d] at d'
 injection d' with d1 _
 have:its=its':=by simpa using congrArg Array.toList d1
 subst this
 exact r.inj r'
theorem Inv.tuple_inj (I:Inv X pZ σ H s) (h:SqT X.K H a xs) (h':SqT X.K H a ys):xs=ys:=by
 obtain⟨its,r,⟨o,e,_,n,d⟩,_⟩:=I.tuple h
 obtain⟨its',r',⟨o',e',_,n',d'⟩,_⟩:=I.tuple h'
 rw[e] at e';cases e'
 rw[d] at d'
 injection d' with d1 _
 have:its=its':=by simpa using congrArg Array.toList d1
 subst this
 exact r.inj r'
end
abbrev Cx.wish (X:Cx) (E:Value→Shared→Prop):Cx:={X with xe:=E}
abbrev Cx.nox (X:Cx):Cx:=X.wish fun _ _=>False
theorem Cx.Ok.wish {X:Cx} (ok:X.Ok) (E:Value→Shared→Prop):(X.wish E).Ok:=
 ⟨ok.mod,ok.kind,ok.glob,ok.blt,ok.above,ok.inj,ok.has,ok.cab,ok.hd,ok.frames,ok.stk,ok.exf,ok.bs,ok.bsz,ok.noex,ok.exfs,ok.funs,ok.frf⟩
theorem Cx.Ok.unwish {X:Cx} (ok:(X.wish E).Ok):X.Ok:=
 ⟨ok.mod,ok.kind,ok.glob,ok.blt,ok.above,ok.inj,ok.has,ok.cab,ok.hd,ok.frames,ok.stk,ok.exf,ok.bs,ok.bsz,ok.noex,ok.exfs,ok.funs,ok.frf⟩
section
variable {X:Cx} {pZ:List (Addr×Obj)} {σ:St} {H:Hp} {s:Shared} {E:Value→Shared→Prop}
theorem Inv.wish (I:Inv X pZ σ H s) (E:Value→Shared→Prop):Inv (X.wish E) pZ σ H s:=⟨I.ok.wish E,I.os,I.bare,I.base,I.loc,I.cell,I.free,I.freeC,I.pin,I.hok,I.len⟩
theorem Inv.unwish (I:Inv (X.wish E) pZ σ H s):Inv X pZ σ H s:=⟨I.ok.unwish,I.os,I.bare,I.base,I.loc,I.cell,I.free,I.freeC,I.pin,I.hok,I.len⟩
theorem SP.unwish (h:SP (X.wish E) pZ D f s'):SP X pZ D f s':=by
 cases f with
 |next=>obtain⟨σ',H',I,q⟩:=h;exact⟨σ',H',I.unwish,q⟩
 |brk=>obtain⟨σ',H',I,q⟩:=h;exact⟨σ',H',I.unwish,q⟩
 |cont=>obtain⟨σ',H',I,q⟩:=h;exact⟨σ',H',I.unwish,q⟩
 |ret u=>obtain⟨v,σ',H',I,r,q⟩:=h;exact⟨v,σ',H',I.unwish,r,q⟩
theorem PSs.nox {st:List Stmt} {t:TS} (h:PSs X.nox st t):PSs X st t:=fun pZ s σ H D I hw=>
 wpAny_mono (h pZ s σ H D (I.wish _) hw) (fun _ _ q=>q.unwish) fun _ _ z=>False.elim z
end
section
variable {X:Cx} {st:Stmt} {rest:List Stmt} {t u:TS} {e:Expr} {te:TE} {pos:Pos}
def tNext:TS:=fun D σ H=>D.nx σ H
noncomputable def tSeq (t u:TS):TS:=fun D σ H=>t {D with nx:=u D} σ H
theorem pss_nil:PSs X [] tNext:=fun _ _ σ H _ I h=>wpAny_execs_nil ⟨σ,H,I,h⟩
theorem pss_cons (h1:PS X st t) (h2:PSs X rest u):PSs X (st::rest) (tSeq t u):=by
 intro pZ s σ H D I h
 refine wpAny_execs_cons (thn (h1 pZ s σ H {D with nx:=u D} I h) fun f s1 q=>?_)
 cases f with
 |next=>
  obtain⟨σ',H',I',q⟩:=q
  exact h2 pZ s1 σ' H' D I' q
 |ret v=>exact q
 |brk=>exact q
 |cont=>exact q
theorem pss_one (h1:PS X st t):PSs X [st] t:=by
 intro pZ s σ H D I h
 refine wpAny_execs_cons (thn (h1 pZ s σ H D I h) fun f s1 q=>?_)
 cases f with
 |next=>exact wpAny_execs_nil q
 |ret v=>exact q
 |brk=>exact q
 |cont=>exact q
theorem Inv.quiet {pZ:List (Addr×Obj)} {σ:St} {H:Hp} {s:Shared} (I:Inv X pZ σ H s):interactive X.env=false:=by simp[interactive,I.ok.kind]
noncomputable def tDrop (te:TE):TS:=fun D σ H=>te σ H fun _ H1=>D.nx σ H1
theorem ps_expr (he:PE X e te) (hs:swapsWith e none pos.line X.env=pure false:=by rfl):PS X (.Expr e pos) (tDrop te):=by
 intro pZ s σ H D I h
 exact wpAny_Expr_any (thn (he pZ s σ H _ I h) fun v s1 ⟨x,H1,I1,r1,q1⟩=>⟨σ,H1,I1,q1⟩) I.quiet hs
noncomputable def tRet (te:TE):TS:=fun D σ H=>te σ H D.rt
theorem ps_ret (he:PE X e te):PS X (.Return (some e) pos) (tRet te):=by
 intro pZ s σ H D I h
 exact wpAny_Return_some (thn (he pZ s σ H _ I h) fun v s1 ⟨x,H1,I1,r1,q1⟩=>⟨x,σ,H1,I1,r1,q1⟩)
noncomputable def tIfS (c:TT) (t u:TS):TS:=fun D σ H=>c σ H fun b H1=>if b=true then t D σ H1 else u D σ H1
theorem ps_if {c:Expr} {a b:List Stmt} {tc:TT} (hc:PT X c tc) (ha:PSs X a t) (hb:PSs X b u):PS X (.If c a b pos) (tIfS tc t u):=by
 intro pZ s σ H D I h
 refine wpAny_If (thn (hc pZ s σ H _ I h) fun d s1 ⟨H1,I1,q1⟩=>?_)
 cases d with
 |true=>exact ha pZ s1 σ H1 D I1 q1
 |false=>exact hb pZ s1 σ H1 D I1 q1
end
abbrev TG:=V→St→Hp→(St→Hp→Prop)→Prop
abbrev TGs:=List V→St→Hp→(St→Hp→Prop)→Prop
def PG (X:Cx) (target:Expr) (t:TG):Prop:=
 ∀ (pZ:List (Addr×Obj)) (s:Shared) (σ:St) (H:Hp) (v:V) (u:Value) (Q:St→Hp→Prop),Inv X pZ σ H s→RelV v u→t v σ H Q→
  wpAny (model X.prog X.w) X.A (assign target X.env u) (fun _ s'=> ∃ σ' H',Inv X pZ σ' H' s'∧Q σ' H') X.xe s
def PGs (X:Cx) (ts:List Expr) (t:TGs):Prop:=
 ∀ (pZ:List (Addr×Obj)) (s:Shared) (σ:St) (H:Hp) (vs:List V) (us:List Value) (Q:St→Hp→Prop),Inv X pZ σ H s→Vals vs us→t vs σ H Q→
  wpAny (model X.prog X.w) X.A (assignInOrder ((assignEach ts X.env).map (·.2)) us) (fun _ s'=> ∃ σ' H',Inv X pZ σ' H' s'∧Q σ' H') X.xe s
abbrev TSet:=V→V→V→Hp→(Hp→Prop)→Prop
def PSet (X:Cx) (t:TSet):Prop:=
 ∀ (pZ:List (Addr×Obj)) (s:Shared) (σ:St) (H:Hp) (o i v:V) (ov iv u:Value) (Q:Hp→Prop),Inv X pZ σ H s→RelV o ov→RelV i iv→RelV v u→t o i v H Q→
  wpAny (model X.prog X.w) X.A (setItem ov iv u) (fun _ s'=> ∃ H',Inv X pZ σ H' s'∧Q H') X.xe s
section
variable {X:Cx} {pos:Pos}
noncomputable def gName (i:Nat):TG:=fun v σ H Q=>Q (σ.set i (some v)) H
theorem pg_name (hN:X.N.Nodup) (hi:X.N[i]?=some x) (hx:Loc X.env.scope x) (hf:X.fn x=true∨X.env.scope.names.lookup x=some .local:=by first|exact .inl rfl|exact .inr rfl|assumption):PG X (.Name x pos) (gName i):=by
 intro pZ s σ H v u Q I r h
 exact wpAny_assign_Name (store_ok I hN hi hx r (fun s' I'=>⟨_,H,I',h⟩) hf)
def gNil:TGs:=fun vs σ H Q=>vs=[]∧Q σ H
noncomputable def gCons (t:TG) (u:TGs):TGs:=fun vs σ H Q=> ∃ v r,vs=v::r∧t v σ H fun σ' H'=>u r σ' H' Q
theorem pgs_nil:PGs X [] gNil:=by
 intro pZ s σ H vs us Q I r h
 obtain⟨e,h⟩:=h
 subst e
 cases r
 exact assignInOrder_nil ⟨σ,H,I,h⟩
theorem pgs_cons {e:Expr} {es:List Expr} {t:TG} {u:TGs} (h1:PG X e t) (h2:PGs X es u)
  (hs:(assignEach (e::es) X.env).map (·.2)=assign e X.env::(assignEach es X.env).map (·.2):=by rfl):PGs X (e::es) (gCons t u):=by
 intro pZ s σ H vs us Q I r h
 obtain⟨v,vr,e1,h⟩:=h
 subst e1
 cases r with
 |cons r rr=>
  rw[hs]
  refine assignInOrder_cons (thn (h1 pZ s σ H _ _ _ I r h) fun _ s1 ⟨σ1,H1,I1,q1⟩=>?_)
  exact h2 pZ s1 σ1 H1 _ _ Q I1 rr q1
noncomputable def gTup (K:PySem.W.Frag) (n:Nat) (t:TGs):TG:=fun v σ H Q=> ∃ a xs,v= .ref a∧SqT K H a xs∧xs.length=n∧t xs σ H Q
theorem pg_tup (hc:X.calm=true) (h:PGs X es t)
  (hn:(assignEach es X.env).length=n:=by rfl) (hst:(assignEach es X.env).findIdx? (·.1)=none:=by rfl):PG X (.Tuple es k pos) (gTup X.K n t):=by
 intro pZ s σ H v u Q I r hw
 obtain⟨a,xs,e1,hq,hl,hw⟩:=hw
 subst e1
 cases r
 obtain⟨its,rv,ht,hz⟩:=I.tuple hq
 refine assign_Tuple_tuple (I.ok.hd hc) ht (by simp[hn,←hl,rv.length]) hst fun h' hx=>?_
 have I1:Inv X pZ σ H {s with heap:=h'}:=I.kept (t':=s.toks) fun b o e=>hx b o (Nat.ne_of_lt (Heap.lt_size e)) e
 exact h pZ _ σ H xs _ Q I1 (by simpa using rv) hw
noncomputable def gSub (to ti:TE) (t:TSet):TG:=fun v σ H Q=>to σ H fun o H1=>ti σ H1 fun i H2=>t o i v H2 fun H3=>Q σ H3
theorem pg_sub {o i:Expr} {to ti:TE} {t:TSet} (ho:PE X o to) (hi:PE X i ti) (hs:PSet X t)
  (ha: ∀ v,assign (.Subscript o i pos) X.env v=(do
   let ov ←holding [v] (eval o X.env)
   let iv ←holding [v,ov] (eval i X.env)
   standAt pos
   holding [v,ov,iv] (setItem ov iv v)
   release [v,ov,iv] []):=by intro _;rfl):PG X (.Subscript o i pos) (gSub to ti t):=by
 intro pZ s σ H v u Q I r h
 rw[ha]
 refine wpAny_bind (wpAny_holding (thn (ho pZ s σ H _ I h) fun ov s1 ⟨x,H1,I1,r1,q1⟩=>?_))
 refine wpAny_bind (wpAny_holding (thn (hi pZ s1 σ H1 _ I1 q1) fun iv s2 ⟨y,H2,I2,r2,q2⟩=>?_))
 refine wpAny_bind (wpAny_standAt (wpAny_bind (wpAny_holding (thn (hs pZ s2 σ H2 x y v ov iv u _ I2 r1 r2 r q2) fun _ s3 ⟨H3,I3,q3⟩=>?_))))
 exact wpAny_release ⟨σ,H3,I3,q3⟩
noncomputable def tAsg (te:TE) (g:TG):TS:=fun D σ H=>te σ H fun x H1=>g x σ H1 D.nx
theorem ps_asg {tg e:Expr} {te:TE} {g:TG} (he:PE X e te) (hg:PG X tg g) (hs:swapsWithSole [tg] e pos.line X.env=pure false:=by rfl) (hw:swappedStores [tg] e X.env=pure none:=by rfl)
  (h1:(assignEach [tg] X.env).map (·.2)=[assign tg X.env]:=by rfl):PS X (.Assign [tg] e pos) (tAsg te g):=by
 intro pZ s σ H D I h
 refine wpAny_Assign_stores (thn (he pZ s σ H _ I h) fun v s1 ⟨x,H1,I1,r1,q1⟩=>?_) hs hw
 rw[h1]
 exact thn (hg pZ s1 σ H1 x v _ I1 r1 q1) fun _ s2 q=>q
theorem ps_set {i:Nat} {x:Str} {e:Expr} {te:TE} {pos':Pos} (hN:X.N.Nodup) (hi:X.N[i]?=some x) (hx:Loc X.env.scope x) (he:PE X e te) (hs:swapsWith e (some (.Name x pos')) pos.line X.env=pure false:=by rfl) (hf:X.fn x=true∨X.env.scope.names.lookup x=some .local:=by first|exact .inl rfl|exact .inr rfl|assumption):
  PS X (.Assign [.Name x pos'] e pos) (tAsg te (gName i)):=by
 intro pZ s σ H D I h
 refine wpAny_Assign_Name (thn (he pZ s σ H _ I h) fun v s1 ⟨y,H1,I1,r1,q1⟩=>?_) hs
 exact store_ok I1 hN hi hx r1 (fun s2 I2=>⟨_,H1,I2,q1⟩) hf
noncomputable def tPar (i j:Nat) (ta:TA):TS:=fun D σ H=>ta σ H fun vs H1=> ∃ v w,vs=[v,w]∧D.nx ((σ.set i (some v)).set j (some w)) H1
theorem ps_par {i j:Nat} {x y:Str} {a b:Expr} {ta:TA} {px py pt:Pos} {kt k2 pt2} (hc:X.calm=true) (hN:X.N.Nodup) (hi:X.N[i]?=some x) (hj:X.N[j]?=some y) (hij:i≠j)
  (hx:X.env.scope.names.lookup x=some .local) (hy:X.env.scope.names.lookup y=some .local) (ha:PA X [a,b] ta)
  (hw:swappedStores [.Tuple [.Name x px,.Name y py] kt pt] (.Tuple [a,b] k2 pt2) X.env=pure (some [x,y]))
  (hs:swapsWithSole [.Tuple [.Name x px,.Name y py] kt pt] (.Tuple [a,b] k2 pt2) pos.line X.env=pure false:=by rfl):
  PS X (.Assign [.Tuple [.Name x px,.Name y py] kt pt] (.Tuple [a,b] k2 pt2) pos) (tPar i j ta):=by
 intro pZ s σ H D I h
 rw[exec_Assign_arm]
 refine wpAny_bind (wpAny_standAt ?_)
 rw[hs]
 refine wpAny_bind (wpAny_pure ?_)
 rw[if_neg (by decide)]
 refine wpAny_bind (Tuple_ (thn (ha _ pZ s σ H _ I h) fun us s1 ⟨vs,H1,I1,r1,q1⟩=>?_))
 obtain⟨v,w,e1,q1⟩:=q1
 subst e1
 obtain⟨u1,u2,rfl,rv,rw'⟩: ∃ u1 u2,us=[u1,u2]∧RelV v u1∧RelV w u2:=by
  cases r1 with
  |cons p q=>
   cases q with
   |cons p' q'=>
    cases q'
    exact⟨_,_,rfl,p,p'⟩
 refine wpAny_newObj_type ?_ (by show 2≤sizeLine;decide)
 have I2:Inv X pZ σ H1 {s1 with heap:=s1.heap.push {cls:=.type "tuple",data:=.seq [u1,u2].toArray}}:=I1.kept (t':=s1.toks) fun b o e=>Heap.get?_push_of_some _ e
 rw[hw]
 refine wpAny_bind (wpAny_pure ?_)
 show wpAny (model X.prog X.w) X.A (do rule "assign.swapped-stores";let items ←unpackItems (.ref s1.heap.objs.size) 2 none;assignInOrder [fun v=>bindName X.env y v,fun v=>bindName X.env x v] items.reverse;pure Flow.next) _ _ _
 refine wpAny_bind (wpAny_rule (wpAny_bind (unpackItems_tuple (items:= #[u1,u2]) (I.ok.hd hc) (IsTup.new s1.heap _) fun h' hx'=>?_)))
 have I3:=I2.kept (h':=h') (t':=s1.toks) fun b o e=>hx' b o (Nat.ne_of_lt (Heap.lt_size e)) e
 show wpAny _ _ (assignInOrder [fun v=>bindName X.env y v,fun v=>bindName X.env x v] [u2,u1] >>= fun _=>pure Flow.next) _ _ _
 refine wpAny_bind (assignInOrder_cons (wpAny_bindName (store_ok I3 hN hj (.inl hy) rw' (fun s2 I4=>?_) (.inr hy))))
 refine assignInOrder_cons (wpAny_bindName (store_ok I4 hN hi (.inl hx) rv (fun s3 I5=>assignInOrder_nil (wpAny_pure ?_)) (.inr hx)))
 rw[List.set_comm _ _ (Ne.symm hij)] at I5
 exact⟨_,H1,I5,q1⟩
end
section
variable {X:Cx} {pos:Pos}
noncomputable def tWhile (c:TT) (tb:TS):TS:=fun D σ H=> ∃ W:Nat→St→Hp→Prop,(∃ m,W m σ H)∧∀ m σ H,W m σ H→
 c σ H fun b H1=>if b=true then ∃ N:St→Hp→Prop,(∀ σ' H',N σ' H'→∃ m',m' < m∧W m' σ' H')∧tb {D with nx:=N,ct:=N,bk:=D.nx} σ H1 else D.nx σ H1
theorem ps_while {c:Expr} {body:List Stmt} {tc:TT} {tb:TS} (hp:PassesOwn (model X.prog X.w) X.A X.env X.xe) (hc:PT X c tc) (hb:PSs X body tb):PS X (.While c body [] pos) (tWhile tc tb):=by
 intro pZ s σ H D I h
 obtain⟨W,⟨m0,w0⟩,turn⟩:=h
 refine wpAny_While (codeAny_whileLoop (fun n s'=> ∃ σ' H',Inv X pZ σ' H' s'∧W n σ' H') ?_ m0 ⟨σ,H,I,w0⟩)
 rintro n s1 ⟨σ1,H1,I1,w1⟩
 refine wpAny_passesOwn hp (thn (hc pZ s1 σ1 H1 _ I1 (turn n σ1 H1 w1)) fun b s2 ⟨H2,I2,q2⟩=>?_)
 cases b with
 |true=>
  obtain⟨N,hN,q2⟩:=q2
  rw[if_pos rfl]
  refine wpAny_passesOwn hp (thn (hb pZ s2 σ1 H2 _ I2 q2) fun f s3 q3=>?_)
  cases f with
  |next=>
   obtain⟨σ3,H3,I3,n3⟩:=q3
   obtain⟨m',hm,w3⟩:=hN σ3 H3 n3
   exact⟨m',hm,σ3,H3,I3,w3⟩
  |cont=>
   obtain⟨σ3,H3,I3,n3⟩:=q3
   obtain⟨m',hm,w3⟩:=hN σ3 H3 n3
   exact⟨m',hm,σ3,H3,I3,w3⟩
  |brk=>exact q3
  |ret v=>exact q3
 |false=>
  rw[if_neg Bool.false_ne_true]
  exact wpAny_execs_nil ⟨σ1,H2,I2,q2⟩
end
structure It where
 go:Nat→Hp→Prop
 yld:Nat→Hp→V→Hp→Prop
 stop:Nat→Hp→Prop
def FpOk (X:Cx) (pZ:List (Addr×Obj)) (H:Hp) (b:Addr):Prop:=
 H b=none∧b≠X.env.locals∧b∉X.fs∧(b∈X.ex∨X.s₀.heap.objs.size≤b)∧(∀ x c,X.env.cells.lookup x=some c→c≠b)∧∀ p∈X.pn++pZ,p.1≠b
theorem Inv.fpOk {X:Cx} {pZ:List (Addr×Obj)} {σ:St} {H H':Hp} {s:Shared} {b:Addr} (I:Inv X pZ σ H s) (hb:s.heap.objs.size≤b) (hn:H' b=none):FpOk X pZ H' b:=by
 refine⟨hn,Nat.ne_of_gt (Nat.lt_of_lt_of_le I.lt hb),I.nofs hb,.inr (Nat.le_trans I.sz hb),fun x c e z=>?_,fun p hp z=>?_⟩
 ·obtain⟨v,q⟩:=I.cell x c e
  exact absurd (Nat.lt_of_lt_of_le q.lt (by rw[z];exact hb)) (Nat.lt_irrefl _)
 ·exact absurd (Nat.lt_of_lt_of_le (Heap.lt_size (I.pin p hp).1) (by rw[z];exact hb)) (Nat.lt_irrefl _)
structure Turn (P:Program) (w:World) (K:PySem.W.Frag) (tg:Expr) (J:It) (fp:List Addr) (it:Addr) (tn:Nat→Heap→Prop):Prop where
 mem:it∈fp
 obj: ∀ i h,tn i h→∀ b∈fp,∃ o,h.get? b=some o∧∀ v,o.data≠.cell v
 keep: ∀ i h h',tn i h→(∀ b∈fp,∀ o,h.get? b=some o→h'.get? b=some o)→tn i h'
 item: ∀ (X:Cx),X.prog=P→X.w=w→X.K=K→X.calm=true→∀ (i:Nat) (pZ:List (Addr×Obj)) (s:Shared) (σ:St) (H:Hp) (E:Value→Shared→Prop),Inv X pZ σ H s→(∀ b∈fp,FpOk X pZ H b)→tn i s.heap→J.go i H→
  wpAny (model P w) X.A (pyNext (.ref it)) (fun r s1=> ∃ u,r=some u∧
   wpAny (model P w) X.A (letOwnedTupleGo tg (.ref it) u) (fun _ s2=> ∃ x H',Inv X pZ σ H' s2∧RelV x u∧J.yld i H x H'∧tn (i+1) s2.heap∧∀ b∈fp,H' b=none) E s1) E s
 done: ∀ (X:Cx),X.prog=P→X.w=w→X.K=K→X.calm=true→∀ (i:Nat) (pZ:List (Addr×Obj)) (s:Shared) (σ:St) (H:Hp) (E:Value→Shared→Prop),Inv X pZ σ H s→(∀ b∈fp,FpOk X pZ H b)→tn i s.heap→J.stop i H→
  wpAny (model P w) X.A (pyNext (.ref it)) (fun r s1=>r=none∧Inv X pZ σ H s1) E s
 self: ∀ (A:Around) (i:Nat) (s:Shared) (Q:Value→Shared→Prop) (E:Value→Shared→Prop),tn i s.heap→Q (.ref it) s→wpAny (model P w) A (pyIter (.ref it)) Q E s
abbrev TI:=St→Hp→(It→Hp→Prop)→Prop
def PIE (X:Cx) (pZ:List (Addr×Obj)) (σ:St) (tg:Expr) (R:It→Hp→Prop) (itv:Value) (s2:Shared):Prop:=
 ∃ (it:Addr) (fp:List Addr) (tn:Nat→Heap→Prop) (J:It) (H':Hp),itv= .ref it∧Inv X pZ σ H' s2∧Turn X.prog X.w X.K tg J fp it tn∧tn 0 s2.heap∧(∀ b∈fp,FpOk X pZ H' b)∧R J H'
def PI (X:Cx) (tg iter:Expr) (wi:TI):Prop:=
 ∀ (pZ:List (Addr×Obj)) (s:Shared) (σ:St) (H:Hp) (R:It→Hp→Prop),Inv X pZ σ H s→wi σ H R→
  wpAny (model X.prog X.w) X.A (eval iter X.env) (fun v s1=>wpAny (model X.prog X.w) X.A (pyIter v) (PIE X pZ σ tg R) X.xe s1) X.xe s
theorem go_of (ho : s.heap.get? it = some o) (hc : o.cls = .type n) (hd : o.data = .fields vs)
    (hn : ["enumerate", "zip", "dict_itemiterator", "dict_reverseitemiterator", "odict_iterator", "itertools.zip_longest", "itertools.pairwise"].contains n = false) (hQ : Q () s): wpAny M A (letOwnedTupleGo tg (.ref it) u) Q E s := by
  unfold letOwnedTupleGo
  cases tg <;> first
    | exact wpAny_pure hQ
    | (cases u <;> first
        | exact wpAny_pure hQ
        | (refine wpAny_bind (wpAny_load ho ?_)
           rw [hc, hd]
           show wpAny M A (if (["enumerate", "zip", "dict_itemiterator", "dict_reverseitemiterator", "odict_iterator", "itertools.zip_longest", "itertools.pairwise"].contains n && vs[0]? == some (rawInt _)) = true then _ else _) Q E s
           rw [if_neg (by intro h; rw [hn, Bool.false_and] at h; cases h)]
           exact wpAny_pure hQ))
noncomputable def Itl (K:PySem.W.Frag) (a:Addr):It:=
 ⟨fun i H=> ∃ xs x,SqL K H a xs∧xs[i]?=some x,fun i H x H'=>H'=H∧∀ xs,SqL K H a xs→xs[i]?=some x,fun i H=> ∃ xs,SqL K H a xs∧xs.length≤i⟩
noncomputable def Itt (K:PySem.W.Frag) (a:Addr):It:=
 ⟨fun i H=> ∃ xs x,SqT K H a xs∧xs[i]?=some x,fun i H x H'=>H'=H∧∀ xs,SqT K H a xs→xs[i]?=some x,fun i H=> ∃ xs,SqT K H a xs∧xs.length≤i⟩
noncomputable def Itr (lo:Int) (n:Nat):It:=⟨fun i _=>i < n,fun i H x H'=>H'=H∧x= .int (lo+i),fun i _=>n≤i⟩
theorem turn_list {P:Program} {w:World} {K:PySem.W.Frag} {tg:Expr} (a it:Addr):Turn P w K tg (Itl K a) [it] it (fun i h=>h.IsListIter it a i) where
 mem:=by simp
 obj:=fun i h st b hb=>by
  have e:b=it:=by simpa using hb
  subst e
  obtain⟨o,e,c,d⟩:=st
  exact⟨o,e,fun v z=>by rw[d] at z;cases z⟩
 keep:=fun i h h' st k=>st.at fun o e=>k it (by simp) o e
 item:=by
  intro X hP hw hK hc i pZ s σ H E I hf st hg
  subst hP hw hK
  obtain⟨xs,x,hq,hx⟩:=hg
  obtain⟨its,rv,p,hz⟩:=I.list hq
  obtain⟨u,hu,ru⟩:=rv.get hx
  obtain⟨f0,f1,f2,f3,f4,f5⟩:=hf it (by simp)
  refine wpAny_pyNext_list_item st p.isList (x:=u) (by simpa using hu) fun h' st' sb=>?_
  have I1:Inv X pZ σ H {s with heap:=h'}:=I.turned (t':=s.toks) (fun b o hb e=>(sb.2 b hb).trans e) f0 f1 f3 f4 f5
  obtain⟨o,e,c,d⟩:=id st'
  exact⟨u,rfl,go_of (s:={s with heap:=h'}) e c d (by decide) ⟨x,H,I1,ru,⟨rfl,fun ys hy=>by rw[I.list_inj hy hq];exact hx⟩,st',fun b hb=>(hf b hb).1⟩⟩
 done:=by
  intro X hP hw hK hc i pZ s σ H E I hf st hg
  subst hP hw hK
  obtain⟨xs,hq,hx⟩:=hg
  obtain⟨its,rv,p,hz⟩:=I.list hq
  obtain⟨f0,f1,f2,f3,f4,f5⟩:=hf it (by simp)
  have hl:=rv.length
  exact wpAny_pyNext_list_end (I.ok.hd hc) st p.isList (by simp;lia) fun h' eb=>⟨rfl,I.turned (t':=s.toks) (fun b o hb e=>eb b o hb e) f0 f1 f3 f4 f5⟩
 self:=fun _ _ _ _ _ st h=>wpAny_pyIter_listiter st h
theorem turn_tuple {P:Program} {w:World} {K:PySem.W.Frag} {tg:Expr} (a it:Addr):Turn P w K tg (Itt K a) [it] it (fun i h=>h.IsTupleIter it a i) where
 mem:=by simp
 obj:=fun i h st b hb=>by
  have e:b=it:=by simpa using hb
  subst e
  obtain⟨o,e,c,d⟩:=st
  exact⟨o,e,fun v z=>by rw[d] at z;cases z⟩
 keep:=fun i h h' st k=>st.at fun o e=>k it (by simp) o e
 item:=by
  intro X hP hw hK hc i pZ s σ H E I hf st hg
  subst hP hw hK
  obtain⟨xs,x,hq,hx⟩:=hg
  obtain⟨its,rv,p,hz⟩:=I.tuple hq
  obtain⟨u,hu,ru⟩:=rv.get hx
  obtain⟨f0,f1,f2,f3,f4,f5⟩:=hf it (by simp)
  refine wpAny_pyNext_tuple_item st (show s.heap.IsTuple a its.toArray from p) (x:=u) (by simpa using hu) fun h' st' sb=>?_
  have I1:Inv X pZ σ H {s with heap:=h'}:=I.turned (t':=s.toks) (fun b o hb e=>(sb.2 b hb).trans e) f0 f1 f3 f4 f5
  obtain⟨o,e,c,d⟩:=id st'
  exact⟨u,rfl,go_of (s:={s with heap:=h'}) e c d (by decide) ⟨x,H,I1,ru,⟨rfl,fun ys hy=>by rw[I.tuple_inj hy hq];exact hx⟩,st',fun b hb=>(hf b hb).1⟩⟩
 done:=by
  intro X hP hw hK hc i pZ s σ H E I hf st hg
  subst hP hw hK
  obtain⟨xs,hq,hx⟩:=hg
  obtain⟨its,rv,p,hz⟩:=I.tuple hq
  obtain⟨f0,f1,f2,f3,f4,f5⟩:=hf it (by simp)
  have hl:=rv.length
  exact wpAny_pyNext_tuple_end (I.ok.hd hc) st (show s.heap.IsTuple a its.toArray from p) (by simp;lia) fun h' eb=>⟨rfl,I.turned (t':=s.toks) (fun b o hb e=>eb b o hb e) f0 f1 f3 f4 f5⟩
 self:=fun _ _ _ _ _ st h=>wpAny_pyIter_tupleiter st h
theorem turn_range {P:Program} {w:World} {K:PySem.W.Frag} {tg:Expr} (it:Addr) (lo:Int) (n:Nat):Turn P w K tg (Itr lo n) [it] it (fun i h=>IsRangeIter h it (lo+(i:Nat) * 1) ((n:Int) - (i:Nat)) 1) where
 mem:=by simp
 obj:=fun i h st b hb=>by
  have e:b=it:=by simpa using hb
  subst e
  exact⟨_,st,fun v z=>by
   have z':Data.fields _=Data.cell v:=z
   cases z'⟩
 keep:=fun i h h' st k=>k it (by simp) _ st
 item:=by
  intro X hP hw hK hc i pZ s σ H E I hf st hg
  subst hP hw hK
  obtain⟨f0,f1,f2,f3,f4,f5⟩:=hf it (by simp)
  have W:=Walks.range (prog:=X.prog) (w:=X.w) (I.ok.hd hc) it lo 1 n
  refine W.item i s _ _ hg st fun v h' tk hv st' kk=>?_
  obtain⟨t,rfl⟩:=hv
  have I1:Inv X pZ σ H {s with heap:=h',toks:=tk}:=I.turned (fun b o hb e=>kk b o (by simpa using hb) e) f0 f1 f3 f4 f5
  refine⟨_,rfl,go_of (s:={s with heap:=h',toks:=tk}) (n:="range_iterator") st' rfl rfl (by decide) ⟨.int (lo+i),H,I1,⟨t,?_⟩,⟨rfl,rfl⟩,st',fun b hb=>(hf b hb).1⟩⟩
  rw[Int.mul_one]
 done:=by
  intro X hP hw hK hc i pZ s σ H E I hf st hg
  subst hP hw hK
  obtain⟨f0,f1,f2,f3,f4,f5⟩:=hf it (by simp)
  exact wpAny_pyNext_range_end (I.ok.hd hc) st (by have:n≤i:=hg;lia) fun h' eb=>⟨rfl,I.turned (t':=s.toks) (fun b o hb e=>eb b o hb e) f0 f1 f3 f4 f5⟩
 self:=fun _ _ _ _ _ st h=>wpAny_pyIter_rangeiter st h
end L2
namespace L2
open PySem PySem.Spec PyProof.Rows
section
variable {X:Cx} {tg:Expr}
noncomputable def iList (K:PySem.W.Frag) (tl:TE):TI:=fun σ H R=>tl σ H fun x H1=> ∃ a,x= .ref a∧(∃ xs,SqL K H1 a xs)∧R (Itl K a) H1
theorem pi_list {l:Expr} {tl:TE} (hl:PE X l tl):PI X tg l (iList X.K tl):=by
 intro pZ s σ H R I h
 refine thn (hl pZ s σ H _ I h) fun v s1 ⟨x,H1,I1,r1,q1⟩=>?_
 obtain⟨a,e,⟨xs,hq⟩,q⟩:=q1
 subst e
 cases r1
 obtain⟨its,rv,p,hz⟩:=I1.list hq
 refine wpAny_pyIter_list p.isList ?_
 refine⟨s1.heap.objs.size,[s1.heap.objs.size],_,_,H1,rfl,I1.kept (t':=s1.toks) fun b o e=>Heap.get?_push_of_some _ e,turn_list a _,⟨_,Heap.get?_push_size _ rfl,rfl,rfl⟩,fun b hb=>?_,q⟩
 have e:b=s1.heap.objs.size:=by simpa using hb
 subst e
 exact I1.fpOk (Nat.le_refl _) (I1.hok.fresh (Nat.le_refl _))
theorem range_it {pZ:List (Addr×Obj)} {σ:St} {H:Hp} {s:Shared} {R:It→Hp→Prop} {E:Value→Shared→Prop} {lo hi:Int} {t u v:Tok} {tk:Nat} (I:Inv X pZ σ H s) (h1: -(2 ^ 62)≤lo) (h2:lo < 2 ^ 62) (h3: -(2 ^ 62)≤hi) (h4:hi < 2 ^ 62)
  (q:R (Itr lo (hi - lo).toNat) H):wpAny (model X.prog X.w) X.A (pyIter (.ref s.heap.objs.size)) (PIE X pZ σ tg R) E {s with heap:=s.heap.push {cls:=.type "range",data:=.fields #[.int lo t,.int hi u,.int 1 v]},toks:=tk}:=by
 refine wpAny_pyIter_range (IsRange.new ..) (small_one h1 h2 h3 h4) ?_
 have I1:Inv X pZ σ H {s with heap:=s.heap.push {cls:=.type "range",data:=.fields #[.int lo t,.int hi u,.int 1 v]},toks:=tk}:=I.kept fun b o e=>Heap.get?_push_of_some _ e
 refine⟨(s.heap.push {cls:=.type "range",data:=.fields #[.int lo t,.int hi u,.int 1 v]}).objs.size,[(s.heap.push {cls:=.type "range",data:=.fields #[.int lo t,.int hi u,.int 1 v]}).objs.size],_,_,H,rfl,
  I1.kept (t':=tk) fun b o e=>Heap.get?_push_of_some _ e,turn_range _ lo (hi - lo).toNat,?_,fun b hb=>?_,q⟩
 ·have e1:lo+((0:Nat):Int) * 1=lo:=by simp
  have e2:(((hi - lo).toNat:Nat):Int) - ((0:Nat):Int)=Builtin.Range.rangeSize lo hi 1:=by rw[rangeSize_one];split<;>lia
  show IsRangeIter _ _ (lo+((0:Nat):Int) * 1) ((((hi - lo).toNat:Nat):Int) - ((0:Nat):Int)) 1
  rw[e1,e2]
  exact Heap.get?_push_size _ rfl
 ·have e:b=(s.heap.push {cls:=.type "range",data:=.fields #[.int lo t,.int hi u,.int 1 v]}).objs.size:=by simpa using hb
  subst e
  exact I1.fpOk (Nat.le_refl _) (I1.hok.fresh (Nat.le_refl _))
noncomputable def iRng1 (ta:TA):TI:=fun σ H R=>ta σ H fun vs H1=> ∃ j:Int,vs=[.int j]∧-(2 ^ 62)≤j∧j < 2 ^ 62∧R (Itr 0 j.toNat) H1
theorem pi_range1 {a:Expr} {ta:TA} {p pos:Pos} (hg:Gl X "range") (hm:X.mg "range"=none) (ha:PA X [a] ta) (hs:starEach [a] X.env=[(false,eval a X.env)]:=by rfl):PI X tg (.Call (.Name "range" p) [a] [] pos) (iRng1 ta):=by
 intro pZ s σ H R I h
 refine Call_ (ld_blt I hg hm boot_range (PyProof.Rows.callWith_type1 (thn (ha pos pZ s σ H _ I h) fun us s1 ⟨vs,H1,I1,r1,q1⟩=>?_) hs rfl))
 obtain⟨j,e,q1,q2,q⟩:=q1
 subst e
 cases r1 with
 |cons r rr=>
  cases rr
  obtain⟨t,rfl⟩:=r
  exact call_range_1 (range_it I1 (by lia) (by lia) q1 q2 (by simpa using q))
noncomputable def tFor (wi:TI) (g:TG) (tb:TS):TS:=fun D σ H=>wi σ H fun J H1=> ∃ W:Nat→Nat→St→Hp→Prop,(∃ m,W 0 m σ H1)∧∀ i m σ H,W i m σ H→
 (J.stop i H∧D.nx σ H)∨(J.go i H∧∃ N:St→Hp→Prop,(∀ σ' H',N σ' H'→∃ m',m' < m∧W (i+1) m' σ' H')∧∀ x H',J.yld i H x H'→g x σ H' fun σ2 H2=>tb {D with nx:=N,ct:=N,bk:=D.nx} σ2 H2)
noncomputable def pinsAt (fp:List Addr) (h:Heap):List (Addr×Obj):=fp.filterMap fun b=>(h.get? b).map fun o=>(b,o)
theorem mem_pinsAt {fp:List Addr} {h:Heap} {b:Addr} {o:Obj} (hb:b∈fp) (e:h.get? b=some o):(b,o)∈pinsAt fp h:=List.mem_filterMap.mpr ⟨b,hb,by rw[e];rfl⟩
theorem of_pinsAt (hp:p∈pinsAt fp h):p.1∈fp∧h.get? p.1=some p.2:=by
 obtain⟨b,hb,e⟩:=List.mem_filterMap.mp hp
 cases q:h.get? b with
 |none=>rw[q] at e;cases e
 |some o=>
  rw[q] at e
  have e':(b,o)=p:=Option.some.inj e
  subst e'
  exact⟨hb,q⟩
theorem Inv.pinned {pZ:List (Addr×Obj)} {σ:St} {H:Hp} {s:Shared} {fp:List Addr} (I:Inv X pZ σ H s) (hf: ∀ b∈fp,FpOk X pZ H b) (ho: ∀ b∈fp,∃ o,s.heap.get? b=some o∧∀ v,o.data≠.cell v):Inv X (pZ++pinsAt fp s.heap) σ H s:=
 I.pins_of fun p hp=>(List.mem_append.mp hp).elim (fun z=>I.pin p (List.mem_append_right _ z)) fun z=>by
  obtain⟨hb,e⟩:=of_pinsAt z
  obtain⟨f0,f1,f2,_⟩:=hf p.1 hb
  obtain⟨o,e',d⟩:=ho p.1 hb
  rw[e] at e';cases e'
  exact⟨e,f0,f1,f2,d⟩
theorem Inv.unpinned {pZ pl:List (Addr×Obj)} {σ:St} {H:Hp} {s:Shared} (I:Inv X (pZ++pl) σ H s):Inv X pZ σ H s:=I.pins_of fun p hp=>I.pin p (List.mem_append_right _ (List.mem_append_left _ hp))
theorem ps_for {iter:Expr} {body:List Stmt} {wi:TI} {g:TG} {tb:TS} {pos:Pos} (hp:PassesOwn (model X.prog X.w) X.A X.env X.xe) (hc:X.calm=true) (hi:PI X tg iter wi) (hg:PG X tg g) (hb:PSs X body tb)
  (hs: ∀ x,foldedSetIterable iter X.env x=pure x:=by intro _;rfl):PS X (.For tg iter body [] pos) (tFor wi g tb):=by
 intro pZ s σ H D I h
 refine wpAny_For (thn (hi pZ s σ H _ I h) fun v s1 h1=>thn h1 fun itv s2 h2=>?_) hs
 obtain⟨it,fp,tn,J,H2,e,I2,T,st2,f2,W,⟨m0,w0⟩,turn⟩:=h2
 subst e
 have stat: ∀ {H':Hp},(∀ b∈fp,H' b=none)→∀ b∈fp,FpOk X pZ H' b:=fun hn b hb=>⟨hn b hb,(f2 b hb).2⟩
 refine codeAny_forLoop_any (fun n s'=> ∃ i σ' H',Inv X pZ σ' H' s'∧tn i s'.heap∧(∀ b∈fp,H' b=none)∧W i n σ' H') ?_ m0 ⟨0,σ,H2,I2,st2,fun b hb=>(f2 b hb).1,w0⟩
 rintro n s3 ⟨i,σ3,H3,I3,st3,fr3,w3⟩
 rcases turn i n σ3 H3 w3 with⟨stop,qn⟩|⟨go,N,hN,step⟩
 ·refine wpAny_passesOwn hp (thn (T.done X rfl rfl rfl hc i pZ s3 σ3 H3 X.xe I3 (stat fr3) st3 stop) fun r s4 ⟨hr,I4⟩=>?_)
  subst hr
  exact wpAny_execs_nil ⟨σ3,H3,I4,qn⟩
 ·refine wpAny_passesOwn hp (thn (T.item X rfl rfl rfl hc i pZ s3 σ3 H3 X.xe I3 (stat fr3) st3 go) fun r s4 ⟨u,hr,h4⟩=>?_)
  subst hr
  refine wpAny_passesOwn hp (thn h4 fun _ s5 ⟨x,H5,I5,r5,y5,st5,fr5⟩=>?_)
  have I5':=I5.pinned (stat fr5) (T.obj _ _ st5)
  refine wpAny_passesOwn hp (thn (hg _ s5 σ3 H5 x u _ I5' r5 (step x H5 y5)) fun _ s6 ⟨σ6,H6,I6,q6⟩=>?_)
  refine wpAny_passesOwn hp (thn (hb _ s6 σ6 H6 _ I6 q6) fun f s7 q7=>?_)
  have again: ∀ {σ7:St} {H7:Hp},Inv X (pZ++pinsAt fp s5.heap) σ7 H7 s7→N σ7 H7→∃ m,m < n∧∃ i σ' H',Inv X pZ σ' H' s7∧tn i s7.heap∧(∀ b∈fp,H' b=none)∧W i m σ' H':=fun {σ7 H7} I7 n7=>by
   obtain⟨m',hm,w7⟩:=hN σ7 H7 n7
   refine⟨m',hm,i+1,σ7,H7,I7.unpinned,T.keep _ _ _ st5 fun b hb o e=>(I7.pin (b,o) (List.mem_append_right _ (List.mem_append_right _ (mem_pinsAt hb e)))).1,fun b hb=>?_,w7⟩
   obtain⟨o,e,d⟩:=T.obj _ _ st5 b hb
   exact(I7.pin (b,o) (List.mem_append_right _ (List.mem_append_right _ (mem_pinsAt hb e)))).2.1
  cases f with
  |next=>obtain⟨σ7,H7,I7,n7⟩:=q7;exact again I7 n7
  |cont=>obtain⟨σ7,H7,I7,n7⟩:=q7;exact again I7 n7
  |brk=>obtain⟨σ7,H7,I7,q7⟩:=q7;exact⟨σ7,H7,I7.unpinned,q7⟩
  |ret v=>obtain⟨x7,σ7,H7,I7,r7,q7⟩:=q7;exact⟨x7,σ7,H7,I7.unpinned,r7,q7⟩
end
end L2
namespace L2
open PySem PySem.Spec PyProof.Rows
abbrev R2:=V→V→Hp→VK→Prop
def OpR (X:Cx) (f:Value→Value→Sem Value) (r:R2):Prop:=
 ∀ (pZ:List (Addr×Obj)) (s:Shared) (σ:St) (H:Hp) (x y:V) (v u:Value) (Q:VK),Inv X pZ σ H s→RelV x v→RelV y u→r x y H Q→
  wpAny (model X.prog X.w) X.A (f v u) (EP X pZ σ Q) X.xe s
def CallR (X:Cx) (f:Value) (r:List V→Hp→VK→Prop):Prop:=
 ∀ (pZ:List (Addr×Obj)) (s:Shared) (σ:St) (H:Hp) (xs:List V) (us:List Value) (Q:VK),Inv X pZ σ H s→Vals xs us→r xs H Q→
  wpAny (model X.prog X.w) X.A (call f us) (EP X pZ σ Q) X.xe s
noncomputable def tOp (r:R2) (ta tb:TE):TE:=fun σ H Q=>ta σ H fun x H1=>tb σ H1 fun y H2=>r x y H2 Q
noncomputable def rI (C:Int→Int→Prop) (g:Int→Int→V):R2:=fun x y H Q=> ∃ i j,x= .int i∧y= .int j∧C i j∧Q (g i j) H
noncomputable def rI0 (g:Int→Int→V):R2:=fun x y H Q=> ∃ i j,x= .int i∧y= .int j∧Q (g i j) H
section
variable {X:Cx} {a b c:Expr} {ta tb tc:TE} {pos:Pos}
theorem binT (ha:PE X a ta) (hb:PE X b tb) {pZ:List (Addr×Obj)} {s:Shared} {σ:St} {H:Hp} {R:V→V→Hp→Prop} (I:Inv X pZ σ H s)
  (h:ta σ H fun x H1=>tb σ H1 fun y H2=>R x y H2) {Q:Value→Shared→Prop} {f:Value→Value→Sem Value}
  (hf: ∀ v u s2 x y H2,Inv X pZ σ H2 s2→RelV x v→RelV y u→R x y H2→wpAny (model X.prog X.w) X.A (f v u) Q X.xe s2):
  wpAny (model X.prog X.w) X.A (eval a X.env) (fun v s₁=>wpAny (model X.prog X.w) X.A (eval b X.env) (fun u s₂=>wpAny (model X.prog X.w) X.A (f v u) Q X.xe s₂) X.xe s₁) X.xe s:=by
 refine thn (ha pZ s σ H _ I h) fun v s1 ⟨x,H1,I1,r1,q1⟩=>?_
 refine thn (hb pZ s1 σ H1 _ I1 q1) fun u s2 ⟨y,H2,I2,r2,q2⟩=>?_
 exact hf v u s2 x y H2 I2 r1 r2 q2
theorem pe_op (ho:OpR X (binaryOp op) r) (ha:PE X a ta) (hb:PE X b tb):PE X (.BinOp a op b pos) (tOp r ta tb):=by
 intro pZ s σ H Q I h
 exact wpAny_BinOp (binT ha hb I h fun v u s2 x y H2 I2 rx ry q=>ho pZ s2 σ H2 x y v u Q I2 rx ry q)
theorem opI {f:Value→Value→Sem Value} {C:Int→Int→Prop} {g:Int→Int→Int}
  (rule: ∀ (i j:Int) (t u:Tok) (s:Shared) (Q:Value→Shared→Prop) (E:Value→Shared→Prop),C i j→Q (.int (g i j) s.toks) {s with toks:=s.toks+1}→wpAny (model X.prog X.w) X.A (f (.int i t) (.int j u)) Q E s):
  OpR X f (rI C fun i j=>.int (g i j)):=by
 intro pZ s σ H x y v u Q I rx ry h
 obtain⟨i,j,rfl,rfl,hc,q⟩:=h
 obtain⟨t,rfl⟩:=rx
 obtain⟨t',rfl⟩:=ry
 exact rule i j t t' s _ _ hc ⟨.int (g i j),H,I.tok _,⟨_,rfl⟩,q⟩
theorem opI0 {f:Value→Value→Sem Value} {g:Int→Int→Int}
  (rule: ∀ (i j:Int) (t u:Tok) (s:Shared) (Q:Value→Shared→Prop) (E:Value→Shared→Prop),Q (.int (g i j) s.toks) {s with toks:=s.toks+1}→wpAny (model X.prog X.w) X.A (f (.int i t) (.int j u)) Q E s):
  OpR X f (rI0 fun i j=>.int (g i j)):=by
 intro pZ s σ H x y v u Q I rx ry h
 obtain⟨i,j,rfl,rfl,q⟩:=h
 obtain⟨t,rfl⟩:=rx
 obtain⟨t',rfl⟩:=ry
 exact rule i j t t' s _ _ ⟨.int (g i j),H,I.tok _,⟨_,rfl⟩,q⟩
theorem opB0 {f:Value→Value→Sem Value} {g:Int→Int→Bool}
  (rule: ∀ (i j:Int) (t u:Tok) (s:Shared) (Q:Value→Shared→Prop) (E:Value→Shared→Prop),Q (.bool (g i j)) s→wpAny (model X.prog X.w) X.A (f (.int i t) (.int j u)) Q E s):
  OpR X f (rI0 fun i j=>.bl (g i j)):=by
 intro pZ s σ H x y v u Q I rx ry h
 obtain⟨i,j,rfl,rfl,q⟩:=h
 obtain⟨t,rfl⟩:=rx
 obtain⟨t',rfl⟩:=ry
 exact rule i j t t' s _ _ ⟨.bl (g i j),H,I,rfl,q⟩
def CDiv (i j:Int):Prop:=0 < j∧j < 1073741824
def CPow (i j:Int):Prop:=0≤j∧j≤1000000∧i.natAbs < 2 ^ 64
def CMul (i j:Int):Prop:=(-(2 ^ 64) < i∧i < 2 ^ 64)∨(-(2 ^ 64) < j∧j < 2 ^ 64)
theorem CMul.ok {i j:Int} (h:CMul i j):IntMulOk i j:=by
 rcases h with⟨h1,h2⟩|⟨h1,h2⟩
 ·exact .of_left (intBits_le_64 h1 h2)
 ·exact .of_right (intBits_le_64 h1 h2)
theorem op_add:OpR X (binaryOp .Add) (rI0 fun i j=>.int (i+j)):=opI0 fun _ _ _ _ _ _ _ q=>add_int q
theorem op_sub:OpR X (binaryOp .Sub) (rI0 fun i j=>.int (i - j)):=opI0 fun _ _ _ _ _ _ _ q=>sub_int q
theorem op_mul:OpR X (binaryOp .Mult) (rI CMul fun i j=>.int (i * j)):=opI fun _ _ _ _ _ _ _ hc q=>mul_int q hc.ok
theorem op_fdiv:OpR X (binaryOp .FloorDiv) (rI CDiv fun i j=>.int (i / j)):=opI fun i j _ _ _ _ _ hc q=>by
 have h1:(0:Int) < j:=hc.1
 have h2:j < 1073741824:=hc.2
 exact floordiv_int (by lia) (by rw[Int.fdiv_eq_ediv_of_nonneg i (by lia)];exact q) (.inl (PyProof.noPylong_small (by lia)))
theorem op_mod:OpR X (binaryOp .Mod) (rI (fun _ j=>0 < j) fun i j=>.int (i % j)):=opI fun i j _ _ _ _ _ hc q=>by
 have h1:(0:Int) < j:=hc
 exact mod_int' (by lia) (by rw[Int.fmod_eq_emod_of_nonneg i (by lia)];exact q)
end
noncomputable def scal:V→V→Bool
 | .non,.non=>true| .non,.int _=>true| .int _,.non=>true| .non,.bl _=>true| .bl _,.non=>true| .non,.str _=>true| .str _,.non=>true
 | .int _,.int _=>true| .bl _,.bl _=>true| .str _,.str _=>true| .byt _,.byt _=>true
 | .int _,.str _=>true| .str _,.int _=>true| .bl _,.str _=>true| .str _,.bl _=>true
 |_,_=>false
noncomputable def rEq:R2:=fun x y H Q=>scal x y=true∧Q (.bl (decide (x=y))) H
theorem dec_int:decide (V.int i=V.int j)=(i==j):=by
 rw[Bool.eq_iff_iff]
 simp
theorem dec_bl:decide (V.bl i=V.bl j)=(i==j):=by
 rw[Bool.eq_iff_iff]
 simp
theorem dec_str:decide (V.str i=V.str j)=(i==j):=by
 rw[Bool.eq_iff_iff]
 simp
theorem dec_byt:decide (V.byt i=V.byt j)=(i.toList==j.toList):=by
 rw[Bool.eq_iff_iff]
 cases i
 cases j
 simp
section
variable {X:Cx} {a b c:Expr} {ta tb tc:TE} {pos:Pos}
theorem fin_bl (I:Inv X pZ σ H s) (q:Q (.bl k) H) (e:k=k'):EP X pZ σ Q (.bool k') s:=by
 subst e
 exact⟨.bl k,H,I,rfl,q⟩
theorem op_eq:OpR X (compareOp .Eq) rEq:=by
 intro pZ s σ H x y v u Q I rx ry h
 obtain⟨hs,q⟩:=h
 cases x with
 |non=>
  cases rx
  cases y with
  |non=>cases ry;exact PySem.EqNone.eq_none_none (fin_bl I q (by simp))
  |bl j=>cases ry;exact PySem.EqNone.eq_none_bool (fin_bl I q (by simp))
  |int j=>obtain⟨t',rfl⟩:=ry;exact PySem.EqNone.eq_none_int (fin_bl I q (by simp))
  |str j=>obtain⟨t',rfl⟩:=ry;exact PySem.EqNone.eq_none_str (fin_bl I q (by simp))
  |_=>exact absurd (show false=true from hs) Bool.false_ne_true
 |bl i=>
  cases rx
  cases y with
  |non=>cases ry;exact PySem.EqNone.eq_bool_none (fin_bl I q (by simp))
  |bl j=>cases ry;exact eq_bool (fin_bl I q dec_bl)
  |str j=>obtain⟨t',rfl⟩:=ry;exact PySem.EqMixed.eq_bool_str (fin_bl I q (by simp))
  |_=>exact absurd (show false=true from hs) Bool.false_ne_true
 |int i=>
  obtain⟨t,rfl⟩:=rx
  cases y with
  |non=>cases ry;exact PySem.EqNone.eq_int_none (fin_bl I q (by simp))
  |int j=>obtain⟨t',rfl⟩:=ry;exact eq_int (fin_bl I q dec_int)
  |str j=>obtain⟨t',rfl⟩:=ry;exact PySem.EqMixed.eq_int_str (fin_bl I q (by simp))
  |_=>exact absurd (show false=true from hs) Bool.false_ne_true
 |str i=>
  obtain⟨t,rfl⟩:=rx
  cases y with
  |non=>cases ry;exact PySem.EqNone.eq_str_none (fin_bl I q (by simp))
  |bl j=>cases ry;exact PySem.EqMixed.eq_str_bool (fin_bl I q (by simp))
  |int j=>obtain⟨t',rfl⟩:=ry;exact PySem.EqMixed.eq_str_int (fin_bl I q (by simp))
  |str j=>obtain⟨t',rfl⟩:=ry;exact eq_str (fin_bl I q dec_str)
  |_=>exact absurd (show false=true from hs) Bool.false_ne_true
 |byt i=>
  obtain⟨t,rfl⟩:=rx
  cases y with
  |byt j=>obtain⟨t',rfl⟩:=ry;exact PySem.W.eq_bytes (fin_bl I q dec_byt)
  |_=>exact absurd (show false=true from hs) Bool.false_ne_true
 |_=>cases y<;>exact absurd (show false=true from hs) Bool.false_ne_true
theorem op_lt:OpR X (compareOp .Lt) (rI0 fun i j=>.bl (decide (i < j))):=opB0 fun _ _ _ _ _ _ _ q=>lt_int q
theorem op_le:OpR X (compareOp .LtE) (rI0 fun i j=>.bl (decide (i≤j))):=opB0 fun _ _ _ _ _ _ _ q=>le_int q
theorem op_gt:OpR X (compareOp .Gt) (rI0 fun i j=>.bl (decide (j < i))):=opB0 fun _ _ _ _ _ _ _ q=>gt_int q
theorem op_ge:OpR X (compareOp .GtE) (rI0 fun i j=>.bl (decide (j≤i))):=opB0 fun _ _ _ _ _ _ _ q=>ge_int q
theorem op_in_str:OpR X (compareOp .In) (fun x y H Q=> ∃ i j,x= .str i∧y= .str j∧Q (.bl (!(Builtin.Str.occurrences j i 0 j.length 1).isEmpty)) H):=by
 intro pZ s σ H x y v u Q I rx ry h
 obtain⟨i,j,rfl,rfl,q⟩:=h
 obtain⟨t,rfl⟩:=rx
 obtain⟨t',rfl⟩:=ry
 exact in_str (fin_bl I q rfl)
theorem op_notN:OpR X (compareOp .IsNot) (fun x y H Q=>y= .non∧Q (.bl (!decide (x= .non))) H):=by
 intro pZ s σ H x y v u Q I rx ry h
 obtain⟨rfl,q⟩:=h
 cases ry
 refine isnot_none_gen (fin_bl I q ?_)
 cases x<;>first
  |(cases rx;rfl)
  |(obtain⟨t,rfl⟩:=rx;rfl)
theorem OpR.or {f:Value→Value→Sem Value} {r r':R2} (h:OpR X f r) (h':OpR X f r'):OpR X f (fun x y H Q=>r x y H Q∨r' x y H Q):=by
 intro pZ s σ H x y v u Q I rx ry q
 rcases q with q|q
 ·exact h pZ s σ H x y v u Q I rx ry q
 ·exact h' pZ s σ H x y v u Q I rx ry q
theorem nomark (b:Expr) (h:op≠.In:=by decide) (h2:op≠.NotIn:=by decide):behindInMarks op b=false:=by
 have e1:(op==CmpOp.In)=false:=by cases op<;>first|rfl|exact absurd rfl h
 have e2:(op==CmpOp.NotIn)=false:=by cases op<;>first|rfl|exact absurd rfl h2
 cases b<;>simp[behindInMarks,e1,e2]
theorem pe_cmpR (ho:OpR X (compareOp op) r) (ha:PE X a ta) (hb:PE X b tb) (hm:behindInMarks op b=false):PE X (.Compare a [op] [b] pos) (tOp r ta tb):=by
 intro pZ s σ H Q I h
 exact wpAny_Compare1 (binT ha hb I h fun v u s2 x y H2 I2 rx ry q=>ho pZ s2 σ H2 x y v u Q I2 rx ry q) hm
noncomputable def tTest (t:TE):TT:=fun σ H Q=>t σ H fun x H'=> ∃ k,x= .bl k∧Q k H'
theorem pt_cmpR {op:CmpOp} {r:R2} (ho:OpR X (compareOp op) r) (ha:PE X a ta) (hb:PE X b tb) (hm:behindInMarks op b=false):PT X (.Compare a [op] [b] pos) (tTest (tOp r ta tb)):=by
 intro pZ s σ H Q I h
 refine wpAny_isTrue_Compare1 (thn (ha pZ s σ H _ I h) fun v s1 ⟨x,H1,I1,r1,q1⟩=>thn (hb pZ s1 σ H1 _ I1 q1) fun u s2 ⟨y,H2,I2,r2,q2⟩=>
  thn (ho pZ s2 σ H2 x y v u _ I2 r1 r2 q2) fun c s3 ⟨z,H3,I3,r3,k,e,q3⟩=>?_) hm
 subst e
 cases r3
 exact wpAny_truthy_bool ⟨H3,I3,q3⟩
theorem line63:(sizeLine:Nat) < 2 ^ 63:=by rw[sizeLine_eq];decide
theorem op_add_str:OpR X (binaryOp .Add) (fun x y H Q=> ∃ i j,x= .str i∧y= .str j∧i.length+j.length≤sizeLine∧Q (.str (i++j)) H):=by
 intro pZ s σ H x y v u Q I rx ry h
 obtain⟨i,j,rfl,rfl,hz,q⟩:=h
 obtain⟨t,rfl⟩:=rx
 obtain⟨t',rfl⟩:=ry
 exact add_str (fun t' tk=>⟨.str (i++j),H,I.tok _,⟨_,rfl⟩,q⟩) hz
theorem vals1 (r:Vals [x] us): ∃ u,us=[u]∧RelV x u:=by
 cases r with
 |cons r1 r2=>cases r2;exact⟨_,rfl,r1⟩
theorem vals2 (r:Vals [x,y] us): ∃ u w',us=[u,w']∧RelV x u∧RelV y w':=by
 cases r with
 |cons r1 r2=>
  cases r2 with
  |cons r3 r4=>cases r4;exact⟨_,_,rfl,r1,r3⟩
theorem call_abs:CallR X (.builtin "abs") (fun xs H Q=> ∃ i,xs=[.int i]∧Q (.int (if i < 0 then -i else i)) H):=by
 intro pZ s σ H xs us Q I r h
 obtain⟨i,rfl,q⟩:=h
 obtain⟨u,rfl,t,rfl⟩:=vals1 r
 exact call_abs_int fun u tk=>⟨.int (if i < 0 then -i else i),H,I.tok _,⟨_,rfl⟩,q⟩
theorem call_max2 (hc:X.calm=true):CallR X (.builtin "max") (fun xs H Q=> ∃ i j,xs=[.int i,.int j]∧Q (.int (if j > i then j else i)) H):=by
 intro pZ s σ H xs us Q I r h
 obtain⟨i,j,rfl,q⟩:=h
 obtain⟨u,w',rfl,⟨t,rfl⟩,⟨t',rfl⟩⟩:=vals2 r
 refine max_two_ints (I.ok.hd hc) fun h' tk k=>⟨_,H,I.kept k,?_,q⟩
 by_cases hj:j > i
 ·rw[if_pos hj,if_pos hj];exact⟨_,rfl⟩
 ·rw[if_neg hj,if_neg hj];exact⟨_,rfl⟩
theorem call_min2 (hc:X.calm=true):CallR X (.builtin "min") (fun xs H Q=> ∃ i j,xs=[.int i,.int j]∧Q (.int (if j < i then j else i)) H):=by
 intro pZ s σ H xs us Q I r h
 obtain⟨i,j,rfl,q⟩:=h
 obtain⟨u,w',rfl,⟨t,rfl⟩,⟨t',rfl⟩⟩:=vals2 r
 refine min_two_ints (I.ok.hd hc) fun h' tk k=>⟨_,H,I.kept k,?_,q⟩
 by_cases hj:j < i
 ·rw[if_pos hj,if_pos hj];exact⟨_,rfl⟩
 ·rw[if_neg hj,if_neg hj];exact⟨_,rfl⟩
theorem call_int1:CallR X (.type "int") (fun xs H Q=>(∃ i,xs=[.int i]∧Q (.int i) H)∨∃ k,xs=[.bl k]∧Q (.int (if k then 1 else 0)) H):=by
 intro pZ s σ H xs us Q I r h
 rcases h with⟨i,rfl,q⟩|⟨k,rfl,q⟩
 ·obtain⟨u,rfl,t,rfl⟩:=vals1 r
  exact call_int_int ⟨.int i,H,I,⟨_,rfl⟩,q⟩
 ·obtain⟨u,rfl,r1⟩:=vals1 r
  cases r1
  exact call_int_bool ⟨.int (if k then 1 else 0),H,I.tok _,⟨_,rfl⟩,q⟩
def LenV (K:PySem.W.Frag) (x:V) (H:Hp) (n:Nat):Prop:=
 match x with
 | .str y=>y.length≤sizeLine∧n=y.length
 | .byt y=>y.size≤sizeLine∧n=y.size
 | .ref p=>(∃ xs,SqL K H p xs∧n=xs.length)∨∃ xs,SqT K H p xs∧n=xs.length
 |_=>False
theorem call_len:CallR X (.builtin "len") (fun xs H Q=> ∃ x n,xs=[x]∧LenV X.K x H n∧Q (.int n) H):=by
 intro pZ s σ H xs us Q I r h
 obtain⟨x,n,rfl,e,q⟩:=h
 obtain⟨u,rfl,rx⟩:=vals1 r
 have hl:=line63
 have hs:sizeLine=16777216:=sizeLine_eq
 cases x with
 |str y=>
  obtain⟨t,rfl⟩:=rx
  obtain⟨hy,e'⟩:y.length≤sizeLine∧n=y.length:=e
  subst e'
  exact len_str (by lia) ⟨.int _,H,I.tok _,⟨_,rfl⟩,q⟩
 |byt y=>
  obtain⟨t,rfl⟩:=rx
  obtain⟨hy,e'⟩:y.size≤sizeLine∧n=y.size:=e
  subst e'
  exact PySem.W.len_bytes (by lia) ⟨.int _,H,I.tok _,⟨_,rfl⟩,q⟩
 |ref p=>
  cases rx
  have e':(∃ xs,SqL X.K H p xs∧n=xs.length)∨∃ xs,SqT X.K H p xs∧n=xs.length:=e
  rcases e' with⟨xs,hx,e'⟩|⟨xs,hx,e'⟩
  ·subst e'
   obtain⟨its,r',pl,hz⟩:=I.list hx
   have hlen:=r'.length
   exact Calls.call_len_list pl.isList (by simp only[List.size_toArray];lia) ⟨.int xs.length,H,I.tok _,⟨_,by simp only[List.size_toArray];rw[hlen]⟩,q⟩
  ·subst e'
   obtain⟨its,r',pl,hz⟩:=I.tuple hx
   have hlen:=r'.length
   exact len_tuple pl (by simp only[List.size_toArray];lia) ⟨.int xs.length,H,I.tok _,⟨_,by simp only[List.size_toArray];rw[hlen]⟩,q⟩
 |_=>exact(show False from e).elim
end
end L2
namespace L2
open PySem PySem.Spec PyProof.Rows
structure ObjM (h:Heap) (x dx C:Addr) (mA:Str→Option Value):Prop where
 obj:h.get? x=some (PySem.W.instObj C dx)
 ns:h.Ns1 dx mA
 ne:dx≠x
theorem lookIn_ns {h:Heap} (n:h.Ns1 dx mA): ∃ od,h.get? dx=some od∧∀ name,PySem.W.lookIn name od=some (mA name):=by
 obtain⟨o,es,ep,ho,hd,hk,_,hm⟩:=n
 refine⟨o,ho,fun name=>?_⟩
 have e:=hm name
 unfold nsFind findBy at e
 rw[←Array.find?_toList] at e
 unfold PySem.W.lookIn
 rw[hd]
 dsimp only
 split
 ·rename_i y q
  rw[q] at e
  exact congrArg some e
 ·rename_i q
  rw[q] at e
  have a:es.toList.any (·.refKey)=false:=by
   rw[List.any_eq_false]
   intro y hy
   obtain⟨z,t,hkey⟩:=hk y (Array.mem_toList_iff.mp hy)
   simp[DictEntry.refKey,hkey]
  have a': ¬ es.toList.any (·.refKey)=true:=by rw[a];exact Bool.false_ne_true
  rw[if_neg a']
  exact congrArg some e
theorem ObjM.look (I:ObjM h x dx C mA): ∃ od,PySem.W.InstAt h x (PySem.W.instObj C dx) C (some od)∧∀ name,PySem.W.lookIn name od=some (mA name):=
 let ⟨od,ho,hl⟩:=lookIn_ns I.ns
 ⟨od,⟨I.obj,rfl,rfl,ho⟩,hl⟩
theorem RelO.some_of (r:RelO (some v) o): ∃ u,o=some u∧RelV v u:=by
 cases o with
 |none=>exact(show False from r).elim
 |some u=>exact⟨u,rfl,r⟩
section
variable {P:Program} {w:World} {H H':Hp} {h h':Heap} {a C dx:Addr} {fs fs':List (Str×V)}
theorem ins_get (hok:HOk P w H h) (e:H a=some (.ins C dx fs)): ∃ mA,ObjM h a dx C mA∧(∀ f,RelO (fs.lookup f) (mA f))∧PySem.Within mA (fs.map (·.1))∧fs.length≤1000∧H dx=some (.own a):=by
 obtain⟨d,z,ne,ob,mA,n,r,q⟩:=(show ObjOk P w H h a (.ins C dx fs) from hok a _ e)
 exact⟨mA,⟨ob,n,ne⟩,r,q,z,d⟩
end
structure Cls (K:PySem.W.Frag) (C:Addr):Prop where
 pg:PySem.W.plainGet K C Str.empty=true
 hd:PySem.W.hasDictIn K C=true
 po:PySem.W.plainOver K C=true
 sa:PySem.W.findIn K (.ref C) "__setattr__"=some (some (.builtin "object.__setattr__"))
theorem Cls.get {K:PySem.W.Frag} {C:Addr} (c:Cls K C) (f:Str):PySem.W.plainGet K C f=true:=c.pg
section
variable {X:Cx} {pZ:List (Addr×Obj)} {σ:St} {H:Hp} {s:Shared} {A:Around} {E:Value→Shared→Prop} {Q:Value→Shared→Prop} {c:Value} {b:Bool}
inductive TyOf (K:PySem.W.Frag) (H:Hp):V→Value→Prop where
 |non:TyOf K H .non (.type "NoneType")
 |bl (x:Bool):TyOf K H (.bl x) (.type "bool")
 |int (i:Int):TyOf K H (.int i) (.type "int")
 |str (x:Str):TyOf K H (.str x) (.type "str")
 |flt (x:UInt64):TyOf K H (.flt x) (.type "float")
 |lst {a:Addr} {xs:List V} (e:H a=some (.lst xs)):TyOf K H (.ref a) (.type "list")
 |frz {a:Addr} {o:Obj} {xs:List V} (e:H a=some (.frz o (.lst xs))):TyOf K H (.ref a) (.type "list")
 |tup {a:Addr} {xs:List V} (e:H a=some (.tup xs)):TyOf K H (.ref a) (.type "tuple")
 |dK {a:Addr} {kvs:List (Key×V)} (e:Rd H a (.dK kvs)):TyOf K H (.ref a) (.type "dict")
 |dT {a:Addr} {kvs:List (List Key×V)} (e:H a=some (.dT kvs)):TyOf K H (.ref a) (.type "dict")
 |ins {a C dx:Addr} {fs:List (Str×V)} (e:H a=some (.ins C dx fs)) (cl:Cls K C) (ha:PySem.W.findIn K (.ref C) "__class__"=some (some (.builtin "object.__class__")))
   (hn:PySem.W.specialIn K (.builtin "object.__class__") "__get__"=some (some (.builtin "getset_descriptor.__get__"))) (htk:PySem.W.takesIn K (.builtin "object.__class__")=some true)
   (hm:PySem.W.mroIn K C (.type "object")=some true):TyOf K H (.ref a) (.ref C)
theorem isinst_ok (I:Inv X pZ σ H s) (rx:RelV x u) (ty:TyOf X.K H x t) (e:PySem.W.kitOne X.K t c=some b) (h: ∀ tk,Q (.bool b) {s with toks:=tk}):
  wpAny (model X.prog X.w) A (call (.builtin "isinstance") [u,c]) Q E s:=by
 cases ty with
 |non=>cases (show u=Value.none from rx);exact PySem.W.kia_one PySem.W.kitx_none I.kIn True.intro e (fun z=>nomatch z) h
 |bl y=>cases (show u=Value.bool y from rx);exact PySem.W.kia_one PySem.W.kitx_bool I.kIn True.intro e (fun z=>nomatch z) h
 |int i=>obtain⟨t,q⟩:=(show ∃ t,u=Value.int i t from rx);cases q;exact PySem.W.kia_one PySem.W.kitx_int I.kIn True.intro e (fun z=>nomatch z) h
 |str y=>obtain⟨t,q⟩:=(show ∃ t,u=Value.str y t from rx);cases q;exact PySem.W.kia_one PySem.W.kitx_str I.kIn True.intro e (fun z=>nomatch z) h
 |flt y=>obtain⟨t,q⟩:=(show ∃ t,u=Value.float y t from rx);cases q;exact PySem.W.kia_one PySem.W.kitx_float I.kIn True.intro e (fun z=>nomatch z) h
 | @lst a xs ea=>
  cases (show u=Value.ref a from rx)
  obtain⟨_,_,n,_,h1⟩:=(show ObjOk X.prog X.w H s.heap a (.lst xs) from I.hok a _ ea)
  exact PySem.W.kia_one PySem.W.kitx_list I.kIn ⟨_,h1,rfl⟩ e (fun z=>nomatch z) h
 | @frz a ob xs ea=>
  cases (show u=Value.ref a from rx)
  obtain⟨_,_,_,n,_,h1⟩:=(show ObjOk X.prog X.w H s.heap a (.frz ob (.lst xs)) from I.hok a _ ea)
  exact PySem.W.kia_one PySem.W.kitx_list I.kIn ⟨_,h1,rfl⟩ e (fun z=>nomatch z) h
 | @tup a xs ea=>
  cases (show u=Value.ref a from rx)
  obtain⟨_,_,_,p⟩:=(show ObjOk X.prog X.w H s.heap a (.tup xs) from I.hok a _ ea)
  obtain⟨o,h1,h2,_⟩:=p
  exact PySem.W.kia_one PySem.W.kitx_tuple I.kIn ⟨o,h1,h2⟩ e (fun z=>nomatch z) h
 | @dK a kvs ea=>
  cases (show u=Value.ref a from rx)
  obtain⟨_,_,vs,_,p⟩:=(show ObjOk X.prog X.w H s.heap a (.dK kvs) from ea.ok I.hok)
  obtain⟨o,es,ep,h1,h2,_⟩:=p
  exact PySem.W.kia_one PySem.W.kitx_dict I.kIn ⟨o,h1,h2.1⟩ e (fun z=>nomatch z) h
 | @dT a kvs ea=>
  cases (show u=Value.ref a from rx)
  obtain⟨_,_,xs,_,o,es,ep,h1,h2,_⟩:=(show ObjOk X.prog X.w H s.heap a (.dT kvs) from I.hok a _ ea)
  exact PySem.W.kia_one PySem.W.kitx_dict I.kIn ⟨o,h1,h2.1⟩ e (fun z=>nomatch z) h
 | @ins a C dx fs ea cl ha hn htk hm=>
  cases (show u=Value.ref a from rx)
  obtain⟨mA,O,_⟩:=ins_get I.hok ea
  obtain⟨od,J,_⟩:=O.look
  exact PySem.W.kia_one (PySem.W.kitx_own (cl.get _) cl.hd ha hn htk hm) I.kIn J e (fun z=>nomatch z) h
end
end L2
namespace L2
open PySem PySem.Spec PyProof.Rows
structure Room (k:Nat) (A:Around):Prop where
 hd:A.handled=none
 dp:A.depth+3 * k+5 < recursionLimit
 un:A.units+16 * k+200 < cLine
 gd:A.guards=some []
theorem Room.mono (r:Room k A) (h:j≤k):Room j A:=⟨r.hd,by have:=r.dp;lia,by have:=r.un;lia,r.gd⟩
theorem Room.deeper (r:Room (k+1) A) (env:Env):Room k (A.deeper env):=
 ⟨r.hd,by have:=r.dp;show A.depth+1+3 * k+5 < _;lia,by have:=r.un;show A.units+3+16 * k+200 < _;lia,r.gd⟩
theorem Room.depth (r:Room k A):A.depth < recursionLimit:=by have:=r.dp;lia
theorem Room.units (r:Room k A):A.units+64 < cLine:=by have:=r.un;lia
def tNil:TA:=fun _ H Q=>Q [] H
noncomputable def tCons (ta:TE) (tr:TA):TA:=fun σ H Q=>ta σ H fun x H1=>tr σ H1 fun xs H2=>Q (x::xs) H2
section
variable {X:Cx} {e:Expr} {es:List Expr} {te:TE} {t:TA} {pos:Pos}
theorem pa_nil:PA X [] tNil:=fun _ _ _ _ H Q I h=>Calls.spliced_nil ⟨[],H,I,.nil,h⟩
theorem pa_cons (ha:PE X e te) (hr:PA X es t) (hs:starEach (e::es) X.env=(false,eval e X.env)::starEach es X.env:=by rfl):PA X (e::es) (tCons te t):=by
 intro pos pZ s σ H Q I h
 rw[hs]
 show wpAny _ _ (spliced ((false,eval e X.env)::backTo pos (starEach es X.env))) _ _ s
 refine Calls.spliced_cons (thn (ha pZ s σ H _ I h) fun u s1 ⟨x,H1,I1,r1,q1⟩=>?_)
 exact thn (hr pos pZ s1 σ H1 _ I1 q1) fun us s2 ⟨xs,H2,I2,r2,q2⟩=>⟨x::xs,H2,I2,.cons r1 r2,q2⟩
noncomputable def tTup (t:TA):TE:=fun σ H Q=>t σ H fun xs H1=>xs.length≤sizeLine∧∀ p,H1 p=none→Q (.ref p) (upd H1 p (.tup xs))
noncomputable def tLst (t:TA):TE:=fun σ H Q=>t σ H fun xs H1=>xs.length≤sizeLine∧∀ p,H1 p=none→Q (.ref p) (upd H1 p (.lst xs))
theorem pe_tup {x1} (h:PA X es t):PE X (.Tuple es x1 pos) (tTup t):=by
 intro pZ s σ H Q I hq
 refine wpAny_Tuple_spliced (thn (h pos pZ s σ H _ I hq) fun us s1 ⟨xs,H1,I1,r,z,q⟩=>⟨by rw[←r.length];exact z,?_⟩)
 have hf:H1 s1.heap.objs.size=none:=I1.hok.fresh (Nat.le_refl _)
 refine⟨.ref s1.heap.objs.size,upd H1 s1.heap.objs.size (.tup xs),I1.laid (t':=s1.toks) (fun b u e=>Heap.get?_push_of_some _ e) (Nat.le_refl _) ?_,rfl,q _ hf⟩
 exact⟨z,us,r,⟨_,Heap.get?_push_size _ rfl,rfl,_,rfl⟩⟩
theorem pe_lst (h:PA X es t):PE X (.List es pos) (tLst t):=by
 intro pZ s σ H Q I hq
 refine wpAny_List_spliced (thn (h pos pZ s σ H _ I hq) fun us s1 ⟨xs,H1,I1,r,z,q⟩=>⟨by rw[←r.length];exact z,?_⟩)
 have hf:H1 s1.heap.objs.size=none:=I1.hok.fresh (Nat.le_refl _)
 refine⟨.ref s1.heap.objs.size,upd H1 s1.heap.objs.size (.lst xs),I1.laid (t':=s1.toks) (fun b u e=>Heap.get?_push_of_some _ e) (Nat.le_refl _) ?_,rfl,q _ hf⟩
 exact⟨z,us,0,r,Heap.get?_push_size _ rfl⟩
end
abbrev Sp:=List V→Hp→VK→XK→Prop
abbrev CXT:=List Env→Hp→Shared→XK→Value→Shared→Prop
structure Env0 (P:Program) (w:World) (K:PySem.W.Frag) (mg:Str→Option Value) (base:Heap) (A:Around) (outer:List Env) (s:Shared) (H:Hp):Prop where
 frames:A.frames=some outer
 mod:Mod K mg base
 bs: ∀ b o,base.get? b=some o→s.heap.get? b=some o∧H b=none
 bsz:base.objs.size≤s.heap.objs.size
 funs:s.heap.FunFrames base outer
 frf: ∀ b∈frs outer,H b=none
 hok:HOk P w H s.heap
 bare:AllBare s.gens
def CE (outer:List Env) (P:Program) (w:World) (H:Hp) (s:Shared) (Q:VK) (u:Value) (s':Shared):Prop:=
 ∃ v H',s'.os=s.os∧AllBare s'.gens∧Un (frs outer) [] H H' s.heap s'.heap∧HOk P w H' s'.heap∧RelV v u∧Q v H'
def CR (CX:CXT) (outer:List Env) (P:Program) (w:World) (H:Hp) (s:Shared) (Q:VK) (E:XK) (r:Result) (s':Shared):Prop:=
 match r with
 | .ok (.ret u)=>CE outer P w H s Q u s'
 | .ok _=>False
 | .error e=>CX outer H s E e s'
structure FnOk (P:Program) (w:World) (K:PySem.W.Frag) (mg:Str→Option Value) (base:Heap) (CX:CXT) (k:Nat) (f:Addr) (fd:FuncData) (ps:List Str) (sp:Sp):Prop where
 len: ∀ vs H Q E,sp vs H Q E→vs.length=ps.length
 run: ∀ (A:Around) (outer:List Env) (s:Shared) (H:Hp) (args:Args) (us:List Value) (vs:List V) (Q:VK) (E:XK),Room k A→Env0 P w K mg base A outer s H→BindsTo s fd args (ps.zip us)→Vals vs us→sp vs H Q E→
  codeAny (model P w) A (.call (.ref f) args) (CR CX outer P w H s Q E) s
theorem FnOk.imp {P:Program} {w:World} {K:PySem.W.Frag} {mg:Str→Option Value} {base:Heap} {CX:CXT} {k:Nat} {f:Addr} {fd:FuncData} {ps:List Str} {sp sp':Sp} (F:FnOk P w K mg base CX k f fd ps sp)
  (h: ∀ vs H Q E,sp' vs H Q E→sp vs H Q E):FnOk P w K mg base CX k f fd ps sp':=
 ⟨fun vs H Q E q=>F.len vs H Q E (h _ _ _ _ q),fun A outer s H args us vs Q E hr he hb hv hs=>F.run A outer s H args us vs Q E hr he hb hv (h _ _ _ _ hs)⟩
section
variable {X:Cx} {pZ:List (Addr×Obj)} {σ:St} {H:Hp} {s s':Shared}
theorem Inv.env0 (I:Inv X pZ σ H s):Env0 X.prog X.w X.K X.mg X.base X.A X.stack s H:=
 ⟨I.ok.frames,I.ok.mod,I.bs,Nat.le_trans I.ok.bsz I.sz,I.stack,I.stkFree,I.hok,I.bare⟩
theorem Inv.after (I:Inv X pZ σ H s) (h:CE X.stack X.prog X.w H s Q u s'):EP X pZ σ Q u s':=by
 obtain⟨v,H',os,bare,un,hok,r,q⟩:=h
 obtain⟨hh,g,d,t,os'⟩:=s'
 obtain rfl:os'=s.os:=os
 exact⟨v,H',I.call (h':=hh) (g':=g) (d':=d) (t':=t) (ch:=[]) un hok bare (fun b z=>absurd z (by simp)),r,q⟩
end
noncomputable def tCall (sp:Sp) (dvs:List V) (E:XK) (t:TA):TE:=fun σ H Q=>t σ H fun vs H1=>sp (vs++dvs) H1 Q E
def Binds (K:PySem.W.Frag) (fd:FuncData) (ps:List Str) (ds:List Value):Prop:=
 ∀ (s:Shared) (us:List Value),K.In s.heap→(us++ds).length=ps.length→BindsTo s fd ⟨us,[]⟩ (ps.zip (us++ds))
theorem Binds.all {K:PySem.W.Frag} {fd:FuncData} {ps:List Str} (h: ∀ us:List Value,us.length=ps.length→bindArgs fd ⟨us,[]⟩=pure (ps.zip us)):Binds K fd ps []:=fun s us _ hl=>by
 rw[List.append_nil] at hl ⊢
 exact .of_eq (h us hl)
def Passes (CX:CXT) (X:Cx) (E:XK):Prop:= ∀ (pZ:List (Addr×Obj)) (σ:St) (H:Hp) (s:Shared) (e:Value) (s':Shared),Inv X pZ σ H s→CX X.stack H s E e s'→X.xe e s'
section
variable {X:Cx} {CX:CXT} {k:Nat} {f C:Addr} {fd:FuncData} {ps:List Str} {sp:Sp} {dvs:List V} {ds:List Value} {E:XK} {x m:Str} {p pos apos:Pos} {e o:Expr} {es:List Expr} {ta:TE} {t:TA}
theorem run_fn {pZ:List (Addr×Obj)} {σ:St} {H:Hp} {s:Shared} {Q:VK} {us:List Value} {vs:List V} (F:FnOk X.prog X.w X.K X.mg X.base CX k f fd ps sp) (hr:Room k X.A) (hb:Binds X.K fd ps ds) (hd:Vals dvs ds) (hx:Passes CX X E)
  (I:Inv X pZ σ H s) (r:Vals vs us) (h:sp (vs++dvs) H Q E):wpAny (model X.prog X.w) X.A (call (.ref f) us) (EP X pZ σ Q) X.xe s:=by
 have r2:Vals (vs++dvs) (us++ds):=r.append hd
 have hl:(us++ds).length=ps.length:=by rw[←r2.length];exact F.len _ _ _ _ h
 refine wpAny_call (codeAny_mono (F.run X.A X.stack s H ⟨us,[]⟩ (us++ds) (vs++dvs) Q E hr I.env0 (hb s us I.kIn hl) r2 h) fun r s' hq=>?_)
 cases r with
 |error e=>exact hx pZ σ H s e s' I hq
 |ok fl=>
  cases fl with
  |ret u=>exact I.after hq
  |next=>exact False.elim hq
  |brk=>exact False.elim hq
  |cont=>exact False.elim hq
theorem pe_call (F:FnOk X.prog X.w X.K X.mg X.base CX k f fd ps sp) (hr:Room k X.A) (hg:Gl X x) (hm:X.mg x=some (.ref f)) (hk:PySem.W.keepIn X.K (.ref f)=true) (hb:Binds X.K fd ps ds) (hd:Vals dvs ds) (hx:Passes CX X E)
  (ha:PA X (e::es) t) (hdb:(x==("__debug__":Str))=false:=by decide) (he:starEach (e::es) X.env=(false,eval e X.env)::starEach es X.env:=by rfl) (hpl:(backTo pos (starEach es X.env)).any (·.1)=false:=by rfl):
  PE X (.Call (.Name x p) (e::es) [] pos) (tCall sp dvs E t):=by
 intro pZ s σ H Q I h
 refine wpAny_Call_Name_kw (ld_glob I hg hm ?_ hdb)
 refine PySem.W.callWith_K (h₀:=X.base) I.ok.mod.kin hk (thn (ha pos pZ s σ H _ I h) fun us s1 ⟨vs,H1,I1,r,q⟩=>⟨I1.kIn,?_⟩) he hpl
 exact run_fn F hr hb hd hx I1 r q
end
structure FnScope (N P:List Str) (sc:Scope):Prop where
 kind:sc.kind= .function
 co:sc.isCoroutine=false
 gen:sc.isGenerator=false
 nd:N.Nodup
 pre:N.take P.length=P
 par: ∀ x∈P,sc.names.lookup x=some .local∨sc.names.lookup x=some .cell
 nofree: ∀ y∈sc.names,y.2≠.free
theorem bindL_out {kindOf:Str→Option NameKind} {x:Str}: ∀ {binds:List (Str×Value)} {m:Str→Option Value},(∀ v,(x,v)∉binds)→bindL kindOf binds m x=m x
 |[],_,_=>rfl
 |(n,v)::r,m,h=>by
  unfold bindL
  rw[bindL_out fun w hw=>h w (List.mem_cons_of_mem _ hw)]
  split
  ·have:x≠n:=by rintro rfl;exact h v List.mem_cons_self
   simp[this]
  ·rfl
theorem bindC_out {kindOf:Str→Option NameKind} {x:Str}: ∀ {binds:List (Str×Value)} {m:Str→Option Value},(∀ v,(x,v)∉binds)→bindC kindOf binds m x=m x
 |[],_,_=>rfl
 |(n,v)::r,m,h=>by
  unfold bindC
  rw[bindC_out fun w hw=>h w (List.mem_cons_of_mem _ hw)]
  split
  ·rfl
  ·have:x≠n:=by rintro rfl;exact h v List.mem_cons_self
   simp[this]
theorem bindL_get {kindOf:Str→Option NameKind}: ∀ {P:List Str} {vs:List Value} {i:Nat} {m:Str→Option Value},P.Nodup→P[i]?=some x→vs[i]?=some v→kindOf x=some .local→
  bindL kindOf (P.zip vs) m x=some v
 |[],_,_,_,_,h,_,_=>by simp at h
 |_::_,[],_,_,_,_,h,_=>by simp at h
 |p::P,w::vs,0,m,nd,h1,h2,hk=>by
  simp at h1 h2;subst h1;subst h2
  show bindL kindOf ((p,w)::P.zip vs) m p=_
  unfold bindL
  rw[bindL_out fun v hv=>(List.nodup_cons.mp nd).1 (List.of_mem_zip hv).1,if_pos hk]
  simp
 |p::P,w::vs,i+1,m,nd,h1,h2,hk=>by
  show bindL kindOf ((p,w)::P.zip vs) m x=_
  unfold bindL
  exact bindL_get (i:=i) (List.nodup_cons.mp nd).2 (by simpa using h1) (by simpa using h2) hk
theorem bindC_get {kindOf:Str→Option NameKind}: ∀ {P:List Str} {vs:List Value} {i:Nat} {m:Str→Option Value},P.Nodup→P[i]?=some x→vs[i]?=some v→kindOf x≠some .local→
  bindC kindOf (P.zip vs) m x=some v
 |[],_,_,_,_,h,_,_=>by simp at h
 |_::_,[],_,_,_,_,h,_=>by simp at h
 |p::P,w::vs,0,m,nd,h1,h2,hk=>by
  simp at h1 h2;subst h1;subst h2
  show bindC kindOf ((p,w)::P.zip vs) m p=_
  unfold bindC
  rw[bindC_out fun v hv=>(List.nodup_cons.mp nd).1 (List.of_mem_zip hv).1,if_neg hk]
  simp
 |p::P,w::vs,i+1,m,nd,h1,h2,hk=>by
  show bindC kindOf ((p,w)::P.zip vs) m x=_
  unfold bindC
  exact bindC_get (i:=i) (List.nodup_cons.mp nd).2 (by simpa using h1) (by simpa using h2) hk
noncomputable def start (N:List Str) (vs:List V):St:=vs.map some++List.replicate (N.length - vs.length) none
noncomputable def cxOf (CX:CXT) (P:Program) (w:World) (K:PySem.W.Frag) (mg:Str→Option Value) (base:Heap) (N:List Str) (qual:Str) (scope:Scope) (f:Addr) (cd:Value) (A:Around) (outer:List Env) (s:Shared) (H:Hp) (E:XK):Cx where
 prog:=P
 w:=w
 K:=K
 mg:=mg
 base:=base
 A:=A.deeper (envOfC qual scope s.heap.objs.size f cd)
 N:=N
 s₀:=s
 H₀:=H
 env:=envOfC qual scope s.heap.objs.size f cd
 outer:=outer
 stack:=envOfC qual scope s.heap.objs.size f cd::outer
 ex:=[]
 calm:=true
 fn:=fun _=>true
 pn:=[]
 xe:=fun e s'=>wpAny (model P w) (A.deeper (envOfC qual scope s.heap.objs.size f cd)) (leaving (envOfC qual scope s.heap.objs.size f cd) e) (fun _ s''=>CX outer H s E e s'') (fun e' s''=>CX outer H s E e' s'') s'
theorem cell_has {sc:Scope} (h:sc.names.lookup x=some .cell): ∃ c,(cellsFrom n sc.names []).lookup x=some c:=by
 have q:=PySem.W.cellsFrom_some sc.names n [] (.inl h)
 exact Option.isSome_iff_exists.mp q
theorem inv_start {CX:CXT} {P:Program} {w:World} {K:PySem.W.Frag} {mg:Str→Option Value} {base:Heap} {N ps:List Str} {qual:Str} {scope:Scope} {f:Addr} {cd:Value} {A:Around} {outer:List Env} {s s1:Shared} {H:Hp} {E:XK} {us:List Value} {vs:List V}
  (S:FnScope N ps scope) (hd:A.handled=none) (e0:Env0 P w K mg base A outer s H) (hl:vs.length=ps.length) (r:Vals vs us)
  (x:InCallC s s.heap.objs.size (bindL (envOfC qual scope s.heap.objs.size f cd).kindOf (ps.zip us) fun _=>none) (cellsFrom (s.heap.objs.size+1) scope.names []) (bindC (envOfC qual scope s.heap.objs.size f cd).kindOf (ps.zip us) fun _=>none) s1):
  Inv (cxOf CX P w K mg base N qual scope f cd A outer s H E) [] (start N vs) H s1:=by
 have hpl:ps.length≤N.length:=by have:=congrArg List.length S.pre;rw[List.length_take] at this;lia
 obtain⟨h1,tk,rfl,hk⟩:=x.done
 have noA: ∀ b:Addr,b∉(cxOf CX P w K mg base N qual scope f cd A outer s H E).ex:=fun b z=>absurd (show b∈([]:List Addr) from z) (by simp)
 refine⟨⟨e0.mod,S.kind,rfl,rfl,Nat.le_refl _,fun y z c h1 h2=>?_,fun y hy=>?_,fun y c _ h=>?_,fun _=>hd,Around.frames_deeper e0.frames,.inr ⟨rfl,rfl⟩,fun b z=>absurd z (noA b),e0.bs,e0.bsz,fun b _ _=>noA b,fun b z=>absurd z (noA b),e0.funs,e0.frf⟩,
  rfl,e0.bare,Un.kept hk,⟨_,x.toInCall.ns,fun i y v h1 h2 h3=>?_⟩,fun y c h=>⟨_,x.cell y c h⟩,e0.hok.fresh (Nat.le_refl _),fun y c h=>?_,fun p hp=>absurd (show p∈([]:List (Addr×Obj)) from hp) (by simp),e0.hok.kept hk,?_⟩
 ·exact name_of_addr x.apart (PySem.mem_of_lookup h1) (PySem.mem_of_lookup h2)
 ·have hy:scope.names.lookup y=some .cell∨scope.names.lookup y=some .free:=hy
  rcases hy with hy|hy
  ·exact cell_has hy
  ·exact absurd rfl (S.nofree _ (PySem.mem_of_lookup hy))
 ·exact Nat.le_of_lt (x.above y c (PySem.mem_of_lookup h))
 ·have hi:i < vs.length:=by
   unfold start at h2
   by_cases hi:i < vs.length
   ·exact hi
   ·rw[List.getElem?_append_right (by simpa using hi)] at h2
    rw[List.getElem?_replicate] at h2
    split at h2<;>cases h2
  have ha:vs[i]?=some v:=by
   unfold start at h2
   rw[List.getElem?_append_left (by simpa using hi),List.getElem?_map] at h2
   cases e:vs[i]? with
   |none=>rw[e] at h2;cases h2
   |some a=>rw[e] at h2;cases h2;rfl
  obtain⟨u,hu,rv⟩:=r.get ha
  have hp:ps[i]?=some y:=by
   rw[←S.pre,List.getElem?_take_of_lt (by lia)];exact h1
  have ndP:ps.Nodup:=by rw[←S.pre];exact S.nd.sublist (List.take_sublist _ _)
  refine⟨u,rv,?_⟩
  rcases S.par y (List.mem_of_getElem? hp) with k|k
  ·exact .inl ⟨k,bindL_get ndP hp hu k⟩
  ·obtain⟨c,e⟩:=cell_has (n:=s.heap.objs.size+1) k
   refine .inr ⟨.inl k,c,e,?_⟩
   have q:=x.cell y c e
   rw[bindC_get ndP hp hu (by show scope.names.lookup y≠_;rw[k];decide)] at q
   exact q
 ·exact e0.hok.fresh (Nat.le_of_lt (x.above y c (PySem.mem_of_lookup h)))
 ·unfold start
  show _=N.length
  rw[List.length_append,List.length_map,List.length_replicate]
  lia
theorem fn_of {CX:CXT} {P:Program} {w:World} {K:PySem.W.Frag} {mg:Str→Option Value} {base:Heap} {k:Nat} {f:Addr} {name qual:Str} {params:Arguments} {body:List Stmt} {scope:Scope} {dV kV doc pm cdv ct oc:Value} {an od:Option Addr}
  {osl:Array (Option Value)} {N ps:List Str} {sp:Sp} (lk:K.lookup f=some ⟨oc,od,.func (PySem.W.fnOf name qual params body scope dV kV doc pm an cdv ct),osl⟩) (hcd:PySem.W.codeIn K cdv qual=true) (S:FnScope N ps scope)
  (len: ∀ vs H Q E,sp vs H Q E→vs.length=ps.length)
  (hbody: ∀ (A:Around) (outer:List Env) (s:Shared) (H:Hp) (vs:List V) (Q:VK) (E:XK),Room k (A.deeper (envOfC qual scope s.heap.objs.size f cdv))→sp vs H Q E→
   ∃ t,PSs (cxOf CX P w K mg base N qual scope f cdv A outer s H E) body t∧t {nx:=fun _ H'=>Q .non H',rt:=Q} (start N vs) H):
  FnOk P w K mg base CX (k+1) f (PySem.W.fnOf name qual params body scope dV kV doc pm an cdv ct) ps sp:=by
 refine⟨len,fun A outer s H args us vs Q E hr e0 hb r hsp=>?_⟩
 have hl:=len _ _ _ _ hsp
 have KX:K.In s.heap:=e0.mod.kin.keeps fun b o e=>(e0.bs b o e).1
 have lim:s.heap.NoLimit:=e0.mod.nolimit.keeps fun b o e=>(e0.bs b o e).1
 have hkind: ∀ y∈ps.zip us,scope.names.lookup y.1=some .local∨(scope.names.lookup y.1=some .cell∧((cellsFrom (s.heap.objs.size+1) scope.names []).lookup y.1).isSome=true):=fun hq0 hy=>by
  obtain⟨n,v⟩:=hq0
  rcases S.par n (List.of_mem_zip hy).1 with q|q
  ·exact .inl q
  ·exact .inr ⟨q,PySem.W.cellsFrom_some _ _ _ (.inl q)⟩
 refine codeAny_call_function hr.depth (KX _ _ lk) rfl S.co S.gen rfl (PySem.W.codeRec_of KX hcd) (hb _ _ _ _ ?_)
 refine wpAny_newFunctionEnv_cells S.kind hkind fun env he s1 x=>?_
 subst he
 refine⟨lim.keeps x.toInCall.keep,codeAny_func ?_⟩
 obtain⟨t,ht,hq⟩:=hbody A outer s H vs Q E (hr.deeper _) hsp
 have I:Inv (cxOf CX P w K mg base N qual scope f cdv A outer s H E) [] (start N vs) H s1:=inv_start S hr.hd e0 hl r x
 refine wpAny_mono (ht [] s1 (start N vs) H _ I hq) (fun fl s' hs=>?_) fun e s' hs=>hs
 have fin: ∀ {σ':St} {H':Hp} {v:V} {u:Value},Inv (cxOf CX P w K mg base N qual scope f cdv A outer s H E) [] σ' H' s'→RelV v u→Q v H'→CE outer P w H s Q u s':=
  fun {σ' H' v u} J rv q=>⟨v,H',J.os,J.bare,J.base,J.hok,rv,q⟩
 cases fl with
 |ret u=>
  obtain⟨v,σ',H',J,rv,q⟩:=hs
  exact fin J rv q
 |next=>
  obtain⟨σ',H',J,q⟩:=hs
  exact fin (v:=V.non) (u:=Value.none) J rfl q
 |brk=>
  obtain⟨_,_,_,q⟩:=hs
  exact False.elim q
 |cont=>
  obtain⟨_,_,_,q⟩:=hs
  exact False.elim q
end L2
namespace L2
open PySem PySem.Spec PyProof.Rows
section
variable {X:Cx} {x:Str} {p pos:Pos} {e:Expr} {es:List Expr} {t:TA} {id T:String} {r:List V→Hp→VK→Prop}
noncomputable def tCB (r:List V→Hp→VK→Prop) (t:TA):TE:=fun σ H Q=>t σ H fun vs H1=>r vs H1 Q
theorem pe_callB (hc:CallR X (.builtin id) r) (hg:Gl X x) (hm:X.mg x=none) (hv:bootBuiltins x=some (.builtin id)) (ha:PA X (e::es) t) (hn:x≠"__name__":=by decide) (hdb:(x==("__debug__":Str))=false:=by decide)
  (he:starEach (e::es) X.env=(false,eval e X.env)::starEach es X.env:=by rfl) (hpl:(backTo pos (starEach es X.env)).any (·.1)=false:=by rfl):PE X (.Call (.Name x p) (e::es) [] pos) (tCB r t):=by
 intro pZ s σ H Q I h
 refine wpAny_Call_Name_kw (ld_blt I hg hm hv ?_ hn hdb)
 exact PyProof.Rows.callWith_builtin1 (thn (ha pos pZ s σ H _ I h) fun us s1 ⟨vs,H1,I1,r1,q1⟩=>hc pZ s1 σ H1 vs us Q I1 r1 q1) he hpl
theorem pe_callTy (hc:CallR X (.type T) r) (hg:Gl X x) (hm:X.mg x=none) (hv:bootBuiltins x=some (.type T)) (ha:PA X (e::es) t) (hn:x≠"__name__":=by decide) (hdb:(x==("__debug__":Str))=false:=by decide)
  (he:starEach (e::es) X.env=(false,eval e X.env)::starEach es X.env:=by rfl) (hpl:(backTo pos (starEach es X.env)).any (·.1)=false:=by rfl):PE X (.Call (.Name x p) (e::es) [] pos) (tCB r t):=by
 intro pZ s σ H Q I h
 refine wpAny_Call_Name_kw (ld_blt I hg hm hv ?_ hn hdb)
 exact PyProof.Rows.callWith_type1 (thn (ha pos pZ s σ H _ I h) fun us s1 ⟨vs,H1,I1,r1,q1⟩=>hc pZ s1 σ H1 vs us Q I1 r1 q1) he hpl
end
end L2
namespace HT
open PySem PyProof.Rows
theorem rcLt_int (A:Around) (s:Shared) (a:Int) (t:Tok) (c:Int) (u:Tok) (prog:Program) (w:World) (E:Value→Shared→Prop) (Q:Value→Shared→Prop) (h:Q (.bool (decide (a < c))) s):
  wpAny (model prog w) A (richCompare .Lt (.int a t) (.int c u)) Q E s:=
 (PyProof.Rows.lt_int h:wpAny (model prog w) A (compareOp .Lt (.int a t) (.int c u)) Q E s)
section
variable {prog : Program} {w : World} {A : Around} {E : Value → Shared → Prop} {s : Shared}
theorem cat_tup (ht:IsTup s.heap t vs.toArray) (hb:IsTup s.heap b ws.toArray) (hv:vs≠[])
  (h1:ws=[]→Q (.ref t) s) (h2:ws≠[]→Q (.ref s.heap.objs.size) {s with heap:=s.heap.push {cls:=.type "tuple",data:=.seq (vs++ws).toArray}})
  (hsz:vs.length+ws.length≤sizeLine):wpAny (model prog w) A (binaryOp .Add (.ref t) (.ref b)) Q E s:=by
 obtain⟨⟨cls,dd,data,sl⟩,ho,hc,n,hd⟩:=id ht
 obtain⟨⟨cls2,dd2,data2,sl2⟩,ho2,hc2,n2,hd2⟩:=id hb
 simp only at hc hd hc2 hd2
 subst hc hd hc2 hd2
 have e:vs.toArray++ws.toArray=(vs++ws).toArray:=by simp
 by_cases hw:ws=[]
 ·exact concat_meets ⟨_,ho,rfl⟩ ⟨_,ho2,rfl⟩ noFill_tuple_add seq_tuple_add PySem.F.slot_tuple_add PySem.F.entry_tuple_add (PySem.F.args_tuple_add_2 _ _)
   (tuple_addW1 t b vs.toArray ws.toArray n n2 dd dd2 sl sl2 (by simpa using hv) (by simp[hw])) ⟨ho,ho2,h1 hw⟩
 ·refine concat_meets ⟨_,ho,rfl⟩ ⟨_,ho2,rfl⟩ noFill_tuple_add seq_tuple_add PySem.F.slot_tuple_add PySem.F.entry_tuple_add (PySem.F.args_tuple_add_2 _ _)
   (tuple_addW2 t b vs.toArray ws.toArray n n2 dd dd2 sl sl2 (by simpa using hv) (by simpa using hw) (by rw[List.size_toArray,List.size_toArray];exact hsz)) ⟨ho,ho2,?_⟩
  rw[e]
  exact h2 hw
noncomputable def sIx (n d:Nat):Option Int→Nat
 |none=>d
 |some v=>if v < 0 then(v+(n:Int)).toNat else min v.toNat n
theorem sIx_none (n d:Nat):sIx n d none=d:=rfl
theorem sIx_nat (n d k:Nat):sIx n d (some (k:Int))=min k n:=by
 show (if(k:Int) < 0 then((k:Int)+(n:Int)).toNat else min (k:Int).toNat n)=min k n
 rw[if_neg (by lia),Int.toNat_natCast]
theorem sIx_le (n d:Nat) (hd:d≤n) (o:Option Int):sIx n d o≤n:=by
 cases o with
 |none=>exact hd
 |some v=>
  show (if v < 0 then(v+(n:Int)).toNat else min v.toNat n)≤n
  by_cases hv:v < 0
  ·rw[if_pos hv];lia
  ·rw[if_neg hv];exact Nat.min_le_right _ _
theorem clip_eq (v:Int) (n d:Nat):(if v < 0 then max (v+(n:Int)) 0 else min v (n:Int))=((sIx n d (some v):Nat):Int):=by
 show (if v < 0 then max (v+(n:Int)) 0 else min v (n:Int))=(((if v < 0 then(v+(n:Int)).toNat else min v.toNat n):Nat):Int)
 by_cases hv:v < 0
 ·simp only[if_pos hv];lia
 ·simp only[if_neg hv];lia
theorem adjust_gen (lo hi:Option Int) (n:Nat):Builtin.Slice.sliceAdjust lo hi 1 (n:Int)=(((sIx n 0 lo:Nat):Int),((sIx n n hi:Nat):Int)):=by
 have h1: ¬ ((1:Int) < 0):=by lia
 unfold Builtin.Slice.sliceAdjust
 simp only[h1,if_false]
 refine Prod.ext ?_ ?_
 ·cases lo with
  |none=>rfl
  |some v=>exact clip_eq v n 0
 ·cases hi with
  |none=>rfl
  |some v=>exact clip_eq v n n
theorem places_gen (i j:Nat):Builtin.Slice.slicePlaces (i:Int) (j:Int) 1=j - i:=by
 unfold Builtin.Slice.slicePlaces
 have h1:(1:Int) > 0:=by lia
 simp only[h1,if_true,Int.ediv_one]
 split<;>lia
theorem slicePart_ (p:IsPart v o) (h:Q o s):wpAny (model prog w) A (Builtin.Slice.slicePartIndex v) Q E s:=by
 cases p with
 |none=>exact slicePart_none h
 |int i t=>exact slicePart_int h
theorem sliceApplied_gen {sl:Addr} {vl vu:Value} {lo hi:Option Int} {n:Nat} {Q:Int×Int×Nat→Shared→Prop} (hs:s.heap.IsSliceOf sl vl vu .none) (pl:IsPart vl lo) (pu:IsPart vu hi)
  (h:Q (((sIx n 0 lo:Nat):Int),1,sIx n n hi - sIx n 0 lo) s):wpAny (model prog w) A (Builtin.Slice.sliceApplied (.ref sl) (pure (n:Int))) Q E s:=by
 obtain⟨os,hos,hcs,hds⟩:=id hs
 unfold Builtin.Slice.sliceApplied Builtin.Slice.sliceFields
 refine wpAny_bind (wpAny_bind (wpAny_field hos hds (x:=vl) rfl (wpAny_bind (wpAny_field hos hds (x:=vu) rfl (wpAny_bind (wpAny_field hos hds (x:=.none) rfl (wpAny_pure ?_)))))))
 refine wpAny_bind (slicePart_none ?_)
 show wpAny _ _ (if((1:Int)==0)=true then _ else _) _ _ s
 rw[if_neg (by decide)]
 refine wpAny_bind (slicePart_ pl (wpAny_bind (slicePart_ pu (wpAny_bind (wpAny_pure ?_)))))
 show wpAny _ _ (match Builtin.Slice.sliceAdjust lo hi 1 (n:Int) with|(lo,hi)=>pure (lo,(1:Int),Builtin.Slice.slicePlaces lo hi 1)) _ _ s
 rw[adjust_gen lo hi n]
 show wpAny _ _ (pure (((sIx n 0 lo:Nat):Int),(1:Int),Builtin.Slice.slicePlaces ((sIx n 0 lo:Nat):Int) ((sIx n n hi:Nat):Int) 1)) _ _ s
 rw[places_gen]
 exact wpAny_pure h
theorem pick_gen (xs:Array Value) (i k:Nat):((List.range k).filterMap fun (m:Nat)=>xs[((i:Int)+(m:Int) * 1).toNat]?).toArray=((xs.toList.drop i).take k).toArray:=by
 have e:(fun (m:Nat)=>xs[((i:Int)+(m:Int) * 1).toNat]?)=fun m=>xs[i+m]?:=by
  funext m
  have:((i:Int)+(m:Int) * 1).toNat=i+m:=by lia
  rw[this]
 rw[e]
 have:=pick_run xs i k
 rw[List.filterMap_map] at this
 have e2:((fun x=>xs[x]?)∘fun x=>i+x)=fun m=>xs[i+m]?:=rfl
 rw[e2] at this
 rw[this]
theorem getItem_tuple_cut {t sl:Addr} {items:Array Value} {vl vu:Value} {lo hi:Option Int} {Q:Value→Shared→Prop} (ht:IsTup s.heap t items) (hs:s.heap.IsSliceOf sl vl vu .none) (pl:IsPart vl lo) (pu:IsPart vu hi)
  (hw: ¬ (sIx items.size 0 lo=0∧sIx items.size items.size hi=items.size))
  (h:Q (.ref s.heap.objs.size) {s with heap:=s.heap.push {cls:=.type "tuple",data:=.seq ((items.toList.drop (sIx items.size 0 lo)).take (sIx items.size items.size hi - sIx items.size 0 lo)).toArray}})
  (hsz:items.size≤sizeLine):wpAny (model prog w) A (getItem (.ref t) (.ref sl)) Q E s:=by
 have htake:sizeOk (.seq ((items.toList.drop (sIx items.size 0 lo)).take (sIx items.size items.size hi - sIx items.size 0 lo)).toArray):=by
  show ((items.toList.drop (sIx items.size 0 lo)).take (sIx items.size items.size hi - sIx items.size 0 lo)).toArray.size≤sizeLine
  rw[List.size_toArray,List.length_take,List.length_drop,Array.length_toList]
  lia
 have hj:sIx items.size items.size hi≤items.size:=sIx_le _ _ (Nat.le_refl _) hi
 obtain⟨os,hos,hcs,hds⟩:=id hs
 have hTs:s.TypeIs (.ref sl) "slice":=⟨os,hos,hcs⟩
 unfold getItem
 try with_reducible refine wpAny_holding ?_
 first|refine wpAny_bind (wpAny_pure ?_)|skip
 refine wpAny_bind (wpAny_sequenceKey ht.typeIs (by decide) ?_)
 refine wpAny_bind (wpAny_callSpecial?_slot (name:=Str.ofString "__getitem__") ht.typeIs PyProof.Rows.slot_tuple_getitem
  (wpAny_call_entry PyProof.Rows.slot_tuple_getitem ht.typeIs entry_tuple_getitem ?_ (args_tuple_getitem _ _)))
 show wpAny _ _ (Builtin.Tuple.tupleItemsOf (.ref t) >>= _) _ _ s
 refine wpAny_bind (tupleItemsOf_ ht ?_)
 refine wpAny_bind (wpAny_typeOf hTs ?_)
 rw[if_pos (by decide)]
 refine wpAny_bind (sliceApplied_gen hs pl pu ?_)
 have hno: ¬ ((((sIx items.size 0 lo:Nat):Int)==0&&(1:Int)==1&&(sIx items.size items.size hi - sIx items.size 0 lo)==items.size)=true):=by
  intro q
  rw[Bool.and_eq_true,Bool.and_eq_true] at q
  have q1:((sIx items.size 0 lo:Nat):Int)=0:=eq_of_beq q.1.1
  have q2:sIx items.size items.size hi - sIx items.size 0 lo=items.size:=eq_of_beq q.2
  exact hw ⟨by lia,by lia⟩
 show wpAny _ _ (if(((sIx items.size 0 lo:Nat):Int)==0&&(1:Int)==1&&(sIx items.size items.size hi - sIx items.size 0 lo)==items.size)=true then _ else _) _ _ s
 rw[if_neg hno,pick_gen]
 first
  |exact wpAny_bind (m:=Builtin.Tuple.tupleExact _) (wpAny_newObj_type (wpAny_pure ⟨_,rfl,wpAny_pure h⟩) htake)
  |exact wpAny_bind (m:=Builtin.Tuple.tupleExact _) (wpAny_newObj_type (wpAny_bind (wpAny_pure (wpAny_pure ⟨_,rfl,wpAny_pure h⟩))) htake)
  |exact wpAny_bind (wpAny_bind (m:=Builtin.Tuple.tupleExact _) (wpAny_newObj_type (wpAny_pure (wpAny_pure ⟨_,rfl,wpAny_pure h⟩)) htake))
  |exact wpAny_bind (wpAny_bind (m:=Builtin.Tuple.tupleExact _) (wpAny_newObj_type (wpAny_pure ⟨_,rfl,wpAny_pure h⟩) htake))
end
end HT
namespace L2
open PySem PySem.Spec PyProof.Rows
abbrev TO:=St→Hp→(Option Int→Hp→Prop)→Prop
def PO (X:Cx) (e:Option Expr) (t:TO):Prop:=
 ∀ (pZ:List (Addr×Obj)) (s:Shared) (σ:St) (H:Hp) (Q:Option Int→Hp→Prop),Inv X pZ σ H s→t σ H Q→
  wpAny (model X.prog X.w) X.A (evalPart e X.env) (fun u s'=> ∃ o H',Inv X pZ σ H' s'∧IsPart u o∧Q o H') X.xe s
def tNoPart:TO:=fun _ H Q=>Q none H
noncomputable def tPart (t:TE):TO:=fun σ H Q=>t σ H fun x H1=> ∃ i,x= .int i∧Q (some i) H1
section
variable {X:Cx} {e:Expr} {te:TE} {lo hi:Option Expr} {tl th:TO} {pos p2:Pos}
theorem po_none:PO X none tNoPart:=by
 intro pZ s σ H Q I h
 rw[evalPart_none]
 exact wpAny_pure ⟨none,H,I,.none,h⟩
theorem po_some (h:PE X e te):PO X (some e) (tPart te):=by
 intro pZ s σ H Q I hw
 rw[evalPart_some]
 refine thn (h pZ s σ H _ I hw) fun u s1 ⟨x,H1,I1,r1,q1⟩=>?_
 obtain⟨i,rfl,q⟩:=q1
 obtain⟨t,rfl⟩:=r1
 exact⟨some i,H1,I1,.int i t,q⟩
def SlR (X:Cx) (r:V→Option Int→Option Int→Hp→VK→Prop):Prop:=
 ∀ (pZ:List (Addr×Obj)) (s:Shared) (σ:St) (H:Hp) (x:V) (v vl vu:Value) (lo hi:Option Int) (sl:Addr) (Q:VK),Inv X pZ σ H s→RelV x v→s.heap.IsSliceOf sl vl vu .none→IsPart vl lo→IsPart vu hi→r x lo hi H Q→
  ∃ T id,typeLookup (.type T) "__getitem__"=pure (some (.builtin id))∧s.TypeIs v T∧wpAny (model X.prog X.w) X.A (getItem v (.ref sl)) (EP X pZ σ Q) X.xe s
theorem SlR.or {r r':V→Option Int→Option Int→Hp→VK→Prop} (h:SlR X r) (h':SlR X r'):SlR X (fun x lo hi H Q=>r x lo hi H Q∨r' x lo hi H Q):=by
 intro pZ s σ H x v vl vu lo hi sl Q I rx hs pl pu q
 rcases q with q|q
 ·exact h pZ s σ H x v vl vu lo hi sl Q I rx hs pl pu q
 ·exact h' pZ s σ H x v vl vu lo hi sl Q I rx hs pl pu q
noncomputable def tSl (r:V→Option Int→Option Int→Hp→VK→Prop) (te:TE) (tl th:TO):TE:=fun σ H Q=>te σ H fun x H1=>tl σ H1 fun l H2=>th σ H2 fun u H3=>r x l u H3 Q
theorem pe_slice (hr:SlR X r) (he:PE X e te) (hl:PO X lo tl) (hu:PO X hi th):PE X (.Subscript e (.Slice lo hi none p2) pos) (tSl r te tl th):=by
 intro pZ s σ H Q I h
 refine Subscript_ (thn (he pZ s σ H _ I h) fun v s1 ⟨x,H1,I1,r1,q1⟩=>?_)
 refine wpAny_Slice (thn (hl pZ s1 σ H1 _ I1 q1) fun vl s2 ⟨l,H2,I2,pl,q2⟩=>thn (hu pZ s2 σ H2 _ I2 q2) fun vu s3 ⟨u,H3,I3,pu,q3⟩=>?_)
 rw[evalPart_none]
 refine wpAny_pure ?_
 have I4:Inv X pZ σ H3 {s3 with heap:=s3.heap.push {cls:=.type "slice",data:=.fields #[vl,vu,.none]}}:=I3.kept (t':=s3.toks) fun b ob q=>Heap.get?_push_of_some _ q
 obtain⟨T,id,hT,ht,hg⟩:=hr pZ {s3 with heap:=s3.heap.push {cls:=.type "slice",data:=.fields #[vl,vu,.none]}} σ H3 x v vl vu l u s3.heap.objs.size Q I4 r1 (Heap.IsSliceOf.new ..) pl pu q3
 show wpAny (model X.prog X.w) X.A (subscriptTail e (.Slice lo hi none p2) v (.ref s3.heap.objs.size)) (EP X pZ σ Q) X.xe {s3 with heap:=s3.heap.push {cls:=.type "slice",data:=.fields #[vl,vu,.none]}}
 exact tail_any (ops:=[.ref s3.heap.objs.size,v]) ht hT hg (by with_unfolding_all rfl)
noncomputable def cutV (xs:List V) (lo hi:Option Int):List V:=(xs.drop (HT.sIx xs.length 0 lo)).take (HT.sIx xs.length xs.length hi - HT.sIx xs.length 0 lo)
theorem cutV_length (xs:List V) (lo hi:Option Int):(cutV xs lo hi).length≤xs.length:=by
 unfold cutV
 rw[List.length_take,List.length_drop]
 lia
noncomputable def rSlT (K:PySem.W.Frag):V→Option Int→Option Int→Hp→VK→Prop:=fun x lo hi H Q=> ∃ a xs,x= .ref a∧SqT K H a xs∧
 ¬ (HT.sIx xs.length 0 lo=0∧HT.sIx xs.length xs.length hi=xs.length)∧∀ p,H p=none→Q (.ref p) (upd H p (.tup (cutV xs lo hi)))
theorem sl_tup:SlR X (rSlT X.K):=by
 intro pZ s σ H x v vl vu lo hi sl Q I rx hs pl pu h
 obtain⟨a,xs,rfl,hx,hw,q⟩:=h
 cases rx
 obtain⟨its,r,ht,hz⟩:=I.tuple hx
 have hlen:its.toArray.size=xs.length:=by rw[List.size_toArray];exact r.length.symm
 refine⟨"tuple",_,PyProof.Rows.slot_tuple_getitem.lookup,ht.typeIs,?_⟩
 refine HT.getItem_tuple_cut ht hs pl pu (by rw[hlen];exact hw) ?_ (by rw[hlen];exact hz)
 rw[hlen]
 refine⟨.ref s.heap.objs.size,_,I.laid (t':=s.toks) (o:=.tup (cutV xs lo hi)) (fun b ob q=>Heap.get?_push_of_some _ q) (Nat.le_refl _) ?_,rfl,q _ (I.hok.fresh (Nat.le_refl _))⟩
 exact⟨Nat.le_trans (cutV_length xs lo hi) hz,_,(r.drop (HT.sIx xs.length 0 lo)).take (HT.sIx xs.length xs.length hi - HT.sIx xs.length 0 lo),IsTup.new _ _⟩
noncomputable def rCatT (K:PySem.W.Frag):R2:=fun x y H Q=> ∃ a b xs ys,x= .ref a∧y= .ref b∧SqT K H a xs∧SqT K H b ys∧xs≠[]∧xs.length+ys.length≤sizeLine∧
 (ys=[]→Q (.ref a) H)∧(ys≠[]→∀ p,H p=none→Q (.ref p) (upd H p (.tup (xs++ys))))
theorem Vals.nil_iff (r:Vals xs us):us=[]↔xs=[]:=by
 cases r with
 |nil=>simp
 |cons _ _=>simp
theorem op_catT:OpR X (binaryOp .Add) (rCatT X.K):=by
 intro pZ s σ H x y v u Q I rx ry h
 obtain⟨a,b,xs,ys,rfl,rfl,ha,hb,hx,hz,q1,q2⟩:=h
 cases rx
 cases ry
 obtain⟨its,r1,p1,_⟩:=I.tuple ha
 obtain⟨its2,r2,p2,_⟩:=I.tuple hb
 refine HT.cat_tup p1 p2 (fun z=>hx (r1.nil_iff.mp z)) (fun z=>⟨.ref a,H,I,rfl,q1 (r2.nil_iff.mp z)⟩) (fun z=>?_) (by rw[←r1.length,←r2.length];exact hz)
 refine⟨.ref s.heap.objs.size,_,I.laid (t':=s.toks) (o:=.tup (xs++ys)) (fun b ob q=>Heap.get?_push_of_some _ q) (Nat.le_refl _) ?_,rfl,q2 (fun w=>z (r2.nil_iff.mpr w)) _ (I.hok.fresh (Nat.le_refl _))⟩
 exact⟨by rw[List.length_append];exact hz,_,r1.append r2,IsTup.new _ _⟩
end
end L2
namespace L2
open PySem PySem.Spec PyProof.Rows
noncomputable def ixN (n:Nat) (i:Int):Option Nat:=if 0≤i then(if i < n then some i.toNat else none) else if -(n:Int)≤i then some (i+n).toNat else none
noncomputable def atI {α:Type} (xs:List α) (i:Int):Option α:=(ixN xs.length i).bind fun j=>xs[j]?
theorem ixN_seq (h:ixN n i=some j):seqIndex? i n=some j∧j < n∧-(n:Int)≤i∧i < n:=by
 unfold ixN at h
 by_cases h0:0≤i
 ·rw[if_pos h0] at h
  by_cases h1:i < n
  ·rw[if_pos h1] at h
   have e:i.toNat=j:=Option.some.inj h
   exact⟨by rw[seqIndex_of h0 h1,e],by lia,by lia,h1⟩
  ·rw[if_neg h1] at h;cases h
 ·rw[if_neg h0] at h
  by_cases h1: -(n:Int)≤i
  ·rw[if_pos h1] at h
   have e:(i+n).toNat=j:=Option.some.inj h
   exact⟨by rw[seqIndex_neg (by lia) h1,e],by lia,h1,by lia⟩
  ·rw[if_neg h1] at h;cases h
theorem atI_get {α:Type} {xs:List α} {i:Int} {v:α} (h:atI xs i=some v): ∃ j,seqIndex? i xs.length=some j∧xs[j]?=some v∧j < xs.length∧-(xs.length:Int)≤i∧i < xs.length:=by
 unfold atI at h
 cases e:ixN xs.length i with
 |none=>rw[e] at h;cases h
 |some j=>
  rw[e] at h
  obtain⟨h1,h2,h3,h4⟩:=ixN_seq e
  exact⟨j,h1,h,h2,h3,h4⟩
theorem atI_nat {α:Type} {xs:List α} {j:Nat} {v:α} (h:xs[j]?=some v):atI xs (j:Int)=some v:=by
 have hj:j < xs.length:=(List.getElem?_eq_some_iff.mp h).1
 have e:ixN xs.length (j:Int)=some j:=by
  unfold ixN
  rw[if_pos (by lia),if_pos (by lia)];simp
 unfold atI;rw[e];exact h
def PlainIx (b:Expr):Prop:= ∀ o i,subscripted b false o i=operate [o,i] (getItem o i)
def IxR (X:Cx) (r:R2):Prop:=
 ∀ (value slice:Expr) (pZ:List (Addr×Obj)) (s:Shared) (σ:St) (H:Hp) (x y:V) (v u:Value) (Q:VK),Inv X pZ σ H s→RelV x v→RelV y u→r x y H Q→
  subscripted slice false v u=operate [v,u] (getItem v u)→wpAny (model X.prog X.w) X.A (subscriptTail value slice v u) (EP X pZ σ Q) X.xe s
def MtR (X:Cx) (id:String) (r:V→List V→Hp→VK→Prop):Prop:=
 ∀ (pZ:List (Addr×Obj)) (s:Shared) (σ:St) (H:Hp) (x:V) (xs:List V) (v:Value) (us:List Value) (Q:VK),Inv X pZ σ H s→RelV x v→Vals xs us→r x xs H Q→
  wpAny (model X.prog X.w) X.A (call (.builtin id) (v::us)) (EP X pZ σ Q) X.xe s
section
variable {X:Cx} {a b:Expr} {ta tb:TE} {pos:Pos}
theorem IxR.or {r r':R2} (h:IxR X r) (h':IxR X r'):IxR X (fun x y H Q=>r x y H Q∨r' x y H Q):=by
 intro value slice pZ s σ H x y v u Q I rx ry q hs
 rcases q with q|q
 ·exact h value slice pZ s σ H x y v u Q I rx ry q hs
 ·exact h' value slice pZ s σ H x y v u Q I rx ry q hs
theorem pe_ix (hr:IxR X r) (ha:PE X a ta) (hb:PE X b tb) (hs:PlainIx b):PE X (.Subscript a b pos) (tOp r ta tb):=by
 intro pZ s σ H Q I h
 exact Subscript_ (binT ha hb I h fun v u s2 x y H2 I2 rx ry q=>hr a b pZ s2 σ H2 x y v u Q I2 rx ry q (hs _ _))
noncomputable def rIxL (K:PySem.W.Frag):R2:=fun x y H Q=> ∃ p xs i v,x= .ref p∧y= .int i∧SqL K H p xs∧atI xs i=some v∧Q v H
noncomputable def rIxT (K:PySem.W.Frag):R2:=fun x y H Q=> ∃ p xs i v,x= .ref p∧y= .int i∧SqT K H p xs∧atI xs i=some v∧Q v H
noncomputable def rIxS:R2:=fun x y H Q=> ∃ z i c,x= .str z∧y= .int i∧z.length≤sizeLine∧atI z.cps.toList i=some c∧Q (.str ⟨#[c]⟩) H
theorem ix_list:IxR X (rIxL X.K):=by
 intro value slice pZ s σ H x y v u Q I rx ry h hs
 obtain⟨p,xs,i,z,rfl,rfl,hq,he,q⟩:=h
 cases rx
 obtain⟨t,rfl⟩:=ry
 obtain⟨its,r,pl,hz⟩:=I.list hq
 obtain⟨j,h1,h2,h3,h4,h5⟩:=atI_get he
 obtain⟨w,ew,rw'⟩:=r.get h2
 have hl:=r.length
 have hn:=line63
 have fin:EP X pZ σ Q w s:=⟨z,H,I,rw',q⟩
 by_cases h0:0≤i
 ·have hj:i.toNat=j:=by
   rw[seqIndex_of h0 h5] at h1
   exact Option.some.inj h1
  exact item_listR pl.isList h0 (by lia) (by rw[hj];simpa using ew) fin hs
 ·have hj:(i+(its.toArray.size:Int)).toNat=j:=by
   rw[seqIndex_neg (by lia) h4] at h1
   rw[List.size_toArray,←hl]
   exact Option.some.inj h1
  exact subscriptTail_builtinR (x:=w) pl.isList.typeIs slot_list_getitem.lookup
   (wpAny_getItem_list_neg (Q:=fun r s'=>r=w∧EP X pZ σ Q r s') pl.isList (by lia) (by rw[List.size_toArray]<;>lia) (by lia) (by rw[hj];simpa using ew) ⟨rfl,fin⟩) hs
theorem ix_tup:IxR X (rIxT X.K):=by
 intro value slice pZ s σ H x y v u Q I rx ry h hs
 obtain⟨p,xs,i,z,rfl,rfl,hq,he,q⟩:=h
 cases rx
 obtain⟨t,rfl⟩:=ry
 obtain⟨its,r,pl,hz⟩:=I.tuple hq
 obtain⟨j,h1,h2,h3,h4,h5⟩:=atI_get he
 obtain⟨w,ew,rw'⟩:=r.get h2
 have hl:=r.length
 have hn:=line63
 have fin:EP X pZ σ Q w s:=⟨z,H,I,rw',q⟩
 exact subscriptTail_builtinR (x:=w) pl.typeIs slot_tuple_getitem.lookup
  (getItem_tuple (j:=j) (Q:=fun r s'=>r=w∧EP X pZ σ Q r s') pl (by lia) (by lia) (by rw[List.size_toArray,←hl];exact h1) (by simpa using ew) ⟨rfl,fin⟩) hs
theorem ix_str:IxR X rIxS:=by
 intro value slice pZ s σ H x y v u Q I rx ry h hs
 obtain⟨z,i,c,rfl,rfl,hz,he,q⟩:=h
 obtain⟨t,rfl⟩:=rx
 obtain⟨t',rfl⟩:=ry
 obtain⟨j,h1,h2,h3,h4,h5⟩:=atI_get he
 have hl:z.cps.toList.length=z.length:=by simp[Str.length]
 rw[hl] at h1 h4 h5
 have hn:=line63
 exact tail_any (typeIs_str s z t) slot_str_getitem.lookup (getItem_str (c:=c) (by
  have e1:decide (i < -(2 ^ 63:Int))=false:=decide_eq_false (by lia)
  have e2:decide (i ≥ 2 ^ 63)=false:=decide_eq_false (by lia)
  rw[e1,e2,Bool.or_false]) (by rw[h1];simpa using h2) ⟨.str ⟨#[c]⟩,H,I.tok _,⟨_,rfl⟩,q⟩) hs
noncomputable def rIx (K:PySem.W.Frag):R2:=fun x y H Q=>rIxL K x y H Q∨rIxT K x y H Q∨rIxS x y H Q
theorem ix_seq:IxR X (rIx X.K):=ix_list.or (ix_tup.or ix_str)
theorem mapSeq_set (its:List Value) (n j:Nat) (u:Value):Obj.mapSeq (·.setIfInBounds j u) {cls:=.type "list",data:=.seq its.toArray n}={cls:=.type "list",data:=.seq (its.set j u).toArray n}:=by
 simp[Obj.mapSeq]
theorem Inv.lst {pZ:List (Addr×Obj)} {σ:St} {H:Hp} {s:Shared} {p:Addr} {xs:List V} (I:Inv X pZ σ H s) (h:H p=some (.lst xs)):
  ∃ (its:List Value) (n:Nat),Vals xs its∧s.heap.get? p=some {cls:=.type "list",data:=.seq its.toArray n}∧xs.length≤sizeLine:=by
 obtain⟨z,its,n,r,e⟩:=I.hok p _ h
 exact⟨its,n,r,e,z⟩
theorem Inv.lstUpd {its its':List Value} {f:Obj→Obj} (I:Inv X pZ σ H s) (h:H p=some (.lst xs))
  (ho:s.heap.get? p=some {cls:=.type "list",data:=.seq its.toArray n}) (hf:f {cls:=.type "list",data:=.seq its.toArray n}={cls:=.type "list",data:=.seq its'.toArray n'}) (r:Vals ys its') (hz:ys.length≤sizeLine) (t:Nat):
  Inv X pZ σ (upd H p (.lst ys)) {s with heap:=s.heap.update p f,toks:=t}:=by
 have e:(s.heap.update p f).get? p=some {cls:=.type "list",data:=.seq its'.toArray n'}:=by
  rw[Heap.get?_update_self f ho (by rw[hf]<;>rfl),hf]
 refine I.write (x:=p) (e:=p) (by rw[h];trivial) (.inl rfl) (fun b u hb q=>(Heap.get?_update_other _ _ (Ne.symm hb)).trans q) ⟨_,e⟩ ?_
 exact⟨hz,its',n',r,e⟩
noncomputable def rSetL:V→V→V→Hp→(Hp→Prop)→Prop:=fun o i v H Q=> ∃ p xs k j,o= .ref p∧i= .int k∧H p=some (.lst xs)∧ixN xs.length k=some j∧Q (upd H p (.lst (xs.set j v)))
theorem set_list:PSet X rSetL:=by
 intro pZ s σ H o i v ov iv u Q I ro ri rv h
 obtain⟨p,xs,k,j,rfl,rfl,hp,hj,q⟩:=h
 cases ro
 obtain⟨t,rfl⟩:=ri
 obtain⟨its,n,r,ho,hz⟩:=I.lst hp
 obtain⟨h1,h2,h3,h4⟩:=ixN_seq hj
 have hl:=r.length
 have hn:=line63
 have I':Inv X pZ σ (upd H p (.lst (xs.set j v))) {s with heap:=s.heap.update p (Obj.mapSeq (·.setIfInBounds j u))}:=
  I.lstUpd hp ho (mapSeq_set its n j u) (r.set rv j) (by rw[List.length_set];exact hz) s.toks
 by_cases h0:0≤k
 ·have hk:k.toNat=j:=by
   rw[seqIndex_of h0 h4] at h1
   exact Option.some.inj h1
  exact PySem.W.ki_setAt ho h0 (by lia) (by rw[List.size_toArray,←hl];exact h4) (by rw[hk];exact⟨_,I',q⟩)
 ·have hk:(k+(its.toArray.size:Int)).toNat=j:=by
   rw[seqIndex_neg (by lia) h3] at h1
   rw[List.size_toArray,←hl]
   exact Option.some.inj h1
  exact PySem.W.ki_setBack ho (by lia) (by rw[List.size_toArray,←hl];exact h3) (by lia) (by rw[hk];exact⟨_,I',q⟩)
theorem slice_bounds (lo hi:Option Int) (n:Nat):(sliceBounds lo hi none n).1=((HT.sIx n 0 lo:Nat):Int)∧(sliceBounds lo hi none n).2.1=((HT.sIx n n hi:Nat):Int)∧(sliceBounds lo hi none n).2.2=1:=by
 refine⟨?_,?_,rfl⟩
 ·cases lo with
  |none=>simp[sliceBounds,HT.sIx]
  |some i=>
   simp only[sliceBounds,HT.sIx,Option.getD_none,show (1:Int) > 0 by decide,if_true]
   by_cases h:i < 0
   ·simp only[h,if_true]<;>lia
   ·simp only[h,if_false]<;>lia
 ·cases hi with
  |none=>simp[sliceBounds,HT.sIx]
  |some i=>
   simp only[sliceBounds,HT.sIx,Option.getD_none,show (1:Int) > 0 by decide,if_true]
   by_cases h:i < 0
   ·simp only[h,if_true]<;>lia
   ·simp only[h,if_false]<;>lia
theorem slicePick_cut (its:List Value) (lo hi:Option Int):slicePick its.toArray lo hi none=((its.drop (HT.sIx its.length 0 lo)).take (HT.sIx its.length its.length hi - HT.sIx its.length 0 lo)).toArray:=by
 obtain⟨h1,h2,h3⟩:=slice_bounds lo hi its.toArray.size
 unfold slicePick
 rw[h1,h2,h3]
 simp only[sliceRange_one,pick_run,List.size_toArray]<;>rfl
noncomputable def rSlL (K:PySem.W.Frag):V→Option Int→Option Int→Hp→VK→Prop:=fun x lo hi H Q=> ∃ a xs,x= .ref a∧SqL K H a xs∧∀ p,H p=none→Q (.ref p) (upd H p (.lst (cutV xs lo hi)))
theorem sl_list:SlR X (rSlL X.K):=by
 intro pZ s σ H x v vl vu lo hi sl Q I rx hs pl pu h
 obtain⟨a,xs,rfl,hx,q⟩:=h
 cases rx
 obtain⟨its,r,ht,hz⟩:=I.list hx
 have hlen:=r.length
 refine⟨"list",_,slot_list_getitem.lookup,ht.isList.typeIs,?_⟩
 refine wpAny_getItem_list_slice ht.isList hs pl pu .none (by simp) ?_ (by rw[List.size_toArray]<;>lia)
 rw[slicePick_cut,←hlen]
 refine⟨.ref s.heap.objs.size,_,I.laid (t':=s.toks) (o:=.lst (cutV xs lo hi)) (fun b ob q=>Heap.get?_push_of_some _ q) (Nat.le_refl _) ?_,rfl,q _ (I.hok.fresh (Nat.le_refl _))⟩
 exact⟨Nat.le_trans (cutV_length xs lo hi) hz,_,0,(r.drop (HT.sIx xs.length 0 lo)).take (HT.sIx xs.length xs.length hi - HT.sIx xs.length 0 lo),Heap.get?_push_size _ rfl⟩
noncomputable def flatV:V→Bool
 | .non=>true
 | .bl _=>true
 | .int _=>true
 | .str _=>true
 |_=>false
noncomputable def eqV:V→V→Bool
 | .non,.non=>true
 | .bl a,.bl b=>a==b
 | .bl a,.int b=>(if a then 1 else 0)==b
 | .int a,.bl b=>a==(if b then 1 else 0)
 | .int a,.int b=>a==b
 | .str a,.str b=>a==b
 |_,_=>false
theorem eqAt_V (ry:RelV y u) (rx:RelV x v) (fy:flatV y=true) (fx:flatV x=true):SeqAt.EqAt A s u v (eqV y x):=by
 cases y with
 |non=>
  cases ry
  cases x with
  |non=>cases rx;exact SeqAt.EqAt.same _
  |bl b=>cases rx;exact SeqAt.EqAt.none_bool b
  |int b=>obtain⟨t,rfl⟩:=rx;exact SeqAt.EqAt.none_int b t
  |str b=>obtain⟨t,rfl⟩:=rx;exact SeqAt.EqAt.none_str b t
  |_=>exact absurd (show false=true from fx) Bool.false_ne_true
 |bl a=>
  cases ry
  cases x with
  |non=>cases rx;exact SeqAt.EqAt.bool_none a
  |bl b=>cases rx;exact SeqAt.EqAt.bool_bool a b
  |int b=>obtain⟨t,rfl⟩:=rx;exact SeqAt.EqAt.bool_int a b t
  |str b=>obtain⟨t,rfl⟩:=rx;exact SeqAt.EqAt.bool_str a b t
  |_=>exact absurd (show false=true from fx) Bool.false_ne_true
 |int a=>
  obtain⟨t',rfl⟩:=ry
  cases x with
  |non=>cases rx;exact SeqAt.EqAt.int_none a t'
  |bl b=>cases rx;exact SeqAt.EqAt.int_bool a t' b
  |int b=>obtain⟨t,rfl⟩:=rx;exact SeqAt.EqAt.int_int a t' b t
  |str b=>obtain⟨t,rfl⟩:=rx;exact SeqAt.EqAt.int_str a t' b t
  |_=>exact absurd (show false=true from fx) Bool.false_ne_true
 |str a=>
  obtain⟨t',rfl⟩:=ry
  cases x with
  |non=>cases rx;exact SeqAt.EqAt.str_none a t'
  |bl b=>cases rx;exact SeqAt.EqAt.str_bool a t' b
  |int b=>obtain⟨t,rfl⟩:=rx;exact SeqAt.EqAt.str_int a t' b t
  |str b=>obtain⟨t,rfl⟩:=rx;exact SeqAt.EqAt.str_str a t' b t
  |_=>exact absurd (show false=true from fx) Bool.false_ne_true
 |_=>exact absurd (show false=true from fy) Bool.false_ne_true
noncomputable def eqU (x:V) (u:Value):Bool:=match u with
 | .none=>eqV .non x
 | .bool b=>eqV (.bl b) x
 | .int i _=>eqV (.int i) x
 | .str z _=>eqV (.str z) x
 |_=>false
theorem eqU_of (r:RelV y u) (f:flatV y=true):eqU x u=eqV y x:=by
 cases y with
 |non=>cases r;rfl
 |bl b=>cases r;rfl
 |int i=>obtain⟨t,rfl⟩:=r;rfl
 |str z=>obtain⟨t,rfl⟩:=r;rfl
 |_=>exact absurd (show false=true from f) Bool.false_ne_true
theorem any_eqU: ∀ {xs:List V} {us:List Value},Vals xs us→xs.all flatV=true→us.any (eqU x)=xs.any fun y=>eqV y x
 |_,_,.nil,_=>rfl
 |y::xs,u::us,.cons r t,f=>by
  rw[List.all_cons,Bool.and_eq_true] at f
  rw[List.any_cons,List.any_cons,eqU_of r f.1,any_eqU t f.2]
theorem mem_eqAt (rx:RelV x v) (fx:flatV x=true): ∀ {xs:List V} {us:List Value},Vals xs us→xs.all flatV=true→∀ u∈us,SeqAt.EqAt A s u v (eqU x u)
 |_,_,.nil,_=>fun u hu=>by cases hu
 |y::xs,u::us,.cons r t,f=>fun u' hu=>by
  rw[List.all_cons,Bool.and_eq_true] at f
  rcases List.mem_cons.mp hu with rfl|hu
  ·rw[eqU_of r f.1];exact eqAt_V r rx f.1 fx
  ·exact mem_eqAt rx fx t f.2 u' hu
noncomputable def inV (x:V) (xs:List V):Bool:=xs.any fun y=>eqV y x
noncomputable def rIn (K:PySem.W.Frag) (neg:Bool):R2:=fun x y H Q=> ∃ p xs,y= .ref p∧(SqL K H p xs∨SqT K H p xs)∧flatV x=true∧xs.all flatV=true∧Q (.bl (if neg then !inV x xs else inV x xs)) H
theorem op_in_seq:OpR X (compareOp .In) (rIn X.K false):=by
 intro pZ s σ H x y v u Q I rx ry h
 obtain⟨p,xs,rfl,hq,fx,fs,q⟩:=h
 cases ry
 rcases hq with hq|hq
 ·obtain⟨its,r,pl,hz⟩:=I.list hq
  refine SeqAt.in_listAt (eqU x) pl.isList (fun w hw=>mem_eqAt rx fx r fs w (by simpa using hw)) ⟨.bl _,H,I,rfl,?_⟩
  rw[show its.toArray.any (eqU x)=its.any (eqU x) by simp,any_eqU r fs]
  exact q
 ·obtain⟨its,r,pl,hz⟩:=I.tuple hq
  refine SeqAt.in_tupleAt (eqU x) pl (fun w hw=>mem_eqAt rx fx r fs w (by simpa using hw)) ⟨.bl _,H,I,rfl,?_⟩
  rw[show its.toArray.any (eqU x)=its.any (eqU x) by simp,any_eqU r fs]
  exact q
theorem call_tuple_of:CallR X (.type "tuple") (fun xs H Q=> ∃ p ys,xs=[.ref p]∧((SqL X.K H p ys∧∀ l,H l=none→Q (.ref l) (upd H l (.tup ys)))∨(SqT X.K H p ys∧Q (.ref p) H))):=by
 intro pZ s σ H xs us Q I r h
 obtain⟨p,ys,rfl,h⟩:=h
 obtain⟨u,rfl,rx⟩:=vals1 r
 cases rx
 rcases h with⟨hq,q⟩|⟨hq,q⟩
 ·obtain⟨its,r',pl,hz⟩:=I.list hq
  have hlen:=r'.length
  refine call_tuple_list pl.isList (fun h' kp=>?_) (by simp only[List.size_toArray]<;>lia)
  have I1:Inv X pZ σ H {s with heap:=h'}:=I.kept (t':=s.toks) kp
  have I2:Inv X pZ σ (upd H h'.objs.size (.tup ys)) {s with heap:=h'.push {cls:=.type "tuple",data:=.seq its.toArray}}:=
   I1.laid (t':=s.toks) (fun b o e=>Heap.get?_push_of_some _ e) (Nat.le_refl _) (show ObjOk X.prog X.w _ _ _ (.tup ys) from⟨hz,its,r',IsTup.new _ _⟩)
  exact⟨.ref h'.objs.size,_,I2,rfl,q _ (I1.hok.fresh (Nat.le_refl _))⟩
 ·obtain⟨its,r',pl,hz⟩:=I.tuple hq
  exact call_tuple_same pl ⟨.ref p,H,I,rfl,q⟩
def tyV (K:PySem.W.Frag) (T:String) (x:V) (H:Hp):Prop:=match x with
 | .str _=>T="str"
 | .int _=>T="int"
 | .ref p=>(T="list"∧∃ xs,SqL K H p xs)∨(T="tuple"∧∃ o,K.lookup p=some o∧o.cls= .type "tuple"∧o.dict=none)∨
   (T="dict"∧((∃ kvs,Rd H p (.dK kvs))∨∃ kvs,H p=some (.dT kvs)))∨(T="set"∧∃ S n,H p=some (.set S n))
 |_=>False
theorem tyV_is (I:Inv X pZ σ H s) (r:RelV x v) (ty:tyV X.K T x H):
  s.TypeIs v T∧∀ a,v= .ref a→∃ ob,s.heap.get? a=some ob∧ob.dict=none:=by
 cases x with
 |str z=>
  obtain⟨t,rfl⟩:=r
  cases (show T="str" from ty)
  exact⟨typeIs_str s z t,fun _ e=>nomatch e⟩
 |int i=>
  obtain⟨t,rfl⟩:=r
  cases (show T="int" from ty)
  exact⟨typeIs_int s i t,fun _ e=>nomatch e⟩
 |ref p=>
  cases r
  rcases ty with⟨rfl,xs,hq⟩|⟨rfl,o,hk,hc,hd⟩|⟨rfl,hk⟩|⟨rfl,S,n,hk⟩
  ·obtain⟨its,_,pl,_⟩:=I.list hq
   refine⟨pl.isList.typeIs,fun a e=>?_⟩
   cases e
   obtain⟨o,n,e,c,hd,_⟩:=pl
   exact⟨o,e,hd⟩
  ·refine⟨⟨o,I.kIn p o hk,hc⟩,fun a e=>?_⟩
   cases e
   exact⟨o,I.kIn _ o hk,hd⟩
  ·have z: ∃ o,s.heap.get? p=some o∧o.ExactDict:=by
    rcases hk with⟨kvs,hk⟩|⟨kvs,hk⟩
    ·obtain⟨_,_,_,_,o,_,_,e,ex,_⟩:=hk.ok I.hok
     exact⟨o,e,ex⟩
    ·obtain⟨_,_,_,_,o,_,_,e,ex,_⟩:=I.hok p _ hk
     exact⟨o,e,ex⟩
   obtain⟨o,e,ex⟩:=z
   refine⟨⟨o,e,ex.1⟩,fun a e2=>?_⟩
   cases e2
   exact⟨o,e,ex.2.1⟩
  ·obtain⟨o,_,_,_,e,ex,_⟩:=I.hok p _ hk
   refine⟨⟨o,e,ex.1⟩,fun a e2=>?_⟩
   cases e2
   exact⟨o,e,ex.2.1⟩
 |_=>exact False.elim ty
noncomputable def tBM (K:PySem.W.Frag) (T:String) (r:V→List V→Hp→VK→Prop) (to:TE) (t:TA):TE:=fun σ H Q=>to σ H fun x H1=>tyV K T x H1∧t σ H1 fun xs H2=>r x xs H2 Q
variable {o e:Expr} {es:List Expr} {to:TE} {t:TA} {name:Str} {apos cpos:Pos} {T id:String} {r:V→List V→Hp→VK→Prop}
theorem pe_bm (pa:PlainAttrs T) (slot:Slot T name id) (hty:typeOf (.builtin id)=pure (.type "method_descriptor")) (hm:MtR X id r) (ho:PE X o to) (ha:PA X (e::es) t)
  (hbase:attributeBase o name X.env (eval o X.env)=eval o X.env:=by rfl)
  (hfew:((backTo cpos (starEach (e::es) X.env)).all (fun x=>!x.1)&&(backToKw cpos (keywordEach [] X.env)).all (fun x=>x.1.isSome)
   &&decide ((e::es).length+([]:List Keyword).length+(if([]:List Keyword).isEmpty then 0 else 1) < 30))=true:=by rfl)
  (hline:(apos.endLine==cpos.line)=true:=by rfl) (hs:starEach (e::es) X.env=(false,eval e X.env)::starEach es X.env:=by rfl) (hplain:(backTo cpos (starEach es X.env)).any (·.1)=false:=by rfl):
  PE X (.Call (.Attribute o name apos) (e::es) [] cpos) (tBM X.K T r to t):=by
 intro pZ s σ H Q I h
 refine wpAny_Call_method_late hbase hfew hline rfl (thn (ho pZ s σ H _ I h) fun v s1 ⟨x,H1,I1,r1,ty,q1⟩=>?_)
 obtain⟨h1,h2⟩:=tyV_is I1 r1 ty
 refine⟨T,id,pa,slot,hty,h1,h2,?_⟩
 have hA:=ha cpos pZ s1 σ H1 _ I1 q1
 rw[hs] at hA ⊢
 refine Calls.callWith_builtin (by show (false||(backTo cpos (starEach es X.env)).any (·.1))=false;rw[hplain]<;>rfl) (Calls.evalArgs_plain ?_)
 exact thn hA fun us s2 ⟨vs,H2,I2,r2,q2⟩=>hm pZ s2 σ H2 x vs v us Q I2 r1 r2 q2
end
end L2
namespace L2
open PySem PySem.Spec PyProof.Rows
def MtM (X:Cx) (id:String) (r:V→List V→Hp→VK→Prop):Prop:=
 ∀ (pZ:List (Addr×Obj)) (s:Shared) (σ:St) (H:Hp) (x:V) (xs:List V) (v:Value) (us:List Value) (Q:VK),Inv X pZ σ H s→RelV x v→Vals xs us→r x xs H Q→
  wpAny (model X.prog X.w) X.A (call (.builtin id) (v::us)) (EP X pZ σ Q) X.xe s
theorem Vals.one: ∀ {x:V} {us:List Value},Vals [x] us→∃ u,us=[u]∧RelV x u
 |_,_,.cons r .nil=>⟨_,rfl,r⟩
theorem Vals.eraseIdx: ∀ {xs:List V} {us:List Value} (i:Nat),Vals xs us→Vals (xs.eraseIdx i) (us.eraseIdx i)
 |_,_,_,.nil=>.nil
 |_,_,0,.cons _ t=>t
 |_,_,i+1,.cons r t=>.cons r (Vals.eraseIdx i t)
theorem Vals.rep (h:Vals xs us): ∀ k:Nat,Vals (List.replicate k xs).flatten (List.replicate k us).flatten
 |0=>.nil
 |k+1=>by
  rw[List.replicate_succ,List.replicate_succ,List.flatten_cons,List.flatten_cons]
  exact Vals.append h (Vals.rep h k)
theorem len_erase: ∀ (l:List α) (i:Nat),(l.eraseIdx i).length≤l.length
 |[],_=>Nat.le_refl _
 |_::_,0=>Nat.le_succ _
 |_::r,i+1=>Nat.succ_le_succ (len_erase r i)
theorem foldl_rep (its:List Value): ∀ (k:Nat) (acc:List Value),
  List.foldl (fun x1 x2=>x1++x2) acc.toArray (List.replicate k its.toArray)=(acc++(List.replicate k its).flatten).toArray
 |0,acc=>by simp
 |k+1,acc=>by
  have e:acc.toArray++its.toArray=(acc++its).toArray:=by simp
  have e2:(acc++its)++(List.replicate k its).flatten=acc++(List.replicate (k+1) its).flatten:=by
   rw[List.replicate_succ,List.flatten_cons,List.append_assoc]
  rw[←e2,←foldl_rep its k (acc++its),←e,List.replicate_succ,List.foldl_cons]
section
variable {X:Cx} {pZ:List (Addr×Obj)} {σ:St} {H:Hp} {s:Shared} {l b:Addr} {xs ys zs:List V}
theorem Inv.lset {its its':List Value} {f:Array Value→Array Value} {t':Nat} (I:Inv X pZ σ H s) (hH:H l=some (.lst xs))
  (e:s.heap.get? l=some {cls:=.type "list",data:=.seq its.toArray n}) (hf:f its.toArray=its'.toArray) (hv:Vals ys its') (hz:ys.length≤sizeLine):
  Inv X pZ σ (upd H l (.lst ys)) {s with heap:=s.heap.update l (Obj.mapSeq f),toks:=t'}:=by
 have q:=PySem.IsL.update e f
 rw[hf] at q
 refine I.write (x:=l) (e:=l) (by rw[hH];exact trivial) (.inl rfl) (fun b' u hb hu=>(Heap.get?_update_other s.heap (Obj.mapSeq f) (Ne.symm hb)).trans hu) ⟨_,q⟩ ?_
 exact⟨hz,its',_,hv,q⟩
theorem Inv.lnew {t':Nat} (I:Inv X pZ σ H s) (hv:Vals ys its) (hz:ys.length≤sizeLine):
  Inv X pZ σ (upd H s.heap.objs.size (.lst ys)) {s with heap:=s.heap.push {cls:=.type "list",data:=.seq its.toArray},toks:=t'}:=
 I.laid (fun _ _ q=>Heap.get?_push_of_some _ q) (Nat.le_refl _) ⟨hz,its,0,hv,Heap.get?_push_size _ rfl⟩
theorem Inv.fresh (I:Inv X pZ σ H s):H s.heap.objs.size=none:=I.hok.fresh (Nat.le_refl _)
theorem Inv.lstM (I:Inv X pZ σ H s) (hH:H l=some (.lst xs)):xs.length≤sizeLine∧∃ (its:List Value) (n:Nat),Vals xs its∧xs.length=its.length∧s.heap.get? l=some {cls:=.type "list",data:=.seq its.toArray n}:=by
 obtain⟨z,its,n,r,e⟩:=I.hok l _ hH
 exact⟨z,its,n,r,r.length,e⟩
theorem notLongL (h:n≤sizeLine):Builtin.List.listTooLong n=false:=by
 unfold Builtin.List.listTooLong
 exact decide_eq_false (by lia)
end
section
variable {X:Cx}
noncomputable def rAppend:V→List V→Hp→VK→Prop:=fun x vs H Q=> ∃ l xs y,x= .ref l∧vs=[y]∧H l=some (.lst xs)∧xs.length < sizeLine∧Q .non (upd H l (.lst (xs++[y])))
theorem mt_append:MtM X "list.append" rAppend:=by
 intro pZ s σ H x vs v us Q I rx rv h
 obtain⟨l,xs,y,rfl,rfl,hH,hz,q⟩:=h
 cases rx
 obtain⟨u,rfl,ru⟩:=rv.one
 obtain⟨z,its,n,r,hl,e⟩:=I.lstM hH
 refine call_meets F.slot_list_append ⟨_,e,rfl⟩ F.entry_list_append (F.args_list_append_2 _ _) (PySem.list_append l its.toArray n u (by rw[List.size_toArray];lia)) ⟨e,?_⟩
 refine⟨.non,_,I.lset (its':=its++[u]) hH e (by simp) (r.append (.cons ru .nil)) ?_,rfl,q⟩
 rw[List.length_append,List.length_singleton]
 lia
noncomputable def rPopAt:V→List V→Hp→VK→Prop:=fun x vs H Q=> ∃ l xs i k y,x= .ref l∧vs=[.int i]∧H l=some (.lst xs)∧-(2 ^ 63)≤i∧i < 2 ^ 63∧seqIndex? i xs.length=some k∧xs[k]?=some y∧Q y (upd H l (.lst (xs.eraseIdx k)))
theorem mt_popAt:MtM X "list.pop" rPopAt:=by
 intro pZ s σ H x vs v us Q I rx rv h
 obtain⟨l,xs,i,k,y,rfl,rfl,hH,h1,h2,hk,hy,q⟩:=h
 cases rx
 obtain⟨u,rfl,ru⟩:=rv.one
 obtain⟨t,rfl⟩:=ru
 obtain⟨z,its,n,r,hl,e⟩:=I.lstM hH
 obtain⟨w,hw,rw'⟩:=r.get hy
 refine call_meets F.slot_list_pop ⟨_,e,rfl⟩ F.entry_list_pop (F.args_list_pop_2 _ _)
  (MeetsSeq.list_pop_at l its.toArray n i t k w (fitsIndex_both h1 h2) (by rw[List.size_toArray,←hl];exact hk) (by rw[←Array.getElem?_toList];exact hw) (by rw[List.size_toArray];lia)) ⟨e,?_⟩
 refine⟨y,_,I.lset (its':=its.eraseIdx k) hH e ?_ (r.eraseIdx k) ?_,rw',q⟩
 ·show its.toArray.eraseIdxIfInBounds k=(its.eraseIdx k).toArray
  rw[List.eraseIdxIfInBounds_toArray]
 ·have:=len_erase xs k
  lia
noncomputable def rCat:R2:=fun x y H Q=> ∃ l b xs zs,x= .ref l∧y= .ref b∧H l=some (.lst xs)∧H b=some (.lst zs)∧xs.length+zs.length≤sizeLine∧∀ p,H p=none→Q (.ref p) (upd H p (.lst (xs++zs)))
theorem op_cat:OpR X (binaryOp .Add) rCat:=by
 intro pZ s σ H x y v u Q I rx ry h
 obtain⟨l,b,xs,zs,rfl,rfl,hH,hB,hz,q⟩:=h
 cases rx
 cases ry
 obtain⟨z,its,n,r,hl,e⟩:=I.lstM hH
 obtain⟨z2,its2,n2,r2,hl2,e2⟩:=I.lstM hB
 refine PySem.P.add_list e e2 ?_ (by rw[List.size_toArray,List.size_toArray];lia)
 have ea:its.toArray++its2.toArray=(its++its2).toArray:=by simp
 rw[ea]
 exact⟨.ref _,_,I.lnew (t':=s.toks) (r.append r2) (by rw[List.length_append];lia),rfl,q _ I.fresh⟩
noncomputable def rRep:R2:=fun x y H Q=> ∃ l k xs,x= .ref l∧y= .int k∧H l=some (.lst xs)∧-(2 ^ 63)≤k∧k < 2 ^ 63∧xs.length * k.toNat≤sizeLine∧
 ∀ p,H p=none→Q (.ref p) (upd H p (.lst (List.replicate k.toNat xs).flatten))
theorem len_rep (xs:List α) (k:Nat):(List.replicate k xs).flatten.length=k * xs.length:=by
 induction k with
 |zero=>simp
 |succ k ih=>rw[List.replicate_succ,List.flatten_cons,List.length_append,ih,Nat.succ_mul,Nat.add_comm]
theorem op_rep:OpR X (binaryOp .Mult) rRep:=by
 intro pZ s σ H x y v u Q I rx ry h
 obtain⟨l,k,xs,rfl,rfl,hH,h1,h2,hz,q⟩:=h
 cases rx
 obtain⟨t,rfl⟩:=ry
 obtain⟨z,its,n,r,hl,e⟩:=I.lstM hH
 have hlen:its.toArray.size * k.toNat≤sizeLine:=by rw[List.size_toArray,←hl];exact hz
 have hcap: ¬ its.toArray.size * k.toNat > (2 ^ 63 - 1) / 8:=by
  have:(sizeLine:Nat)≤(2 ^ 63 - 1) / 8:=by decide
  lia
 have hfit: ¬ (!Builtin.List.listFitsIndex k)=true:=by
  rw[fitsIndex_both h1 h2]
  exact Bool.false_ne_true
 have hlong: ¬ Builtin.List.listTooLong (its.toArray.size * k.toNat)=true:=by
  rw[notLongL hlen]
  exact Bool.false_ne_true
 have hnew:List.foldl (fun x1 x2=>x1++x2) #[] (List.replicate (if its.toArray.isEmpty=true then 0 else k.toNat) its.toArray)=(List.replicate k.toNat its).flatten.toArray:=by
  have f0: ∀ m:Nat,List.foldl (fun x1 x2=>x1++x2) #[] (List.replicate m its.toArray)=(List.replicate m its).flatten.toArray:=fun m=>by
   have:=foldl_rep its m []
   rw[List.nil_append] at this
   exact this
  rw[f0]
  cases its with
  |nil=>simp
  |cons a r'=>rw[if_neg (by simp)]
 refine wpAny_binaryOp_repeat_ref (T:="list") (U:="int") (by decide) ⟨_,e,rfl⟩ (fun s'=>typeIs_int s' k t) noFill_list_mul F.fills_int_mul F.slot_int_rmul repeat_list F.slot_int_index.lookup
  (call_meets F.slot_int_rmul (typeIs_int s k t) F.entry_int_rmul (F.args_int_rmul_2 _ _) (int___rmul___int_list k t l its.toArray n)
   ⟨e,rfl,⟨_,e,rfl⟩,call_meets F.slot_list_mul ⟨_,e,rfl⟩ F.entry_list_mul (F.args_list_mul_2 _ _) (AutoListH.list___mul___list_int_3 l its.toArray n k t hfit hcap hlong) ⟨e,?_⟩⟩)
 rw[hnew]
 exact⟨.ref _,_,I.lnew (t':=s.toks) (r.rep k.toNat) (by rw[len_rep,Nat.mul_comm];exact hz),rfl,q _ I.fresh⟩
end
end L2
namespace Att
open PySem PySem.W PySem.Calls PyProof.Rows
theorem ints_of_wellAll: ∀ (ns:List Int) (vs:List Value),WellAll P h vs (ns.map WData.int)→IntsAre vs ns:=by
 intro ns
 induction ns with
 |nil=>
  intro vs w
  rw[List.map_nil] at w
  cases w
  exact .nil
 |cons n ns ih=>
  intro vs w
  rw[List.map_cons] at w
  cases w with
  |cons a b=>
   cases a
   exact .cons _ _ (ih _ b)
theorem script_of {l:OpenLaw} (hn:l.most=some n)
  (hpre:l.row.toRowW.claim.pre args=true) (hwl:WellAll P h vals args):
  ∃ a vs ns,vals=[Value.ref a]∧args=[WData.list (ns.map WData.int)]∧h.get? a=some {cls:=.type "list",data:=.seq vs.toArray}∧IntsAre vs ns∧ns.length≤n:=by
 have hsh:WShape.hasAll [] args [.list .int]=true:=(pre_splitW hpre).1
 have hc:l.pre.holds [] {args:=args}=true:=(pre_splitW hpre).2
 obtain⟨d,r,rfl,h1,h2⟩:=hasAllW_cons hsh
 obtain rfl:=hasAllW_nil h2
 obtain⟨xs,rfl,h3⟩:=hasW_list h1
 obtain⟨ns,rfl⟩:=items_int h3
 have hlen:ns.length≤n:=by
  unfold OpenLaw.pre at hc
  have h4:(WTm.not (.lt (.lit (.int (n:Int))) (.len (.arg 0)))).holds [] {args:=[.list (ns.map .int)]}=true:=by
   have h4:=(holds_andW hc).1
   rw[hn] at h4
   exact h4
  have h5:=condW_of h4 (w_not (w_lt w_lit (w_len_list (w_arg rfl))))
  rw[List.length_map] at h5
  refine Nat.le_of_not_lt fun q=>?_
  have q':(n:Int) < ((ns.length:Nat):Int):=by lia
  first
   |(rw[decide_eq_true q'] at h5;exact absurd h5 (by decide))
   |(simp at h5;lia)
 cases hwl with
 |cons w1 w2=>
  cases w2
  cases w1 with
  |list ho hall=>exact⟨_,_,ns,rfl,rfl,ho,ints_of_wellAll ns _ hall,hlen⟩
theorem post_true (l:OpenLaw) (args:List WData):l.row.toRowW.claim.post args (.bool true) args=true:=
 postW_of (r:=l.row.toRowW) (X:=(true==true))
  (show WShape.has [] (.bool true) .bool=true by first|rfl|decide|simp[WShape.has,WShape.arms,WShape.armsAll])
  (show (WTm.eq .res (.lit (.bool true))).value [] {args:=args,res:=some (.bool true),after:=args}=some (.bool (true==true)) from w_eq_bool (w_res rfl) w_lit) rfl
theorem attach_call {l:OpenLaw} {YP:World→Heap→Prop} {d:DefRec}
  (hn:l.most=some n) (hdf:d.params.defaults=[])
  (call: ∀ (w:World) (s₀ s₁:Shared) (mg mb:Str→Option Value) (fa:Addr) (o:Obj) (pm cd doc:Value) (a:Addr) (vs:List Value) (ns:List Int),
   Ground q loose [] XP w s₀ mg mb s₁.heap→YP w s₁.heap→
   s₁.heap.get? fa=some o→o.data= .func (docDef d.name d.params d.body d.scope pm cd doc)→s₁.heap.CodeRec cd d.name→mg d.name=some (.ref fa)→
   s₁.heap.get? a=some {cls:=.type "list",data:=.seq vs.toArray}→IntsAre vs ns→ns.length≤n→s₁.gens= #[]→
   codeAny (model l.prog w) callerA (.call (.ref fa) ⟨[.ref a],[]⟩) (fun r s'=>r= .ok (.ret (.bool true))∧OldK s₁.heap s'.heap∧s'.os=s₁.os∧AllBare s'.gens) s₁):
  WalkO q loose XP YP l.row.toRowW d [] (fun f vs=>PySem.call f vs):=by
 intro w s₀ s₁ mg mb G Y fa o pm cd doc dV kV ho hd hcd hD hmg hg args vals as hpre hlay hrd hwl hlo
 obtain rfl:dV= .none:=Dflts.none hD hdf
 obtain rfl:kV= .none:=Dflts.noKw hD
 obtain⟨a,vs,ns,rfl,rfl,hobj,hints,hlen⟩:=script_of hn hpre hwl
 refine enter_call (codeAny_mono (call w s₀ s₁ mg mb fa o pm cd doc a vs ns G Y ho (fd_plain hd) hcd hmg hobj hints hlen hg) fun r s' hq=>?_)
 obtain⟨rfl,h2,h3,h4⟩:=hq
 exact⟨.inl ⟨.bool true,.bool true,[],rfl,fun _=>rfl,.bool true,post_true l _,fun _=>⟨List.Pairwise.nil,fun _ hm=>(nomatch hm)⟩⟩,h2,h3,h4⟩
end Att
namespace L2
open PySem PySem.Spec PyProof.Rows
theorem vals_ints: ∀ {vs:List Value} {ns:List Int},IntsAre vs ns→Vals (ns.map V.int) vs
 |_,_,.nil=>.nil
 |_,_,.cons n t h=>.cons ⟨t,rfl⟩ (vals_ints h)
end L2
namespace L2
open PySem PySem.Spec PyProof.Rows
end L2
namespace L2
open PySem PySem.Spec PyProof.Rows
noncomputable def defArgs (s:Stmt):Arguments:=match s with
 | .FunctionDef _ a _ _ _ _ _ _ _ _=>a
 |_=>{posonlyargs:=[],args:=[],vararg:=none,kwonlyargs:=[],kw_defaults:=[],kwarg:=none,defaults:=[]}
noncomputable def defBody (s:Stmt):List Stmt:=match s with
 | .FunctionDef _ _ b _ _ _ _ _ _ _=>b
 |_=>[]
noncomputable def defScope (s:Stmt):Scope:=match s with
 | .FunctionDef _ _ _ _ _ _ sc _ _ _=>sc
 |_=>{kind:=.function,names:=[],isGenerator:=false,isCoroutine:=false}
abbrev CX0:CXT:=fun _ _ _ _ _ _=>False
abbrev E0:XK:=fun _ _ _=>False
theorem pass0:Passes CX0 X E0:=fun _ _ _ _ _ _ _ h=>h.elim
structure Fun (K:PySem.W.Frag) (x qual:Str) (st:Stmt) (f:Addr) (fd:FuncData):Prop where
 ex: ∃ (oc:Value) (od:Option Addr) (kV doc pm:Value) (an:Option Addr) (cdv ct:Value) (osl:Array (Option Value)),
  fd=PySem.W.fnOf x qual (defArgs st) (defBody st) (defScope st) .none kV doc pm an cdv ct∧K.lookup f=some ⟨oc,od,.func fd,osl⟩∧PySem.W.codeIn K cdv qual=true
 kp:PySem.W.keepIn K (.ref f)=true
section
variable {P:Program} {w:World} {K:PySem.W.Frag} {mg:Str→Option Value} {base:Heap}
theorem Fun.ok {x qual:Str} {st:Stmt} {f:Addr} {fd:FuncData} {N ps:List Str} {k:Nat} {sp:Sp} (F:Fun K x qual st f fd) (S:FnScope N ps (defScope st)) (len: ∀ vs H Q E,sp vs H Q E→vs.length=ps.length)
  (hbody: ∀ (cdv:Value) (A:Around) (outer:List Env) (s:Shared) (H:Hp) (vs:List V) (Q:VK) (E:XK),Room k (A.deeper (envOfC qual (defScope st) s.heap.objs.size f cdv))→sp vs H Q E→
   ∃ t,PSs (cxOf CX0 P w K mg base N qual (defScope st) f cdv A outer s H E).nox (defBody st) t∧t {nx:=fun _ H'=>Q .non H',rt:=Q} (start N vs) H):FnOk P w K mg base CX0 (k+1) f fd ps sp:=by
 obtain⟨oc,od,kV,doc,pm,an,cdv,ct,osl,rfl,lk,hcd⟩:=F.ex
 refine fn_of lk hcd S len fun A outer s H vs Q E hr hsp=>?_
 obtain⟨t,h,q⟩:=hbody cdv A outer s H vs Q E hr hsp
 exact⟨t,h.nox,q⟩
theorem Fun.binds {x qual:Str} {st:Stmt} {f:Addr} {fd:FuncData} {ps:List Str} (F:Fun K x qual st f fd)
  (h: ∀ (kV doc pm:Value) (an:Option Addr) (cdv ct:Value) (us:List Value),us.length=ps.length→bindArgs (PySem.W.fnOf x qual (defArgs st) (defBody st) (defScope st) .none kV doc pm an cdv ct) ⟨us,[]⟩=pure (ps.zip us)):Binds K fd ps []:=by
 obtain⟨oc,od,kV,doc,pm,an,cdv,ct,osl,rfl,lk,hcd⟩:=F.ex
 exact .all (h kV doc pm an cdv ct)
theorem fun_mk {x qual:Str} {st:Stmt} {f:Addr} {oc:Value} {od an:Option Addr} {osl:Array (Option Value)} {kV doc pm cdv ct:Value} (l:K.lookup f=some ⟨oc,od,.func (PySem.W.fnOf x qual (defArgs st) (defBody st) (defScope st) .none kV doc pm an cdv ct),osl⟩)
  (c:PySem.W.codeIn K cdv qual=true) (k:PySem.W.keepIn K (.ref f)=true):Fun K x qual st f (PySem.W.fnOf x qual (defArgs st) (defBody st) (defScope st) .none kV doc pm an cdv ct):=⟨⟨oc,od,kV,doc,pm,an,cdv,ct,osl,rfl,l,c⟩,k⟩
end
theorem hu_of (hr:Room k A):A.units+1 < cLine:=Nat.lt_of_le_of_lt (Nat.add_le_add_left (by decide:1≤64) _) hr.units
section
variable {X:Cx}
theorem pv (i:Nat) (hN:X.N[i]?=some x:=by rfl) (hv:Vis X.env.scope x:=by first|exact Or.inl rfl|exact Or.inr (Or.inl rfl)|exact Or.inr (Or.inr rfl)) (hd:(x==("__debug__":Str))=false:=by decide)
  (hcd:(x==("__classdict__":Str))=false:=by decide):PE X (.Name x pos) (tVar i):=pe_var hN hv hd hcd
end
theorem ite2 {A B:Prop} [Decidable c] (h1:c→A) (h2: ¬ c→B):if c then A else B:=by
 by_cases h:c
 ·rw[if_pos h]
  exact h1 h
 ·rw[if_neg h]
  exact h2 h
def Same (H H':Hp):Prop:= ∀ b o,H b=some o→H' b=some o
theorem Same.trans (a:Same H H1) (b:Same H1 H2):Same H H2:=fun c o h=>b c o (a c o h)
theorem Same.seq {K:PySem.W.Frag} {H H':Hp} {a:Addr} {xs:List V} (e:Same H H') (h:SqL K H a xs):SqL K H' a xs:=by
 rcases h with(h|⟨o,h⟩)|h
 ·exact .inl (.inl (e _ _ h))
 ·exact .inl (.inr ⟨o,e _ _ h⟩)
 ·exact .inr h
end L2
end
namespace L2
section
variable {κ:Type} [DecidableEq κ]
noncomputable def valV (kvs:List (κ×V)) (k:κ):Option V:=(kvs.find? fun kv=>decide (kv.1=k)).map (·.2)
noncomputable def putK (kvs:List (κ×V)) (k:κ) (v:V):List (κ×V):=
 if(kvs.any fun kv=>decide (kv.1=k))=true then kvs.map (fun kv=>if kv.1=k then(kv.1,v) else kv) else kvs++[(k,v)]
theorem valV_pos {p:κ×V} {r:List (κ×V)} {k:κ} (e:p.1=k):valV (p::r) k=some p.2:=by simp[valV,List.find?_cons,e]
theorem valV_neg {p:κ×V} {r:List (κ×V)} {k:κ} (e: ¬ p.1=k):valV (p::r) k=valV r k:=by simp[valV,List.find?_cons,e]
theorem valV_any (k:κ): ∀ kvs:List (κ×V),(kvs.any fun kv=>decide (kv.1=k))=(valV kvs k).isSome
 |[]=>rfl
 |p::r=>by
  rw[List.any_cons]
  by_cases e:p.1=k
  ·simp only[valV_pos e,decide_eq_true e,Bool.true_or,Option.isSome_some]
  ·rw[valV_neg e,decide_eq_false e,Bool.false_or];exact valV_any k r
theorem length_putK (kvs:List (κ×V)) (k:κ) (v:V):(putK kvs k v).length≤kvs.length+1:=by
 unfold putK
 split
 ·rw[List.length_map];lia
 ·rw[List.length_append,List.length_cons,List.length_nil];lia
theorem RelO.isSome_eq (r:RelO o u):o.isSome=u.isSome:=by
 cases o with
 |none=>cases u with
  |none=>rfl
  |some _=>exact(show False from r).elim
 |some _=>cases u with
  |none=>exact(show False from r).elim
  |some _=>rfl
theorem RelO.getD (r:RelO o u) (rd:RelV d d'):RelV (o.getD d) (u.getD d'):=by
 cases o with
 |none=>cases u with
  |none=>exact rd
  |some _=>exact(show False from r).elim
 |some _=>cases u with
  |none=>exact(show False from r).elim
  |some _=>exact r
theorem KV.val (r:KV kvs vs) (k:κ):RelO (valV kvs k) (valueAt vs k):=by
 unfold KV at r
 induction r with
 |nil=>exact True.intro
 | @cons p q ps qs h t ih=>
  obtain⟨h1,h2⟩:=h
  by_cases e:p.1=k
  ·have e':q.1=k:=h1.symm.trans e
   have b:valueAt (q::qs) k=some q.2:=by simp[valueAt,List.find?_cons,e']
   rw[valV_pos e,b];exact h2
  ·have e': ¬ q.1=k:=fun z=>e (h1.trans z)
   have b:valueAt (q::qs) k=valueAt qs k:=by simp[valueAt,List.find?_cons,e']
   rw[valV_neg e,b];exact ih
theorem KV.any (r:KV kvs vs) (k:κ):(kvs.any fun kv=>decide (kv.1=k))=vs.any fun kv=>decide (kv.1=k):=by
 unfold KV at r
 induction r with
 |nil=>rfl
 |cons h t ih=>rw[List.any_cons,List.any_cons,ih,h.1]
theorem KV.repl (r:KV kvs vs) (k:κ) (ry:RelV y u):
  KV (kvs.map fun kv=>if kv.1=k then(kv.1,y) else kv) (vs.map fun kv=>if kv.1=k then(kv.1,u) else kv):=by
 unfold KV at r ⊢
 induction r with
 |nil=>exact .nil
 | @cons p q ps qs h t ih=>
  rw[List.map_cons,List.map_cons]
  refine .cons ?_ ih
  obtain⟨h1,h2⟩:=h
  by_cases e:p.1=k
  ·rw[if_pos e,if_pos (h1.symm.trans e)];exact⟨h1,ry⟩
  ·rw[if_neg e,if_neg (fun z=>e (h1.trans z))];exact⟨h1,h2⟩
theorem KV.put (r:KV kvs vs) (k:κ) (ry:RelV y u):KV (putK kvs k y) (stored vs k u):=by
 unfold putK stored
 rw[r.any k]
 by_cases e:(vs.any fun kv=>decide (kv.1=k))=true
 ·rw[if_pos e,if_pos e];exact r.repl k ry
 ·rw[if_neg e,if_neg e];exact Paired.snoc r ⟨rfl,ry⟩
theorem KV.length (r:KV kvs vs):kvs.length=vs.length:=Paired.length r
end
theorem kV_is (r:RelV (kV k) u):(mixKind P w).is k u=true:=by
 cases k with
 |inl i=>obtain⟨t,e⟩:=(show ∃ t,u=Value.int i t from r);subst e;exact mixKind_int P w i t
 |inr x=>obtain⟨t,e⟩:=(show ∃ t,u=Value.str x t from r);subst e;exact mixKind_str P w x t
theorem items_are: ∀ {ks:List Key} {us:List Value},Vals (ks.map kV) us→ItemsAre (mixKind P w) ks us
 |[],_,r=>by rw[List.map_nil] at r;cases r;exact .nil
 |k::ks,_,r=>by
  rw[List.map_cons] at r
  cases r with
  |cons h t=>exact .cons (kV_is h) (items_are t)
abbrev KT (H:Hp):List (List Key×V)→List (List Key×Addr×Value)→Prop:=Paired fun p q=>p.1=q.1∧H q.2.1=some (.tup (p.1.map kV))∧RelV p.2 q.2.2
theorem KT.val (r:KT H kvs xs) (k:List Key):RelO (valV kvs k) ((atKey xs k).map (·.2)):=by
 induction r with
 |nil=>exact True.intro
 | @cons p q ps qs h t ih=>
  obtain⟨h1,_,h2⟩:=h
  by_cases e:p.1=k
  ·have e':q.1=k:=h1.symm.trans e
   have b:atKey (q::qs) k=some q.2:=by simp[atKey,List.find?_cons,e']
   rw[valV_pos e,b];exact h2
  ·have e': ¬ q.1=k:=fun z=>e (h1.trans z)
   have b:atKey (q::qs) k=atKey qs k:=by simp[atKey,List.find?_cons,e']
   rw[valV_neg e,b];exact ih
theorem KT.repl (r:KT H kvs xs) (k:List Key) (ry:RelV y u):
  KT H (kvs.map fun kv=>if kv.1=k then(kv.1,y) else kv) (xs.map (putAt k u)):=by
 induction r with
 |nil=>exact .nil
 | @cons p q ps qs h t ih=>
  rw[List.map_cons,List.map_cons]
  refine .cons ?_ ih
  obtain⟨h1,h2,h3⟩:=h
  unfold putAt
  by_cases e:p.1=k
  ·rw[if_pos e,if_pos (h1.symm.trans e)];exact⟨h1,h2,ry⟩
  ·rw[if_neg e,if_neg (fun z=>e (h1.trans z))];exact⟨h1,h2,h3⟩
theorem KT.put (r:KT H kvs xs) (k:List Key) (hb:H b=some (.tup (k.map kV))) (ry:RelV y u):
  KT H (putK kvs k y) (storedH xs k b u):=by
 have e:(kvs.any fun kv=>decide (kv.1=k))=(atKey xs k).isSome:=by
  rw[valV_any,(r.val k).isSome_eq,Option.isSome_map]
 unfold putK storedH
 rw[e]
 by_cases q:(atKey xs k).isSome=true
 ·rw[if_pos q,if_pos q];exact r.repl k ry
 ·rw[if_neg q,if_neg q];exact Paired.snoc r ⟨rfl,hb,ry⟩
theorem KT.keeps (r:KT H kvs xs) (ht: ∀ b ys,H b=some (.tup ys)→H' b=some (.tup ys)):KT H' kvs xs:=
 Paired.mapP r fun _ _ z=>⟨z.1,ht _ _ z.2.1,z.2.2⟩
section
variable {P:Program} {w:World} {H:Hp} {h:Heap} {a:Addr}
theorem rd_of (ok:HOk P w H h) (e:Rd H a u):ObjOk P w H h a u:=e.ok ok
theorem dk_rd (ok:HOk P w H h) (e:Rd H a (.dK kvs)):kvs.length≤sizeLine∧(a==sysModules)=false∧∃ vs,KV kvs vs∧h.DictOf (mixKind P w) a vs:=
 show ObjOk P w H h a (.dK kvs) from rd_of ok e
theorem dk_of (ok:HOk P w H h) (e:H a=some (.dK kvs)):kvs.length≤sizeLine∧(a==sysModules)=false∧∃ vs,KV kvs vs∧h.DictOf (mixKind P w) a vs:=dk_rd ok (.inl e)
theorem key_of (ok:HOk P w H h) (e:H a=some (.tup (ks.map kV))):(tupleKind (mixKind P w)).is h ks a:=by
 obtain⟨_,its,r,o,h1,h2,n,h3⟩:=(show ObjOk P w H h a (.tup (ks.map kV)) from ok a _ e)
 exact⟨o,its.toArray,n,h1,h2,h3,by simpa using items_are r⟩
theorem dt_rd (ok:HOk P w H h) (e:Rd H a (.dT kvs)):kvs.length≤sizeLine∧(a==sysModules)=false∧
  ∃ xs,KT H kvs xs∧h.DictOfH (tupleKind (mixKind P w)) a xs:=by
 obtain⟨z,y,xs,r,o,es,ep,h1,h2,h3,h4,h5⟩:=(show ObjOk P w H h a (.dT kvs) from rd_of ok e)
 refine⟨z,y,xs,r,o,es,ep,h1,h2,h3,h4,fun x hx=>?_,h5⟩
 have all: ∀ {l:List (List Key×V)} {m:List (List Key×Addr×Value)},KT H l m→∀ x∈m,(tupleKind (mixKind P w)).is h x.1 x.2.1:=by
  intro l m q
  induction q with
  |nil=>intro x hx;exact nomatch hx
  | @cons p q ps qs hq t ih=>
   intro x hx
   rcases List.mem_cons.mp hx with e|hx
   ·subst e
    exact key_of ok (by rw[←hq.1];exact hq.2.1)
   ·exact ih x hx
 exact all r x hx
theorem dt_of (ok:HOk P w H h) (e:H a=some (.dT kvs)):kvs.length≤sizeLine∧(a==sysModules)=false∧
  ∃ xs,KT H kvs xs∧h.DictOfH (tupleKind (mixKind P w)) a xs:=dt_rd ok (.inl e)
end
def DGet (H:Hp) (a:Addr) (y:V) (r:Option V):Prop:=
 (∃ kvs k,Rd H a (.dK kvs)∧y=kV k∧r=valV kvs k)∨∃ kvs k b,Rd H a (.dT kvs)∧y= .ref b∧H b=some (.tup (k.map kV))∧r=valV kvs k
def DPut (H:Hp) (a:Addr) (y v:V) (H':Hp):Prop:=
 (∃ kvs k,H a=some (.dK kvs)∧y=kV k∧kvs.length < sizeLine∧H'=upd H a (.dK (putK kvs k v)))∨
 ∃ kvs k b,H a=some (.dT kvs)∧y= .ref b∧H b=some (.tup (k.map kV))∧kvs.length < sizeLine∧H'=upd H a (.dT (putK kvs k v))
section
variable {X:Cx} {pZ:List (Addr×Obj)} {σ:St} {H:Hp} {s:Shared} {a:Addr} {y v:V} {u r:Value} {o:Option V} {A:Around} {E:Value→Shared→Prop}
theorem Inv.big (I:Inv X pZ σ H s):sysModules < s.heap.objs.size:=by
 have h:mainGlobals < s.heap.objs.size:=(I.mod.glob.keeps I.bk).lt
 exact Nat.lt_trans (by decide) h
theorem d_getItem (hu:A.units+1 < cLine) (I:Inv X pZ σ H s) (g:DGet H a y (some v)) (ry:RelV y u) (h: ∀ w' s',Inv X pZ σ H s'→RelV v w'→Q w' s'):
  wpAny (model X.prog X.w) A (getItem (.ref a) u) Q E s:=by
 rcases g with⟨kvs,k,e,ey,l⟩|⟨kvs,k,b,e,ey,eb,l⟩
 ·subst ey
  obtain⟨z,hd,vs,rel,dd⟩:=dk_rd I.hok e
  obtain⟨w',hw,rw'⟩:=RelO.some_of (v:=v) (o:=valueAt vs k) (by rw[l];exact rel.val k)
  exact wpAny_getItem_of (kV_is ry) dd.mapOf hw (h w' _ (I.tok _) rw')
 ·subst ey
  cases (show u=Value.ref b from ry)
  obtain⟨z,hd,xs,rel,dd⟩:=dt_rd I.hok e
  obtain⟨w',hw,rw'⟩:=RelO.some_of (v:=v) (o:=(atKey xs k).map (·.2)) (by rw[l];exact rel.val k)
  obtain⟨p,hp,hp2⟩:=Option.map_eq_some_iff.mp hw
  refine wpAny_getItem_heap (tupleKind_room_in1 hu) (key_of I.hok eb) dd hp ?_
  rw[hp2]
  exact h w' _ (I.tok _) rw'
theorem d_in (hu:A.units+1 < cLine) (I:Inv X pZ σ H s) (g:DGet H a y o) (ry:RelV y u) (h: ∀ s',Inv X pZ σ H s'→Q (.bool o.isSome) s'):
  wpAny (model X.prog X.w) A (compareOp .In u (.ref a)) Q E s:=by
 rcases g with⟨kvs,k,e,ey,l⟩|⟨kvs,k,b,e,ey,eb,l⟩
 ·subst ey
  obtain⟨z,hd,vs,rel,dd⟩:=dk_rd I.hok e
  refine wpAny_in_of (kV_is ry) hd dd.mapOf ?_
  rw[←(rel.val k).isSome_eq,←l]
  exact h _ (I.tok _)
 ·subst ey
  cases (show u=Value.ref b from ry)
  obtain⟨z,hd,xs,rel,dd⟩:=dt_rd I.hok e
  refine wpAny_in_heap (tupleKind_room_in1 hu) (key_of I.hok eb) hd dd ?_
  have q:=(rel.val k).isSome_eq
  rw[Option.isSome_map] at q
  rw[←q,←l]
  exact h _ (I.tok _)
theorem d_notIn (hu:A.units+1 < cLine) (I:Inv X pZ σ H s) (g:DGet H a y o) (ry:RelV y u) (h: ∀ s',Inv X pZ σ H s'→Q (.bool (!o.isSome)) s'):
  wpAny (model X.prog X.w) A (compareOp .NotIn u (.ref a)) Q E s:=by
 rcases g with⟨kvs,k,e,ey,l⟩|⟨kvs,k,b,e,ey,eb,l⟩
 ·subst ey
  obtain⟨z,hd,vs,rel,dd⟩:=dk_rd I.hok e
  refine wpAny_notIn_of (kV_is ry) hd dd.mapOf ?_
  rw[←(rel.val k).isSome_eq,←l]
  exact h _ (I.tok _)
 ·subst ey
  cases (show u=Value.ref b from ry)
  obtain⟨z,hd,xs,rel,dd⟩:=dt_rd I.hok e
  refine wpAny_notIn_heap (tupleKind_room_in1 hu) (key_of I.hok eb) hd dd ?_
  have q:=(rel.val k).isSome_eq
  rw[Option.isSome_map] at q
  rw[←q,←l]
  exact h _ (I.tok _)
theorem d_write {t':Nat} (I:Inv X pZ σ H s) (mu:Mut (H a)) (hs:Heap.SameBut a s.heap h') (he: ∃ q,h'.get? a=some q) (new:ObjOk X.prog X.w (upd H a ob) h' a ob):
  Inv X pZ σ (upd H a ob) {s with heap:=h',toks:=t'}:=
 I.write (x:=a) (e:=a) mu (.inl rfl) (fun b q hb z=>(hs.2 b hb).trans z) he new
theorem dk_new (z:kvs.length≤sizeLine) (hd:(a==sysModules)=false) (rel:KV kvs vs) (dd:h'.DictOf (mixKind P w) a vs):
  ObjOk P w H' h' a (.dK kvs):=⟨z,hd,vs,rel,dd⟩
theorem d_setItem (hu:A.units+1 < cLine) (I:Inv X pZ σ H s) (g:DPut H a y v H') (ry:RelV y u) (rv:RelV v r) (h: ∀ s',Inv X pZ σ H' s'→Q () s'):
  wpAny (model X.prog X.w) A (setItem (.ref a) u r) Q E s:=by
 rcases g with⟨kvs,k,e,ey,l,eH⟩|⟨kvs,k,b,e,ey,eb,l,eH⟩
 ·subst ey eH
  obtain⟨z,hd,vs,rel,dd⟩:=dk_of I.hok e
  have hz:vs.length≤sizeLine:=by rw[←rel.length];exact z
  have hl:(putK kvs k v).length≤sizeLine:=by have:=length_putK kvs k v;lia
  refine wpAny_setItem_pairs (hsz:=hz) (kV_is ry) dd fun h' dd' hs=>h _ ?_
  have he: ∃ q,h'.get? a=some q:=let ⟨q,_,_,hq,_⟩:=dd';⟨q,hq⟩
  exact d_write I (by rw[e];exact True.intro) hs he (dk_new hl hd (rel.put k rv) dd')
 ·subst ey eH
  cases (show u=Value.ref b from ry)
  obtain⟨z,hd,xs,rel,dd⟩:=dt_of I.hok e
  have hz:xs.length≤sizeLine:=by rw[←Paired.length rel];exact z
  have hl:(putK kvs k v).length≤sizeLine:=by have:=length_putK kvs k v;lia
  refine wpAny_setItem_heap (hsz:=hz) (tupleKind_room_in1 hu) (key_of I.hok eb) dd fun h' dd' hs=>h _ ?_
  obtain⟨q,es,ep,hq,h2,h3,h4,_,h5⟩:=dd'
  refine d_write I (by rw[e];exact True.intro) hs ⟨q,hq⟩ ⟨hl,hd,_,(rel.put k eb rv).keeps fun c ys ec=>?_,q,es,ep,hq,h2,h3,h4,h5⟩
  rw[upd_ne (ne_of ec e (fun z=>nomatch z))]
  exact ec
end
section
variable {X:Cx} {pZ:List (Addr×Obj)} {σ:St} {H:Hp} {s:Shared} {a:Addr} {kvs:List (Key×V)} {k:Key} {u:Value} {A:Around} {E:Value→Shared→Prop}
theorem d_len (I:Inv X pZ σ H s) (e:Rd H a (.dK kvs)) (h: ∀ t s',Inv X pZ σ H s'→Q (.int kvs.length t) s'):wpAny (model X.prog X.w) A (call (.builtin "len") [.ref a]) Q E s:=by
 obtain⟨z,hd,vs,rel,dd⟩:=dk_rd I.hok e
 refine call_len_dict hd dd (by rw[←rel.length];rw[sizeLine_eq] at z;lia) ?_
 rw[←rel.length]
 exact h _ _ (I.tok _)
end
def NoSl (i:Expr):Prop:= ∀ ov iv,subscripted i false ov iv=operate [ov,iv] (getItem ov iv)
theorem subD_of {prog:Program} {w:World} {A:Around} {E:Value→Shared→Prop} {s:Shared} {env:Env} {value slice:Expr} {pos:Pos} {T id:String} {Q:Value→Shared→Prop}
  (hl:typeLookup (.type T) "__getitem__"=pure (some (.builtin id))) (hs:NoSl slice)
  (h:wpAny (model prog w) A (eval value env) (fun o s₁=>wpAny (model prog w) A (eval slice env) (fun i s₂=>s₂.TypeIs o T∧wpAny (model prog w) A (getItem o i) Q E s₂) E s₁) E s):
  wpAny (model prog w) A (eval (.Subscript value slice pos) env) Q E s:=by
 refine Subscript_ (wpAny_mono h (fun o s₁ h₁=>wpAny_mono h₁ (fun i s₂ h₂=>?_) fun _ _ x=>x) fun _ _ x=>x)
 obtain⟨hT,h₂⟩:=h₂
 unfold subscriptTail
 refine wpAny_bind ?_
 rw[getitemInPython_of_ne hT.not_modules]
 refine wpAny_bind (wpAny_specialOf hT hl ?_)
 have fin:wpAny (model prog w) A (subscripted slice false o i) (fun r s₃=>wpAny (model prog w) A (letTemporaryGo value o r >>= fun _=>pure r) Q E s₃) E s₂:=by
  rw[hs o i]
  exact wpAny_operating (wpAny_mono h₂ (fun r s₃ h₃=>wpAny_bind (wpAny_letTemporaryGo (wpAny_pure h₃))) fun _ _ x=>x)
 first
  |exact wpAny_pure (wpAny_bind fin)
  |exact wpAny_bind (wpAny_pure (wpAny_bind fin))
  |exact wpAny_bind fin
theorem dict_typeIs (I:Inv X pZ σ H s) (g:DGet H a y o):s.TypeIs (.ref a) "dict":=by
 rcases g with⟨kvs,k,e,_,_⟩|⟨kvs,k,b,e,_,_,_⟩
 ·obtain⟨_,_,vs,_,dd⟩:=dk_rd I.hok e
  exact dd.typeIs
 ·obtain⟨_,_,xs,_,dd⟩:=dt_rd I.hok e
  exact dd.typeIs
noncomputable def tDGet (td ty:TE):TE:=fun σ H Q=>td σ H fun x H1=>ty σ H1 fun y H2=> ∃ a v,x= .ref a∧DGet H2 a y (some v)∧Q v H2
noncomputable def tDIn (ty td:TE):TE:=fun σ H Q=>ty σ H fun y H1=>td σ H1 fun x H2=> ∃ a o,x= .ref a∧DGet H2 a y o∧Q (.bl o.isSome) H2
noncomputable def tDNotIn (ty td:TE):TE:=fun σ H Q=>ty σ H fun y H1=>td σ H1 fun x H2=> ∃ a o,x= .ref a∧DGet H2 a y o∧Q (.bl (!o.isSome)) H2
noncomputable def sDPut (td ty tv:TE):TS:=fun D σ H=>tv σ H fun v H1=>td σ H1 fun x H2=>ty σ H2 fun y H3=> ∃ a H4,x= .ref a∧DPut H3 a y v H4∧D.nx σ H4
section
variable {X:Cx} {o i e value:Expr} {pos pos' tpos:Pos} {td ty tv:TE}
theorem pe_dget (hu:X.A.units+1 < cLine) (ho:PE X o td) (hi:PE X i ty) (hs:NoSl i):PE X (.Subscript o i pos) (tDGet td ty):=by
 intro pZ s σ H Q I h
 refine subD_of PySem.F.slot_dict_getitem.lookup hs (thn (ho pZ s σ H _ I h) fun u s1 ⟨x,H1,I1,rx,q1⟩=>thn (hi pZ s1 σ H1 _ I1 q1) fun iv s2 ⟨y,H2,I2,ry,a,v,ex,g,q2⟩=>?_)
 subst ex
 obtain rfl:u=Value.ref a:=rx
 exact⟨dict_typeIs I2 g,d_getItem hu I2 g ry fun w' s3 I3 rw'=>⟨v,H2,I3,rw',q2⟩⟩
theorem pc_din (hu:X.A.units+1 < cLine) (hi:PE X i ty) (ho:PE X o td):PC X .In i o (tDIn ty td):=by
 intro pZ s σ H Q I h
 refine thn (hi pZ s σ H _ I h) fun iv s1 ⟨y,H1,I1,ry,q1⟩=>thn (ho pZ s1 σ H1 _ I1 q1) fun u s2 ⟨x,H2,I2,rx,a,ov,ex,g,q2⟩=>?_
 subst ex
 obtain rfl:u=Value.ref a:=rx
 exact d_in hu I2 g ry fun s3 I3=>⟨.bl ov.isSome,H2,I3,rfl,q2⟩
theorem pc_dnotin (hu:X.A.units+1 < cLine) (hi:PE X i ty) (ho:PE X o td):PC X .NotIn i o (tDNotIn ty td):=by
 intro pZ s σ H Q I h
 refine thn (hi pZ s σ H _ I h) fun iv s1 ⟨y,H1,I1,ry,q1⟩=>thn (ho pZ s1 σ H1 _ I1 q1) fun u s2 ⟨x,H2,I2,rx,a,ov,ex,g,q2⟩=>?_
 subst ex
 obtain rfl:u=Value.ref a:=rx
 exact d_notIn hu I2 g ry fun s3 I3=>⟨.bl (!ov.isSome),H2,I3,rfl,q2⟩
theorem ps_dput (hu:X.A.units+1 < cLine) (ho:PE X o td) (hi:PE X i ty) (hv:PE X value tv) (hs:swapsWith value (some (.Subscript o i pos')) pos.line X.env=pure false):
  PS X (.Assign [.Subscript o i pos'] value pos) (sDPut td ty tv):=by
 intro pZ s σ H D I h
 refine wpAny_Assign_Subscript (thn (hv pZ s σ H _ I h) fun r s1 ⟨v,H1,I1,rv,q1⟩=>thn (ho pZ s1 σ H1 _ I1 q1) fun u s2 ⟨x,H2,I2,rx,q2⟩=>thn (hi pZ s2 σ H2 _ I2 q2) fun iv s3 ⟨y,H3,I3,ry,a,H4,ex,g,q3⟩=>?_) hs
 subst ex
 obtain rfl:u=Value.ref a:=rx
 exact d_setItem hu I3 g ry rv fun s4 I4=>⟨σ,H4,I4,q3⟩
end
theorem dk_empty (h:Heap) (hb:sysModules < h.objs.size):ObjOk P w H (h.push {cls:=.type "dict",data:=.dict #[]}) h.objs.size (.dK []):=
 ⟨Nat.zero_le _,beq_eq_false_iff_ne.mpr (Ne.symm (Nat.ne_of_lt hb)),[],.nil,Heap.DictOf.new h⟩
noncomputable def tPairs:List (TE×TE)→St→Hp→(List (V×V)→Hp→Prop)→Prop
 |[],_,H,Q=>Q [] H
 |(tk,tv)::r,σ,H,Q=>tk σ H fun x H1=>tv σ H1 fun y H2=>tPairs r σ H2 fun ps H3=>Q ((x,y)::ps) H3
abbrev VV:List (V×V)→List (Value×Value)→Prop:=Paired fun p q=>RelV p.1 q.1∧RelV p.2 q.2
def PPs (X:Cx) (pos:Pos) (keys:List (Option Expr)) (values:List Expr) (trs:List (TE×TE)):Prop:=
 ∀ (pZ:List (Addr×Obj)) (s:Shared) (σ:St) (H:Hp) (Q:List (V×V)→Hp→Prop),Inv X pZ σ H s→tPairs trs σ H Q→
  wpAny (model X.prog X.w) X.A (evalPairs (pairTrees keys values X.env pos)) (fun vs s'=> ∃ ps H',Inv X pZ σ H' s'∧VV ps vs∧Q ps H') X.xe s
theorem pps_nil:PPs X pos [] [] []:=fun pZ s σ H Q I h=>pairTrees_nil_walk ⟨[],H,I,.nil,h⟩
theorem pps_cons (hk:PE X k tk) (hv:PE X v tv) (hr:PPs X pos ks vs trs):
  PPs X pos (some k::ks) (v::vs) ((tk,tv)::trs):=fun pZ s σ H Q I h=>
 pairTrees_cons_walk (thn (hk pZ s σ H _ I h) fun u s1 ⟨x,H1,I1,rx,q1⟩=>thn (hv pZ s1 σ H1 _ I1 q1) fun w2 s2 ⟨y,H2,I2,ry,q2⟩=>
  thn (hr pZ s2 σ H2 _ I2 q2) fun ws s3 ⟨ps,H3,I3,rel,q3⟩=>⟨(x,y)::ps,H3,I3,.cons ⟨rx,ry⟩ rel,q3⟩)
noncomputable def mergeK (kvs more:List (Key×V)):List (Key×V):=more.foldl (fun acc kv=>putK acc kv.1 kv.2) kvs
theorem KV.merge: ∀ {more:List (Key×V)} {rs:List (Key×Value)} {kvs:List (Key×V)} {vs:List (Key×Value)},KV more rs→KV kvs vs→KV (mergeK kvs more) (merged vs rs):=by
 intro more rs kvs vs r
 unfold KV at r
 induction r generalizing kvs vs with
 |nil=>intro q;exact q
 | @cons p q ps qs h t ih=>
  intro r0
  have e:KV (putK kvs p.1 p.2) (stored vs q.1 q.2):=by
   have:=r0.put p.1 h.2
   rw[←h.1];exact this
  exact ih e
theorem length_mergeK: ∀ (more kvs:List (Key×V)),(mergeK kvs more).length≤kvs.length+more.length
 |[],kvs=>by show kvs.length≤kvs.length+0;lia
 |p::r,kvs=>by
  have h1:=length_mergeK r (putK kvs p.1 p.2)
  have h2:=length_putK kvs p.1 p.2
  show (mergeK (putK kvs p.1 p.2) r).length≤_
  rw[List.length_cons];lia
theorem carries_of: ∀ {kvs:List (Key×V)} {ws:List (Value×Value)},VV (kvs.map fun kv=>(kV kv.1,kv.2)) ws→∃ rs,Carries (mixKind P w) ws rs∧KV kvs rs
 |[],_,r=>by rw[List.map_nil] at r;cases r;exact⟨[],True.intro,.nil⟩
 |p::kvs,_,r=>by
  rw[List.map_cons] at r
  cases r with
  | @cons a b as bs h t=>
   obtain⟨rs,c,q⟩:=carries_of (P:=P) (w:=w) t
   obtain⟨b1,b2⟩:=b
   exact⟨(p.1,b2)::rs,⟨kV_is h.1,rfl,c⟩,.cons ⟨rfl,h.2⟩ q⟩
noncomputable def tDisp (trs:List (TE×TE)):TE:=fun σ H Q=> ∀ p,H p=none→tPairs trs σ (upd H p (.dK [])) fun ps H2=>H2 p=some (.dK [])∧∃ kvs:List (Key×V),ps=kvs.map (fun kv=>(kV kv.1,kv.2))∧kvs.length≤15∧Q (.ref p) (upd H2 p (.dK (mergeK [] kvs)))
theorem pe_disp (h:PPs X pos keys values trs) (hall:keys.all (·.isSome)=true) (hl:keys.length=values.length) (h0:keys≠[])
  (h15:keys.length≤15):PE X (.Dict keys values pos) (tDisp trs):=by
 intro pZ s σ H Q I q
 have hn:=I.hok.fresh (Nat.le_refl s.heap.objs.size)
 have I1:=I.laid (a:=s.heap.objs.size) (o:=.dK []) (h':=s.heap.push {cls:=.type "dict",data:=.dict #[]}) (t':=s.toks) (fun _ _ q=>Heap.get?_push_of_some _ q) (Nat.le_refl _) (dk_empty s.heap I.big)
 refine wpAny_Dict_walk (knd:=mixKind X.prog X.w) hall hl h0 h15 (thn (h pZ _ σ _ _ I1 (q _ hn)) fun ws s2 ⟨ps,H2,I2,rel,e,kvs,ep,lk,q2⟩=>?_)
 subst ep
 obtain⟨rs,c,rk⟩:=carries_of (P:=X.prog) (w:=X.w) rel
 obtain⟨z,hd,vs0,r0,dd⟩:=dk_of I2.hok e
 cases r0
 refine⟨rs,c,dd,fun h' dd' hs=>⟨.ref s.heap.objs.size,_,?_,rfl,q2⟩⟩
 have hz:(mergeK [] kvs).length≤sizeLine:=by
  have h1:=length_mergeK kvs []
  rw[List.length_nil] at h1
  rw[sizeLine_eq];lia
 have he: ∃ q,h'.get? s.heap.objs.size=some q:=let ⟨q,_,_,hq,_⟩:=dd';⟨q,hq⟩
 exact d_write I2 (by rw[e];exact True.intro) hs he (dk_new hz hd (rk.merge .nil) dd')
structure M2 (X:Cx) (o:Expr) (m:Str) (apos:Pos) (e f:Expr) (cpos:Pos):Prop where
 base:attributeBase o m X.env (eval o X.env)=eval o X.env
 few:((backTo cpos (starEach [e,f] X.env)).all (fun x=>!x.1)&&(backToKw cpos (keywordEach [] X.env)).all (fun x=>x.1.isSome)
  &&decide (([e,f]:List Expr).length+([]:List Keyword).length+(if([]:List Keyword).isEmpty then 0 else 1) < 30))=true
 line:(apos.endLine==cpos.line)=true
 trees:backTo cpos (starEach [e,f] X.env)=[(false,eval e X.env),(false,eval f X.env)]
def IsD (H:Hp) (a:Addr):Prop:=(∃ kvs,Rd H a (.dK kvs))∨∃ kvs,Rd H a (.dT kvs)
theorem isD_at (I:Inv X pZ σ H s) (d:IsD H a):
  s.TypeIs (.ref a) "dict"∧(∀ b,Value.ref a= .ref b→∃ ob,s.heap.get? b=some ob∧ob.dict=none)∧(a==sysModules)=false:=by
 rcases d with⟨kvs,e⟩|⟨kvs,e⟩
 ·obtain⟨_,hd,vs,_,dd⟩:=dk_rd I.hok e
  refine⟨dd.typeIs,fun b q=>?_,hd⟩
  cases q
  obtain⟨ob,_,_,h1,h2,_⟩:=dd
  exact⟨ob,h1,h2.2.1⟩
 ·obtain⟨_,hd,xs,_,dd⟩:=dt_rd I.hok e
  refine⟨dd.typeIs,fun b q=>?_,hd⟩
  cases q
  obtain⟨ob,_,_,h1,h2,_⟩:=dd
  exact⟨ob,h1,h2.2.1⟩
section
variable {X:Cx} {pZ:List (Addr×Obj)} {σ:St} {H:Hp} {s:Shared} {a:Addr} {y d:V} {u r:Value} {o:Option V} {A:Around} {E:Value→Shared→Prop}
theorem d_get2 (hu:A.units+1 < cLine) (I:Inv X pZ σ H s) (g:DGet H a y o) (ry:RelV y u) (rd:RelV d r) (h: ∀ w' s',Inv X pZ σ H s'→RelV (o.getD d) w'→Q w' s'):
  wpAny (model X.prog X.w) A (call (.builtin "dict.get") [.ref a,u,r]) Q E s:=by
 rcases g with⟨kvs,k,e,ey,l⟩|⟨kvs,k,b,e,ey,eb,l⟩
 ·subst ey
  obtain⟨z,hd,vs,rel,dd⟩:=dk_rd I.hok e
  refine call_meetsIn PySem.F.slot_dict_get dd.typeIs PySem.F.entry_dict_get (PySem.F.args_dict_get_3 _ _ _) (meets_dict_get_default (mixKind X.prog X.w) a (kV_is ry) hd r) ⟨_,dd.mapOf,h _ _ (I.tok _) ?_⟩
  rw[l]
  exact(rel.val k).getD rd
 ·subst ey
  cases (show u=Value.ref b from ry)
  obtain⟨z,hd,xs,rel,dd⟩:=dt_rd I.hok e
  refine call_meetsIn PySem.F.slot_dict_get dd.typeIs PySem.F.entry_dict_get (PySem.F.args_dict_get_3 _ _ _) (meetsH_dict_get_default (tupleKind (mixKind X.prog X.w)) a b hd r) ⟨tupleKind_room_in1 hu,k,xs,key_of I.hok eb,dd,h _ _ (I.tok _) ?_⟩
  rw[l]
  exact(rel.val k).getD rd
end
noncomputable def tDGet2 (td ty tx:TE):TE:=fun σ H Q=>td σ H fun x H1=> ∃ a,x= .ref a∧IsD H1 a∧ty σ H1 fun y H2=>tx σ H2 fun z H3=> ∃ o,DGet H3 a y o∧Q (o.getD z) H3
section
variable {X:Cx} {o e f:Expr} {apos cpos:Pos} {td ty tx:TE}
theorem pe_dget2 (hu:X.A.units+1 < cLine) (ho:PE X o td) (he:PE X e ty) (hf:PE X f tx) (m:M2 X o "get" apos e f cpos):PE X (.Call (.Attribute o "get" apos) [e,f] [] cpos) (tDGet2 td ty tx):=by
 intro pZ s σ H Q I h
 refine wpAny_Call_method m.base m.few m.line PySem.F.plainAttrs_dict PySem.F.slot_dict_get PySem.F.type_dict_get (thn (ho pZ s σ H _ I h) fun u s1 ⟨x,H1,I1,rx,a,ex,d,q1⟩=>?_)
 subst ex
 obtain rfl:u=Value.ref a:=rx
 obtain⟨t1,t2,_⟩:=isD_at I1 d
 refine⟨t1,t2,?_⟩
 rw[m.trees]
 refine Calls.callWith_builtin rfl (Calls.evalArgs_plain (Calls.spliced_cons (thn (he pZ s1 σ H1 _ I1 q1) fun iv s2 ⟨y,H2,I2,ry,q2⟩=>
  Calls.spliced_cons (thn (hf pZ s2 σ H2 _ I2 q2) fun fv s3 ⟨z,H3,I3,rz,ov,g,q3⟩=>Calls.spliced_nil ?_))))
 exact d_get2 hu I3 g ry rz fun w' s4 I4 rw'=>⟨_,H3,I4,rw',q3⟩
end
noncomputable def clStep (cells:List (Str×Addr)) (cs:List (Str×Addr)) (p:Str×NameKind):List (Str×Addr):=
 if p.2== .free then(match cells.lookup p.1 with|some c=>(p.1,c)::cs|none=>cs) else cs
noncomputable def clOf (names:List (Str×NameKind)) (cells:List (Str×Addr)):List (Str×Addr):=names.foldl (clStep cells) []
theorem closure_fold (env:Env): ∀ (names:List (Str×NameKind)) (cs:List (Str×Addr)),(∀ p∈names,p.2= .free→∃ c,env.cells.lookup p.1=some c)→
  (forIn names cs fun (p:Str×NameKind) r=>(if(p.2== .free)=true then do let a ←cellOf env p.1;pure (ForInStep.yield ((p.1,a)::r)) else pure (ForInStep.yield r):Sem (ForInStep (List (Str×Addr)))))=pure (names.foldl (clStep env.cells) cs)
 |[],cs,_=>rfl
 |p::r,cs,h=>by
  have ih:=fun cs'=>closure_fold env r cs' fun q hq=>h q (List.mem_cons_of_mem _ hq)
  rw[List.forIn_cons]
  by_cases hp:(p.2== .free)=true
  ·obtain⟨c,hc⟩:=h p List.mem_cons_self (by simpa using hp)
   have e:clStep env.cells cs p=(p.1,c)::cs:=by unfold clStep;rw[if_pos hp,hc]
   have e2:cellOf env p.1=pure c:=by unfold cellOf;rw[hc]
   rw[if_pos hp,e2,List.foldl_cons,e]
   exact ih _
  ·have e:clStep env.cells cs p=cs:=by unfold clStep;rw[if_neg hp]
   rw[if_neg hp,List.foldl_cons,e]
   exact ih _
theorem closure_is (h: ∀ p∈scope.names,p.2= .free→∃ c,env.cells.lookup p.1=some c):closureFor scope env=pure (clOf scope.names env.cells):=by
 have q:=closure_fold env scope.names [] h
 unfold closureFor
 show (forIn scope.names [] _ >>= fun cs=>pure cs)=_
 have e: ∀ m:Sem (List (Str×Addr)),(m >>= fun cs=>pure cs)=m:=fun m=>bind_pure m
 rw[e]
 exact q
theorem cl_sound (cells:List (Str×Addr)): ∀ (names:List (Str×NameKind)) (cs:List (Str×Addr)),(∀ x c,cs.lookup x=some c→cells.lookup x=some c)→∀ x c,(names.foldl (clStep cells) cs).lookup x=some c→cells.lookup x=some c
 |[],_,h=>h
 |p::r,cs,h=>cl_sound cells r _ (fun x c e=>by
  unfold clStep at e
  split at e
  ·split at e
   ·rename_i c' hc'
    rw[List.lookup_cons] at e
    split at e
    ·rename_i hx
     have hx':x=p.1:=by simpa using hx
     cases e;rw[hx'];exact hc'
    ·exact h x c e
   ·exact h x c e
  ·exact h x c e)
theorem cl_keeps (cells:List (Str×Addr)): ∀ (names:List (Str×NameKind)) (cs:List (Str×Addr)) (x:Str),(∃ c,cs.lookup x=some c)→∃ c,(names.foldl (clStep cells) cs).lookup x=some c
 |[],_,_,h=>h
 |p::r,cs,x,h=>cl_keeps cells r _ x (by
  unfold clStep
  split
  ·split
   ·rw[List.lookup_cons]
    split
    ·exact⟨_,rfl⟩
    ·exact h
   ·exact h
  ·exact h)
theorem cl_has (cells:List (Str×Addr)): ∀ (names:List (Str×NameKind)) (cs:List (Str×Addr)) (x:Str),(x,NameKind.free)∈names→(∃ c,cells.lookup x=some c)→∃ c,(names.foldl (clStep cells) cs).lookup x=some c
 |[],_,_,h,_=>by simp at h
 |p::r,cs,x,h,hc=>by
  rcases List.mem_cons.mp h with e|e
  ·subst e
   refine cl_keeps cells r _ x ?_
   obtain⟨c,hc⟩:=hc
   unfold clStep
   rw[if_pos (by rfl),hc]
   exact⟨c,by rw[List.lookup_cons];simp⟩
  ·exact cl_has cells r _ x e hc
noncomputable def cxC (X:Cx) (scope:Scope) (N:List Str) (s₀:Shared) (H₀:Hp) (ex:List Addr) (pn:List (Addr×Obj)):Cx:=
 {prog:=X.prog,w:=X.w,K:=X.K,mg:=X.mg,base:=X.base,A:=X.A,N:=N,s₀:=s₀,H₀:=H₀,env:=compEnvC scope (clOf scope.names X.env.cells) s₀.heap.objs.size X.env,outer:=X.stack,stack:=X.stack,ex:=ex,fn:=fun _=>false,calm:=true,pn:=pn,xe:=fun _ _=>False}
noncomputable def capSt (js:List (Option Nat)) (σ:St):St:=js.map fun o=>match o with|some j=>(σ[j]?).getD none|none=>none
def PTs (X:Cx) (ifs:List Expr) (t:TT):Prop:=
 ∀ (pZ:List (Addr×Obj)) (s:Shared) (σ:St) (H:Hp) (Q:Bool→Hp→Prop),Inv X pZ σ H s→t σ H Q→
  wpAny (model X.prog X.w) X.A (forIn ifs true fun c r=>if r=true then do let ok ←isTrue c X.env (eval c X.env);pure (ForInStep.yield ok) else pure (ForInStep.yield r)) (TP X pZ σ Q) X.xe s
def tNoIf:TT:=fun _ H Q=>Q true H
theorem pts_nil:PTs X [] tNoIf:=fun pZ s σ H Q I h=>wpAny_tests_nil ⟨H,I,h⟩
theorem pts_one (h:PT X c t):PTs X [c] t:=fun pZ s σ H Q I hw=>wpAny_tests_one (h pZ s σ H Q I hw)
theorem comp_loop (I:Nat→Shared→Prop)
  (turn: ∀ n s,I n s→wpAny (model prog w) A (pyNext it) (fun r s₁=>match r with
   |none=>R (.ok .next) s₁
   |some v=>wpAny (model prog w) A (letOwnedTupleGo target it v) (fun _ s₁'=>wpAny (model prog w) A (assign target env v) (fun _ s₂=>
     wpAny (model prog w) A (forIn ifs true fun c r=>if r=true then do let ok ←isTrue c env (eval c env);pure (ForInStep.yield ok) else pure (ForInStep.yield r)) (fun ok s₃=>
      if ok=true then wpAny (model prog w) A (eval elt env) (fun x s₄=>
       wpAny (model prog w) A (call (.builtin "list.append") [acc,x]) (fun _ s₅=> ∃ m,m < n∧I m s₅) (fun _ _=>False) s₄) (fun _ _=>False) s₃
      else ∃ m,m < n∧I m s₃) (fun _ _=>False) s₂) (fun _ _=>False) s₁') (fun _ _=>False) s₁) (fun _ _=>False) s)
  (n:Nat) (h:I n s):
  codeAny (model prog w) A (.compLoop (.ListComp elt [⟨target,iter,ifs,0⟩] scope pos) 0 it acc env) R s:=by
 refine codeAny_loop rfl I (fun n s hI=>?_) n h
 show wpAny _ A ((compTurn (.ListComp elt [⟨target,iter,ifs,0⟩] scope pos) 0 it acc env).onRaise (fun x=>do noteFrame x env;theTreesLotGoes x)) _ _ s
 refine wpAny_noted ?_
 refine wpAny_mono (E:=fun _ _=>False) ?_ (fun _ _ q=>q) fun _ _ q=>q.elim
 rw[compTurn_list]
 refine wpAny_bind (wpAny_standAt (wpAny_bind (thn (turn n s hI) fun r s₁ h₁=>?_)))
 cases r with
 |none=>exact wpAny_pure h₁
 |some v=>
  refine wpAny_bind (thn h₁ fun _ s₁' h₁'=>?_)
  refine wpAny_bind (thn h₁' fun _ s₂ h₂=>wpAny_bind (thn h₂ fun ok s₃ h₃=>?_))
  cases ok with
  |false=>exact wpAny_pure ⟨rfl,h₃⟩
  |true=>exact wpAny_bind (wpAny_bind (thn h₃ fun x s₄ h₄=>wpAny_bind (thn h₄ fun _ s₅ h₅=>wpAny_pure (wpAny_pure ⟨rfl,h₅⟩))))
def LcW (J:It) (D:Addr) (g:TG) (tt:TT) (te:TE) (Q:VK) (σ0:St) (H1:Hp):Prop:=
 ∃ W:Nat→Nat→St→Hp→Prop,(∃ m,W 0 m σ0 (upd H1 D (.lst [])))∧∀ i m σ' H',W i m σ' H'→
  (J.stop i H'∧Q (.ref D) H')∨(J.go i H'∧∀ x H2,J.yld i H' x H2→g x σ' H2 fun σ2 H3=>tt σ2 H3 fun ok H4=>
   if ok=true then te σ2 H4 fun y H5=> ∃ ys,H5 D=some (.lst ys)∧ys.length < sizeLine∧∃ m',m' < m∧W (i+1) m' σ2 (upd H5 D (.lst (ys++[y])))
   else ∃ m',m' < m∧W (i+1) m' σ2 H4)
noncomputable def tLC (js:List (Option Nat)) (wi:TI) (g:TG) (tt:TT) (te:TE):TE:=fun σ H Q=>wi σ H fun J H1=> ∀ D,H1 D=none→LcW J D g tt te Q (capSt js σ) H1
structure LcScope (X:Cx) (scope:Scope) (N:List Str) (js:List (Option Nat)):Prop where
 kind:scope.kind= .function
 nocell: ∀ y∈scope.names,y.2≠.cell
 names: ∀ y∈scope.names,y.2= .local→scope.names.lookup y.1=some .local
 free: ∀ y∈scope.names,y.2= .free→X.env.scope.names.lookup y.1=some .cell∨X.env.scope.names.lookup y.1=some .free
 len:js.length=N.length
 cap: ∀ (i:Nat) (y:Str) (j:Nat),N[i]?=some y→js[i]?=some (some j)→X.N[j]?=some y∧scope.names.lookup y=some .free
noncomputable def relF (env:Env) (p:Str×NameKind):Str×NameKind:=if(p.2==NameKind.free&&env.scope.kind== .function&&env.kindOf p.1==some .cell) then(p.1,NameKind.cell) else(p.1,p.2)
theorem relF_fst (env:Env) (p:Str×NameKind):(relF env p).1=p.1:=by unfold relF;split<;>rfl
theorem rel_free: ∀ {names:List (Str×NameKind)} {x:Str},names.lookup x=some .free→(names.map (relF env)).lookup x=some .cell∨(names.map (relF env)).lookup x=some .free
 |[],_,h=>by simp at h
 |p::r,x,h=>by
  rw[List.map_cons,List.lookup_cons,relF_fst]
  rw[List.lookup_cons] at h
  cases hx:x==p.1 with
  |true=>
   rw[hx] at h
   have h':p.2= .free:=by simpa using h
   have e:(relF env p).2= .cell∨(relF env p).2= .free:=by
    unfold relF
    split
    ·exact .inl rfl
    ·exact .inr h'
   rcases e with e|e
   ·exact .inl (congrArg some e)
   ·exact .inr (congrArg some e)
  |false=>
   rw[hx] at h
   exact rel_free (env:=env) h
theorem rel_back: ∀ {names:List (Str×NameKind)} {x:Str},((names.map (relF env)).lookup x=some .cell∨(names.map (relF env)).lookup x=some .free)→(x,NameKind.free)∈names∨(x,NameKind.cell)∈names
 |[],_,h=>by simp at h
 |p::r,x,h=>by
  rw[List.map_cons,List.lookup_cons,relF_fst] at h
  cases hx:x==p.1 with
  |true=>
   rw[hx] at h
   have hx':x=p.1:=by simpa using hx
   have h2:(relF env p).2= .cell∨(relF env p).2= .free:=h.elim (fun z=>.inl (Option.some.inj z)) fun z=>.inr (Option.some.inj z)
   have e:p.2= .free∨p.2= .cell:=by
    by_cases hc:(p.2==NameKind.free&&env.scope.kind== .function&&env.kindOf p.1==some .cell)=true
    ·simp only[Bool.and_eq_true] at hc
     exact .inl (by simpa using hc.1.1)
    ·have e2:relF env p=(p.1,p.2):=by unfold relF;rw[if_neg hc]
     rw[e2] at h2
     exact h2.symm
   rcases e with e|e
   ·exact .inl (by rw[hx',←e];exact List.mem_cons_self)
   ·exact .inr (by rw[hx',←e];exact List.mem_cons_self)
  |false=>
   rw[hx] at h
   rcases rel_back h with q|q
   ·exact .inl (List.mem_cons_of_mem _ q)
   ·exact .inr (List.mem_cons_of_mem _ q)
section
variable {X:Cx} {pZ:List (Addr×Obj)} {σ:St} {H:Hp} {s:Shared} {scope:Scope} {N:List Str} {js:List (Option Nat)} {fp:List Addr}
theorem LcScope.clos (L:LcScope X scope N js) (ok:X.Ok): ∀ p∈scope.names,p.2= .free→∃ c,X.env.cells.lookup p.1=some c:=fun p hp hf=>ok.has p.1 (L.free p hp hf)
theorem LcScope.ok (L:LcScope X scope N js) (I:Inv X pZ σ H s) (hc:X.calm=true) (hf: ∀ b∈fp,FpOk X pZ H b) (ho: ∀ b∈fp,∃ o,s.heap.get? b=some o):(cxC X scope N s H fp (X.pn++pZ)).Ok where
 mod:=I.ok.mod
 kind:=L.kind
 glob:=I.ok.glob
 blt:=I.ok.blt
 above:=Nat.le_refl _
 inj:=fun x y c h1 h2=>I.ok.inj x y c (cl_sound _ _ _ (fun _ _ e=>by simp at e) x c h1) (cl_sound _ _ _ (fun _ _ e=>by simp at e) y c h2)
 has:=fun x hx=>by
  have hx':(scope.names.map (relF X.env)).lookup x=some .cell∨(scope.names.map (relF X.env)).lookup x=some .free:=hx
  rcases rel_back hx' with q|q
  ·exact cl_has _ _ _ x q (L.clos I.ok _ q rfl)
  ·exact absurd rfl (L.nocell _ q)
 cab:=fun x c h _=>by cases h
 hd:=fun _=>I.ok.hd hc
 frames:=I.ok.frames
 stk:=.inl rfl
 exf:=fun b hb=>by
  obtain⟨o,e⟩:=ho b hb
  refine⟨Nat.ne_of_lt (Heap.lt_size e),fun x c h=>(hf b hb).2.2.2.2.1 x c (cl_sound _ _ _ (fun _ _ e=>by simp at e) x c h)⟩
 bs:=I.bs
 bsz:=Nat.le_trans I.ok.bsz I.sz
 noex:=fun b o e hb=>by
  rcases(hf b hb).2.2.2.1 with z|z
  ·exact I.ok.noex b o e z
  ·exact absurd (Nat.lt_of_lt_of_le (Heap.lt_size e) (Nat.le_trans I.ok.bsz z)) (Nat.lt_irrefl _)
 exfs:=fun b hb z=>by
  rcases List.mem_cons.mp (I.stkSub b z) with e|e
  ·exact(hf b hb).2.1 e
  ·exact(hf b hb).2.2.1 e
 funs:=I.stack
 frf:=I.stkFree
theorem LcScope.start (L:LcScope X scope N js) (I:Inv X pZ σ H s) (hc:X.calm=true) (hf: ∀ b∈fp,FpOk X pZ H b) (ho: ∀ b∈fp,∃ o,s.heap.get? b=some o)
  (hn:h'.Ns s.heap.objs.size (fun _=>none)) (hk: ∀ b o,s.heap.get? b=some o→h'.get? b=some o):
  Inv (cxC X scope N s H fp (X.pn++pZ)) [] (capSt js σ) H {s with heap:=h',toks:=tk}:=by
 refine⟨L.ok I hc hf ho,rfl,I.bare,Un.kept hk,⟨_,hn,fun i y v e1 e2 e3=>?_⟩,fun x c e=>?_,I.hok.fresh (Nat.le_refl _),fun x c e=>?_,fun p hp=>?_,I.hok.kept hk,?_⟩
 ·unfold capSt at e2
  rw[List.getElem?_map] at e2
  cases ej:js[i]? with
  |none=>rw[ej] at e2;cases e2
  |some o=>
   rw[ej] at e2
   cases o with
   |none=>simp at e2
   |some j=>
    simp only[Option.map_some,Option.some.injEq] at e2
    have es:σ[j]?=some (some v):=by
     cases q:σ[j]? with
     |none=>rw[q] at e2;simp at e2
     |some z=>rw[q] at e2;simp at e2;rw[e2]
    obtain⟨en,ef⟩:=L.cap i y j e1 ej
    have em:(y,NameKind.free)∈scope.names:=PySem.mem_of_lookup ef
    have ek:=L.free _ em rfl
    obtain⟨m,_,hl⟩:=I.loc
    obtain⟨u,r,l⟩:=hl j y v en es (ek.elim (fun z=>.inr (.inl z)) fun z=>.inr (.inr z))
    refine⟨u,r,.inr ⟨rel_free ef,?_⟩⟩
    rcases l with⟨l,_⟩|⟨_,c,ec,z⟩
    ·have l':X.env.scope.names.lookup y=some .local:=l
     rcases ek with ek|ek<;>(rw[ek] at l';cases l')
    ·obtain⟨c',hc'⟩:=cl_has X.env.cells scope.names [] y em ⟨c,ec⟩
     have e':=cl_sound X.env.cells scope.names [] (fun _ _ e=>by simp at e) y c' hc'
     rw[ec] at e';cases e'
     obtain⟨o,ho,hd⟩:=z
     exact⟨c,hc',⟨o,hk c o ho,hd⟩⟩
 ·obtain⟨v,o,ho,hd⟩:=I.cell x c (cl_sound _ _ _ (fun _ _ e=>by simp at e) x c e)
  exact⟨v,o,hk c o ho,hd⟩
 ·exact I.freeC x c (cl_sound _ _ _ (fun _ _ e=>by simp at e) x c e)
 ·have hp':p∈X.pn++pZ:=by simpa[cxC] using hp
  obtain⟨e,n,ne,nf,d⟩:=I.pin p hp'
  refine⟨hk _ _ e,n,Nat.ne_of_lt (Heap.lt_size e),fun z=>?_,d⟩
  rcases List.mem_cons.mp (I.stkSub _ z) with q|q
  ·exact ne q
  ·exact nf q
 ·unfold capSt
  rw[List.length_map]
  exact L.len
theorem lc_end (I:Inv X pZ σ H s) (hf: ∀ b∈fp,FpOk X pZ H b) (J:Inv (cxC X scope N s H fp (X.pn++pZ)) ps σ' H' s'):
  Inv X pZ σ H' s'∧FpOk X pZ H' s.heap.objs.size∧∃ m,s'.heap.Ns s.heap.objs.size m:=by
 refine⟨I.call' (ch:=fp) J.os J.base J.hok J.bare fun b hb=>⟨(hf b hb).2.2.2.1,(hf b hb).2.1,(hf b hb).2.2.2.2.1,(hf b hb).2.2.2.2.2⟩,I.fpOk (Nat.le_refl _) J.free,?_⟩
 obtain⟨m,hn,_⟩:=J.loc
 exact⟨m,hn⟩
theorem Inv.gone {H':Hp} {s':Shared} {C:Addr} {h':Heap} {m:Str→Option Value} (I:Inv X pZ σ H' s') (f:FpOk X pZ H' C) (hs:Heap.SameBut C s'.heap h'):Inv X pZ σ H' {s' with heap:=h'}:=
 I.turned (t':=s'.toks) (it:=C) (fun b o hb e=>(hs.2 b hb).trans e) f.1 f.2.1 f.2.2.2.1 f.2.2.2.2.1 f.2.2.2.2.2
theorem lc_loop {iter:Expr} {Q:VK} {R:Value→Addr→Result→Shared→Prop}
  (L:LcScope X scope N js) (hc:X.calm=true)
  (hg: ∀ s₀ H₀ ex pn,PG (cxC X scope N s₀ H₀ ex pn) target g) (ht: ∀ s₀ H₀ ex pn,PTs (cxC X scope N s₀ H₀ ex pn) ifs tt) (he: ∀ s₀ H₀ ex pn,PE (cxC X scope N s₀ H₀ ex pn) elt te)
  (I:Inv X pZ σ H s) (T:Turn X.prog X.w X.K target J fp it tn) (st:tn 0 s.heap) (hf: ∀ b∈fp,FpOk X pZ H b) {h₁:Heap} {tk:Nat} (I3:Inv X pZ σ (upd H D (.lst [])) s3) (hDl: ∀ b o,s.heap.get? b=some o→b≠D) (k3: ∀ b o,s.heap.get? b=some o→s3.heap.get? b=some o)
  (hns₁:h₁.Ns s3.heap.objs.size (fun _=>none)) (kk: ∀ b o,s3.heap.get? b=some o→h₁.get? b=some o)
  (w: ∃ W:Nat→Nat→St→Hp→Prop,(∃ m,W 0 m (capSt js σ) (upd H D (.lst [])))∧∀ i m σ' H',W i m σ' H'→
   (J.stop i H'∧Q (.ref D) H')∨(J.go i H'∧∀ x H2,J.yld i H' x H2→g x σ' H2 fun σ2 H3=>tt σ2 H3 fun ok H4=>
    if ok=true then te σ2 H4 fun y H5=> ∃ ys,H5 D=some (.lst ys)∧ys.length < sizeLine∧∃ m',m' < m∧W (i+1) m' σ2 (upd H5 D (.lst (ys++[y])))
    else ∃ m',m' < m∧W (i+1) m' σ2 H4))
  (hR: ∀ C s' H',Inv X pZ σ H' s'→FpOk X pZ H' C→(∃ m,s'.heap.Ns C m)→Q (.ref D) H'→R (.ref D) C (.ok .next) s'):
  codeAny (model X.prog X.w) X.A (.compStart (.ListComp elt [⟨target,iter,ifs,0⟩] scope pos) 0 (.ref it) (.ref D) {newEnv scope s3.heap.objs.size X.env.globals (clOf scope.names X.env.cells) X.env.qual none .none (some X.env) builtinsNs with scope:=relabel scope X.env}) (R (.ref D) s3.heap.objs.size) {s3 with heap:=h₁,toks:=tk}:=by
 have obj:=T.obj 0 s.heap st
 have ho3: ∀ b∈fp,∃ o,s3.heap.get? b=some o:=fun b hb=>by obtain⟨o,e,_⟩:=obj b hb;exact⟨o,k3 b o e⟩
 have hf3: ∀ b∈fp,FpOk X pZ (upd H D (.lst [])) b:=fun b hb=>by
  refine⟨?_,(hf b hb).2⟩
  obtain⟨o,e,_⟩:=obj b hb
  rw[upd_ne (hDl b o e)]
  exact(hf b hb).1
 have I4:Inv (cxC X scope N s3 (upd H D (.lst [])) fp (X.pn++pZ)) [] (capSt js σ) (upd H D (.lst [])) {s3 with heap:=h₁,toks:=tk}:=
  L.start I3 hc hf3 ho3 hns₁ kk
 obtain⟨W,⟨m0,w0⟩,turn⟩:=w
 have st4:tn 0 h₁:=T.keep 0 _ _ st fun b _ o e=>kk b o (k3 b o e)
 generalize hX:cxC X scope N s3 (upd H D (.lst [])) fp (X.pn++pZ)=Y at I4
 have fpY: ∀ b∈fp,b≠Y.env.locals∧b∉Y.fs∧(b∈Y.ex∨Y.s₀.heap.objs.size≤b)∧(∀ x c,Y.env.cells.lookup x=some c→c≠b)∧∀ p∈Y.pn++[],p.1≠b:=fun b hb=>by
  rw[←hX]
  obtain⟨o,e⟩:=ho3 b hb
  refine⟨Nat.ne_of_lt (Heap.lt_size e),fun z=>?_,.inl hb,fun x c h=>(hf b hb).2.2.2.2.1 x c (cl_sound _ _ _ (fun _ _ e=>by simp at e) x c h),fun p hp=>(hf b hb).2.2.2.2.2 p (by simpa[cxC] using hp)⟩
  rcases List.mem_cons.mp (I3.stkSub b z) with q|q
  ·exact(hf b hb).2.1 q
  ·exact(hf b hb).2.2.1 q
 have loop:codeAny (model X.prog X.w) X.A (.compLoop (.ListComp elt [⟨target,iter,ifs,0⟩] scope pos) 0 (.ref it) (.ref D) Y.env) (R (.ref D) s3.heap.objs.size) {s3 with heap:=h₁,toks:=tk}:=by
  have pr:Y.prog=X.prog:=by rw[←hX];rfl
  have pw:Y.w=X.w:=by rw[←hX];rfl
  have pK:Y.K=X.K:=by rw[←hX];rfl
  have pA:Y.A=X.A:=by rw[←hX];rfl
  have pc:Y.calm=true:=by rw[←hX];rfl
  have px:Y.xe=fun _ _=>False:=by rw[←hX];rfl
  have stat: ∀ {H':Hp},(∀ b∈fp,H' b=none)→∀ b∈fp,FpOk Y [] H' b:=fun hn b hb=>⟨hn b hb,fpY b hb⟩
  refine comp_loop (fun n s'=> ∃ i σ' H',Inv Y [] σ' H' s'∧tn i s'.heap∧(∀ b∈fp,H' b=none)∧W i n σ' H') ?_ m0 ⟨0,_,_,I4,st4,fun b hb=>(hf3 b hb).1,w0⟩
  rintro n s5 ⟨i,σ5,H5,I5,st5,fr5,w5⟩
  have gY:PG Y target g:=by rw[←hX];exact hg _ _ _ _
  have tY:PTs Y ifs tt:=by rw[←hX];exact ht _ _ _ _
  have eY:PE Y elt te:=by rw[←hX];exact he _ _ _ _
  unfold PG at gY;unfold PTs at tY;unfold PE at eY
  rw[pr,pw,pA,px] at gY tY eY
  have ap:=mt_append (X:=Y)
  unfold MtM at ap
  rw[pr,pw,pA,px] at ap
  rcases turn i n σ5 H5 w5 with⟨stop,q⟩|⟨go,step⟩
  ·have d:=T.done Y pr pw pK pc i [] s5 σ5 H5 (fun _ _=>False) I5 (stat fr5) st5 stop
   rw[pA] at d
   refine thn d fun r s6 ⟨hr,I6⟩=>?_
   subst hr
   have I6':Inv (cxC X scope N s3 (upd H D (.lst [])) fp (X.pn++pZ)) [] σ5 H5 s6:=by rw[hX];exact I6
   obtain⟨a1,a2,a3⟩:=lc_end I3 hf3 I6'
   exact hR _ s6 H5 a1 a2 a3 q
  ·have d:=T.item Y pr pw pK pc i [] s5 σ5 H5 (fun _ _=>False) I5 (stat fr5) st5 go
   rw[pA] at d
   refine thn d fun r s6 ⟨u,hr,h6⟩=>?_
   subst hr
   refine thn h6 fun _ s7 ⟨x,H7,I7,r7,y7,st7,fr7⟩=>?_
   have I7':=I7.pinned (stat fr7) (T.obj _ _ st7)
   refine thn (gY _ s7 σ5 H7 x u _ I7' r7 (step x H7 y7)) fun _ s8 ⟨σ8,H8,I8,q8⟩=>?_
   have again: ∀ {σ9:St} {H9:Hp} {s9:Shared},Inv Y ([]++pinsAt fp s7.heap) σ9 H9 s9→(∃ m',m' < n∧W (i+1) m' σ9 H9)→∃ m,m < n∧∃ i σ' H',Inv Y [] σ' H' s9∧tn i s9.heap∧(∀ b∈fp,H' b=none)∧W i m σ' H':=fun {σ9 H9 s9} I9 ⟨m',hm,w9⟩=>by
    refine⟨m',hm,i+1,σ9,H9,I9.unpinned,T.keep _ _ _ st7 fun b hb o e=>(I9.pin (b,o) (List.mem_append_right _ (List.mem_append_right _ (mem_pinsAt hb e)))).1,fun b hb=>?_,w9⟩
    obtain⟨o,e,d⟩:=T.obj _ _ st7 b hb
    exact(I9.pin (b,o) (List.mem_append_right _ (List.mem_append_right _ (mem_pinsAt hb e)))).2.1
   refine thn (tY _ s8 σ8 H8 _ I8 q8) fun ok s9 ⟨H9,I9,q9⟩=>?_
   cases ok with
   |false=>
    rw[if_neg (by decide)] at q9
    rw[if_neg (by decide)]
    exact again I9 q9
   |true=>
    rw[if_pos rfl] at q9
    rw[if_pos rfl]
    refine thn (eY _ s9 σ8 H9 _ I9 q9) fun v s10 ⟨y,H10,I10,r10,ys,eys,lys,q10⟩=>?_
    refine thn (ap _ s10 σ8 H10 (.ref D) [y] (.ref D) [v] (fun _ H'=> ∃ m',m' < n∧W (i+1) m' σ8 H') I10 rfl (.cons r10 .nil) ⟨D,ys,y,rfl,rfl,eys,lys,q10⟩) fun v2 s11 ⟨y2,H11,I11,_,q11⟩=>?_
    exact again I11 q11
 have ee:({newEnv scope s3.heap.objs.size X.env.globals (clOf scope.names X.env.cells) X.env.qual none .none (some X.env) builtinsNs with scope:=relabel scope X.env}:Env)=Y.env:=by rw[←hX];rfl
 rw[ee]
 exact codeAny_compStart_list loop (T.self _ 0 _ _ _ st4 loop)
theorem lc_block {elt target iter:Expr} {ifs:List Expr} {pos:Pos} {g:TG} {tt:TT} {te:TE} {it:Addr} {tn:Nat→Heap→Prop} {J:It} {Q:VK} {E:Value→Shared→Prop} {R:Value→Addr→Result→Shared→Prop}
  (L:LcScope X scope N js) (hc:X.calm=true)
  (hg: ∀ s₀ H₀ ex pn,PG (cxC X scope N s₀ H₀ ex pn) target g) (ht: ∀ s₀ H₀ ex pn,PTs (cxC X scope N s₀ H₀ ex pn) ifs tt) (he: ∀ s₀ H₀ ex pn,PE (cxC X scope N s₀ H₀ ex pn) elt te)
  (I:Inv X pZ σ H s) (T:Turn X.prog X.w X.K target J fp it tn) (st:tn 0 s.heap) (hf: ∀ b∈fp,FpOk X pZ H b)
  (w: ∀ D,H D=none→∃ W:Nat→Nat→St→Hp→Prop,(∃ m,W 0 m (capSt js σ) (upd H D (.lst [])))∧∀ i m σ' H',W i m σ' H'→
   (J.stop i H'∧Q (.ref D) H')∨(J.go i H'∧∀ x H2,J.yld i H' x H2→g x σ' H2 fun σ2 H3=>tt σ2 H3 fun ok H4=>
    if ok=true then te σ2 H4 fun y H5=> ∃ ys,H5 D=some (.lst ys)∧ys.length < sizeLine∧∃ m',m' < m∧W (i+1) m' σ2 (upd H5 D (.lst (ys++[y])))
    else ∃ m',m' < m∧W (i+1) m' σ2 H4))
  (hR: ∀ D C s' H',Inv X pZ σ H' s'→FpOk X pZ H' C→(∃ m,s'.heap.Ns C m)→Q (.ref D) H'→R (.ref D) C (.ok .next) s'):
  wpAny (model X.prog X.w) X.A (newList []) (fun acc s₃=>wpAny (model X.prog X.w) X.A (newFunctionEnv scope X.env.globals (clOf scope.names X.env.cells) [] X.env.qual none .none (some X.env)) (fun cenv s₄=>
   codeAny (model X.prog X.w) X.A (.compStart (.ListComp elt [⟨target,iter,ifs,0⟩] scope pos) 0 (.ref it) acc {cenv with scope:=relabel scope X.env}) (R acc cenv.locals) s₄) E s₃) E s:=by
 have I3:=I.lnew (t':=s.toks) (ys:=[]) (its:=[]) .nil (Nat.zero_le _)
 have hD:=I.fresh
 refine wpAny_newObj_type (wpAny_newFunctionEnv L.nocell (by intro y hy;simp at hy) (fun h₁ hns₁ hsb₁=>?_) L.kind)
 dsimp only at hns₁ hsb₁
 exact lc_loop (Q:=Q) (R:=R) (s3:={s with heap:=s.heap.push {cls:=.type "list",data:=.seq ([]:List Value).toArray},toks:=s.toks}) L hc hg ht he I T st hf I3 (fun b o e=>Nat.ne_of_lt (Heap.lt_size e)) (fun b o e=>Heap.get?_push_of_some _ e) hns₁
  (fun b o e=>hsb₁.extBut b o (Nat.ne_of_lt (Heap.lt_size e)) (Heap.get?_push_of_some _ e)) (w _ hD) (fun C=>hR _ C)
theorem pe_lc {elt target iter:Expr} {ifs:List Expr} {pos:Pos} {wi:TI} {g:TG} {tt:TT} {te:TE} (L:LcScope X scope N js) (hc:X.calm=true) (hi:PI X target iter wi)
  (hg: ∀ s₀ H₀ ex pn,PG (cxC X scope N s₀ H₀ ex pn) target g) (ht: ∀ s₀ H₀ ex pn,PTs (cxC X scope N s₀ H₀ ex pn) ifs tt) (he: ∀ s₀ H₀ ex pn,PE (cxC X scope N s₀ H₀ ex pn) elt te)
  (hs: ∀ x,foldedSetIterable iter X.env x=pure x:=by intro _;rfl):PE X (.ListComp elt [⟨target,iter,ifs,0⟩] scope pos) (tLC js wi g tt te):=by
 intro pZ s σ H Q I h
 rw[eval_ListComp]
 refine wpAny_comprehension_free (use:=none) rfl hs (closure_is (L.clos I.ok)) L.kind L.names (thn (hi pZ s σ H _ I h) fun v s1 h1=>thn h1 fun itv s2 h2=>?_)
 obtain⟨it,fp,tn,J,H2,e,I2,T,st2,f2,w⟩:=h2
 subst e
 refine lc_block (Q:=Q) (R:=fun acc C=>compPost (model X.prog X.w) X.A X.xe none (EP X pZ σ Q) acc C) L hc hg ht he I2 T st2 f2 w ?_
 intro D C s' H' I' f' ⟨m,hn⟩ q
 exact⟨m,hn,fun h' hs'=>⟨.ref D,H',I'.gone (m:=m) f' hs',rfl,q⟩⟩
theorem ps_lc {elt target iter:Expr} {ifs:List Expr} {pos spos py:Pos} {y:Str} {k:Nat} {wi:TI} {g:TG} {tt:TT} {te:TE} (hN:X.N.Nodup) (hk:X.N[k]?=some y) (hy:Loc X.env.scope y) (L:LcScope X scope N js) (hc:X.calm=true) (hi:PI X target iter wi)
  (hg: ∀ s₀ H₀ ex pn,PG (cxC X scope N s₀ H₀ ex pn) target g) (ht: ∀ s₀ H₀ ex pn,PTs (cxC X scope N s₀ H₀ ex pn) ifs tt) (he: ∀ s₀ H₀ ex pn,PE (cxC X scope N s₀ H₀ ex pn) elt te)
  (hsw:swapsWith (.ListComp elt [⟨target,iter,ifs,0⟩] scope pos) (some (.Name y py)) spos.line X.env=pure true:=by rfl)
  (hs: ∀ x,foldedSetIterable iter X.env x=pure x:=by intro _;rfl) (hf:X.fn y=true∨X.env.scope.names.lookup y=some .local:=by first|exact .inl rfl|exact .inr rfl|assumption):
  PS X (.Assign [.Name y py] (.ListComp elt [⟨target,iter,ifs,0⟩] scope pos) spos) (tAsg (tLC js wi g tt te) (gName k)):=by
 intro pZ s σ H D I h
 rw[exec_Assign_Name_used _ _ _ _ hsw]
 refine wpAny_bind (wpAny_standAt (wpAny_bind ?_))
 show wpAny _ X.A (do let _ ←comprehension (.ListComp elt [⟨target,iter,ifs,0⟩] scope pos) scope X.env _ (newList []) false (eval iter X.env) (some (assign (.Name y py) X.env))) _ _ s
 refine wpAny_bind (thn (wpAny_comprehension_free (Q:=fun _ s'=>SP X pZ D .next s') rfl hs (closure_is (L.clos I.ok)) L.kind L.names (thn (hi pZ s σ H _ I h) fun v s1 h1=>thn h1 fun itv s2 h2=>?_)) fun _ s' hq=>wpAny_pure (wpAny_pure hq))
 obtain⟨it,fp,tn,J,H2,e,I2,T,st2,f2,w⟩:=h2
 subst e
 refine lc_block (Q:=fun v H1=>D.nx (σ.set k (some v)) H1) (R:=fun acc C=>compPost (model X.prog X.w) X.A X.xe (some (assign (.Name y py) X.env)) (fun _ s'=>SP X pZ D .next s') acc C) L hc hg ht he I2 T st2 f2 w ?_
 intro A C s' H' I' f' ⟨m,hn⟩ q
 show wpAny _ _ (assign (.Name y py) X.env (.ref A)) _ _ s'
 refine wpAny_assign_Name (store_ok2 (v:=V.ref A) I' hN hk hy rfl (fun s2 I3 ⟨a,hsb,ha⟩=>?_) hf)
 have hca:C≠a:=by
  rintro rfl
  rcases ha with z|z
  ·exact f'.2.1 z
  ·exact f'.2.2.2.2.1 y _ z rfl
 exact⟨m,hn.sameBut hsb hca,fun h' hs'=>⟨_,H',I3.gone (m:=m) f' hs',q⟩⟩
end
noncomputable def Itx (x:Str):It:=⟨fun i _=>i < x.cps.size,fun i H v H'=>H'=H∧∃ c,x.cps[i]?=some c∧v= .str ⟨#[c]⟩,fun i _=>i=x.cps.size⟩
theorem turn_text {P:Program} {w:World} {K:PySem.W.Frag} {tg:Expr} (it:Addr) (x:Str) (t:Tok) {ty:String}
  (hn:["enumerate","zip","dict_itemiterator","dict_reverseitemiterator","odict_iterator","itertools.zip_longest","itertools.pairwise"].contains ty=false)
  (Wk: ∀ A:Around,A.handled=none→Walks P w A it [it] [it] x.cps.size (SignAt x) (fun i h=>h.IsStrIter it ty x t i))
  (Sf: ∀ (A:Around) i (s:Shared) (Q:Value→Shared→Prop) (E:Value→Shared→Prop),s.heap.IsStrIter it ty x t i→Q (.ref it) s→wpAny (model P w) A (pyIter (.ref it)) Q E s):Turn P w K tg (Itx x) [it] it (fun i h=>h.IsStrIter it ty x t i) where
 mem:=by simp
 obj:=fun i h st b hb=>by
  have e:b=it:=by simpa using hb
  subst e
  obtain⟨o,e,c,d⟩:=st
  exact⟨o,e,fun v z=>by rw[d] at z;cases z⟩
 keep:=fun i h h' st k=>by
  obtain⟨o,e,c,d⟩:=st
  exact⟨o,k it (by simp) o e,c,d⟩
 item:=by
  intro X hP hw hK hc i pZ s σ H E I hf st hg
  subst hP hw hK
  obtain⟨f0,f1,f2,f3,f4,f5⟩:=hf it (by simp)
  refine(Wk X.A (I.ok.hd hc)).item i s _ _ hg st fun v h' tk hv st' kk=>?_
  obtain⟨c,u,hcx,rfl⟩:=hv
  have I1:Inv X pZ σ H {s with heap:=h',toks:=tk}:=I.turned (fun b o hb e=>kk b o (by simpa using hb) e) f0 f1 f3 f4 f5
  obtain⟨o,e,oc,d⟩:=id st'
  exact⟨_,rfl,go_of (s:={s with heap:=h',toks:=tk}) e oc d hn ⟨.str ⟨#[c]⟩,H,I1,⟨u,rfl⟩,⟨rfl,c,hcx,rfl⟩,st',fun b hb=>(hf b hb).1⟩⟩
 done:=by
  intro X hP hw hK hc i pZ s σ H E I hf st hg
  subst hP hw hK
  have hg':i=x.cps.size:=hg
  subst hg'
  obtain⟨f0,f1,f2,f3,f4,f5⟩:=hf it (by simp)
  exact(Wk X.A (I.ok.hd hc)).done s _ _ st fun h' tk kk=>⟨rfl,I.turned (fun b o hb e=>kk b o (by simpa using hb) e) f0 f1 f3 f4 f5⟩
 self:=fun A i s Q E st h=>Sf A i s Q E st h
section
variable {X:Cx} {tg:Expr}
theorem op_le_str:OpR X (compareOp .LtE) (fun x y H Q=> ∃ i j,x= .str i∧y= .str j∧Q (.bl (!decide (j.cps.toList < i.cps.toList))) H):=by
 intro pZ s σ H x y v u Q I rx ry h
 obtain⟨i,j,rfl,rfl,q⟩:=h
 obtain⟨t,rfl⟩:=rx
 obtain⟨t',rfl⟩:=ry
 exact PySem.P.le_str (fin_bl I q rfl)
theorem op_isnot_bl:OpR X (compareOp .IsNot) (fun x y H Q=> ∃ a b,x= .bl a∧y= .bl b∧Q (.bl (a !=b)) H):=by
 intro pZ s σ H x y v u Q I rx ry h
 obtain⟨a,b,rfl,rfl,q⟩:=h
 cases rx;cases ry
 refine wpAny_isNot_plain rfl (fin_bl I q ?_)
 cases a<;>cases b<;>rfl
theorem op_powB:OpR X (binaryOp .Pow) (rI (fun i j=>0≤j∧(Builtin.Int.intBits i:Int) * j≤2 ^ 27) fun i j=>.int (i ^ j.toNat)):=opI fun _ _ _ _ _ _ _ hc q=>pow_int hc.1 hc.2 q
noncomputable def rNil (K:PySem.W.Frag) (neg:Bool):R2:=fun x y H Q=> ∃ p q xs,x= .ref p∧y= .ref q∧SqL K H p xs∧SqL K H q []∧Q (.bl (xor neg xs.isEmpty)) H
theorem op_ne_nil (hu:X.A.units < cLine):OpR X (compareOp .NotEq) (rNil X.K true):=by
 intro pZ s σ H x y v u Q I rx ry h
 obtain⟨p,q,xs,rfl,rfl,h1,h2,hq⟩:=h
 cases rx;cases ry
 obtain⟨its,r1,l1,_⟩:=I.list h1
 obtain⟨its2,r2,l2,_⟩:=I.list h2
 cases r2
 cases xs with
 |nil=>
  cases r1
  exact SeqAt.RcNeAt.lists (e:=fun _=>true) l1.isList l2.isList rfl hu (fun j a _=>by simp at a) _ _ _ _ (fin_bl I hq rfl)
 |cons y ys=>
  have e:=r1.length
  exact SeqAt.RcNeAt.lists_lengths l1.isList l2.isList (by simp;intro z;subst z;simp at e) hu _ _ _ _ (fin_bl I hq rfl)
theorem strs_of: ∀ {ys:List Str} {us:List Value},Vals (ys.map V.str) us→StrsAre us ys
 |[],us,r=>by rw[List.map_nil] at r;cases r;exact .nil
 |y::ys,us,r=>by
  rw[List.map_cons] at r
  cases r with
  |cons h t=>obtain⟨t',rfl⟩:=h;exact .cons y t' (strs_of t)
theorem mt_join:MtR X "str.join" (fun x xs H Q=> ∃ (sep:Str) (p:Addr) (ys:List Str),x= .str sep∧xs=[.ref p]∧SqL X.K H p (ys.map V.str)∧(ys.map (·.length)).sum+ys.length * sep.length≤16777216∧Q (.str (Txt.join sep ys)) H):=by
 intro pZ s σ H x xs v us Q I rx rv h
 obtain⟨sep,p,ys,rfl,rfl,hq,hz,q⟩:=h
 obtain⟨t,rfl⟩:=rx
 obtain⟨u,rfl,ru⟩:=vals1 rv
 cases ru
 obtain⟨its,r',pl,_⟩:=I.list hq
 exact join_list pl.isList (by simpa using strs_of r') hz fun t' k=>⟨.str (Txt.join sep ys),H,I.tok _,⟨_,rfl⟩,q⟩
theorem call_isi:CallR X (.builtin "isinstance") (fun xs H Q=> ∃ x T t b,xs=[x,.ty T]∧TyOf X.K H x t∧PySem.W.kitOne X.K t (.type T)=some b∧Q (.bl b) H):=by
 intro pZ s σ H xs us Q I r h
 obtain⟨x,T,t,b,rfl,ty,e,q⟩:=h
 obtain⟨u,w',rfl,rx,ry⟩:=vals2 r
 cases ry
 exact isinst_ok I rx ty e fun tk=>⟨.bl b,H,I.tok _,rfl,q⟩
end
noncomputable def lcOk (scope es:Scope) (XN N:List Str) (js:List (Option Nat)):Bool:=
 (scope.kind== .function)&&scope.names.all (fun y=>y.2 != .cell&&(y.2 != .local||scope.names.lookup y.1==some .local)&&(y.2 != .free||es.names.lookup y.1==some .cell||es.names.lookup y.1==some .free))&&
 (js.length==N.length)&&(List.range N.length).all (fun i=>match N[i]?,js[i]? with|some y,some (some j)=>XN[j]?==some y&&scope.names.lookup y==some .free|_,_=>true)
theorem LcScope.mk2 (es:Scope) (XN:List Str) (h1:X.env.scope=es) (h2:X.N=XN) (h:lcOk scope es XN N js=true):LcScope X scope N js:=by
 unfold lcOk at h
 simp only[Bool.and_eq_true,List.all_eq_true] at h
 obtain⟨⟨⟨ha,hb⟩,hc⟩,hd⟩:=h
 refine⟨by simpa using ha,fun y hy=>?_,fun y hy hl=>?_,fun y hy hl=>?_,by simpa using hc,fun i y j e1 e2=>?_⟩
 ·have:=(hb y hy).1.1
  simpa using this
 ·have:=(hb y hy).1.2
  rw[hl] at this
  simpa using this
 ·have:=(hb y hy).2
  rw[hl] at this
  rw[h1]
  simpa using this
 ·have hi:i < N.length:=(List.getElem?_eq_some_iff.mp e1).1
  have:=hd i (List.mem_range.mpr hi)
  rw[e1,e2] at this
  simp only[Bool.and_eq_true] at this
  rw[h2]
  exact⟨by simpa using this.1,by simpa using this.2⟩
theorem lc_list {K:PySem.W.Frag} {a:Addr} {xs:List V} {g:TG} {tt:TT} {te:TE} {Q:VK} {σ0:St} {H1:Hp} {D:Addr} (Pv:Nat→List V→St→Hp→Prop) (h0:Pv 0 [] σ0 (upd H1 D (.lst [])))
  (hq: ∀ i ys σ H,Pv i ys σ H→SqL K H a xs)
  (hs: ∀ i x ys σ H,xs[i]?=some x→ys.length≤i→H D=some (.lst ys)→Pv i ys σ H→∀ (kt:St→V→Hp→Prop) (kf:St→Hp→Prop),(∀ σ2 y H5,H5 D=some (.lst ys)→Pv (i+1) (ys++[y]) σ2 (upd H5 D (.lst (ys++[y])))→kt σ2 y H5)→(∀ σ2 H4,H4 D=some (.lst ys)→Pv (i+1) ys σ2 H4→kf σ2 H4)→
   g x σ H fun σ2 H3=>tt σ2 H3 fun ok H4=>if ok=true then te σ2 H4 (kt σ2) else kf σ2 H4)
  (hz:xs.length≤100000) (hd: ∀ ys σ H,H D=some (.lst ys)→ys.length≤xs.length→Pv xs.length ys σ H→Q (.ref D) H):
  LcW (Itl K a) D g tt te Q σ0 H1:=by
 refine⟨fun i m σ H=>m=xs.length - i∧i≤xs.length∧∃ ys,ys.length≤i∧H D=some (.lst ys)∧Pv i ys σ H,⟨xs.length,by simp,Nat.zero_le _,[],Nat.le_refl _,upd_same,h0⟩,?_⟩
 rintro i m σ H ⟨rfl,hi,ys,hl,hD,p⟩
 have q:=hq i ys σ H p
 by_cases hlt:i < xs.length
 ·refine .inr ⟨⟨xs,xs[i],q,by simp[hlt]⟩,fun v H2 y=>?_⟩
  obtain⟨e,y⟩:=y
  subst e
  exact hs i v ys σ _ (y xs q) hl hD p _ _ (fun σ2 z H5 a1 a2=>⟨ys,a1,by rw[sizeLine_eq];lia,xs.length - (i+1),by lia,rfl,hlt,ys++[z],by simp;lia,upd_same,a2⟩)
   (fun σ2 H4 a1 a2=>⟨xs.length - (i+1),by lia,rfl,hlt,ys,by lia,a1,a2⟩)
 ·have e:i=xs.length:=by lia
  subst e
  exact .inl ⟨⟨xs,q,Nat.le_refl _⟩,hd ys σ H hD hl p⟩
noncomputable def isStar:Expr→Bool
 | .Starred .. =>true
 |_=>false
theorem star1 (h:isStar e=false):starEach (e::es) env=(false,eval e env)::starEach es env:=by
 cases e<;>first
  |rfl
  |(exfalso;exact Bool.noConfusion h)
theorem pa_c (ha:PE X e te) (hr:PA X es t) (h:isStar e=false:=by rfl):PA X (e::es) (tCons te t):=pa_cons ha hr (star1 h)
theorem same_new (h:H p=none) (o:HO):Same H (upd H p o):=fun b u q=>by rw[upd_ne (ne_of_none q h)];exact q
section
structure Bx (p:Prop):Prop where
 out:p
abbrev BE (X:Cx) (e:Expr) (t:TE):Prop:=Bx (PE X e t)
abbrev BT (X:Cx) (e:Expr) (t:TT):Prop:=Bx (PT X e t)
abbrev BW (X:Cx) (e:Expr) (t:TT):Prop:=Bx (PW X e t)
abbrev BA (X:Cx) (es:List Expr) (t:TA):Prop:=Bx (PA X es t)
abbrev BS (X:Cx) (st:Stmt) (t:TS):Prop:=Bx (PS X st t)
abbrev BSs (X:Cx) (st:List Stmt) (t:TS):Prop:=Bx (PSs X st t)
abbrev BI (X:Cx) (tg iter:Expr) (t:TI):Prop:=Bx (PI X tg iter t)
abbrev BG (X:Cx) (tg:Expr) (t:TG):Prop:=Bx (PG X tg t)
abbrev BGs (X:Cx) (ts:List Expr) (t:TGs):Prop:=Bx (PGs X ts t)
abbrev BO (X:Cx) (e:Option Expr) (t:TO):Prop:=Bx (PO X e t)
abbrev BTs (X:Cx) (ifs:List Expr) (t:TT):Prop:=Bx (PTs X ifs t)
set_option genInjectivity true in
inductive PV where
 |non|bl (b:Bool)|int (i:Int)|str (x:Str)|tup (l:List PV)|lst (l:List PV)|dct (kvs:List (Key×PV))|scr (ns:List Int)|bag
set_option genInjectivity true in
inductive M (α:Type) where
 |fail|ret (a:α)|draw (m:Int) (k:Int→M α)
namespace M
variable {α β γ:Type}
noncomputable def bind:M α→(α→M β)→M β
 |fail,_=>fail
 |ret a,f=>f a
 |draw m k,f=>draw m fun d=>(k d).bind f
noncomputable def wp:M α→Nat→(α→Nat→Prop)→Prop
 |fail,_,_=>False
 |ret a,n,Q=>Q a n
 |draw m k,n,Q=>0 < m∧m < 1073741824∧∃ n',n=n'+1∧∀ d,0≤d→d < m→(k d).wp n' Q
theorem wZ (m:M α) (f:α→M β): ∀ (n:Nat) (Q:β→Nat→Prop),(m.bind f).wp n Q=m.wp n fun a n'=>(f a).wp n' Q:=by
 induction m with
 |fail=>intro n Q;rfl
 |ret a=>intro n Q;rfl
 |draw m k ih=>intro n Q;simp only[bind,wp,ih]
theorem wp_mono {m:M α}: ∀ {n:Nat} {Q Q':α→Nat→Prop},m.wp n Q→(∀ a n',Q a n'→Q' a n')→m.wp n Q':=by
 induction m with
 |fail=>intro n Q Q' h _;exact h
 |ret a=>intro n Q Q' h f;exact f _ _ h
 |draw m k ih=>
  intro n Q Q' h f
  obtain⟨h1,h2,n',e,h3⟩:=h
  exact⟨h1,h2,n',e,fun d a b=>ih d (h3 d a b) f⟩
theorem bZ (m:M α) (f:α→M β) (g:β→M γ):(m.bind f).bind g=m.bind fun a=>(f a).bind g:=by
 induction m with
 |fail=>rfl
 |ret a=>rfl
 |draw m k ih=>simp only[bind,ih]
@[simp] theorem rY (a:α) (f:α→M β):(ret a).bind f=f a:=rfl
noncomputable def ofO:Option α→M α
 |some a=>ret a
 |none=>fail
end M
theorem rZ (a:α) (f:α→M β):(M.ret a).bind f=f a:=rfl
inductive Rep (B:Addr) (O:Addr→Prop) (H:Hp):PV→V→Prop where
 |non:Rep B O H .non .non
 |bl (b:Bool):Rep B O H (.bl b) (.bl b)
 |int (i:Int):Rep B O H (.int i) (.int i)
 |str (x:Str):Rep B O H (.str x) (.str x)
 |tup {p:Addr} {xs:List V} {l:List PV} (hO: ¬ O p) (h:H p=some (.tup xs)) (hl:l.length=xs.length) (hr: ∀ (i:Nat) (y:PV) (x:V),l[i]?=some y→xs[i]?=some x→Rep B O H y x):Rep B O H (.tup l) (.ref p)
 |lst {p:Addr} {xs:List V} {l:List PV} (hO: ¬ O p) (h:H p=some (.lst xs)) (hl:l.length=xs.length) (hr: ∀ (i:Nat) (y:PV) (x:V),l[i]?=some y→xs[i]?=some x→Rep B O H y x):Rep B O H (.lst l) (.ref p)
 |dct {p:Addr} {ks:List (Key×V)} {l:List (Key×PV)} (hO: ¬ O p) (h:Rd H p (.dK ks)) (hk:l.map (·.1)=ks.map (·.1)) (hr: ∀ (i:Nat) (y:Key×PV) (x:Key×V),l[i]?=some y→ks[i]?=some x→Rep B O H y.2 x.2):Rep B O H (.dct l) (.ref p)
 |scr {p:Addr} {ns:List Int} (hO: ¬ O p) (h: ∃ o,H p=some (.frz o (.lst (ns.map V.int)))):Rep B O H (.scr ns) (.ref p)
 |bag:Rep B O H .bag (.ref B)
def Reps (B:Addr) (O:Addr→Prop) (H:Hp) (l:List PV) (xs:List V):Prop:=l.length=xs.length∧∀ (i:Nat) (y:PV) (x:V),l[i]?=some y→xs[i]?=some x→Rep B O H y x
def RepsK (B:Addr) (O:Addr→Prop) (H:Hp) (l:List (Key×PV)) (ks:List (Key×V)):Prop:=l.map (·.1)=ks.map (·.1)∧∀ (i:Nat) (y:Key×PV) (x:Key×V),l[i]?=some y→ks[i]?=some x→Rep B O H y.2 x.2
noncomputable def Stand (H':Hp) (p:Addr):HO→Prop
 | .tbl _=> ∃ qs,H' p=some (.tbl qs)
 |o=>H' p=some o
theorem Stand.of (h:H' p=some o):Stand H' p o:=by
 cases o<;>first|exact h|exact⟨_,h⟩
theorem Stand.there (h:Stand H' p o): ∃ u,H' p=some u:=by
 cases o<;>first|exact⟨_,h⟩|(obtain⟨qs,e⟩:=h;exact⟨_,e⟩)
theorem Stand.to (h:Stand H' p o) (k: ∀ u,H' p=some u→Stand H2 p u):Stand H2 p o:=by
 cases o<;>first|exact k _ h|(obtain⟨qs,e⟩:=h;have q:=k (.tbl qs) e;exact q)
def Ext (B:Addr) (H H':Hp):Prop:= ∀ p o,p≠B→H p=some o→Stand H' p o
theorem Ext.refl (B:Addr) (H:Hp):Ext B H H:=fun _ _ _ h=>.of h
theorem Ext.trans (a:Ext B H H1) (b:Ext B H1 H2):Ext B H H2:=fun p o n h=>(a p o n h).to fun u e=>b p u n e
theorem Ext.new (h:H p=none) (o:HO):Ext B H (upd H p o):=fun q u _ e=>.of (by rw[upd_ne (ne_of_none e h)];exact e)
section
variable {B:Addr} {O O':Addr→Prop} {H H':Hp} {y:PV} {x:V} {l l':List PV} {xs xs':List V}
theorem Rep.keepS (h:Rep B O H y x) (hH: ∀ p o,¬ O p→H p=some o→Stand H' p o∧¬ O' p):Rep B O' H' y x:=by
 induction h with
 |non=>exact .non
 |bl b=>exact .bl b
 |int i=>exact .int i
 |str x=>exact .str x
 |tup hO h hl hr ih=>exact .tup (hH _ _ hO h).2 (hH _ _ hO h).1 hl ih
 |lst hO h hl hr ih=>exact .lst (hH _ _ hO h).2 (hH _ _ hO h).1 hl ih
 |scr hO h=>
  obtain⟨o,e⟩:=h
  exact .scr (hH _ _ hO e).2 ⟨o,(hH _ _ hO e).1⟩
 |dct hO h hl hr ih=>
  rcases h with h|⟨o,h⟩
  ·exact .dct (hH _ _ hO h).2 (.inl (hH _ _ hO h).1) hl ih
  ·exact .dct (hH _ _ hO h).2 (.inr ⟨o,(hH _ _ hO h).1⟩) hl ih
 |bag=>exact .bag
theorem Rep.keep (h:Rep B O H y x) (hH: ∀ p o,¬ O p→H p=some o→H' p=some o∧¬ O' p):Rep B O' H' y x:=h.keepS fun p o n q=>⟨.of (hH p o n q).1,(hH p o n q).2⟩
theorem Rep.ext (h:Rep B O H y x) (hB:O B) (e:Ext B H H'):Rep B O H' y x:=h.keepS fun p o n q=>⟨e p o (fun z=>n (z▸hB)) q,n⟩
theorem Rep.less (h:Rep B O H y x) (hO: ∀ p,O' p→O p):Rep B O' H y x:=h.keep fun p o n q=>⟨q,fun z=>n (hO p z)⟩
theorem Rep.grow (h:Rep B O H y x) (hO: ∀ p,O' p→O p∨H p=none):Rep B O' H y x:=h.keep fun p o n q=>⟨q,fun z=>by
 rcases hO p z with w|w
 ·exact n w
 ·rw[w] at q;cases q⟩
theorem Reps.keepS (h:Reps B O H l xs) (hH: ∀ p o,¬ O p→H p=some o→Stand H' p o∧¬ O' p):Reps B O' H' l xs:=⟨h.1,fun i y x a b=>(h.2 i y x a b).keepS hH⟩
theorem Reps.keep (h:Reps B O H l xs) (hH: ∀ p o,¬ O p→H p=some o→H' p=some o∧¬ O' p):Reps B O' H' l xs:=⟨h.1,fun i y x a b=>(h.2 i y x a b).keep hH⟩
theorem Reps.ext (h:Reps B O H l xs) (hB:O B) (e:Ext B H H'):Reps B O H' l xs:=⟨h.1,fun i y x a b=>(h.2 i y x a b).ext hB e⟩
theorem Reps.less (h:Reps B O H l xs) (hO: ∀ p,O' p→O p):Reps B O' H l xs:=⟨h.1,fun i y x a b=>(h.2 i y x a b).less hO⟩
theorem Reps.grow (h:Reps B O H l xs) (hO: ∀ p,O' p→O p∨H p=none):Reps B O' H l xs:=⟨h.1,fun i y x a b=>(h.2 i y x a b).grow hO⟩
theorem Reps.nil:Reps B O H [] []:=⟨rfl,fun i y x a=>by simp at a⟩
theorem Reps.cons (h:Rep B O H y x) (t:Reps B O H l xs):Reps B O H (y::l) (x::xs):=⟨by simp[t.1],fun i y' x' a b=>by
 cases i with
 |zero=>simp at a b;subst a b;exact h
 |succ i=>simp at a b;exact t.2 i y' x' a b⟩
theorem Reps.head (h:Reps B O H (y::l) (x::xs)):Rep B O H y x:=h.2 0 y x rfl rfl
theorem Reps.tail (h:Reps B O H (y::l) (x::xs)):Reps B O H l xs:=⟨by simpa using h.1,fun i y' x' a b=>h.2 (i+1) y' x' (by simpa using a) (by simpa using b)⟩
theorem Reps.nil_inv (h:Reps B O H [] xs):xs=[]:=List.eq_nil_of_length_eq_zero h.1.symm
theorem Reps.cons_inv (h:Reps B O H (y::l) xs): ∃ x r,xs=x::r∧Rep B O H y x∧Reps B O H l r:=by
 cases xs with
 |nil=>have:=h.1;simp at this
 |cons x r=>exact⟨x,r,rfl,h.head,h.tail⟩
theorem Reps.at (h:Reps B O H l xs) {i:Nat} (e:l[i]?=some y): ∃ x,xs[i]?=some x∧Rep B O H y x:=by
 have hi:i < l.length:=(List.getElem?_eq_some_iff.mp e).1
 have hx:i < xs.length:=h.1▸hi
 exact⟨xs[i],List.getElem?_eq_getElem hx,h.2 i y _ e (List.getElem?_eq_getElem hx)⟩
theorem Reps.append: ∀ {l:List PV} {xs:List V},Reps B O H l xs→Reps B O H l' xs'→Reps B O H (l++l') (xs++xs')
 |[],xs,h,t=>by rw[h.nil_inv];exact t
 |y::l,xs,h,t=>by
  obtain⟨x,r,rfl,h1,h2⟩:=h.cons_inv
  exact .cons h1 (Reps.append h2 t)
theorem Reps.drop: ∀ (k:Nat) {l:List PV} {xs:List V},Reps B O H l xs→Reps B O H (l.drop k) (xs.drop k)
 |0,_,_,h=>h
 |_+1,[],_,h=>by have e:=h.nil_inv;subst e;simpa using Reps.nil
 |k+1,y::l,xs,h=>by
  obtain⟨x,r,rfl,h1,h2⟩:=h.cons_inv
  exact Reps.drop k h2
theorem Reps.take: ∀ (k:Nat) {l:List PV} {xs:List V},Reps B O H l xs→Reps B O H (l.take k) (xs.take k)
 |0,_,_,h=>.nil
 |_+1,[],_,h=>by have e:=h.nil_inv;subst e;simpa using Reps.nil
 |k+1,y::l,xs,h=>by
  obtain⟨x,r,rfl,h1,h2⟩:=h.cons_inv
  exact .cons h1 (Reps.take k h2)
theorem Reps.set (h:Reps B O H l xs) (i:Nat) (hr:Rep B O H y x):Reps B O H (l.set i y) (xs.set i x):=by
 refine⟨by simp[h.1],fun j y' x' a b=>?_⟩
 by_cases e:i=j
 ·subst e
  rw[List.getElem?_set] at a b
  simp at a b
  obtain⟨_,rfl⟩:=a
  obtain⟨_,rfl⟩:=b
  exact hr
 ·rw[List.getElem?_set_ne e] at a b
  exact h.2 j y' x' a b
theorem RepsK.keep {l:List (Key×PV)} {ks:List (Key×V)} (h:RepsK B O H l ks) (hH: ∀ p o,¬ O p→H p=some o→H' p=some o∧¬ O' p):RepsK B O' H' l ks:=⟨h.1,fun i y x a b=>(h.2 i y x a b).keep hH⟩
theorem RepsK.ext {l:List (Key×PV)} {ks:List (Key×V)} (h:RepsK B O H l ks) (hB:O B) (e:Ext B H H'):RepsK B O H' l ks:=⟨h.1,fun i y x a b=>(h.2 i y x a b).ext hB e⟩
end
structure Fam where
 K:PySem.W.Frag
 sp:Sp
 tabs:List (Addr×Str)
noncomputable def IsFz:HO→Prop
 | .frz _ (.dK _)=>False
 | .frz _ _=>True
 |_=>False
def TabAt (H:Hp) (e:Addr×Str):Prop:= ∃ ps,H e.1=some (.tbl ps)∧TriplesOk ps.toList∧∀ pos cv,codeAmong pos ps.toList=some cv→∃ c oc vs t,cv= .ref c∧H c=some (.frz oc (.own c))∧oc.data= .fields vs∧vs[1]?=some (.str e.2 t)
theorem TabAt.keep (h:TabAt H e) (k1: ∀ ps,H e.1=some (.tbl ps)→H' e.1=some (.tbl ps)) (k2: ∀ p ob u,H p=some (.frz ob (.own u))→H' p=some (.frz ob (.own u))):TabAt H' e:=by
 obtain⟨ps,h1,h2,h3⟩:=h
 refine⟨ps,k1 _ h1,h2,fun pos cv e1=>?_⟩
 obtain⟨c,oc,vs,t,rfl,g1,g2⟩:=h3 pos cv e1
 exact⟨c,oc,vs,t,rfl,k2 _ _ _ g1,g2⟩
structure Bg (φ:Fam) where
 B:Addr
 priv:Addr→Prop
 ok:Hp→Nat→Prop
 pB:priv B
 keep: ∀ H H' n,(∀ p o,(priv p∨IsFz o)→H p=some o→H' p=some o)→ok H n→ok H' n
 tp: ∀ e∈φ.tabs,priv e.1
 tab: ∀ H n,ok H n→∀ e∈φ.tabs,TabAt H e
 tset: ∀ H H' n,ok H n→(∀ e∈φ.tabs,TabAt H' e)→(∀ p o,p∉φ.tabs.map (·.1)→H p=some o→H' p=some o)→ok H' n
 dom: ∀ H n p,ok H n→priv p→∃ o,H p=some o
 dr: ∀ (H:Hp) (n:Nat) (m:Int) (Q:VK) (E:XK),ok H (n+1)→0 < m→m < 1073741824→(∀ (d:Int) (H':Hp),0≤d→d < m→Ext B H H'→ok H' n→Q (.int d) H')→φ.sp [.ref B,.int m] H Q E
variable {φ:Fam}
set_option genInjectivity true in
inductive Ent where
 |un|val (y:PV)|own (l:List PV)|ownD (kvs:List (Key×PV))
abbrev PEnv:=List Ent
noncomputable def EntRep (G:Bg φ) (O:Addr→Prop) (H:Hp):Ent→Option V→Prop
 | .un,_=>True
 | .val y,o=> ∃ x,o=some x∧Rep G.B O H y x
 | .own l,o=> ∃ p xs,o=some (.ref p)∧O p∧¬ G.priv p∧H p=some (.lst xs)∧Reps G.B O H l xs
 | .ownD l,o=> ∃ p ks,o=some (.ref p)∧O p∧¬ G.priv p∧H p=some (.dK ks)∧RepsK G.B O H l ks
def EnvRep (G:Bg φ) (O:Addr→Prop) (H:Hp) (σ:St) (ρ:PEnv):Prop:=σ.length=ρ.length∧∀ (i:Nat) (e:Ent),ρ[i]?=some e→EntRep G O H e ((σ[i]?).getD none)
structure ES (G:Bg φ) (O:Addr→Prop) (H:Hp) (σ:St) (ρ:PEnv) (n:Nat):Prop where
 er:EnvRep G O H σ ρ
 ok:G.ok H n
 pr: ∀ p,G.priv p→O p
 dm: ∀ p,O p→∃ o,H p=some o
theorem ES.B (s:ES G O H σ ρ n):O G.B:=s.pr _ G.pB
theorem EntRep.ext (h:EntRep G O H e o) (hB:O G.B) (x:Ext G.B H H'):EntRep G O H' e o:=by
 cases e with
 |un=>trivial
 |val y=>obtain⟨v,e,r⟩:=h;exact⟨v,e,r.ext hB x⟩
 |own l=>obtain⟨p,xs,e,hp,np,hl,r⟩:=h;exact⟨p,xs,e,hp,np,x p _ (fun z=>np (z▸G.pB)) hl,r.ext hB x⟩
 |ownD l=>obtain⟨p,xs,e,hp,np,hl,r⟩:=h;exact⟨p,xs,e,hp,np,x p _ (fun z=>np (z▸G.pB)) hl,r.ext hB x⟩
theorem ES.ext (s:ES G O H σ ρ n) (x:Ext G.B H H') (ok:G.ok H' n'):ES G O H' σ ρ n' where
 er:=⟨s.er.1,fun i e h=>(s.er.2 i e h).ext s.B x⟩
 ok:=ok
 pr:=s.pr
 dm:=fun p h=>by
  by_cases e:p=G.B
  ·subst e;exact G.dom _ _ _ ok G.pB
  ·obtain⟨o,q⟩:=s.dm p h;exact(x p o e q).there
theorem Bg.new {G:Bg φ} (ok:G.ok H n) (h:H p=none) (o:HO):G.ok (upd H p o) n:=G.keep _ _ _ (fun q u _ e=>by rw[upd_ne (ne_of_none e h)];exact e) ok
def Wish (G:Bg φ) (O:Addr→Prop) (H:Hp) (R:PV→Nat→Prop) (Q:VK):Prop:= ∀ (y:PV) (x:V) (H':Hp) (n':Nat),Ext G.B H H'→G.ok H' n'→Rep G.B O H' y x→R y n'→Q x H'
noncomputable def teP (φ:Fam) (m:PEnv→M PV):TE:=fun σ H Q=> ∃ (G:Bg φ) (O:Addr→Prop) (ρ:PEnv) (n:Nat) (R:PV→Nat→Prop),ES G O H σ ρ n∧(m ρ).wp n R∧Wish G O H R Q
def EV (φ:Fam) (X:Cx) (e:Expr) (m:PEnv→M PV):Prop:=BE X e (teP φ m)
theorem BE.mono (h:BE X e t) (f: ∀ σ H Q,t' σ H Q→t σ H Q):BE X e t':=⟨fun pZ s σ H Q I q=>h.out pZ s σ H Q I (f σ H Q q)⟩
inductive RepB (G:Bg φ) (O:Addr→Prop) (H:Hp):PV→V→Prop where
 |full {y:PV} {x:V} (h:Rep G.B O H y x):RepB G O H y x
 |top {p:Addr} {xs:List V} {l:List PV} (np: ¬ G.priv p) (h:H p=some (.lst xs)) (r:Reps G.B O H l xs):RepB G O H (.lst l) (.ref p)
 |topD {p:Addr} {ks:List (Key×V)} {l:List (Key×PV)} (np: ¬ G.priv p) (h:H p=some (.dK ks)) (r:RepsK G.B O H l ks):RepB G O H (.dct l) (.ref p)
theorem RepB.ext (h:RepB G O H y x) (hB:O G.B) (e:Ext G.B H H'):RepB G O H' y x:=by
 cases h with
 |full h=>exact .full (h.ext hB e)
 | @top p xs l np h r=>exact .top np (e p (.lst xs) (fun z=>np (z▸G.pB)) h) (r.ext hB e)
 | @topD p ks l np h r=>exact .topD np (e p (.dK ks) (fun z=>np (z▸G.pB)) h) (r.ext hB e)
def WishB (G:Bg φ) (O:Addr→Prop) (H:Hp) (R:PV→Nat→Prop) (Q:VK):Prop:= ∀ (y:PV) (x:V) (H':Hp) (n':Nat),Ext G.B H H'→G.ok H' n'→RepB G O H' y x→R y n'→Q x H'
noncomputable def teB (φ:Fam) (m:PEnv→M PV):TE:=fun σ H Q=> ∃ (G:Bg φ) (O:Addr→Prop) (ρ:PEnv) (n:Nat) (R:PV→Nat→Prop),ES G O H σ ρ n∧(m ρ).wp n R∧WishB G O H R Q
def EB (φ:Fam) (X:Cx) (e:Expr) (m:PEnv→M PV):Prop:=BE X e (teB φ m)
theorem EV.b (h:EV φ X e m):EB φ X e m:=BE.mono h fun σ H Q ⟨G,O,ρ,n,R,s,w,q⟩=>⟨G,O,ρ,n,R,s,w,fun y x H' n' a b c d=>q y x H' n' a b (.full c) d⟩
def WishT (G:Bg φ) (H:Hp) (R:Bool→Nat→Prop) (Q:Bool→Hp→Prop):Prop:= ∀ (b:Bool) (H':Hp) (n':Nat),Ext G.B H H'→G.ok H' n'→R b n'→Q b H'
noncomputable def ttP (φ:Fam) (m:PEnv→M Bool):TT:=fun σ H Q=> ∃ (G:Bg φ) (O:Addr→Prop) (ρ:PEnv) (n:Nat) (R:Bool→Nat→Prop),ES G O H σ ρ n∧(m ρ).wp n R∧WishT G H R Q
def TV (φ:Fam) (X:Cx) (e:Expr) (m:PEnv→M Bool):Prop:=BT X e (ttP φ m)
def WV (φ:Fam) (X:Cx) (e:Expr) (m:PEnv→M Bool):Prop:=BW X e (ttP φ m)
def WishA (G:Bg φ) (O:Addr→Prop) (H:Hp) (R:List PV→Nat→Prop) (Q:List V→Hp→Prop):Prop:= ∀ (l:List PV) (xs:List V) (H':Hp) (n':Nat),Ext G.B H H'→G.ok H' n'→Reps G.B O H' l xs→R l n'→Q xs H'
noncomputable def taP (φ:Fam) (m:PEnv→M (List PV)):TA:=fun σ H Q=> ∃ (G:Bg φ) (O:Addr→Prop) (ρ:PEnv) (n:Nat) (R:List PV→Nat→Prop),ES G O H σ ρ n∧(m ρ).wp n R∧WishA G O H R Q
def AV (φ:Fam) (X:Cx) (es:List Expr) (m:PEnv→M (List PV)):Prop:=BA X es (taP φ m)
def RepBs (G:Bg φ) (O:Addr→Prop) (H:Hp) (l:List PV) (xs:List V):Prop:=l.length=xs.length∧∀ (i:Nat) (y:PV) (x:V),l[i]?=some y→xs[i]?=some x→RepB G O H y x
def WishAB (G:Bg φ) (O:Addr→Prop) (H:Hp) (R:List PV→Nat→Prop) (Q:List V→Hp→Prop):Prop:= ∀ (l:List PV) (xs:List V) (H':Hp) (n':Nat),Ext G.B H H'→G.ok H' n'→RepBs G O H' l xs→R l n'→Q xs H'
noncomputable def taB (φ:Fam) (m:PEnv→M (List PV)):TA:=fun σ H Q=> ∃ (G:Bg φ) (O:Addr→Prop) (ρ:PEnv) (n:Nat) (R:List PV→Nat→Prop),ES G O H σ ρ n∧(m ρ).wp n R∧WishAB G O H R Q
def AB (φ:Fam) (X:Cx) (es:List Expr) (m:PEnv→M (List PV)):Prop:=BA X es (taB φ m)
def WishF (G:Bg φ) (O:Addr→Prop) (H:Hp) (R:List PV→Nat→Prop) (Q:VK):Prop:= ∀ (l:List PV) (p:Addr) (xs:List V) (H':Hp) (n':Nat),Ext G.B H H'→G.ok H' n'→H p=none→H' p=some (.lst xs)→Reps G.B (fun q=>O q∨q=p) H' l xs→R l n'→Q (.ref p) H'
noncomputable def teF (φ:Fam) (m:PEnv→M (List PV)):TE:=fun σ H Q=> ∃ (G:Bg φ) (O:Addr→Prop) (ρ:PEnv) (n:Nat) (R:List PV→Nat→Prop),ES G O H σ ρ n∧(m ρ).wp n R∧WishF G O H R Q
def EF (φ:Fam) (X:Cx) (e:Expr) (m:PEnv→M (List PV)):Prop:=BE X e (teF φ m)
theorem EF.v (h:EF φ X e m):EV φ X e (fun ρ=>(m ρ).bind fun l=>.ret (.lst l)):=BE.mono h fun σ H Q hq0=>by
 obtain⟨G,O,ρ,n,R,s,w,q⟩:=hq0
 rw[M.wZ] at w
 refine⟨G,O,ρ,n,_,s,w,fun l p xs H' n' a b c d e f=>q (.lst l) _ H' n' a b (.lst (fun z=>?_) d e.1 (e.less fun q z=>.inl z).2) f⟩
 obtain⟨o,g⟩:=s.dm p z
 rw[c] at g;cases g
end
open Ent (val un)
section
variable {φ:Fam}
theorem big_le:100000≤sizeLine:=by rw[sizeLine_eq];decide
section
variable {G:Bg φ} {O:Addr→Prop} {H:Hp} {n:Nat} {R:PV→Nat→Prop} {Q:VK} {x x':V}
theorem Wish.sc (w:Wish G O H R Q) (ok:G.ok H n) (r:Rep G.B O H y x) (h:R y n):Q x H:=w y x H n (Ext.refl _ _) ok r h
theorem Wish.tup (w:Wish G O H R Q) (ok:G.ok H n) (dm: ∀ p,O p→∃ o,H p=some o) {p:Addr} (hp:H p=none) {l:List PV} {xs:List V} (hB:O G.B) (r:Reps G.B O H l xs) (h:R (.tup l) n):Q (.ref p) (upd H p (.tup xs)):=by
 have e:=Ext.new (B:=G.B) hp (.tup xs)
 refine w (.tup l) _ _ n e (Bg.new ok hp _) (.tup (fun z=>?_) upd_same r.1 (r.ext hB e).2) h
 obtain⟨o,g⟩:=dm p z
 rw[hp] at g;cases g
theorem Wish.lst (w:Wish G O H R Q) (ok:G.ok H n) (dm: ∀ p,O p→∃ o,H p=some o) {p:Addr} (hp:H p=none) {l:List PV} {xs:List V} (hB:O G.B) (r:Reps G.B O H l xs) (h:R (.lst l) n):Q (.ref p) (upd H p (.lst xs)):=by
 have e:=Ext.new (B:=G.B) hp (.lst xs)
 refine w (.lst l) _ _ n e (Bg.new ok hp _) (.lst (fun z=>?_) upd_same r.1 (r.ext hB e).2) h
 obtain⟨o,g⟩:=dm p z
 rw[hp] at g;cases g
theorem rd_inj (h:Rd H p (.dK a)) (g:Rd H p (.dK b)):a=b:=by
 rcases h with h|⟨o,h⟩<;>rcases g with g|⟨o',g⟩<;>(rw[h] at g;cases g)<;>rfl
theorem RepB.non_i (h:RepB G O H .non x):x= .non:=by cases h with|full h=>cases h;rfl
theorem RepB.bl_i (h:RepB G O H (.bl b) x):x= .bl b:=by cases h with|full h=>cases h;rfl
theorem RepB.int_i (h:RepB G O H (.int i) x):x= .int i:=by cases h with|full h=>cases h;rfl
theorem RepB.str_i (h:RepB G O H (.str z) x):x= .str z:=by cases h with|full h=>cases h;rfl
theorem RepB.tup_i (h:RepB G O H (.tup l) x): ∃ p xs,x= .ref p∧H p=some (.tup xs)∧Reps G.B O H l xs:=by cases h with|full h=>cases h with|tup a b c d=>exact⟨_,_,rfl,b,c,d⟩
theorem RepB.lst_i (h:RepB G O H (.lst l) x): ∃ p xs,x= .ref p∧H p=some (.lst xs)∧Reps G.B O H l xs:=by
 cases h with
 |full h=>cases h with|lst a b c d=>exact⟨_,_,rfl,b,c,d⟩
 |top a b c=>exact⟨_,_,rfl,b,c⟩
theorem RepB.dct_i (h:RepB G O H (.dct l) x): ∃ p ks,x= .ref p∧Rd H p (.dK ks)∧RepsK G.B O H l ks:=by
 cases h with
 |full h=>cases h with|dct a b c d=>exact⟨_,_,rfl,b,c,d⟩
 |topD a b c=>exact⟨_,_,rfl,.inl b,c⟩
theorem RepB.scr_i (h:RepB G O H (.scr ns) x): ∃ p o,x= .ref p∧H p=some (.frz o (.lst (ns.map V.int))):=by cases h with|full h=>cases h with|scr a b=>obtain⟨o,b⟩:=b;exact⟨_,o,rfl,b⟩
theorem RepB.low (h:RepB G O H y x) (pr: ∀ p,G.priv p→O p):Rep G.B G.priv H y x:=by
 cases h with
 |full h=>exact h.less pr
 |top np h r=>exact .lst np h r.1 (r.less pr).2
 |topD np h r=>exact .dct np (.inl h) r.1 fun i y x a b=>(r.2 i y x a b).less pr
end
noncomputable def getV (ρ:PEnv) (i:Nat):M PV:=match ρ[i]? with|some (.val y)=>.ret y|_=>.fail
noncomputable def getB (ρ:PEnv) (i:Nat):M PV:=match ρ[i]? with|some (.val y)=>.ret y|some (.own l)=>.ret (.lst l)|some (.ownD l)=>.ret (.dct l)|_=>.fail
section
variable {X:Cx} {a b c:Expr} {pos:Pos} {ma mb mc:PEnv→M PV}
theorem ev_of (h:BE X e (tC v)) (r: ∀ B O H,Rep B O H y v):EV φ X e (fun _=>.ret y):=BE.mono h fun σ H Q ⟨G,O,ρ,n,R,s,w,q⟩=>q.sc s.ok (r _ _ _) w
theorem ev_int:EV φ X (.Constant (.int i) j pos) (fun _=>.ret (.int i)):=ev_of ⟨pe_int⟩ fun _ _ _=>.int i
theorem ev_bl:EV φ X (.Constant (.bool i) j pos) (fun _=>.ret (.bl i)):=ev_of ⟨pe_bl⟩ fun _ _ _=>.bl i
theorem ev_non:EV φ X (.Constant .none j pos) (fun _=>.ret .non):=ev_of ⟨pe_non⟩ fun _ _ _=>.non
theorem ev_str:EV φ X (.Constant (.str x) j pos) (fun _=>.ret (.str x)):=ev_of ⟨pe_str⟩ fun _ _ _=>.str x
theorem sig_of {i:Nat} (h:EnvRep G O H σ ρ) (he:ρ[i]?=some e) (hx:(σ[i]?).getD none=some x):σ[i]?=some (some x):=by
 cases q:σ[i]? with
 |none=>rw[q] at hx;cases hx
 |some o=>rw[q] at hx;cases o with
  |none=>cases hx
  |some z=>simp at hx;rw[hx]
theorem ev_name (i:Nat) (h:BE X (.Name x pos) (tVar i)):EV φ X (.Name x pos) (fun ρ=>getV ρ i):=BE.mono h fun σ H Q hq0=>by
 obtain⟨G,O,ρ,n,R,s,w,q⟩:=hq0
 replace w:(getV ρ i).wp n R:=w
 unfold getV at w
 cases e:ρ[i]? with
 |none=>rw[e] at w;exact w.elim
 |some t=>
  rw[e] at w
  cases t with
  |val y=>
   obtain⟨x,hx,r⟩:=s.er.2 i _ e
   exact⟨x,sig_of s.er e hx,q.sc s.ok r w⟩
  |_=>exact w.elim
theorem eb_name (i:Nat) (h:BE X (.Name x pos) (tVar i)):EB φ X (.Name x pos) (fun ρ=>getB ρ i):=BE.mono h fun σ H Q hq0=>by
 obtain⟨G,O,ρ,n,R,s,w,q⟩:=hq0
 replace w:(getB ρ i).wp n R:=w
 unfold getB at w
 cases e:ρ[i]? with
 |none=>rw[e] at w;exact w.elim
 |some t=>
  rw[e] at w
  cases t with
  |val y=>
   obtain⟨x,hx,r⟩:=s.er.2 i _ e
   exact⟨x,sig_of s.er e hx,q _ _ _ _ (Ext.refl _ _) s.ok (.full r) w⟩
  |own l=>
   obtain⟨p,xs,hx,_,np,hl,r⟩:=s.er.2 i _ e
   exact⟨_,sig_of s.er e hx,q _ _ _ _ (Ext.refl _ _) s.ok (.top np hl r) w⟩
  |ownD l=>
   obtain⟨p,xs,hx,_,np,hl,r⟩:=s.er.2 i _ e
   exact⟨_,sig_of s.er e hx,q _ _ _ _ (Ext.refl _ _) s.ok (.topD np hl r) w⟩
  |un=>exact w.elim
def OpV (r:R2) (op:PV→PV→M PV):Prop:= ∀ (φ:Fam) (G:Bg φ) (O:Addr→Prop) (H:Hp) (n:Nat) (R:PV→Nat→Prop) (Q:VK) (y y':PV) (x x':V),
 (∀ p,G.priv p→O p)→(∀ p,O p→∃ o,H p=some o)→G.ok H n→RepB G O H y x→RepB G O H y' x'→(op y y').wp n R→Wish G O H R Q→r x x' H Q
noncomputable def bin2 (op:PV→PV→M PV) (ma mb:PEnv→M PV):PEnv→M PV:=fun ρ=>(ma ρ).bind fun x=>(mb ρ).bind fun y=>op x y
theorem two (hv:OpV r op): ∀ σ H Q,teP φ (bin2 op ma mb) σ H Q→tOp r (teB φ ma) (teB φ mb) σ H Q:=fun σ H Q hq0=>by
 obtain⟨G,O,ρ,n,R,s,w,q⟩:=hq0
 unfold bin2 at w
 rw[M.wZ] at w
 refine⟨G,O,ρ,n,_,s,w,fun y x H1 n1 e1 ok1 r1 w1=>?_⟩
 rw[M.wZ] at w1
 refine⟨G,O,ρ,n1,_,s.ext e1 ok1,w1,fun y' x' H2 n2 e2 ok2 r2 w2=>?_⟩
 exact hv φ G O H2 n2 R Q y y' x x' s.pr (s.ext (e1.trans e2) ok2).dm ok2 (r1.ext s.B e2) r2 w2 fun y x H' n' e o r h=>q y x H' n' (e1.trans (e2.trans e)) o r h
theorem ev_bin (ho:OpR X (binaryOp o) r) (hv:OpV r op) (ha:EB φ X a ma) (hb:EB φ X b mb):EV φ X (.BinOp a o b pos) (bin2 op ma mb):=
 BE.mono ⟨pe_op ho ha.out hb.out⟩ (two hv)
theorem ev_cmp (ho:OpR X (compareOp o) r) (hv:OpV r op) (ha:EB φ X a ma) (hb:EB φ X b mb) (hm:behindInMarks o b=false):EV φ X (.Compare a [o] [b] pos) (bin2 op ma mb):=
 BE.mono ⟨pe_cmpR ho ha.out hb.out hm⟩ (two hv)
theorem ev_ix (hr:IxR X r) (hv:OpV r op) (ha:EB φ X a ma) (hb:EB φ X b mb) (hs:PlainIx b):EV φ X (.Subscript a b pos) (bin2 op ma mb):=
 BE.mono ⟨pe_ix hr ha.out hb.out hs⟩ (two hv)
noncomputable def asB (m:PEnv→M PV):PEnv→M Bool:=fun ρ=>(m ρ).bind fun y=>match y with| .bl b=>.ret b|_=>.fail
theorem asB_in {t:TE} (f: ∀ σ H Q,teP φ m σ H Q→t σ H Q): ∀ σ H Q,ttP φ (asB m) σ H Q→t σ H (fun x H1=> ∃ k,x= .bl k∧Q k H1):=fun σ H Q hq0=>by
 obtain⟨G,O,ρ,n,R,s,w,q⟩:=hq0
 unfold asB at w
 rw[M.wZ] at w
 refine f σ H _ ⟨G,O,ρ,n,_,s,w,fun y x H1 n1 e1 ok1 r1 w1=>?_⟩
 cases y with
 |bl k=>cases r1;exact⟨k,rfl,q k H1 n1 e1 ok1 w1⟩
 |_=>exact w1.elim
theorem BT.mono (h:BT X e t) (f: ∀ σ H Q,t' σ H Q→t σ H Q):BT X e t':=⟨fun pZ s σ H Q I q=>h.out pZ s σ H Q I (f σ H Q q)⟩
theorem BW.mono (h:BW X e t) (f: ∀ σ H Q,t' σ H Q→t σ H Q):BW X e t':=⟨fun w pZ s σ H Q I q=>h.out w pZ s σ H Q I (f σ H Q q)⟩
theorem tv_cmp (ho:OpR X (compareOp o) r) (hv:OpV r op) (ha:EB φ X a ma) (hb:EB φ X b mb) (hm:behindInMarks o b=false):TV φ X (.Compare a [o] [b] pos) (asB (bin2 op ma mb)):=
 BT.mono ⟨pt_cmpR ho ha.out hb.out hm⟩ (asB_in (two hv))
theorem tv_val (h:EV φ X e m) (he: ∀ whole,isTrue e X.env whole=(do let v ←whole;standAt e.pos;holding [v] (truthy v)):=by intro _;rfl):TV φ X e (asB m):=
 BT.mono ⟨pt_val h.out he⟩ (asB_in fun _ _ _ h=>h)
noncomputable def notP (m:PEnv→M Bool):PEnv→M Bool:=fun ρ=>(m ρ).bind fun b=>.ret (!b)
theorem tv_not (h:TV φ X a m):TV φ X (.UnaryOp .Not a pos) (notP m):=BT.mono ⟨pt_not h.out⟩ fun σ H Q hq0=>by
 obtain⟨G,O,ρ,n,R,s,w,q⟩:=hq0
 unfold notP at w
 rw[M.wZ] at w
 exact⟨G,O,ρ,n,_,s,w,fun b H1 n1 e1 ok1 w1=>q (!b) H1 n1 e1 ok1 w1⟩
noncomputable def andP (ma mb:PEnv→M Bool):PEnv→M Bool:=fun ρ=>(ma ρ).bind fun b=>if b=true then mb ρ else .ret false
noncomputable def orP (ma mb:PEnv→M Bool):PEnv→M Bool:=fun ρ=>(ma ρ).bind fun b=>if b=true then .ret true else mb ρ
theorem WV.t (h:WV φ X e m):TV φ X e m:=⟨PW.pt h.out⟩
theorem wv_and1 (h:TV φ X a m):WV φ X (.BoolOp .And [a] pos) m:=⟨pw_and1 h.out⟩
theorem wv_or1 (h:TV φ X a m):WV φ X (.BoolOp .Or [a] pos) m:=⟨pw_or1 h.out⟩
theorem wv_and {rest:List Expr} (h:TV φ X a m) (h':WV φ X (.BoolOp .And (b::rest) pos) m'):WV φ X (.BoolOp .And (a::b::rest) pos) (andP m m'):=BW.mono ⟨pw_and h.out h'.out⟩ fun σ H Q hq0=>by
 obtain⟨G,O,ρ,n,R,s,w,q⟩:=hq0
 unfold andP at w
 rw[M.wZ] at w
 refine⟨G,O,ρ,n,_,s,w,fun b H1 n1 e1 ok1 w1=>?_⟩
 cases b with
 |true=>exact⟨G,O,ρ,n1,R,s.ext e1 ok1,w1,fun b H' n' e o h=>q b H' n' (e1.trans e) o h⟩
 |false=>exact q false H1 n1 e1 ok1 w1
theorem wv_or {rest:List Expr} (h:TV φ X a m) (h':WV φ X (.BoolOp .Or (b::rest) pos) m'):WV φ X (.BoolOp .Or (a::b::rest) pos) (orP m m'):=BW.mono ⟨pw_or h.out h'.out⟩ fun σ H Q hq0=>by
 obtain⟨G,O,ρ,n,R,s,w,q⟩:=hq0
 unfold orP at w
 rw[M.wZ] at w
 refine⟨G,O,ρ,n,_,s,w,fun b H1 n1 e1 ok1 w1=>?_⟩
 cases b with
 |true=>exact q true H1 n1 e1 ok1 w1
 |false=>exact⟨G,O,ρ,n1,R,s.ext e1 ok1,w1,fun b H' n' e o h=>q b H' n' (e1.trans e) o h⟩
noncomputable def andV (ma mb:PEnv→M PV):PEnv→M PV:=fun ρ=>(asB ma ρ).bind fun b=>if b=true then mb ρ else .ret (.bl false)
theorem as_cut {m:PEnv→M PV} {f:Bool→M PV} {σ:St} {H:Hp} {Q:VK} {G:Bg φ} {O:Addr→Prop} {ρ:PEnv} {n:Nat} {R:PV→Nat→Prop} {T:V→Hp→Prop} (s:ES G O H σ ρ n) (w:((asB m ρ).bind f).wp n R)
  (k: ∀ (b:Bool) (H1:Hp) (n1:Nat),Ext G.B H H1→G.ok H1 n1→(f b).wp n1 R→T (.bl b) H1):teP φ m σ H T:=by
 rw[M.wZ] at w
 unfold asB at w
 rw[M.wZ] at w
 refine⟨G,O,ρ,n,_,s,w,fun y x H1 n1 e1 ok1 r1 w1=>?_⟩
 cases y with
 |bl b=>cases r1;exact k b H1 n1 e1 ok1 w1
 |_=>exact w1.elim
theorem ev_one (ha:EV φ X a ma):EV φ X (.BoolOp op [a] pos) ma:=⟨pe_one ha.out⟩
theorem ev_and {rest:List Expr} (ha:EV φ X a ma) (hb:EV φ X (.BoolOp .And (b::rest) pos) mb):EV φ X (.BoolOp .And (a::b::rest) pos) (andV ma mb):=BE.mono ⟨pe_and ha.out hb.out⟩ fun σ H Q ⟨G,O,ρ,n,R,s,w,q⟩=>
 as_cut (Q:=Q) s w fun b H1 n1 e1 ok1 w1=>⟨b,rfl,by
  cases b with
  |true=>exact⟨G,O,ρ,n1,R,s.ext e1 ok1,w1,fun y x H' n' e o r h=>q y x H' n' (e1.trans e) o r h⟩
  |false=>exact q _ _ _ _ e1 ok1 (.bl _) w1⟩
noncomputable def ifV (mc:PEnv→M Bool) (ma mb:PEnv→M PV):PEnv→M PV:=fun ρ=>(mc ρ).bind fun b=>if b=true then ma ρ else mb ρ
theorem ev_if (hc:TV φ X c t) (ha:EV φ X a ma) (hb:EV φ X b mb):EV φ X (.IfExp c a b pos) (ifV t ma mb):=BE.mono ⟨pe_ifExp hc.out ha.out hb.out⟩ fun σ H Q hq0=>by
 obtain⟨G,O,ρ,n,R,s,w,q⟩:=hq0
 unfold ifV at w
 rw[M.wZ] at w
 refine⟨G,O,ρ,n,_,s,w,fun b H1 n1 e1 ok1 w1=>?_⟩
 cases b with
 |true=>exact⟨G,O,ρ,n1,R,s.ext e1 ok1,w1,fun y x H' n' e o r h=>q y x H' n' (e1.trans e) o r h⟩
 |false=>exact⟨G,O,ρ,n1,R,s.ext e1 ok1,w1,fun y x H' n' e o r h=>q y x H' n' (e1.trans e) o r h⟩
end
end
section
variable {φ:Fam}
noncomputable def toV:PV→V
 | .non=>.non
 | .bl b=>.bl b
 | .int i=>.int i
 | .str x=>.str x
 |_=>.ty ""
def flatP (y:PV):Bool:=flatV (toV y)
theorem flat_rep (h:Rep B O H y x) (f:flatP y=true):x=toV y:=by
 cases h<;>first|rfl|(exact absurd f (by decide))|(simp[flatP,toV,flatV] at f)
theorem flat_repB (h:RepB G O H y x) (f:flatP y=true):x=toV y:=by
 cases h with
 |full h=>exact flat_rep h f
 |_=>simp[flatP,toV,flatV] at f
noncomputable def eqs (f:PV→PV→Option Bool):List PV→List PV→Option Bool
 |[],[]=>some true
 |[],_::_=>some false
 |_::_,[]=>some false
 |a::r,b::t=>(f a b).bind fun x=>(eqs f r t).bind fun y=>some (x&&y)
noncomputable def eqP:Nat→PV→PV→Option Bool
 |k+1,.lst a,.lst b=>eqs (eqP k) a b
 |k+1,.tup a,.tup b=>eqs (eqP k) a b
 |_+1,.lst _,.tup _=>some false
 |_+1,.tup _,.lst _=>some false
 |_+1,.lst _,y=>if flatP y then some false else none
 |_+1,.tup _,y=>if flatP y then some false else none
 |_+1,y,.lst _=>if flatP y then some false else none
 |_+1,y,.tup _=>if flatP y then some false else none
 |_,y,z=>if flatP y&&flatP z then some (eqV (toV y) (toV z)) else none
theorem eqs_at: ∀ {a b:List PV} {c:Bool},eqs f a b=some c→∃ e:Nat→Bool,(∀ j y z,a[j]?=some y→b[j]?=some z→f y z=some (e j))∧c=((List.range (min a.length b.length)).all e&&a.length==b.length)
 |[],[],c,h=>⟨fun _=>true,fun j y z e=>by simp at e,by simp[eqs] at h;simp[h]⟩
 |[],_::_,c,h=>⟨fun _=>true,fun j y z e=>by simp at e,by simp[eqs] at h;simp[h]⟩
 |_::_,[],c,h=>⟨fun _=>true,fun j y z _ e=>by simp at e,by simp[eqs] at h;simp[h]⟩
 |y::r,z::t,c,h=>by
  simp only[eqs] at h
  cases h1:f y z with
  |none=>rw[h1] at h;simp at h
  |some x=>
   rw[h1] at h
   simp only[Option.bind_some] at h
   cases h2:eqs f r t with
   |none=>rw[h2] at h;simp at h
   |some w=>
    rw[h2] at h
    simp only[Option.bind_some,Option.some.injEq] at h
    obtain⟨e,he,hw⟩:=eqs_at h2
    refine⟨fun j=>match j with|0=>x|j+1=>e j,fun j y' z' a b=>?_,?_⟩
    ·cases j with
     |zero=>simp at a b;subst a b;exact h1
     |succ j=>simp at a b;exact he j y' z' a b
    ·have e0:min (y::r).length (z::t).length=min r.length t.length+1:=by simp only[List.length_cons];lia
     rw[e0,List.range_succ_eq_map,List.all_cons,List.all_map,←h,hw]
     simp only[List.length_cons,Function.comp_def,Bool.and_assoc]
     congr 2
     rw[Bool.eq_iff_iff];simp
theorem ext_rel {α β:Type} {l l':List α} {xs:List β} (h1:l.length=xs.length) (h2:l'.length=xs.length) (hh: ∀ (i:Nat) (y y':α) (x:β),l[i]?=some y→l'[i]?=some y'→xs[i]?=some x→y=y'):l=l':=by
 apply List.ext_getElem (h1.trans h2.symm)
 intro i a b
 exact hh i _ _ _ (List.getElem?_eq_getElem a) (List.getElem?_eq_getElem b) (List.getElem?_eq_getElem (h1▸a))
theorem int_inj: ∀ {a b:List Int},a.map V.int=b.map V.int→a=b
 |[],[],_=>rfl
 |[],_::_,h=>by simp at h
 |_::_,[],h=>by simp at h
 |x::a,y::b,h=>by
  simp only[List.map_cons,List.cons.injEq,V.int.injEq] at h
  rw[h.1,int_inj h.2]
theorem Rep.uniq {O:Addr→Prop} (hB:O B) (h:Rep B O H y x): ∀ {y':PV},Rep B O H y' x→y=y':=by
 induction h with
 |non=>intro y' h;cases h;rfl
 |bl b=>intro y' h;cases h;rfl
 |int i=>intro y' h;cases h;rfl
 |str x=>intro y' h;cases h;rfl
 |tup hO h hl hr ih=>
  intro y' g
  cases g with
  |tup gO g gl gr=>
   rw[h] at g;cases g
   congr 1
   exact ext_rel hl gl fun i y y' x a b c=>ih i y x a c (gr i y' x b c)
  |lst gO g gl gr=>rw[h] at g;cases g
  |dct gO g gl gr=>rcases g with g|⟨o',g⟩<;>(rw[h] at g;cases g)
  |scr gO g=>obtain⟨o,g⟩:=g;rw[h] at g;cases g
  |bag=>exact absurd hB hO
 |lst hO h hl hr ih=>
  intro y' g
  cases g with
  |lst gO g gl gr=>
   rw[h] at g;cases g
   congr 1
   exact ext_rel hl gl fun i y y' x a b c=>ih i y x a c (gr i y' x b c)
  |tup gO g gl gr=>rw[h] at g;cases g
  |dct gO g gl gr=>rcases g with g|⟨o',g⟩<;>(rw[h] at g;cases g)
  |scr gO g=>obtain⟨o,g⟩:=g;rw[h] at g;cases g
  |bag=>exact absurd hB hO
 |dct hO h hl hr ih=>
  intro y' g
  cases g with
  |dct gO g gl gr=>
   obtain rfl:=rd_inj h g
   congr 1
   refine ext_rel (by simpa using congrArg List.length hl) (by simpa using congrArg List.length gl) fun i y y' x a b c=>?_
   have k1:y.1=x.1:=by
    have:=congrArg (·[i]?) hl
    simp only[List.getElem?_map,a,c] at this
    simpa using this
   have k2:y'.1=x.1:=by
    have:=congrArg (·[i]?) gl
    simp only[List.getElem?_map,b,c] at this
    simpa using this
   exact Prod.ext (k1.trans k2.symm) (ih i y x a c (gr i y' x b c))
  |tup gO g gl gr=>rcases h with h|⟨o',h⟩<;>(rw[h] at g;cases g)
  |lst gO g gl gr=>rcases h with h|⟨o',h⟩<;>(rw[h] at g;cases g)
  |scr gO g=>obtain⟨o,g⟩:=g;rcases h with h|⟨o',h⟩<;>(rw[h] at g;cases g)
  |bag=>exact absurd hB hO
 |scr hO h=>
  intro y' g
  obtain⟨o,h⟩:=h
  cases g with
  |scr gO g=>
   obtain⟨o',g⟩:=g
   rw[h] at g
   injection g with g;injection g with g1 g2;injection g2 with g2
   congr 1
   exact int_inj g2
  |tup gO g gl gr=>rw[h] at g;cases g
  |lst gO g gl gr=>rw[h] at g;cases g
  |dct gO g gl gr=>rcases g with g|⟨o',g⟩<;>(rw[h] at g;cases g)
  |bag=>exact absurd hB hO
 |bag=>
  intro y' g
  cases g with
  |bag=>rfl
  |tup gO g gl gr=>exact absurd hB gO
  |lst gO g gl gr=>exact absurd hB gO
  |dct gO g gl gr=>exact absurd hB gO
  |scr gO g=>exact absurd hB gO
theorem eqs_refl (hf: ∀ y c,f y y=some c→c=true): ∀ {a:List PV} {c:Bool},eqs f a a=some c→c=true
 |[],c,h=>by simp[eqs] at h;exact h
 |y::r,c,h=>by
  simp only[eqs] at h
  cases h1:f y y with
  |none=>rw[h1] at h;simp at h
  |some x=>
   rw[h1] at h
   simp only[Option.bind_some] at h
   cases h2:eqs f r r with
   |none=>rw[h2] at h;simp at h
   |some w=>
    rw[h2] at h
    simp only[Option.bind_some,Option.some.injEq] at h
    rw[←h,hf _ _ h1,eqs_refl hf h2];rfl
theorem eqP_flat (h1:flatP y=true) (h2:flatP z=true):eqP k y z=some (eqV (toV y) (toV z)):=by
 cases k<;>cases y<;>cases z<;>first|rfl|(simp[flatP,toV,flatV] at h1;done)|(simp[flatP,toV,flatV] at h2;done)
theorem eqP_refl: ∀ (k:Nat) (y:PV) (c:Bool),eqP k y y=some c→c=true:=by
 intro k
 induction k with
 |zero=>
  intro y c h
  cases y<;>simp[eqP,flatP,toV,flatV,eqV] at h<;>(try exact h)<;>(try exact h.symm)
 |succ k ih=>
  intro y c h
  cases y with
  |lst a=>exact eqs_refl ih h
  |tup a=>exact eqs_refl ih h
  |_=>simp[eqP,flatP,toV,flatV,eqV] at h<;>(try exact h)<;>(try exact h.symm)
section
variable {X:Cx} {pZ:List (Addr×Obj)} {σ:St} {H:Hp} {s:Shared} {B:Addr} {O:Addr→Prop}
theorem eqAt_flat (h1:flatP y=true) (h2:flatP z=true) (r1:Rep B O H y x) (r2:Rep B O H z x') (q1:RelV x u) (q2:RelV x' v):SeqAt.EqAt A s u v (eqV (toV y) (toV z)):=by
 rw[flat_rep r1 h1] at q1
 rw[flat_rep r2 h2] at q2
 exact eqAt_V q1 q2 h1 h2
theorem eq_at (I:Inv X pZ σ H s) (hB:O B): ∀ (k:Nat) (A:Around) (y z:PV) (x x':V) (u v:Value) (c:Bool),Rep B O H y x→Rep B O H z x'→RelV x u→RelV x' v→eqP k y z=some c→A.units+k < cLine→SeqAt.EqAt A s u v c:=by
 intro k
 induction k with
 |zero=>
  intro A y z x x' u v c r1 r2 q1 q2 e hu
  have f:flatP y=true∧flatP z=true:=by
   unfold eqP at e
   by_cases h:(flatP y&&flatP z)=true
   ·simpa using h
   ·cases y<;>cases z<;>simp_all [flatP,toV,flatV]
  rw[eqP_flat f.1 f.2] at e
  cases e
  exact eqAt_flat f.1 f.2 r1 r2 q1 q2
 |succ k ih=>
  intro A y z x x' u v c r1 r2 q1 q2 e hu
  have hu0:A.units < cLine:=by lia
  have hu1:A.in1.units+k < cLine:=by show A.units+1+k < cLine;lia
  by_cases f:flatP y=true∧flatP z=true
  ·rw[eqP_flat f.1 f.2] at e
   cases e
   exact eqAt_flat f.1 f.2 r1 r2 q1 q2
  cases r1 with
  | @lst p xs l hO h hl hr=>
   cases q1
   obtain⟨its,v1,p1,_⟩:=I.list (SqL.of (K:=X.K) h)
   cases r2 with
   | @lst p' xs' l' hO' h' hl' hr'=>
    cases q2
    by_cases pe:p=p'
    ·subst pe
     have e1:=Rep.uniq hB (.lst hO h hl hr) (.lst hO' h' hl' hr')
     rw[e1] at e
     rw[eqP_refl _ _ _ e]
     exact .same _
    ·obtain⟨its',v2,p2,_⟩:=I.list (SqL.of (K:=X.K) h')
     obtain⟨g,hg,hc⟩:=eqs_at e
     refine .of_refs pe ?_
     have e1:its.toArray.size=l.length:=by rw[List.size_toArray,←v1.length,hl]
     have e2:its'.toArray.size=l'.length:=by rw[List.size_toArray,←v2.length,hl']
     by_cases hs:l.length=l'.length
     ·have hh:=SeqAt.RcAt.lists (A:=A) (e:=g) p1.isList p2.isList (by rw[e1,e2,hs]) hu0 (fun j h1 h2=>?_)
      ·rw[hc,←hs,Nat.min_self,beq_self_eq_true,Bool.and_true,←e1];exact hh
      ·have j1:j < l.length:=e1▸h1
       have j2:j < l'.length:=e2▸h2
       obtain⟨u1,a1,a2⟩:=v1.get (i:=j) (x:=xs[j]) (List.getElem?_eq_getElem _)
       obtain⟨u2,b1,b2⟩:=v2.get (i:=j) (x:=xs'[j]) (List.getElem?_eq_getElem _)
       have a3:its.toArray[j]=u1:=by
        have:=(List.getElem?_eq_some_iff.mp a1).2
        simpa using this
       have b3:its'.toArray[j]=u2:=by
        have:=(List.getElem?_eq_some_iff.mp b1).2
        simpa using this
       rw[a3,b3]
       exact ih A.in1 l[j] l'[j] _ _ _ _ _ (hr j _ _ (List.getElem?_eq_getElem j1) (List.getElem?_eq_getElem _)) (hr' j _ _ (List.getElem?_eq_getElem j2) (List.getElem?_eq_getElem _)) a2 b2 (hg j _ _ (List.getElem?_eq_getElem j1) (List.getElem?_eq_getElem j2)) hu1
     ·have:c=false:=by rw[hc];simp[hs]
      rw[this]
      exact SeqAt.RcAt.lists_lengths p1.isList p2.isList (by rw[e1,e2];simpa using hs) hu0
   | @tup p' xs' l' hO' h' hl' hr'=>
    cases q2
    obtain⟨its',v2,p2,_⟩:=I.tuple (SqT.of (K:=X.K) h')
    cases e
    exact .list_tuple p1.isList p2 hu0
   |non=>cases q2;cases e;exact .list_none p1.isList hu0
   |bl b=>cases q2;cases e;exact .list_bool b p1.isList hu0
   |int b=>obtain⟨t,rfl⟩:=q2;cases e;exact .list_int b t p1.isList hu0
   |str b=>obtain⟨t,rfl⟩:=q2;cases e;exact .list_str b t p1.isList hu0
   |_=>cases e
  | @tup p xs l hO h hl hr=>
   cases q1
   obtain⟨its,v1,p1,_⟩:=I.tuple (SqT.of (K:=X.K) h)
   cases r2 with
   | @tup p' xs' l' hO' h' hl' hr'=>
    cases q2
    by_cases pe:p=p'
    ·subst pe
     have e1:=Rep.uniq hB (.tup hO h hl hr) (.tup hO' h' hl' hr')
     rw[e1] at e
     rw[eqP_refl _ _ _ e]
     exact .same _
    ·obtain⟨its',v2,p2,_⟩:=I.tuple (SqT.of (K:=X.K) h')
     obtain⟨g,hg,hc⟩:=eqs_at e
     refine .of_refs pe ?_
     have e1:its.toArray.size=l.length:=by rw[List.size_toArray,←v1.length,hl]
     have e2:its'.toArray.size=l'.length:=by rw[List.size_toArray,←v2.length,hl']
     have hh:=SeqAt.RcAt.tuples (A:=A) (e:=g) p1 p2 hu0 (fun j h1 h2=>?_)
     ·rw[hc,←e1,←e2];exact hh
     ·have j1:j < l.length:=e1▸h1
      have j2:j < l'.length:=e2▸h2
      obtain⟨u1,a1,a2⟩:=v1.get (i:=j) (x:=xs[j]) (List.getElem?_eq_getElem _)
      obtain⟨u2,b1,b2⟩:=v2.get (i:=j) (x:=xs'[j]) (List.getElem?_eq_getElem _)
      have a3:its.toArray[j]=u1:=by
       have:=(List.getElem?_eq_some_iff.mp a1).2
       simpa using this
      have b3:its'.toArray[j]=u2:=by
       have:=(List.getElem?_eq_some_iff.mp b1).2
       simpa using this
      rw[a3,b3]
      exact ih A.in1 l[j] l'[j] _ _ _ _ _ (hr j _ _ (List.getElem?_eq_getElem j1) (List.getElem?_eq_getElem _)) (hr' j _ _ (List.getElem?_eq_getElem j2) (List.getElem?_eq_getElem _)) a2 b2 (hg j _ _ (List.getElem?_eq_getElem j1) (List.getElem?_eq_getElem j2)) hu1
   | @lst p' xs' l' hO' h' hl' hr'=>
    cases q2
    obtain⟨its',v2,p2,_⟩:=I.list (SqL.of (K:=X.K) h')
    cases e
    exact .tuple_list p1 p2.isList hu0
   |non=>cases q2;cases e;exact .tuple_none p1 hu0
   |bl b=>cases q2;cases e;exact .tuple_bool b p1 hu0
   |int b=>obtain⟨t,rfl⟩:=q2;cases e;exact .tuple_int b t p1 hu0
   |str b=>obtain⟨t,rfl⟩:=q2;cases e;exact .tuple_str b t p1 hu0
   |_=>cases e
  |non=>
   cases r2 with
   |lst a h' b c=>cases q1;cases q2;obtain⟨its',v2,p2,_⟩:=I.list (SqL.of (K:=X.K) h');cases e;exact .none_list p2.isList hu0
   |tup a h' b c=>cases q1;cases q2;obtain⟨its',v2,p2,_⟩:=I.tuple (SqT.of (K:=X.K) h');cases e;exact .none_tuple p2 hu0
   |_=>first|exact absurd ⟨rfl,rfl⟩ f|cases e
  |bl b=>
   cases r2 with
   |lst a h' _ c=>cases q1;cases q2;obtain⟨its',v2,p2,_⟩:=I.list (SqL.of (K:=X.K) h');cases e;exact .bool_list b p2.isList hu0
   |tup a h' _ c=>cases q1;cases q2;obtain⟨its',v2,p2,_⟩:=I.tuple (SqT.of (K:=X.K) h');cases e;exact .bool_tuple b p2 hu0
   |_=>first|exact absurd ⟨rfl,rfl⟩ f|cases e
  |int b=>
   cases r2 with
   |lst a h' _ c=>obtain⟨t,rfl⟩:=q1;cases q2;obtain⟨its',v2,p2,_⟩:=I.list (SqL.of (K:=X.K) h');cases e;exact .int_list b t p2.isList hu0
   |tup a h' _ c=>obtain⟨t,rfl⟩:=q1;cases q2;obtain⟨its',v2,p2,_⟩:=I.tuple (SqT.of (K:=X.K) h');cases e;exact .int_tuple b t p2 hu0
   |_=>first|exact absurd ⟨rfl,rfl⟩ f|cases e
  |str b=>
   cases r2 with
   |lst a h' _ c=>obtain⟨t,rfl⟩:=q1;cases q2;obtain⟨its',v2,p2,_⟩:=I.list (SqL.of (K:=X.K) h');cases e;exact .str_list b t p2.isList hu0
   |tup a h' _ c=>obtain⟨t,rfl⟩:=q1;cases q2;obtain⟨its',v2,p2,_⟩:=I.tuple (SqT.of (K:=X.K) h');cases e;exact .str_tuple b t p2 hu0
   |_=>first|exact absurd ⟨rfl,rfl⟩ f|cases e
  |_=>cases z<;>cases e
end
end
section
variable {φ:Fam}
section
variable {X:Cx}
theorem rc_flat (f1:flatV y=true) (f2:flatV z=true) (q1:RelV y u) (q2:RelV z v):SeqAt.RcAt A s u v (eqV y z)∧SeqAt.RcNeAt A s u v (!eqV y z):=by
 cases y with
 |non=>
  cases q1
  cases z with
  |non=>cases q2;exact⟨.none_none,.none_none⟩
  |bl b=>cases q2;exact⟨.none_bool b,.none_bool b⟩
  |int b=>obtain⟨t,rfl⟩:=q2;exact⟨.none_int b t,.none_int b t⟩
  |str b=>obtain⟨t,rfl⟩:=q2;exact⟨.none_str b t,.none_str b t⟩
  |_=>cases f2
 |bl a=>
  cases q1
  cases z with
  |non=>cases q2;exact⟨.bool_none a,.bool_none a⟩
  |bl b=>cases q2;exact⟨.bool_bool a b,.bool_bool a b⟩
  |int b=>obtain⟨t,rfl⟩:=q2;exact⟨.bool_int a b t,.bool_int a b t⟩
  |str b=>obtain⟨t,rfl⟩:=q2;exact⟨.bool_str a b t,.bool_str a b t⟩
  |_=>cases f2
 |int a=>
  obtain⟨t',rfl⟩:=q1
  cases z with
  |non=>cases q2;exact⟨.int_none a t',.int_none a t'⟩
  |bl b=>cases q2;exact⟨.int_bool a t' b,.int_bool a t' b⟩
  |int b=>obtain⟨t,rfl⟩:=q2;exact⟨.int_int a t' b t,.int_int a t' b t⟩
  |str b=>obtain⟨t,rfl⟩:=q2;exact⟨.int_str a t' b t,.int_str a t' b t⟩
  |_=>cases f2
 |str a=>
  obtain⟨t',rfl⟩:=q1
  cases z with
  |non=>cases q2;exact⟨.str_none a t',.str_none a t'⟩
  |bl b=>cases q2;exact⟨.str_bool a t' b,.str_bool a t' b⟩
  |int b=>obtain⟨t,rfl⟩:=q2;exact⟨.str_int a t' b t,.str_int a t' b t⟩
  |str b=>obtain⟨t,rfl⟩:=q2;exact⟨.str_str a t' b t,.str_str a t' b t⟩
  |_=>cases f2
 |_=>cases f1
theorem rc_at (I:Inv X pZ σ H s) (hB:O B) (k:Nat) (A:Around) (y z:PV) (x x':V) (u v:Value) (c:Bool)
  (r1:Rep B O H y x) (r2:Rep B O H z x') (q1:RelV x u) (q2:RelV x' v) (e:eqP (k+1) y z=some c) (hu:A.units+(k+1) < cLine):SeqAt.RcAt A s u v c∧SeqAt.RcNeAt A s u v (!c):=by
 have hu0:A.units < cLine:=by lia
 have hu1:A.in1.units+k < cLine:=by show A.units+1+k < cLine;lia
 by_cases f:flatP y=true∧flatP z=true
 ·rw[eqP_flat f.1 f.2] at e
  cases e
  rw[flat_rep r1 f.1] at q1
  rw[flat_rep r2 f.2] at q2
  exact rc_flat f.1 f.2 q1 q2
 cases r1 with
 | @lst p xs l hO h hl hr=>
  cases q1
  obtain⟨its,v1,p1,_⟩:=I.list (SqL.of (K:=X.K) h)
  cases r2 with
  | @lst p' xs' l' hO' h' hl' hr'=>
   cases q2
   obtain⟨its',v2,p2,_⟩:=I.list (SqL.of (K:=X.K) h')
   obtain⟨g,hg,hc⟩:=eqs_at e
   have e1:its.toArray.size=l.length:=by rw[List.size_toArray,←v1.length,hl]
   have e2:its'.toArray.size=l'.length:=by rw[List.size_toArray,←v2.length,hl']
   by_cases hs:l.length=l'.length
   ·have he: ∀ j (h1:j < its.toArray.size) (h2:j < its'.toArray.size),SeqAt.EqAt A.in1 s its.toArray[j] its'.toArray[j] (g j):=fun j h1 h2=>by
     have j1:j < l.length:=e1▸h1
     have j2:j < l'.length:=e2▸h2
     obtain⟨u1,a1,a2⟩:=v1.get (i:=j) (x:=xs[j]) (List.getElem?_eq_getElem _)
     obtain⟨u2,b1,b2⟩:=v2.get (i:=j) (x:=xs'[j]) (List.getElem?_eq_getElem _)
     have a3:its.toArray[j]=u1:=by
      have:=(List.getElem?_eq_some_iff.mp a1).2
      simpa using this
     have b3:its'.toArray[j]=u2:=by
      have:=(List.getElem?_eq_some_iff.mp b1).2
      simpa using this
     rw[a3,b3]
     exact eq_at I hB k A.in1 l[j] l'[j] _ _ _ _ _ (hr j _ _ (List.getElem?_eq_getElem j1) (List.getElem?_eq_getElem _)) (hr' j _ _ (List.getElem?_eq_getElem j2) (List.getElem?_eq_getElem _)) a2 b2 (hg j _ _ (List.getElem?_eq_getElem j1) (List.getElem?_eq_getElem j2)) hu1
    have h1:=SeqAt.RcAt.lists (A:=A) (e:=g) p1.isList p2.isList (by rw[e1,e2,hs]) hu0 he
    have h2:=SeqAt.RcNeAt.lists (A:=A) (e:=g) p1.isList p2.isList (by rw[e1,e2,hs]) hu0 he
    rw[hc,←hs,Nat.min_self,beq_self_eq_true,Bool.and_true,←e1];exact⟨h1,h2⟩
   ·have:c=false:=by rw[hc];simp[hs]
    rw[this]
    exact⟨SeqAt.RcAt.lists_lengths p1.isList p2.isList (by rw[e1,e2];simpa using hs) hu0,SeqAt.RcNeAt.lists_lengths p1.isList p2.isList (by rw[e1,e2];simpa using hs) hu0⟩
  | @tup p' xs' l' hO' h' hl' hr'=>
   cases q2
   obtain⟨its',v2,p2,_⟩:=I.tuple (SqT.of (K:=X.K) h')
   cases e
   exact⟨.list_tuple p1.isList p2 hu0,.list_tuple p1.isList p2 hu0⟩
  |non=>cases q2;cases e;exact⟨.list_none p1.isList hu0,.list_none p1.isList hu0⟩
  |bl b=>cases q2;cases e;exact⟨.list_bool b p1.isList hu0,.list_bool b p1.isList hu0⟩
  |int b=>obtain⟨t,rfl⟩:=q2;cases e;exact⟨.list_int b t p1.isList hu0,.list_int b t p1.isList hu0⟩
  |str b=>obtain⟨t,rfl⟩:=q2;cases e;exact⟨.list_str b t p1.isList hu0,.list_str b t p1.isList hu0⟩
  |_=>cases e
 | @tup p xs l hO h hl hr=>
  cases q1
  obtain⟨its,v1,p1,_⟩:=I.tuple (SqT.of (K:=X.K) h)
  cases r2 with
  | @tup p' xs' l' hO' h' hl' hr'=>
   cases q2
   obtain⟨its',v2,p2,_⟩:=I.tuple (SqT.of (K:=X.K) h')
   obtain⟨g,hg,hc⟩:=eqs_at e
   have e1:its.toArray.size=l.length:=by rw[List.size_toArray,←v1.length,hl]
   have e2:its'.toArray.size=l'.length:=by rw[List.size_toArray,←v2.length,hl']
   have he: ∀ j (h1:j < its.toArray.size) (h2:j < its'.toArray.size),SeqAt.EqAt A.in1 s its.toArray[j] its'.toArray[j] (g j):=fun j h1 h2=>by
    have j1:j < l.length:=e1▸h1
    have j2:j < l'.length:=e2▸h2
    obtain⟨u1,a1,a2⟩:=v1.get (i:=j) (x:=xs[j]) (List.getElem?_eq_getElem _)
    obtain⟨u2,b1,b2⟩:=v2.get (i:=j) (x:=xs'[j]) (List.getElem?_eq_getElem _)
    have a3:its.toArray[j]=u1:=by
     have:=(List.getElem?_eq_some_iff.mp a1).2
     simpa using this
    have b3:its'.toArray[j]=u2:=by
     have:=(List.getElem?_eq_some_iff.mp b1).2
     simpa using this
    rw[a3,b3]
    exact eq_at I hB k A.in1 l[j] l'[j] _ _ _ _ _ (hr j _ _ (List.getElem?_eq_getElem j1) (List.getElem?_eq_getElem _)) (hr' j _ _ (List.getElem?_eq_getElem j2) (List.getElem?_eq_getElem _)) a2 b2 (hg j _ _ (List.getElem?_eq_getElem j1) (List.getElem?_eq_getElem j2)) hu1
   have h1:=SeqAt.RcAt.tuples (A:=A) (e:=g) p1 p2 hu0 he
   have h2:=SeqAt.RcNeAt.tuples (A:=A) (e:=g) p1 p2 hu0 he
   rw[hc,←e1,←e2];exact⟨h1,h2⟩
  | @lst p' xs' l' hO' h' hl' hr'=>
   cases q2
   obtain⟨its',v2,p2,_⟩:=I.list (SqL.of (K:=X.K) h')
   cases e
   exact⟨.tuple_list p1 p2.isList hu0,.tuple_list p1 p2.isList hu0⟩
  |non=>cases q2;cases e;exact⟨.tuple_none p1 hu0,.tuple_none p1 hu0⟩
  |bl b=>cases q2;cases e;exact⟨.tuple_bool b p1 hu0,.tuple_bool b p1 hu0⟩
  |int b=>obtain⟨t,rfl⟩:=q2;cases e;exact⟨.tuple_int b t p1 hu0,.tuple_int b t p1 hu0⟩
  |str b=>obtain⟨t,rfl⟩:=q2;cases e;exact⟨.tuple_str b t p1 hu0,.tuple_str b t p1 hu0⟩
  |_=>cases e
 |non=>
  cases r2 with
  |lst a h' b c=>cases q1;cases q2;obtain⟨its',v2,p2,_⟩:=I.list (SqL.of (K:=X.K) h');cases e;exact⟨.none_list p2.isList hu0,.none_list p2.isList hu0⟩
  |tup a h' b c=>cases q1;cases q2;obtain⟨its',v2,p2,_⟩:=I.tuple (SqT.of (K:=X.K) h');cases e;exact⟨.none_tuple p2 hu0,.none_tuple p2 hu0⟩
  |_=>first|exact absurd ⟨rfl,rfl⟩ f|cases e
 |bl b=>
  cases r2 with
  |lst a h' _ c=>cases q1;cases q2;obtain⟨its',v2,p2,_⟩:=I.list (SqL.of (K:=X.K) h');cases e;exact⟨.bool_list b p2.isList hu0,.bool_list b p2.isList hu0⟩
  |tup a h' _ c=>cases q1;cases q2;obtain⟨its',v2,p2,_⟩:=I.tuple (SqT.of (K:=X.K) h');cases e;exact⟨.bool_tuple b p2 hu0,.bool_tuple b p2 hu0⟩
  |_=>first|exact absurd ⟨rfl,rfl⟩ f|cases e
 |int b=>
  cases r2 with
  |lst a h' _ c=>obtain⟨t,rfl⟩:=q1;cases q2;obtain⟨its',v2,p2,_⟩:=I.list (SqL.of (K:=X.K) h');cases e;exact⟨.int_list b t p2.isList hu0,.int_list b t p2.isList hu0⟩
  |tup a h' _ c=>obtain⟨t,rfl⟩:=q1;cases q2;obtain⟨its',v2,p2,_⟩:=I.tuple (SqT.of (K:=X.K) h');cases e;exact⟨.int_tuple b t p2 hu0,.int_tuple b t p2 hu0⟩
  |_=>first|exact absurd ⟨rfl,rfl⟩ f|cases e
 |str b=>
  cases r2 with
  |lst a h' _ c=>obtain⟨t,rfl⟩:=q1;cases q2;obtain⟨its',v2,p2,_⟩:=I.list (SqL.of (K:=X.K) h');cases e;exact⟨.str_list b t p2.isList hu0,.str_list b t p2.isList hu0⟩
  |tup a h' _ c=>obtain⟨t,rfl⟩:=q1;cases q2;obtain⟨its',v2,p2,_⟩:=I.tuple (SqT.of (K:=X.K) h');cases e;exact⟨.str_tuple b t p2 hu0,.str_tuple b t p2 hu0⟩
  |_=>first|exact absurd ⟨rfl,rfl⟩ f|cases e
 |_=>cases z<;>cases e
noncomputable def rEqD (neg:Bool):R2:=fun x y H Q=> ∃ (B:Addr) (O:Addr→Prop) (a b:PV) (c:Bool),O B∧Rep B O H a x∧Rep B O H b y∧eqP 20 a b=some c∧Q (.bl (xor neg c)) H
theorem op_eqD (hU:X.A.units+64 < cLine):OpR X (compareOp .Eq) (rEqD false):=by
 intro pZ s σ H x y v u Q I rx ry h
 obtain⟨B,O,a,b,c,hB,r1,r2,e,q⟩:=h
 exact(rc_at I hB 19 X.A a b x y v u c r1 r2 rx ry e (by lia)).1 _ _ _ _ (fin_bl I q (by cases c<;>rfl))
theorem op_neD (hU:X.A.units+64 < cLine):OpR X (compareOp .NotEq) (rEqD true):=by
 intro pZ s σ H x y v u Q I rx ry h
 obtain⟨B,O,a,b,c,hB,r1,r2,e,q⟩:=h
 exact(rc_at I hB 19 X.A a b x y v u c r1 r2 rx ry e (by lia)).2 _ _ _ _ (fin_bl I q (by cases c<;>rfl))
end
noncomputable def eqO (neg:Bool) (y z:PV):M PV:=(M.ofO (eqP 20 y z)).bind fun c=>.ret (.bl (xor neg c))
theorem ov_eq (neg:Bool):OpV (rEqD neg) (eqO neg):=fun φ G O H n R Q y z x x' pr dm ok r1 r2 w q=>by
 unfold eqO at w
 cases e:eqP 20 y z with
 |none=>rw[e] at w;exact w.elim
 |some c=>rw[e] at w;exact⟨G.B,G.priv,y,z,c,G.pB,r1.low pr,r2.low pr,e,q.sc ok (.bl _) w⟩
noncomputable def numO (C:Int→Int→Prop) [∀ i j,Decidable (C i j)] (f:Int→Int→PV):PV→PV→M PV
 | .int i,.int j=>if C i j then .ret (f i j) else .fail
 |_,_=>.fail
theorem ov_num [∀ i j,Decidable (C i j)] (hf: ∀ B O H i j,Rep B O H (f i j) (g i j)):OpV (rI C g) (numO C f):=fun φ G O H n R Q y z x x' pr dm ok r1 r2 w q=>by
 cases y<;>cases z<;>first|exact w.elim|skip
 rename_i i j
 rw[r1.int_i,r2.int_i]
 unfold numO at w
 dsimp only at w
 by_cases hc:C i j
 ·rw[if_pos hc] at w;exact⟨i,j,rfl,rfl,hc,q.sc ok (hf _ _ _ _ _) w⟩
 ·rw[if_neg hc] at w;exact w.elim
noncomputable def numB (f:Int→Int→Bool):PV→PV→M PV
 | .int i,.int j=>.ret (.bl (f i j))
 |_,_=>.fail
theorem ov_numB:OpV (rI0 fun i j=>.bl (f i j)) (numB f):=fun φ G O H n R Q y z x x' pr dm ok r1 r2 w q=>by
 cases y<;>cases z<;>first|exact w.elim|skip
 rename_i i j
 rw[r1.int_i,r2.int_i]
 exact⟨i,j,rfl,rfl,q.sc ok (.bl _) w⟩
def ltO:=numB fun i j=>decide (i < j)
def gtO:=numB fun i j=>decide (j < i)
theorem ov_lt:OpV (rI0 fun i j=>.bl (decide (i < j))) ltO:=ov_numB
theorem ov_gt:OpV (rI0 fun i j=>.bl (decide (j < i))) gtO:=ov_numB
noncomputable def subO:PV→PV→M PV
 | .int i,.int j=>.ret (.int (i - j))
 |_,_=>.fail
theorem ov_sub:OpV (rI0 fun i j=>.int (i - j)) subO:=fun φ G O H n R Q y z x x' pr dm ok r1 r2 w q=>by
 cases y<;>cases z<;>first|exact w.elim|skip
 rename_i i j
 rw[r1.int_i,r2.int_i]
 exact⟨i,j,rfl,rfl,q.sc ok (.int _) w⟩
instance (i j:Int):Decidable (CMul i j):=by unfold CMul;infer_instance
instance (i j:Int):Decidable (CPow i j):=by unfold CPow;infer_instance
instance (i j:Int):Decidable (CDiv i j):=by unfold CDiv;infer_instance
noncomputable def modO:=numO (fun _ j=>0 < j) fun i j=>.int (i % j)
noncomputable def fdivO:=numO CDiv fun i j=>.int (i / j)
theorem ov_mod:OpV (rI (fun _ j=>0 < j) fun i j=>.int (i % j)) modO:=ov_num fun _ _ _ _ _=>.int _
theorem ov_fdiv:OpV (rI CDiv fun i j=>.int (i / j)) fdivO:=ov_num fun _ _ _ _ _=>.int _
noncomputable def rAddD (K:PySem.W.Frag):R2:=fun x y H Q=>(rI0 fun i j=>.int (i+j)) x y H Q∨(∃ i j,x= .str i∧y= .str j∧i.length+j.length≤sizeLine∧Q (.str (i++j)) H)∨rCat x y H Q∨rCatT K x y H Q∨
 (∃ a b ys,x= .ref a∧y= .ref b∧H a=some (.tup [])∧H b=some (.tup ys)∧Q (.ref b) H)
theorem op_catT0:OpR X (binaryOp .Add) (fun x y H Q=> ∃ a b ys,x= .ref a∧y= .ref b∧H a=some (.tup [])∧H b=some (.tup ys)∧Q (.ref b) H):=by
 intro pZ s σ H x y v u Q I rx ry h
 obtain⟨a,b,ys,rfl,rfl,ha,hb,q⟩:=h
 cases rx
 cases ry
 obtain⟨its,r1,p1,_⟩:=I.tuple (SqT.of (K:=X.K) ha)
 obtain⟨its2,r2,p2,_⟩:=I.tuple (SqT.of (K:=X.K) hb)
 cases r1
 obtain⟨⟨cls,dd,data,sl⟩,ho,hc,n,hd⟩:=id p1
 obtain⟨⟨cls2,dd2,data2,sl2⟩,ho2,hc2,n2,hd2⟩:=id p2
 simp only at hc hd hc2 hd2
 subst hc hd hc2 hd2
 exact concat_meets ⟨_,ho,rfl⟩ ⟨_,ho2,rfl⟩ noFill_tuple_add seq_tuple_add PySem.F.slot_tuple_add PySem.F.entry_tuple_add (PySem.F.args_tuple_add_2 _ _)
   (tuple_addW0 a b _ its2.toArray n n2 dd dd2 sl sl2 rfl) ⟨ho,ho2,⟨.ref b,H,I,rfl,q⟩⟩
theorem op_addD:OpR X (binaryOp .Add) (rAddD X.K):=op_add.or (op_add_str.or (op_cat.or (op_catT.or op_catT0)))
noncomputable def addO:PV→PV→M PV
 | .int i,.int j=>.ret (.int (i+j))
 | .str i,.str j=>if i.length+j.length≤100000 then .ret (.str (i++j)) else .fail
 | .lst a,.lst b=>if a.length+b.length≤100000 then .ret (.lst (a++b)) else .fail
 | .tup a,.tup b=>if a.length+b.length≤100000 then .ret (.tup (a++b)) else .fail
 |_,_=>.fail
theorem ov_add {K:PySem.W.Frag}:OpV (rAddD K) addO:=fun φ G O H n R Q y z x x' pr dm ok r1 r2 w q=>by
 have hB:O G.B:=pr _ G.pB
 cases y<;>cases z<;>first|exact w.elim|skip
 ·rename_i i j
  rw[r1.int_i,r2.int_i]
  exact .inl ⟨i,j,rfl,rfl,q.sc ok (.int _) w⟩
 ·rename_i i j
  rw[r1.str_i,r2.str_i]
  unfold addO at w
  dsimp only at w
  by_cases hc:i.length+j.length≤100000
  ·rw[if_pos hc] at w;exact .inr (.inl ⟨i,j,rfl,rfl,Nat.le_trans hc big_le,q.sc ok (.str _) w⟩)
  ·rw[if_neg hc] at w;exact w.elim
 ·rename_i i j
  obtain⟨a,xs,rfl,h1,e1⟩:=r1.tup_i
  obtain⟨b,ys,rfl,h2,e2⟩:=r2.tup_i
  unfold addO at w
  dsimp only at w
  by_cases hc:i.length+j.length≤100000
  ·rw[if_pos hc] at w
   by_cases hn:i=[]
   ·subst hn
    rw[e1.nil_inv] at h1
    cases r2 with
    |full r2=>exact .inr (.inr (.inr (.inr ⟨a,b,ys,rfl,rfl,h1,h2,q.sc ok r2 w⟩)))
   ·refine .inr (.inr (.inr (.inl ⟨a,b,xs,ys,rfl,rfl,SqT.of h1,SqT.of h2,fun z=>hn ?_,Nat.le_trans (by rw[←e1.1,←e2.1];exact hc) big_le,fun hz=>?_,fun _ p hp=>q.tup ok dm hp hB (e1.append e2) w⟩)))
    ·subst z;exact List.eq_nil_of_length_eq_zero e1.1
    ·subst hz
     have:j=[]:=List.eq_nil_of_length_eq_zero e2.1
     subst this
     rw[List.append_nil] at w
     cases r1 with
     |full r1=>exact q.sc ok r1 w
  ·rw[if_neg hc] at w;exact w.elim
 ·rename_i i j
  obtain⟨a,xs,rfl,h1,e1⟩:=r1.lst_i
  obtain⟨b,ys,rfl,h2,e2⟩:=r2.lst_i
  unfold addO at w
  dsimp only at w
  by_cases hc:i.length+j.length≤100000
  ·rw[if_pos hc] at w
   exact .inr (.inr (.inl ⟨a,b,xs,ys,rfl,rfl,h1,h2,Nat.le_trans (by rw[←e1.1,←e2.1];exact hc) big_le,fun p hp=>q.lst ok dm hp hB (e1.append e2) w⟩))
  ·rw[if_neg hc] at w;exact w.elim
noncomputable def repStr (i:Str) (k:Int):Str:=⟨(List.replicate k.toNat i.cps).foldl (· ++ ·) #[]⟩
noncomputable def rRepS:R2:=fun x y H Q=> ∃ i k,x= .str i∧y= .int k∧(1 < k∧k < 1000∧0 < i.length∧i.length < 1000∧(repStr i k).length≤100000)∧Q (.str (repStr i k)) H
noncomputable def rMulD:R2:=fun x y H Q=>rI CMul (fun i j=>.int (i * j)) x y H Q∨rRepS x y H Q∨rRep x y H Q
theorem op_repS:OpR X (binaryOp .Mult) rRepS:=by
 intro pZ s σ H x y v u Q I rx ry h
 obtain⟨i,k,rfl,rfl,⟨h1,h2,h3,h4,h5⟩,q⟩:=h
 obtain⟨t,rfl⟩:=rx
 obtain⟨t',rfl⟩:=ry
 have e1: ¬ k < -(2 ^ 63:Int):=by
  have:(2:Int) ^ 63=9223372036854775808:=by decide
  lia
 have e2: ¬ k ≥ 2 ^ 63:=by
  have:(2:Int) ^ 63=9223372036854775808:=by decide
  lia
 have hz:(i.length * k.toNat)≤1000000:=Nat.le_trans (Nat.mul_le_mul (Nat.le_of_lt h4) (by lia:k.toNat≤1000)) (by decide)
 have hne:(k==1||i.length==0)=false:=by
  simp only[Bool.or_eq_false_iff,beq_eq_false_iff_ne]
  exact⟨by lia,by lia⟩
 refine PySem.P.mul_str (by rw[decide_eq_false e1,decide_eq_false e2];rfl) (fun _ _ hgt=>?_) (fun _ _=>?_) ?_
 ·have:(i.length:Int)≤(2 ^ 63 - 1) / k:=by
   rw[Int.le_ediv_iff_mul_le (by lia)]
   have:(i.length:Int) * k≤1000 * 1000:=Int.mul_le_mul (by lia) (by lia) (by lia) (by lia)
   have e:(2:Int) ^ 63 - 1=9223372036854775807:=by decide
   lia
  lia
 ·have hs:sizeLine=16777216:=sizeLine_eq
  show decide (i.length * k.toNat > sizeLine)=false
  exact decide_eq_false (by lia)
 ·rw[if_neg (by lia),if_neg (by rw[hne];simp)]
  exact⟨Nat.le_trans h5 big_le,⟨.str (repStr i k),H,I.tok _,⟨_,rfl⟩,q⟩⟩
theorem op_mulD:OpR X (binaryOp .Mult) rMulD:=op_mul.or (op_repS.or op_rep)
noncomputable def mulO:PV→PV→M PV
 | .int i,.int j=>if CMul i j then .ret (.int (i * j)) else .fail
 | .str i,.int k=>if 1 < k∧k < 1000∧0 < i.length∧i.length < 1000∧(repStr i k).length≤100000 then .ret (.str (repStr i k)) else .fail
 | .lst l,.int k=>if -1000 < k∧k < 1000∧l.length * k.toNat≤100000 then .ret (.lst (List.replicate k.toNat l).flatten) else .fail
 |_,_=>.fail
theorem Reps.rep (h:Reps B O H l xs): ∀ k:Nat,Reps B O H (List.replicate k l).flatten (List.replicate k xs).flatten
 |0=>.nil
 |k+1=>by rw[List.replicate_succ,List.replicate_succ,List.flatten_cons,List.flatten_cons];exact h.append (Reps.rep h k)
theorem ov_mul:OpV rMulD mulO:=fun φ G O H n R Q y z x x' pr dm ok r1 r2 w q=>by
 have hB:O G.B:=pr _ G.pB
 cases y<;>cases z<;>first|exact w.elim|skip
 ·rename_i i j
  rw[r1.int_i,r2.int_i]
  unfold mulO at w
  dsimp only at w
  by_cases hc:CMul i j
  ·rw[if_pos hc] at w;exact .inl ⟨i,j,rfl,rfl,hc,q.sc ok (.int _) w⟩
  ·rw[if_neg hc] at w;exact w.elim
 ·rename_i i k
  rw[r1.str_i,r2.int_i]
  unfold mulO at w
  dsimp only at w
  by_cases hc:1 < k∧k < 1000∧0 < i.length∧i.length < 1000∧(repStr i k).length≤100000
  ·rw[if_pos hc] at w;exact .inr (.inl ⟨i,k,rfl,rfl,hc,q.sc ok (.str _) w⟩)
  ·rw[if_neg hc] at w;exact w.elim
 ·rename_i l k
  obtain⟨a,xs,rfl,h1,e1⟩:=r1.lst_i
  rw[r2.int_i]
  unfold mulO at w
  dsimp only at w
  by_cases hc: -1000 < k∧k < 1000∧l.length * k.toNat≤100000
  ·rw[if_pos hc] at w
   have e:(2:Int) ^ 63=9223372036854775808:=by decide
   exact .inr (.inr ⟨a,k,xs,rfl,rfl,h1,by lia,by lia,Nat.le_trans (by rw[←e1.1];exact hc.2.2) big_le,fun p hp=>q.lst ok dm hp hB (e1.rep _) w⟩)
  ·rw[if_neg hc] at w;exact w.elim
theorem RepB.flat_all {G:Bg φ}: ∀ {l:List PV} {xs:List V},Reps G.B O H l xs→l.all flatP=true→xs=l.map toV
 |[],xs,h,_=>h.nil_inv
 |y::l,xs,h,f=>by
  obtain⟨x,r,rfl,h1,h2⟩:=h.cons_inv
  rw[List.all_cons,Bool.and_eq_true] at f
  rw[List.map_cons,flat_rep h1 f.1,RepB.flat_all h2 f.2]
noncomputable def rInD (K:PySem.W.Frag) (neg:Bool):R2:=fun x y H Q=>rIn K neg x y H Q∨∃ i j,x= .str i∧y= .str j∧Q (.bl (xor neg (!(Builtin.Str.occurrences j i 0 j.length 1).isEmpty))) H
theorem op_inD:OpR X (compareOp .In) (rInD X.K false):=by
 intro pZ s σ H x y v u Q I rx ry h
 rcases h with h|⟨i,j,h1,h2,q⟩
 ·exact op_in_seq pZ s σ H x y v u Q I rx ry h
 ·exact op_in_str pZ s σ H x y v u Q I rx ry ⟨i,j,h1,h2,by simpa using q⟩
noncomputable def memF (y:PV) (l:List PV):Bool:=l.any fun z=>eqV (toV z) (toV y)
noncomputable def inO (neg:Bool):PV→PV→M PV
 | .str i,.str j=>.ret (.bl (xor neg (!(Builtin.Str.occurrences j i 0 j.length 1).isEmpty)))
 |y,.lst l=>if flatP y&&l.all flatP then .ret (.bl (xor neg (memF y l))) else .fail
 |y,.tup l=>if flatP y&&l.all flatP then .ret (.bl (xor neg (memF y l))) else .fail
 |_,_=>.fail
theorem inV_map (y:PV) (l:List PV):inV (toV y) (l.map toV)=memF y l:=by unfold inV memF;rw[List.any_map];rfl
theorem ov_in {K:PySem.W.Frag} (neg:Bool):OpV (rInD K neg) (inO neg):=fun φ G O H n R Q y z x x' pr dm ok r1 r2 w q=>by
 cases z with
 |lst l=>
  have w':(if(flatP y&&l.all flatP)=true then M.ret (.bl (xor neg (memF y l))) else M.fail:M PV).wp n R:=by cases y<;>exact w
  by_cases hc:(flatP y&&l.all flatP)=true
  ·rw[if_pos hc] at w'
   rw[Bool.and_eq_true] at hc
   obtain⟨p,xs,rfl,h1,e1⟩:=r2.lst_i
   have e2:=RepB.flat_all e1 hc.2
   rw[flat_repB r1 hc.1]
   refine .inl ⟨p,xs,rfl,.inl (SqL.of h1),hc.1,?_,?_⟩
   ·rw[e2,List.all_map];exact hc.2
   ·rw[e2,inV_map];cases neg<;>simpa using q.sc ok (.bl _) w'
  ·rw[if_neg hc] at w';exact w'.elim
 |tup l=>
  have w':(if(flatP y&&l.all flatP)=true then M.ret (.bl (xor neg (memF y l))) else M.fail:M PV).wp n R:=by cases y<;>exact w
  by_cases hc:(flatP y&&l.all flatP)=true
  ·rw[if_pos hc] at w'
   rw[Bool.and_eq_true] at hc
   obtain⟨p,xs,rfl,h1,e1⟩:=r2.tup_i
   have e2:=RepB.flat_all e1 hc.2
   rw[flat_repB r1 hc.1]
   refine .inl ⟨p,xs,rfl,.inr (SqT.of h1),hc.1,?_,?_⟩
   ·rw[e2,List.all_map];exact hc.2
   ·rw[e2,inV_map];cases neg<;>simpa using q.sc ok (.bl _) w'
  ·rw[if_neg hc] at w';exact w'.elim
 |str j=>
  cases y<;>first|exact w.elim|skip
  rename_i i
  rw[r1.str_i,r2.str_i]
  exact .inr ⟨i,j,rfl,rfl,q.sc ok (.bl _) w⟩
 |_=>cases y<;>exact w.elim
def isN:PV→Bool
 | .non=>true
 |_=>false
noncomputable def isO (neg:Bool) (y z:PV):M PV:=match z with| .non=>.ret (.bl (xor neg (isN y)))|_=>.fail
theorem isN_rep (r:RepB G O H y x):decide (x= .non)=isN y:=by
 cases r with
 |full h=>cases h<;>rfl
 |top _ _ _=>rfl
 |topD _ _ _=>rfl
theorem ov_notN:OpV (fun x y H Q=>y= .non∧Q (.bl (!decide (x= .non))) H) (isO true):=fun φ G O H n R Q y z x x' pr dm ok r1 r2 w q=>by
 cases z<;>first|exact w.elim|skip
 refine⟨r2.non_i,q.sc ok (y:=.bl (!isN y)) (by rw[isN_rep r1];exact .bl _) ?_⟩
 have w':R (.bl (xor true (isN y))) n:=w
 simpa using w'
noncomputable def leS (i j:Str):Bool:=!decide (j.cps.toList < i.cps.toList)
noncomputable def rLeD:R2:=fun x y H Q=>(rI0 fun i j=>.bl (decide (i≤j))) x y H Q∨∃ i j,x= .str i∧y= .str j∧Q (.bl (!decide (j.cps.toList < i.cps.toList))) H
theorem op_leD:OpR X (compareOp .LtE) rLeD:=op_le.or op_le_str
noncomputable def leOD:PV→PV→M PV
 | .int i,.int j=>.ret (.bl (decide (i≤j)))
 | .str i,.str j=>.ret (.bl (leS i j))
 |_,_=>.fail
theorem ov_leD:OpV rLeD leOD:=fun φ G O H n R Q y z x x' pr dm ok r1 r2 w q=>by
 cases y<;>cases z<;>first|exact w.elim|skip
 ·rename_i i j
  rw[r1.int_i,r2.int_i]
  exact .inl ⟨i,j,rfl,rfl,q.sc ok (.bl _) w⟩
 ·rename_i i j
  rw[r1.str_i,r2.str_i]
  exact .inr ⟨i,j,rfl,rfl,q.sc ok (.bl _) w⟩
theorem atI_reps (h:Reps B O H l xs) (e:atI l i=some y): ∃ x,atI xs i=some x∧Rep B O H y x:=by
 unfold atI at e ⊢
 rw[←h.1]
 cases q:ixN l.length i with
 |none=>rw[q] at e;cases e
 |some j=>rw[q] at e;exact h.at e
noncomputable def ixO:PV→PV→M PV
 | .lst l,.int i=>.ofO (atI l i)
 | .tup l,.int i=>.ofO (atI l i)
 | .str z,.int i=>if z.length≤100000 then(M.ofO (atI z.cps.toList i)).bind fun c=>.ret (.str ⟨#[c]⟩) else .fail
 |_,_=>.fail
theorem ov_ix {K:PySem.W.Frag}:OpV (rIx K) ixO:=fun φ G O H n R Q y z x x' pr dm ok r1 r2 w q=>by
 cases y<;>cases z<;>first|exact w.elim|skip
 ·rename_i s i
  rw[r1.str_i,r2.int_i]
  unfold ixO at w
  dsimp only at w
  by_cases hc:s.length≤100000
  ·rw[if_pos hc] at w
   cases e:atI s.cps.toList i with
   |none=>rw[e] at w;exact w.elim
   |some c=>rw[e] at w;exact .inr (.inr ⟨s,i,c,rfl,rfl,Nat.le_trans hc big_le,e,q.sc ok (.str _) w⟩)
  ·rw[if_neg hc] at w;exact w.elim
 ·rename_i l i
  obtain⟨p,xs,rfl,h1,e1⟩:=r1.tup_i
  rw[r2.int_i]
  unfold ixO at w
  dsimp only at w
  cases e:atI l i with
  |none=>rw[e] at w;exact w.elim
  |some y=>
   rw[e] at w
   obtain⟨v,a,b⟩:=atI_reps e1 e
   exact .inr (.inl ⟨p,xs,i,v,rfl,rfl,SqT.of h1,a,q.sc ok b w⟩)
 ·rename_i l i
  obtain⟨p,xs,rfl,h1,e1⟩:=r1.lst_i
  rw[r2.int_i]
  unfold ixO at w
  dsimp only at w
  cases e:atI l i with
  |none=>rw[e] at w;exact w.elim
  |some y=>
   rw[e] at w
   obtain⟨v,a,b⟩:=atI_reps e1 e
   exact .inl ⟨p,xs,i,v,rfl,rfl,SqL.of h1,a,q.sc ok b w⟩
end
section
variable {φ:Fam}
section
variable {X:Cx} {e:Expr} {es:List Expr} {me:PEnv→M PV} {ml:PEnv→M (List PV)}
theorem BA.mono (h:BA X es t) (f: ∀ σ H Q,t' σ H Q→t σ H Q):BA X es t':=⟨fun pos pZ s σ H Q I q=>h.out pos pZ s σ H Q I (f σ H Q q)⟩
noncomputable def consA (me:PEnv→M PV) (ml:PEnv→M (List PV)):PEnv→M (List PV):=fun ρ=>(me ρ).bind fun y=>(ml ρ).bind fun l=>.ret (y::l)
theorem av_nil:AV φ X [] (fun _=>.ret []):=BA.mono ⟨pa_nil⟩ fun σ H Q ⟨G,O,ρ,n,R,s,w,q⟩=>q [] [] H n (Ext.refl _ _) s.ok .nil w
theorem av_cons (h:EV φ X e me) (t:AV φ X es ml) (hs:isStar e=false:=by rfl):AV φ X (e::es) (consA me ml):=BA.mono ⟨pa_c h.out t.out hs⟩ fun σ H Q hq0=>by
 obtain⟨G,O,ρ,n,R,s,w,q⟩:=hq0
 unfold consA at w
 rw[M.wZ] at w
 refine⟨G,O,ρ,n,_,s,w,fun y x H1 n1 e1 ok1 r1 w1=>?_⟩
 rw[M.wZ] at w1
 exact⟨G,O,ρ,n1,_,s.ext e1 ok1,w1,fun l xs H2 n2 e2 ok2 r2 w2=>q (y::l) (x::xs) H2 n2 (e1.trans e2) ok2 (.cons (r1.ext s.B e2) r2) w2⟩
theorem RepBs.nil:RepBs G O H [] []:=⟨rfl,fun i y x a=>by simp at a⟩
theorem RepBs.cons {G:Bg φ} {O:Addr→Prop} {H:Hp} {y:PV} {x:V} {l:List PV} {xs:List V} (h:RepB G O H y x) (t:RepBs G O H l xs):RepBs G O H (y::l) (x::xs):=⟨by simp[t.1],fun i y' x' a b=>by
 cases i with
 |zero=>simp at a b;subst a b;exact h
 |succ i=>simp at a b;exact t.2 i y' x' a b⟩
theorem RepBs.nil_inv (h:RepBs G O H [] xs):xs=[]:=List.eq_nil_of_length_eq_zero h.1.symm
theorem RepBs.cons_inv (h:RepBs G O H (y::l) xs): ∃ x r,xs=x::r∧RepB G O H y x∧RepBs G O H l r:=by
 cases xs with
 |nil=>have:=h.1;simp at this
 |cons x r=>exact⟨x,r,rfl,h.2 0 y x rfl rfl,by simpa using h.1,fun i y' x' a b=>h.2 (i+1) y' x' (by simpa using a) (by simpa using b)⟩
theorem RepBs.one (h:RepBs G O H [y] xs): ∃ x,xs=[x]∧RepB G O H y x:=by
 obtain⟨x,r,rfl,a,b⟩:=h.cons_inv
 rw[b.nil_inv];exact⟨x,rfl,a⟩
theorem RepBs.two (h:RepBs G O H [y,z] xs): ∃ x x',xs=[x,x']∧RepB G O H y x∧RepB G O H z x':=by
 obtain⟨x,r,rfl,a,b⟩:=h.cons_inv
 obtain⟨x',rfl,c⟩:=b.one
 exact⟨x,x',rfl,a,c⟩
theorem ab_nil:AB φ X [] (fun _=>.ret []):=BA.mono ⟨pa_nil⟩ fun σ H Q ⟨G,O,ρ,n,R,s,w,q⟩=>q [] [] H n (Ext.refl _ _) s.ok .nil w
theorem ab_cons (h:EB φ X e me) (t:AB φ X es ml) (hs:isStar e=false:=by rfl):AB φ X (e::es) (consA me ml):=BA.mono ⟨pa_c h.out t.out hs⟩ fun σ H Q hq0=>by
 obtain⟨G,O,ρ,n,R,s,w,q⟩:=hq0
 unfold consA at w
 rw[M.wZ] at w
 refine⟨G,O,ρ,n,_,s,w,fun y x H1 n1 e1 ok1 r1 w1=>?_⟩
 rw[M.wZ] at w1
 exact⟨G,O,ρ,n1,_,s.ext e1 ok1,w1,fun l xs H2 n2 e2 ok2 r2 w2=>q (y::l) (x::xs) H2 n2 (e1.trans e2) ok2 (.cons (r1.ext s.B e2) r2) w2⟩
noncomputable def mkTup (l:List PV):M PV:=if l.length≤100000 then .ret (.tup l) else .fail
noncomputable def mkLst (l:List PV):M (List PV):=if l.length≤100000 then .ret l else .fail
theorem ev_tup (h:AV φ X es ml):EV φ X (.Tuple es k pos) (fun ρ=>(ml ρ).bind mkTup):=BE.mono ⟨pe_tup h.out⟩ fun σ H Q hq0=>by
 obtain⟨G,O,ρ,n,R,s,w,q⟩:=hq0
 rw[M.wZ] at w
 refine⟨G,O,ρ,n,_,s,w,fun l xs H1 n1 e1 ok1 r1 w1=>?_⟩
 unfold mkTup at w1
 by_cases hc:l.length≤100000
 ·rw[if_pos hc] at w1
  refine⟨Nat.le_trans (by rw[←r1.1];exact hc) big_le,fun p hp=>?_⟩
  have q':Wish G O H1 R Q:=fun y x H' n' e o r h=>q y x H' n' (e1.trans e) o r h
  exact q'.tup ok1 (s.ext e1 ok1).dm hp s.B r1 w1
 ·rw[if_neg hc] at w1;exact w1.elim
theorem ef_lst (h:AV φ X es ml):EF φ X (.List es pos) (fun ρ=>(ml ρ).bind mkLst):=BE.mono ⟨pe_lst h.out⟩ fun σ H Q hq0=>by
 obtain⟨G,O,ρ,n,R,s,w,q⟩:=hq0
 rw[M.wZ] at w
 refine⟨G,O,ρ,n,_,s,w,fun l xs H1 n1 e1 ok1 r1 w1=>?_⟩
 unfold mkLst at w1
 by_cases hc:l.length≤100000
 ·rw[if_pos hc] at w1
  refine⟨Nat.le_trans (by rw[←r1.1];exact hc) big_le,fun p hp=>?_⟩
  have e2:=Ext.new (B:=G.B) hp (.lst xs)
  refine q l p xs _ n1 (e1.trans e2) (Bg.new ok1 hp _) ?_ upd_same ((r1.grow fun q z=>by
   rcases z with z|z
   ·exact .inl z
   ·subst z;exact .inr hp).ext (.inl s.B) e2) w1
  cases hh:H p with
  |none=>rfl
  |some o=>
   by_cases pb:p=G.B
   ·subst pb;obtain⟨o',g⟩:=G.dom _ _ _ ok1 G.pB;rw[hp] at g;cases g
   ·obtain⟨_,this⟩:=(e1 p o pb hh).there;rw[hp] at this;cases this
 ·rw[if_neg hc] at w1;exact w1.elim
theorem new_before {G:Bg φ} (e1:Ext G.B H H1) (ok1:G.ok H1 n) (hp:H1 p=none):H p=none:=by
 cases hh:H p with
 |none=>rfl
 |some o=>
  by_cases pb:p=G.B
  ·subst pb;obtain⟨o',g⟩:=G.dom _ _ _ ok1 G.pB;rw[hp] at g;cases g
  ·obtain⟨_,this⟩:=(e1 p o pb hh).there;rw[hp] at this;cases this
def CallV (r:List V→Hp→VK→Prop) (op:List PV→M PV):Prop:= ∀ (φ:Fam) (G:Bg φ) (O:Addr→Prop) (H:Hp) (n:Nat) (R:PV→Nat→Prop) (Q:VK) (l:List PV) (xs:List V),
 (∀ p,G.priv p→O p)→(∀ p,O p→∃ o,H p=some o)→G.ok H n→RepBs G O H l xs→(op l).wp n R→Wish G O H R Q→r xs H Q
theorem ev_callB (h:BE X e (tCB r (taB φ ml))) (hv:CallV r op):EV φ X e (fun ρ=>(ml ρ).bind op):=BE.mono h fun σ H Q hq0=>by
 obtain⟨G,O,ρ,n,R,s,w,q⟩:=hq0
 rw[M.wZ] at w
 exact⟨G,O,ρ,n,_,s,w,fun l xs H1 n1 e1 ok1 r1 w1=>hv φ G O H1 n1 R Q l xs s.pr (s.ext e1 ok1).dm ok1 r1 w1 fun y x H' n' e o r h=>q y x H' n' (e1.trans e) o r h⟩
noncomputable def lenO:List PV→M PV
 |[.str z]=>if z.length≤100000 then .ret (.int z.length) else .fail
 |[.lst l]=>.ret (.int l.length)
 |[.tup l]=>.ret (.int l.length)
 |[.scr l]=>.ret (.int l.length)
 |[.dct l]=>.ret (.int l.length)
 |_=>.fail
noncomputable def rLenD (K:PySem.W.Frag):List V→Hp→VK→Prop:=fun xs H Q=>(∃ x n,xs=[x]∧LenV K x H n∧Q (.int n) H)∨∃ a kvs,xs=[.ref a]∧Rd H a (.dK kvs)∧Q (.int kvs.length) H
theorem call_lenDD:CallR X (.builtin "len") (rLenD X.K):=by
 intro pZ s σ H xs us Q I r h
 rcases h with h|⟨a,kvs,rfl,h,q⟩
 ·exact call_len pZ s σ H xs us Q I r h
 ·obtain⟨u,rfl,rx⟩:=vals1 r
  cases rx
  exact d_len I h fun t s' I'=>⟨.int kvs.length,H,I',⟨_,rfl⟩,q⟩
theorem cv_len {K:PySem.W.Frag}:CallV (rLenD K) lenO:=fun φ G O H n R Q l xs pr dm ok r w q=>by
 match l,r,w with
 |[.str z],r,w=>
  obtain⟨x,ex,r1⟩:=r.one;subst ex;clear r;have r:=r1;clear r1
  rw[r.str_i]
  unfold lenO at w
  dsimp only at w
  by_cases hc:z.length≤100000
  ·rw[if_pos hc] at w;exact .inl ⟨_,_,rfl,⟨Nat.le_trans hc big_le,rfl⟩,q.sc ok (.int _) w⟩
  ·rw[if_neg hc] at w;exact w.elim
 |[.lst z],r,w=>
  obtain⟨x,ex,r1⟩:=r.one;subst ex;clear r;have r:=r1;clear r1
  obtain⟨p,xs,rfl,h,e⟩:=r.lst_i
  exact .inl ⟨_,_,rfl,.inl ⟨xs,SqL.of h,rfl⟩,q.sc ok (y:=.int z.length) (by rw[e.1];exact .int _) w⟩
 |[.tup z],r,w=>
  obtain⟨x,ex,r1⟩:=r.one;subst ex;clear r;have r:=r1;clear r1
  obtain⟨p,xs,rfl,h,e⟩:=r.tup_i
  exact .inl ⟨_,_,rfl,.inr ⟨xs,SqT.of h,rfl⟩,q.sc ok (y:=.int z.length) (by rw[e.1];exact .int _) w⟩
 |[.scr z],r,w=>
  obtain⟨x,ex,r1⟩:=r.one;subst ex;clear r;have r:=r1;clear r1
  obtain⟨p,o,rfl,h⟩:=r.scr_i
  exact .inl ⟨_,_,rfl,.inl ⟨_,.inl (.inr ⟨o,h⟩),rfl⟩,q.sc ok (y:=.int z.length) (by rw[List.length_map];exact .int _) w⟩
 |[.dct z],r,w=>
  obtain⟨x,ex,r1⟩:=r.one;subst ex;clear r;have r:=r1;clear r1
  obtain⟨p,ks,rfl,h,e⟩:=r.dct_i
  have e1:z.length=ks.length:=by simpa using congrArg List.length e.1
  exact .inr ⟨p,ks,rfl,h,q.sc ok (y:=.int z.length) (by rw[e1];exact .int _) w⟩
noncomputable def max2O:List PV→M PV
 |[.int i,.int j]=>.ret (.int (if j > i then j else i))
 |_=>.fail
noncomputable def min2O:List PV→M PV
 |[.int i,.int j]=>.ret (.int (if j < i then j else i))
 |_=>.fail
theorem cv_max2:CallV (fun xs H Q=> ∃ i j,xs=[.int i,.int j]∧Q (.int (if j > i then j else i)) H) max2O:=fun φ G O H n R Q l xs pr dm ok r w q=>by
 match l,r,w with
 |[.int i,.int j],r,w=>obtain⟨x,x',ex,r1,r'⟩:=r.two;subst ex;clear r;have r:=r1;clear r1;rw[r.int_i,r'.int_i];exact⟨i,j,rfl,q.sc ok (.int _) w⟩
theorem cv_min2:CallV (fun xs H Q=> ∃ i j,xs=[.int i,.int j]∧Q (.int (if j < i then j else i)) H) min2O:=fun φ G O H n R Q l xs pr dm ok r w q=>by
 match l,r,w with
 |[.int i,.int j],r,w=>obtain⟨x,x',ex,r1,r'⟩:=r.two;subst ex;clear r;have r:=r1;clear r1;rw[r.int_i,r'.int_i];exact⟨i,j,rfl,q.sc ok (.int _) w⟩
noncomputable def intO:List PV→M PV
 |[.int i]=>.ret (.int i)
 |[.bl k]=>.ret (.int (if k then 1 else 0))
 |_=>.fail
theorem cv_int:CallV (fun xs H Q=>(∃ i,xs=[.int i]∧Q (.int i) H)∨∃ k,xs=[.bl k]∧Q (.int (if k then 1 else 0)) H) intO:=fun φ G O H n R Q l xs pr dm ok r w q=>by
 match l,r,w with
 |[.int i],r,w=>obtain⟨x,ex,r1⟩:=r.one;subst ex;clear r;have r:=r1;clear r1;rw[r.int_i];exact .inl ⟨i,rfl,q.sc ok (.int _) w⟩
 |[.bl i],r,w=>obtain⟨x,ex,r1⟩:=r.one;subst ex;clear r;have r:=r1;clear r1;rw[r.bl_i];exact .inr ⟨i,rfl,q.sc ok (.int _) w⟩
noncomputable def tupO:List PV→M PV
 |[.lst l]=>.ret (.tup l)
 |[.tup l]=>.ret (.tup l)
 |_=>.fail
theorem cv_tup {K:PySem.W.Frag}:CallV (fun xs H Q=> ∃ p ys,xs=[.ref p]∧((SqL K H p ys∧∀ l,H l=none→Q (.ref l) (upd H l (.tup ys)))∨(SqT K H p ys∧Q (.ref p) H))) tupO:=fun φ G O H n R Q l xs pr dm ok r w q=>by
 match l,r,w with
 |[.lst z],r,w=>
  obtain⟨x,ex,r1⟩:=r.one;subst ex;clear r;have r:=r1;clear r1
  obtain⟨p,xs,rfl,h,e⟩:=r.lst_i
  exact⟨p,xs,rfl,.inl ⟨SqL.of h,fun l hl=>q.tup ok dm hl (pr _ G.pB) e w⟩⟩
 |[.tup z],r,w=>
  obtain⟨x,ex,r1⟩:=r.one;subst ex;clear r;have r:=r1;clear r1
  obtain⟨p,xs,rfl,h,e⟩:=r.tup_i
  cases r with
  |full r=>exact⟨p,xs,rfl,.inr ⟨SqT.of h,q.sc ok r w⟩⟩
noncomputable def tyN:PV→Option String
 | .non=>some "NoneType"
 | .bl _=>some "bool"
 | .int _=>some "int"
 | .str _=>some "str"
 | .tup _=>some "tuple"
 | .lst _=>some "list"
 | .scr _=>some "list"
 | .dct _=>some "dict"
 | .bag=>none
noncomputable def inst (T:String) (t:String):Bool:=t==T||(t=="bool"&&T=="int")
noncomputable def isiO (T:String) (y:PV):M PV:=(M.ofO (tyN y)).bind fun t=>.ret (.bl (inst T t))
def KitOk (T:String):Prop:= ∀ (K:PySem.W.Frag) (t:String),t∈["NoneType","bool","int","str","tuple","list","dict"]→PySem.W.kitOne K (.type t) (.type T)=some (inst T t)
theorem kit_bool:KitOk "bool":=fun K t h=>by
 simp only[List.mem_cons,List.not_mem_nil,or_false] at h
 rcases h with rfl|rfl|rfl|rfl|rfl|rfl|rfl<;>rfl
theorem tyOf_rep {K:PySem.W.Frag} {G:Bg φ} {O:Addr→Prop} {H:Hp} {y:PV} {x:V} {t:String} (r:RepB G O H y x) (e:tyN y=some t):TyOf K H x (.type t)∧t∈["NoneType","bool","int","str","tuple","list","dict"]:=by
 cases y with
 |non=>cases e;rw[r.non_i];exact⟨.non,by decide⟩
 |bl b=>cases e;rw[r.bl_i];exact⟨.bl b,by decide⟩
 |int i=>cases e;rw[r.int_i];exact⟨.int i,by decide⟩
 |str z=>cases e;rw[r.str_i];exact⟨.str z,by decide⟩
 |tup l=>cases e;obtain⟨p,xs,rfl,h,_⟩:=r.tup_i;exact⟨.tup h,by decide⟩
 |lst l=>cases e;obtain⟨p,xs,rfl,h,_⟩:=r.lst_i;exact⟨.lst h,by decide⟩
 |dct l=>cases e;obtain⟨p,xs,rfl,h,_⟩:=r.dct_i;exact⟨.dK h,by decide⟩
 |scr l=>cases e;obtain⟨p,o,rfl,h⟩:=r.scr_i;exact⟨.frz h,by decide⟩
 |bag=>cases e
theorem ev_isi {e:Expr} {T:String} {ma:PEnv→M PV} (h:BE X e (tCB (fun xs H Q=> ∃ x T t b,xs=[x,.ty T]∧TyOf X.K H x t∧PySem.W.kitOne X.K t (.type T)=some b∧Q (.bl b) H) (tCons (teB φ ma) (tCons (tC (.ty T)) tNil)))) (hk:KitOk T):EV φ X e (fun ρ=>(ma ρ).bind (isiO T)):=BE.mono h fun σ H Q hq0=>by
 obtain⟨G,O,ρ,n,R,s,w,q⟩:=hq0
 rw[M.wZ] at w
 refine⟨G,O,ρ,n,_,s,w,fun y x H1 n1 e1 ok1 r1 w1=>?_⟩
 unfold isiO at w1
 cases et:tyN y with
 |none=>rw[et] at w1;exact w1.elim
 |some t=>
  rw[et] at w1
  obtain⟨a1,a2⟩:=tyOf_rep (K:=X.K) r1 et
  exact⟨x,T,_,_,rfl,a1,hk X.K t a2,q _ _ _ _ e1 ok1 (.bl _) w1⟩
end
end
section
variable {φ:Fam}
noncomputable def spP (φ:Fam) (f:List PV→M PV):Sp:=fun vs H Q _=> ∃ (G:Bg φ) (O:Addr→Prop) (l:List PV) (n:Nat) (R:PV→Nat→Prop),(∀ p,G.priv p→O p)∧(∀ p,O p→∃ o,H p=some o)∧G.ok H n∧Reps G.B O H l vs∧(f l).wp n R∧Wish G O H R Q
section
variable {X:Cx} {e:Expr} {es:List Expr} {ml:PEnv→M (List PV)} {f:List PV→M PV}
theorem ev_call (h:BE X e (tCall (spP φ f) [] E0 (taP φ ml))):EV φ X e (fun ρ=>(ml ρ).bind f):=BE.mono h fun σ H Q hq0=>by
 obtain⟨G,O,ρ,n,R,s,w,q⟩:=hq0
 rw[M.wZ] at w
 refine⟨G,O,ρ,n,_,s,w,fun l xs H1 n1 e1 ok1 r1 w1=>?_⟩
 show spP φ f (xs++[]) H1 Q E0
 rw[List.append_nil]
 exact⟨G,O,l,n1,R,s.pr,(s.ext e1 ok1).dm,ok1,r1,w1,fun y x H' n' e o r h=>q y x H' n' (e1.trans e) o r h⟩
def SlV (r:V→Option Int→Option Int→Hp→VK→Prop) (op:PV→Option Int→Option Int→M PV):Prop:= ∀ (φ:Fam) (G:Bg φ) (O:Addr→Prop) (H:Hp) (n:Nat) (R:PV→Nat→Prop) (Q:VK) (y:PV) (lo hi:Option Int) (x:V),
 (∀ p,G.priv p→O p)→(∀ p,O p→∃ o,H p=some o)→G.ok H n→RepB G O H y x→(op y lo hi).wp n R→Wish G O H R Q→r x lo hi H Q
def WishO (G:Bg φ) (H:Hp) (R:Option Int→Nat→Prop) (Q:Option Int→Hp→Prop):Prop:= ∀ (o:Option Int) (H':Hp) (n':Nat),Ext G.B H H'→G.ok H' n'→R o n'→Q o H'
noncomputable def toP (φ:Fam) (m:PEnv→M (Option Int)):TO:=fun σ H Q=> ∃ (G:Bg φ) (O:Addr→Prop) (ρ:PEnv) (n:Nat) (R:Option Int→Nat→Prop),ES G O H σ ρ n∧(m ρ).wp n R∧WishO G H R Q
def OV (φ:Fam) (X:Cx) (e:Option Expr) (m:PEnv→M (Option Int)):Prop:=BO X e (toP φ m)
theorem BO.mono {e:Option Expr} {t t':TO} (h:BO X e t) (f: ∀ σ H Q,t' σ H Q→t σ H Q):BO X e t':=⟨fun pZ s σ H Q I q=>h.out pZ s σ H Q I (f σ H Q q)⟩
theorem ov_none:OV φ X none (fun _=>.ret none):=BO.mono ⟨po_none⟩ fun σ H Q ⟨G,O,ρ,n,R,s,w,q⟩=>q none H n (Ext.refl _ _) s.ok w
noncomputable def intM:PV→M Int
 | .int i=>.ret i
 |_=>.fail
theorem ov_some (h:EB φ X e m):OV φ X (some e) (fun ρ=>(m ρ).bind fun y=>(intM y).bind fun i=>.ret (some i)):=BO.mono ⟨po_some h.out⟩ fun σ H Q hq0=>by
 obtain⟨G,O,ρ,n,R,s,w,q⟩:=hq0
 rw[M.wZ] at w
 refine⟨G,O,ρ,n,_,s,w,fun y x H1 n1 e1 ok1 r1 w1=>?_⟩
 cases y<;>first|exact w1.elim|skip
 rename_i i
 rw[r1.int_i]
 exact⟨i,rfl,q _ _ _ e1 ok1 w1⟩
noncomputable def sl3 (op:PV→Option Int→Option Int→M PV) (me:PEnv→M PV) (ml mh:PEnv→M (Option Int)):PEnv→M PV:=fun ρ=>(me ρ).bind fun y=>(ml ρ).bind fun lo=>(mh ρ).bind fun hi=>op y lo hi
theorem ev_slice {r:V→Option Int→Option Int→Hp→VK→Prop} {op:PV→Option Int→Option Int→M PV} {me:PEnv→M PV} {ml mh:PEnv→M (Option Int)} (h:BE X e (tSl r (teB φ me) (toP φ ml) (toP φ mh))) (hv:SlV r op):EV φ X e (sl3 op me ml mh):=BE.mono h fun σ H Q hq0=>by
 obtain⟨G,O,ρ,n,R,s,w,q⟩:=hq0
 unfold sl3 at w
 rw[M.wZ] at w
 refine⟨G,O,ρ,n,_,s,w,fun y x H1 n1 e1 ok1 r1 w1=>?_⟩
 rw[M.wZ] at w1
 refine⟨G,O,ρ,n1,_,s.ext e1 ok1,w1,fun lo H2 n2 e2 ok2 w2=>?_⟩
 rw[M.wZ] at w2
 refine⟨G,O,ρ,n2,_,s.ext (e1.trans e2) ok2,w2,fun hi H3 n3 e3 ok3 w3=>?_⟩
 exact hv φ G O H3 n3 R Q y lo hi x s.pr (s.ext (e1.trans (e2.trans e3)) ok3).dm ok3 (r1.ext s.B (e2.trans e3)) w3 fun y x H' n' e o r h=>q y x H' n' (e1.trans (e2.trans (e3.trans e))) o r h
noncomputable def cutP (l:List PV) (lo hi:Option Int):List PV:=(l.drop (HT.sIx l.length 0 lo)).take (HT.sIx l.length l.length hi - HT.sIx l.length 0 lo)
theorem cut_reps (h:Reps B O H l xs) (lo hi:Option Int):Reps B O H (cutP l lo hi) (cutV xs lo hi):=by
 unfold cutP cutV
 rw[←h.1]
 exact(h.drop _).take _
theorem cutP_whole (l:List PV) (lo hi:Option Int) (h:HT.sIx l.length 0 lo=0∧HT.sIx l.length l.length hi=l.length):cutP l lo hi=l:=by
 unfold cutP
 rw[h.1,h.2]
 simp
noncomputable def rSlD (K:PySem.W.Frag):V→Option Int→Option Int→Hp→VK→Prop:=fun x lo hi H Q=>rSlL K x lo hi H Q∨rSlT K x lo hi H Q
theorem sl_D:SlR X (rSlD X.K):=sl_list.or sl_tup
noncomputable def signsP (x:Str):List PV:=x.cps.toList.map fun c=>.str ⟨#[c]⟩
noncomputable def intsP (lo:Int) (n:Nat):List PV:=(List.range n).map fun i=>.int (lo+(i:Nat))
inductive ItOf (K:PySem.W.Frag) (G:Bg φ) (O:Addr→Prop) (c:Bool) (H:Hp):List PV→It→Prop where
 |lst {p:Addr} {xs:List V} {l:List PV} (np: ¬ G.priv p) (hp:c=true→¬ O p) (h:H p=some (.lst xs)) (r:Reps G.B O H l xs):ItOf K G O c H l (Itl K p)
 |tup {p:Addr} {xs:List V} {l:List PV} (hp: ¬ O p) (h:H p=some (.tup xs)) (r:Reps G.B O H l xs):ItOf K G O c H l (Itt K p)
 |txt (x:Str):ItOf K G O c H (signsP x) (Itx x)
 |rng (lo:Int) (n:Nat):ItOf K G O c H (intsP lo n) (Itr lo n)
theorem itl_go {K:PySem.W.Frag} {H:Hp} {p:Addr} {xs:List V} (h:H p=some (.lst xs)) {i:Nat} (hi:i < xs.length):(Itl K p).go i H:=⟨xs,xs[i],SqL.of h,by simp[hi]⟩
theorem itt_go {K:PySem.W.Frag} {H:Hp} {p:Addr} {xs:List V} (h:H p=some (.tup xs)) {i:Nat} (hi:i < xs.length):(Itt K p).go i H:=⟨xs,xs[i],SqT.of h,by simp[hi]⟩
theorem ItOf.go {K:PySem.W.Frag} {G:Bg φ} {O:Addr→Prop} {c:Bool} {H:Hp} {l:List PV} {J:It} (t:ItOf K G O c H l J) {i:Nat} {y:PV} (hi:l[i]?=some y):J.go i H∧∀ x H2,J.yld i H x H2→H2=H∧Rep G.B O H y x:=by
 have hl:i < l.length:=(List.getElem?_eq_some_iff.mp hi).1
 cases t with
 |lst np hp h r=>
  refine⟨itl_go h (r.1▸hl),fun x H2 z=>?_⟩
  obtain⟨e,z⟩:=z
  exact⟨e,r.2 i y x hi (z _ (SqL.of h))⟩
 |tup hp h r=>
  refine⟨itt_go h (r.1▸hl),fun x H2 z=>?_⟩
  obtain⟨e,z⟩:=z
  exact⟨e,r.2 i y x hi (z _ (SqT.of h))⟩
 |txt z=>
  unfold signsP at hi hl
  refine⟨by show i < z.cps.size;simpa using hl,fun x H2 q=>?_⟩
  obtain⟨e,c',hc,rfl⟩:=q
  refine⟨e,?_⟩
  rw[List.getElem?_map] at hi
  have:z.cps.toList[i]?=some c':=by simpa using hc
  rw[this] at hi
  cases hi
  exact .str _
 |rng lo n=>
  unfold intsP at hi hl
  have hn:i < n:=by simpa using hl
  refine⟨hn,fun x H2 q=>?_⟩
  obtain⟨e,rfl⟩:=q
  refine⟨e,?_⟩
  rw[List.getElem?_map,List.getElem?_range hn] at hi
  cases hi
  exact .int _
theorem ItOf.stop {K:PySem.W.Frag} {G:Bg φ} {O:Addr→Prop} {c:Bool} {H:Hp} {l:List PV} {J:It} (t:ItOf K G O c H l J):J.stop l.length H:=by
 cases t with
 |lst np hp h r=>exact⟨_,SqL.of h,Nat.le_of_eq r.1.symm⟩
 |tup hp h r=>exact⟨_,SqT.of h,Nat.le_of_eq r.1.symm⟩
 |txt z=>show (signsP z).length=z.cps.size;simp[signsP]
 |rng lo n=>show n≤(intsP lo n).length;simp[intsP]
theorem ItOf.keepS {K:PySem.W.Frag} {G:Bg φ} {O O':Addr→Prop} {c:Bool} {H H':Hp} {l:List PV} {J:It} (t:ItOf K G O c H l J) (k: ∀ p o,¬ O p→H p=some o→Stand H' p o∧¬ O' p) (k2:c=true∨∀ p xs,¬ G.priv p→H p=some (.lst xs)→H' p=some (.lst xs)) (hc: ∀ p,c=true→¬ O p→¬ O' p):ItOf K G O' c H' l J:=by
 cases t with
 |lst np hp h r=>
  refine .lst np (fun z=>hc _ z (hp z)) ?_ (r.keepS k)
  rcases k2 with z|z
  ·exact(k _ _ (hp z) h).1
  ·exact z _ _ np h
 |tup hp h r=>exact .tup (k _ _ hp h).2 (k _ _ hp h).1 (r.keepS k)
 |txt z=>exact .txt z
 |rng lo n=>exact .rng lo n
theorem ItOf.keep {K:PySem.W.Frag} {G:Bg φ} {O O':Addr→Prop} {c:Bool} {H H':Hp} {l:List PV} {J:It} (t:ItOf K G O c H l J) (k: ∀ p o,¬ O p→H p=some o→H' p=some o∧¬ O' p) (k2:c=true∨∀ p xs,¬ G.priv p→H p=some (.lst xs)→H' p=some (.lst xs)) (hc: ∀ p,c=true→¬ O p→¬ O' p):ItOf K G O' c H' l J:=t.keepS (fun p o n q=>⟨.of (k p o n q).1,(k p o n q).2⟩) k2 hc
noncomputable def tiP (φ:Fam) (K:PySem.W.Frag) (c:Bool) (m:PEnv→M (List PV)):TI:=fun σ H Q=> ∃ (G:Bg φ) (O:Addr→Prop) (ρ:PEnv) (n:Nat) (R:List PV→Nat→Prop),ES G O H σ ρ n∧(m ρ).wp n R∧
 ∀ (l:List PV) (J:It) (H':Hp) (n':Nat),Ext G.B H H'→G.ok H' n'→ItOf K G O c H' l J→R l n'→Q J H'
def IV (φ:Fam) (X:Cx) (c:Bool) (tg iter:Expr) (m:PEnv→M (List PV)):Prop:=BI X tg iter (tiP φ X.K c m)
noncomputable def iterO:PV→M (List PV)
 | .lst l=>.ret l
 | .tup l=>.ret l
 | .str x=>.ret (signsP x)
 |_=>.fail
theorem pi_seq (hl:PE X l tl):PI X tg l (fun σ H R=>tl σ H fun x H1=>(∃ a,x= .ref a∧(∃ xs,SqL X.K H1 a xs)∧R (Itl X.K a) H1)∨(∃ a,x= .ref a∧(∃ xs,SqT X.K H1 a xs)∧R (Itt X.K a) H1)∨∃ z,x= .str z∧R (Itx z) H1):=by
 intro pZ s σ H R I h
 refine thn (hl pZ s σ H _ I h) fun v s1 ⟨x,H1,I1,r1,q1⟩=>?_
 rcases q1 with⟨a,e,⟨xs,hq⟩,q⟩|⟨a,e,⟨xs,hq⟩,q⟩|⟨z,e,q⟩
 ·subst e
  cases r1
  obtain⟨its,rv,p,hz⟩:=I1.list hq
  refine wpAny_pyIter_list p.isList ?_
  refine⟨s1.heap.objs.size,[s1.heap.objs.size],_,_,H1,rfl,I1.kept (t':=s1.toks) fun b o e=>Heap.get?_push_of_some _ e,turn_list a _,⟨_,Heap.get?_push_size _ rfl,rfl,rfl⟩,fun b hb=>?_,q⟩
  have e:b=s1.heap.objs.size:=by simpa using hb
  subst e
  exact I1.fpOk (Nat.le_refl _) (I1.hok.fresh (Nat.le_refl _))
 ·subst e
  cases r1
  obtain⟨its,rv,p,hz⟩:=I1.tuple hq
  refine wpAny_pyIter_tuple (show s1.heap.IsTuple a its.toArray from p) ?_
  refine⟨s1.heap.objs.size,[s1.heap.objs.size],_,_,H1,rfl,I1.kept (t':=s1.toks) fun b o e=>Heap.get?_push_of_some _ e,turn_tuple a _,⟨_,Heap.get?_push_size _ rfl,rfl,rfl⟩,fun b hb=>?_,q⟩
  have e:b=s1.heap.objs.size:=by simpa using hb
  subst e
  exact I1.fpOk (Nat.le_refl _) (I1.hok.fresh (Nat.le_refl _))
 ·subst e
  obtain⟨t,rfl⟩:=r1
  have fin: ∀ (o:Obj) (ty:String),o.cls= .type ty→o.data= .fields #[.str z t,.int (0:Nat) 0]→Turn X.prog X.w X.K tg (Itx z) [s1.heap.objs.size] s1.heap.objs.size (fun i h=>h.IsStrIter s1.heap.objs.size ty z t i)→o.isFreed=false→
    PIE X pZ σ tg R (.ref s1.heap.objs.size) {s1 with heap:=s1.heap.push o}:=fun o ty h1 h2 T hfr=>by
   refine⟨s1.heap.objs.size,[s1.heap.objs.size],_,_,H1,rfl,I1.kept (t':=s1.toks) fun b o e=>Heap.get?_push_of_some _ e,T,⟨_,Heap.get?_push_size _ hfr,h1,h2⟩,fun b hb=>?_,q⟩
   have e:b=s1.heap.objs.size:=by simpa using hb
   subst e
   exact I1.fpOk (Nat.le_refl _) (I1.hok.fresh (Nat.le_refl _))
  cases ha:z.cps.all (· < 128)
  ·exact wpAny_pyIter_wide ha (fin _ _ rfl rfl (turn_text _ z t (by decide) (fun A hA=>Walks.strWide hA _ z t) fun _ _ _ _ _ st h=>wpAny_pyIter_striter_wide st h) rfl)
  ·exact wpAny_pyIter_ascii ha (fin _ _ rfl rfl (turn_text _ z t (by decide) (fun A hA=>Walks.strAscii hA _ z t) fun _ _ _ _ _ st h=>wpAny_pyIter_striter_ascii st h) rfl)
theorem BI.mono {tg iter:Expr} {t t':TI} (h:BI X tg iter t) (f: ∀ σ H Q,t' σ H Q→t σ H Q):BI X tg iter t':=⟨fun pZ s σ H Q I q=>h.out pZ s σ H Q I (f σ H Q q)⟩
theorem iv_b (h:EB φ X e m):IV φ X false tg e (fun ρ=>(m ρ).bind iterO):=BI.mono ⟨pi_seq h.out⟩ fun σ H Q hq0=>by
 obtain⟨G,O,ρ,n,R,s,w,q⟩:=hq0
 rw[M.wZ] at w
 refine⟨G,O,ρ,n,_,s,w,fun y x H1 n1 e1 ok1 r1 w1=>?_⟩
 cases y<;>first|exact w1.elim|skip
 ·rw[r1.str_i]
  exact .inr (.inr ⟨_,rfl,q _ _ _ _ e1 ok1 (.txt _) w1⟩)
 ·cases r1 with
  |full r1=>cases r1 with
   |tup a b c d=>exact .inr (.inl ⟨_,rfl,⟨_,SqT.of b⟩,q _ _ _ _ e1 ok1 (.tup a b ⟨c,d⟩) w1⟩)
 ·cases r1 with
  |full r1=>cases r1 with
   |lst a b c d=>exact .inl ⟨_,rfl,⟨_,SqL.of b⟩,q _ _ _ _ e1 ok1 (.lst (fun z=>a (s.pr _ z)) (fun z=>by cases z) b ⟨c,d⟩) w1⟩
  |top a b c=>exact .inl ⟨_,rfl,⟨_,SqL.of b⟩,q _ _ _ _ e1 ok1 (.lst a (fun z=>by cases z) b c) w1⟩
theorem iv_v (h:EV φ X e m):IV φ X true tg e (fun ρ=>(m ρ).bind iterO):=BI.mono ⟨pi_seq h.out⟩ fun σ H Q hq0=>by
 obtain⟨G,O,ρ,n,R,s,w,q⟩:=hq0
 rw[M.wZ] at w
 refine⟨G,O,ρ,n,_,s,w,fun y x H1 n1 e1 ok1 r1 w1=>?_⟩
 cases r1 with
 |str z=>exact .inr (.inr ⟨_,rfl,q _ _ _ _ e1 ok1 (.txt _) w1⟩)
 |tup a b c d=>exact .inr (.inl ⟨_,rfl,⟨_,SqT.of b⟩,q _ _ _ _ e1 ok1 (.tup a b ⟨c,d⟩) w1⟩)
 |lst a b c d=>exact .inl ⟨_,rfl,⟨_,SqL.of b⟩,q _ _ _ _ e1 ok1 (.lst (fun z=>a (s.pr _ z)) (fun _=>a) b ⟨c,d⟩) w1⟩
 |_=>exact w1.elim
noncomputable def rng1O:List PV→M (List PV)
 |[.int j]=>if -1000000≤j∧j≤100000 then .ret (intsP 0 j.toNat) else .fail
 |_=>.fail
theorem iv_rng1 (h:BI X tg e (iRng1 (taB φ ml))):IV φ X c tg e (fun ρ=>(ml ρ).bind rng1O):=BI.mono h fun σ H Q hq0=>by
 obtain⟨G,O,ρ,n,R,s,w,q⟩:=hq0
 rw[M.wZ] at w
 refine⟨G,O,ρ,n,_,s,w,fun l xs H1 n1 e1 ok1 r1 w1=>?_⟩
 match l,r1,w1 with
 |[.int j],r1,w1=>
  obtain⟨x,rfl,r2⟩:=r1.one
  rw[r2.int_i]
  unfold rng1O at w1
  dsimp only at w1
  by_cases hc: -1000000≤j∧j≤100000
  ·rw[if_pos hc] at w1
   have e62:(2:Int) ^ 62=4611686018427387904:=by decide
   exact⟨j,rfl,by lia,by lia,q _ _ _ _ e1 ok1 (.rng 0 j.toNat) w1⟩
  ·rw[if_neg hc] at w1;exact w1.elim
noncomputable def tgP (φ:Fam) (b:PV→PEnv→M PEnv):TG:=fun v σ H Q=> ∃ (G:Bg φ) (O:Addr→Prop) (ρ:PEnv) (n:Nat) (R:PEnv→Nat→Prop) (y:PV),ES G O H σ ρ n∧Rep G.B O H y v∧(b y ρ).wp n R∧
 ∀ (σ':St) (ρ':PEnv) (n':Nat),ES G O H σ' ρ' n'→R ρ' n'→Q σ' H
def GV (φ:Fam) (X:Cx) (tg:Expr) (b:PV→PEnv→M PEnv):Prop:=BG X tg (tgP φ b)
theorem EnvRep.set (h:EnvRep G O H σ ρ) (k:Nat) (r:EntRep G O H t (some x)):EnvRep G O H (σ.set k (some x)) (ρ.set k t):=by
 refine⟨by simp[h.1],fun i e he=>?_⟩
 by_cases hk:k=i
 ·subst hk
  have hl:k < ρ.length:=by have:=(List.getElem?_eq_some_iff.mp he).1;simpa using this
  rw[List.getElem?_set_self hl] at he
  cases he
  rw[List.getElem?_set_self (h.1▸hl)]
  exact r
 ·rw[List.getElem?_set_ne hk] at he ⊢
  exact h.2 i e he
theorem ES.set (s:ES G O H σ ρ n) (k:Nat) (r:EntRep G O H t (some x)):ES G O H (σ.set k (some x)) (ρ.set k t) n:=⟨s.er.set k r,s.ok,s.pr,s.dm⟩
noncomputable def bindN (k:Nat) (y:PV) (ρ:PEnv):M PEnv:=.ret (ρ.set k (.val y))
theorem BG.mono {tg:Expr} {t t':TG} (h:BG X tg t) (f: ∀ v σ H Q,t' v σ H Q→t v σ H Q):BG X tg t':=⟨fun pZ s σ H v u Q I r q=>h.out pZ s σ H v u Q I r (f v σ H Q q)⟩
theorem gv_name (h:BG X tg (gName k)):GV φ X tg (bindN k):=BG.mono h fun v σ H Q ⟨G,O,ρ,n,R,y,s,r,w,q⟩=>q _ _ n (s.set k (t:=.val y) ⟨v,rfl,r⟩) w
noncomputable def bindsN:List Nat→List PV→PEnv→PEnv
 |k::ks,y::l,ρ=>bindsN ks l (ρ.set k (.val y))
 |_,_,ρ=>ρ
noncomputable def bindT (ks:List Nat) (y:PV) (ρ:PEnv):M PEnv:=match y with
 | .tup l=>if l.length=ks.length then .ret (bindsN ks l ρ) else .fail
 |_=>.fail
noncomputable def gNames:List Nat→TGs
 |[]=>gNil
 |k::ks=>gCons (gName k) (gNames ks)
noncomputable def lcM (bd:PV→PEnv→M PEnv) (tt:PEnv→M Bool) (te:PEnv→M PV):List PV→PEnv→M (List PV)
 |[],_=>.ret []
 |y::r,ρ=>(bd y ρ).bind fun ρ1=>(tt ρ1).bind fun ok=>if ok=true then(te ρ1).bind fun z=>(lcM bd tt te r ρ1).bind fun l=>.ret (z::l) else lcM bd tt te r ρ1
noncomputable def capP (js:List (Option Nat)) (ρ:PEnv):PEnv:=js.map fun o=>match o with|some j=>(ρ[j]?).getD .un|none=>.un
theorem capP_rep (h:EnvRep G O H σ ρ) (js:List (Option Nat)):EnvRep G O H (capSt js σ) (capP js ρ):=by
 refine⟨by simp[capSt,capP],fun i e he=>?_⟩
 unfold capP at he
 unfold capSt
 rw[List.getElem?_map] at he ⊢
 cases q:js[i]? with
 |none=>rw[q] at he;cases he
 |some o=>
  rw[q] at he
  simp only[Option.map_some,Option.some.injEq] at he ⊢
  subst he
  cases o with
  |none=>trivial
  |some j=>
   dsimp only
   cases q2:ρ[j]? with
   |none=>rw[Option.getD_none];trivial
   |some t=>
    have:=h.2 j t q2
    rw[Option.getD_some]
    simpa using this
def allTs:PEnv→M Bool:=fun _=>.ret true
theorem BTs.mono {ifs:List Expr} {t t':TT} (h:BTs X ifs t) (f: ∀ σ H Q,t' σ H Q→t σ H Q):BTs X ifs t':=⟨fun pZ s σ H Q I q=>h.out pZ s σ H Q I (f σ H Q q)⟩
def TsV (φ:Fam) (X:Cx) (ifs:List Expr) (m:PEnv→M Bool):Prop:=BTs X ifs (ttP φ m)
theorem ts_nil:TsV φ X [] allTs:=BTs.mono ⟨pts_nil⟩ fun σ H Q ⟨G,O,ρ,n,R,s,w,q⟩=>q true H n (Ext.refl _ _) s.ok w
theorem ts_one (h:TV φ X c m):TsV φ X [c] m:=⟨pts_one h.out⟩
noncomputable def mkLC (js:List (Option Nat)) (mi:PEnv→M (List PV)) (bd:PV→PEnv→M PEnv) (tt:PEnv→M Bool) (te:PEnv→M PV):PEnv→M (List PV):=fun ρ=>(mi ρ).bind fun l=>if l.length≤100000 then lcM bd tt te l (capP js ρ) else .fail
noncomputable def Bg.with (G:Bg φ) (D:Addr) (hD:D≠G.B):Bg φ where
 B:=G.B
 priv:=fun p=>G.priv p∨p=D
 ok:=fun H n=>G.ok H n∧∃ ys,H D=some (.lst ys)
 pB:=.inl G.pB
 keep:=fun H H' n k h=>⟨G.keep H H' n (fun p o z=>k p o (z.imp .inl id)) h.1,by obtain⟨ys,e⟩:=h.2;exact⟨ys,k D _ (.inl (.inr rfl)) e⟩⟩
 tp:=fun e he=>.inl (G.tp e he)
 tab:=fun H n h=>G.tab H n h.1
 tset:=fun H H' n h h1 h2=>⟨G.tset H H' n h.1 h1 h2,by
  obtain⟨ys,e⟩:=h.2
  refine⟨ys,h2 D _ (fun z=>?_) e⟩
  obtain⟨q,hq,rfl⟩:=List.mem_map.mp z
  obtain⟨ps,e2,_⟩:=G.tab H n h.1 q hq
  rw[e] at e2;cases e2⟩
 dom:=fun H n p h z=>by
  rcases z with z|z
  ·exact G.dom H n p h.1 z
  ·subst z;obtain⟨ys,e⟩:=h.2;exact⟨_,e⟩
 dr:=fun H n m Q E h h0 h1 q=>G.dr H n m Q E h.1 h0 h1 fun d H' d0 d1 e o=>q d H' d0 d1 e ⟨o,by
  obtain⟨ys,e2⟩:=h.2
  exact⟨ys,e D _ hD e2⟩⟩
theorem ES.nB (s:ES G O H σ ρ n) (hD:H D=none): ¬ O D∧D≠G.B:=by
 have nD: ¬ O D:=fun z=>by obtain⟨o,g⟩:=s.dm D z;rw[hD] at g;cases g
 exact⟨nD,fun z=>nD (s.pr _ (z▸G.pB))⟩
theorem lc_gen {js:List (Option Nat)} {bd:PV→PEnv→M PEnv} {tt:PEnv→M Bool} {te:PEnv→M PV} {G:Bg φ} {O:Addr→Prop} {ρ:PEnv} {n1:Nat} {R:List PV→Nat→Prop} {l:List PV} {J:It} {H1:Hp} {σ:St} {D:Addr} {Q:VK} (hD:H1 D=none) (s1:ES G O H1 σ ρ n1) (hBD:D≠G.B) (IT:Hp→Prop)
  (it0:(∀ p o,¬ O p→H1 p=some o→upd H1 D (HO.lst []) p=some o∧¬ (O p∨p=D))→(∀ p o,H1 p=some o→p≠D)→IT (upd H1 D (.lst [])))
  (st: ∀ H2 H3,IT H2→(∀ p o,p≠G.B→p≠D→H2 p=some o→Stand H3 p o)→IT H3)
  (go: ∀ H2 i y,IT H2→l[i]?=some y→J.go i H2∧∀ x H3,J.yld i H2 x H3→(H3=H2∧Rep G.B (fun p=>O p∨p=D) H2 y x)∨∃ T us vs,x= .ref T∧H2 T=none∧H3=upd H2 T (.tup vs)∧y= .tup us∧Reps G.B (fun p=>O p∨p=D) H2 us vs)
  (stp: ∀ H2,IT H2→J.stop l.length H2) (hl:l.length≤100000) (w1:(lcM bd tt te l (capP js ρ)).wp n1 R)
  (q: ∀ zs ys H' n',Ext G.B H1 H'→G.ok H' n'→H' D=some (.lst ys)→Reps G.B (fun p=>O p∨p=D) H' zs ys→R zs n'→Q (.ref D) H'):LcW J D (tgP φ bd) (ttP φ tt) (teP φ te) Q (capSt js σ) H1:=by
 have nD:=(s1.nB hD).1
 have pD: ¬ G.priv D:=fun z=>nD (s1.pr _ z)
 have hne: ∀ p o,H1 p=some o→p≠D:=fun p o hp z=>by subst z;rw[hD] at hp;cases hp
 let O':Addr→Prop:=fun p=>O p∨p=D
 let G':Bg φ:=G.with D hBD
 have k0: ∀ p o,¬ O p→H1 p=some o→upd H1 D (HO.lst []) p=some o∧¬ O' p:=fun p o np hp=>⟨by rw[upd_ne (hne p o hp)];exact hp,fun z=>by
  rcases z with z|z
  ·exact np z
  ·exact hne p o hp z⟩
 have kD: ∀ (H5:Hp) (o:HO) p u,¬ O' p→H5 p=some u→upd H5 D o p=some u∧¬ O' p:=fun H5 o p u np hp=>⟨by rw[upd_ne (fun z=>np (.inr z))];exact hp,np⟩
 refine⟨fun i m σ' H'=>m=l.length - i∧i≤l.length∧∃ (ys:List V) (zs:List PV) (ρ':PEnv) (n':Nat),ys.length≤i∧H' D=some (.lst ys)∧Reps G.B O' H' zs ys∧ES G' O' H' σ' ρ' n'∧Ext G.B H1 H'∧IT H'∧
  (lcM bd tt te (l.drop i) ρ').wp n' (fun t k=>R (zs++t) k),⟨l.length,by simp,Nat.zero_le _,[],[],capP js ρ,n1,Nat.le_refl _,upd_same,.nil,?_,Ext.new hD _,it0 k0 hne,?_⟩,?_⟩
 ·have er:=capP_rep s1.er js
  refine⟨⟨er.1,fun i e he=>?_⟩,⟨Bg.new s1.ok hD _,[],upd_same⟩,fun p z=>?_,fun p z=>?_⟩
  ·have r1:=er.2 i e he
   cases e with
   |un=>trivial
   |val y=>obtain⟨x,hx,rr⟩:=r1;exact⟨x,hx,rr.keep k0⟩
   |own t=>
    obtain⟨p,xs,hx,hp,np,hh,rr⟩:=r1
    exact⟨p,xs,hx,.inl hp,fun z=>by
     rcases z with z|z
     ·exact np z
     ·exact hne p _ hh z,by rw[upd_ne (hne p _ hh)];exact hh,rr.keep k0⟩
   |ownD t=>
    obtain⟨p,xs,hx,hp,np,hh,rr⟩:=r1
    exact⟨p,xs,hx,.inl hp,fun z=>by
     rcases z with z|z
     ·exact np z
     ·exact hne p _ hh z,by rw[upd_ne (hne p _ hh)];exact hh,rr.keep k0⟩
  ·rcases z with z|z
   ·exact .inl (s1.pr p z)
   ·exact .inr z
  ·rcases z with z|z
   ·obtain⟨o,g⟩:=s1.dm p z;exact⟨o,by rw[upd_ne (hne p o g)];exact g⟩
   ·subst z;exact⟨_,upd_same⟩
 ·simpa using w1
 ·rintro i m σ' H' ⟨rfl,hi,ys,zs,ρ',n',hy,hDy,rz,s',ex,it',w'⟩
  by_cases hlt:i < l.length
  ·have hget:l[i]?=some l[i]:=List.getElem?_eq_getElem hlt
   have hdrop:l.drop i=l[i]::l.drop (i+1):=List.drop_eq_getElem_cons hlt
   rw[hdrop] at w'
   unfold lcM at w'
   obtain⟨g1,g2⟩:=go H' i _ it' hget
   refine .inr ⟨g1,fun x H2 yl=>?_⟩
   obtain⟨e0,ok0,rx⟩:Ext G.B H' H2∧G'.ok H2 n'∧Rep G'.B O' H2 l[i] x:=by
    rcases g2 x H2 yl with⟨rfl,rx⟩|⟨T,us,vs,rfl,hT,rfl,ey,rr⟩
    ·exact⟨fun p o _ h=>.of h,s'.ok,rx⟩
    ·have e0:Ext G.B H' (upd H' T (.tup vs)):=Ext.new hT _
     refine⟨e0,Bg.new s'.ok hT _,?_⟩
     rw[ey]
     exact .tup (fun z=>by obtain⟨o,g⟩:=s'.dm T z;rw[hT] at g;cases g) upd_same rr.1 (rr.ext s'.B e0).2
   have DT:H2 D=some (.lst ys):=e0 D _ hBD hDy
   have s'':=s'.ext e0 ok0
   rw[M.wZ] at w'
   refine⟨G',O',ρ',n',_,l[i],s'',rx,w',fun σ2 ρ2 n2 s2 w2=>?_⟩
   rw[M.wZ] at w2
   refine⟨G',O',ρ2,n2,_,s2,w2,fun ok H4 n4 e4 ok4 w4=>?_⟩
   have D4:H4 D=some (.lst ys):=e4 D _ hBD DT
   have e04:=e0.trans e4
   have it4:IT H4:=st H' H4 it' fun p o np _ hp=>e04 p o np hp
   cases ok with
   |true=>
    simp only[if_true] at w4 ⊢
    rw[M.wZ] at w4
    refine⟨G',O',ρ2,n4,_,s2.ext e4 ok4,w4,fun z x5 H5 n5 e5 ok5 r5 w5=>?_⟩
    have D5:H5 D=some (.lst ys):=e5 D _ hBD D4
    rw[M.wZ] at w5
    have s5:=s2.ext (e4.trans e5) ok5
    refine⟨ys,D5,by rw[sizeLine_eq];lia,l.length - (i+1),by lia,rfl,hlt,ys++[x5],zs++[z],ρ2,n5,by simp;lia,upd_same,?_,?_,?_,st H4 _ it4 fun p o np nd hp=>(e5 p o np hp).to fun u e=>.of (by rw[upd_ne nd];exact e),?_⟩
    ·exact((rz.ext (.inl s1.B) (e04.trans e5)).append (.cons r5 .nil)).keep (kD H5 _)
    ·refine⟨⟨s5.er.1,fun j e he=>?_⟩,⟨G.keep H5 _ _ (fun p o hp hpo=>by
      have hpd:p≠D:=fun z=>by
       rcases hp with hp|hp
       ·exact pD (z▸hp)
       ·rw[z,D5] at hpo;cases hpo;exact hp
      rw[upd_ne hpd];exact hpo) ok5.1,_,upd_same⟩,s5.pr,fun p hp=>?_⟩
     ·have r1:=s5.er.2 j e he
      cases e with
      |un=>trivial
      |val y=>obtain⟨x,hx,rr⟩:=r1;exact⟨x,hx,rr.keep (kD H5 _)⟩
      |own t=>
       obtain⟨p,xs,hx,hp,np,hh,rr⟩:=r1
       exact⟨p,xs,hx,hp,np,by rw[upd_ne (fun z=>np (.inr z))];exact hh,rr.keep (kD H5 _)⟩
      |ownD t=>
       obtain⟨p,xs,hx,hp,np,hh,rr⟩:=r1
       exact⟨p,xs,hx,hp,np,by rw[upd_ne (fun z=>np (.inr z))];exact hh,rr.keep (kD H5 _)⟩
     ·by_cases hpd:p=D
      ·subst hpd;exact⟨_,upd_same⟩
      ·obtain⟨o,g⟩:=s5.dm p hp;exact⟨o,by rw[upd_ne hpd];exact g⟩
    ·intro p o np hp
     exact((ex.trans (e04.trans e5)) p o np hp).to fun u e=>.of (by rw[upd_ne (hne p o hp)];exact e)
    ·refine M.wp_mono w5 fun t k' hk=>?_
     have hk':R (zs++z::t) k':=hk
     simpa using hk'
   |false=>
    exact⟨l.length - (i+1),by lia,rfl,hlt,ys,zs,ρ2,n4,by lia,D4,rz.ext (.inl s1.B) e04,s2.ext e4 ok4,ex.trans e04,it4,w4⟩
  ·have e:i=l.length:=by lia
   subst e
   refine .inl ⟨stp H' it',?_⟩
   rw[List.drop_length] at w'
   have w2:R (zs++[]) n':=w'
   rw[List.append_nil] at w2
   exact q zs ys H' n' ex s'.ok.1 hDy rz w2
theorem lc_in {K:PySem.W.Frag} {js:List (Option Nat)} {mi:PEnv→M (List PV)} {bd:PV→PEnv→M PEnv} {tt:PEnv→M Bool} {te:PEnv→M PV}: ∀ σ H Q,teF φ (mkLC js mi bd tt te) σ H Q→tLC js (tiP φ K false mi) (tgP φ bd) (ttP φ tt) (teP φ te) σ H Q:=fun σ H Q hq0=>by
 obtain⟨G,O,ρ,n,R,s,w,q⟩:=hq0
 unfold mkLC at w
 rw[M.wZ] at w
 refine⟨G,O,ρ,n,_,s,w,fun l J H1 n1 e1 ok1 it w1=>fun D hD=>?_⟩
 by_cases hl:l.length≤100000
 case neg=>rw[if_neg hl] at w1;exact w1.elim
 rw[if_pos hl] at w1
 have s1:=s.ext e1 ok1
 have hBD:=(s1.nB hD).2
 refine lc_gen hD s1 hBD (fun H=>ItOf K (G.with D hBD) (fun p=>O p∨p=D) false H l J) (fun k0 hne=>?_) (fun H2 H3 it k=>it.keepS (fun p o np hp=>⟨k p o (fun z=>np (.inl (z▸s.B))) (fun z=>np (.inr z)) hp,np⟩) (.inr fun p xs np hp=>k p _ (fun z=>np (z▸(G.with D hBD).pB)) (fun z=>np (.inr z)) hp) fun p z=>by cases z) (fun H2 i y it hi=>⟨(it.go hi).1,fun x H3 yl=>.inl ((it.go hi).2 x H3 yl)⟩) (fun H2 it=>it.stop) hl w1 fun zs ys H' n' ex ok' hDy rz w2=>q zs D ys H' n' (e1.trans ex) ok' (new_before e1 ok1 hD) hDy rz w2
 cases it with
 |lst np hp h r=>
  exact .lst (fun z=>by
   rcases z with z|z
   ·exact np z
   ·exact hne _ _ h z) (fun z=>by cases z) (by rw[upd_ne (hne _ _ h)];exact h) (r.keep k0)
 |tup hp h r=>exact .tup (k0 _ _ hp h).2 (k0 _ _ hp h).1 (r.keep k0)
 |txt z=>exact .txt z
 |rng lo n=>exact .rng lo n
theorem ef_lc (h:BE X e (tLC js (tiP φ X.K false mi) (tgP φ bd) (ttP φ tt) (teP φ te))):EF φ X e (mkLC js mi bd tt te):=BE.mono h lc_in
end
end
section
variable {φ:Fam}
set_option genInjectivity true in
inductive Fl where
 |nx (ρ:PEnv)|rt (y:PV)|bk (ρ:PEnv)|ct (ρ:PEnv)
noncomputable def Ent.isOwn:Ent→Bool
 | .own _=>true
 | .ownD _=>true
 |_=>false
noncomputable def Ent.freeze:Ent→Ent
 | .own l=>.val (.lst l)
 | .ownD l=>.val (.dct l)
 |e=>e
def OwnAt (ρ:PEnv) (σ:St) (i:Nat) (p:Addr):Prop:= ∃ t,ρ[i]?=some t∧t.isOwn=true∧σ[i]?=some (some (.ref p))
structure SI (G:Bg φ) (O0:Addr→Prop) (H0:Hp) (O:Addr→Prop) (H:Hp) (σ:St) (ρ:PEnv) (n:Nat):Prop where
 es:ES G O H σ ρ n
 p0: ∀ p,G.priv p→O0 p
 sub: ∀ p,O0 p→O p
 ext:Ext G.B H0 H
 gr: ∀ p,O p→O0 p∨H0 p=none
 d0: ∀ p,O0 p→∃ o,H0 p=some o
 fr: ∀ i p,OwnAt ρ σ i p→H0 p=none
 dj: ∀ i j p,OwnAt ρ σ i p→OwnAt ρ σ j p→i=j
section
variable {G:Bg φ} {O0 O:Addr→Prop} {H0 H H':Hp} {σ:St} {ρ:PEnv} {n n':Nat}
theorem SI.to (s:SI G O0 H0 O H σ ρ n) (x:Ext G.B H H') (ok:G.ok H' n'):SI G O0 H0 O H' σ ρ n':=⟨s.es.ext x ok,s.p0,s.sub,s.ext.trans x,s.gr,s.d0,s.fr,s.dj⟩
theorem own_set (ht:t.isOwn=false) (h:OwnAt (ρ.set k t) (σ.set k o) i p):OwnAt ρ σ i p:=by
 obtain⟨e,h1,h2,h3⟩:=h
 by_cases hk:k=i
 ·subst hk
  rw[List.getElem?_set] at h1
  split at h1
  ·split at h1
   ·cases h1;rw[ht] at h2;cases h2
   ·cases h1
  ·exact⟨e,h1,h2,by rw[List.getElem?_set_ne (by lia)] at h3;exact h3⟩
 ·rw[List.getElem?_set_ne hk] at h1 h3
  exact⟨e,h1,h2,h3⟩
theorem SI.setV (s:SI G O0 H0 O H σ ρ n) (k:Nat) (r:Rep G.B O H y x):SI G O0 H0 O H (σ.set k (some x)) (ρ.set k (.val y)) n:=
 ⟨s.es.set k (t:=.val y) ⟨x,rfl,r⟩,s.p0,s.sub,s.ext,s.gr,s.d0,fun i p h=>s.fr i p (own_set rfl h),fun i j p h h'=>s.dj i j p (own_set rfl h) (own_set rfl h')⟩
theorem ownAt_O (s:ES G O H σ ρ n) (h:OwnAt ρ σ i p):O p∧¬ G.priv p∧∃ o,H p=some o:=by
 obtain⟨t,h1,h2,h3⟩:=h
 have r:=s.er.2 i t h1
 rw[h3] at r
 cases t with
 |own l=>obtain⟨q,xs,e,a,b,c,_⟩:=r;cases e;exact⟨a,b,_,c⟩
 |ownD l=>obtain⟨q,xs,e,a,b,c,_⟩:=r;cases e;exact⟨a,b,_,c⟩
 |_=>cases h2
theorem ownAt_nf (s:ES G O H σ ρ n) (h:OwnAt ρ σ i p) (e:H p=some o): ¬ IsFz o:=by
 obtain⟨t,h1,h2,h3⟩:=h
 have r:=s.er.2 i t h1
 rw[h3] at r
 cases t with
 |own l=>obtain⟨q,xs,e',a,b,c,_⟩:=r;cases e';rw[c] at e;cases e;exact id
 |ownD l=>obtain⟨q,xs,e',a,b,c,_⟩:=r;cases e';rw[c] at e;cases e;exact id
 |_=>cases h2
theorem SI.setO (s:SI G O0 H0 O H σ ρ n) (k:Nat) (x:Ext G.B H H') (ok:G.ok H' n') (hp:H p=none) (hp':H' p=some (.lst xs)) (r:Reps G.B (fun q=>O q∨q=p) H' l xs):
  SI G O0 H0 (fun q=>O q∨q=p) H' (σ.set k (some (.ref p))) (ρ.set k (.own l)) n':=by
 have nO: ¬ O p:=fun z=>by obtain⟨o,g⟩:=s.es.dm p z;rw[hp] at g;cases g
 have np: ¬ G.priv p:=fun z=>nO (s.es.pr p z)
 have h0:H0 p=none:=by
  cases e:H0 p with
  |none=>rfl
  |some o=>obtain⟨_,this⟩:=(s.ext p o (fun z=>np (z▸G.pB)) e).there;rw[hp] at this;cases this
 have hB:O G.B:=s.es.B
 have gw: ∀ q,(O q∨q=p)→O q∨H q=none:=fun q z=>by
  rcases z with z|z
  ·exact .inl z
  ·subst z;exact .inr hp
 have s':=s.es.ext x ok
 have es:ES G (fun q=>O q∨q=p) H' σ ρ n':=by
  refine⟨⟨s.es.er.1,fun i e he=>?_⟩,ok,fun q z=>.inl (s.es.pr q z),fun q z=>?_⟩
  ·have r1:=s.es.er.2 i e he
   cases e with
   |un=>trivial
   |val y=>obtain⟨v,hv,rr⟩:=r1;exact⟨v,hv,(rr.grow gw).ext (.inl hB) x⟩
   |own t=>
    obtain⟨q,ys,hv,hq,nq,hh,rr⟩:=r1
    exact⟨q,ys,hv,.inl hq,nq,x q _ (fun z=>nq (z▸G.pB)) hh,(rr.grow gw).ext (.inl hB) x⟩
   |ownD t=>
    obtain⟨q,ys,hv,hq,nq,hh,rr⟩:=r1
    exact⟨q,ys,hv,.inl hq,nq,x q _ (fun z=>nq (z▸G.pB)) hh,⟨rr.1,fun i a b c d=>((rr.2 i a b c d).grow gw).ext (.inl hB) x⟩⟩
  ·rcases z with z|z
   ·exact s'.dm q z
   ·subst z;exact⟨_,hp'⟩
 have ow: ∀ i q,OwnAt (ρ.set k (.own l)) (σ.set k (some (.ref p))) i q→(i=k∧q=p)∨(i≠k∧OwnAt ρ σ i q):=fun i q h=>by
  obtain⟨t,h1,h2,h3⟩:=h
  by_cases hk:k=i
  ·subst hk
   rw[List.getElem?_set] at h3
   split at h3
   ·split at h3
    ·cases h3;exact .inl ⟨rfl,rfl⟩
    ·cases h3
   ·rename_i hh;exact absurd rfl hh
  ·rw[List.getElem?_set_ne hk] at h1 h3
   exact .inr ⟨fun z=>hk z.symm,t,h1,h2,h3⟩
 refine⟨es.set k (t:=.own l) ⟨p,xs,rfl,.inr rfl,np,hp',r⟩,s.p0,fun q z=>.inl (s.sub q z),s.ext.trans x,fun q z=>?_,s.d0,fun i q h=>?_,fun i j q h h'=>?_⟩
 ·rcases z with z|z
  ·exact s.gr q z
  ·subst z;exact .inr h0
 ·rcases ow i q h with⟨_,rfl⟩|⟨_,h⟩
  ·exact h0
  ·exact s.fr i q h
 ·rcases ow i q h with⟨rfl,rfl⟩|⟨n1,h1⟩
  ·rcases ow j q h' with⟨rfl,_⟩|⟨n2,h2⟩
   ·rfl
   ·obtain⟨_,_,o,g⟩:=ownAt_O s.es h2;rw[hp] at g;cases g
  ·rcases ow j q h' with⟨rfl,rfl⟩|⟨n2,h2⟩
   ·obtain⟨_,_,o,g⟩:=ownAt_O s.es h1;rw[hp] at g;cases g
   ·exact s.dj i j q h1 h2
theorem SI.put (s:SI G O0 H0 O H σ ρ n) (hk:ρ[k]?=some (.own l)) (hp:σ[k]?=some (some (.ref p))) (r:Reps G.B O H l' xs'):SI G O0 H0 O (upd H p (.lst xs')) σ (ρ.set k (.own l')) n:=by
 have ho:OwnAt ρ σ k p:=⟨_,hk,rfl,hp⟩
 obtain⟨hO,np,o,hh⟩:=ownAt_O s.es ho
 have nfz:=ownAt_nf s.es ho hh
 have kp: ∀ q u,¬ O q→H q=some u→upd H p (.lst xs') q=some u∧¬ O q:=fun q u nq hq=>⟨by
  have hne:q≠p:=fun z=>nq (z▸hO)
  rw[upd_ne hne];exact hq,nq⟩
 have ow: ∀ i q,OwnAt (ρ.set k (.own l')) σ i q→OwnAt ρ σ i q:=fun i q h=>by
  obtain⟨t,h1,h2,h3⟩:=h
  by_cases e:k=i
  ·subst e;exact⟨_,hk,rfl,h3⟩
  ·rw[List.getElem?_set_ne e] at h1;exact⟨t,h1,h2,h3⟩
 refine⟨⟨⟨by simp[s.es.er.1],fun i e he=>?_⟩,G.keep H _ _ (fun q u hq hu=>by
   have hne:q≠p:=fun z=>by
    rcases hq with hq|hq
    ·exact np (z▸hq)
    ·rw[z,hh] at hu;cases hu;exact nfz hq
   rw[upd_ne hne];exact hu) s.es.ok,s.es.pr,fun q hq=>?_⟩,s.p0,s.sub,fun q u nb hq=>?_,s.gr,s.d0,fun i q h=>s.fr i q (ow i q h),fun i j q h h'=>s.dj i j q (ow i q h) (ow j q h')⟩
 ·by_cases e1:k=i
  ·subst e1
   have hl:k < ρ.length:=(List.getElem?_eq_some_iff.mp hk).1
   rw[List.getElem?_set_self hl] at he
   cases he
   rw[hp]
   exact⟨p,xs',rfl,hO,np,upd_same,r.keep kp⟩
  ·rw[List.getElem?_set_ne e1] at he
   have r1:=s.es.er.2 i e he
   cases e with
   |un=>trivial
   |val y=>obtain⟨v,hv,rr⟩:=r1;exact⟨v,hv,rr.keep kp⟩
   |own t=>
    obtain⟨q,ys,hv,hq,nq,hh',rr⟩:=r1
    have hne:q≠p:=fun z=>by
     subst z
     exact e1 (s.dj k i q ho ⟨_,he,rfl,sig_of s.es.er he hv⟩)
    exact⟨q,ys,hv,hq,nq,by rw[upd_ne hne];exact hh',rr.keep kp⟩
   |ownD t=>
    obtain⟨q,ys,hv,hq,nq,hh',rr⟩:=r1
    have hne:q≠p:=fun z=>by
     subst z
     exact e1 (s.dj k i q ho ⟨_,he,rfl,sig_of s.es.er he hv⟩)
    exact⟨q,ys,hv,hq,nq,by rw[upd_ne hne];exact hh',rr.keep kp⟩
 ·by_cases e1:q=p
  ·subst e1;exact⟨_,upd_same⟩
  ·obtain⟨u,g⟩:=s.es.dm q hq;exact⟨u,by rw[upd_ne e1];exact g⟩
 ·have hne:q≠p:=fun z=>by subst z;rw[s.fr k q ho] at hq;cases hq
  exact(s.ext q u nb hq).to fun v e=>.of (by rw[upd_ne hne];exact e)
theorem SI.frozen (s:SI G O0 H0 O H σ ρ n):ES G O0 H σ (ρ.map Ent.freeze) n:=by
 refine⟨⟨by simp[s.es.er.1],fun i e he=>?_⟩,s.es.ok,s.p0,fun p h=>s.es.dm p (s.sub p h)⟩
 rw[List.getElem?_map] at he
 cases q:ρ[i]? with
 |none=>rw[q] at he;cases he
 |some t=>
  rw[q] at he
  cases he
  have r1:=s.es.er.2 i t q
  cases t with
  |un=>trivial
  |val y=>obtain⟨v,hv,rr⟩:=r1;exact⟨v,hv,rr.less s.sub⟩
  |own t=>
   obtain⟨p,ys,hv,hq,nq,hh',rr⟩:=r1
   have h0:=s.fr i p ⟨_,q,rfl,sig_of s.es.er q hv⟩
   exact⟨_,hv,.lst (fun z=>by obtain⟨o,g⟩:=s.d0 p z;rw[h0] at g;cases g) hh' rr.1 (rr.less s.sub).2⟩
  |ownD t=>
   obtain⟨p,ys,hv,hq,nq,hh',rr⟩:=r1
   have h0:=s.fr i p ⟨_,q,rfl,sig_of s.es.er q hv⟩
   exact⟨_,hv,.dct (fun z=>by obtain⟨o,g⟩:=s.d0 p z;rw[h0] at g;cases g) (.inl hh') rr.1 fun i a b c d=>(rr.2 i a b c d).less s.sub⟩
noncomputable def hide (O0 O:Addr→Prop) (H:Hp):Hp:=fun p=>by
 classical exact if O p∧¬ O0 p then none else H p
theorem hide_in (h:O p) (h': ¬ O0 p):hide O0 O H p=none:=by unfold hide;rw[if_pos ⟨h,h'⟩]
theorem hide_out (h: ¬ (O p∧¬ O0 p)):hide O0 O H p=H p:=by unfold hide;rw[if_neg h]
theorem SI.now (s:SI G O0 H0 O H σ ρ n):SI G O0 (hide O0 O H) O H σ ρ n:=by
 refine⟨s.es,s.p0,s.sub,fun p o nb h=>?_,fun p h=>?_,fun p h=>?_,fun i p h=>?_,s.dj⟩
 ·by_cases c:O p∧¬ O0 p
  ·rw[hide_in c.1 c.2] at h;cases h
  ·rw[hide_out c] at h;exact .of h
 ·by_cases c:O0 p
  ·exact .inl c
  ·exact .inr (hide_in h c)
 ·rw[hide_out (fun z=>z.2 h)];exact s.es.dm p (s.sub p h)
 ·have h1:=ownAt_O s.es h
  have h0:=s.fr i p h
  exact hide_in h1.1 (fun z=>by obtain⟨o,g⟩:=s.d0 p z;rw[h0] at g;cases g)
theorem SI.base (s:SI G O0 H0 O H σ ρ n):Ext G.B H0 (hide O0 O H):=fun p o nb h=>by
 have c: ¬ (O p∧¬ O0 p):=fun z=>by
  rcases s.gr p z.1 with w|w
  ·exact z.2 w
  ·rw[w] at h;cases h
 exact(s.ext p o nb h).to fun v e=>.of (by rw[hide_out c];exact e)
theorem SI.back (s:SI G O0 H0 O H σ ρ n) (x:SI G O0 (hide O0 O H) O' H1 σ' ρ' n'):SI G O0 H0 O' H1 σ' ρ' n':=by
 have none0: ∀ p,¬ G.priv p→hide O0 O H p=none→H0 p=none:=fun p np h=>by
  cases e:H0 p with
  |none=>rfl
  |some o=>obtain⟨_,this⟩:=(s.base p o (fun z=>np (z▸G.pB)) e).there;rw[h] at this;cases this
 refine⟨x.es,x.p0,x.sub,s.base.trans x.ext,fun p h=>?_,s.d0,fun i p h=>none0 p (ownAt_O x.es h).2.1 (x.fr i p h),x.dj⟩
 by_cases c:O0 p
 ·exact .inl c
 ·rcases x.gr p h with w|w
  ·exact .inl w
  ·exact .inr (none0 p (fun z=>c (s.p0 p z)) w)
theorem SI.walk {K:PySem.W.Frag} {H1:Hp} {O':Addr→Prop} {σ':St} {ρ':PEnv} {l:List PV} {J:It} (s:SI G O0 H0 O H σ ρ n) (x:SI G O0 (hide O0 O H) O' H1 σ' ρ' n') (it:ItOf K G O true H l J):ItOf K G O' true H1 l J:=by
 have k: ∀ p o,¬ O p→H p=some o→Stand H1 p o∧¬ O' p:=fun p o np hp=>by
  have e:hide O0 O H p=some o:=by rw[hide_out (fun z=>np z.1)];exact hp
  refine⟨x.ext p o (fun z=>np (z▸s.es.B)) e,fun z=>?_⟩
  rcases x.gr p z with w|w
  ·exact np (s.sub p w)
  ·rw[w] at e;cases e
 cases it with
 |lst np hp h r=>exact .lst np (fun _=>(k _ _ (hp rfl) h).2) (k _ _ (hp rfl) h).1 (r.keepS k)
 |tup hp h r=>exact .tup (k _ _ hp h).2 (k _ _ hp h).1 (r.keepS k)
 |txt z=>exact .txt z
 |rng lo n=>exact .rng lo n
end
noncomputable def FlOk (G:Bg φ) (O0:Addr→Prop) (H0:Hp) (D:Ends) (n:Nat):Fl→Prop
 | .nx ρ=> ∀ O σ H,SI G O0 H0 O H σ ρ n→D.nx σ H
 | .bk ρ=> ∀ O σ H,SI G O0 H0 O H σ ρ n→D.bk σ H
 | .ct ρ=> ∀ O σ H,SI G O0 H0 O H σ ρ n→D.ct σ H
 | .rt y=> ∀ x H,Ext G.B H0 H→G.ok H n→Rep G.B O0 H y x→D.rt x H
noncomputable def tsP (φ:Fam) (m:PEnv→M Fl):TS:=fun D σ H=> ∃ (G:Bg φ) (O0:Addr→Prop) (H0:Hp) (O:Addr→Prop) (ρ:PEnv) (n:Nat),SI G O0 H0 O H σ ρ n∧(m ρ).wp n fun f n'=>FlOk G O0 H0 D n' f
def SV (φ:Fam) (X:Cx) (st:Stmt) (m:PEnv→M Fl):Prop:=BS X st (tsP φ m)
def SsV (φ:Fam) (X:Cx) (sts:List Stmt) (m:PEnv→M Fl):Prop:=BSs X sts (tsP φ m)
section
variable {X:Cx} {st:Stmt} {sts:List Stmt}
theorem BS.mono (h:BS X st t) (f: ∀ D σ H,t' D σ H→t D σ H):BS X st t':=⟨fun pZ s σ H D I q=>h.out pZ s σ H D I (f D σ H q)⟩
theorem BSs.mono (h:BSs X sts t) (f: ∀ D σ H,t' D σ H→t D σ H):BSs X sts t':=⟨fun pZ s σ H D I q=>h.out pZ s σ H D I (f D σ H q)⟩
noncomputable def seqP (m1 m2:PEnv→M Fl):PEnv→M Fl:=fun ρ=>(m1 ρ).bind fun f=>match f with| .nx ρ'=>m2 ρ'|o=>.ret o
theorem ss_nil:SsV φ X [] (fun ρ=>.ret (.nx ρ)):=BSs.mono ⟨pss_nil⟩ fun D σ H ⟨G,O0,H0,O,ρ,n,s,w⟩=>w O σ H s
theorem ss_one (h:SV φ X st m):SsV φ X [st] m:=⟨pss_one h.out⟩
theorem ss_cons (h:SV φ X st m1) (h':SsV φ X sts m2):SsV φ X (st::sts) (seqP m1 m2):=BSs.mono ⟨pss_cons h.out h'.out⟩ fun D σ H hq0=>by
 obtain⟨G,O0,H0,O,ρ,n,s,w⟩:=hq0
 unfold seqP at w
 rw[M.wZ] at w
 refine⟨G,O0,H0,O,ρ,n,s,M.wp_mono w fun f n' h=>?_⟩
 cases f with
 |nx ρ'=>exact fun O' σ' H' s'=>⟨G,O0,H0,O',ρ',n',s',h⟩
 |rt y=>exact h
 |bk ρ'=>exact h
 |ct ρ'=>exact h
noncomputable def setP (k:Nat) (m:PEnv→M PV):PEnv→M Fl:=fun ρ=>(m ρ).bind fun y=>.ret (.nx (ρ.set k (.val y)))
theorem sv_set (h:BS X st (tAsg (teP φ m) (gName k))):SV φ X st (setP k m):=BS.mono h fun D σ H hq0=>by
 obtain⟨G,O0,H0,O,ρ,n,s,w⟩:=hq0
 unfold setP at w
 rw[M.wZ] at w
 exact⟨G,O,ρ,n,_,s.es,w,fun y x H1 n1 e1 ok1 r1 w1=>w1 O _ _ ((s.to e1 ok1).setV k r1)⟩
noncomputable def ownP (k:Nat) (m:PEnv→M (List PV)):PEnv→M Fl:=fun ρ=>(m ρ).bind fun l=>.ret (.nx (ρ.set k (.own l)))
theorem sv_own (h:BS X st (tAsg (teF φ m) (gName k))):SV φ X st (ownP k m):=BS.mono h fun D σ H hq0=>by
 obtain⟨G,O0,H0,O,ρ,n,s,w⟩:=hq0
 unfold ownP at w
 rw[M.wZ] at w
 exact⟨G,O,ρ,n,_,s.es,w,fun l p xs H1 n1 e1 ok1 hp hp' r1 w1=>w1 _ _ _ (s.setO k e1 ok1 hp hp' r1)⟩
theorem asg_lc (h:BS X st (tAsg (tLC js (tiP φ X.K false mi) (tgP φ bd) (ttP φ tt) (teP φ te)) (gName k))):BS X st (tAsg (teF φ (mkLC js mi bd tt te)) (gName k)):=
 BS.mono h fun D σ H q=>lc_in σ H _ q
noncomputable def lstV (m:PEnv→M (List PV)):PEnv→M PV:=fun ρ=>(m ρ).bind fun l=>.ret (.lst l)
theorem asg_v (h:BS X st (tAsg (teF φ m) (gName k))):BS X st (tAsg (teP φ (lstV m)) (gName k)):=BS.mono h fun D σ H hq0=>by
 obtain⟨G,O,ρ,n,R,s,w,q⟩:=hq0
 unfold lstV at w
 rw[M.wZ] at w
 refine⟨G,O,ρ,n,_,s,w,fun l p xs H' n' a b c d e f=>q (.lst l) _ H' n' a b (.lst (fun z=>?_) d e.1 (e.less fun q z=>.inl z).2) f⟩
 obtain⟨o,g⟩:=s.dm p z
 rw[c] at g;cases g
theorem gNames_si {G:Bg φ}: ∀ (ks:List Nat) (l:List PV) (xs:List V) (σ:St) (ρ:PEnv) (Q:St→Hp→Prop),l.length=ks.length→Reps G.B O H l xs→SI G O0 H0 O H σ ρ n→(∀ σ',SI G O0 H0 O H σ' (bindsN ks l ρ) n→Q σ' H)→gNames ks xs σ H Q
 |[],l,xs,σ,ρ,Q,hl,r,s,q=>by
  have e:l=[]:=List.eq_nil_of_length_eq_zero hl
  subst e
  rw[r.nil_inv]
  exact⟨rfl,q σ s⟩
 |k::ks,l,xs,σ,ρ,Q,hl,r,s,q=>by
  cases l with
  |nil=>simp at hl
  |cons y l=>
   obtain⟨x,t,rfl,r1,r2⟩:=r.cons_inv
   exact⟨x,t,rfl,gNames_si ks l t _ _ Q (by simpa using hl) r2 (s.setV k r1) q⟩
theorem tup_si {K:PySem.W.Frag} {G:Bg φ} {O0 O:Addr→Prop} {H0 H:Hp} {n:Nat} {ks:List Nat} {y:PV} {x:V} {σ:St} {ρ:PEnv} {R:PEnv→Nat→Prop} {Q:St→Hp→Prop} (s:SI G O0 H0 O H σ ρ n) (r:Rep G.B O H y x) (w:(bindT ks y ρ).wp n R) (q: ∀ σ' ρ',SI G O0 H0 O H σ' ρ' n→R ρ' n→Q σ' H):gTup K ks.length (gNames ks) x σ H Q:=by
 unfold bindT at w
 cases r with
 | @tup p xs l a b c d=>
  dsimp only at w
  by_cases hc:l.length=ks.length
  ·rw[if_pos hc] at w
   exact⟨p,xs,rfl,SqT.of b,by rw[←c];exact hc,gNames_si ks l xs σ ρ Q hc ⟨c,d⟩ s fun σ' s'=>q σ' _ s' w⟩
  ·rw[if_neg hc] at w;exact w.elim
 |_=>exact w.elim
noncomputable def parP (i j:Nat) (m:PEnv→M (List PV)):PEnv→M Fl:=fun ρ=>(m ρ).bind fun l=>match l with|[y,z]=>.ret (.nx ((ρ.set i (.val y)).set j (.val z)))|_=>.fail
theorem sv_par (h:BS X st (tPar i j (taP φ m))):SV φ X st (parP i j m):=BS.mono h fun D σ H hq0=>by
 obtain⟨G,O0,H0,O,ρ,n,s,w⟩:=hq0
 unfold parP at w
 rw[M.wZ] at w
 refine⟨G,O,ρ,n,_,s.es,w,fun l xs H1 n1 e1 ok1 r1 w1=>?_⟩
 match l,r1,w1 with
 |[y,z],r1,w1=>
  obtain⟨x,t,rfl,h1,h2⟩:=r1.cons_inv
  obtain⟨x',t',rfl,h3,h4⟩:=h2.cons_inv
  rw[h4.nil_inv]
  exact⟨x,x',rfl,w1 O _ _ (((s.to e1 ok1).setV i h1).setV j h3)⟩
noncomputable def retP (m:PEnv→M PV):PEnv→M Fl:=fun ρ=>(m (ρ.map Ent.freeze)).bind fun y=>.ret (.rt y)
theorem sv_ret (h:BS X st (tRet (teP φ m))):SV φ X st (retP m):=BS.mono h fun D σ H hq0=>by
 obtain⟨G,O0,H0,O,ρ,n,s,w⟩:=hq0
 unfold retP at w
 rw[M.wZ] at w
 exact⟨G,O0,_,n,_,s.frozen,w,fun y x H1 n1 e1 ok1 r1 w1=>w1 x H1 (s.ext.trans e1) ok1 r1⟩
noncomputable def ifP (mc:PEnv→M Bool) (ma mb:PEnv→M Fl):PEnv→M Fl:=fun ρ=>(mc ρ).bind fun b=>if b=true then ma ρ else mb ρ
theorem sv_if (h:BS X st (tIfS (ttP φ mc) (tsP φ ma) (tsP φ mb))):SV φ X st (ifP mc ma mb):=BS.mono h fun D σ H hq0=>by
 obtain⟨G,O0,H0,O,ρ,n,s,w⟩:=hq0
 unfold ifP at w
 rw[M.wZ] at w
 refine⟨G,O,ρ,n,_,s.es,w,fun b H1 n1 e1 ok1 w1=>?_⟩
 cases b with
 |true=>exact⟨G,O0,H0,O,ρ,n1,s.to e1 ok1,w1⟩
 |false=>exact⟨G,O0,H0,O,ρ,n1,s.to e1 ok1,w1⟩
noncomputable def appP (k:Nat) (m:PEnv→M PV):PEnv→M Fl:=fun ρ=>match ρ[k]? with|some (.own l)=>(m ρ).bind fun y=>if l.length < 100000 then .ret (.nx (ρ.set k (.own (l++[y])))) else .fail|_=>.fail
theorem sv_app (h:BS X st (tDrop (tBM X.K "list" rAppend (tVar k) (tCons (teP φ m) tNil)))):SV φ X st (appP k m):=BS.mono h fun D σ H hq0=>by
 obtain⟨G,O0,H0,O,ρ,n,s,w⟩:=hq0
 unfold appP at w
 cases hk:ρ[k]? with
 |none=>simp only[hk] at w;exact w.elim
 |some t=>
  cases t with
  |own l=>
   simp only[hk] at w
   obtain⟨p,xs,hx,hO,np,hh,rr⟩:=s.es.er.2 k _ hk
   have hs:=sig_of s.es.er hk hx
   have npB:p≠G.B:=fun z=>np (z▸G.pB)
   rw[M.wZ] at w
   refine⟨_,hs,.inl ⟨rfl,xs,SqL.of hh⟩,G,O,ρ,n,_,s.es,w,fun y x H1 n1 e1 ok1 r1 w1=>?_⟩
   by_cases hc:l.length < 100000
   ·rw[if_pos hc] at w1
    have s1:=s.to e1 ok1
    have big:=big_le
    refine⟨p,xs,x,rfl,rfl,e1 p _ npB hh,by rw[←rr.1];lia,w1 O _ _ (s1.put hk hs ((rr.ext s.es.B e1).append (.cons r1 .nil)))⟩
   ·rw[if_neg hc] at w1;exact w1.elim
  |_=>simp only[hk] at w;exact w.elim
noncomputable def setiP (k:Nat) (mi mv:PEnv→M PV):PEnv→M Fl:=fun ρ=>(mv ρ).bind fun y=>match ρ[k]? with|some (.own l)=>(mi ρ).bind fun i=>(intM i).bind fun i=>(M.ofO (ixN l.length i)).bind fun j=>.ret (.nx (ρ.set k (.own (l.set j y))))|_=>.fail
theorem sv_seti (h:BS X st (tAsg (teP φ mv) (gSub (tVar k) (teB φ mi) rSetL))):SV φ X st (setiP k mi mv):=BS.mono h fun D σ H hq0=>by
 obtain⟨G,O0,H0,O,ρ,n,s,w⟩:=hq0
 unfold setiP at w
 rw[M.wZ] at w
 refine⟨G,O,ρ,n,_,s.es,w,fun y x H1 n1 e1 ok1 r1 w1=>?_⟩
 have s1:=s.to e1 ok1
 cases hk:ρ[k]? with
 |none=>simp only[hk] at w1;exact w1.elim
 |some t=>
  cases t with
  |own l=>
   simp only[hk] at w1
   obtain⟨p,xs,hx,hO,np,hh,rr⟩:=s1.es.er.2 k _ hk
   have hs:=sig_of s.es.er hk hx
   have npB:p≠G.B:=fun z=>np (z▸G.pB)
   rw[M.wZ] at w1
   refine⟨_,hs,G,O,ρ,n1,_,s1.es,w1,fun i x2 H2 n2 e2 ok2 r2 w2=>?_⟩
   cases i<;>first|exact w2.elim|skip
   rename_i i
   rw[r2.int_i]
   replace w2:((M.ofO (ixN l.length i)).bind fun j=>M.ret (.nx (ρ.set k (.own (l.set j y)))):M Fl).wp n2 (fun f n'=>FlOk G O0 H0 D n' f):=w2
   cases hj:ixN l.length i with
   |none=>rw[hj] at w2;exact w2.elim
   |some j=>
    rw[hj] at w2
    have s2:=s1.to e2 ok2
    exact⟨p,xs,i,j,rfl,rfl,e2 p _ npB hh,by rw[←rr.1];exact hj,w2 O _ _ (s2.put hk hs ((rr.ext s.es.B e2).set j (r1.ext s.es.B e2)))⟩
  |_=>simp only[hk] at w1;exact w1.elim
noncomputable def tgS (φ:Fam) (b:PV→PEnv→M PEnv):TG:=fun v σ H Q=> ∃ (G:Bg φ) (O0:Addr→Prop) (H0:Hp) (O:Addr→Prop) (ρ:PEnv) (n:Nat) (R:PEnv→Nat→Prop) (y:PV),SI G O0 H0 O H σ ρ n∧Rep G.B O H y v∧(b y ρ).wp n R∧
 ∀ (σ':St) (ρ':PEnv) (n':Nat),SI G O0 H0 O H σ' ρ' n'→R ρ' n'→Q σ' H
def GS (φ:Fam) (X:Cx) (tg:Expr) (b:PV→PEnv→M PEnv):Prop:=BG X tg (tgS φ b)
theorem gs_name (h:BG X tg (gName k)):GS φ X tg (bindN k):=BG.mono h fun v σ H Q ⟨G,O0,H0,O,ρ,n,R,y,s,r,w,q⟩=>q _ _ n (s.setV k r) w
theorem gs_tup (h:BG X tg (gTup X.K ks.length (gNames ks))):GS φ X tg (bindT ks):=BG.mono h fun v σ H Q ⟨G,O0,H0,O,ρ,n,R,y,s,r,w,q⟩=>tup_si s r w fun σ' ρ' s' h=>q σ' ρ' n s' h
noncomputable def forP (bd:PV→PEnv→M PEnv) (mb:PEnv→M Fl):List PV→PEnv→M Fl
 |[],ρ=>.ret (.nx ρ)
 |y::r,ρ=>(bd y ρ).bind fun ρ1=>(mb ρ1).bind fun f=>match f with
  | .nx ρ2=>forP bd mb r ρ2
  | .ct ρ2=>forP bd mb r ρ2
  | .bk ρ2=>.ret (.nx ρ2)
  | .rt v=>.ret (.rt v)
noncomputable def mkFor (mi:PEnv→M (List PV)) (bd:PV→PEnv→M PEnv) (mb:PEnv→M Fl):PEnv→M Fl:=fun ρ=>(mi ρ).bind fun l=>forP bd mb l ρ
theorem sv_for {mi:PEnv→M (List PV)} {bd:PV→PEnv→M PEnv} {mb:PEnv→M Fl} (h:BS X st (tFor (tiP φ X.K true mi) (tgS φ bd) (tsP φ mb))):SV φ X st (mkFor mi bd mb):=BS.mono h fun D σ H hq0=>by
 obtain⟨G,O0,H0,O,ρ,n,s,w⟩:=hq0
 unfold mkFor at w
 rw[M.wZ] at w
 refine⟨G,O,ρ,n,_,s.es,w,fun l J H1 n1 e1 ok1 it w1=>?_⟩
 have s1:=s.to e1 ok1
 refine⟨fun i m σ' H'=>m=l.length - i∧i≤l.length∧∃ (O':Addr→Prop) (ρ':PEnv) (n':Nat),SI G O0 (hide O0 O H1) O' H' σ' ρ' n'∧(forP bd mb (l.drop i) ρ').wp n' (fun f n'=>FlOk G O0 H0 D n' f),
  ⟨l.length,by simp,Nat.zero_le _,O,ρ,n1,s1.now,by simpa using w1⟩,?_⟩
 rintro i m σ' H' ⟨rfl,hi,O',ρ',n',s',w'⟩
 have it':=s1.walk s' it
 by_cases hlt:i < l.length
 ·have hget:l[i]?=some l[i]:=List.getElem?_eq_getElem hlt
  have hdrop:l.drop i=l[i]::l.drop (i+1):=List.drop_eq_getElem_cons hlt
  rw[hdrop] at w'
  unfold forP at w'
  obtain⟨g1,g2⟩:=it'.go hget
  refine .inr ⟨g1,fun σ2 H2=> ∃ (O':Addr→Prop) (ρ':PEnv) (n':Nat),SI G O0 (hide O0 O H1) O' H2 σ2 ρ' n'∧(forP bd mb (l.drop (i+1)) ρ').wp n' (fun f n'=>FlOk G O0 H0 D n' f),fun σ2 H2 hh=>⟨l.length - (i+1),by lia,rfl,hlt,hh⟩,fun x H2 yl=>?_⟩
  obtain⟨eH,rx⟩:=g2 x H2 yl
  subst eH
  rw[M.wZ] at w'
  refine⟨G,O0,_,O',ρ',n',_,l[i],s',rx,w',fun σ2 ρ2 n2 s2 w2=>?_⟩
  rw[M.wZ] at w2
  refine⟨G,O0,_,O',ρ2,n2,s2,M.wp_mono w2 fun f n3 w3=>?_⟩
  cases f with
  |nx ρ3=>exact fun O3 σ3 H3 s3=>⟨O3,ρ3,n3,s3,w3⟩
  |ct ρ3=>exact fun O3 σ3 H3 s3=>⟨O3,ρ3,n3,s3,w3⟩
  |bk ρ3=>exact fun O3 σ3 H3 s3=>w3 O3 σ3 H3 (s1.back s3)
  |rt y=>exact fun x3 H3 e3 ok3 r3=>w3 x3 H3 (s1.base.trans e3) ok3 r3
 ·have e:i=l.length:=by lia
  subst e
  rw[List.drop_length] at w'
  exact .inl ⟨it'.stop,w' O' σ' H' (s1.back s')⟩
noncomputable def whP (mt:PEnv→M Bool) (mb:PEnv→M Fl):Nat→PEnv→M Fl
 |0,_=>.fail
 |k+1,ρ=>(mt ρ).bind fun b=>if b=true then(mb ρ).bind fun f=>(match f with
  | .nx ρ2=>whP mt mb k ρ2
  | .ct ρ2=>whP mt mb k ρ2
  | .bk ρ2=>.ret (.nx ρ2)
  | .rt v=>.ret (.rt v)) else .ret (.nx ρ)
theorem sv_while {mt:PEnv→M Bool} {mb:PEnv→M Fl} (fuel:Nat) (h:BS X st (tWhile (ttP φ mt) (tsP φ mb))):SV φ X st (whP mt mb fuel):=BS.mono h fun D σ H hq0=>by
 obtain⟨G,O0,H0,O,ρ,n,s,w⟩:=hq0
 refine⟨fun m σ' H'=> ∃ (O':Addr→Prop) (ρ':PEnv) (n':Nat),SI G O0 H0 O' H' σ' ρ' n'∧(whP mt mb m ρ').wp n' (fun f n'=>FlOk G O0 H0 D n' f),⟨fuel,O,ρ,n,s,w⟩,?_⟩
 rintro m σ' H' ⟨O',ρ',n',s',w'⟩
 cases m with
 |zero=>exact w'.elim
 |succ k=>
  unfold whP at w'
  rw[M.wZ] at w'
  refine⟨G,O',ρ',n',_,s'.es,w',fun b H1 n1 e1 ok1 w1=>?_⟩
  cases b with
  |true=>
   simp only[if_true] at w1 ⊢
   rw[M.wZ] at w1
   refine⟨fun σ2 H2=> ∃ (O':Addr→Prop) (ρ':PEnv) (n':Nat),SI G O0 H0 O' H2 σ2 ρ' n'∧(whP mt mb k ρ').wp n' (fun f n'=>FlOk G O0 H0 D n' f),fun σ2 H2 hh=>⟨k,by lia,hh⟩,G,O0,H0,O',ρ',n1,s'.to e1 ok1,M.wp_mono w1 fun f n3 w3=>?_⟩
   cases f with
   |nx ρ3=>exact fun O3 σ3 H3 s3=>⟨O3,ρ3,n3,s3,w3⟩
   |ct ρ3=>exact fun O3 σ3 H3 s3=>⟨O3,ρ3,n3,s3,w3⟩
   |bk ρ3=>exact fun O3 σ3 H3 s3=>w3 O3 σ3 H3 s3
   |rt y=>exact fun x3 H3 e3 ok3 r3=>w3 x3 H3 e3 ok3 r3
  |false=>
   simp only[Bool.false_eq_true,if_false] at w1 ⊢
   exact w1 O' σ' H1 (s'.to e1 ok1)
end
noncomputable def finP:Fl→M PV
 | .nx _=>.ret .non
 | .rt y=>.ret y
 |_=>.fail
noncomputable def startP (k:Nat) (l:List PV):PEnv:=l.map val++List.replicate (k - l.length) .un
noncomputable def fnP (a k:Nat) (m:PEnv→M Fl) (l:List PV):M PV:=if l.length=a then(m (startP k l)).bind finP else .fail
theorem start_get {vs:List V} {i:Nat} (h:vs[i]?=some x):(start N vs)[i]?=some (some x):=by
 unfold start
 have hi:i < vs.length:=(List.getElem?_eq_some_iff.mp h).1
 rw[List.getElem?_append_left (by simpa using hi),List.getElem?_map,h]
 rfl
section
variable {P:Program} {w:World} {K:PySem.W.Frag} {mg:Str→Option Value} {base:Heap}
theorem fn_ok {x qual:Str} {st:Stmt} {f:Addr} {fd:FuncData} {N ps:List Str} {k:Nat} {m:PEnv→M Fl} (F:Fun K x qual st f fd) (S:FnScope N ps (defScope st)) (hN:ps.length≤N.length)
  (hb: ∀ (cdv:Value) (A:Around) (outer:List Env) (s:Shared) (H:Hp) (E:XK),Room k (A.deeper (envOfC qual (defScope st) s.heap.objs.size f cdv))→SsV φ (cxOf CX0 P w K mg base N qual (defScope st) f cdv A outer s H E).nox (defBody st) m):
  FnOk P w K mg base CX0 (k+1) f fd ps (spP φ (fnP ps.length N.length m)):=by
 refine F.ok S (fun vs H Q E h=>?_) (fun cdv A outer s H vs Q E hr h=>⟨_,(hb cdv A outer s H E hr).out,?_⟩)
 ·obtain⟨G,O,l,n,R,_,_,_,r,w,_⟩:=h
  unfold fnP at w
  by_cases hc:l.length=ps.length
  ·rw[←r.1,hc]
  ·rw[if_neg hc] at w;exact w.elim
 ·obtain⟨G,O,l,n,R,pr,dm,ok,r,w,q⟩:=h
  unfold fnP at w
  by_cases hc:l.length=ps.length
  ·rw[if_pos hc,M.wZ] at w
   refine⟨G,O,H,O,startP N.length l,n,⟨⟨⟨?_,fun i e he=>?_⟩,ok,pr,dm⟩,pr,fun p h=>h,Ext.refl _ _,fun p h=>.inl h,dm,fun i p h=>?_,fun i j p h=>?_⟩,M.wp_mono w fun f n' h=>?_⟩
   ·unfold start startP;simp[r.1]
   ·unfold startP at he
    by_cases hi:i < l.length
    ·rw[List.getElem?_append_left (by simpa using hi),List.getElem?_map,List.getElem?_eq_getElem hi] at he
     cases he
     obtain⟨x,hx,rr⟩:=r.at (List.getElem?_eq_getElem hi)
     exact⟨x,by rw[start_get hx];rfl,rr⟩
    ·rw[List.getElem?_append_right (by simpa using hi),List.getElem?_replicate] at he
     split at he
     ·cases he;trivial
     ·cases he
   all_goals try (
    obtain⟨t,h1,h2,_⟩:=h
    exfalso
    unfold startP at h1
    by_cases hi:i < l.length
    ·rw[List.getElem?_append_left (by simpa using hi),List.getElem?_map,List.getElem?_eq_getElem hi] at h1
     cases h1;cases h2
    ·rw[List.getElem?_append_right (by simpa using hi),List.getElem?_replicate] at h1
     split at h1
     ·cases h1;cases h2
     ·cases h1)
   cases f with
   |nx ρ=>exact fun O' σ' H' s'=>q .non .non H' n' s'.ext s'.es.ok .non h
   |rt y=>exact fun x' H' e' ok' r'=>q y x' H' n' e' ok' r' h
   |bk ρ=>exact h.elim
   |ct ρ=>exact h.elim
  ·rw[if_neg hc] at w;exact w.elim
end
end
section
variable {φ:Fam}
section
variable {X:Cx} {e a b:Expr} {ma mb:PEnv→M PV}
def MtV (K:PySem.W.Frag) (T:String) (r:V→List V→Hp→VK→Prop) (op:PV→List PV→M PV):Prop:= ∀ (φ:Fam) (G:Bg φ) (O:Addr→Prop) (H0 H:Hp) (n:Nat) (R:PV→Nat→Prop) (Q:VK) (y:PV) (x:V) (l:List PV) (xs:List V),
 (∀ p,G.priv p→O p)→(∀ p,O p→∃ o,H p=some o)→G.ok H n→RepB G O H y x→RepBs G O H l xs→(op y l).wp n R→Wish G O H R Q→r x xs H Q
noncomputable def tyP:PV→String
 | .str _=>"str"
 | .lst _=>"list"
 | .dct _=>"dict"
 |_=>""
noncomputable def bmP (T:String) (op:PV→List PV→M PV) (mo:PEnv→M PV) (ml:PEnv→M (List PV)):PEnv→M PV:=fun ρ=>(mo ρ).bind fun y=>if tyP y=T then(ml ρ).bind fun l=>op y l else .fail
theorem ev_bm (h:BE X e (tBM X.K T r (teB φ mo) (taB φ ml))) (hv:MtV X.K T r op) (hT:T≠"":=by decide):EV φ X e (bmP T op mo ml):=BE.mono h fun σ H Q hq0=>by
 obtain⟨G,O,ρ,n,R,s,w,q⟩:=hq0
 unfold bmP at w
 rw[M.wZ] at w
 refine⟨G,O,ρ,n,_,s,w,fun y x H1 n1 e1 ok1 r1 w1=>?_⟩
 by_cases hc:tyP y=T
 ·rw[if_pos hc] at w1
  have ty:tyV X.K T x H1:=by
   subst hc
   cases y<;>first|exact absurd rfl hT|skip
   ·rw[r1.str_i];rfl
   ·obtain⟨p,xs,rfl,hh,_⟩:=r1.lst_i;exact .inl ⟨rfl,xs,SqL.of hh⟩
   ·obtain⟨p,ks,rfl,hh,_⟩:=r1.dct_i;exact .inr (.inr (.inl ⟨rfl,.inl ⟨ks,hh⟩⟩))
  refine⟨ty,?_⟩
  rw[M.wZ] at w1
  refine⟨G,O,ρ,n1,_,s.ext e1 ok1,w1,fun l xs H2 n2 e2 ok2 r2 w2=>?_⟩
  exact hv φ G O H1 H2 n2 R Q y x l xs s.pr (s.ext (e1.trans e2) ok2).dm ok2 (r1.ext s.B e2) r2 w2 fun y x H' n' e o r h=>q y x H' n' (e1.trans (e2.trans e)) o r h
 ·rw[if_neg hc] at w1;exact w1.elim
noncomputable def strsOf:List PV→Option (List Str)
 |[]=>some []
 | .str b::r=>(strsOf r).map (b:: ·)
 |_=>none
theorem strs_rep: ∀ {l:List PV} {xs:List V} {bs:List Str},Reps B O H l xs→strsOf l=some bs→xs=bs.map V.str
 |[],xs,bs,h,e=>by simp[strsOf] at e;subst e;exact h.nil_inv
 |y::l,xs,bs,h,e=>by
  cases y<;>simp[strsOf] at e
  obtain⟨bs',e1,rfl⟩:=e
  obtain⟨x,r,rfl,h1,h2⟩:=h.cons_inv
  cases h1
  rw[List.map_cons,strs_rep h2 e1]
noncomputable def joinO:PV→List PV→M PV
 | .str sep,[.lst l]=>(M.ofO (strsOf l)).bind fun ys=>if(ys.map (·.length)).sum+ys.length * sep.length≤16777216 then .ret (.str (Txt.join sep ys)) else .fail
 |_,_=>.fail
theorem joinO_inv (w:(joinO y l).wp n R): ∃ sep m,y= .str sep∧l=[.lst m]:=by
 unfold joinO at w
 split at w
 ·exact⟨_,_,rfl,rfl⟩
 ·exact w.elim
theorem mv_join {K:PySem.W.Frag}:MtV K "str" (fun x xs H Q=> ∃ (sep:Str) (p:Addr) (ys:List Str),x= .str sep∧xs=[.ref p]∧SqL K H p (ys.map V.str)∧(ys.map (·.length)).sum+ys.length * sep.length≤16777216∧Q (.str (Txt.join sep ys)) H) joinO:=fun φ G O H0 H n R Q y x l xs pr dm ok r1 r2 w q=>by
 obtain⟨sep,l,rfl,rfl⟩:=joinO_inv w
 ·rw[r1.str_i]
  obtain⟨x2,ex,r3⟩:=r2.one
  subst ex
  obtain⟨p,xs,ep,hh,rr⟩:=r3.lst_i
  subst ep
  unfold joinO at w
  dsimp only at w
  cases es:strsOf l with
  |none=>rw[es] at w;exact w.elim
  |some ys=>
   rw[es] at w
   replace w:(if(ys.map (·.length)).sum+ys.length * sep.length≤16777216 then M.ret (.str (Txt.join sep ys)) else .fail:M PV).wp n R:=w
   by_cases hc:(ys.map (·.length)).sum+ys.length * sep.length≤16777216
   ·rw[if_pos hc] at w
    rw[strs_rep rr es] at hh
    exact⟨sep,p,ys,rfl,rfl,SqL.of hh,hc,q.sc ok (.str _) w⟩
   ·rw[if_neg hc] at w;exact w.elim
end
end
section
variable {φ:Fam}
section
variable {X:Cx} {e a b o:Expr} {es:List Expr} {pos p:Pos} {x:Str} {id T:String} {r:List V→Hp→VK→Prop} {t:TA} {st:Stmt}
theorem bv (i:Nat) (hN:X.N[i]?=some x:=by rfl) (hv:Vis X.env.scope x:=by first|exact Or.inl rfl|exact Or.inr (Or.inl rfl)|exact Or.inr (Or.inr rfl)) (hd:(x==("__debug__":Str))=false:=by decide)
  (hcd:(x==("__classdict__":Str))=false:=by decide):BE X (.Name x pos) (tVar i):=⟨pe_var hN hv hd hcd⟩
theorem be_callB (hc:CallR X (.builtin id) r) (hg:Gl X x) (hm:X.mg x=none) (hv:bootBuiltins x=some (.builtin id)) (ha:BA X (e::es) t) (hn:x≠"__name__":=by decide) (hdb:(x==("__debug__":Str))=false:=by decide)
  (he:starEach (e::es) X.env=(false,eval e X.env)::starEach es X.env:=by rfl) (hpl:(backTo pos (starEach es X.env)).any (·.1)=false:=by rfl):BE X (.Call (.Name x p) (e::es) [] pos) (tCB r t):=⟨pe_callB hc hg hm hv ha.out hn hdb he hpl⟩
theorem be_callTy (hc:CallR X (.type T) r) (hg:Gl X x) (hm:X.mg x=none) (hv:bootBuiltins x=some (.type T)) (ha:BA X (e::es) t) (hn:x≠"__name__":=by decide) (hdb:(x==("__debug__":Str))=false:=by decide)
  (he:starEach (e::es) X.env=(false,eval e X.env)::starEach es X.env:=by rfl) (hpl:(backTo pos (starEach es X.env)).any (·.1)=false:=by rfl):BE X (.Call (.Name x p) (e::es) [] pos) (tCB r t):=⟨pe_callTy hc hg hm hv ha.out hn hdb he hpl⟩
theorem be_call (F:FnOk X.prog X.w X.K X.mg X.base CX k f fd ps sp) (hr:Room k X.A) (hg:Gl X x) (hm:X.mg x=some (.ref f)) (hk:PySem.W.keepIn X.K (.ref f)=true) (hb:Binds X.K fd ps ds) (hd:Vals dvs ds) (hx:Passes CX X E)
  (ha:BA X (e::es) t) (hdb:(x==("__debug__":Str))=false:=by decide) (he:starEach (e::es) X.env=(false,eval e X.env)::starEach es X.env:=by rfl) (hpl:(backTo pos (starEach es X.env)).any (·.1)=false:=by rfl):
  BE X (.Call (.Name x p) (e::es) [] pos) (tCall sp dvs E t):=⟨pe_call F hr hg hm hk hb hd hx ha.out hdb he hpl⟩
theorem ba_nil:BA X [] tNil:=⟨pa_nil⟩
theorem ba_cons (ha:BE X e te) (hr:BA X es t) (hs:starEach (e::es) X.env=(false,eval e X.env)::starEach es X.env:=by rfl):BA X (e::es) (tCons te t):=⟨pa_cons ha.out hr.out hs⟩
theorem be_bltn (hg:Gl X x) (hm:X.mg x=none) (hv:bootBuiltins x=some u) (r:RelV v u) (hn:x≠"__name__":=by decide) (hd:(x==("__debug__":Str))=false:=by decide):BE X (.Name x pos) (tC v):=⟨pe_bltn hg hm hv r hn hd⟩
theorem be_bm {apos cpos:Pos} {name:Str} {to:TE} {r:V→List V→Hp→VK→Prop} (pa:PlainAttrs T) (slot:Slot T name id) (hty:typeOf (.builtin id)=pure (.type "method_descriptor")) (hm:MtR X id r) (ho:BE X o to) (ha:BA X (e::es) t)
  (hbase:attributeBase o name X.env (eval o X.env)=eval o X.env:=by rfl)
  (hfew:((backTo cpos (starEach (e::es) X.env)).all (fun x=>!x.1)&&(backToKw cpos (keywordEach [] X.env)).all (fun x=>x.1.isSome)
   &&decide ((e::es).length+([]:List Keyword).length+(if([]:List Keyword).isEmpty then 0 else 1) < 30))=true:=by rfl)
  (hline:(apos.endLine==cpos.line)=true:=by rfl) (hs:starEach (e::es) X.env=(false,eval e X.env)::starEach es X.env:=by rfl) (hplain:(backTo cpos (starEach es X.env)).any (·.1)=false:=by rfl):
  BE X (.Call (.Attribute o name apos) (e::es) [] cpos) (tBM X.K T r to t):=⟨pe_bm pa slot hty hm ho.out ha.out hbase hfew hline hs hplain⟩
theorem be_lc (L:LcScope X scope N js) (hc:X.calm=true) (hi:BI X target iter wi)
  (hg: ∀ s₀ H₀ ex pn,BG (cxC X scope N s₀ H₀ ex pn) target g) (ht: ∀ s₀ H₀ ex pn,BTs (cxC X scope N s₀ H₀ ex pn) ifs tt) (he: ∀ s₀ H₀ ex pn,BE (cxC X scope N s₀ H₀ ex pn) elt te)
  (hs: ∀ x,foldedSetIterable iter X.env x=pure x:=by intro _;rfl):BE X (.ListComp elt [⟨target,iter,ifs,0⟩] scope pos) (tLC js wi g tt te):=⟨pe_lc L hc hi.out (fun a b c d=>(hg a b c d).out) (fun a b c d=>(ht a b c d).out) (fun a b c d=>(he a b c d).out) hs⟩
theorem bs_lc (hN:X.N.Nodup) (hk:X.N[k]?=some y) (hy:Loc X.env.scope y) (L:LcScope X scope N js) (hc:X.calm=true) (hi:BI X target iter wi)
  (hg: ∀ s₀ H₀ ex pn,BG (cxC X scope N s₀ H₀ ex pn) target g) (ht: ∀ s₀ H₀ ex pn,BTs (cxC X scope N s₀ H₀ ex pn) ifs tt) (he: ∀ s₀ H₀ ex pn,BE (cxC X scope N s₀ H₀ ex pn) elt te)
  (hsw:swapsWith (.ListComp elt [⟨target,iter,ifs,0⟩] scope pos) (some (.Name y py)) spos.line X.env=pure true:=by rfl)
  (hs: ∀ x,foldedSetIterable iter X.env x=pure x:=by intro _;rfl) (hf:X.fn y=true∨X.env.scope.names.lookup y=some .local:=by first|exact .inl rfl|exact .inr rfl|assumption):
  BS X (.Assign [.Name y py] (.ListComp elt [⟨target,iter,ifs,0⟩] scope pos) spos) (tAsg (tLC js wi g tt te) (gName k)):=⟨ps_lc hN hk hy L hc hi.out (fun a b c d=>(hg a b c d).out) (fun a b c d=>(ht a b c d).out) (fun a b c d=>(he a b c d).out) hsw hs hf⟩
theorem bs_set (hN:X.N.Nodup) (hi:X.N[i]?=some x) (hx:Loc X.env.scope x) (he:BE X e te) (hs:swapsWith e (some (.Name x pos')) pos.line X.env=pure false:=by rfl) (hf:X.fn x=true∨X.env.scope.names.lookup x=some .local:=by first|exact .inl rfl|exact .inr rfl|assumption):
  BS X (.Assign [.Name x pos'] e pos) (tAsg te (gName i)):=⟨ps_set hN hi hx he.out hs hf⟩
theorem bs_asg (he:BE X e te) (hg:BG X tg g) (hs:swapsWithSole [tg] e pos.line X.env=pure false:=by rfl) (hw:swappedStores [tg] e X.env=pure none:=by rfl)
  (h1:(assignEach [tg] X.env).map (·.2)=[assign tg X.env]:=by rfl):BS X (.Assign [tg] e pos) (tAsg te g):=⟨ps_asg he.out hg.out hs hw h1⟩
theorem bs_par {kt k2 pt2} (hc:X.calm=true) (hN:X.N.Nodup) (hi:X.N[i]?=some x) (hj:X.N[j]?=some y) (hij:i≠j)
  (hx:X.env.scope.names.lookup x=some .local) (hy:X.env.scope.names.lookup y=some .local) (ha:BA X [a,b] ta)
  (hw:swappedStores [.Tuple [.Name x px,.Name y py] kt pt] (.Tuple [a,b] k2 pt2) X.env=pure (some [x,y]))
  (hs:swapsWithSole [.Tuple [.Name x px,.Name y py] kt pt] (.Tuple [a,b] k2 pt2) pos.line X.env=pure false:=by rfl):
  BS X (.Assign [.Tuple [.Name x px,.Name y py] kt pt] (.Tuple [a,b] k2 pt2) pos) (tPar i j ta):=⟨ps_par hc hN hi hj hij hx hy ha.out hw hs⟩
theorem bs_ret (he:BE X e te):BS X (.Return (some e) pos) (tRet te):=⟨ps_ret he.out⟩
theorem bs_if {c:Expr} {ss tt:List Stmt} {tc:TT} {t u:TS} (hc:BT X c tc) (ha:BSs X ss t) (hb:BSs X tt u):BS X (.If c ss tt pos) (tIfS tc t u):=⟨ps_if hc.out ha.out hb.out⟩
theorem bs_for (hp:PassesOwn (model X.prog X.w) X.A X.env X.xe) (hc:X.calm=true) (hi:BI X tg iter wi) (hg:BG X tg g) (hb:BSs X body tb)
  (hs: ∀ x,foldedSetIterable iter X.env x=pure x:=by intro _;rfl):BS X (.For tg iter body [] pos) (tFor wi g tb):=⟨ps_for hp hc hi.out hg.out hb.out hs⟩
theorem bs_while (hp:PassesOwn (model X.prog X.w) X.A X.env X.xe) (hc:BT X c tc) (hb:BSs X body tb):BS X (.While c body [] pos) (tWhile tc tb):=⟨ps_while hp hc.out hb.out⟩
theorem bs_expr (he:BE X e te) (hs:swapsWith e none pos.line X.env=pure false:=by rfl):BS X (.Expr e pos) (tDrop te):=⟨ps_expr he.out hs⟩
theorem bi_range1 (hg:Gl X "range") (hm:X.mg "range"=none) (ha:BA X [a] ta) (hs:starEach [a] X.env=[(false,eval a X.env)]:=by rfl):BI X tg (.Call (.Name "range" p) [a] [] pos) (iRng1 ta):=⟨pi_range1 hg hm ha.out hs⟩
theorem be_slice {r:V→Option Int→Option Int→Hp→VK→Prop} {te:TE} {tl th:TO} {lo hi:Option Expr} {p2:Pos} (hr:SlR X r) (he:BE X e te) (hl:BO X lo tl) (hu:BO X hi th):BE X (.Subscript e (.Slice lo hi none p2) pos) (tSl r te tl th):=⟨pe_slice hr he.out hl.out hu.out⟩
theorem bg_name (hN:X.N.Nodup) (hi:X.N[i]?=some x) (hx:Loc X.env.scope x) (hf:X.fn x=true∨X.env.scope.names.lookup x=some .local:=by first|exact .inl rfl|exact .inr rfl|assumption):BG X (.Name x pos) (gName i):=⟨pg_name hN hi hx hf⟩
theorem bgs_nil:BGs X [] gNil:=⟨pgs_nil⟩
theorem bgs_cons {t:TG} {u:TGs} (h1:BG X e t) (h2:BGs X es u)
  (hs:(assignEach (e::es) X.env).map (·.2)=assign e X.env::(assignEach es X.env).map (·.2):=by rfl):BGs X (e::es) (gCons t u):=⟨pgs_cons h1.out h2.out hs⟩
theorem bg_tup {k:Nat} {t:TGs} {n:Nat} (hc:X.calm=true) (h:BGs X es t)
  (hn:(assignEach es X.env).length=n:=by rfl) (hst:(assignEach es X.env).findIdx? (·.1)=none:=by rfl):BG X (.Tuple es k pos) (gTup X.K n t):=⟨pg_tup hc h.out hn hst⟩
theorem bg_sub {i:Expr} {to ti:TE} {t:TSet} (ho:BE X o to) (hi:BE X i ti) (hs:PSet X t) (H: ∀ (a1:PE X o to) (a2:PE X i ti),PG X (.Subscript o i pos) (gSub to ti t):=by intro a1 a2;exact pg_sub a1 a2 set_list):BG X (.Subscript o i pos) (gSub to ti t):=⟨H ho.out hi.out⟩
end
section
variable {P:Program} {w:World} {K:PySem.W.Frag} {mg:Str→Option Value} {base:Heap}
theorem fn_ok3 {x qual:Str} {st:Stmt} {f:Addr} {fd:FuncData} {N ps:List Str} {k:Nat} {m:PEnv→M Fl} {body:List Stmt} {sc:Scope} {Ff:List PV→M PV} (hF:Ff=fnP ps.length N.length m) (F:Fun K x qual st f fd) (S:FnScope N ps (defScope st)) (hN:ps.length≤N.length) (eb:defBody st=body) (es:defScope st=sc)
  (hb: ∀ (cdv:Value) (A:Around) (outer:List Env) (s:Shared) (H:Hp) (E:XK),Room k (A.deeper (envOfC qual sc s.heap.objs.size f cdv))→SsV φ (cxOf CX0 P w K mg base N qual sc f cdv A outer s H E).nox body m):
  FnOk P w K mg base CX0 (k+1) f fd ps (spP φ Ff):=by
 subst hF eb es
 exact fn_ok F S hN hb
end
end
section
open PySem.AutoSeq1 (wpAny_loadPart')
theorem noFill_tuple_mul:fillsNumberSlot (.type "tuple") "mul"=pure false:=
 PySem.fillsNumberSlot_seq (id:="tuple.__mul__") (r:=some (.builtin "tuple.__rmul__")) F.slot_tuple_mul.lookup (by decide +kernel) F.slot_tuple_rmul.lookup (by decide +kernel)
theorem repeat_tuple:seqRepeat? (.type "tuple")=pure (some (.builtin "tuple.__mul__")):=by
 unfold seqRepeat?
 rw[PySem.seqSlot_of (T:="tuple") (name:="__mul__") (id:="tuple.__mul__") F.slot_tuple_mul.lookup (by decide +kernel),PySem.seqSlot_of (T:="tuple") (name:="__rmul__") (id:="tuple.__rmul__") F.slot_tuple_rmul.lookup (by decide +kernel)]
 rfl
theorem int_rmul_tuple (a:Int) (t:Tok) (l:Addr) (items:Array Value) (n:Nat) (dd:Option Addr) (sl:Array (Option Value)):
  Meets (Builtin.«int.__rmul__» ⟨[.int a t,.ref l],[]⟩) (fun _ R s=>s.heap.get? l=some {cls:=.type "tuple",dict:=dd,data:=.seq items n,slots:=sl}∧R (.ok (.ret Value.notImplemented)) s):=
 .of_wp fun prog w A R s h=>by obtain⟨hp,g,d,tk,os⟩:=s;obtain⟨hl,h⟩:=h;wp_walk using wpAny_loadPart' hl;exact⟨_,rfl,h⟩
theorem tuple_mulW (l:Addr) (items:Array Value) (n:Nat) (dd:Option Addr) (sl:Array (Option Value)) (x:Int) (u:Tok) (hc0: ¬(decide (x < -(2 ^ 63))||decide (x ≥ 2 ^ 63))=true) (hc1: ¬(items.isEmpty||x==1)=true) (hc2: ¬(decide (x≤0)||items.isEmpty)=true) (hc3: ¬((items.size:Int) * x > (2 ^ 63 - 1) / 8)) (hc4: ¬Builtin.Tuple.tupleTooMany (items.size * x)=true) (hc5: ¬ (List.foldl (fun x1 x2=>x1++x2) #[] (List.replicate x.toNat items)).size > sizeLine):
  Meets (Builtin.«tuple.__mul__» ⟨[.ref l,.int x u],[]⟩) (fun _ R s=>s.heap.get? l=some {cls:=.type "tuple",dict:=dd,data:=.seq items n,slots:=sl}∧R (.ok (.ret (Value.ref s.heap.objs.size))) {s with heap:=s.heap.push {cls:=Value.type "tuple",data:=Data.seq ((List.replicate x.toNat items).foldl (· ++ ·) #[])},toks:=s.toks}):=
 .of_wp fun prog w A R s h=>by
  obtain⟨hp,g,d,tk,os⟩:=s;obtain⟨hl,h⟩:=h
  have f1:=AutoSeq1.idx_int
  wp_walk using wpAny_loadPart' hl
  refine wpAny_ite_false (decide_eq_false hc0) ?_
  wp_walk using wpAny_loadPart' hl
  refine wpAny_ite_false (decide_eq_false hc3) ?_
  wp_walk using wpAny_loadPart' hl
  exact⟨_,rfl,h⟩
noncomputable def rRepT:R2:=fun x y H Q=> ∃ l k xs,x= .ref l∧y= .int k∧H l=some (.tup xs)∧xs≠[]∧1 < k∧k < 1000∧xs.length * k.toNat≤100000∧∀ p,H p=none→Q (.ref p) (upd H p (.tup (List.replicate k.toNat xs).flatten))
theorem op_repT:OpR X (binaryOp .Mult) rRepT:=by
 intro pZ s σ H x y v u Q I rx ry h
 obtain⟨l,k,xs,rfl,rfl,hH,hne,h1,h2,hz,q⟩:=h
 cases rx
 obtain⟨t,rfl⟩:=ry
 obtain⟨its,r,p,_⟩:=I.tuple (SqT.of (K:=X.K) hH)
 obtain⟨⟨cls,dd,data,sl⟩,ho,hc,n,hd⟩:=id p
 simp only at hc hd
 subst hc hd
 have hlen:=r.length
 have hie:its≠[]:=fun z=>hne (r.nil_iff.mp z)
 have hnew:List.foldl (fun x1 x2=>x1++x2) #[] (List.replicate k.toNat its.toArray)=(List.replicate k.toNat its).flatten.toArray:=by
  have:=foldl_rep its k.toNat []
  rw[List.nil_append] at this
  exact this
 have e63:(2:Int) ^ 63=9223372036854775808:=by decide
 have hsz:(its.length:Int) * k≤100000:=by
  have e:(k.toNat:Int)=k:=by lia
  have:((its.length * k.toNat:Nat):Int)≤100000:=by
   rw[←hlen]
   exact Int.ofNat_le.mpr hz
  rw[Int.natCast_mul,e] at this
  exact this
 have hs:sizeLine=16777216:=sizeLine_eq
 have hfl:(List.replicate k.toNat xs).flatten.length≤sizeLine:=by rw[len_rep,Nat.mul_comm];lia
 refine wpAny_binaryOp_repeat_ref (T:="tuple") (U:="int") (by decide) ⟨_,ho,rfl⟩ (fun s'=>typeIs_int s' k t) noFill_tuple_mul F.fills_int_mul F.slot_int_rmul repeat_tuple F.slot_int_index.lookup
  (call_meets F.slot_int_rmul (typeIs_int s k t) F.entry_int_rmul (F.args_int_rmul_2 _ _) (int_rmul_tuple k t l its.toArray n dd sl)
   ⟨ho,rfl,⟨_,ho,rfl⟩,call_meets F.slot_tuple_mul ⟨_,ho,rfl⟩ F.entry_tuple_mul (F.args_tuple_mul_2 _ _) (tuple_mulW l its.toArray n dd sl k t ?_ ?_ ?_ ?_ ?_ ?_) ⟨ho,?_⟩⟩)
 ·simp;lia
 ·simp[hie];lia
 ·simp[hie];lia
 ·simp only[List.size_toArray];lia
 ·unfold Builtin.Tuple.tupleTooMany;simp only[List.size_toArray,decide_eq_true_eq];lia
 ·rw[hnew,List.size_toArray,len_rep,Nat.mul_comm,←hlen];lia
 ·rw[hnew]
  refine⟨.ref s.heap.objs.size,_,I.laid (t':=s.toks) (o:=.tup (List.replicate k.toNat xs).flatten) (fun b ob q=>Heap.get?_push_of_some _ q) (Nat.le_refl _) ?_,rfl,q _ (I.hok.fresh (Nat.le_refl _))⟩
  exact⟨hfl,_,r.rep k.toNat,IsTup.new _ _⟩
noncomputable def rMulE:R2:=fun x y H Q=>rMulD x y H Q∨rRepT x y H Q
theorem op_mulE:OpR X (binaryOp .Mult) rMulE:=op_mulD.or op_repT
noncomputable def mulE (y z:PV):M PV:=match y,z with
 | .tup l,.int k=>if 0 < l.length∧1 < k∧k < 1000∧l.length * k.toNat≤100000 then .ret (.tup (List.replicate k.toNat l).flatten) else .fail
 |y,z=>mulO y z
theorem ov_mulE:OpV rMulE mulE:=fun φ G O H n R Q y z x x' pr dm ok r1 r2 w q=>by
 have hB:O G.B:=pr _ G.pB
 cases y with
 |tup l=>
  cases z<;>first|exact w.elim|skip
  rename_i k
  obtain⟨a,xs,rfl,h1,e1⟩:=r1.tup_i
  rw[r2.int_i]
  unfold mulE at w
  dsimp only at w
  by_cases hc:0 < l.length∧1 < k∧k < 1000∧l.length * k.toNat≤100000
  ·rw[if_pos hc] at w
   refine .inr ⟨a,k,xs,rfl,rfl,h1,fun z=>?_,hc.2.1,hc.2.2.1,by rw[←e1.1];exact hc.2.2.2,fun p hp=>q.tup ok dm hp hB (e1.rep _) w⟩
   subst z
   have:=e1.1
   simp at this
   have:=hc.1
   simp_all
  ·rw[if_neg hc] at w;exact w.elim
 |_=>exact .inl (ov_mul φ G O H n R Q _ z x x' pr dm ok r1 r2 w q)
end
noncomputable def drawF:List PV→M PV:=fun l=>match l with|[.bag,.int m]=>.draw m fun d=>.ret (.int d)|_=>.fail
theorem draw_pure {φ:Fam} {P:Program} {w:World} {K:PySem.W.Frag} {mg:Str→Option Value} {base:Heap} {k:Nat} {f:Addr} {fd:FuncData} {ps:List Str} (F:FnOk P w K mg base CX0 k f fd ps φ.sp):FnOk P w K mg base CX0 k f fd ps (spP φ drawF):=by
 refine F.imp fun vs H Q E h=>?_
 obtain⟨G,O,l,n,R,pr,dm,ok,r,w,q⟩:=h
 match l,r,w with
 |[.bag,.int m],r,w=>
  obtain⟨x,t,rfl,r1,r2⟩:=r.cons_inv
  obtain⟨x',t',rfl,r3,r4⟩:=r2.cons_inv
  rw[r4.nil_inv]
  cases r1
  cases r3
  obtain⟨h0,h1,n',rfl,h⟩:=w
  exact G.dr H n' m Q E ok h0 h1 fun d H' d0 d1 e o=>q (.int d) _ H' n' e o (.int d) (h d d0 d1)
structure Gen {α:Type} (m:M α) (c:Nat) (Pr:α→Prop):Prop where
 h: ∀ n,c≤n→m.wp n fun y n'=>n≤n'+c∧Pr y
theorem Gen.ret (h:Pr y):Gen (.ret y) 0 Pr:=⟨fun n _=>⟨Nat.le_refl _,h⟩⟩
theorem Gen.bind (h:Gen m c Pr) (k: ∀ y,Pr y→Gen (f y) d Rr):Gen (m.bind f) (c+d) Rr:=⟨fun n hn=>by
 rw[M.wZ]
 refine M.wp_mono (h.h n (by lia)) fun y n1 ⟨h1,h2⟩=>?_
 exact M.wp_mono ((k y h2).h n1 (by lia)) fun z n2 ⟨h3,h4⟩=>⟨by lia,h4⟩⟩
theorem Gen.mono (h:Gen m c Pr) (hc:c≤d) (k: ∀ y,Pr y→Rr y):Gen m d Rr:=⟨fun n hn=>M.wp_mono (h.h n (by lia)) fun y n1 ⟨h1,h2⟩=>⟨by lia,k y h2⟩⟩
theorem Gen.le (h:Gen m c Pr) (hc:c≤d):Gen m d Pr:=h.mono hc fun _ z=>z
theorem Gen.draw (h0:0 < m) (h1:m < 1073741824):Gen (drawF [.bag,.int m]) 1 fun y=> ∃ d,y= .int d∧0≤d∧d < m:=⟨fun n hn=>by
 obtain⟨n',rfl⟩: ∃ n',n=n'+1:=⟨n - 1,by lia⟩
 exact⟨h0,h1,n',rfl,fun d d0 d1=>⟨Nat.le_refl _,d,rfl,d0,d1⟩⟩⟩
theorem Gen.eq (e:m= .ret y) (h:Pr y):Gen m 0 Pr:=e▸Gen.ret h
theorem Gen.lc {te:PEnv→M PV} {ρ:PEnv}: ∀ (l:List PV) (ρ':PEnv),(∀ e,ρ'.set k e=ρ.set k e)→(∀ y∈l,Gen (te (ρ.set k (.val y))) c Pr)→Gen (lcM (bindN k) allTs te l ρ') (l.length * c) (fun zs=>zs.length=l.length∧∀ z∈zs,Pr z)
 |[],ρ',_,_=>Gen.le (Gen.ret ⟨rfl,fun z hz=>by simp at hz⟩) (by simp)
 |y::l,ρ',hρ,h=>by
  unfold lcM
  simp only[bindN,allTs,rZ,if_true]
  rw[hρ]
  refine Gen.le (Gen.bind (h y List.mem_cons_self) fun z hz=>Gen.bind (Gen.lc (ρ:=ρ) l _ (fun e=>by rw[List.set_set]) fun y' hy=>h y' (List.mem_cons_of_mem _ hy)) fun zs hzs=>Gen.ret ?_) (Nat.le_of_eq ?_)
  ·refine⟨by simp[hzs.1],fun u hu=>?_⟩
   rcases List.mem_cons.mp hu with rfl|hu
   ·exact hz
   ·exact hzs.2 u hu
  ·simp only[List.length_cons,Nat.succ_mul]
   lia
theorem lcM_map {te:PEnv→M PV} {f:PV→PV} {ρ:PEnv}: ∀ (l:List PV) (ρ':PEnv),(∀ e,ρ'.set k e=ρ.set k e)→(∀ y∈l,te (ρ.set k (.val y))= .ret (f y))→lcM (bindN k) allTs te l ρ'= .ret (l.map f)
 |[],ρ',_,_=>rfl
 |y::l,ρ',hρ,h=>by
  unfold lcM
  simp only[bindN,allTs,rZ,if_true]
  rw[hρ,h y List.mem_cons_self,lcM_map (f:=f) (ρ:=ρ) l _ (fun e=>by rw[List.set_set]) fun y' hy=>h y' (List.mem_cons_of_mem _ hy)]
  rfl
theorem lcM_filter {tt:PEnv→M Bool} {te:PEnv→M PV} {p:PV→Bool} {f:PV→PV} {ρ:PEnv}: ∀ (l:List PV) (ρ':PEnv),(∀ e,ρ'.set k e=ρ.set k e)→(∀ y∈l,tt (ρ.set k (.val y))= .ret (p y))→(∀ y∈l,p y=true→te (ρ.set k (.val y))= .ret (f y))→lcM (bindN k) tt te l ρ'= .ret ((l.filter p).map f)
 |[],ρ',_,_,_=>rfl
 |y::l,ρ',hρ,h,h'=>by
  unfold lcM
  simp only[bindN,rZ]
  have ih:=lcM_filter (p:=p) (f:=f) (ρ:=ρ) l (ρ.set k (.val y)) (fun e=>by rw[List.set_set]) (fun y' hy=>h y' (List.mem_cons_of_mem _ hy)) (fun y' hy=>h' y' (List.mem_cons_of_mem _ hy))
  rw[hρ,h y List.mem_cons_self,rZ]
  cases hp:p y with
  |true=>
   simp only[if_true]
   rw[h' y List.mem_cons_self hp,rZ,ih,List.filter_cons_of_pos hp]
   rfl
  |false=>
   simp only[Bool.false_eq_true,if_false]
   rw[ih,List.filter_cons_of_neg (by simp[hp])]
theorem Gen.for_ {mb:PEnv→M Fl} {Iv:PEnv→Prop}: ∀ (l:List PV) (ρ:PEnv),Iv ρ→(∀ y∈l,∀ ρ,Iv ρ→Gen (mb (ρ.set k (.val y))) c fun f=> ∃ ρ',f= .nx ρ'∧Iv ρ')→Gen (forP (bindN k) mb l ρ) (l.length * c) fun f=> ∃ ρ',f= .nx ρ'∧Iv ρ'
 |[],ρ,h,_=>Gen.le (Gen.ret ⟨ρ,rfl,h⟩) (by simp)
 |y::l,ρ,h,hb=>by
  unfold forP
  simp only[bindN,rZ]
  refine Gen.le (Gen.bind (hb y List.mem_cons_self ρ h) fun f hf=>?_) (d:=(y::l).length * c) (Nat.le_of_eq (?_:c+l.length * c=_))
  ·obtain⟨ρ',rfl,h'⟩:=hf
   exact Gen.for_ l ρ' h' fun y' hy=>hb y' (List.mem_cons_of_mem _ hy)
  ·simp only[List.length_cons,Nat.succ_mul];lia
section
variable {φ:Fam}
noncomputable def rSlS:V→Option Int→Option Int→Hp→VK→Prop:=fun x lo hi H Q=> ∃ z,x= .str z∧z.length≤100000∧Q (.str (Txt.slice z lo hi)) H
theorem part_of (p:IsPart v o): ∃ l:Option (Int×Tok),v=PySem.partValue l∧l.map (·.1)=o:=by
 cases p with
 |none=>exact⟨none,rfl,rfl⟩
 |int i t=>exact⟨some (i,t),rfl,rfl⟩
theorem sl_str:SlR X rSlS:=by
 intro pZ s σ H x v vl vu lo hi sl Q I rx hs pl pu h
 obtain⟨z,rfl,hz,q⟩:=h
 obtain⟨t,rfl⟩:=rx
 obtain⟨l,rfl,hl⟩:=part_of pl
 obtain⟨u,rfl,hu⟩:=part_of pu
 refine⟨"str",_,F.slot_str_getitem.lookup,typeIs_str _ _ _,wpAny_getItem_str_slice (l:=l) (u:=u) (st:=none) hs rfl ?_⟩
 subst hl hu
 exact(post_val_or_str ⟨Nat.le_trans (Txt.slice_le z _ _) (Nat.le_trans hz big_le),fun t' k=>⟨.str (Txt.slice z _ _),H,I.tok _,⟨_,rfl⟩,q⟩⟩)
section
open HT
variable {prog:Program} {w:World} {A:Around} {E:Value→Shared→Prop} {s:Shared}
theorem getItem_tuple_whole {t sl:Addr} {items:Array Value} {vl vu:Value} {lo hi:Option Int} {Q:Value→Shared→Prop} (ht:IsTup s.heap t items) (hs:s.heap.IsSliceOf sl vl vu .none) (pl:IsPart vl lo) (pu:IsPart vu hi)
  (hw:sIx items.size 0 lo=0∧sIx items.size items.size hi=items.size) (h:Q (.ref t) s):wpAny (model prog w) A (getItem (.ref t) (.ref sl)) Q E s:=by
 obtain⟨os,hos,hcs,hds⟩:=id hs
 have hTs:s.TypeIs (.ref sl) "slice":=⟨os,hos,hcs⟩
 unfold getItem
 try with_reducible refine wpAny_holding ?_
 first|refine wpAny_bind (wpAny_pure ?_)|skip
 refine wpAny_bind (wpAny_sequenceKey ht.typeIs (by decide) ?_)
 refine wpAny_bind (wpAny_callSpecial?_slot (name:=Str.ofString "__getitem__") ht.typeIs PyProof.Rows.slot_tuple_getitem
  (wpAny_call_entry PyProof.Rows.slot_tuple_getitem ht.typeIs entry_tuple_getitem ?_ (args_tuple_getitem _ _)))
 show wpAny _ _ (Builtin.Tuple.tupleItemsOf (.ref t) >>= _) _ _ s
 refine wpAny_bind (tupleItemsOf_ ht ?_)
 refine wpAny_bind (wpAny_typeOf hTs ?_)
 rw[if_pos (by decide)]
 refine wpAny_bind (sliceApplied_gen hs pl pu ?_)
 have hyes:((((sIx items.size 0 lo:Nat):Int)==0&&(1:Int)==1&&(sIx items.size items.size hi - sIx items.size 0 lo)==items.size)=true):=by
  rw[hw.1,hw.2];simp
 show wpAny _ _ (if(((sIx items.size 0 lo:Nat):Int)==0&&(1:Int)==1&&(sIx items.size items.size hi - sIx items.size 0 lo)==items.size)=true then _ else _) _ _ s
 rw[if_pos hyes]
 refine wpAny_bind (m:=Builtin.Tuple.tupleIsExact _) (wpAny_bind (wpAny_typeOf ht.typeIs (wpAny_pure ?_)))
 rw[if_pos (by decide)]
 refine wpAny_bind (wpAny_rule ?_)
 exact wpAny_pure ⟨_,rfl,wpAny_pure h⟩
end
noncomputable def rSlW:V→Option Int→Option Int→Hp→VK→Prop:=fun x lo hi H Q=> ∃ a xs,x= .ref a∧H a=some (.tup xs)∧(HT.sIx xs.length 0 lo=0∧HT.sIx xs.length xs.length hi=xs.length)∧Q (.ref a) H
theorem sl_tupW:SlR X rSlW:=by
 intro pZ s σ H x v vl vu lo hi sl Q I rx hs pl pu h
 obtain⟨a,xs,rfl,hx,hw,q⟩:=h
 cases rx
 obtain⟨its,r,ht,hz⟩:=I.tuple (SqT.of (K:=X.K) hx)
 have hlen:its.toArray.size=xs.length:=by rw[List.size_toArray];exact r.length.symm
 exact⟨"tuple",_,PyProof.Rows.slot_tuple_getitem.lookup,ht.typeIs,getItem_tuple_whole ht hs pl pu (by rw[hlen];exact hw) ⟨.ref a,H,I,rfl,q⟩⟩
noncomputable def rSlE (K:PySem.W.Frag):V→Option Int→Option Int→Hp→VK→Prop:=fun x lo hi H Q=>rSlD K x lo hi H Q∨rSlW x lo hi H Q∨rSlS x lo hi H Q
theorem sl_E:SlR X (rSlE X.K):=sl_D.or (sl_tupW.or sl_str)
noncomputable def slE:PV→Option Int→Option Int→M PV
 | .lst l,lo,hi=>.ret (.lst (cutP l lo hi))
 | .tup l,lo,hi=>.ret (.tup (cutP l lo hi))
 | .str z,lo,hi=>if z.length≤100000 then .ret (.str (Txt.slice z lo hi)) else .fail
 |_,_,_=>.fail
theorem sv_E {K:PySem.W.Frag}:SlV (rSlE K) slE:=fun φ G O H n R Q y lo hi x pr dm ok r w q=>by
 cases y<;>first|exact w.elim|skip
 ·rename_i z
  rw[r.str_i]
  unfold slE at w
  dsimp only at w
  by_cases hc:z.length≤100000
  ·rw[if_pos hc] at w;exact .inr (.inr ⟨z,rfl,hc,q.sc ok (.str _) w⟩)
  ·rw[if_neg hc] at w;exact w.elim
 ·rename_i l
  obtain⟨p,xs,rfl,h,e⟩:=r.tup_i
  replace w:R (.tup (cutP l lo hi)) n:=w
  by_cases hc:HT.sIx l.length 0 lo=0∧HT.sIx l.length l.length hi=l.length
  ·rw[cutP_whole l lo hi hc] at w
   cases r with
   |full r=>exact .inr (.inl ⟨p,xs,rfl,h,by rw[←e.1];exact hc,q.sc ok r w⟩)
  ·exact .inl (.inr ⟨p,xs,rfl,SqT.of h,by rw[←e.1];exact hc,fun p' hp=>q.tup ok dm hp (pr _ G.pB) (cut_reps e lo hi) w⟩)
 ·rename_i l
  obtain⟨p,xs,rfl,h,e⟩:=r.lst_i
  exact .inl (.inl ⟨p,xs,rfl,SqL.of h,fun p' hp=>q.lst ok dm hp (pr _ G.pB) (cut_reps e lo hi) w⟩)
end
section
variable {prog:Program} {w:World} {A:Around} {E:Value→Shared→Prop} {s:Shared}
theorem nx_tup (ht:s.heap.IsTupleIter it t i) (hl:s.heap.IsTuple t items) (hx:items[i]?=some x)
  (q: ∀ h',h'.IsTupleIter it t (i+1)→Heap.SameBut it s.heap h'→Q x {s with heap:=h'}):wpAny (model prog w) A (Builtin.SmallTypes.nextOf (.ref it)) Q E s:=by
 have key:wpAny (model prog w) A (callSpecial? (.ref it) (Str.ofString "__next__")) (fun r s'=> ∃ v,r=some v∧Q v s') E s:=by
  obtain⟨o,ho,hc,hd⟩:=id ht
  obtain⟨ol,hol,_,nl,hdl⟩:=hl
  refine wpAny_callSpecial?_slot ht.typeIs F.slot_tuple_iterator_next (wpAny_call_entry F.slot_tuple_iterator_next ht.typeIs F.entry_tuple_iterator_next ?_ (F.args_tuple_iterator_next_1 _))
  change wpAny _ _ (field (.ref it) 0 >>= _) _ _ s
  apply wpAny_bind
  apply wpAny_field ho hd (x:=.ref t) rfl
  change wpAny _ _ (if(Value.ref t==Value.none)=true then _ else _) _ _ s
  rw[if_neg (fun z:(Value.ref t==Value.none)=true=>Bool.false_ne_true z)]
  change wpAny _ _ (field (.ref it) 1 >>= _) _ _ s
  apply wpAny_bind
  apply wpAny_field ho hd (x:=.int i 0) rfl
  change wpAny _ _ (seqItems? (.ref t) >>= _) _ _ s
  apply wpAny_bind
  apply wpAny_seqItems hol hdl
  simp only[Int.toNat_natCast,hx]
  apply wpAny_bind
  refine wpAny_setField ho hd (by simp) (wpAny_pure ⟨x,rfl,x,rfl,q _ ⟨_,Heap.get?_update_self _ ho (Obj.isFreed_of_fields (Obj.data_mapFields hd _)),?_,?_⟩ (Heap.SameBut.update ..)⟩)
  ·exact(Obj.cls_mapFields ..).trans hc
  ·rw[Obj.data_mapFields hd]
   simp[rawInt]
 unfold Builtin.SmallTypes.nextOf
 exact wpAny_bind (wpAny_mono key (fun r s' hq0=>by obtain⟨v,e,h⟩:=hq0;subst e;exact wpAny_pure h) fun _ _ h=>h)
theorem nx_tup_end (hh:A.handled=none) (ht:s.heap.IsTupleIter it t i) (hl:s.heap.IsTuple t items) (hx:items[i]?=none)
  (q: ∀ h' e,Heap.ExtBut it s.heap h'→(∃ o,h'.get? e=some o∧o.cls= .type "StopIteration")→E (.ref e) {s with heap:=h'}):wpAny (model prog w) A (Builtin.SmallTypes.nextOf (.ref it)) Q E s:=by
 have key: ∀ Q':Option Value→Shared→Prop,wpAny (model prog w) A (callSpecial? (.ref it) (Str.ofString "__next__")) Q' E s:=by
  intro Q'
  obtain⟨o,ho,hc,hd⟩:=id ht
  obtain⟨ol,hol,_,nl,hdl⟩:=hl
  refine wpAny_callSpecial?_slot ht.typeIs F.slot_tuple_iterator_next (wpAny_call_entry F.slot_tuple_iterator_next ht.typeIs F.entry_tuple_iterator_next ?_ (F.args_tuple_iterator_next_1 _))
  change wpAny _ _ (field (.ref it) 0 >>= _) _ _ s
  apply wpAny_bind
  apply wpAny_field ho hd (x:=.ref t) rfl
  change wpAny _ _ (if(Value.ref t==Value.none)=true then _ else _) _ _ s
  rw[if_neg (fun z:(Value.ref t==Value.none)=true=>Bool.false_ne_true z)]
  change wpAny _ _ (field (.ref it) 1 >>= _) _ _ s
  apply wpAny_bind
  apply wpAny_field ho hd (x:=.int i 0) rfl
  change wpAny _ _ (seqItems? (.ref t) >>= _) _ _ s
  apply wpAny_bind
  apply wpAny_seqItems hol hdl
  simp only[Int.toNat_natCast,hx]
  apply wpAny_bind
  apply wpAny_rule
  apply wpAny_bind
  apply wpAny_setField ho hd (by simp)
  change wpAny _ _ (newExc (.type "StopIteration") [] >>= _) _ _ _
  apply wpAny_bind
  simp only[newExc,newTuple]
  apply wpAny_bind
  refine wpAny_newObj_type ?_ (by size_fits)
  apply wpAny_bind
  refine wpAny_of_eq (a:=Value.none) (by first|rfl|(simp only[firstArgMember];rfl)) ?_
  refine wpAny_newObj_type ?_ (by size_fits)
  simp only[raiseNew]
  apply wpAny_bind
  apply wpAny_handled
  rw[show A.in1.handled=none from hh]
  refine wpAny_bind (wpAny_pure (wpAny_throw ?_))
  exact q _ _ (((Heap.SameBut.update ..).extBut.push _).push _) ⟨_,Heap.get?_push_size _ rfl,rfl⟩
 unfold Builtin.SmallTypes.nextOf
 exact wpAny_bind (key _)
end
section
variable {X:Cx} {pZ:List (Addr×Obj)} {σ:St} {H:Hp} {s:Shared} {h':Heap}
theorem Inv.turnedN {t':Nat} {wr:List Addr} {T:Addr} (I:Inv X pZ σ H s) (hf: ∀ b∈wr,FpOk X pZ H b) (k: ∀ b u,b∉wr→s.heap.get? b=some u→h'.get? b=some u) (hT:s.heap.objs.size≤T)
  (new:ObjOk X.prog X.w (upd H T o) h' T o):Inv X pZ σ (upd H T o) {s with heap:=h',toks:=t'}:=by
 have nT:H T=none:=I.hok.fresh hT
 have neT: ∀ b u,s.heap.get? b=some u→b≠T:=fun b u e z=>absurd (Nat.lt_of_lt_of_le (Heap.lt_size e) (z▸hT)) (Nat.lt_irrefl _)
 have neH: ∀ b u,H b=some u→b≠T:=fun b u e z=>by rw[z,nT] at e;cases e
 have nw: ∀ b u,H b=some u→b∉wr:=fun b u e z=>by rw[(hf b z).1] at e;cases e
 refine I.step (g':=s.gens) (d':=s.drawn) (ch:=wr) (fun b hb=>⟨(hf b hb).2.2.2.1,(hf b hb).2.1,(hf b hb).2.2.2.2.1,(hf b hb).2.2.2.2.2⟩) (fun b u _ _ hc e _=>k b u hc e) (fun b u _ _ hc e _=>⟨u.slots,k b u hc e⟩)
  (fun b u _ e n=>by rw[upd_ne (neT b u e)];exact n) (fun b u hc e=>⟨u,k b u hc e⟩) (fun b xs e=>by rw[upd_ne (neH b _ e)];exact e) (fun b ob u e=>by rw[upd_ne (neH b _ e)];exact e) (fun b ps e=>⟨#[],by rw[upd_ne (neH b _ e),e];simp⟩) (fun m hm=>?_) (fun b u e=>?_) I.bare
 ·obtain⟨ob,es,ep,ho,r⟩:=hm
  exact⟨ob,es,ep,k _ ob (fun z=>(hf _ z).2.1 rfl) ho,r⟩
 ·by_cases hb:b=T
  ·subst hb;rw[upd_same] at e;cases e;exact new
  ·rw[upd_ne hb] at e
   refine(I.hok b u e).stay (fun c v hc q=>k c v ?_ q) (fun c q=>by rw[upd_ne (neH c _ q)];exact q) fun c xs q=>by rw[upd_ne (neH c _ q)];exact q
   rcases hc with z|z
   ·rw[z];exact nw b u e
   ·exact nw c _ z
theorem Inv.turnedL {t':Nat} {wr:List Addr} (I:Inv X pZ σ H s) (hf: ∀ b∈wr,FpOk X pZ H b) (k: ∀ b u,b∉wr→s.heap.get? b=some u→h'.get? b=some u):Inv X pZ σ H {s with heap:=h',toks:=t'}:=by
 have nw: ∀ b u,H b=some u→b∉wr:=fun b u e z=>by rw[(hf b z).1] at e;cases e
 refine I.step (g':=s.gens) (d':=s.drawn) (ch:=wr) (fun b hb=>⟨(hf b hb).2.2.2.1,(hf b hb).2.1,(hf b hb).2.2.2.2.1,(hf b hb).2.2.2.2.2⟩) (fun b u _ _ hc e _=>k b u hc e) (fun b u _ _ hc e _=>⟨u.slots,k b u hc e⟩)
  (fun b u _ e n=>n) (fun b u hc e=>⟨u,k b u hc e⟩) (fun b xs e=>e) (fun b ob u e=>e) (fun b ps e=>⟨#[],by rw[e];simp⟩) (fun m hm=>?_) (fun b u e=>?_) I.bare
 ·obtain⟨ob,es,ep,ho,r⟩:=hm
  exact⟨ob,es,ep,k _ ob (fun z=>(hf _ z).2.1 rfl) ho,r⟩
 ·refine(I.hok b u e).stay (fun c v hc q=>k c v ?_ q) (fun c q=>q) fun c xs q=>q
  rcases hc with z|z
  ·rw[z];exact nw b u e
  ·exact nw c _ z
end
noncomputable def Ite (K:PySem.W.Frag) (a:Addr):It:=
 ⟨fun i H=> ∃ xs x,SqL K H a xs∧xs[i]?=some x,fun i H y H'=> ∃ T,y= .ref T∧H T=none∧∀ xs x,SqL K H a xs→xs[i]?=some x→H'=upd H T (.tup [.int i,x]),fun i H=> ∃ xs,SqL K H a xs∧xs.length≤i⟩
theorem pair_ok (hT:h.get? T=some {cls:=.type "tuple",data:=.seq #[u,v]}) (ru:RelV x u) (rv:RelV y v):ObjOk P w H h T (.tup [x,y]):=
 ⟨by show 2≤sizeLine;decide,[u,v],.cons ru (.cons rv .nil),_,hT,rfl,_,rfl⟩
theorem turn_enum {P:Program} {w:World} {K:PySem.W.Frag} {elts:List Expr} {kk:Nat} {pos:Pos} (a e it:Addr) (hne:e≠it):Turn P w K (.Tuple elts kk pos) (Ite K a) [e,it] e (fun i h=>(∃ old,IsEnum h e it i old)∧h.IsListIter it a i) where
 mem:=by simp
 obj:=fun i h st b hb=>by
  obtain⟨⟨old,he⟩,o,ho,hc,hd⟩:=st
  have hb':b=e∨b=it:=by simpa using hb
  rcases hb' with rfl|rfl
  ·exact⟨_,he,fun v z=>by cases z⟩
  ·exact⟨o,ho,fun v z=>by rw[hd] at z;cases z⟩
 keep:=fun i h h' st k=>by
  obtain⟨⟨old,he⟩,o,ho,hc,hd⟩:=st
  exact⟨⟨old,k e (by simp) _ he⟩,o,k it (by simp) _ ho,hc,hd⟩
 item:=by
  intro X hP hw hK hc i pZ s σ H E I hf st hg
  subst hP hw hK
  obtain⟨xs,x,hq,hx⟩:=hg
  obtain⟨its,rv,p,hz⟩:=I.list hq
  obtain⟨u,hu,ru⟩:=rv.get hx
  obtain⟨⟨old,he⟩,hit⟩:=st
  refine wpAny_pyNext_enum_item he hit p.isList (x:=u) (by simpa using hu) hne fun h1 ho hit1 hT hsz k1=>?_
  refine⟨_,rfl,wpAny_letOwnedTupleGo_enum (s:={s with heap:=h1,toks:=s.toks+1}) ho fun h2 he2 s2=>?_⟩
  have lt: ∀ b o,s.heap.get? b=some o→b≠s.heap.objs.size:=fun b o q=>Nat.ne_of_lt (Heap.lt_size q)
  have neT:s.heap.objs.size≠e:=fun z=>lt e _ he z.symm
  have hT2:h2.get? s.heap.objs.size=some {cls:=.type "tuple",data:=.seq #[.int i s.toks,u]}:=(s2.2 _ neT).trans hT
  have I2:=I.turnedN (t':=s.toks+1) (h':=h2) (wr:=[e,it]) (T:=s.heap.objs.size) (o:=.tup [.int i,x]) hf (fun b o hb q=>by
   have hb':b≠e∧b≠it:=by simpa using hb
   exact(s2.2 b hb'.1).trans (k1 b o hb'.1 hb'.2 q)) (Nat.le_refl _) (pair_ok hT2 ⟨_,rfl⟩ ru)
  refine⟨.ref s.heap.objs.size,_,I2,rfl,⟨_,rfl,I.hok.fresh (Nat.le_refl _),fun ys y hy hyx=>?_⟩,⟨⟨_,by simpa using he2⟩,hit1.at fun o q=>(s2.2 it hne.symm).trans q⟩,fun b hb=>?_⟩
  ·rw[I.list_inj hy hq,hx] at hyx
   cases hyx
   rfl
  ·have hlt:b≠s.heap.objs.size:=by
    have hb':b=e∨b=it:=by simpa using hb
    rcases hb' with rfl|rfl
    ·exact fun z=>neT z.symm
    ·obtain⟨o,ho',_⟩:=hit
     exact lt _ _ ho'
   rw[upd_ne hlt]
   exact(hf b hb).1
 done:=by
  intro X hP hw hK hc i pZ s σ H E I hf st hg
  subst hP hw hK
  obtain⟨xs,hq,hx⟩:=hg
  obtain⟨its,rv,p,hz⟩:=I.list hq
  have hl:=rv.length
  obtain⟨⟨old,he⟩,hit⟩:=st
  refine wpAny_pyNext_enum_end (I.ok.hd hc) he hit p.isList (by simp;lia) fun h1 k1=>⟨rfl,I.turnedL (t':=s.toks) hf fun b o hb q=>k1 b o (fun z=>hb (by simp[z])) q⟩
 self:=fun _ _ _ _ _ st h=>by
  obtain⟨⟨old,he⟩,_⟩:=st
  exact wpAny_pyIter_enum he h
noncomputable def Itz (a b:Addr):It:=
 ⟨fun i H=> ∃ xs ys x y,H a=some (.tup xs)∧H b=some (.tup ys)∧xs[i]?=some x∧ys[i]?=some y,fun i H r H'=> ∃ T,r= .ref T∧H T=none∧∀ xs ys x y,H a=some (.tup xs)→H b=some (.tup ys)→xs[i]?=some x→ys[i]?=some y→H'=upd H T (.tup [x,y]),fun i H=> ∃ xs ys,H a=some (.tup xs)∧H b=some (.tup ys)∧(xs.length≤i∨ys.length≤i)⟩
section
variable {X:Cx} {e e2:Expr} {t1 t2:TE} {elts:List Expr} {kk:Nat} {tpos pos p:Pos} {x:Str}
noncomputable def iEnum (K:PySem.W.Frag) (ta:TA):TI:=fun σ H R=>ta σ H fun vs H1=> ∃ a xs,vs=[.ref a]∧SqL K H1 a xs∧R (Ite K a) H1
theorem enum_it {pZ:List (Addr×Obj)} {σ:St} {H:Hp} {s:Shared} {R:It→Hp→Prop} {a:Addr} {xs:List V} (I:Inv X pZ σ H s) (ha:SqL X.K H a xs) (q:R (Ite X.K a) H):
  wpAny (model X.prog X.w) X.A (call (.type "enumerate") [.ref a]) (fun v s1=>wpAny (model X.prog X.w) X.A (pyIter v) (PIE X pZ σ (.Tuple elts kk tpos) R) X.xe s1) X.xe s:=by
 obtain⟨its,rv,p1,hz⟩:=I.list ha
 refine call_enumerate_list p1.isList fun h1 he hit hsz k1=>?_
 have I1:Inv X pZ σ H {s with heap:=h1}:=I.kept (t':=s.toks) k1
 refine wpAny_pyIter_enum (s:={s with heap:=h1}) he ?_
 refine⟨_,[s.heap.objs.size+1,s.heap.objs.size],_,Ite X.K a,H,rfl,I1,turn_enum a _ _ (Nat.succ_ne_self _),⟨⟨_,he⟩,hit⟩,fun c hc=>?_,q⟩
 have hle:s.heap.objs.size≤c:=by
  rcases List.mem_cons.mp hc with h|hc
  ·rw[h];exact Nat.le_succ _
  ·rw[List.mem_singleton.mp hc];exact Nat.le_refl _
 exact I.fpOk hle (I.hok.fresh hle)
theorem pi_enum (hg:Gl X x) (hm:X.mg x=none) (hv:bootBuiltins x=some (.type "enumerate")) (ha:PA X [e] ta) (hn:x≠"__name__":=by decide) (hdb:(x==("__debug__":Str))=false:=by decide)
  (he:starEach [e] X.env=(false,eval e X.env)::starEach [] X.env:=by rfl) (hpl:(backTo pos (starEach [] X.env)).any (·.1)=false:=by rfl):PI X (.Tuple elts kk tpos) (.Call (.Name x p) [e] [] pos) (iEnum X.K ta):=by
 intro pZ s σ H R I h
 refine wpAny_Call_Name_kw (ld_blt I hg hm hv ?_ hn hdb)
 refine PyProof.Rows.callWith_type1 (thn (ha pos pZ s σ H _ I h) fun us s1 ⟨vs,H1,I1,r1,q1⟩=>?_) he hpl
 obtain⟨a,xs,rfl,h1,q⟩:=q1
 obtain⟨u,rfl,ru⟩:=r1.one
 cases ru
 exact enum_it I1 h1 q
end
section
variable {φ:Fam}
noncomputable def zipL (l1 l2:List PV):List PV:=List.zipWith (fun x y=>PV.tup [x,y]) l1 l2
inductive ItQ (G:Bg φ) (O:Addr→Prop) (H:Hp):List PV→It→Prop where
 |zip {a b:Addr} {xs ys:List V} {l1 l2:List PV} (na: ¬ O a) (ha:H a=some (.tup xs)) (ra:Reps G.B O H l1 xs) (nb: ¬ O b) (hb:H b=some (.tup ys)) (rb:Reps G.B O H l2 ys):ItQ G O H (zipL l1 l2) (Itz a b)
end
noncomputable def ItzL (a b:Addr):It:=
 ⟨fun i H=> ∃ xs ys x y,H a=some (.lst xs)∧H b=some (.lst ys)∧xs[i]?=some x∧ys[i]?=some y,fun i H r H'=> ∃ T,r= .ref T∧H T=none∧∀ xs ys x y,H a=some (.lst xs)→H b=some (.lst ys)→xs[i]?=some x→ys[i]?=some y→H'=upd H T (.tup [x,y]),fun i H=> ∃ xs ys,H a=some (.lst xs)∧H b=some (.lst ys)∧(xs.length≤i∨ys.length≤i)⟩
abbrev lit (a:Addr):Obj:={cls:=.type "list_iterator",data:=.fields #[.ref a,.int 0 0]}
section
variable {φ:Fam}
section
variable {X:Cx} {e:Expr}
def small3 (a b c:Int):Prop:=0 < c∧c < 1000000000∧-1000000000000 < a∧a < 1000000000000∧-1000000000000 < b∧b < 1000000000000
end
end
section
variable {φ:Fam}
instance (a b c:Int):Decidable (small3 a b c):=by unfold small3;infer_instance
noncomputable def potO (c:Addr):HO:=.ext fun h=> ∃ (ns:List Int) (its:List Value) (e:Nat),Vals (ns.map V.int) its∧(∀ x∈ns,0≤x)∧ns.length≤63∧h.get? c=some {cls:=.type "list",data:=.seq its.toArray e}
theorem potO_ok {ns:List Int} (x:ObjOk P w H h c (.lst (ns.map V.int))) (hn: ∀ x∈ns,0≤x) (hl:ns.length≤63) (H':Hp):ObjOk P w H' h c (potO c):=by
 obtain⟨_,its,e,r,g⟩:=x
 refine⟨⟨ns,its,e,r,hn,hl,g⟩,⟨_,g⟩,?_⟩
 rintro h1 h2 ⟨ns,its,e,r,hn,hl,g⟩ k
 exact⟨ns,its,e,r,hn,hl,k _ g⟩
section
variable {X:Cx} {body:List Stmt} {t:TS}
theorem Inv.open (I:Inv X pZ σ H s) (h:H c=some (potO c)): ∃ ns:List Int,(∀ x∈ns,0≤x)∧ns.length≤63∧Inv X pZ σ (upd H c (.lst (ns.map V.int))) s:=by
 obtain⟨⟨ns,its,e,r,hn,hl,g⟩,_⟩:=I.hok c _ h
 refine⟨ns,hn,hl,I.write (h':=s.heap) (t':=s.toks) (x:=c) (e:=c) (by rw[h];exact trivial) (.inl rfl) (fun b u _ q=>q) ⟨_,g⟩ ⟨by rw[List.length_map,sizeLine_eq];lia,its,e,r,g⟩⟩
theorem Inv.close {ns:List Int} (I:Inv X pZ σ H s) (h:H c=some (.lst (ns.map V.int))) (hn: ∀ x∈ns,0≤x) (hl:ns.length≤63):Inv X pZ σ (upd H c (potO c)) s:=by
 have x:=I.hok c _ h
 obtain⟨_,its,e,r,g⟩:=id x
 exact I.write (h':=s.heap) (t':=s.toks) (x:=c) (e:=c) (by rw[h];exact trivial) (.inl rfl) (fun b u _ q=>q) ⟨_,g⟩ (potO_ok x hn hl _)
noncomputable def tOpen (c:Addr) (t:TS):TS:=fun D σ H=>H c=some (potO c)∧∀ ns:List Int,(∀ x∈ns,0≤x)→ns.length≤63→t {nx:=fun _ _=>False,rt:=fun v H'=> ∃ ns':List Int,H' c=some (.lst (ns'.map V.int))∧(∀ x∈ns',0≤x)∧ns'.length≤63∧D.rt v (upd H' c (potO c))} σ (upd H c (.lst (ns.map V.int)))
theorem pss_open (c:Addr) (h:PSs X body t):PSs X body (tOpen c t):=by
 intro pZ s σ H D I hq
 obtain⟨hc,q⟩:=hq
 obtain⟨ns,hn,hl,I1⟩:=I.open hc
 refine thn (h pZ s σ _ _ I1 (q ns hn hl)) fun f s' e=>?_
 cases f with
 |next=>obtain⟨_,_,_,z⟩:=e;exact z.elim
 |brk=>obtain⟨_,_,_,z⟩:=e;exact z.elim
 |cont=>obtain⟨_,_,_,z⟩:=e;exact z.elim
 |ret u=>
  obtain⟨v,σ',H',I2,rv,ns',h1,h2,h3,h4⟩:=e
  exact⟨v,σ',_,I2.close h1 h2 h3,rv,h4⟩
end
def Pot (H:Hp) (a c:Addr):Prop:= ∃ sd k:Int,H a=some (.lst [.ref c,.int sd,.int k])∧H c=some (potO c)∧0≤sd∧sd < 2305843009213693951
theorem Pot.ne (h:Pot H a c):a≠c:=by
 obtain⟨sd,k,h1,h2,_⟩:=h
 exact ne_of h1 h2 (by intro z;cases z)
noncomputable def spTake:Sp:=fun vs H Q _=> ∃ (a c:Addr) (m:Int),vs=[.ref a,.int m]∧Pot H a c∧0 < m∧m < 1073741824∧
 ∀ (d:Int) (H':Hp),0≤d→d < m→(∀ p o,p≠a→H p=some o→H' p=some o)→Pot H' a c→Q (.int d) H'
noncomputable def spPot (K:PySem.W.Frag):Sp:=fun vs H Q _=> ∃ (a:Addr) (ns:List Int),vs=[.ref a]∧SqL K H a (ns.map V.int)∧ns.length≤63∧∀ (b c:Addr) (H':Hp),Same H H'→Pot H' b c→Q (.ref b) H'
end
theorem mul_small (h0:0≤j) (h1:j < 2 ^ 63):CMul i j:=by
 have e:(2:Int) ^ 63=9223372036854775808:=by decide
 have e2:(2:Int) ^ 64=18446744073709551616:=by decide
 rw[e] at h1
 exact .inr ⟨by rw[e2];lia,by rw[e2];lia⟩
theorem mul_smallL (h0:0≤i) (h1:i < 2 ^ 63):CMul i j:=by
 have e:(2:Int) ^ 63=9223372036854775808:=by decide
 have e2:(2:Int) ^ 64=18446744073709551616:=by decide
 rw[e] at h1
 exact .inl ⟨by rw[e2];lia,by rw[e2];lia⟩
structure InPot (H:Hp) (a c:Addr) (sd k:Int) (ns:List Int) (H':Hp):Prop where
 h1:H' a=some (.lst [.ref c,.int sd,.int k])
 h2:H' c=some (.lst (ns.map V.int))
 nn: ∀ x∈ns,0≤x
 hl:ns.length≤63
 st: ∀ p o,p≠a→p≠c→H p=some o→H' p=some o
theorem InPot.new (h:InPot H a c sd k ns H') (hu:H' u=none):InPot H a c sd k ns (upd H' u o):=by
 have ne: ∀ p o',H' p=some o'→p≠u:=fun p o' e z=>by rw[z,hu] at e;cases e
 exact⟨by rw[upd_ne (ne _ _ h.h1)];exact h.h1,by rw[upd_ne (ne _ _ h.h2)];exact h.h2,h.nn,h.hl,fun p o' n1 n2 e=>by rw[upd_ne (ne _ _ (h.st p o' n1 n2 e))];exact h.st p o' n1 n2 e⟩
theorem InPot.setC (h:InPot H a c sd k ns H') (hac:a≠c) (eo:o= .lst (ns'.map V.int)) (nn: ∀ x∈ns',0≤x) (hl:ns'.length≤63):InPot H a c sd k ns' (upd H' c o):=
 ⟨by rw[upd_ne hac];exact h.h1,by rw[upd_same,eo],nn,hl,fun p o' n1 n2 e=>by rw[upd_ne n2];exact h.st p o' n1 n2 e⟩
theorem InPot.setA (h:InPot H a c sd k ns H') (hac:a≠c) (eo:o= .lst [.ref c,.int sd',.int k']):InPot H a c sd' k' ns (upd H' a o):=
 ⟨by rw[upd_same,eo],by rw[upd_ne (Ne.symm hac)];exact h.h2,h.nn,h.hl,fun p o' n1 n2 e=>by rw[upd_ne n1];exact h.st p o' n1 n2 e⟩
theorem at0 (x:Int) (ns:List Int):atI ((x::ns).map V.int) 0=some (.int x):=(atI_nat (j:=0) rfl:atI ((x::ns).map V.int) ((0:Nat):Int)=some (.int x))
theorem ix0 (x:Int) (ns:List Int):ixN ((x::ns).map V.int).length 0=some 0:=by
 simp only[ixN,List.map_cons,List.length_cons]
 rw[if_pos (Int.le_refl 0),if_pos (by lia)]
 rfl
theorem si0 (x:Int) (ns:List Int):seqIndex? 0 ((x::ns).map V.int).length=some 0:=by
 simp[seqIndex?]
theorem cut63 (ns:List Int):cutV (ns.map V.int) none (some 63)=(ns.take 63).map V.int:=by
 unfold cutV
 rw[HT.sIx_none]
 have e:HT.sIx (ns.map V.int).length (ns.map V.int).length (some 63)=min 63 (ns.map V.int).length:=HT.sIx_nat _ _ 63
 rw[e,List.drop_zero,Nat.sub_zero,List.length_map,←List.map_take]
 congr 1
 rw[List.take_eq_take_iff]
 lia
theorem for_enum {K:PySem.W.Frag} {a:Addr} {xs:List V} {g:TG} {tb:TS} {D:Ends} {σ:St} {H:Hp} (Pv:Nat→L2.St→Hp→Prop) (h0:Pv 0 σ H) (hl: ∀ i σ H,i≤xs.length→Pv i σ H→SqL K H a xs)
  (hs: ∀ i x σ H T,xs[i]?=some x→H T=none→Pv i σ H→g (.ref T) σ (upd H T (.tup [.int i,x])) fun σ2 H2=>tb {D with nx:=Pv (i+1),ct:=Pv (i+1),bk:=D.nx} σ2 H2) (hd: ∀ σ H,Pv xs.length σ H→D.nx σ H):
  ∃ W:Nat→Nat→L2.St→Hp→Prop,(∃ m,W 0 m σ H)∧∀ i m σ H,W i m σ H→
   ((Ite K a).stop i H∧D.nx σ H)∨((Ite K a).go i H∧∃ N:L2.St→Hp→Prop,(∀ σ' H',N σ' H'→∃ m',m' < m∧W (i+1) m' σ' H')∧∀ x H',(Ite K a).yld i H x H'→g x σ H' fun σ2 H2=>tb {D with nx:=N,ct:=N,bk:=D.nx} σ2 H2):=by
 refine⟨fun i m σ H=>m=xs.length - i∧i≤xs.length∧Pv i σ H,⟨xs.length,by simp,Nat.zero_le _,h0⟩,?_⟩
 rintro i m σ H ⟨rfl,hi,p⟩
 have q:=hl i σ H hi p
 by_cases hlt:i < xs.length
 ·refine .inr ⟨⟨xs,xs[i],q,by simp[hlt]⟩,Pv (i+1),fun σ' H' p'=>⟨xs.length - (i+1),by lia,rfl,hlt,p'⟩,fun x H' y=>?_⟩
  obtain⟨T,rfl,hT,y⟩:=y
  rw[y xs xs[i] q (by simp[hlt])]
  exact hs i _ σ H T (by simp[hlt]) hT p
 ·have e:i=xs.length:=by lia
  subst e
  exact .inl ⟨⟨xs,q,Nat.le_refl _⟩,hd σ H p⟩
section
variable {X:Cx} {body:List Stmt} {t:TS}
noncomputable def tShut (t:TS):TS:=fun D σ H=>t {nx:=fun _ _=>False,rt:=fun v H'=> ∃ (c:Addr) (ns':List Int),H' c=some (.lst (ns'.map V.int))∧(∀ x∈ns',0≤x)∧ns'.length≤63∧D.rt v (upd H' c (potO c))} σ H
theorem pss_shut (h:PSs X body t):PSs X body (tShut t):=by
 intro pZ s σ H D I hq
 refine thn (h pZ s σ _ _ I hq) fun f s' e=>?_
 cases f with
 |next=>obtain⟨_,_,_,z⟩:=e;exact z.elim
 |brk=>obtain⟨_,_,_,z⟩:=e;exact z.elim
 |cont=>obtain⟨_,_,_,z⟩:=e;exact z.elim
 |ret u=>
  obtain⟨v,σ',H',I2,rv,c,ns',h1,h2,h3,h4⟩:=e
  exact⟨v,σ',_,I2.close h1 h2 h3,rv,h4⟩
end
section
variable {X:Cx} {x:Str} {p pos tpos:Pos} {e:Expr} {elts:List Expr} {kk:Nat}
theorem pi_enumT (hg:Gl X x) (hm:X.mg x=none) (hv:bootBuiltins x=some (.type "enumerate")) (ha:PA X [e] ta) (hn:x≠"__name__":=by decide) (hdb:(x==("__debug__":Str))=false:=by decide)
  (he:starEach [e] X.env=(false,eval e X.env)::starEach [] X.env:=by rfl) (hpl:(backTo pos (starEach [] X.env)).any (·.1)=false:=by rfl):PI X (.Tuple elts kk tpos) (.Call (.Name x p) [e] [] pos) (iEnum X.K ta):=pi_enum hg hm hv ha hn hdb he hpl
end
section
variable {X:Cx}
def showsD (d:PyData):Prop:=d.showable=true∧d.hasDict=false∧d.shown.length≤1000000∧d.depth≤40
end
instance (d:PyData):Decidable (showsD d):=by unfold showsD;infer_instance
section
variable {X:Cx} {φ:Fam} {st:Stmt}
noncomputable def intsOf:List PV→Option (List Int)
 |[]=>some []
 | .int b::r=>(intsOf r).map (b:: ·)
 |_=>none
theorem ints_rep: ∀ {l:List PV} {xs:List V} {bs:List Int},Reps B O H l xs→intsOf l=some bs→xs=bs.map V.int
 |[],xs,bs,h,e=>by simp[intsOf] at e;subst e;exact h.nil_inv
 |y::l,xs,bs,h,e=>by
  cases y<;>simp[intsOf] at e
  rename_i i
  obtain⟨bs',e1,rfl⟩:=e
  obtain⟨x,t,rfl,h1,h2⟩:=h.cons_inv
  cases h1
  rw[List.map_cons,ints_rep h2 e1]
end
def BIn (h:Heap) (mg:Str→Option Value):Prop:= ∃ bm ob,mg "__builtins__"=some (.ref bm)∧bm≠builtinsNs∧h.get? bm=some ob∧ob.cls= .type "module"∧ob.dict=some builtinsNs∧ob.data= .plain
abbrev emptyTab:Obj:={cls:=.none,data:=.fields #[]}
theorem head_tabs {K:PySem.W.Frag} {a:Addr} {tbs:List Addr} {x:Str} {s:Shared} {vs:List Value}
  (KX:K.In s.heap) (hns:s.heap.Ns mainGlobals mg) (hbn:s.heap.Ns builtinsNs mb) (hbb: ∀ x:Str,x≠"__name__"→mb x=bootBuiltins x) (hlim:s.heap.NoLimit) (hbm:BIn s.heap mg) (hg:s.gens= #[])
  (ha:s.heap.get? a=some {cls:=.type "list",data:=.seq vs.toArray}) (hi:IntsAre vs ns) (hl:ns.length≤sizeLine) (hr:Room k callerA)
  (ht: ∀ tb∈tbs,isCodeTable s.heap tb∧s.heap.get? tb=some emptyTab∧K.lookup tb=none)
  (F: ∀ base:Heap,K.In base→base.Ns mainGlobals mg→BIn base mg→FnOk P w K mg base CX k fa fd [x] sp) (hbind: ∀ (s:Shared) (u:Value),BindsTo s fd ⟨[u],[]⟩ [(x,u)])
  (hsp: ∀ H:Hp,(∀ tb∈tbs,H tb=some (.tbl #[]))→SqL K H a (ns.map V.int)→sp [.ref a] H (fun v _=>v= .bl true) fun _ _ _=>False)
  (hCX: ∀ H e s',CX [] H s (fun _ _ _=>False) e s'→False):
  codeAny (model P w) callerA (.call (.ref fa) ⟨[.ref a],[]⟩) (fun r s'=>r= .ok (.ret (.bool true))∧OldK s.heap s'.heap∧s'.os=s.os∧AllBare s'.gens) s:=by
 have hta:a∉tbs:=fun z=>by
  have gt:=(ht a z).2.1
  rw[ha] at gt
  cases gt
 let so:HO:=.frz {cls:=.type "list",data:=.seq vs.toArray} (.lst (ns.map V.int))
 let H:Hp:=fun b=>if b∈tbs then some (.tbl #[]) else if b=a∧K.lookup a=none then some so else none
 have Ht: ∀ tb∈tbs,H tb=some (.tbl #[]):=fun tb z=>if_pos z
 have cases_: ∀ b u,H b=some u→(b∈tbs∧u= .tbl #[])∨(b=a∧K.lookup a=none∧u=so):=fun b u e=>by
  by_cases c1:b∈tbs
  ·rw[Ht b c1] at e
   cases e
   exact .inl ⟨c1,rfl⟩
  ·by_cases c2:b=a∧K.lookup a=none
   ·rw[show H b=some so from(if_neg c1).trans (if_pos c2)] at e
    cases e
    exact .inr ⟨c2.1,c2.2,rfl⟩
   ·rw[show H b=none from(if_neg c1).trans (if_neg c2)] at e
    cases e
 have hok:HOk P w H s.heap:=fun b u e=>by
  rcases cases_ b u e with⟨z,rfl⟩|⟨rfl,_,rfl⟩
  ·exact(ht b z).2.1
  ·exact⟨ha,by rw[List.length_map];exact hl,vs,_,vals_ints hi,ha⟩
 have free': ∀ {b:Addr} {o:Obj},s.heap.get? b=some o→o≠emptyTab→o≠{cls:=.type "list",data:=.seq vs.toArray}→H b=none:=fun {b o} e n1 n2=>by
  cases q:H b with
  |none=>rfl
  |some u=>
   rcases cases_ b u q with⟨z,_⟩|⟨rfl,_,_⟩
   ·rw[(ht b z).2.1] at e;cases e;exact(n1 rfl).elim
   ·rw[ha] at e;cases e;exact(n2 rfl).elim
 have free: ∀ {b:Addr} {o:Obj} {es:Array DictEntry} {ep:Nat},s.heap.get? b=some o→o.data= .dict es ep→H b=none:=fun {b o es ep} e d=>free' e (fun z=>by rw[z] at d;cases d) (fun z=>by rw[z] at d;cases d)
 have nsK: ∀ {b:Addr} {m:Str→Option Value},s.heap.Ns b m→(hidT s.heap H).Ns b m:=fun {b m} ⟨o,es,ep,e,d,r⟩=>⟨o,es,ep,hidT_get e (free e d),d,r⟩
 have hKb:K.In (hidT s.heap H):=fun b o e=>hidT_get (KX b o e) (by
  cases q:H b with
  |none=>rfl
  |some u=>
   rcases cases_ b u q with⟨z,_⟩|⟨rfl,hk,_⟩
   ·rw[(ht b z).2.2] at e;cases e
   ·rw[hk] at e;cases e)
 have hBI:BIn (hidT s.heap H) mg:=by
  obtain⟨bm,ob,b1,b2,b3,b4,b5,b6⟩:=hbm
  exact⟨bm,ob,b1,b2,hidT_get b3 (free' b3 (fun z=>by rw[z] at b6;cases b6) (fun z=>by rw[z] at b6;cases b6)),b4,b5,b6⟩
 have md:Mod K mg (hidT s.heap H):=⟨hKb,nsK hns,⟨mb,nsK hbn,hbb⟩,let ⟨mc,h1,h2⟩:=hlim;⟨mc,nsK h1,h2⟩⟩
 have e0:Env0 P w K mg (hidT s.heap H) callerA [] s H:=⟨rfl,md,fun b o e=>of_hidT e,Nat.le_of_eq (hidT_size _ _),trivial,fun b hb=>(nomatch (show b∈([]:List Addr) from hb)),hok,.of_eq hg⟩
 have sq:SqL K H a (ns.map V.int):=by
  cases hk:K.lookup a with
  |some o=>
   have e:=KX a o hk
   rw[ha] at e
   cases e
   exact .inr ⟨_,vs.toArray,_,hk,rfl,rfl,rfl,by rw[List.size_toArray,hi.length];exact hl,by simpa using vals_ints hi⟩
  |none=>exact .inl (.inr ⟨_,(if_neg hta).trans (if_pos ⟨rfl,hk⟩)⟩)
 refine codeAny_mono ((F _ hKb (nsK hns) hBI).run callerA [] s H ⟨[.ref a],[]⟩ [.ref a] [.ref a] _ _ hr e0 (hbind s (.ref a)) (.cons rfl .nil) (hsp H Ht sq)) fun r s' h=>?_
 match r,h with
 | .error e,h=>exact(hCX H e s' h).elim
 | .ok (.ret u),h=>
  obtain⟨v,H',os,bare,un,hok',r',q⟩:=h
  obtain rfl:v= .bl true:=q
  obtain rfl:u=Value.bool true:=r'
  have kept: ∀ b o,b∉tbs→s.heap.get? b=some o→s'.heap.get? b=some o:=fun b o nb e=>by
   cases qb:H b with
   |none=>exact un.keep b o e qb (fun z=>nomatch (show b∈([]:List Addr) from z)) (fun z=>nomatch z)
   |some u=>
    rcases cases_ b u qb with⟨z,_⟩|⟨rfl,_,rfl⟩
    ·exact absurd z nb
    ·obtain⟨e1,_⟩:=hok b _ qb
     obtain⟨e2,_⟩:=hok' b _ (un.frzs b _ _ qb)
     rw[e] at e1
     cases e1
     exact e2
  have grown: ∀ b∈tbs,∃ more,s'.heap.get? b=some {cls:=.none,data:=.fields (#[]++more)}:=fun b z=>by
   obtain⟨more,et⟩:=un.tbls b #[] (Ht b z)
   exact⟨more,hok' b _ et⟩
  refine⟨rfl,⟨fun b o e=>?_,fun b o e=>?_⟩,os,bare⟩
  ·by_cases nb:b∈tbs
   ·obtain⟨more,gt'⟩:=grown b nb
    rw[(ht b nb).2.1] at e
    cases e
    exact .inr (.inl ⟨(ht b nb).1,rfl,#[],more,rfl,gt'⟩)
   ·exact .inl (kept b o nb e)
  ·by_cases nb:b∈tbs
   ·obtain⟨more,gt'⟩:=grown b nb
    exact⟨_,gt'⟩
   ·exact⟨o,kept b o nb e⟩
theorem walk_tabs {l:PySem.W.OpenLaw} {YP:World→Heap→Prop} {d:DefRec} {K:Params→PySem.W.Frag} {CX:World→CXT} {sp:World→List Addr→Sp} {x:Str}
  (hn:l.most=some n) (hn2:n≤sizeLine) (hdf:d.params.defaults=[]) (hr:Room k callerA)
  (hY: ∀ (w:World) (h:Heap),YP w h→(K w.params).In h)
  (F: ∀ (w:World) (mg:Str→Option Value) (fa:Addr) (h:Heap),(K w.params).In h→h.Ns mainGlobals mg→mg d.name=some (.ref fa)→
   ∃ (fd:FuncData) (ts:List (Str×Addr×Addr)),(∀ e∈ts,PySem.W.tabIn (K w.params) e.1=some e.2∧(K w.params).lookup e.2.2=none∧((recsOf q).find? fun r=>r.name==e.1).isSome=true)∧
    (∀ (s:Shared) (u:Value),BindsTo s fd ⟨[u],[]⟩ [(x,u)])∧
    ∀ base:Heap,(K w.params).In base→base.Ns mainGlobals mg→BIn base mg→FnOk l.prog w (K w.params) mg base (CX w) k fa fd [x] (sp w (ts.map (·.2.2))))
  (hsp: ∀ (w:World) (H:Hp) (a:Addr) (ns:List Int) (tbs:List Addr),ns.length≤n→(∀ tb∈tbs,H tb=some (.tbl #[]))→SqL (K w.params) H a (ns.map V.int)→sp w tbs [.ref a] H (fun v _=>v= .bl true) fun _ _ _=>False)
  (hCX: ∀ (w:World) (H:Hp) (s:Shared) (e:Value) (s':Shared),CX w [] H s (fun _ _ _=>False) e s'→False):
  PySem.W.WalkO q loose XP YP l.row.toRowW d [] (fun f vs=>PySem.call f vs):=by
 refine Att.attach_call hn hdf fun w s₀ s₁ mg mb fa o pm cd doc a vs ns G Y ho hd hcd hmg hobj hints hlen hg=>?_
 have KX:=hY w _ Y
 obtain⟨fd,ts,hts,hb,hF⟩:=F w mg fa _ KX G.T.g hmg
 refine head_tabs (tbs:=ts.map (·.2.2)) KX G.T.g G.T.b G.T.builtins G.T.nolimit ?_ hg hobj hints (Nat.le_trans hlen hn2) hr (fun tb z=>?_) hF hb (fun H hO hS=>hsp w H a ns _ hlen hO hS) fun H e s'=>hCX w H s₁ e s'
 ·obtain⟨bm,ob,b1,b2,b3,b4,b5,b6⟩:=G.T.bmain
  exact⟨bm,ob,b1,b2,b3,b4,b5,b6⟩
 ·obtain⟨e,he,rfl⟩:=List.mem_map.mp z
  obtain⟨h1,h2,h3⟩:=hts e he
  obtain⟨d',h3⟩:=Option.isSome_iff_exists.mp h3
  obtain⟨g1,g2⟩:=PySem.W.tab_of G.T KX h3 h1
  exact⟨(g1.tab g2).isCodeTable,g2,h2⟩
section
open PySem.W (kas_sort kas_ask KatTups)
noncomputable def rk (kf:Nat→Int×Int) (i:Nat):Int:=(kf i).1 * 1000000+(kf i).2
end
noncomputable def meet (l:List Str) (z:Str):List Str:=if l.any (· ==z) then l else l++[z]
noncomputable def met (zs:List Str):List Str:=zs.foldl meet []
noncomputable def spLawT (K:PySem.W.Frag) (tbs:List Addr):Sp:=fun vs H Q _=> ∃ (a:Addr) (ns:List Int),vs=[.ref a]∧SqL K H a (ns.map V.int)∧ns.length≤63∧(∀ tb∈tbs,H tb=some (.tbl #[]))∧∀ H',Q (.bl true) H'
end L2
namespace HT
open L2
open L2.Ent (val un)
end HT
namespace L2
open Ent (val un)
section
variable {φ:Fam} {G:Bg φ} {O0 O:Addr→Prop} {H0 H H':Hp} {σ:St} {ρ:PEnv} {n n':Nat}
theorem SI.setD (s:SI G O0 H0 O H σ ρ n) (k:Nat) (x:Ext G.B H H') (ok:G.ok H' n') (hp:H p=none) (hp':H' p=some (.dK xs)) (r:RepsK G.B (fun q=>O q∨q=p) H' l xs):
  SI G O0 H0 (fun q=>O q∨q=p) H' (σ.set k (some (.ref p))) (ρ.set k (.ownD l)) n':=by
 have nO: ¬ O p:=fun z=>by obtain⟨o,g⟩:=s.es.dm p z;rw[hp] at g;cases g
 have np: ¬ G.priv p:=fun z=>nO (s.es.pr p z)
 have h0:H0 p=none:=by
  cases e:H0 p with
  |none=>rfl
  |some o=>obtain⟨_,this⟩:=(s.ext p o (fun z=>np (z▸G.pB)) e).there;rw[hp] at this;cases this
 have hB:O G.B:=s.es.B
 have gw: ∀ q,(O q∨q=p)→O q∨H q=none:=fun q z=>by
  rcases z with z|z
  ·exact .inl z
  ·subst z;exact .inr hp
 have s':=s.es.ext x ok
 have es:ES G (fun q=>O q∨q=p) H' σ ρ n':=by
  refine⟨⟨s.es.er.1,fun i e he=>?_⟩,ok,fun q z=>.inl (s.es.pr q z),fun q z=>?_⟩
  ·have r1:=s.es.er.2 i e he
   cases e with
   |un=>trivial
   |val y=>obtain⟨v,hv,rr⟩:=r1;exact⟨v,hv,(rr.grow gw).ext (.inl hB) x⟩
   |own t=>
    obtain⟨q,ys,hv,hq,nq,hh,rr⟩:=r1
    exact⟨q,ys,hv,.inl hq,nq,x q _ (fun z=>nq (z▸G.pB)) hh,(rr.grow gw).ext (.inl hB) x⟩
   |ownD t=>
    obtain⟨q,ys,hv,hq,nq,hh,rr⟩:=r1
    exact⟨q,ys,hv,.inl hq,nq,x q _ (fun z=>nq (z▸G.pB)) hh,⟨rr.1,fun i a b c d=>((rr.2 i a b c d).grow gw).ext (.inl hB) x⟩⟩
  ·rcases z with z|z
   ·exact s'.dm q z
   ·subst z;exact⟨_,hp'⟩
 have ow: ∀ i q,OwnAt (ρ.set k (.ownD l)) (σ.set k (some (.ref p))) i q→(i=k∧q=p)∨(i≠k∧OwnAt ρ σ i q):=fun i q h=>by
  obtain⟨t,h1,h2,h3⟩:=h
  by_cases hk:k=i
  ·subst hk
   rw[List.getElem?_set] at h3
   split at h3
   ·split at h3
    ·cases h3;exact .inl ⟨rfl,rfl⟩
    ·cases h3
   ·rename_i hh;exact absurd rfl hh
  ·rw[List.getElem?_set_ne hk] at h1 h3
   exact .inr ⟨fun z=>hk z.symm,t,h1,h2,h3⟩
 refine⟨es.set k (t:=.ownD l) ⟨p,xs,rfl,.inr rfl,np,hp',r⟩,s.p0,fun q z=>.inl (s.sub q z),s.ext.trans x,fun q z=>?_,s.d0,fun i q h=>?_,fun i j q h h'=>?_⟩
 ·rcases z with z|z
  ·exact s.gr q z
  ·subst z;exact .inr h0
 ·rcases ow i q h with⟨_,rfl⟩|⟨_,h⟩
  ·exact h0
  ·exact s.fr i q h
 ·rcases ow i q h with⟨rfl,rfl⟩|⟨n1,h1⟩
  ·rcases ow j q h' with⟨rfl,_⟩|⟨n2,h2⟩
   ·rfl
   ·obtain⟨_,_,o,g⟩:=ownAt_O s.es h2;rw[hp] at g;cases g
  ·rcases ow j q h' with⟨rfl,rfl⟩|⟨n2,h2⟩
   ·obtain⟨_,_,o,g⟩:=ownAt_O s.es h1;rw[hp] at g;cases g
   ·exact s.dj i j q h1 h2
theorem SI.putD (s:SI G O0 H0 O H σ ρ n) {k:Nat} {l l':List (Key×PV)} {p:Addr} {xs':List (Key×V)} (hk:ρ[k]?=some (.ownD l)) (hp:σ[k]?=some (some (.ref p))) (r:RepsK G.B O H l' xs'):SI G O0 H0 O (upd H p (.dK xs')) σ (ρ.set k (.ownD l')) n:=by
 have ho:OwnAt ρ σ k p:=⟨_,hk,rfl,hp⟩
 obtain⟨hO,np,o,hh⟩:=ownAt_O s.es ho
 have nfz:=ownAt_nf s.es ho hh
 have kp: ∀ q u,¬ O q→H q=some u→upd H p (.dK xs') q=some u∧¬ O q:=fun q u nq hq=>⟨by
  have hne:q≠p:=fun z=>nq (z▸hO)
  rw[upd_ne hne];exact hq,nq⟩
 have ow: ∀ i q,OwnAt (ρ.set k (.ownD l')) σ i q→OwnAt ρ σ i q:=fun i q h=>by
  obtain⟨t,h1,h2,h3⟩:=h
  by_cases e:k=i
  ·subst e;exact⟨_,hk,rfl,h3⟩
  ·rw[List.getElem?_set_ne e] at h1;exact⟨t,h1,h2,h3⟩
 refine⟨⟨⟨by simp[s.es.er.1],fun i e he=>?_⟩,G.keep H _ _ (fun q u hq hu=>by
   have hne:q≠p:=fun z=>by
    rcases hq with hq|hq
    ·exact np (z▸hq)
    ·rw[z,hh] at hu;cases hu;exact nfz hq
   rw[upd_ne hne];exact hu) s.es.ok,s.es.pr,fun q hq=>?_⟩,s.p0,s.sub,fun q u nb hq=>?_,s.gr,s.d0,fun i q h=>s.fr i q (ow i q h),fun i j q h h'=>s.dj i j q (ow i q h) (ow j q h')⟩
 ·by_cases e1:k=i
  ·subst e1
   have hl:k < ρ.length:=(List.getElem?_eq_some_iff.mp hk).1
   rw[List.getElem?_set_self hl] at he
   cases he
   rw[hp]
   exact⟨p,xs',rfl,hO,np,upd_same,r.keep kp⟩
  ·rw[List.getElem?_set_ne e1] at he
   have r1:=s.es.er.2 i e he
   cases e with
   |un=>trivial
   |val y=>obtain⟨v,hv,rr⟩:=r1;exact⟨v,hv,rr.keep kp⟩
   |own t=>
    obtain⟨q,ys,hv,hq,nq,hh',rr⟩:=r1
    have hne:q≠p:=fun z=>by
     subst z
     exact e1 (s.dj k i q ho ⟨_,he,rfl,sig_of s.es.er he hv⟩)
    exact⟨q,ys,hv,hq,nq,by rw[upd_ne hne];exact hh',rr.keep kp⟩
   |ownD t=>
    obtain⟨q,ys,hv,hq,nq,hh',rr⟩:=r1
    have hne:q≠p:=fun z=>by
     subst z
     exact e1 (s.dj k i q ho ⟨_,he,rfl,sig_of s.es.er he hv⟩)
    exact⟨q,ys,hv,hq,nq,by rw[upd_ne hne];exact hh',rr.keep kp⟩
 ·by_cases e1:q=p
  ·subst e1;exact⟨_,upd_same⟩
  ·obtain⟨u,g⟩:=s.es.dm q hq;exact⟨u,by rw[upd_ne e1];exact g⟩
 ·have hne:q≠p:=fun z=>by subst z;rw[s.fr k q ho] at hq;cases hq
  exact(s.ext q u nb hq).to fun v e=>.of (by rw[upd_ne hne];exact e)
end
noncomputable def valP (l:List (Key×PV)) (k:Key):Option PV:=(l.find? fun kv=>decide (kv.1=k)).map (·.2)
noncomputable def putP (l:List (Key×PV)) (k:Key) (y:PV):List (Key×PV):=
 if(l.any fun kv=>decide (kv.1=k))=true then l.map (fun kv=>if kv.1=k then(kv.1,y) else kv) else l++[(k,y)]
noncomputable def keyO:PV→Option Key
 | .int i=>some (.inl i)
 | .str x=>some (.inr x)
 |_=>none
section
variable {B:Addr} {O:Addr→Prop} {H:Hp}
theorem RepsK.nil:RepsK B O H [] []:=⟨rfl,fun i y x a=>by simp at a⟩
theorem RepsK.cons {y:Key×PV} {x:Key×V} {l:List (Key×PV)} {ks:List (Key×V)} (e:y.1=x.1) (r:Rep B O H y.2 x.2) (t:RepsK B O H l ks):RepsK B O H (y::l) (x::ks):=by
 refine⟨by simp[e,t.1],fun i a b h1 h2=>?_⟩
 cases i with
 |zero=>simp at h1 h2;subst h1 h2;exact r
 |succ i=>simp at h1 h2;exact t.2 i a b h1 h2
theorem RepsK.inv (r:RepsK B O H l ks):(l=[]∧ks=[])∨∃ y l' x ks',l=y::l'∧ks=x::ks'∧y.1=x.1∧Rep B O H y.2 x.2∧RepsK B O H l' ks':=by
 cases l with
 |nil=>exact .inl ⟨rfl,by have:=r.1;simpa using this.symm⟩
 |cons y l=>
  cases ks with
  |nil=>have:=r.1;simp at this
  |cons x ks=>
   have h:=r.1
   simp only[List.map_cons,List.cons.injEq] at h
   exact .inr ⟨y,l,x,ks,rfl,rfl,h.1,r.2 0 y x rfl rfl,h.2,fun i a b h1 h2=>r.2 (i+1) a b (by simpa using h1) (by simpa using h2)⟩
theorem RepsK.val (k:Key): ∀ {l:List (Key×PV)} {ks:List (Key×V)},RepsK B O H l ks→(valP l k=none∧valV ks k=none)∨∃ y x,valP l k=some y∧valV ks k=some x∧Rep B O H y x
 |[],ks,r=>by
  rcases r.inv with⟨_,rfl⟩|⟨_,_,_,_,e,_⟩
  ·exact .inl ⟨rfl,rfl⟩
  ·cases e
 |y::l,ks,r=>by
  rcases r.inv with⟨e,_⟩|⟨y',l',x,ks',e,rfl,ek,ry,rt⟩
  ·cases e
  ·cases e
   by_cases c:y.1=k
   ·refine .inr ⟨y.2,x.2,by simp[valP,c],?_,ry⟩
    exact valV_pos (ek.symm.trans c)
   ·have c': ¬ x.1=k:=fun z=>c (ek.trans z)
    rw[valV_neg c']
    have e1:valP (y::l) k=valP l k:=by simp[valP,List.find?_cons,c]
    rw[e1]
    exact RepsK.val k rt
theorem RepsK.any (k:Key) (r:RepsK B O H l ks):(l.any fun kv=>decide (kv.1=k))=ks.any fun kv=>decide (kv.1=k):=by
 have e1:(l.any fun kv=>decide (kv.1=k))=(l.map (·.1)).any fun z=>decide (z=k):=by rw[List.any_map];rfl
 have e2:(ks.any fun kv=>decide (kv.1=k))=(ks.map (·.1)).any fun z=>decide (z=k):=by rw[List.any_map];rfl
 rw[e1,e2,r.1]
theorem RepsK.snoc (rx:Rep B O H y x): ∀ {l:List (Key×PV)} {ks:List (Key×V)},RepsK B O H l ks→RepsK B O H (l++[(k,y)]) (ks++[(k,x)])
 |[],ks,r=>by
  rcases r.inv with⟨_,rfl⟩|⟨_,_,_,_,e,_⟩
  ·exact RepsK.cons (y:=(k,y)) (x:=(k,x)) rfl rx RepsK.nil
  ·cases e
 |z::l,ks,r=>by
  rcases r.inv with⟨e,_⟩|⟨y',l',x',ks',e,rfl,ek,ry,rt⟩
  ·cases e
  ·cases e
   exact RepsK.cons ek ry (RepsK.snoc rx rt)
theorem RepsK.repl (rx:Rep B O H y x): ∀ {l:List (Key×PV)} {ks:List (Key×V)},RepsK B O H l ks→RepsK B O H (l.map fun kv=>if kv.1=k then(kv.1,y) else kv) (ks.map fun kv=>if kv.1=k then(kv.1,x) else kv)
 |[],ks,r=>by
  rcases r.inv with⟨_,rfl⟩|⟨_,_,_,_,e,_⟩
  ·exact RepsK.nil
  ·cases e
 |z::l,ks,r=>by
  rcases r.inv with⟨e,_⟩|⟨y',l',x',ks',e,rfl,ek,ry,rt⟩
  ·cases e
  ·cases e
   rw[List.map_cons,List.map_cons]
   by_cases c:z.1=k
   ·rw[if_pos c,if_pos (ek.symm.trans c)]
    exact RepsK.cons ek rx (RepsK.repl rx rt)
   ·rw[if_neg c,if_neg (fun q=>c (ek.trans q))]
    exact RepsK.cons ek ry (RepsK.repl rx rt)
theorem RepsK.put {k:Key} {y:PV} {x:V} {l:List (Key×PV)} {ks:List (Key×V)} (r:RepsK B O H l ks) (rx:Rep B O H y x):RepsK B O H (putP l k y) (putK ks k x):=by
 unfold putP putK
 rw[r.any k]
 split
 ·exact r.repl rx
 ·exact r.snoc rx
end
theorem keyO_rep {φ:Fam} {G:Bg φ} {O:Addr→Prop} {H:Hp} {y:PV} {x:V} {k:Key} (r:RepB G O H y x) (e:keyO y=some k):x=kV k:=by
 cases y<;>first|cases e|skip
 ·rw[r.int_i];rfl
 ·rw[r.str_i];rfl
theorem RepsK.len {B:Addr} {O:Addr→Prop} {H:Hp} {l:List (Key×PV)} {ks:List (Key×V)} (r:RepsK B O H l ks):l.length=ks.length:=by simpa using congrArg List.length r.1
section
variable {φ:Fam} {X:Cx} {e o i a b:Expr} {pos:Pos} {md mk mv:PEnv→M PV}
noncomputable def dgetO:PV→PV→M PV
 | .dct l,y=>(M.ofO (keyO y)).bind fun k=>M.ofO (valP l k)
 |_,_=>.fail
theorem ofO_wp {α:Type} {o:Option α} {n:Nat} {R:α→Nat→Prop} (w:(M.ofO o).wp n R): ∃ y,o=some y∧R y n:=by
 cases o with
 |none=>exact w.elim
 |some y=>exact⟨y,rfl,w⟩
theorem ev_dget (h:BE X e (tDGet (teB φ md) (teB φ mk))):EV φ X e (bin2 dgetO md mk):=BE.mono h fun σ H Q hq0=>by
 obtain⟨G,O,ρ,n,R,s,w,q⟩:=hq0
 unfold bin2 at w
 rw[M.wZ] at w
 refine⟨G,O,ρ,n,_,s,w,fun y x H1 n1 e1 ok1 r1 w1=>?_⟩
 have s1:=s.ext e1 ok1
 rw[M.wZ] at w1
 refine⟨G,O,ρ,n1,_,s1,w1,fun z x' H2 n2 e2 ok2 r2 w2=>?_⟩
 cases y<;>first|exact w2.elim|skip
 rename_i l
 unfold dgetO at w2
 rw[M.wZ] at w2
 obtain⟨k,ek,w2⟩:=ofO_wp w2
 obtain⟨v,ev,w2⟩:=ofO_wp w2
 obtain⟨p,ks,rfl,hd,rr⟩:=(r1.ext s.B e2).dct_i
 rcases rr.val k with⟨z1,_⟩|⟨v',xv,z1,z2,rv⟩
 ·rw[z1] at ev;cases ev
 ·rw[z1] at ev;cases ev
  exact⟨p,xv,rfl,.inl ⟨ks,k,hd,keyO_rep r2 ek,z2.symm⟩,q _ _ _ _ (e1.trans e2) ok2 rv w2⟩
noncomputable def dinO (neg:Bool):PV→PV→M PV
 |y,.dct l=>(M.ofO (keyO y)).bind fun k=>.ret (.bl ((valP l k).isSome !=neg))
 |_,_=>.fail
theorem din_core {neg:Bool} {σ:St} {H:Hp} {Q:VK} (h:teP φ (bin2 (dinO neg) mk md) σ H Q):teB φ mk σ H fun y H1=>teB φ md σ H1 fun x H2=> ∃ a o,x= .ref a∧DGet H2 a y o∧Q (.bl (o.isSome !=neg)) H2:=by
 obtain⟨G,O,ρ,n,R,s,w,q⟩:=h
 unfold bin2 at w
 rw[M.wZ] at w
 refine⟨G,O,ρ,n,_,s,w,fun z x' H1 n1 e1 ok1 r1 w1=>?_⟩
 have s1:=s.ext e1 ok1
 rw[M.wZ] at w1
 refine⟨G,O,ρ,n1,_,s1,w1,fun y x H2 n2 e2 ok2 r2 w2=>?_⟩
 cases y<;>first|(simp only[dinO] at w2;exact w2.elim)|skip
 rename_i l
 have w2':((M.ofO (keyO z)).bind fun k=>M.ret (.bl ((valP l k).isSome !=neg)):M PV).wp n2 R:=by cases z<;>exact w2
 rw[M.wZ] at w2'
 obtain⟨k,ek,w2'⟩:=ofO_wp w2'
 obtain⟨p,ks,rfl,hd,rr⟩:=r2.dct_i
 refine⟨p,valV ks k,rfl,.inl ⟨ks,k,hd,keyO_rep (r1.ext s.B e2) ek,rfl⟩,q _ _ _ _ (e1.trans e2) ok2 (.bl _) ?_⟩
 have e3:(valV ks k).isSome=(valP l k).isSome:=by
  rcases rr.val k with⟨z1,z2⟩|⟨_,_,z1,z2,_⟩<;>simp[z1,z2]
 rw[e3]
 exact w2'
theorem tv_din (hu:X.A.units+1 < cLine) (hk:EB φ X a mk) (hd:EB φ X b md) (hm:behindInMarks .In b=false):TV φ X (.Compare a [.In] [b] pos) (asB (bin2 (dinO false) mk md)):=
 BT.mono ⟨pt_cmp (pc_din hu hk.out hd.out) hm⟩ (asB_in fun σ H Q h=>by
  obtain h:=din_core h
  unfold tDIn
  simpa only[Bool.bne_false] using h)
theorem tv_dnotin (hu:X.A.units+1 < cLine) (hk:EB φ X a mk) (hd:EB φ X b md) (hm:behindInMarks .NotIn b=false):TV φ X (.Compare a [.NotIn] [b] pos) (asB (bin2 (dinO true) mk md)):=
 BT.mono ⟨pt_cmp (pc_dnotin hu hk.out hd.out) hm⟩ (asB_in fun σ H Q h=>by
  obtain h:=din_core h
  unfold tDNotIn
  simpa only[Bool.bne_true] using h)
theorem be_dget (hu:X.A.units+1 < cLine) (ho:EB φ X o md) (hi:EB φ X i mk) (hs:NoSl i):EV φ X (.Subscript o i pos) (bin2 dgetO md mk):=ev_dget ⟨pe_dget hu ho.out hi.out hs⟩
end
section
variable {φ:Fam} {X:Cx} {st:Stmt}
noncomputable def dputP (k:Nat) (mk mv:PEnv→M PV):PEnv→M Fl:=fun ρ=>(mv ρ).bind fun y=>match ρ[k]? with|some (.ownD l)=>(mk ρ).bind fun z=>(M.ofO (keyO z)).bind fun key=>if l.length < 100000 then .ret (.nx (ρ.set k (.ownD (putP l key y)))) else .fail|_=>.fail
theorem sv_dput {k:Nat} {mk mv:PEnv→M PV} (h:BS X st (sDPut (tVar k) (teB φ mk) (teP φ mv))):SV φ X st (dputP k mk mv):=BS.mono h fun D σ H hq0=>by
 obtain⟨G,O0,H0,O,ρ,n,s,w⟩:=hq0
 unfold dputP at w
 rw[M.wZ] at w
 refine⟨G,O,ρ,n,_,s.es,w,fun y x H1 n1 e1 ok1 r1 w1=>?_⟩
 have s1:=s.to e1 ok1
 cases hk:ρ[k]? with
 |none=>simp only[hk] at w1;exact w1.elim
 |some t=>
  cases t with
  |ownD l=>
   simp only[hk] at w1
   obtain⟨p,xs,hx,hO,np,hh,rr⟩:=s1.es.er.2 k _ hk
   have hs:=sig_of s.es.er hk hx
   have npB:p≠G.B:=fun z=>np (z▸G.pB)
   rw[M.wZ] at w1
   refine⟨_,hs,G,O,ρ,n1,_,s1.es,w1,fun i x2 H2 n2 e2 ok2 r2 w2=>?_⟩
   rw[M.wZ] at w2
   obtain⟨key,ek,w2⟩:=ofO_wp w2
   by_cases c:l.length < 100000
   ·rw[if_pos c] at w2
    have s2:=s1.to e2 ok2
    have hh2:H2 p=some (.dK xs):=e2 p _ npB hh
    refine⟨p,_,rfl,.inl ⟨xs,key,hh2,keyO_rep r2 ek,?_,rfl⟩,w2 O _ _ (s2.putD hk hs ((rr.ext s.es.B e2).put (r1.ext s.es.B e2)))⟩
    rw[←rr.len,sizeLine_eq];lia
   ·rw[if_neg c] at w2;exact w2.elim
  |_=>simp only[hk] at w1;exact w1.elim
theorem bs_dput (hu:X.A.units+1 < cLine) (ho:BE X o td) (hi:BE X i ty) (hv:BE X value tv) (hs:swapsWith value (some (.Subscript o i pos')) pos.line X.env=pure false:=by rfl):
  BS X (.Assign [.Subscript o i pos'] value pos) (sDPut td ty tv):=⟨ps_dput hu ho.out hi.out hv.out hs⟩
end
section
open AutoSeq1 (wpAny_loadPart')
theorem meets_enT (l:Addr) (items:Array Value) (n:Nat) (dct:Option Addr) (sl:Array (Option Value)):
  Meets (Builtin.«enumerate.__new__» ⟨[.type "enumerate",.ref l],[]⟩) (fun _ R s=>s.heap.get? l=some {cls:=.type "tuple",dict:=dct,data:=.seq items n,slots:=sl}∧
   R (.ok (.ret (.ref (s.heap.push {cls:=.type "tuple_iterator",data:=.fields #[.ref l,.int 0 0]}).objs.size)))
    {s with heap:=(s.heap.push {cls:=.type "tuple_iterator",data:=.fields #[.ref l,.int 0 0]}).push {cls:=.type "enumerate",data:=.fields #[.none,.bool false,.ref s.heap.objs.size,rawInt 0,.none,.none]}}):=
 .of_wp fun prog w A R s h=>by
  obtain⟨hp,g,d,tk,os⟩:=s;obtain⟨hl,h⟩:=h
  have hsub:=sub_enumerate
  have hL:Heap.IsTuple (Shared.heap ⟨hp,g,d,tk,os⟩) l items:=⟨_,hl,rfl,n,rfl⟩
  wp_walk using wpAny_loadPart' hl
  refine wpAny_stack_any fun st=>wpAny_pure ?_
  split
  ·rename_i c _ _ _ _ _
   cases (c==Value.type "enumerate")
   ·wp_walk using wpAny_loadPart' hl,wpAny_pyIter_tuple hL
    exact⟨_,rfl,h⟩
   ·wp_walk using wpAny_loadPart' hl,wpAny_pyIter_tuple hL
    exact⟨_,rfl,h⟩
  ·wp_walk using wpAny_loadPart' hl,wpAny_pyIter_tuple hL
   exact⟨_,rfl,h⟩
section
variable {prog:Program} {w:World} {A:Around} {E:Value→Shared→Prop} {s:Shared}
theorem call_enumerate_tuple (hL:s.heap.IsTuple l items)
  (h: ∀ h',IsEnum h' (s.heap.objs.size+1) s.heap.objs.size 0 .none→h'.IsTupleIter s.heap.objs.size l 0→h'.objs.size=s.heap.objs.size+2→
   (∀ b o,s.heap.get? b=some o→h'.get? b=some o)→Q (.ref (s.heap.objs.size+1)) {s with heap:=h'}):
  wpAny (model prog w) A (call (.type "enumerate") [.ref l]) Q E s:=by
 obtain⟨⟨c,dct,dt,sl⟩,hl,hc,n,hd⟩:=hL
 replace hc:c= .type "tuple":=hc
 replace hd:dt= .seq items n:=hd
 subst hc hd
 refine callType_new F.called_enumerate (by decide) (F.typeCall_enumerate_1 _) (F.newCall_enumerate_1 _) (fun obj=>F.args_object_init_2 obj _) F.entry_enumerate_new
  (meets_enT l items n dct sl) ⟨hl,?_⟩
 have hz:(s.heap.push {cls:=.type "tuple_iterator",data:=.fields #[.ref l,.int 0 0]}).objs.size=s.heap.objs.size+1:=Heap.size_push ..
 show _∧_
 rw[hz]
 have he:IsEnum ((s.heap.push {cls:=.type "tuple_iterator",data:=.fields #[.ref l,.int 0 0]}).push
   {cls:=.type "enumerate",data:=.fields #[.none,.bool false,.ref s.heap.objs.size,rawInt 0,.none,.none]}) (s.heap.objs.size+1) s.heap.objs.size 0 .none:=by
  have:=Heap.get?_push_size (s.heap.push {cls:=.type "tuple_iterator",data:=.fields #[.ref l,.int 0 0]})
   (o:={cls:=.type "enumerate",data:=.fields #[.none,.bool false,.ref s.heap.objs.size,rawInt 0,.none,.none]}) rfl
  rw[hz] at this;exact this
 refine⟨⟨_,he,rfl⟩,h _ he ⟨_,Heap.get?_push_of_some _ (Heap.get?_push_size _ rfl),rfl,rfl⟩ (by rw[Heap.size_push,hz]) fun b o x=>Heap.get?_push_of_some _ (Heap.get?_push_of_some _ x)⟩
theorem tup_keep {h h':Heap} (p:h.IsTuple l items) (k: ∀ o,h.get? l=some o→h'.get? l=some o):h'.IsTuple l items:=let ⟨o,e,r⟩:=p;⟨o,k o e,r⟩
theorem drawsT (hh:A.handled=none) (it l:Addr) (hne:l≠it) (items:Array Value):
  Draws prog w A it [it,l] items.size (fun i v=>items[i]?=some v) (fun i h=>h.IsTupleIter it l i∧h.IsTuple l items) where
 live:=fun _ _ st=>let ⟨o,ho,_⟩:=st.1;⟨o,ho⟩
 frame:=fun _ _ _ st hk=>⟨st.1.at fun o e=>hk it (by simp) o e,tup_keep st.2 fun o e=>hk l (by simp) o e⟩
 item:=fun i s Q E hi st hQ=>by
  refine nx_tup st.1 st.2 (x:=items[i]) (by simp[hi]) fun h' hit' hs'=>?_
  exact hQ _ h' s.toks (by simp[hi]) ⟨hit',tup_keep st.2 fun o e=>(hs'.2 l hne).trans e⟩ hs'
 done:=fun s Q E st hE=>nx_tup_end hh st.1 st.2 (by simp) hE
theorem wpAny_pyNext_enum_endT (hh:A.in1.handled=none) (he:IsEnum s.heap e it i old) (ht:s.heap.IsTupleIter it t j) (hl:s.heap.IsTuple t items) (hx:items[j]?=none)
  (hQ: ∀ h',Heap.ExtBut it s.heap h'→Q none {s with heap:=h'}):wpAny (model prog w) A (pyNext (.ref e)) Q E s:=by
 have hT:s.TypeIs (.ref e) "enumerate":=⟨_,he,rfl⟩
 unfold pyNext
 refine wpAny_bind (wpAny_attempt (wpAny_callSpecial?_slot (name:=Str.ofString "__next__") hT F.slot_enumerate_next
  (wpAny_call_entry F.slot_enumerate_next hT F.entry_enumerate_next ?_ (F.args_enumerate_next_1 _))))
 show wpAny _ _ (field (.ref e) 2 >>= _) _ _ _
 refine wpAny_bind (wpAny_field he rfl (x:=.ref it) rfl ?_)
 refine wpAny_bind (nx_tup_end hh ht hl hx fun h' x he' hx'=>?_)
 obtain⟨o,ho,hc⟩:=hx'
 refine wpAny_bind (wpAny_isInstance (T:="StopIteration") (b:=true) ⟨o,ho,hc⟩ isSubtype_stop ?_)
 exact wpAny_pure (hQ _ he')
end
noncomputable def IteT (K:PySem.W.Frag) (a:Addr):It:=
 ⟨fun i H=> ∃ xs x,SqT K H a xs∧xs[i]?=some x,fun i H y H'=> ∃ T,y= .ref T∧H T=none∧∀ xs x,SqT K H a xs→xs[i]?=some x→H'=upd H T (.tup [.int i,x]),fun i H=> ∃ xs,SqT K H a xs∧xs.length≤i⟩
theorem turn_enT {P:Program} {w:World} {K:PySem.W.Frag} {elts:List Expr} {kk:Nat} {pos:Pos} (a e it:Addr) (hne:e≠it):Turn P w K (.Tuple elts kk pos) (IteT K a) [e,it] e (fun i h=>(∃ old,IsEnum h e it i old)∧h.IsTupleIter it a i) where
 mem:=by simp
 obj:=fun i h st b hb=>by
  obtain⟨⟨old,he⟩,o,ho,hc,hd⟩:=st
  have hb':b=e∨b=it:=by simpa using hb
  rcases hb' with rfl|rfl
  ·exact⟨_,he,fun v z=>by cases z⟩
  ·exact⟨o,ho,fun v z=>by rw[hd] at z;cases z⟩
 keep:=fun i h h' st k=>by
  obtain⟨⟨old,he⟩,o,ho,hc,hd⟩:=st
  exact⟨⟨old,k e (by simp) _ he⟩,o,k it (by simp) _ ho,hc,hd⟩
 item:=by
  intro X hP hw hK hc i pZ s σ H E I hf st hg
  subst hP hw hK
  obtain⟨xs,x,hq,hx⟩:=hg
  obtain⟨its,rv,p,hz⟩:=I.tuple hq
  obtain⟨u,hu,ru⟩:=rv.get hx
  obtain⟨⟨old,he⟩,hit⟩:=st
  have hTu:s.heap.IsTuple a its.toArray:=p
  have hia:i < its.toArray.size:=by
   have:=(List.getElem?_eq_some_iff.mp hu).1
   simpa using this
  have hae:a≠e:=fun z=>by
   exact(by obtain⟨o2,ho2,hc2,_⟩:=hTu;have he':=he;rw[←z] at he';unfold IsEnum at he';rw[ho2] at he';cases he';injection hc2 with hc2;exact absurd hc2 (by decide))
  have hai:a≠it:=fun z=>by
   obtain⟨ob,hob,hco,_⟩:=hit
   obtain⟨o2,ho2,hc2,_⟩:=hTu
   rw[←z,ho2] at hob
   cases hob
   rw[hc2] at hco;injection hco with hco;exact absurd hco (by decide)
  refine wpAny_pyNext_enum_itemD (drawsT (show X.A.in1.handled=none from I.ok.hd hc) it a hai its.toArray) he ⟨hit,hTu⟩ hia hne (by
   intro z
   have z':e=it∨e=a:=by simpa using z
   rcases z' with z'|z'
   ·exact hne z'
   ·exact hae z'.symm) fun x' h1 tk hP ho hst1 hT hsz k1=>?_
  have hx':x'=u:=by
   have:its.toArray[i]?=some u:=by simpa using hu
   rw[this] at hP;exact(Option.some.inj hP).symm
  subst hx'
  obtain⟨hit1,_⟩:=hst1
  refine⟨_,rfl,wpAny_letOwnedTupleGo_enum (s:={s with heap:=h1,toks:=tk+1}) ho fun h2 he2 s2=>?_⟩
  have lt: ∀ b o,s.heap.get? b=some o→b≠s.heap.objs.size:=fun b o q=>Nat.ne_of_lt (Heap.lt_size q)
  have neT:s.heap.objs.size≠e:=fun z=>lt e _ he z.symm
  have hT2:h2.get? s.heap.objs.size=some {cls:=.type "tuple",data:=.seq #[.int i tk,x']}:=(s2.2 _ neT).trans hT
  have I2:=I.turnedN (t':=tk+1) (h':=h2) (wr:=[e,it]) (T:=s.heap.objs.size) (o:=.tup [.int i,x]) hf (fun b o hb q=>by
   have hb':b≠e∧b≠it:=by simpa using hb
   exact(s2.2 b hb'.1).trans (k1 b o hb'.1 hb'.2 q)) (Nat.le_refl _) (pair_ok hT2 ⟨_,rfl⟩ ru)
  refine⟨.ref s.heap.objs.size,_,I2,rfl,⟨_,rfl,I.hok.fresh (Nat.le_refl _),fun ys y hy hyx=>?_⟩,⟨⟨_,by simpa using he2⟩,hit1.at fun o q=>(s2.2 it hne.symm).trans q⟩,fun b hb=>?_⟩
  ·rw[I.tuple_inj hy hq,hx] at hyx
   cases hyx
   rfl
  ·have hlt:b≠s.heap.objs.size:=by
    have hb':b=e∨b=it:=by simpa using hb
    rcases hb' with rfl|rfl
    ·exact fun z=>neT z.symm
    ·obtain⟨o,ho',_⟩:=hit
     exact lt _ _ ho'
   rw[upd_ne hlt]
   exact(hf b hb).1
 done:=by
  intro X hP hw hK hc i pZ s σ H E I hf st hg
  subst hP hw hK
  obtain⟨xs,hq,hx⟩:=hg
  obtain⟨its,rv,p,hz⟩:=I.tuple hq
  have hl:=rv.length
  obtain⟨⟨old,he⟩,hit⟩:=st
  have hTu:s.heap.IsTuple a its.toArray:=p
  have hai:a≠it:=fun z=>by
   obtain⟨ob,hob,hco,_⟩:=hit
   obtain⟨o2,ho2,hc2,_⟩:=hTu
   rw[←z,ho2] at hob
   cases hob
   rw[hc2] at hco;injection hco with hco;exact absurd hco (by decide)
  have hend:its.toArray[i]?=none:=by simp;lia
  refine wpAny_pyNext_enum_endT (show X.A.in1.handled=none from I.ok.hd hc) he hit hTu hend fun h1 k1=>⟨rfl,I.turnedL (t':=s.toks) hf fun b o hb q=>k1 b o (fun z=>hb (by simp[z])) q⟩
 self:=fun _ _ _ _ _ st h=>by
  obtain⟨⟨old,he⟩,_⟩:=st
  exact wpAny_pyIter_enum he h
section
variable {X:Cx} {e e2:Expr} {t1 t2:TE} {elts:List Expr} {kk:Nat} {tpos pos p:Pos} {x:Str}
noncomputable def iEnT (K:PySem.W.Frag) (ta:TA):TI:=fun σ H R=>ta σ H fun vs H1=> ∃ a xs,vs=[.ref a]∧SqT K H1 a xs∧R (IteT K a) H1
theorem enT_it {pZ:List (Addr×Obj)} {σ:St} {H:Hp} {s:Shared} {R:It→Hp→Prop} {a:Addr} {xs:List V} (I:Inv X pZ σ H s) (ha:SqT X.K H a xs) (q:R (IteT X.K a) H):
  wpAny (model X.prog X.w) X.A (call (.type "enumerate") [.ref a]) (fun v s1=>wpAny (model X.prog X.w) X.A (pyIter v) (PIE X pZ σ (.Tuple elts kk tpos) R) X.xe s1) X.xe s:=by
 obtain⟨its,rv,p1,hz⟩:=I.tuple ha
 refine call_enumerate_tuple (show s.heap.IsTuple a its.toArray from p1) fun h1 he hit hsz k1=>?_
 have I1:Inv X pZ σ H {s with heap:=h1}:=I.kept (t':=s.toks) k1
 refine wpAny_pyIter_enum (s:={s with heap:=h1}) he ?_
 refine⟨_,[s.heap.objs.size+1,s.heap.objs.size],_,IteT X.K a,H,rfl,I1,turn_enT a _ _ (Nat.succ_ne_self _),⟨⟨_,he⟩,hit⟩,fun c hc=>?_,q⟩
 have hle:s.heap.objs.size≤c:=by
  rcases List.mem_cons.mp hc with h|hc
  ·rw[h];exact Nat.le_succ _
  ·rw[List.mem_singleton.mp hc];exact Nat.le_refl _
 exact I.fpOk hle (I.hok.fresh hle)
theorem pi_enTup (hg:Gl X x) (hm:X.mg x=none) (hv:bootBuiltins x=some (.type "enumerate")) (ha:PA X [e] ta) (hn:x≠"__name__":=by decide) (hdb:(x==("__debug__":Str))=false:=by decide)
  (he:starEach [e] X.env=(false,eval e X.env)::starEach [] X.env:=by rfl) (hpl:(backTo pos (starEach [] X.env)).any (·.1)=false:=by rfl):PI X (.Tuple elts kk tpos) (.Call (.Name x p) [e] [] pos) (iEnT X.K ta):=by
 intro pZ s σ H R I h
 refine wpAny_Call_Name_kw (ld_blt I hg hm hv ?_ hn hdb)
 refine PyProof.Rows.callWith_type1 (thn (ha pos pZ s σ H _ I h) fun us s1 ⟨vs,H1,I1,r1,q1⟩=>?_) he hpl
 obtain⟨a,xs,rfl,h1,q⟩:=q1
 obtain⟨u,rfl,ru⟩:=r1.one
 cases ru
 exact enT_it I1 h1 q
end
end
section
variable {φ:Fam}
noncomputable def enumL (l:List PV):List PV:=l.mapIdx fun i x=>PV.tup [.int i,x]
inductive ItE (K:PySem.W.Frag) (G:Bg φ) (O:Addr→Prop) (H:Hp):List PV→It→Prop where
 |enL {a:Addr} {xs:List V} {l:List PV} (na: ¬ O a) (ha:H a=some (.lst xs)) (ra:Reps G.B O H l xs):ItE K G O H (enumL l) (Ite K a)
 |enT {a:Addr} {xs:List V} {l:List PV} (na: ¬ O a) (ha:H a=some (.tup xs)) (ra:Reps G.B O H l xs):ItE K G O H (enumL l) (IteT K a)
 |zpL {a b:Addr} {xs ys:List V} {l1 l2:List PV} (na: ¬ O a) (ha:H a=some (.lst xs)) (ra:Reps G.B O H l1 xs) (nb: ¬ O b) (hb:H b=some (.lst ys)) (rb:Reps G.B O H l2 ys):ItE K G O H (zipL l1 l2) (ItzL a b)
theorem enumL_at {i:Nat} (h:(enumL l)[i]?=some y): ∃ u,l[i]?=some u∧y= .tup [.int i,u]:=by
 unfold enumL at h
 rw[List.getElem?_mapIdx] at h
 cases e:l[i]? with
 |none=>rw[e] at h;cases h
 |some u=>rw[e] at h;exact⟨u,rfl,(Option.some.inj h).symm⟩
theorem enumL_len (l:List PV):(enumL l).length=l.length:=by simp[enumL]
theorem ItE.go {K:PySem.W.Frag} {G:Bg φ} {O:Addr→Prop} {H:Hp} {l:List PV} {J:It} (t:ItE K G O H l J) {i:Nat} {y:PV} (hi:l[i]?=some y):J.go i H∧∀ x H2,J.yld i H x H2→∃ T us vs,x= .ref T∧H T=none∧H2=upd H T (.tup vs)∧y= .tup us∧Reps G.B O H us vs:=by
 cases t with
 | @enL a xs l1 na ha ra=>
  obtain⟨u,e1,rfl⟩:=enumL_at hi
  obtain⟨x1,hx1,r1⟩:=ra.at e1
  refine⟨⟨xs,x1,SqL.of ha,hx1⟩,fun x H2 z=>?_⟩
  obtain⟨T,rfl,hT,q⟩:=z
  exact⟨T,[.int i,u],[.int i,x1],rfl,hT,q xs x1 (SqL.of ha) hx1,rfl,.cons (.int _) (.cons r1 .nil)⟩
 | @enT a xs l1 na ha ra=>
  obtain⟨u,e1,rfl⟩:=enumL_at hi
  obtain⟨x1,hx1,r1⟩:=ra.at e1
  refine⟨⟨xs,x1,SqT.of ha,hx1⟩,fun x H2 z=>?_⟩
  obtain⟨T,rfl,hT,q⟩:=z
  exact⟨T,[.int i,u],[.int i,x1],rfl,hT,q xs x1 (SqT.of ha) hx1,rfl,.cons (.int _) (.cons r1 .nil)⟩
 |zpL na ha ra nb hb rb=>
  rename_i a b xs ys l1 l2
  unfold zipL at hi
  rw[List.getElem?_zipWith] at hi
  cases e1:l1[i]? with
  |none=>rw[e1] at hi;simp at hi
  |some u=>
   cases e2:l2[i]? with
   |none=>rw[e1,e2] at hi;simp at hi
   |some v=>
    rw[e1,e2] at hi
    have hi':PV.tup [u,v]=y:=by simpa using hi
    obtain⟨x1,hx1,r1⟩:=ra.at e1
    obtain⟨x2,hx2,r2⟩:=rb.at e2
    refine⟨⟨xs,ys,x1,x2,ha,hb,hx1,hx2⟩,fun x H2 z=>?_⟩
    obtain⟨T,rfl,hT,q⟩:=z
    exact⟨T,[u,v],[x1,x2],rfl,hT,q xs ys x1 x2 ha hb hx1 hx2,hi'.symm,.cons r1 (.cons r2 .nil)⟩
theorem ItE.stop {K:PySem.W.Frag} {G:Bg φ} {O:Addr→Prop} {H:Hp} {l:List PV} {J:It} (t:ItE K G O H l J):J.stop l.length H:=by
 cases t with
 | @enL a xs l1 na ha ra=>exact⟨xs,SqL.of ha,by rw[enumL_len,ra.1];exact Nat.le_refl _⟩
 | @enT a xs l1 na ha ra=>exact⟨xs,SqT.of ha,by rw[enumL_len,ra.1];exact Nat.le_refl _⟩
 |zpL na ha ra nb hb rb=>
  rename_i a b xs ys l1 l2
  refine⟨xs,ys,ha,hb,?_⟩
  have h1:=ra.1
  have h2:=rb.1
  unfold zipL
  rw[List.length_zipWith]
  lia
section
variable {G:Bg φ} {O0 O:Addr→Prop} {H0 H:Hp} {σ:St} {ρ:PEnv} {n n':Nat}
theorem SI.walkE {K:PySem.W.Frag} {H1:Hp} {O':Addr→Prop} {σ':St} {ρ':PEnv} {l:List PV} {J:It} (s:SI G O0 H0 O H σ ρ n) (x:SI G O0 (hide O0 O H) O' H1 σ' ρ' n') (it:ItE K G O H l J):ItE K G O' H1 l J:=by
 have k: ∀ p o,¬ O p→H p=some o→Stand H1 p o∧¬ O' p:=fun p o np hp=>by
  have e:hide O0 O H p=some o:=by rw[hide_out (fun z=>np z.1)];exact hp
  refine⟨x.ext p o (fun z=>np (z▸s.es.B)) e,fun z=>?_⟩
  rcases x.gr p z with w|w
  ·exact np (s.sub p w)
  ·rw[w] at e;cases e
 cases it with
 |enL na ha ra=>exact .enL (k _ _ na ha).2 (k _ _ na ha).1 (ra.keepS k)
 |enT na ha ra=>exact .enT (k _ _ na ha).2 (k _ _ na ha).1 (ra.keepS k)
 |zpL na ha ra nb hb rb=>exact .zpL (k _ _ na ha).2 (k _ _ na ha).1 (ra.keepS k) (k _ _ nb hb).2 (k _ _ nb hb).1 (rb.keepS k)
end
noncomputable def tiE (φ:Fam) (K:PySem.W.Frag) (m:PEnv→M (List PV)):TI:=fun σ H Q=> ∃ (G:Bg φ) (O:Addr→Prop) (ρ:PEnv) (n:Nat) (R:List PV→Nat→Prop),ES G O H σ ρ n∧(m ρ).wp n R∧
 ∀ (l:List PV) (J:It) (H':Hp) (n':Nat),Ext G.B H H'→G.ok H' n'→ItE K G O H' l J→R l n'→Q J H'
section
variable {X:Cx} {st:Stmt} {e e2:Expr} {p pos tpos:Pos} {elts:List Expr} {kk:Nat}
noncomputable def enTO:List PV→M (List PV)
 |[.tup l]=>.ret (enumL l)
 |_=>.fail
theorem enTO_inv (w:(enTO l).wp n R): ∃ l1,l=[.tup l1]:=by
 unfold enTO at w
 split at w
 ·exact⟨_,rfl⟩
 ·exact w.elim
theorem bi_enT (hg:Gl X "enumerate") (hm:X.mg "enumerate"=none) (ha:BA X [e] ta)
  (he:starEach [e] X.env=(false,eval e X.env)::starEach [] X.env:=by rfl) (hpl:(backTo pos (starEach [] X.env)).any (·.1)=false:=by rfl):BI X (.Tuple elts kk tpos) (.Call (.Name "enumerate" p) [e] [] pos) (iEnT X.K ta):=⟨pi_enTup hg hm PyProof.Rows.boot_enumerate ha.out (by decide) (by decide) he hpl⟩
theorem ie_T (h:BI X tg iter (iEnT X.K (taP φ ml))):BI X tg iter (tiE φ X.K fun ρ=>(ml ρ).bind enTO):=BI.mono h fun σ H Q hq0=>by
 obtain⟨G,O,ρ,n,R,s,w,q⟩:=hq0
 rw[M.wZ] at w
 refine⟨G,O,ρ,n,_,s,w,fun l xs H1 n1 e1 ok1 r1 w1=>?_⟩
 obtain⟨l1,rfl⟩:=enTO_inv w1
 obtain⟨x1,t1,rfl,a1,r2⟩:=r1.cons_inv
 rw[r2.nil_inv]
 cases a1 with
 |tup na ha la ra=>exact⟨_,_,rfl,SqT.of ha,q _ _ _ _ e1 ok1 (.enT na ha ⟨la,ra⟩) w1⟩
theorem sv_forE {mi:PEnv→M (List PV)} {bd:PV→PEnv→M PEnv} {mb:PEnv→M Fl} (h:BS X st (tFor (tiE φ X.K mi) (tgS φ bd) (tsP φ mb))):SV φ X st (mkFor mi bd mb):=BS.mono h fun D σ H hq0=>by
 obtain⟨G,O0,H0,O,ρ,n,s,w⟩:=hq0
 unfold mkFor at w
 rw[M.wZ] at w
 refine⟨G,O,ρ,n,_,s.es,w,fun l J H1 n1 e1 ok1 it w1=>?_⟩
 have s1:=s.to e1 ok1
 refine⟨fun i m σ' H'=>m=l.length - i∧i≤l.length∧∃ (O':Addr→Prop) (ρ':PEnv) (n':Nat),SI G O0 (hide O0 O H1) O' H' σ' ρ' n'∧(forP bd mb (l.drop i) ρ').wp n' (fun f n'=>FlOk G O0 H0 D n' f),
  ⟨l.length,by simp,Nat.zero_le _,O,ρ,n1,s1.now,by simpa using w1⟩,?_⟩
 rintro i m σ' H' ⟨rfl,hi,O',ρ',n',s',w'⟩
 have it':=s1.walkE s' it
 by_cases hlt:i < l.length
 ·have hget:l[i]?=some l[i]:=List.getElem?_eq_getElem hlt
  have hdrop:l.drop i=l[i]::l.drop (i+1):=List.drop_eq_getElem_cons hlt
  rw[hdrop] at w'
  unfold forP at w'
  obtain⟨g1,g2⟩:=it'.go hget
  refine .inr ⟨g1,fun σ2 H2=> ∃ (O':Addr→Prop) (ρ':PEnv) (n':Nat),SI G O0 (hide O0 O H1) O' H2 σ2 ρ' n'∧(forP bd mb (l.drop (i+1)) ρ').wp n' (fun f n'=>FlOk G O0 H0 D n' f),fun σ2 H2 hh=>⟨l.length - (i+1),by lia,rfl,hlt,hh⟩,fun x H2 yl=>?_⟩
  obtain⟨T,us,vs,rfl,hT,rfl,ey,rr⟩:=g2 x H2 yl
  have ex:Ext G.B H' (upd H' T (.tup vs)):=Ext.new hT _
  have nT: ¬ O' T:=fun z=>by obtain⟨o,g⟩:=s'.es.dm T z;rw[hT] at g;cases g
  have rx:Rep G.B O' (upd H' T (.tup vs)) l[i] (.ref T):=by
   rw[ey]
   exact .tup nT upd_same rr.1 (rr.ext s'.es.B ex).2
  rw[M.wZ] at w'
  refine⟨G,O0,_,O',ρ',n',_,l[i],s'.to ex (Bg.new s'.es.ok hT _),rx,w',fun σ2 ρ2 n2 s2 w2=>?_⟩
  rw[M.wZ] at w2
  refine⟨G,O0,_,O',ρ2,n2,s2,M.wp_mono w2 fun f n3 w3=>?_⟩
  cases f with
  |nx ρ3=>exact fun O3 σ3 H3 s3=>⟨O3,ρ3,n3,s3,w3⟩
  |ct ρ3=>exact fun O3 σ3 H3 s3=>⟨O3,ρ3,n3,s3,w3⟩
  |bk ρ3=>exact fun O3 σ3 H3 s3=>w3 O3 σ3 H3 (s1.back s3)
  |rt y=>exact fun x3 H3 e3 ok3 r3=>w3 x3 H3 (s1.base.trans e3) ok3 r3
 ·have e:i=l.length:=by lia
  subst e
  rw[List.drop_length] at w'
  exact .inl ⟨it'.stop,w' O' σ' H' (s1.back s')⟩
end
end
end L2
namespace MS
open L2
open L2.Ent (val un)
noncomputable def gallop':Bool→Keyed→Array Keyed→Nat→Nat→Nat→StateT SortSt Sem (Option Nat):=sortPriv% PySem.Builtin.gallop
def kN (p:Keyed):Int:=numOf p.1
def le (x y:Keyed):Prop:=kN x≤kN y
def Ok (a b r:Array Keyed):Prop:=r.toList.Perm (a.toList++b.toList)∧r.toList.Pairwise le
section
variable {a b out:Array Keyed} {ia ib:Nat}
noncomputable def doneL (a b out:Array Keyed) (ia ib:Nat):Array Keyed:=out++a.extract ia a.size++b.extract ib b.size
noncomputable def lastL (a b out:Array Keyed) (ia ib:Nat):Array Keyed:=out++b.extract ib b.size++a.extract ia a.size
end
noncomputable def setMinGallop':Nat→StateT SortSt Sem Unit:=sortPriv% PySem.Builtin.setMinGallop
abbrev C5:=Option (Array Keyed)×Array Keyed×Nat×Nat×Nat×Nat
abbrev C6:=Option (Array Keyed)×Array Keyed×Nat×Nat×Nat×Nat×Nat
noncomputable def f1 (a b out:Array Keyed) (ia ib mg ac bc:Nat):StateT SortSt Sem (ForInStep C5):=do
 let y ←elem' b ib
 let x ←elem' a ia
 let z ←lt' y x
 match z with
 |some wins=>
  if wins=true then do
   let y ←elem' b ib
   if(ib+1==b.size)=true then pure (.done (some (doneL a b (out.push y) ia (ib+1)),out.push y,ia,ib+1,0,bc+1))
   else if bc+1 ≥ mg then pure (.done (none,out.push y,ia,ib+1,0,bc+1)) else pure (.yield (none,out.push y,ia,ib+1,0,bc+1))
  else do
   let x ←elem' a ia
   if(ia+1+1==a.size)=true then pure (.done (some (lastL a b (out.push x) (ia+1) ib),out.push x,ia+1,ib,ac+1,0))
   else if ac+1 ≥ mg then pure (.done (none,out.push x,ia+1,ib,ac+1,0)) else pure (.yield (none,out.push x,ia+1,ib,ac+1,0))
 |_=>pure (.done (some (doneL a b out ia ib),out,ia,ib,ac,bc))
noncomputable def g4 (a b out:Array Keyed) (ia ib mg ac bc:Nat):StateT SortSt Sem (ForInStep C6):=do
 let x ←elem' a ia
 if(ia+1+1==a.size)=true then pure (.done (some (lastL a b (out.push x) (ia+1) ib),out.push x,ia+1,ib,mg,ac,bc))
 else if(decide (ac < 7)&&decide (bc < 7))=true then pure (.done (none,out.push x,ia+1,ib,mg,ac,bc)) else pure (.yield (none,out.push x,ia+1,ib,mg,ac,bc))
noncomputable def g3 (a b out:Array Keyed) (ia ib mg ac k:Nat):StateT SortSt Sem (ForInStep C6):=
 if k > 0 then
  if(ib+k==b.size)=true then pure (.done (some (doneL a b (out++b.extract ib (ib+k)) ia (ib+k)),out++b.extract ib (ib+k),ia,ib+k,mg,ac,k))
  else g4 a b (out++b.extract ib (ib+k)) ia (ib+k) mg ac k
 else g4 a b out ia ib mg ac k
noncomputable def g2 (a b out:Array Keyed) (ia ib mg ac bc:Nat):StateT SortSt Sem (ForInStep C6):=do
 let y ←elem' b ib
 if(ib+1==b.size)=true then pure (.done (some (doneL a b (out.push y) ia (ib+1)),out.push y,ia,ib+1,mg,ac,bc))
 else do
  let x ←elem' a ia
  let k ←gallop' true x b (ib+1) (b.size - (ib+1)) 0
  match k with
  |some k=>g3 a b (out.push y) ia (ib+1) mg ac k
  |_=>pure (.done (some (doneL a b (out.push y) ia (ib+1)),out.push y,ia,ib+1,mg,ac,bc))
noncomputable def g1 (a b out:Array Keyed) (ia ib mg ac bc:Nat):StateT SortSt Sem (ForInStep C6):=do
 setMinGallop' mg
 let y ←elem' b ib
 let k ←gallop' false y a ia (a.size - ia) 0
 match k with
 |some k=>
  if k > 0 then
   if(ia+k+1==a.size)=true then pure (.done (some (lastL a b (out++a.extract ia (ia+k)) (ia+k) ib),out++a.extract ia (ia+k),ia+k,ib,mg,k,bc))
   else if(ia+k==a.size)=true then pure (.done (some (doneL a b (out++a.extract ia (ia+k)) (ia+k) ib),out++a.extract ia (ia+k),ia+k,ib,mg,k,bc))
   else g2 a b (out++a.extract ia (ia+k)) (ia+k) ib mg k bc
  else g2 a b out ia ib mg k bc
 |_=>pure (.done (some (doneL a b out ia ib),out,ia,ib,mg,ac,bc))
abbrev H5:=Option (Array Keyed)×Nat×Nat×Array Keyed×Nat×Nat
abbrev H6:=Option (Array Keyed)×Nat×Nat×Array Keyed×Nat×Nat×Nat
abbrev H4:=Option (Array Keyed)×Nat×Nat×Array Keyed×Nat
end MS
namespace L2
open Ent (val un)
section
variable {φ:Fam}
theorem ib:EB φ X (.Constant (.int i) j pos) (fun _=>.ret (.int i)):=EV.b ev_int
section
variable {X:Cx}
theorem a1 (h0:EV φ X e0 m0) (s0:isStar e0=false:=by rfl):AV φ X [e0] (consA m0 (fun _=>.ret [])):=av_cons h0 (av_nil) s0
theorem a2 (h0:EV φ X e0 m0) (h1:EV φ X e1 m1) (s0:isStar e0=false:=by rfl) (s1:isStar e1=false:=by rfl):AV φ X [e0,e1] (consA m0 (consA m1 (fun _=>.ret []))):=av_cons h0 (av_cons h1 (av_nil) s1) s0
theorem a3 (h0:EV φ X e0 m0) (h1:EV φ X e1 m1) (h2:EV φ X e2 m2) (s0:isStar e0=false:=by rfl) (s1:isStar e1=false:=by rfl) (s2:isStar e2=false:=by rfl):AV φ X [e0,e1,e2] (consA m0 (consA m1 (consA m2 (fun _=>.ret [])))):=av_cons h0 (av_cons h1 (av_cons h2 (av_nil) s2) s1) s0
end
structure CalT (K:PySem.W.Frag) (mg:Str→Option Value) (x:Str) (st:Stmt) (a:Addr) (d:FuncData) (ps:List Str):Prop where
 F:Fun K x x st a d
 m:mg x=some (.ref a)
 b:Binds K d ps []
theorem ec {X:Cx} {x:Str} {p pos:Pos} {e:Expr} {es:List Expr} {st:Stmt} {k k':Nat} {f:Addr} {fd:FuncData} {ps:List Str} {Fm:List PV→M PV} {ml:PEnv→M (List PV)} (G:FnOk X.prog X.w X.K X.mg X.base CX0 k f fd ps (spP φ Fm)) (c:CalT X.K X.mg x st f fd ps) (hr:Room k' X.A) (ha:AV φ X (e::es) ml) (hk:k≤k':=by decide) (hg:Gl X x:=by rfl) (hdb:(x==("__debug__":Str))=false:=by decide)
  (he:starEach (e::es) X.env=(false,eval e X.env)::starEach es X.env:=by rfl) (hpl:(backTo pos (starEach es X.env)).any (·.1)=false:=by rfl):EV φ X (.Call (.Name x p) (e::es) [] pos) (fun ρ=>(ml ρ).bind Fm):=ev_call (be_call G (hr.mono hk) hg c.m c.F.kp c.b .nil pass0 ha hdb he hpl)
end
section
open PySem.W (KasT kas_rev kas_asc kas_desc kas_tail3 kas_descPart kas_count kas_place kas_bin kas_sort)
open PySem.W (kas_sort kas_ask KatTups)
open PySem.W (kla_fn kla_obj CodeHd tabObj)
variable {φ:Fam}
noncomputable def keyN:PV→Option Int
 | .tup l=>match (l[1]?:Option PV) with
  |some (PV.int n)=>some n
  |_=>none
 |_=>none
def kN (y:PV):Int:=(keyN y).getD 0
end
section
variable {φ:Fam}
section
variable {X:Cx} {st:Stmt}
noncomputable def dspP (k:Nat) (mk mv:PEnv→M PV):PEnv→M Fl:=fun ρ=>(mk ρ).bind fun z=>(mv ρ).bind fun y=>(M.ofO (keyO z)).bind fun key=>.ret (.nx (ρ.set k (.ownD [(key,y)])))
theorem sv_disp (h:BS X st (tAsg (tDisp [(teB φ mk,teP φ mv)]) (gName k))):SV φ X st (dspP k mk mv):=BS.mono h fun D σ H hq0 p hp=>by
 obtain⟨G,O0,H0,O,ρ,n,s,w⟩:=hq0
 unfold dspP at w
 rw[M.wZ] at w
 have nO: ¬ O p:=fun z=>by obtain⟨o,g⟩:=s.es.dm p z;rw[hp] at g;cases g
 have np: ¬ G.priv p:=fun z=>nO (s.es.pr p z)
 have npB:p≠G.B:=fun z=>np (z▸G.pB)
 have x0:Ext G.B H (upd H p (.dK [])):=Ext.new hp _
 have sK:=s.setD (σ.length+ρ.length) x0 (Bg.new s.es.ok hp _) hp upd_same RepsK.nil
 rw[List.set_eq_of_length_le (by lia),List.set_eq_of_length_le (by lia)] at sK
 have s0:=sK
 refine⟨G,_,ρ,n,_,s0.es,w,fun z x H1 n1 e1 ok1 r1 w1=>?_⟩
 rw[M.wZ] at w1
 have s1:=s0.to e1 ok1
 refine⟨G,_,ρ,n1,_,s1.es,w1,fun y x' H2 n2 e2 ok2 r2 w2=>?_⟩
 rw[M.wZ] at w2
 obtain⟨key,ek,w2⟩:=ofO_wp w2
 have h2p:H2 p=some (.dK []):=e2 p _ npB (e1 p _ npB upd_same)
 refine⟨h2p,[(key,x')],by rw[keyO_rep r1 ek];rfl,by show 1≤15;lia,?_⟩
 have xx:Ext G.B H (upd H2 p (.dK (mergeK [] [(key,x')]))):=fun q u nb hq=>by
  have hne:q≠p:=fun z=>by rw[z,hp] at hq;cases hq
  have:=(x0.trans (e1.trans e2)) q u nb hq
  exact this.to fun v ev=>.of (by rw[upd_ne hne];exact ev)
 have ok3:G.ok (upd H2 p (.dK (mergeK [] [(key,x')]))) n2:=G.keep H2 _ _ (fun q u hq hu=>by
  have hne:q≠p:=fun z=>by
   rcases hq with hq|hq
   ·exact np (z▸hq)
   ·rw[z,h2p] at hu;cases hu;exact hq
  rw[upd_ne hne];exact hu) ok2
 have rr:RepsK G.B (fun q=>O q∨q=p) (upd H2 p (.dK (mergeK [] [(key,x')]))) [(key,y)] (mergeK [] [(key,x')]):=by
  refine RepsK.cons rfl ?_ RepsK.nil
  refine Rep.keep r2 fun q u nq hq=>?_
  have hne:q≠p:=fun z=>nq (.inr z)
  exact⟨by rw[upd_ne hne];exact hq,nq⟩
 exact w2 _ _ _ (s.setD k xx ok3 hp upd_same rr)
end
end
section
variable {φ:Fam}
section
variable {X:Cx} {e:Expr} {B:Addr} {O:Addr→Prop} {H:Hp}
theorem be_disp1 (hk:BE X k tk) (hv:BE X v tv):BE X (.Dict [some k] [v] pos) (tDisp [(tk,tv)]):=⟨pe_disp (pps_cons hk.out hv.out pps_nil) rfl rfl (by simp) (by simp)⟩
end
end
section
variable {φ:Fam}
noncomputable def mnS (o:Option Int) (x:Int):Option Int:=match o with|none=>some x|some m=>if x < m then some x else some m
noncomputable def minO (ns:List Int):Option Int:=ns.foldl mnS none
theorem mn_go: ∀ (ns:List Int) (m:Int),∃ k,ns.foldl mnS (some m)=some k∧(k=m∨k∈ns)∧k≤m∧∀ a∈ns,k≤a
 |[],m=>⟨m,rfl,.inl rfl,Int.le_refl _,fun a h=>nomatch h⟩
 |x::ns,m=>by
  rw[List.foldl_cons]
  unfold mnS
  dsimp only
  by_cases c:x < m
  ·rw[if_pos c]
   obtain⟨k,h1,h2,h3,h4⟩:=mn_go ns x
   refine⟨k,h1,.inr ?_,by lia,fun a ha=>?_⟩
   ·rcases h2 with rfl|h2
    ·exact List.mem_cons_self
    ·exact List.mem_cons_of_mem _ h2
   ·rcases List.mem_cons.mp ha with rfl|ha
    ·exact h3
    ·exact h4 a ha
  ·rw[if_neg c]
   obtain⟨k,h1,h2,h3,h4⟩:=mn_go ns m
   refine⟨k,h1,?_,h3,fun a ha=>?_⟩
   ·rcases h2 with rfl|h2
    ·exact .inl rfl
    ·exact .inr (List.mem_cons_of_mem _ h2)
   ·rcases List.mem_cons.mp ha with rfl|ha
    ·lia
    ·exact h4 a ha
theorem min_some (h:ns≠[]): ∃ k,minO ns=some k∧k∈ns∧∀ a∈ns,k≤a:=by
 cases ns with
 |nil=>exact absurd rfl h
 |cons x ns=>
  obtain⟨k,h1,h2,h3,h4⟩:=mn_go ns x
  refine⟨k,h1,?_,fun a ha=>?_⟩
  ·rcases h2 with rfl|h2
   ·exact List.mem_cons_self
   ·exact List.mem_cons_of_mem _ h2
  ·rcases List.mem_cons.mp ha with rfl|ha
   ·exact h3
   ·exact h4 a ha
theorem vals_its: ∀ {ns:List Int} {its:List Value},Vals (ns.map V.int) its→∃ xs:List (Int×Tok),its=xs.map (fun p=>Value.int p.1 p.2)∧xs.map (·.1)=ns
 |[],its,r=>by cases r;exact⟨[],rfl,rfl⟩
 |n::ns,its,r=>by
  cases r with
  |cons r1 r2=>
   obtain⟨t,rfl⟩:=r1
   obtain⟨xs,rfl,e⟩:=vals_its r2
   exact⟨(n,t)::xs,rfl,by rw[List.map_cons,e]⟩
theorem numAt_is {xs:List (Int×Tok)} {ns:List Int} (e:xs.map (·.1)=ns) (i:Nat):numAt xs.toArray i=ns.getD i 0:=by
 unfold numAt
 rw[List.getElem?_toArray,List.getD_eq_getElem?_getD,←e,List.getElem?_map]
theorem preSum_is (f:Nat→Int) (ns:List Int) (h: ∀ i,f i=ns.getD i 0): ∀ k,k≤ns.length→preSum f k=(ns.take k).sum
 |0,_=>by rw[List.take_zero];rfl
 |k+1,hk=>by
  have:=preSum_is f ns h k (by lia)
  unfold preSum
  rw[this,List.take_succ_eq_append_getElem (by lia),List.sum_append,h,List.getD_eq_getElem?_getD,List.getElem?_eq_getElem (by lia)]
  simp
section
variable {X:Cx}
noncomputable def rSumL (K:PySem.W.Frag):List V→Hp→VK→Prop:=fun xs H Q=> ∃ (p:Addr) (ns:List Int),xs=[.ref p]∧SqL K H p (ns.map V.int)∧Q (.int ns.sum) H
theorem ints_at (I:Inv X pZ σ H s) (hq:SqL X.K H p (ns.map V.int)): ∃ xs:List (Int×Tok),s.heap.IsList p (intItems xs.toArray)∧xs.map (·.1)=ns:=by
 obtain⟨its,r',pl,hz⟩:=I.list hq
 obtain⟨xs,rfl,e⟩:=vals_its r'
 refine⟨xs,?_,e⟩
 have:intItems xs.toArray=(xs.map fun p=>Value.int p.1 p.2).toArray:=by unfold intItems;simp
 rw[this]
 exact pl.isList
theorem call_sumL (hc:X.calm=true):CallR X (.builtin "sum") (rSumL X.K):=by
 intro pZ s σ H xs us Q I r h
 obtain⟨p,ns,rfl,hq,q⟩:=h
 obtain⟨u,rfl,rx⟩:=vals1 r
 cases rx
 obtain⟨xs,hl,ex⟩:=ints_at I hq
 have hlen:xs.length=ns.length:=by rw[←ex,List.length_map]
 refine sum_intListG (I.ok.hd hc) hl fun h' tk t' kp=>⟨.int ns.sum,H,I.kept kp,?_,q⟩
 have:=preSum_is (numAt xs.toArray) ns (numAt_is ex) ns.length (Nat.le_refl _)
 rw[List.take_length,←hlen] at this
 rw[List.size_toArray,this]
 exact⟨_,rfl⟩
end
noncomputable def sumLO:List PV→M PV
 |[.lst l]=>(M.ofO (intsOf l)).bind fun ns=>.ret (.int ns.sum)
 |_=>.fail
theorem cv_sumL {K:PySem.W.Frag}:CallV (rSumL K) sumLO:=fun φ G O H n R Q l xs pr dm ok r w q=>by
 match l,r,w with
 |[.lst z],r,w=>
  obtain⟨x,ex,r1⟩:=r.one;subst ex;clear r;have r:=r1;clear r1
  obtain⟨p,xs,rfl,h,e⟩:=r.lst_i
  unfold sumLO at w
  dsimp only at w
  rw[M.wZ] at w
  obtain⟨ns,en,w⟩:=ofO_wp w
  rw[ints_rep e en] at h
  exact⟨p,ns,rfl,SqL.of h,q.sc ok (.int _) w⟩
section
variable {X:Cx} {e:Expr} {md mk mv:PEnv→M PV}
noncomputable def dgt2 (mk md mv:PEnv→M PV):PEnv→M PV:=fun ρ=>(md ρ).bind fun d=>match d with
 | .dct l=>(mk ρ).bind fun k=>(mv ρ).bind fun v=>(M.ofO (keyO k)).bind fun k=>.ret ((valP l k).getD v)
 |_=>.fail
theorem ev_dgt2 (h:BE X e (tDGet2 (teB φ md) (teB φ mk) (teP φ mv))):EV φ X e (dgt2 mk md mv):=BE.mono h fun σ H Q hq0=>by
 obtain⟨G,O,ρ,n,R,s,w,q⟩:=hq0
 unfold dgt2 at w
 rw[M.wZ] at w
 refine⟨G,O,ρ,n,_,s,w,fun y x H1 n1 e1 ok1 r1 w1=>?_⟩
 have s1:=s.ext e1 ok1
 cases y with
 |dct l=>
  dsimp only at w1
  rw[M.wZ] at w1
  obtain⟨p,ks,rfl,hd,rr⟩:=r1.dct_i
  refine⟨p,rfl,.inl ⟨ks,hd⟩,G,O,ρ,n1,_,s1,w1,fun z x' H2 n2 e2 ok2 r2 w2=>?_⟩
  have s2:=s1.ext e2 ok2
  rw[M.wZ] at w2
  refine⟨G,O,ρ,n2,_,s2,w2,fun u x2 H3 n3 e3 ok3 r3 w3=>?_⟩
  rw[M.wZ] at w3
  obtain⟨k,ek,w3⟩:=ofO_wp w3
  obtain⟨p',ks',ep,hd',rr'⟩:=((r1.ext s.B e2).ext s.B e3).dct_i
  cases ep
  have rk:=keyO_rep (r2.ext s.B e3) ek
  rcases rr'.val k with⟨z1,z2⟩|⟨v',xv,z1,z2,rv⟩
  ·rw[z1] at w3
   exact⟨none,.inl ⟨ks',k,hd',rk,z2.symm⟩,q _ _ _ _ (e1.trans (e2.trans e3)) ok3 r3 w3⟩
  ·rw[z1] at w3
   exact⟨some xv,.inl ⟨ks',k,hd',rk,z2.symm⟩,q _ _ _ _ (e1.trans (e2.trans e3)) ok3 rv w3⟩
 |_=>exact w1.elim
end
end
section
variable {φ:Fam}
theorem min_args (a v:Value):argsOk "min" ⟨[a],[(Str.ofString "default",v)]⟩:=by unfold argsOk;kernel_rfl
theorem take_mn {ns:List Int} {j:Nat} (h:j < ns.length):minO (ns.take (j+1))=mnS (minO (ns.take j)) ns[j]:=by
 unfold minO
 rw[List.take_succ_eq_append_getElem h,List.foldl_append]
 rfl
noncomputable def bestI (o:Option (Int×Tok)):Array Value:=match o with|none=> #[]|some p=> #[.int p.1 p.2,.int p.1 p.2]
section
variable {P:Program} {w:World} {A:Around} {l It S:Addr} {xs:List (Int×Tok)} {ns:List Int} {R:Result→Shared→Prop} {d:Value}
theorem min_loopD (hh:A.handled=none) (ex:xs.map (·.1)=ns) (h1:l≠It) (h2:l≠S) (h3:It≠S): ∀ (r j:Nat) (s:Shared) (o:Option (Int×Tok)) (c:Nat),ns.length - j=r→j≤ns.length→s.heap.IsList l (intItems xs.toArray)→s.heap.IsListIter It l j→s.heap.get? S=some {cls:=.type "list",data:=.seq (bestI o) c}→o.map (·.1)=minO (ns.take j)→
  (∀ (h':Heap) (u:Value),(∀ b ob,b≠It→b≠S→s.heap.get? b=some ob→h'.get? b=some ob)→(match minO ns with|none=>u=d|some k=> ∃ t,u= .int k t)→R (.ok (.ret u)) {s with heap:=h'})→
  codeAny (model P w) A (.builtin "min.loop" ⟨[.ref It,.none,.ref S],[(Str.ofString "default",d)]⟩) R s:=by
 have hname:(toString "min"++toString ".loop":String)="min.loop":=by decide
 have hlen:xs.length=ns.length:=by rw[←ex,List.length_map]
 intro r
 induction r with
 |zero=>
  intro j s o c hr hj hl hi hS ho hR
  have ej:j=ns.length:=by lia
  subst ej
  rw[List.take_length] at ho
  refine codeAny_builtin PySem.F.entry_min_loop ?_
  rw[Around.under_plainId PySem.F.plain_min_loop _]
  show wpAny _ A.in1 (seqItems? (.ref S) >>= _) _ _ _
  refine wpAny_bind (wpAny_seqItems hS rfl ?_)
  show wpAny _ A.in1 (tryCatch (pyNext (.ref It)) _ >>= _) _ _ _
  refine wpAny_bind (wpAny_tryCatch (wpAny_pyNext_list_end (A:=A.in1) hh hi hl (by unfold intItems;simp;lia) fun h' eb=>?_))
  cases o with
  |none=>
   show wpAny _ A.in1 (rule _ >>= _) _ _ _
   refine wpAny_bind (wpAny_rule (wpAny_pure ?_))
   refine hR h' d (fun b ob n1 n2 e=>eb b ob n1 e) ?_
   rw[←ho]
   rfl
  |some p=>
   have gS:h'.get? S=some {cls:=.type "list",data:=.seq (bestI (some p)) c}:=eb S _ (Ne.symm h3) hS
   show wpAny _ A.in1 (updateSeq S (fun _=> #[]) >>= _) _ _ _
   refine wpAny_bind ?_
   refine wpAny_updateSeq gS rfl (wpAny_bind (wpAny_letGo (wpAny_pure ?_))) (by show 2≤sizeLine;rw[sizeLine_eq];lia)
   refine hR _ _ (fun b ob n1 n2 e=>(Heap.get?_update_other _ _ (Ne.symm n2)).trans (eb b ob n1 e)) ?_
   rw[←ho]
   exact⟨_,rfl⟩
 |succ r ih=>
  intro j s o c hr hj hl hi hS ho hR
  have hlt:j < ns.length:=by lia
  have hx:(xs[j]'(by lia)).1=ns[j]:=by subst ex;simp
  refine codeAny_builtin PySem.F.entry_min_loop ?_
  rw[Around.under_plainId PySem.F.plain_min_loop _]
  show wpAny _ A.in1 (seqItems? (.ref S) >>= _) _ _ _
  refine wpAny_bind (wpAny_seqItems hS rfl ?_)
  show wpAny _ A.in1 (tryCatch (pyNext (.ref It)) _ >>= _) _ _ _
  refine wpAny_bind (wpAny_tryCatch (wpAny_pyNext_list_item (A:=A.in1) hi hl (x:=.int (xs[j]'(by lia)).1 (xs[j]'(by lia)).2) (by unfold intItems;simp[hlen,hlt]) fun h' st' sb=>?_))
  have kp: ∀ b ob,b≠It→s.heap.get? b=some ob→h'.get? b=some ob:=fun b ob hb e=>(sb.2 b hb).trans e
  have hl':h'.IsList l (intItems xs.toArray):=by
   obtain⟨ob,g,g'⟩:=hl
   exact⟨ob,kp l _ h1 g,g'⟩
  have gS:h'.get? S=some {cls:=.type "list",data:=.seq (bestI o) c}:=kp S _ (Ne.symm h3) hS
  have new:minO (ns.take (j+1))=some ns[j]→codeAny (model P w) A (.builtin "min.loop" ⟨[.ref It,.none,.ref S],[(Str.ofString "default",d)]⟩) R {s with heap:=h'.update S (Obj.mapSeq fun _=> #[.int (xs[j]'(by lia)).1 (xs[j]'(by lia)).2,.int (xs[j]'(by lia)).1 (xs[j]'(by lia)).2])}:=fun eb=>by
   obtain⟨c',gc⟩: ∃ c',(h'.update S (Obj.mapSeq fun _=> #[.int (xs[j]'(by lia)).1 (xs[j]'(by lia)).2,.int (xs[j]'(by lia)).1 (xs[j]'(by lia)).2])).get? S=some {cls:=.type "list",data:=.seq (bestI (some (xs[j]'(by lia)))) c'}:=⟨_,get?_update_seq gS _⟩
   refine ih (j+1) _ (some (xs[j]'(by lia))) c' (by lia) hlt ?_ ?_ gc ?_ fun h2 u k2 hu=>?_
   ·obtain⟨ob,g,g'⟩:=hl'
    exact⟨ob,(Heap.get?_update_other _ _ (Ne.symm h2)).trans g,g'⟩
   ·obtain⟨ob,g,g'⟩:=st'
    exact⟨ob,(Heap.get?_update_other _ _ (Ne.symm h3)).trans g,g'⟩
   ·rw[eb]
    show some (xs[j]'(by lia)).1=_
    rw[hx]
   ·exact hR h2 u (fun b ob n1 n2 e=>k2 b ob n1 n2 ((Heap.get?_update_other _ _ (Ne.symm n2)).trans (kp b ob n1 e))) hu
  cases o with
  |none=>
   have e0:minO (ns.take j)=none:=ho.symm
   show wpAny _ A.in1 (updateSeq S (fun _=> #[.int (xs[j]'(by lia)).1 (xs[j]'(by lia)).2,.int (xs[j]'(by lia)).1 (xs[j]'(by lia)).2]) >>= _) _ _ _
   refine wpAny_bind ?_
   refine wpAny_updateSeq gS rfl ?_
   rw[hname]
   exact wpAny_pure ⟨plainId_quiet PySem.F.plain_min_loop _,new (by rw[take_mn hlt,e0];rfl)⟩
  |some p=>
   have e0:minO (ns.take j)=some p.1:=ho.symm
   show wpAny _ A.in1 (tryCatch (holding [_,_] (richCompare .Lt (.int (xs[j]'(by lia)).1 (xs[j]'(by lia)).2) (.int p.1 p.2) >>= _)) _ >>= _) _ _ _
   refine wpAny_bind (wpAny_tryCatch (wpAny_holding (wpAny_bind (HT.rcLt_int _ _ _ _ _ _ _ _ _ _ ?_))))
   refine wpAny_bind (wpAny_holding (wpAny_truthy_bool ?_))
   refine wpAny_bind (wpAny_letGo (wpAny_pure ?_))
   by_cases cc:(xs[j]'(by lia)).1 < p.1
   ·simp only[cc,decide_true,if_true]
    refine wpAny_bind ?_
    refine wpAny_updateSeq gS rfl (wpAny_bind (wpAny_letGo ?_)) (by show 2≤sizeLine;rw[sizeLine_eq];lia)
    rw[hname]
    exact wpAny_pure ⟨plainId_quiet PySem.F.plain_min_loop _,new (by rw[take_mn hlt,e0];unfold mnS;dsimp only;rw[if_pos (by rw[←hx];exact cc)])⟩
   ·simp only[cc,decide_false,Bool.false_eq_true,if_false]
    refine wpAny_bind (wpAny_letGo ?_)
    rw[hname]
    refine wpAny_pure ⟨plainId_quiet PySem.F.plain_min_loop _,ih (j+1) _ (some p) c (by lia) hlt hl' st' gS ?_ fun h2 u k2 hu=>hR h2 u (fun b ob n1 n2 e=>k2 b ob n1 n2 (kp b ob n1 e)) hu⟩
    rw[take_mn hlt,e0]
    unfold mnS
    dsimp only
    rw[if_neg (by rw[←hx];exact cc)]
    rfl
end
noncomputable def tMinD (ta td:TE):TE:=fun σ H Q=>ta σ H fun x H1=>td σ H1 fun y H2=> ∃ (p:Addr) (ns:List Int),x= .ref p∧H2 p=some (.lst (ns.map V.int))∧Q (match minO ns with|none=>y|some k=>.int k) H2
section
variable {X:Cx}
theorem min_dflt (hc:X.calm=true) (I:Inv X pZ σ H s) (hq:H p=some (.lst (ns.map V.int))) (ry:RelV y u) (q:Q (match minO ns with|none=>y|some k=>.int k) H):
  wpAny (model X.prog X.w) X.A (call (.builtin "min") [.ref p] [(Str.ofString "default",u)]) (EP X pZ σ Q) X.xe s:=by
 have hname:(toString "min"++toString ".loop":String)="min.loop":=by decide
 obtain⟨xs,hl,ex⟩:=ints_at I (SqL.of hq)
 have hp:p < s.heap.objs.size:=by obtain⟨_,e,_⟩:=hl;exact Heap.lt_size e
 refine kmk_tree PySem.F.kind_min PySem.F.plain_min PySem.F.entry_min (min_args _ _) ?_
 show wpAny _ X.A.in1 (Builtin.Builtins.bindParams "min" ["key","default"] 0 ⟨[],[(Str.ofString "default",u)]⟩ >>= _) _ _ s
 refine wpAny_bind (wpAny_of_eq (show Builtin.Builtins.bindParams "min" ["key","default"] 0 ⟨[],[(Str.ofString "default",u)]⟩=pure [none,some u] from rfl) ?_)
 refine wpAny_bind (wpAny_pure ?_)
 refine wpAny_bind (wpAny_pyIter_list hl ?_)
 refine wpAny_bind (wpAny_newList ?_ (Nat.zero_le _))
 rw[hname]
 refine wpAny_pure ⟨plainId_quiet PySem.F.plain_min_loop _,?_⟩
 have n1:p≠(s.heap.push {cls:=.type "list_iterator",data:=.fields #[.ref p,.int 0 0]}).objs.size:=by rw[size_push'];exact Nat.ne_of_lt (Nat.lt_succ_of_lt hp)
 have n2:s.heap.objs.size≠(s.heap.push {cls:=.type "list_iterator",data:=.fields #[.ref p,.int 0 0]}).objs.size:=by rw[size_push'];exact Nat.ne_of_lt (Nat.lt_succ_self _)
 refine min_loopD (I.ok.hd hc) ex (Nat.ne_of_lt hp) n1 n2 _ 0 _ none 0 rfl (Nat.zero_le _) ((hl.push _).push _) ⟨_,Heap.get?_push_of_some _ (Heap.get?_push_size _ rfl),rfl,rfl⟩ (Heap.get?_push_size _ rfl) rfl fun h' v kp hv=>?_
 refine⟨_,H,I.kept (t':=s.toks) (fun b ob e=>?_),?_,q⟩
 ·have:=Heap.lt_size e
  exact kp b ob (Nat.ne_of_lt this) (by rw[size_push'];exact Nat.ne_of_lt (Nat.lt_succ_of_lt this)) (Heap.get?_push_of_some _ (Heap.get?_push_of_some _ e))
 ·cases em:minO ns with
  |none=>rw[em] at hv;cases hv;exact ry
  |some k=>rw[em] at hv;exact hv
theorem pe_minD (hc:X.calm=true) (hg:Gl X "min") (hm:X.mg "min"=none) (ha:PE X e ta) (hf:PE X f td) (hs:starEach [e] X.env=(false,eval e X.env)::starEach [] X.env:=by rfl):
  PE X (.Call (.Name "min" p) [e] [⟨some (Str.ofString "default"),f,kpos⟩] pos) (tMinD ta td):=by
 intro pZ s σ H Q I h
 refine wpAny_Call_Name_kw (ld_blt I hg hm boot_min ?_)
 have hpa:=pa_cons ha pa_nil hs
 refine callWith_kw (thn (hpa pos pZ s σ H (fun vs H1=>match vs with|[x]=>td σ H1 fun y H2=> ∃ (p:Addr) (ns:List Int),x= .ref p∧H2 p=some (.lst (ns.map V.int))∧Q (match minO ns with|none=>y|some k=>.int k) H2|_=>False) I h) fun us s1 hu=>?_) (by rw[hs];rfl) (by rw[hs];rfl)
 obtain⟨vs,H1,I1,r,q⟩:=hu
 match vs,r,q with
 |[x],r,q=>
 obtain⟨u,rfl,rx⟩:=vals1 r
 refine kws_cons (thn (hf pZ s1 σ H1 _ I1 q) fun v s2 ⟨y,H2,I2,ry,p,ns,ep,hq,q2⟩=>kws_nil ?_)
 subst ep
 cases rx
 exact min_dflt hc I2 hq ry q2
end
noncomputable def minDP (ma md:PEnv→M PV):PEnv→M PV:=fun ρ=>(ma ρ).bind fun x=>(md ρ).bind fun y=>match x with
 | .lst l=>(M.ofO (intsOf l)).bind fun ns=>.ret (match minO ns with|none=>y|some k=>.int k)
 |_=>.fail
theorem ev_minD (h:BE X e (tMinD (teB φ ma) (teP φ md))):EV φ X e (minDP ma md):=BE.mono h fun σ H Q hq0=>by
 obtain⟨G,O,ρ,n,R,s,w,q⟩:=hq0
 unfold minDP at w
 rw[M.wZ] at w
 refine⟨G,O,ρ,n,_,s,w,fun y x H1 n1 e1 ok1 r1 w1=>?_⟩
 have s1:=s.ext e1 ok1
 rw[M.wZ] at w1
 refine⟨G,O,ρ,n1,_,s1,w1,fun z x' H2 n2 e2 ok2 r2 w2=>?_⟩
 cases y with
 |lst l=>
  dsimp only at w2
  rw[M.wZ] at w2
  obtain⟨ns,en,w2⟩:=ofO_wp w2
  obtain⟨p,xs,rfl,hp,rr⟩:=(r1.ext s.B e2).lst_i
  rw[ints_rep rr en] at hp
  refine⟨p,ns,rfl,hp,?_⟩
  cases em:minO ns with
  |none=>rw[em] at w2;exact q _ _ _ _ (e1.trans e2) ok2 r2 w2
  |some k=>rw[em] at w2;exact q _ _ _ _ (e1.trans e2) ok2 (.int k) w2
 |_=>exact w2.elim
end
end L2
section
open PySem PySem.Spec PyProof.Rows
namespace L2
abbrev famPoT (K:PySem.W.Frag) (tabs:List (Addr×Str)):Fam:=⟨K,spTake,tabs⟩
noncomputable def potBgT (K:PySem.W.Frag) (tabs:List (Addr×Str)) (a c:Addr):Bg (famPoT K tabs) where
 B:=a
 priv:=fun p=>(p=a∨p=c)∨p∈tabs.map (·.1)
 ok:=fun H n=>Pot H a c∧∀ e∈tabs,TabAt H e
 pB:=.inl (.inl rfl)
 keep:=fun H H' n k h=>by
  obtain⟨⟨sd,j,h1,h2,r⟩,ht⟩:=h
  exact⟨⟨sd,j,k a _ (.inl (.inl (.inl rfl))) h1,k c _ (.inl (.inl (.inr rfl))) h2,r⟩,fun e he=>(ht e he).keep (fun ps z=>k _ _ (.inl (.inr (List.mem_map_of_mem he))) z) fun b ob u z=>k _ _ (.inr trivial) z⟩
 tp:=fun e he=>.inr (List.mem_map_of_mem he)
 tab:=fun H n h=>h.2
 tset:=fun H H' n h h1 h2=>by
  obtain⟨⟨sd,j,g1,g2,r⟩,ht⟩:=h
  have no: ∀ p o,H p=some o→(∀ ps,o≠.tbl ps)→p∉tabs.map (·.1):=fun p o g hn z=>by
   obtain⟨e',he',z2⟩:=List.mem_map.mp z
   obtain⟨ps,e2,_⟩:=ht e' he'
   rw[z2,g] at e2;cases e2;exact hn _ rfl
  exact⟨⟨sd,j,h2 a _ (no a _ g1 fun ps z=>by cases z) g1,h2 c _ (no c _ g2 fun ps z=>by cases z) g2,r⟩,h1⟩
 dom:=fun H n p h z=>by
  obtain⟨⟨sd,j,h1,h2,r⟩,ht⟩:=h
  rcases z with(rfl|rfl)|z
  ·exact⟨_,h1⟩
  ·exact⟨_,h2⟩
  ·obtain⟨e',he',rfl⟩:=List.mem_map.mp z
   obtain⟨ps,e3,_⟩:=ht e' he'
   exact⟨_,e3⟩
 dr:=fun H n m Q E ok h0 h1 q=>by
  obtain⟨b,ht⟩:=ok
  obtain⟨sd,j,e1,e2,r⟩:=id b
  refine⟨a,c,m,rfl,b,h0,h1,fun d H' d0 d1 k p=>q d H' d0 d1 (fun p o np hp=>.of (k p o np hp)) ⟨p,fun e he=>(ht e he).keep (fun ps z=>k _ _ (ne_of z e1 (by intro y;cases y)) z) fun b ob u z=>k _ _ (ne_of z e1 (by intro y;cases y)) z⟩⟩
theorem law_okQ {tabs:List (Addr×Str)} {P:Program} {w:World} {K:PySem.W.Frag} {mg:Str→Option Value} {base:Heap} {x qual:Str} {st s0:Stmt} {f:Addr} {fd:FuncData} {N:List Str} {k b:Nat} {m:PEnv→M Fl} {rest:List Stmt} {sc:Scope} (F:Fun K x qual st f fd) (S:FnScope N ["_law_script"] (defScope st)) (eb:defBody st=s0::rest) (es:defScope st=sc)
  (h0: ∀ (cdv:Value) (A:Around) (outer:List Env) (s:Shared) (H:Hp) (E:XK),Room k (A.deeper (envOfC qual sc s.heap.objs.size f cdv))→BS (cxOf CX0 P w K mg base N qual sc f cdv A outer s H E).nox s0 (tAsg (tCall (spPot K) [] E0 (tCons (tVar 0) tNil)) (gName b)))
  (hb: ∀ (cdv:Value) (A:Around) (outer:List Env) (s:Shared) (H:Hp) (E:XK),Room k (A.deeper (envOfC qual sc s.heap.objs.size f cdv))→SsV (famPoT K tabs) (cxOf CX0 P w K mg base N qual sc f cdv A outer s H E).nox rest m)
  (hm:(m ((List.replicate N.length Ent.un).set b (.val .bag))).wp 1000000 fun f _=>f= .rt (.bl true)) (h1:0 < N.length) (hb1:b < N.length) (hb0:b≠0):
  FnOk P w K mg base CX0 (k+1) f fd ["_law_script"] (spLawT K (tabs.map (·.1))):=by
 subst es
 refine F.ok S (fun vs H Q E h=>by obtain⟨a,ns,rfl,_⟩:=h;rfl) (fun cdv A outer s H vs Q E hr h=>?_)
 rw[eb]
 refine⟨_,pss_cons (h0 cdv A outer s H E hr).out (hb cdv A outer s H E hr).out,?_⟩
 obtain⟨a,ns,rfl,hS,h63,ht,q⟩:=h
 refine⟨.ref a,?_,a,ns,rfl,hS,h63,fun b' c' H' sm bag=>?_⟩
 ·exact start_get (N:=N) rfl
 ·have hl:(start N [V.ref a]).length=N.length:=by
   unfold start
   simp only[List.length_append,List.length_map,List.length_replicate,List.length_cons,List.length_nil]
   lia
  have okT:(potBgT K tabs b' c').ok H' 1000000:=⟨bag,fun e he=>⟨#[],sm _ _ (ht _ (List.mem_map_of_mem he)),trivial,fun pos cv z=>nomatch z⟩⟩
  have no: ∀ i p,¬ OwnAt ((List.replicate N.length Ent.un).set b (.val .bag)) ((start N [V.ref a]).set b (some (V.ref b'))) i p:=fun i p hh=>by
   obtain⟨t,g1,g2,_⟩:=hh
   by_cases e:b=i
   ·subst e
    rw[List.getElem?_set_self (by simpa using hb1)] at g1
    cases g1;cases g2
   ·rw[List.getElem?_set_ne e,List.getElem?_replicate] at g1
    split at g1
    ·cases g1;cases g2
    ·cases g1
  refine⟨potBgT K tabs b' c',(potBgT K tabs b' c').priv,H',(potBgT K tabs b' c').priv,_,1000000,⟨⟨⟨by simp[hl],fun i e he=>?_⟩,okT,fun p z=>z,fun p z=>(potBgT K tabs b' c').dom H' 1000000 p okT z⟩,fun p z=>z,fun p z=>z,Ext.refl _ _,fun p z=>.inl z,fun p z=>(potBgT K tabs b' c').dom H' 1000000 p okT z,fun i p hh=>(no i p hh).elim,fun i j p hh=>(no i p hh).elim⟩,M.wp_mono hm fun f n' hf=>?_⟩
  ·by_cases e1:b=i
   ·subst e1
    rw[List.getElem?_set_self (by simpa using hb1)] at he
    cases he
    rw[List.getElem?_set_self (by lia)]
    exact⟨_,rfl,.bag⟩
   ·rw[List.getElem?_set_ne e1,List.getElem?_replicate] at he
    split at he
    ·cases he;trivial
    ·cases he
  ·subst hf
   intro x' H2 _ _ r2
   cases r2
   exact q H2
end L2
namespace L2
end L2
end
namespace L2
open Ent (val un)
end L2
section
namespace Erl
section
variable {α:Type} [DecidableEq α]
structure Ed (α:Type) where
 s:α
 e:α
 f:Int→Option Int
structure Good (d:Ed α):Prop where
 up: ∀ t t',d.f t=some t'→t < t'
 mono: ∀ t u u',t≤u→d.f u=some u'→∃ t',d.f t=some t'∧t'≤u'
inductive Arr (E:List (Ed α)) (p:α) (t:Int):α→Int→Prop where
 |here:Arr E p t p t
 |step {d:Ed α} {u v:Int} (h:Arr E p t d.s u) (hd:d∈E) (hf:d.f u=some v):Arr E p t d.e v
theorem Arr.ge (g: ∀ d∈E,Good d) (h:Arr E p t q w):t≤w:=by
 induction h with
 |here=>exact Int.le_refl _
 |step h hd hf ih=>have:=(g _ hd).up _ _ hf;lia
abbrev Tb (α:Type):=List (α×Int)
noncomputable def look (l:Tb α) (q:α):Option Int:=(l.find? fun kv=>decide (kv.1=q)).map (·.2)
noncomputable def put (l:Tb α) (k:α) (y:Int):Tb α:=if l.any (fun kv=>decide (kv.1=k)) then l.map fun kv=>if kv.1=k then(kv.1,y) else kv else l++[(k,y)]
theorem look_none {l:Tb α} {q:α}:look l q=none↔l.any (fun kv=>decide (kv.1=q))=false:=by
 unfold look
 rw[Option.map_eq_none_iff,List.find?_eq_none,List.any_eq_false]
theorem look_cons (a:α×Int) (l:Tb α) (q:α):look (a::l) q=if a.1=q then some a.2 else look l q:=by
 unfold look
 rw[List.find?_cons]
 by_cases c:a.1=q
 ·rw[if_pos c,decide_eq_true c];rfl
 ·rw[if_neg c,decide_eq_false c]
theorem look_append (l:Tb α) (k:α) (y:Int) (q:α) (h:look l k=none):look (l++[(k,y)]) q=if q=k then some y else look l q:=by
 induction l with
 |nil=>
  rw[List.nil_append,look_cons]
  by_cases c:q=k
  ·rw[if_pos c,if_pos c.symm]
  ·rw[if_neg c,if_neg (fun z=>c z.symm)]
 |cons a l ih=>
  rw[look_cons] at h
  by_cases c:a.1=k
  ·rw[if_pos c] at h;cases h
  ·rw[if_neg c] at h
   rw[List.cons_append,look_cons,look_cons,ih h]
   by_cases c1:a.1=q
   ·rw[if_pos c1,if_neg (fun z=>c (c1.trans z)),if_pos c1]
   ·rw[if_neg c1,if_neg c1]
theorem look_repl (l:Tb α) (k:α) (y:Int) (q:α) (h:look l k≠none):look (l.map fun kv=>if kv.1=k then(kv.1,y) else kv) q=if q=k then some y else look l q:=by
 induction l with
 |nil=>exact absurd rfl h
 |cons a l ih=>
  rw[List.map_cons,look_cons,look_cons]
  by_cases c:a.1=k
  ·rw[if_pos c]
   by_cases c1:a.1=q
   ·rw[if_pos c1,if_pos (c1.symm.trans c)]
   ·rw[if_neg c1,if_neg c1,if_neg (fun z=>c1 (c.trans z.symm))]
    by_cases c2:look l k=none
    ·have e:(l.map fun kv=>if kv.1=k then(kv.1,y) else kv)=l:=by
      rw[look_none,List.any_eq_false] at c2
      conv=>rhs;rw[←List.map_id l]
      refine List.map_congr_left fun kv hkv=>?_
      rw[if_neg (by simpa using c2 kv hkv)];rfl
     rw[e]
    ·rw[ih c2,if_neg (fun z=>c1 (c.trans z.symm))]
  ·rw[if_neg c]
   have h':look l k≠none:=by rw[look_cons,if_neg c] at h;exact h
   by_cases c1:a.1=q
   ·rw[if_pos c1,if_pos c1,if_neg (fun z=>c (c1.trans z))]
   ·rw[if_neg c1,if_neg c1,ih h']
theorem look_put (l:Tb α) (k:α) (y:Int) (q:α):look (put l k y) q=if q=k then some y else look l q:=by
 unfold put
 cases e:l.any (fun kv=>decide (kv.1=k)) with
 |true=>rw[if_pos rfl];exact look_repl l k y q (fun z=>by rw[look_none,e] at z;cases z)
 |false=>rw[if_neg (by simp)];exact look_append l k y q (look_none.mpr e)
noncomputable def rel (d:Ed α) (l:Tb α):Tb α:=match look l d.s with
 |none=>l
 |some u=>match d.f u with
  |none=>l
  |some v=>match look l d.e with
   |none=>put l d.e v
   |some w=>if v < w then put l d.e v else l
noncomputable def rnd (E:List (Ed α)) (l:Tb α):Tb α:=E.foldl (fun l d=>rel d l) l
noncomputable def iter (E:List (Ed α)):Nat→Tb α→Tb α
 |0,l=>l
 |n+1,l=>rnd E (iter E n l)
def Le (l l':Tb α):Prop:= ∀ q w,look l q=some w→∃ w',look l' q=some w'∧w'≤w
theorem Le.refl (l:Tb α):Le l l:=fun q w h=>⟨w,h,Int.le_refl _⟩
theorem Le.trans {a b c:Tb α} (h:Le a b) (h':Le b c):Le a c:=fun q w e=>by
 obtain⟨w1,e1,l1⟩:=h q w e
 obtain⟨w2,e2,l2⟩:=h' q w1 e1
 exact⟨w2,e2,by lia⟩
theorem rel_cases (d:Ed α) (l:Tb α):rel d l=l∨∃ u v,look l d.s=some u∧d.f u=some v∧rel d l=put l d.e v∧∀ w,look l d.e=some w→v < w:=by
 unfold rel
 cases e1:look l d.s with
 |none=>exact .inl rfl
 |some u=>
  dsimp only
  cases e2:d.f u with
  |none=>exact .inl rfl
  |some v=>
   dsimp only
   cases e3:look l d.e with
   |none=>exact .inr ⟨u,v,rfl,e2,rfl,fun w z=>by cases z⟩
   |some w=>
    dsimp only
    by_cases c:v < w
    ·rw[if_pos c];exact .inr ⟨u,v,rfl,e2,rfl,fun w' z=>by cases z;exact c⟩
    ·rw[if_neg c];exact .inl rfl
theorem rel_le (d:Ed α) (l:Tb α):Le l (rel d l):=by
 rcases rel_cases d l with h|⟨u,v,h1,h2,h3,h4⟩
 ·rw[h];exact .refl _
 ·intro q w e
  rw[h3,look_put]
  by_cases c:q=d.e
  ·subst c
   rw[if_pos rfl]
   exact⟨v,rfl,by have:=h4 w e;lia⟩
  ·rw[if_neg c];exact⟨w,e,Int.le_refl _⟩
theorem rel_done {d:Ed α} (h:look l d.s=some u) (hf:d.f u=some v): ∃ w,look (rel d l) d.e=some w∧w≤v:=by
 unfold rel
 rw[h];dsimp only;rw[hf];dsimp only
 cases e3:look l d.e with
 |none=>dsimp only;rw[look_put,if_pos rfl];exact⟨v,rfl,Int.le_refl _⟩
 |some w=>
  dsimp only
  by_cases c:v < w
  ·rw[if_pos c,look_put,if_pos rfl];exact⟨v,rfl,Int.le_refl _⟩
  ·rw[if_neg c];exact⟨w,e3,by lia⟩
theorem fold_le: ∀ (E:List (Ed α)) (l:Tb α),Le l (E.foldl (fun l d=>rel d l) l)
 |[],l=>.refl _
 |d::E,l=>(rel_le d l).trans (fold_le E _)
theorem rnd_le (E:List (Ed α)) (l:Tb α):Le l (rnd E l):=fold_le E l
def Sound (E:List (Ed α)) (p:α) (t:Int) (l:Tb α):Prop:= ∀ q w,look l q=some w→Arr E p t q w
theorem rel_sound {E:List (Ed α)} {d:Ed α} (hd:d∈E) (h:Sound E p t l):Sound E p t (rel d l):=by
 rcases rel_cases d l with e|⟨u,v,h1,h2,h3,h4⟩
 ·rw[e];exact h
 ·intro q w e
  rw[h3,look_put] at e
  by_cases c:q=d.e
  ·subst c
   rw[if_pos rfl] at e;cases e
   exact .step (h _ _ h1) hd h2
  ·rw[if_neg c] at e;exact h q w e
theorem fold_sound {E:List (Ed α)}: ∀ (E':List (Ed α)) (l:Tb α),(∀ d∈E',d∈E)→Sound E p t l→Sound E p t (E'.foldl (fun l d=>rel d l) l)
 |[],l,_,h=>h
 |d::E',l,hs,h=>fold_sound E' _ (fun x hx=>hs x (List.mem_cons_of_mem _ hx)) (rel_sound (hs d List.mem_cons_self) h)
theorem iter_sound {E:List (Ed α)} {p:α} {t:Int}: ∀ n,Sound E p t (iter E n [(p,t)])
 |0=>fun q w e=>by
  change look [(p,t)] q=some w at e
  rw[look_cons] at e
  by_cases c:p=q
  ·rw[if_pos c] at e;cases e;subst c;exact .here
  ·rw[if_neg c] at e;cases e
 |n+1=>fold_sound E _ (fun d h=>h) (iter_sound n)
theorem iter_le (E:List (Ed α)) (l:Tb α): ∀ n,Le l (iter E n l)
 |0=>.refl _
 |n+1=>(iter_le E l n).trans (rnd_le E _)
structure Best (E:List (Ed α)) (p:α) (t:Int) (B:α→Option Int):Prop where
 snd: ∀ q w,B q=some w→Arr E p t q w
 all: ∀ q w,Arr E p t q w→∃ w',B q=some w'∧w'≤w
theorem least (P:Nat→Prop): ∀ n,P n→∃ m,P m∧∀ k,P k→m≤k:=by
 intro n
 induction n using Nat.strongRecOn with
 |_ n ih=>
  intro h
  by_cases c: ∃ k,k < n∧P k
  ·obtain⟨k,hk,pk⟩:=c;exact ih k hk pk
  ·exact⟨n,h,fun k pk=>by
    by_cases z:k < n
    ·exact absurd ⟨k,z,pk⟩ c
    ·lia⟩
theorem best_ex (E:List (Ed α)) (p:α) (t:Int) (g: ∀ d∈E,Good d): ∃ B,Best E p t B:=by
 have key: ∀ q,∃ o:Option Int,(∀ w,o=some w→Arr E p t q w)∧∀ w,Arr E p t q w→∃ w',o=some w'∧w'≤w:=fun q=>by
  by_cases c: ∃ w,Arr E p t q w
  ·obtain⟨w,hw⟩:=c
   have g0:=hw.ge g
   obtain⟨m,hm,hk⟩:=least (fun n:Nat=>Arr E p t q (t+n)) (w - t).toNat (by
    have e:t+((w - t).toNat:Int)=w:=by lia
    rw[e];exact hw)
   refine⟨some (t+m),fun w' e=>by cases e;exact hm,fun w' hw'=>⟨_,rfl,?_⟩⟩
   have g1:=hw'.ge g
   have:=hk (w' - t).toNat (by
    have e:t+((w' - t).toNat:Int)=w':=by lia
    rw[e];exact hw')
   lia
  ·exact⟨none,fun w e=>(by cases e),fun w hw=>absurd ⟨w,hw⟩ c⟩
 refine⟨fun q=>Classical.choose (key q),fun q w e=>(Classical.choose_spec (key q)).1 w e,fun q w h=>(Classical.choose_spec (key q)).2 w h⟩
section
variable {E:List (Ed α)} {p:α} {t:Int} {B:α→Option Int}
theorem tight (g: ∀ d∈E,Good d) (b:Best E p t B) (hq:q≠p) (h:B q=some w): ∃ d∈E,d.e=q∧∃ u,B d.s=some u∧d.f u=some w:=by
 have a:=b.snd q w h
 generalize hq':q=q' at a
 generalize hw':w=w' at a
 cases a with
 |here=>exact absurd hq' hq
 | @step d u' v ha hd hf=>
  subst hq'
  subst hw'
  obtain⟨u,e1,l1⟩:=b.all _ _ ha
  obtain⟨w2,e2,l2⟩:=(g d hd).mono _ _ _ l1 hf
  obtain⟨w3,e3,l3⟩:=b.all _ _ (.step (b.snd _ _ e1) hd e2)
  rw[h] at e3;cases e3
  exact⟨d,hd,rfl,u,e1,by rw[e2,Int.le_antisymm l2 l3]⟩
noncomputable def ltB (B:α→Option Int) (a b:α):Bool:=match B a,B b with|some x,some y=>decide (x < y)|_,_=>false
noncomputable def rank (E:List (Ed α)) (p:α) (B:α→Option Int) (q:α):Nat:=if q=p then 0 else 1+E.countP fun d=>!decide (d.e=p)&&ltB B d.e q
theorem count_lt {P Q:β→Bool} (h: ∀ x,P x=true→Q x=true): ∀ (l:List β) (y:β),y∈l→P y=false→Q y=true→l.countP P < l.countP Q
 |x::l,y,hy,h1,h2=>by
  have mono:=List.countP_mono_left (l:=l) (p:=P) (q:=Q) fun x _=>h x
  rw[List.countP_cons,List.countP_cons]
  rcases List.mem_cons.mp hy with rfl|hy
  ·rw[h1,h2];simp;lia
  ·have:=count_lt h l y hy h1 h2
   cases e:P x with
   |true=>rw[h x e];simp;lia
   |false=>simp;split<;>lia
theorem count_lt_len: ∀ (l:List β) (y:β),y∈l→P y=false→l.countP P < l.length
 |x::l,y,hy,h1=>by
  have:=List.countP_le_length (p:=P) (l:=l)
  rw[List.countP_cons,List.length_cons]
  rcases List.mem_cons.mp hy with rfl|hy
  ·rw[h1];simp;lia
  ·have:=count_lt_len l y hy h1
   split<;>lia
theorem rank_lt (g: ∀ d∈E,Good d) (b:Best E p t B) {q:α} {d:Ed α} (hq:q≠p) (h:B q=some w) (hd:d∈E) (hs:B d.s=some u) (hf:d.f u=some w):rank E p B d.s < rank E p B q:=by
 unfold rank
 rw[if_neg hq]
 by_cases c:d.s=p
 ·rw[if_pos c];lia
 ·rw[if_neg c]
  obtain⟨d1,m1,e1,u1,_,_⟩:=tight g b c hs
  have lt:=(g d hd).up _ _ hf
  have:=count_lt (P:=fun d':Ed α=>!decide (d'.e=p)&&ltB B d'.e d.s) (Q:=fun d'=>!decide (d'.e=p)&&ltB B d'.e q) (fun x hx=>by
   simp only[Bool.and_eq_true] at hx ⊢
   refine⟨hx.1,?_⟩
   have hx:=hx.2
   unfold ltB at hx ⊢
   cases ex:B x.e with
   |none=>rw[ex] at hx;cases hx
   |some y=>
    rw[ex,hs] at hx
    rw[h]
    simp only[decide_eq_true_eq] at hx ⊢
    lia) E d1 m1 (by rw[e1];unfold ltB;rw[hs];simp) (by rw[e1];unfold ltB;rw[hs,h];simp[c,lt])
  lia
theorem rank_le (g: ∀ d∈E,Good d) (b:Best E p t B) (h:B q=some w):rank E p B q≤E.length:=by
 unfold rank
 by_cases c:q=p
 ·rw[if_pos c];lia
 ·rw[if_neg c]
  obtain⟨d1,m1,e1,u1,_,_⟩:=tight g b c h
  have:=count_lt_len (P:=fun d':Ed α=>!decide (d'.e=p)&&ltB B d'.e q) E d1 m1 (by rw[e1];unfold ltB;rw[h];simp)
  lia
theorem rnd_hit {u:Int} (gd:Good d) (hd:d∈E) (h: ∃ u',look l d.s=some u'∧u'≤u) (hf:d.f u=some v): ∃ w,look (rnd E l) d.e=some w∧w≤v:=by
 obtain⟨E1,E2,rfl⟩:=List.append_of_mem hd
 unfold rnd
 rw[List.foldl_append,List.foldl_cons]
 obtain⟨u',e1,l1⟩:=h
 obtain⟨u2,e2,l2⟩:=fold_le E1 l _ _ e1
 obtain⟨v',e3,l3⟩:=gd.mono u2 u v (by lia) hf
 obtain⟨w,e4,l4⟩:=rel_done e2 e3
 obtain⟨w2,e5,l5⟩:=fold_le E2 _ _ _ e4
 exact⟨w2,e5,by lia⟩
theorem iter_rank (g: ∀ d∈E,Good d) (b:Best E p t B): ∀ (k:Nat) (q:α) (w:Int),B q=some w→rank E p B q≤k→∃ w',look (iter E k [(p,t)]) q=some w'∧w'≤w:=by
 have base: ∀ k w,B p=some w→∃ w',look (iter E k [(p,t)]) p=some w'∧w'≤w:=fun k w h=>by
  obtain⟨w',e,l⟩:=iter_le E [(p,t)] k p t (by rw[look_cons,if_pos rfl])
  have:=(b.snd _ _ h).ge g
  exact⟨w',e,by lia⟩
 intro k
 induction k with
 |zero=>
  intro q w h hr
  have:q=p:=Classical.byContradiction fun c=>by unfold rank at hr;rw[if_neg c] at hr;lia
  subst this
  exact base 0 w h
 |succ k ih=>
  intro q w h hr
  by_cases c:q=p
  ·subst c;exact base _ w h
  ·obtain⟨d,hd,rfl,u,hs,hf⟩:=tight g b c h
   have lt:=rank_lt g b c h hd hs hf
   exact rnd_hit (g d hd) hd (ih d.s u hs (by lia)) hf
theorem iter_best (g: ∀ d∈E,Good d) (b:Best E p t B) {k:Nat} (hk:E.length≤k):look (iter E k [(p,t)])=B:=by
 funext q
 cases e:B q with
 |none=>
  cases e':look (iter E k [(p,t)]) q with
  |none=>rfl
  |some w=>obtain⟨_,z,_⟩:=b.all q w (iter_sound k q w e');rw[e] at z;cases z
 |some w=>
  obtain⟨w',e',l⟩:=iter_rank g b k q w e (Nat.le_trans (rank_le g b e) hk)
  obtain⟨w2,z,l2⟩:=b.all q w' (iter_sound k q w' e')
  rw[e] at z;cases z
  rw[e',Int.le_antisymm l l2]
end
theorem fold_id: ∀ (E:List (Ed α)) (l:Tb α),look (E.foldl (fun l d=>rel d l) l)=look l→E.foldl (fun l d=>rel d l) l=l
 |[],l,_=>rfl
 |d::E,l,h=>by
  rw[List.foldl_cons] at h ⊢
  rcases rel_cases d l with e|⟨u,v,h1,h2,h3,h4⟩
  ·rw[e] at h ⊢;exact fold_id E l h
  ·exfalso
   have e1:look (rel d l) d.e=some v:=by rw[h3,look_put,if_pos rfl]
   obtain⟨w,e2,l2⟩:=fold_le E (rel d l) d.e v e1
   rw[h] at e2
   have:=h4 w e2
   lia
theorem rnd_id {E:List (Ed α)} {l:Tb α} (h:look (rnd E l)=look l):rnd E l=l:=fold_id E l h
theorem iter_stay {E:List (Ed α)} {l:Tb α} {j:Nat} (h:iter E (j+1) l=iter E j l): ∀ k,iter E (j+k) l=iter E j l
 |0=>rfl
 |k+1=>by
  show rnd E (iter E (j+k) l)=_
  rw[iter_stay h k]
  exact h
theorem iter_stop {E:List (Ed α)} {p:α} {t:Int} (g: ∀ d∈E,Good d) {k:Nat} (hk:E.length≤k):iter E (k+1) [(p,t)]=iter E k [(p,t)]:=by
 obtain⟨B,b⟩:=best_ex E p t g
 refine rnd_id ?_
 have h1:=iter_best g b hk
 have h2:=iter_best g b (k:=k+1) (by lia)
 rw[h1]
 exact h2
theorem iter_eq {E:List (Ed α)} {p:α} {t:Int} (g: ∀ d∈E,Good d) {j k:Nat} (hj:iter E (j+1) [(p,t)]=iter E j [(p,t)]) (hk:E.length≤k):iter E j [(p,t)]=iter E k [(p,t)]:=by
 have a: ∀ m,iter E (E.length+m) [(p,t)]=iter E E.length [(p,t)]:=iter_stay (iter_stop g (Nat.le_refl _))
 have h1:=iter_stay hj E.length
 have h2:=a j
 have h3:=a (k - E.length)
 rw[Nat.add_comm] at h2
 rw[show E.length+(k - E.length)=k by lia] at h3
 rw[←h1,h2,h3]
structure Tr (α:Type) where
 s:α
 e:α
 n:Int
noncomputable def edU (d:Tr α):Ed α:=⟨d.s,d.e,fun t=>some (t+d.n)⟩
noncomputable def edB (z:Int) (d:Tr α):Ed α:=⟨d.s,d.e,fun t=>if t+d.n≤z then some (t+d.n) else none⟩
theorem goodU (h:0 < d.n):Good (edU d):=⟨fun t t' e=>by cases e;lia,fun t u u' l e=>by cases e;exact⟨_,rfl,by lia⟩⟩
theorem goodB (h:0 < d.n):Good (edB z d):=by
 refine⟨fun t t' e=>?_,fun t u u' l e=>?_⟩
 ·unfold edB at e;dsimp only at e
  split at e
  ·cases e;lia
  ·cases e
 ·unfold edB at e ⊢;dsimp only at e ⊢
  split at e
  ·cases e;rw[if_pos (by lia)];exact⟨_,rfl,by lia⟩
  ·cases e
theorem sum_zero: ∀ l:List β,(l.map fun _=>(0:Int)).sum=0
 |[]=>rfl
 |_::l=>by rw[List.map_cons,List.sum_cons,sum_zero l];rfl
noncomputable def sumIf (P:Tr α→Bool) (D:List (Tr α)):Int:=(D.map fun d=>if P d then d.n else 0).sum
theorem sumIf_mono: ∀ {D:List (Tr α)},(∀ d∈D,0 < d.n)→(∀ d,P d=true→Q d=true)→sumIf P D≤sumIf Q D
 |[],_,_=>Int.le_refl _
 |d::D,h0,h=>by
  have:=sumIf_mono (P:=P) (Q:=Q) (D:=D) (fun x hx=>h0 x (List.mem_cons_of_mem _ hx)) h
  have hd:=h0 d List.mem_cons_self
  unfold sumIf at this ⊢
  rw[List.map_cons,List.map_cons,List.sum_cons,List.sum_cons]
  cases e:P d with
  |true=>rw[h d e];simp;exact this
  |false=>simp;split<;>lia
theorem sumIf_add: ∀ {D:List (Tr α)},(∀ d∈D,0 < d.n)→(∀ d,P d=true→Q d=true)→x∈D→P x=false→Q x=true→sumIf P D+x.n≤sumIf Q D
 |d::D,h0,h,hx,h1,h2=>by
  have hd:=h0 d List.mem_cons_self
  rcases List.mem_cons.mp hx with rfl|hx
  ·have:=sumIf_mono (P:=P) (Q:=Q) (D:=D) (fun x hx=>h0 x (List.mem_cons_of_mem _ hx)) h
   unfold sumIf at this ⊢
   rw[List.map_cons,List.map_cons,List.sum_cons,List.sum_cons,h1,h2]
   simp;lia
  ·have:=sumIf_add (D:=D) (fun x hx=>h0 x (List.mem_cons_of_mem _ hx)) h hx h1 h2
   unfold sumIf at this ⊢
   rw[List.map_cons,List.map_cons,List.sum_cons,List.sum_cons]
   cases e:P d with
   |true=>rw[h d e];simp;lia
   |false=>simp;split<;>lia
theorem sumIf_all (D:List (Tr α)):sumIf (fun _=>true) D=(D.map (·.n)).sum:=by unfold sumIf;simp
section
variable {D:List (Tr α)} {p:α} {B:α→Option Int} {z:Int}
noncomputable def upTo (B:α→Option Int) (p:α) (v:Int) (d:Tr α):Bool:=!decide (d.e=p)&&(match B d.e with|some x=>decide (x≤v)|none=>false)
theorem upTo_mono (h:v≤v') (d:Tr α) (e:upTo B p v d=true):upTo B p v' d=true:=by
 unfold upTo at e ⊢
 simp only[Bool.and_eq_true] at e ⊢
 refine⟨e.1,?_⟩
 have e:=e.2
 cases eb:B d.e with
 |none=>rw[eb] at e;cases e
 |some x=>rw[eb] at e;simp only[decide_eq_true_eq] at e ⊢;lia
theorem sum_reach (h0: ∀ d∈D,0 < d.n) (b:Best (D.map (edB z)) p 0 B): ∀ (k:Nat) (q:α) (w:Int),w.toNat≤k→B q=some w→w≤sumIf (upTo B p w) D:=by
 have g: ∀ d∈D.map (edB z),Good d:=fun d hd=>by
  obtain⟨x,hx,rfl⟩:=List.mem_map.mp hd
  exact goodB (h0 x hx)
 have nn: ∀ v,0≤sumIf (upTo B p v) D:=fun v=>by
  have:=sumIf_mono (P:=fun _=>false) (Q:=upTo B p v) h0 (fun d z=>by cases z)
  have e:sumIf (fun _=>false) D=0:=sum_zero D
  rw[e] at this
  exact this
 intro k
 induction k with
 |zero=>
  intro q w hw h
  have:=nn w
  lia
 |succ k ih=>
  intro q w hw h
  by_cases c:q=p
  ·subst c
   obtain⟨w',e,l⟩:=b.all q 0 .here
   rw[h] at e;cases e
   have:=nn w
   lia
  ·obtain⟨d,hd,he,u,hs,hf⟩:=tight g b c h
   obtain⟨x,hx,rfl⟩:=List.mem_map.mp hd
   have lt:=(goodB (z:=z) (h0 x hx)).up _ _ hf
   have ge:=(b.snd _ _ hs).ge g
   have:=ih _ u (by lia) hs
   have hn:w=u+x.n:=by
    unfold edB at hf;dsimp only at hf
    split at hf
    ·cases hf;rfl
    ·cases hf
   have he:x.e=q:=he
   have:=sumIf_add (P:=upTo B p u) (Q:=upTo B p w) h0 (upTo_mono (by lia)) hx (by
    unfold upTo;rw[he,h];simp;intro _;exact lt) (by unfold upTo;rw[he,h];simp[c])
   lia
theorem best_free (h0: ∀ d∈D,0 < d.n) (hz:z=(D.map (·.n)).sum) (b:Best (D.map (edB z)) p 0 B):Best (D.map edU) p 0 B:=by
 have g: ∀ d∈D.map (edB z),Good d:=fun d hd=>by
  obtain⟨x,hx,rfl⟩:=List.mem_map.mp hd
  exact goodB (h0 x hx)
 refine⟨fun q w h=>?_,fun q w h=>?_⟩
 ·have a:=b.snd q w h
  clear h
  induction a with
  |here=>exact .here
  | @step d u v ha hd hf ih=>
   obtain⟨x,hx,rfl⟩:=List.mem_map.mp hd
   have hn:v=u+x.n:=by
    unfold edB at hf;dsimp only at hf
    split at hf
    ·cases hf;rfl
    ·cases hf
   exact .step (d:=edU x) ih (List.mem_map_of_mem hx) (by rw[hn];rfl)
 ·induction h with
  |here=>exact b.all p 0 .here
  | @step d u v ha hd hf ih=>
   obtain⟨x,hx,rfl⟩:=List.mem_map.mp hd
   obtain⟨u',e1,l1⟩:=ih
   have e1:B x.s=some u':=e1
   have hv:v=u+x.n:=by cases hf;rfl
   have nx:=h0 x hx
   by_cases c:u'+x.n≤z
   ·obtain⟨w,e2,l2⟩:=b.all x.e (u'+x.n) (.step (d:=edB z x) (b.snd _ _ e1) (List.mem_map_of_mem hx) (by show (if u'+x.n≤z then some (u'+x.n) else none)=_;rw[if_pos c]))
    exact⟨w,e2,by lia⟩
   ·have h1:=sum_reach h0 b _ _ _ (Nat.le_refl _) e1
    have ge:=(b.snd _ _ e1).ge g
    cases cc:upTo B p u' x with
    |true=>
     unfold upTo at cc
     simp only[Bool.and_eq_true] at cc
     have cc:=cc.2
     cases eb:B x.e with
     |none=>rw[eb] at cc;cases cc
     |some y=>rw[eb] at cc;simp only[decide_eq_true_eq] at cc;exact⟨y,eb,by lia⟩
    |false=>
     have:=sumIf_add (P:=upTo B p u') (Q:=fun _=>true) h0 (fun _ _=>rfl) hx cc rfl
     rw[sumIf_all] at this
     lia
end
end
end Erl
namespace Erl
end Erl
namespace Erl
section
variable {α:Type} [DecidableEq α]
def Nd (l:Tb α):Prop:=(l.map (·.1)).Nodup
theorem put_nd {l:Tb α} {k:α} {y:Int} (nd:Nd l):Nd (put l k y):=by
 unfold Nd put
 cases e:l.any (fun kv=>decide (kv.1=k)) with
 |true=>
  rw[if_pos rfl,List.map_map]
  have:((fun x:α×Int=>x.1)∘fun kv:α×Int=>if kv.1=k then(kv.1,y) else kv)=fun x=>x.1:=by
   funext x
   show (if x.1=k then(x.1,y) else x).1=x.1
   split<;>rfl
  rw[this];exact nd
 |false=>
  rw[if_neg (by simp),List.map_append,List.nodup_append]
  rw[List.any_eq_false] at e
  refine⟨nd,by simp,fun a ha b hb z=>?_⟩
  obtain⟨x,hx,rfl⟩:=List.mem_map.mp ha
  have hb:b=k:=by simpa using hb
  exact(by simpa using e x hx: ¬ x.1=k) (z.trans hb)
theorem rel_nd {d:Ed α} {l:Tb α} (nd:Nd l):Nd (rel d l):=by
 rcases rel_cases d l with h|⟨u,v,_,_,h,_⟩
 ·rw[h];exact nd
 ·rw[h];exact put_nd nd
theorem fold_nd: ∀ (E:List (Ed α)) (l:Tb α),Nd l→Nd (E.foldl (fun l d=>rel d l) l)
 |[],l,h=>h
 |d::E,l,h=>fold_nd E _ (rel_nd h)
theorem iter_nd (E:List (Ed α)) (p:α) (t:Int): ∀ k,Nd (iter E k [(p,t)])
 |0=>by unfold Nd iter;simp
 |k+1=>fold_nd E _ (iter_nd E p t k)
theorem put_same: ∀ {l:Tb α} {k:α} {v:Int},Nd l→look l k=some v→put l k v=l:=by
 intro l k v nd h
 have a:l.any (fun kv=>decide (kv.1=k))=true:=by
  cases e:l.any (fun kv=>decide (kv.1=k)) with
  |true=>rfl
  |false=>rw[look_none.mpr e] at h;cases h
 unfold put
 rw[a,if_pos rfl]
 have go: ∀ (l:Tb α),Nd l→look l k=some v→(l.map fun kv=>if kv.1=k then(kv.1,v) else kv)=l:=by
  intro l
  induction l with
  |nil=>intro _ _;rfl
  |cons x l ih=>
   intro nd h
   unfold Nd at nd
   rw[List.map_cons,List.nodup_cons] at nd
   rw[look_cons] at h
   rw[List.map_cons]
   by_cases c:x.1=k
   ·rw[if_pos c] at h
    cases h
    rw[if_pos c]
    have:(l.map fun kv=>if kv.1=k then(kv.1,x.2) else kv)=l:=by
     conv=>rhs;rw[←List.map_id l]
     refine List.map_congr_left fun kv hkv=>?_
     rw[if_neg (fun z=>nd.1 (by rw[c,←z];exact List.mem_map_of_mem hkv))];rfl
    rw[this]
   ·rw[if_neg c] at h
    rw[if_neg c,ih nd.2 h]
 exact go l nd h
theorem rel_min {d:Ed α} (nd:Nd l) (h1:look l d.s=some u) (h2:d.f u=some v):rel d l=put l d.e (if v < (look l d.e).getD v then v else(look l d.e).getD v):=by
 unfold rel
 rw[h1];dsimp only;rw[h2];dsimp only
 cases e:look l d.e with
 |none=>dsimp only[Option.getD];rw[if_neg (by lia)]
 |some w=>
  dsimp only[Option.getD]
  by_cases c:v < w
  ·rw[if_pos c,if_pos c]
  ·rw[if_neg c,if_neg c,put_same nd e]
theorem rel_none {d:Ed α} (h1:look l d.s=none):rel d l=l:=by unfold rel;rw[h1]
theorem Best.of_arr (h: ∀ q w,Arr E p t q w↔Arr E' p t q w) (b:Best E p t B):Best E' p t B:=⟨fun q w e=>(h q w).mp (b.snd q w e),fun q w a=>b.all q w ((h q w).mpr a)⟩
end
end Erl
end
namespace L2
open Ent (val un)
noncomputable def isnB : PV → PV → M PV
  | .bl a, .bl b => .ret (.bl (a != b))
  | _, _ => .fail
theorem ov_isnB : OpV (fun x y H Q => ∃ a b, x = .bl a ∧ y = .bl b ∧ Q (.bl (a != b)) H) isnB := fun φ G O H n R Q y z x x' pr dm ok r1 r2 w q => by
  cases y <;> cases z <;> first | exact w.elim | skip
  rename_i i j
  rw [r1.bl_i, r2.bl_i]
  exact ⟨i, j, rfl, rfl, q.sc ok (.bl _) w⟩
noncomputable def frz1 (k : Nat) (ρ : PEnv) : PEnv := match ρ[k]? with | some e => ρ.set k e.freeze | none => ρ
noncomputable def frzO (k : Nat) (m : PEnv → M Fl) : PEnv → M Fl := fun ρ => m (frz1 k ρ)
theorem own_less {k : Nat} {ρ : PEnv} {σ : St} {i : Nat} {p : Addr} (h : OwnAt (frz1 k ρ) σ i p) : OwnAt ρ σ i p ∧ i ≠ k := by
  unfold frz1 at h
  obtain ⟨t, h1, h2, h3⟩ := h
  cases q : ρ[k]? with
  | none =>
    rw [q] at h1
    exact ⟨⟨t, h1, h2, h3⟩, fun z => by subst z; rw [q] at h1; cases h1⟩
  | some e =>
    rw [q] at h1
    dsimp only at h1
    by_cases c : k = i
    · subst c
      rw [List.getElem?_set_self (List.getElem?_eq_some_iff.mp q).1] at h1
      cases h1
      cases e <;> cases h2
    · rw [List.getElem?_set_ne c] at h1
      exact ⟨⟨t, h1, h2, h3⟩, fun z => c z.symm⟩
theorem SI.frz1 {φ : Fam} {G : Bg φ} {O0 O : Addr → Prop} {H0 H : Hp} {σ : St} {ρ : PEnv} {n : Nat} (k : Nat) (s : SI G O0 H0 O H σ ρ n) : SI G O0 H0 (fun p => O p ∧ ¬ OwnAt ρ σ k p) H σ (frz1 k ρ) n := by
  have less : ∀ p, (O p ∧ ¬ OwnAt ρ σ k p) → O p := fun p h => h.1
  refine ⟨⟨⟨?_, fun i e he => ?_⟩, s.es.ok, fun p h => ⟨s.es.pr p h, fun z => ?_⟩, fun p h => s.es.dm p h.1⟩, s.p0, fun p h => ⟨s.sub p h, fun z => ?_⟩, s.ext, fun p h => s.gr p h.1, s.d0, fun i p h => s.fr i p (own_less h).1, fun i j p h h' => s.dj i j p (own_less h).1 (own_less h').1⟩
  · unfold L2.frz1
    split
    · rw [List.length_set]; exact s.es.er.1
    · exact s.es.er.1
  · have old : ∀ t, ρ[i]? = some t → i ≠ k → EntRep G (fun p => O p ∧ ¬ OwnAt ρ σ k p) H t ((σ[i]?).getD none) := fun t q ne => by
      have r1 := s.es.er.2 i t q
      cases t with
      | un => trivial
      | val y => obtain ⟨v, hv, rr⟩ := r1; exact ⟨v, hv, rr.less less⟩
      | own l =>
        obtain ⟨p, ys, hv, hq, nq, hh', rr⟩ := r1
        exact ⟨p, ys, hv, ⟨hq, fun z => ne (s.dj i k p ⟨_, q, rfl, sig_of s.es.er q hv⟩ z)⟩, nq, hh', rr.less less⟩
      | ownD l =>
        obtain ⟨p, ys, hv, hq, nq, hh', rr⟩ := r1
        exact ⟨p, ys, hv, ⟨hq, fun z => ne (s.dj i k p ⟨_, q, rfl, sig_of s.es.er q hv⟩ z)⟩, nq, hh', rr.1, fun i a b c d => (rr.2 i a b c d).less less⟩
    unfold L2.frz1 at he
    cases q : ρ[k]? with
    | none =>
      rw [q] at he
      exact old e he fun z => by subst z; rw [q] at he; cases he
    | some t =>
      rw [q] at he
      dsimp only at he
      by_cases c : k = i
      · subst c
        rw [List.getElem?_set_self (List.getElem?_eq_some_iff.mp q).1] at he
        cases he
        have r1 := s.es.er.2 k t q
        cases t with
        | un => trivial
        | val y => obtain ⟨v, hv, rr⟩ := r1; exact ⟨v, hv, rr.less less⟩
        | own l =>
          obtain ⟨p, ys, hv, hq, nq, hh', rr⟩ := r1
          exact ⟨_, hv, .lst (fun z => z.2 ⟨_, q, rfl, sig_of s.es.er q hv⟩) hh' rr.1 (rr.less less).2⟩
        | ownD l =>
          obtain ⟨p, ys, hv, hq, nq, hh', rr⟩ := r1
          exact ⟨_, hv, .dct (fun z => z.2 ⟨_, q, rfl, sig_of s.es.er q hv⟩) (.inl hh') rr.1 fun i a b c d => (rr.2 i a b c d).less less⟩
      · rw [List.getElem?_set_ne c] at he
        exact old e he fun z => c z.symm
  · obtain ⟨t, h1, h2, h3⟩ := z
    have r1 := s.es.er.2 k t h1
    rw [h3] at r1
    cases t with
    | un => cases h2
    | val y => cases h2
    | own l => obtain ⟨p', ys, hv, hq, nq, _⟩ := r1; cases hv; exact nq h
    | ownD l => obtain ⟨p', ys, hv, hq, nq, _⟩ := r1; cases hv; exact nq h
  · have := s.fr k p z
    obtain ⟨o, g⟩ := s.d0 p h
    rw [this] at g
    cases g
theorem sv_frzO {φ : Fam} {X : Cx} {st : Stmt} {m : PEnv → M Fl} (k : Nat) (h : SV φ X st m) : SV φ X st (frzO k m) := BS.mono h fun D σ H ⟨G, O0, H0, O, ρ, n, s, w⟩ => ⟨G, O0, H0, _, _, n, s.frz1 k, w⟩
end L2
section
open PySem PySem.Spec PyProof.Rows
namespace L2
theorem gV0 (y:PV) (ρ:PEnv):getV (.val y::ρ) 0= .ret y:=rfl
theorem gVs (e:Ent) (ρ:PEnv) (i:Nat):getV (e::ρ) (i+1)=getV ρ i:=rfl
theorem gB0o (l:List PV) (ρ:PEnv):getB (.own l::ρ) 0= .ret (.lst l):=rfl
theorem gB0d (l:List (Key×PV)) (ρ:PEnv):getB (.ownD l::ρ) 0= .ret (.dct l):=rfl
theorem gBs (e:Ent) (ρ:PEnv) (i:Nat):getB (e::ρ) (i+1)=getB ρ i:=rfl
theorem seq_nx (h:m ρ= .ret (.nx ρ')) (h':(k ρ').bind finP=Y):(seqP m k ρ).bind finP=Y:=by unfold seqP;rw[h];exact h'
theorem seq_rt (h:m ρ= .ret (.rt y)):(seqP m k ρ).bind finP= .ret y:=by unfold seqP;rw[h];rfl
theorem sq_nx (h:m ρ= .ret (.nx ρ')) (h':k ρ'=Y):seqP m k ρ=Y:=by unfold seqP;rw[h];exact h'
theorem if_f (h:c ρ= .ret false):ifP c a b ρ=b ρ:=by unfold ifP;rw[h];rfl
theorem if_t (h:c ρ= .ret true):ifP c a b ρ=a ρ:=by unfold ifP;rw[h];rfl
theorem ret_y (h:m (ρ.map Ent.freeze)= .ret y):retP m ρ= .ret (.rt y):=by unfold retP;rw[h];rfl
theorem fin_y {m:PEnv→M Fl} (h:m ρ= .ret (.rt y)):(m ρ).bind finP= .ret y:=by rw[h];rfl
theorem and_f (h:a ρ= .ret false):andP a b ρ= .ret false:=by unfold andP;rw[h];rfl
theorem and_t (h:a ρ= .ret true):andP a b ρ=b ρ:=by unfold andP;rw[h];rfl
theorem or_t (h:a ρ= .ret true):orP a b ρ= .ret true:=by unfold orP;rw[h];rfl
theorem or_f (h:a ρ= .ret false):orP a b ρ=b ρ:=by unfold orP;rw[h];rfl
theorem gseqF {m k:PEnv→M Fl} {I:PEnv→Prop} (h:Gen (m ρ) c fun f=> ∃ ρ',f= .nx ρ'∧I ρ') (h': ∀ ρ',I ρ'→Gen ((k ρ').bind finP) d Pr):Gen ((seqP m k ρ).bind finP) (c+d) Pr:=by
 unfold seqP
 rw[M.bZ]
 refine Gen.bind h fun f hf=>?_
 obtain⟨ρ',rfl,hi⟩:=hf
 exact h' ρ' hi
theorem gseq {m k:PEnv→M Fl} {I:PEnv→Prop} (h:Gen (m ρ) c fun f=> ∃ ρ',f= .nx ρ'∧I ρ') (h': ∀ ρ',I ρ'→Gen (k ρ') d Pr):Gen (seqP m k ρ) (c+d) Pr:=by
 unfold seqP
 refine Gen.bind h fun f hf=>?_
 obtain⟨ρ',rfl,hi⟩:=hf
 exact h' ρ' hi
theorem gnF (h:m ρ= .ret (.nx ρ')) (h':Gen ((k ρ').bind finP) d Pr):Gen ((seqP m k ρ).bind finP) d Pr:=by unfold seqP;rw[h];exact h'
theorem gn (h:m ρ= .ret (.nx ρ')) (h':Gen (k ρ') d Pr):Gen (seqP m k ρ) d Pr:=by unfold seqP;rw[h];exact h'
theorem forN {mb:PEnv→M Fl} {Iv:Nat→PEnv→Prop}: ∀ (l:List PV) (i:Nat) (ρ:PEnv),Iv i ρ→(∀ y∈l,∀ j < i+l.length,∀ ρ,Iv j ρ→Gen (mb (ρ.set k (.val y))) c fun f=> ∃ ρ',f= .nx ρ'∧Iv (j+1) ρ')→Gen (forP (bindN k) mb l ρ) (l.length * c) fun f=> ∃ ρ',f= .nx ρ'∧Iv (i+l.length) ρ'
 |[],i,ρ,h,_=>Gen.le (Gen.ret ⟨ρ,rfl,h⟩) (by simp)
 |y::l,i,ρ,h,hb=>by
  unfold forP
  simp only[bindN,rZ]
  refine Gen.le (Gen.bind (hb y List.mem_cons_self i (by simp) ρ h) fun f hf=>?_) (d:=(y::l).length * c) (Nat.le_of_eq (?_:c+l.length * c=_))
  ·obtain⟨ρ',rfl,h'⟩:=hf
   have q:=forN l (i+1) ρ' h' fun y' hy j hj=>hb y' (List.mem_cons_of_mem _ hy) j (by simp only[List.length_cons];lia)
   rw[show i+(y::l).length=i+1+l.length by simp only[List.length_cons];lia]
   exact q
  ·simp only[List.length_cons,Nat.succ_mul];lia
theorem drawB (h0:0 < m) (h1:m < 1073741824) (h: ∀ d:Int,0≤d→d < m→Gen (f (.int d)) c Pr):Gen ((drawF [.bag,.int m]).bind f) (1+c) Pr:=by
 refine Gen.bind (Gen.draw h0 h1) ?_
 rintro _ ⟨d,rfl,d0,d1⟩
 exact h d d0 d1
theorem atI_in {α:Type} {l:List α} {d:Int} (h0:0≤d) (h1:d < l.length): ∃ y∈l,atI l d=some y:=by
 have hd:d.toNat < l.length:=by lia
 have e:d=((d.toNat:Nat):Int):=by lia
 refine⟨l[d.toNat],List.getElem_mem hd,?_⟩
 have q:=atI_nat (List.getElem?_eq_getElem hd)
 rw[←e] at q
 exact q
theorem ix_lst {l:List PV} {d:Int} (h0:0≤d) (h1:d < l.length): ∃ y∈l,ixO (.lst l) (.int d)= .ret y:=by
 obtain⟨y,hy,e⟩:=atI_in h0 h1
 exact⟨y,hy,by show M.ofO (atI l d)=_;rw[e];rfl⟩
theorem fdivI (h0:0 < j) (h1:j < 1073741824):fdivO (.int i) (.int j)= .ret (.int (i / j)):=by
 unfold fdivO numO
 dsimp only
 rw[if_pos (show CDiv i j from⟨h0,h1⟩)]
theorem modI (h0:0 < j):modO (.int i) (.int j)= .ret (.int (i % j)):=by
 unfold modO numO
 dsimp only
 rw[if_pos h0]
theorem mulI (h0: -1000000000000 < a) (h1:a < 1000000000000):mulE (.int a) (.int b)= .ret (.int (a * b)):=by
 unfold mulE mulO
 dsimp only
 have e:(2:Int) ^ 64=18446744073709551616:=by decide
 rw[if_pos (.inl ⟨by lia,by lia⟩)]
theorem addI (i j:Int):addO (.int i) (.int j)= .ret (.int (i+j)):=rfl
theorem subI (i j:Int):subO (.int i) (.int j)= .ret (.int (i - j)):=rfl
theorem ltI (i j:Int):ltO (.int i) (.int j)= .ret (.bl (decide (i < j))):=rfl
theorem gtI (i j:Int):gtO (.int i) (.int j)= .ret (.bl (decide (i > j))):=rfl
theorem leI (i j:Int):leOD (.int i) (.int j)= .ret (.bl (decide (i≤j))):=rfl
theorem eqI (b:Bool) (i j:Int):eqO b (.int i) (.int j)= .ret (.bl (xor b (i==j))):=by
 unfold eqO
 simp[eqP,flatP,toV,eqV,M.ofO,flatV]
theorem eqB (b:Bool) (i j:Bool):eqO b (.bl i) (.bl j)= .ret (.bl (xor b (i==j))):=by
 unfold eqO
 simp[eqP,flatP,toV,eqV,M.ofO,flatV]
theorem eqS (b:Bool) (i j:Str):eqO b (.str i) (.str j)= .ret (.bl (xor b (i==j))):=by
 unfold eqO
 simp[eqP,flatP,toV,eqV,M.ofO,flatV]
noncomputable def inN (zs:List Str) (x:Str):Bool:=zs.any fun z=>z==x
theorem inN_iff:inN zs x=true↔x∈zs:=by
 unfold inN
 rw[List.any_eq_true]
 constructor
 ·rintro⟨z,hz,e⟩;rw[←eq_of_beq e];exact hz
 ·intro h;exact⟨x,h,beq_self_eq_true x⟩
theorem flat_strs (zs:List Str):(zs.map PV.str).all flatP=true:=by
 rw[List.all_eq_true]
 intro y hy
 obtain⟨z,_,rfl⟩:=List.mem_map.mp hy
 rfl
theorem in_names (x:Str) (zs:List Str) (b:Bool):inO b (.str x) (.lst (zs.map PV.str))= .ret (.bl (xor b (inN zs x))):=by
 have e:memF (.str x) (zs.map PV.str)=inN zs x:=by
  unfold memF inN
  rw[List.any_map]
  rfl
 unfold inO
 dsimp only
 rw[flat_strs,e]
 simp[flatP,toV,flatV]
theorem ones_len: ∀ (ys:List Str),(∀ z∈ys,z.length=1)→(ys.map (·.length)).sum=ys.length
 |[],_=>rfl
 |y::r,h=>by
  have:=ones_len r fun z hz=>h z (List.mem_cons_of_mem _ hz)
  rw[List.map_cons,List.sum_cons,this,h y List.mem_cons_self,List.length_cons]
  lia
def One (y:PV):Prop:= ∃ c:Nat,y= .str ⟨#[c]⟩
theorem strs_one: ∀ (l:List PV),(∀ y∈l,One y)→∃ ys,strsOf l=some ys∧ys.length=l.length∧∀ z∈ys,z.length=1
 |[],_=>⟨[],rfl,rfl,fun z hz=>by simp at hz⟩
 |y::l,h=>by
  obtain⟨ys,e1,e2,e3⟩:=strs_one l fun y hy=>h y (List.mem_cons_of_mem _ hy)
  obtain⟨c,rfl⟩:=h y List.mem_cons_self
  exact⟨⟨#[c]⟩::ys,by simp[strsOf,e1],by simp[e2],fun u hu=>by
   rcases List.mem_cons.mp hu with rfl|hu
   ·rfl
   ·exact e3 u hu⟩
theorem join_ok (h: ∀ y∈l,One y) (hl:l.length≤1000): ∃ ys,strsOf l=some ys∧joinO (.str "") [.lst l]= .ret (.str (Txt.join (Str.ofString "") ys)):=by
 obtain⟨ys,e1,e2,e3⟩:=strs_one l h
 have e4:=ones_len ys e3
 have e5:(Str.ofString "").length=0:=by decide
 have hs:(ys.map (·.length)).sum+ys.length * (Str.ofString "").length≤16777216:=by rw[e4,e5,e2];lia
 refine⟨ys,e1,?_⟩
 simp only[joinO,e1,M.ofO,rZ,if_pos hs]
theorem abc_at (d:Int) (h0:0≤d) (h1:d < 26):atI (Str.ofString "abcdefghijklmnopqrstuvwxyz").cps.toList d=some (97+d.toNat):=by
 have e: ∀ k:Fin 26,atI (Str.ofString "abcdefghijklmnopqrstuvwxyz").cps.toList ((k.val:Nat):Int)=some (97+k.val):=by decide +kernel
 have:=e ⟨d.toNat,by lia⟩
 simp only at this
 rw[show ((d.toNat:Nat):Int)=d by lia] at this
 exact this
theorem abc_ix (d:Int) (h0:0≤d) (h1:d < 26):ixO (.str "abcdefghijklmnopqrstuvwxyz") (.int d)= .ret (.str ⟨#[97+d.toNat]⟩):=by
 have hz:(Str.ofString "abcdefghijklmnopqrstuvwxyz").length≤100000:=by decide +kernel
 simp[ixO,abc_at d h0 h1,M.ofO,hz]
theorem nodup_len: ∀ (A B:List Str),A.Nodup→(∀ x∈A,x∈B)→A.length≤B.length
 |[],B,_,_=>Nat.zero_le _
 |x::A,B,nd,h=>by
  rw[List.nodup_cons] at nd
  have hx:=h x List.mem_cons_self
  have:=nodup_len A (B.erase x) nd.2 fun y hy=>(List.mem_erase_of_ne (fun z:y=x=>nd.1 (z▸hy))).mpr (h y (List.mem_cons_of_mem _ hy))
  rw[List.length_erase_of_mem hx] at this
  have:=List.length_pos_of_mem hx
  rw[List.length_cons]
  lia
noncomputable def nm3 (c:Int):Str:=⟨#[97+(c / 676 % 26).toNat,97+(c / 26 % 26).toNat,97+(c % 26).toNat]⟩
theorem nm3_inj (ha:0≤a) (hab:a < b) (hb:b < a+17576):nm3 a≠nm3 b:=by
 intro e
 have e:=congrArg (fun s:Str=>s.cps.toList) e
 simp only[nm3,List.cons.injEq,and_true] at e
 lia
noncomputable def row3 (c:Int):List PV:=[.int (c / 676 % 26),.int (c / 26 % 26),.int (c % 26)]
theorem join3 (c:Int):joinO (.str "") [.lst [.str ⟨#[97+(c / 676 % 26).toNat]⟩,.str ⟨#[97+(c / 26 % 26).toNat]⟩,.str ⟨#[97+(c % 26).toNat]⟩]]= .ret (.str (nm3 c)):=by
 have e5:(Str.ofString "").length=0:=by decide
 unfold joinO
 simp only[strsOf,Option.map_some,M.ofO,rZ,List.map_cons,List.map_nil,List.sum_cons,List.sum_nil,List.length_cons,List.length_nil,e5]
 rw[if_pos (by show 1+(1+(1+0))+(0+1+1+1) * 0≤16777216;decide)]
 rfl
theorem many_in {l:List Str} {c:Int} (h0:0≤c) {n:Nat} (hn:n < 1000) (h: ∀ j:Nat,1≤j→j≤n→nm3 (c+j)∈l):n≤l.length:=by
 have nd: ∀ (n:Nat),n < 1000→((List.range n).map fun i:Nat=>nm3 (c+((i+1:Nat):Int))).Nodup:=fun n hn=>by
  refine List.Pairwise.map _ (fun a b (hab:a < 1000∧b < 1000∧a < b)=>?_) (R:=fun a b:Nat=>a < 1000∧b < 1000∧a < b) ?_
  ·exact nm3_inj (by lia) (by lia) (by lia)
  ·refine List.Pairwise.imp_of_mem (fun {a b} ha hb h=>?_) (List.pairwise_lt_range (n:=n))
   have:=List.mem_range.mp ha
   have:=List.mem_range.mp hb
   exact⟨by lia,by lia,h⟩
 have:=nodup_len _ l (nd n hn) fun x hx=>by
  obtain⟨i,hi,rfl⟩:=List.mem_map.mp hx
  exact h (i+1) (by lia) (by have:=List.mem_range.mp hi;lia)
 simpa using this
end L2
namespace L2
theorem rngI (h0:0≤n) (h1:n≤100000):rng1O [.int n]= .ret (intsP 0 n.toNat):=by
 show (if -1000000≤n∧n≤100000 then M.ret (intsP 0 n.toNat) else M.fail)=_
 rw[if_pos ⟨by lia,h1⟩]
theorem ints_len (n:Nat):(intsP 0 n).length=n:=by simp[intsP]
theorem lc_at (h:mi ρ= .ret l) (hl:l.length≤100000):mkLC js mi bd tt te ρ=lcM bd tt te l (capP js ρ):=by
 unfold mkLC
 rw[h,rZ,if_pos hl]
theorem bmS:bmP "str" op (fun _=>M.ret (.str x)) ml ρ=(ml ρ).bind fun l=>op (.str x) l:=by
 unfold bmP
 rw[rZ,if_pos (show tyP (.str x)="str" from rfl)]
theorem con1:consA m (fun _=>M.ret []) ρ=(m ρ).bind fun y=>.ret [y]:=rfl
end L2
namespace L2
structure Pw where
 nm:Str
 kd:Str
 s:Str
 e:Str
 a:Int
 b:Int
noncomputable def pwP (w:Pw):PV:=.tup [.str w.nm,.str w.kd,.str w.s,.str w.e,.int w.a,.int w.b]
noncomputable def hillP (ws:List Pw) (h:Str) (d:Int):PV:=.tup [.tup (ws.map pwP),.str h,.int d]
structure PwOk (w:Pw):Prop where
 a0:0≤w.a
 a1:w.a≤1000000
 b0:0≤w.b
 b1:w.b≤1000000
structure HillOk (ws:List Pw) (h:Str) (d:Int):Prop where
 l0:1≤ws.length
 l1:ws.length≤12
 ok: ∀ w∈ws,PwOk w
 nd:(ws.map (·.nm)).Nodup
 d0:1≤d
 d1:d≤1000000
theorem ixStr {zs:List Str} {d:Int} (h0:0≤d) (h1:d < zs.length): ∃ z∈zs,ixO (.lst (zs.map PV.str)) (.int d)= .ret (.str z):=by
 obtain⟨y,hy,e⟩:=ix_lst (l:=zs.map PV.str) h0 (by simpa using h1)
 obtain⟨z,hz,rfl⟩:=List.mem_map.mp hy
 exact⟨z,hz,e⟩
theorem lenL (l:List PV):lenO [.lst l]= .ret (.int l.length):=rfl
theorem lenT (l:List PV):lenO [.tup l]= .ret (.int l.length):=rfl
end L2
namespace L2
theorem mkL0:mkLst []= .ret []:=by simp[mkLst]
theorem mkL1 (a:PV):mkLst [a]= .ret [a]:=by simp[mkLst]
theorem mkL2 (a b:PV):mkLst [a,b]= .ret [a,b]:=by simp[mkLst]
theorem mkT2 (a b:PV):mkTup [a,b]= .ret (.tup [a,b]):=by simp[mkTup]
theorem mkL3 (a b c:PV):mkLst [a,b,c]= .ret [a,b,c]:=by simp[mkLst]
theorem mkT3 (a b c:PV):mkTup [a,b,c]= .ret (.tup [a,b,c]):=by simp[mkTup]
theorem mkL4 (a b c d:PV):mkLst [a,b,c,d]= .ret [a,b,c,d]:=by simp[mkLst]
theorem mkL5 (a b c d e:PV):mkLst [a,b,c,d,e]= .ret [a,b,c,d,e]:=by simp[mkLst]
theorem mkT6 (a b c d e f:PV):mkTup [a,b,c,d,e,f]= .ret (.tup [a,b,c,d,e,f]):=by simp[mkTup]
theorem mkL7 (a b c d e f g:PV):mkLst [a,b,c,d,e,f,g]= .ret [a,b,c,d,e,f,g]:=by simp[mkLst]
end L2
namespace L2
theorem forG {mb:PEnv→M Fl} {N:Nat} {f:β→PV} {Iv:List β→PEnv→Prop} (hb: ∀ q done ρ,done.length < N→Iv done ρ→Gen (mb (ρ.set k (.val (f q)))) c fun fl=> ∃ ρ',fl= .nx ρ'∧Iv (done++[q]) ρ'): ∀ (l done:List β) (ρ:PEnv),done.length+l.length≤N→Iv done ρ→Gen (forP (bindN k) mb (l.map f) ρ) (l.length * c) fun fl=> ∃ ρ',fl= .nx ρ'∧Iv (done++l) ρ'
 |[],done,ρ,_,h=>Gen.le (Gen.ret ⟨ρ,rfl,by rw[List.append_nil];exact h⟩) (by simp)
 |y::l,done,ρ,hl,h=>by
  rw[List.map_cons]
  unfold forP
  simp only[bindN,rZ]
  rw[List.length_cons] at hl
  refine Gen.le (Gen.bind (hb y done ρ (by lia) h) (d:=l.length * c) fun fl hf=>?_) (by rw[List.length_cons,Nat.succ_mul];lia)
  obtain⟨ρ',rfl,h'⟩:=hf
  have q:=forG hb l (done++[y]) ρ' (by rw[List.length_append];simp only[List.length_cons,List.length_nil];lia) h'
  rw[List.append_assoc] at q
  exact q
end L2
end
section
open PySem PySem.Spec PyProof.Rows
namespace L2
open Erl (Ed Tb look put rel rnd iter Good)
structure Gr where
 w:Str
 s:Str
 e:Str
 n:Int
 ps:List (Int×Int)
noncomputable def prP (p:Int×Int):PV:=.tup [.int p.1,.int p.2]
noncomputable def grP (r:Gr):PV:=.tup [.str r.w,.str r.s,.str r.e,.int r.n,.tup (r.ps.map prP)]
noncomputable def fstE:List (Int×Int)→Int→Option Int
 |[],_=>none
 |(a,b)::l,t=>if t < b then some (if t > a then t else a) else fstE l t
noncomputable def edG (dark:Int) (r:Gr):Ed Str:=⟨r.s,r.e,fun t=>(fstE r.ps t).bind fun m=>if m+r.n≤dark then some (m+r.n) else none⟩
noncomputable def RiseA:List (Int×Int)→Prop:=List.Pairwise fun p q=>p.1≤q.1
theorem fstE_in: ∀ {l:List (Int×Int)} {t m:Int},fstE l t=some m→t≤m∧∃ p∈l,p.1≤m∧(t < p.2)∧(m=t∨m=p.1)
 |[],t,m,h=>by cases h
 |(a,b)::l,t,m,h=>by
  unfold fstE at h
  by_cases c:t < b
  ·rw[if_pos c] at h
   by_cases d:t > a
   ·rw[if_pos d] at h;cases h;exact⟨Int.le_refl _,(a,b),List.mem_cons_self,by show a≤_;lia,c,.inl rfl⟩
   ·rw[if_neg d] at h;cases h;exact⟨by lia,(a,b),List.mem_cons_self,Int.le_refl _,c,.inr rfl⟩
  ·rw[if_neg c] at h
   obtain⟨h1,p,hp,h2⟩:=fstE_in h
   exact⟨h1,p,List.mem_cons_of_mem _ hp,h2⟩
theorem fstE_mono: ∀ {l:List (Int×Int)} {t u m:Int},RiseA l→t≤u→fstE l u=some m→∃ m',fstE l t=some m'∧m'≤m
 |[],t,u,m,_,_,h=>by cases h
 |(a,b)::l,t,u,m,hr,le,h=>by
  unfold RiseA at hr
  rw[List.pairwise_cons] at hr
  unfold fstE at h ⊢
  by_cases c:t < b
  ·rw[if_pos c]
   refine⟨_,rfl,?_⟩
   by_cases d:u < b
   ·rw[if_pos d] at h
    cases h
    split<;>split<;>lia
   ·rw[if_neg d] at h
    obtain⟨h1,p,hp,h2,_⟩:=fstE_in h
    have:=hr.1 p hp
    split
    ·lia
    ·have:a≤p.1:=this
     lia
  ·rw[if_neg c]
   rw[if_neg (by lia)] at h
   exact fstE_mono hr.2 le h
theorem goodG (h:0 < r.n) (hr:RiseA r.ps):Good (edG dark r):=by
 refine⟨fun t t' e=>?_,fun t u u' le e=>?_⟩
 ·unfold edG at e
  obtain⟨m,e1,e2⟩:=Option.bind_eq_some_iff.mp e
  have:=(fstE_in e1).1
  split at e2
  ·cases e2;lia
  ·cases e2
 ·unfold edG at e ⊢
  obtain⟨m,e1,e2⟩:=Option.bind_eq_some_iff.mp e
  obtain⟨m',e3,le'⟩:=fstE_mono hr le e1
  split at e2
  ·cases e2
   refine⟨m'+r.n,?_,by lia⟩
   dsimp only
   rw[e3,Option.bind_some,if_pos (by lia)]
  ·cases e2
structure RowOk (r:Gr):Prop where
 n0:0 < r.n
 ri:RiseA r.ps
 lt: ∀ pr∈r.ps,pr.1 < pr.2
structure Ce where
 q:Str
 v:Int
 o:Option (Str×Int×Str)
noncomputable def ceV (c:Ce):PV:=match c.o with
 |none=>.tup [.int c.v,.non,.non]
 |some o=>.tup [.int c.v,.tup [.str o.1,.int o.2.1],.str o.2.2]
def ceP (c:Ce):Key×PV:=(.inr c.q,ceV c)
noncomputable def tb (es:List Ce):Tb Str:=es.map fun c=>(c.q,c.v)
noncomputable def putE (es:List Ce) (c:Ce):List Ce:=if es.any (fun x=>decide (x.q=c.q)) then es.map (fun x=>if x.q=c.q then c else x) else es++[c]
noncomputable def atE (es:List Ce) (q:Str):Option Ce:=es.find? fun c=>decide (c.q=q)
theorem val_ce (es:List Ce) (q:Str):valP (es.map ceP) (.inr q)=(atE es q).map ceV:=by
 unfold valP atE
 rw[List.find?_map,Option.map_map]
 have:((fun kv:Key×PV=>decide (kv.1= .inr q))∘ceP)=fun c:Ce=>decide (c.q=q):=by
  funext c
  show decide ((Sum.inr c.q:Key)= .inr q)=_
  rw[decide_eq_decide]
  exact⟨fun z=>by cases z;rfl,fun z=>by rw[z]⟩
 rw[this]
 rfl
theorem look_ce (es:List Ce) (q:Str):look (tb es) q=(atE es q).map (·.v):=by
 unfold look tb atE
 rw[List.find?_map,Option.map_map]
 rfl
theorem any_ce (es:List Ce) (q:Str):((es.map ceP).any fun kv=>decide (kv.1= .inr q))=es.any fun x=>decide (x.q=q):=by
 rw[List.any_map]
 congr 1
 funext c
 show decide ((Sum.inr c.q:Key)= .inr q)=_
 rw[decide_eq_decide]
 exact⟨fun z=>by cases z;rfl,fun z=>by rw[z]⟩
theorem put_ce (es:List Ce) (c:Ce):putP (es.map ceP) (.inr c.q) (ceV c)=(putE es c).map ceP:=by
 unfold putP putE
 rw[any_ce]
 cases e:es.any fun x=>decide (x.q=c.q) with
 |true=>
  rw[if_pos rfl,if_pos rfl,List.map_map,List.map_map]
  refine List.map_congr_left fun x _=>?_
  show (if(Sum.inr x.q:Key)= .inr c.q then _ else _)=ceP (if x.q=c.q then c else x)
  by_cases h:x.q=c.q
  ·rw[if_pos h,if_pos (by rw[h])]
   show (Sum.inr x.q,ceV c)=(Sum.inr c.q,ceV c)
   rw[h]
  ·rw[if_neg h,if_neg (fun z=>h (Sum.inr.inj z))]
 |false=>
  rw[if_neg (by simp),if_neg (by simp),List.map_append]
  rfl
theorem put_tb (es:List Ce) (c:Ce):tb (putE es c)=put (tb es) c.q c.v:=by
 unfold putE put tb
 rw[List.any_map]
 have:((fun kv:Str×Int=>decide (kv.1=c.q))∘fun c:Ce=>(c.q,c.v))=fun x:Ce=>decide (x.q=c.q):=rfl
 rw[this]
 cases e:es.any fun x=>decide (x.q=c.q) with
 |true=>
  rw[if_pos rfl,if_pos rfl,List.map_map,List.map_map]
  refine List.map_congr_left fun x _=>?_
  show (fun c:Ce=>(c.q,c.v)) (if x.q=c.q then c else x)=if x.q=c.q then(x.q,c.v) else(x.q,x.v)
  by_cases h:x.q=c.q
  ·rw[if_pos h,if_pos h,h]
  ·rw[if_neg h,if_neg h]
 |false=>
  rw[if_neg (by simp),if_neg (by simp),List.map_append]
  rfl
noncomputable def relG (dark:Int) (r:Gr) (es:List Ce):List Ce×Bool:=match look (tb es) r.s with
 |none=>(es,false)
 |some u=>match fstE r.ps u with
  |none=>(es,false)
  |some m=>if m+r.n≤dark∧(∀ w,look (tb es) r.e=some w→m+r.n < w) then(putE es ⟨r.e,m+r.n,some (r.w,m,r.s)⟩,true) else(es,false)
theorem relG_tb (dark:Int) (r:Gr) (es:List Ce):tb (relG dark r es).1=rel (edG dark r) (tb es):=by
 unfold relG rel edG
 dsimp only
 cases e1:look (tb es) r.s with
 |none=>rfl
 |some u=>
  dsimp only
  cases e2:fstE r.ps u with
  |none=>rfl
  |some m=>
   dsimp only[Option.bind_some]
   by_cases c:m+r.n≤dark
   ·rw[if_pos c]
    dsimp only
    cases e3:look (tb es) r.e with
    |none=>
     rw[if_pos ⟨c,fun w z=>by cases z⟩]
     exact put_tb es _
    |some w=>
     dsimp only
     by_cases d:m+r.n < w
     ·rw[if_pos ⟨c,fun w' z=>by cases z;exact d⟩,if_pos d]
      exact put_tb es _
     ·rw[if_neg (fun z=>d (z.2 w rfl)),if_neg d]
   ·rw[if_neg (fun z=>c z.1),if_neg c]
structure CamE (rows:List Gr) (p:Str) (t:Int) (es:List Ce):Prop where
 nd:(es.map (·.q)).Nodup
 st:⟨p,t,none⟩∈es
 low: ∀ c∈es,t≤c.v∧(c.q≠p→t < c.v)
 how: ∀ c∈es,c.q≠p→∃ r∈rows,∃ m,c.o=some (r.w,m,r.s)∧c.q=r.e∧c.v=m+r.n∧(∃ pr∈r.ps,pr.1≤m∧m < pr.2)∧∃ b∈es,b.q=r.s∧b.v≤m
theorem CamE.start:CamE rows p t [⟨p,t,none⟩]:=by
 refine⟨by simp,List.mem_cons_self,fun c hc=>?_,fun c hc=>?_⟩
 ·rw[List.mem_singleton.mp hc];exact⟨Int.le_refl _,fun z=>absurd rfl z⟩
 ·rw[List.mem_singleton.mp hc];exact fun z=>absurd rfl z
theorem at_mem (h:atE es q=some c):c∈es∧c.q=q:=⟨List.mem_of_find?_eq_some h,by simpa using List.find?_some h⟩
theorem at_of (nd:(es.map (·.q)).Nodup) (h:c∈es):atE es c.q=some c:=by
 induction es with
 |nil=>cases h
 |cons x es ih=>
  rw[List.map_cons,List.nodup_cons] at nd
  unfold atE
  rw[List.find?_cons]
  rcases List.mem_cons.mp h with rfl|h
  ·rw[decide_eq_true rfl]
  ·rw[decide_eq_false (fun z=>nd.1 (by rw[z];exact List.mem_map_of_mem h))]
   exact ih nd.2 h
theorem putE_mem (h:x∈putE es c):x=c∨(x∈es∧x.q≠c.q):=by
 unfold putE at h
 cases e:es.any (fun x=>decide (x.q=c.q)) with
 |true=>
  rw[e,if_pos rfl] at h
  obtain⟨y,hy,rfl⟩:=List.mem_map.mp h
  by_cases d:y.q=c.q
  ·rw[if_pos d];exact .inl rfl
  ·rw[if_neg d];exact .inr ⟨hy,d⟩
 |false=>
  rw[e,if_neg (by simp)] at h
  rcases List.mem_append.mp h with h|h
  ·rw[List.any_eq_false] at e
   exact .inr ⟨h,by simpa using e x h⟩
  ·exact .inl (List.mem_singleton.mp h)
theorem putE_keep (h:x∈es) (d:x.q≠c.q):x∈putE es c:=by
 unfold putE
 split
 ·exact List.mem_map.mpr ⟨x,h,if_neg d⟩
 ·exact List.mem_append_left _ h
theorem putE_in:c∈putE es c:=by
 unfold putE
 cases e:es.any (fun x=>decide (x.q=c.q)) with
 |true=>
  rw[if_pos rfl]
  obtain⟨y,hy,z⟩:=List.any_eq_true.mp e
  exact List.mem_map.mpr ⟨y,hy,if_pos (by simpa using z)⟩
 |false=>rw[if_neg (by simp)];exact List.mem_append_right _ List.mem_cons_self
theorem putE_nd (nd:(es.map (·.q)).Nodup):((putE es c).map (·.q)).Nodup:=by
 unfold putE
 cases e:es.any (fun x=>decide (x.q=c.q)) with
 |true=>
  rw[if_pos rfl,List.map_map]
  have:((fun x:Ce=>x.q)∘fun x=>if x.q=c.q then c else x)=fun x=>x.q:=by
   funext x
   show (if x.q=c.q then c else x).q=x.q
   split
   ·rename_i h;exact h.symm
   ·rfl
  rw[this];exact nd
 |false=>
  rw[if_neg (by simp),List.map_append,List.nodup_append]
  rw[List.any_eq_false] at e
  refine⟨nd,by simp,fun a ha b hb z=>?_⟩
  obtain⟨x,hx,rfl⟩:=List.mem_map.mp ha
  have hb:b=c.q:=by simpa using hb
  exact(by simpa using e x hx: ¬ x.q=c.q) (z.trans hb)
theorem relG_cam (hr:r∈rows) (ok:RowOk r) (h:CamE rows p t es):CamE rows p t (relG dark r es).1:=by
 unfold relG
 cases e1:look (tb es) r.s with
 |none=>exact h
 |some u=>
  dsimp only
  cases e2:fstE r.ps u with
  |none=>exact h
  |some m=>
   dsimp only
   by_cases c:m+r.n≤dark∧(∀ w,look (tb es) r.e=some w→m+r.n < w)
   ·rw[if_pos c]
    dsimp only
    rw[look_ce] at e1
    obtain⟨b,eb,rfl⟩:=Option.map_eq_some_iff.mp e1
    obtain⟨mb,hb⟩:=at_mem eb
    obtain⟨hu,pr,hpr,g1,g2,g3⟩:=fstE_in e2
    have lb:=(h.low b mb).1
    have hn:=ok.n0
    have hlt:=ok.lt pr hpr
    have hep:r.e≠p:=fun z=>by
     have:=c.2 t (by rw[look_ce,z,at_of h.nd h.st];rfl)
     lia
    have keepV: ∀ x∈es,∃ y∈putE es ⟨r.e,m+r.n,some (r.w,m,r.s)⟩,y.q=x.q∧y.v≤x.v:=fun x hx=>by
     by_cases d:x.q=r.e
     ·refine⟨_,putE_in,d.symm,?_⟩
      have:=c.2 x.v (by rw[look_ce,←d,at_of h.nd hx];rfl)
      show m+r.n≤x.v
      lia
     ·exact⟨x,putE_keep hx d,rfl,Int.le_refl _⟩
    refine⟨putE_nd h.nd,putE_keep h.st (fun z=>hep z.symm),fun x hx=>?_,fun x hx hp=>?_⟩
    ·rcases putE_mem hx with rfl|⟨hx,_⟩
     ·exact⟨by show t≤m+r.n;lia,fun _=>by show t < m+r.n;lia⟩
     ·exact h.low x hx
    ·rcases putE_mem hx with rfl|⟨hx,_⟩
     ·obtain⟨y,hy,q1,q2⟩:=keepV b mb
      exact⟨r,hr,m,rfl,rfl,rfl,⟨pr,hpr,g1,by rcases g3 with rfl|rfl<;>lia⟩,y,hy,q1.trans hb,by lia⟩
     ·obtain⟨r',hr',m',k1,k2,k3,k4,b',hb',k5,k6⟩:=h.how x hx hp
      obtain⟨y,hy,q1,q2⟩:=keepV b' hb'
      exact⟨r',hr',m',k1,k2,k3,k4,y,hy,q1.trans k5,by lia⟩
   ·rw[if_neg c];exact h
noncomputable def rndG (dark:Int) (rows:List Gr) (es:List Ce):List Ce×Bool:=rows.foldl (fun x r=>((relG dark r x.1).1,x.2||(relG dark r x.1).2)) (es,false)
structure RndI (es0:List Ce) (x:List Ce×Bool):Prop where
 le:Erl.Le (tb es0) (tb x.1)
 no:x.2=false→x.1=es0
 yes:x.2=true→∃ q v,look (tb x.1) q=some v∧∀ w,look (tb es0) q=some w→v < w
theorem relG_rnd (h:RndI es0 x):RndI es0 ((relG dark r x.1).1,x.2||(relG dark r x.1).2):=by
 have le2:Erl.Le (tb x.1) (tb (relG dark r x.1).1):=by rw[relG_tb];exact Erl.rel_le _ _
 refine⟨h.le.trans le2,fun z=>?_,fun z=>?_⟩
 ·dsimp only at z ⊢
  rw[Bool.or_eq_false_iff] at z
  rw[←h.no z.1]
  have z2:=z.2
  unfold relG at z2 ⊢
  cases e1:look (tb x.1) r.s with
  |none=>rfl
  |some u=>
   rw[e1] at z2
   dsimp only at z2 ⊢
   cases e2:fstE r.ps u with
   |none=>rfl
   |some m=>
    rw[e2] at z2
    dsimp only at z2 ⊢
    split at z2
    ·cases z2
    ·rename_i c;rw[if_neg c]
 ·dsimp only at z ⊢
  cases e:x.2 with
  |true=>
   obtain⟨q,v,g1,g2⟩:=h.yes e
   obtain⟨v',g3,g4⟩:=le2 q v g1
   exact⟨q,v',g3,fun w hw=>by have:=g2 w hw;lia⟩
  |false=>
   rw[e,Bool.false_or] at z
   have e0:=h.no e
   subst e0
   unfold relG at z ⊢
   cases e1:look (tb x.1) r.s with
   |none=>rw[e1] at z;cases z
   |some u=>
    rw[e1] at z
    dsimp only at z ⊢
    cases e2:fstE r.ps u with
    |none=>rw[e2] at z;cases z
    |some m=>
     rw[e2] at z
     dsimp only at z ⊢
     split at z
     ·rename_i c
      rw[if_pos c]
      refine⟨r.e,m+r.n,?_,c.2⟩
      rw[put_tb,Erl.look_put,if_pos rfl]
     ·cases z
theorem rnd_fold: ∀ (rows:List Gr) (x:List Ce×Bool),RndI es0 x→RndI es0 (rows.foldl (fun x r=>((relG dark r x.1).1,x.2||(relG dark r x.1).2)) x)
 |[],x,h=>h
 |r::rows,x,h=>rnd_fold rows _ (relG_rnd h)
theorem rndG_i (dark:Int) (rows:List Gr) (es:List Ce):RndI es (rndG dark rows es):=rnd_fold rows _ ⟨.refl _,fun _=>rfl,fun z=>by cases z⟩
theorem fold_tb: ∀ (rows:List Gr) (x:List Ce×Bool),tb (rows.foldl (fun x r=>((relG dark r x.1).1,x.2||(relG dark r x.1).2)) x).1=(rows.map (edG dark)).foldl (fun l d=>rel d l) (tb x.1)
 |[],x=>rfl
 |r::rows,x=>by
  rw[List.foldl_cons,List.map_cons,List.foldl_cons,fold_tb rows]
  rw[relG_tb]
theorem rndG_tb (dark:Int) (rows:List Gr) (es:List Ce):tb (rndG dark rows es).1=rnd (rows.map (edG dark)) (tb es):=fold_tb rows _
theorem fold_cam: ∀ (rows:List Gr) (x:List Ce×Bool),(∀ r∈rows,r∈all∧RowOk r)→CamE all p t x.1→CamE all p t (rows.foldl (fun x r=>((relG dark r x.1).1,x.2||(relG dark r x.1).2)) x).1
 |[],x,_,h=>h
 |r::rows,x,hr,h=>fold_cam rows _ (fun y hy=>hr y (List.mem_cons_of_mem _ hy)) (relG_cam (hr r List.mem_cons_self).1 (hr r List.mem_cons_self).2 h)
theorem rndG_cam (hr: ∀ r∈rows,RowOk r) (h:CamE rows p t es):CamE rows p t (rndG dark rows es).1:=fold_cam rows _ (fun r hr'=>⟨hr',hr r hr'⟩) h
noncomputable def itG (dark:Int) (rows:List Gr):Nat→List Ce→List Ce
 |0,es=>es
 |k+1,es=>(rndG dark rows (itG dark rows k es)).1
theorem itG_tb (dark:Int) (rows:List Gr) (p:Str) (t:Int): ∀ k,tb (itG dark rows k [⟨p,t,none⟩])=iter (rows.map (edG dark)) k [(p,t)]
 |0=>rfl
 |k+1=>by
  show tb (rndG dark rows (itG dark rows k _)).1=rnd _ (iter _ k _)
  rw[rndG_tb,itG_tb dark rows p t k]
theorem itG_cam (hr: ∀ r∈rows,RowOk r): ∀ k,CamE rows p t (itG dark rows k [⟨p,t,none⟩])
 |0=>CamE.start
 |k+1=>rndG_cam hr (itG_cam hr k)
theorem itG_stop (hr: ∀ r∈rows,RowOk r) (hk:rows.length≤k):(rndG dark rows (itG dark rows k [⟨p,t,none⟩])).2=false:=by
 cases e:(rndG dark rows (itG dark rows k [⟨p,t,none⟩])).2 with
 |false=>rfl
 |true=>
  exfalso
  obtain⟨q,v,h1,h2⟩:=(rndG_i dark rows (itG dark rows k [⟨p,t,none⟩])).yes e
  have g: ∀ d∈rows.map (edG dark),Good d:=fun d hd=>by
   obtain⟨r,hr',rfl⟩:=List.mem_map.mp hd
   exact goodG (hr r hr').n0 (hr r hr').ri
  have st:=Erl.iter_stop (p:=p) (t:=t) g (k:=k) (by rw[List.length_map];exact hk)
  have e1:tb (rndG dark rows (itG dark rows k [⟨p,t,none⟩])).1=tb (itG dark rows k [⟨p,t,none⟩]):=by
   rw[rndG_tb,itG_tb]
   exact st
  rw[e1] at h1
  have:=h2 v h1
  lia
theorem cam_len (h:CamE rows p t es):es.length≤rows.length+1:=by
 have:=nodup_len (es.map (·.q)) (p::rows.map (·.e)) h.nd fun x hx=>by
  obtain⟨c,hc,rfl⟩:=List.mem_map.mp hx
  by_cases z:c.q=p
  ·rw[z];exact List.mem_cons_self
  ·obtain⟨r,hr,m,_,k2,_⟩:=h.how c hc z
   rw[k2]
   exact List.mem_cons_of_mem _ (List.mem_map_of_mem hr)
 simpa using this
end L2
namespace L2
theorem din_ce (neg:Bool) (es:List Ce) (q:Str):dinO neg (.str q) (.dct (es.map ceP))= .ret (.bl ((atE es q).isSome !=neg)):=by
 show M.ret (PV.bl ((valP (es.map ceP) (.inr q)).isSome !=neg))=_
 rw[val_ce,Option.isSome_map]
theorem dget_ce (h:atE es q=some c):dgetO (.dct (es.map ceP)) (.str q)= .ret (ceV c):=by
 show M.ofO (valP (es.map ceP) (.inr q))=_
 rw[val_ce,h]
 rfl
theorem ix_ce (c:Ce):ixO (ceV c) (.int 0)= .ret (.int c.v):=by
 unfold ceV
 split<;>rfl
theorem for_fold {bd:PV→PEnv→M PEnv} {mb:PEnv→M Fl} {α:Type} {f:β→PV} {R:α→PEnv→Prop} {st:α→β→α}: ∀ (l:List β) (a:α) (ρ:PEnv),R a ρ→(∀ y∈l,∀ a ρ,R a ρ→∃ ρ1 ρ2,bd (f y) ρ= .ret ρ1∧mb ρ1= .ret (.nx ρ2)∧R (st a y) ρ2)→∃ ρ',forP bd mb (l.map f) ρ= .ret (.nx ρ')∧R (l.foldl st a) ρ'
 |[],a,ρ,h,_=>⟨ρ,rfl,h⟩
 |y::l,a,ρ,h,k=>by
  obtain⟨ρ1,ρ2,e1,e2,h2⟩:=k y List.mem_cons_self a ρ h
  obtain⟨ρ',e3,h3⟩:=for_fold l (st a y) ρ2 h2 fun y' hy=>k y' (List.mem_cons_of_mem _ hy)
  refine⟨ρ',?_,h3⟩
  rw[List.map_cons]
  unfold forP
  rw[e1,rZ,e2,rZ]
  exact e3
end L2
namespace L2
theorem wh_more {mt:PEnv→M Bool} {mb:PEnv→M Fl} {d:Nat} {y:Fl}: ∀ {k:Nat} {ρ:PEnv},whP mt mb k ρ= .ret y→whP mt mb (k+d) ρ= .ret y
 |0,ρ,h=>by cases h
 |k+1,ρ,h=>by
  rw[show k+1+d=(k+d)+1 by lia]
  unfold whP at h ⊢
  cases e:mt ρ with
  |fail=>rw[e] at h;cases h
  |draw m f=>rw[e] at h;cases h
  |ret b=>
   rw[e,rZ] at h
   rw[rZ]
   cases b with
   |false=>exact h
   |true=>
    simp only[if_true] at h ⊢
    cases e2:mb ρ with
    |fail=>rw[e2] at h;cases h
    |draw m f=>rw[e2] at h;cases h
    |ret f=>
     rw[e2,rZ] at h
     rw[rZ]
     cases f with
     |nx ρ2=>exact wh_more h
     |ct ρ2=>exact wh_more h
     |bk ρ2=>exact h
     |rt v=>exact h
end L2
namespace L2
open Erl (Ed Tb look put rel rnd iter Good)
noncomputable def kvP (kv:Str×Int):Key×PV:=(.inr kv.1,.int kv.2)
theorem val_tb (l:Tb Str) (q:Str):valP (l.map kvP) (.inr q)=(look l q).map PV.int:=by
 unfold valP look
 rw[List.find?_map,Option.map_map,Option.map_map]
 have:((fun kv:Key×PV=>decide (kv.1= .inr q))∘kvP)=fun c:Str×Int=>decide (c.1=q):=by
  funext c
  show decide ((Sum.inr c.1:Key)= .inr q)=_
  rw[decide_eq_decide]
  exact⟨fun z=>by cases z;rfl,fun z=>by rw[z]⟩
 rw[this]
 rfl
theorem put_kv (l:Tb Str) (q:Str) (v:Int):putP (l.map kvP) (.inr q) (.int v)=(put l q v).map kvP:=by
 unfold putP put
 have:((l.map kvP).any fun kv=>decide (kv.1= .inr q))=l.any fun x=>decide (x.1=q):=by
  rw[List.any_map]
  congr 1
  funext c
  show decide ((Sum.inr c.1:Key)= .inr q)=_
  rw[decide_eq_decide]
  exact⟨fun z=>by cases z;rfl,fun z=>by rw[z]⟩
 rw[this]
 cases e:l.any fun x=>decide (x.1=q) with
 |true=>
  rw[if_pos rfl,if_pos rfl,List.map_map,List.map_map]
  refine List.map_congr_left fun x _=>?_
  show (if(Sum.inr x.1:Key)= .inr q then _ else _)=kvP (if x.1=q then(x.1,v) else x)
  by_cases h:x.1=q
  ·rw[if_pos h,if_pos (by rw[h])]
   rfl
  ·rw[if_neg h,if_neg (fun z=>h (Sum.inr.inj z))]
 |false=>
  rw[if_neg (by simp),if_neg (by simp),List.map_append]
  rfl
theorem din_tb (neg:Bool) (l:Tb Str) (q:Str):dinO neg (.str q) (.dct (l.map kvP))= .ret (.bl ((look l q).isSome !=neg)):=by
 show M.ret (PV.bl ((valP (l.map kvP) (.inr q)).isSome !=neg))=_
 rw[val_tb,Option.isSome_map]
theorem dget_tb (h:look l q=some v):dgetO (.dct (l.map kvP)) (.str q)= .ret (.int v):=by
 show M.ofO (valP (l.map kvP) (.inr q))=_
 rw[val_tb,h]
 rfl
def Keys (p:Str) (E:List (Ed Str)) (l:Tb Str):Prop:= ∀ x∈l.map (·.1),x=p∨x∈E.map (·.e)
theorem put_keys (h:Keys p E l) (hq:q∈E.map (·.e)):Keys p E (put l q v):=by
 intro x hx
 unfold put at hx
 split at hx
 ·rw[List.map_map] at hx
  obtain⟨y,hy,rfl⟩:=List.mem_map.mp hx
  have:((fun x:Str×Int=>x.1)∘fun kv=>if kv.1=q then(kv.1,v) else kv) y=y.1:=by
   show (if y.1=q then(y.1,v) else y).1=y.1
   split<;>rfl
  rw[this]
  exact h _ (List.mem_map_of_mem hy)
 ·rw[List.map_append,List.mem_append] at hx
  rcases hx with hx|hx
  ·exact h x hx
  ·have:x=q:=by simpa using hx
   rw[this];exact .inr hq
theorem rel_keys (h:Keys p E l) (hd:d∈E):Keys p E (rel d l):=by
 rcases Erl.rel_cases d l with e|⟨u,v,_,_,e,_⟩
 ·rw[e];exact h
 ·rw[e];exact put_keys h (List.mem_map_of_mem hd)
theorem fold_keys: ∀ (E':List (Ed Str)) (l:Tb Str),(∀ d∈E',d∈E)→Keys p E l→Keys p E (E'.foldl (fun l d=>rel d l) l)
 |[],l,_,h=>h
 |d::E',l,hs,h=>fold_keys E' _ (fun x hx=>hs x (List.mem_cons_of_mem _ hx)) (rel_keys h (hs d List.mem_cons_self))
theorem iter_keys: ∀ k,Keys p E (iter E k [(p,t)])
 |0=>fun x hx=>by
  have:x=p:=by simpa[iter] using hx
  exact .inl this
 |k+1=>fold_keys E _ (fun d h=>h) (iter_keys k)
theorem keys_len (nd:Erl.Nd l) (h:Keys p E l):l.length≤E.length+1:=by
 have:=nodup_len (l.map fun x:Str×Int=>x.1) (p::E.map fun x:Ed Str=>x.e) nd fun x hx=>by
  rcases h x hx with z|z
  ·rw[z];exact List.mem_cons_self
  ·exact List.mem_cons_of_mem _ z
 simpa using this
end L2
namespace L2
theorem lc_as (ρ':PEnv) (h:mi ρ= .ret l) (hl:l.length≤100000) (hc:capP js ρ=ρ'):mkLC js mi bd tt te ρ=lcM bd tt te l ρ':=by rw[lc_at h hl,hc]
end L2
end
section
open PySem PySem.Spec PyProof.Rows
namespace L2
end L2
namespace L2
theorem forL {mb:PEnv→M Fl} {f:β→PV} {full:List β} {Iv:List β→PEnv→Prop} (hb: ∀ q done rest ρ,full=done++q::rest→Iv done ρ→Gen (mb (ρ.set k (.val (f q)))) c fun fl=> ∃ ρ',fl= .nx ρ'∧Iv (done++[q]) ρ'): ∀ (l done:List β) (ρ:PEnv),full=done++l→Iv done ρ→Gen (forP (bindN k) mb (l.map f) ρ) (l.length * c) fun fl=> ∃ ρ',fl= .nx ρ'∧Iv full ρ'
 |[],done,ρ,hl,h=>Gen.le (Gen.ret ⟨ρ,rfl,by rw[hl,List.append_nil];exact h⟩) (by simp)
 |y::l,done,ρ,hl,h=>by
  rw[List.map_cons]
  unfold forP
  simp only[bindN,rZ]
  refine Gen.le (Gen.bind (hb y done l ρ hl h) (d:=l.length * c) fun fl hf=>?_) (by rw[List.length_cons,Nat.succ_mul];lia)
  obtain⟨ρ',rfl,h'⟩:=hf
  exact forL hb l (done++[y]) ρ' (by rw[hl];simp) h'
theorem intsP_map (n:Nat):intsP 0 n=(List.range n).map fun k:Nat=>PV.int k:=by
 unfold intsP
 refine List.map_congr_left fun k _=>?_
 congr 1
 lia
end L2
namespace L2
end L2
namespace L2
end L2
namespace L2
theorem for_pre {bd:PV→PEnv→M PEnv} {mb:PEnv→M Fl} {f:β→PV} {full:List β} {R:List β→PEnv→Prop} (k: ∀ y done rest ρ,full=done++y::rest→R done ρ→∃ ρ1 ρ2,bd (f y) ρ= .ret ρ1∧mb ρ1= .ret (.nx ρ2)∧R (done++[y]) ρ2): ∀ (l done:List β) (ρ:PEnv),full=done++l→R done ρ→∃ ρ',forP bd mb (l.map f) ρ= .ret (.nx ρ')∧R full ρ'
 |[],done,ρ,hl,h=>⟨ρ,rfl,by rw[hl,List.append_nil];exact h⟩
 |y::l,done,ρ,hl,h=>by
  obtain⟨ρ1,ρ2,e1,e2,h2⟩:=k y done l ρ hl h
  obtain⟨ρ',e3,h3⟩:=for_pre k l (done++[y]) ρ2 (by rw[hl];simp) h2
  refine⟨ρ',?_,h3⟩
  rw[List.map_cons]
  unfold forP
  rw[e1,rZ,e2,rZ]
  exact e3
end L2
namespace L2
theorem lst_r (h:m ρ= .ret l):lstV m ρ= .ret (.lst l):=by unfold lstV;rw[h];rfl
end L2
end
namespace L2
open Ent (val un)
end L2
namespace K45
open L2
open L2.Ent (val un)
noncomputable def top (i : Nat) : Stmt := PySem.Challenge.pw_homeslopes_k45_follows.main.body.getD i (.Pass ⟨0, 0, 0, 0⟩)
abbrev s_way_named : Stmt := top 1
theorem sc_way_named : FnScope ["hill", "name", "way"] ["hill", "name"] (defScope s_way_named) := ⟨rfl, rfl, rfl, by decide +kernel, rfl, by decide +kernel, by decide +kernel⟩
abbrev s_first_entry : Stmt := top 3
theorem sc_first_entry : FnScope ["pairs", "t", "a", "b"] ["pairs", "t"] (defScope s_first_entry) := ⟨rfl, rfl, rfl, by decide +kernel, rfl, by decide +kernel, by decide +kernel⟩
abbrev s_reached : Stmt := top 4
theorem sc_reached : FnScope ["going", "dark", "place", "t", "came", "again", "w", "start", "end", "n", "pairs", "entered"] ["going", "dark", "place", "t"] (defScope s_reached) := ⟨rfl, rfl, rfl, by decide +kernel, rfl, by decide +kernel, by decide +kernel⟩
abbrev s_patrol_pace : Stmt := top 6
theorem sc_patrol_pace : FnScope ["way"] ["way"] (defScope s_patrol_pace) := ⟨rfl, rfl, rfl, by decide +kernel, rfl, by decide +kernel, by decide +kernel⟩
abbrev s_moves : Stmt := top 7
theorem sc_moves : FnScope ["hill", "place", "to", "end", "going", "came"] ["hill", "place", "to"] (defScope s_moves) := ⟨rfl, rfl, rfl, by decide +kernel, rfl, by decide +kernel, by decide +kernel⟩
abbrev s_follows : Stmt := top 8
theorem sc_follows : FnScope ["hill", "one", "other", "way", "between"] ["hill", "one", "other"] (defScope s_follows) := ⟨rfl, rfl, rfl, by decide +kernel, rfl, by decide +kernel, by decide +kernel⟩
abbrev s_law_pot : Stmt := top 10
theorem sc_law_pot : FnScope ["_law_script", "_law_seed", "_law_k", "_law_cell"] ["_law_script"] (defScope s_law_pot) := ⟨rfl, rfl, rfl, by decide +kernel, rfl, by decide +kernel, by decide +kernel⟩
abbrev s_law_take : Stmt := top 11
theorem sc_law_take : FnScope ["_law_pot_here", "_law_many", "_law_number", "_law_high"] ["_law_pot_here", "_law_many"] (defScope s_law_take) := ⟨rfl, rfl, rfl, by decide +kernel, rfl, by decide +kernel, by decide +kernel⟩
abbrev s_law_names : Stmt := top 12
theorem sc_law_names : FnScope ["_law_pot_here", "_law_many", "_law_letters", "_law_code", "_law_longest", "_law_names_here", "_law_k", "_law_length", "_law_name", "_law_three"] ["_law_pot_here", "_law_many"] (defScope s_law_names) := ⟨rfl, rfl, rfl, by decide +kernel, rfl, by decide +kernel, by decide +kernel⟩
abbrev s_law_pace : Stmt := top 13
theorem sc_law_pace : FnScope ["_law_pot_here", "_law_dark", "_law_kind"] ["_law_pot_here", "_law_dark"] (defScope s_law_pace) := ⟨rfl, rfl, rfl, by decide +kernel, rfl, by decide +kernel, by decide +kernel⟩
abbrev s_law_hill : Stmt := top 14
theorem sc_law_hill : FnScope ["_law_pot_here", "_law_many", "_law_dark", "_law_names_here", "_law_spots", "_law_ways", "_law_name", "_law_kind", "_law_at", "_law_to"] ["_law_pot_here"] (defScope s_law_hill) := ⟨rfl, rfl, rfl, by decide +kernel, rfl, by decide +kernel, by decide +kernel⟩
abbrev s_law_least : Stmt := top 15
theorem sc_law_least : FnScope ["_law_way"] ["_law_way"] (defScope s_law_least) := ⟨rfl, rfl, rfl, by decide +kernel, rfl, by decide +kernel, by decide +kernel⟩
abbrev s_law_moves : Stmt := top 16
theorem sc_law_moves : FnScope ["_law_hill_here", "_law_place", "_law_found", "_law_turn", "_law_way", "_law_moment"] ["_law_hill_here", "_law_place"] (defScope s_law_moves) := ⟨rfl, rfl, rfl, by decide +kernel, rfl, by decide +kernel, by decide +kernel⟩
abbrev s_law_slope : Stmt := top 17
theorem sc_law_slope : FnScope ["_law_hill_here", "_law_look"] ["_law_hill_here", "_law_look"] (defScope s_law_slope) := ⟨rfl, rfl, rfl, by decide +kernel, rfl, by decide +kernel, by decide +kernel⟩
abbrev s_law_behind : Stmt := top 18
theorem sc_law_behind : FnScope ["_law_hill_here", "_law_looks_here", "_law_found", "_law_one", "_law_way", "_law_spots", "_law_free", "_law_starts", "_law_row", "_law_k", "_law_other"] ["_law_hill_here", "_law_looks_here"] (defScope s_law_behind) := ⟨rfl, rfl, rfl, by decide +kernel, rfl, by decide +kernel, by decide +kernel⟩
abbrev s_law_looks : Stmt := top 19
theorem sc_law_looks : FnScope ["_law_pot_here", "_law_hill_here", "_law_slopes", "_law_looks_here", "_law_many", "_law_span", "_law_k", "_law_again", "_law_look"] ["_law_pot_here", "_law_hill_here"] (defScope s_law_looks) := ⟨rfl, rfl, rfl, by decide +kernel, rfl, by decide +kernel, by decide +kernel⟩
abbrev s_law : Stmt := top 20
theorem sc_law : FnScope ["_law_script", "_law_pot_here", "_law_hill_here", "_law_looks_here", "_law_rows", "_law_turn", "_law_at", "_law_to", "_law_one", "_law_other", "_law_found", "_law_way", "_law_spots", "_law_start", "_law_first"] ["_law_script"] (defScope s_law) := ⟨rfl, rfl, rfl, by decide +kernel, rfl, by decide +kernel, by decide +kernel⟩
structure Txt (K : PySem.W.Frag) (mg : Str → Option Value) (a_way_named a_first_entry a_reached a_patrol_pace a_moves a_follows awpot awtake awnames awpace awhill awleast awmoves awslope awbehind awlooks a_law  : Addr) (d_way_named d_first_entry d_reached d_patrol_pace d_moves d_follows dwpot dwtake dwnames dwpace dwhill dwleast dwmoves dwslope dwbehind dwlooks d_law : FuncData) : Prop where
  F_way_named : Fun K "way_named" "way_named" s_way_named a_way_named d_way_named
  m_way_named : mg "way_named" = some (.ref a_way_named)
  b_way_named : Binds K d_way_named ["hill", "name"] []
  F_first_entry : Fun K "first_entry" "first_entry" s_first_entry a_first_entry d_first_entry
  m_first_entry : mg "first_entry" = some (.ref a_first_entry)
  b_first_entry : Binds K d_first_entry ["pairs", "t"] []
  F_reached : Fun K "reached" "reached" s_reached a_reached d_reached
  m_reached : mg "reached" = some (.ref a_reached)
  b_reached : Binds K d_reached ["going", "dark", "place", "t"] []
  F_patrol_pace : Fun K "patrol_pace" "patrol_pace" s_patrol_pace a_patrol_pace d_patrol_pace
  m_patrol_pace : mg "patrol_pace" = some (.ref a_patrol_pace)
  b_patrol_pace : Binds K d_patrol_pace ["way"] []
  F_moves : Fun K "moves" "moves" s_moves a_moves d_moves
  m_moves : mg "moves" = some (.ref a_moves)
  b_moves : Binds K d_moves ["hill", "place", "to"] []
  F_follows : Fun K "follows" "follows" s_follows a_follows d_follows
  m_follows : mg "follows" = some (.ref a_follows)
  b_follows : Binds K d_follows ["hill", "one", "other"] []
  F_law_pot : Fun K "_law_pot" "_law_pot" s_law_pot awpot dwpot
  m_law_pot : mg "_law_pot" = some (.ref awpot)
  b_law_pot : Binds K dwpot ["_law_script"] []
  F_law_take : Fun K "_law_take" "_law_take" s_law_take awtake dwtake
  m_law_take : mg "_law_take" = some (.ref awtake)
  b_law_take : Binds K dwtake ["_law_pot_here", "_law_many"] []
  F_law_names : Fun K "_law_names" "_law_names" s_law_names awnames dwnames
  m_law_names : mg "_law_names" = some (.ref awnames)
  b_law_names : Binds K dwnames ["_law_pot_here", "_law_many"] []
  F_law_pace : Fun K "_law_pace" "_law_pace" s_law_pace awpace dwpace
  m_law_pace : mg "_law_pace" = some (.ref awpace)
  b_law_pace : Binds K dwpace ["_law_pot_here", "_law_dark"] []
  F_law_hill : Fun K "_law_hill" "_law_hill" s_law_hill awhill dwhill
  m_law_hill : mg "_law_hill" = some (.ref awhill)
  b_law_hill : Binds K dwhill ["_law_pot_here"] []
  F_law_least : Fun K "_law_least" "_law_least" s_law_least awleast dwleast
  m_law_least : mg "_law_least" = some (.ref awleast)
  b_law_least : Binds K dwleast ["_law_way"] []
  F_law_moves : Fun K "_law_moves" "_law_moves" s_law_moves awmoves dwmoves
  m_law_moves : mg "_law_moves" = some (.ref awmoves)
  b_law_moves : Binds K dwmoves ["_law_hill_here", "_law_place"] []
  F_law_slope : Fun K "_law_slope" "_law_slope" s_law_slope awslope dwslope
  m_law_slope : mg "_law_slope" = some (.ref awslope)
  b_law_slope : Binds K dwslope ["_law_hill_here", "_law_look"] []
  F_law_behind : Fun K "_law_behind" "_law_behind" s_law_behind awbehind dwbehind
  m_law_behind : mg "_law_behind" = some (.ref awbehind)
  b_law_behind : Binds K dwbehind ["_law_hill_here", "_law_looks_here"] []
  F_law_looks : Fun K "_law_looks" "_law_looks" s_law_looks awlooks dwlooks
  m_law_looks : mg "_law_looks" = some (.ref awlooks)
  b_law_looks : Binds K dwlooks ["_law_pot_here", "_law_hill_here"] []
  F_law : Fun K "law" "law" s_law a_law d_law
  m_law : mg "law" = some (.ref a_law)
  b_law : Binds K d_law ["_law_script"] []
  m_len : mg "len" = none
  m_abs : mg "abs" = none
  m_isinstance : mg "isinstance" = none
  m_range : mg "range" = none
  m_bool : mg "bool" = none
  m_int : mg "int" = none
  m_tuple : mg "tuple" = none
  m_max : mg "max" = none
  m_min : mg "min" = none
  m_enumerate : mg "enumerate" = none
  m_sum : mg "sum" = none
abbrev famQ (K : PySem.W.Frag) : Fam := famPoT K []
theorem ok_take {P : Program} {w : World} {K : PySem.W.Frag} {mg : Str → Option Value} {base : Heap} {a_way_named a_first_entry a_reached a_patrol_pace a_moves a_follows awpot awtake awnames awpace awhill awleast awmoves awslope awbehind awlooks a_law  : Addr} {d_way_named d_first_entry d_reached d_patrol_pace d_moves d_follows dwpot dwtake dwnames dwpace dwhill dwleast dwmoves dwslope dwbehind dwlooks d_law : FuncData} (T : Txt K mg a_way_named a_first_entry a_reached a_patrol_pace a_moves a_follows awpot awtake awnames awpace awhill awleast awmoves awslope awbehind awlooks a_law  d_way_named d_first_entry d_reached d_patrol_pace d_moves d_follows dwpot dwtake dwnames dwpace dwhill dwleast dwmoves dwslope dwbehind dwlooks d_law) : FnOk P w K mg base CX0 1 awtake dwtake ["_law_pot_here", "_law_many"] spTake := by
  refine T.F_law_take.ok sc_law_take (fun vs H Q E h => ?_) (fun cdv A outer s H vs Q E hr h => ?_)
  · obtain ⟨a, c, m, rfl, _⟩ := h
    rfl
  obtain ⟨a, c, m, rfl, pot, hm0, hm1, q⟩ := h
  have hac : a ≠ c := pot.ne
  obtain ⟨sd, k, e1, e2, s0, s1⟩ := pot
  have hu0 := Nat.lt_of_succ_lt (hu_of hr)
  let D : Ends := { nx := fun _ _ => False, rt := fun v H' => ∃ ns' : List Int, H' c = some (.lst (ns'.map V.int)) ∧ (∀ x ∈ ns', 0 ≤ x) ∧ ns'.length ≤ 63 ∧ Q v (upd H' c (potO c)) }
  have fin : ∀ (H' : Hp) (sd' k' : Int) (ns : List Int) (d : Int), InPot H a c sd' k' ns H' → 0 ≤ sd' → sd' < 2305843009213693951 → 0 ≤ d → d < m → D.rt (.int d) H' := fun H' sd' k' ns d i h1 h2 h3 h4 =>
    ⟨ns, i.h2, i.nn, i.hl, q d _ h3 h4 (fun p o np hp => by
      by_cases e : p = c
      · subst e
        rw [upd_same, ← hp, e2]
      · rw [upd_ne e]; exact i.st p o np e hp) ⟨sd', k', by rw [upd_ne hac]; exact i.h1, upd_same, h1, h2⟩⟩
  have tail : ∃ t, PSs (cxOf CX0 P w K mg base ["_law_pot_here", "_law_many", "_law_number", "_law_high"] "_law_take" (defScope s_law_take) awtake cdv A outer s H E).nox ((defBody s_law_take).drop 1) t ∧ ∀ (ns : List Int) (H' : Hp), InPot H a c sd k ns H' → t D [some (.ref a), some (.int m), none, none] H' := by
    refine ⟨_, (pss_cons (ps_if (pt_cmpR (op_ne_nil hu0) (pe_ix ix_list (pv 0) pe_int (fun _ _ => rfl)) (pe_lst pa_nil) (nomark _)) (pss_cons (ps_set (i := 2) sc_law_take.nd rfl (Or.inl rfl) (pe_ix ix_list (pe_ix ix_list (pv 0) pe_int (fun _ _ => rfl)) pe_int (fun _ _ => rfl)))
    (pss_cons (ps_asg (pe_op op_fdiv (pv 2) (pv 1)) (pg_sub (pe_ix ix_list (pv 0) pe_int (fun _ _ => rfl)) pe_int set_list))
    (pss_one (ps_ret (pe_op op_mod (pv 2) (pv 1)))))) pss_nil)
    (pss_cons (ps_asg (pe_op op_add (pe_ix ix_list (pv 0) pe_int (fun _ _ => rfl)) pe_int) (pg_sub (pv 0) pe_int set_list))
    (pss_cons (ps_asg (pe_op op_add (pe_op op_add (pe_op op_mul (pe_ix ix_list (pv 0) pe_int (fun _ _ => rfl)) pe_int) (pe_op op_mul pe_int (pe_ix ix_list (pv 0) pe_int (fun _ _ => rfl)))) pe_int) (pg_sub (pv 0) pe_int set_list))
    (pss_cons (ps_asg (pe_op op_mod (pe_ix ix_list (pv 0) pe_int (fun _ _ => rfl)) pe_int) (pg_sub (pv 0) pe_int set_list))
    (pss_cons (ps_set (i := 3) sc_law_take.nd rfl (Or.inl rfl) (pe_op op_fdiv (pe_ix ix_list (pv 0) pe_int (fun _ _ => rfl)) pe_int))
    (pss_one (ps_ret (pe_op op_mod (pe_op op_add (pe_op op_fdiv (pe_op op_mul (pv 3) (pe_op op_add (pe_op op_mod (pv 3) pe_int) pe_int)) pe_int) (pe_op op_fdiv (pv 3) pe_int)) (pv 1))))))))), fun ns H' i => ?_⟩
    refine ⟨_, rfl, a, _, _, _, rfl, rfl, SqL.of i.h1, rfl, (by show 0 ≤ sizeLine; exact Nat.zero_le _), fun u hu => ?_⟩
    have i := i.new (o := .lst []) hu
    refine ⟨c, u, _, rfl, rfl, SqL.of i.h2, SqL.of upd_same, _, rfl, ?_⟩
    refine ite2 (fun c1 => ?_) (fun c1 => ?_)
    · match ns, i, c1 with
      | x :: ns, i, _ =>
      have x0 : 0 ≤ x := i.nn x (by simp)
      refine ⟨_, rfl, a, _, _, _, rfl, rfl, SqL.of i.h1, rfl, c, _, _, _, rfl, rfl, SqL.of i.h2, at0 x ns, ?_⟩
      refine ⟨_, rfl, _, rfl, _, _, rfl, rfl, ⟨hm0, hm1⟩, _, rfl, a, _, _, _, rfl, rfl, SqL.of i.h1, rfl, c, _, _, _, rfl, rfl, i.h2, ix0 x ns, ?_⟩
      have i := i.setC (ns' := x / m :: ns) (o := .lst (V.int (x / m) :: ns.map V.int)) hac rfl (fun y hy => by
        rcases List.mem_cons.mp hy with rfl | hy
        · exact Int.ediv_nonneg x0 (by omega)
        · exact i.nn y (List.mem_cons_of_mem _ hy)) (by simpa using i.hl)
      refine ⟨_, rfl, _, rfl, _, _, rfl, rfl, hm0, ?_⟩
      exact fin _ sd k _ _ i s0 s1 (Int.emod_nonneg _ (by omega)) (Int.emod_lt_of_pos _ hm0)
    · refine ⟨_, rfl, a, _, _, _, rfl, rfl, SqL.of i.h1, rfl, _, _, rfl, rfl, _, rfl, a, _, _, _, rfl, rfl, i.h1, rfl, ?_⟩
      have i := i.setA (k' := k + 1) (sd' := sd) (o := .lst [.ref c, .int sd, .int (k + 1)]) hac rfl
      refine ⟨_, rfl, a, _, _, _, rfl, rfl, SqL.of upd_same, rfl, _, _, rfl, rfl, mul_small (by decide) (by decide), _, rfl, a, _, _, _, rfl, rfl, SqL.of upd_same, rfl, _, _, rfl, rfl, mul_smallL (by decide) (by decide), _, _, rfl, rfl, _, _, rfl, rfl, _, rfl, a, _, _, _, rfl, rfl, upd_same, rfl, ?_⟩
      have i := i.setA (k' := k + 1) (sd' := sd * 1442695040888963407 + 2685821657736338717 * (k + 1) + 3) (o := .lst [.ref c, .int (sd * 1442695040888963407 + 2685821657736338717 * (k + 1) + 3), .int (k + 1)]) hac rfl
      refine ⟨_, rfl, a, _, _, _, rfl, rfl, SqL.of upd_same, rfl, _, _, rfl, rfl, (by show (0 : Int) < _; decide), _, rfl, a, _, _, _, rfl, rfl, upd_same, rfl, ?_⟩
      have i := i.setA (k' := k + 1) (sd' := (sd * 1442695040888963407 + 2685821657736338717 * (k + 1) + 3) % 2305843009213693951) (o := .lst [.ref c, .int ((sd * 1442695040888963407 + 2685821657736338717 * (k + 1) + 3) % 2305843009213693951), .int (k + 1)]) hac rfl
      have m0 := Int.emod_nonneg (sd * 1442695040888963407 + 2685821657736338717 * (k + 1) + 3) (show (2305843009213693951 : Int) ≠ 0 by decide)
      have m1 := Int.emod_lt_of_pos (sd * 1442695040888963407 + 2685821657736338717 * (k + 1) + 3) (show (0 : Int) < 2305843009213693951 by decide)
      refine ⟨_, rfl, a, _, _, _, rfl, rfl, SqL.of upd_same, rfl, _, _, rfl, rfl, ⟨by decide, by decide⟩, ?_⟩
      refine ⟨_, rfl, _, rfl, _, _, rfl, rfl, (by show (0 : Int) < _; decide), _, _, rfl, rfl, _, _, rfl, rfl, mul_small ?_ ?_, _, _, rfl, rfl, ⟨by decide, by decide⟩, _, rfl, _, _, rfl, rfl, ⟨by decide, by decide⟩, _, _, rfl, rfl, _, rfl, _, _, rfl, rfl, hm0, ?_⟩
      · have := Int.emod_nonneg ((sd * 1442695040888963407 + 2685821657736338717 * (k + 1) + 3) % 2305843009213693951 / 4194304) (show (16381 : Int) ≠ 0 by decide)
        omega
      · have := Int.emod_lt_of_pos ((sd * 1442695040888963407 + 2685821657736338717 * (k + 1) + 3) % 2305843009213693951 / 4194304) (show (0 : Int) < 16381 by decide)
        have e : (2 : Int) ^ 63 = 9223372036854775808 := by decide
        rw [e]
        omega
      · exact fin _ _ _ _ _ i m0 m1 (Int.emod_nonneg _ (by omega)) (Int.emod_lt_of_pos _ hm0)
  obtain ⟨tt, dt, ht⟩ := tail
  refine ⟨_, pss_open c (pss_cons (ps_while PassesOwn.never (PW.pt (pw_and (pt_cmpR (op_ne_nil hu0) (pe_ix ix_list (pv 0) pe_int (fun _ _ => rfl)) (pe_lst pa_nil) (nomark _)) (pw_and1 (pt_cmpR op_eq (pe_ix ix_list (pe_ix ix_list (pv 0) pe_int (fun _ _ => rfl)) pe_int (fun _ _ => rfl)) pe_int (nomark _))))) (pss_one (ps_expr (pe_bm PySem.F.plainAttrs_list PySem.F.slot_list_pop PySem.F.type_list_pop mt_popAt (pe_ix ix_list (pv 0) pe_int (fun _ _ => rfl)) (pa_cons pe_int pa_nil))))) dt), e2, fun ns nn hl => ?_⟩
  refine ⟨fun l σ H' => ∃ ns, l = ns.length ∧ σ = [some (.ref a), some (.int m), none, none] ∧ InPot H a c sd k ns H', ⟨_, ns, rfl, rfl, ⟨by rw [upd_ne hac]; exact e1, upd_same, nn, hl, fun p o _ n2 e => by rw [upd_ne n2]; exact e⟩⟩, ?_⟩
  rintro l σ H' ⟨ns, rfl, rfl, i⟩
  refine ⟨_, rfl, a, _, _, _, rfl, rfl, SqL.of i.h1, rfl, (by show 0 ≤ sizeLine; exact Nat.zero_le _), fun u hu => ?_⟩
  have i := i.new (o := .lst []) hu
  refine ⟨c, u, _, rfl, rfl, SqL.of i.h2, SqL.of upd_same, _, rfl, ?_⟩
  refine ite2 (fun c1 => ?_) (fun c1 => ?_)
  · match ns, i, c1 with
    | x :: ns, i, _ =>
    refine ⟨_, rfl, a, _, _, _, rfl, rfl, SqL.of i.h1, rfl, c, _, _, _, rfl, rfl, SqL.of i.h2, at0 x ns, rfl, _, rfl, ?_⟩
    refine ite2 (fun c2 => ?_) (fun c2 => ?_)
    · refine ⟨fun σ' H' => ∃ ns', ns'.length < (x :: ns).length ∧ σ' = [some (.ref a), some (.int m), none, none] ∧ InPot H a c sd k ns' H', fun σ' H' ⟨ns', h1, h2, h3⟩ => ⟨_, h1, ns', rfl, h2, h3⟩, ?_⟩
      refine ⟨_, rfl, a, _, _, _, rfl, rfl, SqL.of i.h1, rfl, ?_⟩
      refine ⟨.inl ⟨rfl, _, SqL.of i.h2⟩, c, _, 0, 0, .int x, rfl, rfl, i.h2, by decide, by decide, si0 x ns, rfl, ns, by simp, rfl, ?_⟩
      exact i.setC hac rfl (fun y hy => i.nn y (List.mem_cons_of_mem _ hy)) (by have := i.hl; simp at this; omega)
    · exact ht _ _ i
  · exact ht _ _ i
theorem ok_pot {P : Program} {w : World} {K : PySem.W.Frag} {mg : Str → Option Value} {base : Heap} {a_way_named a_first_entry a_reached a_patrol_pace a_moves a_follows awpot awtake awnames awpace awhill awleast awmoves awslope awbehind awlooks a_law  : Addr} {d_way_named d_first_entry d_reached d_patrol_pace d_moves d_follows dwpot dwtake dwnames dwpace dwhill dwleast dwmoves dwslope dwbehind dwlooks d_law : FuncData} (T : Txt K mg a_way_named a_first_entry a_reached a_patrol_pace a_moves a_follows awpot awtake awnames awpace awhill awleast awmoves awslope awbehind awlooks a_law  d_way_named d_first_entry d_reached d_patrol_pace d_moves d_follows dwpot dwtake dwnames dwpace dwhill dwleast dwmoves dwslope dwbehind dwlooks d_law) : FnOk P w K mg base CX0 1 awpot dwpot ["_law_script"] (spPot K) := by
  refine T.F_law_pot.ok sc_law_pot (fun vs H Q E h => ?_) (fun cdv A outer s H vs Q E hr h => ?_)
  · obtain ⟨a, ns, rfl, _⟩ := h
    rfl
  obtain ⟨a, ns, rfl, hS, h63, q⟩ := h
  have hu0 := Nat.lt_of_succ_lt (hu_of hr)
  refine ⟨_, pss_shut (pss_cons (ps_set (i := 1) sc_law_pot.nd rfl (Or.inl rfl) pe_int)
    (pss_cons (ps_for PassesOwn.never rfl (pi_enumT rfl T.m_enumerate PyProof.Rows.boot_enumerate (pa_cons (pe_slice sl_list (pv 0) po_none (po_some pe_int)) pa_nil)) (pg_tup rfl (pgs_cons (pg_name (i := 2) sc_law_pot.nd rfl (Or.inl rfl)) (pgs_cons (pg_name (i := 3) sc_law_pot.nd rfl (Or.inl rfl)) pgs_nil))) (pss_one (ps_set (i := 1) sc_law_pot.nd rfl (Or.inl rfl) (pe_op op_mod (pe_op op_mul (pe_op op_add (pe_op op_add (pe_op op_add (pe_op op_mul (pv 1) pe_int) (pe_op op_mod (pv 3) (pe_op op_powB pe_int pe_int))) (pe_op op_mul pe_int (pv 2))) pe_int) pe_int) pe_int))))
    (pss_one (ps_ret (pe_lst (pa_cons (pe_lc (LcScope.mk2 (N := ["_law_cell"]) (js := [none]) (defScope s_law_pot) ["_law_script", "_law_seed", "_law_k", "_law_cell"] rfl rfl (by decide +kernel)) rfl (pi_list (pe_slice sl_list (pv 0) po_none (po_some pe_int))) (fun _ _ _ _ => (pg_name (i := 0) (by decide : (["_law_cell"] : List Str).Nodup) rfl (Or.inl rfl))) (fun _ _ _ _ => (pts_one (pt_cmpR op_ge (pe_callB call_abs rfl T.m_abs PyProof.Rows.boot_abs (pa_cons (pv 0) pa_nil)) (pe_op op_powB pe_int pe_int) (nomark _)))) (fun _ _ _ _ => (pe_op op_mod (pe_callB call_abs rfl T.m_abs PyProof.Rows.boot_abs (pa_cons (pv 0) pa_nil)) (pe_op op_powB (pe_op op_powB pe_int pe_int) pe_int)))) (pa_cons (pv 1) (pa_cons pe_int pa_nil)))))))), ?_⟩
  refine ⟨_, rfl, 63, rfl, a, _, rfl, hS, fun u hu => ?_⟩
  rw [cut63 ns]
  have g2 : Same H (upd H u (.lst ((ns.take 63).map V.int))) := same_new hu _
  have hu2 : upd H u (.lst ((ns.take 63).map V.int)) u = some (.lst ((ns.take 63).map V.int)) := upd_same
  generalize upd H u (.lst ((ns.take 63).map V.int)) = H2 at g2 hu2
  refine ⟨u, _, rfl, SqL.of hu2, ?_⟩
  have isInt : ∀ (i : Nat) (x : V), ((ns.take 63).map V.int)[i]? = some x → ∃ y : Int, x = .int y := fun i x e => by
    have := List.mem_of_getElem? e
    obtain ⟨y, _, z⟩ := List.mem_map.mp this
    exact ⟨y, z.symm⟩
  refine for_enum (xs := (ns.take 63).map V.int) (fun i σ H' => ∃ (sd : Int) (v2 v3 : Option V), σ = [some (.ref a), some (.int sd), v2, v3] ∧ Same H2 H' ∧ 0 ≤ sd ∧ sd < 2305843009213693951) ⟨15485863, none, none, rfl, fun _ _ h => h, by decide, by decide⟩ ?_ ?_ ?_
  · rintro i σ H' _ ⟨sd, v2, v3, _, sm, _⟩
    exact SqL.of (sm _ _ hu2)
  · rintro i x σ H' T hx hT ⟨sd, v2, v3, rfl, sm, s0, s1⟩
    obtain ⟨y, rfl⟩ := isInt i x hx
    have b48 : ((0 : Int) ≤ 48) ∧ (Builtin.Int.intBits 10 : Int) * 48 ≤ 2 ^ 27 := by decide
    have p48 : (0 : Int) < 10 ^ Int.toNat 48 := by decide +kernel
    refine ⟨T, _, rfl, SqT.of upd_same, rfl, _, _, rfl, _, _, rfl, rfl, ?_⟩
    refine ⟨_, rfl, _, _, rfl, rfl, mul_small (by decide) (by decide), _, rfl, _, _, rfl, rfl, b48, _, _, rfl, rfl, p48, _, _, rfl, rfl, _, rfl, _, _, rfl, rfl, mul_smallL (by decide) (by decide), _, _, rfl, rfl, _, _, rfl, rfl, _, _, rfl, rfl, mul_small (by decide) (by decide), _, _, rfl, rfl, (by show (0 : Int) < _; decide), ?_⟩
    exact ⟨_, _, _, rfl, sm.trans (same_new hT _), Int.emod_nonneg _ (by decide), Int.emod_lt_of_pos _ (by decide)⟩
  · rintro σ H' ⟨sd, v2, v3, rfl, sm, s0, s1⟩
    refine ⟨_, rfl, 63, rfl, a, _, rfl, sm.seq (g2.seq hS), fun u2 hu3 => ?_⟩
    rw [cut63 ns]
    have g3 := same_new hu3 (.lst ((ns.take 63).map V.int))
    have hu4 : upd H' u2 (.lst ((ns.take 63).map V.int)) u2 = some (.lst ((ns.take 63).map V.int)) := upd_same
    generalize upd H' u2 (.lst ((ns.take 63).map V.int)) = H3 at g3 hu4
    have b18 : ((0 : Int) ≤ 18) ∧ (Builtin.Int.intBits 10 : Int) * 18 ≤ 2 ^ 27 := by decide
    have b60 : ((0 : Int) ≤ 60) ∧ (Builtin.Int.intBits 10 : Int) * 60 ≤ 2 ^ 27 := by decide
    have b15 : ((0 : Int) ≤ 15) ∧ (Builtin.Int.intBits (10 ^ Int.toNat 60) : Int) * 15 ≤ 2 ^ 27 := by decide +kernel
    have p15 : (0 : Int) < (10 ^ Int.toNat 60) ^ Int.toNat 15 := by decide +kernel
    have hl63 : ((ns.take 63).map V.int).length ≤ 63 := by rw [List.length_map, List.length_take]; omega
    refine ⟨u2, rfl, ⟨_, SqL.of hu4⟩, fun D hD => ?_⟩
    refine lc_list (xs := (ns.take 63).map V.int) (fun i ys σ H' => ∃ (cells : List Int) (v0 : Option V), ys = cells.map V.int ∧ (∀ x ∈ cells, 0 ≤ x) ∧ cells.length ≤ i ∧ Same H3 H' ∧ σ = [v0]) ?_ ?_ ?_ ?_ ?_
    · exact ⟨[], none, rfl, fun x hx => (nomatch hx), Nat.le_refl _, same_new hD _, rfl⟩
    · rintro i ys σ H' ⟨cells, v0, _, _, _, sm, _⟩
      exact SqL.of (sm _ _ hu4)
    · rintro i x ys σ H5 hx hl hD1 ⟨cells, v0, e, nn, cl, sm, rfl⟩ kt kf ht hf
      obtain ⟨y, rfl⟩ := isInt i x hx
      refine ⟨_, rfl, y, rfl, _, _, rfl, rfl, b18, _, _, rfl, rfl, _, rfl, ?_⟩
      refine ite2 (fun c1 => ?_) (fun c1 => ?_)
      · refine ⟨_, rfl, y, rfl, _, _, rfl, rfl, b60, _, _, rfl, rfl, b15, _, _, rfl, rfl, p15, ht _ _ _ hD1 ?_⟩
        refine ⟨cells ++ [(if y < 0 then -y else y) % (10 ^ Int.toNat 60) ^ Int.toNat 15], _, by rw [e, List.map_append]; rfl, fun x hx => ?_, by simp; omega, fun b o h => ?_, rfl⟩
        · rcases List.mem_append.mp hx with z | z
          · exact nn x z
          · rw [List.mem_singleton.mp z]
            exact Int.emod_nonneg _ (Int.ne_of_gt p15)
        · rw [upd_ne (fun z => by rw [z, hD] at h; cases h)]
          exact sm _ _ h
      · exact hf _ _ hD1 ⟨cells, _, e, nn, by omega, sm, rfl⟩
    · omega
    · rintro ys σ H5 hD1 hl ⟨cells, v0, e, nn, cl, sm5, rfl⟩
      refine ⟨_, rfl, (by show 3 ≤ sizeLine; decide), fun b hb => ?_⟩
      have hbD : b ≠ D := fun z => by rw [z, hD1] at hb; cases hb
      refine ⟨D, cells, by rw [upd_ne (Ne.symm hbD), hD1, e], nn, by omega, q b D _ (fun p o hp => ?_) ⟨sd, 0, by rw [upd_ne hbD]; exact upd_same, upd_same, s0, s1⟩⟩
      have h3 : H3 p = some o := g3 _ _ (sm _ _ (g2 _ _ hp))
      rw [upd_ne (fun z => by rw [z, hD] at h3; cases h3)]
      exact same_new hb _ _ _ (sm5 _ _ h3)
def F_law_take : List PV → M PV := drawF
noncomputable def m_way_named : PEnv → M Fl := (seqP (mkFor (fun ρ => ((bin2 ixO (fun ρ => getV ρ 0) (fun _ => M.ret (.int 0))) ρ).bind iterO) (bindN 2)
    (ifP (asB (bin2 (eqO false) (bin2 ixO (fun ρ => getV ρ 2) (fun _ => M.ret (.int 0))) (fun ρ => getV ρ 1)))
    (retP (fun ρ => getV ρ 2))
    (fun ρ => M.ret (.nx ρ))))
    (retP (fun _ => M.ret .non)))
noncomputable def F_way_named : List PV → M PV := fnP 2 3 m_way_named
noncomputable def m_first_entry : PEnv → M Fl := (seqP (mkFor (fun ρ => ((fun ρ => getV ρ 0) ρ).bind iterO) (bindT [2, 3])
    (ifP (asB (bin2 ltO (fun ρ => getV ρ 1) (fun ρ => getV ρ 3)))
    (retP (fun ρ => ((consA (fun ρ => getV ρ 2) (consA (fun ρ => getV ρ 1) (fun _ => M.ret []))) ρ).bind max2O))
    (fun ρ => M.ret (.nx ρ))))
    (retP (fun _ => M.ret .non)))
noncomputable def F_first_entry : List PV → M PV := fnP 2 4 m_first_entry
noncomputable def m_reached : PEnv → M Fl := (seqP (dspP 4 (fun ρ => getV ρ 2) (fun ρ => ((consA (fun ρ => getV ρ 3) (consA (fun _ => M.ret .non) (consA (fun _ => M.ret .non) (fun _ => M.ret [])))) ρ).bind mkTup))
    (seqP (setP 5 (fun _ => M.ret (.bl true)))
    (seqP (whP (asB (fun ρ => getV ρ 5)) (seqP (setP 5 (fun _ => M.ret (.bl false)))
    (mkFor (fun ρ => ((fun ρ => getV ρ 0) ρ).bind iterO) (bindT [6, 7, 8, 9, 10])
    (seqP (setP 11 (ifV (asB (bin2 (dinO false) (fun ρ => getV ρ 7) (fun ρ => getB ρ 4))) (fun ρ => ((consA (fun ρ => getV ρ 10) (consA (bin2 ixO (bin2 dgetO (fun ρ => getB ρ 4) (fun ρ => getV ρ 7)) (fun _ => M.ret (.int 0))) (fun _ => M.ret []))) ρ).bind F_first_entry) (fun _ => M.ret .non)))
    (ifP (andP (asB (bin2 (isO true) (fun ρ => getV ρ 11) (fun _ => M.ret .non))) (asB (bin2 leOD (bin2 addO (fun ρ => getV ρ 11) (fun ρ => getV ρ 9)) (fun ρ => getV ρ 1))))
    (ifP (orP (asB (bin2 (dinO true) (fun ρ => getV ρ 8) (fun ρ => getB ρ 4))) (asB (bin2 ltO (bin2 addO (fun ρ => getV ρ 11) (fun ρ => getV ρ 9)) (bin2 ixO (bin2 dgetO (fun ρ => getB ρ 4) (fun ρ => getV ρ 8)) (fun _ => M.ret (.int 0))))))
    (seqP (dputP 4 (fun ρ => getV ρ 8) (fun ρ => ((consA (bin2 addO (fun ρ => getV ρ 11) (fun ρ => getV ρ 9)) (consA (fun ρ => ((consA (fun ρ => getV ρ 6) (consA (fun ρ => getV ρ 11) (fun _ => M.ret []))) ρ).bind mkTup) (consA (fun ρ => getV ρ 7) (fun _ => M.ret [])))) ρ).bind mkTup))
    (setP 5 (fun _ => M.ret (.bl true))))
    (fun ρ => M.ret (.nx ρ)))
    (fun ρ => M.ret (.nx ρ)))))) 1000)
    (retP (fun ρ => getV ρ 4)))))
noncomputable def F_reached : List PV → M PV := fnP 4 12 m_reached
noncomputable def m_patrol_pace : PEnv → M Fl := (retP (minDP (lstV (mkLC [none] (fun ρ => ((sl3 slE (fun ρ => getV ρ 0) (fun ρ => ((fun _ => M.ret (.int 4)) ρ).bind fun y => (intM y).bind fun i => M.ret (some i)) (fun _ => M.ret none)) ρ).bind iterO) (bindN 0) (asB (bin2 gtO (fun ρ => getV ρ 0) (fun _ => M.ret (.int 0)))) (fun ρ => getV ρ 0))) (fun _ => M.ret (.int 0))))
noncomputable def F_patrol_pace : List PV → M PV := fnP 1 1 m_patrol_pace
noncomputable def m_moves : PEnv → M Fl := (seqP (setP 3 (fun ρ => ((consA (lstV (mkLC [none] (fun ρ => ((bin2 ixO (fun ρ => getV ρ 0) (fun _ => M.ret (.int 0))) ρ).bind iterO) (bindN 0) allTs (fun ρ => ((consA (fun ρ => getV ρ 0) (fun _ => M.ret [])) ρ).bind F_patrol_pace))) (fun _ => M.ret [])) ρ).bind sumLO))
    (seqP (setP 4 (lstV (mkLC [none, some 3] (fun ρ => ((bin2 ixO (fun ρ => getV ρ 0) (fun _ => M.ret (.int 0))) ρ).bind iterO) (bindN 0) (asB (bin2 gtO (fun ρ => ((consA (fun ρ => getV ρ 0) (fun _ => M.ret [])) ρ).bind F_patrol_pace) (fun _ => M.ret (.int 0)))) (fun ρ => ((consA (bin2 ixO (fun ρ => getV ρ 0) (fun _ => M.ret (.int 0))) (consA (bin2 ixO (fun ρ => getV ρ 0) (fun _ => M.ret (.int 2))) (consA (bin2 ixO (fun ρ => getV ρ 0) (fun _ => M.ret (.int 3))) (consA (fun ρ => ((consA (fun ρ => getV ρ 0) (fun _ => M.ret [])) ρ).bind F_patrol_pace) (consA (fun ρ => ((consA (fun ρ => ((consA (fun _ => M.ret (.int 0)) (consA (fun ρ => getV ρ 1) (fun _ => M.ret []))) ρ).bind mkTup) (fun _ => M.ret [])) ρ).bind mkTup) (fun _ => M.ret [])))))) ρ).bind mkTup))))
    (seqP (setP 5 (fun ρ => ((consA (fun ρ => getV ρ 4) (consA (fun ρ => getV ρ 3) (consA (fun ρ => getV ρ 1) (consA (fun _ => M.ret (.int 0)) (fun _ => M.ret []))))) ρ).bind F_reached))
    (retP (ifV (asB (bin2 (dinO false) (fun ρ => getV ρ 2) (fun ρ => getV ρ 5))) (bin2 ixO (bin2 dgetO (fun ρ => getV ρ 5) (fun ρ => getV ρ 2)) (fun _ => M.ret (.int 0))) (fun _ => M.ret .non))))))
noncomputable def F_moves : List PV → M PV := fnP 3 6 m_moves
noncomputable def m_follows : PEnv → M Fl := (seqP (setP 3 (fun ρ => ((consA (fun ρ => getV ρ 0) (consA (bin2 ixO (fun ρ => getV ρ 1) (fun _ => M.ret (.int 0))) (fun _ => M.ret []))) ρ).bind F_way_named))
    (seqP (setP 4 (fun ρ => ((consA (fun ρ => getV ρ 0) (consA (bin2 ixO (fun ρ => getV ρ 3) (fun _ => M.ret (.int 3))) (consA (bin2 ixO (fun ρ => ((consA (fun ρ => getV ρ 0) (consA (bin2 ixO (fun ρ => getV ρ 2) (fun _ => M.ret (.int 0))) (fun _ => M.ret []))) ρ).bind F_way_named) (fun _ => M.ret (.int 2))) (fun _ => M.ret [])))) ρ).bind F_moves))
    (retP (andV (bin2 (isO true) (fun ρ => getV ρ 4) (fun _ => M.ret .non)) (bin2 leOD (bin2 addO (bin2 addO (bin2 ixO (fun ρ => getV ρ 1) (fun _ => M.ret (.int 1))) (fun ρ => ((consA (fun ρ => getV ρ 3) (fun _ => M.ret [])) ρ).bind F_patrol_pace)) (fun ρ => getV ρ 4)) (bin2 ixO (fun ρ => getV ρ 2) (fun _ => M.ret (.int 1))))))))
noncomputable def F_follows : List PV → M PV := fnP 3 5 m_follows
noncomputable def m_law_names : PEnv → M Fl := (seqP (setP 2 (fun _ => M.ret (.str "abcdefghijklmnopqrstuvwxyz")))
    (seqP (setP 3 (fun ρ => ((consA (fun ρ => getV ρ 0) (consA (fun _ => M.ret (.int 17576)) (fun _ => M.ret []))) ρ).bind F_law_take))
    (seqP (setP 4 (bin2 ixO (lstV (fun ρ => ((consA (fun _ => M.ret (.int 8)) (consA (fun _ => M.ret (.int 2)) (consA (fun _ => M.ret (.int 3)) (fun _ => M.ret [])))) ρ).bind mkLst)) (fun ρ => ((consA (fun ρ => getV ρ 0) (consA (fun _ => M.ret (.int 3)) (fun _ => M.ret []))) ρ).bind F_law_take)))
    (seqP (ownP 5 (fun ρ => ((fun _ => M.ret []) ρ).bind mkLst))
    (seqP (mkFor (fun ρ => ((consA (fun ρ => getV ρ 1) (fun _ => M.ret [])) ρ).bind rng1O) (bindN 6)
    (seqP (setP 7 (bin2 addO (fun _ => M.ret (.int 1)) (fun ρ => ((consA (fun ρ => getV ρ 0) (consA (fun ρ => getV ρ 4) (fun _ => M.ret []))) ρ).bind F_law_take)))
    (seqP (setP 8 (bmP "str" joinO (fun _ => M.ret (.str "")) (consA (lstV (mkLC [none, some 2, some 0] (fun ρ => ((consA (fun ρ => getV ρ 7) (fun _ => M.ret [])) ρ).bind rng1O) (bindN 0) allTs (bin2 ixO (fun ρ => getV ρ 1) (fun ρ => ((consA (fun ρ => getV ρ 2) (consA (fun _ => M.ret (.int 26)) (fun _ => M.ret []))) ρ).bind F_law_take)))) (fun _ => M.ret []))))
    (seqP (whP (asB (bin2 (inO false) (fun ρ => getV ρ 8) (fun ρ => getB ρ 5))) (seqP (setP 3 (bin2 addO (fun ρ => getV ρ 3) (fun _ => M.ret (.int 1))))
    (seqP (setP 9 (lstV (fun ρ => ((consA (bin2 modO (bin2 fdivO (fun ρ => getV ρ 3) (fun _ => M.ret (.int 676))) (fun _ => M.ret (.int 26))) (consA (bin2 modO (bin2 fdivO (fun ρ => getV ρ 3) (fun _ => M.ret (.int 26))) (fun _ => M.ret (.int 26))) (consA (bin2 modO (fun ρ => getV ρ 3) (fun _ => M.ret (.int 26))) (fun _ => M.ret [])))) ρ).bind mkLst)))
    (setP 8 (bmP "str" joinO (fun _ => M.ret (.str "")) (consA (lstV (mkLC [none, some 2] (fun ρ => ((fun ρ => getV ρ 9) ρ).bind iterO) (bindN 0) allTs (bin2 ixO (fun ρ => getV ρ 1) (fun ρ => getV ρ 0)))) (fun _ => M.ret [])))))) 1000)
    (appP 5 (fun ρ => getV ρ 8))))))
    (retP (fun ρ => getV ρ 5)))))))
noncomputable def F_law_names : List PV → M PV := fnP 2 10 m_law_names
noncomputable def m_law_pace : PEnv → M Fl := (seqP (setP 2 (fun ρ => ((consA (fun ρ => getV ρ 0) (consA (fun _ => M.ret (.int 10)) (fun _ => M.ret []))) ρ).bind F_law_take))
    (seqP (ifP (asB (bin2 ltO (fun ρ => getV ρ 2) (fun _ => M.ret (.int 3))))
    (retP (bin2 ixO (lstV (fun ρ => ((consA (fun _ => M.ret (.int 0)) (consA (fun _ => M.ret (.int 0)) (consA (fun _ => M.ret (.int 1000000)) (fun _ => M.ret [])))) ρ).bind mkLst)) (fun ρ => getV ρ 2)))
    (fun ρ => M.ret (.nx ρ)))
    (retP (bin2 addO (fun _ => M.ret (.int 1)) (fun ρ => ((consA (fun ρ => getV ρ 0) (consA (bin2 ixO (lstV (fun ρ => ((consA (fun _ => M.ret (.int 1)) (consA (fun _ => M.ret (.int 4)) (consA (fun _ => M.ret (.int 4)) (consA (fun _ => M.ret (.int 4)) (consA (bin2 addO (bin2 fdivO (fun ρ => getV ρ 1) (fun _ => M.ret (.int 4))) (fun _ => M.ret (.int 1))) (consA (bin2 addO (bin2 fdivO (fun ρ => getV ρ 1) (fun _ => M.ret (.int 4))) (fun _ => M.ret (.int 1))) (consA (bin2 addO (bin2 fdivO (fun ρ => getV ρ 1) (fun _ => M.ret (.int 9))) (fun _ => M.ret (.int 1))) (fun _ => M.ret [])))))))) ρ).bind mkLst)) (bin2 subO (fun ρ => getV ρ 2) (fun _ => M.ret (.int 3)))) (fun _ => M.ret []))) ρ).bind F_law_take)))))
noncomputable def F_law_pace : List PV → M PV := fnP 2 3 m_law_pace
noncomputable def m_law_hill : PEnv → M Fl := (seqP (setP 1 (bin2 ixO (lstV (fun ρ => ((consA (bin2 addO (fun _ => M.ret (.int 1)) (fun ρ => ((consA (fun ρ => getV ρ 0) (consA (fun _ => M.ret (.int 6)) (fun _ => M.ret []))) ρ).bind F_law_take)) (consA (fun _ => M.ret (.int 12)) (fun _ => M.ret []))) ρ).bind mkLst)) (bin2 fdivO (fun ρ => ((consA (fun ρ => getV ρ 0) (consA (fun _ => M.ret (.int 8)) (fun _ => M.ret []))) ρ).bind F_law_take) (fun _ => M.ret (.int 7)))))
    (seqP (setP 2 (bin2 mulE (bin2 addO (fun _ => M.ret (.int 1)) (fun ρ => ((consA (fun ρ => getV ρ 0) (consA (fun _ => M.ret (.int 40)) (fun _ => M.ret []))) ρ).bind F_law_take)) (bin2 ixO (lstV (fun ρ => ((consA (fun _ => M.ret (.int 1)) (consA (fun _ => M.ret (.int 7)) (consA (fun _ => M.ret (.int 24999)) (fun _ => M.ret [])))) ρ).bind mkLst)) (fun ρ => ((consA (fun ρ => getV ρ 0) (consA (fun _ => M.ret (.int 3)) (fun _ => M.ret []))) ρ).bind F_law_take))))
    (seqP (parP 3 4 (consA (fun ρ => ((consA (fun ρ => getV ρ 0) (consA (fun ρ => getV ρ 1) (fun _ => M.ret []))) ρ).bind F_law_names) (consA (fun ρ => ((consA (fun ρ => getV ρ 0) (consA (bin2 addO (fun _ => M.ret (.int 1)) (fun ρ => ((consA (fun ρ => getV ρ 0) (consA (fun _ => M.ret (.int 6)) (fun _ => M.ret []))) ρ).bind F_law_take)) (fun _ => M.ret []))) ρ).bind F_law_names) (fun _ => M.ret []))))
    (seqP (ownP 5 (fun ρ => ((fun _ => M.ret []) ρ).bind mkLst))
    (seqP (mkFor (fun ρ => ((fun ρ => getV ρ 3) ρ).bind iterO) (bindN 6)
    (seqP (setP 7 (bin2 ixO (lstV (fun ρ => ((consA (fun _ => M.ret (.str "slope")) (consA (fun _ => M.ret (.str "slope")) (consA (fun _ => M.ret (.str "slope")) (consA (fun _ => M.ret (.str "lift")) (consA (fun _ => M.ret (.str "path")) (fun _ => M.ret [])))))) ρ).bind mkLst)) (fun ρ => ((consA (fun ρ => getV ρ 0) (consA (fun _ => M.ret (.int 5)) (fun _ => M.ret []))) ρ).bind F_law_take)))
    (seqP (parP 8 9 (consA (bin2 ixO (fun ρ => getV ρ 4) (fun ρ => ((consA (fun ρ => getV ρ 0) (consA (fun ρ => ((consA (fun ρ => getV ρ 4) (fun _ => M.ret [])) ρ).bind lenO) (fun _ => M.ret []))) ρ).bind F_law_take)) (consA (bin2 ixO (fun ρ => getV ρ 4) (fun ρ => ((consA (fun ρ => getV ρ 0) (consA (fun ρ => ((consA (fun ρ => getV ρ 4) (fun _ => M.ret [])) ρ).bind lenO) (fun _ => M.ret []))) ρ).bind F_law_take)) (fun _ => M.ret []))))
    (appP 5 (fun ρ => ((consA (fun ρ => getV ρ 6) (consA (fun ρ => getV ρ 7) (consA (fun ρ => getV ρ 8) (consA (fun ρ => getV ρ 9) (consA (fun ρ => ((consA (fun ρ => getV ρ 0) (consA (fun ρ => getV ρ 2) (fun _ => M.ret []))) ρ).bind F_law_pace) (consA (fun ρ => ((consA (fun ρ => getV ρ 0) (consA (fun ρ => getV ρ 2) (fun _ => M.ret []))) ρ).bind F_law_pace) (fun _ => M.ret []))))))) ρ).bind mkTup)))))
    (retP (fun ρ => ((consA (fun ρ => ((consA (fun ρ => getV ρ 5) (fun _ => M.ret [])) ρ).bind tupO) (consA (bin2 ixO (fun ρ => getV ρ 4) (fun ρ => ((consA (fun ρ => getV ρ 0) (consA (fun ρ => ((consA (fun ρ => getV ρ 4) (fun _ => M.ret [])) ρ).bind lenO) (fun _ => M.ret []))) ρ).bind F_law_take)) (consA (fun ρ => getV ρ 2) (fun _ => M.ret [])))) ρ).bind mkTup)))))))
noncomputable def F_law_hill : List PV → M PV := fnP 1 10 m_law_hill
noncomputable def m_law_least : PEnv → M Fl := (retP (minDP (lstV (mkLC [none] (fun ρ => ((sl3 slE (fun ρ => getV ρ 0) (fun ρ => ((fun _ => M.ret (.int 4)) ρ).bind fun y => (intM y).bind fun i => M.ret (some i)) (fun _ => M.ret none)) ρ).bind iterO) (bindN 0) (asB (bin2 gtO (fun ρ => getV ρ 0) (fun _ => M.ret (.int 0)))) (fun ρ => getV ρ 0))) (fun _ => M.ret (.int 0))))
noncomputable def F_law_least : List PV → M PV := fnP 1 1 m_law_least
noncomputable def m_law_moves : PEnv → M Fl := (seqP (dspP 2 (fun ρ => getV ρ 1) (fun _ => M.ret (.int 0)))
    (seqP (mkFor (fun ρ => ((bin2 ixO (fun ρ => getV ρ 0) (fun _ => M.ret (.int 0))) ρ).bind iterO) (bindN 3)
    (mkFor (fun ρ => ((bin2 ixO (fun ρ => getV ρ 0) (fun _ => M.ret (.int 0))) ρ).bind iterO) (bindN 4)
    (ifP (andP (asB (bin2 (dinO false) (bin2 ixO (fun ρ => getV ρ 4) (fun _ => M.ret (.int 2))) (fun ρ => getB ρ 2))) (asB (bin2 gtO (fun ρ => ((consA (fun ρ => getV ρ 4) (fun _ => M.ret [])) ρ).bind F_law_least) (fun _ => M.ret (.int 0)))))
    (seqP (setP 5 (bin2 addO (bin2 dgetO (fun ρ => getB ρ 2) (bin2 ixO (fun ρ => getV ρ 4) (fun _ => M.ret (.int 2)))) (fun ρ => ((consA (fun ρ => getV ρ 4) (fun _ => M.ret [])) ρ).bind F_law_least)))
    (dputP 2 (bin2 ixO (fun ρ => getV ρ 4) (fun _ => M.ret (.int 3))) (fun ρ => ((consA (dgt2 (bin2 ixO (fun ρ => getV ρ 4) (fun _ => M.ret (.int 3))) (fun ρ => getB ρ 2) (fun ρ => getV ρ 5)) (consA (fun ρ => getV ρ 5) (fun _ => M.ret []))) ρ).bind min2O)))
    (fun ρ => M.ret (.nx ρ)))))
    (retP (fun ρ => getV ρ 2))))
noncomputable def F_law_moves : List PV → M PV := fnP 2 6 m_law_moves
noncomputable def m_law_slope : PEnv → M Fl := (retP (bin2 ixO (lstV (mkLC [none, some 1] (fun ρ => ((bin2 ixO (fun ρ => getV ρ 0) (fun _ => M.ret (.int 0))) ρ).bind iterO) (bindN 0) (asB (bin2 (eqO false) (bin2 ixO (fun ρ => getV ρ 0) (fun _ => M.ret (.int 0))) (bin2 ixO (fun ρ => getV ρ 1) (fun _ => M.ret (.int 0))))) (fun ρ => getV ρ 0))) (fun _ => M.ret (.int 0))))
noncomputable def F_law_slope : List PV → M PV := fnP 2 2 m_law_slope
noncomputable def m_law_behind : PEnv → M Fl := (seqP (ownP 2 (fun ρ => ((fun _ => M.ret []) ρ).bind mkLst))
    (seqP (mkFor (fun ρ => ((fun ρ => getV ρ 1) ρ).bind iterO) (bindN 3)
    (seqP (setP 4 (fun ρ => ((consA (fun ρ => getV ρ 0) (consA (fun ρ => getV ρ 3) (fun _ => M.ret []))) ρ).bind F_law_slope))
    (seqP (parP 5 6 (consA (fun ρ => ((consA (fun ρ => getV ρ 0) (consA (bin2 ixO (fun ρ => getV ρ 4) (fun _ => M.ret (.int 3))) (fun _ => M.ret []))) ρ).bind F_law_moves) (consA (bin2 addO (bin2 ixO (fun ρ => getV ρ 3) (fun _ => M.ret (.int 1))) (fun ρ => ((consA (fun ρ => getV ρ 4) (fun _ => M.ret [])) ρ).bind F_law_least)) (fun _ => M.ret []))))
    (seqP (setP 7 (lstV (mkLC [none, some 0] (fun ρ => ((fun ρ => getV ρ 1) ρ).bind iterO) (bindN 0) allTs (bin2 ixO (fun ρ => ((consA (fun ρ => getV ρ 1) (consA (fun ρ => getV ρ 0) (fun _ => M.ret []))) ρ).bind F_law_slope) (fun _ => M.ret (.int 2))))))
    (seqP (ownP 8 (fun ρ => ((fun _ => M.ret []) ρ).bind mkLst))
    (seqP (mkFor (fun ρ => ((consA (fun ρ => getV ρ 1) (fun _ => M.ret [])) ρ).bind enTO) (bindT [9, 10])
    (ifP (andP (asB (bin2 (dinO false) (bin2 ixO (fun ρ => getV ρ 7) (fun ρ => getV ρ 9)) (fun ρ => getV ρ 5))) (asB (bin2 leOD (bin2 addO (fun ρ => getV ρ 6) (bin2 dgetO (fun ρ => getV ρ 5) (bin2 ixO (fun ρ => getV ρ 7) (fun ρ => getV ρ 9)))) (bin2 ixO (fun ρ => getV ρ 10) (fun _ => M.ret (.int 1))))))
    (appP 8 (fun ρ => getV ρ 9))
    (fun ρ => M.ret (.nx ρ))))
    (frzO 8 (appP 2 (fun ρ => getV ρ 8)))))))))
    (retP (fun ρ => getV ρ 2))))
noncomputable def F_law_behind : List PV → M PV := fnP 2 11 m_law_behind
noncomputable def m_law_looks : PEnv → M Fl := (seqP (setP 2 (lstV (mkLC [none] (fun ρ => ((bin2 ixO (fun ρ => getV ρ 1) (fun _ => M.ret (.int 0))) ρ).bind iterO) (bindN 0) (andP (asB (bin2 (eqO false) (bin2 ixO (fun ρ => getV ρ 0) (fun _ => M.ret (.int 1))) (fun _ => M.ret (.str "slope")))) (asB (bin2 gtO (fun ρ => ((consA (fun ρ => getV ρ 0) (fun _ => M.ret [])) ρ).bind F_law_least) (fun _ => M.ret (.int 0))))) (bin2 ixO (fun ρ => getV ρ 0) (fun _ => M.ret (.int 0))))))
    (seqP (ownP 3 (fun ρ => ((fun _ => M.ret []) ρ).bind mkLst))
    (seqP (ifP (asB (bin2 (eqO true) (fun ρ => getV ρ 2) (lstV (fun ρ => ((fun _ => M.ret []) ρ).bind mkLst))))
    (seqP (setP 4 (bin2 ixO (lstV (fun ρ => ((consA (fun ρ => ((consA (fun ρ => getV ρ 0) (consA (fun _ => M.ret (.int 8)) (fun _ => M.ret []))) ρ).bind F_law_take) (consA (bin2 addO (fun _ => M.ret (.int 8)) (fun ρ => ((consA (fun ρ => getV ρ 0) (consA (fun _ => M.ret (.int 17)) (fun _ => M.ret []))) ρ).bind F_law_take)) (fun _ => M.ret []))) ρ).bind mkLst)) (bin2 fdivO (fun ρ => ((consA (fun ρ => getV ρ 0) (consA (fun _ => M.ret (.int 8)) (fun _ => M.ret []))) ρ).bind F_law_take) (fun _ => M.ret (.int 7)))))
    (seqP (setP 5 (bin2 ixO (lstV (fun ρ => ((consA (bin2 addO (bin2 ixO (fun ρ => getV ρ 1) (fun _ => M.ret (.int 2))) (fun _ => M.ret (.int 1))) (consA (bin2 addO (fun _ => M.ret (.int 1)) (fun ρ => ((consA (fun ρ => getV ρ 0) (consA (bin2 addO (bin2 ixO (fun ρ => getV ρ 1) (fun _ => M.ret (.int 2))) (fun _ => M.ret (.int 1))) (fun _ => M.ret []))) ρ).bind F_law_take)) (fun _ => M.ret []))) ρ).bind mkLst)) (fun ρ => ((consA (fun ρ => getV ρ 0) (consA (fun _ => M.ret (.int 2)) (fun _ => M.ret []))) ρ).bind F_law_take)))
    (mkFor (fun ρ => ((consA (fun ρ => getV ρ 4) (fun _ => M.ret [])) ρ).bind rng1O) (bindN 6)
    (seqP (setP 7 (fun ρ => ((consA (fun ρ => getV ρ 0) (consA (fun _ => M.ret (.int 6)) (fun _ => M.ret []))) ρ).bind F_law_take))
    (seqP (setP 8 (fun ρ => ((consA (bin2 ixO (fun ρ => getV ρ 2) (fun ρ => ((consA (fun ρ => getV ρ 0) (consA (fun ρ => ((consA (fun ρ => getV ρ 2) (fun _ => M.ret [])) ρ).bind lenO) (fun _ => M.ret []))) ρ).bind F_law_take)) (consA (fun ρ => ((consA (fun ρ => getV ρ 0) (consA (fun ρ => getV ρ 5) (fun _ => M.ret []))) ρ).bind F_law_take) (fun _ => M.ret []))) ρ).bind mkTup))
    (seqP (appP 3 (fun ρ => getV ρ 8))
    (ifP (asB (bin2 (eqO false) (fun ρ => getV ρ 7) (fun _ => M.ret (.int 5))))
    (setiP 3 (fun ρ => getV ρ 6) (bin2 ixO (fun ρ => getB ρ 3) (fun ρ => ((consA (fun ρ => getV ρ 0) (consA (fun ρ => ((consA (fun ρ => getB ρ 3) (fun _ => M.ret [])) ρ).bind lenO) (fun _ => M.ret []))) ρ).bind F_law_take)))
    (fun ρ => M.ret (.nx ρ)))))))))
    (fun ρ => M.ret (.nx ρ)))
    (retP (fun ρ => ((consA (fun ρ => getV ρ 3) (fun _ => M.ret [])) ρ).bind tupO)))))
noncomputable def F_law_looks : List PV → M PV := fnP 2 9 m_law_looks
noncomputable def m_law : PEnv → M Fl := (seqP (setP 2 (fun ρ => ((consA (fun ρ => getV ρ 1) (fun _ => M.ret [])) ρ).bind F_law_hill))
    (seqP (setP 3 (fun ρ => ((consA (fun ρ => getV ρ 1) (consA (fun ρ => getV ρ 2) (fun _ => M.ret []))) ρ).bind F_law_looks))
    (seqP (setP 4 (fun ρ => ((consA (fun ρ => getV ρ 2) (consA (fun ρ => getV ρ 3) (fun _ => M.ret []))) ρ).bind F_law_behind))
    (seqP (mkFor (fun ρ => ((consA (bin2 mulE (fun _ => M.ret (.int 6)) (fun ρ => ((consA (bin2 (eqO true) (fun ρ => getV ρ 3) (fun ρ => ((fun _ => M.ret []) ρ).bind mkTup)) (fun _ => M.ret [])) ρ).bind intO)) (fun _ => M.ret [])) ρ).bind rng1O) (bindN 5)
    (seqP (parP 6 7 (consA (fun ρ => ((consA (fun ρ => getV ρ 1) (consA (fun ρ => ((consA (fun ρ => getV ρ 3) (fun _ => M.ret [])) ρ).bind lenO) (fun _ => M.ret []))) ρ).bind F_law_take) (consA (fun ρ => ((consA (fun ρ => getV ρ 1) (consA (fun ρ => ((consA (fun ρ => getV ρ 3) (fun _ => M.ret [])) ρ).bind lenO) (fun _ => M.ret []))) ρ).bind F_law_take) (fun _ => M.ret []))))
    (seqP (parP 8 9 (consA (bin2 ixO (fun ρ => getV ρ 3) (fun ρ => getV ρ 6)) (consA (bin2 ixO (fun ρ => getV ρ 3) (fun ρ => getV ρ 7)) (fun _ => M.ret []))))
    (seqP (setP 10 (fun ρ => ((consA (fun ρ => getV ρ 2) (consA (fun ρ => getV ρ 8) (consA (fun ρ => getV ρ 9) (fun _ => M.ret [])))) ρ).bind F_follows))
    (seqP (ifP (orP (notP (asB (fun ρ => ((fun ρ => getV ρ 10) ρ).bind (isiO "bool")))) (orP (asB (bin2 (eqO true) (fun ρ => getV ρ 10) (bin2 (inO false) (fun ρ => getV ρ 7) (bin2 ixO (fun ρ => getV ρ 4) (fun ρ => getV ρ 6))))) (asB (bin2 isnB (fun ρ => ((consA (fun ρ => getV ρ 2) (consA (fun ρ => getV ρ 8) (consA (fun ρ => getV ρ 8) (fun _ => M.ret [])))) ρ).bind F_follows) (fun _ => M.ret (.bl false))))))
    (retP (fun _ => M.ret (.bl false)))
    (fun ρ => M.ret (.nx ρ)))
    (seqP (setP 11 (fun ρ => ((consA (fun ρ => getV ρ 2) (consA (fun ρ => getV ρ 8) (fun _ => M.ret []))) ρ).bind F_law_slope))
    (seqP (parP 12 13 (consA (fun ρ => ((consA (fun ρ => getV ρ 2) (consA (bin2 ixO (fun ρ => getV ρ 11) (fun _ => M.ret (.int 3))) (fun _ => M.ret []))) ρ).bind F_law_moves) (consA (bin2 ixO (fun ρ => ((consA (fun ρ => getV ρ 2) (consA (fun ρ => getV ρ 9) (fun _ => M.ret []))) ρ).bind F_law_slope) (fun _ => M.ret (.int 2))) (fun _ => M.ret []))))
    (ifP (asB (bin2 (dinO false) (fun ρ => getV ρ 13) (fun ρ => getV ρ 12)))
    (seqP (setP 14 (bin2 addO (bin2 addO (bin2 ixO (fun ρ => getV ρ 8) (fun _ => M.ret (.int 1))) (fun ρ => ((consA (fun ρ => getV ρ 11) (fun _ => M.ret [])) ρ).bind F_law_least)) (bin2 dgetO (fun ρ => getV ρ 12) (fun ρ => getV ρ 13))))
    (seqP (ifP (andP (asB (bin2 leOD (fun ρ => getV ρ 14) (bin2 ixO (fun ρ => getV ρ 2) (fun _ => M.ret (.int 2))))) (asB (bin2 isnB (fun ρ => ((consA (fun ρ => getV ρ 2) (consA (fun ρ => getV ρ 8) (consA (fun ρ => ((consA (bin2 ixO (fun ρ => getV ρ 9) (fun _ => M.ret (.int 0))) (consA (fun ρ => getV ρ 14) (fun _ => M.ret []))) ρ).bind mkTup) (fun _ => M.ret [])))) ρ).bind F_follows) (fun _ => M.ret (.bl true)))))
    (retP (fun _ => M.ret (.bl false)))
    (fun ρ => M.ret (.nx ρ)))
    (ifP (andP (asB (bin2 leOD (fun ρ => getV ρ 14) (bin2 addO (bin2 ixO (fun ρ => getV ρ 2) (fun _ => M.ret (.int 2))) (fun _ => M.ret (.int 1))))) (asB (bin2 isnB (fun ρ => ((consA (fun ρ => getV ρ 2) (consA (fun ρ => getV ρ 8) (consA (fun ρ => ((consA (bin2 ixO (fun ρ => getV ρ 9) (fun _ => M.ret (.int 0))) (consA (bin2 subO (fun ρ => getV ρ 14) (fun _ => M.ret (.int 1))) (fun _ => M.ret []))) ρ).bind mkTup) (fun _ => M.ret [])))) ρ).bind F_follows) (fun _ => M.ret (.bl false)))))
    (retP (fun _ => M.ret (.bl false)))
    (fun ρ => M.ret (.nx ρ)))))
    (fun ρ => M.ret (.nx ρ))))))))))
    (retP (fun _ => M.ret (.bl true)))))))
section
variable {P : Program} {w : World} {K : PySem.W.Frag} {mg : Str → Option Value} {base : Heap} {a_way_named a_first_entry a_reached a_patrol_pace a_moves a_follows awpot awtake awnames awpace awhill awleast awmoves awslope awbehind awlooks a_law  : Addr} {d_way_named d_first_entry d_reached d_patrol_pace d_moves d_follows dwpot dwtake dwnames dwpace dwhill dwleast dwmoves dwslope dwbehind dwlooks d_law : FuncData} (T : Txt K mg a_way_named a_first_entry a_reached a_patrol_pace a_moves a_follows awpot awtake awnames awpace awhill awleast awmoves awslope awbehind awlooks a_law  d_way_named d_first_entry d_reached d_patrol_pace d_moves d_follows dwpot dwtake dwnames dwpace dwhill dwleast dwmoves dwslope dwbehind dwlooks d_law)
include T
theorem ok_way_named : FnOk P w K mg base CX0 1 a_way_named d_way_named ["hill", "name"] (spP (famQ K) F_way_named) := by
  have eb : defBody s_way_named = defBody s_way_named := rfl
  conv at eb => rhs; whnf
  have es : defScope s_way_named = defScope s_way_named := rfl
  conv at es => rhs; whnf
  refine fn_ok3 (N := ["hill", "name", "way"]) (ps := ["hill", "name"]) (k := 0) (m := m_way_named) rfl T.F_way_named sc_way_named (by decide) eb es fun cdv A outer s H E hr => ?_
  unfold m_way_named
  exact (ss_cons (sv_for (bs_for PassesOwn.never rfl (iv_v (ev_ix ix_seq ov_ix (EV.b (ev_name 0 (bv 0))) (EV.b ev_int) (fun _ _ => rfl))) (gs_name (bg_name (i := 2) sc_way_named.nd rfl (Or.inl rfl))) (ss_one (sv_if (bs_if (tv_cmp (op_eqD hr.units) (ov_eq false) (EV.b (ev_ix ix_seq ov_ix (EV.b (ev_name 2 (bv 2))) (EV.b ev_int) (fun _ _ => rfl))) (EV.b (ev_name 1 (bv 1))) (nomark _)) (ss_one (sv_ret (bs_ret (ev_name 2 (bv 2))))) ss_nil)))))
    (ss_one (sv_ret (bs_ret ev_non))))
theorem ok_first_entry : FnOk P w K mg base CX0 1 a_first_entry d_first_entry ["pairs", "t"] (spP (famQ K) F_first_entry) := by
  have eb : defBody s_first_entry = defBody s_first_entry := rfl
  conv at eb => rhs; whnf
  have es : defScope s_first_entry = defScope s_first_entry := rfl
  conv at es => rhs; whnf
  refine fn_ok3 (N := ["pairs", "t", "a", "b"]) (ps := ["pairs", "t"]) (k := 0) (m := m_first_entry) rfl T.F_first_entry sc_first_entry (by decide) eb es fun cdv A outer s H E hr => ?_
  unfold m_first_entry
  exact (ss_cons (sv_for (bs_for PassesOwn.never rfl (iv_v (ev_name 0 (bv 0))) (gs_tup (ks := [2, 3]) (bg_tup rfl (bgs_cons (bg_name (i := 2) sc_first_entry.nd rfl (Or.inl rfl)) (bgs_cons (bg_name (i := 3) sc_first_entry.nd rfl (Or.inl rfl)) bgs_nil)))) (ss_one (sv_if (bs_if (tv_cmp op_lt ov_lt (EV.b (ev_name 1 (bv 1))) (EV.b (ev_name 3 (bv 3))) (nomark _)) (ss_one (sv_ret (bs_ret (ev_callB (be_callB (call_max2 rfl) rfl T.m_max PyProof.Rows.boot_max (ab_cons (EV.b (ev_name 2 (bv 2))) (ab_cons (EV.b (ev_name 1 (bv 1))) ab_nil))) cv_max2)))) ss_nil)))))
    (ss_one (sv_ret (bs_ret ev_non))))
theorem ok_reached (G_first_entry : FnOk P w K mg base CX0 1 a_first_entry d_first_entry ["pairs", "t"] (spP (famQ K) F_first_entry)) : FnOk P w K mg base CX0 2 a_reached d_reached ["going", "dark", "place", "t"] (spP (famQ K) F_reached) := by
  have eb : defBody s_reached = defBody s_reached := rfl
  conv at eb => rhs; whnf
  have es : defScope s_reached = defScope s_reached := rfl
  conv at es => rhs; whnf
  refine fn_ok3 (N := ["going", "dark", "place", "t", "came", "again", "w", "start", "end", "n", "pairs", "entered"]) (ps := ["going", "dark", "place", "t"]) (k := 1) (m := m_reached) rfl T.F_reached sc_reached (by decide) eb es fun cdv A outer s H E hr => ?_
  unfold m_reached
  exact (ss_cons (sv_disp (bs_set (i := 4) sc_reached.nd rfl (Or.inl rfl) (be_disp1 (EV.b (ev_name 2 (bv 2))) (ev_tup (by refine av_cons (ev_name 3 (bv 3)) ?_; refine av_cons ev_non ?_; refine av_cons ev_non ?_; exact av_nil)))))
    (ss_cons (sv_set (bs_set (i := 5) sc_reached.nd rfl (Or.inl rfl) ev_bl))
    (ss_cons (sv_while 1000 (bs_while PassesOwn.never (tv_val (ev_name 5 (bv 5))) (ss_cons (sv_set (bs_set (i := 5) sc_reached.nd rfl (Or.inl rfl) ev_bl))
    (ss_one (sv_for (bs_for PassesOwn.never rfl (iv_v (ev_name 0 (bv 0))) (gs_tup (ks := [6, 7, 8, 9, 10]) (bg_tup rfl (bgs_cons (bg_name (i := 6) sc_reached.nd rfl (Or.inl rfl)) (bgs_cons (bg_name (i := 7) sc_reached.nd rfl (Or.inl rfl)) (bgs_cons (bg_name (i := 8) sc_reached.nd rfl (Or.inl rfl)) (bgs_cons (bg_name (i := 9) sc_reached.nd rfl (Or.inl rfl)) (bgs_cons (bg_name (i := 10) sc_reached.nd rfl (Or.inl rfl)) bgs_nil))))))) (ss_cons (sv_set (bs_set (i := 11) sc_reached.nd rfl (Or.inl rfl) (ev_if (tv_din (hu_of hr) (EV.b (ev_name 7 (bv 7))) (eb_name 4 (bv 4)) rfl) (ev_call (be_call G_first_entry (hr.mono (by decide)) rfl T.m_first_entry T.F_first_entry.kp T.b_first_entry .nil pass0 (av_cons (ev_name 10 (bv 10)) (av_cons (ev_ix ix_seq ov_ix (EV.b (be_dget (hu_of hr) (eb_name 4 (bv 4)) (EV.b (ev_name 7 (bv 7))) (fun _ _ => rfl))) (EV.b ev_int) (fun _ _ => rfl)) av_nil)))) ev_non)))
    (ss_one (sv_if (bs_if (WV.t (wv_and (tv_cmp op_notN ov_notN (EV.b (ev_name 11 (bv 11))) (EV.b ev_non) (nomark _)) (wv_and1 (tv_cmp op_leD ov_leD (EV.b (ev_bin op_addD ov_add (EV.b (ev_name 11 (bv 11))) (EV.b (ev_name 9 (bv 9))))) (EV.b (ev_name 1 (bv 1))) (nomark _))))) (ss_one (sv_if (bs_if (WV.t (wv_or (tv_dnotin (hu_of hr) (EV.b (ev_name 8 (bv 8))) (eb_name 4 (bv 4)) rfl) (wv_or1 (tv_cmp op_lt ov_lt (EV.b (ev_bin op_addD ov_add (EV.b (ev_name 11 (bv 11))) (EV.b (ev_name 9 (bv 9))))) (EV.b (ev_ix ix_seq ov_ix (EV.b (be_dget (hu_of hr) (eb_name 4 (bv 4)) (EV.b (ev_name 8 (bv 8))) (fun _ _ => rfl))) (EV.b ev_int) (fun _ _ => rfl))) (nomark _))))) (ss_cons (sv_dput (k := 4) (bs_dput (hu_of hr) (bv 4) (EV.b (ev_name 8 (bv 8))) (ev_tup (by refine av_cons (ev_bin op_addD ov_add (EV.b (ev_name 11 (bv 11))) (EV.b (ev_name 9 (bv 9)))) ?_; refine av_cons (ev_tup (av_cons (ev_name 6 (bv 6)) (av_cons (ev_name 11 (bv 11)) av_nil))) ?_; refine av_cons (ev_name 7 (bv 7)) ?_; exact av_nil))))
    (ss_one (sv_set (bs_set (i := 5) sc_reached.nd rfl (Or.inl rfl) ev_bl)))) ss_nil))) ss_nil))))))))))
    (ss_one (sv_ret (bs_ret (ev_name 4 (bv 4))))))))
theorem ok_patrol_pace : FnOk P w K mg base CX0 1 a_patrol_pace d_patrol_pace ["way"] (spP (famQ K) F_patrol_pace) := by
  have eb : defBody s_patrol_pace = defBody s_patrol_pace := rfl
  conv at eb => rhs; whnf
  have es : defScope s_patrol_pace = defScope s_patrol_pace := rfl
  conv at es => rhs; whnf
  refine fn_ok3 (N := ["way"]) (ps := ["way"]) (k := 0) (m := m_patrol_pace) rfl T.F_patrol_pace sc_patrol_pace (by decide) eb es fun cdv A outer s H E hr => ?_
  unfold m_patrol_pace
  exact (ss_one (sv_ret (bs_ret (ev_minD ⟨pe_minD rfl rfl T.m_min (EV.b (EF.v (ef_lc (be_lc (LcScope.mk2 (N := ["n"]) (js := [none]) (defScope s_patrol_pace) ["way"] rfl rfl (by decide +kernel)) rfl (iv_b (EV.b (ev_slice (be_slice sl_E (EV.b (ev_name 0 (bv 0))) (ov_some (EV.b ev_int)) ov_none) sv_E))) (fun _ _ _ _ => (gv_name (bg_name (i := 0) (by decide : (["n"] : List Str).Nodup) rfl (Or.inl rfl)))) (fun _ _ _ _ => (ts_one (tv_cmp op_gt ov_gt (EV.b (ev_name 0 (bv 0))) (EV.b ev_int) (nomark _)))) (fun _ _ _ _ => (ev_name 0 (bv 0))))))).out ev_int.out⟩))))
theorem ok_moves (G_reached : FnOk P w K mg base CX0 2 a_reached d_reached ["going", "dark", "place", "t"] (spP (famQ K) F_reached)) (G_patrol_pace : FnOk P w K mg base CX0 1 a_patrol_pace d_patrol_pace ["way"] (spP (famQ K) F_patrol_pace)) : FnOk P w K mg base CX0 3 a_moves d_moves ["hill", "place", "to"] (spP (famQ K) F_moves) := by
  have eb : defBody s_moves = defBody s_moves := rfl
  conv at eb => rhs; whnf
  have es : defScope s_moves = defScope s_moves := rfl
  conv at es => rhs; whnf
  refine fn_ok3 (N := ["hill", "place", "to", "end", "going", "came"]) (ps := ["hill", "place", "to"]) (k := 2) (m := m_moves) rfl T.F_moves sc_moves (by decide) eb es fun cdv A outer s H E hr => ?_
  unfold m_moves
  exact (ss_cons (sv_set (bs_set (i := 3) sc_moves.nd rfl (Or.inr rfl) (ev_callB (be_callB (call_sumL rfl) rfl T.m_sum PyProof.Rows.boot_sum (ab_cons (EV.b (EF.v (ef_lc (be_lc (LcScope.mk2 (N := ["way"]) (js := [none]) (defScope s_moves) ["hill", "place", "to", "end", "going", "came"] rfl rfl (by decide +kernel)) rfl (iv_b (EV.b (ev_ix ix_seq ov_ix (EV.b (ev_name 0 (bv 0))) (EV.b ev_int) (fun _ _ => rfl)))) (fun _ _ _ _ => (gv_name (bg_name (i := 0) (by decide : (["way"] : List Str).Nodup) rfl (Or.inl rfl)))) (fun _ _ _ _ => ts_nil) (fun _ _ _ _ => (ev_call (be_call G_patrol_pace (hr.mono (by decide)) rfl T.m_patrol_pace T.F_patrol_pace.kp T.b_patrol_pace .nil pass0 (av_cons (ev_name 0 (bv 0)) av_nil)))))))) ab_nil)) cv_sumL)))
    (ss_cons (sv_set (asg_v (asg_lc (bs_lc (k := 4) sc_moves.nd rfl (Or.inl rfl) (LcScope.mk2 (N := ["way", "end"]) (js := [none, some 3]) (defScope s_moves) ["hill", "place", "to", "end", "going", "came"] rfl rfl (by decide +kernel)) rfl (iv_b (EV.b (ev_ix ix_seq ov_ix (EV.b (ev_name 0 (bv 0))) (EV.b ev_int) (fun _ _ => rfl)))) (fun _ _ _ _ => (gv_name (bg_name (i := 0) (by decide : (["way", "end"] : List Str).Nodup) rfl (Or.inl rfl)))) (fun _ _ _ _ => (ts_one (tv_cmp op_gt ov_gt (EV.b (ev_call (be_call G_patrol_pace (hr.mono (by decide)) rfl T.m_patrol_pace T.F_patrol_pace.kp T.b_patrol_pace .nil pass0 (av_cons (ev_name 0 (bv 0)) av_nil)))) (EV.b ev_int) (nomark _)))) (fun _ _ _ _ => (ev_tup (by refine av_cons (ev_ix ix_seq ov_ix (EV.b (ev_name 0 (bv 0))) (EV.b ev_int) (fun _ _ => rfl)) ?_; refine av_cons (ev_ix ix_seq ov_ix (EV.b (ev_name 0 (bv 0))) (EV.b ev_int) (fun _ _ => rfl)) ?_; refine av_cons (ev_ix ix_seq ov_ix (EV.b (ev_name 0 (bv 0))) (EV.b ev_int) (fun _ _ => rfl)) ?_; refine av_cons (ev_call (be_call G_patrol_pace (hr.mono (by decide)) rfl T.m_patrol_pace T.F_patrol_pace.kp T.b_patrol_pace .nil pass0 (av_cons (ev_name 0 (bv 0)) av_nil))) ?_; refine av_cons (ev_tup (av_cons (ev_tup (av_cons ev_int (av_cons (ev_name 1 (bv 1)) av_nil))) av_nil)) ?_; exact av_nil)))))))
    (ss_cons (sv_set (bs_set (i := 5) sc_moves.nd rfl (Or.inl rfl) (ev_call (be_call G_reached (hr.mono (by decide)) rfl T.m_reached T.F_reached.kp T.b_reached .nil pass0 (by refine av_cons (ev_name 4 (bv 4)) ?_; refine av_cons (ev_name 3 (bv 3)) ?_; refine av_cons (ev_name 1 (bv 1)) ?_; refine av_cons ev_int ?_; exact av_nil)))))
    (ss_one (sv_ret (bs_ret (ev_if (tv_din (hu_of hr) (EV.b (ev_name 2 (bv 2))) (EV.b (ev_name 5 (bv 5))) rfl) (ev_ix ix_seq ov_ix (EV.b (be_dget (hu_of hr) (EV.b (ev_name 5 (bv 5))) (EV.b (ev_name 2 (bv 2))) (fun _ _ => rfl))) (EV.b ev_int) (fun _ _ => rfl)) ev_non)))))))
theorem ok_follows (G_way_named : FnOk P w K mg base CX0 1 a_way_named d_way_named ["hill", "name"] (spP (famQ K) F_way_named)) (G_moves : FnOk P w K mg base CX0 3 a_moves d_moves ["hill", "place", "to"] (spP (famQ K) F_moves)) (G_patrol_pace : FnOk P w K mg base CX0 1 a_patrol_pace d_patrol_pace ["way"] (spP (famQ K) F_patrol_pace)) : FnOk P w K mg base CX0 4 a_follows d_follows ["hill", "one", "other"] (spP (famQ K) F_follows) := by
  have eb : defBody s_follows = defBody s_follows := rfl
  conv at eb => rhs; whnf
  have es : defScope s_follows = defScope s_follows := rfl
  conv at es => rhs; whnf
  refine fn_ok3 (N := ["hill", "one", "other", "way", "between"]) (ps := ["hill", "one", "other"]) (k := 3) (m := m_follows) rfl T.F_follows sc_follows (by decide) eb es fun cdv A outer s H E hr => ?_
  unfold m_follows
  exact (ss_cons (sv_set (bs_set (i := 3) sc_follows.nd rfl (Or.inl rfl) (ev_call (be_call G_way_named (hr.mono (by decide)) rfl T.m_way_named T.F_way_named.kp T.b_way_named .nil pass0 (av_cons (ev_name 0 (bv 0)) (av_cons (ev_ix ix_seq ov_ix (EV.b (ev_name 1 (bv 1))) (EV.b ev_int) (fun _ _ => rfl)) av_nil))))))
    (ss_cons (sv_set (bs_set (i := 4) sc_follows.nd rfl (Or.inl rfl) (ev_call (be_call G_moves (hr.mono (by decide)) rfl T.m_moves T.F_moves.kp T.b_moves .nil pass0 (by refine av_cons (ev_name 0 (bv 0)) ?_; refine av_cons (ev_ix ix_seq ov_ix (EV.b (ev_name 3 (bv 3))) (EV.b ev_int) (fun _ _ => rfl)) ?_; refine av_cons (ev_ix ix_seq ov_ix (EV.b (ev_call (be_call G_way_named (hr.mono (by decide)) rfl T.m_way_named T.F_way_named.kp T.b_way_named .nil pass0 (av_cons (ev_name 0 (bv 0)) (av_cons (ev_ix ix_seq ov_ix (EV.b (ev_name 2 (bv 2))) (EV.b ev_int) (fun _ _ => rfl)) av_nil))))) (EV.b ev_int) (fun _ _ => rfl)) ?_; exact av_nil)))))
    (ss_one (sv_ret (bs_ret (ev_and (ev_cmp op_notN ov_notN (EV.b (ev_name 4 (bv 4))) (EV.b ev_non) (nomark _)) (ev_one (ev_cmp op_leD ov_leD (EV.b (ev_bin op_addD ov_add (EV.b (ev_bin op_addD ov_add (EV.b (ev_ix ix_seq ov_ix (EV.b (ev_name 1 (bv 1))) (EV.b ev_int) (fun _ _ => rfl))) (EV.b (ev_call (be_call G_patrol_pace (hr.mono (by decide)) rfl T.m_patrol_pace T.F_patrol_pace.kp T.b_patrol_pace .nil pass0 (av_cons (ev_name 3 (bv 3)) av_nil)))))) (EV.b (ev_name 4 (bv 4))))) (EV.b (ev_ix ix_seq ov_ix (EV.b (ev_name 2 (bv 2))) (EV.b ev_int) (fun _ _ => rfl))) (nomark _)))))))))
theorem ok_law_names (G_law_take : FnOk P w K mg base CX0 1 awtake dwtake ["_law_pot_here", "_law_many"] (spP (famQ K) F_law_take)) : FnOk P w K mg base CX0 2 awnames dwnames ["_law_pot_here", "_law_many"] (spP (famQ K) F_law_names) := by
  have eb : defBody s_law_names = defBody s_law_names := rfl
  conv at eb => rhs; whnf
  have es : defScope s_law_names = defScope s_law_names := rfl
  conv at es => rhs; whnf
  refine fn_ok3 (N := ["_law_pot_here", "_law_many", "_law_letters", "_law_code", "_law_longest", "_law_names_here", "_law_k", "_law_length", "_law_name", "_law_three"]) (ps := ["_law_pot_here", "_law_many"]) (k := 1) (m := m_law_names) rfl T.F_law_names sc_law_names (by decide) eb es fun cdv A outer s H E hr => ?_
  unfold m_law_names
  exact (ss_cons (sv_set (bs_set (i := 2) sc_law_names.nd rfl (Or.inr rfl) ev_str))
    (ss_cons (sv_set (bs_set (i := 3) sc_law_names.nd rfl (Or.inl rfl) (ev_call (be_call G_law_take (hr.mono (by decide)) rfl T.m_law_take T.F_law_take.kp T.b_law_take .nil pass0 (av_cons (ev_name 0 (bv 0)) (av_cons ev_int av_nil))))))
    (ss_cons (sv_set (bs_set (i := 4) sc_law_names.nd rfl (Or.inl rfl) (ev_ix ix_seq ov_ix (EV.b (EF.v (ef_lst (by refine av_cons ev_int ?_; refine av_cons ev_int ?_; refine av_cons ev_int ?_; exact av_nil)))) (EV.b (ev_call (be_call G_law_take (hr.mono (by decide)) rfl T.m_law_take T.F_law_take.kp T.b_law_take .nil pass0 (av_cons (ev_name 0 (bv 0)) (av_cons ev_int av_nil))))) (fun _ _ => rfl))))
    (ss_cons (sv_own (bs_set (i := 5) sc_law_names.nd rfl (Or.inl rfl) (ef_lst av_nil)))
    (ss_cons (sv_for (bs_for PassesOwn.never rfl (iv_rng1 (bi_range1 rfl T.m_range (ab_cons (EV.b (ev_name 1 (bv 1))) ab_nil))) (gs_name (bg_name (i := 6) sc_law_names.nd rfl (Or.inl rfl))) (ss_cons (sv_set (bs_set (i := 7) sc_law_names.nd rfl (Or.inl rfl) (ev_bin op_addD ov_add (EV.b ev_int) (EV.b (ev_call (be_call G_law_take (hr.mono (by decide)) rfl T.m_law_take T.F_law_take.kp T.b_law_take .nil pass0 (av_cons (ev_name 0 (bv 0)) (av_cons (ev_name 4 (bv 4)) av_nil))))))))
    (ss_cons (sv_set (bs_set (i := 8) sc_law_names.nd rfl (Or.inl rfl) (ev_bm (be_bm PySem.F.plainAttrs_str PySem.F.slot_str_join PySem.F.type_str_join mt_join (EV.b ev_str) (ab_cons (EV.b (EF.v (ef_lc (be_lc (LcScope.mk2 (N := ["_law_j", "_law_letters", "_law_pot_here"]) (js := [none, some 2, some 0]) (defScope s_law_names) ["_law_pot_here", "_law_many", "_law_letters", "_law_code", "_law_longest", "_law_names_here", "_law_k", "_law_length", "_law_name", "_law_three"] rfl rfl (by decide +kernel)) rfl (iv_rng1 (bi_range1 rfl T.m_range (ab_cons (EV.b (ev_name 7 (bv 7))) ab_nil))) (fun _ _ _ _ => (gv_name (bg_name (i := 0) (by decide : (["_law_j", "_law_letters", "_law_pot_here"] : List Str).Nodup) rfl (Or.inl rfl)))) (fun _ _ _ _ => ts_nil) (fun _ _ _ _ => (ev_ix ix_seq ov_ix (EV.b (ev_name 1 (bv 1))) (EV.b (ev_call (be_call G_law_take (hr.mono (by decide)) rfl T.m_law_take T.F_law_take.kp T.b_law_take .nil pass0 (av_cons (ev_name 2 (bv 2)) (av_cons ev_int av_nil))))) (fun _ _ => rfl))))))) ab_nil)) mv_join)))
    (ss_cons (sv_while 1000 (bs_while PassesOwn.never (tv_cmp op_inD (ov_in false) (EV.b (ev_name 8 (bv 8))) (eb_name 5 (bv 5)) rfl) (ss_cons (sv_set (bs_set (i := 3) sc_law_names.nd rfl (Or.inl rfl) (ev_bin op_addD ov_add (EV.b (ev_name 3 (bv 3))) (EV.b ev_int))))
    (ss_cons (sv_set (bs_set (i := 9) sc_law_names.nd rfl (Or.inl rfl) (EF.v (ef_lst (by refine av_cons (ev_bin op_mod ov_mod (EV.b (ev_bin op_fdiv ov_fdiv (EV.b (ev_name 3 (bv 3))) (EV.b ev_int))) (EV.b ev_int)) ?_; refine av_cons (ev_bin op_mod ov_mod (EV.b (ev_bin op_fdiv ov_fdiv (EV.b (ev_name 3 (bv 3))) (EV.b ev_int))) (EV.b ev_int)) ?_; refine av_cons (ev_bin op_mod ov_mod (EV.b (ev_name 3 (bv 3))) (EV.b ev_int)) ?_; exact av_nil)))))
    (ss_one (sv_set (bs_set (i := 8) sc_law_names.nd rfl (Or.inl rfl) (ev_bm (be_bm PySem.F.plainAttrs_str PySem.F.slot_str_join PySem.F.type_str_join mt_join (EV.b ev_str) (ab_cons (EV.b (EF.v (ef_lc (be_lc (LcScope.mk2 (N := ["_law_spot", "_law_letters"]) (js := [none, some 2]) (defScope s_law_names) ["_law_pot_here", "_law_many", "_law_letters", "_law_code", "_law_longest", "_law_names_here", "_law_k", "_law_length", "_law_name", "_law_three"] rfl rfl (by decide +kernel)) rfl (iv_b (EV.b (ev_name 9 (bv 9)))) (fun _ _ _ _ => (gv_name (bg_name (i := 0) (by decide : (["_law_spot", "_law_letters"] : List Str).Nodup) rfl (Or.inl rfl)))) (fun _ _ _ _ => ts_nil) (fun _ _ _ _ => (ev_ix ix_seq ov_ix (EV.b (ev_name 1 (bv 1))) (EV.b (ev_name 0 (bv 0))) (fun _ _ => rfl))))))) ab_nil)) mv_join))))))))
    (ss_one (sv_app (k := 5) (bs_expr (be_bm PySem.F.plainAttrs_list PySem.F.slot_list_append PySem.F.type_list_append mt_append (bv 5) (ba_cons (ev_name 8 (bv 8)) ba_nil))))))))))
    (ss_one (sv_ret (bs_ret (ev_name 5 (bv 5))))))))))
theorem ok_law_pace (G_law_take : FnOk P w K mg base CX0 1 awtake dwtake ["_law_pot_here", "_law_many"] (spP (famQ K) F_law_take)) : FnOk P w K mg base CX0 2 awpace dwpace ["_law_pot_here", "_law_dark"] (spP (famQ K) F_law_pace) := by
  have eb : defBody s_law_pace = defBody s_law_pace := rfl
  conv at eb => rhs; whnf
  have es : defScope s_law_pace = defScope s_law_pace := rfl
  conv at es => rhs; whnf
  refine fn_ok3 (N := ["_law_pot_here", "_law_dark", "_law_kind"]) (ps := ["_law_pot_here", "_law_dark"]) (k := 1) (m := m_law_pace) rfl T.F_law_pace sc_law_pace (by decide) eb es fun cdv A outer s H E hr => ?_
  unfold m_law_pace
  exact (ss_cons (sv_set (bs_set (i := 2) sc_law_pace.nd rfl (Or.inl rfl) (ev_call (be_call G_law_take (hr.mono (by decide)) rfl T.m_law_take T.F_law_take.kp T.b_law_take .nil pass0 (av_cons (ev_name 0 (bv 0)) (av_cons ev_int av_nil))))))
    (ss_cons (sv_if (bs_if (tv_cmp op_lt ov_lt (EV.b (ev_name 2 (bv 2))) (EV.b ev_int) (nomark _)) (ss_one (sv_ret (bs_ret (ev_ix ix_seq ov_ix (EV.b (EF.v (ef_lst (by refine av_cons ev_int ?_; refine av_cons ev_int ?_; refine av_cons ev_int ?_; exact av_nil)))) (EV.b (ev_name 2 (bv 2))) (fun _ _ => rfl))))) ss_nil))
    (ss_one (sv_ret (bs_ret (ev_bin op_addD ov_add (EV.b ev_int) (EV.b (ev_call (be_call G_law_take (hr.mono (by decide)) rfl T.m_law_take T.F_law_take.kp T.b_law_take .nil pass0 (av_cons (ev_name 0 (bv 0)) (av_cons (ev_ix ix_seq ov_ix (EV.b (EF.v (ef_lst (by refine av_cons ev_int ?_; refine av_cons ev_int ?_; refine av_cons ev_int ?_; refine av_cons ev_int ?_; refine av_cons (ev_bin op_addD ov_add (EV.b (ev_bin op_fdiv ov_fdiv (EV.b (ev_name 1 (bv 1))) (EV.b ev_int))) (EV.b ev_int)) ?_; refine av_cons (ev_bin op_addD ov_add (EV.b (ev_bin op_fdiv ov_fdiv (EV.b (ev_name 1 (bv 1))) (EV.b ev_int))) (EV.b ev_int)) ?_; refine av_cons (ev_bin op_addD ov_add (EV.b (ev_bin op_fdiv ov_fdiv (EV.b (ev_name 1 (bv 1))) (EV.b ev_int))) (EV.b ev_int)) ?_; exact av_nil)))) (EV.b (ev_bin op_sub ov_sub (EV.b (ev_name 2 (bv 2))) (EV.b ev_int))) (fun _ _ => rfl)) av_nil)))))))))))
theorem ok_law_hill (G_law_names : FnOk P w K mg base CX0 2 awnames dwnames ["_law_pot_here", "_law_many"] (spP (famQ K) F_law_names)) (G_law_take : FnOk P w K mg base CX0 1 awtake dwtake ["_law_pot_here", "_law_many"] (spP (famQ K) F_law_take)) (G_law_pace : FnOk P w K mg base CX0 2 awpace dwpace ["_law_pot_here", "_law_dark"] (spP (famQ K) F_law_pace)) : FnOk P w K mg base CX0 3 awhill dwhill ["_law_pot_here"] (spP (famQ K) F_law_hill) := by
  have eb : defBody s_law_hill = defBody s_law_hill := rfl
  conv at eb => rhs; whnf
  have es : defScope s_law_hill = defScope s_law_hill := rfl
  conv at es => rhs; whnf
  refine fn_ok3 (N := ["_law_pot_here", "_law_many", "_law_dark", "_law_names_here", "_law_spots", "_law_ways", "_law_name", "_law_kind", "_law_at", "_law_to"]) (ps := ["_law_pot_here"]) (k := 2) (m := m_law_hill) rfl T.F_law_hill sc_law_hill (by decide) eb es fun cdv A outer s H E hr => ?_
  unfold m_law_hill
  exact (ss_cons (sv_set (bs_set (i := 1) sc_law_hill.nd rfl (Or.inl rfl) (ev_ix ix_seq ov_ix (EV.b (EF.v (ef_lst (av_cons (ev_bin op_addD ov_add (EV.b ev_int) (EV.b (ev_call (be_call G_law_take (hr.mono (by decide)) rfl T.m_law_take T.F_law_take.kp T.b_law_take .nil pass0 (av_cons (ev_name 0 (bv 0)) (av_cons ev_int av_nil)))))) (av_cons ev_int av_nil))))) (EV.b (ev_bin op_fdiv ov_fdiv (EV.b (ev_call (be_call G_law_take (hr.mono (by decide)) rfl T.m_law_take T.F_law_take.kp T.b_law_take .nil pass0 (av_cons (ev_name 0 (bv 0)) (av_cons ev_int av_nil))))) (EV.b ev_int))) (fun _ _ => rfl))))
    (ss_cons (sv_set (bs_set (i := 2) sc_law_hill.nd rfl (Or.inl rfl) (ev_bin op_mulE ov_mulE (EV.b (ev_bin op_addD ov_add (EV.b ev_int) (EV.b (ev_call (be_call G_law_take (hr.mono (by decide)) rfl T.m_law_take T.F_law_take.kp T.b_law_take .nil pass0 (av_cons (ev_name 0 (bv 0)) (av_cons ev_int av_nil))))))) (EV.b (ev_ix ix_seq ov_ix (EV.b (EF.v (ef_lst (by refine av_cons ev_int ?_; refine av_cons ev_int ?_; refine av_cons ev_int ?_; exact av_nil)))) (EV.b (ev_call (be_call G_law_take (hr.mono (by decide)) rfl T.m_law_take T.F_law_take.kp T.b_law_take .nil pass0 (av_cons (ev_name 0 (bv 0)) (av_cons ev_int av_nil))))) (fun _ _ => rfl))))))
    (ss_cons (sv_par (bs_par (i := 3) (j := 4) rfl sc_law_hill.nd rfl rfl (by decide) rfl rfl (av_cons (ev_call (be_call G_law_names (hr.mono (by decide)) rfl T.m_law_names T.F_law_names.kp T.b_law_names .nil pass0 (av_cons (ev_name 0 (bv 0)) (av_cons (ev_name 1 (bv 1)) av_nil)))) (av_cons (ev_call (be_call G_law_names (hr.mono (by decide)) rfl T.m_law_names T.F_law_names.kp T.b_law_names .nil pass0 (av_cons (ev_name 0 (bv 0)) (av_cons (ev_bin op_addD ov_add (EV.b ev_int) (EV.b (ev_call (be_call G_law_take (hr.mono (by decide)) rfl T.m_law_take T.F_law_take.kp T.b_law_take .nil pass0 (av_cons (ev_name 0 (bv 0)) (av_cons ev_int av_nil)))))) av_nil)))) av_nil)) rfl))
    (ss_cons (sv_own (bs_set (i := 5) sc_law_hill.nd rfl (Or.inl rfl) (ef_lst av_nil)))
    (ss_cons (sv_for (bs_for PassesOwn.never rfl (iv_v (ev_name 3 (bv 3))) (gs_name (bg_name (i := 6) sc_law_hill.nd rfl (Or.inl rfl))) (ss_cons (sv_set (bs_set (i := 7) sc_law_hill.nd rfl (Or.inl rfl) (ev_ix ix_seq ov_ix (EV.b (EF.v (ef_lst (by refine av_cons ev_str ?_; refine av_cons ev_str ?_; refine av_cons ev_str ?_; refine av_cons ev_str ?_; refine av_cons ev_str ?_; exact av_nil)))) (EV.b (ev_call (be_call G_law_take (hr.mono (by decide)) rfl T.m_law_take T.F_law_take.kp T.b_law_take .nil pass0 (av_cons (ev_name 0 (bv 0)) (av_cons ev_int av_nil))))) (fun _ _ => rfl))))
    (ss_cons (sv_par (bs_par (i := 8) (j := 9) rfl sc_law_hill.nd rfl rfl (by decide) rfl rfl (av_cons (ev_ix ix_seq ov_ix (EV.b (ev_name 4 (bv 4))) (EV.b (ev_call (be_call G_law_take (hr.mono (by decide)) rfl T.m_law_take T.F_law_take.kp T.b_law_take .nil pass0 (av_cons (ev_name 0 (bv 0)) (av_cons (ev_callB (be_callB call_lenDD rfl T.m_len PySem.boot_len (ab_cons (EV.b (ev_name 4 (bv 4))) ab_nil)) cv_len) av_nil))))) (fun _ _ => rfl)) (av_cons (ev_ix ix_seq ov_ix (EV.b (ev_name 4 (bv 4))) (EV.b (ev_call (be_call G_law_take (hr.mono (by decide)) rfl T.m_law_take T.F_law_take.kp T.b_law_take .nil pass0 (av_cons (ev_name 0 (bv 0)) (av_cons (ev_callB (be_callB call_lenDD rfl T.m_len PySem.boot_len (ab_cons (EV.b (ev_name 4 (bv 4))) ab_nil)) cv_len) av_nil))))) (fun _ _ => rfl)) av_nil)) rfl))
    (ss_one (sv_app (k := 5) (bs_expr (be_bm PySem.F.plainAttrs_list PySem.F.slot_list_append PySem.F.type_list_append mt_append (bv 5) (ba_cons (ev_tup (by refine av_cons (ev_name 6 (bv 6)) ?_; refine av_cons (ev_name 7 (bv 7)) ?_; refine av_cons (ev_name 8 (bv 8)) ?_; refine av_cons (ev_name 9 (bv 9)) ?_; refine av_cons (ev_call (be_call G_law_pace (hr.mono (by decide)) rfl T.m_law_pace T.F_law_pace.kp T.b_law_pace .nil pass0 (av_cons (ev_name 0 (bv 0)) (av_cons (ev_name 2 (bv 2)) av_nil)))) ?_; refine av_cons (ev_call (be_call G_law_pace (hr.mono (by decide)) rfl T.m_law_pace T.F_law_pace.kp T.b_law_pace .nil pass0 (av_cons (ev_name 0 (bv 0)) (av_cons (ev_name 2 (bv 2)) av_nil)))) ?_; exact av_nil)) ba_nil)))))))))
    (ss_one (sv_ret (bs_ret (ev_tup (by refine av_cons (ev_callB (be_callTy call_tuple_of rfl T.m_tuple PyProof.Rows.boot_tuple (ab_cons (EV.b (ev_name 5 (bv 5))) ab_nil)) cv_tup) ?_; refine av_cons (ev_ix ix_seq ov_ix (EV.b (ev_name 4 (bv 4))) (EV.b (ev_call (be_call G_law_take (hr.mono (by decide)) rfl T.m_law_take T.F_law_take.kp T.b_law_take .nil pass0 (av_cons (ev_name 0 (bv 0)) (av_cons (ev_callB (be_callB call_lenDD rfl T.m_len PySem.boot_len (ab_cons (EV.b (ev_name 4 (bv 4))) ab_nil)) cv_len) av_nil))))) (fun _ _ => rfl)) ?_; refine av_cons (ev_name 2 (bv 2)) ?_; exact av_nil))))))))))
theorem ok_law_least : FnOk P w K mg base CX0 1 awleast dwleast ["_law_way"] (spP (famQ K) F_law_least) := by
  have eb : defBody s_law_least = defBody s_law_least := rfl
  conv at eb => rhs; whnf
  have es : defScope s_law_least = defScope s_law_least := rfl
  conv at es => rhs; whnf
  refine fn_ok3 (N := ["_law_way"]) (ps := ["_law_way"]) (k := 0) (m := m_law_least) rfl T.F_law_least sc_law_least (by decide) eb es fun cdv A outer s H E hr => ?_
  unfold m_law_least
  exact (ss_one (sv_ret (bs_ret (ev_minD ⟨pe_minD rfl rfl T.m_min (EV.b (EF.v (ef_lc (be_lc (LcScope.mk2 (N := ["_law_pace_here"]) (js := [none]) (defScope s_law_least) ["_law_way"] rfl rfl (by decide +kernel)) rfl (iv_b (EV.b (ev_slice (be_slice sl_E (EV.b (ev_name 0 (bv 0))) (ov_some (EV.b ev_int)) ov_none) sv_E))) (fun _ _ _ _ => (gv_name (bg_name (i := 0) (by decide : (["_law_pace_here"] : List Str).Nodup) rfl (Or.inl rfl)))) (fun _ _ _ _ => (ts_one (tv_cmp op_gt ov_gt (EV.b (ev_name 0 (bv 0))) (EV.b ev_int) (nomark _)))) (fun _ _ _ _ => (ev_name 0 (bv 0))))))).out ev_int.out⟩))))
theorem ok_law_moves (G_law_least : FnOk P w K mg base CX0 1 awleast dwleast ["_law_way"] (spP (famQ K) F_law_least)) : FnOk P w K mg base CX0 2 awmoves dwmoves ["_law_hill_here", "_law_place"] (spP (famQ K) F_law_moves) := by
  have eb : defBody s_law_moves = defBody s_law_moves := rfl
  conv at eb => rhs; whnf
  have es : defScope s_law_moves = defScope s_law_moves := rfl
  conv at es => rhs; whnf
  refine fn_ok3 (N := ["_law_hill_here", "_law_place", "_law_found", "_law_turn", "_law_way", "_law_moment"]) (ps := ["_law_hill_here", "_law_place"]) (k := 1) (m := m_law_moves) rfl T.F_law_moves sc_law_moves (by decide) eb es fun cdv A outer s H E hr => ?_
  unfold m_law_moves
  exact (ss_cons (sv_disp (bs_set (i := 2) sc_law_moves.nd rfl (Or.inl rfl) (be_disp1 (EV.b (ev_name 1 (bv 1))) ev_int)))
    (ss_cons (sv_for (bs_for PassesOwn.never rfl (iv_v (ev_ix ix_seq ov_ix (EV.b (ev_name 0 (bv 0))) (EV.b ev_int) (fun _ _ => rfl))) (gs_name (bg_name (i := 3) sc_law_moves.nd rfl (Or.inl rfl))) (ss_one (sv_for (bs_for PassesOwn.never rfl (iv_v (ev_ix ix_seq ov_ix (EV.b (ev_name 0 (bv 0))) (EV.b ev_int) (fun _ _ => rfl))) (gs_name (bg_name (i := 4) sc_law_moves.nd rfl (Or.inl rfl))) (ss_one (sv_if (bs_if (WV.t (wv_and (tv_din (hu_of hr) (EV.b (ev_ix ix_seq ov_ix (EV.b (ev_name 4 (bv 4))) (EV.b ev_int) (fun _ _ => rfl))) (eb_name 2 (bv 2)) rfl) (wv_and1 (tv_cmp op_gt ov_gt (EV.b (ev_call (be_call G_law_least (hr.mono (by decide)) rfl T.m_law_least T.F_law_least.kp T.b_law_least .nil pass0 (av_cons (ev_name 4 (bv 4)) av_nil)))) (EV.b ev_int) (nomark _))))) (ss_cons (sv_set (bs_set (i := 5) sc_law_moves.nd rfl (Or.inl rfl) (ev_bin op_addD ov_add (EV.b (be_dget (hu_of hr) (eb_name 2 (bv 2)) (EV.b (ev_ix ix_seq ov_ix (EV.b (ev_name 4 (bv 4))) (EV.b ev_int) (fun _ _ => rfl))) (fun _ _ => rfl))) (EV.b (ev_call (be_call G_law_least (hr.mono (by decide)) rfl T.m_law_least T.F_law_least.kp T.b_law_least .nil pass0 (av_cons (ev_name 4 (bv 4)) av_nil)))))))
    (ss_one (sv_dput (k := 2) (bs_dput (hu_of hr) (bv 2) (EV.b (ev_ix ix_seq ov_ix (EV.b (ev_name 4 (bv 4))) (EV.b ev_int) (fun _ _ => rfl))) (ev_callB (be_callB (call_min2 rfl) rfl T.m_min PyProof.Rows.boot_min (ab_cons (EV.b (ev_dgt2 ⟨pe_dget2 (hu_of hr) (eb_name 2 (bv 2)).out (EV.b (ev_ix ix_seq ov_ix (EV.b (ev_name 4 (bv 4))) (EV.b ev_int) (fun _ _ => rfl))).out (ev_name 5 (bv 5)).out ⟨rfl, rfl, rfl, rfl⟩⟩)) (ab_cons (EV.b (ev_name 5 (bv 5))) ab_nil))) cv_min2))))) ss_nil))))))))
    (ss_one (sv_ret (bs_ret (ev_name 2 (bv 2)))))))
theorem ok_law_slope : FnOk P w K mg base CX0 1 awslope dwslope ["_law_hill_here", "_law_look"] (spP (famQ K) F_law_slope) := by
  have eb : defBody s_law_slope = defBody s_law_slope := rfl
  conv at eb => rhs; whnf
  have es : defScope s_law_slope = defScope s_law_slope := rfl
  conv at es => rhs; whnf
  refine fn_ok3 (N := ["_law_hill_here", "_law_look"]) (ps := ["_law_hill_here", "_law_look"]) (k := 0) (m := m_law_slope) rfl T.F_law_slope sc_law_slope (by decide) eb es fun cdv A outer s H E hr => ?_
  unfold m_law_slope
  exact (ss_one (sv_ret (bs_ret (ev_ix ix_seq ov_ix (EV.b (EF.v (ef_lc (be_lc (LcScope.mk2 (N := ["_law_way", "_law_look"]) (js := [none, some 1]) (defScope s_law_slope) ["_law_hill_here", "_law_look"] rfl rfl (by decide +kernel)) rfl (iv_b (EV.b (ev_ix ix_seq ov_ix (EV.b (ev_name 0 (bv 0))) (EV.b ev_int) (fun _ _ => rfl)))) (fun _ _ _ _ => (gv_name (bg_name (i := 0) (by decide : (["_law_way", "_law_look"] : List Str).Nodup) rfl (Or.inl rfl)))) (fun _ _ _ _ => (ts_one (tv_cmp (op_eqD hr.units) (ov_eq false) (EV.b (ev_ix ix_seq ov_ix (EV.b (ev_name 0 (bv 0))) (EV.b ev_int) (fun _ _ => rfl))) (EV.b (ev_ix ix_seq ov_ix (EV.b (ev_name 1 (bv 1))) (EV.b ev_int) (fun _ _ => rfl))) (nomark _)))) (fun _ _ _ _ => (ev_name 0 (bv 0))))))) (EV.b ev_int) (fun _ _ => rfl)))))
theorem ok_law_behind (G_law_slope : FnOk P w K mg base CX0 1 awslope dwslope ["_law_hill_here", "_law_look"] (spP (famQ K) F_law_slope)) (G_law_moves : FnOk P w K mg base CX0 2 awmoves dwmoves ["_law_hill_here", "_law_place"] (spP (famQ K) F_law_moves)) (G_law_least : FnOk P w K mg base CX0 1 awleast dwleast ["_law_way"] (spP (famQ K) F_law_least)) : FnOk P w K mg base CX0 3 awbehind dwbehind ["_law_hill_here", "_law_looks_here"] (spP (famQ K) F_law_behind) := by
  have eb : defBody s_law_behind = defBody s_law_behind := rfl
  conv at eb => rhs; whnf
  have es : defScope s_law_behind = defScope s_law_behind := rfl
  conv at es => rhs; whnf
  refine fn_ok3 (N := ["_law_hill_here", "_law_looks_here", "_law_found", "_law_one", "_law_way", "_law_spots", "_law_free", "_law_starts", "_law_row", "_law_k", "_law_other"]) (ps := ["_law_hill_here", "_law_looks_here"]) (k := 2) (m := m_law_behind) rfl T.F_law_behind sc_law_behind (by decide) eb es fun cdv A outer s H E hr => ?_
  unfold m_law_behind
  exact (ss_cons (sv_own (bs_set (i := 2) sc_law_behind.nd rfl (Or.inl rfl) (ef_lst av_nil)))
    (ss_cons (sv_for (bs_for PassesOwn.never rfl (iv_v (ev_name 1 (bv 1))) (gs_name (bg_name (i := 3) sc_law_behind.nd rfl (Or.inl rfl))) (ss_cons (sv_set (bs_set (i := 4) sc_law_behind.nd rfl (Or.inl rfl) (ev_call (be_call G_law_slope (hr.mono (by decide)) rfl T.m_law_slope T.F_law_slope.kp T.b_law_slope .nil pass0 (av_cons (ev_name 0 (bv 0)) (av_cons (ev_name 3 (bv 3)) av_nil))))))
    (ss_cons (sv_par (bs_par (i := 5) (j := 6) rfl sc_law_behind.nd rfl rfl (by decide) rfl rfl (av_cons (ev_call (be_call G_law_moves (hr.mono (by decide)) rfl T.m_law_moves T.F_law_moves.kp T.b_law_moves .nil pass0 (av_cons (ev_name 0 (bv 0)) (av_cons (ev_ix ix_seq ov_ix (EV.b (ev_name 4 (bv 4))) (EV.b ev_int) (fun _ _ => rfl)) av_nil)))) (av_cons (ev_bin op_addD ov_add (EV.b (ev_ix ix_seq ov_ix (EV.b (ev_name 3 (bv 3))) (EV.b ev_int) (fun _ _ => rfl))) (EV.b (ev_call (be_call G_law_least (hr.mono (by decide)) rfl T.m_law_least T.F_law_least.kp T.b_law_least .nil pass0 (av_cons (ev_name 4 (bv 4)) av_nil))))) av_nil)) rfl))
    (ss_cons (sv_set (asg_v (asg_lc (bs_lc (k := 7) sc_law_behind.nd rfl (Or.inl rfl) (LcScope.mk2 (N := ["_law_other", "_law_hill_here"]) (js := [none, some 0]) (defScope s_law_behind) ["_law_hill_here", "_law_looks_here", "_law_found", "_law_one", "_law_way", "_law_spots", "_law_free", "_law_starts", "_law_row", "_law_k", "_law_other"] rfl rfl (by decide +kernel)) rfl (iv_b (EV.b (ev_name 1 (bv 1)))) (fun _ _ _ _ => (gv_name (bg_name (i := 0) (by decide : (["_law_other", "_law_hill_here"] : List Str).Nodup) rfl (Or.inl rfl)))) (fun _ _ _ _ => ts_nil) (fun _ _ _ _ => (ev_ix ix_seq ov_ix (EV.b (ev_call (be_call G_law_slope (hr.mono (by decide)) rfl T.m_law_slope T.F_law_slope.kp T.b_law_slope .nil pass0 (av_cons (ev_name 1 (bv 1)) (av_cons (ev_name 0 (bv 0)) av_nil))))) (EV.b ev_int) (fun _ _ => rfl)))))))
    (ss_cons (sv_own (bs_set (i := 8) sc_law_behind.nd rfl (Or.inl rfl) (ef_lst av_nil)))
    (ss_cons (sv_forE (bs_for PassesOwn.never rfl (ie_T (bi_enT rfl T.m_enumerate (av_cons (ev_name 1 (bv 1)) av_nil))) (gs_tup (ks := [9, 10]) (bg_tup rfl (bgs_cons (bg_name (i := 9) sc_law_behind.nd rfl (Or.inl rfl)) (bgs_cons (bg_name (i := 10) sc_law_behind.nd rfl (Or.inl rfl)) bgs_nil)))) (ss_one (sv_if (bs_if (WV.t (wv_and (tv_din (hu_of hr) (EV.b (ev_ix ix_seq ov_ix (EV.b (ev_name 7 (bv 7))) (EV.b (ev_name 9 (bv 9))) (fun _ _ => rfl))) (EV.b (ev_name 5 (bv 5))) rfl) (wv_and1 (tv_cmp op_leD ov_leD (EV.b (ev_bin op_addD ov_add (EV.b (ev_name 6 (bv 6))) (EV.b (be_dget (hu_of hr) (EV.b (ev_name 5 (bv 5))) (EV.b (ev_ix ix_seq ov_ix (EV.b (ev_name 7 (bv 7))) (EV.b (ev_name 9 (bv 9))) (fun _ _ => rfl))) (fun _ _ => rfl))))) (EV.b (ev_ix ix_seq ov_ix (EV.b (ev_name 10 (bv 10))) (EV.b ev_int) (fun _ _ => rfl))) (nomark _))))) (ss_one (sv_app (k := 8) (bs_expr (be_bm PySem.F.plainAttrs_list PySem.F.slot_list_append PySem.F.type_list_append mt_append (bv 8) (ba_cons (ev_name 9 (bv 9)) ba_nil))))) ss_nil)))))
    (ss_one (sv_frzO 8 (sv_app (k := 2) (bs_expr (be_bm PySem.F.plainAttrs_list PySem.F.slot_list_append PySem.F.type_list_append mt_append (bv 2) (ba_cons (ev_name 8 (bv 8)) ba_nil)))))))))))))
    (ss_one (sv_ret (bs_ret (ev_name 2 (bv 2)))))))
theorem ok_law_looks (G_law_take : FnOk P w K mg base CX0 1 awtake dwtake ["_law_pot_here", "_law_many"] (spP (famQ K) F_law_take)) (G_law_least : FnOk P w K mg base CX0 1 awleast dwleast ["_law_way"] (spP (famQ K) F_law_least)) : FnOk P w K mg base CX0 2 awlooks dwlooks ["_law_pot_here", "_law_hill_here"] (spP (famQ K) F_law_looks) := by
  have eb : defBody s_law_looks = defBody s_law_looks := rfl
  conv at eb => rhs; whnf
  have es : defScope s_law_looks = defScope s_law_looks := rfl
  conv at es => rhs; whnf
  refine fn_ok3 (N := ["_law_pot_here", "_law_hill_here", "_law_slopes", "_law_looks_here", "_law_many", "_law_span", "_law_k", "_law_again", "_law_look"]) (ps := ["_law_pot_here", "_law_hill_here"]) (k := 1) (m := m_law_looks) rfl T.F_law_looks sc_law_looks (by decide) eb es fun cdv A outer s H E hr => ?_
  unfold m_law_looks
  exact (ss_cons (sv_set (asg_v (asg_lc (bs_lc (k := 2) sc_law_looks.nd rfl (Or.inl rfl) (LcScope.mk2 (N := ["_law_way"]) (js := [none]) (defScope s_law_looks) ["_law_pot_here", "_law_hill_here", "_law_slopes", "_law_looks_here", "_law_many", "_law_span", "_law_k", "_law_again", "_law_look"] rfl rfl (by decide +kernel)) rfl (iv_b (EV.b (ev_ix ix_seq ov_ix (EV.b (ev_name 1 (bv 1))) (EV.b ev_int) (fun _ _ => rfl)))) (fun _ _ _ _ => (gv_name (bg_name (i := 0) (by decide : (["_law_way"] : List Str).Nodup) rfl (Or.inl rfl)))) (fun _ _ _ _ => (ts_one (WV.t (wv_and (tv_cmp (op_eqD hr.units) (ov_eq false) (EV.b (ev_ix ix_seq ov_ix (EV.b (ev_name 0 (bv 0))) (EV.b ev_int) (fun _ _ => rfl))) (EV.b ev_str) (nomark _)) (wv_and1 (tv_cmp op_gt ov_gt (EV.b (ev_call (be_call G_law_least (hr.mono (by decide)) rfl T.m_law_least T.F_law_least.kp T.b_law_least .nil pass0 (av_cons (ev_name 0 (bv 0)) av_nil)))) (EV.b ev_int) (nomark _))))))) (fun _ _ _ _ => (ev_ix ix_seq ov_ix (EV.b (ev_name 0 (bv 0))) (EV.b ev_int) (fun _ _ => rfl)))))))
    (ss_cons (sv_own (bs_set (i := 3) sc_law_looks.nd rfl (Or.inl rfl) (ef_lst av_nil)))
    (ss_cons (sv_if (bs_if (tv_cmp (op_neD hr.units) (ov_eq true) (EV.b (ev_name 2 (bv 2))) (EV.b (EF.v (ef_lst av_nil))) (nomark _)) (ss_cons (sv_set (bs_set (i := 4) sc_law_looks.nd rfl (Or.inl rfl) (ev_ix ix_seq ov_ix (EV.b (EF.v (ef_lst (av_cons (ev_call (be_call G_law_take (hr.mono (by decide)) rfl T.m_law_take T.F_law_take.kp T.b_law_take .nil pass0 (av_cons (ev_name 0 (bv 0)) (av_cons ev_int av_nil)))) (av_cons (ev_bin op_addD ov_add (EV.b ev_int) (EV.b (ev_call (be_call G_law_take (hr.mono (by decide)) rfl T.m_law_take T.F_law_take.kp T.b_law_take .nil pass0 (av_cons (ev_name 0 (bv 0)) (av_cons ev_int av_nil)))))) av_nil))))) (EV.b (ev_bin op_fdiv ov_fdiv (EV.b (ev_call (be_call G_law_take (hr.mono (by decide)) rfl T.m_law_take T.F_law_take.kp T.b_law_take .nil pass0 (av_cons (ev_name 0 (bv 0)) (av_cons ev_int av_nil))))) (EV.b ev_int))) (fun _ _ => rfl))))
    (ss_cons (sv_set (bs_set (i := 5) sc_law_looks.nd rfl (Or.inl rfl) (ev_ix ix_seq ov_ix (EV.b (EF.v (ef_lst (av_cons (ev_bin op_addD ov_add (EV.b (ev_ix ix_seq ov_ix (EV.b (ev_name 1 (bv 1))) (EV.b ev_int) (fun _ _ => rfl))) (EV.b ev_int)) (av_cons (ev_bin op_addD ov_add (EV.b ev_int) (EV.b (ev_call (be_call G_law_take (hr.mono (by decide)) rfl T.m_law_take T.F_law_take.kp T.b_law_take .nil pass0 (av_cons (ev_name 0 (bv 0)) (av_cons (ev_bin op_addD ov_add (EV.b (ev_ix ix_seq ov_ix (EV.b (ev_name 1 (bv 1))) (EV.b ev_int) (fun _ _ => rfl))) (EV.b ev_int)) av_nil)))))) av_nil))))) (EV.b (ev_call (be_call G_law_take (hr.mono (by decide)) rfl T.m_law_take T.F_law_take.kp T.b_law_take .nil pass0 (av_cons (ev_name 0 (bv 0)) (av_cons ev_int av_nil))))) (fun _ _ => rfl))))
    (ss_one (sv_for (bs_for PassesOwn.never rfl (iv_rng1 (bi_range1 rfl T.m_range (ab_cons (EV.b (ev_name 4 (bv 4))) ab_nil))) (gs_name (bg_name (i := 6) sc_law_looks.nd rfl (Or.inl rfl))) (ss_cons (sv_set (bs_set (i := 7) sc_law_looks.nd rfl (Or.inl rfl) (ev_call (be_call G_law_take (hr.mono (by decide)) rfl T.m_law_take T.F_law_take.kp T.b_law_take .nil pass0 (av_cons (ev_name 0 (bv 0)) (av_cons ev_int av_nil))))))
    (ss_cons (sv_set (bs_set (i := 8) sc_law_looks.nd rfl (Or.inl rfl) (ev_tup (av_cons (ev_ix ix_seq ov_ix (EV.b (ev_name 2 (bv 2))) (EV.b (ev_call (be_call G_law_take (hr.mono (by decide)) rfl T.m_law_take T.F_law_take.kp T.b_law_take .nil pass0 (av_cons (ev_name 0 (bv 0)) (av_cons (ev_callB (be_callB call_lenDD rfl T.m_len PySem.boot_len (ab_cons (EV.b (ev_name 2 (bv 2))) ab_nil)) cv_len) av_nil))))) (fun _ _ => rfl)) (av_cons (ev_call (be_call G_law_take (hr.mono (by decide)) rfl T.m_law_take T.F_law_take.kp T.b_law_take .nil pass0 (av_cons (ev_name 0 (bv 0)) (av_cons (ev_name 5 (bv 5)) av_nil)))) av_nil)))))
    (ss_cons (sv_app (k := 3) (bs_expr (be_bm PySem.F.plainAttrs_list PySem.F.slot_list_append PySem.F.type_list_append mt_append (bv 3) (ba_cons (ev_name 8 (bv 8)) ba_nil))))
    (ss_one (sv_if (bs_if (tv_cmp (op_eqD hr.units) (ov_eq false) (EV.b (ev_name 7 (bv 7))) (EV.b ev_int) (nomark _)) (ss_one (sv_seti (k := 3) (bs_asg (ev_ix ix_seq ov_ix (eb_name 3 (bv 3)) (EV.b (ev_call (be_call G_law_take (hr.mono (by decide)) rfl T.m_law_take T.F_law_take.kp T.b_law_take .nil pass0 (av_cons (ev_name 0 (bv 0)) (av_cons (ev_callB (be_callB call_lenDD rfl T.m_len PySem.boot_len (ab_cons (eb_name 3 (bv 3)) ab_nil)) cv_len) av_nil))))) (fun _ _ => rfl)) (bg_sub (bv 3) (EV.b (ev_name 6 (bv 6))) set_list)))) ss_nil))))))))))) ss_nil))
    (ss_one (sv_ret (bs_ret (ev_callB (be_callTy call_tuple_of rfl T.m_tuple PyProof.Rows.boot_tuple (ab_cons (EV.b (ev_name 3 (bv 3))) ab_nil)) cv_tup)))))))
theorem ok_law (G_law_pot : FnOk P w K mg base CX0 1 awpot dwpot ["_law_script"] (spPot K)) (G_law_hill : FnOk P w K mg base CX0 3 awhill dwhill ["_law_pot_here"] (spP (famQ K) F_law_hill)) (G_law_looks : FnOk P w K mg base CX0 2 awlooks dwlooks ["_law_pot_here", "_law_hill_here"] (spP (famQ K) F_law_looks)) (G_law_behind : FnOk P w K mg base CX0 3 awbehind dwbehind ["_law_hill_here", "_law_looks_here"] (spP (famQ K) F_law_behind)) (G_follows : FnOk P w K mg base CX0 4 a_follows d_follows ["hill", "one", "other"] (spP (famQ K) F_follows)) (G_law_slope : FnOk P w K mg base CX0 1 awslope dwslope ["_law_hill_here", "_law_look"] (spP (famQ K) F_law_slope)) (G_law_take : FnOk P w K mg base CX0 1 awtake dwtake ["_law_pot_here", "_law_many"] (spP (famQ K) F_law_take)) (G_law_moves : FnOk P w K mg base CX0 2 awmoves dwmoves ["_law_hill_here", "_law_place"] (spP (famQ K) F_law_moves)) (G_law_least : FnOk P w K mg base CX0 1 awleast dwleast ["_law_way"] (spP (famQ K) F_law_least)) (hm : (m_law ((List.replicate 15 un).set 1 (.val .bag))).wp 1000000 fun f _ => f = .rt (.bl true)) : FnOk P w K mg base CX0 5 a_law d_law ["_law_script"] (spLawT K []) := by
  have eb : defBody s_law = defBody s_law := rfl
  conv at eb => rhs; whnf
  have es : defScope s_law = defScope s_law := rfl
  conv at es => rhs; whnf
  refine L2.law_okQ (tabs := []) (N := ["_law_script", "_law_pot_here", "_law_hill_here", "_law_looks_here", "_law_rows", "_law_turn", "_law_at", "_law_to", "_law_one", "_law_other", "_law_found", "_law_way", "_law_spots", "_law_start", "_law_first"]) (k := 4) (b := 1) (m := m_law) T.F_law sc_law eb es (fun cdv A outer s H E hr => ?_) (fun cdv A outer s H E hr => ?_) hm (by decide) (by decide) (by decide)
  · exact (bs_set (i := 1) sc_law.nd rfl (Or.inl rfl) (be_call G_law_pot (hr.mono (by decide)) rfl T.m_law_pot T.F_law_pot.kp T.b_law_pot .nil pass0 (ba_cons (bv 0) ba_nil)))
  · unfold m_law
    exact (ss_cons (sv_set (bs_set (i := 2) sc_law.nd rfl (Or.inl rfl) (ev_call (be_call G_law_hill (hr.mono (by decide)) rfl T.m_law_hill T.F_law_hill.kp T.b_law_hill .nil pass0 (av_cons (ev_name 1 (bv 1)) av_nil)))))
    (ss_cons (sv_set (bs_set (i := 3) sc_law.nd rfl (Or.inl rfl) (ev_call (be_call G_law_looks (hr.mono (by decide)) rfl T.m_law_looks T.F_law_looks.kp T.b_law_looks .nil pass0 (av_cons (ev_name 1 (bv 1)) (av_cons (ev_name 2 (bv 2)) av_nil))))))
    (ss_cons (sv_set (bs_set (i := 4) sc_law.nd rfl (Or.inl rfl) (ev_call (be_call G_law_behind (hr.mono (by decide)) rfl T.m_law_behind T.F_law_behind.kp T.b_law_behind .nil pass0 (av_cons (ev_name 2 (bv 2)) (av_cons (ev_name 3 (bv 3)) av_nil))))))
    (ss_cons (sv_for (bs_for PassesOwn.never rfl (iv_rng1 (bi_range1 rfl T.m_range (ab_cons (EV.b (ev_bin op_mulE ov_mulE (EV.b ev_int) (EV.b (ev_callB (be_callTy call_int1 rfl T.m_int PyProof.Rows.boot_int (ab_cons (EV.b (ev_cmp (op_neD hr.units) (ov_eq true) (EV.b (ev_name 3 (bv 3))) (EV.b (ev_tup av_nil)) (nomark _))) ab_nil)) cv_int)))) ab_nil))) (gs_name (bg_name (i := 5) sc_law.nd rfl (Or.inl rfl))) (ss_cons (sv_par (bs_par (i := 6) (j := 7) rfl sc_law.nd rfl rfl (by decide) rfl rfl (av_cons (ev_call (be_call G_law_take (hr.mono (by decide)) rfl T.m_law_take T.F_law_take.kp T.b_law_take .nil pass0 (av_cons (ev_name 1 (bv 1)) (av_cons (ev_callB (be_callB call_lenDD rfl T.m_len PySem.boot_len (ab_cons (EV.b (ev_name 3 (bv 3))) ab_nil)) cv_len) av_nil)))) (av_cons (ev_call (be_call G_law_take (hr.mono (by decide)) rfl T.m_law_take T.F_law_take.kp T.b_law_take .nil pass0 (av_cons (ev_name 1 (bv 1)) (av_cons (ev_callB (be_callB call_lenDD rfl T.m_len PySem.boot_len (ab_cons (EV.b (ev_name 3 (bv 3))) ab_nil)) cv_len) av_nil)))) av_nil)) rfl))
    (ss_cons (sv_par (bs_par (i := 8) (j := 9) rfl sc_law.nd rfl rfl (by decide) rfl rfl (av_cons (ev_ix ix_seq ov_ix (EV.b (ev_name 3 (bv 3))) (EV.b (ev_name 6 (bv 6))) (fun _ _ => rfl)) (av_cons (ev_ix ix_seq ov_ix (EV.b (ev_name 3 (bv 3))) (EV.b (ev_name 7 (bv 7))) (fun _ _ => rfl)) av_nil)) rfl))
    (ss_cons (sv_set (bs_set (i := 10) sc_law.nd rfl (Or.inl rfl) (ev_call (be_call G_follows (hr.mono (by decide)) rfl T.m_follows T.F_follows.kp T.b_follows .nil pass0 (by refine av_cons (ev_name 2 (bv 2)) ?_; refine av_cons (ev_name 8 (bv 8)) ?_; refine av_cons (ev_name 9 (bv 9)) ?_; exact av_nil)))))
    (ss_cons (sv_if (bs_if (WV.t (wv_or (tv_not (tv_val (ev_isi (be_callB call_isi rfl T.m_isinstance PyProof.Rows.boot_isinstance (ba_cons (EV.b (ev_name 10 (bv 10))) (ba_cons (be_bltn (v := .ty "bool") rfl T.m_bool PyProof.Rows.boot_bool rfl) ba_nil))) kit_bool))) (wv_or (tv_cmp (op_neD hr.units) (ov_eq true) (EV.b (ev_name 10 (bv 10))) (EV.b (ev_cmp op_inD (ov_in false) (EV.b (ev_name 7 (bv 7))) (EV.b (ev_ix ix_seq ov_ix (EV.b (ev_name 4 (bv 4))) (EV.b (ev_name 6 (bv 6))) (fun _ _ => rfl))) rfl)) (nomark _)) (wv_or1 (tv_cmp op_isnot_bl ov_isnB (EV.b (ev_call (be_call G_follows (hr.mono (by decide)) rfl T.m_follows T.F_follows.kp T.b_follows .nil pass0 (by refine av_cons (ev_name 2 (bv 2)) ?_; refine av_cons (ev_name 8 (bv 8)) ?_; refine av_cons (ev_name 8 (bv 8)) ?_; exact av_nil)))) (EV.b ev_bl) (nomark _)))))) (ss_one (sv_ret (bs_ret ev_bl))) ss_nil))
    (ss_cons (sv_set (bs_set (i := 11) sc_law.nd rfl (Or.inl rfl) (ev_call (be_call G_law_slope (hr.mono (by decide)) rfl T.m_law_slope T.F_law_slope.kp T.b_law_slope .nil pass0 (av_cons (ev_name 2 (bv 2)) (av_cons (ev_name 8 (bv 8)) av_nil))))))
    (ss_cons (sv_par (bs_par (i := 12) (j := 13) rfl sc_law.nd rfl rfl (by decide) rfl rfl (av_cons (ev_call (be_call G_law_moves (hr.mono (by decide)) rfl T.m_law_moves T.F_law_moves.kp T.b_law_moves .nil pass0 (av_cons (ev_name 2 (bv 2)) (av_cons (ev_ix ix_seq ov_ix (EV.b (ev_name 11 (bv 11))) (EV.b ev_int) (fun _ _ => rfl)) av_nil)))) (av_cons (ev_ix ix_seq ov_ix (EV.b (ev_call (be_call G_law_slope (hr.mono (by decide)) rfl T.m_law_slope T.F_law_slope.kp T.b_law_slope .nil pass0 (av_cons (ev_name 2 (bv 2)) (av_cons (ev_name 9 (bv 9)) av_nil))))) (EV.b ev_int) (fun _ _ => rfl)) av_nil)) rfl))
    (ss_one (sv_if (bs_if (tv_din (hu_of hr) (EV.b (ev_name 13 (bv 13))) (EV.b (ev_name 12 (bv 12))) rfl) (ss_cons (sv_set (bs_set (i := 14) sc_law.nd rfl (Or.inl rfl) (ev_bin op_addD ov_add (EV.b (ev_bin op_addD ov_add (EV.b (ev_ix ix_seq ov_ix (EV.b (ev_name 8 (bv 8))) (EV.b ev_int) (fun _ _ => rfl))) (EV.b (ev_call (be_call G_law_least (hr.mono (by decide)) rfl T.m_law_least T.F_law_least.kp T.b_law_least .nil pass0 (av_cons (ev_name 11 (bv 11)) av_nil)))))) (EV.b (be_dget (hu_of hr) (EV.b (ev_name 12 (bv 12))) (EV.b (ev_name 13 (bv 13))) (fun _ _ => rfl))))))
    (ss_cons (sv_if (bs_if (WV.t (wv_and (tv_cmp op_leD ov_leD (EV.b (ev_name 14 (bv 14))) (EV.b (ev_ix ix_seq ov_ix (EV.b (ev_name 2 (bv 2))) (EV.b ev_int) (fun _ _ => rfl))) (nomark _)) (wv_and1 (tv_cmp op_isnot_bl ov_isnB (EV.b (ev_call (be_call G_follows (hr.mono (by decide)) rfl T.m_follows T.F_follows.kp T.b_follows .nil pass0 (by refine av_cons (ev_name 2 (bv 2)) ?_; refine av_cons (ev_name 8 (bv 8)) ?_; refine av_cons (ev_tup (av_cons (ev_ix ix_seq ov_ix (EV.b (ev_name 9 (bv 9))) (EV.b ev_int) (fun _ _ => rfl)) (av_cons (ev_name 14 (bv 14)) av_nil))) ?_; exact av_nil)))) (EV.b ev_bl) (nomark _))))) (ss_one (sv_ret (bs_ret ev_bl))) ss_nil))
    (ss_one (sv_if (bs_if (WV.t (wv_and (tv_cmp op_leD ov_leD (EV.b (ev_name 14 (bv 14))) (EV.b (ev_bin op_addD ov_add (EV.b (ev_ix ix_seq ov_ix (EV.b (ev_name 2 (bv 2))) (EV.b ev_int) (fun _ _ => rfl))) (EV.b ev_int))) (nomark _)) (wv_and1 (tv_cmp op_isnot_bl ov_isnB (EV.b (ev_call (be_call G_follows (hr.mono (by decide)) rfl T.m_follows T.F_follows.kp T.b_follows .nil pass0 (by refine av_cons (ev_name 2 (bv 2)) ?_; refine av_cons (ev_name 8 (bv 8)) ?_; refine av_cons (ev_tup (av_cons (ev_ix ix_seq ov_ix (EV.b (ev_name 9 (bv 9))) (EV.b ev_int) (fun _ _ => rfl)) (av_cons (ev_bin op_sub ov_sub (EV.b (ev_name 14 (bv 14))) (EV.b ev_int)) av_nil))) ?_; exact av_nil)))) (EV.b ev_bl) (nomark _))))) (ss_one (sv_ret (bs_ret ev_bl))) ss_nil))))) ss_nil)))))))))))
    (ss_one (sv_ret (bs_ret ev_bl)))))))
end
abbrev abcV : PV := .str "abcdefghijklmnopqrstuvwxyz"
theorem name_loop {lo y6 y7 y9 : Ent} {k : Int} {mt : PEnv → M Bool} {mb : PEnv → M Fl} {l : List Str} {c : Int} (h0 : 0 ≤ c) (hl : l.length < 19)
    (ht : ∀ (c : Int) (x : Str) (y9 : Ent), mt [.val .bag, .val (.int k), .val abcV, .val (.int c), lo, .own (l.map PV.str), y6, y7, .val (.str x), y9] = .ret (inN l x))
    (hb : ∀ (c : Int) (x : Str) (y9 : Ent), 0 ≤ c → ∃ y9', mb [.val .bag, .val (.int k), .val abcV, .val (.int c), lo, .own (l.map PV.str), y6, y7, .val (.str x), y9] = .ret (.nx [.val .bag, .val (.int k), .val abcV, .val (.int (c + 1)), lo, .own (l.map PV.str), y6, y7, .val (.str (nm3 (c + 1))), y9'])) :
    ∀ (r i : Nat) (x : Str) (y9 : Ent), i + r = 20 → (∀ j : Nat, 1 ≤ j → j < i → nm3 (c + j) ∈ l) → (1 ≤ i → x = nm3 (c + i)) →
      ∃ (c' : Int) (x' : Str) (y9' : Ent), 0 ≤ c' ∧ x' ∉ l ∧ whP mt mb (980 + r) [.val .bag, .val (.int k), .val abcV, .val (.int (c + i)), lo, .own (l.map PV.str), y6, y7, .val (.str x), y9] = .ret (.nx [.val .bag, .val (.int k), .val abcV, .val (.int c'), lo, .own (l.map PV.str), y6, y7, .val (.str x'), y9']) := by
  intro r
  induction r with
  | zero =>
    intro i x y9 hi hj hx
    have : i = 20 := by omega
    subst this
    have := many_in (l := l) (c := c) h0 (n := 19) (by omega) fun j h1 h2 => hj j h1 (by omega)
    omega
  | succ r ih =>
    intro i x y9 hi hj hx
    show ∃ (c' : Int) (x' : Str) (y9' : Ent), 0 ≤ c' ∧ x' ∉ l ∧ whP mt mb ((980 + r) + 1) _ = _
    unfold whP
    rw [ht, rZ]
    cases e : inN l x with
    | false =>
      refine ⟨c + i, x, y9, by omega, fun z => ?_, rfl⟩
      rw [inN_iff.mpr z] at e
      cases e
    | true =>
      simp only [if_true]
      obtain ⟨y9', eb⟩ := hb (c + i) x y9 (by omega)
      rw [eb, rZ]
      have ec : c + (i : Int) + 1 = c + ((i + 1 : Nat) : Int) := by omega
      rw [ec]
      exact ih (i + 1) _ y9' (by omega) (fun j h1 h2 => by
        by_cases z : j = i
        · subst z; rw [← hx h1]; exact inN_iff.mp e
        · exact hj j h1 (by omega)) (fun _ => rfl)
theorem name_gen {lo y6 y7 y9 : Ent} {k : Int} {mt : PEnv → M Bool} {mb : PEnv → M Fl} {l : List Str} {c : Int} {x : Str} (h0 : 0 ≤ c) (hl : l.length < 19)
    (ht : ∀ (c : Int) (x : Str) (y9 : Ent), mt [.val .bag, .val (.int k), .val abcV, .val (.int c), lo, .own (l.map PV.str), y6, y7, .val (.str x), y9] = .ret (inN l x))
    (hb : ∀ (c : Int) (x : Str) (y9 : Ent), 0 ≤ c → ∃ y9', mb [.val .bag, .val (.int k), .val abcV, .val (.int c), lo, .own (l.map PV.str), y6, y7, .val (.str x), y9] = .ret (.nx [.val .bag, .val (.int k), .val abcV, .val (.int (c + 1)), lo, .own (l.map PV.str), y6, y7, .val (.str (nm3 (c + 1))), y9'])) :
    Gen (whP mt mb 1000 [.val .bag, .val (.int k), .val abcV, .val (.int c), lo, .own (l.map PV.str), y6, y7, .val (.str x), y9]) 0 fun f => ∃ ρ', f = .nx ρ' ∧ ∃ (c : Int) (x : Str) (e9 : Ent), 0 ≤ c ∧ x ∉ l ∧ ρ' = [.val .bag, .val (.int k), .val abcV, .val (.int c), lo, .own (l.map PV.str), y6, y7, .val (.str x), e9] := by
  obtain ⟨c', x', e9', h1, h2, h3⟩ := name_loop (y9 := y9) h0 hl ht hb 20 0 x y9 rfl (fun j h1 h2 => by omega) (fun h => by omega)
  rw [show c + ((0 : Nat) : Int) = c by omega] at h3
  exact Gen.eq h3 ⟨_, rfl, c', x', e9', h1, h2, rfl⟩
def NamesOk (y : PV) (k : Nat) : Prop := ∃ zs : List Str, y = .lst (zs.map PV.str) ∧ zs.length = k ∧ zs.Nodup
theorem gen_names {k : Int} (k0 : 1 ≤ k) (k1 : k ≤ 12) : Gen (F_law_names [.bag, .int k]) 120 (fun y => NamesOk y k.toNat) := by
  unfold F_law_names m_law_names
  show Gen ((seqP _ _ [val .bag, val (.int k), un, un, un, un, un, un, un, un]).bind finP) 120 _
  refine gnF (ρ' := [val .bag, val (.int k), val abcV, un, un, un, un, un, un, un]) rfl ?_
  refine Gen.le (gseqF (c := 1) (d := 110) (I := fun ρ => ∃ c : Int, 0 ≤ c ∧ ρ = [val .bag, val (.int k), val abcV, val (.int c), un, un, un, un, un, un]) ?_ ?_) (by decide)
  · simp only [setP, consA, gV0, gVs, rZ, F_law_take]
    exact Gen.le (drawB (c := 0) (by omega) (by omega) fun d d0 d1 => Gen.ret ⟨_, rfl, d, d0, rfl⟩) (by decide)
  rintro _ ⟨c, c0, rfl⟩
  refine Gen.le (gseqF (c := 1) (d := 109) (I := fun ρ => ∃ g : Int, 1 ≤ g ∧ g ≤ 8 ∧ ρ = [val .bag, val (.int k), val abcV, val (.int c), val (.int g), un, un, un, un, un]) ?_ ?_) (by decide)
  · simp only [setP, bin2, lstV, consA, gV0, gVs, rZ, F_law_take, M.bZ, mkL0, mkL1, mkL2, mkL3, mkL4, mkL5, mkL7]
    refine Gen.le (drawB (c := 0) (by omega) (by omega) fun d d0 d1 => ?_) (by decide)
    obtain ⟨y, hy, e⟩ := ix_lst (l := [PV.int 8, PV.int 2, PV.int 3]) d0 d1
    rw [e, rZ]
    simp only [List.mem_cons, List.not_mem_nil, or_false] at hy
    rcases hy with rfl | rfl | rfl <;> exact Gen.ret ⟨_, rfl, _, by decide, by decide, rfl⟩
  rintro _ ⟨g, g0, g1, rfl⟩
  refine gnF (ρ' := [val .bag, val (.int k), val abcV, val (.int c), val (.int g), Ent.own [], un, un, un, un]) rfl ?_
  have hint : (intsP 0 k.toNat).length = k.toNat := by simp [intsP]
  refine Gen.le (gseqF (c := k.toNat * 9) (d := 0) (I := fun ρ => ∃ (zs : List Str) (c : Int) (e6 e7 e8 e9 : Ent), ρ = [val .bag, val (.int k), val abcV, val (.int c), val (.int g), Ent.own (zs.map PV.str), e6, e7, e8, e9] ∧ zs.length = k.toNat ∧ zs.Nodup) ?_ ?_) (by omega)
  · simp only [mkFor, consA, gV0, gVs, rZ, rng1O, if_pos (by omega : -1000000 ≤ k ∧ k ≤ 100000)]
    refine Gen.mono (forN (k := 6) (c := 9) (Iv := fun i ρ => ∃ (zs : List Str) (c : Int) (e6 e7 e8 e9 : Ent), 0 ≤ c ∧ ρ = [val .bag, val (.int k), val abcV, val (.int c), val (.int g), Ent.own (zs.map PV.str), e6, e7, e8, e9] ∧ zs.length = i ∧ zs.Nodup) (intsP 0 k.toNat) 0 _ ⟨[], c, _, _, _, _, c0, rfl, rfl, List.nodup_nil⟩ ?_) (by rw [hint]; exact Nat.le_refl _) ?_
    rotate_left
    · rintro f ⟨ρ', rfl, zs, c, e6, e7, e8, e9, _, rfl, h1, h2⟩
      rw [hint, Nat.zero_add] at h1
      exact ⟨_, rfl, zs, c, e6, e7, e8, e9, rfl, h1, h2⟩
    · rintro y hy j hj _ ⟨zs, c, e6, e7, e8, e9, c0, rfl, hzl, hzn⟩
      rw [hint] at hj
      show Gen (seqP _ _ [val .bag, val (.int k), val abcV, val (.int c), val (.int g), Ent.own (zs.map PV.str), val y, e7, e8, e9]) 9 _
      refine Gen.le (gseq (c := 1) (d := 8) (I := fun ρ => ∃ n : Int, 1 ≤ n ∧ n ≤ 8 ∧ ρ = [val .bag, val (.int k), val abcV, val (.int c), val (.int g), Ent.own (zs.map PV.str), val y, val (.int n), e8, e9]) ?_ ?_) (by decide)
      · simp only [setP, bin2, consA, gV0, gVs, rZ, F_law_take, M.bZ]
        exact Gen.le (drawB (c := 0) (by omega) (by omega) fun d d0 d1 => Gen.ret ⟨_, rfl, 1 + d, by omega, by omega, rfl⟩) (by decide)
      rintro _ ⟨n, n0, n1, rfl⟩
      refine Gen.le (gseq (c := n.toNat) (d := 0) (I := fun ρ => ∃ x : Str, ρ = [val .bag, val (.int k), val abcV, val (.int c), val (.int g), Ent.own (zs.map PV.str), val y, val (.int n), val (.str x), e9]) ?_ ?_) (by omega)
      · unfold setP
        rw [bmS, con1]
        unfold lstV
        rw [lc_at (l := intsP 0 n.toNat) (by simp only [consA, gV0, gVs, rZ]; exact rngI (by omega) (by omega)) (by rw [ints_len]; omega)]
        simp only [M.bZ]
        refine Gen.le (Gen.bind (Gen.lc (k := 0) (ρ := [un, val abcV, val PV.bag]) (c := 1) (Pr := One) _ _ (fun _ => rfl) (fun z hz => ?_)) (d := 0) ?_) (by rw [ints_len]; omega)
        · show Gen (bin2 ixO _ _ [val z, val abcV, val PV.bag]) 1 One
          simp only [bin2, consA, gV0, gVs, rZ, F_law_take]
          refine Gen.le (drawB (c := 0) (by omega) (by omega) fun d d0 d1 => ?_) (by decide)
          exact Gen.eq (abc_ix d d0 d1) ⟨_, rfl⟩
        · rintro qs ⟨q1, q2⟩
          rw [ints_len] at q1
          obtain ⟨ys, _, e2⟩ := join_ok (l := qs) q2 (by omega)
          refine Gen.eq (y := .nx _) ?_ ⟨_, rfl, Txt.join (Str.ofString "") ys, rfl⟩
          simp only [rZ, e2]
          rfl
      rintro _ ⟨x, rfl⟩
      refine Gen.le (gseq (c := 0) (d := 0) (I := fun ρ => ∃ (c : Int) (x : Str) (e9 : Ent), 0 ≤ c ∧ x ∉ zs ∧ ρ = [val .bag, val (.int k), val abcV, val (.int c), val (.int g), Ent.own (zs.map PV.str), val y, val (.int n), val (.str x), e9]) ?_ ?_) (by decide)
      · refine name_gen c0 (by omega) ?_ ?_
        · intro c x y9
          simp only [asB, bin2, gV0, gVs, gB0o, gBs, rZ, in_names, Bool.false_bne]
        · intro c x y9 hc
          refine ⟨.val (.lst (row3 (c + 1))), ?_⟩
          have f1 : fdivO (.int (c + 1)) (.int 676) = .ret (.int ((c + 1) / 676)) := fdivI (by omega) (by omega)
          have f2 : fdivO (.int (c + 1)) (.int 26) = .ret (.int ((c + 1) / 26)) := fdivI (by omega) (by omega)
          have f3 : ∀ z : Int, modO (.int z) (.int 26) = .ret (.int (z % 26)) := fun z => modI (by omega)
          refine sq_nx (ρ' := [.val .bag, .val (.int k), .val abcV, .val (.int (c + 1)), val (.int g), .own (zs.map PV.str), val y, val (.int n), .val (.str x), y9]) rfl ?_
          refine sq_nx (ρ' := [.val .bag, .val (.int k), .val abcV, .val (.int (c + 1)), val (.int g), .own (zs.map PV.str), val y, val (.int n), .val (.str x), .val (.lst (row3 (c + 1)))]) ?_ ?_
          · simp only [setP, lstV, bin2, consA, gV0, gVs, rZ, f1, f2, f3]
            rfl
          · have m1 := Int.emod_nonneg ((c + 1) / 676) (show (26 : Int) ≠ 0 by decide)
            have m2 := Int.emod_lt_of_pos ((c + 1) / 676) (show (0 : Int) < 26 by decide)
            have m3 := Int.emod_nonneg ((c + 1) / 26) (show (26 : Int) ≠ 0 by decide)
            have m4 := Int.emod_lt_of_pos ((c + 1) / 26) (show (0 : Int) < 26 by decide)
            have m5 := Int.emod_nonneg (c + 1) (show (26 : Int) ≠ 0 by decide)
            have m6 := Int.emod_lt_of_pos (c + 1) (show (0 : Int) < 26 by decide)
            have a1 := abc_ix _ m1 m2
            have a2 := abc_ix _ m3 m4
            have a3 := abc_ix _ m5 m6
            have j3 := join3 (c + 1)
            unfold setP
            rw [bmS, con1]
            unfold lstV
            rw [lc_at (l := row3 (c + 1)) rfl (by show 3 ≤ 100000; decide)]
            have e : lcM (bindN 0) allTs (bin2 ixO (fun ρ => getV ρ 1) (fun ρ => getV ρ 0)) (row3 (c + 1)) [un, val abcV] = .ret [.str ⟨#[97 + ((c + 1) / 676 % 26).toNat]⟩, .str ⟨#[97 + ((c + 1) / 26 % 26).toNat]⟩, .str ⟨#[97 + ((c + 1) % 26).toNat]⟩] := by
              simp only [row3, lcM, bindN, allTs, rZ, if_true, bin2, List.set_cons_zero, gV0, gVs, a1, a2, a3]
            show M.bind (M.bind (M.bind (M.bind (lcM (bindN 0) allTs (bin2 ixO (fun ρ => getV ρ 1) (fun ρ => getV ρ 0)) (row3 (c + 1)) [un, val abcV]) _) _) _) _ = _
            rw [e]
            simp only [rZ, j3]
            rfl
      rintro _ ⟨c', x', e9', h1, h2, rfl⟩
      refine Gen.eq (y := .nx [val .bag, val (.int k), val abcV, val (.int c'), val (.int g), Ent.own ((zs ++ [x']).map PV.str), val y, val (.int n), val (.str x'), e9']) ?_ ⟨_, rfl, zs ++ [x'], c', _, _, _, _, h1, rfl, by simp [hzl], ?_⟩
      · simp [appP, gV0, gVs, hzl, (by omega : j < 100000)]
      · rw [List.nodup_append]
        refine ⟨hzn, by simp, fun a ha b hb => ?_⟩
        rw [List.mem_singleton.mp hb]
        exact fun z => h2 (z ▸ ha)
  rintro _ ⟨zs, c', e6, e7, e8, e9, rfl, h1, h2⟩
  exact Gen.eq (fin_y (ret_y rfl)) ⟨zs, rfl, h1, h2⟩
theorem gen_pace {d : Int} (d0 : 1 ≤ d) (d1 : d ≤ 1000000) : Gen (F_law_pace [.bag, .int d]) 2 fun y => ∃ n : Int, y = .int n ∧ 0 ≤ n ∧ n ≤ 1000000 := by
  unfold F_law_pace m_law_pace
  show Gen ((seqP _ _ [val .bag, val (.int d), un]).bind finP) 2 _
  refine Gen.le (gseqF (c := 1) (d := 1) (I := fun ρ => ∃ c : Int, 0 ≤ c ∧ c < 10 ∧ ρ = [val .bag, val (.int d), val (.int c)]) ?_ ?_) (by decide)
  · simp only [setP, consA, gV0, gVs, rZ, F_law_take]
    exact Gen.le (drawB (c := 0) (by omega) (by omega) fun d d0 d1 => Gen.ret ⟨_, rfl, d, d0, d1, rfl⟩) (by decide)
  rintro _ ⟨c, c0, c1, rfl⟩
  have ht : asB (bin2 ltO (fun ρ => getV ρ 2) (fun _ => M.ret (.int 3))) [val .bag, val (.int d), val (.int c)] = .ret (decide (c < 3)) := rfl
  by_cases h : c < 3
  · rw [decide_eq_true h] at ht
    refine Gen.le (?_ : Gen _ 0 _) (by decide)
    obtain ⟨y, hy, e⟩ := ix_lst (l := [PV.int 0, PV.int 0, PV.int 1000000]) c0 h
    obtain ⟨n, rfl, n0, n1⟩ : ∃ n : Int, y = .int n ∧ 0 ≤ n ∧ n ≤ 1000000 := by
      simp only [List.mem_cons, List.not_mem_nil, or_false] at hy
      rcases hy with rfl | rfl | rfl <;> exact ⟨_, rfl, by decide, by decide⟩
    refine Gen.eq (y := .int n) (seq_rt ((if_t ht).trans (ret_y ?_))) ⟨n, rfl, n0, n1⟩
    simp only [bin2, lstV, consA, List.map, Ent.freeze, gV0, gVs, rZ, mkL0, mkL1, mkL2, mkL3, mkL4, mkL5, mkL7, e]
  · rw [decide_eq_false h] at ht
    refine gnF (if_f ht) ?_
    have f4 : fdivO (.int d) (.int 4) = .ret (.int (d / 4)) := fdivI (by omega) (by omega)
    have f9 : fdivO (.int d) (.int 9) = .ret (.int (d / 9)) := fdivI (by omega) (by omega)
    obtain ⟨y, hy, e⟩ := ix_lst (l := [PV.int 1, PV.int 4, PV.int 4, PV.int 4, PV.int (d / 4 + 1), PV.int (d / 4 + 1), PV.int (d / 9 + 1)]) (d := c - 3) (by omega) (by show c - 3 < 7; omega)
    obtain ⟨n, rfl, n0, n1⟩ : ∃ n : Int, y = .int n ∧ 1 ≤ n ∧ n ≤ 250001 := by
      simp only [List.mem_cons, List.not_mem_nil, or_false] at hy
      rcases hy with rfl | rfl | rfl | rfl | rfl | rfl | rfl <;> exact ⟨_, rfl, by omega, by omega⟩
    simp only [retP, bin2, lstV, consA, List.map, Ent.freeze, gV0, gVs, rZ, f4, f9, addI, subI, mkL0, mkL1, mkL2, mkL3, mkL4, mkL5, mkL7, e, F_law_take, M.bZ]
    exact Gen.le (drawB (c := 0) (by omega) (by omega) fun x x0 x1 => Gen.eq (y := .int (1 + x)) rfl ⟨_, rfl, by omega, by omega⟩) (by decide)
theorem gen_hill : Gen (F_law_hill [.bag]) 340 fun y => ∃ ws h d, y = hillP ws h d ∧ HillOk ws h d := by
  unfold F_law_hill m_law_hill
  show Gen ((seqP _ _ [val .bag, un, un, un, un, un, un, un, un, un]).bind finP) 340 _
  refine Gen.le (gseqF (c := 2) (d := 338) (I := fun ρ => ∃ k : Int, 1 ≤ k ∧ k ≤ 12 ∧ ρ = [val .bag, val (.int k), un, un, un, un, un, un, un, un]) ?_ ?_) (by decide)
  · simp only [setP, bin2, lstV, consA, gV0, gVs, rZ, F_law_take, M.bZ, addI]
    refine Gen.le (drawB (c := 1) (by omega) (by omega) fun d d0 d1 => ?_) (by decide)
    simp only [rZ, addI, mkL0, mkL1, mkL2, mkL3, mkL4, mkL5, mkL7]
    refine Gen.le (drawB (c := 0) (by omega) (by omega) fun x x0 x1 => ?_) (by decide)
    rw [fdivI (by omega) (by omega), rZ]
    obtain ⟨y, hy, e⟩ := ix_lst (l := [PV.int (1 + d), PV.int 12]) (d := x / 7) (by omega) (by show x / 7 < 2; omega)
    rw [e, rZ]
    simp only [List.mem_cons, List.not_mem_nil, or_false] at hy
    rcases hy with rfl | rfl
    · exact Gen.ret ⟨_, rfl, _, by omega, by omega, rfl⟩
    · exact Gen.ret ⟨_, rfl, _, by decide, by decide, rfl⟩
  rintro _ ⟨k, k0, k1, rfl⟩
  refine Gen.le (gseqF (c := 2) (d := 336) (I := fun ρ => ∃ d : Int, 1 ≤ d ∧ d ≤ 1000000 ∧ ρ = [val .bag, val (.int k), val (.int d), un, un, un, un, un, un, un]) ?_ ?_) (by decide)
  · simp only [setP, bin2, lstV, consA, gV0, gVs, rZ, F_law_take, M.bZ, addI]
    refine Gen.le (drawB (c := 1) (by omega) (by omega) fun d d0 d1 => ?_) (by decide)
    simp only [rZ, addI, mkL0, mkL1, mkL2, mkL3, mkL4, mkL5, mkL7]
    refine Gen.le (drawB (c := 0) (by omega) (by omega) fun x x0 x1 => ?_) (by decide)
    obtain ⟨y, hy, e⟩ := ix_lst (l := [PV.int 1, PV.int 7, PV.int 24999]) x0 x1
    rw [e, rZ]
    obtain ⟨n, rfl, n0, n1⟩ : ∃ n : Int, y = .int n ∧ 1 ≤ n ∧ n ≤ 24999 := by
      simp only [List.mem_cons, List.not_mem_nil, or_false] at hy
      rcases hy with rfl | rfl | rfl <;> exact ⟨_, rfl, by decide, by decide⟩
    rw [mulI (by omega) (by omega), rZ]
    have q1 : 1 * 1 ≤ (1 + d) * n := Int.mul_le_mul (by omega) n0 (by omega) (by omega)
    have q2 : (1 + d) * n ≤ 40 * 24999 := Int.mul_le_mul (by omega) n1 (by omega) (by omega)
    exact Gen.ret ⟨_, rfl, _, by omega, by omega, rfl⟩
  rintro _ ⟨d, d0, d1, rfl⟩
  refine Gen.le (gseqF (c := 241) (d := 95) (I := fun ρ => ∃ ns ps : List Str, ns.length = k.toNat ∧ ns.Nodup ∧ 1 ≤ ps.length ∧ ps.length ≤ 6 ∧ ρ = [val .bag, val (.int k), val (.int d), val (.lst (ns.map PV.str)), val (.lst (ps.map PV.str)), un, un, un, un, un]) ?_ ?_) (by decide)
  · simp only [parP, bin2, consA, gV0, gVs, rZ, F_law_take, M.bZ]
    refine Gen.le (Gen.bind (gen_names k0 k1) (d := 121) ?_) (by decide)
    rintro _ ⟨ns, rfl, n1, n2⟩
    refine Gen.le (drawB (c := 120) (by omega) (by omega) fun x x0 x1 => ?_) (by decide)
    simp only [rZ, addI]
    refine Gen.le (Gen.bind (gen_names (k := 1 + x) (by omega) (by omega)) (d := 0) ?_) (by decide)
    rintro _ ⟨ps, rfl, p1, p2⟩
    exact Gen.ret ⟨_, rfl, ns, ps, n1, n2, by omega, by omega, rfl⟩
  rintro _ ⟨ns, ps, n1, n2, p1, p2, rfl⟩
  refine gnF (ρ' := [val .bag, val (.int k), val (.int d), val (.lst (ns.map PV.str)), val (.lst (ps.map PV.str)), Ent.own [], un, un, un, un]) rfl ?_
  refine Gen.le (gseqF (c := 84) (d := 1) (I := fun ρ => ∃ (ws : List Pw) (e6 e7 e8 e9 : Ent), (∀ w ∈ ws, PwOk w) ∧ ws.map (·.nm) = ns ∧ ρ = [val .bag, val (.int k), val (.int d), val (.lst (ns.map PV.str)), val (.lst (ps.map PV.str)), Ent.own (ws.map pwP), e6, e7, e8, e9]) ?_ ?_) (by decide)
  · simp only [mkFor, gV0, gVs, rZ, iterO]
    refine Gen.le (Gen.mono (forG (k := 6) (c := 7) (N := 12) (f := PV.str) (Iv := fun done ρ => ∃ (ws : List Pw) (e6 e7 e8 e9 : Ent), (∀ w ∈ ws, PwOk w) ∧ ws.map (·.nm) = done ∧ ρ = [val .bag, val (.int k), val (.int d), val (.lst (ns.map PV.str)), val (.lst (ps.map PV.str)), Ent.own (ws.map pwP), e6, e7, e8, e9]) ?_ ns [] _ (by simp; omega) ⟨[], _, _, _, _, fun w hw => (by cases hw), rfl, rfl⟩) (Nat.le_refl _) fun y hy => hy) (by omega)
    · rintro q done _ hl ⟨ws, e6, e7, e8, e9, hw, hn, rfl⟩
      have hl' : ws.length < 12 := by rw [← hn, List.length_map] at hl; exact hl
      show Gen (seqP _ _ [val .bag, val (.int k), val (.int d), val (.lst (ns.map PV.str)), val (.lst (ps.map PV.str)), Ent.own (ws.map pwP), val (.str q), e7, e8, e9]) 7 _
      refine Gen.le (gseq (c := 1) (d := 6) (I := fun ρ => ∃ kd : Str, ρ = [val .bag, val (.int k), val (.int d), val (.lst (ns.map PV.str)), val (.lst (ps.map PV.str)), Ent.own (ws.map pwP), val (.str q), val (.str kd), e8, e9]) ?_ ?_) (by decide)
      · simp only [setP, bin2, lstV, consA, gV0, gVs, rZ, F_law_take, M.bZ, mkL0, mkL1, mkL2, mkL3, mkL4, mkL5, mkL7]
        refine Gen.le (drawB (c := 0) (by omega) (by omega) fun x x0 x1 => ?_) (by decide)
        obtain ⟨y, hy, e⟩ := ix_lst (l := [PV.str "slope", PV.str "slope", PV.str "slope", PV.str "lift", PV.str "path"]) x0 x1
        rw [e, rZ]
        simp only [List.mem_cons, List.not_mem_nil, or_false] at hy
        rcases hy with rfl | rfl | rfl | rfl | rfl <;> exact Gen.ret ⟨_, rfl, _, rfl⟩
      rintro _ ⟨kd, rfl⟩
      refine Gen.le (gseq (c := 2) (d := 4) (I := fun ρ => ∃ s e : Str, ρ = [val .bag, val (.int k), val (.int d), val (.lst (ns.map PV.str)), val (.lst (ps.map PV.str)), Ent.own (ws.map pwP), val (.str q), val (.str kd), val (.str s), val (.str e)]) ?_ ?_) (by decide)
      · simp only [parP, bin2, consA, gV0, gVs, rZ, F_law_take, M.bZ, lenL, List.length_map]
        refine Gen.le (drawB (c := 1) (by omega) (by omega) fun x x0 x1 => ?_) (by decide)
        obtain ⟨s, _, es⟩ := ixStr x0 x1
        simp only [es, rZ, M.bZ]
        refine Gen.le (drawB (c := 0) (by omega) (by omega) fun x x0 x1 => ?_) (by decide)
        obtain ⟨e, _, ee⟩ := ixStr x0 x1
        simp only [ee, rZ]
        exact Gen.ret ⟨_, rfl, s, e, rfl⟩
      rintro _ ⟨s, e, rfl⟩
      unfold appP
      simp only [List.getElem?_cons_succ, List.getElem?_cons_zero, consA, gV0, gVs, rZ, M.bZ]
      refine Gen.le (Gen.bind (gen_pace d0 d1) (d := 2) ?_) (by decide)
      rintro _ ⟨a, rfl, a0, a1⟩
      refine Gen.le (Gen.bind (gen_pace d0 d1) (d := 0) ?_) (by decide)
      rintro _ ⟨b, rfl, b0, b1⟩
      rw [mkT6, rZ, if_pos (by rw [List.length_map]; omega)]
      refine Gen.ret ⟨_, rfl, ws ++ [⟨q, kd, s, e, a, b⟩], _, _, _, _, fun x hx => ?_, by rw [List.map_append, hn]; rfl, by rw [List.map_append]; rfl⟩
      rcases List.mem_append.mp hx with z | z
      · exact hw x z
      · rw [List.mem_singleton.mp z]; exact ⟨a0, a1, b0, b1⟩
  rintro _ ⟨ws, e6, e7, e8, e9, hw, hn, rfl⟩
  have hl : ws.length = k.toNat := by rw [← n1, ← hn, List.length_map]
  simp only [retP, List.map, Ent.freeze, bin2, consA, gV0, gVs, rZ, F_law_take, M.bZ, lenL, List.length_map, tupO]
  refine Gen.le (drawB (c := 0) (by omega) (by omega) fun x x0 x1 => ?_) (by decide)
  obtain ⟨h, _, eh⟩ := ixStr x0 x1
  refine Gen.eq (y := hillP ws h d) ?_ ⟨ws, h, d, rfl, by omega, by omega, hw, by rw [hn]; exact n2, d0, d1⟩
  simp only [eh, rZ, mkT3, finP]
  rfl
theorem first_is (ps : List (Int × Int)) (t : Int) : F_first_entry [.tup (ps.map prP), .int t] = .ret (match fstE ps t with | none => .non | some m => .int m) := by
  unfold F_first_entry m_first_entry
  show (seqP _ _ [val (.tup (ps.map prP)), val (.int t), un, un]).bind finP = _
  have loop : ∀ (P : PV) (l : List (Int × Int)) (e2 e3 : Ent), ∃ e2' e3', forP (bindT [2, 3]) (ifP (asB (bin2 ltO (fun ρ => getV ρ 1) (fun ρ => getV ρ 3))) (retP (fun ρ => ((consA (fun ρ => getV ρ 2) (consA (fun ρ => getV ρ 1) (fun _ => M.ret []))) ρ).bind max2O)) (fun ρ => M.ret (.nx ρ))) (l.map prP) [val P, val (.int t), e2, e3] = .ret (match fstE l t with | none => .nx [val P, val (.int t), e2', e3'] | some m => .rt (.int m)) := by
    intro P l
    induction l with
    | nil => exact fun e2 e3 => ⟨e2, e3, rfl⟩
    | cons p l ih =>
      intro e2 e3
      obtain ⟨a, b⟩ := p
      rw [List.map_cons]
      unfold forP fstE
      have e1 : bindT [2, 3] (prP (a, b)) [val P, val (.int t), e2, e3] = .ret [val P, val (.int t), val (.int a), val (.int b)] := rfl
      rw [e1, rZ]
      have ht : asB (bin2 ltO (fun ρ => getV ρ 1) (fun ρ => getV ρ 3)) [val P, val (.int t), val (.int a), val (.int b)] = .ret (decide (t < b)) := rfl
      by_cases c : t < b
      · rw [decide_eq_true c] at ht
        rw [if_t ht, if_pos c]
        exact ⟨e2, e3, rfl⟩
      · rw [decide_eq_false c] at ht
        rw [if_f ht, if_neg c, rZ]
        exact ih _ _
  obtain ⟨e2', e3', e⟩ := loop (.tup (ps.map prP)) ps un un
  cases h : fstE ps t with
  | none =>
    rw [h] at e
    refine seq_nx (ρ' := [val (.tup (ps.map prP)), val (.int t), e2', e3']) ?_ rfl
    exact e
  | some m =>
    rw [h] at e
    exact seq_rt e
noncomputable def entM : PEnv → M Fl := setP 11 (ifV (asB (bin2 (dinO false) (fun ρ => getV ρ 7) (fun ρ => getB ρ 4))) (fun ρ => ((consA (fun ρ => getV ρ 10) (consA (bin2 ixO (bin2 dgetO (fun ρ => getB ρ 4) (fun ρ => getV ρ 7)) (fun _ => M.ret (.int 0))) (fun _ => M.ret []))) ρ).bind F_first_entry) (fun _ => M.ret .non))
noncomputable def rowM : PEnv → M Fl := (seqP entM
    (ifP (andP (asB (bin2 (isO true) (fun ρ => getV ρ 11) (fun _ => M.ret .non))) (asB (bin2 leOD (bin2 addO (fun ρ => getV ρ 11) (fun ρ => getV ρ 9)) (fun ρ => getV ρ 1))))
    (ifP (orP (asB (bin2 (dinO true) (fun ρ => getV ρ 8) (fun ρ => getB ρ 4))) (asB (bin2 ltO (bin2 addO (fun ρ => getV ρ 11) (fun ρ => getV ρ 9)) (bin2 ixO (bin2 dgetO (fun ρ => getB ρ 4) (fun ρ => getV ρ 8)) (fun _ => M.ret (.int 0))))))
    (seqP (dputP 4 (fun ρ => getV ρ 8) (fun ρ => ((consA (bin2 addO (fun ρ => getV ρ 11) (fun ρ => getV ρ 9)) (consA (fun ρ => ((consA (fun ρ => getV ρ 6) (consA (fun ρ => getV ρ 11) (fun _ => M.ret []))) ρ).bind mkTup) (consA (fun ρ => getV ρ 7) (fun _ => M.ret [])))) ρ).bind mkTup))
    (setP 5 (fun _ => M.ret (.bl true))))
    (fun ρ => M.ret (.nx ρ)))
    (fun ρ => M.ret (.nx ρ))))
noncomputable def rndM : PEnv → M Fl := seqP (setP 5 (fun _ => M.ret (.bl false))) (mkFor (fun ρ => ((fun ρ => getV ρ 0) ρ).bind iterO) (bindT [6, 7, 8, 9, 10]) rowM)
theorem row_is {dark : Int} {rows : List Gr} {p : Str} {t : Int} {G : PV} {r : Gr} {es : List Ce} {b : Bool} (hl : es.length < 1000) (e11 : Ent) :
    ∃ e11', rowM [val G, val (.int dark), val (.str p), val (.int t), Ent.ownD (es.map ceP), val (.bl b), val (.str r.w), val (.str r.s), val (.str r.e), val (.int r.n), val (.tup (r.ps.map prP)), e11] = .ret (.nx [val G, val (.int dark), val (.str p), val (.int t), Ent.ownD ((relG dark r es).1.map ceP), val (.bl (b || (relG dark r es).2)), val (.str r.w), val (.str r.s), val (.str r.e), val (.int r.n), val (.tup (r.ps.map prP)), e11']) := by
  unfold rowM
  unfold relG
  rw [look_ce]
  cases e1 : atE es r.s with
  | none =>
    refine ⟨val .non, sq_nx (ρ' := [val G, val (.int dark), val (.str p), val (.int t), Ent.ownD (es.map ceP), val (.bl b), val (.str r.w), val (.str r.s), val (.str r.e), val (.int r.n), val (.tup (r.ps.map prP)), val .non]) ?_ ?_⟩
    · simp only [entM, setP, ifV, asB, bin2, gV0, gVs, gB0d, gBs, rZ, din_ce, e1]
      rfl
    · rw [if_f (and_f rfl)]
      simp
  | some c =>
    dsimp only [Option.map_some]
    have step : entM [val G, val (.int dark), val (.str p), val (.int t), Ent.ownD (es.map ceP), val (.bl b), val (.str r.w), val (.str r.s), val (.str r.e), val (.int r.n), val (.tup (r.ps.map prP)), e11] = .ret (.nx [val G, val (.int dark), val (.str p), val (.int t), Ent.ownD (es.map ceP), val (.bl b), val (.str r.w), val (.str r.s), val (.str r.e), val (.int r.n), val (.tup (r.ps.map prP)), val (match fstE r.ps c.v with | none => .non | some m => .int m)]) := by
      simp only [entM, setP, ifV, asB, bin2, consA, gV0, gVs, gB0d, gBs, rZ, din_ce, dget_ce e1, ix_ce, e1, Option.isSome_some, Bool.bne_false, if_true, first_is]
      rfl
    cases e2 : fstE r.ps c.v with
    | none =>
      rw [e2] at step
      dsimp only at step ⊢
      refine ⟨val .non, sq_nx step ?_⟩
      rw [if_f (and_f rfl)]
      simp
    | some m =>
      rw [e2] at step
      dsimp only at step ⊢
      refine ⟨val (.int m), sq_nx step ?_⟩
      have t1 : asB (bin2 leOD (bin2 addO (fun ρ => getV ρ 11) (fun ρ => getV ρ 9)) (fun ρ => getV ρ 1)) [val G, val (.int dark), val (.str p), val (.int t), Ent.ownD (es.map ceP), val (.bl b), val (.str r.w), val (.str r.s), val (.str r.e), val (.int r.n), val (.tup (r.ps.map prP)), val (.int m)] = .ret (decide (m + r.n ≤ dark)) := rfl
      by_cases h1 : m + r.n ≤ dark
      · rw [decide_eq_true h1] at t1
        rw [if_t ((and_t rfl).trans t1)]
        have t2 : orP (asB (bin2 (dinO true) (fun ρ => getV ρ 8) (fun ρ => getB ρ 4))) (asB (bin2 ltO (bin2 addO (fun ρ => getV ρ 11) (fun ρ => getV ρ 9)) (bin2 ixO (bin2 dgetO (fun ρ => getB ρ 4) (fun ρ => getV ρ 8)) (fun _ => M.ret (.int 0))))) [val G, val (.int dark), val (.str p), val (.int t), Ent.ownD (es.map ceP), val (.bl b), val (.str r.w), val (.str r.s), val (.str r.e), val (.int r.n), val (.tup (r.ps.map prP)), val (.int m)] = .ret (decide (∀ w, (atE es r.e).map (·.v) = some w → m + r.n < w)) := by
          cases e3 : atE es r.e with
          | none =>
            rw [decide_eq_true (fun w z => by cases z)]
            refine or_t ?_
            simp only [asB, bin2, gV0, gVs, gB0d, gBs, rZ, din_ce, e3]
            rfl
          | some x =>
            refine (or_f ?_).trans ?_
            · simp only [asB, bin2, gV0, gVs, gB0d, gBs, rZ, din_ce, e3]
              rfl
            · simp only [asB, bin2, gV0, gVs, gB0d, gBs, rZ, dget_ce e3, ix_ce, addI, ltI]
              have : (∀ w, Option.map (fun x => x.v) (some x) = some w → m + r.n < w) ↔ m + r.n < x.v := ⟨fun h => h _ rfl, fun h w z => by cases z; exact h⟩
              rw [decide_eq_decide.mpr this]
        rw [look_ce]
        by_cases h2 : ∀ w, (atE es r.e).map (·.v) = some w → m + r.n < w
        · rw [decide_eq_true h2] at t2
          rw [if_t t2, if_pos ⟨h1, h2⟩]
          refine sq_nx (ρ' := [val G, val (.int dark), val (.str p), val (.int t), Ent.ownD ((putE es ⟨r.e, m + r.n, some (r.w, m, r.s)⟩).map ceP), val (.bl b), val (.str r.w), val (.str r.s), val (.str r.e), val (.int r.n), val (.tup (r.ps.map prP)), val (.int m)]) ?_ ?_
          · rw [← put_ce]
            unfold dputP
            simp only [consA, bin2, gV0, gVs, rZ, addI, mkT2, mkT3, List.getElem?_cons_succ, List.getElem?_cons_zero]
            show (if (es.map ceP).length < 100000 then _ else _) = _
            rw [if_pos (by rw [List.length_map]; omega)]
            rfl
          · show M.ret _ = _
            simp
        · rw [decide_eq_false h2] at t2
          rw [if_f t2, if_neg (fun z => h2 z.2)]
          simp
      · rw [decide_eq_false h1] at t1
        rw [if_f ((and_t rfl).trans t1), if_neg (fun z => h1 z.1)]
        simp
theorem reached_is {dark : Int} {rows : List Gr} {p : Str} {t : Int} (hr : ∀ r ∈ rows, RowOk r) (hl : rows.length ≤ 100) :
    ∃ j, Erl.iter (rows.map (edG dark)) (j + 1) [(p, t)] = Erl.iter (rows.map (edG dark)) j [(p, t)] ∧ F_reached [.lst (rows.map grP), .int dark, .str p, .int t] = .ret (.dct ((itG dark rows j [⟨p, t, none⟩]).map ceP)) := by
  have cam := itG_cam (dark := dark) (p := p) (t := t) hr
  have round : ∀ (k : Nat) (e6 e7 e8 e9 e10 e11 : Ent), ∃ e6' e7' e8' e9' e10' e11', rndM [val (.lst (rows.map grP)), val (.int dark), val (.str p), val (.int t), Ent.ownD ((itG dark rows k [⟨p, t, none⟩]).map ceP), val (.bl true), e6, e7, e8, e9, e10, e11] = .ret (.nx [val (.lst (rows.map grP)), val (.int dark), val (.str p), val (.int t), Ent.ownD ((itG dark rows (k + 1) [⟨p, t, none⟩]).map ceP), val (.bl (rndG dark rows (itG dark rows k [⟨p, t, none⟩])).2), e6', e7', e8', e9', e10', e11']) := by
    intro k e6 e7 e8 e9 e10 e11
    obtain ⟨ρ', e, ⟨_, e6', e7', e8', e9', e10', e11', rfl⟩⟩ := for_fold (bd := bindT [6, 7, 8, 9, 10]) (mb := rowM) (f := grP) (α := List Ce × Bool) (st := fun x r => ((relG dark r x.1).1, x.2 || (relG dark r x.1).2)) (R := fun x ρ => CamE rows p t x.1 ∧ ∃ e6 e7 e8 e9 e10 e11, ρ = [val (.lst (rows.map grP)), val (.int dark), val (.str p), val (.int t), Ent.ownD (x.1.map ceP), val (.bl x.2), e6, e7, e8, e9, e10, e11]) rows (itG dark rows k [⟨p, t, none⟩], false) [val (.lst (rows.map grP)), val (.int dark), val (.str p), val (.int t), Ent.ownD ((itG dark rows k [⟨p, t, none⟩]).map ceP), val (.bl false), e6, e7, e8, e9, e10, e11] ⟨cam k, _, _, _, _, _, _, rfl⟩ (fun r hr' x ρ hx => by
      obtain ⟨hc, e6, e7, e8, e9, e10, e11, rfl⟩ := hx
      have := cam_len hc
      obtain ⟨e11', e⟩ := row_is (dark := dark) (rows := rows) (p := p) (t := t) (G := .lst (rows.map grP)) (r := r) (es := x.1) (b := x.2) (by omega) e11
      exact ⟨_, _, rfl, e, relG_cam hr' (hr r hr') hc, _, _, _, _, _, _, rfl⟩)
    exact ⟨e6', e7', e8', e9', e10', e11', sq_nx rfl e⟩
  have all : ∀ (r k : Nat) (e6 e7 e8 e9 e10 e11 : Ent), k + r = rows.length + 1 → ∃ j e6' e7' e8' e9' e10' e11', (rndG dark rows (itG dark rows j [⟨p, t, none⟩])).2 = false ∧ whP (asB (fun ρ => getV ρ 5)) rndM (800 + r) [val (.lst (rows.map grP)), val (.int dark), val (.str p), val (.int t), Ent.ownD ((itG dark rows k [⟨p, t, none⟩]).map ceP), val (.bl true), e6, e7, e8, e9, e10, e11] = .ret (.nx [val (.lst (rows.map grP)), val (.int dark), val (.str p), val (.int t), Ent.ownD ((itG dark rows j [⟨p, t, none⟩]).map ceP), val (.bl false), e6', e7', e8', e9', e10', e11']) := by
    intro r
    induction r with
    | zero =>
      intro k e6 e7 e8 e9 e10 e11 hk
      obtain ⟨e6', e7', e8', e9', e10', e11', e⟩ := round k e6 e7 e8 e9 e10 e11
      have st := itG_stop (dark := dark) (p := p) (t := t) hr (k := k) (by omega)
      rw [st] at e
      have e0 := (rndG_i dark rows (itG dark rows k [⟨p, t, none⟩])).no st
      have e1 : itG dark rows (k + 1) [⟨p, t, none⟩] = itG dark rows k [⟨p, t, none⟩] := e0
      rw [e1] at e
      refine ⟨k, e6', e7', e8', e9', e10', e11', st, ?_⟩
      show whP _ _ (799 + 1) _ = _
      unfold whP
      have t1 : asB (fun ρ => getV ρ 5) [val (.lst (rows.map grP)), val (.int dark), val (.str p), val (.int t), Ent.ownD ((itG dark rows k [⟨p, t, none⟩]).map ceP), val (.bl true), e6, e7, e8, e9, e10, e11] = .ret true := rfl
      rw [t1, rZ, if_pos rfl, e, rZ]
      rfl
    | succ r ih =>
      intro k e6 e7 e8 e9 e10 e11 hk
      obtain ⟨e6', e7', e8', e9', e10', e11', e⟩ := round k e6 e7 e8 e9 e10 e11
      have t1 : asB (fun ρ => getV ρ 5) [val (.lst (rows.map grP)), val (.int dark), val (.str p), val (.int t), Ent.ownD ((itG dark rows k [⟨p, t, none⟩]).map ceP), val (.bl true), e6, e7, e8, e9, e10, e11] = .ret true := rfl
      cases st : (rndG dark rows (itG dark rows k [⟨p, t, none⟩])).2 with
      | false =>
        rw [st] at e
        have e0 := (rndG_i dark rows (itG dark rows k [⟨p, t, none⟩])).no st
        have e1 : itG dark rows (k + 1) [⟨p, t, none⟩] = itG dark rows k [⟨p, t, none⟩] := e0
        rw [e1] at e
        refine ⟨k, e6', e7', e8', e9', e10', e11', st, ?_⟩
        rw [show 800 + (r + 1) = (799 + r + 1) + 1 by omega]
        unfold whP
        rw [t1, rZ, if_pos rfl, e, rZ]
        unfold whP
        rfl
      | true =>
        rw [st] at e
        obtain ⟨j, q6, q7, q8, q9, q10, q11, h1, h2⟩ := ih (k + 1) e6' e7' e8' e9' e10' e11' (by omega)
        refine ⟨j, q6, q7, q8, q9, q10, q11, h1, ?_⟩
        show whP _ _ ((800 + r) + 1) _ = _
        unfold whP
        rw [t1, rZ, if_pos rfl, e, rZ]
        exact h2
  obtain ⟨j, e6', e7', e8', e9', e10', e11', st, e⟩ := all (rows.length + 1) 0 un un un un un un (by omega)
  have e0 := (rndG_i dark rows (itG dark rows j [⟨p, t, none⟩])).no st
  refine ⟨j, ?_, ?_⟩
  · rw [← itG_tb, ← itG_tb]
    exact congrArg tb e0
  · unfold F_reached m_reached
    show (seqP _ _ [val (.lst (rows.map grP)), val (.int dark), val (.str p), val (.int t), un, un, un, un, un, un, un, un]).bind finP = _
    refine seq_nx (ρ' := [val (.lst (rows.map grP)), val (.int dark), val (.str p), val (.int t), Ent.ownD (List.map ceP [⟨p, t, none⟩]), un, un, un, un, un, un, un]) rfl ?_
    refine seq_nx (ρ' := [val (.lst (rows.map grP)), val (.int dark), val (.str p), val (.int t), Ent.ownD (List.map ceP [⟨p, t, none⟩]), val (.bl true), un, un, un, un, un, un]) rfl ?_
    have hw := wh_more (d := 200 - (rows.length + 1)) e
    rw [show 800 + (rows.length + 1) + (200 - (rows.length + 1)) = 1000 by omega] at hw
    refine seq_nx hw ?_
    rfl
section
open Erl (Ed Tb look put rel rnd iter Good Tr edU edB)
noncomputable def lsW (w : Pw) : Int := (minO ([w.a, w.b].filter fun x => decide (x > 0))).getD 0
theorem ints2 (l : List Int) : intsOf (l.map PV.int) = some l := by
  induction l with
  | nil => rfl
  | cons a l ih => rw [List.map_cons]; unfold intsOf; rw [ih]; rfl
theorem least_go (w : Pw) (te : PEnv → M PV) (tt : PEnv → M Bool) (ht : tt = asB (bin2 gtO (fun ρ => getV ρ 0) (fun _ => M.ret (.int 0)))) (he : te = fun ρ => getV ρ 0) : lcM (bindN 0) tt te [.int w.a, .int w.b] [un] = .ret (([w.a, w.b].filter fun x => decide (x > 0)).map PV.int) := by
  subst ht he
  have := lcM_filter (k := 0) (tt := asB (bin2 gtO (fun ρ => getV ρ 0) (fun _ => M.ret (.int 0)))) (te := fun ρ => getV ρ 0) (p := fun y => match y with | .int x => decide (x > 0) | _ => false) (f := id) (ρ := [un]) ([w.a, w.b].map PV.int) [un] (fun _ => rfl) (fun y hy => by
    obtain ⟨x, _, rfl⟩ := List.mem_map.mp hy
    rfl) (fun y hy _ => by
    obtain ⟨x, _, rfl⟩ := List.mem_map.mp hy
    rfl)
  rw [List.map_id, List.filter_map] at this
  exact this
theorem pace_is (w : Pw) : F_patrol_pace [pwP w] = .ret (.int (lsW w)) := by
  unfold F_patrol_pace m_patrol_pace
  show (retP _ [val (pwP w)]).bind finP = _
  refine fin_y (ret_y ?_)
  unfold minDP lstV
  rw [lc_at (l := [.int w.a, .int w.b]) rfl (by show 2 ≤ 100000; decide)]
  show (M.bind (M.bind (lcM (bindN 0) _ _ [.int w.a, .int w.b] [un]) _) _) = _
  rw [least_go w _ _ rfl rfl]
  simp only [rZ, ints2, M.ofO]
  unfold lsW
  cases minO ([w.a, w.b].filter fun x => decide (x > 0)) <;> rfl
theorem least_is (w : Pw) : F_law_least [pwP w] = .ret (.int (lsW w)) := pace_is w
theorem ls_nn {w : Pw} (ok : PwOk w) : 0 ≤ lsW w ∧ lsW w ≤ 1000000 := by
  unfold lsW
  cases e : minO ([w.a, w.b].filter fun x => decide (x > 0)) with
  | none => exact ⟨by decide, by decide⟩
  | some k =>
    have ne : ([w.a, w.b].filter fun x => decide (x > 0)) ≠ [] := fun z => by rw [z] at e; cases e
    obtain ⟨k', e', hk, _⟩ := min_some ne
    rw [e] at e'; cases e'
    rw [List.mem_filter] at hk
    have h0 : k > 0 := by simpa using hk.2
    have hm : k = w.a ∨ k = w.b := by simpa using hk.1
    have := ok.a1
    have := ok.b1
    show 0 ≤ k ∧ k ≤ 1000000
    rcases hm with z | z <;> omega
noncomputable def goW (ws : List Pw) : List Pw := ws.filter fun w => decide (lsW w > 0)
noncomputable def trW (w : Pw) : Tr Str := ⟨w.s, w.e, lsW w⟩
noncomputable def endW (ws : List Pw) : Int := (ws.map lsW).sum
noncomputable def grW (z : Int) (w : Pw) : Gr := ⟨w.nm, w.s, w.e, lsW w, [(0, z)]⟩
theorem go_pos {ws : List Pw} {w : Pw} (h : w ∈ goW ws) : w ∈ ws ∧ 0 < lsW w := by
  unfold goW at h
  rw [List.mem_filter] at h
  exact ⟨h.1, by simpa using h.2⟩
theorem sum_go : ∀ {ws : List Pw}, (∀ w ∈ ws, PwOk w) → ((goW ws).map lsW).sum = endW ws
  | [], _ => rfl
  | w :: ws, h => by
    have ih := sum_go fun x hx => h x (List.mem_cons_of_mem _ hx)
    have := ls_nn (h w List.mem_cons_self)
    unfold goW endW at *
    rw [List.filter_cons, List.map_cons, List.sum_cons]
    split
    · rw [List.map_cons, List.sum_cons, ih]
    · rename_i c
      have c : ¬ lsW w > 0 := by simpa using c
      rw [ih]
      omega
theorem end_ge {ws : List Pw} (h : ∀ w ∈ ws, PwOk w) {w : Pw} (hw : w ∈ ws) : lsW w ≤ endW ws := by
  induction ws with
  | nil => cases hw
  | cons x ws ih =>
    have nn : 0 ≤ endW ws := by
      have go : ∀ l : List Pw, (∀ w ∈ l, PwOk w) → 0 ≤ endW l := fun l => by
        induction l with
        | nil => intro _; exact Int.le_refl _
        | cons y l ih =>
          intro h
          have := ih fun z hz => h z (List.mem_cons_of_mem _ hz)
          have := (ls_nn (h y List.mem_cons_self)).1
          unfold endW at *
          rw [List.map_cons, List.sum_cons]
          omega
      exact go ws fun y hy => h y (List.mem_cons_of_mem _ hy)
    have e : endW (x :: ws) = lsW x + endW ws := by unfold endW; rw [List.map_cons, List.sum_cons]
    have := (ls_nn (h x List.mem_cons_self)).1
    rcases List.mem_cons.mp hw with rfl | hw
    · omega
    · have := ih (fun y hy => h y (List.mem_cons_of_mem _ hy)) hw
      omega
theorem rows_ok {ws : List Pw} (h : ∀ w ∈ ws, PwOk w) : ∀ r ∈ (goW ws).map (grW (endW ws)), RowOk r := fun r hr => by
  obtain ⟨w, hw, rfl⟩ := List.mem_map.mp hr
  obtain ⟨h1, h2⟩ := go_pos hw
  have := end_ge h h1
  refine ⟨h2, List.pairwise_singleton _ _, fun pr hpr => ?_⟩
  have : pr = (0, endW ws) := by simpa [grW] using hpr
  rw [this]
  show 0 < endW ws
  omega
theorem best_is {ws : List Pw} (h : ∀ w ∈ ws, PwOk w) (p : Str) : ∃ B, Erl.Best (((goW ws).map (grW (endW ws))).map (edG (endW ws))) p 0 B ∧ Erl.Best ((goW ws).map fun w => edU (trW w)) p 0 B := by
  have g : ∀ d ∈ ((goW ws).map (grW (endW ws))).map (edG (endW ws)), Good d := fun d hd => by
    obtain ⟨r, hr, rfl⟩ := List.mem_map.mp hd
    exact goodG (rows_ok h r hr).n0 (rows_ok h r hr).ri
  have g2 : ∀ d ∈ ((goW ws).map trW).map (edB (endW ws)), Good d := fun d hd => by
    obtain ⟨r, hr, rfl⟩ := List.mem_map.mp hd
    obtain ⟨w, hw, rfl⟩ := List.mem_map.mp hr
    exact Erl.goodB (go_pos hw).2
  obtain ⟨B, b⟩ := Erl.best_ex _ p 0 g
  refine ⟨B, b, ?_⟩
  have same : ∀ q w, Erl.Arr (((goW ws).map (grW (endW ws))).map (edG (endW ws))) p 0 q w ↔ Erl.Arr (((goW ws).map trW).map (edB (endW ws))) p 0 q w := by
    have f : ∀ (w : Pw) (u : Int), 0 ≤ u → 0 < lsW w → (edG (endW ws) (grW (endW ws) w)).f u = (edB (endW ws) (trW w)).f u := fun w u h0 h1 => by
      show (fstE [(0, endW ws)] u).bind (fun m => if m + lsW w ≤ endW ws then some (m + lsW w) else none) = if u + lsW w ≤ endW ws then some (u + lsW w) else none
      unfold fstE
      by_cases c : u < endW ws
      · rw [if_pos c, Option.bind_some]
        by_cases c0 : u > 0
        · rw [if_pos c0]
        · rw [if_neg c0]
          have : u = 0 := by omega
          rw [this]
      · rw [if_neg c, if_neg (by omega)]
        rfl
    intro q w
    constructor
    · intro a
      induction a with
      | here => exact .here
      | @step d u v ha hd hf ih =>
        have h0 := ha.ge g
        obtain ⟨r, hr, rfl⟩ := List.mem_map.mp hd
        obtain ⟨x, hx, rfl⟩ := List.mem_map.mp hr
        rw [f x u h0 (go_pos hx).2] at hf
        exact .step (d := edB (endW ws) (trW x)) ih (List.mem_map_of_mem (List.mem_map_of_mem hx)) hf
    · intro a
      induction a with
      | here => exact .here
      | @step d u v ha hd hf ih =>
        have h0 := ha.ge g2
        obtain ⟨r, hr, rfl⟩ := List.mem_map.mp hd
        obtain ⟨x, hx, rfl⟩ := List.mem_map.mp hr
        rw [← f x u h0 (go_pos hx).2] at hf
        exact .step (d := edG (endW ws) (grW (endW ws) x)) ih (List.mem_map_of_mem (List.mem_map_of_mem hx)) hf
  have := Erl.best_free (D := (goW ws).map trW) (z := endW ws) (fun d hd => by
    obtain ⟨x, hx, rfl⟩ := List.mem_map.mp hd
    exact (go_pos hx).2) (by rw [List.map_map]; exact (sum_go h).symm) (b.of_arr same)
  rw [List.map_map] at this
  exact this
theorem goodU {ws : List Pw} : ∀ d ∈ (goW ws).map fun w => edU (trW w), Good d := fun d hd => by
  obtain ⟨w, hw, rfl⟩ := List.mem_map.mp hd
  exact Erl.goodU (go_pos hw).2
theorem go_len (ws : List Pw) : (goW ws).length ≤ ws.length := List.length_filter_le _ _
abbrev dueT (ws : List Pw) (p : Str) : Tb Str := iter ((goW ws).map fun w => edU (trW w)) ws.length [(p, 0)]
noncomputable def ansP (o : Option Int) : PV := match o with | none => .non | some v => .int v
theorem moves_is {ws : List Pw} {h : Str} {d : Int} (ok : HillOk ws h d) (p q : Str) : F_moves [hillP ws h d, .str p, .str q] = .ret (ansP (look (dueT ws p) q)) := by
  obtain ⟨j, ej, er⟩ := reached_is (dark := endW ws) (rows := (goW ws).map (grW (endW ws))) (p := p) (t := 0) (rows_ok ok.ok) (by rw [List.length_map]; have := go_len ws; have := ok.l1; omega)
  obtain ⟨B, b1, b2⟩ := best_is ok.ok p
  have g1 : ∀ d ∈ ((goW ws).map (grW (endW ws))).map (edG (endW ws)), Good d := fun d hd => by
    obtain ⟨r, hr, rfl⟩ := List.mem_map.mp hd
    exact goodG (rows_ok ok.ok r hr).n0 (rows_ok ok.ok r hr).ri
  have e1 : look (tb (itG (endW ws) ((goW ws).map (grW (endW ws))) j [⟨p, 0, none⟩])) = B := by
    rw [itG_tb, Erl.iter_eq g1 ej (Nat.le_refl _)]
    exact Erl.iter_best g1 b1 (Nat.le_refl _)
  have e2 : look (dueT ws p) = B := Erl.iter_best goodU b2 (by rw [List.length_map]; exact go_len ws)
  rw [e2]
  generalize hes : itG (endW ws) ((goW ws).map (grW (endW ws))) j [⟨p, 0, none⟩] = es at *
  unfold F_moves m_moves
  show (seqP _ _ [val (hillP ws h d), val (.str p), val (.str q), un, un, un]).bind finP = _
  refine seq_nx (ρ' := [val (hillP ws h d), val (.str p), val (.str q), val (.int (endW ws)), un, un]) ?_ ?_
  · unfold setP
    dsimp only
    rw [con1]
    unfold lstV
    rw [lc_as (l := ws.map pwP) [un] rfl (by rw [List.length_map]; have := ok.l1; omega) rfl]
    rw [lcM_map (k := 0) (ρ := [un]) (f := fun y => match y with | .tup [_, _, _, _, .int a, .int b] => .int (lsW ⟨"", "", "", "", a, b⟩) | _ => .non) (ws.map pwP) _ (fun _ => rfl) (fun y hy => by
      obtain ⟨w, _, rfl⟩ := List.mem_map.mp hy
      show F_patrol_pace [pwP w] = _
      rw [pace_is]
      rfl)]
    have e : (ws.map pwP).map (fun y => match y with | .tup [_, _, _, _, .int a, .int b] => PV.int (lsW ⟨"", "", "", "", a, b⟩) | _ => .non) = (ws.map lsW).map PV.int := by
      rw [List.map_map, List.map_map]
      rfl
    rw [e]
    simp only [rZ, sumLO, ints2, M.ofO]
    rfl
  refine seq_nx (ρ' := [val (hillP ws h d), val (.str p), val (.str q), val (.int (endW ws)), val (.lst (((goW ws).map (grW (endW ws))).map grP)), un]) ?_ ?_
  · unfold setP lstV
    rw [lc_as (l := ws.map pwP) [un, val (.int (endW ws))] rfl (by rw [List.length_map]; have := ok.l1; omega) rfl]
    rw [lcM_filter (k := 0) (ρ := [un, val (.int (endW ws))]) (p := fun y => match y with | .tup [_, _, _, _, .int a, .int b] => decide (lsW ⟨"", "", "", "", a, b⟩ > 0) | _ => false) (f := fun y => match y with | .tup [.str n, _, .str s, .str e, .int a, .int b] => grP ⟨n, s, e, lsW ⟨"", "", "", "", a, b⟩, [(0, endW ws)]⟩ | _ => .non) (ws.map pwP) _ (fun _ => rfl) (fun y hy => by
      obtain ⟨w, _, rfl⟩ := List.mem_map.mp hy
      show asB (bin2 gtO (fun ρ => ((consA (fun ρ => getV ρ 0) (fun _ => M.ret [])) ρ).bind F_patrol_pace) (fun _ => M.ret (.int 0))) [val (pwP w), val (.int (endW ws))] = _
      simp only [asB, bin2, consA, gV0, rZ, pace_is, gtI]
      rfl) (fun y hy _ => by
      obtain ⟨w, _, rfl⟩ := List.mem_map.mp hy
      show (consA _ _ [val (pwP w), val (.int (endW ws))]).bind mkTup = _
      simp only [consA, bin2, gV0, gVs, rZ, pace_is]
      rfl)]
    have e : ((ws.map pwP).filter (fun y => match y with | .tup [_, _, _, _, .int a, .int b] => decide (lsW ⟨"", "", "", "", a, b⟩ > 0) | _ => false)).map (fun y => match y with | .tup [.str n, _, .str s, .str e, .int a, .int b] => grP ⟨n, s, e, lsW ⟨"", "", "", "", a, b⟩, [(0, endW ws)]⟩ | _ => .non) = ((goW ws).map (grW (endW ws))).map grP := by
      rw [List.filter_map, List.map_map, List.map_map]
      rfl
    rw [e]
    rfl
  refine seq_nx (ρ' := [val (hillP ws h d), val (.str p), val (.str q), val (.int (endW ws)), val (.lst (((goW ws).map (grW (endW ws))).map grP)), val (.dct (es.map ceP))]) ?_ ?_
  · simp only [setP, consA, gV0, gVs, rZ, er]
    rfl
  refine fin_y (ret_y ?_)
  show ifV _ _ _ [val (hillP ws h d), val (.str p), val (.str q), val (.int (endW ws)), val (.lst (((goW ws).map (grW (endW ws))).map grP)), val (.dct (es.map ceP))] = _
  have hq : B q = (atE es q).map (·.v) := by rw [← e1, look_ce]
  rw [hq]
  unfold ifV
  simp only [asB, bin2, gV0, gVs, rZ, din_ce]
  cases c : atE es q with
  | none => rfl
  | some x =>
    simp only [Option.isSome_some, Bool.bne_false, rZ, if_true, dget_ce c, ix_ce, Option.map_some]
    rfl
theorem due_is {ws : List Pw} {h : Str} {d : Int} (ok : HillOk ws h d) (p : Str) : F_law_moves [hillP ws h d, .str p] = .ret (.dct ((dueT ws p).map kvP)) := by
  have hd0 : ∀ w ∈ ws, PwOk w := ok.ok
  have hl := ok.l1
  unfold F_law_moves m_law_moves
  show (seqP _ _ [val (hillP ws h d), val (.str p), un, un, un, un]).bind finP = _
  refine seq_nx (ρ' := [val (hillP ws h d), val (.str p), Ent.ownD (List.map kvP [(p, 0)]), un, un, un]) rfl ?_
  have skip : ∀ (l : Tb Str) (w : Pw), ¬ lsW w > 0 → (if lsW w > 0 then rel (edU (trW w)) l else l) = l := fun l w c => if_neg c
  have foldG : ∀ (vs : List Pw) (l : Tb Str), vs.foldl (fun l w => if lsW w > 0 then rel (edU (trW w)) l else l) l = ((goW vs).map fun w => edU (trW w)).foldl (fun l d => rel d l) l := by
    intro vs
    induction vs with
    | nil => intro l; rfl
    | cons w vs ih =>
      intro l
      unfold goW at *
      rw [List.foldl_cons, List.filter_cons]
      by_cases c : lsW w > 0
      · rw [if_pos c, if_pos (by simpa using c), List.map_cons, List.foldl_cons]
        exact ih _
      · rw [if_neg c, if_neg (by simpa using c)]
        exact ih _
  have foldN : ∀ (vs : List Pw) (k : Nat), vs.foldl (fun l _ => rnd ((goW ws).map fun w => edU (trW w)) l) (iter ((goW ws).map fun w => edU (trW w)) k [(p, 0)]) = iter ((goW ws).map fun w => edU (trW w)) (k + vs.length) [(p, 0)] := by
    intro vs
    induction vs with
    | nil => intro k; rfl
    | cons w vs ih =>
      intro k
      rw [List.foldl_cons, List.length_cons]
      rw [show k + (vs.length + 1) = (k + 1) + vs.length by omega]
      exact ih (k + 1)
  obtain ⟨ρ', e, ⟨_, _, e3, e4, e5, rfl⟩⟩ := for_fold (bd := bindN 3) (mb := mkFor (fun ρ => ((bin2 ixO (fun ρ => getV ρ 0) (fun _ => M.ret (.int 0))) ρ).bind iterO) (bindN 4)
    (ifP (andP (asB (bin2 (dinO false) (bin2 ixO (fun ρ => getV ρ 4) (fun _ => M.ret (.int 2))) (fun ρ => getB ρ 2))) (asB (bin2 gtO (fun ρ => ((consA (fun ρ => getV ρ 4) (fun _ => M.ret [])) ρ).bind F_law_least) (fun _ => M.ret (.int 0)))))
    (seqP (setP 5 (bin2 addO (bin2 dgetO (fun ρ => getB ρ 2) (bin2 ixO (fun ρ => getV ρ 4) (fun _ => M.ret (.int 2)))) (fun ρ => ((consA (fun ρ => getV ρ 4) (fun _ => M.ret [])) ρ).bind F_law_least)))
    (dputP 2 (bin2 ixO (fun ρ => getV ρ 4) (fun _ => M.ret (.int 3))) (fun ρ => ((consA (dgt2 (bin2 ixO (fun ρ => getV ρ 4) (fun _ => M.ret (.int 3))) (fun ρ => getB ρ 2) (fun ρ => getV ρ 5)) (consA (fun ρ => getV ρ 5) (fun _ => M.ret []))) ρ).bind min2O)))
    (fun ρ => M.ret (.nx ρ)))) (f := pwP) (α := Tb Str) (st := fun l _ => rnd ((goW ws).map fun w => edU (trW w)) l) (R := fun l ρ => Erl.Nd l ∧ Keys p ((goW ws).map fun w => edU (trW w)) l ∧ ∃ e3 e4 e5, ρ = [val (hillP ws h d), val (.str p), Ent.ownD (l.map kvP), e3, e4, e5]) ws [(p, 0)] [val (hillP ws h d), val (.str p), Ent.ownD (List.map kvP [(p, 0)]), un, un, un] ⟨Erl.iter_nd [] p 0 0, iter_keys (t := 0) 0, _, _, _, rfl⟩ (fun w hw l ρ hx => by
      obtain ⟨nd, ks, e3, e4, e5, rfl⟩ := hx
      obtain ⟨ρ', e, ⟨nd', ks', e4', e5', rfl⟩⟩ := for_fold (bd := bindN 4) (mb := (ifP (andP (asB (bin2 (dinO false) (bin2 ixO (fun ρ => getV ρ 4) (fun _ => M.ret (.int 2))) (fun ρ => getB ρ 2))) (asB (bin2 gtO (fun ρ => ((consA (fun ρ => getV ρ 4) (fun _ => M.ret [])) ρ).bind F_law_least) (fun _ => M.ret (.int 0)))))
    (seqP (setP 5 (bin2 addO (bin2 dgetO (fun ρ => getB ρ 2) (bin2 ixO (fun ρ => getV ρ 4) (fun _ => M.ret (.int 2)))) (fun ρ => ((consA (fun ρ => getV ρ 4) (fun _ => M.ret [])) ρ).bind F_law_least)))
    (dputP 2 (bin2 ixO (fun ρ => getV ρ 4) (fun _ => M.ret (.int 3))) (fun ρ => ((consA (dgt2 (bin2 ixO (fun ρ => getV ρ 4) (fun _ => M.ret (.int 3))) (fun ρ => getB ρ 2) (fun ρ => getV ρ 5)) (consA (fun ρ => getV ρ 5) (fun _ => M.ret []))) ρ).bind min2O)))
    (fun ρ => M.ret (.nx ρ)))) (f := pwP) (α := Tb Str) (st := fun l w => if lsW w > 0 then rel (edU (trW w)) l else l) (R := fun l ρ => Erl.Nd l ∧ Keys p ((goW ws).map fun w => edU (trW w)) l ∧ ∃ e4 e5, ρ = [val (hillP ws h d), val (.str p), Ent.ownD (l.map kvP), val (pwP w), e4, e5]) ws l [val (hillP ws h d), val (.str p), Ent.ownD (l.map kvP), val (pwP w), e4, e5] ⟨nd, ks, _, _, rfl⟩ (fun x hx l ρ hR => by
        obtain ⟨nd, ks, e4, e5, rfl⟩ := hR
        refine ⟨[val (hillP ws h d), val (.str p), Ent.ownD (l.map kvP), val (pwP w), val (pwP x), e5], ?_⟩
        have ll := keys_len nd ks
        rw [List.length_map] at ll
        have := go_len ws
        have i2 : ixO (pwP x) (.int 2) = .ret (.str x.s) := rfl
        have i3 : ixO (pwP x) (.int 3) = .ret (.str x.e) := rfl
        have t1 : asB (bin2 (dinO false) (bin2 ixO (fun ρ => getV ρ 4) (fun _ => M.ret (.int 2))) (fun ρ => getB ρ 2)) [val (hillP ws h d), val (.str p), Ent.ownD (l.map kvP), val (pwP w), val (pwP x), e5] = .ret (look l x.s).isSome := by
          simp only [asB, bin2, gV0, gVs, gB0d, gBs, rZ, i2, din_tb, Bool.bne_false]
        have t2 : asB (bin2 gtO (fun ρ => ((consA (fun ρ => getV ρ 4) (fun _ => M.ret [])) ρ).bind F_law_least) (fun _ => M.ret (.int 0))) [val (hillP ws h d), val (.str p), Ent.ownD (l.map kvP), val (pwP w), val (pwP x), e5] = .ret (decide (lsW x > 0)) := by
          simp only [asB, bin2, consA, gV0, gVs, rZ, least_is, gtI]
        cases e1 : look l x.s with
        | none =>
          rw [e1] at t1
          have er : (if lsW x > 0 then rel (edU (trW x)) l else l) = l := by
            split
            · exact Erl.rel_none e1
            · rfl
          rw [er]
          exact ⟨_, rfl, if_f (and_f t1), nd, ks, _, _, rfl⟩
        | some u =>
          rw [e1] at t1
          by_cases c : lsW x > 0
          · rw [decide_eq_true c] at t2
            have hin : edU (trW x) ∈ (goW ws).map fun w => edU (trW w) := List.mem_map.mpr ⟨x, List.mem_filter.mpr ⟨hx, by simpa using c⟩, rfl⟩
            rw [if_pos c]
            have er := Erl.rel_min (d := edU (trW x)) nd e1 (show (edU (trW x)).f u = some (u + lsW x) from rfl)
            refine ⟨[val (hillP ws h d), val (.str p), Ent.ownD ((rel (edU (trW x)) l).map kvP), val (pwP w), val (pwP x), val (.int (u + lsW x))], rfl, (if_t ((and_t t1).trans t2)).trans ?_, Erl.rel_nd nd, rel_keys ks hin, _, _, rfl⟩
            refine sq_nx (ρ' := [val (hillP ws h d), val (.str p), Ent.ownD (l.map kvP), val (pwP w), val (pwP x), val (.int (u + lsW x))]) ?_ ?_
            · simp only [setP, bin2, consA, gV0, gVs, gB0d, gBs, rZ, i2, dget_tb e1, least_is, addI]
              rfl
            · rw [er]
              unfold dputP dgt2
              simp only [bin2, consA, gV0, gVs, gB0d, gBs, rZ, i3, List.getElem?_cons_succ, List.getElem?_cons_zero, keyO, M.ofO, val_tb]
              have mn : ∀ o : Option Int, min2O [(o.map PV.int).getD (.int (u + lsW x)), .int (u + lsW x)] = .ret (.int (if u + lsW x < o.getD (u + lsW x) then u + lsW x else o.getD (u + lsW x))) := fun o => by cases o <;> rfl
              rw [mn, rZ, if_pos (by rw [List.length_map]; omega), put_kv]
              rfl
          · rw [decide_eq_false c] at t2
            rw [if_neg c]
            exact ⟨_, rfl, if_f ((and_t t1).trans t2), nd, ks, _, _, rfl⟩)
      refine ⟨_, _, rfl, e, ?_⟩
      rw [foldG] at nd' ks' ⊢
      exact ⟨nd', ks', _, _, _, rfl⟩)
  have eN := foldN ws 0
  rw [Nat.zero_add] at eN
  have eN : ws.foldl (fun l _ => rnd ((goW ws).map fun w => edU (trW w)) l) [(p, 0)] = dueT ws p := eN
  rw [eN] at e
  refine seq_nx (ρ' := [val (hillP ws h d), val (.str p), Ent.ownD ((dueT ws p).map kvP), e3, e4, e5]) e ?_
  rfl
end
section
open Erl (Ed Tb look put rel rnd iter Good Tr edU edB)
abbrev Lk := Pw × Int
noncomputable def lkP (a : Lk) : PV := .tup [.str a.1.nm, .int a.2]
theorem only_nm {ws : List Pw} (nd : (ws.map (·.nm)).Nodup) {x : Pw} (hx : x ∈ ws) : ws.filter (fun w => w.nm == x.nm) = [x] := by
  induction ws with
  | nil => cases hx
  | cons w ws ih =>
    rw [List.map_cons, List.nodup_cons] at nd
    rw [List.filter_cons]
    rcases List.mem_cons.mp hx with rfl | hx
    · rw [if_pos (by simp)]
      congr 1
      rw [List.filter_eq_nil_iff]
      intro y hy z
      simp at z
      exact nd.1 (List.mem_map.mpr ⟨y, hy, z⟩)
    · rw [if_neg, ih nd.2 hx]
      intro z
      simp at z
      exact nd.1 (List.mem_map.mpr ⟨x, hx, z.symm⟩)
theorem named_is {ws : List Pw} {h : Str} {d : Int} (ok : HillOk ws h d) {x : Pw} (hx : x ∈ ws) : F_way_named [hillP ws h d, .str x.nm] = .ret (pwP x) := by
  have go : ∀ (l : List Pw) (e2 : Ent), (l.map (·.nm)).Nodup → x ∈ l → forP (bindN 2) (ifP (asB (bin2 (eqO false) (bin2 ixO (fun ρ => getV ρ 2) (fun _ => M.ret (.int 0))) (fun ρ => getV ρ 1))) (retP (fun ρ => getV ρ 2)) (fun ρ => M.ret (.nx ρ))) (l.map pwP) [val (hillP ws h d), val (.str x.nm), e2] = .ret (.rt (pwP x)) := by
    intro l
    induction l with
    | nil => intro e2 nd hx; cases hx
    | cons w l ih =>
      intro e2 nd hx
      rw [List.map_cons, List.nodup_cons] at nd
      rw [List.map_cons]
      unfold forP
      have i0 : ixO (pwP w) (.int 0) = .ret (.str w.nm) := rfl
      have tt : asB (bin2 (eqO false) (bin2 ixO (fun ρ => getV ρ 2) (fun _ => M.ret (.int 0))) (fun ρ => getV ρ 1)) [val (hillP ws h d), val (.str x.nm), val (pwP w)] = .ret (w.nm == x.nm) := by
        simp only [asB, bin2, gV0, gVs, rZ, i0, eqS, Bool.false_xor]
      show (ifP _ _ _ [val (hillP ws h d), val (.str x.nm), val (pwP w)]).bind _ = _
      by_cases c : w.nm = x.nm
      · rw [show (w.nm == x.nm) = true from by simpa using c] at tt
        have ew : w = x := by
          rcases List.mem_cons.mp hx with e | hx
          · exact e.symm
          · exact absurd (List.mem_map.mpr ⟨x, hx, c.symm⟩) nd.1
        rw [if_t tt, ret_y rfl, ew]
        rfl
      · rw [show (w.nm == x.nm) = false from by simpa using c] at tt
        have hx' : x ∈ l := by
          rcases List.mem_cons.mp hx with rfl | hx
          · exact absurd rfl c
          · exact hx
        rw [if_f tt, rZ]
        exact ih _ nd.2 hx'
  unfold F_way_named m_way_named
  show (seqP _ _ [val (hillP ws h d), val (.str x.nm), un]).bind finP = _
  exact seq_rt (go ws un ok.nd hx)
theorem slope_is {ws : List Pw} {h : Str} {d : Int} (ok : HillOk ws h d) {a : Lk} (ha : a.1 ∈ ws) : F_law_slope [hillP ws h d, lkP a] = .ret (pwP a.1) := by
  have l1 := ok.l1
  have i0 : ixO (lkP a) (.int 0) = .ret (.str a.1.nm) := rfl
  unfold F_law_slope m_law_slope
  show (retP _ [val (hillP ws h d), val (lkP a)]).bind finP = _
  refine fin_y (ret_y ?_)
  show bin2 ixO (lstV _) _ [val (hillP ws h d), val (lkP a)] = _
  have lc : lstV (mkLC [none, some 1] (fun ρ => ((bin2 ixO (fun ρ => getV ρ 0) (fun _ => M.ret (.int 0))) ρ).bind iterO) (bindN 0) (asB (bin2 (eqO false) (bin2 ixO (fun ρ => getV ρ 0) (fun _ => M.ret (.int 0))) (bin2 ixO (fun ρ => getV ρ 1) (fun _ => M.ret (.int 0))))) (fun ρ => getV ρ 0)) [val (hillP ws h d), val (lkP a)] = .ret (.lst [pwP a.1]) := by
    refine lst_r ?_
    rw [lc_as (l := ws.map pwP) [un, val (lkP a)] rfl (by rw [List.length_map]; omega) rfl]
    rw [lcM_filter (k := 0) (ρ := [un, val (lkP a)]) (p := fun y => match ixO y (.int 0) with | .ret (.str z) => z == a.1.nm | _ => false) (f := id) (ws.map pwP) _ (fun _ => rfl) (fun y hy => by
      obtain ⟨w, _, rfl⟩ := List.mem_map.mp hy
      have j0 : ixO (pwP w) (.int 0) = .ret (.str w.nm) := rfl
      rw [List.set_cons_zero]
      simp only [asB, bin2, gV0, gVs, rZ, i0, j0, eqS, Bool.false_xor]) (fun y _ _ => rfl)]
    rw [List.map_id, List.filter_map]
    have : ((fun y => match ixO y (.int 0) with | .ret (.str z) => z == a.1.nm | _ => false) ∘ pwP) = fun w : Pw => w.nm == a.1.nm := rfl
    rw [this, only_nm ok.nd ha]
    rfl
  show ((lstV _ _).bind fun x => _) = _
  rw [lc]
  rfl
noncomputable def fol (ws : List Pw) (a b : Lk) : Bool := match look (dueT ws a.1.e) b.1.s with | none => false | some v => decide (a.2 + lsW a.1 + v ≤ b.2)
theorem follows_is {ws : List Pw} {h : Str} {d : Int} (ok : HillOk ws h d) {a b : Lk} (ha : a.1 ∈ ws) (hb : b.1 ∈ ws) : F_follows [hillP ws h d, lkP a, lkP b] = .ret (.bl (fol ws a b)) := by
  have a0 : ixO (lkP a) (.int 0) = .ret (.str a.1.nm) := rfl
  have a1 : ixO (lkP a) (.int 1) = .ret (.int a.2) := rfl
  have b0 : ixO (lkP b) (.int 0) = .ret (.str b.1.nm) := rfl
  have b1 : ixO (lkP b) (.int 1) = .ret (.int b.2) := rfl
  have w3 : ixO (pwP a.1) (.int 3) = .ret (.str a.1.e) := rfl
  have w2 : ixO (pwP b.1) (.int 2) = .ret (.str b.1.s) := rfl
  unfold F_follows m_follows
  show (seqP _ _ [val (hillP ws h d), val (lkP a), val (lkP b), un, un]).bind finP = _
  refine seq_nx (ρ' := [val (hillP ws h d), val (lkP a), val (lkP b), val (pwP a.1), un]) ?_ (seq_nx (ρ' := [val (hillP ws h d), val (lkP a), val (lkP b), val (pwP a.1), val (ansP (look (dueT ws a.1.e) b.1.s))]) ?_ (fin_y (ret_y ?_)))
  · simp only [setP, consA, bin2, gV0, gVs, rZ, a0, named_is ok ha]
    rfl
  · simp only [setP, consA, bin2, gV0, gVs, rZ, b0, w3, named_is ok hb, w2, moves_is ok]
    rfl
  · unfold fol
    show andV _ _ [val (hillP ws h d), val (lkP a), val (lkP b), val (pwP a.1), val (ansP (look (dueT ws a.1.e) b.1.s))] = _
    cases e : look (dueT ws a.1.e) b.1.s with
    | none => rfl
    | some v =>
      show andV _ _ [val (hillP ws h d), val (lkP a), val (lkP b), val (pwP a.1), val (.int v)] = _
      simp only [andV, consA, bin2, gV0, gVs, rZ, isO, isN, a1, b1, pace_is, addI, leI]
      rfl
noncomputable def rowL (ws : List Pw) (L : List Lk) (a : Lk) : List Int := ((L.mapIdx fun i b => ((i : Int), b)).filter fun p => fol ws a p.2).map (·.1)
end
section
open Erl (Ed Tb look put rel rnd iter Good Tr edU edB)
noncomputable def enK (p : Int × Lk) : PV := .tup [.int p.1, lkP p.2]
noncomputable def inB : PEnv → M Fl := (ifP (andP (asB (bin2 (dinO false) (bin2 ixO (fun ρ => getV ρ 7) (fun ρ => getV ρ 9)) (fun ρ => getV ρ 5))) (asB (bin2 leOD (bin2 addO (fun ρ => getV ρ 6) (bin2 dgetO (fun ρ => getV ρ 5) (bin2 ixO (fun ρ => getV ρ 7) (fun ρ => getV ρ 9)))) (bin2 ixO (fun ρ => getV ρ 10) (fun _ => M.ret (.int 1))))))
    (appP 8 (fun ρ => getV ρ 9))
    (fun ρ => M.ret (.nx ρ)))
noncomputable def outB : PEnv → M Fl := (seqP (setP 4 (fun ρ => ((consA (fun ρ => getV ρ 0) (consA (fun ρ => getV ρ 3) (fun _ => M.ret []))) ρ).bind F_law_slope))
    (seqP (parP 5 6 (consA (fun ρ => ((consA (fun ρ => getV ρ 0) (consA (bin2 ixO (fun ρ => getV ρ 4) (fun _ => M.ret (.int 3))) (fun _ => M.ret []))) ρ).bind F_law_moves) (consA (bin2 addO (bin2 ixO (fun ρ => getV ρ 3) (fun _ => M.ret (.int 1))) (fun ρ => ((consA (fun ρ => getV ρ 4) (fun _ => M.ret [])) ρ).bind F_law_least)) (fun _ => M.ret []))))
    (seqP (setP 7 (lstV (mkLC [none, some 0] (fun ρ => ((fun ρ => getV ρ 1) ρ).bind iterO) (bindN 0) allTs (bin2 ixO (fun ρ => ((consA (fun ρ => getV ρ 1) (consA (fun ρ => getV ρ 0) (fun _ => M.ret []))) ρ).bind F_law_slope) (fun _ => M.ret (.int 2))))))
    (seqP (ownP 8 (fun ρ => ((fun _ => M.ret []) ρ).bind mkLst))
    (seqP (mkFor (fun ρ => ((consA (fun ρ => getV ρ 1) (fun _ => M.ret [])) ρ).bind enTO) (bindT [9, 10])
    (ifP (andP (asB (bin2 (dinO false) (bin2 ixO (fun ρ => getV ρ 7) (fun ρ => getV ρ 9)) (fun ρ => getV ρ 5))) (asB (bin2 leOD (bin2 addO (fun ρ => getV ρ 6) (bin2 dgetO (fun ρ => getV ρ 5) (bin2 ixO (fun ρ => getV ρ 7) (fun ρ => getV ρ 9)))) (bin2 ixO (fun ρ => getV ρ 10) (fun _ => M.ret (.int 1))))))
    (appP 8 (fun ρ => getV ρ 9))
    (fun ρ => M.ret (.nx ρ))))
    (frzO 8 (appP 2 (fun ρ => getV ρ 8))))))))
theorem en_map (L : List Lk) : enumL (L.map lkP) = (L.mapIdx fun i b => ((i : Int), b)).map enK := by
  unfold enumL
  refine List.ext_getElem? fun i => ?_
  simp only [List.getElem?_mapIdx, List.getElem?_map, Option.map_map]
  rfl
theorem row_go {ws : List Pw} {h : Str} {d : Int} (ok : HillOk ws h d) (L : List Lk) (hL : L.length < 100) (a : Lk) (f o w e9 e10 : Ent) :
    ∃ e9' e10', forP (bindT [9, 10]) inB (enumL (L.map lkP)) [val (hillP ws h d), val (.tup (L.map lkP)), f, o, w, val (.dct ((dueT ws a.1.e).map kvP)), val (.int (a.2 + lsW a.1)), val (.lst (L.map fun b : Lk => PV.str b.1.s)), Ent.own [], e9, e10] = .ret (.nx [val (hillP ws h d), val (.tup (L.map lkP)), f, o, w, val (.dct ((dueT ws a.1.e).map kvP)), val (.int (a.2 + lsW a.1)), val (.lst (L.map fun b : Lk => PV.str b.1.s)), Ent.own ((rowL ws L a).map PV.int), e9', e10']) := by
  rw [en_map]
  obtain ⟨ρ', e, ⟨e9', e10', rfl⟩⟩ := for_pre (bd := bindT [9, 10]) (mb := inB) (f := enK) (full := L.mapIdx fun i b => ((i : Int), b)) (R := fun done ρ => ∃ e9 e10, ρ = [val (hillP ws h d), val (.tup (L.map lkP)), f, o, w, val (.dct ((dueT ws a.1.e).map kvP)), val (.int (a.2 + lsW a.1)), val (.lst (L.map fun b : Lk => PV.str b.1.s)), Ent.own (((done.filter fun p => fol ws a p.2).map (·.1)).map PV.int), e9, e10]) (fun p done rest ρ hfull hx => by
    obtain ⟨e9, e10, rfl⟩ := hx
    obtain ⟨i, b⟩ := p
    have hm : ((i, b) : Int × Lk) ∈ L.mapIdx fun i b => ((i : Int), b) := by rw [hfull]; simp
    obtain ⟨j, hj, ej⟩ := List.mem_mapIdx.mp hm
    cases ej
    have dl : done.length < 100 := by
      have := congrArg List.length hfull
      simp at this
      omega
    have ixs : ixO (.lst (L.map fun b : Lk => PV.str b.1.s)) (.int (j : Int)) = .ret (.str L[j].1.s) := by
      show M.ofO (atI _ _) = _
      unfold atI ixN
      rw [List.length_map, if_pos (by omega), if_pos (by omega)]
      simp [hj, M.ofO]
    have i1 : ixO (lkP L[j]) (.int 1) = .ret (.int L[j].2) := rfl
    have t1 : asB (bin2 (dinO false) (bin2 ixO (fun ρ => getV ρ 7) (fun ρ => getV ρ 9)) (fun ρ => getV ρ 5)) [val (hillP ws h d), val (.tup (L.map lkP)), f, o, w, val (.dct ((dueT ws a.1.e).map kvP)), val (.int (a.2 + lsW a.1)), val (.lst (L.map fun b : Lk => PV.str b.1.s)), Ent.own (((done.filter fun p => fol ws a p.2).map (·.1)).map PV.int), val (.int (j : Int)), val (lkP L[j])] = .ret (look (dueT ws a.1.e) L[j].1.s).isSome := by
      simp only [asB, bin2, gV0, gVs, rZ, ixs, din_tb, Bool.bne_false]
    have tt : andP (asB (bin2 (dinO false) (bin2 ixO (fun ρ => getV ρ 7) (fun ρ => getV ρ 9)) (fun ρ => getV ρ 5))) (asB (bin2 leOD (bin2 addO (fun ρ => getV ρ 6) (bin2 dgetO (fun ρ => getV ρ 5) (bin2 ixO (fun ρ => getV ρ 7) (fun ρ => getV ρ 9)))) (bin2 ixO (fun ρ => getV ρ 10) (fun _ => M.ret (.int 1))))) [val (hillP ws h d), val (.tup (L.map lkP)), f, o, w, val (.dct ((dueT ws a.1.e).map kvP)), val (.int (a.2 + lsW a.1)), val (.lst (L.map fun b : Lk => PV.str b.1.s)), Ent.own (((done.filter fun p => fol ws a p.2).map (·.1)).map PV.int), val (.int (j : Int)), val (lkP L[j])] = .ret (fol ws a L[j]) := by
      unfold fol
      cases el : look (dueT ws a.1.e) L[j].1.s with
      | none => rw [el] at t1; exact and_f t1
      | some v =>
        rw [el] at t1
        refine (and_t t1).trans ?_
        simp only [asB, bin2, gV0, gVs, rZ, ixs, dget_tb el, addI, i1, leI]
    refine ⟨_, [val (hillP ws h d), val (.tup (L.map lkP)), f, o, w, val (.dct ((dueT ws a.1.e).map kvP)), val (.int (a.2 + lsW a.1)), val (.lst (L.map fun b : Lk => PV.str b.1.s)), Ent.own ((((done ++ [((j : Int), L[j])]).filter fun p => fol ws a p.2).map (·.1)).map PV.int), val (.int (j : Int)), val (lkP L[j])], rfl, ?_, _, _, rfl⟩
    show ifP _ _ _ [val (hillP ws h d), val (.tup (L.map lkP)), f, o, w, val (.dct ((dueT ws a.1.e).map kvP)), val (.int (a.2 + lsW a.1)), val (.lst (L.map fun b : Lk => PV.str b.1.s)), Ent.own (((done.filter fun p => fol ws a p.2).map (·.1)).map PV.int), val (.int (j : Int)), val (lkP L[j])] = _
    cases c : fol ws a L[j] with
    | true =>
      rw [c] at tt
      refine (if_t tt).trans ?_
      show (if (((done.filter fun p => fol ws a p.2).map (·.1)).map PV.int).length < 100000 then M.ret _ else M.fail) = _
      rw [if_pos]
      · rw [List.filter_append, List.filter_cons, if_pos (by simpa using c)]
        simp
      · rw [List.length_map, List.length_map]
        have := List.length_filter_le (fun p : Int × Lk => fol ws a p.2) done
        omega
    | false =>
      rw [c] at tt
      refine (if_f tt).trans ?_
      rw [List.filter_append, List.filter_cons, if_neg (by simpa using c)]
      simp) (L.mapIdx fun i b => ((i : Int), b)) [] [val (hillP ws h d), val (.tup (L.map lkP)), f, o, w, val (.dct ((dueT ws a.1.e).map kvP)), val (.int (a.2 + lsW a.1)), val (.lst (L.map fun b : Lk => PV.str b.1.s)), Ent.own [], e9, e10] rfl ⟨e9, e10, rfl⟩
  exact ⟨e9', e10', e⟩
theorem behind_is {ws : List Pw} {h : Str} {d : Int} (ok : HillOk ws h d) (L : List Lk) (hL : L.length < 100) (hm : ∀ a ∈ L, a.1 ∈ ws) : F_law_behind [hillP ws h d, .tup (L.map lkP)] = .ret (.lst (L.map fun a => PV.lst ((rowL ws L a).map PV.int))) := by
  unfold F_law_behind m_law_behind
  show (seqP _ _ [val (hillP ws h d), val (.tup (L.map lkP)), un, un, un, un, un, un, un, un, un]).bind finP = _
  refine seq_nx (ρ' := [val (hillP ws h d), val (.tup (L.map lkP)), Ent.own [], un, un, un, un, un, un, un, un]) rfl ?_
  obtain ⟨ρ', e, ⟨e3, e4, e5, e6, e7, e8, e9, e10, rfl⟩⟩ := for_pre (bd := bindN 3) (mb := outB) (f := lkP) (full := L) (R := fun done ρ => ∃ e3 e4 e5 e6 e7 e8 e9 e10, ρ = [val (hillP ws h d), val (.tup (L.map lkP)), Ent.own (done.map fun a => PV.lst ((rowL ws L a).map PV.int)), e3, e4, e5, e6, e7, e8, e9, e10]) (fun a done rest ρ hfull hx => by
    obtain ⟨e3, e4, e5, e6, e7, e8, e9, e10, rfl⟩ := hx
    have ha : a.1 ∈ ws := hm a (by rw [hfull]; simp)
    have dl : done.length < 100 := by
      have := congrArg List.length hfull
      simp at this
      omega
    have w3 : ixO (pwP a.1) (.int 3) = .ret (.str a.1.e) := rfl
    have a1 : ixO (lkP a) (.int 1) = .ret (.int a.2) := rfl
    obtain ⟨e9', e10', er⟩ := row_go ok L hL a (Ent.own (done.map fun a => PV.lst ((rowL ws L a).map PV.int))) (val (lkP a)) (val (pwP a.1)) e9 e10
    refine ⟨_, [val (hillP ws h d), val (.tup (L.map lkP)), Ent.own ((done ++ [a]).map fun a => PV.lst ((rowL ws L a).map PV.int)), val (lkP a), val (pwP a.1), val (.dct ((dueT ws a.1.e).map kvP)), val (.int (a.2 + lsW a.1)), val (.lst (L.map fun b : Lk => PV.str b.1.s)), val (.lst ((rowL ws L a).map PV.int)), e9', e10'], rfl, sq_nx (ρ' := [val (hillP ws h d), val (.tup (L.map lkP)), Ent.own (done.map fun a => PV.lst ((rowL ws L a).map PV.int)), val (lkP a), val (pwP a.1), e5, e6, e7, e8, e9, e10]) ?_ (sq_nx (ρ' := [val (hillP ws h d), val (.tup (L.map lkP)), Ent.own (done.map fun a => PV.lst ((rowL ws L a).map PV.int)), val (lkP a), val (pwP a.1), val (.dct ((dueT ws a.1.e).map kvP)), val (.int (a.2 + lsW a.1)), e7, e8, e9, e10]) ?_ (sq_nx (ρ' := [val (hillP ws h d), val (.tup (L.map lkP)), Ent.own (done.map fun a => PV.lst ((rowL ws L a).map PV.int)), val (lkP a), val (pwP a.1), val (.dct ((dueT ws a.1.e).map kvP)), val (.int (a.2 + lsW a.1)), val (.lst (L.map fun b : Lk => PV.str b.1.s)), e8, e9, e10]) ?_ (sq_nx (ρ' := [val (hillP ws h d), val (.tup (L.map lkP)), Ent.own (done.map fun a => PV.lst ((rowL ws L a).map PV.int)), val (lkP a), val (pwP a.1), val (.dct ((dueT ws a.1.e).map kvP)), val (.int (a.2 + lsW a.1)), val (.lst (L.map fun b : Lk => PV.str b.1.s)), Ent.own [], e9, e10]) rfl (sq_nx er ?_)))), ?_⟩
    · simp only [setP, consA, gV0, gVs, rZ, List.set, slope_is ok ha]
    · simp only [parP, consA, bin2, gV0, gVs, rZ, w3, due_is ok, a1, least_is, addI]
      rfl
    · unfold setP
      rw [lst_r (l := L.map fun b : Lk => PV.str b.1.s)]
      · rfl
      rw [lc_as (l := L.map lkP) [un, val (hillP ws h d)] rfl (by rw [List.length_map]; omega) rfl]
      rw [lcM_map (k := 0) (ρ := [un, val (hillP ws h d)]) (f := fun y => match F_law_slope [hillP ws h d, y] with | .ret z => (match ixO z (.int 2) with | .ret s => s | _ => .non) | _ => .non) (L.map lkP) _ (fun _ => rfl) (fun y hy => by
        obtain ⟨b, hb, rfl⟩ := List.mem_map.mp hy
        have w2 : ixO (pwP b.1) (.int 2) = .ret (.str b.1.s) := rfl
        rw [List.set_cons_zero]
        simp only [bin2, consA, gV0, gVs, rZ, slope_is ok (hm b hb), w2]), List.map_map]
      congr 1
      refine List.map_congr_left fun b hb => ?_
      show (match F_law_slope [hillP ws h d, lkP b] with | .ret z => (match ixO z (.int 2) with | .ret s => s | _ => .non) | _ => .non) = _
      rw [slope_is ok (hm b hb)]
      rfl
    · show (if (done.map fun a => PV.lst ((rowL ws L a).map PV.int)).length < 100000 then M.ret _ else M.fail) = _
      rw [if_pos (by rw [List.length_map]; omega), List.map_append]
      rfl
    · exact ⟨_, _, _, _, _, _, _, _, rfl⟩) L [] [val (hillP ws h d), val (.tup (L.map lkP)), Ent.own [], un, un, un, un, un, un, un, un] rfl ⟨_, _, _, _, _, _, _, _, rfl⟩
  exact seq_nx e (fin_y (ret_y rfl))
end
def LkOk (ws : List Pw) (d : Int) (a : Lk) : Prop := a.1 ∈ ws ∧ 0 < lsW a.1 ∧ 0 ≤ a.2 ∧ a.2 ≤ d
noncomputable def slW (w : Pw) : Bool := (w.kd == ("slope" : Str)) && decide (lsW w > 0)
noncomputable def lkB : PEnv → M Fl := (seqP (setP 7 (fun ρ => ((consA (fun ρ => getV ρ 0) (consA (fun _ => M.ret (.int 6)) (fun _ => M.ret []))) ρ).bind F_law_take))
    (seqP (setP 8 (fun ρ => ((consA (bin2 ixO (fun ρ => getV ρ 2) (fun ρ => ((consA (fun ρ => getV ρ 0) (consA (fun ρ => ((consA (fun ρ => getV ρ 2) (fun _ => M.ret [])) ρ).bind lenO) (fun _ => M.ret []))) ρ).bind F_law_take)) (consA (fun ρ => ((consA (fun ρ => getV ρ 0) (consA (fun ρ => getV ρ 5) (fun _ => M.ret []))) ρ).bind F_law_take) (fun _ => M.ret []))) ρ).bind mkTup))
    (seqP (appP 3 (fun ρ => getV ρ 8))
    (ifP (asB (bin2 (eqO false) (fun ρ => getV ρ 7) (fun _ => M.ret (.int 5))))
    (setiP 3 (fun ρ => getV ρ 6) (bin2 ixO (fun ρ => getB ρ 3) (fun ρ => ((consA (fun ρ => getV ρ 0) (consA (fun ρ => ((consA (fun ρ => getB ρ 3) (fun _ => M.ret [])) ρ).bind lenO) (fun _ => M.ret []))) ρ).bind F_law_take)))
    (fun ρ => M.ret (.nx ρ))))))
theorem slopes_is {ws : List Pw} {h : Str} {d : Int} (ok : HillOk ws h d) (r : List Ent) : mkLC [none] (fun ρ => ((bin2 ixO (fun ρ => getV ρ 1) (fun _ => M.ret (.int 0))) ρ).bind iterO) (bindN 0) (andP (asB (bin2 (eqO false) (bin2 ixO (fun ρ => getV ρ 0) (fun _ => M.ret (.int 1))) (fun _ => M.ret (.str "slope")))) (asB (bin2 gtO (fun ρ => ((consA (fun ρ => getV ρ 0) (fun _ => M.ret [])) ρ).bind F_law_least) (fun _ => M.ret (.int 0))))) (bin2 ixO (fun ρ => getV ρ 0) (fun _ => M.ret (.int 0))) (val .bag :: val (hillP ws h d) :: r) = .ret ((ws.filter slW).map fun w => PV.str w.nm) := by
  have l1 := ok.l1
  rw [lc_as (l := ws.map pwP) [un] rfl (by rw [List.length_map]; omega) rfl]
  rw [lcM_filter (k := 0) (ρ := [un]) (p := fun y => match ixO y (.int 1), F_law_least [y] with | .ret (.str z), .ret (.int n) => (z == ("slope" : Str)) && decide (n > 0) | _, _ => false) (f := fun y => match ixO y (.int 0) with | .ret z => z | _ => .non) (ws.map pwP) _ (fun _ => rfl) (fun y hy => by
    obtain ⟨w, _, rfl⟩ := List.mem_map.mp hy
    have j1 : ixO (pwP w) (.int 1) = .ret (.str w.kd) := rfl
    rw [List.set_cons_zero]
    simp only [andP, asB, bin2, consA, gV0, rZ, j1, eqS, least_is, gtI, Bool.false_xor]
    cases w.kd == ("slope" : Str) <;> rfl) (fun y hy _ => by
    obtain ⟨w, _, rfl⟩ := List.mem_map.mp hy
    rfl)]
  rw [List.filter_map, List.map_map]
  have : ((fun y => match ixO y (.int 1), F_law_least [y] with | .ret (.str z), .ret (.int n) => (z == ("slope" : Str)) && decide (n > 0) | _, _ => false) ∘ pwP) = slW := by
    funext w
    have j1 : ixO (pwP w) (.int 1) = .ret (.str w.kd) := rfl
    simp only [Function.comp, j1, least_is]
    rfl
  rw [this]
  rfl
theorem look_body {ws : List Pw} {h : Str} {d : Int} (ok : HillOk ws h d) (ne : ws.filter slW ≠ []) {sp : Int} (s0 : 1 ≤ sp) (s1 : sp ≤ d + 1) {L : List Lk} (hl : L.length < 30) (hL : ∀ a ∈ L, LkOk ws d a) (e4 e7 e8 : Ent) :
    Gen (lkB [val .bag, val (hillP ws h d), val (.lst ((ws.filter slW).map fun w => PV.str w.nm)), Ent.own (L.map lkP), e4, val (.int sp), val (.int (L.length : Int)), e7, e8]) 4 fun fl => ∃ ρ', fl = .nx ρ' ∧ ∃ (L' : List Lk) (e7' e8' : Ent), L'.length = L.length + 1 ∧ (∀ a ∈ L', LkOk ws d a) ∧ ρ' = [val .bag, val (hillP ws h d), val (.lst ((ws.filter slW).map fun w => PV.str w.nm)), Ent.own (L'.map lkP), e4, val (.int sp), val (.int (L.length : Int)), e7', e8'] := by
  have d0 := ok.d0
  have d1 := ok.d1
  have l1 := ok.l1
  have fl := List.length_filter_le slW ws
  have f0 : 0 < (ws.filter slW).length := List.length_pos_iff.mpr ne
  unfold lkB
  refine Gen.le (gseq (c := 1) (d := 3) (I := fun ρ => ∃ k : Int, ρ = [val .bag, val (hillP ws h d), val (.lst ((ws.filter slW).map fun w => PV.str w.nm)), Ent.own (L.map lkP), e4, val (.int sp), val (.int (L.length : Int)), val (.int k), e8]) ?_ ?_) (by decide)
  · simp only [setP, consA, gV0, gVs, rZ, F_law_take]
    exact Gen.le (drawB (c := 0) (by omega) (by omega) fun k k0 k1 => Gen.ret ⟨_, rfl, k, rfl⟩) (by decide)
  rintro _ ⟨k, rfl⟩
  refine Gen.le (gseq (c := 2) (d := 1) (I := fun ρ => ∃ a : Lk, LkOk ws d a ∧ ρ = [val .bag, val (hillP ws h d), val (.lst ((ws.filter slW).map fun w => PV.str w.nm)), Ent.own (L.map lkP), e4, val (.int sp), val (.int (L.length : Int)), val (.int k), val (lkP a)]) ?_ ?_) (by decide)
  · simp only [setP, consA, bin2, gV0, gVs, rZ, F_law_take, lenL, M.bZ]
    refine Gen.le (drawB (c := 1) (by rw [List.length_map]; omega) (by rw [List.length_map]; omega) fun x x0 x1 => ?_) (by decide)
    obtain ⟨z, hz, e⟩ := ix_lst (l := (ws.filter slW).map fun w => PV.str w.nm) x0 x1
    obtain ⟨w, hw, rfl⟩ := List.mem_map.mp hz
    rw [List.mem_filter] at hw
    rw [e, rZ]
    refine Gen.le (drawB (c := 0) (by omega) (by omega) fun m m0 m1 => ?_) (by decide)
    simp only [rZ, mkT2]
    have hs : 0 < lsW w := by
      have := hw.2
      unfold slW at this
      simp at this
      exact this.2
    exact Gen.ret ⟨_, rfl, (w, m), ⟨hw.1, hs, m0, by show m ≤ d; omega⟩, rfl⟩
  rintro _ ⟨a, ha, rfl⟩
  refine gn (ρ' := [val .bag, val (hillP ws h d), val (.lst ((ws.filter slW).map fun w => PV.str w.nm)), Ent.own ((L ++ [a]).map lkP), e4, val (.int sp), val (.int (L.length : Int)), val (.int k), val (lkP a)]) ?_ ?_
  · show (if (L.map lkP).length < 100000 then M.ret _ else M.fail) = _
    rw [if_pos (by rw [List.length_map]; omega), List.map_append]
    rfl
  have hL' : ∀ b ∈ L ++ [a], LkOk ws d b := fun b hb => by
    rcases List.mem_append.mp hb with hb | hb
    · exact hL b hb
    · rw [List.mem_singleton.mp hb]; exact ha
  by_cases c : k = 5
  · rw [if_t]
    · simp only [setiP, consA, bin2, gV0, gVs, gB0o, gBs, rZ, F_law_take, lenL, M.bZ]
      refine Gen.le (drawB (c := 0) (by rw [List.length_map, List.length_append, List.length_singleton]; omega) (by rw [List.length_map, List.length_append, List.length_singleton]; omega) fun x x0 x1 => ?_) (by decide)
      obtain ⟨z, hz, e⟩ := ix_lst (l := (L ++ [a]).map lkP) x0 x1
      obtain ⟨b, hb, rfl⟩ := List.mem_map.mp hz
      rw [e, rZ]
      have ix : ixN ((L ++ [a]).map lkP).length (L.length : Int) = some L.length := by
        unfold ixN
        rw [if_pos (by omega), if_pos (by rw [List.length_map, List.length_append, List.length_singleton]; omega)]
        simp
      show Gen ((M.ofO (ixN ((L ++ [a]).map lkP).length (L.length : Int))).bind _) 0 _
      rw [ix]
      refine Gen.ret ⟨_, rfl, (L ++ [a]).set L.length b, val (.int k), val (lkP a), by simp, fun y hy => ?_, ?_⟩
      · rcases List.mem_or_eq_of_mem_set hy with hy | rfl
        · exact hL' y hy
        · exact hL' _ hb
      · rw [List.map_set]
        rfl
    · subst c
      rfl
  · rw [if_f]
    · exact Gen.le (Gen.ret ⟨_, rfl, L ++ [a], _, _, by simp, hL', rfl⟩) (by decide)
    · simp only [asB, bin2, gV0, gVs, rZ, eqI, Bool.false_xor]
      rw [show (k == 5) = false from by simpa using c]
theorem gen_looks {ws : List Pw} {h : Str} {d : Int} (ok : HillOk ws h d) : Gen (F_law_looks [.bag, hillP ws h d]) 120 fun y => ∃ L : List Lk, y = .tup (L.map lkP) ∧ L.length < 100 ∧ ∀ a ∈ L, LkOk ws d a := by
  have d0 := ok.d0
  have d1 := ok.d1
  have l1 := ok.l1
  have h2 : ixO (hillP ws h d) (.int 2) = .ret (.int d) := rfl
  unfold F_law_looks m_law_looks
  show Gen ((seqP _ _ [val .bag, val (hillP ws h d), un, un, un, un, un, un, un]).bind finP) 120 _
  refine gnF (ρ' := [val .bag, val (hillP ws h d), val (.lst ((ws.filter slW).map fun w => PV.str w.nm)), un, un, un, un, un, un]) ?_ (gnF (ρ' := [val .bag, val (hillP ws h d), val (.lst ((ws.filter slW).map fun w => PV.str w.nm)), Ent.own [], un, un, un, un, un]) rfl ?_)
  · unfold setP
    rw [lst_r (slopes_is ok _)]
    rfl
  refine Gen.le (gseqF (c := 110) (d := 0) (I := fun ρ => ∃ (L : List Lk) (e4 e5 e6 e7 e8 : Ent), L.length < 100 ∧ (∀ a ∈ L, LkOk ws d a) ∧ ρ = [val .bag, val (hillP ws h d), val (.lst ((ws.filter slW).map fun w => PV.str w.nm)), Ent.own (L.map lkP), e4, e5, e6, e7, e8]) ?_ ?_) (by decide)
  · by_cases c : ws.filter slW = []
    · rw [if_f]
      · exact Gen.le (Gen.ret ⟨_, rfl, [], un, un, un, un, un, by decide, by simp, rfl⟩) (by decide)
      · rw [c]
        rfl
    · rw [if_t]
      · have pick : ∀ (u v : Int) (x : Int), 0 ≤ x → x < 2 → ∃ z, (z = u ∨ z = v) ∧ ixO (.lst [.int u, .int v]) (.int x) = .ret (.int z) := fun u v x x0 x1 => by
          obtain ⟨z, hz, e⟩ := ix_lst (l := [PV.int u, PV.int v]) x0 x1
          simp only [List.mem_cons, List.not_mem_nil, or_false] at hz
          rcases hz with rfl | rfl
          · exact ⟨u, .inl rfl, e⟩
          · exact ⟨v, .inr rfl, e⟩
        refine Gen.le (gseq (c := 3) (d := 105) (I := fun ρ => ∃ n : Int, 0 ≤ n ∧ n ≤ 24 ∧ ρ = [val .bag, val (hillP ws h d), val (.lst ((ws.filter slW).map fun w => PV.str w.nm)), Ent.own [], val (.int n), un, un, un, un]) ?_ ?_) (by decide)
        · simp only [setP, lstV, consA, bin2, gV0, gVs, rZ, F_law_take, M.bZ]
          refine Gen.le (drawB (c := 2) (by omega) (by omega) fun x x0 x1 => ?_) (by decide)
          refine Gen.le (drawB (c := 1) (by omega) (by omega) fun y y0 y1 => ?_) (by decide)
          simp only [addI, rZ, mkL2]
          refine Gen.le (drawB (c := 0) (by omega) (by omega) fun z z0 z1 => ?_) (by decide)
          obtain ⟨n, hn, e⟩ := pick x (8 + y) (z / 7) (by omega) (by omega)
          simp only [fdivI (i := z) (j := 7) (by omega) (by omega), rZ, e]
          exact Gen.ret ⟨_, rfl, n, by omega, by omega, rfl⟩
        rintro _ ⟨n, n0, n1, rfl⟩
        refine Gen.le (gseq (c := 2) (d := 100) (I := fun ρ => ∃ sp : Int, 1 ≤ sp ∧ sp ≤ d + 1 ∧ ρ = [val .bag, val (hillP ws h d), val (.lst ((ws.filter slW).map fun w => PV.str w.nm)), Ent.own [], val (.int n), val (.int sp), un, un, un]) ?_ ?_) (by decide)
        · simp only [setP, lstV, consA, bin2, gV0, gVs, rZ, F_law_take, M.bZ, h2, addI]
          refine Gen.le (drawB (c := 1) (by omega) (by omega) fun y y0 y1 => ?_) (by decide)
          simp only [addI, rZ, mkL2]
          refine Gen.le (drawB (c := 0) (by omega) (by omega) fun z z0 z1 => ?_) (by decide)
          obtain ⟨sp, hs, e⟩ := pick (d + 1) (1 + y) z z0 z1
          simp only [rZ, e]
          exact Gen.ret ⟨_, rfl, sp, by omega, by omega, rfl⟩
        rintro _ ⟨sp, s0, s1, rfl⟩
        have eR : ((consA (fun ρ => getV ρ 4) (fun _ => M.ret [])) [val .bag, val (hillP ws h d), val (.lst ((ws.filter slW).map fun w => PV.str w.nm)), Ent.own [], val (.int n), val (.int sp), un, un, un]).bind rng1O = .ret ((List.range n.toNat).map fun k : Nat => PV.int k) := by
          simp only [consA, gV0, gVs, rZ]
          rw [rngI n0 (by omega), intsP_map]
        have lp := forL (k := 6) (mb := lkB) (c := 4) (f := fun k : Nat => PV.int k) (full := List.range n.toNat) (Iv := fun done ρ => ∃ (L : List Lk) (e6 e7 e8 : Ent), L.length = done.length ∧ (∀ a ∈ L, LkOk ws d a) ∧ ρ = [val .bag, val (hillP ws h d), val (.lst ((ws.filter slW).map fun w => PV.str w.nm)), Ent.own (L.map lkP), val (.int n), val (.int sp), e6, e7, e8]) (fun q done rest ρ hfull hx => by
          obtain ⟨L, e6, e7, e8, hl, hL, rfl⟩ := hx
          have hlen := congrArg List.length hfull
          simp at hlen
          have hq : q = done.length := by
            have : (List.range n.toNat)[done.length]? = some q := by rw [hfull]; simp
            rw [List.getElem?_range (by omega)] at this
            exact (Option.some.inj this).symm
          rw [hq, ← hl]
          refine Gen.mono (look_body ok c s0 s1 (by omega) hL (val (.int n)) e7 e8) (Nat.le_refl _) ?_
          rintro _ ⟨ρ', rfl, L', e7', e8', h1, h2, rfl⟩
          exact ⟨_, rfl, L', _, _, _, by simp [h1, hl], h2, rfl⟩) (List.range n.toNat) [] [val .bag, val (hillP ws h d), val (.lst ((ws.filter slW).map fun w => PV.str w.nm)), Ent.own [], val (.int n), val (.int sp), un, un, un] rfl ⟨[], _, _, _, rfl, by simp, rfl⟩
        show Gen (M.bind (((consA (fun ρ => getV ρ 4) (fun _ => M.ret [])) [val .bag, val (hillP ws h d), val (.lst ((ws.filter slW).map fun w => PV.str w.nm)), Ent.own [], val (.int n), val (.int sp), un, un, un]).bind rng1O) fun l => forP (bindN 6) lkB l [val .bag, val (hillP ws h d), val (.lst ((ws.filter slW).map fun w => PV.str w.nm)), Ent.own [], val (.int n), val (.int sp), un, un, un]) 100 _
        rw [eR, rZ]
        refine Gen.mono lp (by rw [List.length_range]; omega) ?_
        rintro _ ⟨ρ', rfl, L, e6, e7, e8, hl, hL, rfl⟩
        exact ⟨_, rfl, L, _, _, _, _, _, by rw [hl, List.length_range]; omega, hL, rfl⟩
      · obtain ⟨x, xs, ex⟩ := List.exists_cons_of_ne_nil c
        rw [ex]
        rfl
  · rintro _ ⟨L, e4, e5, e6, e7, e8, hl, hL, rfl⟩
    exact Gen.eq (fin_y (ret_y rfl)) ⟨L, rfl, hl, hL⟩
section
open Erl (Ed Tb look put rel rnd iter Good Tr edU edB)
theorem flat_ints (zs : List Int) : (zs.map PV.int).all flatP = true := by
  rw [List.all_map, List.all_eq_true]
  intro z _
  rfl
theorem in_ints (x : Int) (zs : List Int) : inO false (.int x) (.lst (zs.map PV.int)) = .ret (.bl (zs.any fun z => z == x)) := by
  have e : memF (.int x) (zs.map PV.int) = zs.any fun z => z == x := by
    unfold memF
    rw [List.any_map]
    rfl
  unfold inO
  dsimp only
  rw [flat_ints, e]
  simp [flatP, toV, flatV]
theorem ixT {β : Type} (f : β → PV) {L : List β} {i : Int} (h0 : 0 ≤ i) (h1 : i < L.length) : ixO (.tup (L.map f)) (.int i) = .ret (f (L[i.toNat]'(by omega))) ∧ ixO (.lst (L.map f)) (.int i) = .ret (f (L[i.toNat]'(by omega))) := by
  have : atI (L.map f) i = some (f (L[i.toNat]'(by omega))) := by
    unfold atI ixN
    rw [List.length_map, if_pos h0, if_pos h1]
    simp only [Option.bind_some, List.getElem?_map]
    rw [List.getElem?_eq_getElem (by omega)]
    rfl
  exact ⟨by show M.ofO _ = _; rw [this]; rfl, by show M.ofO _ = _; rw [this]; rfl⟩
theorem row_in {ws : List Pw} {L : List Lk} {a : Lk} {j : Int} (h0 : 0 ≤ j) (h1 : j < L.length) : ((rowL ws L a).any fun z => z == j) = fol ws a (L[j.toNat]'(by omega)) := by
  rw [Bool.eq_iff_iff, List.any_eq_true]
  unfold rowL
  constructor
  · rintro ⟨z, hz, e⟩
    obtain ⟨p, hp, rfl⟩ := List.mem_map.mp hz
    rw [List.mem_filter] at hp
    obtain ⟨i, hi, ei⟩ := List.mem_mapIdx.mp hp.1
    subst ei
    have e : (i : Int) = j := by simpa using e
    have : i = j.toNat := by omega
    subst this
    exact hp.2
  · intro h
    refine ⟨j, List.mem_map.mpr ⟨(j, L[j.toNat]'(by omega)), List.mem_filter.mpr ⟨List.mem_mapIdx.mpr ⟨j.toNat, by omega, ?_⟩, h⟩, rfl⟩, by simp⟩
    rw [show ((j.toNat : Nat) : Int) = j by omega]
theorem fol_self {ws : List Pw} {a : Lk} (h : 0 < lsW a.1) : fol ws a a = false := by
  unfold fol
  cases e : look (dueT ws a.1.e) a.1.s with
  | none => rfl
  | some v =>
    have := (Erl.iter_sound (E := (goW ws).map fun w => edU (trW w)) (p := a.1.e) (t := 0) ws.length _ _ e).ge goodU
    simp
    omega
noncomputable def trB : PEnv → M Fl := (seqP (parP 6 7 (consA (fun ρ => ((consA (fun ρ => getV ρ 1) (consA (fun ρ => ((consA (fun ρ => getV ρ 3) (fun _ => M.ret [])) ρ).bind lenO) (fun _ => M.ret []))) ρ).bind F_law_take) (consA (fun ρ => ((consA (fun ρ => getV ρ 1) (consA (fun ρ => ((consA (fun ρ => getV ρ 3) (fun _ => M.ret [])) ρ).bind lenO) (fun _ => M.ret []))) ρ).bind F_law_take) (fun _ => M.ret []))))
    (seqP (parP 8 9 (consA (bin2 ixO (fun ρ => getV ρ 3) (fun ρ => getV ρ 6)) (consA (bin2 ixO (fun ρ => getV ρ 3) (fun ρ => getV ρ 7)) (fun _ => M.ret []))))
    (seqP (setP 10 (fun ρ => ((consA (fun ρ => getV ρ 2) (consA (fun ρ => getV ρ 8) (consA (fun ρ => getV ρ 9) (fun _ => M.ret [])))) ρ).bind F_follows))
    (seqP (ifP (orP (notP (asB (fun ρ => ((fun ρ => getV ρ 10) ρ).bind (isiO "bool")))) (orP (asB (bin2 (eqO true) (fun ρ => getV ρ 10) (bin2 (inO false) (fun ρ => getV ρ 7) (bin2 ixO (fun ρ => getV ρ 4) (fun ρ => getV ρ 6))))) (asB (bin2 isnB (fun ρ => ((consA (fun ρ => getV ρ 2) (consA (fun ρ => getV ρ 8) (consA (fun ρ => getV ρ 8) (fun _ => M.ret [])))) ρ).bind F_follows) (fun _ => M.ret (.bl false))))))
    (retP (fun _ => M.ret (.bl false)))
    (fun ρ => M.ret (.nx ρ)))
    (seqP (setP 11 (fun ρ => ((consA (fun ρ => getV ρ 2) (consA (fun ρ => getV ρ 8) (fun _ => M.ret []))) ρ).bind F_law_slope))
    (seqP (parP 12 13 (consA (fun ρ => ((consA (fun ρ => getV ρ 2) (consA (bin2 ixO (fun ρ => getV ρ 11) (fun _ => M.ret (.int 3))) (fun _ => M.ret []))) ρ).bind F_law_moves) (consA (bin2 ixO (fun ρ => ((consA (fun ρ => getV ρ 2) (consA (fun ρ => getV ρ 9) (fun _ => M.ret []))) ρ).bind F_law_slope) (fun _ => M.ret (.int 2))) (fun _ => M.ret []))))
    (ifP (asB (bin2 (dinO false) (fun ρ => getV ρ 13) (fun ρ => getV ρ 12)))
    (seqP (setP 14 (bin2 addO (bin2 addO (bin2 ixO (fun ρ => getV ρ 8) (fun _ => M.ret (.int 1))) (fun ρ => ((consA (fun ρ => getV ρ 11) (fun _ => M.ret [])) ρ).bind F_law_least)) (bin2 dgetO (fun ρ => getV ρ 12) (fun ρ => getV ρ 13))))
    (seqP (ifP (andP (asB (bin2 leOD (fun ρ => getV ρ 14) (bin2 ixO (fun ρ => getV ρ 2) (fun _ => M.ret (.int 2))))) (asB (bin2 isnB (fun ρ => ((consA (fun ρ => getV ρ 2) (consA (fun ρ => getV ρ 8) (consA (fun ρ => ((consA (bin2 ixO (fun ρ => getV ρ 9) (fun _ => M.ret (.int 0))) (consA (fun ρ => getV ρ 14) (fun _ => M.ret []))) ρ).bind mkTup) (fun _ => M.ret [])))) ρ).bind F_follows) (fun _ => M.ret (.bl true)))))
    (retP (fun _ => M.ret (.bl false)))
    (fun ρ => M.ret (.nx ρ)))
    (ifP (andP (asB (bin2 leOD (fun ρ => getV ρ 14) (bin2 addO (bin2 ixO (fun ρ => getV ρ 2) (fun _ => M.ret (.int 2))) (fun _ => M.ret (.int 1))))) (asB (bin2 isnB (fun ρ => ((consA (fun ρ => getV ρ 2) (consA (fun ρ => getV ρ 8) (consA (fun ρ => ((consA (bin2 ixO (fun ρ => getV ρ 9) (fun _ => M.ret (.int 0))) (consA (bin2 subO (fun ρ => getV ρ 14) (fun _ => M.ret (.int 1))) (fun _ => M.ret []))) ρ).bind mkTup) (fun _ => M.ret [])))) ρ).bind F_follows) (fun _ => M.ret (.bl false)))))
    (retP (fun _ => M.ret (.bl false)))
    (fun ρ => M.ret (.nx ρ)))))
    (fun ρ => M.ret (.nx ρ)))))))))
theorem turn_is {ws : List Pw} {h : Str} {d : Int} (ok : HillOk ws h d) {L : List Lk} (hl : L.length < 100) (hL : ∀ a ∈ L, LkOk ws d a) (ne : L ≠ []) (e0 e5 e6 e7 e8 e9 e10 e11 e12 e13 e14 : Ent) :
    Gen (trB [e0, val .bag, val (hillP ws h d), val (.tup (L.map lkP)), val (.lst (L.map fun a => PV.lst ((rowL ws L a).map PV.int))), e5, e6, e7, e8, e9, e10, e11, e12, e13, e14]) 2 fun fl => ∃ ρ', fl = .nx ρ' ∧ ∃ e5 e6 e7 e8 e9 e10 e11 e12 e13 e14 : Ent, ρ' = [e0, val .bag, val (hillP ws h d), val (.tup (L.map lkP)), val (.lst (L.map fun a => PV.lst ((rowL ws L a).map PV.int))), e5, e6, e7, e8, e9, e10, e11, e12, e13, e14] := by
  have f0 : 0 < L.length := List.length_pos_iff.mpr ne
  unfold trB
  refine Gen.le (gseq (c := 2) (d := 0) (I := fun ρ => ∃ i j : Int, 0 ≤ i ∧ i < L.length ∧ 0 ≤ j ∧ j < L.length ∧ ρ = [e0, val .bag, val (hillP ws h d), val (.tup (L.map lkP)), val (.lst (L.map fun a => PV.lst ((rowL ws L a).map PV.int))), e5, val (.int i), val (.int j), e8, e9, e10, e11, e12, e13, e14]) ?_ ?_) (by decide)
  · simp only [parP, consA, gV0, gVs, rZ, F_law_take, lenT, M.bZ]
    refine Gen.le (drawB (c := 1) (by rw [List.length_map]; omega) (by rw [List.length_map]; omega) fun i i0 i1 => ?_) (by decide)
    refine Gen.le (drawB (c := 0) (by rw [List.length_map]; omega) (by rw [List.length_map]; omega) fun j j0 j1 => ?_) (by decide)
    rw [List.length_map] at i1 j1
    exact Gen.eq (y := .nx _) rfl ⟨_, rfl, i, j, i0, i1, j0, j1, rfl⟩
  rintro _ ⟨i, j, i0, i1, j0, j1, rfl⟩
  obtain ⟨a, ea⟩ : ∃ a, a = L[i.toNat]'(by omega) := ⟨_, rfl⟩
  obtain ⟨b, eb⟩ : ∃ b, b = L[j.toNat]'(by omega) := ⟨_, rfl⟩
  have ha : LkOk ws d a := by rw [ea]; exact hL _ (List.getElem_mem _)
  have hb : LkOk ws d b := by rw [eb]; exact hL _ (List.getElem_mem _)
  have ta := (ixT lkP i0 i1).1
  have tb := (ixT lkP j0 j1).1
  have tr := (ixT (fun a => PV.lst ((rowL ws L a).map PV.int)) i0 i1).2
  have inr := row_in (ws := ws) (a := a) j0 j1
  rw [← ea] at ta tr
  rw [← eb] at tb inr
  have fo := follows_is ok ha.1 hb.1
  have fs := follows_is ok ha.1 ha.1
  rw [fol_self ha.2.1] at fs
  have a1 : ixO (lkP a) (.int 1) = .ret (.int a.2) := rfl
  have b0 : ixO (lkP b) (.int 0) = .ret (.str b.1.nm) := rfl
  have w3 : ixO (pwP a.1) (.int 3) = .ret (.str a.1.e) := rfl
  have w2 : ixO (pwP b.1) (.int 2) = .ret (.str b.1.s) := rfl
  have h2 : ixO (hillP ws h d) (.int 2) = .ret (.int d) := rfl
  suffices hs : ∃ e14', seqP _ _ [e0, val .bag, val (hillP ws h d), val (.tup (L.map lkP)), val (.lst (L.map fun a => PV.lst ((rowL ws L a).map PV.int))), e5, val (.int i), val (.int j), e8, e9, e10, e11, e12, e13, e14] = .ret (.nx [e0, val .bag, val (hillP ws h d), val (.tup (L.map lkP)), val (.lst (L.map fun a => PV.lst ((rowL ws L a).map PV.int))), e5, val (.int i), val (.int j), val (lkP a), val (lkP b), val (.bl (fol ws a b)), val (pwP a.1), val (.dct ((dueT ws a.1.e).map kvP)), val (.str b.1.s), e14']) by
    obtain ⟨e14', e⟩ := hs
    exact Gen.eq e ⟨_, rfl, _, _, _, _, _, _, _, _, _, _, rfl⟩
  have s1 : parP 8 9 (consA (bin2 ixO (fun ρ => getV ρ 3) (fun ρ => getV ρ 6)) (consA (bin2 ixO (fun ρ => getV ρ 3) (fun ρ => getV ρ 7)) (fun _ => M.ret []))) [e0, val .bag, val (hillP ws h d), val (.tup (L.map lkP)), val (.lst (L.map fun a => PV.lst ((rowL ws L a).map PV.int))), e5, val (.int i), val (.int j), e8, e9, e10, e11, e12, e13, e14] = .ret (.nx [e0, val .bag, val (hillP ws h d), val (.tup (L.map lkP)), val (.lst (L.map fun a => PV.lst ((rowL ws L a).map PV.int))), e5, val (.int i), val (.int j), val (lkP a), val (lkP b), e10, e11, e12, e13, e14]) := by
    simp only [parP, consA, bin2, gV0, gVs, rZ, ta, tb]
    rfl
  cases el : look (dueT ws a.1.e) b.1.s with
  | none =>
    refine ⟨e14, sq_nx s1 (sq_nx (ρ' := [e0, val .bag, val (hillP ws h d), val (.tup (L.map lkP)), val (.lst (L.map fun a => PV.lst ((rowL ws L a).map PV.int))), e5, val (.int i), val (.int j), val (lkP a), val (lkP b), val (.bl (fol ws a b)), e11, e12, e13, e14]) ?_ (sq_nx (if_f ?_) (sq_nx (ρ' := [e0, val .bag, val (hillP ws h d), val (.tup (L.map lkP)), val (.lst (L.map fun a => PV.lst ((rowL ws L a).map PV.int))), e5, val (.int i), val (.int j), val (lkP a), val (lkP b), val (.bl (fol ws a b)), val (pwP a.1), e12, e13, e14]) ?_ (sq_nx (ρ' := [e0, val .bag, val (hillP ws h d), val (.tup (L.map lkP)), val (.lst (L.map fun a => PV.lst ((rowL ws L a).map PV.int))), e5, val (.int i), val (.int j), val (lkP a), val (lkP b), val (.bl (fol ws a b)), val (pwP a.1), val (.dct ((dueT ws a.1.e).map kvP)), val (.str b.1.s), e14]) ?_ (if_f ?_)))))⟩
    · simp only [setP, consA, gV0, gVs, rZ, fo]
      rfl
    · refine (or_f rfl).trans ((or_f ?_).trans ?_)
      · simp only [asB, bin2, gV0, gVs, rZ, tr, in_ints, inr, eqB]
        simp
      · simp only [asB, bin2, consA, gV0, gVs, rZ, fs]
        rfl
    · simp only [setP, consA, gV0, gVs, rZ, slope_is ok ha.1]
      rfl
    · simp only [parP, consA, bin2, gV0, gVs, rZ, w3, due_is ok, slope_is ok hb.1, w2]
      rfl
    · simp only [asB, bin2, gV0, gVs, rZ, din_tb, el]
      rfl
  | some v =>
    have fe : ∀ n : Int, F_follows [hillP ws h d, lkP a, .tup [.str b.1.nm, .int n]] = .ret (.bl (decide (a.2 + lsW a.1 + v ≤ n))) := fun n => by
      have := follows_is ok (b := (b.1, n)) ha.1 hb.1
      unfold fol at this
      dsimp only at this
      rw [el] at this
      exact this
    refine ⟨val (.int (a.2 + lsW a.1 + v)), sq_nx s1 (sq_nx (ρ' := [e0, val .bag, val (hillP ws h d), val (.tup (L.map lkP)), val (.lst (L.map fun a => PV.lst ((rowL ws L a).map PV.int))), e5, val (.int i), val (.int j), val (lkP a), val (lkP b), val (.bl (fol ws a b)), e11, e12, e13, e14]) ?_ (sq_nx (if_f ?_) (sq_nx (ρ' := [e0, val .bag, val (hillP ws h d), val (.tup (L.map lkP)), val (.lst (L.map fun a => PV.lst ((rowL ws L a).map PV.int))), e5, val (.int i), val (.int j), val (lkP a), val (lkP b), val (.bl (fol ws a b)), val (pwP a.1), e12, e13, e14]) ?_ (sq_nx (ρ' := [e0, val .bag, val (hillP ws h d), val (.tup (L.map lkP)), val (.lst (L.map fun a => PV.lst ((rowL ws L a).map PV.int))), e5, val (.int i), val (.int j), val (lkP a), val (lkP b), val (.bl (fol ws a b)), val (pwP a.1), val (.dct ((dueT ws a.1.e).map kvP)), val (.str b.1.s), e14]) ?_ ((if_t ?_).trans (sq_nx (ρ' := [e0, val .bag, val (hillP ws h d), val (.tup (L.map lkP)), val (.lst (L.map fun a => PV.lst ((rowL ws L a).map PV.int))), e5, val (.int i), val (.int j), val (lkP a), val (lkP b), val (.bl (fol ws a b)), val (pwP a.1), val (.dct ((dueT ws a.1.e).map kvP)), val (.str b.1.s), val (.int (a.2 + lsW a.1 + v))]) ?_ (sq_nx (if_f ?_) (if_f ?_))))))))⟩
    · simp only [setP, consA, gV0, gVs, rZ, fo]
      rfl
    · refine (or_f rfl).trans ((or_f ?_).trans ?_)
      · simp only [asB, bin2, gV0, gVs, rZ, tr, in_ints, inr, eqB]
        simp
      · simp only [asB, bin2, consA, gV0, gVs, rZ, fs]
        rfl
    · simp only [setP, consA, gV0, gVs, rZ, slope_is ok ha.1]
      rfl
    · simp only [parP, consA, bin2, gV0, gVs, rZ, w3, due_is ok, slope_is ok hb.1, w2]
      rfl
    · simp only [asB, bin2, gV0, gVs, rZ, din_tb, el]
      rfl
    · simp only [setP, consA, bin2, gV0, gVs, rZ, a1, least_is, addI, dget_tb el]
      rfl
    · have t2 : asB (bin2 isnB (fun ρ => ((consA (fun ρ => getV ρ 2) (consA (fun ρ => getV ρ 8) (consA (fun ρ => ((consA (bin2 ixO (fun ρ => getV ρ 9) (fun _ => M.ret (.int 0))) (consA (fun ρ => getV ρ 14) (fun _ => M.ret []))) ρ).bind mkTup) (fun _ => M.ret [])))) ρ).bind F_follows) (fun _ => M.ret (.bl true))) [e0, val .bag, val (hillP ws h d), val (.tup (L.map lkP)), val (.lst (L.map fun a => PV.lst ((rowL ws L a).map PV.int))), e5, val (.int i), val (.int j), val (lkP a), val (lkP b), val (.bl (fol ws a b)), val (pwP a.1), val (.dct ((dueT ws a.1.e).map kvP)), val (.str b.1.s), val (.int (a.2 + lsW a.1 + v))] = .ret false := by
        simp only [asB, bin2, consA, gV0, gVs, rZ, b0, mkT2, fe]
        rw [decide_eq_true (Int.le_refl _)]
        rfl
      have t1 : asB (bin2 leOD (fun ρ => getV ρ 14) (bin2 ixO (fun ρ => getV ρ 2) (fun _ => M.ret (.int 2)))) [e0, val .bag, val (hillP ws h d), val (.tup (L.map lkP)), val (.lst (L.map fun a => PV.lst ((rowL ws L a).map PV.int))), e5, val (.int i), val (.int j), val (lkP a), val (lkP b), val (.bl (fol ws a b)), val (pwP a.1), val (.dct ((dueT ws a.1.e).map kvP)), val (.str b.1.s), val (.int (a.2 + lsW a.1 + v))] = .ret (decide (a.2 + lsW a.1 + v ≤ d)) := by
        simp only [asB, bin2, gV0, gVs, rZ, h2, leI]
      cases c : decide (a.2 + lsW a.1 + v ≤ d) with
      | false => rw [c] at t1; exact and_f t1
      | true => rw [c] at t1; exact (and_t t1).trans t2
    · have t2 : asB (bin2 isnB (fun ρ => ((consA (fun ρ => getV ρ 2) (consA (fun ρ => getV ρ 8) (consA (fun ρ => ((consA (bin2 ixO (fun ρ => getV ρ 9) (fun _ => M.ret (.int 0))) (consA (bin2 subO (fun ρ => getV ρ 14) (fun _ => M.ret (.int 1))) (fun _ => M.ret []))) ρ).bind mkTup) (fun _ => M.ret [])))) ρ).bind F_follows) (fun _ => M.ret (.bl false))) [e0, val .bag, val (hillP ws h d), val (.tup (L.map lkP)), val (.lst (L.map fun a => PV.lst ((rowL ws L a).map PV.int))), e5, val (.int i), val (.int j), val (lkP a), val (lkP b), val (.bl (fol ws a b)), val (pwP a.1), val (.dct ((dueT ws a.1.e).map kvP)), val (.str b.1.s), val (.int (a.2 + lsW a.1 + v))] = .ret false := by
        simp only [asB, bin2, consA, gV0, gVs, rZ, b0, subI, mkT2, fe]
        rw [decide_eq_false (by omega)]
        rfl
      have t1 : asB (bin2 leOD (fun ρ => getV ρ 14) (bin2 addO (bin2 ixO (fun ρ => getV ρ 2) (fun _ => M.ret (.int 2))) (fun _ => M.ret (.int 1)))) [e0, val .bag, val (hillP ws h d), val (.tup (L.map lkP)), val (.lst (L.map fun a => PV.lst ((rowL ws L a).map PV.int))), e5, val (.int i), val (.int j), val (lkP a), val (lkP b), val (.bl (fol ws a b)), val (pwP a.1), val (.dct ((dueT ws a.1.e).map kvP)), val (.str b.1.s), val (.int (a.2 + lsW a.1 + v))] = .ret (decide (a.2 + lsW a.1 + v ≤ d + 1)) := by
        simp only [asB, bin2, gV0, gVs, rZ, h2, addI, leI]
      cases c : decide (a.2 + lsW a.1 + v ≤ d + 1) with
      | false => rw [c] at t1; exact and_f t1
      | true => rw [c] at t1; exact (and_t t1).trans t2
theorem law_gen : Gen (m_law [un, val .bag, un, un, un, un, un, un, un, un, un, un, un, un, un]) 600 fun f => f = .rt (.bl true) := by
  unfold m_law
  refine Gen.le (gseq (c := 340) (d := 200) (I := fun ρ => ∃ ws h d, HillOk ws h d ∧ ρ = [un, val .bag, val (hillP ws h d), un, un, un, un, un, un, un, un, un, un, un, un]) ?_ ?_) (by decide)
  · simp only [setP, consA, gV0, gVs, rZ]
    refine Gen.le (Gen.bind gen_hill (d := 0) ?_) (by decide)
    rintro _ ⟨ws, h, d, rfl, ok⟩
    exact Gen.ret ⟨_, rfl, ws, h, d, ok, rfl⟩
  rintro _ ⟨ws, h, d, ok, rfl⟩
  refine Gen.le (gseq (c := 120) (d := 50) (I := fun ρ => ∃ L : List Lk, L.length < 100 ∧ (∀ a ∈ L, LkOk ws d a) ∧ ρ = [un, val .bag, val (hillP ws h d), val (.tup (L.map lkP)), un, un, un, un, un, un, un, un, un, un, un]) ?_ ?_) (by decide)
  · simp only [setP, consA, gV0, gVs, rZ]
    refine Gen.le (Gen.bind (gen_looks ok) (d := 0) ?_) (by decide)
    rintro _ ⟨L, rfl, hl, hL⟩
    exact Gen.ret ⟨_, rfl, L, hl, hL, rfl⟩
  rintro _ ⟨L, hl, hL, rfl⟩
  refine gn (ρ' := [un, val .bag, val (hillP ws h d), val (.tup (L.map lkP)), val (.lst (L.map fun a => PV.lst ((rowL ws L a).map PV.int))), un, un, un, un, un, un, un, un, un, un]) ?_ ?_
  · simp only [setP, consA, gV0, gVs, rZ, behind_is ok L hl fun a ha => (hL a ha).1]
    rfl
  refine Gen.le (gseq (c := 6 * 2) (d := 0) (I := fun _ => True) ?_ fun ρ _ => Gen.eq (y := .rt (.bl true)) rfl rfl) (by decide)
  by_cases ne : L = []
  · subst ne
    exact Gen.le (Gen.eq (y := .nx _) rfl ⟨_, rfl, trivial⟩) (by decide)
  · have er : ((consA (bin2 mulE (fun _ => M.ret (.int 6)) (fun ρ => ((consA (bin2 (eqO true) (fun ρ => getV ρ 3) (fun ρ => ((fun _ => M.ret []) ρ).bind mkTup)) (fun _ => M.ret [])) ρ).bind intO)) (fun _ => M.ret [])) [un, val .bag, val (hillP ws h d), val (.tup (L.map lkP)), val (.lst (L.map fun a => PV.lst ((rowL ws L a).map PV.int))), un, un, un, un, un, un, un, un, un, un]).bind rng1O = .ret (intsP 0 6) := by
      obtain ⟨x, xs, rfl⟩ := List.exists_cons_of_ne_nil ne
      rfl
    show Gen (M.bind (((consA (bin2 mulE (fun _ => M.ret (.int 6)) (fun ρ => ((consA (bin2 (eqO true) (fun ρ => getV ρ 3) (fun ρ => ((fun _ => M.ret []) ρ).bind mkTup)) (fun _ => M.ret [])) ρ).bind intO)) (fun _ => M.ret [])) [un, val .bag, val (hillP ws h d), val (.tup (L.map lkP)), val (.lst (L.map fun a => PV.lst ((rowL ws L a).map PV.int))), un, un, un, un, un, un, un, un, un, un]).bind rng1O) fun l => forP (bindN 5) trB l [un, val .bag, val (hillP ws h d), val (.tup (L.map lkP)), val (.lst (L.map fun a => PV.lst ((rowL ws L a).map PV.int))), un, un, un, un, un, un, un, un, un, un]) _ _
    rw [er, rZ]
    refine Gen.mono (Gen.for_ (k := 5) (c := 2) (Iv := fun ρ => ∃ e5 e6 e7 e8 e9 e10 e11 e12 e13 e14 : Ent, ρ = [un, val .bag, val (hillP ws h d), val (.tup (L.map lkP)), val (.lst (L.map fun a => PV.lst ((rowL ws L a).map PV.int))), e5, e6, e7, e8, e9, e10, e11, e12, e13, e14]) (intsP 0 6) _ ⟨_, _, _, _, _, _, _, _, _, _, rfl⟩ ?_) (by decide) ?_
    · rintro y hy _ ⟨e5, e6, e7, e8, e9, e10, e11, e12, e13, e14, rfl⟩
      exact turn_is ok hl hL ne un (val y) e6 e7 e8 e9 e10 e11 e12 e13 e14
    · rintro _ ⟨ρ', rfl, _⟩
      exact ⟨_, rfl, trivial⟩
theorem law_true : (m_law ((List.replicate 15 un).set 1 (.val .bag))).wp 1000000 fun f _ => f = .rt (.bl true) := M.wp_mono (law_gen.h 1000000 (by decide)) fun f n h => h.2
end
theorem all_mk {l : PySem.W.OpenLaw} {w : World} {K : PySem.W.Frag} {h : Heap} {mg : Str → Option Value} {q : Program} {fa a_way_named a_first_entry a_reached a_patrol_pace a_moves a_follows awpot awtake awnames awpace awhill awleast awmoves awslope awbehind awlooks a_law  : Addr} (X : K.In h) (G : h.Ns mainGlobals mg) (hfa : mg "law" = some (.ref fa))
    {od0 an0 od1 an1 od2 an2 od3 an3 od4 an4 od5 an5 od6 an6 od7 an7 od8 an8 od9 an9 od10 an10 od11 an11 od12 an12 od13 an13 od14 an14 od15 an15 od16 an16 : Option Addr} {sl0 sl1 sl2 sl3 sl4 sl5 sl6 sl7 sl8 sl9 sl10 sl11 sl12 sl13 sl14 sl15 sl16 : Array (Option Value)} {oc0 kV0 dc0 pm0 cd0 ct0 oc1 kV1 dc1 pm1 cd1 ct1 oc2 kV2 dc2 pm2 cd2 ct2 oc3 kV3 dc3 pm3 cd3 ct3 oc4 kV4 dc4 pm4 cd4 ct4 oc5 kV5 dc5 pm5 cd5 ct5 oc6 kV6 dc6 pm6 cd6 ct6 oc7 kV7 dc7 pm7 cd7 ct7 oc8 kV8 dc8 pm8 cd8 ct8 oc9 kV9 dc9 pm9 cd9 ct9 oc10 kV10 dc10 pm10 cd10 ct10 oc11 kV11 dc11 pm11 cd11 ct11 oc12 kV12 dc12 pm12 cd12 ct12 oc13 kV13 dc13 pm13 cd13 ct13 oc14 kV14 dc14 pm14 cd14 ct14 oc15 kV15 dc15 pm15 cd15 ct15 oc16 kV16 dc16 pm16 cd16 ct16 : Value}
    (x0 : PySem.W.nsIn K mainGlobals "way_named" = some (some (.ref a_way_named))) (l0 : K.lookup a_way_named = some ⟨oc0, od0, .func (PySem.W.fnOf "way_named" "way_named" (defArgs s_way_named) (defBody s_way_named) (defScope s_way_named) .none kV0 dc0 pm0 an0 cd0 ct0), sl0⟩) (c0 : PySem.W.codeIn K cd0 "way_named" = true) (k0 : PySem.W.keepIn K (.ref a_way_named) = true)
    (x1 : PySem.W.nsIn K mainGlobals "first_entry" = some (some (.ref a_first_entry))) (l1 : K.lookup a_first_entry = some ⟨oc1, od1, .func (PySem.W.fnOf "first_entry" "first_entry" (defArgs s_first_entry) (defBody s_first_entry) (defScope s_first_entry) .none kV1 dc1 pm1 an1 cd1 ct1), sl1⟩) (c1 : PySem.W.codeIn K cd1 "first_entry" = true) (k1 : PySem.W.keepIn K (.ref a_first_entry) = true)
    (x2 : PySem.W.nsIn K mainGlobals "reached" = some (some (.ref a_reached))) (l2 : K.lookup a_reached = some ⟨oc2, od2, .func (PySem.W.fnOf "reached" "reached" (defArgs s_reached) (defBody s_reached) (defScope s_reached) .none kV2 dc2 pm2 an2 cd2 ct2), sl2⟩) (c2 : PySem.W.codeIn K cd2 "reached" = true) (k2 : PySem.W.keepIn K (.ref a_reached) = true)
    (x3 : PySem.W.nsIn K mainGlobals "patrol_pace" = some (some (.ref a_patrol_pace))) (l3 : K.lookup a_patrol_pace = some ⟨oc3, od3, .func (PySem.W.fnOf "patrol_pace" "patrol_pace" (defArgs s_patrol_pace) (defBody s_patrol_pace) (defScope s_patrol_pace) .none kV3 dc3 pm3 an3 cd3 ct3), sl3⟩) (c3 : PySem.W.codeIn K cd3 "patrol_pace" = true) (k3 : PySem.W.keepIn K (.ref a_patrol_pace) = true)
    (x4 : PySem.W.nsIn K mainGlobals "moves" = some (some (.ref a_moves))) (l4 : K.lookup a_moves = some ⟨oc4, od4, .func (PySem.W.fnOf "moves" "moves" (defArgs s_moves) (defBody s_moves) (defScope s_moves) .none kV4 dc4 pm4 an4 cd4 ct4), sl4⟩) (c4 : PySem.W.codeIn K cd4 "moves" = true) (k4 : PySem.W.keepIn K (.ref a_moves) = true)
    (x5 : PySem.W.nsIn K mainGlobals "follows" = some (some (.ref a_follows))) (l5 : K.lookup a_follows = some ⟨oc5, od5, .func (PySem.W.fnOf "follows" "follows" (defArgs s_follows) (defBody s_follows) (defScope s_follows) .none kV5 dc5 pm5 an5 cd5 ct5), sl5⟩) (c5 : PySem.W.codeIn K cd5 "follows" = true) (k5 : PySem.W.keepIn K (.ref a_follows) = true)
    (x6 : PySem.W.nsIn K mainGlobals "_law_pot" = some (some (.ref awpot))) (l6 : K.lookup awpot = some ⟨oc6, od6, .func (PySem.W.fnOf "_law_pot" "_law_pot" (defArgs s_law_pot) (defBody s_law_pot) (defScope s_law_pot) .none kV6 dc6 pm6 an6 cd6 ct6), sl6⟩) (c6 : PySem.W.codeIn K cd6 "_law_pot" = true) (k6 : PySem.W.keepIn K (.ref awpot) = true)
    (x7 : PySem.W.nsIn K mainGlobals "_law_take" = some (some (.ref awtake))) (l7 : K.lookup awtake = some ⟨oc7, od7, .func (PySem.W.fnOf "_law_take" "_law_take" (defArgs s_law_take) (defBody s_law_take) (defScope s_law_take) .none kV7 dc7 pm7 an7 cd7 ct7), sl7⟩) (c7 : PySem.W.codeIn K cd7 "_law_take" = true) (k7 : PySem.W.keepIn K (.ref awtake) = true)
    (x8 : PySem.W.nsIn K mainGlobals "_law_names" = some (some (.ref awnames))) (l8 : K.lookup awnames = some ⟨oc8, od8, .func (PySem.W.fnOf "_law_names" "_law_names" (defArgs s_law_names) (defBody s_law_names) (defScope s_law_names) .none kV8 dc8 pm8 an8 cd8 ct8), sl8⟩) (c8 : PySem.W.codeIn K cd8 "_law_names" = true) (k8 : PySem.W.keepIn K (.ref awnames) = true)
    (x9 : PySem.W.nsIn K mainGlobals "_law_pace" = some (some (.ref awpace))) (l9 : K.lookup awpace = some ⟨oc9, od9, .func (PySem.W.fnOf "_law_pace" "_law_pace" (defArgs s_law_pace) (defBody s_law_pace) (defScope s_law_pace) .none kV9 dc9 pm9 an9 cd9 ct9), sl9⟩) (c9 : PySem.W.codeIn K cd9 "_law_pace" = true) (k9 : PySem.W.keepIn K (.ref awpace) = true)
    (x10 : PySem.W.nsIn K mainGlobals "_law_hill" = some (some (.ref awhill))) (l10 : K.lookup awhill = some ⟨oc10, od10, .func (PySem.W.fnOf "_law_hill" "_law_hill" (defArgs s_law_hill) (defBody s_law_hill) (defScope s_law_hill) .none kV10 dc10 pm10 an10 cd10 ct10), sl10⟩) (c10 : PySem.W.codeIn K cd10 "_law_hill" = true) (k10 : PySem.W.keepIn K (.ref awhill) = true)
    (x11 : PySem.W.nsIn K mainGlobals "_law_least" = some (some (.ref awleast))) (l11 : K.lookup awleast = some ⟨oc11, od11, .func (PySem.W.fnOf "_law_least" "_law_least" (defArgs s_law_least) (defBody s_law_least) (defScope s_law_least) .none kV11 dc11 pm11 an11 cd11 ct11), sl11⟩) (c11 : PySem.W.codeIn K cd11 "_law_least" = true) (k11 : PySem.W.keepIn K (.ref awleast) = true)
    (x12 : PySem.W.nsIn K mainGlobals "_law_moves" = some (some (.ref awmoves))) (l12 : K.lookup awmoves = some ⟨oc12, od12, .func (PySem.W.fnOf "_law_moves" "_law_moves" (defArgs s_law_moves) (defBody s_law_moves) (defScope s_law_moves) .none kV12 dc12 pm12 an12 cd12 ct12), sl12⟩) (c12 : PySem.W.codeIn K cd12 "_law_moves" = true) (k12 : PySem.W.keepIn K (.ref awmoves) = true)
    (x13 : PySem.W.nsIn K mainGlobals "_law_slope" = some (some (.ref awslope))) (l13 : K.lookup awslope = some ⟨oc13, od13, .func (PySem.W.fnOf "_law_slope" "_law_slope" (defArgs s_law_slope) (defBody s_law_slope) (defScope s_law_slope) .none kV13 dc13 pm13 an13 cd13 ct13), sl13⟩) (c13 : PySem.W.codeIn K cd13 "_law_slope" = true) (k13 : PySem.W.keepIn K (.ref awslope) = true)
    (x14 : PySem.W.nsIn K mainGlobals "_law_behind" = some (some (.ref awbehind))) (l14 : K.lookup awbehind = some ⟨oc14, od14, .func (PySem.W.fnOf "_law_behind" "_law_behind" (defArgs s_law_behind) (defBody s_law_behind) (defScope s_law_behind) .none kV14 dc14 pm14 an14 cd14 ct14), sl14⟩) (c14 : PySem.W.codeIn K cd14 "_law_behind" = true) (k14 : PySem.W.keepIn K (.ref awbehind) = true)
    (x15 : PySem.W.nsIn K mainGlobals "_law_looks" = some (some (.ref awlooks))) (l15 : K.lookup awlooks = some ⟨oc15, od15, .func (PySem.W.fnOf "_law_looks" "_law_looks" (defArgs s_law_looks) (defBody s_law_looks) (defScope s_law_looks) .none kV15 dc15 pm15 an15 cd15 ct15), sl15⟩) (c15 : PySem.W.codeIn K cd15 "_law_looks" = true) (k15 : PySem.W.keepIn K (.ref awlooks) = true)
    (x16 : PySem.W.nsIn K mainGlobals "law" = some (some (.ref a_law))) (l16 : K.lookup a_law = some ⟨oc16, od16, .func (PySem.W.fnOf "law" "law" (defArgs s_law) (defBody s_law) (defScope s_law) .none kV16 dc16 pm16 an16 cd16 ct16), sl16⟩) (c16 : PySem.W.codeIn K cd16 "law" = true) (k16 : PySem.W.keepIn K (.ref a_law) = true)
    (z0 : PySem.W.nsIn K mainGlobals "len" = some none)
    (z1 : PySem.W.nsIn K mainGlobals "abs" = some none)
    (z2 : PySem.W.nsIn K mainGlobals "isinstance" = some none)
    (z3 : PySem.W.nsIn K mainGlobals "range" = some none)
    (z4 : PySem.W.nsIn K mainGlobals "bool" = some none)
    (z5 : PySem.W.nsIn K mainGlobals "int" = some none)
    (z6 : PySem.W.nsIn K mainGlobals "tuple" = some none)
    (z7 : PySem.W.nsIn K mainGlobals "max" = some none)
    (z8 : PySem.W.nsIn K mainGlobals "min" = some none)
    (z9 : PySem.W.nsIn K mainGlobals "enumerate" = some none)
    (z10 : PySem.W.nsIn K mainGlobals "sum" = some none) :
    ∃ (fd : FuncData) (ts : List (Str × Addr × Addr)), (∀ e ∈ ts, PySem.W.tabIn K e.1 = some e.2 ∧ K.lookup e.2.2 = none ∧ ((recsOf q).find? fun r => r.name == e.1).isSome = true) ∧ (∀ (s : Shared) (v : Value), BindsTo s fd ⟨[v], []⟩ [("_law_script", v)]) ∧ ∀ base : Heap, K.In base → base.Ns mainGlobals mg → BIn base mg → FnOk l.prog w K mg base CX0 5 fa fd ["_law_script"] (spLawT K (ts.map (·.2.2))) := by
  have e := hfa.symm.trans (PySem.W.mg_of X G x16)
  cases e
  have F0 := fun_mk (st := s_way_named) l0 c0 k0
  have b0 := F0.binds (ps := ["hill", "name"]) fun _ _ _ _ _ _ us hl => match us, hl with | [_, _], _ => rfl
  have F1 := fun_mk (st := s_first_entry) l1 c1 k1
  have b1 := F1.binds (ps := ["pairs", "t"]) fun _ _ _ _ _ _ us hl => match us, hl with | [_, _], _ => rfl
  have F2 := fun_mk (st := s_reached) l2 c2 k2
  have b2 := F2.binds (ps := ["going", "dark", "place", "t"]) fun _ _ _ _ _ _ us hl => match us, hl with | [_, _, _, _], _ => rfl
  have F3 := fun_mk (st := s_patrol_pace) l3 c3 k3
  have b3 := F3.binds (ps := ["way"]) fun _ _ _ _ _ _ us hl => match us, hl with | [_], _ => rfl
  have F4 := fun_mk (st := s_moves) l4 c4 k4
  have b4 := F4.binds (ps := ["hill", "place", "to"]) fun _ _ _ _ _ _ us hl => match us, hl with | [_, _, _], _ => rfl
  have F5 := fun_mk (st := s_follows) l5 c5 k5
  have b5 := F5.binds (ps := ["hill", "one", "other"]) fun _ _ _ _ _ _ us hl => match us, hl with | [_, _, _], _ => rfl
  have F6 := fun_mk (st := s_law_pot) l6 c6 k6
  have b6 := F6.binds (ps := ["_law_script"]) fun _ _ _ _ _ _ us hl => match us, hl with | [_], _ => rfl
  have F7 := fun_mk (st := s_law_take) l7 c7 k7
  have b7 := F7.binds (ps := ["_law_pot_here", "_law_many"]) fun _ _ _ _ _ _ us hl => match us, hl with | [_, _], _ => rfl
  have F8 := fun_mk (st := s_law_names) l8 c8 k8
  have b8 := F8.binds (ps := ["_law_pot_here", "_law_many"]) fun _ _ _ _ _ _ us hl => match us, hl with | [_, _], _ => rfl
  have F9 := fun_mk (st := s_law_pace) l9 c9 k9
  have b9 := F9.binds (ps := ["_law_pot_here", "_law_dark"]) fun _ _ _ _ _ _ us hl => match us, hl with | [_, _], _ => rfl
  have F10 := fun_mk (st := s_law_hill) l10 c10 k10
  have b10 := F10.binds (ps := ["_law_pot_here"]) fun _ _ _ _ _ _ us hl => match us, hl with | [_], _ => rfl
  have F11 := fun_mk (st := s_law_least) l11 c11 k11
  have b11 := F11.binds (ps := ["_law_way"]) fun _ _ _ _ _ _ us hl => match us, hl with | [_], _ => rfl
  have F12 := fun_mk (st := s_law_moves) l12 c12 k12
  have b12 := F12.binds (ps := ["_law_hill_here", "_law_place"]) fun _ _ _ _ _ _ us hl => match us, hl with | [_, _], _ => rfl
  have F13 := fun_mk (st := s_law_slope) l13 c13 k13
  have b13 := F13.binds (ps := ["_law_hill_here", "_law_look"]) fun _ _ _ _ _ _ us hl => match us, hl with | [_, _], _ => rfl
  have F14 := fun_mk (st := s_law_behind) l14 c14 k14
  have b14 := F14.binds (ps := ["_law_hill_here", "_law_looks_here"]) fun _ _ _ _ _ _ us hl => match us, hl with | [_, _], _ => rfl
  have F15 := fun_mk (st := s_law_looks) l15 c15 k15
  have b15 := F15.binds (ps := ["_law_pot_here", "_law_hill_here"]) fun _ _ _ _ _ _ us hl => match us, hl with | [_, _], _ => rfl
  have F16 := fun_mk (st := s_law) l16 c16 k16
  have b16 := F16.binds (ps := ["_law_script"]) fun _ _ _ _ _ _ us hl => match us, hl with | [_], _ => rfl
  have T : Txt K mg _ _ _ _ _ _ _ _ _ _ _ _ _ _ _ _ _  _ _ _ _ _ _ _ _ _ _ _ _ _ _ _ _ _ := ⟨F0, PySem.W.mg_of X G x0, b0, F1, PySem.W.mg_of X G x1, b1, F2, PySem.W.mg_of X G x2, b2, F3, PySem.W.mg_of X G x3, b3, F4, PySem.W.mg_of X G x4, b4, F5, PySem.W.mg_of X G x5, b5, F6, PySem.W.mg_of X G x6, b6, F7, PySem.W.mg_of X G x7, b7, F8, PySem.W.mg_of X G x8, b8, F9, PySem.W.mg_of X G x9, b9, F10, PySem.W.mg_of X G x10, b10, F11, PySem.W.mg_of X G x11, b11, F12, PySem.W.mg_of X G x12, b12, F13, PySem.W.mg_of X G x13, b13, F14, PySem.W.mg_of X G x14, b14, F15, PySem.W.mg_of X G x15, b15, F16, PySem.W.mg_of X G x16, b16, PySem.W.mg_none_of X G z0, PySem.W.mg_none_of X G z1, PySem.W.mg_none_of X G z2, PySem.W.mg_none_of X G z3, PySem.W.mg_none_of X G z4, PySem.W.mg_none_of X G z5, PySem.W.mg_none_of X G z6, PySem.W.mg_none_of X G z7, PySem.W.mg_none_of X G z8, PySem.W.mg_none_of X G z9, PySem.W.mg_none_of X G z10⟩
  refine ⟨PySem.W.fnOf "law" "law" (defArgs s_law) (defBody s_law) (defScope s_law) .none kV16 dc16 pm16 an16 cd16 ct16, [], ?_, fun s v => .of_eq rfl, fun base kb _ hB => ?_⟩
  · intro e he
    cases he
  show FnOk _ _ _ _ _ _ _ _ _ _ (spLawT K [])
  have G_law_take := draw_pure (φ := famQ K) (ok_take (P := l.prog) (w := w) (base := base) T)
  have G_law_pot := ok_pot (P := l.prog) (w := w) (base := base) T
  have G_way_named := ok_way_named (P := l.prog) (w := w) (base := base) T 
  have G_first_entry := ok_first_entry (P := l.prog) (w := w) (base := base) T 
  have G_reached := ok_reached (P := l.prog) (w := w) (base := base) T G_first_entry
  have G_patrol_pace := ok_patrol_pace (P := l.prog) (w := w) (base := base) T 
  have G_moves := ok_moves (P := l.prog) (w := w) (base := base) T G_reached G_patrol_pace
  have G_follows := ok_follows (P := l.prog) (w := w) (base := base) T G_way_named G_moves G_patrol_pace
  have G_law_names := ok_law_names (P := l.prog) (w := w) (base := base) T G_law_take
  have G_law_pace := ok_law_pace (P := l.prog) (w := w) (base := base) T G_law_take
  have G_law_hill := ok_law_hill (P := l.prog) (w := w) (base := base) T G_law_names G_law_take G_law_pace
  have G_law_least := ok_law_least (P := l.prog) (w := w) (base := base) T 
  have G_law_moves := ok_law_moves (P := l.prog) (w := w) (base := base) T G_law_least
  have G_law_slope := ok_law_slope (P := l.prog) (w := w) (base := base) T 
  have G_law_behind := ok_law_behind (P := l.prog) (w := w) (base := base) T G_law_slope G_law_moves G_law_least
  have G_law_looks := ok_law_looks (P := l.prog) (w := w) (base := base) T G_law_take G_law_least
  exact ok_law T G_law_pot G_law_hill G_law_looks G_law_behind G_follows G_law_slope G_law_take G_law_moves G_law_least law_true
theorem walk {l : PySem.W.OpenLaw} {q : Program} {loose : List Str} {XP : (Str → Option Value) → Heap → Prop} {YP : World → Heap → Prop} {d : DefRec} {K : Params → PySem.W.Frag} (hn : l.most = some 63) (hdf : d.params.defaults = [])
    (hY : ∀ (w : World) (h : Heap), YP w h → (K w.params).In h)
    (F : ∀ (w : World) (mg : Str → Option Value) (fa : Addr) (h : Heap), (K w.params).In h → h.Ns mainGlobals mg → mg d.name = some (.ref fa) →
      ∃ (fd : FuncData) (ts : List (Str × Addr × Addr)), (∀ e ∈ ts, PySem.W.tabIn (K w.params) e.1 = some e.2 ∧ (K w.params).lookup e.2.2 = none ∧ ((recsOf q).find? fun r => r.name == e.1).isSome = true) ∧ (∀ (s : Shared) (u : Value), BindsTo s fd ⟨[u], []⟩ [("_law_script", u)]) ∧
        ∀ base : Heap, (K w.params).In base → base.Ns mainGlobals mg → BIn base mg → FnOk l.prog w (K w.params) mg base CX0 5 fa fd ["_law_script"] (spLawT (K w.params) (ts.map (·.2.2)))) :
    PySem.W.WalkO q loose XP YP l.row.toRowW d [] (fun f vs => PySem.call f vs) :=
  L2.walk_tabs (n := 63) (k := 5) (x := "_law_script") (CX := fun _ => CX0) (sp := fun w tbs => spLawT (K w.params) tbs) hn (by decide) hdf ⟨rfl, by decide, by decide, rfl⟩ hY F (fun _ _ a ns tbs hl ht hS => ⟨a, ns, rfl, hS, hl, ht, fun _ => rfl⟩) fun _ _ _ _ _ z => z
end K45
end
open PySem PySem.W PyProof.Rows
set_option maxRecDepth 100000 in
set_option maxHeartbeats 0 in
theorem PySem.Challenge.cw_homeslopes_k45_follows_holds : PySem.Challenge.rw_homeslopes_k45_follows.Holds := by
  w_on; o_law; k_head; (case hw => w_witness2)
  k_fill
  refine K45.walk (l := PySem.Challenge.rw_homeslopes_k45_follows) rfl rfl (fun w h Y => PySem.W.kIn_of Y) ?F
  case F =>
    intro w mg fa h KX G hmg
    refine' K45.all_mk KX G hmg ?x0 ?l0 ?c0 ?k0 ?x1 ?l1 ?c1 ?k1 ?x2 ?l2 ?c2 ?k2 ?x3 ?l3 ?c3 ?k3 ?x4 ?l4 ?c4 ?k4 ?x5 ?l5 ?c5 ?k5 ?x6 ?l6 ?c6 ?k6 ?x7 ?l7 ?c7 ?k7 ?x8 ?l8 ?c8 ?k8 ?x9 ?l9 ?c9 ?k9 ?x10 ?l10 ?c10 ?k10 ?x11 ?l11 ?c11 ?k11 ?x12 ?l12 ?c12 ?k12 ?x13 ?l13 ?c13 ?k13 ?x14 ?l14 ?c14 ?k14 ?x15 ?l15 ?c15 ?k15 ?x16 ?l16 ?c16 ?k16 ?z0 ?z1 ?z2 ?z3 ?z4 ?z5 ?z6 ?z7 ?z8 ?z9 ?z10   
    (case x0 => k_is); (case l0 => k_is); (case c0 => k_is); (case k0 => k_is)
    (case x1 => k_is); (case l1 => k_is); (case c1 => k_is); (case k1 => k_is)
    (case x2 => k_is); (case l2 => k_is); (case c2 => k_is); (case k2 => k_is)
    (case x3 => k_is); (case l3 => k_is); (case c3 => k_is); (case k3 => k_is)
    (case x4 => k_is); (case l4 => k_is); (case c4 => k_is); (case k4 => k_is)
    (case x5 => k_is); (case l5 => k_is); (case c5 => k_is); (case k5 => k_is)
    (case x6 => k_is); (case l6 => k_is); (case c6 => k_is); (case k6 => k_is)
    (case x7 => k_is); (case l7 => k_is); (case c7 => k_is); (case k7 => k_is)
    (case x8 => k_is); (case l8 => k_is); (case c8 => k_is); (case k8 => k_is)
    (case x9 => k_is); (case l9 => k_is); (case c9 => k_is); (case k9 => k_is)
    (case x10 => k_is); (case l10 => k_is); (case c10 => k_is); (case k10 => k_is)
    (case x11 => k_is); (case l11 => k_is); (case c11 => k_is); (case k11 => k_is)
    (case x12 => k_is); (case l12 => k_is); (case c12 => k_is); (case k12 => k_is)
    (case x13 => k_is); (case l13 => k_is); (case c13 => k_is); (case k13 => k_is)
    (case x14 => k_is); (case l14 => k_is); (case c14 => k_is); (case k14 => k_is)
    (case x15 => k_is); (case l15 => k_is); (case c15 => k_is); (case k15 => k_is)
    (case x16 => k_is); (case l16 => k_is); (case c16 => k_is); (case k16 => k_is)
    (case z0 => k_is)
    (case z1 => k_is)
    (case z2 => k_is)
    (case z3 => k_is)
    (case z4 => k_is)
    (case z5 => k_is)
    (case z6 => k_is)
    (case z7 => k_is)
    (case z8 => k_is)
    (case z9 => k_is)
    (case z10 => k_is)
