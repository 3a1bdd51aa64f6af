import PyProof.Rows.All
import PyProof.StrLawsIdx
import Wide.All
import OpenK.AllK
import Wide.FinOn
import Lean
import PyProof.EqAt
import PyProof.EqKinds
import PyProof.TupleCall
import PyProof.NeKinds
import PySem.Challenge.RW_homeslopes_k08_books_of_anything
set_option Elab.async false
set_option linter.all false
set_option maxRecDepth 100000
set_option maxHeartbeats 4000000
set_option genSizeOf false
set_option genInjectivity false
noncomputable section
open PySem PySem.Spec PyProof.Rows
section
namespace L2
open PySem PySem.Spec PyProof.Rows
abbrev Key:=Sum Int Str
def keyIs:Key→Value→Bool
 | .inl k,v=>Value.isInt k v
 | .inr x,v=>Value.isStrOf x v
def keyH (w:World):Key→Int
 | .inl k=>hashInt k
 | .inr x=>hashStr w x
theorem keyIs_shape: ∀ {k:Key} {v:Value},keyIs k v=true→(∃ i t,k=Sum.inl i∧v=Value.int i t)∨(∃ x t,k=Sum.inr x∧v=Value.str x t)
 | .inl i,v,h=>by
  obtain⟨t,e⟩:=Value.isInt_shape (k:=i) (v:=v) h
  exact .inl ⟨i,t,rfl,e⟩
 | .inr x,v,h=>by
  obtain⟨t,e⟩:=Value.isStrOf_shape (x:=x) (v:=v) h
  exact .inr ⟨x,t,rfl,e⟩
theorem keyIs_int (i:Int) (t:Tok):keyIs (.inl i) (.int i t)=true:=by simp[keyIs,Value.isInt]
theorem keyIs_str (x:Str) (t:Tok):keyIs (.inr x) (.str x t)=true:=by simp[keyIs,Value.isStrOf]
theorem key_ll (a b:Int):decide ((Sum.inl a:Key)=Sum.inl b)=(a==b):=by
 by_cases e:a=b
 ·subst e;simp
 ·have h: ¬ (Sum.inl a:Key)=Sum.inl b:=fun q=>e (Sum.inl.inj q)
  rw[decide_eq_false h]
  exact(beq_eq_false_iff_ne.mpr e).symm
theorem key_rr (a b:Str):decide ((Sum.inr a:Key)=Sum.inr b)=decide (a=b):=by
 by_cases e:a=b
 ·subst e;simp
 ·have h: ¬ (Sum.inr a:Key)=Sum.inr b:=fun q=>e (Sum.inr.inj q)
  rw[decide_eq_false h,decide_eq_false e]
theorem key_lr (a:Int) (b:Str):decide ((Sum.inl a:Key)=Sum.inr b)=false:=decide_eq_false (fun q=>nomatch q)
theorem key_rl (a:Str) (b:Int):decide ((Sum.inr a:Key)=Sum.inl b)=false:=decide_eq_false (fun q=>nomatch q)
noncomputable def mixKind (prog:Program) (w:World):PySem.KeyKind prog w Key where
 is:=keyIs
 hash:=keyH w
 inj:=fun v a b ha hb=>by
  rcases keyIs_shape ha with⟨i,t,rfl,rfl⟩|⟨x,t,rfl,rfl⟩
  ·rcases keyIs_shape hb with⟨j,u,rfl,e⟩|⟨y,u,rfl,e⟩
   ·injection e with e1 _;rw[e1]
   ·exact nomatch e
  ·rcases keyIs_shape hb with⟨j,u,rfl,e⟩|⟨y,u,rfl,e⟩
   ·exact nomatch e
   ·injection e with e1 _;rw[e1]
 byValue:=fun k v h=>by
  rcases keyIs_shape h with⟨i,t,rfl,rfl⟩|⟨x,t,rfl,rfl⟩<;>rfl
 pyHash:=fun hv h=>by
  rcases keyIs_shape hv with⟨i,t,rfl,rfl⟩|⟨x,t,rfl,rfl⟩
  ·exact wpAny_pyHash_int h
  ·exact wpAny_pyHash_str h
 eqBool:=fun hu hv h=>by
  rcases keyIs_shape hu with⟨i,t,rfl,rfl⟩|⟨x,t,rfl,rfl⟩
  ·rcases keyIs_shape hv with⟨j,u,rfl,rfl⟩|⟨y,u,rfl,rfl⟩
   ·rw[key_ll] at h;exact wpAny_eqBool_int h
   ·rw[key_lr] at h;exact SeqAt.EqAt.int_str i t y u _ _ _ _ h
  ·rcases keyIs_shape hv with⟨j,u,rfl,rfl⟩|⟨y,u,rfl,rfl⟩
   ·rw[key_rl] at h;exact SeqAt.EqAt.str_int x t j u _ _ _ _ h
   ·rw[key_rr] at h;exact wpAny_eqBool_str h
 «strs»:=fun k x t v h=>by
  rcases keyIs_shape h with⟨i,u,rfl,e⟩|⟨y,u,rfl,e⟩
  ·exact nomatch e
  ·injection e with e1 _
   subst e1
   cases v<;>rfl
end L2
namespace L2
open PySem PySem.Spec PyProof.Rows
set_option genInjectivity true in
inductive V where
 |non|bl (b:Bool)|int (i:Int)|str (x:Str)|byt (b:Array UInt8)|flt (b:UInt64)|ref (a:Addr)|ty (n:String)
 deriving DecidableEq
noncomputable def RelV:V→Value→Prop
 | .non,u=>u=Value.none
 | .bl b,u=>u=Value.bool b
 | .int i,u=> ∃ t,u=Value.int i t
 | .str x,u=> ∃ t,u=Value.str x t
 | .byt b,u=> ∃ t,u=Value.bytes b t
 | .flt b,u=> ∃ t,u=Value.float b t
 | .ref a,u=>u=Value.ref a
 | .ty n,u=>u=Value.type n
abbrev Vals:List V→List Value→Prop:=Paired RelV
theorem Vals.length (r:Vals xs us):xs.length=us.length:=Paired.length r
theorem Vals.get: ∀ {xs:List V} {us:List Value} {i:Nat} {x:V},Vals xs us→xs[i]?=some x→∃ u,us[i]?=some u∧RelV x u
 |_,_,_,_,.nil,e=>by simp at e
 |_,_,0,_,.cons r _,e=>by simp at e;subst e;exact⟨_,rfl,r⟩
 |_,_,i+1,x,.cons _ t,e=>by
  obtain⟨u,h1,h2⟩:=Vals.get (i:=i) (x:=x) t (by simpa using e)
  exact⟨u,by simpa using h1,h2⟩
theorem Vals.set (r:RelV x u): ∀ {xs:List V} {us:List Value} (i:Nat),Vals xs us→Vals (xs.set i x) (us.set i u)
 |_,_,_,.nil=>.nil
 |_,_,0,.cons _ t=>.cons r t
 |_,_,i+1,.cons q t=>.cons q (Vals.set r i t)
theorem Vals.append: ∀ {xs ys:List V} {us ws:List Value},Vals xs us→Vals ys ws→Vals (xs++ys) (us++ws)
 |_,_,_,_,.nil,s=>s
 |_,_,_,_,.cons r t,s=>.cons r (Vals.append t s)
theorem Vals.take: ∀ {xs:List V} {us:List Value} (n:Nat),Vals xs us→Vals (xs.take n) (us.take n)
 |_,_,0,_=>.nil
 |_,_,_+1,.nil=>.nil
 |_,_,n+1,.cons r t=>.cons r (Vals.take n t)
theorem Vals.drop: ∀ {xs:List V} {us:List Value} (n:Nat),Vals xs us→Vals (xs.drop n) (us.drop n)
 |_,_,0,r=>r
 |_,_,_+1,.nil=>.nil
 |_,_,n+1,.cons _ t=>Vals.drop n t
def RelO:Option V→Option Value→Prop
 |some v,some u=>RelV v u
 |none,none=>True
 |_,_=>False
def KV {κ:Type}:List (κ×V)→List (κ×Value)→Prop:=Paired fun (p:κ×V) (q:κ×Value)=>p.1=q.1∧RelV p.2 q.2
def kV:Key→V
 | .inl i=>.int i
 | .inr x=>.str x
inductive HO where
  |lst (xs:List V)
  |tup (xs:List V)
  |dK (kvs:List (Key×V))|dT (kvs:List (List Key×V))
  |set (S:Int→Bool) (n:Nat)
  |ins (C dx:Addr) (fs:List (Str×V))
  |own (x:Addr)
  |xd (fs:List (Str×V))
  |met (f x:Addr)
  |rng (lo hi:Int)
  |frz (o:Obj) (u:HO)
  |tbl (ps:Array Value)
  |ext (φ:Heap→Prop)
abbrev Hp:=Addr→Option HO
def upd (H:Hp) (a:Addr) (o:HO):Hp:=fun b=>if b=a then some o else H b
theorem upd_same:upd H a o a=some o:=by unfold upd;rw[if_pos rfl]
theorem upd_ne (h:b≠a):upd H a o b=H b:=by unfold upd;rw[if_neg h]
theorem upd_upd:upd (upd H a o) a u=upd H a u:=by
 funext b;unfold upd;split<;>rfl
theorem ne_of {H:Hp} (h:H a=some o) (h':H b=some u) (d:o≠u):a≠b:=by
 intro e;subst e;rw[h] at h';exact d (Option.some.inj h')
theorem ne_of_none {H:Hp} (h:H a=some o) (h':H b=none):a≠b:=by
 intro e;subst e;rw[h] at h';cases h'
section
variable (P:Program) (w:World)
noncomputable def ObjOk (H:Hp) (h:Heap) (a:Addr):HO→Prop
 | .lst xs=>xs.length≤sizeLine∧∃ (its:List Value) (n:Nat),Vals xs its∧h.get? a=some {cls:=.type "list",data:=.seq its.toArray n}
 | .tup xs=>xs.length≤sizeLine∧∃ its:List Value,Vals xs its∧IsTup h a its.toArray
 | .dK kvs=>kvs.length≤sizeLine∧(a==sysModules)=false∧∃ vs,KV kvs vs∧h.DictOf (mixKind P w) a vs
 | .dT kvs=>kvs.length≤sizeLine∧(a==sysModules)=false∧∃ xs:List (List Key×Addr×Value),
   Paired (fun (p:List Key×V) (q:List Key×Addr×Value)=>p.1=q.1∧H q.2.1=some (.tup (p.1.map kV))∧RelV p.2 q.2.2) kvs xs∧
   ∃ o es ep,h.get? a=some o∧o.ExactDict∧o.data= .dict es ep∧es.toList=xs.map (entryOfKey (tupleKind (mixKind P w)))∧(xs.map (·.1)).Nodup
 | .set S n=>h.SetOf (intKind P w) a S n
 | .ins C dx fs=>H dx=some (.own a)∧fs.length≤1000∧dx≠a∧h.get? a=some (PySem.W.instObj C dx)∧
   ∃ mA,h.Ns1 dx mA∧(∀ f,RelO (fs.lookup f) (mA f))∧PySem.Within mA (fs.map (·.1))
 | .own _=> ∃ o,h.get? a=some o
 | .xd fs=> ∃ mA,h.Ns1 a mA∧∀ f,RelO (fs.lookup f) (mA f)
 | .rng lo hi=> ∃ t u v,h.get? a=some {cls:=.type "range",data:=.fields #[.int lo t,.int hi u,.int 1 v]}
 | .frz o u=>h.get? a=some o∧ObjOk H h a u
 | .tbl ps=>h.get? a=some {cls:=.none,data:=.fields ps}
 | .met f x=>h.get? a=some (PySem.W.methodObj (.ref f) (.ref x))
 | .ext φ=>φ h∧(∃ o,h.get? a=some o)∧∀ h1 h2:Heap,φ h1→(∀ o,h1.get? a=some o→h2.get? a=some o)→φ h2
def HOk (H:Hp) (h:Heap):Prop:= ∀ a o,H a=some o→ObjOk P w H h a o
end
section
variable {P:Program} {w:World} {H H':Hp} {h h':Heap} {a:Addr} {o:HO}
theorem ObjOk.lt (x:ObjOk P w H h a o):a < h.objs.size:=by
 cases o with
 |lst xs=>obtain⟨_,_,_,_,e⟩:=x;exact Heap.lt_size e
 |tup xs=>obtain⟨_,_,_,p⟩:=x;exact p.lt
 |dK kvs=>obtain⟨_,_,_,_,o,_,_,e,_⟩:=x;exact Heap.lt_size e
 |dT kvs=>obtain⟨_,_,_,_,o,_,_,e,_⟩:=x;exact Heap.lt_size e
 |set S n=>obtain⟨o,_,_,_,e,_⟩:=x;exact Heap.lt_size e
 |ins C dx fs=>obtain⟨_,_,_,e,_⟩:=x;exact Heap.lt_size e
 |own y=>obtain⟨_,e⟩:=x;exact Heap.lt_size e
 |xd fs=>obtain⟨_,⟨_,_,_,e,_⟩,_⟩:=x;exact Heap.lt_size e
 |rng lo hi=>obtain⟨_,_,_,e⟩:=x;exact Heap.lt_size e
 |frz ob u=>obtain⟨e,_⟩:=x;exact Heap.lt_size e
 |tbl ps=>exact Heap.lt_size (show h.get? a=some _ from x)
 |met f y=>exact Heap.lt_size (show h.get? a=some _ from x)
 |ext φ=>obtain⟨_,⟨_,e⟩,_⟩:=x;exact Heap.lt_size e
theorem Paired.mapP: ∀ {l₁:List α} {l₂:List β},Paired F l₁ l₂→(∀ a b,F a b→G a b)→Paired G l₁ l₂
 |_,_,.nil,_=>.nil
 |_,_,.cons r t,f=>.cons (f _ _ r) (Paired.mapP t f)
theorem ObjOk.stay (x:ObjOk P w H h a o) (k: ∀ b u,(b=a∨H b=some (.own a))→h.get? b=some u→h'.get? b=some u)
  (ho: ∀ b,H b=some (.own a)→H' b=some (.own a)) (ht: ∀ b xs,H b=some (.tup xs)→H' b=some (.tup xs)):ObjOk P w H' h' a o:=by
 induction o with
 |lst xs=>obtain⟨z,its,n,r,e⟩:=x;exact⟨z,its,n,r,k _ _ (.inl rfl) e⟩
 |tup xs=>obtain⟨z,its,r,ob,e,c⟩:=x;exact⟨z,its,r,ob,k _ _ (.inl rfl) e,c⟩
 |dK kvs=>obtain⟨z,y,vs,r,ob,es,ep,e,c⟩:=x;exact⟨z,y,vs,r,ob,es,ep,k _ _ (.inl rfl) e,c⟩
 |dT kvs=>
  obtain⟨z,y,xs,r,ob,es,ep,e,c⟩:=x
  exact⟨z,y,xs,Paired.mapP r fun p q z=>⟨z.1,ht _ _ z.2.1,z.2.2⟩,ob,es,ep,k _ _ (.inl rfl) e,c⟩
 |set S n=>obtain⟨ob,es,ep,t,e,c⟩:=x;exact⟨ob,es,ep,t,k _ _ (.inl rfl) e,c⟩
 |ins C dx fs=>
  obtain⟨d,z,ne,e,mA,⟨od,es,ep,e2,c⟩,r⟩:=x
  exact⟨ho _ d,z,ne,k _ _ (.inl rfl) e,mA,⟨od,es,ep,k _ _ (.inr d) e2,c⟩,r⟩
 |own y=>obtain⟨ob,e⟩:=x;exact⟨ob,k _ _ (.inl rfl) e⟩
 |xd fs=>obtain⟨mA,⟨od,es,ep,e,c⟩,r⟩:=x;exact⟨mA,⟨od,es,ep,k _ _ (.inl rfl) e,c⟩,r⟩
 |rng lo hi=>obtain⟨t,u,v,e⟩:=x;exact⟨t,u,v,k _ _ (.inl rfl) e⟩
 |frz ob u ih=>obtain⟨e,q⟩:=x;exact⟨k _ _ (.inl rfl) e,ih q⟩
 |tbl ps=>
  have e:h.get? a=some {cls:=.none,data:=.fields ps}:=x
  show h'.get? a=some {cls:=.none,data:=.fields ps}
  exact k a _ (.inl rfl) e
 |met f y=>
  have e:h.get? a=some (PySem.W.methodObj (.ref f) (.ref y)):=x
  show h'.get? a=some (PySem.W.methodObj (.ref f) (.ref y))
  exact k a _ (.inl rfl) e
 |ext φ=>obtain⟨p,⟨o,e⟩,st⟩:=x;exact⟨st _ _ p fun o q=>k _ _ (.inl rfl) q,⟨o,k _ _ (.inl rfl) e⟩,st⟩
theorem HOk.lt (x:HOk P w H h) (e:H a=some o):a < h.objs.size:=(x a o e).lt
theorem HOk.fresh (x:HOk P w H h) (e:h.objs.size≤a):H a=none:=by
 cases q:H a with
 |none=>rfl
 |some u=>exact absurd (Nat.lt_of_lt_of_le (x.lt q) e) (Nat.lt_irrefl _)
theorem HOk.kept (x:HOk P w H h) (k: ∀ b u,h.get? b=some u→h'.get? b=some u):HOk P w H h':=fun a o e=>
 (x a o e).stay (fun b u _ q=>k b u q) (fun _ q=>q) fun _ _ q=>q
theorem HOk.laid (x:HOk P w H h) (k: ∀ b u,h.get? b=some u→h'.get? b=some u) (hp:h.objs.size≤a) (new:ObjOk P w (upd H a o) h' a o):HOk P w (upd H a o) h':=fun b u e=>by
 have hn:=x.fresh hp
 by_cases hb:b=a
 ·subst hb;rw[upd_same] at e;cases e;exact new
 ·rw[upd_ne hb] at e
  exact(x b u e).stay (fun c v _ q=>k c v q) (fun c q=>by rw[upd_ne (ne_of_none q hn)];exact q) fun c xs q=>by rw[upd_ne (ne_of_none q hn)];exact q
end
def Rd (H:Hp) (a:Addr) (u:HO):Prop:=H a=some u∨∃ o,H a=some (.frz o u)
theorem Rd.ok (r:Rd H a u) (x:HOk P w H h):ObjOk P w H h a u:=by
 rcases r with r|⟨o,r⟩
 ·exact x a u r
 ·obtain⟨_,q⟩:=x a _ r
  exact q
def Mut:Option HO→Prop
 |some (.lst _)=>True
 |some (.dK _)=>True
 |some (.dT _)=>True
 |some (.set _ _)=>True
 |some (.ins _ _ _)=>True
 |some (.ext _)=>True
 |_=>False
section
variable {P:Program} {w:World} {H:Hp} {h h':Heap} {x e:Addr} {o':HO}
theorem HOk.write (ok:HOk P w H h) (mu:Mut (H x)) (he:e=x∨H e=some (.own x)) (k: ∀ b u,b≠e→h.get? b=some u→h'.get? b=some u) (heo: ∃ u,h'.get? e=some u)
  (new:ObjOk P w (upd H x o') h' x o'):HOk P w (upd H x o') h':=fun b u q=>by
 have nown: ∀ c y,H c=some (.own y)→c≠x:=fun c y r z=>by subst z;rw[r] at mu;exact mu
 have ntup: ∀ c xs,H c=some (.tup xs)→c≠x:=fun c xs r z=>by subst z;rw[r] at mu;exact mu
 by_cases hb:b=x
 ·subst hb;rw[upd_same] at q;cases q;exact new
 ·rw[upd_ne hb] at q
  by_cases hbe:b=e
  ·have q':H b=some (.own x):=by
    rcases he with z|z
    ·exact absurd (hbe.trans z) hb
    ·rw[hbe];exact z
   rw[q] at q';cases q'
   obtain⟨v,hv⟩:=heo
   exact⟨v,by rw[hbe];exact hv⟩
  ·refine(ok b u q).stay (fun c v hc r=>k c v ?_ r) (fun c r=>by rw[upd_ne (nown c b r)];exact r) fun c xs r=>by rw[upd_ne (ntup c xs r)];exact r
   rcases hc with rfl|hc
   ·exact hbe
   ·rintro rfl
    rcases he with z|z
    ·exact nown c b hc z
    ·rw[hc] at z;cases z;exact hb rfl
end
structure Un (fs ex:List Addr) (H H':Hp) (h h':Heap):Prop where
 keep: ∀ b o,h.get? b=some o→H b=none→b∉fs→b∉ex→h'.get? b=some o
 slot: ∀ b o,h.get? b=some o→H b=none→b∈fs→b∉ex→∃ sl,h'.get? b=some {o with slots:=sl}
 free: ∀ b o,h.get? b=some o→H b=none→b∉ex→H' b=none
 there: ∀ b o,h.get? b=some o→b∉ex→∃ o',h'.get? b=some o'
 tups: ∀ b xs,H b=some (.tup xs)→H' b=some (.tup xs)
 frzs: ∀ b o u,H b=some (.frz o u)→H' b=some (.frz o u)
 tbls: ∀ b ps,H b=some (.tbl ps)→∃ more,H' b=some (.tbl (ps++more))
section
variable {fs fs' ex ex':List Addr} {H H1 H2:Hp} {h h1 h2 h':Heap} {a x e:Addr} {o:HO}
theorem Un.any (u:Un fs ex H H1 h h1) (q:h.get? b=some ob) (n:H b=none) (hx:b∉ex): ∃ sl,h1.get? b=some {ob with slots:=sl}:=by
 by_cases hb:b∈fs
 ·exact u.slot b ob q n hb hx
 ·exact⟨ob.slots,u.keep b ob q n hb hx⟩
theorem Un.kept (k: ∀ b u,h.get? b=some u→h'.get? b=some u):Un fs ex H H h h':=
 ⟨fun b ob q _ _ _=>k b ob q,fun b ob q _ _ _=>⟨ob.slots,k b ob q⟩,fun _ _ _ n _=>n,fun b ob q _=>⟨ob,k b ob q⟩,fun _ _ q=>q,fun _ _ _ q=>q,fun _ ps q=>⟨#[],by rw[q];simp⟩⟩
theorem Un.refl:Un fs ex H H h h:=Un.kept fun _ _ q=>q
theorem Un.laid (k: ∀ b u,h.get? b=some u→h'.get? b=some u) (hp:h.objs.size≤a) (hn:H a=none):Un fs ex H (upd H a o) h h' where
 keep:=fun b u q _ _ _=>k b u q
 slot:=fun b u q _ _ _=>⟨u.slots,k b u q⟩
 free:=fun b u q n _=>by rw[upd_ne (Nat.ne_of_lt (Nat.lt_of_lt_of_le (Heap.lt_size q) hp))];exact n
 there:=fun b u q _=>⟨u,k b u q⟩
 tups:=fun b xs q=>by rw[upd_ne (ne_of_none q hn)];exact q
 frzs:=fun b u xs q=>by rw[upd_ne (ne_of_none q hn)];exact q
 tbls:=fun b ps q=>⟨#[],by rw[upd_ne (ne_of_none q hn),q];simp⟩
theorem Un.write (mu:Mut (H x)) (he:e=x∨H e=some (.own x)) (k: ∀ b u,b≠e→h.get? b=some u→h'.get? b=some u) (heo: ∃ u,h'.get? e=some u):Un fs ex H (upd H x o) h h':=by
 have hx: ∀ b,H b=none→b≠x:=fun b n z=>by subst z;rw[n] at mu;exact mu
 have hb: ∀ b,H b=none→b≠e:=fun b n z=>by
  subst z
  rcases he with r|r
  ·exact hx b n r
  ·rw[n] at r;cases r
 have hm: ∀ b u,H b=some u→¬ Mut (some u)→b≠x:=fun b u q nm z=>by subst z;rw[q] at mu;exact nm mu
 refine⟨fun b u q n _ _=>k b u (hb b n) q,fun b u q n _ _=>⟨u.slots,k b u (hb b n) q⟩,fun b u q n _=>by rw[upd_ne (hx b n)];exact n,fun b u q _=>?_,
  fun b xs q=>by rw[upd_ne (hm b _ q fun z=>z)];exact q,fun b u xs q=>by rw[upd_ne (hm b _ q fun z=>z)];exact q,fun b ps q=>⟨#[],by rw[upd_ne (hm b _ q fun z=>z),q];simp⟩⟩
 by_cases hbe:b=e
 ·subst hbe;exact heo
 ·exact⟨u,k b u hbe q⟩
end
def trk (h:Heap) (H:Hp):List Addr:=(List.range h.objs.size).filter fun a=>(H a).isSome
def hidT (h:Heap) (H:Hp):Heap:=PySem.W.hideAll h (trk h H)
theorem hidT_size (h:Heap) (H:Hp):(hidT h H).objs.size=h.objs.size:=PySem.W.hideAll_size _ _
theorem hidT_get (e:h.get? b=some o) (n:H b=none):(hidT h H).get? b=some o:=
 PySem.W.hideAll_get _ e fun hm=>by
  have q:(H b).isSome=true:=(List.mem_filter.mp hm).2
  rw[n] at q;simp at q
theorem of_hidT (e:(hidT h H).get? b=some o):h.get? b=some o∧H b=none:=by
 have e':h.get? b=some o:=PySem.W.of_hideAll (trk h H) e
 refine⟨e',?_⟩
 cases q:H b with
 |none=>rfl
 |some x=>
  have hm:b∈trk h H:=List.mem_filter.mpr ⟨List.mem_range.mpr (Heap.lt_size e'),by simp[q]⟩
  have z:(hidT h H).get? b=none:=PySem.W.hideAll_none (trk h H) hm
  rw[z] at e;cases e
def allNews (g h:Heap) (L:Addr):List (Addr×Obj):=(List.range h.objs.size).filterMap fun a=>if a=L∨(g.get? a).isSome=true then none else(h.get? a).map fun o=>(a,o)
def rest (g h:Heap) (L d:Addr):List (Addr×Obj):=(allNews g h L).filter fun p=>decide (p.1≠d)
end L2
namespace L2
open PySem PySem.Spec PyProof.Rows
structure Mod (K:PySem.W.Frag) (mg:Str→Option Value) (base:Heap):Prop where
  kin:K.In base
  glob:base.Ns mainGlobals mg
  blt: ∃ mb,base.Ns builtinsNs mb∧∀ x:Str,x≠"__name__"→mb x=bootBuiltins x
  nolimit:base.NoLimit
structure Cx where
 prog:Program
 w:World
 K:PySem.W.Frag
 mg:Str→Option Value
 base:Heap
 A:Around
 N:List Str
 s₀:Shared
 H₀:Hp
 env:Env
 outer:List Env
 stack:List Env
 ex:List Addr
 fn:Str→Bool
 calm:Bool
 pn:List (Addr×Obj)
 xe:Value→Shared→Prop
def frs (l:List Env):List Addr:=l.filterMap (·.frame)
abbrev Cx.fs (X:Cx):List Addr:=frs X.outer
def Vis (sc:Scope) (x:Str):Prop:=sc.names.lookup x=some .local∨sc.names.lookup x=some .cell∨sc.names.lookup x=some .free
def Loc (sc:Scope) (x:Str):Prop:=sc.names.lookup x=some .local∨sc.names.lookup x=some .cell
def Look (env:Env) (h:Heap) (m:Str→Option Value) (x:Str) (u:Value):Prop:=
 (env.kindOf x=some .local∧m x=some u)∨((env.kindOf x=some .cell∨env.kindOf x=some .free)∧∃ c,env.cells.lookup x=some c∧h.IsCell c (some u))
structure Cx.Ok (X:Cx):Prop where
 mod:Mod X.K X.mg X.base
 kind:X.env.scope.kind= .function
 glob:X.env.globals=mainGlobals
 blt:X.env.builtins=builtinsNs
 above:X.s₀.heap.objs.size≤X.env.locals
 inj: ∀ x y c,X.env.cells.lookup x=some c→X.env.cells.lookup y=some c→x=y
 has: ∀ x,(X.env.kindOf x=some .cell∨X.env.kindOf x=some .free)→∃ c,X.env.cells.lookup x=some c
 cab: ∀ x c,X.fn x=true→X.env.cells.lookup x=some c→X.s₀.heap.objs.size≤c
 hd:X.calm=true→X.A.handled=none
 frames:X.A.frames=some X.stack
 stk:X.stack=X.outer∨(X.stack=X.env::X.outer∧X.env.frame=some X.env.locals)
 exf: ∀ b∈X.ex,b≠X.env.locals∧∀ x c,X.env.cells.lookup x=some c→c≠b
 bs: ∀ b o,X.base.get? b=some o→X.s₀.heap.get? b=some o∧X.H₀ b=none
 bsz:X.base.objs.size≤X.s₀.heap.objs.size
 noex: ∀ b o,X.base.get? b=some o→b∉X.ex
 exfs: ∀ b∈X.ex,b∉X.fs
 funs:X.s₀.heap.FunFrames X.base X.outer
 frf: ∀ b∈X.fs,X.H₀ b=none
structure Inv (X:Cx) (pZ:List (Addr×Obj)) (σ:List (Option V)) (H:Hp) (s:Shared):Prop where
 ok:X.Ok
 os:s.os=X.s₀.os
 bare:AllBare s.gens
 base:Un X.fs X.ex X.H₀ H X.s₀.heap s.heap
 loc: ∃ m,s.heap.Ns X.env.locals m∧∀ (i:Nat) (x:Str) (v:V),X.N[i]?=some x→σ[i]?=some (some v)→Vis X.env.scope x→∃ u,RelV v u∧Look X.env s.heap m x u
 cell: ∀ x c,X.env.cells.lookup x=some c→∃ v,s.heap.IsCell c v
 free:H X.env.locals=none
 freeC: ∀ x c,X.env.cells.lookup x=some c→H c=none
 pin: ∀ p∈X.pn++pZ,s.heap.get? p.1=some p.2∧H p.1=none∧p.1≠X.env.locals∧p.1∉X.fs∧∀ v,p.2.data≠.cell v
 hok:HOk X.prog X.w H s.heap
 len:σ.length=X.N.length
section
variable {X:Cx} {pZ:List (Addr×Obj)} {σ:List (Option V)} {H H':Hp} {s:Shared} {h':Heap}
theorem Cx.Ok.nofr (ok:X.Ok) (e:X.base.get? b=some o):b∉X.fs:=fun hb=>by
 have:=(ok.funs.mem hb).1
 rw[e] at this;cases this
theorem Inv.bs (I:Inv X pZ σ H s): ∀ b o,X.base.get? b=some o→s.heap.get? b=some o∧H b=none:=fun b o e=>
 ⟨I.base.keep b o (I.ok.bs b o e).1 (I.ok.bs b o e).2 (I.ok.nofr e) (I.ok.noex b o e),I.base.free b o (I.ok.bs b o e).1 (I.ok.bs b o e).2 (I.ok.noex b o e)⟩
theorem Inv.bk (I:Inv X pZ σ H s): ∀ b o,X.base.get? b=some o→s.heap.get? b=some o:=fun b o e=>(I.bs b o e).1
theorem Inv.mod (I:Inv X pZ σ H s):Mod X.K X.mg X.base:=I.ok.mod
theorem Inv.kIn (I:Inv X pZ σ H s):X.K.In s.heap:=I.ok.mod.kin.keeps I.bk
theorem Inv.lt (I:Inv X pZ σ H s):X.env.locals < s.heap.objs.size:=let ⟨_,hn,_⟩:=I.loc;hn.lt
theorem Inv.sz (I:Inv X pZ σ H s):X.s₀.heap.objs.size≤s.heap.objs.size:=Nat.le_trans I.ok.above (Nat.le_of_lt I.lt)
theorem Inv.nofs (I:Inv X pZ σ H s) (h:s.heap.objs.size≤a):a∉X.fs:=fun hb=>by
 obtain⟨_,o,ho,_⟩:=I.ok.funs.mem hb
 exact absurd (Nat.lt_of_lt_of_le (Heap.lt_size ho) (Nat.le_trans I.sz h)) (Nat.lt_irrefl _)
theorem Inv.cne (I:Inv X pZ σ H s): ∀ x c,X.env.cells.lookup x=some c→c≠X.env.locals:=fun x c e z=>by
 obtain⟨v,o,ho,hd⟩:=I.cell x c e
 obtain⟨m,⟨o',es,ep,ho',hd',_⟩,_⟩:=I.loc
 rw[z,ho'] at ho;cases ho;rw[hd'] at hd;cases hd
theorem Inv.funs (I:Inv X pZ σ H s):s.heap.FunFrames X.base X.outer:=by
 have all: ∀ (l:List Env),(∀ b∈frs l,b∈X.fs)→X.s₀.heap.FunFrames X.base l→s.heap.FunFrames X.base l:=by
  intro l
  induction l with
  |nil=>intro _ _;trivial
  |cons env r ih=>
   intro hs hl
   obtain⟨hk,⟨L,o,hf,hn,ho,hd⟩,hr⟩:=hl
   have hL:L∈X.fs:=hs L (by unfold frs;rw[List.filterMap_cons,hf];exact List.mem_cons_self)
   obtain⟨sl,e⟩:=I.base.slot L o ho (I.ok.frf L hL) hL fun z=>I.ok.exfs L z hL
   exact⟨hk,⟨L,_,hf,hn,e,hd⟩,ih (fun b hb=>hs b (by unfold frs;rw[List.filterMap_cons,hf];exact List.mem_cons_of_mem _ hb)) hr⟩
 exact all X.outer (fun _ hb=>hb) I.ok.funs
theorem Inv.stack (I:Inv X pZ σ H s):s.heap.FunFrames X.base X.stack:=by
 rcases I.ok.stk with e|⟨e,hf⟩
 ·rw[e];exact I.funs
 ·rw[e]
  obtain⟨m,hn,_⟩:=I.loc
  refine .cons (by rw[I.ok.kind];decide) hf hn ?_ I.funs
  exact Heap.get?_none_of_le (Nat.le_trans I.ok.bsz I.ok.above)
theorem Inv.stkSub (I:Inv X pZ σ H s): ∀ b∈frs X.stack,b∈X.env.locals::X.fs:=fun b hb=>by
 rcases I.ok.stk with e|⟨e,hf⟩
 ·rw[e] at hb;exact List.mem_cons_of_mem _ hb
 ·rw[e] at hb
  unfold frs at hb
  rw[List.filterMap_cons,hf] at hb
  exact hb
theorem Inv.stkFree (I:Inv X pZ σ H s): ∀ b∈frs X.stack,H b=none:=fun b hb=>by
 rcases List.mem_cons.mp (I.stkSub b hb) with e|hb
 ·rw[e];exact I.free
 ·obtain⟨_,o,ho,_⟩:=I.ok.funs.mem hb
  exact I.base.free b o ho (I.ok.frf b hb) fun z=>I.ok.exfs b z hb
theorem Inv.step {t':Nat} {d':Drawn} {ch:List Addr} (I:Inv X pZ σ H s)
  (hch: ∀ b∈ch,(b∈X.ex∨X.s₀.heap.objs.size≤b)∧b≠X.env.locals∧(∀ x c,X.env.cells.lookup x=some c→c≠b)∧∀ p∈X.pn++pZ,p.1≠b)
  (keep: ∀ b o,b≠X.env.locals→b∉X.fs→b∉ch→s.heap.get? b=some o→H b=none→h'.get? b=some o)
  (slot: ∀ b o,b≠X.env.locals→b∈X.fs→b∉ch→s.heap.get? b=some o→H b=none→∃ sl,h'.get? b=some {o with slots:=sl}) (free: ∀ b o,b∉ch→s.heap.get? b=some o→H b=none→H' b=none)
  (there: ∀ b o,b∉ch→s.heap.get? b=some o→∃ o',h'.get? b=some o')
  (tups: ∀ b xs,H b=some (.tup xs)→H' b=some (.tup xs)) (frzs: ∀ b o u,H b=some (.frz o u)→H' b=some (.frz o u)) (tbls: ∀ b ps,H b=some (.tbl ps)→∃ more,H' b=some (.tbl (ps++more)))
  (ns: ∀ m,s.heap.Ns X.env.locals m→h'.Ns X.env.locals m) (hok:HOk X.prog X.w H' h') (hg:AllBare g'):
  Inv X pZ σ H' {s with heap:=h',gens:=g',drawn:=d',toks:=t'}:=by
 have neL: ∀ b o,X.s₀.heap.get? b=some o→b≠X.env.locals:=fun b o e=>Nat.ne_of_lt (Nat.lt_of_lt_of_le (Heap.lt_size e) I.ok.above)
 have neC: ∀ b o,X.s₀.heap.get? b=some o→b∉X.ex→b∉ch:=fun b o e hx hb=>by
  rcases(hch b hb).1 with z|z
  ·exact hx z
  ·exact absurd (Nat.lt_of_lt_of_le (Heap.lt_size e) z) (Nat.lt_irrefl _)
 have cellK: ∀ x c,X.env.cells.lookup x=some c→∀ v,s.heap.IsCell c v→h'.IsCell c v:=fun x c e v hq0=>by
  obtain⟨o,ho,hd⟩:=hq0
  have nch:c∉ch:=fun z=>(hch c z).2.2.1 x c e rfl
  by_cases hc:c∈X.fs
  ·obtain⟨sl,q⟩:=slot c o (I.cne x c e) hc nch ho (I.freeC x c e)
   exact⟨_,q,hd⟩
  ·exact⟨o,keep c o (I.cne x c e) hc nch ho (I.freeC x c e),hd⟩
 refine⟨I.ok,I.os,hg,⟨fun b o e n hb hx=>?_,fun b o e n hb hx=>?_,fun b o e n hx=>?_,fun b o e hx=>?_,fun b xs e=>tups b xs (I.base.tups b xs e),fun b o xs e=>frzs b o xs (I.base.frzs b o xs e),fun b ps e=>?_⟩,?_,fun x c e=>?_,?_,fun x c e=>?_,fun p hp=>?_,hok,I.len⟩
 ·exact keep b o (neL b o e) hb (neC b o e hx) (I.base.keep b o e n hb hx) (I.base.free b o e n hx)
 ·obtain⟨sl,e1⟩:=I.base.slot b o e n hb hx
  obtain⟨sl',e2⟩:=slot b _ (neL b o e) hb (neC b o e hx) e1 (I.base.free b o e n hx)
  exact⟨sl',e2⟩
 ·obtain⟨o',e1⟩:=I.base.there b o e hx
  exact free b o' (neC b o e hx) e1 (I.base.free b o e n hx)
 ·obtain⟨o',e1⟩:=I.base.there b o e hx
  exact there b o' (neC b o e hx) e1
 ·obtain⟨m1,e1⟩:=I.base.tbls b ps e
  obtain⟨m2,e2⟩:=tbls b _ e1
  exact⟨m1++m2,by rw[e2,Array.append_assoc]⟩
 ·obtain⟨m,hn,hl⟩:=I.loc
  refine⟨m,ns m hn,fun i x v e1 e2 e3=>?_⟩
  obtain⟨u,r,l⟩:=hl i x v e1 e2 e3
  refine⟨u,r,?_⟩
  rcases l with l|⟨k,c,e,z⟩
  ·exact .inl l
  ·exact .inr ⟨k,c,e,cellK x c e _ z⟩
 ·obtain⟨v,z⟩:=I.cell x c e
  exact⟨v,cellK x c e v z⟩
 ·obtain⟨m,⟨o,_,_,ho,_⟩,_⟩:=I.loc
  exact free _ o (fun z=>(hch _ z).2.1 rfl) ho I.free
 ·obtain⟨v,o,ho,hd⟩:=I.cell x c e
  exact free c o (fun z=>(hch c z).2.2.1 x c e rfl) ho (I.freeC x c e)
 ·obtain⟨e,n,ne,nf,d⟩:=I.pin p hp
  have nch:p.1∉ch:=fun z=>(hch p.1 z).2.2.2 p hp rfl
  exact⟨keep p.1 p.2 ne nf nch e n,free p.1 p.2 nch e n,ne,nf,d⟩
theorem Inv.un {t':Nat} (I:Inv X pZ σ H s) (u:Un X.fs [] H H' s.heap h') (hok:HOk X.prog X.w H' h'):Inv X pZ σ H' {s with heap:=h',toks:=t'}:=by
 obtain⟨m,⟨o,es,ep,ho,r⟩,_⟩:=id I.loc
 obtain⟨sl,hL⟩:=u.any ho I.free (by simp)
 exact I.step (g':=s.gens) (d':=s.drawn) (ch:=[]) (fun _ z=>nomatch z) (fun b o _ hb _ e n=>u.keep b o e n hb (by simp)) (fun b o _ hb _ e n=>u.slot b o e n hb (by simp)) (fun b o _ e n=>u.free b o e n (by simp)) (fun b o _ e=>u.there b o e (by simp)) u.tups u.frzs u.tbls (fun m' hm=>by
  obtain⟨o',es',ep',ho',r'⟩:=hm
  rw[ho] at ho';cases ho'
  exact⟨_,es',ep',hL,r'⟩) hok I.bare
theorem Inv.call {t':Nat} {d':Drawn} (I:Inv X pZ σ H s) (u:Un (frs X.stack) ch H H' s.heap h') (hok:HOk X.prog X.w H' h') (hg:AllBare g')
  (hch: ∀ b∈ch,(b∈X.ex∨X.s₀.heap.objs.size≤b)∧b≠X.env.locals∧(∀ x c,X.env.cells.lookup x=some c→c≠b)∧∀ p∈X.pn++pZ,p.1≠b):
  Inv X pZ σ H' {s with heap:=h',gens:=g',drawn:=d',toks:=t'}:=by
 obtain⟨m,⟨o,es,ep,ho,r⟩,_⟩:=id I.loc
 obtain⟨sl,hL⟩:=u.any ho I.free fun z=>(hch _ z).2.1 rfl
 exact I.step (ch:=ch) hch (fun b o hL hb hc e n=>u.keep b o e n (fun z=>(List.mem_cons.mp (I.stkSub b z)).elim hL hb) hc) (fun b o _ _ hc e n=>u.any e n hc) (fun b o hc e n=>u.free b o e n hc) (fun b o hc e=>u.there b o e hc) u.tups u.frzs u.tbls (fun m' hm=>by
  obtain⟨o',es',ep',ho',r'⟩:=hm
  rw[ho] at ho';cases ho'
  exact⟨_,es',ep',hL,r'⟩) hok hg
theorem Inv.turned {t':Nat} {it:Addr} (I:Inv X pZ σ H s) (k: ∀ b o,b≠it→s.heap.get? b=some o→h'.get? b=some o) (hn:H it=none) (hL:it≠X.env.locals)
  (h1:it∈X.ex∨X.s₀.heap.objs.size≤it) (h2: ∀ x c,X.env.cells.lookup x=some c→c≠it) (h3: ∀ p∈X.pn++pZ,p.1≠it):Inv X pZ σ H {s with heap:=h',toks:=t'}:=by
 have nit: ∀ b u,H b=some u→b≠it:=fun b u e z=>by rw[z,hn] at e;cases e
 refine I.step (g':=s.gens) (d':=s.drawn) (ch:=[it]) (fun b hb=>?_) (fun b o _ _ hc e _=>k b o (fun z=>hc (by simp[z])) e) (fun b o _ _ hc e _=>⟨o.slots,k b o (fun z=>hc (by simp[z])) e⟩) (fun _ _ _ _ n=>n)
  (fun b o hc e=>⟨o,k b o (fun z=>hc (by simp[z])) e⟩) (fun _ _ e=>e) (fun _ _ _ e=>e) (fun b ps e=>⟨#[],by rw[e];simp⟩) (fun m hm=>?_) (fun b u e=>?_) I.bare
 ·have e:b=it:=by simpa using hb
  subst e
  exact⟨h1,hL,h2,h3⟩
 ·obtain⟨o,es,ep,ho,r⟩:=hm
  exact⟨o,es,ep,k _ o (Ne.symm hL) ho,r⟩
 ·refine(I.hok b u e).stay (fun c v hc q=>k c v ?_ q) (fun _ q=>q) fun _ _ q=>q
  rcases hc with z|z
  ·rw[z];exact nit b u e
  ·exact nit c _ z
theorem Inv.tok (I:Inv X pZ σ H s) (t:Nat):Inv X pZ σ H {s with toks:=t}:=I.un (h':=s.heap) (t':=t) Un.refl I.hok
theorem Inv.kept (I:Inv X pZ σ H s) (k: ∀ b u,s.heap.get? b=some u→h'.get? b=some u):Inv X pZ σ H {s with heap:=h',toks:=t'}:=I.un (Un.kept k) (I.hok.kept k)
theorem Inv.laid (I:Inv X pZ σ H s) (k: ∀ b u,s.heap.get? b=some u→h'.get? b=some u) (hp:s.heap.objs.size≤a) (new:ObjOk X.prog X.w (upd H a o) h' a o):
  Inv X pZ σ (upd H a o) {s with heap:=h',toks:=t'}:=I.un (Un.laid k hp (I.hok.fresh hp)) (I.hok.laid k hp new)
theorem Inv.write (I:Inv X pZ σ H s) (mu:Mut (H x)) (he:e=x∨H e=some (.own x)) (k: ∀ b u,b≠e→s.heap.get? b=some u→h'.get? b=some u) (heo: ∃ u,h'.get? e=some u)
  (new:ObjOk X.prog X.w (upd H x o) h' x o):Inv X pZ σ (upd H x o) {s with heap:=h',toks:=t'}:=I.un (Un.write mu he k heo) (I.hok.write mu he k heo new)
theorem Inv.pins_of (I:Inv X pZ σ H s) (h: ∀ p∈pins',s.heap.get? p.1=some p.2∧H p.1=none∧p.1≠X.env.locals∧p.1∉X.fs∧∀ v,p.2.data≠.cell v):Inv X pins' σ H s:=
 ⟨I.ok,I.os,I.bare,I.base,I.loc,I.cell,I.free,I.freeC,fun p hp=>(List.mem_append.mp hp).elim (fun z=>I.pin p (List.mem_append_left _ z)) (h p),I.hok,I.len⟩
theorem nodup_ix {N:List Str} (hN:N.Nodup) {i j:Nat} (a:N[i]?=some x) (b:N[j]?=some x):i=j:=by
 obtain⟨h1,e1⟩:=List.getElem?_eq_some_iff.mp a
 obtain⟨h2,e2⟩:=List.getElem?_eq_some_iff.mp b
 exact(List.getElem_inj hN).mp (e1.trans e2.symm)
theorem store_ok2 {i:Nat} {Q:Unit→Shared→Prop} (I:Inv X pZ σ H s) (hN:X.N.Nodup) (hi:X.N[i]?=some x) (hx:Loc X.env.scope x) (r:RelV v u)
  (h: ∀ s',Inv X pZ (σ.set i (some v)) H s'→(∃ a,Heap.SameBut a s.heap s'.heap∧(a=X.env.locals∨X.env.cells.lookup x=some a))→Q () s') (hf:X.fn x=true∨X.env.scope.names.lookup x=some .local:=by first|exact .inl rfl|exact .inr rfl|assumption):wpAny M A (storeName X.env x u) Q E s:=by
 obtain⟨m,hn,hl⟩:=id I.loc
 have hcls:(X.env.scope.kind== .class||(X.env.scope.kind== .module&&X.env.locals !=X.env.globals))=false:=by rw[I.ok.kind];rfl
 have hiσ:i < σ.length:=by rw[I.len];exact(List.getElem?_eq_some_iff.mp hi).1
 have cne:=I.cne
 have tracked: ∀ {a:Addr} {h':Heap},(∃ o,s.heap.get? a=some o∧H a=none)→Heap.SameBut a s.heap h'→HOk X.prog X.w H h':=fun {a h'} ha hs b ob e=>by
  obtain⟨_,_,hfree⟩:=ha
  refine(I.hok b ob e).stay (fun c w' hc q=>(hs.2 c ?_).trans q) (fun _ q=>q) fun _ _ q=>q
  rintro rfl
  rcases hc with rfl|hc
  ·rw[hfree] at e;cases e
  ·rw[hfree] at hc;cases hc
 rcases hx with hk|hk
 ·refine wpAny_storeName_local hk hn (fun h' hn' hs=>?_) hcls
  obtain⟨oL,_,_,hoL,_⟩:=id hn
  refine h _ ⟨I.ok,I.os,I.bare,⟨fun b o e n hb hx=>?_,fun b o e n hb hx=>?_,I.base.free,fun b o e hx=>?_,I.base.tups,I.base.frzs,I.base.tbls⟩,⟨_,hn',fun j y v' e1 e2 e3=>?_⟩,fun y c e=>?_,I.free,I.freeC,fun p hp=>?_,tracked ⟨oL,hoL,I.free⟩ hs,by simpa using I.len⟩ ⟨_,hs,.inl rfl⟩
  ·exact(hs.2 b (Nat.ne_of_lt (Nat.lt_of_lt_of_le (Heap.lt_size e) I.ok.above))).trans (I.base.keep b o e n hb hx)
  ·obtain⟨sl,e1⟩:=I.base.slot b o e n hb hx
   exact⟨sl,(hs.2 b (Nat.ne_of_lt (Nat.lt_of_lt_of_le (Heap.lt_size e) I.ok.above))).trans e1⟩
  ·obtain⟨o',e1⟩:=I.base.there b o e hx
   exact⟨o',(hs.2 b (Nat.ne_of_lt (Nat.lt_of_lt_of_le (Heap.lt_size e) I.ok.above))).trans e1⟩
  ·by_cases hj:j=i
   ·subst hj
    rw[hi] at e1;cases e1
    rw[List.getElem?_set_self hiσ] at e2
    cases e2
    exact⟨u,r,.inl ⟨hk,by simp⟩⟩
   ·rw[List.getElem?_set_ne (Ne.symm hj)] at e2
    obtain⟨u',r',q⟩:=hl j y v' e1 e2 e3
    refine⟨u',r',?_⟩
    rcases q with⟨k,e⟩|⟨k,c,e,z⟩
    ·refine .inl ⟨k,?_⟩
     have:y≠x:=fun e=>hj (nodup_ix hN e1 (e▸hi))
     simp[this,e]
    ·exact .inr ⟨k,c,e,z.sameBut hs (cne y c e)⟩
  ·obtain⟨w',z⟩:=I.cell y c e
   exact⟨w',z.sameBut hs (cne y c e)⟩
  ·obtain⟨e,n,ne,nf,d⟩:=I.pin p hp
   exact⟨(hs.2 p.1 ne).trans e,n,ne,nf,d⟩
 ·have hfn:X.fn x=true:=by
   rcases hf with z|z
   ·exact z
   ·rw[z] at hk;cases hk
  obtain⟨c,hc⟩:=I.ok.has x (.inl hk)
  obtain⟨w',z⟩:=I.cell x c hc
  refine wpAny_storeName_cell I.ok.kind hk hc z (fun h' hc' hs=>?_)
  obtain⟨oc,hoc,hocd⟩:=id z
  refine h {s with heap:=h'} ⟨I.ok,I.os,I.bare,⟨fun b o e n hb hx=>?_,fun b o e n hb hx=>?_,I.base.free,fun b o e hx=>?_,I.base.tups,I.base.frzs,I.base.tbls⟩,⟨m,hn.sameBut hs (Ne.symm (cne x c hc)),fun j y v' e1 e2 e3=>?_⟩,fun y c' e=>?_,I.free,I.freeC,fun p hp=>?_,tracked ⟨oc,hoc,I.freeC x c hc⟩ hs,by simpa using I.len⟩ ⟨c,hs,.inr hc⟩
  ·exact(hs.2 b (Nat.ne_of_lt (Nat.lt_of_lt_of_le (Heap.lt_size e) (I.ok.cab x c hfn hc)))).trans (I.base.keep b o e n hb hx)
  ·obtain⟨sl,e1⟩:=I.base.slot b o e n hb hx
   exact⟨sl,(hs.2 b (Nat.ne_of_lt (Nat.lt_of_lt_of_le (Heap.lt_size e) (I.ok.cab x c hfn hc)))).trans e1⟩
  ·obtain⟨o',e1⟩:=I.base.there b o e hx
   exact⟨o',(hs.2 b (Nat.ne_of_lt (Nat.lt_of_lt_of_le (Heap.lt_size e) (I.ok.cab x c hfn hc)))).trans e1⟩
  ·by_cases hj:j=i
   ·subst hj
    rw[hi] at e1;cases e1
    rw[List.getElem?_set_self hiσ] at e2
    cases e2
    exact⟨u,r,.inr ⟨.inl hk,c,hc,hc'⟩⟩
   ·rw[List.getElem?_set_ne (Ne.symm hj)] at e2
    obtain⟨u',r',q⟩:=hl j y v' e1 e2 e3
    refine⟨u',r',?_⟩
    rcases q with q|⟨k,c',e,z'⟩
    ·exact .inl q
    ·refine .inr ⟨k,c',e,z'.sameBut hs ?_⟩
     rintro rfl
     exact hj (nodup_ix hN e1 (I.ok.inj _ _ _ e hc▸hi))
  ·by_cases hcc:c'=c
   ·subst hcc;exact⟨_,hc'⟩
   ·obtain⟨w2,z2⟩:=I.cell y c' e
    exact⟨w2,z2.sameBut hs hcc⟩
  ·obtain⟨e,n,ne,nf,d⟩:=I.pin p hp
   refine⟨(hs.2 p.1 ?_).trans e,n,ne,nf,d⟩
   intro q
   rw[q,hoc] at e
   have q':oc=p.2:=Option.some.inj e
   exact d w' (by rw[←q'];exact hocd)
theorem store_ok (I:Inv X pZ σ H s) (hN:X.N.Nodup) (hi:X.N[i]?=some x) (hx:Loc X.env.scope x) (r:RelV v u)
  (h: ∀ s',Inv X pZ (σ.set i (some v)) H s'→Q () s') (hf:X.fn x=true∨X.env.scope.names.lookup x=some .local:=by first|exact .inl rfl|exact .inr rfl|assumption):wpAny M A (storeName X.env x u) Q E s:=
 store_ok2 I hN hi hx r (fun s' I' _=>h s' I') hf
theorem Inv.call' (I:Inv X pZ σ H s) (ho:s'.os=s.os) (u:Un (frs X.stack) ch H H' s.heap s'.heap) (hok:HOk X.prog X.w H' s'.heap) (hg:AllBare s'.gens)
  (hch: ∀ b∈ch,(b∈X.ex∨X.s₀.heap.objs.size≤b)∧b≠X.env.locals∧(∀ x c,X.env.cells.lookup x=some c→c≠b)∧∀ p∈X.pn++pZ,p.1≠b):Inv X pZ σ H' s':=by
 obtain⟨h',g',d',t',o'⟩:=s'
 have e:o'=s.os:=ho
 subst e
 exact I.call (g':=g') (t':=t') (d':=d') u hok hg hch
end
abbrev XK:=Value→Option Addr→Hp→Prop
abbrev St:=List (Option V)
abbrev VK:=V→Hp→Prop
abbrev TE:=St→Hp→VK→Prop
abbrev TT:=St→Hp→(Bool→Hp→Prop)→Prop
abbrev TA:=St→Hp→(List V→Hp→Prop)→Prop
structure Ends where
 nx:St→Hp→Prop
 rt:VK
 bk:St→Hp→Prop:=fun _ _=>False
 ct:St→Hp→Prop:=fun _ _=>False
abbrev TS:=Ends→St→Hp→Prop
def EP (X:Cx) (pZ:List (Addr×Obj)) (σ:St) (Q:VK) (u:Value) (s':Shared):Prop:= ∃ v H',Inv X pZ σ H' s'∧RelV v u∧Q v H'
def TP (X:Cx) (pZ:List (Addr×Obj)) (σ:St) (Q:Bool→Hp→Prop) (b:Bool) (s':Shared):Prop:= ∃ H',Inv X pZ σ H' s'∧Q b H'
def AP (X:Cx) (pZ:List (Addr×Obj)) (σ:St) (Q:List V→Hp→Prop) (us:List Value) (s':Shared):Prop:= ∃ vs H',Inv X pZ σ H' s'∧Vals vs us∧Q vs H'
def SP (X:Cx) (pZ:List (Addr×Obj)) (D:Ends) (f:Flow) (s':Shared):Prop:=
 match f with
 | .next=> ∃ σ' H',Inv X pZ σ' H' s'∧D.nx σ' H'
 | .brk=> ∃ σ' H',Inv X pZ σ' H' s'∧D.bk σ' H'
 | .cont=> ∃ σ' H',Inv X pZ σ' H' s'∧D.ct σ' H'
 | .ret u=> ∃ v σ' H',Inv X pZ σ' H' s'∧RelV v u∧D.rt v H'
def PE (X:Cx) (e:Expr) (t:TE):Prop:=
 ∀ (pZ:List (Addr×Obj)) (s:Shared) (σ:St) (H:Hp) (Q:VK),Inv X pZ σ H s→t σ H Q→wpAny (model X.prog X.w) X.A (eval e X.env) (EP X pZ σ Q) X.xe s
def PT (X:Cx) (e:Expr) (t:TT):Prop:=
 ∀ (pZ:List (Addr×Obj)) (s:Shared) (σ:St) (H:Hp) (Q:Bool→Hp→Prop),Inv X pZ σ H s→t σ H Q→wpAny (model X.prog X.w) X.A (isTrue e X.env (eval e X.env)) (TP X pZ σ Q) X.xe s
def PW (X:Cx) (e:Expr) (t:TT):Prop:=
 ∀ (whole:Sem Value) (pZ:List (Addr×Obj)) (s:Shared) (σ:St) (H:Hp) (Q:Bool→Hp→Prop),Inv X pZ σ H s→t σ H Q→wpAny (model X.prog X.w) X.A (isTrue e X.env whole) (TP X pZ σ Q) X.xe s
theorem PW.pt (h:PW X e t):PT X e t:=h _
def PA (X:Cx) (es:List Expr) (t:TA):Prop:=
 ∀ (pos:Pos) (pZ:List (Addr×Obj)) (s:Shared) (σ:St) (H:Hp) (Q:List V→Hp→Prop),Inv X pZ σ H s→t σ H Q→wpAny (model X.prog X.w) X.A (spliced (backTo pos (starEach es X.env))) (AP X pZ σ Q) X.xe s
def PS (X:Cx) (st:Stmt) (t:TS):Prop:=
 ∀ (pZ:List (Addr×Obj)) (s:Shared) (σ:St) (H:Hp) (D:Ends),Inv X pZ σ H s→t D σ H→wpAny (model X.prog X.w) X.A (exec st X.env) (SP X pZ D) X.xe s
def PSs (X:Cx) (st:List Stmt) (t:TS):Prop:=
 ∀ (pZ:List (Addr×Obj)) (s:Shared) (σ:St) (H:Hp) (D:Ends),Inv X pZ σ H s→t D σ H→wpAny (model X.prog X.w) X.A (execs st X.env) (SP X pZ D) X.xe s
theorem thn (h:wpAny M A t Q E s) (hQ: ∀ a s,Q a s→Q' a s):wpAny M A t Q' E s:=wpAny_mono h hQ fun _ _ x=>x
end L2
namespace L2
open PySem PySem.Spec PyProof.Rows
section
variable {X:Cx}
def tVar (i:Nat):TE:=fun σ H Q=> ∃ v,σ[i]?=some (some v)∧Q v H
def tC (v:V):TE:=fun _ H Q=>Q v H
theorem pe_var (hN:X.N[i]?=some x) (hv:Vis X.env.scope x) (hd:(x==("__debug__":Str))=false:=by decide) (hcd:(x==("__classdict__":Str))=false:=by decide):PE X (.Name x pos) (tVar i):=by
 intro pZ s σ H Q I h
 obtain⟨v,e,h⟩:=h
 obtain⟨m,hn,hl⟩:=I.loc
 obtain⟨u,r,l⟩:=hl i x v hN e hv
 have fin:EP X pZ σ Q u s:=⟨v,H,I,r,h⟩
 rcases l with⟨hk,hm⟩|⟨hk,c,hc,hcell⟩
 ·exact wpAny_Name (wpAny_loadName_local I.ok.kind hk hn hm fin) hd
 ·rcases hk with hk|hk
  ·exact wpAny_Name (wpAny_loadName_cell I.ok.kind hk hc hcell fin) hd
  ·exact wpAny_Name (wpAny_loadName_free I.ok.kind hk hc hcell fin hcd) hd
theorem pe_int {i j pos}:PE X (.Constant (.int i) j pos) (tC (.int i)):=fun _ _ _ H _ I h=>wpAny_Constant_int ⟨.int i,H,I.tok _,⟨_,rfl⟩,h⟩
theorem pe_bl {b j pos}:PE X (.Constant (.bool b) j pos) (tC (.bl b)):=fun _ _ _ H _ I h=>Constant_bool ⟨.bl b,H,I,rfl,h⟩
theorem pe_non {j pos}:PE X (.Constant .none j pos) (tC .non):=fun _ _ _ H _ I h=>Constant_none ⟨.non,H,I,rfl,h⟩
theorem pe_str {x j pos}:PE X (.Constant (.str x) j pos) (tC (.str x)):=fun _ _ _ H _ I h=>Calls.Constant_str ⟨.str x,H,I.tok _,⟨_,rfl⟩,h⟩
def Gl (X:Cx) (x:Str):Prop:=X.env.kindOf x=some .globalImplicit
theorem ld_glob (I:Inv X pZ σ H s) (hg:Gl X x) (hm:X.mg x=some u) (h:Q u s)
  (hd:(x==("__debug__":Str))=false:=by decide):wpAny (model X.prog X.w) X.A (eval (.Name x pos) X.env) Q E s:=
 Calls.Name_function_global I.ok.kind hg (Calls.loadGlobal_global (by rw[I.ok.glob];exact I.mod.glob.keeps I.bk) hm h) hd
theorem ld_blt (I:Inv X pZ σ H s) (hg:Gl X x) (hm:X.mg x=none) (hv:bootBuiltins x=some u) (h:Q u s)
  (hn:x≠"__name__":=by decide) (hd:(x==("__debug__":Str))=false:=by decide):wpAny (model X.prog X.w) X.A (eval (.Name x pos) X.env) Q E s:=by
 obtain⟨mb,h1,h2⟩:=I.mod.blt
 exact Calls.Name_function_global I.ok.kind hg (Calls.loadGlobal_builtin (by rw[I.ok.glob];exact I.mod.glob.keeps I.bk) hm (by rw[I.ok.blt];exact h1.keeps I.bk) ((h2 x hn).trans hv) h) hd
theorem pe_glob (hg:Gl X x) (hm:X.mg x=some u) (r:RelV v u) (hd:(x==("__debug__":Str))=false:=by decide):PE X (.Name x pos) (tC v):=
 fun _ _ _ H _ I h=>ld_glob I hg hm ⟨v,H,I,r,h⟩ hd
theorem pe_bltn (hg:Gl X x) (hm:X.mg x=none) (hv:bootBuiltins x=some u) (r:RelV v u) (hn:x≠"__name__":=by decide) (hd:(x==("__debug__":Str))=false:=by decide):PE X (.Name x pos) (tC v):=
 fun _ _ _ H _ I h=>ld_blt I hg hm hv ⟨v,H,I,r,h⟩ hn hd
variable {a b:Expr} {ta tb:TE} {pos:Pos}
def tB (t:TE):TT:=fun σ H Q=>t σ H fun x H1=> ∃ c,x= .bl c∧Q c H1
theorem pt_val (h:PE X e t) (he: ∀ whole,isTrue e X.env whole=(do let v ←whole;standAt e.pos;holding [v] (truthy v)):=by intro _;rfl):PT X e (tB t):=by
 intro pZ s σ H Q I hw
 refine isTrue_plain (thn (h pZ s σ H _ I hw) fun v s1 ⟨x,H1,I1,r1,q1⟩=>?_) (he _)
 obtain⟨d,rfl,q⟩:=q1
 cases r1
 exact wpAny_truthy_bool ⟨H1,I1,q⟩
variable {tA tB':TT} {rest:List Expr}
def tAnd (t u:TT):TT:=fun σ H Q=>t σ H fun c H1=>if c=true then u σ H1 Q else Q false H1
def tOr (t u:TT):TT:=fun σ H Q=>t σ H fun c H1=>if c=true then Q true H1 else u σ H1 Q
def tNot (t:TT):TT:=fun σ H Q=>t σ H fun c H1=>Q (!c) H1
theorem pw_and1 (ha:PT X a tA):PW X (.BoolOp .And [a] pos) tA:=by
 intro wh pZ s σ H Q I h
 refine isTrue_and (thn (ha pZ s σ H Q I h) fun c s1 e=>?_)
 cases c with
 |true=>exact isTrue_and_nil e
 |false=>exact e
theorem pw_or1 (ha:PT X a tA):PW X (.BoolOp .Or [a] pos) tA:=by
 intro wh pZ s σ H Q I h
 refine isTrue_or (thn (ha pZ s σ H Q I h) fun c s1 e=>?_)
 cases c with
 |false=>exact isTrue_or_nil e
 |true=>exact e
theorem pw_and (ha:PT X a tA) (hb:PW X (.BoolOp .And (b::rest) pos) tB'):PW X (.BoolOp .And (a::b::rest) pos) (tAnd tA tB'):=by
 intro wh pZ s σ H Q I h
 refine isTrue_and (thn (ha pZ s σ H _ I h) fun c s1 ⟨H1,I1,q1⟩=>?_)
 cases c with
 |true=>exact hb wh pZ s1 σ H1 Q I1 q1
 |false=>exact⟨H1,I1,q1⟩
theorem pw_or (ha:PT X a tA) (hb:PW X (.BoolOp .Or (b::rest) pos) tB'):PW X (.BoolOp .Or (a::b::rest) pos) (tOr tA tB'):=by
 intro wh pZ s σ H Q I h
 refine isTrue_or (thn (ha pZ s σ H _ I h) fun c s1 ⟨H1,I1,q1⟩=>?_)
 cases c with
 |true=>exact⟨H1,I1,q1⟩
 |false=>exact hb wh pZ s1 σ H1 Q I1 q1
theorem pt_not (ha:PT X a tA):PT X (.UnaryOp .Not a pos) (tNot tA):=by
 intro pZ s σ H Q I h
 exact isTrue_not (ha pZ s σ H (fun c H1=>Q (!c) H1) I h)
def tAndV (ta tb:TE):TE:=fun σ H Q=>ta σ H fun x H1=> ∃ c,x= .bl c∧if c=true then tb σ H1 Q else Q (.bl false) H1
def tNotV (ta:TE):TE:=fun σ H Q=>ta σ H fun x H1=> ∃ c,x= .bl c∧Q (.bl (!c)) H1
theorem pe_one {op} (h:PE X a t):PE X (.BoolOp op [a] pos) t:=fun pZ s σ H Q I hw=>BoolOp_one (h pZ s σ H Q I hw)
theorem pe_and (ha:PE X a ta) (hb:PE X (.BoolOp .And (b::rest) pos) tb):PE X (.BoolOp .And (a::b::rest) pos) (tAndV ta tb):=by
 intro pZ s σ H Q I h
 refine BoolOp_and (thn (ha pZ s σ H _ I h) fun v s1 ⟨x,H1,I1,r1,q1⟩=>?_)
 obtain⟨c,rfl,q1⟩:=q1
 cases r1
 refine wpAny_truthy_bool ?_
 cases c with
 |true=>exact hb pZ s1 σ H1 Q I1 q1
 |false=>exact⟨.bl false,H1,I1,rfl,q1⟩
theorem pe_not (ha:PE X a ta):PE X (.UnaryOp .Not a pos) (tNotV ta):=by
 intro pZ s σ H Q I h
 refine UnaryOp_ (thn (ha pZ s σ H _ I h) fun v s1 ⟨x,H1,I1,r1,q1⟩=>?_)
 obtain⟨c,rfl,q1⟩:=q1
 cases r1
 exact not_of (wpAny_truthy_bool ⟨.bl (!c),H1,I1,rfl,q1⟩)
def tIf (t:TT) (ta tb:TE):TE:=fun σ H Q=>t σ H fun c H1=>if c=true then ta σ H1 Q else tb σ H1 Q
theorem pe_ifExp (hc:PT X c tA) (ha:PE X a ta) (hb:PE X b tb):PE X (.IfExp c a b pos) (tIf tA ta tb):=by
 intro pZ s σ H Q I h
 refine wpAny_IfExp (thn (hc pZ s σ H _ I h) fun d s1 ⟨H1,I1,q1⟩=>?_)
 cases d with
 |true=>exact ha pZ s1 σ H1 Q I1 q1
 |false=>exact hb pZ s1 σ H1 Q I1 q1
end
end L2
namespace L2
open PySem PySem.Spec PyProof.Rows
def SqL (K:PySem.W.Frag) (H:Hp) (a:Addr) (xs:List V):Prop:=
 Rd H a (.lst xs)∨
  ∃ (o:Obj) (its:Array Value) (n:Nat),K.lookup a=some o∧o.cls= .type "list"∧o.dict=none∧o.data= .seq its n∧its.size≤sizeLine∧Vals xs its.toList
def SqT (K:PySem.W.Frag) (H:Hp) (a:Addr) (xs:List V):Prop:=
 Rd H a (.tup xs)∨
  ∃ (o:Obj) (its:Array Value) (n:Nat),K.lookup a=some o∧o.cls= .type "tuple"∧o.data= .seq its n∧its.size≤sizeLine∧Vals xs its.toList
noncomputable def absV:Value→Option V
 | .none=>some .non
 | .bool b=>some (.bl b)
 | .int i _=>some (.int i)
 | .str x _=>some (.str x)
 | .bytes b _=>some (.byt b)
 | .float b _=>some (.flt b)
 | .ref a=>some (.ref a)
 | .type n=>some (.ty n)
 |_=>none
theorem RelV.abs (r:RelV x u):absV u=some x:=by
 cases x with
 |non=>cases r;rfl
 |bl _=>cases r;rfl
 |int _=>obtain⟨t,rfl⟩:=r;rfl
 |str _=>obtain⟨t,rfl⟩:=r;rfl
 |byt _=>obtain⟨t,rfl⟩:=r;rfl
 |flt _=>obtain⟨t,rfl⟩:=r;rfl
 |ref _=>cases r;rfl
 |ty _=>cases r;rfl
theorem RelV.inj (r:RelV x u) (q:RelV y u):x=y:=Option.some.inj (r.abs.symm.trans q.abs)
theorem Vals.inj: ∀ {xs ys:List V} {us:List Value},Vals xs us→Vals ys us→xs=ys
 |_,_,_,.nil,.nil=>rfl
 |_,_,_,.cons r t,.cons r' t'=>by rw[r.inj r',Vals.inj t t']
section
variable {X:Cx} {pZ:List (Addr×Obj)} {σ:St} {H:Hp} {s:Shared} {a:Addr} {xs ys:List V}
theorem SqL.of {K:PySem.W.Frag} (h:H a=some (.lst xs)):SqL K H a xs:=.inl (.inl h)
theorem SqT.of {K:PySem.W.Frag} (h:H a=some (.tup xs)):SqT K H a xs:=.inl (.inl h)
theorem Inv.list (I:Inv X pZ σ H s) (h:SqL X.K H a xs): ∃ its:List Value,Vals xs its∧PlainL s.heap a its.toArray∧xs.length≤sizeLine:=by
 rcases h with h|⟨o,its,n,hk,hc,hd,hs,hz,r⟩
 ·obtain⟨z,its,n,r,e⟩:=h.ok I.hok
  exact⟨its,r,⟨_,n,e,rfl,rfl,rfl⟩,z⟩
 ·refine⟨its.toList,r,⟨o,n,I.kIn a o hk,hc,hd,by simpa using hs⟩,?_⟩
  have e:=r.length
  simp only[Array.length_toList] at e
  lia
theorem Inv.tuple (I:Inv X pZ σ H s) (h:SqT X.K H a xs): ∃ its:List Value,Vals xs its∧IsTup s.heap a its.toArray∧xs.length≤sizeLine:=by
 rcases h with h|⟨o,its,n,hk,hc,hs,hz,r⟩
 ·obtain⟨z,its,r,p⟩:=h.ok I.hok
  exact⟨its,r,p,z⟩
 ·refine⟨its.toList,r,⟨o,I.kIn a o hk,hc,n,by simpa using hs⟩,?_⟩
  have e:=r.length
  simp only[Array.length_toList] at e
  lia
theorem Inv.list_inj (I:Inv X pZ σ H s) (h:SqL X.K H a xs) (h':SqL X.K H a ys):xs=ys:=by
 obtain⟨its,r,⟨o,n,e,_,_,d⟩,_⟩:=I.list h
 obtain⟨its',r',⟨o',n',e',_,_,d'⟩,_⟩:=I.list h'
 rw[e] at e';cases e'
 rw[d] at d'
 injection d' with d1 _
 have:its=its':=by simpa using congrArg Array.toList d1
 subst this
 exact r.inj r'
theorem Inv.tuple_inj (I:Inv X pZ σ H s) (h:SqT X.K H a xs) (h':SqT X.K H a ys):xs=ys:=by
 obtain⟨its,r,⟨o,e,_,n,d⟩,_⟩:=I.tuple h
 obtain⟨its',r',⟨o',e',_,n',d'⟩,_⟩:=I.tuple h'
 rw[e] at e';cases e'
 rw[d] at d'
 injection d' with d1 _
 have:its=its':=by simpa using congrArg Array.toList d1
 subst this
 exact r.inj r'
end
abbrev Cx.wish (X:Cx) (E:Value→Shared→Prop):Cx:={X with xe:=E}
abbrev Cx.nox (X:Cx):Cx:=X.wish fun _ _=>False
theorem Cx.Ok.wish {X:Cx} (ok:X.Ok) (E:Value→Shared→Prop):(X.wish E).Ok:=
 ⟨ok.mod,ok.kind,ok.glob,ok.blt,ok.above,ok.inj,ok.has,ok.cab,ok.hd,ok.frames,ok.stk,ok.exf,ok.bs,ok.bsz,ok.noex,ok.exfs,ok.funs,ok.frf⟩
theorem Cx.Ok.unwish {X:Cx} (ok:(X.wish E).Ok):X.Ok:=
 ⟨ok.mod,ok.kind,ok.glob,ok.blt,ok.above,ok.inj,ok.has,ok.cab,ok.hd,ok.frames,ok.stk,ok.exf,ok.bs,ok.bsz,ok.noex,ok.exfs,ok.funs,ok.frf⟩
section
variable {X:Cx} {pZ:List (Addr×Obj)} {σ:St} {H:Hp} {s:Shared} {E:Value→Shared→Prop}
theorem Inv.wish (I:Inv X pZ σ H s) (E:Value→Shared→Prop):Inv (X.wish E) pZ σ H s:=⟨I.ok.wish E,I.os,I.bare,I.base,I.loc,I.cell,I.free,I.freeC,I.pin,I.hok,I.len⟩
theorem Inv.unwish (I:Inv (X.wish E) pZ σ H s):Inv X pZ σ H s:=⟨I.ok.unwish,I.os,I.bare,I.base,I.loc,I.cell,I.free,I.freeC,I.pin,I.hok,I.len⟩
theorem SP.unwish (h:SP (X.wish E) pZ D f s'):SP X pZ D f s':=by
 cases f with
 |next=>obtain⟨σ',H',I,q⟩:=h;exact⟨σ',H',I.unwish,q⟩
 |brk=>obtain⟨σ',H',I,q⟩:=h;exact⟨σ',H',I.unwish,q⟩
 |cont=>obtain⟨σ',H',I,q⟩:=h;exact⟨σ',H',I.unwish,q⟩
 |ret u=>obtain⟨v,σ',H',I,r,q⟩:=h;exact⟨v,σ',H',I.unwish,r,q⟩
theorem PE.nox (h:PE X.nox e t):PE X e t:=fun pZ s σ H Q I hw=>
 wpAny_mono (h pZ s σ H Q (I.wish _) hw) (fun _ _ ⟨v,H',I',r,q⟩=>⟨v,H',I'.unwish,r,q⟩) fun _ _ z=>False.elim z
theorem PSs.nox {st:List Stmt} {t:TS} (h:PSs X.nox st t):PSs X st t:=fun pZ s σ H D I hw=>
 wpAny_mono (h pZ s σ H D (I.wish _) hw) (fun _ _ q=>q.unwish) fun _ _ z=>False.elim z
end
section
variable {X:Cx} {st:Stmt} {rest:List Stmt} {t u:TS} {e:Expr} {te:TE} {pos:Pos}
def tNext:TS:=fun D σ H=>D.nx σ H
def tSeq (t u:TS):TS:=fun D σ H=>t {D with nx:=u D} σ H
theorem pss_nil:PSs X [] tNext:=fun _ _ σ H _ I h=>wpAny_execs_nil ⟨σ,H,I,h⟩
theorem pss_cons (h1:PS X st t) (h2:PSs X rest u):PSs X (st::rest) (tSeq t u):=by
 intro pZ s σ H D I h
 refine wpAny_execs_cons (thn (h1 pZ s σ H {D with nx:=u D} I h) fun f s1 q=>?_)
 cases f with
 |next=>
  obtain⟨σ',H',I',q⟩:=q
  exact h2 pZ s1 σ' H' D I' q
 |ret v=>exact q
 |brk=>exact q
 |cont=>exact q
theorem pss_one (h1:PS X st t):PSs X [st] t:=by
 intro pZ s σ H D I h
 refine wpAny_execs_cons (thn (h1 pZ s σ H D I h) fun f s1 q=>?_)
 cases f with
 |next=>exact wpAny_execs_nil q
 |ret v=>exact q
 |brk=>exact q
 |cont=>exact q
theorem Inv.quiet (I:Inv X pZ σ H s):interactive X.env=false:=by simp[interactive,I.ok.kind]
def tDrop (te:TE):TS:=fun D σ H=>te σ H fun _ H1=>D.nx σ H1
theorem ps_expr (he:PE X e te) (hs:swapsWith e none pos.line X.env=pure false:=by rfl):PS X (.Expr e pos) (tDrop te):=by
 intro pZ s σ H D I h
 exact wpAny_Expr_any (thn (he pZ s σ H _ I h) fun v s1 ⟨x,H1,I1,r1,q1⟩=>⟨σ,H1,I1,q1⟩) I.quiet hs
def tRet (te:TE):TS:=fun D σ H=>te σ H D.rt
theorem ps_ret (he:PE X e te):PS X (.Return (some e) pos) (tRet te):=by
 intro pZ s σ H D I h
 exact wpAny_Return_some (thn (he pZ s σ H _ I h) fun v s1 ⟨x,H1,I1,r1,q1⟩=>⟨x,σ,H1,I1,r1,q1⟩)
def tIfS (c:TT) (t u:TS):TS:=fun D σ H=>c σ H fun b H1=>if b=true then t D σ H1 else u D σ H1
theorem ps_if (hc:PT X c tc) (ha:PSs X a t) (hb:PSs X b u):PS X (.If c a b pos) (tIfS tc t u):=by
 intro pZ s σ H D I h
 refine wpAny_If (thn (hc pZ s σ H _ I h) fun d s1 ⟨H1,I1,q1⟩=>?_)
 cases d with
 |true=>exact ha pZ s1 σ H1 D I1 q1
 |false=>exact hb pZ s1 σ H1 D I1 q1
end
abbrev TG:=V→St→Hp→(St→Hp→Prop)→Prop
abbrev TGs:=List V→St→Hp→(St→Hp→Prop)→Prop
def PG (X:Cx) (target:Expr) (t:TG):Prop:=
 ∀ (pZ:List (Addr×Obj)) (s:Shared) (σ:St) (H:Hp) (v:V) (u:Value) (Q:St→Hp→Prop),Inv X pZ σ H s→RelV v u→t v σ H Q→
  wpAny (model X.prog X.w) X.A (assign target X.env u) (fun _ s'=> ∃ σ' H',Inv X pZ σ' H' s'∧Q σ' H') X.xe s
def PGs (X:Cx) (ts:List Expr) (t:TGs):Prop:=
 ∀ (pZ:List (Addr×Obj)) (s:Shared) (σ:St) (H:Hp) (vs:List V) (us:List Value) (Q:St→Hp→Prop),Inv X pZ σ H s→Vals vs us→t vs σ H Q→
  wpAny (model X.prog X.w) X.A (assignInOrder ((assignEach ts X.env).map (·.2)) us) (fun _ s'=> ∃ σ' H',Inv X pZ σ' H' s'∧Q σ' H') X.xe s
abbrev TSet:=V→V→V→Hp→(Hp→Prop)→Prop
def PSet (X:Cx) (t:TSet):Prop:=
 ∀ (pZ:List (Addr×Obj)) (s:Shared) (σ:St) (H:Hp) (o i v:V) (ov iv u:Value) (Q:Hp→Prop),Inv X pZ σ H s→RelV o ov→RelV i iv→RelV v u→t o i v H Q→
  wpAny (model X.prog X.w) X.A (setItem ov iv u) (fun _ s'=> ∃ H',Inv X pZ σ H' s'∧Q H') X.xe s
section
variable {X:Cx} {pos:Pos}
def gName (i:Nat):TG:=fun v σ H Q=>Q (σ.set i (some v)) H
theorem pg_name (hN:X.N.Nodup) (hi:X.N[i]?=some x) (hx:Loc X.env.scope x) (hf:X.fn x=true∨X.env.scope.names.lookup x=some .local:=by first|exact .inl rfl|exact .inr rfl|assumption):PG X (.Name x pos) (gName i):=by
 intro pZ s σ H v u Q I r h
 exact wpAny_assign_Name (store_ok I hN hi hx r (fun s' I'=>⟨_,H,I',h⟩) hf)
def gNil:TGs:=fun vs σ H Q=>vs=[]∧Q σ H
def gCons (t:TG) (u:TGs):TGs:=fun vs σ H Q=> ∃ v r,vs=v::r∧t v σ H fun σ' H'=>u r σ' H' Q
theorem pgs_nil:PGs X [] gNil:=by
 intro pZ s σ H vs us Q I r h
 obtain⟨e,h⟩:=h
 subst e
 cases r
 exact assignInOrder_nil ⟨σ,H,I,h⟩
theorem pgs_cons (h1:PG X e t) (h2:PGs X es u)
  (hs:(assignEach (e::es) X.env).map (·.2)=assign e X.env::(assignEach es X.env).map (·.2):=by rfl):PGs X (e::es) (gCons t u):=by
 intro pZ s σ H vs us Q I r h
 obtain⟨v,vr,e1,h⟩:=h
 subst e1
 cases r with
 |cons r rr=>
  rw[hs]
  refine assignInOrder_cons (thn (h1 pZ s σ H _ _ _ I r h) fun _ s1 ⟨σ1,H1,I1,q1⟩=>?_)
  exact h2 pZ s1 σ1 H1 _ _ Q I1 rr q1
def gTup (K:PySem.W.Frag) (n:Nat) (t:TGs):TG:=fun v σ H Q=> ∃ a xs,v= .ref a∧SqT K H a xs∧xs.length=n∧t xs σ H Q
theorem pg_tup (hc:X.calm=true) (h:PGs X es t)
  (hn:(assignEach es X.env).length=n:=by rfl) (hst:(assignEach es X.env).findIdx? (·.1)=none:=by rfl):PG X (.Tuple es k pos) (gTup X.K n t):=by
 intro pZ s σ H v u Q I r hw
 obtain⟨a,xs,e1,hq,hl,hw⟩:=hw
 subst e1
 cases r
 obtain⟨its,rv,ht,hz⟩:=I.tuple hq
 refine assign_Tuple_tuple (I.ok.hd hc) ht (by simp[hn,←hl,rv.length]) hst fun h' hx=>?_
 have I1:Inv X pZ σ H {s with heap:=h'}:=I.kept (t':=s.toks) fun b o e=>hx b o (Nat.ne_of_lt (Heap.lt_size e)) e
 exact h pZ _ σ H xs _ Q I1 (by simpa using rv) hw
def gSub (to ti:TE) (t:TSet):TG:=fun v σ H Q=>to σ H fun o H1=>ti σ H1 fun i H2=>t o i v H2 fun H3=>Q σ H3
theorem pg_sub (ho:PE X o to) (hi:PE X i ti) (hs:PSet X t)
  (ha: ∀ v,assign (.Subscript o i pos) X.env v=(do
   let ov ←holding [v] (eval o X.env)
   let iv ←holding [v,ov] (eval i X.env)
   standAt pos
   holding [v,ov,iv] (setItem ov iv v)
   release [v,ov,iv] []):=by intro _;rfl):PG X (.Subscript o i pos) (gSub to ti t):=by
 intro pZ s σ H v u Q I r h
 rw[ha]
 refine wpAny_bind (wpAny_holding (thn (ho pZ s σ H _ I h) fun ov s1 ⟨x,H1,I1,r1,q1⟩=>?_))
 refine wpAny_bind (wpAny_holding (thn (hi pZ s1 σ H1 _ I1 q1) fun iv s2 ⟨y,H2,I2,r2,q2⟩=>?_))
 refine wpAny_bind (wpAny_standAt (wpAny_bind (wpAny_holding (thn (hs pZ s2 σ H2 x y v ov iv u _ I2 r1 r2 r q2) fun _ s3 ⟨H3,I3,q3⟩=>?_))))
 exact wpAny_release ⟨σ,H3,I3,q3⟩
def tAsg (te:TE) (g:TG):TS:=fun D σ H=>te σ H fun x H1=>g x σ H1 D.nx
theorem ps_asg (he:PE X e te) (hg:PG X tg g) (hs:swapsWithSole [tg] e pos.line X.env=pure false:=by rfl) (hw:swappedStores [tg] e X.env=pure none:=by rfl)
  (h1:(assignEach [tg] X.env).map (·.2)=[assign tg X.env]:=by rfl):PS X (.Assign [tg] e pos) (tAsg te g):=by
 intro pZ s σ H D I h
 refine wpAny_Assign_stores (thn (he pZ s σ H _ I h) fun v s1 ⟨x,H1,I1,r1,q1⟩=>?_) hs hw
 rw[h1]
 exact thn (hg pZ s1 σ H1 x v _ I1 r1 q1) fun _ s2 q=>q
theorem ps_set (hN:X.N.Nodup) (hi:X.N[i]?=some x) (hx:Loc X.env.scope x) (he:PE X e te) (hs:swapsWith e (some (.Name x pos')) pos.line X.env=pure false:=by rfl) (hf:X.fn x=true∨X.env.scope.names.lookup x=some .local:=by first|exact .inl rfl|exact .inr rfl|assumption):
  PS X (.Assign [.Name x pos'] e pos) (tAsg te (gName i)):=by
 intro pZ s σ H D I h
 refine wpAny_Assign_Name (thn (he pZ s σ H _ I h) fun v s1 ⟨y,H1,I1,r1,q1⟩=>?_) hs
 exact store_ok I1 hN hi hx r1 (fun s2 I2=>⟨_,H1,I2,q1⟩) hf
def tPar (i j:Nat) (ta:TA):TS:=fun D σ H=>ta σ H fun vs H1=> ∃ v w,vs=[v,w]∧D.nx ((σ.set i (some v)).set j (some w)) H1
theorem ps_par {kt k2 pt2} (hc:X.calm=true) (hN:X.N.Nodup) (hi:X.N[i]?=some x) (hj:X.N[j]?=some y) (hij:i≠j)
  (hx:X.env.scope.names.lookup x=some .local) (hy:X.env.scope.names.lookup y=some .local) (ha:PA X [a,b] ta)
  (hw:swappedStores [.Tuple [.Name x px,.Name y py] kt pt] (.Tuple [a,b] k2 pt2) X.env=pure (some [x,y]))
  (hs:swapsWithSole [.Tuple [.Name x px,.Name y py] kt pt] (.Tuple [a,b] k2 pt2) pos.line X.env=pure false:=by rfl):
  PS X (.Assign [.Tuple [.Name x px,.Name y py] kt pt] (.Tuple [a,b] k2 pt2) pos) (tPar i j ta):=by
 intro pZ s σ H D I h
 rw[exec_Assign_arm]
 refine wpAny_bind (wpAny_standAt ?_)
 rw[hs]
 refine wpAny_bind (wpAny_pure ?_)
 rw[if_neg (by decide)]
 refine wpAny_bind (Tuple_ (thn (ha _ pZ s σ H _ I h) fun us s1 ⟨vs,H1,I1,r1,q1⟩=>?_))
 obtain⟨v,w,e1,q1⟩:=q1
 subst e1
 obtain⟨u1,u2,rfl,rv,rw'⟩: ∃ u1 u2,us=[u1,u2]∧RelV v u1∧RelV w u2:=by
  cases r1 with
  |cons p q=>
   cases q with
   |cons p' q'=>
    cases q'
    exact⟨_,_,rfl,p,p'⟩
 refine wpAny_newObj_type ?_ (by show 2≤sizeLine;decide)
 have I2:Inv X pZ σ H1 {s1 with heap:=s1.heap.push {cls:=.type "tuple",data:=.seq [u1,u2].toArray}}:=I1.kept (t':=s1.toks) fun b o e=>Heap.get?_push_of_some _ e
 rw[hw]
 refine wpAny_bind (wpAny_pure ?_)
 show wpAny (model X.prog X.w) X.A (do rule "assign.swapped-stores";let items ←unpackItems (.ref s1.heap.objs.size) 2 none;assignInOrder [fun v=>bindName X.env y v,fun v=>bindName X.env x v] items.reverse;pure Flow.next) _ _ _
 refine wpAny_bind (wpAny_rule (wpAny_bind (unpackItems_tuple (items:= #[u1,u2]) (I.ok.hd hc) (IsTup.new s1.heap _) fun h' hx'=>?_)))
 have I3:=I2.kept (h':=h') (t':=s1.toks) fun b o e=>hx' b o (Nat.ne_of_lt (Heap.lt_size e)) e
 show wpAny _ _ (assignInOrder [fun v=>bindName X.env y v,fun v=>bindName X.env x v] [u2,u1] >>= fun _=>pure Flow.next) _ _ _
 refine wpAny_bind (assignInOrder_cons (wpAny_bindName (store_ok I3 hN hj (.inl hy) rw' (fun s2 I4=>?_) (.inr hy))))
 refine assignInOrder_cons (wpAny_bindName (store_ok I4 hN hi (.inl hx) rv (fun s3 I5=>assignInOrder_nil (wpAny_pure ?_)) (.inr hx)))
 rw[List.set_comm _ _ (Ne.symm hij)] at I5
 exact⟨_,H1,I5,q1⟩
end
structure It where
 go:Nat→Hp→Prop
 yld:Nat→Hp→V→Hp→Prop
 stop:Nat→Hp→Prop
def FpOk (X:Cx) (pZ:List (Addr×Obj)) (H:Hp) (b:Addr):Prop:=
 H b=none∧b≠X.env.locals∧b∉X.fs∧(b∈X.ex∨X.s₀.heap.objs.size≤b)∧(∀ x c,X.env.cells.lookup x=some c→c≠b)∧∀ p∈X.pn++pZ,p.1≠b
theorem Inv.fpOk (I:Inv X pZ σ H s) (hb:s.heap.objs.size≤b) (hn:H' b=none):FpOk X pZ H' b:=by
 refine⟨hn,Nat.ne_of_gt (Nat.lt_of_lt_of_le I.lt hb),I.nofs hb,.inr (Nat.le_trans I.sz hb),fun x c e z=>?_,fun p hp z=>?_⟩
 ·obtain⟨v,q⟩:=I.cell x c e
  exact absurd (Nat.lt_of_lt_of_le q.lt (by rw[z];exact hb)) (Nat.lt_irrefl _)
 ·exact absurd (Nat.lt_of_lt_of_le (Heap.lt_size (I.pin p hp).1) (by rw[z];exact hb)) (Nat.lt_irrefl _)
structure Turn (P:Program) (w:World) (K:PySem.W.Frag) (tg:Expr) (J:It) (fp:List Addr) (it:Addr) (tn:Nat→Heap→Prop):Prop where
 mem:it∈fp
 obj: ∀ i h,tn i h→∀ b∈fp,∃ o,h.get? b=some o∧∀ v,o.data≠.cell v
 keep: ∀ i h h',tn i h→(∀ b∈fp,∀ o,h.get? b=some o→h'.get? b=some o)→tn i h'
 item: ∀ (X:Cx),X.prog=P→X.w=w→X.K=K→X.calm=true→∀ (i:Nat) (pZ:List (Addr×Obj)) (s:Shared) (σ:St) (H:Hp) (E:Value→Shared→Prop),Inv X pZ σ H s→(∀ b∈fp,FpOk X pZ H b)→tn i s.heap→J.go i H→
  wpAny (model P w) X.A (pyNext (.ref it)) (fun r s1=> ∃ u,r=some u∧
   wpAny (model P w) X.A (letOwnedTupleGo tg (.ref it) u) (fun _ s2=> ∃ x H',Inv X pZ σ H' s2∧RelV x u∧J.yld i H x H'∧tn (i+1) s2.heap∧∀ b∈fp,H' b=none) E s1) E s
 done: ∀ (X:Cx),X.prog=P→X.w=w→X.K=K→X.calm=true→∀ (i:Nat) (pZ:List (Addr×Obj)) (s:Shared) (σ:St) (H:Hp) (E:Value→Shared→Prop),Inv X pZ σ H s→(∀ b∈fp,FpOk X pZ H b)→tn i s.heap→J.stop i H→
  wpAny (model P w) X.A (pyNext (.ref it)) (fun r s1=>r=none∧Inv X pZ σ H s1) E s
 self: ∀ (A:Around) (i:Nat) (s:Shared) (Q:Value→Shared→Prop) (E:Value→Shared→Prop),tn i s.heap→Q (.ref it) s→wpAny (model P w) A (pyIter (.ref it)) Q E s
abbrev TI:=St→Hp→(It→Hp→Prop)→Prop
def PIE (X:Cx) (pZ:List (Addr×Obj)) (σ:St) (tg:Expr) (R:It→Hp→Prop) (itv:Value) (s2:Shared):Prop:=
 ∃ (it:Addr) (fp:List Addr) (tn:Nat→Heap→Prop) (J:It) (H':Hp),itv= .ref it∧Inv X pZ σ H' s2∧Turn X.prog X.w X.K tg J fp it tn∧tn 0 s2.heap∧(∀ b∈fp,FpOk X pZ H' b)∧R J H'
def PI (X:Cx) (tg iter:Expr) (wi:TI):Prop:=
 ∀ (pZ:List (Addr×Obj)) (s:Shared) (σ:St) (H:Hp) (R:It→Hp→Prop),Inv X pZ σ H s→wi σ H R→
  wpAny (model X.prog X.w) X.A (eval iter X.env) (fun v s1=>wpAny (model X.prog X.w) X.A (pyIter v) (PIE X pZ σ tg R) X.xe s1) X.xe s
theorem go_of (ho : s.heap.get? it = some o) (hc : o.cls = .type n) (hd : o.data = .fields vs)
    (hn : ["enumerate", "zip", "dict_itemiterator", "dict_reverseitemiterator", "odict_iterator", "itertools.zip_longest", "itertools.pairwise"].contains n = false) (hQ : Q () s): wpAny M A (letOwnedTupleGo tg (.ref it) u) Q E s := by
  unfold letOwnedTupleGo
  cases tg <;> first
    | exact wpAny_pure hQ
    | (cases u <;> first
        | exact wpAny_pure hQ
        | (refine wpAny_bind (wpAny_load ho ?_)
           rw [hc, hd]
           show wpAny M A (if (["enumerate", "zip", "dict_itemiterator", "dict_reverseitemiterator", "odict_iterator", "itertools.zip_longest", "itertools.pairwise"].contains n && vs[0]? == some (rawInt _)) = true then _ else _) Q E s
           rw [if_neg (by intro h; rw [hn, Bool.false_and] at h; cases h)]
           exact wpAny_pure hQ))
def Itl (K:PySem.W.Frag) (a:Addr):It:=
 ⟨fun i H=> ∃ xs x,SqL K H a xs∧xs[i]?=some x,fun i H x H'=>H'=H∧∀ xs,SqL K H a xs→xs[i]?=some x,fun i H=> ∃ xs,SqL K H a xs∧xs.length≤i⟩
def Itt (K:PySem.W.Frag) (a:Addr):It:=
 ⟨fun i H=> ∃ xs x,SqT K H a xs∧xs[i]?=some x,fun i H x H'=>H'=H∧∀ xs,SqT K H a xs→xs[i]?=some x,fun i H=> ∃ xs,SqT K H a xs∧xs.length≤i⟩
def Itr (lo:Int) (n:Nat):It:=⟨fun i _=>i < n,fun i H x H'=>H'=H∧x= .int (lo+i),fun i _=>n≤i⟩
theorem turn_list {P:Program} {w:World} {K:PySem.W.Frag} {tg:Expr} (a it:Addr):Turn P w K tg (Itl K a) [it] it (fun i h=>h.IsListIter it a i) where
 mem:=by simp
 obj:=fun i h st b hb=>by
  have e:b=it:=by simpa using hb
  subst e
  obtain⟨o,e,c,d⟩:=st
  exact⟨o,e,fun v z=>by rw[d] at z;cases z⟩
 keep:=fun i h h' st k=>st.at fun o e=>k it (by simp) o e
 item:=by
  intro X hP hw hK hc i pZ s σ H E I hf st hg
  subst hP hw hK
  obtain⟨xs,x,hq,hx⟩:=hg
  obtain⟨its,rv,p,hz⟩:=I.list hq
  obtain⟨u,hu,ru⟩:=rv.get hx
  obtain⟨f0,f1,f2,f3,f4,f5⟩:=hf it (by simp)
  refine wpAny_pyNext_list_item st p.isList (x:=u) (by simpa using hu) fun h' st' sb=>?_
  have I1:Inv X pZ σ H {s with heap:=h'}:=I.turned (t':=s.toks) (fun b o hb e=>(sb.2 b hb).trans e) f0 f1 f3 f4 f5
  obtain⟨o,e,c,d⟩:=id st'
  exact⟨u,rfl,go_of (s:={s with heap:=h'}) e c d (by decide) ⟨x,H,I1,ru,⟨rfl,fun ys hy=>by rw[I.list_inj hy hq];exact hx⟩,st',fun b hb=>(hf b hb).1⟩⟩
 done:=by
  intro X hP hw hK hc i pZ s σ H E I hf st hg
  subst hP hw hK
  obtain⟨xs,hq,hx⟩:=hg
  obtain⟨its,rv,p,hz⟩:=I.list hq
  obtain⟨f0,f1,f2,f3,f4,f5⟩:=hf it (by simp)
  have hl:=rv.length
  exact wpAny_pyNext_list_end (I.ok.hd hc) st p.isList (by simp;lia) fun h' eb=>⟨rfl,I.turned (t':=s.toks) (fun b o hb e=>eb b o hb e) f0 f1 f3 f4 f5⟩
 self:=fun _ _ _ _ _ st h=>wpAny_pyIter_listiter st h
theorem turn_tuple {P:Program} {w:World} {K:PySem.W.Frag} {tg:Expr} (a it:Addr):Turn P w K tg (Itt K a) [it] it (fun i h=>h.IsTupleIter it a i) where
 mem:=by simp
 obj:=fun i h st b hb=>by
  have e:b=it:=by simpa using hb
  subst e
  obtain⟨o,e,c,d⟩:=st
  exact⟨o,e,fun v z=>by rw[d] at z;cases z⟩
 keep:=fun i h h' st k=>st.at fun o e=>k it (by simp) o e
 item:=by
  intro X hP hw hK hc i pZ s σ H E I hf st hg
  subst hP hw hK
  obtain⟨xs,x,hq,hx⟩:=hg
  obtain⟨its,rv,p,hz⟩:=I.tuple hq
  obtain⟨u,hu,ru⟩:=rv.get hx
  obtain⟨f0,f1,f2,f3,f4,f5⟩:=hf it (by simp)
  refine wpAny_pyNext_tuple_item st (show s.heap.IsTuple a its.toArray from p) (x:=u) (by simpa using hu) fun h' st' sb=>?_
  have I1:Inv X pZ σ H {s with heap:=h'}:=I.turned (t':=s.toks) (fun b o hb e=>(sb.2 b hb).trans e) f0 f1 f3 f4 f5
  obtain⟨o,e,c,d⟩:=id st'
  exact⟨u,rfl,go_of (s:={s with heap:=h'}) e c d (by decide) ⟨x,H,I1,ru,⟨rfl,fun ys hy=>by rw[I.tuple_inj hy hq];exact hx⟩,st',fun b hb=>(hf b hb).1⟩⟩
 done:=by
  intro X hP hw hK hc i pZ s σ H E I hf st hg
  subst hP hw hK
  obtain⟨xs,hq,hx⟩:=hg
  obtain⟨its,rv,p,hz⟩:=I.tuple hq
  obtain⟨f0,f1,f2,f3,f4,f5⟩:=hf it (by simp)
  have hl:=rv.length
  exact wpAny_pyNext_tuple_end (I.ok.hd hc) st (show s.heap.IsTuple a its.toArray from p) (by simp;lia) fun h' eb=>⟨rfl,I.turned (t':=s.toks) (fun b o hb e=>eb b o hb e) f0 f1 f3 f4 f5⟩
 self:=fun _ _ _ _ _ st h=>wpAny_pyIter_tupleiter st h
theorem turn_range {P:Program} {w:World} {K:PySem.W.Frag} {tg:Expr} (it:Addr) (lo:Int) (n:Nat):Turn P w K tg (Itr lo n) [it] it (fun i h=>IsRangeIter h it (lo+(i:Nat) * 1) ((n:Int) - (i:Nat)) 1) where
 mem:=by simp
 obj:=fun i h st b hb=>by
  have e:b=it:=by simpa using hb
  subst e
  exact⟨_,st,fun v z=>by
   have z':Data.fields _=Data.cell v:=z
   cases z'⟩
 keep:=fun i h h' st k=>k it (by simp) _ st
 item:=by
  intro X hP hw hK hc i pZ s σ H E I hf st hg
  subst hP hw hK
  obtain⟨f0,f1,f2,f3,f4,f5⟩:=hf it (by simp)
  have W:=Walks.range (prog:=X.prog) (w:=X.w) (I.ok.hd hc) it lo 1 n
  refine W.item i s _ _ hg st fun v h' tk hv st' kk=>?_
  obtain⟨t,rfl⟩:=hv
  have I1:Inv X pZ σ H {s with heap:=h',toks:=tk}:=I.turned (fun b o hb e=>kk b o (by simpa using hb) e) f0 f1 f3 f4 f5
  refine⟨_,rfl,go_of (s:={s with heap:=h',toks:=tk}) (n:="range_iterator") st' rfl rfl (by decide) ⟨.int (lo+i),H,I1,⟨t,?_⟩,⟨rfl,rfl⟩,st',fun b hb=>(hf b hb).1⟩⟩
  rw[Int.mul_one]
 done:=by
  intro X hP hw hK hc i pZ s σ H E I hf st hg
  subst hP hw hK
  obtain⟨f0,f1,f2,f3,f4,f5⟩:=hf it (by simp)
  exact wpAny_pyNext_range_end (I.ok.hd hc) st (by have:n≤i:=hg;lia) fun h' eb=>⟨rfl,I.turned (t':=s.toks) (fun b o hb e=>eb b o hb e) f0 f1 f3 f4 f5⟩
 self:=fun _ _ _ _ _ st h=>wpAny_pyIter_rangeiter st h
end L2
namespace L2
open PySem PySem.Spec PyProof.Rows
section
variable {X:Cx} {tg:Expr}
def iList (K:PySem.W.Frag) (tl:TE):TI:=fun σ H R=>tl σ H fun x H1=> ∃ a,x= .ref a∧(∃ xs,SqL K H1 a xs)∧R (Itl K a) H1
theorem pi_list {l:Expr} {tl:TE} (hl:PE X l tl):PI X tg l (iList X.K tl):=by
 intro pZ s σ H R I h
 refine thn (hl pZ s σ H _ I h) fun v s1 ⟨x,H1,I1,r1,q1⟩=>?_
 obtain⟨a,e,⟨xs,hq⟩,q⟩:=q1
 subst e
 cases r1
 obtain⟨its,rv,p,hz⟩:=I1.list hq
 refine wpAny_pyIter_list p.isList ?_
 refine⟨s1.heap.objs.size,[s1.heap.objs.size],_,_,H1,rfl,I1.kept (t':=s1.toks) fun b o e=>Heap.get?_push_of_some _ e,turn_list a _,⟨_,Heap.get?_push_size _ rfl,rfl,rfl⟩,fun b hb=>?_,q⟩
 have e:b=s1.heap.objs.size:=by simpa using hb
 subst e
 exact I1.fpOk (Nat.le_refl _) (I1.hok.fresh (Nat.le_refl _))
theorem range_it {R:It→Hp→Prop} {lo hi:Int} {t u v:Tok} {tk:Nat} (I:Inv X pZ σ H s) (h1: -(2 ^ 62)≤lo) (h2:lo < 2 ^ 62) (h3: -(2 ^ 62)≤hi) (h4:hi < 2 ^ 62)
  (q:R (Itr lo (hi - lo).toNat) H):wpAny (model X.prog X.w) X.A (pyIter (.ref s.heap.objs.size)) (PIE X pZ σ tg R) E {s with heap:=s.heap.push {cls:=.type "range",data:=.fields #[.int lo t,.int hi u,.int 1 v]},toks:=tk}:=by
 refine wpAny_pyIter_range (IsRange.new ..) (small_one h1 h2 h3 h4) ?_
 have I1:Inv X pZ σ H {s with heap:=s.heap.push {cls:=.type "range",data:=.fields #[.int lo t,.int hi u,.int 1 v]},toks:=tk}:=I.kept fun b o e=>Heap.get?_push_of_some _ e
 refine⟨(s.heap.push {cls:=.type "range",data:=.fields #[.int lo t,.int hi u,.int 1 v]}).objs.size,[(s.heap.push {cls:=.type "range",data:=.fields #[.int lo t,.int hi u,.int 1 v]}).objs.size],_,_,H,rfl,
  I1.kept (t':=tk) fun b o e=>Heap.get?_push_of_some _ e,turn_range _ lo (hi - lo).toNat,?_,fun b hb=>?_,q⟩
 ·have e1:lo+((0:Nat):Int) * 1=lo:=by simp
  have e2:(((hi - lo).toNat:Nat):Int) - ((0:Nat):Int)=Builtin.Range.rangeSize lo hi 1:=by rw[rangeSize_one];split<;>lia
  show IsRangeIter _ _ (lo+((0:Nat):Int) * 1) ((((hi - lo).toNat:Nat):Int) - ((0:Nat):Int)) 1
  rw[e1,e2]
  exact Heap.get?_push_size _ rfl
 ·have e:b=(s.heap.push {cls:=.type "range",data:=.fields #[.int lo t,.int hi u,.int 1 v]}).objs.size:=by simpa using hb
  subst e
  exact I1.fpOk (Nat.le_refl _) (I1.hok.fresh (Nat.le_refl _))
def iRng1 (ta:TA):TI:=fun σ H R=>ta σ H fun vs H1=> ∃ j:Int,vs=[.int j]∧-(2 ^ 62)≤j∧j < 2 ^ 62∧R (Itr 0 j.toNat) H1
theorem pi_range1 {a:Expr} {p:Pos} (hg:Gl X "range") (hm:X.mg "range"=none) (ha:PA X [a] ta) (hs:starEach [a] X.env=[(false,eval a X.env)]:=by rfl):PI X tg (.Call (.Name "range" p) [a] [] pos) (iRng1 ta):=by
 intro pZ s σ H R I h
 refine Call_ (ld_blt I hg hm boot_range (PyProof.Rows.callWith_type1 (thn (ha pos pZ s σ H _ I h) fun us s1 ⟨vs,H1,I1,r1,q1⟩=>?_) hs rfl))
 obtain⟨j,e,q1,q2,q⟩:=q1
 subst e
 cases r1 with
 |cons r rr=>
  cases rr
  obtain⟨t,rfl⟩:=r
  exact call_range_1 (range_it I1 (by lia) (by lia) q1 q2 (by simpa using q))
noncomputable def tFor (wi:TI) (g:TG) (tb:TS):TS:=fun D σ H=>wi σ H fun J H1=> ∃ W:Nat→Nat→St→Hp→Prop,(∃ m,W 0 m σ H1)∧∀ i m σ H,W i m σ H→
 (J.stop i H∧D.nx σ H)∨(J.go i H∧∃ N:St→Hp→Prop,(∀ σ' H',N σ' H'→∃ m',m' < m∧W (i+1) m' σ' H')∧∀ x H',J.yld i H x H'→g x σ H' fun σ2 H2=>tb {D with nx:=N,ct:=N,bk:=D.nx} σ2 H2)
def pinsAt (fp:List Addr) (h:Heap):List (Addr×Obj):=fp.filterMap fun b=>(h.get? b).map fun o=>(b,o)
theorem mem_pinsAt (hb:b∈fp) (e:h.get? b=some o):(b,o)∈pinsAt fp h:=List.mem_filterMap.mpr ⟨b,hb,by rw[e];rfl⟩
theorem of_pinsAt (hp:p∈pinsAt fp h):p.1∈fp∧h.get? p.1=some p.2:=by
 obtain⟨b,hb,e⟩:=List.mem_filterMap.mp hp
 cases q:h.get? b with
 |none=>rw[q] at e;cases e
 |some o=>
  rw[q] at e
  have e':(b,o)=p:=Option.some.inj e
  subst e'
  exact⟨hb,q⟩
theorem Inv.pinned (I:Inv X pZ σ H s) (hf: ∀ b∈fp,FpOk X pZ H b) (ho: ∀ b∈fp,∃ o,s.heap.get? b=some o∧∀ v,o.data≠.cell v):Inv X (pZ++pinsAt fp s.heap) σ H s:=
 I.pins_of fun p hp=>(List.mem_append.mp hp).elim (fun z=>I.pin p (List.mem_append_right _ z)) fun z=>by
  obtain⟨hb,e⟩:=of_pinsAt z
  obtain⟨f0,f1,f2,_⟩:=hf p.1 hb
  obtain⟨o,e',d⟩:=ho p.1 hb
  rw[e] at e';cases e'
  exact⟨e,f0,f1,f2,d⟩
theorem Inv.unpinned (I:Inv X (pZ++pl) σ H s):Inv X pZ σ H s:=I.pins_of fun p hp=>I.pin p (List.mem_append_right _ (List.mem_append_left _ hp))
theorem ps_for (hp:PassesOwn (model X.prog X.w) X.A X.env X.xe) (hc:X.calm=true) (hi:PI X tg iter wi) (hg:PG X tg g) (hb:PSs X body tb)
  (hs: ∀ x,foldedSetIterable iter X.env x=pure x:=by intro _;rfl):PS X (.For tg iter body [] pos) (tFor wi g tb):=by
 intro pZ s σ H D I h
 refine wpAny_For (thn (hi pZ s σ H _ I h) fun v s1 h1=>thn h1 fun itv s2 h2=>?_) hs
 obtain⟨it,fp,tn,J,H2,e,I2,T,st2,f2,W,⟨m0,w0⟩,turn⟩:=h2
 subst e
 have stat: ∀ {H':Hp},(∀ b∈fp,H' b=none)→∀ b∈fp,FpOk X pZ H' b:=fun hn b hb=>⟨hn b hb,(f2 b hb).2⟩
 refine codeAny_forLoop_any (fun n s'=> ∃ i σ' H',Inv X pZ σ' H' s'∧tn i s'.heap∧(∀ b∈fp,H' b=none)∧W i n σ' H') ?_ m0 ⟨0,σ,H2,I2,st2,fun b hb=>(f2 b hb).1,w0⟩
 rintro n s3 ⟨i,σ3,H3,I3,st3,fr3,w3⟩
 rcases turn i n σ3 H3 w3 with⟨stop,qn⟩|⟨go,N,hN,step⟩
 ·refine wpAny_passesOwn hp (thn (T.done X rfl rfl rfl hc i pZ s3 σ3 H3 X.xe I3 (stat fr3) st3 stop) fun r s4 ⟨hr,I4⟩=>?_)
  subst hr
  exact wpAny_execs_nil ⟨σ3,H3,I4,qn⟩
 ·refine wpAny_passesOwn hp (thn (T.item X rfl rfl rfl hc i pZ s3 σ3 H3 X.xe I3 (stat fr3) st3 go) fun r s4 ⟨u,hr,h4⟩=>?_)
  subst hr
  refine wpAny_passesOwn hp (thn h4 fun _ s5 ⟨x,H5,I5,r5,y5,st5,fr5⟩=>?_)
  have I5':=I5.pinned (stat fr5) (T.obj _ _ st5)
  refine wpAny_passesOwn hp (thn (hg _ s5 σ3 H5 x u _ I5' r5 (step x H5 y5)) fun _ s6 ⟨σ6,H6,I6,q6⟩=>?_)
  refine wpAny_passesOwn hp (thn (hb _ s6 σ6 H6 _ I6 q6) fun f s7 q7=>?_)
  have again: ∀ {σ7:St} {H7:Hp},Inv X (pZ++pinsAt fp s5.heap) σ7 H7 s7→N σ7 H7→∃ m,m < n∧∃ i σ' H',Inv X pZ σ' H' s7∧tn i s7.heap∧(∀ b∈fp,H' b=none)∧W i m σ' H':=fun {σ7 H7} I7 n7=>by
   obtain⟨m',hm,w7⟩:=hN σ7 H7 n7
   refine⟨m',hm,i+1,σ7,H7,I7.unpinned,T.keep _ _ _ st5 fun b hb o e=>(I7.pin (b,o) (List.mem_append_right _ (List.mem_append_right _ (mem_pinsAt hb e)))).1,fun b hb=>?_,w7⟩
   obtain⟨o,e,d⟩:=T.obj _ _ st5 b hb
   exact(I7.pin (b,o) (List.mem_append_right _ (List.mem_append_right _ (mem_pinsAt hb e)))).2.1
  cases f with
  |next=>obtain⟨σ7,H7,I7,n7⟩:=q7;exact again I7 n7
  |cont=>obtain⟨σ7,H7,I7,n7⟩:=q7;exact again I7 n7
  |brk=>obtain⟨σ7,H7,I7,q7⟩:=q7;exact⟨σ7,H7,I7.unpinned,q7⟩
  |ret v=>obtain⟨x7,σ7,H7,I7,r7,q7⟩:=q7;exact⟨x7,σ7,H7,I7.unpinned,r7,q7⟩
end
theorem for_list {K:PySem.W.Frag} {a:Addr} {xs:List V} {g:TG} {tb:TS} {D:Ends} {σ:St} {H:Hp} (Pv:Nat→St→Hp→Prop) (h0:Pv 0 σ H) (hl: ∀ i σ H,i≤xs.length→Pv i σ H→SqL K H a xs)
  (hs: ∀ i x σ H,xs[i]?=some x→Pv i σ H→g x σ H fun σ2 H2=>tb {D with nx:=Pv (i+1),ct:=Pv (i+1),bk:=D.nx} σ2 H2) (hd: ∀ σ H,Pv xs.length σ H→D.nx σ H):
  ∃ W:Nat→Nat→St→Hp→Prop,(∃ m,W 0 m σ H)∧∀ i m σ H,W i m σ H→
   ((Itl K a).stop i H∧D.nx σ H)∨((Itl K a).go i H∧∃ N:St→Hp→Prop,(∀ σ' H',N σ' H'→∃ m',m' < m∧W (i+1) m' σ' H')∧∀ x H',(Itl K a).yld i H x H'→g x σ H' fun σ2 H2=>tb {D with nx:=N,ct:=N,bk:=D.nx} σ2 H2):=by
 refine⟨fun i m σ H=>m=xs.length - i∧i≤xs.length∧Pv i σ H,⟨xs.length,by simp,Nat.zero_le _,h0⟩,?_⟩
 rintro i m σ H ⟨rfl,hi,p⟩
 have q:=hl i σ H hi p
 by_cases hlt:i < xs.length
 ·refine .inr ⟨⟨xs,xs[i],q,by simp[hlt]⟩,Pv (i+1),fun σ' H' p'=>⟨xs.length - (i+1),by lia,rfl,hlt,p'⟩,fun x H' y=>?_⟩
  obtain⟨e,y⟩:=y
  subst e
  exact hs i x σ _ (y xs q) p
 ·have e:i=xs.length:=by lia
  subst e
  exact .inl ⟨⟨xs,q,Nat.le_refl _⟩,hd σ H p⟩
end L2
namespace L2
open PySem PySem.Spec PyProof.Rows
abbrev R2:=V→V→Hp→VK→Prop
def OpR (X:Cx) (f:Value→Value→Sem Value) (r:R2):Prop:=
 ∀ (pZ:List (Addr×Obj)) (s:Shared) (σ:St) (H:Hp) (x y:V) (v u:Value) (Q:VK),Inv X pZ σ H s→RelV x v→RelV y u→r x y H Q→
  wpAny (model X.prog X.w) X.A (f v u) (EP X pZ σ Q) X.xe s
def UnR (X:Cx) (f:Value→Sem Value) (r:V→Hp→VK→Prop):Prop:=
 ∀ (pZ:List (Addr×Obj)) (s:Shared) (σ:St) (H:Hp) (x:V) (v:Value) (Q:VK),Inv X pZ σ H s→RelV x v→r x H Q→
  wpAny (model X.prog X.w) X.A (f v) (EP X pZ σ Q) X.xe s
def CallR (X:Cx) (f:Value) (r:List V→Hp→VK→Prop):Prop:=
 ∀ (pZ:List (Addr×Obj)) (s:Shared) (σ:St) (H:Hp) (xs:List V) (us:List Value) (Q:VK),Inv X pZ σ H s→Vals xs us→r xs H Q→
  wpAny (model X.prog X.w) X.A (call f us) (EP X pZ σ Q) X.xe s
def tOp (r:R2) (ta tb:TE):TE:=fun σ H Q=>ta σ H fun x H1=>tb σ H1 fun y H2=>r x y H2 Q
def tUn (r:V→Hp→VK→Prop) (ta:TE):TE:=fun σ H Q=>ta σ H fun x H1=>r x H1 Q
def rI (C:Int→Int→Prop) (g:Int→Int→V):R2:=fun x y H Q=> ∃ i j,x= .int i∧y= .int j∧C i j∧Q (g i j) H
def rI0 (g:Int→Int→V):R2:=fun x y H Q=> ∃ i j,x= .int i∧y= .int j∧Q (g i j) H
def rU (g:Int→V):V→Hp→VK→Prop:=fun x H Q=> ∃ i,x= .int i∧Q (g i) H
section
variable {X:Cx} {a b c:Expr} {ta tb tc:TE} {pos:Pos}
theorem binT (ha:PE X a ta) (hb:PE X b tb) {R:V→V→Hp→Prop} (I:Inv X pZ σ H s)
  (h:ta σ H fun x H1=>tb σ H1 fun y H2=>R x y H2) {f:Value→Value→Sem Value}
  (hf: ∀ v u s2 x y H2,Inv X pZ σ H2 s2→RelV x v→RelV y u→R x y H2→wpAny (model X.prog X.w) X.A (f v u) Q X.xe s2):
  wpAny (model X.prog X.w) X.A (eval a X.env) (fun v s₁=>wpAny (model X.prog X.w) X.A (eval b X.env) (fun u s₂=>wpAny (model X.prog X.w) X.A (f v u) Q X.xe s₂) X.xe s₁) X.xe s:=by
 refine thn (ha pZ s σ H _ I h) fun v s1 ⟨x,H1,I1,r1,q1⟩=>?_
 refine thn (hb pZ s1 σ H1 _ I1 q1) fun u s2 ⟨y,H2,I2,r2,q2⟩=>?_
 exact hf v u s2 x y H2 I2 r1 r2 q2
theorem pe_op (ho:OpR X (binaryOp op) r) (ha:PE X a ta) (hb:PE X b tb):PE X (.BinOp a op b pos) (tOp r ta tb):=by
 intro pZ s σ H Q I h
 exact wpAny_BinOp (binT ha hb I h fun v u s2 x y H2 I2 rx ry q=>ho pZ s2 σ H2 x y v u Q I2 rx ry q)
theorem pe_un (ho:UnR X (unaryOp op) r) (ha:PE X a ta):PE X (.UnaryOp op a pos) (tUn r ta):=by
 intro pZ s σ H Q I h
 exact UnaryOp_ (thn (ha pZ s σ H _ I h) fun v s1 ⟨x,H1,I1,r1,q1⟩=>ho pZ s1 σ H1 x v Q I1 r1 q1)
theorem opI {f:Value→Value→Sem Value} {C:Int→Int→Prop} {g:Int→Int→Int}
  (rule: ∀ (i j:Int) (t u:Tok) (s:Shared) (Q:Value→Shared→Prop) (E:Value→Shared→Prop),C i j→Q (.int (g i j) s.toks) {s with toks:=s.toks+1}→wpAny (model X.prog X.w) X.A (f (.int i t) (.int j u)) Q E s):
  OpR X f (rI C fun i j=>.int (g i j)):=by
 intro pZ s σ H x y v u Q I rx ry h
 obtain⟨i,j,rfl,rfl,hc,q⟩:=h
 obtain⟨t,rfl⟩:=rx
 obtain⟨t',rfl⟩:=ry
 exact rule i j t t' s _ _ hc ⟨.int (g i j),H,I.tok _,⟨_,rfl⟩,q⟩
theorem opI0 {f:Value→Value→Sem Value} {g:Int→Int→Int}
  (rule: ∀ (i j:Int) (t u:Tok) (s:Shared) (Q:Value→Shared→Prop) (E:Value→Shared→Prop),Q (.int (g i j) s.toks) {s with toks:=s.toks+1}→wpAny (model X.prog X.w) X.A (f (.int i t) (.int j u)) Q E s):
  OpR X f (rI0 fun i j=>.int (g i j)):=by
 intro pZ s σ H x y v u Q I rx ry h
 obtain⟨i,j,rfl,rfl,q⟩:=h
 obtain⟨t,rfl⟩:=rx
 obtain⟨t',rfl⟩:=ry
 exact rule i j t t' s _ _ ⟨.int (g i j),H,I.tok _,⟨_,rfl⟩,q⟩
theorem opB0 {f:Value→Value→Sem Value} {g:Int→Int→Bool}
  (rule: ∀ (i j:Int) (t u:Tok) (s:Shared) (Q:Value→Shared→Prop) (E:Value→Shared→Prop),Q (.bool (g i j)) s→wpAny (model X.prog X.w) X.A (f (.int i t) (.int j u)) Q E s):
  OpR X f (rI0 fun i j=>.bl (g i j)):=by
 intro pZ s σ H x y v u Q I rx ry h
 obtain⟨i,j,rfl,rfl,q⟩:=h
 obtain⟨t,rfl⟩:=rx
 obtain⟨t',rfl⟩:=ry
 exact rule i j t t' s _ _ ⟨.bl (g i j),H,I,rfl,q⟩
def CDiv (i j:Int):Prop:=0 < j∧j < 1073741824
def CPow (i j:Int):Prop:=0≤j∧j≤1000000∧i.natAbs < 2 ^ 64
def CMul (i j:Int):Prop:=(-(2 ^ 64) < i∧i < 2 ^ 64)∨(-(2 ^ 64) < j∧j < 2 ^ 64)
theorem CMul.ok (h:CMul i j):IntMulOk i j:=by
 rcases h with⟨h1,h2⟩|⟨h1,h2⟩
 ·exact .of_left (intBits_le_64 h1 h2)
 ·exact .of_right (intBits_le_64 h1 h2)
theorem op_add:OpR X (binaryOp .Add) (rI0 fun i j=>.int (i+j)):=opI0 fun _ _ _ _ _ _ _ q=>add_int q
theorem op_sub:OpR X (binaryOp .Sub) (rI0 fun i j=>.int (i - j)):=opI0 fun _ _ _ _ _ _ _ q=>sub_int q
theorem op_mul:OpR X (binaryOp .Mult) (rI CMul fun i j=>.int (i * j)):=opI fun _ _ _ _ _ _ _ hc q=>mul_int q hc.ok
theorem op_fdiv:OpR X (binaryOp .FloorDiv) (rI CDiv fun i j=>.int (i / j)):=opI fun i j _ _ _ _ _ hc q=>by
 have h1:(0:Int) < j:=hc.1
 have h2:j < 1073741824:=hc.2
 exact floordiv_int (by lia) (by rw[Int.fdiv_eq_ediv_of_nonneg i (by lia)];exact q) (.inl (PyProof.noPylong_small (by lia)))
theorem op_mod:OpR X (binaryOp .Mod) (rI (fun _ j=>0 < j) fun i j=>.int (i % j)):=opI fun i j _ _ _ _ _ hc q=>by
 have h1:(0:Int) < j:=hc
 exact mod_int' (by lia) (by rw[Int.fmod_eq_emod_of_nonneg i (by lia)];exact q)
theorem op_pow:OpR X (binaryOp .Pow) (rI CPow fun i j=>.int (i ^ j.toNat)):=opI fun _ _ _ _ _ _ _ hc q=>pow_int_small hc.1 hc.2.1 hc.2.2 q
theorem unI {f:Value→Sem Value} {g:Int→Int}
  (rule: ∀ (i:Int) (t:Tok) (s:Shared) (Q:Value→Shared→Prop) (E:Value→Shared→Prop),Q (.int (g i) s.toks) {s with toks:=s.toks+1}→wpAny (model X.prog X.w) X.A (f (.int i t)) Q E s):
  UnR X f (rU fun i=>.int (g i)):=by
 intro pZ s σ H x v Q I rx h
 obtain⟨i,rfl,q⟩:=h
 obtain⟨t,rfl⟩:=rx
 exact rule i t s _ _ ⟨.int (g i),H,I.tok _,⟨_,rfl⟩,q⟩
theorem un_neg:UnR X (unaryOp .USub) (rU fun i=>.int (-i)):=unI fun _ _ _ _ _ q=>neg_int q
end
noncomputable def scal:V→V→Bool
 | .non,.non=>true| .non,.int _=>true| .int _,.non=>true| .non,.bl _=>true| .bl _,.non=>true| .non,.str _=>true| .str _,.non=>true
 | .int _,.int _=>true| .bl _,.bl _=>true| .str _,.str _=>true| .byt _,.byt _=>true
 | .int _,.str _=>true| .str _,.int _=>true| .bl _,.str _=>true| .str _,.bl _=>true
 |_,_=>false
def rEq:R2:=fun x y H Q=>scal x y=true∧Q (.bl (decide (x=y))) H
theorem dec_int:decide (V.int i=V.int j)=(i==j):=by
 rw[Bool.eq_iff_iff]
 simp
theorem dec_bl:decide (V.bl i=V.bl j)=(i==j):=by
 rw[Bool.eq_iff_iff]
 simp
theorem dec_str:decide (V.str i=V.str j)=(i==j):=by
 rw[Bool.eq_iff_iff]
 simp
theorem dec_byt:decide (V.byt i=V.byt j)=(i.toList==j.toList):=by
 rw[Bool.eq_iff_iff]
 cases i
 cases j
 simp
section
variable {X:Cx} {a b c:Expr} {ta tb tc:TE} {pos:Pos}
theorem fin_bl (I:Inv X pZ σ H s) (q:Q (.bl k) H) (e:k=k'):EP X pZ σ Q (.bool k') s:=by
 subst e
 exact⟨.bl k,H,I,rfl,q⟩
theorem op_eq:OpR X (compareOp .Eq) rEq:=by
 intro pZ s σ H x y v u Q I rx ry h
 obtain⟨hs,q⟩:=h
 cases x with
 |non=>
  cases rx
  cases y with
  |non=>cases ry;exact PySem.EqNone.eq_none_none (fin_bl I q (by simp))
  |bl j=>cases ry;exact PySem.EqNone.eq_none_bool (fin_bl I q (by simp))
  |int j=>obtain⟨t',rfl⟩:=ry;exact PySem.EqNone.eq_none_int (fin_bl I q (by simp))
  |str j=>obtain⟨t',rfl⟩:=ry;exact PySem.EqNone.eq_none_str (fin_bl I q (by simp))
  |_=>exact absurd (show false=true from hs) Bool.false_ne_true
 |bl i=>
  cases rx
  cases y with
  |non=>cases ry;exact PySem.EqNone.eq_bool_none (fin_bl I q (by simp))
  |bl j=>cases ry;exact eq_bool (fin_bl I q dec_bl)
  |str j=>obtain⟨t',rfl⟩:=ry;exact PySem.EqMixed.eq_bool_str (fin_bl I q (by simp))
  |_=>exact absurd (show false=true from hs) Bool.false_ne_true
 |int i=>
  obtain⟨t,rfl⟩:=rx
  cases y with
  |non=>cases ry;exact PySem.EqNone.eq_int_none (fin_bl I q (by simp))
  |int j=>obtain⟨t',rfl⟩:=ry;exact eq_int (fin_bl I q dec_int)
  |str j=>obtain⟨t',rfl⟩:=ry;exact PySem.EqMixed.eq_int_str (fin_bl I q (by simp))
  |_=>exact absurd (show false=true from hs) Bool.false_ne_true
 |str i=>
  obtain⟨t,rfl⟩:=rx
  cases y with
  |non=>cases ry;exact PySem.EqNone.eq_str_none (fin_bl I q (by simp))
  |bl j=>cases ry;exact PySem.EqMixed.eq_str_bool (fin_bl I q (by simp))
  |int j=>obtain⟨t',rfl⟩:=ry;exact PySem.EqMixed.eq_str_int (fin_bl I q (by simp))
  |str j=>obtain⟨t',rfl⟩:=ry;exact eq_str (fin_bl I q dec_str)
  |_=>exact absurd (show false=true from hs) Bool.false_ne_true
 |byt i=>
  obtain⟨t,rfl⟩:=rx
  cases y with
  |byt j=>obtain⟨t',rfl⟩:=ry;exact PySem.W.eq_bytes (fin_bl I q dec_byt)
  |_=>exact absurd (show false=true from hs) Bool.false_ne_true
 |_=>cases y<;>exact absurd (show false=true from hs) Bool.false_ne_true
theorem op_lt:OpR X (compareOp .Lt) (rI0 fun i j=>.bl (decide (i < j))):=opB0 fun _ _ _ _ _ _ _ q=>lt_int q
theorem op_le:OpR X (compareOp .LtE) (rI0 fun i j=>.bl (decide (i≤j))):=opB0 fun _ _ _ _ _ _ _ q=>le_int q
theorem op_gt:OpR X (compareOp .Gt) (rI0 fun i j=>.bl (decide (j < i))):=opB0 fun _ _ _ _ _ _ _ q=>gt_int q
theorem op_ge:OpR X (compareOp .GtE) (rI0 fun i j=>.bl (decide (j≤i))):=opB0 fun _ _ _ _ _ _ _ q=>ge_int q
theorem op_in_str:OpR X (compareOp .In) (fun x y H Q=> ∃ i j,x= .str i∧y= .str j∧Q (.bl (!(Builtin.Str.occurrences j i 0 j.length 1).isEmpty)) H):=by
 intro pZ s σ H x y v u Q I rx ry h
 obtain⟨i,j,rfl,rfl,q⟩:=h
 obtain⟨t,rfl⟩:=rx
 obtain⟨t',rfl⟩:=ry
 exact in_str (fin_bl I q rfl)
theorem op_notN:OpR X (compareOp .IsNot) (fun x y H Q=>y= .non∧Q (.bl (!decide (x= .non))) H):=by
 intro pZ s σ H x y v u Q I rx ry h
 obtain⟨rfl,q⟩:=h
 cases ry
 refine isnot_none_gen (fin_bl I q ?_)
 cases x<;>first
  |(cases rx;rfl)
  |(obtain⟨t,rfl⟩:=rx;rfl)
theorem OpR.or (h:OpR X f r) (h':OpR X f r'):OpR X f (fun x y H Q=>r x y H Q∨r' x y H Q):=by
 intro pZ s σ H x y v u Q I rx ry q
 rcases q with q|q
 ·exact h pZ s σ H x y v u Q I rx ry q
 ·exact h' pZ s σ H x y v u Q I rx ry q
theorem nomark (b:Expr) (h:op≠.In:=by decide) (h2:op≠.NotIn:=by decide):behindInMarks op b=false:=by
 have e1:(op==CmpOp.In)=false:=by cases op<;>first|rfl|exact absurd rfl h
 have e2:(op==CmpOp.NotIn)=false:=by cases op<;>first|rfl|exact absurd rfl h2
 cases b<;>simp[behindInMarks,e1,e2]
theorem pe_cmpR (ho:OpR X (compareOp op) r) (ha:PE X a ta) (hb:PE X b tb) (hm:behindInMarks op b=false):PE X (.Compare a [op] [b] pos) (tOp r ta tb):=by
 intro pZ s σ H Q I h
 exact wpAny_Compare1 (binT ha hb I h fun v u s2 x y H2 I2 rx ry q=>ho pZ s2 σ H2 x y v u Q I2 rx ry q) hm
def tTest (t:TE):TT:=fun σ H Q=>t σ H fun x H'=> ∃ k,x= .bl k∧Q k H'
theorem pt_cmpR (ho:OpR X (compareOp op) r) (ha:PE X a ta) (hb:PE X b tb) (hm:behindInMarks op b=false):PT X (.Compare a [op] [b] pos) (tTest (tOp r ta tb)):=by
 intro pZ s σ H Q I h
 refine wpAny_isTrue_Compare1 (thn (ha pZ s σ H _ I h) fun v s1 ⟨x,H1,I1,r1,q1⟩=>thn (hb pZ s1 σ H1 _ I1 q1) fun u s2 ⟨y,H2,I2,r2,q2⟩=>
  thn (ho pZ s2 σ H2 x y v u _ I2 r1 r2 q2) fun c s3 ⟨z,H3,I3,r3,k,e,q3⟩=>?_) hm
 subst e
 cases r3
 exact wpAny_truthy_bool ⟨H3,I3,q3⟩
noncomputable def tChain (r r':R2) (ta tb tc:TE):TE:=fun σ H Q=>ta σ H fun x H1=>tb σ H1 fun y H2=>r x y H2 fun z H3=> ∃ k,z= .bl k∧
 (if k=true then tc σ H3 fun w' H4=>r' y w' H4 Q else Q (.bl false) H3)
theorem pe_chain (ho:OpR X (compareOp op) r) (ho':OpR X (compareOp op') r') (ha:PE X a ta) (hb:PE X b tb) (hc:PE X c tc)
  (hm:lastMarks [op,op'] [b,c]=false:=by with_unfolding_all rfl):PE X (.Compare a [op,op'] [b,c] pos) (tChain r r' ta tb tc):=by
 intro pZ s σ H Q I h
 refine Compare_chain (thn (ha pZ s σ H _ I h) fun v s1 ⟨x,H1,I1,r1,q1⟩=>chain_link (thn (hb pZ s1 σ H1 _ I1 q1) fun u s2 ⟨y,H2,I2,r2,q2⟩=>
  thn (ho pZ s2 σ H2 x y v u _ I2 r1 r2 q2) fun d s3 ⟨z,H3,I3,r3,k,e,q3⟩=>?_)) hm
 subst e
 cases r3
 refine wpAny_truthy_bool ?_
 cases k with
 |false=>exact ite_ff ⟨.bl false,H3,I3,rfl,q3⟩
 |true=>exact ite_tt (chain_last (thn (hc pZ s3 σ H3 _ I3 q3) fun w' s4 ⟨z',H4,I4,r4,q4⟩=>ho' pZ s4 σ H4 y z' u w' Q I4 r2 r4 q4))
theorem pt_chain (ho:OpR X (compareOp op) r) (ho':OpR X (compareOp op') r') (ha:PE X a ta) (hb:PE X b tb) (hc:PE X c tc)
  (hm:lastMarks [op,op'] [b,c]=false:=by with_unfolding_all rfl):PT X (.Compare a [op,op'] [b,c] pos) (tTest (tChain r r' ta tb tc)):=by
 intro pZ s σ H Q I h
 refine isTrue_chain (thn (ha pZ s σ H _ I h) fun v s1 ⟨x,H1,I1,r1,q1⟩=>test_link (thn (hb pZ s1 σ H1 _ I1 q1) fun u s2 ⟨y,H2,I2,r2,q2⟩=>
  thn (ho pZ s2 σ H2 x y v u _ I2 r1 r2 q2) fun d s3 ⟨z,H3,I3,r3,k,e,q3⟩=>?_)) hm
 subst e
 cases r3
 refine wpAny_truthy_bool ?_
 cases k with
 |false=>
  obtain⟨k',e',q'⟩:=q3
  cases e'
  exact ite_ff ⟨H3,I3,q'⟩
 |true=>
  refine ite_tt (test_last (thn (hc pZ s3 σ H3 _ I3 q3) fun w' s4 ⟨z',H4,I4,r4,q4⟩=>thn (ho' pZ s4 σ H4 y z' u w' _ I4 r2 r4 q4) fun d' s5 ⟨z2,H5,I5,r5,k2,e2,q5⟩=>?_))
  subst e2
  cases r5
  exact wpAny_truthy_bool ⟨H5,I5,q5⟩
theorem line63:(sizeLine:Nat) < 2 ^ 63:=by rw[sizeLine_eq];decide
theorem op_add_str:OpR X (binaryOp .Add) (fun x y H Q=> ∃ i j,x= .str i∧y= .str j∧i.length+j.length≤sizeLine∧Q (.str (i++j)) H):=by
 intro pZ s σ H x y v u Q I rx ry h
 obtain⟨i,j,rfl,rfl,hz,q⟩:=h
 obtain⟨t,rfl⟩:=rx
 obtain⟨t',rfl⟩:=ry
 exact add_str (fun t' tk=>⟨.str (i++j),H,I.tok _,⟨_,rfl⟩,q⟩) hz
theorem vals1 (r:Vals [x] us): ∃ u,us=[u]∧RelV x u:=by
 cases r with
 |cons r1 r2=>cases r2;exact⟨_,rfl,r1⟩
theorem vals2 (r:Vals [x,y] us): ∃ u w',us=[u,w']∧RelV x u∧RelV y w':=by
 cases r with
 |cons r1 r2=>
  cases r2 with
  |cons r3 r4=>cases r4;exact⟨_,_,rfl,r1,r3⟩
theorem call_abs:CallR X (.builtin "abs") (fun xs H Q=> ∃ i,xs=[.int i]∧Q (.int (if i < 0 then -i else i)) H):=by
 intro pZ s σ H xs us Q I r h
 obtain⟨i,rfl,q⟩:=h
 obtain⟨u,rfl,t,rfl⟩:=vals1 r
 exact call_abs_int fun u tk=>⟨.int (if i < 0 then -i else i),H,I.tok _,⟨_,rfl⟩,q⟩
theorem call_max2 (hc:X.calm=true):CallR X (.builtin "max") (fun xs H Q=> ∃ i j,xs=[.int i,.int j]∧Q (.int (if j > i then j else i)) H):=by
 intro pZ s σ H xs us Q I r h
 obtain⟨i,j,rfl,q⟩:=h
 obtain⟨u,w',rfl,⟨t,rfl⟩,⟨t',rfl⟩⟩:=vals2 r
 refine max_two_ints (I.ok.hd hc) fun h' tk k=>⟨_,H,I.kept k,?_,q⟩
 by_cases hj:j > i
 ·rw[if_pos hj,if_pos hj];exact⟨_,rfl⟩
 ·rw[if_neg hj,if_neg hj];exact⟨_,rfl⟩
theorem call_min2 (hc:X.calm=true):CallR X (.builtin "min") (fun xs H Q=> ∃ i j,xs=[.int i,.int j]∧Q (.int (if j < i then j else i)) H):=by
 intro pZ s σ H xs us Q I r h
 obtain⟨i,j,rfl,q⟩:=h
 obtain⟨u,w',rfl,⟨t,rfl⟩,⟨t',rfl⟩⟩:=vals2 r
 refine min_two_ints (I.ok.hd hc) fun h' tk k=>⟨_,H,I.kept k,?_,q⟩
 by_cases hj:j < i
 ·rw[if_pos hj,if_pos hj];exact⟨_,rfl⟩
 ·rw[if_neg hj,if_neg hj];exact⟨_,rfl⟩
def LenV (K:PySem.W.Frag) (x:V) (H:Hp) (n:Nat):Prop:=
 match x with
 | .str y=>y.length≤sizeLine∧n=y.length
 | .byt y=>y.size≤sizeLine∧n=y.size
 | .ref p=>(∃ xs,SqL K H p xs∧n=xs.length)∨∃ xs,SqT K H p xs∧n=xs.length
 |_=>False
theorem call_len:CallR X (.builtin "len") (fun xs H Q=> ∃ x n,xs=[x]∧LenV X.K x H n∧Q (.int n) H):=by
 intro pZ s σ H xs us Q I r h
 obtain⟨x,n,rfl,e,q⟩:=h
 obtain⟨u,rfl,rx⟩:=vals1 r
 have hl:=line63
 have hs:sizeLine=16777216:=sizeLine_eq
 cases x with
 |str y=>
  obtain⟨t,rfl⟩:=rx
  obtain⟨hy,e'⟩:y.length≤sizeLine∧n=y.length:=e
  subst e'
  exact len_str (by lia) ⟨.int _,H,I.tok _,⟨_,rfl⟩,q⟩
 |byt y=>
  obtain⟨t,rfl⟩:=rx
  obtain⟨hy,e'⟩:y.size≤sizeLine∧n=y.size:=e
  subst e'
  exact PySem.W.len_bytes (by lia) ⟨.int _,H,I.tok _,⟨_,rfl⟩,q⟩
 |ref p=>
  cases rx
  have e':(∃ xs,SqL X.K H p xs∧n=xs.length)∨∃ xs,SqT X.K H p xs∧n=xs.length:=e
  rcases e' with⟨xs,hx,e'⟩|⟨xs,hx,e'⟩
  ·subst e'
   obtain⟨its,r',pl,hz⟩:=I.list hx
   have hlen:=r'.length
   exact Calls.call_len_list pl.isList (by simp only[List.size_toArray];lia) ⟨.int xs.length,H,I.tok _,⟨_,by simp only[List.size_toArray];rw[hlen]⟩,q⟩
  ·subst e'
   obtain⟨its,r',pl,hz⟩:=I.tuple hx
   have hlen:=r'.length
   exact len_tuple pl (by simp only[List.size_toArray];lia) ⟨.int xs.length,H,I.tok _,⟨_,by simp only[List.size_toArray];rw[hlen]⟩,q⟩
 |_=>exact(show False from e).elim
end
end L2
namespace L2
open PySem PySem.Spec PyProof.Rows
structure ObjM (h:Heap) (x dx C:Addr) (mA:Str→Option Value):Prop where
 obj:h.get? x=some (PySem.W.instObj C dx)
 ns:h.Ns1 dx mA
 ne:dx≠x
theorem lookIn_ns {h:Heap} (n:h.Ns1 dx mA): ∃ od,h.get? dx=some od∧∀ name,PySem.W.lookIn name od=some (mA name):=by
 obtain⟨o,es,ep,ho,hd,hk,_,hm⟩:=n
 refine⟨o,ho,fun name=>?_⟩
 have e:=hm name
 unfold nsFind findBy at e
 rw[←Array.find?_toList] at e
 unfold PySem.W.lookIn
 rw[hd]
 dsimp only
 split
 ·rename_i y q
  rw[q] at e
  exact congrArg some e
 ·rename_i q
  rw[q] at e
  have a:es.toList.any (·.refKey)=false:=by
   rw[List.any_eq_false]
   intro y hy
   obtain⟨z,t,hkey⟩:=hk y (Array.mem_toList_iff.mp hy)
   simp[DictEntry.refKey,hkey]
  have a': ¬ es.toList.any (·.refKey)=true:=by rw[a];exact Bool.false_ne_true
  rw[if_neg a']
  exact congrArg some e
theorem ObjM.look (I:ObjM h x dx C mA): ∃ od,PySem.W.InstAt h x (PySem.W.instObj C dx) C (some od)∧∀ name,PySem.W.lookIn name od=some (mA name):=
 let ⟨od,ho,hl⟩:=lookIn_ns I.ns
 ⟨od,⟨I.obj,rfl,rfl,ho⟩,hl⟩
section
variable {P:Program} {w:World} {H H':Hp} {h h':Heap} {a C dx:Addr} {fs fs':List (Str×V)}
theorem ins_get (hok:HOk P w H h) (e:H a=some (.ins C dx fs)): ∃ mA,ObjM h a dx C mA∧(∀ f,RelO (fs.lookup f) (mA f))∧PySem.Within mA (fs.map (·.1))∧fs.length≤1000∧H dx=some (.own a):=by
 obtain⟨d,z,ne,ob,mA,n,r,q⟩:=(show ObjOk P w H h a (.ins C dx fs) from hok a _ e)
 exact⟨mA,⟨ob,n,ne⟩,r,q,z,d⟩
end
structure Cls (K:PySem.W.Frag) (C:Addr):Prop where
 pg:PySem.W.plainGet K C Str.empty=true
 hd:PySem.W.hasDictIn K C=true
 po:PySem.W.plainOver K C=true
 sa:PySem.W.findIn K (.ref C) "__setattr__"=some (some (.builtin "object.__setattr__"))
theorem Cls.get {K:PySem.W.Frag} {C:Addr} (c:Cls K C) (f:Str):PySem.W.plainGet K C f=true:=c.pg
section
variable {X:Cx} {pZ:List (Addr×Obj)} {σ:St} {H:Hp} {s:Shared} {A:Around} {E:Value→Shared→Prop} {Q:Value→Shared→Prop} {c:Value} {b:Bool}
inductive TyOf (K:PySem.W.Frag) (H:Hp):V→Value→Prop where
 |non:TyOf K H .non (.type "NoneType")
 |bl (x:Bool):TyOf K H (.bl x) (.type "bool")
 |int (i:Int):TyOf K H (.int i) (.type "int")
 |str (x:Str):TyOf K H (.str x) (.type "str")
 |flt (x:UInt64):TyOf K H (.flt x) (.type "float")
 |lst {a:Addr} {xs:List V} (e:H a=some (.lst xs)):TyOf K H (.ref a) (.type "list")
 |frz {a:Addr} {o:Obj} {xs:List V} (e:H a=some (.frz o (.lst xs))):TyOf K H (.ref a) (.type "list")
 |tup {a:Addr} {xs:List V} (e:H a=some (.tup xs)):TyOf K H (.ref a) (.type "tuple")
 |dK {a:Addr} {kvs:List (Key×V)} (e:Rd H a (.dK kvs)):TyOf K H (.ref a) (.type "dict")
 |dT {a:Addr} {kvs:List (List Key×V)} (e:H a=some (.dT kvs)):TyOf K H (.ref a) (.type "dict")
 |ins {a C dx:Addr} {fs:List (Str×V)} (e:H a=some (.ins C dx fs)) (cl:Cls K C) (ha:PySem.W.findIn K (.ref C) "__class__"=some (some (.builtin "object.__class__")))
   (hn:PySem.W.specialIn K (.builtin "object.__class__") "__get__"=some (some (.builtin "getset_descriptor.__get__"))) (htk:PySem.W.takesIn K (.builtin "object.__class__")=some true)
   (hm:PySem.W.mroIn K C (.type "object")=some true):TyOf K H (.ref a) (.ref C)
theorem isinst_ok (I:Inv X pZ σ H s) (rx:RelV x u) (ty:TyOf X.K H x t) (e:PySem.W.kitOne X.K t c=some b) (h: ∀ tk,Q (.bool b) {s with toks:=tk}):
  wpAny (model X.prog X.w) A (call (.builtin "isinstance") [u,c]) Q E s:=by
 cases ty with
 |non=>cases (show u=Value.none from rx);exact PySem.W.kia_one PySem.W.kitx_none I.kIn True.intro e (fun z=>nomatch z) h
 |bl y=>cases (show u=Value.bool y from rx);exact PySem.W.kia_one PySem.W.kitx_bool I.kIn True.intro e (fun z=>nomatch z) h
 |int i=>obtain⟨t,q⟩:=(show ∃ t,u=Value.int i t from rx);cases q;exact PySem.W.kia_one PySem.W.kitx_int I.kIn True.intro e (fun z=>nomatch z) h
 |str y=>obtain⟨t,q⟩:=(show ∃ t,u=Value.str y t from rx);cases q;exact PySem.W.kia_one PySem.W.kitx_str I.kIn True.intro e (fun z=>nomatch z) h
 |flt y=>obtain⟨t,q⟩:=(show ∃ t,u=Value.float y t from rx);cases q;exact PySem.W.kia_one PySem.W.kitx_float I.kIn True.intro e (fun z=>nomatch z) h
 | @lst a xs ea=>
  cases (show u=Value.ref a from rx)
  obtain⟨_,_,n,_,h1⟩:=(show ObjOk X.prog X.w H s.heap a (.lst xs) from I.hok a _ ea)
  exact PySem.W.kia_one PySem.W.kitx_list I.kIn ⟨_,h1,rfl⟩ e (fun z=>nomatch z) h
 | @frz a ob xs ea=>
  cases (show u=Value.ref a from rx)
  obtain⟨_,_,_,n,_,h1⟩:=(show ObjOk X.prog X.w H s.heap a (.frz ob (.lst xs)) from I.hok a _ ea)
  exact PySem.W.kia_one PySem.W.kitx_list I.kIn ⟨_,h1,rfl⟩ e (fun z=>nomatch z) h
 | @tup a xs ea=>
  cases (show u=Value.ref a from rx)
  obtain⟨_,_,_,p⟩:=(show ObjOk X.prog X.w H s.heap a (.tup xs) from I.hok a _ ea)
  obtain⟨o,h1,h2,_⟩:=p
  exact PySem.W.kia_one PySem.W.kitx_tuple I.kIn ⟨o,h1,h2⟩ e (fun z=>nomatch z) h
 | @dK a kvs ea=>
  cases (show u=Value.ref a from rx)
  obtain⟨_,_,vs,_,p⟩:=(show ObjOk X.prog X.w H s.heap a (.dK kvs) from ea.ok I.hok)
  obtain⟨o,es,ep,h1,h2,_⟩:=p
  exact PySem.W.kia_one PySem.W.kitx_dict I.kIn ⟨o,h1,h2.1⟩ e (fun z=>nomatch z) h
 | @dT a kvs ea=>
  cases (show u=Value.ref a from rx)
  obtain⟨_,_,xs,_,o,es,ep,h1,h2,_⟩:=(show ObjOk X.prog X.w H s.heap a (.dT kvs) from I.hok a _ ea)
  exact PySem.W.kia_one PySem.W.kitx_dict I.kIn ⟨o,h1,h2.1⟩ e (fun z=>nomatch z) h
 | @ins a C dx fs ea cl ha hn htk hm=>
  cases (show u=Value.ref a from rx)
  obtain⟨mA,O,_⟩:=ins_get I.hok ea
  obtain⟨od,J,_⟩:=O.look
  exact PySem.W.kia_one (PySem.W.kitx_own (cl.get _) cl.hd ha hn htk hm) I.kIn J e (fun z=>nomatch z) h
end
end L2
namespace L2
open PySem PySem.Spec PyProof.Rows
structure Room (k:Nat) (A:Around):Prop where
 hd:A.handled=none
 dp:A.depth+3 * k+5 < recursionLimit
 un:A.units+16 * k+200 < cLine
 gd:A.guards=some []
theorem Room.mono (r:Room k A) (h:j≤k):Room j A:=⟨r.hd,by have:=r.dp;lia,by have:=r.un;lia,r.gd⟩
theorem Room.deeper (r:Room (k+1) A) (env:Env):Room k (A.deeper env):=
 ⟨r.hd,by have:=r.dp;show A.depth+1+3 * k+5 < _;lia,by have:=r.un;show A.units+3+16 * k+200 < _;lia,r.gd⟩
theorem Room.in1 (r:Room (k+1) A):Room k A.in1:=
 ⟨r.hd,by have:=r.dp;show A.depth+3 * k+5 < _;lia,by have:=r.un;show A.units+1+16 * k+200 < _;lia,by first|exact r.gd|(simp[Around.in1,r.gd])⟩
theorem Room.depth (r:Room k A):A.depth < recursionLimit:=by have:=r.dp;lia
theorem Room.units (r:Room k A):A.units+64 < cLine:=by have:=r.un;lia
theorem Room.units0 (r:Room k A):A.units < cLine:=by have:=r.un;lia
def tNil:TA:=fun _ H Q=>Q [] H
def tCons (ta:TE) (tr:TA):TA:=fun σ H Q=>ta σ H fun x H1=>tr σ H1 fun xs H2=>Q (x::xs) H2
section
variable {X:Cx} {e:Expr} {es:List Expr} {te:TE} {t:TA} {pos:Pos}
theorem pa_nil:PA X [] tNil:=fun _ _ _ _ H Q I h=>Calls.spliced_nil ⟨[],H,I,.nil,h⟩
theorem pa_cons (ha:PE X e te) (hr:PA X es t) (hs:starEach (e::es) X.env=(false,eval e X.env)::starEach es X.env:=by rfl):PA X (e::es) (tCons te t):=by
 intro pos pZ s σ H Q I h
 rw[hs]
 show wpAny _ _ (spliced ((false,eval e X.env)::backTo pos (starEach es X.env))) _ _ s
 refine Calls.spliced_cons (thn (ha pZ s σ H _ I h) fun u s1 ⟨x,H1,I1,r1,q1⟩=>?_)
 exact thn (hr pos pZ s1 σ H1 _ I1 q1) fun us s2 ⟨xs,H2,I2,r2,q2⟩=>⟨x::xs,H2,I2,.cons r1 r2,q2⟩
def tTup (t:TA):TE:=fun σ H Q=>t σ H fun xs H1=>xs.length≤sizeLine∧∀ p,H1 p=none→Q (.ref p) (upd H1 p (.tup xs))
def tLst (t:TA):TE:=fun σ H Q=>t σ H fun xs H1=>xs.length≤sizeLine∧∀ p,H1 p=none→Q (.ref p) (upd H1 p (.lst xs))
theorem pe_tup {x1} (h:PA X es t):PE X (.Tuple es x1 pos) (tTup t):=by
 intro pZ s σ H Q I hq
 refine wpAny_Tuple_spliced (thn (h pos pZ s σ H _ I hq) fun us s1 ⟨xs,H1,I1,r,z,q⟩=>⟨by rw[←r.length];exact z,?_⟩)
 have hf:H1 s1.heap.objs.size=none:=I1.hok.fresh (Nat.le_refl _)
 refine⟨.ref s1.heap.objs.size,upd H1 s1.heap.objs.size (.tup xs),I1.laid (t':=s1.toks) (fun b u e=>Heap.get?_push_of_some _ e) (Nat.le_refl _) ?_,rfl,q _ hf⟩
 exact⟨z,us,r,⟨_,Heap.get?_push_size _ rfl,rfl,_,rfl⟩⟩
theorem pe_lst (h:PA X es t):PE X (.List es pos) (tLst t):=by
 intro pZ s σ H Q I hq
 refine wpAny_List_spliced (thn (h pos pZ s σ H _ I hq) fun us s1 ⟨xs,H1,I1,r,z,q⟩=>⟨by rw[←r.length];exact z,?_⟩)
 have hf:H1 s1.heap.objs.size=none:=I1.hok.fresh (Nat.le_refl _)
 refine⟨.ref s1.heap.objs.size,upd H1 s1.heap.objs.size (.lst xs),I1.laid (t':=s1.toks) (fun b u e=>Heap.get?_push_of_some _ e) (Nat.le_refl _) ?_,rfl,q _ hf⟩
 exact⟨z,us,0,r,Heap.get?_push_size _ rfl⟩
end
abbrev Sp:=List V→Hp→VK→XK→Prop
abbrev CXT:=List Env→Hp→Shared→XK→Value→Shared→Prop
structure Env0 (P:Program) (w:World) (K:PySem.W.Frag) (mg:Str→Option Value) (base:Heap) (A:Around) (outer:List Env) (s:Shared) (H:Hp):Prop where
 frames:A.frames=some outer
 mod:Mod K mg base
 bs: ∀ b o,base.get? b=some o→s.heap.get? b=some o∧H b=none
 bsz:base.objs.size≤s.heap.objs.size
 funs:s.heap.FunFrames base outer
 frf: ∀ b∈frs outer,H b=none
 hok:HOk P w H s.heap
 bare:AllBare s.gens
def CE (outer:List Env) (P:Program) (w:World) (H:Hp) (s:Shared) (Q:VK) (u:Value) (s':Shared):Prop:=
 ∃ v H',s'.os=s.os∧AllBare s'.gens∧Un (frs outer) [] H H' s.heap s'.heap∧HOk P w H' s'.heap∧RelV v u∧Q v H'
def CR (CX:CXT) (outer:List Env) (P:Program) (w:World) (H:Hp) (s:Shared) (Q:VK) (E:XK) (r:Result) (s':Shared):Prop:=
 match r with
 | .ok (.ret u)=>CE outer P w H s Q u s'
 | .ok _=>False
 | .error e=>CX outer H s E e s'
structure FnOk (P:Program) (w:World) (K:PySem.W.Frag) (mg:Str→Option Value) (base:Heap) (CX:CXT) (k:Nat) (f:Addr) (fd:FuncData) (ps:List Str) (sp:Sp):Prop where
 len: ∀ vs H Q E,sp vs H Q E→vs.length=ps.length
 run: ∀ (A:Around) (outer:List Env) (s:Shared) (H:Hp) (args:Args) (us:List Value) (vs:List V) (Q:VK) (E:XK),Room k A→Env0 P w K mg base A outer s H→BindsTo s fd args (ps.zip us)→Vals vs us→sp vs H Q E→
  codeAny (model P w) A (.call (.ref f) args) (CR CX outer P w H s Q E) s
theorem FnOk.imp {P:Program} {w:World} {K:PySem.W.Frag} {mg:Str→Option Value} {base:Heap} {CX:CXT} {k:Nat} {f:Addr} {fd:FuncData} {ps:List Str} {sp sp':Sp} (F:FnOk P w K mg base CX k f fd ps sp)
  (h: ∀ vs H Q E,sp' vs H Q E→sp vs H Q E):FnOk P w K mg base CX k f fd ps sp':=
 ⟨fun vs H Q E q=>F.len vs H Q E (h _ _ _ _ q),fun A outer s H args us vs Q E hr he hb hv hs=>F.run A outer s H args us vs Q E hr he hb hv (h _ _ _ _ hs)⟩
section
variable {X:Cx} {pZ:List (Addr×Obj)} {σ:St} {H:Hp} {s s':Shared}
theorem Inv.env0 (I:Inv X pZ σ H s):Env0 X.prog X.w X.K X.mg X.base X.A X.stack s H:=
 ⟨I.ok.frames,I.ok.mod,I.bs,Nat.le_trans I.ok.bsz I.sz,I.stack,I.stkFree,I.hok,I.bare⟩
theorem Inv.after (I:Inv X pZ σ H s) (h:CE X.stack X.prog X.w H s Q u s'):EP X pZ σ Q u s':=by
 obtain⟨v,H',os,bare,un,hok,r,q⟩:=h
 obtain⟨hh,g,d,t,os'⟩:=s'
 obtain rfl:os'=s.os:=os
 exact⟨v,H',I.call (h':=hh) (g':=g) (d':=d) (t':=t) (ch:=[]) un hok bare (fun b z=>absurd z (by simp)),r,q⟩
end
def tCall (sp:Sp) (dvs:List V) (E:XK) (t:TA):TE:=fun σ H Q=>t σ H fun vs H1=>sp (vs++dvs) H1 Q E
def Binds (K:PySem.W.Frag) (fd:FuncData) (ps:List Str) (ds:List Value):Prop:=
 ∀ (s:Shared) (us:List Value),K.In s.heap→(us++ds).length=ps.length→BindsTo s fd ⟨us,[]⟩ (ps.zip (us++ds))
theorem Binds.all {K:PySem.W.Frag} {fd:FuncData} {ps:List Str} (h: ∀ us:List Value,us.length=ps.length→bindArgs fd ⟨us,[]⟩=pure (ps.zip us)):Binds K fd ps []:=fun s us _ hl=>by
 rw[List.append_nil] at hl ⊢
 exact .of_eq (h us hl)
def Passes (CX:CXT) (X:Cx) (E:XK):Prop:= ∀ (pZ:List (Addr×Obj)) (σ:St) (H:Hp) (s:Shared) (e:Value) (s':Shared),Inv X pZ σ H s→CX X.stack H s E e s'→X.xe e s'
section
variable {X:Cx} {CX:CXT} {k:Nat} {f C:Addr} {fd:FuncData} {ps:List Str} {sp:Sp} {dvs:List V} {ds:List Value} {E:XK} {x m:Str} {p pos apos:Pos} {e o:Expr} {es:List Expr} {ta:TE} {t:TA}
theorem run_fn (F:FnOk X.prog X.w X.K X.mg X.base CX k f fd ps sp) (hr:Room k X.A) (hb:Binds X.K fd ps ds) (hd:Vals dvs ds) (hx:Passes CX X E)
  (I:Inv X pZ σ H s) (r:Vals vs us) (h:sp (vs++dvs) H Q E):wpAny (model X.prog X.w) X.A (call (.ref f) us) (EP X pZ σ Q) X.xe s:=by
 have r2:Vals (vs++dvs) (us++ds):=r.append hd
 have hl:(us++ds).length=ps.length:=by rw[←r2.length];exact F.len _ _ _ _ h
 refine wpAny_call (codeAny_mono (F.run X.A X.stack s H ⟨us,[]⟩ (us++ds) (vs++dvs) Q E hr I.env0 (hb s us I.kIn hl) r2 h) fun r s' hq=>?_)
 cases r with
 |error e=>exact hx pZ σ H s e s' I hq
 |ok fl=>
  cases fl with
  |ret u=>exact I.after hq
  |next=>exact False.elim hq
  |brk=>exact False.elim hq
  |cont=>exact False.elim hq
theorem pe_call (F:FnOk X.prog X.w X.K X.mg X.base CX k f fd ps sp) (hr:Room k X.A) (hg:Gl X x) (hm:X.mg x=some (.ref f)) (hk:PySem.W.keepIn X.K (.ref f)=true) (hb:Binds X.K fd ps ds) (hd:Vals dvs ds) (hx:Passes CX X E)
  (ha:PA X (e::es) t) (hdb:(x==("__debug__":Str))=false:=by decide) (he:starEach (e::es) X.env=(false,eval e X.env)::starEach es X.env:=by rfl) (hpl:(backTo pos (starEach es X.env)).any (·.1)=false:=by rfl):
  PE X (.Call (.Name x p) (e::es) [] pos) (tCall sp dvs E t):=by
 intro pZ s σ H Q I h
 refine wpAny_Call_Name_kw (ld_glob I hg hm ?_ hdb)
 refine PySem.W.callWith_K (h₀:=X.base) I.ok.mod.kin hk (thn (ha pos pZ s σ H _ I h) fun us s1 ⟨vs,H1,I1,r,q⟩=>⟨I1.kIn,?_⟩) he hpl
 exact run_fn F hr hb hd hx I1 r q
end
structure FnScope (N P:List Str) (sc:Scope):Prop where
 kind:sc.kind= .function
 co:sc.isCoroutine=false
 gen:sc.isGenerator=false
 nd:N.Nodup
 pre:N.take P.length=P
 par: ∀ x∈P,sc.names.lookup x=some .local∨sc.names.lookup x=some .cell
 nofree: ∀ y∈sc.names,y.2≠.free
theorem bindL_out {kindOf:Str→Option NameKind} {x:Str}: ∀ {binds:List (Str×Value)} {m:Str→Option Value},(∀ v,(x,v)∉binds)→bindL kindOf binds m x=m x
 |[],_,_=>rfl
 |(n,v)::r,m,h=>by
  unfold bindL
  rw[bindL_out fun w hw=>h w (List.mem_cons_of_mem _ hw)]
  split
  ·have:x≠n:=by rintro rfl;exact h v List.mem_cons_self
   simp[this]
  ·rfl
theorem bindC_out {kindOf:Str→Option NameKind} {x:Str}: ∀ {binds:List (Str×Value)} {m:Str→Option Value},(∀ v,(x,v)∉binds)→bindC kindOf binds m x=m x
 |[],_,_=>rfl
 |(n,v)::r,m,h=>by
  unfold bindC
  rw[bindC_out fun w hw=>h w (List.mem_cons_of_mem _ hw)]
  split
  ·rfl
  ·have:x≠n:=by rintro rfl;exact h v List.mem_cons_self
   simp[this]
theorem bindL_get {kindOf:Str→Option NameKind}: ∀ {P:List Str} {vs:List Value} {i:Nat} {m:Str→Option Value},P.Nodup→P[i]?=some x→vs[i]?=some v→kindOf x=some .local→
  bindL kindOf (P.zip vs) m x=some v
 |[],_,_,_,_,h,_,_=>by simp at h
 |_::_,[],_,_,_,_,h,_=>by simp at h
 |p::P,w::vs,0,m,nd,h1,h2,hk=>by
  simp at h1 h2;subst h1;subst h2
  show bindL kindOf ((p,w)::P.zip vs) m p=_
  unfold bindL
  rw[bindL_out fun v hv=>(List.nodup_cons.mp nd).1 (List.of_mem_zip hv).1,if_pos hk]
  simp
 |p::P,w::vs,i+1,m,nd,h1,h2,hk=>by
  show bindL kindOf ((p,w)::P.zip vs) m x=_
  unfold bindL
  exact bindL_get (i:=i) (List.nodup_cons.mp nd).2 (by simpa using h1) (by simpa using h2) hk
theorem bindC_get {kindOf:Str→Option NameKind}: ∀ {P:List Str} {vs:List Value} {i:Nat} {m:Str→Option Value},P.Nodup→P[i]?=some x→vs[i]?=some v→kindOf x≠some .local→
  bindC kindOf (P.zip vs) m x=some v
 |[],_,_,_,_,h,_,_=>by simp at h
 |_::_,[],_,_,_,_,h,_=>by simp at h
 |p::P,w::vs,0,m,nd,h1,h2,hk=>by
  simp at h1 h2;subst h1;subst h2
  show bindC kindOf ((p,w)::P.zip vs) m p=_
  unfold bindC
  rw[bindC_out fun v hv=>(List.nodup_cons.mp nd).1 (List.of_mem_zip hv).1,if_neg hk]
  simp
 |p::P,w::vs,i+1,m,nd,h1,h2,hk=>by
  show bindC kindOf ((p,w)::P.zip vs) m x=_
  unfold bindC
  exact bindC_get (i:=i) (List.nodup_cons.mp nd).2 (by simpa using h1) (by simpa using h2) hk
def start (N:List Str) (vs:List V):St:=vs.map some++List.replicate (N.length - vs.length) none
noncomputable def cxOf (CX:CXT) (P:Program) (w:World) (K:PySem.W.Frag) (mg:Str→Option Value) (base:Heap) (N:List Str) (qual:Str) (scope:Scope) (f:Addr) (cd:Value) (A:Around) (outer:List Env) (s:Shared) (H:Hp) (E:XK):Cx where
 prog:=P
 w:=w
 K:=K
 mg:=mg
 base:=base
 A:=A.deeper (envOfC qual scope s.heap.objs.size f cd)
 N:=N
 s₀:=s
 H₀:=H
 env:=envOfC qual scope s.heap.objs.size f cd
 outer:=outer
 stack:=envOfC qual scope s.heap.objs.size f cd::outer
 ex:=[]
 calm:=true
 fn:=fun _=>true
 pn:=[]
 xe:=fun e s'=>wpAny (model P w) (A.deeper (envOfC qual scope s.heap.objs.size f cd)) (leaving (envOfC qual scope s.heap.objs.size f cd) e) (fun _ s''=>CX outer H s E e s'') (fun e' s''=>CX outer H s E e' s'') s'
theorem cell_has {sc:Scope} (h:sc.names.lookup x=some .cell): ∃ c,(cellsFrom n sc.names []).lookup x=some c:=by
 have q:=PySem.W.cellsFrom_some sc.names n [] (.inl h)
 exact Option.isSome_iff_exists.mp q
theorem inv_start {CX:CXT} {P:Program} {w:World} {K:PySem.W.Frag} {mg:Str→Option Value} {base:Heap} {N ps:List Str} {qual:Str} {scope:Scope} {f:Addr} {cd:Value} {A:Around} {outer:List Env} {s s1:Shared} {H:Hp} {E:XK} {us:List Value} {vs:List V}
  (S:FnScope N ps scope) (hd:A.handled=none) (e0:Env0 P w K mg base A outer s H) (hl:vs.length=ps.length) (r:Vals vs us)
  (x:InCallC s s.heap.objs.size (bindL (envOfC qual scope s.heap.objs.size f cd).kindOf (ps.zip us) fun _=>none) (cellsFrom (s.heap.objs.size+1) scope.names []) (bindC (envOfC qual scope s.heap.objs.size f cd).kindOf (ps.zip us) fun _=>none) s1):
  Inv (cxOf CX P w K mg base N qual scope f cd A outer s H E) [] (start N vs) H s1:=by
 have hpl:ps.length≤N.length:=by have:=congrArg List.length S.pre;rw[List.length_take] at this;lia
 obtain⟨h1,tk,rfl,hk⟩:=x.done
 have noA: ∀ b:Addr,b∉(cxOf CX P w K mg base N qual scope f cd A outer s H E).ex:=fun b z=>absurd (show b∈([]:List Addr) from z) (by simp)
 refine⟨⟨e0.mod,S.kind,rfl,rfl,Nat.le_refl _,fun y z c h1 h2=>?_,fun y hy=>?_,fun y c _ h=>?_,fun _=>hd,Around.frames_deeper e0.frames,.inr ⟨rfl,rfl⟩,fun b z=>absurd z (noA b),e0.bs,e0.bsz,fun b _ _=>noA b,fun b z=>absurd z (noA b),e0.funs,e0.frf⟩,
  rfl,e0.bare,Un.kept hk,⟨_,x.toInCall.ns,fun i y v h1 h2 h3=>?_⟩,fun y c h=>⟨_,x.cell y c h⟩,e0.hok.fresh (Nat.le_refl _),fun y c h=>?_,fun p hp=>absurd (show p∈([]:List (Addr×Obj)) from hp) (by simp),e0.hok.kept hk,?_⟩
 ·exact name_of_addr x.apart (PySem.mem_of_lookup h1) (PySem.mem_of_lookup h2)
 ·have hy:scope.names.lookup y=some .cell∨scope.names.lookup y=some .free:=hy
  rcases hy with hy|hy
  ·exact cell_has hy
  ·exact absurd rfl (S.nofree _ (PySem.mem_of_lookup hy))
 ·exact Nat.le_of_lt (x.above y c (PySem.mem_of_lookup h))
 ·have hi:i < vs.length:=by
   unfold start at h2
   by_cases hi:i < vs.length
   ·exact hi
   ·rw[List.getElem?_append_right (by simpa using hi)] at h2
    rw[List.getElem?_replicate] at h2
    split at h2<;>cases h2
  have ha:vs[i]?=some v:=by
   unfold start at h2
   rw[List.getElem?_append_left (by simpa using hi),List.getElem?_map] at h2
   cases e:vs[i]? with
   |none=>rw[e] at h2;cases h2
   |some a=>rw[e] at h2;cases h2;rfl
  obtain⟨u,hu,rv⟩:=r.get ha
  have hp:ps[i]?=some y:=by
   rw[←S.pre,List.getElem?_take_of_lt (by lia)];exact h1
  have ndP:ps.Nodup:=by rw[←S.pre];exact S.nd.sublist (List.take_sublist _ _)
  refine⟨u,rv,?_⟩
  rcases S.par y (List.mem_of_getElem? hp) with k|k
  ·exact .inl ⟨k,bindL_get ndP hp hu k⟩
  ·obtain⟨c,e⟩:=cell_has (n:=s.heap.objs.size+1) k
   refine .inr ⟨.inl k,c,e,?_⟩
   have q:=x.cell y c e
   rw[bindC_get ndP hp hu (by show scope.names.lookup y≠_;rw[k];decide)] at q
   exact q
 ·exact e0.hok.fresh (Nat.le_of_lt (x.above y c (PySem.mem_of_lookup h)))
 ·unfold start
  show _=N.length
  rw[List.length_append,List.length_map,List.length_replicate]
  lia
theorem fn_of {CX:CXT} {P:Program} {w:World} {K:PySem.W.Frag} {mg:Str→Option Value} {base:Heap} {k:Nat} {f:Addr} {name qual:Str} {params:Arguments} {body:List Stmt} {scope:Scope} {dV kV doc pm cdv ct oc:Value} {an od:Option Addr}
  {osl:Array (Option Value)} {N ps:List Str} {sp:Sp} (lk:K.lookup f=some ⟨oc,od,.func (PySem.W.fnOf name qual params body scope dV kV doc pm an cdv ct),osl⟩) (hcd:PySem.W.codeIn K cdv qual=true) (S:FnScope N ps scope)
  (len: ∀ vs H Q E,sp vs H Q E→vs.length=ps.length)
  (hbody: ∀ (A:Around) (outer:List Env) (s:Shared) (H:Hp) (vs:List V) (Q:VK) (E:XK),Room k (A.deeper (envOfC qual scope s.heap.objs.size f cdv))→sp vs H Q E→
   ∃ t,PSs (cxOf CX P w K mg base N qual scope f cdv A outer s H E) body t∧t {nx:=fun _ H'=>Q .non H',rt:=Q} (start N vs) H):
  FnOk P w K mg base CX (k+1) f (PySem.W.fnOf name qual params body scope dV kV doc pm an cdv ct) ps sp:=by
 refine⟨len,fun A outer s H args us vs Q E hr e0 hb r hsp=>?_⟩
 have hl:=len _ _ _ _ hsp
 have KX:K.In s.heap:=e0.mod.kin.keeps fun b o e=>(e0.bs b o e).1
 have lim:s.heap.NoLimit:=e0.mod.nolimit.keeps fun b o e=>(e0.bs b o e).1
 have hkind: ∀ y∈ps.zip us,scope.names.lookup y.1=some .local∨(scope.names.lookup y.1=some .cell∧((cellsFrom (s.heap.objs.size+1) scope.names []).lookup y.1).isSome=true):=fun hq0 hy=>by
  obtain⟨n,v⟩:=hq0
  rcases S.par n (List.of_mem_zip hy).1 with q|q
  ·exact .inl q
  ·exact .inr ⟨q,PySem.W.cellsFrom_some _ _ _ (.inl q)⟩
 refine codeAny_call_function hr.depth (KX _ _ lk) rfl S.co S.gen rfl (PySem.W.codeRec_of KX hcd) (hb _ _ _ _ ?_)
 refine wpAny_newFunctionEnv_cells S.kind hkind fun env he s1 x=>?_
 subst he
 refine⟨lim.keeps x.toInCall.keep,codeAny_func ?_⟩
 obtain⟨t,ht,hq⟩:=hbody A outer s H vs Q E (hr.deeper _) hsp
 have I:Inv (cxOf CX P w K mg base N qual scope f cdv A outer s H E) [] (start N vs) H s1:=inv_start S hr.hd e0 hl r x
 refine wpAny_mono (ht [] s1 (start N vs) H _ I hq) (fun fl s' hs=>?_) fun e s' hs=>hs
 have fin: ∀ {σ':St} {H':Hp} {v:V} {u:Value},Inv (cxOf CX P w K mg base N qual scope f cdv A outer s H E) [] σ' H' s'→RelV v u→Q v H'→CE outer P w H s Q u s':=
  fun {σ' H' v u} J rv q=>⟨v,H',J.os,J.bare,J.base,J.hok,rv,q⟩
 cases fl with
 |ret u=>
  obtain⟨v,σ',H',J,rv,q⟩:=hs
  exact fin J rv q
 |next=>
  obtain⟨σ',H',J,q⟩:=hs
  exact fin (v:=V.non) (u:=Value.none) J rfl q
 |brk=>
  obtain⟨_,_,_,q⟩:=hs
  exact False.elim q
 |cont=>
  obtain⟨_,_,_,q⟩:=hs
  exact False.elim q
end L2
namespace L2
open PySem PySem.Spec PyProof.Rows
section
variable {X:Cx} {x:Str} {p pos:Pos} {e:Expr} {es:List Expr} {t:TA} {id T:String} {r:List V→Hp→VK→Prop}
def tCB (r:List V→Hp→VK→Prop) (t:TA):TE:=fun σ H Q=>t σ H fun vs H1=>r vs H1 Q
theorem pe_callB (hc:CallR X (.builtin id) r) (hg:Gl X x) (hm:X.mg x=none) (hv:bootBuiltins x=some (.builtin id)) (ha:PA X (e::es) t) (hn:x≠"__name__":=by decide) (hdb:(x==("__debug__":Str))=false:=by decide)
  (he:starEach (e::es) X.env=(false,eval e X.env)::starEach es X.env:=by rfl) (hpl:(backTo pos (starEach es X.env)).any (·.1)=false:=by rfl):PE X (.Call (.Name x p) (e::es) [] pos) (tCB r t):=by
 intro pZ s σ H Q I h
 refine wpAny_Call_Name_kw (ld_blt I hg hm hv ?_ hn hdb)
 exact PyProof.Rows.callWith_builtin1 (thn (ha pos pZ s σ H _ I h) fun us s1 ⟨vs,H1,I1,r1,q1⟩=>hc pZ s1 σ H1 vs us Q I1 r1 q1) he hpl
theorem pe_callTy (hc:CallR X (.type T) r) (hg:Gl X x) (hm:X.mg x=none) (hv:bootBuiltins x=some (.type T)) (ha:PA X (e::es) t) (hn:x≠"__name__":=by decide) (hdb:(x==("__debug__":Str))=false:=by decide)
  (he:starEach (e::es) X.env=(false,eval e X.env)::starEach es X.env:=by rfl) (hpl:(backTo pos (starEach es X.env)).any (·.1)=false:=by rfl):PE X (.Call (.Name x p) (e::es) [] pos) (tCB r t):=by
 intro pZ s σ H Q I h
 refine wpAny_Call_Name_kw (ld_blt I hg hm hv ?_ hn hdb)
 exact PyProof.Rows.callWith_type1 (thn (ha pos pZ s σ H _ I h) fun us s1 ⟨vs,H1,I1,r1,q1⟩=>hc pZ s1 σ H1 vs us Q I1 r1 q1) he hpl
end
end L2
namespace HT
open PySem PyProof.Rows
def lexLt:List Int→List Int→Bool
 |[],[]=>false
 |[],_::_=>true
 |_::_,[]=>false
 |x::xs,y::ys=>if x=y then lexLt xs ys else decide (x < y)
theorem lexLt_cons (x y:Int) (xs ys:List Int):lexLt (x::xs) (y::ys)=if x=y then lexLt xs ys else decide (x < y):=rfl
theorem lexLt_nil_nil:lexLt [] []=false:=rfl
theorem lexLt_nil_cons (y:Int) (ys:List Int):lexLt [] (y::ys)=true:=rfl
theorem lexLt_cons_nil (x:Int) (xs:List Int):lexLt (x::xs) []=false:=rfl
theorem eqAt_int (A:Around) (s:Shared) (a:Int) (t:Tok) (c:Int) (u:Tok): ∃ e,SeqAt.EqAt A s (.int a t) (.int c u) e∧(e=true↔a=c):=
 ⟨(a==c),SeqAt.EqAt.int_int a t c u,by simp⟩
section
variable {prog : Program} {w : World} {A : Around} {E : Value → Shared → Prop} {s : Shared}
theorem cat_tup (ht:IsTup s.heap t vs.toArray) (hb:IsTup s.heap b ws.toArray) (hv:vs≠[])
  (h1:ws=[]→Q (.ref t) s) (h2:ws≠[]→Q (.ref s.heap.objs.size) {s with heap:=s.heap.push {cls:=.type "tuple",data:=.seq (vs++ws).toArray}})
  (hsz:vs.length+ws.length≤sizeLine):wpAny (model prog w) A (binaryOp .Add (.ref t) (.ref b)) Q E s:=by
 obtain⟨⟨cls,dd,data,sl⟩,ho,hc,n,hd⟩:=id ht
 obtain⟨⟨cls2,dd2,data2,sl2⟩,ho2,hc2,n2,hd2⟩:=id hb
 simp only at hc hd hc2 hd2
 subst hc hd hc2 hd2
 have e:vs.toArray++ws.toArray=(vs++ws).toArray:=by simp
 by_cases hw:ws=[]
 ·exact concat_meets ⟨_,ho,rfl⟩ ⟨_,ho2,rfl⟩ noFill_tuple_add seq_tuple_add PySem.F.slot_tuple_add PySem.F.entry_tuple_add (PySem.F.args_tuple_add_2 _ _)
   (tuple_addW1 t b vs.toArray ws.toArray n n2 dd dd2 sl sl2 (by simpa using hv) (by simp[hw])) ⟨ho,ho2,h1 hw⟩
 ·refine concat_meets ⟨_,ho,rfl⟩ ⟨_,ho2,rfl⟩ noFill_tuple_add seq_tuple_add PySem.F.slot_tuple_add PySem.F.entry_tuple_add (PySem.F.args_tuple_add_2 _ _)
   (tuple_addW2 t b vs.toArray ws.toArray n n2 dd dd2 sl sl2 (by simpa using hv) (by simpa using hw) (by rw[List.size_toArray,List.size_toArray];exact hsz)) ⟨ho,ho2,?_⟩
  rw[e]
  exact h2 hw
def sIx (n d:Nat):Option Int→Nat
 |none=>d
 |some v=>if v < 0 then(v+(n:Int)).toNat else min v.toNat n
theorem sIx_none (n d:Nat):sIx n d none=d:=rfl
theorem sIx_nat (n d k:Nat):sIx n d (some (k:Int))=min k n:=by
 show (if(k:Int) < 0 then((k:Int)+(n:Int)).toNat else min (k:Int).toNat n)=min k n
 rw[if_neg (by lia),Int.toNat_natCast]
theorem sIx_le (n d:Nat) (hd:d≤n) (o:Option Int):sIx n d o≤n:=by
 cases o with
 |none=>exact hd
 |some v=>
  show (if v < 0 then(v+(n:Int)).toNat else min v.toNat n)≤n
  by_cases hv:v < 0
  ·rw[if_pos hv];lia
  ·rw[if_neg hv];exact Nat.min_le_right _ _
theorem clip_eq (v:Int) (n d:Nat):(if v < 0 then max (v+(n:Int)) 0 else min v (n:Int))=((sIx n d (some v):Nat):Int):=by
 show (if v < 0 then max (v+(n:Int)) 0 else min v (n:Int))=(((if v < 0 then(v+(n:Int)).toNat else min v.toNat n):Nat):Int)
 by_cases hv:v < 0
 ·simp only[if_pos hv];lia
 ·simp only[if_neg hv];lia
theorem adjust_gen (lo hi:Option Int) (n:Nat):Builtin.Slice.sliceAdjust lo hi 1 (n:Int)=(((sIx n 0 lo:Nat):Int),((sIx n n hi:Nat):Int)):=by
 have h1: ¬ ((1:Int) < 0):=by lia
 unfold Builtin.Slice.sliceAdjust
 simp only[h1,if_false]
 refine Prod.ext ?_ ?_
 ·cases lo with
  |none=>rfl
  |some v=>exact clip_eq v n 0
 ·cases hi with
  |none=>rfl
  |some v=>exact clip_eq v n n
theorem places_gen (i j:Nat):Builtin.Slice.slicePlaces (i:Int) (j:Int) 1=j - i:=by
 unfold Builtin.Slice.slicePlaces
 have h1:(1:Int) > 0:=by lia
 simp only[h1,if_true,Int.ediv_one]
 split<;>lia
theorem slicePart_ (p:IsPart v o) (h:Q o s):wpAny (model prog w) A (Builtin.Slice.slicePartIndex v) Q E s:=by
 cases p with
 |none=>exact slicePart_none h
 |int i t=>exact slicePart_int h
theorem sliceApplied_gen {sl:Addr} {vl vu:Value} {lo hi:Option Int} {n:Nat} {Q:Int×Int×Nat→Shared→Prop} (hs:s.heap.IsSliceOf sl vl vu .none) (pl:IsPart vl lo) (pu:IsPart vu hi)
  (h:Q (((sIx n 0 lo:Nat):Int),1,sIx n n hi - sIx n 0 lo) s):wpAny (model prog w) A (Builtin.Slice.sliceApplied (.ref sl) (pure (n:Int))) Q E s:=by
 obtain⟨os,hos,hcs,hds⟩:=id hs
 unfold Builtin.Slice.sliceApplied Builtin.Slice.sliceFields
 refine wpAny_bind (wpAny_bind (wpAny_field hos hds (x:=vl) rfl (wpAny_bind (wpAny_field hos hds (x:=vu) rfl (wpAny_bind (wpAny_field hos hds (x:=.none) rfl (wpAny_pure ?_)))))))
 refine wpAny_bind (slicePart_none ?_)
 show wpAny _ _ (if((1:Int)==0)=true then _ else _) _ _ s
 rw[if_neg (by decide)]
 refine wpAny_bind (slicePart_ pl (wpAny_bind (slicePart_ pu (wpAny_bind (wpAny_pure ?_)))))
 show wpAny _ _ (match Builtin.Slice.sliceAdjust lo hi 1 (n:Int) with|(lo,hi)=>pure (lo,(1:Int),Builtin.Slice.slicePlaces lo hi 1)) _ _ s
 rw[adjust_gen lo hi n]
 show wpAny _ _ (pure (((sIx n 0 lo:Nat):Int),(1:Int),Builtin.Slice.slicePlaces ((sIx n 0 lo:Nat):Int) ((sIx n n hi:Nat):Int) 1)) _ _ s
 rw[places_gen]
 exact wpAny_pure h
theorem pick_gen (xs:Array Value) (i k:Nat):((List.range k).filterMap fun (m:Nat)=>xs[((i:Int)+(m:Int) * 1).toNat]?).toArray=((xs.toList.drop i).take k).toArray:=by
 have e:(fun (m:Nat)=>xs[((i:Int)+(m:Int) * 1).toNat]?)=fun m=>xs[i+m]?:=by
  funext m
  have:((i:Int)+(m:Int) * 1).toNat=i+m:=by lia
  rw[this]
 rw[e]
 have:=pick_run xs i k
 rw[List.filterMap_map] at this
 have e2:((fun x=>xs[x]?)∘fun x=>i+x)=fun m=>xs[i+m]?:=rfl
 rw[e2] at this
 rw[this]
theorem getItem_tuple_cut {t sl:Addr} {items:Array Value} {vl vu:Value} {lo hi:Option Int} {Q:Value→Shared→Prop} (ht:IsTup s.heap t items) (hs:s.heap.IsSliceOf sl vl vu .none) (pl:IsPart vl lo) (pu:IsPart vu hi)
  (hw: ¬ (sIx items.size 0 lo=0∧sIx items.size items.size hi=items.size))
  (h:Q (.ref s.heap.objs.size) {s with heap:=s.heap.push {cls:=.type "tuple",data:=.seq ((items.toList.drop (sIx items.size 0 lo)).take (sIx items.size items.size hi - sIx items.size 0 lo)).toArray}})
  (hsz:items.size≤sizeLine):wpAny (model prog w) A (getItem (.ref t) (.ref sl)) Q E s:=by
 have htake:sizeOk (.seq ((items.toList.drop (sIx items.size 0 lo)).take (sIx items.size items.size hi - sIx items.size 0 lo)).toArray):=by
  show ((items.toList.drop (sIx items.size 0 lo)).take (sIx items.size items.size hi - sIx items.size 0 lo)).toArray.size≤sizeLine
  rw[List.size_toArray,List.length_take,List.length_drop,Array.length_toList]
  lia
 have hj:sIx items.size items.size hi≤items.size:=sIx_le _ _ (Nat.le_refl _) hi
 obtain⟨os,hos,hcs,hds⟩:=id hs
 have hTs:s.TypeIs (.ref sl) "slice":=⟨os,hos,hcs⟩
 unfold getItem
 try with_reducible refine wpAny_holding ?_
 first|refine wpAny_bind (wpAny_pure ?_)|skip
 refine wpAny_bind (wpAny_sequenceKey ht.typeIs (by decide) ?_)
 refine wpAny_bind (wpAny_callSpecial?_slot (name:=Str.ofString "__getitem__") ht.typeIs PyProof.Rows.slot_tuple_getitem
  (wpAny_call_entry PyProof.Rows.slot_tuple_getitem ht.typeIs entry_tuple_getitem ?_ (args_tuple_getitem _ _)))
 show wpAny _ _ (Builtin.Tuple.tupleItemsOf (.ref t) >>= _) _ _ s
 refine wpAny_bind (tupleItemsOf_ ht ?_)
 refine wpAny_bind (wpAny_typeOf hTs ?_)
 rw[if_pos (by decide)]
 refine wpAny_bind (sliceApplied_gen hs pl pu ?_)
 have hno: ¬ ((((sIx items.size 0 lo:Nat):Int)==0&&(1:Int)==1&&(sIx items.size items.size hi - sIx items.size 0 lo)==items.size)=true):=by
  intro q
  rw[Bool.and_eq_true,Bool.and_eq_true] at q
  have q1:((sIx items.size 0 lo:Nat):Int)=0:=eq_of_beq q.1.1
  have q2:sIx items.size items.size hi - sIx items.size 0 lo=items.size:=eq_of_beq q.2
  exact hw ⟨by lia,by lia⟩
 show wpAny _ _ (if(((sIx items.size 0 lo:Nat):Int)==0&&(1:Int)==1&&(sIx items.size items.size hi - sIx items.size 0 lo)==items.size)=true then _ else _) _ _ s
 rw[if_neg hno,pick_gen]
 first
  |exact wpAny_bind (m:=Builtin.Tuple.tupleExact _) (wpAny_newObj_type (wpAny_pure ⟨_,rfl,wpAny_pure h⟩) htake)
  |exact wpAny_bind (m:=Builtin.Tuple.tupleExact _) (wpAny_newObj_type (wpAny_bind (wpAny_pure (wpAny_pure ⟨_,rfl,wpAny_pure h⟩))) htake)
  |exact wpAny_bind (wpAny_bind (m:=Builtin.Tuple.tupleExact _) (wpAny_newObj_type (wpAny_pure (wpAny_pure ⟨_,rfl,wpAny_pure h⟩)) htake))
  |exact wpAny_bind (wpAny_bind (m:=Builtin.Tuple.tupleExact _) (wpAny_newObj_type (wpAny_pure ⟨_,rfl,wpAny_pure h⟩) htake))
end
end HT
namespace L2
open PySem PySem.Spec PyProof.Rows
abbrev TO:=St→Hp→(Option Int→Hp→Prop)→Prop
def PO (X:Cx) (e:Option Expr) (t:TO):Prop:=
 ∀ (pZ:List (Addr×Obj)) (s:Shared) (σ:St) (H:Hp) (Q:Option Int→Hp→Prop),Inv X pZ σ H s→t σ H Q→
  wpAny (model X.prog X.w) X.A (evalPart e X.env) (fun u s'=> ∃ o H',Inv X pZ σ H' s'∧IsPart u o∧Q o H') X.xe s
def tNoPart:TO:=fun _ H Q=>Q none H
def tPart (t:TE):TO:=fun σ H Q=>t σ H fun x H1=> ∃ i,x= .int i∧Q (some i) H1
theorem intsAre_of: ∀ {us:List Value},Vals (ns.map V.int) us→IntsAre us ns:=by
 induction ns with
 |nil=>intro us r;rw[List.map_nil] at r;cases r;exact .nil
 |cons n ns ih=>
  intro us r
  rw[List.map_cons] at r
  cases r with
  |cons r1 r2=>
   obtain⟨t,e⟩:=r1
   subst e
   exact .cons n t (ih r2)
section
variable {X:Cx} {e:Expr} {te:TE} {lo hi:Option Expr} {tl th:TO} {pos p2:Pos}
theorem po_none:PO X none tNoPart:=by
 intro pZ s σ H Q I h
 rw[evalPart_none]
 exact wpAny_pure ⟨none,H,I,.none,h⟩
theorem po_some (h:PE X e te):PO X (some e) (tPart te):=by
 intro pZ s σ H Q I hw
 rw[evalPart_some]
 refine thn (h pZ s σ H _ I hw) fun u s1 ⟨x,H1,I1,r1,q1⟩=>?_
 obtain⟨i,rfl,q⟩:=q1
 obtain⟨t,rfl⟩:=r1
 exact⟨some i,H1,I1,.int i t,q⟩
def SlR (X:Cx) (r:V→Option Int→Option Int→Hp→VK→Prop):Prop:=
 ∀ (pZ:List (Addr×Obj)) (s:Shared) (σ:St) (H:Hp) (x:V) (v vl vu:Value) (lo hi:Option Int) (sl:Addr) (Q:VK),Inv X pZ σ H s→RelV x v→s.heap.IsSliceOf sl vl vu .none→IsPart vl lo→IsPart vu hi→r x lo hi H Q→
  ∃ T id,typeLookup (.type T) "__getitem__"=pure (some (.builtin id))∧s.TypeIs v T∧wpAny (model X.prog X.w) X.A (getItem v (.ref sl)) (EP X pZ σ Q) X.xe s
theorem SlR.or (h:SlR X r) (h':SlR X r'):SlR X (fun x lo hi H Q=>r x lo hi H Q∨r' x lo hi H Q):=by
 intro pZ s σ H x v vl vu lo hi sl Q I rx hs pl pu q
 rcases q with q|q
 ·exact h pZ s σ H x v vl vu lo hi sl Q I rx hs pl pu q
 ·exact h' pZ s σ H x v vl vu lo hi sl Q I rx hs pl pu q
def tSl (r:V→Option Int→Option Int→Hp→VK→Prop) (te:TE) (tl th:TO):TE:=fun σ H Q=>te σ H fun x H1=>tl σ H1 fun l H2=>th σ H2 fun u H3=>r x l u H3 Q
theorem pe_slice (hr:SlR X r) (he:PE X e te) (hl:PO X lo tl) (hu:PO X hi th):PE X (.Subscript e (.Slice lo hi none p2) pos) (tSl r te tl th):=by
 intro pZ s σ H Q I h
 refine Subscript_ (thn (he pZ s σ H _ I h) fun v s1 ⟨x,H1,I1,r1,q1⟩=>?_)
 refine wpAny_Slice (thn (hl pZ s1 σ H1 _ I1 q1) fun vl s2 ⟨l,H2,I2,pl,q2⟩=>thn (hu pZ s2 σ H2 _ I2 q2) fun vu s3 ⟨u,H3,I3,pu,q3⟩=>?_)
 rw[evalPart_none]
 refine wpAny_pure ?_
 have I4:Inv X pZ σ H3 {s3 with heap:=s3.heap.push {cls:=.type "slice",data:=.fields #[vl,vu,.none]}}:=I3.kept (t':=s3.toks) fun b ob q=>Heap.get?_push_of_some _ q
 obtain⟨T,id,hT,ht,hg⟩:=hr pZ {s3 with heap:=s3.heap.push {cls:=.type "slice",data:=.fields #[vl,vu,.none]}} σ H3 x v vl vu l u s3.heap.objs.size Q I4 r1 (Heap.IsSliceOf.new ..) pl pu q3
 show wpAny (model X.prog X.w) X.A (subscriptTail e (.Slice lo hi none p2) v (.ref s3.heap.objs.size)) (EP X pZ σ Q) X.xe {s3 with heap:=s3.heap.push {cls:=.type "slice",data:=.fields #[vl,vu,.none]}}
 exact tail_any (ops:=[.ref s3.heap.objs.size,v]) ht hT hg (by with_unfolding_all rfl)
def cutV (xs:List V) (lo hi:Option Int):List V:=(xs.drop (HT.sIx xs.length 0 lo)).take (HT.sIx xs.length xs.length hi - HT.sIx xs.length 0 lo)
theorem cutV_length (xs:List V) (lo hi:Option Int):(cutV xs lo hi).length≤xs.length:=by
 unfold cutV
 rw[List.length_take,List.length_drop]
 lia
noncomputable def rSlT (K:PySem.W.Frag):V→Option Int→Option Int→Hp→VK→Prop:=fun x lo hi H Q=> ∃ a xs,x= .ref a∧SqT K H a xs∧
 ¬ (HT.sIx xs.length 0 lo=0∧HT.sIx xs.length xs.length hi=xs.length)∧∀ p,H p=none→Q (.ref p) (upd H p (.tup (cutV xs lo hi)))
theorem sl_tup:SlR X (rSlT X.K):=by
 intro pZ s σ H x v vl vu lo hi sl Q I rx hs pl pu h
 obtain⟨a,xs,rfl,hx,hw,q⟩:=h
 cases rx
 obtain⟨its,r,ht,hz⟩:=I.tuple hx
 have hlen:its.toArray.size=xs.length:=by rw[List.size_toArray];exact r.length.symm
 refine⟨"tuple",_,PyProof.Rows.slot_tuple_getitem.lookup,ht.typeIs,?_⟩
 refine HT.getItem_tuple_cut ht hs pl pu (by rw[hlen];exact hw) ?_ (by rw[hlen];exact hz)
 rw[hlen]
 refine⟨.ref s.heap.objs.size,_,I.laid (t':=s.toks) (o:=.tup (cutV xs lo hi)) (fun b ob q=>Heap.get?_push_of_some _ q) (Nat.le_refl _) ?_,rfl,q _ (I.hok.fresh (Nat.le_refl _))⟩
 exact⟨Nat.le_trans (cutV_length xs lo hi) hz,_,(r.drop (HT.sIx xs.length 0 lo)).take (HT.sIx xs.length xs.length hi - HT.sIx xs.length 0 lo),IsTup.new _ _⟩
noncomputable def rCatT (K:PySem.W.Frag):R2:=fun x y H Q=> ∃ a b xs ys,x= .ref a∧y= .ref b∧SqT K H a xs∧SqT K H b ys∧xs≠[]∧xs.length+ys.length≤sizeLine∧
 (ys=[]→Q (.ref a) H)∧(ys≠[]→∀ p,H p=none→Q (.ref p) (upd H p (.tup (xs++ys))))
theorem Vals.nil_iff (r:Vals xs us):us=[]↔xs=[]:=by
 cases r with
 |nil=>simp
 |cons _ _=>simp
theorem op_catT:OpR X (binaryOp .Add) (rCatT X.K):=by
 intro pZ s σ H x y v u Q I rx ry h
 obtain⟨a,b,xs,ys,rfl,rfl,ha,hb,hx,hz,q1,q2⟩:=h
 cases rx
 cases ry
 obtain⟨its,r1,p1,_⟩:=I.tuple ha
 obtain⟨its2,r2,p2,_⟩:=I.tuple hb
 refine HT.cat_tup p1 p2 (fun z=>hx (r1.nil_iff.mp z)) (fun z=>⟨.ref a,H,I,rfl,q1 (r2.nil_iff.mp z)⟩) (fun z=>?_) (by rw[←r1.length,←r2.length];exact hz)
 refine⟨.ref s.heap.objs.size,_,I.laid (t':=s.toks) (o:=.tup (xs++ys)) (fun b ob q=>Heap.get?_push_of_some _ q) (Nat.le_refl _) ?_,rfl,q2 (fun w=>z (r2.nil_iff.mpr w)) _ (I.hok.fresh (Nat.le_refl _))⟩
 exact⟨by rw[List.length_append];exact hz,_,r1.append r2,IsTup.new _ _⟩
end
end L2
namespace L2
open PySem PySem.Spec PyProof.Rows
def ixN (n:Nat) (i:Int):Option Nat:=if 0≤i then(if i < n then some i.toNat else none) else if -(n:Int)≤i then some (i+n).toNat else none
def atI {α:Type} (xs:List α) (i:Int):Option α:=(ixN xs.length i).bind fun j=>xs[j]?
theorem ixN_seq (h:ixN n i=some j):seqIndex? i n=some j∧j < n∧-(n:Int)≤i∧i < n:=by
 unfold ixN at h
 by_cases h0:0≤i
 ·rw[if_pos h0] at h
  by_cases h1:i < n
  ·rw[if_pos h1] at h
   have e:i.toNat=j:=Option.some.inj h
   exact⟨by rw[seqIndex_of h0 h1,e],by lia,by lia,h1⟩
  ·rw[if_neg h1] at h;cases h
 ·rw[if_neg h0] at h
  by_cases h1: -(n:Int)≤i
  ·rw[if_pos h1] at h
   have e:(i+n).toNat=j:=Option.some.inj h
   exact⟨by rw[seqIndex_neg (by lia) h1,e],by lia,h1,by lia⟩
  ·rw[if_neg h1] at h;cases h
theorem atI_get (h:atI xs i=some v): ∃ j,seqIndex? i xs.length=some j∧xs[j]?=some v∧j < xs.length∧-(xs.length:Int)≤i∧i < xs.length:=by
 unfold atI at h
 cases e:ixN xs.length i with
 |none=>rw[e] at h;cases h
 |some j=>
  rw[e] at h
  obtain⟨h1,h2,h3,h4⟩:=ixN_seq e
  exact⟨j,h1,h,h2,h3,h4⟩
theorem atI_nat {α:Type} {xs:List α} {j:Nat} {v:α} (h:xs[j]?=some v):atI xs (j:Int)=some v:=by
 have hj:j < xs.length:=(List.getElem?_eq_some_iff.mp h).1
 have e:ixN xs.length (j:Int)=some j:=by
  unfold ixN
  rw[if_pos (by lia),if_pos (by lia)];simp
 unfold atI;rw[e];exact h
def PlainIx (b:Expr):Prop:= ∀ o i,subscripted b false o i=operate [o,i] (getItem o i)
def IxR (X:Cx) (r:R2):Prop:=
 ∀ (value slice:Expr) (pZ:List (Addr×Obj)) (s:Shared) (σ:St) (H:Hp) (x y:V) (v u:Value) (Q:VK),Inv X pZ σ H s→RelV x v→RelV y u→r x y H Q→
  subscripted slice false v u=operate [v,u] (getItem v u)→wpAny (model X.prog X.w) X.A (subscriptTail value slice v u) (EP X pZ σ Q) X.xe s
def MtR (X:Cx) (id:String) (r:V→List V→Hp→VK→Prop):Prop:=
 ∀ (pZ:List (Addr×Obj)) (s:Shared) (σ:St) (H:Hp) (x:V) (xs:List V) (v:Value) (us:List Value) (Q:VK),Inv X pZ σ H s→RelV x v→Vals xs us→r x xs H Q→
  wpAny (model X.prog X.w) X.A (call (.builtin id) (v::us)) (EP X pZ σ Q) X.xe s
section
variable {X:Cx} {a b:Expr} {ta tb:TE} {pos:Pos}
theorem IxR.or (h:IxR X r) (h':IxR X r'):IxR X (fun x y H Q=>r x y H Q∨r' x y H Q):=by
 intro value slice pZ s σ H x y v u Q I rx ry q hs
 rcases q with q|q
 ·exact h value slice pZ s σ H x y v u Q I rx ry q hs
 ·exact h' value slice pZ s σ H x y v u Q I rx ry q hs
theorem pe_ix (hr:IxR X r) (ha:PE X a ta) (hb:PE X b tb) (hs:PlainIx b):PE X (.Subscript a b pos) (tOp r ta tb):=by
 intro pZ s σ H Q I h
 exact Subscript_ (binT ha hb I h fun v u s2 x y H2 I2 rx ry q=>hr a b pZ s2 σ H2 x y v u Q I2 rx ry q (hs _ _))
def rIxL (K:PySem.W.Frag):R2:=fun x y H Q=> ∃ p xs i v,x= .ref p∧y= .int i∧SqL K H p xs∧atI xs i=some v∧Q v H
def rIxT (K:PySem.W.Frag):R2:=fun x y H Q=> ∃ p xs i v,x= .ref p∧y= .int i∧SqT K H p xs∧atI xs i=some v∧Q v H
def rIxS:R2:=fun x y H Q=> ∃ z i c,x= .str z∧y= .int i∧z.length≤sizeLine∧atI z.cps.toList i=some c∧Q (.str ⟨#[c]⟩) H
theorem ix_list:IxR X (rIxL X.K):=by
 intro value slice pZ s σ H x y v u Q I rx ry h hs
 obtain⟨p,xs,i,z,rfl,rfl,hq,he,q⟩:=h
 cases rx
 obtain⟨t,rfl⟩:=ry
 obtain⟨its,r,pl,hz⟩:=I.list hq
 obtain⟨j,h1,h2,h3,h4,h5⟩:=atI_get he
 obtain⟨w,ew,rw'⟩:=r.get h2
 have hl:=r.length
 have hn:=line63
 have fin:EP X pZ σ Q w s:=⟨z,H,I,rw',q⟩
 by_cases h0:0≤i
 ·have hj:i.toNat=j:=by
   rw[seqIndex_of h0 h5] at h1
   exact Option.some.inj h1
  exact item_listR pl.isList h0 (by lia) (by rw[hj];simpa using ew) fin hs
 ·have hj:(i+(its.toArray.size:Int)).toNat=j:=by
   rw[seqIndex_neg (by lia) h4] at h1
   rw[List.size_toArray,←hl]
   exact Option.some.inj h1
  exact subscriptTail_builtinR (x:=w) pl.isList.typeIs slot_list_getitem.lookup
   (wpAny_getItem_list_neg (Q:=fun r s'=>r=w∧EP X pZ σ Q r s') pl.isList (by lia) (by rw[List.size_toArray]<;>lia) (by lia) (by rw[hj];simpa using ew) ⟨rfl,fin⟩) hs
theorem ix_tup:IxR X (rIxT X.K):=by
 intro value slice pZ s σ H x y v u Q I rx ry h hs
 obtain⟨p,xs,i,z,rfl,rfl,hq,he,q⟩:=h
 cases rx
 obtain⟨t,rfl⟩:=ry
 obtain⟨its,r,pl,hz⟩:=I.tuple hq
 obtain⟨j,h1,h2,h3,h4,h5⟩:=atI_get he
 obtain⟨w,ew,rw'⟩:=r.get h2
 have hl:=r.length
 have hn:=line63
 have fin:EP X pZ σ Q w s:=⟨z,H,I,rw',q⟩
 exact subscriptTail_builtinR (x:=w) pl.typeIs slot_tuple_getitem.lookup
  (getItem_tuple (j:=j) (Q:=fun r s'=>r=w∧EP X pZ σ Q r s') pl (by lia) (by lia) (by rw[List.size_toArray,←hl];exact h1) (by simpa using ew) ⟨rfl,fin⟩) hs
theorem ix_str:IxR X rIxS:=by
 intro value slice pZ s σ H x y v u Q I rx ry h hs
 obtain⟨z,i,c,rfl,rfl,hz,he,q⟩:=h
 obtain⟨t,rfl⟩:=rx
 obtain⟨t',rfl⟩:=ry
 obtain⟨j,h1,h2,h3,h4,h5⟩:=atI_get he
 have hl:z.cps.toList.length=z.length:=by simp[Str.length]
 rw[hl] at h1 h4 h5
 have hn:=line63
 exact tail_any (typeIs_str s z t) slot_str_getitem.lookup (getItem_str (c:=c) (by
  have e1:decide (i < -(2 ^ 63:Int))=false:=decide_eq_false (by lia)
  have e2:decide (i ≥ 2 ^ 63)=false:=decide_eq_false (by lia)
  rw[e1,e2,Bool.or_false]) (by rw[h1];simpa using h2) ⟨.str ⟨#[c]⟩,H,I.tok _,⟨_,rfl⟩,q⟩) hs
def rIx (K:PySem.W.Frag):R2:=fun x y H Q=>rIxL K x y H Q∨rIxT K x y H Q∨rIxS x y H Q
theorem ix_seq:IxR X (rIx X.K):=ix_list.or (ix_tup.or ix_str)
theorem mapSeq_set (its:List Value) (n j:Nat) (u:Value):Obj.mapSeq (·.setIfInBounds j u) {cls:=.type "list",data:=.seq its.toArray n}={cls:=.type "list",data:=.seq (its.set j u).toArray n}:=by
 simp[Obj.mapSeq]
theorem Inv.lst {pZ:List (Addr×Obj)} {σ:St} {H:Hp} {s:Shared} {p:Addr} {xs:List V} (I:Inv X pZ σ H s) (h:H p=some (.lst xs)):
  ∃ (its:List Value) (n:Nat),Vals xs its∧s.heap.get? p=some {cls:=.type "list",data:=.seq its.toArray n}∧xs.length≤sizeLine:=by
 obtain⟨z,its,n,r,e⟩:=I.hok p _ h
 exact⟨its,n,r,e,z⟩
theorem Inv.lstUpd {its its':List Value} {f:Obj→Obj} (I:Inv X pZ σ H s) (h:H p=some (.lst xs))
  (ho:s.heap.get? p=some {cls:=.type "list",data:=.seq its.toArray n}) (hf:f {cls:=.type "list",data:=.seq its.toArray n}={cls:=.type "list",data:=.seq its'.toArray n'}) (r:Vals ys its') (hz:ys.length≤sizeLine) (t:Nat):
  Inv X pZ σ (upd H p (.lst ys)) {s with heap:=s.heap.update p f,toks:=t}:=by
 have e:(s.heap.update p f).get? p=some {cls:=.type "list",data:=.seq its'.toArray n'}:=by
  rw[Heap.get?_update_self f ho (by rw[hf]<;>rfl),hf]
 refine I.write (x:=p) (e:=p) (by rw[h];trivial) (.inl rfl) (fun b u hb q=>(Heap.get?_update_other _ _ (Ne.symm hb)).trans q) ⟨_,e⟩ ?_
 exact⟨hz,its',n',r,e⟩
def rSetL:V→V→V→Hp→(Hp→Prop)→Prop:=fun o i v H Q=> ∃ p xs k j,o= .ref p∧i= .int k∧H p=some (.lst xs)∧ixN xs.length k=some j∧Q (upd H p (.lst (xs.set j v)))
theorem set_list:PSet X rSetL:=by
 intro pZ s σ H o i v ov iv u Q I ro ri rv h
 obtain⟨p,xs,k,j,rfl,rfl,hp,hj,q⟩:=h
 cases ro
 obtain⟨t,rfl⟩:=ri
 obtain⟨its,n,r,ho,hz⟩:=I.lst hp
 obtain⟨h1,h2,h3,h4⟩:=ixN_seq hj
 have hl:=r.length
 have hn:=line63
 have I':Inv X pZ σ (upd H p (.lst (xs.set j v))) {s with heap:=s.heap.update p (Obj.mapSeq (·.setIfInBounds j u))}:=
  I.lstUpd hp ho (mapSeq_set its n j u) (r.set rv j) (by rw[List.length_set];exact hz) s.toks
 by_cases h0:0≤k
 ·have hk:k.toNat=j:=by
   rw[seqIndex_of h0 h4] at h1
   exact Option.some.inj h1
  exact PySem.W.ki_setAt ho h0 (by lia) (by rw[List.size_toArray,←hl];exact h4) (by rw[hk];exact⟨_,I',q⟩)
 ·have hk:(k+(its.toArray.size:Int)).toNat=j:=by
   rw[seqIndex_neg (by lia) h3] at h1
   rw[List.size_toArray,←hl]
   exact Option.some.inj h1
  exact PySem.W.ki_setBack ho (by lia) (by rw[List.size_toArray,←hl];exact h3) (by lia) (by rw[hk];exact⟨_,I',q⟩)
theorem slice_bounds (lo hi:Option Int) (n:Nat):(sliceBounds lo hi none n).1=((HT.sIx n 0 lo:Nat):Int)∧(sliceBounds lo hi none n).2.1=((HT.sIx n n hi:Nat):Int)∧(sliceBounds lo hi none n).2.2=1:=by
 refine⟨?_,?_,rfl⟩
 ·cases lo with
  |none=>simp[sliceBounds,HT.sIx]
  |some i=>
   simp only[sliceBounds,HT.sIx,Option.getD_none,show (1:Int) > 0 by decide,if_true]
   by_cases h:i < 0
   ·simp only[h,if_true]<;>lia
   ·simp only[h,if_false]<;>lia
 ·cases hi with
  |none=>simp[sliceBounds,HT.sIx]
  |some i=>
   simp only[sliceBounds,HT.sIx,Option.getD_none,show (1:Int) > 0 by decide,if_true]
   by_cases h:i < 0
   ·simp only[h,if_true]<;>lia
   ·simp only[h,if_false]<;>lia
theorem slicePick_cut (its:List Value) (lo hi:Option Int):slicePick its.toArray lo hi none=((its.drop (HT.sIx its.length 0 lo)).take (HT.sIx its.length its.length hi - HT.sIx its.length 0 lo)).toArray:=by
 obtain⟨h1,h2,h3⟩:=slice_bounds lo hi its.toArray.size
 unfold slicePick
 rw[h1,h2,h3]
 simp only[sliceRange_one,pick_run,List.size_toArray]<;>rfl
def rSlL (K:PySem.W.Frag):V→Option Int→Option Int→Hp→VK→Prop:=fun x lo hi H Q=> ∃ a xs,x= .ref a∧SqL K H a xs∧∀ p,H p=none→Q (.ref p) (upd H p (.lst (cutV xs lo hi)))
theorem sl_list:SlR X (rSlL X.K):=by
 intro pZ s σ H x v vl vu lo hi sl Q I rx hs pl pu h
 obtain⟨a,xs,rfl,hx,q⟩:=h
 cases rx
 obtain⟨its,r,ht,hz⟩:=I.list hx
 have hlen:=r.length
 refine⟨"list",_,slot_list_getitem.lookup,ht.isList.typeIs,?_⟩
 refine wpAny_getItem_list_slice ht.isList hs pl pu .none (by simp) ?_ (by rw[List.size_toArray]<;>lia)
 rw[slicePick_cut,←hlen]
 refine⟨.ref s.heap.objs.size,_,I.laid (t':=s.toks) (o:=.lst (cutV xs lo hi)) (fun b ob q=>Heap.get?_push_of_some _ q) (Nat.le_refl _) ?_,rfl,q _ (I.hok.fresh (Nat.le_refl _))⟩
 exact⟨Nat.le_trans (cutV_length xs lo hi) hz,_,0,(r.drop (HT.sIx xs.length 0 lo)).take (HT.sIx xs.length xs.length hi - HT.sIx xs.length 0 lo),Heap.get?_push_size _ rfl⟩
def flatV:V→Bool
 | .non=>true
 | .bl _=>true
 | .int _=>true
 | .str _=>true
 |_=>false
noncomputable def eqV:V→V→Bool
 | .non,.non=>true
 | .bl a,.bl b=>a==b
 | .bl a,.int b=>(if a then 1 else 0)==b
 | .int a,.bl b=>a==(if b then 1 else 0)
 | .int a,.int b=>a==b
 | .str a,.str b=>a==b
 |_,_=>false
theorem eqAt_V (ry:RelV y u) (rx:RelV x v) (fy:flatV y=true) (fx:flatV x=true):SeqAt.EqAt A s u v (eqV y x):=by
 cases y with
 |non=>
  cases ry
  cases x with
  |non=>cases rx;exact SeqAt.EqAt.same _
  |bl b=>cases rx;exact SeqAt.EqAt.none_bool b
  |int b=>obtain⟨t,rfl⟩:=rx;exact SeqAt.EqAt.none_int b t
  |str b=>obtain⟨t,rfl⟩:=rx;exact SeqAt.EqAt.none_str b t
  |_=>exact absurd (show false=true from fx) Bool.false_ne_true
 |bl a=>
  cases ry
  cases x with
  |non=>cases rx;exact SeqAt.EqAt.bool_none a
  |bl b=>cases rx;exact SeqAt.EqAt.bool_bool a b
  |int b=>obtain⟨t,rfl⟩:=rx;exact SeqAt.EqAt.bool_int a b t
  |str b=>obtain⟨t,rfl⟩:=rx;exact SeqAt.EqAt.bool_str a b t
  |_=>exact absurd (show false=true from fx) Bool.false_ne_true
 |int a=>
  obtain⟨t',rfl⟩:=ry
  cases x with
  |non=>cases rx;exact SeqAt.EqAt.int_none a t'
  |bl b=>cases rx;exact SeqAt.EqAt.int_bool a t' b
  |int b=>obtain⟨t,rfl⟩:=rx;exact SeqAt.EqAt.int_int a t' b t
  |str b=>obtain⟨t,rfl⟩:=rx;exact SeqAt.EqAt.int_str a t' b t
  |_=>exact absurd (show false=true from fx) Bool.false_ne_true
 |str a=>
  obtain⟨t',rfl⟩:=ry
  cases x with
  |non=>cases rx;exact SeqAt.EqAt.str_none a t'
  |bl b=>cases rx;exact SeqAt.EqAt.str_bool a t' b
  |int b=>obtain⟨t,rfl⟩:=rx;exact SeqAt.EqAt.str_int a t' b t
  |str b=>obtain⟨t,rfl⟩:=rx;exact SeqAt.EqAt.str_str a t' b t
  |_=>exact absurd (show false=true from fx) Bool.false_ne_true
 |_=>exact absurd (show false=true from fy) Bool.false_ne_true
def eqU (x:V) (u:Value):Bool:=match u with
 | .none=>eqV .non x
 | .bool b=>eqV (.bl b) x
 | .int i _=>eqV (.int i) x
 | .str z _=>eqV (.str z) x
 |_=>false
theorem eqU_of (r:RelV y u) (f:flatV y=true):eqU x u=eqV y x:=by
 cases y with
 |non=>cases r;rfl
 |bl b=>cases r;rfl
 |int i=>obtain⟨t,rfl⟩:=r;rfl
 |str z=>obtain⟨t,rfl⟩:=r;rfl
 |_=>exact absurd (show false=true from f) Bool.false_ne_true
theorem any_eqU: ∀ {xs:List V} {us:List Value},Vals xs us→xs.all flatV=true→us.any (eqU x)=xs.any fun y=>eqV y x
 |_,_,.nil,_=>rfl
 |y::xs,u::us,.cons r t,f=>by
  rw[List.all_cons,Bool.and_eq_true] at f
  rw[List.any_cons,List.any_cons,eqU_of r f.1,any_eqU t f.2]
theorem mem_eqAt (rx:RelV x v) (fx:flatV x=true): ∀ {xs:List V} {us:List Value},Vals xs us→xs.all flatV=true→∀ u∈us,SeqAt.EqAt A s u v (eqU x u)
 |_,_,.nil,_=>fun u hu=>by cases hu
 |y::xs,u::us,.cons r t,f=>fun u' hu=>by
  rw[List.all_cons,Bool.and_eq_true] at f
  rcases List.mem_cons.mp hu with rfl|hu
  ·rw[eqU_of r f.1];exact eqAt_V r rx f.1 fx
  ·exact mem_eqAt rx fx t f.2 u' hu
def inV (x:V) (xs:List V):Bool:=xs.any fun y=>eqV y x
def rIn (K:PySem.W.Frag) (neg:Bool):R2:=fun x y H Q=> ∃ p xs,y= .ref p∧(SqL K H p xs∨SqT K H p xs)∧flatV x=true∧xs.all flatV=true∧Q (.bl (if neg then !inV x xs else inV x xs)) H
theorem op_in_seq:OpR X (compareOp .In) (rIn X.K false):=by
 intro pZ s σ H x y v u Q I rx ry h
 obtain⟨p,xs,rfl,hq,fx,fs,q⟩:=h
 cases ry
 rcases hq with hq|hq
 ·obtain⟨its,r,pl,hz⟩:=I.list hq
  refine SeqAt.in_listAt (eqU x) pl.isList (fun w hw=>mem_eqAt rx fx r fs w (by simpa using hw)) ⟨.bl _,H,I,rfl,?_⟩
  rw[show its.toArray.any (eqU x)=its.any (eqU x) by simp,any_eqU r fs]
  exact q
 ·obtain⟨its,r,pl,hz⟩:=I.tuple hq
  refine SeqAt.in_tupleAt (eqU x) pl (fun w hw=>mem_eqAt rx fx r fs w (by simpa using hw)) ⟨.bl _,H,I,rfl,?_⟩
  rw[show its.toArray.any (eqU x)=its.any (eqU x) by simp,any_eqU r fs]
  exact q
theorem op_notIn_seq:OpR X (compareOp .NotIn) (rIn X.K true):=by
 intro pZ s σ H x y v u Q I rx ry h
 obtain⟨p,xs,rfl,hq,fx,fs,q⟩:=h
 cases ry
 rcases hq with hq|hq
 ·obtain⟨its,r,pl,hz⟩:=I.list hq
  refine SeqAt.notIn_listAt (eqU x) pl.isList (fun w hw=>mem_eqAt rx fx r fs w (by simpa using hw)) ⟨.bl _,H,I,rfl,?_⟩
  rw[show its.toArray.any (eqU x)=its.any (eqU x) by simp,any_eqU r fs]
  exact q
 ·obtain⟨its,r,pl,hz⟩:=I.tuple hq
  refine SeqAt.notIn_tupleAt (eqU x) pl (fun w hw=>mem_eqAt rx fx r fs w (by simpa using hw)) ⟨.bl _,H,I,rfl,?_⟩
  rw[show its.toArray.any (eqU x)=its.any (eqU x) by simp,any_eqU r fs]
  exact q
theorem op_notIn_str:OpR X (compareOp .NotIn) (fun x y H Q=> ∃ i j,x= .str i∧y= .str j∧Q (.bl (!(!(Builtin.Str.occurrences j i 0 j.length 1).isEmpty))) H):=by
 intro pZ s σ H x y v u Q I rx ry h
 obtain⟨i,j,rfl,rfl,q⟩:=h
 obtain⟨t,rfl⟩:=rx
 obtain⟨t',rfl⟩:=ry
 exact notIn_str ⟨.bl _,H,I,rfl,q⟩
theorem call_list_of:CallR X (.type "list") (fun xs H Q=> ∃ p ys,xs=[.ref p]∧(SqL X.K H p ys∨SqT X.K H p ys)∧∀ l,H l=none→Q (.ref l) (upd H l (.lst ys))):=by
 intro pZ s σ H xs us Q I r h
 obtain⟨p,ys,rfl,hq,q⟩:=h
 obtain⟨u,rfl,rx⟩:=vals1 r
 cases rx
 have fin: ∀ (its:List Value),Vals ys its→ys.length≤sizeLine→∀ (h':Heap) (c':Nat),(∀ b o',s.heap.get? b=some o'→h'.get? b=some o')→
   h'.get? s.heap.objs.size=some {cls:=.type "list",dict:=none,data:=.seq its.toArray c',slots:= #[]}→EP X pZ σ Q (.ref s.heap.objs.size) {s with heap:=h'}:=fun its r' hz h' c' kp e=>
  ⟨.ref s.heap.objs.size,_,I.laid (t':=s.toks) kp (Nat.le_refl _) (show ObjOk X.prog X.w _ h' _ (.lst ys) from⟨hz,its,c',r',e⟩),rfl,q _ (I.hok.fresh (Nat.le_refl _))⟩
 rcases hq with hq|hq
 ·obtain⟨its,r',pl,hz⟩:=I.list hq
  have hlen:=r'.length
  obtain⟨o,ho,hc,n,hd⟩:=pl.isList
  exact call_list_seq p (.inl rfl) ho hc hd (fun h' c' kp e=>fin its r' hz h' c' kp e) (by simp only[List.size_toArray]<;>lia)
 ·obtain⟨its,r',pl,hz⟩:=I.tuple hq
  have hlen:=r'.length
  obtain⟨o,ho,hc,n,hd⟩:=pl
  exact call_list_seq p (.inr rfl) ho hc hd (fun h' c' kp e=>fin its r' hz h' c' kp e) (by simp only[List.size_toArray]<;>lia)
theorem call_tuple_of:CallR X (.type "tuple") (fun xs H Q=> ∃ p ys,xs=[.ref p]∧((SqL X.K H p ys∧∀ l,H l=none→Q (.ref l) (upd H l (.tup ys)))∨(SqT X.K H p ys∧Q (.ref p) H))):=by
 intro pZ s σ H xs us Q I r h
 obtain⟨p,ys,rfl,h⟩:=h
 obtain⟨u,rfl,rx⟩:=vals1 r
 cases rx
 rcases h with⟨hq,q⟩|⟨hq,q⟩
 ·obtain⟨its,r',pl,hz⟩:=I.list hq
  have hlen:=r'.length
  refine call_tuple_list pl.isList (fun h' kp=>?_) (by simp only[List.size_toArray]<;>lia)
  have I1:Inv X pZ σ H {s with heap:=h'}:=I.kept (t':=s.toks) kp
  have I2:Inv X pZ σ (upd H h'.objs.size (.tup ys)) {s with heap:=h'.push {cls:=.type "tuple",data:=.seq its.toArray}}:=
   I1.laid (t':=s.toks) (fun b o e=>Heap.get?_push_of_some _ e) (Nat.le_refl _) (show ObjOk X.prog X.w _ _ _ (.tup ys) from⟨hz,its,r',IsTup.new _ _⟩)
  exact⟨.ref h'.objs.size,_,I2,rfl,q _ (I1.hok.fresh (Nat.le_refl _))⟩
 ·obtain⟨its,r',pl,hz⟩:=I.tuple hq
  exact call_tuple_same pl ⟨.ref p,H,I,rfl,q⟩
def tyV (K:PySem.W.Frag) (T:String) (x:V) (H:Hp):Prop:=match x with
 | .str _=>T="str"
 | .int _=>T="int"
 | .ref p=>(T="list"∧∃ xs,SqL K H p xs)∨(T="tuple"∧∃ o,K.lookup p=some o∧o.cls= .type "tuple"∧o.dict=none)∨
   (T="dict"∧((∃ kvs,Rd H p (.dK kvs))∨∃ kvs,H p=some (.dT kvs)))∨(T="set"∧∃ S n,H p=some (.set S n))
 |_=>False
theorem tyV_is (I:Inv X pZ σ H s) (r:RelV x v) (ty:tyV X.K T x H):
  s.TypeIs v T∧∀ a,v= .ref a→∃ ob,s.heap.get? a=some ob∧ob.dict=none:=by
 cases x with
 |str z=>
  obtain⟨t,rfl⟩:=r
  cases (show T="str" from ty)
  exact⟨typeIs_str s z t,fun _ e=>nomatch e⟩
 |int i=>
  obtain⟨t,rfl⟩:=r
  cases (show T="int" from ty)
  exact⟨typeIs_int s i t,fun _ e=>nomatch e⟩
 |ref p=>
  cases r
  rcases ty with⟨rfl,xs,hq⟩|⟨rfl,o,hk,hc,hd⟩|⟨rfl,hk⟩|⟨rfl,S,n,hk⟩
  ·obtain⟨its,_,pl,_⟩:=I.list hq
   refine⟨pl.isList.typeIs,fun a e=>?_⟩
   cases e
   obtain⟨o,n,e,c,hd,_⟩:=pl
   exact⟨o,e,hd⟩
  ·refine⟨⟨o,I.kIn p o hk,hc⟩,fun a e=>?_⟩
   cases e
   exact⟨o,I.kIn _ o hk,hd⟩
  ·have z: ∃ o,s.heap.get? p=some o∧o.ExactDict:=by
    rcases hk with⟨kvs,hk⟩|⟨kvs,hk⟩
    ·obtain⟨_,_,_,_,o,_,_,e,ex,_⟩:=hk.ok I.hok
     exact⟨o,e,ex⟩
    ·obtain⟨_,_,_,_,o,_,_,e,ex,_⟩:=I.hok p _ hk
     exact⟨o,e,ex⟩
   obtain⟨o,e,ex⟩:=z
   refine⟨⟨o,e,ex.1⟩,fun a e2=>?_⟩
   cases e2
   exact⟨o,e,ex.2.1⟩
  ·obtain⟨o,_,_,_,e,ex,_⟩:=I.hok p _ hk
   refine⟨⟨o,e,ex.1⟩,fun a e2=>?_⟩
   cases e2
   exact⟨o,e,ex.2.1⟩
 |_=>exact False.elim ty
def tBM (K:PySem.W.Frag) (T:String) (r:V→List V→Hp→VK→Prop) (to:TE) (t:TA):TE:=fun σ H Q=>to σ H fun x H1=>tyV K T x H1∧t σ H1 fun xs H2=>r x xs H2 Q
variable {o e:Expr} {es:List Expr} {to:TE} {t:TA} {name:Str} {apos cpos:Pos} {T id:String} {r:V→List V→Hp→VK→Prop}
theorem pe_bm (pa:PlainAttrs T) (slot:Slot T name id) (hty:typeOf (.builtin id)=pure (.type "method_descriptor")) (hm:MtR X id r) (ho:PE X o to) (ha:PA X (e::es) t)
  (hbase:attributeBase o name X.env (eval o X.env)=eval o X.env:=by rfl)
  (hfew:((backTo cpos (starEach (e::es) X.env)).all (fun x=>!x.1)&&(backToKw cpos (keywordEach [] X.env)).all (fun x=>x.1.isSome)
   &&decide ((e::es).length+([]:List Keyword).length+(if([]:List Keyword).isEmpty then 0 else 1) < 30))=true:=by rfl)
  (hline:(apos.endLine==cpos.line)=true:=by rfl) (hs:starEach (e::es) X.env=(false,eval e X.env)::starEach es X.env:=by rfl) (hplain:(backTo cpos (starEach es X.env)).any (·.1)=false:=by rfl):
  PE X (.Call (.Attribute o name apos) (e::es) [] cpos) (tBM X.K T r to t):=by
 intro pZ s σ H Q I h
 refine wpAny_Call_method_late hbase hfew hline rfl (thn (ho pZ s σ H _ I h) fun v s1 ⟨x,H1,I1,r1,ty,q1⟩=>?_)
 obtain⟨h1,h2⟩:=tyV_is I1 r1 ty
 refine⟨T,id,pa,slot,hty,h1,h2,?_⟩
 have hA:=ha cpos pZ s1 σ H1 _ I1 q1
 rw[hs] at hA ⊢
 refine Calls.callWith_builtin (by show (false||(backTo cpos (starEach es X.env)).any (·.1))=false;rw[hplain]<;>rfl) (Calls.evalArgs_plain ?_)
 exact thn hA fun us s2 ⟨vs,H2,I2,r2,q2⟩=>hm pZ s2 σ H2 x vs v us Q I2 r1 r2 q2
end
end L2
namespace L2
open PySem PySem.Spec PyProof.Rows
def MtM (X:Cx) (id:String) (r:V→List V→Hp→VK→Prop):Prop:=
 ∀ (pZ:List (Addr×Obj)) (s:Shared) (σ:St) (H:Hp) (x:V) (xs:List V) (v:Value) (us:List Value) (Q:VK),Inv X pZ σ H s→RelV x v→Vals xs us→r x xs H Q→
  wpAny (model X.prog X.w) X.A (call (.builtin id) (v::us)) (EP X pZ σ Q) X.xe s
theorem Vals.one: ∀ {x:V} {us:List Value},Vals [x] us→∃ u,us=[u]∧RelV x u
 |_,_,.cons r .nil=>⟨_,rfl,r⟩
theorem Vals.reverse (h:Vals xs us):Vals xs.reverse us.reverse:=by
 induction h with
 |nil=>exact .nil
 |cons r t ih=>rw[List.reverse_cons,List.reverse_cons];exact Vals.append ih (.cons r .nil)
theorem Vals.rep (h:Vals xs us): ∀ k:Nat,Vals (List.replicate k xs).flatten (List.replicate k us).flatten
 |0=>.nil
 |k+1=>by
  rw[List.replicate_succ,List.replicate_succ,List.flatten_cons,List.flatten_cons]
  exact Vals.append h (Vals.rep h k)
theorem foldl_rep (its:List Value): ∀ (k:Nat) (acc:List Value),
  List.foldl (fun x1 x2=>x1++x2) acc.toArray (List.replicate k its.toArray)=(acc++(List.replicate k its).flatten).toArray
 |0,acc=>by simp
 |k+1,acc=>by
  have e:acc.toArray++its.toArray=(acc++its).toArray:=by simp
  have e2:(acc++its)++(List.replicate k its).flatten=acc++(List.replicate (k+1) its).flatten:=by
   rw[List.replicate_succ,List.flatten_cons,List.append_assoc]
  rw[←e2,←foldl_rep its k (acc++its),←e,List.replicate_succ,List.foldl_cons]
section
variable {X:Cx} {pZ:List (Addr×Obj)} {σ:St} {H:Hp} {s:Shared} {l b:Addr} {xs ys zs:List V}
theorem Inv.lset {its its':List Value} {f:Array Value→Array Value} {t':Nat} (I:Inv X pZ σ H s) (hH:H l=some (.lst xs))
  (e:s.heap.get? l=some {cls:=.type "list",data:=.seq its.toArray n}) (hf:f its.toArray=its'.toArray) (hv:Vals ys its') (hz:ys.length≤sizeLine):
  Inv X pZ σ (upd H l (.lst ys)) {s with heap:=s.heap.update l (Obj.mapSeq f),toks:=t'}:=by
 have q:=PySem.IsL.update e f
 rw[hf] at q
 refine I.write (x:=l) (e:=l) (by rw[hH];exact trivial) (.inl rfl) (fun b' u hb hu=>(Heap.get?_update_other s.heap (Obj.mapSeq f) (Ne.symm hb)).trans hu) ⟨_,q⟩ ?_
 exact⟨hz,its',_,hv,q⟩
theorem Inv.lnew (I:Inv X pZ σ H s) (hv:Vals ys its) (hz:ys.length≤sizeLine):
  Inv X pZ σ (upd H s.heap.objs.size (.lst ys)) {s with heap:=s.heap.push {cls:=.type "list",data:=.seq its.toArray},toks:=t'}:=
 I.laid (fun _ _ q=>Heap.get?_push_of_some _ q) (Nat.le_refl _) ⟨hz,its,0,hv,Heap.get?_push_size _ rfl⟩
theorem Inv.fresh (I:Inv X pZ σ H s):H s.heap.objs.size=none:=I.hok.fresh (Nat.le_refl _)
theorem Inv.lstM (I:Inv X pZ σ H s) (hH:H l=some (.lst xs)):xs.length≤sizeLine∧∃ (its:List Value) (n:Nat),Vals xs its∧xs.length=its.length∧s.heap.get? l=some {cls:=.type "list",data:=.seq its.toArray n}:=by
 obtain⟨z,its,n,r,e⟩:=I.hok l _ hH
 exact⟨z,its,n,r,r.length,e⟩
theorem notLongL (h:n≤sizeLine):Builtin.List.listTooLong n=false:=by
 unfold Builtin.List.listTooLong
 exact decide_eq_false (by lia)
end
section
variable {X:Cx}
def rAppend:V→List V→Hp→VK→Prop:=fun x vs H Q=> ∃ l xs y,x= .ref l∧vs=[y]∧H l=some (.lst xs)∧xs.length < sizeLine∧Q .non (upd H l (.lst (xs++[y])))
theorem mt_append:MtM X "list.append" rAppend:=by
 intro pZ s σ H x vs v us Q I rx rv h
 obtain⟨l,xs,y,rfl,rfl,hH,hz,q⟩:=h
 cases rx
 obtain⟨u,rfl,ru⟩:=rv.one
 obtain⟨z,its,n,r,hl,e⟩:=I.lstM hH
 refine call_meets F.slot_list_append ⟨_,e,rfl⟩ F.entry_list_append (F.args_list_append_2 _ _) (PySem.list_append l its.toArray n u (by rw[List.size_toArray];lia)) ⟨e,?_⟩
 refine⟨.non,_,I.lset (its':=its++[u]) hH e (by simp) (r.append (.cons ru .nil)) ?_,rfl,q⟩
 rw[List.length_append,List.length_singleton]
 lia
def rCat:R2:=fun x y H Q=> ∃ l b xs zs,x= .ref l∧y= .ref b∧H l=some (.lst xs)∧H b=some (.lst zs)∧xs.length+zs.length≤sizeLine∧∀ p,H p=none→Q (.ref p) (upd H p (.lst (xs++zs)))
theorem op_cat:OpR X (binaryOp .Add) rCat:=by
 intro pZ s σ H x y v u Q I rx ry h
 obtain⟨l,b,xs,zs,rfl,rfl,hH,hB,hz,q⟩:=h
 cases rx
 cases ry
 obtain⟨z,its,n,r,hl,e⟩:=I.lstM hH
 obtain⟨z2,its2,n2,r2,hl2,e2⟩:=I.lstM hB
 refine PySem.P.add_list e e2 ?_ (by rw[List.size_toArray,List.size_toArray];lia)
 have ea:its.toArray++its2.toArray=(its++its2).toArray:=by simp
 rw[ea]
 exact⟨.ref _,_,I.lnew (t':=s.toks) (r.append r2) (by rw[List.length_append];lia),rfl,q _ I.fresh⟩
noncomputable def rRep:R2:=fun x y H Q=> ∃ l k xs,x= .ref l∧y= .int k∧H l=some (.lst xs)∧-(2 ^ 63)≤k∧k < 2 ^ 63∧xs.length * k.toNat≤sizeLine∧
 ∀ p,H p=none→Q (.ref p) (upd H p (.lst (List.replicate k.toNat xs).flatten))
theorem len_rep (xs:List α) (k:Nat):(List.replicate k xs).flatten.length=k * xs.length:=by
 induction k with
 |zero=>simp
 |succ k ih=>rw[List.replicate_succ,List.flatten_cons,List.length_append,ih,Nat.succ_mul,Nat.add_comm]
theorem op_rep:OpR X (binaryOp .Mult) rRep:=by
 intro pZ s σ H x y v u Q I rx ry h
 obtain⟨l,k,xs,rfl,rfl,hH,h1,h2,hz,q⟩:=h
 cases rx
 obtain⟨t,rfl⟩:=ry
 obtain⟨z,its,n,r,hl,e⟩:=I.lstM hH
 have hlen:its.toArray.size * k.toNat≤sizeLine:=by rw[List.size_toArray,←hl];exact hz
 have hcap: ¬ its.toArray.size * k.toNat > (2 ^ 63 - 1) / 8:=by
  have:(sizeLine:Nat)≤(2 ^ 63 - 1) / 8:=by decide
  lia
 have hfit: ¬ (!Builtin.List.listFitsIndex k)=true:=by
  rw[fitsIndex_both h1 h2]
  exact Bool.false_ne_true
 have hlong: ¬ Builtin.List.listTooLong (its.toArray.size * k.toNat)=true:=by
  rw[notLongL hlen]
  exact Bool.false_ne_true
 have hnew:List.foldl (fun x1 x2=>x1++x2) #[] (List.replicate (if its.toArray.isEmpty=true then 0 else k.toNat) its.toArray)=(List.replicate k.toNat its).flatten.toArray:=by
  have f0: ∀ m:Nat,List.foldl (fun x1 x2=>x1++x2) #[] (List.replicate m its.toArray)=(List.replicate m its).flatten.toArray:=fun m=>by
   have:=foldl_rep its m []
   rw[List.nil_append] at this
   exact this
  rw[f0]
  cases its with
  |nil=>simp
  |cons a r'=>rw[if_neg (by simp)]
 refine wpAny_binaryOp_repeat_ref (T:="list") (U:="int") (by decide) ⟨_,e,rfl⟩ (fun s'=>typeIs_int s' k t) noFill_list_mul F.fills_int_mul F.slot_int_rmul repeat_list F.slot_int_index.lookup
  (call_meets F.slot_int_rmul (typeIs_int s k t) F.entry_int_rmul (F.args_int_rmul_2 _ _) (int___rmul___int_list k t l its.toArray n)
   ⟨e,rfl,⟨_,e,rfl⟩,call_meets F.slot_list_mul ⟨_,e,rfl⟩ F.entry_list_mul (F.args_list_mul_2 _ _) (AutoListH.list___mul___list_int_3 l its.toArray n k t hfit hcap hlong) ⟨e,?_⟩⟩)
 rw[hnew]
 exact⟨.ref _,_,I.lnew (t':=s.toks) (r.rep k.toNat) (by rw[len_rep,Nat.mul_comm];exact hz),rfl,q _ I.fresh⟩
end
end L2
namespace Att
open PySem PySem.W PySem.Calls PyProof.Rows
theorem ints_of_wellAll: ∀ (ns:List Int) (vs:List Value),WellAll P h vs (ns.map WData.int)→IntsAre vs ns:=by
 intro ns
 induction ns with
 |nil=>
  intro vs w
  rw[List.map_nil] at w
  cases w
  exact .nil
 |cons n ns ih=>
  intro vs w
  rw[List.map_cons] at w
  cases w with
  |cons a b=>
   cases a
   exact .cons _ _ (ih _ b)
theorem script_of {l:OpenLaw} (hn:l.most=some n)
  (hpre:l.row.toRowW.claim.pre args=true) (hwl:WellAll P h vals args):
  ∃ a vs ns,vals=[Value.ref a]∧args=[WData.list (ns.map WData.int)]∧h.get? a=some {cls:=.type "list",data:=.seq vs.toArray}∧IntsAre vs ns∧ns.length≤n:=by
 have hsh:WShape.hasAll [] args [.list .int]=true:=(pre_splitW hpre).1
 have hc:l.pre.holds [] {args:=args}=true:=(pre_splitW hpre).2
 obtain⟨d,r,rfl,h1,h2⟩:=hasAllW_cons hsh
 obtain rfl:=hasAllW_nil h2
 obtain⟨xs,rfl,h3⟩:=hasW_list h1
 obtain⟨ns,rfl⟩:=items_int h3
 have hlen:ns.length≤n:=by
  unfold OpenLaw.pre at hc
  have h4:(WTm.not (.lt (.lit (.int (n:Int))) (.len (.arg 0)))).holds [] {args:=[.list (ns.map .int)]}=true:=by
   have h4:=(holds_andW hc).1
   rw[hn] at h4
   exact h4
  have h5:=condW_of h4 (w_not (w_lt w_lit (w_len_list (w_arg rfl))))
  rw[List.length_map] at h5
  refine Nat.le_of_not_lt fun q=>?_
  have q':(n:Int) < ((ns.length:Nat):Int):=by lia
  first
   |(rw[decide_eq_true q'] at h5;exact absurd h5 (by decide))
   |(simp at h5;lia)
 cases hwl with
 |cons w1 w2=>
  cases w2
  cases w1 with
  |list ho hall=>exact⟨_,_,ns,rfl,rfl,ho,ints_of_wellAll ns _ hall,hlen⟩
theorem post_true (l:OpenLaw) (args:List WData):l.row.toRowW.claim.post args (.bool true) args=true:=
 postW_of (r:=l.row.toRowW) (X:=(true==true))
  (show WShape.has [] (.bool true) .bool=true by first|rfl|decide|simp[WShape.has,WShape.arms,WShape.armsAll])
  (show (WTm.eq .res (.lit (.bool true))).value [] {args:=args,res:=some (.bool true),after:=args}=some (.bool (true==true)) from w_eq_bool (w_res rfl) w_lit) rfl
theorem attach_call {l:OpenLaw} {YP:World→Heap→Prop} {d:DefRec}
  (hn:l.most=some n) (hdf:d.params.defaults=[])
  (call: ∀ (w:World) (s₀ s₁:Shared) (mg mb:Str→Option Value) (fa:Addr) (o:Obj) (pm cd doc:Value) (a:Addr) (vs:List Value) (ns:List Int),
   Ground q loose [] XP w s₀ mg mb s₁.heap→YP w s₁.heap→
   s₁.heap.get? fa=some o→o.data= .func (docDef d.name d.params d.body d.scope pm cd doc)→s₁.heap.CodeRec cd d.name→mg d.name=some (.ref fa)→
   s₁.heap.get? a=some {cls:=.type "list",data:=.seq vs.toArray}→IntsAre vs ns→ns.length≤n→s₁.gens= #[]→
   codeAny (model l.prog w) callerA (.call (.ref fa) ⟨[.ref a],[]⟩) (fun r s'=>r= .ok (.ret (.bool true))∧OldK s₁.heap s'.heap∧s'.os=s₁.os∧AllBare s'.gens) s₁):
  WalkO q loose XP YP l.row.toRowW d [] (fun f vs=>PySem.call f vs):=by
 intro w s₀ s₁ mg mb G Y fa o pm cd doc dV kV ho hd hcd hD hmg hg args vals as hpre hlay hrd hwl hlo
 obtain rfl:dV= .none:=Dflts.none hD hdf
 obtain rfl:kV= .none:=Dflts.noKw hD
 obtain⟨a,vs,ns,rfl,rfl,hobj,hints,hlen⟩:=script_of hn hpre hwl
 refine enter_call (codeAny_mono (call w s₀ s₁ mg mb fa o pm cd doc a vs ns G Y ho (fd_plain hd) hcd hmg hobj hints hlen hg) fun r s' hq=>?_)
 obtain⟨rfl,h2,h3,h4⟩:=hq
 exact⟨.inl ⟨.bool true,.bool true,[],rfl,fun _=>rfl,.bool true,post_true l _,fun _=>⟨List.Pairwise.nil,fun _ hm=>(nomatch hm)⟩⟩,h2,h3,h4⟩
end Att
namespace L2
open PySem PySem.Spec PyProof.Rows
theorem vals_ints: ∀ {vs:List Value} {ns:List Int},IntsAre vs ns→Vals (ns.map V.int) vs
 |_,_,.nil=>.nil
 |_,_,.cons n t h=>.cons ⟨t,rfl⟩ (vals_ints h)
end L2
namespace L2
open PySem PySem.Spec PyProof.Rows
end L2
namespace L2
open PySem PySem.Spec PyProof.Rows
noncomputable def defArgs (s:Stmt):Arguments:=match s with
 | .FunctionDef _ a _ _ _ _ _ _ _ _=>a
 |_=>{posonlyargs:=[],args:=[],vararg:=none,kwonlyargs:=[],kw_defaults:=[],kwarg:=none,defaults:=[]}
def defBody (s:Stmt):List Stmt:=match s with
 | .FunctionDef _ _ b _ _ _ _ _ _ _=>b
 |_=>[]
def defScope (s:Stmt):Scope:=match s with
 | .FunctionDef _ _ _ _ _ _ sc _ _ _=>sc
 |_=>{kind:=.function,names:=[],isGenerator:=false,isCoroutine:=false}
abbrev CX0:CXT:=fun _ _ _ _ _ _=>False
abbrev E0:XK:=fun _ _ _=>False
theorem pass0:Passes CX0 X E0:=fun _ _ _ _ _ _ _ h=>h.elim
structure Fun (K:PySem.W.Frag) (x qual:Str) (st:Stmt) (f:Addr) (fd:FuncData):Prop where
 ex: ∃ (oc:Value) (od:Option Addr) (kV doc pm:Value) (an:Option Addr) (cdv ct:Value) (osl:Array (Option Value)),
  fd=PySem.W.fnOf x qual (defArgs st) (defBody st) (defScope st) .none kV doc pm an cdv ct∧K.lookup f=some ⟨oc,od,.func fd,osl⟩∧PySem.W.codeIn K cdv qual=true
 kp:PySem.W.keepIn K (.ref f)=true
section
variable {P:Program} {w:World} {K:PySem.W.Frag} {mg:Str→Option Value} {base:Heap}
theorem Fun.ok {x qual:Str} {st:Stmt} {f:Addr} {fd:FuncData} {N ps:List Str} {k:Nat} {sp:Sp} (F:Fun K x qual st f fd) (S:FnScope N ps (defScope st)) (len: ∀ vs H Q E,sp vs H Q E→vs.length=ps.length)
  (hbody: ∀ (cdv:Value) (A:Around) (outer:List Env) (s:Shared) (H:Hp) (vs:List V) (Q:VK) (E:XK),Room k (A.deeper (envOfC qual (defScope st) s.heap.objs.size f cdv))→sp vs H Q E→
   ∃ t,PSs (cxOf CX0 P w K mg base N qual (defScope st) f cdv A outer s H E).nox (defBody st) t∧t {nx:=fun _ H'=>Q .non H',rt:=Q} (start N vs) H):FnOk P w K mg base CX0 (k+1) f fd ps sp:=by
 obtain⟨oc,od,kV,doc,pm,an,cdv,ct,osl,rfl,lk,hcd⟩:=F.ex
 refine fn_of lk hcd S len fun A outer s H vs Q E hr hsp=>?_
 obtain⟨t,h,q⟩:=hbody cdv A outer s H vs Q E hr hsp
 exact⟨t,h.nox,q⟩
theorem Fun.binds {x qual:Str} {st:Stmt} {f:Addr} {fd:FuncData} {ps:List Str} (F:Fun K x qual st f fd)
  (h: ∀ (kV doc pm:Value) (an:Option Addr) (cdv ct:Value) (us:List Value),us.length=ps.length→bindArgs (PySem.W.fnOf x qual (defArgs st) (defBody st) (defScope st) .none kV doc pm an cdv ct) ⟨us,[]⟩=pure (ps.zip us)):Binds K fd ps []:=by
 obtain⟨oc,od,kV,doc,pm,an,cdv,ct,osl,rfl,lk,hcd⟩:=F.ex
 exact .all (h kV doc pm an cdv ct)
theorem fun_mk {x qual:Str} {st:Stmt} {f:Addr} {oc:Value} {od an:Option Addr} {osl:Array (Option Value)} {kV doc pm cdv ct:Value} (l:K.lookup f=some ⟨oc,od,.func (PySem.W.fnOf x qual (defArgs st) (defBody st) (defScope st) .none kV doc pm an cdv ct),osl⟩)
  (c:PySem.W.codeIn K cdv qual=true) (k:PySem.W.keepIn K (.ref f)=true):Fun K x qual st f (PySem.W.fnOf x qual (defArgs st) (defBody st) (defScope st) .none kV doc pm an cdv ct):=⟨⟨oc,od,kV,doc,pm,an,cdv,ct,osl,rfl,l,c⟩,k⟩
end
theorem hu_of (hr:Room k A):A.units+1 < cLine:=Nat.lt_of_le_of_lt (Nat.add_le_add_left (by decide:1≤64) _) hr.units
section
variable {X:Cx}
theorem pv (i:Nat) (hN:X.N[i]?=some x:=by rfl) (hv:Vis X.env.scope x:=by first|exact Or.inl rfl|exact Or.inr (Or.inl rfl)|exact Or.inr (Or.inr rfl)) (hd:(x==("__debug__":Str))=false:=by decide)
  (hcd:(x==("__classdict__":Str))=false:=by decide):PE X (.Name x pos) (tVar i):=pe_var hN hv hd hcd
end
theorem ite2 {A B:Prop} [Decidable c] (h1:c→A) (h2: ¬ c→B):if c then A else B:=by
 by_cases h:c
 ·rw[if_pos h]
  exact h1 h
 ·rw[if_neg h]
  exact h2 h
def Same (H H':Hp):Prop:= ∀ b o,H b=some o→H' b=some o
theorem Same.trans (a:Same H H1) (b:Same H1 H2):Same H H2:=fun c o h=>b c o (a c o h)
theorem Same.seq {K:PySem.W.Frag} {H H':Hp} {a:Addr} {xs:List V} (e:Same H H') (h:SqL K H a xs):SqL K H' a xs:=by
 rcases h with(h|⟨o,h⟩)|h
 ·exact .inl (.inl (e _ _ h))
 ·exact .inl (.inr ⟨o,e _ _ h⟩)
 ·exact .inr h
end L2
end
namespace L2
section
variable {κ:Type} [DecidableEq κ]
theorem KV.length (r:KV kvs vs):kvs.length=vs.length:=Paired.length r
end
section
variable {P:Program} {w:World} {H:Hp} {h:Heap} {a:Addr}
theorem rd_of (ok:HOk P w H h) (e:Rd H a u):ObjOk P w H h a u:=e.ok ok
theorem dk_rd (ok:HOk P w H h) (e:Rd H a (.dK kvs)):kvs.length≤sizeLine∧(a==sysModules)=false∧∃ vs,KV kvs vs∧h.DictOf (mixKind P w) a vs:=
 show ObjOk P w H h a (.dK kvs) from rd_of ok e
end
section
variable {X:Cx} {pZ:List (Addr×Obj)} {σ:St} {H:Hp} {s:Shared} {a:Addr} {y v:V} {u r:Value} {o:Option V} {A:Around} {E:Value→Shared→Prop}
theorem Inv.big (I:Inv X pZ σ H s):sysModules < s.heap.objs.size:=by
 have h:mainGlobals < s.heap.objs.size:=(I.mod.glob.keeps I.bk).lt
 exact Nat.lt_trans (by decide) h
end
section
variable {X:Cx} {pZ:List (Addr×Obj)} {σ:St} {H:Hp} {s:Shared} {a:Addr} {kvs:List (Key×V)} {k:Key} {u:Value} {A:Around} {E:Value→Shared→Prop}
theorem d_len (I:Inv X pZ σ H s) (e:Rd H a (.dK kvs)) (h: ∀ t s',Inv X pZ σ H s'→Q (.int kvs.length t) s'):wpAny (model X.prog X.w) A (call (.builtin "len") [.ref a]) Q E s:=by
 obtain⟨z,hd,vs,rel,dd⟩:=dk_rd I.hok e
 refine call_len_dict hd dd (by rw[←rel.length];rw[sizeLine_eq] at z;lia) ?_
 rw[←rel.length]
 exact h _ _ (I.tok _)
end
theorem dk_empty (h:Heap) (hb:sysModules < h.objs.size):ObjOk P w H (h.push {cls:=.type "dict",data:=.dict #[]}) h.objs.size (.dK []):=
 ⟨Nat.zero_le _,beq_eq_false_iff_ne.mpr (Ne.symm (Nat.ne_of_lt hb)),[],.nil,Heap.DictOf.new h⟩
def tDNewK:TE:=fun _ H Q=> ∀ p,H p=none→Q (.ref p) (upd H p (.dK []))
section
variable {X:Cx} {pos:Pos}
theorem pe_dnewK:PE X (.Dict [] [] pos) tDNewK:=fun pZ s σ H Q I h=>
 wpAny_Dict_empty ⟨.ref s.heap.objs.size,_,I.laid (a:=s.heap.objs.size) (o:=.dK []) (t':=s.toks) (fun _ _ q=>Heap.get?_push_of_some _ q) (Nat.le_refl _) (dk_empty s.heap I.big),rfl,h _ (I.hok.fresh (Nat.le_refl _))⟩
end
def clStep (cells:List (Str×Addr)) (cs:List (Str×Addr)) (p:Str×NameKind):List (Str×Addr):=
 if p.2== .free then(match cells.lookup p.1 with|some c=>(p.1,c)::cs|none=>cs) else cs
def clOf (names:List (Str×NameKind)) (cells:List (Str×Addr)):List (Str×Addr):=names.foldl (clStep cells) []
theorem closure_fold (env:Env): ∀ (names:List (Str×NameKind)) (cs:List (Str×Addr)),(∀ p∈names,p.2= .free→∃ c,env.cells.lookup p.1=some c)→
  (forIn names cs fun (p:Str×NameKind) r=>(if(p.2== .free)=true then do let a ←cellOf env p.1;pure (ForInStep.yield ((p.1,a)::r)) else pure (ForInStep.yield r):Sem (ForInStep (List (Str×Addr)))))=pure (names.foldl (clStep env.cells) cs)
 |[],cs,_=>rfl
 |p::r,cs,h=>by
  have ih:=fun cs'=>closure_fold env r cs' fun q hq=>h q (List.mem_cons_of_mem _ hq)
  rw[List.forIn_cons]
  by_cases hp:(p.2== .free)=true
  ·obtain⟨c,hc⟩:=h p List.mem_cons_self (by simpa using hp)
   have e:clStep env.cells cs p=(p.1,c)::cs:=by unfold clStep;rw[if_pos hp,hc]
   have e2:cellOf env p.1=pure c:=by unfold cellOf;rw[hc]
   rw[if_pos hp,e2,List.foldl_cons,e]
   exact ih _
  ·have e:clStep env.cells cs p=cs:=by unfold clStep;rw[if_neg hp]
   rw[if_neg hp,List.foldl_cons,e]
   exact ih _
theorem closure_is (h: ∀ p∈scope.names,p.2= .free→∃ c,env.cells.lookup p.1=some c):closureFor scope env=pure (clOf scope.names env.cells):=by
 have q:=closure_fold env scope.names [] h
 unfold closureFor
 show (forIn scope.names [] _ >>= fun cs=>pure cs)=_
 have e: ∀ m:Sem (List (Str×Addr)),(m >>= fun cs=>pure cs)=m:=fun m=>bind_pure m
 rw[e]
 exact q
theorem cl_sound (cells:List (Str×Addr)): ∀ (names:List (Str×NameKind)) (cs:List (Str×Addr)),(∀ x c,cs.lookup x=some c→cells.lookup x=some c)→∀ x c,(names.foldl (clStep cells) cs).lookup x=some c→cells.lookup x=some c
 |[],_,h=>h
 |p::r,cs,h=>cl_sound cells r _ (fun x c e=>by
  unfold clStep at e
  split at e
  ·split at e
   ·rename_i c' hc'
    rw[List.lookup_cons] at e
    split at e
    ·rename_i hx
     have hx':x=p.1:=by simpa using hx
     cases e;rw[hx'];exact hc'
    ·exact h x c e
   ·exact h x c e
  ·exact h x c e)
theorem cl_keeps (cells:List (Str×Addr)): ∀ (names:List (Str×NameKind)) (cs:List (Str×Addr)) (x:Str),(∃ c,cs.lookup x=some c)→∃ c,(names.foldl (clStep cells) cs).lookup x=some c
 |[],_,_,h=>h
 |p::r,cs,x,h=>cl_keeps cells r _ x (by
  unfold clStep
  split
  ·split
   ·rw[List.lookup_cons]
    split
    ·exact⟨_,rfl⟩
    ·exact h
   ·exact h
  ·exact h)
theorem cl_has (cells:List (Str×Addr)): ∀ (names:List (Str×NameKind)) (cs:List (Str×Addr)) (x:Str),(x,NameKind.free)∈names→(∃ c,cells.lookup x=some c)→∃ c,(names.foldl (clStep cells) cs).lookup x=some c
 |[],_,_,h,_=>by simp at h
 |p::r,cs,x,h,hc=>by
  rcases List.mem_cons.mp h with e|e
  ·subst e
   refine cl_keeps cells r _ x ?_
   obtain⟨c,hc⟩:=hc
   unfold clStep
   rw[if_pos (by rfl),hc]
   exact⟨c,by rw[List.lookup_cons];simp⟩
  ·exact cl_has cells r _ x e hc
noncomputable def cxC (X:Cx) (scope:Scope) (N:List Str) (s₀:Shared) (H₀:Hp) (ex:List Addr) (pn:List (Addr×Obj)):Cx:=
 {prog:=X.prog,w:=X.w,K:=X.K,mg:=X.mg,base:=X.base,A:=X.A,N:=N,s₀:=s₀,H₀:=H₀,env:=compEnvC scope (clOf scope.names X.env.cells) s₀.heap.objs.size X.env,outer:=X.stack,stack:=X.stack,ex:=ex,fn:=fun _=>false,calm:=true,pn:=pn,xe:=fun _ _=>False}
def capSt (js:List (Option Nat)) (σ:St):St:=js.map fun o=>match o with|some j=>(σ[j]?).getD none|none=>none
def PTs (X:Cx) (ifs:List Expr) (t:TT):Prop:=
 ∀ (pZ:List (Addr×Obj)) (s:Shared) (σ:St) (H:Hp) (Q:Bool→Hp→Prop),Inv X pZ σ H s→t σ H Q→
  wpAny (model X.prog X.w) X.A (forIn ifs true fun c r=>if r=true then do let ok ←isTrue c X.env (eval c X.env);pure (ForInStep.yield ok) else pure (ForInStep.yield r)) (TP X pZ σ Q) X.xe s
def tNoIf:TT:=fun _ H Q=>Q true H
theorem pts_nil:PTs X [] tNoIf:=fun pZ s σ H Q I h=>wpAny_tests_nil ⟨H,I,h⟩
theorem pts_one (h:PT X c t):PTs X [c] t:=fun pZ s σ H Q I hw=>wpAny_tests_one (h pZ s σ H Q I hw)
theorem comp_loop (I:Nat→Shared→Prop)
  (turn: ∀ n s,I n s→wpAny (model prog w) A (pyNext it) (fun r s₁=>match r with
   |none=>R (.ok .next) s₁
   |some v=>wpAny (model prog w) A (letOwnedTupleGo target it v) (fun _ s₁'=>wpAny (model prog w) A (assign target env v) (fun _ s₂=>
     wpAny (model prog w) A (forIn ifs true fun c r=>if r=true then do let ok ←isTrue c env (eval c env);pure (ForInStep.yield ok) else pure (ForInStep.yield r)) (fun ok s₃=>
      if ok=true then wpAny (model prog w) A (eval elt env) (fun x s₄=>
       wpAny (model prog w) A (call (.builtin "list.append") [acc,x]) (fun _ s₅=> ∃ m,m < n∧I m s₅) (fun _ _=>False) s₄) (fun _ _=>False) s₃
      else ∃ m,m < n∧I m s₃) (fun _ _=>False) s₂) (fun _ _=>False) s₁') (fun _ _=>False) s₁) (fun _ _=>False) s)
  (n:Nat) (h:I n s):
  codeAny (model prog w) A (.compLoop (.ListComp elt [⟨target,iter,ifs,0⟩] scope pos) 0 it acc env) R s:=by
 refine codeAny_loop rfl I (fun n s hI=>?_) n h
 show wpAny _ A ((compTurn (.ListComp elt [⟨target,iter,ifs,0⟩] scope pos) 0 it acc env).onRaise (fun x=>do noteFrame x env;theTreesLotGoes x)) _ _ s
 refine wpAny_noted ?_
 refine wpAny_mono (E:=fun _ _=>False) ?_ (fun _ _ q=>q) fun _ _ q=>q.elim
 rw[compTurn_list]
 refine wpAny_bind (wpAny_standAt (wpAny_bind (thn (turn n s hI) fun r s₁ h₁=>?_)))
 cases r with
 |none=>exact wpAny_pure h₁
 |some v=>
  refine wpAny_bind (thn h₁ fun _ s₁' h₁'=>?_)
  refine wpAny_bind (thn h₁' fun _ s₂ h₂=>wpAny_bind (thn h₂ fun ok s₃ h₃=>?_))
  cases ok with
  |false=>exact wpAny_pure ⟨rfl,h₃⟩
  |true=>exact wpAny_bind (wpAny_bind (thn h₃ fun x s₄ h₄=>wpAny_bind (thn h₄ fun _ s₅ h₅=>wpAny_pure (wpAny_pure ⟨rfl,h₅⟩))))
def LcW (J:It) (D:Addr) (g:TG) (tt:TT) (te:TE) (Q:VK) (σ0:St) (H1:Hp):Prop:=
 ∃ W:Nat→Nat→St→Hp→Prop,(∃ m,W 0 m σ0 (upd H1 D (.lst [])))∧∀ i m σ' H',W i m σ' H'→
  (J.stop i H'∧Q (.ref D) H')∨(J.go i H'∧∀ x H2,J.yld i H' x H2→g x σ' H2 fun σ2 H3=>tt σ2 H3 fun ok H4=>
   if ok=true then te σ2 H4 fun y H5=> ∃ ys,H5 D=some (.lst ys)∧ys.length < sizeLine∧∃ m',m' < m∧W (i+1) m' σ2 (upd H5 D (.lst (ys++[y])))
   else ∃ m',m' < m∧W (i+1) m' σ2 H4)
def tLC (js:List (Option Nat)) (wi:TI) (g:TG) (tt:TT) (te:TE):TE:=fun σ H Q=>wi σ H fun J H1=> ∀ D,H1 D=none→LcW J D g tt te Q (capSt js σ) H1
structure LcScope (X:Cx) (scope:Scope) (N:List Str) (js:List (Option Nat)):Prop where
 kind:scope.kind= .function
 nocell: ∀ y∈scope.names,y.2≠.cell
 names: ∀ y∈scope.names,y.2= .local→scope.names.lookup y.1=some .local
 free: ∀ y∈scope.names,y.2= .free→X.env.scope.names.lookup y.1=some .cell∨X.env.scope.names.lookup y.1=some .free
 len:js.length=N.length
 cap: ∀ (i:Nat) (y:Str) (j:Nat),N[i]?=some y→js[i]?=some (some j)→X.N[j]?=some y∧scope.names.lookup y=some .free
def relF (env:Env) (p:Str×NameKind):Str×NameKind:=if(p.2==NameKind.free&&env.scope.kind== .function&&env.kindOf p.1==some .cell) then(p.1,NameKind.cell) else(p.1,p.2)
theorem relF_fst (env:Env) (p:Str×NameKind):(relF env p).1=p.1:=by unfold relF;split<;>rfl
theorem rel_free: ∀ {names:List (Str×NameKind)} {x:Str},names.lookup x=some .free→(names.map (relF env)).lookup x=some .cell∨(names.map (relF env)).lookup x=some .free
 |[],_,h=>by simp at h
 |p::r,x,h=>by
  rw[List.map_cons,List.lookup_cons,relF_fst]
  rw[List.lookup_cons] at h
  cases hx:x==p.1 with
  |true=>
   rw[hx] at h
   have h':p.2= .free:=by simpa using h
   have e:(relF env p).2= .cell∨(relF env p).2= .free:=by
    unfold relF
    split
    ·exact .inl rfl
    ·exact .inr h'
   rcases e with e|e
   ·exact .inl (congrArg some e)
   ·exact .inr (congrArg some e)
  |false=>
   rw[hx] at h
   exact rel_free (env:=env) h
theorem rel_back: ∀ {names:List (Str×NameKind)} {x:Str},((names.map (relF env)).lookup x=some .cell∨(names.map (relF env)).lookup x=some .free)→(x,NameKind.free)∈names∨(x,NameKind.cell)∈names
 |[],_,h=>by simp at h
 |p::r,x,h=>by
  rw[List.map_cons,List.lookup_cons,relF_fst] at h
  cases hx:x==p.1 with
  |true=>
   rw[hx] at h
   have hx':x=p.1:=by simpa using hx
   have h2:(relF env p).2= .cell∨(relF env p).2= .free:=h.elim (fun z=>.inl (Option.some.inj z)) fun z=>.inr (Option.some.inj z)
   have e:p.2= .free∨p.2= .cell:=by
    by_cases hc:(p.2==NameKind.free&&env.scope.kind== .function&&env.kindOf p.1==some .cell)=true
    ·simp only[Bool.and_eq_true] at hc
     exact .inl (by simpa using hc.1.1)
    ·have e2:relF env p=(p.1,p.2):=by unfold relF;rw[if_neg hc]
     rw[e2] at h2
     exact h2.symm
   rcases e with e|e
   ·exact .inl (by rw[hx',←e];exact List.mem_cons_self)
   ·exact .inr (by rw[hx',←e];exact List.mem_cons_self)
  |false=>
   rw[hx] at h
   rcases rel_back h with q|q
   ·exact .inl (List.mem_cons_of_mem _ q)
   ·exact .inr (List.mem_cons_of_mem _ q)
section
variable {X:Cx} {pZ:List (Addr×Obj)} {σ:St} {H:Hp} {s:Shared} {scope:Scope} {N:List Str} {js:List (Option Nat)} {fp:List Addr}
theorem LcScope.clos (L:LcScope X scope N js) (ok:X.Ok): ∀ p∈scope.names,p.2= .free→∃ c,X.env.cells.lookup p.1=some c:=fun p hp hf=>ok.has p.1 (L.free p hp hf)
theorem LcScope.ok (L:LcScope X scope N js) (I:Inv X pZ σ H s) (hc:X.calm=true) (hf: ∀ b∈fp,FpOk X pZ H b) (ho: ∀ b∈fp,∃ o,s.heap.get? b=some o):(cxC X scope N s H fp (X.pn++pZ)).Ok where
 mod:=I.ok.mod
 kind:=L.kind
 glob:=I.ok.glob
 blt:=I.ok.blt
 above:=Nat.le_refl _
 inj:=fun x y c h1 h2=>I.ok.inj x y c (cl_sound _ _ _ (fun _ _ e=>by simp at e) x c h1) (cl_sound _ _ _ (fun _ _ e=>by simp at e) y c h2)
 has:=fun x hx=>by
  have hx':(scope.names.map (relF X.env)).lookup x=some .cell∨(scope.names.map (relF X.env)).lookup x=some .free:=hx
  rcases rel_back hx' with q|q
  ·exact cl_has _ _ _ x q (L.clos I.ok _ q rfl)
  ·exact absurd rfl (L.nocell _ q)
 cab:=fun x c h _=>by cases h
 hd:=fun _=>I.ok.hd hc
 frames:=I.ok.frames
 stk:=.inl rfl
 exf:=fun b hb=>by
  obtain⟨o,e⟩:=ho b hb
  refine⟨Nat.ne_of_lt (Heap.lt_size e),fun x c h=>(hf b hb).2.2.2.2.1 x c (cl_sound _ _ _ (fun _ _ e=>by simp at e) x c h)⟩
 bs:=I.bs
 bsz:=Nat.le_trans I.ok.bsz I.sz
 noex:=fun b o e hb=>by
  rcases(hf b hb).2.2.2.1 with z|z
  ·exact I.ok.noex b o e z
  ·exact absurd (Nat.lt_of_lt_of_le (Heap.lt_size e) (Nat.le_trans I.ok.bsz z)) (Nat.lt_irrefl _)
 exfs:=fun b hb z=>by
  rcases List.mem_cons.mp (I.stkSub b z) with e|e
  ·exact(hf b hb).2.1 e
  ·exact(hf b hb).2.2.1 e
 funs:=I.stack
 frf:=I.stkFree
theorem LcScope.start (L:LcScope X scope N js) (I:Inv X pZ σ H s) (hc:X.calm=true) (hf: ∀ b∈fp,FpOk X pZ H b) (ho: ∀ b∈fp,∃ o,s.heap.get? b=some o)
  (hn:h'.Ns s.heap.objs.size (fun _=>none)) (hk: ∀ b o,s.heap.get? b=some o→h'.get? b=some o):
  Inv (cxC X scope N s H fp (X.pn++pZ)) [] (capSt js σ) H {s with heap:=h',toks:=tk}:=by
 refine⟨L.ok I hc hf ho,rfl,I.bare,Un.kept hk,⟨_,hn,fun i y v e1 e2 e3=>?_⟩,fun x c e=>?_,I.hok.fresh (Nat.le_refl _),fun x c e=>?_,fun p hp=>?_,I.hok.kept hk,?_⟩
 ·unfold capSt at e2
  rw[List.getElem?_map] at e2
  cases ej:js[i]? with
  |none=>rw[ej] at e2;cases e2
  |some o=>
   rw[ej] at e2
   cases o with
   |none=>simp at e2
   |some j=>
    simp only[Option.map_some,Option.some.injEq] at e2
    have es:σ[j]?=some (some v):=by
     cases q:σ[j]? with
     |none=>rw[q] at e2;simp at e2
     |some z=>rw[q] at e2;simp at e2;rw[e2]
    obtain⟨en,ef⟩:=L.cap i y j e1 ej
    have em:(y,NameKind.free)∈scope.names:=PySem.mem_of_lookup ef
    have ek:=L.free _ em rfl
    obtain⟨m,_,hl⟩:=I.loc
    obtain⟨u,r,l⟩:=hl j y v en es (ek.elim (fun z=>.inr (.inl z)) fun z=>.inr (.inr z))
    refine⟨u,r,.inr ⟨rel_free ef,?_⟩⟩
    rcases l with⟨l,_⟩|⟨_,c,ec,z⟩
    ·have l':X.env.scope.names.lookup y=some .local:=l
     rcases ek with ek|ek<;>(rw[ek] at l';cases l')
    ·obtain⟨c',hc'⟩:=cl_has X.env.cells scope.names [] y em ⟨c,ec⟩
     have e':=cl_sound X.env.cells scope.names [] (fun _ _ e=>by simp at e) y c' hc'
     rw[ec] at e';cases e'
     obtain⟨o,ho,hd⟩:=z
     exact⟨c,hc',⟨o,hk c o ho,hd⟩⟩
 ·obtain⟨v,o,ho,hd⟩:=I.cell x c (cl_sound _ _ _ (fun _ _ e=>by simp at e) x c e)
  exact⟨v,o,hk c o ho,hd⟩
 ·exact I.freeC x c (cl_sound _ _ _ (fun _ _ e=>by simp at e) x c e)
 ·have hp':p∈X.pn++pZ:=by simpa[cxC] using hp
  obtain⟨e,n,ne,nf,d⟩:=I.pin p hp'
  refine⟨hk _ _ e,n,Nat.ne_of_lt (Heap.lt_size e),fun z=>?_,d⟩
  rcases List.mem_cons.mp (I.stkSub _ z) with q|q
  ·exact ne q
  ·exact nf q
 ·unfold capSt
  rw[List.length_map]
  exact L.len
theorem lc_end (I:Inv X pZ σ H s) (hf: ∀ b∈fp,FpOk X pZ H b) (J:Inv (cxC X scope N s H fp (X.pn++pZ)) ps σ' H' s'):
  Inv X pZ σ H' s'∧FpOk X pZ H' s.heap.objs.size∧∃ m,s'.heap.Ns s.heap.objs.size m:=by
 refine⟨I.call' (ch:=fp) J.os J.base J.hok J.bare fun b hb=>⟨(hf b hb).2.2.2.1,(hf b hb).2.1,(hf b hb).2.2.2.2.1,(hf b hb).2.2.2.2.2⟩,I.fpOk (Nat.le_refl _) J.free,?_⟩
 obtain⟨m,hn,_⟩:=J.loc
 exact⟨m,hn⟩
theorem Inv.gone {H':Hp} {s':Shared} {C:Addr} {h':Heap} {m:Str→Option Value} (I:Inv X pZ σ H' s') (f:FpOk X pZ H' C) (hs:Heap.SameBut C s'.heap h'):Inv X pZ σ H' {s' with heap:=h'}:=
 I.turned (t':=s'.toks) (it:=C) (fun b o hb e=>(hs.2 b hb).trans e) f.1 f.2.1 f.2.2.2.1 f.2.2.2.2.1 f.2.2.2.2.2
theorem lc_loop {iter:Expr} {Q:VK} {R:Value→Addr→Result→Shared→Prop}
  (L:LcScope X scope N js) (hc:X.calm=true)
  (hg: ∀ s₀ H₀ ex pn,PG (cxC X scope N s₀ H₀ ex pn) target g) (ht: ∀ s₀ H₀ ex pn,PTs (cxC X scope N s₀ H₀ ex pn) ifs tt) (he: ∀ s₀ H₀ ex pn,PE (cxC X scope N s₀ H₀ ex pn) elt te)
  (I:Inv X pZ σ H s) (T:Turn X.prog X.w X.K target J fp it tn) (st:tn 0 s.heap) (hf: ∀ b∈fp,FpOk X pZ H b) {h₁:Heap} {tk:Nat} (I3:Inv X pZ σ (upd H D (.lst [])) s3) (hDl: ∀ b o,s.heap.get? b=some o→b≠D) (k3: ∀ b o,s.heap.get? b=some o→s3.heap.get? b=some o)
  (hns₁:h₁.Ns s3.heap.objs.size (fun _=>none)) (kk: ∀ b o,s3.heap.get? b=some o→h₁.get? b=some o)
  (w: ∃ W:Nat→Nat→St→Hp→Prop,(∃ m,W 0 m (capSt js σ) (upd H D (.lst [])))∧∀ i m σ' H',W i m σ' H'→
   (J.stop i H'∧Q (.ref D) H')∨(J.go i H'∧∀ x H2,J.yld i H' x H2→g x σ' H2 fun σ2 H3=>tt σ2 H3 fun ok H4=>
    if ok=true then te σ2 H4 fun y H5=> ∃ ys,H5 D=some (.lst ys)∧ys.length < sizeLine∧∃ m',m' < m∧W (i+1) m' σ2 (upd H5 D (.lst (ys++[y])))
    else ∃ m',m' < m∧W (i+1) m' σ2 H4))
  (hR: ∀ C s' H',Inv X pZ σ H' s'→FpOk X pZ H' C→(∃ m,s'.heap.Ns C m)→Q (.ref D) H'→R (.ref D) C (.ok .next) s'):
  codeAny (model X.prog X.w) X.A (.compStart (.ListComp elt [⟨target,iter,ifs,0⟩] scope pos) 0 (.ref it) (.ref D) {newEnv scope s3.heap.objs.size X.env.globals (clOf scope.names X.env.cells) X.env.qual none .none (some X.env) builtinsNs with scope:=relabel scope X.env}) (R (.ref D) s3.heap.objs.size) {s3 with heap:=h₁,toks:=tk}:=by
 have obj:=T.obj 0 s.heap st
 have ho3: ∀ b∈fp,∃ o,s3.heap.get? b=some o:=fun b hb=>by obtain⟨o,e,_⟩:=obj b hb;exact⟨o,k3 b o e⟩
 have hf3: ∀ b∈fp,FpOk X pZ (upd H D (.lst [])) b:=fun b hb=>by
  refine⟨?_,(hf b hb).2⟩
  obtain⟨o,e,_⟩:=obj b hb
  rw[upd_ne (hDl b o e)]
  exact(hf b hb).1
 have I4:Inv (cxC X scope N s3 (upd H D (.lst [])) fp (X.pn++pZ)) [] (capSt js σ) (upd H D (.lst [])) {s3 with heap:=h₁,toks:=tk}:=
  L.start I3 hc hf3 ho3 hns₁ kk
 obtain⟨W,⟨m0,w0⟩,turn⟩:=w
 have st4:tn 0 h₁:=T.keep 0 _ _ st fun b _ o e=>kk b o (k3 b o e)
 generalize hX:cxC X scope N s3 (upd H D (.lst [])) fp (X.pn++pZ)=Y at I4
 have fpY: ∀ b∈fp,b≠Y.env.locals∧b∉Y.fs∧(b∈Y.ex∨Y.s₀.heap.objs.size≤b)∧(∀ x c,Y.env.cells.lookup x=some c→c≠b)∧∀ p∈Y.pn++[],p.1≠b:=fun b hb=>by
  rw[←hX]
  obtain⟨o,e⟩:=ho3 b hb
  refine⟨Nat.ne_of_lt (Heap.lt_size e),fun z=>?_,.inl hb,fun x c h=>(hf b hb).2.2.2.2.1 x c (cl_sound _ _ _ (fun _ _ e=>by simp at e) x c h),fun p hp=>(hf b hb).2.2.2.2.2 p (by simpa[cxC] using hp)⟩
  rcases List.mem_cons.mp (I3.stkSub b z) with q|q
  ·exact(hf b hb).2.1 q
  ·exact(hf b hb).2.2.1 q
 have loop:codeAny (model X.prog X.w) X.A (.compLoop (.ListComp elt [⟨target,iter,ifs,0⟩] scope pos) 0 (.ref it) (.ref D) Y.env) (R (.ref D) s3.heap.objs.size) {s3 with heap:=h₁,toks:=tk}:=by
  have pr:Y.prog=X.prog:=by rw[←hX];rfl
  have pw:Y.w=X.w:=by rw[←hX];rfl
  have pK:Y.K=X.K:=by rw[←hX];rfl
  have pA:Y.A=X.A:=by rw[←hX];rfl
  have pc:Y.calm=true:=by rw[←hX];rfl
  have px:Y.xe=fun _ _=>False:=by rw[←hX];rfl
  have stat: ∀ {H':Hp},(∀ b∈fp,H' b=none)→∀ b∈fp,FpOk Y [] H' b:=fun hn b hb=>⟨hn b hb,fpY b hb⟩
  refine comp_loop (fun n s'=> ∃ i σ' H',Inv Y [] σ' H' s'∧tn i s'.heap∧(∀ b∈fp,H' b=none)∧W i n σ' H') ?_ m0 ⟨0,_,_,I4,st4,fun b hb=>(hf3 b hb).1,w0⟩
  rintro n s5 ⟨i,σ5,H5,I5,st5,fr5,w5⟩
  have gY:PG Y target g:=by rw[←hX];exact hg _ _ _ _
  have tY:PTs Y ifs tt:=by rw[←hX];exact ht _ _ _ _
  have eY:PE Y elt te:=by rw[←hX];exact he _ _ _ _
  unfold PG at gY;unfold PTs at tY;unfold PE at eY
  rw[pr,pw,pA,px] at gY tY eY
  have ap:=mt_append (X:=Y)
  unfold MtM at ap
  rw[pr,pw,pA,px] at ap
  rcases turn i n σ5 H5 w5 with⟨stop,q⟩|⟨go,step⟩
  ·have d:=T.done Y pr pw pK pc i [] s5 σ5 H5 (fun _ _=>False) I5 (stat fr5) st5 stop
   rw[pA] at d
   refine thn d fun r s6 ⟨hr,I6⟩=>?_
   subst hr
   have I6':Inv (cxC X scope N s3 (upd H D (.lst [])) fp (X.pn++pZ)) [] σ5 H5 s6:=by rw[hX];exact I6
   obtain⟨a1,a2,a3⟩:=lc_end I3 hf3 I6'
   exact hR _ s6 H5 a1 a2 a3 q
  ·have d:=T.item Y pr pw pK pc i [] s5 σ5 H5 (fun _ _=>False) I5 (stat fr5) st5 go
   rw[pA] at d
   refine thn d fun r s6 ⟨u,hr,h6⟩=>?_
   subst hr
   refine thn h6 fun _ s7 ⟨x,H7,I7,r7,y7,st7,fr7⟩=>?_
   have I7':=I7.pinned (stat fr7) (T.obj _ _ st7)
   refine thn (gY _ s7 σ5 H7 x u _ I7' r7 (step x H7 y7)) fun _ s8 ⟨σ8,H8,I8,q8⟩=>?_
   have again: ∀ {σ9:St} {H9:Hp} {s9:Shared},Inv Y ([]++pinsAt fp s7.heap) σ9 H9 s9→(∃ m',m' < n∧W (i+1) m' σ9 H9)→∃ m,m < n∧∃ i σ' H',Inv Y [] σ' H' s9∧tn i s9.heap∧(∀ b∈fp,H' b=none)∧W i m σ' H':=fun {σ9 H9 s9} I9 ⟨m',hm,w9⟩=>by
    refine⟨m',hm,i+1,σ9,H9,I9.unpinned,T.keep _ _ _ st7 fun b hb o e=>(I9.pin (b,o) (List.mem_append_right _ (List.mem_append_right _ (mem_pinsAt hb e)))).1,fun b hb=>?_,w9⟩
    obtain⟨o,e,d⟩:=T.obj _ _ st7 b hb
    exact(I9.pin (b,o) (List.mem_append_right _ (List.mem_append_right _ (mem_pinsAt hb e)))).2.1
   refine thn (tY _ s8 σ8 H8 _ I8 q8) fun ok s9 ⟨H9,I9,q9⟩=>?_
   cases ok with
   |false=>
    rw[if_neg (by decide)] at q9
    rw[if_neg (by decide)]
    exact again I9 q9
   |true=>
    rw[if_pos rfl] at q9
    rw[if_pos rfl]
    refine thn (eY _ s9 σ8 H9 _ I9 q9) fun v s10 ⟨y,H10,I10,r10,ys,eys,lys,q10⟩=>?_
    refine thn (ap _ s10 σ8 H10 (.ref D) [y] (.ref D) [v] (fun _ H'=> ∃ m',m' < n∧W (i+1) m' σ8 H') I10 rfl (.cons r10 .nil) ⟨D,ys,y,rfl,rfl,eys,lys,q10⟩) fun v2 s11 ⟨y2,H11,I11,_,q11⟩=>?_
    exact again I11 q11
 have ee:({newEnv scope s3.heap.objs.size X.env.globals (clOf scope.names X.env.cells) X.env.qual none .none (some X.env) builtinsNs with scope:=relabel scope X.env}:Env)=Y.env:=by rw[←hX];rfl
 rw[ee]
 exact codeAny_compStart_list loop (T.self _ 0 _ _ _ st4 loop)
theorem lc_block {elt target iter:Expr} {ifs:List Expr} {pos:Pos} {g:TG} {tt:TT} {te:TE} {it:Addr} {tn:Nat→Heap→Prop} {J:It} {Q:VK} {E:Value→Shared→Prop} {R:Value→Addr→Result→Shared→Prop}
  (L:LcScope X scope N js) (hc:X.calm=true)
  (hg: ∀ s₀ H₀ ex pn,PG (cxC X scope N s₀ H₀ ex pn) target g) (ht: ∀ s₀ H₀ ex pn,PTs (cxC X scope N s₀ H₀ ex pn) ifs tt) (he: ∀ s₀ H₀ ex pn,PE (cxC X scope N s₀ H₀ ex pn) elt te)
  (I:Inv X pZ σ H s) (T:Turn X.prog X.w X.K target J fp it tn) (st:tn 0 s.heap) (hf: ∀ b∈fp,FpOk X pZ H b)
  (w: ∀ D,H D=none→∃ W:Nat→Nat→St→Hp→Prop,(∃ m,W 0 m (capSt js σ) (upd H D (.lst [])))∧∀ i m σ' H',W i m σ' H'→
   (J.stop i H'∧Q (.ref D) H')∨(J.go i H'∧∀ x H2,J.yld i H' x H2→g x σ' H2 fun σ2 H3=>tt σ2 H3 fun ok H4=>
    if ok=true then te σ2 H4 fun y H5=> ∃ ys,H5 D=some (.lst ys)∧ys.length < sizeLine∧∃ m',m' < m∧W (i+1) m' σ2 (upd H5 D (.lst (ys++[y])))
    else ∃ m',m' < m∧W (i+1) m' σ2 H4))
  (hR: ∀ D C s' H',Inv X pZ σ H' s'→FpOk X pZ H' C→(∃ m,s'.heap.Ns C m)→Q (.ref D) H'→R (.ref D) C (.ok .next) s'):
  wpAny (model X.prog X.w) X.A (newList []) (fun acc s₃=>wpAny (model X.prog X.w) X.A (newFunctionEnv scope X.env.globals (clOf scope.names X.env.cells) [] X.env.qual none .none (some X.env)) (fun cenv s₄=>
   codeAny (model X.prog X.w) X.A (.compStart (.ListComp elt [⟨target,iter,ifs,0⟩] scope pos) 0 (.ref it) acc {cenv with scope:=relabel scope X.env}) (R acc cenv.locals) s₄) E s₃) E s:=by
 have I3:=I.lnew (t':=s.toks) (ys:=[]) (its:=[]) .nil (Nat.zero_le _)
 have hD:=I.fresh
 refine wpAny_newObj_type (wpAny_newFunctionEnv L.nocell (by intro y hy;simp at hy) (fun h₁ hns₁ hsb₁=>?_) L.kind)
 dsimp only at hns₁ hsb₁
 exact lc_loop (Q:=Q) (R:=R) (s3:={s with heap:=s.heap.push {cls:=.type "list",data:=.seq ([]:List Value).toArray},toks:=s.toks}) L hc hg ht he I T st hf I3 (fun b o e=>Nat.ne_of_lt (Heap.lt_size e)) (fun b o e=>Heap.get?_push_of_some _ e) hns₁
  (fun b o e=>hsb₁.extBut b o (Nat.ne_of_lt (Heap.lt_size e)) (Heap.get?_push_of_some _ e)) (w _ hD) (fun C=>hR _ C)
theorem pe_lc {elt target iter:Expr} {ifs:List Expr} {pos:Pos} {wi:TI} {g:TG} {tt:TT} {te:TE} (L:LcScope X scope N js) (hc:X.calm=true) (hi:PI X target iter wi)
  (hg: ∀ s₀ H₀ ex pn,PG (cxC X scope N s₀ H₀ ex pn) target g) (ht: ∀ s₀ H₀ ex pn,PTs (cxC X scope N s₀ H₀ ex pn) ifs tt) (he: ∀ s₀ H₀ ex pn,PE (cxC X scope N s₀ H₀ ex pn) elt te)
  (hs: ∀ x,foldedSetIterable iter X.env x=pure x:=by intro _;rfl):PE X (.ListComp elt [⟨target,iter,ifs,0⟩] scope pos) (tLC js wi g tt te):=by
 intro pZ s σ H Q I h
 rw[eval_ListComp]
 refine wpAny_comprehension_free (use:=none) rfl hs (closure_is (L.clos I.ok)) L.kind L.names (thn (hi pZ s σ H _ I h) fun v s1 h1=>thn h1 fun itv s2 h2=>?_)
 obtain⟨it,fp,tn,J,H2,e,I2,T,st2,f2,w⟩:=h2
 subst e
 refine lc_block (Q:=Q) (R:=fun acc C=>compPost (model X.prog X.w) X.A X.xe none (EP X pZ σ Q) acc C) L hc hg ht he I2 T st2 f2 w ?_
 intro D C s' H' I' f' ⟨m,hn⟩ q
 exact⟨m,hn,fun h' hs'=>⟨.ref D,H',I'.gone (m:=m) f' hs',rfl,q⟩⟩
end
def Itx (x:Str):It:=⟨fun i _=>i < x.cps.size,fun i H v H'=>H'=H∧∃ c,x.cps[i]?=some c∧v= .str ⟨#[c]⟩,fun i _=>i=x.cps.size⟩
theorem turn_text {P:Program} {w:World} {K:PySem.W.Frag} {tg:Expr} (it:Addr) (x:Str) (t:Tok) {ty:String}
  (hn:["enumerate","zip","dict_itemiterator","dict_reverseitemiterator","odict_iterator","itertools.zip_longest","itertools.pairwise"].contains ty=false)
  (Wk: ∀ A:Around,A.handled=none→Walks P w A it [it] [it] x.cps.size (SignAt x) (fun i h=>h.IsStrIter it ty x t i))
  (Sf: ∀ (A:Around) i (s:Shared) (Q:Value→Shared→Prop) (E:Value→Shared→Prop),s.heap.IsStrIter it ty x t i→Q (.ref it) s→wpAny (model P w) A (pyIter (.ref it)) Q E s):Turn P w K tg (Itx x) [it] it (fun i h=>h.IsStrIter it ty x t i) where
 mem:=by simp
 obj:=fun i h st b hb=>by
  have e:b=it:=by simpa using hb
  subst e
  obtain⟨o,e,c,d⟩:=st
  exact⟨o,e,fun v z=>by rw[d] at z;cases z⟩
 keep:=fun i h h' st k=>by
  obtain⟨o,e,c,d⟩:=st
  exact⟨o,k it (by simp) o e,c,d⟩
 item:=by
  intro X hP hw hK hc i pZ s σ H E I hf st hg
  subst hP hw hK
  obtain⟨f0,f1,f2,f3,f4,f5⟩:=hf it (by simp)
  refine(Wk X.A (I.ok.hd hc)).item i s _ _ hg st fun v h' tk hv st' kk=>?_
  obtain⟨c,u,hcx,rfl⟩:=hv
  have I1:Inv X pZ σ H {s with heap:=h',toks:=tk}:=I.turned (fun b o hb e=>kk b o (by simpa using hb) e) f0 f1 f3 f4 f5
  obtain⟨o,e,oc,d⟩:=id st'
  exact⟨_,rfl,go_of (s:={s with heap:=h',toks:=tk}) e oc d hn ⟨.str ⟨#[c]⟩,H,I1,⟨u,rfl⟩,⟨rfl,c,hcx,rfl⟩,st',fun b hb=>(hf b hb).1⟩⟩
 done:=by
  intro X hP hw hK hc i pZ s σ H E I hf st hg
  subst hP hw hK
  have hg':i=x.cps.size:=hg
  subst hg'
  obtain⟨f0,f1,f2,f3,f4,f5⟩:=hf it (by simp)
  exact(Wk X.A (I.ok.hd hc)).done s _ _ st fun h' tk kk=>⟨rfl,I.turned (fun b o hb e=>kk b o (by simpa using hb) e) f0 f1 f3 f4 f5⟩
 self:=fun A i s Q E st h=>Sf A i s Q E st h
section
variable {X:Cx} {tg:Expr}
theorem op_le_str:OpR X (compareOp .LtE) (fun x y H Q=> ∃ i j,x= .str i∧y= .str j∧Q (.bl (!decide (j.cps.toList < i.cps.toList))) H):=by
 intro pZ s σ H x y v u Q I rx ry h
 obtain⟨i,j,rfl,rfl,q⟩:=h
 obtain⟨t,rfl⟩:=rx
 obtain⟨t',rfl⟩:=ry
 exact PySem.P.le_str (fin_bl I q rfl)
theorem op_mulB:OpR X (binaryOp .Mult) (rI IntMulOk fun i j=>.int (i * j)):=opI fun _ _ _ _ _ _ _ hc q=>mul_int q hc
theorem op_powB:OpR X (binaryOp .Pow) (rI (fun i j=>0≤j∧(Builtin.Int.intBits i:Int) * j≤2 ^ 27) fun i j=>.int (i ^ j.toNat)):=opI fun _ _ _ _ _ _ _ hc q=>pow_int hc.1 hc.2 q
theorem bl_at {bs:List Bool} (r:Vals (bs.map V.bl) its) (i:Nat) (v:Value) (e:its[i]?=some v): ∃ b,bs[i]?=some b∧v= .bool b:=by
 have hl:=r.length
 rw[List.length_map] at hl
 have hi:i < bs.length:=by rw[hl];exact(List.getElem?_eq_some_iff.mp e).1
 obtain⟨u,h1,h2⟩:=r.get (x:=V.bl bs[i]) (by rw[List.getElem?_map,List.getElem?_eq_getElem hi];rfl)
 rw[e] at h1;cases h1
 exact⟨bs[i],List.getElem?_eq_getElem hi,h2⟩
theorem range_all' (bs:List Bool):((List.range bs.length).all fun i=>(bs[i]?).getD true)=bs.all id:=by
 rw[Bool.eq_iff_iff,List.all_eq_true,List.all_eq_true]
 constructor
 ·intro h b hb
  obtain⟨i,hi,e⟩:=List.getElem_of_mem hb
  have:=h i (List.mem_range.mpr hi)
  rw[List.getElem?_eq_getElem hi,e] at this
  exact this
 ·intro h i hi
  have hi':=List.mem_range.mp hi
  rw[List.getElem?_eq_getElem hi']
  exact h _ (List.getElem_mem hi')
theorem call_all (hc:X.calm=true):CallR X (.builtin "all") (fun xs H Q=> ∃ (p:Addr) (bs:List Bool),xs=[.ref p]∧SqL X.K H p (bs.map V.bl)∧Q (.bl (bs.all id)) H):=by
 intro pZ s σ H xs us Q I r h
 obtain⟨p,bs,rfl,hq,q⟩:=h
 obtain⟨u,rfl,rx⟩:=vals1 r
 cases rx
 obtain⟨its,r',pl,hz⟩:=I.list hq
 have hl:=pl.isList
 have hlt:p < s.heap.objs.size:=by obtain⟨_,e,_⟩:=hl;exact Heap.lt_size e
 have hlen:=r'.length
 rw[List.length_map] at hlen
 refine call_all_walk (wpAny_pyIter_list hl ?_)
 refine⟨s.heap.objs.size,[s.heap.objs.size,p],[s.heap.objs.size],its.toArray.size,_,_,fun i=>(bs[i]?).getD true,rfl,Walks.list (A:=X.A.in1) (I.ok.hd hc) _ p (Nat.ne_of_lt hlt) its.toArray,
  ⟨⟨_,Heap.get?_push_size _ rfl,rfl,rfl⟩,hl.push _⟩,fun i v s' Q' E' hP hQ=>?_,fun h' tk hk=>?_⟩
 ·obtain⟨b,e,rfl⟩:=bl_at r' i v (by simpa using hP)
  simp only[e,Option.getD_some] at hQ
  exact wpAny_truthy_bool hQ
 ·refine⟨.bl (bs.all id),H,I.kept (fun b o e=>hk b o (fun hm=>?_) (Heap.get?_push_of_some _ e)),?_,q⟩
  ·rw[List.mem_singleton.mp hm] at e;exact Nat.lt_irrefl _ (Heap.lt_size e)
  ·show Value.bool _=Value.bool _
   rw[List.size_toArray,←hlen,range_all']
theorem strs_of: ∀ {ys:List Str} {us:List Value},Vals (ys.map V.str) us→StrsAre us ys
 |[],us,r=>by rw[List.map_nil] at r;cases r;exact .nil
 |y::ys,us,r=>by
  rw[List.map_cons] at r
  cases r with
  |cons h t=>obtain⟨t',rfl⟩:=h;exact .cons y t' (strs_of t)
theorem mt_join:MtR X "str.join" (fun x xs H Q=> ∃ (sep:Str) (p:Addr) (ys:List Str),x= .str sep∧xs=[.ref p]∧SqL X.K H p (ys.map V.str)∧(ys.map (·.length)).sum+ys.length * sep.length≤16777216∧Q (.str (Txt.join sep ys)) H):=by
 intro pZ s σ H x xs v us Q I rx rv h
 obtain⟨sep,p,ys,rfl,rfl,hq,hz,q⟩:=h
 obtain⟨t,rfl⟩:=rx
 obtain⟨u,rfl,ru⟩:=vals1 rv
 cases ru
 obtain⟨its,r',pl,_⟩:=I.list hq
 exact join_list pl.isList (by simpa using strs_of r') hz fun t' k=>⟨.str (Txt.join sep ys),H,I.tok _,⟨_,rfl⟩,q⟩
theorem call_isi:CallR X (.builtin "isinstance") (fun xs H Q=> ∃ x T t b,xs=[x,.ty T]∧TyOf X.K H x t∧PySem.W.kitOne X.K t (.type T)=some b∧Q (.bl b) H):=by
 intro pZ s σ H xs us Q I r h
 obtain⟨x,T,t,b,rfl,ty,e,q⟩:=h
 obtain⟨u,w',rfl,rx,ry⟩:=vals2 r
 cases ry
 exact isinst_ok I rx ty e fun tk=>⟨.bl b,H,I.tok _,rfl,q⟩
end
noncomputable def lcOk (scope es:Scope) (XN N:List Str) (js:List (Option Nat)):Bool:=
 (scope.kind== .function)&&scope.names.all (fun y=>y.2 != .cell&&(y.2 != .local||scope.names.lookup y.1==some .local)&&(y.2 != .free||es.names.lookup y.1==some .cell||es.names.lookup y.1==some .free))&&
 (js.length==N.length)&&(List.range N.length).all (fun i=>match N[i]?,js[i]? with|some y,some (some j)=>XN[j]?==some y&&scope.names.lookup y==some .free|_,_=>true)
theorem LcScope.mk2 (es:Scope) (XN:List Str) (h1:X.env.scope=es) (h2:X.N=XN) (h:lcOk scope es XN N js=true):LcScope X scope N js:=by
 unfold lcOk at h
 simp only[Bool.and_eq_true,List.all_eq_true] at h
 obtain⟨⟨⟨ha,hb⟩,hc⟩,hd⟩:=h
 refine⟨by simpa using ha,fun y hy=>?_,fun y hy hl=>?_,fun y hy hl=>?_,by simpa using hc,fun i y j e1 e2=>?_⟩
 ·have:=(hb y hy).1.1
  simpa using this
 ·have:=(hb y hy).1.2
  rw[hl] at this
  simpa using this
 ·have:=(hb y hy).2
  rw[hl] at this
  rw[h1]
  simpa using this
 ·have hi:i < N.length:=(List.getElem?_eq_some_iff.mp e1).1
  have:=hd i (List.mem_range.mpr hi)
  rw[e1,e2] at this
  simp only[Bool.and_eq_true] at this
  rw[h2]
  exact⟨by simpa using this.1,by simpa using this.2⟩
theorem lc_list {K:PySem.W.Frag} {a:Addr} {xs:List V} {g:TG} {tt:TT} {te:TE} {Q:VK} {σ0:St} {H1:Hp} {D:Addr} (Pv:Nat→List V→St→Hp→Prop) (h0:Pv 0 [] σ0 (upd H1 D (.lst [])))
  (hq: ∀ i ys σ H,Pv i ys σ H→SqL K H a xs)
  (hs: ∀ i x ys σ H,xs[i]?=some x→ys.length≤i→H D=some (.lst ys)→Pv i ys σ H→∀ (kt:St→V→Hp→Prop) (kf:St→Hp→Prop),(∀ σ2 y H5,H5 D=some (.lst ys)→Pv (i+1) (ys++[y]) σ2 (upd H5 D (.lst (ys++[y])))→kt σ2 y H5)→(∀ σ2 H4,H4 D=some (.lst ys)→Pv (i+1) ys σ2 H4→kf σ2 H4)→
   g x σ H fun σ2 H3=>tt σ2 H3 fun ok H4=>if ok=true then te σ2 H4 (kt σ2) else kf σ2 H4)
  (hz:xs.length≤100000) (hd: ∀ ys σ H,H D=some (.lst ys)→ys.length≤xs.length→Pv xs.length ys σ H→Q (.ref D) H):
  LcW (Itl K a) D g tt te Q σ0 H1:=by
 refine⟨fun i m σ H=>m=xs.length - i∧i≤xs.length∧∃ ys,ys.length≤i∧H D=some (.lst ys)∧Pv i ys σ H,⟨xs.length,by simp,Nat.zero_le _,[],Nat.le_refl _,upd_same,h0⟩,?_⟩
 rintro i m σ H ⟨rfl,hi,ys,hl,hD,p⟩
 have q:=hq i ys σ H p
 by_cases hlt:i < xs.length
 ·refine .inr ⟨⟨xs,xs[i],q,by simp[hlt]⟩,fun v H2 y=>?_⟩
  obtain⟨e,y⟩:=y
  subst e
  exact hs i v ys σ _ (y xs q) hl hD p _ _ (fun σ2 z H5 a1 a2=>⟨ys,a1,by rw[sizeLine_eq];lia,xs.length - (i+1),by lia,rfl,hlt,ys++[z],by simp;lia,upd_same,a2⟩)
   (fun σ2 H4 a1 a2=>⟨xs.length - (i+1),by lia,rfl,hlt,ys,by lia,a1,a2⟩)
 ·have e:i=xs.length:=by lia
  subst e
  exact .inl ⟨⟨xs,q,Nat.le_refl _⟩,hd ys σ H hD hl p⟩
def isStar:Expr→Bool
 | .Starred .. =>true
 |_=>false
theorem star1 (h:isStar e=false):starEach (e::es) env=(false,eval e env)::starEach es env:=by
 cases e<;>first
  |rfl
  |(exfalso;exact Bool.noConfusion h)
theorem pa_c (ha:PE X e te) (hr:PA X es t) (h:isStar e=false:=by rfl):PA X (e::es) (tCons te t):=pa_cons ha hr (star1 h)
structure Bag (H:Hp) (a c:Addr) (n:Nat):Prop where
 ex: ∃ (p q sd:Int) (cells:List Int),H a=some (.lst [.int p,.int q,.int n,.int sd,.ref c])∧H c=some (.lst (cells.map V.int))∧0≤p∧0≤q∧0≤sd∧sd < 2305843009213693951∧(∀ x∈cells,0≤x)∧cells.length≤60
theorem same_new (h:H p=none) (o:HO):Same H (upd H p o):=fun b u q=>by rw[upd_ne (ne_of_none q h)];exact q
theorem Bag.there (b:Bag H a c n):(∃ xs,H a=some (.lst xs))∧∃ xs,H c=some (.lst xs):=by
 obtain⟨p,q,sd,cells,h1,h2,_⟩:=b.ex
 exact⟨⟨_,h1⟩,⟨_,h2⟩⟩
theorem Bag.ne (b:Bag H a c n):c≠a:=by
 obtain⟨p,q,sd,cells,h1,h2,_⟩:=b.ex
 rintro rfl
 rw[h1] at h2
 have e:[V.int p,V.int q,V.int n,V.int sd,V.ref c]=cells.map V.int:=by injection h2 with z;injection z
 have:V.ref c∈cells.map V.int:=by rw[←e];simp
 obtain⟨i,_,z⟩:=List.mem_map.mp this
 cases z
section
structure Bx (p:Prop):Prop where
 out:p
abbrev BE (X:Cx) (e:Expr) (t:TE):Prop:=Bx (PE X e t)
abbrev BT (X:Cx) (e:Expr) (t:TT):Prop:=Bx (PT X e t)
abbrev BW (X:Cx) (e:Expr) (t:TT):Prop:=Bx (PW X e t)
abbrev BA (X:Cx) (es:List Expr) (t:TA):Prop:=Bx (PA X es t)
abbrev BS (X:Cx) (st:Stmt) (t:TS):Prop:=Bx (PS X st t)
abbrev BSs (X:Cx) (st:List Stmt) (t:TS):Prop:=Bx (PSs X st t)
abbrev BI (X:Cx) (tg iter:Expr) (t:TI):Prop:=Bx (PI X tg iter t)
abbrev BG (X:Cx) (tg:Expr) (t:TG):Prop:=Bx (PG X tg t)
abbrev BGs (X:Cx) (ts:List Expr) (t:TGs):Prop:=Bx (PGs X ts t)
abbrev BO (X:Cx) (e:Option Expr) (t:TO):Prop:=Bx (PO X e t)
abbrev BTs (X:Cx) (ifs:List Expr) (t:TT):Prop:=Bx (PTs X ifs t)
set_option genInjectivity true in
inductive PV where
 |non|bl (b:Bool)|int (i:Int)|str (x:Str)|tup (l:List PV)|lst (l:List PV)|dct (kvs:List (Key×PV))|scr (ns:List Int)|bag
set_option genInjectivity true in
inductive M (α:Type) where
 |fail|ret (a:α)|draw (m:Int) (k:Int→M α)
namespace M
variable {α β γ:Type}
def bind:M α→(α→M β)→M β
 |fail,_=>fail
 |ret a,f=>f a
 |draw m k,f=>draw m fun d=>(k d).bind f
def wp:M α→Nat→(α→Nat→Prop)→Prop
 |fail,_,_=>False
 |ret a,n,Q=>Q a n
 |draw m k,n,Q=>0 < m∧m < 1073741824∧∃ n',n=n'+1∧∀ d,0≤d→d < m→(k d).wp n' Q
theorem wZ (m:M α) (f:α→M β): ∀ (n:Nat) (Q:β→Nat→Prop),(m.bind f).wp n Q=m.wp n fun a n'=>(f a).wp n' Q:=by
 induction m with
 |fail=>intro n Q;rfl
 |ret a=>intro n Q;rfl
 |draw m k ih=>intro n Q;simp only[bind,wp,ih]
theorem wp_mono {m:M α}: ∀ {n:Nat} {Q Q':α→Nat→Prop},m.wp n Q→(∀ a n',Q a n'→Q' a n')→m.wp n Q':=by
 induction m with
 |fail=>intro n Q Q' h _;exact h
 |ret a=>intro n Q Q' h f;exact f _ _ h
 |draw m k ih=>
  intro n Q Q' h f
  obtain⟨h1,h2,n',e,h3⟩:=h
  exact⟨h1,h2,n',e,fun d a b=>ih d (h3 d a b) f⟩
theorem bZ (m:M α) (f:α→M β) (g:β→M γ):(m.bind f).bind g=m.bind fun a=>(f a).bind g:=by
 induction m with
 |fail=>rfl
 |ret a=>rfl
 |draw m k ih=>simp only[bind,ih]
@[simp] theorem rY (a:α) (f:α→M β):(ret a).bind f=f a:=rfl
def ofO:Option α→M α
 |some a=>ret a
 |none=>fail
end M
theorem rZ (a:α) (f:α→M β):(M.ret a).bind f=f a:=rfl
inductive Rep (B:Addr) (O:Addr→Prop) (H:Hp):PV→V→Prop where
 |non:Rep B O H .non .non
 |bl (b:Bool):Rep B O H (.bl b) (.bl b)
 |int (i:Int):Rep B O H (.int i) (.int i)
 |str (x:Str):Rep B O H (.str x) (.str x)
 |tup {p:Addr} {xs:List V} {l:List PV} (hO: ¬ O p) (h:H p=some (.tup xs)) (hl:l.length=xs.length) (hr: ∀ (i:Nat) (y:PV) (x:V),l[i]?=some y→xs[i]?=some x→Rep B O H y x):Rep B O H (.tup l) (.ref p)
 |lst {p:Addr} {xs:List V} {l:List PV} (hO: ¬ O p) (h:H p=some (.lst xs)) (hl:l.length=xs.length) (hr: ∀ (i:Nat) (y:PV) (x:V),l[i]?=some y→xs[i]?=some x→Rep B O H y x):Rep B O H (.lst l) (.ref p)
 |dct {p:Addr} {ks:List (Key×V)} {l:List (Key×PV)} (hO: ¬ O p) (h:Rd H p (.dK ks)) (hk:l.map (·.1)=ks.map (·.1)) (hr: ∀ (i:Nat) (y:Key×PV) (x:Key×V),l[i]?=some y→ks[i]?=some x→Rep B O H y.2 x.2):Rep B O H (.dct l) (.ref p)
 |scr {p:Addr} {ns:List Int} (hO: ¬ O p) (h: ∃ o,H p=some (.frz o (.lst (ns.map V.int)))):Rep B O H (.scr ns) (.ref p)
 |bag:Rep B O H .bag (.ref B)
def Reps (B:Addr) (O:Addr→Prop) (H:Hp) (l:List PV) (xs:List V):Prop:=l.length=xs.length∧∀ (i:Nat) (y:PV) (x:V),l[i]?=some y→xs[i]?=some x→Rep B O H y x
def RepsK (B:Addr) (O:Addr→Prop) (H:Hp) (l:List (Key×PV)) (ks:List (Key×V)):Prop:=l.map (·.1)=ks.map (·.1)∧∀ (i:Nat) (y:Key×PV) (x:Key×V),l[i]?=some y→ks[i]?=some x→Rep B O H y.2 x.2
def Stand (H':Hp) (p:Addr):HO→Prop
 | .tbl _=> ∃ qs,H' p=some (.tbl qs)
 |o=>H' p=some o
theorem Stand.of (h:H' p=some o):Stand H' p o:=by
 cases o<;>first|exact h|exact⟨_,h⟩
theorem Stand.there (h:Stand H' p o): ∃ u,H' p=some u:=by
 cases o<;>first|exact⟨_,h⟩|(obtain⟨qs,e⟩:=h;exact⟨_,e⟩)
theorem Stand.to (h:Stand H' p o) (k: ∀ u,H' p=some u→Stand H2 p u):Stand H2 p o:=by
 cases o<;>first|exact k _ h|(obtain⟨qs,e⟩:=h;have q:=k (.tbl qs) e;exact q)
def Ext (B:Addr) (H H':Hp):Prop:= ∀ p o,p≠B→H p=some o→Stand H' p o
theorem Ext.refl (B:Addr) (H:Hp):Ext B H H:=fun _ _ _ h=>.of h
theorem Ext.trans (a:Ext B H H1) (b:Ext B H1 H2):Ext B H H2:=fun p o n h=>(a p o n h).to fun u e=>b p u n e
theorem Ext.new (h:H p=none) (o:HO):Ext B H (upd H p o):=fun q u _ e=>.of (by rw[upd_ne (ne_of_none e h)];exact e)
section
variable {B:Addr} {O O':Addr→Prop} {H H':Hp} {y:PV} {x:V} {l l':List PV} {xs xs':List V}
theorem Rep.keepS (h:Rep B O H y x) (hH: ∀ p o,¬ O p→H p=some o→Stand H' p o∧¬ O' p):Rep B O' H' y x:=by
 induction h with
 |non=>exact .non
 |bl b=>exact .bl b
 |int i=>exact .int i
 |str x=>exact .str x
 |tup hO h hl hr ih=>exact .tup (hH _ _ hO h).2 (hH _ _ hO h).1 hl ih
 |lst hO h hl hr ih=>exact .lst (hH _ _ hO h).2 (hH _ _ hO h).1 hl ih
 |scr hO h=>
  obtain⟨o,e⟩:=h
  exact .scr (hH _ _ hO e).2 ⟨o,(hH _ _ hO e).1⟩
 |dct hO h hl hr ih=>
  rcases h with h|⟨o,h⟩
  ·exact .dct (hH _ _ hO h).2 (.inl (hH _ _ hO h).1) hl ih
  ·exact .dct (hH _ _ hO h).2 (.inr ⟨o,(hH _ _ hO h).1⟩) hl ih
 |bag=>exact .bag
theorem Rep.keep (h:Rep B O H y x) (hH: ∀ p o,¬ O p→H p=some o→H' p=some o∧¬ O' p):Rep B O' H' y x:=h.keepS fun p o n q=>⟨.of (hH p o n q).1,(hH p o n q).2⟩
theorem Rep.ext (h:Rep B O H y x) (hB:O B) (e:Ext B H H'):Rep B O H' y x:=h.keepS fun p o n q=>⟨e p o (fun z=>n (z▸hB)) q,n⟩
theorem Rep.less (h:Rep B O H y x) (hO: ∀ p,O' p→O p):Rep B O' H y x:=h.keep fun p o n q=>⟨q,fun z=>n (hO p z)⟩
theorem Rep.grow (h:Rep B O H y x) (hO: ∀ p,O' p→O p∨H p=none):Rep B O' H y x:=h.keep fun p o n q=>⟨q,fun z=>by
 rcases hO p z with w|w
 ·exact n w
 ·rw[w] at q;cases q⟩
theorem Reps.keepS (h:Reps B O H l xs) (hH: ∀ p o,¬ O p→H p=some o→Stand H' p o∧¬ O' p):Reps B O' H' l xs:=⟨h.1,fun i y x a b=>(h.2 i y x a b).keepS hH⟩
theorem Reps.keep (h:Reps B O H l xs) (hH: ∀ p o,¬ O p→H p=some o→H' p=some o∧¬ O' p):Reps B O' H' l xs:=⟨h.1,fun i y x a b=>(h.2 i y x a b).keep hH⟩
theorem Reps.ext (h:Reps B O H l xs) (hB:O B) (e:Ext B H H'):Reps B O H' l xs:=⟨h.1,fun i y x a b=>(h.2 i y x a b).ext hB e⟩
theorem Reps.less (h:Reps B O H l xs) (hO: ∀ p,O' p→O p):Reps B O' H l xs:=⟨h.1,fun i y x a b=>(h.2 i y x a b).less hO⟩
theorem Reps.grow (h:Reps B O H l xs) (hO: ∀ p,O' p→O p∨H p=none):Reps B O' H l xs:=⟨h.1,fun i y x a b=>(h.2 i y x a b).grow hO⟩
theorem Reps.nil:Reps B O H [] []:=⟨rfl,fun i y x a=>by simp at a⟩
theorem Reps.cons (h:Rep B O H y x) (t:Reps B O H l xs):Reps B O H (y::l) (x::xs):=⟨by simp[t.1],fun i y' x' a b=>by
 cases i with
 |zero=>simp at a b;subst a b;exact h
 |succ i=>simp at a b;exact t.2 i y' x' a b⟩
theorem Reps.head (h:Reps B O H (y::l) (x::xs)):Rep B O H y x:=h.2 0 y x rfl rfl
theorem Reps.tail (h:Reps B O H (y::l) (x::xs)):Reps B O H l xs:=⟨by simpa using h.1,fun i y' x' a b=>h.2 (i+1) y' x' (by simpa using a) (by simpa using b)⟩
theorem Reps.nil_inv (h:Reps B O H [] xs):xs=[]:=List.eq_nil_of_length_eq_zero h.1.symm
theorem Reps.cons_inv (h:Reps B O H (y::l) xs): ∃ x r,xs=x::r∧Rep B O H y x∧Reps B O H l r:=by
 cases xs with
 |nil=>have:=h.1;simp at this
 |cons x r=>exact⟨x,r,rfl,h.head,h.tail⟩
theorem Reps.at (h:Reps B O H l xs) {i:Nat} (e:l[i]?=some y): ∃ x,xs[i]?=some x∧Rep B O H y x:=by
 have hi:i < l.length:=(List.getElem?_eq_some_iff.mp e).1
 have hx:i < xs.length:=h.1▸hi
 exact⟨xs[i],List.getElem?_eq_getElem hx,h.2 i y _ e (List.getElem?_eq_getElem hx)⟩
theorem Reps.at' (h:Reps B O H l xs) {i:Nat} (e:xs[i]?=some x): ∃ y,l[i]?=some y∧Rep B O H y x:=by
 have hi:i < xs.length:=(List.getElem?_eq_some_iff.mp e).1
 have hx:i < l.length:=h.1▸hi
 exact⟨l[i],List.getElem?_eq_getElem hx,h.2 i _ x (List.getElem?_eq_getElem hx) e⟩
theorem Reps.append: ∀ {l:List PV} {xs:List V},Reps B O H l xs→Reps B O H l' xs'→Reps B O H (l++l') (xs++xs')
 |[],xs,h,t=>by rw[h.nil_inv];exact t
 |y::l,xs,h,t=>by
  obtain⟨x,r,rfl,h1,h2⟩:=h.cons_inv
  exact .cons h1 (Reps.append h2 t)
theorem Reps.drop: ∀ (k:Nat) {l:List PV} {xs:List V},Reps B O H l xs→Reps B O H (l.drop k) (xs.drop k)
 |0,_,_,h=>h
 |_+1,[],_,h=>by have e:=h.nil_inv;subst e;simpa using Reps.nil
 |k+1,y::l,xs,h=>by
  obtain⟨x,r,rfl,h1,h2⟩:=h.cons_inv
  exact Reps.drop k h2
theorem Reps.take: ∀ (k:Nat) {l:List PV} {xs:List V},Reps B O H l xs→Reps B O H (l.take k) (xs.take k)
 |0,_,_,h=>.nil
 |_+1,[],_,h=>by have e:=h.nil_inv;subst e;simpa using Reps.nil
 |k+1,y::l,xs,h=>by
  obtain⟨x,r,rfl,h1,h2⟩:=h.cons_inv
  exact .cons h1 (Reps.take k h2)
theorem Reps.set (h:Reps B O H l xs) (i:Nat) (hr:Rep B O H y x):Reps B O H (l.set i y) (xs.set i x):=by
 refine⟨by simp[h.1],fun j y' x' a b=>?_⟩
 by_cases e:i=j
 ·subst e
  rw[List.getElem?_set] at a b
  simp at a b
  obtain⟨_,rfl⟩:=a
  obtain⟨_,rfl⟩:=b
  exact hr
 ·rw[List.getElem?_set_ne e] at a b
  exact h.2 j y' x' a b
theorem Reps.reverse (h:Reps B O H l xs):Reps B O H l.reverse xs.reverse:=by
 refine⟨by simp[h.1],fun i y' x' a b=>?_⟩
 have hi:i < l.length:=by have:=(List.getElem?_eq_some_iff.mp a).1;simpa using this
 rw[List.getElem?_reverse hi] at a
 rw[List.getElem?_reverse (h.1▸hi),←h.1] at b
 exact h.2 _ _ _ a b
theorem RepsK.keep {l:List (Key×PV)} {ks:List (Key×V)} (h:RepsK B O H l ks) (hH: ∀ p o,¬ O p→H p=some o→H' p=some o∧¬ O' p):RepsK B O' H' l ks:=⟨h.1,fun i y x a b=>(h.2 i y x a b).keep hH⟩
theorem RepsK.ext {l:List (Key×PV)} {ks:List (Key×V)} (h:RepsK B O H l ks) (hB:O B) (e:Ext B H H'):RepsK B O H' l ks:=⟨h.1,fun i y x a b=>(h.2 i y x a b).ext hB e⟩
end
structure Fam where
 K:PySem.W.Frag
 sp:Sp
 tabs:List (Addr×Str)
def IsFz:HO→Prop
 | .frz _ (.dK _)=>False
 | .frz _ _=>True
 |_=>False
def TabAt (H:Hp) (e:Addr×Str):Prop:= ∃ ps,H e.1=some (.tbl ps)∧TriplesOk ps.toList∧∀ pos cv,codeAmong pos ps.toList=some cv→∃ c oc vs t,cv= .ref c∧H c=some (.frz oc (.own c))∧oc.data= .fields vs∧vs[1]?=some (.str e.2 t)
theorem TabAt.keep (h:TabAt H e) (k1: ∀ ps,H e.1=some (.tbl ps)→H' e.1=some (.tbl ps)) (k2: ∀ p ob u,H p=some (.frz ob (.own u))→H' p=some (.frz ob (.own u))):TabAt H' e:=by
 obtain⟨ps,h1,h2,h3⟩:=h
 refine⟨ps,k1 _ h1,h2,fun pos cv e1=>?_⟩
 obtain⟨c,oc,vs,t,rfl,g1,g2⟩:=h3 pos cv e1
 exact⟨c,oc,vs,t,rfl,k2 _ _ _ g1,g2⟩
structure Bg (φ:Fam) where
 B:Addr
 priv:Addr→Prop
 ok:Hp→Nat→Prop
 pB:priv B
 keep: ∀ H H' n,(∀ p o,(priv p∨IsFz o)→H p=some o→H' p=some o)→ok H n→ok H' n
 tp: ∀ e∈φ.tabs,priv e.1
 tab: ∀ H n,ok H n→∀ e∈φ.tabs,TabAt H e
 tset: ∀ H H' n,ok H n→(∀ e∈φ.tabs,TabAt H' e)→(∀ p o,p∉φ.tabs.map (·.1)→H p=some o→H' p=some o)→ok H' n
 dom: ∀ H n p,ok H n→priv p→∃ o,H p=some o
 dr: ∀ (H:Hp) (n:Nat) (m:Int) (Q:VK) (E:XK),ok H (n+1)→0 < m→m < 1073741824→(∀ (d:Int) (H':Hp),0≤d→d < m→Ext B H H'→ok H' n→Q (.int d) H')→φ.sp [.ref B,.int m] H Q E
variable {φ:Fam}
set_option genInjectivity true in
inductive Ent where
 |un|val (y:PV)|own (l:List PV)|ownD (kvs:List (Key×PV))
abbrev PEnv:=List Ent
noncomputable def EntRep (G:Bg φ) (O:Addr→Prop) (H:Hp):Ent→Option V→Prop
 | .un,_=>True
 | .val y,o=> ∃ x,o=some x∧Rep G.B O H y x
 | .own l,o=> ∃ p xs,o=some (.ref p)∧O p∧¬ G.priv p∧H p=some (.lst xs)∧Reps G.B O H l xs
 | .ownD l,o=> ∃ p ks,o=some (.ref p)∧O p∧¬ G.priv p∧H p=some (.dK ks)∧RepsK G.B O H l ks
def EnvRep (G:Bg φ) (O:Addr→Prop) (H:Hp) (σ:St) (ρ:PEnv):Prop:=σ.length=ρ.length∧∀ (i:Nat) (e:Ent),ρ[i]?=some e→EntRep G O H e ((σ[i]?).getD none)
structure ES (G:Bg φ) (O:Addr→Prop) (H:Hp) (σ:St) (ρ:PEnv) (n:Nat):Prop where
 er:EnvRep G O H σ ρ
 ok:G.ok H n
 pr: ∀ p,G.priv p→O p
 dm: ∀ p,O p→∃ o,H p=some o
theorem ES.B (s:ES G O H σ ρ n):O G.B:=s.pr _ G.pB
theorem EntRep.ext (h:EntRep G O H e o) (hB:O G.B) (x:Ext G.B H H'):EntRep G O H' e o:=by
 cases e with
 |un=>trivial
 |val y=>obtain⟨v,e,r⟩:=h;exact⟨v,e,r.ext hB x⟩
 |own l=>obtain⟨p,xs,e,hp,np,hl,r⟩:=h;exact⟨p,xs,e,hp,np,x p _ (fun z=>np (z▸G.pB)) hl,r.ext hB x⟩
 |ownD l=>obtain⟨p,xs,e,hp,np,hl,r⟩:=h;exact⟨p,xs,e,hp,np,x p _ (fun z=>np (z▸G.pB)) hl,r.ext hB x⟩
theorem ES.ext (s:ES G O H σ ρ n) (x:Ext G.B H H') (ok:G.ok H' n'):ES G O H' σ ρ n' where
 er:=⟨s.er.1,fun i e h=>(s.er.2 i e h).ext s.B x⟩
 ok:=ok
 pr:=s.pr
 dm:=fun p h=>by
  by_cases e:p=G.B
  ·subst e;exact G.dom _ _ _ ok G.pB
  ·obtain⟨o,q⟩:=s.dm p h;exact(x p o e q).there
theorem Bg.new {G:Bg φ} (ok:G.ok H n) (h:H p=none) (o:HO):G.ok (upd H p o) n:=G.keep _ _ _ (fun q u _ e=>by rw[upd_ne (ne_of_none e h)];exact e) ok
def Wish (G:Bg φ) (O:Addr→Prop) (H:Hp) (R:PV→Nat→Prop) (Q:VK):Prop:= ∀ (y:PV) (x:V) (H':Hp) (n':Nat),Ext G.B H H'→G.ok H' n'→Rep G.B O H' y x→R y n'→Q x H'
def teP (φ:Fam) (m:PEnv→M PV):TE:=fun σ H Q=> ∃ (G:Bg φ) (O:Addr→Prop) (ρ:PEnv) (n:Nat) (R:PV→Nat→Prop),ES G O H σ ρ n∧(m ρ).wp n R∧Wish G O H R Q
def EV (φ:Fam) (X:Cx) (e:Expr) (m:PEnv→M PV):Prop:=BE X e (teP φ m)
theorem BE.mono (h:BE X e t) (f: ∀ σ H Q,t' σ H Q→t σ H Q):BE X e t':=⟨fun pZ s σ H Q I q=>h.out pZ s σ H Q I (f σ H Q q)⟩
inductive RepB (G:Bg φ) (O:Addr→Prop) (H:Hp):PV→V→Prop where
 |full {y:PV} {x:V} (h:Rep G.B O H y x):RepB G O H y x
 |top {p:Addr} {xs:List V} {l:List PV} (np: ¬ G.priv p) (h:H p=some (.lst xs)) (r:Reps G.B O H l xs):RepB G O H (.lst l) (.ref p)
 |topD {p:Addr} {ks:List (Key×V)} {l:List (Key×PV)} (np: ¬ G.priv p) (h:H p=some (.dK ks)) (r:RepsK G.B O H l ks):RepB G O H (.dct l) (.ref p)
theorem RepB.ext (h:RepB G O H y x) (hB:O G.B) (e:Ext G.B H H'):RepB G O H' y x:=by
 cases h with
 |full h=>exact .full (h.ext hB e)
 | @top p xs l np h r=>exact .top np (e p (.lst xs) (fun z=>np (z▸G.pB)) h) (r.ext hB e)
 | @topD p ks l np h r=>exact .topD np (e p (.dK ks) (fun z=>np (z▸G.pB)) h) (r.ext hB e)
def WishB (G:Bg φ) (O:Addr→Prop) (H:Hp) (R:PV→Nat→Prop) (Q:VK):Prop:= ∀ (y:PV) (x:V) (H':Hp) (n':Nat),Ext G.B H H'→G.ok H' n'→RepB G O H' y x→R y n'→Q x H'
def teB (φ:Fam) (m:PEnv→M PV):TE:=fun σ H Q=> ∃ (G:Bg φ) (O:Addr→Prop) (ρ:PEnv) (n:Nat) (R:PV→Nat→Prop),ES G O H σ ρ n∧(m ρ).wp n R∧WishB G O H R Q
def EB (φ:Fam) (X:Cx) (e:Expr) (m:PEnv→M PV):Prop:=BE X e (teB φ m)
theorem EV.b (h:EV φ X e m):EB φ X e m:=BE.mono h fun σ H Q ⟨G,O,ρ,n,R,s,w,q⟩=>⟨G,O,ρ,n,R,s,w,fun y x H' n' a b c d=>q y x H' n' a b (.full c) d⟩
def WishT (G:Bg φ) (H:Hp) (R:Bool→Nat→Prop) (Q:Bool→Hp→Prop):Prop:= ∀ (b:Bool) (H':Hp) (n':Nat),Ext G.B H H'→G.ok H' n'→R b n'→Q b H'
def ttP (φ:Fam) (m:PEnv→M Bool):TT:=fun σ H Q=> ∃ (G:Bg φ) (O:Addr→Prop) (ρ:PEnv) (n:Nat) (R:Bool→Nat→Prop),ES G O H σ ρ n∧(m ρ).wp n R∧WishT G H R Q
def TV (φ:Fam) (X:Cx) (e:Expr) (m:PEnv→M Bool):Prop:=BT X e (ttP φ m)
def WV (φ:Fam) (X:Cx) (e:Expr) (m:PEnv→M Bool):Prop:=BW X e (ttP φ m)
def WishA (G:Bg φ) (O:Addr→Prop) (H:Hp) (R:List PV→Nat→Prop) (Q:List V→Hp→Prop):Prop:= ∀ (l:List PV) (xs:List V) (H':Hp) (n':Nat),Ext G.B H H'→G.ok H' n'→Reps G.B O H' l xs→R l n'→Q xs H'
def taP (φ:Fam) (m:PEnv→M (List PV)):TA:=fun σ H Q=> ∃ (G:Bg φ) (O:Addr→Prop) (ρ:PEnv) (n:Nat) (R:List PV→Nat→Prop),ES G O H σ ρ n∧(m ρ).wp n R∧WishA G O H R Q
def AV (φ:Fam) (X:Cx) (es:List Expr) (m:PEnv→M (List PV)):Prop:=BA X es (taP φ m)
def RepBs (G:Bg φ) (O:Addr→Prop) (H:Hp) (l:List PV) (xs:List V):Prop:=l.length=xs.length∧∀ (i:Nat) (y:PV) (x:V),l[i]?=some y→xs[i]?=some x→RepB G O H y x
def WishAB (G:Bg φ) (O:Addr→Prop) (H:Hp) (R:List PV→Nat→Prop) (Q:List V→Hp→Prop):Prop:= ∀ (l:List PV) (xs:List V) (H':Hp) (n':Nat),Ext G.B H H'→G.ok H' n'→RepBs G O H' l xs→R l n'→Q xs H'
def taB (φ:Fam) (m:PEnv→M (List PV)):TA:=fun σ H Q=> ∃ (G:Bg φ) (O:Addr→Prop) (ρ:PEnv) (n:Nat) (R:List PV→Nat→Prop),ES G O H σ ρ n∧(m ρ).wp n R∧WishAB G O H R Q
def AB (φ:Fam) (X:Cx) (es:List Expr) (m:PEnv→M (List PV)):Prop:=BA X es (taB φ m)
def WishF (G:Bg φ) (O:Addr→Prop) (H:Hp) (R:List PV→Nat→Prop) (Q:VK):Prop:= ∀ (l:List PV) (p:Addr) (xs:List V) (H':Hp) (n':Nat),Ext G.B H H'→G.ok H' n'→H p=none→H' p=some (.lst xs)→Reps G.B (fun q=>O q∨q=p) H' l xs→R l n'→Q (.ref p) H'
def teF (φ:Fam) (m:PEnv→M (List PV)):TE:=fun σ H Q=> ∃ (G:Bg φ) (O:Addr→Prop) (ρ:PEnv) (n:Nat) (R:List PV→Nat→Prop),ES G O H σ ρ n∧(m ρ).wp n R∧WishF G O H R Q
def EF (φ:Fam) (X:Cx) (e:Expr) (m:PEnv→M (List PV)):Prop:=BE X e (teF φ m)
theorem EF.v (h:EF φ X e m):EV φ X e (fun ρ=>(m ρ).bind fun l=>.ret (.lst l)):=BE.mono h fun σ H Q hq0=>by
 obtain⟨G,O,ρ,n,R,s,w,q⟩:=hq0
 rw[M.wZ] at w
 refine⟨G,O,ρ,n,_,s,w,fun l p xs H' n' a b c d e f=>q (.lst l) _ H' n' a b (.lst (fun z=>?_) d e.1 (e.less fun q z=>.inl z).2) f⟩
 obtain⟨o,g⟩:=s.dm p z
 rw[c] at g;cases g
end
open Ent (val un)
section
variable {φ:Fam}
theorem big_le:100000≤sizeLine:=by rw[sizeLine_eq];decide
section
variable {G:Bg φ} {O:Addr→Prop} {H:Hp} {n:Nat} {R:PV→Nat→Prop} {Q:VK} {x x':V}
theorem Wish.sc (w:Wish G O H R Q) (ok:G.ok H n) (r:Rep G.B O H y x) (h:R y n):Q x H:=w y x H n (Ext.refl _ _) ok r h
theorem Wish.tup (w:Wish G O H R Q) (ok:G.ok H n) (dm: ∀ p,O p→∃ o,H p=some o) {p:Addr} (hp:H p=none) {l:List PV} {xs:List V} (hB:O G.B) (r:Reps G.B O H l xs) (h:R (.tup l) n):Q (.ref p) (upd H p (.tup xs)):=by
 have e:=Ext.new (B:=G.B) hp (.tup xs)
 refine w (.tup l) _ _ n e (Bg.new ok hp _) (.tup (fun z=>?_) upd_same r.1 (r.ext hB e).2) h
 obtain⟨o,g⟩:=dm p z
 rw[hp] at g;cases g
theorem Wish.lst (w:Wish G O H R Q) (ok:G.ok H n) (dm: ∀ p,O p→∃ o,H p=some o) {p:Addr} (hp:H p=none) {l:List PV} {xs:List V} (hB:O G.B) (r:Reps G.B O H l xs) (h:R (.lst l) n):Q (.ref p) (upd H p (.lst xs)):=by
 have e:=Ext.new (B:=G.B) hp (.lst xs)
 refine w (.lst l) _ _ n e (Bg.new ok hp _) (.lst (fun z=>?_) upd_same r.1 (r.ext hB e).2) h
 obtain⟨o,g⟩:=dm p z
 rw[hp] at g;cases g
theorem WishF.mk {R:List PV→Nat→Prop} (w:WishF G O H R Q) (ok:G.ok H n) {p:Addr} (hp:H p=none) {l:List PV} {xs:List V} (hB:O G.B) (r:Reps G.B O H l xs) (h:R l n):Q (.ref p) (upd H p (.lst xs)):=by
 have e:=Ext.new (B:=G.B) hp (.lst xs)
 refine w l p xs _ n e (Bg.new ok hp _) hp upd_same ((r.grow fun q z=>?_).ext (.inl hB) e) h
 rcases z with z|z
 ·exact .inl z
 ·subst z;exact .inr hp
theorem rd_inj (h:Rd H p (.dK a)) (g:Rd H p (.dK b)):a=b:=by
 rcases h with h|⟨o,h⟩<;>rcases g with g|⟨o',g⟩<;>(rw[h] at g;cases g)<;>rfl
theorem RepB.non_i (h:RepB G O H .non x):x= .non:=by cases h with|full h=>cases h;rfl
theorem RepB.bl_i (h:RepB G O H (.bl b) x):x= .bl b:=by cases h with|full h=>cases h;rfl
theorem RepB.int_i (h:RepB G O H (.int i) x):x= .int i:=by cases h with|full h=>cases h;rfl
theorem RepB.str_i (h:RepB G O H (.str z) x):x= .str z:=by cases h with|full h=>cases h;rfl
theorem RepB.tup_i (h:RepB G O H (.tup l) x): ∃ p xs,x= .ref p∧H p=some (.tup xs)∧Reps G.B O H l xs:=by cases h with|full h=>cases h with|tup a b c d=>exact⟨_,_,rfl,b,c,d⟩
theorem RepB.lst_i (h:RepB G O H (.lst l) x): ∃ p xs,x= .ref p∧H p=some (.lst xs)∧Reps G.B O H l xs:=by
 cases h with
 |full h=>cases h with|lst a b c d=>exact⟨_,_,rfl,b,c,d⟩
 |top a b c=>exact⟨_,_,rfl,b,c⟩
theorem RepB.dct_i (h:RepB G O H (.dct l) x): ∃ p ks,x= .ref p∧Rd H p (.dK ks)∧RepsK G.B O H l ks:=by
 cases h with
 |full h=>cases h with|dct a b c d=>exact⟨_,_,rfl,b,c,d⟩
 |topD a b c=>exact⟨_,_,rfl,.inl b,c⟩
theorem RepB.scr_i (h:RepB G O H (.scr ns) x): ∃ p o,x= .ref p∧H p=some (.frz o (.lst (ns.map V.int))):=by cases h with|full h=>cases h with|scr a b=>obtain⟨o,b⟩:=b;exact⟨_,o,rfl,b⟩
theorem RepB.low (h:RepB G O H y x) (pr: ∀ p,G.priv p→O p):Rep G.B G.priv H y x:=by
 cases h with
 |full h=>exact h.less pr
 |top np h r=>exact .lst np h r.1 (r.less pr).2
 |topD np h r=>exact .dct np (.inl h) r.1 fun i y x a b=>(r.2 i y x a b).less pr
end
def getV (ρ:PEnv) (i:Nat):M PV:=match ρ[i]? with|some (.val y)=>.ret y|_=>.fail
def getB (ρ:PEnv) (i:Nat):M PV:=match ρ[i]? with|some (.val y)=>.ret y|some (.own l)=>.ret (.lst l)|some (.ownD l)=>.ret (.dct l)|_=>.fail
section
variable {X:Cx} {a b c:Expr} {pos:Pos} {ma mb mc:PEnv→M PV}
theorem ev_of (h:BE X e (tC v)) (r: ∀ B O H,Rep B O H y v):EV φ X e (fun _=>.ret y):=BE.mono h fun σ H Q ⟨G,O,ρ,n,R,s,w,q⟩=>q.sc s.ok (r _ _ _) w
theorem ev_int:EV φ X (.Constant (.int i) j pos) (fun _=>.ret (.int i)):=ev_of ⟨pe_int⟩ fun _ _ _=>.int i
theorem ev_bl:EV φ X (.Constant (.bool i) j pos) (fun _=>.ret (.bl i)):=ev_of ⟨pe_bl⟩ fun _ _ _=>.bl i
theorem ev_non:EV φ X (.Constant .none j pos) (fun _=>.ret .non):=ev_of ⟨pe_non⟩ fun _ _ _=>.non
theorem ev_str:EV φ X (.Constant (.str x) j pos) (fun _=>.ret (.str x)):=ev_of ⟨pe_str⟩ fun _ _ _=>.str x
theorem ev_glob (hg:Gl X x) (hm:X.mg x=some (.int i t)) (hd:(x==("__debug__":Str))=false:=by decide):EV φ X (.Name x pos) (fun _=>.ret (.int i)):=ev_of ⟨pe_glob (v:=.int i) hg hm ⟨_,rfl⟩ hd⟩ fun _ _ _=>.int i
theorem sig_of {i:Nat} (h:EnvRep G O H σ ρ) (he:ρ[i]?=some e) (hx:(σ[i]?).getD none=some x):σ[i]?=some (some x):=by
 cases q:σ[i]? with
 |none=>rw[q] at hx;cases hx
 |some o=>rw[q] at hx;cases o with
  |none=>cases hx
  |some z=>simp at hx;rw[hx]
theorem ev_name (i:Nat) (h:BE X (.Name x pos) (tVar i)):EV φ X (.Name x pos) (fun ρ=>getV ρ i):=BE.mono h fun σ H Q hq0=>by
 obtain⟨G,O,ρ,n,R,s,w,q⟩:=hq0
 replace w:(getV ρ i).wp n R:=w
 unfold getV at w
 cases e:ρ[i]? with
 |none=>rw[e] at w;exact w.elim
 |some t=>
  rw[e] at w
  cases t with
  |val y=>
   obtain⟨x,hx,r⟩:=s.er.2 i _ e
   exact⟨x,sig_of s.er e hx,q.sc s.ok r w⟩
  |_=>exact w.elim
theorem eb_name (i:Nat) (h:BE X (.Name x pos) (tVar i)):EB φ X (.Name x pos) (fun ρ=>getB ρ i):=BE.mono h fun σ H Q hq0=>by
 obtain⟨G,O,ρ,n,R,s,w,q⟩:=hq0
 replace w:(getB ρ i).wp n R:=w
 unfold getB at w
 cases e:ρ[i]? with
 |none=>rw[e] at w;exact w.elim
 |some t=>
  rw[e] at w
  cases t with
  |val y=>
   obtain⟨x,hx,r⟩:=s.er.2 i _ e
   exact⟨x,sig_of s.er e hx,q _ _ _ _ (Ext.refl _ _) s.ok (.full r) w⟩
  |own l=>
   obtain⟨p,xs,hx,_,np,hl,r⟩:=s.er.2 i _ e
   exact⟨_,sig_of s.er e hx,q _ _ _ _ (Ext.refl _ _) s.ok (.top np hl r) w⟩
  |ownD l=>
   obtain⟨p,xs,hx,_,np,hl,r⟩:=s.er.2 i _ e
   exact⟨_,sig_of s.er e hx,q _ _ _ _ (Ext.refl _ _) s.ok (.topD np hl r) w⟩
  |un=>exact w.elim
def OpV (r:R2) (op:PV→PV→M PV):Prop:= ∀ (φ:Fam) (G:Bg φ) (O:Addr→Prop) (H:Hp) (n:Nat) (R:PV→Nat→Prop) (Q:VK) (y y':PV) (x x':V),
 (∀ p,G.priv p→O p)→(∀ p,O p→∃ o,H p=some o)→G.ok H n→RepB G O H y x→RepB G O H y' x'→(op y y').wp n R→Wish G O H R Q→r x x' H Q
def bin2 (op:PV→PV→M PV) (ma mb:PEnv→M PV):PEnv→M PV:=fun ρ=>(ma ρ).bind fun x=>(mb ρ).bind fun y=>op x y
theorem two (hv:OpV r op): ∀ σ H Q,teP φ (bin2 op ma mb) σ H Q→tOp r (teB φ ma) (teB φ mb) σ H Q:=fun σ H Q hq0=>by
 obtain⟨G,O,ρ,n,R,s,w,q⟩:=hq0
 unfold bin2 at w
 rw[M.wZ] at w
 refine⟨G,O,ρ,n,_,s,w,fun y x H1 n1 e1 ok1 r1 w1=>?_⟩
 rw[M.wZ] at w1
 refine⟨G,O,ρ,n1,_,s.ext e1 ok1,w1,fun y' x' H2 n2 e2 ok2 r2 w2=>?_⟩
 exact hv φ G O H2 n2 R Q y y' x x' s.pr (s.ext (e1.trans e2) ok2).dm ok2 (r1.ext s.B e2) r2 w2 fun y x H' n' e o r h=>q y x H' n' (e1.trans (e2.trans e)) o r h
theorem ev_bin (ho:OpR X (binaryOp o) r) (hv:OpV r op) (ha:EB φ X a ma) (hb:EB φ X b mb):EV φ X (.BinOp a o b pos) (bin2 op ma mb):=
 BE.mono ⟨pe_op ho ha.out hb.out⟩ (two hv)
theorem ev_cmp (ho:OpR X (compareOp o) r) (hv:OpV r op) (ha:EB φ X a ma) (hb:EB φ X b mb) (hm:behindInMarks o b=false):EV φ X (.Compare a [o] [b] pos) (bin2 op ma mb):=
 BE.mono ⟨pe_cmpR ho ha.out hb.out hm⟩ (two hv)
theorem ev_ix (hr:IxR X r) (hv:OpV r op) (ha:EB φ X a ma) (hb:EB φ X b mb) (hs:PlainIx b):EV φ X (.Subscript a b pos) (bin2 op ma mb):=
 BE.mono ⟨pe_ix hr ha.out hb.out hs⟩ (two hv)
def asB (m:PEnv→M PV):PEnv→M Bool:=fun ρ=>(m ρ).bind fun y=>match y with| .bl b=>.ret b|_=>.fail
theorem asB_in {t:TE} (f: ∀ σ H Q,teP φ m σ H Q→t σ H Q): ∀ σ H Q,ttP φ (asB m) σ H Q→t σ H (fun x H1=> ∃ k,x= .bl k∧Q k H1):=fun σ H Q hq0=>by
 obtain⟨G,O,ρ,n,R,s,w,q⟩:=hq0
 unfold asB at w
 rw[M.wZ] at w
 refine f σ H _ ⟨G,O,ρ,n,_,s,w,fun y x H1 n1 e1 ok1 r1 w1=>?_⟩
 cases y with
 |bl k=>cases r1;exact⟨k,rfl,q k H1 n1 e1 ok1 w1⟩
 |_=>exact w1.elim
theorem BT.mono (h:BT X e t) (f: ∀ σ H Q,t' σ H Q→t σ H Q):BT X e t':=⟨fun pZ s σ H Q I q=>h.out pZ s σ H Q I (f σ H Q q)⟩
theorem BW.mono (h:BW X e t) (f: ∀ σ H Q,t' σ H Q→t σ H Q):BW X e t':=⟨fun w pZ s σ H Q I q=>h.out w pZ s σ H Q I (f σ H Q q)⟩
theorem tv_cmp (ho:OpR X (compareOp o) r) (hv:OpV r op) (ha:EB φ X a ma) (hb:EB φ X b mb) (hm:behindInMarks o b=false):TV φ X (.Compare a [o] [b] pos) (asB (bin2 op ma mb)):=
 BT.mono ⟨pt_cmpR ho ha.out hb.out hm⟩ (asB_in (two hv))
theorem tv_val (h:EV φ X e m) (he: ∀ whole,isTrue e X.env whole=(do let v ←whole;standAt e.pos;holding [v] (truthy v)):=by intro _;rfl):TV φ X e (asB m):=
 BT.mono ⟨pt_val h.out he⟩ (asB_in fun _ _ _ h=>h)
def notP (m:PEnv→M Bool):PEnv→M Bool:=fun ρ=>(m ρ).bind fun b=>.ret (!b)
theorem tv_not (h:TV φ X a m):TV φ X (.UnaryOp .Not a pos) (notP m):=BT.mono ⟨pt_not h.out⟩ fun σ H Q hq0=>by
 obtain⟨G,O,ρ,n,R,s,w,q⟩:=hq0
 unfold notP at w
 rw[M.wZ] at w
 exact⟨G,O,ρ,n,_,s,w,fun b H1 n1 e1 ok1 w1=>q (!b) H1 n1 e1 ok1 w1⟩
def andP (ma mb:PEnv→M Bool):PEnv→M Bool:=fun ρ=>(ma ρ).bind fun b=>if b=true then mb ρ else .ret false
def orP (ma mb:PEnv→M Bool):PEnv→M Bool:=fun ρ=>(ma ρ).bind fun b=>if b=true then .ret true else mb ρ
theorem WV.t (h:WV φ X e m):TV φ X e m:=⟨PW.pt h.out⟩
theorem wv_and1 (h:TV φ X a m):WV φ X (.BoolOp .And [a] pos) m:=⟨pw_and1 h.out⟩
theorem wv_or1 (h:TV φ X a m):WV φ X (.BoolOp .Or [a] pos) m:=⟨pw_or1 h.out⟩
theorem wv_and {rest:List Expr} (h:TV φ X a m) (h':WV φ X (.BoolOp .And (b::rest) pos) m'):WV φ X (.BoolOp .And (a::b::rest) pos) (andP m m'):=BW.mono ⟨pw_and h.out h'.out⟩ fun σ H Q hq0=>by
 obtain⟨G,O,ρ,n,R,s,w,q⟩:=hq0
 unfold andP at w
 rw[M.wZ] at w
 refine⟨G,O,ρ,n,_,s,w,fun b H1 n1 e1 ok1 w1=>?_⟩
 cases b with
 |true=>exact⟨G,O,ρ,n1,R,s.ext e1 ok1,w1,fun b H' n' e o h=>q b H' n' (e1.trans e) o h⟩
 |false=>exact q false H1 n1 e1 ok1 w1
theorem wv_or {rest:List Expr} (h:TV φ X a m) (h':WV φ X (.BoolOp .Or (b::rest) pos) m'):WV φ X (.BoolOp .Or (a::b::rest) pos) (orP m m'):=BW.mono ⟨pw_or h.out h'.out⟩ fun σ H Q hq0=>by
 obtain⟨G,O,ρ,n,R,s,w,q⟩:=hq0
 unfold orP at w
 rw[M.wZ] at w
 refine⟨G,O,ρ,n,_,s,w,fun b H1 n1 e1 ok1 w1=>?_⟩
 cases b with
 |true=>exact q true H1 n1 e1 ok1 w1
 |false=>exact⟨G,O,ρ,n1,R,s.ext e1 ok1,w1,fun b H' n' e o h=>q b H' n' (e1.trans e) o h⟩
def notV (m:PEnv→M PV):PEnv→M PV:=fun ρ=>(asB m ρ).bind fun b=>.ret (.bl (!b))
def andV (ma mb:PEnv→M PV):PEnv→M PV:=fun ρ=>(asB ma ρ).bind fun b=>if b=true then mb ρ else .ret (.bl false)
def orV (ma mb:PEnv→M PV):PEnv→M PV:=fun ρ=>(asB ma ρ).bind fun b=>if b=true then .ret (.bl true) else mb ρ
theorem as_cut {m:PEnv→M PV} {f:Bool→M PV} {σ:St} {H:Hp} {Q:VK} {G:Bg φ} {O:Addr→Prop} {ρ:PEnv} {n:Nat} {R:PV→Nat→Prop} {T:V→Hp→Prop} (s:ES G O H σ ρ n) (w:((asB m ρ).bind f).wp n R)
  (k: ∀ (b:Bool) (H1:Hp) (n1:Nat),Ext G.B H H1→G.ok H1 n1→(f b).wp n1 R→T (.bl b) H1):teP φ m σ H T:=by
 rw[M.wZ] at w
 unfold asB at w
 rw[M.wZ] at w
 refine⟨G,O,ρ,n,_,s,w,fun y x H1 n1 e1 ok1 r1 w1=>?_⟩
 cases y with
 |bl b=>cases r1;exact k b H1 n1 e1 ok1 w1
 |_=>exact w1.elim
theorem ev_not (ha:EV φ X a ma):EV φ X (.UnaryOp .Not a pos) (notV ma):=BE.mono ⟨pe_not ha.out⟩ fun σ H Q ⟨G,O,ρ,n,R,s,w,q⟩=>
 as_cut (Q:=Q) s w fun b H1 n1 e1 ok1 w1=>⟨b,rfl,q _ _ _ _ e1 ok1 (.bl _) w1⟩
theorem ev_one (ha:EV φ X a ma):EV φ X (.BoolOp op [a] pos) ma:=⟨pe_one ha.out⟩
theorem ev_and {rest:List Expr} (ha:EV φ X a ma) (hb:EV φ X (.BoolOp .And (b::rest) pos) mb):EV φ X (.BoolOp .And (a::b::rest) pos) (andV ma mb):=BE.mono ⟨pe_and ha.out hb.out⟩ fun σ H Q ⟨G,O,ρ,n,R,s,w,q⟩=>
 as_cut (Q:=Q) s w fun b H1 n1 e1 ok1 w1=>⟨b,rfl,by
  cases b with
  |true=>exact⟨G,O,ρ,n1,R,s.ext e1 ok1,w1,fun y x H' n' e o r h=>q y x H' n' (e1.trans e) o r h⟩
  |false=>exact q _ _ _ _ e1 ok1 (.bl _) w1⟩
def ifV (mc:PEnv→M Bool) (ma mb:PEnv→M PV):PEnv→M PV:=fun ρ=>(mc ρ).bind fun b=>if b=true then ma ρ else mb ρ
theorem ev_if (hc:TV φ X c t) (ha:EV φ X a ma) (hb:EV φ X b mb):EV φ X (.IfExp c a b pos) (ifV t ma mb):=BE.mono ⟨pe_ifExp hc.out ha.out hb.out⟩ fun σ H Q hq0=>by
 obtain⟨G,O,ρ,n,R,s,w,q⟩:=hq0
 unfold ifV at w
 rw[M.wZ] at w
 refine⟨G,O,ρ,n,_,s,w,fun b H1 n1 e1 ok1 w1=>?_⟩
 cases b with
 |true=>exact⟨G,O,ρ,n1,R,s.ext e1 ok1,w1,fun y x H' n' e o r h=>q y x H' n' (e1.trans e) o r h⟩
 |false=>exact⟨G,O,ρ,n1,R,s.ext e1 ok1,w1,fun y x H' n' e o r h=>q y x H' n' (e1.trans e) o r h⟩
noncomputable def chain (op op':PV→PV→M PV) (ma mb mc:PEnv→M PV):PEnv→M PV:=fun ρ=>(ma ρ).bind fun x=>(mb ρ).bind fun y=>(op x y).bind fun z=>match z with
 | .bl true=>(mc ρ).bind fun u=>op' y u
 | .bl false=>.ret (.bl false)
 |_=>.fail
theorem chain_in (hv:OpV r op) (hv':OpV r' op'): ∀ σ H Q,teP φ (chain op op' ma mb mc) σ H Q→tChain r r' (teB φ ma) (teB φ mb) (teB φ mc) σ H Q:=fun σ H Q hq0=>by
 obtain⟨G,O,ρ,n,R,s,w,q⟩:=hq0
 unfold chain at w
 rw[M.wZ] at w
 refine⟨G,O,ρ,n,_,s,w,fun y x H1 n1 e1 ok1 r1 w1=>?_⟩
 rw[M.wZ] at w1
 refine⟨G,O,ρ,n1,_,s.ext e1 ok1,w1,fun y' x' H2 n2 e2 ok2 r2 w2=>?_⟩
 rw[M.wZ] at w2
 refine hv φ G O H2 n2 _ _ y y' x x' s.pr (s.ext (e1.trans e2) ok2).dm ok2 (r1.ext s.B e2) r2 w2 fun z u H3 n3 e3 ok3 r3 w3=>?_
 cases z with
 |bl k=>
  cases r3
  refine⟨k,rfl,?_⟩
  cases k with
  |true=>
   show teB φ mc σ H3 _
   rw[M.wZ] at w3
   refine⟨G,O,ρ,n3,_,s.ext (e1.trans (e2.trans e3)) ok3,w3,fun y4 x4 H4 n4 e4 ok4 r4 w4=>?_⟩
   exact hv' φ G O H4 n4 R Q y' y4 x' x4 s.pr (s.ext (e1.trans (e2.trans (e3.trans e4))) ok4).dm ok4 (r2.ext s.B (e3.trans e4)) r4 w4 fun y x H' n' e o r h=>q y x H' n' (e1.trans (e2.trans (e3.trans (e4.trans e)))) o r h
  |false=>exact q _ _ _ _ (e1.trans (e2.trans e3)) ok3 (.bl _) w3
 |_=>exact w3.elim
theorem ev_chain (ho:OpR X (compareOp o) r) (hv:OpV r op) (ho':OpR X (compareOp o') r') (hv':OpV r' op') (ha:EB φ X a ma) (hb:EB φ X b mb) (hc:EB φ X c mc) (hm:lastMarks [o,o'] [b,c]=false:=by with_unfolding_all rfl):EV φ X (.Compare a [o,o'] [b,c] pos) (chain op op' ma mb mc):=
 BE.mono ⟨pe_chain ho ho' ha.out hb.out hc.out hm⟩ (chain_in hv hv')
theorem tv_chain (ho:OpR X (compareOp o) r) (hv:OpV r op) (ho':OpR X (compareOp o') r') (hv':OpV r' op') (ha:EB φ X a ma) (hb:EB φ X b mb) (hc:EB φ X c mc) (hm:lastMarks [o,o'] [b,c]=false:=by with_unfolding_all rfl):TV φ X (.Compare a [o,o'] [b,c] pos) (asB (chain op op' ma mb mc)):=
 BT.mono ⟨pt_chain ho ho' ha.out hb.out hc.out hm⟩ (asB_in (chain_in hv hv'))
end
end
section
variable {φ:Fam}
def toV:PV→V
 | .non=>.non
 | .bl b=>.bl b
 | .int i=>.int i
 | .str x=>.str x
 |_=>.ty ""
def flatP (y:PV):Bool:=flatV (toV y)
theorem flat_rep (h:Rep B O H y x) (f:flatP y=true):x=toV y:=by
 cases h<;>first|rfl|(exact absurd f (by decide))|(simp[flatP,toV,flatV] at f)
theorem flat_repB (h:RepB G O H y x) (f:flatP y=true):x=toV y:=by
 cases h with
 |full h=>exact flat_rep h f
 |_=>simp[flatP,toV,flatV] at f
noncomputable def eqs (f:PV→PV→Option Bool):List PV→List PV→Option Bool
 |[],[]=>some true
 |[],_::_=>some false
 |_::_,[]=>some false
 |a::r,b::t=>(f a b).bind fun x=>(eqs f r t).bind fun y=>some (x&&y)
noncomputable def eqP:Nat→PV→PV→Option Bool
 |k+1,.lst a,.lst b=>eqs (eqP k) a b
 |k+1,.tup a,.tup b=>eqs (eqP k) a b
 |_+1,.lst _,.tup _=>some false
 |_+1,.tup _,.lst _=>some false
 |_+1,.lst _,y=>if flatP y then some false else none
 |_+1,.tup _,y=>if flatP y then some false else none
 |_+1,y,.lst _=>if flatP y then some false else none
 |_+1,y,.tup _=>if flatP y then some false else none
 |_,y,z=>if flatP y&&flatP z then some (eqV (toV y) (toV z)) else none
theorem eqs_at: ∀ {a b:List PV} {c:Bool},eqs f a b=some c→∃ e:Nat→Bool,(∀ j y z,a[j]?=some y→b[j]?=some z→f y z=some (e j))∧c=((List.range (min a.length b.length)).all e&&a.length==b.length)
 |[],[],c,h=>⟨fun _=>true,fun j y z e=>by simp at e,by simp[eqs] at h;simp[h]⟩
 |[],_::_,c,h=>⟨fun _=>true,fun j y z e=>by simp at e,by simp[eqs] at h;simp[h]⟩
 |_::_,[],c,h=>⟨fun _=>true,fun j y z _ e=>by simp at e,by simp[eqs] at h;simp[h]⟩
 |y::r,z::t,c,h=>by
  simp only[eqs] at h
  cases h1:f y z with
  |none=>rw[h1] at h;simp at h
  |some x=>
   rw[h1] at h
   simp only[Option.bind_some] at h
   cases h2:eqs f r t with
   |none=>rw[h2] at h;simp at h
   |some w=>
    rw[h2] at h
    simp only[Option.bind_some,Option.some.injEq] at h
    obtain⟨e,he,hw⟩:=eqs_at h2
    refine⟨fun j=>match j with|0=>x|j+1=>e j,fun j y' z' a b=>?_,?_⟩
    ·cases j with
     |zero=>simp at a b;subst a b;exact h1
     |succ j=>simp at a b;exact he j y' z' a b
    ·have e0:min (y::r).length (z::t).length=min r.length t.length+1:=by simp only[List.length_cons];lia
     rw[e0,List.range_succ_eq_map,List.all_cons,List.all_map,←h,hw]
     simp only[List.length_cons,Function.comp_def,Bool.and_assoc]
     congr 2
     rw[Bool.eq_iff_iff];simp
theorem ext_rel {α β:Type} {l l':List α} {xs:List β} (h1:l.length=xs.length) (h2:l'.length=xs.length) (hh: ∀ (i:Nat) (y y':α) (x:β),l[i]?=some y→l'[i]?=some y'→xs[i]?=some x→y=y'):l=l':=by
 apply List.ext_getElem (h1.trans h2.symm)
 intro i a b
 exact hh i _ _ _ (List.getElem?_eq_getElem a) (List.getElem?_eq_getElem b) (List.getElem?_eq_getElem (h1▸a))
theorem int_inj: ∀ {a b:List Int},a.map V.int=b.map V.int→a=b
 |[],[],_=>rfl
 |[],_::_,h=>by simp at h
 |_::_,[],h=>by simp at h
 |x::a,y::b,h=>by
  simp only[List.map_cons,List.cons.injEq,V.int.injEq] at h
  rw[h.1,int_inj h.2]
theorem Rep.uniq {O:Addr→Prop} (hB:O B) (h:Rep B O H y x): ∀ {y':PV},Rep B O H y' x→y=y':=by
 induction h with
 |non=>intro y' h;cases h;rfl
 |bl b=>intro y' h;cases h;rfl
 |int i=>intro y' h;cases h;rfl
 |str x=>intro y' h;cases h;rfl
 |tup hO h hl hr ih=>
  intro y' g
  cases g with
  |tup gO g gl gr=>
   rw[h] at g;cases g
   congr 1
   exact ext_rel hl gl fun i y y' x a b c=>ih i y x a c (gr i y' x b c)
  |lst gO g gl gr=>rw[h] at g;cases g
  |dct gO g gl gr=>rcases g with g|⟨o',g⟩<;>(rw[h] at g;cases g)
  |scr gO g=>obtain⟨o,g⟩:=g;rw[h] at g;cases g
  |bag=>exact absurd hB hO
 |lst hO h hl hr ih=>
  intro y' g
  cases g with
  |lst gO g gl gr=>
   rw[h] at g;cases g
   congr 1
   exact ext_rel hl gl fun i y y' x a b c=>ih i y x a c (gr i y' x b c)
  |tup gO g gl gr=>rw[h] at g;cases g
  |dct gO g gl gr=>rcases g with g|⟨o',g⟩<;>(rw[h] at g;cases g)
  |scr gO g=>obtain⟨o,g⟩:=g;rw[h] at g;cases g
  |bag=>exact absurd hB hO
 |dct hO h hl hr ih=>
  intro y' g
  cases g with
  |dct gO g gl gr=>
   obtain rfl:=rd_inj h g
   congr 1
   refine ext_rel (by simpa using congrArg List.length hl) (by simpa using congrArg List.length gl) fun i y y' x a b c=>?_
   have k1:y.1=x.1:=by
    have:=congrArg (·[i]?) hl
    simp only[List.getElem?_map,a,c] at this
    simpa using this
   have k2:y'.1=x.1:=by
    have:=congrArg (·[i]?) gl
    simp only[List.getElem?_map,b,c] at this
    simpa using this
   exact Prod.ext (k1.trans k2.symm) (ih i y x a c (gr i y' x b c))
  |tup gO g gl gr=>rcases h with h|⟨o',h⟩<;>(rw[h] at g;cases g)
  |lst gO g gl gr=>rcases h with h|⟨o',h⟩<;>(rw[h] at g;cases g)
  |scr gO g=>obtain⟨o,g⟩:=g;rcases h with h|⟨o',h⟩<;>(rw[h] at g;cases g)
  |bag=>exact absurd hB hO
 |scr hO h=>
  intro y' g
  obtain⟨o,h⟩:=h
  cases g with
  |scr gO g=>
   obtain⟨o',g⟩:=g
   rw[h] at g
   injection g with g;injection g with g1 g2;injection g2 with g2
   congr 1
   exact int_inj g2
  |tup gO g gl gr=>rw[h] at g;cases g
  |lst gO g gl gr=>rw[h] at g;cases g
  |dct gO g gl gr=>rcases g with g|⟨o',g⟩<;>(rw[h] at g;cases g)
  |bag=>exact absurd hB hO
 |bag=>
  intro y' g
  cases g with
  |bag=>rfl
  |tup gO g gl gr=>exact absurd hB gO
  |lst gO g gl gr=>exact absurd hB gO
  |dct gO g gl gr=>exact absurd hB gO
  |scr gO g=>exact absurd hB gO
theorem eqs_refl (hf: ∀ y c,f y y=some c→c=true): ∀ {a:List PV} {c:Bool},eqs f a a=some c→c=true
 |[],c,h=>by simp[eqs] at h;exact h
 |y::r,c,h=>by
  simp only[eqs] at h
  cases h1:f y y with
  |none=>rw[h1] at h;simp at h
  |some x=>
   rw[h1] at h
   simp only[Option.bind_some] at h
   cases h2:eqs f r r with
   |none=>rw[h2] at h;simp at h
   |some w=>
    rw[h2] at h
    simp only[Option.bind_some,Option.some.injEq] at h
    rw[←h,hf _ _ h1,eqs_refl hf h2];rfl
theorem eqP_flat (h1:flatP y=true) (h2:flatP z=true):eqP k y z=some (eqV (toV y) (toV z)):=by
 cases k<;>cases y<;>cases z<;>first|rfl|(simp[flatP,toV,flatV] at h1;done)|(simp[flatP,toV,flatV] at h2;done)
theorem eqP_refl: ∀ (k:Nat) (y:PV) (c:Bool),eqP k y y=some c→c=true:=by
 intro k
 induction k with
 |zero=>
  intro y c h
  cases y<;>simp[eqP,flatP,toV,flatV,eqV] at h<;>(try exact h)<;>(try exact h.symm)
 |succ k ih=>
  intro y c h
  cases y with
  |lst a=>exact eqs_refl ih h
  |tup a=>exact eqs_refl ih h
  |_=>simp[eqP,flatP,toV,flatV,eqV] at h<;>(try exact h)<;>(try exact h.symm)
section
variable {X:Cx} {pZ:List (Addr×Obj)} {σ:St} {H:Hp} {s:Shared} {B:Addr} {O:Addr→Prop}
theorem eqAt_flat (h1:flatP y=true) (h2:flatP z=true) (r1:Rep B O H y x) (r2:Rep B O H z x') (q1:RelV x u) (q2:RelV x' v):SeqAt.EqAt A s u v (eqV (toV y) (toV z)):=by
 rw[flat_rep r1 h1] at q1
 rw[flat_rep r2 h2] at q2
 exact eqAt_V q1 q2 h1 h2
theorem eq_at (I:Inv X pZ σ H s) (hB:O B): ∀ (k:Nat) (A:Around) (y z:PV) (x x':V) (u v:Value) (c:Bool),Rep B O H y x→Rep B O H z x'→RelV x u→RelV x' v→eqP k y z=some c→A.units+k < cLine→SeqAt.EqAt A s u v c:=by
 intro k
 induction k with
 |zero=>
  intro A y z x x' u v c r1 r2 q1 q2 e hu
  have f:flatP y=true∧flatP z=true:=by
   unfold eqP at e
   by_cases h:(flatP y&&flatP z)=true
   ·simpa using h
   ·cases y<;>cases z<;>simp_all [flatP,toV,flatV]
  rw[eqP_flat f.1 f.2] at e
  cases e
  exact eqAt_flat f.1 f.2 r1 r2 q1 q2
 |succ k ih=>
  intro A y z x x' u v c r1 r2 q1 q2 e hu
  have hu0:A.units < cLine:=by lia
  have hu1:A.in1.units+k < cLine:=by show A.units+1+k < cLine;lia
  by_cases f:flatP y=true∧flatP z=true
  ·rw[eqP_flat f.1 f.2] at e
   cases e
   exact eqAt_flat f.1 f.2 r1 r2 q1 q2
  cases r1 with
  | @lst p xs l hO h hl hr=>
   cases q1
   obtain⟨its,v1,p1,_⟩:=I.list (SqL.of (K:=X.K) h)
   cases r2 with
   | @lst p' xs' l' hO' h' hl' hr'=>
    cases q2
    by_cases pe:p=p'
    ·subst pe
     have e1:=Rep.uniq hB (.lst hO h hl hr) (.lst hO' h' hl' hr')
     rw[e1] at e
     rw[eqP_refl _ _ _ e]
     exact .same _
    ·obtain⟨its',v2,p2,_⟩:=I.list (SqL.of (K:=X.K) h')
     obtain⟨g,hg,hc⟩:=eqs_at e
     refine .of_refs pe ?_
     have e1:its.toArray.size=l.length:=by rw[List.size_toArray,←v1.length,hl]
     have e2:its'.toArray.size=l'.length:=by rw[List.size_toArray,←v2.length,hl']
     by_cases hs:l.length=l'.length
     ·have hh:=SeqAt.RcAt.lists (A:=A) (e:=g) p1.isList p2.isList (by rw[e1,e2,hs]) hu0 (fun j h1 h2=>?_)
      ·rw[hc,←hs,Nat.min_self,beq_self_eq_true,Bool.and_true,←e1];exact hh
      ·have j1:j < l.length:=e1▸h1
       have j2:j < l'.length:=e2▸h2
       obtain⟨u1,a1,a2⟩:=v1.get (i:=j) (x:=xs[j]) (List.getElem?_eq_getElem _)
       obtain⟨u2,b1,b2⟩:=v2.get (i:=j) (x:=xs'[j]) (List.getElem?_eq_getElem _)
       have a3:its.toArray[j]=u1:=by
        have:=(List.getElem?_eq_some_iff.mp a1).2
        simpa using this
       have b3:its'.toArray[j]=u2:=by
        have:=(List.getElem?_eq_some_iff.mp b1).2
        simpa using this
       rw[a3,b3]
       exact ih A.in1 l[j] l'[j] _ _ _ _ _ (hr j _ _ (List.getElem?_eq_getElem j1) (List.getElem?_eq_getElem _)) (hr' j _ _ (List.getElem?_eq_getElem j2) (List.getElem?_eq_getElem _)) a2 b2 (hg j _ _ (List.getElem?_eq_getElem j1) (List.getElem?_eq_getElem j2)) hu1
     ·have:c=false:=by rw[hc];simp[hs]
      rw[this]
      exact SeqAt.RcAt.lists_lengths p1.isList p2.isList (by rw[e1,e2];simpa using hs) hu0
   | @tup p' xs' l' hO' h' hl' hr'=>
    cases q2
    obtain⟨its',v2,p2,_⟩:=I.tuple (SqT.of (K:=X.K) h')
    cases e
    exact .list_tuple p1.isList p2 hu0
   |non=>cases q2;cases e;exact .list_none p1.isList hu0
   |bl b=>cases q2;cases e;exact .list_bool b p1.isList hu0
   |int b=>obtain⟨t,rfl⟩:=q2;cases e;exact .list_int b t p1.isList hu0
   |str b=>obtain⟨t,rfl⟩:=q2;cases e;exact .list_str b t p1.isList hu0
   |_=>cases e
  | @tup p xs l hO h hl hr=>
   cases q1
   obtain⟨its,v1,p1,_⟩:=I.tuple (SqT.of (K:=X.K) h)
   cases r2 with
   | @tup p' xs' l' hO' h' hl' hr'=>
    cases q2
    by_cases pe:p=p'
    ·subst pe
     have e1:=Rep.uniq hB (.tup hO h hl hr) (.tup hO' h' hl' hr')
     rw[e1] at e
     rw[eqP_refl _ _ _ e]
     exact .same _
    ·obtain⟨its',v2,p2,_⟩:=I.tuple (SqT.of (K:=X.K) h')
     obtain⟨g,hg,hc⟩:=eqs_at e
     refine .of_refs pe ?_
     have e1:its.toArray.size=l.length:=by rw[List.size_toArray,←v1.length,hl]
     have e2:its'.toArray.size=l'.length:=by rw[List.size_toArray,←v2.length,hl']
     have hh:=SeqAt.RcAt.tuples (A:=A) (e:=g) p1 p2 hu0 (fun j h1 h2=>?_)
     ·rw[hc,←e1,←e2];exact hh
     ·have j1:j < l.length:=e1▸h1
      have j2:j < l'.length:=e2▸h2
      obtain⟨u1,a1,a2⟩:=v1.get (i:=j) (x:=xs[j]) (List.getElem?_eq_getElem _)
      obtain⟨u2,b1,b2⟩:=v2.get (i:=j) (x:=xs'[j]) (List.getElem?_eq_getElem _)
      have a3:its.toArray[j]=u1:=by
       have:=(List.getElem?_eq_some_iff.mp a1).2
       simpa using this
      have b3:its'.toArray[j]=u2:=by
       have:=(List.getElem?_eq_some_iff.mp b1).2
       simpa using this
      rw[a3,b3]
      exact ih A.in1 l[j] l'[j] _ _ _ _ _ (hr j _ _ (List.getElem?_eq_getElem j1) (List.getElem?_eq_getElem _)) (hr' j _ _ (List.getElem?_eq_getElem j2) (List.getElem?_eq_getElem _)) a2 b2 (hg j _ _ (List.getElem?_eq_getElem j1) (List.getElem?_eq_getElem j2)) hu1
   | @lst p' xs' l' hO' h' hl' hr'=>
    cases q2
    obtain⟨its',v2,p2,_⟩:=I.list (SqL.of (K:=X.K) h')
    cases e
    exact .tuple_list p1 p2.isList hu0
   |non=>cases q2;cases e;exact .tuple_none p1 hu0
   |bl b=>cases q2;cases e;exact .tuple_bool b p1 hu0
   |int b=>obtain⟨t,rfl⟩:=q2;cases e;exact .tuple_int b t p1 hu0
   |str b=>obtain⟨t,rfl⟩:=q2;cases e;exact .tuple_str b t p1 hu0
   |_=>cases e
  |non=>
   cases r2 with
   |lst a h' b c=>cases q1;cases q2;obtain⟨its',v2,p2,_⟩:=I.list (SqL.of (K:=X.K) h');cases e;exact .none_list p2.isList hu0
   |tup a h' b c=>cases q1;cases q2;obtain⟨its',v2,p2,_⟩:=I.tuple (SqT.of (K:=X.K) h');cases e;exact .none_tuple p2 hu0
   |_=>first|exact absurd ⟨rfl,rfl⟩ f|cases e
  |bl b=>
   cases r2 with
   |lst a h' _ c=>cases q1;cases q2;obtain⟨its',v2,p2,_⟩:=I.list (SqL.of (K:=X.K) h');cases e;exact .bool_list b p2.isList hu0
   |tup a h' _ c=>cases q1;cases q2;obtain⟨its',v2,p2,_⟩:=I.tuple (SqT.of (K:=X.K) h');cases e;exact .bool_tuple b p2 hu0
   |_=>first|exact absurd ⟨rfl,rfl⟩ f|cases e
  |int b=>
   cases r2 with
   |lst a h' _ c=>obtain⟨t,rfl⟩:=q1;cases q2;obtain⟨its',v2,p2,_⟩:=I.list (SqL.of (K:=X.K) h');cases e;exact .int_list b t p2.isList hu0
   |tup a h' _ c=>obtain⟨t,rfl⟩:=q1;cases q2;obtain⟨its',v2,p2,_⟩:=I.tuple (SqT.of (K:=X.K) h');cases e;exact .int_tuple b t p2 hu0
   |_=>first|exact absurd ⟨rfl,rfl⟩ f|cases e
  |str b=>
   cases r2 with
   |lst a h' _ c=>obtain⟨t,rfl⟩:=q1;cases q2;obtain⟨its',v2,p2,_⟩:=I.list (SqL.of (K:=X.K) h');cases e;exact .str_list b t p2.isList hu0
   |tup a h' _ c=>obtain⟨t,rfl⟩:=q1;cases q2;obtain⟨its',v2,p2,_⟩:=I.tuple (SqT.of (K:=X.K) h');cases e;exact .str_tuple b t p2 hu0
   |_=>first|exact absurd ⟨rfl,rfl⟩ f|cases e
  |_=>cases z<;>cases e
end
end
section
variable {φ:Fam}
section
variable {X:Cx}
theorem rc_flat (f1:flatV y=true) (f2:flatV z=true) (q1:RelV y u) (q2:RelV z v):SeqAt.RcAt A s u v (eqV y z)∧SeqAt.RcNeAt A s u v (!eqV y z):=by
 cases y with
 |non=>
  cases q1
  cases z with
  |non=>cases q2;exact⟨.none_none,.none_none⟩
  |bl b=>cases q2;exact⟨.none_bool b,.none_bool b⟩
  |int b=>obtain⟨t,rfl⟩:=q2;exact⟨.none_int b t,.none_int b t⟩
  |str b=>obtain⟨t,rfl⟩:=q2;exact⟨.none_str b t,.none_str b t⟩
  |_=>cases f2
 |bl a=>
  cases q1
  cases z with
  |non=>cases q2;exact⟨.bool_none a,.bool_none a⟩
  |bl b=>cases q2;exact⟨.bool_bool a b,.bool_bool a b⟩
  |int b=>obtain⟨t,rfl⟩:=q2;exact⟨.bool_int a b t,.bool_int a b t⟩
  |str b=>obtain⟨t,rfl⟩:=q2;exact⟨.bool_str a b t,.bool_str a b t⟩
  |_=>cases f2
 |int a=>
  obtain⟨t',rfl⟩:=q1
  cases z with
  |non=>cases q2;exact⟨.int_none a t',.int_none a t'⟩
  |bl b=>cases q2;exact⟨.int_bool a t' b,.int_bool a t' b⟩
  |int b=>obtain⟨t,rfl⟩:=q2;exact⟨.int_int a t' b t,.int_int a t' b t⟩
  |str b=>obtain⟨t,rfl⟩:=q2;exact⟨.int_str a t' b t,.int_str a t' b t⟩
  |_=>cases f2
 |str a=>
  obtain⟨t',rfl⟩:=q1
  cases z with
  |non=>cases q2;exact⟨.str_none a t',.str_none a t'⟩
  |bl b=>cases q2;exact⟨.str_bool a t' b,.str_bool a t' b⟩
  |int b=>obtain⟨t,rfl⟩:=q2;exact⟨.str_int a t' b t,.str_int a t' b t⟩
  |str b=>obtain⟨t,rfl⟩:=q2;exact⟨.str_str a t' b t,.str_str a t' b t⟩
  |_=>cases f2
 |_=>cases f1
theorem rc_at (I:Inv X pZ σ H s) (hB:O B) (k:Nat) (A:Around) (y z:PV) (x x':V) (u v:Value) (c:Bool)
  (r1:Rep B O H y x) (r2:Rep B O H z x') (q1:RelV x u) (q2:RelV x' v) (e:eqP (k+1) y z=some c) (hu:A.units+(k+1) < cLine):SeqAt.RcAt A s u v c∧SeqAt.RcNeAt A s u v (!c):=by
 have hu0:A.units < cLine:=by lia
 have hu1:A.in1.units+k < cLine:=by show A.units+1+k < cLine;lia
 by_cases f:flatP y=true∧flatP z=true
 ·rw[eqP_flat f.1 f.2] at e
  cases e
  rw[flat_rep r1 f.1] at q1
  rw[flat_rep r2 f.2] at q2
  exact rc_flat f.1 f.2 q1 q2
 cases r1 with
 | @lst p xs l hO h hl hr=>
  cases q1
  obtain⟨its,v1,p1,_⟩:=I.list (SqL.of (K:=X.K) h)
  cases r2 with
  | @lst p' xs' l' hO' h' hl' hr'=>
   cases q2
   obtain⟨its',v2,p2,_⟩:=I.list (SqL.of (K:=X.K) h')
   obtain⟨g,hg,hc⟩:=eqs_at e
   have e1:its.toArray.size=l.length:=by rw[List.size_toArray,←v1.length,hl]
   have e2:its'.toArray.size=l'.length:=by rw[List.size_toArray,←v2.length,hl']
   by_cases hs:l.length=l'.length
   ·have he: ∀ j (h1:j < its.toArray.size) (h2:j < its'.toArray.size),SeqAt.EqAt A.in1 s its.toArray[j] its'.toArray[j] (g j):=fun j h1 h2=>by
     have j1:j < l.length:=e1▸h1
     have j2:j < l'.length:=e2▸h2
     obtain⟨u1,a1,a2⟩:=v1.get (i:=j) (x:=xs[j]) (List.getElem?_eq_getElem _)
     obtain⟨u2,b1,b2⟩:=v2.get (i:=j) (x:=xs'[j]) (List.getElem?_eq_getElem _)
     have a3:its.toArray[j]=u1:=by
      have:=(List.getElem?_eq_some_iff.mp a1).2
      simpa using this
     have b3:its'.toArray[j]=u2:=by
      have:=(List.getElem?_eq_some_iff.mp b1).2
      simpa using this
     rw[a3,b3]
     exact eq_at I hB k A.in1 l[j] l'[j] _ _ _ _ _ (hr j _ _ (List.getElem?_eq_getElem j1) (List.getElem?_eq_getElem _)) (hr' j _ _ (List.getElem?_eq_getElem j2) (List.getElem?_eq_getElem _)) a2 b2 (hg j _ _ (List.getElem?_eq_getElem j1) (List.getElem?_eq_getElem j2)) hu1
    have h1:=SeqAt.RcAt.lists (A:=A) (e:=g) p1.isList p2.isList (by rw[e1,e2,hs]) hu0 he
    have h2:=SeqAt.RcNeAt.lists (A:=A) (e:=g) p1.isList p2.isList (by rw[e1,e2,hs]) hu0 he
    rw[hc,←hs,Nat.min_self,beq_self_eq_true,Bool.and_true,←e1];exact⟨h1,h2⟩
   ·have:c=false:=by rw[hc];simp[hs]
    rw[this]
    exact⟨SeqAt.RcAt.lists_lengths p1.isList p2.isList (by rw[e1,e2];simpa using hs) hu0,SeqAt.RcNeAt.lists_lengths p1.isList p2.isList (by rw[e1,e2];simpa using hs) hu0⟩
  | @tup p' xs' l' hO' h' hl' hr'=>
   cases q2
   obtain⟨its',v2,p2,_⟩:=I.tuple (SqT.of (K:=X.K) h')
   cases e
   exact⟨.list_tuple p1.isList p2 hu0,.list_tuple p1.isList p2 hu0⟩
  |non=>cases q2;cases e;exact⟨.list_none p1.isList hu0,.list_none p1.isList hu0⟩
  |bl b=>cases q2;cases e;exact⟨.list_bool b p1.isList hu0,.list_bool b p1.isList hu0⟩
  |int b=>obtain⟨t,rfl⟩:=q2;cases e;exact⟨.list_int b t p1.isList hu0,.list_int b t p1.isList hu0⟩
  |str b=>obtain⟨t,rfl⟩:=q2;cases e;exact⟨.list_str b t p1.isList hu0,.list_str b t p1.isList hu0⟩
  |_=>cases e
 | @tup p xs l hO h hl hr=>
  cases q1
  obtain⟨its,v1,p1,_⟩:=I.tuple (SqT.of (K:=X.K) h)
  cases r2 with
  | @tup p' xs' l' hO' h' hl' hr'=>
   cases q2
   obtain⟨its',v2,p2,_⟩:=I.tuple (SqT.of (K:=X.K) h')
   obtain⟨g,hg,hc⟩:=eqs_at e
   have e1:its.toArray.size=l.length:=by rw[List.size_toArray,←v1.length,hl]
   have e2:its'.toArray.size=l'.length:=by rw[List.size_toArray,←v2.length,hl']
   have he: ∀ j (h1:j < its.toArray.size) (h2:j < its'.toArray.size),SeqAt.EqAt A.in1 s its.toArray[j] its'.toArray[j] (g j):=fun j h1 h2=>by
    have j1:j < l.length:=e1▸h1
    have j2:j < l'.length:=e2▸h2
    obtain⟨u1,a1,a2⟩:=v1.get (i:=j) (x:=xs[j]) (List.getElem?_eq_getElem _)
    obtain⟨u2,b1,b2⟩:=v2.get (i:=j) (x:=xs'[j]) (List.getElem?_eq_getElem _)
    have a3:its.toArray[j]=u1:=by
     have:=(List.getElem?_eq_some_iff.mp a1).2
     simpa using this
    have b3:its'.toArray[j]=u2:=by
     have:=(List.getElem?_eq_some_iff.mp b1).2
     simpa using this
    rw[a3,b3]
    exact eq_at I hB k A.in1 l[j] l'[j] _ _ _ _ _ (hr j _ _ (List.getElem?_eq_getElem j1) (List.getElem?_eq_getElem _)) (hr' j _ _ (List.getElem?_eq_getElem j2) (List.getElem?_eq_getElem _)) a2 b2 (hg j _ _ (List.getElem?_eq_getElem j1) (List.getElem?_eq_getElem j2)) hu1
   have h1:=SeqAt.RcAt.tuples (A:=A) (e:=g) p1 p2 hu0 he
   have h2:=SeqAt.RcNeAt.tuples (A:=A) (e:=g) p1 p2 hu0 he
   rw[hc,←e1,←e2];exact⟨h1,h2⟩
  | @lst p' xs' l' hO' h' hl' hr'=>
   cases q2
   obtain⟨its',v2,p2,_⟩:=I.list (SqL.of (K:=X.K) h')
   cases e
   exact⟨.tuple_list p1 p2.isList hu0,.tuple_list p1 p2.isList hu0⟩
  |non=>cases q2;cases e;exact⟨.tuple_none p1 hu0,.tuple_none p1 hu0⟩
  |bl b=>cases q2;cases e;exact⟨.tuple_bool b p1 hu0,.tuple_bool b p1 hu0⟩
  |int b=>obtain⟨t,rfl⟩:=q2;cases e;exact⟨.tuple_int b t p1 hu0,.tuple_int b t p1 hu0⟩
  |str b=>obtain⟨t,rfl⟩:=q2;cases e;exact⟨.tuple_str b t p1 hu0,.tuple_str b t p1 hu0⟩
  |_=>cases e
 |non=>
  cases r2 with
  |lst a h' b c=>cases q1;cases q2;obtain⟨its',v2,p2,_⟩:=I.list (SqL.of (K:=X.K) h');cases e;exact⟨.none_list p2.isList hu0,.none_list p2.isList hu0⟩
  |tup a h' b c=>cases q1;cases q2;obtain⟨its',v2,p2,_⟩:=I.tuple (SqT.of (K:=X.K) h');cases e;exact⟨.none_tuple p2 hu0,.none_tuple p2 hu0⟩
  |_=>first|exact absurd ⟨rfl,rfl⟩ f|cases e
 |bl b=>
  cases r2 with
  |lst a h' _ c=>cases q1;cases q2;obtain⟨its',v2,p2,_⟩:=I.list (SqL.of (K:=X.K) h');cases e;exact⟨.bool_list b p2.isList hu0,.bool_list b p2.isList hu0⟩
  |tup a h' _ c=>cases q1;cases q2;obtain⟨its',v2,p2,_⟩:=I.tuple (SqT.of (K:=X.K) h');cases e;exact⟨.bool_tuple b p2 hu0,.bool_tuple b p2 hu0⟩
  |_=>first|exact absurd ⟨rfl,rfl⟩ f|cases e
 |int b=>
  cases r2 with
  |lst a h' _ c=>obtain⟨t,rfl⟩:=q1;cases q2;obtain⟨its',v2,p2,_⟩:=I.list (SqL.of (K:=X.K) h');cases e;exact⟨.int_list b t p2.isList hu0,.int_list b t p2.isList hu0⟩
  |tup a h' _ c=>obtain⟨t,rfl⟩:=q1;cases q2;obtain⟨its',v2,p2,_⟩:=I.tuple (SqT.of (K:=X.K) h');cases e;exact⟨.int_tuple b t p2 hu0,.int_tuple b t p2 hu0⟩
  |_=>first|exact absurd ⟨rfl,rfl⟩ f|cases e
 |str b=>
  cases r2 with
  |lst a h' _ c=>obtain⟨t,rfl⟩:=q1;cases q2;obtain⟨its',v2,p2,_⟩:=I.list (SqL.of (K:=X.K) h');cases e;exact⟨.str_list b t p2.isList hu0,.str_list b t p2.isList hu0⟩
  |tup a h' _ c=>obtain⟨t,rfl⟩:=q1;cases q2;obtain⟨its',v2,p2,_⟩:=I.tuple (SqT.of (K:=X.K) h');cases e;exact⟨.str_tuple b t p2 hu0,.str_tuple b t p2 hu0⟩
  |_=>first|exact absurd ⟨rfl,rfl⟩ f|cases e
 |_=>cases z<;>cases e
def rEqD (neg:Bool):R2:=fun x y H Q=> ∃ (B:Addr) (O:Addr→Prop) (a b:PV) (c:Bool),O B∧Rep B O H a x∧Rep B O H b y∧eqP 20 a b=some c∧Q (.bl (xor neg c)) H
theorem op_eqD (hU:X.A.units+64 < cLine):OpR X (compareOp .Eq) (rEqD false):=by
 intro pZ s σ H x y v u Q I rx ry h
 obtain⟨B,O,a,b,c,hB,r1,r2,e,q⟩:=h
 exact(rc_at I hB 19 X.A a b x y v u c r1 r2 rx ry e (by lia)).1 _ _ _ _ (fin_bl I q (by cases c<;>rfl))
theorem op_neD (hU:X.A.units+64 < cLine):OpR X (compareOp .NotEq) (rEqD true):=by
 intro pZ s σ H x y v u Q I rx ry h
 obtain⟨B,O,a,b,c,hB,r1,r2,e,q⟩:=h
 exact(rc_at I hB 19 X.A a b x y v u c r1 r2 rx ry e (by lia)).2 _ _ _ _ (fin_bl I q (by cases c<;>rfl))
end
def eqO (neg:Bool) (y z:PV):M PV:=(M.ofO (eqP 20 y z)).bind fun c=>.ret (.bl (xor neg c))
theorem ov_eq (neg:Bool):OpV (rEqD neg) (eqO neg):=fun φ G O H n R Q y z x x' pr dm ok r1 r2 w q=>by
 unfold eqO at w
 cases e:eqP 20 y z with
 |none=>rw[e] at w;exact w.elim
 |some c=>rw[e] at w;exact⟨G.B,G.priv,y,z,c,G.pB,r1.low pr,r2.low pr,e,q.sc ok (.bl _) w⟩
def numO (C:Int→Int→Prop) [∀ i j,Decidable (C i j)] (f:Int→Int→PV):PV→PV→M PV
 | .int i,.int j=>if C i j then .ret (f i j) else .fail
 |_,_=>.fail
theorem ov_num [∀ i j,Decidable (C i j)] (hf: ∀ B O H i j,Rep B O H (f i j) (g i j)):OpV (rI C g) (numO C f):=fun φ G O H n R Q y z x x' pr dm ok r1 r2 w q=>by
 cases y<;>cases z<;>first|exact w.elim|skip
 rename_i i j
 rw[r1.int_i,r2.int_i]
 unfold numO at w
 dsimp only at w
 by_cases hc:C i j
 ·rw[if_pos hc] at w;exact⟨i,j,rfl,rfl,hc,q.sc ok (hf _ _ _ _ _) w⟩
 ·rw[if_neg hc] at w;exact w.elim
def numB (f:Int→Int→Bool):PV→PV→M PV
 | .int i,.int j=>.ret (.bl (f i j))
 |_,_=>.fail
theorem ov_numB:OpV (rI0 fun i j=>.bl (f i j)) (numB f):=fun φ G O H n R Q y z x x' pr dm ok r1 r2 w q=>by
 cases y<;>cases z<;>first|exact w.elim|skip
 rename_i i j
 rw[r1.int_i,r2.int_i]
 exact⟨i,j,rfl,rfl,q.sc ok (.bl _) w⟩
def ltO:=numB fun i j=>decide (i < j)
def gtO:=numB fun i j=>decide (j < i)
def geO:=numB fun i j=>decide (j≤i)
theorem ov_lt:OpV (rI0 fun i j=>.bl (decide (i < j))) ltO:=ov_numB
theorem ov_gt:OpV (rI0 fun i j=>.bl (decide (j < i))) gtO:=ov_numB
def subO:PV→PV→M PV
 | .int i,.int j=>.ret (.int (i - j))
 |_,_=>.fail
theorem ov_sub:OpV (rI0 fun i j=>.int (i - j)) subO:=fun φ G O H n R Q y z x x' pr dm ok r1 r2 w q=>by
 cases y<;>cases z<;>first|exact w.elim|skip
 rename_i i j
 rw[r1.int_i,r2.int_i]
 exact⟨i,j,rfl,rfl,q.sc ok (.int _) w⟩
instance (i j:Int):Decidable (CMul i j):=by unfold CMul;infer_instance
instance (i j:Int):Decidable (CPow i j):=by unfold CPow;infer_instance
instance (i j:Int):Decidable (CDiv i j):=by unfold CDiv;infer_instance
def modO:=numO (fun _ j=>0 < j) fun i j=>.int (i % j)
def fdivO:=numO CDiv fun i j=>.int (i / j)
def powO:=numO CPow fun i j=>.int (i ^ j.toNat)
theorem ov_mod:OpV (rI (fun _ j=>0 < j) fun i j=>.int (i % j)) modO:=ov_num fun _ _ _ _ _=>.int _
theorem ov_fdiv:OpV (rI CDiv fun i j=>.int (i / j)) fdivO:=ov_num fun _ _ _ _ _=>.int _
theorem ov_pow:OpV (rI CPow fun i j=>.int (i ^ j.toNat)) powO:=ov_num fun _ _ _ _ _=>.int _
noncomputable def rAddD (K:PySem.W.Frag):R2:=fun x y H Q=>(rI0 fun i j=>.int (i+j)) x y H Q∨(∃ i j,x= .str i∧y= .str j∧i.length+j.length≤sizeLine∧Q (.str (i++j)) H)∨rCat x y H Q∨rCatT K x y H Q∨
 (∃ a b ys,x= .ref a∧y= .ref b∧H a=some (.tup [])∧H b=some (.tup ys)∧Q (.ref b) H)
theorem op_catT0:OpR X (binaryOp .Add) (fun x y H Q=> ∃ a b ys,x= .ref a∧y= .ref b∧H a=some (.tup [])∧H b=some (.tup ys)∧Q (.ref b) H):=by
 intro pZ s σ H x y v u Q I rx ry h
 obtain⟨a,b,ys,rfl,rfl,ha,hb,q⟩:=h
 cases rx
 cases ry
 obtain⟨its,r1,p1,_⟩:=I.tuple (SqT.of (K:=X.K) ha)
 obtain⟨its2,r2,p2,_⟩:=I.tuple (SqT.of (K:=X.K) hb)
 cases r1
 obtain⟨⟨cls,dd,data,sl⟩,ho,hc,n,hd⟩:=id p1
 obtain⟨⟨cls2,dd2,data2,sl2⟩,ho2,hc2,n2,hd2⟩:=id p2
 simp only at hc hd hc2 hd2
 subst hc hd hc2 hd2
 exact concat_meets ⟨_,ho,rfl⟩ ⟨_,ho2,rfl⟩ noFill_tuple_add seq_tuple_add PySem.F.slot_tuple_add PySem.F.entry_tuple_add (PySem.F.args_tuple_add_2 _ _)
   (tuple_addW0 a b _ its2.toArray n n2 dd dd2 sl sl2 rfl) ⟨ho,ho2,⟨.ref b,H,I,rfl,q⟩⟩
theorem op_addD:OpR X (binaryOp .Add) (rAddD X.K):=op_add.or (op_add_str.or (op_cat.or (op_catT.or op_catT0)))
noncomputable def addO:PV→PV→M PV
 | .int i,.int j=>.ret (.int (i+j))
 | .str i,.str j=>if i.length+j.length≤100000 then .ret (.str (i++j)) else .fail
 | .lst a,.lst b=>if a.length+b.length≤100000 then .ret (.lst (a++b)) else .fail
 | .tup a,.tup b=>if a.length+b.length≤100000 then .ret (.tup (a++b)) else .fail
 |_,_=>.fail
theorem ov_add {K:PySem.W.Frag}:OpV (rAddD K) addO:=fun φ G O H n R Q y z x x' pr dm ok r1 r2 w q=>by
 have hB:O G.B:=pr _ G.pB
 cases y<;>cases z<;>first|exact w.elim|skip
 ·rename_i i j
  rw[r1.int_i,r2.int_i]
  exact .inl ⟨i,j,rfl,rfl,q.sc ok (.int _) w⟩
 ·rename_i i j
  rw[r1.str_i,r2.str_i]
  unfold addO at w
  dsimp only at w
  by_cases hc:i.length+j.length≤100000
  ·rw[if_pos hc] at w;exact .inr (.inl ⟨i,j,rfl,rfl,Nat.le_trans hc big_le,q.sc ok (.str _) w⟩)
  ·rw[if_neg hc] at w;exact w.elim
 ·rename_i i j
  obtain⟨a,xs,rfl,h1,e1⟩:=r1.tup_i
  obtain⟨b,ys,rfl,h2,e2⟩:=r2.tup_i
  unfold addO at w
  dsimp only at w
  by_cases hc:i.length+j.length≤100000
  ·rw[if_pos hc] at w
   by_cases hn:i=[]
   ·subst hn
    rw[e1.nil_inv] at h1
    cases r2 with
    |full r2=>exact .inr (.inr (.inr (.inr ⟨a,b,ys,rfl,rfl,h1,h2,q.sc ok r2 w⟩)))
   ·refine .inr (.inr (.inr (.inl ⟨a,b,xs,ys,rfl,rfl,SqT.of h1,SqT.of h2,fun z=>hn ?_,Nat.le_trans (by rw[←e1.1,←e2.1];exact hc) big_le,fun hz=>?_,fun _ p hp=>q.tup ok dm hp hB (e1.append e2) w⟩)))
    ·subst z;exact List.eq_nil_of_length_eq_zero e1.1
    ·subst hz
     have:j=[]:=List.eq_nil_of_length_eq_zero e2.1
     subst this
     rw[List.append_nil] at w
     cases r1 with
     |full r1=>exact q.sc ok r1 w
  ·rw[if_neg hc] at w;exact w.elim
 ·rename_i i j
  obtain⟨a,xs,rfl,h1,e1⟩:=r1.lst_i
  obtain⟨b,ys,rfl,h2,e2⟩:=r2.lst_i
  unfold addO at w
  dsimp only at w
  by_cases hc:i.length+j.length≤100000
  ·rw[if_pos hc] at w
   exact .inr (.inr (.inl ⟨a,b,xs,ys,rfl,rfl,h1,h2,Nat.le_trans (by rw[←e1.1,←e2.1];exact hc) big_le,fun p hp=>q.lst ok dm hp hB (e1.append e2) w⟩))
  ·rw[if_neg hc] at w;exact w.elim
def repStr (i:Str) (k:Int):Str:=⟨(List.replicate k.toNat i.cps).foldl (· ++ ·) #[]⟩
def rRepS:R2:=fun x y H Q=> ∃ i k,x= .str i∧y= .int k∧(1 < k∧k < 1000∧0 < i.length∧i.length < 1000∧(repStr i k).length≤100000)∧Q (.str (repStr i k)) H
def rMulD:R2:=fun x y H Q=>rI CMul (fun i j=>.int (i * j)) x y H Q∨rRepS x y H Q∨rRep x y H Q
theorem op_repS:OpR X (binaryOp .Mult) rRepS:=by
 intro pZ s σ H x y v u Q I rx ry h
 obtain⟨i,k,rfl,rfl,⟨h1,h2,h3,h4,h5⟩,q⟩:=h
 obtain⟨t,rfl⟩:=rx
 obtain⟨t',rfl⟩:=ry
 have e1: ¬ k < -(2 ^ 63:Int):=by
  have:(2:Int) ^ 63=9223372036854775808:=by decide
  lia
 have e2: ¬ k ≥ 2 ^ 63:=by
  have:(2:Int) ^ 63=9223372036854775808:=by decide
  lia
 have hz:(i.length * k.toNat)≤1000000:=Nat.le_trans (Nat.mul_le_mul (Nat.le_of_lt h4) (by lia:k.toNat≤1000)) (by decide)
 have hne:(k==1||i.length==0)=false:=by
  simp only[Bool.or_eq_false_iff,beq_eq_false_iff_ne]
  exact⟨by lia,by lia⟩
 refine PySem.P.mul_str (by rw[decide_eq_false e1,decide_eq_false e2];rfl) (fun _ _ hgt=>?_) (fun _ _=>?_) ?_
 ·have:(i.length:Int)≤(2 ^ 63 - 1) / k:=by
   rw[Int.le_ediv_iff_mul_le (by lia)]
   have:(i.length:Int) * k≤1000 * 1000:=Int.mul_le_mul (by lia) (by lia) (by lia) (by lia)
   have e:(2:Int) ^ 63 - 1=9223372036854775807:=by decide
   lia
  lia
 ·have hs:sizeLine=16777216:=sizeLine_eq
  show decide (i.length * k.toNat > sizeLine)=false
  exact decide_eq_false (by lia)
 ·rw[if_neg (by lia),if_neg (by rw[hne];simp)]
  exact⟨Nat.le_trans h5 big_le,⟨.str (repStr i k),H,I.tok _,⟨_,rfl⟩,q⟩⟩
theorem op_mulD:OpR X (binaryOp .Mult) rMulD:=op_mul.or (op_repS.or op_rep)
noncomputable def mulO:PV→PV→M PV
 | .int i,.int j=>if CMul i j then .ret (.int (i * j)) else .fail
 | .str i,.int k=>if 1 < k∧k < 1000∧0 < i.length∧i.length < 1000∧(repStr i k).length≤100000 then .ret (.str (repStr i k)) else .fail
 | .lst l,.int k=>if -1000 < k∧k < 1000∧l.length * k.toNat≤100000 then .ret (.lst (List.replicate k.toNat l).flatten) else .fail
 |_,_=>.fail
theorem Reps.rep (h:Reps B O H l xs): ∀ k:Nat,Reps B O H (List.replicate k l).flatten (List.replicate k xs).flatten
 |0=>.nil
 |k+1=>by rw[List.replicate_succ,List.replicate_succ,List.flatten_cons,List.flatten_cons];exact h.append (Reps.rep h k)
theorem ov_mul:OpV rMulD mulO:=fun φ G O H n R Q y z x x' pr dm ok r1 r2 w q=>by
 have hB:O G.B:=pr _ G.pB
 cases y<;>cases z<;>first|exact w.elim|skip
 ·rename_i i j
  rw[r1.int_i,r2.int_i]
  unfold mulO at w
  dsimp only at w
  by_cases hc:CMul i j
  ·rw[if_pos hc] at w;exact .inl ⟨i,j,rfl,rfl,hc,q.sc ok (.int _) w⟩
  ·rw[if_neg hc] at w;exact w.elim
 ·rename_i i k
  rw[r1.str_i,r2.int_i]
  unfold mulO at w
  dsimp only at w
  by_cases hc:1 < k∧k < 1000∧0 < i.length∧i.length < 1000∧(repStr i k).length≤100000
  ·rw[if_pos hc] at w;exact .inr (.inl ⟨i,k,rfl,rfl,hc,q.sc ok (.str _) w⟩)
  ·rw[if_neg hc] at w;exact w.elim
 ·rename_i l k
  obtain⟨a,xs,rfl,h1,e1⟩:=r1.lst_i
  rw[r2.int_i]
  unfold mulO at w
  dsimp only at w
  by_cases hc: -1000 < k∧k < 1000∧l.length * k.toNat≤100000
  ·rw[if_pos hc] at w
   have e:(2:Int) ^ 63=9223372036854775808:=by decide
   exact .inr (.inr ⟨a,k,xs,rfl,rfl,h1,by lia,by lia,Nat.le_trans (by rw[←e1.1];exact hc.2.2) big_le,fun p hp=>q.lst ok dm hp hB (e1.rep _) w⟩)
  ·rw[if_neg hc] at w;exact w.elim
theorem RepB.flat_all {G:Bg φ}: ∀ {l:List PV} {xs:List V},Reps G.B O H l xs→l.all flatP=true→xs=l.map toV
 |[],xs,h,_=>h.nil_inv
 |y::l,xs,h,f=>by
  obtain⟨x,r,rfl,h1,h2⟩:=h.cons_inv
  rw[List.all_cons,Bool.and_eq_true] at f
  rw[List.map_cons,flat_rep h1 f.1,RepB.flat_all h2 f.2]
def rInD (K:PySem.W.Frag) (neg:Bool):R2:=fun x y H Q=>rIn K neg x y H Q∨∃ i j,x= .str i∧y= .str j∧Q (.bl (xor neg (!(Builtin.Str.occurrences j i 0 j.length 1).isEmpty))) H
theorem op_inD:OpR X (compareOp .In) (rInD X.K false):=by
 intro pZ s σ H x y v u Q I rx ry h
 rcases h with h|⟨i,j,h1,h2,q⟩
 ·exact op_in_seq pZ s σ H x y v u Q I rx ry h
 ·exact op_in_str pZ s σ H x y v u Q I rx ry ⟨i,j,h1,h2,by simpa using q⟩
theorem op_notInD:OpR X (compareOp .NotIn) (rInD X.K true):=by
 intro pZ s σ H x y v u Q I rx ry h
 rcases h with h|⟨i,j,h1,h2,q⟩
 ·exact op_notIn_seq pZ s σ H x y v u Q I rx ry h
 ·exact op_notIn_str pZ s σ H x y v u Q I rx ry ⟨i,j,h1,h2,by simpa using q⟩
def memF (y:PV) (l:List PV):Bool:=l.any fun z=>eqV (toV z) (toV y)
noncomputable def inO (neg:Bool):PV→PV→M PV
 | .str i,.str j=>.ret (.bl (xor neg (!(Builtin.Str.occurrences j i 0 j.length 1).isEmpty)))
 |y,.lst l=>if flatP y&&l.all flatP then .ret (.bl (xor neg (memF y l))) else .fail
 |y,.tup l=>if flatP y&&l.all flatP then .ret (.bl (xor neg (memF y l))) else .fail
 |_,_=>.fail
theorem inV_map (y:PV) (l:List PV):inV (toV y) (l.map toV)=memF y l:=by unfold inV memF;rw[List.any_map];rfl
theorem ov_in {K:PySem.W.Frag} (neg:Bool):OpV (rInD K neg) (inO neg):=fun φ G O H n R Q y z x x' pr dm ok r1 r2 w q=>by
 cases z with
 |lst l=>
  have w':(if(flatP y&&l.all flatP)=true then M.ret (.bl (xor neg (memF y l))) else M.fail:M PV).wp n R:=by cases y<;>exact w
  by_cases hc:(flatP y&&l.all flatP)=true
  ·rw[if_pos hc] at w'
   rw[Bool.and_eq_true] at hc
   obtain⟨p,xs,rfl,h1,e1⟩:=r2.lst_i
   have e2:=RepB.flat_all e1 hc.2
   rw[flat_repB r1 hc.1]
   refine .inl ⟨p,xs,rfl,.inl (SqL.of h1),hc.1,?_,?_⟩
   ·rw[e2,List.all_map];exact hc.2
   ·rw[e2,inV_map];cases neg<;>simpa using q.sc ok (.bl _) w'
  ·rw[if_neg hc] at w';exact w'.elim
 |tup l=>
  have w':(if(flatP y&&l.all flatP)=true then M.ret (.bl (xor neg (memF y l))) else M.fail:M PV).wp n R:=by cases y<;>exact w
  by_cases hc:(flatP y&&l.all flatP)=true
  ·rw[if_pos hc] at w'
   rw[Bool.and_eq_true] at hc
   obtain⟨p,xs,rfl,h1,e1⟩:=r2.tup_i
   have e2:=RepB.flat_all e1 hc.2
   rw[flat_repB r1 hc.1]
   refine .inl ⟨p,xs,rfl,.inr (SqT.of h1),hc.1,?_,?_⟩
   ·rw[e2,List.all_map];exact hc.2
   ·rw[e2,inV_map];cases neg<;>simpa using q.sc ok (.bl _) w'
  ·rw[if_neg hc] at w';exact w'.elim
 |str j=>
  cases y<;>first|exact w.elim|skip
  rename_i i
  rw[r1.str_i,r2.str_i]
  exact .inr ⟨i,j,rfl,rfl,q.sc ok (.bl _) w⟩
 |_=>cases y<;>exact w.elim
def isN:PV→Bool
 | .non=>true
 |_=>false
def isO (neg:Bool) (y z:PV):M PV:=match z with| .non=>.ret (.bl (xor neg (isN y)))|_=>.fail
theorem isN_rep (r:RepB G O H y x):decide (x= .non)=isN y:=by
 cases r with
 |full h=>cases h<;>rfl
 |top _ _ _=>rfl
 |topD _ _ _=>rfl
theorem ov_notN:OpV (fun x y H Q=>y= .non∧Q (.bl (!decide (x= .non))) H) (isO true):=fun φ G O H n R Q y z x x' pr dm ok r1 r2 w q=>by
 cases z<;>first|exact w.elim|skip
 refine⟨r2.non_i,q.sc ok (y:=.bl (!isN y)) (by rw[isN_rep r1];exact .bl _) ?_⟩
 have w':R (.bl (xor true (isN y))) n:=w
 simpa using w'
def leS (i j:Str):Bool:=!decide (j.cps.toList < i.cps.toList)
def rLeD:R2:=fun x y H Q=>(rI0 fun i j=>.bl (decide (i≤j))) x y H Q∨∃ i j,x= .str i∧y= .str j∧Q (.bl (!decide (j.cps.toList < i.cps.toList))) H
theorem op_leD:OpR X (compareOp .LtE) rLeD:=op_le.or op_le_str
def leOD:PV→PV→M PV
 | .int i,.int j=>.ret (.bl (decide (i≤j)))
 | .str i,.str j=>.ret (.bl (leS i j))
 |_,_=>.fail
theorem ov_leD:OpV rLeD leOD:=fun φ G O H n R Q y z x x' pr dm ok r1 r2 w q=>by
 cases y<;>cases z<;>first|exact w.elim|skip
 ·rename_i i j
  rw[r1.int_i,r2.int_i]
  exact .inl ⟨i,j,rfl,rfl,q.sc ok (.bl _) w⟩
 ·rename_i i j
  rw[r1.str_i,r2.str_i]
  exact .inr ⟨i,j,rfl,rfl,q.sc ok (.bl _) w⟩
theorem atI_reps (h:Reps B O H l xs) (e:atI l i=some y): ∃ x,atI xs i=some x∧Rep B O H y x:=by
 unfold atI at e ⊢
 rw[←h.1]
 cases q:ixN l.length i with
 |none=>rw[q] at e;cases e
 |some j=>rw[q] at e;exact h.at e
noncomputable def ixO:PV→PV→M PV
 | .lst l,.int i=>.ofO (atI l i)
 | .tup l,.int i=>.ofO (atI l i)
 | .str z,.int i=>if z.length≤100000 then(M.ofO (atI z.cps.toList i)).bind fun c=>.ret (.str ⟨#[c]⟩) else .fail
 |_,_=>.fail
theorem ov_ix {K:PySem.W.Frag}:OpV (rIx K) ixO:=fun φ G O H n R Q y z x x' pr dm ok r1 r2 w q=>by
 cases y<;>cases z<;>first|exact w.elim|skip
 ·rename_i s i
  rw[r1.str_i,r2.int_i]
  unfold ixO at w
  dsimp only at w
  by_cases hc:s.length≤100000
  ·rw[if_pos hc] at w
   cases e:atI s.cps.toList i with
   |none=>rw[e] at w;exact w.elim
   |some c=>rw[e] at w;exact .inr (.inr ⟨s,i,c,rfl,rfl,Nat.le_trans hc big_le,e,q.sc ok (.str _) w⟩)
  ·rw[if_neg hc] at w;exact w.elim
 ·rename_i l i
  obtain⟨p,xs,rfl,h1,e1⟩:=r1.tup_i
  rw[r2.int_i]
  unfold ixO at w
  dsimp only at w
  cases e:atI l i with
  |none=>rw[e] at w;exact w.elim
  |some y=>
   rw[e] at w
   obtain⟨v,a,b⟩:=atI_reps e1 e
   exact .inr (.inl ⟨p,xs,i,v,rfl,rfl,SqT.of h1,a,q.sc ok b w⟩)
 ·rename_i l i
  obtain⟨p,xs,rfl,h1,e1⟩:=r1.lst_i
  rw[r2.int_i]
  unfold ixO at w
  dsimp only at w
  cases e:atI l i with
  |none=>rw[e] at w;exact w.elim
  |some y=>
   rw[e] at w
   obtain⟨v,a,b⟩:=atI_reps e1 e
   exact .inl ⟨p,xs,i,v,rfl,rfl,SqL.of h1,a,q.sc ok b w⟩
end
section
variable {φ:Fam}
section
variable {X:Cx} {e:Expr} {es:List Expr} {me:PEnv→M PV} {ml:PEnv→M (List PV)}
theorem BA.mono (h:BA X es t) (f: ∀ σ H Q,t' σ H Q→t σ H Q):BA X es t':=⟨fun pos pZ s σ H Q I q=>h.out pos pZ s σ H Q I (f σ H Q q)⟩
def consA (me:PEnv→M PV) (ml:PEnv→M (List PV)):PEnv→M (List PV):=fun ρ=>(me ρ).bind fun y=>(ml ρ).bind fun l=>.ret (y::l)
theorem av_nil:AV φ X [] (fun _=>.ret []):=BA.mono ⟨pa_nil⟩ fun σ H Q ⟨G,O,ρ,n,R,s,w,q⟩=>q [] [] H n (Ext.refl _ _) s.ok .nil w
theorem av_cons (h:EV φ X e me) (t:AV φ X es ml) (hs:isStar e=false:=by rfl):AV φ X (e::es) (consA me ml):=BA.mono ⟨pa_c h.out t.out hs⟩ fun σ H Q hq0=>by
 obtain⟨G,O,ρ,n,R,s,w,q⟩:=hq0
 unfold consA at w
 rw[M.wZ] at w
 refine⟨G,O,ρ,n,_,s,w,fun y x H1 n1 e1 ok1 r1 w1=>?_⟩
 rw[M.wZ] at w1
 exact⟨G,O,ρ,n1,_,s.ext e1 ok1,w1,fun l xs H2 n2 e2 ok2 r2 w2=>q (y::l) (x::xs) H2 n2 (e1.trans e2) ok2 (.cons (r1.ext s.B e2) r2) w2⟩
theorem RepBs.nil:RepBs G O H [] []:=⟨rfl,fun i y x a=>by simp at a⟩
theorem RepBs.cons {G:Bg φ} {O:Addr→Prop} {H:Hp} {y:PV} {x:V} {l:List PV} {xs:List V} (h:RepB G O H y x) (t:RepBs G O H l xs):RepBs G O H (y::l) (x::xs):=⟨by simp[t.1],fun i y' x' a b=>by
 cases i with
 |zero=>simp at a b;subst a b;exact h
 |succ i=>simp at a b;exact t.2 i y' x' a b⟩
theorem RepBs.nil_inv (h:RepBs G O H [] xs):xs=[]:=List.eq_nil_of_length_eq_zero h.1.symm
theorem RepBs.cons_inv (h:RepBs G O H (y::l) xs): ∃ x r,xs=x::r∧RepB G O H y x∧RepBs G O H l r:=by
 cases xs with
 |nil=>have:=h.1;simp at this
 |cons x r=>exact⟨x,r,rfl,h.2 0 y x rfl rfl,by simpa using h.1,fun i y' x' a b=>h.2 (i+1) y' x' (by simpa using a) (by simpa using b)⟩
theorem RepBs.one (h:RepBs G O H [y] xs): ∃ x,xs=[x]∧RepB G O H y x:=by
 obtain⟨x,r,rfl,a,b⟩:=h.cons_inv
 rw[b.nil_inv];exact⟨x,rfl,a⟩
theorem ab_nil:AB φ X [] (fun _=>.ret []):=BA.mono ⟨pa_nil⟩ fun σ H Q ⟨G,O,ρ,n,R,s,w,q⟩=>q [] [] H n (Ext.refl _ _) s.ok .nil w
theorem ab_cons (h:EB φ X e me) (t:AB φ X es ml) (hs:isStar e=false:=by rfl):AB φ X (e::es) (consA me ml):=BA.mono ⟨pa_c h.out t.out hs⟩ fun σ H Q hq0=>by
 obtain⟨G,O,ρ,n,R,s,w,q⟩:=hq0
 unfold consA at w
 rw[M.wZ] at w
 refine⟨G,O,ρ,n,_,s,w,fun y x H1 n1 e1 ok1 r1 w1=>?_⟩
 rw[M.wZ] at w1
 exact⟨G,O,ρ,n1,_,s.ext e1 ok1,w1,fun l xs H2 n2 e2 ok2 r2 w2=>q (y::l) (x::xs) H2 n2 (e1.trans e2) ok2 (.cons (r1.ext s.B e2) r2) w2⟩
def mkTup (l:List PV):M PV:=if l.length≤100000 then .ret (.tup l) else .fail
def mkLst (l:List PV):M (List PV):=if l.length≤100000 then .ret l else .fail
theorem ev_tup (h:AV φ X es ml):EV φ X (.Tuple es k pos) (fun ρ=>(ml ρ).bind mkTup):=BE.mono ⟨pe_tup h.out⟩ fun σ H Q hq0=>by
 obtain⟨G,O,ρ,n,R,s,w,q⟩:=hq0
 rw[M.wZ] at w
 refine⟨G,O,ρ,n,_,s,w,fun l xs H1 n1 e1 ok1 r1 w1=>?_⟩
 unfold mkTup at w1
 by_cases hc:l.length≤100000
 ·rw[if_pos hc] at w1
  refine⟨Nat.le_trans (by rw[←r1.1];exact hc) big_le,fun p hp=>?_⟩
  have q':Wish G O H1 R Q:=fun y x H' n' e o r h=>q y x H' n' (e1.trans e) o r h
  exact q'.tup ok1 (s.ext e1 ok1).dm hp s.B r1 w1
 ·rw[if_neg hc] at w1;exact w1.elim
theorem ef_lst (h:AV φ X es ml):EF φ X (.List es pos) (fun ρ=>(ml ρ).bind mkLst):=BE.mono ⟨pe_lst h.out⟩ fun σ H Q hq0=>by
 obtain⟨G,O,ρ,n,R,s,w,q⟩:=hq0
 rw[M.wZ] at w
 refine⟨G,O,ρ,n,_,s,w,fun l xs H1 n1 e1 ok1 r1 w1=>?_⟩
 unfold mkLst at w1
 by_cases hc:l.length≤100000
 ·rw[if_pos hc] at w1
  refine⟨Nat.le_trans (by rw[←r1.1];exact hc) big_le,fun p hp=>?_⟩
  have e2:=Ext.new (B:=G.B) hp (.lst xs)
  refine q l p xs _ n1 (e1.trans e2) (Bg.new ok1 hp _) ?_ upd_same ((r1.grow fun q z=>by
   rcases z with z|z
   ·exact .inl z
   ·subst z;exact .inr hp).ext (.inl s.B) e2) w1
  cases hh:H p with
  |none=>rfl
  |some o=>
   by_cases pb:p=G.B
   ·subst pb;obtain⟨o',g⟩:=G.dom _ _ _ ok1 G.pB;rw[hp] at g;cases g
   ·obtain⟨_,this⟩:=(e1 p o pb hh).there;rw[hp] at this;cases this
 ·rw[if_neg hc] at w1;exact w1.elim
theorem new_before {G:Bg φ} (e1:Ext G.B H H1) (ok1:G.ok H1 n) (hp:H1 p=none):H p=none:=by
 cases hh:H p with
 |none=>rfl
 |some o=>
  by_cases pb:p=G.B
  ·subst pb;obtain⟨o',g⟩:=G.dom _ _ _ ok1 G.pB;rw[hp] at g;cases g
  ·obtain⟨_,this⟩:=(e1 p o pb hh).there;rw[hp] at this;cases this
def CallV (r:List V→Hp→VK→Prop) (op:List PV→M PV):Prop:= ∀ (φ:Fam) (G:Bg φ) (O:Addr→Prop) (H:Hp) (n:Nat) (R:PV→Nat→Prop) (Q:VK) (l:List PV) (xs:List V),
 (∀ p,G.priv p→O p)→(∀ p,O p→∃ o,H p=some o)→G.ok H n→RepBs G O H l xs→(op l).wp n R→Wish G O H R Q→r xs H Q
theorem ev_callB (h:BE X e (tCB r (taB φ ml))) (hv:CallV r op):EV φ X e (fun ρ=>(ml ρ).bind op):=BE.mono h fun σ H Q hq0=>by
 obtain⟨G,O,ρ,n,R,s,w,q⟩:=hq0
 rw[M.wZ] at w
 exact⟨G,O,ρ,n,_,s,w,fun l xs H1 n1 e1 ok1 r1 w1=>hv φ G O H1 n1 R Q l xs s.pr (s.ext e1 ok1).dm ok1 r1 w1 fun y x H' n' e o r h=>q y x H' n' (e1.trans e) o r h⟩
def CallF (r:List V→Hp→VK→Prop) (op:List PV→M (List PV)):Prop:= ∀ (φ:Fam) (G:Bg φ) (O:Addr→Prop) (H:Hp) (n:Nat) (R:List PV→Nat→Prop) (Q:VK) (l:List PV) (xs:List V),
 (∀ p,G.priv p→O p)→(∀ p,O p→∃ o,H p=some o)→G.ok H n→RepBs G O H l xs→(op l).wp n R→WishF G O H R Q→r xs H Q
theorem ef_callB (h:BE X e (tCB r (taB φ ml))) (hv:CallF r op):EF φ X e (fun ρ=>(ml ρ).bind op):=BE.mono h fun σ H Q hq0=>by
 obtain⟨G,O,ρ,n,R,s,w,q⟩:=hq0
 rw[M.wZ] at w
 exact⟨G,O,ρ,n,_,s,w,fun l xs H1 n1 e1 ok1 r1 w1=>hv φ G O H1 n1 R Q l xs s.pr (s.ext e1 ok1).dm ok1 r1 w1 fun z p ys H' n' e o hp a b h=>q z p ys H' n' (e1.trans e) o (new_before e1 ok1 hp) a b h⟩
noncomputable def lenO:List PV→M PV
 |[.str z]=>if z.length≤100000 then .ret (.int z.length) else .fail
 |[.lst l]=>.ret (.int l.length)
 |[.tup l]=>.ret (.int l.length)
 |[.scr l]=>.ret (.int l.length)
 |[.dct l]=>.ret (.int l.length)
 |_=>.fail
def rLenD (K:PySem.W.Frag):List V→Hp→VK→Prop:=fun xs H Q=>(∃ x n,xs=[x]∧LenV K x H n∧Q (.int n) H)∨∃ a kvs,xs=[.ref a]∧Rd H a (.dK kvs)∧Q (.int kvs.length) H
theorem call_lenDD:CallR X (.builtin "len") (rLenD X.K):=by
 intro pZ s σ H xs us Q I r h
 rcases h with h|⟨a,kvs,rfl,h,q⟩
 ·exact call_len pZ s σ H xs us Q I r h
 ·obtain⟨u,rfl,rx⟩:=vals1 r
  cases rx
  exact d_len I h fun t s' I'=>⟨.int kvs.length,H,I',⟨_,rfl⟩,q⟩
theorem cv_len {K:PySem.W.Frag}:CallV (rLenD K) lenO:=fun φ G O H n R Q l xs pr dm ok r w q=>by
 match l,r,w with
 |[.str z],r,w=>
  obtain⟨x,ex,r1⟩:=r.one;subst ex;clear r;have r:=r1;clear r1
  rw[r.str_i]
  unfold lenO at w
  dsimp only at w
  by_cases hc:z.length≤100000
  ·rw[if_pos hc] at w;exact .inl ⟨_,_,rfl,⟨Nat.le_trans hc big_le,rfl⟩,q.sc ok (.int _) w⟩
  ·rw[if_neg hc] at w;exact w.elim
 |[.lst z],r,w=>
  obtain⟨x,ex,r1⟩:=r.one;subst ex;clear r;have r:=r1;clear r1
  obtain⟨p,xs,rfl,h,e⟩:=r.lst_i
  exact .inl ⟨_,_,rfl,.inl ⟨xs,SqL.of h,rfl⟩,q.sc ok (y:=.int z.length) (by rw[e.1];exact .int _) w⟩
 |[.tup z],r,w=>
  obtain⟨x,ex,r1⟩:=r.one;subst ex;clear r;have r:=r1;clear r1
  obtain⟨p,xs,rfl,h,e⟩:=r.tup_i
  exact .inl ⟨_,_,rfl,.inr ⟨xs,SqT.of h,rfl⟩,q.sc ok (y:=.int z.length) (by rw[e.1];exact .int _) w⟩
 |[.scr z],r,w=>
  obtain⟨x,ex,r1⟩:=r.one;subst ex;clear r;have r:=r1;clear r1
  obtain⟨p,o,rfl,h⟩:=r.scr_i
  exact .inl ⟨_,_,rfl,.inl ⟨_,.inl (.inr ⟨o,h⟩),rfl⟩,q.sc ok (y:=.int z.length) (by rw[List.length_map];exact .int _) w⟩
 |[.dct z],r,w=>
  obtain⟨x,ex,r1⟩:=r.one;subst ex;clear r;have r:=r1;clear r1
  obtain⟨p,ks,rfl,h,e⟩:=r.dct_i
  have e1:z.length=ks.length:=by simpa using congrArg List.length e.1
  exact .inr ⟨p,ks,rfl,h,q.sc ok (y:=.int z.length) (by rw[e1];exact .int _) w⟩
def blsOf:List PV→Option (List Bool)
 |[]=>some []
 | .bl b::r=>(blsOf r).map (b:: ·)
 |_=>none
theorem bls_rep: ∀ {l:List PV} {xs:List V} {bs:List Bool},Reps B O H l xs→blsOf l=some bs→xs=bs.map V.bl
 |[],xs,bs,h,e=>by simp[blsOf] at e;subst e;exact h.nil_inv
 |y::l,xs,bs,h,e=>by
  cases y<;>simp[blsOf] at e
  obtain⟨bs',e1,rfl⟩:=e
  obtain⟨x,r,rfl,h1,h2⟩:=h.cons_inv
  cases h1
  rw[List.map_cons,bls_rep h2 e1]
def allO:List PV→M PV
 |[.lst l]=>(M.ofO (blsOf l)).bind fun bs=>.ret (.bl (bs.all id))
 |_=>.fail
theorem cv_all {K:PySem.W.Frag}:CallV (fun xs H Q=> ∃ (p:Addr) (bs:List Bool),xs=[.ref p]∧SqL K H p (bs.map V.bl)∧Q (.bl (bs.all id)) H) allO:=fun φ G O H n R Q l xs pr dm ok r w q=>by
 match l,r,w with
 |[.lst z],r,w=>
  obtain⟨x,ex,r1⟩:=r.one;subst ex;clear r;have r:=r1;clear r1
  obtain⟨p,xs,rfl,h,e⟩:=r.lst_i
  unfold allO at w
  dsimp only at w
  cases eb:blsOf z with
  |none=>rw[eb] at w;exact w.elim
  |some bs=>rw[eb] at w;rw[bls_rep e eb] at h;exact⟨p,bs,rfl,SqL.of h,q.sc ok (.bl _) w⟩
def tupO:List PV→M PV
 |[.lst l]=>.ret (.tup l)
 |[.tup l]=>.ret (.tup l)
 |_=>.fail
theorem cv_tup {K:PySem.W.Frag}:CallV (fun xs H Q=> ∃ p ys,xs=[.ref p]∧((SqL K H p ys∧∀ l,H l=none→Q (.ref l) (upd H l (.tup ys)))∨(SqT K H p ys∧Q (.ref p) H))) tupO:=fun φ G O H n R Q l xs pr dm ok r w q=>by
 match l,r,w with
 |[.lst z],r,w=>
  obtain⟨x,ex,r1⟩:=r.one;subst ex;clear r;have r:=r1;clear r1
  obtain⟨p,xs,rfl,h,e⟩:=r.lst_i
  exact⟨p,xs,rfl,.inl ⟨SqL.of h,fun l hl=>q.tup ok dm hl (pr _ G.pB) e w⟩⟩
 |[.tup z],r,w=>
  obtain⟨x,ex,r1⟩:=r.one;subst ex;clear r;have r:=r1;clear r1
  obtain⟨p,xs,rfl,h,e⟩:=r.tup_i
  cases r with
  |full r=>exact⟨p,xs,rfl,.inr ⟨SqT.of h,q.sc ok r w⟩⟩
def lstO:List PV→M (List PV)
 |[.lst l]=>.ret l
 |[.tup l]=>.ret l
 |_=>.fail
theorem cf_lst {K:PySem.W.Frag}:CallF (fun xs H Q=> ∃ p ys,xs=[.ref p]∧(SqL K H p ys∨SqT K H p ys)∧∀ l,H l=none→Q (.ref l) (upd H l (.lst ys))) lstO:=fun φ G O H n R Q l xs pr dm ok r w q=>by
 match l,r,w with
 |[.lst z],r,w=>
  obtain⟨x,ex,r1⟩:=r.one;subst ex;clear r;have r:=r1;clear r1
  obtain⟨p,xs,rfl,h,e⟩:=r.lst_i
  exact⟨p,xs,rfl,.inl (SqL.of h),fun l hl=>q.mk ok hl (pr _ G.pB) e w⟩
 |[.tup z],r,w=>
  obtain⟨x,ex,r1⟩:=r.one;subst ex;clear r;have r:=r1;clear r1
  obtain⟨p,xs,rfl,h,e⟩:=r.tup_i
  exact⟨p,xs,rfl,.inr (SqT.of h),fun l hl=>q.mk ok hl (pr _ G.pB) e w⟩
noncomputable def tyN:PV→Option String
 | .non=>some "NoneType"
 | .bl _=>some "bool"
 | .int _=>some "int"
 | .str _=>some "str"
 | .tup _=>some "tuple"
 | .lst _=>some "list"
 | .scr _=>some "list"
 | .dct _=>some "dict"
 | .bag=>none
def inst (T:String) (t:String):Bool:=t==T||(t=="bool"&&T=="int")
def isiO (T:String) (y:PV):M PV:=(M.ofO (tyN y)).bind fun t=>.ret (.bl (inst T t))
def KitOk (T:String):Prop:= ∀ (K:PySem.W.Frag) (t:String),t∈["NoneType","bool","int","str","tuple","list","dict"]→PySem.W.kitOne K (.type t) (.type T)=some (inst T t)
theorem kit_str:KitOk "str":=fun K t h=>by
 simp only[List.mem_cons,List.not_mem_nil,or_false] at h
 rcases h with rfl|rfl|rfl|rfl|rfl|rfl|rfl<;>rfl
theorem kit_int:KitOk "int":=fun K t h=>by
 simp only[List.mem_cons,List.not_mem_nil,or_false] at h
 rcases h with rfl|rfl|rfl|rfl|rfl|rfl|rfl<;>rfl
theorem kit_bool:KitOk "bool":=fun K t h=>by
 simp only[List.mem_cons,List.not_mem_nil,or_false] at h
 rcases h with rfl|rfl|rfl|rfl|rfl|rfl|rfl<;>rfl
theorem kit_tuple:KitOk "tuple":=fun K t h=>by
 simp only[List.mem_cons,List.not_mem_nil,or_false] at h
 rcases h with rfl|rfl|rfl|rfl|rfl|rfl|rfl<;>rfl
theorem tyOf_rep {K:PySem.W.Frag} {G:Bg φ} {O:Addr→Prop} {H:Hp} {y:PV} {x:V} {t:String} (r:RepB G O H y x) (e:tyN y=some t):TyOf K H x (.type t)∧t∈["NoneType","bool","int","str","tuple","list","dict"]:=by
 cases y with
 |non=>cases e;rw[r.non_i];exact⟨.non,by decide⟩
 |bl b=>cases e;rw[r.bl_i];exact⟨.bl b,by decide⟩
 |int i=>cases e;rw[r.int_i];exact⟨.int i,by decide⟩
 |str z=>cases e;rw[r.str_i];exact⟨.str z,by decide⟩
 |tup l=>cases e;obtain⟨p,xs,rfl,h,_⟩:=r.tup_i;exact⟨.tup h,by decide⟩
 |lst l=>cases e;obtain⟨p,xs,rfl,h,_⟩:=r.lst_i;exact⟨.lst h,by decide⟩
 |dct l=>cases e;obtain⟨p,xs,rfl,h,_⟩:=r.dct_i;exact⟨.dK h,by decide⟩
 |scr l=>cases e;obtain⟨p,o,rfl,h⟩:=r.scr_i;exact⟨.frz h,by decide⟩
 |bag=>cases e
theorem ev_isi {e:Expr} {T:String} {ma:PEnv→M PV} (h:BE X e (tCB (fun xs H Q=> ∃ x T t b,xs=[x,.ty T]∧TyOf X.K H x t∧PySem.W.kitOne X.K t (.type T)=some b∧Q (.bl b) H) (tCons (teB φ ma) (tCons (tC (.ty T)) tNil)))) (hk:KitOk T):EV φ X e (fun ρ=>(ma ρ).bind (isiO T)):=BE.mono h fun σ H Q hq0=>by
 obtain⟨G,O,ρ,n,R,s,w,q⟩:=hq0
 rw[M.wZ] at w
 refine⟨G,O,ρ,n,_,s,w,fun y x H1 n1 e1 ok1 r1 w1=>?_⟩
 unfold isiO at w1
 cases et:tyN y with
 |none=>rw[et] at w1;exact w1.elim
 |some t=>
  rw[et] at w1
  obtain⟨a1,a2⟩:=tyOf_rep (K:=X.K) r1 et
  exact⟨x,T,_,_,rfl,a1,hk X.K t a2,q _ _ _ _ e1 ok1 (.bl _) w1⟩
end
end
section
variable {φ:Fam}
noncomputable def spP (φ:Fam) (f:List PV→M PV):Sp:=fun vs H Q _=> ∃ (G:Bg φ) (O:Addr→Prop) (l:List PV) (n:Nat) (R:PV→Nat→Prop),(∀ p,G.priv p→O p)∧(∀ p,O p→∃ o,H p=some o)∧G.ok H n∧Reps G.B O H l vs∧(f l).wp n R∧Wish G O H R Q
section
variable {X:Cx} {e:Expr} {es:List Expr} {ml:PEnv→M (List PV)} {f:List PV→M PV}
theorem ev_call (h:BE X e (tCall (spP φ f) [] E0 (taP φ ml))):EV φ X e (fun ρ=>(ml ρ).bind f):=BE.mono h fun σ H Q hq0=>by
 obtain⟨G,O,ρ,n,R,s,w,q⟩:=hq0
 rw[M.wZ] at w
 refine⟨G,O,ρ,n,_,s,w,fun l xs H1 n1 e1 ok1 r1 w1=>?_⟩
 show spP φ f (xs++[]) H1 Q E0
 rw[List.append_nil]
 exact⟨G,O,l,n1,R,s.pr,(s.ext e1 ok1).dm,ok1,r1,w1,fun y x H' n' e o r h=>q y x H' n' (e1.trans e) o r h⟩
def SlV (r:V→Option Int→Option Int→Hp→VK→Prop) (op:PV→Option Int→Option Int→M PV):Prop:= ∀ (φ:Fam) (G:Bg φ) (O:Addr→Prop) (H:Hp) (n:Nat) (R:PV→Nat→Prop) (Q:VK) (y:PV) (lo hi:Option Int) (x:V),
 (∀ p,G.priv p→O p)→(∀ p,O p→∃ o,H p=some o)→G.ok H n→RepB G O H y x→(op y lo hi).wp n R→Wish G O H R Q→r x lo hi H Q
def WishO (G:Bg φ) (H:Hp) (R:Option Int→Nat→Prop) (Q:Option Int→Hp→Prop):Prop:= ∀ (o:Option Int) (H':Hp) (n':Nat),Ext G.B H H'→G.ok H' n'→R o n'→Q o H'
def toP (φ:Fam) (m:PEnv→M (Option Int)):TO:=fun σ H Q=> ∃ (G:Bg φ) (O:Addr→Prop) (ρ:PEnv) (n:Nat) (R:Option Int→Nat→Prop),ES G O H σ ρ n∧(m ρ).wp n R∧WishO G H R Q
def OV (φ:Fam) (X:Cx) (e:Option Expr) (m:PEnv→M (Option Int)):Prop:=BO X e (toP φ m)
theorem BO.mono {e:Option Expr} {t t':TO} (h:BO X e t) (f: ∀ σ H Q,t' σ H Q→t σ H Q):BO X e t':=⟨fun pZ s σ H Q I q=>h.out pZ s σ H Q I (f σ H Q q)⟩
theorem ov_none:OV φ X none (fun _=>.ret none):=BO.mono ⟨po_none⟩ fun σ H Q ⟨G,O,ρ,n,R,s,w,q⟩=>q none H n (Ext.refl _ _) s.ok w
def intM:PV→M Int
 | .int i=>.ret i
 |_=>.fail
theorem ov_some (h:EB φ X e m):OV φ X (some e) (fun ρ=>(m ρ).bind fun y=>(intM y).bind fun i=>.ret (some i)):=BO.mono ⟨po_some h.out⟩ fun σ H Q hq0=>by
 obtain⟨G,O,ρ,n,R,s,w,q⟩:=hq0
 rw[M.wZ] at w
 refine⟨G,O,ρ,n,_,s,w,fun y x H1 n1 e1 ok1 r1 w1=>?_⟩
 cases y<;>first|exact w1.elim|skip
 rename_i i
 rw[r1.int_i]
 exact⟨i,rfl,q _ _ _ e1 ok1 w1⟩
def sl3 (op:PV→Option Int→Option Int→M PV) (me:PEnv→M PV) (ml mh:PEnv→M (Option Int)):PEnv→M PV:=fun ρ=>(me ρ).bind fun y=>(ml ρ).bind fun lo=>(mh ρ).bind fun hi=>op y lo hi
theorem ev_slice {r:V→Option Int→Option Int→Hp→VK→Prop} {op:PV→Option Int→Option Int→M PV} {me:PEnv→M PV} {ml mh:PEnv→M (Option Int)} (h:BE X e (tSl r (teB φ me) (toP φ ml) (toP φ mh))) (hv:SlV r op):EV φ X e (sl3 op me ml mh):=BE.mono h fun σ H Q hq0=>by
 obtain⟨G,O,ρ,n,R,s,w,q⟩:=hq0
 unfold sl3 at w
 rw[M.wZ] at w
 refine⟨G,O,ρ,n,_,s,w,fun y x H1 n1 e1 ok1 r1 w1=>?_⟩
 rw[M.wZ] at w1
 refine⟨G,O,ρ,n1,_,s.ext e1 ok1,w1,fun lo H2 n2 e2 ok2 w2=>?_⟩
 rw[M.wZ] at w2
 refine⟨G,O,ρ,n2,_,s.ext (e1.trans e2) ok2,w2,fun hi H3 n3 e3 ok3 w3=>?_⟩
 exact hv φ G O H3 n3 R Q y lo hi x s.pr (s.ext (e1.trans (e2.trans e3)) ok3).dm ok3 (r1.ext s.B (e2.trans e3)) w3 fun y x H' n' e o r h=>q y x H' n' (e1.trans (e2.trans (e3.trans e))) o r h
def cutP (l:List PV) (lo hi:Option Int):List PV:=(l.drop (HT.sIx l.length 0 lo)).take (HT.sIx l.length l.length hi - HT.sIx l.length 0 lo)
theorem cut_reps (h:Reps B O H l xs) (lo hi:Option Int):Reps B O H (cutP l lo hi) (cutV xs lo hi):=by
 unfold cutP cutV
 rw[←h.1]
 exact(h.drop _).take _
theorem cutP_whole (l:List PV) (lo hi:Option Int) (h:HT.sIx l.length 0 lo=0∧HT.sIx l.length l.length hi=l.length):cutP l lo hi=l:=by
 unfold cutP
 rw[h.1,h.2]
 simp
def rSlD (K:PySem.W.Frag):V→Option Int→Option Int→Hp→VK→Prop:=fun x lo hi H Q=>rSlL K x lo hi H Q∨rSlT K x lo hi H Q
theorem sl_D:SlR X (rSlD X.K):=sl_list.or sl_tup
def signsP (x:Str):List PV:=x.cps.toList.map fun c=>.str ⟨#[c]⟩
def intsP (lo:Int) (n:Nat):List PV:=(List.range n).map fun i=>.int (lo+(i:Nat))
inductive ItOf (K:PySem.W.Frag) (G:Bg φ) (O:Addr→Prop) (c:Bool) (H:Hp):List PV→It→Prop where
 |lst {p:Addr} {xs:List V} {l:List PV} (np: ¬ G.priv p) (hp:c=true→¬ O p) (h:H p=some (.lst xs)) (r:Reps G.B O H l xs):ItOf K G O c H l (Itl K p)
 |tup {p:Addr} {xs:List V} {l:List PV} (hp: ¬ O p) (h:H p=some (.tup xs)) (r:Reps G.B O H l xs):ItOf K G O c H l (Itt K p)
 |txt (x:Str):ItOf K G O c H (signsP x) (Itx x)
 |rng (lo:Int) (n:Nat):ItOf K G O c H (intsP lo n) (Itr lo n)
theorem itl_go {K:PySem.W.Frag} {H:Hp} {p:Addr} {xs:List V} (h:H p=some (.lst xs)) {i:Nat} (hi:i < xs.length):(Itl K p).go i H:=⟨xs,xs[i],SqL.of h,by simp[hi]⟩
theorem itt_go {K:PySem.W.Frag} {H:Hp} {p:Addr} {xs:List V} (h:H p=some (.tup xs)) {i:Nat} (hi:i < xs.length):(Itt K p).go i H:=⟨xs,xs[i],SqT.of h,by simp[hi]⟩
theorem ItOf.go {K:PySem.W.Frag} {G:Bg φ} {O:Addr→Prop} {c:Bool} {H:Hp} {l:List PV} {J:It} (t:ItOf K G O c H l J) {i:Nat} {y:PV} (hi:l[i]?=some y):J.go i H∧∀ x H2,J.yld i H x H2→H2=H∧Rep G.B O H y x:=by
 have hl:i < l.length:=(List.getElem?_eq_some_iff.mp hi).1
 cases t with
 |lst np hp h r=>
  refine⟨itl_go h (r.1▸hl),fun x H2 z=>?_⟩
  obtain⟨e,z⟩:=z
  exact⟨e,r.2 i y x hi (z _ (SqL.of h))⟩
 |tup hp h r=>
  refine⟨itt_go h (r.1▸hl),fun x H2 z=>?_⟩
  obtain⟨e,z⟩:=z
  exact⟨e,r.2 i y x hi (z _ (SqT.of h))⟩
 |txt z=>
  unfold signsP at hi hl
  refine⟨by show i < z.cps.size;simpa using hl,fun x H2 q=>?_⟩
  obtain⟨e,c',hc,rfl⟩:=q
  refine⟨e,?_⟩
  rw[List.getElem?_map] at hi
  have:z.cps.toList[i]?=some c':=by simpa using hc
  rw[this] at hi
  cases hi
  exact .str _
 |rng lo n=>
  unfold intsP at hi hl
  have hn:i < n:=by simpa using hl
  refine⟨hn,fun x H2 q=>?_⟩
  obtain⟨e,rfl⟩:=q
  refine⟨e,?_⟩
  rw[List.getElem?_map,List.getElem?_range hn] at hi
  cases hi
  exact .int _
theorem ItOf.stop {K:PySem.W.Frag} {G:Bg φ} {O:Addr→Prop} {c:Bool} {H:Hp} {l:List PV} {J:It} (t:ItOf K G O c H l J):J.stop l.length H:=by
 cases t with
 |lst np hp h r=>exact⟨_,SqL.of h,Nat.le_of_eq r.1.symm⟩
 |tup hp h r=>exact⟨_,SqT.of h,Nat.le_of_eq r.1.symm⟩
 |txt z=>show (signsP z).length=z.cps.size;simp[signsP]
 |rng lo n=>show n≤(intsP lo n).length;simp[intsP]
theorem ItOf.keepS {K:PySem.W.Frag} {G:Bg φ} {O O':Addr→Prop} {c:Bool} {H H':Hp} {l:List PV} {J:It} (t:ItOf K G O c H l J) (k: ∀ p o,¬ O p→H p=some o→Stand H' p o∧¬ O' p) (k2:c=true∨∀ p xs,¬ G.priv p→H p=some (.lst xs)→H' p=some (.lst xs)) (hc: ∀ p,c=true→¬ O p→¬ O' p):ItOf K G O' c H' l J:=by
 cases t with
 |lst np hp h r=>
  refine .lst np (fun z=>hc _ z (hp z)) ?_ (r.keepS k)
  rcases k2 with z|z
  ·exact(k _ _ (hp z) h).1
  ·exact z _ _ np h
 |tup hp h r=>exact .tup (k _ _ hp h).2 (k _ _ hp h).1 (r.keepS k)
 |txt z=>exact .txt z
 |rng lo n=>exact .rng lo n
theorem ItOf.keep {K:PySem.W.Frag} {G:Bg φ} {O O':Addr→Prop} {c:Bool} {H H':Hp} {l:List PV} {J:It} (t:ItOf K G O c H l J) (k: ∀ p o,¬ O p→H p=some o→H' p=some o∧¬ O' p) (k2:c=true∨∀ p xs,¬ G.priv p→H p=some (.lst xs)→H' p=some (.lst xs)) (hc: ∀ p,c=true→¬ O p→¬ O' p):ItOf K G O' c H' l J:=t.keepS (fun p o n q=>⟨.of (k p o n q).1,(k p o n q).2⟩) k2 hc
noncomputable def tiP (φ:Fam) (K:PySem.W.Frag) (c:Bool) (m:PEnv→M (List PV)):TI:=fun σ H Q=> ∃ (G:Bg φ) (O:Addr→Prop) (ρ:PEnv) (n:Nat) (R:List PV→Nat→Prop),ES G O H σ ρ n∧(m ρ).wp n R∧
 ∀ (l:List PV) (J:It) (H':Hp) (n':Nat),Ext G.B H H'→G.ok H' n'→ItOf K G O c H' l J→R l n'→Q J H'
def IV (φ:Fam) (X:Cx) (c:Bool) (tg iter:Expr) (m:PEnv→M (List PV)):Prop:=BI X tg iter (tiP φ X.K c m)
def iterO:PV→M (List PV)
 | .lst l=>.ret l
 | .tup l=>.ret l
 | .str x=>.ret (signsP x)
 |_=>.fail
theorem pi_seq (hl:PE X l tl):PI X tg l (fun σ H R=>tl σ H fun x H1=>(∃ a,x= .ref a∧(∃ xs,SqL X.K H1 a xs)∧R (Itl X.K a) H1)∨(∃ a,x= .ref a∧(∃ xs,SqT X.K H1 a xs)∧R (Itt X.K a) H1)∨∃ z,x= .str z∧R (Itx z) H1):=by
 intro pZ s σ H R I h
 refine thn (hl pZ s σ H _ I h) fun v s1 ⟨x,H1,I1,r1,q1⟩=>?_
 rcases q1 with⟨a,e,⟨xs,hq⟩,q⟩|⟨a,e,⟨xs,hq⟩,q⟩|⟨z,e,q⟩
 ·subst e
  cases r1
  obtain⟨its,rv,p,hz⟩:=I1.list hq
  refine wpAny_pyIter_list p.isList ?_
  refine⟨s1.heap.objs.size,[s1.heap.objs.size],_,_,H1,rfl,I1.kept (t':=s1.toks) fun b o e=>Heap.get?_push_of_some _ e,turn_list a _,⟨_,Heap.get?_push_size _ rfl,rfl,rfl⟩,fun b hb=>?_,q⟩
  have e:b=s1.heap.objs.size:=by simpa using hb
  subst e
  exact I1.fpOk (Nat.le_refl _) (I1.hok.fresh (Nat.le_refl _))
 ·subst e
  cases r1
  obtain⟨its,rv,p,hz⟩:=I1.tuple hq
  refine wpAny_pyIter_tuple (show s1.heap.IsTuple a its.toArray from p) ?_
  refine⟨s1.heap.objs.size,[s1.heap.objs.size],_,_,H1,rfl,I1.kept (t':=s1.toks) fun b o e=>Heap.get?_push_of_some _ e,turn_tuple a _,⟨_,Heap.get?_push_size _ rfl,rfl,rfl⟩,fun b hb=>?_,q⟩
  have e:b=s1.heap.objs.size:=by simpa using hb
  subst e
  exact I1.fpOk (Nat.le_refl _) (I1.hok.fresh (Nat.le_refl _))
 ·subst e
  obtain⟨t,rfl⟩:=r1
  have fin: ∀ (o:Obj) (ty:String),o.cls= .type ty→o.data= .fields #[.str z t,.int (0:Nat) 0]→Turn X.prog X.w X.K tg (Itx z) [s1.heap.objs.size] s1.heap.objs.size (fun i h=>h.IsStrIter s1.heap.objs.size ty z t i)→o.isFreed=false→
    PIE X pZ σ tg R (.ref s1.heap.objs.size) {s1 with heap:=s1.heap.push o}:=fun o ty h1 h2 T hfr=>by
   refine⟨s1.heap.objs.size,[s1.heap.objs.size],_,_,H1,rfl,I1.kept (t':=s1.toks) fun b o e=>Heap.get?_push_of_some _ e,T,⟨_,Heap.get?_push_size _ hfr,h1,h2⟩,fun b hb=>?_,q⟩
   have e:b=s1.heap.objs.size:=by simpa using hb
   subst e
   exact I1.fpOk (Nat.le_refl _) (I1.hok.fresh (Nat.le_refl _))
  cases ha:z.cps.all (· < 128)
  ·exact wpAny_pyIter_wide ha (fin _ _ rfl rfl (turn_text _ z t (by decide) (fun A hA=>Walks.strWide hA _ z t) fun _ _ _ _ _ st h=>wpAny_pyIter_striter_wide st h) rfl)
  ·exact wpAny_pyIter_ascii ha (fin _ _ rfl rfl (turn_text _ z t (by decide) (fun A hA=>Walks.strAscii hA _ z t) fun _ _ _ _ _ st h=>wpAny_pyIter_striter_ascii st h) rfl)
theorem BI.mono {tg iter:Expr} {t t':TI} (h:BI X tg iter t) (f: ∀ σ H Q,t' σ H Q→t σ H Q):BI X tg iter t':=⟨fun pZ s σ H Q I q=>h.out pZ s σ H Q I (f σ H Q q)⟩
theorem iv_b (h:EB φ X e m):IV φ X false tg e (fun ρ=>(m ρ).bind iterO):=BI.mono ⟨pi_seq h.out⟩ fun σ H Q hq0=>by
 obtain⟨G,O,ρ,n,R,s,w,q⟩:=hq0
 rw[M.wZ] at w
 refine⟨G,O,ρ,n,_,s,w,fun y x H1 n1 e1 ok1 r1 w1=>?_⟩
 cases y<;>first|exact w1.elim|skip
 ·rw[r1.str_i]
  exact .inr (.inr ⟨_,rfl,q _ _ _ _ e1 ok1 (.txt _) w1⟩)
 ·cases r1 with
  |full r1=>cases r1 with
   |tup a b c d=>exact .inr (.inl ⟨_,rfl,⟨_,SqT.of b⟩,q _ _ _ _ e1 ok1 (.tup a b ⟨c,d⟩) w1⟩)
 ·cases r1 with
  |full r1=>cases r1 with
   |lst a b c d=>exact .inl ⟨_,rfl,⟨_,SqL.of b⟩,q _ _ _ _ e1 ok1 (.lst (fun z=>a (s.pr _ z)) (fun z=>by cases z) b ⟨c,d⟩) w1⟩
  |top a b c=>exact .inl ⟨_,rfl,⟨_,SqL.of b⟩,q _ _ _ _ e1 ok1 (.lst a (fun z=>by cases z) b c) w1⟩
theorem iv_v (h:EV φ X e m):IV φ X true tg e (fun ρ=>(m ρ).bind iterO):=BI.mono ⟨pi_seq h.out⟩ fun σ H Q hq0=>by
 obtain⟨G,O,ρ,n,R,s,w,q⟩:=hq0
 rw[M.wZ] at w
 refine⟨G,O,ρ,n,_,s,w,fun y x H1 n1 e1 ok1 r1 w1=>?_⟩
 cases r1 with
 |str z=>exact .inr (.inr ⟨_,rfl,q _ _ _ _ e1 ok1 (.txt _) w1⟩)
 |tup a b c d=>exact .inr (.inl ⟨_,rfl,⟨_,SqT.of b⟩,q _ _ _ _ e1 ok1 (.tup a b ⟨c,d⟩) w1⟩)
 |lst a b c d=>exact .inl ⟨_,rfl,⟨_,SqL.of b⟩,q _ _ _ _ e1 ok1 (.lst (fun z=>a (s.pr _ z)) (fun _=>a) b ⟨c,d⟩) w1⟩
 |_=>exact w1.elim
def rng1O:List PV→M (List PV)
 |[.int j]=>if -1000000≤j∧j≤100000 then .ret (intsP 0 j.toNat) else .fail
 |_=>.fail
theorem iv_rng1 (h:BI X tg e (iRng1 (taB φ ml))):IV φ X c tg e (fun ρ=>(ml ρ).bind rng1O):=BI.mono h fun σ H Q hq0=>by
 obtain⟨G,O,ρ,n,R,s,w,q⟩:=hq0
 rw[M.wZ] at w
 refine⟨G,O,ρ,n,_,s,w,fun l xs H1 n1 e1 ok1 r1 w1=>?_⟩
 match l,r1,w1 with
 |[.int j],r1,w1=>
  obtain⟨x,rfl,r2⟩:=r1.one
  rw[r2.int_i]
  unfold rng1O at w1
  dsimp only at w1
  by_cases hc: -1000000≤j∧j≤100000
  ·rw[if_pos hc] at w1
   have e62:(2:Int) ^ 62=4611686018427387904:=by decide
   exact⟨j,rfl,by lia,by lia,q _ _ _ _ e1 ok1 (.rng 0 j.toNat) w1⟩
  ·rw[if_neg hc] at w1;exact w1.elim
noncomputable def tgP (φ:Fam) (b:PV→PEnv→M PEnv):TG:=fun v σ H Q=> ∃ (G:Bg φ) (O:Addr→Prop) (ρ:PEnv) (n:Nat) (R:PEnv→Nat→Prop) (y:PV),ES G O H σ ρ n∧Rep G.B O H y v∧(b y ρ).wp n R∧
 ∀ (σ':St) (ρ':PEnv) (n':Nat),ES G O H σ' ρ' n'→R ρ' n'→Q σ' H
def GV (φ:Fam) (X:Cx) (tg:Expr) (b:PV→PEnv→M PEnv):Prop:=BG X tg (tgP φ b)
theorem EnvRep.set (h:EnvRep G O H σ ρ) (k:Nat) (r:EntRep G O H t (some x)):EnvRep G O H (σ.set k (some x)) (ρ.set k t):=by
 refine⟨by simp[h.1],fun i e he=>?_⟩
 by_cases hk:k=i
 ·subst hk
  have hl:k < ρ.length:=by have:=(List.getElem?_eq_some_iff.mp he).1;simpa using this
  rw[List.getElem?_set_self hl] at he
  cases he
  rw[List.getElem?_set_self (h.1▸hl)]
  exact r
 ·rw[List.getElem?_set_ne hk] at he ⊢
  exact h.2 i e he
theorem ES.set (s:ES G O H σ ρ n) (k:Nat) (r:EntRep G O H t (some x)):ES G O H (σ.set k (some x)) (ρ.set k t) n:=⟨s.er.set k r,s.ok,s.pr,s.dm⟩
def bindN (k:Nat) (y:PV) (ρ:PEnv):M PEnv:=.ret (ρ.set k (.val y))
theorem BG.mono {tg:Expr} {t t':TG} (h:BG X tg t) (f: ∀ v σ H Q,t' v σ H Q→t v σ H Q):BG X tg t':=⟨fun pZ s σ H v u Q I r q=>h.out pZ s σ H v u Q I r (f v σ H Q q)⟩
theorem gv_name (h:BG X tg (gName k)):GV φ X tg (bindN k):=BG.mono h fun v σ H Q ⟨G,O,ρ,n,R,y,s,r,w,q⟩=>q _ _ n (s.set k (t:=.val y) ⟨v,rfl,r⟩) w
def bindsN:List Nat→List PV→PEnv→PEnv
 |k::ks,y::l,ρ=>bindsN ks l (ρ.set k (.val y))
 |_,_,ρ=>ρ
def bindT (ks:List Nat) (y:PV) (ρ:PEnv):M PEnv:=match y with
 | .tup l=>if l.length=ks.length then .ret (bindsN ks l ρ) else .fail
 |_=>.fail
noncomputable def lcM (bd:PV→PEnv→M PEnv) (tt:PEnv→M Bool) (te:PEnv→M PV):List PV→PEnv→M (List PV)
 |[],_=>.ret []
 |y::r,ρ=>(bd y ρ).bind fun ρ1=>(tt ρ1).bind fun ok=>if ok=true then(te ρ1).bind fun z=>(lcM bd tt te r ρ1).bind fun l=>.ret (z::l) else lcM bd tt te r ρ1
def capP (js:List (Option Nat)) (ρ:PEnv):PEnv:=js.map fun o=>match o with|some j=>(ρ[j]?).getD .un|none=>.un
theorem capP_rep (h:EnvRep G O H σ ρ) (js:List (Option Nat)):EnvRep G O H (capSt js σ) (capP js ρ):=by
 refine⟨by simp[capSt,capP],fun i e he=>?_⟩
 unfold capP at he
 unfold capSt
 rw[List.getElem?_map] at he ⊢
 cases q:js[i]? with
 |none=>rw[q] at he;cases he
 |some o=>
  rw[q] at he
  simp only[Option.map_some,Option.some.injEq] at he ⊢
  subst he
  cases o with
  |none=>trivial
  |some j=>
   dsimp only
   cases q2:ρ[j]? with
   |none=>rw[Option.getD_none];trivial
   |some t=>
    have:=h.2 j t q2
    rw[Option.getD_some]
    simpa using this
def allTs:PEnv→M Bool:=fun _=>.ret true
theorem BTs.mono {ifs:List Expr} {t t':TT} (h:BTs X ifs t) (f: ∀ σ H Q,t' σ H Q→t σ H Q):BTs X ifs t':=⟨fun pZ s σ H Q I q=>h.out pZ s σ H Q I (f σ H Q q)⟩
def TsV (φ:Fam) (X:Cx) (ifs:List Expr) (m:PEnv→M Bool):Prop:=BTs X ifs (ttP φ m)
theorem ts_nil:TsV φ X [] allTs:=BTs.mono ⟨pts_nil⟩ fun σ H Q ⟨G,O,ρ,n,R,s,w,q⟩=>q true H n (Ext.refl _ _) s.ok w
theorem ts_one (h:TV φ X c m):TsV φ X [c] m:=⟨pts_one h.out⟩
noncomputable def mkLC (js:List (Option Nat)) (mi:PEnv→M (List PV)) (bd:PV→PEnv→M PEnv) (tt:PEnv→M Bool) (te:PEnv→M PV):PEnv→M (List PV):=fun ρ=>(mi ρ).bind fun l=>if l.length≤100000 then lcM bd tt te l (capP js ρ) else .fail
noncomputable def Bg.with (G:Bg φ) (D:Addr) (hD:D≠G.B):Bg φ where
 B:=G.B
 priv:=fun p=>G.priv p∨p=D
 ok:=fun H n=>G.ok H n∧∃ ys,H D=some (.lst ys)
 pB:=.inl G.pB
 keep:=fun H H' n k h=>⟨G.keep H H' n (fun p o z=>k p o (z.imp .inl id)) h.1,by obtain⟨ys,e⟩:=h.2;exact⟨ys,k D _ (.inl (.inr rfl)) e⟩⟩
 tp:=fun e he=>.inl (G.tp e he)
 tab:=fun H n h=>G.tab H n h.1
 tset:=fun H H' n h h1 h2=>⟨G.tset H H' n h.1 h1 h2,by
  obtain⟨ys,e⟩:=h.2
  refine⟨ys,h2 D _ (fun z=>?_) e⟩
  obtain⟨q,hq,rfl⟩:=List.mem_map.mp z
  obtain⟨ps,e2,_⟩:=G.tab H n h.1 q hq
  rw[e] at e2;cases e2⟩
 dom:=fun H n p h z=>by
  rcases z with z|z
  ·exact G.dom H n p h.1 z
  ·subst z;obtain⟨ys,e⟩:=h.2;exact⟨_,e⟩
 dr:=fun H n m Q E h h0 h1 q=>G.dr H n m Q E h.1 h0 h1 fun d H' d0 d1 e o=>q d H' d0 d1 e ⟨o,by
  obtain⟨ys,e2⟩:=h.2
  exact⟨ys,e D _ hD e2⟩⟩
theorem lc_in {K:PySem.W.Frag} {js:List (Option Nat)} {mi:PEnv→M (List PV)} {bd:PV→PEnv→M PEnv} {tt:PEnv→M Bool} {te:PEnv→M PV}: ∀ σ H Q,teF φ (mkLC js mi bd tt te) σ H Q→tLC js (tiP φ K false mi) (tgP φ bd) (ttP φ tt) (teP φ te) σ H Q:=fun σ H Q hq0=>by
 obtain⟨G,O,ρ,n,R,s,w,q⟩:=hq0
 unfold mkLC at w
 rw[M.wZ] at w
 refine⟨G,O,ρ,n,_,s,w,fun l J H1 n1 e1 ok1 it w1=>fun D hD=>?_⟩
 by_cases hl:l.length≤100000
 case neg=>rw[if_neg hl] at w1;exact w1.elim
 rw[if_pos hl] at w1
 have s1:=s.ext e1 ok1
 have nD: ¬ O D:=fun z=>by obtain⟨o,g⟩:=s1.dm D z;rw[hD] at g;cases g
 have pD: ¬ G.priv D:=fun z=>nD (s.pr _ z)
 have hBD:D≠G.B:=fun z=>pD (z▸G.pB)
 have hne: ∀ p o,H1 p=some o→p≠D:=fun p o hp z=>by subst z;rw[hD] at hp;cases hp
 let O':Addr→Prop:=fun p=>O p∨p=D
 let G':Bg φ:=G.with D hBD
 have k0: ∀ p o,¬ O p→H1 p=some o→upd H1 D (HO.lst []) p=some o∧¬ O' p:=fun p o np hp=>⟨by rw[upd_ne (hne p o hp)];exact hp,fun z=>by
  rcases z with z|z
  ·exact np z
  ·exact hne p o hp z⟩
 have kD: ∀ (H5:Hp) (o:HO) p u,¬ O' p→H5 p=some u→upd H5 D o p=some u∧¬ O' p:=fun H5 o p u np hp=>⟨by rw[upd_ne (fun z=>np (.inr z))];exact hp,np⟩
 refine⟨fun i m σ' H'=>m=l.length - i∧i≤l.length∧∃ (ys:List V) (zs:List PV) (ρ':PEnv) (n':Nat),ys.length≤i∧H' D=some (.lst ys)∧Reps G.B O' H' zs ys∧ES G' O' H' σ' ρ' n'∧Ext G.B H1 H'∧ItOf K G' O' false H' l J∧
  (lcM bd tt te (l.drop i) ρ').wp n' (fun t k=>R (zs++t) k),⟨l.length,by simp,Nat.zero_le _,[],[],capP js ρ,n1,Nat.le_refl _,upd_same,.nil,?_,Ext.new hD _,?_,?_⟩,?_⟩
 ·have er:=capP_rep s1.er js
  refine⟨⟨er.1,fun i e he=>?_⟩,⟨Bg.new ok1 hD _,[],upd_same⟩,fun p z=>?_,fun p z=>?_⟩
  ·have r1:=er.2 i e he
   cases e with
   |un=>trivial
   |val y=>obtain⟨x,hx,rr⟩:=r1;exact⟨x,hx,rr.keep k0⟩
   |own t=>
    obtain⟨p,xs,hx,hp,np,hh,rr⟩:=r1
    exact⟨p,xs,hx,.inl hp,fun z=>by
     rcases z with z|z
     ·exact np z
     ·exact hne p _ hh z,by rw[upd_ne (hne p _ hh)];exact hh,rr.keep k0⟩
   |ownD t=>
    obtain⟨p,xs,hx,hp,np,hh,rr⟩:=r1
    exact⟨p,xs,hx,.inl hp,fun z=>by
     rcases z with z|z
     ·exact np z
     ·exact hne p _ hh z,by rw[upd_ne (hne p _ hh)];exact hh,rr.keep k0⟩
  ·rcases z with z|z
   ·exact .inl (s.pr p z)
   ·exact .inr z
  ·rcases z with z|z
   ·obtain⟨o,g⟩:=s1.dm p z;exact⟨o,by rw[upd_ne (hne p o g)];exact g⟩
   ·subst z;exact⟨_,upd_same⟩
 ·cases it with
  |lst np hp h r=>
   exact .lst (fun z=>by
    rcases z with z|z
    ·exact np z
    ·exact hne _ _ h z) (fun z=>by cases z) (by rw[upd_ne (hne _ _ h)];exact h) (r.keep k0)
  |tup hp h r=>exact .tup (k0 _ _ hp h).2 (k0 _ _ hp h).1 (r.keep k0)
  |txt z=>exact .txt z
  |rng lo n=>exact .rng lo n
 ·simpa using w1
 ·rintro i m σ' H' ⟨rfl,hi,ys,zs,ρ',n',hy,hDy,rz,s',ex,it',w'⟩
  by_cases hlt:i < l.length
  ·have hget:l[i]?=some l[i]:=List.getElem?_eq_getElem hlt
   have hdrop:l.drop i=l[i]::l.drop (i+1):=List.drop_eq_getElem_cons hlt
   rw[hdrop] at w'
   unfold lcM at w'
   obtain⟨g1,g2⟩:=it'.go hget
   refine .inr ⟨g1,fun x H2 yl=>?_⟩
   obtain⟨eH,rx⟩:=g2 x H2 yl
   subst eH
   rw[M.wZ] at w'
   refine⟨G',O',ρ',n',_,l[i],s',rx,w',fun σ2 ρ2 n2 s2 w2=>?_⟩
   rw[M.wZ] at w2
   refine⟨G',O',ρ2,n2,_,s2,w2,fun ok H4 n4 e4 ok4 w4=>?_⟩
   have D4:H4 D=some (.lst ys):=e4 D _ hBD hDy
   have it4:ItOf K G' O' false H4 l J:=it'.keepS (fun p o np hp=>⟨e4 p o (fun z=>np (.inl (z▸s.B))) hp,np⟩) (.inr fun p xs np hp=>e4 p _ (fun z=>np (z▸G'.pB)) hp) fun p z=>by cases z
   cases ok with
   |true=>
    simp only[if_true] at w4 ⊢
    rw[M.wZ] at w4
    refine⟨G',O',ρ2,n4,_,s2.ext e4 ok4,w4,fun z x5 H5 n5 e5 ok5 r5 w5=>?_⟩
    have D5:H5 D=some (.lst ys):=e5 D _ hBD D4
    rw[M.wZ] at w5
    have s5:=s2.ext (e4.trans e5) ok5
    have it5:ItOf K G' O' false H5 l J:=it4.keepS (fun p o np hp=>⟨e5 p o (fun z=>np (.inl (z▸s.B))) hp,np⟩) (.inr fun p xs np hp=>e5 p _ (fun z=>np (z▸G'.pB)) hp) fun p z=>by cases z
    refine⟨ys,D5,by rw[sizeLine_eq];lia,l.length - (i+1),by lia,rfl,hlt,ys++[x5],zs++[z],ρ2,n5,by simp;lia,upd_same,?_,?_,?_,?_,?_⟩
    ·exact((rz.ext (.inl s.B) (e4.trans e5)).append (.cons r5 .nil)).keep (kD H5 _)
    ·refine⟨⟨s5.er.1,fun j e he=>?_⟩,⟨G.keep H5 _ _ (fun p o hp hpo=>by
      have hpd:p≠D:=fun z=>by
       rcases hp with hp|hp
       ·exact pD (z▸hp)
       ·rw[z,D5] at hpo;cases hpo;exact hp
      rw[upd_ne hpd];exact hpo) ok5.1,_,upd_same⟩,s5.pr,fun p hp=>?_⟩
     ·have r1:=s5.er.2 j e he
      cases e with
      |un=>trivial
      |val y=>obtain⟨x,hx,rr⟩:=r1;exact⟨x,hx,rr.keep (kD H5 _)⟩
      |own t=>
       obtain⟨p,xs,hx,hp,np,hh,rr⟩:=r1
       exact⟨p,xs,hx,hp,np,by rw[upd_ne (fun z=>np (.inr z))];exact hh,rr.keep (kD H5 _)⟩
      |ownD t=>
       obtain⟨p,xs,hx,hp,np,hh,rr⟩:=r1
       exact⟨p,xs,hx,hp,np,by rw[upd_ne (fun z=>np (.inr z))];exact hh,rr.keep (kD H5 _)⟩
     ·by_cases hpd:p=D
      ·subst hpd;exact⟨_,upd_same⟩
      ·obtain⟨o,g⟩:=s5.dm p hp;exact⟨o,by rw[upd_ne hpd];exact g⟩
    ·intro p o np hp
     exact((ex.trans (e4.trans e5)) p o np hp).to fun u e=>.of (by rw[upd_ne (hne p o hp)];exact e)
    ·exact it5.keep (kD H5 _) (.inr fun p xs np hp=>by rw[upd_ne (fun z=>np (.inr z))];exact hp) fun p z=>by cases z
    ·refine M.wp_mono w5 fun t k' hk=>?_
     have hk':R (zs++z::t) k':=hk
     simpa using hk'
   |false=>
    exact⟨l.length - (i+1),by lia,rfl,hlt,ys,zs,ρ2,n4,by lia,D4,rz.ext (.inl s.B) e4,s2.ext e4 ok4,ex.trans e4,it4,w4⟩
  ·have e:i=l.length:=by lia
   subst e
   refine .inl ⟨it'.stop,?_⟩
   rw[List.drop_length] at w'
   have w2:R (zs++[]) n':=w'
   rw[List.append_nil] at w2
   exact q zs D ys H' n' (e1.trans ex) s'.ok.1 (new_before e1 ok1 hD) hDy rz w2
theorem ef_lc (h:BE X e (tLC js (tiP φ X.K false mi) (tgP φ bd) (ttP φ tt) (teP φ te))):EF φ X e (mkLC js mi bd tt te):=BE.mono h lc_in
end
end
section
variable {φ:Fam}
set_option genInjectivity true in
inductive Fl where
 |nx (ρ:PEnv)|rt (y:PV)|bk (ρ:PEnv)|ct (ρ:PEnv)
def Ent.isOwn:Ent→Bool
 | .own _=>true
 | .ownD _=>true
 |_=>false
def Ent.freeze:Ent→Ent
 | .own l=>.val (.lst l)
 | .ownD l=>.val (.dct l)
 |e=>e
def OwnAt (ρ:PEnv) (σ:St) (i:Nat) (p:Addr):Prop:= ∃ t,ρ[i]?=some t∧t.isOwn=true∧σ[i]?=some (some (.ref p))
structure SI (G:Bg φ) (O0:Addr→Prop) (H0:Hp) (O:Addr→Prop) (H:Hp) (σ:St) (ρ:PEnv) (n:Nat):Prop where
 es:ES G O H σ ρ n
 p0: ∀ p,G.priv p→O0 p
 sub: ∀ p,O0 p→O p
 ext:Ext G.B H0 H
 gr: ∀ p,O p→O0 p∨H0 p=none
 d0: ∀ p,O0 p→∃ o,H0 p=some o
 fr: ∀ i p,OwnAt ρ σ i p→H0 p=none
 dj: ∀ i j p,OwnAt ρ σ i p→OwnAt ρ σ j p→i=j
section
variable {G:Bg φ} {O0 O:Addr→Prop} {H0 H H':Hp} {σ:St} {ρ:PEnv} {n n':Nat}
theorem SI.to (s:SI G O0 H0 O H σ ρ n) (x:Ext G.B H H') (ok:G.ok H' n'):SI G O0 H0 O H' σ ρ n':=⟨s.es.ext x ok,s.p0,s.sub,s.ext.trans x,s.gr,s.d0,s.fr,s.dj⟩
theorem own_set (ht:t.isOwn=false) (h:OwnAt (ρ.set k t) (σ.set k o) i p):OwnAt ρ σ i p:=by
 obtain⟨e,h1,h2,h3⟩:=h
 by_cases hk:k=i
 ·subst hk
  rw[List.getElem?_set] at h1
  split at h1
  ·split at h1
   ·cases h1;rw[ht] at h2;cases h2
   ·cases h1
  ·exact⟨e,h1,h2,by rw[List.getElem?_set_ne (by lia)] at h3;exact h3⟩
 ·rw[List.getElem?_set_ne hk] at h1 h3
  exact⟨e,h1,h2,h3⟩
theorem SI.setV (s:SI G O0 H0 O H σ ρ n) (k:Nat) (r:Rep G.B O H y x):SI G O0 H0 O H (σ.set k (some x)) (ρ.set k (.val y)) n:=
 ⟨s.es.set k (t:=.val y) ⟨x,rfl,r⟩,s.p0,s.sub,s.ext,s.gr,s.d0,fun i p h=>s.fr i p (own_set rfl h),fun i j p h h'=>s.dj i j p (own_set rfl h) (own_set rfl h')⟩
theorem ownAt_O (s:ES G O H σ ρ n) (h:OwnAt ρ σ i p):O p∧¬ G.priv p∧∃ o,H p=some o:=by
 obtain⟨t,h1,h2,h3⟩:=h
 have r:=s.er.2 i t h1
 rw[h3] at r
 cases t with
 |own l=>obtain⟨q,xs,e,a,b,c,_⟩:=r;cases e;exact⟨a,b,_,c⟩
 |ownD l=>obtain⟨q,xs,e,a,b,c,_⟩:=r;cases e;exact⟨a,b,_,c⟩
 |_=>cases h2
theorem ownAt_nf (s:ES G O H σ ρ n) (h:OwnAt ρ σ i p) (e:H p=some o): ¬ IsFz o:=by
 obtain⟨t,h1,h2,h3⟩:=h
 have r:=s.er.2 i t h1
 rw[h3] at r
 cases t with
 |own l=>obtain⟨q,xs,e',a,b,c,_⟩:=r;cases e';rw[c] at e;cases e;exact id
 |ownD l=>obtain⟨q,xs,e',a,b,c,_⟩:=r;cases e';rw[c] at e;cases e;exact id
 |_=>cases h2
theorem SI.setO (s:SI G O0 H0 O H σ ρ n) (k:Nat) (x:Ext G.B H H') (ok:G.ok H' n') (hp:H p=none) (hp':H' p=some (.lst xs)) (r:Reps G.B (fun q=>O q∨q=p) H' l xs):
  SI G O0 H0 (fun q=>O q∨q=p) H' (σ.set k (some (.ref p))) (ρ.set k (.own l)) n':=by
 have nO: ¬ O p:=fun z=>by obtain⟨o,g⟩:=s.es.dm p z;rw[hp] at g;cases g
 have np: ¬ G.priv p:=fun z=>nO (s.es.pr p z)
 have h0:H0 p=none:=by
  cases e:H0 p with
  |none=>rfl
  |some o=>obtain⟨_,this⟩:=(s.ext p o (fun z=>np (z▸G.pB)) e).there;rw[hp] at this;cases this
 have hB:O G.B:=s.es.B
 have gw: ∀ q,(O q∨q=p)→O q∨H q=none:=fun q z=>by
  rcases z with z|z
  ·exact .inl z
  ·subst z;exact .inr hp
 have s':=s.es.ext x ok
 have es:ES G (fun q=>O q∨q=p) H' σ ρ n':=by
  refine⟨⟨s.es.er.1,fun i e he=>?_⟩,ok,fun q z=>.inl (s.es.pr q z),fun q z=>?_⟩
  ·have r1:=s.es.er.2 i e he
   cases e with
   |un=>trivial
   |val y=>obtain⟨v,hv,rr⟩:=r1;exact⟨v,hv,(rr.grow gw).ext (.inl hB) x⟩
   |own t=>
    obtain⟨q,ys,hv,hq,nq,hh,rr⟩:=r1
    exact⟨q,ys,hv,.inl hq,nq,x q _ (fun z=>nq (z▸G.pB)) hh,(rr.grow gw).ext (.inl hB) x⟩
   |ownD t=>
    obtain⟨q,ys,hv,hq,nq,hh,rr⟩:=r1
    exact⟨q,ys,hv,.inl hq,nq,x q _ (fun z=>nq (z▸G.pB)) hh,⟨rr.1,fun i a b c d=>((rr.2 i a b c d).grow gw).ext (.inl hB) x⟩⟩
  ·rcases z with z|z
   ·exact s'.dm q z
   ·subst z;exact⟨_,hp'⟩
 have ow: ∀ i q,OwnAt (ρ.set k (.own l)) (σ.set k (some (.ref p))) i q→(i=k∧q=p)∨(i≠k∧OwnAt ρ σ i q):=fun i q h=>by
  obtain⟨t,h1,h2,h3⟩:=h
  by_cases hk:k=i
  ·subst hk
   rw[List.getElem?_set] at h3
   split at h3
   ·split at h3
    ·cases h3;exact .inl ⟨rfl,rfl⟩
    ·cases h3
   ·rename_i hh;exact absurd rfl hh
  ·rw[List.getElem?_set_ne hk] at h1 h3
   exact .inr ⟨fun z=>hk z.symm,t,h1,h2,h3⟩
 refine⟨es.set k (t:=.own l) ⟨p,xs,rfl,.inr rfl,np,hp',r⟩,s.p0,fun q z=>.inl (s.sub q z),s.ext.trans x,fun q z=>?_,s.d0,fun i q h=>?_,fun i j q h h'=>?_⟩
 ·rcases z with z|z
  ·exact s.gr q z
  ·subst z;exact .inr h0
 ·rcases ow i q h with⟨_,rfl⟩|⟨_,h⟩
  ·exact h0
  ·exact s.fr i q h
 ·rcases ow i q h with⟨rfl,rfl⟩|⟨n1,h1⟩
  ·rcases ow j q h' with⟨rfl,_⟩|⟨n2,h2⟩
   ·rfl
   ·obtain⟨_,_,o,g⟩:=ownAt_O s.es h2;rw[hp] at g;cases g
  ·rcases ow j q h' with⟨rfl,rfl⟩|⟨n2,h2⟩
   ·obtain⟨_,_,o,g⟩:=ownAt_O s.es h1;rw[hp] at g;cases g
   ·exact s.dj i j q h1 h2
theorem SI.put (s:SI G O0 H0 O H σ ρ n) (hk:ρ[k]?=some (.own l)) (hp:σ[k]?=some (some (.ref p))) (r:Reps G.B O H l' xs'):SI G O0 H0 O (upd H p (.lst xs')) σ (ρ.set k (.own l')) n:=by
 have ho:OwnAt ρ σ k p:=⟨_,hk,rfl,hp⟩
 obtain⟨hO,np,o,hh⟩:=ownAt_O s.es ho
 have nfz:=ownAt_nf s.es ho hh
 have kp: ∀ q u,¬ O q→H q=some u→upd H p (.lst xs') q=some u∧¬ O q:=fun q u nq hq=>⟨by
  have hne:q≠p:=fun z=>nq (z▸hO)
  rw[upd_ne hne];exact hq,nq⟩
 have ow: ∀ i q,OwnAt (ρ.set k (.own l')) σ i q→OwnAt ρ σ i q:=fun i q h=>by
  obtain⟨t,h1,h2,h3⟩:=h
  by_cases e:k=i
  ·subst e;exact⟨_,hk,rfl,h3⟩
  ·rw[List.getElem?_set_ne e] at h1;exact⟨t,h1,h2,h3⟩
 refine⟨⟨⟨by simp[s.es.er.1],fun i e he=>?_⟩,G.keep H _ _ (fun q u hq hu=>by
   have hne:q≠p:=fun z=>by
    rcases hq with hq|hq
    ·exact np (z▸hq)
    ·rw[z,hh] at hu;cases hu;exact nfz hq
   rw[upd_ne hne];exact hu) s.es.ok,s.es.pr,fun q hq=>?_⟩,s.p0,s.sub,fun q u nb hq=>?_,s.gr,s.d0,fun i q h=>s.fr i q (ow i q h),fun i j q h h'=>s.dj i j q (ow i q h) (ow j q h')⟩
 ·by_cases e1:k=i
  ·subst e1
   have hl:k < ρ.length:=(List.getElem?_eq_some_iff.mp hk).1
   rw[List.getElem?_set_self hl] at he
   cases he
   rw[hp]
   exact⟨p,xs',rfl,hO,np,upd_same,r.keep kp⟩
  ·rw[List.getElem?_set_ne e1] at he
   have r1:=s.es.er.2 i e he
   cases e with
   |un=>trivial
   |val y=>obtain⟨v,hv,rr⟩:=r1;exact⟨v,hv,rr.keep kp⟩
   |own t=>
    obtain⟨q,ys,hv,hq,nq,hh',rr⟩:=r1
    have hne:q≠p:=fun z=>by
     subst z
     exact e1 (s.dj k i q ho ⟨_,he,rfl,sig_of s.es.er he hv⟩)
    exact⟨q,ys,hv,hq,nq,by rw[upd_ne hne];exact hh',rr.keep kp⟩
   |ownD t=>
    obtain⟨q,ys,hv,hq,nq,hh',rr⟩:=r1
    have hne:q≠p:=fun z=>by
     subst z
     exact e1 (s.dj k i q ho ⟨_,he,rfl,sig_of s.es.er he hv⟩)
    exact⟨q,ys,hv,hq,nq,by rw[upd_ne hne];exact hh',rr.keep kp⟩
 ·by_cases e1:q=p
  ·subst e1;exact⟨_,upd_same⟩
  ·obtain⟨u,g⟩:=s.es.dm q hq;exact⟨u,by rw[upd_ne e1];exact g⟩
 ·have hne:q≠p:=fun z=>by subst z;rw[s.fr k q ho] at hq;cases hq
  exact(s.ext q u nb hq).to fun v e=>.of (by rw[upd_ne hne];exact e)
theorem SI.frozen (s:SI G O0 H0 O H σ ρ n):ES G O0 H σ (ρ.map Ent.freeze) n:=by
 refine⟨⟨by simp[s.es.er.1],fun i e he=>?_⟩,s.es.ok,s.p0,fun p h=>s.es.dm p (s.sub p h)⟩
 rw[List.getElem?_map] at he
 cases q:ρ[i]? with
 |none=>rw[q] at he;cases he
 |some t=>
  rw[q] at he
  cases he
  have r1:=s.es.er.2 i t q
  cases t with
  |un=>trivial
  |val y=>obtain⟨v,hv,rr⟩:=r1;exact⟨v,hv,rr.less s.sub⟩
  |own t=>
   obtain⟨p,ys,hv,hq,nq,hh',rr⟩:=r1
   have h0:=s.fr i p ⟨_,q,rfl,sig_of s.es.er q hv⟩
   exact⟨_,hv,.lst (fun z=>by obtain⟨o,g⟩:=s.d0 p z;rw[h0] at g;cases g) hh' rr.1 (rr.less s.sub).2⟩
  |ownD t=>
   obtain⟨p,ys,hv,hq,nq,hh',rr⟩:=r1
   have h0:=s.fr i p ⟨_,q,rfl,sig_of s.es.er q hv⟩
   exact⟨_,hv,.dct (fun z=>by obtain⟨o,g⟩:=s.d0 p z;rw[h0] at g;cases g) (.inl hh') rr.1 fun i a b c d=>(rr.2 i a b c d).less s.sub⟩
def hide (O0 O:Addr→Prop) (H:Hp):Hp:=fun p=>by
 classical exact if O p∧¬ O0 p then none else H p
theorem hide_in (h:O p) (h': ¬ O0 p):hide O0 O H p=none:=by unfold hide;rw[if_pos ⟨h,h'⟩]
theorem hide_out (h: ¬ (O p∧¬ O0 p)):hide O0 O H p=H p:=by unfold hide;rw[if_neg h]
theorem SI.now (s:SI G O0 H0 O H σ ρ n):SI G O0 (hide O0 O H) O H σ ρ n:=by
 refine⟨s.es,s.p0,s.sub,fun p o nb h=>?_,fun p h=>?_,fun p h=>?_,fun i p h=>?_,s.dj⟩
 ·by_cases c:O p∧¬ O0 p
  ·rw[hide_in c.1 c.2] at h;cases h
  ·rw[hide_out c] at h;exact .of h
 ·by_cases c:O0 p
  ·exact .inl c
  ·exact .inr (hide_in h c)
 ·rw[hide_out (fun z=>z.2 h)];exact s.es.dm p (s.sub p h)
 ·have h1:=ownAt_O s.es h
  have h0:=s.fr i p h
  exact hide_in h1.1 (fun z=>by obtain⟨o,g⟩:=s.d0 p z;rw[h0] at g;cases g)
theorem SI.base (s:SI G O0 H0 O H σ ρ n):Ext G.B H0 (hide O0 O H):=fun p o nb h=>by
 have c: ¬ (O p∧¬ O0 p):=fun z=>by
  rcases s.gr p z.1 with w|w
  ·exact z.2 w
  ·rw[w] at h;cases h
 exact(s.ext p o nb h).to fun v e=>.of (by rw[hide_out c];exact e)
theorem SI.back (s:SI G O0 H0 O H σ ρ n) (x:SI G O0 (hide O0 O H) O' H1 σ' ρ' n'):SI G O0 H0 O' H1 σ' ρ' n':=by
 have none0: ∀ p,¬ G.priv p→hide O0 O H p=none→H0 p=none:=fun p np h=>by
  cases e:H0 p with
  |none=>rfl
  |some o=>obtain⟨_,this⟩:=(s.base p o (fun z=>np (z▸G.pB)) e).there;rw[h] at this;cases this
 refine⟨x.es,x.p0,x.sub,s.base.trans x.ext,fun p h=>?_,s.d0,fun i p h=>none0 p (ownAt_O x.es h).2.1 (x.fr i p h),x.dj⟩
 by_cases c:O0 p
 ·exact .inl c
 ·rcases x.gr p h with w|w
  ·exact .inl w
  ·exact .inr (none0 p (fun z=>c (s.p0 p z)) w)
theorem SI.walk {K:PySem.W.Frag} {H1:Hp} {O':Addr→Prop} {σ':St} {ρ':PEnv} {l:List PV} {J:It} (s:SI G O0 H0 O H σ ρ n) (x:SI G O0 (hide O0 O H) O' H1 σ' ρ' n') (it:ItOf K G O true H l J):ItOf K G O' true H1 l J:=by
 have k: ∀ p o,¬ O p→H p=some o→Stand H1 p o∧¬ O' p:=fun p o np hp=>by
  have e:hide O0 O H p=some o:=by rw[hide_out (fun z=>np z.1)];exact hp
  refine⟨x.ext p o (fun z=>np (z▸s.es.B)) e,fun z=>?_⟩
  rcases x.gr p z with w|w
  ·exact np (s.sub p w)
  ·rw[w] at e;cases e
 cases it with
 |lst np hp h r=>exact .lst np (fun _=>(k _ _ (hp rfl) h).2) (k _ _ (hp rfl) h).1 (r.keepS k)
 |tup hp h r=>exact .tup (k _ _ hp h).2 (k _ _ hp h).1 (r.keepS k)
 |txt z=>exact .txt z
 |rng lo n=>exact .rng lo n
end
noncomputable def FlOk (G:Bg φ) (O0:Addr→Prop) (H0:Hp) (D:Ends) (n:Nat):Fl→Prop
 | .nx ρ=> ∀ O σ H,SI G O0 H0 O H σ ρ n→D.nx σ H
 | .bk ρ=> ∀ O σ H,SI G O0 H0 O H σ ρ n→D.bk σ H
 | .ct ρ=> ∀ O σ H,SI G O0 H0 O H σ ρ n→D.ct σ H
 | .rt y=> ∀ x H,Ext G.B H0 H→G.ok H n→Rep G.B O0 H y x→D.rt x H
def tsP (φ:Fam) (m:PEnv→M Fl):TS:=fun D σ H=> ∃ (G:Bg φ) (O0:Addr→Prop) (H0:Hp) (O:Addr→Prop) (ρ:PEnv) (n:Nat),SI G O0 H0 O H σ ρ n∧(m ρ).wp n fun f n'=>FlOk G O0 H0 D n' f
def SV (φ:Fam) (X:Cx) (st:Stmt) (m:PEnv→M Fl):Prop:=BS X st (tsP φ m)
def SsV (φ:Fam) (X:Cx) (sts:List Stmt) (m:PEnv→M Fl):Prop:=BSs X sts (tsP φ m)
section
variable {X:Cx} {st:Stmt} {sts:List Stmt}
theorem BS.mono (h:BS X st t) (f: ∀ D σ H,t' D σ H→t D σ H):BS X st t':=⟨fun pZ s σ H D I q=>h.out pZ s σ H D I (f D σ H q)⟩
theorem BSs.mono (h:BSs X sts t) (f: ∀ D σ H,t' D σ H→t D σ H):BSs X sts t':=⟨fun pZ s σ H D I q=>h.out pZ s σ H D I (f D σ H q)⟩
def seqP (m1 m2:PEnv→M Fl):PEnv→M Fl:=fun ρ=>(m1 ρ).bind fun f=>match f with| .nx ρ'=>m2 ρ'|o=>.ret o
theorem ss_nil:SsV φ X [] (fun ρ=>.ret (.nx ρ)):=BSs.mono ⟨pss_nil⟩ fun D σ H ⟨G,O0,H0,O,ρ,n,s,w⟩=>w O σ H s
theorem ss_one (h:SV φ X st m):SsV φ X [st] m:=⟨pss_one h.out⟩
theorem ss_cons (h:SV φ X st m1) (h':SsV φ X sts m2):SsV φ X (st::sts) (seqP m1 m2):=BSs.mono ⟨pss_cons h.out h'.out⟩ fun D σ H hq0=>by
 obtain⟨G,O0,H0,O,ρ,n,s,w⟩:=hq0
 unfold seqP at w
 rw[M.wZ] at w
 refine⟨G,O0,H0,O,ρ,n,s,M.wp_mono w fun f n' h=>?_⟩
 cases f with
 |nx ρ'=>exact fun O' σ' H' s'=>⟨G,O0,H0,O',ρ',n',s',h⟩
 |rt y=>exact h
 |bk ρ'=>exact h
 |ct ρ'=>exact h
def setP (k:Nat) (m:PEnv→M PV):PEnv→M Fl:=fun ρ=>(m ρ).bind fun y=>.ret (.nx (ρ.set k (.val y)))
theorem sv_set (h:BS X st (tAsg (teP φ m) (gName k))):SV φ X st (setP k m):=BS.mono h fun D σ H hq0=>by
 obtain⟨G,O0,H0,O,ρ,n,s,w⟩:=hq0
 unfold setP at w
 rw[M.wZ] at w
 exact⟨G,O,ρ,n,_,s.es,w,fun y x H1 n1 e1 ok1 r1 w1=>w1 O _ _ ((s.to e1 ok1).setV k r1)⟩
def ownP (k:Nat) (m:PEnv→M (List PV)):PEnv→M Fl:=fun ρ=>(m ρ).bind fun l=>.ret (.nx (ρ.set k (.own l)))
theorem sv_own (h:BS X st (tAsg (teF φ m) (gName k))):SV φ X st (ownP k m):=BS.mono h fun D σ H hq0=>by
 obtain⟨G,O0,H0,O,ρ,n,s,w⟩:=hq0
 unfold ownP at w
 rw[M.wZ] at w
 exact⟨G,O,ρ,n,_,s.es,w,fun l p xs H1 n1 e1 ok1 hp hp' r1 w1=>w1 _ _ _ (s.setO k e1 ok1 hp hp' r1)⟩
def lstV (m:PEnv→M (List PV)):PEnv→M PV:=fun ρ=>(m ρ).bind fun l=>.ret (.lst l)
def unpP (ks:List Nat) (m:PEnv→M PV):PEnv→M Fl:=fun ρ=>(m ρ).bind fun y=>(bindT ks y ρ).bind fun ρ'=>.ret (.nx ρ')
def parP (i j:Nat) (m:PEnv→M (List PV)):PEnv→M Fl:=fun ρ=>(m ρ).bind fun l=>match l with|[y,z]=>.ret (.nx ((ρ.set i (.val y)).set j (.val z)))|_=>.fail
theorem sv_par (h:BS X st (tPar i j (taP φ m))):SV φ X st (parP i j m):=BS.mono h fun D σ H hq0=>by
 obtain⟨G,O0,H0,O,ρ,n,s,w⟩:=hq0
 unfold parP at w
 rw[M.wZ] at w
 refine⟨G,O,ρ,n,_,s.es,w,fun l xs H1 n1 e1 ok1 r1 w1=>?_⟩
 match l,r1,w1 with
 |[y,z],r1,w1=>
  obtain⟨x,t,rfl,h1,h2⟩:=r1.cons_inv
  obtain⟨x',t',rfl,h3,h4⟩:=h2.cons_inv
  rw[h4.nil_inv]
  exact⟨x,x',rfl,w1 O _ _ (((s.to e1 ok1).setV i h1).setV j h3)⟩
def tPar3 (i j k:Nat) (ta:TA):TS:=fun D σ H=>ta σ H fun vs H1=> ∃ u v w,vs=[u,v,w]∧D.nx (((σ.set i (some u)).set j (some v)).set k (some w)) H1
theorem ps_par3 {kt k2 pt2} (hc:X.calm=true) (hN:X.N.Nodup) (hi:X.N[i]?=some x) (hj:X.N[j]?=some y) (hk:X.N[k]?=some z) (hij:i≠j) (hik:i≠k) (hjk:j≠k)
  (hx:X.env.scope.names.lookup x=some .local) (hy:X.env.scope.names.lookup y=some .local) (hz:X.env.scope.names.lookup z=some .local) (ha:PA X [a,b,c] ta)
  (hw:swappedStores [.Tuple [.Name x px,.Name y py,.Name z pz] kt pt] (.Tuple [a,b,c] k2 pt2) X.env=pure (some [x,y,z]))
  (hs:swapsWithSole [.Tuple [.Name x px,.Name y py,.Name z pz] kt pt] (.Tuple [a,b,c] k2 pt2) pos.line X.env=pure false:=by rfl):
  PS X (.Assign [.Tuple [.Name x px,.Name y py,.Name z pz] kt pt] (.Tuple [a,b,c] k2 pt2) pos) (tPar3 i j k ta):=by
 intro pZ s σ H D I h
 rw[exec_Assign_arm]
 refine wpAny_bind (wpAny_standAt ?_)
 rw[hs]
 refine wpAny_bind (wpAny_pure ?_)
 rw[if_neg (by decide)]
 refine wpAny_bind (Tuple_ (thn (ha _ pZ s σ H _ I h) fun us s1 ⟨vs,H1,I1,r1,q1⟩=>?_))
 obtain⟨v1,v2,v3,e1,q1⟩:=q1
 subst e1
 obtain⟨u1,u2,u3,rfl,r1',r2',r3'⟩: ∃ u1 u2 u3,us=[u1,u2,u3]∧RelV v1 u1∧RelV v2 u2∧RelV v3 u3:=by
  cases r1 with
  |cons p q=>
   cases q with
   |cons p' q'=>
    cases q' with
    |cons p'' q''=>
     cases q''
     exact⟨_,_,_,rfl,p,p',p''⟩
 refine wpAny_newObj_type ?_ (by show 3≤sizeLine;decide)
 have I2:Inv X pZ σ H1 {s1 with heap:=s1.heap.push {cls:=.type "tuple",data:=.seq [u1,u2,u3].toArray}}:=I1.kept (t':=s1.toks) fun b o e=>Heap.get?_push_of_some _ e
 rw[hw]
 refine wpAny_bind (wpAny_pure ?_)
 show wpAny (model X.prog X.w) X.A (do rule "assign.swapped-stores";let items ←unpackItems (.ref s1.heap.objs.size) 3 none;assignInOrder [fun v=>bindName X.env z v,fun v=>bindName X.env y v,fun v=>bindName X.env x v] items.reverse;pure Flow.next) _ _ _
 refine wpAny_bind (wpAny_rule (wpAny_bind (unpackItems_tuple (items:= #[u1,u2,u3]) (I.ok.hd hc) (IsTup.new s1.heap _) fun h' hx'=>?_)))
 have I3:=I2.kept (h':=h') (t':=s1.toks) fun b o e=>hx' b o (Nat.ne_of_lt (Heap.lt_size e)) e
 show wpAny _ _ (assignInOrder [fun v=>bindName X.env z v,fun v=>bindName X.env y v,fun v=>bindName X.env x v] [u3,u2,u1] >>= fun _=>pure Flow.next) _ _ _
 refine wpAny_bind (assignInOrder_cons (wpAny_bindName (store_ok I3 hN hk (.inl hz) r3' (fun s2 I4=>?_) (.inr hz))))
 refine assignInOrder_cons (wpAny_bindName (store_ok I4 hN hj (.inl hy) r2' (fun s3 I5=>?_) (.inr hy)))
 refine assignInOrder_cons (wpAny_bindName (store_ok I5 hN hi (.inl hx) r1' (fun s4 I6=>assignInOrder_nil (wpAny_pure ?_)) (.inr hx)))
 refine⟨_,H1,?_,q1⟩
 have e1:((σ.set k (some v3)).set j (some v2)).set i (some v1)=((σ.set i (some v1)).set j (some v2)).set k (some v3):=by
  rw[List.set_comm _ _ (Ne.symm hjk),List.set_comm _ _ (Ne.symm hik),List.set_comm _ _ (Ne.symm hij)]
 rw[←e1]
 exact I6
def par3P (i j k:Nat) (m:PEnv→M (List PV)):PEnv→M Fl:=fun ρ=>(m ρ).bind fun l=>match l with|[y,z,u]=>.ret (.nx (((ρ.set i (.val y)).set j (.val z)).set k (.val u)))|_=>.fail
theorem sv_par3 (h:BS X st (tPar3 i j k (taP φ m))):SV φ X st (par3P i j k m):=BS.mono h fun D σ H hq0=>by
 obtain⟨G,O0,H0,O,ρ,n,s,w⟩:=hq0
 unfold par3P at w
 rw[M.wZ] at w
 refine⟨G,O,ρ,n,_,s.es,w,fun l xs H1 n1 e1 ok1 r1 w1=>?_⟩
 match l,r1,w1 with
 |[y,z,u],r1,w1=>
  obtain⟨x,t,rfl,h1,h2⟩:=r1.cons_inv
  obtain⟨x',t',rfl,h3,h4⟩:=h2.cons_inv
  obtain⟨x'',t'',rfl,h5,h6⟩:=h4.cons_inv
  rw[h6.nil_inv]
  exact⟨x,x',x'',rfl,w1 O _ _ ((((s.to e1 ok1).setV i h1).setV j h3).setV k h5)⟩
def retP (m:PEnv→M PV):PEnv→M Fl:=fun ρ=>(m (ρ.map Ent.freeze)).bind fun y=>.ret (.rt y)
theorem sv_ret (h:BS X st (tRet (teP φ m))):SV φ X st (retP m):=BS.mono h fun D σ H hq0=>by
 obtain⟨G,O0,H0,O,ρ,n,s,w⟩:=hq0
 unfold retP at w
 rw[M.wZ] at w
 exact⟨G,O0,_,n,_,s.frozen,w,fun y x H1 n1 e1 ok1 r1 w1=>w1 x H1 (s.ext.trans e1) ok1 r1⟩
def ifP (mc:PEnv→M Bool) (ma mb:PEnv→M Fl):PEnv→M Fl:=fun ρ=>(mc ρ).bind fun b=>if b=true then ma ρ else mb ρ
theorem sv_if (h:BS X st (tIfS (ttP φ mc) (tsP φ ma) (tsP φ mb))):SV φ X st (ifP mc ma mb):=BS.mono h fun D σ H hq0=>by
 obtain⟨G,O0,H0,O,ρ,n,s,w⟩:=hq0
 unfold ifP at w
 rw[M.wZ] at w
 refine⟨G,O,ρ,n,_,s.es,w,fun b H1 n1 e1 ok1 w1=>?_⟩
 cases b with
 |true=>exact⟨G,O0,H0,O,ρ,n1,s.to e1 ok1,w1⟩
 |false=>exact⟨G,O0,H0,O,ρ,n1,s.to e1 ok1,w1⟩
noncomputable def appP (k:Nat) (m:PEnv→M PV):PEnv→M Fl:=fun ρ=>match ρ[k]? with|some (.own l)=>(m ρ).bind fun y=>if l.length < 100000 then .ret (.nx (ρ.set k (.own (l++[y])))) else .fail|_=>.fail
theorem sv_app (h:BS X st (tDrop (tBM X.K "list" rAppend (tVar k) (tCons (teP φ m) tNil)))):SV φ X st (appP k m):=BS.mono h fun D σ H hq0=>by
 obtain⟨G,O0,H0,O,ρ,n,s,w⟩:=hq0
 unfold appP at w
 cases hk:ρ[k]? with
 |none=>simp only[hk] at w;exact w.elim
 |some t=>
  cases t with
  |own l=>
   simp only[hk] at w
   obtain⟨p,xs,hx,hO,np,hh,rr⟩:=s.es.er.2 k _ hk
   have hs:=sig_of s.es.er hk hx
   have npB:p≠G.B:=fun z=>np (z▸G.pB)
   rw[M.wZ] at w
   refine⟨_,hs,.inl ⟨rfl,xs,SqL.of hh⟩,G,O,ρ,n,_,s.es,w,fun y x H1 n1 e1 ok1 r1 w1=>?_⟩
   by_cases hc:l.length < 100000
   ·rw[if_pos hc] at w1
    have s1:=s.to e1 ok1
    have big:=big_le
    refine⟨p,xs,x,rfl,rfl,e1 p _ npB hh,by rw[←rr.1];lia,w1 O _ _ (s1.put hk hs ((rr.ext s.es.B e1).append (.cons r1 .nil)))⟩
   ·rw[if_neg hc] at w1;exact w1.elim
  |_=>simp only[hk] at w;exact w.elim
noncomputable def tgS (φ:Fam) (b:PV→PEnv→M PEnv):TG:=fun v σ H Q=> ∃ (G:Bg φ) (O0:Addr→Prop) (H0:Hp) (O:Addr→Prop) (ρ:PEnv) (n:Nat) (R:PEnv→Nat→Prop) (y:PV),SI G O0 H0 O H σ ρ n∧Rep G.B O H y v∧(b y ρ).wp n R∧
 ∀ (σ':St) (ρ':PEnv) (n':Nat),SI G O0 H0 O H σ' ρ' n'→R ρ' n'→Q σ' H
def GS (φ:Fam) (X:Cx) (tg:Expr) (b:PV→PEnv→M PEnv):Prop:=BG X tg (tgS φ b)
theorem gs_name (h:BG X tg (gName k)):GS φ X tg (bindN k):=BG.mono h fun v σ H Q ⟨G,O0,H0,O,ρ,n,R,y,s,r,w,q⟩=>q _ _ n (s.setV k r) w
noncomputable def forP (bd:PV→PEnv→M PEnv) (mb:PEnv→M Fl):List PV→PEnv→M Fl
 |[],ρ=>.ret (.nx ρ)
 |y::r,ρ=>(bd y ρ).bind fun ρ1=>(mb ρ1).bind fun f=>match f with
  | .nx ρ2=>forP bd mb r ρ2
  | .ct ρ2=>forP bd mb r ρ2
  | .bk ρ2=>.ret (.nx ρ2)
  | .rt v=>.ret (.rt v)
def mkFor (mi:PEnv→M (List PV)) (bd:PV→PEnv→M PEnv) (mb:PEnv→M Fl):PEnv→M Fl:=fun ρ=>(mi ρ).bind fun l=>forP bd mb l ρ
theorem sv_for {mi:PEnv→M (List PV)} {bd:PV→PEnv→M PEnv} {mb:PEnv→M Fl} (h:BS X st (tFor (tiP φ X.K true mi) (tgS φ bd) (tsP φ mb))):SV φ X st (mkFor mi bd mb):=BS.mono h fun D σ H hq0=>by
 obtain⟨G,O0,H0,O,ρ,n,s,w⟩:=hq0
 unfold mkFor at w
 rw[M.wZ] at w
 refine⟨G,O,ρ,n,_,s.es,w,fun l J H1 n1 e1 ok1 it w1=>?_⟩
 have s1:=s.to e1 ok1
 refine⟨fun i m σ' H'=>m=l.length - i∧i≤l.length∧∃ (O':Addr→Prop) (ρ':PEnv) (n':Nat),SI G O0 (hide O0 O H1) O' H' σ' ρ' n'∧(forP bd mb (l.drop i) ρ').wp n' (fun f n'=>FlOk G O0 H0 D n' f),
  ⟨l.length,by simp,Nat.zero_le _,O,ρ,n1,s1.now,by simpa using w1⟩,?_⟩
 rintro i m σ' H' ⟨rfl,hi,O',ρ',n',s',w'⟩
 have it':=s1.walk s' it
 by_cases hlt:i < l.length
 ·have hget:l[i]?=some l[i]:=List.getElem?_eq_getElem hlt
  have hdrop:l.drop i=l[i]::l.drop (i+1):=List.drop_eq_getElem_cons hlt
  rw[hdrop] at w'
  unfold forP at w'
  obtain⟨g1,g2⟩:=it'.go hget
  refine .inr ⟨g1,fun σ2 H2=> ∃ (O':Addr→Prop) (ρ':PEnv) (n':Nat),SI G O0 (hide O0 O H1) O' H2 σ2 ρ' n'∧(forP bd mb (l.drop (i+1)) ρ').wp n' (fun f n'=>FlOk G O0 H0 D n' f),fun σ2 H2 hh=>⟨l.length - (i+1),by lia,rfl,hlt,hh⟩,fun x H2 yl=>?_⟩
  obtain⟨eH,rx⟩:=g2 x H2 yl
  subst eH
  rw[M.wZ] at w'
  refine⟨G,O0,_,O',ρ',n',_,l[i],s',rx,w',fun σ2 ρ2 n2 s2 w2=>?_⟩
  rw[M.wZ] at w2
  refine⟨G,O0,_,O',ρ2,n2,s2,M.wp_mono w2 fun f n3 w3=>?_⟩
  cases f with
  |nx ρ3=>exact fun O3 σ3 H3 s3=>⟨O3,ρ3,n3,s3,w3⟩
  |ct ρ3=>exact fun O3 σ3 H3 s3=>⟨O3,ρ3,n3,s3,w3⟩
  |bk ρ3=>exact fun O3 σ3 H3 s3=>w3 O3 σ3 H3 (s1.back s3)
  |rt y=>exact fun x3 H3 e3 ok3 r3=>w3 x3 H3 (s1.base.trans e3) ok3 r3
 ·have e:i=l.length:=by lia
  subst e
  rw[List.drop_length] at w'
  exact .inl ⟨it'.stop,w' O' σ' H' (s1.back s')⟩
end
def finP:Fl→M PV
 | .nx _=>.ret .non
 | .rt y=>.ret y
 |_=>.fail
def startP (k:Nat) (l:List PV):PEnv:=l.map val++List.replicate (k - l.length) .un
def fnP (a k:Nat) (m:PEnv→M Fl) (l:List PV):M PV:=if l.length=a then(m (startP k l)).bind finP else .fail
theorem start_get {vs:List V} {i:Nat} (h:vs[i]?=some x):(start N vs)[i]?=some (some x):=by
 unfold start
 have hi:i < vs.length:=(List.getElem?_eq_some_iff.mp h).1
 rw[List.getElem?_append_left (by simpa using hi),List.getElem?_map,h]
 rfl
section
variable {P:Program} {w:World} {K:PySem.W.Frag} {mg:Str→Option Value} {base:Heap}
theorem fn_ok {x qual:Str} {st:Stmt} {f:Addr} {fd:FuncData} {N ps:List Str} {k:Nat} {m:PEnv→M Fl} (F:Fun K x qual st f fd) (S:FnScope N ps (defScope st)) (hN:ps.length≤N.length)
  (hb: ∀ (cdv:Value) (A:Around) (outer:List Env) (s:Shared) (H:Hp) (E:XK),Room k (A.deeper (envOfC qual (defScope st) s.heap.objs.size f cdv))→SsV φ (cxOf CX0 P w K mg base N qual (defScope st) f cdv A outer s H E).nox (defBody st) m):
  FnOk P w K mg base CX0 (k+1) f fd ps (spP φ (fnP ps.length N.length m)):=by
 refine F.ok S (fun vs H Q E h=>?_) (fun cdv A outer s H vs Q E hr h=>⟨_,(hb cdv A outer s H E hr).out,?_⟩)
 ·obtain⟨G,O,l,n,R,_,_,_,r,w,_⟩:=h
  unfold fnP at w
  by_cases hc:l.length=ps.length
  ·rw[←r.1,hc]
  ·rw[if_neg hc] at w;exact w.elim
 ·obtain⟨G,O,l,n,R,pr,dm,ok,r,w,q⟩:=h
  unfold fnP at w
  by_cases hc:l.length=ps.length
  ·rw[if_pos hc,M.wZ] at w
   refine⟨G,O,H,O,startP N.length l,n,⟨⟨⟨?_,fun i e he=>?_⟩,ok,pr,dm⟩,pr,fun p h=>h,Ext.refl _ _,fun p h=>.inl h,dm,fun i p h=>?_,fun i j p h=>?_⟩,M.wp_mono w fun f n' h=>?_⟩
   ·unfold start startP;simp[r.1]
   ·unfold startP at he
    by_cases hi:i < l.length
    ·rw[List.getElem?_append_left (by simpa using hi),List.getElem?_map,List.getElem?_eq_getElem hi] at he
     cases he
     obtain⟨x,hx,rr⟩:=r.at (List.getElem?_eq_getElem hi)
     exact⟨x,by rw[start_get hx];rfl,rr⟩
    ·rw[List.getElem?_append_right (by simpa using hi),List.getElem?_replicate] at he
     split at he
     ·cases he;trivial
     ·cases he
   all_goals try (
    obtain⟨t,h1,h2,_⟩:=h
    exfalso
    unfold startP at h1
    by_cases hi:i < l.length
    ·rw[List.getElem?_append_left (by simpa using hi),List.getElem?_map,List.getElem?_eq_getElem hi] at h1
     cases h1;cases h2
    ·rw[List.getElem?_append_right (by simpa using hi),List.getElem?_replicate] at h1
     split at h1
     ·cases h1;cases h2
     ·cases h1)
   cases f with
   |nx ρ=>exact fun O' σ' H' s'=>q .non .non H' n' s'.ext s'.es.ok .non h
   |rt y=>exact fun x' H' e' ok' r'=>q y x' H' n' e' ok' r' h
   |bk ρ=>exact h.elim
   |ct ρ=>exact h.elim
  ·rw[if_neg hc] at w;exact w.elim
end
end
section
variable {φ:Fam}
section
variable {X:Cx} {e a b:Expr} {ma mb:PEnv→M PV}
def MtV (K:PySem.W.Frag) (T:String) (r:V→List V→Hp→VK→Prop) (op:PV→List PV→M PV):Prop:= ∀ (φ:Fam) (G:Bg φ) (O:Addr→Prop) (H0 H:Hp) (n:Nat) (R:PV→Nat→Prop) (Q:VK) (y:PV) (x:V) (l:List PV) (xs:List V),
 (∀ p,G.priv p→O p)→(∀ p,O p→∃ o,H p=some o)→G.ok H n→RepB G O H y x→RepBs G O H l xs→(op y l).wp n R→Wish G O H R Q→r x xs H Q
def tyP:PV→String
 | .str _=>"str"
 | .lst _=>"list"
 | .dct _=>"dict"
 |_=>""
def bmP (T:String) (op:PV→List PV→M PV) (mo:PEnv→M PV) (ml:PEnv→M (List PV)):PEnv→M PV:=fun ρ=>(mo ρ).bind fun y=>if tyP y=T then(ml ρ).bind fun l=>op y l else .fail
theorem ev_bm (h:BE X e (tBM X.K T r (teB φ mo) (taB φ ml))) (hv:MtV X.K T r op) (hT:T≠"":=by decide):EV φ X e (bmP T op mo ml):=BE.mono h fun σ H Q hq0=>by
 obtain⟨G,O,ρ,n,R,s,w,q⟩:=hq0
 unfold bmP at w
 rw[M.wZ] at w
 refine⟨G,O,ρ,n,_,s,w,fun y x H1 n1 e1 ok1 r1 w1=>?_⟩
 by_cases hc:tyP y=T
 ·rw[if_pos hc] at w1
  have ty:tyV X.K T x H1:=by
   subst hc
   cases y<;>first|exact absurd rfl hT|skip
   ·rw[r1.str_i];rfl
   ·obtain⟨p,xs,rfl,hh,_⟩:=r1.lst_i;exact .inl ⟨rfl,xs,SqL.of hh⟩
   ·obtain⟨p,ks,rfl,hh,_⟩:=r1.dct_i;exact .inr (.inr (.inl ⟨rfl,.inl ⟨ks,hh⟩⟩))
  refine⟨ty,?_⟩
  rw[M.wZ] at w1
  refine⟨G,O,ρ,n1,_,s.ext e1 ok1,w1,fun l xs H2 n2 e2 ok2 r2 w2=>?_⟩
  exact hv φ G O H1 H2 n2 R Q y x l xs s.pr (s.ext (e1.trans e2) ok2).dm ok2 (r1.ext s.B e2) r2 w2 fun y x H' n' e o r h=>q y x H' n' (e1.trans (e2.trans e)) o r h
 ·rw[if_neg hc] at w1;exact w1.elim
def strsOf:List PV→Option (List Str)
 |[]=>some []
 | .str b::r=>(strsOf r).map (b:: ·)
 |_=>none
theorem strs_rep: ∀ {l:List PV} {xs:List V} {bs:List Str},Reps B O H l xs→strsOf l=some bs→xs=bs.map V.str
 |[],xs,bs,h,e=>by simp[strsOf] at e;subst e;exact h.nil_inv
 |y::l,xs,bs,h,e=>by
  cases y<;>simp[strsOf] at e
  obtain⟨bs',e1,rfl⟩:=e
  obtain⟨x,r,rfl,h1,h2⟩:=h.cons_inv
  cases h1
  rw[List.map_cons,strs_rep h2 e1]
noncomputable def joinO:PV→List PV→M PV
 | .str sep,[.lst l]=>(M.ofO (strsOf l)).bind fun ys=>if(ys.map (·.length)).sum+ys.length * sep.length≤16777216 then .ret (.str (Txt.join sep ys)) else .fail
 |_,_=>.fail
theorem joinO_inv (w:(joinO y l).wp n R): ∃ sep m,y= .str sep∧l=[.lst m]:=by
 unfold joinO at w
 split at w
 ·exact⟨_,_,rfl,rfl⟩
 ·exact w.elim
theorem mv_join {K:PySem.W.Frag}:MtV K "str" (fun x xs H Q=> ∃ (sep:Str) (p:Addr) (ys:List Str),x= .str sep∧xs=[.ref p]∧SqL K H p (ys.map V.str)∧(ys.map (·.length)).sum+ys.length * sep.length≤16777216∧Q (.str (Txt.join sep ys)) H) joinO:=fun φ G O H0 H n R Q y x l xs pr dm ok r1 r2 w q=>by
 obtain⟨sep,l,rfl,rfl⟩:=joinO_inv w
 ·rw[r1.str_i]
  obtain⟨x2,ex,r3⟩:=r2.one
  subst ex
  obtain⟨p,xs,ep,hh,rr⟩:=r3.lst_i
  subst ep
  unfold joinO at w
  dsimp only at w
  cases es:strsOf l with
  |none=>rw[es] at w;exact w.elim
  |some ys=>
   rw[es] at w
   replace w:(if(ys.map (·.length)).sum+ys.length * sep.length≤16777216 then M.ret (.str (Txt.join sep ys)) else .fail:M PV).wp n R:=w
   by_cases hc:(ys.map (·.length)).sum+ys.length * sep.length≤16777216
   ·rw[if_pos hc] at w
    rw[strs_rep rr es] at hh
    exact⟨sep,p,ys,rfl,rfl,SqL.of hh,hc,q.sc ok (.str _) w⟩
   ·rw[if_neg hc] at w;exact w.elim
theorem ev_dnew:EV φ X (.Dict [] [] pos) (fun _=>.ret (.dct [])):=BE.mono ⟨pe_dnewK⟩ fun σ H Q hq0 p hp=>by
 obtain⟨G,O,ρ,n,R,s,w,q⟩:=hq0
 refine q (.dct []) _ _ n (Ext.new hp _) (Bg.new s.ok hp _) (.dct (fun z=>?_) (.inl upd_same) rfl fun i y x a=>by simp at a) w
 obtain⟨o,g⟩:=s.dm p z
 rw[hp] at g;cases g
def negO:PV→M PV
 | .int i=>.ret (.int (-i))
 |_=>.fail
theorem ev_neg (h:BE X e (tUn (rU fun i=>.int (-i)) (teB φ ma))):EV φ X e (fun ρ=>(ma ρ).bind negO):=BE.mono h fun σ H Q hq0=>by
 obtain⟨G,O,ρ,n,R,s,w,q⟩:=hq0
 rw[M.wZ] at w
 refine⟨G,O,ρ,n,_,s,w,fun y x H1 n1 e1 ok1 r1 w1=>?_⟩
 cases y<;>first|exact w1.elim|skip
 rw[r1.int_i]
 exact⟨_,rfl,q _ _ _ _ e1 ok1 (.int _) w1⟩
noncomputable def catF (ma mb:PEnv→M PV):PEnv→M (List PV):=fun ρ=>(ma ρ).bind fun x=>(mb ρ).bind fun y=>match x,y with| .lst a,.lst b=>if a.length+b.length≤100000 then .ret (a++b) else .fail|_,_=>.fail
theorem ef_cat (h:BE X e (tOp rCat (teB φ ma) (teB φ mb))):EF φ X e (catF ma mb):=BE.mono h fun σ H Q hq0=>by
 obtain⟨G,O,ρ,n,R,s,w,q⟩:=hq0
 unfold catF at w
 rw[M.wZ] at w
 refine⟨G,O,ρ,n,_,s,w,fun y x H1 n1 e1 ok1 r1 w1=>?_⟩
 rw[M.wZ] at w1
 refine⟨G,O,ρ,n1,_,s.ext e1 ok1,w1,fun y' x' H2 n2 e2 ok2 r2 w2=>?_⟩
 replace r1:=r1.ext s.B e2
 cases y<;>cases y'<;>first|exact w2.elim|skip
 rename_i i j
 obtain⟨a,xs,rfl,h1,q1⟩:=r1.lst_i
 obtain⟨b,ys,rfl,h2,q2⟩:=r2.lst_i
 dsimp only at w2
 by_cases hc:i.length+j.length≤100000
 ·rw[if_pos hc] at w2
  have q':WishF G O H2 R Q:=fun l p xs H' n' e o hp a b h=>q l p xs H' n' (e1.trans (e2.trans e)) o (new_before (e1.trans e2) ok2 hp) a b h
  exact⟨a,b,xs,ys,rfl,rfl,h1,h2,Nat.le_trans (by rw[←q1.1,←q2.1];exact hc) big_le,fun p hp=>q'.mk ok2 hp s.B (q1.append q2) w2⟩
 ·rw[if_neg hc] at w2;exact w2.elim
noncomputable def swapP (k:Nat) (m mi mj:PEnv→M PV):PEnv→M Fl:=fun ρ=>(m ρ).bind fun y=>match y,ρ[k]? with
 | .tup [u,v],some (.own l)=>(mi ρ).bind fun i=>(intM i).bind fun i=>(M.ofO (ixN l.length i)).bind fun i'=>(mj (ρ.set k (.own (l.set i' u)))).bind fun j=>(intM j).bind fun j=>(M.ofO (ixN l.length j)).bind fun j'=>.ret (.nx (ρ.set k (.own ((l.set i' u).set j' v))))
 |_,_=>.fail
theorem sv_swap {st:Stmt} {k:Nat} {m mi mj:PEnv→M PV} (h:BS X st (tAsg (teP φ m) (gTup X.K 2 (gCons (gSub (tVar k) (teB φ mi) rSetL) (gCons (gSub (tVar k) (teB φ mj) rSetL) gNil))))):SV φ X st (swapP k m mi mj):=BS.mono h fun D σ H hq0=>by
 obtain⟨G,O0,H0,O,ρ,n,s,w⟩:=hq0
 unfold swapP at w
 rw[M.wZ] at w
 refine⟨G,O,ρ,n,_,s.es,w,fun y x H1 n1 e1 ok1 r1 w1=>?_⟩
 have s1:=s.to e1 ok1
 match y,hk:ρ[k]?,w1,r1 with
 | .tup [u,v],some (.own l),w1,r1=>
  obtain⟨p,xs,hx,hO,np,hh,rr⟩:=s1.es.er.2 k _ hk
  have hs:=sig_of s.es.er hk hx
  have npB:p≠G.B:=fun z=>np (z▸G.pB)
  cases r1 with
  | @tup pt ts _ a b c d=>
   obtain⟨xu,t1,rfl,ru,r2⟩:=Reps.cons_inv (B:=G.B) (O:=O) (H:=H1) (⟨c,d⟩:Reps G.B O H1 [u,v] ts)
   obtain⟨xv,t2,rfl,rv,r3⟩:=r2.cons_inv
   have et:=r3.nil_inv
   subst et
   dsimp only at w1
   rw[M.wZ] at w1
   refine⟨pt,_,rfl,SqT.of b,rfl,xu,_,rfl,_,hs,G,O,ρ,n1,_,s1.es,w1,fun i x2 H2 n2 e2 ok2 r2 w2=>?_⟩
   cases i<;>first|exact w2.elim|skip
   rename_i i
   rw[r2.int_i]
   replace w2:((M.ofO (ixN l.length i)).bind fun i'=>(mj (ρ.set k (.own (l.set i' u)))).bind fun j=>(intM j).bind fun j=>(M.ofO (ixN l.length j)).bind fun j'=>.ret (.nx (ρ.set k (.own ((l.set i' u).set j' v)))):M Fl).wp n2 (fun f n'=>FlOk G O0 H0 D n' f):=w2
   cases hi:ixN l.length i with
   |none=>rw[hi] at w2;exact w2.elim
   |some i'=>
    rw[hi] at w2
    replace w2:((mj (ρ.set k (.own (l.set i' u)))).bind fun j=>(intM j).bind fun j=>(M.ofO (ixN l.length j)).bind fun j'=>.ret (.nx (ρ.set k (.own ((l.set i' u).set j' v)))):M Fl).wp n2 (fun f n'=>FlOk G O0 H0 D n' f):=w2
    rw[M.wZ] at w2
    have s2:=(s1.to e2 ok2).put hk hs ((rr.ext s.es.B e2).set i' (ru.ext s.es.B e2))
    have hkl:k < ρ.length:=(List.getElem?_eq_some_iff.mp hk).1
    refine⟨p,xs,i,i',rfl,rfl,e2 p _ npB hh,by rw[←rr.1];exact hi,?_⟩
    refine⟨xv,[],rfl,_,hs,G,O,_,n2,_,s2.es,w2,fun j x3 H3 n3 e3 ok3 r3 w3=>?_⟩
    cases j<;>first|exact w3.elim|skip
    rename_i j
    rw[r3.int_i]
    replace w3:((M.ofO (ixN l.length j)).bind fun j'=>.ret (.nx (ρ.set k (.own ((l.set i' u).set j' v)))):M Fl).wp n3 (fun f n'=>FlOk G O0 H0 D n' f):=w3
    cases hj:ixN l.length j with
    |none=>rw[hj] at w3;exact w3.elim
    |some j'=>
     rw[hj] at w3
     have s3:=s2.to e3 ok3
     have hk2:(ρ.set k (.own (l.set i' u)))[k]?=some (.own (l.set i' u)):=List.getElem?_set_self hkl
     have hp2:upd H2 p (HO.lst (xs.set i' xu)) p=some (HO.lst (xs.set i' xu)):=upd_same
     have rr2:Reps G.B O H3 (l.set i' u) (xs.set i' xu):=by
      obtain⟨p',xs',hx',hO',np',hh',rr'⟩:=s3.es.er.2 k _ hk2
      rw[hs] at hx'
      cases hx'
      have e:=e3 p _ npB hp2
      rw[e] at hh'
      cases hh'
      exact rr'
     have rv3:Rep G.B O H3 v xv:=by
      have r5:=rv.ext s.es.B e2
      exact r5.keepS fun q o nq hq=>⟨e3 q o (fun z=>nq (z▸s.es.B)) (by
       have hne:q≠p:=fun z=>nq (z▸hO)
       rw[upd_ne hne];exact hq),nq⟩
     have s4:=s3.put hk2 hs (rr2.set j' rv3)
     rw[List.set_set] at s4
     exact⟨p,xs.set i' xu,j,j',rfl,rfl,e3 p _ npB hp2,by rw[List.length_set,←rr.1];exact hj,rfl,w3 O _ _ s4⟩
end
end
section
variable {φ:Fam}
section
variable {X:Cx} {e a b o:Expr} {es:List Expr} {pos p:Pos} {x:Str} {id T:String} {r:List V→Hp→VK→Prop} {t:TA} {st:Stmt}
theorem bv (i:Nat) (hN:X.N[i]?=some x:=by rfl) (hv:Vis X.env.scope x:=by first|exact Or.inl rfl|exact Or.inr (Or.inl rfl)|exact Or.inr (Or.inr rfl)) (hd:(x==("__debug__":Str))=false:=by decide)
  (hcd:(x==("__classdict__":Str))=false:=by decide):BE X (.Name x pos) (tVar i):=⟨pe_var hN hv hd hcd⟩
theorem be_callB (hc:CallR X (.builtin id) r) (hg:Gl X x) (hm:X.mg x=none) (hv:bootBuiltins x=some (.builtin id)) (ha:BA X (e::es) t) (hn:x≠"__name__":=by decide) (hdb:(x==("__debug__":Str))=false:=by decide)
  (he:starEach (e::es) X.env=(false,eval e X.env)::starEach es X.env:=by rfl) (hpl:(backTo pos (starEach es X.env)).any (·.1)=false:=by rfl):BE X (.Call (.Name x p) (e::es) [] pos) (tCB r t):=⟨pe_callB hc hg hm hv ha.out hn hdb he hpl⟩
theorem be_callTy (hc:CallR X (.type T) r) (hg:Gl X x) (hm:X.mg x=none) (hv:bootBuiltins x=some (.type T)) (ha:BA X (e::es) t) (hn:x≠"__name__":=by decide) (hdb:(x==("__debug__":Str))=false:=by decide)
  (he:starEach (e::es) X.env=(false,eval e X.env)::starEach es X.env:=by rfl) (hpl:(backTo pos (starEach es X.env)).any (·.1)=false:=by rfl):BE X (.Call (.Name x p) (e::es) [] pos) (tCB r t):=⟨pe_callTy hc hg hm hv ha.out hn hdb he hpl⟩
theorem be_call (F:FnOk X.prog X.w X.K X.mg X.base CX k f fd ps sp) (hr:Room k X.A) (hg:Gl X x) (hm:X.mg x=some (.ref f)) (hk:PySem.W.keepIn X.K (.ref f)=true) (hb:Binds X.K fd ps ds) (hd:Vals dvs ds) (hx:Passes CX X E)
  (ha:BA X (e::es) t) (hdb:(x==("__debug__":Str))=false:=by decide) (he:starEach (e::es) X.env=(false,eval e X.env)::starEach es X.env:=by rfl) (hpl:(backTo pos (starEach es X.env)).any (·.1)=false:=by rfl):
  BE X (.Call (.Name x p) (e::es) [] pos) (tCall sp dvs E t):=⟨pe_call F hr hg hm hk hb hd hx ha.out hdb he hpl⟩
theorem ba_nil:BA X [] tNil:=⟨pa_nil⟩
theorem ba_cons (ha:BE X e te) (hr:BA X es t) (hs:starEach (e::es) X.env=(false,eval e X.env)::starEach es X.env:=by rfl):BA X (e::es) (tCons te t):=⟨pa_cons ha.out hr.out hs⟩
theorem be_bltn (hg:Gl X x) (hm:X.mg x=none) (hv:bootBuiltins x=some u) (r:RelV v u) (hn:x≠"__name__":=by decide) (hd:(x==("__debug__":Str))=false:=by decide):BE X (.Name x pos) (tC v):=⟨pe_bltn hg hm hv r hn hd⟩
theorem be_bm {apos cpos:Pos} {name:Str} {to:TE} {r:V→List V→Hp→VK→Prop} (pa:PlainAttrs T) (slot:Slot T name id) (hty:typeOf (.builtin id)=pure (.type "method_descriptor")) (hm:MtR X id r) (ho:BE X o to) (ha:BA X (e::es) t)
  (hbase:attributeBase o name X.env (eval o X.env)=eval o X.env:=by rfl)
  (hfew:((backTo cpos (starEach (e::es) X.env)).all (fun x=>!x.1)&&(backToKw cpos (keywordEach [] X.env)).all (fun x=>x.1.isSome)
   &&decide ((e::es).length+([]:List Keyword).length+(if([]:List Keyword).isEmpty then 0 else 1) < 30))=true:=by rfl)
  (hline:(apos.endLine==cpos.line)=true:=by rfl) (hs:starEach (e::es) X.env=(false,eval e X.env)::starEach es X.env:=by rfl) (hplain:(backTo cpos (starEach es X.env)).any (·.1)=false:=by rfl):
  BE X (.Call (.Attribute o name apos) (e::es) [] cpos) (tBM X.K T r to t):=⟨pe_bm pa slot hty hm ho.out ha.out hbase hfew hline hs hplain⟩
theorem be_lc (L:LcScope X scope N js) (hc:X.calm=true) (hi:BI X target iter wi)
  (hg: ∀ s₀ H₀ ex pn,BG (cxC X scope N s₀ H₀ ex pn) target g) (ht: ∀ s₀ H₀ ex pn,BTs (cxC X scope N s₀ H₀ ex pn) ifs tt) (he: ∀ s₀ H₀ ex pn,BE (cxC X scope N s₀ H₀ ex pn) elt te)
  (hs: ∀ x,foldedSetIterable iter X.env x=pure x:=by intro _;rfl):BE X (.ListComp elt [⟨target,iter,ifs,0⟩] scope pos) (tLC js wi g tt te):=⟨pe_lc L hc hi.out (fun a b c d=>(hg a b c d).out) (fun a b c d=>(ht a b c d).out) (fun a b c d=>(he a b c d).out) hs⟩
theorem bs_set (hN:X.N.Nodup) (hi:X.N[i]?=some x) (hx:Loc X.env.scope x) (he:BE X e te) (hs:swapsWith e (some (.Name x pos')) pos.line X.env=pure false:=by rfl) (hf:X.fn x=true∨X.env.scope.names.lookup x=some .local:=by first|exact .inl rfl|exact .inr rfl|assumption):
  BS X (.Assign [.Name x pos'] e pos) (tAsg te (gName i)):=⟨ps_set hN hi hx he.out hs hf⟩
theorem bs_asg (he:BE X e te) (hg:BG X tg g) (hs:swapsWithSole [tg] e pos.line X.env=pure false:=by rfl) (hw:swappedStores [tg] e X.env=pure none:=by rfl)
  (h1:(assignEach [tg] X.env).map (·.2)=[assign tg X.env]:=by rfl):BS X (.Assign [tg] e pos) (tAsg te g):=⟨ps_asg he.out hg.out hs hw h1⟩
theorem bs_par {kt k2 pt2} (hc:X.calm=true) (hN:X.N.Nodup) (hi:X.N[i]?=some x) (hj:X.N[j]?=some y) (hij:i≠j)
  (hx:X.env.scope.names.lookup x=some .local) (hy:X.env.scope.names.lookup y=some .local) (ha:BA X [a,b] ta)
  (hw:swappedStores [.Tuple [.Name x px,.Name y py] kt pt] (.Tuple [a,b] k2 pt2) X.env=pure (some [x,y]))
  (hs:swapsWithSole [.Tuple [.Name x px,.Name y py] kt pt] (.Tuple [a,b] k2 pt2) pos.line X.env=pure false:=by rfl):
  BS X (.Assign [.Tuple [.Name x px,.Name y py] kt pt] (.Tuple [a,b] k2 pt2) pos) (tPar i j ta):=⟨ps_par hc hN hi hj hij hx hy ha.out hw hs⟩
theorem bs_par3 {kt k2 pt2} (hc:X.calm=true) (hN:X.N.Nodup) (hi:X.N[i]?=some x) (hj:X.N[j]?=some y) (hk:X.N[k]?=some z) (hij:i≠j) (hik:i≠k) (hjk:j≠k)
  (hx:X.env.scope.names.lookup x=some .local) (hy:X.env.scope.names.lookup y=some .local) (hz:X.env.scope.names.lookup z=some .local) (ha:BA X [a,b,c] ta)
  (hw:swappedStores [.Tuple [.Name x px,.Name y py,.Name z pz] kt pt] (.Tuple [a,b,c] k2 pt2) X.env=pure (some [x,y,z]))
  (hs:swapsWithSole [.Tuple [.Name x px,.Name y py,.Name z pz] kt pt] (.Tuple [a,b,c] k2 pt2) pos.line X.env=pure false:=by rfl):
  BS X (.Assign [.Tuple [.Name x px,.Name y py,.Name z pz] kt pt] (.Tuple [a,b,c] k2 pt2) pos) (tPar3 i j k ta):=⟨ps_par3 hc hN hi hj hk hij hik hjk hx hy hz ha.out hw hs⟩
theorem bs_ret (he:BE X e te):BS X (.Return (some e) pos) (tRet te):=⟨ps_ret he.out⟩
theorem bs_if {c:Expr} {ss tt:List Stmt} {tc:TT} {t u:TS} (hc:BT X c tc) (ha:BSs X ss t) (hb:BSs X tt u):BS X (.If c ss tt pos) (tIfS tc t u):=⟨ps_if hc.out ha.out hb.out⟩
theorem bs_for (hp:PassesOwn (model X.prog X.w) X.A X.env X.xe) (hc:X.calm=true) (hi:BI X tg iter wi) (hg:BG X tg g) (hb:BSs X body tb)
  (hs: ∀ x,foldedSetIterable iter X.env x=pure x:=by intro _;rfl):BS X (.For tg iter body [] pos) (tFor wi g tb):=⟨ps_for hp hc hi.out hg.out hb.out hs⟩
theorem bs_expr (he:BE X e te) (hs:swapsWith e none pos.line X.env=pure false:=by rfl):BS X (.Expr e pos) (tDrop te):=⟨ps_expr he.out hs⟩
theorem bi_range1 (hg:Gl X "range") (hm:X.mg "range"=none) (ha:BA X [a] ta) (hs:starEach [a] X.env=[(false,eval a X.env)]:=by rfl):BI X tg (.Call (.Name "range" p) [a] [] pos) (iRng1 ta):=⟨pi_range1 hg hm ha.out hs⟩
theorem be_slice {r:V→Option Int→Option Int→Hp→VK→Prop} {te:TE} {tl th:TO} {lo hi:Option Expr} {p2:Pos} (hr:SlR X r) (he:BE X e te) (hl:BO X lo tl) (hu:BO X hi th):BE X (.Subscript e (.Slice lo hi none p2) pos) (tSl r te tl th):=⟨pe_slice hr he.out hl.out hu.out⟩
theorem be_un {op:UnaryOp} {r:V→Hp→VK→Prop} {ta:TE} (ho:UnR X (unaryOp op) r) (ha:BE X a ta):BE X (.UnaryOp op a pos) (tUn r ta):=⟨pe_un ho ha.out⟩
theorem be_op {op:Operator} {r:R2} {ta tb:TE} (ho:OpR X (binaryOp op) r) (ha:BE X a ta) (hb:BE X b tb):BE X (.BinOp a op b pos) (tOp r ta tb):=⟨pe_op ho ha.out hb.out⟩
theorem bg_name (hN:X.N.Nodup) (hi:X.N[i]?=some x) (hx:Loc X.env.scope x) (hf:X.fn x=true∨X.env.scope.names.lookup x=some .local:=by first|exact .inl rfl|exact .inr rfl|assumption):BG X (.Name x pos) (gName i):=⟨pg_name hN hi hx hf⟩
theorem bgs_nil:BGs X [] gNil:=⟨pgs_nil⟩
theorem bgs_cons {t:TG} {u:TGs} (h1:BG X e t) (h2:BGs X es u)
  (hs:(assignEach (e::es) X.env).map (·.2)=assign e X.env::(assignEach es X.env).map (·.2):=by rfl):BGs X (e::es) (gCons t u):=⟨pgs_cons h1.out h2.out hs⟩
theorem bg_tup {k:Nat} {t:TGs} {n:Nat} (hc:X.calm=true) (h:BGs X es t)
  (hn:(assignEach es X.env).length=n:=by rfl) (hst:(assignEach es X.env).findIdx? (·.1)=none:=by rfl):BG X (.Tuple es k pos) (gTup X.K n t):=⟨pg_tup hc h.out hn hst⟩
theorem bg_sub {i:Expr} {to ti:TE} {t:TSet} (ho:BE X o to) (hi:BE X i ti) (hs:PSet X t) (H: ∀ (a1:PE X o to) (a2:PE X i ti),PG X (.Subscript o i pos) (gSub to ti t):=by intro a1 a2;exact pg_sub a1 a2 set_list):BG X (.Subscript o i pos) (gSub to ti t):=⟨H ho.out hi.out⟩
end
section
variable {P:Program} {w:World} {K:PySem.W.Frag} {mg:Str→Option Value} {base:Heap}
theorem fn_ok3 {x qual:Str} {st:Stmt} {f:Addr} {fd:FuncData} {N ps:List Str} {k:Nat} {m:PEnv→M Fl} {body:List Stmt} {sc:Scope} {Ff:List PV→M PV} (hF:Ff=fnP ps.length N.length m) (F:Fun K x qual st f fd) (S:FnScope N ps (defScope st)) (hN:ps.length≤N.length) (eb:defBody st=body) (es:defScope st=sc)
  (hb: ∀ (cdv:Value) (A:Around) (outer:List Env) (s:Shared) (H:Hp) (E:XK),Room k (A.deeper (envOfC qual sc s.heap.objs.size f cdv))→SsV φ (cxOf CX0 P w K mg base N qual sc f cdv A outer s H E).nox body m):
  FnOk P w K mg base CX0 (k+1) f fd ps (spP φ Ff):=by
 subst hF eb es
 exact fn_ok F S hN hb
end
end
section
open PySem.AutoSeq1 (wpAny_loadPart')
theorem noFill_tuple_mul:fillsNumberSlot (.type "tuple") "mul"=pure false:=
 PySem.fillsNumberSlot_seq (id:="tuple.__mul__") (r:=some (.builtin "tuple.__rmul__")) F.slot_tuple_mul.lookup (by decide +kernel) F.slot_tuple_rmul.lookup (by decide +kernel)
theorem repeat_tuple:seqRepeat? (.type "tuple")=pure (some (.builtin "tuple.__mul__")):=by
 unfold seqRepeat?
 rw[PySem.seqSlot_of (T:="tuple") (name:="__mul__") (id:="tuple.__mul__") F.slot_tuple_mul.lookup (by decide +kernel),PySem.seqSlot_of (T:="tuple") (name:="__rmul__") (id:="tuple.__rmul__") F.slot_tuple_rmul.lookup (by decide +kernel)]
 rfl
theorem int_rmul_tuple (a:Int) (t:Tok) (l:Addr) (items:Array Value) (n:Nat) (dd:Option Addr) (sl:Array (Option Value)):
  Meets (Builtin.«int.__rmul__» ⟨[.int a t,.ref l],[]⟩) (fun _ R s=>s.heap.get? l=some {cls:=.type "tuple",dict:=dd,data:=.seq items n,slots:=sl}∧R (.ok (.ret Value.notImplemented)) s):=
 .of_wp fun prog w A R s h=>by obtain⟨hp,g,d,tk,os⟩:=s;obtain⟨hl,h⟩:=h;wp_walk using wpAny_loadPart' hl;exact⟨_,rfl,h⟩
theorem tuple_mulW (l:Addr) (items:Array Value) (n:Nat) (dd:Option Addr) (sl:Array (Option Value)) (x:Int) (u:Tok) (hc0: ¬(decide (x < -(2 ^ 63))||decide (x ≥ 2 ^ 63))=true) (hc1: ¬(items.isEmpty||x==1)=true) (hc2: ¬(decide (x≤0)||items.isEmpty)=true) (hc3: ¬((items.size:Int) * x > (2 ^ 63 - 1) / 8)) (hc4: ¬Builtin.Tuple.tupleTooMany (items.size * x)=true) (hc5: ¬ (List.foldl (fun x1 x2=>x1++x2) #[] (List.replicate x.toNat items)).size > sizeLine):
  Meets (Builtin.«tuple.__mul__» ⟨[.ref l,.int x u],[]⟩) (fun _ R s=>s.heap.get? l=some {cls:=.type "tuple",dict:=dd,data:=.seq items n,slots:=sl}∧R (.ok (.ret (Value.ref s.heap.objs.size))) {s with heap:=s.heap.push {cls:=Value.type "tuple",data:=Data.seq ((List.replicate x.toNat items).foldl (· ++ ·) #[])},toks:=s.toks}):=
 .of_wp fun prog w A R s h=>by
  obtain⟨hp,g,d,tk,os⟩:=s;obtain⟨hl,h⟩:=h
  have f1:=AutoSeq1.idx_int
  wp_walk using wpAny_loadPart' hl
  refine wpAny_ite_false (decide_eq_false hc0) ?_
  wp_walk using wpAny_loadPart' hl
  refine wpAny_ite_false (decide_eq_false hc3) ?_
  wp_walk using wpAny_loadPart' hl
  exact⟨_,rfl,h⟩
noncomputable def rRepT:R2:=fun x y H Q=> ∃ l k xs,x= .ref l∧y= .int k∧H l=some (.tup xs)∧xs≠[]∧1 < k∧k < 1000∧xs.length * k.toNat≤100000∧∀ p,H p=none→Q (.ref p) (upd H p (.tup (List.replicate k.toNat xs).flatten))
theorem op_repT:OpR X (binaryOp .Mult) rRepT:=by
 intro pZ s σ H x y v u Q I rx ry h
 obtain⟨l,k,xs,rfl,rfl,hH,hne,h1,h2,hz,q⟩:=h
 cases rx
 obtain⟨t,rfl⟩:=ry
 obtain⟨its,r,p,_⟩:=I.tuple (SqT.of (K:=X.K) hH)
 obtain⟨⟨cls,dd,data,sl⟩,ho,hc,n,hd⟩:=id p
 simp only at hc hd
 subst hc hd
 have hlen:=r.length
 have hie:its≠[]:=fun z=>hne (r.nil_iff.mp z)
 have hnew:List.foldl (fun x1 x2=>x1++x2) #[] (List.replicate k.toNat its.toArray)=(List.replicate k.toNat its).flatten.toArray:=by
  have:=foldl_rep its k.toNat []
  rw[List.nil_append] at this
  exact this
 have e63:(2:Int) ^ 63=9223372036854775808:=by decide
 have hsz:(its.length:Int) * k≤100000:=by
  have e:(k.toNat:Int)=k:=by lia
  have:((its.length * k.toNat:Nat):Int)≤100000:=by
   rw[←hlen]
   exact Int.ofNat_le.mpr hz
  rw[Int.natCast_mul,e] at this
  exact this
 have hs:sizeLine=16777216:=sizeLine_eq
 have hfl:(List.replicate k.toNat xs).flatten.length≤sizeLine:=by rw[len_rep,Nat.mul_comm];lia
 refine wpAny_binaryOp_repeat_ref (T:="tuple") (U:="int") (by decide) ⟨_,ho,rfl⟩ (fun s'=>typeIs_int s' k t) noFill_tuple_mul F.fills_int_mul F.slot_int_rmul repeat_tuple F.slot_int_index.lookup
  (call_meets F.slot_int_rmul (typeIs_int s k t) F.entry_int_rmul (F.args_int_rmul_2 _ _) (int_rmul_tuple k t l its.toArray n dd sl)
   ⟨ho,rfl,⟨_,ho,rfl⟩,call_meets F.slot_tuple_mul ⟨_,ho,rfl⟩ F.entry_tuple_mul (F.args_tuple_mul_2 _ _) (tuple_mulW l its.toArray n dd sl k t ?_ ?_ ?_ ?_ ?_ ?_) ⟨ho,?_⟩⟩)
 ·simp;lia
 ·simp[hie];lia
 ·simp[hie];lia
 ·simp only[List.size_toArray];lia
 ·unfold Builtin.Tuple.tupleTooMany;simp only[List.size_toArray,decide_eq_true_eq];lia
 ·rw[hnew,List.size_toArray,len_rep,Nat.mul_comm,←hlen];lia
 ·rw[hnew]
  refine⟨.ref s.heap.objs.size,_,I.laid (t':=s.toks) (o:=.tup (List.replicate k.toNat xs).flatten) (fun b ob q=>Heap.get?_push_of_some _ q) (Nat.le_refl _) ?_,rfl,q _ (I.hok.fresh (Nat.le_refl _))⟩
  exact⟨hfl,_,r.rep k.toNat,IsTup.new _ _⟩
def rMulE:R2:=fun x y H Q=>rMulD x y H Q∨rRepT x y H Q
theorem op_mulE:OpR X (binaryOp .Mult) rMulE:=op_mulD.or op_repT
noncomputable def mulE (y z:PV):M PV:=match y,z with
 | .tup l,.int k=>if 0 < l.length∧1 < k∧k < 1000∧l.length * k.toNat≤100000 then .ret (.tup (List.replicate k.toNat l).flatten) else .fail
 |y,z=>mulO y z
theorem ov_mulE:OpV rMulE mulE:=fun φ G O H n R Q y z x x' pr dm ok r1 r2 w q=>by
 have hB:O G.B:=pr _ G.pB
 cases y with
 |tup l=>
  cases z<;>first|exact w.elim|skip
  rename_i k
  obtain⟨a,xs,rfl,h1,e1⟩:=r1.tup_i
  rw[r2.int_i]
  unfold mulE at w
  dsimp only at w
  by_cases hc:0 < l.length∧1 < k∧k < 1000∧l.length * k.toNat≤100000
  ·rw[if_pos hc] at w
   refine .inr ⟨a,k,xs,rfl,rfl,h1,fun z=>?_,hc.2.1,hc.2.2.1,by rw[←e1.1];exact hc.2.2.2,fun p hp=>q.tup ok dm hp hB (e1.rep _) w⟩
   subst z
   have:=e1.1
   simp at this
   have:=hc.1
   simp_all
  ·rw[if_neg hc] at w;exact w.elim
 |_=>exact .inl (ov_mul φ G O H n R Q _ z x x' pr dm ok r1 r2 w q)
end
noncomputable def spDraw:Sp:=fun vs H Q _=> ∃ (a c:Addr) (n:Nat) (m:Int),vs=[.ref a,.int m]∧Bag H a c n∧n < 1000000∧0 < m∧m < 1073741824∧
 ∀ (d:Int) (o:HO),0≤d→d < m→Bag (upd H a o) a c (n+1)→Q (.int d) (upd H a o)
def spBag (K:PySem.W.Frag):Sp:=fun vs H Q _=> ∃ (a:Addr) (ns:List Int),vs=[.ref a]∧SqL K H a (ns.map V.int)∧ns.length≤63∧∀ (b c:Addr) (H':Hp),Same H H'→Bag H' b c 0→Q (.ref b) H'
def drawF:List PV→M PV:=fun l=>match l with|[.bag,.int m]=>.draw m fun d=>.ret (.int d)|_=>.fail
theorem draw_pure {φ:Fam} {P:Program} {w:World} {K:PySem.W.Frag} {mg:Str→Option Value} {base:Heap} {k:Nat} {f:Addr} {fd:FuncData} {ps:List Str} (F:FnOk P w K mg base CX0 k f fd ps φ.sp):FnOk P w K mg base CX0 k f fd ps (spP φ drawF):=by
 refine F.imp fun vs H Q E h=>?_
 obtain⟨G,O,l,n,R,pr,dm,ok,r,w,q⟩:=h
 match l,r,w with
 |[.bag,.int m],r,w=>
  obtain⟨x,t,rfl,r1,r2⟩:=r.cons_inv
  obtain⟨x',t',rfl,r3,r4⟩:=r2.cons_inv
  rw[r4.nil_inv]
  cases r1
  cases r3
  obtain⟨h0,h1,n',rfl,h⟩:=w
  exact G.dr H n' m Q E ok h0 h1 fun d H' d0 d1 e o=>q (.int d) _ H' n' e o (.int d) (h d d0 d1)
structure Gen {α:Type} (m:M α) (c:Nat) (Pr:α→Prop):Prop where
 h: ∀ n,c≤n→m.wp n fun y n'=>n≤n'+c∧Pr y
theorem Gen.ret (h:Pr y):Gen (.ret y) 0 Pr:=⟨fun n _=>⟨Nat.le_refl _,h⟩⟩
theorem Gen.bind (h:Gen m c Pr) (k: ∀ y,Pr y→Gen (f y) d Rr):Gen (m.bind f) (c+d) Rr:=⟨fun n hn=>by
 rw[M.wZ]
 refine M.wp_mono (h.h n (by lia)) fun y n1 ⟨h1,h2⟩=>?_
 exact M.wp_mono ((k y h2).h n1 (by lia)) fun z n2 ⟨h3,h4⟩=>⟨by lia,h4⟩⟩
theorem Gen.mono (h:Gen m c Pr) (hc:c≤d) (k: ∀ y,Pr y→Rr y):Gen m d Rr:=⟨fun n hn=>M.wp_mono (h.h n (by lia)) fun y n1 ⟨h1,h2⟩=>⟨by lia,k y h2⟩⟩
theorem Gen.le (h:Gen m c Pr) (hc:c≤d):Gen m d Pr:=h.mono hc fun _ z=>z
theorem Gen.draw (h0:0 < m) (h1:m < 1073741824):Gen (drawF [.bag,.int m]) 1 fun y=> ∃ d,y= .int d∧0≤d∧d < m:=⟨fun n hn=>by
 obtain⟨n',rfl⟩: ∃ n',n=n'+1:=⟨n - 1,by lia⟩
 exact⟨h0,h1,n',rfl,fun d d0 d1=>⟨Nat.le_refl _,d,rfl,d0,d1⟩⟩⟩
theorem Gen.eq (e:m= .ret y) (h:Pr y):Gen m 0 Pr:=e▸Gen.ret h
theorem Gen.lc {te:PEnv→M PV} {ρ:PEnv}: ∀ (l:List PV) (ρ':PEnv),(∀ e,ρ'.set k e=ρ.set k e)→(∀ y∈l,Gen (te (ρ.set k (.val y))) c Pr)→Gen (lcM (bindN k) allTs te l ρ') (l.length * c) (fun zs=>zs.length=l.length∧∀ z∈zs,Pr z)
 |[],ρ',_,_=>Gen.le (Gen.ret ⟨rfl,fun z hz=>by simp at hz⟩) (by simp)
 |y::l,ρ',hρ,h=>by
  unfold lcM
  simp only[bindN,allTs,rZ,if_true]
  rw[hρ]
  refine Gen.le (Gen.bind (h y List.mem_cons_self) fun z hz=>Gen.bind (Gen.lc (ρ:=ρ) l _ (fun e=>by rw[List.set_set]) fun y' hy=>h y' (List.mem_cons_of_mem _ hy)) fun zs hzs=>Gen.ret ?_) (Nat.le_of_eq ?_)
  ·refine⟨by simp[hzs.1],fun u hu=>?_⟩
   rcases List.mem_cons.mp hu with rfl|hu
   ·exact hz
   ·exact hzs.2 u hu
  ·simp only[List.length_cons,Nat.succ_mul]
   lia
theorem lcM_map {te:PEnv→M PV} {f:PV→PV} {ρ:PEnv}: ∀ (l:List PV) (ρ':PEnv),(∀ e,ρ'.set k e=ρ.set k e)→(∀ y∈l,te (ρ.set k (.val y))= .ret (f y))→lcM (bindN k) allTs te l ρ'= .ret (l.map f)
 |[],ρ',_,_=>rfl
 |y::l,ρ',hρ,h=>by
  unfold lcM
  simp only[bindN,allTs,rZ,if_true]
  rw[hρ,h y List.mem_cons_self,lcM_map (f:=f) (ρ:=ρ) l _ (fun e=>by rw[List.set_set]) fun y' hy=>h y' (List.mem_cons_of_mem _ hy)]
  rfl
theorem lcM_filter {tt:PEnv→M Bool} {te:PEnv→M PV} {p:PV→Bool} {f:PV→PV} {ρ:PEnv}: ∀ (l:List PV) (ρ':PEnv),(∀ e,ρ'.set k e=ρ.set k e)→(∀ y∈l,tt (ρ.set k (.val y))= .ret (p y))→(∀ y∈l,p y=true→te (ρ.set k (.val y))= .ret (f y))→lcM (bindN k) tt te l ρ'= .ret ((l.filter p).map f)
 |[],ρ',_,_,_=>rfl
 |y::l,ρ',hρ,h,h'=>by
  unfold lcM
  simp only[bindN,rZ]
  have ih:=lcM_filter (p:=p) (f:=f) (ρ:=ρ) l (ρ.set k (.val y)) (fun e=>by rw[List.set_set]) (fun y' hy=>h y' (List.mem_cons_of_mem _ hy)) (fun y' hy=>h' y' (List.mem_cons_of_mem _ hy))
  rw[hρ,h y List.mem_cons_self,rZ]
  cases hp:p y with
  |true=>
   simp only[if_true]
   rw[h' y List.mem_cons_self hp,rZ,ih,List.filter_cons_of_pos hp]
   rfl
  |false=>
   simp only[Bool.false_eq_true,if_false]
   rw[ih,List.filter_cons_of_neg (by simp[hp])]
theorem Gen.for_ {mb:PEnv→M Fl} {Iv:PEnv→Prop}: ∀ (l:List PV) (ρ:PEnv),Iv ρ→(∀ y∈l,∀ ρ,Iv ρ→Gen (mb (ρ.set k (.val y))) c fun f=> ∃ ρ',f= .nx ρ'∧Iv ρ')→Gen (forP (bindN k) mb l ρ) (l.length * c) fun f=> ∃ ρ',f= .nx ρ'∧Iv ρ'
 |[],ρ,h,_=>Gen.le (Gen.ret ⟨ρ,rfl,h⟩) (by simp)
 |y::l,ρ,h,hb=>by
  unfold forP
  simp only[bindN,rZ]
  refine Gen.le (Gen.bind (hb y List.mem_cons_self ρ h) fun f hf=>?_) (d:=(y::l).length * c) (Nat.le_of_eq (?_:c+l.length * c=_))
  ·obtain⟨ρ',rfl,h'⟩:=hf
   exact Gen.for_ l ρ' h' fun y' hy=>hb y' (List.mem_cons_of_mem _ hy)
  ·simp only[List.length_cons,Nat.succ_mul];lia
section
variable {φ:Fam}
def rSlS:V→Option Int→Option Int→Hp→VK→Prop:=fun x lo hi H Q=> ∃ z,x= .str z∧z.length≤100000∧Q (.str (Txt.slice z lo hi)) H
theorem part_of (p:IsPart v o): ∃ l:Option (Int×Tok),v=PySem.partValue l∧l.map (·.1)=o:=by
 cases p with
 |none=>exact⟨none,rfl,rfl⟩
 |int i t=>exact⟨some (i,t),rfl,rfl⟩
theorem sl_str:SlR X rSlS:=by
 intro pZ s σ H x v vl vu lo hi sl Q I rx hs pl pu h
 obtain⟨z,rfl,hz,q⟩:=h
 obtain⟨t,rfl⟩:=rx
 obtain⟨l,rfl,hl⟩:=part_of pl
 obtain⟨u,rfl,hu⟩:=part_of pu
 refine⟨"str",_,F.slot_str_getitem.lookup,typeIs_str _ _ _,wpAny_getItem_str_slice (l:=l) (u:=u) (st:=none) hs rfl ?_⟩
 subst hl hu
 exact(post_val_or_str ⟨Nat.le_trans (Txt.slice_le z _ _) (Nat.le_trans hz big_le),fun t' k=>⟨.str (Txt.slice z _ _),H,I.tok _,⟨_,rfl⟩,q⟩⟩)
theorem mt_index:MtR X "str.index" (fun x xs H Q=> ∃ (z c:Str) (i:Nat) (r:List Nat),x= .str z∧xs=[.str c]∧Builtin.Str.occurrences z c 0 z.length 1=i::r∧Q (.int i) H):=by
 intro pZ s σ H x xs v us Q I rx rv h
 obtain⟨z,c,i,r,rfl,rfl,e,q⟩:=h
 obtain⟨t,rfl⟩:=rx
 obtain⟨u,rfl,t',rfl⟩:=vals1 rv
 exact PySem.call_gives F.slot_str_index (typeIs_str s z t) F.entry_str_index (F.args_str_index_2 _ _) (PySem.gives_str_index z c t t' i r e) ⟨.int i,H,I.tok _,⟨_,rfl⟩,q⟩
def indexO:PV→List PV→M PV
 | .str z,[.str c]=>match Builtin.Str.occurrences z c 0 z.length 1 with|i::_=>.ret (.int (i:Nat))|[]=>.fail
 |_,_=>.fail
theorem indexO_inv (w:(indexO y l).wp n R): ∃ z c,y= .str z∧l=[.str c]:=by
 unfold indexO at w
 split at w
 ·exact⟨_,_,rfl,rfl⟩
 ·exact w.elim
theorem mv_index {K:PySem.W.Frag}:MtV K "str" (fun x xs H Q=> ∃ (z c:Str) (i:Nat) (r:List Nat),x= .str z∧xs=[.str c]∧Builtin.Str.occurrences z c 0 z.length 1=i::r∧Q (.int i) H) indexO:=fun φ G O H0 H n R Q y x l xs pr dm ok r1 r2 w q=>by
 obtain⟨z,c,rfl,rfl⟩:=indexO_inv w
 ·rw[r1.str_i]
  obtain⟨x2,ex,r3⟩:=r2.one
  subst ex
  rw[r3.str_i]
  unfold indexO at w
  dsimp only at w
  cases e:Builtin.Str.occurrences z c 0 z.length 1 with
  |nil=>rw[e] at w;exact w.elim
  |cons i r=>rw[e] at w;exact⟨z,c,i,r,rfl,rfl,e,q.sc ok (.int _) w⟩
section
open HT
variable {prog:Program} {w:World} {A:Around} {E:Value→Shared→Prop} {s:Shared}
theorem getItem_tuple_whole {t sl:Addr} {items:Array Value} {vl vu:Value} {lo hi:Option Int} {Q:Value→Shared→Prop} (ht:IsTup s.heap t items) (hs:s.heap.IsSliceOf sl vl vu .none) (pl:IsPart vl lo) (pu:IsPart vu hi)
  (hw:sIx items.size 0 lo=0∧sIx items.size items.size hi=items.size) (h:Q (.ref t) s):wpAny (model prog w) A (getItem (.ref t) (.ref sl)) Q E s:=by
 obtain⟨os,hos,hcs,hds⟩:=id hs
 have hTs:s.TypeIs (.ref sl) "slice":=⟨os,hos,hcs⟩
 unfold getItem
 try with_reducible refine wpAny_holding ?_
 first|refine wpAny_bind (wpAny_pure ?_)|skip
 refine wpAny_bind (wpAny_sequenceKey ht.typeIs (by decide) ?_)
 refine wpAny_bind (wpAny_callSpecial?_slot (name:=Str.ofString "__getitem__") ht.typeIs PyProof.Rows.slot_tuple_getitem
  (wpAny_call_entry PyProof.Rows.slot_tuple_getitem ht.typeIs entry_tuple_getitem ?_ (args_tuple_getitem _ _)))
 show wpAny _ _ (Builtin.Tuple.tupleItemsOf (.ref t) >>= _) _ _ s
 refine wpAny_bind (tupleItemsOf_ ht ?_)
 refine wpAny_bind (wpAny_typeOf hTs ?_)
 rw[if_pos (by decide)]
 refine wpAny_bind (sliceApplied_gen hs pl pu ?_)
 have hyes:((((sIx items.size 0 lo:Nat):Int)==0&&(1:Int)==1&&(sIx items.size items.size hi - sIx items.size 0 lo)==items.size)=true):=by
  rw[hw.1,hw.2];simp
 show wpAny _ _ (if(((sIx items.size 0 lo:Nat):Int)==0&&(1:Int)==1&&(sIx items.size items.size hi - sIx items.size 0 lo)==items.size)=true then _ else _) _ _ s
 rw[if_pos hyes]
 refine wpAny_bind (m:=Builtin.Tuple.tupleIsExact _) (wpAny_bind (wpAny_typeOf ht.typeIs (wpAny_pure ?_)))
 rw[if_pos (by decide)]
 refine wpAny_bind (wpAny_rule ?_)
 exact wpAny_pure ⟨_,rfl,wpAny_pure h⟩
theorem sliceApplied_rev {n:Nat} {Q:Int×Int×Nat→Shared→Prop} (hs:s.heap.IsSliceOf sl .none .none (.int (-1) t))
  (h:Q ((n:Int) - 1,-1,n) s):wpAny (model prog w) A (Builtin.Slice.sliceApplied (.ref sl) (pure (n:Int))) Q E s:=by
 obtain⟨os,hos,hcs,hds⟩:=id hs
 unfold Builtin.Slice.sliceApplied Builtin.Slice.sliceFields
 refine wpAny_bind (wpAny_bind (wpAny_field hos hds (x:=.none) rfl (wpAny_bind (wpAny_field hos hds (x:=.none) rfl (wpAny_bind (wpAny_field hos hds (x:=.int (-1) t) rfl (wpAny_pure ?_)))))))
 refine wpAny_bind (slicePart_int ?_)
 show wpAny _ _ (if((-1:Int)==0)=true then _ else _) _ _ s
 rw[if_neg (by decide)]
 refine wpAny_bind (slicePart_none (wpAny_bind (slicePart_none (wpAny_bind (wpAny_pure ?_)))))
 show wpAny _ _ (match Builtin.Slice.sliceAdjust none none (-1) (n:Int) with|(lo,hi)=>pure (lo,(-1:Int),Builtin.Slice.slicePlaces lo hi (-1))) _ _ s
 have e1:Builtin.Slice.sliceAdjust none none (-1) (n:Int)=((n:Int) - 1,-1):=by unfold Builtin.Slice.sliceAdjust;simp
 rw[e1]
 show wpAny _ _ (pure ((n:Int) - 1,(-1:Int),Builtin.Slice.slicePlaces ((n:Int) - 1) (-1) (-1))) _ _ s
 have e2:Builtin.Slice.slicePlaces ((n:Int) - 1) (-1) (-1)=n:=by
  unfold Builtin.Slice.slicePlaces
  rw[if_neg (by decide)]
  have e3: -(-1:Int)=1:=by decide
  rw[e3,Int.ediv_one]
  split<;>lia
 rw[e2]
 exact wpAny_pure h
theorem filterMapCongr: ∀ (l:List α),(∀ x∈l,f x=g x)→l.filterMap f=l.filterMap g
 |[],_=>rfl
 |x::l,h=>by
  rw[List.filterMap_cons,List.filterMap_cons,h x List.mem_cons_self,filterMapCongr l fun y hy=>h y (List.mem_cons_of_mem _ hy)]
theorem pick_rev (xs:List Value):((List.range xs.length).filterMap fun (m:Nat)=>xs.toArray[(((xs.length:Int) - 1)+(m:Int) * (-1)).toNat]?)=xs.reverse:=by
 apply List.ext_getElem?
 intro i
 have hall: ∀ m∈List.range xs.length,∃ y,xs.toArray[(((xs.length:Int) - 1)+(m:Int) * (-1)).toNat]?=some y:=fun m hm=>by
  have:=List.mem_range.mp hm
  have hlt:(((xs.length:Int) - 1)+(m:Int) * (-1)).toNat < xs.length:=by lia
  exact⟨xs[(((xs.length:Int) - 1)+(m:Int) * (-1)).toNat],by simp[hlt]⟩
 have e:((List.range xs.length).filterMap fun (m:Nat)=>xs.toArray[(((xs.length:Int) - 1)+(m:Int) * (-1)).toNat]?)=(List.range xs.length).map fun m=>(xs[xs.length - 1 - m]?).getD .none:=by
  rw[←List.filterMap_eq_map]
  apply filterMapCongr
  intro m hm
  have:=List.mem_range.mp hm
  have e1:(((xs.length:Int) - 1)+(m:Int) * (-1)).toNat=xs.length - 1 - m:=by lia
  have hlt:xs.length - 1 - m < xs.length:=by lia
  rw[e1]
  simp[hlt]
 rw[e,List.getElem?_map]
 by_cases hi:i < xs.length
 ·rw[List.getElem?_range hi,List.getElem?_reverse hi]
  have hlt:xs.length - 1 - i < xs.length:=by lia
  simp[hlt]
 ·rw[List.getElem?_eq_none (by simpa using hi),List.getElem?_eq_none (by simpa using hi)]
  rfl
theorem getItem_tuple_rev {its:List Value} {Q:Value→Shared→Prop} (ht:IsTup s.heap t its.toArray) (hs:s.heap.IsSliceOf sl .none .none (.int (-1) tk))
  (h:Q (.ref s.heap.objs.size) {s with heap:=s.heap.push {cls:=.type "tuple",data:=.seq its.reverse.toArray}}) (hsz:its.length≤sizeLine):wpAny (model prog w) A (getItem (.ref t) (.ref sl)) Q E s:=by
 have htake:sizeOk (.seq its.reverse.toArray):=by
  show its.reverse.toArray.size≤sizeLine
  rw[List.size_toArray,List.length_reverse]
  lia
 obtain⟨os,hos,hcs,hds⟩:=id hs
 have hTs:s.TypeIs (.ref sl) "slice":=⟨os,hos,hcs⟩
 unfold getItem
 try with_reducible refine wpAny_holding ?_
 first|refine wpAny_bind (wpAny_pure ?_)|skip
 refine wpAny_bind (wpAny_sequenceKey ht.typeIs (by decide) ?_)
 refine wpAny_bind (wpAny_callSpecial?_slot (name:=Str.ofString "__getitem__") ht.typeIs PyProof.Rows.slot_tuple_getitem
  (wpAny_call_entry PyProof.Rows.slot_tuple_getitem ht.typeIs entry_tuple_getitem ?_ (args_tuple_getitem _ _)))
 show wpAny _ _ (Builtin.Tuple.tupleItemsOf (.ref t) >>= _) _ _ s
 refine wpAny_bind (tupleItemsOf_ ht ?_)
 refine wpAny_bind (wpAny_typeOf hTs ?_)
 rw[if_pos (by decide)]
 refine wpAny_bind (sliceApplied_rev hs ?_)
 have hno: ¬ ((((its.toArray.size:Int) - 1)==0&&(-1:Int)==1&&its.toArray.size==its.toArray.size)=true):=by
  have:((-1:Int)==1)=false:=by decide
  rw[this];simp
 show wpAny _ _ (if(((its.toArray.size:Int) - 1)==0&&(-1:Int)==1&&its.toArray.size==its.toArray.size)=true then _ else _) _ _ s
 rw[if_neg hno]
 have hp:=pick_rev its
 rw[←List.size_toArray] at hp
 rw[hp]
 first
  |exact wpAny_bind (m:=Builtin.Tuple.tupleExact _) (wpAny_newObj_type (wpAny_pure ⟨_,rfl,wpAny_pure h⟩) htake)
  |exact wpAny_bind (m:=Builtin.Tuple.tupleExact _) (wpAny_newObj_type (wpAny_bind (wpAny_pure (wpAny_pure ⟨_,rfl,wpAny_pure h⟩))) htake)
  |exact wpAny_bind (wpAny_bind (m:=Builtin.Tuple.tupleExact _) (wpAny_newObj_type (wpAny_pure (wpAny_pure ⟨_,rfl,wpAny_pure h⟩)) htake))
  |exact wpAny_bind (wpAny_bind (m:=Builtin.Tuple.tupleExact _) (wpAny_newObj_type (wpAny_pure ⟨_,rfl,wpAny_pure h⟩) htake))
end
def rSlW:V→Option Int→Option Int→Hp→VK→Prop:=fun x lo hi H Q=> ∃ a xs,x= .ref a∧H a=some (.tup xs)∧(HT.sIx xs.length 0 lo=0∧HT.sIx xs.length xs.length hi=xs.length)∧Q (.ref a) H
theorem sl_tupW:SlR X rSlW:=by
 intro pZ s σ H x v vl vu lo hi sl Q I rx hs pl pu h
 obtain⟨a,xs,rfl,hx,hw,q⟩:=h
 cases rx
 obtain⟨its,r,ht,hz⟩:=I.tuple (SqT.of (K:=X.K) hx)
 have hlen:its.toArray.size=xs.length:=by rw[List.size_toArray];exact r.length.symm
 exact⟨"tuple",_,PyProof.Rows.slot_tuple_getitem.lookup,ht.typeIs,getItem_tuple_whole ht hs pl pu (by rw[hlen];exact hw) ⟨.ref a,H,I,rfl,q⟩⟩
def rSlE (K:PySem.W.Frag):V→Option Int→Option Int→Hp→VK→Prop:=fun x lo hi H Q=>rSlD K x lo hi H Q∨rSlW x lo hi H Q∨rSlS x lo hi H Q
theorem sl_E:SlR X (rSlE X.K):=sl_D.or (sl_tupW.or sl_str)
noncomputable def slE:PV→Option Int→Option Int→M PV
 | .lst l,lo,hi=>.ret (.lst (cutP l lo hi))
 | .tup l,lo,hi=>.ret (.tup (cutP l lo hi))
 | .str z,lo,hi=>if z.length≤100000 then .ret (.str (Txt.slice z lo hi)) else .fail
 |_,_,_=>.fail
theorem sv_E {K:PySem.W.Frag}:SlV (rSlE K) slE:=fun φ G O H n R Q y lo hi x pr dm ok r w q=>by
 cases y<;>first|exact w.elim|skip
 ·rename_i z
  rw[r.str_i]
  unfold slE at w
  dsimp only at w
  by_cases hc:z.length≤100000
  ·rw[if_pos hc] at w;exact .inr (.inr ⟨z,rfl,hc,q.sc ok (.str _) w⟩)
  ·rw[if_neg hc] at w;exact w.elim
 ·rename_i l
  obtain⟨p,xs,rfl,h,e⟩:=r.tup_i
  replace w:R (.tup (cutP l lo hi)) n:=w
  by_cases hc:HT.sIx l.length 0 lo=0∧HT.sIx l.length l.length hi=l.length
  ·rw[cutP_whole l lo hi hc] at w
   cases r with
   |full r=>exact .inr (.inl ⟨p,xs,rfl,h,by rw[←e.1];exact hc,q.sc ok r w⟩)
  ·exact .inl (.inr ⟨p,xs,rfl,SqT.of h,by rw[←e.1];exact hc,fun p' hp=>q.tup ok dm hp (pr _ G.pB) (cut_reps e lo hi) w⟩)
 ·rename_i l
  obtain⟨p,xs,rfl,h,e⟩:=r.lst_i
  exact .inl (.inl ⟨p,xs,rfl,SqL.of h,fun p' hp=>q.lst ok dm hp (pr _ G.pB) (cut_reps e lo hi) w⟩)
section
variable {X:Cx} {st:Stmt}
def parVO (i j:Nat) (ma:PEnv→M PV) (mb:PEnv→M (List PV)):PEnv→M Fl:=fun ρ=>(ma ρ).bind fun y=>(mb ρ).bind fun l=>.ret (.nx ((ρ.set i (.val y)).set j (.own l)))
theorem sv_parVO (h:BS X st (tPar i j (tCons (teP φ ma) (tCons (teF φ mb) tNil)))):SV φ X st (parVO i j ma mb):=BS.mono h fun D σ H hq0=>by
 obtain⟨G,O0,H0,O,ρ,n,s,w⟩:=hq0
 unfold parVO at w
 rw[M.wZ] at w
 refine⟨G,O,ρ,n,_,s.es,w,fun y x H1 n1 e1 ok1 r1 w1=>?_⟩
 rw[M.wZ] at w1
 have s1:=s.to e1 ok1
 refine⟨G,O,ρ,n1,_,s1.es,w1,fun l p xs H2 n2 e2 ok2 hp hp' r2 w2=>?_⟩
 exact⟨x,.ref p,rfl,w2 _ _ _ ((s1.setV i r1).setO j e2 ok2 hp hp' r2)⟩
end
end
section
variable {φ:Fam}
section
variable {X:Cx} {e:Expr} {te:TE} {st:Expr} {ts:TO} {pos p2:Pos}
noncomputable def tRev (K:PySem.W.Frag) (te:TE) (ts:TO):TE:=fun σ H Q=>te σ H fun x H1=>ts σ H1 fun o H2=>o=some (-1)∧∃ a xs,x= .ref a∧SqT K H2 a xs∧∀ p,H2 p=none→Q (.ref p) (upd H2 p (.tup xs.reverse))
theorem pe_rev (he:PE X e te) (hs:PO X (some st) ts):PE X (.Subscript e (.Slice none none (some st) p2) pos) (tRev X.K te ts):=by
 intro pZ s σ H Q I h
 refine Subscript_ (thn (he pZ s σ H _ I h) fun v s1 ⟨x,H1,I1,r1,q1⟩=>?_)
 refine wpAny_Slice ?_
 rw[evalPart_none]
 refine wpAny_pure (wpAny_pure ?_)
 refine thn (hs pZ s1 σ H1 _ I1 q1) fun vs s3 ⟨o,H3,I3,ps,q3⟩=>?_
 obtain⟨rfl,a,xs,rfl,hx,q⟩:=q3
 cases r1
 cases ps with
 |int _ tk=>
 have I4:Inv X pZ σ H3 {s3 with heap:=s3.heap.push {cls:=.type "slice",data:=.fields #[.none,.none,.int (-1) tk]}}:=I3.kept (t':=s3.toks) fun b ob q=>Heap.get?_push_of_some _ q
 obtain⟨its,r,ht,hz⟩:=I4.tuple hx
 have hlen:its.length=xs.length:=r.length.symm
 show wpAny (model X.prog X.w) X.A (subscriptTail e (.Slice none none (some st) p2) (.ref a) (.ref s3.heap.objs.size)) (EP X pZ σ Q) X.xe {s3 with heap:=s3.heap.push {cls:=.type "slice",data:=.fields #[.none,.none,.int (-1) tk]}}
 refine tail_any (ops:=[.ref a,.ref s3.heap.objs.size]) ht.typeIs PyProof.Rows.slot_tuple_getitem.lookup ?_ (by with_unfolding_all rfl)
 refine getItem_tuple_rev ht (Heap.IsSliceOf.new ..) ?_ (by rw[hlen];exact hz)
 refine⟨.ref _,_,I4.laid (t':=s3.toks) (o:=.tup xs.reverse) (fun b ob q=>Heap.get?_push_of_some _ q) (Nat.le_refl _) ?_,rfl,q _ (I4.hok.fresh (Nat.le_refl _))⟩
 exact⟨by rw[List.length_reverse];exact hz,_,r.reverse,IsTup.new _ _⟩
theorem be_rev (he:BE X e te) (hs:BO X (some st) ts):BE X (.Subscript e (.Slice none none (some st) p2) pos) (tRev X.K te ts):=⟨pe_rev he.out hs.out⟩
def revO:PV→M PV
 | .tup l=>.ret (.tup l.reverse)
 |_=>.fail
def revP (me:PEnv→M PV):PEnv→M PV:=fun ρ=>(me ρ).bind revO
theorem ev_rev (h:BE X e (tRev X.K (teB φ me) (toP φ ms))) (hm: ∀ ρ,ms ρ= .ret (some (-1))):EV φ X e (revP me):=BE.mono h fun σ H Q hq0=>by
 obtain⟨G,O,ρ,n,R,s,w,q⟩:=hq0
 unfold revP at w
 rw[M.wZ] at w
 refine⟨G,O,ρ,n,_,s,w,fun y x H1 n1 e1 ok1 r1 w1=>?_⟩
 refine⟨G,O,ρ,n1,fun o n'=>o=some (-1)∧n'=n1,s.ext e1 ok1,by rw[hm];exact⟨rfl,rfl⟩,fun o H2 n2 e2 ok2 w2=>?_⟩
 obtain⟨rfl,rfl⟩:=w2
 cases y<;>first|exact w1.elim|skip
 rename_i l
 obtain⟨p,xs,rfl,h,e⟩:=(r1.ext s.B e2).tup_i
 refine⟨rfl,p,xs,rfl,SqT.of h,fun p' hp=>?_⟩
 have q':Wish G O H2 R Q:=fun y x H' n' e o r h=>q y x H' n' (e1.trans (e2.trans e)) o r h
 exact q'.tup ok2 (s.ext (e1.trans e2) ok2).dm hp (s.pr _ G.pB) e.reverse w1
end
theorem for_at {K:PySem.W.Frag} {tI:TI} {bd:PV→PEnv→M PEnv} {mb:PEnv→M Fl} {G:Bg φ} {O0 O:Addr→Prop} {H0 H:Hp} {σ:St} {ρ:PEnv} {n:Nat} {D:Ends} {l:List PV} {J:It} (hI: ∀ Q:It→Hp→Prop,Q J H→tI σ H Q) (it:ItOf K G O true H l J) (s1:SI G O0 H0 O H σ ρ n)
  (w1:(forP bd mb l ρ).wp n (fun f n'=>FlOk G O0 H0 D n' f)):tFor tI (tgS φ bd) (tsP φ mb) D σ H:=by
 refine hI _ ?_
 refine⟨fun i m σ' H'=>m=l.length - i∧i≤l.length∧∃ (O':Addr→Prop) (ρ':PEnv) (n':Nat),SI G O0 (hide O0 O H) O' H' σ' ρ' n'∧(forP bd mb (l.drop i) ρ').wp n' (fun f n'=>FlOk G O0 H0 D n' f),
  ⟨l.length,by simp,Nat.zero_le _,O,ρ,n,s1.now,by simpa using w1⟩,?_⟩
 rintro i m σ' H' ⟨rfl,hi,O',ρ',n',s',w'⟩
 have it':=s1.walk s' it
 by_cases hlt:i < l.length
 ·have hget:l[i]?=some l[i]:=List.getElem?_eq_getElem hlt
  have hdrop:l.drop i=l[i]::l.drop (i+1):=List.drop_eq_getElem_cons hlt
  rw[hdrop] at w'
  unfold forP at w'
  obtain⟨g1,g2⟩:=it'.go hget
  refine .inr ⟨g1,fun σ2 H2=> ∃ (O':Addr→Prop) (ρ':PEnv) (n':Nat),SI G O0 (hide O0 O H) O' H2 σ2 ρ' n'∧(forP bd mb (l.drop (i+1)) ρ').wp n' (fun f n'=>FlOk G O0 H0 D n' f),fun σ2 H2 hh=>⟨l.length - (i+1),by lia,rfl,hlt,hh⟩,fun x H2 yl=>?_⟩
  obtain⟨eH,rx⟩:=g2 x H2 yl
  subst eH
  rw[M.wZ] at w'
  refine⟨G,O0,_,O',ρ',n',_,l[i],s',rx,w',fun σ2 ρ2 n2 s2 w2=>?_⟩
  rw[M.wZ] at w2
  refine⟨G,O0,_,O',ρ2,n2,s2,M.wp_mono w2 fun f n3 w3=>?_⟩
  cases f with
  |nx ρ3=>exact fun O3 σ3 H3 s3=>⟨O3,ρ3,n3,s3,w3⟩
  |ct ρ3=>exact fun O3 σ3 H3 s3=>⟨O3,ρ3,n3,s3,w3⟩
  |bk ρ3=>exact fun O3 σ3 H3 s3=>w3 O3 σ3 H3 (s1.back s3)
  |rt y=>exact fun x3 H3 e3 ok3 r3=>w3 x3 H3 (s1.base.trans e3) ok3 r3
 ·have e:i=l.length:=by lia
  subst e
  rw[List.drop_length] at w'
  exact .inl ⟨it'.stop,w' O' σ' H' (s1.back s')⟩
def lenJ (a b:Int) (n:Nat):Int:=(fun j=>if j > a then j else a) (if(n:Int) < b then(n:Int) else b)
noncomputable def iLen (K:PySem.W.Frag) (a b:Int):TI:=iRng1 (tCons (tCB (fun xs H Q=> ∃ i j,xs=[.int i,.int j]∧Q (.int (if j > i then j else i)) H) (tCons (tC (.int a)) (tCons (tCB (fun xs H Q=> ∃ i j,xs=[.int i,.int j]∧Q (.int (if j < i then j else i)) H) (tCons (tC (.int b)) (tCons (tCB (rLenD K) (tCons (tVar 0) tNil)) tNil))) tNil))) tNil)
theorem iLen_at {K:PySem.W.Frag} {a b:Int} {p:Addr} {ns:List Int} {σ:St} {H:Hp} {Q:It→Hp→Prop} (h0:σ[0]?=some (some (.ref p))) (hS:SqL K H p (ns.map V.int)) (hr: -1000000≤lenJ a b ns.length∧lenJ a b ns.length≤1000000) (q:Q (Itr 0 (lenJ a b ns.length).toNat) H):iLen K a b σ H Q:=by
 have e62:(2:Int) ^ 62=4611686018427387904:=by decide
 refine⟨.ref p,h0,.inl ⟨.ref p,ns.length,rfl,.inl ⟨_,hS,by simp⟩,?_⟩⟩
 refine⟨_,_,rfl,?_⟩
 refine⟨_,_,rfl,?_⟩
 exact⟨lenJ a b ns.length,rfl,by lia,by lia,q⟩
end
section
variable {φ:Fam}
section
variable {X:Cx} {st:Stmt}
def parO0 (i j:Nat) (ma mb:PEnv→M (List PV)):PEnv→M Fl:=fun ρ=>(ma ρ).bind fun y=>(mb ρ).bind fun l=>match l with|[]=>.ret (.nx ((ρ.set i (.own y)).set j (.own [])))|_=>.fail
theorem sv_parO0 (h:BS X st (tPar i j (tCons (teF φ ma) (tCons (teF φ mb) tNil)))):SV φ X st (parO0 i j ma mb):=BS.mono h fun D σ H hq0=>by
 obtain⟨G,O0,H0,O,ρ,n,s,w⟩:=hq0
 unfold parO0 at w
 rw[M.wZ] at w
 refine⟨G,O,ρ,n,_,s.es,w,fun y p1 xs1 H1 n1 e1 ok1 hp1 hp1' r1 w1=>?_⟩
 rw[M.wZ] at w1
 have s1:=s.to e1 ok1
 refine⟨G,O,ρ,n1,_,s1.es,w1,fun l p xs H2 n2 e2 ok2 hp hp' r2 w2=>?_⟩
 cases l with
 |cons a l=>exact w2.elim
 |nil=>
  have ex:=r2.nil_inv
  subst ex
  exact⟨.ref p1,.ref p,rfl,w2 _ _ _ ((s.setO i e1 ok1 hp1 hp1' r1).setO j e2 ok2 hp hp' .nil)⟩
end
end
def setO (P:Program) (w:World) (D:Addr) (S:Key→Bool) (n:Nat):HO:=.ext fun h=>h.SetOf (mixKind P w) D S n
theorem setO_ok (hS:h.SetOf (mixKind P w) D S n):ObjOk P w H h D (setO P w D S n):=by
 refine⟨hS,?_,?_⟩
 ·obtain⟨o,es,ep,t,e,_⟩:=hS
  exact⟨o,e⟩
 ·rintro h1 h2 ⟨o,es,ep,t,e,c⟩ k
  exact⟨o,es,ep,t,k _ e,c⟩
theorem setO_is (x:HOk P w H h) (e:H D=some (setO P w D S n)):h.SetOf (mixKind P w) D S n:=(x D _ e).1
section
variable {X:Cx}
noncomputable def rAddK (P:Program) (w:World):V→List V→Hp→VK→Prop:=fun x vs H Q=> ∃ (D:Addr) (k:Key) (S:Key→Bool) (n:Nat),x= .ref D∧vs=[kV k]∧H D=some (setO P w D S n)∧n+1 < PySem.scanBound∧Q .non (upd H D (setO P w D (fun k'=>S k'||decide (k'=k)) (if S k=true then n else n+1)))
theorem rel_key (r:RelV (kV k) u):keyIs k u=true∧u.scannable=true:=by
 cases k with
 |inl i=>obtain⟨t,rfl⟩:=r;exact⟨keyIs_int i t,rfl⟩
 |inr x=>obtain⟨t,rfl⟩:=r;exact⟨keyIs_str x t,rfl⟩
theorem mt_addK:MtM X "set.add" (rAddK X.prog X.w):=by
 intro pZ s σ H x vs v us Q I rx rv h
 obtain⟨D,k,S,n,rfl,rfl,hH,hn,q⟩:=h
 cases rx
 obtain⟨u,rfl,ru⟩:=rv.one
 obtain⟨hk,hs⟩:=rel_key ru
 refine PySem.call_set_add (knd:=mixKind X.prog X.w) hk hs (setO_is I.hok hH) hn fun h' hsb hS'=>?_
 refine⟨.non,_,I.write (t':=s.toks+1) (x:=D) (e:=D) (o:=setO X.prog X.w D (fun k'=>S k'||decide (k'=k)) (if S k=true then n else n+1)) (by rw[hH];exact trivial) (.inl rfl) (fun b u hb hu=>(hsb.2 b hb).trans hu) (setO_ok (P:=X.prog) (w:=X.w) (H:=H) hS').2.1 (setO_ok hS'),rfl,q⟩
theorem call_lenK:CallR X (.builtin "len") (fun xs H Q=> ∃ (D:Addr) (S:Key→Bool) (n:Nat),xs=[.ref D]∧H D=some (setO X.prog X.w D S n)∧Q (.int n) H):=by
 intro pZ s σ H xs us Q I r h
 obtain⟨D,S,n,rfl,e,q⟩:=h
 obtain⟨u,rfl,rx⟩:=vals1 r
 cases rx
 obtain⟨o,es,ep,t,ho,hex,hd,hel,hmem,hb,hf,hn⟩:=setO_is I.hok e
 have hb':es.size < 4096:=hb
 refine PySem.call_len_set ho hex hd hf (by lia) ?_
 exact⟨.int n,H,I.tok _,⟨_,by rw[hn]⟩,q⟩
end
theorem eval_SetComp (elt gens scope pos):eval (.SetComp elt gens scope pos) env=
  comprehension (.SetComp elt gens scope pos) scope env (firstIterPos gens pos) (newSet (.type "set")) (firstAsync gens) (firstIter gens env):=rfl
theorem turn_set (elt target iter:Expr) (ifs:List Expr) (scope:Scope) (pos:Pos) (it acc:Value) (env:Env):compTurn (.SetComp elt [⟨target,iter,ifs,0⟩] scope pos) 0 it acc env=(standAt iter.pos >>= fun _=>pyNext it >>= fun r=>match r with
  |none=>pure (.done .next)
  |some v=>letOwnedTupleGo target it v >>= fun _=>assign target env v >>= fun _=>(forIn ifs true fun c r=>if r=true then do let ok ←isTrue c env (eval c env);pure (ForInStep.yield ok) else pure (ForInStep.yield r)) >>= fun ok=>
   if ok=true then(eval elt env >>= fun x=>standAt elt.pos >>= fun _=>call (.builtin "set.add") [acc,x] >>= fun _=>pure ()) >>= fun _=>again (.compLoop (.SetComp elt [⟨target,iter,ifs,0⟩] scope pos) 0 it acc env)
   else again (.compLoop (.SetComp elt [⟨target,iter,ifs,0⟩] scope pos) 0 it acc env)):=rfl
theorem start_set (one:codeAny (model prog w) A (.compLoop (.SetComp elt [⟨target,iter,ifs,0⟩] scope pos) 0 it acc env) R s)
  (two:wpAny (model prog w) A (pyIter it) (fun j s'=>codeAny (model prog w) A (.compLoop (.SetComp elt [⟨target,iter,ifs,0⟩] scope pos) 0 j acc env) R s') (notedBy (model prog w) A env fun x s'=>R (.error x) s') s):
  codeAny (model prog w) A (.compStart (.SetComp elt [⟨target,iter,ifs,0⟩] scope pos) 0 it acc env) R s:=
 codeAny_of_tree (wpAny_notedAt (pos:=theWindowsPlace) (m:=compStart (.SetComp elt [⟨target,iter,ifs,0⟩] scope pos) 0 it acc env) (by
  have again_at: ∀ (j:Value) (s':Shared),codeAny (model prog w) A (.compLoop (.SetComp elt [⟨target,iter,ifs,0⟩] scope pos) 0 j acc env) R s'→(Code.compLoop (.SetComp elt [⟨target,iter,ifs,0⟩] scope pos) 0 j acc env).quiet=true∧codeAny (model prog w) A (.compLoop (.SetComp elt [⟨target,iter,ifs,0⟩] scope pos) 0 j acc env) R s':=fun _ _ q=>⟨rfl,q⟩
  unfold compStart
  change wpAny _ _ (ask >>= _) _ _ s
  apply wpAny_bind
  apply wpAny_askSetting
  apply wpAny_ite
  split
  ·exact wpAny_pure (again_at it s one)
  ·apply wpAny_bind
   apply wpAny_rule
   apply wpAny_bind
   apply wpAny_standAt
   apply wpAny_bind
   exact wpAny_mono two (fun j s' q=>wpAny_pure (again_at j s' q)) fun _ _ q=>q))
theorem comp_loopS (I:Nat→Shared→Prop)
  (turn: ∀ n s,I n s→wpAny (model prog w) A (pyNext it) (fun r s₁=>match r with
   |none=>R (.ok .next) s₁
   |some v=>wpAny (model prog w) A (letOwnedTupleGo target it v) (fun _ s₁'=>wpAny (model prog w) A (assign target env v) (fun _ s₂=>
     wpAny (model prog w) A (forIn ifs true fun c r=>if r=true then do let ok ←isTrue c env (eval c env);pure (ForInStep.yield ok) else pure (ForInStep.yield r)) (fun ok s₃=>
      if ok=true then wpAny (model prog w) A (eval elt env) (fun x s₄=>
       wpAny (model prog w) A (call (.builtin "set.add") [acc,x]) (fun _ s₅=> ∃ m,m < n∧I m s₅) (fun _ _=>False) s₄) (fun _ _=>False) s₃
      else ∃ m,m < n∧I m s₃) (fun _ _=>False) s₂) (fun _ _=>False) s₁') (fun _ _=>False) s₁) (fun _ _=>False) s)
  (n:Nat) (h:I n s):
  codeAny (model prog w) A (.compLoop (.SetComp elt [⟨target,iter,ifs,0⟩] scope pos) 0 it acc env) R s:=by
 refine codeAny_loop rfl I (fun n s hI=>?_) n h
 show wpAny _ A ((compTurn (.SetComp elt [⟨target,iter,ifs,0⟩] scope pos) 0 it acc env).onRaise (fun x=>do noteFrame x env;theTreesLotGoes x)) _ _ s
 refine wpAny_noted ?_
 refine wpAny_mono (E:=fun _ _=>False) ?_ (fun _ _ q=>q) fun _ _ q=>q.elim
 rw[turn_set]
 refine wpAny_bind (wpAny_standAt (wpAny_bind (thn (turn n s hI) fun r s₁ h₁=>?_)))
 cases r with
 |none=>exact wpAny_pure h₁
 |some v=>
  refine wpAny_bind (thn h₁ fun _ s₁' h₁'=>?_)
  refine wpAny_bind (thn h₁' fun _ s₂ h₂=>wpAny_bind (thn h₂ fun ok s₃ h₃=>?_))
  cases ok with
  |false=>exact wpAny_pure ⟨rfl,h₃⟩
  |true=>exact wpAny_bind (wpAny_bind (thn h₃ fun x s₄ h₄=>wpAny_bind (wpAny_standAt (wpAny_bind (thn h₄ fun _ s₅ h₅=>wpAny_pure (wpAny_pure ⟨rfl,h₅⟩))))))
section
variable {X:Cx} {pZ:List (Addr×Obj)} {σ:St} {H:Hp} {s:Shared} {scope:Scope} {N:List Str} {js:List (Option Nat)} {fp:List Addr}
def ScW (P:Program) (w:World) (J:It) (D:Addr) (g:TG) (tt:TT) (te:TE) (Q:VK) (σ0:St) (H1:Hp):Prop:=
 ∃ W:Nat→Nat→St→Hp→Prop,(∃ m,W 0 m σ0 (upd H1 D (setO P w D (fun _=>false) 0)))∧∀ i m σ' H',W i m σ' H'→
  (J.stop i H'∧Q (.ref D) H')∨(J.go i H'∧∀ x H2,J.yld i H' x H2→g x σ' H2 fun σ2 H3=>tt σ2 H3 fun ok H4=>
   if ok=true then te σ2 H4 fun y H5=> ∃ (k:Key) (S:Key→Bool) (c:Nat),y=kV k∧H5 D=some (setO P w D S c)∧c+1 < PySem.scanBound∧∃ m',m' < m∧W (i+1) m' σ2 (upd H5 D (setO P w D (fun k'=>S k'||decide (k'=k)) (if S k=true then c else c+1)))
   else ∃ m',m' < m∧W (i+1) m' σ2 H4)
def tSC (P:Program) (w:World) (js:List (Option Nat)) (wi:TI) (g:TG) (tt:TT) (te:TE):TE:=fun σ H Q=>wi σ H fun J H1=> ∀ D,H1 D=none→ScW P w J D g tt te Q (capSt js σ) H1
theorem sc_loop {iter:Expr} {Q:VK} {R:Value→Addr→Result→Shared→Prop}
  (L:LcScope X scope N js) (hc:X.calm=true)
  (hg: ∀ s₀ H₀ ex pn,PG (cxC X scope N s₀ H₀ ex pn) target g) (ht: ∀ s₀ H₀ ex pn,PTs (cxC X scope N s₀ H₀ ex pn) ifs tt) (he: ∀ s₀ H₀ ex pn,PE (cxC X scope N s₀ H₀ ex pn) elt te)
  (I:Inv X pZ σ H s) (T:Turn X.prog X.w X.K target J fp it tn) (st:tn 0 s.heap) (hf: ∀ b∈fp,FpOk X pZ H b) {h₁:Heap} {tk:Nat} (I3:Inv X pZ σ (upd H D (setO X.prog X.w D (fun _=>false) 0)) s3) (hDl: ∀ b o,s.heap.get? b=some o→b≠D) (k3: ∀ b o,s.heap.get? b=some o→s3.heap.get? b=some o)
  (hns₁:h₁.Ns s3.heap.objs.size (fun _=>none)) (kk: ∀ b o,s3.heap.get? b=some o→h₁.get? b=some o)
  (w: ∃ W:Nat→Nat→St→Hp→Prop,(∃ m,W 0 m (capSt js σ) (upd H D (setO X.prog X.w D (fun _=>false) 0)))∧∀ i m σ' H',W i m σ' H'→
   (J.stop i H'∧Q (.ref D) H')∨(J.go i H'∧∀ x H2,J.yld i H' x H2→g x σ' H2 fun σ2 H3=>tt σ2 H3 fun ok H4=>
    if ok=true then te σ2 H4 fun y H5=> ∃ (k:Key) (S:Key→Bool) (c:Nat),y=kV k∧H5 D=some (setO X.prog X.w D S c)∧c+1 < PySem.scanBound∧∃ m',m' < m∧W (i+1) m' σ2 (upd H5 D (setO X.prog X.w D (fun k'=>S k'||decide (k'=k)) (if S k=true then c else c+1)))
    else ∃ m',m' < m∧W (i+1) m' σ2 H4))
  (hR: ∀ C s' H',Inv X pZ σ H' s'→FpOk X pZ H' C→(∃ m,s'.heap.Ns C m)→Q (.ref D) H'→R (.ref D) C (.ok .next) s'):
  codeAny (model X.prog X.w) X.A (.compStart (.SetComp elt [⟨target,iter,ifs,0⟩] scope pos) 0 (.ref it) (.ref D) {newEnv scope s3.heap.objs.size X.env.globals (clOf scope.names X.env.cells) X.env.qual none .none (some X.env) builtinsNs with scope:=relabel scope X.env}) (R (.ref D) s3.heap.objs.size) {s3 with heap:=h₁,toks:=tk}:=by
 have obj:=T.obj 0 s.heap st
 have ho3: ∀ b∈fp,∃ o,s3.heap.get? b=some o:=fun b hb=>by obtain⟨o,e,_⟩:=obj b hb;exact⟨o,k3 b o e⟩
 have hf3: ∀ b∈fp,FpOk X pZ (upd H D (setO X.prog X.w D (fun _=>false) 0)) b:=fun b hb=>by
  refine⟨?_,(hf b hb).2⟩
  obtain⟨o,e,_⟩:=obj b hb
  rw[upd_ne (hDl b o e)]
  exact(hf b hb).1
 have I4:Inv (cxC X scope N s3 (upd H D (setO X.prog X.w D (fun _=>false) 0)) fp (X.pn++pZ)) [] (capSt js σ) (upd H D (setO X.prog X.w D (fun _=>false) 0)) {s3 with heap:=h₁,toks:=tk}:=
  L.start I3 hc hf3 ho3 hns₁ kk
 obtain⟨W,⟨m0,w0⟩,turn⟩:=w
 have st4:tn 0 h₁:=T.keep 0 _ _ st fun b _ o e=>kk b o (k3 b o e)
 generalize hX:cxC X scope N s3 (upd H D (setO X.prog X.w D (fun _=>false) 0)) fp (X.pn++pZ)=Y at I4
 have fpY: ∀ b∈fp,b≠Y.env.locals∧b∉Y.fs∧(b∈Y.ex∨Y.s₀.heap.objs.size≤b)∧(∀ x c,Y.env.cells.lookup x=some c→c≠b)∧∀ p∈Y.pn++[],p.1≠b:=fun b hb=>by
  rw[←hX]
  obtain⟨o,e⟩:=ho3 b hb
  refine⟨Nat.ne_of_lt (Heap.lt_size e),fun z=>?_,.inl hb,fun x c h=>(hf b hb).2.2.2.2.1 x c (cl_sound _ _ _ (fun _ _ e=>by simp at e) x c h),fun p hp=>(hf b hb).2.2.2.2.2 p (by simpa[cxC] using hp)⟩
  rcases List.mem_cons.mp (I3.stkSub b z) with q|q
  ·exact(hf b hb).2.1 q
  ·exact(hf b hb).2.2.1 q
 have loop:codeAny (model X.prog X.w) X.A (.compLoop (.SetComp elt [⟨target,iter,ifs,0⟩] scope pos) 0 (.ref it) (.ref D) Y.env) (R (.ref D) s3.heap.objs.size) {s3 with heap:=h₁,toks:=tk}:=by
  have pr:Y.prog=X.prog:=by rw[←hX];rfl
  have pw:Y.w=X.w:=by rw[←hX];rfl
  have pK:Y.K=X.K:=by rw[←hX];rfl
  have pA:Y.A=X.A:=by rw[←hX];rfl
  have pc:Y.calm=true:=by rw[←hX];rfl
  have px:Y.xe=fun _ _=>False:=by rw[←hX];rfl
  have stat: ∀ {H':Hp},(∀ b∈fp,H' b=none)→∀ b∈fp,FpOk Y [] H' b:=fun hn b hb=>⟨hn b hb,fpY b hb⟩
  refine comp_loopS (fun n s'=> ∃ i σ' H',Inv Y [] σ' H' s'∧tn i s'.heap∧(∀ b∈fp,H' b=none)∧W i n σ' H') ?_ m0 ⟨0,_,_,I4,st4,fun b hb=>(hf3 b hb).1,w0⟩
  rintro n s5 ⟨i,σ5,H5,I5,st5,fr5,w5⟩
  have gY:PG Y target g:=by rw[←hX];exact hg _ _ _ _
  have tY:PTs Y ifs tt:=by rw[←hX];exact ht _ _ _ _
  have eY:PE Y elt te:=by rw[←hX];exact he _ _ _ _
  unfold PG at gY;unfold PTs at tY;unfold PE at eY
  rw[pr,pw,pA,px] at gY tY eY
  have ap:=mt_addK (X:=Y)
  unfold MtM at ap
  rw[pr,pw,pA,px] at ap
  rcases turn i n σ5 H5 w5 with⟨stop,q⟩|⟨go,step⟩
  ·have d:=T.done Y pr pw pK pc i [] s5 σ5 H5 (fun _ _=>False) I5 (stat fr5) st5 stop
   rw[pA] at d
   refine thn d fun r s6 ⟨hr,I6⟩=>?_
   subst hr
   have I6':Inv (cxC X scope N s3 (upd H D (setO X.prog X.w D (fun _=>false) 0)) fp (X.pn++pZ)) [] σ5 H5 s6:=by rw[hX];exact I6
   obtain⟨a1,a2,a3⟩:=lc_end I3 hf3 I6'
   exact hR _ s6 H5 a1 a2 a3 q
  ·have d:=T.item Y pr pw pK pc i [] s5 σ5 H5 (fun _ _=>False) I5 (stat fr5) st5 go
   rw[pA] at d
   refine thn d fun r s6 ⟨u,hr,h6⟩=>?_
   subst hr
   refine thn h6 fun _ s7 ⟨x,H7,I7,r7,y7,st7,fr7⟩=>?_
   have I7':=I7.pinned (stat fr7) (T.obj _ _ st7)
   refine thn (gY _ s7 σ5 H7 x u _ I7' r7 (step x H7 y7)) fun _ s8 ⟨σ8,H8,I8,q8⟩=>?_
   have again: ∀ {σ9:St} {H9:Hp} {s9:Shared},Inv Y ([]++pinsAt fp s7.heap) σ9 H9 s9→(∃ m',m' < n∧W (i+1) m' σ9 H9)→∃ m,m < n∧∃ i σ' H',Inv Y [] σ' H' s9∧tn i s9.heap∧(∀ b∈fp,H' b=none)∧W i m σ' H':=fun {σ9 H9 s9} I9 ⟨m',hm,w9⟩=>by
    refine⟨m',hm,i+1,σ9,H9,I9.unpinned,T.keep _ _ _ st7 fun b hb o e=>(I9.pin (b,o) (List.mem_append_right _ (List.mem_append_right _ (mem_pinsAt hb e)))).1,fun b hb=>?_,w9⟩
    obtain⟨o,e,d⟩:=T.obj _ _ st7 b hb
    exact(I9.pin (b,o) (List.mem_append_right _ (List.mem_append_right _ (mem_pinsAt hb e)))).2.1
   refine thn (tY _ s8 σ8 H8 _ I8 q8) fun ok s9 ⟨H9,I9,q9⟩=>?_
   cases ok with
   |false=>
    rw[if_neg (by decide)] at q9
    rw[if_neg (by decide)]
    exact again I9 q9
   |true=>
    rw[if_pos rfl] at q9
    rw[if_pos rfl]
    refine thn (eY _ s9 σ8 H9 _ I9 q9) fun v s10 ⟨y,H10,I10,r10,ky,S,c,eky,eys,lys,q10⟩=>?_
    refine thn (ap _ s10 σ8 H10 (.ref D) [y] (.ref D) [v] (fun _ H'=> ∃ m',m' < n∧W (i+1) m' σ8 H') I10 rfl (.cons r10 .nil) ⟨D,ky,S,c,rfl,by rw[eky],eys,lys,q10⟩) fun v2 s11 ⟨y2,H11,I11,_,q11⟩=>?_
    exact again I11 q11
 have ee:({newEnv scope s3.heap.objs.size X.env.globals (clOf scope.names X.env.cells) X.env.qual none .none (some X.env) builtinsNs with scope:=relabel scope X.env}:Env)=Y.env:=by rw[←hX];rfl
 rw[ee]
 exact start_set loop (T.self _ 0 _ _ _ st4 loop)
theorem sc_block {iter:Expr} {Q:VK} {E:Value→Shared→Prop} {R:Value→Addr→Result→Shared→Prop}
  (L:LcScope X scope N js) (hc:X.calm=true)
  (hg: ∀ s₀ H₀ ex pn,PG (cxC X scope N s₀ H₀ ex pn) target g) (ht: ∀ s₀ H₀ ex pn,PTs (cxC X scope N s₀ H₀ ex pn) ifs tt) (he: ∀ s₀ H₀ ex pn,PE (cxC X scope N s₀ H₀ ex pn) elt te)
  (I:Inv X pZ σ H s) (T:Turn X.prog X.w X.K target J fp it tn) (st:tn 0 s.heap) (hf: ∀ b∈fp,FpOk X pZ H b)
  (w: ∀ D,H D=none→∃ W:Nat→Nat→St→Hp→Prop,(∃ m,W 0 m (capSt js σ) (upd H D (setO X.prog X.w D (fun _=>false) 0)))∧∀ i m σ' H',W i m σ' H'→
   (J.stop i H'∧Q (.ref D) H')∨(J.go i H'∧∀ x H2,J.yld i H' x H2→g x σ' H2 fun σ2 H3=>tt σ2 H3 fun ok H4=>
    if ok=true then te σ2 H4 fun y H5=> ∃ (k:Key) (S:Key→Bool) (c:Nat),y=kV k∧H5 D=some (setO X.prog X.w D S c)∧c+1 < PySem.scanBound∧∃ m',m' < m∧W (i+1) m' σ2 (upd H5 D (setO X.prog X.w D (fun k'=>S k'||decide (k'=k)) (if S k=true then c else c+1)))
    else ∃ m',m' < m∧W (i+1) m' σ2 H4))
  (hR: ∀ D C s' H',Inv X pZ σ H' s'→FpOk X pZ H' C→(∃ m,s'.heap.Ns C m)→Q (.ref D) H'→R (.ref D) C (.ok .next) s'):
  wpAny (model X.prog X.w) X.A (newSet (.type "set")) (fun acc s₃=>wpAny (model X.prog X.w) X.A (newFunctionEnv scope X.env.globals (clOf scope.names X.env.cells) [] X.env.qual none .none (some X.env)) (fun cenv s₄=>
   codeAny (model X.prog X.w) X.A (.compStart (.SetComp elt [⟨target,iter,ifs,0⟩] scope pos) 0 (.ref it) acc {cenv with scope:=relabel scope X.env}) (R acc cenv.locals) s₄) E s₃) E s:=by
 have hD:=I.fresh
 refine wpAny_newSet_of (knd:=mixKind X.prog X.w) fun led hS=>?_
 have I3:Inv X pZ σ (upd H s.heap.objs.size (setO X.prog X.w s.heap.objs.size (fun _=>false) 0)) {s with heap:=s.heap.push {cls:=.type "set",dict:=none,data:=.set #[] 0 (.fresh 0 0 led)}}:=I.laid (t':=s.toks) (fun b o e=>Heap.get?_push_of_some _ e) (Nat.le_refl _) (setO_ok hS)
 refine wpAny_newFunctionEnv L.nocell (by intro y hy;simp at hy) (fun h₁ hns₁ hsb₁=>?_) L.kind
 dsimp only at hns₁ hsb₁
 exact sc_loop (Q:=Q) (R:=R) (s3:={s with heap:=s.heap.push {cls:=.type "set",dict:=none,data:=.set #[] 0 (.fresh 0 0 led)}}) L hc hg ht he I T st hf I3 (fun b o e=>Nat.ne_of_lt (Heap.lt_size e)) (fun b o e=>Heap.get?_push_of_some _ e) hns₁
  (fun b o e=>hsb₁.extBut b o (Nat.ne_of_lt (Heap.lt_size e)) (Heap.get?_push_of_some _ e)) (w _ hD) (fun C=>hR _ C)
theorem pe_sc (L:LcScope X scope N js) (hc:X.calm=true) (hi:PI X target iter wi)
  (hg: ∀ s₀ H₀ ex pn,PG (cxC X scope N s₀ H₀ ex pn) target g) (ht: ∀ s₀ H₀ ex pn,PTs (cxC X scope N s₀ H₀ ex pn) ifs tt) (he: ∀ s₀ H₀ ex pn,PE (cxC X scope N s₀ H₀ ex pn) elt te)
  (hs: ∀ x,foldedSetIterable iter X.env x=pure x:=by intro _;rfl):PE X (.SetComp elt [⟨target,iter,ifs,0⟩] scope pos) (tSC X.prog X.w js wi g tt te):=by
 intro pZ s σ H Q I h
 rw[eval_SetComp]
 refine wpAny_comprehension_free (use:=none) rfl hs (closure_is (L.clos I.ok)) L.kind L.names (thn (hi pZ s σ H _ I h) fun v s1 h1=>thn h1 fun itv s2 h2=>?_)
 obtain⟨it,fp,tn,J,H2,e,I2,T,st2,f2,w⟩:=h2
 subst e
 refine sc_block (Q:=Q) (R:=fun acc C=>compPost (model X.prog X.w) X.A X.xe none (EP X pZ σ Q) acc C) L hc hg ht he I2 T st2 f2 w ?_
 intro D C s' H' I' f' ⟨m,hn⟩ q
 exact⟨m,hn,fun h' hs'=>⟨.ref D,H',I'.gone (m:=m) f' hs',rfl,q⟩⟩
end
section
variable {φ:Fam}
section
variable {X:Cx} {e:Expr} {pos:Pos}
theorem be_sc (L:LcScope X scope N js) (hc:X.calm=true) (hi:BI X target iter wi)
  (hg: ∀ s₀ H₀ ex pn,BG (cxC X scope N s₀ H₀ ex pn) target g) (ht: ∀ s₀ H₀ ex pn,BTs (cxC X scope N s₀ H₀ ex pn) ifs tt) (he: ∀ s₀ H₀ ex pn,BE (cxC X scope N s₀ H₀ ex pn) elt te)
  (hs: ∀ x,foldedSetIterable iter X.env x=pure x:=by intro _;rfl):BE X (.SetComp elt [⟨target,iter,ifs,0⟩] scope pos) (tSC X.prog X.w js wi g tt te):=⟨pe_sc L hc hi.out (fun a b c d=>(hg a b c d).out) (fun a b c d=>(ht a b c d).out) (fun a b c d=>(he a b c d).out) hs⟩
def rLenK (P:Program) (w:World):List V→Hp→VK→Prop:=fun xs H Q=> ∃ (D:Addr) (S:Key→Bool) (n:Nat),xs=[.ref D]∧H D=some (setO P w D S n)∧Q (.int n) H
theorem call_lenKK:CallR X (.builtin "len") (rLenK X.prog X.w):=call_lenK
def keyOf:PV→Key
 | .int i=>.inl i
 | .str x=>.inr x
 |_=>.inl 0
def keyM:PV→M PV
 | .int i=>.ret (.int i)
 | .str x=>.ret (.str x)
 |_=>.fail
def inK (ks:List Key) (k:Key):Bool:=ks.any fun k'=>decide (k'=k)
def dk (zs:List PV):List Key:=zs.foldl (fun ks z=>if inK ks (keyOf z)=true then ks else ks++[keyOf z]) []
def lenSet (zs:List PV):M PV:=.ret (.int (dk zs).length)
theorem dk_snoc (zs:List PV) (z:PV):dk (zs++[z])=if inK (dk zs) (keyOf z)=true then dk zs else dk zs++[keyOf z]:=by unfold dk;rw[List.foldl_append];rfl
theorem dk_len_aux: ∀ (zs:List PV) (ks:List Key),(zs.foldl (fun ks z=>if inK ks (keyOf z)=true then ks else ks++[keyOf z]) ks).length≤ks.length+zs.length
 |[],ks=>by simp
 |z::zs,ks=>by
  rw[List.foldl_cons]
  have h:=dk_len_aux zs (if inK ks (keyOf z)=true then ks else ks++[keyOf z])
  have:(if inK ks (keyOf z)=true then ks else ks++[keyOf z]).length≤ks.length+1:=by split<;>simp
  simp only[List.length_cons]
  lia
theorem dk_len (zs:List PV):(dk zs).length≤zs.length:=by have:=dk_len_aux zs [];simpa[dk] using this
theorem dk_S (zs:List PV) (z:PV):(fun k'=>inK (dk zs) k'||decide (k'=keyOf z))=fun k'=>inK (dk (zs++[z])) k':=by
 funext k'
 rw[dk_snoc]
 by_cases h:inK (dk zs) (keyOf z)=true
 ·rw[if_pos h]
  by_cases e:k'=keyOf z
  ·subst e;simp[h]
  ·simp[e]
 ·rw[if_neg h]
  unfold inK
  rw[List.any_append]
  by_cases e:k'=keyOf z
  ·subst e;simp
  ·have e': ¬ keyOf z=k':=fun z=>e z.symm
   simp[e,e']
theorem dk_n (zs:List PV) (z:PV):(if inK (dk zs) (keyOf z)=true then(dk zs).length else(dk zs).length+1)=(dk (zs++[z])).length:=by
 rw[dk_snoc]
 by_cases h:inK (dk zs) (keyOf z)=true
 ·rw[if_pos h,if_pos h]
 ·rw[if_neg h,if_neg h];simp
theorem keyM_wp (r:Rep B O H z x) (w:((keyM z).bind f).wp n R):x=kV (keyOf z)∧(f z).wp n R:=by
 cases r<;>first|exact⟨rfl,w⟩|exact w.elim
noncomputable def mkSC (js:List (Option Nat)) (mi:PEnv→M (List PV)) (bd:PV→PEnv→M PEnv) (tt:PEnv→M Bool) (te:PEnv→M PV):PEnv→M (List PV):=fun ρ=>(mi ρ).bind fun l=>if l.length≤4000 then lcM bd tt (fun ρ=>(te ρ).bind keyM) l (capP js ρ) else .fail
noncomputable def Bg.withS (G:Bg φ) (D:Addr) (hD:D≠G.B):Bg φ where
 B:=G.B
 priv:=fun p=>G.priv p∨p=D
 ok:=fun H n=>G.ok H n∧∃ o,H D=some o
 pB:=.inl G.pB
 keep:=fun H H' n k h=>⟨G.keep H H' n (fun p o z=>k p o (z.imp .inl id)) h.1,by obtain⟨o,e⟩:=h.2;exact⟨o,k D _ (.inl (.inr rfl)) e⟩⟩
 tp:=fun e he=>.inl (G.tp e he)
 tab:=fun H n h=>G.tab H n h.1
 tset:=fun H H' n h h1 h2=>⟨G.tset H H' n h.1 h1 h2,by
  obtain⟨o,e⟩:=h.2
  by_cases z:D∈φ.tabs.map (·.1)
  ·obtain⟨q,hq,e3⟩:=List.mem_map.mp z
   obtain⟨ps,e2,_⟩:=h1 q hq
   exact⟨_,e3▸e2⟩
  ·exact⟨o,h2 D _ z e⟩⟩
 dom:=fun H n p h z=>by
  rcases z with z|z
  ·exact G.dom H n p h.1 z
  ·subst z;exact h.2
 dr:=fun H n m Q E h h0 h1 q=>G.dr H n m Q E h.1 h0 h1 fun d H' d0 d1 e o=>q d H' d0 d1 e ⟨o,by
  obtain⟨u,e2⟩:=h.2
  exact(e D u hD e2).there⟩
theorem sc_in {K:PySem.W.Frag} {P:Program} {wd:World} {js:List (Option Nat)} {mi:PEnv→M (List PV)} {bd:PV→PEnv→M PEnv} {tt:PEnv→M Bool} {te:PEnv→M PV}: ∀ σ H Q,teP φ (fun ρ=>(mkSC js mi bd tt te ρ).bind lenSet) σ H Q→tSC P wd js (tiP φ K false mi) (tgP φ bd) (ttP φ tt) (teP φ te) σ H (fun x H'=>rLenK P wd [x] H' Q):=fun σ H Q hq0=>by
 obtain⟨G,O,ρ,n,R,s,w,q⟩:=hq0
 rw[M.wZ] at w
 unfold mkSC at w
 rw[M.wZ] at w
 refine⟨G,O,ρ,n,_,s,w,fun l J H1 n1 e1 ok1 it w1=>fun D hD=>?_⟩
 by_cases hl:l.length≤4000
 case neg=>rw[if_neg hl] at w1;exact w1.elim
 rw[if_pos hl] at w1
 have s1:=s.ext e1 ok1
 have nD: ¬ O D:=fun z=>by obtain⟨o,g⟩:=s1.dm D z;rw[hD] at g;cases g
 have pD: ¬ G.priv D:=fun z=>nD (s.pr _ z)
 have hBD:D≠G.B:=fun z=>pD (z▸G.pB)
 have hne: ∀ p o,H1 p=some o→p≠D:=fun p o hp z=>by subst z;rw[hD] at hp;cases hp
 let O':Addr→Prop:=fun p=>O p∨p=D
 let G':Bg φ:=G.withS D hBD
 have k0: ∀ p o,¬ O p→H1 p=some o→upd H1 D (setO P wd D (fun _=>false) 0) p=some o∧¬ O' p:=fun p o np hp=>⟨by rw[upd_ne (hne p o hp)];exact hp,fun z=>by
  rcases z with z|z
  ·exact np z
  ·exact hne p o hp z⟩
 have kD: ∀ (H5:Hp) (o:HO) p u,¬ O' p→H5 p=some u→upd H5 D o p=some u∧¬ O' p:=fun H5 o p u np hp=>⟨by rw[upd_ne (fun z=>np (.inr z))];exact hp,np⟩
 refine⟨fun i m σ' H'=>m=l.length - i∧i≤l.length∧∃ (zs:List PV) (ρ':PEnv) (n':Nat),zs.length≤i∧H' D=some (setO P wd D (fun k=>inK (dk zs) k) (dk zs).length)∧ES G' O' H' σ' ρ' n'∧Ext G.B H1 H'∧ItOf K G' O' false H' l J∧
  (lcM bd tt (fun ρ=>(te ρ).bind keyM) (l.drop i) ρ').wp n' (fun t k=>(lenSet (zs++t)).wp k R),⟨l.length,by simp,Nat.zero_le _,[],capP js ρ,n1,Nat.le_refl _,upd_same,?_,Ext.new hD _,?_,?_⟩,?_⟩
 ·have er:=capP_rep s1.er js
  refine⟨⟨er.1,fun i e he=>?_⟩,⟨Bg.new ok1 hD _,_,upd_same⟩,fun p z=>?_,fun p z=>?_⟩
  ·have r1:=er.2 i e he
   cases e with
   |un=>trivial
   |val y=>obtain⟨x,hx,rr⟩:=r1;exact⟨x,hx,rr.keep k0⟩
   |own t=>
    obtain⟨p,xs,hx,hp,np,hh,rr⟩:=r1
    exact⟨p,xs,hx,.inl hp,fun z=>by
     rcases z with z|z
     ·exact np z
     ·exact hne p _ hh z,by rw[upd_ne (hne p _ hh)];exact hh,rr.keep k0⟩
   |ownD t=>
    obtain⟨p,xs,hx,hp,np,hh,rr⟩:=r1
    exact⟨p,xs,hx,.inl hp,fun z=>by
     rcases z with z|z
     ·exact np z
     ·exact hne p _ hh z,by rw[upd_ne (hne p _ hh)];exact hh,rr.keep k0⟩
  ·rcases z with z|z
   ·exact .inl (s.pr p z)
   ·exact .inr z
  ·rcases z with z|z
   ·obtain⟨o,g⟩:=s1.dm p z;exact⟨o,by rw[upd_ne (hne p o g)];exact g⟩
   ·subst z;exact⟨_,upd_same⟩
 ·cases it with
  |lst np hp h r=>
   exact .lst (fun z=>by
    rcases z with z|z
    ·exact np z
    ·exact hne _ _ h z) (fun z=>by cases z) (by rw[upd_ne (hne _ _ h)];exact h) (r.keep k0)
  |tup hp h r=>exact .tup (k0 _ _ hp h).2 (k0 _ _ hp h).1 (r.keep k0)
  |txt z=>exact .txt z
  |rng lo n=>exact .rng lo n
 ·simpa using w1
 ·rintro i m σ' H' ⟨rfl,hi,zs,ρ',n',hy,hDy,s',ex,it',w'⟩
  by_cases hlt:i < l.length
  ·have hget:l[i]?=some l[i]:=List.getElem?_eq_getElem hlt
   have hdrop:l.drop i=l[i]::l.drop (i+1):=List.drop_eq_getElem_cons hlt
   rw[hdrop] at w'
   unfold lcM at w'
   obtain⟨g1,g2⟩:=it'.go hget
   refine .inr ⟨g1,fun x H2 yl=>?_⟩
   obtain⟨eH,rx⟩:=g2 x H2 yl
   subst eH
   rw[M.wZ] at w'
   refine⟨G',O',ρ',n',_,l[i],s',rx,w',fun σ2 ρ2 n2 s2 w2=>?_⟩
   rw[M.wZ] at w2
   refine⟨G',O',ρ2,n2,_,s2,w2,fun ok H4 n4 e4 ok4 w4=>?_⟩
   have D4:H4 D=some (setO P wd D (fun k=>inK (dk zs) k) (dk zs).length):=e4 D _ hBD hDy
   have it4:ItOf K G' O' false H4 l J:=it'.keepS (fun p o np hp=>⟨e4 p o (fun z=>np (.inl (z▸s.B))) hp,np⟩) (.inr fun p xs np hp=>e4 p _ (fun z=>np (z▸G'.pB)) hp) fun p z=>by cases z
   cases ok with
   |true=>
    simp only[if_true] at w4 ⊢
    rw[M.bZ,M.wZ] at w4
    refine⟨G',O',ρ2,n4,_,s2.ext e4 ok4,w4,fun z x5 H5 n5 e5 ok5 r5 w5=>?_⟩
    have D5:H5 D=some (setO P wd D (fun k=>inK (dk zs) k) (dk zs).length):=e5 D _ hBD D4
    obtain⟨ek,w5⟩:=keyM_wp r5 w5
    rw[M.wZ] at w5
    have s5:=s2.ext (e4.trans e5) ok5
    have it5:ItOf K G' O' false H5 l J:=it4.keepS (fun p o np hp=>⟨e5 p o (fun z=>np (.inl (z▸s.B))) hp,np⟩) (.inr fun p xs np hp=>e5 p _ (fun z=>np (z▸G'.pB)) hp) fun p z=>by cases z
    have hdl:=dk_len zs
    refine⟨keyOf z,_,_,ek,D5,by show _ < 4096;lia,l.length - (i+1),by lia,rfl,hlt,zs++[z],ρ2,n5,by simp;lia,by rw[upd_same,dk_S,dk_n],?_,?_,?_,?_⟩
    ·refine⟨⟨s5.er.1,fun j e he=>?_⟩,⟨G.keep H5 _ _ (fun p o hp hpo=>by
      have hpd:p≠D:=fun z=>by
       rcases hp with hp|hp
       ·exact pD (z▸hp)
       ·rw[z,D5] at hpo;cases hpo;exact hp
      rw[upd_ne hpd];exact hpo) ok5.1,_,upd_same⟩,s5.pr,fun p hp=>?_⟩
     ·have r1:=s5.er.2 j e he
      cases e with
      |un=>trivial
      |val y=>obtain⟨x,hx,rr⟩:=r1;exact⟨x,hx,rr.keep (kD H5 _)⟩
      |own t=>
       obtain⟨p,xs,hx,hp,np,hh,rr⟩:=r1
       exact⟨p,xs,hx,hp,np,by rw[upd_ne (fun z=>np (.inr z))];exact hh,rr.keep (kD H5 _)⟩
      |ownD t=>
       obtain⟨p,xs,hx,hp,np,hh,rr⟩:=r1
       exact⟨p,xs,hx,hp,np,by rw[upd_ne (fun z=>np (.inr z))];exact hh,rr.keep (kD H5 _)⟩
     ·by_cases hpd:p=D
      ·subst hpd;exact⟨_,upd_same⟩
      ·obtain⟨o,g⟩:=s5.dm p hp;exact⟨o,by rw[upd_ne hpd];exact g⟩
    ·intro p o np hp
     exact((ex.trans (e4.trans e5)) p o np hp).to fun u e=>.of (by rw[upd_ne (hne p o hp)];exact e)
    ·exact it5.keep (kD H5 _) (.inr fun p xs np hp=>by rw[upd_ne (fun z=>np (.inr z))];exact hp) fun p z=>by cases z
    ·refine M.wp_mono w5 fun t k' hk=>?_
     have hk':(lenSet (zs++z::t)).wp k' R:=hk
     simpa using hk'
   |false=>
    exact⟨l.length - (i+1),by lia,rfl,hlt,zs,ρ2,n4,by lia,D4,s2.ext e4 ok4,ex.trans e4,it4,w4⟩
  ·have e:i=l.length:=by lia
   subst e
   refine .inl ⟨it'.stop,?_⟩
   rw[List.drop_length] at w'
   have w2:(lenSet (zs++[])).wp n' R:=w'
   rw[List.append_nil] at w2
   exact⟨D,_,_,rfl,hDy,q (.int (dk zs).length) (.int (dk zs).length) H' n' (e1.trans ex) s'.ok.1 (.int _) w2⟩
theorem ev_lenSC (h:BE X e (tCB (rLenK X.prog X.w) (tCons (tSC X.prog X.w js (tiP φ X.K false mi) (tgP φ bd) (ttP φ tt) (teP φ te)) tNil))):EV φ X e (fun ρ=>(mkSC js mi bd tt te ρ).bind lenSet):=BE.mono h fun σ H Q hq=>sc_in σ H Q hq
end
end
noncomputable def Ite (K:PySem.W.Frag) (a:Addr):It:=
 ⟨fun i H=> ∃ xs x,SqL K H a xs∧xs[i]?=some x,fun i H y H'=> ∃ T,y= .ref T∧H T=none∧∀ xs x,SqL K H a xs→xs[i]?=some x→H'=upd H T (.tup [.int i,x]),fun i H=> ∃ xs,SqL K H a xs∧xs.length≤i⟩
noncomputable def Itz (a b:Addr):It:=
 ⟨fun i H=> ∃ xs ys x y,H a=some (.tup xs)∧H b=some (.tup ys)∧xs[i]?=some x∧ys[i]?=some y,fun i H r H'=> ∃ T,r= .ref T∧H T=none∧∀ xs ys x y,H a=some (.tup xs)→H b=some (.tup ys)→xs[i]?=some x→ys[i]?=some y→H'=upd H T (.tup [x,y]),fun i H=> ∃ xs ys,H a=some (.tup xs)∧H b=some (.tup ys)∧(xs.length≤i∨ys.length≤i)⟩
section
variable {φ:Fam}
def zipL (l1 l2:List PV):List PV:=List.zipWith (fun x y=>PV.tup [x,y]) l1 l2
inductive ItQ (G:Bg φ) (O:Addr→Prop) (H:Hp):List PV→It→Prop where
 |zip {a b:Addr} {xs ys:List V} {l1 l2:List PV} (na: ¬ O a) (ha:H a=some (.tup xs)) (ra:Reps G.B O H l1 xs) (nb: ¬ O b) (hb:H b=some (.tup ys)) (rb:Reps G.B O H l2 ys):ItQ G O H (zipL l1 l2) (Itz a b)
end
section
variable {φ:Fam}
section
variable {X:Cx} {e:Expr}
def small3 (a b c:Int):Prop:=0 < c∧c < 1000000000∧-1000000000000 < a∧a < 1000000000000∧-1000000000000 < b∧b < 1000000000000
end
end
section
variable {φ:Fam}
instance (a b c:Int):Decidable (small3 a b c):=by unfold small3;infer_instance
end
theorem mul_small (h0:0≤j) (h1:j < 2 ^ 63):CMul i j:=by
 have e:(2:Int) ^ 63=9223372036854775808:=by decide
 have e2:(2:Int) ^ 64=18446744073709551616:=by decide
 rw[e] at h1
 exact .inr ⟨by rw[e2];lia,by rw[e2];lia⟩
theorem mul_smallL (h0:0≤i) (h1:i < 2 ^ 63):CMul i j:=by
 have e:(2:Int) ^ 63=9223372036854775808:=by decide
 have e2:(2:Int) ^ 64=18446744073709551616:=by decide
 rw[e] at h1
 exact .inl ⟨by rw[e2];lia,by rw[e2];lia⟩
theorem at0 (x:Int) (ns:List Int):atI ((x::ns).map V.int) 0=some (.int x):=(atI_nat (j:=0) rfl:atI ((x::ns).map V.int) ((0:Nat):Int)=some (.int x))
section
variable {X:Cx}
def showsD (d:PyData):Prop:=d.showable=true∧d.hasDict=false∧d.shown.length≤1000000∧d.depth≤40
end
instance (d:PyData):Decidable (showsD d):=by unfold showsD;infer_instance
section
variable {X:Cx} {φ:Fam} {st:Stmt}
def intsOf:List PV→Option (List Int)
 |[]=>some []
 | .int b::r=>(intsOf r).map (b:: ·)
 |_=>none
theorem ints_rep: ∀ {l:List PV} {xs:List V} {bs:List Int},Reps B O H l xs→intsOf l=some bs→xs=bs.map V.int
 |[],xs,bs,h,e=>by simp[intsOf] at e;subst e;exact h.nil_inv
 |y::l,xs,bs,h,e=>by
  cases y<;>simp[intsOf] at e
  rename_i i
  obtain⟨bs',e1,rfl⟩:=e
  obtain⟨x,t,rfl,h1,h2⟩:=h.cons_inv
  cases h1
  rw[List.map_cons,ints_rep h2 e1]
end
section
open PySem.W (KasT kas_rev kas_asc kas_desc kas_tail3 kas_descPart kas_count kas_place kas_bin kas_sort)
section
variable (r:Nat→Int)
def runK {α:Type}:KasT α→α
 | .ret a=>a
 | .ask i j k=>runK (k (decide (r i < r j)))
theorem run_bind (f:α→KasT β): ∀ t:KasT α,runK r (t.bind f)=runK r (f (runK r t))
 | .ret a=>rfl
 | .ask i j k=>run_bind f (k (decide (r i < r j)))
theorem run_ite [Decidable c] (a b:KasT α):runK r (if c then a else b)=if c then runK r a else runK r b:=by split<;>rfl
def kg (p:Array Nat) (k:Nat):Int:=r (p.getD k 0)
def Ups (p:Array Nat) (m:Nat):Prop:= ∀ i j,i < j→j < m→kg r p i < kg r p j
def Unl (p:Array Nat):Prop:= ∀ i j,i < p.size→j < p.size→i≠j→kg r p i≠kg r p j
variable {r}
theorem ups_succ (h1:1≤n) (h:Ups r p n) (h':kg r p (n - 1) < kg r p n):Ups r p (n+1):=fun i j hij hj=>by
 by_cases e:j=n
 ·subst e
  by_cases e2:i=j - 1
  ·subst e2;exact h'
  ·exact Int.lt_trans (h i (j - 1) (by lia) (by lia)) h'
 ·exact h i j hij (by lia)
theorem asc_is (u:Unl r p): ∀ (f n:Nat),1≤n→n+f≤p.size→Ups r p n→∃ m,runK r (kas_asc p f n)=m∧n≤m∧m≤n+f∧Ups r p m∧(m < n+f→kg r p m < kg r p (m - 1))
 |0,n,h1,hz,h=>⟨n,rfl,by lia,by lia,h,fun z=>by lia⟩
 |f+1,n,h1,hz,h=>by
  unfold kas_asc
  show ∃ m,runK r (if decide (r (p.getD n 0) < r (p.getD (n - 1) 0))=true then KasT.ret n else kas_asc p f (n+1))=m∧_
  by_cases c:r (p.getD n 0) < r (p.getD (n - 1) 0)
  ·rw[if_pos (by simpa using c)]
   exact⟨n,rfl,by lia,by lia,h,fun _=>c⟩
  ·rw[if_neg (by simpa using c)]
   have ne:=u (n - 1) n (by lia) (by lia) (by lia)
   have lt:kg r p (n - 1) < kg r p n:=by
    have: ¬ kg r p n < kg r p (n - 1):=c
    lia
   obtain⟨m,e,a1,a2,a3,a4⟩:=asc_is u f (n+1) (by lia) (by lia) (ups_succ h1 h lt)
   exact⟨m,e,by lia,by lia,a3,fun z=>a4 (by lia)⟩
def Dns (r:Nat→Int) (p:Array Nat) (m:Nat):Prop:= ∀ i j,i < j→j < m→kg r p j < kg r p i
theorem dns_succ (h1:1≤n) (h:Dns r p n) (h':kg r p n < kg r p (n - 1)):Dns r p (n+1):=fun i j hij hj=>by
 by_cases e:j=n
 ·subst e
  by_cases e2:i=j - 1
  ·subst e2;exact h'
  ·exact Int.lt_trans h' (h i (j - 1) (by lia) (by lia))
 ·exact h i j hij (by lia)
theorem desc_is (u:Unl r p): ∀ (f n:Nat),1≤n→n+f≤p.size→Dns r p n→∃ m,runK r (kas_desc f p n 0)=(p,m,0)∧n≤m∧m≤n+f∧Dns r p m
 |0,n,h1,hz,h=>⟨n,rfl,by lia,by lia,h⟩
 |f+1,n,h1,hz,h=>by
  unfold kas_desc
  by_cases c:r (p.getD n 0) < r (p.getD (n - 1) 0)
  ·obtain⟨m,e,a1,a2,a3⟩:=desc_is u f (n+1) (by lia) (by lia) (dns_succ h1 h c)
   refine⟨m,?_,by lia,by lia,a3⟩
   show runK r (if decide (r (p.getD n 0) < r (p.getD (n - 1) 0))=true then _ else _)=_
   rw[if_pos (by simpa using c),if_neg (by lia)]
   exact e
  ·have ne:=u (n - 1) n (by lia) (by lia) (by lia)
   have lt:r (p.getD (n - 1) 0) < r (p.getD n 0):=by
    have n1: ¬ kg r p n < kg r p (n - 1):=c
    have n2:kg r p (n - 1) < kg r p n:=by lia
    exact n2
   refine⟨n,?_,by lia,by lia,h⟩
   show runK r (if decide (r (p.getD n 0) < r (p.getD (n - 1) 0))=true then _ else _)=_
   rw[if_neg (by simpa using c)]
   show runK r (if decide (r (p.getD (n - 1) 0) < r (p.getD n 0))=true then _ else _)=_
   rw[if_pos (by simpa using lt)]
   rfl
theorem rev_at (hm:m≤p.size):(kas_rev p 0 m).getD k 0=if k < m then p.getD (m - 1 - k) 0 else p.getD k 0:=by
 have e:=getElem?_mirror_all (xs:=p) (i:=0) (j:=m) hm k
 unfold kas_rev
 rw[Array.getD_eq_getD_getElem?,e]
 by_cases c:k < m
 ·rw[if_pos ⟨Nat.zero_le _,c⟩,if_pos c,Array.getD_eq_getD_getElem?]
  congr 2
  lia
 ·rw[if_neg (fun z=>c z.2),if_neg c,Array.getD_eq_getD_getElem?]
theorem rev_kg (hm:m≤p.size) (k:Nat):kg r (kas_rev p 0 m) k=if k < m then kg r p (m - 1 - k) else kg r p k:=by
 unfold kg
 rw[rev_at hm]
 by_cases c:k < m
 ·rw[if_pos c,if_pos c]
 ·rw[if_neg c,if_neg c]
theorem rev_unl (hm:m≤p.size) (u:Unl r p):Unl r (kas_rev p 0 m):=fun i j hi hj ne=>by
 have hz:(kas_rev p 0 m).size=p.size:=mirror_size _ _ _ _
 rw[hz] at hi hj
 rw[rev_kg hm,rev_kg hm]
 split<;>split
 ·exact u _ _ (by lia) (by lia) (by lia)
 ·exact u _ _ (by lia) (by lia) (by lia)
 ·exact u _ _ (by lia) (by lia) (by lia)
 ·exact u _ _ hi hj ne
theorem rev_ups (hm:m≤p.size) (h:Dns r p m):Ups r (kas_rev p 0 m) m:=fun i j hij hj=>by
 rw[rev_kg hm,rev_kg hm,if_pos (by lia),if_pos hj]
 exact h (m - 1 - j) (m - 1 - i) (by lia) (by lia)
theorem count_is (u:Unl r p) (h2:1≤p.size): ∃ m p',runK r (kas_count p.size p)=(m,p')∧1≤m∧m≤p.size∧p'.size=p.size∧p'.Perm p∧Unl r p'∧Ups r p' m:=by
 unfold kas_count
 rw[run_bind]
 obtain⟨n,e,a1,a2,a3,a4⟩:=asc_is u (p.size - 1) 1 (by lia) (by lia) (fun i j hij hj=>by lia)
 rw[e]
 by_cases c1:n=p.size
 ·rw[if_pos (by simpa using c1)]
  exact⟨n,p,rfl,a1,by lia,rfl,.refl _,u,a3⟩
 ·rw[if_neg (by simpa using c1)]
  by_cases c2:n > 1
  ·rw[if_pos c2]
   have lt:r (p.getD 0 0) < r (p.getD (n - 1) 0):=a3 0 (n - 1) (by lia) (by lia)
   refine⟨n,p,?_,a1,by lia,rfl,.refl _,u,a3⟩
   show runK r (if decide (r (p.getD 0 0) < r (p.getD (n - 1) 0))=true then _ else _)=_
   rw[if_pos (by simpa using lt)]
   rfl
  ·rw[if_neg c2]
   have en:n=1:=by lia
   subst en
   have lt:=a4 (by lia)
   unfold kas_descPart
   rw[run_bind]
   obtain⟨m,e2,b1,b2,b3⟩:=desc_is u (p.size - (1+1)) (1+1) (by lia) (by lia) (dns_succ (Nat.le_refl 1) (fun i j hij hj=>by lia) lt)
   rw[e2]
   rw[if_neg (by show ¬ (0 > 0);lia)]
   unfold kas_tail3
   rw[run_bind]
   have hz:(kas_rev p 0 m).size=p.size:=mirror_size _ _ _ _
   obtain⟨m',e3,d1,d2,d3,d4⟩:=asc_is (rev_unl (m:=m) (by lia) u) (p.size - m) m (by lia) (by rw[hz];lia) (rev_ups (by lia) b3)
   rw[e3]
   exact⟨m',kas_rev p 0 m,rfl,by lia,by lia,hz,mirror_perm _ _ _ _,rev_unl (by lia) u,d3⟩
theorem place_is (u:Unl r p) (hk:k < p.size) (h:Ups r p k): ∀ (f l q:Nat),q≤l+f→q≤k→l≤q→(∀ i,i < l→kg r p i < kg r p k)→(∀ i,q≤i→i < k→kg r p k < kg r p i)→∃ m,runK r (kas_place p k f l q)=m∧m≤k∧(∀ i,i < m→kg r p i < kg r p k)∧∀ i,m≤i→i < k→kg r p k < kg r p i
 |0,l,q,hf,hq,hl,lo,hi=>⟨l,rfl,by lia,lo,fun i h1 h2=>hi i (by lia) h2⟩
 |f+1,l,q,hf,hq,hl,lo,hi=>by
  unfold kas_place
  rw[run_ite]
  by_cases c:l ≥ q
  ·rw[if_pos c]
   exact⟨l,rfl,by lia,lo,fun i h1 h2=>hi i (by lia) h2⟩
  ·rw[if_neg c]
   show ∃ m,runK r (if decide (r (p.getD k 0) < r (p.getD ((l+q) / 2) 0))=true then _ else _)=m∧_
   have hmid:(l+q) / 2 < q:=by lia
   by_cases d:r (p.getD k 0) < r (p.getD ((l+q) / 2) 0)
   ·rw[if_pos (by simpa using d)]
    refine place_is u hk h f l ((l+q) / 2) (by lia) (by lia) (by lia) lo fun i h1 h2=>?_
    by_cases e:i=(l+q) / 2
    ·subst e;exact d
    ·exact Int.lt_trans d (h _ i (by lia) h2)
   ·rw[if_neg (by simpa using d)]
    have ne:=u ((l+q) / 2) k (by lia) hk (by lia)
    have lt:kg r p ((l+q) / 2) < kg r p k:=by
     have d': ¬ kg r p k < kg r p ((l+q) / 2):=d
     lia
    refine place_is u hk h f ((l+q) / 2+1) q (by lia) hq (by lia) (fun i h1=>?_) hi
    by_cases e:i=(l+q) / 2
    ·subst e;exact lt
    ·exact Int.lt_trans (h i _ (by lia) (by lia)) lt
theorem bub_kg (hk:k < p.size) (hl:l≤k):kg r (bubble p k (k - l)) i=if i=l then kg r p k else if l < i∧i≤k then kg r p (i - 1) else kg r p i:=by
 have e:=getElem?_bubble (xs:=p) hk (k - l) (by lia) i
 unfold kg
 rw[Array.getD_eq_getD_getElem?,e,show k - (k - l)=l by lia]
 by_cases c1:i=l
 ·rw[if_pos c1,if_pos c1,Array.getD_eq_getD_getElem?]
 ·rw[if_neg c1,if_neg c1]
  by_cases c2:l < i∧i≤k
  ·rw[if_pos c2,if_pos c2,Array.getD_eq_getD_getElem?]
  ·rw[if_neg c2,if_neg c2,Array.getD_eq_getD_getElem?]
theorem bin_is: ∀ (f:Nat) (p:Array Nat) (k:Nat),k+f=p.size→Unl r p→Ups r p k→∃ p',runK r (kas_bin f p k)=p'∧p'.size=p.size∧p'.Perm p∧Ups r p' p.size
 |0,p,k,hz,u,h=>⟨p,rfl,rfl,.refl _,by rw[←hz];exact h⟩
 |f+1,p,k,hz,u,h=>by
  unfold kas_bin
  rw[run_bind]
  obtain⟨l,e,a1,a2,a3⟩:=place_is u (show k < p.size by lia) h k 0 k (by lia) (Nat.le_refl _) (Nat.zero_le _) (fun i hi=>by lia) (fun i h1 h2=>by lia)
  rw[e]
  have hb:(bubble p k (k - l)).size=p.size:=bubble_size _ _ _
  have at_:=fun i=>bub_kg (r:=r) (p:=p) (k:=k) (l:=l) (i:=i) (by lia) a1
  have u':Unl r (bubble p k (k - l)):=fun i j hi hj ne=>by
   rw[hb] at hi hj
   rw[at_ i,at_ j]
   repeat' split
   all_goals first|(exfalso;lia)|exact u _ _ (by lia) (by lia) (by lia)
  have h':Ups r (bubble p k (k - l)) (k+1):=fun i j hij hj=>by
   rw[at_ i,at_ j]
   repeat' split
   all_goals first|(exfalso;lia)|exact a2 _ (by lia)|exact a3 _ (by lia) (by lia)|exact h _ _ (by lia) (by lia)
  obtain⟨p',e',b1,b2,b3⟩:=bin_is f (bubble p k (k - l)) (k+1) (by rw[hb];lia) u' h'
  exact⟨p',e',b1.trans hb,b2.trans (bubble_perm _ _ _),by rw[hb] at b3;exact b3⟩
theorem sort_is (hn:1≤n) (u: ∀ i j,i < n→j < n→i≠j→r i≠r j): ∃ p,runK r (kas_sort n)=p∧p.size=n∧p.Perm (List.toArray (List.range n))∧Ups r p n:=by
 have hz:(List.toArray (List.range n)).size=n:=by simp
 have u0:Unl r (List.toArray (List.range n)):=fun i j hi hj ne=>by
  rw[hz] at hi hj
  unfold kg
  have e: ∀ k,k < n→(List.toArray (List.range n)).getD k 0=k:=fun k hk=>by
   rw[Array.getD_eq_getD_getElem?]
   simp[hk]
  rw[e i hi,e j hj]
  exact u i j hi hj ne
 unfold kas_sort
 rw[run_bind]
 obtain⟨m,p',e,a1,a2,a3,a4,a5,a6⟩:=count_is u0 (by rw[hz];exact hn)
 rw[hz] at e a2 a3
 rw[e]
 dsimp only
 rw[run_ite]
 by_cases c:m < n
 ·rw[if_pos c,Nat.max_eq_left a1]
  obtain⟨p2,e2,b1,b2,b3⟩:=bin_is (n - m) p' m (by lia) a5 a6
  rw[a3] at b1 b3
  exact⟨p2,e2,b1,b2.trans a4,b3⟩
 ·rw[if_neg c]
  have:m=n:=by lia
  subst this
  exact⟨p',rfl,a3,a4,a6⟩
end
end
def BIn (h:Heap) (mg:Str→Option Value):Prop:= ∃ bm ob,mg "__builtins__"=some (.ref bm)∧bm≠builtinsNs∧h.get? bm=some ob∧ob.cls= .type "module"∧ob.dict=some builtinsNs∧ob.data= .plain
abbrev emptyTab:Obj:={cls:=.none,data:=.fields #[]}
theorem head_tabs {K:PySem.W.Frag} {a:Addr} {tbs:List Addr} {x:Str} {s:Shared} {vs:List Value}
  (KX:K.In s.heap) (hns:s.heap.Ns mainGlobals mg) (hbn:s.heap.Ns builtinsNs mb) (hbb: ∀ x:Str,x≠"__name__"→mb x=bootBuiltins x) (hlim:s.heap.NoLimit) (hbm:BIn s.heap mg) (hg:s.gens= #[])
  (ha:s.heap.get? a=some {cls:=.type "list",data:=.seq vs.toArray}) (hi:IntsAre vs ns) (hl:ns.length≤sizeLine) (hr:Room k callerA)
  (ht: ∀ tb∈tbs,isCodeTable s.heap tb∧s.heap.get? tb=some emptyTab∧K.lookup tb=none)
  (F: ∀ base:Heap,K.In base→base.Ns mainGlobals mg→BIn base mg→FnOk P w K mg base CX k fa fd [x] sp) (hbind: ∀ (s:Shared) (u:Value),BindsTo s fd ⟨[u],[]⟩ [(x,u)])
  (hsp: ∀ H:Hp,(∀ tb∈tbs,H tb=some (.tbl #[]))→SqL K H a (ns.map V.int)→sp [.ref a] H (fun v _=>v= .bl true) fun _ _ _=>False)
  (hCX: ∀ H e s',CX [] H s (fun _ _ _=>False) e s'→False):
  codeAny (model P w) callerA (.call (.ref fa) ⟨[.ref a],[]⟩) (fun r s'=>r= .ok (.ret (.bool true))∧OldK s.heap s'.heap∧s'.os=s.os∧AllBare s'.gens) s:=by
 have hta:a∉tbs:=fun z=>by
  have gt:=(ht a z).2.1
  rw[ha] at gt
  cases gt
 let so:HO:=.frz {cls:=.type "list",data:=.seq vs.toArray} (.lst (ns.map V.int))
 let H:Hp:=fun b=>if b∈tbs then some (.tbl #[]) else if b=a∧K.lookup a=none then some so else none
 have Ht: ∀ tb∈tbs,H tb=some (.tbl #[]):=fun tb z=>if_pos z
 have cases_: ∀ b u,H b=some u→(b∈tbs∧u= .tbl #[])∨(b=a∧K.lookup a=none∧u=so):=fun b u e=>by
  by_cases c1:b∈tbs
  ·rw[Ht b c1] at e
   cases e
   exact .inl ⟨c1,rfl⟩
  ·by_cases c2:b=a∧K.lookup a=none
   ·rw[show H b=some so from(if_neg c1).trans (if_pos c2)] at e
    cases e
    exact .inr ⟨c2.1,c2.2,rfl⟩
   ·rw[show H b=none from(if_neg c1).trans (if_neg c2)] at e
    cases e
 have hok:HOk P w H s.heap:=fun b u e=>by
  rcases cases_ b u e with⟨z,rfl⟩|⟨rfl,_,rfl⟩
  ·exact(ht b z).2.1
  ·exact⟨ha,by rw[List.length_map];exact hl,vs,_,vals_ints hi,ha⟩
 have free': ∀ {b:Addr} {o:Obj},s.heap.get? b=some o→o≠emptyTab→o≠{cls:=.type "list",data:=.seq vs.toArray}→H b=none:=fun {b o} e n1 n2=>by
  cases q:H b with
  |none=>rfl
  |some u=>
   rcases cases_ b u q with⟨z,_⟩|⟨rfl,_,_⟩
   ·rw[(ht b z).2.1] at e;cases e;exact(n1 rfl).elim
   ·rw[ha] at e;cases e;exact(n2 rfl).elim
 have free: ∀ {b:Addr} {o:Obj} {es:Array DictEntry} {ep:Nat},s.heap.get? b=some o→o.data= .dict es ep→H b=none:=fun {b o es ep} e d=>free' e (fun z=>by rw[z] at d;cases d) (fun z=>by rw[z] at d;cases d)
 have nsK: ∀ {b:Addr} {m:Str→Option Value},s.heap.Ns b m→(hidT s.heap H).Ns b m:=fun {b m} ⟨o,es,ep,e,d,r⟩=>⟨o,es,ep,hidT_get e (free e d),d,r⟩
 have hKb:K.In (hidT s.heap H):=fun b o e=>hidT_get (KX b o e) (by
  cases q:H b with
  |none=>rfl
  |some u=>
   rcases cases_ b u q with⟨z,_⟩|⟨rfl,hk,_⟩
   ·rw[(ht b z).2.2] at e;cases e
   ·rw[hk] at e;cases e)
 have hBI:BIn (hidT s.heap H) mg:=by
  obtain⟨bm,ob,b1,b2,b3,b4,b5,b6⟩:=hbm
  exact⟨bm,ob,b1,b2,hidT_get b3 (free' b3 (fun z=>by rw[z] at b6;cases b6) (fun z=>by rw[z] at b6;cases b6)),b4,b5,b6⟩
 have md:Mod K mg (hidT s.heap H):=⟨hKb,nsK hns,⟨mb,nsK hbn,hbb⟩,let ⟨mc,h1,h2⟩:=hlim;⟨mc,nsK h1,h2⟩⟩
 have e0:Env0 P w K mg (hidT s.heap H) callerA [] s H:=⟨rfl,md,fun b o e=>of_hidT e,Nat.le_of_eq (hidT_size _ _),trivial,fun b hb=>(nomatch (show b∈([]:List Addr) from hb)),hok,.of_eq hg⟩
 have sq:SqL K H a (ns.map V.int):=by
  cases hk:K.lookup a with
  |some o=>
   have e:=KX a o hk
   rw[ha] at e
   cases e
   exact .inr ⟨_,vs.toArray,_,hk,rfl,rfl,rfl,by rw[List.size_toArray,hi.length];exact hl,by simpa using vals_ints hi⟩
  |none=>exact .inl (.inr ⟨_,(if_neg hta).trans (if_pos ⟨rfl,hk⟩)⟩)
 refine codeAny_mono ((F _ hKb (nsK hns) hBI).run callerA [] s H ⟨[.ref a],[]⟩ [.ref a] [.ref a] _ _ hr e0 (hbind s (.ref a)) (.cons rfl .nil) (hsp H Ht sq)) fun r s' h=>?_
 match r,h with
 | .error e,h=>exact(hCX H e s' h).elim
 | .ok (.ret u),h=>
  obtain⟨v,H',os,bare,un,hok',r',q⟩:=h
  obtain rfl:v= .bl true:=q
  obtain rfl:u=Value.bool true:=r'
  have kept: ∀ b o,b∉tbs→s.heap.get? b=some o→s'.heap.get? b=some o:=fun b o nb e=>by
   cases qb:H b with
   |none=>exact un.keep b o e qb (fun z=>nomatch (show b∈([]:List Addr) from z)) (fun z=>nomatch z)
   |some u=>
    rcases cases_ b u qb with⟨z,_⟩|⟨rfl,_,rfl⟩
    ·exact absurd z nb
    ·obtain⟨e1,_⟩:=hok b _ qb
     obtain⟨e2,_⟩:=hok' b _ (un.frzs b _ _ qb)
     rw[e] at e1
     cases e1
     exact e2
  have grown: ∀ b∈tbs,∃ more,s'.heap.get? b=some {cls:=.none,data:=.fields (#[]++more)}:=fun b z=>by
   obtain⟨more,et⟩:=un.tbls b #[] (Ht b z)
   exact⟨more,hok' b _ et⟩
  refine⟨rfl,⟨fun b o e=>?_,fun b o e=>?_⟩,os,bare⟩
  ·by_cases nb:b∈tbs
   ·obtain⟨more,gt'⟩:=grown b nb
    rw[(ht b nb).2.1] at e
    cases e
    exact .inr (.inl ⟨(ht b nb).1,rfl,#[],more,rfl,gt'⟩)
   ·exact .inl (kept b o nb e)
  ·by_cases nb:b∈tbs
   ·obtain⟨more,gt'⟩:=grown b nb
    exact⟨_,gt'⟩
   ·exact⟨o,kept b o nb e⟩
theorem walk_tabs {l:PySem.W.OpenLaw} {YP:World→Heap→Prop} {d:DefRec} {K:Params→PySem.W.Frag} {CX:World→CXT} {sp:World→List Addr→Sp} {x:Str}
  (hn:l.most=some n) (hn2:n≤sizeLine) (hdf:d.params.defaults=[]) (hr:Room k callerA)
  (hY: ∀ (w:World) (h:Heap),YP w h→(K w.params).In h)
  (F: ∀ (w:World) (mg:Str→Option Value) (fa:Addr) (h:Heap),(K w.params).In h→h.Ns mainGlobals mg→mg d.name=some (.ref fa)→
   ∃ (fd:FuncData) (ts:List (Str×Addr×Addr)),(∀ e∈ts,PySem.W.tabIn (K w.params) e.1=some e.2∧(K w.params).lookup e.2.2=none∧((recsOf q).find? fun r=>r.name==e.1).isSome=true)∧
    (∀ (s:Shared) (u:Value),BindsTo s fd ⟨[u],[]⟩ [(x,u)])∧
    ∀ base:Heap,(K w.params).In base→base.Ns mainGlobals mg→BIn base mg→FnOk l.prog w (K w.params) mg base (CX w) k fa fd [x] (sp w (ts.map (·.2.2))))
  (hsp: ∀ (w:World) (H:Hp) (a:Addr) (ns:List Int) (tbs:List Addr),ns.length≤n→(∀ tb∈tbs,H tb=some (.tbl #[]))→SqL (K w.params) H a (ns.map V.int)→sp w tbs [.ref a] H (fun v _=>v= .bl true) fun _ _ _=>False)
  (hCX: ∀ (w:World) (H:Hp) (s:Shared) (e:Value) (s':Shared),CX w [] H s (fun _ _ _=>False) e s'→False):
  PySem.W.WalkO q loose XP YP l.row.toRowW d [] (fun f vs=>PySem.call f vs):=by
 refine Att.attach_call hn hdf fun w s₀ s₁ mg mb fa o pm cd doc a vs ns G Y ho hd hcd hmg hobj hints hlen hg=>?_
 have KX:=hY w _ Y
 obtain⟨fd,ts,hts,hb,hF⟩:=F w mg fa _ KX G.T.g hmg
 refine head_tabs (tbs:=ts.map (·.2.2)) KX G.T.g G.T.b G.T.builtins G.T.nolimit ?_ hg hobj hints (Nat.le_trans hlen hn2) hr (fun tb z=>?_) hF hb (fun H hO hS=>hsp w H a ns _ hlen hO hS) fun H e s'=>hCX w H s₁ e s'
 ·obtain⟨bm,ob,b1,b2,b3,b4,b5,b6⟩:=G.T.bmain
  exact⟨bm,ob,b1,b2,b3,b4,b5,b6⟩
 ·obtain⟨e,he,rfl⟩:=List.mem_map.mp z
  obtain⟨h1,h2,h3⟩:=hts e he
  obtain⟨d',h3⟩:=Option.isSome_iff_exists.mp h3
  obtain⟨g1,g2⟩:=PySem.W.tab_of G.T KX h3 h1
  exact⟨(g1.tab g2).isCodeTable,g2,h2⟩
section
open PySem.W (KasT kas_rev kas_asc kas_desc kas_tail3 kas_descPart kas_count kas_place kas_bin kas_sort)
def InR (N:Nat) {α:Type} (V:α→Prop):KasT α→Prop
 | .ret a=>V a
 | .ask i j k=>i < N∧j < N∧∀ b,InR N V (k b)
theorem InR.bind {N:Nat} {α β:Type} {V:α→Prop} {W:β→Prop} {f:α→KasT β}: ∀ {t:KasT α},InR N V t→(∀ a,V a→InR N W (f a))→InR N W (t.bind f)
 | .ret a,h,k=>k a h
 | .ask i j g,h,k=>⟨h.1,h.2.1,fun b=>InR.bind (h.2.2 b) k⟩
theorem InR.ite {N:Nat} {α:Type} {V:α→Prop} {c:Prop} [Decidable c] {a b:KasT α} (h1:InR N V a) (h2:InR N V b):InR N V (if c then a else b):=by
 by_cases h:c
 ·rw[if_pos h];exact h1
 ·rw[if_neg h];exact h2
def Bd (N:Nat) (p:Array Nat):Prop:=0 < N∧∀ x∈p.toList,x < N
theorem Bd.at (h:Bd N p) (k:Nat):p.getD k 0 < N:=by
 rw[Array.getD_eq_getD_getElem?]
 cases e:p[k]? with
 |none=>exact h.1
 |some x=>exact h.2 x (Array.mem_toList_iff.mpr (Array.mem_of_getElem? e))
theorem Bd.perm (h:Bd N p) (pm:q.Perm p):Bd N q:=⟨h.1,fun x hx=>h.2 x ((Array.perm_iff_toList_perm.mp pm).mem_iff.mp hx)⟩
theorem Bd.rev (h:Bd N p) (i j:Nat):Bd N (kas_rev p i j):=h.perm (mirror_perm _ _ _ _)
section
variable {N:Nat}
theorem asc_in (h:Bd N p): ∀ f n,InR N (fun _=>True) (kas_asc p f n)
 |0,_=>trivial
 |f+1,n=>⟨h.at _,h.at _,fun b=>InR.ite trivial (asc_in h f (n+1))⟩
theorem desc_in: ∀ (f:Nat) {p:Array Nat} (n q:Nat),Bd N p→InR N (fun r=>Bd N r.1) (kas_desc f p n q)
 |0,_,_,_,h=>h
 |f+1,p,n,q,h=>⟨h.at _,h.at _,fun b=>InR.ite (InR.ite (desc_in f _ _ (h.rev _ _)) (desc_in f _ _ h)) ⟨h.at _,h.at _,fun d=>InR.ite h (desc_in f _ _ h)⟩⟩
theorem tail3_in (h:Bd N p) (n m:Nat):InR N (fun r=>Bd N r.2) (kas_tail3 n m p):=InR.bind (asc_in (h.rev _ _) _ _) fun a _=>h.rev _ _
theorem descPart_in (h:Bd N p) (n m:Nat):InR N (fun r=>Bd N r.2) (kas_descPart n m p):=InR.bind (desc_in _ _ _ h) fun r hr=>InR.ite (tail3_in (hr.rev _ _) _ _) (tail3_in hr _ _)
theorem count_in (h:Bd N p) (m:Nat):InR N (fun r=>Bd N r.2) (kas_count m p):=
 InR.bind (asc_in h _ _) fun n _=>InR.ite h (InR.ite ⟨h.at _,h.at _,fun c=>InR.ite h (descPart_in (h.rev _ _) _ _)⟩ (descPart_in h _ _))
theorem place_in {p:Array Nat} (h:Bd N p) (k:Nat): ∀ f l r,InR N (fun _=>True) (kas_place p k f l r)
 |0,_,_=>trivial
 |f+1,l,r=>by
  unfold kas_place
  exact InR.ite trivial ⟨h.at _,h.at _,fun c=>InR.ite (place_in h k f _ _) (place_in h k f _ _)⟩
theorem bin_in: ∀ (f:Nat) {p:Array Nat} (k:Nat),Bd N p→InR N (Bd N) (kas_bin f p k)
 |0,_,_,h=>h
 |f+1,p,k,h=>InR.bind (place_in h _ _ _ _) fun l _=>bin_in f (k+1) (h.perm (bubble_perm _ _ _))
theorem sort_in (hN:0 < N):InR N (Bd N) (kas_sort N):=by
 have h:Bd N (List.toArray (List.range N)):=⟨hN,fun x hx=>by simpa using hx⟩
 exact InR.bind (count_in h _) fun r hr=>InR.ite (bin_in _ _ hr) hr
theorem wp_run {α:Type} {V:α→Prop} {r:Nat→Int} {cmp:Nat→Nat→(Bool→Shared→Prop)→Shared→Prop} {Q:α→Shared→Prop} {s:Shared} (hc: ∀ i j C,i < N→j < N→C (decide (r i < r j)) s→cmp i j C s): ∀ (t:KasT α),InR N V t→Q (runK r t) s→t.kasWp cmp Q s
 | .ret a,_,h=>h
 | .ask i j k,hi,h=>hc i j _ hi.1 hi.2.1 (wp_run hc (k (decide (r i < r j))) (hi.2.2 _) h)
end
theorem key_lt (hx:s.heap.get? x=some ox) (dx:ox.data= .seq #[.int a ta,.int b tb] nx) (hy:s.heap.get? y=some oy) (dy:oy.data= .seq #[.int c tc,.int d td] ny)
  (hb:0≤b∧b < 1000000) (hd:0≤d∧d < 1000000) (h:Q (decide (a * 1000000+b < c * 1000000+d)) s):wpAny (model prog w) A (keyLt' (tuples' true) (.ref x) (.ref y)) Q E s:=by
 refine PySem.W.kat_lt hx dx hy dy ?_
 show PySem.W.KatLex prog w A true false Q [(.int a ta,.int c tc),(.int b tb,.int d td)] 0 s
 refine PySem.W.kat_cons (wpAny_eqBool_int ?_)
 by_cases e1:a=c
 ·subst e1
  have z:(a==a)=true:=by simp
  rw[z]
  refine PySem.W.kat_yes (PySem.W.kat_cons (wpAny_eqBool_int ?_))
  by_cases e2:b=d
  ·subst e2
   have z:(b==b)=true:=by simp
   rw[z]
   refine PySem.W.kat_yes (PySem.W.kat_nil ?_)
   have q:decide (a * 1000000+b < a * 1000000+b)=false:=by simp
   rw[q] at h
   exact h
  ·have z:(b==d)=false:=by simpa using e2
   rw[z]
   refine PySem.W.kat_no ?_
   show wpAny (model prog w) A (oneLt' false (.int b tb) (.int d td)) Q _ s
   refine PySem.W.kat_one _ _ ?_
   have q:decide (a * 1000000+b < a * 1000000+d)=decide (b < d):=decide_eq_decide.mpr ⟨fun z=>by lia,fun z=>by lia⟩
   rw[q] at h
   exact lt_int h
 ·have z:(a==c)=false:=by simpa using e1
  rw[z]
  refine PySem.W.kat_no ?_
  show wpAny (model prog w) A (oneLt' true (.int a ta) (.int c tc)) Q _ s
  refine oneLt_int ?_
  have q:decide (a * 1000000+b < c * 1000000+d)=decide (a < c):=decide_eq_decide.mpr ⟨fun z=>by lia,fun z=>by lia⟩
  rw[q] at h
  exact h
end
section
open PySem.W (kla_fn kla_obj CodeHd tabObj)
theorem lam_run {CX:CXT} {P:Program} {w:World} {K:PySem.W.Frag} {mg:Str→Option Value} {base:Heap} {f c:Addr} {name qual:Str} {params:Arguments} {body:Expr} {scope:Scope} {pm ctv:Value} {oc:Obj} {fs:Array Value} {tq:Tok} {N ps:List Str} {k:Nat}
  {A:Around} {outer:List Env} {s:Shared} {H:Hp} {args:Args} {us:List Value} {vs:List V} {Q:VK} {E:XK} {tE:TE}
  (S:FnScope N ps scope) (hr:Room (k+1) A) (e0:Env0 P w K mg base A outer s H) (hf:s.heap.get? f=some (kla_obj name qual params body scope [] pm c ctv))
  (hc:s.heap.get? c=some oc) (hoc:oc.data= .fields fs) (hfs:fs[1]?=some (.str qual tq))
  (hb:BindsTo s (kla_fn name qual params body scope [] pm (.ref c) ctv) args (ps.zip us)) (hl:vs.length=ps.length) (r:Vals vs us)
  (hbody:PE (cxOf CX P w K mg base N qual scope f (.ref c) A outer s H E) body tE) (hq:tE (start N vs) H Q):
  codeAny (model P w) A (.call (.ref f) args) (CR CX outer P w H s Q E) s:=by
 have lim:s.heap.NoLimit:=e0.mod.nolimit.keeps fun b o e=>(e0.bs b o e).1
 have hkind: ∀ y∈ps.zip us,scope.names.lookup y.1=some .local∨(scope.names.lookup y.1=some .cell∧((cellsFrom (s.heap.objs.size+1) scope.names []).lookup y.1).isSome=true):=fun hq0 hy=>by
  obtain⟨n,v⟩:=hq0
  rcases S.par n (List.of_mem_zip hy).1 with q|q
  ·exact .inl q
  ·exact .inr ⟨q,PySem.W.cellsFrom_some _ _ _ (.inl q)⟩
 refine PySem.W.kla_callFunE hr.depth hf rfl S.co S.gen rfl ⟨c,oc,fs,tq,rfl,hc,hoc,hfs⟩ (hb _ _ _ _ ?_)
 refine wpAny_newFunctionEnv_cells S.kind hkind fun env he s1 x=>?_
 subst he
 refine⟨lim.keeps x.toInCall.keep,PySem.W.kla_codeExpr ?_⟩
 have I:Inv (cxOf CX P w K mg base N qual scope f (.ref c) A outer s H E) [] (start N vs) H s1:=inv_start S hr.hd e0 hl r x
 refine wpAny_mono (hbody [] s1 (start N vs) H _ I hq) (fun u s' hs=>?_) fun e s' hs=>hs
 obtain⟨v,H',J,rv,q⟩:=hs
 exact⟨v,H',J.os,J.bare,J.base,J.hok,rv,q⟩
theorem lam_call (S:FnScope N ps scope) (hr:Room (k+1) A) (hA:A.frames=X.A.frames) (I:Inv X pZ σ H s) (hf:s.heap.get? f=some (kla_obj name qual params body scope [] pm c ctv))
  (hc:s.heap.get? c=some oc) (hoc:oc.data= .fields fs) (hfs:fs[1]?=some (.str qual tq))
  (hb:BindsTo s (kla_fn name qual params body scope [] pm (.ref c) ctv) ⟨us,[]⟩ (ps.zip us)) (hl:vs.length=ps.length) (r:Vals vs us)
  (hbody:PE (cxOf CX0 X.prog X.w X.K X.mg X.base N qual scope f (.ref c) A X.stack s H E0).nox body tE) (hq:tE (start N vs) H Q):
  wpAny (model X.prog X.w) A (call (.ref f) us) (EP X pZ σ Q) (fun _ _=>False) s:=by
 have e0:Env0 X.prog X.w X.K X.mg X.base A X.stack s H:=⟨hA.trans I.env0.frames,I.env0.mod,I.env0.bs,I.env0.bsz,I.env0.funs,I.env0.frf,I.env0.hok,I.env0.bare⟩
 refine wpAny_call (codeAny_mono (lam_run S hr e0 hf hc hoc hfs hb hl r hbody.nox hq) fun r s' h=>?_)
 cases r with
 |error e=>exact h
 |ok fl=>
  cases fl with
  |ret u=>exact I.after h
  |next=>exact False.elim h
  |brk=>exact False.elim h
  |cont=>exact False.elim h
end
section
open PySem.W (kas_sort kas_ask KatTups)
theorem Inv.grab (I:Inv X pZ σ H s) (fp:FpOk X pZ H D) (k: ∀ b u,b≠D→s.heap.get? b=some u→h'.get? b=some u) (new:ObjOk X.prog X.w (upd H D o) h' D o):
  Inv X pZ σ (upd H D o) {s with heap:=h',toks:=t'}:=by
 obtain⟨hn,hL,hF,h1,h2,h3⟩:=fp
 have nD: ∀ b u,H b=some u→b≠D:=fun b u e z=>by rw[z,hn] at e;cases e
 refine I.step (g':=s.gens) (d':=s.drawn) (ch:=[D]) (fun b hb=>?_) (fun b u _ _ hc e _=>k b u (fun z=>hc (by simp[z])) e) (fun b u _ _ hc e _=>⟨u.slots,k b u (fun z=>hc (by simp[z])) e⟩) (fun b u hc _ n=>by rw[upd_ne (fun z=>hc (by simp[z]))];exact n)
  (fun b u hc e=>⟨u,k b u (fun z=>hc (by simp[z])) e⟩) (fun b xs e=>by rw[upd_ne (nD b _ e)];exact e) (fun b ob u e=>by rw[upd_ne (nD b _ e)];exact e) (fun b ps e=>⟨#[],by rw[upd_ne (nD b _ e),e];simp⟩) (fun m hm=>?_) (fun b u e=>?_) I.bare
 ·have e:b=D:=by simpa using hb
  subst e
  exact⟨h1,hL,h2,h3⟩
 ·obtain⟨ob,es,ep,ho,r⟩:=hm
  exact⟨ob,es,ep,k _ ob (Ne.symm hL) ho,r⟩
 ·by_cases z:b=D
  ·subst z
   rw[upd_same] at e
   cases e
   exact new
  ·rw[upd_ne z] at e
   refine(I.hok b u e).stay (fun c v hc q=>k c v ?_ q) (fun c q=>?_) fun c xs q=>?_
   ·rcases hc with y|y
    ·rw[y];exact z
    ·exact nD c _ y
   ·rw[upd_ne (nD c _ q)];exact q
   ·rw[upd_ne (nD c _ q)];exact q
def rk (kf:Nat→Int×Int) (i:Nat):Int:=(kf i).1 * 1000000+(kf i).2
theorem vals_refs: ∀ {Ts:List Addr} {us:List Value},Vals (Ts.map V.ref) us→us=Ts.map Value.ref
 |[],us,h=>by cases h;rfl
 |T::Ts,us,h=>by
  cases h with
  |cons r t=>cases r;rw[vals_refs t];rfl
theorem pair_at (hk:HOk P w H h) (e:H T=some (.tup [.int a,.int b])): ∃ o n ta tb,h.get? T=some o∧o.cls= .type "tuple"∧o.data= .seq #[.int a ta,.int b tb] n:=by
 obtain⟨_,its,rv,o,ho,hc,n,hd⟩:=hk T _ e
 cases rv with
 |cons r1 t=>
  cases t with
  |cons r2 t=>
   cases t
   obtain⟨ta,rfl⟩:=r1
   obtain⟨tb,rfl⟩:=r2
   exact⟨o,n,ta,tb,ho,hc,hd⟩
theorem tups_of: ∀ (Ts:List Addr),(∀ T∈Ts,∃ o n a b ta tb,h.get? T=some o∧o.cls= .type "tuple"∧o.data= .seq #[.int a ta,.int b tb] n)→∃ fs,KatTups h (Ts.map Value.ref) fs∧fs.length=Ts.length∧∀ v∈fs,∃ i t,v=Value.int i t
 |[],_=>⟨[],PySem.W.KatTups.nil,rfl,fun v hv=>nomatch hv⟩
 |T::Ts,k=>by
  obtain⟨o,n,a,b,ta,tb,h1,h2,h3⟩:=k T List.mem_cons_self
  obtain⟨fs,g1,g2,g3⟩:=tups_of Ts fun T' h'=>k T' (List.mem_cons_of_mem _ h')
  refine⟨.int a ta::fs,PySem.W.KatTups.cons h1 h2 h3 rfl g1,by simp[g2],fun v hv=>?_⟩
  rcases List.mem_cons.mp hv with rfl|hv
  ·exact⟨a,ta,rfl⟩
  ·exact g3 v hv
section
variable {X:Cx} {A:Around} {E:Value→Shared→Prop} {pZ:List (Addr×Obj)} {σ:St} {H:Hp} {s:Shared} {f D:Addr} {its:List Value} {xs:List V} {kf:Nat→Int×Int} {P:PySem.Fin→Shared→Prop}
theorem sort_tail {kS:Addr} {Ts:List Addr} {e1:Nat} {st:SortSt} {p:Array Nat} {H1:Hp} (I:Inv X ((D,seqObj "list" #[] e1)::pZ) σ H1 s) (fp:FpOk X pZ H1 D) (hk:H1 kS=some (.lst (Ts.map V.ref))) (rv:Vals xs its) (h64:xs.length < 64) (hTs:Ts.length=xs.length)
  (hz:p.size=xs.length) (har:(arrOf st).map (·.2)=List.toArray (p.toList.map fun i=>its.getD i Value.none)) (hin: ∀ i∈p.toList,i < xs.length) (hf:failedOf st=none)
  (h: ∀ s',Inv X pZ σ (upd (upd H1 kS (.lst [])) D (.lst (p.toList.map fun i=>xs.getD i .non))) s'→P (.done (.ret .none)) s'):
  wpAny (model X.prog X.w) A (ksk_tail D false e1 (.ref kS) st) P E s:=by
 obtain⟨_,its',n',r1,r2,ho⟩:=I.lstM hk
 have hl:=rv.length
 unfold ksk_tail
 try dsimp only
 rw[har]
 refine wpAny_bind (listUpdate_at ho rfl ?_ (by rw[List.size_toArray,sizeLine_eq];simp at r2;lia) (Nat.zero_le _))
 have I1:=I.lset (t':=s.toks) (f:=fun _=>(#[]:Array Value)) (its':=[]) (ys:=[]) hk ho rfl .nil (Nat.zero_le _)
 have hD:=(I1.pin _ (List.mem_append_right _ List.mem_cons_self)).1
 refine wpAny_bind (wpAny_letGo ?_)
 refine wpAny_bind (seqEpoch_at hD rfl ?_)
 refine wpAny_bind (listUpdate_at hD rfl ?_ (Nat.zero_le _) (by simp only[Bool.false_eq_true,if_false,List.size_toArray,List.length_map,Array.length_toList];rw[hz,sizeLine_eq];lia))
 rw[hf]
 simp only[bne_self_eq_false,Bool.false_eq_true,if_false]
 have neD:kS≠D:=fun z=>by rw[z,fp.1] at hk;cases hk
 have fp1:FpOk X pZ (upd H1 kS (.lst [])) D:=⟨by rw[upd_ne (Ne.symm neD)];exact fp.1,fp.2⟩
 have I2:Inv X pZ σ (upd H1 kS (.lst [])) {s with heap:=s.heap.update kS (Obj.mapSeq fun _=>(#[]:Array Value))}:=I1.pins_of fun q hq=>I1.pin q (List.mem_append_right _ (List.mem_cons_of_mem _ hq))
 refine wpAny_pure (h _ (I2.grab (t':=s.toks) fp1 (fun b u hb e=>(Heap.get?_update_other _ _ (Ne.symm hb)).trans e) ?_))
 have g:=get?_update_seq hD fun _=>List.toArray (p.toList.map fun i=>its.getD i Value.none)
 refine⟨by rw[List.length_map,Array.length_toList,hz,sizeLine_eq];lia,p.toList.map fun i=>its.getD i Value.none,_,?_,g⟩
 have go: ∀ l:List Nat,(∀ i∈l,i < xs.length)→Vals (l.map fun i=>xs.getD i V.non) (l.map fun i=>its.getD i Value.none):=fun l=>by
  induction l with
  |nil=>intro _;exact .nil
  |cons i l ih=>
   intro hl'
   refine .cons ?_ (ih fun j hj=>hl' j (List.mem_cons_of_mem _ hj))
   have hi:=hl' i List.mem_cons_self
   obtain⟨u,hu,ru⟩:=rv.get (List.getElem?_eq_getElem hi)
   show RelV (xs.getD i V.non) (its.getD i Value.none)
   rw[List.getD_eq_getElem?_getD,List.getD_eq_getElem?_getD,hu,List.getElem?_eq_getElem hi]
   exact ru
 exact go _ hin
end
end
section
open PySem.W (kla_fn kla_obj CodeHd tabObj)
theorem among_snoc (l:List Value) (h:TriplesOk l) (hn:codeAmong pos (l++[rawInt a,rawInt b,c])=some cv):codeAmong pos l=some cv∨cv=c:=by
 fun_induction TriplesOk l with
 |case1=>
  simp[codeAmong,rawInt] at hn
  exact .inr hn.2.symm
 |case2 a' t b' u x rest ih=>
  simp only[List.cons_append,codeAmong] at hn ⊢
  split at hn
  ·rename_i hc
   rw[if_pos hc]
   exact .inl hn
  ·rename_i hc
   rw[if_neg hc]
   exact ih h hn
 |case3 l h1 h2=>exact h.elim
theorem lam_eval (I:Inv X pZ σ H s) (hB:BIn X.base X.mg) (hcode:X.env.code= .ref c) (hC:CodeHd X.base c P) (tab:TabAt H (P,X.env.qual++"<lambda>")) (hcl:closureFor scope X.env=pure []) (hdef:defaultsOf params X.env=([],[]))
  (h: ∀ (f c':Addr) (oc:Obj) (fs:Array Value) (tq:Tok) (pm ctv:Value) (H':Hp) (s':Shared),Inv X pZ σ H' s'→H f=none→H' f=some (.frz (kla_obj "<lambda>" (X.env.qual++"<lambda>") params body scope [] pm c' ctv) (.own f))→H' c'=some (.frz oc (.own c'))→oc.data= .fields fs→fs[1]?=some (.str (X.env.qual++"<lambda>") tq)→
   TabAt H' (P,X.env.qual++"<lambda>")→(∀ b o,b≠P→H b=some o→H' b=some o)→Q (.ref f) s'):
  wpAny (model X.prog X.w) X.A (eval (.Lambda params body scope pos) X.env) Q E s:=by
 obtain⟨ps,hP,ht,hrow⟩:=tab
 have gP:s.heap.get? P=some (tabObj ps):=I.hok P _ hP
 obtain⟨bm,ob,b1,b2,b3,b4,b5,b6⟩:=hB
 have hg:s.heap.Ns mainGlobals X.mg:=I.mod.glob.keeps I.bk
 have hgP:mainGlobals≠P:=fun q=>by
  obtain⟨o,es,ep,e,hd,_⟩:=hg
  rw[q,gP] at e;cases e;cases hd
 have hbP:bm≠P:=fun q=>by
  have e:=I.bk _ _ b3
  rw[q,gP] at e;cases e;cases b4
 have hbG:bm≠mainGlobals:=fun q=>by
  obtain⟨o,es,ep,e,hd,_⟩:=I.mod.glob
  rw[q,e] at b3;cases b3;rw[hd] at b6;cases b6
 have hBA:s.heap.BuiltinsAt X.mg P:=⟨bm,ob,b1,b2,hbG,hbP,I.bk _ _ b3,b4,b5,b6⟩
 refine PySem.W.kla_eval hdef ?_
 cases hf:codeAmong pos ps.toList with
 |none=>
  refine PySem.W.kla_makeFunction (mg:=X.mg) hcl I.ok.glob hg hcode (hC.keeps I.bk) gP ht hf hgP hBA fun c' ctv h' tk hx hge hlt hrec htb=>?_
  obtain⟨c2,oc,fs,tq,e2,hoc,hfd,hfs⟩:=hrec
  cases e2
  generalize hko:kla_obj "<lambda>" (X.env.qual++"<lambda>") params body scope [] ((X.mg "__name__").getD .none) c' ctv=ko
  have hkf:ko.isFreed=false:=by rw[←hko];rfl
  have hcn:H c'=none:=I.hok.fresh hge
  have hfn:H h'.objs.size=none:=I.hok.fresh (Nat.le_trans hge (Nat.le_of_lt hlt))
  have ncP:c'≠P:=fun z=>by rw[z,hP] at hcn;cases hcn
  have nfP:h'.objs.size≠P:=fun z=>by rw[z,hP] at hfn;cases hfn
  have nfc:h'.objs.size≠c':=Nat.ne_of_gt hlt
  let H':Hp:=upd (upd (upd H P (.tbl (ps++ #[rawInt pos.line,rawInt pos.col,.ref c']))) c' (.frz oc (.own c'))) h'.objs.size (.frz ko (.own h'.objs.size))
  have at_f:H' h'.objs.size=some (.frz ko (.own h'.objs.size)):=upd_same
  have at_c:H' c'=some (.frz oc (.own c')):=by
   show upd _ _ _ c'=_
   rw[upd_ne (Ne.symm nfc),upd_same]
  have at_P:H' P=some (.tbl (ps++ #[rawInt pos.line,rawInt pos.col,.ref c'])):=by
   show upd _ _ _ P=_
   rw[upd_ne (Ne.symm nfP),upd_ne (Ne.symm ncP),upd_same]
  have at_o: ∀ b,b≠h'.objs.size→b≠c'→b≠P→H' b=H b:=fun b n1 n2 n3=>by
   show upd _ _ _ b=_
   rw[upd_ne n1,upd_ne n2,upd_ne n3]
  have keepH: ∀ b o,b≠P→H b=some o→H' b=some o:=fun b o nb e=>by
   rw[at_o b (ne_of_none e hfn) (ne_of_none e hcn) nb]
   exact e
  have kp: ∀ b o,b≠P→s.heap.get? b=some o→(h'.push ko).get? b=some o:=fun b o nb e=>Heap.get?_push_of_some _ (hx b o nb e)
  have tbP:(h'.push ko).get? P=some (tabObj (ps++ #[rawInt pos.line,rawInt pos.col,.ref c'])):=Heap.get?_push_of_some _ htb
  have un:Un X.fs [] H H' s.heap (h'.push ko):=by
   have nP: ∀ b,H b=none→b≠P:=fun b n z=>by rw[z,hP] at n;cases n
   refine⟨fun b o e n _ _=>kp b o (nP b n) e,fun b o e n _ _=>⟨o.slots,kp b o (nP b n) e⟩,fun b o e n _=>?_,fun b o e _=>?_,fun b xs e=>keepH b _ (fun z=>by rw[z,hP] at e;cases e) e,fun b ob u e=>keepH b _ (fun z=>by rw[z,hP] at e;cases e) e,fun b qs e=>?_⟩
   ·have lt:=Heap.lt_size e
    rw[at_o b (Nat.ne_of_lt (Nat.lt_of_lt_of_le lt (Nat.le_trans hge (Nat.le_of_lt hlt)))) (Nat.ne_of_lt (Nat.lt_of_lt_of_le lt hge)) (nP b n)]
    exact n
   ·by_cases z:b=P
    ·exact⟨_,z▸tbP⟩
    ·exact⟨o,kp b o z e⟩
   ·by_cases z:b=P
    ·subst z
     rw[hP] at e
     cases e
     exact⟨_,at_P⟩
    ·exact⟨#[],by rw[keepH b _ z e];simp⟩
  have hok:HOk X.prog X.w H' (h'.push ko):=fun b u e=>by
   by_cases n1:b=h'.objs.size
   ·subst n1
    rw[at_f] at e
    cases e
    exact⟨Heap.get?_push_size _ hkf,_,Heap.get?_push_size _ hkf⟩
   ·by_cases n2:b=c'
    ·subst n2
     rw[at_c] at e
     cases e
     exact⟨Heap.get?_push_of_some _ hoc,_,Heap.get?_push_of_some _ hoc⟩
    ·by_cases n3:b=P
     ·subst n3
      rw[at_P] at e
      cases e
      exact tbP
     ·rw[at_o b n1 n2 n3] at e
      refine(I.hok b u e).stay (fun d v hd q=>kp d v ?_ q) (fun d q=>keepH d _ (fun z=>by rw[z,hP] at q;cases q) q) fun d xs q=>keepH d _ (fun z=>by rw[z,hP] at q;cases q) q
      rcases hd with z|z
      ·rw[z];exact n3
      ·exact fun y=>by rw[y,hP] at z;cases z
  subst hko
  refine h h'.objs.size c' oc fs tq _ ctv H' _ (I.un (t':=tk) un hok) hfn at_f at_c hfd hfs ⟨_,at_P,?_,fun pos' cv e=>?_⟩ keepH
  ·rw[Array.toList_append]
   exact TriplesOk_snoc _ _ _ _ ht
  ·rw[Array.toList_append] at e
   rcases among_snoc _ ht e with e|rfl
   ·obtain⟨c3,o3,f3,t3,rfl,g1,g2,g3⟩:=hrow pos' cv e
    exact⟨c3,o3,f3,t3,rfl,keepH _ _ (fun z=>by rw[z,hP] at g1;cases g1) g1,g2,g3⟩
   ·exact⟨c',oc,fs,tq,rfl,at_c,hfd,hfs⟩
 |some cv=>
  obtain⟨c',oc,fs,tq,rfl,g1,hfd,hfs⟩:=hrow pos cv hf
  refine PySem.W.kla_makeFunctionHit (mg:=X.mg) hcl I.ok.glob hg hcode (hC.keeps I.bk) gP ht hf hBA fun ctv h' tk hk hsz=>?_
  have hfn:H h'.objs.size=none:=I.hok.fresh hsz
  have nf: ∀ b u,H b=some u→b≠h'.objs.size:=fun b u e=>ne_of_none e hfn
  have J:=I.laid (t':=tk) (h':=h'.push (kla_obj "<lambda>" (X.env.qual++"<lambda>") params body scope [] ((X.mg "__name__").getD .none) c' ctv)) (a:=h'.objs.size) (o:=.frz (kla_obj "<lambda>" (X.env.qual++"<lambda>") params body scope [] ((X.mg "__name__").getD .none) c' ctv) (.own h'.objs.size))
   (fun b u e=>Heap.get?_push_of_some _ (hk b u e)) hsz ⟨Heap.get?_push_size _ rfl,_,Heap.get?_push_size _ rfl⟩
  refine h h'.objs.size c' oc fs tq _ ctv _ _ J hfn upd_same (by rw[upd_ne (nf _ _ g1)];exact g1) hfd hfs ⟨ps,by rw[upd_ne (nf _ _ hP)];exact hP,ht,fun pos' cv e=>?_⟩ fun b o _ e=>by rw[upd_ne (nf _ _ e)];exact e
  obtain⟨c3,o3,f3,t3,rfl,k1,k2,k3⟩:=hrow pos' cv e
  exact⟨c3,o3,f3,t3,rfl,by rw[upd_ne (nf _ _ k1)];exact k1,k2,k3⟩
end
section
open PySem.W (kla_fn kla_obj CodeHd tabObj)
def tPair (K:PySem.W.Frag) (i j:Int):TE:=tTup (tCons (tOp (rIxT K) (tVar 0) (tC (.int i))) (tCons (tOp (rIxT K) (tVar 0) (tC (.int j))) tNil))
theorem tPair_ok {K:PySem.W.Frag} {i j a b:Int} {N:List Str} {H:Hp} {p:Addr} {ys:List V} (h:H p=some (.tup ys)) (hi:atI ys i=some (.int a)) (hj:atI ys j=some (.int b)):
  tPair K i j (start N [.ref p]) H fun v H3=> ∃ T,v= .ref T∧H T=none∧H3=upd H T (.tup [.int a,.int b]):=by
 have e0:(start N [V.ref p])[0]?=some (some (.ref p)):=start_get rfl
 exact⟨_,e0,p,ys,i,_,rfl,rfl,SqT.of h,hi,_,e0,p,ys,j,_,rfl,rfl,SqT.of h,hj,by show 2≤sizeLine;rw[sizeLine_eq];lia,fun T hT=>⟨T,rfl,hT,rfl⟩⟩
def keyPV:PV→Option (Int×Int)
 | .tup l=>match (l[2]?:Option PV),(l[1]?:Option PV) with
  |some (PV.int m),some (PV.int n)=>some (m,n)
  |_,_=>none
 |_=>none
def kPV (y:PV):Int×Int:=(keyPV y).getD (0,0)
def rPV (y:PV):Int:=(kPV y).1 * 1000000+(kPV y).2
theorem keyPV_inv (h:keyPV y=some k): ∃ l,y= .tup l∧l[2]?=some (.int k.1)∧l[1]?=some (.int k.2):=by
 cases y with
 |tup l=>
  simp only[keyPV] at h
  split at h
  ·rename_i m n e1 e2
   cases h
   exact⟨l,rfl,e1,e2⟩
  ·cases h
 |_=>cases h
def insK (y:PV):List PV→List PV
 |[]=>[y]
 |z::l=>if rPV y < rPV z then y::z::l else z::insK y l
def isoK:List PV→List PV
 |[]=>[]
 |y::l=>insK y (isoK l)
def okP (y:PV):Bool:=match keyPV y with
 |some k=>decide (0≤k.2)&&decide (k.2 < 1000000)
 |none=>false
theorem okP_inv (h:okP y=true): ∃ k,keyPV y=some k∧0≤k.2∧k.2 < 1000000:=by
 unfold okP at h
 cases e:keyPV y with
 |none=>rw[e] at h;cases h
 |some k=>
  rw[e] at h
  simp only[Bool.and_eq_true,decide_eq_true_eq] at h
  exact⟨k,rfl,h.1,h.2⟩
theorem insK_perm (y:PV): ∀ l,(insK y l).Perm (y::l)
 |[]=>.refl _
 |z::l=>by
  unfold insK
  split
  ·exact .refl _
  ·exact((insK_perm y l).cons z).trans (.swap _ _ _)
theorem isoK_perm: ∀ l,(isoK l).Perm l
 |[]=>.refl _
 |y::l=>(insK_perm y _).trans ((isoK_perm l).cons y)
abbrev LtK (a b:PV):Prop:=rPV a < rPV b
theorem insK_up (y:PV): ∀ l,l.Pairwise LtK→(∀ z∈l,rPV y≠rPV z)→(insK y l).Pairwise LtK
 |[],_,_=>List.pairwise_singleton _ _
 |z::l,h,n=>by
  have h':=List.pairwise_cons.mp h
  unfold insK
  split
  ·rename_i c
   refine List.pairwise_cons.mpr ⟨fun x hx=>?_,h⟩
   rcases List.mem_cons.mp hx with rfl|hx
   ·exact c
   ·exact Int.lt_trans c (h'.1 x hx)
  ·rename_i c
   have nz:=n z List.mem_cons_self
   refine List.pairwise_cons.mpr ⟨fun x hx=>?_,insK_up y l h'.2 fun x hx=>n x (List.mem_cons_of_mem _ hx)⟩
   rcases List.mem_cons.mp ((insK_perm y l).mem_iff.mp hx) with rfl|hx
   ·show rPV z < rPV x
    lia
   ·exact h'.1 x hx
theorem isoK_up: ∀ l,(l.map rPV).Nodup→(isoK l).Pairwise LtK
 |[],_=>.nil
 |y::l,h=>by
  rw[List.map_cons,List.nodup_cons] at h
  refine insK_up y _ (isoK_up l h.2) fun z hz e=>h.1 ?_
  rw[e]
  exact List.mem_map_of_mem ((isoK_perm l).mem_iff.mp hz)
theorem up_one: ∀ (l m:List PV),l.Pairwise LtK→m.Pairwise LtK→l.Perm m→l=m
 |[],m,_,_,p=>(List.nil_perm.mp p).symm
 |a::l,[],_,_,p=>absurd p.length_eq (by simp)
 |a::l,b::m,h1,h2,p=>by
  have h1':=List.pairwise_cons.mp h1
  have h2':=List.pairwise_cons.mp h2
  have ea:a=b:=by
   rcases List.mem_cons.mp (p.mem_iff.mp List.mem_cons_self) with e|ha
   ·exact e
   rcases List.mem_cons.mp (p.mem_iff.mpr List.mem_cons_self) with e|hb
   ·exact e.symm
   have x1:rPV a < rPV b:=h1'.1 b hb
   have x2:rPV b < rPV a:=h2'.1 a ha
   lia
  subst ea
  rw[up_one l m h1'.2 h2'.2 (List.perm_cons a |>.mp p)]
theorem isoK_is (nd:(l.map rPV).Nodup) (p:m.Perm l) (u:m.Pairwise LtK):isoK l=m:=up_one _ _ (isoK_up l nd) u ((isoK_perm l).trans p.symm)
theorem order_is (nd:(l.map rPV).Nodup) (hk: ∀ i,i < l.length→kf i=kPV (l.getD i .non)) (hz:p.size=l.length) (hp:p.Perm (List.toArray (List.range l.length))) (hu:Ups (rk kf) p l.length):isoK l=p.toList.map fun i=>l.getD i .non:=by
 have hpl:p.toList.Perm (List.range l.length):=Array.perm_iff_toList_perm.mp hp
 have hlt: ∀ i∈p.toList,i < l.length:=fun i hi=>by
  have:=hpl.mem_iff.mp hi
  simpa using this
 refine isoK_is nd ?_ ?_
 ·have e:(List.range l.length).map (fun i=>l.getD i .non)=l:=by
   apply List.ext_getElem?
   intro i
   rw[List.getElem?_map]
   by_cases hi:i < l.length
   ·rw[List.getElem?_range hi,List.getElem?_eq_getElem hi]
    simp[hi]
   ·rw[List.getElem?_eq_none (by simpa using hi),List.getElem?_eq_none (by simpa using hi)]
    rfl
  rw[←e]
  have:=hpl.map fun i=>l.getD i .non
  rw[e] at this ⊢
  exact this
 ·rw[List.pairwise_map,List.pairwise_iff_getElem]
  intro i j hi hj hij
  have hj':j < l.length:=by rw[Array.length_toList,hz] at hj;exact hj
  have x:=hu i j hij hj'
  unfold kg rk at x
  have gi:p.getD i 0=p.toList[i]:=by
   rw[Array.getD_eq_getD_getElem?,Array.getElem?_eq_getElem (by rw[hz];lia)]
   rfl
  have gj:p.getD j 0=p.toList[j]:=by
   rw[Array.getD_eq_getD_getElem?,Array.getElem?_eq_getElem (by rw[hz];lia)]
   rfl
  rw[gi,gj,hk _ (hlt _ (List.getElem_mem hi)),hk _ (hlt _ (List.getElem_mem hj))] at x
  exact x
end
section
variable {φ:Fam}
def seqPV:PV→Option (List PV)
 | .lst l=>some l
 | .tup l=>some l
 |_=>none
theorem seq_rep (r:RepB G O H y x) (e:seqPV y=some l): ∃ p xs,x= .ref p∧(H p=some (.lst xs)∨H p=some (.tup xs))∧Reps G.B O H l xs:=by
 cases y with
 |lst l'=>
  cases e
  obtain⟨p,xs,rfl,h,r⟩:=r.lst_i
  exact⟨p,xs,rfl,.inl h,r⟩
 |tup l'=>
  cases e
  obtain⟨p,xs,rfl,h,r⟩:=r.tup_i
  exact⟨p,xs,rfl,.inr h,r⟩
 |_=>cases e
theorem atI_of {α:Type} {l:List α} {k:Nat} {x:α} (h:l[k]?=some x):atI l (k:Int)=some x:=by
 have hk:k < l.length:=(List.getElem?_eq_some_iff.mp h).1
 unfold atI ixN
 rw[if_pos (by lia),if_pos (by lia)]
 show l[((k:Nat):Int).toNat]?=_
 rw[Int.toNat_natCast]
 exact h
end
def meet (l:List Str) (z:Str):List Str:=if l.any (· ==z) then l else l++[z]
def met (zs:List Str):List Str:=zs.foldl meet []
structure FunC (K:PySem.W.Frag) (x qual:Str) (st:Stmt) (f:Addr) (fd:FuncData) (c tb:Addr):Prop where
 ex: ∃ (oc:Value) (od:Option Addr) (kV doc pm:Value) (an:Option Addr) (ct:Value) (osl:Array (Option Value)),
  fd=PySem.W.fnOf x qual (defArgs st) (defBody st) (defScope st) .none kV doc pm an (.ref c) ct∧K.lookup f=some ⟨oc,od,.func fd,osl⟩∧PySem.W.codeIn K (.ref c) qual=true
 hd:PySem.W.codeHdIn K c tb=true
section
variable {φ:Fam} {P:Program} {w:World} {K:PySem.W.Frag} {mg:Str→Option Value} {base:Heap}
theorem FunC.ok {x qual:Str} {st:Stmt} {f c tb:Addr} {fd:FuncData} {N ps:List Str} {k:Nat} {sp:Sp} (F:FunC K x qual st f fd c tb) (S:FnScope N ps (defScope st)) (len: ∀ vs H Q E,sp vs H Q E→vs.length=ps.length)
  (hbody: ∀ (A:Around) (outer:List Env) (s:Shared) (H:Hp) (vs:List V) (Q:VK) (E:XK),Room k (A.deeper (envOfC qual (defScope st) s.heap.objs.size f (.ref c)))→sp vs H Q E→
   ∃ t,PSs (cxOf CX0 P w K mg base N qual (defScope st) f (.ref c) A outer s H E).nox (defBody st) t∧t {nx:=fun _ H'=>Q .non H',rt:=Q} (start N vs) H):FnOk P w K mg base CX0 (k+1) f fd ps sp:=by
 obtain⟨oc,od,kV,doc,pm,an,ct,osl,rfl,lk,hcd⟩:=F.ex
 refine fn_of lk hcd S len fun A outer s H vs Q E hr hsp=>?_
 obtain⟨t,h,q⟩:=hbody A outer s H vs Q E hr hsp
 exact⟨t,h.nox,q⟩
theorem fn_okC0 {x qual:Str} {st:Stmt} {f c tb:Addr} {fd:FuncData} {N ps:List Str} {k:Nat} {m:PEnv→M Fl} (F:FunC K x qual st f fd c tb) (S:FnScope N ps (defScope st)) (hN:ps.length≤N.length)
  (hb: ∀ (A:Around) (outer:List Env) (s:Shared) (H:Hp) (E:XK),Room k (A.deeper (envOfC qual (defScope st) s.heap.objs.size f (.ref c)))→SsV φ (cxOf CX0 P w K mg base N qual (defScope st) f (.ref c) A outer s H E).nox (defBody st) m):
  FnOk P w K mg base CX0 (k+1) f fd ps (spP φ (fnP ps.length N.length m)):=by
 refine F.ok S (fun vs H Q E h=>?_) (fun A outer s H vs Q E hr h=>⟨_,(hb A outer s H E hr).out,?_⟩)
 ·obtain⟨G,O,l,n,R,_,_,_,r,w,_⟩:=h
  unfold fnP at w
  by_cases hc:l.length=ps.length
  ·rw[←r.1,hc]
  ·rw[if_neg hc] at w;exact w.elim
 ·obtain⟨G,O,l,n,R,pr,dm,ok,r,w,q⟩:=h
  unfold fnP at w
  by_cases hc:l.length=ps.length
  ·rw[if_pos hc,M.wZ] at w
   refine⟨G,O,H,O,startP N.length l,n,⟨⟨⟨?_,fun i e he=>?_⟩,ok,pr,dm⟩,pr,fun p h=>h,Ext.refl _ _,fun p h=>.inl h,dm,fun i p h=>?_,fun i j p h=>?_⟩,M.wp_mono w fun f n' h=>?_⟩
   ·unfold start startP;simp[r.1]
   ·unfold startP at he
    by_cases hi:i < l.length
    ·rw[List.getElem?_append_left (by simpa using hi),List.getElem?_map,List.getElem?_eq_getElem hi] at he
     cases he
     obtain⟨x,hx,rr⟩:=r.at (List.getElem?_eq_getElem hi)
     exact⟨x,by rw[start_get hx];rfl,rr⟩
    ·rw[List.getElem?_append_right (by simpa using hi),List.getElem?_replicate] at he
     split at he
     ·cases he;trivial
     ·cases he
   all_goals try (
    obtain⟨t,h1,h2,_⟩:=h
    exfalso
    unfold startP at h1
    by_cases hi:i < l.length
    ·rw[List.getElem?_append_left (by simpa using hi),List.getElem?_map,List.getElem?_eq_getElem hi] at h1
     cases h1;cases h2
    ·rw[List.getElem?_append_right (by simpa using hi),List.getElem?_replicate] at h1
     split at h1
     ·cases h1;cases h2
     ·cases h1)
   cases f with
   |nx ρ=>exact fun O' σ' H' s'=>q .non .non H' n' s'.ext s'.es.ok .non h
   |rt y=>exact fun x' H' e' ok' r'=>q y x' H' n' e' ok' r' h
   |bk ρ=>exact h.elim
   |ct ρ=>exact h.elim
  ·rw[if_neg hc] at w;exact w.elim
theorem fn_okC {x qual:Str} {st:Stmt} {f c tb:Addr} {fd:FuncData} {N ps:List Str} {k:Nat} {m:PEnv→M Fl} {body:List Stmt} {sc:Scope} {Ff:List PV→M PV} (hF:Ff=fnP ps.length N.length m) (F:FunC K x qual st f fd c tb) (S:FnScope N ps (defScope st)) (hN:ps.length≤N.length) (eb:defBody st=body) (es:defScope st=sc)
  (hb: ∀ (A:Around) (outer:List Env) (s:Shared) (H:Hp) (E:XK),Room k (A.deeper (envOfC qual sc s.heap.objs.size f (.ref c)))→SsV φ (cxOf CX0 P w K mg base N qual sc f (.ref c) A outer s H E).nox body m):
  FnOk P w K mg base CX0 (k+1) f fd ps (spP φ Ff):=by
 subst hF eb es
 exact fn_okC0 F S hN hb
end
abbrev famTab (K:PySem.W.Frag) (tabs:List (Addr×Str)):Fam:=⟨K,spDraw,tabs⟩
noncomputable def spLawT (K:PySem.W.Frag) (tbs:List Addr):Sp:=fun vs H Q _=> ∃ (a:Addr) (ns:List Int),vs=[.ref a]∧SqL K H a (ns.map V.int)∧ns.length≤63∧(∀ tb∈tbs,H tb=some (.tbl #[]))∧∀ H',Q (.bl true) H'
noncomputable def tabBg (K:PySem.W.Frag) (tabs:List (Addr×Str)) (a c:Addr):Bg (famTab K tabs) where
 B:=a
 priv:=fun p=>p=a∨p=c∨p∈tabs.map (·.1)
 ok:=fun H n=>(∃ k,k+n≤1000000∧Bag H a c k)∧∀ e∈tabs,TabAt H e
 pB:=.inl rfl
 keep:=fun H H' n k h=>by
  obtain⟨⟨j,hj,b⟩,ht⟩:=h
  obtain⟨p,q,sd,cells,h1,h2,r⟩:=b.ex
  exact⟨⟨j,hj,p,q,sd,cells,k a _ (.inl (.inl rfl)) h1,k c _ (.inl (.inr (.inl rfl))) h2,r⟩,fun e he=>(ht e he).keep (fun ps z=>k _ _ (.inl (.inr (.inr (List.mem_map_of_mem he)))) z) fun b ob u z=>k _ _ (.inr trivial) z⟩
 tp:=fun e he=>.inr (.inr (List.mem_map_of_mem he))
 tab:=fun H n h=>h.2
 tset:=fun H H' n h h1 h2=>by
  obtain⟨⟨j,hj,b⟩,ht⟩:=h
  obtain⟨p,q,sd,cells,g1,g2,r⟩:=b.ex
  have no: ∀ b xs,H b=some (.lst xs)→b∉tabs.map (·.1):=fun b xs e z=>by
   obtain⟨e',he',rfl⟩:=List.mem_map.mp z
   obtain⟨ps,e2,_⟩:=ht e' he'
   rw[e] at e2;cases e2
  exact⟨⟨j,hj,p,q,sd,cells,h2 a _ (no _ _ g1) g1,h2 c _ (no _ _ g2) g2,r⟩,h1⟩
 dom:=fun H n p h z=>by
  obtain⟨⟨j,hj,b⟩,ht⟩:=h
  obtain⟨⟨xs,e1⟩,ys,e2⟩:=b.there
  rcases z with rfl|rfl|z
  ·exact⟨_,e1⟩
  ·exact⟨_,e2⟩
  ·obtain⟨e',he',rfl⟩:=List.mem_map.mp z
   obtain⟨ps,e3,_⟩:=ht e' he'
   exact⟨_,e3⟩
 dr:=fun H n m Q E ok h0 h1 q=>by
  obtain⟨⟨k,hk,b⟩,ht⟩:=ok
  obtain⟨⟨xs,e1⟩,_⟩:=b.there
  exact⟨a,c,k,m,rfl,b,by lia,h0,h1,fun d o d0 d1 b'=>q d _ d0 d1 (fun p u np hp=>.of (by rw[upd_ne np];exact hp)) ⟨⟨k+1,by lia,b'⟩,fun e he=>(ht e he).keep (fun ps z=>by rw[upd_ne (ne_of z e1 (by intro y;cases y))];exact z) fun b ob u z=>by rw[upd_ne (ne_of z e1 (by intro y;cases y))];exact z⟩⟩
end L2
namespace HT
open L2
open L2.Ent (val un)
theorem rcGt_int (A:Around) (s:Shared) (a:Int) (t:Tok) (c:Int) (u:Tok) (prog:Program) (w:World) (E:Value→Shared→Prop) (Q:Value→Shared→Prop) (h:Q (.bool (decide (c < a))) s):
  wpAny (model prog w) A (richCompare .Gt (.int a t) (.int c u)) Q E s:=(gt_int h:wpAny (model prog w) A (compareOp .Gt (.int a t) (.int c u)) Q E s)
section
open PySem.SeqAt
open PySem.AutoSeq1 (wpAny_loadPart')
open PySem.MeetsSeq PySem.MeetsSeq2 PySem.MeetsSeq3
theorem tuple_gt_ints (l b:Addr) (items items2:Array Value) (n n2:Nat) (dd dd2:Option Addr) (sl sl2:Array (Option Value)) (ns ms:List Int) (hi:IntsAre items.toList ns) (hj:IntsAre items2.toList ms):
  Meets (Builtin.«tuple.__gt__» ⟨[.ref l,.ref b],[]⟩)
   (fun _ R s=>s.heap.get? l=some {cls:=.type "tuple",dict:=dd,data:=.seq items n,slots:=sl}∧s.heap.get? b=some {cls:=.type "tuple",dict:=dd2,data:=.seq items2 n2,slots:=sl2}∧
    R (.ok (.ret (.bool (lexLt ms ns)))) s):=
 .of_wp fun prog w A R s h=>by
  obtain⟨hp,g,d,tk,os⟩:=s;obtain⟨hl,hb,h⟩:=h
  have f2:=AutoSeq1.sub_tuple_tuple
  have z1:items.size=ns.length:=by rw[←hi.length];simp
  have z2:items2.size=ms.length:=by rw[←hj.length];simp
  wp_walk using wpAny_loadPart' hl,wpAny_loadPart' hb,wpAny_forIn_list _ (fun rest b s'=>b.1=none∧s'=⟨hp,g,d,tk,os⟩∧∃ (vs ws:List Value) (ns' ms':List Int),rest=vs.zip ws∧
   IntsAre vs ns'∧IntsAre ws ms'∧ns'.length+items2.size=ms'.length+items.size∧R (.ok (.ret (.bool (lexLt ms' ns')))) ⟨hp,g,d,tk,os⟩) _
  case turn=>
   rintro⟨y,x⟩ rest b s' ⟨hb',rfl,vs,ws,ns',ms',hz,hvi,hwi,hlen,hR⟩
   cases hvi with
   |nil=>rw[List.zip_nil_left] at hz;cases hz
   |cons a t hvi'=>
    cases hwi with
    |nil=>rw[List.zip_nil_right] at hz;cases hz
    |cons c u hwi'=>
     rw[List.zip_cons_cons] at hz
     injection hz with hyx hrest
     injection hyx with hy hx
     subst hy hx
     rw[lexLt_cons] at hR
     simp only[List.length_cons] at hlen
     obtain⟨e,he,hiff⟩:=eqAt_int A.in1 ⟨hp,g,d,tk,os⟩ a t c u
     refine wpAny_bind (he prog w _ _ ?_)
     cases e with
     |true=>
      rw[if_pos (hiff.mp rfl).symm] at hR
      wp_walk
      exact⟨rfl,rfl,_,_,_,_,hrest,hvi',hwi',by lia,hR⟩
     |false=>
      rw[if_neg (fun q=>absurd (hiff.mpr q.symm) Bool.false_ne_true)] at hR
      have hri:=rcGt_int A.in1 ⟨hp,g,d,tk,os⟩ a t c u prog w
      wp_walk using hri
      exact⟨_,rfl,by simpa using hR⟩
  case fin=>
   rintro⟨b1,b2⟩ s' ⟨hb',rfl,vs,ws,ns',ms',hz,hvi,hwi,hlen,hR⟩
   simp only at hb'
   subst hb'
   have hv:lexLt ms' ns'=decide (items2.size < items.size):=by
    cases hvi with
    |nil=>
     cases hwi with
     |nil=>
      simp only[List.length_nil] at hlen
      rw[lexLt_nil_nil]
      exact(decide_eq_false (by lia)).symm
     |cons c u hw=>
      simp only[List.length_nil,List.length_cons] at hlen
      rw[lexLt_cons_nil]
      exact(decide_eq_false (by lia)).symm
    |cons a t hv=>
     cases hwi with
     |nil=>
      simp only[List.length_nil,List.length_cons] at hlen
      rw[lexLt_nil_cons]
      exact(decide_eq_true (by lia)).symm
     |cons c u hw=>
      rw[List.zip_cons_cons] at hz
      cases hz
   rw[hv] at hR
   wp_walk
   exact⟨_,rfl,by simpa[Builtin.Tuple.tupleCompareSizes] using hR⟩
  case h=>
   exact⟨rfl,rfl,items.toList,items2.toList,ns,ms,rfl,hi,hj,by lia,h⟩
end
section
variable {prog:Program} {w:World} {A:Around} {E:Value→Shared→Prop} {s:Shared}
theorem gt_tupInts (hl:IsTup s.heap l items) (hb:IsTup s.heap b items2) (hi:IntsAre items.toList ns) (hj:IntsAre items2.toList ms)
  (hu:A.units < cLine) (h:Q (.bool (lexLt ms ns)) s):wpAny (model prog w) A (compareOp .Gt (.ref l) (.ref b)) Q E s:=by
 obtain⟨⟨cls,dd,data,sl⟩,ho,hc,n,hd⟩:=id hl
 obtain⟨⟨cls2,dd2,data2,sl2⟩,ho2,hc2,n2,hd2⟩:=id hb
 simp only at hc hd hc2 hd2
 subst hc hd hc2 hd2
 exact richCompare_meets_room (op:=.Gt) ⟨_,ho,rfl⟩ ⟨_,ho2,rfl⟩ PySem.F.slot_tuple_gt PySem.F.entry_tuple_gt (PySem.F.args_tuple_gt_2 _ _) (tuple_gt_ints l b items items2 n n2 dd dd2 sl sl2 ns ms hi hj)
  ⟨ho,ho2,show Value.bool (lexLt ms ns)≠Value.notImplemented∧Q (.bool (lexLt ms ns)) s from⟨(fun x=>nomatch x),h⟩⟩ hu
end
end HT
namespace L2
open Ent (val un)
section
open PySem.W (kla_fn kla_obj CodeHd tabObj)
def bi (kf:Nat→Int×Int):Nat→Option Nat
 |0=>none
 |j+1=>match bi kf j with
  |none=>some j
  |some b=>if rk kf b < rk kf j then some j else some b
end
section
open AutoSeq1 (wpAny_loadPart')
noncomputable def IteT (K:PySem.W.Frag) (a:Addr):It:=
 ⟨fun i H=> ∃ xs x,SqT K H a xs∧xs[i]?=some x,fun i H y H'=> ∃ T,y= .ref T∧H T=none∧∀ xs x,SqT K H a xs→xs[i]?=some x→H'=upd H T (.tup [.int i,x]),fun i H=> ∃ xs,SqT K H a xs∧xs.length≤i⟩
end
section
variable {φ:Fam}
def enumL (l:List PV):List PV:=l.mapIdx fun i x=>PV.tup [.int i,x]
inductive ItE (K:PySem.W.Frag) (G:Bg φ) (O:Addr→Prop) (H:Hp):List PV→It→Prop where
 |enL {a:Addr} {xs:List V} {l:List PV} (na: ¬ O a) (ha:H a=some (.lst xs)) (ra:Reps G.B O H l xs):ItE K G O H (enumL l) (Ite K a)
 |enT {a:Addr} {xs:List V} {l:List PV} (na: ¬ O a) (ha:H a=some (.tup xs)) (ra:Reps G.B O H l xs):ItE K G O H (enumL l) (IteT K a)
end
section
variable {φ:Fam}
section
variable {X:Cx}
theorem a1 (h0:EV φ X e0 m0) (s0:isStar e0=false:=by rfl):AV φ X [e0] (consA m0 (fun _=>.ret [])):=av_cons h0 (av_nil) s0
theorem a2 (h0:EV φ X e0 m0) (h1:EV φ X e1 m1) (s0:isStar e0=false:=by rfl) (s1:isStar e1=false:=by rfl):AV φ X [e0,e1] (consA m0 (consA m1 (fun _=>.ret []))):=av_cons h0 (av_cons h1 (av_nil) s1) s0
theorem a3 (h0:EV φ X e0 m0) (h1:EV φ X e1 m1) (h2:EV φ X e2 m2) (s0:isStar e0=false:=by rfl) (s1:isStar e1=false:=by rfl) (s2:isStar e2=false:=by rfl):AV φ X [e0,e1,e2] (consA m0 (consA m1 (consA m2 (fun _=>.ret [])))):=av_cons h0 (av_cons h1 (av_cons h2 (av_nil) s2) s1) s0
theorem a4 (h0:EV φ X e0 m0) (h1:EV φ X e1 m1) (h2:EV φ X e2 m2) (h3:EV φ X e3 m3) (s0:isStar e0=false:=by rfl) (s1:isStar e1=false:=by rfl) (s2:isStar e2=false:=by rfl) (s3:isStar e3=false:=by rfl):AV φ X [e0,e1,e2,e3] (consA m0 (consA m1 (consA m2 (consA m3 (fun _=>.ret []))))):=av_cons h0 (av_cons h1 (av_cons h2 (av_cons h3 (av_nil) s3) s2) s1) s0
theorem a5 (h0:EV φ X e0 m0) (h1:EV φ X e1 m1) (h2:EV φ X e2 m2) (h3:EV φ X e3 m3) (h4:EV φ X e4 m4) (s0:isStar e0=false:=by rfl) (s1:isStar e1=false:=by rfl) (s2:isStar e2=false:=by rfl) (s3:isStar e3=false:=by rfl) (s4:isStar e4=false:=by rfl):AV φ X [e0,e1,e2,e3,e4] (consA m0 (consA m1 (consA m2 (consA m3 (consA m4 (fun _=>.ret [])))))):=av_cons h0 (av_cons h1 (av_cons h2 (av_cons h3 (av_cons h4 (av_nil) s4) s3) s2) s1) s0
theorem a6 (h0:EV φ X e0 m0) (h1:EV φ X e1 m1) (h2:EV φ X e2 m2) (h3:EV φ X e3 m3) (h4:EV φ X e4 m4) (h5:EV φ X e5 m5) (s0:isStar e0=false:=by rfl) (s1:isStar e1=false:=by rfl) (s2:isStar e2=false:=by rfl) (s3:isStar e3=false:=by rfl) (s4:isStar e4=false:=by rfl) (s5:isStar e5=false:=by rfl):AV φ X [e0,e1,e2,e3,e4,e5] (consA m0 (consA m1 (consA m2 (consA m3 (consA m4 (consA m5 (fun _=>.ret []))))))):=av_cons h0 (av_cons h1 (av_cons h2 (av_cons h3 (av_cons h4 (av_cons h5 (av_nil) s5) s4) s3) s2) s1) s0
end
structure CalT (K:PySem.W.Frag) (mg:Str→Option Value) (x:Str) (st:Stmt) (a:Addr) (d:FuncData) (ps:List Str):Prop where
 F:Fun K x x st a d
 m:mg x=some (.ref a)
 b:Binds K d ps []
theorem ec {X:Cx} {x:Str} {p pos:Pos} {e:Expr} {es:List Expr} {st:Stmt} {k k':Nat} {f:Addr} {fd:FuncData} {ps:List Str} {Fm:List PV→M PV} {ml:PEnv→M (List PV)} (G:FnOk X.prog X.w X.K X.mg X.base CX0 k f fd ps (spP φ Fm)) (c:CalT X.K X.mg x st f fd ps) (hr:Room k' X.A) (ha:AV φ X (e::es) ml) (hk:k≤k':=by decide) (hg:Gl X x:=by rfl) (hdb:(x==("__debug__":Str))=false:=by decide)
  (he:starEach (e::es) X.env=(false,eval e X.env)::starEach es X.env:=by rfl) (hpl:(backTo pos (starEach es X.env)).any (·.1)=false:=by rfl):EV φ X (.Call (.Name x p) (e::es) [] pos) (fun ρ=>(ml ρ).bind Fm):=ev_call (be_call G (hr.mono hk) hg c.m c.F.kp c.b .nil pass0 ha hdb he hpl)
end
section
variable {φ:Fam}
def tgN:Expr→List Str
 | .Name x _=>[x]
 | .Tuple es _ _=>es.filterMap fun e=>match e with| .Name x _=>some x|_=>none
 |_=>[]
def lcN (tg:Expr) (XN:List Str) (js:List (Option Nat)):List Str:=tgN tg++js.filterMap fun o=>o.bind fun i=>XN[i]?
end
section
open PySem.W (KasT kas_rev kas_asc kas_desc kas_tail3 kas_descPart kas_count kas_place kas_bin kas_sort)
open PySem.W (kas_sort kas_ask KatTups)
open PySem.W (kla_fn kla_obj CodeHd tabObj)
def Bp (N : Nat) (p0 p : Array Nat) : Prop := Bd N p ∧ p.Perm p0
theorem Bp.at {N : Nat} {p0 p : Array Nat} (h : Bp N p0 p) (k : Nat) : p.getD k 0 < N := h.1.at k
theorem Bp.perm {N : Nat} {p0 p q : Array Nat} (h : Bp N p0 p) (pm : q.Perm p) : Bp N p0 q := ⟨h.1.perm pm, pm.trans h.2⟩
theorem Bp.rev {N : Nat} {p0 p : Array Nat} (h : Bp N p0 p) (i j : Nat) : Bp N p0 (kas_rev p i j) := h.perm (mirror_perm _ _ _ _)
section
variable {N : Nat} {p0 : Array Nat}
theorem asc_inE {p : Array Nat} (h : Bp N p0 p) : ∀ f n, InR N (fun _ => True) (kas_asc p f n)
  | 0, _ => trivial
  | f + 1, n => ⟨h.at _, h.at _, fun b => InR.ite trivial (asc_inE h f (n + 1))⟩
theorem desc_inE : ∀ (f : Nat) {p : Array Nat} (n q : Nat), Bp N p0 p → InR N (fun r => Bp N p0 r.1) (kas_desc f p n q)
  | 0, _, _, _, h => h
  | f + 1, p, n, q, h => ⟨h.at _, h.at _, fun b => InR.ite (InR.ite (desc_inE f _ _ (h.rev _ _)) (desc_inE f _ _ h)) ⟨h.at _, h.at _, fun d => InR.ite h (desc_inE f _ _ h)⟩⟩
theorem tail3_inE {p : Array Nat} (h : Bp N p0 p) (n m : Nat) : InR N (fun r => Bp N p0 r.2) (kas_tail3 n m p) := InR.bind (asc_inE (h.rev _ _) _ _) fun a _ => h.rev _ _
theorem descPart_inE {p : Array Nat} (h : Bp N p0 p) (n m : Nat) : InR N (fun r => Bp N p0 r.2) (kas_descPart n m p) := InR.bind (desc_inE _ _ _ h) fun r hr => InR.ite (tail3_inE (hr.rev _ _) _ _) (tail3_inE hr _ _)
theorem count_inE {p : Array Nat} (h : Bp N p0 p) (m : Nat) : InR N (fun r => Bp N p0 r.2) (kas_count m p) :=
  InR.bind (asc_inE h _ _) fun n _ => InR.ite h (InR.ite ⟨h.at _, h.at _, fun c => InR.ite h (descPart_inE (h.rev _ _) _ _)⟩ (descPart_inE h _ _))
theorem place_inE {p : Array Nat} (h : Bp N p0 p) (k : Nat) : ∀ f l r, InR N (fun _ => True) (kas_place p k f l r)
  | 0, _, _ => trivial
  | f + 1, l, r => by
    unfold kas_place
    exact InR.ite trivial ⟨h.at _, h.at _, fun c => InR.ite (place_inE h k f _ _) (place_inE h k f _ _)⟩
theorem bin_inE : ∀ (f : Nat) {p : Array Nat} (k : Nat), Bp N p0 p → InR N (Bp N p0) (kas_bin f p k)
  | 0, _, _, h => h
  | f + 1, p, k, h => InR.bind (place_inE h _ _ _ _) fun l _ => bin_inE f (k + 1) (h.perm (bubble_perm _ _ _))
theorem sort_inE (hN : 0 < N) : InR N (Bp N (List.toArray (List.range N))) (kas_sort N) := by
  have h : Bp N (List.toArray (List.range N)) (List.toArray (List.range N)) := ⟨⟨hN, fun x hx => by simpa using hx⟩, Array.Perm.refl _⟩
  exact InR.bind (count_inE h _) fun r hr => InR.ite (bin_inE _ _ hr) hr
end
theorem run_in {N : Nat} {α : Type} {V : α → Prop} {r : Nat → Int} : ∀ (t : KasT α), InR N V t → V (runK r t)
  | .ret a, h => h
  | .ask i j k, h => run_in (k (decide (r i < r j))) (h.2.2 _)
def ordN (r : Nat → Int) (n : Nat) : Array Nat := if n < 2 then List.toArray (List.range n) else runK r (kas_sort n)
theorem ordN_perm (r : Nat → Int) (n : Nat) : (ordN r n).Perm (List.toArray (List.range n)) := by
  unfold ordN
  split
  · exact Array.Perm.refl _
  · exact (run_in (r := r) _ (sort_inE (N := n) (by omega))).2
theorem ordN_size (r : Nat → Int) (n : Nat) : (ordN r n).size = n := by
  have := (Array.perm_iff_toList_perm.mp (ordN_perm r n)).length_eq
  simpa using this
section
variable {X : Cx} {A : Around} {E : Value → Shared → Prop} {pZ : List (Addr × Obj)} {σ : St} {H : Hp} {s : Shared} {f D : Addr} {its : List Value} {xs : List V} {kf : Nat → Int × Int} {P : PySem.Fin → Shared → Prop}
theorem sort_keyedE {n0 : Nat} (I : Inv X pZ σ H s) (fp : FpOk X pZ H D) (ho : s.heap.get? D = some (seqObj "list" its.toArray n0)) (rv : Vals xs its) (h64 : xs.length < 64)
    (hkey : ∀ (pins' : List (Addr × Obj)) (H1 : Hp) (s1 : Shared) (i : Nat) (u : Value), its[i]? = some u → Same H H1 → Inv X pins' σ H1 s1 → wpAny (model X.prog X.w) A (call (.ref f) [u]) (EP X pins' σ fun v H2 => ∃ T, v = .ref T ∧ H1 T = none ∧ H2 = upd H1 T (.tup [.int (kf i).1, .int (kf i).2])) (fun _ _ => False) s1)
    (hb : ∀ i, i < xs.length → 0 ≤ (kf i).2 ∧ (kf i).2 < 1000000)
    (h : ∀ (H' : Hp) (s' : Shared), Inv X pZ σ H' s' → H' D = some (.lst ((ordN (rk kf) xs.length).toList.map fun i => xs.getD i .non)) → Same H H' → P (.done (.ret .none)) s') :
    wpAny (model X.prog X.w) A (Builtin.«list.sort» ⟨[.ref D], [(Str.ofString "key", .ref f)]⟩) P E s := by
  have hl := rv.length
  have hzL : its.length ≤ sizeLine := by rw [sizeLine_eq]; omega
  rw [ksk_t1]
  unfold ksk_tree
  refine wpAny_bind (listItems_at ho rfl ?_)
  refine wpAny_bind (listUpdate_at ho rfl ?_ (by rw [List.size_toArray]; exact hzL) (Nat.zero_le _))
  obtain ⟨e1, ho1⟩ : ∃ e1, (s.heap.update D (Obj.mapSeq fun _ => (#[] : Array Value))).get? D = some (seqObj "list" #[] e1) := ⟨_, get?_update_seq ho fun _ => #[]⟩
  refine wpAny_bind (seqEpoch_at ho1 rfl ?_)
  refine wpAny_bind (wpAny_newTuple ?_ hzL)
  refine wpAny_bind (wpAny_newList ?_ (Nat.zero_le _))
  refine wpAny_holding ?_
  have I1 : Inv X pZ σ H { s with heap := s.heap.update D (Obj.mapSeq fun _ => (#[] : Array Value)) } := I.turned (t' := s.toks) (fun b u hb' e => (Heap.get?_update_other _ _ (Ne.symm hb')).trans e) fp.1 fp.2.1 fp.2.2.2.1 fp.2.2.2.2.1 fp.2.2.2.2.2
  have I2 : Inv X ((D, seqObj "list" #[] e1) :: pZ) σ H { s with heap := s.heap.update D (Obj.mapSeq fun _ => (#[] : Array Value)) } := I1.pins_of fun q hq => by
    rcases List.mem_cons.mp hq with rfl | hq
    · exact ⟨ho1, fp.1, fp.2.1, fp.2.2.1, fun v z => by cases z⟩
    · exact I1.pin q (List.mem_append_right _ hq)
  have I3 : Inv X ((D, seqObj "list" #[] e1) :: pZ) σ H { s with heap := (s.heap.update D (Obj.mapSeq fun _ => (#[] : Array Value))).push (seqObj "tuple" its.toArray 0) } := I2.kept (t' := s.toks) fun b u e => Heap.get?_push_of_some _ e
  have hkn : H ((s.heap.update D (Obj.mapSeq fun _ => (#[] : Array Value))).push (seqObj "tuple" its.toArray 0)).objs.size = none := I3.fresh
  have I4 := I3.lnew (t' := s.toks) (ys := []) (its := []) .nil (Nat.zero_le _)
  generalize hks : ((s.heap.update D (Obj.mapSeq fun _ => (#[] : Array Value))).push (seqObj "tuple" its.toArray 0)).objs.size = kS at *
  have hDk : ∀ (H1 : Hp), H1 D = none → H1 kS ≠ none → kS ≠ D := fun H1 a b z => b (z ▸ a)
  unfold ksk_rest
  refine wpAny_bind (wpAny_rule ?_)
  rw [List.forIn_toArray]
  refine wpAny_bind (ksk_fold (fun i s' => ∃ (Hi : Hp) (Ts : List Addr), Inv X ((D, seqObj "list" #[] e1) :: pZ) σ Hi s' ∧ Hi kS = some (.lst (Ts.map V.ref)) ∧ Ts.length = i ∧ (∀ j T, Ts[j]? = some T → Hi T = some (.tup [.int (kf j).1, .int (kf j).2])) ∧ Same H Hi) its 0 _ ?_ (fun j x s' hx hJ => ?_) fun s' hJ => ?_)
  · refine ⟨_, [], I4, upd_same, rfl, fun j T e => by simp at e, fun b o e => ?_⟩
    rw [upd_ne (ne_of_none e hkn)]
    exact e
  · obtain ⟨Hi, Ts, J, hk, hT, tt, sm⟩ := hJ
    rw [Nat.zero_add] at hT
    refine wpAny_bind (wpAny_attempt (wpAny_mono (hkey _ Hi s' j x hx sm J) (fun k s'' hk' => ?_) fun _ _ hF => hF.elim))
    obtain ⟨v, H2, J2, rk', T, rfl, hTn, rfl⟩ := hk'
    cases rk'
    have nT : kS ≠ T := ne_of_none hk hTn
    have hk2 : upd Hi T (.tup [.int (kf j).1, .int (kf j).2]) kS = some (.lst (Ts.map V.ref)) := by rw [upd_ne nT]; exact hk
    obtain ⟨_, its', n', r1, r2, hob⟩ := J2.lstM hk2
    have hjl : j < its.length := (List.getElem?_eq_some_iff.mp hx).1
    have hs' : its'.length = j := by rw [← r2, List.length_map, hT]
    try dsimp only
    refine wpAny_bind (listUpdate_at hob rfl ?_ (by rw [List.size_toArray, sizeLine_eq]; omega) (Nat.le_trans (Nat.le_of_eq (Array.size_push ..)) (by rw [List.size_toArray, sizeLine_eq]; omega)))
    have J3 := J2.lset (t' := s''.toks) (f := (·.push (Value.ref T))) (its' := its' ++ [.ref T]) (ys := Ts.map V.ref ++ [.ref T]) hk2 hob (by simp) (r1.append (show Vals [V.ref T] [Value.ref T] from .cons rfl .nil)) (by rw [List.length_append, List.length_map, List.length_singleton, sizeLine_eq]; omega)
    refine wpAny_pure ⟨rfl, _, Ts ++ [T], J3, by rw [upd_same]; simp, by simp [hT], fun i T' e => ?_, fun b o e => ?_⟩
    · by_cases c : i < Ts.length
      · rw [List.getElem?_append_left c] at e
        have g := tt i T' e
        have n1 : T' ≠ kS := fun z => by rw [z, hk] at g; cases g
        rw [upd_ne n1, upd_ne (ne_of_none g hTn)]
        exact g
      · rw [List.getElem?_append_right (by omega)] at e
        have hi : i = Ts.length := by
          by_cases z : i - Ts.length = 0
          · omega
          · rw [List.getElem?_eq_none (by simp; omega)] at e; cases e
        subst hi
        simp at e
        subst e
        rw [upd_ne (Ne.symm nT), upd_same, hT]
    · have g := sm b o e
      have n1 : b ≠ kS := ne_of_none e hkn
      rw [upd_ne n1, upd_ne (ne_of_none g hTn)]
      exact g
  · obtain ⟨Hi, Ts, J, hk, hT, tt, sm⟩ := hJ
    rw [Nat.zero_add] at hT
    have hTx : Ts.length = xs.length := by omega
    obtain ⟨_, its', n', r1, r2, hob⟩ := J.lstM hk
    have hks' := vals_refs r1
    subst hks'
    have fpD : FpOk X pZ Hi D := ⟨(J.pin _ (List.mem_append_right _ List.mem_cons_self)).2.1, fp.2⟩
    have hkD : kS ≠ D := fun z => by rw [z, fpD.1] at hk; cases hk
    have fin : ∀ (p : Array Nat) (s'' : Shared), p = ordN (rk kf) xs.length → Inv X pZ σ (upd (upd Hi kS (.lst [])) D (.lst (p.toList.map fun i => xs.getD i .non))) s'' → P (.done (.ret .none)) s'' := fun p s'' hp J' => by
      subst hp
      refine h _ s'' J' upd_same fun b o e => ?_
      rw [upd_ne (ne_of_none e fp.1), upd_ne (ne_of_none e hkn)]
      exact sm b o e
    have inP : ∀ p : Array Nat, p.Perm (List.toArray (List.range xs.length)) → ∀ i ∈ p.toList, i < xs.length := fun p hp i hi => by
      have := (Array.perm_iff_toList_perm.mp hp).mem_iff.mp hi
      simpa using this
    have hkl : (Ts.map Value.ref).length = its.length := by simp [hT]
    try dsimp only
    refine wpAny_bind (listItems_at hob rfl ?_)
    unfold ksk_end
    try dsimp only
    simp only [Bool.false_eq_true, if_false]
    by_cases h2 : its.toArray.size < 2
    · rw [if_pos h2, if_pos h2]
      refine wpAny_bind (wpAny_pure ?_)
      rw [StateT.run_pure]
      refine wpAny_bind (wpAny_pure ?_)
      try dsimp only
      rw [List.size_toArray] at h2
      have hz : (List.toArray (List.range xs.length)).size = xs.length := by simp
      refine sort_tail (p := List.toArray (List.range xs.length)) J fpD hk rv h64 hTx hz ?_ (inP _ (Array.Perm.refl _)) rfl fun s'' J' => fin _ s'' (by unfold ordN; rw [if_pos (by omega)]) J'
      have hmap := PySem.W.kat_snds (ks := Ts.map Value.ref) (vs := its) hkl (st := SortSt.mk' general' ((Ts.map Value.ref).toArray.zip its.toArray) #[] 7 none) (p := List.toArray (List.range xs.length)) (by
        have e := PySem.W.kas_range ((Ts.map Value.ref).toArray.zip its.toArray)
        rw [show ((Ts.map Value.ref).toArray.zip its.toArray).size = xs.length by simp [hT]; omega] at e
        exact e.symm)
      exact hmap
    · rw [if_neg h2, if_neg h2]
      rw [List.size_toArray] at h2
      obtain ⟨fs, kt, hfl, hfi⟩ := tups_of (h := s'.heap) Ts fun T hT' => by
        obtain ⟨i, hi, e⟩ := List.getElem_of_mem hT'
        obtain ⟨o, n, ta, tb, g1, g2, g3⟩ := pair_at J.hok (tt i T (List.getElem?_eq_some_iff.mpr ⟨hi, e⟩))
        exact ⟨o, n, _, _, ta, tb, g1, g2, g3⟩
      refine wpAny_bind (PySem.W.kat_kind (T := Value.type "int") kt (by omega) (fun v hv => ?_) rfl ?_)
      · obtain ⟨i, t, rfl⟩ := hfi v hv
        exact PySem.W.Looks.now
      · obtain ⟨p, ep⟩ : ∃ p, runK (rk kf) (kas_sort xs.length) = p := ⟨_, rfl⟩
        have eo : p = ordN (rk kf) xs.length := by unfold ordN; rw [if_neg (by omega)]; exact ep.symm
        have hp : p.Perm (List.toArray (List.range xs.length)) := eo ▸ ordN_perm _ _
        have hz : p.size = xs.length := eo ▸ ordN_size _ _
        refine wpAny_bind (wpAny_mono (PySem.W.kat_run (vs := its) (ks := Ts.map Value.ref) (Q := fun st' s'' => ∃ p' : Array Nat, arrOf st' = p'.map (PySem.W.kas_item ((Ts.map Value.ref).toArray.zip its.toArray)) ∧ failedOf st' = none ∧ p' = p ∧ s'' = s') (G := fun p' s'' => p' = p ∧ s'' = s')
          hkl (by omega) (by omega) (fun p' st' s'' a1 a2 a3 a4 => ⟨p', a2, a3, a4.1, a4.2⟩) ?_) ?_ fun _ _ e => e)
        · rw [show its.length = xs.length from hl.symm]
          refine wp_run (N := xs.length) (V := Bd xs.length) (r := rk kf) (fun i j C hi hj hC => ?_) _ (sort_in (by omega)) ⟨ep, rfl⟩
          have hi' : i < Ts.length := by omega
          have hj' : j < Ts.length := by omega
          obtain ⟨oi, ni, ai, bi, g1, g2, g3⟩ := pair_at J.hok (tt i _ (List.getElem?_eq_getElem hi'))
          obtain ⟨oj, nj, aj, bj, k1, k2, k3⟩ := pair_at J.hok (tt j _ (List.getElem?_eq_getElem hj'))
          unfold PySem.W.kas_ask
          rw [List.getD_eq_getElem?_getD, List.getD_eq_getElem?_getD, List.getElem?_map, List.getElem?_map, List.getElem?_eq_getElem hi', List.getElem?_eq_getElem hj']
          exact key_lt g1 g3 k1 k3 (hb i hi) (hb j hj) hC
        · rintro ⟨⟨⟩, st'⟩ s'' ⟨p', har, hf, rfl, rfl⟩
          try dsimp only
          exact sort_tail J fpD hk rv h64 hTx hz (PySem.W.kat_snds hkl har) (inP _ hp) hf fun s3 J' => fin _ s3 eo J'
end
theorem sorted_keyedE {X : Cx} {pZ : List (Addr × Obj)} {σ : St} {H : Hp} {s : Shared} {f l : Addr} {T : String} {o : Obj} {n0 : Nat} {its : List Value} {xs : List V} {kf : Nat → Int × Int} {Q : VK}
    (I : Inv X pZ σ H s) (hT : T = "list" ∨ T = "tuple") (ho : s.heap.get? l = some o) (hc : o.cls = .type T) (hd : o.data = .seq its.toArray n0) (rv : Vals xs its) (h64 : xs.length < 64)
    (hkey : ∀ (pins' : List (Addr × Obj)) (H1 : Hp) (s1 : Shared) (i : Nat) (u : Value), its[i]? = some u → Same H H1 → Inv X pins' σ H1 s1 → wpAny (model X.prog X.w) X.A.in1.in1 (call (.ref f) [u]) (EP X pins' σ fun v H2 => ∃ T, v = .ref T ∧ H1 T = none ∧ H2 = upd H1 T (.tup [.int (kf i).1, .int (kf i).2])) (fun _ _ => False) s1)
    (hb : ∀ i, i < xs.length → 0 ≤ (kf i).2 ∧ (kf i).2 < 1000000)
    (hq : ∀ (D : Addr) (H' : Hp), H D = none → H' D = some (.lst ((ordN (rk kf) xs.length).toList.map fun i => xs.getD i .non)) → Same H H' → Q (.ref D) H') :
    wpAny (model X.prog X.w) X.A (call (.builtin "sorted") [.ref l] [(Str.ofString "key", .ref f)]) (EP X pZ σ Q) X.xe s := by
  have hl := rv.length
  refine call_function_entry_kw kind_sorted plain_sorted entry_sorted (ksk_s1 _ _) ?_
  unfold Builtin.«sorted»
  refine wpAny_bind (m := checkCount "sorted" 1 1 _) (wpAny_pure ?_)
  refine wpAny_bind (wpAny_collect_seq l hT ho hc hd (fun h1 kp => ?_) (by rw [List.size_toArray, sizeLine_eq]; omega))
  have I1 : Inv X pZ σ H { s with heap := h1 } := I.kept (t' := s.toks) kp
  have fr : H h1.objs.size = none := I1.fresh
  have fp : FpOk X pZ H h1.objs.size := I1.fpOk (Nat.le_refl _) fr
  refine wpAny_bind (wpAny_newList ?_ (by show its.length ≤ _; rw [sizeLine_eq]; omega))
  have I2 : Inv X pZ σ H { s with heap := h1.push (seqObj "list" its.toArray 0) } := I1.kept (t' := s.toks) fun b u e => Heap.get?_push_of_some _ e
  have hoL : (h1.push (seqObj "list" its.toArray 0)).get? h1.objs.size = some (seqObj "list" its.toArray 0) := Heap.get?_push_size _ rfl
  refine wpAny_bind (wpAny_holding (wpAny_call_entry_kw slot_list_sort ⟨_, hoL, rfl⟩ entry_list_sort ?body (ksk_l1 _ _)))
  case body =>
    show wpAny (model X.prog X.w) X.A.in1.in1 (Builtin.«list.sort» ⟨[.ref h1.objs.size], [(Str.ofString "key", .ref f)]⟩) _ _ { s with heap := h1.push (seqObj "list" its.toArray 0) }
    refine sort_keyedE I2 fp hoL rv h64 hkey hb fun H' s' J e1 sm => ⟨_, rfl, wpAny_pure ⟨_, rfl, .ref h1.objs.size, H', J, rfl, hq _ H' fr e1 sm⟩⟩
def SortE (e : Addr × Str) (N : List Str) (tE : TE) (Q : VK) (x : V) (H1 : Hp) : Prop := ∃ (l : Addr) (xs : List V) (kf : Nat → Int × Int), x = .ref l ∧ (H1 l = some (.lst xs) ∨ H1 l = some (.tup xs)) ∧ xs.length < 64 ∧ TabAt H1 e ∧
  (∀ i x, xs[i]? = some x → ∀ H2, (∀ b o, b ≠ e.1 → H1 b = some o → H2 b = some o) → tE (start N [x]) H2 fun v H3 => ∃ T, v = .ref T ∧ H2 T = none ∧ H3 = upd H2 T (.tup [.int (kf i).1, .int (kf i).2])) ∧
  (∀ i, i < xs.length → 0 ≤ (kf i).2 ∧ (kf i).2 < 1000000) ∧
  ∀ (D : Addr) (H' : Hp), H1 D = none → H' D = some (.lst ((ordN (rk kf) xs.length).toList.map fun i => xs.getD i .non)) → (∀ b o, b ≠ e.1 → H1 b = some o → H' b = some o) → TabAt H' e → Q (.ref D) H'
def tSortE (e : Addr × Str) (N : List Str) (tE ta : TE) : TE := fun σ H Q => ta σ H (SortE e N tE Q)
def SortE1 (e : Addr × Str) (N : List Str) (tE : TE) (Q : VK) : List V → Hp → Prop
  | [x], H1 => SortE e N tE Q x H1
  | _, _ => False
theorem pe_sortE {X : Cx} {k : Nat} {c P : Addr} {params : Arguments} {body e : Expr} {scope : Scope} {lpos kpos pos p : Pos} {N : List Str} {y : Str} {tE ta : TE}
    (hr : Room (k + 3) X.A) (hB : BIn X.base X.mg) (hcode : X.env.code = .ref c) (hC : CodeHd X.base c P) (hcl : closureFor scope X.env = pure []) (hdef : defaultsOf params X.env = ([], [])) (S : FnScope N [y] scope)
    (hbind : ∀ (s : Shared) (pm : Value) (c : Addr) (ctv u : Value), BindsTo s (kla_fn "<lambda>" (X.env.qual ++ "<lambda>") params body scope [] pm (.ref c) ctv) ⟨[u], []⟩ [(y, u)])
    (hbody : ∀ (f c : Addr) (A : Around) (s : Shared) (H : Hp), PE (cxOf CX0 X.prog X.w X.K X.mg X.base N (X.env.qual ++ "<lambda>") scope f (.ref c) A X.stack s H E0).nox body tE)
    (hg : Gl X "sorted") (hm : X.mg "sorted" = none) (ha : PE X e ta) (hs : starEach [e] X.env = (false, eval e X.env) :: starEach [] X.env := by rfl) :
    PE X (.Call (.Name "sorted" p) [e] [⟨some (Str.ofString "key"), .Lambda params body scope lpos, kpos⟩] pos) (tSortE (P, X.env.qual ++ "<lambda>") N tE ta) := by
  intro pZ s σ H Q I h
  refine wpAny_Call_Name_kw (ld_blt I hg hm boot_sorted ?_)
  have hpa := pa_cons ha pa_nil hs
  refine callWith_kw (thn (hpa pos pZ s σ H (SortE1 (P, X.env.qual ++ "<lambda>") N tE Q) I h) fun us s1 hu => ?_) (by rw [hs]; rfl) (by rw [hs]; rfl)
  obtain ⟨vs, H1, I1, r, q⟩ := hu
  match vs, r, q with
  | [x], r, q =>
  obtain ⟨u, rfl, rx⟩ := vals1 r
  obtain ⟨l, xs, kf, rfl, hl, h64, tab, hk, hb, q⟩ := q
  cases rx
  refine kws_cons (lam_eval I1 hB hcode hC tab hcl hdef fun f c' oc fs tq pm ctv H' s' J hfn at_f at_c hfd hfs tab' keepH => kws_nil ?_)
  show wpAny (model X.prog X.w) X.A (call (.builtin "sorted") [.ref l] [(Str.ofString "key", .ref f)]) (EP X pZ σ Q) X.xe s'
  have nl : l ≠ P := fun z => by
    obtain ⟨ps, hP, _⟩ := tab
    have hP : H1 P = some (.tbl ps) := hP
    rw [z, hP] at hl
    rcases hl with z | z <;> cases z
  have src : ∃ T o n0 its, (T = "list" ∨ T = "tuple") ∧ s'.heap.get? l = some o ∧ o.cls = .type T ∧ o.data = .seq (List.toArray its) n0 ∧ Vals xs its := by
    rcases hl with hl | hl
    · obtain ⟨_, its, n, rv, ho⟩ := J.hok l _ (keepH l _ nl hl)
      exact ⟨"list", _, n, its, .inl rfl, ho, rfl, rfl, rv⟩
    · obtain ⟨_, its, rv, o, ho, hc, n, hd⟩ := J.hok l _ (keepH l _ nl hl)
      exact ⟨"tuple", o, n, its, .inr rfl, ho, hc, hd, rv⟩
  obtain ⟨T, o, n0, its, hT, ho, hc, hd, rv⟩ := src
  refine sorted_keyedE J hT ho hc hd rv h64 (fun pins' H2 s2 i u hu sm J2 => ?_) hb fun D H3 hD e1 sm => ?_
  · have hi : i < xs.length := by rw [rv.length]; exact (List.getElem?_eq_some_iff.mp hu).1
    obtain ⟨u', hu', ru⟩ := rv.get (List.getElem?_eq_getElem hi)
    rw [hu] at hu'
    cases hu'
    exact lam_call S hr.in1.in1 rfl J2 (J2.hok f _ (sm _ _ at_f)).1 (J2.hok c' _ (sm _ _ at_c)).1 hfd hfs (hbind s2 pm c' ctv u) rfl (show Vals [xs[i]] [u] from .cons ru .nil) (hbody f c' _ s2 H2)
      (hk i _ (List.getElem?_eq_getElem hi) H2 fun b o nb e => sm b o (keepH b o nb e))
  · refine q D H3 ?_ e1 (fun b o nb e => sm b o (keepH b o nb e)) (tab'.keep (fun ps e => sm _ _ e) fun b ob u e => sm _ _ e)
    cases e : H1 D with
    | none => rfl
    | some o =>
      by_cases z : D = P
      · obtain ⟨ps, hP, _⟩ := tab'
        have hP : H' P = some (.tbl ps) := hP
        rw [z, hP] at hD
        cases hD
      · rw [keepH D o z e] at hD
        cases hD
variable {φ : Fam}
def ordK (l : List PV) : List PV := (ordN (rk fun i => kPV (l.getD i .non)) l.length).toList.map fun i => l.getD i .non
def sortE (y : PV) : M (List PV) := match seqPV y with
  | some l => if l.length < 64 ∧ ∀ z ∈ l, okP z = true then .ret (ordK l) else .fail
  | none => .fail
theorem sortE_inv {y : PV} {n : Nat} {R : List PV → Nat → Prop} (w : (sortE y).wp n R) : ∃ l, seqPV y = some l ∧ l.length < 64 ∧ (∀ z ∈ l, okP z = true) ∧ R (ordK l) n := by
  unfold sortE at w
  cases e : seqPV y with
  | none => rw [e] at w; exact w.elim
  | some l =>
    rw [e] at w
    dsimp only at w
    by_cases c : l.length < 64 ∧ ∀ z ∈ l, okP z = true
    · rw [if_pos c] at w
      exact ⟨l, rfl, c.1, c.2, w⟩
    · rw [if_neg c] at w; exact w.elim
theorem ef_sortE {X : Cx} {e : Expr} {tb : Addr × Str} {N : List Str} {me : PEnv → M PV} (hin : tb ∈ φ.tabs) (hun : ∀ q ∈ φ.tabs, q.1 = tb.1 → q = tb) (h : BE X e (tSortE tb N (tPair X.K 2 1) (teB φ me))) : EF φ X e (fun ρ => (me ρ).bind sortE) := BE.mono h fun σ H Q ⟨G, O, ρ, n, R, s, w, q⟩ => by
  rw [M.wZ] at w
  refine ⟨G, O, ρ, n, _, s, w, fun y x H1 n1 e1 ok1 r1 w1 => ?_⟩
  obtain ⟨l, hl, h64, hok, hR⟩ := sortE_inv w1
  obtain ⟨p, xs, rfl, hp, rs⟩ := seq_rep r1 hl
  have s1 := s.ext e1 ok1
  have tab := G.tab H1 n1 ok1 tb hin
  have hlen : l.length = xs.length := rs.1
  have pO : O tb.1 := s.pr _ (G.tp tb hin)
  obtain ⟨ps, hP, _⟩ := id tab
  refine ⟨p, xs, fun i => kPV (l.getD i .non), rfl, hp, by omega, tab, fun i x hx H2 k2 => ?_, fun i hi => ?_, fun D H' hD hD' kp tab' => ?_⟩
  · obtain ⟨y, hy, ry⟩ := rs.at' hx
    obtain ⟨k, ek, b0, b1⟩ := okP_inv (hok y (List.mem_of_getElem? hy))
    obtain ⟨l', rfl, g2, g1⟩ := keyPV_inv ek
    obtain ⟨q', ys, rfl, hq', r'⟩ := (RepB.full ry : RepB G O H1 _ _).tup_i
    obtain ⟨v2, hv2, rv2⟩ := r'.at g2
    obtain ⟨v1, hv1, rv1⟩ := r'.at g1
    cases rv2
    cases rv1
    have ekk : kPV (l.getD i .non) = k := by
      rw [List.getD_eq_getElem?_getD, hy]
      show (keyPV _).getD _ = k
      rw [Option.getD_some, ek]
      rfl
    dsimp only
    rw [ekk]
    exact tPair_ok (k2 _ _ (fun z => by rw [z, hP] at hq'; cases hq') hq') (atI_of hv2) (atI_of hv1)
  · have hi' : i < l.length := by omega
    obtain ⟨k, ek, b0, b1⟩ := okP_inv (hok _ (List.getElem_mem hi'))
    have ekk : kPV (l.getD i .non) = k := by
      rw [List.getD_eq_getElem?_getD, List.getElem?_eq_getElem hi']
      show (keyPV _).getD _ = k
      rw [Option.getD_some, ek]
      rfl
    dsimp only
    rw [ekk]
    exact ⟨b0, b1⟩
  · have kp1 : ∀ b o, ¬ O b → H1 b = some o → H' b = some o := fun b o nb eb => kp b o (fun z => nb (z ▸ pO)) eb
    have ext : Ext G.B H1 H' := fun b o nb eb => by
      by_cases z : b = tb.1
      · obtain ⟨qs, hQ, _⟩ := tab'
        rw [z, hP] at eb
        cases eb
        exact ⟨qs, z ▸ hQ⟩
      · exact .of (kp b o z eb)
    have ok' : G.ok H' n1 := G.tset H1 H' n1 ok1 (fun q' hq' => by
      by_cases z : q'.1 = tb.1
      · rw [hun q' hq' z]
        exact tab'
      · exact (G.tab H1 n1 ok1 q' hq').keep (fun qs eq => kp _ _ z eq) fun b ob u eq => kp b _ (fun y => by rw [y, hP] at eq; cases eq) eq) fun b o nb eb => kp b o (fun z => nb (List.mem_map.mpr ⟨tb, hin, z.symm⟩)) eb
    obtain ⟨p', ep⟩ : ∃ p', p' = ordN (rk fun i => kPV (l.getD i .non)) l.length := ⟨_, rfl⟩
    have hpm : p'.Perm (List.toArray (List.range l.length)) := ep ▸ ordN_perm _ _
    rw [← hlen, ← ep] at hD'
    have hlt : ∀ i ∈ p'.toList, i < l.length := fun i hi => by
      have := (Array.perm_iff_toList_perm.mp hpm).mem_iff.mp hi
      simpa using this
    refine q (ordK l) D _ H' n1 (e1.trans ext) ok' (new_before e1 ok1 hD) hD' ?_ hR
    unfold ordK
    rw [← ep]
    have go : Reps G.B O H1 (p'.toList.map fun i => l.getD i .non) (p'.toList.map fun i => xs.getD i .non) := by
      refine ⟨by simp, fun i y x a b => ?_⟩
      rw [List.getElem?_map] at a b
      cases c : p'.toList[i]? with
      | none => rw [c] at a; cases a
      | some j =>
        rw [c] at a b
        cases a
        cases b
        have hj := hlt j (List.mem_of_getElem? c)
        obtain ⟨x, hx, rx⟩ := rs.at (List.getElem?_eq_getElem hj)
        show Rep G.B O H1 (l.getD j .non) (xs.getD j .non)
        rw [List.getD_eq_getElem?_getD, List.getD_eq_getElem?_getD, hx, List.getElem?_eq_getElem hj]
        exact rx
    exact go.keep (O' := fun q => O q ∨ q = D) (H' := H') fun b o nb eb => ⟨kp1 b o nb eb, fun z => by
      rcases z with z | z
      · exact nb z
      · rw [z, hD] at eb; cases eb⟩
end
def rGtT (K : PySem.W.Frag) : R2 := fun x y H Q => ∃ a b ns ms, x = .ref a ∧ y = .ref b ∧ SqT K H a (ns.map V.int) ∧ SqT K H b (ms.map V.int) ∧ Q (.bl (HT.lexLt ms ns)) H
theorem op_gtT {X : Cx} (hu : X.A.units < cLine) : OpR X (compareOp .Gt) (rGtT X.K) := by
  intro pZ s σ H x y v u Q I rx ry h
  obtain ⟨a, b, ns, ms, rfl, rfl, ha, hb, q⟩ := h
  cases rx
  cases ry
  obtain ⟨its, r1, p1, _⟩ := I.tuple ha
  obtain ⟨its2, r2, p2, _⟩ := I.tuple hb
  exact HT.gt_tupInts p1 p2 (intsAre_of r1) (intsAre_of r2) hu ⟨.bl (HT.lexLt ms ns), H, I, rfl, q⟩
def gtTO : PV → PV → M PV
  | .tup a, .tup b => (M.ofO (intsOf a)).bind fun x => (M.ofO (intsOf b)).bind fun y => .ret (.bl (HT.lexLt y x))
  | _, _ => .fail
theorem ov_gtT {K : PySem.W.Frag} : OpV (rGtT K) gtTO := fun φ G O H n R Q y z x x' pr dm ok r1 r2 w q => by
  cases y <;> cases z <;> first | exact w.elim | skip
  rename_i a b
  obtain ⟨p1, xs1, rfl, h1, e1⟩ := r1.tup_i
  obtain ⟨p2, xs2, rfl, h2, e2⟩ := r2.tup_i
  unfold gtTO at w
  dsimp only at w
  cases i1 : intsOf a with
  | none => rw [i1] at w; exact w.elim
  | some ns =>
    cases i2 : intsOf b with
    | none => rw [i1, i2] at w; exact w.elim
    | some ms =>
      rw [i1, i2] at w
      refine ⟨p1, p2, ns, ms, rfl, rfl, ?_, ?_, q.sc ok (.bl _) w⟩
      · rw [← ints_rep e1 i1]; exact SqT.of h1
      · rw [← ints_rep e2 i2]; exact SqT.of h2
theorem law_ok2TC {c0 tb0 : Addr} {tabs : List (Addr × Str)} {P : Program} {w : World} {K : PySem.W.Frag} {mg : Str → Option Value} {base : Heap} {x qual : Str} {st s0 s1 : Stmt} {f : Addr} {fd : FuncData} {N : List Str} {k b : Nat} {bd : PV → PEnv → M PEnv} {mb m' : PEnv → M Fl} {rest : List Stmt} {sc : Scope} {lo hi : Int} (F : FunC K x qual st f fd c0 tb0) (S : FnScope N ["_law_script"] (defScope st)) (eb : defBody st = s0 :: s1 :: rest) (es : defScope st = sc)
    (h0 : ∀ (A : Around) (outer : List Env) (s : Shared) (H : Hp) (E : XK), Room k (A.deeper (envOfC qual sc s.heap.objs.size f (.ref c0))) → BS (cxOf CX0 P w K mg base N qual sc f (.ref c0) A outer s H E).nox s0 (tAsg (tCall (spBag K) [] E0 (tCons (tVar 0) tNil)) (gName b)))
    (h1' : ∀ (A : Around) (outer : List Env) (s : Shared) (H : Hp) (E : XK), Room k (A.deeper (envOfC qual sc s.heap.objs.size f (.ref c0))) → BS (cxOf CX0 P w K mg base N qual sc f (.ref c0) A outer s H E).nox s1 (tFor (iLen K lo hi) (tgS (famTab K tabs) bd) (tsP (famTab K tabs) mb)))
    (hb : ∀ (A : Around) (outer : List Env) (s : Shared) (H : Hp) (E : XK), Room k (A.deeper (envOfC qual sc s.heap.objs.size f (.ref c0))) → SsV (famTab K tabs) (cxOf CX0 P w K mg base N qual sc f (.ref c0) A outer s H E).nox rest m')
    (hlo : 0 ≤ lo ∧ lo ≤ 1000000) (hhi : 0 ≤ hi ∧ hi ≤ 1000000)
    (hm : ∀ c : Nat, lo ≤ c → (c : Int) ≤ max lo hi → (seqP (forP bd mb (intsP 0 c)) m' ((List.replicate N.length un).set b (.val .bag))).wp 1000000 fun f _ => f = .rt (.bl true)) (h1 : 0 < N.length) (hb1 : b < N.length) (hb0 : b ≠ 0) :
    FnOk P w K mg base CX0 (k + 1) f fd ["_law_script"] (spLawT K (tabs.map (·.1))) := by
  subst es
  refine F.ok S (fun vs H Q E h => by obtain ⟨a, ns, rfl, _⟩ := h; rfl) (fun A outer s H vs Q E hr h => ?_)
  rw [eb]
  refine ⟨_, pss_cons (h0 A outer s H E hr).out (pss_cons (h1' A outer s H E hr).out (hb A outer s H E hr).out), ?_⟩
  obtain ⟨a, ns, rfl, hS, h63, ht, q⟩ := h
  refine ⟨.ref a, ?_, a, ns, rfl, hS, h63, fun b' c H' sm bag => ?_⟩
  · exact start_get (N := N) rfl
  · have hl : (start N [V.ref a]).length = N.length := by
      unfold start
      simp only [List.length_append, List.length_map, List.length_replicate, List.length_cons, List.length_nil]
      omega
    have okT : (tabBg K tabs b' c).ok H' 1000000 := ⟨⟨0, by omega, bag⟩, fun e he => ⟨#[], sm _ _ (ht _ (List.mem_map_of_mem he)), trivial, fun pos cv z => nomatch z⟩⟩
    have no : ∀ i p, ¬ OwnAt ((List.replicate N.length un).set b (.val .bag)) ((start N [V.ref a]).set b (some (V.ref b'))) i p := fun i p hh => by
      obtain ⟨t, g1, g2, _⟩ := hh
      by_cases e : b = i
      · subst e
        rw [List.getElem?_set_self (by simpa using hb1)] at g1
        cases g1; cases g2
      · rw [List.getElem?_set_ne e, List.getElem?_replicate] at g1
        split at g1
        · cases g1; cases g2
        · cases g1
    have hs : SI (tabBg K tabs b' c) (tabBg K tabs b' c).priv H' (tabBg K tabs b' c).priv H' ((start N [V.ref a]).set b (some (V.ref b'))) ((List.replicate N.length un).set b (.val .bag)) 1000000 := by
      refine ⟨⟨⟨by simp [hl], fun i e he => ?_⟩, okT, fun p z => z, fun p z => (tabBg K tabs b' c).dom H' 1000000 p okT z⟩, fun p z => z, fun p z => z, Ext.refl _ _, fun p z => .inl z, fun p z => (tabBg K tabs b' c).dom H' 1000000 p okT z, fun i p hh => (no i p hh).elim, fun i j p hh => (no i p hh).elim⟩
      by_cases e1 : b = i
      · subst e1
        rw [List.getElem?_set_self (by simpa using hb1)] at he
        cases he
        rw [List.getElem?_set_self (by omega)]
        exact ⟨_, rfl, .bag⟩
      · rw [List.getElem?_set_ne e1, List.getElem?_replicate] at he
        split at he
        · cases he; trivial
        · cases he
    have hj : lo ≤ lenJ lo hi ns.length ∧ lenJ lo hi ns.length ≤ max lo hi := by
      unfold lenJ
      dsimp only
      split <;> split <;> omega
    have hw := hm (lenJ lo hi ns.length).toNat (by omega) (by omega)
    unfold seqP at hw
    rw [M.wZ] at hw
    refine for_at (K := K) (J := Itr 0 (lenJ lo hi ns.length).toNat) (l := intsP 0 (lenJ lo hi ns.length).toNat) (fun Q' hq => iLen_at (p := a) (ns := ns) ?_ (sm.seq hS) (by omega) hq) (.rng 0 _) hs (M.wp_mono hw fun f n' hf => ?_)
    · rw [List.getElem?_set_ne hb0]
      exact start_get (N := N) rfl
    · cases f with
      | nx ρ' => exact fun O' σ' H2 s' => ⟨_, _, _, O', ρ', n', s', M.wp_mono hf fun f n3 hf => by
          subst hf
          intro x' H2 _ _ r2
          cases r2
          exact q H2⟩
      | rt y =>
        replace hf : Fl.rt y = Fl.rt (.bl true) := hf
        cases hf
        intro x' H2 _ _ r2
        cases r2
        exact q H2
      | bk ρ' => replace hf : Fl.bk ρ' = Fl.rt (.bl true) := hf; cases hf
      | ct ρ' => replace hf : Fl.ct ρ' = Fl.rt (.bl true) := hf; cases hf
end L2
namespace K08
open L2
open L2.Ent (val un)
def top (i : Nat) : Stmt := PySem.Challenge.pw_homeslopes_k08_books_of_anything.main.body.getD i (.Pass ⟨0, 0, 0, 0⟩)
abbrev s_is_whole : Stmt := top 2
theorem sc_is_whole : FnScope ["thing"] ["thing"] (defScope s_is_whole) := ⟨rfl, rfl, rfl, by decide +kernel, rfl, by decide +kernel, by decide +kernel⟩
abbrev s_is_within : Stmt := top 3
theorem sc_is_within : FnScope ["thing", "low", "high"] ["thing", "low", "high"] (defScope s_is_within) := ⟨rfl, rfl, rfl, by decide +kernel, rfl, by decide +kernel, by decide +kernel⟩
abbrev s_is_name : Stmt := top 4
theorem sc_is_name : FnScope ["thing"] ["thing"] (defScope s_is_name) := ⟨rfl, rfl, rfl, by decide +kernel, rfl, by decide +kernel, by decide +kernel⟩
abbrev s_way_named : Stmt := top 5
theorem sc_way_named : FnScope ["hill", "name", "way"] ["hill", "name"] (defScope s_way_named) := ⟨rfl, rfl, rfl, by decide +kernel, rfl, by decide +kernel, by decide +kernel⟩
abbrev s_is_way_name : Stmt := top 11
theorem sc_is_way_name : FnScope ["hill", "thing"] ["hill", "thing"] (defScope s_is_way_name) := ⟨rfl, rfl, rfl, by decide +kernel, rfl, by decide +kernel, by decide +kernel⟩
abbrev s_is_slope_name : Stmt := top 12
theorem sc_is_slope_name : FnScope ["hill", "thing"] ["hill", "thing"] (defScope s_is_slope_name) := ⟨rfl, rfl, rfl, by decide +kernel, rfl, by decide +kernel, by decide +kernel⟩
abbrev s_is_hours : Stmt := top 13
theorem sc_is_hours : FnScope ["a", "b"] ["a", "b"] (defScope s_is_hours) := ⟨rfl, rfl, rfl, by decide +kernel, rfl, by decide +kernel, by decide +kernel⟩
abbrev s_begins_with_text : Stmt := top 14
theorem sc_begins_with_text : FnScope ["thing"] ["thing"] (defScope s_begins_with_text) := ⟨rfl, rfl, rfl, by decide +kernel, rfl, by decide +kernel, by decide +kernel⟩
abbrev s_is_rule : Stmt := top 15
theorem sc_is_rule : FnScope ["hill", "thing", "word"] ["hill", "thing"] (defScope s_is_rule) := ⟨rfl, rfl, rfl, by decide +kernel, rfl, by decide +kernel, by decide +kernel⟩
abbrev s_is_rules : Stmt := top 16
theorem sc_is_rules : FnScope ["hill", "thing"] ["hill", "thing"] (defScope s_is_rules) := ⟨rfl, rfl, rfl, by decide +kernel, rfl, by decide +kernel, by decide +kernel⟩
abbrev s_is_page : Stmt := top 17
theorem sc_is_page : FnScope ["hill", "thing", "word"] ["hill", "thing"] (defScope s_is_page) := ⟨rfl, rfl, rfl, by decide +kernel, rfl, by decide +kernel, by decide +kernel⟩
abbrev s_book_of : Stmt := top 18
theorem sc_book_of : FnScope ["pages"] ["pages"] (defScope s_book_of) := ⟨rfl, rfl, rfl, by decide +kernel, rfl, by decide +kernel, by decide +kernel⟩
abbrev s_is_book : Stmt := top 19
theorem sc_is_book : FnScope ["hill", "thing"] ["hill", "thing"] (defScope s_is_book) := ⟨rfl, rfl, rfl, by decide +kernel, rfl, by decide +kernel, by decide +kernel⟩
abbrev s_law_bag : Stmt := top 21
theorem sc_law_bag : FnScope ["_law_script", "_law_top", "_law_seed", "_law_cell"] ["_law_script"] (defScope s_law_bag) := ⟨rfl, rfl, rfl, by decide +kernel, rfl, by decide +kernel, by decide +kernel⟩
abbrev s_law_draw : Stmt := top 22
theorem sc_law_draw : FnScope ["_law_bag_here", "_law_many", "_law_cell", "_law_digit", "_law_one", "_law_two"] ["_law_bag_here", "_law_many"] (defScope s_law_draw) := ⟨rfl, rfl, rfl, by decide +kernel, rfl, by decide +kernel, by decide +kernel⟩
abbrev s_law_any : Stmt := top 23
theorem sc_law_any : FnScope ["_law_bag_here", "_law_some"] ["_law_bag_here", "_law_some"] (defScope s_law_any) := ⟨rfl, rfl, rfl, by decide +kernel, rfl, by decide +kernel, by decide +kernel⟩
abbrev s_law_label : Stmt := top 24
theorem sc_law_label : FnScope ["_law_bag_here", "_law_size"] ["_law_bag_here"] (defScope s_law_label) := ⟨rfl, rfl, rfl, by decide +kernel, rfl, by decide +kernel, by decide +kernel⟩
abbrev s_law_labels : Stmt := top 25
theorem sc_law_labels : FnScope ["_law_bag_here", "_law_many", "_law_letters", "_law_found", "_law_stem", "_law_k", "_law_name", "_law_turn"] ["_law_bag_here", "_law_many"] (defScope s_law_labels) := ⟨rfl, rfl, rfl, by decide +kernel, rfl, by decide +kernel, by decide +kernel⟩
abbrev s_law_pace : Stmt := top 26
theorem sc_law_pace : FnScope ["_law_bag_here", "_law_scale"] ["_law_bag_here", "_law_scale"] (defScope s_law_pace) := ⟨rfl, rfl, rfl, by decide +kernel, rfl, by decide +kernel, by decide +kernel⟩
abbrev s_law_hill : Stmt := top 27
theorem sc_law_hill : FnScope ["_law_bag_here", "_law_many", "_law_scale", "_law_spots", "_law_ways", "_law_name", "_law_kind", "_law_start", "_law_end", "_law_paces", "_law_dark"] ["_law_bag_here"] (defScope s_law_hill) := ⟨rfl, rfl, rfl, by decide +kernel, rfl, by decide +kernel, by decide +kernel⟩
abbrev s_law_moment : Stmt := top 28
theorem sc_law_moment : FnScope ["_law_bag_here", "_law_hill_here"] ["_law_bag_here", "_law_hill_here"] (defScope s_law_moment) := ⟨rfl, rfl, rfl, by decide +kernel, rfl, by decide +kernel, by decide +kernel⟩
abbrev s_law_rule : Stmt := top 29
theorem sc_law_rule : FnScope ["_law_bag_here", "_law_hill_here", "_law_way", "_law_number", "_law_a"] ["_law_bag_here", "_law_hill_here"] (defScope s_law_rule) := ⟨rfl, rfl, rfl, by decide +kernel, rfl, by decide +kernel, by decide +kernel⟩
abbrev s_law_rules : Stmt := top 30
theorem sc_law_rules : FnScope ["_law_bag_here", "_law_hill_here"] ["_law_bag_here", "_law_hill_here"] (defScope s_law_rules) := ⟨rfl, rfl, rfl, by decide +kernel, rfl, by decide +kernel, by decide +kernel⟩
abbrev s_law_slopes : Stmt := top 31
theorem sc_law_slopes : FnScope ["_law_hill_here"] ["_law_hill_here"] (defScope s_law_slopes) := ⟨rfl, rfl, rfl, by decide +kernel, rfl, by decide +kernel, by decide +kernel⟩
abbrev s_law_page : Stmt := top 32
theorem sc_law_page : FnScope ["_law_bag_here", "_law_hill_here", "_law_number", "_law_way", "_law_moment_here", "_law_slopes_here", "_law_value"] ["_law_bag_here", "_law_hill_here", "_law_number"] (defScope s_law_page) := ⟨rfl, rfl, rfl, by decide +kernel, rfl, by decide +kernel, by decide +kernel⟩
abbrev s_law_pages : Stmt := top 33
theorem sc_law_pages : FnScope ["_law_bag_here", "_law_hill_here", "_law_many", "_law_numbers", "_law_pages_here", "_law_k", "_law_number", "_law_turn"] ["_law_bag_here", "_law_hill_here", "_law_many"] (defScope s_law_pages) := ⟨rfl, rfl, rfl, by decide +kernel, rfl, by decide +kernel, by decide +kernel⟩
abbrev s_law_name_is : Stmt := top 34
theorem sc_law_name_is : FnScope ["_law_thing"] ["_law_thing"] (defScope s_law_name_is) := ⟨rfl, rfl, rfl, by decide +kernel, rfl, by decide +kernel, by decide +kernel⟩
abbrev s_law_whole_is : Stmt := top 35
theorem sc_law_whole_is : FnScope ["_law_thing", "_law_low", "_law_high"] ["_law_thing", "_law_low", "_law_high"] (defScope s_law_whole_is) := ⟨rfl, rfl, rfl, by decide +kernel, rfl, by decide +kernel, by decide +kernel⟩
abbrev s_law_of_way : Stmt := top 36
theorem sc_law_of_way : FnScope ["_law_hill_here", "_law_thing"] ["_law_hill_here", "_law_thing"] (defScope s_law_of_way) := ⟨rfl, rfl, rfl, by decide +kernel, rfl, by decide +kernel, by decide +kernel⟩
abbrev s_law_number_is : Stmt := top 37
theorem sc_law_number_is : FnScope ["_law_thing"] ["_law_thing"] (defScope s_law_number_is) := ⟨rfl, rfl, rfl, by decide +kernel, rfl, by decide +kernel, by decide +kernel⟩
abbrev s_law_rule_is : Stmt := top 38
theorem sc_law_rule_is : FnScope ["_law_hill_here", "_law_thing", "_law_word", "_law_many", "_law_good"] ["_law_hill_here", "_law_thing"] (defScope s_law_rule_is) := ⟨rfl, rfl, rfl, by decide +kernel, rfl, by decide +kernel, by decide +kernel⟩
abbrev s_law_rules_is : Stmt := top 39
theorem sc_law_rules_is : FnScope ["_law_hill_here", "_law_thing"] ["_law_hill_here", "_law_thing"] (defScope s_law_rules_is) := ⟨rfl, rfl, rfl, by decide +kernel, rfl, by decide +kernel, by decide +kernel⟩
abbrev s_law_page_is : Stmt := top 40
theorem sc_law_page_is : FnScope ["_law_hill_here", "_law_thing", "_law_word", "_law_many"] ["_law_hill_here", "_law_thing"] (defScope s_law_page_is) := ⟨rfl, rfl, rfl, by decide +kernel, rfl, by decide +kernel, by decide +kernel⟩
abbrev s_law_book_is : Stmt := top 41
theorem sc_law_book_is : FnScope ["_law_hill_here", "_law_thing", "_law_k", "_law_other"] ["_law_hill_here", "_law_thing"] (defScope s_law_book_is) := ⟨rfl, rfl, rfl, by decide +kernel, rfl, by decide +kernel, by decide +kernel⟩
abbrev s_law_bent : Stmt := top 42
theorem sc_law_bent : FnScope ["_law_bag_here", "_law_hill_here", "_law_book", "_law_way", "_law_at", "_law_to", "_law_one", "_law_other", "_law_some", "_law_odd"] ["_law_bag_here", "_law_hill_here", "_law_book"] (defScope s_law_bent) := ⟨rfl, rfl, rfl, by decide +kernel, rfl, by decide +kernel, by decide +kernel⟩
abbrev s_law : Stmt := top 43
theorem sc_law : FnScope ["_law_script", "_law_bag_here", "_law_turn", "_law_hill_here", "_law_pages_here", "_law_book", "_law_thing", "_law_found"] ["_law_script"] (defScope s_law) := ⟨rfl, rfl, rfl, by decide +kernel, rfl, by decide +kernel, by decide +kernel⟩
structure Txt (K : PySem.W.Frag) (mg : Str → Option Value) (a_is_whole a_is_within a_is_name a_way_named a_is_way_name a_is_slope_name a_is_hours a_begins_with_text a_is_rule a_is_rules a_is_page a_book_of a_is_book awbag awdraw awany awlabel awlabels awpace awhill awmoment awrule awrules awslopes awpage awpages awname_is awwhole_is awof_way awnumber_is awrule_is awrules_is awpage_is awbook_is awbent a_law cb_book_of tb_book_of cb_law tb_law : Addr) (d_is_whole d_is_within d_is_name d_way_named d_is_way_name d_is_slope_name d_is_hours d_begins_with_text d_is_rule d_is_rules d_is_page d_book_of d_is_book dwbag dwdraw dwany dwlabel dwlabels dwpace dwhill dwmoment dwrule dwrules dwslopes dwpage dwpages dwname_is dwwhole_is dwof_way dwnumber_is dwrule_is dwrules_is dwpage_is dwbook_is dwbent d_law : FuncData) : Prop where
  F_is_whole : Fun K "is_whole" "is_whole" s_is_whole a_is_whole d_is_whole
  m_is_whole : mg "is_whole" = some (.ref a_is_whole)
  b_is_whole : Binds K d_is_whole ["thing"] []
  F_is_within : Fun K "is_within" "is_within" s_is_within a_is_within d_is_within
  m_is_within : mg "is_within" = some (.ref a_is_within)
  b_is_within : Binds K d_is_within ["thing", "low", "high"] []
  F_is_name : Fun K "is_name" "is_name" s_is_name a_is_name d_is_name
  m_is_name : mg "is_name" = some (.ref a_is_name)
  b_is_name : Binds K d_is_name ["thing"] []
  F_way_named : Fun K "way_named" "way_named" s_way_named a_way_named d_way_named
  m_way_named : mg "way_named" = some (.ref a_way_named)
  b_way_named : Binds K d_way_named ["hill", "name"] []
  F_is_way_name : Fun K "is_way_name" "is_way_name" s_is_way_name a_is_way_name d_is_way_name
  m_is_way_name : mg "is_way_name" = some (.ref a_is_way_name)
  b_is_way_name : Binds K d_is_way_name ["hill", "thing"] []
  F_is_slope_name : Fun K "is_slope_name" "is_slope_name" s_is_slope_name a_is_slope_name d_is_slope_name
  m_is_slope_name : mg "is_slope_name" = some (.ref a_is_slope_name)
  b_is_slope_name : Binds K d_is_slope_name ["hill", "thing"] []
  F_is_hours : Fun K "is_hours" "is_hours" s_is_hours a_is_hours d_is_hours
  m_is_hours : mg "is_hours" = some (.ref a_is_hours)
  b_is_hours : Binds K d_is_hours ["a", "b"] []
  F_begins_with_text : Fun K "begins_with_text" "begins_with_text" s_begins_with_text a_begins_with_text d_begins_with_text
  m_begins_with_text : mg "begins_with_text" = some (.ref a_begins_with_text)
  b_begins_with_text : Binds K d_begins_with_text ["thing"] []
  F_is_rule : Fun K "is_rule" "is_rule" s_is_rule a_is_rule d_is_rule
  m_is_rule : mg "is_rule" = some (.ref a_is_rule)
  b_is_rule : Binds K d_is_rule ["hill", "thing"] []
  F_is_rules : Fun K "is_rules" "is_rules" s_is_rules a_is_rules d_is_rules
  m_is_rules : mg "is_rules" = some (.ref a_is_rules)
  b_is_rules : Binds K d_is_rules ["hill", "thing"] []
  F_is_page : Fun K "is_page" "is_page" s_is_page a_is_page d_is_page
  m_is_page : mg "is_page" = some (.ref a_is_page)
  b_is_page : Binds K d_is_page ["hill", "thing"] []
  F_book_of : Fun K "book_of" "book_of" s_book_of a_book_of d_book_of
  m_book_of : mg "book_of" = some (.ref a_book_of)
  b_book_of : Binds K d_book_of ["pages"] []
  F_is_book : Fun K "is_book" "is_book" s_is_book a_is_book d_is_book
  m_is_book : mg "is_book" = some (.ref a_is_book)
  b_is_book : Binds K d_is_book ["hill", "thing"] []
  F_law_bag : Fun K "_law_bag" "_law_bag" s_law_bag awbag dwbag
  m_law_bag : mg "_law_bag" = some (.ref awbag)
  b_law_bag : Binds K dwbag ["_law_script"] []
  F_law_draw : Fun K "_law_draw" "_law_draw" s_law_draw awdraw dwdraw
  m_law_draw : mg "_law_draw" = some (.ref awdraw)
  b_law_draw : Binds K dwdraw ["_law_bag_here", "_law_many"] []
  F_law_any : Fun K "_law_any" "_law_any" s_law_any awany dwany
  m_law_any : mg "_law_any" = some (.ref awany)
  b_law_any : Binds K dwany ["_law_bag_here", "_law_some"] []
  F_law_label : Fun K "_law_label" "_law_label" s_law_label awlabel dwlabel
  m_law_label : mg "_law_label" = some (.ref awlabel)
  b_law_label : Binds K dwlabel ["_law_bag_here"] []
  F_law_labels : Fun K "_law_labels" "_law_labels" s_law_labels awlabels dwlabels
  m_law_labels : mg "_law_labels" = some (.ref awlabels)
  b_law_labels : Binds K dwlabels ["_law_bag_here", "_law_many"] []
  F_law_pace : Fun K "_law_pace" "_law_pace" s_law_pace awpace dwpace
  m_law_pace : mg "_law_pace" = some (.ref awpace)
  b_law_pace : Binds K dwpace ["_law_bag_here", "_law_scale"] []
  F_law_hill : Fun K "_law_hill" "_law_hill" s_law_hill awhill dwhill
  m_law_hill : mg "_law_hill" = some (.ref awhill)
  b_law_hill : Binds K dwhill ["_law_bag_here"] []
  F_law_moment : Fun K "_law_moment" "_law_moment" s_law_moment awmoment dwmoment
  m_law_moment : mg "_law_moment" = some (.ref awmoment)
  b_law_moment : Binds K dwmoment ["_law_bag_here", "_law_hill_here"] []
  F_law_rule : Fun K "_law_rule" "_law_rule" s_law_rule awrule dwrule
  m_law_rule : mg "_law_rule" = some (.ref awrule)
  b_law_rule : Binds K dwrule ["_law_bag_here", "_law_hill_here"] []
  F_law_rules : Fun K "_law_rules" "_law_rules" s_law_rules awrules dwrules
  m_law_rules : mg "_law_rules" = some (.ref awrules)
  b_law_rules : Binds K dwrules ["_law_bag_here", "_law_hill_here"] []
  F_law_slopes : Fun K "_law_slopes" "_law_slopes" s_law_slopes awslopes dwslopes
  m_law_slopes : mg "_law_slopes" = some (.ref awslopes)
  b_law_slopes : Binds K dwslopes ["_law_hill_here"] []
  F_law_page : Fun K "_law_page" "_law_page" s_law_page awpage dwpage
  m_law_page : mg "_law_page" = some (.ref awpage)
  b_law_page : Binds K dwpage ["_law_bag_here", "_law_hill_here", "_law_number"] []
  F_law_pages : Fun K "_law_pages" "_law_pages" s_law_pages awpages dwpages
  m_law_pages : mg "_law_pages" = some (.ref awpages)
  b_law_pages : Binds K dwpages ["_law_bag_here", "_law_hill_here", "_law_many"] []
  F_law_name_is : Fun K "_law_name_is" "_law_name_is" s_law_name_is awname_is dwname_is
  m_law_name_is : mg "_law_name_is" = some (.ref awname_is)
  b_law_name_is : Binds K dwname_is ["_law_thing"] []
  F_law_whole_is : Fun K "_law_whole_is" "_law_whole_is" s_law_whole_is awwhole_is dwwhole_is
  m_law_whole_is : mg "_law_whole_is" = some (.ref awwhole_is)
  b_law_whole_is : Binds K dwwhole_is ["_law_thing", "_law_low", "_law_high"] []
  F_law_of_way : Fun K "_law_of_way" "_law_of_way" s_law_of_way awof_way dwof_way
  m_law_of_way : mg "_law_of_way" = some (.ref awof_way)
  b_law_of_way : Binds K dwof_way ["_law_hill_here", "_law_thing"] []
  F_law_number_is : Fun K "_law_number_is" "_law_number_is" s_law_number_is awnumber_is dwnumber_is
  m_law_number_is : mg "_law_number_is" = some (.ref awnumber_is)
  b_law_number_is : Binds K dwnumber_is ["_law_thing"] []
  F_law_rule_is : Fun K "_law_rule_is" "_law_rule_is" s_law_rule_is awrule_is dwrule_is
  m_law_rule_is : mg "_law_rule_is" = some (.ref awrule_is)
  b_law_rule_is : Binds K dwrule_is ["_law_hill_here", "_law_thing"] []
  F_law_rules_is : Fun K "_law_rules_is" "_law_rules_is" s_law_rules_is awrules_is dwrules_is
  m_law_rules_is : mg "_law_rules_is" = some (.ref awrules_is)
  b_law_rules_is : Binds K dwrules_is ["_law_hill_here", "_law_thing"] []
  F_law_page_is : Fun K "_law_page_is" "_law_page_is" s_law_page_is awpage_is dwpage_is
  m_law_page_is : mg "_law_page_is" = some (.ref awpage_is)
  b_law_page_is : Binds K dwpage_is ["_law_hill_here", "_law_thing"] []
  F_law_book_is : Fun K "_law_book_is" "_law_book_is" s_law_book_is awbook_is dwbook_is
  m_law_book_is : mg "_law_book_is" = some (.ref awbook_is)
  b_law_book_is : Binds K dwbook_is ["_law_hill_here", "_law_thing"] []
  F_law_bent : Fun K "_law_bent" "_law_bent" s_law_bent awbent dwbent
  m_law_bent : mg "_law_bent" = some (.ref awbent)
  b_law_bent : Binds K dwbent ["_law_bag_here", "_law_hill_here", "_law_book"] []
  F_law : Fun K "law" "law" s_law a_law d_law
  m_law : mg "law" = some (.ref a_law)
  b_law : Binds K d_law ["_law_script"] []
  m_len : mg "len" = none
  m_abs : mg "abs" = none
  m_all : mg "all" = none
  m_isinstance : mg "isinstance" = none
  m_list : mg "list" = none
  m_range : mg "range" = none
  m_str : mg "str" = none
  m_bool : mg "bool" = none
  m_int : mg "int" = none
  m_tuple : mg "tuple" = none
  m_max : mg "max" = none
  m_min : mg "min" = none
  m_sorted : mg "sorted" = none
  e_MOST_LETTERS : ∃ t, mg "MOST_LETTERS" = some (.int 8 t)
  e_MOST_HOUR : ∃ t, mg "MOST_HOUR" = some (.int 1000001 t)
  e_MOST_LOOKED : ∃ t, mg "MOST_LOOKED" = some (.int 1000000 t)
  e_MOST_RULES : ∃ t, mg "MOST_RULES" = some (.int 6 t)
  e_MOST_NUMBER : ∃ t, mg "MOST_NUMBER" = some (.int 999999 t)
  L_book_of : FunC K "book_of" "book_of" s_book_of a_book_of d_book_of cb_book_of tb_book_of
  L_law : FunC K "law" "law" s_law a_law d_law cb_law tb_law
  ne_book_of_law : tb_book_of ≠ tb_law
  ne_law_book_of : tb_law ≠ tb_book_of
abbrev famT (tb_book_of tb_law : Addr) (K : PySem.W.Frag) : Fam := famTab K [(tb_book_of, (("book_of" : Str) ++ ".<locals>." ++ "<lambda>")), (tb_law, (("law" : Str) ++ ".<locals>." ++ "<lambda>"))]
theorem pow_ok {i : Int} (h0 : 0 ≤ i) (h1 : i < 2 ^ 80) : (0 : Int) ≤ 3 ∧ (Builtin.Int.intBits i : Int) * 3 ≤ 2 ^ 27 := by
  have h2 : i.natAbs < 2 ^ 80 := by
    have e : (2 : Int) ^ 80 = ((2 ^ 80 : Nat) : Int) := by decide
    rw [e] at h1
    omega
  have := intBits_le h2
  refine ⟨by decide, ?_⟩
  have e : (2 : Int) ^ 27 = 134217728 := by decide
  rw [e]
  omega
theorem mul_small {i j : Int} (h0 : 0 ≤ j) (h1 : j < 2 ^ 63) : CMul i j := by
  have e : (2 : Int) ^ 63 = 9223372036854775808 := by decide
  have e2 : (2 : Int) ^ 64 = 18446744073709551616 := by decide
  rw [e] at h1
  exact .inr ⟨by rw [e2]; omega, by rw [e2]; omega⟩
theorem mul_smallL {i j : Int} (h0 : 0 ≤ i) (h1 : i < 2 ^ 63) : CMul i j := by
  have e : (2 : Int) ^ 63 = 9223372036854775808 := by decide
  have e2 : (2 : Int) ^ 64 = 18446744073709551616 := by decide
  rw [e] at h1
  exact .inl ⟨by rw [e2]; omega, by rw [e2]; omega⟩
theorem lt80 {i : Int} (h : i < 1208925819614629174706176) : i < 2 ^ 80 := by
  have e : (2 : Int) ^ 80 = 1208925819614629174706176 := by decide
  rw [e]; exact h
theorem ok_draw {P : Program} {w : World} {K : PySem.W.Frag} {mg : Str → Option Value} {base : Heap} {a_is_whole a_is_within a_is_name a_way_named a_is_way_name a_is_slope_name a_is_hours a_begins_with_text a_is_rule a_is_rules a_is_page a_book_of a_is_book awbag awdraw awany awlabel awlabels awpace awhill awmoment awrule awrules awslopes awpage awpages awname_is awwhole_is awof_way awnumber_is awrule_is awrules_is awpage_is awbook_is awbent a_law cb_book_of tb_book_of cb_law tb_law : Addr} {d_is_whole d_is_within d_is_name d_way_named d_is_way_name d_is_slope_name d_is_hours d_begins_with_text d_is_rule d_is_rules d_is_page d_book_of d_is_book dwbag dwdraw dwany dwlabel dwlabels dwpace dwhill dwmoment dwrule dwrules dwslopes dwpage dwpages dwname_is dwwhole_is dwof_way dwnumber_is dwrule_is dwrules_is dwpage_is dwbook_is dwbent d_law : FuncData} (T : Txt K mg a_is_whole a_is_within a_is_name a_way_named a_is_way_name a_is_slope_name a_is_hours a_begins_with_text a_is_rule a_is_rules a_is_page a_book_of a_is_book awbag awdraw awany awlabel awlabels awpace awhill awmoment awrule awrules awslopes awpage awpages awname_is awwhole_is awof_way awnumber_is awrule_is awrules_is awpage_is awbook_is awbent a_law cb_book_of tb_book_of cb_law tb_law d_is_whole d_is_within d_is_name d_way_named d_is_way_name d_is_slope_name d_is_hours d_begins_with_text d_is_rule d_is_rules d_is_page d_book_of d_is_book dwbag dwdraw dwany dwlabel dwlabels dwpace dwhill dwmoment dwrule dwrules dwslopes dwpage dwpages dwname_is dwwhole_is dwof_way dwnumber_is dwrule_is dwrules_is dwpage_is dwbook_is dwbent d_law) : FnOk P w K mg base CX0 1 awdraw dwdraw ["_law_bag_here", "_law_many"] spDraw := by
  refine T.F_law_draw.ok sc_law_draw (fun vs H Q E h => ?_) (fun cdv A outer s H vs Q E hr h => ?_)
  · obtain ⟨a, c, n, m, rfl, _⟩ := h
    rfl
  obtain ⟨a, c, n, m, rfl, bag, hn, hm0, hm1, q⟩ := h
  have hu0 := Nat.lt_of_succ_lt (hu_of hr)
  obtain ⟨p, k, sd, cells, e1, e2, p0, k0, s0, s1, c0, cl⟩ := bag.ex
  have hca : c ≠ a := bag.ne
  have bagOk : ∀ p' k' sd' : Int, 0 ≤ p' → 0 ≤ k' → 0 ≤ sd' → sd' < 2305843009213693951 → Bag (upd H a (.lst [.int p', .int k', .int ((n : Int) + 1), .int sd', .ref c])) a c (n + 1) := fun p' k' sd' h1 h2 h3 h4 =>
    ⟨p', k', sd', cells, by rw [upd_same]; rfl, by rw [upd_ne hca]; exact e2, h1, h2, h3, h4, c0, cl⟩
  have tail : ∃ t, PSs (cxOf CX0 P w K mg base ["_law_bag_here", "_law_many", "_law_cell", "_law_digit", "_law_one", "_law_two"] "_law_draw" (defScope s_law_draw) awdraw cdv A outer s H E).nox ((defBody s_law_draw).drop 2) t ∧ ∀ (v2 : Option V) (p' k' sd' : Int), 0 ≤ p' → 0 ≤ k' → 0 ≤ sd' → sd' < 2305843009213693951 →
      t { nx := fun _ H' => Q .non H', rt := Q } [some (.ref a), some (.int m), v2, none, none, none] (upd H a (.lst [.int p', .int k', .int ((n : Int) + 1), .int sd', .ref c])) := by
    refine ⟨_, (pss_cons (ps_if (pt_cmpR op_gt (pe_ix ix_list (pv 0) pe_int (fun _ _ => rfl)) pe_int (nomark _)) (pss_cons (ps_set (i := 3) sc_law_draw.nd rfl (Or.inl rfl) (pe_op op_mod (pe_ix ix_list (pv 0) pe_int (fun _ _ => rfl)) (pv 1)))
    (pss_cons (ps_asg (pe_op op_fdiv (pe_ix ix_list (pv 0) pe_int (fun _ _ => rfl)) (pv 1)) (pg_sub (pv 0) pe_int set_list))
    (pss_one (ps_ret (pv 3))))) pss_nil)
    (pss_cons (ps_set (i := 4) sc_law_draw.nd rfl (Or.inl rfl) (pe_op op_mod (pe_op op_powB (pe_op op_add (pe_ix ix_list (pv 0) pe_int (fun _ _ => rfl)) (pe_op op_mul pe_int (pe_ix ix_list (pv 0) pe_int (fun _ _ => rfl)))) pe_int) pe_int))
    (pss_cons (ps_set (i := 5) sc_law_draw.nd rfl (Or.inl rfl) (pe_op op_mod (pe_op op_mul (pe_op op_add (pv 4) (pe_op op_mul pe_int (pe_ix ix_list (pv 0) pe_int (fun _ _ => rfl)))) (pe_op op_add (pe_op op_mod (pv 4) pe_int) pe_int)) pe_int))
    (pss_one (ps_ret (pe_op op_mod (pe_op op_add (pe_op op_fdiv (pv 5) pe_int) (pe_op op_fdiv (pv 5) pe_int)) (pv 1))))))), fun v2 p' k' sd' h1 h2 h3 h4 => ?_⟩
    refine ⟨_, rfl, a, _, _, _, rfl, rfl, SqL.of upd_same, rfl, _, _, rfl, rfl, _, rfl, ?_⟩
    refine ite2 (fun c1 => ?_) (fun c1 => ?_)
    · refine ⟨_, rfl, a, _, _, _, rfl, rfl, SqL.of upd_same, rfl, _, rfl, _, _, rfl, rfl, hm0, ?_⟩
      refine ⟨_, rfl, a, _, _, _, rfl, rfl, SqL.of upd_same, rfl, _, rfl, _, _, rfl, rfl, ⟨hm0, by omega⟩, ?_⟩
      refine ⟨_, rfl, a, _, _, _, rfl, rfl, upd_same, rfl, ?_⟩
      refine ⟨_, rfl, ?_⟩
      rw [upd_upd]
      exact q _ _ (Int.emod_nonneg _ (by omega)) (Int.emod_lt_of_pos _ hm0) (bagOk _ _ _ (Int.ediv_nonneg h1 (by omega)) h2 h3 h4)
    · have hn' : (n : Int) < 1000000 := by omega
      have n0 : (0 : Int) ≤ n := Int.natCast_nonneg _
      refine ⟨_, rfl, a, _, _, _, rfl, rfl, SqL.of upd_same, rfl, _, rfl, a, _, _, _, rfl, rfl, SqL.of upd_same, rfl, _, _, rfl, rfl, mul_smallL (by decide) (by decide), _, _, rfl, rfl, _, _, rfl, rfl, pow_ok (by omega) (lt80 (by omega)), _, _, rfl, rfl, (by show (0 : Int) < _; decide), ?_⟩
      refine ⟨_, rfl, _, rfl, a, _, _, _, rfl, rfl, SqL.of upd_same, rfl, _, _, rfl, rfl, mul_smallL (by decide) (by decide), _, _, rfl, rfl, _, rfl, _, _, rfl, rfl, (by show (0 : Int) < _; decide), _, _, rfl, rfl, _, _, rfl, rfl, mul_small ?_ ?_, _, _, rfl, rfl, (by show (0 : Int) < _; decide), ?_⟩
      · have := Int.emod_nonneg (((sd' + 67867967 * ((n : Int) + 1)) ^ (3 : Int).toNat) % 2305843009213693907) (show (122949823 : Int) ≠ 0 by decide)
        omega
      · have := Int.emod_lt_of_pos (((sd' + 67867967 * ((n : Int) + 1)) ^ (3 : Int).toNat) % 2305843009213693907) (show (0 : Int) < 122949823 by decide)
        have e : (2 : Int) ^ 63 = 9223372036854775808 := by decide
        rw [e]
        omega
      · refine ⟨_, rfl, _, _, rfl, rfl, ⟨by decide, by decide⟩, _, rfl, _, _, rfl, rfl, ⟨by decide, by decide⟩, _, _, rfl, rfl, _, rfl, _, _, rfl, rfl, hm0, ?_⟩
        exact q _ _ (Int.emod_nonneg _ (by omega)) (Int.emod_lt_of_pos _ hm0) (bagOk _ _ _ h1 h2 h3 h4)
  obtain ⟨tt, dt, ht⟩ := tail
  refine ⟨_, (pss_cons (ps_asg (pe_op op_add (pe_ix ix_list (pv 0) pe_int (fun _ _ => rfl)) pe_int) (pg_sub (pv 0) pe_int set_list))
    (pss_cons (ps_if (PW.pt (pw_and (pt_cmpR op_eq (pe_ix ix_list (pv 0) pe_int (fun _ _ => rfl)) pe_int (nomark _)) (pw_and1 (pt_cmpR op_lt (pe_ix ix_list (pv 0) pe_int (fun _ _ => rfl)) (pe_callB call_len rfl T.m_len PySem.boot_len (pa_cons (pe_ix ix_list (pv 0) pe_int (fun _ _ => rfl)) pa_nil)) (nomark _))))) (pss_cons (ps_set (i := 2) sc_law_draw.nd rfl (Or.inl rfl) (pe_ix ix_list (pe_ix ix_list (pv 0) pe_int (fun _ _ => rfl)) (pe_ix ix_list (pv 0) pe_int (fun _ _ => rfl)) (fun _ _ => rfl)))
    (pss_cons (ps_asg (pe_op op_add (pe_ix ix_list (pv 0) pe_int (fun _ _ => rfl)) pe_int) (pg_sub (pv 0) pe_int set_list))
    (pss_cons (ps_asg (pe_op op_mod (pe_op op_powB (pe_op op_add (pe_op op_add (pe_op op_mul (pe_ix ix_list (pv 0) pe_int (fun _ _ => rfl)) pe_int) (pe_op op_mod (pv 2) pe_int)) pe_int) pe_int) pe_int) (pg_sub (pv 0) pe_int set_list))
    (pss_one (ps_asg (pe_ifExp (pt_cmpR op_ge (pv 2) (pe_op op_powB pe_int pe_int) (nomark _)) (pv 2) pe_int) (pg_sub (pv 0) pe_int set_list)))))) pss_nil)
    dt)), ?_⟩
  refine ⟨_, rfl, a, _, _, _, rfl, rfl, SqL.of e1, rfl, _, _, rfl, rfl, _, rfl, a, _, _, _, rfl, rfl, e1, rfl, ?_⟩
  refine ⟨_, rfl, a, _, _, _, rfl, rfl, SqL.of upd_same, rfl, rfl, _, rfl, ?_⟩
  refine ite2 (fun c1 => ?_) (fun c1 => ?_)
  · refine ⟨_, rfl, a, _, _, _, rfl, rfl, SqL.of upd_same, rfl, _, rfl, a, _, _, _, rfl, rfl, SqL.of upd_same, rfl, _, cells.length, rfl, .inl ⟨_, SqL.of (by rw [upd_ne hca]; exact e2), by simp⟩, _, _, rfl, rfl, _, rfl, ?_⟩
    refine ite2 (fun c2 => ?_) (fun c2 => ?_)
    · have hk : k < (cells.length : Int) := of_decide_eq_true c2
      have hkn : k.toNat < cells.length := by omega
      have ek : k = ((k.toNat : Nat) : Int) := by omega
      have hx : atI (cells.map V.int) k = some (.int cells[k.toNat]) := by
        have q' : atI (cells.map V.int) ((k.toNat : Nat) : Int) = some (.int cells[k.toNat]) := atI_nat (by rw [List.getElem?_map, List.getElem?_eq_getElem hkn]; rfl)
        rw [← ek] at q'; exact q'
      have hx0 : 0 ≤ cells[k.toNat] := c0 _ (List.getElem_mem hkn)
      generalize cells[k.toNat] = x at hx hx0
      refine ⟨_, rfl, a, _, _, _, rfl, rfl, SqL.of upd_same, rfl, _, rfl, a, _, _, _, rfl, rfl, SqL.of upd_same, rfl, c, _, _, _, rfl, rfl, SqL.of (by rw [upd_ne hca]; exact e2), hx, ?_⟩
      refine ⟨_, rfl, a, _, _, _, rfl, rfl, SqL.of upd_same, rfl, _, _, rfl, rfl, _, rfl, a, _, _, _, rfl, rfl, upd_same, rfl, ?_⟩
      have r0 := Int.emod_nonneg x (show (2305843009213693921 : Int) ≠ 0 by decide)
      have r1 := Int.emod_lt_of_pos x (show (0 : Int) < 2305843009213693921 by decide)
      refine ⟨_, rfl, a, _, _, _, rfl, rfl, SqL.of upd_same, rfl, _, _, rfl, rfl, mul_small (by decide) (by decide), _, rfl, _, _, rfl, rfl, (by show (0 : Int) < _; decide), _, _, rfl, rfl, _, _, rfl, rfl, _, _, rfl, rfl, pow_ok (by omega) (lt80 (by omega)), _, _, rfl, rfl, (by show (0 : Int) < _; decide), ?_⟩
      refine ⟨_, rfl, a, _, _, _, rfl, rfl, upd_same, rfl, ?_⟩
      have m0 := Int.emod_nonneg ((sd * 7 + x % 2305843009213693921 + 65537) ^ (3 : Int).toNat) (show (2305843009213693951 : Int) ≠ 0 by decide)
      have m1 := Int.emod_lt_of_pos ((sd * 7 + x % 2305843009213693921 + 65537) ^ (3 : Int).toNat) (show (0 : Int) < 2305843009213693951 by decide)
      refine ⟨_, rfl, _, _, rfl, rfl, ⟨by decide, by decide⟩, _, _, rfl, rfl, _, rfl, ?_⟩
      refine ite2 (fun c3 => ?_) (fun c3 => ?_)
      · refine ⟨_, rfl, _, rfl, a, _, _, _, rfl, rfl, upd_same, rfl, ?_⟩
        simp only [upd_upd]
        exact ht _ _ _ _ hx0 (by omega) m0 m1
      · refine ⟨_, rfl, a, _, _, _, rfl, rfl, upd_same, rfl, ?_⟩
        simp only [upd_upd]
        exact ht _ _ _ _ (Int.le_refl 0) (by omega) m0 m1
    · exact ht _ _ _ _ p0 k0 s0 s1
  · exact ht _ _ _ _ p0 k0 s0 s1
theorem cut60 (ns : List Int) : cutV (ns.map V.int) none (some 60) = (ns.take 60).map V.int := by
  unfold cutV
  rw [HT.sIx_none]
  have e : HT.sIx (ns.map V.int).length (ns.map V.int).length (some 60) = min 60 (ns.map V.int).length := HT.sIx_nat _ _ 60
  rw [e, List.drop_zero, Nat.sub_zero, List.length_map, ← List.map_take]
  congr 1
  rw [List.take_eq_take_iff]
  omega
theorem ok_bag {P : Program} {w : World} {K : PySem.W.Frag} {mg : Str → Option Value} {base : Heap} {a_is_whole a_is_within a_is_name a_way_named a_is_way_name a_is_slope_name a_is_hours a_begins_with_text a_is_rule a_is_rules a_is_page a_book_of a_is_book awbag awdraw awany awlabel awlabels awpace awhill awmoment awrule awrules awslopes awpage awpages awname_is awwhole_is awof_way awnumber_is awrule_is awrules_is awpage_is awbook_is awbent a_law cb_book_of tb_book_of cb_law tb_law : Addr} {d_is_whole d_is_within d_is_name d_way_named d_is_way_name d_is_slope_name d_is_hours d_begins_with_text d_is_rule d_is_rules d_is_page d_book_of d_is_book dwbag dwdraw dwany dwlabel dwlabels dwpace dwhill dwmoment dwrule dwrules dwslopes dwpage dwpages dwname_is dwwhole_is dwof_way dwnumber_is dwrule_is dwrules_is dwpage_is dwbook_is dwbent d_law : FuncData} (T : Txt K mg a_is_whole a_is_within a_is_name a_way_named a_is_way_name a_is_slope_name a_is_hours a_begins_with_text a_is_rule a_is_rules a_is_page a_book_of a_is_book awbag awdraw awany awlabel awlabels awpace awhill awmoment awrule awrules awslopes awpage awpages awname_is awwhole_is awof_way awnumber_is awrule_is awrules_is awpage_is awbook_is awbent a_law cb_book_of tb_book_of cb_law tb_law d_is_whole d_is_within d_is_name d_way_named d_is_way_name d_is_slope_name d_is_hours d_begins_with_text d_is_rule d_is_rules d_is_page d_book_of d_is_book dwbag dwdraw dwany dwlabel dwlabels dwpace dwhill dwmoment dwrule dwrules dwslopes dwpage dwpages dwname_is dwwhole_is dwof_way dwnumber_is dwrule_is dwrules_is dwpage_is dwbook_is dwbent d_law) : FnOk P w K mg base CX0 1 awbag dwbag ["_law_script"] (spBag K) := by
  refine T.F_law_bag.ok sc_law_bag (fun vs H Q E h => ?_) (fun cdv A outer s H vs Q E hr h => ?_)
  · obtain ⟨a, ns, rfl, _⟩ := h
    rfl
  obtain ⟨a, ns, rfl, hS, h63, q⟩ := h
  have hu0 := Nat.lt_of_succ_lt (hu_of hr)
  refine ⟨_, (pss_cons (ps_asg (pe_tup (pa_cons (pe_op op_mulB (pe_op op_mulB (pe_op op_mulB (pe_op op_mulB (pe_op op_powB pe_int pe_int) (pe_op op_powB pe_int pe_int)) (pe_op op_powB pe_int pe_int)) (pe_op op_powB pe_int pe_int)) (pe_op op_powB pe_int pe_int)) (pa_cons pe_int pa_nil))) (pg_tup rfl (pgs_cons (pg_name (i := 1) sc_law_bag.nd rfl (Or.inr rfl)) (pgs_cons (pg_name (i := 2) sc_law_bag.nd rfl (Or.inl rfl)) pgs_nil))))
    (pss_cons (ps_for PassesOwn.never rfl (pi_list (pe_slice sl_list (pv 0) po_none (po_some pe_int))) (pg_name (i := 3) sc_law_bag.nd rfl (Or.inl rfl)) (pss_one (ps_set (i := 2) sc_law_bag.nd rfl (Or.inl rfl) (pe_op op_mod (pe_op op_powB (pe_op op_add (pe_op op_add (pe_op op_mul (pv 2) pe_int) (pe_op op_mod (pv 3) pe_int)) pe_int) pe_int) pe_int))))
    (pss_one (ps_ret (pe_lst (pa_c pe_int (pa_c pe_int (pa_c pe_int (pa_c (pv 2) (pa_c (pe_lc (LcScope.mk2 (N := ["_law_cell", "_law_top"]) (js := [none, some 1]) (defScope s_law_bag) ["_law_script", "_law_top", "_law_seed", "_law_cell"] rfl rfl (by decide +kernel)) rfl (pi_list (pe_slice sl_list (pv 0) po_none (po_some pe_int))) (fun _ _ _ _ => (pg_name (i := 0) (by decide : (["_law_cell", "_law_top"] : List Str).Nodup) rfl (Or.inl rfl))) (fun _ _ _ _ => pts_nil) (fun _ _ _ _ => (pe_op op_mod (pe_callB call_abs rfl T.m_abs PyProof.Rows.boot_abs (pa_cons (pv 0) pa_nil)) (pv 1)))) pa_nil)))))))))), ?_⟩
  have b60 : ((0 : Int) ≤ 60) ∧ (Builtin.Int.intBits 10 : Int) * 60 ≤ 2 ^ 27 := by decide
  refine ⟨_, _, rfl, rfl, b60, _, _, rfl, rfl, b60, _, _, rfl, rfl, ?_, _, _, rfl, rfl, b60, _, _, rfl, rfl, ?_, _, _, rfl, rfl, b60, _, _, rfl, rfl, ?_, _, _, rfl, rfl, b60, _, _, rfl, rfl, ?_, (by show 2 ≤ sizeLine; decide), fun t ht => ?_⟩
  · exact IntMulOk.of_bits (by decide +kernel) (by decide +kernel)
  · exact IntMulOk.of_bits (by decide +kernel) (by decide +kernel)
  · exact IntMulOk.of_bits (by decide +kernel) (by decide +kernel)
  · exact IntMulOk.of_bits (by decide +kernel) (by decide +kernel)
  have hbig : ∃ big : Int, 0 < big ∧ big = 10 ^ (60 : Int).toNat * 10 ^ (60 : Int).toNat * 10 ^ (60 : Int).toNat * 10 ^ (60 : Int).toNat * 10 ^ (60 : Int).toNat := ⟨_, by decide +kernel, rfl⟩
  obtain ⟨big, topPos, eb⟩ := hbig
  refine ⟨t, [.int big, .int 271828183], rfl, SqT.of (by rw [eb]; exact upd_same), rfl, _, _, rfl, _, _, rfl, rfl, ?_⟩
  clear eb
  have g1 := same_new ht (.tup [(fun i j => V.int (i * j)) (10 ^ Int.toNat 60 * 10 ^ Int.toNat 60 * 10 ^ Int.toNat 60 * 10 ^ Int.toNat 60) (10 ^ Int.toNat 60), V.int 271828183])
  generalize upd H t (.tup _) = H1 at g1
  have c60 := cut60 ns
  have hl60 : ((ns.take 60).map V.int).length ≤ 60 := by rw [List.length_map, List.length_take]; omega
  refine ⟨_, rfl, 60, rfl, a, _, rfl, g1.seq hS, fun u hu => ?_⟩
  rw [c60]
  have g2 : Same H1 (upd H1 u (.lst ((ns.take 60).map V.int))) := same_new hu _
  have hu2 : upd H1 u (.lst ((ns.take 60).map V.int)) u = some (.lst ((ns.take 60).map V.int)) := upd_same
  generalize upd H1 u (.lst ((ns.take 60).map V.int)) = H2 at g2 hu2
  refine ⟨u, rfl, ⟨_, SqL.of hu2⟩, ?_⟩
  have isInt : ∀ (i : Nat) (x : V), ((ns.take 60).map V.int)[i]? = some x → ∃ y : Int, x = .int y := fun i x e => by
    have := List.mem_of_getElem? e
    obtain ⟨y, _, z⟩ := List.mem_map.mp this
    exact ⟨y, z.symm⟩
  refine for_list (xs := (ns.take 60).map V.int) (fun i σ H' => ∃ (sd : Int) (v3 : Option V), σ = [some (.ref a), some (.int big), some (.int sd), v3] ∧ H' = H2 ∧ 0 ≤ sd ∧ sd < 2305843009213693951) ⟨271828183, none, rfl, rfl, by decide, by decide⟩ ?_ ?_ ?_
  · rintro i σ H' _ ⟨sd, v3, _, rfl, _⟩
    exact SqL.of hu2
  · rintro i x σ H' hx ⟨sd, v3, rfl, rfl, s0, s1⟩
    obtain ⟨y, rfl⟩ := isInt i x hx
    have r0 := Int.emod_nonneg y (show (2305843009213693951 : Int) ≠ 0 by decide)
    have r1 := Int.emod_lt_of_pos y (show (0 : Int) < 2305843009213693951 by decide)
    refine ⟨_, rfl, _, _, rfl, rfl, mul_small (by decide) (by decide), _, rfl, _, _, rfl, rfl, (by show (0 : Int) < _; decide), _, _, rfl, rfl, _, _, rfl, rfl, _, _, rfl, rfl, pow_ok (by omega) (lt80 (by omega)), _, _, rfl, rfl, (by show (0 : Int) < _; decide), ?_⟩
    exact ⟨_, _, rfl, rfl, Int.emod_nonneg _ (by decide), Int.emod_lt_of_pos _ (by decide)⟩
  · rintro σ H' ⟨sd, v3, rfl, rfl, s0, s1⟩
    refine ⟨_, rfl, _, rfl, 60, rfl, a, _, rfl, g2.seq (g1.seq hS), fun u2 hu3 => ?_⟩
    rw [c60]
    have g3 := same_new hu3 (.lst ((ns.take 60).map V.int))
    have hu4 : upd H' u2 (.lst ((ns.take 60).map V.int)) u2 = some (.lst ((ns.take 60).map V.int)) := upd_same
    generalize upd H' u2 (.lst ((ns.take 60).map V.int)) = H3 at g3 hu4
    refine ⟨u2, rfl, ⟨_, SqL.of hu4⟩, fun D hD => ?_⟩
    refine lc_list (xs := (ns.take 60).map V.int) (fun i ys σ H' => ∃ (cells : List Int) (v0 : Option V), ys = cells.map V.int ∧ (∀ x ∈ cells, 0 ≤ x) ∧ cells.length ≤ i ∧ Same H3 H' ∧ σ = [v0, some (.int big)]) ?_ ?_ ?_ ?_ ?_
    · exact ⟨[], none, rfl, fun x hx => (nomatch hx), Nat.le_refl _, same_new hD _, rfl⟩
    · rintro i ys σ H' ⟨cells, v0, _, _, _, sm, _⟩
      exact SqL.of (sm _ _ hu4)
    · rintro i x ys σ H5 hx hl hD1 ⟨cells, v0, e, nn, cl, sm, rfl⟩ kt kf ht hf
      obtain ⟨y, rfl⟩ := isInt i x hx
      refine ⟨_, rfl, y, rfl, _, rfl, _, _, rfl, rfl, topPos, ht _ _ _ hD1 ?_⟩
      refine ⟨cells ++ [(if y < 0 then -y else y) % big], _, by rw [e, List.map_append]; rfl, fun x hx => ?_, by simp; omega, fun b o h => ?_, rfl⟩
      · rcases List.mem_append.mp hx with z | z
        · exact nn x z
        · rw [List.mem_singleton.mp z]
          exact Int.emod_nonneg _ (by omega)
      · rw [upd_ne (fun z => by rw [z, hD] at h; cases h)]
        exact sm _ _ h
    · omega
    · rintro ys σ H5 hD1 hl ⟨cells, v0, e, nn, cl, sm, rfl⟩
      refine ⟨(by show 5 ≤ sizeLine; decide), fun b hb => ?_⟩
      refine q b D _ (g1.trans (g2.trans (g3.trans (sm.trans (same_new hb _))))) ⟨0, 0, sd, cells, upd_same, ?_, Int.le_refl 0, Int.le_refl 0, s0, s1, nn, by omega⟩
      rw [upd_ne (ne_of_none hD1 hb), hD1, e]
def F_law_draw : List PV → M PV := drawF
def m_is_whole : PEnv → M Fl := (retP (andV (fun ρ => ((fun ρ => getV ρ 0) ρ).bind (isiO "int")) (notV (fun ρ => ((fun ρ => getV ρ 0) ρ).bind (isiO "bool")))))
def F_is_whole : List PV → M PV := fnP 1 1 m_is_whole
noncomputable def m_is_within : PEnv → M Fl := (retP (andV (fun ρ => ((consA (fun ρ => getV ρ 0) (fun _ => M.ret [])) ρ).bind F_is_whole) (chain leOD leOD (fun ρ => getV ρ 1) (fun ρ => getV ρ 0) (fun ρ => getV ρ 2))))
def F_is_within : List PV → M PV := fnP 3 3 m_is_within
noncomputable def m_is_name : PEnv → M Fl := (seqP (ifP (orP (notP (asB (fun ρ => ((fun ρ => getV ρ 0) ρ).bind (isiO "str")))) (notP (asB (chain leOD leOD (fun _ => M.ret (.int 1)) (fun ρ => ((consA (fun ρ => getV ρ 0) (fun _ => M.ret [])) ρ).bind lenO) (fun _ => M.ret (.int 8))))))
    (retP (fun _ => M.ret (.bl false)))
    (fun ρ => M.ret (.nx ρ)))
    (retP (fun ρ => ((consA (lstV (mkLC [none] (fun ρ => ((fun ρ => getV ρ 0) ρ).bind iterO) (bindN 0) allTs (chain leOD leOD (fun _ => M.ret (.str "a")) (fun ρ => getV ρ 0) (fun _ => M.ret (.str "z"))))) (fun _ => M.ret [])) ρ).bind allO)))
def F_is_name : List PV → M PV := fnP 1 1 m_is_name
noncomputable def m_way_named : PEnv → M Fl := (seqP (mkFor (fun ρ => ((bin2 ixO (fun ρ => getV ρ 0) (fun _ => M.ret (.int 0))) ρ).bind iterO) (bindN 2)
    (ifP (asB (bin2 (eqO false) (bin2 ixO (fun ρ => getV ρ 2) (fun _ => M.ret (.int 0))) (fun ρ => getV ρ 1)))
    (retP (fun ρ => getV ρ 2))
    (fun ρ => M.ret (.nx ρ))))
    (retP (fun _ => M.ret .non)))
def F_way_named : List PV → M PV := fnP 2 3 m_way_named
noncomputable def m_is_way_name : PEnv → M Fl := (retP (andV (fun ρ => ((consA (fun ρ => getV ρ 1) (fun _ => M.ret [])) ρ).bind F_is_name) (bin2 (isO true) (fun ρ => ((consA (fun ρ => getV ρ 0) (consA (fun ρ => getV ρ 1) (fun _ => M.ret []))) ρ).bind F_way_named) (fun _ => M.ret .non))))
def F_is_way_name : List PV → M PV := fnP 2 2 m_is_way_name
noncomputable def m_is_slope_name : PEnv → M Fl := (retP (andV (fun ρ => ((consA (fun ρ => getV ρ 0) (consA (fun ρ => getV ρ 1) (fun _ => M.ret []))) ρ).bind F_is_way_name) (bin2 (eqO false) (bin2 ixO (fun ρ => ((consA (fun ρ => getV ρ 0) (consA (fun ρ => getV ρ 1) (fun _ => M.ret []))) ρ).bind F_way_named) (fun _ => M.ret (.int 1))) (fun _ => M.ret (.str "slope")))))
def F_is_slope_name : List PV → M PV := fnP 2 2 m_is_slope_name
noncomputable def m_is_hours : PEnv → M Fl := (retP (andV (fun ρ => ((consA (fun ρ => getV ρ 0) (consA (fun _ => M.ret (.int 0)) (consA (fun _ => M.ret (.int 1000001)) (fun _ => M.ret [])))) ρ).bind F_is_within) (andV (fun ρ => ((consA (fun ρ => getV ρ 1) (consA (fun _ => M.ret (.int 0)) (consA (fun _ => M.ret (.int 1000001)) (fun _ => M.ret [])))) ρ).bind F_is_within) (bin2 ltO (fun ρ => getV ρ 0) (fun ρ => getV ρ 1)))))
def F_is_hours : List PV → M PV := fnP 2 2 m_is_hours
noncomputable def m_begins_with_text : PEnv → M Fl := (retP (andV (fun ρ => ((fun ρ => getV ρ 0) ρ).bind (isiO "tuple")) (andV (bin2 gtO (fun ρ => ((consA (fun ρ => getV ρ 0) (fun _ => M.ret [])) ρ).bind lenO) (fun _ => M.ret (.int 0))) (fun ρ => ((bin2 ixO (fun ρ => getV ρ 0) (fun _ => M.ret (.int 0))) ρ).bind (isiO "str")))))
def F_begins_with_text : List PV → M PV := fnP 1 1 m_begins_with_text
noncomputable def m_is_rule : PEnv → M Fl := (seqP (ifP (notP (asB (fun ρ => ((consA (fun ρ => getV ρ 1) (fun _ => M.ret [])) ρ).bind F_begins_with_text)))
    (retP (fun _ => M.ret (.bl false)))
    (fun ρ => M.ret (.nx ρ)))
    (seqP (setP 2 (bin2 ixO (fun ρ => getV ρ 1) (fun _ => M.ret (.int 0))))
    (seqP (ifP (asB (bin2 (eqO false) (fun ρ => getV ρ 2) (fun _ => M.ret (.str "hours"))))
    (retP (andV (bin2 (eqO false) (fun ρ => ((consA (fun ρ => getV ρ 1) (fun _ => M.ret [])) ρ).bind lenO) (fun _ => M.ret (.int 3))) (fun ρ => ((consA (bin2 ixO (fun ρ => getV ρ 1) (fun _ => M.ret (.int 1))) (consA (bin2 ixO (fun ρ => getV ρ 1) (fun _ => M.ret (.int 2))) (fun _ => M.ret []))) ρ).bind F_is_hours)))
    (fun ρ => M.ret (.nx ρ)))
    (seqP (ifP (orP (asB (bin2 (eqO false) (fun ρ => getV ρ 2) (fun _ => M.ret (.str "least")))) (asB (bin2 (eqO false) (fun ρ => getV ρ 2) (fun _ => M.ret (.str "most")))))
    (retP (andV (bin2 (eqO false) (fun ρ => ((consA (fun ρ => getV ρ 1) (fun _ => M.ret [])) ρ).bind lenO) (fun _ => M.ret (.int 3))) (andV (fun ρ => ((consA (bin2 ixO (fun ρ => getV ρ 1) (fun _ => M.ret (.int 1))) (fun _ => M.ret [])) ρ).bind F_is_name) (fun ρ => ((consA (bin2 ixO (fun ρ => getV ρ 1) (fun _ => M.ret (.int 2))) (fun _ => M.ret [])) ρ).bind F_is_whole))))
    (fun ρ => M.ret (.nx ρ)))
    (seqP (ifP (asB (bin2 (eqO false) (fun ρ => getV ρ 2) (fun _ => M.ret (.str "looked"))))
    (retP (andV (bin2 (eqO false) (fun ρ => ((consA (fun ρ => getV ρ 1) (fun _ => M.ret [])) ρ).bind lenO) (fun _ => M.ret (.int 2))) (fun ρ => ((consA (bin2 ixO (fun ρ => getV ρ 1) (fun _ => M.ret (.int 1))) (consA (fun _ => M.ret (.int 1)) (consA (fun _ => M.ret (.int 1000000)) (fun _ => M.ret [])))) ρ).bind F_is_within)))
    (fun ρ => M.ret (.nx ρ)))
    (seqP (ifP (asB (bin2 (eqO false) (fun ρ => getV ρ 2) (fun _ => M.ret (.str "with"))))
    (retP (andV (bin2 (eqO false) (fun ρ => ((consA (fun ρ => getV ρ 1) (fun _ => M.ret [])) ρ).bind lenO) (fun _ => M.ret (.int 2))) (fun ρ => ((consA (fun ρ => getV ρ 0) (consA (bin2 ixO (fun ρ => getV ρ 1) (fun _ => M.ret (.int 1))) (fun _ => M.ret []))) ρ).bind F_is_way_name)))
    (fun ρ => M.ret (.nx ρ)))
    (retP (andV (bin2 (eqO false) (fun ρ => getV ρ 2) (fun _ => M.ret (.str "never"))) (bin2 (eqO false) (fun ρ => ((consA (fun ρ => getV ρ 1) (fun _ => M.ret [])) ρ).bind lenO) (fun _ => M.ret (.int 1)))))))))))
def F_is_rule : List PV → M PV := fnP 2 3 m_is_rule
noncomputable def m_is_rules : PEnv → M Fl := (seqP (ifP (orP (notP (asB (fun ρ => ((fun ρ => getV ρ 1) ρ).bind (isiO "tuple")))) (asB (bin2 gtO (fun ρ => ((consA (fun ρ => getV ρ 1) (fun _ => M.ret [])) ρ).bind lenO) (fun _ => M.ret (.int 6)))))
    (retP (fun _ => M.ret (.bl false)))
    (fun ρ => M.ret (.nx ρ)))
    (retP (fun ρ => ((consA (lstV (mkLC [none, some 0] (fun ρ => ((fun ρ => getV ρ 1) ρ).bind iterO) (bindN 0) allTs (fun ρ => ((consA (fun ρ => getV ρ 1) (consA (fun ρ => getV ρ 0) (fun _ => M.ret []))) ρ).bind F_is_rule))) (fun _ => M.ret [])) ρ).bind allO)))
def F_is_rules : List PV → M PV := fnP 2 2 m_is_rules
noncomputable def m_is_page : PEnv → M Fl := (seqP (ifP (orP (notP (asB (fun ρ => ((consA (fun ρ => getV ρ 1) (fun _ => M.ret [])) ρ).bind F_begins_with_text))) (asB (bin2 ltO (fun ρ => ((consA (fun ρ => getV ρ 1) (fun _ => M.ret [])) ρ).bind lenO) (fun _ => M.ret (.int 4)))))
    (retP (fun _ => M.ret (.bl false)))
    (fun ρ => M.ret (.nx ρ)))
    (seqP (ifP (orP (notP (asB (fun ρ => ((consA (bin2 ixO (fun ρ => getV ρ 1) (fun _ => M.ret (.int 1))) (consA (fun _ => M.ret (.int 0)) (consA (fun _ => M.ret (.int 999999)) (fun _ => M.ret [])))) ρ).bind F_is_within))) (notP (asB (fun ρ => ((consA (bin2 ixO (fun ρ => getV ρ 1) (fun _ => M.ret (.int 2))) (consA (fun _ => M.ret (.int 0)) (consA (bin2 ixO (fun ρ => getV ρ 0) (fun _ => M.ret (.int 2))) (fun _ => M.ret [])))) ρ).bind F_is_within))))
    (retP (fun _ => M.ret (.bl false)))
    (fun ρ => M.ret (.nx ρ)))
    (seqP (setP 2 (bin2 ixO (fun ρ => getV ρ 1) (fun _ => M.ret (.int 0))))
    (seqP (ifP (asB (bin2 (eqO false) (fun ρ => getV ρ 2) (fun _ => M.ret (.str "read"))))
    (retP (andV (bin2 (eqO false) (fun ρ => ((consA (fun ρ => getV ρ 1) (fun _ => M.ret [])) ρ).bind lenO) (fun _ => M.ret (.int 5))) (andV (fun ρ => ((consA (bin2 ixO (fun ρ => getV ρ 1) (fun _ => M.ret (.int 3))) (fun _ => M.ret [])) ρ).bind F_is_name) (fun ρ => ((consA (bin2 ixO (fun ρ => getV ρ 1) (fun _ => M.ret (.int 4))) (fun _ => M.ret [])) ρ).bind F_is_whole))))
    (fun ρ => M.ret (.nx ρ)))
    (seqP (ifP (asB (bin2 (eqO false) (fun ρ => getV ρ 2) (fun _ => M.ret (.str "look"))))
    (retP (andV (bin2 (eqO false) (fun ρ => ((consA (fun ρ => getV ρ 1) (fun _ => M.ret [])) ρ).bind lenO) (fun _ => M.ret (.int 4))) (fun ρ => ((consA (fun ρ => getV ρ 0) (consA (bin2 ixO (fun ρ => getV ρ 1) (fun _ => M.ret (.int 3))) (fun _ => M.ret []))) ρ).bind F_is_slope_name)))
    (fun ρ => M.ret (.nx ρ)))
    (seqP (ifP (asB (bin2 (eqO false) (fun ρ => getV ρ 2) (fun _ => M.ret (.str "rule"))))
    (retP (andV (bin2 (eqO false) (fun ρ => ((consA (fun ρ => getV ρ 1) (fun _ => M.ret [])) ρ).bind lenO) (fun _ => M.ret (.int 5))) (andV (fun ρ => ((consA (fun ρ => getV ρ 0) (consA (bin2 ixO (fun ρ => getV ρ 1) (fun _ => M.ret (.int 3))) (fun _ => M.ret []))) ρ).bind F_is_way_name) (fun ρ => ((consA (fun ρ => getV ρ 0) (consA (bin2 ixO (fun ρ => getV ρ 1) (fun _ => M.ret (.int 4))) (fun _ => M.ret []))) ρ).bind F_is_rules))))
    (fun ρ => M.ret (.nx ρ)))
    (retP (fun _ => M.ret (.bl false)))))))))
def F_is_page : List PV → M PV := fnP 2 3 m_is_page
def m_book_of : PEnv → M Fl := (retP (fun ρ => ((consA (lstV (fun ρ => ((fun ρ => getV ρ 0) ρ).bind sortE)) (fun _ => M.ret [])) ρ).bind tupO))
def F_book_of : List PV → M PV := fnP 1 1 m_book_of
noncomputable def m_is_book : PEnv → M Fl := (seqP (ifP (orP (notP (asB (fun ρ => ((fun ρ => getV ρ 1) ρ).bind (isiO "tuple")))) (notP (asB (fun ρ => ((consA (lstV (mkLC [none, some 0] (fun ρ => ((fun ρ => getV ρ 1) ρ).bind iterO) (bindN 0) allTs (fun ρ => ((consA (fun ρ => getV ρ 1) (consA (fun ρ => getV ρ 0) (fun _ => M.ret []))) ρ).bind F_is_page))) (fun _ => M.ret [])) ρ).bind allO))))
    (retP (fun _ => M.ret (.bl false)))
    (fun ρ => M.ret (.nx ρ)))
    (retP (andV (bin2 (eqO false) (fun ρ => getV ρ 1) (fun ρ => ((consA (fun ρ => getV ρ 1) (fun _ => M.ret [])) ρ).bind F_book_of)) (bin2 (eqO false) (fun ρ => ((mkSC [none] (fun ρ => ((fun ρ => getV ρ 1) ρ).bind iterO) (bindN 0) allTs (bin2 ixO (fun ρ => getV ρ 0) (fun _ => M.ret (.int 1)))) ρ).bind lenSet) (fun ρ => ((consA (fun ρ => getV ρ 1) (fun _ => M.ret [])) ρ).bind lenO)))))
def F_is_book : List PV → M PV := fnP 2 2 m_is_book
noncomputable def m_law_any : PEnv → M Fl := (retP (bin2 ixO (fun ρ => getV ρ 1) (fun ρ => ((consA (fun ρ => getV ρ 0) (consA (fun ρ => ((consA (fun ρ => getV ρ 1) (fun _ => M.ret [])) ρ).bind lenO) (fun _ => M.ret []))) ρ).bind F_law_draw)))
def F_law_any : List PV → M PV := fnP 2 2 m_law_any
noncomputable def m_law_label : PEnv → M Fl := (seqP (setP 1 (bin2 ixO (lstV (fun ρ => ((consA (fun _ => M.ret (.int 2)) (consA (fun _ => M.ret (.int 1)) (consA (fun _ => M.ret (.int 3)) (consA (fun _ => M.ret (.int 8)) (consA (fun _ => M.ret (.int 4)) (consA (fun _ => M.ret (.int 1)) (consA (fun _ => M.ret (.int 5)) (consA (fun _ => M.ret (.int 2)) (fun _ => M.ret []))))))))) ρ).bind mkLst)) (fun ρ => ((consA (fun ρ => getV ρ 0) (consA (fun _ => M.ret (.int 8)) (fun _ => M.ret []))) ρ).bind F_law_draw)))
    (retP (bmP "str" joinO (fun _ => M.ret (.str "")) (consA (lstV (mkLC [none, some 0] (fun ρ => ((consA (fun ρ => getV ρ 1) (fun _ => M.ret [])) ρ).bind rng1O) (bindN 0) allTs (bin2 ixO (fun _ => M.ret (.str "abcdefghijklmnopqrstuvwxyz")) (fun ρ => ((consA (fun ρ => getV ρ 1) (consA (fun _ => M.ret (.int 26)) (fun _ => M.ret []))) ρ).bind F_law_draw)))) (fun _ => M.ret [])))))
def F_law_label : List PV → M PV := fnP 1 2 m_law_label
noncomputable def m_law_labels : PEnv → M Fl := (seqP (parVO 2 3 (fun _ => M.ret (.str "abcdefghijklmnopqrstuvwxyz")) (fun ρ => ((fun _ => M.ret []) ρ).bind mkLst))
    (seqP (setP 4 (ifV (asB (bin2 (eqO false) (fun ρ => ((consA (fun ρ => getV ρ 0) (consA (fun _ => M.ret (.int 2)) (fun _ => M.ret []))) ρ).bind F_law_draw) (fun _ => M.ret (.int 0)))) (sl3 slE (fun ρ => ((consA (fun ρ => getV ρ 0) (fun _ => M.ret [])) ρ).bind F_law_label) (fun _ => M.ret none) (fun ρ => ((fun _ => M.ret (.int 5)) ρ).bind fun y => (intM y).bind fun i => M.ret (some i))) (fun _ => M.ret (.str ""))))
    (seqP (mkFor (fun ρ => ((consA (fun ρ => getV ρ 1) (fun _ => M.ret [])) ρ).bind rng1O) (bindN 5)
    (seqP (setP 6 (sl3 slE (bin2 addO (fun ρ => getV ρ 4) (fun ρ => ((consA (fun ρ => getV ρ 0) (fun _ => M.ret [])) ρ).bind F_law_label)) (fun _ => M.ret none) (fun ρ => ((fun _ => M.ret (.int 8)) ρ).bind fun y => (intM y).bind fun i => M.ret (some i))))
    (seqP (mkFor (fun ρ => ((consA (fun _ => M.ret (.int 26)) (fun _ => M.ret [])) ρ).bind rng1O) (bindN 7)
    (ifP (asB (bin2 (inO false) (fun ρ => getV ρ 6) (fun ρ => getB ρ 3)))
    (setP 6 (bin2 addO (sl3 slE (fun ρ => getV ρ 6) (fun _ => M.ret none) (fun ρ => ((fun ρ => ((fun _ => M.ret (.int 1)) ρ).bind negO) ρ).bind fun y => (intM y).bind fun i => M.ret (some i))) (bin2 ixO (fun ρ => getV ρ 2) (bin2 modO (bin2 addO (bmP "str" indexO (fun ρ => getV ρ 2) (consA (bin2 ixO (fun ρ => getV ρ 6) (fun ρ => ((fun _ => M.ret (.int 1)) ρ).bind negO)) (fun _ => M.ret []))) (fun _ => M.ret (.int 1))) (fun _ => M.ret (.int 26))))))
    (fun ρ => M.ret (.nx ρ))))
    (appP 3 (fun ρ => getV ρ 6)))))
    (retP (fun ρ => getV ρ 3)))))
def F_law_labels : List PV → M PV := fnP 2 8 m_law_labels
noncomputable def m_law_pace : PEnv → M Fl := (retP (bin2 ixO (lstV (fun ρ => ((consA (fun _ => M.ret (.int 0)) (consA (fun _ => M.ret (.int 1000000)) (consA (fun ρ => getV ρ 1) (consA (fun _ => M.ret (.int 1)) (consA (bin2 mulE (fun _ => M.ret (.int 2)) (fun ρ => getV ρ 1)) (consA (bin2 mulE (fun _ => M.ret (.int 3)) (fun ρ => getV ρ 1)) (consA (bin2 mulE (fun _ => M.ret (.int 5)) (fun ρ => getV ρ 1)) (consA (bin2 addO (fun ρ => getV ρ 1) (fun _ => M.ret (.int 1))) (fun _ => M.ret []))))))))) ρ).bind mkLst)) (fun ρ => ((consA (fun ρ => getV ρ 0) (consA (fun _ => M.ret (.int 8)) (fun _ => M.ret []))) ρ).bind F_law_draw)))
def F_law_pace : List PV → M PV := fnP 2 2 m_law_pace
noncomputable def m_law_hill : PEnv → M Fl := (seqP (setP 1 (ifV (asB (bin2 (eqO false) (fun ρ => ((consA (fun ρ => getV ρ 0) (consA (fun _ => M.ret (.int 8)) (fun _ => M.ret []))) ρ).bind F_law_draw) (fun _ => M.ret (.int 7)))) (fun _ => M.ret (.int 12)) (bin2 addO (fun _ => M.ret (.int 1)) (fun ρ => ((consA (fun ρ => getV ρ 0) (consA (fun _ => M.ret (.int 6)) (fun _ => M.ret []))) ρ).bind F_law_draw))))
    (seqP (parP 2 3 (consA (bin2 ixO (lstV (fun ρ => ((consA (fun _ => M.ret (.int 1)) (consA (fun _ => M.ret (.int 7)) (consA (fun _ => M.ret (.int 33333)) (fun _ => M.ret [])))) ρ).bind mkLst)) (fun ρ => ((consA (fun ρ => getV ρ 0) (consA (fun _ => M.ret (.int 3)) (fun _ => M.ret []))) ρ).bind F_law_draw)) (consA (fun ρ => ((consA (fun ρ => getV ρ 0) (consA (bin2 addO (fun _ => M.ret (.int 1)) (fun ρ => ((consA (fun ρ => getV ρ 0) (consA (fun _ => M.ret (.int 5)) (fun _ => M.ret []))) ρ).bind F_law_draw)) (fun _ => M.ret []))) ρ).bind F_law_labels) (fun _ => M.ret []))))
    (seqP (ownP 4 (fun ρ => ((fun _ => M.ret []) ρ).bind mkLst))
    (seqP (mkFor (fun ρ => ((fun ρ => ((consA (fun ρ => getV ρ 0) (consA (fun ρ => getV ρ 1) (fun _ => M.ret []))) ρ).bind F_law_labels) ρ).bind iterO) (bindN 5)
    (seqP (par3P 6 7 8 (consA (fun ρ => ((consA (fun ρ => getV ρ 0) (consA (fun _ => M.ret (.int 4)) (fun _ => M.ret []))) ρ).bind F_law_draw) (consA (fun ρ => ((consA (fun ρ => getV ρ 0) (consA (fun ρ => getV ρ 3) (fun _ => M.ret []))) ρ).bind F_law_any) (consA (fun ρ => ((consA (fun ρ => getV ρ 0) (consA (fun ρ => getV ρ 3) (fun _ => M.ret []))) ρ).bind F_law_any) (fun _ => M.ret [])))))
    (seqP (setP 9 (fun ρ => ((consA (fun ρ => ((consA (fun ρ => getV ρ 0) (consA (fun ρ => getV ρ 2) (fun _ => M.ret []))) ρ).bind F_law_pace) (consA (fun ρ => ((consA (fun ρ => getV ρ 0) (consA (fun ρ => getV ρ 2) (fun _ => M.ret []))) ρ).bind F_law_pace) (fun _ => M.ret []))) ρ).bind mkTup))
    (appP 4 (bin2 addO (fun ρ => ((consA (fun ρ => getV ρ 5) (consA (bin2 ixO (lstV (fun ρ => ((consA (fun _ => M.ret (.str "slope")) (consA (fun _ => M.ret (.str "lift")) (consA (fun _ => M.ret (.str "path")) (consA (fun _ => M.ret (.str "slope")) (fun _ => M.ret []))))) ρ).bind mkLst)) (fun ρ => getV ρ 6)) (consA (fun ρ => getV ρ 7) (consA (fun ρ => getV ρ 8) (fun _ => M.ret []))))) ρ).bind mkTup) (fun ρ => getV ρ 9))))))
    (seqP (setP 10 (bin2 ixO (lstV (fun ρ => ((consA (fun _ => M.ret (.int 1000000)) (consA (fun _ => M.ret (.int 1)) (consA (bin2 mulE (fun ρ => getV ρ 2) (bin2 addO (fun _ => M.ret (.int 1)) (fun ρ => ((consA (fun ρ => getV ρ 0) (consA (fun _ => M.ret (.int 30)) (fun _ => M.ret []))) ρ).bind F_law_draw))) (consA (bin2 mulE (fun ρ => getV ρ 2) (bin2 addO (fun _ => M.ret (.int 5)) (fun ρ => ((consA (fun ρ => getV ρ 0) (consA (fun _ => M.ret (.int 9)) (fun _ => M.ret []))) ρ).bind F_law_draw))) (fun _ => M.ret []))))) ρ).bind mkLst)) (fun ρ => ((consA (fun ρ => getV ρ 0) (consA (fun _ => M.ret (.int 4)) (fun _ => M.ret []))) ρ).bind F_law_draw)))
    (retP (fun ρ => ((consA (fun ρ => ((consA (fun ρ => getV ρ 4) (fun _ => M.ret [])) ρ).bind tupO) (consA (fun ρ => ((consA (fun ρ => getV ρ 0) (consA (fun ρ => getV ρ 3) (fun _ => M.ret []))) ρ).bind F_law_any) (consA (fun ρ => getV ρ 10) (fun _ => M.ret [])))) ρ).bind mkTup)))))))
def F_law_hill : List PV → M PV := fnP 1 11 m_law_hill
noncomputable def m_law_moment : PEnv → M Fl := (retP (bin2 ixO (lstV (fun ρ => ((consA (fun _ => M.ret (.int 0)) (consA (bin2 ixO (fun ρ => getV ρ 1) (fun _ => M.ret (.int 2))) (consA (fun ρ => ((consA (fun ρ => getV ρ 0) (consA (bin2 addO (bin2 ixO (fun ρ => getV ρ 1) (fun _ => M.ret (.int 2))) (fun _ => M.ret (.int 1))) (fun _ => M.ret []))) ρ).bind F_law_draw) (consA (bin2 fdivO (bin2 ixO (fun ρ => getV ρ 1) (fun _ => M.ret (.int 2))) (fun _ => M.ret (.int 2))) (fun _ => M.ret []))))) ρ).bind mkLst)) (fun ρ => ((consA (fun ρ => getV ρ 0) (consA (fun _ => M.ret (.int 4)) (fun _ => M.ret []))) ρ).bind F_law_draw)))
def F_law_moment : List PV → M PV := fnP 2 2 m_law_moment
noncomputable def m_law_rule : PEnv → M Fl := (seqP (parP 2 3 (consA (fun ρ => ((consA (fun ρ => getV ρ 0) (consA (fun _ => M.ret (.int 8)) (fun _ => M.ret []))) ρ).bind F_law_draw) (consA (bin2 subO (fun ρ => ((consA (fun ρ => getV ρ 0) (consA (fun _ => M.ret (.int 7)) (fun _ => M.ret []))) ρ).bind F_law_draw) (fun _ => M.ret (.int 3))) (fun _ => M.ret []))))
    (seqP (ifP (asB (bin2 (eqO false) (fun ρ => ((consA (fun ρ => getV ρ 0) (consA (fun _ => M.ret (.int 6)) (fun _ => M.ret []))) ρ).bind F_law_draw) (fun _ => M.ret (.int 0))))
    (setP 3 (bin2 mulE (bin2 subO (bin2 powO (fun _ => M.ret (.int 10)) (fun _ => M.ret (.int 60))) (fun _ => M.ret (.int 1))) (bin2 ixO (lstV (fun ρ => ((consA (fun _ => M.ret (.int 1)) (consA (fun ρ => ((fun _ => M.ret (.int 1)) ρ).bind negO) (fun _ => M.ret []))) ρ).bind mkLst)) (fun ρ => ((consA (fun ρ => getV ρ 0) (consA (fun _ => M.ret (.int 2)) (fun _ => M.ret []))) ρ).bind F_law_draw))))
    (fun ρ => M.ret (.nx ρ)))
    (seqP (ifP (asB (bin2 (eqO false) (fun ρ => getV ρ 2) (fun _ => M.ret (.int 0))))
    (seqP (setP 4 (fun ρ => ((consA (fun ρ => getV ρ 0) (consA (fun ρ => getV ρ 1) (fun _ => M.ret []))) ρ).bind F_law_moment))
    (retP (fun ρ => ((consA (fun _ => M.ret (.str "hours")) (consA (fun ρ => getV ρ 4) (consA (fun ρ => ((consA (fun ρ => getV ρ 0) (consA (lstV (fun ρ => ((consA (bin2 addO (fun ρ => getV ρ 4) (fun _ => M.ret (.int 1))) (consA (fun _ => M.ret (.int 1000001)) (consA (bin2 addO (bin2 addO (fun ρ => getV ρ 4) (fun _ => M.ret (.int 1))) (fun ρ => ((consA (fun ρ => getV ρ 0) (consA (bin2 subO (fun _ => M.ret (.int 1000001)) (fun ρ => getV ρ 4)) (fun _ => M.ret []))) ρ).bind F_law_draw)) (fun _ => M.ret [])))) ρ).bind mkLst)) (fun _ => M.ret []))) ρ).bind F_law_any) (fun _ => M.ret [])))) ρ).bind mkTup)))
    (fun ρ => M.ret (.nx ρ)))
    (seqP (ifP (asB (bin2 ltO (fun ρ => getV ρ 2) (fun _ => M.ret (.int 4))))
    (retP (fun ρ => ((consA (bin2 ixO (lstV (fun ρ => ((consA (fun _ => M.ret (.str "least")) (consA (fun _ => M.ret (.str "most")) (consA (fun _ => M.ret (.str "least")) (fun _ => M.ret [])))) ρ).bind mkLst)) (bin2 subO (fun ρ => getV ρ 2) (fun _ => M.ret (.int 1)))) (consA (fun ρ => ((consA (fun ρ => getV ρ 0) (consA (lstV (fun ρ => ((consA (fun _ => M.ret (.str "wind")) (consA (fun _ => M.ret (.str "snow")) (consA (fun _ => M.ret (.str "a")) (consA (fun _ => M.ret (.str "zzzzzzzz")) (fun _ => M.ret []))))) ρ).bind mkLst)) (fun _ => M.ret []))) ρ).bind F_law_any) (consA (fun ρ => getV ρ 3) (fun _ => M.ret [])))) ρ).bind mkTup))
    (fun ρ => M.ret (.nx ρ)))
    (seqP (ifP (asB (bin2 (eqO false) (fun ρ => getV ρ 2) (fun _ => M.ret (.int 4))))
    (retP (fun ρ => ((consA (fun _ => M.ret (.str "looked")) (consA (fun ρ => ((consA (fun ρ => getV ρ 0) (consA (lstV (fun ρ => ((consA (fun _ => M.ret (.int 1)) (consA (fun _ => M.ret (.int 1000000)) (consA (bin2 addO (fun _ => M.ret (.int 1)) (fun ρ => ((consA (fun ρ => getV ρ 0) (consA (fun _ => M.ret (.int 40)) (fun _ => M.ret []))) ρ).bind F_law_draw)) (consA (bin2 addO (fun _ => M.ret (.int 1)) (bin2 fdivO (bin2 ixO (fun ρ => getV ρ 1) (fun _ => M.ret (.int 2))) (fun _ => M.ret (.int 3)))) (fun _ => M.ret []))))) ρ).bind mkLst)) (fun _ => M.ret []))) ρ).bind F_law_any) (fun _ => M.ret []))) ρ).bind mkTup))
    (fun ρ => M.ret (.nx ρ)))
    (retP (ifV (asB (bin2 ltO (fun ρ => getV ρ 2) (fun _ => M.ret (.int 7)))) (fun ρ => ((consA (fun _ => M.ret (.str "with")) (consA (bin2 ixO (fun ρ => ((consA (fun ρ => getV ρ 0) (consA (bin2 ixO (fun ρ => getV ρ 1) (fun _ => M.ret (.int 0))) (fun _ => M.ret []))) ρ).bind F_law_any) (fun _ => M.ret (.int 0))) (fun _ => M.ret []))) ρ).bind mkTup) (fun ρ => ((consA (fun _ => M.ret (.str "never")) (fun _ => M.ret [])) ρ).bind mkTup))))))))
def F_law_rule : List PV → M PV := fnP 2 5 m_law_rule
noncomputable def m_law_rules : PEnv → M Fl := (retP (fun ρ => ((consA (lstV (mkLC [none, some 0, some 1] (fun ρ => ((consA (bin2 ixO (lstV (fun ρ => ((consA (fun _ => M.ret (.int 1)) (consA (fun _ => M.ret (.int 2)) (consA (fun _ => M.ret (.int 0)) (consA (fun _ => M.ret (.int 3)) (consA (fun _ => M.ret (.int 6)) (consA (fun _ => M.ret (.int 1)) (consA (fun _ => M.ret (.int 2)) (consA (fun _ => M.ret (.int 4)) (fun _ => M.ret []))))))))) ρ).bind mkLst)) (fun ρ => ((consA (fun ρ => getV ρ 0) (consA (fun _ => M.ret (.int 8)) (fun _ => M.ret []))) ρ).bind F_law_draw)) (fun _ => M.ret [])) ρ).bind rng1O) (bindN 0) allTs (fun ρ => ((consA (fun ρ => getV ρ 1) (consA (fun ρ => getV ρ 2) (fun _ => M.ret []))) ρ).bind F_law_rule))) (fun _ => M.ret [])) ρ).bind tupO))
def F_law_rules : List PV → M PV := fnP 2 2 m_law_rules
noncomputable def m_law_slopes : PEnv → M Fl := (retP (lstV (mkLC [none] (fun ρ => ((bin2 ixO (fun ρ => getV ρ 0) (fun _ => M.ret (.int 0))) ρ).bind iterO) (bindN 0) (asB (bin2 (eqO false) (bin2 ixO (fun ρ => getV ρ 0) (fun _ => M.ret (.int 1))) (fun _ => M.ret (.str "slope")))) (bin2 ixO (fun ρ => getV ρ 0) (fun _ => M.ret (.int 0))))))
def F_law_slopes : List PV → M PV := fnP 1 1 m_law_slopes
noncomputable def m_law_page : PEnv → M Fl := (seqP (par3P 3 4 5 (consA (fun ρ => ((consA (fun ρ => getV ρ 0) (consA (fun _ => M.ret (.int 3)) (fun _ => M.ret []))) ρ).bind F_law_draw) (consA (fun ρ => ((consA (fun ρ => getV ρ 0) (consA (fun ρ => getV ρ 1) (fun _ => M.ret []))) ρ).bind F_law_moment) (consA (fun ρ => ((consA (fun ρ => getV ρ 1) (fun _ => M.ret [])) ρ).bind F_law_slopes) (fun _ => M.ret [])))))
    (seqP (ifP (andP (asB (bin2 (eqO false) (fun ρ => getV ρ 3) (fun _ => M.ret (.int 0)))) (asB (bin2 (eqO true) (fun ρ => getV ρ 5) (lstV (fun ρ => ((fun _ => M.ret []) ρ).bind mkLst)))))
    (retP (fun ρ => ((consA (fun _ => M.ret (.str "look")) (consA (fun ρ => getV ρ 2) (consA (fun ρ => getV ρ 4) (consA (fun ρ => ((consA (fun ρ => getV ρ 0) (consA (fun ρ => getV ρ 5) (fun _ => M.ret []))) ρ).bind F_law_any) (fun _ => M.ret []))))) ρ).bind mkTup))
    (fun ρ => M.ret (.nx ρ)))
    (seqP (ifP (asB (bin2 (eqO false) (fun ρ => getV ρ 3) (fun _ => M.ret (.int 1))))
    (retP (fun ρ => ((consA (fun _ => M.ret (.str "rule")) (consA (fun ρ => getV ρ 2) (consA (fun ρ => getV ρ 4) (consA (bin2 ixO (fun ρ => ((consA (fun ρ => getV ρ 0) (consA (bin2 ixO (fun ρ => getV ρ 1) (fun _ => M.ret (.int 0))) (fun _ => M.ret []))) ρ).bind F_law_any) (fun _ => M.ret (.int 0))) (consA (fun ρ => ((consA (fun ρ => getV ρ 0) (consA (fun ρ => getV ρ 1) (fun _ => M.ret []))) ρ).bind F_law_rules) (fun _ => M.ret [])))))) ρ).bind mkTup))
    (fun ρ => M.ret (.nx ρ)))
    (seqP (setP 6 (bin2 ixO (lstV (fun ρ => ((consA (bin2 subO (fun ρ => ((consA (fun ρ => getV ρ 0) (consA (fun _ => M.ret (.int 7)) (fun _ => M.ret []))) ρ).bind F_law_draw) (fun _ => M.ret (.int 3))) (consA (bin2 subO (bin2 powO (fun _ => M.ret (.int 10)) (fun _ => M.ret (.int 60))) (fun _ => M.ret (.int 1))) (consA (bin2 subO (fun _ => M.ret (.int 1)) (bin2 powO (fun _ => M.ret (.int 10)) (fun _ => M.ret (.int 60)))) (consA (fun _ => M.ret (.int 0)) (fun _ => M.ret []))))) ρ).bind mkLst)) (fun ρ => ((consA (fun ρ => getV ρ 0) (consA (fun _ => M.ret (.int 4)) (fun _ => M.ret []))) ρ).bind F_law_draw)))
    (retP (fun ρ => ((consA (fun _ => M.ret (.str "read")) (consA (fun ρ => getV ρ 2) (consA (fun ρ => getV ρ 4) (consA (fun ρ => ((consA (fun ρ => getV ρ 0) (consA (lstV (fun ρ => ((consA (fun _ => M.ret (.str "wind")) (consA (fun _ => M.ret (.str "snow")) (consA (fun _ => M.ret (.str "a")) (consA (fun _ => M.ret (.str "zzzzzzzz")) (fun _ => M.ret []))))) ρ).bind mkLst)) (fun _ => M.ret []))) ρ).bind F_law_any) (consA (fun ρ => getV ρ 6) (fun _ => M.ret [])))))) ρ).bind mkTup))))))
def F_law_page : List PV → M PV := fnP 3 7 m_law_page
noncomputable def m_law_pages : PEnv → M Fl := (seqP (parO0 3 4 (fun ρ => ((fun _ => M.ret []) ρ).bind mkLst) (fun ρ => ((fun _ => M.ret []) ρ).bind mkLst))
    (seqP (mkFor (fun ρ => ((consA (fun ρ => getV ρ 2) (fun _ => M.ret [])) ρ).bind rng1O) (bindN 5)
    (seqP (setP 6 (fun ρ => ((consA (fun ρ => getV ρ 0) (consA (lstV (fun ρ => ((consA (fun ρ => getV ρ 5) (consA (bin2 subO (fun _ => M.ret (.int 999999)) (fun ρ => getV ρ 5)) (consA (bin2 subO (fun _ => M.ret (.int 60)) (fun ρ => getV ρ 5)) (consA (fun ρ => ((consA (fun ρ => getV ρ 0) (consA (fun _ => M.ret (.int 1000000)) (fun _ => M.ret []))) ρ).bind F_law_draw) (fun _ => M.ret []))))) ρ).bind mkLst)) (fun _ => M.ret []))) ρ).bind F_law_any))
    (seqP (mkFor (fun ρ => ((consA (fun ρ => getV ρ 2) (fun _ => M.ret [])) ρ).bind rng1O) (bindN 7)
    (ifP (asB (bin2 (inO false) (fun ρ => getV ρ 6) (fun ρ => getB ρ 3)))
    (setP 6 (bin2 modO (bin2 addO (fun ρ => getV ρ 6) (fun _ => M.ret (.int 1))) (fun _ => M.ret (.int 1000000))))
    (fun ρ => M.ret (.nx ρ))))
    (seqP (appP 3 (fun ρ => getV ρ 6))
    (appP 4 (fun ρ => ((consA (fun ρ => getV ρ 0) (consA (fun ρ => getV ρ 1) (consA (fun ρ => getV ρ 6) (fun _ => M.ret [])))) ρ).bind F_law_page))))))
    (retP (fun ρ => getV ρ 4))))
def F_law_pages : List PV → M PV := fnP 3 8 m_law_pages
noncomputable def m_law_name_is : PEnv → M Fl := (seqP (ifP (orP (notP (asB (fun ρ => ((fun ρ => getV ρ 0) ρ).bind (isiO "str")))) (orP (asB (bin2 (eqO false) (fun ρ => ((consA (fun ρ => getV ρ 0) (fun _ => M.ret [])) ρ).bind lenO) (fun _ => M.ret (.int 0)))) (asB (bin2 gtO (fun ρ => ((consA (fun ρ => getV ρ 0) (fun _ => M.ret [])) ρ).bind lenO) (fun _ => M.ret (.int 8))))))
    (retP (fun _ => M.ret (.bl false)))
    (fun ρ => M.ret (.nx ρ)))
    (retP (bin2 (eqO false) (lstV (mkLC [none] (fun ρ => ((fun ρ => getV ρ 0) ρ).bind iterO) (bindN 0) (asB (bin2 (inO true) (fun ρ => getV ρ 0) (fun _ => M.ret (.str "abcdefghijklmnopqrstuvwxyz")))) (fun ρ => getV ρ 0))) (lstV (fun ρ => ((fun _ => M.ret []) ρ).bind mkLst)))))
def F_law_name_is : List PV → M PV := fnP 1 1 m_law_name_is
noncomputable def m_law_whole_is : PEnv → M Fl := (retP (andV (fun ρ => ((fun ρ => getV ρ 0) ρ).bind (isiO "int")) (andV (notV (fun ρ => ((fun ρ => getV ρ 0) ρ).bind (isiO "bool"))) (chain leOD leOD (fun ρ => getV ρ 1) (fun ρ => getV ρ 0) (fun ρ => getV ρ 2)))))
def F_law_whole_is : List PV → M PV := fnP 3 3 m_law_whole_is
noncomputable def m_law_of_way : PEnv → M Fl := (retP (andV (fun ρ => ((fun ρ => getV ρ 1) ρ).bind (isiO "str")) (bin2 (inO false) (fun ρ => getV ρ 1) (lstV (mkLC [none] (fun ρ => ((bin2 ixO (fun ρ => getV ρ 0) (fun _ => M.ret (.int 0))) ρ).bind iterO) (bindN 0) allTs (bin2 ixO (fun ρ => getV ρ 0) (fun _ => M.ret (.int 0))))))))
def F_law_of_way : List PV → M PV := fnP 2 2 m_law_of_way
def m_law_number_is : PEnv → M Fl := (retP (andV (fun ρ => ((fun ρ => getV ρ 0) ρ).bind (isiO "int")) (notV (fun ρ => ((fun ρ => getV ρ 0) ρ).bind (isiO "bool")))))
def F_law_number_is : List PV → M PV := fnP 1 1 m_law_number_is
noncomputable def m_law_rule_is : PEnv → M Fl := (seqP (ifP (orP (notP (asB (fun ρ => ((fun ρ => getV ρ 1) ρ).bind (isiO "tuple")))) (orP (asB (bin2 (eqO false) (fun ρ => getV ρ 1) (fun ρ => ((fun _ => M.ret []) ρ).bind mkTup))) (notP (asB (fun ρ => ((bin2 ixO (fun ρ => getV ρ 1) (fun _ => M.ret (.int 0))) ρ).bind (isiO "str"))))))
    (retP (fun _ => M.ret (.bl false)))
    (fun ρ => M.ret (.nx ρ)))
    (seqP (parP 2 3 (consA (bin2 ixO (fun ρ => getV ρ 1) (fun _ => M.ret (.int 0))) (consA (fun ρ => ((consA (fun ρ => getV ρ 1) (fun _ => M.ret [])) ρ).bind lenO) (fun _ => M.ret []))))
    (seqP (ifP (asB (bin2 (eqO false) (fun ρ => getV ρ 2) (fun _ => M.ret (.str "hours"))))
    (seqP (setP 4 (andV (bin2 (eqO false) (fun ρ => getV ρ 3) (fun _ => M.ret (.int 3))) (andV (fun ρ => ((consA (bin2 ixO (fun ρ => getV ρ 1) (fun _ => M.ret (.int 1))) (consA (fun _ => M.ret (.int 0)) (consA (fun _ => M.ret (.int 1000001)) (fun _ => M.ret [])))) ρ).bind F_law_whole_is) (fun ρ => ((consA (bin2 ixO (fun ρ => getV ρ 1) (fun _ => M.ret (.int 2))) (consA (fun _ => M.ret (.int 0)) (consA (fun _ => M.ret (.int 1000001)) (fun _ => M.ret [])))) ρ).bind F_law_whole_is))))
    (retP (andV (fun ρ => getV ρ 4) (bin2 ltO (bin2 ixO (fun ρ => getV ρ 1) (fun _ => M.ret (.int 1))) (bin2 ixO (fun ρ => getV ρ 1) (fun _ => M.ret (.int 2)))))))
    (fun ρ => M.ret (.nx ρ)))
    (seqP (ifP (orP (asB (bin2 (eqO false) (fun ρ => getV ρ 2) (fun _ => M.ret (.str "least")))) (asB (bin2 (eqO false) (fun ρ => getV ρ 2) (fun _ => M.ret (.str "most")))))
    (retP (andV (bin2 (eqO false) (fun ρ => getV ρ 3) (fun _ => M.ret (.int 3))) (andV (fun ρ => ((consA (bin2 ixO (fun ρ => getV ρ 1) (fun _ => M.ret (.int 1))) (fun _ => M.ret [])) ρ).bind F_law_name_is) (fun ρ => ((consA (bin2 ixO (fun ρ => getV ρ 1) (fun _ => M.ret (.int 2))) (fun _ => M.ret [])) ρ).bind F_law_number_is))))
    (fun ρ => M.ret (.nx ρ)))
    (seqP (ifP (asB (bin2 (eqO false) (fun ρ => getV ρ 2) (fun _ => M.ret (.str "looked"))))
    (retP (andV (bin2 (eqO false) (fun ρ => getV ρ 3) (fun _ => M.ret (.int 2))) (fun ρ => ((consA (bin2 ixO (fun ρ => getV ρ 1) (fun _ => M.ret (.int 1))) (consA (fun _ => M.ret (.int 1)) (consA (fun _ => M.ret (.int 1000000)) (fun _ => M.ret [])))) ρ).bind F_law_whole_is)))
    (fun ρ => M.ret (.nx ρ)))
    (retP (ifV (asB (bin2 (eqO false) (fun ρ => getV ρ 2) (fun _ => M.ret (.str "with")))) (andV (bin2 (eqO false) (fun ρ => getV ρ 3) (fun _ => M.ret (.int 2))) (fun ρ => ((consA (fun ρ => getV ρ 0) (consA (bin2 ixO (fun ρ => getV ρ 1) (fun _ => M.ret (.int 1))) (fun _ => M.ret []))) ρ).bind F_law_of_way)) (andV (bin2 (eqO false) (fun ρ => getV ρ 2) (fun _ => M.ret (.str "never"))) (bin2 (eqO false) (fun ρ => getV ρ 3) (fun _ => M.ret (.int 1)))))))))))
def F_law_rule_is : List PV → M PV := fnP 2 5 m_law_rule_is
noncomputable def m_law_rules_is : PEnv → M Fl := (retP (andV (fun ρ => ((fun ρ => getV ρ 1) ρ).bind (isiO "tuple")) (andV (bin2 ltO (fun ρ => ((consA (fun ρ => getV ρ 1) (fun _ => M.ret [])) ρ).bind lenO) (fun _ => M.ret (.int 7))) (fun ρ => ((consA (lstV (mkLC [none, some 0] (fun ρ => ((fun ρ => getV ρ 1) ρ).bind iterO) (bindN 0) allTs (fun ρ => ((consA (fun ρ => getV ρ 1) (consA (fun ρ => getV ρ 0) (fun _ => M.ret []))) ρ).bind F_law_rule_is))) (fun _ => M.ret [])) ρ).bind allO))))
def F_law_rules_is : List PV → M PV := fnP 2 2 m_law_rules_is
noncomputable def m_law_page_is : PEnv → M Fl := (seqP (ifP (orP (notP (asB (fun ρ => ((fun ρ => getV ρ 1) ρ).bind (isiO "tuple")))) (orP (asB (bin2 ltO (fun ρ => ((consA (fun ρ => getV ρ 1) (fun _ => M.ret [])) ρ).bind lenO) (fun _ => M.ret (.int 4)))) (notP (asB (fun ρ => ((bin2 ixO (fun ρ => getV ρ 1) (fun _ => M.ret (.int 0))) ρ).bind (isiO "str"))))))
    (retP (fun _ => M.ret (.bl false)))
    (fun ρ => M.ret (.nx ρ)))
    (seqP (ifP (orP (notP (asB (fun ρ => ((consA (bin2 ixO (fun ρ => getV ρ 1) (fun _ => M.ret (.int 1))) (consA (fun _ => M.ret (.int 0)) (consA (fun _ => M.ret (.int 999999)) (fun _ => M.ret [])))) ρ).bind F_law_whole_is))) (notP (asB (fun ρ => ((consA (bin2 ixO (fun ρ => getV ρ 1) (fun _ => M.ret (.int 2))) (consA (fun _ => M.ret (.int 0)) (consA (bin2 ixO (fun ρ => getV ρ 0) (fun _ => M.ret (.int 2))) (fun _ => M.ret [])))) ρ).bind F_law_whole_is))))
    (retP (fun _ => M.ret (.bl false)))
    (fun ρ => M.ret (.nx ρ)))
    (seqP (parP 2 3 (consA (bin2 ixO (fun ρ => getV ρ 1) (fun _ => M.ret (.int 0))) (consA (fun ρ => ((consA (fun ρ => getV ρ 1) (fun _ => M.ret [])) ρ).bind lenO) (fun _ => M.ret []))))
    (seqP (ifP (asB (bin2 (eqO false) (fun ρ => getV ρ 2) (fun _ => M.ret (.str "look"))))
    (retP (andV (bin2 (eqO false) (fun ρ => getV ρ 3) (fun _ => M.ret (.int 4))) (andV (fun ρ => ((bin2 ixO (fun ρ => getV ρ 1) (fun _ => M.ret (.int 3))) ρ).bind (isiO "str")) (bin2 (inO false) (bin2 ixO (fun ρ => getV ρ 1) (fun _ => M.ret (.int 3))) (fun ρ => ((consA (fun ρ => getV ρ 0) (fun _ => M.ret [])) ρ).bind F_law_slopes)))))
    (fun ρ => M.ret (.nx ρ)))
    (seqP (ifP (asB (bin2 (eqO false) (fun ρ => getV ρ 2) (fun _ => M.ret (.str "read"))))
    (retP (andV (bin2 (eqO false) (fun ρ => getV ρ 3) (fun _ => M.ret (.int 5))) (andV (fun ρ => ((consA (bin2 ixO (fun ρ => getV ρ 1) (fun _ => M.ret (.int 3))) (fun _ => M.ret [])) ρ).bind F_law_name_is) (fun ρ => ((consA (bin2 ixO (fun ρ => getV ρ 1) (fun _ => M.ret (.int 4))) (fun _ => M.ret [])) ρ).bind F_law_number_is))))
    (fun ρ => M.ret (.nx ρ)))
    (retP (andV (bin2 (eqO false) (fun ρ => getV ρ 2) (fun _ => M.ret (.str "rule"))) (andV (bin2 (eqO false) (fun ρ => getV ρ 3) (fun _ => M.ret (.int 5))) (andV (fun ρ => ((consA (fun ρ => getV ρ 0) (consA (bin2 ixO (fun ρ => getV ρ 1) (fun _ => M.ret (.int 3))) (fun _ => M.ret []))) ρ).bind F_law_of_way) (fun ρ => ((consA (fun ρ => getV ρ 0) (consA (bin2 ixO (fun ρ => getV ρ 1) (fun _ => M.ret (.int 4))) (fun _ => M.ret []))) ρ).bind F_law_rules_is))))))))))
def F_law_page_is : List PV → M PV := fnP 2 4 m_law_page_is
noncomputable def m_law_book_is : PEnv → M Fl := (seqP (ifP (orP (notP (asB (fun ρ => ((fun ρ => getV ρ 1) ρ).bind (isiO "tuple")))) (notP (asB (fun ρ => ((consA (lstV (mkLC [none, some 0] (fun ρ => ((fun ρ => getV ρ 1) ρ).bind iterO) (bindN 0) allTs (fun ρ => ((consA (fun ρ => getV ρ 1) (consA (fun ρ => getV ρ 0) (fun _ => M.ret []))) ρ).bind F_law_page_is))) (fun _ => M.ret [])) ρ).bind allO))))
    (retP (fun _ => M.ret (.bl false)))
    (fun ρ => M.ret (.nx ρ)))
    (seqP (mkFor (fun ρ => ((consA (fun ρ => ((consA (fun ρ => getV ρ 1) (fun _ => M.ret [])) ρ).bind lenO) (fun _ => M.ret [])) ρ).bind rng1O) (bindN 2)
    (mkFor (fun ρ => ((sl3 slE (fun ρ => getV ρ 1) (fun _ => M.ret none) (fun ρ => ((fun ρ => getV ρ 2) ρ).bind fun y => (intM y).bind fun i => M.ret (some i))) ρ).bind iterO) (bindN 3)
    (ifP (orP (asB (bin2 (eqO false) (bin2 ixO (fun ρ => getV ρ 3) (fun _ => M.ret (.int 1))) (bin2 ixO (bin2 ixO (fun ρ => getV ρ 1) (fun ρ => getV ρ 2)) (fun _ => M.ret (.int 1))))) (asB (bin2 gtTO (fun ρ => ((consA (bin2 ixO (fun ρ => getV ρ 3) (fun _ => M.ret (.int 2))) (consA (bin2 ixO (fun ρ => getV ρ 3) (fun _ => M.ret (.int 1))) (fun _ => M.ret []))) ρ).bind mkTup) (fun ρ => ((consA (bin2 ixO (bin2 ixO (fun ρ => getV ρ 1) (fun ρ => getV ρ 2)) (fun _ => M.ret (.int 2))) (consA (bin2 ixO (bin2 ixO (fun ρ => getV ρ 1) (fun ρ => getV ρ 2)) (fun _ => M.ret (.int 1))) (fun _ => M.ret []))) ρ).bind mkTup))))
    (retP (fun _ => M.ret (.bl false)))
    (fun ρ => M.ret (.nx ρ)))))
    (retP (fun _ => M.ret (.bl true)))))
def F_law_book_is : List PV → M PV := fnP 2 4 m_law_book_is
noncomputable def m_law_bent : PEnv → M Fl := (seqP (setP 3 (fun ρ => ((consA (fun ρ => getV ρ 0) (consA (fun _ => M.ret (.int 7)) (fun _ => M.ret []))) ρ).bind F_law_draw))
    (seqP (ifP (asB (bin2 (eqO false) (fun ρ => getV ρ 2) (fun ρ => ((fun _ => M.ret []) ρ).bind mkTup)))
    (retP (fun ρ => ((consA (fun ρ => getV ρ 0) (consA (lstV (fun ρ => ((consA (fun ρ => ((fun _ => M.ret []) ρ).bind mkTup) (consA (lstV (fun ρ => ((fun _ => M.ret []) ρ).bind mkLst)) (consA (fun _ => M.ret .non) (consA (fun _ => M.ret (.str "")) (consA (fun ρ => ((consA (fun ρ => ((fun _ => M.ret []) ρ).bind mkTup) (fun _ => M.ret [])) ρ).bind mkTup) (consA (fun _ => M.ret (.dct [])) (consA (fun _ => M.ret (.bl true)) (fun _ => M.ret [])))))))) ρ).bind mkLst)) (fun _ => M.ret []))) ρ).bind F_law_any))
    (fun ρ => M.ret (.nx ρ)))
    (seqP (parP 4 5 (consA (fun ρ => ((consA (fun ρ => getV ρ 0) (consA (fun ρ => ((consA (fun ρ => getV ρ 2) (fun _ => M.ret [])) ρ).bind lenO) (fun _ => M.ret []))) ρ).bind F_law_draw) (consA (fun ρ => ((consA (fun ρ => getV ρ 0) (consA (fun ρ => ((consA (fun ρ => getV ρ 2) (fun _ => M.ret [])) ρ).bind lenO) (fun _ => M.ret []))) ρ).bind F_law_draw) (fun _ => M.ret []))))
    (seqP (parP 6 7 (consA (bin2 ixO (fun ρ => getV ρ 2) (fun ρ => getV ρ 4)) (consA (bin2 ixO (fun ρ => getV ρ 2) (fun ρ => getV ρ 5)) (fun _ => M.ret []))))
    (seqP (ifP (asB (bin2 (eqO false) (fun ρ => getV ρ 3) (fun _ => M.ret (.int 0))))
    (seqP (ownP 8 (fun ρ => ((consA (fun ρ => getV ρ 2) (fun _ => M.ret [])) ρ).bind lstO))
    (seqP (swapP 8 (fun ρ => ((consA (fun ρ => getV ρ 7) (consA (fun ρ => getV ρ 6) (fun _ => M.ret []))) ρ).bind mkTup) (fun ρ => getV ρ 4) (fun ρ => getV ρ 5))
    (retP (fun ρ => ((consA (fun ρ => getV ρ 8) (fun _ => M.ret [])) ρ).bind tupO))))
    (fun ρ => M.ret (.nx ρ)))
    (seqP (ifP (asB (bin2 (eqO false) (fun ρ => getV ρ 3) (fun _ => M.ret (.int 1))))
    (retP (bin2 addO (bin2 addO (sl3 slE (fun ρ => getV ρ 2) (fun _ => M.ret none) (fun ρ => ((fun ρ => getV ρ 4) ρ).bind fun y => (intM y).bind fun i => M.ret (some i))) (fun ρ => ((consA (fun ρ => getV ρ 7) (fun _ => M.ret [])) ρ).bind mkTup)) (sl3 slE (fun ρ => getV ρ 2) (fun ρ => ((fun ρ => getV ρ 4) ρ).bind fun y => (intM y).bind fun i => M.ret (some i)) (fun _ => M.ret none))))
    (fun ρ => M.ret (.nx ρ)))
    (seqP (ifP (asB (bin2 (eqO false) (fun ρ => getV ρ 3) (fun _ => M.ret (.int 2))))
    (retP (bin2 addO (bin2 addO (sl3 slE (fun ρ => getV ρ 2) (fun _ => M.ret none) (fun ρ => ((fun ρ => getV ρ 4) ρ).bind fun y => (intM y).bind fun i => M.ret (some i))) (fun ρ => ((consA (bin2 addO (bin2 addO (sl3 slE (fun ρ => getV ρ 6) (fun _ => M.ret none) (fun ρ => ((fun _ => M.ret (.int 1)) ρ).bind fun y => (intM y).bind fun i => M.ret (some i))) (fun ρ => ((consA (bin2 ixO (fun ρ => getV ρ 7) (fun _ => M.ret (.int 1))) (fun _ => M.ret [])) ρ).bind mkTup)) (sl3 slE (fun ρ => getV ρ 6) (fun ρ => ((fun _ => M.ret (.int 2)) ρ).bind fun y => (intM y).bind fun i => M.ret (some i)) (fun _ => M.ret none))) (fun _ => M.ret [])) ρ).bind mkTup)) (sl3 slE (fun ρ => getV ρ 2) (fun ρ => ((bin2 addO (fun ρ => getV ρ 4) (fun _ => M.ret (.int 1))) ρ).bind fun y => (intM y).bind fun i => M.ret (some i)) (fun _ => M.ret none))))
    (fun ρ => M.ret (.nx ρ)))
    (seqP (ifP (asB (bin2 (eqO false) (fun ρ => getV ρ 3) (fun _ => M.ret (.int 3))))
    (retP (bin2 addO (bin2 addO (sl3 slE (fun ρ => getV ρ 2) (fun _ => M.ret none) (fun ρ => ((fun ρ => getV ρ 4) ρ).bind fun y => (intM y).bind fun i => M.ret (some i))) (fun ρ => ((consA (bin2 addO (bin2 addO (sl3 slE (fun ρ => getV ρ 6) (fun _ => M.ret none) (fun ρ => ((fun _ => M.ret (.int 2)) ρ).bind fun y => (intM y).bind fun i => M.ret (some i))) (fun ρ => ((consA (bin2 ixO (fun ρ => getV ρ 7) (fun _ => M.ret (.int 2))) (fun _ => M.ret [])) ρ).bind mkTup)) (sl3 slE (fun ρ => getV ρ 6) (fun ρ => ((fun _ => M.ret (.int 3)) ρ).bind fun y => (intM y).bind fun i => M.ret (some i)) (fun _ => M.ret none))) (fun _ => M.ret [])) ρ).bind mkTup)) (sl3 slE (fun ρ => getV ρ 2) (fun ρ => ((bin2 addO (fun ρ => getV ρ 4) (fun _ => M.ret (.int 1))) ρ).bind fun y => (intM y).bind fun i => M.ret (some i)) (fun _ => M.ret none))))
    (fun ρ => M.ret (.nx ρ)))
    (seqP (ifP (asB (bin2 (eqO false) (fun ρ => getV ρ 3) (fun _ => M.ret (.int 4))))
    (retP (fun ρ => ((consA (fun ρ => getV ρ 0) (consA (lstV (fun ρ => ((consA (lstV (fun ρ => ((consA (fun ρ => getV ρ 2) (fun _ => M.ret [])) ρ).bind lstO)) (consA (revP (fun ρ => getV ρ 2)) (consA (fun ρ => ((consA (fun ρ => getV ρ 2) (fun _ => M.ret [])) ρ).bind mkTup) (consA (bin2 addO (fun ρ => getV ρ 2) (fun ρ => ((consA (fun _ => M.ret .non) (fun _ => M.ret [])) ρ).bind mkTup)) (consA (bin2 ixO (fun ρ => getV ρ 2) (fun _ => M.ret (.int 0))) (consA (sl3 slE (fun ρ => getV ρ 2) (fun ρ => ((fun _ => M.ret (.int 1)) ρ).bind fun y => (intM y).bind fun i => M.ret (some i)) (fun _ => M.ret none)) (consA (bin2 addO (fun ρ => getV ρ 2) (fun ρ => getV ρ 2)) (fun _ => M.ret [])))))))) ρ).bind mkLst)) (fun _ => M.ret []))) ρ).bind F_law_any))
    (fun ρ => M.ret (.nx ρ)))
    (seqP (ownP 9 (fun ρ => ((consA (bin2 addO (fun ρ => getV ρ 6) (fun ρ => ((consA (fun _ => M.ret (.int 0)) (fun _ => M.ret [])) ρ).bind mkTup)) (consA (sl3 slE (fun ρ => getV ρ 6) (fun _ => M.ret none) (fun ρ => ((fun _ => M.ret (.int 3)) ρ).bind fun y => (intM y).bind fun i => M.ret (some i))) (consA (lstV (fun ρ => ((consA (fun ρ => getV ρ 6) (fun _ => M.ret [])) ρ).bind lstO)) (consA (fun _ => M.ret .non) (consA (bin2 addO (bin2 addO (sl3 slE (fun ρ => getV ρ 6) (fun _ => M.ret none) (fun ρ => ((fun _ => M.ret (.int 1)) ρ).bind fun y => (intM y).bind fun i => M.ret (some i))) (fun ρ => ((consA (fun ρ => ((fun _ => M.ret (.int 1)) ρ).bind negO) (fun _ => M.ret [])) ρ).bind mkTup)) (sl3 slE (fun ρ => getV ρ 6) (fun ρ => ((fun _ => M.ret (.int 2)) ρ).bind fun y => (intM y).bind fun i => M.ret (some i)) (fun _ => M.ret none))) (consA (fun ρ => ((fun _ => M.ret []) ρ).bind mkTup) (fun _ => M.ret []))))))) ρ).bind mkLst))
    (seqP (appP 9 (bin2 addO (bin2 addO (sl3 slE (fun ρ => getV ρ 6) (fun _ => M.ret none) (fun ρ => ((fun _ => M.ret (.int 2)) ρ).bind fun y => (intM y).bind fun i => M.ret (some i))) (fun ρ => ((consA (bin2 addO (bin2 ixO (fun ρ => getV ρ 1) (fun _ => M.ret (.int 2))) (fun _ => M.ret (.int 1))) (fun _ => M.ret [])) ρ).bind mkTup)) (sl3 slE (fun ρ => getV ρ 6) (fun ρ => ((fun _ => M.ret (.int 3)) ρ).bind fun y => (intM y).bind fun i => M.ret (some i)) (fun _ => M.ret none))))
    (retP (bin2 addO (bin2 addO (sl3 slE (fun ρ => getV ρ 2) (fun _ => M.ret none) (fun ρ => ((fun ρ => getV ρ 4) ρ).bind fun y => (intM y).bind fun i => M.ret (some i))) (fun ρ => ((consA (fun ρ => ((consA (fun ρ => getV ρ 0) (consA (fun ρ => getV ρ 9) (fun _ => M.ret []))) ρ).bind F_law_any) (fun _ => M.ret [])) ρ).bind mkTup)) (sl3 slE (fun ρ => getV ρ 2) (fun ρ => ((bin2 addO (fun ρ => getV ρ 4) (fun _ => M.ret (.int 1))) ρ).bind fun y => (intM y).bind fun i => M.ret (some i)) (fun _ => M.ret none)))))))))))))))
def F_law_bent : List PV → M PV := fnP 3 10 m_law_bent
noncomputable def b_law : PEnv → M Fl := (seqP (setP 3 (fun ρ => ((consA (fun ρ => getV ρ 1) (fun _ => M.ret [])) ρ).bind F_law_hill))
    (seqP (setP 4 (fun ρ => ((consA (fun ρ => getV ρ 1) (consA (fun ρ => getV ρ 3) (consA (fun ρ => ((consA (fun ρ => getV ρ 1) (consA (fun _ => M.ret (.int 9)) (fun _ => M.ret []))) ρ).bind F_law_draw) (fun _ => M.ret [])))) ρ).bind F_law_pages))
    (seqP (setP 5 (fun ρ => ((consA (lstV (fun ρ => ((fun ρ => getV ρ 4) ρ).bind sortE)) (fun _ => M.ret [])) ρ).bind tupO))
    (mkFor (fun ρ => ((lstV (catF (lstV (fun ρ => ((consA (fun ρ => getV ρ 5) (fun _ => M.ret [])) ρ).bind mkLst)) (lstV (mkLC [none, some 1, some 3, some 5] (fun ρ => ((consA (fun _ => M.ret (.int 4)) (fun _ => M.ret [])) ρ).bind rng1O) (bindN 0) allTs (fun ρ => ((consA (fun ρ => getV ρ 1) (consA (fun ρ => getV ρ 2) (consA (fun ρ => getV ρ 3) (fun _ => M.ret [])))) ρ).bind F_law_bent))))) ρ).bind iterO) (bindN 6)
    (seqP (setP 7 (fun ρ => ((consA (fun ρ => getV ρ 3) (consA (fun ρ => getV ρ 6) (fun _ => M.ret []))) ρ).bind F_is_book))
    (ifP (orP (notP (asB (fun ρ => ((fun ρ => getV ρ 7) ρ).bind (isiO "bool")))) (asB (bin2 (eqO true) (fun ρ => getV ρ 7) (fun ρ => ((consA (fun ρ => getV ρ 3) (consA (fun ρ => getV ρ 6) (fun _ => M.ret []))) ρ).bind F_law_book_is))))
    (retP (fun _ => M.ret (.bl false)))
    (fun ρ => M.ret (.nx ρ))))))))
def r_law : PEnv → M Fl := (retP (fun _ => M.ret (.bl true)))
section
variable {P : Program} {w : World} {K : PySem.W.Frag} {mg : Str → Option Value} {base : Heap} {a_is_whole a_is_within a_is_name a_way_named a_is_way_name a_is_slope_name a_is_hours a_begins_with_text a_is_rule a_is_rules a_is_page a_book_of a_is_book awbag awdraw awany awlabel awlabels awpace awhill awmoment awrule awrules awslopes awpage awpages awname_is awwhole_is awof_way awnumber_is awrule_is awrules_is awpage_is awbook_is awbent a_law cb_book_of tb_book_of cb_law tb_law : Addr} {d_is_whole d_is_within d_is_name d_way_named d_is_way_name d_is_slope_name d_is_hours d_begins_with_text d_is_rule d_is_rules d_is_page d_book_of d_is_book dwbag dwdraw dwany dwlabel dwlabels dwpace dwhill dwmoment dwrule dwrules dwslopes dwpage dwpages dwname_is dwwhole_is dwof_way dwnumber_is dwrule_is dwrules_is dwpage_is dwbook_is dwbent d_law : FuncData} (T : Txt K mg a_is_whole a_is_within a_is_name a_way_named a_is_way_name a_is_slope_name a_is_hours a_begins_with_text a_is_rule a_is_rules a_is_page a_book_of a_is_book awbag awdraw awany awlabel awlabels awpace awhill awmoment awrule awrules awslopes awpage awpages awname_is awwhole_is awof_way awnumber_is awrule_is awrules_is awpage_is awbook_is awbent a_law cb_book_of tb_book_of cb_law tb_law d_is_whole d_is_within d_is_name d_way_named d_is_way_name d_is_slope_name d_is_hours d_begins_with_text d_is_rule d_is_rules d_is_page d_book_of d_is_book dwbag dwdraw dwany dwlabel dwlabels dwpace dwhill dwmoment dwrule dwrules dwslopes dwpage dwpages dwname_is dwwhole_is dwof_way dwnumber_is dwrule_is dwrules_is dwpage_is dwbook_is dwbent d_law)
include T
theorem ok_is_whole : FnOk P w K mg base CX0 1 a_is_whole d_is_whole ["thing"] (spP (famT tb_book_of tb_law K) F_is_whole) := by
  have eb : defBody s_is_whole = defBody s_is_whole := rfl
  conv at eb => rhs; whnf
  have es : defScope s_is_whole = defScope s_is_whole := rfl
  conv at es => rhs; whnf
  refine fn_ok3 (N := ["thing"]) (ps := ["thing"]) (k := 0) (m := m_is_whole) rfl T.F_is_whole sc_is_whole (by decide) eb es fun cdv A outer s H E hr => ?_
  unfold m_is_whole
  exact (ss_one (sv_ret (bs_ret (ev_and (ev_isi (be_callB call_isi rfl T.m_isinstance PyProof.Rows.boot_isinstance (ba_cons (EV.b (ev_name 0 (bv 0))) (ba_cons (be_bltn (v := .ty "int") rfl T.m_int PyProof.Rows.boot_int rfl) ba_nil))) kit_int) (ev_one (ev_not (ev_isi (be_callB call_isi rfl T.m_isinstance PyProof.Rows.boot_isinstance (ba_cons (EV.b (ev_name 0 (bv 0))) (ba_cons (be_bltn (v := .ty "bool") rfl T.m_bool PyProof.Rows.boot_bool rfl) ba_nil))) kit_bool)))))))
theorem ok_is_within (G_is_whole : FnOk P w K mg base CX0 1 a_is_whole d_is_whole ["thing"] (spP (famT tb_book_of tb_law K) F_is_whole)) : FnOk P w K mg base CX0 2 a_is_within d_is_within ["thing", "low", "high"] (spP (famT tb_book_of tb_law K) F_is_within) := by
  have eb : defBody s_is_within = defBody s_is_within := rfl
  conv at eb => rhs; whnf
  have es : defScope s_is_within = defScope s_is_within := rfl
  conv at es => rhs; whnf
  refine fn_ok3 (N := ["thing", "low", "high"]) (ps := ["thing", "low", "high"]) (k := 1) (m := m_is_within) rfl T.F_is_within sc_is_within (by decide) eb es fun cdv A outer s H E hr => ?_
  unfold m_is_within
  exact (ss_one (sv_ret (bs_ret (ev_and (ev_call (be_call G_is_whole (hr.mono (by decide)) rfl T.m_is_whole T.F_is_whole.kp T.b_is_whole .nil pass0 (av_cons (ev_name 0 (bv 0)) av_nil))) (ev_one (ev_chain op_leD ov_leD op_leD ov_leD (EV.b (ev_name 1 (bv 1))) (EV.b (ev_name 0 (bv 0))) (EV.b (ev_name 2 (bv 2)))))))))
theorem ok_is_name : FnOk P w K mg base CX0 1 a_is_name d_is_name ["thing"] (spP (famT tb_book_of tb_law K) F_is_name) := by
  obtain ⟨_, c_MOST_LETTERS⟩ := T.e_MOST_LETTERS
  have eb : defBody s_is_name = defBody s_is_name := rfl
  conv at eb => rhs; whnf
  have es : defScope s_is_name = defScope s_is_name := rfl
  conv at es => rhs; whnf
  refine fn_ok3 (N := ["thing"]) (ps := ["thing"]) (k := 0) (m := m_is_name) rfl T.F_is_name sc_is_name (by decide) eb es fun cdv A outer s H E hr => ?_
  unfold m_is_name
  exact (ss_cons (sv_if (bs_if (WV.t (wv_or (tv_not (tv_val (ev_isi (be_callB call_isi rfl T.m_isinstance PyProof.Rows.boot_isinstance (ba_cons (EV.b (ev_name 0 (bv 0))) (ba_cons (be_bltn (v := .ty "str") rfl T.m_str PyProof.Rows.boot_str rfl) ba_nil))) kit_str))) (wv_or1 (tv_not (tv_chain op_leD ov_leD op_leD ov_leD (EV.b ev_int) (EV.b (ev_callB (be_callB call_lenDD rfl T.m_len PySem.boot_len (ab_cons (EV.b (ev_name 0 (bv 0))) ab_nil)) cv_len)) (EV.b (ev_glob rfl c_MOST_LETTERS))))))) (ss_one (sv_ret (bs_ret ev_bl))) ss_nil))
    (ss_one (sv_ret (bs_ret (ev_callB (be_callB (call_all rfl) rfl T.m_all PyProof.Rows.boot_all (ab_cons (EV.b (EF.v (ef_lc (be_lc (LcScope.mk2 (N := ["sign"]) (js := [none]) (defScope s_is_name) ["thing"] rfl rfl (by decide +kernel)) rfl (iv_b (EV.b (ev_name 0 (bv 0)))) (fun _ _ _ _ => (gv_name (bg_name (i := 0) (by decide : (["sign"] : List Str).Nodup) rfl (Or.inl rfl)))) (fun _ _ _ _ => ts_nil) (fun _ _ _ _ => (ev_chain op_leD ov_leD op_leD ov_leD (EV.b ev_str) (EV.b (ev_name 0 (bv 0))) (EV.b ev_str))))))) ab_nil)) cv_all)))))
theorem ok_way_named : FnOk P w K mg base CX0 1 a_way_named d_way_named ["hill", "name"] (spP (famT tb_book_of tb_law K) F_way_named) := by
  have eb : defBody s_way_named = defBody s_way_named := rfl
  conv at eb => rhs; whnf
  have es : defScope s_way_named = defScope s_way_named := rfl
  conv at es => rhs; whnf
  refine fn_ok3 (N := ["hill", "name", "way"]) (ps := ["hill", "name"]) (k := 0) (m := m_way_named) rfl T.F_way_named sc_way_named (by decide) eb es fun cdv A outer s H E hr => ?_
  unfold m_way_named
  exact (ss_cons (sv_for (bs_for PassesOwn.never rfl (iv_v (ev_ix ix_seq ov_ix (EV.b (ev_name 0 (bv 0))) (EV.b ev_int) (fun _ _ => rfl))) (gs_name (bg_name (i := 2) sc_way_named.nd rfl (Or.inl rfl))) (ss_one (sv_if (bs_if (tv_cmp (op_eqD hr.units) (ov_eq false) (EV.b (ev_ix ix_seq ov_ix (EV.b (ev_name 2 (bv 2))) (EV.b ev_int) (fun _ _ => rfl))) (EV.b (ev_name 1 (bv 1))) (nomark _)) (ss_one (sv_ret (bs_ret (ev_name 2 (bv 2))))) ss_nil)))))
    (ss_one (sv_ret (bs_ret ev_non))))
theorem ok_is_way_name (G_is_name : FnOk P w K mg base CX0 1 a_is_name d_is_name ["thing"] (spP (famT tb_book_of tb_law K) F_is_name)) (G_way_named : FnOk P w K mg base CX0 1 a_way_named d_way_named ["hill", "name"] (spP (famT tb_book_of tb_law K) F_way_named)) : FnOk P w K mg base CX0 2 a_is_way_name d_is_way_name ["hill", "thing"] (spP (famT tb_book_of tb_law K) F_is_way_name) := by
  have eb : defBody s_is_way_name = defBody s_is_way_name := rfl
  conv at eb => rhs; whnf
  have es : defScope s_is_way_name = defScope s_is_way_name := rfl
  conv at es => rhs; whnf
  refine fn_ok3 (N := ["hill", "thing"]) (ps := ["hill", "thing"]) (k := 1) (m := m_is_way_name) rfl T.F_is_way_name sc_is_way_name (by decide) eb es fun cdv A outer s H E hr => ?_
  unfold m_is_way_name
  exact (ss_one (sv_ret (bs_ret (ev_and (ev_call (be_call G_is_name (hr.mono (by decide)) rfl T.m_is_name T.F_is_name.kp T.b_is_name .nil pass0 (av_cons (ev_name 1 (bv 1)) av_nil))) (ev_one (ev_cmp op_notN ov_notN (EV.b (ev_call (be_call G_way_named (hr.mono (by decide)) rfl T.m_way_named T.F_way_named.kp T.b_way_named .nil pass0 (av_cons (ev_name 0 (bv 0)) (av_cons (ev_name 1 (bv 1)) av_nil))))) (EV.b ev_non) (nomark _)))))))
theorem ok_is_slope_name (G_is_way_name : FnOk P w K mg base CX0 2 a_is_way_name d_is_way_name ["hill", "thing"] (spP (famT tb_book_of tb_law K) F_is_way_name)) (G_way_named : FnOk P w K mg base CX0 1 a_way_named d_way_named ["hill", "name"] (spP (famT tb_book_of tb_law K) F_way_named)) : FnOk P w K mg base CX0 3 a_is_slope_name d_is_slope_name ["hill", "thing"] (spP (famT tb_book_of tb_law K) F_is_slope_name) := by
  have eb : defBody s_is_slope_name = defBody s_is_slope_name := rfl
  conv at eb => rhs; whnf
  have es : defScope s_is_slope_name = defScope s_is_slope_name := rfl
  conv at es => rhs; whnf
  refine fn_ok3 (N := ["hill", "thing"]) (ps := ["hill", "thing"]) (k := 2) (m := m_is_slope_name) rfl T.F_is_slope_name sc_is_slope_name (by decide) eb es fun cdv A outer s H E hr => ?_
  unfold m_is_slope_name
  exact (ss_one (sv_ret (bs_ret (ev_and (ev_call (be_call G_is_way_name (hr.mono (by decide)) rfl T.m_is_way_name T.F_is_way_name.kp T.b_is_way_name .nil pass0 (av_cons (ev_name 0 (bv 0)) (av_cons (ev_name 1 (bv 1)) av_nil)))) (ev_one (ev_cmp (op_eqD hr.units) (ov_eq false) (EV.b (ev_ix ix_seq ov_ix (EV.b (ev_call (be_call G_way_named (hr.mono (by decide)) rfl T.m_way_named T.F_way_named.kp T.b_way_named .nil pass0 (av_cons (ev_name 0 (bv 0)) (av_cons (ev_name 1 (bv 1)) av_nil))))) (EV.b ev_int) (fun _ _ => rfl))) (EV.b ev_str) (nomark _)))))))
theorem ok_is_hours (G_is_within : FnOk P w K mg base CX0 2 a_is_within d_is_within ["thing", "low", "high"] (spP (famT tb_book_of tb_law K) F_is_within)) : FnOk P w K mg base CX0 3 a_is_hours d_is_hours ["a", "b"] (spP (famT tb_book_of tb_law K) F_is_hours) := by
  obtain ⟨_, c_MOST_HOUR⟩ := T.e_MOST_HOUR
  have eb : defBody s_is_hours = defBody s_is_hours := rfl
  conv at eb => rhs; whnf
  have es : defScope s_is_hours = defScope s_is_hours := rfl
  conv at es => rhs; whnf
  refine fn_ok3 (N := ["a", "b"]) (ps := ["a", "b"]) (k := 2) (m := m_is_hours) rfl T.F_is_hours sc_is_hours (by decide) eb es fun cdv A outer s H E hr => ?_
  unfold m_is_hours
  exact (ss_one (sv_ret (bs_ret (ev_and (ev_call (be_call G_is_within (hr.mono (by decide)) rfl T.m_is_within T.F_is_within.kp T.b_is_within .nil pass0 (by refine av_cons (ev_name 0 (bv 0)) ?_; refine av_cons ev_int ?_; refine av_cons (ev_glob rfl c_MOST_HOUR) ?_; exact av_nil))) (ev_and (ev_call (be_call G_is_within (hr.mono (by decide)) rfl T.m_is_within T.F_is_within.kp T.b_is_within .nil pass0 (by refine av_cons (ev_name 1 (bv 1)) ?_; refine av_cons ev_int ?_; refine av_cons (ev_glob rfl c_MOST_HOUR) ?_; exact av_nil))) (ev_one (ev_cmp op_lt ov_lt (EV.b (ev_name 0 (bv 0))) (EV.b (ev_name 1 (bv 1))) (nomark _))))))))
theorem ok_begins_with_text : FnOk P w K mg base CX0 1 a_begins_with_text d_begins_with_text ["thing"] (spP (famT tb_book_of tb_law K) F_begins_with_text) := by
  have eb : defBody s_begins_with_text = defBody s_begins_with_text := rfl
  conv at eb => rhs; whnf
  have es : defScope s_begins_with_text = defScope s_begins_with_text := rfl
  conv at es => rhs; whnf
  refine fn_ok3 (N := ["thing"]) (ps := ["thing"]) (k := 0) (m := m_begins_with_text) rfl T.F_begins_with_text sc_begins_with_text (by decide) eb es fun cdv A outer s H E hr => ?_
  unfold m_begins_with_text
  exact (ss_one (sv_ret (bs_ret (ev_and (ev_isi (be_callB call_isi rfl T.m_isinstance PyProof.Rows.boot_isinstance (ba_cons (EV.b (ev_name 0 (bv 0))) (ba_cons (be_bltn (v := .ty "tuple") rfl T.m_tuple PyProof.Rows.boot_tuple rfl) ba_nil))) kit_tuple) (ev_and (ev_cmp op_gt ov_gt (EV.b (ev_callB (be_callB call_lenDD rfl T.m_len PySem.boot_len (ab_cons (EV.b (ev_name 0 (bv 0))) ab_nil)) cv_len)) (EV.b ev_int) (nomark _)) (ev_one (ev_isi (be_callB call_isi rfl T.m_isinstance PyProof.Rows.boot_isinstance (ba_cons (EV.b (ev_ix ix_seq ov_ix (EV.b (ev_name 0 (bv 0))) (EV.b ev_int) (fun _ _ => rfl))) (ba_cons (be_bltn (v := .ty "str") rfl T.m_str PyProof.Rows.boot_str rfl) ba_nil))) kit_str)))))))
theorem ok_is_rule (G_begins_with_text : FnOk P w K mg base CX0 1 a_begins_with_text d_begins_with_text ["thing"] (spP (famT tb_book_of tb_law K) F_begins_with_text)) (G_is_hours : FnOk P w K mg base CX0 3 a_is_hours d_is_hours ["a", "b"] (spP (famT tb_book_of tb_law K) F_is_hours)) (G_is_name : FnOk P w K mg base CX0 1 a_is_name d_is_name ["thing"] (spP (famT tb_book_of tb_law K) F_is_name)) (G_is_whole : FnOk P w K mg base CX0 1 a_is_whole d_is_whole ["thing"] (spP (famT tb_book_of tb_law K) F_is_whole)) (G_is_within : FnOk P w K mg base CX0 2 a_is_within d_is_within ["thing", "low", "high"] (spP (famT tb_book_of tb_law K) F_is_within)) (G_is_way_name : FnOk P w K mg base CX0 2 a_is_way_name d_is_way_name ["hill", "thing"] (spP (famT tb_book_of tb_law K) F_is_way_name)) : FnOk P w K mg base CX0 4 a_is_rule d_is_rule ["hill", "thing"] (spP (famT tb_book_of tb_law K) F_is_rule) := by
  obtain ⟨_, c_MOST_LOOKED⟩ := T.e_MOST_LOOKED
  have eb : defBody s_is_rule = defBody s_is_rule := rfl
  conv at eb => rhs; whnf
  have es : defScope s_is_rule = defScope s_is_rule := rfl
  conv at es => rhs; whnf
  refine fn_ok3 (N := ["hill", "thing", "word"]) (ps := ["hill", "thing"]) (k := 3) (m := m_is_rule) rfl T.F_is_rule sc_is_rule (by decide) eb es fun cdv A outer s H E hr => ?_
  unfold m_is_rule
  exact (ss_cons (sv_if (bs_if (tv_not (tv_val (ev_call (be_call G_begins_with_text (hr.mono (by decide)) rfl T.m_begins_with_text T.F_begins_with_text.kp T.b_begins_with_text .nil pass0 (av_cons (ev_name 1 (bv 1)) av_nil))))) (ss_one (sv_ret (bs_ret ev_bl))) ss_nil))
    (ss_cons (sv_set (bs_set (i := 2) sc_is_rule.nd rfl (Or.inl rfl) (ev_ix ix_seq ov_ix (EV.b (ev_name 1 (bv 1))) (EV.b ev_int) (fun _ _ => rfl))))
    (ss_cons (sv_if (bs_if (tv_cmp (op_eqD hr.units) (ov_eq false) (EV.b (ev_name 2 (bv 2))) (EV.b ev_str) (nomark _)) (ss_one (sv_ret (bs_ret (ev_and (ev_cmp (op_eqD hr.units) (ov_eq false) (EV.b (ev_callB (be_callB call_lenDD rfl T.m_len PySem.boot_len (ab_cons (EV.b (ev_name 1 (bv 1))) ab_nil)) cv_len)) (EV.b ev_int) (nomark _)) (ev_one (ev_call (be_call G_is_hours (hr.mono (by decide)) rfl T.m_is_hours T.F_is_hours.kp T.b_is_hours .nil pass0 (av_cons (ev_ix ix_seq ov_ix (EV.b (ev_name 1 (bv 1))) (EV.b ev_int) (fun _ _ => rfl)) (av_cons (ev_ix ix_seq ov_ix (EV.b (ev_name 1 (bv 1))) (EV.b ev_int) (fun _ _ => rfl)) av_nil))))))))) ss_nil))
    (ss_cons (sv_if (bs_if (WV.t (wv_or (tv_cmp (op_eqD hr.units) (ov_eq false) (EV.b (ev_name 2 (bv 2))) (EV.b ev_str) (nomark _)) (wv_or1 (tv_cmp (op_eqD hr.units) (ov_eq false) (EV.b (ev_name 2 (bv 2))) (EV.b ev_str) (nomark _))))) (ss_one (sv_ret (bs_ret (ev_and (ev_cmp (op_eqD hr.units) (ov_eq false) (EV.b (ev_callB (be_callB call_lenDD rfl T.m_len PySem.boot_len (ab_cons (EV.b (ev_name 1 (bv 1))) ab_nil)) cv_len)) (EV.b ev_int) (nomark _)) (ev_and (ev_call (be_call G_is_name (hr.mono (by decide)) rfl T.m_is_name T.F_is_name.kp T.b_is_name .nil pass0 (av_cons (ev_ix ix_seq ov_ix (EV.b (ev_name 1 (bv 1))) (EV.b ev_int) (fun _ _ => rfl)) av_nil))) (ev_one (ev_call (be_call G_is_whole (hr.mono (by decide)) rfl T.m_is_whole T.F_is_whole.kp T.b_is_whole .nil pass0 (av_cons (ev_ix ix_seq ov_ix (EV.b (ev_name 1 (bv 1))) (EV.b ev_int) (fun _ _ => rfl)) av_nil))))))))) ss_nil))
    (ss_cons (sv_if (bs_if (tv_cmp (op_eqD hr.units) (ov_eq false) (EV.b (ev_name 2 (bv 2))) (EV.b ev_str) (nomark _)) (ss_one (sv_ret (bs_ret (ev_and (ev_cmp (op_eqD hr.units) (ov_eq false) (EV.b (ev_callB (be_callB call_lenDD rfl T.m_len PySem.boot_len (ab_cons (EV.b (ev_name 1 (bv 1))) ab_nil)) cv_len)) (EV.b ev_int) (nomark _)) (ev_one (ev_call (be_call G_is_within (hr.mono (by decide)) rfl T.m_is_within T.F_is_within.kp T.b_is_within .nil pass0 (by refine av_cons (ev_ix ix_seq ov_ix (EV.b (ev_name 1 (bv 1))) (EV.b ev_int) (fun _ _ => rfl)) ?_; refine av_cons ev_int ?_; refine av_cons (ev_glob rfl c_MOST_LOOKED) ?_; exact av_nil)))))))) ss_nil))
    (ss_cons (sv_if (bs_if (tv_cmp (op_eqD hr.units) (ov_eq false) (EV.b (ev_name 2 (bv 2))) (EV.b ev_str) (nomark _)) (ss_one (sv_ret (bs_ret (ev_and (ev_cmp (op_eqD hr.units) (ov_eq false) (EV.b (ev_callB (be_callB call_lenDD rfl T.m_len PySem.boot_len (ab_cons (EV.b (ev_name 1 (bv 1))) ab_nil)) cv_len)) (EV.b ev_int) (nomark _)) (ev_one (ev_call (be_call G_is_way_name (hr.mono (by decide)) rfl T.m_is_way_name T.F_is_way_name.kp T.b_is_way_name .nil pass0 (av_cons (ev_name 0 (bv 0)) (av_cons (ev_ix ix_seq ov_ix (EV.b (ev_name 1 (bv 1))) (EV.b ev_int) (fun _ _ => rfl)) av_nil))))))))) ss_nil))
    (ss_one (sv_ret (bs_ret (ev_and (ev_cmp (op_eqD hr.units) (ov_eq false) (EV.b (ev_name 2 (bv 2))) (EV.b ev_str) (nomark _)) (ev_one (ev_cmp (op_eqD hr.units) (ov_eq false) (EV.b (ev_callB (be_callB call_lenDD rfl T.m_len PySem.boot_len (ab_cons (EV.b (ev_name 1 (bv 1))) ab_nil)) cv_len)) (EV.b ev_int) (nomark _)))))))))))))
theorem ok_is_rules (G_is_rule : FnOk P w K mg base CX0 4 a_is_rule d_is_rule ["hill", "thing"] (spP (famT tb_book_of tb_law K) F_is_rule)) : FnOk P w K mg base CX0 5 a_is_rules d_is_rules ["hill", "thing"] (spP (famT tb_book_of tb_law K) F_is_rules) := by
  obtain ⟨_, c_MOST_RULES⟩ := T.e_MOST_RULES
  have eb : defBody s_is_rules = defBody s_is_rules := rfl
  conv at eb => rhs; whnf
  have es : defScope s_is_rules = defScope s_is_rules := rfl
  conv at es => rhs; whnf
  refine fn_ok3 (N := ["hill", "thing"]) (ps := ["hill", "thing"]) (k := 4) (m := m_is_rules) rfl T.F_is_rules sc_is_rules (by decide) eb es fun cdv A outer s H E hr => ?_
  unfold m_is_rules
  exact (ss_cons (sv_if (bs_if (WV.t (wv_or (tv_not (tv_val (ev_isi (be_callB call_isi rfl T.m_isinstance PyProof.Rows.boot_isinstance (ba_cons (EV.b (ev_name 1 (bv 1))) (ba_cons (be_bltn (v := .ty "tuple") rfl T.m_tuple PyProof.Rows.boot_tuple rfl) ba_nil))) kit_tuple))) (wv_or1 (tv_cmp op_gt ov_gt (EV.b (ev_callB (be_callB call_lenDD rfl T.m_len PySem.boot_len (ab_cons (EV.b (ev_name 1 (bv 1))) ab_nil)) cv_len)) (EV.b (ev_glob rfl c_MOST_RULES)) (nomark _))))) (ss_one (sv_ret (bs_ret ev_bl))) ss_nil))
    (ss_one (sv_ret (bs_ret (ev_callB (be_callB (call_all rfl) rfl T.m_all PyProof.Rows.boot_all (ab_cons (EV.b (EF.v (ef_lc (be_lc (LcScope.mk2 (N := ["rule", "hill"]) (js := [none, some 0]) (defScope s_is_rules) ["hill", "thing"] rfl rfl (by decide +kernel)) rfl (iv_b (EV.b (ev_name 1 (bv 1)))) (fun _ _ _ _ => (gv_name (bg_name (i := 0) (by decide : (["rule", "hill"] : List Str).Nodup) rfl (Or.inl rfl)))) (fun _ _ _ _ => ts_nil) (fun _ _ _ _ => (ev_call (be_call G_is_rule (hr.mono (by decide)) rfl T.m_is_rule T.F_is_rule.kp T.b_is_rule .nil pass0 (av_cons (ev_name 1 (bv 1)) (av_cons (ev_name 0 (bv 0)) av_nil))))))))) ab_nil)) cv_all)))))
theorem ok_is_page (G_begins_with_text : FnOk P w K mg base CX0 1 a_begins_with_text d_begins_with_text ["thing"] (spP (famT tb_book_of tb_law K) F_begins_with_text)) (G_is_within : FnOk P w K mg base CX0 2 a_is_within d_is_within ["thing", "low", "high"] (spP (famT tb_book_of tb_law K) F_is_within)) (G_is_name : FnOk P w K mg base CX0 1 a_is_name d_is_name ["thing"] (spP (famT tb_book_of tb_law K) F_is_name)) (G_is_whole : FnOk P w K mg base CX0 1 a_is_whole d_is_whole ["thing"] (spP (famT tb_book_of tb_law K) F_is_whole)) (G_is_slope_name : FnOk P w K mg base CX0 3 a_is_slope_name d_is_slope_name ["hill", "thing"] (spP (famT tb_book_of tb_law K) F_is_slope_name)) (G_is_way_name : FnOk P w K mg base CX0 2 a_is_way_name d_is_way_name ["hill", "thing"] (spP (famT tb_book_of tb_law K) F_is_way_name)) (G_is_rules : FnOk P w K mg base CX0 5 a_is_rules d_is_rules ["hill", "thing"] (spP (famT tb_book_of tb_law K) F_is_rules)) : FnOk P w K mg base CX0 6 a_is_page d_is_page ["hill", "thing"] (spP (famT tb_book_of tb_law K) F_is_page) := by
  obtain ⟨_, c_MOST_NUMBER⟩ := T.e_MOST_NUMBER
  have eb : defBody s_is_page = defBody s_is_page := rfl
  conv at eb => rhs; whnf
  have es : defScope s_is_page = defScope s_is_page := rfl
  conv at es => rhs; whnf
  refine fn_ok3 (N := ["hill", "thing", "word"]) (ps := ["hill", "thing"]) (k := 5) (m := m_is_page) rfl T.F_is_page sc_is_page (by decide) eb es fun cdv A outer s H E hr => ?_
  unfold m_is_page
  exact (ss_cons (sv_if (bs_if (WV.t (wv_or (tv_not (tv_val (ev_call (be_call G_begins_with_text (hr.mono (by decide)) rfl T.m_begins_with_text T.F_begins_with_text.kp T.b_begins_with_text .nil pass0 (av_cons (ev_name 1 (bv 1)) av_nil))))) (wv_or1 (tv_cmp op_lt ov_lt (EV.b (ev_callB (be_callB call_lenDD rfl T.m_len PySem.boot_len (ab_cons (EV.b (ev_name 1 (bv 1))) ab_nil)) cv_len)) (EV.b ev_int) (nomark _))))) (ss_one (sv_ret (bs_ret ev_bl))) ss_nil))
    (ss_cons (sv_if (bs_if (WV.t (wv_or (tv_not (tv_val (ev_call (be_call G_is_within (hr.mono (by decide)) rfl T.m_is_within T.F_is_within.kp T.b_is_within .nil pass0 (by refine av_cons (ev_ix ix_seq ov_ix (EV.b (ev_name 1 (bv 1))) (EV.b ev_int) (fun _ _ => rfl)) ?_; refine av_cons ev_int ?_; refine av_cons (ev_glob rfl c_MOST_NUMBER) ?_; exact av_nil))))) (wv_or1 (tv_not (tv_val (ev_call (be_call G_is_within (hr.mono (by decide)) rfl T.m_is_within T.F_is_within.kp T.b_is_within .nil pass0 (by refine av_cons (ev_ix ix_seq ov_ix (EV.b (ev_name 1 (bv 1))) (EV.b ev_int) (fun _ _ => rfl)) ?_; refine av_cons ev_int ?_; refine av_cons (ev_ix ix_seq ov_ix (EV.b (ev_name 0 (bv 0))) (EV.b ev_int) (fun _ _ => rfl)) ?_; exact av_nil)))))))) (ss_one (sv_ret (bs_ret ev_bl))) ss_nil))
    (ss_cons (sv_set (bs_set (i := 2) sc_is_page.nd rfl (Or.inl rfl) (ev_ix ix_seq ov_ix (EV.b (ev_name 1 (bv 1))) (EV.b ev_int) (fun _ _ => rfl))))
    (ss_cons (sv_if (bs_if (tv_cmp (op_eqD hr.units) (ov_eq false) (EV.b (ev_name 2 (bv 2))) (EV.b ev_str) (nomark _)) (ss_one (sv_ret (bs_ret (ev_and (ev_cmp (op_eqD hr.units) (ov_eq false) (EV.b (ev_callB (be_callB call_lenDD rfl T.m_len PySem.boot_len (ab_cons (EV.b (ev_name 1 (bv 1))) ab_nil)) cv_len)) (EV.b ev_int) (nomark _)) (ev_and (ev_call (be_call G_is_name (hr.mono (by decide)) rfl T.m_is_name T.F_is_name.kp T.b_is_name .nil pass0 (av_cons (ev_ix ix_seq ov_ix (EV.b (ev_name 1 (bv 1))) (EV.b ev_int) (fun _ _ => rfl)) av_nil))) (ev_one (ev_call (be_call G_is_whole (hr.mono (by decide)) rfl T.m_is_whole T.F_is_whole.kp T.b_is_whole .nil pass0 (av_cons (ev_ix ix_seq ov_ix (EV.b (ev_name 1 (bv 1))) (EV.b ev_int) (fun _ _ => rfl)) av_nil))))))))) ss_nil))
    (ss_cons (sv_if (bs_if (tv_cmp (op_eqD hr.units) (ov_eq false) (EV.b (ev_name 2 (bv 2))) (EV.b ev_str) (nomark _)) (ss_one (sv_ret (bs_ret (ev_and (ev_cmp (op_eqD hr.units) (ov_eq false) (EV.b (ev_callB (be_callB call_lenDD rfl T.m_len PySem.boot_len (ab_cons (EV.b (ev_name 1 (bv 1))) ab_nil)) cv_len)) (EV.b ev_int) (nomark _)) (ev_one (ev_call (be_call G_is_slope_name (hr.mono (by decide)) rfl T.m_is_slope_name T.F_is_slope_name.kp T.b_is_slope_name .nil pass0 (av_cons (ev_name 0 (bv 0)) (av_cons (ev_ix ix_seq ov_ix (EV.b (ev_name 1 (bv 1))) (EV.b ev_int) (fun _ _ => rfl)) av_nil))))))))) ss_nil))
    (ss_cons (sv_if (bs_if (tv_cmp (op_eqD hr.units) (ov_eq false) (EV.b (ev_name 2 (bv 2))) (EV.b ev_str) (nomark _)) (ss_one (sv_ret (bs_ret (ev_and (ev_cmp (op_eqD hr.units) (ov_eq false) (EV.b (ev_callB (be_callB call_lenDD rfl T.m_len PySem.boot_len (ab_cons (EV.b (ev_name 1 (bv 1))) ab_nil)) cv_len)) (EV.b ev_int) (nomark _)) (ev_and (ev_call (be_call G_is_way_name (hr.mono (by decide)) rfl T.m_is_way_name T.F_is_way_name.kp T.b_is_way_name .nil pass0 (av_cons (ev_name 0 (bv 0)) (av_cons (ev_ix ix_seq ov_ix (EV.b (ev_name 1 (bv 1))) (EV.b ev_int) (fun _ _ => rfl)) av_nil)))) (ev_one (ev_call (be_call G_is_rules (hr.mono (by decide)) rfl T.m_is_rules T.F_is_rules.kp T.b_is_rules .nil pass0 (av_cons (ev_name 0 (bv 0)) (av_cons (ev_ix ix_seq ov_ix (EV.b (ev_name 1 (bv 1))) (EV.b ev_int) (fun _ _ => rfl)) av_nil)))))))))) ss_nil))
    (ss_one (sv_ret (bs_ret ev_bl)))))))))
theorem ok_book_of (kb : K.In base) (hB : BIn base mg) : FnOk P w K mg base CX0 4 a_book_of d_book_of ["pages"] (spP (famT tb_book_of tb_law K) F_book_of) := by
  have eb : defBody s_book_of = defBody s_book_of := rfl
  conv at eb => rhs; whnf
  have es : defScope s_book_of = defScope s_book_of := rfl
  conv at es => rhs; whnf
  refine fn_okC (N := ["pages"]) (ps := ["pages"]) (k := 3) (m := m_book_of) rfl T.L_book_of sc_book_of (by decide) eb es fun A outer s H E hr => ?_
  unfold m_book_of
  exact (ss_one (sv_ret (bs_ret (ev_callB (be_callTy call_tuple_of rfl T.m_tuple PyProof.Rows.boot_tuple (ab_cons (EV.b (EF.v (ef_sortE (tb := (tb_book_of, _)) List.mem_cons_self (by intro q hq e; simp only [List.mem_cons, List.not_mem_nil, or_false] at hq; rcases hq with rfl | rfl <;> first | rfl | exact absurd e T.ne_law_book_of) ⟨pe_sortE (k := 0) (N := ["page"]) (y := "page") (hr.mono (by decide)) hB rfl (PySem.W.codeHd_of_K kb T.L_book_of.hd) rfl rfl ⟨rfl, rfl, rfl, by decide, rfl, by decide +kernel, by decide +kernel⟩ (fun _ _ _ _ _ => .of_eq rfl) (fun _ _ _ _ _ => pe_tup (pa_cons (pe_ix ix_tup (pv 0) pe_int (fun _ _ => rfl)) (pa_cons (pe_ix ix_tup (pv 0) pe_int (fun _ _ => rfl)) pa_nil))) rfl T.m_sorted (EV.b (ev_name 0 (bv 0))).out⟩))) ab_nil)) cv_tup))))
theorem ok_is_book (G_book_of : FnOk P w K mg base CX0 4 a_book_of d_book_of ["pages"] (spP (famT tb_book_of tb_law K) F_book_of)) (G_is_page : FnOk P w K mg base CX0 6 a_is_page d_is_page ["hill", "thing"] (spP (famT tb_book_of tb_law K) F_is_page)) : FnOk P w K mg base CX0 7 a_is_book d_is_book ["hill", "thing"] (spP (famT tb_book_of tb_law K) F_is_book) := by
  have eb : defBody s_is_book = defBody s_is_book := rfl
  conv at eb => rhs; whnf
  have es : defScope s_is_book = defScope s_is_book := rfl
  conv at es => rhs; whnf
  refine fn_ok3 (N := ["hill", "thing"]) (ps := ["hill", "thing"]) (k := 6) (m := m_is_book) rfl T.F_is_book sc_is_book (by decide) eb es fun cdv A outer s H E hr => ?_
  unfold m_is_book
  exact (ss_cons (sv_if (bs_if (WV.t (wv_or (tv_not (tv_val (ev_isi (be_callB call_isi rfl T.m_isinstance PyProof.Rows.boot_isinstance (ba_cons (EV.b (ev_name 1 (bv 1))) (ba_cons (be_bltn (v := .ty "tuple") rfl T.m_tuple PyProof.Rows.boot_tuple rfl) ba_nil))) kit_tuple))) (wv_or1 (tv_not (tv_val (ev_callB (be_callB (call_all rfl) rfl T.m_all PyProof.Rows.boot_all (ab_cons (EV.b (EF.v (ef_lc (be_lc (LcScope.mk2 (N := ["page", "hill"]) (js := [none, some 0]) (defScope s_is_book) ["hill", "thing"] rfl rfl (by decide +kernel)) rfl (iv_b (EV.b (ev_name 1 (bv 1)))) (fun _ _ _ _ => (gv_name (bg_name (i := 0) (by decide : (["page", "hill"] : List Str).Nodup) rfl (Or.inl rfl)))) (fun _ _ _ _ => ts_nil) (fun _ _ _ _ => (ev_call (be_call G_is_page (hr.mono (by decide)) rfl T.m_is_page T.F_is_page.kp T.b_is_page .nil pass0 (av_cons (ev_name 1 (bv 1)) (av_cons (ev_name 0 (bv 0)) av_nil))))))))) ab_nil)) cv_all)))))) (ss_one (sv_ret (bs_ret ev_bl))) ss_nil))
    (ss_one (sv_ret (bs_ret (ev_and (ev_cmp (op_eqD hr.units) (ov_eq false) (EV.b (ev_name 1 (bv 1))) (EV.b (ev_call (be_call G_book_of (hr.mono (by decide)) rfl T.m_book_of T.F_book_of.kp T.b_book_of .nil pass0 (av_cons (ev_name 1 (bv 1)) av_nil)))) (nomark _)) (ev_one (ev_cmp (op_eqD hr.units) (ov_eq false) (EV.b (ev_lenSC (be_callB call_lenKK rfl T.m_len PySem.boot_len (ba_cons (be_sc (LcScope.mk2 (N := ["page"]) (js := [none]) (defScope s_is_book) ["hill", "thing"] rfl rfl (by decide +kernel)) rfl (iv_b (EV.b (ev_name 1 (bv 1)))) (fun _ _ _ _ => (gv_name (bg_name (i := 0) (by decide : (["page"] : List Str).Nodup) rfl (Or.inl rfl)))) (fun _ _ _ _ => ts_nil) (fun _ _ _ _ => (ev_ix ix_seq ov_ix (EV.b (ev_name 0 (bv 0))) (EV.b ev_int) (fun _ _ => rfl)))) ba_nil)))) (EV.b (ev_callB (be_callB call_lenDD rfl T.m_len PySem.boot_len (ab_cons (EV.b (ev_name 1 (bv 1))) ab_nil)) cv_len)) (nomark _))))))))
theorem ok_law_any (G_law_draw : FnOk P w K mg base CX0 1 awdraw dwdraw ["_law_bag_here", "_law_many"] (spP (famT tb_book_of tb_law K) F_law_draw)) : FnOk P w K mg base CX0 2 awany dwany ["_law_bag_here", "_law_some"] (spP (famT tb_book_of tb_law K) F_law_any) := by
  have eb : defBody s_law_any = defBody s_law_any := rfl
  conv at eb => rhs; whnf
  have es : defScope s_law_any = defScope s_law_any := rfl
  conv at es => rhs; whnf
  refine fn_ok3 (N := ["_law_bag_here", "_law_some"]) (ps := ["_law_bag_here", "_law_some"]) (k := 1) (m := m_law_any) rfl T.F_law_any sc_law_any (by decide) eb es fun cdv A outer s H E hr => ?_
  unfold m_law_any
  exact (ss_one (sv_ret (bs_ret (ev_ix ix_seq ov_ix (EV.b (ev_name 1 (bv 1))) (EV.b (ev_call (be_call G_law_draw (hr.mono (by decide)) rfl T.m_law_draw T.F_law_draw.kp T.b_law_draw .nil pass0 (av_cons (ev_name 0 (bv 0)) (av_cons (ev_callB (be_callB call_lenDD rfl T.m_len PySem.boot_len (ab_cons (EV.b (ev_name 1 (bv 1))) ab_nil)) cv_len) av_nil))))) (fun _ _ => rfl)))))
theorem ok_law_label (G_law_draw : FnOk P w K mg base CX0 1 awdraw dwdraw ["_law_bag_here", "_law_many"] (spP (famT tb_book_of tb_law K) F_law_draw)) : FnOk P w K mg base CX0 2 awlabel dwlabel ["_law_bag_here"] (spP (famT tb_book_of tb_law K) F_law_label) := by
  have eb : defBody s_law_label = defBody s_law_label := rfl
  conv at eb => rhs; whnf
  have es : defScope s_law_label = defScope s_law_label := rfl
  conv at es => rhs; whnf
  refine fn_ok3 (N := ["_law_bag_here", "_law_size"]) (ps := ["_law_bag_here"]) (k := 1) (m := m_law_label) rfl T.F_law_label sc_law_label (by decide) eb es fun cdv A outer s H E hr => ?_
  unfold m_law_label
  exact (ss_cons (sv_set (bs_set (i := 1) sc_law_label.nd rfl (Or.inl rfl) (ev_ix ix_seq ov_ix (EV.b (EF.v (ef_lst (by refine av_cons ev_int ?_; refine av_cons ev_int ?_; refine av_cons ev_int ?_; refine av_cons ev_int ?_; refine av_cons ev_int ?_; refine av_cons ev_int ?_; refine av_cons ev_int ?_; refine av_cons ev_int ?_; exact av_nil)))) (EV.b (ev_call (be_call G_law_draw (hr.mono (by decide)) rfl T.m_law_draw T.F_law_draw.kp T.b_law_draw .nil pass0 (av_cons (ev_name 0 (bv 0)) (av_cons ev_int av_nil))))) (fun _ _ => rfl))))
    (ss_one (sv_ret (bs_ret (ev_bm (be_bm PySem.F.plainAttrs_str PySem.F.slot_str_join PySem.F.type_str_join mt_join (EV.b ev_str) (ab_cons (EV.b (EF.v (ef_lc (be_lc (LcScope.mk2 (N := ["_law_k", "_law_bag_here"]) (js := [none, some 0]) (defScope s_law_label) ["_law_bag_here", "_law_size"] rfl rfl (by decide +kernel)) rfl (iv_rng1 (bi_range1 rfl T.m_range (ab_cons (EV.b (ev_name 1 (bv 1))) ab_nil))) (fun _ _ _ _ => (gv_name (bg_name (i := 0) (by decide : (["_law_k", "_law_bag_here"] : List Str).Nodup) rfl (Or.inl rfl)))) (fun _ _ _ _ => ts_nil) (fun _ _ _ _ => (ev_ix ix_seq ov_ix (EV.b ev_str) (EV.b (ev_call (be_call G_law_draw (hr.mono (by decide)) rfl T.m_law_draw T.F_law_draw.kp T.b_law_draw .nil pass0 (av_cons (ev_name 1 (bv 1)) (av_cons ev_int av_nil))))) (fun _ _ => rfl))))))) ab_nil)) mv_join)))))
theorem ok_law_labels (G_law_draw : FnOk P w K mg base CX0 1 awdraw dwdraw ["_law_bag_here", "_law_many"] (spP (famT tb_book_of tb_law K) F_law_draw)) (G_law_label : FnOk P w K mg base CX0 2 awlabel dwlabel ["_law_bag_here"] (spP (famT tb_book_of tb_law K) F_law_label)) : FnOk P w K mg base CX0 3 awlabels dwlabels ["_law_bag_here", "_law_many"] (spP (famT tb_book_of tb_law K) F_law_labels) := by
  have eb : defBody s_law_labels = defBody s_law_labels := rfl
  conv at eb => rhs; whnf
  have es : defScope s_law_labels = defScope s_law_labels := rfl
  conv at es => rhs; whnf
  refine fn_ok3 (N := ["_law_bag_here", "_law_many", "_law_letters", "_law_found", "_law_stem", "_law_k", "_law_name", "_law_turn"]) (ps := ["_law_bag_here", "_law_many"]) (k := 2) (m := m_law_labels) rfl T.F_law_labels sc_law_labels (by decide) eb es fun cdv A outer s H E hr => ?_
  unfold m_law_labels
  exact (ss_cons (sv_parVO (bs_par (i := 2) (j := 3) rfl sc_law_labels.nd rfl rfl (by decide) rfl rfl (ba_cons ev_str (ba_cons (ef_lst av_nil) ba_nil)) rfl))
    (ss_cons (sv_set (bs_set (i := 4) sc_law_labels.nd rfl (Or.inl rfl) (ev_if (tv_cmp (op_eqD hr.units) (ov_eq false) (EV.b (ev_call (be_call G_law_draw (hr.mono (by decide)) rfl T.m_law_draw T.F_law_draw.kp T.b_law_draw .nil pass0 (av_cons (ev_name 0 (bv 0)) (av_cons ev_int av_nil))))) (EV.b ev_int) (nomark _)) (ev_slice (be_slice sl_E (EV.b (ev_call (be_call G_law_label (hr.mono (by decide)) rfl T.m_law_label T.F_law_label.kp T.b_law_label .nil pass0 (av_cons (ev_name 0 (bv 0)) av_nil)))) ov_none (ov_some (EV.b ev_int))) sv_E) ev_str)))
    (ss_cons (sv_for (bs_for PassesOwn.never rfl (iv_rng1 (bi_range1 rfl T.m_range (ab_cons (EV.b (ev_name 1 (bv 1))) ab_nil))) (gs_name (bg_name (i := 5) sc_law_labels.nd rfl (Or.inl rfl))) (ss_cons (sv_set (bs_set (i := 6) sc_law_labels.nd rfl (Or.inl rfl) (ev_slice (be_slice sl_E (EV.b (ev_bin op_addD ov_add (EV.b (ev_name 4 (bv 4))) (EV.b (ev_call (be_call G_law_label (hr.mono (by decide)) rfl T.m_law_label T.F_law_label.kp T.b_law_label .nil pass0 (av_cons (ev_name 0 (bv 0)) av_nil)))))) ov_none (ov_some (EV.b ev_int))) sv_E)))
    (ss_cons (sv_for (bs_for PassesOwn.never rfl (iv_rng1 (bi_range1 rfl T.m_range (ab_cons (EV.b ev_int) ab_nil))) (gs_name (bg_name (i := 7) sc_law_labels.nd rfl (Or.inl rfl))) (ss_one (sv_if (bs_if (tv_cmp op_inD (ov_in false) (EV.b (ev_name 6 (bv 6))) (eb_name 3 (bv 3)) rfl) (ss_one (sv_set (bs_set (i := 6) sc_law_labels.nd rfl (Or.inl rfl) (ev_bin op_addD ov_add (EV.b (ev_slice (be_slice sl_E (EV.b (ev_name 6 (bv 6))) ov_none (ov_some (EV.b (ev_neg (be_un un_neg (EV.b ev_int)))))) sv_E)) (EV.b (ev_ix ix_seq ov_ix (EV.b (ev_name 2 (bv 2))) (EV.b (ev_bin op_mod ov_mod (EV.b (ev_bin op_addD ov_add (EV.b (ev_bm (be_bm PySem.F.plainAttrs_str PySem.F.slot_str_index PySem.F.type_str_index mt_index (EV.b (ev_name 2 (bv 2))) (ab_cons (EV.b (ev_ix ix_seq ov_ix (EV.b (ev_name 6 (bv 6))) (EV.b (ev_neg (be_un un_neg (EV.b ev_int)))) (fun _ _ => rfl))) ab_nil)) mv_index)) (EV.b ev_int))) (EV.b ev_int))) (fun _ _ => rfl))))))) ss_nil)))))
    (ss_one (sv_app (k := 3) (bs_expr (be_bm PySem.F.plainAttrs_list PySem.F.slot_list_append PySem.F.type_list_append mt_append (bv 3) (ba_cons (ev_name 6 (bv 6)) ba_nil)))))))))
    (ss_one (sv_ret (bs_ret (ev_name 3 (bv 3))))))))
theorem ok_law_pace (G_law_draw : FnOk P w K mg base CX0 1 awdraw dwdraw ["_law_bag_here", "_law_many"] (spP (famT tb_book_of tb_law K) F_law_draw)) : FnOk P w K mg base CX0 2 awpace dwpace ["_law_bag_here", "_law_scale"] (spP (famT tb_book_of tb_law K) F_law_pace) := by
  have eb : defBody s_law_pace = defBody s_law_pace := rfl
  conv at eb => rhs; whnf
  have es : defScope s_law_pace = defScope s_law_pace := rfl
  conv at es => rhs; whnf
  refine fn_ok3 (N := ["_law_bag_here", "_law_scale"]) (ps := ["_law_bag_here", "_law_scale"]) (k := 1) (m := m_law_pace) rfl T.F_law_pace sc_law_pace (by decide) eb es fun cdv A outer s H E hr => ?_
  unfold m_law_pace
  exact (ss_one (sv_ret (bs_ret (ev_ix ix_seq ov_ix (EV.b (EF.v (ef_lst (by refine av_cons ev_int ?_; refine av_cons ev_int ?_; refine av_cons (ev_name 1 (bv 1)) ?_; refine av_cons ev_int ?_; refine av_cons (ev_bin op_mulE ov_mulE (EV.b ev_int) (EV.b (ev_name 1 (bv 1)))) ?_; refine av_cons (ev_bin op_mulE ov_mulE (EV.b ev_int) (EV.b (ev_name 1 (bv 1)))) ?_; refine av_cons (ev_bin op_mulE ov_mulE (EV.b ev_int) (EV.b (ev_name 1 (bv 1)))) ?_; refine av_cons (ev_bin op_addD ov_add (EV.b (ev_name 1 (bv 1))) (EV.b ev_int)) ?_; exact av_nil)))) (EV.b (ev_call (be_call G_law_draw (hr.mono (by decide)) rfl T.m_law_draw T.F_law_draw.kp T.b_law_draw .nil pass0 (av_cons (ev_name 0 (bv 0)) (av_cons ev_int av_nil))))) (fun _ _ => rfl)))))
theorem ok_law_hill (G_law_labels : FnOk P w K mg base CX0 3 awlabels dwlabels ["_law_bag_here", "_law_many"] (spP (famT tb_book_of tb_law K) F_law_labels)) (G_law_draw : FnOk P w K mg base CX0 1 awdraw dwdraw ["_law_bag_here", "_law_many"] (spP (famT tb_book_of tb_law K) F_law_draw)) (G_law_any : FnOk P w K mg base CX0 2 awany dwany ["_law_bag_here", "_law_some"] (spP (famT tb_book_of tb_law K) F_law_any)) (G_law_pace : FnOk P w K mg base CX0 2 awpace dwpace ["_law_bag_here", "_law_scale"] (spP (famT tb_book_of tb_law K) F_law_pace)) : FnOk P w K mg base CX0 4 awhill dwhill ["_law_bag_here"] (spP (famT tb_book_of tb_law K) F_law_hill) := by
  have eb : defBody s_law_hill = defBody s_law_hill := rfl
  conv at eb => rhs; whnf
  have es : defScope s_law_hill = defScope s_law_hill := rfl
  conv at es => rhs; whnf
  refine fn_ok3 (N := ["_law_bag_here", "_law_many", "_law_scale", "_law_spots", "_law_ways", "_law_name", "_law_kind", "_law_start", "_law_end", "_law_paces", "_law_dark"]) (ps := ["_law_bag_here"]) (k := 3) (m := m_law_hill) rfl T.F_law_hill sc_law_hill (by decide) eb es fun cdv A outer s H E hr => ?_
  unfold m_law_hill
  exact (ss_cons (sv_set (bs_set (i := 1) sc_law_hill.nd rfl (Or.inl rfl) (ev_if (tv_cmp (op_eqD hr.units) (ov_eq false) (EV.b (ev_call (be_call G_law_draw (hr.mono (by decide)) rfl T.m_law_draw T.F_law_draw.kp T.b_law_draw .nil pass0 (av_cons (ev_name 0 (bv 0)) (av_cons ev_int av_nil))))) (EV.b ev_int) (nomark _)) ev_int (ev_bin op_addD ov_add (EV.b ev_int) (EV.b (ev_call (be_call G_law_draw (hr.mono (by decide)) rfl T.m_law_draw T.F_law_draw.kp T.b_law_draw .nil pass0 (av_cons (ev_name 0 (bv 0)) (av_cons ev_int av_nil)))))))))
    (ss_cons (sv_par (bs_par (i := 2) (j := 3) rfl sc_law_hill.nd rfl rfl (by decide) rfl rfl (av_cons (ev_ix ix_seq ov_ix (EV.b (EF.v (ef_lst (by refine av_cons ev_int ?_; refine av_cons ev_int ?_; refine av_cons ev_int ?_; exact av_nil)))) (EV.b (ev_call (be_call G_law_draw (hr.mono (by decide)) rfl T.m_law_draw T.F_law_draw.kp T.b_law_draw .nil pass0 (av_cons (ev_name 0 (bv 0)) (av_cons ev_int av_nil))))) (fun _ _ => rfl)) (av_cons (ev_call (be_call G_law_labels (hr.mono (by decide)) rfl T.m_law_labels T.F_law_labels.kp T.b_law_labels .nil pass0 (av_cons (ev_name 0 (bv 0)) (av_cons (ev_bin op_addD ov_add (EV.b ev_int) (EV.b (ev_call (be_call G_law_draw (hr.mono (by decide)) rfl T.m_law_draw T.F_law_draw.kp T.b_law_draw .nil pass0 (av_cons (ev_name 0 (bv 0)) (av_cons ev_int av_nil)))))) av_nil)))) av_nil)) rfl))
    (ss_cons (sv_own (bs_set (i := 4) sc_law_hill.nd rfl (Or.inl rfl) (ef_lst av_nil)))
    (ss_cons (sv_for (bs_for PassesOwn.never rfl (iv_v (ev_call (be_call G_law_labels (hr.mono (by decide)) rfl T.m_law_labels T.F_law_labels.kp T.b_law_labels .nil pass0 (av_cons (ev_name 0 (bv 0)) (av_cons (ev_name 1 (bv 1)) av_nil))))) (gs_name (bg_name (i := 5) sc_law_hill.nd rfl (Or.inl rfl))) (ss_cons (sv_par3 (bs_par3 (i := 6) (j := 7) (k := 8) rfl sc_law_hill.nd rfl rfl rfl (by decide) (by decide) (by decide) rfl rfl rfl (by refine av_cons (ev_call (be_call G_law_draw (hr.mono (by decide)) rfl T.m_law_draw T.F_law_draw.kp T.b_law_draw .nil pass0 (av_cons (ev_name 0 (bv 0)) (av_cons ev_int av_nil)))) ?_; refine av_cons (ev_call (be_call G_law_any (hr.mono (by decide)) rfl T.m_law_any T.F_law_any.kp T.b_law_any .nil pass0 (av_cons (ev_name 0 (bv 0)) (av_cons (ev_name 3 (bv 3)) av_nil)))) ?_; refine av_cons (ev_call (be_call G_law_any (hr.mono (by decide)) rfl T.m_law_any T.F_law_any.kp T.b_law_any .nil pass0 (av_cons (ev_name 0 (bv 0)) (av_cons (ev_name 3 (bv 3)) av_nil)))) ?_; exact av_nil) rfl))
    (ss_cons (sv_set (bs_set (i := 9) sc_law_hill.nd rfl (Or.inl rfl) (ev_tup (av_cons (ev_call (be_call G_law_pace (hr.mono (by decide)) rfl T.m_law_pace T.F_law_pace.kp T.b_law_pace .nil pass0 (av_cons (ev_name 0 (bv 0)) (av_cons (ev_name 2 (bv 2)) av_nil)))) (av_cons (ev_call (be_call G_law_pace (hr.mono (by decide)) rfl T.m_law_pace T.F_law_pace.kp T.b_law_pace .nil pass0 (av_cons (ev_name 0 (bv 0)) (av_cons (ev_name 2 (bv 2)) av_nil)))) av_nil)))))
    (ss_one (sv_app (k := 4) (bs_expr (be_bm PySem.F.plainAttrs_list PySem.F.slot_list_append PySem.F.type_list_append mt_append (bv 4) (ba_cons (ev_bin op_addD ov_add (EV.b (ev_tup (by refine av_cons (ev_name 5 (bv 5)) ?_; refine av_cons (ev_ix ix_seq ov_ix (EV.b (EF.v (ef_lst (by refine av_cons ev_str ?_; refine av_cons ev_str ?_; refine av_cons ev_str ?_; refine av_cons ev_str ?_; exact av_nil)))) (EV.b (ev_name 6 (bv 6))) (fun _ _ => rfl)) ?_; refine av_cons (ev_name 7 (bv 7)) ?_; refine av_cons (ev_name 8 (bv 8)) ?_; exact av_nil))) (EV.b (ev_name 9 (bv 9)))) ba_nil)))))))))
    (ss_cons (sv_set (bs_set (i := 10) sc_law_hill.nd rfl (Or.inl rfl) (ev_ix ix_seq ov_ix (EV.b (EF.v (ef_lst (by refine av_cons ev_int ?_; refine av_cons ev_int ?_; refine av_cons (ev_bin op_mulE ov_mulE (EV.b (ev_name 2 (bv 2))) (EV.b (ev_bin op_addD ov_add (EV.b ev_int) (EV.b (ev_call (be_call G_law_draw (hr.mono (by decide)) rfl T.m_law_draw T.F_law_draw.kp T.b_law_draw .nil pass0 (av_cons (ev_name 0 (bv 0)) (av_cons ev_int av_nil)))))))) ?_; refine av_cons (ev_bin op_mulE ov_mulE (EV.b (ev_name 2 (bv 2))) (EV.b (ev_bin op_addD ov_add (EV.b ev_int) (EV.b (ev_call (be_call G_law_draw (hr.mono (by decide)) rfl T.m_law_draw T.F_law_draw.kp T.b_law_draw .nil pass0 (av_cons (ev_name 0 (bv 0)) (av_cons ev_int av_nil)))))))) ?_; exact av_nil)))) (EV.b (ev_call (be_call G_law_draw (hr.mono (by decide)) rfl T.m_law_draw T.F_law_draw.kp T.b_law_draw .nil pass0 (av_cons (ev_name 0 (bv 0)) (av_cons ev_int av_nil))))) (fun _ _ => rfl))))
    (ss_one (sv_ret (bs_ret (ev_tup (by refine av_cons (ev_callB (be_callTy call_tuple_of rfl T.m_tuple PyProof.Rows.boot_tuple (ab_cons (EV.b (ev_name 4 (bv 4))) ab_nil)) cv_tup) ?_; refine av_cons (ev_call (be_call G_law_any (hr.mono (by decide)) rfl T.m_law_any T.F_law_any.kp T.b_law_any .nil pass0 (av_cons (ev_name 0 (bv 0)) (av_cons (ev_name 3 (bv 3)) av_nil)))) ?_; refine av_cons (ev_name 10 (bv 10)) ?_; exact av_nil))))))))))
theorem ok_law_moment (G_law_draw : FnOk P w K mg base CX0 1 awdraw dwdraw ["_law_bag_here", "_law_many"] (spP (famT tb_book_of tb_law K) F_law_draw)) : FnOk P w K mg base CX0 2 awmoment dwmoment ["_law_bag_here", "_law_hill_here"] (spP (famT tb_book_of tb_law K) F_law_moment) := by
  have eb : defBody s_law_moment = defBody s_law_moment := rfl
  conv at eb => rhs; whnf
  have es : defScope s_law_moment = defScope s_law_moment := rfl
  conv at es => rhs; whnf
  refine fn_ok3 (N := ["_law_bag_here", "_law_hill_here"]) (ps := ["_law_bag_here", "_law_hill_here"]) (k := 1) (m := m_law_moment) rfl T.F_law_moment sc_law_moment (by decide) eb es fun cdv A outer s H E hr => ?_
  unfold m_law_moment
  exact (ss_one (sv_ret (bs_ret (ev_ix ix_seq ov_ix (EV.b (EF.v (ef_lst (by refine av_cons ev_int ?_; refine av_cons (ev_ix ix_seq ov_ix (EV.b (ev_name 1 (bv 1))) (EV.b ev_int) (fun _ _ => rfl)) ?_; refine av_cons (ev_call (be_call G_law_draw (hr.mono (by decide)) rfl T.m_law_draw T.F_law_draw.kp T.b_law_draw .nil pass0 (av_cons (ev_name 0 (bv 0)) (av_cons (ev_bin op_addD ov_add (EV.b (ev_ix ix_seq ov_ix (EV.b (ev_name 1 (bv 1))) (EV.b ev_int) (fun _ _ => rfl))) (EV.b ev_int)) av_nil)))) ?_; refine av_cons (ev_bin op_fdiv ov_fdiv (EV.b (ev_ix ix_seq ov_ix (EV.b (ev_name 1 (bv 1))) (EV.b ev_int) (fun _ _ => rfl))) (EV.b ev_int)) ?_; exact av_nil)))) (EV.b (ev_call (be_call G_law_draw (hr.mono (by decide)) rfl T.m_law_draw T.F_law_draw.kp T.b_law_draw .nil pass0 (av_cons (ev_name 0 (bv 0)) (av_cons ev_int av_nil))))) (fun _ _ => rfl)))))
theorem ok_law_rule (G_law_draw : FnOk P w K mg base CX0 1 awdraw dwdraw ["_law_bag_here", "_law_many"] (spP (famT tb_book_of tb_law K) F_law_draw)) (G_law_moment : FnOk P w K mg base CX0 2 awmoment dwmoment ["_law_bag_here", "_law_hill_here"] (spP (famT tb_book_of tb_law K) F_law_moment)) (G_law_any : FnOk P w K mg base CX0 2 awany dwany ["_law_bag_here", "_law_some"] (spP (famT tb_book_of tb_law K) F_law_any)) : FnOk P w K mg base CX0 3 awrule dwrule ["_law_bag_here", "_law_hill_here"] (spP (famT tb_book_of tb_law K) F_law_rule) := by
  have eb : defBody s_law_rule = defBody s_law_rule := rfl
  conv at eb => rhs; whnf
  have es : defScope s_law_rule = defScope s_law_rule := rfl
  conv at es => rhs; whnf
  refine fn_ok3 (N := ["_law_bag_here", "_law_hill_here", "_law_way", "_law_number", "_law_a"]) (ps := ["_law_bag_here", "_law_hill_here"]) (k := 2) (m := m_law_rule) rfl T.F_law_rule sc_law_rule (by decide) eb es fun cdv A outer s H E hr => ?_
  unfold m_law_rule
  exact (ss_cons (sv_par (bs_par (i := 2) (j := 3) rfl sc_law_rule.nd rfl rfl (by decide) rfl rfl (av_cons (ev_call (be_call G_law_draw (hr.mono (by decide)) rfl T.m_law_draw T.F_law_draw.kp T.b_law_draw .nil pass0 (av_cons (ev_name 0 (bv 0)) (av_cons ev_int av_nil)))) (av_cons (ev_bin op_sub ov_sub (EV.b (ev_call (be_call G_law_draw (hr.mono (by decide)) rfl T.m_law_draw T.F_law_draw.kp T.b_law_draw .nil pass0 (av_cons (ev_name 0 (bv 0)) (av_cons ev_int av_nil))))) (EV.b ev_int)) av_nil)) rfl))
    (ss_cons (sv_if (bs_if (tv_cmp (op_eqD hr.units) (ov_eq false) (EV.b (ev_call (be_call G_law_draw (hr.mono (by decide)) rfl T.m_law_draw T.F_law_draw.kp T.b_law_draw .nil pass0 (av_cons (ev_name 0 (bv 0)) (av_cons ev_int av_nil))))) (EV.b ev_int) (nomark _)) (ss_one (sv_set (bs_set (i := 3) sc_law_rule.nd rfl (Or.inl rfl) (ev_bin op_mulE ov_mulE (EV.b (ev_bin op_sub ov_sub (EV.b (ev_bin op_pow ov_pow (EV.b ev_int) (EV.b ev_int))) (EV.b ev_int))) (EV.b (ev_ix ix_seq ov_ix (EV.b (EF.v (ef_lst (av_cons ev_int (av_cons (ev_neg (be_un un_neg (EV.b ev_int))) av_nil))))) (EV.b (ev_call (be_call G_law_draw (hr.mono (by decide)) rfl T.m_law_draw T.F_law_draw.kp T.b_law_draw .nil pass0 (av_cons (ev_name 0 (bv 0)) (av_cons ev_int av_nil))))) (fun _ _ => rfl))))))) ss_nil))
    (ss_cons (sv_if (bs_if (tv_cmp (op_eqD hr.units) (ov_eq false) (EV.b (ev_name 2 (bv 2))) (EV.b ev_int) (nomark _)) (ss_cons (sv_set (bs_set (i := 4) sc_law_rule.nd rfl (Or.inl rfl) (ev_call (be_call G_law_moment (hr.mono (by decide)) rfl T.m_law_moment T.F_law_moment.kp T.b_law_moment .nil pass0 (av_cons (ev_name 0 (bv 0)) (av_cons (ev_name 1 (bv 1)) av_nil))))))
    (ss_one (sv_ret (bs_ret (ev_tup (by refine av_cons ev_str ?_; refine av_cons (ev_name 4 (bv 4)) ?_; refine av_cons (ev_call (be_call G_law_any (hr.mono (by decide)) rfl T.m_law_any T.F_law_any.kp T.b_law_any .nil pass0 (av_cons (ev_name 0 (bv 0)) (av_cons (EF.v (ef_lst (by refine av_cons (ev_bin op_addD ov_add (EV.b (ev_name 4 (bv 4))) (EV.b ev_int)) ?_; refine av_cons ev_int ?_; refine av_cons (ev_bin op_addD ov_add (EV.b (ev_bin op_addD ov_add (EV.b (ev_name 4 (bv 4))) (EV.b ev_int))) (EV.b (ev_call (be_call G_law_draw (hr.mono (by decide)) rfl T.m_law_draw T.F_law_draw.kp T.b_law_draw .nil pass0 (av_cons (ev_name 0 (bv 0)) (av_cons (ev_bin op_sub ov_sub (EV.b ev_int) (EV.b (ev_name 4 (bv 4)))) av_nil)))))) ?_; exact av_nil))) av_nil)))) ?_; exact av_nil)))))) ss_nil))
    (ss_cons (sv_if (bs_if (tv_cmp op_lt ov_lt (EV.b (ev_name 2 (bv 2))) (EV.b ev_int) (nomark _)) (ss_one (sv_ret (bs_ret (ev_tup (by refine av_cons (ev_ix ix_seq ov_ix (EV.b (EF.v (ef_lst (by refine av_cons ev_str ?_; refine av_cons ev_str ?_; refine av_cons ev_str ?_; exact av_nil)))) (EV.b (ev_bin op_sub ov_sub (EV.b (ev_name 2 (bv 2))) (EV.b ev_int))) (fun _ _ => rfl)) ?_; refine av_cons (ev_call (be_call G_law_any (hr.mono (by decide)) rfl T.m_law_any T.F_law_any.kp T.b_law_any .nil pass0 (av_cons (ev_name 0 (bv 0)) (av_cons (EF.v (ef_lst (by refine av_cons ev_str ?_; refine av_cons ev_str ?_; refine av_cons ev_str ?_; refine av_cons ev_str ?_; exact av_nil))) av_nil)))) ?_; refine av_cons (ev_name 3 (bv 3)) ?_; exact av_nil))))) ss_nil))
    (ss_cons (sv_if (bs_if (tv_cmp (op_eqD hr.units) (ov_eq false) (EV.b (ev_name 2 (bv 2))) (EV.b ev_int) (nomark _)) (ss_one (sv_ret (bs_ret (ev_tup (av_cons ev_str (av_cons (ev_call (be_call G_law_any (hr.mono (by decide)) rfl T.m_law_any T.F_law_any.kp T.b_law_any .nil pass0 (av_cons (ev_name 0 (bv 0)) (av_cons (EF.v (ef_lst (by refine av_cons ev_int ?_; refine av_cons ev_int ?_; refine av_cons (ev_bin op_addD ov_add (EV.b ev_int) (EV.b (ev_call (be_call G_law_draw (hr.mono (by decide)) rfl T.m_law_draw T.F_law_draw.kp T.b_law_draw .nil pass0 (av_cons (ev_name 0 (bv 0)) (av_cons ev_int av_nil)))))) ?_; refine av_cons (ev_bin op_addD ov_add (EV.b ev_int) (EV.b (ev_bin op_fdiv ov_fdiv (EV.b (ev_ix ix_seq ov_ix (EV.b (ev_name 1 (bv 1))) (EV.b ev_int) (fun _ _ => rfl))) (EV.b ev_int)))) ?_; exact av_nil))) av_nil)))) av_nil)))))) ss_nil))
    (ss_one (sv_ret (bs_ret (ev_if (tv_cmp op_lt ov_lt (EV.b (ev_name 2 (bv 2))) (EV.b ev_int) (nomark _)) (ev_tup (av_cons ev_str (av_cons (ev_ix ix_seq ov_ix (EV.b (ev_call (be_call G_law_any (hr.mono (by decide)) rfl T.m_law_any T.F_law_any.kp T.b_law_any .nil pass0 (av_cons (ev_name 0 (bv 0)) (av_cons (ev_ix ix_seq ov_ix (EV.b (ev_name 1 (bv 1))) (EV.b ev_int) (fun _ _ => rfl)) av_nil))))) (EV.b ev_int) (fun _ _ => rfl)) av_nil))) (ev_tup (av_cons ev_str av_nil)))))))))))
theorem ok_law_rules (G_law_rule : FnOk P w K mg base CX0 3 awrule dwrule ["_law_bag_here", "_law_hill_here"] (spP (famT tb_book_of tb_law K) F_law_rule)) (G_law_draw : FnOk P w K mg base CX0 1 awdraw dwdraw ["_law_bag_here", "_law_many"] (spP (famT tb_book_of tb_law K) F_law_draw)) : FnOk P w K mg base CX0 4 awrules dwrules ["_law_bag_here", "_law_hill_here"] (spP (famT tb_book_of tb_law K) F_law_rules) := by
  have eb : defBody s_law_rules = defBody s_law_rules := rfl
  conv at eb => rhs; whnf
  have es : defScope s_law_rules = defScope s_law_rules := rfl
  conv at es => rhs; whnf
  refine fn_ok3 (N := ["_law_bag_here", "_law_hill_here"]) (ps := ["_law_bag_here", "_law_hill_here"]) (k := 3) (m := m_law_rules) rfl T.F_law_rules sc_law_rules (by decide) eb es fun cdv A outer s H E hr => ?_
  unfold m_law_rules
  exact (ss_one (sv_ret (bs_ret (ev_callB (be_callTy call_tuple_of rfl T.m_tuple PyProof.Rows.boot_tuple (ab_cons (EV.b (EF.v (ef_lc (be_lc (LcScope.mk2 (N := ["_law_k", "_law_bag_here", "_law_hill_here"]) (js := [none, some 0, some 1]) (defScope s_law_rules) ["_law_bag_here", "_law_hill_here"] rfl rfl (by decide +kernel)) rfl (iv_rng1 (bi_range1 rfl T.m_range (ab_cons (EV.b (ev_ix ix_seq ov_ix (EV.b (EF.v (ef_lst (by refine av_cons ev_int ?_; refine av_cons ev_int ?_; refine av_cons ev_int ?_; refine av_cons ev_int ?_; refine av_cons ev_int ?_; refine av_cons ev_int ?_; refine av_cons ev_int ?_; refine av_cons ev_int ?_; exact av_nil)))) (EV.b (ev_call (be_call G_law_draw (hr.mono (by decide)) rfl T.m_law_draw T.F_law_draw.kp T.b_law_draw .nil pass0 (av_cons (ev_name 0 (bv 0)) (av_cons ev_int av_nil))))) (fun _ _ => rfl))) ab_nil))) (fun _ _ _ _ => (gv_name (bg_name (i := 0) (by decide : (["_law_k", "_law_bag_here", "_law_hill_here"] : List Str).Nodup) rfl (Or.inl rfl)))) (fun _ _ _ _ => ts_nil) (fun _ _ _ _ => (ev_call (be_call G_law_rule (hr.mono (by decide)) rfl T.m_law_rule T.F_law_rule.kp T.b_law_rule .nil pass0 (av_cons (ev_name 1 (bv 1)) (av_cons (ev_name 2 (bv 2)) av_nil))))))))) ab_nil)) cv_tup))))
theorem ok_law_slopes : FnOk P w K mg base CX0 1 awslopes dwslopes ["_law_hill_here"] (spP (famT tb_book_of tb_law K) F_law_slopes) := by
  have eb : defBody s_law_slopes = defBody s_law_slopes := rfl
  conv at eb => rhs; whnf
  have es : defScope s_law_slopes = defScope s_law_slopes := rfl
  conv at es => rhs; whnf
  refine fn_ok3 (N := ["_law_hill_here"]) (ps := ["_law_hill_here"]) (k := 0) (m := m_law_slopes) rfl T.F_law_slopes sc_law_slopes (by decide) eb es fun cdv A outer s H E hr => ?_
  unfold m_law_slopes
  exact (ss_one (sv_ret (bs_ret (EF.v (ef_lc (be_lc (LcScope.mk2 (N := ["_law_way"]) (js := [none]) (defScope s_law_slopes) ["_law_hill_here"] rfl rfl (by decide +kernel)) rfl (iv_b (EV.b (ev_ix ix_seq ov_ix (EV.b (ev_name 0 (bv 0))) (EV.b ev_int) (fun _ _ => rfl)))) (fun _ _ _ _ => (gv_name (bg_name (i := 0) (by decide : (["_law_way"] : List Str).Nodup) rfl (Or.inl rfl)))) (fun _ _ _ _ => (ts_one (tv_cmp (op_eqD hr.units) (ov_eq false) (EV.b (ev_ix ix_seq ov_ix (EV.b (ev_name 0 (bv 0))) (EV.b ev_int) (fun _ _ => rfl))) (EV.b ev_str) (nomark _)))) (fun _ _ _ _ => (ev_ix ix_seq ov_ix (EV.b (ev_name 0 (bv 0))) (EV.b ev_int) (fun _ _ => rfl)))))))))
theorem ok_law_page (G_law_draw : FnOk P w K mg base CX0 1 awdraw dwdraw ["_law_bag_here", "_law_many"] (spP (famT tb_book_of tb_law K) F_law_draw)) (G_law_moment : FnOk P w K mg base CX0 2 awmoment dwmoment ["_law_bag_here", "_law_hill_here"] (spP (famT tb_book_of tb_law K) F_law_moment)) (G_law_slopes : FnOk P w K mg base CX0 1 awslopes dwslopes ["_law_hill_here"] (spP (famT tb_book_of tb_law K) F_law_slopes)) (G_law_any : FnOk P w K mg base CX0 2 awany dwany ["_law_bag_here", "_law_some"] (spP (famT tb_book_of tb_law K) F_law_any)) (G_law_rules : FnOk P w K mg base CX0 4 awrules dwrules ["_law_bag_here", "_law_hill_here"] (spP (famT tb_book_of tb_law K) F_law_rules)) : FnOk P w K mg base CX0 5 awpage dwpage ["_law_bag_here", "_law_hill_here", "_law_number"] (spP (famT tb_book_of tb_law K) F_law_page) := by
  have eb : defBody s_law_page = defBody s_law_page := rfl
  conv at eb => rhs; whnf
  have es : defScope s_law_page = defScope s_law_page := rfl
  conv at es => rhs; whnf
  refine fn_ok3 (N := ["_law_bag_here", "_law_hill_here", "_law_number", "_law_way", "_law_moment_here", "_law_slopes_here", "_law_value"]) (ps := ["_law_bag_here", "_law_hill_here", "_law_number"]) (k := 4) (m := m_law_page) rfl T.F_law_page sc_law_page (by decide) eb es fun cdv A outer s H E hr => ?_
  unfold m_law_page
  exact (ss_cons (sv_par3 (bs_par3 (i := 3) (j := 4) (k := 5) rfl sc_law_page.nd rfl rfl rfl (by decide) (by decide) (by decide) rfl rfl rfl (by refine av_cons (ev_call (be_call G_law_draw (hr.mono (by decide)) rfl T.m_law_draw T.F_law_draw.kp T.b_law_draw .nil pass0 (av_cons (ev_name 0 (bv 0)) (av_cons ev_int av_nil)))) ?_; refine av_cons (ev_call (be_call G_law_moment (hr.mono (by decide)) rfl T.m_law_moment T.F_law_moment.kp T.b_law_moment .nil pass0 (av_cons (ev_name 0 (bv 0)) (av_cons (ev_name 1 (bv 1)) av_nil)))) ?_; refine av_cons (ev_call (be_call G_law_slopes (hr.mono (by decide)) rfl T.m_law_slopes T.F_law_slopes.kp T.b_law_slopes .nil pass0 (av_cons (ev_name 1 (bv 1)) av_nil))) ?_; exact av_nil) rfl))
    (ss_cons (sv_if (bs_if (WV.t (wv_and (tv_cmp (op_eqD hr.units) (ov_eq false) (EV.b (ev_name 3 (bv 3))) (EV.b ev_int) (nomark _)) (wv_and1 (tv_cmp (op_neD hr.units) (ov_eq true) (EV.b (ev_name 5 (bv 5))) (EV.b (EF.v (ef_lst av_nil))) (nomark _))))) (ss_one (sv_ret (bs_ret (ev_tup (by refine av_cons ev_str ?_; refine av_cons (ev_name 2 (bv 2)) ?_; refine av_cons (ev_name 4 (bv 4)) ?_; refine av_cons (ev_call (be_call G_law_any (hr.mono (by decide)) rfl T.m_law_any T.F_law_any.kp T.b_law_any .nil pass0 (av_cons (ev_name 0 (bv 0)) (av_cons (ev_name 5 (bv 5)) av_nil)))) ?_; exact av_nil))))) ss_nil))
    (ss_cons (sv_if (bs_if (tv_cmp (op_eqD hr.units) (ov_eq false) (EV.b (ev_name 3 (bv 3))) (EV.b ev_int) (nomark _)) (ss_one (sv_ret (bs_ret (ev_tup (by refine av_cons ev_str ?_; refine av_cons (ev_name 2 (bv 2)) ?_; refine av_cons (ev_name 4 (bv 4)) ?_; refine av_cons (ev_ix ix_seq ov_ix (EV.b (ev_call (be_call G_law_any (hr.mono (by decide)) rfl T.m_law_any T.F_law_any.kp T.b_law_any .nil pass0 (av_cons (ev_name 0 (bv 0)) (av_cons (ev_ix ix_seq ov_ix (EV.b (ev_name 1 (bv 1))) (EV.b ev_int) (fun _ _ => rfl)) av_nil))))) (EV.b ev_int) (fun _ _ => rfl)) ?_; refine av_cons (ev_call (be_call G_law_rules (hr.mono (by decide)) rfl T.m_law_rules T.F_law_rules.kp T.b_law_rules .nil pass0 (av_cons (ev_name 0 (bv 0)) (av_cons (ev_name 1 (bv 1)) av_nil)))) ?_; exact av_nil))))) ss_nil))
    (ss_cons (sv_set (bs_set (i := 6) sc_law_page.nd rfl (Or.inl rfl) (ev_ix ix_seq ov_ix (EV.b (EF.v (ef_lst (by refine av_cons (ev_bin op_sub ov_sub (EV.b (ev_call (be_call G_law_draw (hr.mono (by decide)) rfl T.m_law_draw T.F_law_draw.kp T.b_law_draw .nil pass0 (av_cons (ev_name 0 (bv 0)) (av_cons ev_int av_nil))))) (EV.b ev_int)) ?_; refine av_cons (ev_bin op_sub ov_sub (EV.b (ev_bin op_pow ov_pow (EV.b ev_int) (EV.b ev_int))) (EV.b ev_int)) ?_; refine av_cons (ev_bin op_sub ov_sub (EV.b ev_int) (EV.b (ev_bin op_pow ov_pow (EV.b ev_int) (EV.b ev_int)))) ?_; refine av_cons ev_int ?_; exact av_nil)))) (EV.b (ev_call (be_call G_law_draw (hr.mono (by decide)) rfl T.m_law_draw T.F_law_draw.kp T.b_law_draw .nil pass0 (av_cons (ev_name 0 (bv 0)) (av_cons ev_int av_nil))))) (fun _ _ => rfl))))
    (ss_one (sv_ret (bs_ret (ev_tup (by refine av_cons ev_str ?_; refine av_cons (ev_name 2 (bv 2)) ?_; refine av_cons (ev_name 4 (bv 4)) ?_; refine av_cons (ev_call (be_call G_law_any (hr.mono (by decide)) rfl T.m_law_any T.F_law_any.kp T.b_law_any .nil pass0 (av_cons (ev_name 0 (bv 0)) (av_cons (EF.v (ef_lst (by refine av_cons ev_str ?_; refine av_cons ev_str ?_; refine av_cons ev_str ?_; refine av_cons ev_str ?_; exact av_nil))) av_nil)))) ?_; refine av_cons (ev_name 6 (bv 6)) ?_; exact av_nil)))))))))
theorem ok_law_pages (G_law_any : FnOk P w K mg base CX0 2 awany dwany ["_law_bag_here", "_law_some"] (spP (famT tb_book_of tb_law K) F_law_any)) (G_law_page : FnOk P w K mg base CX0 5 awpage dwpage ["_law_bag_here", "_law_hill_here", "_law_number"] (spP (famT tb_book_of tb_law K) F_law_page)) (G_law_draw : FnOk P w K mg base CX0 1 awdraw dwdraw ["_law_bag_here", "_law_many"] (spP (famT tb_book_of tb_law K) F_law_draw)) : FnOk P w K mg base CX0 6 awpages dwpages ["_law_bag_here", "_law_hill_here", "_law_many"] (spP (famT tb_book_of tb_law K) F_law_pages) := by
  have eb : defBody s_law_pages = defBody s_law_pages := rfl
  conv at eb => rhs; whnf
  have es : defScope s_law_pages = defScope s_law_pages := rfl
  conv at es => rhs; whnf
  refine fn_ok3 (N := ["_law_bag_here", "_law_hill_here", "_law_many", "_law_numbers", "_law_pages_here", "_law_k", "_law_number", "_law_turn"]) (ps := ["_law_bag_here", "_law_hill_here", "_law_many"]) (k := 5) (m := m_law_pages) rfl T.F_law_pages sc_law_pages (by decide) eb es fun cdv A outer s H E hr => ?_
  unfold m_law_pages
  exact (ss_cons (sv_parO0 (bs_par (i := 3) (j := 4) rfl sc_law_pages.nd rfl rfl (by decide) rfl rfl (ba_cons (ef_lst av_nil) (ba_cons (ef_lst av_nil) ba_nil)) rfl))
    (ss_cons (sv_for (bs_for PassesOwn.never rfl (iv_rng1 (bi_range1 rfl T.m_range (ab_cons (EV.b (ev_name 2 (bv 2))) ab_nil))) (gs_name (bg_name (i := 5) sc_law_pages.nd rfl (Or.inl rfl))) (ss_cons (sv_set (bs_set (i := 6) sc_law_pages.nd rfl (Or.inl rfl) (ev_call (be_call G_law_any (hr.mono (by decide)) rfl T.m_law_any T.F_law_any.kp T.b_law_any .nil pass0 (av_cons (ev_name 0 (bv 0)) (av_cons (EF.v (ef_lst (by refine av_cons (ev_name 5 (bv 5)) ?_; refine av_cons (ev_bin op_sub ov_sub (EV.b ev_int) (EV.b (ev_name 5 (bv 5)))) ?_; refine av_cons (ev_bin op_sub ov_sub (EV.b ev_int) (EV.b (ev_name 5 (bv 5)))) ?_; refine av_cons (ev_call (be_call G_law_draw (hr.mono (by decide)) rfl T.m_law_draw T.F_law_draw.kp T.b_law_draw .nil pass0 (av_cons (ev_name 0 (bv 0)) (av_cons ev_int av_nil)))) ?_; exact av_nil))) av_nil))))))
    (ss_cons (sv_for (bs_for PassesOwn.never rfl (iv_rng1 (bi_range1 rfl T.m_range (ab_cons (EV.b (ev_name 2 (bv 2))) ab_nil))) (gs_name (bg_name (i := 7) sc_law_pages.nd rfl (Or.inl rfl))) (ss_one (sv_if (bs_if (tv_cmp op_inD (ov_in false) (EV.b (ev_name 6 (bv 6))) (eb_name 3 (bv 3)) rfl) (ss_one (sv_set (bs_set (i := 6) sc_law_pages.nd rfl (Or.inl rfl) (ev_bin op_mod ov_mod (EV.b (ev_bin op_addD ov_add (EV.b (ev_name 6 (bv 6))) (EV.b ev_int))) (EV.b ev_int))))) ss_nil)))))
    (ss_cons (sv_app (k := 3) (bs_expr (be_bm PySem.F.plainAttrs_list PySem.F.slot_list_append PySem.F.type_list_append mt_append (bv 3) (ba_cons (ev_name 6 (bv 6)) ba_nil))))
    (ss_one (sv_app (k := 4) (bs_expr (be_bm PySem.F.plainAttrs_list PySem.F.slot_list_append PySem.F.type_list_append mt_append (bv 4) (ba_cons (ev_call (be_call G_law_page (hr.mono (by decide)) rfl T.m_law_page T.F_law_page.kp T.b_law_page .nil pass0 (by refine av_cons (ev_name 0 (bv 0)) ?_; refine av_cons (ev_name 1 (bv 1)) ?_; refine av_cons (ev_name 6 (bv 6)) ?_; exact av_nil))) ba_nil))))))))))
    (ss_one (sv_ret (bs_ret (ev_name 4 (bv 4)))))))
theorem ok_law_name_is : FnOk P w K mg base CX0 1 awname_is dwname_is ["_law_thing"] (spP (famT tb_book_of tb_law K) F_law_name_is) := by
  have eb : defBody s_law_name_is = defBody s_law_name_is := rfl
  conv at eb => rhs; whnf
  have es : defScope s_law_name_is = defScope s_law_name_is := rfl
  conv at es => rhs; whnf
  refine fn_ok3 (N := ["_law_thing"]) (ps := ["_law_thing"]) (k := 0) (m := m_law_name_is) rfl T.F_law_name_is sc_law_name_is (by decide) eb es fun cdv A outer s H E hr => ?_
  unfold m_law_name_is
  exact (ss_cons (sv_if (bs_if (WV.t (wv_or (tv_not (tv_val (ev_isi (be_callB call_isi rfl T.m_isinstance PyProof.Rows.boot_isinstance (ba_cons (EV.b (ev_name 0 (bv 0))) (ba_cons (be_bltn (v := .ty "str") rfl T.m_str PyProof.Rows.boot_str rfl) ba_nil))) kit_str))) (wv_or (tv_cmp (op_eqD hr.units) (ov_eq false) (EV.b (ev_callB (be_callB call_lenDD rfl T.m_len PySem.boot_len (ab_cons (EV.b (ev_name 0 (bv 0))) ab_nil)) cv_len)) (EV.b ev_int) (nomark _)) (wv_or1 (tv_cmp op_gt ov_gt (EV.b (ev_callB (be_callB call_lenDD rfl T.m_len PySem.boot_len (ab_cons (EV.b (ev_name 0 (bv 0))) ab_nil)) cv_len)) (EV.b ev_int) (nomark _)))))) (ss_one (sv_ret (bs_ret ev_bl))) ss_nil))
    (ss_one (sv_ret (bs_ret (ev_cmp (op_eqD hr.units) (ov_eq false) (EV.b (EF.v (ef_lc (be_lc (LcScope.mk2 (N := ["_law_sign"]) (js := [none]) (defScope s_law_name_is) ["_law_thing"] rfl rfl (by decide +kernel)) rfl (iv_b (EV.b (ev_name 0 (bv 0)))) (fun _ _ _ _ => (gv_name (bg_name (i := 0) (by decide : (["_law_sign"] : List Str).Nodup) rfl (Or.inl rfl)))) (fun _ _ _ _ => (ts_one (tv_cmp op_notInD (ov_in true) (EV.b (ev_name 0 (bv 0))) (EV.b ev_str) rfl))) (fun _ _ _ _ => (ev_name 0 (bv 0))))))) (EV.b (EF.v (ef_lst av_nil))) (nomark _))))))
theorem ok_law_whole_is : FnOk P w K mg base CX0 1 awwhole_is dwwhole_is ["_law_thing", "_law_low", "_law_high"] (spP (famT tb_book_of tb_law K) F_law_whole_is) := by
  have eb : defBody s_law_whole_is = defBody s_law_whole_is := rfl
  conv at eb => rhs; whnf
  have es : defScope s_law_whole_is = defScope s_law_whole_is := rfl
  conv at es => rhs; whnf
  refine fn_ok3 (N := ["_law_thing", "_law_low", "_law_high"]) (ps := ["_law_thing", "_law_low", "_law_high"]) (k := 0) (m := m_law_whole_is) rfl T.F_law_whole_is sc_law_whole_is (by decide) eb es fun cdv A outer s H E hr => ?_
  unfold m_law_whole_is
  exact (ss_one (sv_ret (bs_ret (ev_and (ev_isi (be_callB call_isi rfl T.m_isinstance PyProof.Rows.boot_isinstance (ba_cons (EV.b (ev_name 0 (bv 0))) (ba_cons (be_bltn (v := .ty "int") rfl T.m_int PyProof.Rows.boot_int rfl) ba_nil))) kit_int) (ev_and (ev_not (ev_isi (be_callB call_isi rfl T.m_isinstance PyProof.Rows.boot_isinstance (ba_cons (EV.b (ev_name 0 (bv 0))) (ba_cons (be_bltn (v := .ty "bool") rfl T.m_bool PyProof.Rows.boot_bool rfl) ba_nil))) kit_bool)) (ev_one (ev_chain op_leD ov_leD op_leD ov_leD (EV.b (ev_name 1 (bv 1))) (EV.b (ev_name 0 (bv 0))) (EV.b (ev_name 2 (bv 2))))))))))
theorem ok_law_of_way : FnOk P w K mg base CX0 1 awof_way dwof_way ["_law_hill_here", "_law_thing"] (spP (famT tb_book_of tb_law K) F_law_of_way) := by
  have eb : defBody s_law_of_way = defBody s_law_of_way := rfl
  conv at eb => rhs; whnf
  have es : defScope s_law_of_way = defScope s_law_of_way := rfl
  conv at es => rhs; whnf
  refine fn_ok3 (N := ["_law_hill_here", "_law_thing"]) (ps := ["_law_hill_here", "_law_thing"]) (k := 0) (m := m_law_of_way) rfl T.F_law_of_way sc_law_of_way (by decide) eb es fun cdv A outer s H E hr => ?_
  unfold m_law_of_way
  exact (ss_one (sv_ret (bs_ret (ev_and (ev_isi (be_callB call_isi rfl T.m_isinstance PyProof.Rows.boot_isinstance (ba_cons (EV.b (ev_name 1 (bv 1))) (ba_cons (be_bltn (v := .ty "str") rfl T.m_str PyProof.Rows.boot_str rfl) ba_nil))) kit_str) (ev_one (ev_cmp op_inD (ov_in false) (EV.b (ev_name 1 (bv 1))) (EV.b (EF.v (ef_lc (be_lc (LcScope.mk2 (N := ["_law_way"]) (js := [none]) (defScope s_law_of_way) ["_law_hill_here", "_law_thing"] rfl rfl (by decide +kernel)) rfl (iv_b (EV.b (ev_ix ix_seq ov_ix (EV.b (ev_name 0 (bv 0))) (EV.b ev_int) (fun _ _ => rfl)))) (fun _ _ _ _ => (gv_name (bg_name (i := 0) (by decide : (["_law_way"] : List Str).Nodup) rfl (Or.inl rfl)))) (fun _ _ _ _ => ts_nil) (fun _ _ _ _ => (ev_ix ix_seq ov_ix (EV.b (ev_name 0 (bv 0))) (EV.b ev_int) (fun _ _ => rfl))))))) rfl))))))
theorem ok_law_number_is : FnOk P w K mg base CX0 1 awnumber_is dwnumber_is ["_law_thing"] (spP (famT tb_book_of tb_law K) F_law_number_is) := by
  have eb : defBody s_law_number_is = defBody s_law_number_is := rfl
  conv at eb => rhs; whnf
  have es : defScope s_law_number_is = defScope s_law_number_is := rfl
  conv at es => rhs; whnf
  refine fn_ok3 (N := ["_law_thing"]) (ps := ["_law_thing"]) (k := 0) (m := m_law_number_is) rfl T.F_law_number_is sc_law_number_is (by decide) eb es fun cdv A outer s H E hr => ?_
  unfold m_law_number_is
  exact (ss_one (sv_ret (bs_ret (ev_and (ev_isi (be_callB call_isi rfl T.m_isinstance PyProof.Rows.boot_isinstance (ba_cons (EV.b (ev_name 0 (bv 0))) (ba_cons (be_bltn (v := .ty "int") rfl T.m_int PyProof.Rows.boot_int rfl) ba_nil))) kit_int) (ev_one (ev_not (ev_isi (be_callB call_isi rfl T.m_isinstance PyProof.Rows.boot_isinstance (ba_cons (EV.b (ev_name 0 (bv 0))) (ba_cons (be_bltn (v := .ty "bool") rfl T.m_bool PyProof.Rows.boot_bool rfl) ba_nil))) kit_bool)))))))
theorem ok_law_rule_is (G_law_whole_is : FnOk P w K mg base CX0 1 awwhole_is dwwhole_is ["_law_thing", "_law_low", "_law_high"] (spP (famT tb_book_of tb_law K) F_law_whole_is)) (G_law_name_is : FnOk P w K mg base CX0 1 awname_is dwname_is ["_law_thing"] (spP (famT tb_book_of tb_law K) F_law_name_is)) (G_law_number_is : FnOk P w K mg base CX0 1 awnumber_is dwnumber_is ["_law_thing"] (spP (famT tb_book_of tb_law K) F_law_number_is)) (G_law_of_way : FnOk P w K mg base CX0 1 awof_way dwof_way ["_law_hill_here", "_law_thing"] (spP (famT tb_book_of tb_law K) F_law_of_way)) : FnOk P w K mg base CX0 2 awrule_is dwrule_is ["_law_hill_here", "_law_thing"] (spP (famT tb_book_of tb_law K) F_law_rule_is) := by
  have eb : defBody s_law_rule_is = defBody s_law_rule_is := rfl
  conv at eb => rhs; whnf
  have es : defScope s_law_rule_is = defScope s_law_rule_is := rfl
  conv at es => rhs; whnf
  refine fn_ok3 (N := ["_law_hill_here", "_law_thing", "_law_word", "_law_many", "_law_good"]) (ps := ["_law_hill_here", "_law_thing"]) (k := 1) (m := m_law_rule_is) rfl T.F_law_rule_is sc_law_rule_is (by decide) eb es fun cdv A outer s H E hr => ?_
  unfold m_law_rule_is
  exact (ss_cons (sv_if (bs_if (WV.t (wv_or (tv_not (tv_val (ev_isi (be_callB call_isi rfl T.m_isinstance PyProof.Rows.boot_isinstance (ba_cons (EV.b (ev_name 1 (bv 1))) (ba_cons (be_bltn (v := .ty "tuple") rfl T.m_tuple PyProof.Rows.boot_tuple rfl) ba_nil))) kit_tuple))) (wv_or (tv_cmp (op_eqD hr.units) (ov_eq false) (EV.b (ev_name 1 (bv 1))) (EV.b (ev_tup av_nil)) (nomark _)) (wv_or1 (tv_not (tv_val (ev_isi (be_callB call_isi rfl T.m_isinstance PyProof.Rows.boot_isinstance (ba_cons (EV.b (ev_ix ix_seq ov_ix (EV.b (ev_name 1 (bv 1))) (EV.b ev_int) (fun _ _ => rfl))) (ba_cons (be_bltn (v := .ty "str") rfl T.m_str PyProof.Rows.boot_str rfl) ba_nil))) kit_str))))))) (ss_one (sv_ret (bs_ret ev_bl))) ss_nil))
    (ss_cons (sv_par (bs_par (i := 2) (j := 3) rfl sc_law_rule_is.nd rfl rfl (by decide) rfl rfl (av_cons (ev_ix ix_seq ov_ix (EV.b (ev_name 1 (bv 1))) (EV.b ev_int) (fun _ _ => rfl)) (av_cons (ev_callB (be_callB call_lenDD rfl T.m_len PySem.boot_len (ab_cons (EV.b (ev_name 1 (bv 1))) ab_nil)) cv_len) av_nil)) rfl))
    (ss_cons (sv_if (bs_if (tv_cmp (op_eqD hr.units) (ov_eq false) (EV.b (ev_name 2 (bv 2))) (EV.b ev_str) (nomark _)) (ss_cons (sv_set (bs_set (i := 4) sc_law_rule_is.nd rfl (Or.inl rfl) (ev_and (ev_cmp (op_eqD hr.units) (ov_eq false) (EV.b (ev_name 3 (bv 3))) (EV.b ev_int) (nomark _)) (ev_and (ev_call (be_call G_law_whole_is (hr.mono (by decide)) rfl T.m_law_whole_is T.F_law_whole_is.kp T.b_law_whole_is .nil pass0 (by refine av_cons (ev_ix ix_seq ov_ix (EV.b (ev_name 1 (bv 1))) (EV.b ev_int) (fun _ _ => rfl)) ?_; refine av_cons ev_int ?_; refine av_cons ev_int ?_; exact av_nil))) (ev_one (ev_call (be_call G_law_whole_is (hr.mono (by decide)) rfl T.m_law_whole_is T.F_law_whole_is.kp T.b_law_whole_is .nil pass0 (by refine av_cons (ev_ix ix_seq ov_ix (EV.b (ev_name 1 (bv 1))) (EV.b ev_int) (fun _ _ => rfl)) ?_; refine av_cons ev_int ?_; refine av_cons ev_int ?_; exact av_nil))))))))
    (ss_one (sv_ret (bs_ret (ev_and (ev_name 4 (bv 4)) (ev_one (ev_cmp op_lt ov_lt (EV.b (ev_ix ix_seq ov_ix (EV.b (ev_name 1 (bv 1))) (EV.b ev_int) (fun _ _ => rfl))) (EV.b (ev_ix ix_seq ov_ix (EV.b (ev_name 1 (bv 1))) (EV.b ev_int) (fun _ _ => rfl))) (nomark _)))))))) ss_nil))
    (ss_cons (sv_if (bs_if (WV.t (wv_or (tv_cmp (op_eqD hr.units) (ov_eq false) (EV.b (ev_name 2 (bv 2))) (EV.b ev_str) (nomark _)) (wv_or1 (tv_cmp (op_eqD hr.units) (ov_eq false) (EV.b (ev_name 2 (bv 2))) (EV.b ev_str) (nomark _))))) (ss_one (sv_ret (bs_ret (ev_and (ev_cmp (op_eqD hr.units) (ov_eq false) (EV.b (ev_name 3 (bv 3))) (EV.b ev_int) (nomark _)) (ev_and (ev_call (be_call G_law_name_is (hr.mono (by decide)) rfl T.m_law_name_is T.F_law_name_is.kp T.b_law_name_is .nil pass0 (av_cons (ev_ix ix_seq ov_ix (EV.b (ev_name 1 (bv 1))) (EV.b ev_int) (fun _ _ => rfl)) av_nil))) (ev_one (ev_call (be_call G_law_number_is (hr.mono (by decide)) rfl T.m_law_number_is T.F_law_number_is.kp T.b_law_number_is .nil pass0 (av_cons (ev_ix ix_seq ov_ix (EV.b (ev_name 1 (bv 1))) (EV.b ev_int) (fun _ _ => rfl)) av_nil))))))))) ss_nil))
    (ss_cons (sv_if (bs_if (tv_cmp (op_eqD hr.units) (ov_eq false) (EV.b (ev_name 2 (bv 2))) (EV.b ev_str) (nomark _)) (ss_one (sv_ret (bs_ret (ev_and (ev_cmp (op_eqD hr.units) (ov_eq false) (EV.b (ev_name 3 (bv 3))) (EV.b ev_int) (nomark _)) (ev_one (ev_call (be_call G_law_whole_is (hr.mono (by decide)) rfl T.m_law_whole_is T.F_law_whole_is.kp T.b_law_whole_is .nil pass0 (by refine av_cons (ev_ix ix_seq ov_ix (EV.b (ev_name 1 (bv 1))) (EV.b ev_int) (fun _ _ => rfl)) ?_; refine av_cons ev_int ?_; refine av_cons ev_int ?_; exact av_nil)))))))) ss_nil))
    (ss_one (sv_ret (bs_ret (ev_if (tv_cmp (op_eqD hr.units) (ov_eq false) (EV.b (ev_name 2 (bv 2))) (EV.b ev_str) (nomark _)) (ev_and (ev_cmp (op_eqD hr.units) (ov_eq false) (EV.b (ev_name 3 (bv 3))) (EV.b ev_int) (nomark _)) (ev_one (ev_call (be_call G_law_of_way (hr.mono (by decide)) rfl T.m_law_of_way T.F_law_of_way.kp T.b_law_of_way .nil pass0 (av_cons (ev_name 0 (bv 0)) (av_cons (ev_ix ix_seq ov_ix (EV.b (ev_name 1 (bv 1))) (EV.b ev_int) (fun _ _ => rfl)) av_nil)))))) (ev_and (ev_cmp (op_eqD hr.units) (ov_eq false) (EV.b (ev_name 2 (bv 2))) (EV.b ev_str) (nomark _)) (ev_one (ev_cmp (op_eqD hr.units) (ov_eq false) (EV.b (ev_name 3 (bv 3))) (EV.b ev_int) (nomark _)))))))))))))
theorem ok_law_rules_is (G_law_rule_is : FnOk P w K mg base CX0 2 awrule_is dwrule_is ["_law_hill_here", "_law_thing"] (spP (famT tb_book_of tb_law K) F_law_rule_is)) : FnOk P w K mg base CX0 3 awrules_is dwrules_is ["_law_hill_here", "_law_thing"] (spP (famT tb_book_of tb_law K) F_law_rules_is) := by
  have eb : defBody s_law_rules_is = defBody s_law_rules_is := rfl
  conv at eb => rhs; whnf
  have es : defScope s_law_rules_is = defScope s_law_rules_is := rfl
  conv at es => rhs; whnf
  refine fn_ok3 (N := ["_law_hill_here", "_law_thing"]) (ps := ["_law_hill_here", "_law_thing"]) (k := 2) (m := m_law_rules_is) rfl T.F_law_rules_is sc_law_rules_is (by decide) eb es fun cdv A outer s H E hr => ?_
  unfold m_law_rules_is
  exact (ss_one (sv_ret (bs_ret (ev_and (ev_isi (be_callB call_isi rfl T.m_isinstance PyProof.Rows.boot_isinstance (ba_cons (EV.b (ev_name 1 (bv 1))) (ba_cons (be_bltn (v := .ty "tuple") rfl T.m_tuple PyProof.Rows.boot_tuple rfl) ba_nil))) kit_tuple) (ev_and (ev_cmp op_lt ov_lt (EV.b (ev_callB (be_callB call_lenDD rfl T.m_len PySem.boot_len (ab_cons (EV.b (ev_name 1 (bv 1))) ab_nil)) cv_len)) (EV.b ev_int) (nomark _)) (ev_one (ev_callB (be_callB (call_all rfl) rfl T.m_all PyProof.Rows.boot_all (ab_cons (EV.b (EF.v (ef_lc (be_lc (LcScope.mk2 (N := ["_law_rule_here", "_law_hill_here"]) (js := [none, some 0]) (defScope s_law_rules_is) ["_law_hill_here", "_law_thing"] rfl rfl (by decide +kernel)) rfl (iv_b (EV.b (ev_name 1 (bv 1)))) (fun _ _ _ _ => (gv_name (bg_name (i := 0) (by decide : (["_law_rule_here", "_law_hill_here"] : List Str).Nodup) rfl (Or.inl rfl)))) (fun _ _ _ _ => ts_nil) (fun _ _ _ _ => (ev_call (be_call G_law_rule_is (hr.mono (by decide)) rfl T.m_law_rule_is T.F_law_rule_is.kp T.b_law_rule_is .nil pass0 (av_cons (ev_name 1 (bv 1)) (av_cons (ev_name 0 (bv 0)) av_nil))))))))) ab_nil)) cv_all)))))))
theorem ok_law_page_is (G_law_of_way : FnOk P w K mg base CX0 1 awof_way dwof_way ["_law_hill_here", "_law_thing"] (spP (famT tb_book_of tb_law K) F_law_of_way)) (G_law_rules_is : FnOk P w K mg base CX0 3 awrules_is dwrules_is ["_law_hill_here", "_law_thing"] (spP (famT tb_book_of tb_law K) F_law_rules_is)) (G_law_whole_is : FnOk P w K mg base CX0 1 awwhole_is dwwhole_is ["_law_thing", "_law_low", "_law_high"] (spP (famT tb_book_of tb_law K) F_law_whole_is)) (G_law_name_is : FnOk P w K mg base CX0 1 awname_is dwname_is ["_law_thing"] (spP (famT tb_book_of tb_law K) F_law_name_is)) (G_law_number_is : FnOk P w K mg base CX0 1 awnumber_is dwnumber_is ["_law_thing"] (spP (famT tb_book_of tb_law K) F_law_number_is)) (G_law_slopes : FnOk P w K mg base CX0 1 awslopes dwslopes ["_law_hill_here"] (spP (famT tb_book_of tb_law K) F_law_slopes)) : FnOk P w K mg base CX0 4 awpage_is dwpage_is ["_law_hill_here", "_law_thing"] (spP (famT tb_book_of tb_law K) F_law_page_is) := by
  have eb : defBody s_law_page_is = defBody s_law_page_is := rfl
  conv at eb => rhs; whnf
  have es : defScope s_law_page_is = defScope s_law_page_is := rfl
  conv at es => rhs; whnf
  refine fn_ok3 (N := ["_law_hill_here", "_law_thing", "_law_word", "_law_many"]) (ps := ["_law_hill_here", "_law_thing"]) (k := 3) (m := m_law_page_is) rfl T.F_law_page_is sc_law_page_is (by decide) eb es fun cdv A outer s H E hr => ?_
  unfold m_law_page_is
  exact (ss_cons (sv_if (bs_if (WV.t (wv_or (tv_not (tv_val (ev_isi (be_callB call_isi rfl T.m_isinstance PyProof.Rows.boot_isinstance (ba_cons (EV.b (ev_name 1 (bv 1))) (ba_cons (be_bltn (v := .ty "tuple") rfl T.m_tuple PyProof.Rows.boot_tuple rfl) ba_nil))) kit_tuple))) (wv_or (tv_cmp op_lt ov_lt (EV.b (ev_callB (be_callB call_lenDD rfl T.m_len PySem.boot_len (ab_cons (EV.b (ev_name 1 (bv 1))) ab_nil)) cv_len)) (EV.b ev_int) (nomark _)) (wv_or1 (tv_not (tv_val (ev_isi (be_callB call_isi rfl T.m_isinstance PyProof.Rows.boot_isinstance (ba_cons (EV.b (ev_ix ix_seq ov_ix (EV.b (ev_name 1 (bv 1))) (EV.b ev_int) (fun _ _ => rfl))) (ba_cons (be_bltn (v := .ty "str") rfl T.m_str PyProof.Rows.boot_str rfl) ba_nil))) kit_str))))))) (ss_one (sv_ret (bs_ret ev_bl))) ss_nil))
    (ss_cons (sv_if (bs_if (WV.t (wv_or (tv_not (tv_val (ev_call (be_call G_law_whole_is (hr.mono (by decide)) rfl T.m_law_whole_is T.F_law_whole_is.kp T.b_law_whole_is .nil pass0 (by refine av_cons (ev_ix ix_seq ov_ix (EV.b (ev_name 1 (bv 1))) (EV.b ev_int) (fun _ _ => rfl)) ?_; refine av_cons ev_int ?_; refine av_cons ev_int ?_; exact av_nil))))) (wv_or1 (tv_not (tv_val (ev_call (be_call G_law_whole_is (hr.mono (by decide)) rfl T.m_law_whole_is T.F_law_whole_is.kp T.b_law_whole_is .nil pass0 (by refine av_cons (ev_ix ix_seq ov_ix (EV.b (ev_name 1 (bv 1))) (EV.b ev_int) (fun _ _ => rfl)) ?_; refine av_cons ev_int ?_; refine av_cons (ev_ix ix_seq ov_ix (EV.b (ev_name 0 (bv 0))) (EV.b ev_int) (fun _ _ => rfl)) ?_; exact av_nil)))))))) (ss_one (sv_ret (bs_ret ev_bl))) ss_nil))
    (ss_cons (sv_par (bs_par (i := 2) (j := 3) rfl sc_law_page_is.nd rfl rfl (by decide) rfl rfl (av_cons (ev_ix ix_seq ov_ix (EV.b (ev_name 1 (bv 1))) (EV.b ev_int) (fun _ _ => rfl)) (av_cons (ev_callB (be_callB call_lenDD rfl T.m_len PySem.boot_len (ab_cons (EV.b (ev_name 1 (bv 1))) ab_nil)) cv_len) av_nil)) rfl))
    (ss_cons (sv_if (bs_if (tv_cmp (op_eqD hr.units) (ov_eq false) (EV.b (ev_name 2 (bv 2))) (EV.b ev_str) (nomark _)) (ss_one (sv_ret (bs_ret (ev_and (ev_cmp (op_eqD hr.units) (ov_eq false) (EV.b (ev_name 3 (bv 3))) (EV.b ev_int) (nomark _)) (ev_and (ev_isi (be_callB call_isi rfl T.m_isinstance PyProof.Rows.boot_isinstance (ba_cons (EV.b (ev_ix ix_seq ov_ix (EV.b (ev_name 1 (bv 1))) (EV.b ev_int) (fun _ _ => rfl))) (ba_cons (be_bltn (v := .ty "str") rfl T.m_str PyProof.Rows.boot_str rfl) ba_nil))) kit_str) (ev_one (ev_cmp op_inD (ov_in false) (EV.b (ev_ix ix_seq ov_ix (EV.b (ev_name 1 (bv 1))) (EV.b ev_int) (fun _ _ => rfl))) (EV.b (ev_call (be_call G_law_slopes (hr.mono (by decide)) rfl T.m_law_slopes T.F_law_slopes.kp T.b_law_slopes .nil pass0 (av_cons (ev_name 0 (bv 0)) av_nil)))) rfl))))))) ss_nil))
    (ss_cons (sv_if (bs_if (tv_cmp (op_eqD hr.units) (ov_eq false) (EV.b (ev_name 2 (bv 2))) (EV.b ev_str) (nomark _)) (ss_one (sv_ret (bs_ret (ev_and (ev_cmp (op_eqD hr.units) (ov_eq false) (EV.b (ev_name 3 (bv 3))) (EV.b ev_int) (nomark _)) (ev_and (ev_call (be_call G_law_name_is (hr.mono (by decide)) rfl T.m_law_name_is T.F_law_name_is.kp T.b_law_name_is .nil pass0 (av_cons (ev_ix ix_seq ov_ix (EV.b (ev_name 1 (bv 1))) (EV.b ev_int) (fun _ _ => rfl)) av_nil))) (ev_one (ev_call (be_call G_law_number_is (hr.mono (by decide)) rfl T.m_law_number_is T.F_law_number_is.kp T.b_law_number_is .nil pass0 (av_cons (ev_ix ix_seq ov_ix (EV.b (ev_name 1 (bv 1))) (EV.b ev_int) (fun _ _ => rfl)) av_nil))))))))) ss_nil))
    (ss_one (sv_ret (bs_ret (ev_and (ev_cmp (op_eqD hr.units) (ov_eq false) (EV.b (ev_name 2 (bv 2))) (EV.b ev_str) (nomark _)) (ev_and (ev_cmp (op_eqD hr.units) (ov_eq false) (EV.b (ev_name 3 (bv 3))) (EV.b ev_int) (nomark _)) (ev_and (ev_call (be_call G_law_of_way (hr.mono (by decide)) rfl T.m_law_of_way T.F_law_of_way.kp T.b_law_of_way .nil pass0 (av_cons (ev_name 0 (bv 0)) (av_cons (ev_ix ix_seq ov_ix (EV.b (ev_name 1 (bv 1))) (EV.b ev_int) (fun _ _ => rfl)) av_nil)))) (ev_one (ev_call (be_call G_law_rules_is (hr.mono (by decide)) rfl T.m_law_rules_is T.F_law_rules_is.kp T.b_law_rules_is .nil pass0 (av_cons (ev_name 0 (bv 0)) (av_cons (ev_ix ix_seq ov_ix (EV.b (ev_name 1 (bv 1))) (EV.b ev_int) (fun _ _ => rfl)) av_nil))))))))))))))))
theorem ok_law_book_is (G_law_page_is : FnOk P w K mg base CX0 4 awpage_is dwpage_is ["_law_hill_here", "_law_thing"] (spP (famT tb_book_of tb_law K) F_law_page_is)) : FnOk P w K mg base CX0 5 awbook_is dwbook_is ["_law_hill_here", "_law_thing"] (spP (famT tb_book_of tb_law K) F_law_book_is) := by
  have eb : defBody s_law_book_is = defBody s_law_book_is := rfl
  conv at eb => rhs; whnf
  have es : defScope s_law_book_is = defScope s_law_book_is := rfl
  conv at es => rhs; whnf
  refine fn_ok3 (N := ["_law_hill_here", "_law_thing", "_law_k", "_law_other"]) (ps := ["_law_hill_here", "_law_thing"]) (k := 4) (m := m_law_book_is) rfl T.F_law_book_is sc_law_book_is (by decide) eb es fun cdv A outer s H E hr => ?_
  unfold m_law_book_is
  exact (ss_cons (sv_if (bs_if (WV.t (wv_or (tv_not (tv_val (ev_isi (be_callB call_isi rfl T.m_isinstance PyProof.Rows.boot_isinstance (ba_cons (EV.b (ev_name 1 (bv 1))) (ba_cons (be_bltn (v := .ty "tuple") rfl T.m_tuple PyProof.Rows.boot_tuple rfl) ba_nil))) kit_tuple))) (wv_or1 (tv_not (tv_val (ev_callB (be_callB (call_all rfl) rfl T.m_all PyProof.Rows.boot_all (ab_cons (EV.b (EF.v (ef_lc (be_lc (LcScope.mk2 (N := ["_law_page_here", "_law_hill_here"]) (js := [none, some 0]) (defScope s_law_book_is) ["_law_hill_here", "_law_thing", "_law_k", "_law_other"] rfl rfl (by decide +kernel)) rfl (iv_b (EV.b (ev_name 1 (bv 1)))) (fun _ _ _ _ => (gv_name (bg_name (i := 0) (by decide : (["_law_page_here", "_law_hill_here"] : List Str).Nodup) rfl (Or.inl rfl)))) (fun _ _ _ _ => ts_nil) (fun _ _ _ _ => (ev_call (be_call G_law_page_is (hr.mono (by decide)) rfl T.m_law_page_is T.F_law_page_is.kp T.b_law_page_is .nil pass0 (av_cons (ev_name 1 (bv 1)) (av_cons (ev_name 0 (bv 0)) av_nil))))))))) ab_nil)) cv_all)))))) (ss_one (sv_ret (bs_ret ev_bl))) ss_nil))
    (ss_cons (sv_for (bs_for PassesOwn.never rfl (iv_rng1 (bi_range1 rfl T.m_range (ab_cons (EV.b (ev_callB (be_callB call_lenDD rfl T.m_len PySem.boot_len (ab_cons (EV.b (ev_name 1 (bv 1))) ab_nil)) cv_len)) ab_nil))) (gs_name (bg_name (i := 2) sc_law_book_is.nd rfl (Or.inl rfl))) (ss_one (sv_for (bs_for PassesOwn.never rfl (iv_v (ev_slice (be_slice sl_E (EV.b (ev_name 1 (bv 1))) ov_none (ov_some (EV.b (ev_name 2 (bv 2))))) sv_E)) (gs_name (bg_name (i := 3) sc_law_book_is.nd rfl (Or.inl rfl))) (ss_one (sv_if (bs_if (WV.t (wv_or (tv_cmp (op_eqD hr.units) (ov_eq false) (EV.b (ev_ix ix_seq ov_ix (EV.b (ev_name 3 (bv 3))) (EV.b ev_int) (fun _ _ => rfl))) (EV.b (ev_ix ix_seq ov_ix (EV.b (ev_ix ix_seq ov_ix (EV.b (ev_name 1 (bv 1))) (EV.b (ev_name 2 (bv 2))) (fun _ _ => rfl))) (EV.b ev_int) (fun _ _ => rfl))) (nomark _)) (wv_or1 (tv_cmp (op_gtT hr.units0) ov_gtT (EV.b (ev_tup (av_cons (ev_ix ix_seq ov_ix (EV.b (ev_name 3 (bv 3))) (EV.b ev_int) (fun _ _ => rfl)) (av_cons (ev_ix ix_seq ov_ix (EV.b (ev_name 3 (bv 3))) (EV.b ev_int) (fun _ _ => rfl)) av_nil)))) (EV.b (ev_tup (av_cons (ev_ix ix_seq ov_ix (EV.b (ev_ix ix_seq ov_ix (EV.b (ev_name 1 (bv 1))) (EV.b (ev_name 2 (bv 2))) (fun _ _ => rfl))) (EV.b ev_int) (fun _ _ => rfl)) (av_cons (ev_ix ix_seq ov_ix (EV.b (ev_ix ix_seq ov_ix (EV.b (ev_name 1 (bv 1))) (EV.b (ev_name 2 (bv 2))) (fun _ _ => rfl))) (EV.b ev_int) (fun _ _ => rfl)) av_nil)))) (nomark _))))) (ss_one (sv_ret (bs_ret ev_bl))) ss_nil))))))))
    (ss_one (sv_ret (bs_ret ev_bl)))))
theorem ok_law_bent (G_law_draw : FnOk P w K mg base CX0 1 awdraw dwdraw ["_law_bag_here", "_law_many"] (spP (famT tb_book_of tb_law K) F_law_draw)) (G_law_any : FnOk P w K mg base CX0 2 awany dwany ["_law_bag_here", "_law_some"] (spP (famT tb_book_of tb_law K) F_law_any)) : FnOk P w K mg base CX0 3 awbent dwbent ["_law_bag_here", "_law_hill_here", "_law_book"] (spP (famT tb_book_of tb_law K) F_law_bent) := by
  have eb : defBody s_law_bent = defBody s_law_bent := rfl
  conv at eb => rhs; whnf
  have es : defScope s_law_bent = defScope s_law_bent := rfl
  conv at es => rhs; whnf
  refine fn_ok3 (N := ["_law_bag_here", "_law_hill_here", "_law_book", "_law_way", "_law_at", "_law_to", "_law_one", "_law_other", "_law_some", "_law_odd"]) (ps := ["_law_bag_here", "_law_hill_here", "_law_book"]) (k := 2) (m := m_law_bent) rfl T.F_law_bent sc_law_bent (by decide) eb es fun cdv A outer s H E hr => ?_
  unfold m_law_bent
  exact (ss_cons (sv_set (bs_set (i := 3) sc_law_bent.nd rfl (Or.inl rfl) (ev_call (be_call G_law_draw (hr.mono (by decide)) rfl T.m_law_draw T.F_law_draw.kp T.b_law_draw .nil pass0 (av_cons (ev_name 0 (bv 0)) (av_cons ev_int av_nil))))))
    (ss_cons (sv_if (bs_if (tv_cmp (op_eqD hr.units) (ov_eq false) (EV.b (ev_name 2 (bv 2))) (EV.b (ev_tup av_nil)) (nomark _)) (ss_one (sv_ret (bs_ret (ev_call (be_call G_law_any (hr.mono (by decide)) rfl T.m_law_any T.F_law_any.kp T.b_law_any .nil pass0 (av_cons (ev_name 0 (bv 0)) (av_cons (EF.v (ef_lst (by refine av_cons (ev_tup av_nil) ?_; refine av_cons (EF.v (ef_lst av_nil)) ?_; refine av_cons ev_non ?_; refine av_cons ev_str ?_; refine av_cons (ev_tup (av_cons (ev_tup av_nil) av_nil)) ?_; refine av_cons ev_dnew ?_; refine av_cons ev_bl ?_; exact av_nil))) av_nil))))))) ss_nil))
    (ss_cons (sv_par (bs_par (i := 4) (j := 5) rfl sc_law_bent.nd rfl rfl (by decide) rfl rfl (av_cons (ev_call (be_call G_law_draw (hr.mono (by decide)) rfl T.m_law_draw T.F_law_draw.kp T.b_law_draw .nil pass0 (av_cons (ev_name 0 (bv 0)) (av_cons (ev_callB (be_callB call_lenDD rfl T.m_len PySem.boot_len (ab_cons (EV.b (ev_name 2 (bv 2))) ab_nil)) cv_len) av_nil)))) (av_cons (ev_call (be_call G_law_draw (hr.mono (by decide)) rfl T.m_law_draw T.F_law_draw.kp T.b_law_draw .nil pass0 (av_cons (ev_name 0 (bv 0)) (av_cons (ev_callB (be_callB call_lenDD rfl T.m_len PySem.boot_len (ab_cons (EV.b (ev_name 2 (bv 2))) ab_nil)) cv_len) av_nil)))) av_nil)) rfl))
    (ss_cons (sv_par (bs_par (i := 6) (j := 7) rfl sc_law_bent.nd rfl rfl (by decide) rfl rfl (av_cons (ev_ix ix_seq ov_ix (EV.b (ev_name 2 (bv 2))) (EV.b (ev_name 4 (bv 4))) (fun _ _ => rfl)) (av_cons (ev_ix ix_seq ov_ix (EV.b (ev_name 2 (bv 2))) (EV.b (ev_name 5 (bv 5))) (fun _ _ => rfl)) av_nil)) rfl))
    (ss_cons (sv_if (bs_if (tv_cmp (op_eqD hr.units) (ov_eq false) (EV.b (ev_name 3 (bv 3))) (EV.b ev_int) (nomark _)) (ss_cons (sv_own (bs_set (i := 8) sc_law_bent.nd rfl (Or.inl rfl) (ef_callB (be_callTy call_list_of rfl T.m_list PyProof.Rows.boot_list (ab_cons (EV.b (ev_name 2 (bv 2))) ab_nil)) cf_lst)))
    (ss_cons (sv_swap (k := 8) (bs_asg (ev_tup (av_cons (ev_name 7 (bv 7)) (av_cons (ev_name 6 (bv 6)) av_nil))) (bg_tup rfl (bgs_cons (bg_sub (bv 8) (EV.b (ev_name 4 (bv 4))) set_list) (bgs_cons (bg_sub (bv 8) (EV.b (ev_name 5 (bv 5))) set_list) bgs_nil)))))
    (ss_one (sv_ret (bs_ret (ev_callB (be_callTy call_tuple_of rfl T.m_tuple PyProof.Rows.boot_tuple (ab_cons (EV.b (ev_name 8 (bv 8))) ab_nil)) cv_tup)))))) ss_nil))
    (ss_cons (sv_if (bs_if (tv_cmp (op_eqD hr.units) (ov_eq false) (EV.b (ev_name 3 (bv 3))) (EV.b ev_int) (nomark _)) (ss_one (sv_ret (bs_ret (ev_bin op_addD ov_add (EV.b (ev_bin op_addD ov_add (EV.b (ev_slice (be_slice sl_E (EV.b (ev_name 2 (bv 2))) ov_none (ov_some (EV.b (ev_name 4 (bv 4))))) sv_E)) (EV.b (ev_tup (av_cons (ev_name 7 (bv 7)) av_nil))))) (EV.b (ev_slice (be_slice sl_E (EV.b (ev_name 2 (bv 2))) (ov_some (EV.b (ev_name 4 (bv 4)))) ov_none) sv_E)))))) ss_nil))
    (ss_cons (sv_if (bs_if (tv_cmp (op_eqD hr.units) (ov_eq false) (EV.b (ev_name 3 (bv 3))) (EV.b ev_int) (nomark _)) (ss_one (sv_ret (bs_ret (ev_bin op_addD ov_add (EV.b (ev_bin op_addD ov_add (EV.b (ev_slice (be_slice sl_E (EV.b (ev_name 2 (bv 2))) ov_none (ov_some (EV.b (ev_name 4 (bv 4))))) sv_E)) (EV.b (ev_tup (av_cons (ev_bin op_addD ov_add (EV.b (ev_bin op_addD ov_add (EV.b (ev_slice (be_slice sl_E (EV.b (ev_name 6 (bv 6))) ov_none (ov_some (EV.b ev_int))) sv_E)) (EV.b (ev_tup (av_cons (ev_ix ix_seq ov_ix (EV.b (ev_name 7 (bv 7))) (EV.b ev_int) (fun _ _ => rfl)) av_nil))))) (EV.b (ev_slice (be_slice sl_E (EV.b (ev_name 6 (bv 6))) (ov_some (EV.b ev_int)) ov_none) sv_E))) av_nil))))) (EV.b (ev_slice (be_slice sl_E (EV.b (ev_name 2 (bv 2))) (ov_some (EV.b (ev_bin op_addD ov_add (EV.b (ev_name 4 (bv 4))) (EV.b ev_int)))) ov_none) sv_E)))))) ss_nil))
    (ss_cons (sv_if (bs_if (tv_cmp (op_eqD hr.units) (ov_eq false) (EV.b (ev_name 3 (bv 3))) (EV.b ev_int) (nomark _)) (ss_one (sv_ret (bs_ret (ev_bin op_addD ov_add (EV.b (ev_bin op_addD ov_add (EV.b (ev_slice (be_slice sl_E (EV.b (ev_name 2 (bv 2))) ov_none (ov_some (EV.b (ev_name 4 (bv 4))))) sv_E)) (EV.b (ev_tup (av_cons (ev_bin op_addD ov_add (EV.b (ev_bin op_addD ov_add (EV.b (ev_slice (be_slice sl_E (EV.b (ev_name 6 (bv 6))) ov_none (ov_some (EV.b ev_int))) sv_E)) (EV.b (ev_tup (av_cons (ev_ix ix_seq ov_ix (EV.b (ev_name 7 (bv 7))) (EV.b ev_int) (fun _ _ => rfl)) av_nil))))) (EV.b (ev_slice (be_slice sl_E (EV.b (ev_name 6 (bv 6))) (ov_some (EV.b ev_int)) ov_none) sv_E))) av_nil))))) (EV.b (ev_slice (be_slice sl_E (EV.b (ev_name 2 (bv 2))) (ov_some (EV.b (ev_bin op_addD ov_add (EV.b (ev_name 4 (bv 4))) (EV.b ev_int)))) ov_none) sv_E)))))) ss_nil))
    (ss_cons (sv_if (bs_if (tv_cmp (op_eqD hr.units) (ov_eq false) (EV.b (ev_name 3 (bv 3))) (EV.b ev_int) (nomark _)) (ss_one (sv_ret (bs_ret (ev_call (be_call G_law_any (hr.mono (by decide)) rfl T.m_law_any T.F_law_any.kp T.b_law_any .nil pass0 (av_cons (ev_name 0 (bv 0)) (av_cons (EF.v (ef_lst (by refine av_cons (EF.v (ef_callB (be_callTy call_list_of rfl T.m_list PyProof.Rows.boot_list (ab_cons (EV.b (ev_name 2 (bv 2))) ab_nil)) cf_lst)) ?_; refine av_cons (ev_rev (be_rev (EV.b (ev_name 2 (bv 2))) (ov_some (EV.b (ev_neg (be_un un_neg (EV.b ev_int)))))) (fun _ => rfl)) ?_; refine av_cons (ev_tup (av_cons (ev_name 2 (bv 2)) av_nil)) ?_; refine av_cons (ev_bin op_addD ov_add (EV.b (ev_name 2 (bv 2))) (EV.b (ev_tup (av_cons ev_non av_nil)))) ?_; refine av_cons (ev_ix ix_seq ov_ix (EV.b (ev_name 2 (bv 2))) (EV.b ev_int) (fun _ _ => rfl)) ?_; refine av_cons (ev_slice (be_slice sl_E (EV.b (ev_name 2 (bv 2))) (ov_some (EV.b ev_int)) ov_none) sv_E) ?_; refine av_cons (ev_bin op_addD ov_add (EV.b (ev_name 2 (bv 2))) (EV.b (ev_name 2 (bv 2)))) ?_; exact av_nil))) av_nil))))))) ss_nil))
    (ss_cons (sv_own (bs_set (i := 9) sc_law_bent.nd rfl (Or.inl rfl) (ef_lst (by refine av_cons (ev_bin op_addD ov_add (EV.b (ev_name 6 (bv 6))) (EV.b (ev_tup (av_cons ev_int av_nil)))) ?_; refine av_cons (ev_slice (be_slice sl_E (EV.b (ev_name 6 (bv 6))) ov_none (ov_some (EV.b ev_int))) sv_E) ?_; refine av_cons (EF.v (ef_callB (be_callTy call_list_of rfl T.m_list PyProof.Rows.boot_list (ab_cons (EV.b (ev_name 6 (bv 6))) ab_nil)) cf_lst)) ?_; refine av_cons ev_non ?_; refine av_cons (ev_bin op_addD ov_add (EV.b (ev_bin op_addD ov_add (EV.b (ev_slice (be_slice sl_E (EV.b (ev_name 6 (bv 6))) ov_none (ov_some (EV.b ev_int))) sv_E)) (EV.b (ev_tup (av_cons (ev_neg (be_un un_neg (EV.b ev_int))) av_nil))))) (EV.b (ev_slice (be_slice sl_E (EV.b (ev_name 6 (bv 6))) (ov_some (EV.b ev_int)) ov_none) sv_E))) ?_; refine av_cons (ev_tup av_nil) ?_; exact av_nil))))
    (ss_cons (sv_app (k := 9) (bs_expr (be_bm PySem.F.plainAttrs_list PySem.F.slot_list_append PySem.F.type_list_append mt_append (bv 9) (ba_cons (ev_bin op_addD ov_add (EV.b (ev_bin op_addD ov_add (EV.b (ev_slice (be_slice sl_E (EV.b (ev_name 6 (bv 6))) ov_none (ov_some (EV.b ev_int))) sv_E)) (EV.b (ev_tup (av_cons (ev_bin op_addD ov_add (EV.b (ev_ix ix_seq ov_ix (EV.b (ev_name 1 (bv 1))) (EV.b ev_int) (fun _ _ => rfl))) (EV.b ev_int)) av_nil))))) (EV.b (ev_slice (be_slice sl_E (EV.b (ev_name 6 (bv 6))) (ov_some (EV.b ev_int)) ov_none) sv_E))) ba_nil))))
    (ss_one (sv_ret (bs_ret (ev_bin op_addD ov_add (EV.b (ev_bin op_addD ov_add (EV.b (ev_slice (be_slice sl_E (EV.b (ev_name 2 (bv 2))) ov_none (ov_some (EV.b (ev_name 4 (bv 4))))) sv_E)) (EV.b (ev_tup (av_cons (ev_call (be_call G_law_any (hr.mono (by decide)) rfl T.m_law_any T.F_law_any.kp T.b_law_any .nil pass0 (av_cons (ev_name 0 (bv 0)) (av_cons (ev_name 9 (bv 9)) av_nil)))) av_nil))))) (EV.b (ev_slice (be_slice sl_E (EV.b (ev_name 2 (bv 2))) (ov_some (EV.b (ev_bin op_addD ov_add (EV.b (ev_name 4 (bv 4))) (EV.b ev_int)))) ov_none) sv_E)))))))))))))))))
theorem ok_law (kb : K.In base) (hB : BIn base mg) (G_law_bag : FnOk P w K mg base CX0 1 awbag dwbag ["_law_script"] (spBag K)) (G_law_hill : FnOk P w K mg base CX0 4 awhill dwhill ["_law_bag_here"] (spP (famT tb_book_of tb_law K) F_law_hill)) (G_law_pages : FnOk P w K mg base CX0 6 awpages dwpages ["_law_bag_here", "_law_hill_here", "_law_many"] (spP (famT tb_book_of tb_law K) F_law_pages)) (G_law_draw : FnOk P w K mg base CX0 1 awdraw dwdraw ["_law_bag_here", "_law_many"] (spP (famT tb_book_of tb_law K) F_law_draw)) (G_is_book : FnOk P w K mg base CX0 7 a_is_book d_is_book ["hill", "thing"] (spP (famT tb_book_of tb_law K) F_is_book)) (G_law_bent : FnOk P w K mg base CX0 3 awbent dwbent ["_law_bag_here", "_law_hill_here", "_law_book"] (spP (famT tb_book_of tb_law K) F_law_bent)) (G_law_book_is : FnOk P w K mg base CX0 5 awbook_is dwbook_is ["_law_hill_here", "_law_thing"] (spP (famT tb_book_of tb_law K) F_law_book_is)) (hm : ∀ c : Nat, (8 : Int) ≤ c → (c : Int) ≤ max 8 16 → (seqP (forP (bindN 2) b_law (intsP 0 c)) r_law ((List.replicate 8 un).set 1 (.val .bag))).wp 1000000 fun f _ => f = .rt (.bl true)) : FnOk P w K mg base CX0 8 a_law d_law ["_law_script"] (spLawT K [tb_book_of, tb_law]) := by
  have eb : defBody s_law = defBody s_law := rfl
  conv at eb => rhs; whnf; arg 2; whnf
  have es : defScope s_law = defScope s_law := rfl
  conv at es => rhs; whnf
  refine L2.law_ok2TC (tabs := [(tb_book_of, (("book_of" : Str) ++ ".<locals>." ++ "<lambda>")), (tb_law, (("law" : Str) ++ ".<locals>." ++ "<lambda>"))]) (N := ["_law_script", "_law_bag_here", "_law_turn", "_law_hill_here", "_law_pages_here", "_law_book", "_law_thing", "_law_found"]) (k := 7) (b := 1) (bd := (bindN 2)) (mb := b_law) (m' := r_law) (lo := 8) (hi := 16) T.L_law sc_law eb es (fun A outer s H E hr => ?_) (fun A outer s H E hr => ?_) (fun A outer s H E hr => ?_) (by decide) (by decide) hm (by decide) (by decide) (by decide)
  · exact (bs_set (i := 1) sc_law.nd rfl (Or.inr rfl) (be_call G_law_bag (hr.mono (by decide)) rfl T.m_law_bag T.F_law_bag.kp T.b_law_bag .nil pass0 (ba_cons (bv 0) ba_nil)))
  · unfold b_law
    exact (bs_for PassesOwn.never rfl (bi_range1 rfl T.m_range (ba_cons (be_callB (call_max2 rfl) rfl T.m_max PyProof.Rows.boot_max (ba_cons ⟨pe_int⟩ (ba_cons (be_callB (call_min2 rfl) rfl T.m_min PyProof.Rows.boot_min (ba_cons ⟨pe_int⟩ (ba_cons (be_callB call_lenDD rfl T.m_len PySem.boot_len (ba_cons (bv 0) ba_nil)) ba_nil))) ba_nil))) ba_nil)) (gs_name (bg_name (i := 2) sc_law.nd rfl (Or.inl rfl))) (ss_cons (sv_set (bs_set (i := 3) sc_law.nd rfl (Or.inr rfl) (ev_call (be_call G_law_hill (hr.mono (by decide)) rfl T.m_law_hill T.F_law_hill.kp T.b_law_hill .nil pass0 (av_cons (ev_name 1 (bv 1)) av_nil)))))
    (ss_cons (sv_set (bs_set (i := 4) sc_law.nd rfl (Or.inl rfl) (ev_call (be_call G_law_pages (hr.mono (by decide)) rfl T.m_law_pages T.F_law_pages.kp T.b_law_pages .nil pass0 (by refine av_cons (ev_name 1 (bv 1)) ?_; refine av_cons (ev_name 3 (bv 3)) ?_; refine av_cons (ev_call (be_call G_law_draw (hr.mono (by decide)) rfl T.m_law_draw T.F_law_draw.kp T.b_law_draw .nil pass0 (av_cons (ev_name 1 (bv 1)) (av_cons ev_int av_nil)))) ?_; exact av_nil)))))
    (ss_cons (sv_set (bs_set (i := 5) sc_law.nd rfl (Or.inr rfl) (ev_callB (be_callTy call_tuple_of rfl T.m_tuple PyProof.Rows.boot_tuple (ab_cons (EV.b (EF.v (ef_sortE (tb := (tb_law, _)) (List.mem_cons_of_mem _ List.mem_cons_self) (by intro q hq e; simp only [List.mem_cons, List.not_mem_nil, or_false] at hq; rcases hq with rfl | rfl <;> first | rfl | exact absurd e T.ne_book_of_law) ⟨pe_sortE (k := 0) (N := ["_law_page_here"]) (y := "_law_page_here") (hr.mono (by decide)) hB rfl (PySem.W.codeHd_of_K kb T.L_law.hd) rfl rfl ⟨rfl, rfl, rfl, by decide, rfl, by decide +kernel, by decide +kernel⟩ (fun _ _ _ _ _ => .of_eq rfl) (fun _ _ _ _ _ => pe_tup (pa_cons (pe_ix ix_tup (pv 0) pe_int (fun _ _ => rfl)) (pa_cons (pe_ix ix_tup (pv 0) pe_int (fun _ _ => rfl)) pa_nil))) rfl T.m_sorted (EV.b (ev_name 4 (bv 4))).out⟩))) ab_nil)) cv_tup)))
    (ss_one (sv_for (bs_for PassesOwn.never rfl (iv_v (EF.v (ef_cat (be_op op_cat (EV.b (EF.v (ef_lst (av_cons (ev_name 5 (bv 5)) av_nil)))) (EV.b (EF.v (ef_lc (be_lc (LcScope.mk2 (N := ["_law_look", "_law_bag_here", "_law_hill_here", "_law_book"]) (js := [none, some 1, some 3, some 5]) (defScope s_law) ["_law_script", "_law_bag_here", "_law_turn", "_law_hill_here", "_law_pages_here", "_law_book", "_law_thing", "_law_found"] rfl rfl (by decide +kernel)) rfl (iv_rng1 (bi_range1 rfl T.m_range (ab_cons (EV.b ev_int) ab_nil))) (fun _ _ _ _ => (gv_name (bg_name (i := 0) (by decide : (["_law_look", "_law_bag_here", "_law_hill_here", "_law_book"] : List Str).Nodup) rfl (Or.inl rfl)))) (fun _ _ _ _ => ts_nil) (fun _ _ _ _ => (ev_call (be_call G_law_bent (hr.mono (by decide)) rfl T.m_law_bent T.F_law_bent.kp T.b_law_bent .nil pass0 (by refine av_cons (ev_name 1 (bv 1)) ?_; refine av_cons (ev_name 2 (bv 2)) ?_; refine av_cons (ev_name 3 (bv 3)) ?_; exact av_nil)))))))))))) (gs_name (bg_name (i := 6) sc_law.nd rfl (Or.inl rfl))) (ss_cons (sv_set (bs_set (i := 7) sc_law.nd rfl (Or.inl rfl) (ev_call (be_call G_is_book (hr.mono (by decide)) rfl T.m_is_book T.F_is_book.kp T.b_is_book .nil pass0 (av_cons (ev_name 3 (bv 3)) (av_cons (ev_name 6 (bv 6)) av_nil))))))
    (ss_one (sv_if (bs_if (WV.t (wv_or (tv_not (tv_val (ev_isi (be_callB call_isi rfl T.m_isinstance PyProof.Rows.boot_isinstance (ba_cons (EV.b (ev_name 7 (bv 7))) (ba_cons (be_bltn (v := .ty "bool") rfl T.m_bool PyProof.Rows.boot_bool rfl) ba_nil))) kit_bool))) (wv_or1 (tv_cmp (op_neD hr.units) (ov_eq true) (EV.b (ev_name 7 (bv 7))) (EV.b (ev_call (be_call G_law_book_is (hr.mono (by decide)) rfl T.m_law_book_is T.F_law_book_is.kp T.b_law_book_is .nil pass0 (av_cons (ev_name 3 (bv 3)) (av_cons (ev_name 6 (bv 6)) av_nil))))) (nomark _))))) (ss_one (sv_ret (bs_ret ev_bl))) ss_nil)))))))))))
  · unfold r_law
    exact (ss_one (sv_ret (bs_ret ev_bl)))
end
def nameOk (x : Str) : Bool := decide (1 ≤ x.length ∧ x.length ≤ 8) && x.cps.toList.all (fun c => decide (97 ≤ c ∧ c ≤ 122))
def isName : PV → Bool
  | .str x => nameOk x
  | _ => false
def Fine (y : PV) : Prop := y ≠ .bag ∧ ∀ x, y = .str x → x.length ≤ 100000
theorem le_sign (c d : Nat) : (!decide (([d] : List Nat) < [c])) = decide (c ≤ d) := by
  by_cases h : c ≤ d
  · rw [decide_eq_true h]
    have : ¬ ([d] : List Nat) < [c] := by
      intro z
      rw [List.cons_lt_cons_iff] at z
      rcases z with z | ⟨_, z⟩
      · omega
      · exact absurd z (List.not_lt_nil [])
    simp [this]
  · rw [decide_eq_false h]
    have : ([d] : List Nat) < [c] := by rw [List.cons_lt_cons_iff]; left; omega
    simp [this]
theorem bls_map (f : Nat → Bool) : ∀ cs : List Nat, blsOf (cs.map fun c => PV.bl (f c)) = some (cs.map f)
  | [] => rfl
  | c :: cs => by simp [blsOf, bls_map f cs]
theorem lenS {x : Str} (h : x.length ≤ 100000) : lenO [.str x] = .ret (.int x.length) := by simp [lenO, h]
theorem signs_all (x : Str) : lcM (bindN 0) allTs (chain leOD leOD (fun _ => M.ret (.str "a")) (fun ρ => getV ρ 0) (fun _ => M.ret (.str "z"))) (signsP x) [un] = .ret (x.cps.toList.map fun c => .bl (decide (97 ≤ c ∧ c ≤ 122))) := by
  have h := lcM_map (k := 0) (te := chain leOD leOD (fun _ => M.ret (.str "a")) (fun ρ => getV ρ 0) (fun _ => M.ret (.str "z"))) (f := fun y => match y with | .str z => .bl (leS "a" z && leS z "z") | _ => .non) (ρ := [un]) (signsP x) [un] (fun _ => rfl) (fun y hy => by
    unfold signsP at hy
    obtain ⟨c, _, rfl⟩ := List.mem_map.mp hy
    simp [chain, leOD, getV]
    cases leS "a" ⟨#[c]⟩ <;> simp)
  rw [h, signsP, List.map_map]
  congr 2
  funext c
  have e1 : leS "a" ⟨#[c]⟩ = decide (97 ≤ c) := le_sign 97 c
  have e2 : leS ⟨#[c]⟩ "z" = decide (c ≤ 122) := le_sign c 122
  simp only [Function.comp, e1, e2]
  by_cases a : 97 ≤ c <;> by_cases b : c ≤ 122 <;> simp [a, b]
theorem name_str (x : Str) (h : x.length ≤ 100000) : F_is_name [.str x] = .ret (.bl (nameOk x)) := by
  unfold F_is_name m_is_name nameOk
  have h1 := lenS h
  have h2 := signs_all x
  have h3 : (signsP x).length = x.length := by simp [signsP, Str.length]
  by_cases c1 : 1 ≤ x.length
  · by_cases c2 : x.length ≤ 8
    · have d1 : decide ((1 : Int) ≤ x.length) = true := decide_eq_true (by omega)
      have d2 : decide ((x.length : Int) ≤ 8) = true := decide_eq_true (by omega)
      simp [seqP, setP, ownP, parP, par3P, unpP, ifP, retP, bin2, consA, asB, notP, andP, orP, notV, andV, orV, ifV, chain, lstV, mkLst, mkTup, fnP, startP, finP, isiO, inst, tyN, getV, getB, capP, Ent.freeze, bindT, bindsN, M.ofO, List.replicate, mkLC, iterO, allO, leOD, ltO, gtO, geO, numB, subO, xor, h1, c1, c2, d1, d2, h3, h]
      simp only [getV] at h2
      rw [h2]
      simp [allO, M.ofO, bls_map, finP, List.all_map, Function.comp_def]
    · have d1 : decide ((1 : Int) ≤ x.length) = true := decide_eq_true (by omega)
      have d2 : decide ((x.length : Int) ≤ 8) = false := decide_eq_false (by omega)
      simp [seqP, setP, ownP, parP, par3P, unpP, ifP, retP, bin2, consA, asB, notP, andP, orP, notV, andV, orV, ifV, chain, lstV, mkLst, mkTup, fnP, startP, finP, isiO, inst, tyN, getV, getB, capP, Ent.freeze, bindT, bindsN, M.ofO, List.replicate, mkLC, iterO, allO, leOD, ltO, gtO, geO, numB, subO, xor, h1, c1, c2, d1, d2]
  · have d1 : decide ((1 : Int) ≤ x.length) = false := decide_eq_false (by omega)
    simp [seqP, setP, ownP, parP, par3P, unpP, ifP, retP, bin2, consA, asB, notP, andP, orP, notV, andV, orV, ifV, chain, lstV, mkLst, mkTup, fnP, startP, finP, isiO, inst, tyN, getV, getB, capP, Ent.freeze, bindT, bindsN, M.ofO, List.replicate, mkLC, iterO, allO, leOD, ltO, gtO, geO, numB, subO, xor, h1, c1, d1]
theorem abc_iff (c : Nat) : decide (c ∈ (Str.ofString "abcdefghijklmnopqrstuvwxyz").cps.toList) = decide (97 ≤ c ∧ c ≤ 122) := by
  have e : (Str.ofString "abcdefghijklmnopqrstuvwxyz").cps.toList = List.range' 97 26 := by decide +kernel
  rw [e, decide_eq_decide, List.mem_range'_1]
  omega
theorem inAbc (c : Nat) : inO true (.str ⟨#[c]⟩) (.str "abcdefghijklmnopqrstuvwxyz") = .ret (.bl (!decide (97 ≤ c ∧ c ≤ 122))) := by
  show M.ret (PV.bl (xor true _)) = _
  rw [PySem.StrLaws.found_one, abc_iff]
  simp
theorem strange (x : Str) : lcM (bindN 0) (asB (bin2 (inO true) (fun ρ => getV ρ 0) (fun _ => M.ret (.str "abcdefghijklmnopqrstuvwxyz")))) (fun ρ => getV ρ 0) (signsP x) [un] = .ret ((x.cps.toList.filter fun c => !decide (97 ≤ c ∧ c ≤ 122)).map fun c => .str ⟨#[c]⟩) := by
  have h := lcM_filter (k := 0) (tt := asB (bin2 (inO true) (fun ρ => getV ρ 0) (fun _ => M.ret (.str "abcdefghijklmnopqrstuvwxyz")))) (te := fun ρ => getV ρ 0) (p := fun y => match y with | .str ⟨a⟩ => (match a.toList with | [c] => !decide (97 ≤ c ∧ c ≤ 122) | _ => false) | _ => false) (f := fun y => y) (ρ := [un]) (signsP x) [un] (fun _ => rfl) (fun y hy => by
    unfold signsP at hy
    obtain ⟨c, _, rfl⟩ := List.mem_map.mp hy
    have := inAbc c
    simp only [asB, bin2, getV, List.set_cons_zero, List.getElem?_cons_zero, rZ, this]) (fun y hy _ => rfl)
  rw [h, signsP, List.filter_map, List.map_map]
  rfl
theorem eqI (i j : Int) : eqO false (.int i) (.int j) = .ret (.bl (i == j)) := by
  show M.ret (PV.bl (xor false (i == j))) = _
  simp
theorem eq_nil (l : List PV) : eqP 20 (.lst l) (.lst []) = some l.isEmpty := by cases l <;> rfl
theorem empty_all (x : Str) : (List.filter (fun c => !decide (97 ≤ c) || !decide (c ≤ 122)) x.cps.toList).isEmpty = x.cps.all fun c => decide (97 ≤ c) && decide (c ≤ 122) := by
  rw [← Array.all_toList, Bool.eq_iff_iff, List.isEmpty_iff, List.filter_eq_nil_iff, List.all_eq_true]
  constructor
  · intro h c hc
    have := h c hc
    simpa using this
  · intro h c hc
    have := h c hc
    simpa using this
theorem lname_str (x : Str) (h : x.length ≤ 100000) : F_law_name_is [.str x] = .ret (.bl (nameOk x)) := by
  unfold F_law_name_is m_law_name_is nameOk
  have h1 := lenS h
  have h2 := strange x
  have h3 : (signsP x).length = x.length := by simp [signsP, Str.length]
  by_cases c1 : x.length = 0
  · simp [seqP, setP, ownP, parP, par3P, unpP, ifP, retP, bin2, consA, asB, notP, andP, orP, notV, andV, orV, ifV, chain, lstV, mkLst, mkTup, fnP, startP, finP, isiO, inst, tyN, getV, getB, capP, Ent.freeze, bindT, bindsN, M.ofO, List.replicate, mkLC, iterO, allO, leOD, ltO, gtO, geO, numB, subO, xor, h1, eqI, c1]
  · by_cases c2 : x.length ≤ 8
    · have d2 : decide ((8 : Int) < x.length) = false := decide_eq_false (by omega)
      have d3 : 1 ≤ x.length := by omega
      simp [seqP, setP, ownP, parP, par3P, unpP, ifP, retP, bin2, consA, asB, notP, andP, orP, notV, andV, orV, ifV, chain, lstV, mkLst, mkTup, fnP, startP, finP, isiO, inst, tyN, getV, getB, capP, Ent.freeze, bindT, bindsN, M.ofO, List.replicate, mkLC, iterO, allO, leOD, ltO, gtO, geO, numB, subO, xor, h1, eqI, c1, d2, c2, d3, h3, h]
      simp only [asB, bin2, getV] at h2
      rw [h2]
      simp [eqO, eq_nil, M.ofO, finP]
      exact empty_all x
    · have d2 : decide ((8 : Int) < x.length) = true := decide_eq_true (by omega)
      have d3 : ¬ (1 ≤ x.length ∧ x.length ≤ 8) := by omega
      simp [seqP, setP, ownP, parP, par3P, unpP, ifP, retP, bin2, consA, asB, notP, andP, orP, notV, andV, orV, ifV, chain, lstV, mkLst, mkTup, fnP, startP, finP, isiO, inst, tyN, getV, getB, capP, Ent.freeze, bindT, bindsN, M.ofO, List.replicate, mkLC, iterO, allO, leOD, ltO, gtO, geO, numB, subO, xor, h1, eqI, c1, d2, c2, d3]
theorem name_is {y : PV} (h : Fine y) : F_is_name [y] = .ret (.bl (isName y)) := by
  cases y with
  | str x => exact name_str x (h.2 x rfl)
  | bag => exact absurd rfl h.1
  | _ => rfl
theorem lname_is {y : PV} (h : Fine y) : F_law_name_is [y] = .ret (.bl (isName y)) := by
  cases y with
  | str x => exact lname_str x (h.2 x rfl)
  | bag => exact absurd rfl h.1
  | _ => rfl
def inW (lo hi : Int) : PV → Bool
  | .int i => decide (lo ≤ i) && decide (i ≤ hi)
  | _ => false
theorem whole_is {y : PV} (h : y ≠ .bag) : F_is_whole [y] = .ret (.bl (match y with | .int _ => true | _ => false)) := by
  cases y with
  | bag => exact absurd rfl h
  | _ => rfl
theorem within_is {y : PV} {lo hi : Int} (h : y ≠ .bag) : F_is_within [y, .int lo, .int hi] = .ret (.bl (inW lo hi y)) := by
  have h1 := whole_is h
  unfold F_is_within m_is_within
  cases y with
  | bag => exact absurd rfl h
  | int i =>
    simp [seqP, setP, ownP, parP, par3P, unpP, ifP, retP, bin2, consA, asB, notP, andP, orP, notV, andV, orV, ifV, chain, lstV, mkLst, mkTup, fnP, startP, finP, isiO, inst, tyN, getV, getB, capP, Ent.freeze, bindT, bindsN, M.ofO, List.replicate, mkLC, iterO, allO, leOD, ltO, gtO, geO, numB, subO, xor, h1, inW]
    by_cases c : lo ≤ i <;> simp [c, finP]
  | _ => rfl
theorem lwhole_is {y : PV} {lo hi : Int} (h : y ≠ .bag) : F_law_whole_is [y, .int lo, .int hi] = .ret (.bl (inW lo hi y)) := by
  unfold F_law_whole_is m_law_whole_is
  cases y with
  | bag => exact absurd rfl h
  | int i =>
    simp [seqP, setP, ownP, parP, par3P, unpP, ifP, retP, bin2, consA, asB, notP, andP, orP, notV, andV, orV, ifV, chain, lstV, mkLst, mkTup, fnP, startP, finP, isiO, inst, tyN, getV, getB, capP, Ent.freeze, bindT, bindsN, M.ofO, List.replicate, mkLC, iterO, allO, leOD, ltO, gtO, geO, numB, subO, xor, inW]
    by_cases c : lo ≤ i <;> simp [c, finP]
  | _ => rfl
theorem eqS (x y : Str) : eqO false (.str x) (.str y) = .ret (.bl (x == y)) := by
  show M.ret (PV.bl (xor false (x == y))) = _
  simp
theorem eq_nilT (l : List PV) : eqO false (.tup l) (.tup []) = .ret (.bl l.isEmpty) := by
  cases l <;> rfl
def isNum : PV → Bool
  | .int _ => true
  | _ => false
theorem num_is {y : PV} (h : y ≠ .bag) : F_is_whole [y] = .ret (.bl (isNum y)) := by
  cases y with
  | bag => exact absurd rfl h
  | _ => rfl
theorem lnum_is {y : PV} (h : y ≠ .bag) : F_law_number_is [y] = .ret (.bl (isNum y)) := by
  cases y with
  | bag => exact absurd rfl h
  | _ => rfl
def ltI : PV → PV → Bool
  | .int a, .int b => decide (a < b)
  | _, _ => false
def hoursOk (a b : PV) : Bool := inW 0 1000001 a && (inW 0 1000001 b && ltI a b)
theorem hours_is {a b : PV} (ha : a ≠ .bag) (hb : b ≠ .bag) : F_is_hours [a, b] = .ret (.bl (hoursOk a b)) := by
  have h1 := within_is (lo := 0) (hi := 1000001) ha
  have h2 := within_is (lo := 0) (hi := 1000001) hb
  unfold F_is_hours m_is_hours hoursOk
  cases e1 : inW 0 1000001 a with
  | false => simp [seqP, setP, ownP, parP, par3P, unpP, ifP, retP, bin2, consA, asB, notP, andP, orP, notV, andV, orV, ifV, chain, lstV, mkLst, mkTup, fnP, startP, finP, isiO, inst, tyN, getV, getB, capP, Ent.freeze, bindT, bindsN, M.ofO, List.replicate, mkLC, iterO, allO, leOD, ltO, gtO, geO, numB, subO, xor, h1, e1]
  | true =>
    cases e2 : inW 0 1000001 b with
    | false => simp [seqP, setP, ownP, parP, par3P, unpP, ifP, retP, bin2, consA, asB, notP, andP, orP, notV, andV, orV, ifV, chain, lstV, mkLst, mkTup, fnP, startP, finP, isiO, inst, tyN, getV, getB, capP, Ent.freeze, bindT, bindsN, M.ofO, List.replicate, mkLC, iterO, allO, leOD, ltO, gtO, geO, numB, subO, xor, h1, h2, e1, e2]
    | true =>
      cases a <;> simp [inW] at e1
      cases b <;> simp [inW] at e2
      simp [seqP, setP, ownP, parP, par3P, unpP, ifP, retP, bin2, consA, asB, notP, andP, orP, notV, andV, orV, ifV, chain, lstV, mkLst, mkTup, fnP, startP, finP, isiO, inst, tyN, getV, getB, capP, Ent.freeze, bindT, bindsN, M.ofO, List.replicate, mkLC, iterO, allO, leOD, ltO, gtO, geO, numB, subO, xor, h1, h2, inW, e1, e2, ltI]
def HillOk (h : PV) (ps : List (Str × List PV)) (dark : Int) : Prop := ∃ home, h = .tup [.tup (ps.map fun p => .tup (.str p.1 :: p.2)), home, .int dark] ∧ ps ≠ [] ∧ ps.length ≤ 100 ∧ (∀ p ∈ ps, nameOk p.1 = true) ∧ 1 ≤ dark ∧ dark ≤ 1000000
def nmIn (ps : List (Str × List PV)) : PV → Bool
  | .str x => ps.any fun p => p.1 == x
  | _ => false
theorem loop_named (x : Str) (h : PV) : ∀ (ps : List (Str × List PV)) (e : Ent), ∃ f, forP (bindN 2) (ifP (asB (bin2 (eqO false) (bin2 ixO (fun ρ => getV ρ 2) (fun _ => M.ret (.int 0))) (fun ρ => getV ρ 1)))
    (retP (fun ρ => getV ρ 2))
    (fun ρ => M.ret (.nx ρ))) (ps.map fun p => .tup (.str p.1 :: p.2)) [.val h, .val (.str x), e] = .ret f ∧ (if nmIn ps (.str x) = true then ∃ l, f = .rt (.tup l) else ∃ e', f = .nx [.val h, .val (.str x), e'])
  | [], e => ⟨_, rfl, by simp [nmIn]⟩
  | p :: ps, e => by
    obtain ⟨f, hf, hr⟩ := loop_named x h ps (.val (.tup (.str p.1 :: p.2)))
    have i0 : atI (PV.str p.1 :: p.2) 0 = some (.str p.1) := by unfold atI ixN; simp
    rw [List.map_cons, forP]
    cases c : p.1 == x with
    | true =>
      refine ⟨.rt (.tup (.str p.1 :: p.2)), ?_, ?_⟩
      · simp [seqP, setP, ownP, parP, par3P, unpP, ifP, retP, bin2, consA, asB, notP, andP, orP, notV, andV, orV, ifV, chain, lstV, mkLst, mkTup, fnP, startP, finP, isiO, inst, tyN, getV, getB, capP, Ent.freeze, bindT, bindsN, M.ofO, List.replicate, mkLC, iterO, allO, leOD, ltO, gtO, geO, numB, subO, xor, bindN, ixO, i0, eqS, c]
      · rw [if_pos (by simp [nmIn, c])]; exact ⟨_, rfl⟩
    | false =>
      refine ⟨f, ?_, ?_⟩
      · have hf' := hf
        simp [seqP, setP, ownP, parP, par3P, unpP, ifP, retP, bin2, consA, asB, notP, andP, orP, notV, andV, orV, ifV, chain, lstV, mkLst, mkTup, fnP, startP, finP, isiO, inst, tyN, getV, getB, capP, Ent.freeze, bindT, bindsN, M.ofO, List.replicate, mkLC, iterO, allO, leOD, ltO, gtO, geO, numB, subO, xor, bindN, ixO, i0, eqS, c] at hf' ⊢
        exact hf'
      · have e1 : nmIn (p :: ps) (.str x) = nmIn ps (.str x) := by simp [nmIn, c]
        rw [e1]; exact hr
theorem wayname_is {h a : PV} {ps : List (Str × List PV)} {dark : Int} (H : HillOk h ps dark) (ha : Fine a) : F_is_way_name [h, a] = .ret (.bl (nmIn ps a)) := by
  obtain ⟨home, rfl, hne, hl, hok, _⟩ := H
  have h1 := name_is ha
  unfold F_is_way_name m_is_way_name
  cases a with
  | bag => exact absurd rfl ha.1
  | str x =>
    cases c : nameOk x with
    | false =>
      have e : nmIn ps (.str x) = false := by
        cases d : nmIn ps (.str x) with
        | false => rfl
        | true =>
          unfold nmIn at d
          obtain ⟨p, hp, e⟩ := List.any_eq_true.mp d
          have := hok p hp
          rw [eq_of_beq e, c] at this
          cases this
      rw [e]
      have h1' : F_is_name [.str x] = .ret (.bl false) := by rw [h1]; simp [isName, c]
      simp [seqP, setP, ownP, parP, par3P, unpP, ifP, retP, bin2, consA, asB, notP, andP, orP, notV, andV, orV, ifV, chain, lstV, mkLst, mkTup, fnP, startP, finP, isiO, inst, tyN, getV, getB, capP, Ent.freeze, bindT, bindsN, M.ofO, List.replicate, mkLC, iterO, allO, leOD, ltO, gtO, geO, numB, subO, xor, h1']
    | true =>
      have h1' : F_is_name [.str x] = .ret (.bl true) := by rw [h1]; simp [isName, c]
      obtain ⟨f, hf, hr⟩ := loop_named x (.tup [.tup (ps.map fun p => .tup (.str p.1 :: p.2)), home, .int dark]) ps .un
      have i0 : atI [PV.tup (ps.map fun p => .tup (.str p.1 :: p.2)), home, PV.int dark] 0 = some (.tup (ps.map fun p => .tup (.str p.1 :: p.2))) := rfl
      have hw : ∃ y, F_way_named [.tup [.tup (ps.map fun p => .tup (.str p.1 :: p.2)), home, .int dark], .str x] = .ret y ∧ isN y = !nmIn ps (.str x) := by
        unfold F_way_named m_way_named
        by_cases d : nmIn ps (.str x) = true
        · rw [if_pos d] at hr
          obtain ⟨l, rfl⟩ := hr
          refine ⟨.tup l, ?_, by rw [d]; rfl⟩
          simp [seqP, setP, ownP, parP, par3P, unpP, ifP, retP, bin2, consA, asB, notP, andP, orP, notV, andV, orV, ifV, chain, lstV, mkLst, mkTup, fnP, startP, finP, isiO, inst, tyN, getV, getB, capP, Ent.freeze, bindT, bindsN, M.ofO, List.replicate, mkLC, iterO, allO, leOD, ltO, gtO, geO, numB, subO, xor, bindN] at hf
          simp [seqP, setP, ownP, parP, par3P, unpP, ifP, retP, bin2, consA, asB, notP, andP, orP, notV, andV, orV, ifV, chain, lstV, mkLst, mkTup, fnP, startP, finP, isiO, inst, tyN, getV, getB, capP, Ent.freeze, bindT, bindsN, M.ofO, List.replicate, mkLC, iterO, allO, leOD, ltO, gtO, geO, numB, subO, xor, mkFor, ixO, i0, bindN, hf]
        · rw [if_neg d] at hr
          obtain ⟨e', rfl⟩ := hr
          refine ⟨.non, ?_, by simp at d; rw [d]; rfl⟩
          simp [seqP, setP, ownP, parP, par3P, unpP, ifP, retP, bin2, consA, asB, notP, andP, orP, notV, andV, orV, ifV, chain, lstV, mkLst, mkTup, fnP, startP, finP, isiO, inst, tyN, getV, getB, capP, Ent.freeze, bindT, bindsN, M.ofO, List.replicate, mkLC, iterO, allO, leOD, ltO, gtO, geO, numB, subO, xor, bindN] at hf
          simp [seqP, setP, ownP, parP, par3P, unpP, ifP, retP, bin2, consA, asB, notP, andP, orP, notV, andV, orV, ifV, chain, lstV, mkLst, mkTup, fnP, startP, finP, isiO, inst, tyN, getV, getB, capP, Ent.freeze, bindT, bindsN, M.ofO, List.replicate, mkLC, iterO, allO, leOD, ltO, gtO, geO, numB, subO, xor, mkFor, ixO, i0, bindN, hf]
      obtain ⟨y, hy, hn⟩ := hw
      simp [seqP, setP, ownP, parP, par3P, unpP, ifP, retP, bin2, consA, asB, notP, andP, orP, notV, andV, orV, ifV, chain, lstV, mkLst, mkTup, fnP, startP, finP, isiO, inst, tyN, getV, getB, capP, Ent.freeze, bindT, bindsN, M.ofO, List.replicate, mkLC, iterO, allO, leOD, ltO, gtO, geO, numB, subO, xor, h1', hy, isO, hn]
  | _ => rfl
theorem flat_names : ∀ ps : List (Str × List PV), (ps.map fun p => PV.str p.1).all flatP = true
  | [] => rfl
  | p :: ps => by rw [List.map_cons, List.all_cons, flat_names ps]; rfl
theorem lofway_is {h a : PV} {ps : List (Str × List PV)} {dark : Int} (H : HillOk h ps dark) (ha : Fine a) : F_law_of_way [h, a] = .ret (.bl (nmIn ps a)) := by
  obtain ⟨home, rfl, hne, hl, hok, _⟩ := H
  unfold F_law_of_way m_law_of_way
  cases a with
  | bag => exact absurd rfl ha.1
  | str x =>
    have i0 : atI [PV.tup (ps.map fun p => .tup (.str p.1 :: p.2)), home, PV.int dark] 0 = some (.tup (ps.map fun p => .tup (.str p.1 :: p.2))) := rfl
    have hlc := lcM_map (k := 0) (te := bin2 ixO (fun ρ => getV ρ 0) (fun _ => M.ret (.int 0))) (f := fun y => match y with | .tup (a :: _) => a | _ => .non) (ρ := [un]) (ps.map fun p => PV.tup (.str p.1 :: p.2)) [un] (fun _ => rfl) (fun y hy => by
      obtain ⟨p, _, rfl⟩ := List.mem_map.mp hy
      have i1 : atI (PV.str p.1 :: p.2) 0 = some (.str p.1) := by unfold atI ixN; simp
      simp [bin2, getV, ixO, i1, M.ofO])
    rw [List.map_map] at hlc
    have e2 : (fun y => match y with | PV.tup (a :: _) => a | _ => PV.non) ∘ (fun p : Str × List PV => PV.tup (.str p.1 :: p.2)) = fun p => PV.str p.1 := rfl
    rw [e2] at hlc
    simp only [bin2, getV] at hlc
    have hin : inO false (.str x) (.lst (ps.map fun p => PV.str p.1)) = .ret (.bl (nmIn ps (.str x))) := by
      unfold inO
      dsimp only
      rw [flat_names ps]
      have : memF (.str x) (ps.map fun p => PV.str p.1) = nmIn ps (.str x) := by
        unfold memF nmIn
        rw [List.any_map]
        rfl
      rw [this]
      simp [flatP, toV, flatV]
    have hle : (ps.map fun p => PV.tup (.str p.1 :: p.2)).length ≤ 100000 := by rw [List.length_map]; omega
    have hle' : ps.length ≤ 100000 := by omega
    simp [seqP, setP, ownP, parP, par3P, unpP, ifP, retP, bin2, consA, asB, notP, andP, orP, notV, andV, orV, ifV, chain, lstV, mkLst, mkTup, fnP, startP, finP, isiO, inst, tyN, getV, getB, capP, Ent.freeze, bindT, bindsN, M.ofO, List.replicate, mkLC, iterO, allO, leOD, ltO, gtO, geO, numB, subO, xor, ixO, i0, hle']
    rw [hlc]
    simp [seqP, setP, ownP, parP, par3P, unpP, ifP, retP, bin2, consA, asB, notP, andP, orP, notV, andV, orV, ifV, chain, lstV, mkLst, mkTup, fnP, startP, finP, isiO, inst, tyN, getV, getB, capP, Ent.freeze, bindT, bindsN, M.ofO, List.replicate, mkLC, iterO, allO, leOD, ltO, gtO, geO, numB, subO, xor, hin]
  | _ => rfl
def hrsB : List PV → Bool
  | [a, b] => hoursOk a b
  | _ => false
noncomputable def ruleB (ps : List (Str × List PV)) (w : Str) (r : List PV) : Bool :=
  if (w == "hours") = true then hrsB r
  else if (w == "least" || w == "most") = true then (match r with | [a, b] => isName a && isNum b | _ => false)
  else if (w == "looked") = true then (match r with | [a] => inW 1 1000000 a | _ => false)
  else if (w == "with") = true then (match r with | [a] => nmIn ps a | _ => false)
  else w == "never" && r.isEmpty
def ruleOk (ps : List (Str × List PV)) : PV → Bool
  | .tup (.str w :: r) => ruleB ps w r
  | _ => false
def FineT (y : PV) : Prop := y ≠ .bag ∧ ∀ l, y = .tup l → ∀ z ∈ l, Fine z
theorem at0 (a : PV) (r : List PV) : atI (a :: r) 0 = some a := by unfold atI ixN; simp
def startsT : PV → Bool
  | .tup (.str _ :: _) => true
  | _ => false
theorem begins_is {y : PV} (h : FineT y) : F_begins_with_text [y] = .ret (.bl (startsT y)) := by
  unfold F_begins_with_text m_begins_with_text startsT
  cases y with
  | bag => exact absurd rfl h.1
  | tup l =>
    cases l with
    | nil => simp [seqP, setP, ownP, parP, par3P, unpP, ifP, retP, bin2, consA, asB, notP, andP, orP, notV, andV, orV, ifV, chain, lstV, mkLst, mkTup, fnP, startP, finP, isiO, inst, tyN, getV, getB, capP, Ent.freeze, bindT, bindsN, M.ofO, List.replicate, mkLC, iterO, allO, leOD, ltO, gtO, geO, numB, subO, xor, lenO]
    | cons a r =>
      have d : decide ((0 : Int) < ↑r.length + 1) = true := decide_eq_true (by omega)
      cases a with
      | bag => exact absurd rfl (h.2 _ rfl .bag (by simp)).1
      | _ => simp [seqP, setP, ownP, parP, par3P, unpP, ifP, retP, bin2, consA, asB, notP, andP, orP, notV, andV, orV, ifV, chain, lstV, mkLst, mkTup, fnP, startP, finP, isiO, inst, tyN, getV, getB, capP, Ent.freeze, bindT, bindsN, M.ofO, List.replicate, mkLC, iterO, allO, leOD, ltO, gtO, geO, numB, subO, xor, lenO, ixO, at0, d]
  | _ => simp [seqP, setP, ownP, parP, par3P, unpP, ifP, retP, bin2, consA, asB, notP, andP, orP, notV, andV, orV, ifV, chain, lstV, mkLst, mkTup, fnP, startP, finP, isiO, inst, tyN, getV, getB, capP, Ent.freeze, bindT, bindsN, M.ofO, List.replicate, mkLC, iterO, allO, leOD, ltO, gtO, geO, numB, subO, xor]
theorem seq_nx {m k : PEnv → M Fl} {ρ ρ' : PEnv} {Y : M PV} (h : m ρ = .ret (.nx ρ')) (h' : (k ρ').bind finP = Y) : (seqP m k ρ).bind finP = Y := by
  unfold seqP; rw [h]; exact h'
theorem seq_rt {m k : PEnv → M Fl} {ρ : PEnv} {y : PV} (h : m ρ = .ret (.rt y)) : (seqP m k ρ).bind finP = .ret y := by
  unfold seqP; rw [h]; rfl
theorem if_f {c : PEnv → M Bool} {a b : PEnv → M Fl} {ρ : PEnv} (h : c ρ = .ret false) : ifP c a b ρ = b ρ := by unfold ifP; rw [h]; rfl
theorem if_t {c : PEnv → M Bool} {a b : PEnv → M Fl} {ρ : PEnv} (h : c ρ = .ret true) : ifP c a b ρ = a ρ := by unfold ifP; rw [h]; rfl
theorem ifv_t {c : PEnv → M Bool} {a b : PEnv → M PV} {ρ : PEnv} (h : c ρ = .ret true) : ifV c a b ρ = a ρ := by unfold ifV; rw [h]; rfl
theorem ifv_f {c : PEnv → M Bool} {a b : PEnv → M PV} {ρ : PEnv} (h : c ρ = .ret false) : ifV c a b ρ = b ρ := by unfold ifV; rw [h]; rfl
theorem ret_y {m : PEnv → M PV} {ρ : PEnv} {y : PV} (h : m (ρ.map Ent.freeze) = .ret y) : retP m ρ = .ret (.rt y) := by unfold retP; rw [h]; rfl
theorem fin_y {m : PEnv → M Fl} {ρ : PEnv} {y : PV} (h : m ρ = .ret (.rt y)) : (m ρ).bind finP = .ret y := by rw [h]; rfl
theorem c_eq {ρ : PEnv} {w z : Str} {h y : Ent} {t : List Ent} (hρ : ρ = h :: y :: .val (.str w) :: t) : asB (bin2 (eqO false) (fun ρ => getV ρ 2) (fun _ => M.ret (.str z))) ρ = .ret (w == z) := by
  subst hρ; simp [asB, bin2, getV, eqS]
theorem c_or {a b : PEnv → M Bool} {ρ : PEnv} {x y : Bool} (ha : a ρ = .ret x) (hb : b ρ = .ret y) : orP a b ρ = .ret (x || y) := by
  unfold orP; rw [ha]; cases x <;> simp [hb]
theorem v_and {a b : PEnv → M PV} {ρ : PEnv} {x y : Bool} (ha : a ρ = .ret (.bl x)) (hb : x = true → b ρ = .ret (.bl y)) : andV a b ρ = .ret (.bl (x && y)) := by
  cases x <;> simp [andV, asB, ha, hb]
theorem c_len {ρ : PEnv} {l : List PV} {h : Ent} {t : List Ent} {k : Nat} (hρ : ρ = h :: .val (.tup l) :: t) : bin2 (eqO false) (fun ρ => ((consA (fun ρ => getV ρ 1) (fun _ => M.ret [])) ρ).bind lenO) (fun _ => M.ret (.int k)) ρ = .ret (.bl (l.length == k)) := by
  subst hρ
  simp only [bin2, consA, getV, List.getElem?_cons_succ, List.getElem?_cons_zero, rZ, lenO, eqI]
  congr 2
  rw [Bool.eq_iff_iff]; simp
  omega
theorem rule_is {h y : PV} {ps : List (Str × List PV)} {dark : Int} (H : HillOk h ps dark) (hy : FineT y) : F_is_rule [h, y] = .ret (.bl (ruleOk ps y)) := by
  have hb := begins_is hy
  unfold F_is_rule m_is_rule
  show (seqP _ _ [val h, val y, un]).bind finP = _
  by_cases hs : ∃ w r, y = .tup (.str w :: r)
  · obtain ⟨w, r, rfl⟩ := hs
    have hf := hy.2 _ rfl
    refine seq_nx (ρ' := [val h, val (.tup (.str w :: r)), un]) (if_f (by simp [notP, asB, consA, getV, hb, startsT])) ?_
    refine seq_nx (ρ' := [val h, val (.tup (.str w :: r)), val (.str w)]) (by simp [setP, bin2, ixO, getV, at0, M.ofO]) ?_
    show _ = M.ret (PV.bl (ruleB ps w r))
    unfold ruleB
    cases c1 : w == "hours" with
    | true =>
      refine seq_rt ((if_t ((c_eq rfl).trans (by rw [c1]))).trans (ret_y ?_))
      rw [if_pos rfl]
      match r, hf with
      | [], _ => exact v_and (y := false) (c_len rfl) (fun h => by simp at h)
      | [a], _ => exact v_and (y := false) (c_len rfl) (fun h => by simp at h)
      | [a, b], hf =>
        have h1 := hours_is (hf a (by simp)).1 (hf b (by simp)).1
        have i1 : atI [PV.str w, a, b] 1 = some a := rfl
        have i2 : atI [PV.str w, a, b] 2 = some b := rfl
        exact v_and (y := hoursOk a b) (c_len rfl) (fun _ => by simp [consA, bin2, ixO, getV, Ent.freeze, i1, i2, M.ofO, h1])
      | a :: b :: d :: r, _ => exact (v_and (y := false) (c_len rfl) (fun h => by simp at h)).trans (by simp [hrsB])
    | false =>
      refine seq_nx (if_f ((c_eq rfl).trans (by rw [c1]))) ?_
      rw [if_neg (by simp)]
      cases c2 : (w == "least" || w == "most") with
      | true =>
        refine seq_rt ((if_t ((c_or (c_eq rfl) (c_eq rfl)).trans (by rw [c2]))).trans (ret_y ?_))
        rw [if_pos rfl]
        match r, hf with
        | [], _ => exact v_and (y := false) (c_len rfl) (fun h => by simp at h)
        | [a], _ => exact v_and (y := false) (c_len rfl) (fun h => by simp at h)
        | [a, b], hf =>
          have h1 := name_is (hf a (by simp))
          have h2 := num_is (hf b (by simp)).1
          have i1 : atI [PV.str w, a, b] 1 = some a := rfl
          have i2 : atI [PV.str w, a, b] 2 = some b := rfl
          exact v_and (y := isName a && isNum b) (c_len rfl) (fun _ => v_and (by simp [consA, bin2, ixO, getV, Ent.freeze, i1, M.ofO, h1]) (fun _ => by simp [consA, bin2, ixO, getV, Ent.freeze, i2, M.ofO, h2]))
        | a :: b :: d :: r, _ => exact (v_and (y := false) (c_len rfl) (fun h => by simp at h)).trans (by simp)
      | false =>
        refine seq_nx (if_f ((c_or (c_eq rfl) (c_eq rfl)).trans (by rw [c2]))) ?_
        rw [if_neg (by simp)]
        cases c3 : w == "looked" with
        | true =>
          refine seq_rt ((if_t ((c_eq rfl).trans (by rw [c3]))).trans (ret_y ?_))
          rw [if_pos rfl]
          match r, hf with
          | [], _ => exact v_and (y := false) (c_len rfl) (fun h => by simp at h)
          | [a], hf =>
            have h1 := within_is (lo := 1) (hi := 1000000) (hf a (by simp)).1
            have i1 : atI [PV.str w, a] 1 = some a := rfl
            exact v_and (y := inW 1 1000000 a) (c_len rfl) (fun _ => by simp [consA, bin2, ixO, getV, Ent.freeze, i1, M.ofO, h1])
          | a :: b :: r, _ => exact (v_and (y := false) (c_len rfl) (fun h => by simp at h)).trans (by simp)
        | false =>
          refine seq_nx (if_f ((c_eq rfl).trans (by rw [c3]))) ?_
          rw [if_neg (by simp)]
          cases c4 : w == "with" with
          | true =>
            refine seq_rt ((if_t ((c_eq rfl).trans (by rw [c4]))).trans (ret_y ?_))
            rw [if_pos rfl]
            match r, hf with
            | [], _ => exact v_and (y := false) (c_len rfl) (fun h => by simp at h)
            | [a], hf =>
              have h1 := wayname_is H (hf a (by simp))
              have i1 : atI [PV.str w, a] 1 = some a := rfl
              exact v_and (y := nmIn ps a) (c_len rfl) (fun _ => by simp [consA, bin2, ixO, getV, Ent.freeze, i1, M.ofO, h1])
            | a :: b :: r, _ => exact (v_and (y := false) (c_len rfl) (fun h => by simp at h)).trans (by simp)
          | false =>
            refine seq_nx (if_f ((c_eq rfl).trans (by rw [c4]))) ?_
            rw [if_neg (by simp)]
            refine fin_y (ret_y (v_and (x := w == "never") (y := r.isEmpty) (by simp [bin2, getV, Ent.freeze, eqS]) fun _ => (c_len (k := 1) rfl).trans ?_))
            cases r <;> simp
  · have e : startsT y = false := by
      unfold startsT
      split
      · exact (hs ⟨_, _, rfl⟩).elim
      · rfl
    rw [e] at hb
    have e2 : ruleOk ps y = false := by
      unfold ruleOk
      split
      · exact (hs ⟨_, _, rfl⟩).elim
      · rfl
    rw [e2]
    exact seq_rt ((if_t (by simp [notP, asB, consA, getV, hb])).trans (ret_y rfl))
theorem c_n {ρ : PEnv} {h y w : Ent} {n k : Nat} {t : List Ent} (hρ : ρ = h :: y :: w :: .val (.int n) :: t) : bin2 (eqO false) (fun ρ => getV ρ 3) (fun _ => M.ret (.int k)) ρ = .ret (.bl (n == k)) := by
  subst hρ
  simp only [bin2, getV, List.getElem?_cons_succ, List.getElem?_cons_zero, rZ, eqI]
  congr 2
  rw [Bool.eq_iff_iff]; simp
  omega
theorem lrule_is {h y : PV} {ps : List (Str × List PV)} {dark : Int} (H : HillOk h ps dark) (hy : FineT y) : F_law_rule_is [h, y] = .ret (.bl (ruleOk ps y)) := by
  unfold F_law_rule_is m_law_rule_is
  show (seqP _ _ [val h, val y, un, un, un]).bind finP = _
  by_cases hs : ∃ w r, y = .tup (.str w :: r)
  · obtain ⟨w, r, rfl⟩ := hs
    have hf := hy.2 _ rfl
    refine seq_nx (ρ' := [val h, val (.tup (.str w :: r)), un, un, un]) (if_f (by simp [notP, orP, asB, bin2, mkTup, eq_nilT, ixO, at0, M.ofO, consA, getV, isiO, inst, tyN])) ?_
    refine seq_nx (ρ' := [val h, val (.tup (.str w :: r)), val (.str w), val (.int (r.length + 1 : Nat)), un]) (by simp [parP, consA, lenO, bin2, ixO, getV, at0, M.ofO]) ?_
    show _ = M.ret (PV.bl (ruleB ps w r))
    unfold ruleB
    cases c1 : w == "hours" with
    | true =>
      rw [if_pos rfl]
      refine seq_rt ((if_t ((c_eq rfl).trans (by rw [c1]))).trans ?_)
      have key : ∀ g : Bool, andV (bin2 (eqO false) (fun ρ => getV ρ 3) (fun _ => M.ret (.int 3))) (andV (fun ρ => ((consA (bin2 ixO (fun ρ => getV ρ 1) (fun _ => M.ret (.int 1))) (consA (fun _ => M.ret (.int 0)) (consA (fun _ => M.ret (.int 1000001)) (fun _ => M.ret [])))) ρ).bind F_law_whole_is) (fun ρ => ((consA (bin2 ixO (fun ρ => getV ρ 1) (fun _ => M.ret (.int 2))) (consA (fun _ => M.ret (.int 0)) (consA (fun _ => M.ret (.int 1000001)) (fun _ => M.ret [])))) ρ).bind F_law_whole_is)) [val h, val (.tup (.str w :: r)), val (.str w), val (.int (r.length + 1 : Nat)), un] = .ret (.bl g) →
          (∃ z, andV (fun ρ => getV ρ 4) (bin2 ltO (bin2 ixO (fun ρ => getV ρ 1) (fun _ => M.ret (.int 1))) (bin2 ixO (fun ρ => getV ρ 1) (fun _ => M.ret (.int 2)))) [val h, val (.tup (.str w :: r)), val (.str w), val (.int (r.length + 1 : Nat)), val (.bl g)] = .ret (.bl z) ∧ z = hrsB r) →
          seqP (setP 4 (andV (bin2 (eqO false) (fun ρ => getV ρ 3) (fun _ => M.ret (.int 3))) (andV (fun ρ => ((consA (bin2 ixO (fun ρ => getV ρ 1) (fun _ => M.ret (.int 1))) (consA (fun _ => M.ret (.int 0)) (consA (fun _ => M.ret (.int 1000001)) (fun _ => M.ret [])))) ρ).bind F_law_whole_is) (fun ρ => ((consA (bin2 ixO (fun ρ => getV ρ 1) (fun _ => M.ret (.int 2))) (consA (fun _ => M.ret (.int 0)) (consA (fun _ => M.ret (.int 1000001)) (fun _ => M.ret [])))) ρ).bind F_law_whole_is)))) (retP (andV (fun ρ => getV ρ 4) (bin2 ltO (bin2 ixO (fun ρ => getV ρ 1) (fun _ => M.ret (.int 1))) (bin2 ixO (fun ρ => getV ρ 1) (fun _ => M.ret (.int 2)))))) [val h, val (.tup (.str w :: r)), val (.str w), val (.int (r.length + 1 : Nat)), un] = .ret (.rt (.bl (hrsB r))) := by
        rintro g hg ⟨z, hz, rfl⟩
        unfold seqP setP
        rw [hg]
        exact ret_y hz
      match r, hf, key with
      | [], _, key => exact key false (v_and (y := false) (c_n rfl) (fun h => by simp at h)) ⟨_, v_and (y := false) rfl (fun h => by simp at h), rfl⟩
      | [a], _, key => exact key false (v_and (y := false) (c_n rfl) (fun h => by simp at h)) ⟨_, v_and (y := false) rfl (fun h => by simp at h), rfl⟩
      | [a, b], hf, key =>
        have h1 := lwhole_is (lo := 0) (hi := 1000001) (hf a (by simp)).1
        have h2 := lwhole_is (lo := 0) (hi := 1000001) (hf b (by simp)).1
        have i1 : atI [PV.str w, a, b] 1 = some a := rfl
        have i2 : atI [PV.str w, a, b] 2 = some b := rfl
        refine key (inW 0 1000001 a && inW 0 1000001 b) (v_and (y := inW 0 1000001 a && inW 0 1000001 b) (c_n rfl) (fun _ => v_and (by simp [consA, bin2, ixO, getV, i1, M.ofO, h1]) (fun _ => by simp [consA, bin2, ixO, getV, i2, M.ofO, h2]))) ⟨_, v_and (y := ltI a b) rfl (fun g => ?_), by show _ = hoursOk a b; unfold hoursOk; rw [Bool.and_assoc]⟩
        rw [Bool.and_eq_true] at g
        cases a <;> simp [inW] at g
        cases b <;> simp [inW] at g
        simp [bin2, ixO, getV, i1, i2, M.ofO, ltO, ltI, numO, numB]
      | a :: b :: d :: r, _, key => exact key false ((v_and (y := false) (c_n rfl) (fun h => by simp at h)).trans (by simp)) ⟨_, v_and (y := false) rfl (fun h => by simp at h), rfl⟩
    | false =>
      refine seq_nx (if_f ((c_eq rfl).trans (by rw [c1]))) ?_
      rw [if_neg (by simp)]
      cases c2 : (w == "least" || w == "most") with
      | true =>
        refine seq_rt ((if_t ((c_or (c_eq rfl) (c_eq rfl)).trans (by rw [c2]))).trans (ret_y ?_))
        rw [if_pos rfl]
        match r, hf with
        | [], _ => exact v_and (y := false) (c_n rfl) (fun h => by simp at h)
        | [a], _ => exact v_and (y := false) (c_n rfl) (fun h => by simp at h)
        | [a, b], hf =>
          have h1 := lname_is (hf a (by simp))
          have h2 := lnum_is (hf b (by simp)).1
          have i1 : atI [PV.str w, a, b] 1 = some a := rfl
          have i2 : atI [PV.str w, a, b] 2 = some b := rfl
          exact v_and (y := isName a && isNum b) (c_n rfl) (fun _ => v_and (by simp [consA, bin2, ixO, getV, Ent.freeze, i1, M.ofO, h1]) (fun _ => by simp [consA, bin2, ixO, getV, Ent.freeze, i2, M.ofO, h2]))
        | a :: b :: d :: r, _ => exact (v_and (y := false) (c_n rfl) (fun h => by simp at h)).trans (by simp)
      | false =>
        refine seq_nx (if_f ((c_or (c_eq rfl) (c_eq rfl)).trans (by rw [c2]))) ?_
        rw [if_neg (by simp)]
        cases c3 : w == "looked" with
        | true =>
          refine seq_rt ((if_t ((c_eq rfl).trans (by rw [c3]))).trans (ret_y ?_))
          rw [if_pos rfl]
          match r, hf with
          | [], _ => exact v_and (y := false) (c_n rfl) (fun h => by simp at h)
          | [a], hf =>
            have h1 := lwhole_is (lo := 1) (hi := 1000000) (hf a (by simp)).1
            have i1 : atI [PV.str w, a] 1 = some a := rfl
            exact v_and (y := inW 1 1000000 a) (c_n rfl) (fun _ => by simp [consA, bin2, ixO, getV, Ent.freeze, i1, M.ofO, h1])
          | a :: b :: r, _ => exact (v_and (y := false) (c_n rfl) (fun h => by simp at h)).trans (by simp)
        | false =>
          refine seq_nx (if_f ((c_eq rfl).trans (by rw [c3]))) ?_
          rw [if_neg (by simp)]
          refine fin_y (ret_y ?_)
          cases c4 : w == "with" with
          | true =>
            refine (ifv_t ((c_eq rfl).trans (by rw [c4]))).trans ?_
            rw [if_pos rfl]
            match r, hf with
            | [], _ => exact v_and (y := false) (c_n rfl) (fun h => by simp at h)
            | [a], hf =>
              have h1 := lofway_is H (hf a (by simp))
              have i1 : atI [PV.str w, a] 1 = some a := rfl
              exact v_and (y := nmIn ps a) (c_n rfl) (fun _ => by simp [consA, bin2, ixO, getV, Ent.freeze, i1, M.ofO, h1])
            | a :: b :: r, _ => exact (v_and (y := false) (c_n rfl) (fun h => by simp at h)).trans (by simp)
          | false =>
            refine (ifv_f ((c_eq rfl).trans (by rw [c4]))).trans ?_
            rw [if_neg (by simp)]
            refine v_and (x := w == "never") (y := r.isEmpty) (by simp [bin2, getV, Ent.freeze, eqS]) fun _ => (c_n (k := 1) rfl).trans ?_
            cases r <;> simp
  · have e2 : ruleOk ps y = false := by
      unfold ruleOk
      split
      · exact (hs ⟨_, _, rfl⟩).elim
      · rfl
    rw [e2]
    refine seq_rt ((if_t ?_).trans (ret_y rfl))
    cases y with
    | bag => exact absurd rfl hy.1
    | tup l =>
      cases l with
      | nil => simp [notP, orP, asB, bin2, mkTup, eq_nilT, getV, isiO, inst, tyN, M.ofO]
      | cons a r =>
        cases a with
        | bag => exact absurd rfl (hy.2 _ rfl .bag (by simp)).1
        | str w => exact (hs ⟨_, _, rfl⟩).elim
        | _ => simp [notP, orP, asB, bin2, mkTup, eq_nilT, ixO, at0, M.ofO, getV, isiO, inst, tyN]
    | _ => simp [notP, orP, asB, getV, isiO, inst, tyN, M.ofO]
def FineTT (y : PV) : Prop := y ≠ .bag ∧ ∀ l, y = .tup l → ∀ z ∈ l, FineT z
def rulesOk (ps : List (Str × List PV)) : PV → Bool
  | .tup l => decide (l.length ≤ 6) && l.all (ruleOk ps)
  | _ => false
theorem bls_mapV (f : PV → Bool) : ∀ cs : List PV, blsOf (cs.map fun c => PV.bl (f c)) = some (cs.map f)
  | [] => rfl
  | c :: cs => by simp [blsOf, bls_mapV f cs]
theorem all_look {te : PEnv → M PV} {h : PV} {ps : List (Str × List PV)} {l : List PV} (hl : l.length ≤ 6) (ht : ∀ y ∈ l, te [.val y, .val h] = .ret (.bl (ruleOk ps y))) : (lcM (bindN 0) allTs te l [un, val h]).bind (fun zs => allO [.lst zs]) = .ret (.bl (l.all (ruleOk ps))) := by
  rw [lcM_map (k := 0) (f := fun y => .bl (ruleOk ps y)) (ρ := [un, val h]) l [un, val h] (fun _ => rfl) (fun y hy => ht y hy)]
  simp only [rZ, allO, bls_mapV, M.ofO]
  simp [List.all_map, Function.comp_def]
theorem rules_is {h y : PV} {ps : List (Str × List PV)} {dark : Int} (H : HillOk h ps dark) (hy : FineTT y) : F_is_rules [h, y] = .ret (.bl (rulesOk ps y)) := by
  unfold F_is_rules m_is_rules
  show (seqP _ _ [val h, val y]).bind finP = _
  cases y with
  | bag => exact absurd rfl hy.1
  | tup l =>
    have hf := hy.2 l rfl
    by_cases c : l.length ≤ 6
    · have d : decide ((6 : Int) < l.length) = false := decide_eq_false (by omega)
      refine seq_nx (ρ' := [val h, val (.tup l)]) (if_f (by simp [notP, orP, asB, bin2, consA, lenO, getV, isiO, inst, tyN, M.ofO, gtO, numB, d])) ?_
      refine fin_y (ret_y ?_)
      have q := all_look (h := h) (ps := ps) (te := fun ρ => ((consA (fun ρ => getV ρ 1) (consA (fun ρ => getV ρ 0) (fun _ => M.ret []))) ρ).bind F_is_rule) c (fun y hy' => by simp [consA, getV, rule_is H (hf y hy')])
      have c' : l.length ≤ 100000 := by omega
      simp only [rulesOk, decide_eq_true c, Bool.true_and]
      rw [← q]
      simp [consA, lstV, mkLC, getV, iterO, capP, Ent.freeze, c']
      simp only [M.bZ, rZ]
    simp only [M.bZ, rZ]
    · have d : decide ((6 : Int) < l.length) = true := decide_eq_true (by omega)
      have e : rulesOk ps (.tup l) = false := by simp [rulesOk, c]
      rw [e]
      exact seq_rt ((if_t (by simp [notP, orP, asB, bin2, consA, lenO, getV, isiO, inst, tyN, M.ofO, gtO, numB, d])).trans (ret_y rfl))
  | _ => exact seq_rt ((if_t (by simp [notP, orP, asB, getV, isiO, inst, tyN, M.ofO])).trans (ret_y rfl))
theorem lrules_is {h y : PV} {ps : List (Str × List PV)} {dark : Int} (H : HillOk h ps dark) (hy : FineTT y) : F_law_rules_is [h, y] = .ret (.bl (rulesOk ps y)) := by
  unfold F_law_rules_is m_law_rules_is
  show (retP _ [val h, val y]).bind finP = _
  cases y with
  | bag => exact absurd rfl hy.1
  | tup l =>
    have hf := hy.2 l rfl
    refine fin_y (ret_y ?_)
    have d : decide ((l.length : Int) < 7) = decide (l.length ≤ 6) := by rw [decide_eq_decide]; omega
    refine (v_and (x := true) (y := decide (l.length ≤ 6) && l.all (ruleOk ps)) (by simp [getV, Ent.freeze, isiO, inst, tyN, M.ofO]) fun _ => v_and (x := decide (l.length ≤ 6)) (y := l.all (ruleOk ps)) (by simp [bin2, consA, lenO, getV, Ent.freeze, ltO, numB, d]) fun c => ?_).trans (by rw [Bool.true_and]; rfl)
    have c := of_decide_eq_true c
    have q := all_look (h := h) (ps := ps) (te := fun ρ => ((consA (fun ρ => getV ρ 1) (consA (fun ρ => getV ρ 0) (fun _ => M.ret []))) ρ).bind F_law_rule_is) c (fun y hy' => by simp [consA, getV, lrule_is H (hf y hy')])
    have c' : l.length ≤ 100000 := by omega
    rw [← q]
    simp [consA, lstV, mkLC, getV, iterO, capP, Ent.freeze, c']
    simp only [M.bZ, rZ]
  | _ => exact fin_y (ret_y (by simp [andV, asB, getV, Ent.freeze, isiO, inst, tyN, M.ofO, rulesOk]))
theorem gV0 (y : PV) (ρ : PEnv) : getV (.val y :: ρ) 0 = .ret y := rfl
theorem gVs (e : Ent) (ρ : PEnv) (i : Nat) : getV (e :: ρ) (i + 1) = getV ρ i := rfl
theorem gB0 (y : PV) (ρ : PEnv) : getB (.val y :: ρ) 0 = .ret y := rfl
theorem gB0o (l : List PV) (ρ : PEnv) : getB (.own l :: ρ) 0 = .ret (.lst l) := rfl
theorem gBs (e : Ent) (ρ : PEnv) (i : Nat) : getB (e :: ρ) (i + 1) = getB ρ i := rfl
theorem atI_in {α : Type} {l : List α} {d : Int} (h0 : 0 ≤ d) (h1 : d < l.length) : ∃ y ∈ l, atI l d = some y := by
  have hd : d.toNat < l.length := by omega
  have e : d = ((d.toNat : Nat) : Int) := by omega
  refine ⟨l[d.toNat], List.getElem_mem hd, ?_⟩
  have q := atI_nat (List.getElem?_eq_getElem hd)
  rw [← e] at q
  exact q
theorem gen_any {l : List PV} (h0 : 0 < l.length) (h1 : l.length ≤ 100000) : Gen (F_law_any [.bag, .lst l]) 1 (fun y => y ∈ l) := by
  unfold F_law_any m_law_any
  simp [seqP, setP, ownP, parP, par3P, unpP, ifP, retP, bin2, consA, asB, notP, andP, orP, notV, andV, orV, ifV, chain, lstV, mkLst, mkTup, fnP, startP, finP, isiO, inst, tyN, gV0, gVs, gB0, gB0o, gBs, capP, Ent.freeze, bindT, bindsN, M.ofO, List.replicate, mkLC, iterO, allO, leOD, ltO, gtO, geO, numB, subO, xor, lenO, F_law_draw]
  simp only [M.bZ]
  refine Gen.le (Gen.bind (Gen.draw (by omega) (by omega)) (d := 0) ?_) (Nat.le_refl _)
  rintro _ ⟨d, rfl, d0, d1⟩
  obtain ⟨y, hy, e⟩ := atI_in d0 d1
  refine Gen.eq (y := y) ?_ hy
  simp [ixO, e, M.ofO, finP]
theorem ones_len : ∀ (ys : List Str), (∀ z ∈ ys, z.length = 1) → (ys.map (·.length)).sum = ys.length
  | [], _ => rfl
  | y :: r, h => by
    have := ones_len r fun z hz => h z (List.mem_cons_of_mem _ hz)
    rw [List.map_cons, List.sum_cons, this, h y List.mem_cons_self, List.length_cons]
    omega
theorem join_ones (ys : List Str) (h : ∀ z ∈ ys, z.length = 1) : (Txt.join (Str.ofString "") ys).length = ys.length := by
  show (Builtin.Str.glued (Str.ofString "") ys).length = _
  rw [PySem.size_glued]
  have e : (Str.ofString "").length = 0 := by decide
  rw [e]
  have := ones_len ys h
  omega
def Lets (x : Str) : Prop := ∀ c ∈ x.cps.toList, 97 ≤ c ∧ c ≤ 122
def One (y : PV) : Prop := ∃ c : Nat, y = .str ⟨#[c]⟩ ∧ 97 ≤ c ∧ c ≤ 122
theorem strs_one : ∀ (l : List PV), (∀ y ∈ l, One y) → ∃ ys, strsOf l = some ys ∧ ys.length = l.length ∧ ∀ z ∈ ys, z.length = 1 ∧ Lets z
  | [], _ => ⟨[], rfl, rfl, fun z hz => by simp at hz⟩
  | y :: l, h => by
    obtain ⟨ys, e1, e2, e3⟩ := strs_one l fun y hy => h y (List.mem_cons_of_mem _ hy)
    obtain ⟨c, rfl, hc⟩ := h y List.mem_cons_self
    exact ⟨⟨#[c]⟩ :: ys, by simp [strsOf, e1], by simp [e2], fun u hu => by
      rcases List.mem_cons.mp hu with rfl | hu
      · exact ⟨rfl, fun d hd => by simp at hd; subst hd; exact hc⟩
      · exact e3 u hu⟩
theorem fold_lets (sep : Str) (hs : Lets sep) : ∀ (ys : List Str) (acc : Array Nat), (∀ z ∈ ys, Lets z) → (∀ c ∈ acc.toList, 97 ≤ c ∧ c ≤ 122) → ∀ c ∈ (ys.foldl (fun acc p => acc ++ sep.cps ++ p.cps) acc).toList, 97 ≤ c ∧ c ≤ 122
  | [], acc, _, ha => ha
  | y :: ys, acc, h, ha => by
    rw [List.foldl_cons]
    refine fold_lets sep hs ys _ (fun z hz => h z (List.mem_cons_of_mem _ hz)) fun c hc => ?_
    rw [Array.toList_append, Array.toList_append, List.mem_append, List.mem_append] at hc
    rcases hc with (hc | hc) | hc
    · exact ha c hc
    · exact hs c hc
    · exact h y List.mem_cons_self c hc
theorem join_lets (ys : List Str) (h : ∀ z ∈ ys, Lets z) : Lets (Txt.join (Str.ofString "") ys) := by
  have he : Lets (Str.ofString "") := fun c hc => by
    have : (Str.ofString "").cps.toList = [] := by decide
    rw [this] at hc; simp at hc
  show Lets (Builtin.Str.glued (Str.ofString "") ys)
  unfold Builtin.Str.glued
  cases ys with
  | nil => exact fun c hc => by simp [Str.empty] at hc
  | cons y ys => exact fold_lets _ he ys _ (fun z hz => h z (List.mem_cons_of_mem _ hz)) (h y List.mem_cons_self)
theorem abc_at (d : Int) (h0 : 0 ≤ d) (h1 : d < 26) : atI (Str.ofString "abcdefghijklmnopqrstuvwxyz").cps.toList d = some (97 + d.toNat) := by
  have e : ∀ k : Fin 26, atI (Str.ofString "abcdefghijklmnopqrstuvwxyz").cps.toList ((k.val : Nat) : Int) = some (97 + k.val) := by decide +kernel
  have := e ⟨d.toNat, by omega⟩
  simp only at this
  rw [show ((d.toNat : Nat) : Int) = d by omega] at this
  exact this
theorem abc_ix (d : Int) (h0 : 0 ≤ d) (h1 : d < 26) : ixO (.str "abcdefghijklmnopqrstuvwxyz") (.int d) = .ret (.str ⟨#[97 + d.toNat]⟩) := by
  have hz : (Str.ofString "abcdefghijklmnopqrstuvwxyz").length ≤ 100000 := by decide +kernel
  simp [ixO, abc_at d h0 h1, M.ofO, hz]
theorem gen_sign {ρ : PEnv} (h : getV ρ 1 = .ret .bag) : Gen (bin2 ixO (fun _ => M.ret (.str "abcdefghijklmnopqrstuvwxyz")) (fun ρ => (getV ρ 1).bind fun a => drawF [a, .int 26]) ρ) 1 One := by
  simp only [bin2, h, rZ]
  refine Gen.le (Gen.bind (Gen.draw (by omega) (by omega)) (d := 0) ?_) (Nat.le_refl _)
  rintro _ ⟨d, rfl, d0, d1⟩
  exact Gen.eq (abc_ix d d0 d1) ⟨_, rfl, by omega, by omega⟩
def Label (y : PV) : Prop := ∃ z : Str, y = .str z ∧ 1 ≤ z.length ∧ z.length ≤ 8 ∧ Lets z
theorem gen_label : Gen (F_law_label [.bag]) 9 Label := by
  unfold F_law_label m_law_label
  simp [seqP, setP, ownP, parP, par3P, unpP, ifP, retP, bin2, consA, asB, notP, andP, orP, notV, andV, orV, ifV, chain, lstV, mkLst, mkTup, fnP, startP, finP, isiO, inst, tyN, gV0, gVs, gB0, gB0o, gBs, capP, Ent.freeze, bindT, bindsN, M.ofO, List.replicate, mkLC, iterO, allO, leOD, ltO, gtO, geO, numB, subO, xor, lenO, F_law_draw]
  simp only [M.bZ]
  refine Gen.le (Gen.bind (Gen.draw (by omega) (by omega)) (d := 8) ?_) (Nat.le_refl _)
  rintro _ ⟨d, rfl, d0, d1⟩
  obtain ⟨y, hy, e⟩ := atI_in (l := [PV.int 2, PV.int 1, PV.int 3, PV.int 8, PV.int 4, PV.int 1, PV.int 5, PV.int 2]) d0 d1
  obtain ⟨k, rfl, k0, k1⟩ : ∃ k : Int, y = .int k ∧ 1 ≤ k ∧ k ≤ 8 := by
    simp only [List.mem_cons, List.not_mem_nil, or_false] at hy
    rcases hy with rfl | rfl | rfl | rfl | rfl | rfl | rfl | rfl <;> exact ⟨_, rfl, by decide, by decide⟩
  simp [ixO, e, M.ofO, seqP, setP, ownP, parP, par3P, unpP, ifP, retP, bin2, consA, asB, notP, andP, orP, notV, andV, orV, ifV, chain, lstV, mkLst, mkTup, fnP, startP, finP, isiO, inst, tyN, gV0, gVs, gB0, gB0o, gBs, capP, Ent.freeze, bindT, bindsN, M.ofO, List.replicate, mkLC, iterO, allO, leOD, ltO, gtO, geO, numB, subO, xor, bmP, tyP, rng1O, (by omega : -1000000 ≤ k ∧ k ≤ 100000)]
  have hlen : (intsP 0 k.toNat).length = k.toNat := by simp [intsP]
  simp [hlen, (by omega : k.toNat ≤ 100000)]
  simp only [M.bZ]
  refine Gen.le (Gen.bind (Gen.lc (ρ := [un, val PV.bag]) (c := 1) (Pr := One) _ _ (fun _ => rfl) (fun y hy => gen_sign rfl)) (d := 0) ?_) (by rw [hlen]; omega)
  rintro zs ⟨z1, z2⟩
  obtain ⟨ys, e1, e2, e3⟩ := strs_one zs z2
  have e4 := ones_len ys fun z hz => (e3 z hz).1
  have e5 : (Str.ofString "").length = 0 := by decide
  have e6 := join_ones ys fun z hz => (e3 z hz).1
  refine Gen.eq (y := .str (Txt.join (Str.ofString "") ys)) ?_ ⟨_, rfl, by rw [e6, e2, z1, hlen]; omega, by rw [e6, e2, z1, hlen]; omega, join_lets ys fun z hz => (e3 z hz).2⟩
  have hs : (ys.map (·.length)).sum + ys.length * (Str.ofString "").length ≤ 16777216 := by rw [e4, e5, e2, z1, hlen]; omega
  simp only [rZ, joinO, e1, M.ofO, if_pos hs, finP]
theorem cut_to (x : Str) (j : Int) (c : Nat) (hc : (c : Int) = if j < 0 then max 0 (j + x.length) else min j x.length) : Txt.slice x none (some j) = ⟨(x.cps.toList.take c).toArray⟩ := by
  have hle : c ≤ x.length := by split at hc <;> omega
  have e : Builtin.Str.strSliceIndices none (some j) 1 x.length = Builtin.Str.strSliceIndices (some ((0 : Nat) : Int)) (some (c : Int)) 1 x.length := by
    unfold Builtin.Str.strSliceIndices
    simp
    congr 1 <;> omega
  have e2 := StrLaws.sliceText_nat x (Nat.zero_le c) hle
  have e3 : Txt.slice x none (some j) = StrLaws.sliceText x (some ((0 : Nat) : Int)) (some (c : Int)) := by
    unfold Txt.slice StrLaws.sliceText
    rw [e]
  rw [e3, e2, List.drop_zero, Nat.sub_zero]
theorem cut_lets {x : Str} (h : Lets x) (c : Nat) : Lets ⟨(x.cps.toList.take c).toArray⟩ := fun d hd => h d (List.mem_of_mem_take (by simpa using hd))
theorem cut_len (x : Str) (c : Nat) : (⟨(x.cps.toList.take c).toArray⟩ : Str).length = min c x.length := by
  show (x.cps.toList.take c).toArray.size = _
  rw [List.size_toArray, List.length_take]
  simp [Str.length]
theorem app_lets {x y : Str} (hx : Lets x) (hy : Lets y) : Lets (x ++ y) := fun c hc => by
  have : c ∈ x.cps.toList ++ y.cps.toList := by
    rw [← Array.toList_append]; exact hc
  rcases List.mem_append.mp this with h | h
  · exact hx c h
  · exact hy c h
theorem app_len (x y : Str) : (x ++ y).length = x.length + y.length := Array.size_append
theorem index_abc (c : Nat) (h : 97 ≤ c ∧ c ≤ 122) : indexO (.str "abcdefghijklmnopqrstuvwxyz") [.str ⟨#[c]⟩] = .ret (.int ((c - 97 : Nat) : Int)) := by
  have e : ∀ k : Fin 26, Builtin.Str.occurrences (Str.ofString "abcdefghijklmnopqrstuvwxyz") ⟨#[97 + k.val]⟩ 0 (Str.ofString "abcdefghijklmnopqrstuvwxyz").length 1 = [k.val] := by decide +kernel
  have q := e ⟨c - 97, by omega⟩
  simp only at q
  rw [show 97 + (c - 97) = c by omega] at q
  unfold indexO
  simp only [q]
def Good (z : Str) : Prop := 1 ≤ z.length ∧ z.length ≤ 8 ∧ Lets z
theorem Good.ok {z : Str} (h : Good z) : nameOk z = true := by
  unfold nameOk
  rw [Bool.and_eq_true]
  refine ⟨decide_eq_true ⟨h.1, h.2.1⟩, List.all_eq_true.mpr fun c hc => decide_eq_true (h.2.2 c hc)⟩
theorem slE_to {x : Str} {j : Int} (h : x.length ≤ 100000) (c : Nat) (hc : (c : Int) = if j < 0 then max 0 (j + x.length) else min j x.length) : slE (.str x) none (some j) = .ret (.str ⟨(x.cps.toList.take c).toArray⟩) := by
  unfold slE
  dsimp only
  rw [if_pos h, cut_to x j c hc]
def nmS (p : List Nat) (c : Nat) : Str := ⟨(p ++ [c]).toArray⟩
def Lp (p : List Nat) : Prop := p.length ≤ 7 ∧ ∀ c ∈ p, 97 ≤ c ∧ c ≤ 122
theorem nmS_len (p : List Nat) (c : Nat) : (nmS p c).length = p.length + 1 := by
  show (p ++ [c]).toArray.size = _
  simp
theorem nmS_good {p : List Nat} {c : Nat} (h : Lp p) (h1 : 97 ≤ c) (h2 : c ≤ 122) : Good (nmS p c) := by
  refine ⟨by rw [nmS_len]; omega, by rw [nmS_len]; have := h.1; omega, fun d hd => ?_⟩
  have hd' : d ∈ p ++ [c] := hd
  rcases List.mem_append.mp hd' with w | w
  · exact h.2 d w
  · rw [List.mem_singleton.mp w]; exact ⟨h1, h2⟩
theorem Good.split {z : Str} (h : Good z) : ∃ p c, z = nmS p c ∧ Lp p ∧ 97 ≤ c ∧ c ≤ 122 := by
  obtain ⟨h1, h2, h3⟩ := h
  have hl : z.cps.toList.length = z.length := by simp [Str.length]
  have hne : z.cps.toList ≠ [] := fun e => by rw [e] at hl; simp at hl; omega
  have e := List.dropLast_concat_getLast hne
  refine ⟨z.cps.toList.dropLast, z.cps.toList.getLast hne, ?_, ⟨by rw [List.length_dropLast]; omega, fun c hc => h3 c (List.dropLast_subset _ hc)⟩, h3 _ (List.getLast_mem hne)⟩
  unfold nmS
  rw [e]
theorem nmS_inj {p : List Nat} {c d : Nat} (h : nmS p c = nmS p d) : c = d := by
  unfold nmS at h
  have h' := congrArg (fun z : Str => z.cps.toList) h
  simpa using h'
def nxt (c i : Nat) : Nat := 97 + (c - 97 + i) % 26
theorem turned {p : List Nat} {c : Nat} (hp : Lp p) (hc : 97 ≤ c ∧ c ≤ 122) : bin2 addO (sl3 slE (fun _ => M.ret (.str (nmS p c))) (fun _ => M.ret none) (fun ρ => ((fun ρ => ((fun _ => M.ret (.int 1)) ρ).bind negO) ρ).bind fun y => (intM y).bind fun i => M.ret (some i))) (bin2 ixO (fun _ => M.ret (.str "abcdefghijklmnopqrstuvwxyz")) (bin2 modO (bin2 addO (bmP "str" indexO (fun _ => M.ret (.str "abcdefghijklmnopqrstuvwxyz")) (consA (bin2 ixO (fun _ => M.ret (.str (nmS p c))) (fun ρ => ((fun _ => M.ret (.int 1)) ρ).bind negO)) (fun _ => M.ret []))) (fun _ => M.ret (.int 1))) (fun _ => M.ret (.int 26)))) [] = .ret (.str (nmS p (nxt c 1))) := by
  have hl := nmS_len p c
  have hp7 := hp.1
  have hL : (nmS p c).cps.toList = p ++ [c] := rfl
  have e1 := slE_to (x := nmS p c) (j := -1) (by omega) p.length (by rw [if_pos (by omega)]; omega)
  rw [hL, List.take_left' rfl] at e1
  have ec : atI (nmS p c).cps.toList (-1) = some c := by
    rw [hL]
    unfold atI ixN
    rw [if_neg (by omega), if_pos (by simp; omega)]
    have : (-1 + ((p ++ [c]).length : Int)).toNat = p.length := by simp; omega
    rw [this]
    simp
  have e2 := index_abc c hc
  have e3 : ixO (.str (nmS p c)) (.int (-1)) = .ret (.str ⟨#[c]⟩) := by
    simp [ixO, ec, M.ofO, (by omega : (nmS p c).length ≤ 100000)]
  have e4 : modO (.int (((c - 97 : Nat) : Int) + 1)) (.int 26) = .ret (.int ((((c - 97 : Nat) : Int) + 1) % 26)) := by
    unfold modO numO; simp
  have e5 := abc_ix ((((c - 97 : Nat) : Int) + 1) % 26) (by omega) (by omega)
  have hk : 97 + ((((c - 97 : Nat) : Int) + 1) % 26).toNat = nxt c 1 := by unfold nxt; omega
  rw [hk] at e5
  have e6 : (⟨p.toArray⟩ : Str) ++ ⟨#[nxt c 1]⟩ = nmS p (nxt c 1) := by
    show (⟨p.toArray ++ #[nxt c 1]⟩ : Str) = ⟨(p ++ [nxt c 1]).toArray⟩
    congr 1
    apply Array.ext'
    simp
  have e7 : (⟨p.toArray⟩ : Str).length = p.length := by show p.toArray.size = _; simp
  simp only [bin2, sl3, negO, rZ, intM, e1, bmP, tyP, consA, e3, e2, addO, e4, e5]
  simp only [M.ofO, beq_self_eq_true, if_true, rZ, e2, addO, e4, e5]
  rw [if_pos]
  · rw [e6]
  · rw [e7]
    show _ + 1 ≤ _
    omega
theorem nxt_nxt (c i : Nat) (h : 97 ≤ c) : nxt (nxt c i) 1 = nxt c (i + 1) := by unfold nxt; omega
theorem nxt_in (c i : Nat) : 97 ≤ nxt c i ∧ nxt c i ≤ 122 := by unfold nxt; omega
theorem pigeon : ∀ (l m : List Str), l.Nodup → (∀ x ∈ l, x ∈ m) → l.length ≤ m.length
  | [], m, _, _ => Nat.zero_le _
  | x :: l, m, nd, h => by
    have hx := h x List.mem_cons_self
    have nd' := List.nodup_cons.mp nd
    have q := pigeon l (m.erase x) nd'.2 fun y hy => (List.mem_erase_of_ne (fun (e : y = x) => nd'.1 (e ▸ hy))).mpr (h y (List.mem_cons_of_mem _ hy))
    rw [List.length_erase_of_mem hx] at q
    have : 0 < m.length := List.length_pos_of_mem hx
    simp only [List.length_cons]
    omega
theorem all_turns {p : List Nat} {c : Nat} {zs : List Str} (hc : 97 ≤ c ∧ c ≤ 122) (h : ∀ i < 26, nmS p (nxt c i) ∈ zs) : 26 ≤ zs.length := by
  have q := pigeon ((List.range 26).map fun i => nmS p (nxt c i)) zs ?_ ?_
  · simpa using q
  · refine List.Pairwise.map _ (fun a b (hab : a ∈ List.range 26 ∧ b ∈ List.range 26 ∧ a ≠ b) e => ?_) ?_ (R := fun a b => a ∈ List.range 26 ∧ b ∈ List.range 26 ∧ a ≠ b)
    · have e' := nmS_inj e
      have h1 := List.mem_range.mp hab.1
      have h2 := List.mem_range.mp hab.2.1
      have h3 := hab.2.2
      unfold nxt at e'
      omega
    · exact List.Pairwise.imp_of_mem (fun ha hb hn => ⟨ha, hb, hn⟩) List.nodup_range
  · intro x hx
    obtain ⟨i, hi, rfl⟩ := List.mem_map.mp hx
    exact h i (List.mem_range.mp hi)
theorem gseqF {m k : PEnv → M Fl} {ρ : PEnv} {c d : Nat} {I : PEnv → Prop} {Pr : PV → Prop} (h : Gen (m ρ) c fun f => ∃ ρ', f = .nx ρ' ∧ I ρ') (h' : ∀ ρ', I ρ' → Gen ((k ρ').bind finP) d Pr) : Gen ((seqP m k ρ).bind finP) (c + d) Pr := by
  unfold seqP
  rw [M.bZ]
  refine Gen.bind h fun f hf => ?_
  obtain ⟨ρ', rfl, hi⟩ := hf
  exact h' ρ' hi
theorem gseq {m k : PEnv → M Fl} {ρ : PEnv} {c d : Nat} {I : PEnv → Prop} {Pr : Fl → Prop} (h : Gen (m ρ) c fun f => ∃ ρ', f = .nx ρ' ∧ I ρ') (h' : ∀ ρ', I ρ' → Gen (k ρ') d Pr) : Gen (seqP m k ρ) (c + d) Pr := by
  unfold seqP
  refine Gen.bind h fun f hf => ?_
  obtain ⟨ρ', rfl, hi⟩ := hf
  exact h' ρ' hi
theorem gnx {m : PEnv → M Fl} {ρ ρ' : PEnv} {I : PEnv → Prop} (h : m ρ = .ret (.nx ρ')) (hi : I ρ') : Gen (m ρ) 0 fun f => ∃ ρ', f = .nx ρ' ∧ I ρ' := Gen.eq h ⟨ρ', rfl, hi⟩
theorem forN {k : Nat} {mb : PEnv → M Fl} {c : Nat} {Iv : Nat → PEnv → Prop} : ∀ (l : List PV) (i : Nat) (ρ : PEnv), Iv i ρ → (∀ y ∈ l, ∀ j < i + l.length, ∀ ρ, Iv j ρ → Gen (mb (ρ.set k (.val y))) c fun f => ∃ ρ', f = .nx ρ' ∧ Iv (j + 1) ρ') → Gen (forP (bindN k) mb l ρ) (l.length * c) fun f => ∃ ρ', f = .nx ρ' ∧ Iv (i + l.length) ρ'
  | [], i, ρ, h, _ => Gen.le (Gen.ret ⟨ρ, rfl, h⟩) (by simp)
  | y :: l, i, ρ, h, hb => by
    unfold forP
    simp only [bindN, rZ]
    refine Gen.le (Gen.bind (hb y List.mem_cons_self i (by simp) ρ h) fun f hf => ?_) (d := (y :: l).length * c) (Nat.le_of_eq (?_ : c + l.length * c = _))
    · obtain ⟨ρ', rfl, h'⟩ := hf
      have q := forN l (i + 1) ρ' h' fun y' hy j hj => hb y' (List.mem_cons_of_mem _ hy) j (by simp only [List.length_cons]; omega)
      rw [show i + (y :: l).length = i + 1 + l.length by simp only [List.length_cons]; omega]
      exact q
    · simp only [List.length_cons, Nat.succ_mul]; omega
theorem forI {k : Nat} {mb : PEnv → M Fl} {c : Nat} {Iv : Nat → PEnv → Prop} (L : List PV) (hb : ∀ (j : Nat) (y : PV), L[j]? = some y → ∀ ρ, Iv j ρ → Gen (mb (ρ.set k (.val y))) c fun f => ∃ ρ', f = .nx ρ' ∧ Iv (j + 1) ρ') : ∀ (l : List PV) (i : Nat) (ρ : PEnv), L.drop i = l → i ≤ L.length → Iv i ρ → Gen (forP (bindN k) mb l ρ) (l.length * c) fun f => ∃ ρ', f = .nx ρ' ∧ Iv L.length ρ'
  | [], i, ρ, e, hi, h => by
    have : L.length ≤ i := by rw [List.drop_eq_nil_iff] at e; exact e
    have e' : i = L.length := by omega
    subst e'
    exact Gen.le (Gen.ret ⟨ρ, rfl, h⟩) (by simp)
  | y :: l, i, ρ, e, hi, h => by
    unfold forP
    simp only [bindN, rZ]
    have hget : L[i]? = some y := by
      have : (L.drop i)[0]? = some y := by rw [e]; rfl
      rw [List.getElem?_drop] at this
      simpa using this
    have hlt : i < L.length := (List.getElem?_eq_some_iff.mp hget).1
    have hdrop : L.drop (i + 1) = l := by
      have : (L.drop i).drop 1 = l := by rw [e]; rfl
      rw [List.drop_drop] at this
      exact this
    refine Gen.le (Gen.bind (hb i y hget ρ h) fun f hf => ?_) (d := (y :: l).length * c) (Nat.le_of_eq (?_ : c + l.length * c = _))
    · obtain ⟨ρ', rfl, h'⟩ := hf
      exact forI L hb l (i + 1) ρ' hdrop hlt h'
    · simp only [List.length_cons, Nat.succ_mul]; omega
def inN (zs : List Str) (x : Str) : Bool := zs.any fun z => z == x
theorem inN_iff {zs : List Str} {x : Str} : inN zs x = true ↔ x ∈ zs := by
  unfold inN
  rw [List.any_eq_true]
  constructor
  · rintro ⟨z, hz, e⟩; rw [← eq_of_beq e]; exact hz
  · intro h; exact ⟨x, h, beq_self_eq_true x⟩
theorem flat_strs (zs : List Str) : (zs.map PV.str).all flatP = true := by
  rw [List.all_eq_true]
  intro y hy
  obtain ⟨z, _, rfl⟩ := List.mem_map.mp hy
  rfl
theorem in_names (x : Str) (zs : List Str) (b : Bool) : inO b (.str x) (.lst (zs.map PV.str)) = .ret (.bl (xor b (inN zs x))) := by
  have e : memF (.str x) (zs.map PV.str) = inN zs x := by
    unfold memF inN
    rw [List.any_map]
    rfl
  unfold inO
  dsimp only
  rw [flat_strs, e]
  simp [flatP, toV, flatV]
def Names (y : PV) (k : Nat) : Prop := ∃ zs : List Str, y = .lst (zs.map PV.str) ∧ zs.length = k ∧ (∀ z ∈ zs, Good z) ∧ zs.Nodup
theorem gen_labels {k : Int} (k0 : 1 ≤ k) (k1 : k ≤ 12) : Gen (F_law_labels [.bag, .int k]) 200 (fun y => Names y k.toNat) := by
  unfold F_law_labels m_law_labels
  show Gen ((seqP _ _ [val .bag, val (.int k), un, un, un, un, un, un]).bind finP) 200 _
  refine Gen.le (gseqF (d := 199) (I := fun ρ => ρ = [val .bag, val (.int k), val (.str "abcdefghijklmnopqrstuvwxyz"), Ent.own [], un, un, un, un]) (gnx (by simp [parVO, mkLst]) rfl) ?_) (by decide)
  rintro _ rfl
  refine Gen.le (gseqF (c := 10) (d := 189) (I := fun ρ => ∃ st : Str, st.length ≤ 8 ∧ Lets st ∧ ρ = [val .bag, val (.int k), val (.str "abcdefghijklmnopqrstuvwxyz"), Ent.own [], val (.str st), un, un, un]) ?_ ?_) (by decide)
  · simp only [setP, ifV, asB, bin2, consA, gV0, gVs, rZ, F_law_draw, M.bZ]
    refine Gen.le (Gen.bind (Gen.draw (by omega) (by omega)) (d := 9) ?_) (Nat.le_refl _)
    rintro _ ⟨d, rfl, d0, d1⟩
    rw [eqI]
    by_cases c : d = 0
    · subst c
      simp only [rZ, beq_self_eq_true, if_true, sl3, consA, gV0, gVs, M.bZ]
      refine Gen.le (Gen.bind gen_label (d := 0) ?_) (Nat.le_refl _)
      rintro _ ⟨z, rfl, z1, z2, z3⟩
      have e := slE_to (x := z) (j := 5) (by omega) (min 5 z.length) (by rw [if_neg (by omega)]; omega)
      refine Gen.eq (y := .nx [val .bag, val (.int k), val (.str "abcdefghijklmnopqrstuvwxyz"), Ent.own [], val (.str ⟨(z.cps.toList.take (min 5 z.length)).toArray⟩), un, un, un]) ?_ ⟨_, rfl, _, ?_, cut_lets z3 _, rfl⟩
      · simp only [rZ, intM, e]; rfl
      · rw [cut_len]; omega
    · have c' : (d == 0) = false := by simpa using c
      refine Gen.le (Gen.eq (y := .nx [val .bag, val (.int k), val (.str "abcdefghijklmnopqrstuvwxyz"), Ent.own [], val (.str ""), un, un, un]) ?_ ⟨_, rfl, _, by decide, ?_, rfl⟩) (by decide)
      · simp [c']
      · intro x hx
        have : (Str.ofString "").cps.toList = [] := by decide
        rw [this] at hx; simp at hx
  · rintro _ ⟨st, st1, st2, rfl⟩
    have hint : (intsP 0 k.toNat).length = k.toNat := by simp [intsP]
    refine Gen.le (gseqF (c := k.toNat * 9) (d := 0) (I := fun ρ => ∃ zs e5 e6 e7, ρ = [val .bag, val (.int k), val (.str "abcdefghijklmnopqrstuvwxyz"), Ent.own (List.map PV.str zs), val (.str st), e5, e6, e7] ∧ zs.length = k.toNat ∧ (∀ z ∈ zs, Good z) ∧ zs.Nodup) ?_ ?_) (by omega)
    · simp only [mkFor, consA, gV0, gVs, rZ, rng1O, if_pos (by omega : -1000000 ≤ k ∧ k ≤ 100000)]
      refine Gen.mono (forN (k := 5) (c := 9) (Iv := fun i ρ => ∃ zs e5 e6 e7, ρ = [val .bag, val (.int k), val (.str "abcdefghijklmnopqrstuvwxyz"), Ent.own (List.map PV.str zs), val (.str st), e5, e6, e7] ∧ zs.length = i ∧ (∀ z ∈ zs, Good z) ∧ zs.Nodup) (intsP 0 k.toNat) 0 [val .bag, val (.int k), val (.str "abcdefghijklmnopqrstuvwxyz"), Ent.own [], val (.str st), un, un, un] ⟨[], _, _, _, rfl, rfl, fun z hz => by simp at hz, List.nodup_nil⟩ ?_) (by rw [hint]; exact Nat.le_refl _) ?_
      rotate_left
      · intro f hf; rw [hint, Nat.zero_add] at hf; exact hf
      · rintro y hy j hj _ ⟨zs, e5, e6, e7, rfl, hzl, hzg, hzn⟩
        rw [hint] at hj
        show Gen (seqP _ _ [val .bag, val (.int k), val (.str "abcdefghijklmnopqrstuvwxyz"), Ent.own (List.map PV.str zs), val (.str st), val y, e6, e7]) 9 _
        refine Gen.le (gseq (c := 9) (d := 0) (I := fun ρ => ∃ n, Good n ∧ ρ = [val .bag, val (.int k), val (.str "abcdefghijklmnopqrstuvwxyz"), Ent.own (List.map PV.str zs), val (.str st), val y, val (.str n), e7]) ?_ ?_) (Nat.le_refl _)
        · simp only [setP, sl3, bin2, consA, gV0, gVs, rZ, M.bZ]
          refine Gen.le (Gen.bind gen_label (d := 0) ?_) (Nat.le_refl _)
          rintro _ ⟨z, rfl, z1, z2, z3⟩
          have l1 := app_len st z
          have e := slE_to (x := st ++ z) (j := 8) (by omega) (min 8 (st ++ z).length) (by rw [if_neg (by omega)]; omega)
          have l2 := cut_len (st ++ z) (min 8 (st ++ z).length)
          refine Gen.eq (y := .nx [val .bag, val (.int k), val (.str "abcdefghijklmnopqrstuvwxyz"), Ent.own (List.map PV.str zs), val (.str st), val y, val (.str ⟨((st ++ z).cps.toList.take (min 8 (st ++ z).length)).toArray⟩), e7]) ?_ ⟨_, rfl, _, ⟨by rw [l2]; omega, by rw [l2]; omega, cut_lets (app_lets st2 z3) _⟩, rfl⟩
          simp only [addO, if_pos (by omega : st.length + z.length ≤ 100000), rZ, intM, e]
          rfl
        · rintro _ ⟨n, hn, rfl⟩
          obtain ⟨p, c, rfl, hp, hc⟩ := hn.split
          refine Gen.le (gseq (c := 0) (d := 0) (I := fun ρ => ∃ n e7, Good n ∧ n ∉ zs ∧ ρ = [val .bag, val (.int k), val (.str "abcdefghijklmnopqrstuvwxyz"), Ent.own (List.map PV.str zs), val (.str st), val y, val (.str n), e7]) ?_ ?_) (Nat.le_refl _)
          · simp only [mkFor, consA, rZ, rng1O, if_pos (by omega : -1000000 ≤ (26 : Int) ∧ (26 : Int) ≤ 100000)]
            have h26 : (intsP 0 (26 : Int).toNat).length = 26 := by simp [intsP]
            refine Gen.mono (forI (k := 7) (c := 0) (Iv := fun i ρ => ∃ n e7, ((Good n ∧ n ∉ zs) ∨ (n = nmS p (nxt c i) ∧ ∀ i' < i, nmS p (nxt c i') ∈ zs)) ∧ ρ = [val .bag, val (.int k), val (.str "abcdefghijklmnopqrstuvwxyz"), Ent.own (List.map PV.str zs), val (.str st), val y, val (.str n), e7]) (intsP 0 (26 : Int).toNat) ?_ (intsP 0 (26 : Int).toNat) 0 _ rfl (Nat.zero_le _) ⟨nmS p c, e7, .inr ⟨by congr 1; unfold nxt; omega, fun i' h => by omega⟩, rfl⟩) (by simp) ?_
            · rintro i t ht _ ⟨n, e7, hn, rfl⟩
              have hb := in_names n zs false
              show Gen (ifP _ _ _ [val .bag, val (.int k), val (.str "abcdefghijklmnopqrstuvwxyz"), Ent.own (List.map PV.str zs), val (.str st), val y, val (.str n), val t]) 0 _
              by_cases hin : n ∈ zs
              · rw [inN_iff.mpr hin] at hb
                rcases hn with ⟨_, hn⟩ | ⟨rfl, hn⟩
                · exact absurd hin hn
                have hq := turned hp (nxt_in c i)
                rw [nxt_nxt c i hc.1] at hq
                refine gnx (I := fun ρ => ∃ n e7, ((Good n ∧ n ∉ zs) ∨ (n = nmS p (nxt c (i + 1)) ∧ ∀ i' < i + 1, nmS p (nxt c i') ∈ zs)) ∧ ρ = _) ((if_t (by simp only [asB, bin2, gV0, gVs, gB0o, gBs, rZ, hb]; rfl)).trans ?_) ⟨nmS p (nxt c (i + 1)), val t, .inr ⟨rfl, fun i' h' => ?_⟩, rfl⟩
                · simp only [bin2, sl3, bmP, consA, rZ] at hq
                  simp only [setP, bin2, sl3, bmP, consA, gV0, gVs, rZ, hq]
                  rfl
                · by_cases e : i' = i
                  · rw [e]; exact hin
                  · exact hn i' (by omega)
              · have hb' : inN zs n = false := by
                  cases d : inN zs n with
                  | false => rfl
                  | true => exact absurd (inN_iff.mp d) hin
                rw [hb'] at hb
                refine gnx (I := fun ρ => ∃ n e7, ((Good n ∧ n ∉ zs) ∨ (n = nmS p (nxt c (i + 1)) ∧ ∀ i' < i + 1, nmS p (nxt c i') ∈ zs)) ∧ ρ = _) (if_f (by simp only [asB, bin2, gV0, gVs, gB0o, gBs, rZ, hb]; rfl)) ⟨n, _, .inl ⟨?_, hin⟩, rfl⟩
                rcases hn with ⟨hn, _⟩ | ⟨rfl, _⟩
                · exact hn
                · exact nmS_good hp (nxt_in c i).1 (nxt_in c i).2
            · rintro f ⟨ρ', rfl, n, e7, hn, rfl⟩
              rw [h26] at hn
              refine ⟨_, rfl, n, e7, ?_⟩
              rcases hn with ⟨h1, h2⟩ | ⟨_, h2⟩
              · exact ⟨h1, h2, rfl⟩
              · exact absurd (all_turns hc h2) (by omega)
          · rintro _ ⟨n, e7, hn, hnz, rfl⟩
            refine Gen.eq (y := .nx [val .bag, val (.int k), val (.str "abcdefghijklmnopqrstuvwxyz"), Ent.own (List.map PV.str (zs ++ [n])), val (.str st), val y, val (.str n), e7]) ?_ ⟨_, rfl, zs ++ [n], _, _, _, rfl, by simp [hzl], fun z hz => ?_, ?_⟩
            · simp [appP, gV0, gVs, hzl, (by omega : j < 100000)]
            · rcases List.mem_append.mp hz with h | h
              · exact hzg z h
              · rw [List.mem_singleton.mp h]; exact hn
            · rw [List.nodup_append]
              refine ⟨hzn, by simp, fun a ha b hb e => ?_⟩
              rw [List.mem_singleton.mp hb] at e
              exact hnz (e ▸ ha)
    · rintro _ ⟨zs, e5, e6, e7, rfl, hzl, hzg, hzn⟩
      exact Gen.eq (fin_y (ret_y rfl)) ⟨zs, rfl, hzl, hzg, hzn⟩
theorem mulI {a b : Int} (h0 : -1000000000000 < a) (h1 : a < 1000000000000) : mulE (.int a) (.int b) = .ret (.int (a * b)) := by
  have e : (2 : Int) ^ 64 = 18446744073709551616 := by decide
  unfold mulE mulO
  dsimp only
  rw [if_pos (show CMul a b from Or.inl ⟨by omega, by omega⟩)]
theorem mkL3 (a b c : PV) : mkLst [a, b, c] = .ret [a, b, c] := by simp [mkLst]
theorem mkL4 (a b c d : PV) : mkLst [a, b, c, d] = .ret [a, b, c, d] := by simp [mkLst]
theorem mkT1 (a : PV) : mkTup [a] = .ret (.tup [a]) := by simp [mkTup]
theorem mkT2 (a b : PV) : mkTup [a, b] = .ret (.tup [a, b]) := by simp [mkTup]
theorem mkT3 (a b c : PV) : mkTup [a, b, c] = .ret (.tup [a, b, c]) := by simp [mkTup]
theorem gen_pace {sc : Int} (h0 : 1 ≤ sc) (h1 : sc ≤ 33333) : Gen (F_law_pace [.bag, .int sc]) 1 (fun y => ∃ i, y = .int i ∧ 0 ≤ i ∧ i ≤ 1000000) := by
  unfold F_law_pace m_law_pace
  have e2 : mulE (.int 2) (.int sc) = .ret (.int (2 * sc)) := mulI (by omega) (by omega)
  have e3 : mulE (.int 3) (.int sc) = .ret (.int (3 * sc)) := mulI (by omega) (by omega)
  have e5 : mulE (.int 5) (.int sc) = .ret (.int (5 * sc)) := mulI (by omega) (by omega)
  have e1 : addO (.int sc) (.int 1) = .ret (.int (sc + 1)) := rfl
  simp [seqP, setP, ownP, parP, par3P, unpP, ifP, retP, bin2, consA, asB, notP, andP, orP, notV, andV, orV, ifV, chain, lstV, mkLst, mkTup, fnP, startP, finP, isiO, inst, tyN, gV0, gVs, gB0, gB0o, gBs, capP, Ent.freeze, bindT, bindsN, M.ofO, List.replicate, mkLC, iterO, allO, leOD, ltO, gtO, geO, numB, subO, xor, F_law_draw, e1, e2, e3, e5]
  simp only [M.bZ]
  refine Gen.le (Gen.bind (Gen.draw (by omega) (by omega)) (d := 0) ?_) (Nat.le_refl _)
  rintro _ ⟨d, rfl, d0, d1⟩
  obtain ⟨y, hy, e⟩ := atI_in (l := [PV.int 0, PV.int 1000000, PV.int sc, PV.int 1, PV.int (2 * sc), PV.int (3 * sc), PV.int (5 * sc), PV.int (sc + 1)]) d0 d1
  refine Gen.eq (y := y) (by simp [ixO, e, M.ofO, finP]) ?_
  simp only [List.mem_cons, List.not_mem_nil, or_false] at hy
  rcases hy with rfl | rfl | rfl | rfl | rfl | rfl | rfl | rfl <;> exact ⟨_, rfl, by omega, by omega⟩
def WayR (r : List PV) : Prop := ∃ (k a b : Str) (i j : Int), r = [.str k, .str a, .str b, .int i, .int j] ∧ a.length ≤ 8 ∧ b.length ≤ 8 ∧ (k = "slope" ∨ k = "lift" ∨ k = "path") ∧ 0 ≤ i ∧ i ≤ 1000000 ∧ 0 ≤ j ∧ j ≤ 1000000 ∧ nameOk a = true ∧ nameOk b = true
def HillU (h : PV) (ps : List (Str × List PV)) (dark : Int) : Prop := HillOk h ps dark ∧ (ps.map (·.1)).Nodup ∧ (∀ p ∈ ps, WayR p.2) ∧ ps.length ≤ 12 ∧ ∃ hm : Str, h = .tup [.tup (ps.map fun p => .tup (.str p.1 :: p.2)), .str hm, .int dark] ∧ hm.length ≤ 8 ∧ nameOk hm = true
theorem gen_hill : Gen (F_law_hill [.bag]) 1000 (fun h => ∃ ps dark, HillU h ps dark) := by
  unfold F_law_hill m_law_hill
  show Gen ((seqP _ _ [val .bag, un, un, un, un, un, un, un, un, un, un]).bind finP) 1000 _
  refine Gen.le (gseqF (c := 2) (d := 998) (I := fun ρ => ∃ many : Int, 1 ≤ many ∧ many ≤ 12 ∧ ρ = [val .bag, val (.int many), un, un, un, un, un, un, un, un, un]) ?_ ?_) (by decide)
  · simp only [setP, ifV, asB, bin2, consA, gV0, gVs, rZ, F_law_draw, M.bZ]
    refine Gen.le (Gen.bind (Gen.draw (by omega) (by omega)) (d := 1) ?_) (Nat.le_refl _)
    rintro _ ⟨d, rfl, d0, d1⟩
    rw [eqI]
    by_cases c : d = 7
    · subst c
      exact Gen.le (Gen.eq (y := .nx _) rfl ⟨_, rfl, 12, by decide, by decide, rfl⟩) (by decide)
    · have c' : (d == 7) = false := by simpa using c
      simp only [rZ, c', Bool.false_eq_true, if_false, M.bZ]
      refine Gen.le (Gen.bind (Gen.draw (by omega) (by omega)) (d := 0) ?_) (Nat.le_refl _)
      rintro _ ⟨d, rfl, d0, d1⟩
      exact Gen.eq (y := .nx _) rfl ⟨_, rfl, 1 + d, by omega, by omega, rfl⟩
  rintro _ ⟨many, m0, m1, rfl⟩
  refine Gen.le (gseqF (c := 202) (d := 796) (I := fun ρ => ∃ (sc : Int) (sp : List PV), 1 ≤ sc ∧ sc ≤ 33333 ∧ 0 < sp.length ∧ sp.length ≤ 5 ∧ (∀ y ∈ sp, ∃ a : Str, y = .str a ∧ Good a) ∧ ρ = [val .bag, val (.int many), val (.int sc), val (.lst sp), un, un, un, un, un, un, un]) ?_ ?_) (by decide)
  · simp only [parP, bin2, lstV, consA, gV0, gVs, rZ, F_law_draw, M.bZ, mkL3]
    refine Gen.le (Gen.bind (Gen.draw (by omega) (by omega)) (d := 201) ?_) (Nat.le_refl _)
    rintro _ ⟨d, rfl, d0, d1⟩
    obtain ⟨y, hy, e⟩ := atI_in (l := [PV.int 1, PV.int 7, PV.int 33333]) d0 d1
    obtain ⟨sc, rfl, s0, s1⟩ : ∃ sc : Int, y = .int sc ∧ 1 ≤ sc ∧ sc ≤ 33333 := by
      simp only [List.mem_cons, List.not_mem_nil, or_false] at hy
      rcases hy with rfl | rfl | rfl <;> exact ⟨_, rfl, by decide, by decide⟩
    simp only [ixO, e, M.ofO, rZ]
    refine Gen.le (Gen.bind (Gen.draw (by omega) (by omega)) (d := 200) ?_) (Nat.le_refl _)
    rintro _ ⟨d, rfl, d0, d1⟩
    simp only [addO, rZ]
    refine Gen.le (Gen.bind (gen_labels (k := 1 + d) (by omega) (by omega)) (d := 0) ?_) (Nat.le_refl _)
    rintro _ ⟨zs, rfl, zl, zg, _⟩
    exact Gen.eq (y := .nx _) rfl ⟨_, rfl, sc, zs.map PV.str, s0, s1, by rw [List.length_map]; omega, by rw [List.length_map]; omega, fun y hy => by obtain ⟨a, ha, rfl⟩ := List.mem_map.mp hy; exact ⟨a, rfl, zg a ha⟩, rfl⟩
  rintro _ ⟨sc, sp, s0, s1, p0, p1, spg, rfl⟩
  refine Gen.le (gseqF (c := 0) (d := 796) (I := fun ρ => ρ = [val .bag, val (.int many), val (.int sc), val (.lst sp), Ent.own [], un, un, un, un, un, un]) (gnx (by simp [ownP, mkLst]) rfl) ?_) (by decide)
  rintro _ rfl
  refine Gen.le (gseqF (c := 200 + 60) (d := 536) (I := fun ρ => ∃ (ps : List (Str × List PV)) (e5 e6 e7 e8 e9 : Ent), ps ≠ [] ∧ ps.length ≤ 12 ∧ (∀ p ∈ ps, nameOk p.1 = true) ∧ (ps.map (·.1)).Nodup ∧ (∀ p ∈ ps, WayR p.2) ∧ ρ = [val .bag, val (.int many), val (.int sc), val (.lst sp), Ent.own (ps.map fun p => .tup (.str p.1 :: p.2)), e5, e6, e7, e8, e9, un]) ?_ ?_) (by decide)
  · simp only [mkFor, consA, gV0, gVs, rZ, M.bZ]
    refine Gen.bind (gen_labels m0 m1) ?_
    rintro _ ⟨zs, rfl, zl, zg, zn⟩
    simp only [iterO, rZ]
    refine Gen.mono (forI (k := 5) (c := 5) (Iv := fun i ρ => ∃ (ps : List (Str × List PV)) (e5 e6 e7 e8 e9 : Ent), ps.map (·.1) = zs.take i ∧ (∀ p ∈ ps, WayR p.2) ∧ ρ = [val .bag, val (.int many), val (.int sc), val (.lst sp), Ent.own (ps.map fun p => .tup (.str p.1 :: p.2)), e5, e6, e7, e8, e9, un]) (zs.map PV.str) ?_ (zs.map PV.str) 0 _ rfl (Nat.zero_le _) ⟨[], _, _, _, _, _, by simp, fun p hp => by simp at hp, rfl⟩) (by rw [List.length_map]; omega) ?_
    rotate_left
    · rintro f ⟨ρ', rfl, ps, e5, e6, e7, e8, e9, hm, hg, rfl⟩
      rw [List.length_map, List.take_length] at hm
      have hl : ps.length = zs.length := by rw [← hm, List.length_map]
      exact ⟨_, rfl, ps, e5, e6, e7, e8, e9, fun h => by subst h; simp at hl; omega, by omega, fun p hp => (zg p.1 (by rw [← hm]; exact List.mem_map.mpr ⟨p, hp, rfl⟩)).ok, by rw [hm]; exact zn, hg, rfl⟩
    · rintro j y hy _ ⟨ps, e5, e6, e7, e8, e9, hm, hg, rfl⟩
      rw [List.getElem?_map] at hy
      obtain ⟨z, hz, rfl⟩ := Option.map_eq_some_iff.mp hy
      have hj : j < zs.length := (List.getElem?_eq_some_iff.mp hz).1
      have hl : ps.length = j := by rw [← List.length_map (as := ps) (f := (·.1)), hm, List.length_take]; omega
      show Gen (seqP _ _ [val .bag, val (.int many), val (.int sc), val (.lst sp), Ent.own (ps.map fun p => .tup (.str p.1 :: p.2)), val (.str z), e6, e7, e8, e9, un]) 5 _
      refine Gen.le (gseq (c := 3) (d := 2) (I := fun ρ => ∃ (kd : Int) (a b : PV), 0 ≤ kd ∧ kd < 4 ∧ a ∈ sp ∧ b ∈ sp ∧ ρ = [val .bag, val (.int many), val (.int sc), val (.lst sp), Ent.own (ps.map fun p => .tup (.str p.1 :: p.2)), val (.str z), val (.int kd), val a, val b, e9, un]) ?_ ?_) (by decide)
      · simp only [par3P, consA, gV0, gVs, rZ, F_law_draw, M.bZ]
        refine Gen.le (Gen.bind (Gen.draw (by omega) (by omega)) (d := 2) ?_) (Nat.le_refl _)
        rintro _ ⟨d, rfl, d0, d1⟩
        refine Gen.le (Gen.bind (gen_any p0 (by omega)) (d := 1) ?_) (Nat.le_refl _)
        intro a ha
        refine Gen.le (Gen.bind (gen_any p0 (by omega)) (d := 0) ?_) (Nat.le_refl _)
        intro b hb
        exact Gen.eq (y := .nx _) rfl ⟨_, rfl, d, a, b, d0, d1, ha, hb, rfl⟩
      rintro _ ⟨kd, a, b, kd0, kd1, ha, hb, rfl⟩
      obtain ⟨a, rfl, hag⟩ := spg a ha
      obtain ⟨b, rfl, hbg⟩ := spg b hb
      refine Gen.le (gseq (c := 2) (d := 0) (I := fun ρ => ∃ (p q : Int), 0 ≤ p ∧ p ≤ 1000000 ∧ 0 ≤ q ∧ q ≤ 1000000 ∧ ρ = [val .bag, val (.int many), val (.int sc), val (.lst sp), Ent.own (ps.map fun p => .tup (.str p.1 :: p.2)), val (.str z), val (.int kd), val (.str a), val (.str b), val (.tup [.int p, .int q]), un]) ?_ ?_) (by decide)
      · simp only [setP, consA, gV0, gVs, rZ, M.bZ]
        refine Gen.le (Gen.bind (gen_pace s0 s1) (d := 1) ?_) (Nat.le_refl _)
        rintro _ ⟨p, rfl, hp0, hp1⟩
        refine Gen.le (Gen.bind (gen_pace s0 s1) (d := 0) ?_) (Nat.le_refl _)
        rintro _ ⟨q, rfl, hq0, hq1⟩
        exact Gen.eq (y := .nx _) (by rw [mkT2]; rfl) ⟨_, rfl, p, q, hp0, hp1, hq0, hq1, rfl⟩
      rintro _ ⟨p, q, hp0, hp1, hq0, hq1, rfl⟩
      obtain ⟨ki, hki, ek⟩ := atI_in (l := [PV.str "slope", PV.str "lift", PV.str "path", PV.str "slope"]) kd0 kd1
      obtain ⟨kn, rfl, hkn⟩ : ∃ kn : Str, ki = .str kn ∧ (kn = "slope" ∨ kn = "lift" ∨ kn = "path") := by
        simp only [List.mem_cons, List.not_mem_nil, or_false] at hki
        rcases hki with rfl | rfl | rfl | rfl
        · exact ⟨_, rfl, .inl rfl⟩
        · exact ⟨_, rfl, .inr (.inl rfl)⟩
        · exact ⟨_, rfl, .inr (.inr rfl)⟩
        · exact ⟨_, rfl, .inl rfl⟩
      refine Gen.eq (y := .nx [val .bag, val (.int many), val (.int sc), val (.lst sp), Ent.own ((ps ++ [(z, [PV.str kn, PV.str a, PV.str b, PV.int p, PV.int q])]).map fun p => .tup (.str p.1 :: p.2)), val (.str z), val (.int kd), val (.str a), val (.str b), val (.tup [.int p, .int q]), un]) ?_ ⟨_, rfl, ps ++ [(z, [PV.str kn, PV.str a, PV.str b, PV.int p, PV.int q])], _, _, _, _, _, ?_, fun r hr => ?_, rfl⟩
      · simp [appP, bin2, consA, lstV, gV0, gVs, mkLst, mkTup, ixO, ek, M.ofO, addO, hl, (by omega : j < 100000)]
      · rw [List.map_append, hm, List.take_succ, hz]
        rfl
      · rcases List.mem_append.mp hr with h | h
        · exact hg r h
        · rw [List.mem_singleton.mp h]
          exact ⟨kn, a, b, p, q, rfl, hag.2.1, hbg.2.1, hkn, hp0, hp1, hq0, hq1, hag.ok, hbg.ok⟩
  rintro _ ⟨ps, e5, e6, e7, e8, e9, hne, hl, hg, hnd, hwr, rfl⟩
  refine Gen.le (gseqF (c := 3) (d := 1) (I := fun ρ => ∃ (dark : Int), 1 ≤ dark ∧ dark ≤ 1000000 ∧ ρ = [val .bag, val (.int many), val (.int sc), val (.lst sp), Ent.own (ps.map fun p => .tup (.str p.1 :: p.2)), e5, e6, e7, e8, e9, val (.int dark)]) ?_ ?_) (by decide)
  · simp only [setP, bin2, lstV, consA, gV0, gVs, rZ, F_law_draw, M.bZ]
    refine Gen.le (Gen.bind (Gen.draw (by omega) (by omega)) (d := 2) ?_) (Nat.le_refl _)
    rintro _ ⟨d, rfl, d0, d1⟩
    simp only [addO, rZ, mulI (by omega : -1000000000000 < sc) (by omega : sc < 1000000000000)]
    refine Gen.le (Gen.bind (Gen.draw (by omega) (by omega)) (d := 1) ?_) (Nat.le_refl _)
    rintro _ ⟨f, rfl, f0, f1⟩
    simp only [addO, rZ, mulI (by omega : -1000000000000 < sc) (by omega : sc < 1000000000000), mkL4]
    refine Gen.le (Gen.bind (Gen.draw (by omega) (by omega)) (d := 0) ?_) (Nat.le_refl _)
    rintro _ ⟨g, rfl, g0, g1⟩
    obtain ⟨y, hy, e⟩ := atI_in (l := [PV.int 1000000, PV.int 1, PV.int (sc * (1 + d)), PV.int (sc * (5 + f))]) g0 g1
    obtain ⟨dark, rfl, k0, k1⟩ : ∃ dark : Int, y = .int dark ∧ 1 ≤ dark ∧ dark ≤ 1000000 := by
      have a1 : 1 ≤ sc * (1 + d) := Int.le_trans (by omega : (1 : Int) ≤ 1 * (1 + d)) (Int.mul_le_mul_of_nonneg_right s0 (by omega))
      have a2 : sc * (1 + d) ≤ 1000000 := Int.le_trans (Int.mul_le_mul s1 (by omega : 1 + d ≤ 30) (by omega) (by omega)) (by decide)
      have a3 : 1 ≤ sc * (5 + f) := Int.le_trans (by omega : (1 : Int) ≤ 1 * (5 + f)) (Int.mul_le_mul_of_nonneg_right s0 (by omega))
      have a4 : sc * (5 + f) ≤ 1000000 := Int.le_trans (Int.mul_le_mul s1 (by omega : 5 + f ≤ 14) (by omega) (by omega)) (by decide)
      simp only [List.mem_cons, List.not_mem_nil, or_false] at hy
      rcases hy with rfl | rfl | rfl | rfl
      · exact ⟨_, rfl, by decide, by decide⟩
      · exact ⟨_, rfl, by decide, by decide⟩
      · exact ⟨_, rfl, a1, a2⟩
      · exact ⟨_, rfl, a3, a4⟩
    exact Gen.eq (y := .nx _) (by simp only [ixO, e, M.ofO, rZ]; rfl) ⟨_, rfl, dark, k0, k1, rfl⟩
  rintro _ ⟨dark, k0, k1, rfl⟩
  simp only [retP, List.map, Ent.freeze, consA, gV0, gVs, rZ, M.bZ, tupO]
  refine Gen.le (Gen.bind (gen_any p0 (by omega)) (d := 0) ?_) (Nat.le_refl _)
  intro home hhome
  obtain ⟨hm, rfl, hhg⟩ := spg home hhome
  refine Gen.eq (y := .tup [.tup (ps.map fun p => .tup (.str p.1 :: p.2)), .str hm, .int dark]) (by simp only [rZ, mkT3]; rfl) ⟨ps, dark, ⟨.str hm, rfl, hne, by omega, hg, k0, k1⟩, hnd, hwr, hl, hm, rfl, hhg.2.1, hhg.ok⟩
theorem hill0 {h : PV} {ps : List (Str × List PV)} {dark : Int} (H : HillOk h ps dark) : ixO h (.int 0) = .ret (.tup (ps.map fun p => .tup (.str p.1 :: p.2))) ∧ ixO h (.int 2) = .ret (.int dark) := by
  obtain ⟨home, rfl, _⟩ := H
  exact ⟨rfl, rfl⟩
theorem fdivI {a b : Int} (h0 : 0 < b) (h1 : b < 1000) : fdivO (.int a) (.int b) = .ret (.int (a / b)) := by
  unfold fdivO numO
  dsimp only
  rw [if_pos (show CDiv a b from ⟨h0, by omega⟩)]
theorem gen_moment {h : PV} {ps : List (Str × List PV)} {dark : Int} (H : HillOk h ps dark) : Gen (F_law_moment [.bag, h]) 2 (fun y => ∃ i : Int, y = .int i ∧ 0 ≤ i ∧ i ≤ 1000000) := by
  obtain ⟨_, h2⟩ := hill0 H
  obtain ⟨_, _, _, _, _, k0, k1⟩ := H
  unfold F_law_moment m_law_moment
  show Gen ((retP _ [val .bag, val h]).bind finP) 2 _
  have e1 : addO (.int dark) (.int 1) = .ret (.int (dark + 1)) := rfl
  have e2 : fdivO (.int dark) (.int 2) = .ret (.int (dark / 2)) := fdivI (by omega) (by omega)
  simp only [retP, List.map, Ent.freeze, bin2, lstV, consA, gV0, gVs, rZ, h2, e1, e2, F_law_draw, M.bZ]
  refine Gen.le (Gen.bind (Gen.draw (by omega) (by omega)) (d := 1) ?_) (Nat.le_refl _)
  rintro _ ⟨d, rfl, d0, d1⟩
  simp only [rZ, mkL4]
  refine Gen.le (Gen.bind (Gen.draw (by omega) (by omega)) (d := 0) ?_) (Nat.le_refl _)
  rintro _ ⟨g, rfl, g0, g1⟩
  obtain ⟨y, hy, e⟩ := atI_in (l := [PV.int 0, PV.int dark, PV.int d, PV.int (dark / 2)]) g0 g1
  obtain ⟨i, rfl, i0, i1⟩ : ∃ i : Int, y = .int i ∧ 0 ≤ i ∧ i ≤ 1000000 := by
    simp only [List.mem_cons, List.not_mem_nil, or_false] at hy
    rcases hy with rfl | rfl | rfl | rfl <;> exact ⟨_, rfl, by omega, by omega⟩
  exact Gen.eq (y := .int i) (by simp only [ixO, e, M.ofO, rZ]; rfl) ⟨i, rfl, i0, i1⟩
theorem fine_int (i : Int) : Fine (.int i) := ⟨fun h => (by cases h), fun x h => (by cases h)⟩
theorem fine_str (x : Str) (h : x.length ≤ 100000) : Fine (.str x) := ⟨fun h => (by cases h), fun y e => (by cases e; exact h)⟩
def FineX (y : PV) : Prop := Fine y ∧ ∀ l, y ≠ .tup l
theorem fx_int (i : Int) : FineX (.int i) := ⟨fine_int i, fun l h => (by cases h)⟩
theorem fx_str (x : Str) (h : x.length ≤ 100000) : FineX (.str x) := ⟨fine_str x h, fun l h => (by cases h)⟩
def RuleT (y : PV) : Prop := ∃ (w : Str) (r : List PV), y = .tup (.str w :: r) ∧ w.length ≤ 1000 ∧ r.length ≤ 3 ∧ ∀ x ∈ r, FineX x
theorem gen_rule {h : PV} {ps : List (Str × List PV)} {dark : Int} (H : HillOk h ps dark) : Gen (F_law_rule [.bag, h]) 10 RuleT := by
  obtain ⟨h0, h2⟩ := hill0 H
  have H' := H
  obtain ⟨_, _, hne, hpl, hpo, k0, k1⟩ := H'
  unfold F_law_rule m_law_rule
  show Gen ((seqP _ _ [val .bag, val h, un, un, un]).bind finP) 10 _
  refine Gen.le (gseqF (c := 2) (d := 8) (I := fun ρ => ∃ w n : Int, 0 ≤ w ∧ w < 8 ∧ ρ = [val .bag, val h, val (.int w), val (.int n), un]) ?_ ?_) (by decide)
  · simp only [parP, bin2, consA, gV0, gVs, rZ, F_law_draw, M.bZ]
    refine Gen.le (Gen.bind (Gen.draw (by omega) (by omega)) (d := 1) ?_) (Nat.le_refl _)
    rintro _ ⟨w, rfl, w0, w1⟩
    refine Gen.le (Gen.bind (Gen.draw (by omega) (by omega)) (d := 0) ?_) (Nat.le_refl _)
    rintro _ ⟨n, rfl, n0, n1⟩
    exact Gen.eq (y := .nx _) rfl ⟨_, rfl, w, n - 3, w0, w1, rfl⟩
  rintro _ ⟨w, n, w0, w1, rfl⟩
  refine Gen.le (gseqF (c := 2) (d := 6) (I := fun ρ => ∃ n : Int, ρ = [val .bag, val h, val (.int w), val (.int n), un]) ?_ ?_) (by decide)
  · simp only [ifP, asB, bin2, consA, gV0, gVs, rZ, F_law_draw, M.bZ]
    refine Gen.le (Gen.bind (Gen.draw (by omega) (by omega)) (d := 1) ?_) (Nat.le_refl _)
    rintro _ ⟨d, rfl, d0, d1⟩
    rw [eqI]
    by_cases c : d = 0
    · subst c
      have ep : powO (.int 10) (.int 60) = .ret (.int (10 ^ 60)) := by
        unfold powO numO
        dsimp only
        rw [if_pos (by decide +kernel)]
        rfl
      have es : subO (.int (10 ^ 60)) (.int 1) = .ret (.int (10 ^ 60 - 1)) := rfl
      have el : mkLst [.int 1, .int (-1)] = .ret [.int 1, .int (-1)] := by simp [mkLst]
      simp only [rZ, beq_self_eq_true, if_true, setP, bin2, lstV, consA, gV0, gVs, negO, ep, es, el, M.bZ]
      refine Gen.le (Gen.bind (Gen.draw (by omega) (by omega)) (d := 0) ?_) (Nat.le_refl _)
      rintro _ ⟨g, rfl, g0, g1⟩
      obtain ⟨y, hy, e⟩ := atI_in (l := [PV.int 1, PV.int (-1)]) g0 g1
      obtain ⟨i, rfl, i0, i1⟩ : ∃ i : Int, y = .int i ∧ -2 < i ∧ i < 2 := by
        simp only [List.mem_cons, List.not_mem_nil, or_false] at hy
        rcases hy with rfl | rfl <;> exact ⟨_, rfl, by decide, by decide⟩
      have em : mulE (.int (10 ^ 60 - 1)) (.int i) = .ret (.int ((10 ^ 60 - 1) * i)) := by
        have e64 : (2 : Int) ^ 64 = 18446744073709551616 := by decide
        unfold mulE mulO
        dsimp only
        rw [if_pos (show CMul _ i from Or.inr ⟨by omega, by omega⟩)]
      exact Gen.eq (y := .nx _) (by simp only [ixO, e, M.ofO, rZ, em]; rfl) ⟨_, rfl, _, rfl⟩
    · have c' : (d == 0) = false := by simpa using c
      refine Gen.le (Gen.eq (y := .nx _) (by simp only [rZ, c', Bool.false_eq_true, if_false]) ⟨_, rfl, n, rfl⟩) (by decide)
  rintro _ ⟨n, rfl⟩
  have hw0 : asB (bin2 (eqO false) (fun ρ => getV ρ 2) (fun _ => M.ret (.int 0))) [val .bag, val h, val (.int w), val (.int n), un] = .ret (w == 0) := by simp [asB, bin2, getV, eqI]
  have hw4 : asB (bin2 (eqO false) (fun ρ => getV ρ 2) (fun _ => M.ret (.int 4))) [val .bag, val h, val (.int w), val (.int n), un] = .ret (w == 4) := by simp [asB, bin2, getV, eqI]
  have hl4 : asB (bin2 ltO (fun ρ => getV ρ 2) (fun _ => M.ret (.int 4))) [val .bag, val h, val (.int w), val (.int n), un] = .ret (decide (w < 4)) := by simp [asB, bin2, getV, ltO, numB]
  have hl7 : asB (bin2 ltO (fun ρ => getV ρ 2) (fun _ => M.ret (.int 7))) [val .bag, val h, val (.int w), val (.int n), un] = .ret (decide (w < 7)) := by simp [asB, bin2, getV, ltO, numB]
  by_cases c0 : w = 0
  · subst c0
    unfold seqP
    rw [if_t hw0]
    show Gen ((M.bind (seqP _ _ [val .bag, val h, val (.int 0), val (.int n), un]) _).bind finP) 6 _
    unfold seqP
    simp only [setP, consA, gV0, gVs, rZ, M.bZ]
    refine Gen.le (Gen.bind (gen_moment H) (d := 2) ?_) (by decide)
    rintro _ ⟨a, rfl, a0, a1⟩
    simp only [rZ, List.set_cons_succ, List.set_cons_zero, retP, List.map, Ent.freeze, consA, bin2, lstV, gV0, gVs, addO, subO, F_law_draw, M.bZ]
    refine Gen.le (Gen.bind (Gen.draw (by omega) (by omega)) (d := 1) ?_) (by decide)
    rintro _ ⟨b, rfl, b0, b1⟩
    simp only [rZ, addO, mkL3]
    refine Gen.le (Gen.bind (gen_any (by simp) (by simp)) (d := 0) ?_) (by decide)
    intro y hy
    refine Gen.eq (y := .tup [.str "hours", .int a, y]) (by simp only [rZ, mkT3]; rfl) ⟨_, _, rfl, by decide, by simp, fun x hx => ?_⟩
    simp only [List.mem_cons, List.not_mem_nil, or_false] at hx hy
    rcases hx with rfl | rfl
    · exact fx_int _
    · rcases hy with rfl | rfl | rfl <;> exact fx_int _
  · have c0' : (w == 0) = false := by simpa using c0
    refine Gen.le (gseqF (c := 0) (d := 6) (I := fun ρ => ρ = [val .bag, val h, val (.int w), val (.int n), un]) (gnx (if_f (by rw [hw0, c0'])) rfl) ?_) (by decide)
    rintro _ rfl
    by_cases c4 : w < 4
    · unfold seqP
      rw [if_t (by rw [hl4, decide_eq_true c4])]
      obtain ⟨v, hv, ev⟩ := atI_in (l := [PV.str "least", PV.str "most", PV.str "least"]) (d := w - 1) (by omega) (by simp; omega)
      obtain ⟨wd, rfl, hwd⟩ : ∃ wd : Str, v = .str wd ∧ wd.length ≤ 1000 := by
        simp only [List.mem_cons, List.not_mem_nil, or_false] at hv
        rcases hv with rfl | rfl | rfl <;> exact ⟨_, rfl, by decide⟩
      simp only [retP, List.map, Ent.freeze, consA, bin2, lstV, gV0, gVs, rZ, mkL3, mkL4, subO, ixO, ev, M.ofO, M.bZ]
      refine Gen.le (Gen.bind (gen_any (by simp) (by simp)) (d := 0) ?_) (by decide)
      intro y hy
      refine Gen.eq (y := .tup [.str wd, y, .int n]) (by simp only [rZ, mkT3]; rfl) ⟨_, _, rfl, hwd, by simp, fun x hx => ?_⟩
      simp only [List.mem_cons, List.not_mem_nil, or_false] at hx hy
      rcases hx with rfl | rfl
      · rcases hy with rfl | rfl | rfl | rfl <;> exact fx_str _ (by decide)
      · exact fx_int _
    · refine Gen.le (gseqF (c := 0) (d := 6) (I := fun ρ => ρ = [val .bag, val h, val (.int w), val (.int n), un]) (gnx (if_f (by rw [hl4, decide_eq_false c4])) rfl) ?_) (by decide)
      rintro _ rfl
      by_cases c5 : w = 4
      · subst c5
        unfold seqP
        rw [if_t hw4]
        have ef : fdivO (.int dark) (.int 3) = .ret (.int (dark / 3)) := fdivI (by omega) (by omega)
        simp only [retP, List.map, Ent.freeze, consA, bin2, lstV, gV0, gVs, rZ, F_law_draw, M.bZ]
        refine Gen.le (Gen.bind (Gen.draw (by omega) (by omega)) (d := 1) ?_) (by decide)
        rintro _ ⟨b, rfl, b0, b1⟩
        simp only [rZ, addO, h2, ef, mkL4]
        refine Gen.le (Gen.bind (gen_any (by simp) (by simp)) (d := 0) ?_) (by decide)
        intro y hy
        refine Gen.eq (y := .tup [.str "looked", y]) (by simp only [rZ, mkT2]; rfl) ⟨_, _, rfl, by decide, by simp, fun x hx => ?_⟩
        simp only [List.mem_cons, List.not_mem_nil, or_false] at hx hy
        subst hx
        rcases hy with rfl | rfl | rfl | rfl <;> exact fx_int _
      · have c5' : (w == 4) = false := by simpa using c5
        refine Gen.le (gseqF (c := 0) (d := 6) (I := fun ρ => ρ = [val .bag, val h, val (.int w), val (.int n), un]) (gnx (if_f (by rw [hw4, c5'])) rfl) ?_) (by decide)
        rintro _ rfl
        unfold retP
        simp only [List.map, Ent.freeze]
        by_cases c7 : w < 7
        · rw [ifv_t (by rw [hl7, decide_eq_true c7])]
          simp only [consA, bin2, gV0, gVs, rZ, h0, M.bZ]
          have hany : Gen (F_law_any [.bag, .tup (ps.map fun p => .tup (.str p.1 :: p.2))]) 1 (fun y => ∃ p ∈ ps, y = .tup (.str p.1 :: p.2)) := by
            unfold F_law_any m_law_any
            have hlen : lenO [.tup (ps.map fun p => PV.tup (.str p.1 :: p.2))] = .ret (.int ps.length) := by simp [lenO]
            show Gen ((retP _ [val .bag, val (.tup (ps.map fun p => .tup (.str p.1 :: p.2)))]).bind finP) 1 _
            simp only [retP, List.map, Ent.freeze, consA, bin2, gV0, gVs, rZ, F_law_draw, M.bZ]
            simp only [hlen, rZ]
            have hpos : 0 < ps.length := List.length_pos_iff.mpr hne
            refine Gen.le (Gen.bind (Gen.draw (by omega) (by omega)) (d := 0) ?_) (by decide)
            rintro _ ⟨d, rfl, d0, d1⟩
            obtain ⟨y, hy, e⟩ := atI_in (l := ps.map fun p => PV.tup (.str p.1 :: p.2)) d0 (by rw [List.length_map]; exact d1)
            obtain ⟨p, hp, rfl⟩ := List.mem_map.mp hy
            exact Gen.eq (y := .tup (.str p.1 :: p.2)) (by simp only [ixO, e, M.ofO, rZ]; rfl) ⟨p, hp, rfl⟩
          refine Gen.le (Gen.bind hany (d := 0) ?_) (by decide)
          rintro _ ⟨p, hp, rfl⟩
          refine Gen.eq (y := .tup [.str "with", .str p.1]) (by simp only [ixO, at0, M.ofO, rZ, mkT2]; rfl) ⟨_, _, rfl, by decide, by simp, fun x hx => ?_⟩
          simp only [List.mem_cons, List.not_mem_nil, or_false] at hx
          subst hx
          have hk := hpo p hp
          unfold nameOk at hk
          rw [Bool.and_eq_true] at hk
          exact fx_str _ (by have := (of_decide_eq_true hk.1).2; omega)
        · rw [ifv_f (by rw [hl7, decide_eq_false c7])]
          exact Gen.le (Gen.eq (y := .tup [.str "never"]) (by simp only [consA, rZ, mkT1]; rfl) ⟨_, [], rfl, by decide, by simp, fun x hx => by simp at hx⟩) (by decide)
theorem loop_find (x : Str) (h : PV) : ∀ (ps : List (Str × List PV)) (e : Ent), ∃ e', forP (bindN 2) (ifP (asB (bin2 (eqO false) (bin2 ixO (fun ρ => getV ρ 2) (fun _ => M.ret (.int 0))) (fun ρ => getV ρ 1)))
    (retP (fun ρ => getV ρ 2))
    (fun ρ => M.ret (.nx ρ))) (ps.map fun p => .tup (.str p.1 :: p.2)) [.val h, .val (.str x), e] = .ret (match ps.find? (fun p => p.1 == x) with | some p => .rt (.tup (.str p.1 :: p.2)) | none => .nx [.val h, .val (.str x), e'])
  | [], e => ⟨e, rfl⟩
  | p :: ps, e => by
    obtain ⟨e', hf⟩ := loop_find x h ps (.val (.tup (.str p.1 :: p.2)))
    refine ⟨e', ?_⟩
    rw [List.map_cons, forP, List.find?_cons]
    cases c : p.1 == x with
    | true => simp [bindN, ifP, asB, bin2, getV, retP, Ent.freeze, ixO, at0, M.ofO, eqS, c]
    | false =>
      have hf' := hf
      simp [bindN, ifP, asB, bin2, getV, retP, Ent.freeze, ixO, at0, M.ofO, eqS, c] at hf' ⊢
      exact hf'
theorem named_is {h : PV} {ps : List (Str × List PV)} {dark : Int} (H : HillOk h ps dark) (x : Str) : F_way_named [h, .str x] = .ret (match ps.find? (fun p => p.1 == x) with | some p => .tup (.str p.1 :: p.2) | none => .non) := by
  obtain ⟨home, rfl, _⟩ := H
  obtain ⟨e', hf⟩ := loop_find x (.tup [.tup (ps.map fun p => .tup (.str p.1 :: p.2)), home, .int dark]) ps .un
  have i0 : ixO (.tup [.tup (ps.map fun p => .tup (.str p.1 :: p.2)), home, .int dark]) (.int 0) = .ret (.tup (ps.map fun p => .tup (.str p.1 :: p.2))) := rfl
  unfold F_way_named m_way_named
  show (seqP _ _ [val (.tup [.tup (ps.map fun p => .tup (.str p.1 :: p.2)), home, .int dark]), val (.str x), un]).bind finP = _
  unfold seqP mkFor
  simp only [bin2, gV0, rZ, i0, iterO]
  rw [hf]
  cases ps.find? (fun p => p.1 == x) <;> rfl
def isSl : List PV → Bool
  | .str k :: _ => k == "slope"
  | _ => false
def slIn (ps : List (Str × List PV)) : PV → Bool
  | .str x => ps.any fun p => isSl p.2 && p.1 == x
  | _ => false
theorem sl_none {x : Str} : ∀ {ps : List (Str × List PV)}, x ∉ ps.map (·.1) → (ps.any fun p => isSl p.2 && p.1 == x) = false
  | [], _ => rfl
  | p :: ps, h => by
    rw [List.map_cons, List.mem_cons, not_or] at h
    rw [List.any_cons, sl_none h.2]
    have : (p.1 == x) = false := by
      cases c : p.1 == x with
      | false => rfl
      | true => exact absurd (eq_of_beq c).symm h.1
    rw [this]; simp
theorem sl_find {x : Str} : ∀ {ps : List (Str × List PV)}, (ps.map (·.1)).Nodup → slIn ps (.str x) = (match ps.find? (fun p => p.1 == x) with | some p => isSl p.2 | none => false)
  | [], _ => rfl
  | p :: ps, h => by
    rw [List.map_cons, List.nodup_cons] at h
    have ih := sl_find (x := x) h.2
    rw [List.find?_cons]
    unfold slIn at ih ⊢
    dsimp only at ih ⊢
    rw [List.any_cons]
    cases c : p.1 == x with
    | true =>
      rw [sl_none (eq_of_beq c ▸ h.1)]
      simp
    | false => simp only [Bool.and_false, Bool.false_or]; exact ih
theorem nm_find {x : Str} : ∀ (ps : List (Str × List PV)), nmIn ps (.str x) = (ps.find? (fun p => p.1 == x)).isSome
  | [] => rfl
  | p :: ps => by
    rw [List.find?_cons]
    have ih := nm_find (x := x) ps
    unfold nmIn at ih ⊢
    dsimp only at ih ⊢
    rw [List.any_cons]
    cases c : p.1 == x with
    | true => rfl
    | false => simpa using ih
theorem slope_is {h a : PV} {ps : List (Str × List PV)} {dark : Int} (U : HillU h ps dark) (ha : Fine a) : F_is_slope_name [h, a] = .ret (.bl (slIn ps a)) := by
  have h1 := wayname_is U.1 ha
  unfold F_is_slope_name m_is_slope_name
  show (retP _ [val h, val a]).bind finP = _
  cases a with
  | bag => exact absurd rfl ha.1
  | str x =>
    have h2 := named_is U.1 x
    have e := nm_find (x := x) ps
    rw [sl_find U.2.1]
    cases c : ps.find? (fun p => p.1 == x) with
    | none =>
      rw [c] at e
      refine fin_y (ret_y ((v_and (x := false) (y := false) ?_ fun h => by cases h).trans rfl))
      simp only [List.map, Ent.freeze, consA, gV0, gVs, rZ, h1, e]; rfl
    | some p =>
      rw [c] at e h2
      obtain ⟨k, a, b, i, j, hr, _⟩ := U.2.2.1 p (List.mem_of_find?_eq_some c)
      refine fin_y (ret_y ((v_and (x := true) (y := isSl p.2) ?_ fun _ => ?_).trans rfl))
      · simp only [List.map, Ent.freeze, consA, gV0, gVs, rZ, h1, e]; rfl
      · have e1 : atI (PV.str p.1 :: p.2) 1 = some (.str k) := by rw [hr]; rfl
        simp only [List.map, Ent.freeze, bin2, consA, gV0, gVs, rZ, h2, ixO, e1, M.ofO, eqS]
        rw [hr]; rfl
  | _ =>
    refine fin_y (ret_y ((v_and (x := false) (y := false) ?_ fun h => by cases h).trans rfl))
    simp only [List.map, Ent.freeze, consA, gV0, gVs, rZ, h1, nmIn]
def slopesOf (ps : List (Str × List PV)) : List Str := (ps.filter fun p => isSl p.2).map (·.1)
theorem slopes_is {h : PV} {ps : List (Str × List PV)} {dark : Int} (U : HillU h ps dark) : F_law_slopes [h] = .ret (.lst ((slopesOf ps).map PV.str)) := by
  obtain ⟨h0, _⟩ := hill0 U.1
  have hlen := U.2.2.2.1
  unfold F_law_slopes m_law_slopes
  show (retP _ [val h]).bind finP = _
  refine fin_y (ret_y ?_)
  have q := lcM_filter (k := 0) (tt := asB (bin2 (eqO false) (bin2 ixO (fun ρ => getV ρ 0) (fun _ => M.ret (.int 1))) (fun _ => M.ret (.str "slope")))) (te := bin2 ixO (fun ρ => getV ρ 0) (fun _ => M.ret (.int 0))) (p := fun y => match y with | .tup (_ :: r) => isSl r | _ => false) (f := fun y => match y with | .tup (a :: _) => a | _ => .non) (ρ := [un]) (ps.map fun p => PV.tup (.str p.1 :: p.2)) [un] (fun _ => rfl) (fun y hy => by
    obtain ⟨p, hp, rfl⟩ := List.mem_map.mp hy
    obtain ⟨k, a, b, i, j, hr, _⟩ := U.2.2.1 p hp
    have e1 : atI (PV.str p.1 :: p.2) 1 = some (.str k) := by rw [hr]; rfl
    simp only [asB, bin2, getV, List.set_cons_zero, List.getElem?_cons_zero, rZ, ixO, e1, M.ofO, eqS]
    rw [hr]; rfl) (fun y hy _ => by
    obtain ⟨p, hp, rfl⟩ := List.mem_map.mp hy
    simp only [bin2, getV, List.set_cons_zero, List.getElem?_cons_zero, rZ, ixO, at0, M.ofO])
  have hl : (ps.map fun p => PV.tup (.str p.1 :: p.2)).length ≤ 100000 := by rw [List.length_map]; omega
  simp only [lstV, mkLC, bin2, List.map, Ent.freeze, gV0, rZ, h0, iterO, if_pos hl]
  have ec : capP [none] [val h] = [un] := rfl
  rw [ec, q]
  simp only [rZ, slopesOf, List.filter_map, List.map_map]
  rfl
def FineE (y : PV) : Prop := Fine y ∧ FineT y ∧ FineTT y
def FineP (y : PV) : Prop := y ≠ .bag ∧ ∀ l, y = .tup l → ∀ z ∈ l, FineE z
theorem FineP.t {y : PV} (h : FineP y) : FineT y := ⟨h.1, fun l e z hz => (h.2 l e z hz).1⟩
def ruR (ps : List (Str × List PV)) (c : PV) : List PV → Bool
  | [v] => nmIn ps c && rulesOk ps v
  | _ => false
noncomputable def pageB (ps : List (Str × List PV)) (w : Str) (c : PV) (r : List PV) : Bool :=
  if (w == "read") = true then (match r with | [v] => isName c && isNum v | _ => false)
  else if (w == "look") = true then (match r with | [] => slIn ps c | _ => false)
  else if (w == "rule") = true then ruR ps c r
  else false
def pageOk (ps : List (Str × List PV)) (dark : Int) : PV → Bool
  | .tup (.str w :: a :: b :: c :: r) => inW 0 999999 a && inW 0 dark b && pageB ps w c r
  | _ => false
theorem at1 (a b : PV) (r : List PV) : atI (a :: b :: r) 1 = some b := atI_nat (j := 1) rfl
theorem at2 (a b c : PV) (r : List PV) : atI (a :: b :: c :: r) 2 = some c := atI_nat (j := 2) rfl
theorem at3 (a b c d : PV) (r : List PV) : atI (a :: b :: c :: d :: r) 3 = some d := atI_nat (j := 3) rfl
theorem at4 (a b c d e : PV) (r : List PV) : atI (a :: b :: c :: d :: e :: r) 4 = some e := atI_nat (j := 4) rfl
theorem c_not {a : PEnv → M Bool} {ρ : PEnv} {x : Bool} (ha : a ρ = .ret x) : notP a ρ = .ret (!x) := by unfold notP; rw [ha]; rfl
theorem page_is {h y : PV} {ps : List (Str × List PV)} {dark : Int} (U : HillU h ps dark) (hy : FineP y) : F_is_page [h, y] = .ret (.bl (pageOk ps dark y)) := by
  obtain ⟨_, hd⟩ := hill0 U.1
  have hb := begins_is hy.t
  unfold F_is_page m_is_page
  show (seqP _ _ [val h, val y, un]).bind finP = _
  by_cases hs : ∃ w r, y = .tup (.str w :: r)
  · obtain ⟨w, r, rfl⟩ := hs
    have hf := hy.2 _ rfl
    have b1 : notP (asB (fun ρ => ((consA (fun ρ => getV ρ 1) (fun _ => M.ret [])) ρ).bind F_begins_with_text)) [val h, val (.tup (.str w :: r)), un] = .ret false := by simp [notP, asB, consA, getV, hb, startsT]
    have b2 : asB (bin2 ltO (fun ρ => ((consA (fun ρ => getV ρ 1) (fun _ => M.ret [])) ρ).bind lenO) (fun _ => M.ret (.int 4))) [val h, val (.tup (.str w :: r)), un] = .ret (decide (((PV.str w :: r).length : Int) < 4)) := by simp [asB, bin2, consA, getV, lenO, ltO, numB]
    match r, hf, b1, b2 with
    | [], _, b1, b2 => exact seq_rt ((if_t ((c_or b1 b2).trans rfl)).trans (ret_y rfl))
    | [a], _, b1, b2 => exact seq_rt ((if_t ((c_or b1 b2).trans rfl)).trans (ret_y rfl))
    | [a, b], _, b1, b2 => exact seq_rt ((if_t ((c_or b1 b2).trans rfl)).trans (ret_y rfl))
    | a :: b :: c :: r, hf, b1, b2 =>
      have b2' := b2.trans (show _ = M.ret false by rw [decide_eq_false (by simp only [List.length_cons]; omega)])
      refine seq_nx (ρ' := [val h, val (.tup (.str w :: a :: b :: c :: r)), un]) (if_f ((c_or b1 b2').trans rfl)) ?_
      have fa := (hf a (by simp)).1
      have fb := (hf b (by simp)).1
      have fc := (hf c (by simp)).1
      have w1 := within_is (lo := 0) (hi := 999999) fa.1
      have w2 := within_is (lo := 0) (hi := dark) fb.1
      have t1 := c_not (ρ := [val h, val (.tup (.str w :: a :: b :: c :: r)), un]) (a := asB (fun ρ => ((consA (bin2 ixO (fun ρ => getV ρ 1) (fun _ => M.ret (.int 1))) (consA (fun _ => M.ret (.int 0)) (consA (fun _ => M.ret (.int 999999)) (fun _ => M.ret [])))) ρ).bind F_is_within)) (x := inW 0 999999 a) (by simp [asB, consA, bin2, getV, ixO, at1, M.ofO, w1])
      have t2 := c_not (ρ := [val h, val (.tup (.str w :: a :: b :: c :: r)), un]) (a := asB (fun ρ => ((consA (bin2 ixO (fun ρ => getV ρ 1) (fun _ => M.ret (.int 2))) (consA (fun _ => M.ret (.int 0)) (consA (bin2 ixO (fun ρ => getV ρ 0) (fun _ => M.ret (.int 2))) (fun _ => M.ret [])))) ρ).bind F_is_within)) (x := inW 0 dark b) (by
        have e2 : ixO (.tup (.str w :: a :: b :: c :: r)) (.int 2) = .ret b := by simp [ixO, at2, M.ofO]
        simp [asB, consA, bin2, getV, hd, e2, w2])
      have t := c_or t1 t2
      show _ = M.ret (PV.bl (inW 0 999999 a && inW 0 dark b && pageB ps w c r))
      cases g : (inW 0 999999 a && inW 0 dark b) with
      | false =>
        refine seq_rt ((if_t (t.trans ?_)).trans (ret_y rfl))
        rw [← Bool.not_and, g]; rfl
      | true =>
        refine seq_nx (ρ' := [val h, val (.tup (.str w :: a :: b :: c :: r)), un]) (if_f (t.trans (by rw [← Bool.not_and, g]; rfl))) ?_
        refine seq_nx (ρ' := [val h, val (.tup (.str w :: a :: b :: c :: r)), val (.str w)]) (by simp [setP, bin2, ixO, getV, at0, M.ofO]) ?_
        rw [Bool.true_and]
        unfold pageB
        cases c1 : w == "read" with
        | true =>
          refine seq_rt ((if_t ((c_eq rfl).trans (by rw [c1]))).trans (ret_y ?_))
          rw [if_pos rfl]
          match r, hf with
          | [], _ => exact v_and (y := false) (c_len rfl) (fun h => by simp at h)
          | [v], hf =>
            have h1 := name_is fc
            have h2 := num_is (hf v (by simp)).1.1
            exact v_and (y := isName c && isNum v) (c_len rfl) (fun _ => v_and (by simp [consA, bin2, ixO, getV, Ent.freeze, at3, M.ofO, h1]) (fun _ => by simp [consA, bin2, ixO, getV, Ent.freeze, at4, M.ofO, h2]))
          | v :: u :: r, _ => exact (v_and (y := false) (c_len rfl) (fun h => by simp at h)).trans (by simp [ruR])
        | false =>
          refine seq_nx (if_f ((c_eq rfl).trans (by rw [c1]))) ?_
          rw [if_neg (by simp)]
          cases c2 : w == "look" with
          | true =>
            refine seq_rt ((if_t ((c_eq rfl).trans (by rw [c2]))).trans (ret_y ?_))
            rw [if_pos rfl]
            match r, hf with
            | [], _ =>
              have h1 := slope_is U fc
              exact v_and (y := slIn ps c) (c_len rfl) (fun _ => by simp [consA, bin2, ixO, getV, Ent.freeze, at3, M.ofO, h1])
            | v :: r, _ => exact (v_and (y := false) (c_len rfl) (fun h => by simp at h)).trans (by simp [ruR])
          | false =>
            refine seq_nx (if_f ((c_eq rfl).trans (by rw [c2]))) ?_
            rw [if_neg (by simp)]
            cases c3 : w == "rule" with
            | true =>
              refine seq_rt ((if_t ((c_eq rfl).trans (by rw [c3]))).trans (ret_y ?_))
              rw [if_pos rfl]
              match r, hf with
              | [], _ => exact v_and (y := false) (c_len rfl) (fun h => by simp at h)
              | [v], hf =>
                have h1 := wayname_is U.1 fc
                have h2 := rules_is U.1 (hf v (by simp)).2.2
                exact v_and (y := ruR ps c [v]) (c_len rfl) (fun _ => v_and (y := rulesOk ps v) (by simp [consA, bin2, ixO, getV, Ent.freeze, at3, M.ofO, h1]) (fun _ => by simp [consA, bin2, ixO, getV, Ent.freeze, at4, M.ofO, h2]))
              | v :: u :: r, _ => exact (v_and (y := false) (c_len rfl) (fun h => by simp at h)).trans (by simp [ruR])
            | false =>
              refine seq_nx (if_f ((c_eq rfl).trans (by rw [c3]))) ?_
              rw [if_neg (by simp)]
              exact fin_y (ret_y rfl)
  · have e : startsT y = false := by
      unfold startsT
      split
      · exact (hs ⟨_, _, rfl⟩).elim
      · rfl
    rw [e] at hb
    have e2 : pageOk ps dark y = false := by
      unfold pageOk
      split
      · exact (hs ⟨_, _, rfl⟩).elim
      · rfl
    rw [e2]
    exact seq_rt ((if_t (by simp [orP, notP, asB, consA, getV, hb])).trans (ret_y rfl))
theorem lslope_in {h : PV} {ps : List (Str × List PV)} {dark : Int} (U : HillU h ps dark) (x : Str) : inO false (.str x) (.lst ((slopesOf ps).map PV.str)) = .ret (.bl (slIn ps (.str x))) := by
  rw [in_names]
  have : inN (slopesOf ps) x = slIn ps (.str x) := by
    unfold inN slopesOf slIn
    rw [List.any_map, List.any_filter]
    rfl
  rw [this]; simp
theorem v_one {a : PEnv → M PV} {ρ : PEnv} {x y : Bool} (h : a ρ = .ret (.bl x)) (e : x = y) : a ρ = .ret (.bl y) := e ▸ h
theorem lpage_is {h y : PV} {ps : List (Str × List PV)} {dark : Int} (U : HillU h ps dark) (hy : FineP y) : F_law_page_is [h, y] = .ret (.bl (pageOk ps dark y)) := by
  obtain ⟨_, hd⟩ := hill0 U.1
  unfold F_law_page_is m_law_page_is
  show (seqP _ _ [val h, val y, un, un]).bind finP = _
  by_cases hs : ∃ w a b c r, y = .tup (.str w :: a :: b :: c :: r)
  · obtain ⟨w, a, b, c, r, rfl⟩ := hs
    have hf := hy.2 _ rfl
    refine seq_nx (ρ' := [val h, val (.tup (.str w :: a :: b :: c :: r)), un, un]) (if_f ?_) ?_
    · have d4 : decide (((PV.str w :: a :: b :: c :: r).length : Int) < 4) = false := decide_eq_false (by simp only [List.length_cons]; omega)
      simp only [notP, orP, asB, bin2, consA, getV, lenO, ltO, numB, isiO, inst, tyN, ixO, at0, M.ofO, List.getElem?_cons_succ, List.getElem?_cons_zero, rZ, d4]
      rfl
    have fa := (hf a (by simp)).1
    have fb := (hf b (by simp)).1
    have fc := (hf c (by simp)).1
    have w1 := lwhole_is (lo := 0) (hi := 999999) fa.1
    have w2 := lwhole_is (lo := 0) (hi := dark) fb.1
    have t1 := c_not (ρ := [val h, val (.tup (.str w :: a :: b :: c :: r)), un, un]) (a := asB (fun ρ => ((consA (bin2 ixO (fun ρ => getV ρ 1) (fun _ => M.ret (.int 1))) (consA (fun _ => M.ret (.int 0)) (consA (fun _ => M.ret (.int 999999)) (fun _ => M.ret [])))) ρ).bind F_law_whole_is)) (x := inW 0 999999 a) (by simp [asB, consA, bin2, getV, ixO, at1, M.ofO, w1])
    have t2 := c_not (ρ := [val h, val (.tup (.str w :: a :: b :: c :: r)), un, un]) (a := asB (fun ρ => ((consA (bin2 ixO (fun ρ => getV ρ 1) (fun _ => M.ret (.int 2))) (consA (fun _ => M.ret (.int 0)) (consA (bin2 ixO (fun ρ => getV ρ 0) (fun _ => M.ret (.int 2))) (fun _ => M.ret [])))) ρ).bind F_law_whole_is)) (x := inW 0 dark b) (by
      have e2 : ixO (.tup (.str w :: a :: b :: c :: r)) (.int 2) = .ret b := by simp [ixO, at2, M.ofO]
      simp [asB, consA, bin2, getV, hd, e2, w2])
    have t := c_or t1 t2
    show _ = M.ret (PV.bl (inW 0 999999 a && inW 0 dark b && pageB ps w c r))
    cases g : (inW 0 999999 a && inW 0 dark b) with
    | false =>
      refine seq_rt ((if_t (t.trans ?_)).trans (ret_y rfl))
      rw [← Bool.not_and, g]; rfl
    | true =>
      refine seq_nx (ρ' := [val h, val (.tup (.str w :: a :: b :: c :: r)), un, un]) (if_f (t.trans (by rw [← Bool.not_and, g]; rfl))) ?_
      refine seq_nx (ρ' := [val h, val (.tup (.str w :: a :: b :: c :: r)), val (.str w), val (.int (r.length + 4 : Nat))]) (by simp [parP, consA, lenO, bin2, ixO, getV, at0, M.ofO]; omega) ?_
      rw [Bool.true_and]
      unfold pageB
      cases c2 : w == "look" with
      | true =>
        have c1 : (w == "read") = false := by rw [eq_of_beq c2]; decide
        rw [c1, if_neg (by simp), if_pos rfl]
        refine seq_rt ((if_t ((c_eq rfl).trans (by rw [c2]))).trans (ret_y ?_))
        match r, hf with
        | [], _ =>
          refine v_and (y := slIn ps c) (c_n rfl) (fun _ => ?_)
          have e3 : ixO (.tup [.str w, a, b, c]) (.int 3) = .ret c := by simp [ixO, at3, M.ofO]
          have es := slopes_is U
          cases c with
          | bag => exact absurd rfl fc.1
          | str x =>
            have ei := lslope_in U x
            refine v_one (v_and (x := true) (y := slIn ps (.str x)) ?_ (fun _ => ?_)) rfl
            · simp only [bin2, getV, List.map, Ent.freeze, List.getElem?_cons_succ, List.getElem?_cons_zero, rZ, e3]; rfl
            · simp only [bin2, consA, getV, List.map, Ent.freeze, List.getElem?_cons_succ, List.getElem?_cons_zero, rZ, e3, es, ei]
          | _ =>
            refine v_one (v_and (x := false) (y := false) ?_ (fun h => by cases h)) rfl
            simp only [bin2, getV, List.map, Ent.freeze, List.getElem?_cons_succ, List.getElem?_cons_zero, rZ, e3]; rfl
        | v :: r, _ => exact (v_and (y := false) (c_n rfl) (fun h => by simp at h)).trans (by simp [ruR])
      | false =>
        refine seq_nx (if_f ((c_eq rfl).trans (by rw [c2]))) ?_
        cases c1 : w == "read" with
        | true =>
          refine seq_rt ((if_t ((c_eq rfl).trans (by rw [c1]))).trans (ret_y ?_))
          rw [if_pos rfl]
          match r, hf with
          | [], _ => exact v_and (y := false) (c_n rfl) (fun h => by simp at h)
          | [v], hf =>
            have h1 := lname_is fc
            have h2 := lnum_is (hf v (by simp)).1.1
            exact v_and (y := isName c && isNum v) (c_n rfl) (fun _ => v_and (by simp [consA, bin2, ixO, getV, Ent.freeze, at3, M.ofO, h1]) (fun _ => by simp [consA, bin2, ixO, getV, Ent.freeze, at4, M.ofO, h2]))
          | v :: u :: r, _ => exact (v_and (y := false) (c_n rfl) (fun h => by simp at h)).trans (by simp [ruR])
        | false =>
          refine seq_nx (if_f ((c_eq rfl).trans (by rw [c1]))) ?_
          rw [if_neg (by simp), if_neg (by simp)]
          refine fin_y (ret_y ?_)
          refine v_one (v_and (x := w == "rule") (y := ruR ps c r) (by simp [bin2, getV, Ent.freeze, eqS]) fun _ => ?_) (by cases w == "rule" <;> rfl)
          match r, hf with
          | [], _ => exact v_and (y := false) (c_n rfl) (fun h => by simp at h)
          | [v], hf =>
            have h1 := lofway_is U.1 fc
            have h2 := lrules_is U.1 (hf v (by simp)).2.2
            exact v_and (y := ruR ps c [v]) (c_n rfl) (fun _ => v_and (y := rulesOk ps v) (by simp [consA, bin2, ixO, getV, Ent.freeze, at3, M.ofO, h1]) (fun _ => by simp [consA, bin2, ixO, getV, Ent.freeze, at4, M.ofO, h2]))
          | v :: u :: r, _ => exact (v_and (y := false) (c_n rfl) (fun h => by simp at h)).trans (by simp [ruR])
  · have e2 : pageOk ps dark y = false := by
      unfold pageOk
      split
      · exact (hs ⟨_, _, _, _, _, rfl⟩).elim
      · rfl
    rw [e2]
    refine seq_rt ((if_t ?_).trans (ret_y rfl))
    cases y with
    | bag => exact absurd rfl hy.1
    | tup l =>
      match l, hy, hs with
      | [], _, _ => rfl
      | [_], _, _ => rfl
      | [_, _], _, _ => rfl
      | [_, _, _], _, _ => rfl
      | w :: a :: b :: c :: r, hy, hs =>
        have d4 : decide (((w :: a :: b :: c :: r).length : Int) < 4) = false := decide_eq_false (by simp only [List.length_cons]; omega)
        cases w with
        | bag => exact absurd rfl (hy.2 _ rfl .bag (by simp)).1.1
        | str w => exact (hs ⟨_, _, _, _, _, rfl⟩).elim
        | _ =>
          simp only [notP, orP, asB, bin2, consA, getV, lenO, ltO, numB, isiO, inst, tyN, ixO, at0, M.ofO, List.getElem?_cons_succ, List.getElem?_cons_zero, rZ, d4]
          rfl
    | _ => simp [notP, orP, asB, getV, isiO, inst, tyN, M.ofO]
theorem RuleT.fine {y : PV} (h : RuleT y) : FineT y := by
  obtain ⟨w, r, rfl, hw, hr, hf⟩ := h
  refine ⟨fun h => (by cases h), fun l e => ?_⟩
  cases e
  intro z hz
  rcases List.mem_cons.mp hz with rfl | hz
  · exact fine_str _ (by omega)
  · exact (hf z hz).1
def RulesT (y : PV) : Prop := ∃ l : List PV, y = .tup l ∧ l.length ≤ 6 ∧ ∀ z ∈ l, RuleT z
theorem gen_rules {h : PV} {ps : List (Str × List PV)} {dark : Int} (H : HillOk h ps dark) : Gen (F_law_rules [.bag, h]) 61 RulesT := by
  unfold F_law_rules m_law_rules
  show Gen ((retP _ [val .bag, val h]).bind finP) 61 _
  have e8 : ∀ a b c d e f g i : PV, mkLst [a, b, c, d, e, f, g, i] = .ret [a, b, c, d, e, f, g, i] := by intros; simp [mkLst]
  simp only [retP, List.map, Ent.freeze, consA, bin2, lstV, mkLC, gV0, gVs, rZ, e8, F_law_draw, M.bZ]
  refine Gen.le (Gen.bind (Gen.draw (by omega) (by omega)) (d := 60) ?_) (by decide)
  rintro _ ⟨d, rfl, d0, d1⟩
  obtain ⟨y, hy, e⟩ := atI_in (l := [PV.int 1, PV.int 2, PV.int 0, PV.int 3, PV.int 6, PV.int 1, PV.int 2, PV.int 4]) d0 d1
  obtain ⟨k, rfl, k0, k1⟩ : ∃ k : Int, y = .int k ∧ 0 ≤ k ∧ k ≤ 6 := by
    simp only [List.mem_cons, List.not_mem_nil, or_false] at hy
    rcases hy with rfl | rfl | rfl | rfl | rfl | rfl | rfl | rfl <;> exact ⟨_, rfl, by decide, by decide⟩
  have hlen : (intsP 0 k.toNat).length = k.toNat := by simp [intsP]
  simp only [ixO, e, M.ofO, rZ, rng1O, if_pos (by omega : -1000000 ≤ k ∧ k ≤ 100000), hlen, if_pos (by omega : k.toNat ≤ 100000)]
  refine Gen.le (Gen.bind (Gen.lc (ρ := [un, val PV.bag, val h]) (c := 10) (Pr := RuleT) _ _ (fun _ => rfl) (fun y hy => ?_)) (d := 0) ?_) (by rw [hlen]; omega)
  · simp only [List.set_cons_zero, gV0, gVs, rZ]
    exact gen_rule H
  · rintro zs ⟨z1, z2⟩
    exact Gen.eq (y := .tup zs) (by simp only [rZ, tupO]; rfl) ⟨zs, rfl, by rw [z1, hlen]; omega, z2⟩
theorem fcut (m : List PV) {Pr : PV → Prop} (lo hi : Option Int) (h : ∀ z ∈ m, Pr z) : ∀ z ∈ cutP m lo hi, Pr z := fun z hz => h z (List.mem_of_mem_drop (List.mem_of_mem_take hz))
theorem lcut (m : List PV) (lo hi : Option Int) : (cutP m lo hi).length ≤ m.length := by unfold cutP; rw [List.length_take, List.length_drop]; omega
theorem fapp {m m' : List PV} {Pr : PV → Prop} (h : ∀ z ∈ m, Pr z) (h' : ∀ z ∈ m', Pr z) : ∀ z ∈ m ++ m', Pr z := fun z hz => by
  rcases List.mem_append.mp hz with w | w
  · exact h z w
  · exact h' z w
theorem fone {a : PV} {Pr : PV → Prop} (h : Pr a) : ∀ z ∈ [a], Pr z := fun z hz => by rw [List.mem_singleton.mp hz]; exact h
theorem ftup {m : List PV} (h : ∀ z ∈ m, Fine z) : FineT (.tup m) := ⟨fun e => (by cases e), fun m' e => (by cases e; exact h)⟩
theorem fine_tup (l : List PV) : Fine (.tup l) := ⟨fun h => (by cases h), fun x h => (by cases h)⟩
theorem addT {a b : List PV} (h : a.length + b.length ≤ 100000) : addO (.tup a) (.tup b) = .ret (.tup (a ++ b)) := by
  unfold addO; dsimp only; rw [if_pos h]
theorem slT (l : List PV) (lo hi : Option Int) : slE (.tup l) lo hi = .ret (.tup (cutP l lo hi)) := rfl
theorem ftt {m : List PV} (h : ∀ z ∈ m, FineT z) : FineTT (.tup m) := ⟨fun e => (by cases e), fun m' e => (by cases e; exact h)⟩
theorem RulesT.fine {y : PV} (h : RulesT y) : FineTT y := by
  obtain ⟨l, rfl, _, hf⟩ := h
  exact ftt fun z hz => (hf z hz).fine
theorem fe_int (i : Int) : FineE (.int i) := ⟨fine_int i, ⟨fun h => (by cases h), fun l h => (by cases h)⟩, ⟨fun h => (by cases h), fun l h => (by cases h)⟩⟩
theorem fe_str (x : Str) (h : x.length ≤ 100000) : FineE (.str x) := ⟨fine_str x h, ⟨fun h => (by cases h), fun l h => (by cases h)⟩, ⟨fun h => (by cases h), fun l h => (by cases h)⟩⟩
theorem fe_tup {l : List PV} (h : ∀ z ∈ l, Fine z ∧ FineT z) : FineE (.tup l) := ⟨fine_tup l, ftup fun z hz => (h z hz).1, ftt fun z hz => (h z hz).2⟩
theorem fp_tup {l : List PV} (h : ∀ z ∈ l, FineE z) : FineP (.tup l) := ⟨fun h => (by cases h), fun m e => (by cases e; exact h)⟩
theorem RulesT.fe {y : PV} (h : RulesT y) : FineE y := by
  have h' := h.fine
  obtain ⟨l, rfl, _, hf⟩ := h
  exact fe_tup fun z hz => ⟨by obtain ⟨w, r, rfl, _⟩ := hf z hz; exact fine_tup _, (hf z hz).fine⟩
theorem fp_str (x : Str) : FineP (.str x) := ⟨fun h => (by cases h), fun l h => (by cases h)⟩
theorem fp_int (x : Int) : FineP (.int x) := ⟨fun h => (by cases h), fun l h => (by cases h)⟩
def FineQ (y : PV) : Prop := FineE y ∧ FineP y
theorem fq_str (x : Str) (h : x.length ≤ 100000) : FineQ (.str x) := ⟨fe_str x h, fp_str x⟩
theorem fq_int (x : Int) : FineQ (.int x) := ⟨fe_int x, fp_int x⟩
theorem FineX.t {y : PV} (h : FineX y) : FineT y := ⟨h.1.1, fun l e => absurd e (h.2 l)⟩
theorem RulesT.fq {y : PV} (h : RulesT y) : FineQ y := ⟨h.fe, by
  obtain ⟨l, rfl, _, hf⟩ := h
  refine fp_tup fun z hz => ?_
  obtain ⟨w, r, rfl, hw, _, hx⟩ := hf z hz
  refine fe_tup fun u hu => ?_
  rcases List.mem_cons.mp hu with rfl | hu
  · exact ⟨fine_str _ (by omega), (fe_str _ (by omega)).2.1⟩
  · exact ⟨(hx u hu).1, (hx u hu).t⟩⟩
def PageT (n : Int) (y : PV) : Prop := ∃ (w : Str) (m : Int) (r : List PV), y = .tup (.str w :: .int n :: .int m :: r) ∧ w.length ≤ 1000 ∧ 1 ≤ r.length ∧ r.length ≤ 2 ∧ (∀ z ∈ r, FineQ z) ∧ 0 ≤ m ∧ m ≤ 1000000
theorem PageT.all {n : Int} {y : PV} (h : PageT n y) : ∃ l, y = .tup l ∧ 4 ≤ l.length ∧ l.length ≤ 5 ∧ (∀ z ∈ l, FineQ z) ∧ ∃ w r, l = .str w :: r := by
  obtain ⟨w, m, r, rfl, hw, r1, r2, hr, _⟩ := h
  refine ⟨_, rfl, by simp only [List.length_cons]; omega, by simp only [List.length_cons]; omega, fun z hz => ?_, w, _, rfl⟩
  simp only [List.mem_cons] at hz
  rcases hz with rfl | rfl | rfl | hz
  · exact fq_str _ (by omega)
  · exact fq_int _
  · exact fq_int _
  · exact hr z hz
theorem ok_len {x : Str} (h : nameOk x = true) : x.length ≤ 8 := by
  unfold nameOk at h
  rw [Bool.and_eq_true] at h
  exact (of_decide_eq_true h.1).2
theorem gen_anyT {ps : List (Str × List PV)} (hne : ps ≠ []) (hl : ps.length ≤ 100) : Gen (F_law_any [.bag, .tup (ps.map fun p => .tup (.str p.1 :: p.2))]) 1 (fun y => ∃ p ∈ ps, y = .tup (.str p.1 :: p.2)) := by
  unfold F_law_any m_law_any
  have hlen : lenO [.tup (ps.map fun p => PV.tup (.str p.1 :: p.2))] = .ret (.int ps.length) := by simp [lenO]
  show Gen ((retP _ [val .bag, val (.tup (ps.map fun p => .tup (.str p.1 :: p.2)))]).bind finP) 1 _
  simp only [retP, List.map, Ent.freeze, consA, bin2, gV0, gVs, rZ, F_law_draw, M.bZ]
  simp only [hlen, rZ]
  have hpos : 0 < ps.length := List.length_pos_iff.mpr hne
  refine Gen.le (Gen.bind (Gen.draw (by omega) (by omega)) (d := 0) ?_) (by decide)
  rintro _ ⟨d, rfl, d0, d1⟩
  obtain ⟨y, hy, e⟩ := atI_in (l := ps.map fun p => PV.tup (.str p.1 :: p.2)) d0 (by rw [List.length_map]; exact d1)
  obtain ⟨p, hp, rfl⟩ := List.mem_map.mp hy
  exact Gen.eq (y := .tup (.str p.1 :: p.2)) (by simp only [ixO, e, M.ofO, rZ]; rfl) ⟨p, hp, rfl⟩
theorem mkT4 (a b c d : PV) : mkTup [a, b, c, d] = .ret (.tup [a, b, c, d]) := by simp [mkTup]
theorem mkT5 (a b c d e : PV) : mkTup [a, b, c, d, e] = .ret (.tup [a, b, c, d, e]) := by simp [mkTup]
theorem mkL0 : mkLst [] = .ret [] := by simp [mkLst]
theorem mkT0 : mkTup [] = .ret (.tup []) := by simp [mkTup]
theorem neL (l : List PV) : eqO true (.lst l) (.lst []) = .ret (.bl (!l.isEmpty)) := by cases l <;> rfl
theorem gen_page {h : PV} {ps : List (Str × List PV)} {dark : Int} (U : HillU h ps dark) (n : Int) : Gen (F_law_page [.bag, h, .int n]) 70 (PageT n) := by
  have H := U.1
  obtain ⟨h0, h2⟩ := hill0 H
  have hs := slopes_is U
  obtain ⟨_, _, hne, hpl, hpo, k0, k1⟩ := U.1
  unfold F_law_page m_law_page
  show Gen ((seqP _ _ [val .bag, val h, val (.int n), un, un, un, un]).bind finP) 70 _
  refine Gen.le (gseqF (c := 3) (d := 67) (I := fun ρ => ∃ w m : Int, 0 ≤ m ∧ m ≤ 1000000 ∧ ρ = [val .bag, val h, val (.int n), val (.int w), val (.int m), val (.lst ((slopesOf ps).map PV.str)), un]) ?_ ?_) (by decide)
  · simp only [par3P, consA, gV0, gVs, rZ, F_law_draw, M.bZ]
    refine Gen.le (Gen.bind (Gen.draw (by omega) (by omega)) (d := 2) ?_) (by decide)
    rintro _ ⟨w, rfl, w0, w1⟩
    refine Gen.le (Gen.bind (gen_moment H) (d := 0) ?_) (by decide)
    rintro _ ⟨m, rfl, m0, m1⟩
    exact Gen.eq (y := .nx _) (by simp only [hs, rZ]; rfl) ⟨_, rfl, w, m, m0, m1, rfl⟩
  rintro _ ⟨w, m, m0, m1, rfl⟩
  have hc : ∀ k : Int, asB (bin2 (eqO false) (fun ρ => getV ρ 3) (fun _ => M.ret (.int k))) [val .bag, val h, val (.int n), val (.int w), val (.int m), val (.lst ((slopesOf ps).map PV.str)), un] = .ret (w == k) := by intro k; simp [asB, bin2, getV, eqI]
  have hd : asB (bin2 (eqO true) (fun ρ => getV ρ 5) (lstV (fun ρ => ((fun _ => M.ret []) ρ).bind mkLst))) [val .bag, val h, val (.int n), val (.int w), val (.int m), val (.lst ((slopesOf ps).map PV.str)), un] = .ret (!(slopesOf ps).isEmpty) := by
    simp only [asB, bin2, lstV, gV0, gVs, rZ, mkL0, neL]
    simp
  have hand : ∀ {a b : PEnv → M Bool} {ρ : PEnv} {x y : Bool}, a ρ = .ret x → b ρ = .ret y → andP a b ρ = .ret (x && y) := by
    intro a b ρ x y ha hb
    unfold andP; rw [ha]; cases x <;> simp [hb]
  have hcc := hand (hc 0) hd
  cases g : (w == 0 && !(slopesOf ps).isEmpty) with
  | true =>
    rw [g] at hcc
    rw [Bool.and_eq_true] at g
    have hpos : 0 < ((slopesOf ps).map PV.str).length := by
      rw [List.length_map]
      exact List.length_pos_iff.mpr (fun e => by rw [e] at g; simp at g)
    have hle : ((slopesOf ps).map PV.str).length ≤ 100000 := by
      unfold slopesOf
      have := List.length_filter_le (fun p : Str × List PV => isSl p.2) ps
      simp only [List.length_map]
      omega
    unfold seqP
    rw [if_t hcc]
    simp only [retP, List.map, Ent.freeze, consA, gV0, gVs, rZ, M.bZ]
    refine Gen.le (Gen.bind (gen_any hpos hle) (d := 0) ?_) (by decide)
    intro y hy
    obtain ⟨z, hz, rfl⟩ := List.mem_map.mp hy
    refine Gen.eq (y := .tup [.str "look", .int n, .int m, .str z]) (by simp only [rZ, mkT4]; rfl) ⟨_, m, [.str z], rfl, by decide, by simp, by simp, fone (fq_str _ ?_), m0, m1⟩
    unfold slopesOf at hz
    obtain ⟨p, hp, rfl⟩ := List.mem_map.mp hz
    have := ok_len (hpo p (List.mem_filter.mp hp).1)
    omega
  | false =>
    rw [g] at hcc
    refine Gen.le (gseqF (c := 0) (d := 67) (I := fun ρ => ρ = [val .bag, val h, val (.int n), val (.int w), val (.int m), val (.lst ((slopesOf ps).map PV.str)), un]) (gnx (if_f hcc) rfl) ?_) (by decide)
    rintro _ rfl
    by_cases c1 : w = 1
    · unfold seqP
      rw [if_t (by rw [hc 1, c1]; rfl)]
      simp only [retP, List.map, Ent.freeze, consA, bin2, gV0, gVs, rZ, h0, M.bZ]
      refine Gen.le (Gen.bind (gen_anyT hne hpl) (d := 61) ?_) (by decide)
      rintro _ ⟨p, hp, rfl⟩
      simp only [ixO, at0, M.ofO, rZ]
      refine Gen.le (Gen.bind (gen_rules H) (d := 0) ?_) (by decide)
      intro r hr
      refine Gen.eq (y := .tup [.str "rule", .int n, .int m, .str p.1, r]) (by simp only [rZ, mkT5]; rfl) ⟨_, m, [.str p.1, r], rfl, by decide, by simp, by simp, fun z hz => ?_, m0, m1⟩
      simp only [List.mem_cons, List.not_mem_nil, or_false] at hz
      rcases hz with rfl | rfl
      · have := ok_len (hpo p hp)
        exact fq_str _ (by omega)
      · exact hr.fq
    · have c1' : (w == 1) = false := by simpa using c1
      refine Gen.le (gseqF (c := 0) (d := 67) (I := fun ρ => ρ = [val .bag, val h, val (.int n), val (.int w), val (.int m), val (.lst ((slopesOf ps).map PV.str)), un]) (gnx (if_f (by rw [hc 1, c1'])) rfl) ?_) (by decide)
      rintro _ rfl
      have ep : powO (.int 10) (.int 60) = .ret (.int (10 ^ 60)) := by
        unfold powO numO
        dsimp only
        rw [if_pos (by decide +kernel)]
        rfl
      have es1 : subO (.int (10 ^ 60)) (.int 1) = .ret (.int (10 ^ 60 - 1)) := rfl
      have es2 : subO (.int 1) (.int (10 ^ 60)) = .ret (.int (1 - 10 ^ 60)) := rfl
      refine Gen.le (gseqF (c := 2) (d := 1) (I := fun ρ => ∃ v : Int, ρ = [val .bag, val h, val (.int n), val (.int w), val (.int m), val (.lst ((slopesOf ps).map PV.str)), val (.int v)]) ?_ ?_) (by decide)
      · simp only [setP, bin2, lstV, consA, gV0, gVs, rZ, F_law_draw, M.bZ]
        refine Gen.le (Gen.bind (Gen.draw (by omega) (by omega)) (d := 1) ?_) (by decide)
        rintro _ ⟨d, rfl, d0, d1⟩
        have es3 : subO (.int d) (.int 3) = .ret (.int (d - 3)) := rfl
        simp only [rZ, ep, es1, es2, es3, mkL4]
        refine Gen.le (Gen.bind (Gen.draw (by omega) (by omega)) (d := 0) ?_) (by decide)
        rintro _ ⟨g, rfl, g0, g1⟩
        obtain ⟨y, hy, e⟩ := atI_in (l := [PV.int (d - 3), PV.int (10 ^ 60 - 1), PV.int (1 - 10 ^ 60), PV.int 0]) g0 g1
        obtain ⟨v, rfl⟩ : ∃ v : Int, y = .int v := by
          simp only [List.mem_cons, List.not_mem_nil, or_false] at hy
          rcases hy with rfl | rfl | rfl | rfl <;> exact ⟨_, rfl⟩
        exact Gen.eq (y := .nx _) (by simp only [ixO, e, M.ofO, rZ]; rfl) ⟨_, rfl, v, rfl⟩
      rintro _ ⟨v, rfl⟩
      simp only [retP, List.map, Ent.freeze, consA, lstV, gV0, gVs, rZ, mkL4, M.bZ]
      refine Gen.le (Gen.bind (gen_any (by simp) (by simp)) (d := 0) ?_) (by decide)
      intro y hy
      refine Gen.eq (y := .tup [.str "read", .int n, .int m, y, .int v]) (by simp only [rZ, mkT5]; rfl) ⟨_, m, [y, .int v], rfl, by decide, by simp, by simp, fun z hz => ?_, m0, m1⟩
      simp only [List.mem_cons, List.not_mem_nil, or_false] at hz hy
      rcases hz with rfl | rfl
      · rcases hy with rfl | rfl | rfl | rfl <;> exact fq_str _ (by decide)
      · exact fq_int _
def PagesT (l : List PV) : Prop := ∀ z ∈ l, ∃ n, (0 ≤ n ∧ n < 1000000) ∧ PageT n z
theorem in_ints (x : Int) (ns : List Int) : ∃ b, inO false (.int x) (.lst (ns.map PV.int)) = .ret (.bl b) := by
  have hf : (ns.map PV.int).all flatP = true := by
    rw [List.all_eq_true]
    intro y hy
    obtain ⟨z, _, rfl⟩ := List.mem_map.mp hy
    rfl
  refine ⟨memF (.int x) (ns.map PV.int), ?_⟩
  unfold inO
  dsimp only
  rw [hf]
  simp [flatP, toV, flatV]
theorem gen_pages {h : PV} {ps : List (Str × List PV)} {dark : Int} (U : HillU h ps dark) {k : Int} (k0 : 0 ≤ k) (k1 : k ≤ 30) : Gen (F_law_pages [.bag, h, .int k]) (k.toNat * 72) (fun y => ∃ l, y = .lst l ∧ l.length = k.toNat ∧ PagesT l) := by
  unfold F_law_pages m_law_pages
  show Gen ((seqP _ _ [val .bag, val h, val (.int k), un, un, un, un, un]).bind finP) _ _
  refine Gen.le (gseqF (c := 0) (d := k.toNat * 72) (I := fun ρ => ρ = [val .bag, val h, val (.int k), Ent.own [], Ent.own [], un, un, un]) (gnx (by simp [parO0, mkLst]) rfl) ?_) (by omega)
  rintro _ rfl
  have hint : (intsP 0 k.toNat).length = k.toNat := by simp [intsP]
  have er : rng1O [.int k] = .ret (intsP 0 k.toNat) := by simp only [rng1O, if_pos (by omega : -1000000 ≤ k ∧ k ≤ 100000)]
  refine Gen.le (gseqF (c := k.toNat * 72) (d := 0) (I := fun ρ => ∃ (ns : List Int) (l : List PV) (e5 e6 e7 : Ent), l.length = k.toNat ∧ PagesT l ∧ ρ = [val .bag, val h, val (.int k), Ent.own (ns.map PV.int), Ent.own l, e5, e6, e7]) ?_ ?_) (by omega)
  · simp only [mkFor, consA, gV0, gVs, rZ, er]
    refine Gen.mono (forN (k := 5) (c := 72) (Iv := fun i ρ => ∃ (ns : List Int) (l : List PV) (e5 e6 e7 : Ent), ns.length = i ∧ l.length = i ∧ PagesT l ∧ ρ = [val .bag, val h, val (.int k), Ent.own (ns.map PV.int), Ent.own l, e5, e6, e7]) (intsP 0 k.toNat) 0 _ ⟨[], [], _, _, _, rfl, rfl, fun z hz => by simp at hz, rfl⟩ ?_) (by rw [hint]; exact Nat.le_refl _) ?_
    rotate_left
    · rintro f ⟨ρ', rfl, ns, l, e5, e6, e7, _, hl, hp, rfl⟩
      rw [hint, Nat.zero_add] at hl
      exact ⟨_, rfl, ns, l, e5, e6, e7, hl, hp, rfl⟩
    · rintro y hy j hj _ ⟨ns, l, e5, e6, e7, hn, hl, hp, rfl⟩
      rw [hint] at hj
      obtain ⟨q, hq, rfl⟩ := List.mem_map.mp hy
      have hq := List.mem_range.mp hq
      show Gen (seqP _ _ [val .bag, val h, val (.int k), Ent.own (ns.map PV.int), Ent.own l, val (.int (0 + (q : Nat))), e6, e7]) 72 _
      refine Gen.le (gseq (c := 2) (d := 70) (I := fun ρ => ∃ n : Int, (0 ≤ n ∧ n < 1000000) ∧ ρ = [val .bag, val h, val (.int k), Ent.own (ns.map PV.int), Ent.own l, val (.int (0 + (q : Nat))), val (.int n), e7]) ?_ ?_) (by decide)
      · have s1 : subO (.int 999999) (.int (0 + (q : Nat))) = .ret (.int (999999 - (0 + (q : Nat)))) := rfl
        have s2 : subO (.int 60) (.int (0 + (q : Nat))) = .ret (.int (60 - (0 + (q : Nat)))) := rfl
        simp only [setP, bin2, lstV, consA, gV0, gVs, rZ, s1, s2, F_law_draw, M.bZ]
        refine Gen.le (Gen.bind (Gen.draw (by omega) (by omega)) (d := 1) ?_) (by decide)
        rintro _ ⟨d, rfl, d0, d1⟩
        simp only [rZ, mkL4]
        refine Gen.le (Gen.bind (gen_any (by simp) (by simp)) (d := 0) ?_) (by decide)
        intro y hy
        obtain ⟨n, rfl, hnn⟩ : ∃ n : Int, y = .int n ∧ 0 ≤ n ∧ n < 1000000 := by
          simp only [List.mem_cons, List.not_mem_nil, or_false] at hy
          rcases hy with rfl | rfl | rfl | rfl <;> exact ⟨_, rfl, by omega, by omega⟩
        exact Gen.eq (y := .nx _) rfl ⟨_, rfl, n, hnn, rfl⟩
      rintro _ ⟨n, hnn, rfl⟩
      refine Gen.le (gseq (c := 0) (d := 70) (I := fun ρ => ∃ (n : Int) (e7 : Ent), (0 ≤ n ∧ n < 1000000) ∧ ρ = [val .bag, val h, val (.int k), Ent.own (ns.map PV.int), Ent.own l, val (.int (0 + (q : Nat))), val (.int n), e7]) ?_ ?_) (by decide)
      · simp only [mkFor, consA, gV0, gVs, rZ, er]
        refine Gen.le (Gen.for_ (c := 0) (Iv := fun ρ => ∃ (n : Int) (e7 : Ent), (0 ≤ n ∧ n < 1000000) ∧ ρ = [val .bag, val h, val (.int k), Ent.own (ns.map PV.int), Ent.own l, val (.int (0 + (q : Nat))), val (.int n), e7]) _ _ ⟨n, e7, hnn, rfl⟩ ?_) (by simp)
        rintro t ht _ ⟨n, e7, hnn, rfl⟩
        obtain ⟨b, hb⟩ := in_ints n ns
        have ea : addO (.int n) (.int 1) = .ret (.int (n + 1)) := rfl
        have em : modO (.int (n + 1)) (.int 1000000) = .ret (.int ((n + 1) % 1000000)) := by unfold modO numO; simp
        show Gen (ifP _ _ _ [val .bag, val h, val (.int k), Ent.own (ns.map PV.int), Ent.own l, val (.int (0 + (q : Nat))), val (.int n), val t]) 0 _
        cases b with
        | false => exact gnx (I := fun ρ => ∃ (n : Int) (e7 : Ent), (0 ≤ n ∧ n < 1000000) ∧ ρ = _) (if_f (by simp only [asB, bin2, gV0, gVs, gB0o, gBs, rZ, hb])) ⟨n, _, hnn, rfl⟩
        | true =>
          refine gnx (I := fun ρ => ∃ (n : Int) (e7 : Ent), (0 ≤ n ∧ n < 1000000) ∧ ρ = _) ((if_t (by simp only [asB, bin2, gV0, gVs, gB0o, gBs, rZ, hb])).trans ?_) ⟨(n + 1) % 1000000, val t, ⟨by omega, by omega⟩, rfl⟩
          simp only [setP, bin2, gV0, gVs, rZ, ea, em]
          rfl
      rintro _ ⟨n, e7, hnn, rfl⟩
      refine Gen.le (gseq (c := 0) (d := 70) (I := fun ρ => ρ = [val .bag, val h, val (.int k), Ent.own ((ns ++ [n]).map PV.int), Ent.own l, val (.int (0 + (q : Nat))), val (.int n), e7]) (gnx (by simp [appP, gV0, gVs, hn, (by omega : j < 100000)]) rfl) ?_) (by decide)
      rintro _ rfl
      have hlt : l.length < 100000 := by omega
      simp only [appP, List.getElem?_cons_succ, List.getElem?_cons_zero, consA, gV0, gVs, rZ, M.bZ]
      refine Gen.le (Gen.bind (gen_page U n) (d := 0) ?_) (by decide)
      intro z hz
      exact Gen.eq (y := .nx _) (by rw [if_pos hlt]; rfl) ⟨_, rfl, ns ++ [n], l ++ [z], _, _, _, by simp [hn], by simp [hl], fapp hp (fone ⟨n, hnn, hz⟩), rfl⟩
  · rintro _ ⟨ns, l, e5, e6, e7, hl, hp, rfl⟩
    exact Gen.eq (fin_y (ret_y rfl)) ⟨l, rfl, hl, hp⟩
theorem rk_at {l : List PV} {k : Nat} (hk : k < l.length) : rk (fun i => kPV (l.getD i .non)) k = (l.map rPV)[k]'(by simpa using hk) := by
  rw [List.getElem_map]
  unfold rk rPV
  dsimp only
  rw [List.getD_eq_getElem?_getD, List.getElem?_eq_getElem hk]
  rfl
theorem ordK_perm (l : List PV) : (ordK l).Perm l := by
  unfold ordK
  have h := (Array.perm_iff_toList_perm.mp (ordN_perm (rk fun i => kPV (l.getD i .non)) l.length)).map fun i => l.getD i .non
  have e : (List.toArray (List.range l.length)).toList.map (fun i => l.getD i .non) = l := by
    apply List.ext_getElem
    · simp
    · intro i h1 h2
      simp [List.getD_eq_getElem?_getD, List.getElem?_eq_getElem h2]
  rw [e] at h
  exact h
theorem ordK_iso {l : List PV} (nd : (l.map rPV).Nodup) : ordK l = isoK l := by
  unfold ordK ordN
  by_cases c : l.length < 2
  · rw [if_pos c]
    match l, c with
    | [], _ => rfl
    | [x], _ => rfl
  · rw [if_neg c]
    obtain ⟨p, ep, hz, hp, hu⟩ := sort_is (r := rk fun i => kPV (l.getD i .non)) (n := l.length) (by omega) (fun i j hi hj ne z => by
      rw [rk_at hi, rk_at hj] at z
      have pw := List.pairwise_iff_getElem.mp nd
      rcases Nat.lt_or_gt_of_ne ne with c | c
      · exact pw i j (by simpa using hi) (by simpa using hj) c z
      · exact pw j i (by simpa using hj) (by simpa using hi) c z.symm)
    rw [ep]
    exact (order_is nd (fun i _ => rfl) hz hp hu).symm
def Pl : Nat → PV → Prop
  | 0, _ => False
  | k + 1, y => (∃ i, y = .int i) ∨ (∃ x, y = .str x) ∨ ∃ l, y = .tup l ∧ ∀ z ∈ l, Pl k z
theorem Pl.up : ∀ {k : Nat} {y : PV}, Pl k y → Pl (k + 1) y
  | 0, _, h => h.elim
  | k + 1, y, h => by
    rcases h with h | h | ⟨l, e, h⟩
    · exact .inl h
    · exact .inr (.inl h)
    · exact .inr (.inr ⟨l, e, fun z hz => (h z hz).up⟩)
theorem eqs_pl {f : PV → PV → Option Bool} : ∀ (a b : List PV), (∀ y ∈ a, ∀ z ∈ b, ∃ c, f y z = some c ∧ (c = true ↔ y = z)) → ∃ c, eqs f a b = some c ∧ (c = true ↔ a = b)
  | [], [], _ => ⟨true, rfl, by simp⟩
  | [], _ :: _, _ => ⟨false, rfl, by simp⟩
  | _ :: _, [], _ => ⟨false, rfl, by simp⟩
  | y :: a, z :: b, h => by
    obtain ⟨c, e, hc⟩ := h y List.mem_cons_self z List.mem_cons_self
    obtain ⟨d, e', hd⟩ := eqs_pl a b fun y' hy z' hz => h y' (List.mem_cons_of_mem _ hy) z' (List.mem_cons_of_mem _ hz)
    refine ⟨c && d, by simp only [eqs, e, e', Option.bind_some], ?_⟩
    rw [Bool.and_eq_true, hc, hd, List.cons.injEq]
theorem eq_pl : ∀ (k : Nat) (y z : PV), Pl k y → Pl k z → ∃ c, eqP k y z = some c ∧ (c = true ↔ y = z)
  | 0, _, _, h, _ => h.elim
  | k + 1, y, z, h, h' => by
    rcases h with ⟨i, rfl⟩ | ⟨x, rfl⟩ | ⟨l, rfl, h⟩ <;> rcases h' with ⟨j, rfl⟩ | ⟨x', rfl⟩ | ⟨l', rfl, h'⟩
    · exact ⟨_, rfl, by simp [toV, eqV]⟩
    · exact ⟨_, rfl, by simp [toV, eqV]⟩
    · exact ⟨false, rfl, by simp⟩
    · exact ⟨_, rfl, by simp [toV, eqV]⟩
    · exact ⟨_, rfl, by simp [toV, eqV]⟩
    · exact ⟨false, rfl, by simp⟩
    · exact ⟨false, rfl, by simp⟩
    · exact ⟨false, rfl, by simp⟩
    · obtain ⟨c, e, hc⟩ := eqs_pl (f := eqP k) l l' fun y hy z hz => eq_pl k y z (h y hy) (h' z hz)
      exact ⟨c, by simp only [eqP]; exact e, by rw [hc]; simp⟩
theorem pl_int {k : Nat} (i : Int) : Pl (k + 1) (.int i) := .inl ⟨i, rfl⟩
theorem pl_str {k : Nat} (x : Str) : Pl (k + 1) (.str x) := .inr (.inl ⟨x, rfl⟩)
theorem pl_inW {k : Nat} {lo hi : Int} {y : PV} (h : inW lo hi y = true) : Pl (k + 1) y := by
  cases y <;> first | exact pl_int _ | cases h
theorem pl_num {k : Nat} {y : PV} (h : isNum y = true) : Pl (k + 1) y := by
  cases y <;> first | exact pl_int _ | cases h
theorem pl_name {k : Nat} {y : PV} (h : isName y = true) : Pl (k + 1) y := by
  cases y <;> first | exact pl_str _ | cases h
theorem pl_nmIn {k : Nat} {ps : List (Str × List PV)} {y : PV} (h : nmIn ps y = true) : Pl (k + 1) y := by
  cases y <;> first | exact pl_str _ | cases h
theorem pl_slIn {k : Nat} {ps : List (Str × List PV)} {y : PV} (h : slIn ps y = true) : Pl (k + 1) y := by
  cases y <;> first | exact pl_str _ | cases h
theorem pl_two {k : Nat} {a b : PV} (ha : Pl k a) (hb : Pl k b) : ∀ z ∈ [a, b], Pl k z := fun z hz => by
  simp only [List.mem_cons, List.not_mem_nil, or_false] at hz
  rcases hz with rfl | rfl
  · exact ha
  · exact hb
theorem pl_one {k : Nat} {a : PV} (ha : Pl k a) : ∀ z ∈ [a], Pl k z := fun z hz => by
  rw [List.mem_singleton.mp hz]
  exact ha
theorem pl_rule {ps : List (Str × List PV)} {y : PV} (h : ruleOk ps y = true) : Pl 2 y := by
  match y, h with
  | .tup (.str w :: r), h =>
    refine .inr (.inr ⟨_, rfl, fun z hz => ?_⟩)
    rcases List.mem_cons.mp hz with rfl | hz
    · exact pl_str _
    have all : ∀ z ∈ r, Pl 1 z := by
      have h' : ruleB ps w r = true := h
      unfold ruleB at h'
      split at h'
      · match r, h' with
        | [a, b], h' =>
          have ho : hoursOk a b = true := h'
          cases a <;> cases b <;> first | exact pl_two (pl_int _) (pl_int _) | (exfalso; simp [hoursOk, inW] at ho; done)
      · split at h'
        · match r, h' with
          | [a, b], h' =>
            simp only [Bool.and_eq_true] at h'
            exact pl_two (pl_name h'.1) (pl_num h'.2)
        · split at h'
          · match r, h' with
            | [a], h' => exact pl_one (pl_inW h')
          · split at h'
            · match r, h' with
              | [a], h' => exact pl_one (pl_nmIn h')
            · simp only [Bool.and_eq_true, List.isEmpty_iff] at h'
              rw [h'.2]
              exact fun z hz => absurd hz List.not_mem_nil
    exact all z hz
theorem pl_rules {ps : List (Str × List PV)} {y : PV} (h : rulesOk ps y = true) : Pl 3 y := by
  match y, h with
  | .tup l, h =>
    have h' : (decide (l.length ≤ 6) && l.all (ruleOk ps)) = true := h
    simp only [Bool.and_eq_true, List.all_eq_true] at h'
    exact .inr (.inr ⟨l, rfl, fun z hz => pl_rule (h'.2 z hz)⟩)
theorem page_in {ps : List (Str × List PV)} {dark : Int} {y : PV} (h : pageOk ps dark y = true) : ∃ (w : Str) (n m : Int) (r : List PV), y = .tup (.str w :: .int n :: .int m :: r) ∧ 0 ≤ n ∧ n ≤ 999999 ∧ 0 ≤ m ∧ m ≤ dark ∧ Pl 4 y := by
  match y, h with
  | .tup (.str w :: a :: b :: c :: r), h =>
    have h' : (inW 0 999999 a && inW 0 dark b && pageB ps w c r) = true := h
    simp only [Bool.and_eq_true] at h'
    obtain ⟨⟨ha, hb⟩, hc⟩ := h'
    have tl : Pl 3 c ∧ ∀ z ∈ r, Pl 3 z := by
      unfold pageB at hc
      split at hc
      · match r, hc with
        | [v], hc =>
          simp only [Bool.and_eq_true] at hc
          exact ⟨pl_name hc.1, pl_one (pl_num hc.2)⟩
      · split at hc
        · match r, hc with
          | [], hc => exact ⟨pl_slIn hc, fun z hz => absurd hz List.not_mem_nil⟩
        · split at hc
          · match r, hc with
            | [v], hc =>
              have hc' : (nmIn ps c && rulesOk ps v) = true := hc
              simp only [Bool.and_eq_true] at hc'
              exact ⟨pl_nmIn hc'.1, pl_one (pl_rules hc'.2)⟩
          · cases hc
    cases a <;> first | cases ha | skip
    rename_i n
    cases b <;> first | cases hb | skip
    rename_i m
    simp only [inW, Bool.and_eq_true, decide_eq_true_eq] at ha hb
    refine ⟨w, n, m, c :: r, rfl, ha.1, ha.2, hb.1, hb.2, .inr (.inr ⟨_, rfl, fun z hz => ?_⟩)⟩
    rcases List.mem_cons.mp hz with rfl | hz
    · exact pl_str _
    rcases List.mem_cons.mp hz with rfl | hz
    · exact pl_int _
    rcases List.mem_cons.mp hz with rfl | hz
    · exact pl_int _
    rcases List.mem_cons.mp hz with rfl | hz
    · exact tl.1
    · exact tl.2 z hz
theorem fold_leI : ∀ (zs : List Int) (ks : List Key), ((zs.map PV.int).foldl (fun ks z => if inK ks (keyOf z) = true then ks else ks ++ [keyOf z]) ks).length ≤ ks.length + zs.length := fun zs ks => by
  have := dk_len_aux (zs.map PV.int) ks
  simpa using this
theorem inK_app (ks : List Key) (k u : Key) : inK (ks ++ [k]) u = (inK ks u || decide (k = u)) := by unfold inK; rw [List.any_append]; simp
theorem fold_ndI : ∀ (zs : List Int) (ks : List Key), ((zs.map PV.int).foldl (fun ks z => if inK ks (keyOf z) = true then ks else ks ++ [keyOf z]) ks).length = ks.length + zs.length ↔ zs.Nodup ∧ ∀ z ∈ zs, inK ks (.inl z) = false
  | [], ks => by simp
  | z :: zs, ks => by
    rw [List.map_cons, List.foldl_cons]
    by_cases h : inK ks (keyOf (.int z)) = true
    · rw [if_pos h]
      have q := fold_leI zs ks
      constructor
      · intro e; rw [List.length_cons] at e; omega
      · rintro ⟨_, h2⟩
        have := h2 z List.mem_cons_self
        rw [show inK ks (.inl z) = true from h] at this
        cases this
    · rw [if_neg h]
      have q := fold_ndI zs (ks ++ [keyOf (.int z)])
      rw [List.length_append, List.length_singleton] at q
      rw [List.length_cons, show ks.length + (zs.length + 1) = ks.length + 1 + zs.length by omega, q, List.nodup_cons]
      have h' : inK ks (.inl z) = false := by
        cases c : inK ks (.inl z) with
        | false => rfl
        | true => exact absurd c h
      constructor
      · rintro ⟨n1, n2⟩
        refine ⟨⟨fun hz => ?_, n1⟩, fun u hu => ?_⟩
        · have := n2 z hz
          rw [inK_app] at this
          simp [keyOf] at this
        · rcases List.mem_cons.mp hu with rfl | hu
          · exact h'
          · have := n2 u hu
            rw [inK_app, Bool.or_eq_false_iff] at this
            exact this.1
      · rintro ⟨⟨n1, n2⟩, n3⟩
        refine ⟨n2, fun u hu => ?_⟩
        rw [inK_app, n3 u (List.mem_cons_of_mem _ hu), Bool.false_or]
        apply decide_eq_false
        intro e
        have : z = u := by injection e
        exact n1 (this ▸ hu)
theorem dk_ndI (zs : List Int) : (dk (zs.map PV.int)).length = zs.length ↔ zs.Nodup := by
  have q := fold_ndI zs []
  unfold dk
  simp only [List.length_nil, Nat.zero_add] at q
  rw [q]
  constructor
  · intro h; exact h.1
  · intro h; exact ⟨h, fun z _ => rfl⟩
def nuP (y : PV) : Int := (kPV y).2
abbrev Bef (a b : PV) : Prop := nuP a ≠ nuP b ∧ rPV a < rPV b
def Pg (y : PV) : Prop := ∃ (w : Str) (n m : Int) (r : List PV), y = .tup (.str w :: .int n :: .int m :: r) ∧ 0 ≤ n ∧ n ≤ 999999 ∧ Pl 4 y
theorem Pg.of {ps : List (Str × List PV)} {dark : Int} {y : PV} (h : pageOk ps dark y = true) : Pg y := by
  obtain ⟨w, n, m, r, e, h1, h2, _, _, h3⟩ := page_in h
  exact ⟨w, n, m, r, e, h1, h2, h3⟩
theorem Pg.ok {y : PV} (h : Pg y) : okP y = true := by
  obtain ⟨w, n, m, r, rfl, h1, h2, _⟩ := h
  show (decide (0 ≤ n) && decide (n < 1000000)) = true
  rw [decide_eq_true h1, decide_eq_true (by omega)]
  rfl
theorem Pg.one {y : PV} (h : Pg y) : ixO y (.int 1) = .ret (.int (nuP y)) := by
  obtain ⟨w, n, m, r, rfl, _⟩ := h
  simp only [ixO, at1, M.ofO]
  rfl
theorem Pg.two {y : PV} (h : Pg y) : ixO y (.int 2) = .ret (.int (kPV y).1) := by
  obtain ⟨w, n, m, r, rfl, _⟩ := h
  simp only [ixO, at2, M.ofO]
  rfl
theorem Pg.nu {y : PV} (h : Pg y) : 0 ≤ nuP y ∧ nuP y ≤ 999999 := by
  obtain ⟨w, n, m, r, rfl, h1, h2, _⟩ := h
  exact ⟨h1, h2⟩
theorem rP_ne {a b : PV} (ha : Pg a) (hb : Pg b) (h : nuP a ≠ nuP b) : rPV a ≠ rPV b := by
  have := ha.nu
  have := hb.nu
  unfold rPV
  unfold nuP at *
  omega
theorem bef_iff {a b : PV} (ha : Pg a) (hb : Pg b) : (nuP a == nuP b || HT.lexLt [(kPV b).1, nuP b] [(kPV a).1, nuP a]) = false ↔ Bef a b := by
  have q1 := ha.nu
  have q2 := hb.nu
  rw [Bool.or_eq_false_iff, beq_eq_false_iff_ne]
  have e : HT.lexLt [(kPV b).1, nuP b] [(kPV a).1, nuP a] = decide (rPV b < rPV a) := by
    rw [HT.lexLt_cons, HT.lexLt_cons, HT.lexLt_nil_nil]
    unfold rPV
    unfold nuP at *
    by_cases c : (kPV b).1 = (kPV a).1
    · rw [if_pos c]
      by_cases d : (kPV b).2 = (kPV a).2
      · rw [if_pos d]
        exact (decide_eq_false (by omega)).symm
      · rw [if_neg d]
        exact decide_eq_decide.mpr ⟨fun z => by omega, fun z => by omega⟩
    · rw [if_neg c]
      exact decide_eq_decide.mpr ⟨fun z => by omega, fun z => by omega⟩
  rw [e, decide_eq_false_iff_not]
  constructor
  · rintro ⟨h1, h2⟩
    have := rP_ne ha hb h1
    exact ⟨h1, by omega⟩
  · rintro ⟨h1, h2⟩
    exact ⟨h1, by omega⟩
theorem book_iff {l : List PV} (hp : ∀ y ∈ l, Pg y) : (l = ordK l ∧ (l.map nuP).Nodup) ↔ l.Pairwise Bef := by
  constructor
  · rintro ⟨e, nd⟩
    have nd' : (l.map rPV).Nodup := by
      unfold List.Nodup at nd ⊢
      rw [List.pairwise_map] at nd ⊢
      exact nd.imp_of_mem fun {a b} ha hb h => rP_ne (hp a ha) (hp b hb) h
    have up := isoK_up l nd'
    rw [← ordK_iso nd', ← e] at up
    unfold List.Nodup at nd
    rw [List.pairwise_map] at nd
    exact nd.imp₂ (fun a b h1 h2 => ⟨h1, h2⟩) up
  · intro h
    have nd : (l.map nuP).Nodup := by
      unfold List.Nodup
      rw [List.pairwise_map]
      exact h.imp fun {a b} q => q.1
    have nd' : (l.map rPV).Nodup := by
      unfold List.Nodup
      rw [List.pairwise_map]
      exact h.imp fun {a b} q => by have := q.2; omega
    exact ⟨by rw [ordK_iso nd', isoK_is nd' (.refl _) (h.imp fun {a b} q => q.2)], nd⟩
def FineB (y : PV) : Prop := y ≠ .bag ∧ ∀ l, y = .tup l → l.length ≤ 40 ∧ ∀ z ∈ l, FineP z
open Classical in
def bookOk (ps : List (Str × List PV)) (dark : Int) : PV → Bool
  | .tup l => l.all (pageOk ps dark) && decide (l.Pairwise Bef)
  | _ => false
theorem all_g {te : PEnv → M PV} {f : PV → Bool} {h : PV} {l : List PV} (ht : ∀ y ∈ l, te [.val y, .val h] = .ret (.bl (f y))) : (lcM (bindN 0) allTs te l [un, val h]).bind (fun zs => allO [.lst zs]) = .ret (.bl (l.all f)) := by
  rw [lcM_map (k := 0) (f := fun y => .bl (f y)) (ρ := [un, val h]) l [un, val h] (fun _ => rfl) (fun y hy => ht y hy)]
  simp only [rZ, allO, bls_mapV, M.ofO]
  simp [List.all_map, Function.comp_def]
theorem bookof_is {l : List PV} (hp : ∀ y ∈ l, Pg y) (hl : l.length ≤ 40) : F_book_of [.tup l] = .ret (.tup (ordK l)) := by
  unfold F_book_of m_book_of
  show (retP _ [val (.tup l)]).bind finP = _
  refine fin_y (ret_y ?_)
  have hc : l.length < 64 ∧ ∀ z ∈ l, okP z = true := ⟨by omega, fun z hz => (hp z hz).ok⟩
  simp only [List.map, Ent.freeze, consA, lstV, gV0, rZ, sortE, seqPV, if_pos hc]
  rfl
theorem book_eq {l : List PV} (hp : ∀ y ∈ l, Pg y) : ∃ c, eqO false (.tup l) (.tup (ordK l)) = .ret (.bl c) ∧ (c = true ↔ l = ordK l) := by
  have up : ∀ (j : Nat) (y : PV), Pl 4 y → Pl (4 + j) y := fun j => by
    induction j with
    | zero => exact fun y h => h
    | succ j ih => exact fun y h => (ih y h).up
  have e1 : ∀ m : List PV, (∀ y ∈ m, Pg y) → Pl 20 (.tup m) := fun m hm => .inr (.inr ⟨m, rfl, fun z hz => by
    obtain ⟨_, _, _, _, _, _, _, q⟩ := hm z hz
    exact up 15 z q⟩)
  obtain ⟨c, e, hc⟩ := eq_pl 20 (.tup l) (.tup (ordK l)) (e1 l hp) (e1 _ fun y hy => hp y ((ordK_perm l).mem_iff.mp hy))
  refine ⟨c, ?_, by rw [hc]; simp⟩
  unfold eqO
  rw [e]
  simp [M.ofO]
theorem gV1 (a b : PV) (r : PEnv) : getV (val a :: val b :: r) 1 = .ret b := rfl
theorem gV2 (a b c : PV) (r : PEnv) : getV (val a :: val b :: val c :: r) 2 = .ret c := rfl
theorem gV3 (a b c d : PV) (r : PEnv) : getV (val a :: val b :: val c :: val d :: r) 3 = .ret d := rfl
theorem pgs {ps : List (Str × List PV)} {dark : Int} {l : List PV} (g : l.all (pageOk ps dark) = true) : ∀ y ∈ l, Pg y := fun y hy => Pg.of (List.all_eq_true.mp g y hy)
theorem isbook_is {h y : PV} {ps : List (Str × List PV)} {dark : Int} (U : HillU h ps dark) (hy : FineB y) : F_is_book [h, y] = .ret (.bl (bookOk ps dark y)) := by
  unfold F_is_book m_is_book
  show (seqP _ _ [val h, val y]).bind finP = _
  cases y with
  | bag => exact absurd rfl hy.1
  | tup l =>
    obtain ⟨hl, hf⟩ := hy.2 l rfl
    have c' : l.length ≤ 100000 := by omega
    have c4 : l.length ≤ 4000 := by omega
    have q := all_g (h := h) (f := pageOk ps dark) (l := l) (te := fun ρ => ((consA (fun ρ => getV ρ 1) (consA (fun ρ => getV ρ 0) (fun _ => M.ret []))) ρ).bind F_is_page) (fun y hy' => by simp [consA, getV, page_is U (hf y hy')])
    have t1 : notP (asB (fun ρ => ((fun ρ => getV ρ 1) ρ).bind (isiO "tuple"))) [val h, val (.tup l)] = .ret false := by simp [notP, asB, getV, isiO, inst, tyN, M.ofO]
    have t2 := c_not (ρ := [val h, val (.tup l)]) (a := asB (fun ρ => ((consA (lstV (mkLC [none, some 0] (fun ρ => ((fun ρ => getV ρ 1) ρ).bind iterO) (bindN 0) allTs (fun ρ => ((consA (fun ρ => getV ρ 1) (consA (fun ρ => getV ρ 0) (fun _ => M.ret []))) ρ).bind F_is_page))) (fun _ => M.ret [])) ρ).bind allO)) (x := l.all (pageOk ps dark)) (by
      have ec : capP [none, some 0] [val h, val (.tup l)] = [un, val h] := rfl
      simp only [consA, rZ, M.bZ] at q
      simp only [asB, consA, lstV, mkLC, gV1, rZ, iterO, if_pos c', ec, M.bZ, q])
    show _ = M.ret (PV.bl (l.all (pageOk ps dark) && _))
    cases g : l.all (pageOk ps dark) with
    | false =>
      rw [g] at t2
      exact seq_rt ((if_t ((c_or t1 t2).trans rfl)).trans (ret_y rfl))
    | true =>
      rw [g] at t2
      refine seq_nx (ρ' := [val h, val (.tup l)]) (if_f ((c_or t1 t2).trans rfl)) (fin_y (ret_y ?_))
      have hp := pgs g
      obtain ⟨c, ec, hc⟩ := book_eq hp
      rw [Bool.true_and]
      have q2 := lcM_map (k := 0) (te := fun ρ => ((bin2 ixO (fun ρ => getV ρ 0) (fun _ => M.ret (.int 1))) ρ).bind keyM) (f := fun y => .int (nuP y)) (ρ := [un]) l [un] (fun _ => rfl) (fun y hy => by
        simp [bin2, getV, (hp y hy).one, keyM])
      have e2 : capP [none] [val h, val (.tup l)] = [un] := rfl
      refine (v_and (x := c) (y := decide (l.map nuP).Nodup) ?_ fun _ => ?_).trans ?_
      · simp only [bin2, consA, List.map, Ent.freeze, gV1, rZ, bookof_is hp hl, ec]
      · simp only [bin2, mkSC, List.map, Ent.freeze, consA, gV1, rZ, iterO, if_pos c', e2]
        simp only [bin2, rZ] at q2
        rw [q2]
        simp only [if_pos c4, rZ, lenSet, lenO, eqI]
        congr 2
        have z := dk_ndI (l.map nuP)
        rw [List.length_map, List.map_map] at z
        rw [Bool.eq_iff_iff, decide_eq_true_iff, ← z]; simp [Function.comp_def]
        omega
      · congr 2
        rw [Bool.eq_iff_iff, Bool.and_eq_true, decide_eq_true_iff, decide_eq_true_iff, hc, book_iff hp]
  | _ => exact seq_rt ((if_t (by simp [notP, orP, asB, getV, isiO, inst, tyN, M.ofO])).trans (ret_y rfl))
theorem forAll {Iv : PEnv → Prop} {k : Nat} {mb : PEnv → M Fl} {f : PV → Bool} {r : PV} : ∀ (l : List PV) (ρ : PEnv), Iv ρ → (∀ y ∈ l, ∀ ρ, Iv ρ → (f y = true → ∃ ρ', mb (ρ.set k (.val y)) = .ret (.nx ρ') ∧ Iv ρ') ∧ (f y = false → mb (ρ.set k (.val y)) = .ret (.rt r))) → (l.all f = true → ∃ ρ', forP (bindN k) mb l ρ = .ret (.nx ρ') ∧ Iv ρ') ∧ (l.all f = false → forP (bindN k) mb l ρ = .ret (.rt r))
  | [], ρ, h, _ => ⟨fun _ => ⟨ρ, rfl, h⟩, fun e => by cases e⟩
  | y :: l, ρ, h, hb => by
    obtain ⟨h1, h2⟩ := hb y List.mem_cons_self ρ h
    rw [List.all_cons]
    cases c : f y with
    | false =>
      refine ⟨fun e => (by cases e), fun _ => ?_⟩
      unfold forP
      rw [show bindN k y ρ = .ret (ρ.set k (.val y)) from rfl, rZ, h2 c, rZ]
    | true =>
      obtain ⟨ρ', e, i⟩ := h1 c
      rw [Bool.true_and]
      have q := forAll l ρ' i fun z hz => hb z (List.mem_cons_of_mem _ hz)
      unfold forP
      rw [show bindN k y ρ = .ret (ρ.set k (.val y)) from rfl, rZ, e, rZ]
      exact q
theorem cut_hi (l : List PV) (c : Nat) (h : c ≤ l.length) : cutP l none (some (c : Int)) = l.take c := by
  unfold cutP
  rw [HT.sIx_none, HT.sIx_nat, List.drop_zero]
  congr 1
  omega
theorem ixT {l : List PV} {i : Nat} (h : i < l.length) : ixO (.tup l) (.int (i : Nat)) = .ret l[i] := by
  have e : l[i]? = some l[i] := List.getElem?_eq_getElem h
  simp only [ixO, atI_of e, M.ofO]
theorem pw_iff {l : List PV} : (l.Pairwise Bef) ↔ ∀ i (h : i < l.length), ∀ o ∈ l.take i, Bef o l[i] := by
  rw [List.pairwise_iff_getElem]
  constructor
  · intro q i h o ho
    obtain ⟨j, hj, e⟩ := List.getElem_of_mem ho
    rw [List.length_take] at hj
    rw [List.getElem_take] at e
    rw [← e]
    exact q j i (by omega) h (by omega)
  · intro q i j hi hj hij
    refine q j hj _ ?_
    have hk : i < (l.take j).length := by rw [List.length_take]; omega
    have e : (l.take j)[i] = l[i] := List.getElem_take
    rw [← e]
    exact List.getElem_mem _
noncomputable def inB : PEnv → M Fl := (ifP (orP (asB (bin2 (eqO false) (bin2 ixO (fun ρ => getV ρ 3) (fun _ => M.ret (.int 1))) (bin2 ixO (bin2 ixO (fun ρ => getV ρ 1) (fun ρ => getV ρ 2)) (fun _ => M.ret (.int 1))))) (asB (bin2 gtTO (fun ρ => ((consA (bin2 ixO (fun ρ => getV ρ 3) (fun _ => M.ret (.int 2))) (consA (bin2 ixO (fun ρ => getV ρ 3) (fun _ => M.ret (.int 1))) (fun _ => M.ret []))) ρ).bind mkTup) (fun ρ => ((consA (bin2 ixO (bin2 ixO (fun ρ => getV ρ 1) (fun ρ => getV ρ 2)) (fun _ => M.ret (.int 2))) (consA (bin2 ixO (bin2 ixO (fun ρ => getV ρ 1) (fun ρ => getV ρ 2)) (fun _ => M.ret (.int 1))) (fun _ => M.ret []))) ρ).bind mkTup))))
    (retP (fun _ => M.ret (.bl false)))
    (fun ρ => M.ret (.nx ρ)))
open Classical in
theorem in_is {h o : PV} {l : List PV} {i : Nat} (hp : ∀ y ∈ l, Pg y) (hi : i < l.length) (ho : Pg o) : inB [.val h, .val (.tup l), .val (.int (i : Nat)), .val o] = if Bef o l[i] then .ret (.nx [.val h, .val (.tup l), .val (.int (i : Nat)), .val o]) else .ret (.rt (.bl false)) := by
  have hx := hp _ (List.getElem_mem hi)
  have hc : orP (asB (bin2 (eqO false) (bin2 ixO (fun ρ => getV ρ 3) (fun _ => M.ret (.int 1))) (bin2 ixO (bin2 ixO (fun ρ => getV ρ 1) (fun ρ => getV ρ 2)) (fun _ => M.ret (.int 1))))) (asB (bin2 gtTO (fun ρ => ((consA (bin2 ixO (fun ρ => getV ρ 3) (fun _ => M.ret (.int 2))) (consA (bin2 ixO (fun ρ => getV ρ 3) (fun _ => M.ret (.int 1))) (fun _ => M.ret []))) ρ).bind mkTup) (fun ρ => ((consA (bin2 ixO (bin2 ixO (fun ρ => getV ρ 1) (fun ρ => getV ρ 2)) (fun _ => M.ret (.int 2))) (consA (bin2 ixO (bin2 ixO (fun ρ => getV ρ 1) (fun ρ => getV ρ 2)) (fun _ => M.ret (.int 1))) (fun _ => M.ret []))) ρ).bind mkTup))) [.val h, .val (.tup l), .val (.int (i : Nat)), .val o] = .ret (nuP o == nuP l[i] || HT.lexLt [(kPV l[i]).1, nuP l[i]] [(kPV o).1, nuP o]) := by
    refine c_or ?_ ?_
    · simp only [asB, bin2, gV1, gV2, gV3, rZ, ixT hi, hx.one, ho.one, eqI]
    · simp only [asB, bin2, consA, gV1, gV2, gV3, rZ, ixT hi, hx.one, ho.one, hx.two, ho.two, mkTup, List.length_cons, List.length_nil]
      rw [if_pos (by omega), if_pos (by omega)]
      rfl
  unfold inB
  by_cases c : Bef o l[i]
  · rw [if_pos c]
    rw [(bef_iff ho hx).mpr c] at hc
    exact if_f hc
  · rw [if_neg c]
    have : (nuP o == nuP l[i] || HT.lexLt [(kPV l[i]).1, nuP l[i]] [(kPV o).1, nuP o]) = true := by
      cases d : (nuP o == nuP l[i] || HT.lexLt [(kPV l[i]).1, nuP l[i]] [(kPV o).1, nuP o]) with
      | true => rfl
      | false => exact absurd ((bef_iff ho hx).mp d) c
    rw [this] at hc
    exact (if_t hc).trans (ret_y rfl)
noncomputable def outB : PEnv → M Fl := mkFor (fun ρ => ((sl3 slE (fun ρ => getV ρ 1) (fun _ => M.ret none) (fun ρ => ((fun ρ => getV ρ 2) ρ).bind fun y => (intM y).bind fun i => M.ret (some i))) ρ).bind iterO) (bindN 3) inB
def Iv3 (h : PV) (l : List PV) (i : Nat) (ρ : PEnv) : Prop := ∃ e3, ρ = [.val h, .val (.tup l), .val (.int (i : Nat)), e3]
def Iv2 (h : PV) (l : List PV) (ρ : PEnv) : Prop := ∃ e2 e3, ρ = [.val h, .val (.tup l), e2, e3]
open Classical in
def befs (l : List PV) (i : Nat) : Bool := if h : i < l.length then (l.take i).all fun o => decide (Bef o l[i]) else true
open Classical in
theorem out_is {h : PV} {l : List PV} {i : Nat} {e3 : Ent} (hp : ∀ y ∈ l, Pg y) (hi : i < l.length) :
    (befs l i = true → ∃ ρ', outB [.val h, .val (.tup l), .val (.int (i : Nat)), e3] = .ret (.nx ρ') ∧ Iv3 h l i ρ') ∧ (befs l i = false → outB [.val h, .val (.tup l), .val (.int (i : Nat)), e3] = .ret (.rt (.bl false))) := by
  have e0 : outB [.val h, .val (.tup l), .val (.int (i : Nat)), e3] = forP (bindN 3) inB (l.take i) [.val h, .val (.tup l), .val (.int (i : Nat)), e3] := by
    unfold outB mkFor
    simp only [sl3, gV1, gV2, rZ, intM, slE, cut_hi l i (by omega), iterO]
  have e1 : befs l i = (l.take i).all fun o => decide (Bef o l[i]) := by unfold befs; rw [dif_pos hi]
  rw [e0, e1]
  refine forAll (Iv := Iv3 h l i) (l.take i) _ ⟨e3, rfl⟩ fun o ho ρ ⟨e, hρ⟩ => ?_
  subst hρ
  have q := in_is (h := h) hp hi (hp o (List.mem_of_mem_take ho))
  constructor
  · intro c
    rw [if_pos (of_decide_eq_true c)] at q
    exact ⟨_, q, _, rfl⟩
  · intro c
    rw [if_neg (of_decide_eq_false c)] at q
    exact q
theorem befs_iff {l : List PV} : (List.range l.length).all (befs l) = true ↔ l.Pairwise Bef := by
  rw [pw_iff, List.all_eq_true]
  constructor
  · intro q i h o ho
    have := q i (List.mem_range.mpr h)
    unfold befs at this
    rw [dif_pos h, List.all_eq_true] at this
    exact of_decide_eq_true (this o ho)
  · intro q i hi
    have h := List.mem_range.mp hi
    unfold befs
    rw [dif_pos h, List.all_eq_true]
    exact fun o ho => decide_eq_true (q i h o ho)
theorem lbook_is {h y : PV} {ps : List (Str × List PV)} {dark : Int} (U : HillU h ps dark) (hy : FineB y) : F_law_book_is [h, y] = .ret (.bl (bookOk ps dark y)) := by
  unfold F_law_book_is m_law_book_is
  show (seqP _ _ [val h, val y, un, un]).bind finP = _
  cases y with
  | bag => exact absurd rfl hy.1
  | tup l =>
    obtain ⟨hl, hf⟩ := hy.2 l rfl
    have c' : l.length ≤ 100000 := by omega
    have q := all_g (h := h) (f := pageOk ps dark) (l := l) (te := fun ρ => ((consA (fun ρ => getV ρ 1) (consA (fun ρ => getV ρ 0) (fun _ => M.ret []))) ρ).bind F_law_page_is) (fun y hy' => by simp [consA, getV, lpage_is U (hf y hy')])
    have t1 : notP (asB (fun ρ => ((fun ρ => getV ρ 1) ρ).bind (isiO "tuple"))) [val h, val (.tup l), un, un] = .ret false := by simp [notP, asB, getV, isiO, inst, tyN, M.ofO]
    have t2 := c_not (ρ := [val h, val (.tup l), un, un]) (a := asB (fun ρ => ((consA (lstV (mkLC [none, some 0] (fun ρ => ((fun ρ => getV ρ 1) ρ).bind iterO) (bindN 0) allTs (fun ρ => ((consA (fun ρ => getV ρ 1) (consA (fun ρ => getV ρ 0) (fun _ => M.ret []))) ρ).bind F_law_page_is))) (fun _ => M.ret [])) ρ).bind allO)) (x := l.all (pageOk ps dark)) (by
      have ec : capP [none, some 0] [val h, val (.tup l), un, un] = [un, val h] := rfl
      simp only [consA, rZ, M.bZ] at q
      simp only [asB, consA, lstV, mkLC, gV1, rZ, iterO, if_pos c', ec, M.bZ, q])
    show _ = M.ret (PV.bl (l.all (pageOk ps dark) && _))
    cases g : l.all (pageOk ps dark) with
    | false =>
      rw [g] at t2
      exact seq_rt ((if_t ((c_or t1 t2).trans rfl)).trans (ret_y rfl))
    | true =>
      rw [g] at t2
      refine seq_nx (ρ' := [val h, val (.tup l), un, un]) (if_f ((c_or t1 t2).trans rfl)) ?_
      have hp := pgs g
      rw [Bool.true_and]
      have e0 : ∀ mb, (mkFor (fun ρ => ((consA (fun ρ => ((consA (fun ρ => getV ρ 1) (fun _ => M.ret [])) ρ).bind lenO) (fun _ => M.ret [])) ρ).bind rng1O) (bindN 2) mb) [val h, val (.tup l), un, un] = forP (bindN 2) mb (intsP 0 l.length) [val h, val (.tup l), un, un] := fun mb => by
        unfold mkFor
        have d : -1000000 ≤ (l.length : Int) ∧ (l.length : Int) ≤ 100000 := by omega
        simp only [consA, gV1, rZ, lenO, rng1O, if_pos d, Int.toNat_natCast]
      have w := forAll (Iv := Iv2 h l) (k := 2) (mb := outB) (f := fun y => match y with | .int i => befs l i.toNat | _ => true) (r := .bl false) (intsP 0 l.length) [val h, val (.tup l), un, un] ⟨_, _, rfl⟩ fun y hy ρ ⟨e2, e3, hρ⟩ => by
        subst hρ
        obtain ⟨i, hi, rfl⟩ := List.mem_map.mp hy
        have hi := List.mem_range.mp hi
        have z : (0 : Int) + (i : Nat) = (i : Nat) := by omega
        rw [z]
        have q := out_is (h := h) (e3 := e3) hp hi
        simp only [Int.toNat_natCast]
        refine ⟨fun c => ?_, fun c => q.2 c⟩
        obtain ⟨ρ', e, e3', hr⟩ := q.1 c
        exact ⟨ρ', e, _, _, hr⟩
      have ea : (intsP 0 l.length).all (fun y => match y with | .int i => befs l i.toNat | _ => true) = (List.range l.length).all (befs l) := by
        unfold intsP
        rw [List.all_map]
        congr 1
        funext i
        simp
      rw [ea] at w
      by_cases c : l.Pairwise Bef
      · obtain ⟨ρ', e, _⟩ := w.1 (befs_iff.mpr c)
        rw [decide_eq_true c]
        exact seq_nx ((e0 _).trans e) (fin_y (ret_y rfl))
      · have c2 : (List.range l.length).all (befs l) = false := by
          cases d : (List.range l.length).all (befs l) with
          | false => rfl
          | true => exact absurd (befs_iff.mp d) c
        rw [decide_eq_false c]
        exact seq_rt ((e0 _).trans (w.2 c2))
  | _ => exact seq_rt ((if_t (by simp [notP, orP, asB, getV, isiO, inst, tyN, M.ofO])).trans (ret_y rfl))
theorem all0 {Pr : PV → Prop} : ∀ z ∈ ([] : List PV), Pr z := fun z hz => absurd hz List.not_mem_nil
theorem all2 {Pr : PV → Prop} {a : PV} {l : List PV} (h : Pr a) (t : ∀ z ∈ l, Pr z) : ∀ z ∈ a :: l, Pr z := List.forall_mem_cons.mpr ⟨h, t⟩
theorem fset {Pr : PV → Prop} (m : List PV) (j : Nat) (y : PV) (h1 : ∀ z ∈ m, Pr z) (h2 : Pr y) : ∀ z ∈ m.set j y, Pr z := fun z hz => by
  rcases List.mem_or_eq_of_mem_set hz with w | w
  · exact h1 z w
  · rw [w]; exact h2
theorem fb_tup {l : List PV} (hl : l.length ≤ 40) (h : ∀ z ∈ l, FineP z) : FineB (.tup l) := ⟨fun h => (by cases h), fun m e => (by cases e; exact ⟨hl, h⟩)⟩
theorem fb_oth {y : PV} (h1 : y ≠ .bag) (h2 : ∀ l, y ≠ .tup l) : FineB y := ⟨h1, fun l e => absurd e (h2 l)⟩
theorem fp_oth {y : PV} (h1 : y ≠ .bag) (h2 : ∀ l, y ≠ .tup l) : FineP y := ⟨h1, fun l e => absurd e (h2 l)⟩
def PgF (m : List PV) : Prop := 4 ≤ m.length ∧ m.length ≤ 5 ∧ ∀ u ∈ m, FineQ u
def PgE (y : PV) : Prop := ∃ m, y = .tup m ∧ PgF m
theorem PgF.fp {m : List PV} (h : PgF m) : FineP (.tup m) := fp_tup fun u hu => (h.2.2 u hu).1
theorem PgF.fb {m : List PV} (h : PgF m) : FineB (.tup m) := fb_tup (by have := h.2.1; omega) fun u hu => (h.2.2 u hu).2
theorem PgE.fp {y : PV} (h : PgE y) : FineP y := by obtain ⟨m, rfl, h⟩ := h; exact h.fp
theorem PgE.fe {y : PV} (h : PgE y) : FineE y := by
  obtain ⟨m, rfl, h⟩ := h
  exact fe_tup fun u hu => ⟨(h.2.2 u hu).1.1, (h.2.2 u hu).1.2.1⟩
theorem PageT.e {n : Int} {y : PV} (h : PageT n y) : PgE y := by
  obtain ⟨l, rfl, l4, l5, hF, _⟩ := h.all
  exact ⟨l, rfl, l4, l5, hF⟩
theorem ixa {l : List PV} {i : Int} (h0 : 0 ≤ i) (h1 : i < l.length) : ixN l.length i = some i.toNat := by unfold ixN; rw [if_pos h0, if_pos (by omega)]
theorem gen_bent {h : PV} {l : List PV} {ps : List (Str × List PV)} {dark : Int} (U : HillU h ps dark) (hl : l.length ≤ 9) (hp : ∀ z ∈ l, PgE z) : Gen (F_law_bent [.bag, h, .tup l]) 4 FineB := by
  obtain ⟨h0, h2⟩ := hill0 U.1
  have hfp : ∀ z ∈ l, FineP z := fun z hz => (hp z hz).fp
  have el : lenO [.tup l] = .ret (.int l.length) := rfl
  unfold F_law_bent m_law_bent
  show Gen ((seqP _ _ [val .bag, val h, val (.tup l), un, un, un, un, un, un, un]).bind finP) 4 _
  refine Gen.le (gseqF (c := 1) (d := 3) (I := fun ρ => ∃ w : Int, ρ = [val .bag, val h, val (.tup l), val (.int w), un, un, un, un, un, un]) ?_ ?_) (by decide)
  · simp only [setP, consA, gV0, gVs, rZ, F_law_draw, M.bZ]
    refine Gen.le (Gen.bind (Gen.draw (by omega) (by omega)) (d := 0) ?_) (by decide)
    rintro _ ⟨w, rfl, w0, w1⟩
    exact Gen.eq (y := .nx _) rfl ⟨_, rfl, w, rfl⟩
  rintro _ ⟨w, rfl⟩
  have e7 : ∀ a b c d e f g : PV, mkLst [a, b, c, d, e, f, g] = .ret [a, b, c, d, e, f, g] := by intros; simp [mkLst]
  have e6 : ∀ a b c d e f : PV, mkLst [a, b, c, d, e, f] = .ret [a, b, c, d, e, f] := by intros; simp [mkLst]
  by_cases cl : l = []
  · subst cl
    unfold seqP
    rw [if_t (show asB (bin2 (eqO false) (fun ρ => getV ρ 2) (fun ρ => ((fun _ => M.ret []) ρ).bind mkTup)) _ = .ret true by simp only [asB, bin2, gV0, gVs, rZ, mkT0]; rfl)]
    simp only [retP, List.map, Ent.freeze, consA, lstV, gV0, gVs, rZ, mkT0, mkT1, mkL0, e7, M.bZ]
    refine Gen.le (Gen.bind (gen_any (by simp) (by simp)) (d := 0) ?_) (by decide)
    intro y hy
    refine Gen.eq (y := y) rfl ?_
    simp only [List.mem_cons, List.not_mem_nil, or_false] at hy
    rcases hy with rfl | rfl | rfl | rfl | rfl | rfl | rfl
    all_goals first | exact fb_tup (by simp) all0 | exact fb_tup (by simp) (fone (fp_tup all0)) | exact fb_oth (fun h => by cases h) (fun l h => by cases h)
  have hpos : 0 < l.length := List.length_pos_iff.mpr cl
  refine Gen.le (gseqF (c := 0) (d := 3) (I := fun ρ => ρ = [val .bag, val h, val (.tup l), val (.int w), un, un, un, un, un, un]) (gnx (if_f ?_) rfl) ?_) (by decide)
  · have ne : eqO false (.tup l) (.tup []) = .ret (.bl false) := by
      match l, cl with
      | a :: r, _ => rfl
    simp only [asB, bin2, gV0, gVs, rZ, mkT0, ne]
  rintro _ rfl
  refine Gen.le (gseqF (c := 2) (d := 1) (I := fun ρ => ∃ i j : Int, (0 ≤ i ∧ i < l.length) ∧ (0 ≤ j ∧ j < l.length) ∧ ρ = [val .bag, val h, val (.tup l), val (.int w), val (.int i), val (.int j), un, un, un, un]) ?_ ?_) (by decide)
  · simp only [parP, consA, gV0, gVs, rZ, el, F_law_draw, M.bZ]
    refine Gen.le (Gen.bind (Gen.draw (by omega) (by omega)) (d := 1) ?_) (by decide)
    rintro _ ⟨i, rfl, i0, i1⟩
    refine Gen.le (Gen.bind (Gen.draw (by omega) (by omega)) (d := 0) ?_) (by decide)
    rintro _ ⟨j, rfl, j0, j1⟩
    exact Gen.eq (y := .nx _) rfl ⟨_, rfl, i, j, ⟨i0, i1⟩, ⟨j0, j1⟩, rfl⟩
  rintro _ ⟨i, j, ⟨i0, i1⟩, ⟨j0, j1⟩, rfl⟩
  obtain ⟨ya, ha, ea⟩ := atI_in (l := l) i0 i1
  obtain ⟨yb, hb, eb⟩ := atI_in (l := l) j0 j1
  have ea' : ixO (.tup l) (.int i) = .ret ya := by simp only [ixO, ea, M.ofO]
  have eb' : ixO (.tup l) (.int j) = .ret yb := by simp only [ixO, eb, M.ofO]
  obtain ⟨a, rfl, pa⟩ := hp ya ha
  obtain ⟨b, rfl, pb⟩ := hp yb hb
  have hE := fun (E : PEnv) (hE : E = [val .bag, val h, val (.tup l), val (.int w), val (.int i), val (.int j), val (.tup a), val (.tup b), un, un]) => hE
  refine Gen.le (gseqF (c := 0) (d := 1) (I := fun ρ => ρ = [val .bag, val h, val (.tup l), val (.int w), val (.int i), val (.int j), val (.tup a), val (.tup b), un, un]) (gnx (by simp only [parP, bin2, consA, gV0, gVs, rZ, ea', eb']; rfl) rfl) ?_) (by decide)
  rintro _ rfl
  have hc : ∀ k : Int, asB (bin2 (eqO false) (fun ρ => getV ρ 3) (fun _ => M.ret (.int k))) [val .bag, val h, val (.tup l), val (.int w), val (.int i), val (.int j), val (.tup a), val (.tup b), un, un] = .ret (w == k) := by intro k; simp [asB, bin2, getV, eqI]
  have b1 := lcut l none (some i)
  have b2 := lcut l (some (i + 1)) none
  have b3 := lcut l (some i) none
  have b4 := lcut l (some 1) none
  have ac := fun lo hi => lcut a lo hi
  have e1 : addO (.int i) (.int 1) = .ret (.int (i + 1)) := rfl
  have pa5 := pa.2.1
  have pb4 := pb.1
  have f2 : ∀ (y : PV) (lo hi : Option Int), FineE y → FineP (.tup (cutP a none lo ++ [y] ++ cutP a hi none)) := fun y lo hi hy => fp_tup (fapp (fapp (fcut a _ _ fun z hz => (pa.2.2 z hz).1) (fone hy)) (fcut a _ _ fun z hz => (pa.2.2 z hz).1))
  have f3 : ∀ y : PV, FineP y → FineB (.tup (cutP l none (some i) ++ [y] ++ cutP l (some (i + 1)) none)) := fun y hy => fb_tup (by simp only [List.length_append, List.length_singleton]; omega) (fapp (fapp (fcut l _ _ hfp) (fone hy)) (fcut l _ _ hfp))
  have ad1 : ∀ (y : PV), addO (.tup (cutP l none (some i))) (.tup [y]) = .ret (.tup (cutP l none (some i) ++ [y])) := fun y => addT (by simp; omega)
  have ad2 : ∀ (y : PV), addO (.tup (cutP l none (some i) ++ [y])) (.tup (cutP l (some (i + 1)) none)) = .ret (.tup (cutP l none (some i) ++ [y] ++ cutP l (some (i + 1)) none)) := fun y => addT (by simp; omega)
  have aa1 : ∀ (y : PV) (lo : Option Int), addO (.tup (cutP a none lo)) (.tup [y]) = .ret (.tup (cutP a none lo ++ [y])) := fun y lo => addT (by have := ac none lo; simp; omega)
  have aa2 : ∀ (y : PV) (lo hi : Option Int), addO (.tup (cutP a none lo ++ [y])) (.tup (cutP a hi none)) = .ret (.tup (cutP a none lo ++ [y] ++ cutP a hi none)) := fun y lo hi => addT (by have := ac none lo; have := ac hi none; simp; omega)
  by_cases c0 : w = 0
  · subst c0
    refine Gen.le (Gen.eq (y := .tup ((l.set i.toNat (.tup b)).set j.toNat (.tup a))) (seq_rt ((if_t (hc 0)).trans ?_)) (fb_tup (by simp; omega) (fset _ _ _ (fset _ _ _ hfp pb.fp) pa.fp))) (by decide)
    simp only [seqP, ownP, swapP, consA, lstO, gV0, gVs, rZ, List.set_cons_succ, List.set_cons_zero, mkT2, List.getElem?_cons_succ, List.getElem?_cons_zero, intM, ixa i0 i1, ixa j0 j1, M.ofO, retP, List.map, Ent.freeze, tupO]
  have c0' : (w == 0) = false := by simpa using c0
  refine Gen.le (gseqF (c := 0) (d := 1) (I := fun ρ => ρ = [val .bag, val h, val (.tup l), val (.int w), val (.int i), val (.int j), val (.tup a), val (.tup b), un, un]) (gnx (if_f (by rw [hc 0, c0'])) rfl) ?_) (by decide)
  rintro _ rfl
  by_cases c1 : w = 1
  · subst c1
    refine Gen.le (Gen.eq (y := .tup (cutP l none (some i) ++ [.tup b] ++ cutP l (some i) none)) (seq_rt ((if_t (hc 1)).trans ?_)) (fb_tup (by simp only [List.length_append, List.length_singleton]; omega) (fapp (fapp (fcut l _ _ hfp) (fone pb.fp)) (fcut l _ _ hfp)))) (by decide)
    simp only [retP, List.map, Ent.freeze, bin2, sl3, consA, gV0, gVs, rZ, intM, slT, mkT1, ad1, addT (a := cutP l none (some i) ++ [PV.tup b]) (b := cutP l (some i) none) (by simp; omega)]
  have c1' : (w == 1) = false := by simpa using c1
  refine Gen.le (gseqF (c := 0) (d := 1) (I := fun ρ => ρ = [val .bag, val h, val (.tup l), val (.int w), val (.int i), val (.int j), val (.tup a), val (.tup b), un, un]) (gnx (if_f (by rw [hc 1, c1'])) rfl) ?_) (by decide)
  rintro _ rfl
  by_cases c2 : w = 2
  · subst c2
    obtain ⟨y, hy, e⟩ := atI_in (l := b) (d := 1) (by decide) (by omega)
    refine Gen.le (Gen.eq (y := .tup (cutP l none (some i) ++ [.tup (cutP a none (some 1) ++ [y] ++ cutP a (some 2) none)] ++ cutP l (some (i + 1)) none)) (seq_rt ((if_t (hc 2)).trans ?_)) (f3 _ (f2 _ _ _ (pb.2.2 y hy).1))) (by decide)
    have e' : ixO (.tup b) (.int 1) = .ret y := by simp only [ixO, e, M.ofO]
    simp only [retP, List.map, Ent.freeze, bin2, sl3, consA, gV0, gVs, rZ, intM, slT, mkT1, e1, e', aa1, aa2, ad1, ad2]
  have c2' : (w == 2) = false := by simpa using c2
  refine Gen.le (gseqF (c := 0) (d := 1) (I := fun ρ => ρ = [val .bag, val h, val (.tup l), val (.int w), val (.int i), val (.int j), val (.tup a), val (.tup b), un, un]) (gnx (if_f (by rw [hc 2, c2'])) rfl) ?_) (by decide)
  rintro _ rfl
  by_cases c3 : w = 3
  · subst c3
    obtain ⟨y, hy, e⟩ := atI_in (l := b) (d := 2) (by decide) (by omega)
    refine Gen.le (Gen.eq (y := .tup (cutP l none (some i) ++ [.tup (cutP a none (some 2) ++ [y] ++ cutP a (some 3) none)] ++ cutP l (some (i + 1)) none)) (seq_rt ((if_t (hc 3)).trans ?_)) (f3 _ (f2 _ _ _ (pb.2.2 y hy).1))) (by decide)
    have e' : ixO (.tup b) (.int 2) = .ret y := by simp only [ixO, e, M.ofO]
    simp only [retP, List.map, Ent.freeze, bin2, sl3, consA, gV0, gVs, rZ, intM, slT, mkT1, e1, e', aa1, aa2, ad1, ad2]
  have c3' : (w == 3) = false := by simpa using c3
  refine Gen.le (gseqF (c := 0) (d := 1) (I := fun ρ => ρ = [val .bag, val h, val (.tup l), val (.int w), val (.int i), val (.int j), val (.tup a), val (.tup b), un, un]) (gnx (if_f (by rw [hc 3, c3'])) rfl) ?_) (by decide)
  rintro _ rfl
  by_cases c4 : w = 4
  · subst c4
    obtain ⟨y0, hy0, e0⟩ := atI_in (l := l) (d := 0) (by decide) (by omega)
    have e0' : ixO (.tup l) (.int 0) = .ret y0 := by simp only [ixO, e0, M.ofO]
    obtain ⟨m, rfl, pm⟩ := hp y0 hy0
    unfold seqP
    rw [if_t (hc 4)]
    simp only [retP, List.map, Ent.freeze, consA, bin2, sl3, lstV, revP, revO, lstO, gV0, gVs, rZ, intM, slT, mkT1, e0', addT (a := l) (b := [PV.non]) (by simp; omega), addT (a := l) (b := l) (by omega), e7, M.bZ]
    refine Gen.le (Gen.bind (gen_any (by simp) (by simp)) (d := 0) ?_) (by decide)
    intro y hy
    refine Gen.eq (y := y) rfl ?_
    have key : ∀ z ∈ [PV.lst l, .tup l.reverse, .tup [.tup l], .tup (l ++ [.non]), .tup m, .tup (cutP l (some 1) none), .tup (l ++ l)], FineB z :=
      all2 (fb_oth (fun h => by cases h) (fun l h => by cases h)) (all2 (fb_tup (by simp; omega) fun z hz => hfp z (List.mem_reverse.mp hz)) (all2 (fb_tup (by simp) (fone (fp_tup fun z hz => (hp z hz).fe))) (all2 (fb_tup (by simp; omega) (fapp hfp (fone (fp_oth (fun h => by cases h) (fun l h => by cases h))))) (all2 pm.fb (all2 (fb_tup (by omega) (fcut l _ _ hfp)) (all2 (fb_tup (by simp; omega) (fapp hfp hfp)) all0))))))
    exact key y hy
  have c4' : (w == 4) = false := by simpa using c4
  refine Gen.le (gseqF (c := 0) (d := 1) (I := fun ρ => ρ = [val .bag, val h, val (.tup l), val (.int w), val (.int i), val (.int j), val (.tup a), val (.tup b), un, un]) (gnx (if_f (by rw [hc 4, c4'])) rfl) ?_) (by decide)
  rintro _ rfl
  refine Gen.le (gseqF (c := 0) (d := 1) (I := fun ρ => ρ = [val .bag, val h, val (.tup l), val (.int w), val (.int i), val (.int j), val (.tup a), val (.tup b), un, Ent.own [.tup (a ++ [.int 0]), .tup (cutP a none (some 3)), .lst a, .non, .tup (cutP a none (some 1) ++ [.int (-1)] ++ cutP a (some 2) none), .tup []]]) (gnx ?_ rfl) ?_) (by decide)
  · simp only [ownP, bin2, sl3, consA, lstV, lstO, negO, gV0, gVs, rZ, intM, slT, mkT0, mkT1, aa1, aa2, addT (a := a) (b := [PV.int 0]) (by simp; omega), e6]
    rfl
  rintro _ rfl
  have ed : addO (.int dark) (.int 1) = .ret (.int (dark + 1)) := rfl
  refine Gen.le (gseqF (c := 0) (d := 1) (I := fun ρ => ρ = [val .bag, val h, val (.tup l), val (.int w), val (.int i), val (.int j), val (.tup a), val (.tup b), un, Ent.own [.tup (a ++ [.int 0]), .tup (cutP a none (some 3)), .lst a, .non, .tup (cutP a none (some 1) ++ [.int (-1)] ++ cutP a (some 2) none), .tup [], .tup (cutP a none (some 2) ++ [.int (dark + 1)] ++ cutP a (some 3) none)]]) (gnx ?_ rfl) ?_) (by decide)
  · simp only [appP, List.getElem?_cons_succ, List.getElem?_cons_zero, bin2, sl3, consA, gV0, gVs, rZ, intM, slT, mkT1, h2, ed, aa1, aa2]
    rw [if_pos (by simp)]
    rfl
  rintro _ rfl
  simp only [retP, List.map, Ent.freeze, consA, bin2, sl3, gV0, gVs, rZ, intM, slT, e1, M.bZ]
  refine Gen.le (Gen.bind (gen_any (by simp) (by simp)) (d := 0) ?_) (by decide)
  intro y hy
  refine Gen.eq (y := .tup (cutP l none (some i) ++ [y] ++ cutP l (some (i + 1)) none)) (by simp only [rZ, mkT1, intM, slT, e1, ad1, ad2]; rfl) (f3 y ?_)
  have fa : ∀ u ∈ a, FineE u := fun u hu => (pa.2.2 u hu).1
  have key : ∀ z ∈ [PV.tup (a ++ [.int 0]), .tup (cutP a none (some 3)), .lst a, .non, .tup (cutP a none (some 1) ++ [.int (-1)] ++ cutP a (some 2) none), .tup [], .tup (cutP a none (some 2) ++ [.int (dark + 1)] ++ cutP a (some 3) none)], FineP z :=
    all2 (fp_tup (fapp fa (fone (fe_int _)))) (all2 (fp_tup (fcut a _ _ fa)) (all2 (fp_oth (fun h => by cases h) (fun l h => by cases h)) (all2 (fp_oth (fun h => by cases h) (fun l h => by cases h)) (all2 (f2 _ _ _ (fe_int _)) (all2 (fp_tup all0) (all2 (f2 _ _ _ (fe_int _)) all0))))))
  exact key y hy
theorem gen_body {y : PV} {e3 e4 e5 e6 e7 : Ent} : Gen (b_law [un, val .bag, val y, e3, e4, e5, e6, e7]) 2000 (fun f => ∃ e3 e4 e5 e6 e7, f = .nx [un, val .bag, val y, e3, e4, e5, e6, e7]) := by
  unfold b_law
  refine Gen.le (gseq (c := 1000) (d := 1000) (I := fun ρ => ∃ h ps dark, HillU h ps dark ∧ ρ = [un, val .bag, val y, val h, e4, e5, e6, e7]) ?_ ?_) (by decide)
  · simp only [setP, consA, gV0, gVs, rZ]
    refine Gen.le (Gen.bind gen_hill (d := 0) ?_) (by decide)
    rintro h ⟨ps, dark, U⟩
    exact Gen.eq (y := .nx _) rfl ⟨_, rfl, h, ps, dark, U, rfl⟩
  rintro _ ⟨h, ps, dark, U, rfl⟩
  refine Gen.le (gseq (c := 700) (d := 300) (I := fun ρ => ∃ l, l.length ≤ 9 ∧ PagesT l ∧ ρ = [un, val .bag, val y, val h, val (.lst l), e5, e6, e7]) ?_ ?_) (by decide)
  · simp only [setP, consA, gV0, gVs, rZ, F_law_draw, M.bZ]
    refine Gen.le (Gen.bind (Gen.draw (by omega) (by omega)) (d := 699) ?_) (by decide)
    rintro _ ⟨k, rfl, k0, k1⟩
    refine Gen.le (Gen.bind (gen_pages U (k := k) k0 (by omega)) (d := 0) ?_) (by omega)
    rintro _ ⟨l, rfl, hl, hp⟩
    exact Gen.eq (y := .nx _) rfl ⟨_, rfl, l, by omega, hp, rfl⟩
  rintro _ ⟨l, hl, hp, rfl⟩
  have hc : l.length < 64 ∧ ∀ z ∈ l, okP z = true := ⟨by omega, fun z hz => by
    obtain ⟨n, ⟨n0, n1⟩, w, m, r, rfl, _⟩ := hp z hz
    show (decide (0 ≤ n) && decide (n < 1000000)) = true
    rw [decide_eq_true n0, decide_eq_true n1]
    rfl⟩
  have hb : (ordK l).length ≤ 9 := by rw [(ordK_perm l).length_eq]; exact hl
  have hq : ∀ z ∈ ordK l, PgE z := fun z hz => by
    obtain ⟨n, _, h⟩ := hp z ((ordK_perm l).mem_iff.mp hz)
    exact h.e
  refine Gen.le (gseq (c := 0) (d := 300) (I := fun ρ => ρ = [un, val .bag, val y, val h, val (.lst l), val (.tup (ordK l)), e6, e7]) (gnx ?_ rfl) ?_) (by decide)
  · simp only [setP, consA, lstV, gV0, gVs, rZ, sortE, seqPV, if_pos hc, tupO]
    rfl
  rintro _ rfl
  generalize ordK l = bk at hb hq
  unfold mkFor
  have e1 : mkLst [.tup bk] = .ret [.tup bk] := by simp [mkLst]
  have e3' : rng1O [.int 4] = .ret (intsP 0 4) := by simp [rng1O]
  have hlen : (intsP 0 4).length = 4 := by simp [intsP]
  have ec : capP [none, some 1, some 3, some 5] [un, val .bag, val y, val h, val (.lst l), val (.tup bk), e6, e7] = [un, val .bag, val h, val (.tup bk)] := rfl
  simp only [lstV, catF, consA, gV0, gVs, rZ, e1, mkLC, e3', hlen, if_pos (by omega : 4 ≤ 100000), ec, M.bZ]
  refine Gen.le (Gen.bind (Gen.lc (ρ := [un, val PV.bag, val h, val (.tup bk)]) (c := 4) (Pr := FineB) _ _ (fun _ => rfl) (fun z hz => ?_)) (d := 0) ?_) (by rw [hlen]; decide)
  · simp only [List.set_cons_zero, gV0, gVs, rZ]
    exact gen_bent U hb hq
  rintro zs ⟨z1, z2⟩
  rw [hlen] at z1
  have hz : [PV.tup bk].length + zs.length ≤ 100000 := by rw [z1]; show 1 + 4 ≤ 100000; decide
  simp only [rZ, if_pos hz, iterO]
  have hall : ∀ t ∈ [PV.tup bk] ++ zs, FineB t := fun t ht => by
    rcases List.mem_append.mp ht with ht | ht
    · rw [List.mem_singleton.mp ht]
      exact fb_tup (by omega) fun z hz => (hq z hz).fp
    · exact z2 t ht
  refine Gen.mono (Gen.for_ (c := 0) (Iv := fun ρ => ∃ e6 e7, ρ = [un, val .bag, val y, val h, val (.lst l), val (.tup bk), e6, e7]) ([PV.tup bk] ++ zs) _ ⟨_, _, rfl⟩ ?_) (by simp) ?_
  · rintro t ht _ ⟨e6, e7, rfl⟩
    have h1 := isbook_is U (hall t ht)
    have h2 := lbook_is U (hall t ht)
    have h3 : ∀ c : Bool, eqO true (.bl c) (.bl c) = .ret (.bl false) := fun c => by cases c <;> rfl
    have h4 : ∀ c : Bool, isiO "bool" (.bl c) = .ret (.bl true) := fun c => rfl
    refine Gen.eq (y := .nx [un, val .bag, val y, val h, val (.lst l), val (.tup bk), val t, val (.bl (bookOk ps dark t))]) ?_ ⟨_, rfl, _, _, rfl⟩
    simp only [seqP, setP, ifP, orP, notP, asB, bin2, consA, List.set_cons_succ, List.set_cons_zero, gV0, gVs, rZ, h1, h2, h3, h4, Bool.not_true, Bool.false_eq_true, if_false]
  · rintro f ⟨ρ, rfl, e6, e7, rfl⟩
    exact ⟨_, _, _, _, _, rfl⟩
theorem law_true : ∀ c : Nat, (8 : Int) ≤ c → (c : Int) ≤ max 8 16 → (seqP (forP (bindN 2) b_law (intsP 0 c)) r_law ((List.replicate 8 un).set 1 (.val .bag))).wp 1000000 fun f _ => f = .rt (.bl true) := fun c c0 c1 => by
  have hlen : (intsP 0 c).length = c := by simp [intsP]
  have g : Gen (seqP (forP (bindN 2) b_law (intsP 0 c)) r_law ((List.replicate 8 un).set 1 (.val .bag))) 100000 (fun f => f = .rt (.bl true)) := by
    refine Gen.le (gseq (c := (intsP 0 c).length * 2000) (d := 0) (I := fun ρ => ∃ e2 e3 e4 e5 e6 e7, ρ = [un, val .bag, e2, e3, e4, e5, e6, e7]) ?_ ?_) (by rw [hlen]; omega)
    · refine Gen.for_ (c := 2000) (Iv := fun ρ => ∃ e2 e3 e4 e5 e6 e7, ρ = [un, val .bag, e2, e3, e4, e5, e6, e7]) _ _ ⟨_, _, _, _, _, _, rfl⟩ ?_
      rintro y hy _ ⟨e2, e3, e4, e5, e6, e7, rfl⟩
      exact Gen.mono gen_body (Nat.le_refl _) fun f ⟨a, b, d, e, e', hf⟩ => ⟨_, hf, _, _, _, _, _, _, rfl⟩
    · rintro _ ⟨e2, e3, e4, e5, e6, e7, rfl⟩
      exact Gen.eq rfl rfl
  exact M.wp_mono (g.h 1000000 (by decide)) fun f n h => h.2
theorem all_mk {l : PySem.W.OpenLaw} {w : World} {K : PySem.W.Frag} {h : Heap} {mg : Str → Option Value} {q : Program} {fa a_is_whole a_is_within a_is_name a_way_named a_is_way_name a_is_slope_name a_is_hours a_begins_with_text a_is_rule a_is_rules a_is_page a_book_of a_is_book awbag awdraw awany awlabel awlabels awpace awhill awmoment awrule awrules awslopes awpage awpages awname_is awwhole_is awof_way awnumber_is awrule_is awrules_is awpage_is awbook_is awbent a_law cb_book_of tb_book_of cb_law tb_law : Addr} {ti0 ti1 ti2 ti3 ti4 : Tok} (X : K.In h) (G : h.Ns mainGlobals mg) (hfa : mg "law" = some (.ref fa))
    {od0 an0 od1 an1 od2 an2 od3 an3 od4 an4 od5 an5 od6 an6 od7 an7 od8 an8 od9 an9 od10 an10 od11 an11 od12 an12 od13 an13 od14 an14 od15 an15 od16 an16 od17 an17 od18 an18 od19 an19 od20 an20 od21 an21 od22 an22 od23 an23 od24 an24 od25 an25 od26 an26 od27 an27 od28 an28 od29 an29 od30 an30 od31 an31 od32 an32 od33 an33 od34 an34 od35 an35 : Option Addr} {sl0 sl1 sl2 sl3 sl4 sl5 sl6 sl7 sl8 sl9 sl10 sl11 sl12 sl13 sl14 sl15 sl16 sl17 sl18 sl19 sl20 sl21 sl22 sl23 sl24 sl25 sl26 sl27 sl28 sl29 sl30 sl31 sl32 sl33 sl34 sl35 : Array (Option Value)} {oc0 kV0 dc0 pm0 cd0 ct0 oc1 kV1 dc1 pm1 cd1 ct1 oc2 kV2 dc2 pm2 cd2 ct2 oc3 kV3 dc3 pm3 cd3 ct3 oc4 kV4 dc4 pm4 cd4 ct4 oc5 kV5 dc5 pm5 cd5 ct5 oc6 kV6 dc6 pm6 cd6 ct6 oc7 kV7 dc7 pm7 cd7 ct7 oc8 kV8 dc8 pm8 cd8 ct8 oc9 kV9 dc9 pm9 cd9 ct9 oc10 kV10 dc10 pm10 cd10 ct10 oc11 kV11 dc11 pm11 cd11 ct11 oc12 kV12 dc12 pm12 cd12 ct12 oc13 kV13 dc13 pm13 cd13 ct13 oc14 kV14 dc14 pm14 cd14 ct14 oc15 kV15 dc15 pm15 cd15 ct15 oc16 kV16 dc16 pm16 cd16 ct16 oc17 kV17 dc17 pm17 cd17 ct17 oc18 kV18 dc18 pm18 cd18 ct18 oc19 kV19 dc19 pm19 cd19 ct19 oc20 kV20 dc20 pm20 cd20 ct20 oc21 kV21 dc21 pm21 cd21 ct21 oc22 kV22 dc22 pm22 cd22 ct22 oc23 kV23 dc23 pm23 cd23 ct23 oc24 kV24 dc24 pm24 cd24 ct24 oc25 kV25 dc25 pm25 cd25 ct25 oc26 kV26 dc26 pm26 cd26 ct26 oc27 kV27 dc27 pm27 cd27 ct27 oc28 kV28 dc28 pm28 cd28 ct28 oc29 kV29 dc29 pm29 cd29 ct29 oc30 kV30 dc30 pm30 cd30 ct30 oc31 kV31 dc31 pm31 cd31 ct31 oc32 kV32 dc32 pm32 cd32 ct32 oc33 kV33 dc33 pm33 cd33 ct33 oc34 kV34 dc34 pm34 cd34 ct34 oc35 kV35 dc35 pm35 cd35 ct35 : Value}
    (x0 : PySem.W.nsIn K mainGlobals "is_whole" = some (some (.ref a_is_whole))) (l0 : K.lookup a_is_whole = some ⟨oc0, od0, .func (PySem.W.fnOf "is_whole" "is_whole" (defArgs s_is_whole) (defBody s_is_whole) (defScope s_is_whole) .none kV0 dc0 pm0 an0 cd0 ct0), sl0⟩) (c0 : PySem.W.codeIn K cd0 "is_whole" = true) (k0 : PySem.W.keepIn K (.ref a_is_whole) = true)
    (x1 : PySem.W.nsIn K mainGlobals "is_within" = some (some (.ref a_is_within))) (l1 : K.lookup a_is_within = some ⟨oc1, od1, .func (PySem.W.fnOf "is_within" "is_within" (defArgs s_is_within) (defBody s_is_within) (defScope s_is_within) .none kV1 dc1 pm1 an1 cd1 ct1), sl1⟩) (c1 : PySem.W.codeIn K cd1 "is_within" = true) (k1 : PySem.W.keepIn K (.ref a_is_within) = true)
    (x2 : PySem.W.nsIn K mainGlobals "is_name" = some (some (.ref a_is_name))) (l2 : K.lookup a_is_name = some ⟨oc2, od2, .func (PySem.W.fnOf "is_name" "is_name" (defArgs s_is_name) (defBody s_is_name) (defScope s_is_name) .none kV2 dc2 pm2 an2 cd2 ct2), sl2⟩) (c2 : PySem.W.codeIn K cd2 "is_name" = true) (k2 : PySem.W.keepIn K (.ref a_is_name) = true)
    (x3 : PySem.W.nsIn K mainGlobals "way_named" = some (some (.ref a_way_named))) (l3 : K.lookup a_way_named = some ⟨oc3, od3, .func (PySem.W.fnOf "way_named" "way_named" (defArgs s_way_named) (defBody s_way_named) (defScope s_way_named) .none kV3 dc3 pm3 an3 cd3 ct3), sl3⟩) (c3 : PySem.W.codeIn K cd3 "way_named" = true) (k3 : PySem.W.keepIn K (.ref a_way_named) = true)
    (x4 : PySem.W.nsIn K mainGlobals "is_way_name" = some (some (.ref a_is_way_name))) (l4 : K.lookup a_is_way_name = some ⟨oc4, od4, .func (PySem.W.fnOf "is_way_name" "is_way_name" (defArgs s_is_way_name) (defBody s_is_way_name) (defScope s_is_way_name) .none kV4 dc4 pm4 an4 cd4 ct4), sl4⟩) (c4 : PySem.W.codeIn K cd4 "is_way_name" = true) (k4 : PySem.W.keepIn K (.ref a_is_way_name) = true)
    (x5 : PySem.W.nsIn K mainGlobals "is_slope_name" = some (some (.ref a_is_slope_name))) (l5 : K.lookup a_is_slope_name = some ⟨oc5, od5, .func (PySem.W.fnOf "is_slope_name" "is_slope_name" (defArgs s_is_slope_name) (defBody s_is_slope_name) (defScope s_is_slope_name) .none kV5 dc5 pm5 an5 cd5 ct5), sl5⟩) (c5 : PySem.W.codeIn K cd5 "is_slope_name" = true) (k5 : PySem.W.keepIn K (.ref a_is_slope_name) = true)
    (x6 : PySem.W.nsIn K mainGlobals "is_hours" = some (some (.ref a_is_hours))) (l6 : K.lookup a_is_hours = some ⟨oc6, od6, .func (PySem.W.fnOf "is_hours" "is_hours" (defArgs s_is_hours) (defBody s_is_hours) (defScope s_is_hours) .none kV6 dc6 pm6 an6 cd6 ct6), sl6⟩) (c6 : PySem.W.codeIn K cd6 "is_hours" = true) (k6 : PySem.W.keepIn K (.ref a_is_hours) = true)
    (x7 : PySem.W.nsIn K mainGlobals "begins_with_text" = some (some (.ref a_begins_with_text))) (l7 : K.lookup a_begins_with_text = some ⟨oc7, od7, .func (PySem.W.fnOf "begins_with_text" "begins_with_text" (defArgs s_begins_with_text) (defBody s_begins_with_text) (defScope s_begins_with_text) .none kV7 dc7 pm7 an7 cd7 ct7), sl7⟩) (c7 : PySem.W.codeIn K cd7 "begins_with_text" = true) (k7 : PySem.W.keepIn K (.ref a_begins_with_text) = true)
    (x8 : PySem.W.nsIn K mainGlobals "is_rule" = some (some (.ref a_is_rule))) (l8 : K.lookup a_is_rule = some ⟨oc8, od8, .func (PySem.W.fnOf "is_rule" "is_rule" (defArgs s_is_rule) (defBody s_is_rule) (defScope s_is_rule) .none kV8 dc8 pm8 an8 cd8 ct8), sl8⟩) (c8 : PySem.W.codeIn K cd8 "is_rule" = true) (k8 : PySem.W.keepIn K (.ref a_is_rule) = true)
    (x9 : PySem.W.nsIn K mainGlobals "is_rules" = some (some (.ref a_is_rules))) (l9 : K.lookup a_is_rules = some ⟨oc9, od9, .func (PySem.W.fnOf "is_rules" "is_rules" (defArgs s_is_rules) (defBody s_is_rules) (defScope s_is_rules) .none kV9 dc9 pm9 an9 cd9 ct9), sl9⟩) (c9 : PySem.W.codeIn K cd9 "is_rules" = true) (k9 : PySem.W.keepIn K (.ref a_is_rules) = true)
    (x10 : PySem.W.nsIn K mainGlobals "is_page" = some (some (.ref a_is_page))) (l10 : K.lookup a_is_page = some ⟨oc10, od10, .func (PySem.W.fnOf "is_page" "is_page" (defArgs s_is_page) (defBody s_is_page) (defScope s_is_page) .none kV10 dc10 pm10 an10 cd10 ct10), sl10⟩) (c10 : PySem.W.codeIn K cd10 "is_page" = true) (k10 : PySem.W.keepIn K (.ref a_is_page) = true)
    (x11 : PySem.W.nsIn K mainGlobals "book_of" = some (some (.ref a_book_of))) (l11 : K.lookup a_book_of = some ⟨oc11, od11, .func (PySem.W.fnOf "book_of" "book_of" (defArgs s_book_of) (defBody s_book_of) (defScope s_book_of) .none kV11 dc11 pm11 an11 cd11 ct11), sl11⟩) (c11 : PySem.W.codeIn K cd11 "book_of" = true) (k11 : PySem.W.keepIn K (.ref a_book_of) = true)
    (x12 : PySem.W.nsIn K mainGlobals "is_book" = some (some (.ref a_is_book))) (l12 : K.lookup a_is_book = some ⟨oc12, od12, .func (PySem.W.fnOf "is_book" "is_book" (defArgs s_is_book) (defBody s_is_book) (defScope s_is_book) .none kV12 dc12 pm12 an12 cd12 ct12), sl12⟩) (c12 : PySem.W.codeIn K cd12 "is_book" = true) (k12 : PySem.W.keepIn K (.ref a_is_book) = true)
    (x13 : PySem.W.nsIn K mainGlobals "_law_bag" = some (some (.ref awbag))) (l13 : K.lookup awbag = some ⟨oc13, od13, .func (PySem.W.fnOf "_law_bag" "_law_bag" (defArgs s_law_bag) (defBody s_law_bag) (defScope s_law_bag) .none kV13 dc13 pm13 an13 cd13 ct13), sl13⟩) (c13 : PySem.W.codeIn K cd13 "_law_bag" = true) (k13 : PySem.W.keepIn K (.ref awbag) = true)
    (x14 : PySem.W.nsIn K mainGlobals "_law_draw" = some (some (.ref awdraw))) (l14 : K.lookup awdraw = some ⟨oc14, od14, .func (PySem.W.fnOf "_law_draw" "_law_draw" (defArgs s_law_draw) (defBody s_law_draw) (defScope s_law_draw) .none kV14 dc14 pm14 an14 cd14 ct14), sl14⟩) (c14 : PySem.W.codeIn K cd14 "_law_draw" = true) (k14 : PySem.W.keepIn K (.ref awdraw) = true)
    (x15 : PySem.W.nsIn K mainGlobals "_law_any" = some (some (.ref awany))) (l15 : K.lookup awany = some ⟨oc15, od15, .func (PySem.W.fnOf "_law_any" "_law_any" (defArgs s_law_any) (defBody s_law_any) (defScope s_law_any) .none kV15 dc15 pm15 an15 cd15 ct15), sl15⟩) (c15 : PySem.W.codeIn K cd15 "_law_any" = true) (k15 : PySem.W.keepIn K (.ref awany) = true)
    (x16 : PySem.W.nsIn K mainGlobals "_law_label" = some (some (.ref awlabel))) (l16 : K.lookup awlabel = some ⟨oc16, od16, .func (PySem.W.fnOf "_law_label" "_law_label" (defArgs s_law_label) (defBody s_law_label) (defScope s_law_label) .none kV16 dc16 pm16 an16 cd16 ct16), sl16⟩) (c16 : PySem.W.codeIn K cd16 "_law_label" = true) (k16 : PySem.W.keepIn K (.ref awlabel) = true)
    (x17 : PySem.W.nsIn K mainGlobals "_law_labels" = some (some (.ref awlabels))) (l17 : K.lookup awlabels = some ⟨oc17, od17, .func (PySem.W.fnOf "_law_labels" "_law_labels" (defArgs s_law_labels) (defBody s_law_labels) (defScope s_law_labels) .none kV17 dc17 pm17 an17 cd17 ct17), sl17⟩) (c17 : PySem.W.codeIn K cd17 "_law_labels" = true) (k17 : PySem.W.keepIn K (.ref awlabels) = true)
    (x18 : PySem.W.nsIn K mainGlobals "_law_pace" = some (some (.ref awpace))) (l18 : K.lookup awpace = some ⟨oc18, od18, .func (PySem.W.fnOf "_law_pace" "_law_pace" (defArgs s_law_pace) (defBody s_law_pace) (defScope s_law_pace) .none kV18 dc18 pm18 an18 cd18 ct18), sl18⟩) (c18 : PySem.W.codeIn K cd18 "_law_pace" = true) (k18 : PySem.W.keepIn K (.ref awpace) = true)
    (x19 : PySem.W.nsIn K mainGlobals "_law_hill" = some (some (.ref awhill))) (l19 : K.lookup awhill = some ⟨oc19, od19, .func (PySem.W.fnOf "_law_hill" "_law_hill" (defArgs s_law_hill) (defBody s_law_hill) (defScope s_law_hill) .none kV19 dc19 pm19 an19 cd19 ct19), sl19⟩) (c19 : PySem.W.codeIn K cd19 "_law_hill" = true) (k19 : PySem.W.keepIn K (.ref awhill) = true)
    (x20 : PySem.W.nsIn K mainGlobals "_law_moment" = some (some (.ref awmoment))) (l20 : K.lookup awmoment = some ⟨oc20, od20, .func (PySem.W.fnOf "_law_moment" "_law_moment" (defArgs s_law_moment) (defBody s_law_moment) (defScope s_law_moment) .none kV20 dc20 pm20 an20 cd20 ct20), sl20⟩) (c20 : PySem.W.codeIn K cd20 "_law_moment" = true) (k20 : PySem.W.keepIn K (.ref awmoment) = true)
    (x21 : PySem.W.nsIn K mainGlobals "_law_rule" = some (some (.ref awrule))) (l21 : K.lookup awrule = some ⟨oc21, od21, .func (PySem.W.fnOf "_law_rule" "_law_rule" (defArgs s_law_rule) (defBody s_law_rule) (defScope s_law_rule) .none kV21 dc21 pm21 an21 cd21 ct21), sl21⟩) (c21 : PySem.W.codeIn K cd21 "_law_rule" = true) (k21 : PySem.W.keepIn K (.ref awrule) = true)
    (x22 : PySem.W.nsIn K mainGlobals "_law_rules" = some (some (.ref awrules))) (l22 : K.lookup awrules = some ⟨oc22, od22, .func (PySem.W.fnOf "_law_rules" "_law_rules" (defArgs s_law_rules) (defBody s_law_rules) (defScope s_law_rules) .none kV22 dc22 pm22 an22 cd22 ct22), sl22⟩) (c22 : PySem.W.codeIn K cd22 "_law_rules" = true) (k22 : PySem.W.keepIn K (.ref awrules) = true)
    (x23 : PySem.W.nsIn K mainGlobals "_law_slopes" = some (some (.ref awslopes))) (l23 : K.lookup awslopes = some ⟨oc23, od23, .func (PySem.W.fnOf "_law_slopes" "_law_slopes" (defArgs s_law_slopes) (defBody s_law_slopes) (defScope s_law_slopes) .none kV23 dc23 pm23 an23 cd23 ct23), sl23⟩) (c23 : PySem.W.codeIn K cd23 "_law_slopes" = true) (k23 : PySem.W.keepIn K (.ref awslopes) = true)
    (x24 : PySem.W.nsIn K mainGlobals "_law_page" = some (some (.ref awpage))) (l24 : K.lookup awpage = some ⟨oc24, od24, .func (PySem.W.fnOf "_law_page" "_law_page" (defArgs s_law_page) (defBody s_law_page) (defScope s_law_page) .none kV24 dc24 pm24 an24 cd24 ct24), sl24⟩) (c24 : PySem.W.codeIn K cd24 "_law_page" = true) (k24 : PySem.W.keepIn K (.ref awpage) = true)
    (x25 : PySem.W.nsIn K mainGlobals "_law_pages" = some (some (.ref awpages))) (l25 : K.lookup awpages = some ⟨oc25, od25, .func (PySem.W.fnOf "_law_pages" "_law_pages" (defArgs s_law_pages) (defBody s_law_pages) (defScope s_law_pages) .none kV25 dc25 pm25 an25 cd25 ct25), sl25⟩) (c25 : PySem.W.codeIn K cd25 "_law_pages" = true) (k25 : PySem.W.keepIn K (.ref awpages) = true)
    (x26 : PySem.W.nsIn K mainGlobals "_law_name_is" = some (some (.ref awname_is))) (l26 : K.lookup awname_is = some ⟨oc26, od26, .func (PySem.W.fnOf "_law_name_is" "_law_name_is" (defArgs s_law_name_is) (defBody s_law_name_is) (defScope s_law_name_is) .none kV26 dc26 pm26 an26 cd26 ct26), sl26⟩) (c26 : PySem.W.codeIn K cd26 "_law_name_is" = true) (k26 : PySem.W.keepIn K (.ref awname_is) = true)
    (x27 : PySem.W.nsIn K mainGlobals "_law_whole_is" = some (some (.ref awwhole_is))) (l27 : K.lookup awwhole_is = some ⟨oc27, od27, .func (PySem.W.fnOf "_law_whole_is" "_law_whole_is" (defArgs s_law_whole_is) (defBody s_law_whole_is) (defScope s_law_whole_is) .none kV27 dc27 pm27 an27 cd27 ct27), sl27⟩) (c27 : PySem.W.codeIn K cd27 "_law_whole_is" = true) (k27 : PySem.W.keepIn K (.ref awwhole_is) = true)
    (x28 : PySem.W.nsIn K mainGlobals "_law_of_way" = some (some (.ref awof_way))) (l28 : K.lookup awof_way = some ⟨oc28, od28, .func (PySem.W.fnOf "_law_of_way" "_law_of_way" (defArgs s_law_of_way) (defBody s_law_of_way) (defScope s_law_of_way) .none kV28 dc28 pm28 an28 cd28 ct28), sl28⟩) (c28 : PySem.W.codeIn K cd28 "_law_of_way" = true) (k28 : PySem.W.keepIn K (.ref awof_way) = true)
    (x29 : PySem.W.nsIn K mainGlobals "_law_number_is" = some (some (.ref awnumber_is))) (l29 : K.lookup awnumber_is = some ⟨oc29, od29, .func (PySem.W.fnOf "_law_number_is" "_law_number_is" (defArgs s_law_number_is) (defBody s_law_number_is) (defScope s_law_number_is) .none kV29 dc29 pm29 an29 cd29 ct29), sl29⟩) (c29 : PySem.W.codeIn K cd29 "_law_number_is" = true) (k29 : PySem.W.keepIn K (.ref awnumber_is) = true)
    (x30 : PySem.W.nsIn K mainGlobals "_law_rule_is" = some (some (.ref awrule_is))) (l30 : K.lookup awrule_is = some ⟨oc30, od30, .func (PySem.W.fnOf "_law_rule_is" "_law_rule_is" (defArgs s_law_rule_is) (defBody s_law_rule_is) (defScope s_law_rule_is) .none kV30 dc30 pm30 an30 cd30 ct30), sl30⟩) (c30 : PySem.W.codeIn K cd30 "_law_rule_is" = true) (k30 : PySem.W.keepIn K (.ref awrule_is) = true)
    (x31 : PySem.W.nsIn K mainGlobals "_law_rules_is" = some (some (.ref awrules_is))) (l31 : K.lookup awrules_is = some ⟨oc31, od31, .func (PySem.W.fnOf "_law_rules_is" "_law_rules_is" (defArgs s_law_rules_is) (defBody s_law_rules_is) (defScope s_law_rules_is) .none kV31 dc31 pm31 an31 cd31 ct31), sl31⟩) (c31 : PySem.W.codeIn K cd31 "_law_rules_is" = true) (k31 : PySem.W.keepIn K (.ref awrules_is) = true)
    (x32 : PySem.W.nsIn K mainGlobals "_law_page_is" = some (some (.ref awpage_is))) (l32 : K.lookup awpage_is = some ⟨oc32, od32, .func (PySem.W.fnOf "_law_page_is" "_law_page_is" (defArgs s_law_page_is) (defBody s_law_page_is) (defScope s_law_page_is) .none kV32 dc32 pm32 an32 cd32 ct32), sl32⟩) (c32 : PySem.W.codeIn K cd32 "_law_page_is" = true) (k32 : PySem.W.keepIn K (.ref awpage_is) = true)
    (x33 : PySem.W.nsIn K mainGlobals "_law_book_is" = some (some (.ref awbook_is))) (l33 : K.lookup awbook_is = some ⟨oc33, od33, .func (PySem.W.fnOf "_law_book_is" "_law_book_is" (defArgs s_law_book_is) (defBody s_law_book_is) (defScope s_law_book_is) .none kV33 dc33 pm33 an33 cd33 ct33), sl33⟩) (c33 : PySem.W.codeIn K cd33 "_law_book_is" = true) (k33 : PySem.W.keepIn K (.ref awbook_is) = true)
    (x34 : PySem.W.nsIn K mainGlobals "_law_bent" = some (some (.ref awbent))) (l34 : K.lookup awbent = some ⟨oc34, od34, .func (PySem.W.fnOf "_law_bent" "_law_bent" (defArgs s_law_bent) (defBody s_law_bent) (defScope s_law_bent) .none kV34 dc34 pm34 an34 cd34 ct34), sl34⟩) (c34 : PySem.W.codeIn K cd34 "_law_bent" = true) (k34 : PySem.W.keepIn K (.ref awbent) = true)
    (x35 : PySem.W.nsIn K mainGlobals "law" = some (some (.ref a_law))) (l35 : K.lookup a_law = some ⟨oc35, od35, .func (PySem.W.fnOf "law" "law" (defArgs s_law) (defBody s_law) (defScope s_law) .none kV35 dc35 pm35 an35 cd35 ct35), sl35⟩) (c35 : PySem.W.codeIn K cd35 "law" = true) (k35 : PySem.W.keepIn K (.ref a_law) = true)
    (z0 : PySem.W.nsIn K mainGlobals "len" = some none)
    (z1 : PySem.W.nsIn K mainGlobals "abs" = some none)
    (z2 : PySem.W.nsIn K mainGlobals "all" = some none)
    (z3 : PySem.W.nsIn K mainGlobals "isinstance" = some none)
    (z4 : PySem.W.nsIn K mainGlobals "list" = some none)
    (z5 : PySem.W.nsIn K mainGlobals "range" = some none)
    (z6 : PySem.W.nsIn K mainGlobals "str" = some none)
    (z7 : PySem.W.nsIn K mainGlobals "bool" = some none)
    (z8 : PySem.W.nsIn K mainGlobals "int" = some none)
    (z9 : PySem.W.nsIn K mainGlobals "tuple" = some none)
    (z10 : PySem.W.nsIn K mainGlobals "max" = some none)
    (z11 : PySem.W.nsIn K mainGlobals "min" = some none)
    (z12 : PySem.W.nsIn K mainGlobals "sorted" = some none)
    (y0 : PySem.W.nsIn K mainGlobals "MOST_LETTERS" = some (some (.int 8 ti0)))
    (y1 : PySem.W.nsIn K mainGlobals "MOST_HOUR" = some (some (.int 1000001 ti1)))
    (y2 : PySem.W.nsIn K mainGlobals "MOST_LOOKED" = some (some (.int 1000000 ti2)))
    (y3 : PySem.W.nsIn K mainGlobals "MOST_RULES" = some (some (.int 6 ti3)))
    (y4 : PySem.W.nsIn K mainGlobals "MOST_NUMBER" = some (some (.int 999999 ti4)))
    {ov11 : Value} {oo11 : Option Addr} {fv11 : Array Value} {os11 : Array (Option Value)} (tc11 : cd11 = .ref cb_book_of) (tv11 : K.lookup cb_book_of = some ⟨ov11, oo11, .fields fv11, os11⟩) (tw11 : fv11[11]? = some (Value.ref tb_book_of)) (tt11 : PySem.W.tabIn K "book_of" = some (cb_book_of, tb_book_of)) (th11 : PySem.W.codeHdIn K cb_book_of tb_book_of = true) (tn11 : K.lookup tb_book_of = none) (tr11 : ((recsOf q).find? fun r => r.name == ("book_of" : Str)).isSome = true)
    {ov35 : Value} {oo35 : Option Addr} {fv35 : Array Value} {os35 : Array (Option Value)} (tc35 : cd35 = .ref cb_law) (tv35 : K.lookup cb_law = some ⟨ov35, oo35, .fields fv35, os35⟩) (tw35 : fv35[11]? = some (Value.ref tb_law)) (tt35 : PySem.W.tabIn K "law" = some (cb_law, tb_law)) (th35 : PySem.W.codeHdIn K cb_law tb_law = true) (tn35 : K.lookup tb_law = none) (tr35 : ((recsOf q).find? fun r => r.name == ("law" : Str)).isSome = true) (tne_book_of_law : tb_book_of ≠ tb_law) (tne_law_book_of : tb_law ≠ tb_book_of) :
    ∃ (fd : FuncData) (ts : List (Str × Addr × Addr)), (∀ e ∈ ts, PySem.W.tabIn K e.1 = some e.2 ∧ K.lookup e.2.2 = none ∧ ((recsOf q).find? fun r => r.name == e.1).isSome = true) ∧ (∀ (s : Shared) (v : Value), BindsTo s fd ⟨[v], []⟩ [("_law_script", v)]) ∧ ∀ base : Heap, K.In base → base.Ns mainGlobals mg → BIn base mg → FnOk l.prog w K mg base CX0 8 fa fd ["_law_script"] (spLawT K (ts.map (·.2.2))) := by
  subst tc11
  subst tc35
  have e := hfa.symm.trans (PySem.W.mg_of X G x35)
  cases e
  have F0 := fun_mk (st := s_is_whole) l0 c0 k0
  have b0 := F0.binds (ps := ["thing"]) fun _ _ _ _ _ _ us hl => match us, hl with | [_], _ => rfl
  have F1 := fun_mk (st := s_is_within) l1 c1 k1
  have b1 := F1.binds (ps := ["thing", "low", "high"]) fun _ _ _ _ _ _ us hl => match us, hl with | [_, _, _], _ => rfl
  have F2 := fun_mk (st := s_is_name) l2 c2 k2
  have b2 := F2.binds (ps := ["thing"]) fun _ _ _ _ _ _ us hl => match us, hl with | [_], _ => rfl
  have F3 := fun_mk (st := s_way_named) l3 c3 k3
  have b3 := F3.binds (ps := ["hill", "name"]) fun _ _ _ _ _ _ us hl => match us, hl with | [_, _], _ => rfl
  have F4 := fun_mk (st := s_is_way_name) l4 c4 k4
  have b4 := F4.binds (ps := ["hill", "thing"]) fun _ _ _ _ _ _ us hl => match us, hl with | [_, _], _ => rfl
  have F5 := fun_mk (st := s_is_slope_name) l5 c5 k5
  have b5 := F5.binds (ps := ["hill", "thing"]) fun _ _ _ _ _ _ us hl => match us, hl with | [_, _], _ => rfl
  have F6 := fun_mk (st := s_is_hours) l6 c6 k6
  have b6 := F6.binds (ps := ["a", "b"]) fun _ _ _ _ _ _ us hl => match us, hl with | [_, _], _ => rfl
  have F7 := fun_mk (st := s_begins_with_text) l7 c7 k7
  have b7 := F7.binds (ps := ["thing"]) fun _ _ _ _ _ _ us hl => match us, hl with | [_], _ => rfl
  have F8 := fun_mk (st := s_is_rule) l8 c8 k8
  have b8 := F8.binds (ps := ["hill", "thing"]) fun _ _ _ _ _ _ us hl => match us, hl with | [_, _], _ => rfl
  have F9 := fun_mk (st := s_is_rules) l9 c9 k9
  have b9 := F9.binds (ps := ["hill", "thing"]) fun _ _ _ _ _ _ us hl => match us, hl with | [_, _], _ => rfl
  have F10 := fun_mk (st := s_is_page) l10 c10 k10
  have b10 := F10.binds (ps := ["hill", "thing"]) fun _ _ _ _ _ _ us hl => match us, hl with | [_, _], _ => rfl
  have F11 := fun_mk (st := s_book_of) l11 c11 k11
  have b11 := F11.binds (ps := ["pages"]) fun _ _ _ _ _ _ us hl => match us, hl with | [_], _ => rfl
  have F12 := fun_mk (st := s_is_book) l12 c12 k12
  have b12 := F12.binds (ps := ["hill", "thing"]) fun _ _ _ _ _ _ us hl => match us, hl with | [_, _], _ => rfl
  have F13 := fun_mk (st := s_law_bag) l13 c13 k13
  have b13 := F13.binds (ps := ["_law_script"]) fun _ _ _ _ _ _ us hl => match us, hl with | [_], _ => rfl
  have F14 := fun_mk (st := s_law_draw) l14 c14 k14
  have b14 := F14.binds (ps := ["_law_bag_here", "_law_many"]) fun _ _ _ _ _ _ us hl => match us, hl with | [_, _], _ => rfl
  have F15 := fun_mk (st := s_law_any) l15 c15 k15
  have b15 := F15.binds (ps := ["_law_bag_here", "_law_some"]) fun _ _ _ _ _ _ us hl => match us, hl with | [_, _], _ => rfl
  have F16 := fun_mk (st := s_law_label) l16 c16 k16
  have b16 := F16.binds (ps := ["_law_bag_here"]) fun _ _ _ _ _ _ us hl => match us, hl with | [_], _ => rfl
  have F17 := fun_mk (st := s_law_labels) l17 c17 k17
  have b17 := F17.binds (ps := ["_law_bag_here", "_law_many"]) fun _ _ _ _ _ _ us hl => match us, hl with | [_, _], _ => rfl
  have F18 := fun_mk (st := s_law_pace) l18 c18 k18
  have b18 := F18.binds (ps := ["_law_bag_here", "_law_scale"]) fun _ _ _ _ _ _ us hl => match us, hl with | [_, _], _ => rfl
  have F19 := fun_mk (st := s_law_hill) l19 c19 k19
  have b19 := F19.binds (ps := ["_law_bag_here"]) fun _ _ _ _ _ _ us hl => match us, hl with | [_], _ => rfl
  have F20 := fun_mk (st := s_law_moment) l20 c20 k20
  have b20 := F20.binds (ps := ["_law_bag_here", "_law_hill_here"]) fun _ _ _ _ _ _ us hl => match us, hl with | [_, _], _ => rfl
  have F21 := fun_mk (st := s_law_rule) l21 c21 k21
  have b21 := F21.binds (ps := ["_law_bag_here", "_law_hill_here"]) fun _ _ _ _ _ _ us hl => match us, hl with | [_, _], _ => rfl
  have F22 := fun_mk (st := s_law_rules) l22 c22 k22
  have b22 := F22.binds (ps := ["_law_bag_here", "_law_hill_here"]) fun _ _ _ _ _ _ us hl => match us, hl with | [_, _], _ => rfl
  have F23 := fun_mk (st := s_law_slopes) l23 c23 k23
  have b23 := F23.binds (ps := ["_law_hill_here"]) fun _ _ _ _ _ _ us hl => match us, hl with | [_], _ => rfl
  have F24 := fun_mk (st := s_law_page) l24 c24 k24
  have b24 := F24.binds (ps := ["_law_bag_here", "_law_hill_here", "_law_number"]) fun _ _ _ _ _ _ us hl => match us, hl with | [_, _, _], _ => rfl
  have F25 := fun_mk (st := s_law_pages) l25 c25 k25
  have b25 := F25.binds (ps := ["_law_bag_here", "_law_hill_here", "_law_many"]) fun _ _ _ _ _ _ us hl => match us, hl with | [_, _, _], _ => rfl
  have F26 := fun_mk (st := s_law_name_is) l26 c26 k26
  have b26 := F26.binds (ps := ["_law_thing"]) fun _ _ _ _ _ _ us hl => match us, hl with | [_], _ => rfl
  have F27 := fun_mk (st := s_law_whole_is) l27 c27 k27
  have b27 := F27.binds (ps := ["_law_thing", "_law_low", "_law_high"]) fun _ _ _ _ _ _ us hl => match us, hl with | [_, _, _], _ => rfl
  have F28 := fun_mk (st := s_law_of_way) l28 c28 k28
  have b28 := F28.binds (ps := ["_law_hill_here", "_law_thing"]) fun _ _ _ _ _ _ us hl => match us, hl with | [_, _], _ => rfl
  have F29 := fun_mk (st := s_law_number_is) l29 c29 k29
  have b29 := F29.binds (ps := ["_law_thing"]) fun _ _ _ _ _ _ us hl => match us, hl with | [_], _ => rfl
  have F30 := fun_mk (st := s_law_rule_is) l30 c30 k30
  have b30 := F30.binds (ps := ["_law_hill_here", "_law_thing"]) fun _ _ _ _ _ _ us hl => match us, hl with | [_, _], _ => rfl
  have F31 := fun_mk (st := s_law_rules_is) l31 c31 k31
  have b31 := F31.binds (ps := ["_law_hill_here", "_law_thing"]) fun _ _ _ _ _ _ us hl => match us, hl with | [_, _], _ => rfl
  have F32 := fun_mk (st := s_law_page_is) l32 c32 k32
  have b32 := F32.binds (ps := ["_law_hill_here", "_law_thing"]) fun _ _ _ _ _ _ us hl => match us, hl with | [_, _], _ => rfl
  have F33 := fun_mk (st := s_law_book_is) l33 c33 k33
  have b33 := F33.binds (ps := ["_law_hill_here", "_law_thing"]) fun _ _ _ _ _ _ us hl => match us, hl with | [_, _], _ => rfl
  have F34 := fun_mk (st := s_law_bent) l34 c34 k34
  have b34 := F34.binds (ps := ["_law_bag_here", "_law_hill_here", "_law_book"]) fun _ _ _ _ _ _ us hl => match us, hl with | [_, _, _], _ => rfl
  have F35 := fun_mk (st := s_law) l35 c35 k35
  have b35 := F35.binds (ps := ["_law_script"]) fun _ _ _ _ _ _ us hl => match us, hl with | [_], _ => rfl
  have T : Txt K mg _ _ _ _ _ _ _ _ _ _ _ _ _ _ _ _ _ _ _ _ _ _ _ _ _ _ _ _ _ _ _ _ _ _ _ _ cb_book_of tb_book_of cb_law tb_law _ _ _ _ _ _ _ _ _ _ _ _ _ _ _ _ _ _ _ _ _ _ _ _ _ _ _ _ _ _ _ _ _ _ _ _ := ⟨F0, PySem.W.mg_of X G x0, b0, F1, PySem.W.mg_of X G x1, b1, F2, PySem.W.mg_of X G x2, b2, F3, PySem.W.mg_of X G x3, b3, F4, PySem.W.mg_of X G x4, b4, F5, PySem.W.mg_of X G x5, b5, F6, PySem.W.mg_of X G x6, b6, F7, PySem.W.mg_of X G x7, b7, F8, PySem.W.mg_of X G x8, b8, F9, PySem.W.mg_of X G x9, b9, F10, PySem.W.mg_of X G x10, b10, F11, PySem.W.mg_of X G x11, b11, F12, PySem.W.mg_of X G x12, b12, F13, PySem.W.mg_of X G x13, b13, F14, PySem.W.mg_of X G x14, b14, F15, PySem.W.mg_of X G x15, b15, F16, PySem.W.mg_of X G x16, b16, F17, PySem.W.mg_of X G x17, b17, F18, PySem.W.mg_of X G x18, b18, F19, PySem.W.mg_of X G x19, b19, F20, PySem.W.mg_of X G x20, b20, F21, PySem.W.mg_of X G x21, b21, F22, PySem.W.mg_of X G x22, b22, F23, PySem.W.mg_of X G x23, b23, F24, PySem.W.mg_of X G x24, b24, F25, PySem.W.mg_of X G x25, b25, F26, PySem.W.mg_of X G x26, b26, F27, PySem.W.mg_of X G x27, b27, F28, PySem.W.mg_of X G x28, b28, F29, PySem.W.mg_of X G x29, b29, F30, PySem.W.mg_of X G x30, b30, F31, PySem.W.mg_of X G x31, b31, F32, PySem.W.mg_of X G x32, b32, F33, PySem.W.mg_of X G x33, b33, F34, PySem.W.mg_of X G x34, b34, F35, PySem.W.mg_of X G x35, b35, PySem.W.mg_none_of X G z0, PySem.W.mg_none_of X G z1, PySem.W.mg_none_of X G z2, PySem.W.mg_none_of X G z3, PySem.W.mg_none_of X G z4, PySem.W.mg_none_of X G z5, PySem.W.mg_none_of X G z6, PySem.W.mg_none_of X G z7, PySem.W.mg_none_of X G z8, PySem.W.mg_none_of X G z9, PySem.W.mg_none_of X G z10, PySem.W.mg_none_of X G z11, PySem.W.mg_none_of X G z12, ⟨_, PySem.W.mg_of X G y0⟩, ⟨_, PySem.W.mg_of X G y1⟩, ⟨_, PySem.W.mg_of X G y2⟩, ⟨_, PySem.W.mg_of X G y3⟩, ⟨_, PySem.W.mg_of X G y4⟩, ⟨⟨_, _, _, _, _, _, _, _, rfl, l11, c11⟩, th11⟩, ⟨⟨_, _, _, _, _, _, _, _, rfl, l35, c35⟩, th35⟩, tne_book_of_law, tne_law_book_of⟩
  refine ⟨PySem.W.fnOf "law" "law" (defArgs s_law) (defBody s_law) (defScope s_law) .none kV35 dc35 pm35 an35 (.ref cb_law) ct35, [("book_of", cb_book_of, tb_book_of), ("law", cb_law, tb_law)], ?_, fun s v => .of_eq rfl, fun base kb _ hB => ?_⟩
  · intro e he
    simp only [List.mem_cons, List.not_mem_nil, or_false] at he
    rcases he with rfl | rfl
    · exact ⟨tt11, tn11, tr11⟩
    · exact ⟨tt35, tn35, tr35⟩
  show FnOk _ _ _ _ _ _ _ _ _ _ (spLawT K [tb_book_of, tb_law])
  have G_law_draw := draw_pure (φ := famT tb_book_of tb_law K) (ok_draw (P := l.prog) (w := w) (base := base) T)
  have G_law_bag := ok_bag (P := l.prog) (w := w) (base := base) T
  have G_is_whole := ok_is_whole (P := l.prog) (w := w) (base := base) T 
  have G_is_within := ok_is_within (P := l.prog) (w := w) (base := base) T G_is_whole
  have G_is_name := ok_is_name (P := l.prog) (w := w) (base := base) T 
  have G_way_named := ok_way_named (P := l.prog) (w := w) (base := base) T 
  have G_is_way_name := ok_is_way_name (P := l.prog) (w := w) (base := base) T G_is_name G_way_named
  have G_is_slope_name := ok_is_slope_name (P := l.prog) (w := w) (base := base) T G_is_way_name G_way_named
  have G_is_hours := ok_is_hours (P := l.prog) (w := w) (base := base) T G_is_within
  have G_begins_with_text := ok_begins_with_text (P := l.prog) (w := w) (base := base) T 
  have G_is_rule := ok_is_rule (P := l.prog) (w := w) (base := base) T G_begins_with_text G_is_hours G_is_name G_is_whole G_is_within G_is_way_name
  have G_is_rules := ok_is_rules (P := l.prog) (w := w) (base := base) T G_is_rule
  have G_is_page := ok_is_page (P := l.prog) (w := w) (base := base) T G_begins_with_text G_is_within G_is_name G_is_whole G_is_slope_name G_is_way_name G_is_rules
  have G_book_of := ok_book_of (P := l.prog) (w := w) (base := base) T kb hB 
  have G_is_book := ok_is_book (P := l.prog) (w := w) (base := base) T G_book_of G_is_page
  have G_law_any := ok_law_any (P := l.prog) (w := w) (base := base) T G_law_draw
  have G_law_label := ok_law_label (P := l.prog) (w := w) (base := base) T G_law_draw
  have G_law_labels := ok_law_labels (P := l.prog) (w := w) (base := base) T G_law_draw G_law_label
  have G_law_pace := ok_law_pace (P := l.prog) (w := w) (base := base) T G_law_draw
  have G_law_hill := ok_law_hill (P := l.prog) (w := w) (base := base) T G_law_labels G_law_draw G_law_any G_law_pace
  have G_law_moment := ok_law_moment (P := l.prog) (w := w) (base := base) T G_law_draw
  have G_law_rule := ok_law_rule (P := l.prog) (w := w) (base := base) T G_law_draw G_law_moment G_law_any
  have G_law_rules := ok_law_rules (P := l.prog) (w := w) (base := base) T G_law_rule G_law_draw
  have G_law_slopes := ok_law_slopes (P := l.prog) (w := w) (base := base) T 
  have G_law_page := ok_law_page (P := l.prog) (w := w) (base := base) T G_law_draw G_law_moment G_law_slopes G_law_any G_law_rules
  have G_law_pages := ok_law_pages (P := l.prog) (w := w) (base := base) T G_law_any G_law_page G_law_draw
  have G_law_name_is := ok_law_name_is (P := l.prog) (w := w) (base := base) T 
  have G_law_whole_is := ok_law_whole_is (P := l.prog) (w := w) (base := base) T 
  have G_law_of_way := ok_law_of_way (P := l.prog) (w := w) (base := base) T 
  have G_law_number_is := ok_law_number_is (P := l.prog) (w := w) (base := base) T 
  have G_law_rule_is := ok_law_rule_is (P := l.prog) (w := w) (base := base) T G_law_whole_is G_law_name_is G_law_number_is G_law_of_way
  have G_law_rules_is := ok_law_rules_is (P := l.prog) (w := w) (base := base) T G_law_rule_is
  have G_law_page_is := ok_law_page_is (P := l.prog) (w := w) (base := base) T G_law_of_way G_law_rules_is G_law_whole_is G_law_name_is G_law_number_is G_law_slopes
  have G_law_book_is := ok_law_book_is (P := l.prog) (w := w) (base := base) T G_law_page_is
  have G_law_bent := ok_law_bent (P := l.prog) (w := w) (base := base) T G_law_draw G_law_any
  exact ok_law T kb hB G_law_bag G_law_hill G_law_pages G_law_draw G_is_book G_law_bent G_law_book_is law_true
theorem walk {l : PySem.W.OpenLaw} {q : Program} {loose : List Str} {XP : (Str → Option Value) → Heap → Prop} {YP : World → Heap → Prop} {d : DefRec} {K : Params → PySem.W.Frag} (hn : l.most = some 63) (hdf : d.params.defaults = [])
    (hY : ∀ (w : World) (h : Heap), YP w h → (K w.params).In h)
    (F : ∀ (w : World) (mg : Str → Option Value) (fa : Addr) (h : Heap), (K w.params).In h → h.Ns mainGlobals mg → mg d.name = some (.ref fa) →
      ∃ (fd : FuncData) (ts : List (Str × Addr × Addr)), (∀ e ∈ ts, PySem.W.tabIn (K w.params) e.1 = some e.2 ∧ (K w.params).lookup e.2.2 = none ∧ ((recsOf q).find? fun r => r.name == e.1).isSome = true) ∧ (∀ (s : Shared) (u : Value), BindsTo s fd ⟨[u], []⟩ [("_law_script", u)]) ∧
        ∀ base : Heap, (K w.params).In base → base.Ns mainGlobals mg → BIn base mg → FnOk l.prog w (K w.params) mg base CX0 8 fa fd ["_law_script"] (spLawT (K w.params) (ts.map (·.2.2)))) :
    PySem.W.WalkO q loose XP YP l.row.toRowW d [] (fun f vs => PySem.call f vs) :=
  L2.walk_tabs (n := 63) (k := 8) (x := "_law_script") (CX := fun _ => CX0) (sp := fun w tbs => spLawT (K w.params) tbs) hn (by decide) hdf ⟨rfl, by decide, by decide, rfl⟩ hY F (fun _ _ a ns tbs hl ht hS => ⟨a, ns, rfl, hS, hl, ht, fun _ => rfl⟩) fun _ _ _ _ _ z => z
end K08
end
def PySem.W.Fast.tw9507752787723228308:=0
def PySem.W.Fast.tw16223745149141318787:=0
def PySem.W.Fast.tw17160601644632566553:=0
def PySem.W.Fast.tw9984950301821124682:=0
def PySem.W.Fast.tw3388911597914295437:=0
def PySem.W.Fast.tw4932384729034344200:=0
def PySem.W.Fast.tw9249361131346261694:=0
def PySem.W.Fast.tw3168974519160472803:=0
def PySem.W.Fast.tw4554149977748362965:=0
def PySem.W.Fast.tw2501830612943333770:=0
open PySem PySem.W PyProof.Rows
set_option maxRecDepth 100000 in
set_option maxHeartbeats 0 in
theorem PySem.Challenge.cw_homeslopes_k08_books_of_anything_holds : PySem.Challenge.rw_homeslopes_k08_books_of_anything.Holds := by
  w_on; o_law; k_head; (case hw => w_witness2)
  k_fill
  refine K08.walk (l := PySem.Challenge.rw_homeslopes_k08_books_of_anything) rfl rfl (fun w h Y => PySem.W.km_in_of Y) ?F
  case F =>
    intro w mg fa h KX G hmg
    refine' K08.all_mk KX G hmg ?x0 ?l0 ?c0 ?k0 ?x1 ?l1 ?c1 ?k1 ?x2 ?l2 ?c2 ?k2 ?x3 ?l3 ?c3 ?k3 ?x4 ?l4 ?c4 ?k4 ?x5 ?l5 ?c5 ?k5 ?x6 ?l6 ?c6 ?k6 ?x7 ?l7 ?c7 ?k7 ?x8 ?l8 ?c8 ?k8 ?x9 ?l9 ?c9 ?k9 ?x10 ?l10 ?c10 ?k10 ?x11 ?l11 ?c11 ?k11 ?x12 ?l12 ?c12 ?k12 ?x13 ?l13 ?c13 ?k13 ?x14 ?l14 ?c14 ?k14 ?x15 ?l15 ?c15 ?k15 ?x16 ?l16 ?c16 ?k16 ?x17 ?l17 ?c17 ?k17 ?x18 ?l18 ?c18 ?k18 ?x19 ?l19 ?c19 ?k19 ?x20 ?l20 ?c20 ?k20 ?x21 ?l21 ?c21 ?k21 ?x22 ?l22 ?c22 ?k22 ?x23 ?l23 ?c23 ?k23 ?x24 ?l24 ?c24 ?k24 ?x25 ?l25 ?c25 ?k25 ?x26 ?l26 ?c26 ?k26 ?x27 ?l27 ?c27 ?k27 ?x28 ?l28 ?c28 ?k28 ?x29 ?l29 ?c29 ?k29 ?x30 ?l30 ?c30 ?k30 ?x31 ?l31 ?c31 ?k31 ?x32 ?l32 ?c32 ?k32 ?x33 ?l33 ?c33 ?k33 ?x34 ?l34 ?c34 ?k34 ?x35 ?l35 ?c35 ?k35 ?z0 ?z1 ?z2 ?z3 ?z4 ?z5 ?z6 ?z7 ?z8 ?z9 ?z10 ?z11 ?z12 ?y0 ?y1 ?y2 ?y3 ?y4  ?tc11 ?tv11 ?tw11 ?tt11 ?th11 ?tn11 ?tr11 ?tc35 ?tv35 ?tw35 ?tt35 ?th35 ?tn35 ?tr35 ?tne_book_of_law ?tne_law_book_of
    (case x0 => k_is); (case l0 => k_is); (case c0 => k_is); (case k0 => k_is)
    (case x1 => k_is); (case l1 => k_is); (case c1 => k_is); (case k1 => k_is)
    (case x2 => k_is); (case l2 => k_is); (case c2 => k_is); (case k2 => k_is)
    (case x3 => k_is); (case l3 => k_is); (case c3 => k_is); (case k3 => k_is)
    (case x4 => k_is); (case l4 => k_is); (case c4 => k_is); (case k4 => k_is)
    (case x5 => k_is); (case l5 => k_is); (case c5 => k_is); (case k5 => k_is)
    (case x6 => k_is); (case l6 => k_is); (case c6 => k_is); (case k6 => k_is)
    (case x7 => k_is); (case l7 => k_is); (case c7 => k_is); (case k7 => k_is)
    (case x8 => k_is); (case l8 => k_is); (case c8 => k_is); (case k8 => k_is)
    (case x9 => k_is); (case l9 => k_is); (case c9 => k_is); (case k9 => k_is)
    (case x10 => k_is); (case l10 => k_is); (case c10 => k_is); (case k10 => k_is)
    (case x11 => k_is); (case l11 => k_is); (case c11 => k_is); (case k11 => k_is)
    (case x12 => k_is); (case l12 => k_is); (case c12 => k_is); (case k12 => k_is)
    (case x13 => k_is); (case l13 => k_is); (case c13 => k_is); (case k13 => k_is)
    (case x14 => k_is); (case l14 => k_is); (case c14 => k_is); (case k14 => k_is)
    (case x15 => k_is); (case l15 => k_is); (case c15 => k_is); (case k15 => k_is)
    (case x16 => k_is); (case l16 => k_is); (case c16 => k_is); (case k16 => k_is)
    (case x17 => k_is); (case l17 => k_is); (case c17 => k_is); (case k17 => k_is)
    (case x18 => k_is); (case l18 => k_is); (case c18 => k_is); (case k18 => k_is)
    (case x19 => k_is); (case l19 => k_is); (case c19 => k_is); (case k19 => k_is)
    (case x20 => k_is); (case l20 => k_is); (case c20 => k_is); (case k20 => k_is)
    (case x21 => k_is); (case l21 => k_is); (case c21 => k_is); (case k21 => k_is)
    (case x22 => k_is); (case l22 => k_is); (case c22 => k_is); (case k22 => k_is)
    (case x23 => k_is); (case l23 => k_is); (case c23 => k_is); (case k23 => k_is)
    (case x24 => k_is); (case l24 => k_is); (case c24 => k_is); (case k24 => k_is)
    (case x25 => k_is); (case l25 => k_is); (case c25 => k_is); (case k25 => k_is)
    (case x26 => k_is); (case l26 => k_is); (case c26 => k_is); (case k26 => k_is)
    (case x27 => k_is); (case l27 => k_is); (case c27 => k_is); (case k27 => k_is)
    (case x28 => k_is); (case l28 => k_is); (case c28 => k_is); (case k28 => k_is)
    (case x29 => k_is); (case l29 => k_is); (case c29 => k_is); (case k29 => k_is)
    (case x30 => k_is); (case l30 => k_is); (case c30 => k_is); (case k30 => k_is)
    (case x31 => k_is); (case l31 => k_is); (case c31 => k_is); (case k31 => k_is)
    (case x32 => k_is); (case l32 => k_is); (case c32 => k_is); (case k32 => k_is)
    (case x33 => k_is); (case l33 => k_is); (case c33 => k_is); (case k33 => k_is)
    (case x34 => k_is); (case l34 => k_is); (case c34 => k_is); (case k34 => k_is)
    (case x35 => k_is); (case l35 => k_is); (case c35 => k_is); (case k35 => k_is)
    (case z0 => k_is)
    (case z1 => k_is)
    (case z2 => k_is)
    (case z3 => k_is)
    (case z4 => k_is)
    (case z5 => k_is)
    (case z6 => k_is)
    (case z7 => k_is)
    (case z8 => k_is)
    (case z9 => k_is)
    (case z10 => k_is)
    (case z11 => k_is)
    (case z12 => k_is)
    (case y0 => k_is)
    (case y1 => k_is)
    (case y2 => k_is)
    (case y3 => k_is)
    (case y4 => k_is)
    (case tc11 => rfl); (case tv11 => k_is); (case tw11 => rfl); (case tt11 => kernel_rfl); (case th11 => kernel_rfl); (case tn11 => kernel_rfl); (case tr11 => rfl)
    (case tc35 => rfl); (case tv35 => k_is); (case tw35 => rfl); (case tt35 => kernel_rfl); (case th35 => kernel_rfl); (case tn35 => kernel_rfl); (case tr35 => rfl)
    (case tne_book_of_law => decide)
    (case tne_law_book_of => decide)
